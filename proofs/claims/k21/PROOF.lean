import PyProof.Rows.All
import Wide.All
import OpenK.AllK
import Wide.FinOn
import Lean
import PyProof.EqAt
import PyProof.EqKinds
import PyProof.TupleCall
import PySem.Challenge.RW_shadowpost_k21_corners_of_things
set_option Elab.async false
set_option linter.all false
set_option maxRecDepth 100000
set_option maxHeartbeats 4000000
namespace L2
open PySem PySem.Spec PyProof.Rows
abbrev Key:=Sum Int Str
def Fe:Key→Value→Bool
 | .inl k,v=>Value.isInt k v
 | .inr x,v=>Value.isStrOf x v
def Xk(w:World):Key→Int
 | .inl k=>hashInt k
 | .inr x=>hashStr w x
theorem Ŏ:∀{k:Key} {v:Value},Fe k v=true→(∃i t,k=Sum.inl i∧v=Value.int i t)∨(∃x t,k=Sum.inr x∧v=Value.str x t)
 | .inl i,v,h=>by
   obtain⟨t,e⟩:=Value.isInt_shape (k:=i) (v:=v) h
   exact .inl ⟨i,t,rfl,e⟩
 | .inr x,v,h=>by
   obtain⟨t,e⟩:=Value.isStrOf_shape (x:=x) (v:=v) h
   exact .inr ⟨x,t,rfl,e⟩
theorem GC(a b:Int):decide ((Sum.inl a:Key)=Sum.inl b)=(a== b):=by
 by_cases e:a=b
 ·subst e;simp
 ·have h:¬(Sum.inl a:Key)=Sum.inl b:=fun q=>e (Sum.inl.inj q)
  rw[decide_eq_false h]
  exact(beq_eq_false_iff_ne.mpr e).symm
theorem GD(a b:Str):decide ((Sum.inr a:Key)=Sum.inr b)=decide (a=b):=by
 by_cases e:a=b
 ·subst e;simp
 ·have h:¬(Sum.inr a:Key)=Sum.inr b:=fun q=>e (Sum.inr.inj q)
  rw[decide_eq_false h,decide_eq_false e]
theorem GF(a:Int)(b:Str):decide ((Sum.inl a:Key)=Sum.inr b)=false:=decide_eq_false (fun q=>nomatch q)
theorem GJ(a:Str)(b:Int):decide ((Sum.inr a:Key)=Sum.inl b)=false:=decide_eq_false (fun q=>nomatch q)
def mR(prog:Program)(w:World):PySem.KeyKind prog w Key where
 is:=Fe
 hash:=Xk w
 inj:=fun v a b ha hb=>by
  rcases Ŏ ha with⟨i,t,rfl,rfl⟩|⟨x,t,rfl,rfl⟩
  ·rcases Ŏ hb with⟨j,u,rfl,e⟩|⟨y,u,rfl,e⟩
   ·injection e with e1 _;rw[e1]
   ·exact nomatch e
  ·rcases Ŏ hb with⟨j,u,rfl,e⟩|⟨y,u,rfl,e⟩
   ·exact nomatch e
   ·injection e with e1 _;rw[e1]
 byValue:=fun k v h=>by
  rcases Ŏ h with⟨i,t,rfl,rfl⟩|⟨x,t,rfl,rfl⟩<;>rfl
 pyHash:=fun hv h=>by
  rcases Ŏ hv with⟨i,t,rfl,rfl⟩|⟨x,t,rfl,rfl⟩
  ·exact wpAny_pyHash_int h
  ·exact wpAny_pyHash_str h
 eqBool:=fun hu hv h=>by
  rcases Ŏ hu with⟨i,t,rfl,rfl⟩|⟨x,t,rfl,rfl⟩
  ·rcases Ŏ hv with⟨j,u,rfl,rfl⟩|⟨y,u,rfl,rfl⟩
   ·rw[GC] at h;exact wpAny_eqBool_int h
   ·rw[GF] at h;exact SeqAt.EqAt.int_str i t y u _ _ _ _ h
  ·rcases Ŏ hv with⟨j,u,rfl,rfl⟩|⟨y,u,rfl,rfl⟩
   ·rw[GJ] at h;exact SeqAt.EqAt.str_int x t j u _ _ _ _ h
   ·rw[GD] at h;exact wpAny_eqBool_str h
 «strs» := fun k x t v h=>by
   rcases Ŏ h with⟨i,u,rfl,e⟩|⟨y,u,rfl,e⟩
   ·exact nomatch e
   ·injection e with e1 _
    subst e1
    cases v<;>rfl
end L2
namespace L2
open PySem PySem.Spec PyProof.Rows
inductive V where
 |non|bl (b:Bool)|int (i:Int)|str (x:Str)|Fg (b:Array UInt8)|flt (b:UInt64)|ref (a:Addr)|ty (n:String)
 deriving DecidableEq
def RelV:V→Value→Prop
 | .non,u=>u=Value.none
 | .bl b,u=>u=Value.bool b
 | .int i,u=>∃t,u=Value.int i t
 | .str x,u=>∃t,u=Value.str x t
 | .Fg b,u=>∃t,u=Value.bytes b t
 | .flt b,u=>∃t,u=Value.float b t
 | .ref a,u=>u=Value.ref a
 | .ty n,u=>u=Value.type n
abbrev Vals:List V→List Value→Prop:=Paired RelV
theorem Vals.length{xs:List V}{us:List Value}(r:Vals xs us):xs.length=us.length:=Paired.length r
theorem Vals.get:∀{xs:List V} {us:List Value} {i:Nat} {x:V},Vals xs us→xs[i]?=some x→∃u,us[i]?=some u∧RelV x u
 |_,_,_,_,.nil,e=>by simp at e
 |_,_,0,_,.cons r _,e=>by simp at e;subst e;exact⟨_,rfl,r⟩
 |_,_,i+1,x,.cons _ t,e=>by
  obtain⟨u,h1,h2⟩:=Vals.get (i:=i) (x:=x) t (by simpa using e)
  exact⟨u,by simpa using h1,h2⟩
theorem Vals.set{x:V}{u:Value}(r:RelV x u):∀{xs:List V} {us:List Value} (i:Nat),Vals xs us→Vals (xs.set i x) (us.set i u)
 |_,_,_,.nil=>.nil
 |_,_,0,.cons _ t=>.cons r t
 |_,_,i+1,.cons q t=>.cons q (Vals.set r i t)
theorem Vals.append:∀{xs ys:List V} {us ws:List Value},Vals xs us→Vals ys ws→Vals (xs++ys) (us++ws)
 |_,_,_,_,.nil,s=>s
 |_,_,_,_,.cons r t,s=>.cons r (Vals.append t s)
theorem Vals.take:∀{xs:List V} {us:List Value} (n:Nat),Vals xs us→Vals (xs.take n) (us.take n)
 |_,_,0,_=>.nil
 |_,_,_+1,.nil=>.nil
 |_,_,n+1,.cons r t=>.cons r (Vals.take n t)
theorem Vals.drop:∀{xs:List V} {us:List Value} (n:Nat),Vals xs us→Vals (xs.drop n) (us.drop n)
 |_,_,0,r=>r
 |_,_,_+1,.nil=>.nil
 |_,_,n+1,.cons _ t=>Vals.drop n t
def kE:Option V→Option Value→Prop
 |some v,some u=>RelV v u
 |none,none=>True
 |_,_=>False
def KV{κ:Type}:List (κ×V)→List (κ×Value)→Prop:=Paired fun(p:κ×V) (q:κ×Value)=>p.1=q.1∧RelV p.2 q.2
def kV:Key→V
 | .inl i=>.int i
 | .inr x=>.str x
inductive HO where
 /-- a list -/
 |lst (xs:List V)
 /-- a tuple (never changes) -/
 |tup (xs:List V)
 /-- a dict whose keys are ints and texts;one whose keys are tuples of ints and texts (the empty one is both) -/
 |dK (kvs:List (Key×V))|dT (kvs:List (List Key×V))
 /-- a set of ints:its members,its size -/
 |set (S:Int→Bool) (n:Nat)
 /-- an instance of the class at C,its dict at dx,its attributes -/
 |ins (C dx:Addr) (fs:List (Str×V))
 /-- the dict of the instance at x -/
 |own (x:Addr)
 /-- the dict of an exception -/
 |xd (fs:List (Str×V))
 /-- a bound method,f of x -/
 |met (f x:Addr)
 /-- a range object lo,lo+1,.. below hi -/
 |rng (lo hi:Int)
 /-- a thing that is known to the object (the script;a dict while a loop walks it):read,never written while it is so -/
 |ao (o:Obj) (u:HO)
 /-- a code object's table -/
 |kI (ps:Array Value)
 /-- any other thing,by what is true of its one object (a def of one's own:ZcE a S n:=HO.ext fun h=>..) -/
 |ext (φ:Heap→Prop)
abbrev Hp:=Addr→Option HO
def upd(H:Hp)(a:Addr)(o:HO):Hp:=fun b=>if b=a then some o else H b
theorem ď{H:Hp}{a:Addr}{o:HO}:upd H a o a=some o:=by unfold upd;rw[if_pos rfl]
theorem č{H:Hp}{a b:Addr}{o:HO}(h:b≠a):upd H a o b=H b:=by unfold upd;rw[if_neg h]
theorem ĵ{H:Hp}{a b:Addr}{o:HO}(h:H a=some o)(h':H b=none):a≠b:=by
 intro e;subst e;rw[h] at h';cases h'
section
variable(P:Program)(w:World)
def Ś(H:Hp)(h:Heap)(a:Addr):HO→Prop
 | .lst xs=>xs.length≤sizeLine∧∃(its:List Value) (n:Nat),Vals xs its∧h.get? a=some {cls:=.type "list",data:=.seq its.toArray n}
 | .tup xs=>xs.length≤sizeLine∧∃its:List Value,Vals xs its∧IsTup h a its.toArray
 | .dK kvs=>kvs.length≤sizeLine∧(a== sysModules)=false∧∃vs,KV kvs vs∧h.DictOf (mR P w) a vs
 | .dT kvs=>kvs.length≤sizeLine∧(a== sysModules)=false∧∃xs:List (List Key×Addr×Value),
     Paired (fun(p:List Key×V) (q:List Key×Addr×Value)=>p.1=q.1∧H q.2.1=some (.tup (p.1.map kV))∧RelV p.2 q.2.2) kvs xs∧
     ∃o es ep,h.get? a=some o∧o.ExactDict∧o.data=.dict es ep∧es.toList=xs.map (entryOfKey (tupleKind (mR P w)))∧(xs.map (·.1)).Nodup
 | .set S n=>h.SetOf (intKind P w) a S n
 | .ins C dx fs=>H dx=some (.own a)∧fs.length≤1000∧dx≠a∧h.get? a=some (PySem.W.instObj C dx)∧
     ∃mA,h.Ns1 dx mA∧(∀f,kE (fs.lookup f) (mA f))∧PySem.Within mA (fs.map (·.1))
 | .own _=>∃o,h.get? a=some o
 | .xd fs=>∃mA,h.Ns1 a mA∧∀f,kE (fs.lookup f) (mA f)
 | .rng lo hi=>∃t u v,h.get? a=some {cls:=.type "range",data:=.fields #[.int lo t,.int hi u,.int 1 v]}
 | .ao o u=>h.get? a=some o∧Ś H h a u
 | .kI ps=>h.get? a=some {cls:=.none,data:=.fields ps}
 | .met f x=>h.get? a=some (PySem.W.methodObj (.ref f) (.ref x))
 | .ext φ=>φ h∧(∃o,h.get? a=some o)∧∀h1 h2:Heap,φ h1→(∀o,h1.get? a=some o→h2.get? a=some o)→φ h2
def dR(H:Hp)(h:Heap):Prop:=∀a o,H a=some o→Ś P w H h a o
end
section
variable{P:Program}{w:World}{H H':Hp}{h h':Heap}{a:Addr}{o:HO}
theorem Ś.lt(x:Ś P w H h a o):a<h.objs.size:=by
 cases o with
 |lst xs=>obtain⟨_,_,_,_,e⟩:=x;exact Heap.lt_size e
 |tup xs=>obtain⟨_,_,_,p⟩:=x;exact p.lt
 |dK kvs=>obtain⟨_,_,_,_,o,_,_,e,_⟩:=x;exact Heap.lt_size e
 |dT kvs=>obtain⟨_,_,_,_,o,_,_,e,_⟩:=x;exact Heap.lt_size e
 |set S n=>obtain⟨o,_,_,_,e,_⟩:=x;exact Heap.lt_size e
 |ins C dx fs=>obtain⟨_,_,_,e,_⟩:=x;exact Heap.lt_size e
 |own y=>obtain⟨_,e⟩:=x;exact Heap.lt_size e
 |xd fs=>obtain⟨_,⟨_,_,_,e,_⟩,_⟩:=x;exact Heap.lt_size e
 |rng lo hi=>obtain⟨_,_,_,e⟩:=x;exact Heap.lt_size e
 |ao ob u=>obtain⟨e,_⟩:=x;exact Heap.lt_size e
 |kI ps=>exact Heap.lt_size (show h.get? a=some _ from x)
 |met f y=>exact Heap.lt_size (show h.get? a=some _ from x)
 |ext φ=>obtain⟨_,⟨_,e⟩,_⟩:=x;exact Heap.lt_size e
theorem Paired.Mg{α β:Type}{F G:α→β→Prop}:∀{l₁:List α} {l₂:List β},Paired F l₁ l₂→(∀a b,F a b→G a b)→Paired G l₁ l₂
 |_,_,.nil,_=>.nil
 |_,_,.cons r t,f=>.cons (f _ _ r) (Paired.Mg t f)
theorem Ś.stay(x:Ś P w H h a o)(k:∀b u,(b=a∨H b=some (.own a))→h.get? b=some u→h'.get? b=some u)
 (ho:∀b,H b=some (.own a)→H' b=some (.own a))(ht:∀b xs,H b=some (.tup xs)→H' b=some (.tup xs)):Ś P w H' h' a o:=by
 induction o with
 |lst xs=>obtain⟨z,its,n,r,e⟩:=x;exact⟨z,its,n,r,k _ _ (.inl rfl) e⟩
 |tup xs=>obtain⟨z,its,r,ob,e,c⟩:=x;exact⟨z,its,r,ob,k _ _ (.inl rfl) e,c⟩
 |dK kvs=>obtain⟨z,y,vs,r,ob,es,ep,e,c⟩:=x;exact⟨z,y,vs,r,ob,es,ep,k _ _ (.inl rfl) e,c⟩
 |dT kvs=>
  obtain⟨z,y,xs,r,ob,es,ep,e,c⟩:=x
  exact⟨z,y,xs,Paired.Mg r fun p q z=>⟨z.1,ht _ _ z.2.1,z.2.2⟩,ob,es,ep,k _ _ (.inl rfl) e,c⟩
 |set S n=>obtain⟨ob,es,ep,t,e,c⟩:=x;exact⟨ob,es,ep,t,k _ _ (.inl rfl) e,c⟩
 |ins C dx fs=>
  obtain⟨d,z,ne,e,mA,⟨od,es,ep,e2,c⟩,r⟩:=x
  exact⟨ho _ d,z,ne,k _ _ (.inl rfl) e,mA,⟨od,es,ep,k _ _ (.inr d) e2,c⟩,r⟩
 |own y=>obtain⟨ob,e⟩:=x;exact⟨ob,k _ _ (.inl rfl) e⟩
 |xd fs=>obtain⟨mA,⟨od,es,ep,e,c⟩,r⟩:=x;exact⟨mA,⟨od,es,ep,k _ _ (.inl rfl) e,c⟩,r⟩
 |rng lo hi=>obtain⟨t,u,v,e⟩:=x;exact⟨t,u,v,k _ _ (.inl rfl) e⟩
 |ao ob u ih=>obtain⟨e,q⟩:=x;exact⟨k _ _ (.inl rfl) e,ih q⟩
 |kI ps=>
  have e:h.get? a=some {cls:=.none,data:=.fields ps}:=x
  show h'.get? a=some {cls:=.none,data:=.fields ps}
  exact k a _ (.inl rfl) e
 |met f y=>
  have e:h.get? a=some (PySem.W.methodObj (.ref f) (.ref y)):=x
  show h'.get? a=some (PySem.W.methodObj (.ref f) (.ref y))
  exact k a _ (.inl rfl) e
 |ext φ=>obtain⟨p,⟨o,e⟩,st⟩:=x;exact⟨st _ _ p fun o q=>k _ _ (.inl rfl) q,⟨o,k _ _ (.inl rfl) e⟩,st⟩
theorem dR.lt(x:dR P w H h)(e:H a=some o):a<h.objs.size:=(x a o e).lt
theorem dR.fresh(x:dR P w H h)(e:h.objs.size≤a):H a=none:=by
 cases q:H a with
 |none=>rfl
 |some u=>exact absurd (Nat.lt_of_lt_of_le (x.lt q) e) (Nat.lt_irrefl _)
theorem dR.kept(x:dR P w H h)(k:∀b u,h.get? b=some u→h'.get? b=some u):dR P w H h':=fun a o e=>
 (x a o e).stay (fun b u _ q=>k b u q) (fun _ q=>q) fun _ _ q=>q
theorem dR.laid(x:dR P w H h)(k:∀b u,h.get? b=some u→h'.get? b=some u)(hp:h.objs.size≤a)(new:Ś P w (upd H a o) h' a o):dR P w (upd H a o) h':=fun b u e=>by
 have hn:=x.fresh hp
 by_cases hb:b=a
 ·subst hb;rw[ď] at e;cases e;exact new
 ·rw[č hb] at e
  exact(x b u e).stay (fun c v _ q=>k c v q) (fun c q=>by rw[č (ĵ q hn)];exact q) fun c xs q=>by rw[č (ĵ q hn)];exact q
end
def Rd(H:Hp)(a:Addr)(u:HO):Prop:=H a=some u∨∃o,H a=some (.ao o u)
theorem Rd.ok{P:Program}{w:World}{H:Hp}{h:Heap}{a:Addr}{u:HO}(r:Rd H a u)(x:dR P w H h):Ś P w H h a u:=by
 rcases r with r|⟨o,r⟩
 ·exact x a u r
 ·obtain⟨_,q⟩:=x a _ r
  exact q
def UJ:Option HO→Prop
 |some (.lst _)=>True
 |some (.dK _)=>True
 |some (.dT _)=>True
 |some (.set _ _)=>True
 |some (.ins _ _ _)=>True
 |some (.ext _)=>True
 |some (.xd _)=>True
 |_=>False
section
variable{P:Program}{w:World}{H:Hp}{h h':Heap}{x e:Addr}{o':HO}
theorem dR.write(ok:dR P w H h)(mu:UJ (H x))(he:e=x∨H e=some (.own x))(k:∀b u,b≠e→h.get? b=some u→h'.get? b=some u)(heo:∃u,h'.get? e=some u)
 (new:Ś P w (upd H x o') h' x o'):dR P w (upd H x o') h':=fun b u q=>by
 have Mh:∀c y,H c=some (.own y)→c≠x:=fun c y r z=>by subst z;rw[r] at mu;exact mu
 have Xl:∀c xs,H c=some (.tup xs)→c≠x:=fun c xs r z=>by subst z;rw[r] at mu;exact mu
 by_cases hb:b=x
 ·subst hb;rw[ď] at q;cases q;exact new
 ·rw[č hb] at q
  by_cases hbe:b=e
  ·have q':H b=some (.own x):=by
    rcases he with z|z
    ·exact absurd (hbe.trans z) hb
    ·rw[hbe];exact z
   rw[q] at q';cases q'
   obtain⟨v,hv⟩:=heo
   exact⟨v,by rw[hbe];exact hv⟩
  ·refine(ok b u q).stay (fun c v hc r=>k c v ?_ r) (fun c r=>by rw[č (Mh c b r)];exact r) fun c xs r=>by rw[č (Xl c xs r)];exact r
   rcases hc with rfl|hc
   ·exact hbe
   ·rintro rfl
    rcases he with z|z
    ·exact Mh c b hc z
    ·rw[hc] at z;cases z;exact hb rfl
end
structure Un(fs ex:List Addr)(H H':Hp)(h h':Heap):Prop where
 keep:∀b o,h.get? b=some o→H b=none→b∉fs→b∉ex→h'.get? b=some o
 slot:∀b o,h.get? b=some o→H b=none→b∈fs→b∉ex→∃sl,h'.get? b=some {o with slots:=sl}
 free:∀b o,h.get? b=some o→H b=none→b∉ex→H' b=none
 there:∀b o,h.get? b=some o→b∉ex→∃o',h'.get? b=some o'
 tups:∀b xs,H b=some (.tup xs)→H' b=some (.tup xs)
 fC:∀b o u,H b=some (.ao o u)→H' b=some (.ao o u)
 gq:∀b ps,H b=some (.kI ps)→∃more,H' b=some (.kI (ps++more))
section
variable{fs fs' ex ex':List Addr}{H H1 H2:Hp}{h h1 h2 h':Heap}{a x e:Addr}{o:HO}
theorem Un.any(u:Un fs ex H H1 h h1){b:Addr}{ob:Obj}(q:h.get? b=some ob)(n:H b=none)(hx:b∉ex):∃sl,h1.get? b=some {ob with slots:=sl}:=by
 by_cases hb:b∈fs
 ·exact u.slot b ob q n hb hx
 ·exact⟨ob.slots,u.keep b ob q n hb hx⟩
theorem Un.kept(k:∀b u,h.get? b=some u→h'.get? b=some u):Un fs ex H H h h':=
 ⟨fun b ob q _ _ _=>k b ob q,fun b ob q _ _ _=>⟨ob.slots,k b ob q⟩,fun _ _ _ n _=>n,fun b ob q _=>⟨ob,k b ob q⟩,fun _ _ q=>q,fun _ _ _ q=>q,fun _ ps q=>⟨#[],by rw[q];simp⟩⟩
theorem Un.refl:Un fs ex H H h h:=Un.kept fun _ _ q=>q
theorem Un.laid(k:∀b u,h.get? b=some u→h'.get? b=some u)(hp:h.objs.size≤a)(hn:H a=none):Un fs ex H (upd H a o) h h' where
 keep:=fun b u q _ _ _=>k b u q
 slot:=fun b u q _ _ _=>⟨u.slots,k b u q⟩
 free:=fun b u q n _=>by rw[č (Nat.ne_of_lt (Nat.lt_of_lt_of_le (Heap.lt_size q) hp))];exact n
 there:=fun b u q _=>⟨u,k b u q⟩
 tups:=fun b xs q=>by rw[č (ĵ q hn)];exact q
 fC:=fun b u xs q=>by rw[č (ĵ q hn)];exact q
 gq:=fun b ps q=>⟨#[],by rw[č (ĵ q hn),q];simp⟩
theorem Un.write(mu:UJ (H x))(he:e=x∨H e=some (.own x))(k:∀b u,b≠e→h.get? b=some u→h'.get? b=some u)(heo:∃u,h'.get? e=some u):Un fs ex H (upd H x o) h h':=by
 have hx:∀b,H b=none→b≠x:=fun b n z=>by subst z;rw[n] at mu;exact mu
 have hb:∀b,H b=none→b≠e:=fun b n z=>by
  subst z
  rcases he with r|r
  ·exact hx b n r
  ·rw[n] at r;cases r
 have hm:∀b u,H b=some u→¬UJ (some u)→b≠x:=fun b u q nm z=>by subst z;rw[q] at mu;exact nm mu
 refine⟨fun b u q n _ _=>k b u (hb b n) q,fun b u q n _ _=>⟨u.slots,k b u (hb b n) q⟩,fun b u q n _=>by rw[č (hx b n)];exact n,fun b u q _=>?_,
  fun b xs q=>by rw[č (hm b _ q fun z=>z)];exact q,fun b u xs q=>by rw[č (hm b _ q fun z=>z)];exact q,fun b ps q=>⟨#[],by rw[č (hm b _ q fun z=>z),q];simp⟩⟩
 by_cases hbe:b=e
 ·subst hbe;exact heo
 ·exact⟨u,k b u hbe q⟩
end
def UL(h:Heap)(H:Hp):List Addr:=(List.range h.objs.size).filter fun a=>(H a).isSome
def mV(h:Heap)(H:Hp):Heap:=PySem.W.hideAll h (UL h H)
theorem vh(h:Heap)(H:Hp):(mV h H).objs.size=h.objs.size:=PySem.W.hideAll_size _ _
theorem wD{h:Heap}{H:Hp}{b:Addr}{o:Obj}(e:h.get? b=some o)(n:H b=none):(mV h H).get? b=some o:=
 PySem.W.hideAll_get _ e fun hm=>by
  have q:(H b).isSome=true:=(List.mem_filter.mp hm).2
  rw[n] at q;simp at q
theorem B_{h:Heap}{H:Hp}{b:Addr}{o:Obj}(e:(mV h H).get? b=some o):h.get? b=some o∧H b=none:=by
 have e':h.get? b=some o:=PySem.W.of_hideAll (UL h H) e
 refine⟨e',?_⟩
 cases q:H b with
 |none=>rfl
 |some x=>
  have hm:b∈UL h H:=List.mem_filter.mpr ⟨List.mem_range.mpr (Heap.lt_size e'),by simp[q]⟩
  have z:(mV h H).get? b=none:=PySem.W.hideAll_none (UL h H) hm
  rw[z] at e;cases e
def Ca(g h:Heap)(L:Addr):List (Addr×Obj):=(List.range h.objs.size).filterMap fun a=>if a=L∨(g.get? a).isSome=true then none else(h.get? a).map fun o=>(a,o)
def rest(g h:Heap)(L d:Addr):List (Addr×Obj):=(Ca g h L).filter fun p=>decide (p.1≠d)
end L2
namespace L2
open PySem PySem.Spec PyProof.Rows
structure Mod(K:PySem.W.Frag)(mg:Str→Option Value)(base:Heap):Prop where
 UW:K.In base
 glob:base.Ns mainGlobals mg
 blt:∃mb,base.Ns builtinsNs mb∧∀x:Str,x≠ "__name__" →mb x=bootBuiltins x
 nolimit:base.NoLimit
structure Cx where
 prog:Program
 w:World
 K:PySem.W.Frag
 mg:Str→Option Value
 base:Heap
 A:Around
 N:List Str
 s₀:Shared
 H₀:Hp
 env:Env
 outer:List Env
 stack:List Env
 ex:List Addr
 fn:Str→Bool
 calm:Bool
 pn:List (Addr×Obj)
 xe:Value→Shared→Prop
def frs(l:List Env):List Addr:=l.filterMap (·.frame)
abbrev Cx.fs(X:Cx):List Addr:=frs X.outer
def BW(sc:Scope)(x:Str):Prop:=sc.names.lookup x=some .local∨sc.names.lookup x=some .cell∨sc.names.lookup x=some .free
def Loc(sc:Scope)(x:Str):Prop:=sc.names.lookup x=some .local∨sc.names.lookup x=some .cell
def Look(env:Env)(h:Heap)(m:Str→Option Value)(x:Str)(u:Value):Prop:=
 (env.kindOf x=some .local∧m x=some u)∨((env.kindOf x=some .cell∨env.kindOf x=some .free)∧∃c,env.cells.lookup x=some c∧h.IsCell c (some u))
structure Cx.Ok(X:Cx):Prop where
 mod:Mod X.K X.mg X.base
 kind:X.env.scope.kind=.function
 glob:X.env.globals=mainGlobals
 blt:X.env.builtins=builtinsNs
 above:X.s₀.heap.objs.size≤X.env.locals
 inj:∀x y c,X.env.cells.lookup x=some c→X.env.cells.lookup y=some c→x=y
 has:∀x,(X.env.kindOf x=some .cell∨X.env.kindOf x=some .free)→∃c,X.env.cells.lookup x=some c
 cab:∀x c,X.fn x=true→X.env.cells.lookup x=some c→X.s₀.heap.objs.size≤c
 hd:X.calm=true→X.A.handled=none
 frames:X.A.frames=some X.stack
 stk:X.stack=X.outer∨(X.stack=X.env::X.outer∧X.env.frame=some X.env.locals)
 exf:∀b∈X.ex,b≠X.env.locals∧∀x c,X.env.cells.lookup x=some c→c≠b
 bs:∀b o,X.base.get? b=some o→X.s₀.heap.get? b=some o∧X.H₀ b=none
 Cd:X.base.objs.size≤X.s₀.heap.objs.size
 wF:∀b o,X.base.get? b=some o→b∉X.ex
 Ce:∀b∈X.ex,b∉X.fs
 iu:X.s₀.heap.FunFrames X.base X.outer
 GK:∀b∈X.fs,X.H₀ b=none
structure Inv(X:Cx)(pins:List (Addr×Obj))(σ:List (Option V))(H:Hp)(s:Shared):Prop where
 ok:X.Ok
 os:s.os=X.s₀.os
 bare:AllBare s.gens
 base:Un X.fs X.ex X.H₀ H X.s₀.heap s.heap
 loc:∃m,s.heap.Ns X.env.locals m∧∀(i:Nat) (x:Str) (v:V),X.N[i]?=some x→σ[i]?=some (some v)→BW X.env.scope x→∃u,RelV v u∧Look X.env s.heap m x u
 cell:∀x c,X.env.cells.lookup x=some c→∃v,s.heap.IsCell c v
 free:H X.env.locals=none
 dU:∀x c,X.env.cells.lookup x=some c→H c=none
 pin:∀p∈X.pn++pins,s.heap.get? p.1=some p.2∧H p.1=none∧p.1≠X.env.locals∧p.1∉X.fs∧∀v,p.2.data≠ .cell v
 hok:dR X.prog X.w H s.heap
 len:σ.length=X.N.length
section
variable{X:Cx}{pins:List (Addr×Obj)}{σ:List (Option V)}{H H':Hp}{s:Shared}{h':Heap}
theorem Cx.Ok.Xm(ok:X.Ok){b:Addr}{o:Obj}(e:X.base.get? b=some o):b∉X.fs:=fun hb=>by
 have:=(ok.iu.mem hb).1
 rw[e] at this;cases this
theorem Inv.bs(I:Inv X pins σ H s):∀b o,X.base.get? b=some o→s.heap.get? b=some o∧H b=none:=fun b o e=>
 ⟨I.base.keep b o (I.ok.bs b o e).1 (I.ok.bs b o e).2 (I.ok.Xm e) (I.ok.wF b o e),I.base.free b o (I.ok.bs b o e).1 (I.ok.bs b o e).2 (I.ok.wF b o e)⟩
theorem Inv.bk(I:Inv X pins σ H s):∀b o,X.base.get? b=some o→s.heap.get? b=some o:=fun b o e=>(I.bs b o e).1
theorem Inv.mod(I:Inv X pins σ H s):Mod X.K X.mg X.base:=I.ok.mod
theorem Inv.fB(I:Inv X pins σ H s):X.K.In s.heap:=I.ok.mod.UW.keeps I.bk
theorem Inv.lt(I:Inv X pins σ H s):X.env.locals<s.heap.objs.size:=let ⟨_,hn,_⟩:=I.loc;hn.lt
theorem Inv.sz(I:Inv X pins σ H s):X.s₀.heap.objs.size≤s.heap.objs.size:=Nat.le_trans I.ok.above (Nat.le_of_lt I.lt)
theorem Inv.Xn(I:Inv X pins σ H s){a:Addr}(h:s.heap.objs.size≤a):a∉X.fs:=fun hb=>by
 obtain⟨_,o,ho,_⟩:=I.ok.iu.mem hb
 exact absurd (Nat.lt_of_lt_of_le (Heap.lt_size ho) (Nat.le_trans I.sz h)) (Nat.lt_irrefl _)
theorem Inv.GP(I:Inv X pins σ H s):∀x c,X.env.cells.lookup x=some c→c≠X.env.locals:=fun x c e z=>by
 obtain⟨v,o,ho,hd⟩:=I.cell x c e
 obtain⟨m,⟨o',es,ep,ho',hd',_⟩,_⟩:=I.loc
 rw[z,ho'] at ho;cases ho;rw[hd'] at hd;cases hd
theorem Inv.iu(I:Inv X pins σ H s):s.heap.FunFrames X.base X.outer:=by
 have all:∀(l:List Env),(∀b∈frs l,b∈X.fs)→X.s₀.heap.FunFrames X.base l→s.heap.FunFrames X.base l:=by
  intro l
  induction l with
  |nil=>intro _ _;trivial
  |cons env r ih=>
   intro hs hl
   obtain⟨hk,⟨L,o,hf,hn,ho,hd⟩,hr⟩:=hl
   have hL:L∈X.fs:=hs L (by unfold frs;rw[List.filterMap_cons,hf];exact List.mem_cons_self)
   obtain⟨sl,e⟩:=I.base.slot L o ho (I.ok.GK L hL) hL fun z=>I.ok.Ce L z hL
   exact⟨hk,⟨L,_,hf,hn,e,hd⟩,ih (fun b hb=>hs b (by unfold frs;rw[List.filterMap_cons,hf];exact List.mem_cons_of_mem _ hb)) hr⟩
 exact all X.outer (fun _ hb=>hb) I.ok.iu
theorem Inv.stack(I:Inv X pins σ H s):s.heap.FunFrames X.base X.stack:=by
 rcases I.ok.stk with e|⟨e,hf⟩
 ·rw[e];exact I.iu
 ·rw[e]
  obtain⟨m,hn,_⟩:=I.loc
  refine .cons (by rw[I.ok.kind];decide) hf hn ?_ I.iu
  exact Heap.get?_none_of_le (Nat.le_trans I.ok.Cd I.ok.above)
theorem Inv.jc(I:Inv X pins σ H s):∀b∈frs X.stack,b∈X.env.locals::X.fs:=fun b hb=>by
 rcases I.ok.stk with e|⟨e,hf⟩
 ·rw[e] at hb;exact List.mem_cons_of_mem _ hb
 ·rw[e] at hb
  unfold frs at hb
  rw[List.filterMap_cons,hf] at hb
  exact hb
theorem Inv.mW(I:Inv X pins σ H s):∀b∈frs X.stack,H b=none:=fun b hb=>by
 rcases List.mem_cons.mp (I.jc b hb) with e|hb
 ·rw[e];exact I.free
 ·obtain⟨_,o,ho,_⟩:=I.ok.iu.mem hb
  exact I.base.free b o ho (I.ok.GK b hb) fun z=>I.ok.Ce b z hb
theorem Inv.step{g':Array GenState}{t':Nat}{d':Drawn}{ch:List Addr}(I:Inv X pins σ H s)
 (hch:∀b∈ch,(b∈X.ex∨X.s₀.heap.objs.size≤b)∧b≠X.env.locals∧(∀x c,X.env.cells.lookup x=some c→c≠b)∧∀p∈X.pn++pins,p.1≠b)
 (keep:∀b o,b≠X.env.locals→b∉X.fs→b∉ch→s.heap.get? b=some o→H b=none→h'.get? b=some o)
 (slot:∀b o,b≠X.env.locals→b∈X.fs→b∉ch→s.heap.get? b=some o→H b=none→∃sl,h'.get? b=some {o with slots:=sl})(free:∀b o,b∉ch→s.heap.get? b=some o→H b=none→H' b=none)
 (there:∀b o,b∉ch→s.heap.get? b=some o→∃o',h'.get? b=some o')
 (tups:∀b xs,H b=some (.tup xs)→H' b=some (.tup xs))(fC:∀b o u,H b=some (.ao o u)→H' b=some (.ao o u))(gq:∀b ps,H b=some (.kI ps)→∃more,H' b=some (.kI (ps++more)))
 (ns:∀m,s.heap.Ns X.env.locals m→h'.Ns X.env.locals m)(hok:dR X.prog X.w H' h')(hg:AllBare g') :
 Inv X pins σ H' {s with heap:=h',gens:=g',drawn:=d',toks:=t'}:=by
 have Lx:∀b o,X.s₀.heap.get? b=some o→b≠X.env.locals:=fun b o e=>Nat.ne_of_lt (Nat.lt_of_lt_of_le (Heap.lt_size e) I.ok.above)
 have U_:∀b o,X.s₀.heap.get? b=some o→b∉X.ex→b∉ch:=fun b o e hx hb=>by
  rcases(hch b hb).1 with z|z
  ·exact hx z
  ·exact absurd (Nat.lt_of_lt_of_le (Heap.lt_size e) z) (Nat.lt_irrefl _)
 have cellK:∀x c,X.env.cells.lookup x=some c→∀v,s.heap.IsCell c v→h'.IsCell c v:=fun x c e v ⟨o,ho,hd⟩=>by
  have Mi:c∉ch:=fun z=>(hch c z).2.2.1 x c e rfl
  by_cases hc:c∈X.fs
  ·obtain⟨sl,q⟩:=slot c o (I.GP x c e) hc Mi ho (I.dU x c e)
   exact⟨_,q,hd⟩
  ·exact⟨o,keep c o (I.GP x c e) hc Mi ho (I.dU x c e),hd⟩
 refine⟨I.ok,I.os,hg,⟨fun b o e n hb hx=>?_,fun b o e n hb hx=>?_,fun b o e n hx=>?_,fun b o e hx=>?_,fun b xs e=>tups b xs (I.base.tups b xs e),fun b o xs e=>fC b o xs (I.base.fC b o xs e),fun b ps e=>?_⟩,?_,fun x c e=>?_,?_,fun x c e=>?_,fun p hp=>?_,hok,I.len⟩
 ·exact keep b o (Lx b o e) hb (U_ b o e hx) (I.base.keep b o e n hb hx) (I.base.free b o e n hx)
 ·obtain⟨sl,e1⟩:=I.base.slot b o e n hb hx
  obtain⟨sl',e2⟩:=slot b _ (Lx b o e) hb (U_ b o e hx) e1 (I.base.free b o e n hx)
  exact⟨sl',e2⟩
 ·obtain⟨o',e1⟩:=I.base.there b o e hx
  exact free b o' (U_ b o e hx) e1 (I.base.free b o e n hx)
 ·obtain⟨o',e1⟩:=I.base.there b o e hx
  exact there b o' (U_ b o e hx) e1
 ·obtain⟨m1,e1⟩:=I.base.gq b ps e
  obtain⟨m2,e2⟩:=gq b _ e1
  exact⟨m1++m2,by rw[e2,Array.append_assoc]⟩
 ·obtain⟨m,hn,hl⟩:=I.loc
  refine⟨m,ns m hn,fun i x v e1 e2 e3=>?_⟩
  obtain⟨u,r,l⟩:=hl i x v e1 e2 e3
  refine⟨u,r,?_⟩
  rcases l with l|⟨k,c,e,z⟩
  ·exact .inl l
  ·exact .inr ⟨k,c,e,cellK x c e _ z⟩
 ·obtain⟨v,z⟩:=I.cell x c e
  exact⟨v,cellK x c e v z⟩
 ·obtain⟨m,⟨o,_,_,ho,_⟩,_⟩:=I.loc
  exact free _ o (fun z=>(hch _ z).2.1 rfl) ho I.free
 ·obtain⟨v,o,ho,hd⟩:=I.cell x c e
  exact free c o (fun z=>(hch c z).2.2.1 x c e rfl) ho (I.dU x c e)
 ·obtain⟨e,n,ne,nf,d⟩:=I.pin p hp
  have Mi:p.1∉ch:=fun z=>(hch p.1 z).2.2.2 p hp rfl
  exact⟨keep p.1 p.2 ne nf Mi e n,free p.1 p.2 Mi e n,ne,nf,d⟩
theorem Inv.un{t':Nat}(I:Inv X pins σ H s)(u:Un X.fs [] H H' s.heap h')(hok:dR X.prog X.w H' h'):Inv X pins σ H' {s with heap:=h',toks:=t'}:=by
 obtain⟨m,⟨o,es,ep,ho,r⟩,_⟩:=id I.loc
 obtain⟨sl,hL⟩:=u.any ho I.free (by simp)
 exact I.step (g':=s.gens) (d':=s.drawn) (ch:=[]) (fun _ z=>nomatch z) (fun b o _ hb _ e n=>u.keep b o e n hb (by simp)) (fun b o _ hb _ e n=>u.slot b o e n hb (by simp)) (fun b o _ e n=>u.free b o e n (by simp)) (fun b o _ e=>u.there b o e (by simp)) u.tups u.fC u.gq (fun m' hm=>by
  obtain⟨o',es',ep',ho',r'⟩:=hm
  rw[ho] at ho';cases ho'
  exact⟨_,es',ep',hL,r'⟩) hok I.bare
theorem Inv.call{g':Array GenState}{t':Nat}{d':Drawn}{ch:List Addr}(I:Inv X pins σ H s)(u:Un (frs X.stack) ch H H' s.heap h')(hok:dR X.prog X.w H' h')(hg:AllBare g')
 (hch:∀b∈ch,(b∈X.ex∨X.s₀.heap.objs.size≤b)∧b≠X.env.locals∧(∀x c,X.env.cells.lookup x=some c→c≠b)∧∀p∈X.pn++pins,p.1≠b) :
 Inv X pins σ H' {s with heap:=h',gens:=g',drawn:=d',toks:=t'}:=by
 obtain⟨m,⟨o,es,ep,ho,r⟩,_⟩:=id I.loc
 obtain⟨sl,hL⟩:=u.any ho I.free fun z=>(hch _ z).2.1 rfl
 exact I.step (ch:=ch) hch (fun b o hL hb hc e n=>u.keep b o e n (fun z=>(List.mem_cons.mp (I.jc b z)).elim hL hb) hc) (fun b o _ _ hc e n=>u.any e n hc) (fun b o hc e n=>u.free b o e n hc) (fun b o hc e=>u.there b o e hc) u.tups u.fC u.gq (fun m' hm=>by
  obtain⟨o',es',ep',ho',r'⟩:=hm
  rw[ho] at ho';cases ho'
  exact⟨_,es',ep',hL,r'⟩) hok hg
theorem Inv.turned{t':Nat}{it:Addr}(I:Inv X pins σ H s)(k:∀b o,b≠it→s.heap.get? b=some o→h'.get? b=some o)(hn:H it=none)(hL:it≠X.env.locals)
 (h1:it∈X.ex∨X.s₀.heap.objs.size≤it)(h2:∀x c,X.env.cells.lookup x=some c→c≠it)(h3:∀p∈X.pn++pins,p.1≠it):Inv X pins σ H {s with heap:=h',toks:=t'}:=by
 have nit:∀b u,H b=some u→b≠it:=fun b u e z=>by rw[z,hn] at e;cases e
 refine I.step (g':=s.gens) (d':=s.drawn) (ch:=[it]) (fun b hb=>?_) (fun b o _ _ hc e _=>k b o (fun z=>hc (by simp[z])) e) (fun b o _ _ hc e _=>⟨o.slots,k b o (fun z=>hc (by simp[z])) e⟩) (fun _ _ _ _ n=>n)
  (fun b o hc e=>⟨o,k b o (fun z=>hc (by simp[z])) e⟩) (fun _ _ e=>e) (fun _ _ _ e=>e) (fun b ps e=>⟨#[],by rw[e];simp⟩) (fun m hm=>?_) (fun b u e=>?_) I.bare
 ·have e:b=it:=by simpa using hb
  subst e
  exact⟨h1,hL,h2,h3⟩
 ·obtain⟨o,es,ep,ho,r⟩:=hm
  exact⟨o,es,ep,k _ o (Ne.symm hL) ho,r⟩
 ·refine(I.hok b u e).stay (fun c v hc q=>k c v ?_ q) (fun _ q=>q) fun _ _ q=>q
  rcases hc with z|z
  ·rw[z];exact nit b u e
  ·exact nit c _ z
theorem Inv.tok(I:Inv X pins σ H s)(t:Nat):Inv X pins σ H {s with toks:=t}:=I.un (h':=s.heap) (t':=t) Un.refl I.hok
theorem Inv.kept{t':Nat}(I:Inv X pins σ H s)(k:∀b u,s.heap.get? b=some u→h'.get? b=some u):Inv X pins σ H {s with heap:=h',toks:=t'}:=I.un (Un.kept k) (I.hok.kept k)
theorem Inv.laid{a:Addr}{o:HO}{t':Nat}(I:Inv X pins σ H s)(k:∀b u,s.heap.get? b=some u→h'.get? b=some u)(hp:s.heap.objs.size≤a)(new:Ś X.prog X.w (upd H a o) h' a o) :
 Inv X pins σ (upd H a o) {s with heap:=h',toks:=t'}:=I.un (Un.laid k hp (I.hok.fresh hp)) (I.hok.laid k hp new)
theorem Inv.write{x e:Addr}{o:HO}{t':Nat}(I:Inv X pins σ H s)(mu:UJ (H x))(he:e=x∨H e=some (.own x))(k:∀b u,b≠e→s.heap.get? b=some u→h'.get? b=some u)(heo:∃u,h'.get? e=some u)
 (new:Ś X.prog X.w (upd H x o) h' x o):Inv X pins σ (upd H x o) {s with heap:=h',toks:=t'}:=I.un (Un.write mu he k heo) (I.hok.write mu he k heo new)
theorem Inv.sX{Fi:List (Addr×Obj)}(I:Inv X pins σ H s)(h:∀p∈Fi,s.heap.get? p.1=some p.2∧H p.1=none∧p.1≠X.env.locals∧p.1∉X.fs∧∀v,p.2.data≠ .cell v):Inv X Fi σ H s:=
 ⟨I.ok,I.os,I.bare,I.base,I.loc,I.cell,I.free,I.dU,fun p hp=>(List.mem_append.mp hp).elim (fun z=>I.pin p (List.mem_append_left _ z)) (h p),I.hok,I.len⟩
theorem oV{N:List Str}(hN:N.Nodup){i j:Nat}{x:Str}(a:N[i]?=some x)(b:N[j]?=some x):i=j:=by
 obtain⟨h1,e1⟩:=List.getElem?_eq_some_iff.mp a
 obtain⟨h2,e2⟩:=List.getElem?_eq_some_iff.mp b
 exact(List.getElem_inj hN).mp (e1.trans e2.symm)
theorem lB{M:Model}{A:Around}{E:Value→Shared→Prop}{i:Nat}{x:Str}{v:V}{u:Value}{Q:Unit→Shared→Prop}(I:Inv X pins σ H s)(hN:X.N.Nodup)(hi:X.N[i]?=some x)(hx:Loc X.env.scope x)(r:RelV v u)
 (h:∀s',Inv X pins (σ.set i (some v)) H s'→(∃a,Heap.SameBut a s.heap s'.heap∧(a=X.env.locals∨X.env.cells.lookup x=some a))→Q () s')(hf:X.fn x=true∨X.env.scope.names.lookup x=some .local:=by first|exact .inl rfl|exact .inr rfl|assumption):wpAny M A (storeName X.env x u) Q E s:=by
 obtain⟨m,hn,hl⟩:=id I.loc
 have hcls:(X.env.scope.kind== .class || (X.env.scope.kind== .module && X.env.locals != X.env.globals))=false:=by rw[I.ok.kind];rfl
 have Zck:i < σ.length:=by rw[I.len];exact(List.getElem?_eq_some_iff.mp hi).1
 have GP:=I.GP
 have tracked:∀{a:Addr} {h':Heap},(∃o,s.heap.get? a=some o∧H a=none)→Heap.SameBut a s.heap h'→dR X.prog X.w H h':=fun{a h'} ha hs b ob e=>by
  obtain⟨_,_,hfree⟩:=ha
  refine(I.hok b ob e).stay (fun c w' hc q=>(hs.2 c ?_).trans q) (fun _ q=>q) fun _ _ q=>q
  rintro rfl
  rcases hc with rfl|hc
  ·rw[hfree] at e;cases e
  ·rw[hfree] at hc;cases hc
 rcases hx with hk|hk
 ·refine wpAny_storeName_local hk hn (fun h' hn' hs=>?_) hcls
  obtain⟨oL,_,_,hoL,_⟩:=id hn
  refine h _ ⟨I.ok,I.os,I.bare,⟨fun b o e n hb hx=>?_,fun b o e n hb hx=>?_,I.base.free,fun b o e hx=>?_,I.base.tups,I.base.fC,I.base.gq⟩,⟨_,hn',fun j y v' e1 e2 e3=>?_⟩,fun y c e=>?_,I.free,I.dU,fun p hp=>?_,tracked ⟨oL,hoL,I.free⟩ hs,by simpa using I.len⟩ ⟨_,hs,.inl rfl⟩
  ·exact(hs.2 b (Nat.ne_of_lt (Nat.lt_of_lt_of_le (Heap.lt_size e) I.ok.above))).trans (I.base.keep b o e n hb hx)
  ·obtain⟨sl,e1⟩:=I.base.slot b o e n hb hx
   exact⟨sl,(hs.2 b (Nat.ne_of_lt (Nat.lt_of_lt_of_le (Heap.lt_size e) I.ok.above))).trans e1⟩
  ·obtain⟨o',e1⟩:=I.base.there b o e hx
   exact⟨o',(hs.2 b (Nat.ne_of_lt (Nat.lt_of_lt_of_le (Heap.lt_size e) I.ok.above))).trans e1⟩
  ·by_cases hj:j=i
   ·subst hj
    rw[hi] at e1;cases e1
    rw[List.getElem?_set_self Zck] at e2
    cases e2
    exact⟨u,r,.inl ⟨hk,by simp⟩⟩
   ·rw[List.getElem?_set_ne (Ne.symm hj)] at e2
    obtain⟨u',r',q⟩:=hl j y v' e1 e2 e3
    refine⟨u',r',?_⟩
    rcases q with⟨k,e⟩|⟨k,c,e,z⟩
    ·refine .inl ⟨k,?_⟩
     have:y≠x:=fun e=>hj (oV hN e1 (e▸hi))
     simp[this,e]
    ·exact .inr ⟨k,c,e,z.sameBut hs (GP y c e)⟩
  ·obtain⟨w',z⟩:=I.cell y c e
   exact⟨w',z.sameBut hs (GP y c e)⟩
  ·obtain⟨e,n,ne,nf,d⟩:=I.pin p hp
   exact⟨(hs.2 p.1 ne).trans e,n,ne,nf,d⟩
 ·have hfn:X.fn x=true:=by
   rcases hf with z|z
   ·exact z
   ·rw[z] at hk;cases hk
  obtain⟨c,hc⟩:=I.ok.has x (.inl hk)
  obtain⟨w',z⟩:=I.cell x c hc
  refine wpAny_storeName_cell I.ok.kind hk hc z (fun h' hc' hs=>?_)
  obtain⟨oc,hoc,Xo⟩:=id z
  refine h {s with heap:=h'} ⟨I.ok,I.os,I.bare,⟨fun b o e n hb hx=>?_,fun b o e n hb hx=>?_,I.base.free,fun b o e hx=>?_,I.base.tups,I.base.fC,I.base.gq⟩,⟨m,hn.sameBut hs (Ne.symm (GP x c hc)),fun j y v' e1 e2 e3=>?_⟩,fun y c' e=>?_,I.free,I.dU,fun p hp=>?_,tracked ⟨oc,hoc,I.dU x c hc⟩ hs,by simpa using I.len⟩ ⟨c,hs,.inr hc⟩
  ·exact(hs.2 b (Nat.ne_of_lt (Nat.lt_of_lt_of_le (Heap.lt_size e) (I.ok.cab x c hfn hc)))).trans (I.base.keep b o e n hb hx)
  ·obtain⟨sl,e1⟩:=I.base.slot b o e n hb hx
   exact⟨sl,(hs.2 b (Nat.ne_of_lt (Nat.lt_of_lt_of_le (Heap.lt_size e) (I.ok.cab x c hfn hc)))).trans e1⟩
  ·obtain⟨o',e1⟩:=I.base.there b o e hx
   exact⟨o',(hs.2 b (Nat.ne_of_lt (Nat.lt_of_lt_of_le (Heap.lt_size e) (I.ok.cab x c hfn hc)))).trans e1⟩
  ·by_cases hj:j=i
   ·subst hj
    rw[hi] at e1;cases e1
    rw[List.getElem?_set_self Zck] at e2
    cases e2
    exact⟨u,r,.inr ⟨.inl hk,c,hc,hc'⟩⟩
   ·rw[List.getElem?_set_ne (Ne.symm hj)] at e2
    obtain⟨u',r',q⟩:=hl j y v' e1 e2 e3
    refine⟨u',r',?_⟩
    rcases q with q|⟨k,c',e,z'⟩
    ·exact .inl q
    ·refine .inr ⟨k,c',e,z'.sameBut hs ?_⟩
     rintro rfl
     exact hj (oV hN e1 (I.ok.inj _ _ _ e hc▸hi))
  ·by_cases hcc:c'=c
   ·subst hcc;exact⟨_,hc'⟩
   ·obtain⟨w2,z2⟩:=I.cell y c' e
    exact⟨w2,z2.sameBut hs hcc⟩
  ·obtain⟨e,n,ne,nf,d⟩:=I.pin p hp
   refine⟨(hs.2 p.1 ?_).trans e,n,ne,nf,d⟩
   intro q
   rw[q,hoc] at e
   have q':oc=p.2:=Option.some.inj e
   exact d w' (by rw[←q'];exact Xo)
theorem oW{M:Model}{A:Around}{E:Value→Shared→Prop}{i:Nat}{x:Str}{v:V}{u:Value}{Q:Unit→Shared→Prop}(I:Inv X pins σ H s)(hN:X.N.Nodup)(hi:X.N[i]?=some x)(hx:Loc X.env.scope x)(r:RelV v u)
 (h:∀s',Inv X pins (σ.set i (some v)) H s'→Q () s')(hf:X.fn x=true∨X.env.scope.names.lookup x=some .local:=by first|exact .inl rfl|exact .inr rfl|assumption):wpAny M A (storeName X.env x u) Q E s:=
 lB I hN hi hx r (fun s' I' _=>h s' I') hf
theorem Inv.call'{s':Shared}{ch:List Addr}(I:Inv X pins σ H s)(ho:s'.os=s.os)(u:Un (frs X.stack) ch H H' s.heap s'.heap)(hok:dR X.prog X.w H' s'.heap)(hg:AllBare s'.gens)
 (hch:∀b∈ch,(b∈X.ex∨X.s₀.heap.objs.size≤b)∧b≠X.env.locals∧(∀x c,X.env.cells.lookup x=some c→c≠b)∧∀p∈X.pn++pins,p.1≠b):Inv X pins σ H' s':=by
 obtain⟨h',g',d',t',o'⟩:=s'
 have e:o'=s.os:=ho
 subst e
 exact I.call (g':=g') (t':=t') (d':=d') u hok hg hch
end
abbrev XK:=Value→Option Addr→Hp→Prop
abbrev St:=List (Option V)
abbrev VK:=V→Hp→Prop
abbrev TE:=St→Hp→VK→Prop
abbrev TT:=St→Hp→(Bool→Hp→Prop)→Prop
abbrev TA:=St→Hp→(List V→Hp→Prop)→Prop
structure Ends where
 nx:St→Hp→Prop
 rt:VK
 bk:St→Hp→Prop:=fun _ _=>False
 ct:St→Hp→Prop:=fun _ _=>False
abbrev TS:=Ends→St→Hp→Prop
def EP(X:Cx)(pins:List (Addr×Obj))(σ:St)(Q:VK)(u:Value)(s':Shared):Prop:=∃v H',Inv X pins σ H' s'∧RelV v u∧Q v H'
def TP(X:Cx)(pins:List (Addr×Obj))(σ:St)(Q:Bool→Hp→Prop)(b:Bool)(s':Shared):Prop:=∃H',Inv X pins σ H' s'∧Q b H'
def AP(X:Cx)(pins:List (Addr×Obj))(σ:St)(Q:List V→Hp→Prop)(us:List Value)(s':Shared):Prop:=∃vs H',Inv X pins σ H' s'∧Vals vs us∧Q vs H'
def SP(X:Cx)(pins:List (Addr×Obj))(D:Ends)(f:Flow)(s':Shared):Prop:=
 match f with
 | .next=>∃σ' H',Inv X pins σ' H' s'∧D.nx σ' H'
 | .brk=>∃σ' H',Inv X pins σ' H' s'∧D.bk σ' H'
 | .cont=>∃σ' H',Inv X pins σ' H' s'∧D.ct σ' H'
 | .ret u=>∃v σ' H',Inv X pins σ' H' s'∧RelV v u∧D.rt v H'
def PE(X:Cx)(e:Expr)(t:TE):Prop:=
 ∀(pins:List (Addr×Obj)) (s:Shared) (σ:St) (H:Hp) (Q:VK),Inv X pins σ H s→t σ H Q→wpAny (model X.prog X.w) X.A (eval e X.env) (EP X pins σ Q) X.xe s
def PT(X:Cx)(e:Expr)(t:TT):Prop:=
 ∀(pins:List (Addr×Obj)) (s:Shared) (σ:St) (H:Hp) (Q:Bool→Hp→Prop),Inv X pins σ H s→t σ H Q→wpAny (model X.prog X.w) X.A (isTrue e X.env (eval e X.env)) (TP X pins σ Q) X.xe s
def PW(X:Cx)(e:Expr)(t:TT):Prop:=
 ∀(whole:Sem Value) (pins:List (Addr×Obj)) (s:Shared) (σ:St) (H:Hp) (Q:Bool→Hp→Prop),Inv X pins σ H s→t σ H Q→wpAny (model X.prog X.w) X.A (isTrue e X.env whole) (TP X pins σ Q) X.xe s
theorem PW.pt{X:Cx}{e:Expr}{t:TT}(h:PW X e t):PT X e t:=h _
def PA(X:Cx)(es:List Expr)(t:TA):Prop:=
 ∀(pos:Pos) (pins:List (Addr×Obj)) (s:Shared) (σ:St) (H:Hp) (Q:List V→Hp→Prop),Inv X pins σ H s→t σ H Q→wpAny (model X.prog X.w) X.A (spliced (backTo pos (starEach es X.env))) (AP X pins σ Q) X.xe s
def PS(X:Cx)(st:Stmt)(t:TS):Prop:=
 ∀(pins:List (Addr×Obj)) (s:Shared) (σ:St) (H:Hp) (D:Ends),Inv X pins σ H s→t D σ H→wpAny (model X.prog X.w) X.A (exec st X.env) (SP X pins D) X.xe s
def jd(X:Cx)(st:List Stmt)(t:TS):Prop:=
 ∀(pins:List (Addr×Obj)) (s:Shared) (σ:St) (H:Hp) (D:Ends),Inv X pins σ H s→t D σ H→wpAny (model X.prog X.w) X.A (execs st X.env) (SP X pins D) X.xe s
theorem ś{α:Type}{t:Sem α}{Q Q':α→Shared→Prop}{M:Model}{A:Around}{E:Value→Shared→Prop}{s:Shared}(h:wpAny M A t Q E s)(hQ:∀a s,Q a s→Q' a s):wpAny M A t Q' E s:=wpAny_mono h hQ fun _ _ x=>x
end L2
namespace L2
open PySem PySem.Spec PyProof.Rows
section
variable{X:Cx}
def oX(i:Nat):TE:=fun σ H Q=>∃v,σ[i]?=some (some v)∧Q v H
def tC(v:V):TE:=fun _ H Q=>Q v H
theorem eN{i:Nat}{x:Str}{pos:Pos}(hN:X.N[i]?=some x)(hv:BW X.env.scope x)(hd:(x== ("__debug__" :Str))=false:=by decide)(hcd:(x== ("__classdict__" :Str))=false:=by decide):PE X (.Name x pos) (oX i):=by
 intro pins s σ H Q I h
 obtain⟨v,e,h⟩:=h
 obtain⟨m,hn,hl⟩:=I.loc
 obtain⟨u,r,l⟩:=hl i x v hN e hv
 have fin:EP X pins σ Q u s:=⟨v,H,I,r,h⟩
 rcases l with⟨hk,hm⟩|⟨hk,c,hc,hcell⟩
 ·exact wpAny_Name (wpAny_loadName_local I.ok.kind hk hn hm fin) hd
 ·rcases hk with hk|hk
  ·exact wpAny_Name (wpAny_loadName_cell I.ok.kind hk hc hcell fin) hd
  ·exact wpAny_Name (wpAny_loadName_free I.ok.kind hk hc hcell fin hcd) hd
theorem wG{i j pos}:PE X (.Constant (.int i) j pos) (tC (.int i)):=fun _ _ _ H _ I h=>wpAny_Constant_int ⟨.int i,H,I.tok _,⟨_,rfl⟩,h⟩
theorem Mj{b j pos}:PE X (.Constant (.bool b) j pos) (tC (.bl b)):=fun _ _ _ H _ I h=>Constant_bool ⟨.bl b,H,I,rfl,h⟩
theorem GQ{x j pos}:PE X (.Constant (.str x) j pos) (tC (.str x)):=fun _ _ _ H _ I h=>Calls.Constant_str ⟨.str x,H,I.tok _,⟨_,rfl⟩,h⟩
def Gl(X:Cx)(x:Str):Prop:=X.env.kindOf x=some .globalImplicit
theorem iJ{E:Value→Shared→Prop}{pins:List (Addr×Obj)}{s:Shared}{σ:St}{H:Hp}{x:Str}{u:Value}{pos:Pos}{Q:Value→Shared→Prop}(I:Inv X pins σ H s)(hg:Gl X x)(hm:X.mg x=some u)(h:Q u s)
 (hd:(x== ("__debug__" :Str))=false:=by decide):wpAny (model X.prog X.w) X.A (eval (.Name x pos) X.env) Q E s:=
 Calls.Name_function_global I.ok.kind hg (Calls.loadGlobal_global (by rw[I.ok.glob];exact I.mod.glob.keeps I.bk) hm h) hd
theorem mX{E:Value→Shared→Prop}{pins:List (Addr×Obj)}{s:Shared}{σ:St}{H:Hp}{x:Str}{u:Value}{pos:Pos}{Q:Value→Shared→Prop}(I:Inv X pins σ H s)(hg:Gl X x)(hm:X.mg x=none)(hv:bootBuiltins x=some u)(h:Q u s)
 (hn:x≠ "__name__" := by decide)(hd:(x== ("__debug__" :Str))=false:=by decide):wpAny (model X.prog X.w) X.A (eval (.Name x pos) X.env) Q E s:=by
 obtain⟨mb,h1,h2⟩:=I.mod.blt
 exact Calls.Name_function_global I.ok.kind hg (Calls.loadGlobal_builtin (by rw[I.ok.glob];exact I.mod.glob.keeps I.bk) hm (by rw[I.ok.blt];exact h1.keeps I.bk) ((h2 x hn).trans hv) h) hd
theorem ź{x:Str}{v:V}{u:Value}{pos:Pos}(hg:Gl X x)(hm:X.mg x=some u)(r:RelV v u)(hd:(x== ("__debug__" :Str))=false:=by decide):PE X (.Name x pos) (tC v):=
 fun _ _ _ H _ I h=>iJ I hg hm ⟨v,H,I,r,h⟩ hd
theorem iK{x:Str}{v:V}{u:Value}{pos:Pos}(hg:Gl X x)(hm:X.mg x=none)(hv:bootBuiltins x=some u)(r:RelV v u)(hn:x≠ "__name__" := by decide)(hd:(x== ("__debug__" :Str))=false:=by decide):PE X (.Name x pos) (tC v):=
 fun _ _ _ H _ I h=>mX I hg hm hv ⟨v,H,I,r,h⟩ hn hd
variable{a b:Expr}{ta tb:TE}{pos:Pos}
variable{tA Va:TT}{rest:List Expr}
def Xp(t u:TT):TT:=fun σ H Q=>t σ H fun c H1=>if c=true then u σ H1 Q else Q false H1
def tOr(t u:TT):TT:=fun σ H Q=>t σ H fun c H1=>if c=true then Q true H1 else u σ H1 Q
def Xq(t:TT):TT:=fun σ H Q=>t σ H fun c H1=>Q (!c) H1
theorem Cg(ha:PT X a tA):PW X (.BoolOp .And [a] pos) tA:=by
 intro wh pins s σ H Q I h
 refine isTrue_and (ś (ha pins s σ H Q I h) fun c s1 e=>?_)
 cases c with
 |true=>exact isTrue_and_nil e
 |false=>exact e
theorem GR(ha:PT X a tA):PW X (.BoolOp .Or [a] pos) tA:=by
 intro wh pins s σ H Q I h
 refine isTrue_or (ś (ha pins s σ H Q I h) fun c s1 e=>?_)
 cases c with
 |false=>exact isTrue_or_nil e
 |true=>exact e
theorem GX(ha:PT X a tA)(hb:PW X (.BoolOp .And (b::rest) pos) Va):PW X (.BoolOp .And (a::b::rest) pos) (Xp tA Va):=by
 intro wh pins s σ H Q I h
 refine isTrue_and (ś (ha pins s σ H _ I h) fun c s1 ⟨H1,I1,q1⟩=>?_)
 cases c with
 |true=>exact hb wh pins s1 σ H1 Q I1 q1
 |false=>exact⟨H1,I1,q1⟩
theorem Ml(ha:PT X a tA)(hb:PW X (.BoolOp .Or (b::rest) pos) Va):PW X (.BoolOp .Or (a::b::rest) pos) (tOr tA Va):=by
 intro wh pins s σ H Q I h
 refine isTrue_or (ś (ha pins s σ H _ I h) fun c s1 ⟨H1,I1,q1⟩=>?_)
 cases c with
 |true=>exact⟨H1,I1,q1⟩
 |false=>exact hb wh pins s1 σ H1 Q I1 q1
theorem GZ(ha:PT X a tA):PT X (.UnaryOp .Not a pos) (Xq tA):=by
 intro pins s σ H Q I h
 exact isTrue_not (ha pins s σ H (fun c H1=>Q (!c) H1) I h)
theorem G_{op}{t:TE}(h:PE X a t):PE X (.BoolOp op [a] pos) t:=fun pins s σ H Q I hw=>BoolOp_one (h pins s σ H Q I hw)
end
end L2
namespace L2
open PySem PySem.Spec PyProof.Rows
def Ż(K:PySem.W.Frag)(H:Hp)(a:Addr)(xs:List V):Prop:=
 Rd H a (.lst xs)∨
  ∃(o:Obj) (its:Array Value) (n:Nat),K.lookup a=some o∧o.cls=.type "list" ∧o.dict=none∧o.data=.seq its n∧its.size≤sizeLine∧Vals xs its.toList
def cJ(K:PySem.W.Frag)(H:Hp)(a:Addr)(xs:List V):Prop:=
 Rd H a (.tup xs)∨
  ∃(o:Obj) (its:Array Value) (n:Nat),K.lookup a=some o∧o.cls=.type "tuple" ∧o.data=.seq its n∧its.size≤sizeLine∧Vals xs its.toList
def Xr:Value→Option V
 | .none=>some .non
 | .bool b=>some (.bl b)
 | .int i _=>some (.int i)
 | .str x _=>some (.str x)
 | .bytes b _=>some (.Fg b)
 | .float b _=>some (.flt b)
 | .ref a=>some (.ref a)
 | .type n=>some (.ty n)
 |_=>none
theorem RelV.abs{x:V}{u:Value}(r:RelV x u):Xr u=some x:=by
 cases x with
 |non=>cases r;rfl
 |bl _=>cases r;rfl
 |int _=>obtain⟨t,rfl⟩:=r;rfl
 |str _=>obtain⟨t,rfl⟩:=r;rfl
 |Fg _=>obtain⟨t,rfl⟩:=r;rfl
 |flt _=>obtain⟨t,rfl⟩:=r;rfl
 |ref _=>cases r;rfl
 |ty _=>cases r;rfl
theorem RelV.inj{x y:V}{u:Value}(r:RelV x u)(q:RelV y u):x=y:=Option.some.inj (r.abs.symm.trans q.abs)
theorem Vals.inj:∀{xs ys:List V} {us:List Value},Vals xs us→Vals ys us→xs=ys
 |_,_,_,.nil,.nil=>rfl
 |_,_,_,.cons r t,.cons r' t'=>by rw[r.inj r',Vals.inj t t']
section
variable{X:Cx}{pins:List (Addr×Obj)}{σ:St}{H:Hp}{s:Shared}{a:Addr}{xs ys:List V}
theorem Ż.of{K:PySem.W.Frag}(h:H a=some (.lst xs)):Ż K H a xs:=.inl (.inl h)
theorem cJ.of{K:PySem.W.Frag}(h:H a=some (.tup xs)):cJ K H a xs:=.inl (.inl h)
theorem Inv.list(I:Inv X pins σ H s)(h:Ż X.K H a xs):∃its:List Value,Vals xs its∧PlainL s.heap a its.toArray∧xs.length≤sizeLine:=by
 rcases h with h|⟨o,its,n,hk,hc,hd,hs,hz,r⟩
 ·obtain⟨z,its,n,r,e⟩:=h.ok I.hok
  exact⟨its,r,⟨_,n,e,rfl,rfl,rfl⟩,z⟩
 ·refine⟨its.toList,r,⟨o,n,I.fB a o hk,hc,hd,by simpa using hs⟩,?_⟩
  have e:=r.length
  simp only[Array.length_toList] at e
  omega
theorem Inv.tuple(I:Inv X pins σ H s)(h:cJ X.K H a xs):∃its:List Value,Vals xs its∧IsTup s.heap a its.toArray∧xs.length≤sizeLine:=by
 rcases h with h|⟨o,its,n,hk,hc,hs,hz,r⟩
 ·obtain⟨z,its,r,p⟩:=h.ok I.hok
  exact⟨its,r,p,z⟩
 ·refine⟨its.toList,r,⟨o,I.fB a o hk,hc,n,by simpa using hs⟩,?_⟩
  have e:=r.length
  simp only[Array.length_toList] at e
  omega
theorem Inv.wH(I:Inv X pins σ H s)(h:Ż X.K H a xs)(h':Ż X.K H a ys):xs=ys:=by
 obtain⟨its,r,⟨o,n,e,_,_,d⟩,_⟩:=I.list h
 obtain⟨its',r',⟨o',n',e',_,_,d'⟩,_⟩:=I.list h'
 rw[e] at e';cases e'
 rw[d] at d'
 injection d' with d1 _
 have:its=its':=by simpa using congrArg Array.toList d1
 subst this
 exact r.inj r'
theorem Inv.vm(I:Inv X pins σ H s)(h:cJ X.K H a xs)(h':cJ X.K H a ys):xs=ys:=by
 obtain⟨its,r,⟨o,e,_,n,d⟩,_⟩:=I.tuple h
 obtain⟨its',r',⟨o',e',_,n',d'⟩,_⟩:=I.tuple h'
 rw[e] at e';cases e'
 rw[d] at d'
 injection d' with d1 _
 have:its=its':=by simpa using congrArg Array.toList d1
 subst this
 exact r.inj r'
end
abbrev Cx.wish(X:Cx)(E:Value→Shared→Prop):Cx:={X with xe:=E}
abbrev Cx.Ŝ(X:Cx):Cx:=X.wish fun _ _=>False
theorem Cx.Ok.wish{X:Cx}(ok:X.Ok)(E:Value→Shared→Prop):(X.wish E).Ok:=
 ⟨ok.mod,ok.kind,ok.glob,ok.blt,ok.above,ok.inj,ok.has,ok.cab,ok.hd,ok.frames,ok.stk,ok.exf,ok.bs,ok.Cd,ok.wF,ok.Ce,ok.iu,ok.GK⟩
theorem Cx.Ok.bK{X:Cx}{E:Value→Shared→Prop}(ok:(X.wish E).Ok):X.Ok:=
 ⟨ok.mod,ok.kind,ok.glob,ok.blt,ok.above,ok.inj,ok.has,ok.cab,ok.hd,ok.frames,ok.stk,ok.exf,ok.bs,ok.Cd,ok.wF,ok.Ce,ok.iu,ok.GK⟩
section
variable{X:Cx}{pins:List (Addr×Obj)}{σ:St}{H:Hp}{s:Shared}{E:Value→Shared→Prop}
theorem Inv.wish(I:Inv X pins σ H s)(E:Value→Shared→Prop):Inv (X.wish E) pins σ H s:=⟨I.ok.wish E,I.os,I.bare,I.base,I.loc,I.cell,I.free,I.dU,I.pin,I.hok,I.len⟩
theorem Inv.bK(I:Inv (X.wish E) pins σ H s):Inv X pins σ H s:=⟨I.ok.bK,I.os,I.bare,I.base,I.loc,I.cell,I.free,I.dU,I.pin,I.hok,I.len⟩
theorem SP.bK{D:Ends}{f:Flow}{s':Shared}(h:SP (X.wish E) pins D f s'):SP X pins D f s':=by
 cases f with
 |next=>obtain⟨σ',H',I,q⟩:=h;exact⟨σ',H',I.bK,q⟩
 |brk=>obtain⟨σ',H',I,q⟩:=h;exact⟨σ',H',I.bK,q⟩
 |cont=>obtain⟨σ',H',I,q⟩:=h;exact⟨σ',H',I.bK,q⟩
 |ret u=>obtain⟨v,σ',H',I,r,q⟩:=h;exact⟨v,σ',H',I.bK,r,q⟩
theorem PE.Ŝ{e:Expr}{t:TE}(h:PE X.Ŝ e t):PE X e t:=fun pins s σ H Q I hw=>
 wpAny_mono (h pins s σ H Q (I.wish _) hw) (fun _ _ ⟨v,H',I',r,q⟩=>⟨v,H',I'.bK,r,q⟩) fun _ _ z=>False.elim z
end
section
variable{X:Cx}{st:Stmt}{rest:List Stmt}{t u:TS}{e:Expr}{te:TE}{pos:Pos}
def Mp:TS:=fun D σ H=>D.nx σ H
def Xu(t u:TS):TS:=fun D σ H=>t {D with nx:=u D} σ H
theorem Ci:jd X [] Mp:=fun _ _ σ H _ I h=>wpAny_execs_nil ⟨σ,H,I,h⟩
theorem wI(h1:PS X st t)(h2:jd X rest u):jd X (st::rest) (Xu t u):=by
 intro pins s σ H D I h
 refine wpAny_execs_cons (ś (h1 pins s σ H {D with nx:=u D} I h) fun f s1 q=>?_)
 cases f with
 |next=>
  obtain⟨σ',H',I',q⟩:=q
  exact h2 pins s1 σ' H' D I' q
 |ret v=>exact q
 |brk=>exact q
 |cont=>exact q
theorem Cj(h1:PS X st t):jd X [st] t:=by
 intro pins s σ H D I h
 refine wpAny_execs_cons (ś (h1 pins s σ H D I h) fun f s1 q=>?_)
 cases f with
 |next=>exact wpAny_execs_nil q
 |ret v=>exact q
 |brk=>exact q
 |cont=>exact q
theorem Inv.quiet{pins:List (Addr×Obj)}{σ:St}{H:Hp}{s:Shared}(I:Inv X pins σ H s):interactive X.env=false:=by simp[interactive,I.ok.kind]
def wJ(te:TE):TS:=fun D σ H=>te σ H fun _ H1=>D.nx σ H1
theorem sY(he:PE X e te)(hs:swapsWith e none pos.line X.env=pure false:=by rfl):PS X (.Expr e pos) (wJ te):=by
 intro pins s σ H D I h
 exact wpAny_Expr_any (ś (he pins s σ H _ I h) fun v s1 ⟨x,H1,I1,r1,q1⟩=>⟨σ,H1,I1,q1⟩) I.quiet hs
def Xv(te:TE):TS:=fun D σ H=>te σ H D.rt
theorem Hf(he:PE X e te):PS X (.Return (some e) pos) (Xv te):=by
 intro pins s σ H D I h
 exact wpAny_Return_some (ś (he pins s σ H _ I h) fun v s1 ⟨x,H1,I1,r1,q1⟩=>⟨x,σ,H1,I1,r1,q1⟩)
def Xw(c:TT)(t u:TS):TS:=fun D σ H=>c σ H fun b H1=>if b=true then t D σ H1 else u D σ H1
theorem Mq{c:Expr}{a b:List Stmt}{tc:TT}(hc:PT X c tc)(ha:jd X a t)(hb:jd X b u):PS X (.If c a b pos) (Xw tc t u):=by
 intro pins s σ H D I h
 refine wpAny_If (ś (hc pins s σ H _ I h) fun d s1 ⟨H1,I1,q1⟩=>?_)
 cases d with
 |true=>exact ha pins s1 σ H1 D I1 q1
 |false=>exact hb pins s1 σ H1 D I1 q1
def Hg:TS:=fun _ _ _=>False
theorem wK:PS X st Hg:=fun _ _ _ _ _ _ h=>h.elim
end
abbrev TG:=V→St→Hp→(St→Hp→Prop)→Prop
abbrev wL:=List V→St→Hp→(St→Hp→Prop)→Prop
def PG(X:Cx)(target:Expr)(t:TG):Prop:=
 ∀(pins:List (Addr×Obj)) (s:Shared) (σ:St) (H:Hp) (v:V) (u:Value) (Q:St→Hp→Prop),Inv X pins σ H s→RelV v u→t v σ H Q→
  wpAny (model X.prog X.w) X.A (assign target X.env u) (fun _ s'=>∃σ' H',Inv X pins σ' H' s'∧Q σ' H') X.xe s
def qD(X:Cx)(ts:List Expr)(t:wL):Prop:=
 ∀(pins:List (Addr×Obj)) (s:Shared) (σ:St) (H:Hp) (vs:List V) (us:List Value) (Q:St→Hp→Prop),Inv X pins σ H s→Vals vs us→t vs σ H Q→
  wpAny (model X.prog X.w) X.A (assignInOrder ((assignEach ts X.env).map (·.2)) us) (fun _ s'=>∃σ' H',Inv X pins σ' H' s'∧Q σ' H') X.xe s
abbrev Hh:=V→V→V→Hp→(Hp→Prop)→Prop
def Mr(X:Cx)(t:Hh):Prop:=
 ∀(pins:List (Addr×Obj)) (s:Shared) (σ:St) (H:Hp) (o i v:V) (ov iv u:Value) (Q:Hp→Prop),Inv X pins σ H s→RelV o ov→RelV i iv→RelV v u→t o i v H Q→
  wpAny (model X.prog X.w) X.A (setItem ov iv u) (fun _ s'=>∃H',Inv X pins σ H' s'∧Q H') X.xe s
section
variable{X:Cx}{pos:Pos}
def Fj(i:Nat):TG:=fun v σ H Q=>Q (σ.set i (some v)) H
theorem Ck{i:Nat}{x:Str}(hN:X.N.Nodup)(hi:X.N[i]?=some x)(hx:Loc X.env.scope x)(hf:X.fn x=true∨X.env.scope.names.lookup x=some .local:=by first|exact .inl rfl|exact .inr rfl|assumption):PG X (.Name x pos) (Fj i):=by
 intro pins s σ H v u Q I r h
 exact wpAny_assign_Name (oW I hN hi hx r (fun s' I'=>⟨_,H,I',h⟩) hf)
def Xx:wL:=fun vs σ H Q=>vs=[]∧Q σ H
def Ms(t:TG)(u:wL):wL:=fun vs σ H Q=>∃v r,vs=v::r∧t v σ H fun σ' H'=>u r σ' H' Q
theorem Cm:qD X [] Xx:=by
 intro pins s σ H vs us Q I r h
 obtain⟨e,h⟩:=h
 subst e
 cases r
 exact assignInOrder_nil ⟨σ,H,I,h⟩
theorem wM{e:Expr}{es:List Expr}{t:TG}{u:wL}(h1:PG X e t)(h2:qD X es u)
 (hs:(assignEach (e::es) X.env).map (·.2)=assign e X.env::(assignEach es X.env).map (·.2):=by rfl):qD X (e::es) (Ms t u):=by
 intro pins s σ H vs us Q I r h
 obtain⟨v,vr,e1,h⟩:=h
 subst e1
 cases r with
 |cons r rr=>
  rw[hs]
  refine assignInOrder_cons (ś (h1 pins s σ H _ _ _ I r h) fun _ s1 ⟨σ1,H1,I1,q1⟩=>?_)
  exact h2 pins s1 σ1 H1 _ _ Q I1 rr q1
def Xy(K:PySem.W.Frag)(n:Nat)(t:wL):TG:=fun v σ H Q=>∃a xs,v=.ref a∧cJ K H a xs∧xs.length=n∧t xs σ H Q
theorem wN{es:List Expr}{k:Nat}{t:wL}{n:Nat}(hc:X.calm=true)(h:qD X es t)
 (hn:(assignEach es X.env).length=n:=by rfl)(hst:(assignEach es X.env).findIdx? (·.1)=none:=by rfl):PG X (.Tuple es k pos) (Xy X.K n t):=by
 intro pins s σ H v u Q I r hw
 obtain⟨a,xs,e1,hq,hl,hw⟩:=hw
 subst e1
 cases r
 obtain⟨its,rv,ht,hz⟩:=I.tuple hq
 refine assign_Tuple_tuple (I.ok.hd hc) ht (by simp[hn,←hl,rv.length]) hst fun h' hx=>?_
 have I1:Inv X pins σ H {s with heap:=h'}:=I.kept (t':=s.toks) fun b o e=>hx b o (Nat.ne_of_lt (Heap.lt_size e)) e
 exact h pins _ σ H xs _ Q I1 (by simpa using rv) hw
def Xz(to ti:TE)(t:Hh):TG:=fun v σ H Q=>to σ H fun o H1=>ti σ H1 fun i H2=>t o i v H2 fun H3=>Q σ H3
theorem Hi{o i:Expr}{to ti:TE}{t:Hh}(ho:PE X o to)(hi:PE X i ti)(hs:Mr X t)
 (ha:∀v,assign (.Subscript o i pos) X.env v=(do
   let ov ←holding [v] (eval o X.env)
   let iv ←holding [v,ov] (eval i X.env)
   standAt pos
   holding [v,ov,iv] (setItem ov iv v)
   release [v,ov,iv] []):=by intro _;rfl):PG X (.Subscript o i pos) (Xz to ti t):=by
 intro pins s σ H v u Q I r h
 rw[ha]
 refine wpAny_bind (wpAny_holding (ś (ho pins s σ H _ I h) fun ov s1 ⟨x,H1,I1,r1,q1⟩=>?_))
 refine wpAny_bind (wpAny_holding (ś (hi pins s1 σ H1 _ I1 q1) fun iv s2 ⟨y,H2,I2,r2,q2⟩=>?_))
 refine wpAny_bind (wpAny_standAt (wpAny_bind (wpAny_holding (ś (hs pins s2 σ H2 x y v ov iv u _ I2 r1 r2 r q2) fun _ s3 ⟨H3,I3,q3⟩=>?_))))
 exact wpAny_release ⟨σ,H3,I3,q3⟩
def Mt(te:TE)(g:TG):TS:=fun D σ H=>te σ H fun x H1=>g x σ H1 D.nx
theorem wO{tg e:Expr}{te:TE}{g:TG}(he:PE X e te)(hg:PG X tg g)(hs:swapsWithSole [tg] e pos.line X.env=pure false:=by rfl)(hw:swappedStores [tg] e X.env=pure none:=by rfl)
 (h1:(assignEach [tg] X.env).map (·.2)=[assign tg X.env]:=by rfl):PS X (.Assign [tg] e pos) (Mt te g):=by
 intro pins s σ H D I h
 refine wpAny_Assign_stores (ś (he pins s σ H _ I h) fun v s1 ⟨x,H1,I1,r1,q1⟩=>?_) hs hw
 rw[h1]
 exact ś (hg pins s1 σ H1 x v _ I1 r1 q1) fun _ s2 q=>q
theorem Hj{i:Nat}{x:Str}{e:Expr}{te:TE}{pos':Pos}(hN:X.N.Nodup)(hi:X.N[i]?=some x)(hx:Loc X.env.scope x)(he:PE X e te)(hs:swapsWith e (some (.Name x pos')) pos.line X.env=pure false:=by rfl)(hf:X.fn x=true∨X.env.scope.names.lookup x=some .local:=by first|exact .inl rfl|exact .inr rfl|assumption) :
 PS X (.Assign [.Name x pos'] e pos) (Mt te (Fj i)):=by
 intro pins s σ H D I h
 refine wpAny_Assign_Name (ś (he pins s σ H _ I h) fun v s1 ⟨y,H1,I1,r1,q1⟩=>?_) hs
 exact oW I1 hN hi hx r1 (fun s2 I2=>⟨_,H1,I2,q1⟩) hf
end
section
variable{X:Cx}{pos:Pos}
end
structure It where
 go:Nat→Hp→Prop
 Vb:Nat→Hp→V→Hp→Prop
 stop:Nat→Hp→Prop
def iw(X:Cx)(pins:List (Addr×Obj))(H:Hp)(b:Addr):Prop:=
 H b=none∧b≠X.env.locals∧b∉X.fs∧(b∈X.ex∨X.s₀.heap.objs.size≤b)∧(∀x c,X.env.cells.lookup x=some c→c≠b)∧∀p∈X.pn++pins,p.1≠b
theorem Inv.Cp{X:Cx}{pins:List (Addr×Obj)}{σ:St}{H H':Hp}{s:Shared}{b:Addr}(I:Inv X pins σ H s)(hb:s.heap.objs.size≤b)(hn:H' b=none):iw X pins H' b:=by
 refine⟨hn,Nat.ne_of_gt (Nat.lt_of_lt_of_le I.lt hb),I.Xn hb,.inr (Nat.le_trans I.sz hb),fun x c e z=>?_,fun p hp z=>?_⟩
 ·obtain⟨v,q⟩:=I.cell x c e
  exact absurd (Nat.lt_of_lt_of_le q.lt (by rw[z];exact hb)) (Nat.lt_irrefl _)
 ·exact absurd (Nat.lt_of_lt_of_le (Heap.lt_size (I.pin p hp).1) (by rw[z];exact hb)) (Nat.lt_irrefl _)
structure Turn(P:Program)(w:World)(K:PySem.W.Frag)(tg:Expr)(J:It)(fp:List Addr)(it:Addr)(tn:Nat→Heap→Prop):Prop where
 mem:it∈fp
 obj:∀i h,tn i h→∀b∈fp,∃o,h.get? b=some o∧∀v,o.data≠ .cell v
 keep:∀i h h',tn i h→(∀b∈fp,∀o,h.get? b=some o→h'.get? b=some o)→tn i h'
 item:∀(X:Cx),X.prog=P→X.w=w→X.K=K→X.calm=true→∀(i:Nat) (pins:List (Addr×Obj)) (s:Shared) (σ:St) (H:Hp) (E:Value→Shared→Prop),Inv X pins σ H s→(∀b∈fp,iw X pins H b)→tn i s.heap→J.go i H→
  wpAny (model P w) X.A (pyNext (.ref it)) (fun r s1=>∃u,r=some u∧
   wpAny (model P w) X.A (letOwnedTupleGo tg (.ref it) u) (fun _ s2=>∃x H',Inv X pins σ H' s2∧RelV x u∧J.Vb i H x H'∧tn (i+1) s2.heap∧∀b∈fp,H' b=none) E s1) E s
 done:∀(X:Cx),X.prog=P→X.w=w→X.K=K→X.calm=true→∀(i:Nat) (pins:List (Addr×Obj)) (s:Shared) (σ:St) (H:Hp) (E:Value→Shared→Prop),Inv X pins σ H s→(∀b∈fp,iw X pins H b)→tn i s.heap→J.stop i H→
  wpAny (model P w) X.A (pyNext (.ref it)) (fun r s1=>r=none∧Inv X pins σ H s1) E s
 self:∀(A:Around) (i:Nat) (s:Shared) (Q:Value→Shared→Prop) (E:Value→Shared→Prop),tn i s.heap→Q (.ref it) s→wpAny (model P w) A (pyIter (.ref it)) Q E s
abbrev TI:=St→Hp→(It→Hp→Prop)→Prop
def PIE(X:Cx)(pins:List (Addr×Obj))(σ:St)(tg:Expr)(R:It→Hp→Prop)(itv:Value)(s2:Shared):Prop:=
 ∃(it:Addr) (fp:List Addr) (tn:Nat→Heap→Prop) (J:It) (H':Hp),itv=.ref it∧Inv X pins σ H' s2∧Turn X.prog X.w X.K tg J fp it tn∧tn 0 s2.heap∧(∀b∈fp,iw X pins H' b)∧R J H'
def PI(X:Cx)(tg iter:Expr)(wi:TI):Prop:=
 ∀(pins:List (Addr×Obj)) (s:Shared) (σ:St) (H:Hp) (R:It→Hp→Prop),Inv X pins σ H s→wi σ H R→
  wpAny (model X.prog X.w) X.A (eval iter X.env) (fun v s1=>wpAny (model X.prog X.w) X.A (pyIter v) (PIE X pins σ tg R) X.xe s1) X.xe s
theorem sZ{M:Model}{A:Around}{E:Value→Shared→Prop}{s:Shared}{tg:Expr}{it:Addr}{u:Value}{o:Obj}{n:String}{vs:Array Value}{Q:Unit→Shared→Prop}(ho:s.heap.get? it=some o)(hc:o.cls=.type n)(hd:o.data=.fields vs)
 (hn:["enumerate","zip","dict_itemiterator","dict_reverseitemiterator","odict_iterator","itertools.zip_longest","itertools.pairwise"].contains n=false)(hQ:Q () s):wpAny M A (letOwnedTupleGo tg (.ref it) u) Q E s:=by
 unfold letOwnedTupleGo
 cases tg<;>first
  |exact wpAny_pure hQ
  |(cases u<;>first
     |exact wpAny_pure hQ
     |(refine wpAny_bind (wpAny_load ho ?_)
       rw[hc,hd]
       show wpAny M A (if(["enumerate","zip","dict_itemiterator","dict_reverseitemiterator","odict_iterator","itertools.zip_longest","itertools.pairwise"].contains n && vs[0]?== some (rawInt _))=true then _ else _) Q E s
       rw[if_neg (by intro h;rw[hn,Bool.false_and] at h;cases h)]
       exact wpAny_pure hQ))
def Itl(K:PySem.W.Frag)(a:Addr):It:=
 ⟨fun i H=>∃xs x,Ż K H a xs∧xs[i]?=some x,fun i H x H'=>H'=H∧∀xs,Ż K H a xs→xs[i]?=some x,fun i H=>∃xs,Ż K H a xs∧xs.length≤i⟩
def Itt(K:PySem.W.Frag)(a:Addr):It:=
 ⟨fun i H=>∃xs x,cJ K H a xs∧xs[i]?=some x,fun i H x H'=>H'=H∧∀xs,cJ K H a xs→xs[i]?=some x,fun i H=>∃xs,cJ K H a xs∧xs.length≤i⟩
def Vc(lo:Int)(n:Nat):It:=⟨fun i _=>i<n,fun i H x H'=>H'=H∧x=.int (lo+i),fun i _=>n≤i⟩
theorem vo{P:Program}{w:World}{K:PySem.W.Frag}{tg:Expr}(a it:Addr):Turn P w K tg (Itl K a) [it] it (fun i h=>h.IsListIter it a i) where
 mem:=by simp
 obj:=fun i h st b hb=>by
  have e:b=it:=by simpa using hb
  subst e
  obtain⟨o,e,c,d⟩:=st
  exact⟨o,e,fun v z=>by rw[d] at z;cases z⟩
 keep:=fun i h h' st k=>st.at fun o e=>k it (by simp) o e
 item:=by
  intro X hP hw hK hc i pins s σ H E I hf st hg
  subst hP hw hK
  obtain⟨xs,x,hq,hx⟩:=hg
  obtain⟨its,rv,p,hz⟩:=I.list hq
  obtain⟨u,hu,ru⟩:=rv.get hx
  obtain⟨f0,f1,f2,f3,f4,f5⟩:=hf it (by simp)
  refine wpAny_pyNext_list_item st p.isList (x:=u) (by simpa using hu) fun h' st' sb=>?_
  have I1:Inv X pins σ H {s with heap:=h'}:=I.turned (t':=s.toks) (fun b o hb e=>(sb.2 b hb).trans e) f0 f1 f3 f4 f5
  obtain⟨o,e,c,d⟩:=id st'
  exact⟨u,rfl,sZ (s:={s with heap:=h'}) e c d (by decide) ⟨x,H,I1,ru,⟨rfl,fun ys hy=>by rw[I.wH hy hq];exact hx⟩,st',fun b hb=>(hf b hb).1⟩⟩
 done:=by
  intro X hP hw hK hc i pins s σ H E I hf st hg
  subst hP hw hK
  obtain⟨xs,hq,hx⟩:=hg
  obtain⟨its,rv,p,hz⟩:=I.list hq
  obtain⟨f0,f1,f2,f3,f4,f5⟩:=hf it (by simp)
  have hl:=rv.length
  exact wpAny_pyNext_list_end (I.ok.hd hc) st p.isList (by simp;omega) fun h' eb=>⟨rfl,I.turned (t':=s.toks) (fun b o hb e=>eb b o hb e) f0 f1 f3 f4 f5⟩
 self:=fun _ _ _ _ _ st h=>wpAny_pyIter_listiter st h
theorem qF{P:Program}{w:World}{K:PySem.W.Frag}{tg:Expr}(a it:Addr):Turn P w K tg (Itt K a) [it] it (fun i h=>h.IsTupleIter it a i) where
 mem:=by simp
 obj:=fun i h st b hb=>by
  have e:b=it:=by simpa using hb
  subst e
  obtain⟨o,e,c,d⟩:=st
  exact⟨o,e,fun v z=>by rw[d] at z;cases z⟩
 keep:=fun i h h' st k=>st.at fun o e=>k it (by simp) o e
 item:=by
  intro X hP hw hK hc i pins s σ H E I hf st hg
  subst hP hw hK
  obtain⟨xs,x,hq,hx⟩:=hg
  obtain⟨its,rv,p,hz⟩:=I.tuple hq
  obtain⟨u,hu,ru⟩:=rv.get hx
  obtain⟨f0,f1,f2,f3,f4,f5⟩:=hf it (by simp)
  refine wpAny_pyNext_tuple_item st (show s.heap.IsTuple a its.toArray from p) (x:=u) (by simpa using hu) fun h' st' sb=>?_
  have I1:Inv X pins σ H {s with heap:=h'}:=I.turned (t':=s.toks) (fun b o hb e=>(sb.2 b hb).trans e) f0 f1 f3 f4 f5
  obtain⟨o,e,c,d⟩:=id st'
  exact⟨u,rfl,sZ (s:={s with heap:=h'}) e c d (by decide) ⟨x,H,I1,ru,⟨rfl,fun ys hy=>by rw[I.vm hy hq];exact hx⟩,st',fun b hb=>(hf b hb).1⟩⟩
 done:=by
  intro X hP hw hK hc i pins s σ H E I hf st hg
  subst hP hw hK
  obtain⟨xs,hq,hx⟩:=hg
  obtain⟨its,rv,p,hz⟩:=I.tuple hq
  obtain⟨f0,f1,f2,f3,f4,f5⟩:=hf it (by simp)
  have hl:=rv.length
  exact wpAny_pyNext_tuple_end (I.ok.hd hc) st (show s.heap.IsTuple a its.toArray from p) (by simp;omega) fun h' eb=>⟨rfl,I.turned (t':=s.toks) (fun b o hb e=>eb b o hb e) f0 f1 f3 f4 f5⟩
 self:=fun _ _ _ _ _ st h=>wpAny_pyIter_tupleiter st h
theorem qG{P:Program}{w:World}{K:PySem.W.Frag}{tg:Expr}(it:Addr)(lo:Int)(n:Nat):Turn P w K tg (Vc lo n) [it] it (fun i h=>IsRangeIter h it (lo+(i:Nat)*1) ((n:Int)-(i:Nat)) 1) where
 mem:=by simp
 obj:=fun i h st b hb=>by
  have e:b=it:=by simpa using hb
  subst e
  exact⟨_,st,fun v z=>by
   have z':Data.fields _=Data.cell v:=z
   cases z'⟩
 keep:=fun i h h' st k=>k it (by simp) _ st
 item:=by
  intro X hP hw hK hc i pins s σ H E I hf st hg
  subst hP hw hK
  obtain⟨f0,f1,f2,f3,f4,f5⟩:=hf it (by simp)
  have W:=Walks.range (prog:=X.prog) (w:=X.w) (I.ok.hd hc) it lo 1 n
  refine W.item i s _ _ hg st fun v h' tk hv st' kk=>?_
  obtain⟨t,rfl⟩:=hv
  have I1:Inv X pins σ H {s with heap:=h',toks:=tk}:=I.turned (fun b o hb e=>kk b o (by simpa using hb) e) f0 f1 f3 f4 f5
  refine⟨_,rfl,sZ (s:={s with heap:=h',toks:=tk}) (n:= "range_iterator") st' rfl rfl (by decide) ⟨.int (lo+i),H,I1,⟨t,?_⟩,⟨rfl,rfl⟩,st',fun b hb=>(hf b hb).1⟩⟩
  rw[Int.mul_one]
 done:=by
  intro X hP hw hK hc i pins s σ H E I hf st hg
  subst hP hw hK
  obtain⟨f0,f1,f2,f3,f4,f5⟩:=hf it (by simp)
  exact wpAny_pyNext_range_end (I.ok.hd hc) st (by have:n≤i:=hg;omega) fun h' eb=>⟨rfl,I.turned (t':=s.toks) (fun b o hb e=>eb b o hb e) f0 f1 f3 f4 f5⟩
 self:=fun _ _ _ _ _ st h=>wpAny_pyIter_rangeiter st h
end L2
namespace L2
open PySem PySem.Spec PyProof.Rows
section
variable{X:Cx}{tg:Expr}
theorem wQ{pins:List (Addr×Obj)}{σ:St}{H:Hp}{s:Shared}{R:It→Hp→Prop}{E:Value→Shared→Prop}{lo hi:Int}{t u v:Tok}{tk:Nat}(I:Inv X pins σ H s)(h1: -(2 ^ 62)≤lo)(h2:lo<2 ^ 62)(h3: -(2 ^ 62)≤hi)(h4:hi<2 ^ 62)
 (q:R (Vc lo (hi-lo).toNat) H):wpAny (model X.prog X.w) X.A (pyIter (.ref s.heap.objs.size)) (PIE X pins σ tg R) E {s with heap:=s.heap.push {cls:=.type "range",data:=.fields #[.int lo t,.int hi u,.int 1 v]},toks:=tk}:=by
 refine wpAny_pyIter_range (IsRange.new ..) (small_one h1 h2 h3 h4) ?_
 have I1:Inv X pins σ H {s with heap:=s.heap.push {cls:=.type "range",data:=.fields #[.int lo t,.int hi u,.int 1 v]},toks:=tk}:=I.kept fun b o e=>Heap.get?_push_of_some _ e
 refine⟨(s.heap.push {cls:=.type "range",data:=.fields #[.int lo t,.int hi u,.int 1 v]}).objs.size,[(s.heap.push {cls:=.type "range",data:=.fields #[.int lo t,.int hi u,.int 1 v]}).objs.size],_,_,H,rfl,
  I1.kept (t':=tk) fun b o e=>Heap.get?_push_of_some _ e,qG _ lo (hi-lo).toNat,?_,fun b hb=>?_,q⟩
 ·have e1:lo+((0:Nat):Int)*1=lo:=by simp
  have e2:(((hi-lo).toNat:Nat):Int)-((0:Nat):Int)=Builtin.Range.rangeSize lo hi 1:=by rw[rangeSize_one];split<;>omega
  show IsRangeIter _ _ (lo+((0:Nat):Int)*1) ((((hi-lo).toNat:Nat):Int)-((0:Nat):Int)) 1
  rw[e1,e2]
  exact Heap.get?_push_size _ rfl
 ·have e:b=(s.heap.push {cls:=.type "range",data:=.fields #[.int lo t,.int hi u,.int 1 v]}).objs.size:=by simpa using hb
  subst e
  exact I1.Cp (Nat.le_refl _) (I1.hok.fresh (Nat.le_refl _))
def Mu(ta:TA):TI:=fun σ H R=>ta σ H fun vs H1=>∃j:Int,vs=[.int j]∧ -(2 ^ 62)≤j∧j<2 ^ 62∧R (Vc 0 j.toNat) H1
theorem vp{a:Expr}{ta:TA}{p pos:Pos}(hg:Gl X "range")(hm:X.mg "range" =none)(ha:PA X [a] ta)(hs:starEach [a] X.env=[(false,eval a X.env)]:=by rfl):PI X tg (.Call (.Name "range" p) [a] [] pos) (Mu ta):=by
 intro pins s σ H R I h
 refine Call_ (mX I hg hm boot_range (PyProof.Rows.callWith_type1 (ś (ha pos pins s σ H _ I h) fun us s1 ⟨vs,H1,I1,r1,q1⟩=>?_) hs rfl))
 obtain⟨j,e,q1,q2,q⟩:=q1
 subst e
 cases r1 with
 |cons r rr=>
  cases rr
  obtain⟨t,rfl⟩:=r
  exact call_range_1 (wQ I1 (by omega) (by omega) q1 q2 (by simpa using q))
def XC(wi:TI)(g:TG)(tb:TS):TS:=fun D σ H=>wi σ H fun J H1=>∃W:Nat→Nat→St→Hp→Prop,(∃m,W 0 m σ H1)∧∀i m σ H,W i m σ H→
 (J.stop i H∧D.nx σ H)∨(J.go i H∧∃N:St→Hp→Prop,(∀σ' H',N σ' H'→∃m',m'<m∧W (i+1) m' σ' H')∧∀x H',J.Vb i H x H'→g x σ H' fun σ2 H2=>tb {D with nx:=N,ct:=N,bk:=D.nx} σ2 H2)
def gw(fp:List Addr)(h:Heap):List (Addr×Obj):=fp.filterMap fun b=>(h.get? b).map fun o=>(b,o)
theorem ŷ{fp:List Addr}{h:Heap}{b:Addr}{o:Obj}(hb:b∈fp)(e:h.get? b=some o):(b,o)∈gw fp h:=List.mem_filterMap.mpr ⟨b,hb,by rw[e];rfl⟩
theorem vq{fp:List Addr}{h:Heap}{p:Addr×Obj}(hp:p∈gw fp h):p.1∈fp∧h.get? p.1=some p.2:=by
 obtain⟨b,hb,e⟩:=List.mem_filterMap.mp hp
 cases q:h.get? b with
 |none=>rw[q] at e;cases e
 |some o=>
  rw[q] at e
  have e':(b,o)=p:=Option.some.inj e
  subst e'
  exact⟨hb,q⟩
theorem Inv.pinned{pins:List (Addr×Obj)}{σ:St}{H:Hp}{s:Shared}{fp:List Addr}(I:Inv X pins σ H s)(hf:∀b∈fp,iw X pins H b)(ho:∀b∈fp,∃o,s.heap.get? b=some o∧∀v,o.data≠ .cell v):Inv X (pins++gw fp s.heap) σ H s:=
 I.sX fun p hp=>(List.mem_append.mp hp).elim (fun z=>I.pin p (List.mem_append_right _ z)) fun z=>by
   obtain⟨hb,e⟩:=vq z
   obtain⟨f0,f1,f2,_⟩:=hf p.1 hb
   obtain⟨o,e',d⟩:=ho p.1 hb
   rw[e] at e';cases e'
   exact⟨e,f0,f1,f2,d⟩
theorem Inv.cL{pins pl:List (Addr×Obj)}{σ:St}{H:Hp}{s:Shared}(I:Inv X (pins++pl) σ H s):Inv X pins σ H s:=I.sX fun p hp=>I.pin p (List.mem_append_right _ (List.mem_append_left _ hp))
theorem Hl{iter:Expr}{body:List Stmt}{wi:TI}{g:TG}{tb:TS}{pos:Pos}(hp:PassesOwn (model X.prog X.w) X.A X.env X.xe)(hc:X.calm=true)(hi:PI X tg iter wi)(hg:PG X tg g)(hb:jd X body tb)
 (hs:∀x,foldedSetIterable iter X.env x=pure x:=by intro _;rfl):PS X (.For tg iter body [] pos) (XC wi g tb):=by
 intro pins s σ H D I h
 refine wpAny_For (ś (hi pins s σ H _ I h) fun v s1 h1=>ś h1 fun itv s2 h2=>?_) hs
 obtain⟨it,fp,tn,J,H2,e,I2,T,st2,f2,W,⟨m0,w0⟩,turn⟩:=h2
 subst e
 -- what stays true of the iterator's objects through the loop
 have stat:∀{H':Hp},(∀b∈fp,H' b=none)→∀b∈fp,iw X pins H' b:=fun hn b hb=>⟨hn b hb,(f2 b hb).2⟩
 refine codeAny_forLoop_any (fun n s'=>∃i σ' H',Inv X pins σ' H' s'∧tn i s'.heap∧(∀b∈fp,H' b=none)∧W i n σ' H') ?_ m0 ⟨0,σ,H2,I2,st2,fun b hb=>(f2 b hb).1,w0⟩
 rintro n s3 ⟨i,σ3,H3,I3,st3,fr3,w3⟩
 rcases turn i n σ3 H3 w3 with⟨stop,qn⟩|⟨go,N,hN,step⟩
 ·refine wpAny_passesOwn hp (ś (T.done X rfl rfl rfl hc i pins s3 σ3 H3 X.xe I3 (stat fr3) st3 stop) fun r s4 ⟨hr,I4⟩=>?_)
  subst hr
  exact wpAny_execs_nil ⟨σ3,H3,I4,qn⟩
 ·refine wpAny_passesOwn hp (ś (T.item X rfl rfl rfl hc i pins s3 σ3 H3 X.xe I3 (stat fr3) st3 go) fun r s4 ⟨u,hr,h4⟩=>?_)
  subst hr
  refine wpAny_passesOwn hp (ś h4 fun _ s5 ⟨x,H5,I5,r5,y5,Cq,Ho⟩=>?_)
  have I5':=I5.pinned (stat Ho) (T.obj _ _ Cq)
  refine wpAny_passesOwn hp (ś (hg _ s5 σ3 H5 x u _ I5' r5 (step x H5 y5)) fun _ s6 ⟨σ6,H6,I6,q6⟩=>?_)
  refine wpAny_passesOwn hp (ś (hb _ s6 σ6 H6 _ I6 q6) fun f s7 q7=>?_)
  have again:∀{σ7:St} {H7:Hp},Inv X (pins++gw fp s5.heap) σ7 H7 s7→N σ7 H7→∃m,m<n∧∃i σ' H',Inv X pins σ' H' s7∧tn i s7.heap∧(∀b∈fp,H' b=none)∧W i m σ' H':=fun{σ7 H7} I7 n7=>by
   obtain⟨m',hm,w7⟩:=hN σ7 H7 n7
   refine⟨m',hm,i+1,σ7,H7,I7.cL,T.keep _ _ _ Cq fun b hb o e=>(I7.pin (b,o) (List.mem_append_right _ (List.mem_append_right _ (ŷ hb e)))).1,fun b hb=>?_,w7⟩
   obtain⟨o,e,d⟩:=T.obj _ _ Cq b hb
   exact(I7.pin (b,o) (List.mem_append_right _ (List.mem_append_right _ (ŷ hb e)))).2.1
  cases f with
  |next=>obtain⟨σ7,H7,I7,n7⟩:=q7;exact again I7 n7
  |cont=>obtain⟨σ7,H7,I7,n7⟩:=q7;exact again I7 n7
  |brk=>obtain⟨σ7,H7,I7,q7⟩:=q7;exact⟨σ7,H7,I7.cL,q7⟩
  |ret v=>obtain⟨x7,σ7,H7,I7,r7,q7⟩:=q7;exact⟨x7,σ7,H7,I7.cL,r7,q7⟩
end
end L2
namespace L2
open PySem PySem.Spec PyProof.Rows
abbrev R2:=V→V→Hp→VK→Prop
def aq(X:Cx)(f:Value→Value→Sem Value)(r:R2):Prop:=
 ∀(pins:List (Addr×Obj)) (s:Shared) (σ:St) (H:Hp) (x y:V) (v u:Value) (Q:VK),Inv X pins σ H s→RelV x v→RelV y u→r x y H Q→
  wpAny (model X.prog X.w) X.A (f v u) (EP X pins σ Q) X.xe s
def Cr(X:Cx)(f:Value→Sem Value)(r:V→Hp→VK→Prop):Prop:=
 ∀(pins:List (Addr×Obj)) (s:Shared) (σ:St) (H:Hp) (x:V) (v:Value) (Q:VK),Inv X pins σ H s→RelV x v→r x H Q→
  wpAny (model X.prog X.w) X.A (f v) (EP X pins σ Q) X.xe s
def ŗ(X:Cx)(f:Value)(r:List V→Hp→VK→Prop):Prop:=
 ∀(pins:List (Addr×Obj)) (s:Shared) (σ:St) (H:Hp) (xs:List V) (us:List Value) (Q:VK),Inv X pins σ H s→Vals xs us→r xs H Q→
  wpAny (model X.prog X.w) X.A (call f us) (EP X pins σ Q) X.xe s
def XD(X:Cx)(r:V→Hp→(Bool→Hp→Prop)→Prop):Prop:=
 ∀(pins:List (Addr×Obj)) (s:Shared) (σ:St) (H:Hp) (x:V) (v:Value) (Q:Bool→Hp→Prop),Inv X pins σ H s→RelV x v→r x H Q→
  wpAny (model X.prog X.w) X.A (truthy v) (TP X pins σ Q) X.xe s
def Hq(r:R2)(ta tb:TE):TE:=fun σ H Q=>ta σ H fun x H1=>tb σ H1 fun y H2=>r x y H2 Q
def tUn(r:V→Hp→VK→Prop)(ta:TE):TE:=fun σ H Q=>ta σ H fun x H1=>r x H1 Q
def rI(C:Int→Int→Prop)(g:Int→Int→V):R2:=fun x y H Q=>∃i j,x=.int i∧y=.int j∧C i j∧Q (g i j) H
def Hr(g:Int→Int→V):R2:=fun x y H Q=>∃i j,x=.int i∧y=.int j∧Q (g i j) H
def rU(g:Int→V):V→Hp→VK→Prop:=fun x H Q=>∃i,x=.int i∧Q (g i) H
section
variable{X:Cx}{a b c:Expr}{ta tb tc:TE}{pos:Pos}
theorem Hs(ha:PE X a ta)(hb:PE X b tb){pins:List (Addr×Obj)}{s:Shared}{σ:St}{H:Hp}{R:V→V→Hp→Prop}(I:Inv X pins σ H s)
 (h:ta σ H fun x H1=>tb σ H1 fun y H2=>R x y H2){Q:Value→Shared→Prop}{f:Value→Value→Sem Value}
 (hf:∀v u s2 x y H2,Inv X pins σ H2 s2→RelV x v→RelV y u→R x y H2→wpAny (model X.prog X.w) X.A (f v u) Q X.xe s2) :
 wpAny (model X.prog X.w) X.A (eval a X.env) (fun v s₁=>wpAny (model X.prog X.w) X.A (eval b X.env) (fun u s₂=>wpAny (model X.prog X.w) X.A (f v u) Q X.xe s₂) X.xe s₁) X.xe s:=by
 refine ś (ha pins s σ H _ I h) fun v s1 ⟨x,H1,I1,r1,q1⟩=>?_
 refine ś (hb pins s1 σ H1 _ I1 q1) fun u s2 ⟨y,H2,I2,r2,q2⟩=>?_
 exact hf v u s2 x y H2 I2 r1 r2 q2
theorem Fo{op:Operator}{r:R2}(ho:aq X (binaryOp op) r)(ha:PE X a ta)(hb:PE X b tb):PE X (.BinOp a op b pos) (Hq r ta tb):=by
 intro pins s σ H Q I h
 exact wpAny_BinOp (Hs ha hb I h fun v u s2 x y H2 I2 rx ry q=>ho pins s2 σ H2 x y v u Q I2 rx ry q)
theorem Mv{op:UnaryOp}{r:V→Hp→VK→Prop}(ho:Cr X (unaryOp op) r)(ha:PE X a ta):PE X (.UnaryOp op a pos) (tUn r ta):=by
 intro pins s σ H Q I h
 exact UnaryOp_ (ś (ha pins s σ H _ I h) fun v s1 ⟨x,H1,I1,r1,q1⟩=>ho pins s1 σ H1 x v Q I1 r1 q1)
theorem wB{f:Value→Value→Sem Value}{C:Int→Int→Prop}{g:Int→Int→Int}
 (rule:∀(i j:Int) (t u:Tok) (s:Shared) (Q:Value→Shared→Prop) (E:Value→Shared→Prop),C i j→Q (.int (g i j) s.toks) {s with toks:=s.toks+1}→wpAny (model X.prog X.w) X.A (f (.int i t) (.int j u)) Q E s) :
 aq X f (rI C fun i j=>.int (g i j)):=by
 intro pins s σ H x y v u Q I rx ry h
 obtain⟨i,j,rfl,rfl,hc,q⟩:=h
 obtain⟨t,rfl⟩:=rx
 obtain⟨t',rfl⟩:=ry
 exact rule i j t t' s _ _ hc ⟨.int (g i j),H,I.tok _,⟨_,rfl⟩,q⟩
theorem vA{f:Value→Value→Sem Value}{g:Int→Int→Int}
 (rule:∀(i j:Int) (t u:Tok) (s:Shared) (Q:Value→Shared→Prop) (E:Value→Shared→Prop),Q (.int (g i j) s.toks) {s with toks:=s.toks+1}→wpAny (model X.prog X.w) X.A (f (.int i t) (.int j u)) Q E s) :
 aq X f (Hr fun i j=>.int (g i j)):=by
 intro pins s σ H x y v u Q I rx ry h
 obtain⟨i,j,rfl,rfl,q⟩:=h
 obtain⟨t,rfl⟩:=rx
 obtain⟨t',rfl⟩:=ry
 exact rule i j t t' s _ _ ⟨.int (g i j),H,I.tok _,⟨_,rfl⟩,q⟩
theorem Mw{f:Value→Value→Sem Value}{g:Int→Int→Bool}
 (rule:∀(i j:Int) (t u:Tok) (s:Shared) (Q:Value→Shared→Prop) (E:Value→Shared→Prop),Q (.bool (g i j)) s→wpAny (model X.prog X.w) X.A (f (.int i t) (.int j u)) Q E s) :
 aq X f (Hr fun i j=>.bl (g i j)):=by
 intro pins s σ H x y v u Q I rx ry h
 obtain⟨i,j,rfl,rfl,q⟩:=h
 obtain⟨t,rfl⟩:=rx
 obtain⟨t',rfl⟩:=ry
 exact rule i j t t' s _ _ ⟨.bl (g i j),H,I,rfl,q⟩
def Ht(i j:Int):Prop:=0≤j∧j≤1000000∧i.natAbs<2 ^ 64
def Hu(i j:Int):Prop:=(-(2 ^ 64)<i∧i<2 ^ 64)∨(-(2 ^ 64)<j∧j<2 ^ 64)
theorem Hu.ok{i j:Int}(h:Hu i j):IntMulOk i j:=by
 rcases h with⟨h1,h2⟩|⟨h1,h2⟩
 ·exact .of_left (intBits_le_64 h1 h2)
 ·exact .of_right (intBits_le_64 h1 h2)
theorem Hv:aq X (binaryOp .Add) (Hr fun i j=>.int (i+j)):=vA fun _ _ _ _ _ _ _ q=>add_int q
theorem Hw:aq X (binaryOp .Sub) (Hr fun i j=>.int (i-j)):=vA fun _ _ _ _ _ _ _ q=>sub_int q
theorem Cu:aq X (binaryOp .Mod) (rI (fun _ j=>j≠0) fun i j=>.int (i.fmod j)):=wB fun _ _ _ _ _ _ _ hc q=>mod_int' hc q
theorem Hx:aq X (binaryOp .Pow) (rI Ht fun i j=>.int (i ^ j.toNat)):=wB fun _ _ _ _ _ _ _ hc q=>pow_int_small hc.1 hc.2.1 hc.2.2 q
theorem unI{f:Value→Sem Value}{g:Int→Int}
 (rule:∀(i:Int) (t:Tok) (s:Shared) (Q:Value→Shared→Prop) (E:Value→Shared→Prop),Q (.int (g i) s.toks) {s with toks:=s.toks+1}→wpAny (model X.prog X.w) X.A (f (.int i t)) Q E s) :
 Cr X f (rU fun i=>.int (g i)):=by
 intro pins s σ H x v Q I rx h
 obtain⟨i,rfl,q⟩:=h
 obtain⟨t,rfl⟩:=rx
 exact rule i t s _ _ ⟨.int (g i),H,I.tok _,⟨_,rfl⟩,q⟩
theorem Hy:Cr X (unaryOp .USub) (rU fun i=>.int (-i)):=unI fun _ _ _ _ _ q=>neg_int q
end
section
variable{X:Cx}{a b c:Expr}{ta tb tc:TE}{pos:Pos}
theorem Mx:aq X (compareOp .Lt) (Hr fun i j=>.bl (decide (i<j))):=Mw fun _ _ _ _ _ _ _ q=>lt_int q
theorem Mz:aq X (compareOp .LtE) (Hr fun i j=>.bl (decide (i≤j))):=Mw fun _ _ _ _ _ _ _ q=>le_int q
theorem aq.or{f:Value→Value→Sem Value}{r r':R2}(h:aq X f r)(h':aq X f r'):aq X f (fun x y H Q=>r x y H Q∨r' x y H Q):=by
 intro pins s σ H x y v u Q I rx ry q
 rcases q with q|q
 ·exact h pins s σ H x y v u Q I rx ry q
 ·exact h' pins s σ H x y v u Q I rx ry q
theorem ĩ(b:Expr){op:CmpOp}(h:op≠ .In:=by decide)(h2:op≠ .NotIn:=by decide):behindInMarks op b=false:=by
 have e1:(op== CmpOp.In)=false:=by cases op<;>first|rfl|exact absurd rfl h
 have e2:(op== CmpOp.NotIn)=false:=by cases op<;>first|rfl|exact absurd rfl h2
 cases b<;>simp[behindInMarks,e1,e2]
theorem Cv{op:CmpOp}{r:R2}(ho:aq X (compareOp op) r)(ha:PE X a ta)(hb:PE X b tb)(hm:behindInMarks op b=false):PE X (.Compare a [op] [b] pos) (Hq r ta tb):=by
 intro pins s σ H Q I h
 exact wpAny_Compare1 (Hs ha hb I h fun v u s2 x y H2 I2 rx ry q=>ho pins s2 σ H2 x y v u Q I2 rx ry q) hm
def Hz(K:PySem.W.Frag)(x:V)(H:Hp)(k:Bool):Prop:=
 match x with
 | .non=>k=false
 | .bl b=>k=b
 | .int i=>k=(i != 0)
 | .str y=>y.length≤sizeLine∧k=((y.length:Int) != 0)
 | .Fg y=>y.size≤sizeLine∧k=((y.size:Int) != 0)
 | .ref p=>(∃xs,Ż K H p xs∧k=!xs.isEmpty)∨(∃xs,cJ K H p xs∧k=!xs.isEmpty)∨∃kvs,H p=some (.dK kvs)∧k=!kvs.isEmpty
 |_=>False
theorem qH{κ:Type}{kvs:List (κ×V)}{vs:List (κ×Value)}(r:KV kvs vs):(!vs.isEmpty)=!kvs.isEmpty:=by
 cases r<;>rfl
theorem je{xs:List V}{its:List Value}(r:Vals xs its):(!its.toArray.isEmpty)=!xs.isEmpty:=by
 cases r<;>simp
theorem gA:(sizeLine:Nat)<2 ^ 63:=by rw[sizeLine_eq];decide
theorem HB:XD X (fun x H Q=>∃k,Hz X.K x H k∧Q k H):=by
 intro pins s σ H x v Q I rx h
 obtain⟨k,e,q⟩:=h
 have hl:=gA
 have hs:sizeLine=16777216:=sizeLine_eq
 cases x with
 |non=>
  cases rx
  have e':k=false:=e
  subst e'
  exact truthy_none ⟨H,I,q⟩
 |bl b=>
  cases rx
  have e':k=b:=e
  subst e'
  exact wpAny_truthy_bool ⟨H,I,q⟩
 |int i=>
  obtain⟨t,rfl⟩:=rx
  have e':k=(i != 0):=e
  subst e'
  exact PySem.P.truthy_int ⟨H,I,q⟩
 |str y=>
  obtain⟨t,rfl⟩:=rx
  obtain⟨hy,e'⟩:y.length≤sizeLine∧k=((y.length:Int) != 0):=e
  subst e'
  exact PySem.P.truthy_str (by omega) ⟨H,I.tok _,q⟩
 |Fg y=>
  obtain⟨t,rfl⟩:=rx
  obtain⟨hy,e'⟩:y.size≤sizeLine∧k=((y.size:Int) != 0):=e
  subst e'
  exact PySem.W.truthy_bytes (by omega) ⟨H,I.tok _,q⟩
 |ref p=>
  cases rx
  have e':(∃xs,Ż X.K H p xs∧k=!xs.isEmpty)∨(∃xs,cJ X.K H p xs∧k=!xs.isEmpty)∨∃kvs,H p=some (.dK kvs)∧k=!kvs.isEmpty:=e
  rcases e' with⟨xs,hx,e'⟩|⟨xs,hx,e'⟩|⟨kvs,hx,e'⟩
  ·subst e'
   obtain⟨its,r,pl,hz⟩:=I.list hx
   have hlen:=r.length
   exact wpAny_truthy_list pl.isList (by simp only[List.size_toArray];omega) ⟨H,I.tok _,by rw[je r];exact q⟩
  ·subst e'
   obtain⟨its,r,pl,hz⟩:=I.tuple hx
   have hlen:=r.length
   exact truthy_tuple pl (by simp only[List.size_toArray];omega) ⟨H,I.tok _,by rw[je r];exact q⟩
  ·subst e'
   obtain⟨hz,hS,vs,r,m⟩:kvs.length≤sizeLine∧(p== sysModules)=false∧∃vs,KV kvs vs∧s.heap.DictOf (mR X.prog X.w) p vs:=I.hok p _ hx
   have hlen:kvs.length=vs.length:=Paired.length r
   exact wpAny_truthy_dict hS m (by omega) ⟨H,I.tok _,by rw[qH r];exact q⟩
 |_=>exact(show False from e).elim
theorem wR(ha:PE X a ta)(he:∀whole,isTrue a X.env whole=(do let v ←whole;standAt a.pos;holding [v] (truthy v))) :
 PT X a (fun σ H Q=>ta σ H fun x H'=>∃k,Hz X.K x H' k∧Q k H'):=by
 intro pins s σ H Q I h
 exact isTrue_plain (ś (ha pins s σ H _ I h) fun v s1 ⟨x,H1,I1,r1,q1⟩=>HB pins s1 σ H1 x v Q I1 r1 q1) (he _)
theorem qI:aq X (binaryOp .Add) (fun x y H Q=>∃i j,x=.str i∧y=.str j∧i.length+j.length≤sizeLine∧Q (.str (i++j)) H):=by
 intro pins s σ H x y v u Q I rx ry h
 obtain⟨i,j,rfl,rfl,hz,q⟩:=h
 obtain⟨t,rfl⟩:=rx
 obtain⟨t',rfl⟩:=ry
 exact add_str (fun t' tk=>⟨.str (i++j),H,I.tok _,⟨_,rfl⟩,q⟩) hz
theorem vals1{x:V}{us:List Value}(r:Vals [x] us):∃u,us=[u]∧RelV x u:=by
 cases r with
 |cons r1 r2=>cases r2;exact⟨_,rfl,r1⟩
theorem vals2{x y:V}{us:List Value}(r:Vals [x,y] us):∃u w',us=[u,w']∧RelV x u∧RelV y w':=by
 cases r with
 |cons r1 r2=>
  cases r2 with
  |cons r3 r4=>cases r4;exact⟨_,_,rfl,r1,r3⟩
theorem vB(hc:X.calm=true):ŗ X (.builtin "max") (fun xs H Q=>∃i j,xs=[.int i,.int j]∧Q (.int (if j>i then j else i)) H):=by
 intro pins s σ H xs us Q I r h
 obtain⟨i,j,rfl,q⟩:=h
 obtain⟨u,w',rfl,⟨t,rfl⟩,⟨t',rfl⟩⟩:=vals2 r
 refine max_two_ints (I.ok.hd hc) fun h' tk k=>⟨_,H,I.kept k,?_,q⟩
 by_cases hj:j>i
 ·rw[if_pos hj,if_pos hj];exact⟨_,rfl⟩
 ·rw[if_neg hj,if_neg hj];exact⟨_,rfl⟩
theorem vC(hc:X.calm=true):ŗ X (.builtin "min") (fun xs H Q=>∃i j,xs=[.int i,.int j]∧Q (.int (if j<i then j else i)) H):=by
 intro pins s σ H xs us Q I r h
 obtain⟨i,j,rfl,q⟩:=h
 obtain⟨u,w',rfl,⟨t,rfl⟩,⟨t',rfl⟩⟩:=vals2 r
 refine min_two_ints (I.ok.hd hc) fun h' tk k=>⟨_,H,I.kept k,?_,q⟩
 by_cases hj:j<i
 ·rw[if_pos hj,if_pos hj];exact⟨_,rfl⟩
 ·rw[if_neg hj,if_neg hj];exact⟨_,rfl⟩
theorem mY:ŗ X (.type "str") (fun xs H Q=>∃i,xs=[.int i]∧i.natAbs.log2<1920∧Q (.str (toString i)) H):=by
 intro pins s σ H xs us Q I r h
 obtain⟨i,rfl,hz,q⟩:=h
 obtain⟨u,rfl,t,rfl⟩:=vals1 r
 exact PySem.P.str_of_int hz ⟨.str _,H,I.tok _,⟨_,rfl⟩,q⟩
def XF(K:PySem.W.Frag)(x:V)(H:Hp)(n:Nat):Prop:=
 match x with
 | .str y=>y.length≤sizeLine∧n=y.length
 | .Fg y=>y.size≤sizeLine∧n=y.size
 | .ref p=>(∃xs,Ż K H p xs∧n=xs.length)∨∃xs,cJ K H p xs∧n=xs.length
 |_=>False
theorem wU:ŗ X (.builtin "len") (fun xs H Q=>∃x n,xs=[x]∧XF X.K x H n∧Q (.int n) H):=by
 intro pins s σ H xs us Q I r h
 obtain⟨x,n,rfl,e,q⟩:=h
 obtain⟨u,rfl,rx⟩:=vals1 r
 have hl:=gA
 have hs:sizeLine=16777216:=sizeLine_eq
 cases x with
 |str y=>
  obtain⟨t,rfl⟩:=rx
  obtain⟨hy,e'⟩:y.length≤sizeLine∧n=y.length:=e
  subst e'
  exact len_str (by omega) ⟨.int _,H,I.tok _,⟨_,rfl⟩,q⟩
 |Fg y=>
  obtain⟨t,rfl⟩:=rx
  obtain⟨hy,e'⟩:y.size≤sizeLine∧n=y.size:=e
  subst e'
  exact PySem.W.len_bytes (by omega) ⟨.int _,H,I.tok _,⟨_,rfl⟩,q⟩
 |ref p=>
  cases rx
  have e':(∃xs,Ż X.K H p xs∧n=xs.length)∨∃xs,cJ X.K H p xs∧n=xs.length:=e
  rcases e' with⟨xs,hx,e'⟩|⟨xs,hx,e'⟩
  ·subst e'
   obtain⟨its,r',pl,hz⟩:=I.list hx
   have hlen:=r'.length
   exact Calls.call_len_list pl.isList (by simp only[List.size_toArray];omega) ⟨.int xs.length,H,I.tok _,⟨_,by simp only[List.size_toArray];rw[hlen]⟩,q⟩
  ·subst e'
   obtain⟨its,r',pl,hz⟩:=I.tuple hx
   have hlen:=r'.length
   exact len_tuple pl (by simp only[List.size_toArray];omega) ⟨.int xs.length,H,I.tok _,⟨_,by simp only[List.size_toArray];rw[hlen]⟩,q⟩
 |_=>exact(show False from e).elim
end
end L2
namespace L2
open PySem PySem.Spec PyProof.Rows
structure qJ(h:Heap)(x dx C:Addr)(mA:Str→Option Value):Prop where
 obj:h.get? x=some (PySem.W.instObj C dx)
 ns:h.Ns1 dx mA
 ne:dx≠x
theorem vD{h:Heap}{dx:Addr}{mA:Str→Option Value}(n:h.Ns1 dx mA):∃od,h.get? dx=some od∧∀name,PySem.W.lookIn name od=some (mA name):=by
 obtain⟨o,es,ep,ho,hd,hk,_,hm⟩:=n
 refine⟨o,ho,fun name=>?_⟩
 have e:=hm name
 unfold nsFind findBy at e
 rw[←Array.find?_toList] at e
 unfold PySem.W.lookIn
 rw[hd]
 dsimp only
 split
 ·rename_i y q
  rw[q] at e
  exact congrArg some e
 ·rename_i q
  rw[q] at e
  have a:es.toList.any (·.refKey)=false:=by
   rw[List.any_eq_false]
   intro y hy
   obtain⟨z,t,hkey⟩:=hk y (Array.mem_toList_iff.mp hy)
   simp[DictEntry.refKey,hkey]
  have a':¬es.toList.any (·.refKey)=true:=by rw[a];exact Bool.false_ne_true
  rw[if_neg a']
  exact congrArg some e
theorem qJ.look{h:Heap}{x dx C:Addr}{mA:Str→Option Value}(I:qJ h x dx C mA):∃od,PySem.W.InstAt h x (PySem.W.instObj C dx) C (some od)∧∀name,PySem.W.lookIn name od=some (mA name):=
 let ⟨od,ho,hl⟩:=vD I.ns
 ⟨od,⟨I.obj,rfl,rfl,ho⟩,hl⟩
section
variable{prog:Program}{w:World}{A:Around}{E:Value→Shared→Prop}{s:Shared}{K:PySem.W.Frag}{x dx C f:Addr}{mA:Str→Option Value}{name:Str}{v:Value}
theorem get_map{expr:Bool}{Q:Value→Shared→Prop}(X:K.In s.heap)(I:qJ s.heap x dx C mA)(hg:PySem.W.plainGet K C name=true)(hh:PySem.W.hasDictIn K C=true)
 (ha:PySem.W.findIn K (.ref C) name=some none)(hv:mA name=some v)(hv':PySem.W.handedIn v=true)(h:Q v {s with toks:=s.toks+1}) :
 wpAny (model prog w) A (getAttr (.ref x) name expr) Q E s:=by
 obtain⟨od,J,hl⟩:=I.look
 exact PySem.W.get_value X J (PySem.W.plainGet_of hg).1 (PySem.W.findObj_own hh ha rfl (by rw[hl,hv])) hv' h
theorem wV{pl:Sem Bool}{Q:Value×List Value→Shared→Prop}(X:K.In s.heap)(I:qJ s.heap x dx C mA)(hg:PySem.W.plainGet K C name=true)
 (hf:PySem.W.findIn K (.ref C) name=some (some (.ref f)))(ht:PySem.W.isFn K (.ref f)=true)(hv:mA name=none)(h:Q (.ref f,[.ref x]) s) :
 wpAny (model prog w) A (getMethod (.ref x) name pl) Q E s:=by
 obtain⟨od,J,hl⟩:=I.look
 exact PySem.W.method_fn X J (PySem.W.plainGet_of hg).1 (PySem.W.plainGet_of hg).2 hf (beq_iff_eq.mp ht) (by show(PySem.W.lookIn name od).map (·.isSome)=some false;rw[hl,hv];rfl) h
theorem Cw{ns:List Str}{Q:Unit→Shared→Prop}(X:K.In s.heap)(I:qJ s.heap x dx C mA)
 (hs:PySem.W.findIn K (.ref C) "__setattr__" =some (some (.builtin "object.__setattr__")))(hp:PySem.W.plainOver K C=true)(ht:PySem.W.takerIn K C name=some none)(hh:PySem.W.hasDictIn K C=true)
 (hw:PySem.Within mA ns)(hsz:ns.length≤sizeLine)
 (h:∀h',qJ h' x dx C (fun y=>if y=name then some v else mA y)→Heap.SameBut dx s.heap h'→Q () {s with heap:=h',toks:=s.toks+2}) :
 wpAny (model prog w) A (setAttr (.ref x) name v) Q E s:=by
 obtain⟨od,J,hl⟩:=I.look
 refine PySem.W.set_plain X J hs (PySem.W.osa_open (s:={s with toks:=s.toks+1}) (r:=none) X J hp ht fun b=>?_)
 obtain⟨cd,hc,hd'⟩:=PySem.W.any_some hh
 have hx:s.heap.get? x=some ⟨.ref C,some dx,.plain,#[]⟩:=I.obj
 refine wpAny_bind (wpAny_pure (wpAny_bind (wpAny_bind (wpAny_loadPart hx (wpAny_bind (PySem.W.Looks.here (s:={s with toks:=s.toks+1}) (PySem.W.looks_clsIn X hc) ?_))))))
 rw[hd']
 refine wpAny_pure (a:=some dx) (wpAny_bind (wpAny_pure (wpAny_bind ?_)))
 refine wpAny_nsSet1 (s:={s with toks:=s.toks+1}) I.ns fun h' hn2 hs2=>?_
 obtain⟨oD,esD,epD,hoD,hdD,hcD⟩:=hn2.count (PySem.Within.cons name v hw)
 refine wpAny_bind (wpAny_lookBehind hoD (by rw[hdD];exact pastItsLine_dict (Nat.le_trans hcD (by rw[List.length_cons];omega))) ?_)
 exact wpAny_pure (h _ ⟨(hs2.2 _ (Ne.symm I.ne)).trans I.obj,hn2,I.ne⟩ hs2)
theorem wW{R:Result→Shared→Prop}{vs:List Value}{kw:List (Str×Value)}(X:K.In s.heap)(hm:PySem.W.makesIn K C=true)
 (hi:PySem.W.findIn K (.ref C) "__init__" =some (some (.ref f)))(hf:PySem.W.typeIn K (.ref f)=some (.type "function"))
 (h:codeAny (model prog w) (A.under (.builtin "type.__call__" ⟨.ref C::vs,kw⟩)) (.call (.ref f) ⟨.ref (s.heap.objs.size+1)::vs,kw⟩) (PySem.W.InitBack (s.heap.objs.size+1) R)
   {s with heap:=(s.heap.push PySem.W.emptyDict).push (PySem.W.instObj C s.heap.objs.size)}) :
 codeAny (model prog w) A (.call (.ref C) ⟨vs,kw⟩) R s:=by
 obtain⟨hh,g,d,t,os⟩:=s
 exact PySem.W.make_core (PySem.W.makes_of X hm) (PySem.W.looks_findIn X hi) (fun self=>PySem.W.bind_fn X self hf) (.inl rfl) h
end
def bL(f:Str)(v:V):List (Str×V)→List (Str×V)
 | []=>[(f,v)]
 |(g,x)::r=>if g=f then(g,v)::r else(g,x)::bL f v r
theorem gQ(f g:Str)(v:V):∀fs:List (Str×V),(bL f v fs).lookup g=if g=f then some v else fs.lookup g
 | []=>by
   show List.lookup g [(f,v)]=_
   by_cases h:g=f
   ·have hb:(g== f)=true:=beq_iff_eq.mpr h
    simp only[List.lookup,hb,if_pos h]
   ·have hb:(g== f)=false:=beq_eq_false_iff_ne.mpr h
    simp only[List.lookup,hb,if_neg h]
 |(k,x)::r=>by
  have ih:=gQ f g v r
  rw[show bL f v ((k,x)::r)=(if k=f then(k,v)::r else(k,x)::bL f v r) from rfl]
  by_cases hk:k=f
  ·rw[if_pos hk]
   by_cases h:g=k
   ·have hb:(g== k)=true:=beq_iff_eq.mpr h
    simp only[List.lookup,hb,if_pos (h.trans hk)]
   ·have hb:(g== k)=false:=beq_eq_false_iff_ne.mpr h
    simp only[List.lookup,hb,if_neg (fun e:g=f=>h (e.trans hk.symm))]
  ·rw[if_neg hk]
   by_cases h:g=k
   ·have hb:(g== k)=true:=beq_iff_eq.mpr h
    simp only[List.lookup,hb,if_neg (fun e:g=f=>hk (h.symm.trans e))]
   ·have hb:(g== k)=false:=beq_eq_false_iff_ne.mpr h
    simp only[List.lookup,hb]
    exact ih
theorem gB(f:Str)(v:V):∀fs:List (Str×V),f∈(bL f v fs).map (·.1)∧∀g,g∈fs.map (·.1)→g∈(bL f v fs).map (·.1)
 | []=>⟨by simp[bL],fun g h=>by simp at h⟩
 |(k,x)::r=>by
  obtain⟨i1,i2⟩:=gB f v r
  rw[show bL f v ((k,x)::r)=(if k=f then(k,v)::r else(k,x)::bL f v r) from rfl]
  by_cases hk:k=f
  ·rw[if_pos hk]
   subst hk
   exact⟨by simp,fun g h=>by simpa using h⟩
  ·rw[if_neg hk]
   refine⟨?_,fun g h=>?_⟩
   ·rw[List.map_cons]
    exact List.mem_cons_of_mem _ i1
   ·rw[List.map_cons] at h ⊢
    rcases List.mem_cons.mp h with e|e
    ·exact List.mem_cons.mpr (.inl e)
    ·exact List.mem_cons_of_mem _ (i2 g e)
theorem gR(f:Str)(v:V):∀fs:List (Str×V),(bL f v fs).length≤fs.length+1
 | []=>by simp[bL]
 |(k,x)::r=>by
  have ih:=gR f v r
  rw[show bL f v ((k,x)::r)=(if k=f then(k,v)::r else(k,x)::bL f v r) from rfl]
  by_cases hk:k=f
  ·rw[if_pos hk,List.length_cons,List.length_cons];omega
  ·rw[if_neg hk,List.length_cons,List.length_cons];omega
theorem kE.some_of{v:V}{o:Option Value}(r:kE (some v) o):∃u,o=some u∧RelV v u:=by
 cases o with
 |none=>exact(show False from r).elim
 |some u=>exact⟨u,rfl,r⟩
theorem kE.none_of{o:Option Value}(r:kE none o):o=none:=by
 cases o with
 |none=>rfl
 |some u=>exact(show False from r).elim
theorem vG{v:V}{u:Value}(r:RelV v u):PySem.W.handedIn u=true:=by
 cases v with
 |non=>cases(show u=Value.none from r);rfl
 |bl b=>cases(show u=Value.bool b from r);rfl
 |int i=>obtain⟨t,e⟩:=(show ∃t,u=Value.int i t from r);cases e;rfl
 |str x=>obtain⟨t,e⟩:=(show ∃t,u=Value.str x t from r);cases e;rfl
 |Fg b=>obtain⟨t,e⟩:=(show ∃t,u=Value.bytes b t from r);cases e;rfl
 |flt b=>obtain⟨t,e⟩:=(show ∃t,u=Value.float b t from r);cases e;rfl
 |ref a=>cases(show u=Value.ref a from r);rfl
 |ty n=>cases(show u=Value.type n from r);rfl
section
variable{P:Program}{w:World}{H H':Hp}{h h':Heap}{a C dx:Addr}{fs fs':List (Str×V)}
theorem iM(hok:dR P w H h)(e:H a=some (.ins C dx fs)):∃mA,qJ h a dx C mA∧(∀f,kE (fs.lookup f) (mA f))∧PySem.Within mA (fs.map (·.1))∧fs.length≤1000∧H dx=some (.own a):=by
 obtain⟨d,z,ne,ob,mA,n,r,q⟩:=(show Ś P w H h a (.ins C dx fs) from hok a _ e)
 exact⟨mA,⟨ob,n,ne⟩,r,q,z,d⟩
end
structure Cls(K:PySem.W.Frag)(C:Addr):Prop where
 pg:PySem.W.plainGet K C Str.empty=true
 hd:PySem.W.hasDictIn K C=true
 po:PySem.W.plainOver K C=true
 sa:PySem.W.findIn K (.ref C) "__setattr__" =some (some (.builtin "object.__setattr__"))
theorem Cls.get{K:PySem.W.Frag}{C:Addr}(c:Cls K C)(f:Str):PySem.W.plainGet K C f=true:=c.pg
def Ŕ(K:PySem.W.Frag)(C:Addr)(f:Str):Prop:=PySem.W.findIn K (.ref C) f=some none
theorem Ŕ.taker{K:PySem.W.Frag}{C:Addr}{f:Str}(n:Ŕ K C f):PySem.W.takerIn K C f=some none:=by
 unfold PySem.W.takerIn
 rw[show PySem.W.findIn K (.ref C) f=some none from n]
 rfl
structure Meth(K:PySem.W.Frag)(C:Addr)(m:Str)(f:Addr):Prop where
 at_:PySem.W.findIn K (.ref C) m=some (some (.ref f))
 fn:PySem.W.isFn K (.ref f)=true
 kp:PySem.W.keepIn K (.ref f)=true
section
variable{X:Cx}{pins:List (Addr×Obj)}{σ:St}{H:Hp}{s:Shared}{a C dx:Addr}{fs:List (Str×V)}{f:Str}{v:V}{A:Around}{E:Value→Shared→Prop}
theorem qK{b:Bool}{Q:Value→Shared→Prop}(I:Inv X pins σ H s)(e:H a=some (.ins C dx fs))(c:Cls X.K C)(n:Ŕ X.K C f)(l:fs.lookup f=some v)
 (h:∀u s',Inv X pins σ H s'→RelV v u→Q u s'):wpAny (model X.prog X.w) A (getAttr (.ref a) f b) Q E s:=by
 obtain⟨mA,O,r,_,_,_⟩:=iM I.hok e
 obtain⟨u,hu,ru⟩:=kE.some_of (v:=v) (o:=mA f) (by rw[←l];exact r f)
 exact get_map I.fB O (c.get f) c.hd n hu (vG ru) (h u _ (I.tok _) ru)
theorem qL{m:Str}{g:Addr}{pl:Sem Bool}{Q:Value×List Value→Shared→Prop}(I:Inv X pins σ H s)(e:H a=some (.ins C dx fs))(c:Cls X.K C)(k:Meth X.K C m g)(l:fs.lookup m=none)
 (h:Q (.ref g,[.ref a]) s):wpAny (model X.prog X.w) A (getMethod (.ref a) m pl) Q E s:=by
 obtain⟨mA,O,r,_,_,_⟩:=iM I.hok e
 have hn:mA m=none:=kE.none_of (by rw[←l];exact r m)
 exact wV I.fB O (c.get m) k.at_ k.fn hn h
theorem qM{y:V}{u:Value}{Q:Unit→Shared→Prop}(I:Inv X pins σ H s)(e:H a=some (.ins C dx fs))(c:Cls X.K C)(n:Ŕ X.K C f)(hl:fs.length<1000)(ry:RelV y u)
 (h:∀s',Inv X pins σ (upd H a (.ins C dx (bL f y fs))) s'→Q () s'):wpAny (model X.prog X.w) A (setAttr (.ref a) f u) Q E s:=by
 obtain⟨mA,O,r,wi,_,ho⟩:=iM I.hok e
 have hz:(fs.map (·.1)).length≤sizeLine:=by rw[List.length_map,sizeLine_eq];omega
 refine Cw I.fB O c.sa c.po n.taker c.hd wi hz fun h' O' sb=>h _ ?_
 have hd:∃o,h'.get? dx=some o:=let ⟨o,_,_,e',_⟩:=O'.ns;⟨o,e'⟩
 refine I.write (x:=a) (e:=dx) (by rw[e];exact True.intro) (.inr ho) (fun b q hb z=>(sb.2 b hb).trans z) hd ?_
 refine⟨by rw[č O.ne];exact ho,?_,O.ne,O'.obj,_,O'.ns,fun g=>?_,fun g hg=>?_⟩
 ·have:=gR f y fs;omega
 ·show kE ((bL f y fs).lookup g) (if g=f then some u else mA g)
  rw[gQ]
  by_cases q:g=f
  ·rw[if_pos q,if_pos q];exact ry
  ·rw[if_neg q,if_neg q];exact r g
 ·by_cases q:g=f
  ·rw[q];exact(gB f y fs).1
  ·refine(gB f y fs).2 g (wi g fun z=>hg ?_)
   show(if g=f then some u else mA g)=none
   rw[if_neg q];exact z
theorem Inv.made(I:Inv X pins σ H s):Inv X pins σ (upd (upd H s.heap.objs.size (.own (s.heap.objs.size+1))) (s.heap.objs.size+1) (.ins C s.heap.objs.size []))
 {s with heap:=(s.heap.push PySem.W.emptyDict).push (PySem.W.instObj C s.heap.objs.size)}:=by
 have e1:(s.heap.push PySem.W.emptyDict).get? s.heap.objs.size=some PySem.W.emptyDict:=Heap.get?_push_size s.heap rfl
 have e2:((s.heap.push PySem.W.emptyDict).push (PySem.W.instObj C s.heap.objs.size)).get? (s.heap.objs.size+1)=some (PySem.W.instObj C s.heap.objs.size):=by
  have:=Heap.get?_push_size (s.heap.push PySem.W.emptyDict) (o:=PySem.W.instObj C s.heap.objs.size) rfl
  rwa [Heap.size_push] at this
 have e3:(s.heap.push PySem.W.emptyDict).Ns s.heap.objs.size (fun _=>none):=⟨PySem.W.emptyDict,#[],_,e1,rfl,(fun e he=>absurd he (by simp)),fun _=>rfl⟩
 have I1:=I.laid (a:=s.heap.objs.size) (o:=.own (s.heap.objs.size+1)) (h':=s.heap.push PySem.W.emptyDict) (t':=s.toks) (fun b u q=>Heap.get?_push_of_some _ q) (Nat.le_refl _) ⟨_,e1⟩
 refine I1.laid (a:=s.heap.objs.size+1) (o:=.ins C s.heap.objs.size []) (t':=s.toks) (fun b u q=>Heap.get?_push_of_some _ q) (Nat.le_of_eq (Heap.size_push _ _)) ?_
 have ne:s.heap.objs.size≠s.heap.objs.size+1:=Nat.ne_of_lt (Nat.lt_succ_self _)
 refine⟨by rw[č ne,ď],Nat.zero_le _,ne,e2,fun _=>none,(Heap.Ns1.of_empty e3).at fun o q=>Heap.get?_push_of_some _ q,fun _=>True.intro,fun y hy=>absurd rfl hy⟩
theorem Cy{prog:Program}{w:World}{env:Env}{e:Expr}{f:Str}{pos:Pos}{s:Shared}{Q:Value→Shared→Prop}(hb:attributeBase e f env (eval e env)=eval e env)
 (h:wpAny (model prog w) A (eval e env) (fun o s₁=>wpAny (model prog w) A (getAttr o f true) Q E s₁) E s):wpAny (model prog w) A (eval (.Attribute e f pos) env) Q E s:=
 Attribute_any_ h (by rw[arm_eval_Attribute,hb])
end
def XH(K:PySem.W.Frag)(ta:TE)(f:Str):TE:=fun σ H Q=>ta σ H fun x H1=>∃a C dx fs v,x=.ref a∧H1 a=some (.ins C dx fs)∧Cls K C∧Ŕ K C f∧fs.lookup f=some v∧Q v H1
def XJ(K:PySem.W.Frag)(ta tv:TE)(f:Str):TS:=fun D σ H=>tv σ H fun y H1=>ta σ H1 fun x H2=>∃a C dx fs,x=.ref a∧H2 a=some (.ins C dx fs)∧Cls K C∧Ŕ K C f∧fs.length<1000∧
 D.nx σ (upd H2 a (.ins C dx (bL f y fs)))
section
variable{X:Cx}{o e value:Expr}{f:Str}{pos pos' tpos:Pos}{ta tv:TE}
theorem HD(he:PE X e ta)(hb:attributeBase e f X.env (eval e X.env)=eval e X.env):PE X (.Attribute e f pos) (XH X.K ta f):=by
 intro pins s σ H Q I h
 refine Cy hb (ś (he pins s σ H _ I h) fun u s1 ⟨x,H1,I1,rx,a,C,dx,fs,v,ex,ea,c,n,l,q⟩=>?_)
 subst ex
 obtain rfl:u=Value.ref a:=rx
 exact qK I1 ea c n l fun u' s2 I2 ru=>⟨v,H1,I2,ru,q⟩
theorem HF(ha:PE X o ta)(hv:PE X value tv)(hs:swapsWith value (some (.Attribute o f pos')) pos.line X.env=pure false):PS X (.Assign [.Attribute o f pos'] value pos) (XJ X.K ta tv f):=by
 intro pins s σ H D I h
 refine plainObj_wpAny_Assign_Attribute (ś (hv pins s σ H _ I h) fun u s1 ⟨y,H1,I1,ry,q⟩=>ś (ha pins s1 σ H1 _ I1 q) fun ov s2 ⟨x,H2,I2,rx,a,C,dx,fs,ex,ea,c,n,l,q2⟩=>?_) hs
 subst ex
 obtain rfl:ov=Value.ref a:=rx
 exact qM I2 ea c n l ry fun s3 I3=>⟨σ,_,I3,q2⟩
end
section
variable{X:Cx}{pins:List (Addr×Obj)}{σ:St}{H:Hp}{s:Shared}{A:Around}{E:Value→Shared→Prop}{Q:Value→Shared→Prop}{c:Value}{b:Bool}
inductive gC(K:PySem.W.Frag)(H:Hp):V→Value→Prop where
 |non:gC K H .non (.type "NoneType")
 |bl (x:Bool):gC K H (.bl x) (.type "bool")
 |int (i:Int):gC K H (.int i) (.type "int")
 |str (x:Str):gC K H (.str x) (.type "str")
 |flt (x:UInt64):gC K H (.flt x) (.type "float")
 |lst {a:Addr} {xs:List V} (e:H a=some (.lst xs)):gC K H (.ref a) (.type "list")
 |ao {a:Addr} {o:Obj} {xs:List V} (e:H a=some (.ao o (.lst xs))):gC K H (.ref a) (.type "list")
 |tup {a:Addr} {xs:List V} (e:H a=some (.tup xs)):gC K H (.ref a) (.type "tuple")
 |dK {a:Addr} {kvs:List (Key×V)} (e:H a=some (.dK kvs)):gC K H (.ref a) (.type "dict")
 |dT {a:Addr} {kvs:List (List Key×V)} (e:H a=some (.dT kvs)):gC K H (.ref a) (.type "dict")
 |ins {a C dx:Addr} {fs:List (Str×V)} (e:H a=some (.ins C dx fs)) (cl:Cls K C) (ha:PySem.W.findIn K (.ref C) "__class__" =some (some (.builtin "object.__class__")))
   (hn:PySem.W.specialIn K (.builtin "object.__class__") "__get__" =some (some (.builtin "getset_descriptor.__get__"))) (htk:PySem.W.takesIn K (.builtin "object.__class__")=some true)
   (hm:PySem.W.mroIn K C (.type "object")=some true):gC K H (.ref a) (.ref C)
theorem bA{x:V}{u t:Value}(I:Inv X pins σ H s)(rx:RelV x u)(ty:gC X.K H x t)(e:PySem.W.kitOne X.K t c=some b)(h:∀tk,Q (.bool b) {s with toks:=tk}) :
 wpAny (model X.prog X.w) A (call (.builtin "isinstance") [u,c]) Q E s:=by
 cases ty with
 |non=>cases(show u=Value.none from rx);exact PySem.W.kia_one PySem.W.kitx_none I.fB True.intro e (fun z=>nomatch z) h
 |bl y=>cases(show u=Value.bool y from rx);exact PySem.W.kia_one PySem.W.kitx_bool I.fB True.intro e (fun z=>nomatch z) h
 |int i=>obtain⟨t,q⟩:=(show ∃t,u=Value.int i t from rx);cases q;exact PySem.W.kia_one PySem.W.kitx_int I.fB True.intro e (fun z=>nomatch z) h
 |str y=>obtain⟨t,q⟩:=(show ∃t,u=Value.str y t from rx);cases q;exact PySem.W.kia_one PySem.W.kitx_str I.fB True.intro e (fun z=>nomatch z) h
 |flt y=>obtain⟨t,q⟩:=(show ∃t,u=Value.float y t from rx);cases q;exact PySem.W.kia_one PySem.W.kitx_float I.fB True.intro e (fun z=>nomatch z) h
 |@lst a xs ea=>
  cases(show u=Value.ref a from rx)
  obtain⟨_,_,n,_,h1⟩:=(show Ś X.prog X.w H s.heap a (.lst xs) from I.hok a _ ea)
  exact PySem.W.kia_one PySem.W.kitx_list I.fB ⟨_,h1,rfl⟩ e (fun z=>nomatch z) h
 |@ao a ob xs ea=>
  cases(show u=Value.ref a from rx)
  obtain⟨_,_,_,n,_,h1⟩:=(show Ś X.prog X.w H s.heap a (.ao ob (.lst xs)) from I.hok a _ ea)
  exact PySem.W.kia_one PySem.W.kitx_list I.fB ⟨_,h1,rfl⟩ e (fun z=>nomatch z) h
 |@tup a xs ea=>
  cases(show u=Value.ref a from rx)
  obtain⟨_,_,_,p⟩:=(show Ś X.prog X.w H s.heap a (.tup xs) from I.hok a _ ea)
  obtain⟨o,h1,h2,_⟩:=p
  exact PySem.W.kia_one PySem.W.kitx_tuple I.fB ⟨o,h1,h2⟩ e (fun z=>nomatch z) h
 |@dK a kvs ea=>
  cases(show u=Value.ref a from rx)
  obtain⟨_,_,vs,_,p⟩:=(show Ś X.prog X.w H s.heap a (.dK kvs) from I.hok a _ ea)
  obtain⟨o,es,ep,h1,h2,_⟩:=p
  exact PySem.W.kia_one PySem.W.kitx_dict I.fB ⟨o,h1,h2.1⟩ e (fun z=>nomatch z) h
 |@dT a kvs ea=>
  cases(show u=Value.ref a from rx)
  obtain⟨_,_,xs,_,o,es,ep,h1,h2,_⟩:=(show Ś X.prog X.w H s.heap a (.dT kvs) from I.hok a _ ea)
  exact PySem.W.kia_one PySem.W.kitx_dict I.fB ⟨o,h1,h2.1⟩ e (fun z=>nomatch z) h
 |@ins a C dx fs ea cl ha hn htk hm=>
  cases(show u=Value.ref a from rx)
  obtain⟨mA,O,_⟩:=iM I.hok ea
  obtain⟨od,J,_⟩:=O.look
  exact PySem.W.kia_one (PySem.W.kitx_own (cl.get _) cl.hd ha hn htk hm) I.fB J e (fun z=>nomatch z) h
end
end L2
namespace L2
open PySem PySem.Spec PyProof.Rows
structure ž(k:Nat)(A:Around):Prop where
 hd:A.handled=none
 dp:A.depth+3*k+5<recursionLimit
 un:A.units+16*k+200<cLine
theorem ž.mono{j k:Nat}{A:Around}(r:ž k A)(h:j≤k):ž j A:=⟨r.hd,by have:=r.dp;omega,by have:=r.un;omega⟩
theorem ž.deeper{k:Nat}{A:Around}(r:ž (k+1) A)(env:Env):ž k (A.deeper env):=
 ⟨r.hd,by have:=r.dp;show A.depth+1+3*k+5<_;omega,by have:=r.un;show A.units+3+16*k+200<_;omega⟩
theorem qN{A:Around}{C:Addr}{us:List Value}{kw:List (Str×Value)}:(A.under (.builtin "type.__call__" ⟨.ref C::us,kw⟩)).depth=A.depth+1:=by
 first|rfl|simp[Around.under,Code.weight,Code.isCreation,Code.isGuard,Code.isCaller,Code.frames,Code.isFrame,guardIds]
theorem qO{A:Around}{C:Addr}{us:List Value}{kw:List (Str×Value)}:(A.under (.builtin "type.__call__" ⟨.ref C::us,kw⟩)).units=A.units+1:=by
 first|rfl|simp[Around.under,Code.cUnits,Code.frames,Code.isFrame]
theorem ž.make{k:Nat}{A:Around}(r:ž (k+1) A)(C:Addr)(us:List Value)(kw:List (Str×Value)):ž k (A.under (.builtin "type.__call__" ⟨.ref C::us,kw⟩)):=
 ⟨r.hd,by have:=r.dp;rw[qN];omega,by have:=r.un;rw[qO];omega⟩
theorem ž.depth{k:Nat}{A:Around}(r:ž k A):A.depth<recursionLimit:=by have:=r.dp;omega
theorem ž.units{k:Nat}{A:Around}(r:ž k A):A.units+64<cLine:=by have:=r.un;omega
def XM:TA:=fun _ H Q=>Q [] H
def MJ(ta:TE)(tr:TA):TA:=fun σ H Q=>ta σ H fun x H1=>tr σ H1 fun xs H2=>Q (x::xs) H2
section
variable{X:Cx}{e:Expr}{es:List Expr}{te:TE}{t:TA}{pos:Pos}
theorem qP:PA X [] XM:=fun _ _ _ _ H Q I h=>Calls.spliced_nil ⟨[],H,I,.nil,h⟩
theorem fG(ha:PE X e te)(hr:PA X es t)(hs:starEach (e::es) X.env=(false,eval e X.env)::starEach es X.env:=by rfl):PA X (e::es) (MJ te t):=by
 intro pos pins s σ H Q I h
 rw[hs]
 show wpAny _ _ (spliced ((false,eval e X.env)::backTo pos (starEach es X.env))) _ _ s
 refine Calls.spliced_cons (ś (ha pins s σ H _ I h) fun u s1 ⟨x,H1,I1,r1,q1⟩=>?_)
 exact ś (hr pos pins s1 σ H1 _ I1 q1) fun us s2 ⟨xs,H2,I2,r2,q2⟩=>⟨x::xs,H2,I2,.cons r1 r2,q2⟩
def XQ(t:TA):TE:=fun σ H Q=>t σ H fun xs H1=>xs.length≤sizeLine∧∀p,H1 p=none→Q (.ref p) (upd H1 p (.tup xs))
def XR(t:TA):TE:=fun σ H Q=>t σ H fun xs H1=>xs.length≤sizeLine∧∀p,H1 p=none→Q (.ref p) (upd H1 p (.lst xs))
theorem HJ{x1}(h:PA X es t):PE X (.Tuple es x1 pos) (XQ t):=by
 intro pins s σ H Q I hq
 refine wpAny_Tuple_spliced (ś (h pos pins s σ H _ I hq) fun us s1 ⟨xs,H1,I1,r,z,q⟩=>⟨by rw[←r.length];exact z,?_⟩)
 have hf:H1 s1.heap.objs.size=none:=I1.hok.fresh (Nat.le_refl _)
 refine⟨.ref s1.heap.objs.size,upd H1 s1.heap.objs.size (.tup xs),I1.laid (t':=s1.toks) (fun b u e=>Heap.get?_push_of_some _ e) (Nat.le_refl _) ?_,rfl,q _ hf⟩
 exact⟨z,us,r,⟨_,Heap.get?_push_size _ rfl,rfl,_,rfl⟩⟩
theorem HN(h:PA X es t):PE X (.List es pos) (XR t):=by
 intro pins s σ H Q I hq
 refine wpAny_List_spliced (ś (h pos pins s σ H _ I hq) fun us s1 ⟨xs,H1,I1,r,z,q⟩=>⟨by rw[←r.length];exact z,?_⟩)
 have hf:H1 s1.heap.objs.size=none:=I1.hok.fresh (Nat.le_refl _)
 refine⟨.ref s1.heap.objs.size,upd H1 s1.heap.objs.size (.lst xs),I1.laid (t':=s1.toks) (fun b u e=>Heap.get?_push_of_some _ e) (Nat.le_refl _) ?_,rfl,q _ hf⟩
 exact⟨z,us,0,r,Heap.get?_push_size _ rfl⟩
end
abbrev Sp:=List V→Hp→VK→XK→Prop
abbrev j_:=List Env→Hp→Shared→XK→Value→Shared→Prop
structure qQ(P:Program)(w:World)(K:PySem.W.Frag)(mg:Str→Option Value)(base:Heap)(A:Around)(outer:List Env)(s:Shared)(H:Hp):Prop where
 frames:A.frames=some outer
 mod:Mod K mg base
 bs:∀b o,base.get? b=some o→s.heap.get? b=some o∧H b=none
 Cd:base.objs.size≤s.heap.objs.size
 iu:s.heap.FunFrames base outer
 GK:∀b∈frs outer,H b=none
 hok:dR P w H s.heap
 bare:AllBare s.gens
def CE(outer:List Env)(P:Program)(w:World)(H:Hp)(s:Shared)(Q:VK)(u:Value)(s':Shared):Prop:=
 ∃v H',s'.os=s.os∧AllBare s'.gens∧Un (frs outer) [] H H' s.heap s'.heap∧dR P w H' s'.heap∧RelV v u∧Q v H'
def CR(CX:j_)(outer:List Env)(P:Program)(w:World)(H:Hp)(s:Shared)(Q:VK)(E:XK)(r:Result)(s':Shared):Prop:=
 match r with
 | .ok (.ret u)=>CE outer P w H s Q u s'
 | .ok _=>False
 | .error e=>CX outer H s E e s'
structure ľ(P:Program)(w:World)(K:PySem.W.Frag)(mg:Str→Option Value)(base:Heap)(CX:j_)(k:Nat)(f:Addr)(fd:FuncData)(ps:List Str)(sp:Sp):Prop where
 len:∀vs H Q E,sp vs H Q E→vs.length=ps.length
 run:∀(A:Around) (outer:List Env) (s:Shared) (H:Hp) (args:Args) (us:List Value) (vs:List V) (Q:VK) (E:XK),ž k A→qQ P w K mg base A outer s H→BindsTo s fd args (ps.zip us)→Vals vs us→sp vs H Q E→
  codeAny (model P w) A (.call (.ref f) args) (CR CX outer P w H s Q E) s
theorem ľ.mono{P:Program}{w:World}{K:PySem.W.Frag}{mg:Str→Option Value}{base:Heap}{CX:j_}{j k:Nat}{f:Addr}{fd:FuncData}{ps:List Str}{sp:Sp}(F:ľ P w K mg base CX j f fd ps sp)(h:j≤k) :
 ľ P w K mg base CX k f fd ps sp:=⟨F.len,fun A outer s H args us vs Q E hr=>F.run A outer s H args us vs Q E (hr.mono h)⟩
theorem ľ.imp{P:Program}{w:World}{K:PySem.W.Frag}{mg:Str→Option Value}{base:Heap}{CX:j_}{k:Nat}{f:Addr}{fd:FuncData}{ps:List Str}{sp sp':Sp}(F:ľ P w K mg base CX k f fd ps sp)
 (h:∀vs H Q E,sp' vs H Q E→sp vs H Q E):ľ P w K mg base CX k f fd ps sp':=
 ⟨fun vs H Q E q=>F.len vs H Q E (h _ _ _ _ q),fun A outer s H args us vs Q E hr he hb hv hs=>F.run A outer s H args us vs Q E hr he hb hv (h _ _ _ _ hs)⟩
theorem qQ.make{P:Program}{w:World}{K:PySem.W.Frag}{mg:Str→Option Value}{base:Heap}{A:Around}{outer:List Env}{s:Shared}{H:Hp}(e:qQ P w K mg base A outer s H)(C:Addr)(us:List Value)(kw:List (Str×Value)) :
 qQ P w K mg base (A.under (.builtin "type.__call__" ⟨.ref C::us,kw⟩)) outer s H:=⟨by first|exact e.frames|(simpa[Around.under,Code.envs,Code.isFrame,pushEnvs] using e.frames),e.mod,e.bs,e.Cd,e.iu,e.GK,e.hok,e.bare⟩
section
variable{X:Cx}{pins:List (Addr×Obj)}{σ:St}{H:Hp}{s s':Shared}
theorem Inv.env0(I:Inv X pins σ H s):qQ X.prog X.w X.K X.mg X.base X.A X.stack s H:=
 ⟨I.ok.frames,I.ok.mod,I.bs,Nat.le_trans I.ok.Cd I.sz,I.stack,I.mW,I.hok,I.bare⟩
theorem Inv.after{Q:VK}{u:Value}(I:Inv X pins σ H s)(h:CE X.stack X.prog X.w H s Q u s'):EP X pins σ Q u s':=by
 obtain⟨v,H',os,bare,un,hok,r,q⟩:=h
 obtain⟨hh,g,d,t,os'⟩:=s'
 obtain rfl:os'=s.os:=os
 exact⟨v,H',I.call (h':=hh) (g':=g) (d':=d) (t':=t) (ch:=[]) un hok bare (fun b z=>absurd z (by simp)),r,q⟩
end
def Binds(K:PySem.W.Frag)(fd:FuncData)(ps:List Str)(ds:List Value):Prop:=
 ∀(s:Shared) (us:List Value),K.In s.heap→(us++ds).length=ps.length→BindsTo s fd ⟨us,[]⟩ (ps.zip (us++ds))
theorem Binds.all{K:PySem.W.Frag}{fd:FuncData}{ps:List Str}(h:∀us:List Value,us.length=ps.length→bindArgs fd ⟨us,[]⟩=pure (ps.zip us)):Binds K fd ps []:=fun s us _ hl=>by
 rw[List.append_nil] at hl ⊢
 exact .of_eq (h us hl)
section
variable{X:Cx}{CX:j_}{k:Nat}{f C:Addr}{fd:FuncData}{ps:List Str}{sp:Sp}{dvs:List V}{ds:List Value}{E:XK}{x m:Str}{p pos apos:Pos}{e o:Expr}{es:List Expr}{ta:TE}{t:TA}
structure Mk(K:PySem.W.Frag)(C f:Addr):Prop where
 makes:PySem.W.makesIn K C=true
 init:PySem.W.findIn K (.ref C) "__init__" =some (some (.ref f))
 fn:PySem.W.isFn K (.ref f)=true
 kp:PySem.W.keepIn K (.ref C)=true
end
section
variable{X:Cx}{CX:j_}{k:Nat}{f C:Addr}{fd:FuncData}{ps ks:List Str}{sp:Sp}{E:XK}{x m:Str}{p pos apos kpos:Pos}{e o:Expr}{es:List Expr}{kws:List Keyword}{te ta:TE}{t tk:TA}{nm:Option Str}
variable{g:List Value→List Value→List Value}{gV:List V→List V→List V}
end
structure ģ(N P:List Str)(sc:Scope):Prop where
 kind:sc.kind=.function
 co:sc.isCoroutine=false
 gen:sc.isGenerator=false
 nd:N.Nodup
 pre:N.take P.length=P
 par:∀x∈P,sc.names.lookup x=some .local∨sc.names.lookup x=some .cell
 HS:∀y∈sc.names,y.2≠ .free
theorem lE{kindOf:Str→Option NameKind}{x:Str}:∀{binds:List (Str×Value)} {m:Str→Option Value},(∀v,(x,v)∉binds)→bindL kindOf binds m x=m x
 | [],_,_=>rfl
 |(n,v)::r,m,h=>by
  unfold bindL
  rw[lE fun w hw=>h w (List.mem_cons_of_mem _ hw)]
  split
  ·have:x≠n:=by rintro rfl;exact h v List.mem_cons_self
   simp[this]
  ·rfl
theorem lF{kindOf:Str→Option NameKind}{x:Str}:∀{binds:List (Str×Value)} {m:Str→Option Value},(∀v,(x,v)∉binds)→bindC kindOf binds m x=m x
 | [],_,_=>rfl
 |(n,v)::r,m,h=>by
  unfold bindC
  rw[lF fun w hw=>h w (List.mem_cons_of_mem _ hw)]
  split
  ·rfl
  ·have:x≠n:=by rintro rfl;exact h v List.mem_cons_self
   simp[this]
theorem lG{kindOf:Str→Option NameKind}{x:Str}{v:Value}:∀{P:List Str} {vs:List Value} {i:Nat} {m:Str→Option Value},P.Nodup→P[i]?=some x→vs[i]?=some v→kindOf x=some .local→
 bindL kindOf (P.zip vs) m x=some v
 | [],_,_,_,_,h,_,_=>by simp at h
 |_::_,[],_,_,_,_,h,_=>by simp at h
 |p::P,w::vs,0,m,nd,h1,h2,hk=>by
  simp at h1 h2;subst h1;subst h2
  show bindL kindOf ((p,w)::P.zip vs) m p=_
  unfold bindL
  rw[lE fun v hv=>(List.nodup_cons.mp nd).1 (List.of_mem_zip hv).1,if_pos hk]
  simp
 |p::P,w::vs,i+1,m,nd,h1,h2,hk=>by
  show bindL kindOf ((p,w)::P.zip vs) m x=_
  unfold bindL
  exact lG (i:=i) (List.nodup_cons.mp nd).2 (by simpa using h1) (by simpa using h2) hk
theorem lH{kindOf:Str→Option NameKind}{x:Str}{v:Value}:∀{P:List Str} {vs:List Value} {i:Nat} {m:Str→Option Value},P.Nodup→P[i]?=some x→vs[i]?=some v→kindOf x≠some .local→
 bindC kindOf (P.zip vs) m x=some v
 | [],_,_,_,_,h,_,_=>by simp at h
 |_::_,[],_,_,_,_,h,_=>by simp at h
 |p::P,w::vs,0,m,nd,h1,h2,hk=>by
  simp at h1 h2;subst h1;subst h2
  show bindC kindOf ((p,w)::P.zip vs) m p=_
  unfold bindC
  rw[lF fun v hv=>(List.nodup_cons.mp nd).1 (List.of_mem_zip hv).1,if_neg hk]
  simp
 |p::P,w::vs,i+1,m,nd,h1,h2,hk=>by
  show bindC kindOf ((p,w)::P.zip vs) m x=_
  unfold bindC
  exact lH (i:=i) (List.nodup_cons.mp nd).2 (by simpa using h1) (by simpa using h2) hk
def start(N:List Str)(vs:List V):St:=vs.map some++List.replicate (N.length-vs.length) none
def aB(CX:j_)(P:Program)(w:World)(K:PySem.W.Frag)(mg:Str→Option Value)(base:Heap)(N:List Str)(qual:Str)(scope:Scope)(f:Addr)(cd:Value)(A:Around)(outer:List Env)(s:Shared)(H:Hp)(E:XK):Cx where
 prog:=P
 w:=w
 K:=K
 mg:=mg
 base:=base
 A:=A.deeper (envOfC qual scope s.heap.objs.size f cd)
 N:=N
 s₀:= s
 H₀:= H
 env:=envOfC qual scope s.heap.objs.size f cd
 outer:=outer
 stack:=envOfC qual scope s.heap.objs.size f cd::outer
 ex:=[]
 calm:=true
 fn:=fun _=>true
 pn:=[]
 xe:=fun e s'=>wpAny (model P w) (A.deeper (envOfC qual scope s.heap.objs.size f cd)) (leaving (envOfC qual scope s.heap.objs.size f cd) e) (fun _ s''=>CX outer H s E e s'') (fun e' s''=>CX outer H s E e' s'') s'
theorem fH{sc:Scope}{n:Nat}{x:Str}(h:sc.names.lookup x=some .cell):∃c,(cellsFrom n sc.names []).lookup x=some c:=by
 have q:=PySem.W.cellsFrom_some sc.names n [] (.inl h)
 exact Option.isSome_iff_exists.mp q
theorem vH{CX:j_}{P:Program}{w:World}{K:PySem.W.Frag}{mg:Str→Option Value}{base:Heap}{N ps:List Str}{qual:Str}{scope:Scope}{f:Addr}{cd:Value}{A:Around}{outer:List Env}{s s1:Shared}{H:Hp}{E:XK}{us:List Value}{vs:List V}
 (S:ģ N ps scope)(hd:A.handled=none)(e0:qQ P w K mg base A outer s H)(hl:vs.length=ps.length)(r:Vals vs us)
 (x:InCallC s s.heap.objs.size (bindL (envOfC qual scope s.heap.objs.size f cd).kindOf (ps.zip us) fun _=>none) (cellsFrom (s.heap.objs.size+1) scope.names []) (bindC (envOfC qual scope s.heap.objs.size f cd).kindOf (ps.zip us) fun _=>none) s1) :
 Inv (aB CX P w K mg base N qual scope f cd A outer s H E) [] (start N vs) H s1:=by
 have hpl:ps.length≤N.length:=by have:=congrArg List.length S.pre;rw[List.length_take] at this;omega
 obtain⟨h1,tk,rfl,hk⟩:=x.done
 have MK:∀b:Addr,b∉(aB CX P w K mg base N qual scope f cd A outer s H E).ex:=fun b z=>absurd (show b∈([]:List Addr) from z) (by simp)
 refine⟨⟨e0.mod,S.kind,rfl,rfl,Nat.le_refl _,fun y z c h1 h2=>?_,fun y hy=>?_,fun y c _ h=>?_,fun _=>hd,Around.frames_deeper e0.frames,.inr ⟨rfl,rfl⟩,fun b z=>absurd z (MK b),e0.bs,e0.Cd,fun b _ _=>MK b,fun b z=>absurd z (MK b),e0.iu,e0.GK⟩,
  rfl,e0.bare,Un.kept hk,⟨_,x.toInCall.ns,fun i y v h1 h2 h3=>?_⟩,fun y c h=>⟨_,x.cell y c h⟩,e0.hok.fresh (Nat.le_refl _),fun y c h=>?_,fun p hp=>absurd (show p∈([]:List (Addr×Obj)) from hp) (by simp),e0.hok.kept hk,?_⟩
 ·exact name_of_addr x.apart (PySem.mem_of_lookup h1) (PySem.mem_of_lookup h2)
 ·have hy:scope.names.lookup y=some .cell∨scope.names.lookup y=some .free:=hy
  rcases hy with hy|hy
  ·exact fH hy
  ·exact absurd rfl (S.HS _ (PySem.mem_of_lookup hy))
 ·exact Nat.le_of_lt (x.above y c (PySem.mem_of_lookup h))
 ·have hi:i<vs.length:=by
   unfold start at h2
   by_cases hi:i<vs.length
   ·exact hi
   ·rw[List.getElem?_append_right (by simpa using hi)] at h2
    rw[List.getElem?_replicate] at h2
    split at h2<;>cases h2
  have ha:vs[i]?=some v:=by
   unfold start at h2
   rw[List.getElem?_append_left (by simpa using hi),List.getElem?_map] at h2
   cases e:vs[i]? with
   |none=>rw[e] at h2;cases h2
   |some a=>rw[e] at h2;cases h2;rfl
  obtain⟨u,hu,rv⟩:=r.get ha
  have hp:ps[i]?=some y:=by
   rw[←S.pre,List.getElem?_take_of_lt (by omega)];exact h1
  have ndP:ps.Nodup:=by rw[←S.pre];exact S.nd.sublist (List.take_sublist _ _)
  refine⟨u,rv,?_⟩
  rcases S.par y (List.mem_of_getElem? hp) with k|k
  ·exact .inl ⟨k,lG ndP hp hu k⟩
  ·obtain⟨c,e⟩:=fH (n:=s.heap.objs.size+1) k
   refine .inr ⟨.inl k,c,e,?_⟩
   have q:=x.cell y c e
   rw[lH ndP hp hu (by show scope.names.lookup y≠_;rw[k];decide)] at q
   exact q
 ·exact e0.hok.fresh (Nat.le_of_lt (x.above y c (PySem.mem_of_lookup h)))
 ·unfold start
  show _=N.length
  rw[List.length_append,List.length_map,List.length_replicate]
  omega
theorem Fp{CX:j_}{P:Program}{w:World}{K:PySem.W.Frag}{mg:Str→Option Value}{base:Heap}{k:Nat}{f:Addr}{name qual:Str}{params:Arguments}{body:List Stmt}{scope:Scope}{dV kV doc pm cdv ct oc:Value}{an od:Option Addr}
 {osl:Array (Option Value)}{N ps:List Str}{sp:Sp}(lk:K.lookup f=some ⟨oc,od,.func (PySem.W.fnOf name qual params body scope dV kV doc pm an cdv ct),osl⟩)(hcd:PySem.W.codeIn K cdv qual=true)(S:ģ N ps scope)
 (len:∀vs H Q E,sp vs H Q E→vs.length=ps.length)
 (hbody:∀(A:Around) (outer:List Env) (s:Shared) (H:Hp) (vs:List V) (Q:VK) (E:XK),ž k (A.deeper (envOfC qual scope s.heap.objs.size f cdv))→sp vs H Q E→
   ∃t,jd (aB CX P w K mg base N qual scope f cdv A outer s H E) body t∧t {nx:=fun _ H'=>Q .non H',rt:=Q} (start N vs) H) :
 ľ P w K mg base CX (k+1) f (PySem.W.fnOf name qual params body scope dV kV doc pm an cdv ct) ps sp:=by
 refine⟨len,fun A outer s H args us vs Q E hr e0 hb r hsp=>?_⟩
 have hl:=len _ _ _ _ hsp
 have KX:K.In s.heap:=e0.mod.UW.keeps fun b o e=>(e0.bs b o e).1
 have lim:s.heap.NoLimit:=e0.mod.nolimit.keeps fun b o e=>(e0.bs b o e).1
 have hkind:∀y∈ps.zip us,scope.names.lookup y.1=some .local∨(scope.names.lookup y.1=some .cell∧((cellsFrom (s.heap.objs.size+1) scope.names []).lookup y.1).isSome=true):=fun⟨n,v⟩ hy=>by
  rcases S.par n (List.of_mem_zip hy).1 with q|q
  ·exact .inl q
  ·exact .inr ⟨q,PySem.W.cellsFrom_some _ _ _ (.inl q)⟩
 refine codeAny_call_function hr.depth (KX _ _ lk) rfl S.co S.gen rfl (PySem.W.codeRec_of KX hcd) (hb _ _ _ _ ?_)
 refine wpAny_newFunctionEnv_cells S.kind hkind fun env he s1 x=>?_
 subst he
 refine⟨lim.keeps x.toInCall.keep,codeAny_func ?_⟩
 obtain⟨t,ht,hq⟩:=hbody A outer s H vs Q E (hr.deeper _) hsp
 have I:Inv (aB CX P w K mg base N qual scope f cdv A outer s H E) [] (start N vs) H s1:=vH S hr.hd e0 hl r x
 refine wpAny_mono (ht [] s1 (start N vs) H _ I hq) (fun fl s' hs=>?_) fun e s' hs=>hs
 have fin:∀{σ':St} {H':Hp} {v:V} {u:Value},Inv (aB CX P w K mg base N qual scope f cdv A outer s H E) [] σ' H' s'→RelV v u→Q v H'→CE outer P w H s Q u s':=
  fun{σ' H' v u} J rv q=>⟨v,H',J.os,J.bare,J.base,J.hok,rv,q⟩
 cases fl with
 |ret u=>
  obtain⟨v,σ',H',J,rv,q⟩:=hs
  exact fin J rv q
 |next=>
  obtain⟨σ',H',J,q⟩:=hs
  exact fin (v:=V.non) (u:=Value.none) J rfl q
 |brk=>
  obtain⟨_,_,_,q⟩:=hs
  exact False.elim q
 |cont=>
  obtain⟨_,_,_,q⟩:=hs
  exact False.elim q
end L2
namespace L2
open PySem PySem.Spec PyProof.Rows
section
variable{X:Cx}{x:Str}{p pos:Pos}{e:Expr}{es:List Expr}{t:TA}{id T:String}{r:List V→Hp→VK→Prop}
def Vd(r:List V→Hp→VK→Prop)(t:TA):TE:=fun σ H Q=>t σ H fun vs H1=>r vs H1 Q
theorem į(hc:ŗ X (.builtin id) r)(hg:Gl X x)(hm:X.mg x=none)(hv:bootBuiltins x=some (.builtin id))(ha:PA X (e::es) t)(hn:x≠ "__name__" := by decide)(hdb:(x== ("__debug__" :Str))=false:=by decide)
 (he:starEach (e::es) X.env=(false,eval e X.env)::starEach es X.env:=by rfl)(hpl:(backTo pos (starEach es X.env)).any (·.1)=false:=by rfl):PE X (.Call (.Name x p) (e::es) [] pos) (Vd r t):=by
 intro pins s σ H Q I h
 refine wpAny_Call_Name_kw (mX I hg hm hv ?_ hn hdb)
 exact PyProof.Rows.callWith_builtin1 (ś (ha pos pins s σ H _ I h) fun us s1 ⟨vs,H1,I1,r1,q1⟩=>hc pins s1 σ H1 vs us Q I1 r1 q1) he hpl
theorem ŕ(hc:ŗ X (.type T) r)(hg:Gl X x)(hm:X.mg x=none)(hv:bootBuiltins x=some (.type T))(ha:PA X (e::es) t)(hn:x≠ "__name__" := by decide)(hdb:(x== ("__debug__" :Str))=false:=by decide)
 (he:starEach (e::es) X.env=(false,eval e X.env)::starEach es X.env:=by rfl)(hpl:(backTo pos (starEach es X.env)).any (·.1)=false:=by rfl):PE X (.Call (.Name x p) (e::es) [] pos) (Vd r t):=by
 intro pins s σ H Q I h
 refine wpAny_Call_Name_kw (mX I hg hm hv ?_ hn hdb)
 exact PyProof.Rows.callWith_type1 (ś (ha pos pins s σ H _ I h) fun us s1 ⟨vs,H1,I1,r1,q1⟩=>hc pins s1 σ H1 vs us Q I1 r1 q1) he hpl
end
end L2
namespace HT
open PySem PyProof.Rows
section
open PySem.SeqAt
open PySem.AutoSeq1 (wpAny_loadPart')
open PySem.MeetsSeq PySem.MeetsSeq2 PySem.MeetsSeq3
end
section
variable{prog:Program}{w:World}{A:Around}{E:Value→Shared→Prop}{s:Shared}
def dM(n d:Nat):Option Int→Nat
 |none=>d
 |some v=>if v<0 then(v+(n:Int)).toNat else min v.toNat n
theorem Cz(n d k:Nat):dM n d (some (k:Int))=min k n:=by
 show(if(k:Int)<0 then((k:Int)+(n:Int)).toNat else min (k:Int).toNat n)=min k n
 rw[if_neg (by omega),Int.toNat_natCast]
theorem wX(n d:Nat)(hd:d≤n)(o:Option Int):dM n d o≤n:=by
 cases o with
 |none=>exact hd
 |some v=>
  show(if v<0 then(v+(n:Int)).toNat else min v.toNat n)≤n
  by_cases hv:v<0
  ·rw[if_pos hv];omega
  ·rw[if_neg hv];exact Nat.min_le_right _ _
end
end HT
namespace L2
open PySem PySem.Spec PyProof.Rows
abbrev TO:=St→Hp→(Option Int→Hp→Prop)→Prop
def PO(X:Cx)(e:Option Expr)(t:TO):Prop:=
 ∀(pins:List (Addr×Obj)) (s:Shared) (σ:St) (H:Hp) (Q:Option Int→Hp→Prop),Inv X pins σ H s→t σ H Q→
  wpAny (model X.prog X.w) X.A (evalPart e X.env) (fun u s'=>∃o H',Inv X pins σ H' s'∧IsPart u o∧Q o H') X.xe s
def CG:TO:=fun _ H Q=>Q none H
section
variable{X:Cx}{e:Expr}{te:TE}{lo hi:Option Expr}{tl th:TO}{pos p2:Pos}
theorem CJ:PO X none CG:=by
 intro pins s σ H Q I h
 rw[evalPart_none]
 exact wpAny_pure ⟨none,H,I,.none,h⟩
def tu(X:Cx)(r:V→Option Int→Option Int→Hp→VK→Prop):Prop:=
 ∀(pins:List (Addr×Obj)) (s:Shared) (σ:St) (H:Hp) (x:V) (v vl vu:Value) (lo hi:Option Int) (sl:Addr) (Q:VK),Inv X pins σ H s→RelV x v→s.heap.IsSliceOf sl vl vu .none→IsPart vl lo→IsPart vu hi→r x lo hi H Q→
  ∃T id,typeLookup (.type T) "__getitem__" =pure (some (.builtin id))∧s.TypeIs v T∧wpAny (model X.prog X.w) X.A (getItem v (.ref sl)) (EP X pins σ Q) X.xe s
theorem tu.or{r r':V→Option Int→Option Int→Hp→VK→Prop}(h:tu X r)(h':tu X r'):tu X (fun x lo hi H Q=>r x lo hi H Q∨r' x lo hi H Q):=by
 intro pins s σ H x v vl vu lo hi sl Q I rx hs pl pu q
 rcases q with q|q
 ·exact h pins s σ H x v vl vu lo hi sl Q I rx hs pl pu q
 ·exact h' pins s σ H x v vl vu lo hi sl Q I rx hs pl pu q
def tSl(r:V→Option Int→Option Int→Hp→VK→Prop)(te:TE)(tl th:TO):TE:=fun σ H Q=>te σ H fun x H1=>tl σ H1 fun l H2=>th σ H2 fun u H3=>r x l u H3 Q
theorem wY{r:V→Option Int→Option Int→Hp→VK→Prop}(hr:tu X r)(he:PE X e te)(hl:PO X lo tl)(hu:PO X hi th):PE X (.Subscript e (.Slice lo hi none p2) pos) (tSl r te tl th):=by
 intro pins s σ H Q I h
 refine Subscript_ (ś (he pins s σ H _ I h) fun v s1 ⟨x,H1,I1,r1,q1⟩=>?_)
 refine wpAny_Slice (ś (hl pins s1 σ H1 _ I1 q1) fun vl s2 ⟨l,H2,I2,pl,q2⟩=>ś (hu pins s2 σ H2 _ I2 q2) fun vu s3 ⟨u,H3,I3,pu,q3⟩=>?_)
 rw[evalPart_none]
 refine wpAny_pure ?_
 have I4:Inv X pins σ H3 {s3 with heap:=s3.heap.push {cls:=.type "slice",data:=.fields #[vl,vu,.none]}}:=I3.kept (t':=s3.toks) fun b ob q=>Heap.get?_push_of_some _ q
 obtain⟨T,id,hT,ht,hg⟩:=hr pins {s3 with heap:=s3.heap.push {cls:=.type "slice",data:=.fields #[vl,vu,.none]}} σ H3 x v vl vu l u s3.heap.objs.size Q I4 r1 (Heap.IsSliceOf.new ..) pl pu q3
 show wpAny (model X.prog X.w) X.A (subscriptTail e (.Slice lo hi none p2) v (.ref s3.heap.objs.size)) (EP X pins σ Q) X.xe {s3 with heap:=s3.heap.push {cls:=.type "slice",data:=.fields #[vl,vu,.none]}}
 exact tail_any (ops:=[.ref s3.heap.objs.size,v]) ht hT hg (by with_unfolding_all rfl)
def oY(xs:List V)(lo hi:Option Int):List V:=(xs.drop (HT.dM xs.length 0 lo)).take (HT.dM xs.length xs.length hi-HT.dM xs.length 0 lo)
theorem oZ(xs:List V)(lo hi:Option Int):(oY xs lo hi).length≤xs.length:=by
 unfold oY
 rw[List.length_take,List.length_drop]
 omega
end
end L2
namespace L2
open PySem PySem.Spec PyProof.Rows
def o_(n:Nat)(i:Int):Option Nat:=if 0≤i then(if i<n then some i.toNat else none) else if -(n:Int)≤i then some (i+n).toNat else none
def eO{α:Type}(xs:List α)(i:Int):Option α:= (o_ xs.length i).bind fun j=>xs[j]?
theorem tD{n:Nat}{i:Int}{j:Nat}(h:o_ n i=some j):seqIndex? i n=some j∧j<n∧ -(n:Int)≤i∧i<n:=by
 unfold o_ at h
 by_cases h0:0≤i
 ·rw[if_pos h0] at h
  by_cases h1:i<n
  ·rw[if_pos h1] at h
   have e:i.toNat=j:=Option.some.inj h
   exact⟨by rw[seqIndex_of h0 h1,e],by omega,by omega,h1⟩
  ·rw[if_neg h1] at h;cases h
 ·rw[if_neg h0] at h
  by_cases h1: -(n:Int)≤i
  ·rw[if_pos h1] at h
   have e:(i+n).toNat=j:=Option.some.inj h
   exact⟨by rw[seqIndex_neg (by omega) h1,e],by omega,h1,by omega⟩
  ·rw[if_neg h1] at h;cases h
theorem mZ{α:Type}{xs:List α}{i:Int}{v:α}(h:eO xs i=some v):∃j,seqIndex? i xs.length=some j∧xs[j]?=some v∧j<xs.length∧ -(xs.length:Int)≤i∧i<xs.length:=by
 unfold eO at h
 cases e:o_ xs.length i with
 |none=>rw[e] at h;cases h
 |some j=>
  rw[e] at h
  obtain⟨h1,h2,h3,h4⟩:=tD e
  exact⟨j,h1,h,h2,h3,h4⟩
def tE(b:Expr):Prop:=∀o i,subscripted b false o i=operate [o,i] (getItem o i)
def qR(X:Cx)(r:R2):Prop:=
 ∀(value slice:Expr) (pins:List (Addr×Obj)) (s:Shared) (σ:St) (H:Hp) (x y:V) (v u:Value) (Q:VK),Inv X pins σ H s→RelV x v→RelV y u→r x y H Q→
  subscripted slice false v u=operate [v,u] (getItem v u)→wpAny (model X.prog X.w) X.A (subscriptTail value slice v u) (EP X pins σ Q) X.xe s
def XS(X:Cx)(id:String)(r:V→List V→Hp→VK→Prop):Prop:=
 ∀(pins:List (Addr×Obj)) (s:Shared) (σ:St) (H:Hp) (x:V) (xs:List V) (v:Value) (us:List Value) (Q:VK),Inv X pins σ H s→RelV x v→Vals xs us→r x xs H Q→
  wpAny (model X.prog X.w) X.A (call (.builtin id) (v::us)) (EP X pins σ Q) X.xe s
section
variable{X:Cx}{a b:Expr}{ta tb:TE}{pos:Pos}
theorem qR.or{r r':R2}(h:qR X r)(h':qR X r'):qR X (fun x y H Q=>r x y H Q∨r' x y H Q):=by
 intro value slice pins s σ H x y v u Q I rx ry q hs
 rcases q with q|q
 ·exact h value slice pins s σ H x y v u Q I rx ry q hs
 ·exact h' value slice pins s σ H x y v u Q I rx ry q hs
theorem wZ{r:R2}(hr:qR X r)(ha:PE X a ta)(hb:PE X b tb)(hs:tE b):PE X (.Subscript a b pos) (Hq r ta tb):=by
 intro pins s σ H Q I h
 exact Subscript_ (Hs ha hb I h fun v u s2 x y H2 I2 rx ry q=>hr a b pins s2 σ H2 x y v u Q I2 rx ry q (hs _ _))
def MN(K:PySem.W.Frag):R2:=fun x y H Q=>∃p xs i v,x=.ref p∧y=.int i∧Ż K H p xs∧eO xs i=some v∧Q v H
def MP(K:PySem.W.Frag):R2:=fun x y H Q=>∃p xs i v,x=.ref p∧y=.int i∧cJ K H p xs∧eO xs i=some v∧Q v H
def M_:R2:=fun x y H Q=>∃z i c,x=.str z∧y=.int i∧z.length≤sizeLine∧eO z.cps.toList i=some c∧Q (.str ⟨#[c]⟩) H
theorem CK:qR X (MN X.K):=by
 intro value slice pins s σ H x y v u Q I rx ry h hs
 obtain⟨p,xs,i,z,rfl,rfl,hq,he,q⟩:=h
 cases rx
 obtain⟨t,rfl⟩:=ry
 obtain⟨its,r,pl,hz⟩:=I.list hq
 obtain⟨j,h1,h2,h3,h4,h5⟩:=mZ he
 obtain⟨w,ew,X_⟩:=r.get h2
 have hl:=r.length
 have hn:=gA
 have fin:EP X pins σ Q w s:=⟨z,H,I,X_,q⟩
 by_cases h0:0≤i
 ·have hj:i.toNat=j:=by
   rw[seqIndex_of h0 h5] at h1
   exact Option.some.inj h1
  exact item_listR pl.isList h0 (by omega) (by rw[hj];simpa using ew) fin hs
 ·have hj:(i+(its.toArray.size:Int)).toNat=j:=by
   rw[seqIndex_neg (by omega) h4] at h1
   rw[List.size_toArray,←hl]
   exact Option.some.inj h1
  exact subscriptTail_builtinR (x:=w) pl.isList.typeIs slot_list_getitem.lookup
   (wpAny_getItem_list_neg (Q:=fun r s'=>r=w∧EP X pins σ Q r s') pl.isList (by omega) (by rw[List.size_toArray]<;>omega) (by omega) (by rw[hj];simpa using ew) ⟨rfl,fin⟩) hs
theorem HW:qR X (MP X.K):=by
 intro value slice pins s σ H x y v u Q I rx ry h hs
 obtain⟨p,xs,i,z,rfl,rfl,hq,he,q⟩:=h
 cases rx
 obtain⟨t,rfl⟩:=ry
 obtain⟨its,r,pl,hz⟩:=I.tuple hq
 obtain⟨j,h1,h2,h3,h4,h5⟩:=mZ he
 obtain⟨w,ew,X_⟩:=r.get h2
 have hl:=r.length
 have hn:=gA
 have fin:EP X pins σ Q w s:=⟨z,H,I,X_,q⟩
 exact subscriptTail_builtinR (x:=w) pl.typeIs slot_tuple_getitem.lookup
  (getItem_tuple (j:=j) (Q:=fun r s'=>r=w∧EP X pins σ Q r s') pl (by omega) (by omega) (by rw[List.size_toArray,←hl];exact h1) (by simpa using ew) ⟨rfl,fin⟩) hs
theorem HX:qR X M_:=by
 intro value slice pins s σ H x y v u Q I rx ry h hs
 obtain⟨z,i,c,rfl,rfl,hz,he,q⟩:=h
 obtain⟨t,rfl⟩:=rx
 obtain⟨t',rfl⟩:=ry
 obtain⟨j,h1,h2,h3,h4,h5⟩:=mZ he
 have hl:z.cps.toList.length=z.length:=by simp[Str.length]
 rw[hl] at h1 h4 h5
 have hn:=gA
 exact tail_any (typeIs_str s z t) slot_str_getitem.lookup (getItem_str (c:=c) (by
  have e1:decide (i < -(2 ^ 63:Int))=false:=decide_eq_false (by omega)
  have e2:decide (i ≥ 2 ^ 63)=false:=decide_eq_false (by omega)
  rw[e1,e2,Bool.or_false]) (by rw[h1];simpa using h2) ⟨.str ⟨#[c]⟩,H,I.tok _,⟨_,rfl⟩,q⟩) hs
def rIx(K:PySem.W.Frag):R2:=fun x y H Q=>MN K x y H Q∨MP K x y H Q∨M_ x y H Q
theorem qT:qR X (rIx X.K):=CK.or (HW.or HX)
theorem qU(its:List Value)(n j:Nat)(u:Value):Obj.mapSeq (·.setIfInBounds j u) {cls:=.type "list",data:=.seq its.toArray n}= {cls:=.type "list",data:=.seq (its.set j u).toArray n}:=by
 simp[Obj.mapSeq]
theorem Inv.lst{pins:List (Addr×Obj)}{σ:St}{H:Hp}{s:Shared}{p:Addr}{xs:List V}(I:Inv X pins σ H s)(h:H p=some (.lst xs)) :
 ∃(its:List Value) (n:Nat),Vals xs its∧s.heap.get? p=some {cls:=.type "list",data:=.seq its.toArray n}∧xs.length≤sizeLine:=by
 obtain⟨z,its,n,r,e⟩:=I.hok p _ h
 exact⟨its,n,r,e,z⟩
theorem Inv.HY{pins:List (Addr×Obj)}{σ:St}{H:Hp}{s:Shared}{p:Addr}{xs ys:List V}{its its':List Value}{n n':Nat}{f:Obj→Obj}(I:Inv X pins σ H s)(h:H p=some (.lst xs))
 (ho:s.heap.get? p=some {cls:=.type "list",data:=.seq its.toArray n})(hf:f {cls:=.type "list",data:=.seq its.toArray n}= {cls:=.type "list",data:=.seq its'.toArray n'})(r:Vals ys its')(hz:ys.length≤sizeLine)(t:Nat) :
 Inv X pins σ (upd H p (.lst ys)) {s with heap:=s.heap.update p f,toks:=t}:=by
 have e:(s.heap.update p f).get? p=some {cls:=.type "list",data:=.seq its'.toArray n'}:=by
  rw[Heap.get?_update_self f ho (by rw[hf]<;>rfl),hf]
 refine I.write (x:=p) (e:=p) (by rw[h];trivial) (.inl rfl) (fun b u hb q=>(Heap.get?_update_other _ _ (Ne.symm hb)).trans q) ⟨_,e⟩ ?_
 exact⟨hz,its',n',r,e⟩
def Nb:V→V→V→Hp→(Hp→Prop)→Prop:=fun o i v H Q=>∃p xs k j,o=.ref p∧i=.int k∧H p=some (.lst xs)∧o_ xs.length k=some j∧Q (upd H p (.lst (xs.set j v)))
theorem set_list:Mr X Nb:=by
 intro pins s σ H o i v ov iv u Q I ro ri rv h
 obtain⟨p,xs,k,j,rfl,rfl,hp,hj,q⟩:=h
 cases ro
 obtain⟨t,rfl⟩:=ri
 obtain⟨its,n,r,ho,hz⟩:=I.lst hp
 obtain⟨h1,h2,h3,h4⟩:=tD hj
 have hl:=r.length
 have hn:=gA
 have I':Inv X pins σ (upd H p (.lst (xs.set j v))) {s with heap:=s.heap.update p (Obj.mapSeq (·.setIfInBounds j u))}:=
  I.HY hp ho (qU its n j u) (r.set rv j) (by rw[List.length_set];exact hz) s.toks
 by_cases h0:0≤k
 ·have hk:k.toNat=j:=by
   rw[seqIndex_of h0 h4] at h1
   exact Option.some.inj h1
  exact PySem.W.ki_setAt ho h0 (by omega) (by rw[List.size_toArray,←hl];exact h4) (by rw[hk];exact⟨_,I',q⟩)
 ·have hk:(k+(its.toArray.size:Int)).toNat=j:=by
   rw[seqIndex_neg (by omega) h3] at h1
   rw[List.size_toArray,←hl]
   exact Option.some.inj h1
  exact PySem.W.ki_setBack ho (by omega) (by rw[List.size_toArray,←hl];exact h3) (by omega) (by rw[hk];exact⟨_,I',q⟩)
theorem m_(lo hi:Option Int)(n:Nat):(sliceBounds lo hi none n).1=((HT.dM n 0 lo:Nat):Int)∧(sliceBounds lo hi none n).2.1=((HT.dM n n hi:Nat):Int)∧(sliceBounds lo hi none n).2.2=1:=by
 refine⟨?_,?_,rfl⟩
 ·cases lo with
  |none=>simp[sliceBounds,HT.dM]
  |some i=>
   simp only[sliceBounds,HT.dM,Option.getD_none,show(1:Int)>0 by decide,if_true]
   by_cases h:i<0
   ·simp only[h,if_true]<;>omega
   ·simp only[h,if_false]<;>omega
 ·cases hi with
  |none=>simp[sliceBounds,HT.dM]
  |some i=>
   simp only[sliceBounds,HT.dM,Option.getD_none,show(1:Int)>0 by decide,if_true]
   by_cases h:i<0
   ·simp only[h,if_true]<;>omega
   ·simp only[h,if_false]<;>omega
theorem kJ(its:List Value)(lo hi:Option Int):slicePick its.toArray lo hi none=((its.drop (HT.dM its.length 0 lo)).take (HT.dM its.length its.length hi-HT.dM its.length 0 lo)).toArray:=by
 obtain⟨h1,h2,h3⟩:=m_ lo hi its.toArray.size
 unfold slicePick
 rw[h1,h2,h3]
 simp only[sliceRange_one,pick_run,List.size_toArray]<;>rfl
def Yb(K:PySem.W.Frag):V→Option Int→Option Int→Hp→VK→Prop:=fun x lo hi H Q=>∃a xs,x=.ref a∧Ż K H a xs∧∀p,H p=none→Q (.ref p) (upd H p (.lst (oY xs lo hi)))
theorem CN:tu X (Yb X.K):=by
 intro pins s σ H x v vl vu lo hi sl Q I rx hs pl pu h
 obtain⟨a,xs,rfl,hx,q⟩:=h
 cases rx
 obtain⟨its,r,ht,hz⟩:=I.list hx
 have hlen:=r.length
 refine⟨"list",_,slot_list_getitem.lookup,ht.isList.typeIs,?_⟩
 refine wpAny_getItem_list_slice ht.isList hs pl pu .none (by simp) ?_ (by rw[List.size_toArray]<;>omega)
 rw[kJ,←hlen]
 refine⟨.ref s.heap.objs.size,_,I.laid (t':=s.toks) (o:=.lst (oY xs lo hi)) (fun b ob q=>Heap.get?_push_of_some _ q) (Nat.le_refl _) ?_,rfl,q _ (I.hok.fresh (Nat.le_refl _))⟩
 exact⟨Nat.le_trans (oZ xs lo hi) hz,_,0,(r.drop (HT.dM xs.length 0 lo)).take (HT.dM xs.length xs.length hi-HT.dM xs.length 0 lo),Heap.get?_push_size _ rfl⟩
theorem ni:ŗ X (.type "list") (fun xs H Q=>∃p ys,xs=[.ref p]∧(Ż X.K H p ys∨cJ X.K H p ys)∧∀l,H l=none→Q (.ref l) (upd H l (.lst ys))):=by
 intro pins s σ H xs us Q I r h
 obtain⟨p,ys,rfl,hq,q⟩:=h
 obtain⟨u,rfl,rx⟩:=vals1 r
 cases rx
 have fin:∀(its:List Value),Vals ys its→ys.length≤sizeLine→∀(h':Heap) (c':Nat),(∀b o',s.heap.get? b=some o'→h'.get? b=some o')→
  h'.get? s.heap.objs.size=some {cls:=.type "list",dict:=none,data:=.seq its.toArray c',slots:=#[]}→EP X pins σ Q (.ref s.heap.objs.size) {s with heap:=h'}:=fun its r' hz h' c' kp e=>
  ⟨.ref s.heap.objs.size,_,I.laid (t':=s.toks) kp (Nat.le_refl _) (show Ś X.prog X.w _ h' _ (.lst ys) from⟨hz,its,c',r',e⟩),rfl,q _ (I.hok.fresh (Nat.le_refl _))⟩
 rcases hq with hq|hq
 ·obtain⟨its,r',pl,hz⟩:=I.list hq
  have hlen:=r'.length
  obtain⟨o,ho,hc,n,hd⟩:=pl.isList
  exact call_list_seq p (.inl rfl) ho hc hd (fun h' c' kp e=>fin its r' hz h' c' kp e) (by simp only[List.size_toArray]<;>omega)
 ·obtain⟨its,r',pl,hz⟩:=I.tuple hq
  have hlen:=r'.length
  obtain⟨o,ho,hc,n,hd⟩:=pl
  exact call_list_seq p (.inr rfl) ho hc hd (fun h' c' kp e=>fin its r' hz h' c' kp e) (by simp only[List.size_toArray]<;>omega)
theorem kO:ŗ X (.type "tuple") (fun xs H Q=>∃p ys,xs=[.ref p]∧((Ż X.K H p ys∧∀l,H l=none→Q (.ref l) (upd H l (.tup ys)))∨(cJ X.K H p ys∧Q (.ref p) H))):=by
 intro pins s σ H xs us Q I r h
 obtain⟨p,ys,rfl,h⟩:=h
 obtain⟨u,rfl,rx⟩:=vals1 r
 cases rx
 rcases h with⟨hq,q⟩|⟨hq,q⟩
 ·obtain⟨its,r',pl,hz⟩:=I.list hq
  have hlen:=r'.length
  refine call_tuple_list pl.isList (fun h' kp=>?_) (by simp only[List.size_toArray]<;>omega)
  have I1:Inv X pins σ H {s with heap:=h'}:=I.kept (t':=s.toks) kp
  have I2:Inv X pins σ (upd H h'.objs.size (.tup ys)) {s with heap:=h'.push {cls:=.type "tuple",data:=.seq its.toArray}}:=
   I1.laid (t':=s.toks) (fun b o e=>Heap.get?_push_of_some _ e) (Nat.le_refl _) (show Ś X.prog X.w _ _ _ (.tup ys) from⟨hz,its,r',IsTup.new _ _⟩)
  exact⟨.ref h'.objs.size,_,I2,rfl,q _ (I1.hok.fresh (Nat.le_refl _))⟩
 ·obtain⟨its,r',pl,hz⟩:=I.tuple hq
  exact call_tuple_same pl ⟨.ref p,H,I,rfl,q⟩
def tyV(K:PySem.W.Frag)(T:String)(x:V)(H:Hp):Prop:=match x with
 | .str _=>T= "str"
 | .int _=>T= "int"
 | .ref p=>(T= "list" ∧∃xs,Ż K H p xs)∨(T= "tuple" ∧∃o,K.lookup p=some o∧o.cls=.type "tuple" ∧o.dict=none)∨
     (T= "dict" ∧((∃kvs,H p=some (.dK kvs))∨∃kvs,H p=some (.dT kvs)))∨(T= "set" ∧∃S n,H p=some (.set S n))
 |_=>False
theorem H_{pins:List (Addr×Obj)}{σ:St}{H:Hp}{s:Shared}{T:String}{x:V}{v:Value}(I:Inv X pins σ H s)(r:RelV x v)(ty:tyV X.K T x H) :
 s.TypeIs v T∧∀a,v=.ref a→∃ob,s.heap.get? a=some ob∧ob.dict=none:=by
 cases x with
 |str z=>
  obtain⟨t,rfl⟩:=r
  cases(show T= "str" from ty)
  exact⟨typeIs_str s z t,fun _ e=>nomatch e⟩
 |int i=>
  obtain⟨t,rfl⟩:=r
  cases(show T= "int" from ty)
  exact⟨typeIs_int s i t,fun _ e=>nomatch e⟩
 |ref p=>
  cases r
  rcases ty with⟨rfl,xs,hq⟩|⟨rfl,o,hk,hc,hd⟩|⟨rfl,hk⟩|⟨rfl,S,n,hk⟩
  ·obtain⟨its,_,pl,_⟩:=I.list hq
   refine⟨pl.isList.typeIs,fun a e=>?_⟩
   cases e
   obtain⟨o,n,e,c,hd,_⟩:=pl
   exact⟨o,e,hd⟩
  ·refine⟨⟨o,I.fB p o hk,hc⟩,fun a e=>?_⟩
   cases e
   exact⟨o,I.fB _ o hk,hd⟩
  ·have z:∃o,s.heap.get? p=some o∧o.ExactDict:=by
    rcases hk with⟨kvs,hk⟩|⟨kvs,hk⟩
    ·obtain⟨_,_,_,_,o,_,_,e,ex,_⟩:=I.hok p _ hk
     exact⟨o,e,ex⟩
    ·obtain⟨_,_,_,_,o,_,_,e,ex,_⟩:=I.hok p _ hk
     exact⟨o,e,ex⟩
   obtain⟨o,e,ex⟩:=z
   refine⟨⟨o,e,ex.1⟩,fun a e2=>?_⟩
   cases e2
   exact⟨o,e,ex.2.1⟩
  ·obtain⟨o,_,_,_,e,ex,_⟩:=I.hok p _ hk
   refine⟨⟨o,e,ex.1⟩,fun a e2=>?_⟩
   cases e2
   exact⟨o,e,ex.2.1⟩
 |_=>exact False.elim ty
def Yc(K:PySem.W.Frag)(T:String)(r:V→List V→Hp→VK→Prop)(to:TE)(t:TA):TE:=fun σ H Q=>to σ H fun x H1=>tyV K T x H1∧t σ H1 fun xs H2=>r x xs H2 Q
variable{o e:Expr}{es:List Expr}{to:TE}{t:TA}{name:Str}{apos cpos:Pos}{T id:String}{r:V→List V→Hp→VK→Prop}
theorem xg(pa:PlainAttrs T)(slot:Slot T name id)(hty:typeOf (.builtin id)=pure (.type "method_descriptor"))(hm:XS X id r)(ho:PE X o to)(ha:PA X (e::es) t)
 (hbase:attributeBase o name X.env (eval o X.env)=eval o X.env:=by rfl)
 (hfew:((backTo cpos (starEach (e::es) X.env)).all (fun x=>!x.1) && (backToKw cpos (keywordEach [] X.env)).all (fun x=>x.1.isSome)
   && decide ((e::es).length+([]:List Keyword).length+(if([]:List Keyword).isEmpty then 0 else 1)<30))=true:=by rfl)
 (hline:(apos.endLine== cpos.line)=true:=by rfl)(hs:starEach (e::es) X.env=(false,eval e X.env)::starEach es X.env:=by rfl)(hplain:(backTo cpos (starEach es X.env)).any (·.1)=false:=by rfl) :
 PE X (.Call (.Attribute o name apos) (e::es) [] cpos) (Yc X.K T r to t):=by
 intro pins s σ H Q I h
 refine wpAny_Call_method_late hbase hfew hline rfl (ś (ho pins s σ H _ I h) fun v s1 ⟨x,H1,I1,r1,ty,q1⟩=>?_)
 obtain⟨h1,h2⟩:=H_ I1 r1 ty
 refine⟨T,id,pa,slot,hty,h1,h2,?_⟩
 have hA:=ha cpos pins s1 σ H1 _ I1 q1
 rw[hs] at hA ⊢
 refine Calls.callWith_builtin (by show(false || (backTo cpos (starEach es X.env)).any (·.1))=false;rw[hplain]<;>rfl) (Calls.evalArgs_plain ?_)
 exact ś hA fun us s2 ⟨vs,H2,I2,r2,q2⟩=>hm pins s2 σ H2 x vs v us Q I2 r1 r2 q2
end
end L2
namespace L2
open PySem PySem.Spec PyProof.Rows
def MtM(X:Cx)(id:String)(r:V→List V→Hp→VK→Prop):Prop:=
 ∀(pins:List (Addr×Obj)) (s:Shared) (σ:St) (H:Hp) (x:V) (xs:List V) (v:Value) (us:List Value) (Q:VK),Inv X pins σ H s→RelV x v→Vals xs us→r x xs H Q→
  wpAny (model X.prog X.w) X.A (call (.builtin id) (v::us)) (EP X pins σ Q) X.xe s
theorem Vals.one:∀{x:V} {us:List Value},Vals [x] us→∃u,us=[u]∧RelV x u
 |_,_,.cons r .nil=>⟨_,rfl,r⟩
section
variable{X:Cx}{pins:List (Addr×Obj)}{σ:St}{H:Hp}{s:Shared}{l b:Addr}{xs ys zs:List V}
theorem Inv.Yd{its its':List Value}{n:Nat}{f:Array Value→Array Value}{t':Nat}(I:Inv X pins σ H s)(hH:H l=some (.lst xs))
 (e:s.heap.get? l=some {cls:=.type "list",data:=.seq its.toArray n})(hf:f its.toArray=its'.toArray)(hv:Vals ys its')(hz:ys.length≤sizeLine) :
 Inv X pins σ (upd H l (.lst ys)) {s with heap:=s.heap.update l (Obj.mapSeq f),toks:=t'}:=by
 have q:=PySem.IsL.update e f
 rw[hf] at q
 refine I.write (x:=l) (e:=l) (by rw[hH];exact trivial) (.inl rfl) (fun b' u hb hu=>(Heap.get?_update_other s.heap (Obj.mapSeq f) (Ne.symm hb)).trans hu) ⟨_,q⟩ ?_
 exact⟨hz,its',_,hv,q⟩
theorem Inv.Ye{its:List Value}{t':Nat}(I:Inv X pins σ H s)(hv:Vals ys its)(hz:ys.length≤sizeLine) :
 Inv X pins σ (upd H s.heap.objs.size (.lst ys)) {s with heap:=s.heap.push {cls:=.type "list",data:=.seq its.toArray},toks:=t'}:=
 I.laid (fun _ _ q=>Heap.get?_push_of_some _ q) (Nat.le_refl _) ⟨hz,its,0,hv,Heap.get?_push_size _ rfl⟩
theorem Inv.fresh(I:Inv X pins σ H s):H s.heap.objs.size=none:=I.hok.fresh (Nat.le_refl _)
theorem Inv.Yg(I:Inv X pins σ H s)(hH:H l=some (.lst xs)):xs.length≤sizeLine∧∃(its:List Value) (n:Nat),Vals xs its∧xs.length=its.length∧s.heap.get? l=some {cls:=.type "list",data:=.seq its.toArray n}:=by
 obtain⟨z,its,n,r,e⟩:=I.hok l _ hH
 exact⟨z,its,n,r,r.length,e⟩
end
section
variable{X:Cx}
def nj:V→List V→Hp→VK→Prop:=fun x vs H Q=>∃l xs y,x=.ref l∧vs=[y]∧H l=some (.lst xs)∧xs.length<sizeLine∧Q .non (upd H l (.lst (xs ++ [y])))
theorem dz:MtM X "list.append" nj:=by
 intro pins s σ H x vs v us Q I rx rv h
 obtain⟨l,xs,y,rfl,rfl,hH,hz,q⟩:=h
 cases rx
 obtain⟨u,rfl,ru⟩:=rv.one
 obtain⟨z,its,n,r,hl,e⟩:=I.Yg hH
 refine call_meets F.slot_list_append ⟨_,e,rfl⟩ F.entry_list_append (F.args_list_append_2 _ _) (PySem.list_append l its.toArray n u (by rw[List.size_toArray];omega)) ⟨e,?_⟩
 refine⟨.non,_,I.Yd (its':=its ++ [u]) hH e (by simp) (r.append (.cons ru .nil)) ?_,rfl,q⟩
 rw[List.length_append,List.length_singleton]
 omega
end
section
variable{prog:Program}{w:World}{A:Around}{E:Value→Shared→Prop}{s:Shared}
end
section
variable{X:Cx}
end
end L2
namespace Att
open PySem PySem.W PySem.Calls PyProof.Rows
theorem iy{P:Params}{h:Heap}:∀(ns:List Int) (vs:List Value),WellAll P h vs (ns.map WData.int)→IntsAre vs ns:=by
 intro ns
 induction ns with
 |nil=>
  intro vs w
  rw[List.map_nil] at w
  cases w
  exact .nil
 |cons n ns ih=>
  intro vs w
  rw[List.map_cons] at w
  cases w with
  |cons a b=>
   cases a
   exact .cons _ _ (ih _ b)
theorem vI{l:OpenLaw}{n:Nat}(hn:l.most=some n){P:Params}{h:Heap}{args:List WData}{vals:List Value}
 (hpre:l.row.toRowW.claim.pre args=true)(hwl:WellAll P h vals args) :
 ∃a vs ns,vals=[Value.ref a]∧args=[WData.list (ns.map WData.int)]∧h.get? a=some {cls:=.type "list",data:=.seq vs.toArray}∧IntsAre vs ns∧ns.length≤n:=by
 have hsh:WShape.hasAll [] args [.list .int]=true:=(pre_splitW hpre).1
 have hc:l.pre.holds [] {args:=args}=true:=(pre_splitW hpre).2
 obtain⟨d,r,rfl,h1,h2⟩:=hasAllW_cons hsh
 obtain rfl:=hasAllW_nil h2
 obtain⟨xs,rfl,h3⟩:=hasW_list h1
 obtain⟨ns,rfl⟩:=items_int h3
 have hlen:ns.length≤n:=by
  unfold OpenLaw.pre at hc
  have h4:(WTm.not (.lt (.lit (.int (n:Int))) (.len (.arg 0)))).holds [] {args:=[.list (ns.map .int)]}=true:=by
   have h4:=(holds_andW hc).1
   rw[hn] at h4
   exact h4
  have h5:=condW_of h4 (w_not (w_lt w_lit (w_len_list (w_arg rfl))))
  rw[List.length_map] at h5
  refine Nat.le_of_not_lt fun q=>?_
  have q':(n:Int)<((ns.length:Nat):Int):=by omega
  first
   |(rw[decide_eq_true q'] at h5;exact absurd h5 (by decide))
   |(simp at h5;omega)
 cases hwl with
 |cons w1 w2=>
  cases w2
  cases w1 with
  |list ho hall=>exact⟨_,_,ns,rfl,rfl,ho,iy ns _ hall,hlen⟩
theorem vJ(l:OpenLaw)(args:List WData):l.row.toRowW.claim.post args (.bool true) args=true:=
 postW_of (r:=l.row.toRowW) (X:=(true== true))
  (show WShape.has [] (.bool true) .bool=true by first|rfl|decide|simp[WShape.has,WShape.arms,WShape.armsAll])
  (show(WTm.eq .res (.lit (.bool true))).value [] {args:=args,res:=some (.bool true),after:=args}=some (.bool (true== true)) from w_eq_bool (w_res rfl) w_lit) rfl
theorem pq{l:OpenLaw}{n:Nat}{q:Program}{loose:List Str}{XP:(Str→Option Value)→Heap→Prop}{YP:World→Heap→Prop}{d:DefRec}
 (hn:l.most=some n)(hdf:d.params.defaults=[])
 (call:∀(w:World) (s₀ s₁:Shared) (mg mb:Str→Option Value) (fa:Addr) (o:Obj) (pm cd doc:Value) (a:Addr) (vs:List Value) (ns:List Int),
   Ground q loose [] XP w s₀ mg mb s₁.heap→YP w s₁.heap→
   s₁.heap.get? fa=some o→o.data=.func (docDef d.name d.params d.body d.scope pm cd doc)→s₁.heap.CodeRec cd d.name→mg d.name=some (.ref fa)→
   s₁.heap.get? a=some {cls:=.type "list",data:=.seq vs.toArray}→IntsAre vs ns→ns.length≤n→s₁.gens= #[]→
   codeAny (model l.prog w) callerA (.call (.ref fa) ⟨[.ref a],[]⟩) (fun r s'=>r=.ok (.ret (.bool true))∧OldK s₁.heap s'.heap∧s'.os=s₁.os∧AllBare s'.gens) s₁) :
 WalkO q loose XP YP l.row.toRowW d [] (fun f vs=>PySem.call f vs):=by
 intro w s₀ s₁ mg mb G Y fa o pm cd doc dV kV ho hd hcd hD hmg hg args vals as hpre hlay hrd hwl hlo
 obtain rfl:dV=.none:=Dflts.none hD hdf
 obtain rfl:kV=.none:=Dflts.noKw hD
 obtain⟨a,vs,ns,rfl,rfl,hobj,hints,hlen⟩:=vI hn hpre hwl
 refine enter_call (codeAny_mono (call w s₀ s₁ mg mb fa o pm cd doc a vs ns G Y ho (fd_plain hd) hcd hmg hobj hints hlen hg) fun r s' hq=>?_)
 obtain⟨rfl,h2,h3,h4⟩:=hq
 exact⟨.inl ⟨.bool true,.bool true,[],rfl,fun _=>rfl,.bool true,vJ l _,fun _=>⟨List.Pairwise.nil,fun _ hm=>(nomatch hm)⟩⟩,h2,h3,h4⟩
section
variable{prog:Program}{w:World}{A:Around}{E:Value→Shared→Prop}{s:Shared}{K:Frag}
end
end Att
namespace L2
open PySem PySem.Spec PyProof.Rows
theorem lJ:∀{vs:List Value} {ns:List Int},IntsAre vs ns→Vals (ns.map V.int) vs
 |_,_,.nil=>.nil
 |_,_,.cons n t h=>.cons ⟨t,rfl⟩ (lJ h)
def Only(H:Hp):Prop:=∀b,H b=none∨∃o xs,H b=some (.ao o (.lst xs))
theorem xq{P:Program}{w:World}{K:PySem.W.Frag}{mg mb:Str→Option Value}{CX:j_}{k:Nat}{fa a:Addr}{fd:FuncData}{x:Str}{sp:Sp}{s₁:Shared}{vs:List Value}{ns:List Int}
 (KX:K.In s₁.heap)(hns:s₁.heap.Ns mainGlobals mg)(hb:s₁.heap.Ns builtinsNs mb)(hbb:∀x:Str,x≠ "__name__" →mb x=bootBuiltins x)(hlim:s₁.heap.NoLimit)(hg:s₁.gens= #[])
 (ha:s₁.heap.get? a=some {cls:=.type "list",data:=.seq vs.toArray})(hi:IntsAre vs ns)(hl:ns.length≤sizeLine)(hr:ž k callerA)
 (F:∀base:Heap,K.In base→base.Ns mainGlobals mg→ľ P w K mg base CX k fa fd [x] sp)(hbind:∀(s:Shared) (u:Value),BindsTo s fd ⟨[u],[]⟩ [(x,u)])
 (hsp:∀H:Hp,Only H→Ż K H a (ns.map V.int)→sp [.ref a] H (fun v _=>v=.bl true) fun _ _ _=>False)
 (Yh:∀H e s',CX [] H s₁ (fun _ _ _=>False) e s'→False) :
 codeAny (model P w) callerA (.call (.ref fa) ⟨[.ref a],[]⟩) (fun r s'=>r=.ok (.ret (.bool true))∧OldK s₁.heap s'.heap∧s'.os=s₁.os∧AllBare s'.gens) s₁:= by
 have rv:=lJ hi
 have lenV:=hi.length
 -- from an abstract heap in which nothing but the script may be tracked
 have core:∀H:Hp,Only H→Ż K H a (ns.map V.int)→dR P w H s₁.heap→(∀b,H b≠none→b=a)→(H a≠none→K.lookup a=none)→
  codeAny (model P w) callerA (.call (.ref fa) ⟨[.ref a],[]⟩) (fun r s'=>r=.ok (.ret (.bool true))∧OldK s₁.heap s'.heap∧s'.os=s₁.os∧AllBare s'.gens) s₁:= by
  intro H hO hS hok hA hK
  have tH:∀{b:Addr} {o:Obj},s₁.heap.get? b=some o→H b=none→(mV s₁.heap H).get? b=some o:=fun e n=>wD e n
  have MK:∀{b:Addr} {o:Obj} {es:Array DictEntry} {ep:Nat},s₁.heap.get? b=some o→o.data=.dict es ep→H b=none:=fun{b o es ep} e d=>by
   cases q:H b with
   |none=>rfl
   |some u=>
    have e':b=a:=hA b (by rw[q];simp)
    subst e'
    rw[ha] at e;cases e
    have d':Data.seq vs.toArray _=Data.dict es ep:=d
    cases d'
  have Ve:∀{b:Addr} {m:Str→Option Value},s₁.heap.Ns b m→(mV s₁.heap H).Ns b m:=fun{b m} ⟨o,es,ep,e,d,r⟩=>⟨o,es,ep,tH e (MK e d),d,r⟩
  have hKb:K.In (mV s₁.heap H):=fun b o e=>tH (KX b o e) (by
   cases q:H b with
   |none=>rfl
   |some u=>
    have e':b=a:=hA b (by rw[q];simp)
    subst e'
    rw[hK (by rw[q];simp)] at e;cases e)
  have hM:Mod K mg (mV s₁.heap H):=⟨hKb,Ve hns,⟨mb,Ve hb,hbb⟩,let ⟨mc,h1,h2⟩:=hlim;⟨mc,Ve h1,h2⟩⟩
  have e0:qQ P w K mg (mV s₁.heap H) callerA [] s₁ H:=⟨rfl,hM,fun b o e=>B_ e,Nat.le_of_eq (vh _ _),trivial,fun b hb=>absurd (show b∈([]:List Addr) from hb) (by simp),hok,.of_eq hg⟩
  refine codeAny_mono ((F _ hKb (Ve hns)).run callerA [] s₁ H ⟨[.ref a],[]⟩ [.ref a] [.ref a] _ _ hr e0 (hbind s₁ (.ref a)) (.cons rfl .nil) (hsp H hO hS)) fun r s' h=>?_
  cases r with
  |error e=>exact(Yh H e s' h).elim
  |ok fl=>
   cases fl with
   |next=>exact False.elim h
   |brk=>exact False.elim h
   |cont=>exact False.elim h
   |ret u=>
    obtain⟨v,H',os,bare,un,hok',r',q⟩:=h
    have q':v=.bl true:=q
    subst q'
    obtain rfl:u=Value.bool true:=r'
    refine⟨rfl,OldK.of_keep fun b o e=>?_,os,bare⟩
    cases q:H b with
    |none=>exact un.keep b o e q (by intro z;exact absurd (show b∈([]:List Addr) from z) (by simp)) (by simp)
    |some u=>
     rcases hO b with z|⟨ob,xs,z⟩
     ·rw[q] at z;cases z
     ·have z2:=un.fC b ob _ z
      obtain⟨e1,_⟩:=hok b _ z
      obtain⟨e2,_⟩:=hok' b _ z2
      rw[e] at e1;cases e1
      exact e2
 cases hk:K.lookup a with
 |some o=>
  -- the script is one of the module's own objects
  have e:=KX a o hk
  rw[ha] at e
  cases e
  refine core (fun _=>none) (fun _=>.inl rfl) (.inr ⟨_,vs.toArray,_,hk,rfl,rfl,rfl,by rw[List.size_toArray,lenV];exact hl,by simpa using rv⟩) (fun b u z=>by have z':(none:Option HO)=some u:=z;cases z') (fun b z=>absurd rfl z) fun z=>absurd rfl z
 |none=>
  refine core (fun b=>if b=a then some (.ao {cls:=.type "list",data:=.seq vs.toArray} (.lst (ns.map V.int))) else none) (fun b=>?_) (.inl (.inr ⟨{cls:=.type "list",data:=.seq vs.toArray},if_pos rfl⟩)) (fun b u z=>?_) (fun b z=>?_) fun _=>hk
  ·by_cases hb:b=a
   ·exact .inr ⟨_,_,if_pos hb⟩
   ·exact .inl (if_neg hb)
  ·by_cases hb:b=a
   ·have z':=(if_pos hb).symm.trans z
    cases z'
    subst hb
    exact⟨ha,by rw[List.length_map];exact hl,vs,_,rv,ha⟩
   ·have z':=(if_neg hb).symm.trans z
    cases z'
  ·by_cases hb:b=a
   ·exact hb
   ·exact absurd (if_neg hb) z
end L2
namespace L2
open PySem PySem.Spec PyProof.Rows
theorem CP{l:PySem.W.OpenLaw}{n k:Nat}{q:Program}{loose:List Str}{XP:(Str→Option Value)→Heap→Prop}{YP:World→Heap→Prop}{d:DefRec}{K:Params→PySem.W.Frag}{CX:World→j_}{sp:World→Sp}{x:Str}
 (hn:l.most=some n)(hn2:n≤sizeLine)(hdf:d.params.defaults=[])(hr:ž k callerA)
 (hY:∀(w:World) (h:Heap),YP w h→(K w.params).In h)
 (F:∀(w:World) (mg:Str→Option Value) (fa:Addr) (h:Heap),(K w.params).In h→h.Ns mainGlobals mg→mg d.name=some (.ref fa)→
   ∃fd:FuncData,(∀(s:Shared) (u:Value),BindsTo s fd ⟨[u],[]⟩ [(x,u)])∧
    ∀base:Heap,(K w.params).In base→base.Ns mainGlobals mg→ľ l.prog w (K w.params) mg base (CX w) k fa fd [x] (sp w))
 (hsp:∀(w:World) (H:Hp) (a:Addr) (ns:List Int),ns.length≤n→Only H→Ż (K w.params) H a (ns.map V.int)→sp w [.ref a] H (fun v _=>v=.bl true) fun _ _ _=>False)
 (Yh:∀(w:World) (H:Hp) (s:Shared) (e:Value) (s':Shared),CX w [] H s (fun _ _ _=>False) e s'→False) :
 PySem.W.WalkO q loose XP YP l.row.toRowW d [] (fun f vs=>PySem.call f vs):=by
 refine Att.pq hn hdf fun w s₀ s₁ mg mb fa o pm cd doc a vs ns G Y ho hd hcd hmg hobj hints hlen hg=>?_
 have KX:=hY w _ Y
 obtain⟨fd,hb,hF⟩:=F w mg fa _ KX G.T.g hmg
 exact xq KX G.T.g G.T.b G.T.builtins G.T.nolimit hg hobj hints (Nat.le_trans hlen hn2) hr hF hb (fun H hO hS=>hsp w H a ns hlen hO hS) fun H e s'=>Yh w H s₁ e s'
end L2
namespace L2
open PySem PySem.Spec PyProof.Rows
def inClass(s:Stmt)(j:Nat):Stmt:=match s with
 | .ClassDef _ _ _ body _ _ _ _ _ _ _=>body.getD j (.Pass ⟨0,0,0,0⟩)
 |_=>.Pass ⟨0,0,0,0⟩
def dB(s:Stmt):Arguments:=match s with
 | .FunctionDef _ a _ _ _ _ _ _ _ _=>a
 |_=> {posonlyargs:=[],args:=[],vararg:=none,kwonlyargs:=[],kw_defaults:=[],kwarg:=none,defaults:=[]}
def aC(s:Stmt):List Stmt:=match s with
 | .FunctionDef _ _ b _ _ _ _ _ _ _=>b
 |_=>[]
def Ĉ(s:Stmt):Scope:=match s with
 | .FunctionDef _ _ _ _ _ _ sc _ _ _=>sc
 |_=> {kind:=.function,names:=[],isGenerator:=false,isCoroutine:=false}
structure dD(K:PySem.W.Frag)(x qual:Str)(st:Stmt)(f:Addr)(fd:FuncData):Prop where
 ex:∃(oc:Value) (od:Option Addr) (kV doc pm:Value) (an:Option Addr) (cdv ct:Value) (osl:Array (Option Value)),
   fd=PySem.W.fnOf x qual (dB st) (aC st) (Ĉ st) .none kV doc pm an cdv ct∧K.lookup f=some ⟨oc,od,.func fd,osl⟩∧PySem.W.codeIn K cdv qual=true
 kp:PySem.W.keepIn K (.ref f)=true
section
variable{P:Program}{w:World}{K:PySem.W.Frag}{mg:Str→Option Value}{base:Heap}
theorem dD.binds{x qual:Str}{st:Stmt}{f:Addr}{fd:FuncData}{ps:List Str}(F:dD K x qual st f fd)
 (h:∀(kV doc pm:Value) (an:Option Addr) (cdv ct:Value) (us:List Value),us.length=ps.length→bindArgs (PySem.W.fnOf x qual (dB st) (aC st) (Ĉ st) .none kV doc pm an cdv ct) ⟨us,[]⟩=pure (ps.zip us)):Binds K fd ps []:=by
 obtain⟨oc,od,kV,doc,pm,an,cdv,ct,osl,rfl,lk,hcd⟩:=F.ex
 exact .all (h kV doc pm an cdv ct)
theorem ĺ{x qual:Str}{st:Stmt}{f:Addr}{oc:Value}{od an:Option Addr}{osl:Array (Option Value)}{kV doc pm cdv ct:Value}(l:K.lookup f=some ⟨oc,od,.func (PySem.W.fnOf x qual (dB st) (aC st) (Ĉ st) .none kV doc pm an cdv ct),osl⟩)
 (c:PySem.W.codeIn K cdv qual=true)(k:PySem.W.keepIn K (.ref f)=true):dD K x qual st f (PySem.W.fnOf x qual (dB st) (aC st) (Ĉ st) .none kV doc pm an cdv ct):=⟨⟨oc,od,kV,doc,pm,an,cdv,ct,osl,rfl,l,c⟩,k⟩
end
section
variable{X:Cx}
theorem pv(i:Nat){x:Str}{pos:Pos}(hN:X.N[i]?=some x:=by rfl)(hv:BW X.env.scope x:=by first|exact Or.inl rfl|exact Or.inr (Or.inl rfl)|exact Or.inr (Or.inr rfl))(hd:(x== ("__debug__" :Str))=false:=by decide)
 (hcd:(x== ("__classdict__" :Str))=false:=by decide):PE X (.Name x pos) (oX i):=eN hN hv hd hcd
end
def Same(H H':Hp):Prop:=∀b o,H b=some o→H' b=some o
theorem Same.refl(H:Hp):Same H H:=fun _ _ h=>h
theorem Same.trans{H H1 H2:Hp}(a:Same H H1)(b:Same H1 H2):Same H H2:=fun c o h=>b c o (a c o h)
theorem Same.free{H H':Hp}(e:Same H H'){l:Addr}(h:H' l=Option.none):H l=Option.none:=by
 cases q:H l with
 |none=>rfl
 |some o=>
  rw[e l o q] at h
  cases h
theorem Same.seq{K:PySem.W.Frag}{H H':Hp}{a:Addr}{xs:List V}(e:Same H H')(h:Ż K H a xs):Ż K H' a xs:=by
 rcases h with(h|⟨o,h⟩)|h
 ·exact .inl (.inl (e _ _ h))
 ·exact .inl (.inr ⟨o,e _ _ h⟩)
 ·exact .inr h
end L2
namespace M2
open PySem PySem.Spec PyProof.Rows L2
section
variable{X:Cx}{a b c e:Expr}{ta tb tc te:TE}{pos:Pos}
theorem PE.wk{t t':TE}(h:PE X e t)(i:∀σ H Q,t' σ H Q→t σ H Q):PE X e t':=fun pins s σ H Q I q=>h pins s σ H Q I (i σ H Q q)
theorem PS.wk{st:Stmt}{t t':TS}(h:PS X st t)(i:∀D σ H,t' D σ H→t D σ H):PS X st t':=fun pins s σ H D I q=>h pins s σ H D I (i D σ H q)
theorem aq.wk{f:Value→Value→Sem Value}{r r':R2}(h:aq X f r)(i:∀x y H Q,r' x y H Q→r x y H Q):aq X f r':=fun pins s σ H x y v u Q I rx ry q=>h pins s σ H x y v u Q I rx ry (i x y H Q q)
theorem Cr.wk{f:Value→Sem Value}{r r':V→Hp→VK→Prop}(h:Cr X f r)(i:∀x H Q,r' x H Q→r x H Q):Cr X f r':=fun pins s σ H x v Q I rx q=>h pins s σ H x v Q I rx (i x H Q q)
theorem ŗ.wk{f:Value}{r r':List V→Hp→VK→Prop}(h:ŗ X f r)(i:∀xs H Q,r' xs H Q→r xs H Q):ŗ X f r':=fun pins s σ H xs us Q I r q=>h pins s σ H xs us Q I r (i xs H Q q)
theorem qR.wk{r r':R2}(h:qR X r)(i:∀x y H Q,r' x y H Q→r x y H Q):qR X r':=fun va sl pins s σ H x y v u Q I rx ry q=>h va sl pins s σ H x y v u Q I rx ry (i x y H Q q)
theorem tu.wk{r r':V→Option Int→Option Int→Hp→VK→Prop}(h:tu X r)(i:∀x lo hi H Q,r' x lo hi H Q→r x lo hi H Q):tu X r':=fun pins s σ H x v vl vu lo hi sl Q I rx hs pl pu q=>h pins s σ H x v vl vu lo hi sl Q I rx hs pl pu (i x lo hi H Q q)
def Ia(i:Nat):TE:=fun σ H Q=>match σ[i]? with
 |some (some v)=>Q v H
 |_=>False
theorem CQ{i:Nat}{σ:L2.St}{H:Hp}{Q:VK}(h:Ia i σ H Q):oX i σ H Q:=by
 unfold Ia at h
 split at h
 ·exact⟨_,by assumption,h⟩
 ·exact h.elim
theorem mv(i:Nat){x:Str}{pos:Pos}(hN:X.N[i]?=some x:=by rfl)(hv:BW X.env.scope x:=by first|exact Or.inl rfl|exact Or.inr (Or.inl rfl)|exact Or.inr (Or.inr rfl))(hd:(x== ("__debug__" :Str))=false:=by decide)
 (hcd:(x== ("__classdict__" :Str))=false:=by decide):PE X (.Name x pos) (Ia i):=PE.wk (eN hN hv hd hcd) fun _ _ _ h=>CQ h
def Nf(x:V)(k:Bool→Prop):Prop:=match x with
 | .bl c=>k c
 |_=>False
theorem nq{x:V}{k:Bool→Prop}(h:Nf x k):∃c,x=.bl c∧k c:=by
 cases x with
 |bl c=>exact⟨c,rfl,h⟩
 |_=>exact h.elim
def Fq(t:TE):TT:=fun σ H Q=>t σ H fun x H1=>Nf x fun c=>Q c H1
theorem Ib{op:CmpOp}{r:R2}(ho:aq X (compareOp op) r)(ha:PE X a ta)(hb:PE X b tb)(hm:behindInMarks op b=false):PT X (.Compare a [op] [b] pos) (Fq (Hq r ta tb)):=by
 intro pins s σ H Q I h
 refine wpAny_isTrue_Compare1 (ś (ha pins s σ H _ I h) fun v s1 ⟨x,H1,I1,r1,q1⟩=>ś (hb pins s1 σ H1 _ I1 q1) fun u s2 ⟨y,H2,I2,r2,q2⟩=>
  ś (ho pins s2 σ H2 x y v u _ I2 r1 r2 q2) fun c s3 ⟨z,H3,I3,r3,q3⟩=>?_) hm
 obtain⟨k,e,q3⟩:=nq q3
 subst e
 cases r3
 exact wpAny_truthy_bool ⟨H3,I3,q3⟩
def xr(r r':R2)(ta tb tc:TE):TE:=fun σ H Q=>ta σ H fun x H1=>tb σ H1 fun y H2=>r x y H2 fun z H3=>Nf z fun k=>
 (if k=true then tc σ H3 fun w' H4=>r' y w' H4 Q else Q (.bl false) H3)
theorem xu{op op':CmpOp}{r r':R2}(ho:aq X (compareOp op) r)(ho':aq X (compareOp op') r')(ha:PE X a ta)(hb:PE X b tb)(hc:PE X c tc)
 (hm:lastMarks [op,op'] [b,c]=false:=by with_unfolding_all rfl):PE X (.Compare a [op,op'] [b,c] pos) (xr r r' ta tb tc):=by
 intro pins s σ H Q I h
 refine Compare_chain (ś (ha pins s σ H _ I h) fun v s1 ⟨x,H1,I1,r1,q1⟩=>chain_link (ś (hb pins s1 σ H1 _ I1 q1) fun u s2 ⟨y,H2,I2,r2,q2⟩=>
  ś (ho pins s2 σ H2 x y v u _ I2 r1 r2 q2) fun d s3 ⟨z,H3,I3,r3,q3⟩=>?_)) hm
 obtain⟨k,e,q3⟩:=nq q3
 subst e
 cases r3
 refine wpAny_truthy_bool ?_
 cases k with
 |false=>exact ite_ff ⟨.bl false,H3,I3,rfl,q3⟩
 |true=>exact ite_tt (chain_last (ś (hc pins s3 σ H3 _ I3 q3) fun w' s4 ⟨z',H4,I4,r4,q4⟩=>ho' pins s4 σ H4 y z' u w' Q I4 r2 r4 q4))
def Ng(ta tb:TE):TE:=fun σ H Q=>ta σ H fun x H1=>Nf x fun c=>if c=true then tb σ H1 Q else Q (.bl false) H1
def Nh(ta:TE):TE:=fun σ H Q=>ta σ H fun x H1=>Nf x fun c=>Q (.bl (!c)) H1
variable{rest:List Expr}
theorem Ie(ha:PE X a ta)(hb:PE X (.BoolOp .And (b::rest) pos) tb):PE X (.BoolOp .And (a::b::rest) pos) (Ng ta tb):=by
 intro pins s σ H Q I h
 refine BoolOp_and (ś (ha pins s σ H _ I h) fun v s1 ⟨x,H1,I1,r1,q1⟩=>?_)
 obtain⟨c,rfl,q1⟩:=nq q1
 cases r1
 refine wpAny_truthy_bool ?_
 cases c with
 |true=>exact hb pins s1 σ H1 Q I1 q1
 |false=>exact⟨.bl false,H1,I1,rfl,q1⟩
theorem Ig(ha:PE X a ta):PE X (.UnaryOp .Not a pos) (Nh ta):=by
 intro pins s σ H Q I h
 refine UnaryOp_ (ś (ha pins s σ H _ I h) fun v s1 ⟨x,H1,I1,r1,q1⟩=>?_)
 obtain⟨c,rfl,q1⟩:=nq q1
 cases r1
 exact not_of (wpAny_truthy_bool ⟨.bl (!c),H1,I1,rfl,q1⟩)
def mI(C:Int→Int→Prop)(g:Int→Int→V):R2:=fun x y H Q=>match x,y with
 | .int i,.int j=>C i j∧Q (g i j) H
 |_,_=>False
def CT(g:Int→Int→V):R2:=fun x y H Q=>match x,y with
 | .int i,.int j=>Q (g i j) H
 |_,_=>False
theorem tK{C:Int→Int→Prop}{g:Int→Int→V}(x y:V)(H:Hp)(Q:VK)(h:mI C g x y H Q):rI C g x y H Q:=by
 cases x with
 |int i=>
  cases y with
  |int j=>exact⟨i,j,rfl,rfl,h.1,h.2⟩
  |_=>exact h.elim
 |_=>exact h.elim
theorem qW{g:Int→Int→V}(x y:V)(H:Hp)(Q:VK)(h:CT g x y H Q):Hr g x y H Q:=by
 cases x with
 |int i=>
  cases y with
  |int j=>exact⟨i,j,rfl,rfl,h⟩
  |_=>exact h.elim
 |_=>exact h.elim
def Ni:R2:=fun x y H Q=>match x,y with
 | .int i,.int j=>Q (.int (i+j)) H
 | .str i,.str j=>i.length+j.length≤sizeLine∧Q (.str (i++j)) H
 |_,_=>False
theorem Ih:aq X (binaryOp .Add) Ni:=aq.wk (Hv.or qI) fun x y H Q h=>by
 cases x with
 |int i=>
  cases y with
  |int j=>exact .inl ⟨i,j,rfl,rfl,h⟩
  |_=>exact h.elim
 |str i=>
  cases y with
  |str j=>exact .inr ⟨i,j,rfl,rfl,h.1,h.2⟩
  |_=>exact h.elim
 |_=>exact h.elim
theorem aL:aq X (binaryOp .Sub) (CT fun i j=>.int (i-j)):=aq.wk Hw qW
def lK(i j:Int):Prop:=Hu i j∨(Builtin.Int.intBits i≤1048576∧Builtin.Int.intBits j≤1048576)
theorem lK.ok{i j:Int}(h:lK i j):IntMulOk i j:=by
 rcases h with h|⟨h1,h2⟩
 ·exact h.ok
 ·exact IntMulOk.of_le h1 h2 (by decide)
theorem Ii:aq X (binaryOp .Mult) (mI lK fun i j=>.int (i*j)):=aq.wk (wB (C:=lK) (g:=fun i j=>i*j) fun _ _ _ _ _ _ _ hc q=>mul_int q hc.ok) tK
def vK(_ j:Int):Prop:=j≠0∧Builtin.Int.intBits j≤8000
theorem vK.py{i j:Int}(h:vK i j):Builtin.divisionGoesByPylong i j=false:=by
 refine PyProof.noPylong_of_log2 ?_
 have hb:=intBits_le_iff.mp h.2
 have h0:j.natAbs≠0:=by have:=h.1;omega
 exact Nat.lt_of_lt_of_le ((Nat.log2_lt h0).mpr hb) (by decide)
theorem aW:aq X (binaryOp .FloorDiv) (mI vK fun i j=>.int (i.fdiv j)):=aq.wk (wB (C:=vK) (g:=fun i j=>i.fdiv j) fun _ _ _ _ _ _ _ hc q=>floordiv_int hc.1 q (.inl hc.py)) tK
theorem Ť:aq X (binaryOp .Mod) (mI (fun _ j=>j≠0) fun i j=>.int (i.fmod j)):=aq.wk Cu tK
theorem bM:aq X (binaryOp .Pow) (mI Ht fun i j=>.int (i ^ j.toNat)):=aq.wk Hx tK
theorem xG:aq X (compareOp .Lt) (CT fun i j=>.bl (decide (i<j))):=aq.wk Mx qW
theorem lM:aq X (compareOp .LtE) (CT fun i j=>.bl (decide (i≤j))):=aq.wk Mz qW
def mU(g:Int→V):V→Hp→VK→Prop:=fun x H Q=>match x with
 | .int i=>Q (g i) H
 |_=>False
theorem Ij:Cr X (unaryOp .USub) (mU fun i=>.int (-i)):=Cr.wk Hy fun x H Q h=>by
 cases x with
 |int i=>exact⟨i,rfl,h⟩
 |_=>exact h.elim
def xH:List V→Hp→VK→Prop:=fun xs H Q=>match xs with
 | [.int i,.int j]=>Q (.int (if j<i then j else i)) H
 |_=>False
theorem CV(hc:X.calm=true):ŗ X (.builtin "min") xH:=ŗ.wk (vC hc) fun xs H Q h=>by
 unfold xH at h
 split at h
 ·exact⟨_,_,rfl,h⟩
 ·exact h.elim
def xJ:List V→Hp→VK→Prop:=fun xs H Q=>match xs with
 | [.int i,.int j]=>Q (.int (if j>i then j else i)) H
 |_=>False
theorem CW(hc:X.calm=true):ŗ X (.builtin "max") xJ:=ŗ.wk (vB hc) fun xs H Q h=>by
 unfold xJ at h
 split at h
 ·exact⟨_,_,rfl,h⟩
 ·exact h.elim
def Ik(K:PySem.W.Frag):List V→Hp→VK→Prop:=fun xs H Q=>match xs with
 | [.str y]=>y.length≤sizeLine∧Q (.int (y.length:Int)) H
 | [.ref p]=>∃ys,(Ż K H p ys∨cJ K H p ys)∧Q (.int (ys.length:Int)) H
 |_=>False
theorem bN:ŗ X (.builtin "len") (Ik X.K):=ŗ.wk wU fun xs H Q h=>by
 unfold Ik at h
 split at h
 ·exact⟨_,_,rfl,⟨h.1,rfl⟩,h.2⟩
 ·obtain⟨ys,h1,h2⟩:=h
  refine⟨_,ys.length,rfl,?_,h2⟩
  rcases h1 with h1|h1
  ·exact .inl ⟨ys,h1,rfl⟩
  ·exact .inr ⟨ys,h1,rfl⟩
 ·exact h.elim
def mIx(K:PySem.W.Frag):R2:=fun x y H Q=>match x,y with
 | .ref p,.int i=>∃xs v,(Ż K H p xs∨cJ K H p xs)∧eO xs i=some v∧Q v H
 | .str z,.int i=>∃c,z.length≤sizeLine∧eO z.cps.toList i=some c∧Q (.str ⟨#[c]⟩) H
 |_,_=>False
theorem ī:qR X (mIx X.K):=qR.wk qT fun x y H Q h=>by
 cases x with
 |ref p=>
  cases y with
  |int i=>
   obtain⟨xs,v,h1,h2,h3⟩:=h
   rcases h1 with h1|h1
   ·exact .inl ⟨p,xs,i,v,rfl,rfl,h1,h2,h3⟩
   ·exact .inr (.inl ⟨p,xs,i,v,rfl,rfl,h1,h2,h3⟩)
  |_=>exact h.elim
 |str z=>
  cases y with
  |int i=>
   obtain⟨c,h1,h2,h3⟩:=h
   exact .inr (.inr ⟨z,i,c,rfl,rfl,h1,h2,h3⟩)
  |_=>exact h.elim
 |_=>exact h.elim
def iOf(x:V)(k:Int→Prop):Prop:=match x with
 | .int i=>k i
 |_=>False
def Nj(t:TE):TO:=fun σ H Q=>t σ H fun x H1=>iOf x fun i=>Q (some i) H1
theorem xK(h:PE X e te):PO X (some e) (Nj te):=by
 intro pins s σ H Q I hw
 rw[evalPart_some]
 refine ś (h pins s σ H _ I hw) fun u s1 ⟨x,H1,I1,r1,q1⟩=>?_
 cases x with
 |int i=>
  obtain⟨t,rfl⟩:=r1
  exact⟨some i,H1,I1,.int i t,q1⟩
 |_=>exact q1.elim
def Yi(K:PySem.W.Frag):V→Option Int→Option Int→Hp→VK→Prop:=fun x lo hi H Q=>match x with
 | .ref a=>∃xs,Ż K H a xs∧∀p,H p=none→Q (.ref p) (upd H p (.lst (oY xs lo hi)))
 |_=>False
theorem xM:tu X (Yi X.K):=tu.wk CN fun x lo hi H Q h=>by
 cases x with
 |ref a=>
  obtain⟨xs,h1,h2⟩:=h
  exact⟨a,xs,rfl,h1,h2⟩
 |_=>exact h.elim
end
end M2
namespace M2
open PySem PySem.Spec PyProof.Rows L2
section
variable{X:Cx}{tg:Expr}
end
mutual
def Rp(K:PySem.W.Frag)(H:Hp):PyData→V→Prop
 | .none,v=>v=.non
 | .bool b,v=>v=.bl b
 | .int i,v=>v=.int i
 | .str x,v=>v=.str x
 | .tuple ds,v=>∃a xs,v=.ref a∧cJ K H a xs∧kh K H ds xs
 | .list ds,v=>∃a xs,v=.ref a∧Ż K H a xs∧kh K H ds xs
 | .dict _,_=>False
def kh(K:PySem.W.Frag)(H:Hp):List PyData→List V→Prop
 | [],xs=>xs=[]
 |d::ds,xs=>∃x r,xs=x::r∧Rp K H d x∧kh K H ds r
end
theorem Same.tup{K:PySem.W.Frag}{H H':Hp}{a:Addr}{xs:List V}(e:Same H H')(h:cJ K H a xs):cJ K H' a xs:=by
 rcases h with(h|⟨o,h⟩)|h
 ·exact .inl (.inl (e _ _ h))
 ·exact .inl (.inr ⟨o,e _ _ h⟩)
 ·exact .inr h
theorem Same.upd{H:Hp}{p:Addr}{o:HO}(h:H p=none):Same H (upd H p o):=fun b u e=>by
 rw[č (ĵ e h)]
 exact e
mutual
theorem Rp.same{K:PySem.W.Frag}{H H':Hp}(e:Same H H'):∀(d:PyData) (v:V),Rp K H d v→Rp K H' d v
 | .none,_,h=>by unfold Rp at h ⊢;exact h
 | .bool _,_,h=>by unfold Rp at h ⊢;exact h
 | .int _,_,h=>by unfold Rp at h ⊢;exact h
 | .str _,_,h=>by unfold Rp at h ⊢;exact h
 | .tuple ds,_,h=>by
   unfold Rp at h ⊢
   obtain⟨a,xs,h1,h2,h3⟩:=h
   exact⟨a,xs,h1,Same.tup e h2,kh.same e ds xs h3⟩
 | .list ds,_,h=>by
   unfold Rp at h ⊢
   obtain⟨a,xs,h1,h2,h3⟩:=h
   exact⟨a,xs,h1,e.seq h2,kh.same e ds xs h3⟩
 | .dict _,_,h=>by unfold Rp at h;exact h.elim
theorem kh.same{K:PySem.W.Frag}{H H':Hp}(e:Same H H'):∀(ds:List PyData) (xs:List V),kh K H ds xs→kh K H' ds xs
 | [],_,h=>by unfold kh at h ⊢;exact h
 |d::ds,_,h=>by
  unfold kh at h ⊢
  obtain⟨x,r,h1,h2,h3⟩:=h
  exact⟨x,r,h1,Rp.same e d x h2,kh.same e ds r h3⟩
end
section
variable{X:Cx}{pins:List (Addr×Obj)}{σ:L2.St}{H:Hp}{s:Shared}
mutual
theorem Rp.reads(I:Inv X pins σ H s):∀(d:PyData) (v:V) (u:Value),Rp X.K H d v→RelV v u→∃as,Reads s.heap u d as
 | .none,v,u,h,r=>by
   unfold Rp at h;subst h;cases r;exact⟨_,.none⟩
 | .bool b,v,u,h,r=>by
   unfold Rp at h;subst h;cases r;exact⟨_,.bool b⟩
 | .int i,v,u,h,r=>by
   unfold Rp at h;subst h;obtain⟨t,rfl⟩:=r;exact⟨_,.int i t⟩
 | .str x,v,u,h,r=>by
   unfold Rp at h;subst h;obtain⟨t,rfl⟩:=r;exact⟨_,.str x t⟩
 | .tuple ds,v,u,h,r=>by
   unfold Rp at h
   obtain⟨a,xs,h1,h2,h3⟩:=h
   subst h1
   cases r
   obtain⟨its,rv,⟨o,e,hc,n,hd⟩,hz⟩:=I.tuple h2
   obtain⟨as,ra⟩:=kh.reads I ds xs its h3 rv
   exact⟨_,.tuple e hc hd (by simpa using ra)⟩
 | .list ds,v,u,h,r=>by
   unfold Rp at h
   obtain⟨a,xs,h1,h2,h3⟩:=h
   subst h1
   cases r
   obtain⟨its,rv,⟨o,n,e,hc,hdd,hd⟩,hz⟩:=I.list h2
   obtain⟨as,ra⟩:=kh.reads I ds xs its h3 rv
   exact⟨_,.list e hc hd (by simpa using ra)⟩
 | .dict _,_,_,h,_=>by unfold Rp at h;exact h.elim
theorem kh.reads(I:Inv X pins σ H s):∀(ds:List PyData) (xs:List V) (us:List Value),kh X.K H ds xs→Vals xs us→∃as,ReadsAll s.heap us ds as
 | [],xs,us,h,r=>by
   unfold kh at h;subst h;cases r;exact⟨_,.nil⟩
 |d::ds,xs,us,h,r=>by
  unfold kh at h
  obtain⟨x,q,h1,h2,h3⟩:=h
  subst h1
  cases r with
  |cons r1 r2=>
   obtain⟨as,ra⟩:=Rp.reads I d x _ h2 r1
   obtain⟨bs,rb⟩:=kh.reads I ds q _ h3 r2
   exact⟨_,.cons ra rb⟩
end
end
def CZ(K:PySem.W.Frag)(neg:Bool):R2:=fun x y H Q=>∃d e,Rp K H d x∧Rp K H e y∧d.canLay0=true∧e.canLay0=true∧min d.depth e.depth≤60∧Q (.bl (if neg then !PyData.eqv d e else PyData.eqv d e)) H
section
variable{X:Cx}
theorem ĳ(hu:X.A.units+64<cLine):aq X (compareOp .Eq) (CZ X.K false):=by
 intro pins s σ H x y v u Q I rx ry h
 obtain⟨d,e,h1,h2,h3,h4,h5,q⟩:=h
 obtain⟨as,ra⟩:=Rp.reads I d x v h1 rx
 obtain⟨bs,rb⟩:=Rp.reads I e y u h2 ry
 exact SeqAt.compareEq_reads ra rb h3 h4 (by omega) ⟨.bl _,H,I,rfl,q⟩
theorem gD(hu:X.A.units+64<cLine):aq X (compareOp .NotEq) (CZ X.K true):=by
 intro pins s σ H x y v u Q I rx ry h
 obtain⟨d,e,h1,h2,h3,h4,h5,q⟩:=h
 obtain⟨as,ra⟩:=Rp.reads I d x v h1 rx
 obtain⟨bs,rb⟩:=Rp.reads I e y u h2 ry
 exact SeqAt.compareNe_reads ra rb h3 h4 (by omega) ⟨.bl _,H,I,rfl,q⟩
end
section
variable{K:PySem.W.Frag}
end
end M2
namespace M3
open PySem PySem.Spec PyProof.Rows L2 M2
theorem tM{P:Program}{w:World}{H:Hp}{h h':Heap}{C:Addr}(x:dR P w H h)(hC:H C=none)(k:∀b u,b≠C→h.get? b=some u→h'.get? b=some u):dR P w H h':=fun a o e=>
 (x a o e).stay (fun b u hb q=>k b u (by
   rcases hb with hb|hb
   ·rw[hb];exact ĵ e hC
   ·exact ĵ hb hC) q) (fun _ q=>q) fun _ _ q=>q
theorem eU{env:Env}:∀(ns:List (Str×NameKind)) (cs:List (Str×Addr)),(∀y∈ns,y.2=.free→∃c,env.cells.lookup y.1=some c)→(∀x c,cs.lookup x=some c→env.cells.lookup x=some c)→
 ∃cl,(forIn ns cs (fun(x:Str×NameKind) r=>if(x.2== .free)=true then(do let c ←cellOf env x.1;pure (ForInStep.yield ((x.1,c)::r))) else pure (ForInStep.yield r)):Sem (List (Str×Addr)))=pure cl∧
  (∀x c,cl.lookup x=some c→env.cells.lookup x=some c)∧(∀x,(∃c,cs.lookup x=some c)→∃c,cl.lookup x=some c)∧∀y∈ns,y.2=.free→∃c,cl.lookup y.1=some c
 | [],cs,_,h2=>⟨cs,rfl,h2,fun _ z=>z,fun _ z=>nomatch z⟩
 |(n,k)::ns,cs,h1,h2=>by
  by_cases hk:k=.free
  ·subst hk
   obtain⟨c,hc⟩:=h1 (n,.free) List.mem_cons_self rfl
   have e:cellOf env n=pure c:=by unfold cellOf;rw[hc]
   have h2':∀x d,((n,c)::cs).lookup x=some d→env.cells.lookup x=some d:=fun x d q=>by
    rw[List.lookup_cons] at q
    cases hx:x== n with
    |true=>
     rw[hx] at q
     have:x=n:=eq_of_beq hx
     subst this
     cases q
     exact hc
    |false=>
     rw[hx] at q
     exact h2 x d q
   obtain⟨cl,q1,q2,q3,q4⟩:=eU ns ((n,c)::cs) (fun y hy=>h1 y (List.mem_cons_of_mem _ hy)) h2'
   refine⟨cl,?_,q2,fun x ⟨d,hd⟩=>q3 x ?_,fun y hy hf=>?_⟩
   ·rw[List.forIn_cons]
    simp only[beq_self_eq_true,if_true,e,pure_bind]
    exact q1
   ·rw[List.lookup_cons]
    cases hx:x== n with
    |true=>exact⟨c,rfl⟩
    |false=>exact⟨d,hd⟩
   ·rcases List.mem_cons.mp hy with rfl|hy
    ·exact q3 n ⟨c,by rw[List.lookup_cons,beq_self_eq_true]⟩
    ·exact q4 y hy hf
  ·have hb:(k== NameKind.free)=false:=by simpa using hk
   obtain⟨cl,q1,q2,q3,q4⟩:=eU ns cs (fun y hy=>h1 y (List.mem_cons_of_mem _ hy)) h2
   refine⟨cl,?_,q2,q3,fun y hy hf=>?_⟩
   ·rw[List.forIn_cons]
    simp only[hb,Bool.false_eq_true,if_false,pure_bind]
    exact q1
   ·rcases List.mem_cons.mp hy with rfl|hy
    ·exact absurd hf hk
    ·exact q4 y hy hf
theorem fJ{scope:Scope}{env:Env}(h:∀y∈scope.names,y.2=.free→∃c,env.cells.lookup y.1=some c) :
 ∃cl,closureFor scope env=pure cl∧(∀x c,cl.lookup x=some c→env.cells.lookup x=some c)∧∀y∈scope.names,y.2=.free→∃c,cl.lookup y.1=some c:=by
 obtain⟨cl,q1,q2,_,q4⟩:=eU (env:=env) scope.names [] h (fun x c z=>by simp at z)
 refine⟨cl,?_,q2,q4⟩
 unfold closureFor
 have e:(forIn scope.names [] (fun(x:Str×NameKind) (r:List (Str×Addr))=>match x with
  |(name,kind)=>if(kind== .free)=true then(do let a ←cellOf env name;pure (ForInStep.yield ((name,a)::r))) else pure (ForInStep.yield r)):Sem (List (Str×Addr)))=pure cl:=q1
 first
  |(simp only[bind_pure];exact q1)
  |(rw[show ∀(t:Sem (List (Str×Addr))),(do let r ←t;pure r)=t from fun t=>by simp];exact q1)
  |(simp only[q1,pure_bind])
def cH(X:Cx)(N':List Str)(scope:Scope)(cl:List (Str×Addr))(C:Addr)(s:Shared)(H:Hp)(fp:List Addr):Cx where
 prog:=X.prog
 w:=X.w
 K:=X.K
 mg:=X.mg
 base:=X.base
 A:=X.A
 N:=N'
 s₀:= s
 H₀:= H
 env:=compEnvC scope cl C X.env
 outer:=X.stack
 stack:=X.stack
 ex:=fp
 fn:=fun x=>scope.names.lookup x== some .cell
 calm:=X.calm
 pn:=[]
 xe:=fun _ _=>False
def gU(X:Cx)(sc scope:Scope):List Str→List Nat→Prop
 |x::xs,j::js=>X.N[j]?=some x∧(scope.names.lookup x=some .free∧(sc.names.lookup x=some .cell∨sc.names.lookup x=some .free))∧gU X sc scope xs js
 |_,[]=>True
 | [],_::_=>False
def cM(js:List Nat)(nl:Nat)(σ:L2.St):L2.St:=js.map (fun j:Nat=>(σ[j]?).getD none)++List.replicate nl none
theorem lN{X:Cx}{sc scope:Scope}{σ:L2.St}{nl:Nat}:∀{N':List Str} {js:List Nat} {i:Nat} {x:Str} {v:V},gU X sc scope N' js→N'[i]?=some x→(cM js nl σ)[i]?=some (some v)→
 ∃j:Nat,X.N[j]?=some x∧σ[j]?=some (some v)∧scope.names.lookup x=some .free∧(sc.names.lookup x=some .cell∨sc.names.lookup x=some .free)
 |N',[],i,x,v,_,_,h=>by
  unfold cM at h
  rw[List.map_nil,List.nil_append,List.getElem?_replicate] at h
  split at h<;>cases h
 | [],_::_,_,_,_,c,_,_=>c.elim
 |y::N',j::js,0,x,v,c,h1,h2=>by
  obtain⟨c1,c2,_⟩:=c
  simp at h1
  subst h1
  have e:(σ[j]?).getD none=some v:=by simpa[cM] using h2
  refine⟨j,c1,?_,c2⟩
  cases q:σ[j]? with
  |none=>rw[q] at e;cases e
  |some o=>rw[q] at e;exact congrArg some e
 |y::N',j::js,i+1,x,v,c,h1,h2=>by
  exact lN (N':=N') (js:=js) (i:=i) c.2.2 (by simpa using h1) (by simpa[cM] using h2)
section
variable{prog:Program}{w:World}{A:Around}{R:Result→Shared→Prop}{s:Shared}
theorem fK{elt target iter:Expr}{ifs:List Expr}{scope:Scope}{pos:Pos}{it acc:Value}{env:Env}(I:Nat→Shared→Prop)
 (turn:∀n s,I n s→wpAny (model prog w) A (pyNext it) (fun r s₁=>match r with
   |none=>R (.ok .next) s₁
   |some v=>wpAny (model prog w) A (letOwnedTupleGo target it v) (fun _ s₁'=>wpAny (model prog w) A (assign target env v) (fun _ s₂=>
     wpAny (model prog w) A (forIn ifs true fun c r=>if r=true then do let ok ←isTrue c env (eval c env);pure (ForInStep.yield ok) else pure (ForInStep.yield r)) (fun ok s₃=>
      if ok=true then wpAny (model prog w) A (eval elt env) (fun x s₄=>
       wpAny (model prog w) A (call (.builtin "list.append") [acc,x]) (fun _ s₅=>∃m,m<n∧I m s₅) (fun _ _=>False) s₄) (fun _ _=>False) s₃
      else ∃m,m<n∧I m s₃) (fun _ _=>False) s₂) (fun _ _=>False) s₁') (fun _ _=>False) s₁) (fun _ _=>False) s)
 (n:Nat)(h:I n s) :
 codeAny (model prog w) A (.compLoop (.ListComp elt [⟨target,iter,ifs,0⟩] scope pos) 0 it acc env) R s:=by
 refine codeAny_loop rfl I (fun n s hI=>?_) n h
 show wpAny _ A ((compTurn (.ListComp elt [⟨target,iter,ifs,0⟩] scope pos) 0 it acc env).onRaise (fun x=>do noteFrame x env;theTreesLotGoes x)) _ _ s
 refine wpAny_noted (wpAny_noRaise ?_)
 rw[compTurn_list]
 refine wpAny_bind (wpAny_standAt (wpAny_bind (wpAny_mono (turn n s hI) (fun r s₁ h₁=>?_) fun _ _ h'=>h')))
 cases r with
 |none=>exact wpAny_pure h₁
 |some v=>
  refine wpAny_bind (wpAny_mono h₁ (fun _ s₁' h₁'=>?_) fun _ _ h'=>h')
  refine wpAny_bind (wpAny_mono h₁' (fun _ s₂ h₂=>wpAny_bind (wpAny_mono h₂ (fun ok s₃ h₃=>?_) fun _ _ h'=>h')) fun _ _ h'=>h')
  cases ok with
  |false=>exact wpAny_pure ⟨rfl,h₃⟩
  |true=>
   exact wpAny_bind (wpAny_bind (wpAny_mono h₃ (fun x s₄ h₄=>wpAny_bind (wpAny_mono h₄ (fun _ s₅ h₅=>wpAny_pure (wpAny_pure ⟨rfl,h₅⟩)) fun _ _ h'=>h')) fun _ _ h'=>h'))
end
def Il(X:Cx)(ifs:List Expr)(t:TT):Prop:=
 ∀(pins:List (Addr×Obj)) (s:Shared) (σ:L2.St) (H:Hp) (Q:Bool→Hp→Prop),Inv X pins σ H s→t σ H Q→
  wpAny (model X.prog X.w) X.A (forIn ifs true fun c r=>if r=true then do let ok ←isTrue c X.env (eval c X.env);pure (ForInStep.yield ok) else pure (ForInStep.yield r)) (TP X pins σ Q) X.xe s
def Yj:TT:=fun _ H Q=>Q true H
theorem C_{X:Cx}:Il X [] Yj:=fun _ _ _ H _ I h=>wpAny_tests_nil ⟨H,I,h⟩
def tQ(js:List Nat)(nl:Nat)(wi:TI)(g:TG)(tt:TT)(te:TE):TE:=fun σ H Q=>wi σ H fun J H1=>∀D,H1 D=none→
 ∃W:Nat→Nat→L2.St→Hp→Prop,(∃m,W 0 m (cM js nl σ) (upd H1 D (.lst [])))∧∀i m σ' H',W i m σ' H'→
  (J.stop i H'∧Q (.ref D) H')∨(J.go i H'∧∃N:L2.St→Hp→Prop,(∀σ2 H2,N σ2 H2→∃m',m'<m∧W (i+1) m' σ2 H2)∧∀x H2,J.Vb i H' x H2→g x σ' H2 fun σ2 H3=>tt σ2 H3 fun c H4=>
    if c=true then te σ2 H4 fun y H5=>∃ys,H5 D=some (.lst ys)∧ys.length<sizeLine∧N σ2 (upd H5 D (.lst (ys ++ [y]))) else N σ2 H4)
section
variable{X:Cx}{elt tg iter:Expr}{ifs:List Expr}{scope:Scope}{pos:Pos}{wi:TI}{g:TG}{tt:TT}{te:TE}
theorem bO{env:Env}:∀{names:List (Str×NameKind)} {x:Str} {k:NameKind},(k=.cell∨k=.free)→
 (names.map fun(n,k)=>if(k== NameKind.free && env.scope.kind== .function && env.kindOf n== some .cell) then(n,NameKind.cell) else(n,k)).lookup x=some k→(x,NameKind.free)∈names∨(x,NameKind.cell)∈names
 | [],x,k,_,h=>by simp at h
 |(n,q)::r,x,k,hk,h=>by
  have ih:=@bO env r x k hk
  rw[List.map_cons] at h
  by_cases hx:x=n
  ·subst hx
   by_cases hf:q=.free
   ·subst hf
    exact .inl List.mem_cons_self
   ·have hb:(q== NameKind.free)=false:=by simpa using hf
    have e:(if(q== NameKind.free && env.scope.kind== .function && env.kindOf x== some .cell)=true then(x,NameKind.cell) else(x,q))=(x,q):=by
     rw[hb];rfl
    have h2:=h
    simp only[e,List.lookup_cons,beq_self_eq_true] at h2
    have:q=k:=Option.some.inj h2
    rcases hk with hk|hk
    ·rw[this,hk]
     exact .inr List.mem_cons_self
    ·exact absurd (this.trans hk) hf
  ·have hn:(x== n)=false:=by simpa using hx
   have h3:(x,NameKind.free)∈r∨(x,NameKind.cell)∈r:=ih (by
    by_cases c:(q== NameKind.free && env.scope.kind== .function && env.kindOf n== some .cell)=true
    ·simp only[c,if_true,List.lookup_cons,hn] at h
     exact h
    ·simp only[c,if_false,Bool.false_eq_true,List.lookup_cons,hn] at h
     exact h)
   rcases h3 with h3|h3
   ·exact .inl (List.mem_cons_of_mem _ h3)
   ·exact .inr (List.mem_cons_of_mem _ h3)
theorem Ř:∀(names:List (Str×NameKind)) (n:Nat) (acc:List (Str×Addr)),cellsFrom n names acc=cellsFrom n names []++acc
 | [],_,_=>rfl
 |(x,k)::r,n,acc=>by
  unfold cellsFrom
  split
  ·rw[Ř r (n+1) ((x,n)::acc),Ř r (n+1) [(x,n)],List.append_assoc]
   rfl
  ·exact Ř r n acc
theorem bQ:∀(names:List (Str×NameKind)) (n:Nat) {x:Str} {c:Addr},(x,c)∈cellsFrom n names []→(x,NameKind.cell)∈names
 | [],_,_,_,h=>by simp[cellsFrom] at h
 |(y,k)::r,n,x,c,h=>by
  unfold cellsFrom at h
  split at h
  ·rename_i hk
   rw[Ř r (n+1) [(y,n)]] at h
   rcases List.mem_append.mp h with h|h
   ·exact List.mem_cons_of_mem _ (bQ r _ h)
   ·have e:(x,c)=(y,n):=by simpa using h
    cases e
    rw[beq_iff_eq.mp hk]
    exact List.mem_cons_self
  ·exact List.mem_cons_of_mem _ (bQ r _ h)
structure Blk(X:Cx)(scope:Scope)(n:Nat)(h:Heap)(cl:List (Str×Addr)):Prop where
 at_:∀x c,cl.lookup x=some c→(X.env.cells.lookup x=some c∧scope.names.lookup x≠some .cell)∨(n<c∧h.IsCell c none∧scope.names.lookup x=some .cell)
 inj:∀x y c,cl.lookup x=some c→cl.lookup y=some c→n<c→x=y
 has:∀x,((x,NameKind.free)∈scope.names∨(x,NameKind.cell)∈scope.names)→∃c,cl.lookup x=some c
theorem xO{X:Cx}{scope:Scope}{n:Nat}{h:Heap}{cl:List (Str×Addr)}(hcell:∀y∈scope.names,y.2=.cell→scope.names.lookup y.1=some .cell)
 (h1:∀x c,cl.lookup x=some c→X.env.cells.lookup x=some c)(h2:∀y∈scope.names,y.2=.free→∃c,cl.lookup y.1=some c)(hlt:∀x c,X.env.cells.lookup x=some c→c<n)
 (ok:CellsOk h (n+1) (cellsFrom (n+1) scope.names [])):Blk X scope n h (cellsFrom (n+1) scope.names cl):=by
 have sp:∀x c,(cellsFrom (n+1) scope.names cl).lookup x=some c→(cl.lookup x=some c∧(cellsFrom (n+1) scope.names []).lookup x=none)∨(cellsFrom (n+1) scope.names []).lookup x=some c:=fun x c e=>by
  rw[Ř,List.lookup_append] at e
  cases q:(cellsFrom (n+1) scope.names []).lookup x with
  |none=>rw[q] at e;exact .inl ⟨by simpa using e,rfl⟩
  |some d=>rw[q] at e;exact .inr (by simpa using e)
 refine⟨fun x c e=>?_,fun x y c e1 e2 hc=>?_,fun x hx=>?_⟩
 ·rcases sp x c e with⟨e,q⟩|e
  ·refine .inl ⟨h1 x c e,fun z=>?_⟩
   obtain⟨d,hd⟩:=fH (sc:=scope) (n:=n+1) z
   rw[hd] at q
   cases q
  ·have m:=mem_of_lookup e
   exact .inr ⟨(ok.empty x c m).2,(ok.empty x c m).1,hcell _ (bQ _ _ m) rfl⟩
 ·have nw:∀z,(cellsFrom (n+1) scope.names cl).lookup z=some c→(cellsFrom (n+1) scope.names []).lookup z=some c:=fun z e=>by
   rcases sp z c e with⟨e,q⟩|e
   ·exact absurd (hlt z c (h1 z c e)) (Nat.lt_asymm hc)
   ·exact e
  exact name_of_addr ok.apart (mem_of_lookup (nw x e1)) (mem_of_lookup (nw y e2))
 ·rw[Ř,List.lookup_append]
  rcases hx with hx|hx
  ·obtain⟨c,hc⟩:=h2 _ hx rfl
   cases q:(cellsFrom (n+1) scope.names []).lookup x with
   |none=>exact⟨c,by simpa using hc⟩
   |some d=>exact⟨d,rfl⟩
  ·obtain⟨d,hd⟩:=fH (sc:=scope) (n:=n+1) (hcell _ hx rfl)
   rw[hd]
   exact⟨d,rfl⟩
theorem dW{M:Model}{A:Around}{E:Value→Shared→Prop}{s:Shared}{scope:Scope}{globals:Addr}{closure:List (Str×Addr)}{qual:Str}
 {func:Option Addr}{code:Value}{env0:Env}{builtins:Addr}{Q:Env→Shared→Prop}
 (hQ:∀h',h'.Ns s.heap.objs.size (fun _=>none)→(∀b o,s.heap.get? b=some o→h'.get? b=some o)→CellsOk h' (s.heap.objs.size+1) (cellsFrom (s.heap.objs.size+1) scope.names [])→
   Q (newEnv scope s.heap.objs.size globals (cellsFrom (s.heap.objs.size+1) scope.names closure) qual func code (some env0) builtins) {s with heap:=h'}) :
 wpAny M A (newFunctionEnv scope globals closure [] qual func code (some env0) builtins) Q E s:=by
 simp only[newFunctionEnv,Option.isSome_some,if_true]
 refine wpAny_bind (wpAny_alloc ?_)
 refine wpAny_bind (wpAny_layCells _ (fun name kind cells=>by cases hkc:kind== NameKind.cell<;>simp[hkc]) _ _ _ _ ?_)
 have ok:=cellsFrom_ok scope.names (s.heap.push {cls:=.type "dict",data:=.dict #[]}) (s.heap.objs.size+1) [] ⟨fun _ _ hm=>(nomatch hm),List.Pairwise.nil⟩ (by rw[Heap.size_push];exact Nat.le_refl _)
 rw[Heap.size_push] at ok
 rw[show({s with heap:=s.heap.push {cls:=.type "dict",data:=.dict #[]}}:Shared).heap.objs.size=s.heap.objs.size+1 from Heap.size_push ..]
 refine wpAny_bind ?_
 rw[List.forIn_nil]
 exact wpAny_pure (wpAny_pure (hQ _ ((Heap.Ns.new s.heap (.type "dict")).keeps (pushCells_keeps _ _)) (fun b o e=>pushCells_keeps _ _ b o (Heap.get?_push_of_some _ e)) ok))
theorem fL{env:Env}:∀{names:List (Str×NameKind)} {x:Str},names.lookup x=some .free→
 ¬(names.map fun(n,k)=>if(k== NameKind.free && env.scope.kind== .function && env.kindOf n== some .cell) then(n,NameKind.cell) else(n,k)).lookup x=some .local
 | [],x,h=>by simp at h
 |(n,q)::r,x,h=>by
  intro h2
  rw[List.map_cons] at h2
  rw[List.lookup_cons] at h
  cases hx:x== n with
  |true=>
   rw[hx] at h
   cases h
   by_cases c:(NameKind.free== NameKind.free && env.scope.kind== .function && env.kindOf n== some .cell)=true
   ·simp only[c,if_true,List.lookup_cons,hx] at h2
    cases h2
   ·simp only[c,if_false,Bool.false_eq_true,List.lookup_cons,hx] at h2
    cases h2
  |false=>
   rw[hx] at h
   have ih:=fL (env:=env) h
   by_cases c:(q== NameKind.free && env.scope.kind== .function && env.kindOf n== some .cell)=true
   ·simp only[c,if_true,List.lookup_cons,hx] at h2
    exact ih h2
   ·simp only[c,if_false,Bool.false_eq_true,List.lookup_cons,hx] at h2
    exact ih h2
theorem lO{pins:List (Addr×Obj)}{σ:L2.St}{H:Hp}{s:Shared}{N':List Str}{js:List Nat}{nl:Nat}{sc:Scope}{cl:List (Str×Addr)}{fp:List Addr}{h':Heap}{tk:Nat}
 (hsc:X.env.scope=sc)(hk:scope.kind=.function)(hcap:gU X sc scope N' js)(hlen:js.length+nl=N'.length)(B:Blk X scope s.heap.objs.size h' cl)
 (I:Inv X pins σ H s)(hf:∀b∈fp,iw X pins H b)(hlt:∀b∈fp,b<s.heap.objs.size)
 (hn:h'.Ns s.heap.objs.size (fun _=>none))(kp:∀b o,s.heap.get? b=some o→h'.get? b=some o) :
 Inv (cH X N' scope cl s.heap.objs.size s H fp) [] (cM js nl σ) H {s with heap:=h',toks:=tk}:=by
 have xP:∀x,((cH X N' scope cl s.heap.objs.size s H fp).env.kindOf x=some .cell∨(cH X N' scope cl s.heap.objs.size s H fp).env.kindOf x=some .free)→∃c,cl.lookup x=some c:=fun x hx=>by
  rcases hx with hx|hx
  ·exact B.has x (bO (.inl rfl) hx)
  ·exact B.has x (bO (.inr rfl) hx)
 have lt:∀x c,X.env.cells.lookup x=some c→c<s.heap.objs.size:=fun x c e=>by
  obtain⟨v,o,ho,_⟩:=I.cell x c e
  exact Heap.lt_size ho
 have inj:∀x y c,cl.lookup x=some c→cl.lookup y=some c→x=y:=fun x y c e1 e2=>by
  rcases B.at_ x c e1 with⟨q1,_⟩|⟨q1,_⟩
  ·rcases B.at_ y c e2 with⟨q2,_⟩|⟨q2,_⟩
   ·exact I.ok.inj x y c q1 q2
   ·exact absurd (lt x c q1) (Nat.lt_asymm q2)
  ·exact B.inj x y c e1 e2 q1
 refine⟨⟨I.ok.mod,hk,I.ok.glob,I.ok.blt,Nat.le_refl _,inj,xP,fun x c z e=>by
  rcases B.at_ x c e with⟨_,q⟩|⟨q,_⟩
  ·exact absurd (beq_iff_eq.mp z) q
  ·exact Nat.le_of_lt q,I.ok.hd,I.ok.frames,.inl rfl,fun b hb=>⟨Nat.ne_of_lt (hlt b hb),fun x c e=>by
  rcases B.at_ x c e with⟨q,_⟩|⟨q,_⟩
  ·exact(hf b hb).2.2.2.2.1 x c q
  ·exact Nat.ne_of_gt (Nat.lt_trans (hlt b hb) q)⟩,
  I.bs,Nat.le_trans I.ok.Cd I.sz,fun b o e hb=>?_,fun b hb hz=>?_,I.stack,I.mW⟩,rfl,I.bare,Un.kept kp,⟨_,hn,fun i x v e1 e2 e3=>?_⟩,fun x c e=>?_,I.hok.fresh (Nat.le_refl _),fun x c e=>by
    rcases B.at_ x c e with⟨q,_⟩|⟨q,_⟩
    ·exact I.dU x c q
    ·exact I.hok.fresh (Nat.le_of_lt q),fun p hp=>?_,I.hok.kept kp,?_⟩
 ·rcases(hf b hb).2.2.2.1 with z|z
  ·exact I.ok.wF b o e z
  ·exact absurd (Nat.lt_of_lt_of_le (Heap.lt_size e) (Nat.le_trans I.ok.Cd z)) (Nat.lt_irrefl _)
 ·rcases List.mem_cons.mp (I.jc b hz) with z|z
  ·exact(hf b hb).2.1 z
  ·exact(hf b hb).2.2.1 z
 ·obtain⟨j,q1,q2,q0,q3⟩:=lN hcap e1 e2
  obtain⟨m,hm,hl⟩:=I.loc
  have Yk:BW X.env.scope x:=by
   rw[hsc]
   rcases q3 with q3|q3
   ·exact .inr (.inl q3)
   ·exact .inr (.inr q3)
  obtain⟨u,ru,lk⟩:=hl j x v q1 q2 Yk
  refine⟨u,ru,?_⟩
  rcases lk with⟨k1,_⟩|⟨k1,c,hc,ic⟩
  ·exfalso
   have k1':sc.names.lookup x=some .local:=by rw[←hsc];exact k1
   rcases q3 with q3|q3<;>(rw[k1'] at q3;cases q3)
  ·have e3':(cH X N' scope cl s.heap.objs.size s H fp).env.kindOf x=some .local∨(cH X N' scope cl s.heap.objs.size s H fp).env.kindOf x=some .cell∨(cH X N' scope cl s.heap.objs.size s H fp).env.kindOf x=some .free:=e3
   rcases e3' with z|z
   ·exact absurd z (fL (env:=X.env) q0)
   ·obtain⟨d,hd⟩:=xP x z
    have:d=c:=by
     rcases B.at_ x d hd with⟨q,_⟩|⟨_,_,q⟩
     ·rw[hc] at q
      exact(Option.some.inj q).symm
     ·rw[q0] at q
      cases q
    subst this
    exact .inr ⟨z,d,hd,by
     obtain⟨o,ho,hd'⟩:=ic
     exact⟨o,kp _ _ ho,hd'⟩⟩
 ·rcases B.at_ x c e with⟨q,_⟩|⟨_,q,_⟩
  ·obtain⟨v,o,ho,hd⟩:=I.cell x c q
   exact⟨v,o,kp _ _ ho,hd⟩
  ·exact⟨none,q⟩
 ·exact absurd hp (by simp[cH])
 ·show _=N'.length
  rw[←hlen]
  simp[cM]
theorem jf{pins:List (Addr×Obj)}{σ σ':L2.St}{H H':Hp}{s s':Shared}{N':List Str}{cl:List (Str×Addr)}{fp:List Addr}{h':Heap}(I:Inv X pins σ H s)(hf:∀b∈fp,iw X pins H b)
 (J:Inv (cH X N' scope cl s.heap.objs.size s H fp) [] σ' H' s')(kp:∀b u,b≠s.heap.objs.size→s'.heap.get? b=some u→h'.get? b=some u):Inv X pins σ H' {s' with heap:=h'}:=by
 have ne:∀{b:Addr} {o:Obj},s.heap.get? b=some o→b≠s.heap.objs.size:=fun e=>Nat.ne_of_lt (Heap.lt_size e)
 have u:=J.base
 refine I.call' (ch:=fp) J.os ⟨fun b o e n hb hx=>kp b o (ne e) (u.keep b o e n hb hx),fun b o e n hb hx=>?_,fun b o e n hx=>u.free b o e n hx,fun b o e hx=>?_,u.tups,u.fC,u.gq⟩ (tM J.hok J.free kp) J.bare fun b hb=>?_
 ·obtain⟨sl,q⟩:=u.slot b o e n hb hx
  exact⟨sl,kp b _ (ne e) q⟩
 ·obtain⟨o',q⟩:=u.there b o e hx
  exact⟨o',kp b _ (ne e) q⟩
 ·exact⟨(hf b hb).2.2.2.1,(hf b hb).2.1,(hf b hb).2.2.2.2.1,(hf b hb).2.2.2.2.2⟩
theorem Dc(N':List Str)(js:List Nat)(nl:Nat)(sc:Scope)(hsc:X.env.scope=sc)(hcalm:X.calm=true)
 (hi:PI X.Ŝ tg iter wi)(hg:∀cl C s H fp,PG (cH X.Ŝ N' scope cl C s H fp) tg g)(ht:∀cl C s H fp,Il (cH X.Ŝ N' scope cl C s H fp) ifs tt)(he:∀cl C s H fp,PE (cH X.Ŝ N' scope cl C s H fp) elt te)
 (hcap:gU X.Ŝ sc scope N' js)(hlen:js.length+nl=N'.length:=by rfl)
 (hk:scope.kind=.function:=by rfl)(hcell:∀y∈scope.names,y.2=.cell→scope.names.lookup y.1=some .cell:=by decide +kernel)(hnames:∀y∈scope.names,y.2=.local→scope.names.lookup y.1=some .local:=by decide +kernel)
 (hfree:∀y∈scope.names,y.2=.free→(sc.names.lookup y.1=some .cell∨sc.names.lookup y.1=some .free):=by decide +kernel)
 (hs:∀x,foldedSetIterable iter X.env x=pure x:=by intro _;rfl) :
 PE X.Ŝ (.ListComp elt [⟨tg,iter,ifs,0⟩] scope pos) (tQ js nl wi g tt te):=by
 intro pins s σ H Q I h
 obtain⟨Nk,c1,c2,c3⟩:=fJ (scope:=scope) (env:=X.Ŝ.env) fun y hy hf=>I.ok.has y.1 (by
  have:=hfree y hy hf
  rw[←hsc] at this
  exact this)
 rw[eval_ListComp]
 refine wpAny_comprehension_free (use:=none) rfl hs c1 hk hnames (ś (hi pins s σ H _ I h) fun v s1 h1=>ś h1 fun itv s2 h2=>?_)
 obtain⟨it,fp,tn,J,H2,e,I2,T,st2,f2,q2⟩:=h2
 subst e
 refine wpAny_newObj_type (dW (fun h₁ hns₁ old Im=>?_))
 dsimp only at hns₁ old Im ⊢
 generalize Io:s2.heap.push {cls:=.type "list",dict:=none,data:=.seq ([]:List Value).toArray}=aF at hns₁ old Im ⊢
 have hD:H2 s2.heap.objs.size=none:=I2.hok.fresh (Nat.le_refl _)
 have I3:Inv X.Ŝ pins σ (upd H2 s2.heap.objs.size (.lst [])) {s2 with heap:=aF}:=by
  rw[←Io]
  exact I2.laid (t':=s2.toks) (fun b u e=>Heap.get?_push_of_some _ e) (Nat.le_refl _) ⟨Nat.zero_le _,[],0,.nil,Heap.get?_push_size _ rfl⟩
 have Dd:∀b∈fp,b<s2.heap.objs.size:=fun b hb=>by
  obtain⟨o,ho,_⟩:=T.obj 0 _ st2 b hb
  exact Heap.lt_size ho
 have Ip:aF.objs.size=s2.heap.objs.size+1:=by rw[←Io,Heap.size_push]
 have f3:∀b∈fp,iw X.Ŝ pins (upd H2 s2.heap.objs.size (.lst [])) b:=fun b hb=>by
  obtain⟨g0,g1⟩:=f2 b hb
  exact⟨by rw[č (Nat.ne_of_lt (Dd b hb))];exact g0,g1⟩
 have B:=xO (X:=X.Ŝ) (cl:=Nk) hcell c2 c3 (fun x c e=>by
  obtain⟨v,o,ho,_⟩:=I3.cell x c e
  exact Heap.lt_size ho) Im
 generalize cellsFrom (aF.objs.size+1) scope.names Nk=cl at B ⊢
 obtain⟨W,⟨m0,w0⟩,turn⟩:=q2 s2.heap.objs.size hD
 have I4:=lO (X:=X.Ŝ) (N':=N') (js:=js) (nl:=nl) (sc:=sc) (scope:=scope) (cl:=cl) (fp:=fp) (h':=h₁) (tk:=s2.toks) hsc hk hcap hlen B I3 f3 (fun b hb=>by show b<aF.objs.size;rw[Ip];exact Nat.lt_succ_of_lt (Dd b hb)) hns₁ old
 have Nm:tn 0 h₁:= T.keep 0 _ _ st2 fun b hb o e=>old b o (by rw[←Io];exact Heap.get?_push_of_some _ e)
 have Yl:∀b∈fp,(upd H2 s2.heap.objs.size (.lst [])) b=none:=fun b hb=>(f3 b hb).1
 have stat:∀{H':Hp},(∀b∈fp,H' b=none)→∀b∈fp,iw (cH X.Ŝ N' scope cl aF.objs.size {s2 with heap:=aF} (upd H2 s2.heap.objs.size (.lst [])) fp) [] H' b:=fun{H'} hn b hb=>by
  obtain⟨g0,g1,g2,g3,g4,g5⟩:=f3 b hb
  refine⟨hn b hb,Nat.ne_of_lt (by show b<aF.objs.size;rw[Ip];exact Nat.lt_succ_of_lt (Dd b hb)),fun z=>?_,.inl hb,fun x c e=>by
   rcases B.at_ x c e with⟨q,_⟩|⟨q,_⟩
   ·exact g4 x c q
   ·exact Nat.ne_of_gt (Nat.lt_trans (by show b<aF.objs.size;rw[Ip];exact Nat.lt_succ_of_lt (Dd b hb)) q),fun p hp=>absurd hp (by simp[cH])⟩
  rcases List.mem_cons.mp (I3.jc b z) with z|z
  ·exact g1 z
  ·exact g2 z
 have loop:∀s₃:Shared,s₃= {s2 with heap:=h₁}→
  codeAny (model X.prog X.w) X.A (.compLoop (.ListComp elt [⟨tg,iter,ifs,0⟩] scope pos) 0 (.ref it) (.ref s2.heap.objs.size) (compEnvC scope cl aF.objs.size X.Ŝ.env))
   (compPost (model X.prog X.w) X.A X.Ŝ.xe none (EP X.Ŝ pins σ Q) (.ref s2.heap.objs.size) aF.objs.size) s₃:= by
  rintro s₃ rfl
  refine fK (fun n s'=>∃i σ' H',Inv (cH X.Ŝ N' scope cl aF.objs.size {s2 with heap:=aF} (upd H2 s2.heap.objs.size (.lst [])) fp) [] σ' H' s'∧tn i s'.heap∧(∀b∈fp,H' b=none)∧W i n σ' H') ?_ m0 ⟨0,_,_,I4,Nm,Yl,w0⟩
  rintro n s5 ⟨i,σ5,H5,I5,Cq,Ho,w5⟩
  rcases turn i n σ5 H5 w5 with⟨stop,qn⟩|⟨go,N,hN,step⟩
  ·refine ś (T.done (cH X.Ŝ N' scope cl aF.objs.size {s2 with heap:=aF} (upd H2 s2.heap.objs.size (.lst [])) fp) rfl rfl rfl hcalm i [] s5 σ5 H5 (fun _ _=>False) I5 (stat Ho) Cq stop) fun r s6 ⟨hr,I6⟩=>?_
   subst hr
   obtain⟨m,hm,_⟩:=I6.loc
   refine⟨m,hm,fun h' hs'=>⟨.ref s2.heap.objs.size,H5,jf I3 f3 I6 (fun b u hb e=>hs'.extBut b u hb e),rfl,qn⟩⟩
  ·refine ś (T.item (cH X.Ŝ N' scope cl aF.objs.size {s2 with heap:=aF} (upd H2 s2.heap.objs.size (.lst [])) fp) rfl rfl rfl hcalm i [] s5 σ5 H5 (fun _ _=>False) I5 (stat Ho) Cq go) fun r s6 ⟨u,hr,h6⟩=>?_
   subst hr
   refine ś h6 fun _ s7 ⟨x,H7,I7,r7,y7,Ir,Ym⟩=>?_
   have Yn:=I7.pinned (stat Ym) (T.obj _ _ Ir)
   have again:∀{s8:Shared} {σ8:L2.St} {H8:Hp},Inv (cH X.Ŝ N' scope cl aF.objs.size {s2 with heap:=aF} (upd H2 s2.heap.objs.size (.lst [])) fp) ([]++gw fp s7.heap) σ8 H8 s8→
    Inv (cH X.Ŝ N' scope cl aF.objs.size {s2 with heap:=aF} (upd H2 s2.heap.objs.size (.lst [])) fp) [] σ8 H8 s8∧tn (i+1) s8.heap∧∀b∈fp,H8 b=none:=fun{s8 σ8 H8} I8=>by
    refine⟨I8.cL,T.keep _ _ _ Ir fun b hb o e=>(I8.pin (b,o) (List.mem_append_right _ (List.mem_append_right _ (ŷ hb e)))).1,fun b hb=>?_⟩
    obtain⟨o,e,d⟩:=T.obj _ _ Ir b hb
    exact(I8.pin (b,o) (List.mem_append_right _ (List.mem_append_right _ (ŷ hb e)))).2.1
   refine ś (hg cl _ _ _ fp _ s7 σ5 H7 x u _ Yn r7 (step x H7 y7)) fun _ s8 ⟨σ8,H8,I8,q8⟩=>?_
   refine ś (ht cl _ _ _ fp _ s8 σ8 H8 _ I8 q8) fun c s9 ⟨H9,I9,q9⟩=>?_
   cases c with
   |false=>
    rw[if_neg Bool.false_ne_true] at q9 ⊢
    obtain⟨m',hm',w9⟩:=hN _ _ q9
    obtain⟨a1,a2,a3⟩:=again I9
    exact⟨m',hm',i+1,σ8,H9,a1,a2,a3,w9⟩
   |true=>
    rw[if_pos rfl] at q9 ⊢
    refine ś (he cl _ _ _ fp _ s9 σ8 H9 _ I9 q9) fun yv Yo ⟨y,Yp,Yq,r10,ys,e10,l10,w10⟩=>?_
    refine ś (dz _ Yo σ8 Yp (.ref s2.heap.objs.size) [y] (.ref s2.heap.objs.size) [yv] (fun _ Iu=>N σ8 Iu) Yq rfl (.cons r10 .nil) ⟨_,ys,y,rfl,rfl,e10,l10,w10⟩) fun _ s11 ⟨v11,Iu,Yr,_,w11⟩=>?_
    obtain⟨a1,a2,a3⟩:=again Yr
    obtain⟨m',hm',w11⟩:=hN _ _ w11
    exact⟨m',hm',i+1,σ8,Iu,a1,a2,a3,w11⟩
 exact codeAny_compStart_list (loop _ rfl) (T.self _ 0 _ _ _ Nm (loop _ rfl))
end
def Its(z:Str):It:=⟨fun i _=>i<z.cps.size,fun i H x H'=>H'=H∧∃c,z.cps.toList[i]?=some c∧x=.str ⟨#[c]⟩,fun i _=>i=z.cps.size⟩
theorem vL{P:Program}{w:World}{K:PySem.W.Frag}{tg:Expr}(it:Addr)(z:Str)(t:Tok)(ty:String)
 (hW:∀A:Around,A.handled=none→Walks P w A it [it] [it] z.cps.size (SignAt z) (fun i h=>h.IsStrIter it ty z t i))
 (hS:∀(A:Around) (i:Nat) (s:Shared) (Q:Value→Shared→Prop) (E:Value→Shared→Prop),s.heap.IsStrIter it ty z t i→Q (.ref it) s→wpAny (model P w) A (pyIter (.ref it)) Q E s)
 (hty:["enumerate","zip","dict_itemiterator","dict_reverseitemiterator","odict_iterator","itertools.zip_longest","itertools.pairwise"].contains ty=false):Turn P w K tg (Its z) [it] it (fun i h=>h.IsStrIter it ty z t i) where
 mem:=by simp
 obj:=fun i h st b hb=>by
  have e:b=it:=by simpa using hb
  subst e
  obtain⟨o,e,c,d⟩:=st
  exact⟨o,e,fun v z=>by rw[d] at z;cases z⟩
 keep:=fun i h h' st k=>by
  obtain⟨o,e,c,d⟩:=st
  exact⟨o,k it (by simp) o e,c,d⟩
 item:=by
  intro X hP hw hK hc i pins s σ H E I hf st hg
  subst hP hw hK
  obtain⟨f0,f1,f2,f3,f4,f5⟩:=hf it (by simp)
  refine(hW X.A (I.ok.hd hc)).item i s _ _ hg st fun v h' tk hv st' kk=>?_
  obtain⟨c,u,hcu,rfl⟩:=hv
  have I1:Inv X pins σ H {s with heap:=h',toks:=tk}:=I.turned (fun b o hb e=>kk b o (by simpa using hb) e) f0 f1 f3 f4 f5
  obtain⟨o,e,cl,d⟩:=id st'
  exact⟨_,rfl,sZ (s:={s with heap:=h',toks:=tk}) e cl d hty ⟨.str ⟨#[c]⟩,H,I1,⟨u,rfl⟩,⟨rfl,c,by simpa using hcu,rfl⟩,st',fun b hb=>(hf b hb).1⟩⟩
 done:=by
  intro X hP hw hK hc i pins s σ H E I hf st hg
  subst hP hw hK
  obtain⟨f0,f1,f2,f3,f4,f5⟩:=hf it (by simp)
  have e:i=z.cps.size:=hg
  subst e
  exact(hW X.A (I.ok.hd hc)).done s _ _ st fun h' tk kk=>⟨rfl,I.turned (fun b o hb e=>kk b o (by simpa using hb) e) f0 f1 f3 f4 f5⟩
 self:=hS
section
variable{X:Cx}{tg:Expr}
end
end M3
namespace M4
open PySem PySem.Spec PyProof.Rows L2 M2 M3
section
variable{X:Cx}
theorem Df{bs:List Bool}:∀{us:List Value},Vals (bs.map V.bl) us→us=bs.map Value.bool:=by
 induction bs with
 |nil=>intro us r;rw[List.map_nil] at r;cases r;rfl
 |cons b bs ih=>
  intro us r
  rw[List.map_cons] at r
  cases r with
  |cons r1 r2=>
   cases r1
   rw[ih r2]
   rfl
theorem all_range(bs:List Bool):(List.range (bs.map Value.bool).toArray.size).all (fun i=>bs.getD i false)=bs.all id:=by
 have e:(bs.map Value.bool).toArray.size=bs.length:=by simp
 rw[e,Bool.eq_iff_iff]
 simp only[List.all_eq_true,List.mem_range,id]
 constructor
 ·intro h b hb
  obtain⟨i,hi,rfl⟩:=List.mem_iff_getElem.mp hb
  have:=h i hi
  rw[List.getD_eq_getElem?_getD,List.getElem?_eq_getElem hi] at this
  exact this
 ·intro h i hi
  rw[List.getD_eq_getElem?_getD,List.getElem?_eq_getElem hi]
  exact h _ (List.getElem_mem hi)
theorem pA{prog:Program}{w:World}{A:Around}(bs:List Bool):TruthOf prog w A (fun i v=>(bs.map Value.bool).toArray[i]?=some v) (fun i=>bs.getD i false):=by
 intro i v s Q E hv hq
 have hv':bs[i]?.map Value.bool=some v:=by
  rw[←List.getElem?_map]
  simpa using hv
 cases hb:bs[i]? with
 |none=>rw[hb] at hv';cases hv'
 |some b=>
  rw[hb] at hv'
  cases hv'
  dsimp only at hq
  rw[List.getD_eq_getElem?_getD,hb] at hq
  exact wpAny_truthy_bool hq
def Iv(K:PySem.W.Frag):List V→Hp→VK→Prop:=fun xs H Q=>match xs with
 | [.ref p]=>∃bs:List Bool,Ż K H p (bs.map V.bl)∧Q (.bl (bs.all id)) H
 |_=>False
theorem qX(hc:X.calm=true):ŗ X (.builtin "all") (Iv X.K):=by
 intro pins s σ H xs us Q I r h
 unfold Iv at h
 split at h
 ·rename_i p
  obtain⟨bs,hS,q⟩:=h
  obtain⟨u,rfl,ru⟩:=vals1 r
  cases ru
  obtain⟨its,rv,pl,hz⟩:=I.list hS
  have e:=Df rv
  subst e
  have hp:p≠s.heap.objs.size:=by
   obtain⟨o,n,e,_⟩:=pl
   exact Nat.ne_of_lt (Heap.lt_size e)
  refine call_all_walk (wpAny_pyIter_list pl.isList ?_)
  refine⟨s.heap.objs.size,_,_,_,_,_,_,rfl,Walks.list (A:=X.A.in1) (show X.A.in1.handled=none from I.ok.hd hc) s.heap.objs.size p hp (bs.map Value.bool).toArray,⟨⟨_,Heap.get?_push_size _ rfl,rfl,rfl⟩,pl.isList.at fun o e=>Heap.get?_push_of_some _ e⟩,pA bs,fun h' tk k=>?_⟩
  rw[all_range]
  exact⟨.bl _,H,I.kept fun b o e=>k b o (by simpa using Nat.ne_of_lt (Heap.lt_size e)) (Heap.get?_push_of_some _ e),rfl,q⟩
 ·exact h.elim
end
abbrev S(l:List Nat):Str:=⟨l.toArray⟩
theorem Iw(z:Str):S z.cps.toList=z:=by
 cases z
 simp
theorem Ft(l:List Nat):(S l).length=l.length:=by simp[Str.length]
theorem pB(z:Str):z.cps.toList.length=z.length:=by simp[Str.length]
theorem Fv(a b:List Nat):S a++S b=S (a++b):=by
 refine PyProof.Rows.ext_toList ?_
 rw[PySem.W.KT.app_list]
def nu(xs:List Nat)(lo hi:Option Int):List Nat:=(xs.drop (HT.dM xs.length 0 lo)).take (HT.dM xs.length xs.length hi-HT.dM xs.length 0 lo)
theorem idx_eq(z:Str)(lo hi:Option Int):Builtin.Str.strSliceIndices lo hi 1 z.length=(List.range (HT.dM z.length z.length hi-HT.dM z.length 0 lo)).map (HT.dM z.length 0 lo + ·):=by
 have hc:∀(o:Option Int) (d:Nat),d≤z.length→(match o with|none=>((d:Nat):Int)|some i=>max 0 (min (if i<0 then i+(z.length:Int) else i) (z.length:Int)))=((HT.dM z.length d o:Nat):Int):=by
  intro o d hd
  cases o with
  |none=>rfl
  |some i=>
   show max 0 (min (if i<0 then i+(z.length:Int) else i) (z.length:Int))=((if i<0 then(i+(z.length:Int)).toNat else min i.toNat z.length:Nat):Int)
   by_cases h:i<0
   ·rw[if_pos h,if_pos h];omega
   ·rw[if_neg h,if_neg h];omega
 have e:Builtin.Str.strSliceIndices lo hi 1 z.length=sliceRange ((HT.dM z.length 0 lo:Nat):Int) ((HT.dM z.length z.length hi:Nat):Int) 1:=by
  have h1:=hc lo 0 (Nat.zero_le _)
  have h2:=hc hi z.length (Nat.le_refl _)
  unfold Builtin.Str.strSliceIndices
  simp only[show(1:Int)>0 by decide,if_true]
  rw[←h1,←h2]
  cases lo<;>cases hi<;>rfl
 rw[e,sliceRange_one]
theorem Dg(z:Str)(lo hi:Option Int):(Builtin.Str.strSliceIndices lo hi 1 z.length).filterMap (z.cps[·]?)=nu z.cps.toList lo hi:=by
 rw[idx_eq,pick_run]
 unfold nu
 rw[pB]
theorem Dh(xs:List Nat)(lo hi:Option Int):(nu xs lo hi).length≤xs.length:=by
 unfold nu
 rw[List.length_take,List.length_drop]
 omega
theorem xQ{z:Str}{t:Tok}{l u:Option (Int×Tok)}{Q:Value→Shared→Prop}{s:Shared}(hz:z.length≤sizeLine)
 (h:∀t' k,Q (.str (S (nu z.cps.toList (l.map (·.1)) (u.map (·.1)))) t') {s with toks:=k}):(sliceMade z t l u none).post Q s:=by
 have e:=Dg z (l.map (·.1)) (u.map (·.1))
 unfold sliceMade
 have ep:slicePicked z l u none=Builtin.Str.strSliceIndices (l.map (·.1)) (u.map (·.1)) 1 z.length:=rfl
 rw[ep]
 split
 ·rename_i hc
  have hl:(Builtin.Str.strSliceIndices (l.map (·.1)) (u.map (·.1)) 1 z.length).length=z.length:=by simpa using hc
  have hz2:nu z.cps.toList (l.map (·.1)) (u.map (·.1))=z.cps.toList:=by
   rw[idx_eq,List.length_map,List.length_range] at hl
   have hi:=HT.wX z.length 0 (Nat.zero_le _) (l.map (·.1))
   have hj:=HT.wX z.length z.length (Nat.le_refl _) (u.map (·.1))
   unfold nu
   rw[pB]
   have hl2:=pB z
   have a0:HT.dM z.length 0 (l.map (·.1))=0∨z.length=0:=by omega
   rcases a0 with a0|a0
   ·rw[a0] at hl ⊢
    rw[List.drop_zero]
    exact List.take_of_length_le (by omega)
   ·have:z.cps.toList=[]:=List.eq_nil_of_length_eq_zero (by omega)
    rw[this]
    simp
  have:=h t s.toks
  rw[hz2,Iw] at this
  exact this
 ·rw[e]
  exact⟨by rw[Ft];have:=Dh z.cps.toList (l.map (·.1)) (u.map (·.1));rw[pB] at this;omega,h _ _⟩
section
variable{X:Cx}
def Ys:V→Option Int→Option Int→Hp→VK→Prop:=fun x lo hi H Q=>match x with
 | .str z=>z.length≤sizeLine∧Q (.str (S (nu z.cps.toList lo hi))) H
 |_=>False
theorem Di:tu X Ys:=by
 intro pins s σ H x v vl vu lo hi sl Q I rx hs pl pu h
 cases x with
 |str z=>
  obtain⟨t,rfl⟩:=rx
  obtain⟨hz,q⟩:=h
  obtain⟨l,el,el2⟩:∃l:Option (Int×Tok),partValue l=vl∧l.map (·.1)=lo:=by
   cases pl with
   |none=>exact⟨none,rfl,rfl⟩
   |int i t=>exact⟨some (i,t),rfl,rfl⟩
  obtain⟨u,eu,eu2⟩:∃u:Option (Int×Tok),partValue u=vu∧u.map (·.1)=hi:=by
   cases pu with
   |none=>exact⟨none,rfl,rfl⟩
   |int i t=>exact⟨some (i,t),rfl,rfl⟩
  subst el el2 eu eu2
  exact⟨"str",_,F.slot_str_getitem.lookup,typeIs_str s z t,wpAny_getItem_str_slice (l:=l) (u:=u) (st:=none) hs rfl (xQ hz fun t' k=>⟨.str _,H,I.tok _,⟨_,rfl⟩,q⟩)⟩
 |_=>exact h.elim
def Yt(K:PySem.W.Frag):V→Option Int→Option Int→Hp→VK→Prop:=fun x lo hi H Q=>match x with
 | .ref a=>∃xs,Ż K H a xs∧∀p,H p=none→Q (.ref p) (upd H p (.lst (oY xs lo hi)))
 | .str z=>z.length≤sizeLine∧Q (.str (S (nu z.cps.toList lo hi))) H
 |_=>False
theorem slm:tu X (Yt X.K):=tu.wk (xM.or Di) fun x lo hi H Q h=>by
 cases x with
 |ref a=>exact .inl h
 |str z=>exact .inr h
 |_=>exact h.elim
theorem mul_eq(z:Str){n:Int}(h:0≤n):Txt.mul z n=S (List.replicate n.toNat z.cps.toList).flatten:=by
 have key:∀(k:Nat) (acc:Array Nat),((List.replicate k z.cps).foldl (·++ ·) acc).toList=acc.toList++(List.replicate k z.cps.toList).flatten:=by
  intro k
  induction k with
  |zero=>intro acc;simp
  |succ k ih=>
   intro acc
   rw[List.replicate_succ,List.foldl_cons,ih,List.replicate_succ,List.flatten_cons]
   simp
 unfold Txt.mul
 refine PyProof.Rows.ext_toList ?_
 by_cases h1:n<1
 ·rw[if_pos h1]
  have:n.toNat=0:=by omega
  rw[this]
  simp[Str.empty]
 ·rw[if_neg h1]
  split
  ·rename_i hc
   rw[Bool.or_eq_true] at hc
   rcases hc with hc|hc
   ·have:n=1:=by simpa using hc
    subst this
    simp
   ·have h0:z.cps.toList=[]:=List.eq_nil_of_length_eq_zero (by rw[pB];simpa using hc)
    rw[h0]
    simp
  ·rw[key]
   simp
def xR(z:Str)(n:Int):Prop:=0≤n∧n≤1000∧z.length≤1000
theorem xR.ok{z:Str}{n:Int}(h:xR z n):MulOk z n:=by
 obtain⟨h0,h1,h2⟩:=h
 refine⟨?_,fun hn _=>?_,fun hn _=>?_⟩
 ·rw[decide_eq_false (by omega),decide_eq_false (by omega)]
  rfl
 ·have:(9000000000000000:Int)≤(2 ^ 63-1) / n:=by
   rw[Int.le_ediv_iff_mul_le (by omega)]
   omega
  omega
 ·have:z.length*n.toNat≤1000*1000:=Nat.mul_le_mul h2 (by omega)
  unfold Builtin.Str.tooLong
  simp
  rw[sizeLine_eq]
  omega
def xT:R2:=fun x y H Q=>match x,y with
 | .int i,.int j=>lK i j∧Q (.int (i*j)) H
 | .str z,.int n=>xR z n∧Q (.str (S (List.replicate n.toNat z.cps.toList).flatten)) H
 |_,_=>False
theorem ż:aq X (binaryOp .Mult) xT:=by
 intro pins s σ H x y v u Q I rx ry h
 unfold xT at h
 split at h
 ·exact Ii pins s σ H _ _ v u Q I rx ry h
 ·obtain⟨t,rfl⟩:=rx
  obtain⟨t',rfl⟩:=ry
  exact SB.mul h.1.ok fun t' k=>⟨.str _,H,I.tok _,⟨_,by rw[mul_eq _ h.1.1]⟩,h.2⟩
 ·exact h.elim
def cj(sep:List Nat):List (List Nat)→List Nat
 | []=>[]
 | [x]=>x
 |x::y::r=>x++sep++cj sep (y::r)
theorem join_eq(sep:Str):∀ys:List (List Nat),Str.join sep (ys.map S)=S (cj sep.cps.toList ys)
 | []=>rfl
 | [x]=>rfl
 |x::y::r=>by
  have ih:=join_eq sep (y::r)
  show S x++sep++Str.join sep ((y::r).map S)=_
  have e:cj sep.cps.toList (x::y::r)=x++sep.cps.toList++cj sep.cps.toList (y::r):=rfl
  rw[ih,e,←Fv,←Fv,Iw]
theorem Dj{ys:List (List Nat)}:∀{us:List Value},Vals (ys.map fun l=>V.str (S l)) us→StrsAre us (ys.map S):=by
 induction ys with
 |nil=>intro us r;rw[List.map_nil] at r;cases r;exact .nil
 |cons y ys ih=>
  intro us r
  rw[List.map_cons] at r
  cases r with
  |cons r1 r2=>
   obtain⟨t,rfl⟩:=r1
   exact .cons _ t (ih r2)
def xU(K:PySem.W.Frag):V→List V→Hp→VK→Prop:=fun x vs H Q=>match x,vs with
 | .str z,[.ref p]=>∃ys:List (List Nat),Ż K H p (ys.map fun l=>V.str (S l))∧(ys.map List.length).sum+ys.length*z.length≤16777216∧Q (.str (S (cj z.cps.toList ys))) H
 |_,_=>False
theorem tU:XS X "str.join" (xU X.K):=by
 intro pins s σ H x xs v us Q I rx rs h
 unfold xU at h
 split at h
 ·obtain⟨ys,hS,hz,q⟩:=h
  obtain⟨t,rfl⟩:=rx
  obtain⟨u,rfl,ru⟩:=vals1 rs
  cases ru
  obtain⟨its,rv,pl,_⟩:=I.list hS
  refine join_list pl.isList (by simpa using Dj rv) ?_ fun t' k=>⟨.str _,H,I.tok _,⟨t',?_⟩,q⟩
  ·have e1:((ys.map S).map (·.length))=ys.map List.length:=by
    rw[List.map_map]
    exact List.map_congr_left fun l _=>Ft l
   rw[e1,List.length_map]
   exact hz
  ·unfold Txt.join
   rw[StrLaws.glued_eq_join,join_eq]
 ·exact h.elim
end
end M4
namespace P
def nst:PySem.Expr→Bool
 | .Starred .. =>false
 |_=>true
theorem Ā{e:PySem.Expr}{es:List PySem.Expr}{env:PySem.Env}(h:nst e=true):PySem.starEach (e::es) env=(false,PySem.eval e env)::PySem.starEach es env:=by
 cases e<;>first|rfl|cases h
open PySem PySem.Spec PyProof.Rows L2 M2
structure KK where
 K:PySem.W.Frag
 cm:String→Addr
abbrev kk(X:Cx)(cm:String→Addr):KK:=⟨X.K,cm⟩
inductive PV where
 |non|bl (b:Bool)|int (i:Int)|str (x:Str)|tup (xs:List PV)|lst (xs:List PV)
 |ins (C:String) (ns:List Str) (xs:List PV)|xc (C:String) (ns:List Str) (xs:List PV)|ty (n:String)|cls (C:String)
def xo(a C:Addr)(d:Option Addr):HO:=.ext fun h=>∃o vs,h.get? a=some o∧o.cls=.ref C∧o.dict=d∧o.data=.fields vs
def jg(F:Hp)(d:Option Addr)(fs:List (Str×V)):Prop:=(d=none∧fs=[])∨∃a,d=some a∧F a=some (.xd fs)
mutual
def Rep(K:KK)(F:Hp):PV→V→Prop
 | .non,v=>v=.non
 | .bl b,v=>v=.bl b
 | .int i,v=>v=.int i
 | .str x,v=>v=.str x
 | .tup ps,v=>∃a xs,v=.ref a∧cJ K.K F a xs∧Đ K F ps xs
 | .lst ps,v=>∃a xs,v=.ref a∧Ż K.K F a xs∧Đ K F ps xs
 | .ins C ns ps,v=>∃a dx fs,v=.ref a∧F a=some (.ins (K.cm C) dx fs)∧fs.map (·.1)=ns∧Đ K F ps (fs.map (·.2))
 | .xc C ns ps,v=>∃a d fs,v=.ref a∧F a=some (xo a (K.cm C) d)∧jg F d fs∧fs.map (·.1)=ns∧Đ K F ps (fs.map (·.2))
 | .ty n,v=>v=.ty n
 | .cls C,v=>v=.ref (K.cm C)
def Đ(K:KK)(F:Hp):List PV→List V→Prop
 | [],xs=>xs=[]
 |p::ps,xs=>∃x r,xs=x::r∧Rep K F p x∧Đ K F ps r
end
section
variable{K:KK}{F F' H H':Hp}
theorem jg.same{d:Option Addr}{fs:List (Str×V)}(e:Same F F')(h:jg F d fs):jg F' d fs:=by
 rcases h with h|⟨a,h1,h2⟩
 ·exact .inl h
 ·exact .inr ⟨a,h1,e _ _ h2⟩
mutual
theorem Rep.same(e:Same F F'):∀(p:PV) (v:V),Rep K F p v→Rep K F' p v
 | .non,_,h=>by unfold Rep at h ⊢;exact h
 | .bl _,_,h=>by unfold Rep at h ⊢;exact h
 | .int _,_,h=>by unfold Rep at h ⊢;exact h
 | .str _,_,h=>by unfold Rep at h ⊢;exact h
 | .ty _,_,h=>by unfold Rep at h ⊢;exact h
 | .cls _,_,h=>by unfold Rep at h ⊢;exact h
 | .tup ps,_,h=>by
   unfold Rep at h ⊢
   obtain⟨a,xs,h1,h2,h3⟩:=h
   exact⟨a,xs,h1,Same.tup e h2,Đ.same e ps xs h3⟩
 | .lst ps,_,h=>by
   unfold Rep at h ⊢
   obtain⟨a,xs,h1,h2,h3⟩:=h
   exact⟨a,xs,h1,e.seq h2,Đ.same e ps xs h3⟩
 | .ins C ns ps,_,h=>by
   unfold Rep at h ⊢
   obtain⟨a,dx,fs,h1,h2,h3,h4⟩:=h
   exact⟨a,dx,fs,h1,e _ _ h2,h3,Đ.same e ps _ h4⟩
 | .xc C ns ps,_,h=>by
   unfold Rep at h ⊢
   obtain⟨a,d,fs,h1,h2,hd,h3,h4⟩:=h
   exact⟨a,d,fs,h1,e _ _ h2,hd.same e,h3,Đ.same e ps _ h4⟩
theorem Đ.same(e:Same F F'):∀(ps:List PV) (xs:List V),Đ K F ps xs→Đ K F' ps xs
 | [],_,h=>by unfold Đ at h ⊢;exact h
 |p::ps,_,h=>by
  unfold Đ at h ⊢
  obtain⟨x,r,h1,h2,h3⟩:=h
  exact⟨x,r,h1,Rep.same e p x h2,Đ.same e ps r h3⟩
end
theorem Đ.pr:∀{ps:List PV} {vs:List V},Đ K F ps vs→Paired (Rep K F) ps vs
 | [],_,h=>by unfold Đ at h;subst h;exact .nil
 |p::ps,_,h=>by
  unfold Đ at h
  obtain⟨x,r,rfl,h2,h3⟩:=h
  exact .cons h2 (Đ.pr h3)
theorem Đ.of:∀{ps:List PV} {vs:List V},Paired (Rep K F) ps vs→Đ K F ps vs
 | [],_,.nil=>by unfold Đ;rfl
 |p::ps,_,.cons h t=>by unfold Đ;exact⟨_,_,rfl,h,Đ.of t⟩
theorem Đ.nil:Đ K F [] []:=Đ.of .nil
theorem Đ.cons{p:PV}{v:V}{ps:List PV}{vs:List V}(h:Rep K F p v)(t:Đ K F ps vs):Đ K F (p::ps) (v::vs):=Đ.of (.cons h t.pr)
theorem Đ.length{ps:List PV}{vs:List V}(h:Đ K F ps vs):ps.length=vs.length:=Paired.length h.pr
theorem bR{α β:Type}{G:α→β→Prop}:∀{l:List α} {m:List β} {i:Nat} {x:α},Paired G l m→l[i]?=some x→∃y,m[i]?=some y∧G x y
 |_,_,_,_,.nil,e=>by simp at e
 |_,_,0,_,.cons r _,e=>by simp at e;subst e;exact⟨_,rfl,r⟩
 |_,_,i+1,x,.cons _ t,e=>by
  obtain⟨y,h1,h2⟩:=bR (i:=i) (x:=x) t (by simpa using e)
  exact⟨y,by simpa using h1,h2⟩
theorem iQ{α β:Type}{G:α→β→Prop}:∀{l:List α} {m:List β} {i:Nat} {y:β},Paired G l m→m[i]?=some y→∃x,l[i]?=some x∧G x y
 |_,_,_,_,.nil,e=>by simp at e
 |_,_,0,_,.cons r _,e=>by simp at e;subst e;exact⟨_,rfl,r⟩
 |_,_,i+1,y,.cons _ t,e=>by
  obtain⟨x,h1,h2⟩:=iQ (i:=i) (y:=y) t (by simpa using e)
  exact⟨x,by simpa using h1,h2⟩
theorem qY{α β:Type}{G:α→β→Prop}:∀{l l2:List α} {m m2:List β},Paired G l m→Paired G l2 m2→Paired G (l++l2) (m++m2)
 |_,_,_,_,.nil,t=>t
 |_,_,_,_,.cons r s,t=>.cons r (qY s t)
theorem xV{α β:Type}{G:α→β→Prop}{x:α}{y:β}(r:G x y):∀{l:List α} {m:List β} (i:Nat),Paired G l m→Paired G (l.set i x) (m.set i y)
 |_,_,_,.nil=>.nil
 |_,_,0,.cons _ t=>.cons r t
 |_,_,i+1,.cons q t=>.cons q (xV r i t)
theorem tW{α β:Type}{G:α→β→Prop}:∀{l:List α} {m:List β} (n:Nat),Paired G l m→Paired G (l.take n) (m.take n)
 |_,_,0,_=>.nil
 |_,_,_+1,.nil=>.nil
 |_,_,n+1,.cons r t=>.cons r (tW n t)
theorem tX{α β:Type}{G:α→β→Prop}:∀{l:List α} {m:List β} (n:Nat),Paired G l m→Paired G (l.drop n) (m.drop n)
 |_,_,0,h=>h
 |_,_,_+1,.nil=>.nil
 |_,_,n+1,.cons _ t=>tX n t
theorem Đ.append{ps qs:List PV}{vs us:List V}(h:Đ K F ps vs)(t:Đ K F qs us):Đ K F (ps++qs) (vs++us):=Đ.of (qY h.pr t.pr)
end
inductive Slot where
 |no|sh (p:PV)|ow (ps:List PV)|bw (ps:List PV)|rc (C:String) (ns:List Str) (ps:List PV)|ot (ps qs:List PV)|ol (Ů:List (List PV))
abbrev Ŋ:=List Slot
def Slot.own:Slot→Bool
 | .ow _=>true
 | .rc _ _ _=>true
 | .ot _ _=>true
 | .ol _=>true
 |_=>false
structure Ctx where
 B:Hp
 F₀:Hp
 /-- what is lent here:read,never changed,never kept -/
 L:Hp
 /-- which objects may be held as one's own:address,dict,class -/
 S:Addr→Addr→String→Prop
def Ő(K:KK)(c:Ctx)(F H:Hp)(o:Option V):Slot→Prop
 | .no=>True
 | .sh p=>∃v,o=some v∧Rep K F p v
 | .ow ps=>∃a vs,o=some (.ref a)∧H a=some (.lst vs)∧F a=none∧c.B a=none∧Đ K F ps vs
 | .bw ps=>∃a vs,o=some (.ref a)∧c.L a=some (.lst vs)∧Đ K F ps vs
 | .rc C ns ps=>∃a dx fs,o=some (.ref a)∧H a=some (.ins (K.cm C) dx fs)∧F a=none∧c.B a=none∧fs.map (·.1)=ns∧Đ K F ps (fs.map (·.2))∧c.S a dx C
 | .ot ps qs=>∃p a xs vs,o=some (.ref p)∧F p=some (.tup (xs ++ [.ref a]))∧Đ K F ps xs∧H a=some (.lst vs)∧F a=none∧c.B a=none∧Đ K F qs vs
 | .ol Ů=>∃(p:Addr) (as:List Addr),o=some (.ref p)∧F p=some (.lst (as.map V.ref))∧as.Nodup∧Paired (fun(a:Addr) (ps:List PV)=>∃vs,H a=some (.lst vs)∧F a=none∧c.B a=none∧Đ K F ps vs) as Ů
def Slot.at_(F:Hp)(x:V)(a:Addr):Slot→Prop
 | .ot _ _=>∃p xs,x=.ref p∧F p=some (.tup (xs ++ [.ref a]))
 | .ol _=>∃(p:Addr) (as:List Addr),x=.ref p∧F p=some (.lst (as.map V.ref))∧a∈as
 | .ow _=>x=.ref a
 | .rc _ _ _=>x=.ref a
 |_=>False
def Ń(F:Hp)(σ:L2.St)(ρ:Ŋ)(i:Nat)(a:Addr):Prop:=∃s x,ρ[i]?=some s∧σ[i]?=some (some x)∧s.at_ F x a
structure Rel(K:KK)(c:Ctx)(F H:Hp)(σ:L2.St)(ρ:Ŋ):Prop where
 sub:Same F H
 base:Same c.B H
 f0:Same c.F₀ F
 ao:∀a,c.B a≠none→c.F₀ a=none→F a=none
 lent:∀a u,c.L a=some u→H a=some u∧F a=none
 lb:∀a,c.B a=none→c.L a=none
 len:σ.length=ρ.length
 slot:∀(i:Nat) s,ρ[i]?=some s→Ő K c F H ((σ[i]?).getD none) s
 sep:∀i j a,Ń F σ ρ i a→Ń F σ ρ j a→i=j
def cu(F:Hp)(σ:L2.St)(ρ:Ŋ)(a:Addr):Prop:=∀i,¬Ń F σ ρ i a
section
variable{K:KK}{c:Ctx}{F F' H H':Hp}{σ:L2.St}{ρ:Ŋ}{a:Addr}{o:HO}
theorem jh{s:Slot}{x:V}(h:s.at_ F x a):s.own=true:=by
 cases s<;>first|rfl|exact h.elim
theorem bB:∀{as bs:List Addr},as.map V.ref=bs.map V.ref→as=bs
 | [],[],_=>rfl
 | [],_::_,h=>by cases h
 |_::_,[],h=>by cases h
 |a::as,b::bs,h=>by
  injection h with h1 h2
  injection h1 with h1
  rw[h1,bB h2]
theorem iR{ps qs:List PV}{x:V}{b:Addr}(h:(Slot.ot ps qs).at_ F x a)(h':(Slot.ot ps qs).at_ F x b):a=b:=by
 obtain⟨p,xs,h1,h2⟩:=h
 obtain⟨q,ys,h3,h4⟩:=h'
 rw[h1] at h3
 cases h3
 rw[h2] at h4
 have e:xs ++ [V.ref a]=ys ++ [V.ref b]:=by
  injection h4 with h4
  injection h4
 have e2:=congrArg List.getLast? e
 simp at e2
 exact e2
theorem nA{α β:Type}{G:α→β→Prop}:∀{l:List α} {m:List β} {x:α},Paired G l m→x∈l→∃y,y∈m∧G x y
 |_,_,_,.nil,h=>by simp at h
 |_,_,x,.cons r t,h=>by
  rcases List.mem_cons.mp h with rfl|h
  ·exact⟨_,List.mem_cons_self,r⟩
  ·obtain⟨y,h1,h2⟩:=nA t h
   exact⟨y,List.mem_cons_of_mem _ h1,h2⟩
theorem dX{α β:Type}{G G':α→β→Prop}:∀{l:List α} {m:List β},Paired G l m→(∀x y,x∈l→G x y→G' x y)→Paired G' l m
 |_,_,.nil,_=>.nil
 |_,_,.cons r t,h=>.cons (h _ _ List.mem_cons_self r) (dX t fun x y hx=>h x y (List.mem_cons_of_mem _ hx))
theorem Ő.grow{s:Slot}{x:Option V}(h:Ő K c F H x s)(eF:Same F F')(eH:∀b vs,(∃y,x=some y∧s.at_ F y b)→H b=some vs→F b=none→c.B b=none→H' b=some vs∧F' b=none):Ő K c F' H' x s:=by
 cases s with
 |no=>trivial
 |sh p=>obtain⟨v,h1,h2⟩:=h;exact⟨v,h1,h2.same eF p v⟩
 |ow ps=>
  obtain⟨b,vs,h1,h2,h3,h4,h5⟩:=h
  obtain⟨e1,e2⟩:=eH b _ ⟨_,h1,rfl⟩ h2 h3 h4
  exact⟨b,vs,h1,e1,e2,h4,h5.same eF ps vs⟩
 |bw ps=>obtain⟨b,vs,h1,h2,h3⟩:=h;exact⟨b,vs,h1,h2,h3.same eF ps vs⟩
 |rc C ns ps=>
  obtain⟨b,dx,fs,h1,h2,h3,h4,h5,h6⟩:=h
  obtain⟨e1,e2⟩:=eH b _ ⟨_,h1,rfl⟩ h2 h3 h4
  exact⟨b,dx,fs,h1,e1,e2,h4,h5,h6.1.same eF ps _,h6.2⟩
 |ot ps qs=>
  obtain⟨p,b,xs,vs,h1,h2,h3,h4,h5,h6,h7⟩:=h
  obtain⟨e1,e2⟩:=eH b _ ⟨_,h1,p,xs,rfl,h2⟩ h4 h5 h6
  exact⟨p,b,xs,vs,h1,eF _ _ h2,h3.same eF ps xs,e1,e2,h6,h7.same eF qs vs⟩
 |ol Ů=>
  obtain⟨p,as,h1,h2,h3,h4⟩:=h
  refine⟨p,as,h1,eF _ _ h2,h3,dX h4 fun b ps hb ⟨vs,k1,k2,k3,k4⟩=>?_⟩
  obtain⟨e1,e2⟩:=eH b _ ⟨_,h1,p,as,rfl,h2,hb⟩ k1 k2 k3
  exact⟨vs,e1,e2,k3,k4.same eF ps vs⟩
theorem Ő.owned{s:Slot}{y:V}(h:Ő K c F H (some y) s)(ha:s.at_ F y a):∃u,H a=some u∧F a=none∧c.B a=none:=by
 cases s with
 |no=>exact ha.elim
 |sh p=>exact ha.elim
 |bw ps=>exact ha.elim
 |ow ps=>
  obtain⟨b,vs,h1,h2,h3,h4,h5⟩:=h
  rw[show y=.ref a from ha] at h1
  cases h1
  exact⟨_,h2,h3,h4⟩
 |rc C ns ps=>
  obtain⟨b,dx,fs,h1,h2,h3,h4,h5,h6⟩:=h
  rw[show y=.ref a from ha] at h1
  cases h1
  exact⟨_,h2,h3,h4⟩
 |ot ps qs=>
  obtain⟨p,b,xs,vs,h1,h2,h3,h4,h5,h6,h7⟩:=h
  cases h1
  cases iR (ps:=ps) (qs:=qs) ha ⟨p,xs,rfl,h2⟩
  exact⟨_,h4,h5,h6⟩
 |ol Ů=>
  obtain⟨p,as,h1,h2,h3,h4⟩:=h
  cases h1
  obtain⟨q,bs,e1,e2,e3⟩:=ha
  cases e1
  rw[h2] at e2
  have e:as=bs:=bB (by injection e2 with e2;injection e2)
  subst e
  obtain⟨ps,_,vs,k1,k2,k3,_⟩:=nA h4 e3
  exact⟨_,k1,k2,k3⟩
theorem Ő.back{s:Slot}{y:V}(h:Ő K c F H (some y) s)(e:Same F F')(ha:s.at_ F' y a):s.at_ F y a:=by
 cases s with
 |ot ps qs=>
  obtain⟨p,b,xs,vs,h1,h2,h3,h4,h5,h6,h7⟩:=h
  cases h1
  cases iR (ps:=ps) (qs:=qs) ha ⟨p,xs,rfl,e _ _ h2⟩
  exact⟨p,xs,rfl,h2⟩
 |ol Ů=>
  obtain⟨p,as,h1,h2,h3,h4⟩:=h
  cases h1
  obtain⟨q,bs,e1,e2,e3⟩:=ha
  cases e1
  rw[e _ _ h2] at e2
  have z:as=bs:=bB (by injection e2 with e2;injection e2)
  subst z
  exact⟨p,as,rfl,h2,e3⟩
 |_=>exact ha
theorem xW{i:Nat}{x:V}(e:σ[i]?=some (some x)):(σ[i]?).getD none=some x:=by rw[e];rfl
theorem nC{i:Nat}{x:V}(e:(σ[i]?).getD none=some x):σ[i]?=some (some x):=by
 cases q:σ[i]? with
 |none=>rw[q] at e;cases e
 |some y=>rw[q] at e;exact congrArg some e
theorem Rel.owned(r:Rel K c F H σ ρ){i:Nat}(h:Ń F σ ρ i a):(∃u,H a=some u)∧F a=none∧c.B a=none:=by
 obtain⟨s,x,h1,h2,h3⟩:=h
 have q:=r.slot i s h1
 rw[xW h2] at q
 obtain⟨u,q⟩:=q.owned h3
 exact⟨⟨u,q.1⟩,q.2⟩
theorem Rel.back(r:Rel K c F H σ ρ)(e:Same F F'){i:Nat}(h:Ń F' σ ρ i a):Ń F σ ρ i a:=by
 obtain⟨s,x,h1,h2,h3⟩:=h
 have q:=r.slot i s h1
 rw[xW h2] at q
 exact⟨s,x,h1,h2,q.back e h3⟩
theorem Rel.Iz(r:Rel K c F H σ ρ)(e:Same F F'):∀i j a,Ń F' σ ρ i a→Ń F' σ ρ j a→i=j:=fun i j a h1 h2=>r.sep i j a (r.back e h1) (r.back e h2)
theorem Rel.cN(r:Rel K c F H σ ρ)(e:Same F F')(h:cu F σ ρ a):cu F' σ ρ a:=fun i q=>h i (r.back e q)
theorem Rel.fresh(r:Rel K c F H σ ρ)(h:H a=none):cu F σ ρ a:=fun i q=>by
 obtain⟨⟨u,e⟩,_⟩:=r.owned q
 rw[h] at e;cases e
theorem Rel.alloc(r:Rel K c F H σ ρ)(h:H a=none):Rel K c (upd F a o) (upd H a o) σ ρ where
 sub:=fun b u e=>by
  by_cases hb:b=a
  ·subst hb;rw[ď] at e ⊢;exact e
  ·rw[č hb] at e ⊢;exact r.sub b u e
 base:=fun b u e=>by
  have hb:b≠a:=fun z=>by rw[z] at e;rw[r.base _ _ e] at h;cases h
  rw[č hb];exact r.base b u e
 f0:=fun b u e=>by
   have hb:b≠a:=fun z=>by rw[z] at e;rw[r.sub _ _ (r.f0 _ _ e)] at h;cases h
   rw[č hb];exact r.f0 b u e
 ao:=fun b h1 h2=>by
  have hb:b≠a:=fun z=>by
   subst z
   cases q:c.B b with
   |none=>exact h1 q
   |some u=>rw[r.base _ _ q] at h;cases h
  rw[č hb];exact r.ao b h1 h2
 lent:=fun b u e=>by
  obtain⟨h1,h2⟩:=r.lent b u e
  have hb:b≠a:=fun z=>by rw[z,h] at h1;cases h1
  rw[č hb,č hb];exact⟨h1,h2⟩
 lb:=r.lb
 len:=r.len
 slot:=fun i s e=>by
  have hF:F a=none:=r.sub.free h
  refine(r.slot i s e).grow (Same.upd hF) fun b u _ h1 h2 h3=>?_
  have hb:b≠a:=fun z=>by rw[z,h] at h1;cases h1
  rw[č hb,č hb];exact⟨h1,h2⟩
 sep:=r.Iz (Same.upd (r.sub.free h))
theorem Rel.made(r:Rel K c F H σ ρ)(h:H a=none):Rel K c F (upd H a o) σ ρ where
 sub:=r.sub.trans (Same.upd h)
 base:=r.base.trans (Same.upd h)
 f0:=r.f0
 ao:=r.ao
 lent:=fun b u e=>⟨Same.upd h b u (r.lent b u e).1,(r.lent b u e).2⟩
 lb:=r.lb
 len:=r.len
 slot:=fun i s e=>(r.slot i s e).grow (Same.refl F) fun b u _ h1 h2 h3=>⟨Same.upd h b u h1,h2⟩
 sep:=r.sep
theorem Rel.freeze(r:Rel K c F H σ ρ)(h:H a=some o)(hB:c.B a=none)(hF:F a=none)(hf:cu F σ ρ a):Rel K c (upd F a o) H σ ρ where
 sub:=fun b u e=>by
  by_cases hb:b=a
  ·subst hb;rw[ď] at e;rw[h];exact e
  ·rw[č hb] at e;exact r.sub b u e
 base:=r.base
 f0:=r.f0.trans (Same.upd hF)
 ao:=fun b h1 h2=>by
  have hb:b≠a:=fun z=>h1 (by rw[z];exact hB)
  rw[č hb];exact r.ao b h1 h2
 lent:=fun b u e=>by
  have hb:b≠a:=fun z=>by rw[z,r.lb a hB] at e;cases e
  rw[č hb];exact r.lent b u e
 lb:=r.lb
 len:=r.len
 slot:=fun i s e=>(r.slot i s e).grow (Same.upd hF) fun b' u' ⟨y,e1',ha⟩ h1 h2 h3=>by
  have hb:b'≠a:=fun z=>by
   subst z
   exact hf i ⟨s,y,e,nC e1',ha⟩
  rw[č hb];exact⟨h1,h2⟩
 sep:=r.Iz (Same.upd hF)
theorem Ž{α:Type}{l:List α}{i j:Nat}{x y:α}(h:(l.set i x)[j]?=some y):(j=i∧y=x∧i<l.length)∨(j≠i∧l[j]?=some y):=by
 by_cases hj:j=i
 ·subst hj
  have hl:j<l.length:=by
   have:=(List.getElem?_eq_some_iff.mp h).1
   simpa using this
  rw[List.getElem?_set_self hl] at h
  exact .inl ⟨rfl,(Option.some.inj h).symm,hl⟩
 ·rw[List.getElem?_set_ne (Ne.symm hj)] at h
  exact .inr ⟨hj,h⟩
theorem xX{l:L2.St}{i:Nat}{x:Option V}(h:i<l.length):((l.set i x)[i]?).getD none=x:=by rw[List.getElem?_set_self h];rfl
theorem tY{l:L2.St}{i j:Nat}{x:Option V}(h:j≠i):((l.set i x)[j]?).getD none=(l[j]?).getD none:=by rw[List.getElem?_set_ne (Ne.symm h)]
theorem Ń.off{i j:Nat}{x:Option V}{s:Slot}(h:Ń F (σ.set i x) (ρ.set i s) j a)(hj:j≠i):Ń F σ ρ j a:=by
 obtain⟨s',y,h1,h2,h3⟩:=h
 rw[List.getElem?_set_ne (Ne.symm hj)] at h1 h2
 exact⟨s',y,h1,h2,h3⟩
theorem Rel.put(r:Rel K c F H σ ρ){i:Nat}{x:Option V}{s:Slot}(hs:s.own=false)(h:Ő K c F H x s):Rel K c F H (σ.set i x) (ρ.set i s) where
 sub:=r.sub
 base:=r.base
 f0:=r.f0
 ao:=r.ao
 lent:=r.lent
 lb:=r.lb
 len:=by simpa using r.len
 slot:=fun j s' e=>by
  rcases Ž e with⟨rfl,rfl,hl⟩|⟨hj,e⟩
  ·rw[xX (by rw[r.len];exact hl)];exact h
  ·rw[tY hj];exact r.slot j s' e
 sep:=fun j k b h1 h2=>by
  have off:∀{j},Ń F (σ.set i x) (ρ.set i s) j b→j≠i:=fun{j} q z=>by
   subst z
   obtain⟨s',y,q1,_,q2⟩:=q
   rcases Ž q1 with⟨_,rfl,_⟩|⟨q,_⟩
   ·have:=jh q2;rw[hs] at this;cases this
   ·exact q rfl
  exact r.sep j k b (h1.off (off h1)) (h2.off (off h2))
theorem Rel.tZ(r:Rel K c F H σ ρ){i:Nat}{s:Slot}(hs:s.own=false)(h:Ő K c F H ((σ[i]?).getD none) s):Rel K c F H σ (ρ.set i s) where
 sub:=r.sub
 base:=r.base
 f0:=r.f0
 ao:=r.ao
 lent:=r.lent
 lb:=r.lb
 len:=by simpa using r.len
 slot:=fun j s' e=>by
  rcases Ž e with⟨rfl,rfl,hl⟩|⟨hj,e⟩
  ·exact h
  ·exact r.slot j s' e
 sep:=fun j k b h1 h2=>by
  have off:∀{j},Ń F σ (ρ.set i s) j b→Ń F σ ρ j b:=fun{j} ⟨s',y,q1,q3,q2⟩=>by
   rcases Ž q1 with⟨_,rfl,_⟩|⟨_,q⟩
   ·have:=jh q2;rw[hs] at this;cases this
   ·exact⟨s',y,q,q3,q2⟩
  exact r.sep j k b (off h1) (off h2)
theorem Rel.xY(r:Rel K c F H σ ρ){i:Nat}{x:V}{s:Slot}(h:Ő K c F H (some x) s)(hf:∀a,s.at_ F x a→cu F σ ρ a):Rel K c F H (σ.set i (some x)) (ρ.set i s) where
 sub:=r.sub
 base:=r.base
 f0:=r.f0
 ao:=r.ao
 lent:=r.lent
 lb:=r.lb
 len:=by simpa using r.len
 slot:=fun j s' e=>by
  rcases Ž e with⟨rfl,rfl,hl⟩|⟨hj,e⟩
  ·rw[xX (by rw[r.len];exact hl)];exact h
  ·rw[tY hj];exact r.slot j s' e
 sep:=fun j k b h1 h2=>by
  have IK:∀{j},Ń F (σ.set i (some x)) (ρ.set i s) j b→(j=i∧s.at_ F x b)∨(j≠i∧Ń F σ ρ j b):=fun{j} q=>by
   by_cases hj:j=i
   ·subst hj
    obtain⟨s',y,q1,q2,q3⟩:=q
    rcases Ž q2 with⟨_,e,_⟩|⟨z,_⟩
    ·cases e
     rcases Ž q1 with⟨_,e,_⟩|⟨z,_⟩
     ·cases e
      exact .inl ⟨rfl,q3⟩
     ·exact absurd rfl z
    ·exact absurd rfl z
   ·exact .inr ⟨hj,q.off hj⟩
  rcases IK h1 with⟨e1,z1⟩|⟨e1,o1⟩
  ·rcases IK h2 with⟨e2,z2⟩|⟨e2,o2⟩
   ·rw[e1,e2]
   ·exact absurd o2 (hf b z1 k)
  ·rcases IK h2 with⟨e2,z2⟩|⟨e2,o2⟩
   ·exact absurd o1 (hf b z2 j)
   ·exact r.sep j k b o1 o2
theorem Rel.xZ(r:Rel K c F H σ ρ){i:Nat}{s:Slot}(ho:Ń F σ ρ i a)(h:Ő K c F (upd H a o) ((σ[i]?).getD none) s)(hs:∀x b,σ[i]?=some (some x)→s.at_ F x b→Ń F σ ρ i b):Rel K c F (upd H a o) σ (ρ.set i s) where
 sub:=fun b u e=>by
  have hb:b≠a:=fun z=>by rw[z,(r.owned ho).2.1] at e;cases e
  rw[č hb];exact r.sub b u e
 base:=fun b u e=>by
  have hb:b≠a:=fun z=>by rw[z,(r.owned ho).2.2] at e;cases e
  rw[č hb];exact r.base b u e
 f0:=r.f0
 ao:=r.ao
 lent:=fun b u e=>by
  have hb:b≠a:=fun z=>by rw[z,r.lb a (r.owned ho).2.2] at e;cases e
  rw[č hb];exact r.lent b u e
 lb:=r.lb
 len:=by simpa using r.len
 slot:=fun j s' e=>by
  rcases Ž e with⟨rfl,rfl,hl⟩|⟨hj,e⟩
  ·exact h
  ·refine(r.slot j s' e).grow (Same.refl F) fun b u ⟨y,e1,e2⟩ h1 h2 h3=>?_
   have hb:b≠a:=fun z=>by
    subst z
    exact hj (r.sep j i b ⟨s',y,e,nC e1,e2⟩ ho)
   exact⟨by rw[č hb];exact h1,h2⟩
 sep:=fun j k b h1 h2=>by
  have off:∀{j},Ń F σ (ρ.set i s) j b→Ń F σ ρ j b:=fun{j} ⟨s',y,q1,q3,q2⟩=>by
   rcases Ž q1 with⟨e,rfl,_⟩|⟨_,q⟩
   ·subst e
    exact hs y b q3 q2
   ·exact⟨s',y,q,q3,q2⟩
  exact r.sep j k b (off h1) (off h2)
theorem Rel.write(r:Rel K c F H σ ρ){i:Nat}{s:Slot}(ho:Ń F σ ρ i a)(hx:σ[i]?=some (some (.ref a)))(h:Ő K c F (upd H a o) (some (.ref a)) s)(hs:∀b,s.at_ F (.ref a) b→b=a):Rel K c F (upd H a o) σ (ρ.set i s):=
 r.xZ ho (by rw[hx];exact h) fun x b e q=>by rw[hx] at e;cases e;rw[hs b q];exact ho
structure Gr(F H F' H':Hp):Prop where
 h:Same H H'
 f:Same F F'
 sub:Same F' H'
 out:∀a,H a≠none→F a=none→F' a=none
theorem Rel.call(r:Rel K c F H σ ρ)(g:Gr F H F' H'):Rel K c F' H' σ ρ where
 sub:=g.sub
 base:=r.base.trans g.h
 f0:=r.f0.trans g.f
 ao:=fun b h1 h2=>by
  refine g.out b (fun z=>h1 ?_) (r.ao b h1 h2)
  cases q:c.B b with
  |none=>rfl
  |some u=>rw[r.base _ _ q] at z;cases z
 lent:=fun b u e=>⟨g.h b u (r.lent b u e).1,g.out b (by rw[(r.lent b u e).1];intro z;cases z) (r.lent b u e).2⟩
 lb:=r.lb
 len:=r.len
 slot:=fun i s e=>(r.slot i s e).grow g.f fun b u _ h1 h2 h3=>⟨g.h b u h1,g.out b (by rw[h1];intro z;cases z) h2⟩
 sep:=r.Iz g.f
def ctx0(F H:Hp):Ctx:=⟨H,F,fun a=>match F a with
 |none=>H a
 |some _=>none,fun _ _ _=>True⟩
theorem bT{a:Addr}{u:HO}(h:(ctx0 F H).L a=some u):H a=some u∧F a=none:=by
 unfold ctx0 at h
 dsimp only at h
 cases q:F a with
 |none=>rw[q] at h;exact⟨h,rfl⟩
 |some o=>rw[q] at h;cases h
theorem Rel.gr(r:Rel K (ctx0 F H) F' H' σ ρ):Gr F H F' H':=⟨r.base,r.f0,r.sub,r.ao⟩
def au(K:KK)(F H:Hp):Slot→V→Prop
 | .sh p,v=>Rep K F p v
 | .bw ps,v=>∃a vs,v=.ref a∧H a=some (.lst vs)∧F a=none∧Đ K F ps vs
 |_,_=>False
theorem au.slot{s:Slot}{v:V}(h:au K F H s v):Ő K (ctx0 F H) F H (some v) s∧s.own=false:=by
 cases s with
 |sh p=>exact⟨⟨v,rfl,h⟩,rfl⟩
 |bw ps=>
  obtain⟨a,vs,rfl,h1,h2,h3⟩:=h
  refine⟨⟨a,vs,rfl,?_,h3⟩,rfl⟩
  show(match F a with|none=>H a|some _=>none)=_
  rw[h2]
  exact h1
 |no=>exact h.elim
 |ow ps=>exact h.elim
 |rc C ns ps=>exact h.elim
 |ot ps qs=>exact h.elim
 |ol Ů=>exact h.elim
def startP(n:Nat)(as:List Slot):Ŋ:=as++List.replicate (n-as.length) .no
theorem Rel.start{N:List Str}{as:List Slot}{vs:List V}(s:Same F H)(h:Paired (au K F H) as vs):Rel K (ctx0 F H) F H (L2.start N vs) (startP N.length as) where
 sub:=s
 base:=Same.refl H
 f0:=Same.refl F
 ao:=fun _ _ h=>h
 lent:=fun _ _ e=>bT e
 lb:=fun a e=>by
   cases q:(ctx0 F H).L a with
   |none=>rfl
   |some u=>
    have e':H a=none:=e
    rw[(bT q).1] at e'
    cases e'
 len:=by unfold L2.start startP;simp[Paired.length h]
 slot:=fun i s' e=>by
  unfold startP at e
  by_cases hi:i<as.length
  ·rw[List.getElem?_append_left hi] at e
   obtain⟨v,h1,h2⟩:=bR h e
   have hv:((L2.start N vs)[i]?).getD none=some v:=by
    unfold L2.start
    rw[List.getElem?_append_left (by simpa[←Paired.length h] using hi),List.getElem?_map,h1];rfl
   rw[hv]
   exact(au.slot h2).1
  ·rw[List.getElem?_append_right (by omega),List.getElem?_replicate] at e
   split at e
   ·cases e;trivial
   ·cases e
 sep:=fun i j a h1 _=>by
  obtain⟨s',y,h1,_,h2⟩:=h1
  have h2:=jh h2
  exfalso
  unfold startP at h1
  by_cases hi:i<as.length
  ·rw[List.getElem?_append_left hi] at h1
   obtain⟨v,_,h3⟩:=bR h h1
   rw[(au.slot h3).2] at h2
   cases h2
  ·rw[List.getElem?_append_right (by omega),List.getElem?_replicate] at h1
   split at h1
   ·cases h1;cases h2
   ·cases h1
end
structure PX where
 C:String
 ns:List Str
 ps:List PV
def Dk(K:KK)(F:Hp)(x:PX)(C:Value)(d:Option Addr):Prop:=C=.ref (K.cm x.C)∧∃fs,jg F d fs∧fs.map (·.1)=x.ns∧Đ K F x.ps (fs.map (·.2))
inductive Res(α:Type) where
 |ok (a:α) (ρ:Ŋ)|exc (x:PX) (ρ:Ŋ)|bad
def Res.bind{α β:Type}(r:Res α)(f:α→Ŋ→Res β):Res β:= match r with
 | .ok a ρ=>f a ρ
 | .exc x ρ=>.exc x ρ
 | .bad=>.bad
@[simp] theorem Res.iU{α β:Type}{a:α}{ρ:Ŋ}{f:α→Ŋ→Res β}:(Res.ok a ρ).bind f=f a ρ:= rfl
@[simp] theorem Res.Np{α β:Type}{x:PX}{ρ:Ŋ}{f:α→Ŋ→Res β}:(Res.exc x ρ:Res α).bind f=.exc x ρ:= rfl
@[simp] theorem Res.Nq{α β:Type}{f:α→Ŋ→Res β}:(Res.bad:Res α).bind f=.bad:=rfl
def Res.iV{α:Type}(o:Option α)(ρ:Ŋ):Res α:= match o with
 |some a=>.ok a ρ
 |none=>.bad
@[simp] theorem Res.Nr{α:Type}{a:α}{ρ:Ŋ}:Res.iV (some a) ρ=.ok a ρ:= rfl
@[simp] theorem Res.Nt{α:Type}{ρ:Ŋ}:Res.iV (none:Option α) ρ=.bad:=rfl
abbrev M(α:Type):=Ŋ→Res α
inductive RV where
 |sh (p:PV)|ow (ps:List PV)|ot (ps qs:List PV)
def RV.val:RV→PV
 | .sh p=>p
 | .ow ps=>.lst ps
 | .ot ps qs=>.tup (ps ++ [.lst qs])
def RV.slot:RV→Slot
 | .sh p=>.sh p
 | .ow ps=>.ow ps
 | .ot ps qs=>.ot ps qs
abbrev RR(α β:Type):=Ctx→L2.St→Ŋ→Hp→Hp→α→β→Prop
def rV(K:KK):RR PV V:=fun _ _ _ F _ p v=>Rep K F p v
def t_(K:KK)(F H:Hp)(p:PV)(v:V):Prop:=match p with
 | .lst ps=>∃a vs,v=.ref a∧H a=some (.lst vs)∧Đ K F ps vs
 | .ins C ns ps=>∃a dx fs,v=.ref a∧H a=some (.ins (K.cm C) dx fs)∧fs.map (·.1)=ns∧Đ K F ps (fs.map (·.2))
 |_=>False
def rR(K:KK):RR PV V:=fun _ _ _ F H p v=>Rep K F p v∨t_ K F H p v
def rA(K:KK):RR (List Slot) (List V):=fun _ _ _ F H as vs=>Paired (au K F H) as vs
def Held(K:KK)(c:Ctx)(σ:L2.St)(ρ:Ŋ)(F H:Hp)(ps:List PV)(v:V):Prop:=∃a vs,v=.ref a∧H a=some (.lst vs)∧F a=none∧c.B a=none∧cu F σ ρ a∧Đ K F ps vs
def uc(K:KK)(c:Ctx)(σ:L2.St)(ρ:Ŋ)(F H:Hp)(ps qs:List PV)(v:V):Prop:=∃p a xs vs,v=.ref p∧F p=some (.tup (xs ++ [.ref a]))∧Đ K F ps xs∧H a=some (.lst vs)∧F a=none∧c.B a=none∧cu F σ ρ a∧Đ K F qs vs
def rO(K:KK):RR RV V:=fun c σ ρ F H r v=>match r with
 | .sh p=>Rep K F p v
 | .ow ps=>Held K c σ ρ F H ps v
 | .ot ps qs=>uc K c σ ρ F H ps qs v
def rL(K:KK):RR (List PV) (List V):=fun _ _ _ F _ p v=>Đ K F p v
def Ly(K:KK):RR (List PV) (List V):=fun c σ ρ F H p v=>Paired (rR K c σ ρ F H) p v
def rB:RR Bool Bool:=fun _ _ _ _ _ p v=>p=v
def rI:RR (Option Int) (Option Int):=fun _ _ _ _ _ p v=>p=v
def ŵ{α β:Type}(K:KK)(E:L2.St→XK)(R:RR α β)(c:Ctx)(F H:Hp)(σ:L2.St)(Q:β→Hp→Prop):Res α→Prop
 | .ok p ρ'=>∀v F' H',Rel K c F' H' σ ρ'→Same F F'→Same H H'→R c σ ρ' F' H' p v→Q v H'
 | .exc x ρ'=>∀C d F' H',Rel K c F' H' σ ρ'→Same F F'→Dk K F' x C d→E σ C d H'
 | .bad=>False
def tG{α β:Type}(K:KK)(E:L2.St→XK)(R:RR α β)(m:M α):L2.St→Hp→(β→Hp→Prop)→Prop:=fun σ H Q=>∃c F ρ,Rel K c F H σ ρ∧ŵ K E R c F H σ Q (m ρ)
section
variable{α β α' β':Type}{K:KK}{E:L2.St→XK}{R:RR α β}{R':RR α' β'}{c:Ctx}{F F1 H H1:Hp}{σ:L2.St}
theorem ŵ.mono{Q:β→Hp→Prop}{r:Res α}(h:ŵ K E R c F H σ Q r)(sF:Same F F1)(sH:Same H H1):ŵ K E R c F1 H1 σ Q r:=by
 cases r with
 |ok p ρ'=>exact fun v F' H' rel s1 s2 q=>h v F' H' rel (sF.trans s1) (sH.trans s2) q
 |exc x ρ'=>exact fun C d F' H' rel s1 q=>h C d F' H' rel (sF.trans s1) q
 |bad=>exact h
theorem ŵ.bind{Q:β→Hp→Prop}{Q':β'→Hp→Prop}{r:Res α}{f:α→Ŋ→Res α'}(h:ŵ K E R' c F H σ Q' (r.bind f))
 (k:∀p ρ1 v F1 H1,Rel K c F1 H1 σ ρ1→Same F F1→Same H H1→R c σ ρ1 F1 H1 p v→ŵ K E R' c F1 H1 σ Q' (f p ρ1)→Q v H1):ŵ K E R c F H σ Q r:=by
 cases r with
 |ok p ρ'=>exact fun v F' H' rel s1 s2 q=>k p ρ' v F' H' rel s1 s2 q (ŵ.mono (show ŵ K E R' c F H σ Q' (f p ρ') from h) s1 s2)
 |exc x ρ'=>exact h
 |bad=>exact h
theorem ŵ.rel{R2:RR α β}{Q:β→Hp→Prop}{r:Res α}(h:ŵ K E R c F H σ Q r)(k:∀p ρ' v F' H',Rel K c F' H' σ ρ'→R2 c σ ρ' F' H' p v→R c σ ρ' F' H' p v):ŵ K E R2 c F H σ Q r:=by
 cases r with
 |ok p ρ'=>exact fun v F' H' rel s1 s2 q=>h v F' H' rel s1 s2 (k p ρ' v F' H' rel q)
 |exc x ρ'=>exact h
 |bad=>exact h
end
abbrev tV(K:KK)(E:L2.St→XK)(m:M PV):TE:=tG K E (rV K) m
abbrev tR(K:KK)(E:L2.St→XK)(m:M PV):TE:=tG K E (rR K) m
abbrev tO(K:KK)(E:L2.St→XK)(m:M RV):TE:=tG K E (rO K) m
abbrev tL(K:KK)(E:L2.St→XK)(m:M (List PV)):TA:=tG K E (rL K) m
abbrev tA(K:KK)(E:L2.St→XK)(m:M (List Slot)):TA:=tG K E (rA K) m
abbrev Lz(K:KK)(E:L2.St→XK)(m:M (List PV)):TA:=tG K E (Ly K) m
abbrev tB(K:KK)(E:L2.St→XK)(m:M Bool):TT:=tG K E rB m
inductive Fl where
 |nx|bk|ct|rt (r:RV)
def Ÿ(K:KK)(E:L2.St→XK)(c:Ctx)(F:Hp)(D:Ends):Res Fl→Prop
 | .ok .nx ρ'=>∀σ' F' H',Rel K c F' H' σ' ρ'→Same F F'→D.nx σ' H'
 | .ok .bk ρ'=>∀σ' F' H',Rel K c F' H' σ' ρ'→Same F F'→D.bk σ' H'
 | .ok .ct ρ'=>∀σ' F' H',Rel K c F' H' σ' ρ'→Same F F'→D.ct σ' H'
 | .ok (.rt r) ρ'=>∀v σ' F' H',Rel K c F' H' σ' ρ'→Same F F'→rO K c σ' ρ' F' H' r v→D.rt v H'
 | .exc x ρ'=>∀σ' C d F' H',Rel K c F' H' σ' ρ'→Same F F'→Dk K F' x C d→E σ' C d H'
 | .bad=>False
def tS(K:KK)(E:L2.St→XK)(m:M Fl):TS:=fun D σ H=>∃c F ρ,Rel K c F H σ ρ∧Ÿ K E c F D (m ρ)
section
variable{K:KK}{E:L2.St→XK}{c:Ctx}{F F1:Hp}{D:Ends}
theorem Ÿ.mono{r:Res Fl}(h:Ÿ K E c F D r)(sF:Same F F1):Ÿ K E c F1 D r:=by
 cases r with
 |ok f ρ'=>
  cases f with
  |rt v=>exact fun v σ' F' H' rel s1 q=>h v σ' F' H' rel (sF.trans s1) q
  |nx=>exact fun σ' F' H' rel s1=>h σ' F' H' rel (sF.trans s1)
  |bk=>exact fun σ' F' H' rel s1=>h σ' F' H' rel (sF.trans s1)
  |ct=>exact fun σ' F' H' rel s1=>h σ' F' H' rel (sF.trans s1)
 |exc x ρ'=>exact fun σ' C d F' H' rel s1 q=>h σ' C d F' H' rel (sF.trans s1) q
 |bad=>exact h
theorem Ÿ.bind{α β:Type}{R:RR α β}{σ:L2.St}{H:Hp}{Q:β→Hp→Prop}{r:Res α}{f:α→Ŋ→Res Fl}(h:Ÿ K E c F D (r.bind f))
 (k:∀p ρ1 v F1 H1,Rel K c F1 H1 σ ρ1→Same F F1→R c σ ρ1 F1 H1 p v→Ÿ K E c F1 D (f p ρ1)→Q v H1):ŵ K E R c F H σ Q r:=by
 cases r with
 |ok p ρ'=>exact fun v F' H' rel s1 s2 q=>k p ρ' v F' H' rel s1 q (Ÿ.mono (show Ÿ K E c F D (f p ρ') from h) s1)
 |exc x ρ'=>exact fun C d F' H' rel s1 q=>h σ C d F' H' rel s1 q
 |bad=>exact h
end
end P
namespace P
open PySem PySem.Spec PyProof.Rows L2 M2
def Ĕ(i:Nat):M PV:=fun ρ=>match ρ[i]? with
 |some (.sh p)=>.ok p ρ
 |some (.ow ps)=>.ok (.lst ps) (ρ.set i (.sh (.lst ps)))
 |_=>.bad
def ă(i:Nat):M PV:=fun ρ=>match ρ[i]? with
 |some (.sh p)=>.ok p ρ
 |some (.ow ps)=>.ok (.lst ps) ρ
 |some (.bw ps)=>.ok (.lst ps) ρ
 |some (.rc C ns ps)=>.ok (.ins C ns ps) ρ
 |_=>.bad
def Nu(i:Nat):M RV:=fun ρ=>match ρ[i]? with
 |some (.sh p)=>.ok (.sh p) ρ
 |some (.ow ps)=>.ok (.ow ps) (ρ.set i .no)
 |_=>.bad
def mC(p:PV):M PV:=fun ρ=>.ok p ρ
def aK(m:M PV):M RV:=fun ρ=>(m ρ).bind fun p ρ1=>.ok (.sh p) ρ1
def Ė(m:M RV):M PV:=fun ρ=>(m ρ).bind fun r ρ1=>.ok r.val ρ1
section
variable{K:KK}{c:Ctx}{F H:Hp}{σ:L2.St}{ρ:Ŋ}
theorem at_of{i:Nat}{x:V}(h:(σ[i]?).getD none=some x):σ[i]?=some (some x):=by
 cases q:σ[i]? with
 |none=>rw[q] at h;cases h
 |some y=>rw[q] at h;exact congrArg some h
theorem Rel.ow(r:Rel K c F H σ ρ){i:Nat}{ps:List PV}(e:ρ[i]?=some (.ow ps)):∃a vs,σ[i]?=some (some (.ref a))∧H a=some (.lst vs)∧F a=none∧c.B a=none∧Đ K F ps vs∧Ń F σ ρ i a:=by
 obtain⟨a,vs,h1,h2,h3,h4,h5⟩:=r.slot i _ e
 exact⟨a,vs,at_of h1,h2,h3,h4,h5,⟨_,_,e,at_of h1,rfl⟩⟩
theorem Rel.move(r:Rel K c F H σ ρ){i:Nat}{a:Addr}(h:Ń F σ ρ i a):Rel K c F H σ (ρ.set i .no)∧cu F σ (ρ.set i .no) a:=by
 refine⟨r.tZ rfl trivial,fun j ⟨s,y,q1,q3,q2⟩=>?_⟩
 rcases Ž q1 with⟨_,rfl,_⟩|⟨hj,q⟩
 ·exact q2.elim
 ·exact hj (r.sep j i a ⟨s,y,q,q3,q2⟩ h)
theorem Rel.share(r:Rel K c F H σ ρ){i:Nat}{ps:List PV}(e:ρ[i]?=some (.ow ps)):∃a vs,σ[i]?=some (some (.ref a))∧F a=none∧Rep K (upd F a (.lst vs)) (.lst ps) (.ref a)∧Rel K c (upd F a (.lst vs)) H σ (ρ.set i (.sh (.lst ps))):=by
 obtain⟨a,vs,h1,h2,h3,h4,h5,ho⟩:=r.ow e
 obtain⟨m1,m2⟩:=r.move ho
 have rp:Rep K (upd F a (.lst vs)) (.lst ps) (.ref a):=by
  unfold Rep
  exact⟨a,vs,rfl,Ż.of ď,h5.same (Same.upd h3) ps vs⟩
 have q:=(m1.freeze h2 h4 h3 m2).tZ (i:=i) (s:=.sh (.lst ps)) rfl (show Ő K c _ H _ (.sh (.lst ps)) from⟨.ref a,by rw[h1];rfl,rp⟩)
 rw[List.set_set] at q
 exact⟨a,vs,h1,h3,rp,q⟩
theorem t_.mono{F1 H1:Hp}{p:PV}{v:V}(h:t_ K F H p v)(sF:Same F F1)(sH:Same H H1):t_ K F1 H1 p v:=by
 cases p with
 |lst ps=>
  obtain⟨a,vs,h2,h3,h4⟩:=h
  exact⟨a,vs,h2,sH _ _ h3,h4.same sF ps vs⟩
 |ins C ns ps=>
  obtain⟨a,dx,fs,h2,h3,h4,h5⟩:=h
  exact⟨a,dx,fs,h2,sH _ _ h3,h4,h5.same sF ps _⟩
 |_=>exact h.elim
theorem rR.mono{c:Ctx}{σ:L2.St}{ρ ρ':Ŋ}{F1 H1:Hp}{p:PV}{v:V}(h:rR K c σ ρ F H p v)(sF:Same F F1)(sH:Same H H1):rR K c σ ρ' F1 H1 p v:=by
 rcases h with h|h
 ·exact .inl (h.same sF p v)
 ·exact .inr (h.mono sF sH)
theorem rR.lst{c:Ctx}{σ:L2.St}{ρ:Ŋ}{ps:List PV}{v:V}(s:Same F H)(h:rR K c σ ρ F H (.lst ps) v):∃a vs,v=.ref a∧Ż K.K H a vs∧Đ K F ps vs:=by
 rcases h with h|⟨a,vs,h2,h3,h4⟩
 ·unfold Rep at h
  obtain⟨a,xs,h1,h2,h3⟩:=h
  exact⟨a,xs,h1,s.seq h2,h3⟩
 ·exact⟨a,vs,h2,Ż.of h3,h4⟩
theorem rR.tup{c:Ctx}{σ:L2.St}{ρ:Ŋ}{ps:List PV}{v:V}(s:Same F H)(h:rR K c σ ρ F H (.tup ps) v):∃a vs,v=.ref a∧cJ K.K H a vs∧Đ K F ps vs:=by
 rcases h with h|h
 ·unfold Rep at h
  obtain⟨a,xs,h1,h2,h3⟩:=h
  exact⟨a,xs,h1,Same.tup s h2,h3⟩
 ·exact h.elim
theorem rR.int{c:Ctx}{σ:L2.St}{ρ:Ŋ}{i:Int}{v:V}(h:rR K c σ ρ F H (.int i) v):v=.int i:=by
 rcases h with h|h
 ·unfold Rep at h;exact h
 ·exact h.elim
theorem rR.str{c:Ctx}{σ:L2.St}{ρ:Ŋ}{i:Str}{v:V}(h:rR K c σ ρ F H (.str i) v):v=.str i:=by
 rcases h with h|h
 ·unfold Rep at h;exact h
 ·exact h.elim
theorem rR.bl{c:Ctx}{σ:L2.St}{ρ:Ŋ}{i:Bool}{v:V}(h:rR K c σ ρ F H (.bl i) v):v=.bl i:=by
 rcases h with h|h
 ·unfold Rep at h;exact h
 ·exact h.elim
theorem rR.non{c:Ctx}{σ:L2.St}{ρ:Ŋ}{v:V}(h:rR K c σ ρ F H .non v):v=.non:=by
 rcases h with h|h
 ·unfold Rep at h;exact h
 ·exact h.elim
theorem rR.ty{c:Ctx}{σ:L2.St}{ρ:Ŋ}{n:String}{v:V}(h:rR K c σ ρ F H (.ty n) v):v=.ty n:=by
 rcases h with h|h
 ·unfold Rep at h;exact h
 ·exact h.elim
theorem Rep.int{i:Int}:Rep K F (.int i) (.int i):=by unfold Rep;rfl
theorem Rep.str{i:Str}:Rep K F (.str i) (.str i):=by unfold Rep;rfl
theorem Rep.bl{i:Bool}:Rep K F (.bl i) (.bl i):=by unfold Rep;rfl
theorem Rep.non:Rep K F .non .non:=by unfold Rep;rfl
end
section
variable{X:Cx}{cm:String→Addr}{E:L2.St→XK}{a b e:Expr}{es:List Expr}{pos:Pos}{m ma mb mc:M PV}{mo:M RV}
theorem PT.wk{t t':TT}(h:PT X e t)(i:∀σ H Q,t' σ H Q→t σ H Q):PT X e t':=fun pins s σ H Q I q=>h pins s σ H Q I (i σ H Q q)
theorem PA.wk{t t':TA}(h:PA X es t)(i:∀σ H Q,t' σ H Q→t σ H Q):PA X es t':=fun pos pins s σ H Q I q=>h pos pins s σ H Q I (i σ H Q q)
theorem PW.wk{t t':TT}(h:PW X e t)(i:∀σ H Q,t' σ H Q→t σ H Q):PW X e t':=fun wh pins s σ H Q I q=>h wh pins s σ H Q I (i σ H Q q)
theorem jd.wk{st:List Stmt}{t t':TS}(h:jd X st t)(i:∀D σ H,t' D σ H→t D σ H):jd X st t':=fun pins s σ H D I q=>h pins s σ H D I (i D σ H q)
theorem v_var(i:Nat){x:Str}{pos:Pos}(hN:X.N[i]?=some x:=by rfl)(hv:BW X.env.scope x:=by first|exact Or.inl rfl|exact Or.inr (Or.inl rfl)|exact Or.inr (Or.inr rfl))(hd:(x== ("__debug__" :Str))=false:=by decide)
 (hcd:(x== ("__classdict__" :Str))=false:=by decide):PE X (.Name x pos) (tV (kk X cm) E (Ĕ i)):=PE.wk (eN hN hv hd hcd) fun σ H Q ⟨c,F,ρ,rel,h⟩=>by
 unfold Ĕ at h
 split at h
 ·rename_i p e
  obtain⟨v,h1,h2⟩:=rel.slot i _ e
  exact⟨v,at_of h1,h v F H rel (Same.refl F) (Same.refl H) h2⟩
 ·rename_i ps e
  obtain⟨a,vs,h1,h2,h3,h4⟩:=rel.share e
  exact⟨.ref a,h1,h _ _ H h4 (Same.upd h2) (Same.refl H) h3⟩
 ·exact h.elim
theorem ą(i:Nat){x:Str}{pos:Pos}(hN:X.N[i]?=some x:=by rfl)(hv:BW X.env.scope x:=by first|exact Or.inl rfl|exact Or.inr (Or.inl rfl)|exact Or.inr (Or.inr rfl))(hd:(x== ("__debug__" :Str))=false:=by decide)
 (hcd:(x== ("__classdict__" :Str))=false:=by decide):PE X (.Name x pos) (tR (kk X cm) E (ă i)):=PE.wk (eN hN hv hd hcd) fun σ H Q ⟨c,F,ρ,rel,h⟩=>by
 unfold ă at h
 split at h
 ·rename_i p e
  obtain⟨v,h1,h2⟩:=rel.slot i _ e
  exact⟨v,at_of h1,h v F H rel (Same.refl F) (Same.refl H) (.inl h2)⟩
 ·rename_i ps e
  obtain⟨a,vs,h1,h2,h3,h4,h5,_⟩:=rel.ow e
  exact⟨.ref a,h1,h _ F H rel (Same.refl F) (Same.refl H) (.inr ⟨a,vs,rfl,h2,h5⟩)⟩
 ·rename_i ps e
  obtain⟨a,vs,h1,h2,h3⟩:=rel.slot i _ e
  exact⟨.ref a,at_of h1,h _ F H rel (Same.refl F) (Same.refl H) (.inr ⟨a,vs,rfl,(rel.lent a _ h2).1,h3⟩)⟩
 ·rename_i C ns ps e
  obtain⟨a,dx,fs,h1,h2,h3,h4,h5,h6⟩:=rel.slot i _ e
  exact⟨.ref a,at_of h1,h _ F H rel (Same.refl F) (Same.refl H) (.inr ⟨a,dx,fs,rfl,h2,h5,h6.1⟩)⟩
 ·exact h.elim
theorem pC{v:V}(p:PV)(h:PE X e (tC v))(hr:∀F,Rep (kk X cm) F p v:=by intro _;unfold Rep;rfl):PE X e (tV (kk X cm) E (mC p)):=PE.wk h fun σ H Q ⟨c,F,ρ,rel,h⟩=>h v F H rel (Same.refl F) (Same.refl H) (hr F)
theorem Ć{i j pos}:PE X (.Constant (.int i) j pos) (tV (kk X cm) E (mC (.int i))):=pC _ wG
theorem vM{i j pos}:PE X (.Constant (.bool i) j pos) (tV (kk X cm) E (mC (.bl i))):=pC _ Mj
theorem ŏ{x j pos}:PE X (.Constant (.str x) j pos) (tV (kk X cm) E (mC (.str x))):=pC _ GQ
theorem Ą(h:PE X e (tV (kk X cm) E m)):PE X e (tR (kk X cm) E m):=PE.wk h fun σ H Q ⟨c,F,ρ,rel,h⟩=>⟨c,F,ρ,rel,h.rel fun _ _ _ _ _ _ q=>.inl q⟩
theorem ō(h:PE X e (tV (kk X cm) E m)):PE X e (tO (kk X cm) E (aK m)):=PE.wk h fun σ H Q ⟨c,F,ρ,rel,h⟩=>⟨c,F,ρ,rel,h.bind fun p ρ1 v F1 H1 Ď s1 s2 q h1=>h1 v F1 H1 Ď (Same.refl _) (Same.refl _) q⟩
theorem Held.share{K:KK}{c:Ctx}{F H:Hp}{σ:L2.St}{ρ:Ŋ}{ps:List PV}{v:V}(rel:Rel K c F H σ ρ)(h:Held K c σ ρ F H ps v):∃F1,Same F F1∧Rel K c F1 H σ ρ∧Rep K F1 (.lst ps) v:=by
 obtain⟨a,vs,rfl,h1,h2,h3,h4,h5⟩:=h
 refine⟨_,Same.upd h2,rel.freeze h1 h3 h2 h4,?_⟩
 unfold Rep
 exact⟨a,vs,rfl,Ż.of ď,h5.same (Same.upd h2) ps vs⟩
theorem uc.share{K:KK}{c:Ctx}{F H:Hp}{σ:L2.St}{ρ:Ŋ}{ps qs:List PV}{v:V}(rel:Rel K c F H σ ρ)(h:uc K c σ ρ F H ps qs v):∃F1,Same F F1∧Rel K c F1 H σ ρ∧Rep K F1 (.tup (ps ++ [.lst qs])) v:=by
 obtain⟨p,a,xs,vs,rfl,h0,hx,h1,h2,h3,h4,h5⟩:=h
 refine⟨_,Same.upd h2,rel.freeze h1 h3 h2 h4,?_⟩
 have ra:Rep K (upd F a (.lst vs)) (.lst qs) (.ref a):=by
  unfold Rep
  exact⟨a,vs,rfl,Ż.of ď,h5.same (Same.upd h2) qs vs⟩
 unfold Rep
 exact⟨p,_,rfl,cJ.of (Same.upd h2 _ _ h0),Đ.append (hx.same (Same.upd h2) ps xs) (Đ.cons ra Đ.nil)⟩
theorem Ě(h:PE X e (tO (kk X cm) E mo)):PE X e (tV (kk X cm) E (Ė mo)):=PE.wk h fun σ H Q ⟨c,F,ρ,rel,h⟩=>⟨c,F,ρ,rel,h.bind fun r ρ1 v F1 H1 Ď s1 s2 q h1=>by
 cases r with
 |sh p=>exact h1 v F1 H1 Ď (Same.refl _) (Same.refl _) q
 |ow ps=>
  obtain⟨F2,s3,ı,rp⟩:=Held.share Ď q
  exact h1 v F2 H1 ı s3 (Same.refl _) rp
 |ot ps qs=>
  obtain⟨F2,s3,ı,rp⟩:=uc.share Ď q
  exact h1 v F2 H1 ı s3 (Same.refl _) rp⟩
def Č(f:PV→PV→Option PV)(ma mb:M PV):M PV:=fun ρ=>(ma ρ).bind fun p ρ1=>(mb ρ1).bind fun q ρ2=>Res.iV (f p q) ρ2
def Ņ(f:PV→PV→Option RV)(ma mb:M PV):M RV:=fun ρ=>(ma ρ).bind fun p ρ1=>(mb ρ1).bind fun q ρ2=>Res.iV (f p q) ρ2
def kj(K:KK)(r:R2)(f:PV→PV→Option PV):Prop:=∀{c:Ctx} {F H:Hp} {σ:L2.St} {ρ:Ŋ} {p q pv:PV} {v u:V} {Q:VK},Rel K c F H σ ρ→rR K c σ ρ F H p v→rR K c σ ρ F H q u→f p q=some pv→
 (∀z F' H',Rel K c F' H' σ ρ→Same F F'→Same H H'→Rep K F' pv z→Q z H')→r v u H Q
def Yu(K:KK)(r:R2)(f:PV→PV→Option RV):Prop:=∀{c:Ctx} {F H:Hp} {σ:L2.St} {ρ:Ŋ} {p q:PV} {pv:RV} {v u:V} {Q:VK},Rel K c F H σ ρ→rR K c σ ρ F H p v→rR K c σ ρ F H q u→f p q=some pv→
 (∀z F' H',Rel K c F' H' σ ρ→Same F F'→Same H H'→rO K c σ ρ F' H' pv z→Q z H')→r v u H Q
theorem ud{r:R2}{f:PV→PV→Option PV}(hf:kj (kk X cm) r f){σ:L2.St}{H:Hp}{Q:VK}(h:tV (kk X cm) E (Č f ma mb) σ H Q):Hq r (tR (kk X cm) E ma) (tR (kk X cm) E mb) σ H Q:=by
 obtain⟨c,F,ρ,rel,h⟩:=h
 refine⟨c,F,ρ,rel,h.bind fun p ρ1 v F1 H1 Ď _ _ r1 h1=>⟨c,F1,ρ1,Ď,h1.bind fun q ρ2 u F2 H2 ı sF sH r2 h2=>?_⟩⟩
 cases e:f p q with
 |none=>rw[e] at h2;exact h2.elim
 |some pv=>rw[e] at h2;exact hf ı (r1.mono sF sH) r2 e fun z F' H' Ŧ s1 s2 q'=>h2 z F' H' Ŧ s1 s2 q'
theorem Nv{r:R2}{f:PV→PV→Option RV}(hf:Yu (kk X cm) r f){σ:L2.St}{H:Hp}{Q:VK}(h:tO (kk X cm) E (Ņ f ma mb) σ H Q):Hq r (tR (kk X cm) E ma) (tR (kk X cm) E mb) σ H Q:=by
 obtain⟨c,F,ρ,rel,h⟩:=h
 refine⟨c,F,ρ,rel,h.bind fun p ρ1 v F1 H1 Ď _ _ r1 h1=>⟨c,F1,ρ1,Ď,h1.bind fun q ρ2 u F2 H2 ı sF sH r2 h2=>?_⟩⟩
 cases e:f p q with
 |none=>rw[e] at h2;exact h2.elim
 |some pv=>rw[e] at h2;exact hf ı (r1.mono sF sH) r2 e fun z F' H' Ŧ s1 s2 q'=>h2 z F' H' Ŧ s1 s2 q'
theorem Ħ{op:Operator}{r:R2}{f:PV→PV→Option PV}(hf:kj (kk X cm) r f)(ho:aq X (binaryOp op) r)(ha:PE X a (tR (kk X cm) E ma))(hb:PE X b (tR (kk X cm) E mb)):PE X (.BinOp a op b pos) (tV (kk X cm) E (Č f ma mb)):=PE.wk (Fo ho ha hb) fun _ _ _ h=>ud hf h
theorem œ{op:Operator}{r:R2}{f:PV→PV→Option RV}(hf:Yu (kk X cm) r f)(ho:aq X (binaryOp op) r)(ha:PE X a (tR (kk X cm) E ma))(hb:PE X b (tR (kk X cm) E mb)):PE X (.BinOp a op b pos) (tO (kk X cm) E (Ņ f ma mb)):=PE.wk (Fo ho ha hb) fun _ _ _ h=>Nv hf h
theorem fM{op:CmpOp}{r:R2}{f:PV→PV→Option PV}(hf:kj (kk X cm) r f)(ho:aq X (compareOp op) r)(ha:PE X a (tR (kk X cm) E ma))(hb:PE X b (tR (kk X cm) E mb))(hm:behindInMarks op b=false):PE X (.Compare a [op] [b] pos) (tV (kk X cm) E (Č f ma mb)):=
 PE.wk (Cv ho ha hb hm) fun _ _ _ h=>ud hf h
theorem ń{r:R2}{f:PV→PV→Option PV}(hf:kj (kk X cm) r f)(hr:qR X r)(ha:PE X a (tR (kk X cm) E ma))(hb:PE X b (tR (kk X cm) E mb))(hs:tE b):PE X (.Subscript a b pos) (tV (kk X cm) E (Č f ma mb)):=
 PE.wk (wZ hr ha hb hs) fun _ _ _ h=>ud hf h
def vN(f:PV→Option PV)(ma:M PV):M PV:=fun ρ=>(ma ρ).bind fun p ρ1=>Res.iV (f p) ρ1
def UnV(K:KK)(r:V→Hp→VK→Prop)(f:PV→Option PV):Prop:=∀{c:Ctx} {F H:Hp} {σ:L2.St} {ρ:Ŋ} {p pv:PV} {v:V} {Q:VK},Rel K c F H σ ρ→rR K c σ ρ F H p v→f p=some pv→
 (∀z F' H',Rel K c F' H' σ ρ→Same F F'→Same H H'→Rep K F' pv z→Q z H')→r v H Q
theorem Yv{op:UnaryOp}{r:V→Hp→VK→Prop}{f:PV→Option PV}(hf:UnV (kk X cm) r f)(ho:Cr X (unaryOp op) r)(ha:PE X a (tR (kk X cm) E ma)):PE X (.UnaryOp op a pos) (tV (kk X cm) E (vN f ma)):=PE.wk (Mv ho ha) fun σ H Q ⟨c,F,ρ,rel,h⟩=>
 ⟨c,F,ρ,rel,h.bind fun p ρ1 v F1 H1 Ď _ _ r1 h1=>by
   cases e:f p with
   |none=>rw[e] at h1;exact h1.elim
   |some pv=>rw[e] at h1;exact hf Ď r1 e fun z F' H' Ŧ s1 s2 q'=>h1 z F' H' Ŧ s1 s2 q'⟩
def IV:PV→Option Bool
 | .bl b=>some b
 | .int i=>some (i != 0)
 | .non=>some false
 | .str y=>if y.length≤sizeLine then some ((y.length:Int) != 0) else none
 | .lst ps=>some (!ps.isEmpty)
 | .tup ps=>some (!ps.isEmpty)
 |_=>none
def iz(m:M PV):M Bool:=fun ρ=>(m ρ).bind fun p ρ1=>Res.iV (IV p) ρ1
theorem Nx{K:KK}{c:Ctx}{F H:Hp}{σ:L2.St}{ρ:Ŋ}{p:PV}{v:V}{k:Bool}(s:Same F H)(r:rR K c σ ρ F H p v)(h:IV p=some k):Hz K.K v H k:=by
 cases p with
 |bl b=>cases r.bl;cases h;rfl
 |int i=>cases r.int;cases h;rfl
 |non=>cases r.non;cases h;rfl
 |str y=>
  cases r.str
  have h':(if y.length≤sizeLine then some ((y.length:Int) != 0) else none)=some k:=h
  split at h'
  ·rename_i hy;cases h';exact⟨hy,rfl⟩
  ·cases h'
 |lst ps=>
  obtain⟨a,vs,rfl,h1,h2⟩:=r.lst s
  cases h
  have e:ps.isEmpty=vs.isEmpty:=by cases h2.pr<;>rfl
  exact .inl ⟨vs,h1,by rw[e]⟩
 |tup ps=>
  obtain⟨a,vs,rfl,h1,h2⟩:=r.tup s
  cases h
  have e:ps.isEmpty=vs.isEmpty:=by cases h2.pr<;>rfl
  exact .inr (.inl ⟨vs,h1,by rw[e]⟩)
 |ins C ns ps=>cases h
 |xc C ns ps=>cases h
 |ty n=>cases h
 |cls C=>cases h
theorem dY(ha:PE X a (tR (kk X cm) E ma))(he:∀whole,isTrue a X.env whole=(do let v ←whole;standAt a.pos;holding [v] (truthy v)):=by intro _;rfl):PT X a (tB (kk X cm) E (iz ma)):=PT.wk (wR ha he) fun σ H Q ⟨c,F,ρ,rel,h⟩=>
 ⟨c,F,ρ,rel,h.bind fun p ρ1 v F1 H1 Ď _ _ r1 h1=>by
   cases e:IV p with
   |none=>rw[e] at h1;exact h1.elim
   |some k=>rw[e] at h1;exact⟨k,Nx Ď.sub r1 e,h1 k F1 H1 Ď (Same.refl _) (Same.refl _) rfl⟩⟩
def dF(m:M PV):M Bool:=fun ρ=>(m ρ).bind fun p ρ1=>match p with
 | .bl b=>.ok b ρ1
 |_=>.bad
theorem Ny{σ:L2.St}{H:Hp}{Q:Bool→Hp→Prop}(h:tB (kk X cm) E (dF m) σ H Q):M2.Fq (tV (kk X cm) E m) σ H Q:=by
 obtain⟨c,F,ρ,rel,h⟩:=h
 refine⟨c,F,ρ,rel,h.bind fun p ρ1 v F1 H1 Ď _ _ r1 h1=>?_⟩
 cases p with
 |bl b=>
  have e:v=.bl b:=by have r1':Rep (kk X cm) F1 (.bl b) v:=r1;unfold Rep at r1';exact r1'
  subst e
  exact h1 b F1 H1 Ď (Same.refl _) (Same.refl _) rfl
 |_=>exact h1.elim
theorem ŋ{op:CmpOp}{r:R2}{f:PV→PV→Option PV}(hf:kj (kk X cm) r f)(ho:aq X (compareOp op) r)(ha:PE X a (tR (kk X cm) E ma))(hb:PE X b (tR (kk X cm) E mb))(hm:behindInMarks op b=false):PT X (.Compare a [op] [b] pos) (tB (kk X cm) E (dF (Č f ma mb))):=
 PT.wk (Ib ho ha hb hm) fun σ H Q h=>by
   obtain⟨c,F,ρ,rel,h⟩:=Ny h
   exact ud hf ⟨c,F,ρ,rel,h⟩
def vO(f g:PV→PV→Option PV)(ma mb mc:M PV):M PV:=fun ρ=>(ma ρ).bind fun p ρ1=>(mb ρ1).bind fun q ρ2=>(Res.iV (f p q) ρ2).bind fun z ρ3=>match z with
 | .bl true=>(mc ρ3).bind fun w ρ4=>Res.iV (g q w) ρ4
 | .bl false=>.ok (.bl false) ρ3
 |_=>.bad
theorem Nz{r r':R2}{f g:PV→PV→Option PV}(hf:kj (kk X cm) r f)(hg:kj (kk X cm) r' g){σ:L2.St}{H:Hp}{Q:VK}(h:tV (kk X cm) E (vO f g ma mb mc) σ H Q):M2.xr r r' (tR (kk X cm) E ma) (tR (kk X cm) E mb) (tR (kk X cm) E mc) σ H Q:=by
 obtain⟨c,F,ρ,rel,h⟩:=h
 refine⟨c,F,ρ,rel,h.bind fun p ρ1 v F1 H1 Ď _ _ r1 h1=>⟨c,F1,ρ1,Ď,h1.bind fun q ρ2 u F2 H2 ı sF sH r2 h2=>?_⟩⟩
 cases e:f p q with
 |none=>rw[e] at h2;exact h2.elim
 |some pv=>
  rw[e] at h2
  refine hf ı (r1.mono sF sH) r2 e fun z F' H' Ŧ s1 s2 q'=>?_
  cases pv with
  |bl k=>
   have ez:z=.bl k:=by unfold Rep at q';exact q'
   subst ez
   cases k with
   |false=>exact h2 _ F' H' Ŧ s1 s2 q'
   |true=>
    refine⟨c,F',ρ2,Ŧ,ŵ.bind (ŵ.mono h2 s1 s2) fun w ρ4 x F4 H4 qZ s3 s4 r4 h4=>?_⟩
    cases e':g q w with
    |none=>rw[e'] at h4;exact h4.elim
    |some pv'=>rw[e'] at h4;exact hg qZ (r2.mono (s1.trans s3) (s2.trans s4)) r4 e' fun z F' H' Ŧ s1 s2 q'=>h4 z F' H' Ŧ s1 s2 q'
  |_=>exact h2.elim
theorem yc{op op':CmpOp}{r r':R2}{f g:PV→PV→Option PV}{c:Expr}(hf:kj (kk X cm) r f)(hg:kj (kk X cm) r' g)(ho:aq X (compareOp op) r)(ho':aq X (compareOp op') r')(ha:PE X a (tR (kk X cm) E ma))(hb:PE X b (tR (kk X cm) E mb))(hc:PE X c (tR (kk X cm) E mc))
 (hm:lastMarks [op,op'] [b,c]=false:=by with_unfolding_all rfl):PE X (.Compare a [op,op'] [b,c] pos) (tV (kk X cm) E (vO f g ma mb mc)):=PE.wk (xu ho ho' ha hb hc hm) fun _ _ _ h=>Nz hf hg h
def ji(m:M Bool):M Bool:=fun ρ=>(m ρ).bind fun b ρ1=>.ok (!b) ρ1
theorem pD{m:M Bool}(h:PT X a (tB (kk X cm) E m)):PT X (.UnaryOp .Not a pos) (tB (kk X cm) E (ji m)):=PT.wk (GZ h) fun σ H Q ⟨c,F,ρ,rel,h⟩=>
 ⟨c,F,ρ,rel,h.bind fun p ρ1 v F1 H1 Ď _ _ r1 h1=>h1 _ F1 H1 Ď (Same.refl _) (Same.refl _) (by have e:p=v:=r1;rw[e];rfl)⟩
def gW(ma mb:M Bool):M Bool:=fun ρ=>(ma ρ).bind fun b ρ1=>if b=true then mb ρ1 else .ok false ρ1
def q_(ma mb:M Bool):M Bool:=fun ρ=>(ma ρ).bind fun b ρ1=>if b=true then .ok true ρ1 else mb ρ1
variable{ta tb:M Bool}{rest:List Expr}
theorem gF(h:PT X a (tB (kk X cm) E ta)):PW X (.BoolOp .And [a] pos) (tB (kk X cm) E ta):=Cg h
theorem uf(h:PT X a (tB (kk X cm) E ta)):PW X (.BoolOp .Or [a] pos) (tB (kk X cm) E ta):=GR h
theorem w_and(ha:PT X a (tB (kk X cm) E ta))(hb:PW X (.BoolOp .And (b::rest) pos) (tB (kk X cm) E tb)):PW X (.BoolOp .And (a::b::rest) pos) (tB (kk X cm) E (gW ta tb)):=PW.wk (GX ha hb) fun σ H Q ⟨c,F,ρ,rel,h⟩=>
 ⟨c,F,ρ,rel,h.bind fun p ρ1 v F1 H1 Ď _ _ r1 h1=>by
   have e:p=v:=r1
   subst e
   cases p with
   |true=>exact⟨c,F1,ρ1,Ď,h1⟩
   |false=>exact h1 false F1 H1 Ď (Same.refl _) (Same.refl _) rfl⟩
theorem w_or(ha:PT X a (tB (kk X cm) E ta))(hb:PW X (.BoolOp .Or (b::rest) pos) (tB (kk X cm) E tb)):PW X (.BoolOp .Or (a::b::rest) pos) (tB (kk X cm) E (q_ ta tb)):=PW.wk (Ml ha hb) fun σ H Q ⟨c,F,ρ,rel,h⟩=>
 ⟨c,F,ρ,rel,h.bind fun p ρ1 v F1 H1 Ď _ _ r1 h1=>by
   have e:p=v:=r1
   subst e
   cases p with
   |false=>exact⟨c,F1,ρ1,Ď,h1⟩
   |true=>exact h1 true F1 H1 Ď (Same.refl _) (Same.refl _) rfl⟩
def cO(ma mb:M PV):M PV:=fun ρ=>(ma ρ).bind fun p ρ1=>match p with
 | .bl true=>mb ρ1
 | .bl false=>.ok (.bl false) ρ1
 |_=>.bad
def mOr(ma mb:M PV):M PV:=fun ρ=>(ma ρ).bind fun p ρ1=>match p with
 | .bl true=>.ok (.bl true) ρ1
 | .bl false=>mb ρ1
 |_=>.bad
def Dl(ma:M PV):M PV:=fun ρ=>(ma ρ).bind fun p ρ1=>match p with
 | .bl b=>.ok (.bl (!b)) ρ1
 |_=>.bad
theorem nF{K:KK}{F:Hp}{b:Bool}{v:V}(h:Rep K F (.bl b) v):v=.bl b:=by unfold Rep at h;exact h
theorem gY{op}(h:PE X a (tV (kk X cm) E ma)):PE X (.BoolOp op [a] pos) (tV (kk X cm) E ma):=G_ h
theorem v_and(ha:PE X a (tV (kk X cm) E ma))(hb:PE X (.BoolOp .And (b::rest) pos) (tV (kk X cm) E mb)):PE X (.BoolOp .And (a::b::rest) pos) (tV (kk X cm) E (cO ma mb)):=PE.wk (Ie ha hb) fun σ H Q ⟨c,F,ρ,rel,h⟩=>
 ⟨c,F,ρ,rel,h.bind fun p ρ1 v F1 H1 Ď _ _ r1 h1=>by
   cases p with
   |bl k=>
    cases nF r1
    cases k with
    |true=>exact⟨c,F1,ρ1,Ď,h1⟩
    |false=>exact h1 _ F1 H1 Ď (Same.refl _) (Same.refl _) r1
   |_=>exact h1.elim⟩
theorem v_not(ha:PE X a (tV (kk X cm) E ma)):PE X (.UnaryOp .Not a pos) (tV (kk X cm) E (Dl ma)):=PE.wk (Ig ha) fun σ H Q ⟨c,F,ρ,rel,h⟩=>
 ⟨c,F,ρ,rel,h.bind fun p ρ1 v F1 H1 Ď _ _ r1 h1=>by
   cases p with
   |bl k=>
    cases nF r1
    exact h1 _ F1 H1 Ď (Same.refl _) (Same.refl _) Rep.bl
   |_=>exact h1.elim⟩
def dZ{α:Type}(t:M Bool)(ma mb:M α):M α:= fun ρ=>(t ρ).bind fun b ρ1=>if b=true then ma ρ1 else mb ρ1
def ė:M (List PV):=fun ρ=>.ok [] ρ
def ā(ma:M PV)(mr:M (List PV)):M (List PV):=fun ρ=>(ma ρ).bind fun p ρ1=>(mr ρ1).bind fun ps ρ2=>.ok (p::ps) ρ2
variable{mr:M (List PV)}
theorem ġ:PA X [] (tL (kk X cm) E ė):=PA.wk qP fun σ H Q ⟨c,F,ρ,rel,h⟩=>h [] F H rel (Same.refl _) (Same.refl _) Đ.nil
theorem Ă(ha:PE X e (tV (kk X cm) E ma))(hr:PA X es (tL (kk X cm) E mr))(hs:starEach (e::es) X.env=(false,eval e X.env)::starEach es X.env:=by exact Ā rfl):PA X (e::es) (tL (kk X cm) E (ā ma mr)):=PA.wk (fG ha hr hs) fun σ H Q ⟨c,F,ρ,rel,h⟩=>
 ⟨c,F,ρ,rel,h.bind fun p ρ1 v F1 H1 Ď _ _ r1 h1=>⟨c,F1,ρ1,Ď,h1.bind fun ps ρ2 vs F2 H2 ı sF sH r2 h2=>h2 _ F2 H2 ı (Same.refl _) (Same.refl _) (Đ.cons (Rep.same sF p v r1) r2)⟩⟩
theorem Į:PA X [] (Lz (kk X cm) E ė):=PA.wk qP fun σ H Q ⟨c,F,ρ,rel,h⟩=>h [] F H rel (Same.refl _) (Same.refl _) .nil
theorem ē(ha:PE X e (tR (kk X cm) E ma))(hr:PA X es (Lz (kk X cm) E mr))(hs:starEach (e::es) X.env=(false,eval e X.env)::starEach es X.env:=by exact Ā rfl):PA X (e::es) (Lz (kk X cm) E (ā ma mr)):=PA.wk (fG ha hr hs) fun σ H Q ⟨c,F,ρ,rel,h⟩=>
 ⟨c,F,ρ,rel,h.bind fun p ρ1 v F1 H1 Ď _ _ r1 h1=>⟨c,F1,ρ1,Ď,h1.bind fun ps ρ2 vs F2 H2 ı sF sH r2 h2=>h2 _ F2 H2 ı (Same.refl _) (Same.refl _) (.cons (rR.mono r1 sF sH) r2)⟩⟩
def Ę:M (List Slot):=fun ρ=>.ok [] ρ
def Ģ(ma:M PV)(mr:M (List Slot)):M (List Slot):=fun ρ=>(ma ρ).bind fun p ρ1=>(mr ρ1).bind fun as ρ2=>.ok (.sh p::as) ρ2
def cA:Slot→Option Slot
 | .sh p=>some (.sh p)
 | .ow ps=>some (.bw ps)
 | .bw ps=>some (.bw ps)
 |_=>none
def ċ(i:Nat)(mr:M (List Slot)):M (List Slot):=fun ρ=>match(ρ[i]?).bind cA with
 |none=>.bad
 |some _=>(mr ρ).bind fun as ρ2=>match(ρ2[i]?).bind cA with
  |some s=>.ok (s::as) ρ2
  |none=>.bad
variable{ms:M (List Slot)}
theorem ĕ:PA X [] (tA (kk X cm) E Ę):=PA.wk qP fun σ H Q ⟨c,F,ρ,rel,h⟩=>h [] F H rel (Same.refl _) (Same.refl _) .nil
theorem ę(ha:PE X e (tV (kk X cm) E ma))(hr:PA X es (tA (kk X cm) E ms))(hs:starEach (e::es) X.env=(false,eval e X.env)::starEach es X.env:=by exact Ā rfl):PA X (e::es) (tA (kk X cm) E (Ģ ma ms)):=PA.wk (fG ha hr hs) fun σ H Q ⟨c,F,ρ,rel,h⟩=>
 ⟨c,F,ρ,rel,h.bind fun p ρ1 v F1 H1 Ď _ _ r1 h1=>⟨c,F1,ρ1,Ď,h1.bind fun as ρ2 vs F2 H2 ı sF sH r2 h2=>h2 _ F2 H2 ı (Same.refl _) (Same.refl _) (.cons (show au _ _ _ (.sh p) v from Rep.same sF p v r1) r2)⟩⟩
theorem ug{K:KK}{c:Ctx}{F H:Hp}{σ:L2.St}{ρ:Ŋ}{i:Nat}{s:Slot}(rel:Rel K c F H σ ρ)(h:(ρ[i]?).bind cA=some s):∃v,σ[i]?=some (some v)∧au K F H s v:=by
 cases e:ρ[i]? with
 |none=>rw[e] at h;cases h
 |some sl=>
  rw[e] at h
  have h':cA sl=some s:=h
  cases sl with
  |sh p=>
   cases h'
   obtain⟨v,h1,h2⟩:=rel.slot i _ e
   exact⟨v,at_of h1,h2⟩
  |ow ps=>
   cases h'
   obtain⟨a,vs,h1,h2,h3,h4,h5,_⟩:=rel.ow e
   exact⟨.ref a,h1,a,vs,rfl,h2,h3,h5⟩
  |bw ps=>
   cases h'
   obtain⟨a,vs,h1,h2,h3⟩:=rel.slot i _ e
   exact⟨.ref a,at_of h1,a,vs,rfl,(rel.lent a _ h2).1,(rel.lent a _ h2).2,h3⟩
  |no=>cases h'
  |rc C ns ps=>cases h'
  |ot ps qs=>cases h'
  |ol Ů=>cases h'
theorem ć(i:Nat){x:Str}{px:Pos}(hN:X.N[i]?=some x:=by rfl)(hv:BW X.env.scope x:=by first|exact Or.inl rfl|exact Or.inr (Or.inl rfl)|exact Or.inr (Or.inr rfl))(hd:(x== ("__debug__" :Str))=false:=by decide)
 (hcd:(x== ("__classdict__" :Str))=false:=by decide)(hr:PA X es (tA (kk X cm) E ms))(hs:starEach (.Name x px::es) X.env=(false,eval (.Name x px) X.env)::starEach es X.env:=by exact Ā rfl):PA X (.Name x px::es) (tA (kk X cm) E (ċ i ms)):=
 PA.wk (fG (eN hN hv hd hcd) hr hs) fun σ H Q ⟨c,F,ρ,rel,h⟩=>by
   unfold ċ at h
   cases e:(ρ[i]?).bind cA with
   |none=>rw[e] at h;exact h.elim
   |some s0=>
    rw[e] at h
    obtain⟨v,hv,_⟩:=ug rel e
    refine⟨v,hv,c,F,ρ,rel,ŵ.bind h fun as ρ2 vs F2 H2 ı sF sH r2 h2=>?_⟩
    cases e2:(ρ2[i]?).bind cA with
    |none=>simp only[e2] at h2;exact h2.elim
    |some s=>
     simp only[e2] at h2
     obtain⟨v',hv',r1⟩:=ug ı e2
     rw[hv] at hv'
     cases hv'
     exact h2 _ F2 H2 ı (Same.refl _) (Same.refl _) (.cons r1 r2)
def ŝ(mr:M (List PV)):M PV:=fun ρ=>(mr ρ).bind fun ps ρ1=>if ps.length≤16777216 then .ok (.tup ps) ρ1 else .bad
def aG(mr:M (List PV)):M RV:=fun ρ=>(mr ρ).bind fun ps ρ1=>if ps.length≤16777216 then .ok (.ow ps) ρ1 else .bad
theorem Ĺ:sizeLine=16777216:=sizeLine_eq
theorem ņ{x1}(h:PA X es (tL (kk X cm) E mr)):PE X (.Tuple es x1 pos) (tV (kk X cm) E (ŝ mr)):=PE.wk (HJ h) fun σ H Q ⟨c,F,ρ,rel,h⟩=>
 ⟨c,F,ρ,rel,h.bind fun ps ρ1 vs F1 H1 Ď _ _ r1 h1=>by
   split at h1
   ·rename_i hz
    refine⟨by rw[←Đ.length r1,Ĺ];exact hz,fun p hp=>h1 _ _ _ (Ď.alloc hp) (Same.upd (Ď.sub.free hp)) (Same.upd hp) ?_⟩
    show Rep _ _ _ _
    unfold Rep
    exact⟨p,vs,rfl,cJ.of ď,Đ.same (Same.upd (Ď.sub.free hp)) ps vs r1⟩
   ·exact h1.elim⟩
theorem cP{K:KK}{c:Ctx}{F H:Hp}{σ:L2.St}{ρ:Ŋ}{ps:List PV}{vs:List V}{a:Addr}(rel:Rel K c F H σ ρ)(ha:H a=none)(r:Đ K F ps vs):Rel K c F (upd H a (.lst vs)) σ ρ∧Held K c σ ρ F (upd H a (.lst vs)) ps (.ref a):=
 ⟨rel.made ha,a,vs,rfl,ď,rel.sub.free ha,rel.base.free ha,rel.fresh ha,r⟩
theorem ŧ(h:PA X es (tL (kk X cm) E mr)):PE X (.List es pos) (tO (kk X cm) E (aG mr)):=PE.wk (HN h) fun σ H Q ⟨c,F,ρ,rel,h⟩=>
 ⟨c,F,ρ,rel,h.bind fun ps ρ1 vs F1 H1 Ď _ _ r1 h1=>by
   split at h1
   ·rename_i hz
    refine⟨by rw[←Đ.length r1,Ĺ];exact hz,fun p hp=>?_⟩
    obtain⟨q1,q2⟩:=cP Ď hp r1
    exact h1 _ _ _ q1 (Same.refl _) (Same.upd hp) q2
   ·exact h1.elim⟩
def cQ(f:List PV→Option PV)(mr:M (List PV)):M PV:=fun ρ=>(mr ρ).bind fun ps ρ1=>Res.iV (f ps) ρ1
def yd(f:List PV→Option RV)(mr:M (List PV)):M RV:=fun ρ=>(mr ρ).bind fun ps ρ1=>Res.iV (f ps) ρ1
def cR(K:KK)(r:List V→Hp→VK→Prop)(f:List PV→Option PV):Prop:=∀{c:Ctx} {F H:Hp} {σ:L2.St} {ρ:Ŋ} {ps:List PV} {pv:PV} {vs:List V} {Q:VK},Rel K c F H σ ρ→Ly K c σ ρ F H ps vs→f ps=some pv→
 (∀z F' H',Rel K c F' H' σ ρ→Same F F'→Same H H'→Rep K F' pv z→Q z H')→r vs H Q
def Fw(K:KK)(r:List V→Hp→VK→Prop)(f:List PV→Option RV):Prop:=∀{c:Ctx} {F H:Hp} {σ:L2.St} {ρ:Ŋ} {ps:List PV} {pv:RV} {vs:List V} {Q:VK},Rel K c F H σ ρ→Ly K c σ ρ F H ps vs→f ps=some pv→
 (∀z F' H',Rel K c F' H' σ ρ→Same F F'→Same H H'→rO K c σ ρ F' H' pv z→Q z H')→r vs H Q
theorem Ű{r:List V→Hp→VK→Prop}{f:List PV→Option PV}(hf:cR (kk X cm) r f){σ:L2.St}{H:Hp}{Q:VK}(h:tV (kk X cm) E (cQ f mr) σ H Q):Vd r (Lz (kk X cm) E mr) σ H Q:=by
 obtain⟨c,F,ρ,rel,h⟩:=h
 refine⟨c,F,ρ,rel,h.bind fun p ρ1 v F1 H1 Ď _ _ r1 h1=>?_⟩
 cases e:f p with
 |none=>rw[e] at h1;exact h1.elim
 |some pv=>rw[e] at h1;exact hf Ď r1 e fun z F' H' Ŧ s1 s2 q'=>h1 z F' H' Ŧ s1 s2 q'
theorem vP{r:List V→Hp→VK→Prop}{f:List PV→Option RV}(hf:Fw (kk X cm) r f){σ:L2.St}{H:Hp}{Q:VK}(h:tO (kk X cm) E (yd f mr) σ H Q):Vd r (Lz (kk X cm) E mr) σ H Q:=by
 obtain⟨c,F,ρ,rel,h⟩:=h
 refine⟨c,F,ρ,rel,h.bind fun p ρ1 v F1 H1 Ď _ _ r1 h1=>?_⟩
 cases e:f p with
 |none=>rw[e] at h1;exact h1.elim
 |some pv=>rw[e] at h1;exact hf Ď r1 e fun z F' H' Ŧ s1 s2 q'=>h1 z F' H' Ŧ s1 s2 q'
end
end P
namespace P
open PySem PySem.Spec PyProof.Rows L2 M2 M3
def eV:M Fl:=fun ρ=>.ok .nx ρ
def mBk:M Fl:=fun ρ=>.ok .bk ρ
def mCt:M Fl:=fun ρ=>.ok .ct ρ
def Ĵ(a b:M Fl):M Fl:=fun ρ=>(a ρ).bind fun f ρ1=>match f with
 | .nx=>b ρ1
 |f=>.ok f ρ1
def aV(i:Nat)(m:M RV):M Fl:=fun ρ=>(m ρ).bind fun r ρ1=>.ok .nx (ρ1.set i r.slot)
def Ľ(m:M RV):M Fl:=fun ρ=>(m ρ).bind fun r ρ1=>.ok (.rt r) ρ1
def NK:M Fl:=fun ρ=>.ok (.rt (.sh .non)) ρ
def NP(m:M PV):M Fl:=fun ρ=>(m ρ).bind fun _ ρ1=>.ok .nx ρ1
section
variable{X:Cx}{cm:String→Addr}{E:L2.St→XK}{a b e:Expr}{st:Stmt}{rest:List Stmt}{es:List Expr}{pos:Pos}{m1 m2:M Fl}{mo:M RV}{mv:M PV}
theorem Ķ:jd X [] (tS (kk X cm) E eV):=jd.wk Ci fun D σ H ⟨c,F,ρ,rel,h⟩=>h σ F H rel (Same.refl F)
theorem đ(h:PS X st (tS (kk X cm) E m1)):jd X [st] (tS (kk X cm) E m1):=Cj h
theorem Dm{c:Ctx}{F:Hp}{D:Ends}{r:Res Fl}(h:Ÿ (kk X cm) E c F D (r.bind fun f ρ1=>match f with| .nx=>m2 ρ1|f=>.ok f ρ1)):Ÿ (kk X cm) E c F {D with nx:=tS (kk X cm) E m2 D} r:=by
 cases r with
 |ok f ρ1=>
  cases f with
  |nx=>exact fun σ' F' H' Ŧ s=>⟨c,F',ρ1,Ŧ,Ÿ.mono h s⟩
  |bk=>exact h
  |ct=>exact h
  |rt v=>exact h
 |exc x ρ1=>exact h
 |bad=>exact h
theorem Ċ(h1:PS X st (tS (kk X cm) E m1))(h2:jd X rest (tS (kk X cm) E m2)):jd X (st::rest) (tS (kk X cm) E (Ĵ m1 m2)):=jd.wk (wI h1 h2) fun D σ H ⟨c,F,ρ,rel,h⟩=>⟨c,F,ρ,rel,Dm h⟩
theorem ſ{i:Nat}{x:Str}{pos':Pos}(hN:X.N.Nodup)(hi:X.N[i]?=some x)(hx:Loc X.env.scope x)(he:PE X e (tO (kk X cm) E mo))(hs:swapsWith e (some (.Name x pos')) pos.line X.env=pure false:=by rfl)(hf:X.fn x=true∨X.env.scope.names.lookup x=some .local:=by first|exact .inl rfl|exact .inr rfl|assumption) :
 PS X (.Assign [.Name x pos'] e pos) (tS (kk X cm) E (aV i mo)):=PS.wk (Hj hN hi hx he hs hf) fun D σ H ⟨c,F,ρ,rel,h⟩=>⟨c,F,ρ,rel,Ÿ.bind h fun r ρ1 v F1 H1 Ď s1 q h1=>by
 cases r with
 |sh p=>exact h1 _ F1 H1 (Ď.put rfl ⟨v,rfl,q⟩) (Same.refl _)
 |ow ps=>
  obtain⟨a,vs,rfl,q1,q2,q3,q4,q5⟩:=q
  exact h1 _ F1 H1 (Ď.xY ⟨a,vs,rfl,q1,q2,q3,q5⟩ fun _ z=>V.ref.inj z▸q4) (Same.refl _)
 |ot ps qs=>
  obtain⟨p,a,xs,vs,rfl,q0,qx,q1,q2,q3,q4,q5⟩:=q
  exact h1 _ F1 H1 (Ď.xY (s:=.ot ps qs) ⟨p,a,xs,vs,rfl,q0,qx,q1,q2,q3,q5⟩ fun _ z=>iR (ps:=ps) (qs:=qs) z ⟨p,xs,rfl,q0⟩▸q4) (Same.refl _)⟩
theorem ħ(he:PE X e (tO (kk X cm) E mo)):PS X (.Return (some e) pos) (tS (kk X cm) E (Ľ mo)):=PS.wk (Hf he) fun D σ H ⟨c,F,ρ,rel,h⟩=>⟨c,F,ρ,rel,Ÿ.bind h fun r ρ1 v F1 H1 Ď s1 q h1=>h1 v σ F1 H1 Ď (Same.refl _) q⟩
theorem ů{t:M Bool}{ss ss':List Stmt}(hc:PT X a (tB (kk X cm) E t))(ha:jd X ss (tS (kk X cm) E m1))(hb:jd X ss' (tS (kk X cm) E m2)):PS X (.If a ss ss' pos) (tS (kk X cm) E (dZ t m1 m2)):=PS.wk (Mq hc ha hb) fun D σ H ⟨c,F,ρ,rel,h⟩=>⟨c,F,ρ,rel,Ÿ.bind h fun r ρ1 v F1 H1 Ď s1 q h1=>by
 have e:r=v:=q
 subst e
 cases r with
 |true=>exact⟨c,F1,ρ1,Ď,h1⟩
 |false=>exact⟨c,F1,ρ1,Ď,h1⟩⟩
def IW{α:Type}:M α:= fun _=>.bad
theorem Dp:PS X st (tS (kk X cm) E IW):=PS.wk wK fun D σ H ⟨c,F,ρ,rel,h⟩=>h
abbrev Tg:=PV→Ŋ→Option Ŋ
abbrev wC:=List PV→Ŋ→Option Ŋ
def NQ(K:KK)(c:Ctx)(F H:Hp)(Q:L2.St→Hp→Prop):Option Ŋ→Prop
 |some ρ'=>∀σ',Rel K c F H σ' ρ'→Q σ' H
 |none=>False
def tT(K:KK)(g:Tg):TG:=fun v σ H Q=>∃c F ρ p,Rel K c F H σ ρ∧Rep K F p v∧NQ K c F H Q (g p ρ)
def NT(K:KK)(g:wC):wL:=fun v σ H Q=>∃c F ρ p,Rel K c F H σ ρ∧Đ K F p v∧NQ K c F H Q (g p ρ)
def gN(i:Nat):Tg:=fun p ρ=>some (ρ.set i (.sh p))
def aM:wC:=fun ps ρ=>match ps with
 | []=>some ρ
 |_=>none
def Ī(g:Tg)(gs:wC):wC:=fun ps ρ=>match ps with
 |p::ps=>(g p ρ).bind fun ρ1=>gs ps ρ1
 | []=>none
def gT(n:Nat)(gs:wC):Tg:=fun p ρ=>match p with
 | .tup ps=>if ps.length=n then gs ps ρ else none
 |_=>none
theorem PG.wk'{tg:Expr}{t t':TG}(h:PG X tg t)(i:∀v σ H Q,t' v σ H Q→t v σ H Q):PG X tg t':=fun pins s σ H v u Q I r q=>h pins s σ H v u Q I r (i v σ H Q q)
theorem qD.wk{tg:List Expr}{t t':wL}(h:qD X tg t)(i:∀v σ H Q,t' v σ H Q→t v σ H Q):qD X tg t':=fun pins s σ H v u Q I r q=>h pins s σ H v u Q I r (i v σ H Q q)
theorem ě{i:Nat}{x:Str}(hN:X.N.Nodup)(hi:X.N[i]?=some x)(hx:Loc X.env.scope x)(hf:X.fn x=true∨X.env.scope.names.lookup x=some .local:=by first|exact .inl rfl|exact .inr rfl|assumption):PG X (.Name x pos) (tT (kk X cm) (gN i)):=
 PG.wk' (Ck hN hi hx hf) fun v σ H Q ⟨c,F,ρ,p,rel,rp,h⟩=>h _ (rel.put rfl ⟨v,rfl,rp⟩)
theorem aN:qD X [] (NT (kk X cm) aM):=qD.wk Cm fun v σ H Q ⟨c,F,ρ,p,rel,rp,h⟩=>by
 cases p with
 |nil=>
  have e:v=[]:=by have:=rp;unfold Đ at this;exact this
  exact⟨e,h σ rel⟩
 |cons _ _=>exact h.elim
theorem Ĩ{es:List Expr}{g:Tg}{gs:wC}(h1:PG X e (tT (kk X cm) g))(h2:qD X es (NT (kk X cm) gs))(hs:(assignEach (e::es) X.env).map (·.2)=assign e X.env::(assignEach es X.env).map (·.2):=by rfl):qD X (e::es) (NT (kk X cm) (Ī g gs)):=
 qD.wk (wM h1 h2 hs) fun v σ H Q ⟨c,F,ρ,p,rel,rp,h⟩=>by
  cases p with
  |nil=>exact h.elim
  |cons p ps=>
   unfold Đ at rp
   obtain⟨x,r,rfl,r1,r2⟩:=rp
   refine⟨x,r,rfl,c,F,ρ,p,rel,r1,?_⟩
   unfold Ī at h
   dsimp only at h
   cases eg:g p ρ with
   |none=>rw[eg] at h;exact h.elim
   |some ρ1=>rw[eg] at h;exact fun σ' Ŧ=>⟨c,F,ρ1,ps,Ŧ,r2,h⟩
theorem Fx{es:List Expr}{k:Nat}{gs:wC}{n:Nat}(hc:X.calm=true)(h:qD X es (NT (kk X cm) gs))(hn:(assignEach es X.env).length=n:=by rfl)(hst:(assignEach es X.env).findIdx? (·.1)=none:=by rfl):PG X (.Tuple es k pos) (tT (kk X cm) (gT n gs)):=
 PG.wk' (wN hc h hn hst) fun v σ H Q ⟨c,F,ρ,p,rel,rp,h⟩=>by
   cases p with
   |tup ps=>
    unfold Rep at rp
    obtain⟨a,xs,h1,h2,h3⟩:=rp
    unfold gT at h
    dsimp only at h
    split at h
    ·rename_i hl
     exact⟨a,xs,h1,Same.tup rel.sub h2,by rw[←h3.length];exact hl,c,F,ρ,ps,rel,h3,h⟩
    ·exact h.elim
   |_=>exact h.elim
def jj(g:Tg)(m:M PV):M Fl:=fun ρ=>(m ρ).bind fun p ρ1=>match g p ρ1 with
 |some ρ2=>.ok .nx ρ2
 |none=>.bad
theorem fO{tg:Expr}{g:Tg}(he:PE X e (tV (kk X cm) E mv))(hg:PG X tg (tT (kk X cm) g))(hs:swapsWithSole [tg] e pos.line X.env=pure false:=by rfl)(hw:swappedStores [tg] e X.env=pure none:=by rfl)
 (h1:(assignEach [tg] X.env).map (·.2)=[assign tg X.env]:=by rfl):PS X (.Assign [tg] e pos) (tS (kk X cm) E (jj g mv)):=PS.wk (wO he hg hs hw h1) fun D σ H ⟨c,F,ρ,rel,h⟩=>⟨c,F,ρ,rel,Ÿ.bind h fun r ρ1 v F1 H1 Ď s1 q h1=>by
 refine⟨c,F1,ρ1,r,Ď,q,?_⟩
 cases eg:g r ρ1 with
 |none=>rw[eg] at h1;exact h1.elim
 |some ρ2=>rw[eg] at h1;exact fun σ' Ŧ=>h1 σ' F1 H1 Ŧ (Same.refl _)⟩
def Yw(i j:Nat)(mr:M (List PV)):M Fl:=fun ρ=>(mr ρ).bind fun ps ρ1=>match ps with
 | [p,q]=>.ok .nx ((ρ1.set i (.sh p)).set j (.sh q))
 |_=>.bad
def nG(i:Nat)(mi:M PV)(m:M PV):M Fl:=fun ρ=>(m ρ).bind fun p ρ1=>match ρ1[i]? with
 |some (.ow _)=>(mi ρ1).bind fun q ρ2=>match ρ2[i]?,q with
  |some (.ow ps),.int k=>match o_ ps.length k with
   |some j=>.ok .nx (ρ2.set i (.ow (ps.set j p)))
   |none=>.bad
  |_,_=>.bad
 |_=>.bad
theorem uh{i:Nat}{x:Str}{ix:Expr}{mi:M PV}{px rm:Pos}(he:PE X e (tV (kk X cm) E mv))(hi:PE X ix (tV (kk X cm) E mi))(ho:PE X (.Name x px) (oX i))
 (hsub:∀v,assign (.Subscript (.Name x px) ix rm) X.env v=(do
   let ov ←holding [v] (eval (.Name x px) X.env)
   let iv ←holding [v,ov] (eval ix X.env)
   standAt rm
   holding [v,ov,iv] (setItem ov iv v)
   release [v,ov,iv] []):=by intro _;rfl)
 (hs:swapsWithSole [.Subscript (.Name x px) ix rm] e pos.line X.env=pure false:=by rfl)(hw:swappedStores [.Subscript (.Name x px) ix rm] e X.env=pure none:=by rfl)
 (h1:(assignEach [.Subscript (.Name x px) ix rm] X.env).map (·.2)=[assign (.Subscript (.Name x px) ix rm) X.env]:=by rfl) :
 PS X (.Assign [.Subscript (.Name x px) ix rm] e pos) (tS (kk X cm) E (nG i mi mv)):=PS.wk (wO he (Hi ho hi set_list hsub) hs hw h1) fun D σ H ⟨c,F,ρ,rel,h⟩=>⟨c,F,ρ,rel,Ÿ.bind h fun p ρ1 v F1 H1 Ď s1 q h1=>by
 cases e1:ρ1[i]? with
 |none=>rw[e1] at h1;exact h1.elim
 |some sl=>
  rw[e1] at h1
  cases sl with
  |ow Yx=>
   obtain⟨a,vs0,z1,_,_,_,_,_⟩:=Ď.ow e1
   refine⟨.ref a,z1,c,F1,ρ1,Ď,Ÿ.bind h1 fun q' ρ2 u F2 H2 ı s2 r2 h2=>?_⟩
   cases e2:ρ2[i]? with
   |none=>rw[e2] at h2;exact h2.elim
   |some sl2=>
    rw[e2] at h2
    cases sl2 with
    |ow ps=>
     cases q' with
     |int k=>
      have eu:u=.int k:=by have:Rep (kk X cm) F2 (.int k) u:=r2;unfold Rep at this;exact this
      subst eu
      dsimp only at h2
      obtain⟨a2,vs,w1,w2,w3,w4,w5,w6⟩:=ı.ow e2
      rw[z1] at w1
      cases w1
      cases ej:o_ ps.length k with
      |none=>rw[ej] at h2;exact h2.elim
      |some j=>
       rw[ej] at h2
       refine⟨a,vs,k,j,rfl,rfl,w2,by rw[←w5.length];exact ej,h2 σ F2 _ (ı.write w6 z1 ⟨a,vs.set j v,rfl,ď,w3,w4,?_⟩ fun _ z=>(V.ref.inj z).symm) (Same.refl _)⟩
       exact Đ.of (xV (Rep.same s2 p v q) j w5.pr)
     |_=>exact h2.elim
    |_=>exact h2.elim
  |_=>exact h1.elim⟩
def Dq(i:Nat)(m:M PV):M Fl:=fun ρ=>match ρ[i]? with
 |some (.ow _)=>(m ρ).bind fun p ρ1=>match ρ1[i]? with
  |some (.ow ps)=>if ps.length<16777216 then .ok .nx (ρ1.set i (.ow (ps ++ [p]))) else .bad
  |_=>.bad
 |_=>.bad
theorem Dr{i:Nat}{D:Ends}{σ:L2.St}{H:Hp}(h:tS (kk X cm) E (Dq i mv) D σ H):wJ (Yc X.K "list" nj (oX i) (tL (kk X cm) E (ā mv ė))) D σ H:=by
 obtain⟨c,F,ρ,rel,h⟩:=h
 unfold Dq at h
 cases e1:ρ[i]? with
 |none=>rw[e1] at h;exact h.elim
 |some sl=>
  rw[e1] at h
  cases sl with
  |ow Yx=>
   obtain⟨a,vs0,z1,z2,z3,z4,z5,z6⟩:=rel.ow e1
   refine⟨.ref a,z1,.inl ⟨rfl,_,Ż.of z2⟩,c,F,ρ,rel,?_⟩
   dsimp only at h
   unfold ā
   cases em:mv ρ with
   |bad=>rw[em] at h;exact h
   |exc x ρ1=>rw[em] at h;exact fun C d F' H' Ŧ s1 q=>h σ C d F' H' Ŧ s1 q
   |ok p ρ1=>
    rw[em] at h
    intro us F1 H1 Ď s1 s2 r1
    have r1':Đ (kk X cm) F1 [p] us:=r1
    cases r1'.pr with
    |cons rp t=>
     rename_i v vs'
     cases t
     cases e2:ρ1[i]? with
     |none=>simp only[Res.iU,e2] at h;exact h.elim
     |some sl2=>
      simp only[Res.iU,e2] at h
      cases sl2 with
      |ow ps=>
       obtain⟨a2,vs,w1,w2,w3,w4,w5,w6⟩:=Ď.ow e2
       rw[z1] at w1
       cases w1
       dsimp only at h
       split at h
       ·rename_i hz
        refine⟨a,vs,v,rfl,rfl,w2,by rw[←w5.length,Ĺ];exact hz,h σ F1 _ (Ď.write w6 z1 ⟨a,vs ++ [v],rfl,ď,w3,w4,Đ.append w5 (Đ.cons rp Đ.nil)⟩ fun _ z=>(V.ref.inj z).symm) s1⟩
       ·exact h.elim
      |_=>exact h.elim
  |_=>exact h.elim
def NZ(K:KK)(Lh F:Hp)(J:It)(items:List PV):Prop:=∀(c:Ctx) (i:Nat) (F2 H:Hp) (σ:L2.St) (ρ:Ŋ),Rel K c F2 H σ ρ→Same F F2→Same Lh H→
 (∀p,items[i]?=some p→J.go i H∧∀x H',J.Vb i H x H'→∃F3,Rel K c F3 H' σ ρ∧Same F2 F3∧Same H H'∧Rep K F3 p x)∧(i=items.length→J.stop i H)
def rIt(K:KK):RR (List PV) It:=fun c _ _ F _ items J=>NZ K c.L F J items
abbrev tI(K:KK)(E:L2.St→XK)(m:M (List PV)):TI:=tG K E (rIt K) m
def forL(g:Tg)(mb:M Fl):List PV→M Fl
 | [],ρ=>.ok .nx ρ
 |p::ps,ρ=>match g p ρ with
  |none=>.bad
  |some ρ1=>(mb ρ1).bind fun f ρ2=>match f with
   | .nx=>forL g mb ps ρ2
   | .ct=>forL g mb ps ρ2
   | .bk=>.ok .nx ρ2
   | .rt r=>.ok (.rt r) ρ2
def yg(mi:M (List PV))(g:Tg)(mb:M Fl):M Fl:=fun ρ=>(mi ρ).bind fun items ρ1=>forL g mb items ρ1
theorem yh{iter tg:Expr}{body:List Stmt}{mi:M (List PV)}{g:Tg}{mb:M Fl}(hp:PassesOwn (model X.prog X.w) X.A X.env X.xe)(hc:X.calm=true)(hi:PI X tg iter (tI (kk X cm) E mi))(hg:PG X tg (tT (kk X cm) g))(hb:jd X body (tS (kk X cm) E mb))
 (hs:∀x,foldedSetIterable iter X.env x=pure x:=by intro _;rfl):PS X (.For tg iter body [] pos) (tS (kk X cm) E (yg mi g mb)):=PS.wk (Hl hp hc hi hg hb hs) fun D σ H ⟨c,F,ρ,rel,h⟩=>⟨c,F,ρ,rel,Ÿ.bind h fun items ρ1 J F1 H1 Ď s1 ito h1=>by
 refine⟨fun i m σ' H'=>∃F2 ρ2,i≤items.length∧m=items.length-i∧Rel (kk X cm) c F2 H' σ' ρ2∧Same F1 F2∧Ÿ (kk X cm) E c F2 D (forL g mb (items.drop i) ρ2),⟨_,F1,ρ1,Nat.zero_le _,rfl,Ď,Same.refl _,h1⟩,?_⟩
 rintro i m σ2 H2 ⟨F2,ρ2,hle,rfl,ı,s2,h2⟩
 obtain⟨go,stop⟩:=ito c i F2 H2 σ2 ρ2 ı s2 fun b u e=>(ı.lent b u e).1
 by_cases hlt:i<items.length
 ·obtain⟨g1,g2⟩:=go items[i] (List.getElem?_eq_getElem hlt)
  rw[List.drop_eq_getElem_cons hlt] at h2
  unfold forL at h2
  refine .inr ⟨g1,_,fun σ' H' z=>z,fun x H3 hy=>?_⟩
  obtain⟨F3,nH,s3,_,rp⟩:=g2 x H3 hy
  refine⟨c,F3,ρ2,items[i],nH,rp,?_⟩
  cases eg:g items[i] ρ2 with
  |none=>rw[eg] at h2;exact h2.elim
  |some ρ3=>
   rw[eg] at h2
   dsimp only at h2
   intro σ4 qZ
   refine⟨c,F3,ρ3,qZ,?_⟩
   have nxt:∀{ρ4:Ŋ},Ÿ (kk X cm) E c F2 D (forL g mb (items.drop (i+1)) ρ4)→∀σ' F' H',Rel (kk X cm) c F' H' σ' ρ4→Same F3 F'→∃m',m'<items.length-i∧∃F2 ρ2,i+1≤items.length∧m'=items.length-(i+1)∧Rel (kk X cm) c F2 H' σ' ρ2∧Same F1 F2∧Ÿ (kk X cm) E c F2 D (forL g mb (items.drop (i+1)) ρ2):=
    fun{ρ4} h3 σ' F' H' Ŧ s'=>⟨items.length-(i+1),by omega,F',ρ4,hlt,rfl,Ŧ,(s2.trans s3).trans s',Ÿ.mono h3 (s3.trans s')⟩
   have h2':=Ÿ.mono h2 s3
   cases e2:mb ρ3 with
   |bad=>rw[e2] at h2;exact h2
   |exc x ρ4=>rw[e2] at h2';exact h2'
   |ok f ρ4=>
    rw[e2] at h2 h2'
    cases f with
    |nx=>exact nxt h2
    |ct=>exact nxt h2
    |bk=>exact h2'
    |rt r=>exact h2'
 ·have e:i=items.length:=by omega
  refine .inl ⟨stop e,?_⟩
  rw[List.drop_eq_nil_of_le (by omega)] at h2
  unfold forL at h2
  exact h2 σ2 F2 H2 ı (Same.refl _)⟩
end
end P
namespace P
open PySem PySem.Spec PyProof.Rows L2 M2 M3
inductive FR where
 |ret (r:RV)|exc (x:PX)|bad
abbrev MF:=List Slot→FR
def FR.of:Res Fl→FR
 | .ok (.rt r) _=>.ret r
 | .ok .nx _=>.ret (.sh .non)
 | .exc x _=>.exc x
 |_=>.bad
def ş(n k:Nat)(mb:M Fl):MF:=fun as=>if as.length=n then FR.of (mb (startP k as)) else .bad
def rF(K:KK)(H F' H':Hp):RV→V→Prop
 | .sh p,v=>Rep K F' p v
 | .ow ps,v=>∃a vs,v=.ref a∧H' a=some (.lst vs)∧F' a=none∧H a=none∧Đ K F' ps vs
 | .ot ps qs,v=>∃p a xs vs,v=.ref p∧F' p=some (.tup (xs ++ [.ref a]))∧Đ K F' ps xs∧H' a=some (.lst vs)∧F' a=none∧H a=none∧Đ K F' qs vs
def Yy(K:KK)(E:XK)(F H:Hp)(Q:VK):FR→Prop
 | .ret r=>∀v F' H',Gr F H F' H'→rF K H F' H' r v→Q v H'
 | .exc x=>∀C d F' H',Gr F H F' H'→Dk K F' x C d→E C d H'
 | .bad=>False
def bU(K:KK)(n:Nat)(mf:MF):Sp:=fun vs H Q E=>∃F as,as.length=n∧Same F H∧Paired (au K F H) as vs∧Yy K E F H Q (mf as)
def bV(CX:j_)(X:Cx)(E:L2.St→XK):Prop:=∀(pins:List (Addr×Obj)) (σ:L2.St) (H:Hp) (s:Shared) (e:Value) (s':Shared),Inv X pins σ H s→CX X.stack H s (E σ) e s'→X.xe e s'
section
variable{P:Program}{w:World}{K:PySem.W.Frag}{cm:String→Addr}{mg:Str→Option Value}{base:Heap}{CX:j_}
theorem fnP{x qual:Str}{st:Stmt}{f:Addr}{fd:FuncData}{N ps:List Str}{k:Nat}{mb:M Fl}(F:dD K x qual st f fd)(S:ģ N ps (Ĉ st))
 (hbody:∀(cdv:Value) (A:Around) (outer:List Env) (s:Shared) (H:Hp) (E:XK),ž k (A.deeper (envOfC qual (Ĉ st) s.heap.objs.size f cdv))→
   jd (aB CX P w K mg base N qual (Ĉ st) f cdv A outer s H E) (aC st) (tS ⟨K,cm⟩ (fun _=>E) mb)):ľ P w K mg base CX (k+1) f fd ps (bU ⟨K,cm⟩ ps.length (ş ps.length N.length mb)):=by
 obtain⟨oc,od,kV,doc,pm,an,cdv,ct,osl,rfl,lk,hcd⟩:=F.ex
 refine Fp lk hcd S (fun vs H Q E ⟨F,ps',h1,_,h2,_⟩=>by rw[←Paired.length h2];exact h1) fun A outer s H vs Q E hr hsp=>?_
 obtain⟨F,ps',h1,h2,h3,h4⟩:=hsp
 refine⟨_,hbody cdv A outer s H E hr,ctx0 F H,F,startP N.length ps',Rel.start h2 h3,?_⟩
 unfold ş at h4
 rw[if_pos h1] at h4
 cases e:mb (startP N.length ps') with
 |bad=>rw[e] at h4;exact h4
 |exc x ρ'=>rw[e] at h4;exact fun σ' C d F' H' rel s1 q=>h4 C d F' H' rel.gr q
 |ok fl ρ'=>
  rw[e] at h4
  cases fl with
  |nx=>exact fun σ' F' H' rel s1=>h4 .non F' H' rel.gr (Rep.non (K:=⟨K,cm⟩) (F:=F'))
  |bk=>exact h4.elim
  |ct=>exact h4.elim
  |rt r=>
   intro v σ' F' H' rel s1 q
   refine h4 v F' H' rel.gr ?_
   cases r with
   |sh p=>exact q
   |ow qs=>
    obtain⟨a,vs',e1,e2,e3,e4,_,e5⟩:=q
    exact⟨a,vs',e1,e2,e3,e4,e5⟩
   |ot qs ts=>
    obtain⟨p,a,xs,vs',e1,e0,ex,e2,e3,e4,_,e5⟩:=q
    exact⟨p,a,xs,vs',e1,e0,ex,e2,e3,e4,e5⟩
theorem gn{x qual:Str}{st:Stmt}{f:Addr}{fd:FuncData}{N ps:List Str}{k n j:Nat}{mb:M Fl}{mf:MF}(F:dD K x qual st f fd)(S:ģ N ps (Ĉ st))(hn:ps.length=n)(hj:N.length=j)(hf:mf=ş n j mb)
 (hbody:∀(cdv:Value) (A:Around) (outer:List Env) (s:Shared) (H:Hp) (E:XK),ž k (A.deeper (envOfC qual (Ĉ st) s.heap.objs.size f cdv))→
   jd (aB CX P w K mg base N qual (Ĉ st) f cdv A outer s H E) (aC st) (tS ⟨K,cm⟩ (fun _=>E) mb)):ľ P w K mg base CX (k+1) f fd ps (bU ⟨K,cm⟩ n mf):=by
 subst hn hj hf
 exact fnP F S hbody
end
def ĭ(mf:MF)(mr:M (List Slot)):M RV:=fun ρ=>(mr ρ).bind fun ps ρ1=>match mf ps with
 | .ret r=>.ok r ρ1
 | .exc x=>.exc x ρ1
 | .bad=>.bad
section
variable{X:Cx}{cm:String→Addr}{E:L2.St→XK}{CX:j_}{k n:Nat}{f:Addr}{fd:FuncData}{ps:List Str}{mf:MF}{mr:M (List Slot)}{x:Str}{p pos:Pos}{e:Expr}{es:List Expr}
theorem um{sp:Sp}{pins:List (Addr×Obj)}{σ:L2.St}{H:Hp}{s:Shared}{Q:VK}{us:List Value}{vs:List V}(F:ľ X.prog X.w X.K X.mg X.base CX k f fd ps sp)(hr:ž k X.A)(hb:Binds X.K fd ps [])(hx:bV CX X E)
 (I:Inv X pins σ H s)(r:Vals vs us)(h:sp vs H Q (E σ)):wpAny (model X.prog X.w) X.A (call (.ref f) us) (EP X pins σ Q) X.xe s:=by
 have hl:(us ++ []).length=ps.length:=by rw[List.append_nil,←r.length];exact F.len _ _ _ _ h
 have hbd:=hb s us I.fB hl
 rw[List.append_nil] at hbd
 refine wpAny_call (codeAny_mono (F.run X.A X.stack s H ⟨us,[]⟩ us vs Q (E σ) hr I.env0 hbd r h) fun r s' hq=>?_)
 cases r with
 |error e=>exact hx pins σ H s e s' I hq
 |ok fl=>
  cases fl with
  |ret u=>exact I.after hq
  |next=>exact False.elim hq
  |brk=>exact False.elim hq
  |cont=>exact False.elim hq
theorem pF{c:Ctx}{F1 H1:Hp}{σ:L2.St}{ρ1:Ŋ}{Q:VK}{ps:List Slot}{vs:List V}(hlen:(∃r,mf ps=r∧∀z,r=z→z≠ .bad)→ps.length=n)(Ď:Rel (kk X cm) c F1 H1 σ ρ1)(r1:Paired (au (kk X cm) F1 H1) ps vs)
 (h:ŵ (kk X cm) E (rO (kk X cm)) c F1 H1 σ Q (match mf ps with| .ret r=>.ok r ρ1| .exc x=>.exc x ρ1| .bad=>.bad)):bU (kk X cm) n mf vs H1 Q (E σ):=by
 refine⟨F1,ps,?_,Ď.sub,r1,?_⟩
 ·refine hlen ⟨_,rfl,fun z hz hb=>?_⟩
  rw[hz,hb] at h
  exact h
 ·cases em:mf ps with
  |bad=>rw[em] at h;exact h
  |exc x=>rw[em] at h;exact fun C d F' H' g rx=>h C d F' H' (Ď.call g) g.f rx
  |ret r=>
   rw[em] at h
   intro v F' H' g rf
   refine h v F' H' (Ď.call g) g.f g.h ?_
   cases r with
   |sh p=>exact rf
   |ow qs=>
    obtain⟨a,vs',e1,e2,e3,e4,e5⟩:=rf
    exact⟨a,vs',e1,e2,e3,Ď.base.free e4,Ď.cN g.f (Ď.fresh e4),e5⟩
   |ot qs ts=>
    obtain⟨p,a,xs,vs',e1,e0,ex,e2,e3,e4,e5⟩:=rf
    exact⟨p,a,xs,vs',e1,e0,ex,e2,e3,Ď.base.free e4,Ď.cN g.f (Ď.fresh e4),e5⟩
theorem ĉ{n k:Nat}{mb:M Fl}{ps:List Slot}(h:∃r,ş n k mb ps=r∧∀z,r=z→z≠ .bad):ps.length=n:=by
 obtain⟨r,h1,h2⟩:=h
 unfold ş at h1
 by_cases hl:ps.length=n
 ·exact hl
 ·rw[if_neg hl] at h1
  exact absurd h1.symm (fun z=>h2 .bad (by rw[←h1]) rfl)
theorem Ĝ(F:ľ X.prog X.w X.K X.mg X.base CX k f fd ps (bU (kk X cm) n mf))(hlen:∀{ps:List Slot},(∃r,mf ps=r∧∀z,r=z→z≠ .bad)→ps.length=n)(hr:ž k X.A)(hg:Gl X x)(hm:X.mg x=some (.ref f))(hk:PySem.W.keepIn X.K (.ref f)=true)(hb:Binds X.K fd ps [])(hx:bV CX X E)
 (ha:PA X (e::es) (tA (kk X cm) E mr))(hdb:(x== ("__debug__" :Str))=false:=by decide)(he:starEach (e::es) X.env=(false,eval e X.env)::starEach es X.env:=by exact Ā rfl)(hpl:(backTo pos (starEach es X.env)).any (·.1)=false:=by rfl) :
 PE X (.Call (.Name x p) (e::es) [] pos) (tO (kk X cm) E (ĭ mf mr)):=by
 intro pins s σ H Q I h
 obtain⟨c,F,ρ,rel,h⟩:=h
 refine wpAny_Call_Name_kw (iJ I hg hm ?_ hdb)
 refine PySem.W.callWith_K (h₀:= X.base) I.ok.mod.UW hk (ś (ha pos pins s σ H (fun vs H1=>bU (kk X cm) n mf vs H1 Q (E σ)) I ⟨c,F,ρ,rel,h.bind fun ps' ρ1 vs F1 H1 Ď _ _ r1 h1=>pF hlen Ď r1 h1⟩) fun us s1 ⟨vs,H1,I1,r,q⟩=>⟨I1.fB,?_⟩) he hpl
 exact um (by assumption) hr hb hx I1 r q
end
def Ş(m:M PV):M (List PV):=fun ρ=>(m ρ).bind fun p ρ1=>match p with
 | .lst ps=>.ok ps ρ1
 | .tup ps=>.ok ps ρ1
 | .str z=>.ok (z.cps.toList.map fun c=>.str ⟨#[c]⟩) ρ1
 |_=>.bad
section
variable{X:Cx}{cm:String→Addr}{E:L2.St→XK}{tg:Expr}
def Yz(K:PySem.W.Frag)(tl:TE):TI:=fun σ H R=>tl σ H fun x H1=>(∃a,x=.ref a∧(∃xs,Ż K H1 a xs)∧R (Itl K a) H1)∨(∃a,x=.ref a∧(∃xs,cJ K H1 a xs)∧R (Itt K a) H1)∨∃z,x=.str z∧R (Its z) H1
theorem yj{l:Expr}{tl:TE}(hl:PE X l tl):PI X tg l (Yz X.K tl):=by
 intro pins s σ H R I h
 refine ś (hl pins s σ H _ I h) fun v s1 ⟨x,H1,I1,r1,q1⟩=>?_
 rcases q1 with⟨a,e,⟨xs,hq⟩,q⟩|⟨a,e,⟨xs,hq⟩,q⟩|⟨z,e,q⟩
 ·subst e
  cases r1
  obtain⟨its,rv,p,hz⟩:=I1.list hq
  refine wpAny_pyIter_list p.isList ?_
  refine⟨s1.heap.objs.size,[s1.heap.objs.size],_,_,H1,rfl,I1.kept (t':=s1.toks) fun b o e=>Heap.get?_push_of_some _ e,vo a _,⟨_,Heap.get?_push_size _ rfl,rfl,rfl⟩,fun b hb=>?_,q⟩
  have e:b=s1.heap.objs.size:=by simpa using hb
  subst e
  exact I1.Cp (Nat.le_refl _) (I1.hok.fresh (Nat.le_refl _))
 ·subst e
  cases r1
  obtain⟨its,rv,p,hz⟩:=I1.tuple hq
  refine wpAny_pyIter_tuple (show s1.heap.IsTuple a its.toArray from p) ?_
  refine⟨s1.heap.objs.size,[s1.heap.objs.size],_,_,H1,rfl,I1.kept (t':=s1.toks) fun b o e=>Heap.get?_push_of_some _ e,qF a _,⟨_,Heap.get?_push_size _ rfl,rfl,rfl⟩,fun b hb=>?_,q⟩
  have e:b=s1.heap.objs.size:=by simpa using hb
  subst e
  exact I1.Cp (Nat.le_refl _) (I1.hok.fresh (Nat.le_refl _))
 ·subst e
  obtain⟨t,rfl⟩:=r1
  have fin:∀ty,(∀A:Around,A.handled=none→Walks X.prog X.w A s1.heap.objs.size [s1.heap.objs.size] [s1.heap.objs.size] z.cps.size (SignAt z) (fun i h=>h.IsStrIter s1.heap.objs.size ty z t i))→
   (∀(A:Around) (i:Nat) (s:Shared) (Q:Value→Shared→Prop) (E:Value→Shared→Prop),s.heap.IsStrIter s1.heap.objs.size ty z t i→Q (.ref s1.heap.objs.size) s→wpAny (model X.prog X.w) A (pyIter (.ref s1.heap.objs.size)) Q E s)→
   (["enumerate","zip","dict_itemiterator","dict_reverseitemiterator","odict_iterator","itertools.zip_longest","itertools.pairwise"].contains ty=false)→
   PIE X pins σ tg R (.ref s1.heap.objs.size) {s1 with heap:=s1.heap.push {cls:=.type ty,data:=.fields #[.str z t,.int 0 0]}}:=fun ty hW hS hty=>by
   refine⟨s1.heap.objs.size,[s1.heap.objs.size],_,_,H1,rfl,I1.kept (t':=s1.toks) fun b o e=>Heap.get?_push_of_some _ e,vL _ z t ty hW hS hty,⟨_,Heap.get?_push_size _ rfl,rfl,rfl⟩,fun b hb=>?_,q⟩
   have e:b=s1.heap.objs.size:=by simpa using hb
   subst e
   exact I1.Cp (Nat.le_refl _) (I1.hok.fresh (Nat.le_refl _))
  cases ha:z.cps.all (·< 128) with
  |true=>exact wpAny_pyIter_ascii ha (fin _ (fun A hA=>Walks.strAscii hA _ z t) (fun A i s Q E st q=>wpAny_pyIter_striter_ascii st q) (by decide))
  |false=>exact wpAny_pyIter_wide ha (fin _ (fun A hA=>Walks.strWide hA _ z t) (fun A i s Q E st q=>wpAny_pyIter_striter_wide st q) (by decide))
theorem cT{l:Expr}{m:M PV}(hl:PE X l (tV (kk X cm) E m)):PI X tg l (tI (kk X cm) E (Ş m)):=fun pins s σ H R I h=>yj hl pins s σ H R I (by
 obtain⟨c,F,ρ,rel,h⟩:=h
 refine⟨c,F,ρ,rel,h.bind fun p ρ1 v F1 H1 Ď s1 s2 q h1=>?_⟩
 cases p with
 |lst ps=>
  have q':Rep (kk X cm) F1 (.lst ps) v:=q
  unfold Rep at q'
  obtain⟨a,vs,rfl,e1,e2⟩:=q'
  refine .inl ⟨a,rfl,⟨vs,Ď.sub.seq e1⟩,h1 _ F1 H1 Ď (Same.refl _) (Same.refl _) ?_⟩
  intro c' i F2 H2 σ2 ρ2 ı sF _
  have hq:Ż X.K H2 a vs:=(sF.trans ı.sub).seq e1
  refine⟨fun p hp=>?_,fun hi=>⟨vs,hq,by rw[hi,e2.length];exact Nat.le_refl _⟩⟩
  obtain⟨u,hu,ru⟩:=bR e2.pr hp
  refine⟨⟨vs,u,hq,hu⟩,fun x H' ⟨hH,hx⟩=>?_⟩
  subst hH
  have:vs[i]?=some x:=hx vs hq
  rw[hu] at this
  cases this
  exact⟨F2,ı,Same.refl _,Same.refl _,Rep.same sF p u ru⟩
 |tup ps=>
  have q':Rep (kk X cm) F1 (.tup ps) v:=q
  unfold Rep at q'
  obtain⟨a,vs,rfl,e1,e2⟩:=q'
  refine .inr (.inl ⟨a,rfl,⟨vs,Same.tup Ď.sub e1⟩,h1 _ F1 H1 Ď (Same.refl _) (Same.refl _) ?_⟩)
  intro c' i F2 H2 σ2 ρ2 ı sF _
  have hq:cJ X.K H2 a vs:=Same.tup (sF.trans ı.sub) e1
  refine⟨fun p hp=>?_,fun hi=>⟨vs,hq,by rw[hi,e2.length];exact Nat.le_refl _⟩⟩
  obtain⟨u,hu,ru⟩:=bR e2.pr hp
  refine⟨⟨vs,u,hq,hu⟩,fun x H' ⟨hH,hx⟩=>?_⟩
  subst hH
  have:vs[i]?=some x:=hx vs hq
  rw[hu] at this
  cases this
  exact⟨F2,ı,Same.refl _,Same.refl _,Rep.same sF p u ru⟩
 |str z=>
  have q':v=.str z:=by have q':Rep (kk X cm) F1 (.str z) v:=q;unfold Rep at q';exact q'
  subst q'
  refine .inr (.inr ⟨z,rfl,h1 _ F1 H1 Ď (Same.refl _) (Same.refl _) ?_⟩)
  intro c' i F2 H2 σ2 ρ2 ı sF _
  refine⟨fun p hp=>?_,fun hi=>by rw[hi,List.length_map];show _=_;simp⟩
  rw[List.getElem?_map] at hp
  cases ez:z.cps.toList[i]? with
  |none=>rw[ez] at hp;cases hp
  |some cc=>
   rw[ez] at hp
   cases hp
   refine⟨by have:=(List.getElem?_eq_some_iff.mp ez).1;show i<z.cps.size;simpa using this,fun x H' ⟨hH,c2,hc,hx⟩=>?_⟩
   subst hH hx
   rw[ez] at hc
   cases hc
   exact⟨F2,ı,Same.refl _,Same.refl _,Rep.str⟩
 |_=>exact h1.elim)
def bW(i:Nat):M (List PV):=fun ρ=>match ρ[i]? with
 |some (.bw ps)=>.ok ps ρ
 |some (.sh (.lst ps))=>.ok ps ρ
 |some (.sh (.tup ps))=>.ok ps ρ
 |some (.sh (.str z))=>.ok (z.cps.toList.map fun c=>.str ⟨#[c]⟩) ρ
 |some (.ow ps)=>.ok ps (ρ.set i (.sh (.lst ps)))
 |_=>.bad
theorem jk(i:Nat){x:Str}{px:Pos}(hN:X.N[i]?=some x:=by rfl)(hv:BW X.env.scope x:=by first|exact Or.inl rfl|exact Or.inr (Or.inl rfl)|exact Or.inr (Or.inr rfl))(hd:(x== ("__debug__" :Str))=false:=by decide)
 (hcd:(x== ("__classdict__" :Str))=false:=by decide):PI X tg (.Name x px) (tI (kk X cm) E (bW i)):=fun pins s σ H R I h=>by
 obtain⟨c,F,ρ,rel,h⟩:=h
 cases e:ρ[i]? with
 |none=>unfold bW at h;rw[e] at h;exact h.elim
 |some sl=>
  have Ds:ŵ (kk X cm) E (rIt (kk X cm)) c F H σ R (Ş (Ĕ i) ρ)→wpAny (model X.prog X.w) X.A (eval (.Name x px) X.env) (fun v s1=>wpAny (model X.prog X.w) X.A (pyIter v) (PIE X pins σ tg R) X.xe s1) X.xe s:=fun h'=>
   cT (v_var i hN hv hd hcd) pins s σ H R I ⟨c,F,ρ,rel,h'⟩
  unfold bW at h
  rw[e] at h
  cases sl with
  |no=>exact h.elim
  |rc C ns ps=>exact h.elim
  |ot ps qs=>exact h.elim
  |ol Ů=>exact h.elim
  |ow ps=>exact Ds (by unfold Ş Ĕ;rw[e];exact h)
  |sh p=>
   cases p with
   |lst ps=>exact Ds (by unfold Ş Ĕ;rw[e];exact h)
   |tup ps=>exact Ds (by unfold Ş Ĕ;rw[e];exact h)
   |str z=>exact Ds (by unfold Ş Ĕ;rw[e];exact h)
   |_=>exact h.elim
  |bw ps=>
   obtain⟨a,vs,h1,h2,h3⟩:=rel.slot i _ e
   refine yj (eN hN hv hd hcd) pins s σ H R I ⟨.ref a,at_of h1,.inl ⟨a,rfl,⟨vs,Ż.of (rel.lent a _ h2).1⟩,h _ F H rel (Same.refl _) (Same.refl _) ?_⟩⟩
   intro c' j F2 H2 σ2 ρ2 ı sF sL
   have hq:Ż X.K H2 a vs:=Ż.of (sL a _ h2)
   refine⟨fun p hp=>?_,fun hi=>⟨vs,hq,by rw[hi,h3.length];exact Nat.le_refl _⟩⟩
   obtain⟨u,hu,ru⟩:=bR h3.pr hp
   refine⟨⟨vs,u,hq,hu⟩,fun x H' ⟨hH,hx⟩=>?_⟩
   subst hH
   have:vs[j]?=some x:=hx vs hq
   rw[hu] at this
   cases this
   exact⟨F2,ı,Same.refl _,Same.refl _,Rep.same sF p u ru⟩
def eX(lo:Int)(n:Nat)(c:Int):List PV:=(List.range n).map fun(i:Nat)=>.int (lo+i*c)
def nJ(i:Int):Bool:=decide (i.natAbs<1152921504606846976)
def jl:List PV→Option (List PV)
 | [.int j]=>if nJ j=true then some (eX 0 j.toNat 1) else none
 |_=>none
def nM(f:List PV→Option (List PV))(mr:M (List PV)):M (List PV):=fun ρ=>(mr ρ).bind fun ps ρ1=>Res.iV (f ps) ρ1
theorem rz{lo c:Int}{n i:Nat}{p:PV}(h:(eX lo n c)[i]?=some p):i<n∧p=.int (lo+i*c):=by
 unfold eX at h
 by_cases hn:i<n
 ·rw[List.getElem?_map,List.getElem?_range hn] at h
  exact⟨hn,(Option.some.inj h).symm⟩
 ·rw[List.getElem?_eq_none (by simpa using hn)] at h
  cases h
theorem rC{lo c:Int}{n:Nat}:(eX lo n c).length=n:=by simp[eX]
theorem I_{K:KK}{Lh F:Hp}(lo:Int)(n:Nat):NZ K Lh F (Vc lo n) (eX lo n 1):=fun c i F2 H σ ρ rel sF _=>
 ⟨fun p hp=>by
   obtain⟨h1,rfl⟩:=rz hp
   refine⟨h1,fun x H' ⟨e1,e2⟩=>?_⟩
   subst e1 e2
   exact⟨F2,rel,Same.refl _,Same.refl _,by rw[Int.mul_one];exact Rep.int⟩,fun hi=>by rw[rC] at hi;subst hi;exact Nat.le_refl _⟩
theorem vQ{i:Int}(h:nJ i=true): -(2 ^ 60)≤i∧i<2 ^ 60:=by
 unfold nJ at h
 rw[decide_eq_true_eq] at h
 omega
variable{a b d:Expr}{p pos:Pos}{mr:M (List PV)}
theorem yq{K:KK}{F:Hp}{ps:List PV}{vs:List V}(h:Đ K F ps vs):(∀i r,ps=.int i::r→∃r',vs=.int i::r'∧Đ K F r r')∧(ps=[]→vs=[]):=by
 refine⟨fun i r e=>?_,fun e=>?_⟩
 ·subst e
  unfold Đ at h
  obtain⟨x,r',h1,h2,h3⟩:=h
  unfold Rep at h2
  exact⟨r',by rw[h1,h2],h3⟩
 ·subst e
  unfold Đ at h
  exact h
theorem pG(hg:Gl X "range")(hm:X.mg "range" =none)(ha:PA X [a] (tL (kk X cm) E mr))(hs:starEach [a] X.env=[(false,eval a X.env)]:=by exact Ā rfl):PI X tg (.Call (.Name "range" p) [a] [] pos) (tI (kk X cm) E (nM jl mr)):=
 fun pins s σ H R I h=>vp hg hm ha hs pins s σ H R I (by
  obtain⟨c,F,ρ,rel,h⟩:=h
  refine⟨c,F,ρ,rel,h.bind fun ps ρ1 vs F1 H1 Ď s1 s2 q h1=>?_⟩
  have q':Đ (kk X cm) F1 ps vs:=q
  unfold jl at h1
  split at h1
  ·rename_i j
   split at h1
   ·rename_i hj
    obtain⟨r',e1,e2⟩:=(yq q').1 _ _ rfl
    cases(yq e2).2 rfl
    obtain⟨k1,k2⟩:=vQ hj
    exact⟨j,e1,by omega,by omega,h1 _ F1 H1 Ď (Same.refl _) (Same.refl _) (I_ 0 j.toNat)⟩
   ·exact h1.elim
  ·exact h1.elim)
end
def rD:Slot→Slot
 | .sh p=>.sh p
 | .ow ps=>.bw ps
 | .bw ps=>.bw ps
 |_=>.no
def jm(js:List Nat)(nl:Nat)(ρ:Ŋ):Ŋ:=js.map (fun(j:Nat)=>rD ((ρ[j]?).getD .no))++List.replicate nl .no
def Ŗ(g:Tg)(mt:M Bool)(me:M PV):List PV→Ŋ→List PV→Option (List PV)
 | [],_,acc=>some acc
 |p::ps,ρ,acc=>match g p ρ with
  |none=>none
  |some ρ1=>match mt ρ1 with
   | .ok true ρ2=>match me ρ2 with
     | .ok q ρ3=>if acc.length<16777216 then Ŗ g mt me ps ρ3 (acc ++ [q]) else none
     |_=>none
   | .ok false ρ2=>Ŗ g mt me ps ρ2 acc
   |_=>none
def aj(js:List Nat)(nl:Nat)(mi:M (List PV))(g:Tg)(mt:M Bool)(me:M PV):M RV:=fun ρ=>(mi ρ).bind fun items ρ1=>match Ŗ g mt me items (jm js nl ρ1) [] with
 |some ps=>.ok (.ow ps) ρ1
 |none=>.bad
abbrev EF:L2.St→XK:=fun _ _ _ _=>False
def aH:M Bool:=fun ρ=>.ok true ρ
section
variable{K:KK}{c:Ctx}{F H:Hp}{σ:L2.St}{ρ:Ŋ}
def cU(F H H1:Hp):Ctx:=⟨H1,F,(ctx0 F H).L,fun _ _ _=>True⟩
theorem Rel.cap(js:List Nat)(nl:Nat)(rel:Rel K c F H σ ρ){D:Addr}{o:HO}(hD:H D=none):Rel K (cU F H (upd H D o)) F (upd H D o) (cM js nl σ) (jm js nl ρ) where
 sub:=rel.sub.trans (Same.upd hD)
 base:=Same.refl _
 f0:=Same.refl _
 ao:=fun _ _ z=>z
 lent:=fun a u e=>⟨Same.upd hD a u (bT e).1,(bT e).2⟩
 lb:=fun a e=>by
   cases q:(cU F H (upd H D o)).L a with
   |none=>rfl
   |some u=>
    have e':upd H D o a=none:=e
    rw[Same.upd hD a u (bT q).1] at e'
    cases e'
 len:=by simp[cM,jm]
 slot:= fun i s e=>by
  unfold jm at e
  by_cases hi:i<js.length
  ·rw[List.getElem?_append_left (by simpa using hi),List.getElem?_map] at e
   cases ej:js[i]? with
   |none=>rw[ej] at e;cases e
   |some j=>
    rw[ej] at e
    have e':rD ((ρ[j]?).getD .no)=s:=Option.some.inj e
    subst e'
    have hx:((cM js nl σ)[i]?).getD none=(σ[j]?).getD none:=by
     unfold cM
     rw[List.getElem?_append_left (by simpa using hi),List.getElem?_map,ej]
     rfl
    rw[hx]
    cases er:ρ[j]? with
    |none=>trivial
    |some sl=>
     have q:=rel.slot j sl er
     cases sl with
     |no=>trivial
     |sh p=>exact q
     |ow ps=>
      obtain⟨a,vs,h1,h2,h3,h4,h5⟩:=q
      refine⟨a,vs,h1,?_,h5⟩
      show(match F a with|none=>H a|some _=>none)=_
      rw[h3]
      exact h2
     |bw ps=>
      obtain⟨a,vs,h1,h2,h3⟩:=q
      obtain⟨l1,l2⟩:=rel.lent a _ h2
      refine⟨a,vs,h1,?_,h3⟩
      show(match F a with|none=>H a|some _=>none)=_
      rw[l2]
      exact l1
     |rc C ns ps=>trivial
     |ot ps qs=>trivial
     |ol Ů=>trivial
  ·rw[List.getElem?_append_right (by simpa using hi),List.getElem?_replicate] at e
   split at e
   ·cases e;trivial
   ·cases e
 sep:=fun i j a h1 _=>by
  exfalso
  obtain⟨s,y,h1,_,h2⟩:=h1
  have h2:=jh h2
  unfold jm at h1
  by_cases hi:i<js.length
  ·rw[List.getElem?_append_left (by simpa using hi),List.getElem?_map] at h1
   cases ej:js[i]? with
   |none=>rw[ej] at h1;cases h1
   |some j=>
    rw[ej] at h1
    have e':rD ((ρ[j]?).getD .no)=s:=Option.some.inj h1
    subst e'
    cases q:(ρ[j]?).getD .no<;>rw[q] at h2<;>cases h2
  ·rw[List.getElem?_append_right (by simpa using hi),List.getElem?_replicate] at h1
   split at h1
   ·cases h1;cases h2
   ·cases h1
theorem Rel.rebase{H1 F1:Hp}{D:Addr}{ys zs:List V}(hD:H1 D=none)(hF:F1 D=none)(rel:Rel K (cU F1 H1 (upd H1 D (.lst ys))) F H σ ρ):Rel K (cU F1 H1 (upd H1 D (.lst zs))) F (upd H D (.lst zs)) σ ρ:= by
 have fD:F D=none:=rel.ao D (by show upd H1 D _ D≠none;rw[ď];intro z;cases z) hF
 have lD:∀b u,(cU F1 H1 (upd H1 D (.lst ys))).L b=some u→b≠D:=fun b u e z=>by
  have q:=(bT (F:=F1) (H:=H1) (a:=b) (u:=u) e).1
  rw[z,hD] at q
  cases q
 have ne:∀b,(cU F1 H1 (upd H1 D (.lst ys))).B b=none→b≠D:=fun b z q=>by
  subst q
  have z':upd H1 b (.lst ys) b=none:=z
  rw[ď] at z';cases z'
 have back:∀b,b≠D→(cU F1 H1 (upd H1 D (.lst ys))).B b=none→(cU F1 H1 (upd H1 D (.lst zs))).B b=none:=fun b hb z=>by
  have z':upd H1 D (.lst ys) b=none:=z
  show upd H1 D (.lst zs) b=none
  rw[č hb] at z' ⊢;exact z'
 refine⟨fun b u e=>?_,fun b u e=>?_,rel.f0,fun b h1 h2=>?_,fun b u e=>?_,fun b e=>?_,rel.len,fun i s e=>?_,rel.sep⟩
 ·have hb:b≠D:=fun z=>by rw[z,fD] at e;cases e
  rw[č hb];exact rel.sub b u e
 ·by_cases hb:b=D
  ·subst hb
   have e':upd H1 b (.lst zs) b=some u:=e
   rw[ď] at e' ⊢;exact e'
  ·have e':upd H1 D (.lst zs) b=some u:=e
   rw[č hb] at e' ⊢
   exact rel.base b u (by show upd H1 D _ b=some u;rw[č hb];exact e')
 ·refine rel.ao b (fun z=>h1 ?_) h2
  exact back b (ne b z) z
 ·rw[č (lD b u e)]
  exact rel.lent b u e
 ·refine rel.lb b ?_
  have z':upd H1 D (.lst zs) b=none:=e
  have hb:b≠D:=fun q=>by rw[q,ď] at z';cases z'
  show upd H1 D (.lst ys) b=none
  rw[č hb] at z' ⊢;exact z'
 ·have q:=rel.slot i s e
  cases s with
  |no=>trivial
  |sh p=>exact q
  |bw ps=>exact q
  |ow ps=>
   obtain⟨a,vs,q1,q2,q3,q4,q5⟩:=q
   have hb:=ne a q4
   exact⟨a,vs,q1,by rw[č hb];exact q2,q3,back a hb q4,q5⟩
  |rc C ns ps=>
   obtain⟨a,dx,fs,q1,q2,q3,q4,q5⟩:=q
   have hb:=ne a q4
   exact⟨a,dx,fs,q1,by rw[č hb];exact q2,q3,back a hb q4,q5⟩
  |ot ps qs=>
   obtain⟨p,a,xs,vs,q1,q0,qx,q2,q3,q4,q5⟩:=q
   have hb:=ne a q4
   exact⟨p,a,xs,vs,q1,q0,qx,by rw[č hb];exact q2,q3,back a hb q4,q5⟩
  |ol Ů=>
   obtain⟨p,as,q1,q0,qn,qp⟩:=q
   refine⟨p,as,q1,q0,qn,dX qp fun a ps _ ⟨vs,q2,q3,q4,q5⟩=>?_⟩
   have hb:=ne a q4
   exact⟨vs,by rw[č hb];exact q2,q3,back a hb q4,q5⟩
end
section
variable{X:Cx}{cm:String→Addr}{E:L2.St→XK}{elt tg iter:Expr}{ifs:List Expr}{scope:Scope}{pos:Pos}{mi:M (List PV)}{g:Tg}{mt:M Bool}{me:M PV}
theorem ű:Il X [] (tB (kk X cm) E aH):=fun pins s σ H Q I h=>C_ pins s σ H Q I (by
 obtain⟨c,F,ρ,rel,h⟩:=h
 exact h true F H rel (Same.refl _) (Same.refl _) rfl)
theorem pH{js:List Nat}{nl:Nat}{σ:L2.St}{H:Hp}{Q:VK}(h:tO (kk X cm) E (aj js nl mi g mt me) σ H Q):tQ js nl (tI (kk X cm) E mi) (tT (kk X cm) g) (tB (kk X cm) EF mt) (tV (kk X cm) EF me) σ H Q:=by
 obtain⟨c,F,ρ,rel,h⟩:=h
 refine⟨c,F,ρ,rel,h.bind fun items ρ1 J F1 H1 Ď s1 s2 ito h1=>?_⟩
 intro D hD
 have hF:F1 D=none:=Ď.sub.free hD
 cases ec:Ŗ g mt me items (jm js nl ρ1) [] with
 |none=>rw[ec] at h1;exact h1.elim
 |some res=>
  rw[ec] at h1
  refine⟨fun i m σ' H'=>∃F' ρ' ys acc,i≤items.length∧m=items.length-i∧Rel (kk X cm) (cU F1 H1 (upd H1 D (.lst ys))) F' H' σ' ρ'∧Đ (kk X cm) F' acc ys∧Ŗ g mt me (items.drop i) ρ' acc=some res,
   ⟨_,F1,_,[],[],Nat.zero_le _,rfl,?_,Đ.nil,ec⟩,?_⟩
  ·exact Ď.cap js nl hD
  ·rintro i m σ2 H2 ⟨F2,ρ2,ys,acc,hle,rfl,ı,ra,h2⟩
   have s12:Same F1 F2:=ı.f0
   have yr:∀{b:Addr} {u:HO},c.L b=some u→(cU F1 H1 (upd H1 D (.lst ys))).L b=some u:=fun{b u} e=>by
    obtain⟨l1,l2⟩:=Ď.lent b u e
    show(match F1 b with|none=>H1 b|some _=>none)=some u
    rw[l2]
    exact l1
   obtain⟨go,stop⟩:=ito _ i F2 H2 σ2 ρ2 ı s12 fun b u e=>(ı.lent b u (yr e)).1
   have hH2:H2 D=some (.lst ys):=ı.base D _ (show upd H1 D _ D=_ from ď)
   have fD:F2 D=none:=ı.ao D (by show upd H1 D _ D≠none;rw[ď];intro z;cases z) hF
   by_cases hlt:i<items.length
   ·obtain⟨g1,g2⟩:=go items[i] (List.getElem?_eq_getElem hlt)
    rw[List.drop_eq_getElem_cons hlt] at h2
    unfold Ŗ at h2
    refine .inr ⟨g1,_,fun σ' H' z=>z,fun x H3 hy=>?_⟩
    obtain⟨F3,nH,s3,YB,rp⟩:=g2 x H3 hy
    refine⟨_,F3,ρ2,items[i],nH,rp,?_⟩
    cases eg:g items[i] ρ2 with
    |none=>rw[eg] at h2;cases h2
    |some ρ3=>
     rw[eg] at h2
     dsimp only at h2
     intro σ4 qZ
     refine⟨_,F3,ρ3,qZ,?_⟩
     cases em:mt ρ3 with
     |bad=>rw[em] at h2;cases h2
     |exc x ρ4=>rw[em] at h2;cases h2
     |ok b ρ4=>
      rw[em] at h2
      intro b' F5 H5 yt s5 s5' eb
      have eb':b=b':=eb
      subst eb'
      cases b with
      |false=>
       rw[if_neg Bool.false_ne_true]
       dsimp only at h2
       exact⟨items.length-(i+1),by omega,F5,ρ4,ys,acc,hlt,rfl,yt,Đ.same (s3.trans s5) acc ys ra,h2⟩
      |true=>
       rw[if_pos rfl]
       dsimp only at h2
       refine⟨_,F5,ρ4,yt,?_⟩
       cases ee:me ρ4 with
       |bad=>rw[ee] at h2;cases h2
       |exc x ρ5=>rw[ee] at h2;cases h2
       |ok q ρ5=>
        rw[ee] at h2
        dsimp only at h2
        intro y F6 H6 yu s6 s6' rq
        split at h2
        ·rename_i hz
         have ra6:=Đ.same ((s3.trans s5).trans s6) acc ys ra
         refine⟨ys,yu.base D _ (show upd H1 D _ D=_ from ď),by rw[←ra6.length,Ĺ];exact hz,?_⟩
         exact⟨items.length-(i+1),by omega,F6,ρ5,ys ++ [y],acc ++ [q],hlt,rfl,yu.rebase hD hF,Đ.append ra6 (Đ.cons rq Đ.nil),h2⟩
        ·cases h2
   ·have e:i=items.length:=by omega
    refine .inl ⟨stop e,?_⟩
    rw[List.drop_eq_nil_of_le (by omega)] at h2
    unfold Ŗ at h2
    cases h2
    have gr:Gr F1 H1 F2 H2:=⟨fun b u e=>ı.base b u (by show upd H1 D _ b=_;rw[č (ĵ e hD)];exact e),s12,ı.sub,fun b hb hf=>ı.ao b (by
     show upd H1 D _ b≠none
     by_cases hbD:b=D
     ·rw[hbD,ď];intro z;cases z
     ·rw[č hbD];exact hb) hf⟩
    have Ja:=Ď.call gr
    exact h1 _ F2 H2 Ja s12 gr.h ⟨D,ys,rfl,hH2,fD,Ď.base.free hD,Ď.cN gr.f (Ď.fresh hD),ra⟩
theorem aO(N':List Str)(js:List Nat)(nl:Nat)(sc:Scope)(hsc:X.env.scope=sc)(hcalm:X.calm=true)
 (hi:PI X.Ŝ tg iter (tI (kk X cm) E mi))(hg:∀cl C s H fp,PG (cH X.Ŝ N' scope cl C s H fp) tg (tT (kk X cm) g))(ht:∀cl C s H fp,Il (cH X.Ŝ N' scope cl C s H fp) ifs (tB (kk X cm) EF mt))(he:∀cl C s H fp,PE (cH X.Ŝ N' scope cl C s H fp) elt (tV (kk X cm) EF me))
 (hcap:gU X.Ŝ sc scope N' js)(hlen:js.length+nl=N'.length:=by rfl)
 (hk:scope.kind=.function:=by rfl)(hcell:∀y∈scope.names,y.2=.cell→scope.names.lookup y.1=some .cell:=by decide +kernel)(hnames:∀y∈scope.names,y.2=.local→scope.names.lookup y.1=some .local:=by decide +kernel)
 (hfree:∀y∈scope.names,y.2=.free→(sc.names.lookup y.1=some .cell∨sc.names.lookup y.1=some .free):=by decide +kernel)
 (hs:∀x,foldedSetIterable iter X.env x=pure x:=by intro _;rfl) :
 PE X (.ListComp elt [⟨tg,iter,ifs,0⟩] scope pos) (tO (kk X cm) E (aj js nl mi g mt me)):=
 PE.wk (PE.Ŝ (Dc N' js nl sc hsc hcalm hi hg ht he hcap hlen hk hcell hnames hfree hs)) fun _ _ _ h=>pH h
end
end P
namespace P
open PySem PySem.Spec PyProof.Rows L2 M2 M3 M4
abbrev bits(x:Int):Nat:=Builtin.Int.intBits x
section
variable{X:Cx}{cm:String→Addr}{K:KK}
def Fy(K:PySem.W.Frag):R2:=fun x y H Q=>∃l b xs zs,x=.ref l∧y=.ref b∧Ż K H l xs∧Ż K H b zs∧xs.length+zs.length≤sizeLine∧∀p,H p=none→Q (.ref p) (upd H p (.lst (xs++zs)))
theorem Dt:aq X (binaryOp .Add) (Fy X.K):=by
 intro pins s σ H x y v u Q I rx ry h
 obtain⟨l,b,xs,zs,rfl,rfl,hH,hB,hz,q⟩:=h
 cases rx
 cases ry
 obtain⟨its,r,pl,z⟩:=I.list hH
 obtain⟨its2,r2,YC,z2⟩:=I.list hB
 obtain⟨⟨c1,d1,t1,N_⟩,n,e,hc,hd,hs⟩:=pl
 obtain⟨⟨c2,d2,t2,sl2⟩,n2,e2,hc2,hd2,hs2⟩:=YC
 simp only at hc hd hs hc2 hd2 hs2
 subst hc hd hs hc2 hd2 hs2
 have hl:=r.length
 have hl2:=r2.length
 have ea:its.toArray++its2.toArray=(its++its2).toArray:=by simp
 refine concat_meets ⟨_,e,rfl⟩ ⟨_,e2,rfl⟩ noFill_list_add seq_list_add PySem.F.slot_list_add PySem.F.entry_list_add (PySem.F.args_list_add_2 _ _) (list_addW l b its.toArray its2.toArray n n2 none none N_ sl2 (by simp only[List.size_toArray];omega)) ⟨e,e2,?_⟩
 rw[ea]
 exact⟨.ref _,_,I.Ye (t':=s.toks) (r.append r2) (by rw[List.length_append];omega),rfl,q _ I.fresh⟩
def Fz(K:PySem.W.Frag):R2:=fun x y H Q=>∃l b xs zs,x=.ref l∧y=.ref b∧cJ K H l xs∧cJ K H b zs∧xs≠[]∧zs≠[]∧xs.length+zs.length≤sizeLine∧∀p,H p=none→Q (.ref p) (upd H p (.tup (xs++zs)))
theorem Du:aq X (binaryOp .Add) (Fz X.K):=by
 intro pins s σ H x y v u Q I rx ry h
 obtain⟨l,b,xs,zs,rfl,rfl,hH,hB,nx,nz,hz,q⟩:=h
 cases rx
 cases ry
 obtain⟨its,r,pl,z⟩:=I.tuple hH
 obtain⟨its2,r2,YC,z2⟩:=I.tuple hB
 obtain⟨⟨c1,d1,t1,N_⟩,e,hc,n,hd⟩:=pl
 obtain⟨⟨c2,d2,t2,sl2⟩,e2,hc2,n2,hd2⟩:=YC
 simp only at hc hd hc2 hd2
 subst hc hd hc2 hd2
 have hl:=r.length
 have hl2:=r2.length
 have ne1:its≠[]:=fun z=>by rw[z] at hl;exact nx (List.length_eq_zero_iff.mp hl)
 have ne2:its2≠[]:=fun z=>by rw[z] at hl2;exact nz (List.length_eq_zero_iff.mp hl2)
 have ea:its.toArray++its2.toArray=(its++its2).toArray:=by simp
 refine concat_meets ⟨_,e,rfl⟩ ⟨_,e2,rfl⟩ noFill_tuple_add seq_tuple_add PySem.F.slot_tuple_add PySem.F.entry_tuple_add (PySem.F.args_tuple_add_2 _ _) (tuple_addW2 l b its.toArray its2.toArray n n2 d1 d2 N_ sl2 (by simpa using ne1) (by simpa using ne2) (by simp only[List.size_toArray];omega)) ⟨e,e2,?_⟩
 rw[ea]
 exact⟨.ref _,_,I.laid (o:=.tup (xs++zs)) (t':=s.toks) (fun _ _ q=>Heap.get?_push_of_some _ q) (Nat.le_refl _) ⟨by rw[List.length_append];omega,(its++its2),r.append r2,⟨_,Heap.get?_push_size _ rfl,rfl,_,rfl⟩⟩,rfl,q _ I.fresh⟩
def ķ:PV→PV→Option RV
 | .int i,.int j=>some (.sh (.int (i+j)))
 | .str i,.str j=>if i.length+j.length≤16777216 then some (.sh (.str (i++j))) else none
 | .lst ps,.lst qs=>if ps.length+qs.length≤16777216 then some (.ow (ps++qs)) else none
 | .tup (p::ps),.tup (q::qs)=>if(p::ps).length+(q::qs).length≤16777216 then some (.sh (.tup ((p::ps)++(q::qs)))) else none
 |_,_=>none
def FJ(K:PySem.W.Frag):R2:=fun x y H Q=>Ni x y H Q∨(Fy K x y H Q∨Fz K x y H Q)
theorem Ļ:aq X (binaryOp .Add) (FJ X.K):=Ih.or (Dt.or Du)
theorem ļ:Yu K (FJ K.K) ķ:=by
 intro c F H σ ρ p q pv v u Q rel r1 r2 e k
 unfold ķ at e
 split at e
 ·cases e
  cases r1.int
  cases r2.int
  exact .inl (k _ F H rel (Same.refl _) (Same.refl _) (Rep.int (K:=K) (F:=F)))
 ·split at e
  ·rename_i hz
   cases e
   cases r1.str
   cases r2.str
   exact .inl ⟨by rw[Ĺ];exact hz,k _ F H rel (Same.refl _) (Same.refl _) (Rep.str (K:=K) (F:=F))⟩
  ·cases e
 ·split at e
  ·rename_i hz
   cases e
   obtain⟨a,xs,rfl,h1,h2⟩:=r1.lst rel.sub
   obtain⟨b,ys,rfl,h3,h4⟩:=r2.lst rel.sub
   refine .inr (.inl ⟨a,b,xs,ys,rfl,rfl,h1,h3,by rw[←h2.length,←h4.length,Ĺ];exact hz,fun d hd=>?_⟩)
   obtain⟨q1,q2⟩:=cP rel hd (Đ.append h2 h4)
   exact k _ F _ q1 (Same.refl _) (Same.upd hd) q2
  ·cases e
 ·split at e
  ·rename_i hz
   cases e
   obtain⟨a,xs,rfl,h1,h2⟩:=r1.tup rel.sub
   obtain⟨b,ys,rfl,h3,h4⟩:=r2.tup rel.sub
   have l1:=h2.length
   have l2:=h4.length
   refine .inr (.inr ⟨a,b,xs,ys,rfl,rfl,h1,h3,(fun z=>by rw[z] at l1;cases l1),(fun z=>by rw[z] at l2;cases l2),by rw[←l1,←l2,Ĺ];exact hz,fun l hl=>k _ _ _ (rel.alloc hl) (Same.upd (rel.sub.free hl)) (Same.upd hl) ?_⟩)
   show Rep K _ _ _
   unfold Rep
   exact⟨l,xs++ys,rfl,cJ.of ď,Đ.same (Same.upd (rel.sub.free hl)) _ _ (Đ.append h2 h4)⟩
  ·cases e
 ·cases e
def vA(g:Int→Int→Int):PV→PV→Option PV
 | .int i,.int j=>some (.int (g i j))
 |_,_=>none
def wB(C:Int→Int→Bool)(g:Int→Int→Int):PV→PV→Option PV
 | .int i,.int j=>if C i j=true then some (.int (g i j)) else none
 |_,_=>none
def LC(g:Int→Int→Bool):PV→PV→Option PV
 | .int i,.int j=>some (.bl (g i j))
 |_,_=>none
theorem Oa{g:Int→Int→Int}:kj K (CT fun i j=>.int (g i j)) (vA g):=by
 intro c F H σ ρ p q pv v u Q rel r1 r2 e k
 unfold vA at e
 split at e
 ·cases e
  cases r1.int
  cases r2.int
  exact k _ F H rel (Same.refl _) (Same.refl _) Rep.int
 ·cases e
theorem Ob{g:Int→Int→Bool}:kj K (CT fun i j=>.bl (g i j)) (LC g):=by
 intro c F H σ ρ p q pv v u Q rel r1 r2 e k
 unfold LC at e
 split at e
 ·cases e
  cases r1.int
  cases r2.int
  exact k _ F H rel (Same.refl _) (Same.refl _) Rep.bl
 ·cases e
theorem Jb{C:Int→Int→Bool}{C':Int→Int→Prop}{g:Int→Int→Int}(hC:∀i j,C i j=true→C' i j):kj K (mI C' fun i j=>.int (g i j)) (wB C g):=by
 intro c F H σ ρ p q pv v u Q rel r1 r2 e k
 unfold wB at e
 split at e
 ·split at e
  ·rename_i hc
   cases e
   cases r1.int
   cases r2.int
   exact⟨hC _ _ hc,k _ F H rel (Same.refl _) (Same.refl _) Rep.int⟩
  ·cases e
 ·cases e
def bC:=vA fun i j=>i-j
theorem aP:kj K (CT fun i j=>.int (i-j)) bC:=Oa
def jo(_ j:Int):Bool:=decide (j≠0) && decide (bits j≤8000)
def eE:=wB jo fun i j=>i.fdiv j
theorem cV:kj K (mI vK fun i j=>.int (i.fdiv j)) eE:=Jb fun i j h=>by unfold jo at h;simpa[vK] using h
def uo(_ j:Int):Bool:=decide (j≠0)
def Ŷ:=wB uo fun i j=>i.fmod j
theorem ť:kj K (mI (fun _ j=>j≠0) fun i j=>.int (i.fmod j)) Ŷ:=Jb fun i j h=>by unfold uo at h;simpa using h
def gZ(i j:Int):Bool:=decide (0≤j) && decide (j.natAbs≤1000000) && decide (i.natAbs<18446744073709551616)
def cW:=wB gZ fun i j=>i ^ j.toNat
theorem bY:kj K (mI Ht fun i j=>.int (i ^ j.toNat)) cW:=Jb fun i j h=>by
 unfold gZ at h
 simp only[Bool.and_eq_true,decide_eq_true_eq] at h
 exact⟨h.1.1,by omega,by have:=h.2;simpa using this⟩
def FP(i j:Int):Bool:=decide (0≤j) && decide (j.natAbs≤1000000) && decide (i.natAbs<18446744073709551616)
def Oc:=wB FP fun i j=>i*2 ^ j.toNat
def FQ(_ j:Int):Bool:=decide (0≤j)
def Od:=wB FQ fun i j=>i / 2 ^ j.toNat
def yw:=LC fun i j=>decide (i<j)
def pI:=LC fun i j=>decide (i≤j)
def YD:=LC fun i j=>decide (j<i)
def YF:=LC fun i j=>decide (j≤i)
theorem yx:kj K (CT fun i j=>.bl (decide (i<j))) yw:=Ob
theorem lQ:kj K (CT fun i j=>.bl (decide (i≤j))) pI:=Ob
def aX(i j:Int):Bool:=decide (i.natAbs<18446744073709551616) || decide (j.natAbs<18446744073709551616) || (decide (bits i≤1048576) && decide (bits j≤1048576))
theorem yC{i j:Int}(h:aX i j=true):lK i j:=by
 unfold aX at h
 simp only[Bool.or_eq_true,Bool.and_eq_true,decide_eq_true_eq] at h
 rcases h with(h|h)|h
 ·exact .inl (.inl ⟨by omega,by omega⟩)
 ·exact .inl (.inr ⟨by omega,by omega⟩)
 ·exact .inr h
def Ź:PV→PV→Option PV
 | .int i,.int j=>if aX i j=true then some (.int (i*j)) else none
 | .str z,.int n=>if 0≤n∧n≤1000∧z.length≤1000 then some (.str (S (List.replicate n.toNat z.cps.toList).flatten)) else none
 |_,_=>none
theorem bf:kj K xT Ź:=by
 intro c F H σ ρ p q pv v u Q rel r1 r2 e k
 unfold Ź at e
 split at e
 ·split at e
  ·rename_i hc
   cases e
   cases r1.int
   cases r2.int
   exact⟨yC hc,k _ F H rel (Same.refl _) (Same.refl _) Rep.int⟩
  ·cases e
 ·split at e
  ·rename_i hc
   cases e
   cases r1.str
   cases r2.int
   exact⟨hc,k _ F H rel (Same.refl _) (Same.refl _) Rep.str⟩
  ·cases e
 ·cases e
def Oe(mr:M (List PV))(mk:M PV):M RV:=fun ρ=>(mr ρ).bind fun ps ρ1=>if ps.length≤16777216 then(mk ρ1).bind fun q ρ2=>match q with
 | .int k=>if -(2 ^ 60)≤k∧k<2 ^ 60∧ps.length*k.toNat≤16777216 then .ok (.ow (List.replicate k.toNat ps).flatten) ρ2 else .bad
 |_=>.bad else .bad
variable{E:L2.St→XK}{a b e:Expr}{es:List Expr}{pos:Pos}{ma mb:M PV}{mr:M (List PV)}
def ur:PV→Option PV
 | .int i=>some (.int (-i))
 |_=>none
theorem Jc:UnV K (mU fun i=>.int (-i)) ur:=by
 intro c F H σ ρ p pv v Q rel r1 e k
 unfold ur at e
 split at e
 ·cases e
  cases r1.int
  exact k _ F H rel (Same.refl _) (Same.refl _) Rep.int
 ·cases e
mutual
def eqB:PV→PV→Bool
 | .non,.non=>true
 | .bl a,.bl b=>a== b
 | .bl a,.int j=>(if a then 1 else 0)== j
 | .int i,.bl b=>i== (if b then 1 else 0)
 | .int i,.int j=>i== j
 | .str x,.str y=>x== y
 | .lst xs,.lst ys=>bZ xs ys
 | .tup xs,.tup ys=>bZ xs ys
 |_,_=>false
def bZ:List PV→List PV→Bool
 | [],[]=>true
 |x::xs,y::ys=>eqB x y && bZ xs ys
 |_,_=>false
end
mutual
def ū:PV→Bool
 | .non| .bl _| .int _=>true
 | .str x=>PyData.strOk x
 | .lst xs=>bD xs
 | .tup xs=>bD xs
 |_=>false
def bD:List PV→Bool
 | []=>true
 |x::xs=>ū x && bD xs
end
mutual
def dep:PV→Nat
 | .lst xs=>gG xs+1
 | .tup xs=>gG xs+1
 |_=>0
def gG:List PV→Nat
 | []=>0
 |x::xs=>max (dep x) (gG xs)
end
mutual
def toD:PV→PyData
 | .non=>.none
 | .bl b=>.bool b
 | .int i=>.int i
 | .str x=>.str x
 | .lst xs=>.list (dN xs)
 | .tup xs=>.tuple (dN xs)
 |_=>.none
def dN:List PV→List PyData
 | []=>[]
 |x::xs=>toD x::dN xs
end
mutual
theorem fP:∀p:PV,ū p=true→(toD p).canLay0=true
 | .non,_=>rfl
 | .bl _,_=>rfl
 | .int _,_=>rfl
 | .str x,h=>by unfold ū at h;unfold toD PyData.canLay0;exact h
 | .lst xs,h=>by unfold ū at h;unfold toD PyData.canLay0;exact jq xs h
 | .tup xs,h=>by unfold ū at h;unfold toD PyData.canLay0;exact jq xs h
 | .ins _ _ _,h=>by simp[ū] at h
 | .xc _ _ _,h=>by simp[ū] at h
 | .ty _,h=>by simp[ū] at h
 | .cls _,h=>by simp[ū] at h
theorem jq:∀ps:List PV,bD ps=true→PyData.canLayAll0 (dN ps)=true
 | [],_=>rfl
 |p::ps,h=>by
  unfold bD at h
  rw[Bool.and_eq_true] at h
  unfold dN PyData.canLayAll0
  rw[fP p h.1,jq ps h.2]
  rfl
end
mutual
theorem fQ:∀p:PV,(toD p).depth=dep p
 | .non=>rfl
 | .bl _=>rfl
 | .int _=>rfl
 | .str x=>rfl
 | .lst xs=>by unfold toD PyData.depth dep;rw[jr xs]
 | .tup xs=>by unfold toD PyData.depth dep;rw[jr xs]
 | .ins _ _ _=>rfl
 | .xc _ _ _=>rfl
 | .ty _=>rfl
 | .cls _=>rfl
theorem jr:∀ps:List PV,PyData.depthAll (dN ps)=gG ps
 | []=>rfl
 |p::ps=>by unfold dN PyData.depthAll gG;rw[fQ p,jr ps]
end
mutual
theorem rE:∀p q:PV,ū p=true→ū q=true→PyData.eqv (toD p) (toD q)=eqB p q
 | .lst xs,.lst ys,h1,h2=>by
   unfold ū at h1 h2
   unfold toD eqB PyData.eqv
   exact nO xs ys h1 h2
 | .tup xs,.tup ys,h1,h2=>by
   unfold ū at h1 h2
   unfold toD eqB PyData.eqv
   exact nO xs ys h1 h2
 | .ins _ _ _,_,h,_=>by simp[ū] at h
 | .xc _ _ _,_,h,_=>by simp[ū] at h
 | .ty _,_,h,_=>by simp[ū] at h
 | .cls _,_,h,_=>by simp[ū] at h
 | .non,q,_,h=>by cases q<;>first|rfl|(simp[ū] at h)|(simp[toD,eqB,PyData.eqv])
 | .bl _,q,_,h=>by cases q<;>first|rfl|(simp[ū] at h)|(simp[toD,eqB,PyData.eqv])
 | .int _,q,_,h=>by cases q<;>first|rfl|(simp[ū] at h)|(simp[toD,eqB,PyData.eqv])
 | .str _,q,_,h=>by cases q<;>first|rfl|(simp[ū] at h;done)|(simp[toD,eqB,PyData.eqv])
 | .lst _,.non,_,_=>by simp[toD,eqB,PyData.eqv]
 | .lst _,.bl _,_,_=>by simp[toD,eqB,PyData.eqv]
 | .lst _,.int _,_,_=>by simp[toD,eqB,PyData.eqv]
 | .lst _,.str _,_,_=>by simp[toD,eqB,PyData.eqv]
 | .lst _,.tup _,_,_=>by simp[toD,eqB,PyData.eqv]
 | .lst _,.ins _ _ _,_,h=>by simp[ū] at h
 | .lst _,.xc _ _ _,_,h=>by simp[ū] at h
 | .lst _,.ty _,_,h=>by simp[ū] at h
 | .lst _,.cls _,_,h=>by simp[ū] at h
 | .tup _,.non,_,_=>by simp[toD,eqB,PyData.eqv]
 | .tup _,.bl _,_,_=>by simp[toD,eqB,PyData.eqv]
 | .tup _,.int _,_,_=>by simp[toD,eqB,PyData.eqv]
 | .tup _,.str _,_,_=>by simp[toD,eqB,PyData.eqv]
 | .tup _,.lst _,_,_=>by simp[toD,eqB,PyData.eqv]
 | .tup _,.ins _ _ _,_,h=>by simp[ū] at h
 | .tup _,.xc _ _ _,_,h=>by simp[ū] at h
 | .tup _,.ty _,_,h=>by simp[ū] at h
 | .tup _,.cls _,_,h=>by simp[ū] at h
theorem nO:∀ps qs:List PV,bD ps=true→bD qs=true→PyData.eqvAll (dN ps) (dN qs)=bZ ps qs
 | [],[],_,_=>by simp[dN,bZ,PyData.eqvAll]
 | [],_::_,_,_=>by simp[dN,bZ,PyData.eqvAll]
 |_::_,[],_,_=>by simp[dN,bZ,PyData.eqvAll]
 |p::ps,q::qs,h1,h2=>by
  unfold bD at h1 h2
  rw[Bool.and_eq_true] at h1 h2
  unfold dN bZ PyData.eqvAll
  rw[rE p q h1.1 h2.1,nO ps qs h1.2 h2.2]
end
mutual
theorem yD{F:Hp}:∀(p:PV) (v:V),ū p=true→Rep K F p v→Rp K.K F (toD p) v
 | .non,_,_,r=>by unfold Rep at r;unfold toD Rp;exact r
 | .bl _,_,_,r=>by unfold Rep at r;unfold toD Rp;exact r
 | .int _,_,_,r=>by unfold Rep at r;unfold toD Rp;exact r
 | .str _,_,_,r=>by unfold Rep at r;unfold toD Rp;exact r
 | .lst xs,_,h,r=>by
   unfold ū at h
   unfold Rep at r
   unfold toD Rp
   obtain⟨a,vs,h1,h2,h3⟩:=r
   exact⟨a,vs,h1,h2,iW xs vs h h3⟩
 | .tup xs,_,h,r=>by
   unfold ū at h
   unfold Rep at r
   unfold toD Rp
   obtain⟨a,vs,h1,h2,h3⟩:=r
   exact⟨a,vs,h1,h2,iW xs vs h h3⟩
 | .ins _ _ _,_,h,_=>by simp[ū] at h
 | .xc _ _ _,_,h,_=>by simp[ū] at h
 | .ty _,_,h,_=>by simp[ū] at h
 | .cls _,_,h,_=>by simp[ū] at h
theorem iW{F:Hp}:∀(ps:List PV) (vs:List V),bD ps=true→Đ K F ps vs→kh K.K F (dN ps) vs
 | [],_,_,r=>by unfold Đ at r;unfold dN kh;exact r
 |p::ps,_,h,r=>by
  unfold bD at h
  rw[Bool.and_eq_true] at h
  unfold Đ at r
  unfold dN kh
  obtain⟨x,t,h1,h2,h3⟩:=r
  exact⟨x,t,h1,yD p x h.1 h2,iW ps t h.2 h3⟩
end
theorem iY{c:Ctx}{F H:Hp}{σ:L2.St}{ρ:Ŋ}{p:PV}{v:V}(s:Same F H)(h:ū p=true)(r:rR K c σ ρ F H p v):Rp K.K H (toD p) v:=by
 rcases r with r|r
 ·exact Rp.same s _ _ (yD p v h r)
 ·cases p with
  |lst ps=>
   obtain⟨a,vs,rfl,h3,h4⟩:=r
   unfold ū at h
   unfold toD Rp
   exact⟨a,vs,rfl,Ż.of h3,kh.same s _ _ (iW ps vs h h4)⟩
  |ins C ns ps=>simp[ū] at h
  |_=>exact r.elim
def kW(p q:PV):Bool:=ū p && ū q && decide (min (dep p) (dep q)≤60)
def ŉ(p q:PV):Option PV:=if kW p q=true then some (.bl (eqB p q)) else none
def cX(p q:PV):Option PV:=if kW p q=true then some (.bl (!eqB p q)) else none
theorem Ō:kj K (CZ K.K false) ŉ:=by
 intro c F H σ ρ p q pv v u Q rel r1 r2 e k
 unfold ŉ at e
 split at e
 ·rename_i hz
  cases e
  unfold kW at hz
  simp only[Bool.and_eq_true,decide_eq_true_eq] at hz
  refine⟨toD p,toD q,iY rel.sub hz.1.1 r1,iY rel.sub hz.1.2 r2,fP p hz.1.1,fP q hz.1.2,by rw[fQ,fQ];exact hz.2,?_⟩
  rw[rE p q hz.1.1 hz.1.2]
  exact k _ F H rel (Same.refl _) (Same.refl _) Rep.bl
 ·cases e
theorem lR:kj K (CZ K.K true) cX:=by
 intro c F H σ ρ p q pv v u Q rel r1 r2 e k
 unfold cX at e
 split at e
 ·rename_i hz
  cases e
  unfold kW at hz
  simp only[Bool.and_eq_true,decide_eq_true_eq] at hz
  refine⟨toD p,toD q,iY rel.sub hz.1.1 r1,iY rel.sub hz.1.2 r2,fP p hz.1.1,fP q hz.1.2,by rw[fQ,fQ];exact hz.2,?_⟩
  rw[rE p q hz.1.1 hz.1.2]
  exact k _ F H rel (Same.refl _) (Same.refl _) Rep.bl
 ·cases e
def Vf:PV→Bool
 | .non=>true
 |_=>false
def YG(p q:PV):Option PV:=match q with
 | .non=>some (.bl (Vf p))
 |_=>none
def Dv(p q:PV):Option PV:=match q with
 | .non=>some (.bl (!Vf p))
 |_=>none
def ĸ:PV→PV→Option PV
 | .lst ps,.int i=>eO ps i
 | .tup ps,.int i=>eO ps i
 | .str z,.int i=>if z.length≤16777216 then(eO z.cps.toList i).map fun c=>.str ⟨#[c]⟩ else none
 |_,_=>none
theorem uw{F:Hp}{ps:List PV}{vs:List V}{i:Int}{p:PV}(r:Đ K F ps vs)(h:eO ps i=some p):∃v,eO vs i=some v∧Rep K F p v:=by
 unfold eO at h ⊢
 rw[r.length] at h
 cases e:o_ vs.length i with
 |none=>rw[e] at h;cases h
 |some j=>
  rw[e] at h
  obtain⟨v,h1,h2⟩:=bR r.pr h
  exact⟨v,h1,h2⟩
theorem Ĭ:kj K (mIx K.K) ĸ:=by
 intro c F H σ ρ p q pv v u Q rel r1 r2 e k
 unfold ĸ at e
 split at e
 ·obtain⟨a,vs,rfl,h1,h2⟩:=r1.lst rel.sub
  cases r2.int
  obtain⟨x,h3,h4⟩:=uw h2 e
  exact⟨vs,x,.inl h1,h3,k _ F H rel (Same.refl _) (Same.refl _) h4⟩
 ·obtain⟨a,vs,rfl,h1,h2⟩:=r1.tup rel.sub
  cases r2.int
  obtain⟨x,h3,h4⟩:=uw h2 e
  exact⟨vs,x,.inr h1,h3,k _ F H rel (Same.refl _) (Same.refl _) h4⟩
 ·split at e
  ·rename_i z i hz
   cases r1.str
   cases r2.int
   cases ea:eO z.cps.toList i with
   |none=>rw[ea] at e;cases e
   |some cc=>
    rw[ea] at e
    cases e
    exact⟨cc,by rw[Ĺ];exact hz,ea,k _ F H rel (Same.refl _) (Same.refl _) Rep.str⟩
  ·cases e
 ·cases e
def vR:M (Option Int):=fun ρ=>.ok none ρ
def mP(m:M PV):M (Option Int):=fun ρ=>(m ρ).bind fun p ρ1=>match p with
 | .int i=>.ok (some i) ρ1
 |_=>.bad
abbrev tP(K:KK)(E:L2.St→XK)(m:M (Option Int)):TO:=tG K E rI m
theorem nP:PO X none (tP (kk X cm) E vR):=fun pins s σ H Q I h=>CJ pins s σ H Q I (by
 obtain⟨c,F,ρ,rel,h⟩:=h
 exact h none F H rel (Same.refl _) (Same.refl _) rfl)
theorem Ų(ha:PE X e (tV (kk X cm) E ma)):PO X (some e) (tP (kk X cm) E (mP ma)):=fun pins s σ H Q I h=>xK ha pins s σ H Q I (by
 obtain⟨c,F,ρ,rel,h⟩:=h
 refine⟨c,F,ρ,rel,h.bind fun p ρ1 v F1 H1 Ď _ _ r1 h1=>?_⟩
 cases p with
 |int i=>
  have e:v=.int i:=by have r1':Rep (kk X cm) F1 (.int i) v:=r1;unfold Rep at r1';exact r1'
  subst e
  exact h1 (some i) F1 H1 Ď (Same.refl _) (Same.refl _) rfl
 |_=>exact h1.elim)
def dO{α:Type}(xs:List α)(lo hi:Option Int):List α:= (xs.drop (HT.dM xs.length 0 lo)).take (HT.dM xs.length xs.length hi-HT.dM xs.length 0 lo)
def Jd(p:PV)(lo hi:Option Int):Option RV:=match p with
 | .lst ps=>some (.ow (dO ps lo hi))
 | .str z=>if z.length≤16777216 then some (.sh (.str (S (dO z.cps.toList lo hi)))) else none
 |_=>none
def yE(ma:M PV)(ml mh:M (Option Int)):M RV:=fun ρ=>(ma ρ).bind fun p ρ1=>(ml ρ1).bind fun lo ρ2=>(mh ρ2).bind fun hi ρ3=>Res.iV (Jd p lo hi) ρ3
theorem aJ{ml mh:M (Option Int)}{lo hi:Option Expr}{p2:Pos}(ha:PE X a (tR (kk X cm) E ma))(hl:PO X lo (tP (kk X cm) E ml))(hh:PO X hi (tP (kk X cm) E mh)):PE X (.Subscript a (.Slice lo hi none p2) pos) (tO (kk X cm) E (yE ma ml mh)):=
 PE.wk (wY slm ha hl hh) fun σ H Q ⟨c,F,ρ,rel,h⟩=>⟨c,F,ρ,rel,h.bind fun p ρ1 v F1 H1 Ď _ _ r1 h1=>⟨c,F1,ρ1,Ď,h1.bind fun lo ρ2 lo' F2 H2 ı sF sH r2 h2=>⟨c,F2,ρ2,ı,h2.bind fun hi ρ3 hi' F3 H3 nH sF3 YB r3 h3=>by
   have e2:lo=lo':=r2
   have e3:hi=hi':=r3
   subst e2 e3
   have r1':rR (kk X cm) c σ ρ3 F3 H3 p v:=r1.mono (sF.trans sF3) (sH.trans YB)
   cases p with
   |lst ps=>
    obtain⟨a,vs,rfl,q1,q2⟩:=r1'.lst nH.sub
    refine⟨vs,q1,fun d hd=>?_⟩
    have e:Đ (kk X cm) F3 (dO ps lo hi) (oY vs lo hi):=by
     unfold dO oY
     rw[q2.length]
     exact Đ.of (tW _ (tX _ q2.pr))
    obtain⟨z1,z2⟩:=cP nH hd e
    exact h3 _ F3 _ z1 (Same.refl _) (Same.upd hd) z2
   |str z=>
    cases r1'.str
    unfold Jd at h3
    dsimp only at h3
    split at h3
    ·rename_i hz
     exact⟨by rw[Ĺ];exact hz,h3 _ F3 H3 nH (Same.refl _) (Same.refl _) (Rep.str (K:=kk X cm) (F:=F3))⟩
    ·exact h3.elim
   |_=>exact h3.elim⟩⟩⟩
theorem BX{c:Ctx}{F H:Hp}{σ:L2.St}{ρ:Ŋ}{p:PV}{vs:List V}(h:Ly K c σ ρ F H [p] vs):∃v,vs=[v]∧rR K c σ ρ F H p v:=by
 cases h with
 |cons r t=>cases t;exact⟨_,rfl,r⟩
theorem Dw{c:Ctx}{F H:Hp}{σ:L2.St}{ρ:Ŋ}{p q:PV}{vs:List V}(h:Ly K c σ ρ F H [p,q] vs):∃v u,vs=[v,u]∧rR K c σ ρ F H p v∧rR K c σ ρ F H q u:=by
 cases h with
 |cons r t=>
  cases t with
  |cons r' t=>cases t;exact⟨_,_,rfl,r,r'⟩
def fU:List PV→Option PV
 | [.lst ps]=>some (.int ps.length)
 | [.tup ps]=>some (.int ps.length)
 | [.str z]=>if z.length≤16777216 then some (.int z.length) else none
 |_=>none
theorem b_:cR K (Ik K.K) fU:=by
 intro c F H σ ρ ps pv vs Q rel r e k
 unfold fU at e
 split at e
 ·cases e
  obtain⟨v,rfl,r1⟩:=BX r
  obtain⟨a,xs,rfl,h1,h2⟩:=r1.lst rel.sub
  refine⟨xs,.inl h1,?_⟩
  rw[←h2.length]
  exact k _ F H rel (Same.refl _) (Same.refl _) Rep.int
 ·cases e
  obtain⟨v,rfl,r1⟩:=BX r
  obtain⟨a,xs,rfl,h1,h2⟩:=r1.tup rel.sub
  refine⟨xs,.inr h1,?_⟩
  rw[←h2.length]
  exact k _ F H rel (Same.refl _) (Same.refl _) Rep.int
 ·split at e
  ·rename_i hz
   cases e
   obtain⟨v,rfl,r1⟩:=BX r
   cases r1.str
   exact⟨by rw[Ĺ];exact hz,k _ F H rel (Same.refl _) (Same.refl _) Rep.int⟩
  ·cases e
 ·cases e
def YH:List PV→Option PV
 | [.int i]=>some (.int (if i<0 then -i else i))
 |_=>none
def ux:List PV→Option PV
 | [.int i,.int j]=>some (.int (if j<i then j else i))
 |_=>none
def uy:List PV→Option PV
 | [.int i,.int j]=>some (.int (if j>i then j else i))
 |_=>none
theorem Dy:cR K xH ux:=by
 intro c F H σ ρ ps pv vs Q rel r e k
 unfold ux at e
 split at e
 ·cases e
  obtain⟨v,u,rfl,r1,r2⟩:=Dw r
  cases r1.int
  cases r2.int
  exact k _ F H rel (Same.refl _) (Same.refl _) Rep.int
 ·cases e
theorem Dz:cR K xJ uy:=by
 intro c F H σ ρ ps pv vs Q rel r e k
 unfold uy at e
 split at e
 ·cases e
  obtain⟨v,u,rfl,r1,r2⟩:=Dw r
  cases r1.int
  cases r2.int
  exact k _ F H rel (Same.refl _) (Same.refl _) Rep.int
 ·cases e
def jt:List PV→Option RV
 | [.lst ps]=>some (.ow ps)
 | [.tup ps]=>some (.ow ps)
 |_=>none
def uz(K:PySem.W.Frag):List V→Hp→VK→Prop:=fun xs H Q=>∃p ys,xs=[.ref p]∧(Ż K H p ys∨cJ K H p ys)∧∀l,H l=none→Q (.ref l) (upd H l (.lst ys))
theorem dG:ŗ X (.type "list") (uz X.K):=ni
theorem dH:Fw K (uz K.K) jt:=by
 intro c F H σ ρ ps pv vs Q rel r e k
 unfold jt at e
 split at e
 ·cases e
  obtain⟨v,rfl,r1⟩:=BX r
  obtain⟨a,xs,rfl,h1,h2⟩:=r1.lst rel.sub
  refine⟨a,xs,rfl,.inl h1,fun l hl=>?_⟩
  obtain⟨q1,q2⟩:=cP rel hl h2
  exact k _ F _ q1 (Same.refl _) (Same.upd hl) q2
 ·cases e
  obtain⟨v,rfl,r1⟩:=BX r
  obtain⟨a,xs,rfl,h1,h2⟩:=r1.tup rel.sub
  refine⟨a,xs,rfl,.inr h1,fun l hl=>?_⟩
  obtain⟨q1,q2⟩:=cP rel hl h2
  exact k _ F _ q1 (Same.refl _) (Same.upd hl) q2
 ·cases e
def kY:PV→String→Option Bool
 | .int _,"int" =>some true
 | .int _,"bool" =>some false
 | .int _,"str" =>some false
 | .int _,"tuple" =>some false
 | .int _,"list" =>some false
 | .bl _,"int" =>some true
 | .bl _,"bool" =>some true
 | .lst _,"list" =>some true
 | .lst _,"tuple" =>some false
 | .lst _,"int" =>some false
 | .lst _,"str" =>some false
 | .tup _,"tuple" =>some true
 | .tup _,"list" =>some false
 | .tup _,"int" =>some false
 | .tup _,"str" =>some false
 | .str _,"str" =>some true
 | .str _,"int" =>some false
 | .str _,"list" =>some false
 | .str _,"tuple" =>some false
 | .non,"int" =>some false
 | .non,"str" =>some false
 | .non,"tuple" =>some false
 | .non,"list" =>some false
 |_,_=>none
end
theorem pJ{K:KK}{F:Hp}:∀ns:List Int,Đ K F (ns.map .int) (ns.map V.int)
 | []=>Đ.nil
 |n::ns=>Đ.cons Rep.int (pJ ns)
def Og(K:PySem.W.Frag):Sp:=fun vs H Q _=>∃(sa:Addr) (ns:List Int),vs=[.ref sa]∧Ż K H sa (ns.map V.int)∧ns.length≤63∧∀v H',v=.bl true→Q v H'
end P
namespace P
open PySem PySem.Spec PyProof.Rows L2 M2 M3 M4
section
variable{X:Cx}{cm:String→Addr}{K:KK}
def Vg(K:PySem.W.Frag)(H:Hp)(x:V)(t:Value):Prop:=match x with
 | .non=>t=.type "NoneType"
 | .bl _=>t=.type "bool"
 | .int _=>t=.type "int"
 | .str _=>t=.type "str"
 | .ref a=>(t=.type "list" ∧∃xs,Ż K H a xs)∨(t=.type "tuple" ∧∃xs,cJ K H a xs)∨gC K H (.ref a) t
 |_=>False
def uD(K:PySem.W.Frag):List V→Hp→VK→Prop:=fun xs H Q=>match xs with
 | [x,.ty n]=>∃t b,Vg K H x t∧PySem.W.kitOne K t (.type n)=some b∧Q (.bl b) H
 | [x,.ref C]=>∃t b,Vg K H x t∧PySem.W.kitOne K t (.ref C)=some b∧Q (.bl b) H
 |_=>False
theorem uE{pins:List (Addr×Obj)}{σ:L2.St}{H:Hp}{s:Shared}{A:Around}{E:Value→Shared→Prop}{Q:Value→Shared→Prop}{c:Value}{b:Bool}{x:V}{u t:Value}(I:Inv X pins σ H s)(rx:RelV x u)(ty:Vg X.K H x t)(e:PySem.W.kitOne X.K t c=some b)(h:∀tk,Q (.bool b) {s with toks:=tk}) :
 wpAny (model X.prog X.w) A (call (.builtin "isinstance") [u,c]) Q E s:=by
 cases x with
 |non=>cases(show t=_ from ty);exact bA I rx .non e h
 |bl y=>cases(show t=_ from ty);exact bA I rx (.bl y) e h
 |int y=>cases(show t=_ from ty);exact bA I rx (.int y) e h
 |str y=>cases(show t=_ from ty);exact bA I rx (.str y) e h
 |ref a=>
  cases(show u=Value.ref a from rx)
  rcases ty with⟨rfl,xs,hS⟩|⟨rfl,xs,hS⟩|ty
  ·obtain⟨its,r,⟨o,n,h1,h2,_⟩,_⟩:=I.list hS
   exact PySem.W.kia_one PySem.W.kitx_list I.fB ⟨o,h1,h2⟩ e (fun z=>nomatch z) h
  ·obtain⟨its,r,⟨o,h1,h2,_⟩,_⟩:=I.tuple hS
   exact PySem.W.kia_one PySem.W.kitx_tuple I.fB ⟨o,h1,h2⟩ e (fun z=>nomatch z) h
  ·exact bA I rx ty e h
 |_=>exact ty.elim
theorem Je:ŗ X (.builtin "isinstance") (uD X.K):=by
 intro pins s σ H xs us Q I r h
 unfold uD at h
 split at h
 ·obtain⟨t,b,h1,h2,h3⟩:=h
  obtain⟨u,w',rfl,r1,r2⟩:=vals2 r
  cases r2
  exact uE I r1 h1 h2 fun tk=>⟨.bl b,H,I.tok _,rfl,h3⟩
 ·obtain⟨t,b,h1,h2,h3⟩:=h
  obtain⟨u,w',rfl,r1,r2⟩:=vals2 r
  cases r2
  exact uE I r1 h1 h2 fun tk=>⟨.bl b,H,I.tok _,rfl,h3⟩
 ·exact h.elim
def tyN:PV→String
 | .non=> "NoneType"
 | .bl _=> "bool"
 | .int _=> "int"
 | .str _=> "str"
 | .lst _=> "list"
 | .tup _=> "tuple"
 |_=> ""
theorem yF{F:PySem.W.Frag}{p:PV}{n:String}{b:Bool}(h:kY p n=some b):PySem.W.kitOne F (.type (tyN p)) (.type n)=some b:=by
 unfold kY at h
 split at h<;>first
  |(cases h;first|rfl|decide +kernel|kernel_rfl)
  |cases h
theorem DG{c:Ctx}{F H:Hp}{σ:L2.St}{ρ:Ŋ}{p:PV}{v:V}(s:Same F H)(r:rR K c σ ρ F H p v)(h:∃n b,kY p n=some b):Vg K.K H v (.type (tyN p)):=by
 obtain⟨n,b,h⟩:=h
 cases p with
 |non=>cases r.non;rfl
 |bl _=>cases r.bl;rfl
 |int _=>cases r.int;rfl
 |str _=>cases r.str;rfl
 |lst ps=>
  obtain⟨a,vs,rfl,h1,h2⟩:=r.lst s
  exact .inl ⟨rfl,vs,h1⟩
 |tup ps=>
  obtain⟨a,vs,rfl,h1,h2⟩:=r.tup s
  exact .inr (.inl ⟨rfl,vs,h1⟩)
 |ins _ _ _=>simp[kY] at h
 |xc _ _ _=>simp[kY] at h
 |ty _=>simp[kY] at h
 |cls _=>simp[kY] at h
def yG:List PV→Option PV
 | [p,.ty n]=>(kY p n).map .bl
 |_=>none
theorem yH:cR K (uD K.K) yG:=by
 intro c F H σ ρ ps pv vs Q rel r e k
 unfold yG at e
 split at e
 ·rename_i p n
  obtain⟨v,u,rfl,r1,r2⟩:=Dw r
  cases r2.ty
  cases eb:kY p n with
  |none=>rw[eb] at e;cases e
  |some b=>
   rw[eb] at e
   cases e
   exact⟨_,b,DG rel.sub r1 ⟨n,b,eb⟩,yF eb,k _ F H rel (Same.refl _) (Same.refl _) Rep.bl⟩
 ·cases e
def eY:List PV→Option PV
 | [.lst ps]=>some (.tup ps)
 | [.tup ps]=>some (.tup ps)
 |_=>none
def yI(K:PySem.W.Frag):List V→Hp→VK→Prop:=fun xs H Q=>∃p ys,xs=[.ref p]∧((Ż K H p ys∧∀l,H l=none→Q (.ref l) (upd H l (.tup ys)))∨(cJ K H p ys∧Q (.ref p) H))
theorem ju:ŗ X (.type "tuple") (yI X.K):=kO
theorem jw:cR K (yI K.K) eY:=by
 intro c F H σ ρ ps pv vs Q rel r e k
 unfold eY at e
 split at e
 ·cases e
  obtain⟨v,rfl,r1⟩:=BX r
  obtain⟨a,xs,rfl,h1,h2⟩:=r1.lst rel.sub
  refine⟨a,xs,rfl,.inl ⟨h1,fun l hl=>k _ _ _ (rel.alloc hl) (Same.upd (rel.sub.free hl)) (Same.upd hl) ?_⟩⟩
  unfold Rep
  exact⟨l,xs,rfl,cJ.of ď,Đ.same (Same.upd (rel.sub.free hl)) _ _ h2⟩
 ·cases e
  obtain⟨v,rfl,r1⟩:=BX r
  have r1':=r1
  obtain⟨a,xs,rfl,h1,h2⟩:=r1.tup rel.sub
  refine⟨a,xs,rfl,.inr ⟨h1,k _ F H rel (Same.refl _) (Same.refl _) ?_⟩⟩
  rcases r1' with q|q
  ·exact q
  ·exact q.elim
 ·cases e
def boolsOf:List PV→Option (List Bool)
 | []=>some []
 | .bl b::ps=>(boolsOf ps).map (b:: ·)
 |_::_=>none
theorem lU{F:Hp}:∀{ps:List PV} {vs:List V} {bs:List Bool},Đ K F ps vs→boolsOf ps=some bs→vs=bs.map V.bl
 | [],vs,bs,r,h=>by
   cases h
   have r':=r.pr
   cases r'
   rfl
 |p::ps,vs,bs,r,h=>by
  cases p with
  |bl b=>
   unfold boolsOf at h
   cases eb:boolsOf ps with
   |none=>rw[eb] at h;cases h
   |some cs=>
    rw[eb] at h
    cases h
    have r':=r.pr
    cases r' with
    |cons r1 t=>
     rw[nF r1,lU (Đ.of t) eb]
     rfl
  |_=>simp[boolsOf] at h
def pK:List PV→Option PV
 | [.lst ps]=>(boolsOf ps).map fun bs=>.bl (bs.all id)
 |_=>none
theorem rG:cR K (Iv K.K) pK:=by
 intro c F H σ ρ ps pv vs Q rel r e k
 unfold pK at e
 split at e
 ·rename_i ps
  obtain⟨v,rfl,r1⟩:=BX r
  obtain⟨a,xs,rfl,h1,h2⟩:=r1.lst rel.sub
  cases eb:boolsOf ps with
  |none=>rw[eb] at e;cases e
  |some bs=>
   rw[eb] at e
   cases e
   refine⟨bs,by rw[←lU h2 eb];exact h1,k _ F H rel (Same.refl _) (Same.refl _) Rep.bl⟩
 ·cases e
end
end P
namespace P
open PySem PySem.Spec PyProof.Rows L2 M2 M3 M4
section
variable{α β:Type}{ρ:Ŋ}{i j n k:Nat}{p q:PV}{ps:List PV}{m ma mb mc:M PV}{mo:M RV}{a b:M Fl}{ta tb:M Bool}{mr:M (List PV)}{f:PV→PV→Option PV}{fo:PV→PV→Option RV}{fl:List PV→Option PV}{flo:List PV→Option RV}{g:Tg}{gs:wC}
@[simp] theorem Zcl:eV ρ=.ok .nx ρ:= rfl
@[simp] theorem Zcm:mBk ρ=.ok .bk ρ:= rfl
@[simp] theorem Zcn:mCt ρ=.ok .ct ρ:= rfl
@[simp] theorem YJ:(IW:M α) ρ=.bad:=rfl
@[simp] theorem YK:Ĵ a b ρ=(a ρ).bind fun f ρ1=>match f with| .nx=>b ρ1|f=>.ok f ρ1:=rfl
@[simp] theorem YL:aV i mo ρ=(mo ρ).bind fun r ρ1=>.ok .nx (ρ1.set i r.slot):=rfl
@[simp] theorem YM:Ľ mo ρ=(mo ρ).bind fun r ρ1=>.ok (.rt r) ρ1:=rfl
@[simp] theorem Vh:NK ρ=.ok (.rt (.sh .non)) ρ:= rfl
@[simp] theorem Vi:NP m ρ=(m ρ).bind fun _ ρ1=>.ok .nx ρ1:=rfl
@[simp] theorem ZcF:mC p ρ=.ok p ρ:= rfl
@[simp] theorem Zco:aK m ρ=(m ρ).bind fun p ρ1=>.ok (.sh p) ρ1:=rfl
@[simp] theorem YQ:Ė mo ρ=(mo ρ).bind fun r ρ1=>.ok r.val ρ1:=rfl
@[simp] theorem YS:(RV.sh p).val=p:=rfl
@[simp] theorem YT:(RV.ow ps).val=.lst ps:=rfl
@[simp] theorem YW:(RV.sh p).slot=.sh p:=rfl
@[simp] theorem YX:(RV.ow ps).slot=.ow ps:=rfl
@[simp] theorem YZ:Č f ma mb ρ=(ma ρ).bind fun p ρ1=>(mb ρ1).bind fun q ρ2=>Res.iV (f p q) ρ2:=rfl
@[simp] theorem Vj:Ņ fo ma mb ρ=(ma ρ).bind fun p ρ1=>(mb ρ1).bind fun q ρ2=>Res.iV (fo p q) ρ2:=rfl
@[simp] theorem Zcp{u:PV→Option PV}:vN u ma ρ=(ma ρ).bind fun p ρ1=>Res.iV (u p) ρ1:=rfl
@[simp] theorem Y_:iz m ρ=(m ρ).bind fun p ρ1=>Res.iV (IV p) ρ1:=rfl
@[simp] theorem Zcq:dF m ρ=(m ρ).bind fun p ρ1=>match p with| .bl b=>.ok b ρ1|_=>.bad:=rfl
@[simp] theorem Vk:ji ta ρ=(ta ρ).bind fun b ρ1=>.ok (!b) ρ1:=rfl
@[simp] theorem Vl:gW ta tb ρ=(ta ρ).bind fun b ρ1=>if b=true then tb ρ1 else .ok false ρ1:=rfl
@[simp] theorem Z_:q_ ta tb ρ=(ta ρ).bind fun b ρ1=>if b=true then .ok true ρ1 else tb ρ1:=rfl
@[simp] theorem Zaa:cO ma mb ρ=(ma ρ).bind fun p ρ1=>match p with| .bl b=>if b=true then mb ρ1 else .ok (.bl false) ρ1|_=>.bad:=by
  unfold cO
  congr
  funext p ρ1
  cases p with
  |bl b=>cases b<;>rfl
  |_=>rfl
@[simp] theorem Zcr:mOr ma mb ρ=(ma ρ).bind fun p ρ1=>match p with| .bl b=>if b=true then .ok (.bl true) ρ1 else mb ρ1|_=>.bad:=by
  unfold mOr
  congr
  funext p ρ1
  cases p with
  |bl b=>cases b<;>rfl
  |_=>rfl
@[simp] theorem Zab:Dl ma ρ=(ma ρ).bind fun p ρ1=>match p with| .bl b=>.ok (.bl (!b)) ρ1|_=>.bad:=rfl
@[simp] theorem Zcs{x y:M α}:dZ ta x y ρ=(ta ρ).bind fun b ρ1=>if b=true then x ρ1 else y ρ1:=rfl
@[simp] theorem Zac{f g:PV→PV→Option PV}:vO f g ma mb mc ρ=(ma ρ).bind fun p ρ1=>(mb ρ1).bind fun q ρ2=>(Res.iV (f p q) ρ2).bind fun z ρ3=>match z with
  | .bl true=>(mc ρ3).bind fun w ρ4=>Res.iV (g q w) ρ4
  | .bl false=>.ok (.bl false) ρ3
  |_=>.bad:=rfl
@[simp] theorem Zad:ė ρ=.ok [] ρ:= rfl
@[simp] theorem Vm:ā ma mr ρ=(ma ρ).bind fun p ρ1=>(mr ρ1).bind fun ps ρ2=>.ok (p::ps) ρ2:=rfl
@[simp] theorem Zae:ŝ mr ρ=(mr ρ).bind fun ps ρ1=>if ps.length≤16777216 then .ok (.tup ps) ρ1 else .bad:=rfl
@[simp] theorem Zaf:aG mr ρ=(mr ρ).bind fun ps ρ1=>if ps.length≤16777216 then .ok (.ow ps) ρ1 else .bad:=rfl
@[simp] theorem Zct:cQ fl mr ρ=(mr ρ).bind fun ps ρ1=>Res.iV (fl ps) ρ1:=rfl
@[simp] theorem Zag:yd flo mr ρ=(mr ρ).bind fun ps ρ1=>Res.iV (flo ps) ρ1:=rfl
@[simp] theorem Vn{mf:MF}{ms:M (List Slot)}:ĭ mf ms ρ=(ms ρ).bind fun ps ρ1=>match mf ps with| .ret r=>.ok r ρ1| .exc x=>.exc x ρ1| .bad=>.bad:=rfl
@[simp] theorem Zcu:Ĕ i ρ=(match ρ[i]? with|some (.sh p)=>.ok p ρ|some (.ow ps)=>.ok (.lst ps) (ρ.set i (.sh (.lst ps)))|_=>.bad):=rfl
@[simp] theorem Zcv:ă i ρ=(match ρ[i]? with|some (.sh p)=>.ok p ρ|some (.ow ps)=>.ok (.lst ps) ρ|some (.bw ps)=>.ok (.lst ps) ρ|some (.rc C ns ps)=>.ok (.ins C ns ps) ρ|_=>.bad):=rfl
@[simp] theorem Zcw:Nu i ρ=(match ρ[i]? with|some (.sh p)=>.ok (.sh p) ρ|some (.ow ps)=>.ok (.ow ps) (ρ.set i .no)|_=>.bad):=rfl
@[simp] theorem Zah:jj g m ρ=(m ρ).bind fun p ρ1=>match g p ρ1 with|some ρ2=>.ok .nx ρ2|none=>.bad:=rfl
@[simp] theorem Zai:Yw i j mr ρ=(mr ρ).bind fun ps ρ1=>match ps with| [p,q]=>.ok .nx ((ρ1.set i (.sh p)).set j (.sh q))|_=>.bad:=rfl
@[simp] theorem Zcx:gN i p ρ=some (ρ.set i (.sh p)):=rfl
@[simp] theorem Oh:aM [] ρ=some ρ:= rfl
@[simp] theorem LQ:Ī g gs (p::ps) ρ=(g p ρ).bind fun ρ1=>gs ps ρ1:=rfl
@[simp] theorem Zcy:gT n gs (.tup ps) ρ=if ps.length=n then gs ps ρ else none:=rfl
@[simp] theorem Zaj:Dq i m ρ=(match ρ[i]? with
  |some (.ow _)=>(m ρ).bind fun p ρ1=>match ρ1[i]? with
   |some (.ow ps)=>if ps.length<16777216 then .ok .nx (ρ1.set i (.ow (ps ++ [p]))) else .bad
   |_=>.bad
  |_=>.bad):=rfl
@[simp] theorem Oi{mi:M PV}:nG i mi m ρ=(m ρ).bind fun p ρ1=>match ρ1[i]? with
  |some (.ow _)=>(mi ρ1).bind fun q ρ2=>match ρ2[i]?,q with
   |some (.ow ps),.int k=>match o_ ps.length k with
    |some j=>.ok .nx (ρ2.set i (.ow (ps.set j p)))
    |none=>.bad
   |_,_=>.bad
  |_=>.bad:=rfl
@[simp] theorem Zak:vR ρ=.ok none ρ:= rfl
@[simp] theorem ZcG:mP m ρ=(m ρ).bind fun p ρ1=>match p with| .int i=>.ok (some i) ρ1|_=>.bad:=rfl
@[simp] theorem Zcz{ml mh:M (Option Int)}:yE ma ml mh ρ=(ma ρ).bind fun p ρ1=>(ml ρ1).bind fun lo ρ2=>(mh ρ2).bind fun hi ρ3=>Res.iV (Jd p lo hi) ρ3:=rfl
@[simp] theorem Zal{lo hi:Option Int}:Jd (.lst ps) lo hi=some (.ow (dO ps lo hi)):=rfl
@[simp] theorem Oj:Ş m ρ=(m ρ).bind fun p ρ1=>match p with
  | .lst ps=>.ok ps ρ1
  | .tup ps=>.ok ps ρ1
  | .str z=>.ok (z.cps.toList.map fun c=>.str ⟨#[c]⟩) ρ1
  |_=>.bad:=rfl
@[simp] theorem Ol{h:List PV→Option (List PV)}:nM h mr ρ=(mr ρ).bind fun ps ρ1=>Res.iV (h ps) ρ1:=rfl
@[simp] theorem Zam{mi:M (List PV)}:yg mi g b ρ=(mi ρ).bind fun items ρ1=>forL g b items ρ1:=rfl
@[simp] theorem Vo{js:List Nat}{nl:Nat}{mi:M (List PV)}{mt:M Bool}{me:M PV}:aj js nl mi g mt me ρ=(mi ρ).bind fun items ρ1=>match Ŗ g mt me items (jm js nl ρ1) [] with
  |some ps=>.ok (.ow ps) ρ1
  |none=>.bad:=rfl
@[simp] theorem Zan:aH ρ=.ok true ρ:= rfl
@[simp] theorem Vp{mk:M PV}:Oe mr mk ρ=(mr ρ).bind fun ps ρ1=>if ps.length≤16777216 then(mk ρ1).bind fun q ρ2=>match q with
  | .int k=>if -(2 ^ 60)≤k∧k<2 ^ 60∧ps.length*k.toNat≤16777216 then .ok (.ow (List.replicate k.toNat ps).flatten) ρ2 else .bad
  |_=>.bad else .bad:=rfl
@[simp] theorem Zao{mbd:M Fl}{as:List Slot}:ş n k mbd as=if as.length=n then FR.of (mbd (startP k as)) else .bad:=rfl
@[simp] theorem Zap{r:RV}:FR.of (.ok (.rt r) ρ)=.ret r:=rfl
@[simp] theorem Zaq:FR.of (.ok .nx ρ)=.ret (.sh .non):=rfl
@[simp] theorem Zar{x:PX}:FR.of (.exc x ρ)=.exc x:=rfl
@[simp] theorem Zas:FR.of .bad=.bad:=rfl
@[simp] theorem Om{as:List Slot}:startP k as=as++List.replicate (k-as.length) .no:=rfl
@[simp] theorem Vq:Ę ρ=.ok [] ρ:= rfl
@[simp] theorem Oo{ms:M (List Slot)}:Ģ ma ms ρ=(ma ρ).bind fun p ρ1=>(ms ρ1).bind fun as ρ2=>.ok (.sh p::as) ρ2:=rfl
@[simp] theorem Oq{ms:M (List Slot)}:ċ i ms ρ=(match(ρ[i]?).bind cA with
  |none=>.bad
  |some _=>(ms ρ).bind fun as ρ2=>match(ρ2[i]?).bind cA with
   |some s=>.ok (s::as) ρ2
   |none=>.bad):=rfl
@[simp] theorem Zat:cA (.sh p)=some (.sh p):=rfl
@[simp] theorem Zau:cA (.ow ps)=some (.bw ps):=rfl
@[simp] theorem Zav:cA (.bw ps)=some (.bw ps):=rfl
@[simp] theorem Zaw:rD (.sh p)=.sh p:=rfl
@[simp] theorem Zax:rD (.ow ps)=.bw ps:=rfl
@[simp] theorem Zay:rD (.bw ps)=.bw ps:=rfl
@[simp] theorem Zaz{js:List Nat}{nl:Nat}:jm js nl ρ=js.map (fun(j:Nat)=>rD ((ρ[j]?).getD .no))++List.replicate nl .no:=rfl
@[simp] theorem ZaA:bW i ρ=(match ρ[i]? with
  |some (.bw ps)=>.ok ps ρ
  |some (.sh (.lst ps))=>.ok ps ρ
  |some (.sh (.tup ps))=>.ok ps ρ
  |some (.sh (.str z))=>.ok (z.cps.toList.map fun c=>.str ⟨#[c]⟩) ρ
  |some (.ow ps)=>.ok ps (ρ.set i (.sh (.lst ps)))
  |_=>.bad):=rfl
@[simp] theorem Vr{x y:Int}:ķ (.int x) (.int y)=some (.sh (.int (x+y))):=rfl
@[simp] theorem Vs{x y:Int}:bC (.int x) (.int y)=some (.int (x-y)):=rfl
@[simp] theorem Vt{x y:Int}:Ź (.int x) (.int y)=if aX x y=true then some (.int (x*y)) else none:=rfl
@[simp] theorem Vu{x y:Int}:eE (.int x) (.int y)=if jo x y=true then some (.int (x.fdiv y)) else none:=rfl
@[simp] theorem Vv{x y:Int}:Ŷ (.int x) (.int y)=if uo x y=true then some (.int (x.fmod y)) else none:=rfl
@[simp] theorem Vw{x y:Int}:cW (.int x) (.int y)=if gZ x y=true then some (.int (x ^ y.toNat)) else none:=rfl
@[simp] theorem Vx{x y:Int}:Oc (.int x) (.int y)=if FP x y=true then some (.int (x*2 ^ y.toNat)) else none:=rfl
@[simp] theorem Vy{x y:Int}:Od (.int x) (.int y)=if FQ x y=true then some (.int (x / 2 ^ y.toNat)) else none:=rfl
@[simp] theorem Vz{x:Int}:ur (.int x)=some (.int (-x)):=rfl
@[simp] theorem ZaB{x y:Int}:yw (.int x) (.int y)=some (.bl (decide (x<y))):=rfl
@[simp] theorem ZaC{x y:Int}:pI (.int x) (.int y)=some (.bl (decide (x≤y))):=rfl
@[simp] theorem ZaD{x y:Int}:YD (.int x) (.int y)=some (.bl (decide (y<x))):=rfl
@[simp] theorem ZaE{x y:Int}:YF (.int x) (.int y)=some (.bl (decide (y≤x))):=rfl
@[simp] theorem ZaF{x y:Int}:ŉ (.int x) (.int y)=some (.bl (decide (x=y))):=by
  have h:eqB (.int x) (.int y)=decide (x=y):=by rw[eqB.eq_def];rfl
  rw[←h];rfl
@[simp] theorem ZaG{x y:Int}:cX (.int x) (.int y)=some (.bl (!decide (x=y))):=by
  have h:eqB (.int x) (.int y)=decide (x=y):=by rw[eqB.eq_def];rfl
  rw[←h];rfl
@[simp] theorem ZaH{x y:Bool}:ŉ (.bl x) (.bl y)=some (.bl (x== y)):=rfl
@[simp] theorem ZaI{x y:Bool}:cX (.bl x) (.bl y)=some (.bl (!(x== y))):=rfl
@[simp] theorem ZaJ{p:PV}:YG p .non=some (.bl (Vf p)):=rfl
@[simp] theorem VB{p:PV}:Dv p .non=some (.bl (!Vf p)):=rfl
@[simp] theorem ZaK{x:Int}:ĸ (.lst ps) (.int x)=eO ps x:=rfl
@[simp] theorem ZaL{x:Int}:ĸ (.tup ps) (.int x)=eO ps x:=rfl
@[simp] theorem DK:fU [.lst ps]=some (.int ps.length):=rfl
@[simp] theorem VD:fU [.tup ps]=some (.int ps.length):=rfl
@[simp] theorem ZaM{x:Int}:YH [.int x]=some (.int (if x<0 then -x else x)):=rfl
@[simp] theorem ZaN{x y:Int}:ux [.int x,.int y]=some (.int (if y<x then y else x)):=rfl
@[simp] theorem ZaO{x y:Int}:uy [.int x,.int y]=some (.int (if y>x then y else x)):=rfl
@[simp] theorem Ot:jt [.lst ps]=some (.ow ps):=rfl
@[simp] theorem Ou:jt [.tup ps]=some (.ow ps):=rfl
@[simp] theorem VF:eY [.lst ps]=some (.tup ps):=rfl
@[simp] theorem VG:eY [.tup ps]=some (.tup ps):=rfl
@[simp] theorem ZaP{t:String}:yG [p,.ty t]=(kY p t).map .bl:=rfl
@[simp] theorem VH{x:Bool}:IV (.bl x)=some x:=rfl
@[simp] theorem VJ{x:Int}:IV (.int x)=some (x != 0):=rfl
@[simp] theorem VL:IV (.lst ps)=some (!ps.isEmpty):=rfl
@[simp] theorem yJ(xs:List α)(n:Nat):eO xs (n:Int)=xs[n]?:= by
  unfold eO o_
  rw[if_pos (by omega)]
  by_cases h:n<xs.length
  ·rw[if_pos (by omega)]
   simp
  ·rw[if_neg (by omega)]
   simp
   omega
@[simp] theorem VN(xs:List α)(n:Nat):eO xs (no_index (OfNat.ofNat n):Int)=xs[(no_index (OfNat.ofNat n):Nat)]?:= yJ xs n
@[simp] theorem LR{x y:Int}:uo x y=decide (y≠0):=rfl
end
theorem pL{x y:Int}(h1: -(2 ^ 64)<x)(h2:x<2 ^ 64):aX x y=true:=by unfold aX;rw[decide_eq_true (by omega:x.natAbs<18446744073709551616)];rfl
theorem mul_r{x y:Int}(h1: -(2 ^ 64)<y)(h2:y<2 ^ 64):aX x y=true:=by unfold aX;rw[decide_eq_true (by omega:y.natAbs<18446744073709551616)];simp
theorem Ov{x y:Int}(h1:y≠0)(h2:bits y≤8000):jo x y=true:=by unfold jo;simp[h1,h2]
section
variable{g:Tg}{mb:M Fl}{mc mt:M Bool}{me:M PV}{items:List PV}{ρ:Ŋ}
theorem lV{α:Type}(c f:α→PV)(I:Ŋ→Prop):∀(xs:List α) (ρ:Ŋ) (acc:List PV),I ρ→acc.length+xs.length≤16777216→
 (∀x∈xs,∀ρ,I ρ→∃ρ1 ρ2 ρ3,g (c x) ρ=some ρ1∧mt ρ1=.ok true ρ2∧me ρ2=.ok (f x) ρ3∧I ρ3)→Ŗ g mt me (xs.map c) ρ acc=some (acc++xs.map f)
 | [],ρ,acc,_,_,_=>by simp[Ŗ]
 |x::xs,ρ,acc,h,hz,hs=>by
  obtain⟨ρ1,ρ2,ρ3,h1,h2,h3,h4⟩:=hs x List.mem_cons_self ρ h
  rw[List.map_cons,Ŗ,h1]
  dsimp only
  rw[h2]
  dsimp only
  rw[h3]
  dsimp only
  rw[if_pos (by simp at hz;omega),lV c f I xs ρ3 (acc ++ [f x]) h4 (by simp at hz ⊢;omega) fun y hy=>hs y (List.mem_cons_of_mem _ hy)]
  simp
end
end P
namespace P
open PySem PySem.Spec PyProof.Rows L2 M2 M3 M4
def eZ(Q:String→Prop):List String→Prop
 | []=>True
 |c::cs=>Q c∧eZ Q cs
theorem eZ.get{Q:String→Prop}:∀{cs:List String} {C:String},eZ Q cs→cs.contains C=true→Q C
 | [],_,_,h=>by simp at h
 |c::cs,C,⟨h1,h2⟩,h=>by
  by_cases e:C=c
  ·rw[e];exact h1
  ·refine h2.get ?_
   rw[List.contains_cons] at h
   have:(C== c)=false:=by simpa using e
   rw[this,Bool.false_or] at h
   exact h
section
variable{X:Cx}{cm:String→Addr}{K:KK}{E:L2.St→XK}{a b e o:Expr}{es:List Expr}{pos apos:Pos}{m ma mb:M PV}{f:Str}
theorem jx{F:Hp}:∀{fs:List (Str×V)} {ps:List PV} {p:PV},Đ K F ps (fs.map (·.2))→((fs.map (·.1)).zip ps).lookup f=some p→∃v,fs.lookup f=some v∧Rep K F p v
 | [],ps,p,_,h=>by simp at h
 |(g,v)::fs,ps,p,r,h=>by
  have r':=r.pr
  rw[List.map_cons] at r'
  cases r' with
  |cons r1 t=>
   rename_i q qs
   rw[List.map_cons,List.zip_cons_cons,List.lookup_cons] at h
   rw[List.lookup_cons]
   cases hg:f== g with
   |true=>
    simp only[hg] at h
    cases h
    exact⟨v,rfl,r1⟩
   |false=>
    simp only[hg] at h
    exact jx (Đ.of t) h
theorem rR.ins{c:Ctx}{F H:Hp}{σ:L2.St}{ρ:Ŋ}{C:String}{ns:List Str}{ps:List PV}{v:V}(s:Same F H)(h:rR K c σ ρ F H (.ins C ns ps) v):∃a dx fs,v=.ref a∧H a=some (.ins (K.cm C) dx fs)∧fs.map (·.1)=ns∧Đ K F ps (fs.map (·.2)):=by
 rcases h with h|h
 ·unfold Rep at h
  obtain⟨a,dx,fs,h1,h2,h3,h4⟩:=h
  exact⟨a,dx,fs,h1,s _ _ h2,h3,h4⟩
 ·exact h
def cI(cs:List String)(f:Str):PV→Option PV
 | .ins C ns ps=>if cs.contains C=true then(ns.zip ps).lookup f else none
 |_=>none
theorem fV(cs:List String)(hcs:eZ (fun C=>Cls X.K (cm C)∧Ŕ X.K (cm C) f) cs)(he:PE X e (tR (kk X cm) E m))(hb:attributeBase e f X.env (eval e X.env)=eval e X.env:=by rfl):PE X (.Attribute e f pos) (tV (kk X cm) E (vN (cI cs f) m)):=
 PE.wk (HD he hb) fun σ H Q ⟨c,F,ρ,rel,h⟩=>⟨c,F,ρ,rel,h.bind fun p ρ1 v F1 H1 Ď _ _ r1 h1=>by
   cases p with
   |ins C ns ps=>
    unfold cI at h1
    dsimp only at h1
    split at h1
    ·rename_i hc
     obtain⟨a,dx,fs,rfl,q2,q3,q4⟩:=r1.ins Ď.sub
     cases el:(ns.zip ps).lookup f with
     |none=>rw[el] at h1;exact h1.elim
     |some q=>
      rw[el] at h1
      subst q3
      obtain⟨v,e1,e2⟩:=jx q4 el
      obtain⟨k1,k2⟩:=hcs.get hc
      exact⟨a,_,dx,fs,v,rfl,q2,k1,k2,e1,h1 v F1 H1 Ď (Same.refl _) (Same.refl _) e2⟩
    ·exact h1.elim
   |_=>exact h1.elim⟩
def yK(X:Cx)(cm:String→Addr)(CX:j_)(k n:Nat)(m:Str)(C:String)(mf:MF):Prop:=Cls X.K (cm C)∧∃f fd ps,Meth X.K (cm C) m f∧ľ X.prog X.w X.K X.mg X.base CX k f fd ps (bU (kk X cm) n mf)∧Binds X.K fd ps []∧
 ∀{ps:List Slot},(∃r,mf ps=r∧∀z,r=z→z≠ .bad)→ps.length=n
def yL(Q:String→MF→Prop):List (String×MF)→Prop
 | []=>True
 |(c,mf)::cs=>Q c mf∧yL Q cs
theorem yL.get{Q:String→MF→Prop}:∀{cs:List (String×MF)} {C:String} {mf:MF},yL Q cs→cs.lookup C=some mf→Q C mf
 | [],_,_,_,h=>by simp at h
 |(c,g)::cs,C,mf,⟨h1,h2⟩,h=>by
  rw[List.lookup_cons] at h
  cases hc:C== c with
  |true=>
   rw[hc] at h
   cases h
   have:C=c:=by simpa using hc
   rw[this];exact h1
  |false=>
   rw[hc] at h
   exact h2.get h
def cB(m:Str)(kI:List (String×MF))(mo:M PV)(ms:M (List Slot)):M RV:=fun ρ=>(mo ρ).bind fun p ρ1=>match p with
 | .ins C ns ps=>match kI.lookup C with
   |some mf=>if ns.contains m=true then .bad else(ms ρ1).bind fun as ρ2=>match mf (.sh (.ins C ns ps)::as) with
    | .ret r=>.ok r ρ2
    | .exc x=>.exc x ρ2
    | .bad=>.bad
   |none=>.bad
 |_=>.bad
theorem lW{m:Str}:∀{fs:List (Str×V)},(fs.map (·.1)).contains m=false→fs.lookup m=none
 | [],_=>rfl
 |(g,v)::fs,h=>by
  rw[List.map_cons,List.contains_cons,Bool.or_eq_false_iff] at h
  rw[List.lookup_cons,h.1]
  exact lW h.2
variable{CX:j_}{k n:Nat}{DN:Str}{kI:List (String×MF)}{ms:M (List Slot)}
theorem yM{c:Ctx}{F H:Hp}{σ:L2.St}{ρ:Ŋ}{Q:VK}(rel:Rel (kk X cm) c F H σ ρ)(h:ŵ (kk X cm) E (rO (kk X cm)) c F H σ Q (cB DN kI m ms ρ))(Jf:yL (fun C mf=>yK X cm CX k n DN C mf) kI) :
 ŵ (kk X cm) E (rV (kk X cm)) c F H σ (fun x H1=>∃a C dx fs g fd ps mf,x=.ref a∧H1 a=some (.ins C dx fs)∧Cls X.K C∧Meth X.K C DN g∧fs.lookup DN=none∧ľ X.prog X.w X.K X.mg X.base CX k g fd ps (bU (kk X cm) n mf)∧Binds X.K fd ps []∧
  tA (kk X cm) E ms σ H1 fun vs H2=>bU (kk X cm) n mf (.ref a::vs) H2 Q (E σ)) (m ρ):=
 ŵ.bind h fun p ρ1 v F1 H1 Ď _ _ r1 h1=>by
  cases p with
  |ins C ns ps=>
   dsimp only at h1
   cases el:kI.lookup C with
   |none=>rw[el] at h1;exact h1.elim
   |some mf=>
    rw[el] at h1
    dsimp only at h1
    split at h1
    ·exact h1.elim
    ·rename_i hn
     obtain⟨k1,f,fd,qs,k2,k3,k4,k5⟩:=Jf.get el
     have r1':Rep (kk X cm) F1 (.ins C ns ps) v:=r1
     have r2:=r1'
     unfold Rep at r2
     obtain⟨a,dx,fs,rfl,q2,q3,q4⟩:=r2
     refine⟨a,_,dx,fs,f,fd,qs,mf,rfl,Ď.sub _ _ q2,k1,k2,lW (by rw[q3];simpa using hn),k3,k4,c,F1,ρ1,Ď,ŵ.bind h1 fun as ρ2 vs F2 H2 ı sF sH r3 h3=>?_⟩
     exact pF (vs:=.ref a::vs) k5 ı (.cons (show au _ _ _ (.sh _) _ from Rep.same sF _ _ r1') r3) h3
  |_=>exact h1.elim
theorem uF{pl:Sem Bool}(Jf:yL (fun C mf=>yK X cm CX k n DN C mf) kI)(hr:ž k X.A)(hx:bV CX X E)(he:PE X o (tV (kk X cm) E m))
 (ht:eval (.Call (.Attribute o DN apos) [] [] pos) X.env=(do
   let ov ←eval o X.env
   standAt apos.atName
   let (f,first) ←holding [ov] (getMethod ov DN pl)
   callWith pos f first (backTo pos (starEach [] X.env)) (backToKw pos (keywordEach [] X.env))):=by rfl) :
 PE X (.Call (.Attribute o DN apos) [] [] pos) (tO (kk X cm) E (cB DN kI m Ę)):=by
 intro pins s σ H Q I ⟨c,F,ρ,rel,h⟩
 refine PySem.W.methodCall_KW (pl:=pl) (ś (he pins s σ H _ I ⟨c,F,ρ,rel,yM rel h Jf⟩) fun u s1 ⟨x,H1,I1,rx,a,C,dx,fs,g,fd,ps,mf,ex,ea,cl,k2,l,k3,k4,q⟩=>?_) ht
 subst ex
 obtain rfl:u=Value.ref a:=rx
 refine qL I1 ea cl k2 l ?_
 obtain⟨c1,F1,ρ1,Ď,q⟩:=q
 exact PySem.W.callWith_K0 (first:=[.ref a]) I1.fB k2.kp (um (us:=[.ref a]) (vs:=[.ref a]) k3 hr k4 hx I1 (.cons rfl .nil) (q [] F1 H1 Ď (Same.refl _) (Same.refl _) .nil))
def putN(f:Str):List Str→List Str
 | []=>[f]
 |g::r=>if g=f then g::r else g::putN f r
def rH(f:Str)(p:PV):List Str→List PV→List PV
 | [],_=>[p]
 |g::r,q::qs=>if g=f then p::qs else q::rH f p r qs
 |_::_,[]=>[]
theorem uG{F:Hp}{p:PV}{y:V}(ry:Rep K F p y):∀{fs:List (Str×V)} {ps:List PV},Đ K F ps (fs.map (·.2))→(bL f y fs).map (·.1)=putN f (fs.map (·.1))∧Đ K F (rH f p (fs.map (·.1)) ps) ((bL f y fs).map (·.2))
 | [],ps,r=>⟨rfl,Đ.cons ry Đ.nil⟩
 |(g,v)::fs,ps,r=>by
  have r':=r.pr
  rw[List.map_cons] at r'
  cases r' with
  |cons r1 t=>
   rename_i q qs
   unfold bL
   rw[List.map_cons]
   unfold putN rH
   by_cases hg:g=f
   ·rw[if_pos hg,if_pos hg,if_pos hg]
    exact⟨rfl,Đ.cons ry (Đ.of t)⟩
   ·rw[if_neg hg,if_neg hg,if_neg hg]
    obtain⟨h1,h2⟩:=uG ry (Đ.of t)
    exact⟨by rw[List.map_cons,h1],Đ.cons r1 h2⟩
def pN(i:Nat)(cs:List String)(f:Str)(mv:M PV):M Fl:=fun ρ=>(mv ρ).bind fun p ρ1=>match ρ1[i]? with
 |some (.rc C ns ps)=>if cs.contains C=true∧ns.length<1000 then .ok .nx (ρ1.set i (.rc C (putN f ns) (rH f p ns ps))) else .bad
 |_=>.bad
theorem bh{i:Nat}{x:Str}{px pos':Pos}(cs:List String)(hcs:eZ (fun C=>Cls X.K (cm C)∧Ŕ X.K (cm C) f) cs)(ho:PE X (.Name x px) (oX i))(he:PE X e (tV (kk X cm) E m))(hs:swapsWith e (some (.Attribute (.Name x px) f pos')) pos.line X.env=pure false:=by rfl) :
 PS X (.Assign [.Attribute (.Name x px) f pos'] e pos) (tS (kk X cm) E (pN i cs f m)):=PS.wk (HF ho he hs) fun D σ H ⟨c,F,ρ,rel,h⟩=>⟨c,F,ρ,rel,Ÿ.bind h fun p ρ1 y F1 H1 Ď s1 ry h1=>by
 cases e1:ρ1[i]? with
 |none=>rw[e1] at h1;exact h1.elim
 |some sl=>
  rw[e1] at h1
  cases sl with
  |rc C ns ps=>
   dsimp only at h1
   split at h1
   ·rename_i hc
    obtain⟨a,dx,fs,q1,q2,q3,q4,q5,q6,q7⟩:=Ď.slot i _ e1
    subst q5
    obtain⟨k1,k2⟩:=hcs.get hc.1
    refine⟨.ref a,at_of q1,a,_,dx,fs,rfl,q2,k1,k2,by simpa using hc.2,?_⟩
    obtain⟨z1,z2⟩:=uG (f:=f) (p:=p) ry q6
    exact h1 σ F1 _ (Ď.write ⟨_,_,e1,at_of q1,rfl⟩ (at_of q1) ⟨a,dx,_,rfl,ď,q3,q4,z1,z2,q7⟩ fun _ z=>(V.ref.inj z).symm) (Same.refl _)
   ·exact h1.elim
  |_=>exact h1.elim⟩
inductive IR where
 |ok (ns:List Str) (ps:List PV)|exc (x:PX)|bad
abbrev MI:=List Slot→IR
def IR.of:Res Fl→IR
 | .ok .nx (.rc _ ns ps::_)=>.ok ns ps
 | .exc x _=>.exc x
 |_=>.bad
def cC(n k:Nat)(C:String)(mb:M Fl):MI:=fun as=>if as.length+1=n then IR.of (mb (.rc C [] []::startP (k-1) as)) else .bad
structure VP(a:Addr)(F H F' H':Hp):Prop where
 h:∀b u,b≠a→H b=some u→H' b=some u
 f:Same F F'
 sub:Same F' H'
 out:∀b,b≠a→H b≠none→F b=none→F' b=none
def ZaQ(K:KK)(E:XK)(F H:Hp)(Q:VK)(a dx:Addr)(C:String):IR→Prop
 | .ok ns ps=>∀F' H' fs,VP a F H F' H'→H' a=some (.ins (K.cm C) dx fs)→F' a=none→fs.map (·.1)=ns→Đ K F' ps (fs.map (·.2))→Q .non H'
 | .exc x=>∀C' d F' H',VP a F H F' H'→Dk K F' x C' d→E C' d H'
 | .bad=>False
def DP(K:KK)(n:Nat)(C:String)(mi:MI):Sp:=fun vs H Q E=>∃F a dx vs' as,vs=.ref a::vs'∧as.length+1=n∧H a=some (.ins (K.cm C) dx [])∧F a=none∧Same F H∧Paired (au K F H) as vs'∧ZaQ K E F H Q a dx C (mi as)
def DQ(a dx:Addr)(C:String)(F H:Hp):Ctx:=⟨fun b=>if b=a then none else H b,F,fun b=>if b=a then none else(ctx0 F H).L b,fun a' dx' C'=>a'=a∧dx'=dx∧C'=C⟩
theorem Rel.gri{σ:L2.St}{ρ:Ŋ}{a dx:Addr}{C:String}{F H F' H':Hp}(r:Rel K (DQ a dx C F H) F' H' σ ρ):VP a F H F' H':=
 ⟨fun b u hb e=>r.base b u (by show(if b=a then none else H b)=_;rw[if_neg hb];exact e),r.f0,r.sub,fun b hb h1 h2=>r.ao b (by show(if b=a then none else H b)≠none;rw[if_neg hb];exact h1) h2⟩
theorem Rel.Jg{F H:Hp}{N:List Str}{as:List Slot}{vs:List V}{a dx:Addr}{C:String}(s:Same F H)(ha:H a=some (.ins (K.cm C) dx []))(hF:F a=none)(h:Paired (au K F H) as vs) :
 Rel K (DQ a dx C F H) F H (L2.start N (.ref a::vs)) (.rc C [] []::startP (N.length-1) as):=by
 have r0:=Rel.start (N:=N) (K:=K) s (as:=.sh (.int 0)::as) (vs:=.int 0::vs) (.cons (Rep.int (K:=K) (F:=F) (i:=0)) h)
 have est:L2.start N (.ref a::vs)=some (.ref a)::(L2.start N (.int 0::vs)).tail:=by unfold L2.start;simp
 have ZaR:(L2.start N (V.int 0::vs)).tail.length=(startP (N.length-1) as).length:=by
  unfold L2.start startP
  simp[Paired.length h]
  omega
 have tl:∀i:Nat,(L2.start N (.int 0::vs)).tail[i]?=(L2.start N (.int 0::vs))[i+1]?:= fun i=>by simp
 have sp:∀i:Nat,(startP (N.length-1) as)[i]?=(startP N.length (.sh (.int 0)::as))[i+1]?:= fun i=>by
  unfold startP
  simp only[List.cons_append,List.getElem?_cons_succ,List.length_cons]
  rw[show N.length-1-as.length=N.length-(as.length+1) by omega]
 have pO:∀(i:Nat) (s':Slot),(startP (N.length-1) as)[i]?=some s'→s'.own=false:=fun i s' e=>by
  unfold startP at e
  by_cases hi:i<as.length
  ·rw[List.getElem?_append_left hi] at e
   obtain⟨v,_,h3⟩:=bR h e
   exact(au.slot h3).2
  ·rw[List.getElem?_append_right (by omega),List.getElem?_replicate] at e
   split at e
   ·cases e;rfl
   ·cases e
 rw[est]
 refine⟨s,fun b u e=>?_,Same.refl _,fun _ _ z=>z,fun b u e=>?_,fun b e=>?_,?_,fun i s' e=>?_,fun i j b h1 h2=>?_⟩
 ·have e':(if b=a then none else H b)=some u:=e
  split at e'
  ·cases e'
  ·exact e'
 ·have e':(if b=a then none else(ctx0 F H).L b)=some u:=e
  split at e'
  ·cases e'
  ·exact bT e'
 ·show(if b=a then none else(ctx0 F H).L b)=none
  have e':(if b=a then none else H b)=none:=e
  split
  ·rfl
  ·rename_i hb
   rw[if_neg hb] at e'
   exact r0.lb b e'
 ·simp[ZaR]
 ·cases i with
  |zero=>
   cases e
   exact⟨a,dx,[],rfl,ha,hF,by show(if a=a then none else H a)=none;rw[if_pos rfl],rfl,Đ.nil,rfl,rfl,rfl⟩
  |succ i=>
   have e':(startP (N.length-1) as)[i]?=some s':=by simpa using e
   have q:=r0.slot (i+1) s' (by rw[←sp];exact e')
   rw[←tl] at q
   show Ő K (DQ a dx C F H) F H (((some (V.ref a)::(L2.start N (.int 0::vs)).tail)[i+1]?).getD none) s'
   rw[List.getElem?_cons_succ]
   cases s' with
   |no=>trivial
   |sh p=>exact q
   |bw ps=>
    obtain⟨b,ws,q1,q2,q3⟩:=q
    refine⟨b,ws,q1,?_,q3⟩
    show(if b=a then none else(ctx0 F H).L b)=_
    rw[if_neg (fun z=>by
     have:=(bT q2).1
     rw[z,ha] at this
     cases this)]
    exact q2
   |ow ps=>have:=pO i _ e';cases this
   |rc C ns ps=>have:=pO i _ e';cases this
   |ot ps qs=>have:=pO i _ e';cases this
   |ol Ů=>have:=pO i _ e';cases this
 ·have at0:∀{i},Ń F (some (.ref a)::(L2.start N (.int 0::vs)).tail) (Slot.rc C [] []::startP (N.length-1) as) i b→i=0:=fun{i} ⟨s',y,q1,_,q2⟩=>by
   have q2:=jh q2
   cases i with
   |zero=>rfl
   |succ i=>
    have:=pO i s' (by simpa using q1)
    rw[this] at q2
    cases q2
  rw[at0 h1,at0 h2]
end
section
variable{P:Program}{w:World}{K:PySem.W.Frag}{cm:String→Addr}{mg:Str→Option Value}{base:Heap}{CX:j_}
theorem Ow{x qual:Str}{st:Stmt}{f:Addr}{fd:FuncData}{N ps:List Str}{k n j:Nat}{C:String}{mb:M Fl}{mi:MI}(F:dD K x qual st f fd)(S:ģ N ps (Ĉ st))(hn:ps.length=n)(hj:N.length=j)(hf:mi=cC n j C mb)
 (hbody:∀(cdv:Value) (A:Around) (outer:List Env) (s:Shared) (H:Hp) (E:XK),ž k (A.deeper (envOfC qual (Ĉ st) s.heap.objs.size f cdv))→
   jd (aB CX P w K mg base N qual (Ĉ st) f cdv A outer s H E) (aC st) (tS ⟨K,cm⟩ (fun _=>E) mb)):ľ P w K mg base CX (k+1) f fd ps (DP ⟨K,cm⟩ n C mi):=by
 subst hn hj hf
 obtain⟨oc,od,kV,doc,pm,an,cdv,ct,osl,rfl,lk,hcd⟩:=F.ex
 refine Fp lk hcd S (fun vs H Q E ⟨F,a,dx,vs',as,h1,h2,_,_,_,h3,_⟩=>by rw[h1,List.length_cons,←Paired.length h3];exact h2) fun A outer s H vs Q E hr hsp=>?_
 obtain⟨F,a,dx,vs',as,rfl,h2,h3,h4,h5,h6,h7⟩:=hsp
 refine⟨_,hbody cdv A outer s H E hr,DQ a dx C F H,F,_,Rel.Jg h5 h3 h4 h6,?_⟩
 unfold cC at h7
 rw[if_pos h2] at h7
 cases e:mb (.rc C [] []::startP (N.length-1) as) with
 |bad=>rw[e] at h7;exact h7
 |exc x ρ'=>rw[e] at h7;exact fun σ' C' d F' H' rel s1 q=>h7 C' d F' H' rel.gri q
 |ok fl ρ'=>
  rw[e] at h7
  cases fl with
  |nx=>
   cases ρ' with
   |nil=>exact h7.elim
   |cons sl ρ'=>
    cases sl with
    |rc C' ns qs=>
     intro σ' F' H' rel s1
     obtain⟨b,dy,fs,q1,q2,q3,q4,q5,q6,rfl,rfl,rfl⟩:=rel.slot 0 _ rfl
     exact h7 F' H' fs rel.gri q2 q3 q5 q6
    |_=>exact h7.elim
  |bk=>exact h7.elim
  |ct=>exact h7.elim
  |rt r=>exact h7.elim
end
def bF(C:String)(mi:MI)(ms:M (List Slot)):M PV:=fun ρ=>(ms ρ).bind fun as ρ1=>match mi as with
 | .ok ns ps=>.ok (.ins C ns ps) ρ1
 | .exc x=>.exc x ρ1
 | .bad=>.bad
section
variable{X:Cx}{cm:String→Addr}{E:L2.St→XK}{e:Expr}{es:List Expr}{pos p:Pos}{CX:j_}{k n:Nat}{f:Addr}{fd:FuncData}{ps:List Str}{C:String}{mi:MI}{ms:M (List Slot)}{x:Str}
theorem yN{c:Ctx}{F1 H1:Hp}{σ:L2.St}{ρ1:Ŋ}{Q:VK}{as:List Slot}{vs:List V}(hlen:(∃r,mi as=r∧∀z,r=z→z≠ .bad)→as.length+1=n)(Ď:Rel (kk X cm) c F1 H1 σ ρ1)(r1:Paired (au (kk X cm) F1 H1) as vs)
 (h:ŵ (kk X cm) E (rV (kk X cm)) c F1 H1 σ Q (match mi as with| .ok ns ps=>.ok (.ins C ns ps) ρ1| .exc x=>.exc x ρ1| .bad=>.bad)) :
 ∀x dx,H1 x=none→H1 dx=none→dx≠x→DP (kk X cm) n C mi (.ref x::vs) (upd (upd H1 dx (.own x)) x (.ins (cm C) dx [])) (fun v H2=>v=.non∧Q (.ref x) H2) (E σ):=by
 intro x dx hx hdx hne
 have up:∀b u,H1 b=some u→upd (upd H1 dx (.own x)) x (.ins (cm C) dx []) b=some u:=fun b u e=>by
  rw[č (ĵ e hx),č (ĵ e hdx)];exact e
 have DR:∀{F' H':Hp},VP x F1 (upd (upd H1 dx (.own x)) x (.ins (cm C) dx [])) F' H'→Gr F1 H1 F' H':=fun{F' H'} g=>
  ⟨fun b u e=>g.h b u (ĵ e hx) (up b u e),g.f,g.sub,fun b hb hf=>by
    obtain⟨u,hu⟩:∃u,H1 b=some u:=by
     cases q:H1 b with
     |none=>exact absurd q hb
     |some u=>exact⟨u,rfl⟩
    exact g.out b (ĵ hu hx) (by rw[up b u hu];intro z;cases z) hf⟩
 refine⟨F1,x,dx,vs,as,rfl,?_,ď,Ď.sub.free hx,fun b u e=>up b u (Ď.sub b u e),?_,?_⟩
 ·refine hlen ⟨_,rfl,fun z hz hb=>?_⟩
  rw[hz,hb] at h
  exact h
 ·refine Paired.mono (fun s v hs=>?_) r1
  cases s with
  |sh p=>exact hs
  |bw qs=>
   obtain⟨b,ws,q1,q2,q3,q4⟩:=hs
   exact⟨b,ws,q1,up b _ q2,q3,q4⟩
  |_=>exact hs.elim
 ·cases em:mi as with
  |bad=>rw[em] at h;exact h
  |exc y=>rw[em] at h;exact fun C' d F' H' g rx=>h C' d F' H' (Ď.call (DR g)) g.f rx
  |ok ns qs=>
   rw[em] at h
   intro F' H' fs g hx' hF' hn hr
   have r2:=Ď.call (DR g)
   have r3:=r2.freeze hx' (Ď.base.free hx) hF' (Ď.cN (DR g).f (Ď.fresh hx))
   refine⟨rfl,h _ _ H' r3 (g.f.trans (Same.upd hF')) (DR g).h ?_⟩
   show Rep _ _ _ _
   unfold Rep
   exact⟨x,dx,fs,rfl,ď,hn,Đ.same (Same.upd hF') qs _ hr⟩
theorem vU{pins:List (Addr×Obj)}{σ:L2.St}{H:Hp}{s:Shared}{Q:VK}{us:List Value}{vs:List V}{sp:Sp}{C:Addr}(M:Mk X.K C f)(F:ľ X.prog X.w X.K X.mg X.base CX k f fd ps sp)(hr:ž (k+1) X.A)(hb:Binds X.K fd ps [])
 (hx:bV CX X E)(I:Inv X pins σ H s)(r:Vals vs us)
 (h:∀x dx,H x=none→H dx=none→dx≠x→sp (.ref x::vs) (upd (upd H dx (.own x)) x (.ins C dx [])) (fun v H2=>v=.non∧Q (.ref x) H2) (E σ)) :
 wpAny (model X.prog X.w) X.A (call (.ref C) us) (EP X pins σ Q) X.xe s:=by
 have hq:=h (s.heap.objs.size+1) s.heap.objs.size (I.hok.fresh (Nat.le_succ _)) (I.hok.fresh (Nat.le_refl _)) (Nat.ne_of_lt (Nat.lt_succ_self _))
 have I2:=Inv.made (C:=C) I
 have r2:Vals (V.ref (s.heap.objs.size+1)::vs) (Value.ref (s.heap.objs.size+1)::us):=.cons rfl r
 have hl:(Value.ref (s.heap.objs.size+1)::us ++ []).length=ps.length:=by
  have e:=r2.length
  rw[F.len _ _ _ _ hq] at e
  rw[List.append_nil]
  exact e.symm
 have hbd:=hb {s with heap:=(s.heap.push PySem.W.emptyDict).push (PySem.W.instObj C s.heap.objs.size)} (Value.ref (s.heap.objs.size+1)::us) I2.fB hl
 rw[List.append_nil] at hbd
 refine wpAny_call (wW (f:=f) I.fB M.makes M.init (beq_iff_eq.mp M.fn) (codeAny_mono (F.run _ X.stack _ _ ⟨Value.ref (s.heap.objs.size+1)::us,[]⟩ _ _ _ (E σ) (hr.make C us []) (I2.env0.make C us []) hbd r2 hq) fun r s' hq'=>?_))
 cases r with
 |error e=>exact hx pins σ _ _ e s' I2 hq'
 |ok fl=>
  cases fl with
  |ret u=>
   obtain⟨v,H',I3,rv,ev,q3⟩:=I2.after hq'
   subst ev
   exact⟨rv,⟨V.ref (s.heap.objs.size+1),H',I3,rfl,q3⟩⟩
  |next=>exact False.elim hq'
  |brk=>exact False.elim hq'
  |cont=>exact False.elim hq'
theorem bG{n k:Nat}{C:String}{mb:M Fl}{as:List Slot}(h:∃r,cC n k C mb as=r∧∀z,r=z→z≠ .bad):as.length+1=n:=by
 obtain⟨r,h1,h2⟩:=h
 unfold cC at h1
 by_cases hl:as.length+1=n
 ·exact hl
 ·rw[if_neg hl] at h1
  exact absurd h1.symm (fun z=>h2 .bad (by rw[←h1]) rfl)
theorem jy(M:Mk X.K (cm C) f)(F:ľ X.prog X.w X.K X.mg X.base CX k f fd ps (DP (kk X cm) n C mi))(hlen:∀{as:List Slot},(∃r,mi as=r∧∀z,r=z→z≠ .bad)→as.length+1=n)(hr:ž (k+1) X.A)(hg:Gl X x)(hm:X.mg x=some (.ref (cm C)))(hb:Binds X.K fd ps [])(hx:bV CX X E)
 (ha:PA X (e::es) (tA (kk X cm) E ms))(hdb:(x== ("__debug__" :Str))=false:=by decide)(he:starEach (e::es) X.env=(false,eval e X.env)::starEach es X.env:=by exact Ā rfl)(hpl:(backTo pos (starEach es X.env)).any (·.1)=false:=by rfl) :
 PE X (.Call (.Name x p) (e::es) [] pos) (tV (kk X cm) E (bF C mi ms)):=by
 intro pins s σ H Q I ⟨c,F',ρ,rel,h⟩
 refine wpAny_Call_Name_kw (iJ I hg hm ?_ hdb)
 refine PySem.W.callWith_K (h₀:= X.base) I.ok.mod.UW M.kp (ś (ha pos pins s σ H (fun vs H1=>∀x dx,H1 x=none→H1 dx=none→dx≠x→DP (kk X cm) n C mi (.ref x::vs) (upd (upd H1 dx (.own x)) x (.ins (cm C) dx [])) (fun v H2=>v=.non∧Q (.ref x) H2) (E σ)) I
  ⟨c,F',ρ,rel,ŵ.bind h fun as ρ1 vs F1 H1 Ď _ _ r1 h1=>yN hlen Ď r1 h1⟩) fun us s1 ⟨vs,H1,I1,r,q⟩=>⟨I1.fB,?_⟩) he hpl
 exact vU M F hr hb hx I1 r q
end
end P
namespace P
open PySem PySem.Spec PyProof.Rows L2 M2 M3 M4
def Jh(B:Heap)(e:Addr)(C:Value)(d:Option Addr)(fl:Value)(h:Heap):Prop:=
 ∃oe vs T oT ts,h.get? e=some oe∧(oe.cls=C∧oe.dict=d)∧oe.data=.fields vs∧vs[1]?=some (.ref T)∧B.get? T=none∧T≠e∧h.get? T=some oT∧oT.data=.fields ts∧ts[3]?=some fl
structure Moved(h h':Heap):Prop where
 up:h.UpToSlots h'
 there:∀b o,h.get? b=some o→∃o',h'.get? b=some o'
theorem Moved.trans{h h1 h2:Heap}(a:Moved h h1)(b:Moved h1 h2):Moved h h2:=⟨a.up.trans b.up,fun c o e=>let ⟨o1,e1⟩:=a.there c o e;b.there c o1 e1⟩
theorem vV(o:Obj)(f:Array Value→Array Value):(o.mapFields f).dict=o.dict:=by
 obtain⟨c,d,dt,sl⟩:=o
 cases dt<;>rfl
section
variable{M:Model}{A:Around}{E:Value→Shared→Prop}{s:Shared}{B:Heap}{env:Env}{outer:List Env}{L e:Addr}{Q:Unit→Shared→Prop}
theorem Ox{oe:Obj}{vs:Array Value}{head:Value}{nxt:Bool}(hfr:A.frames=some (env::outer))(hl:s.heap.FunFrames B (env::outer))(hf:env.frame=some L)
 (he:s.heap.get? e=some oe)(hkb:B.StaysIn s.heap)(hen:B.get? e=none)(hd:oe.data=.fields vs)(hsz:1<vs.size)
 (k:∀h',B.StaysIn h'→h'.FunFrames B (env::outer)→Jh B e oe.cls oe.dict (rawInt L) h'→Moved s.heap h'→Q () {s with heap:=h'}) :
 wpAny M A (do
  let a ←frameOf env
  let pl ←entryPlaceOf L nxt
  let b ←EntryCells.newEntry head a .none (rawInt L) .none pl
  setField (.ref e) 1 b) Q E s:=by
 have out:e∉(env::outer).filterMap (·.frame):=fun z=>by
  obtain⟨_,o,ho,hn⟩:=hl.mem z
  rw[he] at ho
  cases ho
  exact hn vs hd
 refine wpAny_bind (wpAny_frameOf_fun hfr hl hf fun g1 so=>?_)
 refine wpAny_bind (wpAny_entryPlaceOf fun pl hpl=>?_)
 unfold EntryCells.newEntry newFields
 refine wpAny_bind (wpAny_newObj_type ?_ (hpl.sizeOk5 _ _ _ _ _))
 have e1:g1.get? e=some oe:=(so.2.1 e out).trans he
 have b1:B.StaysIn g1:=fun b o q=>(so.2.1 b fun z=>by
  rw[(hl.mem z).1] at q
  cases q).trans (hkb b o q)
 generalize hnw:([head,Value.ref L,.none,rawInt L,.none]++(if pl.isEmpty then List.replicate 6 Value.none else pl))=nw
 have n3:nw.toArray[3]?=some (rawInt L):=by rw[←hnw];simp
 dsimp only
 have e2:=Heap.get?_push_of_some (h:=g1) {cls:=.type "traceback",dict:=none,data:=.fields nw.toArray} e1
 refine wpAny_setField e2 hd hsz ?_
 have ne:g1.objs.size≠e:=Nat.ne_of_gt (Heap.lt_size e1)
 have d3:=Obj.data_mapFields hd (·.setIfInBounds 1 (Value.ref g1.objs.size))
 have e3:=Heap.get?_update_self (Obj.mapFields (·.setIfInBounds 1 (Value.ref g1.objs.size))) e2 (Obj.isFreed_of_fields d3)
 have kp:∀b o,b≠e→g1.get? b=some o→((g1.push {cls:=.type "traceback",dict:=none,data:=.fields nw.toArray}).update e (Obj.mapFields (·.setIfInBounds 1 (Value.ref g1.objs.size)))).get? b=some o:=fun b o hb q=>by
  rw[Heap.get?_update_other _ _ (Ne.symm hb)]
  exact Heap.get?_push_of_some _ q
 have t3:((g1.push {cls:=.type "traceback",dict:=none,data:=.fields nw.toArray}).update e (Obj.mapFields (·.setIfInBounds 1 (Value.ref g1.objs.size)))).get? g1.objs.size=some {cls:=.type "traceback",dict:=none,data:=.fields nw.toArray}:=by
  rw[Heap.get?_update_other _ _ (Ne.symm ne)]
  exact Heap.get?_push_size g1 rfl
 have nr:∀b o,s.heap.get? b=some o→(∀ws,o.data≠ .fields ws)→b≠e:=fun b o q hn z=>by
  rw[z,he] at q
  cases q
  exact hn vs hd
 refine k _ (fun b o q=>kp b o (fun z=>by rw[z,hen] at q;cases q) (b1 b o q)) (hl.of_keeps fun b o q hn=>?_) ?_ ⟨fun b o q hn=>?_,fun b o q=>?_⟩
 ·obtain⟨sl,z⟩:=so.2.2 b o q
  exact⟨_,kp b _ (nr b o q hn) z,rfl⟩
 ·exact⟨_,_,g1.objs.size,_,_,e3,⟨Obj.cls_mapFields _ _,vV _ _⟩,d3,by simp[hsz],b1.fresh,ne,t3,rfl,n3⟩
 ·obtain⟨sl,z⟩:=so.2.2 b o q
  exact⟨sl,kp b _ (nr b o q hn) z⟩
 ·obtain⟨sl,z⟩:=so.2.2 b o q
  by_cases hb:b=e
  ·rw[hb];exact⟨_,e3⟩
  ·exact⟨_,kp b _ hb z⟩
theorem DW{oe:Obj}{vs:Array Value}(hfr:A.frames=some (env::outer))(hl:s.heap.FunFrames B (env::outer))(hf:env.frame=some L)(he:s.heap.get? e=some oe)(hkb:B.StaysIn s.heap)(hen:B.get? e=none)
 (hd:oe.data=.fields vs)(h1:vs[1]?=some .none)(k:∀h',B.StaysIn h'→h'.FunFrames B (env::outer)→Jh B e oe.cls oe.dict (rawInt L) h'→Moved s.heap h'→Q () {s with heap:=h'}) :
 wpAny M A (noteFrame (.ref e) env) Q E s:=by
 unfold noteFrame
 simp only[hf]
 refine wpAny_bind (wpAny_field he hd h1 ?_)
 rw[if_neg (by decide)]
 exact Ox hfr hl hf he hkb hen hd (Array.getElem?_eq_some_iff.mp h1).1 k
theorem Ji{C:Value}{d:Option Addr}(hfr:A.frames=some (env::outer))(hl:s.heap.FunFrames B (env::outer))(hf:env.frame=some L)(ht:Jh B e C d .none s.heap)(hkb:B.StaysIn s.heap)(hen:B.get? e=none)
 (k:∀h',B.StaysIn h'→h'.FunFrames B (env::outer)→Jh B e C d (rawInt L) h'→Moved s.heap h'→Q () {s with heap:=h'}):wpAny M A (noteFrame (.ref e) env) Q E s:=by
 obtain⟨oe,vs,T,oT,ts,he,⟨rfl,rfl⟩,hd,h1,hT,hTe,hT2,hdT,h3⟩:=ht
 unfold noteFrame
 simp only[hf]
 refine wpAny_bind (wpAny_field he hd h1 ?_)
 rw[if_pos (show(Value.ref T != Value.none)=true by simp)]
 refine wpAny_bind (wpAny_field hT2 hdT h3 ?_)
 rw[if_neg (show ¬((Value.none== rawInt L)=true) by simp[rawInt])]
 refine wpAny_bind (wpAny_setField hT2 hdT (Array.getElem?_eq_some_iff.mp h3).1 ?_)
 have oth:∀b,b≠T→(s.heap.update T (Obj.mapFields (·.setIfInBounds 3 Value.none))).get? b=s.heap.get? b:=fun b hb=>Heap.get?_update_other _ _ (Ne.symm hb)
 have nr:∀b o,s.heap.get? b=some o→(∀ws,o.data≠ .fields ws)→b≠T:=fun b o q hn z=>by
  rw[z,hT2] at q
  cases q
  exact hn ts hdT
 refine Ox hfr (hl.of_keeps fun b o q hn=>⟨o,(oth b (nr b o q hn)).trans q,rfl⟩) hf ((oth e (Ne.symm hTe)).trans he) (fun b o q=>(oth b fun z=>by rw[z,hT] at q;cases q).trans (hkb b o q)) hen hd (Array.getElem?_eq_some_iff.mp h1).1
  fun h' x1 x2 x3 x4=>k h' x1 x2 x3 (Moved.trans ⟨fun b o q hn=>⟨o.slots,(oth b (nr b o q hn)).trans q⟩,fun b o q=>?_⟩ x4)
 by_cases hb:b=T
 ·rw[hb];exact⟨_,Heap.get?_update_self _ hT2 (Obj.isFreed_of_fields (Obj.data_mapFields hdT _))⟩
 ·exact⟨o,(oth b hb).trans q⟩
theorem uH{C fl:Value}{d:Option Addr}{l:List Env}(hkb:B.StaysIn s.heap)(hl:s.heap.FunFrames B l)(ht:Jh B e C d fl s.heap)
 (k:∀h',B.StaysIn h'→h'.FunFrames B l→Jh B e C d .none h'→Moved s.heap h'→Q () {s with heap:=h'}):wpAny M A (setFlight (.ref e) none) Q E s:=by
 obtain⟨oe,vs,T,oT,ts,he,hc,hd,h1,hT,hTe,hT2,hdT,h3⟩:=ht
 have z3:3<ts.size:=(Array.getElem?_eq_some_iff.mp h3).1
 have oth:∀b,b≠T→(s.heap.update T (Obj.mapFields (·.setIfInBounds 3 ((none:Option Addr).elim Value.none fun f=>rawInt f)))).get? b=s.heap.get? b:=fun b hb=>Heap.get?_update_other _ _ (Ne.symm hb)
 have nr:∀b o,s.heap.get? b=some o→(∀ws,o.data≠ .fields ws)→b≠T:=fun b o q hn z=>by
  rw[z,hT2] at q
  cases q
  exact hn ts hdT
 unfold setFlight
 refine wpAny_bind (wpAny_field he hd h1 ?_)
 rw[if_pos (show(Value.ref T != Value.none)=true by simp)]
 refine wpAny_setField hT2 hdT z3 (k _ (fun b o q=>(oth b fun z=>by rw[z,hT] at q;cases q).trans (hkb b o q)) (hl.of_keeps fun b o q hn=>⟨o,(oth b (nr b o q hn)).trans q,rfl⟩) ?_ ⟨fun b o q hn=>⟨o.slots,(oth b (nr b o q hn)).trans q⟩,fun b o q=>?_⟩)
 rotate_left
 ·by_cases hb:b=T
  ·rw[hb];exact⟨_,Heap.get?_update_self _ hT2 (Obj.isFreed_of_fields (Obj.data_mapFields hdT _))⟩
  ·exact⟨o,(oth b hb).trans q⟩
 exact⟨oe,vs,T,_,_,(oth e (Ne.symm hTe)).trans he,hc,hd,h1,hT,hTe,Heap.get?_update_self _ hT2 (Obj.isFreed_of_fields (Obj.data_mapFields hdT _)),Obj.data_mapFields hdT _,by simp[z3]⟩
end
theorem jA{P:Program}{w:World}{H:Hp}{h:Heap}{a:Addr}{o:HO}(x:Ś P w H h a o):∃ob,h.get? a=some ob:=by
 cases o with
 |lst xs=>obtain⟨_,_,_,_,e⟩:=x;exact⟨_,e⟩
 |tup xs=>obtain⟨_,_,_,ob,e,_⟩:=x;exact⟨_,e⟩
 |dK kvs=>obtain⟨_,_,_,_,ob,_,_,e,_⟩:=x;exact⟨_,e⟩
 |dT kvs=>obtain⟨_,_,_,_,ob,_,_,e,_⟩:=x;exact⟨_,e⟩
 |set S n=>obtain⟨ob,_,_,_,e,_⟩:=x;exact⟨_,e⟩
 |ins C dx fs=>obtain⟨_,_,_,e,_⟩:=x;exact⟨_,e⟩
 |own y=>exact x
 |xd fs=>obtain⟨_,⟨ob,_,_,e,_⟩,_⟩:=x;exact⟨_,e⟩
 |rng lo hi=>obtain⟨_,_,_,e⟩:=x;exact⟨_,e⟩
 |ao ob u=>obtain⟨e,_⟩:=x;exact⟨_,e⟩
 |kI ps=>exact⟨_,(show h.get? a=some _ from x)⟩
 |met f y=>exact⟨_,(show h.get? a=some _ from x)⟩
 |ext φ=>obtain⟨_,e,_⟩:=x;exact e
theorem dR.sub{P:Program}{w:World}{H:Hp}{h B:Heap}(x:dR P w H h)(k:∀b o u,H b=some u→h.get? b=some o→B.get? b=some o):dR P w H B:=fun a o e=>
 (x a o e).stay (fun b u hb q=>by
   rcases hb with rfl|hb
   ·exact k _ _ _ e q
   ·exact k _ _ _ hb q) (fun _ q=>q) fun _ _ q=>q
structure UnX(fs:List Addr)(H H':Hp)(h B h':Heap):Prop where
 keep:∀b o,h.get? b=some o→H b=none→b∉fs→B.get? b=some o
 slot:∀b o,h.get? b=some o→H b=none→b∈fs→∃sl,h'.get? b=some {o with slots:=sl}
 free:∀b o,h.get? b=some o→H b=none→H' b=none
 there:∀b o,h.get? b=some o→∃o',h'.get? b=some o'
 tups:∀b xs,H b=some (.tup xs)→H' b=some (.tup xs)
 fC:∀b o u,H b=some (.ao o u)→H' b=some (.ao o u)
 gq:∀b ps,H b=some (.kI ps)→∃more,H' b=some (.kI (ps++more))
structure Lies(P:Program)(w:World)(outer:List Env)(H:Hp)(s:Shared)(ea:Addr)(C:Value)(d:Option Addr)(fl:Value)(H':Hp)(B:Heap)(s':Shared):Prop where
 os:s'.os=s.os
 bare:AllBare s'.gens
 st:B.StaysIn s'.heap
 en:B.get? ea=none
 fr:s'.heap.FunFrames B outer
 tr:Jh B ea C d fl s'.heap
 hok:dR P w H' B
 un:UnX (frs outer) H H' s.heap B s'.heap
 no:H' ea=none
 new:s.heap.get? ea=none
def aY(P:Program)(w:World):j_:=fun outer H s E e s'=>∃ea C d H' B,e=.ref ea∧Lies P w outer H s ea C d .none H' B s'∧E C d H'
theorem lX{P:Program}{w:World}{outer:List Env}{H:Hp}{s s':Shared}{e:Value}(h:aY P w outer H s (fun _ _ _=>False) e s'):False:=by
 obtain⟨_,_,_,_,_,_,_,h⟩:=h
 exact h
theorem jB{P:Program}{w:World}{X:Cx}:bV (aY P w) X EF:=fun _ _ _ _ _ _ _ h=>(lX h).elim
section
variable{P:Program}{w:World}{K:PySem.W.Frag}{mg:Str→Option Value}{base:Heap}{N:List Str}{qual:Str}{scope:Scope}{f:Addr}{cdv:Value}{A:Around}{outer:List Env}{s₀:Shared}{H₀:Hp}{E:XK}
theorem İ:bV (aY P w) (aB (aY P w) P w K mg base N qual scope f cdv A outer s₀ H₀ E) (fun _=>E):=by
 intro pins σ H s e s' I h
 obtain⟨ea,C,d,H',B,rfl,l,hE⟩:=h
 have hfr:(A.deeper (envOfC qual scope s₀.heap.objs.size f cdv)).frames=some (envOfC qual scope s₀.heap.objs.size f cdv::outer):=I.ok.frames
 show wpAny _ _ (leaving _ _) _ _ s'
 unfold leaving
 refine wpAny_bind (Ji hfr l.fr rfl l.tr l.st l.en fun h1 x1 x2 x3 x4=>?_)
 refine uH (s:={s' with heap:=h1}) x1 x2 x3 fun h2 y1 y2 y3 y4=>?_
 obtain⟨_,_,y2'⟩:=y2
 have mv:=x4.trans y4
 have Lx:∀b o,s₀.heap.get? b=some o→b∉frs outer→b∉frs (envOfC qual scope s₀.heap.objs.size f cdv::outer):=fun b o q hb z=>by
  rcases List.mem_cons.mp (show b∈s₀.heap.objs.size::frs outer from z) with z|z
  ·exact absurd (Heap.lt_size q) (by rw[z];exact Nat.lt_irrefl _)
  ·exact hb z
 have inL:∀b,b∈frs outer→b∈frs (envOfC qual scope s₀.heap.objs.size f cdv::outer):=fun b z=>List.mem_cons_of_mem _ z
 refine⟨ea,C,d,H',B,rfl,⟨l.os.trans I.os,l.bare,y1,l.en,y2',y3,l.hok,⟨fun b o q n hb=>?_,fun b o q n hb=>?_,fun b o q n=>?_,fun b o q=>?_,fun b xs q=>l.un.tups b xs (I.base.tups b xs q),fun b o u q=>l.un.fC b o u (I.base.fC b o u q),fun b ps q=>?_⟩,l.no,?_⟩,hE⟩
 ·exact l.un.keep b o (I.base.keep b o q n hb (by simp[aB])) (I.base.free b o q n (by simp[aB])) (Lx b o q hb)
 ·obtain⟨sl,q1⟩:=I.base.slot b o q n hb (by simp[aB])
  obtain⟨sl2,q2⟩:=l.un.slot b _ q1 (I.base.free b o q n (by simp[aB])) (inL b hb)
  have nf:∀vs,o.data≠ .fields vs:=by
   obtain⟨_,o',q3,hn⟩:=l.fr.mem (inL b hb)
   rw[q2] at q3
   cases q3
   exact hn
  obtain⟨Oz,q3⟩:=mv.up b _ q2 nf
  exact⟨Oz,q3⟩
 ·obtain⟨o1,q1⟩:=I.base.there b o q (by simp[aB])
  exact l.un.free b o1 q1 (I.base.free b o q n (by simp[aB]))
 ·obtain⟨o1,q1⟩:=I.base.there b o q (by simp[aB])
  obtain⟨o2,q2⟩:=l.un.there b o1 q1
  exact mv.there b o2 q2
 ·obtain⟨m1,e1⟩:=I.base.gq b ps q
  obtain⟨m2,e2⟩:=l.un.gq b _ e1
  exact⟨m1++m2,by rw[e2,Array.append_assoc]⟩
 ·cases q:s₀.heap.get? ea with
  |none=>rfl
  |some o=>
   obtain⟨o1,q1⟩:=I.base.there ea o q (by simp[aB])
   rw[l.new] at q1
   cases q1
theorem Jj{pins:List (Addr×Obj)}{σ:L2.St}{H:Hp}{s:Shared}{e:Addr}{oe:Obj}{vs:Array Value}(I:Inv (aB (aY P w) P w K mg base N qual scope f cdv A outer s₀ H₀ E) pins σ H s)
 (he:s.heap.get? e=some oe)(hd:oe.data=.fields vs)(h1:vs[1]?=some .none)(hn:H e=none)(hnew:s₀.heap.get? e=none)(hE:E oe.cls oe.dict H) :
 (aB (aY P w) P w K mg base N qual scope f cdv A outer s₀ H₀ E).xe (.ref e) s:=by
 have hfr:(A.deeper (envOfC qual scope s₀.heap.objs.size f cdv)).frames=some (envOfC qual scope s₀.heap.objs.size f cdv::outer):=I.ok.frames
 have st:s.heap.FunFrames base (envOfC qual scope s₀.heap.objs.size f cdv::outer):=I.stack
 have nof:e∉frs (envOfC qual scope s₀.heap.objs.size f cdv::outer):=fun z=>by
  obtain⟨_,o,q,hn⟩:=st.mem z
  rw[he] at q
  cases q
  exact hn vs hd
 have hin:∀env∈(envOfC qual scope s₀.heap.objs.size f cdv::outer),∀a,env.frame=some a→a∈e::frs (envOfC qual scope s₀.heap.objs.size f cdv::outer):=fun env h1 a h2=>List.mem_cons_of_mem _ (List.mem_filterMap.mpr ⟨env,h1,h2⟩)
 have hl:s.heap.FunFrames (PySem.W.hideAll s.heap (e::frs (envOfC qual scope s₀.heap.objs.size f cdv::outer))) (envOfC qual scope s₀.heap.objs.size f cdv::outer):=PySem.W.funFrames_hide st hin
 have hB:∀b o,s.heap.get? b=some o→b≠e→b∉frs (envOfC qual scope s₀.heap.objs.size f cdv::outer)→(PySem.W.hideAll s.heap (e::frs (envOfC qual scope s₀.heap.objs.size f cdv::outer))).get? b=some o:=fun b o q h1 h2=>
  PySem.W.hideAll_get _ q fun z=>(List.mem_cons.mp z).elim h1 h2
 have Lx:∀b o,s₀.heap.get? b=some o→b∉frs outer→b∉frs (envOfC qual scope s₀.heap.objs.size f cdv::outer):=fun b o q hb z=>by
  rcases List.mem_cons.mp (show b∈s₀.heap.objs.size::frs outer from z) with z|z
  ·exact absurd (Heap.lt_size q) (by rw[z];exact Nat.lt_irrefl _)
  ·exact hb z
 have ne0:∀b o,s₀.heap.get? b=some o→b≠e:=fun b o q z=>by rw[z,hnew] at q;cases q
 have kb:(PySem.W.hideAll s.heap (e::frs (envOfC qual scope s₀.heap.objs.size f cdv::outer))).StaysIn s.heap:=fun b o q=>PySem.W.of_hideAll _ q
 have en:(PySem.W.hideAll s.heap (e::frs (envOfC qual scope s₀.heap.objs.size f cdv::outer))).get? e=none:=PySem.W.hideAll_none _ List.mem_cons_self
 show wpAny _ _ (leaving _ _) _ _ s
 unfold leaving
 refine wpAny_bind (DW hfr hl rfl he kb en hd h1 fun g1 x1 x2 x3 x4=>?_)
 refine uH (s:={s with heap:=g1}) x1 x2 x3 fun g2 y1 y2 y3 y4=>?_
 obtain⟨_,_,y2'⟩:=y2
 have mv:=x4.trans y4
 refine⟨e,oe.cls,oe.dict,H,_,rfl,⟨I.os,I.bare,y1,en,y2',y3,?_,⟨fun b o q n hb=>?_,fun b o q n hb=>?_,fun b o q n=>?_,fun b o q=>?_,I.base.tups,I.base.fC,I.base.gq⟩,hn,hnew⟩,hE⟩
 ·refine dR.sub I.hok fun b o u hu q=>hB b o q (fun z=>by rw[z,hn] at hu;cases hu) fun z=>?_
  have:=I.mW b z
  rw[hu] at this
  cases this
 ·exact hB b o (I.base.keep b o q n hb (by simp[aB])) (ne0 b o q) (Lx b o q hb)
 ·obtain⟨sl,q1⟩:=I.base.slot b o q n hb (by simp[aB])
  have nf:∀vs,o.data≠ .fields vs:=by
   obtain⟨_,o',q3,hn⟩:=st.mem (List.mem_cons_of_mem _ hb)
   rw[q1] at q3
   cases q3
   exact hn
  obtain⟨Oz,q3⟩:=mv.up b _ q1 nf
  exact⟨Oz,q3⟩
 ·exact I.base.free b o q n (by simp[aB])
 ·obtain⟨o1,q1⟩:=I.base.there b o q (by simp[aB])
  exact mv.there b o1 q1
end
end P
namespace P
open PySem PySem.Spec PyProof.Rows L2 M2 M3 M4
abbrev yO:List Value:=[.type "ValueError",.type "Exception",.type "BaseException",.type "object"]
abbrev Jk:String:= "ValueError.__new__"
section
variable{K:PySem.W.Frag}{h:Heap}{C:Addr}{bmB:List Value}{newId:String}
theorem Jl(X:K.In h)(q:PySem.W.excIn K C bmB newId=true) :
 ∃bm N nm qn bs hd sn sub ab col dd k0 k1 k2 k3 k5 mN,h.get? C=some (excClassObj nm qn C N bs bm hd sn sub ab col dd k0 k1 k2 k3 k5 newId)∧h.Ns N mN∧mN "__init__" =none∧OwnTail h bmB bm:=by
 unfold PySem.W.excIn at q
 split at q
 case h_2=>cases q
 rename_i dd cd sl ho
 split at q
 case h_2=>cases q
 rename_i C1 bm k0 k1 k2 k3 n1 k5 e1 e2
 simp only[Bool.and_eq_true,beq_iff_eq,Bool.not_eq_true'] at q
 obtain⟨⟨⟨⟨⟨z1,z2⟩,z3⟩,z4⟩,z5⟩,z6⟩:=q
 subst z1 z2
 obtain⟨nm,bs,mro,ns,qn,hd,sn,sub,ab,col,del⟩:=cd
 dsimp only at e1 z3 z5 z6
 subst e1 z3
 obtain⟨sll⟩:=sl
 dsimp only at e2
 subst e2
 exact⟨bm,ns,nm,qn,bs,hd,sn,sub,ab,col,dd,k0,k1,k2,k3,k5,_,X _ _ ho,.of_isNs (PySem.W.isNs_of_in X z5),PySem.W.nsMap_none_of_in X z5 z6,PySem.W.tail_of_in X z4⟩
end
def uI(X:Cx)(E:L2.St→XK):Prop:=∀(pins:List (Addr×Obj)) (σ:L2.St) (H:Hp) (s:Shared) (e:Addr) (oe:Obj) (vs:Array Value),Inv X pins σ H s→s.heap.get? e=some oe→oe.data=.fields vs→vs[1]?=some .none→H e=none→
 X.s₀.heap.get? e=none→E σ oe.cls oe.dict H→X.xe (.ref e) s
theorem DX{P:Program}{w:World}{K:PySem.W.Frag}{mg:Str→Option Value}{base:Heap}{N:List Str}{qual:Str}{scope:Scope}{f:Addr}{cdv:Value}{A:Around}{outer:List Env}{s₀:Shared}{H₀:Hp}{E:XK} :
 uI (aB (aY P w) P w K mg base N qual scope f cdv A outer s₀ H₀ E) (fun _=>E):=fun _ _ _ _ _ _ _ I he hd h1 hn hnew hE=>Jj I he hd h1 hn hnew hE
def rJ(C:String):M Fl:=fun ρ=>.exc ⟨C,[],[]⟩ ρ
section
variable{X:Cx}{cm:String→Addr}{E:L2.St→XK}{x:Str}{C:String}{np cpos pos:Pos}
theorem DY{P:Program}{w:World}{H:Hp}{h:Heap}{e:Addr}(k:dR P w H h)(q:h.get? e=none):H e=none:=by
 cases z:H e with
 |none=>rfl
 |some u=>
  obtain⟨o,ho⟩:=jA (k e u z)
  rw[q] at ho
  cases ho
theorem Inv.ZaS{pins:List (Addr×Obj)}{σ:L2.St}{H:Hp}{s:Shared}{e:Addr}(I:Inv X pins σ H s)(hex:X.ex=[])(q:s.heap.get? e=none):X.s₀.heap.get? e=none:=by
 cases z:X.s₀.heap.get? e with
 |none=>rfl
 |some o=>
  obtain⟨o1,q1⟩:=I.base.there e o z (by rw[hex];simp)
  rw[q] at q1
  cases q1
theorem yP(hc:X.calm=true)(hex:X.ex=[])(hr:uI X E)(hg:Gl X x)(hm:X.mg x=some (.ref (cm C)))(q:PySem.W.excIn X.K (cm C) yO Jk=true)(hdb:(x== ("__debug__" :Str))=false:=by decide) :
 PS X (.Raise (some (.Call (.Name x np) [] [] cpos)) none pos) (tS (kk X cm) E (rJ C)):=by
 intro pins s σ H D I ⟨c,F,ρ,rel,h⟩
 obtain⟨bm,N,nm,qn,bs,hd,sn,sub,ab,col,dd,k0,k1,k2,k3,k5,mN,hC,hN,hni,T⟩:=Jl I.fB q
 refine wpAny_Raise_call_subT (C:=cm C) (nm:=nm) (q:=qn) (N:=N) (bs:=bs) (bm:=bm) (hdct:=hd) (sn:=sn) (sub:=sub) (ab:=ab) (col:=col) (dd:=dd) (k0:=k0) (k1:=k1) (k2:=k2) (k3:=k3) (k5:=k5)
  PySem.F.excBase_ValueError (mN:=mN) (T.hasType (by decide)) (I.ok.hd hc) rfl hni (iJ I hg hm ⟨rfl,?_⟩ hdb)
 refine evalArgs_empty ⟨rfl,Nat.zero_le _,hC,hN,T,fun h' e hx=>?_⟩
 obtain⟨t,he,_,_⟩:=hx.there
 have I2:Inv X pins σ H {s with heap:=h'}:=I.kept (t':=s.toks) hx.keeps
 exact hr pins σ H _ e _ _ I2 he rfl rfl (DY I.hok hx.new) (Inv.ZaS I hex hx.new) (h σ _ _ F H rel (Same.refl _) ⟨rfl,[],.inl ⟨rfl,rfl⟩,rfl,Đ.nil⟩)
end
section
variable{M:Model}{A:Around}{E:Value→Shared→Prop}{s:Shared}{K:PySem.W.Frag}{e C D:Addr}{oe:Obj}{b:Bool}{Q:Bool→Shared→Prop}
end
section
variable{X:Cx}{pins:List (Addr×Obj)}{σ:L2.St}{H:Hp}{s:Shared}{xe:Value→Shared→Prop}
end
end P
namespace P
open PySem PySem.Spec PyProof.Rows L2 M2 M3 M4
abbrev MH:=PX→Ŋ→Res Fl
def D_(i:Nat)(yes no:List String)(mh:M Fl)(rest:MH):MH:=fun x ρ=>if yes.contains x.C=true then(match mh (ρ.set i (.sh (.xc x.C x.ns x.ps))) with
 | .ok f ρ2=>.ok f (ρ2.set i .no)
 |_=>.bad) else if no.contains x.C=true then rest x ρ else .bad
def OD(yes no:List String)(mh:M Fl)(rest:MH):MH:=fun x ρ=>if yes.contains x.C=true then(match mh ρ with
 | .ok f ρ2=>.ok f ρ2
 |_=>.bad) else if no.contains x.C=true then rest x ρ else .bad
def ZaT(mb:M Fl)(mh:MH):M Fl:=fun ρ=>match mb ρ with
 | .exc x ρ1=>mh x ρ1
 |r=>r
section
variable{X:Cx}{cm:String→Addr}{E:L2.St→XK}{pins:List (Addr×Obj)}{σ:L2.St}{H Hc:Hp}{s sc:Shared}{ea:Addr}{C:Value}{d:Option Addr}{B:Heap}
variable{y n:Str}{Dn:String}{i:Nat}{yp hpos:Pos}{b₀:Stmt}{suite:List Stmt}{rest:List ExceptHandler}{yes no:List String}{mh:M Fl}{mr:MH}
end
end P
namespace P
open PySem PySem.Spec PyProof.Rows L2 M2 M3 M4 Builtin Builtin.ObjectAttr
def cY(K:PySem.W.Frag)(C:Addr):Bool:=match K.lookup C with
 |some ⟨.type "type",_,.cls cd,sl⟩=>(match cd.mro,sl.toList with
  | .ref C'::bm,[_,_,_,_,some (.builtin n),_]=>C'== C && n== Jk && !cd.hasDel && cd.hasDict && PySem.W.tailIn K yO bm && PySem.W.findIn K (.ref C) "__setattr__" == some (some (.builtin "object.__setattr__")) &&
      PySem.W.findIn K (.ref C) "__getattribute__" == some (some (.builtin "BaseException.__getattribute__")) && PySem.W.findIn K (.ref C) "__getattr__" == some none
  |_,_=>false)
 |_=>false
structure yQ(K:PySem.W.Frag)(C:Addr)(cd:ClassData)(bm:List Value):Prop where
 at_:∃dd k0 k1 k2 k3 k5,K.lookup C=some ⟨.type "type",dd,.cls cd,#[k0,k1,k2,k3,some (.builtin Jk),k5]⟩
 mro:cd.mro=.ref C::bm
 del:cd.hasDel=false
 dict:cd.hasDict=true
 tail:PySem.W.tailIn K yO bm=true
 sa:PySem.W.findIn K (.ref C) "__setattr__" =some (some (.builtin "object.__setattr__"))
 ga:PySem.W.findIn K (.ref C) "__getattribute__" =some (some (.builtin "BaseException.__getattribute__"))
 gg:PySem.W.findIn K (.ref C) "__getattr__" =some none
theorem nQ{K:PySem.W.Frag}{C:Addr}(q:cY K C=true):∃cd bm,yQ K C cd bm:=by
 unfold cY at q
 split at q
 case h_2=>cases q
 rename_i dd cd sl ho
 split at q
 case h_2=>cases q
 rename_i C1 bm k0 k1 k2 k3 n1 k5 e1 e2
 simp only[Bool.and_eq_true,beq_iff_eq,Bool.not_eq_true'] at q
 obtain⟨⟨⟨⟨⟨⟨⟨z1,z2⟩,z3⟩,z4⟩,z5⟩,z6⟩,z7⟩,z8⟩:=q
 subst z1 z2
 obtain⟨sll⟩:=sl
 dsimp only at e2
 subst e2
 exact⟨cd,bm,⟨dd,k0,k1,k2,k3,k5,ho⟩,e1,z3,z4,z5,z6,z7,z8⟩
section
variable{K:PySem.W.Frag}{h:Heap}{C:Addr}{cd:ClassData}{bm:List Value}
theorem yQ.cls(x:yQ K C cd bm):PySem.W.clsIn K C=some cd:=by
 obtain⟨_,_,_,_,_,_,e⟩:=x.at_
 unfold PySem.W.clsIn
 rw[e]
theorem pP{T:String}(hT:yO.contains (.type T)=true):∀{l:List Value},PySem.W.tailIn K yO l=true→l.contains (.type T)=true
 | [],e=>by cases(show(yO== [])=true from e)
 |v::r,e=>by
  unfold PySem.W.tailIn at e
  rcases Bool.or_eq_true_iff.mp e with q|q
  ·rw[beq_iff_eq.mp q];exact hT
  ·split at q
   ·split at q
    ·simp only[Bool.and_eq_true,beq_iff_eq] at q
     rw[List.contains_cons,pP hT q.2,Bool.or_true]
    ·cases q
   ·cases q
theorem yQ.mroIs(x:yQ K C cd bm){T:String}(hT:yO.contains (.type T)=true):PySem.W.mroIn K C (.type T)=some true:=by
 unfold PySem.W.mroIn
 rw[x.cls,Option.bind_some,if_neg (by rw[x.mro];simp),x.mro,List.contains_cons,pP hT x.tail,Bool.or_true]
end
section
variable{prog:Program}{w:World}{A:Around}{E:Value→Shared→Prop}{h:Heap}{g:Array GenState}{d:Drawn}{t:Nat}{os:OsState}
variable{nm q:Str}{C N:Addr}{bs bm bmB:List Value}{hdct:Bool}{sn:List Str}{sub:List Value}{ab:Bool}{col:Option Bool}{dd:Option Addr}{k0 k1 k2 k3 k5:Option Value}{B newId initId:String}
end
section
variable{prog:Program}{w:World}{A:Around}{E:Value→Shared→Prop}{s:Shared}{K:PySem.W.Frag}{x C:Addr}{cd:ClassData}{bm:List Value}{ox:Obj}{od:Option Obj}{name:Str}{v:Value}
end
end P
namespace P
open PySem PySem.Spec PyProof.Rows L2 M2 M3 M4
section
variable{X:Cx}{pins:List (Addr×Obj)}{σ:L2.St}{H:Hp}{s:Shared}{a C:Addr}{cd:ClassData}{bm:List Value}{d:Option Addr}{fs:List (Str×V)}{f:Str}{y:V}{u:Value}{A:Around}{E:Value→Shared→Prop}
variable{o value:Expr}{pos pos':Pos}{j:Nat}{ss:List Stmt}{r:List (Str×Nat)}
end
section
variable{P:Program}{w:World}{K:PySem.W.Frag}{mg:Str→Option Value}{base:Heap}{CX:j_}
end
def OJ:List (Str×Nat)→List PV→List Str→List PV→Option (List Str×List PV)
 | [],_,ns,qs=>some (ns,qs)
 |(_,0)::_,_,_,_=>none
 |(f,j+1)::r,ps,ns,qs=>match ps[j]? with
  |some p=>OJ r ps (putN f ns) (rH f p ns qs)
  |none=>none
def Jm(C:String)(n:Nat)(fl:List (Str×Nat))(ms:M (List PV)):M PV:=fun ρ=>(ms ρ).bind fun ps ρ1=>if ps.length+1=n∧ps.length<1000∧fl.length<1000 then(match OJ fl ps [] [] with
 |some (ns,qs)=>.ok (.xc C ns qs) ρ1
 |none=>.bad) else .bad
def Ea(C:String)(n:Nat)(fl:List (Str×Nat))(ms:M (List PV)):M Fl:=fun ρ=>(ms ρ).bind fun ps ρ1=>if ps.length+1=n∧ps.length<1000∧fl.length<1000 then(match OJ fl ps [] [] with
 |some (ns,qs)=>.exc ⟨C,ns,qs⟩ ρ1
 |none=>.bad) else .bad
section
variable{X:Cx}{cm:String→Addr}{E:L2.St→XK}{e:Expr}{es:List Expr}{pos p:Pos}{CX:j_}{k n:Nat}{f:Addr}{fd:FuncData}{ps:List Str}{C:String}{fl:List (Str×Nat)}{ms:M (List PV)}{x:Str}
def Eb(C:String):M PV:=fun ρ=>.ok (.xc C [] []) ρ
end
section
variable{M:Model}{A:Around}{E:Value→Shared→Prop}{s:Shared}{K:PySem.W.Frag}{env:Env}
end
section
variable{X:Cx}{cm:String→Addr}{E:L2.St→XK}{e:Expr}{es:List Expr}{pos cpos np:Pos}{CX:j_}{k n:Nat}{f:Addr}{fd:FuncData}{ps:List Str}{C:String}{fl:List (Str×Nat)}{ms:M (List PV)}{x:Str}
end
end P
namespace P
open PySem PySem.Spec PyProof.Rows L2 M2 M3 M4 Builtin Builtin.ObjectAttr
def Ũ(K:PySem.W.Frag)(C:Addr):Bool:=cY K C && PySem.W.findIn K (.ref C) "__class__" == some (some (.builtin "object.__class__")) && PySem.W.specialIn K (.builtin "object.__class__") "__get__" == some (some (.builtin "getset_descriptor.__get__")) && PySem.W.takesIn K (.builtin "object.__class__")== some true
theorem jC{K:PySem.W.Frag}{C:Addr}(q:Ũ K C=true):cY K C=true∧PySem.W.findIn K (.ref C) "__class__" =some (some (.builtin "object.__class__"))∧PySem.W.specialIn K (.builtin "object.__class__") "__get__" =some (some (.builtin "getset_descriptor.__get__"))∧PySem.W.takesIn K (.builtin "object.__class__")=some true:=by
 unfold Ũ at q
 simp only[Bool.and_eq_true,beq_iff_eq] at q
 obtain⟨⟨⟨z1,z2⟩,z3⟩,z4⟩:=q
 exact⟨z1,z2,z3,z4⟩
section
variable{prog:Program}{w:World}{A:Around}{E:Value→Shared→Prop}{s:Shared}{K:PySem.W.Frag}{x C:Addr}{ox:Obj}{od:Option Obj}
theorem Ec{R:Result→Shared→Prop}{tk:Tok}(X:K.In s.heap)(I:PySem.W.InstAt s.heap x ox C od)(q:Ũ K C=true)
 (h:R (.ok (.ret (.ref C))) s):codeAny (model prog w) A (.call (.builtin "BaseException.__getattribute__") ⟨[.ref x,.str "__class__" tk],[]⟩) R s:=by
 obtain⟨q0,q1,q2,q3⟩:=jC q
 obtain⟨cd,bm,c⟩:=nQ q0
 have hk:builtinKind "BaseException.__getattribute__" =some .slot:=by decide +kernel
 have hsplit:splitId "BaseException.__getattribute__" =some ("BaseException","__getattribute__"):=by decide +kernel
 have L0:=I.type (M:=model prog w)
 have hf:PySem.W.findObj K C od "__class__" =some (.bind (.builtin "getset_descriptor.__get__") (.builtin "object.__class__")):=by
  unfold PySem.W.findObj
  rw[c.cls,Option.bind_some,q1,Option.bind_some]
  simp[q2,q3]
 have L3:=PySem.W.looks_find (M:=model prog w) X I hf
 have hsub:PySem.W.Looks (model prog w) s.heap (isInstance (.ref x) (.type "BaseException")) true:=L0.andThen (PySem.W.looks_mroIn X (c.mroIs (by decide)))
 refine codeAny_call_builtin PySem.F.attrBase_ValueError.ga.plain PySem.F.entry_bexc_ga (@PySem.W.check_slot (model prog w) _ _ s "BaseException.__getattribute__" "BaseException" "__getattribute__" (.ref x) [.str "__class__" tk] [] _ hk hsplit hsub (PySem.F.args_bexc_ga (.ref x) (.str "__class__" tk)) ?_)
 unfold Builtin.«object.__getattribute__»
 refine wpAny_bind (wpAny_pure (wpAny_bind (wpAny_pure (wpAny_bind (L0.here (wpAny_bind (L3.here ?_)))))))
 refine wpAny_bind (wpAny_holding (wpAny_call (PySem.W.class_get X I (c.mroIs (by decide)) ?_)))
 exact wpAny_pure h
theorem yR{Q:Option Value→Shared→Prop}(X:K.In s.heap)(I:PySem.W.InstAt s.heap x ox C od)(q:Ũ K C=true)
 (h:Q (some (.ref C)) {s with toks:=s.toks+1}):wpAny (model prog w) A (getAttr? (.ref x) "__class__") Q E s:=by
 obtain⟨q0,q1,q2,q3⟩:=jC q
 obtain⟨cd,bm,c⟩:=nQ q0
 have FB:=PySem.F.attrBase_ValueError
 obtain⟨hp,g,d,t,os⟩:=s
 have L0:=I.type (M:=model prog w)
 have L1:=PySem.W.looks_findIn (M:=model prog w) X c.ga
 have L2:=PySem.W.looks_findIn (M:=model prog w) X c.gg
 unfold getAttr? getAttrBy? getAttrBy
 refine wpAny_bind (wpAny_mkText (wpAny_bind (wpAny_attempt (wpAny_holding (wpAny_bind (L0.at (wpAny_bind (L1.at ?_))))))))
 show wpAny _ _ (getAttrByItsOwn _ _ _ _ _ _) _ _ _
 have f3:=FB.ga.bind (.ref x)
 unfold getAttrByItsOwn hookBefore callGetattribute
 refine wpAny_bind (L2.at ?_)
 refine wpAny_bind (wpAny_attempt (wpAny_holding ?_))
 rw[if_neg (by decide)]
 unfold boundAndCalled
 rw[f3]
 refine wpAny_bind (wpAny_pure (wpAny_call ?_))
 exact Ec (s:=⟨hp,g,d,t+1,os⟩) X I q (show wpAny _ _ (handedOut (.ref C)) _ _ _ by rw[PySem.W.handedOut_of rfl];exact wpAny_pure (wpAny_pure h))
end
theorem pQ{K:PySem.W.Frag}{x D:Addr}(q:Ũ K D=true):PySem.W.KitX K (.ref x) (.ref D) (fun h=>∃ox od,PySem.W.InstAt h x ox D od):=by
 obtain⟨q0,q1,q2,q3⟩:=jC q
 obtain⟨cd,bm,c⟩:=nQ q0
 obtain⟨dd,k0,k1,k2,k3,k5,lC⟩:=c.at_
 refine⟨fun _ _ _ ⟨ox,od,I⟩=>I.type,fun _ _ X _=>?_,fun h tp dd its n sl X htp=>?_,fun X ⟨ox,od,I⟩ k=>yR X I q k⟩
 ·intro A' Q' E' s' k q
  unfold isType loadHead
  exact wpAny_bind (wpAny_loadPart (k _ _ (X _ _ lC)) (wpAny_pure q))
 ·refine Bool.eq_false_iff.mpr fun q=>?_
  have e:D=tp:=Value.ref.inj (beq_iff_eq.mp q)
  subst e
  have z:=congrArg Obj.cls (Option.some.inj ((X _ _ lC).symm.trans htp))
  exact absurd (Value.type.inj z) (by decide)
section
variable{X:Cx}{cm:String→Addr}{K:KK}
def yS(K:PySem.W.Frag):List V→Hp→VK→Prop:=fun xs H Q=>uD K xs H Q∨∃a C d fs c cv b,xs=[.ref a,c]∧RelV c cv∧(∀u,RelV c u→u=cv)∧H a=some (xo a C d)∧jg H d fs∧Ũ K C=true∧PySem.W.kitOne K (.ref C) cv=some b∧Q (.bl b) H
theorem fW:ŗ X (.builtin "isinstance") (yS X.K):=by
 intro pins s σ H xs us Q I r h
 rcases h with h|⟨a,C,d,fs,c,cv,b,rfl,rc,uq,ha,hD,q,hk,hQ⟩
 ·exact Je pins s σ H xs us Q I r h
 ·obtain⟨u,w',rfl,r1,r2⟩:=vals2 r
  cases(show u=Value.ref a from r1)
  rw[uq w' r2]
  obtain⟨⟨o,ws,ho,hcl,hdi,hda⟩,_,_⟩:=(show Ś X.prog X.w H s.heap a (xo a C d) from I.hok a _ ha)
  obtain⟨ocls,odict,odata,osl⟩:=o
  dsimp only at hcl hdi hda
  subst hcl hdi hda
  have J:∃ox od,PySem.W.InstAt s.heap a ox C od:=by
   rcases hD with⟨rfl,_⟩|⟨d0,rfl,z⟩
   ·exact⟨_,none,ho,rfl,rfl,trivial⟩
   ·obtain⟨od,z'⟩:=jA (I.hok d0 _ z)
    exact⟨_,some od,ho,rfl,rfl,z'⟩
  exact PySem.W.kia_one (pQ q) I.fB J hk (fun z=>nomatch z) fun tk=>⟨.bl b,H,I.tok _,rfl,hQ⟩
def cZ(Q:String→String→Bool→Prop):List ((String×String)×Bool)→Prop
 | []=>True
 |((c,d),b)::r=>Q c d b∧cZ Q r
theorem cZ.get{Q:String→String→Bool→Prop}:∀{t:List ((String×String)×Bool)} {c d:String} {b:Bool},cZ Q t→t.lookup (c,d)=some b→Q c d b
 | [],_,_,_,_,h=>by simp at h
 |((c',d'),b')::r,c,d,b,⟨h1,h2⟩,h=>by
  rw[List.lookup_cons] at h
  cases e:(c,d)== (c',d') with
  |true=>
   rw[e] at h
   cases h
   obtain⟨rfl,rfl⟩:=Prod.mk.inj (beq_iff_eq.mp e)
   exact h1
  |false=>
   rw[e] at h
   exact h2.get h
def bH(tc tt:List ((String×String)×Bool))(ds nt:List String):List PV→Option PV
 | [.xc C _ _,.cls D]=>(tc.lookup (C,D)).map .bl
 | [.xc C _ _,.ty D]=>(tt.lookup (C,D)).map .bl
 | [.non,.cls D]=>if ds.contains D=true then some (.bl false) else none
 | [.non,.ty D]=>if nt.contains D=true then some (.bl false) else yG [.non,.ty D]
 |ps=>yG ps
theorem fX{tc tt:List ((String×String)×Bool)}{ds nt:List String}(hc:cZ (fun C D b=>Ũ K.K (K.cm C)=true∧PySem.W.kitOne K.K (.ref (K.cm C)) (.ref (K.cm D))=some b) tc)
 (ht:cZ (fun C D b=>Ũ K.K (K.cm C)=true∧PySem.W.kitOne K.K (.ref (K.cm C)) (.type D)=some b) tt)(hd:eZ (fun D=>PySem.W.kitOne K.K (.type "NoneType") (.ref (K.cm D))=some false) ds)
 (hn:eZ (fun D=>PySem.W.kitOne K.K (.type "NoneType") (.type D)=some false) nt):cR K (yS K.K) (bH tc tt ds nt):=by
 intro c F H σ ρ ps pv vs Q rel r e k
 unfold bH at e
 split at e
 ·rename_i C ns qs D
  obtain⟨v,u,rfl,r1,r2⟩:=Dw r
  cases eb:tc.lookup (C,D) with
  |none=>rw[eb] at e;cases e
  |some b=>
   rw[eb] at e
   cases e
   obtain⟨k1,k2⟩:=hc.get eb
   have r1':Rep K F (.xc C ns qs) v:=by rcases r1 with q|q;exact q;exact q.elim
   have r2':Rep K F (.cls D) u:=by rcases r2 with q|q;exact q;exact q.elim
   unfold Rep at r1' r2'
   obtain⟨a,d,fs,rfl,q2,q3,q4,q5⟩:=r1'
   subst r2'
   exact .inr ⟨a,_,d,fs,_,.ref (K.cm D),b,rfl,rfl,fun u z=>z,rel.sub _ _ q2,q3.same rel.sub,k1,k2,k _ F H rel (Same.refl _) (Same.refl _) Rep.bl⟩
 ·rename_i C ns qs D
  obtain⟨v,u,rfl,r1,r2⟩:=Dw r
  cases eb:tt.lookup (C,D) with
  |none=>rw[eb] at e;cases e
  |some b=>
   rw[eb] at e
   cases e
   obtain⟨k1,k2⟩:=ht.get eb
   have r1':Rep K F (.xc C ns qs) v:=by rcases r1 with q|q;exact q;exact q.elim
   have r2':Rep K F (.ty D) u:=by rcases r2 with q|q;exact q;exact q.elim
   unfold Rep at r1' r2'
   obtain⟨a,d,fs,rfl,q2,q3,q4,q5⟩:=r1'
   subst r2'
   exact .inr ⟨a,_,d,fs,_,.type D,b,rfl,rfl,fun u z=>z,rel.sub _ _ q2,q3.same rel.sub,k1,k2,k _ F H rel (Same.refl _) (Same.refl _) Rep.bl⟩
 ·rename_i D
  obtain⟨v,u,rfl,r1,r2⟩:=Dw r
  split at e
  ·rename_i hD
   cases e
   cases r1.non
   have r2':Rep K F (.cls D) u:=by rcases r2 with q|q;exact q;exact q.elim
   unfold Rep at r2'
   subst r2'
   exact .inl ⟨_,false,rfl,hd.get hD,k _ F H rel (Same.refl _) (Same.refl _) Rep.bl⟩
  ·cases e
 ·rename_i D
  split at e
  ·rename_i hD
   obtain⟨v,u,rfl,r1,r2⟩:=Dw r
   cases e
   cases r1.non
   cases r2.ty
   exact .inl ⟨_,false,rfl,hn.get hD,k _ F H rel (Same.refl _) (Same.refl _) Rep.bl⟩
  ·exact .inl (yH rel r e k)
 ·exact .inl (yH rel r e k)
end
def isC(K:PySem.W.Frag)(cm:String→Addr):List ((String×String)×Bool)→Bool
 | []=>true
 |((c,d),b)::r=>Ũ K (cm c) && PySem.W.kitOne K (.ref (cm c)) (.ref (cm d))== some b && isC K cm r
theorem yU{K:PySem.W.Frag}{cm:String→Addr}:∀{t:List ((String×String)×Bool)},isC K cm t=true→cZ (fun C D b=>Ũ K (cm C)=true∧PySem.W.kitOne K (.ref (cm C)) (.ref (cm D))=some b) t
 | [],_=>trivial
 |((c,d),b)::r,h=>by
  unfold isC at h
  rw[Bool.and_eq_true,Bool.and_eq_true] at h
  exact⟨⟨h.1.1,beq_iff_eq.mp h.1.2⟩,yU h.2⟩
def VR(K:PySem.W.Frag)(cm:String→Addr):List ((String×String)×Bool)→Bool
 | []=>true
 |((c,d),b)::r=>Ũ K (cm c) && PySem.W.kitOne K (.ref (cm c)) (.type d)== some b && VR K cm r
theorem yV{K:PySem.W.Frag}{cm:String→Addr}:∀{t:List ((String×String)×Bool)},VR K cm t=true→cZ (fun C D b=>Ũ K (cm C)=true∧PySem.W.kitOne K (.ref (cm C)) (.type D)=some b) t
 | [],_=>trivial
 |((c,d),b)::r,h=>by
  unfold VR at h
  rw[Bool.and_eq_true,Bool.and_eq_true] at h
  exact⟨⟨h.1.1,beq_iff_eq.mp h.1.2⟩,yV h.2⟩
def isD(K:PySem.W.Frag)(cm:String→Addr):List String→Bool
 | []=>true
 |d::r=>PySem.W.kitOne K (.type "NoneType") (.ref (cm d))== some false && isD K cm r
theorem yW{K:PySem.W.Frag}{cm:String→Addr}:∀{t:List String},isD K cm t=true→eZ (fun D=>PySem.W.kitOne K (.type "NoneType") (.ref (cm D))=some false) t
 | [],_=>trivial
 |d::r,h=>by
  unfold isD at h
  rw[Bool.and_eq_true] at h
  exact⟨beq_iff_eq.mp h.1,yW h.2⟩
def Ed(K:PySem.W.Frag):List String→Bool
 | []=>true
 |d::r=>PySem.W.kitOne K (.type "NoneType") (.type d)== some false && Ed K r
theorem uJ{K:PySem.W.Frag}:∀{t:List String},Ed K t=true→eZ (fun D=>PySem.W.kitOne K (.type "NoneType") (.type D)=some false) t
 | [],_=>trivial
 |d::r,h=>by
  unfold Ed at h
  rw[Bool.and_eq_true] at h
  exact⟨beq_iff_eq.mp h.1,uJ h.2⟩
theorem vW{l:PySem.W.OpenLaw}{k:Nat}{x:Str}{m:MF}{q:Program}{loose:List Str}{XP:(Str→Option Value)→Heap→Prop}{YP:World→Heap→Prop}{d:DefRec}{K:Params→PySem.W.Frag}(hn:l.most=some 63)(hdf:d.params.defaults=[])(hr:ž k callerA)
 (hY:∀(w:World) (h:Heap),YP w h→(K w.params).In h)
 (F:∀(w:World) (mg:Str→Option Value) (fa:Addr) (h:Heap),(K w.params).In h→h.Ns mainGlobals mg→mg d.name=some (.ref fa)→
   ∃fd:FuncData,(∀(s:Shared) (u:Value),BindsTo s fd ⟨[u],[]⟩ [(x,u)])∧∀base:Heap,(K w.params).In base→base.Ns mainGlobals mg→∃cm,ľ l.prog w (K w.params) mg base (aY l.prog w) k fa fd [x] (bU ⟨K w.params,cm⟩ 1 m))
 (ht:∀ns:List Int,ns.length≤63→m [.sh (.lst (ns.map .int))]=.ret (.sh (.bl true))) :
 PySem.W.WalkO q loose XP YP l.row.toRowW d [] (fun f vs=>PySem.call f vs):=by
 refine L2.CP (n:=63) (k:=k) (x:=x) (CX:=fun w=>aY l.prog w) (sp:=fun w=>Og (K w.params)) hn (by decide) hdf hr hY (fun w mg fa h h1 h2 h3=>?_) (fun w H a ns hl _ hS=>⟨a,ns,rfl,hS,hl,fun _ _ z=>z⟩) fun w H s e s' z=>lX z
 obtain⟨fd,hb,hF⟩:=F w mg fa h h1 h2 h3
 refine⟨fd,hb,fun base k1 k2=>?_⟩
 obtain⟨cm,G⟩:=hF base k1 k2
 refine G.imp fun vs H Q E hs=>?_
 obtain⟨sa,ns,rfl,hS,hl,hq⟩:=hs
 refine⟨H,[.sh (.lst (ns.map .int))],rfl,Same.refl _,.cons ?_ .nil,?_⟩
 ·show Rep _ _ _ _
  unfold Rep
  exact⟨sa,_,rfl,hS,pJ ns⟩
 ·rw[ht ns hl]
  intro v F' H' g rf
  have e:v=.bl true:=nF (K:=⟨K w.params,cm⟩) (F:=F') rf
  exact hq v H' e
section
variable{ρ:Ŋ}{C:String}{n i:Nat}{fl:List (Str×Nat)}{ms:M (List PV)}{mb mh:M Fl}{mr:MH}{yes no:List String}{x:PX}
@[simp] theorem O_:rJ C ρ=.exc ⟨C,[],[]⟩ ρ:= rfl
@[simp] theorem L_:Eb C ρ=.ok (.xc C [] []) ρ:= rfl
@[simp] theorem Pg:Jm C n fl ms ρ=(ms ρ).bind fun ps ρ1=>if ps.length+1=n∧ps.length<1000∧fl.length<1000 then(match OJ fl ps [] [] with
  |some (ns,qs)=>.ok (.xc C ns qs) ρ1
  |none=>.bad) else .bad:=rfl
@[simp] theorem Ma:Ea C n fl ms ρ=(ms ρ).bind fun ps ρ1=>if ps.length+1=n∧ps.length<1000∧fl.length<1000 then(match OJ fl ps [] [] with
  |some (ns,qs)=>.exc ⟨C,ns,qs⟩ ρ1
  |none=>.bad) else .bad:=rfl
@[simp] theorem ZaU:ZaT mb mr ρ=(match mb ρ with
  | .exc x ρ1=>mr x ρ1
  |r=>r):=rfl
@[simp] theorem ZaV:D_ i yes no mh mr x ρ=(if yes.contains x.C=true then(match mh (ρ.set i (.sh (.xc x.C x.ns x.ps))) with
  | .ok f ρ2=>.ok f (ρ2.set i .no)
  |_=>.bad) else if no.contains x.C=true then mr x ρ else .bad):=rfl
end
end P
namespace P
open PySem PySem.Spec PyProof.Rows L2 M2 M3 M4
section
variable{X:Cx}{cm:String→Addr}{E:L2.St→XK}{y:Str}{Dn:String}{yp hpos:Pos}{b₀:Stmt}{suite:List Stmt}{rest:List ExceptHandler}{yes no:List String}{mh:M Fl}{mr:MH}
@[simp] theorem ZaW{ρ:Ŋ}{x:PX}:OD yes no mh mr x ρ=(if yes.contains x.C=true then(match mh ρ with
  | .ok f ρ2=>.ok f ρ2
  |_=>.bad) else if no.contains x.C=true then mr x ρ else .bad):=rfl
end
end P
namespace P
open PySem PySem.Spec PyProof.Rows L2 M2 M3 M4
section
variable{X:Cx}{cm:String→Addr}{K:KK}
def Ph:List PV→Option PV
 | [.int i]=>some (.int i)
 | [.bl k]=>some (.int (if k then 1 else 0))
 |_=>none
def FT:List V→Hp→VK→Prop:=fun xs H Q=>∃i,xs=[.int i]∧i.natAbs.log2<1920∧Q (.str (toString i)) H
theorem yX:ŗ X (.type "str") FT:=mY
def rK:List PV→Option PV
 | [.int i]=>if i.natAbs.log2<1920 then some (.str (toString i)) else none
 |_=>none
theorem yZ:cR K FT rK:=by
 intro c F H σ ρ ps pv vs Q rel r e k
 unfold rK at e
 split at e
 ·split at e
  ·rename_i hz
   cases e
   obtain⟨v,rfl,r1⟩:=BX r
   cases r1.int
   exact⟨_,rfl,hz,k _ F H rel (Same.refl _) (Same.refl _) Rep.str⟩
  ·cases e
 ·cases e
def ZaX:List PV→Option PV
 | [.str x]=>if x.length=1 then some (.int (x.cps.getD 0 0:Nat)) else none
 |_=>none
section
variable{prog:Program}{w:World}{A:Around}{E:Value→Shared→Prop}{s:Shared}{l:Addr}{xs:Array (Int×Tok)}
end
def intsOf:List PV→Option (List Int)
 | []=>some []
 | .int b::ps=>(intsOf ps).map (b:: ·)
 |_::_=>none
@[simp] theorem rM:∀ns:List Int,intsOf (ns.map PV.int)=some ns
  | []=>rfl
  |n::ns=>by rw[List.map_cons,intsOf,rM ns];rfl
def best(f:Int→Int→Int):List Int→Option Int
 | []=>none
 |n::ns=>some (ns.foldl f n)
def ZaY:List PV→Option PV
 | [.lst ps]=>(intsOf ps).map fun ns=>.int ns.sum
 |_=>none
def Pj:List PV→Option PV
 | [.lst ps]=>((intsOf ps).bind (best max)).map .int
 | [.tup ps]=>((intsOf ps).bind (best max)).map .int
 |_=>none
def Pk:List PV→Option PV
 | [.lst ps]=>((intsOf ps).bind (best min)).map .int
 |_=>none
@[simp] theorem V_{i:Int}:Ph [.int i]=some (.int i):=rfl
@[simp] theorem Wc{b:Bool}:Ph [.bl b]=some (.int (if b then 1 else 0)):=rfl
@[simp] theorem Wd{i:Int}:rK [.int i]=if i.natAbs.log2<1920 then some (.str (toString i)) else none:=rfl
@[simp] theorem Wf{x:Str}:ZaX [.str x]=if x.length=1 then some (.int (x.cps.getD 0 0:Nat)) else none:=rfl
@[simp] theorem Wg{ps:List PV}:ZaY [.lst ps]=(intsOf ps).map fun ns=>.int ns.sum:=rfl
@[simp] theorem Wh{ps:List PV}:Pj [.lst ps]=((intsOf ps).bind (best max)).map .int:=rfl
@[simp] theorem Wi{ps:List PV}:Pk [.lst ps]=((intsOf ps).bind (best min)).map .int:=rfl
@[simp] theorem Wj{f:Int→Int→Int}{n:Int}{ns:List Int}:best f (n::ns)=some (ns.foldl f n):=rfl
end
end P
namespace P
open PySem PySem.Spec PyProof.Rows L2 M2 M3 M4
def pR(K:PySem.W.Frag)(C:Addr):Bool:=PySem.W.plainGet K C Str.empty && PySem.W.hasDictIn K C && PySem.W.plainOver K C && PySem.W.findIn K (.ref C) "__setattr__" == some (some (.builtin "object.__setattr__"))
theorem gH{K:PySem.W.Frag}{C:Addr}(h:pR K C=true):Cls K C:=by
 unfold pR at h
 simp only[Bool.and_eq_true,beq_iff_eq] at h
 exact⟨h.1.1.1,h.1.1.2,h.1.2,h.2⟩
def bI(K:PySem.W.Frag)(C:Addr)(m:Str)(f:Addr):Bool:=PySem.W.findIn K (.ref C) m== some (some (.ref f)) && PySem.W.isFn K (.ref f) && PySem.W.keepIn K (.ref f)
theorem ų{K:PySem.W.Frag}{C f:Addr}{m:Str}(h:bI K C m f=true):Meth K C m f:=by
 unfold bI at h
 simp only[Bool.and_eq_true,beq_iff_eq] at h
 exact⟨h.1.1,h.1.2,h.2⟩
def FW(K:PySem.W.Frag)(C f:Addr):Bool:=PySem.W.makesIn K C && PySem.W.findIn K (.ref C) "__init__" == some (some (.ref f)) && PySem.W.isFn K (.ref f) && PySem.W.keepIn K (.ref C)
theorem lY{K:PySem.W.Frag}{C f:Addr}(h:FW K C f=true):Mk K C f:=by
 unfold FW at h
 simp only[Bool.and_eq_true,beq_iff_eq] at h
 exact⟨h.1.1.1,h.1.1.2,h.1.2,h.2⟩
section
variable{ρ:Ŋ}{i n k:Nat}{C:String}{cs:List String}{f m:Str}{mv mo:M PV}{mi:MI}{ms:M (List Slot)}{mb:M Fl}{kI:List (String×MF)}{as:List Slot}{ns:List Str}{ps:List PV}
@[simp] theorem Wk:pN i cs f mv ρ=(mv ρ).bind fun p ρ1=>match ρ1[i]? with
  |some (.rc C ns ps)=>if cs.contains C=true∧ns.length<1000 then .ok .nx (ρ1.set i (.rc C (putN f ns) (rH f p ns ps))) else .bad
  |_=>.bad:=rfl
@[simp] theorem Wm:cC n k C mb as=if as.length+1=n then IR.of (mb (.rc C [] []::startP (k-1) as)) else .bad:=rfl
@[simp] theorem ZaZ{C:String}:IR.of (.ok .nx (.rc C ns ps::ρ))=.ok ns ps:=rfl
@[simp] theorem Wn:bF C mi ms ρ=(ms ρ).bind fun as ρ1=>match mi as with
  | .ok ns ps=>.ok (.ins C ns ps) ρ1
  | .exc x=>.exc x ρ1
  | .bad=>.bad:=rfl
@[simp] theorem Za0:cI cs f (.ins C ns ps)=if cs.contains C=true then(ns.zip ps).lookup f else none:=rfl
@[simp] theorem Ef:cB m kI mo ms ρ=(mo ρ).bind fun p ρ1=>match p with
  | .ins C ns ps=>match kI.lookup C with
    |some mf=>if ns.contains m=true then .bad else(ms ρ1).bind fun as ρ2=>match mf (.sh (.ins C ns ps)::as) with
     | .ret r=>.ok r ρ2
     | .exc x=>.exc x ρ2
     | .bad=>.bad
    |none=>.bad
  |_=>.bad:=rfl
end
end P
namespace M3
open PySem PySem.Spec PyProof.Rows L2 M2
section
variable{X:Cx}{elt tg iter:Expr}{ifs:List Expr}{scope:Scope}{pos:Pos}{wi:TI}{g:TG}{tt:TT}{te:TE}
theorem uK{iv:Nat}{y:Str}{py spos:Pos}(hN:X.N.Nodup)(hiN:X.N[iv]?=some y)(hy:X.env.scope.names.lookup y=some .local)(hsw:swapsWith (.ListComp elt [⟨tg,iter,ifs,0⟩] scope pos) (some (.Name y py)) spos.line X.env=pure true)(N':List Str)(js:List Nat)(nl:Nat)(sc:Scope)(hsc:X.env.scope=sc)(hcalm:X.calm=true)
 (hi:PI X.Ŝ tg iter wi)(hg:∀cl C s H fp,PG (cH X.Ŝ N' scope cl C s H fp) tg g)(ht:∀cl C s H fp,Il (cH X.Ŝ N' scope cl C s H fp) ifs tt)(he:∀cl C s H fp,PE (cH X.Ŝ N' scope cl C s H fp) elt te)
 (hcap:gU X.Ŝ sc scope N' js)(hlen:js.length+nl=N'.length:=by rfl)
 (hk:scope.kind=.function:=by rfl)(hcell:∀y∈scope.names,y.2=.cell→scope.names.lookup y.1=some .cell:=by decide +kernel)(hnames:∀y∈scope.names,y.2=.local→scope.names.lookup y.1=some .local:=by decide +kernel)
 (hfree:∀y∈scope.names,y.2=.free→(sc.names.lookup y.1=some .cell∨sc.names.lookup y.1=some .free):=by decide +kernel)
 (hs:∀x,foldedSetIterable iter X.env x=pure x:=by intro _;rfl) :
 PS X.Ŝ (.Assign [.Name y py] (.ListComp elt [⟨tg,iter,ifs,0⟩] scope pos) spos) (fun D σ H=>tQ js nl wi g tt te σ H fun v H'=>D.nx (σ.set iv (some v)) H'):=by
 intro pins s σ H D I h
 obtain⟨Nk,c1,c2,c3⟩:=fJ (scope:=scope) (env:=X.Ŝ.env) fun y hy hf=>I.ok.has y.1 (by
  have:=hfree y hy hf
  rw[←hsc] at this
  exact this)
 rw[exec_Assign_Name_used _ _ _ _ (show swapsWith _ _ _ X.Ŝ.env=pure true from hsw)]
 refine wpAny_bind (wpAny_standAt (wpAny_bind ?_))
 show wpAny _ X.A (do let _ ←comprehension (.ListComp elt [⟨tg,iter,ifs,0⟩] scope pos) scope X.Ŝ.env _ (newList []) false (eval iter X.Ŝ.env) (some (assign (.Name y py) X.Ŝ.env))) _ _ s
 refine wpAny_bind (wpAny_mono (wpAny_comprehension_free (Q:=fun _ s'=>SP X.Ŝ pins D .next s') (use:=some (assign (.Name y py) X.Ŝ.env)) rfl hs c1 hk hnames (ś (hi pins s σ H _ I h) fun v s1 h1=>ś h1 fun itv s2 h2=>?_)) (fun _ s' hq=>wpAny_pure (wpAny_pure hq)) fun _ _ e=>e)
 obtain⟨it,fp,tn,J,H2,e,I2,T,st2,f2,q2⟩:=h2
 subst e
 refine wpAny_newObj_type (dW (fun h₁ hns₁ old Im=>?_))
 dsimp only at hns₁ old Im ⊢
 generalize Io:s2.heap.push {cls:=.type "list",dict:=none,data:=.seq ([]:List Value).toArray}=aF at hns₁ old Im ⊢
 have hD:H2 s2.heap.objs.size=none:=I2.hok.fresh (Nat.le_refl _)
 have I3:Inv X.Ŝ pins σ (upd H2 s2.heap.objs.size (.lst [])) {s2 with heap:=aF}:=by
  rw[←Io]
  exact I2.laid (t':=s2.toks) (fun b u e=>Heap.get?_push_of_some _ e) (Nat.le_refl _) ⟨Nat.zero_le _,[],0,.nil,Heap.get?_push_size _ rfl⟩
 have Dd:∀b∈fp,b<s2.heap.objs.size:=fun b hb=>by
  obtain⟨o,ho,_⟩:=T.obj 0 _ st2 b hb
  exact Heap.lt_size ho
 have Ip:aF.objs.size=s2.heap.objs.size+1:=by rw[←Io,Heap.size_push]
 have f3:∀b∈fp,iw X.Ŝ pins (upd H2 s2.heap.objs.size (.lst [])) b:=fun b hb=>by
  obtain⟨g0,g1⟩:=f2 b hb
  exact⟨by rw[č (Nat.ne_of_lt (Dd b hb))];exact g0,g1⟩
 have B:=xO (X:=X.Ŝ) (cl:=Nk) hcell c2 c3 (fun x c e=>by
  obtain⟨v,o,ho,_⟩:=I3.cell x c e
  exact Heap.lt_size ho) Im
 generalize cellsFrom (aF.objs.size+1) scope.names Nk=cl at B ⊢
 obtain⟨W,⟨m0,w0⟩,turn⟩:=q2 s2.heap.objs.size hD
 have I4:=lO (X:=X.Ŝ) (N':=N') (js:=js) (nl:=nl) (sc:=sc) (scope:=scope) (cl:=cl) (fp:=fp) (h':=h₁) (tk:=s2.toks) hsc hk hcap hlen B I3 f3 (fun b hb=>by show b<aF.objs.size;rw[Ip];exact Nat.lt_succ_of_lt (Dd b hb)) hns₁ old
 have Nm:tn 0 h₁:= T.keep 0 _ _ st2 fun b hb o e=>old b o (by rw[←Io];exact Heap.get?_push_of_some _ e)
 have Yl:∀b∈fp,(upd H2 s2.heap.objs.size (.lst [])) b=none:=fun b hb=>(f3 b hb).1
 have stat:∀{H':Hp},(∀b∈fp,H' b=none)→∀b∈fp,iw (cH X.Ŝ N' scope cl aF.objs.size {s2 with heap:=aF} (upd H2 s2.heap.objs.size (.lst [])) fp) [] H' b:=fun{H'} hn b hb=>by
  obtain⟨g0,g1,g2,g3,g4,g5⟩:=f3 b hb
  refine⟨hn b hb,Nat.ne_of_lt (by show b<aF.objs.size;rw[Ip];exact Nat.lt_succ_of_lt (Dd b hb)),fun z=>?_,.inl hb,fun x c e=>by
   rcases B.at_ x c e with⟨q,_⟩|⟨q,_⟩
   ·exact g4 x c q
   ·exact Nat.ne_of_gt (Nat.lt_trans (by show b<aF.objs.size;rw[Ip];exact Nat.lt_succ_of_lt (Dd b hb)) q),fun p hp=>absurd hp (by simp[cH])⟩
  rcases List.mem_cons.mp (I3.jc b z) with z|z
  ·exact g1 z
  ·exact g2 z
 have loop:∀s₃:Shared,s₃= {s2 with heap:=h₁}→
  codeAny (model X.prog X.w) X.A (.compLoop (.ListComp elt [⟨tg,iter,ifs,0⟩] scope pos) 0 (.ref it) (.ref s2.heap.objs.size) (compEnvC scope cl aF.objs.size X.Ŝ.env))
   (compPost (model X.prog X.w) X.A X.Ŝ.xe (some (assign (.Name y py) X.Ŝ.env)) (fun _ s'=>SP X.Ŝ pins D .next s') (.ref s2.heap.objs.size) aF.objs.size) s₃:= by
  rintro s₃ rfl
  refine fK (fun n s'=>∃i σ' H',Inv (cH X.Ŝ N' scope cl aF.objs.size {s2 with heap:=aF} (upd H2 s2.heap.objs.size (.lst [])) fp) [] σ' H' s'∧tn i s'.heap∧(∀b∈fp,H' b=none)∧W i n σ' H') ?_ m0 ⟨0,_,_,I4,Nm,Yl,w0⟩
  rintro n s5 ⟨i,σ5,H5,I5,Cq,Ho,w5⟩
  rcases turn i n σ5 H5 w5 with⟨stop,qn⟩|⟨go,N,hN,step⟩
  ·refine ś (T.done (cH X.Ŝ N' scope cl aF.objs.size {s2 with heap:=aF} (upd H2 s2.heap.objs.size (.lst [])) fp) rfl rfl rfl hcalm i [] s5 σ5 H5 (fun _ _=>False) I5 (stat Ho) Cq stop) fun r s6 ⟨hr,I6⟩=>?_
   subst hr
   obtain⟨m,hm,_⟩:=I6.loc
   have I7:Inv X.Ŝ pins σ H5 s6:=jf (h':=s6.heap) I3 f3 I6 (fun b u hb e=>e)
   have hCL:aF.objs.size≠X.Ŝ.env.locals:=Nat.ne_of_gt I3.lt
   have hcC:∀x c,X.Ŝ.env.cells.lookup x=some c→c≠aF.objs.size:=fun x c e z=>by
    obtain⟨v,o,ho,_⟩:=I3.cell x c e
    exact absurd (Heap.lt_size ho) (by rw[z];exact Nat.lt_irrefl _)
   have hpC:∀p∈X.Ŝ.pn++pins,p.1≠aF.objs.size:=fun p hp z=>by
    have:=Heap.lt_size (I3.pin p hp).1
    rw[z] at this
    exact Nat.lt_irrefl _ this
   have hnC:H5 aF.objs.size=none:=I6.free
   refine wpAny_assign_Name (lB (X:=X.Ŝ) (i:=iv) I7 hN hiN (.inl hy) (v:=.ref s2.heap.objs.size) rfl (fun s8 I8 ⟨a8,sb8,ha8⟩=>?_) (.inr hy))
   have ne8:aF.objs.size≠a8:=by
    rcases ha8 with rfl|ha8
    ·exact hCL
    ·exact fun z=>hcC _ _ ha8 z.symm
   refine⟨m,hm.sameBut sb8 ne8,fun h' hs'=>⟨_,H5,?_,qn⟩⟩
   have kp:∀b o,b≠aF.objs.size→s8.heap.get? b=some o→h'.get? b=some o:=fun b o hb e=>hs'.extBut b o hb e
   have kp':∀b o,b∉[aF.objs.size]→s8.heap.get? b=some o→h'.get? b=some o:=fun b o hb e=>kp b o (fun z=>hb (by rw[z];exact List.mem_cons_self)) e
   refine I8.call' (ch:=[aF.objs.size]) (s':={s8 with heap:=h'}) rfl ⟨fun b o e _ _ hx=>kp' b o hx e,fun b o e _ _ hx=>⟨o.slots,kp' b o hx e⟩,fun b o _ n _=>n,fun b o e hx=>⟨o,kp' b o hx e⟩,fun _ _ q=>q,fun _ _ _ q=>q,fun _ ps q=>⟨#[],by rw[q];simp⟩⟩ (tM I8.hok hnC kp) I8.bare fun b hb=>?_
   cases List.mem_singleton.mp hb
   exact⟨.inr I3.sz,hCL,hcC,hpC⟩
  ·refine ś (T.item (cH X.Ŝ N' scope cl aF.objs.size {s2 with heap:=aF} (upd H2 s2.heap.objs.size (.lst [])) fp) rfl rfl rfl hcalm i [] s5 σ5 H5 (fun _ _=>False) I5 (stat Ho) Cq go) fun r s6 ⟨u,hr,h6⟩=>?_
   subst hr
   refine ś h6 fun _ s7 ⟨x,H7,I7,r7,y7,Ir,Ym⟩=>?_
   have Yn:=I7.pinned (stat Ym) (T.obj _ _ Ir)
   have again:∀{s8:Shared} {σ8:L2.St} {H8:Hp},Inv (cH X.Ŝ N' scope cl aF.objs.size {s2 with heap:=aF} (upd H2 s2.heap.objs.size (.lst [])) fp) ([]++gw fp s7.heap) σ8 H8 s8→
    Inv (cH X.Ŝ N' scope cl aF.objs.size {s2 with heap:=aF} (upd H2 s2.heap.objs.size (.lst [])) fp) [] σ8 H8 s8∧tn (i+1) s8.heap∧∀b∈fp,H8 b=none:=fun{s8 σ8 H8} I8=>by
    refine⟨I8.cL,T.keep _ _ _ Ir fun b hb o e=>(I8.pin (b,o) (List.mem_append_right _ (List.mem_append_right _ (ŷ hb e)))).1,fun b hb=>?_⟩
    obtain⟨o,e,d⟩:=T.obj _ _ Ir b hb
    exact(I8.pin (b,o) (List.mem_append_right _ (List.mem_append_right _ (ŷ hb e)))).2.1
   refine ś (hg cl _ _ _ fp _ s7 σ5 H7 x u _ Yn r7 (step x H7 y7)) fun _ s8 ⟨σ8,H8,I8,q8⟩=>?_
   refine ś (ht cl _ _ _ fp _ s8 σ8 H8 _ I8 q8) fun c s9 ⟨H9,I9,q9⟩=>?_
   cases c with
   |false=>
    rw[if_neg Bool.false_ne_true] at q9 ⊢
    obtain⟨m',hm',w9⟩:=hN _ _ q9
    obtain⟨a1,a2,a3⟩:=again I9
    exact⟨m',hm',i+1,σ8,H9,a1,a2,a3,w9⟩
   |true=>
    rw[if_pos rfl] at q9 ⊢
    refine ś (he cl _ _ _ fp _ s9 σ8 H9 _ I9 q9) fun yv Yo ⟨y,Yp,Yq,r10,ys,e10,l10,w10⟩=>?_
    refine ś (dz _ Yo σ8 Yp (.ref s2.heap.objs.size) [y] (.ref s2.heap.objs.size) [yv] (fun _ Iu=>N σ8 Iu) Yq rfl (.cons r10 .nil) ⟨_,ys,y,rfl,rfl,e10,l10,w10⟩) fun _ s11 ⟨v11,Iu,Yr,_,w11⟩=>?_
    obtain⟨a1,a2,a3⟩:=again Yr
    obtain⟨m',hm',w11⟩:=hN _ _ w11
    exact⟨m',hm',i+1,σ8,Iu,a1,a2,a3,w11⟩
 exact codeAny_compStart_list (loop _ rfl) (T.self _ 0 _ _ _ Nm (loop _ rfl))
end
end M3
namespace P
open PySem PySem.Spec PyProof.Rows L2 M2 M3 M4
section
variable{X:Cx}{cm:String→Addr}{E:L2.St→XK}{elt tg iter:Expr}{ifs:List Expr}{scope:Scope}{pos:Pos}{mi:M (List PV)}{g:Tg}{mt:M Bool}{me:M PV}
theorem PS.Ŝ{st:Stmt}{t:TS}(h:PS X.Ŝ st t):PS X st t:=fun pins s σ H D I hw=>
 wpAny_mono (h pins s σ H D (I.wish _) hw) (fun _ _ q=>q.bK) fun _ _ z=>False.elim z
theorem za{i:Nat}{y:Str}{py spos:Pos}(hN:X.N.Nodup)(hi0:X.N[i]?=some y)(hy:X.env.scope.names.lookup y=some .local)(N':List Str)(js:List Nat)(nl:Nat)(sc:Scope)(hsc:X.env.scope=sc)(hcalm:X.calm=true)
 (hi:PI X.Ŝ tg iter (tI (kk X cm) E mi))(hg:∀cl C s H fp,PG (cH X.Ŝ N' scope cl C s H fp) tg (tT (kk X cm) g))(ht:∀cl C s H fp,Il (cH X.Ŝ N' scope cl C s H fp) ifs (tB (kk X cm) EF mt))(he:∀cl C s H fp,PE (cH X.Ŝ N' scope cl C s H fp) elt (tV (kk X cm) EF me))
 (hcap:gU X.Ŝ sc scope N' js)(hlen:js.length+nl=N'.length:=by rfl)
 (hk:scope.kind=.function:=by rfl)(hcell:∀y∈scope.names,y.2=.cell→scope.names.lookup y.1=some .cell:=by decide +kernel)(hnames:∀y∈scope.names,y.2=.local→scope.names.lookup y.1=some .local:=by decide +kernel)
 (hfree:∀y∈scope.names,y.2=.free→(sc.names.lookup y.1=some .cell∨sc.names.lookup y.1=some .free):=by decide +kernel)
 (hs:∀x,foldedSetIterable iter X.env x=pure x:=by intro _;rfl)(hsw:swapsWith (.ListComp elt [⟨tg,iter,ifs,0⟩] scope pos) (some (.Name y py)) spos.line X.env=pure true:=by rfl) :
 PS X (.Assign [.Name y py] (.ListComp elt [⟨tg,iter,ifs,0⟩] scope pos) spos) (tS (kk X cm) E (aV i (aj js nl mi g mt me))):=
 PS.wk (PS.Ŝ (uK hN hi0 hy hsw N' js nl sc hsc hcalm hi hg ht he hcap hlen hk hcell hnames hfree hs)) fun D σ H ⟨c,F,ρ,rel,h⟩=>pH ⟨c,F,ρ,rel,Ÿ.bind h fun r ρ1 v F1 H1 Ď s1 q h1=>by
   cases r with
   |sh p=>exact h1 _ F1 H1 (Ď.put rfl ⟨v,rfl,q⟩) (Same.refl _)
   |ow ps=>
    obtain⟨a,vs,rfl,q1,q2,q3,q4,q5⟩:=q
    exact h1 _ F1 H1 (Ď.xY ⟨a,vs,rfl,q1,q2,q3,q5⟩ fun _ z=>V.ref.inj z▸q4) (Same.refl _)
   |ot ps qs=>
    obtain⟨p,a,xs,vs,rfl,q0,qx,q1,q2,q3,q4,q5⟩:=q
    exact h1 _ F1 H1 (Ď.xY (s:=.ot ps qs) ⟨p,a,xs,vs,rfl,q0,qx,q1,q2,q3,q5⟩ fun _ z=>iR (ps:=ps) (qs:=qs) z ⟨p,xs,rfl,q0⟩▸q4) (Same.refl _)⟩
end
end P
namespace P
open PySem PySem.Spec PyProof.Rows L2 M2 M3 M4
def MtV(K:KK)(r:V→List V→Hp→VK→Prop)(f:PV→List PV→Option PV):Prop:=∀{c:Ctx} {F H:Hp} {σ:L2.St} {ρ:Ŋ} {p:PV} {ps:List PV} {pv:PV} {v:V} {vs:List V} {Q:VK},Rel K c F H σ ρ→rR K c σ ρ F H p v→Ly K c σ ρ F H ps vs→f p ps=some pv→
 (∀z F' H',Rel K c F' H' σ ρ→Same F F'→Same H H'→Rep K F' pv z→Q z H')→r v vs H Q
def Wo(f:PV→List PV→Option PV)(mo:M PV)(ms:M (List PV)):M PV:=fun ρ=>(mo ρ).bind fun p ρ1=>match p with
 | .str _=>(ms ρ1).bind fun ps ρ2=>Res.iV (f p ps) ρ2
 |_=>.bad
@[simp] theorem ZcA{f:PV→List PV→Option PV}{mo:M PV}{ms:M (List PV)}{ρ:Ŋ}:Wo f mo ms ρ=(mo ρ).bind fun p ρ1=>match p with
  | .str _=>(ms ρ1).bind fun ps ρ2=>Res.iV (f p ps) ρ2
  |_=>.bad:=rfl
section
variable{X:Cx}{cm:String→Addr}{K:KK}{E:L2.St→XK}{o e:Expr}{es:List Expr}{name:Str}{apos cpos:Pos}{id:String}{r:V→List V→Hp→VK→Prop}{f:PV→List PV→Option PV}{mo:M PV}{ms:M (List PV)}
theorem Pn(pa:PlainAttrs "str")(slot:PySem.Slot "str" name id)(hty:typeOf (.builtin id)=pure (.type "method_descriptor"))(hf:MtV (kk X cm) r f)(hm:XS X id r)(ho:PE X o (tR (kk X cm) E mo))(ha:PA X (e::es) (Lz (kk X cm) E ms))
 (hbase:attributeBase o name X.env (eval o X.env)=eval o X.env:=by rfl)
 (hfew:((backTo cpos (starEach (e::es) X.env)).all (fun x=>!x.1) && (backToKw cpos (keywordEach [] X.env)).all (fun x=>x.1.isSome)
   && decide ((e::es).length+([]:List Keyword).length+(if([]:List Keyword).isEmpty then 0 else 1)<30))=true:=by rfl)
 (hline:(apos.endLine== cpos.line)=true:=by rfl)(hs:starEach (e::es) X.env=(false,eval e X.env)::starEach es X.env:=by exact Ā rfl)(hplain:(backTo cpos (starEach es X.env)).any (·.1)=false:=by rfl) :
 PE X (.Call (.Attribute o name apos) (e::es) [] cpos) (tV (kk X cm) E (Wo f mo ms)):=
 PE.wk (xg pa slot hty hm ho ha hbase hfew hline hs hplain) fun σ H Q ⟨c,F,ρ,rel,h⟩=>⟨c,F,ρ,rel,ŵ.bind h fun p ρ1 v F1 H1 Ď _ _ r1 h1=>by
   cases p with
   |str z=>
    cases r1.str
    refine⟨rfl,c,F1,ρ1,Ď,ŵ.bind h1 fun ps ρ2 vs F2 H2 ı sF sH r2 h2=>?_⟩
    cases ef:f (.str z) ps with
    |none=>rw[ef] at h2;exact h2.elim
    |some pv=>rw[ef] at h2;exact hf ı (.inl (Rep.str (K:=kk X cm) (F:=F2))) r2 ef fun z F' H' Ŧ s1 s2 q'=>h2 z F' H' Ŧ s1 s2 q'
   |_=>exact h1.elim⟩
def strsOf:List PV→Option (List (List Nat))
 | []=>some []
 | .str z::ps=>(strsOf ps).map (z.cps.toList:: ·)
 |_::_=>none
theorem pU{F:Hp}:∀{ps:List PV} {vs:List V} {bs:List (List Nat)},Đ K F ps vs→strsOf ps=some bs→vs=bs.map fun l=>V.str (S l)
 | [],vs,bs,r,h=>by
   cases h
   cases r.pr
   rfl
 |p::ps,vs,bs,r,h=>by
  cases r.pr with
  |cons r1 t=>
   cases p with
   |str z=>
    unfold strsOf at h
    obtain⟨cs,e,rfl⟩:=Option.map_eq_some_iff.mp h
    rw[pU (Đ.of t) e,show _=V.str z from r1,List.map_cons,Iw]
   |_=>cases h
def lZ:PV→List PV→Option PV
 | .str z,[.lst ps]=>(strsOf ps).bind fun ys=>if(ys.map List.length).sum+ys.length*z.length≤16777216 then some (.str (S (cj z.cps.toList ys))) else none
 |_,_=>none
theorem uL:MtV K (xU K.K) lZ:=by
 intro c F H σ ρ p ps pv v vs Q rel r1 r2 e k
 unfold lZ at e
 split at e
 ·rename_i z qs
  cases r1.str
  obtain⟨u,rfl,r3⟩:=BX r2
  obtain⟨a,xs,rfl,h1,h2⟩:=r3.lst rel.sub
  obtain⟨ys,eb,e⟩:=Option.bind_eq_some_iff.mp e
  split at e
  ·rename_i hz
   cases e
   exact⟨ys,by rw[←pU h2 eb];exact h1,hz,k _ F H rel (Same.refl _) (Same.refl _) Rep.str⟩
  ·cases e
 ·cases e
end
end P
namespace P
open PySem PySem.Spec PyProof.Rows L2 M2 M3 M4
section
variable{X:Cx}{pins:List (Addr×Obj)}{σ:L2.St}{H:Hp}{s:Shared}{h':Heap}
end
section
variable{X:Cx}{elts:List Expr}{k:Nat}{tp:Pos}
end
def mLs(m:M PV):M (List PV):=fun ρ=>(m ρ).bind fun p ρ1=>match p with
 | .lst ps=>.ok ps ρ1
 |_=>.bad
def mSq(m:M PV):M (List PV):=fun ρ=>(m ρ).bind fun p ρ1=>match p with
 | .lst ps=>.ok ps ρ1
 | .tup ps=>.ok ps ρ1
 |_=>.bad
def Za1(i:Nat):M (List PV):=fun ρ=>match ρ[i]? with
 |some (.bw ps)=>.ok ps ρ
 |some (.sh (.lst ps))=>.ok ps ρ
 |some (.ow ps)=>.ok ps (ρ.set i (.sh (.lst ps)))
 |_=>.bad
def Za2(i:Nat):M (List PV):=fun ρ=>match ρ[i]? with
 |some (.bw ps)=>.ok ps ρ
 |some (.sh (.lst ps))=>.ok ps ρ
 |some (.sh (.tup ps))=>.ok ps ρ
 |some (.ow ps)=>.ok ps (ρ.set i (.sh (.lst ps)))
 |_=>.bad
section
variable{X:Cx}{cm:String→Addr}{E:L2.St→XK}{e:Expr}{m:M PV}
def zc:Nat→List PV→List PV
 |_,[]=>[]
 |k,p::ps=>.tup [.int k,p]::zc (k+1) ps
def Pq(m:M (List PV)):M (List PV):=fun ρ=>(m ρ).bind fun ps ρ1=>.ok (zc 0 ps) ρ1
def Za3(i:Nat)(mo:M RV):M Fl:=fun ρ=>match ρ[i]? with
 |some (.ow _)=>(mo ρ).bind fun r ρ1=>match ρ1[i]?,r with
  |some (.ow ps),.ow qs=>if ps.length+qs.length≤16777216 then .ok .nx (ρ1.set i (.ow (ps++qs))) else .bad
  |_,_=>.bad
 |_=>.bad
def Za4(i:Nat):M Fl:=fun ρ=>match ρ[i]? with
 |some (.ow _)=>.ok .nx (ρ.set i (.ow []))
 |_=>.bad
@[simp] theorem Za5{i:Nat}{ρ:Ŋ}:Za4 i ρ=(match ρ[i]? with
  |some (.ow _)=>.ok .nx (ρ.set i (.ow []))
  |_=>.bad):=rfl
@[simp] theorem Za6{i:Nat}{mo:M RV}{ρ:Ŋ}:Za3 i mo ρ=(match ρ[i]? with
  |some (.ow _)=>(mo ρ).bind fun r ρ1=>match ρ1[i]?,r with
   |some (.ow ps),.ow qs=>if ps.length+qs.length≤16777216 then .ok .nx (ρ1.set i (.ow (ps++qs))) else .bad
   |_,_=>.bad
  |_=>.bad):=rfl
@[simp] theorem Wq{mi:M (List PV)}{ρ:Ŋ}:Pq mi ρ=(mi ρ).bind fun ps ρ1=>.ok (zc 0 ps) ρ1:=rfl
@[simp] theorem ZcB{ρ:Ŋ}:mLs m ρ=(m ρ).bind fun p ρ1=>match p with
  | .lst ps=>.ok ps ρ1
  |_=>.bad:=rfl
@[simp] theorem ZcC{ρ:Ŋ}:mSq m ρ=(m ρ).bind fun p ρ1=>match p with
  | .lst ps=>.ok ps ρ1
  | .tup ps=>.ok ps ρ1
  |_=>.bad:=rfl
@[simp] theorem Za7{i:Nat}{ρ:Ŋ}:Za1 i ρ=(match ρ[i]? with
  |some (.bw ps)=>.ok ps ρ
  |some (.sh (.lst ps))=>.ok ps ρ
  |some (.ow ps)=>.ok ps (ρ.set i (.sh (.lst ps)))
  |_=>.bad):=rfl
@[simp] theorem Za8{i:Nat}{ρ:Ŋ}:Za2 i ρ=(match ρ[i]? with
  |some (.bw ps)=>.ok ps ρ
  |some (.sh (.lst ps))=>.ok ps ρ
  |some (.sh (.tup ps))=>.ok ps ρ
  |some (.ow ps)=>.ok ps (ρ.set i (.sh (.lst ps)))
  |_=>.bad):=rfl
end
end P
namespace P
open PySem PySem.Spec PyProof.Rows L2 M2 M3 M4
def Pr(i:Nat)(m:M PV):M Fl:=fun ρ=>match ρ[i]? with
 |some (.sh (.int _))=>(m ρ).bind fun q ρ1=>match ρ1[i]?,q with
  |some (.sh (.int k)),.int j=>.ok .nx (ρ1.set i (.sh (.int (Builtin.bitOr k j))))
  |_,_=>.bad
 |_=>.bad
@[simp] theorem Wr{i:Nat}{m:M PV}{ρ:Ŋ}:Pr i m ρ=(match ρ[i]? with
  |some (.sh (.int _))=>(m ρ).bind fun q ρ1=>match ρ1[i]?,q with
   |some (.sh (.int k)),.int j=>.ok .nx (ρ1.set i (.sh (.int (Builtin.bitOr k j))))
   |_,_=>.bad
  |_=>.bad):=rfl
section
variable{X:Cx}{cm:String→Addr}{E:L2.St→XK}{e a b:Expr}{m ma mb:M PV}{pos:Pos}
def Pu:PV→Option PV
 | .int i=>some (.int (Builtin.bitNot i))
 |_=>none
@[simp] theorem Ws{i:Int}:Pu (.int i)=some (.int (Builtin.bitNot i)):=rfl
def Px(m:M PV):M PV:=fun ρ=>(m ρ).bind fun p ρ1=>match p with
 | .int i=>.ok (.int ((Builtin.Int.intBits i:Nat):Int)) ρ1
 |_=>.bad
@[simp] theorem Wt{ρ:Ŋ}:Px m ρ=(m ρ).bind fun p ρ1=>match p with
  | .int i=>.ok (.int ((Builtin.Int.intBits i:Nat):Int)) ρ1
  |_=>.bad:=rfl
def Za9(m:M PV):M RV:=fun ρ=>(m ρ).bind fun p ρ1=>match p with
 | .lst ps=>.ok (.ow ps.reverse) ρ1
 |_=>.bad
@[simp] theorem Za_{ρ:Ŋ}:Za9 m ρ=(m ρ).bind fun p ρ1=>match p with
  | .lst ps=>.ok (.ow ps.reverse) ρ1
  |_=>.bad:=rfl
end
section
variable{X:Cx}{K:KK}
end
end P
namespace P
open PySem PySem.Spec PyProof.Rows L2 M2 M3 M4
section
variable{prog:Program}{w:World}{A:Around}{E:Value→Shared→Prop}{s:Shared}
end
section
variable{prog:Program}{w:World}{A:Around}{E:Value→Shared→Prop}{s:Shared}
end
section
variable{prog:Program}{w:World}{A:Around}{E:Value→Shared→Prop}{s:Shared}
end
def FZ(b:Bool)(h:Heap)(it l:Addr)(i:Nat):Prop:=if b=true then h.IsTupleIter it l i else h.IsListIter it l i
def nmB(b:Bool):String:=if b=true then "tuple_iterator" else "list_iterator"
theorem FZ.ex{b:Bool}{h:Heap}{it l:Addr}{i:Nat}(x:FZ b h it l i):∃o,h.get? it=some o∧o.cls=.type (nmB b)∧o.data=.fields #[.ref l,.int i 0]:=by
 cases b with
 |true=>exact x
 |false=>exact x
section
variable{X:Cx}{pins:List (Addr×Obj)}{σ:L2.St}{H:Hp}{s:Shared}
end
section
variable{prog:Program}{w:World}{A:Around}{E:Value→Shared→Prop}{s:Shared}
end
section
variable{X:Cx}{elts:List Expr}{k:Nat}{tp:Pos}
end
section
variable{X:Cx}{cm:String→Addr}{E:L2.St→XK}{e e2:Expr}
end
end P
namespace P
open PySem PySem.Spec PyProof.Rows L2 M2 M3 M4
section
variable{X:Cx}
end
def Zba{α:Type}(m:M α):M α:= fun ρ=>match m ρ with
 | .ok a ρ'=>.ok a ρ'
 |_=>.bad
@[simp] theorem Zbb{α:Type}{m:M α}{ρ:Ŋ}:Zba m ρ=(match m ρ with
  | .ok a ρ'=>.ok a ρ'
  |_=>.bad):=rfl
end P
namespace P
open PySem PySem.Spec PyProof.Rows L2 M2 M3 M4
theorem Eh{x:Int}{n:Nat}(h1: -(2 ^ n:Int)<x)(h2:x<2 ^ n):bits x≤n:=by
 refine intBits_le_iff.mpr ?_
 have e:((2 ^ n:Nat):Int)=(2:Int) ^ n:=by simp
 have:((x.natAbs:Nat):Int)<((2 ^ n:Nat):Int):=by rw[e];omega
 omega
theorem Py{x y:Int}(h:y≠0)(h1: -18446744073709551616<y)(h2:y<18446744073709551616):jo x y=true:=Ov h (Nat.le_trans (Eh (n:=64) (by omega) (by omega)) (by decide))
@[simp] theorem Wu{x:Int}{n:Nat}(h:n≠0)(h2:n<18446744073709551616):jo x (no_index (OfNat.ofNat n):Int)=true:=by
  have e:(no_index (OfNat.ofNat n):Int)=(n:Int):=rfl
  rw[e]
  exact Py (by omega) (by omega) (by omega)
@[simp] theorem Pz{x:Int}{n:Nat}(h:n<18446744073709551616):aX x (no_index (OfNat.ofNat n):Int)=true:=by
  have e:(no_index (OfNat.ofNat n):Int)=(n:Int):=rfl
  rw[e]
  exact mul_r (by omega) (by omega)
@[simp] theorem PB{x:Int}{n:Nat}(h:n<18446744073709551616):aX (no_index (OfNat.ofNat n):Int) x=true:=by
  have e:(no_index (OfNat.ofNat n):Int)=(n:Int):=rfl
  rw[e]
  exact pL (by omega) (by omega)
@[simp] theorem Wv{m n:Nat}(h:m<18446744073709551616)(h2:n≤1000000):gZ (no_index (OfNat.ofNat m):Int) (no_index (OfNat.ofNat n):Int)=true:=by
  have e:(no_index (OfNat.ofNat m):Int)=(m:Int):=rfl
  have e2:(no_index (OfNat.ofNat n):Int)=(n:Int):=rfl
  rw[e,e2]
  unfold gZ
  simp
  omega
@[simp] theorem PJ{x:Int}{n:Nat}:x.fdiv (no_index (OfNat.ofNat n):Int)=x / (no_index (OfNat.ofNat n):Int):=Int.fdiv_eq_ediv_of_nonneg x (Int.natCast_nonneg n)
@[simp] theorem PK{x:Int}{n:Nat}:x.fmod (no_index (OfNat.ofNat n):Int)=x % (no_index (OfNat.ofNat n):Int):=Int.fmod_eq_emod_of_nonneg x (Int.natCast_nonneg n)
end P
namespace P
open PySem PySem.Spec PyProof.Rows L2 M2 M3 M4
theorem add_l{xs ys:List PV}(h:xs.length+ys.length≤16777216):ķ (.lst xs) (.lst ys)=some (.ow (xs++ys)):=by
 unfold ķ
 simp[h]
theorem Jo{x y z w:Int}:eqB (.tup [.int x,.int y]) (.tup [.int z,.int w])=(decide (x=z) && decide (y=w)):=by
 rw[eqB.eq_def]
 show bZ [.int x,.int y] [.int z,.int w]=_
 rw[bZ.eq_def]
 show(eqB (.int x) (.int z) && bZ [.int y] [.int w])=_
 rw[bZ.eq_def]
 show(eqB (.int x) (.int z) && (eqB (.int y) (.int w) && bZ [] []))=_
 have h1:eqB (.int x) (.int z)=decide (x=z):=by rw[eqB.eq_def];rfl
 have h2:eqB (.int y) (.int w)=decide (y=w):=by rw[eqB.eq_def];rfl
 have h3:bZ [] []=true:=by rw[bZ.eq_def]
 rw[h1,h2,h3,Bool.and_true]
theorem Jp{x y z w:Int}:kW (.tup [.int x,.int y]) (.tup [.int z,.int w])=true:=by
 simp[kW,ū,bD,dep,gG]
theorem Ei{x y z w:Int}:ŉ (.tup [.int x,.int y]) (.tup [.int z,.int w])=some (.bl (decide (x=z) && decide (y=w))):=by
 unfold ŉ
 rw[if_pos Jp,Jo]
mutual
theorem jD:∀p:PV,ū p=true→eqB p p=true
 | .non,_=>by unfold eqB;rfl
 | .bl b,_=>by unfold eqB;simp
 | .int i,_=>by unfold eqB;simp
 | .str x,_=>by unfold eqB;simp
 | .lst xs,h=>by unfold ū at h;unfold eqB;exact gJ xs h
 | .tup xs,h=>by unfold ū at h;unfold eqB;exact gJ xs h
 | .ins _ _ _,h=>by simp[ū] at h
 | .xc _ _ _,h=>by simp[ū] at h
 | .ty _,h=>by simp[ū] at h
 | .cls _,h=>by simp[ū] at h
theorem gJ:∀ps:List PV,bD ps=true→bZ ps ps=true
 | [],_=>by unfold bZ;rfl
 |p::ps,h=>by
  unfold bD at h
  rw[Bool.and_eq_true] at h
  unfold bZ
  rw[jD p h.1,gJ ps h.2]
  rfl
end
theorem mj{p:PV}(h:ū p=true)(hd:dep p≤60):ŉ p p=some (.bl true):=by
 unfold ŉ kW
 rw[h,jD p h,decide_eq_true (by omega:min (dep p) (dep p)≤60)]
 rfl
theorem gK{p:PV}(h:ū p=true)(hd:dep p≤60):cX p p=some (.bl false):=by
 unfold cX kW
 rw[h,jD p h,decide_eq_true (by omega:min (dep p) (dep p)≤60)]
 rfl
theorem Ē{a b:Str}(ha:PyData.strOk a=true)(hb:PyData.strOk b=true):ŉ (.str a) (.str b)=some (.bl (decide (a=b))):=by
 have h:eqB (.str a) (.str b)=decide (a=b):=by unfold eqB;rfl
 unfold ŉ kW
 rw[show ū (.str a)=true by unfold ū;exact ha,show ū (.str b)=true by unfold ū;exact hb,h]
 rfl
theorem jE(ns:List Int):bD (ns.map PV.int)=true:=by
 induction ns with
 |nil=>simp[bD]
 |cons n ns ih=>simp[bD,ū,ih]
theorem jF(ns:List Int):gG (ns.map PV.int)=0:=by
 induction ns with
 |nil=>simp[gG]
 |cons n ns ih=>simp[gG,dep,ih]
end P
namespace P
open PySem PySem.Spec PyProof.Rows L2 M2 M3 M4
section
variable{g:Tg}{mb:M Fl}{mt:M Bool}{me:M PV}
theorem mq{α β:Type}(c:α→PV)(step:β→α→β)(J:β→Ŋ→Prop):∀(xs:List α),(∀x∈xs,∀b ρ,J b ρ→∃ρ1 ρ2,g (c x) ρ=some ρ1∧mb ρ1=.ok .nx ρ2∧J (step b x) ρ2)→∀b ρ,J b ρ→∃ρ',forL g mb (xs.map c) ρ=.ok .nx ρ'∧J (xs.foldl step b) ρ'
 | [],_,b,ρ,h=>⟨ρ,rfl,h⟩
 |x::xs,hs,b,ρ,h=>by
  obtain⟨ρ1,ρ2,h1,h2,h3⟩:=hs x (by simp) b ρ h
  obtain⟨ρ',e,h4⟩:=mq c step J xs (fun y hy=>hs y (List.mem_cons_of_mem _ hy)) (step b x) ρ2 h3
  refine⟨ρ',?_,h4⟩
  rw[List.map_cons,forL,h1]
  dsimp only
  rw[h2]
  exact e
end
end P
namespace P
open PySem PySem.Spec PyProof.Rows L2 M2 M3 M4
def Zbc(K:PySem.W.Frag)(n:Nat)(t:wL):TG:=fun v σ H Q=>∃a xs,v=.ref a∧Ż K H a xs∧xs.length=n∧t xs σ H Q
section
variable{X:Cx}{cm:String→Addr}{pos:Pos}
theorem Jq{es:List Expr}{k:Nat}{t:wL}{n:Nat}(hc:X.calm=true)(h:qD X es t)
 (hn:(assignEach es X.env).length=n:=by rfl)(hst:(assignEach es X.env).findIdx? (·.1)=none:=by rfl):PG X (.Tuple es k pos) (Zbc X.K n t):=by
 intro pins s σ H v u Q I r hw
 obtain⟨a,xs,e1,hq,hl,hw⟩:=hw
 subst e1
 cases r
 obtain⟨its,rv,ht,hz⟩:=I.list hq
 rw[assign_Tuple]
 refine wpAny_bind (wpAny_standAt ?_)
 unfold unpack
 rw[show(assignEach es X.env).length=its.toArray.size by simp[hn,←hl,rv.length],hst]
 refine wpAny_bind (wpAny_holding (PySem.W.kun_itemsOf (I.ok.hd hc) ht.isList fun h' hx=>?_))
 have I1:Inv X pins σ H {s with heap:=h'}:=I.kept (t':=s.toks) fun b o e=>hx b o (Nat.ne_of_lt (Heap.lt_size e)) e
 exact h pins _ σ H xs _ Q I1 (by simpa using rv) hw
def gS(n:Nat)(gs:wC):Tg:=fun p ρ=>match p with
 | .tup ps=>if ps.length=n then gs ps ρ else none
 | .lst ps=>if ps.length=n then gs ps ρ else none
 |_=>none
@[simp] theorem Zbd{n:Nat}{gs:wC}{ps:List PV}{ρ:Ŋ}:gS n gs (.tup ps) ρ=if ps.length=n then gs ps ρ else none:=rfl
@[simp] theorem Zbe{n:Nat}{gs:wC}{ps:List PV}{ρ:Ŋ}:gS n gs (.lst ps) ρ=if ps.length=n then gs ps ρ else none:=rfl
theorem fY{es:List Expr}{k:Nat}{gs:wC}{n:Nat}(hc:X.calm=true)(h:qD X es (NT (kk X cm) gs))(hn:(assignEach es X.env).length=n:=by rfl)(hst:(assignEach es X.env).findIdx? (·.1)=none:=by rfl):PG X (.Tuple es k pos) (tT (kk X cm) (gS n gs)):=by
 intro pins s σ H v u Q I r hw
 obtain⟨c,F,ρ,p,rel,rp,hw⟩:=hw
 cases p with
 |tup ps=>
  unfold Rep at rp
  obtain⟨a,xs,h1,h2,h3⟩:=rp
  unfold gS at hw
  dsimp only at hw
  split at hw
  ·rename_i hl
   exact wN hc h hn hst pins s σ H v u Q I r ⟨a,xs,h1,Same.tup rel.sub h2,by rw[←h3.length];exact hl,c,F,ρ,ps,rel,h3,hw⟩
  ·exact hw.elim
 |lst ps=>
  unfold Rep at rp
  obtain⟨a,xs,h1,h2,h3⟩:=rp
  unfold gS at hw
  dsimp only at hw
  split at hw
  ·rename_i hl
   exact Jq hc h hn hst pins s σ H v u Q I r ⟨a,xs,h1,rel.sub.seq h2,by rw[←h3.length];exact hl,c,F,ρ,ps,rel,h3,hw⟩
  ·exact hw.elim
 |_=>exact hw.elim
end
end P
namespace P
open PySem PySem.Spec PyProof.Rows L2 M2 M3 M4
section
variable{X:Cx}{cm:String→Addr}{E:L2.St→XK}{a:Expr}{p p1 pos pos1:Pos}{mr:M (List PV)}
end
end P
namespace P
open PySem PySem.Spec PyProof.Rows L2 M2 M3 M4
theorem Rel.keep{K:KK}{c:Ctx}{F H H':Hp}{σ:L2.St}{ρ:Ŋ}(r:Rel K c F H σ ρ)(e:Same H H'):Rel K c F H' σ ρ:= r.call ⟨e,Same.refl F,r.sub.trans e,fun _ _ h=>h⟩
def PL(i:Nat)(m:M Bool):M Bool:=fun ρ=>match ρ[i]? with
 |some (.ot ps qs)=>match m (ρ.set i (.sh (.tup (ps ++ [.lst qs])))) with
  | .ok b _=>.ok b ρ
  |_=>.bad
 |_=>m ρ
section
variable{X:Cx}{cm:String→Addr}{E:L2.St→XK}{e o:Expr}{es:List Expr}{pos:Pos}{m:M Bool}{mo:M RV}{ma:M PV}
def PN(mo:M RV):M (List PV×RV):=fun ρ=>(mo ρ).bind fun r ρ1=>.ok ([],r) ρ1
def Jr(ma:M PV)(mr:M (List PV×RV)):M (List PV×RV):=fun ρ=>(ma ρ).bind fun p ρ1=>(mr ρ1).bind fun r ρ2=>.ok (p::r.1,r.2) ρ2
def P_(mr:M (List PV×RV)):M RV:=fun ρ=>(mr ρ).bind fun r ρ1=>if r.1.length<16777216 then(match r.2 with
 | .ow qs=>.ok (.ot r.1 qs) ρ1
 | .sh p=>.ok (.sh (.tup (r.1 ++ [p]))) ρ1
 |_=>.bad) else .bad
def Qa(i j:Nat)(m:M PV):M Fl:=fun ρ=>match ρ[i]? with
 |some (.ot ps _)=>if ps.length=j then(m ρ).bind fun p ρ1=>match ρ1[i]? with
  |some (.ot ps' qs)=>if ps'.length=j∧qs.length<16777216 then .ok .nx (ρ1.set i (.ot ps' (qs ++ [p]))) else .bad
  |_=>.bad
  else .bad
 |_=>.bad
@[simp] theorem Zbf{ps qs:List PV}:(RV.ot ps qs).val=.tup (ps ++ [.lst qs]):=rfl
@[simp] theorem Zbg{ps qs:List PV}:(RV.ot ps qs).slot=.ot ps qs:=rfl
@[simp] theorem Ww{i:Nat}{ρ:Ŋ}:PL i m ρ=(match ρ[i]? with
  |some (.ot ps qs)=>match m (ρ.set i (.sh (.tup (ps ++ [.lst qs])))) with
   | .ok b _=>.ok b ρ
   |_=>.bad
  |_=>m ρ):=rfl
@[simp] theorem Wx{ρ:Ŋ}:PN mo ρ=(mo ρ).bind fun r ρ1=>.ok ([],r) ρ1:=rfl
@[simp] theorem Qc{mr:M (List PV×RV)}{ρ:Ŋ}:Jr ma mr ρ=(ma ρ).bind fun p ρ1=>(mr ρ1).bind fun r ρ2=>.ok (p::r.1,r.2) ρ2:=rfl
@[simp] theorem Qd{mr:M (List PV×RV)}{ρ:Ŋ}:P_ mr ρ=(mr ρ).bind fun r ρ1=>if r.1.length<16777216 then(match r.2 with
  | .ow qs=>.ok (.ot r.1 qs) ρ1
  | .sh p=>.ok (.sh (.tup (r.1 ++ [p]))) ρ1
  |_=>.bad) else .bad:=rfl
@[simp] theorem Wy{i j:Nat}{ρ:Ŋ}:Qa i j ma ρ=(match ρ[i]? with
  |some (.ot ps _)=>if ps.length=j then(ma ρ).bind fun p ρ1=>match ρ1[i]? with
   |some (.ot ps' qs)=>if ps'.length=j∧qs.length<16777216 then .ok .nx (ρ1.set i (.ot ps' (qs ++ [p]))) else .bad
   |_=>.bad
   else .bad
  |_=>.bad):=rfl
end
end P
namespace P
open PySem PySem.Spec PyProof.Rows L2 M2 M3 M4
section
variable{X:Cx}{K:KK}
def zf(K:PySem.W.Frag):List V→Hp→VK→Prop:=fun xs H Q=>yS K xs H Q∨∃(a:Addr) (C:Addr) (d:Option Addr) (fs:List (Str×V)) (p:Addr) (cs:List Addr) (b:Bool),xs=[.ref a,.ref p]∧H a=some (xo a C d)∧jg H d fs∧Ũ K C=true∧cJ K H p (cs.map V.ref)∧PySem.W.kitAny K (.ref C) (cs.map Value.ref)=some b∧Q (.bl b) H
theorem mz:∀{cs:List Addr} {its:List Value},Vals (cs.map V.ref) its→its=cs.map Value.ref
 | [],_,.nil=>rfl
 |c::cs,_,.cons r t=>by
  rw[mz t,show _=Value.ref c from r]
  rfl
theorem Ej:ŗ X (.builtin "isinstance") (zf X.K):=by
 intro pins s σ H xs us Q I r h
 rcases h with h|⟨a,C,d,fs,p,cs,b,rfl,ha,hD,q,hp,hk,hQ⟩
 ·exact fW pins s σ H xs us Q I r h
 ·obtain⟨u,w',rfl,r1,r2⟩:=vals2 r
  cases(show u=Value.ref a from r1)
  cases(show w'=Value.ref p from r2)
  obtain⟨⟨o,ws,ho,hcl,hdi,hda⟩,_,_⟩:=(show Ś X.prog X.w H s.heap a (xo a C d) from I.hok a _ ha)
  obtain⟨ocls,odict,odata,osl⟩:=o
  dsimp only at hcl hdi hda
  subst hcl hdi hda
  have J:∃ox od,PySem.W.InstAt s.heap a ox C od:=by
   rcases hD with⟨rfl,_⟩|⟨d0,rfl,z⟩
   ·exact⟨_,none,ho,rfl,rfl,trivial⟩
   ·obtain⟨od,z'⟩:=jA (I.hok d0 _ z)
    exact⟨_,some od,ho,rfl,rfl,z'⟩
  obtain⟨its,rv,⟨⟨tc,td,tda,tsl⟩,ht,hc,n,hd⟩,_⟩:=I.tuple hp
  dsimp only at hc hd
  subst hc hd
  rw[mz rv] at ht
  exact PySem.W.kia_tup (pQ q) I.fB J ht hk (fun z=>nomatch z) fun tk=>⟨.bl b,H,I.tok _,rfl,hQ⟩
def pW(tc:List ((String×String)×Bool))(C:String):List PV→Option Bool
 | []=>some false
 | .cls D::r=>match tc.lookup (C,D),pW tc C r with
   |some b,some b'=>some (b || b')
   |_,_=>none
 |_=>none
def zj(tc tt:List ((String×String)×Bool))(ds nt:List String):List PV→Option PV
 | [.xc C _ _,.tup (q::qs)]=>(pW tc C (q::qs)).map .bl
 |ps=>bH tc tt ds nt ps
theorem uM{tc:List ((String×String)×Bool)}{C:String}(hc:cZ (fun C D b=>Ũ K.K (K.cm C)=true∧PySem.W.kitOne K.K (.ref (K.cm C)) (.ref (K.cm D))=some b) tc){F:Hp}:∀{qs:List PV} {xs:List V} {b:Bool},Đ K F qs xs→pW tc C qs=some b→
 ∃cs:List Addr,xs=cs.map V.ref∧PySem.W.kitAny K.K (.ref (K.cm C)) (cs.map Value.ref)=some b∧(qs≠[]→Ũ K.K (K.cm C)=true)
 | [],xs,b,r,e=>by
   unfold Đ at r
   subst r
   unfold pW at e
   cases e
   exact⟨[],rfl,rfl,fun z=>absurd rfl z⟩
 |q::qs,xs,b,r,e=>by
  unfold Đ at r
  obtain⟨x,xs',rfl,r1,r2⟩:=r
  cases q with
  |cls D=>
   unfold pW at e
   cases e1:tc.lookup (C,D) with
   |none=>rw[e1] at e;cases e
   |some b1=>
    cases e2:pW tc C qs with
    |none=>rw[e1,e2] at e;cases e
    |some b2=>
     rw[e1,e2] at e
     cases e
     obtain⟨k1,k2⟩:=hc.get e1
     obtain⟨cs,rfl,h2,_⟩:=uM hc r2 e2
     unfold Rep at r1
     subst r1
     refine⟨K.cm D::cs,rfl,?_,fun _=>k1⟩
     show PySem.W.kitAny K.K (.ref (K.cm C)) (Value.ref (K.cm D)::cs.map Value.ref)=_
     unfold PySem.W.kitAny
     rw[k2]
     cases b1 with
     |true=>rfl
     |false=>exact h2
  |_=>unfold pW at e;cases e
theorem Ek{tc tt:List ((String×String)×Bool)}{ds nt:List String}(hc:cZ (fun C D b=>Ũ K.K (K.cm C)=true∧PySem.W.kitOne K.K (.ref (K.cm C)) (.ref (K.cm D))=some b) tc)
 (ht:cZ (fun C D b=>Ũ K.K (K.cm C)=true∧PySem.W.kitOne K.K (.ref (K.cm C)) (.type D)=some b) tt)(hd:eZ (fun D=>PySem.W.kitOne K.K (.type "NoneType") (.ref (K.cm D))=some false) ds)
 (hn:eZ (fun D=>PySem.W.kitOne K.K (.type "NoneType") (.type D)=some false) nt):cR K (zf K.K) (zj tc tt ds nt):=by
 intro c F H σ ρ ps pv vs Q rel r e k
 unfold zj at e
 split at e
 ·rename_i C ns qs0 q qs
  obtain⟨v,u,rfl,r1,r2⟩:=Dw r
  cases eb:pW tc C (q::qs) with
  |none=>rw[eb] at e;cases e
  |some b=>
   rw[eb] at e
   cases e
   have r1':Rep K F (.xc C ns qs0) v:=by rcases r1 with q|q;exact q;exact q.elim
   unfold Rep at r1'
   obtain⟨a,d,fs,rfl,h1,h2,h3,h4⟩:=r1'
   obtain⟨p,xs,rfl,h5,h6⟩:=r2.tup rel.sub
   obtain⟨cs,rfl,h7,h8⟩:=uM hc h6 eb
   exact .inr ⟨a,_,d,fs,p,cs,b,rfl,rel.sub _ _ h1,h2.same rel.sub,h8 (by simp),h5,h7,k _ F H rel (Same.refl _) (Same.refl _) Rep.bl⟩
 ·exact .inl (fX hc ht hd hn rel r e k)
end
end P
namespace P
open PySem PySem.Spec PyProof.Rows L2 M2 M3 M4
section
variable{K:KK}{c c':Ctx}{F F' H H':Hp}{σ:L2.St}{ρ:Ŋ}
theorem Ő.ctx{s:Slot}{x:Option V}(h:Ő K c F H x s)(hL:∀a u,c.L a=some u→c'.L a=some u)(hS:∀a d C,c.S a d C→c'.S a d C)(hB:∀b y,x=some y→s.at_ F y b→c.B b=none→c'.B b=none):Ő K c' F H x s:=by
 cases s with
 |no=>trivial
 |sh p=>exact h
 |bw ps=>obtain⟨b,vs,h1,h2,h3⟩:=h;exact⟨b,vs,h1,hL _ _ h2,h3⟩
 |ow ps=>obtain⟨b,vs,h1,h2,h3,h4,h5⟩:=h;exact⟨b,vs,h1,h2,h3,hB _ _ h1 rfl h4,h5⟩
 |rc C ns ps=>obtain⟨b,dx,fs,h1,h2,h3,h4,h5,h6,h7⟩:=h;exact⟨b,dx,fs,h1,h2,h3,hB _ _ h1 rfl h4,h5,h6,hS _ _ _ h7⟩
 |ot ps qs=>obtain⟨p,b,xs,vs,h1,h2,h3,h4,h5,h6,h7⟩:=h;exact⟨p,b,xs,vs,h1,h2,h3,h4,h5,hB _ _ h1 ⟨p,xs,rfl,h2⟩ h6,h7⟩
 |ol Ů=>
  obtain⟨p,as,h1,h2,h3,h4⟩:=h
  exact⟨p,as,h1,h2,h3,dX h4 fun b ps hb ⟨vs,k1,k2,k3,k4⟩=>⟨vs,k1,k2,hB _ _ h1 ⟨p,as,rfl,h2,hb⟩ k3,k4⟩⟩
theorem Rel.held{F1 H1 B:Hp}{a:Addr}{o:HO}(rel:Rel K (cU F1 H1 B) F H σ ρ)(h1:H a=some o)(h2:F a=none)(h3:B a=none)(h4:cu F σ ρ a):Rel K (cU F1 H1 (upd B a o)) F H σ ρ where
 sub:=rel.sub
 base:=fun b u e=>by
  have e':upd B a o b=some u:=e
  by_cases hb:b=a
  ·subst hb;rw[ď] at e';rw[h1];exact e'
  ·rw[č hb] at e';exact rel.base b u e'
 f0:=rel.f0
 ao:=fun b k1 k2=>by
  by_cases hb:b=a
  ·subst hb;exact h2
  ·exact rel.ao b (fun z=>k1 (show upd B a o b=none by rw[č hb];exact z)) k2
 lent:=rel.lent
 lb:=fun b e=>by
   have e':upd B a o b=none:=e
   have hb:b≠a:=fun z=>by rw[z,ď] at e';cases e'
   rw[č hb] at e'
   exact rel.lb b e'
 len:=rel.len
 slot:=fun i s e=>(rel.slot i s e).ctx (fun _ _ z=>z) (fun _ _ _ z=>z) fun b y ex ha hb=>by
  have ne:b≠a:=fun z=>by subst z;exact h4 i ⟨s,y,e,nC ex,ha⟩
  show upd B a o b=none
  rw[č ne];exact hb
 sep:=rel.sep
theorem Rel.El{F1 H1 B:Hp}{D:Addr}{o o':HO}(hL:H1 D=none)(hF:F1 D=none)(rel:Rel K (cU F1 H1 (upd B D o)) F H σ ρ):Rel K (cU F1 H1 (upd B D o')) F (upd H D o') σ ρ where
 sub:=fun b u e=>by
  have fD:F D=none:=rel.ao D (by show upd B D _ D≠none;rw[ď];intro z;cases z) hF
  have hb:b≠D:=fun z=>by rw[z,fD] at e;cases e
  rw[č hb];exact rel.sub b u e
 base:=fun b u e=>by
  have e':upd B D o' b=some u:=e
  by_cases hb:b=D
  ·subst hb;rw[ď] at e' ⊢;exact e'
  ·rw[č hb] at e' ⊢
   exact rel.base b u (by show upd B D o b=some u;rw[č hb];exact e')
 f0:=rel.f0
 ao:=fun b k1 k2=>by
  by_cases hb:b=D
  ·subst hb;exact rel.ao b (by show upd B b _ b≠none;rw[ď];intro z;cases z) hF
  ·exact rel.ao b (fun z=>k1 (by show upd B D o' b=none;have z':upd B D o b=none:=z;rw[č hb] at z' ⊢;exact z')) k2
 lent:=fun b u e=>by
  have hb:b≠D:=fun z=>by
   have q:=(bT (F:=F1) (H:=H1) (a:=b) (u:=u) e).1
   rw[z,hL] at q;cases q
  rw[č hb];exact rel.lent b u e
 lb:=fun b e=>by
   have e':upd B D o' b=none:=e
   have hb:b≠D:=fun z=>by rw[z,ď] at e';cases e'
   exact rel.lb b (by show upd B D o b=none;rw[č hb] at e' ⊢;exact e')
 len:=rel.len
 slot:=fun i s e=>by
  have q:=rel.slot i s e
  have hne:∀b y,(σ[i]?).getD none=some y→s.at_ F y b→b≠D:=fun b y ex ha z=>by
   subst z
   have:=(rel.owned ⟨s,y,e,nC ex,ha⟩).2.2
   have z':upd B b o b=none:=this
   rw[ď] at z';cases z'
  refine Ő.ctx (c:=cU F1 H1 (upd B D o)) (q.grow (Same.refl F) fun b u ⟨y,ex,ha⟩ k1 k2 k3=>⟨by rw[č (hne b y ex ha)];exact k1,k2⟩) (fun _ _ z=>z) (fun _ _ _ z=>z) fun b y ex ha hb=>?_
  have hb':upd B D o b=none:=hb
  show upd B D o' b=none
  rw[č (hne b y ex ha)] at hb' ⊢;exact hb'
 sep:=rel.sep
end
def bx(g:Tg)(mt:M Bool)(me:M RV):List PV→Ŋ→List (List PV)→Option (List (List PV))
 | [],_,acc=>some acc
 |p::ps,ρ,acc=>match g p ρ with
  |none=>none
  |some ρ1=>match mt ρ1 with
   | .ok true ρ2=>match me ρ2 with
     | .ok (.ow q) ρ3=>if acc.length<16777216 then bx g mt me ps ρ3 (acc ++ [q]) else none
     |_=>none
   | .ok false ρ2=>bx g mt me ps ρ2 acc
   |_=>none
def nR(js:List Nat)(nl:Nat)(mi:M (List PV))(g:Tg)(mt:M Bool)(me:M RV):M (List (List PV)):=fun ρ=>(mi ρ).bind fun items ρ1=>match bx g mt me items (jm js nl ρ1) [] with
 |some ps=>.ok ps ρ1
 |none=>.bad
def rOL(K:KK):RR (List (List PV)) V:=fun c σ ρ F H Ů v=>∃(D:Addr) (as:List Addr),v=.ref D∧H D=some (.lst (as.map V.ref))∧F D=none∧c.B D=none∧cu F σ ρ D∧as.Nodup∧D∉as∧
 Paired (fun(a:Addr) (ps:List PV)=>∃vs,H a=some (.lst vs)∧F a=none∧c.B a=none∧cu F σ ρ a∧Đ K F ps vs) as Ů
section
variable{X:Cx}{cm:String→Addr}{E:L2.St→XK}{elt tg iter:Expr}{ifs:List Expr}{scope:Scope}{pos:Pos}{mi:M (List PV)}{g:Tg}{mt:M Bool}{me:M RV}
theorem vX{js:List Nat}{nl:Nat}{σ:L2.St}{H:Hp}{Q:VK}(h:tG (kk X cm) E (rOL (kk X cm)) (nR js nl mi g mt me) σ H Q):tQ js nl (tI (kk X cm) E mi) (tT (kk X cm) g) (tB (kk X cm) EF mt) (tO (kk X cm) EF me) σ H Q:=by
 obtain⟨c,F,ρ,rel,h⟩:=h
 refine⟨c,F,ρ,rel,h.bind fun items ρ1 J F1 H1 Ď s1 s2 ito h1=>?_⟩
 intro D hD
 have hF:F1 D=none:=Ď.sub.free hD
 cases ec:bx g mt me items (jm js nl ρ1) [] with
 |none=>rw[ec] at h1;exact h1.elim
 |some res=>
  rw[ec] at h1
  refine⟨fun i m σ' H'=>∃(F':Hp) (ρ':Ŋ) (as:List Addr) (Hb:Hp) (acc:List (List PV)),i≤items.length∧m=items.length-i∧Rel (kk X cm) (cU F1 H1 (upd Hb D (.lst (as.map V.ref)))) F' H' σ' ρ'∧Same H1 Hb∧Hb D=none∧as.Nodup∧D∉as∧
   Paired (fun(a:Addr) (ps:List PV)=>H1 a=none∧∃vs,Hb a=some (.lst vs)∧Đ (kk X cm) F' ps vs) as acc∧bx g mt me (items.drop i) ρ' acc=some res,
   ⟨_,F1,_,[],H1,[],Nat.zero_le _,rfl,?_,Same.refl _,hD,List.nodup_nil,by simp,.nil,ec⟩,?_⟩
  ·exact Ď.cap js nl hD
  ·rintro i m σ2 H2 ⟨F2,ρ2,as,Hb,acc,hle,rfl,ı,Qe,hbD,nd,Qf,pa,h2⟩
   have s12:Same F1 F2:=ı.f0
   have yr:∀{b:Addr} {u:HO},c.L b=some u→(cU F1 H1 (upd Hb D (.lst (as.map V.ref)))).L b=some u:=fun{b u} e=>by
    obtain⟨l1,l2⟩:=Ď.lent b u e
    show(match F1 b with|none=>H1 b|some _=>none)=some u
    rw[l2]
    exact l1
   obtain⟨go,stop⟩:=ito _ i F2 H2 σ2 ρ2 ı s12 fun b u e=>(ı.lent b u (yr e)).1
   have hH2:H2 D=some (.lst (as.map V.ref)):=ı.base D _ (show upd Hb D _ D=_ from ď)
   have fD:F2 D=none:=ı.ao D (by show upd Hb D _ D≠none;rw[ď];intro z;cases z) hF
   by_cases hlt:i<items.length
   ·obtain⟨g1,g2⟩:=go items[i] (List.getElem?_eq_getElem hlt)
    rw[List.drop_eq_getElem_cons hlt] at h2
    unfold bx at h2
    refine .inr ⟨g1,_,fun σ' H' z=>z,fun x H3 hy=>?_⟩
    obtain⟨F3,nH,s3,YB,rp⟩:=g2 x H3 hy
    refine⟨_,F3,ρ2,items[i],nH,rp,?_⟩
    cases eg:g items[i] ρ2 with
    |none=>rw[eg] at h2;cases h2
    |some ρ3=>
     rw[eg] at h2
     dsimp only at h2
     intro σ4 qZ
     refine⟨_,F3,ρ3,qZ,?_⟩
     cases em:mt ρ3 with
     |bad=>rw[em] at h2;cases h2
     |exc x ρ4=>rw[em] at h2;cases h2
     |ok b ρ4=>
      rw[em] at h2
      intro b' F5 H5 yt s5 s5' eb
      have eb':b=b':=eb
      subst eb'
      cases b with
      |false=>
       rw[if_neg Bool.false_ne_true]
       dsimp only at h2
       exact⟨items.length-(i+1),by omega,F5,ρ4,as,Hb,acc,hlt,rfl,yt,Qe,hbD,nd,Qf,dX pa fun a ps _ ⟨k0,vs,k1,k2⟩=>⟨k0,vs,k1,Đ.same (s3.trans s5) ps vs k2⟩,h2⟩
      |true=>
       rw[if_pos rfl]
       dsimp only at h2
       refine⟨_,F5,ρ4,yt,?_⟩
       cases ee:me ρ4 with
       |bad=>rw[ee] at h2;cases h2
       |exc x ρ5=>rw[ee] at h2;cases h2
       |ok r ρ5=>
        rw[ee] at h2
        cases r with
        |sh p=>cases h2
        |ot p q=>cases h2
        |ow q=>
         dsimp only at h2
         intro y F6 H6 yu s6 s6' rq
         obtain⟨a,vs,rfl,q1,q2,q3,q4,q5⟩:=rq
         split at h2
         ·rename_i hz
          have Mf:upd Hb D (.lst (as.map V.ref)) a=none:=q3
          have aD:a≠D:=fun z=>by rw[z,ď] at Mf;cases Mf
          rw[č aD] at Mf
          have h1a:H1 a=none:=Qe.free Mf
          have Zbh:acc.length=as.length:=(Paired.length pa).symm
          have Qg:=yu.held q1 q2 q3 q4
          have ex:upd (upd Hb D (.lst (as.map V.ref))) a (.lst vs)=upd (upd Hb a (.lst vs)) D (.lst (as.map V.ref)):=by
           funext b
           by_cases hb:b=a
           ·subst hb;rw[ď,č aD,ď]
           ·rw[č hb]
            by_cases hd:b=D
            ·subst hd;rw[ď,ď]
            ·rw[č hd,č hd,č hb]
          rw[ex] at Qg
          have na:a∉as:=fun z=>by
           obtain⟨ps,_,_,vs',k1,_⟩:=nA pa z
           rw[Mf] at k1;cases k1
          refine⟨as.map V.ref,yu.base D _ (show upd Hb D _ D=_ from ď),by rw[List.length_map,←Zbh,Ĺ];exact hz,?_⟩
          refine⟨items.length-(i+1),by omega,F6,ρ5,as ++ [a],upd Hb a (.lst vs),acc ++ [q],hlt,rfl,?_,Qe.trans (Same.upd Mf),by rw[č aD.symm];exact hbD,?_,?_,?_,h2⟩
          ·have:=Qg.El (o':=.lst ((as ++ [a]).map V.ref)) hD hF
           rw[List.map_append] at this ⊢
           exact this
          ·exact List.nodup_append.mpr ⟨nd,by simp,by
            intro x hx y hy z
            rw[List.mem_singleton.mp hy] at z
            subst z
            exact na hx⟩
          ·intro z
           rcases List.mem_append.mp z with z|z
           ·exact Qf z
           ·exact aD (List.mem_singleton.mp z).symm
          ·refine qY (dX pa fun b ps hb ⟨k0,vs',k1,k2⟩=>⟨k0,vs',?_,Đ.same ((s3.trans s5).trans s6) ps vs' k2⟩) (.cons ⟨h1a,vs,ď,q5⟩ .nil)
           rw[č (show b≠a from fun z=>na (by rw[←z];exact hb))]
           exact k1
         ·cases h2
   ·have e:i=items.length:=by omega
    refine .inl ⟨stop e,?_⟩
    rw[List.drop_eq_nil_of_le (by omega)] at h2
    unfold bx at h2
    cases h2
    have gr:Gr F1 H1 F2 H2:=⟨fun b u e=>ı.base b u (by show upd Hb D _ b=_;rw[č (ĵ e hD)];exact Qe b u e),s12,ı.sub,fun b hb hf=>ı.ao b (by
     show upd Hb D _ b≠none
     by_cases Qh:b=D
     ·rw[Qh,ď];intro z;cases z
     ·rw[č Qh]
      cases q:H1 b with
      |none=>exact absurd q hb
      |some u=>rw[Qe b u q];intro z;cases z) hf⟩
    have Ja:=Ď.call gr
    refine h1 _ F2 H2 Ja s12 gr.h ⟨D,as,rfl,hH2,fD,Ď.base.free hD,Ď.cN gr.f (Ď.fresh hD),nd,Qf,dX pa fun a ps ha ⟨k0,vs,k1,k2⟩=>⟨vs,?_,?_,Ď.base.free k0,Ď.cN gr.f (Ď.fresh k0),k2⟩⟩
    ·have ne:a≠D:=fun z=>Qf (z▸ha)
     exact ı.base a _ (by show upd Hb D _ a=_;rw[č ne];exact k1)
    ·have ne:a≠D:=fun z=>Qf (z▸ha)
     exact ı.ao a (by show upd Hb D _ a≠none;rw[č ne,k1];intro z;cases z) (Ď.sub.free k0)
def rN(i:Nat)(m:M (List (List PV))):M Fl:=fun ρ=>(m ρ).bind fun Ů ρ1=>.ok .nx (ρ1.set i (.ol Ů))
theorem Em{i:Nat}{y:Str}{py spos:Pos}(hN:X.N.Nodup)(hi0:X.N[i]?=some y)(hy:X.env.scope.names.lookup y=some .local)(N':List Str)(js:List Nat)(nl:Nat)(sc:Scope)(hsc:X.env.scope=sc)(hcalm:X.calm=true)
 (hi:PI X.Ŝ tg iter (tI (kk X cm) E mi))(hg:∀cl C s H fp,PG (cH X.Ŝ N' scope cl C s H fp) tg (tT (kk X cm) g))(ht:∀cl C s H fp,Il (cH X.Ŝ N' scope cl C s H fp) ifs (tB (kk X cm) EF mt))(he:∀cl C s H fp,PE (cH X.Ŝ N' scope cl C s H fp) elt (tO (kk X cm) EF me))
 (hcap:gU X.Ŝ sc scope N' js)(hlen:js.length+nl=N'.length:=by rfl)
 (hk:scope.kind=.function:=by rfl)(hcell:∀y∈scope.names,y.2=.cell→scope.names.lookup y.1=some .cell:=by decide +kernel)(hnames:∀y∈scope.names,y.2=.local→scope.names.lookup y.1=some .local:=by decide +kernel)
 (hfree:∀y∈scope.names,y.2=.free→(sc.names.lookup y.1=some .cell∨sc.names.lookup y.1=some .free):=by decide +kernel)
 (hs:∀x,foldedSetIterable iter X.env x=pure x:=by intro _;rfl)(hsw:swapsWith (.ListComp elt [⟨tg,iter,ifs,0⟩] scope pos) (some (.Name y py)) spos.line X.env=pure true:=by rfl) :
 PS X (.Assign [.Name y py] (.ListComp elt [⟨tg,iter,ifs,0⟩] scope pos) spos) (tS (kk X cm) E (rN i (nR js nl mi g mt me))):=
 PS.wk (PS.Ŝ (uK hN hi0 hy hsw N' js nl sc hsc hcalm hi hg ht he hcap hlen hk hcell hnames hfree hs)) fun D σ H ⟨c,F,ρ,rel,h⟩=>vX ⟨c,F,ρ,rel,Ÿ.bind h fun Ů ρ1 v F1 H1 Ď s1 q h1=>by
   obtain⟨D0,as,rfl,q1,q2,q3,q4,nd,nD,pa⟩:=q
   have fr:=Ď.freeze q1 q3 q2 q4
   refine h1 _ (upd F1 D0 (.lst (as.map V.ref))) H1 (fr.xY (s:=.ol Ů) ⟨D0,as,rfl,ď,nd,dX pa fun a ps ha ⟨vs,k1,k2,k3,k4,k5⟩=>?_⟩ ?_) (Same.upd q2)
   ·have ne:a≠D0:=fun z=>nD (by rw[←z];exact ha)
    exact⟨vs,k1,by rw[č ne];exact k2,k3,Đ.same (Same.upd q2) ps vs k5⟩
   ·rintro a ⟨p,bs,e1,e2,e3⟩
    cases e1
    rw[ď] at e2
    have e:as=bs:=bB (by injection e2 with e2;injection e2)
    subst e
    obtain⟨ps,_,vs,_,_,_,k4,_⟩:=nA pa e3
    exact Ď.cN (Same.upd q2) k4⟩
end
section
variable{K:KK}{c:Ctx}{F H:Hp}{σ:L2.St}{ρ:Ŋ}
theorem jG:∀{as:List Addr} {Ů:List (List PV)} {F:Hp},Rel K c F H σ ρ→as.Nodup→Paired (fun(a:Addr) (ps:List PV)=>∃vs,H a=some (.lst vs)∧F a=none∧c.B a=none∧Đ K F ps vs) as Ů→(∀a∈as,cu F σ ρ a)→
 ∃F',Same F F'∧Rel K c F' H σ ρ∧Đ K F' (Ů.map PV.lst) (as.map V.ref)
 |_,_,F,rel,_,.nil,_=>⟨F,Same.refl _,rel,Đ.nil⟩
 |a::as,ps::Ů,F,rel,nd,.cons ⟨vs,k1,k2,k3,k4⟩ t,fr=>by
  obtain⟨n1,n2⟩:=List.nodup_cons.mp nd
  have Ď:=rel.freeze k1 k3 k2 (fr a List.mem_cons_self)
  obtain⟨F',s1,ı,rp⟩:=jG Ď n2 (dX t fun b qs hb ⟨us,e1,e2,e3,e4⟩=>⟨us,e1,by rw[č (fun z=>n1 (by rw[←z];exact hb))];exact e2,e3,Đ.same (Same.upd k2) qs us e4⟩) fun b hb=>rel.cN (Same.upd k2) (fr b (List.mem_cons_of_mem _ hb))
  refine⟨F',(Same.upd k2).trans s1,ı,Đ.cons ?_ rp⟩
  unfold Rep
  exact⟨a,vs,rfl,Ż.of (s1 _ _ ď),Đ.same ((Same.upd k2).trans s1) ps vs k4⟩
theorem Rel.zm(r:Rel K c F H σ ρ){i:Nat}{Ů:List (List PV)}(e:ρ[i]?=some (.ol Ů)):∃F',Same F F'∧Rel K c F' H σ (ρ.set i (.sh (.lst (Ů.map PV.lst)))):=by
 obtain⟨p,as,h1,h2,nd,pa⟩:=r.slot i _ e
 have own:∀a∈as,Ń F σ ρ i a:=fun a ha=>⟨_,_,e,at_of h1,p,as,rfl,h2,ha⟩
 have m1:Rel K c F H σ (ρ.set i .no):=r.tZ rfl trivial
 obtain⟨F',s1,ı,rp⟩:=jG m1 nd pa fun a ha=>(r.move (own a ha)).2
 have rep:Rep K F' (.lst (Ů.map PV.lst)) (.ref p):=by
  unfold Rep
  exact⟨p,_,rfl,Ż.of (s1 _ _ h2),rp⟩
 have q:=ı.tZ (i:=i) (s:=.sh (.lst (Ů.map PV.lst))) rfl (show Ő K c _ H _ (.sh (.lst (Ů.map PV.lst))) from⟨.ref p,by rw[at_of h1];rfl,rep⟩)
 rw[List.set_set] at q
 exact⟨F',s1,q⟩
end
def nT(i:Nat)(m:M Bool):M Bool:=fun ρ=>match ρ[i]? with
 |some (.ol Ů)=>match m (ρ.set i (.sh (.lst (Ů.map PV.lst)))) with
  | .ok b _=>.ok b ρ
  |_=>.bad
 |_=>m ρ
def nU(i:Nat)(m:M PV):M PV:=fun ρ=>match ρ[i]? with
 |some (.ol Ů)=>match m (ρ.set i (.sh (.lst (Ů.map PV.lst)))) with
  | .ok (.bl b) _=>.ok (.bl b) ρ
  |_=>.bad
 |_=>m ρ
def jH(i j:Nat)(mr:M (List Slot)):M (List Slot):=fun ρ=>match ρ[i]? with
 |some (.ol Ů)=>match Ů[j]? with
  |some _=>(mr ρ).bind fun as ρ2=>match ρ2[i]? with
   |some (.ol nW)=>match nW[j]? with
    |some ps=>.ok (.bw ps::as) ρ2
    |none=>.bad
   |_=>.bad
  |none=>.bad
 |_=>.bad
def uN(i x:Nat)(m:M PV):M Fl:=fun ρ=>match ρ[i]?,ρ[x]? with
 |some (.ol Ů),some (.sh (.int j))=>if 0≤j∧j.toNat<Ů.length then(m ρ).bind fun p ρ1=>match ρ1[i]? with
   |some (.ol nW)=>match nW[j.toNat]? with
    |some ps=>if ps.length<16777216 then .ok .nx (ρ1.set i (.ol (nW.set j.toNat (ps ++ [p])))) else .bad
    |none=>.bad
   |_=>.bad
  else .bad
 |_,_=>.bad
theorem zp{α β:Type}[DecidableEq α]{G G':α→β→Prop}{a:α}{y':β}:∀{l:List α} {m:List β} {j:Nat},Paired G l m→l.Nodup→l[j]?=some a→(∀x y,x≠a→G x y→G' x y)→G' a y'→Paired G' l (m.set j y')
 |_,_,j,.nil,_,e,_,_=>by simp at e
 |x::l,y::m,0,.cons r t,nd,e,h1,h2=>by
  have e':x=a:=by simpa using e
  subst e'
  obtain⟨n1,n2⟩:=List.nodup_cons.mp nd
  exact .cons h2 (dX t fun z w hz q=>h1 z w (fun k=>n1 (by rw[←k];exact hz)) q)
 |x::l,y::m,j+1,.cons r t,nd,e,h1,h2=>by
  obtain⟨n1,n2⟩:=List.nodup_cons.mp nd
  have e':l[j]?=some a:=by simpa using e
  exact .cons (h1 x y (fun k=>n1 (by rw[k];exact List.mem_of_getElem? e')) r) (zp t n2 e' h1 h2)
theorem uO{as:List Addr}{a:Addr}{j:Nat}(h:as[j]?=some a):eO (as.map V.ref) (j:Int)=some (.ref a):=by
 have hl:=(List.getElem?_eq_some_iff.mp h).1
 unfold eO o_
 rw[if_pos (by omega),if_pos (by rw[List.length_map];omega)]
 simp[h]
section
variable{X:Cx}{cm:String→Addr}{E:L2.St→XK}{e:Expr}{es:List Expr}{m:M Bool}{mv:M PV}{ms:M (List Slot)}
theorem En(i:Nat)(h:PT X e (tB (kk X cm) E m)):PT X e (tB (kk X cm) E (nT i m)):=PT.wk h fun σ H Q ⟨c,F,ρ,rel,h⟩=>by
 unfold nT at h
 cases e1:ρ[i]? with
 |none=>rw[e1] at h;exact⟨c,F,ρ,rel,h⟩
 |some s=>
  rw[e1] at h
  cases s with
  |ol Ů=>
   obtain⟨F',sF,Ŧ⟩:=rel.zm e1
   refine⟨c,F',_,Ŧ,?_⟩
   dsimp only at h
   cases em:m (ρ.set i (.sh (.lst (Ů.map PV.lst)))) with
   |ok b ρ1=>rw[em] at h;exact fun v F2 H2 r1 s1 s2 q=>h v F H2 (rel.keep s2) (Same.refl _) s2 q
   |exc x ρ1=>rw[em] at h;exact h.elim
   |bad=>rw[em] at h;exact h.elim
  |_=>exact⟨c,F,ρ,rel,h⟩
theorem Eo(i:Nat)(h:PE X e (tV (kk X cm) E mv)):PE X e (tV (kk X cm) E (nU i mv)):=PE.wk h fun σ H Q ⟨c,F,ρ,rel,h⟩=>by
 unfold nU at h
 cases e1:ρ[i]? with
 |none=>rw[e1] at h;exact⟨c,F,ρ,rel,h⟩
 |some s=>
  rw[e1] at h
  cases s with
  |ol Ů=>
   obtain⟨F',sF,Ŧ⟩:=rel.zm e1
   refine⟨c,F',_,Ŧ,?_⟩
   dsimp only at h
   cases em:mv (ρ.set i (.sh (.lst (Ů.map PV.lst)))) with
   |ok b ρ1=>
    rw[em] at h
    cases b with
    |bl b=>
     intro v F2 H2 r1 s1 s2 q
     have q':Rep (kk X cm) F2 (.bl b) v:=q
     unfold Rep at q'
     subst q'
     exact h _ F H2 (rel.keep s2) (Same.refl _) s2 Rep.bl
    |_=>exact h.elim
   |exc x ρ1=>rw[em] at h;exact h.elim
   |bad=>rw[em] at h;exact h.elim
  |_=>exact⟨c,F,ρ,rel,h⟩
theorem uP(i j:Nat){x:Str}{px cp sp:Pos}{ck}(hN:X.N[i]?=some x:=by rfl)(hv:BW X.env.scope x:=by first|exact Or.inl rfl|exact Or.inr (Or.inl rfl)|exact Or.inr (Or.inr rfl))(hd:(x== ("__debug__" :Str))=false:=by decide)
 (hcd:(x== ("__classdict__" :Str))=false:=by decide)(hr:PA X es (tA (kk X cm) E ms))(hs:starEach (.Subscript (.Name x px) (.Constant (.int j) ck cp) sp::es) X.env=(false,eval (.Subscript (.Name x px) (.Constant (.int j) ck cp) sp) X.env)::starEach es X.env:=by exact Ā rfl) :
 PA X (.Subscript (.Name x px) (.Constant (.int j) ck cp) sp::es) (tA (kk X cm) E (jH i j ms)):=
 PA.wk (fG (wZ qT (eN hN hv hd hcd) wG (fun _ _=>rfl)) hr hs) fun σ H Q ⟨c,F,ρ,rel,h⟩=>by
   unfold jH at h
   cases e1:ρ[i]? with
   |none=>rw[e1] at h;exact h.elim
   |some s=>
    rw[e1] at h
    cases s with
    |ol Ů=>
     dsimp only at h
     cases e2:Ů[j]? with
     |none=>rw[e2] at h;exact h.elim
     |some Yx=>
      rw[e2] at h
      obtain⟨p,as,h1,h2,nd,pa⟩:=rel.slot i _ e1
      obtain⟨a,ha,_⟩:=iQ pa e2
      refine⟨.ref p,at_of h1,.inl ⟨p,as.map V.ref,(j:Int),.ref a,rfl,rfl,Ż.of (rel.sub _ _ h2),uO ha,c,F,ρ,rel,ŵ.bind h fun as' ρ2 vs F2 H2 ı sF sH r2 h3=>?_⟩⟩
      cases e3:ρ2[i]? with
      |none=>simp only[e3] at h3;exact h3.elim
      |some s2=>
       simp only[e3] at h3
       cases s2 with
       |ol Js=>
        dsimp only at h3
        cases e4:Js[j]? with
        |none=>rw[e4] at h3;exact h3.elim
        |some ps=>
         rw[e4] at h3
         obtain⟨p2,as2,k1,k2,nd2,Wz⟩:=ı.slot i _ e3
         rw[h1] at k1
         cases k1
         rw[sF _ _ h2] at k2
         have z:as=as2:=bB (by injection k2 with k2;injection k2)
         subst z
         obtain⟨a2,ha2,vs2,w1,w2,w3,w4⟩:=iQ Wz e4
         rw[ha] at ha2
         cases ha2
         exact h3 _ F2 H2 ı (Same.refl _) (Same.refl _) (.cons (show au _ _ _ (.bw ps) (.ref a) from⟨a,vs2,rfl,w1,w2,w4⟩) r2)
       |_=>exact h3.elim
    |_=>exact h.elim
theorem zq{i x:Nat}{D:Ends}{σ:L2.St}{H:Hp}(h:tS (kk X cm) E (uN i x mv) D σ H):wJ (Yc X.K "list" nj (Hq (rIx X.K) (oX i) (oX x)) (tL (kk X cm) E (ā mv ė))) D σ H:=by
 obtain⟨c,F,ρ,rel,h⟩:=h
 unfold uN at h
 cases e1:ρ[i]? with
 |none=>rw[e1] at h;exact h.elim
 |some sl=>
  cases sl with
  |ol Ů=>
   cases ex:ρ[x]? with
   |none=>rw[e1,ex] at h;exact h.elim
   |some sx=>
    cases sx with
    |sh px=>
     cases px with
     |int jz=>
      rw[e1,ex] at h
      dsimp only at h
      split at h
      ·rename_i hj
       obtain⟨p,as,h1,h2,nd,pa⟩:=rel.slot i _ e1
       obtain⟨vx,x1,x2⟩:=rel.slot x _ ex
       unfold Rep at x2
       subst x2
       have hjl:jz.toNat<as.length:=by rw[Paired.length pa];exact hj.2
       obtain⟨a,ha⟩:∃a,as[jz.toNat]?=some a:=⟨_,List.getElem?_eq_getElem hjl⟩
       obtain⟨Yx,_,vs0,z1,z2,z3,z4⟩:=bR pa ha
       have hat:eO (as.map V.ref) jz=some (.ref a):=by
        have:=uO ha
        rwa [show((jz.toNat:Nat):Int)=jz by omega] at this
       refine⟨.ref p,at_of h1,.int jz,at_of x1,.inl ⟨p,as.map V.ref,jz,.ref a,rfl,rfl,Ż.of (rel.sub _ _ h2),hat,.inl ⟨rfl,_,Ż.of z1⟩,c,F,ρ,rel,?_⟩⟩
       unfold ā
       cases em:mv ρ with
       |bad=>rw[em] at h;exact h
       |exc x ρ1=>rw[em] at h;exact fun C d F' H' Ŧ s1 q=>h σ C d F' H' Ŧ s1 q
       |ok p1 ρ1=>
        rw[em] at h
        intro us F1 H1 Ď s1 s2 r1
        have r1':Đ (kk X cm) F1 [p1] us:=r1
        cases r1'.pr with
        |cons rp t=>
         rename_i v vs'
         cases t
         cases e2:ρ1[i]? with
         |none=>simp only[Res.iU,e2] at h;exact h.elim
         |some sl2=>
          simp only[Res.iU,e2] at h
          cases sl2 with
          |ol Js=>
           dsimp only at h
           cases e3:Js[jz.toNat]? with
           |none=>rw[e3] at h;exact h.elim
           |some ps=>
            rw[e3] at h
            dsimp only at h
            split at h
            ·rename_i hz
             obtain⟨p2,as2,k1,k2,nd2,Wz⟩:=Ď.slot i _ e2
             have k1':=k1
             rw[h1] at k1
             cases k1
             have k2':=k2
             rw[s1 _ _ h2] at k2
             have z:as=as2:=bB (by injection k2 with k2;injection k2)
             subst z
             obtain⟨a2,ha2,vs2,w1,w2,w3,w4⟩:=iQ Wz e3
             rw[ha] at ha2
             cases ha2
             have own:Ń F1 σ ρ1 i a:=⟨_,_,e2,at_of k1',p,as,rfl,k2',List.mem_of_getElem? ha⟩
             refine⟨a,vs2,v,rfl,rfl,w1,by rw[←w4.length,Ĺ];exact hz,h σ F1 _ (Ď.xZ own ⟨p,as,k1',k2',nd2,zp Wz nd2 ha (fun b qs hb ⟨us,t1,t2,t3,t4⟩=>⟨us,by rw[č hb];exact t1,t2,t3,t4⟩) ⟨vs2 ++ [v],ď,w2,w3,Đ.append w4 (Đ.cons rp Đ.nil)⟩⟩ fun x b eb q=>⟨_,x,e2,eb,q⟩) s1⟩
            ·exact h.elim
          |_=>exact h.elim
      ·exact h.elim
     |_=>rw[e1,ex] at h;exact h.elim
    |_=>rw[e1,ex] at h;exact h.elim
  |_=>rw[e1] at h;cases ρ[x]? <;> exact h.elim
end
end P
namespace P
open PySem PySem.Spec PyProof.Rows L2 M2 M3 M4
def mD(K:PySem.W.Frag)(D:Addr):Bool:=PySem.W.plainGet K D "__class__" && PySem.W.hasDictIn K D && PySem.W.findIn K (.ref D) "__class__" == some (some (.builtin "object.__class__")) &&
 PySem.W.specialIn K (.builtin "object.__class__") "__get__" == some (some (.builtin "getset_descriptor.__get__")) && PySem.W.takesIn K (.builtin "object.__class__")== some true && PySem.W.mroIn K D (.type "object")== some true
section
variable{X:Cx}{K:KK}
def Ga(K:PySem.W.Frag):List V→Hp→VK→Prop:=fun xs H Q=>zf K xs H Q∨∃(a C dx:Addr) (fs:List (Str×V)) (D:Addr) (b:Bool),xs=[.ref a,.ref D]∧H a=some (.ins C dx fs)∧mD K C=true∧PySem.W.kitOne K (.ref C) (.ref D)=some b∧Q (.bl b) H
theorem dI:ŗ X (.builtin "isinstance") (Ga X.K):=by
 intro pins s σ H xs us Q I r h
 rcases h with h|⟨a,C,dx,fs,D,b,rfl,ha,q,hk,hQ⟩
 ·exact Ej pins s σ H xs us Q I r h
 ·obtain⟨u,w',rfl,r1,r2⟩:=vals2 r
  cases(show u=Value.ref a from r1)
  cases(show w'=Value.ref D from r2)
  obtain⟨hd,_,_,ho,mA,⟨od,es,ep,hod,_⟩,_⟩:=(show Ś X.prog X.w H s.heap a (.ins C dx fs) from I.hok a _ ha)
  unfold mD at q
  simp only[Bool.and_eq_true,beq_iff_eq] at q
  obtain⟨⟨⟨⟨⟨q1,q2⟩,q3⟩,q4⟩,q5⟩,q6⟩:=q
  have J:PySem.W.InstAt s.heap a (PySem.W.instObj C dx) C (some od):=⟨ho,rfl,rfl,hod⟩
  exact PySem.W.kia_one (PySem.W.kitx_own q1 q2 q3 q4 q5 q6) I.fB J hk (fun z=>nomatch z) fun tk=>⟨.bl b,H,I.tok _,rfl,hQ⟩
def aQ(tc tt ti:List ((String×String)×Bool))(ds nt:List String):List PV→Option PV
 | [.ins C _ _,.cls D]=>(ti.lookup (C,D)).map .bl
 |ps=>zj tc tt ds nt ps
theorem dJ{tc tt ti:List ((String×String)×Bool)}{ds nt:List String}(hi:cZ (fun C D b=>mD K.K (K.cm C)=true∧PySem.W.kitOne K.K (.ref (K.cm C)) (.ref (K.cm D))=some b) ti)(hc:cZ (fun C D b=>Ũ K.K (K.cm C)=true∧PySem.W.kitOne K.K (.ref (K.cm C)) (.ref (K.cm D))=some b) tc)
 (ht:cZ (fun C D b=>Ũ K.K (K.cm C)=true∧PySem.W.kitOne K.K (.ref (K.cm C)) (.type D)=some b) tt)(hd:eZ (fun D=>PySem.W.kitOne K.K (.type "NoneType") (.ref (K.cm D))=some false) ds)
 (hn:eZ (fun D=>PySem.W.kitOne K.K (.type "NoneType") (.type D)=some false) nt):cR K (Ga K.K) (aQ tc tt ti ds nt):=by
 intro c F H σ ρ ps pv vs Q rel r e k
 unfold aQ at e
 split at e
 ·rename_i C ns qs D
  obtain⟨v,u,rfl,r1,r2⟩:=Dw r
  cases eb:ti.lookup (C,D) with
  |none=>rw[eb] at e;cases e
  |some b=>
   rw[eb] at e
   cases e
   obtain⟨k1,k2⟩:=hi.get eb
   obtain⟨a,dx,fs,rfl,h1,h2,h3⟩:=r1.ins rel.sub
   have r2':Rep K F (.cls D) u:=by rcases r2 with q|q;exact q;exact q.elim
   unfold Rep at r2'
   subst r2'
   exact .inr ⟨a,_,dx,fs,_,b,rfl,h1,k1,k2,k _ F H rel (Same.refl _) (Same.refl _) Rep.bl⟩
 ·exact .inl (Ek hc ht hd hn rel r e k)
def WD(K:PySem.W.Frag)(cm:String→Addr):List ((String×String)×Bool)→Bool
 | []=>true
 |((c,d),b)::r=>mD K (cm c) && PySem.W.kitOne K (.ref (cm c)) (.ref (cm d))== some b && WD K cm r
theorem zu{K:PySem.W.Frag}{cm:String→Addr}:∀{t:List ((String×String)×Bool)},WD K cm t=true→cZ (fun C D b=>mD K (cm C)=true∧PySem.W.kitOne K (.ref (cm C)) (.ref (cm D))=some b) t
 | [],_=>trivial
 |((c,d),b)::r,h=>by
  unfold WD at h
  rw[Bool.and_eq_true,Bool.and_eq_true] at h
  exact⟨⟨h.1.1,beq_iff_eq.mp h.1.2⟩,zu h.2⟩
end
section
variable{ρ:Ŋ}{i x j:Nat}{m:M Bool}{mv:M PV}{ms:M (List Slot)}{mp:M (List (List PV))}{g:Tg}{mt:M Bool}{me:M RV}{mi:M (List PV)}{js:List Nat}{nl:Nat}
@[simp] theorem Qi:rN i mp ρ=(mp ρ).bind fun Ů ρ1=>.ok .nx (ρ1.set i (.ol Ů)):=rfl
@[simp] theorem Qj:nR js nl mi g mt me ρ=(mi ρ).bind fun items ρ1=>match bx g mt me items (jm js nl ρ1) [] with
  |some ps=>.ok ps ρ1
  |none=>.bad:=rfl
@[simp] theorem Qk:nT i m ρ=(match ρ[i]? with
  |some (.ol Ů)=>match m (ρ.set i (.sh (.lst (Ů.map PV.lst)))) with
   | .ok b _=>.ok b ρ
   |_=>.bad
  |_=>m ρ):=rfl
@[simp] theorem Ql:nU i mv ρ=(match ρ[i]? with
  |some (.ol Ů)=>match mv (ρ.set i (.sh (.lst (Ů.map PV.lst)))) with
   | .ok (.bl b) _=>.ok (.bl b) ρ
   |_=>.bad
  |_=>mv ρ):=rfl
@[simp] theorem Qm:jH i j ms ρ=(match ρ[i]? with
  |some (.ol Ů)=>match Ů[j]? with
   |some _=>(ms ρ).bind fun as ρ2=>match ρ2[i]? with
    |some (.ol nW)=>match nW[j]? with
     |some ps=>.ok (.bw ps::as) ρ2
     |none=>.bad
    |_=>.bad
   |none=>.bad
  |_=>.bad):=rfl
@[simp] theorem WK:uN i x mv ρ=(match ρ[i]?,ρ[x]? with
  |some (.ol Ů),some (.sh (.int j))=>if 0≤j∧j.toNat<Ů.length then(mv ρ).bind fun p ρ1=>match ρ1[i]? with
    |some (.ol nW)=>match nW[j.toNat]? with
     |some ps=>if ps.length<16777216 then .ok .nx (ρ1.set i (.ol (nW.set j.toNat (ps ++ [p])))) else .bad
     |none=>.bad
    |_=>.bad
   else .bad
  |_,_=>.bad):=rfl
end
end P
namespace My
end My
namespace T
open PySem L2 M2 M3 M4 P
def top(i:Nat):Stmt:=PySem.Challenge.pw_shadowpost_k21_corners_of_things.main.body.getD i (.Pass ⟨0,0,0,0⟩)
abbrev pX:Stmt:=top 24
abbrev pY:Stmt:=top 25
abbrev pZ:Stmt:=top 27
abbrev qb:Stmt:=top 26
abbrev g_:Stmt:=top 28
abbrev qd:Stmt:=top 6
abbrev qe:Stmt:=top 7
abbrev qg:Stmt:=top 9
abbrev zx:Stmt:=inClass (top 16) 0
abbrev vY:Stmt:=top 10
abbrev qj:Stmt:=top 11
abbrev zy:Stmt:=top 12
abbrev zA:Stmt:=top 8
abbrev mF:Stmt:=top 13
abbrev ql:Stmt:=top 22
abbrev zB:Stmt:=top 14
abbrev zE:Stmt:=top 15
abbrev zF:Stmt:=inClass (top 17) 0
abbrev zG:Stmt:=inClass (top 18) 0
abbrev qm:Stmt:=inClass (top 19) 0
abbrev vZ:Stmt:=inClass (top 20) 0
abbrev zH:Stmt:=inClass (top 21) 0
abbrev mG:Stmt:=top 32
abbrev mH:Stmt:=top 31
abbrev mJ:Stmt:=inClass (top 16) 1
abbrev qt:Stmt:=top 29
abbrev jJ:Stmt:=top 30
abbrev dg:Stmt:=top 33
def Z3:List ((String×String)×Bool):=[]
def Z4:List ((String×String)×Bool):=[]
def Z9:List ((String×String)×Bool):=[(("Thing","Cloth"),false),(("Thing","Fence"),false),(("Thing","House"),false),(("Thing","Post"),false),(("Thing","Sail"),false),(("Thing","Thing"),true),(("Post","Cloth"),false),(("Post","Fence"),false),(("Post","House"),false),(("Post","Post"),true),(("Post","Sail"),false),(("Post","Thing"),true),(("Fence","Cloth"),false),(("Fence","Fence"),true),(("Fence","House"),false),(("Fence","Post"),false),(("Fence","Sail"),false),(("Fence","Thing"),true),(("Sail","Cloth"),false),(("Sail","Fence"),false),(("Sail","House"),false),(("Sail","Post"),false),(("Sail","Sail"),true),(("Sail","Thing"),true),(("Cloth","Cloth"),true),(("Cloth","Fence"),false),(("Cloth","House"),false),(("Cloth","Post"),false),(("Cloth","Sail"),false),(("Cloth","Thing"),true),(("House","Cloth"),false),(("House","Fence"),false),(("House","House"),true),(("House","Post"),false),(("House","Sail"),false),(("House","Thing"),true)]
def Z5:List String:=[]
def Z6:List String:=[]
def aU(c0:Addr)(c1:Addr)(c2:Addr)(c3:Addr)(c4:Addr)(c5:Addr)(c6:Addr)(c7:Addr):String→Addr:=fun s=>match s with
 | "YardError" =>c0
 | "BadThing" =>c1
 | "Thing" =>c2
 | "Post" =>c3
 | "Fence" =>c4
 | "Sail" =>c5
 | "Cloth" =>c6
 | "House" =>c7
 |_=>0
noncomputable def nY:M Fl:=(Ĵ (dZ (dF (Č yw (ă 1) (cQ fU (ā (ă 0) ė))))
 (Ľ (aK (Č ĸ (ă 0) (ă 1))))
 eV)
 (Ľ (aK (mC (.int 0)))))
noncomputable def ũ:MF:=ş 2 2 nY
noncomputable def gM:M Fl:=(Ĵ (aV 0 (aK (Č Ŷ (ă 0) (Ė (Ņ ķ (Č Ź (mC (.int 4)) (Č cW (mC (.int 10)) (mC (.int 9)))) (mC (.int 8)))))))
 (Ĵ (dZ (dF (Č ŉ (Č Ŷ (ă 0) (mC (.int 4))) (mC (.int 0))))
 (Ľ (aK (Č bC (Č Ŷ (Č eE (ă 0) (mC (.int 4))) (mC (.int 13))) (mC (.int 6)))))
 eV)
 (Ĵ (dZ (dF (Č ŉ (Č Ŷ (ă 0) (mC (.int 4))) (mC (.int 1))))
 (Ľ (aK (Č bC (Č cW (mC (.int 10)) (mC (.int 9))) (Č Ŷ (Č eE (ă 0) (mC (.int 4))) (mC (.int 3))))))
 eV)
 (Ĵ (dZ (dF (Č ŉ (Č Ŷ (ă 0) (mC (.int 4))) (mC (.int 2))))
 (Ľ (aK (Č bC (Č Ŷ (Č eE (ă 0) (mC (.int 4))) (mC (.int 3))) (Č cW (mC (.int 10)) (mC (.int 9))))))
 eV)
 (Ľ (aK (Č bC (Č Ŷ (Ė (Ņ ķ (Č Ź (Č eE (ă 0) (mC (.int 4))) (mC (.int 7919))) (mC (.int 31)))) (Ė (Ņ ķ (Č Ź (mC (.int 2)) (Č cW (mC (.int 10)) (mC (.int 9)))) (mC (.int 1))))) (Č cW (mC (.int 10)) (mC (.int 9))))))))))
noncomputable def ak:MF:=ş 1 1 gM
noncomputable def jK:M Fl:=(Ĵ (dZ (gW (dF (Č ŉ (ă 0) (ă 1))) (dF (Č ŉ (ă 0) (Č cW (mC (.int 10)) (mC (.int 9))))))
 (Ľ (aK (ŝ (ā (Č bC (ă 0) (mC (.int 1))) (ā (Ĕ 0) ė)))))
 eV)
 (Ĵ (dZ (dF (Č ŉ (ă 0) (ă 1)))
 (Ľ (aK (ŝ (ā (Ĕ 0) (ā (Ė (Ņ ķ (ă 0) (mC (.int 1)))) ė)))))
 eV)
 (Ľ (aK (ŝ (ā (cQ ux (ā (ă 0) (ā (ă 1) ė))) (ā (cQ uy (ā (ă 0) (ā (ă 1) ė))) ė)))))))
noncomputable def cD:MF:=ş 2 2 jK
noncomputable def jL:M Fl:=(Ĵ (aV 0 (aK (Č Ŷ (ă 0) (Č Ź (mC (.int 3)) (Č cW (mC (.int 10)) (mC (.int 9)))))))
 (Ĵ (dZ (dF (Č ŉ (Č Ŷ (ă 0) (mC (.int 3))) (mC (.int 0))))
 (Ľ (Ņ ķ (mC (.int 1)) (Č Ŷ (Č eE (ă 0) (mC (.int 3))) (mC (.int 6)))))
 eV)
 (Ĵ (dZ (dF (Č ŉ (Č Ŷ (ă 0) (mC (.int 3))) (mC (.int 1))))
 (Ľ (aK (Č bC (Č cW (mC (.int 10)) (mC (.int 9))) (Č Ŷ (Č eE (ă 0) (mC (.int 3))) (mC (.int 3))))))
 eV)
 (Ľ (Ņ ķ (mC (.int 1)) (Č Ŷ (Č eE (ă 0) (mC (.int 3))) (Č cW (mC (.int 10)) (mC (.int 9)))))))))
noncomputable def cF:MF:=ş 1 1 jL
noncomputable def zJ:M Fl:=(nG 4 (Ĕ 5) (Ė (Ņ ķ (Č bC (Ė (ĭ cF (Ģ (Č ĸ (ă 3) (ă 5)) Ę))) (mC (.int 1))) (Č Ŷ (Č eE (Č ĸ (ă 3) (ă 5)) (mC (.int 7))) (mC (.int 2))))))
noncomputable def dh:M Fl:=(Ĵ (aV 2 (aK (Č ĸ (Ė (aG (ā (mC (.str "post")) (ā (mC (.str "fence")) (ā (mC (.str "sail")) (ā (mC (.str "cloth")) (ā (mC (.str "house")) ė))))))) (Č Ŷ (Ė (ĭ ũ (ċ 0 (ċ 1 Ę)))) (mC (.int 5))))))
 (Ĵ (aV 3 (aj [0,1] 1 (nM jl (ā (mC (.int 9)) ė)) (gN 2) aH (Ė (ĭ ũ (ċ 0 (Ģ (Ė (Ņ ķ (Ė (Ņ ķ (ă 1) (mC (.int 1)))) (ă 2))) Ę))))))
 (Ĵ (dZ (dF (Č ŉ (ă 2) (mC (.str "post"))))
 (Ľ (aK (ŝ (ā (Ĕ 2) (ā (Ė (aG (ā (Ė (ĭ ak (Ģ (Č ĸ (ă 3) (mC (.int 0))) Ę))) (ā (Ė (ĭ ak (Ģ (Č ĸ (ă 3) (mC (.int 1))) Ę))) (ā (Ė (ĭ cF (Ģ (Č ĸ (ă 3) (mC (.int 2))) Ę))) ė))))) ė)))))
 eV)
 (Ĵ (dZ (dF (Č ŉ (ă 2) (mC (.str "cloth"))))
 (Ĵ (aV 4 (aj [] 1 (bW 3) (gN 0) aH (Ė (ĭ ak (ċ 0 Ę)))))
 (Ĵ (yg (Ş (Ė (aG (ā (mC (.int 2)) (ā (mC (.int 5)) (ā (mC (.int 8)) ė)))))) (gN 5) zJ)
 (Ľ (aK (ŝ (ā (Ĕ 2) (ā (Ĕ 4) ė)))))))
 eV)
 (Ĵ (jj (gS 4 (Ī (gN 6) (Ī (gN 7) (Ī (gN 8) (Ī (gN 9) aM))))) (Ė (aj [] 1 (Ş (Ė (yE (ă 3) vR (mP (mC (.int 4)))))) (gN 0) aH (Ė (ĭ ak (ċ 0 Ę))))))
 (Ĵ (dZ (dF (Č ŉ (ă 2) (mC (.str "fence"))))
 (dZ (dF (Č ŉ (ŝ (ā (Ĕ 6) (ā (Ĕ 7) ė))) (ŝ (ā (Ĕ 8) (ā (Ĕ 9) ė)))))
 (jj (gS 2 (Ī (gN 7) (Ī (gN 9) aM))) (Ė (ĭ cD (ċ 7 (ċ 9 Ę)))))
 eV)
 (Ĵ (jj (gS 2 (Ī (gN 6) (Ī (gN 8) aM))) (Ė (ĭ cD (ċ 6 (ċ 8 Ę)))))
 (jj (gS 2 (Ī (gN 7) (Ī (gN 9) aM))) (Ė (ĭ cD (ċ 7 (ċ 9 Ę)))))))
 (Ľ (aK (ŝ (ā (Ĕ 2) (ā (Ė (aG (ā (Ĕ 6) (ā (Ĕ 7) (ā (Ĕ 8) (ā (Ĕ 9) (ā (Ė (ĭ cF (Ģ (Č ĸ (ă 3) (mC (.int 4))) Ę))) ė))))))) ė)))))))))))
noncomputable def aR:MF:=ş 2 10 dh
noncomputable def rP:M Fl:=(Ľ (aK (vO pI pI (vN ur (mC (.int (1000000000)))) (ă 0) (mC (.int (1000000000))))))
noncomputable def aZ:MF:=ş 1 1 rP
noncomputable def rQ:M Fl:=(Ľ (aK (vO pI pI (mC (.int 1)) (ă 0) (mC (.int (1000000000))))))
noncomputable def h_:MF:=ş 1 1 rQ
noncomputable def nZ:M Fl:=(Ľ (aK (cO (Č ŉ (cQ fU (ā (ă 0) ė)) (mC (.int 3))) (cO (Ė (ĭ aZ (Ģ (Č ĸ (ă 0) (mC (.int 0))) Ę))) (cO (Ė (ĭ aZ (Ģ (Č ĸ (ă 0) (mC (.int 1))) Ę))) (Ė (ĭ h_ (Ģ (Č ĸ (ă 0) (mC (.int 2))) Ę))))))))
noncomputable def jM:MF:=ş 1 1 nZ
noncomputable def cG:M Fl:=(Ĵ (pN 0 ["Thing","Post","Fence","Sail","Cloth","House"] "word" (Ĕ 1))
 (pN 0 ["Thing","Post","Fence","Sail","Cloth","House"] "numbers" (Ė (yd jt (ā (ă 2) ė)))))
noncomputable def n_:MI:=cC 3 3 "Post" cG
noncomputable def jN:MI:=cC 3 3 "Fence" cG
noncomputable def oh:MI:=cC 3 3 "Sail" cG
noncomputable def jO:MI:=cC 3 3 "Cloth" cG
noncomputable def jP:MI:=cC 3 3 "House" cG
noncomputable def uQ:M Fl:=(Ľ (aK (cO (Č ŉ (cQ fU (ā (ă 0) ė)) (mC (.int 5))) (cO (cQ pK (ā (Ė (aj [] 1 (Ş (Ė (yE (ă 0) vR (mP (mC (.int 4)))))) (gN 0) aH (Ė (ĭ aZ (ċ 0 Ę))))) ė)) (Ė (ĭ h_ (Ģ (Č ĸ (ă 0) (mC (.int 4))) Ę)))))))
noncomputable def ou:MF:=ş 1 1 uQ
noncomputable def oA:M Fl:=(Ľ (aK (cO (Ė (ĭ ou (ċ 0 Ę))) (Č cX (Ė (yE (ă 0) vR (mP (mC (.int 2))))) (Ė (yE (ă 0) (mP (mC (.int 2))) (mP (mC (.int 4)))))))))
noncomputable def jQ:MF:=ş 1 1 oA
noncomputable def uR:M Fl:=(Ľ (aK (cO (Ė (ĭ ou (ċ 0 Ę))) (cO (Č yw (Č ĸ (ă 0) (mC (.int 0))) (Č ĸ (ă 0) (mC (.int 2)))) (Č yw (Č ĸ (ă 0) (mC (.int 1))) (Č ĸ (ă 0) (mC (.int 3))))))))
noncomputable def oE:MF:=ş 1 1 uR
noncomputable def zK:M Fl:=(Ľ (aK (cO (Ė (ĭ aZ (Ģ (Č ĸ (ă 0) (mC (.int 0))) Ę))) (cO (Ė (ĭ aZ (Ģ (Č ĸ (ă 0) (mC (.int 1))) Ę))) (vO pI pI (mC (.int 0)) (Č ĸ (ă 0) (mC (.int 2))) (mC (.int (1000000000))))))))
noncomputable def wg:MF:=ş 1 1 zK
noncomputable def oF:M Fl:=(Ľ (aK (cO (Č ŉ (cQ fU (ā (ă 0) ė)) (mC (.int 9))) (cQ pK (ā (Ė (aj [0] 1 (Ş (ŝ (ā (mC (.int 0)) (ā (mC (.int 3)) (ā (mC (.int 6)) ė))))) (gN 1) aH (Ė (ĭ wg (Ģ (Ė (yE (ă 0) (mP (Ĕ 1)) (mP (Ė (Ņ ķ (ă 1) (mC (.int 3))))))) Ę))))) ė)))))
noncomputable def jR:MF:=ş 1 1 oF
noncomputable def dj:M Fl:=(Ĵ (dZ (gW (dF (Č ŉ (ă 0) (mC (.str "post")))) (iz (Ė (ĭ jM (ċ 1 Ę)))))
 (Ľ (aK (bF "Post" n_ (ċ 0 (ċ 1 Ę)))))
 eV)
 (Ĵ (dZ (gW (dF (Č ŉ (ă 0) (mC (.str "fence")))) (iz (Ė (ĭ jQ (ċ 1 Ę)))))
 (Ľ (aK (bF "Fence" jN (ċ 0 (ċ 1 Ę)))))
 eV)
 (Ĵ (dZ (gW (dF (Č ŉ (ă 0) (mC (.str "sail")))) (iz (Ė (ĭ oE (ċ 1 Ę)))))
 (Ľ (aK (bF "Sail" oh (ċ 0 (ċ 1 Ę)))))
 eV)
 (Ĵ (dZ (gW (dF (Č ŉ (ă 0) (mC (.str "cloth")))) (iz (Ė (ĭ jR (ċ 1 Ę)))))
 (Ľ (aK (bF "Cloth" jO (ċ 0 (ċ 1 Ę)))))
 eV)
 (Ĵ (dZ (gW (dF (Č ŉ (ă 0) (mC (.str "house")))) (iz (Ė (ĭ oE (ċ 1 Ę)))))
 (Ľ (aK (bF "House" jP (ċ 0 (ċ 1 Ę)))))
 eV)
 (rJ "BadThing"))))))
noncomputable def bJ:MF:=ş 2 2 dj
noncomputable def zL:M Fl:=(Ľ (aG (ā (ŝ (ā (Ĕ 0) (ā (Ĕ 1) (ā (Ĕ 4) ė)))) (ā (ŝ (ā (Ĕ 2) (ā (Ĕ 1) (ā (Ĕ 4) ė)))) (ā (ŝ (ā (Ĕ 2) (ā (Ĕ 3) (ā (Ĕ 4) ė)))) (ā (ŝ (ā (Ĕ 0) (ā (Ĕ 3) (ā (Ĕ 4) ė)))) ė))))))
noncomputable def kZ:MF:=ş 5 5 zL
noncomputable def zM:M Fl:=(Ľ (Ņ ķ (Ė (ĭ kZ (ċ 0 (ċ 1 (ċ 2 (ċ 3 (Ģ (mC (.int 0)) Ę))))))) (Ė (ĭ kZ (ċ 0 (ċ 1 (ċ 2 (ċ 3 (ċ 4 Ę)))))))))
noncomputable def qu:MF:=ş 5 5 zM
noncomputable def zN:M Fl:=(Ĵ (aV 1 (aK (Č Ź (mC (.int 2)) (Č ĸ (vN (cI ["Thing","Post","Fence","Sail","Cloth","House"] "numbers") (ă 0)) (mC (.int 0))))))
 (Ĵ (aV 2 (aK (Č Ź (mC (.int 2)) (Č ĸ (vN (cI ["Thing","Post","Fence","Sail","Cloth","House"] "numbers") (ă 0)) (mC (.int 1))))))
 (Ľ (ĭ qu (Ģ (Č bC (ă 1) (mC (.int 1))) (Ģ (Č bC (ă 2) (mC (.int 1))) (Ģ (Ė (Ņ ķ (ă 1) (mC (.int 1)))) (Ģ (Ė (Ņ ķ (ă 2) (mC (.int 1)))) (Ģ (Č ĸ (vN (cI ["Thing","Post","Fence","Sail","Cloth","House"] "numbers") (ă 0)) (mC (.int 2))) Ę)))))))))
noncomputable def oG:MF:=ş 1 3 zN
noncomputable def zO:M Fl:=(Ĵ (aV 1 (aK (vN (cI ["Thing","Post","Fence","Sail","Cloth","House"] "numbers") (ă 0))))
 (Ĵ (aV 2 (aK (ŝ (ā (Č ĸ (ă 1) (mC (.int 0))) (ā (Č ĸ (ă 1) (mC (.int 1))) ė)))))
 (Ĵ (aV 3 (aK (ŝ (ā (Č ĸ (ă 1) (mC (.int 2))) (ā (Č ĸ (ă 1) (mC (.int 3))) ė)))))
 (Ľ (aG (ā (Ė (Ņ ķ (ă 2) (ŝ (ā (mC (.int 0)) ė)))) (ā (Ė (Ņ ķ (ă 3) (ŝ (ā (mC (.int 0)) ė)))) (ā (Ė (Ņ ķ (ă 3) (ŝ (ā (Č ĸ (ă 1) (mC (.int 4))) ė)))) (ā (Ė (Ņ ķ (ă 2) (ŝ (ā (Č ĸ (ă 1) (mC (.int 4))) ė)))) ė)))))))))
noncomputable def oH:MF:=ş 1 4 zO
noncomputable def rT:M Fl:=(Ĵ (aV 1 (aK (vN (cI ["Thing","Post","Fence","Sail","Cloth","House"] "numbers") (ă 0))))
 (Ľ (ĭ kZ (Ģ (Č ĸ (ă 1) (mC (.int 0))) (Ģ (Č ĸ (ă 1) (mC (.int 1))) (Ģ (Č ĸ (ă 1) (mC (.int 2))) (Ģ (Č ĸ (ă 1) (mC (.int 3))) (Ģ (Č ĸ (ă 1) (mC (.int 4))) Ę))))))))
noncomputable def fZ:MF:=ş 1 2 rT
noncomputable def zP:M Fl:=(Ľ (aj [0] 1 (Ş (ŝ (ā (mC (.int 0)) (ā (mC (.int 3)) (ā (mC (.int 6)) ė))))) (gN 1) aH (cQ eY (ā (Ė (yE (vN (cI ["Thing","Post","Fence","Sail","Cloth","House"] "numbers") (ă 0)) (mP (Ĕ 1)) (mP (Ė (Ņ ķ (ă 1) (mC (.int 3))))))) ė))))
noncomputable def oJ:MF:=ş 1 1 zP
noncomputable def zQ:M Fl:=(Ĵ (aV 1 (aK (vN (cI ["Thing","Post","Fence","Sail","Cloth","House"] "numbers") (ă 0))))
 (Ľ (ĭ qu (Ģ (Č ĸ (ă 1) (mC (.int 0))) (Ģ (Č ĸ (ă 1) (mC (.int 1))) (Ģ (Č ĸ (ă 1) (mC (.int 2))) (Ģ (Č ĸ (ă 1) (mC (.int 3))) (Ģ (Č ĸ (ă 1) (mC (.int 4))) Ę))))))))
noncomputable def oK:MF:=ş 1 2 zQ
noncomputable def rW:M Fl:=(Ĵ (aV 2 (aG (ā (cQ (aQ Z3 Z4 Z9 Z5 Z6) (ā (ă 0) (ā (mC (.cls "Post")) ė))) (ā (cQ (aQ Z3 Z4 Z9 Z5 Z6) (ā (ă 0) (ā (mC (.cls "Fence")) ė))) (ā (cQ (aQ Z3 Z4 Z9 Z5 Z6) (ā (ă 0) (ā (mC (.cls "Sail")) ė))) ė)))))
 (Ĵ (aV 2 (Ņ ķ (ă 2) (Ė (aG (ā (cQ (aQ Z3 Z4 Z9 Z5 Z6) (ā (ă 0) (ā (mC (.cls "Cloth")) ė))) (ā (cQ (aQ Z3 Z4 Z9 Z5 Z6) (ā (ă 0) (ā (mC (.cls "House")) ė))) ė))))))
 (Ĵ (aV 3 (aG (ā (mC (.str "post")) (ā (mC (.str "fence")) (ā (mC (.str "sail")) (ā (mC (.str "cloth")) (ā (mC (.str "house")) ė)))))))
 (Ľ (aK (cO (cQ (aQ Z3 Z4 Z9 Z5 Z6) (ā (ă 0) (ā (mC (.cls "Thing")) ė))) (Č ŉ (ă 2) (Ė (aj [1] 1 (bW 3) (gN 1) aH (Č ŉ (ă 1) (ă 0)))))))))))
noncomputable def jT:MF:=ş 2 4 rW
noncomputable def rY:M Fl:=(Ĵ (dZ (q_ (ji (iz (cQ (bH Z3 Z4 Z5 Z6) (ā (Č ĸ (ă 0) (ă 2)) (ā (mC (.ty "tuple")) ė))))) (q_ (dF (Č cX (cQ fU (ā (Č ĸ (ă 0) (ă 2)) ė)) (mC (.int 3)))) (dF (Č cX (Č ĸ (ă 0) (ă 2)) (Č ĸ (ă 1) (ă 2))))))
 (Ľ (aK (mC (.bl false))))
 eV)
 (dZ (ji (iz (cQ pK (ā (Ė (aj [] 1 (Ş (Č ĸ (ă 0) (ă 2))) (gN 0) aH (cO (cQ (bH Z3 Z4 Z5 Z6) (ā (ă 0) (ā (mC (.ty "int")) ė))) (Dl (cQ (bH Z3 Z4 Z5 Z6) (ā (ă 0) (ā (mC (.ty "bool")) ė))))))) ė))))
 (Ľ (aK (mC (.bl false))))
 eV))
noncomputable def rZ:M Fl:=(Ĵ (dZ (q_ (ji (iz (cQ (bH Z3 Z4 Z5 Z6) (ā (ă 0) (ā (mC (.ty "list")) ė))))) (dF (Č cX (cQ fU (ā (ă 0) ė)) (cQ fU (ā (ă 1) ė)))))
 (Ľ (aK (mC (.bl false))))
 eV)
 (Ĵ (yg (nM jl (ā (cQ fU (ā (ă 1) ė)) ė)) (gN 2) rY)
 (Ľ (aK (mC (.bl true))))))
noncomputable def mK:MF:=ş 2 3 rZ
noncomputable def su:M Fl:=(Ľ (aK (Wo lZ (mC (.str " ")) (ā (Ė (Ņ ķ (Ė (aG (ā (vN (cI ["Thing","Post","Fence","Sail","Cloth","House"] "word") (ă 0)) ė))) (Ė (aj [] 1 (Ş (vN (cI ["Thing","Post","Fence","Sail","Cloth","House"] "numbers") (ă 0))) (gN 0) aH (cQ rK (ā (ă 0) ė)))))) ė))))
noncomputable def Ň:MF:=ş 1 1 su
noncomputable def sy:M Fl:=(Ľ (aG (ā (ŝ (ā (Ĕ 0) (ā (Ĕ 1) (ā (Ĕ 4) ė)))) (ā (ŝ (ā (Ĕ 2) (ā (Ĕ 1) (ā (Ĕ 4) ė)))) (ā (ŝ (ā (Ĕ 2) (ā (Ĕ 3) (ā (Ĕ 4) ė)))) (ā (ŝ (ā (Ĕ 0) (ā (Ĕ 3) (ā (Ĕ 4) ė)))) ė))))))
noncomputable def aA:MF:=ş 5 5 sy
noncomputable def jU:M Fl:=(Ĵ (dZ (dF (Č ŉ (ă 0) (mC (.str "cloth"))))
 (Ľ (aj [1] 1 (Ş (Ė (aG (ā (mC (.int 0)) (ā (mC (.int 3)) (ā (mC (.int 6)) ė)))))) (gN 1) aH (cQ eY (ā (Ė (yE (ă 0) (mP (Ĕ 1)) (mP (Ė (Ņ ķ (ă 1) (mC (.int 3))))))) ė))))
 eV)
 (Ĵ (dZ (dF (Č ŉ (ă 0) (mC (.str "post"))))
 (Ĵ (jj (gS 3 (Ī (gN 7) (Ī (gN 8) (Ī (gN 6) aM)))) (Ĕ 1))
 IW)
 eV)
 (Ĵ (jj (gS 5 (Ī (gN 2) (Ī (gN 3) (Ī (gN 4) (Ī (gN 5) (Ī (gN 6) aM)))))) (Ĕ 1))
 (Ĵ (dZ (dF (Č ŉ (ă 0) (mC (.str "fence"))))
 (Ľ (aG (ā (ŝ (ā (Ĕ 2) (ā (Ĕ 3) (ā (mC (.int 0)) ė)))) (ā (ŝ (ā (Ĕ 4) (ā (Ĕ 5) (ā (mC (.int 0)) ė)))) (ā (ŝ (ā (Ĕ 4) (ā (Ĕ 5) (ā (Ĕ 6) ė)))) (ā (ŝ (ā (Ĕ 2) (ā (Ĕ 3) (ā (Ĕ 6) ė)))) ė))))))
 eV)
 (Ĵ (dZ (dF (Č ŉ (ă 0) (mC (.str "sail"))))
 (Ľ (ĭ aA (ċ 2 (ċ 3 (ċ 4 (ċ 5 (ċ 6 Ę)))))))
 eV)
 (Ľ (Ņ ķ (Ė (ĭ aA (ċ 2 (ċ 3 (ċ 4 (ċ 5 (Ģ (mC (.int 0)) Ę))))))) (Ė (ĭ aA (ċ 2 (ċ 3 (ċ 4 (ċ 5 (ċ 6 Ę))))))))))))))
noncomputable def iZ:MF:=ş 2 9 jU
noncomputable def fj:M Fl:=(Ĵ (dZ (dF (Č ŉ (ă 0) (mC (.str "cloth"))))
 (Ľ (aj [1] 1 (Ş (Ė (aG (ā (mC (.int 0)) (ā (mC (.int 3)) (ā (mC (.int 6)) ė)))))) (gN 1) aH (cQ eY (ā (Ė (yE (ă 0) (mP (Ĕ 1)) (mP (Ė (Ņ ķ (ă 1) (mC (.int 3))))))) ė))))
 eV)
 (Ĵ (dZ (dF (Č ŉ (ă 0) (mC (.str "post"))))
 (Ĵ (jj (gS 3 (Ī (gN 7) (Ī (gN 8) (Ī (gN 6) aM)))) (Ĕ 1))
 (Ľ (ĭ iZ (Ģ (mC (.str "house")) (Ģ (Ė (aG (ā (Č bC (Č Ź (mC (.int 2)) (ă 7)) (mC (.int 1))) (ā (Č bC (Č Ź (mC (.int 2)) (ă 8)) (mC (.int 1))) (ā (Ė (Ņ ķ (Č Ź (mC (.int 2)) (ă 7)) (mC (.int 1)))) (ā (Ė (Ņ ķ (Č Ź (mC (.int 2)) (ă 8)) (mC (.int 1)))) (ā (Ĕ 6) ė))))))) Ę)))))
 eV)
 (Ĵ (jj (gS 5 (Ī (gN 2) (Ī (gN 3) (Ī (gN 4) (Ī (gN 5) (Ī (gN 6) aM)))))) (Ĕ 1))
 (Ĵ (dZ (dF (Č ŉ (ă 0) (mC (.str "fence"))))
 (Ľ (aG (ā (ŝ (ā (Ĕ 2) (ā (Ĕ 3) (ā (mC (.int 0)) ė)))) (ā (ŝ (ā (Ĕ 4) (ā (Ĕ 5) (ā (mC (.int 0)) ė)))) (ā (ŝ (ā (Ĕ 4) (ā (Ĕ 5) (ā (Ĕ 6) ė)))) (ā (ŝ (ā (Ĕ 2) (ā (Ĕ 3) (ā (Ĕ 6) ė)))) ė))))))
 eV)
 (Ĵ (dZ (dF (Č ŉ (ă 0) (mC (.str "sail"))))
 (Ľ (ĭ aA (ċ 2 (ċ 3 (ċ 4 (ċ 5 (ċ 6 Ę)))))))
 eV)
 (Ľ (Ņ ķ (Ė (ĭ aA (ċ 2 (ċ 3 (ċ 4 (ċ 5 (Ģ (mC (.int 0)) Ę))))))) (Ė (ĭ aA (ċ 2 (ċ 3 (ċ 4 (ċ 5 (ċ 6 Ę))))))))))))))
noncomputable def dw:MF:=ş 2 9 fj
noncomputable def sE:M Fl:=(Ĵ (jj (gS 2 (Ī (gN 7) (Ī (gN 8) aM))) (Č ĸ (ă 1) (ă 4)))
 (Ĵ (aV 5 (aK (Wo lZ (mC (.str " ")) (ā (Ė (Ņ ķ (Ė (aG (ā (Ĕ 7) ė))) (Ė (aj [] 1 (bW 8) (gN 0) aH (cQ rK (ā (ă 0) ė)))))) ė))))
 (Ĵ (aV 6 (cB "corners" [("Post",oG),("Fence",oH),("Sail",fZ),("Cloth",oJ),("House",oK)] (Č ĸ (ă 3) (ă 4)) Ę))
 (Ĵ (dZ (q_ (ji (iz (Ė (ĭ jT (Ģ (Č ĸ (ă 3) (ă 4)) (ċ 7 Ę)))))) (ji (iz (Ė (ĭ mK (ċ 6 (Ģ (Ė (ĭ dw (ċ 7 (ċ 8 Ę)))) Ę)))))))
 (Ľ (aK (mC (.bl false))))
 eV)
 (Ĵ (dZ (nT 2 (q_ (dF (Č cX (Ė (cB "shown" [("Thing",Ň),("Post",Ň),("Fence",Ň),("Sail",Ň),("Cloth",Ň),("House",Ň)] (Č ĸ (ă 3) (ă 4)) Ę)) (ă 5))) (dF (Č cX (Ė (yE (Č ĸ (ă 2) (ă 4)) vR (mP (cQ fU (ā (ă 8) ė))))) (ă 8)))))
 (Ľ (aK (mC (.bl false))))
 eV)
 (Ĵ (nG 6 (mC (.int 0)) (ŝ (ā (mC (.int 1)) (ā (mC (.int 2)) (ā (mC (.int 3)) ė)))))
 (Ĵ (Dq 6 (ŝ (ā (mC (.int 0)) (ā (mC (.int 0)) (ā (mC (.int 0)) ė)))))
 (uN 2 4 (mC (.int 5))))))))))
noncomputable def sG:M Fl:=(Ĵ (aV 1 (aG (ā (Ė (ĭ aR (ċ 0 (Ģ (mC (.int 0)) Ę)))) (ā (Ė (ĭ aR (ċ 0 (Ģ (mC (.int 10)) Ę)))) ė))))
 (Ĵ (rN 2 (nR [] 2 (bW 1) (gT 2 (Ī (gN 0) (Ī (gN 1) aM))) aH (yd jt (ā (ă 1) ė))))
 (Ĵ (aV 3 (aG (ā (Ė (ĭ bJ (Ģ (Č ĸ (Č ĸ (ă 1) (mC (.int 0))) (mC (.int 0))) (jH 2 0 Ę)))) (ā (Ė (ĭ bJ (Ģ (Č ĸ (Č ĸ (ă 1) (mC (.int 1))) (mC (.int 0))) (jH 2 1 Ę)))) ė))))
 (Ĵ (yg (Ş (Ė (aG (ā (mC (.int 0)) (ā (mC (.int 1)) (ā (mC (.int 1)) (ā (mC (.int 0)) ė))))))) (gN 4) sE)
 (Ľ (aK (nU 2 (Č ŉ (ă 2) (Ė (aj [] 2 (bW 1) (gT 2 (Ī (gN 0) (Ī (gN 1) aM))) aH (Ė (Ņ ķ (ă 1) (Ė (aG (ā (mC (.int 5)) (ā (mC (.int 5)) ė))))))))))))))))
noncomputable def jV:MF:=ş 1 9 sG
set_option genInjectivity false
set_option genSizeOf false
structure Adr where
 zR:Addr
 zT:FuncData
 zU:Addr
 zV:FuncData
 zW:Addr
 zX:FuncData
 zY:Addr
 zZ:FuncData
 z_:Addr
 Aa:FuncData
 Ab:Addr
 Ac:FuncData
 Ad:Addr
 Ae:FuncData
 Af:Addr
 Ag:FuncData
 iB:Addr
 sI:FuncData
 Jt:Addr
 Ju:FuncData
 Ah:Addr
 Ai:FuncData
 Jv:Addr
 Jw:FuncData
 Jx:Addr
 Jy:FuncData
 Aj:Addr
 Ak:FuncData
 Al:Addr
 Am:FuncData
 Jz:Addr
 JB:FuncData
 JC:Addr
 JD:FuncData
 JF:Addr
 JG:FuncData
 JH:Addr
 JK:FuncData
 Ao:Addr
 Aq:FuncData
 JL:Addr
 JM:FuncData
 JN:Addr
 JQ:FuncData
 Ar:Addr
 Av:FuncData
 Aw:Addr
 Ax:FuncData
 ig:Addr
 Ay:FuncData
 Az:Addr
 A_:FuncData
 uT:Addr
 uU:FuncData
 Ba:Addr
 Bb:FuncData
 qw:Addr
 sJ:Addr
 Ep:Addr
 JR:Addr
 Er:Addr
 JT:Addr
 Es:Addr
 Et:Addr
 k_:Tok
 oM:Tok
def Ĳ(a:Adr):String→Addr:=aU a.qw a.sJ a.Ep a.JR a.Er a.JT a.Es a.Et
structure Tx(K:PySem.W.Frag)(mg:Str→Option Value)(a:Adr):Prop where
 Bc:dD K "_law_cell" "_law_cell" pX a.zR a.zT
 ũ:mg "_law_cell" =some (.ref a.zR)
 Gb:Binds K a.zT ["_law_script","_law_at"] []
 qy:dD K "_law_far" "_law_far" pY a.zU a.zV
 ak:mg "_law_far" =some (.ref a.zU)
 uV:Binds K a.zV ["_law_cell_here"] []
 uW:dD K "_law_rising" "_law_rising" pZ a.zW a.zX
 cD:mg "_law_rising" =some (.ref a.zW)
 Bd:Binds K a.zX ["_law_one","_law_other"] []
 uX:dD K "_law_high" "_law_high" qb a.zY a.zZ
 cF:mg "_law_high" =some (.ref a.zY)
 Bf:Binds K a.zZ ["_law_cell_here"] []
 Bg:dD K "_law_thing" "_law_thing" g_ a.z_ a.Aa
 aR:mg "_law_thing" =some (.ref a.z_)
 Gd:Binds K a.Aa ["_law_script","_law_at"] []
 mL:dD K "is_place" "is_place" qd a.Ab a.Ac
 aZ:mg "is_place" =some (.ref a.Ab)
 qz:Binds K a.Ac ["number"] []
 Bh:dD K "is_height" "is_height" qe a.Ad a.Ae
 h_:mg "is_height" =some (.ref a.Ad)
 Ge:Binds K a.Ae ["number"] []
 Gf:dD K "makes_post" "makes_post" qg a.Af a.Ag
 jM:mg "makes_post" =some (.ref a.Af)
 Qn:Binds K a.Ag ["numbers"] []
 Bj:dD K "__init__" "Thing.__init__" zx a.iB a.sI
 Bk:Binds K a.sI ["self","word","numbers"] []
 JV:dD K "has_two_ends" "has_two_ends" vY a.Jt a.Ju
 ou:mg "has_two_ends" =some (.ref a.Jt)
 Qo:Binds K a.Ju ["numbers"] []
 Gg:dD K "makes_fence" "makes_fence" qj a.Ah a.Ai
 jQ:mg "makes_fence" =some (.ref a.Ah)
 Qp:Binds K a.Ai ["numbers"] []
 JW:dD K "makes_sail_or_house" "makes_sail_or_house" zy a.Jv a.Jw
 oE:mg "makes_sail_or_house" =some (.ref a.Jv)
 Qq:Binds K a.Jw ["numbers"] []
 Qs:dD K "is_cloth_corner" "is_cloth_corner" zA a.Jx a.Jy
 wg:mg "is_cloth_corner" =some (.ref a.Jx)
 Zbi:Binds K a.Jy ["numbers"] []
 Gh:dD K "makes_cloth" "makes_cloth" mF a.Aj a.Ak
 jR:mg "makes_cloth" =some (.ref a.Aj)
 Qt:Binds K a.Ak ["numbers"] []
 Bl:dD K "thing_of" "thing_of" ql a.Al a.Am
 bJ:mg "thing_of" =some (.ref a.Al)
 Gi:Binds K a.Am ["word","numbers"] []
 Eu:dD K "level_corners" "level_corners" zB a.Jz a.JB
 kZ:mg "level_corners" =some (.ref a.Jz)
 JX:Binds K a.JB ["x","y","u","v","z"] []
 JZ:dD K "block_corners" "block_corners" zE a.JC a.JD
 qu:mg "block_corners" =some (.ref a.JC)
 Qu:Binds K a.JD ["x","y","u","v","h"] []
 Zbj:dD K "corners" "Post.corners" zF a.JF a.JG
 Zbk:Binds K a.JG ["self"] []
 Zbl:dD K "corners" "Fence.corners" zG a.JH a.JK
 Zbm:Binds K a.JK ["self"] []
 Qv:dD K "corners" "Sail.corners" qm a.Ao a.Aq
 Qw:Binds K a.Aq ["self"] []
 Zbn:dD K "corners" "Cloth.corners" vZ a.JL a.JM
 Zbo:Binds K a.JM ["self"] []
 Zbp:dD K "corners" "House.corners" zH a.JN a.JQ
 Zbq:Binds K a.JQ ["self"] []
 Gj:dD K "_law_kind" "_law_kind" mG a.Ar a.Av
 jT:mg "_law_kind" =some (.ref a.Ar)
 Qx:Binds K a.Av ["_law_thing_here","_law_word"] []
 Gk:dD K "_law_same" "_law_same" mH a.Aw a.Ax
 mK:mg "_law_same" =some (.ref a.Aw)
 Qy:Binds K a.Ax ["_law_found","_law_due"] []
 Qz:dD K "shown" "Thing.shown" mJ a.ig a.Ay
 mO:Binds K a.Ay ["self"] []
 jW:dD K "_law_level" "_law_level" qt a.Az a.A_
 aA:mg "_law_level" =some (.ref a.Az)
 mQ:Binds K a.A_ ["_law_x","_law_y","_law_u","_law_v","_law_z"] []
 uY:dD K "_law_corners" "_law_corners" jJ a.uT a.uU
 dw:mg "_law_corners" =some (.ref a.uT)
 Gm:Binds K a.uU ["_law_word","_law_numbers"] []
 QB:dD K "law" "law" dg a.Ba a.Bb
 jV:mg "law" =some (.ref a.Ba)
 ZcD:Binds K a.Bb ["_law_script"] []
 Gn:mg "YardError" =some (.ref (Ĳ a "YardError"))
 sO:mg "BadThing" =some (.ref (Ĳ a "BadThing"))
 Ew:mg "Thing" =some (.ref (Ĳ a "Thing"))
 Bm:mg "Post" =some (.ref (Ĳ a "Post"))
 uZ:mg "Fence" =some (.ref (Ĳ a "Fence"))
 Bo:mg "Sail" =some (.ref (Ĳ a "Sail"))
 u_:mg "Cloth" =some (.ref (Ĳ a "Cloth"))
 vd:mg "House" =some (.ref (Ĳ a "House"))
 Gp:PySem.W.excIn K (Ĳ a "YardError") yO Jk=true
 Gq:PySem.W.keepIn K (.ref (Ĳ a "YardError"))=true
 Gs:cY K (Ĳ a "YardError")=true
 sS:PySem.W.excIn K (Ĳ a "BadThing") yO Jk=true
 J_:PySem.W.keepIn K (.ref (Ĳ a "BadThing"))=true
 Ka:cY K (Ĳ a "BadThing")=true
 ň:Cls K (Ĳ a "Thing")
 WL:Mk K (Ĳ a "Thing") a.iB
 Š:Ŕ K (Ĳ a "Thing") "word"
 ĝ:Ŕ K (Ĳ a "Thing") "numbers"
 lg:Meth K (Ĳ a "Thing") "shown" a.ig
 ő:Cls K (Ĳ a "Post")
 Kc:Mk K (Ĳ a "Post") a.iB
 Ŭ:Ŕ K (Ĳ a "Post") "word"
 Ĥ:Ŕ K (Ĳ a "Post") "numbers"
 oN:Meth K (Ĳ a "Post") "shown" a.ig
 jX:Meth K (Ĳ a "Post") "corners" a.JF
 Ŀ:Cls K (Ĳ a "Fence")
 Ey:Mk K (Ĳ a "Fence") a.iB
 š:Ŕ K (Ĳ a "Fence") "word"
 Ğ:Ŕ K (Ĳ a "Fence") "numbers"
 lq:Meth K (Ĳ a "Fence") "shown" a.ig
 iG:Meth K (Ĳ a "Fence") "corners" a.JH
 Œ:Cls K (Ĳ a "Sail")
 Kd:Mk K (Ĳ a "Sail") a.iB
 ŭ:Ŕ K (Ĳ a "Sail") "word"
 ĥ:Ŕ K (Ĳ a "Sail") "numbers"
 oO:Meth K (Ĳ a "Sail") "shown" a.ig
 jY:Meth K (Ĳ a "Sail") "corners" a.Ao
 ŀ:Cls K (Ĳ a "Cloth")
 Ez:Mk K (Ĳ a "Cloth") a.iB
 Ţ:Ŕ K (Ĳ a "Cloth") "word"
 ğ:Ŕ K (Ĳ a "Cloth") "numbers"
 lu:Meth K (Ĳ a "Cloth") "shown" a.ig
 iH:Meth K (Ĳ a "Cloth") "corners" a.JL
 Ł:Cls K (Ĳ a "House")
 EY:Mk K (Ĳ a "House") a.iB
 ţ:Ŕ K (Ĳ a "House") "word"
 Ġ:Ŕ K (Ĳ a "House") "numbers"
 lA:Meth K (Ĳ a "House") "shown" a.ig
 iI:Meth K (Ĳ a "House") "corners" a.JN
 iO:cZ (fun C D b=>mD K (Ĳ a C)=true∧PySem.W.kitOne K (.ref (Ĳ a C)) (.ref (Ĳ a D))=some b) Z9
 iC:cZ (fun C D b=>Ũ K (Ĳ a C)=true∧PySem.W.kitOne K (.ref (Ĳ a C)) (.ref (Ĳ a D))=some b) Z3
 iT:cZ (fun C D b=>Ũ K (Ĳ a C)=true∧PySem.W.kitOne K (.ref (Ĳ a C)) (.type D)=some b) Z4
 iD:eZ (fun D=>PySem.W.kitOne K (.type "NoneType") (.ref (Ĳ a D))=some false) Z5
 iN:eZ (fun D=>PySem.W.kitOne K (.type "NoneType") (.type D)=some false) Z6
 eG:mg "MOST_HEIGHT" =some (.int (1000000000) a.k_)
 gj:mg "MOST_PLACE" =some (.int (1000000000) a.oM)
 Bp:mg "all" =none
 Ke:mg "bool" =none
 QC:mg "int" =none
 ł:mg "isinstance" =none
 gk:mg "len" =none
 fu:mg "list" =none
 QD:mg "max" =none
 QF:mg "min" =none
 vf:mg "range" =none
 Gu:mg "str" =none
 i_:mg "tuple" =none
theorem Kf:ģ ["_law_script","_law_at"] ["_law_script","_law_at"] (Ĉ pX):=⟨rfl,rfl,rfl,by decide +kernel,rfl,by decide +kernel,by decide +kernel⟩
theorem Bq:ģ ["_law_cell_here"] ["_law_cell_here"] (Ĉ pY):=⟨rfl,rfl,rfl,by decide +kernel,rfl,by decide +kernel,by decide +kernel⟩
theorem Kg:ģ ["_law_one","_law_other"] ["_law_one","_law_other"] (Ĉ pZ):=⟨rfl,rfl,rfl,by decide +kernel,rfl,by decide +kernel,by decide +kernel⟩
theorem Br:ģ ["_law_cell_here"] ["_law_cell_here"] (Ĉ qb):=⟨rfl,rfl,rfl,by decide +kernel,rfl,by decide +kernel,by decide +kernel⟩
theorem Ū:ģ ["_law_script","_law_at","_law_word","_law_cells","_law_numbers","_law_k","_law_x","_law_y","_law_u","_law_v"] ["_law_script","_law_at"] (Ĉ g_):=⟨rfl,rfl,rfl,by decide +kernel,rfl,by decide +kernel,by decide +kernel⟩
theorem Kh:ģ ["number"] ["number"] (Ĉ qd):=⟨rfl,rfl,rfl,by decide +kernel,rfl,by decide +kernel,by decide +kernel⟩
theorem Kl:ģ ["number"] ["number"] (Ĉ qe):=⟨rfl,rfl,rfl,by decide +kernel,rfl,by decide +kernel,by decide +kernel⟩
theorem Km:ģ ["numbers"] ["numbers"] (Ĉ qg):=⟨rfl,rfl,rfl,by decide +kernel,rfl,by decide +kernel,by decide +kernel⟩
theorem qC:ģ ["self","word","numbers"] ["self","word","numbers"] (Ĉ zx):=⟨rfl,rfl,rfl,by decide +kernel,rfl,by decide +kernel,by decide +kernel⟩
theorem QG:ģ ["numbers"] ["numbers"] (Ĉ vY):=⟨rfl,rfl,rfl,by decide +kernel,rfl,by decide +kernel,by decide +kernel⟩
theorem Ko:ģ ["numbers"] ["numbers"] (Ĉ qj):=⟨rfl,rfl,rfl,by decide +kernel,rfl,by decide +kernel,by decide +kernel⟩
theorem QH:ģ ["numbers"] ["numbers"] (Ĉ zy):=⟨rfl,rfl,rfl,by decide +kernel,rfl,by decide +kernel,by decide +kernel⟩
theorem QJ:ģ ["numbers"] ["numbers"] (Ĉ zA):=⟨rfl,rfl,rfl,by decide +kernel,rfl,by decide +kernel,by decide +kernel⟩
theorem Kp:ģ ["numbers"] ["numbers"] (Ĉ mF):=⟨rfl,rfl,rfl,by decide +kernel,rfl,by decide +kernel,by decide +kernel⟩
theorem Kq:ģ ["word","numbers"] ["word","numbers"] (Ĉ ql):=⟨rfl,rfl,rfl,by decide +kernel,rfl,by decide +kernel,by decide +kernel⟩
theorem QK:ģ ["x","y","u","v","z"] ["x","y","u","v","z"] (Ĉ zB):=⟨rfl,rfl,rfl,by decide +kernel,rfl,by decide +kernel,by decide +kernel⟩
theorem QL:ģ ["x","y","u","v","h"] ["x","y","u","v","h"] (Ĉ zE):=⟨rfl,rfl,rfl,by decide +kernel,rfl,by decide +kernel,by decide +kernel⟩
theorem Bs:ģ ["self","right","down"] ["self"] (Ĉ zF):=⟨rfl,rfl,rfl,by decide +kernel,rfl,by decide +kernel,by decide +kernel⟩
theorem vg:ģ ["self","given","one","other"] ["self"] (Ĉ zG):=⟨rfl,rfl,rfl,by decide +kernel,rfl,by decide +kernel,by decide +kernel⟩
theorem Bt:ģ ["self","given"] ["self"] (Ĉ qm):=⟨rfl,rfl,rfl,by decide +kernel,rfl,by decide +kernel,by decide +kernel⟩
theorem QM:ģ ["self"] ["self"] (Ĉ vZ):=⟨rfl,rfl,rfl,by decide +kernel,rfl,by decide +kernel,by decide +kernel⟩
theorem Gv:ģ ["self","given"] ["self"] (Ĉ zH):=⟨rfl,rfl,rfl,by decide +kernel,rfl,by decide +kernel,by decide +kernel⟩
theorem oR:ģ ["_law_thing_here","_law_word","_law_found","_law_words"] ["_law_thing_here","_law_word"] (Ĉ mG):=⟨rfl,rfl,rfl,by decide +kernel,rfl,by decide +kernel,by decide +kernel⟩
theorem Bu:ģ ["_law_found","_law_due","_law_k"] ["_law_found","_law_due"] (Ĉ mH):=⟨rfl,rfl,rfl,by decide +kernel,rfl,by decide +kernel,by decide +kernel⟩
theorem Kr:ģ ["self"] ["self"] (Ĉ mJ):=⟨rfl,rfl,rfl,by decide +kernel,rfl,by decide +kernel,by decide +kernel⟩
theorem Ks:ģ ["_law_x","_law_y","_law_u","_law_v","_law_z"] ["_law_x","_law_y","_law_u","_law_v","_law_z"] (Ĉ qt):=⟨rfl,rfl,rfl,by decide +kernel,rfl,by decide +kernel,by decide +kernel⟩
theorem ř:ģ ["_law_word","_law_numbers","_law_x","_law_y","_law_u","_law_v","_law_h","_law_p","_law_q"] ["_law_word","_law_numbers"] (Ĉ jJ):=⟨rfl,rfl,rfl,by decide +kernel,rfl,by decide +kernel,by decide +kernel⟩
theorem cg:ģ ["_law_script","_law_told","_law_handed","_law_things","_law_k","_law_text","_law_found","_law_word","_law_numbers"] ["_law_script"] (Ĉ dg):=⟨rfl,rfl,rfl,by decide +kernel,rfl,by decide +kernel,by decide +kernel⟩
section
variable{P:Program}{w:World}{K:PySem.W.Frag}{mg:Str→Option Value}{base:Heap}{a:Adr}
theorem Bv(T:Tx K mg a):ľ P w K mg base (aY P w) 1 a.zR a.zT ["_law_script","_law_at"] (bU ⟨K,Ĳ a⟩ 2 ũ):=by
 refine gn (cm:=Ĳ a) (mb:=nY) T.Bc Kf rfl rfl rfl fun cdv A outer s H E hr=>?_
 have hu:=hr.units
 exact(Ċ (ů (ŋ yx xG (ą 1) (Ą (PE.wk (į bN (by rfl) T.gk PySem.boot_len (ē (ą 0) Į)) fun _ _ _ h=>Ű b_ h)) (ĩ _))
  (đ (ħ (ō (ń Ĭ ī (ą 0) (ą 1) (fun _ _=>rfl)))))
  Ķ)
  (đ (ħ (ō Ć))))
theorem oU(T:Tx K mg a):ľ P w K mg base (aY P w) 1 a.zU a.zV ["_law_cell_here"] (bU ⟨K,Ĳ a⟩ 1 ak):=by
 refine gn (cm:=Ĳ a) (mb:=gM) T.qy Bq rfl rfl rfl fun cdv A outer s H E hr=>?_
 have hu:=hr.units
 exact(Ċ (ſ (i:=0) Bq.nd rfl (Or.inl rfl) (ō (Ħ ť Ť (ą 0) (Ą (Ě (œ ļ Ļ (Ą (Ħ bf ż (Ą Ć) (Ą (Ħ bY bM (Ą Ć) (Ą Ć))))) (Ą Ć)))))))
  (Ċ (ů (ŋ Ō (ĳ hu) (Ą (Ħ ť Ť (ą 0) (Ą Ć))) (Ą Ć) (ĩ _))
  (đ (ħ (ō (Ħ aP aL (Ą (Ħ ť Ť (Ą (Ħ cV aW (ą 0) (Ą Ć))) (Ą Ć))) (Ą Ć)))))
  Ķ)
  (Ċ (ů (ŋ Ō (ĳ hu) (Ą (Ħ ť Ť (ą 0) (Ą Ć))) (Ą Ć) (ĩ _))
  (đ (ħ (ō (Ħ aP aL (Ą (Ħ bY bM (Ą Ć) (Ą Ć))) (Ą (Ħ ť Ť (Ą (Ħ cV aW (ą 0) (Ą Ć))) (Ą Ć)))))))
  Ķ)
  (Ċ (ů (ŋ Ō (ĳ hu) (Ą (Ħ ť Ť (ą 0) (Ą Ć))) (Ą Ć) (ĩ _))
  (đ (ħ (ō (Ħ aP aL (Ą (Ħ ť Ť (Ą (Ħ cV aW (ą 0) (Ą Ć))) (Ą Ć))) (Ą (Ħ bY bM (Ą Ć) (Ą Ć)))))))
  Ķ)
  (đ (ħ (ō (Ħ aP aL (Ą (Ħ ť Ť (Ą (Ě (œ ļ Ļ (Ą (Ħ bf ż (Ą (Ħ cV aW (ą 0) (Ą Ć))) (Ą Ć))) (Ą Ć)))) (Ą (Ě (œ ļ Ļ (Ą (Ħ bf ż (Ą Ć) (Ą (Ħ bY bM (Ą Ć) (Ą Ć))))) (Ą Ć)))))) (Ą (Ħ bY bM (Ą Ć) (Ą Ć)))))))))))
theorem sU(T:Tx K mg a):ľ P w K mg base (aY P w) 1 a.zW a.zX ["_law_one","_law_other"] (bU ⟨K,Ĳ a⟩ 2 cD):=by
 refine gn (cm:=Ĳ a) (mb:=jK) T.uW Kg rfl rfl rfl fun cdv A outer s H E hr=>?_
 have hu:=hr.units
 exact(Ċ (ů (PW.pt (w_and (ŋ Ō (ĳ hu) (ą 0) (ą 1) (ĩ _)) (gF (ŋ Ō (ĳ hu) (ą 0) (Ą (Ħ bY bM (Ą Ć) (Ą Ć))) (ĩ _)))))
  (đ (ħ (ō (ņ (Ă (Ħ aP aL (ą 0) (Ą Ć)) (Ă (v_var 0) ġ))))))
  Ķ)
  (Ċ (ů (ŋ Ō (ĳ hu) (ą 0) (ą 1) (ĩ _))
  (đ (ħ (ō (ņ (Ă (v_var 0) (Ă (Ě (œ ļ Ļ (ą 0) (Ą Ć))) ġ))))))
  Ķ)
  (đ (ħ (ō (ņ (Ă (PE.wk (į (CV rfl) (by rfl) T.QF PyProof.Rows.boot_min (ē (ą 0) (ē (ą 1) Į))) fun _ _ _ h=>Ű Dy h) (Ă (PE.wk (į (CW rfl) (by rfl) T.QD PyProof.Rows.boot_max (ē (ą 0) (ē (ą 1) Į))) fun _ _ _ h=>Ű Dz h) ġ))))))))
theorem sV(T:Tx K mg a):ľ P w K mg base (aY P w) 1 a.zY a.zZ ["_law_cell_here"] (bU ⟨K,Ĳ a⟩ 1 cF):=by
 refine gn (cm:=Ĳ a) (mb:=jL) T.uX Br rfl rfl rfl fun cdv A outer s H E hr=>?_
 have hu:=hr.units
 exact(Ċ (ſ (i:=0) Br.nd rfl (Or.inl rfl) (ō (Ħ ť Ť (ą 0) (Ą (Ħ bf ż (Ą Ć) (Ą (Ħ bY bM (Ą Ć) (Ą Ć))))))))
  (Ċ (ů (ŋ Ō (ĳ hu) (Ą (Ħ ť Ť (ą 0) (Ą Ć))) (Ą Ć) (ĩ _))
  (đ (ħ (œ ļ Ļ (Ą Ć) (Ą (Ħ ť Ť (Ą (Ħ cV aW (ą 0) (Ą Ć))) (Ą Ć))))))
  Ķ)
  (Ċ (ů (ŋ Ō (ĳ hu) (Ą (Ħ ť Ť (ą 0) (Ą Ć))) (Ą Ć) (ĩ _))
  (đ (ħ (ō (Ħ aP aL (Ą (Ħ bY bM (Ą Ć) (Ą Ć))) (Ą (Ħ ť Ť (Ą (Ħ cV aW (ą 0) (Ą Ć))) (Ą Ć)))))))
  Ķ)
  (đ (ħ (œ ļ Ļ (Ą Ć) (Ą (Ħ ť Ť (Ą (Ħ cV aW (ą 0) (Ą Ć))) (Ą (Ħ bY bM (Ą Ć) (Ą Ć)))))))))))
theorem Bw(T:Tx K mg a):ľ P w K mg base (aY P w) 2 a.z_ a.Aa ["_law_script","_law_at"] (bU ⟨K,Ĳ a⟩ 2 aR):=by
 refine gn (cm:=Ĳ a) (mb:=dh) T.Bg Ū rfl rfl rfl fun cdv A outer s H E hr=>?_
 have hu:=hr.units
 exact(@Ċ _ _ _ _ _ _ _ (@ſ _ _ _ _ _ _ 2 _ _ Ū.nd rfl (Or.inl rfl) (@ō _ _ _ _ _ (@ń _ _ _ _ _ _ _ _ _ _ (@Ĭ _) (@ī _) (@Ą _ _ _ _ _ (@Ě _ _ _ _ _ (@ŧ _ _ _ _ _ _ (@Ă _ _ _ _ _ _ _ (@ŏ _ _ _ _ _ _) (@Ă _ _ _ _ _ _ _ (@ŏ _ _ _ _ _ _) (@Ă _ _ _ _ _ _ _ (@ŏ _ _ _ _ _ _) (@Ă _ _ _ _ _ _ _ (@ŏ _ _ _ _ _ _) (@Ă _ _ _ _ _ _ _ (@ŏ _ _ _ _ _ _) (@ġ _ _ _) (by exact Ā rfl)) (by exact Ā rfl)) (by exact Ā rfl)) (by exact Ā rfl)) (by exact Ā rfl))))) (@Ą _ _ _ _ _ (@Ħ _ _ _ _ _ _ _ _ _ _ _ (@ť _) (@Ť _) (@Ą _ _ _ _ _ (@Ě _ _ _ _ _ (@Ĝ _ _ _ _ _ _ _ _ _ _ _ _ _ _ _ _ (Bv T) ĉ (hr.mono (by decide)) rfl T.ũ T.Bc.kp T.Gb (@İ _ _ _ _ _ _ _ _ _ _ _ _ _ _ _) (@ć _ _ _ _ _ 0 _ _ (by rfl) (by first|exact Or.inl rfl|exact Or.inr (Or.inl rfl)|exact Or.inr (Or.inr rfl)) (by decide) (by decide) (@ć _ _ _ _ _ 1 _ _ (by rfl) (by first|exact Or.inl rfl|exact Or.inr (Or.inl rfl)|exact Or.inr (Or.inr rfl)) (by decide) (by decide) (@ĕ _ _ _) (by exact Ā rfl)) (by exact Ā rfl)) (by decide) (by exact Ā rfl) (by rfl)))) (@Ą _ _ _ _ _ (@Ć _ _ _ _ _ _)))) (fun _ _=>rfl))) (by rfl) (by first|exact .inl rfl|exact .inr rfl|assumption)) (@Ċ _ _ _ _ _ _ _ (za (i:=3) Ū.nd rfl rfl ["_law_script","_law_at","_law_k"] [0,1] 1 (Ĉ g_) rfl rfl (@pG _ _ _ _ _ _ _ _ rfl T.vf (@Ă _ _ _ _ _ _ _ (@Ć _ _ _ _ _ _) (@ġ _ _ _) (by exact Ā rfl)) (by exact Ā rfl)) (fun _ _ _ _ _=>(@ě _ _ _ 2 _ (show(["_law_script","_law_at","_law_k"]:List Str).Nodup by decide +kernel) rfl (Or.inl rfl) (Or.inr rfl))) (fun _ _ _ _ _=>(@ű _ _ _)) (fun _ _ _ _ _=>(@Ě _ _ _ _ _ (@Ĝ _ _ _ _ _ _ _ _ _ _ _ _ _ _ _ _ (Bv T) ĉ (hr.mono (by decide)) rfl T.ũ T.Bc.kp T.Gb (@jB _ _ _) (@ć _ _ _ _ _ 0 _ _ (by rfl) (by first|exact Or.inl rfl|exact Or.inr (Or.inl rfl)|exact Or.inr (Or.inr rfl)) (by decide) (by decide) (@ę _ _ _ _ _ _ _ (@Ě _ _ _ _ _ (@œ _ _ _ _ _ _ _ _ _ _ _ (@ļ _) (@Ļ _) (@Ą _ _ _ _ _ (@Ě _ _ _ _ _ (@œ _ _ _ _ _ _ _ _ _ _ _ (@ļ _) (@Ļ _) (@ą _ _ _ 1 _ _ (by rfl) (by first|exact Or.inl rfl|exact Or.inr (Or.inl rfl)|exact Or.inr (Or.inr rfl)) (by decide) (by decide)) (@Ą _ _ _ _ _ (@Ć _ _ _ _ _ _))))) (@ą _ _ _ 2 _ _ (by rfl) (by first|exact Or.inl rfl|exact Or.inr (Or.inl rfl)|exact Or.inr (Or.inr rfl)) (by decide) (by decide)))) (@ĕ _ _ _) (by exact Ā rfl)) (by exact Ā rfl)) (by decide) (by exact Ā rfl) (by rfl)))) ⟨rfl,⟨rfl,Or.inl rfl⟩,⟨rfl,⟨rfl,Or.inl rfl⟩,trivial⟩⟩) (@Ċ _ _ _ _ _ _ _ (@ů _ _ _ _ _ _ _ _ _ _ (@ŋ _ _ _ _ _ _ _ _ _ _ _ (@Ō _) (@ĳ _ hu) (@ą _ _ _ 2 _ _ (by rfl) (by first|exact Or.inl rfl|exact Or.inr (Or.inl rfl)|exact Or.inr (Or.inr rfl)) (by decide) (by decide)) (@Ą _ _ _ _ _ (@ŏ _ _ _ _ _ _)) (ĩ _)) (@đ _ _ _ _ _ (@ħ _ _ _ _ _ _ (@ō _ _ _ _ _ (@ņ _ _ _ _ _ _ _ (@Ă _ _ _ _ _ _ _ (@v_var _ _ _ 2 _ _ (by rfl) (by first|exact Or.inl rfl|exact Or.inr (Or.inl rfl)|exact Or.inr (Or.inr rfl)) (by decide) (by decide)) (@Ă _ _ _ _ _ _ _ (@Ě _ _ _ _ _ (@ŧ _ _ _ _ _ _ (@Ă _ _ _ _ _ _ _ (@Ě _ _ _ _ _ (@Ĝ _ _ _ _ _ _ _ _ _ _ _ _ _ _ _ _ (oU T) ĉ (hr.mono (by decide)) rfl T.ak T.qy.kp T.uV (@İ _ _ _ _ _ _ _ _ _ _ _ _ _ _ _) (@ę _ _ _ _ _ _ _ (@ń _ _ _ _ _ _ _ _ _ _ (@Ĭ _) (@ī _) (@ą _ _ _ 3 _ _ (by rfl) (by first|exact Or.inl rfl|exact Or.inr (Or.inl rfl)|exact Or.inr (Or.inr rfl)) (by decide) (by decide)) (@Ą _ _ _ _ _ (@Ć _ _ _ _ _ _)) (fun _ _=>rfl)) (@ĕ _ _ _) (by exact Ā rfl)) (by decide) (by exact Ā rfl) (by rfl))) (@Ă _ _ _ _ _ _ _ (@Ě _ _ _ _ _ (@Ĝ _ _ _ _ _ _ _ _ _ _ _ _ _ _ _ _ (oU T) ĉ (hr.mono (by decide)) rfl T.ak T.qy.kp T.uV (@İ _ _ _ _ _ _ _ _ _ _ _ _ _ _ _) (@ę _ _ _ _ _ _ _ (@ń _ _ _ _ _ _ _ _ _ _ (@Ĭ _) (@ī _) (@ą _ _ _ 3 _ _ (by rfl) (by first|exact Or.inl rfl|exact Or.inr (Or.inl rfl)|exact Or.inr (Or.inr rfl)) (by decide) (by decide)) (@Ą _ _ _ _ _ (@Ć _ _ _ _ _ _)) (fun _ _=>rfl)) (@ĕ _ _ _) (by exact Ā rfl)) (by decide) (by exact Ā rfl) (by rfl))) (@Ă _ _ _ _ _ _ _ (@Ě _ _ _ _ _ (@Ĝ _ _ _ _ _ _ _ _ _ _ _ _ _ _ _ _ (sV T) ĉ (hr.mono (by decide)) rfl T.cF T.uX.kp T.Bf (@İ _ _ _ _ _ _ _ _ _ _ _ _ _ _ _) (@ę _ _ _ _ _ _ _ (@ń _ _ _ _ _ _ _ _ _ _ (@Ĭ _) (@ī _) (@ą _ _ _ 3 _ _ (by rfl) (by first|exact Or.inl rfl|exact Or.inr (Or.inl rfl)|exact Or.inr (Or.inr rfl)) (by decide) (by decide)) (@Ą _ _ _ _ _ (@Ć _ _ _ _ _ _)) (fun _ _=>rfl)) (@ĕ _ _ _) (by exact Ā rfl)) (by decide) (by exact Ā rfl) (by rfl))) (@ġ _ _ _) (by exact Ā rfl)) (by exact Ā rfl)) (by exact Ā rfl)))) (@ġ _ _ _) (by exact Ā rfl)) (by exact Ā rfl)))))) (@Ķ _ _ _)) (@Ċ _ _ _ _ _ _ _ (@ů _ _ _ _ _ _ _ _ _ _ (@ŋ _ _ _ _ _ _ _ _ _ _ _ (@Ō _) (@ĳ _ hu) (@ą _ _ _ 2 _ _ (by rfl) (by first|exact Or.inl rfl|exact Or.inr (Or.inl rfl)|exact Or.inr (Or.inr rfl)) (by decide) (by decide)) (@Ą _ _ _ _ _ (@ŏ _ _ _ _ _ _)) (ĩ _)) (@Ċ _ _ _ _ _ _ _ (za (i:=4) Ū.nd rfl rfl ["_law_cell_here"] [] 1 (Ĉ g_) rfl rfl (@jk _ _ _ _ 3 _ _ (by rfl) (by first|exact Or.inl rfl|exact Or.inr (Or.inl rfl)|exact Or.inr (Or.inr rfl)) (by decide) (by decide)) (fun _ _ _ _ _=>(@ě _ _ _ 0 _ (show(["_law_cell_here"]:List Str).Nodup by decide +kernel) rfl (Or.inl rfl) (Or.inr rfl))) (fun _ _ _ _ _=>(@ű _ _ _)) (fun _ _ _ _ _=>(@Ě _ _ _ _ _ (@Ĝ _ _ _ _ _ _ _ _ _ _ _ _ _ _ _ _ (oU T) ĉ (hr.mono (by decide)) rfl T.ak T.qy.kp T.uV (@jB _ _ _) (@ć _ _ _ _ _ 0 _ _ (by rfl) (by first|exact Or.inl rfl|exact Or.inr (Or.inl rfl)|exact Or.inr (Or.inr rfl)) (by decide) (by decide) (@ĕ _ _ _) (by exact Ā rfl)) (by decide) (by exact Ā rfl) (by rfl)))) trivial) (@Ċ _ _ _ _ _ _ _ (@yh _ _ _ _ _ _ _ _ _ _ PassesOwn.leaving rfl (@cT _ _ _ _ _ _ (@Ě _ _ _ _ _ (@ŧ _ _ _ _ _ _ (@Ă _ _ _ _ _ _ _ (@Ć _ _ _ _ _ _) (@Ă _ _ _ _ _ _ _ (@Ć _ _ _ _ _ _) (@Ă _ _ _ _ _ _ _ (@Ć _ _ _ _ _ _) (@ġ _ _ _) (by exact Ā rfl)) (by exact Ā rfl)) (by exact Ā rfl))))) (@ě _ _ _ 5 _ Ū.nd rfl (Or.inl rfl) (by first|exact .inl rfl|exact .inr rfl|assumption)) (@đ _ _ _ _ _ (@uh _ _ _ _ _ _ 4 _ _ _ _ _ (@Ě _ _ _ _ _ (@œ _ _ _ _ _ _ _ _ _ _ _ (@ļ _) (@Ļ _) (@Ą _ _ _ _ _ (@Ħ _ _ _ _ _ _ _ _ _ _ _ (@aP _) (@aL _) (@Ą _ _ _ _ _ (@Ě _ _ _ _ _ (@Ĝ _ _ _ _ _ _ _ _ _ _ _ _ _ _ _ _ (sV T) ĉ (hr.mono (by decide)) rfl T.cF T.uX.kp T.Bf (@İ _ _ _ _ _ _ _ _ _ _ _ _ _ _ _) (@ę _ _ _ _ _ _ _ (@ń _ _ _ _ _ _ _ _ _ _ (@Ĭ _) (@ī _) (@ą _ _ _ 3 _ _ (by rfl) (by first|exact Or.inl rfl|exact Or.inr (Or.inl rfl)|exact Or.inr (Or.inr rfl)) (by decide) (by decide)) (@ą _ _ _ 5 _ _ (by rfl) (by first|exact Or.inl rfl|exact Or.inr (Or.inl rfl)|exact Or.inr (Or.inr rfl)) (by decide) (by decide)) (fun _ _=>rfl)) (@ĕ _ _ _) (by exact Ā rfl)) (by decide) (by exact Ā rfl) (by rfl)))) (@Ą _ _ _ _ _ (@Ć _ _ _ _ _ _)))) (@Ą _ _ _ _ _ (@Ħ _ _ _ _ _ _ _ _ _ _ _ (@ť _) (@Ť _) (@Ą _ _ _ _ _ (@Ħ _ _ _ _ _ _ _ _ _ _ _ (@cV _) (@aW _) (@Ą _ _ _ _ _ (@ń _ _ _ _ _ _ _ _ _ _ (@Ĭ _) (@ī _) (@ą _ _ _ 3 _ _ (by rfl) (by first|exact Or.inl rfl|exact Or.inr (Or.inl rfl)|exact Or.inr (Or.inr rfl)) (by decide) (by decide)) (@ą _ _ _ 5 _ _ (by rfl) (by first|exact Or.inl rfl|exact Or.inr (Or.inl rfl)|exact Or.inr (Or.inr rfl)) (by decide) (by decide)) (fun _ _=>rfl))) (@Ą _ _ _ _ _ (@Ć _ _ _ _ _ _)))) (@Ą _ _ _ _ _ (@Ć _ _ _ _ _ _)))))) (@v_var _ _ _ 5 _ _ (by rfl) (by first|exact Or.inl rfl|exact Or.inr (Or.inl rfl)|exact Or.inr (Or.inr rfl)) (by decide) (by decide)) (pv 4) (by intro _;rfl) (by rfl) (by rfl) (by rfl))) (by intro _;rfl)) (@đ _ _ _ _ _ (@ħ _ _ _ _ _ _ (@ō _ _ _ _ _ (@ņ _ _ _ _ _ _ _ (@Ă _ _ _ _ _ _ _ (@v_var _ _ _ 2 _ _ (by rfl) (by first|exact Or.inl rfl|exact Or.inr (Or.inl rfl)|exact Or.inr (Or.inr rfl)) (by decide) (by decide)) (@Ă _ _ _ _ _ _ _ (@v_var _ _ _ 4 _ _ (by rfl) (by first|exact Or.inl rfl|exact Or.inr (Or.inl rfl)|exact Or.inr (Or.inr rfl)) (by decide) (by decide)) (@ġ _ _ _) (by exact Ā rfl)) (by exact Ā rfl)))))))) (@Ķ _ _ _)) (@Ċ _ _ _ _ _ _ _ (@fO _ _ _ _ _ _ _ _ (@Ě _ _ _ _ _ (aO ["_law_cell_here"] [] 1 (Ĉ g_) rfl rfl (@cT _ _ _ _ _ _ (@Ě _ _ _ _ _ (@aJ _ _ _ _ _ _ _ _ _ _ _ (@ą _ _ _ 3 _ _ (by rfl) (by first|exact Or.inl rfl|exact Or.inr (Or.inl rfl)|exact Or.inr (Or.inr rfl)) (by decide) (by decide)) (@nP _ _ _) (@Ų _ _ _ _ _ (@Ć _ _ _ _ _ _))))) (fun _ _ _ _ _=>(@ě _ _ _ 0 _ (show(["_law_cell_here"]:List Str).Nodup by decide +kernel) rfl (Or.inl rfl) (Or.inr rfl))) (fun _ _ _ _ _=>(@ű _ _ _)) (fun _ _ _ _ _=>(@Ě _ _ _ _ _ (@Ĝ _ _ _ _ _ _ _ _ _ _ _ _ _ _ _ _ (oU T) ĉ (hr.mono (by decide)) rfl T.ak T.qy.kp T.uV (@jB _ _ _) (@ć _ _ _ _ _ 0 _ _ (by rfl) (by first|exact Or.inl rfl|exact Or.inr (Or.inl rfl)|exact Or.inr (Or.inr rfl)) (by decide) (by decide) (@ĕ _ _ _) (by exact Ā rfl)) (by decide) (by exact Ā rfl) (by rfl)))) trivial)) (@fY _ _ _ _ _ _ _ rfl (@Ĩ _ _ _ _ _ _ (@ě _ _ _ 6 _ Ū.nd rfl (Or.inl rfl) (by first|exact .inl rfl|exact .inr rfl|assumption)) (@Ĩ _ _ _ _ _ _ (@ě _ _ _ 7 _ Ū.nd rfl (Or.inl rfl) (by first|exact .inl rfl|exact .inr rfl|assumption)) (@Ĩ _ _ _ _ _ _ (@ě _ _ _ 8 _ Ū.nd rfl (Or.inl rfl) (by first|exact .inl rfl|exact .inr rfl|assumption)) (@Ĩ _ _ _ _ _ _ (@ě _ _ _ 9 _ Ū.nd rfl (Or.inl rfl) (by first|exact .inl rfl|exact .inr rfl|assumption)) (@aN _ _) (by rfl)) (by rfl)) (by rfl)) (by rfl)) (by rfl) (by rfl)) (by rfl) (by rfl) (by rfl)) (@Ċ _ _ _ _ _ _ _ (@ů _ _ _ _ _ _ _ _ _ _ (@ŋ _ _ _ _ _ _ _ _ _ _ _ (@Ō _) (@ĳ _ hu) (@ą _ _ _ 2 _ _ (by rfl) (by first|exact Or.inl rfl|exact Or.inr (Or.inl rfl)|exact Or.inr (Or.inr rfl)) (by decide) (by decide)) (@Ą _ _ _ _ _ (@ŏ _ _ _ _ _ _)) (ĩ _)) (@đ _ _ _ _ _ (@ů _ _ _ _ _ _ _ _ _ _ (@ŋ _ _ _ _ _ _ _ _ _ _ _ (@Ō _) (@ĳ _ hu) (@Ą _ _ _ _ _ (@ņ _ _ _ _ _ _ _ (@Ă _ _ _ _ _ _ _ (@v_var _ _ _ 6 _ _ (by rfl) (by first|exact Or.inl rfl|exact Or.inr (Or.inl rfl)|exact Or.inr (Or.inr rfl)) (by decide) (by decide)) (@Ă _ _ _ _ _ _ _ (@v_var _ _ _ 7 _ _ (by rfl) (by first|exact Or.inl rfl|exact Or.inr (Or.inl rfl)|exact Or.inr (Or.inr rfl)) (by decide) (by decide)) (@ġ _ _ _) (by exact Ā rfl)) (by exact Ā rfl)))) (@Ą _ _ _ _ _ (@ņ _ _ _ _ _ _ _ (@Ă _ _ _ _ _ _ _ (@v_var _ _ _ 8 _ _ (by rfl) (by first|exact Or.inl rfl|exact Or.inr (Or.inl rfl)|exact Or.inr (Or.inr rfl)) (by decide) (by decide)) (@Ă _ _ _ _ _ _ _ (@v_var _ _ _ 9 _ _ (by rfl) (by first|exact Or.inl rfl|exact Or.inr (Or.inl rfl)|exact Or.inr (Or.inr rfl)) (by decide) (by decide)) (@ġ _ _ _) (by exact Ā rfl)) (by exact Ā rfl)))) (ĩ _)) (@đ _ _ _ _ _ (@fO _ _ _ _ _ _ _ _ (@Ě _ _ _ _ _ (@Ĝ _ _ _ _ _ _ _ _ _ _ _ _ _ _ _ _ (sU T) ĉ (hr.mono (by decide)) rfl T.cD T.uW.kp T.Bd (@İ _ _ _ _ _ _ _ _ _ _ _ _ _ _ _) (@ć _ _ _ _ _ 7 _ _ (by rfl) (by first|exact Or.inl rfl|exact Or.inr (Or.inl rfl)|exact Or.inr (Or.inr rfl)) (by decide) (by decide) (@ć _ _ _ _ _ 9 _ _ (by rfl) (by first|exact Or.inl rfl|exact Or.inr (Or.inl rfl)|exact Or.inr (Or.inr rfl)) (by decide) (by decide) (@ĕ _ _ _) (by exact Ā rfl)) (by exact Ā rfl)) (by decide) (by exact Ā rfl) (by rfl))) (@fY _ _ _ _ _ _ _ rfl (@Ĩ _ _ _ _ _ _ (@ě _ _ _ 7 _ Ū.nd rfl (Or.inl rfl) (by first|exact .inl rfl|exact .inr rfl|assumption)) (@Ĩ _ _ _ _ _ _ (@ě _ _ _ 9 _ Ū.nd rfl (Or.inl rfl) (by first|exact .inl rfl|exact .inr rfl|assumption)) (@aN _ _) (by rfl)) (by rfl)) (by rfl) (by rfl)) (by rfl) (by rfl) (by rfl))) (@Ķ _ _ _))) (@Ċ _ _ _ _ _ _ _ (@fO _ _ _ _ _ _ _ _ (@Ě _ _ _ _ _ (@Ĝ _ _ _ _ _ _ _ _ _ _ _ _ _ _ _ _ (sU T) ĉ (hr.mono (by decide)) rfl T.cD T.uW.kp T.Bd (@İ _ _ _ _ _ _ _ _ _ _ _ _ _ _ _) (@ć _ _ _ _ _ 6 _ _ (by rfl) (by first|exact Or.inl rfl|exact Or.inr (Or.inl rfl)|exact Or.inr (Or.inr rfl)) (by decide) (by decide) (@ć _ _ _ _ _ 8 _ _ (by rfl) (by first|exact Or.inl rfl|exact Or.inr (Or.inl rfl)|exact Or.inr (Or.inr rfl)) (by decide) (by decide) (@ĕ _ _ _) (by exact Ā rfl)) (by exact Ā rfl)) (by decide) (by exact Ā rfl) (by rfl))) (@fY _ _ _ _ _ _ _ rfl (@Ĩ _ _ _ _ _ _ (@ě _ _ _ 6 _ Ū.nd rfl (Or.inl rfl) (by first|exact .inl rfl|exact .inr rfl|assumption)) (@Ĩ _ _ _ _ _ _ (@ě _ _ _ 8 _ Ū.nd rfl (Or.inl rfl) (by first|exact .inl rfl|exact .inr rfl|assumption)) (@aN _ _) (by rfl)) (by rfl)) (by rfl) (by rfl)) (by rfl) (by rfl) (by rfl)) (@đ _ _ _ _ _ (@fO _ _ _ _ _ _ _ _ (@Ě _ _ _ _ _ (@Ĝ _ _ _ _ _ _ _ _ _ _ _ _ _ _ _ _ (sU T) ĉ (hr.mono (by decide)) rfl T.cD T.uW.kp T.Bd (@İ _ _ _ _ _ _ _ _ _ _ _ _ _ _ _) (@ć _ _ _ _ _ 7 _ _ (by rfl) (by first|exact Or.inl rfl|exact Or.inr (Or.inl rfl)|exact Or.inr (Or.inr rfl)) (by decide) (by decide) (@ć _ _ _ _ _ 9 _ _ (by rfl) (by first|exact Or.inl rfl|exact Or.inr (Or.inl rfl)|exact Or.inr (Or.inr rfl)) (by decide) (by decide) (@ĕ _ _ _) (by exact Ā rfl)) (by exact Ā rfl)) (by decide) (by exact Ā rfl) (by rfl))) (@fY _ _ _ _ _ _ _ rfl (@Ĩ _ _ _ _ _ _ (@ě _ _ _ 7 _ Ū.nd rfl (Or.inl rfl) (by first|exact .inl rfl|exact .inr rfl|assumption)) (@Ĩ _ _ _ _ _ _ (@ě _ _ _ 9 _ Ū.nd rfl (Or.inl rfl) (by first|exact .inl rfl|exact .inr rfl|assumption)) (@aN _ _) (by rfl)) (by rfl)) (by rfl) (by rfl)) (by rfl) (by rfl) (by rfl))))) (@đ _ _ _ _ _ (@ħ _ _ _ _ _ _ (@ō _ _ _ _ _ (@ņ _ _ _ _ _ _ _ (@Ă _ _ _ _ _ _ _ (@v_var _ _ _ 2 _ _ (by rfl) (by first|exact Or.inl rfl|exact Or.inr (Or.inl rfl)|exact Or.inr (Or.inr rfl)) (by decide) (by decide)) (@Ă _ _ _ _ _ _ _ (@Ě _ _ _ _ _ (@ŧ _ _ _ _ _ _ (@Ă _ _ _ _ _ _ _ (@v_var _ _ _ 6 _ _ (by rfl) (by first|exact Or.inl rfl|exact Or.inr (Or.inl rfl)|exact Or.inr (Or.inr rfl)) (by decide) (by decide)) (@Ă _ _ _ _ _ _ _ (@v_var _ _ _ 7 _ _ (by rfl) (by first|exact Or.inl rfl|exact Or.inr (Or.inl rfl)|exact Or.inr (Or.inr rfl)) (by decide) (by decide)) (@Ă _ _ _ _ _ _ _ (@v_var _ _ _ 8 _ _ (by rfl) (by first|exact Or.inl rfl|exact Or.inr (Or.inl rfl)|exact Or.inr (Or.inr rfl)) (by decide) (by decide)) (@Ă _ _ _ _ _ _ _ (@v_var _ _ _ 9 _ _ (by rfl) (by first|exact Or.inl rfl|exact Or.inr (Or.inl rfl)|exact Or.inr (Or.inr rfl)) (by decide) (by decide)) (@Ă _ _ _ _ _ _ _ (@Ě _ _ _ _ _ (@Ĝ _ _ _ _ _ _ _ _ _ _ _ _ _ _ _ _ (sV T) ĉ (hr.mono (by decide)) rfl T.cF T.uX.kp T.Bf (@İ _ _ _ _ _ _ _ _ _ _ _ _ _ _ _) (@ę _ _ _ _ _ _ _ (@ń _ _ _ _ _ _ _ _ _ _ (@Ĭ _) (@ī _) (@ą _ _ _ 3 _ _ (by rfl) (by first|exact Or.inl rfl|exact Or.inr (Or.inl rfl)|exact Or.inr (Or.inr rfl)) (by decide) (by decide)) (@Ą _ _ _ _ _ (@Ć _ _ _ _ _ _)) (fun _ _=>rfl)) (@ĕ _ _ _) (by exact Ā rfl)) (by decide) (by exact Ā rfl) (by rfl))) (@ġ _ _ _) (by exact Ā rfl)) (by exact Ā rfl)) (by exact Ā rfl)) (by exact Ā rfl)) (by exact Ā rfl)))) (@ġ _ _ _) (by exact Ā rfl)) (by exact Ā rfl))))))))))))
theorem jZ(T:Tx K mg a):ľ P w K mg base (aY P w) 1 a.Ab a.Ac ["number"] (bU ⟨K,Ĳ a⟩ 1 aZ):=by
 refine gn (cm:=Ĳ a) (mb:=rP) T.mL Kh rfl rfl rfl fun cdv A outer s H E hr=>?_
 have hu:=hr.units
 exact(đ (ħ (ō (yc lQ lQ lM lM (Ą (Yv Jc Ij (Ą (pC (.int (1000000000)) (ź (v:=.int (1000000000)) rfl T.gj ⟨_,rfl⟩))))) (ą 0) (Ą (pC (.int (1000000000)) (ź (v:=.int (1000000000)) rfl T.gj ⟨_,rfl⟩)))))))
theorem Bx(T:Tx K mg a):ľ P w K mg base (aY P w) 1 a.Ad a.Ae ["number"] (bU ⟨K,Ĳ a⟩ 1 h_):=by
 refine gn (cm:=Ĳ a) (mb:=rQ) T.Bh Kl rfl rfl rfl fun cdv A outer s H E hr=>?_
 have hu:=hr.units
 exact(đ (ħ (ō (yc lQ lQ lM lM (Ą Ć) (ą 0) (Ą (pC (.int (1000000000)) (ź (v:=.int (1000000000)) rfl T.eG ⟨_,rfl⟩)))))))
theorem Ku(T:Tx K mg a):ľ P w K mg base (aY P w) 2 a.Af a.Ag ["numbers"] (bU ⟨K,Ĳ a⟩ 1 jM):=by
 refine gn (cm:=Ĳ a) (mb:=nZ) T.Gf Km rfl rfl rfl fun cdv A outer s H E hr=>?_
 have hu:=hr.units
 exact(đ (ħ (ō (v_and (fM Ō (ĳ hu) (Ą (PE.wk (į bN (by rfl) T.gk PySem.boot_len (ē (ą 0) Į)) fun _ _ _ h=>Ű b_ h)) (Ą Ć) (ĩ _)) (v_and (Ě (Ĝ (jZ T) ĉ (hr.mono (by decide)) rfl T.aZ T.mL.kp T.qz İ (ę (ń Ĭ ī (ą 0) (Ą Ć) (fun _ _=>rfl)) ĕ))) (v_and (Ě (Ĝ (jZ T) ĉ (hr.mono (by decide)) rfl T.aZ T.mL.kp T.qz İ (ę (ń Ĭ ī (ą 0) (Ą Ć) (fun _ _=>rfl)) ĕ))) (gY (Ě (Ĝ (Bx T) ĉ (hr.mono (by decide)) rfl T.h_ T.Bh.kp T.Ge İ (ę (ń Ĭ ī (ą 0) (Ą Ć) (fun _ _=>rfl)) ĕ))))))))))
theorem BJ(T:Tx K mg a):ľ P w K mg base (aY P w) 1 a.iB a.sI ["self","word","numbers"] (DP ⟨K,Ĳ a⟩ 3 "Post" n_):=by
 refine Ow (cm:=Ĳ a) (mb:=cG) T.Bj qC rfl rfl rfl fun cdv A outer s H E hr=>?_
 have hu:=hr.units
 exact(Ċ (bh (i:=0) ["Thing","Post","Fence","Sail","Cloth","House"] ⟨⟨T.ň,T.Š⟩,⟨⟨T.ő,T.Ŭ⟩,⟨⟨T.Ŀ,T.š⟩,⟨⟨T.Œ,T.ŭ⟩,⟨⟨T.ŀ,T.Ţ⟩,⟨⟨T.Ł,T.ţ⟩,trivial⟩⟩⟩⟩⟩⟩ (pv 0) (v_var 1))
  (đ (bh (i:=0) ["Thing","Post","Fence","Sail","Cloth","House"] ⟨⟨T.ň,T.ĝ⟩,⟨⟨T.ő,T.Ĥ⟩,⟨⟨T.Ŀ,T.Ğ⟩,⟨⟨T.Œ,T.ĥ⟩,⟨⟨T.ŀ,T.ğ⟩,⟨⟨T.Ł,T.Ġ⟩,trivial⟩⟩⟩⟩⟩⟩ (pv 0) (Ě (PE.wk (ŕ dG (by rfl) T.fu PyProof.Rows.boot_list (ē (ą 2) Į)) fun _ _ _ h=>vP dH h)))))
theorem wj(T:Tx K mg a):ľ P w K mg base (aY P w) 1 a.iB a.sI ["self","word","numbers"] (DP ⟨K,Ĳ a⟩ 3 "Fence" jN):=by
 refine Ow (cm:=Ĳ a) (mb:=cG) T.Bj qC rfl rfl rfl fun cdv A outer s H E hr=>?_
 have hu:=hr.units
 exact(Ċ (bh (i:=0) ["Thing","Post","Fence","Sail","Cloth","House"] ⟨⟨T.ň,T.Š⟩,⟨⟨T.ő,T.Ŭ⟩,⟨⟨T.Ŀ,T.š⟩,⟨⟨T.Œ,T.ŭ⟩,⟨⟨T.ŀ,T.Ţ⟩,⟨⟨T.Ł,T.ţ⟩,trivial⟩⟩⟩⟩⟩⟩ (pv 0) (v_var 1))
  (đ (bh (i:=0) ["Thing","Post","Fence","Sail","Cloth","House"] ⟨⟨T.ň,T.ĝ⟩,⟨⟨T.ő,T.Ĥ⟩,⟨⟨T.Ŀ,T.Ğ⟩,⟨⟨T.Œ,T.ĥ⟩,⟨⟨T.ŀ,T.ğ⟩,⟨⟨T.Ł,T.Ġ⟩,trivial⟩⟩⟩⟩⟩⟩ (pv 0) (Ě (PE.wk (ŕ dG (by rfl) T.fu PyProof.Rows.boot_list (ē (ą 2) Į)) fun _ _ _ h=>vP dH h)))))
theorem BK(T:Tx K mg a):ľ P w K mg base (aY P w) 1 a.iB a.sI ["self","word","numbers"] (DP ⟨K,Ĳ a⟩ 3 "Sail" oh):=by
 refine Ow (cm:=Ĳ a) (mb:=cG) T.Bj qC rfl rfl rfl fun cdv A outer s H E hr=>?_
 have hu:=hr.units
 exact(Ċ (bh (i:=0) ["Thing","Post","Fence","Sail","Cloth","House"] ⟨⟨T.ň,T.Š⟩,⟨⟨T.ő,T.Ŭ⟩,⟨⟨T.Ŀ,T.š⟩,⟨⟨T.Œ,T.ŭ⟩,⟨⟨T.ŀ,T.Ţ⟩,⟨⟨T.Ł,T.ţ⟩,trivial⟩⟩⟩⟩⟩⟩ (pv 0) (v_var 1))
  (đ (bh (i:=0) ["Thing","Post","Fence","Sail","Cloth","House"] ⟨⟨T.ň,T.ĝ⟩,⟨⟨T.ő,T.Ĥ⟩,⟨⟨T.Ŀ,T.Ğ⟩,⟨⟨T.Œ,T.ĥ⟩,⟨⟨T.ŀ,T.ğ⟩,⟨⟨T.Ł,T.Ġ⟩,trivial⟩⟩⟩⟩⟩⟩ (pv 0) (Ě (PE.wk (ŕ dG (by rfl) T.fu PyProof.Rows.boot_list (ē (ą 2) Į)) fun _ _ _ h=>vP dH h)))))
theorem wu(T:Tx K mg a):ľ P w K mg base (aY P w) 1 a.iB a.sI ["self","word","numbers"] (DP ⟨K,Ĳ a⟩ 3 "Cloth" jO):=by
 refine Ow (cm:=Ĳ a) (mb:=cG) T.Bj qC rfl rfl rfl fun cdv A outer s H E hr=>?_
 have hu:=hr.units
 exact(Ċ (bh (i:=0) ["Thing","Post","Fence","Sail","Cloth","House"] ⟨⟨T.ň,T.Š⟩,⟨⟨T.ő,T.Ŭ⟩,⟨⟨T.Ŀ,T.š⟩,⟨⟨T.Œ,T.ŭ⟩,⟨⟨T.ŀ,T.Ţ⟩,⟨⟨T.Ł,T.ţ⟩,trivial⟩⟩⟩⟩⟩⟩ (pv 0) (v_var 1))
  (đ (bh (i:=0) ["Thing","Post","Fence","Sail","Cloth","House"] ⟨⟨T.ň,T.ĝ⟩,⟨⟨T.ő,T.Ĥ⟩,⟨⟨T.Ŀ,T.Ğ⟩,⟨⟨T.Œ,T.ĥ⟩,⟨⟨T.ŀ,T.ğ⟩,⟨⟨T.Ł,T.Ġ⟩,trivial⟩⟩⟩⟩⟩⟩ (pv 0) (Ě (PE.wk (ŕ dG (by rfl) T.fu PyProof.Rows.boot_list (ē (ą 2) Į)) fun _ _ _ h=>vP dH h)))))
theorem wz(T:Tx K mg a):ľ P w K mg base (aY P w) 1 a.iB a.sI ["self","word","numbers"] (DP ⟨K,Ĳ a⟩ 3 "House" jP):=by
 refine Ow (cm:=Ĳ a) (mb:=cG) T.Bj qC rfl rfl rfl fun cdv A outer s H E hr=>?_
 have hu:=hr.units
 exact(Ċ (bh (i:=0) ["Thing","Post","Fence","Sail","Cloth","House"] ⟨⟨T.ň,T.Š⟩,⟨⟨T.ő,T.Ŭ⟩,⟨⟨T.Ŀ,T.š⟩,⟨⟨T.Œ,T.ŭ⟩,⟨⟨T.ŀ,T.Ţ⟩,⟨⟨T.Ł,T.ţ⟩,trivial⟩⟩⟩⟩⟩⟩ (pv 0) (v_var 1))
  (đ (bh (i:=0) ["Thing","Post","Fence","Sail","Cloth","House"] ⟨⟨T.ň,T.ĝ⟩,⟨⟨T.ő,T.Ĥ⟩,⟨⟨T.Ŀ,T.Ğ⟩,⟨⟨T.Œ,T.ĥ⟩,⟨⟨T.ŀ,T.ğ⟩,⟨⟨T.Ł,T.Ġ⟩,trivial⟩⟩⟩⟩⟩⟩ (pv 0) (Ě (PE.wk (ŕ dG (by rfl) T.fu PyProof.Rows.boot_list (ē (ą 2) Į)) fun _ _ _ h=>vP dH h)))))
theorem Gw(T:Tx K mg a):ľ P w K mg base (aY P w) 2 a.Jt a.Ju ["numbers"] (bU ⟨K,Ĳ a⟩ 1 ou):=by
 refine gn (cm:=Ĳ a) (mb:=uQ) T.JV QG rfl rfl rfl fun cdv A outer s H E hr=>?_
 have hu:=hr.units
 exact(đ (ħ (ō (v_and (fM Ō (ĳ hu) (Ą (PE.wk (į bN (by rfl) T.gk PySem.boot_len (ē (ą 0) Į)) fun _ _ _ h=>Ű b_ h)) (Ą Ć) (ĩ _)) (v_and (PE.wk (į (qX rfl) (by rfl) T.Bp PyProof.Rows.boot_all (ē (Ą (Ě (aO ["number"] [] 1 (Ĉ vY) rfl rfl (cT (Ě (aJ (ą 0) nP (Ų Ć)))) (fun _ _ _ _ _=>(ě (i:=0) (show(["number"]:List Str).Nodup by decide +kernel) rfl (Or.inl rfl) (hf:=Or.inr rfl))) (fun _ _ _ _ _=>ű) (fun _ _ _ _ _=>(Ě (Ĝ (jZ T) ĉ (hr.mono (by decide)) rfl T.aZ T.mL.kp T.qz jB (ć 0 (hr:=ĕ))))) trivial))) Į)) fun _ _ _ h=>Ű rG h) (gY (Ě (Ĝ (Bx T) ĉ (hr.mono (by decide)) rfl T.h_ T.Bh.kp T.Ge İ (ę (ń Ĭ ī (ą 0) (Ą Ć) (fun _ _=>rfl)) ĕ)))))))))
theorem Kv(T:Tx K mg a):ľ P w K mg base (aY P w) 3 a.Ah a.Ai ["numbers"] (bU ⟨K,Ĳ a⟩ 1 jQ):=by
 refine gn (cm:=Ĳ a) (mb:=oA) T.Gg Ko rfl rfl rfl fun cdv A outer s H E hr=>?_
 have hu:=hr.units
 exact(đ (ħ (ō (v_and (Ě (Ĝ (Gw T) ĉ (hr.mono (by decide)) rfl T.ou T.JV.kp T.Qo İ (ć 0 (hr:=ĕ)))) (gY (fM lR (gD hu) (Ą (Ě (aJ (ą 0) nP (Ų Ć)))) (Ą (Ě (aJ (ą 0) (Ų Ć) (Ų Ć)))) (ĩ _)))))))
theorem Gx(T:Tx K mg a):ľ P w K mg base (aY P w) 3 a.Jv a.Jw ["numbers"] (bU ⟨K,Ĳ a⟩ 1 oE):=by
 refine gn (cm:=Ĳ a) (mb:=uR) T.JW QH rfl rfl rfl fun cdv A outer s H E hr=>?_
 have hu:=hr.units
 exact(đ (ħ (ō (v_and (Ě (Ĝ (Gw T) ĉ (hr.mono (by decide)) rfl T.ou T.JV.kp T.Qo İ (ć 0 (hr:=ĕ)))) (v_and (fM yx xG (Ą (ń Ĭ ī (ą 0) (Ą Ć) (fun _ _=>rfl))) (Ą (ń Ĭ ī (ą 0) (Ą Ć) (fun _ _=>rfl))) (ĩ _)) (gY (fM yx xG (Ą (ń Ĭ ī (ą 0) (Ą Ć) (fun _ _=>rfl))) (Ą (ń Ĭ ī (ą 0) (Ą Ć) (fun _ _=>rfl))) (ĩ _))))))))
theorem QS(T:Tx K mg a):ľ P w K mg base (aY P w) 2 a.Jx a.Jy ["numbers"] (bU ⟨K,Ĳ a⟩ 1 wg):=by
 refine gn (cm:=Ĳ a) (mb:=zK) T.Qs QJ rfl rfl rfl fun cdv A outer s H E hr=>?_
 have hu:=hr.units
 exact(đ (ħ (ō (v_and (Ě (Ĝ (jZ T) ĉ (hr.mono (by decide)) rfl T.aZ T.mL.kp T.qz İ (ę (ń Ĭ ī (ą 0) (Ą Ć) (fun _ _=>rfl)) ĕ))) (v_and (Ě (Ĝ (jZ T) ĉ (hr.mono (by decide)) rfl T.aZ T.mL.kp T.qz İ (ę (ń Ĭ ī (ą 0) (Ą Ć) (fun _ _=>rfl)) ĕ))) (gY (yc lQ lQ lM lM (Ą Ć) (Ą (ń Ĭ ī (ą 0) (Ą Ć) (fun _ _=>rfl))) (Ą (pC (.int (1000000000)) (ź (v:=.int (1000000000)) rfl T.eG ⟨_,rfl⟩))))))))))
theorem Kw(T:Tx K mg a):ľ P w K mg base (aY P w) 3 a.Aj a.Ak ["numbers"] (bU ⟨K,Ĳ a⟩ 1 jR):=by
 refine gn (cm:=Ĳ a) (mb:=oF) T.Gh Kp rfl rfl rfl fun cdv A outer s H E hr=>?_
 have hu:=hr.units
 exact(@đ _ _ _ _ _ (@ħ _ _ _ _ _ _ (@ō _ _ _ _ _ (@v_and _ _ _ _ _ _ _ _ _ (@fM _ _ _ _ _ _ _ _ _ _ _ (@Ō _) (@ĳ _ hu) (@Ą _ _ _ _ _ (@PE.wk _ _ _ _ (į bN (by rfl) T.gk PySem.boot_len (@ē _ _ _ _ _ _ _ (@ą _ _ _ 0 _ _ (by rfl) (by first|exact Or.inl rfl|exact Or.inr (Or.inl rfl)|exact Or.inr (Or.inr rfl)) (by decide) (by decide)) (@Į _ _ _) (by exact Ā rfl))) (fun _ _ _ h=> @Ű _ _ _ _ _ _ (@b_ _) _ _ _ h))) (@Ą _ _ _ _ _ (@Ć _ _ _ _ _ _)) (ĩ _)) (@gY _ _ _ _ _ _ _ (@PE.wk _ _ _ _ (į (@qX _ rfl) (by rfl) T.Bp PyProof.Rows.boot_all (@ē _ _ _ _ _ _ _ (@Ą _ _ _ _ _ (@Ě _ _ _ _ _ (aO ["numbers","place"] [0] 1 (Ĉ mF) rfl rfl (@cT _ _ _ _ _ _ (@ņ _ _ _ _ _ _ _ (@Ă _ _ _ _ _ _ _ (@Ć _ _ _ _ _ _) (@Ă _ _ _ _ _ _ _ (@Ć _ _ _ _ _ _) (@Ă _ _ _ _ _ _ _ (@Ć _ _ _ _ _ _) (@ġ _ _ _) (by exact Ā rfl)) (by exact Ā rfl)) (by exact Ā rfl)))) (fun _ _ _ _ _=>(@ě _ _ _ 1 _ (show(["numbers","place"]:List Str).Nodup by decide +kernel) rfl (Or.inl rfl) (Or.inr rfl))) (fun _ _ _ _ _=>(@ű _ _ _)) (fun _ _ _ _ _=>(@Ě _ _ _ _ _ (@Ĝ _ _ _ _ _ _ _ _ _ _ _ _ _ _ _ _ (QS T) ĉ (hr.mono (by decide)) rfl T.wg T.Qs.kp T.Zbi (@jB _ _ _) (@ę _ _ _ _ _ _ _ (@Ě _ _ _ _ _ (@aJ _ _ _ _ _ _ _ _ _ _ _ (@ą _ _ _ 0 _ _ (by rfl) (by first|exact Or.inl rfl|exact Or.inr (Or.inl rfl)|exact Or.inr (Or.inr rfl)) (by decide) (by decide)) (@Ų _ _ _ _ _ (@v_var _ _ _ 1 _ _ (by rfl) (by first|exact Or.inl rfl|exact Or.inr (Or.inl rfl)|exact Or.inr (Or.inr rfl)) (by decide) (by decide))) (@Ų _ _ _ _ _ (@Ě _ _ _ _ _ (@œ _ _ _ _ _ _ _ _ _ _ _ (@ļ _) (@Ļ _) (@ą _ _ _ 1 _ _ (by rfl) (by first|exact Or.inl rfl|exact Or.inr (Or.inl rfl)|exact Or.inr (Or.inr rfl)) (by decide) (by decide)) (@Ą _ _ _ _ _ (@Ć _ _ _ _ _ _))))))) (@ĕ _ _ _) (by exact Ā rfl)) (by decide) (by exact Ā rfl) (by rfl)))) ⟨rfl,⟨rfl,Or.inl rfl⟩,trivial⟩))) (@Į _ _ _) (by exact Ā rfl))) (fun _ _ _ h=> @Ű _ _ _ _ _ _ (@rG _) _ _ _ h)))))))
theorem BL(T:Tx K mg a):ľ P w K mg base (aY P w) 4 a.Al a.Am ["word","numbers"] (bU ⟨K,Ĳ a⟩ 2 bJ):=by
 refine gn (cm:=Ĳ a) (mb:=dj) T.Bl Kq rfl rfl rfl fun cdv A outer s H E hr=>?_
 have hu:=hr.units
 exact(Ċ (ů (PW.pt (w_and (ŋ Ō (ĳ hu) (ą 0) (Ą ŏ) (ĩ _)) (gF (dY (Ą (Ě (Ĝ (Ku T) ĉ (hr.mono (by decide)) rfl T.jM T.Gf.kp T.Qn İ (ć 1 (hr:=ĕ)))))))))
  (đ (ħ (ō (jy T.Kc (BJ T) bG (hr.mono (by decide)) rfl T.Bm T.Bk İ (ć 0 (hr:=(ć 1 (hr:=ĕ))))))))
  Ķ)
  (Ċ (ů (PW.pt (w_and (ŋ Ō (ĳ hu) (ą 0) (Ą ŏ) (ĩ _)) (gF (dY (Ą (Ě (Ĝ (Kv T) ĉ (hr.mono (by decide)) rfl T.jQ T.Gg.kp T.Qp İ (ć 1 (hr:=ĕ)))))))))
  (đ (ħ (ō (jy T.Ey (wj T) bG (hr.mono (by decide)) rfl T.uZ T.Bk İ (ć 0 (hr:=(ć 1 (hr:=ĕ))))))))
  Ķ)
  (Ċ (ů (PW.pt (w_and (ŋ Ō (ĳ hu) (ą 0) (Ą ŏ) (ĩ _)) (gF (dY (Ą (Ě (Ĝ (Gx T) ĉ (hr.mono (by decide)) rfl T.oE T.JW.kp T.Qq İ (ć 1 (hr:=ĕ)))))))))
  (đ (ħ (ō (jy T.Kd (BK T) bG (hr.mono (by decide)) rfl T.Bo T.Bk İ (ć 0 (hr:=(ć 1 (hr:=ĕ))))))))
  Ķ)
  (Ċ (ů (PW.pt (w_and (ŋ Ō (ĳ hu) (ą 0) (Ą ŏ) (ĩ _)) (gF (dY (Ą (Ě (Ĝ (Kw T) ĉ (hr.mono (by decide)) rfl T.jR T.Gh.kp T.Qt İ (ć 1 (hr:=ĕ)))))))))
  (đ (ħ (ō (jy T.Ez (wu T) bG (hr.mono (by decide)) rfl T.u_ T.Bk İ (ć 0 (hr:=(ć 1 (hr:=ĕ))))))))
  Ķ)
  (Ċ (ů (PW.pt (w_and (ŋ Ō (ĳ hu) (ą 0) (Ą ŏ) (ĩ _)) (gF (dY (Ą (Ě (Ĝ (Gx T) ĉ (hr.mono (by decide)) rfl T.oE T.JW.kp T.Qq İ (ć 1 (hr:=ĕ)))))))))
  (đ (ħ (ō (jy T.EY (wz T) bG (hr.mono (by decide)) rfl T.vd T.Bk İ (ć 0 (hr:=(ć 1 (hr:=ĕ))))))))
  Ķ)
  (đ (yP (C:= "BadThing") rfl rfl DX rfl T.sO T.sS)))))))
theorem BP(T:Tx K mg a):ľ P w K mg base (aY P w) 1 a.Jz a.JB ["x","y","u","v","z"] (bU ⟨K,Ĳ a⟩ 5 kZ):=by
 refine gn (cm:=Ĳ a) (mb:=zL) T.Eu QK rfl rfl rfl fun cdv A outer s H E hr=>?_
 have hu:=hr.units
 exact(đ (ħ (ŧ (Ă (ņ (Ă (v_var 0) (Ă (v_var 1) (Ă (v_var 4) ġ)))) (Ă (ņ (Ă (v_var 2) (Ă (v_var 1) (Ă (v_var 4) ġ)))) (Ă (ņ (Ă (v_var 2) (Ă (v_var 3) (Ă (v_var 4) ġ)))) (Ă (ņ (Ă (v_var 0) (Ă (v_var 3) (Ă (v_var 4) ġ)))) ġ)))))))
theorem Gy(T:Tx K mg a):ľ P w K mg base (aY P w) 2 a.JC a.JD ["x","y","u","v","h"] (bU ⟨K,Ĳ a⟩ 5 qu):=by
 refine gn (cm:=Ĳ a) (mb:=zM) T.JZ QL rfl rfl rfl fun cdv A outer s H E hr=>?_
 have hu:=hr.units
 exact(đ (ħ (œ ļ Ļ (Ą (Ě (Ĝ (BP T) ĉ (hr.mono (by decide)) rfl T.kZ T.Eu.kp T.JX İ (ć 0 (hr:=(ć 1 (hr:=(ć 2 (hr:=(ć 3 (hr:=(ę Ć ĕ)))))))))))) (Ą (Ě (Ĝ (BP T) ĉ (hr.mono (by decide)) rfl T.kZ T.Eu.kp T.JX İ (ć 0 (hr:=(ć 1 (hr:=(ć 2 (hr:=(ć 3 (hr:=(ć 4 (hr:=ĕ))))))))))))))))
theorem QT(T:Tx K mg a):ľ P w K mg base (aY P w) 3 a.JF a.JG ["self"] (bU ⟨K,Ĳ a⟩ 1 oG):=by
 refine gn (cm:=Ĳ a) (mb:=zN) T.Zbj Bs rfl rfl rfl fun cdv A outer s H E hr=>?_
 have hu:=hr.units
 exact(Ċ (ſ (i:=1) Bs.nd rfl (Or.inl rfl) (ō (Ħ bf ż (Ą Ć) (Ą (ń Ĭ ī (Ą (fV ["Thing","Post","Fence","Sail","Cloth","House"] ⟨⟨T.ň,T.ĝ⟩,⟨⟨T.ő,T.Ĥ⟩,⟨⟨T.Ŀ,T.Ğ⟩,⟨⟨T.Œ,T.ĥ⟩,⟨⟨T.ŀ,T.ğ⟩,⟨⟨T.Ł,T.Ġ⟩,trivial⟩⟩⟩⟩⟩⟩ (ą 0))) (Ą Ć) (fun _ _=>rfl))))))
  (Ċ (ſ (i:=2) Bs.nd rfl (Or.inl rfl) (ō (Ħ bf ż (Ą Ć) (Ą (ń Ĭ ī (Ą (fV ["Thing","Post","Fence","Sail","Cloth","House"] ⟨⟨T.ň,T.ĝ⟩,⟨⟨T.ő,T.Ĥ⟩,⟨⟨T.Ŀ,T.Ğ⟩,⟨⟨T.Œ,T.ĥ⟩,⟨⟨T.ŀ,T.ğ⟩,⟨⟨T.Ł,T.Ġ⟩,trivial⟩⟩⟩⟩⟩⟩ (ą 0))) (Ą Ć) (fun _ _=>rfl))))))
  (đ (ħ (Ĝ (Gy T) ĉ (hr.mono (by decide)) rfl T.qu T.JZ.kp T.Qu İ (ę (Ħ aP aL (ą 1) (Ą Ć)) (ę (Ħ aP aL (ą 2) (Ą Ć)) (ę (Ě (œ ļ Ļ (ą 1) (Ą Ć))) (ę (Ě (œ ļ Ļ (ą 2) (Ą Ć))) (ę (ń Ĭ ī (Ą (fV ["Thing","Post","Fence","Sail","Cloth","House"] ⟨⟨T.ň,T.ĝ⟩,⟨⟨T.ő,T.Ĥ⟩,⟨⟨T.Ŀ,T.Ğ⟩,⟨⟨T.Œ,T.ĥ⟩,⟨⟨T.ŀ,T.ğ⟩,⟨⟨T.Ł,T.Ġ⟩,trivial⟩⟩⟩⟩⟩⟩ (ą 0))) (Ą Ć) (fun _ _=>rfl)) ĕ))))))))))
theorem QV(T:Tx K mg a):ľ P w K mg base (aY P w) 1 a.JH a.JK ["self"] (bU ⟨K,Ĳ a⟩ 1 oH):=by
 refine gn (cm:=Ĳ a) (mb:=zO) T.Zbl vg rfl rfl rfl fun cdv A outer s H E hr=>?_
 have hu:=hr.units
 exact(Ċ (ſ (i:=1) vg.nd rfl (Or.inl rfl) (ō (fV ["Thing","Post","Fence","Sail","Cloth","House"] ⟨⟨T.ň,T.ĝ⟩,⟨⟨T.ő,T.Ĥ⟩,⟨⟨T.Ŀ,T.Ğ⟩,⟨⟨T.Œ,T.ĥ⟩,⟨⟨T.ŀ,T.ğ⟩,⟨⟨T.Ł,T.Ġ⟩,trivial⟩⟩⟩⟩⟩⟩ (ą 0))))
  (Ċ (ſ (i:=2) vg.nd rfl (Or.inl rfl) (ō (ņ (Ă (ń Ĭ ī (ą 1) (Ą Ć) (fun _ _=>rfl)) (Ă (ń Ĭ ī (ą 1) (Ą Ć) (fun _ _=>rfl)) ġ)))))
  (Ċ (ſ (i:=3) vg.nd rfl (Or.inl rfl) (ō (ņ (Ă (ń Ĭ ī (ą 1) (Ą Ć) (fun _ _=>rfl)) (Ă (ń Ĭ ī (ą 1) (Ą Ć) (fun _ _=>rfl)) ġ)))))
  (đ (ħ (ŧ (Ă (Ě (œ ļ Ļ (ą 2) (Ą (ņ (Ă Ć ġ))))) (Ă (Ě (œ ļ Ļ (ą 3) (Ą (ņ (Ă Ć ġ))))) (Ă (Ě (œ ļ Ļ (ą 3) (Ą (ņ (Ă (ń Ĭ ī (ą 1) (Ą Ć) (fun _ _=>rfl)) ġ))))) (Ă (Ě (œ ļ Ļ (ą 2) (Ą (ņ (Ă (ń Ĭ ī (ą 1) (Ą Ć) (fun _ _=>rfl)) ġ))))) ġ))))))))))
theorem Ky(T:Tx K mg a):ľ P w K mg base (aY P w) 2 a.Ao a.Aq ["self"] (bU ⟨K,Ĳ a⟩ 1 fZ):=by
 refine gn (cm:=Ĳ a) (mb:=rT) T.Qv Bt rfl rfl rfl fun cdv A outer s H E hr=>?_
 have hu:=hr.units
 exact(Ċ (ſ (i:=1) Bt.nd rfl (Or.inl rfl) (ō (fV ["Thing","Post","Fence","Sail","Cloth","House"] ⟨⟨T.ň,T.ĝ⟩,⟨⟨T.ő,T.Ĥ⟩,⟨⟨T.Ŀ,T.Ğ⟩,⟨⟨T.Œ,T.ĥ⟩,⟨⟨T.ŀ,T.ğ⟩,⟨⟨T.Ł,T.Ġ⟩,trivial⟩⟩⟩⟩⟩⟩ (ą 0))))
  (đ (ħ (Ĝ (BP T) ĉ (hr.mono (by decide)) rfl T.kZ T.Eu.kp T.JX İ (ę (ń Ĭ ī (ą 1) (Ą Ć) (fun _ _=>rfl)) (ę (ń Ĭ ī (ą 1) (Ą Ć) (fun _ _=>rfl)) (ę (ń Ĭ ī (ą 1) (Ą Ć) (fun _ _=>rfl)) (ę (ń Ĭ ī (ą 1) (Ą Ć) (fun _ _=>rfl)) (ę (ń Ĭ ī (ą 1) (Ą Ć) (fun _ _=>rfl)) ĕ)))))))))
theorem QW(T:Tx K mg a):ľ P w K mg base (aY P w) 1 a.JL a.JM ["self"] (bU ⟨K,Ĳ a⟩ 1 oJ):=by
 refine gn (cm:=Ĳ a) (mb:=zP) T.Zbn QM rfl rfl rfl fun cdv A outer s H E hr=>?_
 have hu:=hr.units
 exact(@đ _ _ _ _ _ (@ħ _ _ _ _ _ _ (aO ["self","place"] [0] 1 (Ĉ vZ) rfl rfl (@cT _ _ _ _ _ _ (@ņ _ _ _ _ _ _ _ (@Ă _ _ _ _ _ _ _ (@Ć _ _ _ _ _ _) (@Ă _ _ _ _ _ _ _ (@Ć _ _ _ _ _ _) (@Ă _ _ _ _ _ _ _ (@Ć _ _ _ _ _ _) (@ġ _ _ _) (by exact Ā rfl)) (by exact Ā rfl)) (by exact Ā rfl)))) (fun _ _ _ _ _=>(@ě _ _ _ 1 _ (show(["self","place"]:List Str).Nodup by decide +kernel) rfl (Or.inl rfl) (Or.inr rfl))) (fun _ _ _ _ _=>(@ű _ _ _)) (fun _ _ _ _ _=>(@PE.wk _ _ _ _ (ŕ ju (by rfl) T.i_ PyProof.Rows.boot_tuple (@ē _ _ _ _ _ _ _ (@Ą _ _ _ _ _ (@Ě _ _ _ _ _ (@aJ _ _ _ _ _ _ _ _ _ _ _ (@Ą _ _ _ _ _ (@fV _ _ _ _ _ _ _ ["Thing","Post","Fence","Sail","Cloth","House"] ⟨⟨T.ň,T.ĝ⟩,⟨⟨T.ő,T.Ĥ⟩,⟨⟨T.Ŀ,T.Ğ⟩,⟨⟨T.Œ,T.ĥ⟩,⟨⟨T.ŀ,T.ğ⟩,⟨⟨T.Ł,T.Ġ⟩,trivial⟩⟩⟩⟩⟩⟩ (@ą _ _ _ 0 _ _ (by rfl) (by first|exact Or.inl rfl|exact Or.inr (Or.inl rfl)|exact Or.inr (Or.inr rfl)) (by decide) (by decide)) (by rfl))) (@Ų _ _ _ _ _ (@v_var _ _ _ 1 _ _ (by rfl) (by first|exact Or.inl rfl|exact Or.inr (Or.inl rfl)|exact Or.inr (Or.inr rfl)) (by decide) (by decide))) (@Ų _ _ _ _ _ (@Ě _ _ _ _ _ (@œ _ _ _ _ _ _ _ _ _ _ _ (@ļ _) (@Ļ _) (@ą _ _ _ 1 _ _ (by rfl) (by first|exact Or.inl rfl|exact Or.inr (Or.inl rfl)|exact Or.inr (Or.inr rfl)) (by decide) (by decide)) (@Ą _ _ _ _ _ (@Ć _ _ _ _ _ _)))))))) (@Į _ _ _) (by exact Ā rfl))) (fun _ _ _ h=> @Ű _ _ _ _ _ _ (@jw _) _ _ _ h))) ⟨rfl,⟨rfl,Or.inl rfl⟩,trivial⟩)))
theorem QX(T:Tx K mg a):ľ P w K mg base (aY P w) 3 a.JN a.JQ ["self"] (bU ⟨K,Ĳ a⟩ 1 oK):=by
 refine gn (cm:=Ĳ a) (mb:=zQ) T.Zbp Gv rfl rfl rfl fun cdv A outer s H E hr=>?_
 have hu:=hr.units
 exact(Ċ (ſ (i:=1) Gv.nd rfl (Or.inl rfl) (ō (fV ["Thing","Post","Fence","Sail","Cloth","House"] ⟨⟨T.ň,T.ĝ⟩,⟨⟨T.ő,T.Ĥ⟩,⟨⟨T.Ŀ,T.Ğ⟩,⟨⟨T.Œ,T.ĥ⟩,⟨⟨T.ŀ,T.ğ⟩,⟨⟨T.Ł,T.Ġ⟩,trivial⟩⟩⟩⟩⟩⟩ (ą 0))))
  (đ (ħ (Ĝ (Gy T) ĉ (hr.mono (by decide)) rfl T.qu T.JZ.kp T.Qu İ (ę (ń Ĭ ī (ą 1) (Ą Ć) (fun _ _=>rfl)) (ę (ń Ĭ ī (ą 1) (Ą Ć) (fun _ _=>rfl)) (ę (ń Ĭ ī (ą 1) (Ą Ć) (fun _ _=>rfl)) (ę (ń Ĭ ī (ą 1) (Ą Ć) (fun _ _=>rfl)) (ę (ń Ĭ ī (ą 1) (Ą Ć) (fun _ _=>rfl)) ĕ)))))))))
theorem Kz(T:Tx K mg a):ľ P w K mg base (aY P w) 1 a.Ar a.Av ["_law_thing_here","_law_word"] (bU ⟨K,Ĳ a⟩ 2 jT):=by
 refine gn (cm:=Ĳ a) (mb:=rW) T.Gj oR rfl rfl rfl fun cdv A outer s H E hr=>?_
 have hu:=hr.units
 exact(@Ċ _ _ _ _ _ _ _ (@ſ _ _ _ _ _ _ 2 _ _ oR.nd rfl (Or.inl rfl) (@ŧ _ _ _ _ _ _ (@Ă _ _ _ _ _ _ _ (@PE.wk _ _ _ _ (į dI (by rfl) T.ł PyProof.Rows.boot_isinstance (@ē _ _ _ _ _ _ _ (@ą _ _ _ 0 _ _ (by rfl) (by first|exact Or.inl rfl|exact Or.inr (Or.inl rfl)|exact Or.inr (Or.inr rfl)) (by decide) (by decide)) (@ē _ _ _ _ _ _ _ (@Ą _ _ _ _ _ (@pC _ _ _ _ _ (.cls "Post") (@ź _ _ (.ref (Ĳ a "Post")) _ _ rfl T.Bm rfl (by decide)) (by intro _;unfold Rep;rfl))) (@Į _ _ _) (by exact Ā rfl)) (by exact Ā rfl))) (fun _ _ _ h=> @Ű _ _ _ _ _ _ (@dJ _ _ _ _ _ _ T.iO T.iC T.iT T.iD T.iN) _ _ _ h)) (@Ă _ _ _ _ _ _ _ (@PE.wk _ _ _ _ (į dI (by rfl) T.ł PyProof.Rows.boot_isinstance (@ē _ _ _ _ _ _ _ (@ą _ _ _ 0 _ _ (by rfl) (by first|exact Or.inl rfl|exact Or.inr (Or.inl rfl)|exact Or.inr (Or.inr rfl)) (by decide) (by decide)) (@ē _ _ _ _ _ _ _ (@Ą _ _ _ _ _ (@pC _ _ _ _ _ (.cls "Fence") (@ź _ _ (.ref (Ĳ a "Fence")) _ _ rfl T.uZ rfl (by decide)) (by intro _;unfold Rep;rfl))) (@Į _ _ _) (by exact Ā rfl)) (by exact Ā rfl))) (fun _ _ _ h=> @Ű _ _ _ _ _ _ (@dJ _ _ _ _ _ _ T.iO T.iC T.iT T.iD T.iN) _ _ _ h)) (@Ă _ _ _ _ _ _ _ (@PE.wk _ _ _ _ (į dI (by rfl) T.ł PyProof.Rows.boot_isinstance (@ē _ _ _ _ _ _ _ (@ą _ _ _ 0 _ _ (by rfl) (by first|exact Or.inl rfl|exact Or.inr (Or.inl rfl)|exact Or.inr (Or.inr rfl)) (by decide) (by decide)) (@ē _ _ _ _ _ _ _ (@Ą _ _ _ _ _ (@pC _ _ _ _ _ (.cls "Sail") (@ź _ _ (.ref (Ĳ a "Sail")) _ _ rfl T.Bo rfl (by decide)) (by intro _;unfold Rep;rfl))) (@Į _ _ _) (by exact Ā rfl)) (by exact Ā rfl))) (fun _ _ _ h=> @Ű _ _ _ _ _ _ (@dJ _ _ _ _ _ _ T.iO T.iC T.iT T.iD T.iN) _ _ _ h)) (@ġ _ _ _) (by exact Ā rfl)) (by exact Ā rfl)) (by exact Ā rfl))) (by rfl) (by first|exact .inl rfl|exact .inr rfl|assumption)) (@Ċ _ _ _ _ _ _ _ (@ſ _ _ _ _ _ _ 2 _ _ oR.nd rfl (Or.inl rfl) (@œ _ _ _ _ _ _ _ _ _ _ _ (@ļ _) (@Ļ _) (@ą _ _ _ 2 _ _ (by rfl) (by first|exact Or.inl rfl|exact Or.inr (Or.inl rfl)|exact Or.inr (Or.inr rfl)) (by decide) (by decide)) (@Ą _ _ _ _ _ (@Ě _ _ _ _ _ (@ŧ _ _ _ _ _ _ (@Ă _ _ _ _ _ _ _ (@PE.wk _ _ _ _ (į dI (by rfl) T.ł PyProof.Rows.boot_isinstance (@ē _ _ _ _ _ _ _ (@ą _ _ _ 0 _ _ (by rfl) (by first|exact Or.inl rfl|exact Or.inr (Or.inl rfl)|exact Or.inr (Or.inr rfl)) (by decide) (by decide)) (@ē _ _ _ _ _ _ _ (@Ą _ _ _ _ _ (@pC _ _ _ _ _ (.cls "Cloth") (@ź _ _ (.ref (Ĳ a "Cloth")) _ _ rfl T.u_ rfl (by decide)) (by intro _;unfold Rep;rfl))) (@Į _ _ _) (by exact Ā rfl)) (by exact Ā rfl))) (fun _ _ _ h=> @Ű _ _ _ _ _ _ (@dJ _ _ _ _ _ _ T.iO T.iC T.iT T.iD T.iN) _ _ _ h)) (@Ă _ _ _ _ _ _ _ (@PE.wk _ _ _ _ (į dI (by rfl) T.ł PyProof.Rows.boot_isinstance (@ē _ _ _ _ _ _ _ (@ą _ _ _ 0 _ _ (by rfl) (by first|exact Or.inl rfl|exact Or.inr (Or.inl rfl)|exact Or.inr (Or.inr rfl)) (by decide) (by decide)) (@ē _ _ _ _ _ _ _ (@Ą _ _ _ _ _ (@pC _ _ _ _ _ (.cls "House") (@ź _ _ (.ref (Ĳ a "House")) _ _ rfl T.vd rfl (by decide)) (by intro _;unfold Rep;rfl))) (@Į _ _ _) (by exact Ā rfl)) (by exact Ā rfl))) (fun _ _ _ h=> @Ű _ _ _ _ _ _ (@dJ _ _ _ _ _ _ T.iO T.iC T.iT T.iD T.iN) _ _ _ h)) (@ġ _ _ _) (by exact Ā rfl)) (by exact Ā rfl)))))) (by rfl) (by first|exact .inl rfl|exact .inr rfl|assumption)) (@Ċ _ _ _ _ _ _ _ (@ſ _ _ _ _ _ _ 3 _ _ oR.nd rfl (Or.inl rfl) (@ŧ _ _ _ _ _ _ (@Ă _ _ _ _ _ _ _ (@ŏ _ _ _ _ _ _) (@Ă _ _ _ _ _ _ _ (@ŏ _ _ _ _ _ _) (@Ă _ _ _ _ _ _ _ (@ŏ _ _ _ _ _ _) (@Ă _ _ _ _ _ _ _ (@ŏ _ _ _ _ _ _) (@Ă _ _ _ _ _ _ _ (@ŏ _ _ _ _ _ _) (@ġ _ _ _) (by exact Ā rfl)) (by exact Ā rfl)) (by exact Ā rfl)) (by exact Ā rfl)) (by exact Ā rfl))) (by rfl) (by first|exact .inl rfl|exact .inr rfl|assumption)) (@đ _ _ _ _ _ (@ħ _ _ _ _ _ _ (@ō _ _ _ _ _ (@v_and _ _ _ _ _ _ _ _ _ (@PE.wk _ _ _ _ (į dI (by rfl) T.ł PyProof.Rows.boot_isinstance (@ē _ _ _ _ _ _ _ (@ą _ _ _ 0 _ _ (by rfl) (by first|exact Or.inl rfl|exact Or.inr (Or.inl rfl)|exact Or.inr (Or.inr rfl)) (by decide) (by decide)) (@ē _ _ _ _ _ _ _ (@Ą _ _ _ _ _ (@pC _ _ _ _ _ (.cls "Thing") (@ź _ _ (.ref (Ĳ a "Thing")) _ _ rfl T.Ew rfl (by decide)) (by intro _;unfold Rep;rfl))) (@Į _ _ _) (by exact Ā rfl)) (by exact Ā rfl))) (fun _ _ _ h=> @Ű _ _ _ _ _ _ (@dJ _ _ _ _ _ _ T.iO T.iC T.iT T.iD T.iN) _ _ _ h)) (@gY _ _ _ _ _ _ _ (@fM _ _ _ _ _ _ _ _ _ _ _ (@Ō _) (@ĳ _ hu) (@ą _ _ _ 2 _ _ (by rfl) (by first|exact Or.inl rfl|exact Or.inr (Or.inl rfl)|exact Or.inr (Or.inr rfl)) (by decide) (by decide)) (@Ą _ _ _ _ _ (@Ě _ _ _ _ _ (aO ["_law_word","_law_some"] [1] 1 (Ĉ mG) rfl rfl (@jk _ _ _ _ 3 _ _ (by rfl) (by first|exact Or.inl rfl|exact Or.inr (Or.inl rfl)|exact Or.inr (Or.inr rfl)) (by decide) (by decide)) (fun _ _ _ _ _=>(@ě _ _ _ 1 _ (show(["_law_word","_law_some"]:List Str).Nodup by decide +kernel) rfl (Or.inl rfl) (Or.inr rfl))) (fun _ _ _ _ _=>(@ű _ _ _)) (fun _ _ _ _ _=>(@fM _ _ _ _ _ _ _ _ _ _ _ (@Ō _) (@ĳ _ hu) (@ą _ _ _ 1 _ _ (by rfl) (by first|exact Or.inl rfl|exact Or.inr (Or.inl rfl)|exact Or.inr (Or.inr rfl)) (by decide) (by decide)) (@ą _ _ _ 0 _ _ (by rfl) (by first|exact Or.inl rfl|exact Or.inr (Or.inl rfl)|exact Or.inr (Or.inr rfl)) (by decide) (by decide)) (ĩ _))) ⟨rfl,⟨rfl,Or.inl rfl⟩,trivial⟩))) (ĩ _))))))))))
theorem KC(T:Tx K mg a):ľ P w K mg base (aY P w) 1 a.Aw a.Ax ["_law_found","_law_due"] (bU ⟨K,Ĳ a⟩ 2 mK):=by
 refine gn (cm:=Ĳ a) (mb:=rZ) T.Gk Bu rfl rfl rfl fun cdv A outer s H E hr=>?_
 have hu:=hr.units
 exact(Ċ (ů (PW.pt (w_or (pD (dY (Ą (PE.wk (į fW (by rfl) T.ł PyProof.Rows.boot_isinstance (ē (ą 0) (ē (Ą (pC (.ty "list") (iK (v:=.ty "list") rfl T.fu PyProof.Rows.boot_list rfl))) Į))) fun _ _ _ h=>Ű (fX T.iC T.iT T.iD T.iN) h)))) (uf (ŋ lR (gD hu) (Ą (PE.wk (į bN (by rfl) T.gk PySem.boot_len (ē (ą 0) Į)) fun _ _ _ h=>Ű b_ h)) (Ą (PE.wk (į bN (by rfl) T.gk PySem.boot_len (ē (ą 1) Į)) fun _ _ _ h=>Ű b_ h)) (ĩ _)))))
  (đ (ħ (ō vM)))
  Ķ)
  (Ċ (yh PassesOwn.leaving rfl (pG rfl T.vf (Ă (PE.wk (į bN (by rfl) T.gk PySem.boot_len (ē (ą 1) Į)) fun _ _ _ h=>Ű b_ h) ġ)) (ě (i:=2) Bu.nd rfl (Or.inl rfl))
  (Ċ (ů (PW.pt (w_or (pD (dY (Ą (PE.wk (į fW (by rfl) T.ł PyProof.Rows.boot_isinstance (ē (Ą (ń Ĭ ī (ą 0) (ą 2) (fun _ _=>rfl))) (ē (Ą (pC (.ty "tuple") (iK (v:=.ty "tuple") rfl T.i_ PyProof.Rows.boot_tuple rfl))) Į))) fun _ _ _ h=>Ű (fX T.iC T.iT T.iD T.iN) h)))) (w_or (ŋ lR (gD hu) (Ą (PE.wk (į bN (by rfl) T.gk PySem.boot_len (ē (Ą (ń Ĭ ī (ą 0) (ą 2) (fun _ _=>rfl))) Į)) fun _ _ _ h=>Ű b_ h)) (Ą Ć) (ĩ _)) (uf (ŋ lR (gD hu) (Ą (ń Ĭ ī (ą 0) (ą 2) (fun _ _=>rfl))) (Ą (ń Ĭ ī (ą 1) (ą 2) (fun _ _=>rfl))) (ĩ _))))))
  (đ (ħ (ō vM)))
  Ķ)
  (đ (ů (pD (dY (Ą (PE.wk (į (qX rfl) (by rfl) T.Bp PyProof.Rows.boot_all (ē (Ą (Ě (aO ["_law_x"] [] 1 (Ĉ mH) rfl rfl (cT (ń Ĭ ī (ą 0) (ą 2) (fun _ _=>rfl))) (fun _ _ _ _ _=>(ě (i:=0) (show(["_law_x"]:List Str).Nodup by decide +kernel) rfl (Or.inl rfl) (hf:=Or.inr rfl))) (fun _ _ _ _ _=>ű) (fun _ _ _ _ _=>(v_and (PE.wk (į fW (by rfl) T.ł PyProof.Rows.boot_isinstance (ē (ą 0) (ē (Ą (pC (.ty "int") (iK (v:=.ty "int") rfl T.QC PyProof.Rows.boot_int rfl))) Į))) fun _ _ _ h=>Ű (fX T.iC T.iT T.iD T.iN) h) (gY (v_not (PE.wk (į fW (by rfl) T.ł PyProof.Rows.boot_isinstance (ē (ą 0) (ē (Ą (pC (.ty "bool") (iK (v:=.ty "bool") rfl T.Ke PyProof.Rows.boot_bool rfl))) Į))) fun _ _ _ h=>Ű (fX T.iC T.iT T.iD T.iN) h))))) trivial))) Į)) fun _ _ _ h=>Ű rG h))))
  (đ (ħ (ō vM)))
  Ķ))))
  (đ (ħ (ō vM)))))
theorem gO(T:Tx K mg a):ľ P w K mg base (aY P w) 1 a.ig a.Ay ["self"] (bU ⟨K,Ĳ a⟩ 1 Ň):=by
 refine gn (cm:=Ĳ a) (mb:=su) T.Qz Kr rfl rfl rfl fun cdv A outer s H E hr=>?_
 have hu:=hr.units
 exact(đ (ħ (ō (Pn PySem.F.plainAttrs_str PySem.F.slot_str_join PySem.F.type_str_join uL tU (Ą ŏ) (ē (Ą (Ě (œ ļ Ļ (Ą (Ě (ŧ (Ă (fV ["Thing","Post","Fence","Sail","Cloth","House"] ⟨⟨T.ň,T.Š⟩,⟨⟨T.ő,T.Ŭ⟩,⟨⟨T.Ŀ,T.š⟩,⟨⟨T.Œ,T.ŭ⟩,⟨⟨T.ŀ,T.Ţ⟩,⟨⟨T.Ł,T.ţ⟩,trivial⟩⟩⟩⟩⟩⟩ (ą 0)) ġ)))) (Ą (Ě (aO ["number"] [] 1 (Ĉ mJ) rfl rfl (cT (fV ["Thing","Post","Fence","Sail","Cloth","House"] ⟨⟨T.ň,T.ĝ⟩,⟨⟨T.ő,T.Ĥ⟩,⟨⟨T.Ŀ,T.Ğ⟩,⟨⟨T.Œ,T.ĥ⟩,⟨⟨T.ŀ,T.ğ⟩,⟨⟨T.Ł,T.Ġ⟩,trivial⟩⟩⟩⟩⟩⟩ (ą 0))) (fun _ _ _ _ _=>(ě (i:=0) (show(["number"]:List Str).Nodup by decide +kernel) rfl (Or.inl rfl) (hf:=Or.inr rfl))) (fun _ _ _ _ _=>ű) (fun _ _ _ _ _=>(PE.wk (ŕ yX (by rfl) T.Gu PyProof.Rows.boot_str (ē (ą 0) Į)) fun _ _ _ h=>Ű yZ h)) trivial)))))) Į)))))
theorem gP(T:Tx K mg a):ľ P w K mg base (aY P w) 1 a.Az a.A_ ["_law_x","_law_y","_law_u","_law_v","_law_z"] (bU ⟨K,Ĳ a⟩ 5 aA):=by
 refine gn (cm:=Ĳ a) (mb:=sy) T.jW Ks rfl rfl rfl fun cdv A outer s H E hr=>?_
 have hu:=hr.units
 exact(đ (ħ (ŧ (Ă (ņ (Ă (v_var 0) (Ă (v_var 1) (Ă (v_var 4) ġ)))) (Ă (ņ (Ă (v_var 2) (Ă (v_var 1) (Ă (v_var 4) ġ)))) (Ă (ņ (Ă (v_var 2) (Ă (v_var 3) (Ă (v_var 4) ġ)))) (Ă (ņ (Ă (v_var 0) (Ă (v_var 3) (Ă (v_var 4) ġ)))) ġ)))))))
theorem BR(T:Tx K mg a):ľ P w K mg base (aY P w) 2 a.uT a.uU ["_law_word","_law_numbers"] (bU ⟨K,Ĳ a⟩ 2 iZ):=by
 refine gn (cm:=Ĳ a) (mb:=jU) T.uY ř rfl rfl rfl fun cdv A outer s H E hr=>?_
 have hu:=hr.units
 exact(@Ċ _ _ _ _ _ _ _ (@ů _ _ _ _ _ _ _ _ _ _ (@ŋ _ _ _ _ _ _ _ _ _ _ _ (@Ō _) (@ĳ _ hu) (@ą _ _ _ 0 _ _ (by rfl) (by first|exact Or.inl rfl|exact Or.inr (Or.inl rfl)|exact Or.inr (Or.inr rfl)) (by decide) (by decide)) (@Ą _ _ _ _ _ (@ŏ _ _ _ _ _ _)) (ĩ _)) (@đ _ _ _ _ _ (@ħ _ _ _ _ _ _ (aO ["_law_numbers","_law_k"] [1] 1 (Ĉ jJ) rfl rfl (@cT _ _ _ _ _ _ (@Ě _ _ _ _ _ (@ŧ _ _ _ _ _ _ (@Ă _ _ _ _ _ _ _ (@Ć _ _ _ _ _ _) (@Ă _ _ _ _ _ _ _ (@Ć _ _ _ _ _ _) (@Ă _ _ _ _ _ _ _ (@Ć _ _ _ _ _ _) (@ġ _ _ _) (by exact Ā rfl)) (by exact Ā rfl)) (by exact Ā rfl))))) (fun _ _ _ _ _=>(@ě _ _ _ 1 _ (show(["_law_numbers","_law_k"]:List Str).Nodup by decide +kernel) rfl (Or.inl rfl) (Or.inr rfl))) (fun _ _ _ _ _=>(@ű _ _ _)) (fun _ _ _ _ _=>(@PE.wk _ _ _ _ (ŕ ju (by rfl) T.i_ PyProof.Rows.boot_tuple (@ē _ _ _ _ _ _ _ (@Ą _ _ _ _ _ (@Ě _ _ _ _ _ (@aJ _ _ _ _ _ _ _ _ _ _ _ (@ą _ _ _ 0 _ _ (by rfl) (by first|exact Or.inl rfl|exact Or.inr (Or.inl rfl)|exact Or.inr (Or.inr rfl)) (by decide) (by decide)) (@Ų _ _ _ _ _ (@v_var _ _ _ 1 _ _ (by rfl) (by first|exact Or.inl rfl|exact Or.inr (Or.inl rfl)|exact Or.inr (Or.inr rfl)) (by decide) (by decide))) (@Ų _ _ _ _ _ (@Ě _ _ _ _ _ (@œ _ _ _ _ _ _ _ _ _ _ _ (@ļ _) (@Ļ _) (@ą _ _ _ 1 _ _ (by rfl) (by first|exact Or.inl rfl|exact Or.inr (Or.inl rfl)|exact Or.inr (Or.inr rfl)) (by decide) (by decide)) (@Ą _ _ _ _ _ (@Ć _ _ _ _ _ _)))))))) (@Į _ _ _) (by exact Ā rfl))) (fun _ _ _ h=> @Ű _ _ _ _ _ _ (@jw _) _ _ _ h))) ⟨rfl,⟨rfl,Or.inl rfl⟩,trivial⟩))) (@Ķ _ _ _)) (@Ċ _ _ _ _ _ _ _ (@ů _ _ _ _ _ _ _ _ _ _ (@ŋ _ _ _ _ _ _ _ _ _ _ _ (@Ō _) (@ĳ _ hu) (@ą _ _ _ 0 _ _ (by rfl) (by first|exact Or.inl rfl|exact Or.inr (Or.inl rfl)|exact Or.inr (Or.inr rfl)) (by decide) (by decide)) (@Ą _ _ _ _ _ (@ŏ _ _ _ _ _ _)) (ĩ _)) (@Ċ _ _ _ _ _ _ _ (@fO _ _ _ _ _ _ _ _ (@v_var _ _ _ 1 _ _ (by rfl) (by first|exact Or.inl rfl|exact Or.inr (Or.inl rfl)|exact Or.inr (Or.inr rfl)) (by decide) (by decide)) (@fY _ _ _ _ _ _ _ rfl (@Ĩ _ _ _ _ _ _ (@ě _ _ _ 7 _ ř.nd rfl (Or.inl rfl) (by first|exact .inl rfl|exact .inr rfl|assumption)) (@Ĩ _ _ _ _ _ _ (@ě _ _ _ 8 _ ř.nd rfl (Or.inl rfl) (by first|exact .inl rfl|exact .inr rfl|assumption)) (@Ĩ _ _ _ _ _ _ (@ě _ _ _ 6 _ ř.nd rfl (Or.inl rfl) (by first|exact .inl rfl|exact .inr rfl|assumption)) (@aN _ _) (by rfl)) (by rfl)) (by rfl)) (by rfl) (by rfl)) (by rfl) (by rfl) (by rfl)) (@đ _ _ _ _ _ (@Dp _ _ _ _))) (@Ķ _ _ _)) (@Ċ _ _ _ _ _ _ _ (@fO _ _ _ _ _ _ _ _ (@v_var _ _ _ 1 _ _ (by rfl) (by first|exact Or.inl rfl|exact Or.inr (Or.inl rfl)|exact Or.inr (Or.inr rfl)) (by decide) (by decide)) (@fY _ _ _ _ _ _ _ rfl (@Ĩ _ _ _ _ _ _ (@ě _ _ _ 2 _ ř.nd rfl (Or.inl rfl) (by first|exact .inl rfl|exact .inr rfl|assumption)) (@Ĩ _ _ _ _ _ _ (@ě _ _ _ 3 _ ř.nd rfl (Or.inl rfl) (by first|exact .inl rfl|exact .inr rfl|assumption)) (@Ĩ _ _ _ _ _ _ (@ě _ _ _ 4 _ ř.nd rfl (Or.inl rfl) (by first|exact .inl rfl|exact .inr rfl|assumption)) (@Ĩ _ _ _ _ _ _ (@ě _ _ _ 5 _ ř.nd rfl (Or.inl rfl) (by first|exact .inl rfl|exact .inr rfl|assumption)) (@Ĩ _ _ _ _ _ _ (@ě _ _ _ 6 _ ř.nd rfl (Or.inl rfl) (by first|exact .inl rfl|exact .inr rfl|assumption)) (@aN _ _) (by rfl)) (by rfl)) (by rfl)) (by rfl)) (by rfl)) (by rfl) (by rfl)) (by rfl) (by rfl) (by rfl)) (@Ċ _ _ _ _ _ _ _ (@ů _ _ _ _ _ _ _ _ _ _ (@ŋ _ _ _ _ _ _ _ _ _ _ _ (@Ō _) (@ĳ _ hu) (@ą _ _ _ 0 _ _ (by rfl) (by first|exact Or.inl rfl|exact Or.inr (Or.inl rfl)|exact Or.inr (Or.inr rfl)) (by decide) (by decide)) (@Ą _ _ _ _ _ (@ŏ _ _ _ _ _ _)) (ĩ _)) (@đ _ _ _ _ _ (@ħ _ _ _ _ _ _ (@ŧ _ _ _ _ _ _ (@Ă _ _ _ _ _ _ _ (@ņ _ _ _ _ _ _ _ (@Ă _ _ _ _ _ _ _ (@v_var _ _ _ 2 _ _ (by rfl) (by first|exact Or.inl rfl|exact Or.inr (Or.inl rfl)|exact Or.inr (Or.inr rfl)) (by decide) (by decide)) (@Ă _ _ _ _ _ _ _ (@v_var _ _ _ 3 _ _ (by rfl) (by first|exact Or.inl rfl|exact Or.inr (Or.inl rfl)|exact Or.inr (Or.inr rfl)) (by decide) (by decide)) (@Ă _ _ _ _ _ _ _ (@Ć _ _ _ _ _ _) (@ġ _ _ _) (by exact Ā rfl)) (by exact Ā rfl)) (by exact Ā rfl))) (@Ă _ _ _ _ _ _ _ (@ņ _ _ _ _ _ _ _ (@Ă _ _ _ _ _ _ _ (@v_var _ _ _ 4 _ _ (by rfl) (by first|exact Or.inl rfl|exact Or.inr (Or.inl rfl)|exact Or.inr (Or.inr rfl)) (by decide) (by decide)) (@Ă _ _ _ _ _ _ _ (@v_var _ _ _ 5 _ _ (by rfl) (by first|exact Or.inl rfl|exact Or.inr (Or.inl rfl)|exact Or.inr (Or.inr rfl)) (by decide) (by decide)) (@Ă _ _ _ _ _ _ _ (@Ć _ _ _ _ _ _) (@ġ _ _ _) (by exact Ā rfl)) (by exact Ā rfl)) (by exact Ā rfl))) (@Ă _ _ _ _ _ _ _ (@ņ _ _ _ _ _ _ _ (@Ă _ _ _ _ _ _ _ (@v_var _ _ _ 4 _ _ (by rfl) (by first|exact Or.inl rfl|exact Or.inr (Or.inl rfl)|exact Or.inr (Or.inr rfl)) (by decide) (by decide)) (@Ă _ _ _ _ _ _ _ (@v_var _ _ _ 5 _ _ (by rfl) (by first|exact Or.inl rfl|exact Or.inr (Or.inl rfl)|exact Or.inr (Or.inr rfl)) (by decide) (by decide)) (@Ă _ _ _ _ _ _ _ (@v_var _ _ _ 6 _ _ (by rfl) (by first|exact Or.inl rfl|exact Or.inr (Or.inl rfl)|exact Or.inr (Or.inr rfl)) (by decide) (by decide)) (@ġ _ _ _) (by exact Ā rfl)) (by exact Ā rfl)) (by exact Ā rfl))) (@Ă _ _ _ _ _ _ _ (@ņ _ _ _ _ _ _ _ (@Ă _ _ _ _ _ _ _ (@v_var _ _ _ 2 _ _ (by rfl) (by first|exact Or.inl rfl|exact Or.inr (Or.inl rfl)|exact Or.inr (Or.inr rfl)) (by decide) (by decide)) (@Ă _ _ _ _ _ _ _ (@v_var _ _ _ 3 _ _ (by rfl) (by first|exact Or.inl rfl|exact Or.inr (Or.inl rfl)|exact Or.inr (Or.inr rfl)) (by decide) (by decide)) (@Ă _ _ _ _ _ _ _ (@v_var _ _ _ 6 _ _ (by rfl) (by first|exact Or.inl rfl|exact Or.inr (Or.inl rfl)|exact Or.inr (Or.inr rfl)) (by decide) (by decide)) (@ġ _ _ _) (by exact Ā rfl)) (by exact Ā rfl)) (by exact Ā rfl))) (@ġ _ _ _) (by exact Ā rfl)) (by exact Ā rfl)) (by exact Ā rfl)) (by exact Ā rfl))))) (@Ķ _ _ _)) (@Ċ _ _ _ _ _ _ _ (@ů _ _ _ _ _ _ _ _ _ _ (@ŋ _ _ _ _ _ _ _ _ _ _ _ (@Ō _) (@ĳ _ hu) (@ą _ _ _ 0 _ _ (by rfl) (by first|exact Or.inl rfl|exact Or.inr (Or.inl rfl)|exact Or.inr (Or.inr rfl)) (by decide) (by decide)) (@Ą _ _ _ _ _ (@ŏ _ _ _ _ _ _)) (ĩ _)) (@đ _ _ _ _ _ (@ħ _ _ _ _ _ _ (@Ĝ _ _ _ _ _ _ _ _ _ _ _ _ _ _ _ _ (gP T) ĉ (hr.mono (by decide)) rfl T.aA T.jW.kp T.mQ (@İ _ _ _ _ _ _ _ _ _ _ _ _ _ _ _) (@ć _ _ _ _ _ 2 _ _ (by rfl) (by first|exact Or.inl rfl|exact Or.inr (Or.inl rfl)|exact Or.inr (Or.inr rfl)) (by decide) (by decide) (@ć _ _ _ _ _ 3 _ _ (by rfl) (by first|exact Or.inl rfl|exact Or.inr (Or.inl rfl)|exact Or.inr (Or.inr rfl)) (by decide) (by decide) (@ć _ _ _ _ _ 4 _ _ (by rfl) (by first|exact Or.inl rfl|exact Or.inr (Or.inl rfl)|exact Or.inr (Or.inr rfl)) (by decide) (by decide) (@ć _ _ _ _ _ 5 _ _ (by rfl) (by first|exact Or.inl rfl|exact Or.inr (Or.inl rfl)|exact Or.inr (Or.inr rfl)) (by decide) (by decide) (@ć _ _ _ _ _ 6 _ _ (by rfl) (by first|exact Or.inl rfl|exact Or.inr (Or.inl rfl)|exact Or.inr (Or.inr rfl)) (by decide) (by decide) (@ĕ _ _ _) (by exact Ā rfl)) (by exact Ā rfl)) (by exact Ā rfl)) (by exact Ā rfl)) (by exact Ā rfl)) (by decide) (by exact Ā rfl) (by rfl)))) (@Ķ _ _ _)) (@đ _ _ _ _ _ (@ħ _ _ _ _ _ _ (@œ _ _ _ _ _ _ _ _ _ _ _ (@ļ _) (@Ļ _) (@Ą _ _ _ _ _ (@Ě _ _ _ _ _ (@Ĝ _ _ _ _ _ _ _ _ _ _ _ _ _ _ _ _ (gP T) ĉ (hr.mono (by decide)) rfl T.aA T.jW.kp T.mQ (@İ _ _ _ _ _ _ _ _ _ _ _ _ _ _ _) (@ć _ _ _ _ _ 2 _ _ (by rfl) (by first|exact Or.inl rfl|exact Or.inr (Or.inl rfl)|exact Or.inr (Or.inr rfl)) (by decide) (by decide) (@ć _ _ _ _ _ 3 _ _ (by rfl) (by first|exact Or.inl rfl|exact Or.inr (Or.inl rfl)|exact Or.inr (Or.inr rfl)) (by decide) (by decide) (@ć _ _ _ _ _ 4 _ _ (by rfl) (by first|exact Or.inl rfl|exact Or.inr (Or.inl rfl)|exact Or.inr (Or.inr rfl)) (by decide) (by decide) (@ć _ _ _ _ _ 5 _ _ (by rfl) (by first|exact Or.inl rfl|exact Or.inr (Or.inl rfl)|exact Or.inr (Or.inr rfl)) (by decide) (by decide) (@ę _ _ _ _ _ _ _ (@Ć _ _ _ _ _ _) (@ĕ _ _ _) (by exact Ā rfl)) (by exact Ā rfl)) (by exact Ā rfl)) (by exact Ā rfl)) (by exact Ā rfl)) (by decide) (by exact Ā rfl) (by rfl)))) (@Ą _ _ _ _ _ (@Ě _ _ _ _ _ (@Ĝ _ _ _ _ _ _ _ _ _ _ _ _ _ _ _ _ (gP T) ĉ (hr.mono (by decide)) rfl T.aA T.jW.kp T.mQ (@İ _ _ _ _ _ _ _ _ _ _ _ _ _ _ _) (@ć _ _ _ _ _ 2 _ _ (by rfl) (by first|exact Or.inl rfl|exact Or.inr (Or.inl rfl)|exact Or.inr (Or.inr rfl)) (by decide) (by decide) (@ć _ _ _ _ _ 3 _ _ (by rfl) (by first|exact Or.inl rfl|exact Or.inr (Or.inl rfl)|exact Or.inr (Or.inr rfl)) (by decide) (by decide) (@ć _ _ _ _ _ 4 _ _ (by rfl) (by first|exact Or.inl rfl|exact Or.inr (Or.inl rfl)|exact Or.inr (Or.inr rfl)) (by decide) (by decide) (@ć _ _ _ _ _ 5 _ _ (by rfl) (by first|exact Or.inl rfl|exact Or.inr (Or.inl rfl)|exact Or.inr (Or.inr rfl)) (by decide) (by decide) (@ć _ _ _ _ _ 6 _ _ (by rfl) (by first|exact Or.inl rfl|exact Or.inr (Or.inl rfl)|exact Or.inr (Or.inr rfl)) (by decide) (by decide) (@ĕ _ _ _) (by exact Ā rfl)) (by exact Ā rfl)) (by exact Ā rfl)) (by exact Ā rfl)) (by exact Ā rfl)) (by decide) (by exact Ā rfl) (by rfl))))))))))))
theorem KD(T:Tx K mg a):ľ P w K mg base (aY P w) 3 a.uT a.uU ["_law_word","_law_numbers"] (bU ⟨K,Ĳ a⟩ 2 dw):=by
 refine gn (cm:=Ĳ a) (mb:=fj) T.uY ř rfl rfl rfl fun cdv A outer s H E hr=>?_
 have hu:=hr.units
 exact(@Ċ _ _ _ _ _ _ _ (@ů _ _ _ _ _ _ _ _ _ _ (@ŋ _ _ _ _ _ _ _ _ _ _ _ (@Ō _) (@ĳ _ hu) (@ą _ _ _ 0 _ _ (by rfl) (by first|exact Or.inl rfl|exact Or.inr (Or.inl rfl)|exact Or.inr (Or.inr rfl)) (by decide) (by decide)) (@Ą _ _ _ _ _ (@ŏ _ _ _ _ _ _)) (ĩ _)) (@đ _ _ _ _ _ (@ħ _ _ _ _ _ _ (aO ["_law_numbers","_law_k"] [1] 1 (Ĉ jJ) rfl rfl (@cT _ _ _ _ _ _ (@Ě _ _ _ _ _ (@ŧ _ _ _ _ _ _ (@Ă _ _ _ _ _ _ _ (@Ć _ _ _ _ _ _) (@Ă _ _ _ _ _ _ _ (@Ć _ _ _ _ _ _) (@Ă _ _ _ _ _ _ _ (@Ć _ _ _ _ _ _) (@ġ _ _ _) (by exact Ā rfl)) (by exact Ā rfl)) (by exact Ā rfl))))) (fun _ _ _ _ _=>(@ě _ _ _ 1 _ (show(["_law_numbers","_law_k"]:List Str).Nodup by decide +kernel) rfl (Or.inl rfl) (Or.inr rfl))) (fun _ _ _ _ _=>(@ű _ _ _)) (fun _ _ _ _ _=>(@PE.wk _ _ _ _ (ŕ ju (by rfl) T.i_ PyProof.Rows.boot_tuple (@ē _ _ _ _ _ _ _ (@Ą _ _ _ _ _ (@Ě _ _ _ _ _ (@aJ _ _ _ _ _ _ _ _ _ _ _ (@ą _ _ _ 0 _ _ (by rfl) (by first|exact Or.inl rfl|exact Or.inr (Or.inl rfl)|exact Or.inr (Or.inr rfl)) (by decide) (by decide)) (@Ų _ _ _ _ _ (@v_var _ _ _ 1 _ _ (by rfl) (by first|exact Or.inl rfl|exact Or.inr (Or.inl rfl)|exact Or.inr (Or.inr rfl)) (by decide) (by decide))) (@Ų _ _ _ _ _ (@Ě _ _ _ _ _ (@œ _ _ _ _ _ _ _ _ _ _ _ (@ļ _) (@Ļ _) (@ą _ _ _ 1 _ _ (by rfl) (by first|exact Or.inl rfl|exact Or.inr (Or.inl rfl)|exact Or.inr (Or.inr rfl)) (by decide) (by decide)) (@Ą _ _ _ _ _ (@Ć _ _ _ _ _ _)))))))) (@Į _ _ _) (by exact Ā rfl))) (fun _ _ _ h=> @Ű _ _ _ _ _ _ (@jw _) _ _ _ h))) ⟨rfl,⟨rfl,Or.inl rfl⟩,trivial⟩))) (@Ķ _ _ _)) (@Ċ _ _ _ _ _ _ _ (@ů _ _ _ _ _ _ _ _ _ _ (@ŋ _ _ _ _ _ _ _ _ _ _ _ (@Ō _) (@ĳ _ hu) (@ą _ _ _ 0 _ _ (by rfl) (by first|exact Or.inl rfl|exact Or.inr (Or.inl rfl)|exact Or.inr (Or.inr rfl)) (by decide) (by decide)) (@Ą _ _ _ _ _ (@ŏ _ _ _ _ _ _)) (ĩ _)) (@Ċ _ _ _ _ _ _ _ (@fO _ _ _ _ _ _ _ _ (@v_var _ _ _ 1 _ _ (by rfl) (by first|exact Or.inl rfl|exact Or.inr (Or.inl rfl)|exact Or.inr (Or.inr rfl)) (by decide) (by decide)) (@fY _ _ _ _ _ _ _ rfl (@Ĩ _ _ _ _ _ _ (@ě _ _ _ 7 _ ř.nd rfl (Or.inl rfl) (by first|exact .inl rfl|exact .inr rfl|assumption)) (@Ĩ _ _ _ _ _ _ (@ě _ _ _ 8 _ ř.nd rfl (Or.inl rfl) (by first|exact .inl rfl|exact .inr rfl|assumption)) (@Ĩ _ _ _ _ _ _ (@ě _ _ _ 6 _ ř.nd rfl (Or.inl rfl) (by first|exact .inl rfl|exact .inr rfl|assumption)) (@aN _ _) (by rfl)) (by rfl)) (by rfl)) (by rfl) (by rfl)) (by rfl) (by rfl) (by rfl)) (@đ _ _ _ _ _ (@ħ _ _ _ _ _ _ (@Ĝ _ _ _ _ _ _ _ _ _ _ _ _ _ _ _ _ (BR T) ĉ (hr.mono (by decide)) rfl T.dw T.uY.kp T.Gm (@İ _ _ _ _ _ _ _ _ _ _ _ _ _ _ _) (@ę _ _ _ _ _ _ _ (@ŏ _ _ _ _ _ _) (@ę _ _ _ _ _ _ _ (@Ě _ _ _ _ _ (@ŧ _ _ _ _ _ _ (@Ă _ _ _ _ _ _ _ (@Ħ _ _ _ _ _ _ _ _ _ _ _ (@aP _) (@aL _) (@Ą _ _ _ _ _ (@Ħ _ _ _ _ _ _ _ _ _ _ _ (@bf _) (@ż _) (@Ą _ _ _ _ _ (@Ć _ _ _ _ _ _)) (@ą _ _ _ 7 _ _ (by rfl) (by first|exact Or.inl rfl|exact Or.inr (Or.inl rfl)|exact Or.inr (Or.inr rfl)) (by decide) (by decide)))) (@Ą _ _ _ _ _ (@Ć _ _ _ _ _ _))) (@Ă _ _ _ _ _ _ _ (@Ħ _ _ _ _ _ _ _ _ _ _ _ (@aP _) (@aL _) (@Ą _ _ _ _ _ (@Ħ _ _ _ _ _ _ _ _ _ _ _ (@bf _) (@ż _) (@Ą _ _ _ _ _ (@Ć _ _ _ _ _ _)) (@ą _ _ _ 8 _ _ (by rfl) (by first|exact Or.inl rfl|exact Or.inr (Or.inl rfl)|exact Or.inr (Or.inr rfl)) (by decide) (by decide)))) (@Ą _ _ _ _ _ (@Ć _ _ _ _ _ _))) (@Ă _ _ _ _ _ _ _ (@Ě _ _ _ _ _ (@œ _ _ _ _ _ _ _ _ _ _ _ (@ļ _) (@Ļ _) (@Ą _ _ _ _ _ (@Ħ _ _ _ _ _ _ _ _ _ _ _ (@bf _) (@ż _) (@Ą _ _ _ _ _ (@Ć _ _ _ _ _ _)) (@ą _ _ _ 7 _ _ (by rfl) (by first|exact Or.inl rfl|exact Or.inr (Or.inl rfl)|exact Or.inr (Or.inr rfl)) (by decide) (by decide)))) (@Ą _ _ _ _ _ (@Ć _ _ _ _ _ _)))) (@Ă _ _ _ _ _ _ _ (@Ě _ _ _ _ _ (@œ _ _ _ _ _ _ _ _ _ _ _ (@ļ _) (@Ļ _) (@Ą _ _ _ _ _ (@Ħ _ _ _ _ _ _ _ _ _ _ _ (@bf _) (@ż _) (@Ą _ _ _ _ _ (@Ć _ _ _ _ _ _)) (@ą _ _ _ 8 _ _ (by rfl) (by first|exact Or.inl rfl|exact Or.inr (Or.inl rfl)|exact Or.inr (Or.inr rfl)) (by decide) (by decide)))) (@Ą _ _ _ _ _ (@Ć _ _ _ _ _ _)))) (@Ă _ _ _ _ _ _ _ (@v_var _ _ _ 6 _ _ (by rfl) (by first|exact Or.inl rfl|exact Or.inr (Or.inl rfl)|exact Or.inr (Or.inr rfl)) (by decide) (by decide)) (@ġ _ _ _) (by exact Ā rfl)) (by exact Ā rfl)) (by exact Ā rfl)) (by exact Ā rfl)) (by exact Ā rfl)))) (@ĕ _ _ _) (by exact Ā rfl)) (by exact Ā rfl)) (by decide) (by exact Ā rfl) (by rfl))))) (@Ķ _ _ _)) (@Ċ _ _ _ _ _ _ _ (@fO _ _ _ _ _ _ _ _ (@v_var _ _ _ 1 _ _ (by rfl) (by first|exact Or.inl rfl|exact Or.inr (Or.inl rfl)|exact Or.inr (Or.inr rfl)) (by decide) (by decide)) (@fY _ _ _ _ _ _ _ rfl (@Ĩ _ _ _ _ _ _ (@ě _ _ _ 2 _ ř.nd rfl (Or.inl rfl) (by first|exact .inl rfl|exact .inr rfl|assumption)) (@Ĩ _ _ _ _ _ _ (@ě _ _ _ 3 _ ř.nd rfl (Or.inl rfl) (by first|exact .inl rfl|exact .inr rfl|assumption)) (@Ĩ _ _ _ _ _ _ (@ě _ _ _ 4 _ ř.nd rfl (Or.inl rfl) (by first|exact .inl rfl|exact .inr rfl|assumption)) (@Ĩ _ _ _ _ _ _ (@ě _ _ _ 5 _ ř.nd rfl (Or.inl rfl) (by first|exact .inl rfl|exact .inr rfl|assumption)) (@Ĩ _ _ _ _ _ _ (@ě _ _ _ 6 _ ř.nd rfl (Or.inl rfl) (by first|exact .inl rfl|exact .inr rfl|assumption)) (@aN _ _) (by rfl)) (by rfl)) (by rfl)) (by rfl)) (by rfl)) (by rfl) (by rfl)) (by rfl) (by rfl) (by rfl)) (@Ċ _ _ _ _ _ _ _ (@ů _ _ _ _ _ _ _ _ _ _ (@ŋ _ _ _ _ _ _ _ _ _ _ _ (@Ō _) (@ĳ _ hu) (@ą _ _ _ 0 _ _ (by rfl) (by first|exact Or.inl rfl|exact Or.inr (Or.inl rfl)|exact Or.inr (Or.inr rfl)) (by decide) (by decide)) (@Ą _ _ _ _ _ (@ŏ _ _ _ _ _ _)) (ĩ _)) (@đ _ _ _ _ _ (@ħ _ _ _ _ _ _ (@ŧ _ _ _ _ _ _ (@Ă _ _ _ _ _ _ _ (@ņ _ _ _ _ _ _ _ (@Ă _ _ _ _ _ _ _ (@v_var _ _ _ 2 _ _ (by rfl) (by first|exact Or.inl rfl|exact Or.inr (Or.inl rfl)|exact Or.inr (Or.inr rfl)) (by decide) (by decide)) (@Ă _ _ _ _ _ _ _ (@v_var _ _ _ 3 _ _ (by rfl) (by first|exact Or.inl rfl|exact Or.inr (Or.inl rfl)|exact Or.inr (Or.inr rfl)) (by decide) (by decide)) (@Ă _ _ _ _ _ _ _ (@Ć _ _ _ _ _ _) (@ġ _ _ _) (by exact Ā rfl)) (by exact Ā rfl)) (by exact Ā rfl))) (@Ă _ _ _ _ _ _ _ (@ņ _ _ _ _ _ _ _ (@Ă _ _ _ _ _ _ _ (@v_var _ _ _ 4 _ _ (by rfl) (by first|exact Or.inl rfl|exact Or.inr (Or.inl rfl)|exact Or.inr (Or.inr rfl)) (by decide) (by decide)) (@Ă _ _ _ _ _ _ _ (@v_var _ _ _ 5 _ _ (by rfl) (by first|exact Or.inl rfl|exact Or.inr (Or.inl rfl)|exact Or.inr (Or.inr rfl)) (by decide) (by decide)) (@Ă _ _ _ _ _ _ _ (@Ć _ _ _ _ _ _) (@ġ _ _ _) (by exact Ā rfl)) (by exact Ā rfl)) (by exact Ā rfl))) (@Ă _ _ _ _ _ _ _ (@ņ _ _ _ _ _ _ _ (@Ă _ _ _ _ _ _ _ (@v_var _ _ _ 4 _ _ (by rfl) (by first|exact Or.inl rfl|exact Or.inr (Or.inl rfl)|exact Or.inr (Or.inr rfl)) (by decide) (by decide)) (@Ă _ _ _ _ _ _ _ (@v_var _ _ _ 5 _ _ (by rfl) (by first|exact Or.inl rfl|exact Or.inr (Or.inl rfl)|exact Or.inr (Or.inr rfl)) (by decide) (by decide)) (@Ă _ _ _ _ _ _ _ (@v_var _ _ _ 6 _ _ (by rfl) (by first|exact Or.inl rfl|exact Or.inr (Or.inl rfl)|exact Or.inr (Or.inr rfl)) (by decide) (by decide)) (@ġ _ _ _) (by exact Ā rfl)) (by exact Ā rfl)) (by exact Ā rfl))) (@Ă _ _ _ _ _ _ _ (@ņ _ _ _ _ _ _ _ (@Ă _ _ _ _ _ _ _ (@v_var _ _ _ 2 _ _ (by rfl) (by first|exact Or.inl rfl|exact Or.inr (Or.inl rfl)|exact Or.inr (Or.inr rfl)) (by decide) (by decide)) (@Ă _ _ _ _ _ _ _ (@v_var _ _ _ 3 _ _ (by rfl) (by first|exact Or.inl rfl|exact Or.inr (Or.inl rfl)|exact Or.inr (Or.inr rfl)) (by decide) (by decide)) (@Ă _ _ _ _ _ _ _ (@v_var _ _ _ 6 _ _ (by rfl) (by first|exact Or.inl rfl|exact Or.inr (Or.inl rfl)|exact Or.inr (Or.inr rfl)) (by decide) (by decide)) (@ġ _ _ _) (by exact Ā rfl)) (by exact Ā rfl)) (by exact Ā rfl))) (@ġ _ _ _) (by exact Ā rfl)) (by exact Ā rfl)) (by exact Ā rfl)) (by exact Ā rfl))))) (@Ķ _ _ _)) (@Ċ _ _ _ _ _ _ _ (@ů _ _ _ _ _ _ _ _ _ _ (@ŋ _ _ _ _ _ _ _ _ _ _ _ (@Ō _) (@ĳ _ hu) (@ą _ _ _ 0 _ _ (by rfl) (by first|exact Or.inl rfl|exact Or.inr (Or.inl rfl)|exact Or.inr (Or.inr rfl)) (by decide) (by decide)) (@Ą _ _ _ _ _ (@ŏ _ _ _ _ _ _)) (ĩ _)) (@đ _ _ _ _ _ (@ħ _ _ _ _ _ _ (@Ĝ _ _ _ _ _ _ _ _ _ _ _ _ _ _ _ _ (gP T) ĉ (hr.mono (by decide)) rfl T.aA T.jW.kp T.mQ (@İ _ _ _ _ _ _ _ _ _ _ _ _ _ _ _) (@ć _ _ _ _ _ 2 _ _ (by rfl) (by first|exact Or.inl rfl|exact Or.inr (Or.inl rfl)|exact Or.inr (Or.inr rfl)) (by decide) (by decide) (@ć _ _ _ _ _ 3 _ _ (by rfl) (by first|exact Or.inl rfl|exact Or.inr (Or.inl rfl)|exact Or.inr (Or.inr rfl)) (by decide) (by decide) (@ć _ _ _ _ _ 4 _ _ (by rfl) (by first|exact Or.inl rfl|exact Or.inr (Or.inl rfl)|exact Or.inr (Or.inr rfl)) (by decide) (by decide) (@ć _ _ _ _ _ 5 _ _ (by rfl) (by first|exact Or.inl rfl|exact Or.inr (Or.inl rfl)|exact Or.inr (Or.inr rfl)) (by decide) (by decide) (@ć _ _ _ _ _ 6 _ _ (by rfl) (by first|exact Or.inl rfl|exact Or.inr (Or.inl rfl)|exact Or.inr (Or.inr rfl)) (by decide) (by decide) (@ĕ _ _ _) (by exact Ā rfl)) (by exact Ā rfl)) (by exact Ā rfl)) (by exact Ā rfl)) (by exact Ā rfl)) (by decide) (by exact Ā rfl) (by rfl)))) (@Ķ _ _ _)) (@đ _ _ _ _ _ (@ħ _ _ _ _ _ _ (@œ _ _ _ _ _ _ _ _ _ _ _ (@ļ _) (@Ļ _) (@Ą _ _ _ _ _ (@Ě _ _ _ _ _ (@Ĝ _ _ _ _ _ _ _ _ _ _ _ _ _ _ _ _ (gP T) ĉ (hr.mono (by decide)) rfl T.aA T.jW.kp T.mQ (@İ _ _ _ _ _ _ _ _ _ _ _ _ _ _ _) (@ć _ _ _ _ _ 2 _ _ (by rfl) (by first|exact Or.inl rfl|exact Or.inr (Or.inl rfl)|exact Or.inr (Or.inr rfl)) (by decide) (by decide) (@ć _ _ _ _ _ 3 _ _ (by rfl) (by first|exact Or.inl rfl|exact Or.inr (Or.inl rfl)|exact Or.inr (Or.inr rfl)) (by decide) (by decide) (@ć _ _ _ _ _ 4 _ _ (by rfl) (by first|exact Or.inl rfl|exact Or.inr (Or.inl rfl)|exact Or.inr (Or.inr rfl)) (by decide) (by decide) (@ć _ _ _ _ _ 5 _ _ (by rfl) (by first|exact Or.inl rfl|exact Or.inr (Or.inl rfl)|exact Or.inr (Or.inr rfl)) (by decide) (by decide) (@ę _ _ _ _ _ _ _ (@Ć _ _ _ _ _ _) (@ĕ _ _ _) (by exact Ā rfl)) (by exact Ā rfl)) (by exact Ā rfl)) (by exact Ā rfl)) (by exact Ā rfl)) (by decide) (by exact Ā rfl) (by rfl)))) (@Ą _ _ _ _ _ (@Ě _ _ _ _ _ (@Ĝ _ _ _ _ _ _ _ _ _ _ _ _ _ _ _ _ (gP T) ĉ (hr.mono (by decide)) rfl T.aA T.jW.kp T.mQ (@İ _ _ _ _ _ _ _ _ _ _ _ _ _ _ _) (@ć _ _ _ _ _ 2 _ _ (by rfl) (by first|exact Or.inl rfl|exact Or.inr (Or.inl rfl)|exact Or.inr (Or.inr rfl)) (by decide) (by decide) (@ć _ _ _ _ _ 3 _ _ (by rfl) (by first|exact Or.inl rfl|exact Or.inr (Or.inl rfl)|exact Or.inr (Or.inr rfl)) (by decide) (by decide) (@ć _ _ _ _ _ 4 _ _ (by rfl) (by first|exact Or.inl rfl|exact Or.inr (Or.inl rfl)|exact Or.inr (Or.inr rfl)) (by decide) (by decide) (@ć _ _ _ _ _ 5 _ _ (by rfl) (by first|exact Or.inl rfl|exact Or.inr (Or.inl rfl)|exact Or.inr (Or.inr rfl)) (by decide) (by decide) (@ć _ _ _ _ _ 6 _ _ (by rfl) (by first|exact Or.inl rfl|exact Or.inr (Or.inl rfl)|exact Or.inr (Or.inr rfl)) (by decide) (by decide) (@ĕ _ _ _) (by exact Ā rfl)) (by exact Ā rfl)) (by exact Ā rfl)) (by exact Ā rfl)) (by exact Ā rfl)) (by decide) (by exact Ā rfl) (by rfl))))))))))))
theorem KH(T:Tx K mg a):ľ P w K mg base (aY P w) 5 a.Ba a.Bb ["_law_script"] (bU ⟨K,Ĳ a⟩ 1 jV):=by
 refine gn (cm:=Ĳ a) (mb:=sG) T.QB cg rfl rfl rfl fun cdv A outer s H E hr=>?_
 have hu:=hr.units
 exact(@Ċ _ _ _ _ _ _ _ (@ſ _ _ _ _ _ _ 1 _ _ cg.nd rfl (Or.inl rfl) (@ŧ _ _ _ _ _ _ (@Ă _ _ _ _ _ _ _ (@Ě _ _ _ _ _ (@Ĝ _ _ _ _ _ _ _ _ _ _ _ _ _ _ _ _ (Bw T) ĉ (hr.mono (by decide)) rfl T.aR T.Bg.kp T.Gd (@İ _ _ _ _ _ _ _ _ _ _ _ _ _ _ _) (@ć _ _ _ _ _ 0 _ _ (by rfl) (by first|exact Or.inl rfl|exact Or.inr (Or.inl rfl)|exact Or.inr (Or.inr rfl)) (by decide) (by decide) (@ę _ _ _ _ _ _ _ (@Ć _ _ _ _ _ _) (@ĕ _ _ _) (by exact Ā rfl)) (by exact Ā rfl)) (by decide) (by exact Ā rfl) (by rfl))) (@Ă _ _ _ _ _ _ _ (@Ě _ _ _ _ _ (@Ĝ _ _ _ _ _ _ _ _ _ _ _ _ _ _ _ _ (Bw T) ĉ (hr.mono (by decide)) rfl T.aR T.Bg.kp T.Gd (@İ _ _ _ _ _ _ _ _ _ _ _ _ _ _ _) (@ć _ _ _ _ _ 0 _ _ (by rfl) (by first|exact Or.inl rfl|exact Or.inr (Or.inl rfl)|exact Or.inr (Or.inr rfl)) (by decide) (by decide) (@ę _ _ _ _ _ _ _ (@Ć _ _ _ _ _ _) (@ĕ _ _ _) (by exact Ā rfl)) (by exact Ā rfl)) (by decide) (by exact Ā rfl) (by rfl))) (@ġ _ _ _) (by exact Ā rfl)) (by exact Ā rfl))) (by rfl) (by first|exact .inl rfl|exact .inr rfl|assumption)) (@Ċ _ _ _ _ _ _ _ (@Em _ _ _ _ _ _ _ _ _ _ _ _ _ 2 _ _ _ cg.nd rfl rfl ["_law_word","_law_numbers"] [] 2 (Ĉ dg) rfl rfl (@jk _ _ _ _ 1 _ _ (by rfl) (by first|exact Or.inl rfl|exact Or.inr (Or.inl rfl)|exact Or.inr (Or.inr rfl)) (by decide) (by decide)) (fun _ _ _ _ _=>(@Fx _ _ _ _ _ _ _ rfl (@Ĩ _ _ _ _ _ _ (@ě _ _ _ 0 _ (show(["_law_word","_law_numbers"]:List Str).Nodup by decide +kernel) rfl (Or.inl rfl) (Or.inr rfl)) (@Ĩ _ _ _ _ _ _ (@ě _ _ _ 1 _ (show(["_law_word","_law_numbers"]:List Str).Nodup by decide +kernel) rfl (Or.inl rfl) (Or.inr rfl)) (@aN _ _) (by rfl)) (by rfl)) (by rfl) (by rfl))) (fun _ _ _ _ _=>(@ű _ _ _)) (fun _ _ _ _ _=>(@PE.wk _ _ _ _ (ŕ dG (by rfl) T.fu PyProof.Rows.boot_list (@ē _ _ _ _ _ _ _ (@ą _ _ _ 1 _ _ (by rfl) (by first|exact Or.inl rfl|exact Or.inr (Or.inl rfl)|exact Or.inr (Or.inr rfl)) (by decide) (by decide)) (@Į _ _ _) (by exact Ā rfl))) (fun _ _ _ h=> @vP _ _ _ _ _ _ (@dH _) _ _ _ h))) trivial (by rfl) (by rfl) (by decide +kernel) (by decide +kernel) (by decide +kernel) (by intro _;rfl) (by rfl)) (@Ċ _ _ _ _ _ _ _ (@ſ _ _ _ _ _ _ 3 _ _ cg.nd rfl (Or.inl rfl) (@ŧ _ _ _ _ _ _ (@Ă _ _ _ _ _ _ _ (@Ě _ _ _ _ _ (@Ĝ _ _ _ _ _ _ _ _ _ _ _ _ _ _ _ _ (BL T) ĉ (hr.mono (by decide)) rfl T.bJ T.Bl.kp T.Gi (@İ _ _ _ _ _ _ _ _ _ _ _ _ _ _ _) (@ę _ _ _ _ _ _ _ (@ń _ _ _ _ _ _ _ _ _ _ (@Ĭ _) (@ī _) (@Ą _ _ _ _ _ (@ń _ _ _ _ _ _ _ _ _ _ (@Ĭ _) (@ī _) (@ą _ _ _ 1 _ _ (by rfl) (by first|exact Or.inl rfl|exact Or.inr (Or.inl rfl)|exact Or.inr (Or.inr rfl)) (by decide) (by decide)) (@Ą _ _ _ _ _ (@Ć _ _ _ _ _ _)) (fun _ _=>rfl))) (@Ą _ _ _ _ _ (@Ć _ _ _ _ _ _)) (fun _ _=>rfl)) (@uP _ _ _ _ _ 2 0 _ _ _ _ _ (by rfl) (by first|exact Or.inl rfl|exact Or.inr (Or.inl rfl)|exact Or.inr (Or.inr rfl)) (by decide) (by decide) (@ĕ _ _ _) (by exact Ā rfl)) (by exact Ā rfl)) (by decide) (by exact Ā rfl) (by rfl))) (@Ă _ _ _ _ _ _ _ (@Ě _ _ _ _ _ (@Ĝ _ _ _ _ _ _ _ _ _ _ _ _ _ _ _ _ (BL T) ĉ (hr.mono (by decide)) rfl T.bJ T.Bl.kp T.Gi (@İ _ _ _ _ _ _ _ _ _ _ _ _ _ _ _) (@ę _ _ _ _ _ _ _ (@ń _ _ _ _ _ _ _ _ _ _ (@Ĭ _) (@ī _) (@Ą _ _ _ _ _ (@ń _ _ _ _ _ _ _ _ _ _ (@Ĭ _) (@ī _) (@ą _ _ _ 1 _ _ (by rfl) (by first|exact Or.inl rfl|exact Or.inr (Or.inl rfl)|exact Or.inr (Or.inr rfl)) (by decide) (by decide)) (@Ą _ _ _ _ _ (@Ć _ _ _ _ _ _)) (fun _ _=>rfl))) (@Ą _ _ _ _ _ (@Ć _ _ _ _ _ _)) (fun _ _=>rfl)) (@uP _ _ _ _ _ 2 1 _ _ _ _ _ (by rfl) (by first|exact Or.inl rfl|exact Or.inr (Or.inl rfl)|exact Or.inr (Or.inr rfl)) (by decide) (by decide) (@ĕ _ _ _) (by exact Ā rfl)) (by exact Ā rfl)) (by decide) (by exact Ā rfl) (by rfl))) (@ġ _ _ _) (by exact Ā rfl)) (by exact Ā rfl))) (by rfl) (by first|exact .inl rfl|exact .inr rfl|assumption)) (@Ċ _ _ _ _ _ _ _ (@yh _ _ _ _ _ _ _ _ _ _ PassesOwn.leaving rfl (@cT _ _ _ _ _ _ (@Ě _ _ _ _ _ (@ŧ _ _ _ _ _ _ (@Ă _ _ _ _ _ _ _ (@Ć _ _ _ _ _ _) (@Ă _ _ _ _ _ _ _ (@Ć _ _ _ _ _ _) (@Ă _ _ _ _ _ _ _ (@Ć _ _ _ _ _ _) (@Ă _ _ _ _ _ _ _ (@Ć _ _ _ _ _ _) (@ġ _ _ _) (by exact Ā rfl)) (by exact Ā rfl)) (by exact Ā rfl)) (by exact Ā rfl))))) (@ě _ _ _ 4 _ cg.nd rfl (Or.inl rfl) (by first|exact .inl rfl|exact .inr rfl|assumption)) (@Ċ _ _ _ _ _ _ _ (@fO _ _ _ _ _ _ _ _ (@ń _ _ _ _ _ _ _ _ _ _ (@Ĭ _) (@ī _) (@ą _ _ _ 1 _ _ (by rfl) (by first|exact Or.inl rfl|exact Or.inr (Or.inl rfl)|exact Or.inr (Or.inr rfl)) (by decide) (by decide)) (@ą _ _ _ 4 _ _ (by rfl) (by first|exact Or.inl rfl|exact Or.inr (Or.inl rfl)|exact Or.inr (Or.inr rfl)) (by decide) (by decide)) (fun _ _=>rfl)) (@fY _ _ _ _ _ _ _ rfl (@Ĩ _ _ _ _ _ _ (@ě _ _ _ 7 _ cg.nd rfl (Or.inl rfl) (by first|exact .inl rfl|exact .inr rfl|assumption)) (@Ĩ _ _ _ _ _ _ (@ě _ _ _ 8 _ cg.nd rfl (Or.inl rfl) (by first|exact .inl rfl|exact .inr rfl|assumption)) (@aN _ _) (by rfl)) (by rfl)) (by rfl) (by rfl)) (by rfl) (by rfl) (by rfl)) (@Ċ _ _ _ _ _ _ _ (@ſ _ _ _ _ _ _ 5 _ _ cg.nd rfl (Or.inl rfl) (@ō _ _ _ _ _ (@Pn _ _ _ _ _ _ _ _ _ _ _ _ _ _ PySem.F.plainAttrs_str PySem.F.slot_str_join PySem.F.type_str_join (@uL _) (@tU _) (@Ą _ _ _ _ _ (@ŏ _ _ _ _ _ _)) (@ē _ _ _ _ _ _ _ (@Ą _ _ _ _ _ (@Ě _ _ _ _ _ (@œ _ _ _ _ _ _ _ _ _ _ _ (@ļ _) (@Ļ _) (@Ą _ _ _ _ _ (@Ě _ _ _ _ _ (@ŧ _ _ _ _ _ _ (@Ă _ _ _ _ _ _ _ (@v_var _ _ _ 7 _ _ (by rfl) (by first|exact Or.inl rfl|exact Or.inr (Or.inl rfl)|exact Or.inr (Or.inr rfl)) (by decide) (by decide)) (@ġ _ _ _) (by exact Ā rfl))))) (@Ą _ _ _ _ _ (@Ě _ _ _ _ _ (aO ["_law_number"] [] 1 (Ĉ dg) rfl rfl (@jk _ _ _ _ 8 _ _ (by rfl) (by first|exact Or.inl rfl|exact Or.inr (Or.inl rfl)|exact Or.inr (Or.inr rfl)) (by decide) (by decide)) (fun _ _ _ _ _=>(@ě _ _ _ 0 _ (show(["_law_number"]:List Str).Nodup by decide +kernel) rfl (Or.inl rfl) (Or.inr rfl))) (fun _ _ _ _ _=>(@ű _ _ _)) (fun _ _ _ _ _=>(@PE.wk _ _ _ _ (ŕ yX (by rfl) T.Gu PyProof.Rows.boot_str (@ē _ _ _ _ _ _ _ (@ą _ _ _ 0 _ _ (by rfl) (by first|exact Or.inl rfl|exact Or.inr (Or.inl rfl)|exact Or.inr (Or.inr rfl)) (by decide) (by decide)) (@Į _ _ _) (by exact Ā rfl))) (fun _ _ _ h=> @Ű _ _ _ _ _ _ (@yZ _) _ _ _ h))) trivial)))))) (@Į _ _ _) (by exact Ā rfl)) (by rfl) (by rfl) (by rfl) (by exact Ā rfl) (by rfl))) (by rfl) (by first|exact .inl rfl|exact .inr rfl|assumption)) (@Ċ _ _ _ _ _ _ _ (@ſ _ _ _ _ _ _ 6 _ _ cg.nd rfl (Or.inl rfl) (@uF _ _ _ _ _ _ _ _ 3 1 "corners" [("Post",oG),("Fence",oH),("Sail",fZ),("Cloth",oJ),("House",oK)] _ ⟨⟨T.ő,_,_,_,T.jX,(QT T).mono (by decide),T.Zbk,ĉ⟩,⟨⟨T.Ŀ,_,_,_,T.iG,(QV T).mono (by decide),T.Zbm,ĉ⟩,⟨⟨T.Œ,_,_,_,T.jY,(Ky T).mono (by decide),T.Qw,ĉ⟩,⟨⟨T.ŀ,_,_,_,T.iH,(QW T).mono (by decide),T.Zbo,ĉ⟩,⟨⟨T.Ł,_,_,_,T.iI,(QX T).mono (by decide),T.Zbq,ĉ⟩,trivial⟩⟩⟩⟩⟩ (hr.mono (by decide)) (@İ _ _ _ _ _ _ _ _ _ _ _ _ _ _ _) (@ń _ _ _ _ _ _ _ _ _ _ (@Ĭ _) (@ī _) (@ą _ _ _ 3 _ _ (by rfl) (by first|exact Or.inl rfl|exact Or.inr (Or.inl rfl)|exact Or.inr (Or.inr rfl)) (by decide) (by decide)) (@ą _ _ _ 4 _ _ (by rfl) (by first|exact Or.inl rfl|exact Or.inr (Or.inl rfl)|exact Or.inr (Or.inr rfl)) (by decide) (by decide)) (fun _ _=>rfl)) (by rfl)) (by rfl) (by first|exact .inl rfl|exact .inr rfl|assumption)) (@Ċ _ _ _ _ _ _ _ (@ů _ _ _ _ _ _ _ _ _ _ (@PW.pt _ _ _ (@w_or _ _ _ _ _ _ _ _ _ (@pD _ _ _ _ _ _ (@dY _ _ _ _ _ (@Ą _ _ _ _ _ (@Ě _ _ _ _ _ (@Ĝ _ _ _ _ _ _ _ _ _ _ _ _ _ _ _ _ (Kz T) ĉ (hr.mono (by decide)) rfl T.jT T.Gj.kp T.Qx (@İ _ _ _ _ _ _ _ _ _ _ _ _ _ _ _) (@ę _ _ _ _ _ _ _ (@ń _ _ _ _ _ _ _ _ _ _ (@Ĭ _) (@ī _) (@ą _ _ _ 3 _ _ (by rfl) (by first|exact Or.inl rfl|exact Or.inr (Or.inl rfl)|exact Or.inr (Or.inr rfl)) (by decide) (by decide)) (@ą _ _ _ 4 _ _ (by rfl) (by first|exact Or.inl rfl|exact Or.inr (Or.inl rfl)|exact Or.inr (Or.inr rfl)) (by decide) (by decide)) (fun _ _=>rfl)) (@ć _ _ _ _ _ 7 _ _ (by rfl) (by first|exact Or.inl rfl|exact Or.inr (Or.inl rfl)|exact Or.inr (Or.inr rfl)) (by decide) (by decide) (@ĕ _ _ _) (by exact Ā rfl)) (by exact Ā rfl)) (by decide) (by exact Ā rfl) (by rfl)))) (by intro _;rfl))) (@uf _ _ _ _ _ _ (@pD _ _ _ _ _ _ (@dY _ _ _ _ _ (@Ą _ _ _ _ _ (@Ě _ _ _ _ _ (@Ĝ _ _ _ _ _ _ _ _ _ _ _ _ _ _ _ _ (KC T) ĉ (hr.mono (by decide)) rfl T.mK T.Gk.kp T.Qy (@İ _ _ _ _ _ _ _ _ _ _ _ _ _ _ _) (@ć _ _ _ _ _ 6 _ _ (by rfl) (by first|exact Or.inl rfl|exact Or.inr (Or.inl rfl)|exact Or.inr (Or.inr rfl)) (by decide) (by decide) (@ę _ _ _ _ _ _ _ (@Ě _ _ _ _ _ (@Ĝ _ _ _ _ _ _ _ _ _ _ _ _ _ _ _ _ (KD T) ĉ (hr.mono (by decide)) rfl T.dw T.uY.kp T.Gm (@İ _ _ _ _ _ _ _ _ _ _ _ _ _ _ _) (@ć _ _ _ _ _ 7 _ _ (by rfl) (by first|exact Or.inl rfl|exact Or.inr (Or.inl rfl)|exact Or.inr (Or.inr rfl)) (by decide) (by decide) (@ć _ _ _ _ _ 8 _ _ (by rfl) (by first|exact Or.inl rfl|exact Or.inr (Or.inl rfl)|exact Or.inr (Or.inr rfl)) (by decide) (by decide) (@ĕ _ _ _) (by exact Ā rfl)) (by exact Ā rfl)) (by decide) (by exact Ā rfl) (by rfl))) (@ĕ _ _ _) (by exact Ā rfl)) (by exact Ā rfl)) (by decide) (by exact Ā rfl) (by rfl)))) (by intro _;rfl)))))) (@đ _ _ _ _ _ (@ħ _ _ _ _ _ _ (@ō _ _ _ _ _ (@vM _ _ _ _ _ _)))) (@Ķ _ _ _)) (@Ċ _ _ _ _ _ _ _ (@ů _ _ _ _ _ _ _ _ _ _ (@En _ _ _ _ _ 2 (@PW.pt _ _ _ (@w_or _ _ _ _ _ _ _ _ _ (@ŋ _ _ _ _ _ _ _ _ _ _ _ (@lR _) (@gD _ hu) (@Ą _ _ _ _ _ (@Ě _ _ _ _ _ (@uF _ _ _ _ _ _ _ _ 1 1 "shown" [("Thing",Ň),("Post",Ň),("Fence",Ň),("Sail",Ň),("Cloth",Ň),("House",Ň)] _ ⟨⟨T.ň,_,_,_,T.lg,(gO T).mono (by decide),T.mO,ĉ⟩,⟨⟨T.ő,_,_,_,T.oN,(gO T).mono (by decide),T.mO,ĉ⟩,⟨⟨T.Ŀ,_,_,_,T.lq,(gO T).mono (by decide),T.mO,ĉ⟩,⟨⟨T.Œ,_,_,_,T.oO,(gO T).mono (by decide),T.mO,ĉ⟩,⟨⟨T.ŀ,_,_,_,T.lu,(gO T).mono (by decide),T.mO,ĉ⟩,⟨⟨T.Ł,_,_,_,T.lA,(gO T).mono (by decide),T.mO,ĉ⟩,trivial⟩⟩⟩⟩⟩⟩ (hr.mono (by decide)) (@İ _ _ _ _ _ _ _ _ _ _ _ _ _ _ _) (@ń _ _ _ _ _ _ _ _ _ _ (@Ĭ _) (@ī _) (@ą _ _ _ 3 _ _ (by rfl) (by first|exact Or.inl rfl|exact Or.inr (Or.inl rfl)|exact Or.inr (Or.inr rfl)) (by decide) (by decide)) (@ą _ _ _ 4 _ _ (by rfl) (by first|exact Or.inl rfl|exact Or.inr (Or.inl rfl)|exact Or.inr (Or.inr rfl)) (by decide) (by decide)) (fun _ _=>rfl)) (by rfl)))) (@ą _ _ _ 5 _ _ (by rfl) (by first|exact Or.inl rfl|exact Or.inr (Or.inl rfl)|exact Or.inr (Or.inr rfl)) (by decide) (by decide)) (ĩ _)) (@uf _ _ _ _ _ _ (@ŋ _ _ _ _ _ _ _ _ _ _ _ (@lR _) (@gD _ hu) (@Ą _ _ _ _ _ (@Ě _ _ _ _ _ (@aJ _ _ _ _ _ _ _ _ _ _ _ (@Ą _ _ _ _ _ (@ń _ _ _ _ _ _ _ _ _ _ (@Ĭ _) (@ī _) (@ą _ _ _ 2 _ _ (by rfl) (by first|exact Or.inl rfl|exact Or.inr (Or.inl rfl)|exact Or.inr (Or.inr rfl)) (by decide) (by decide)) (@ą _ _ _ 4 _ _ (by rfl) (by first|exact Or.inl rfl|exact Or.inr (Or.inl rfl)|exact Or.inr (Or.inr rfl)) (by decide) (by decide)) (fun _ _=>rfl))) (@nP _ _ _) (@Ų _ _ _ _ _ (@PE.wk _ _ _ _ (į bN (by rfl) T.gk PySem.boot_len (@ē _ _ _ _ _ _ _ (@ą _ _ _ 8 _ _ (by rfl) (by first|exact Or.inl rfl|exact Or.inr (Or.inl rfl)|exact Or.inr (Or.inr rfl)) (by decide) (by decide)) (@Į _ _ _) (by exact Ā rfl))) (fun _ _ _ h=> @Ű _ _ _ _ _ _ (@b_ _) _ _ _ h)))))) (@ą _ _ _ 8 _ _ (by rfl) (by first|exact Or.inl rfl|exact Or.inr (Or.inl rfl)|exact Or.inr (Or.inr rfl)) (by decide) (by decide)) (ĩ _)))))) (@đ _ _ _ _ _ (@ħ _ _ _ _ _ _ (@ō _ _ _ _ _ (@vM _ _ _ _ _ _)))) (@Ķ _ _ _)) (@Ċ _ _ _ _ _ _ _ (@uh _ _ _ _ _ _ 6 _ _ _ _ _ (@ņ _ _ _ _ _ _ _ (@Ă _ _ _ _ _ _ _ (@Ć _ _ _ _ _ _) (@Ă _ _ _ _ _ _ _ (@Ć _ _ _ _ _ _) (@Ă _ _ _ _ _ _ _ (@Ć _ _ _ _ _ _) (@ġ _ _ _) (by exact Ā rfl)) (by exact Ā rfl)) (by exact Ā rfl))) (@Ć _ _ _ _ _ _) (pv 6) (by intro _;rfl) (by rfl) (by rfl) (by rfl)) (@Ċ _ _ _ _ _ _ _ (@PS.wk _ _ _ _ (sY (xg PySem.F.plainAttrs_list PySem.F.slot_list_append PySem.F.type_list_append dz (pv 6) (@Ă _ _ _ _ _ _ _ (@ņ _ _ _ _ _ _ _ (@Ă _ _ _ _ _ _ _ (@Ć _ _ _ _ _ _) (@Ă _ _ _ _ _ _ _ (@Ć _ _ _ _ _ _) (@Ă _ _ _ _ _ _ _ (@Ć _ _ _ _ _ _) (@ġ _ _ _) (by exact Ā rfl)) (by exact Ā rfl)) (by exact Ā rfl))) (@ġ _ _ _) (by exact Ā rfl)))) (fun _ _ _ h=> @Dr _ _ _ _ _ _ _ _ h)) (@đ _ _ _ _ _ (@PS.wk _ _ _ _ (sY (xg PySem.F.plainAttrs_list PySem.F.slot_list_append PySem.F.type_list_append dz (@wZ _ _ _ _ _ _ _ (@qT _) (pv 2) (pv 4) (fun _ _=>rfl)) (@Ă _ _ _ _ _ _ _ (@Ć _ _ _ _ _ _) (@ġ _ _ _) (by exact Ā rfl)))) (fun _ _ _ h=> @zq _ _ _ _ _ _ _ _ _ h)))))))))) (by intro _;rfl)) (@đ _ _ _ _ _ (@ħ _ _ _ _ _ _ (@ō _ _ _ _ _ (@Eo _ _ _ _ _ 2 (@fM _ _ _ _ _ _ _ _ _ _ _ (@Ō _) (@ĳ _ hu) (@ą _ _ _ 2 _ _ (by rfl) (by first|exact Or.inl rfl|exact Or.inr (Or.inl rfl)|exact Or.inr (Or.inr rfl)) (by decide) (by decide)) (@Ą _ _ _ _ _ (@Ě _ _ _ _ _ (aO ["_law_word","_law_numbers"] [] 2 (Ĉ dg) rfl rfl (@jk _ _ _ _ 1 _ _ (by rfl) (by first|exact Or.inl rfl|exact Or.inr (Or.inl rfl)|exact Or.inr (Or.inr rfl)) (by decide) (by decide)) (fun _ _ _ _ _=>(@Fx _ _ _ _ _ _ _ rfl (@Ĩ _ _ _ _ _ _ (@ě _ _ _ 0 _ (show(["_law_word","_law_numbers"]:List Str).Nodup by decide +kernel) rfl (Or.inl rfl) (Or.inr rfl)) (@Ĩ _ _ _ _ _ _ (@ě _ _ _ 1 _ (show(["_law_word","_law_numbers"]:List Str).Nodup by decide +kernel) rfl (Or.inl rfl) (Or.inr rfl)) (@aN _ _) (by rfl)) (by rfl)) (by rfl) (by rfl))) (fun _ _ _ _ _=>(@ű _ _ _)) (fun _ _ _ _ _=>(@Ě _ _ _ _ _ (@œ _ _ _ _ _ _ _ _ _ _ _ (@ļ _) (@Ļ _) (@ą _ _ _ 1 _ _ (by rfl) (by first|exact Or.inl rfl|exact Or.inr (Or.inl rfl)|exact Or.inr (Or.inr rfl)) (by decide) (by decide)) (@Ą _ _ _ _ _ (@Ě _ _ _ _ _ (@ŧ _ _ _ _ _ _ (@Ă _ _ _ _ _ _ _ (@Ć _ _ _ _ _ _) (@Ă _ _ _ _ _ _ _ (@Ć _ _ _ _ _ _) (@ġ _ _ _) (by exact Ā rfl)) (by exact Ā rfl)))))))) trivial))) (ĩ _))))))))))
end
theorem Zo(ns:List Int)(k:Nat):ũ [.sh (.lst (ns.map .int)),.sh (.int k)]=.ret (.sh (.int (ns.getD k 0))):=by
 by_cases h:k<ns.length
 ·have h':(k:Int)<(ns.length:Int):=by omega
  simp[ũ,nY,List.replicate,h',List.getElem?_eq_getElem h]
 ·have h':¬(k:Int)<(ns.length:Int):=by omega
  simp[ũ,nY,List.replicate,h',List.getElem?_eq_none (Nat.le_of_not_lt h)]
@[simp] theorem Zg(ns:List Int)(k:Nat):ũ [.sh (.lst (ns.map .int)),.sh (.int (no_index (OfNat.ofNat k)))]=.ret (.sh (.int (ns.getD k 0))):=Zo ns k
def Gz(s:P.Slot)(ps:List PV):Prop:=s=.sh (.lst ps)∨s=.bw ps
def Ŵ(x:Int):Bool:=decide (-1000000000≤x∧x≤1000000000)
def wA(x:Int):Bool:=decide (1≤x∧x≤1000000000)
def sW(x:Int):Bool:=decide (0≤x∧x≤1000000000)
theorem Zp(x:Int):aZ [.sh (.int x)]=.ret (.sh (.bl (Ŵ x))):=by
 unfold Ŵ
 by_cases h1: -1000000000≤x<;>by_cases h2:x≤1000000000<;>simp[aZ,rP,List.replicate,h1,h2]
theorem Zt(x:Int):h_ [.sh (.int x)]=.ret (.sh (.bl (wA x))):=by
 unfold wA
 by_cases h1:1≤x<;>by_cases h2:x≤1000000000<;>simp[h_,rQ,List.replicate,h1,h2]
def Za:List Int→Bool
 | [p,q,h]=>Ŵ p && Ŵ q && wA h
 |_=>false
def Zc:List Int→Bool
 | [x,y,u,v,h]=>Ŵ x && Ŵ y && Ŵ u && Ŵ v && wA h
 |_=>false
def Z7:List Int→Bool
 | [x,y,u,v,h]=>Zc [x,y,u,v,h] && !(decide (x=u) && decide (y=v))
 |_=>false
def Z2:List Int→Bool
 | [x,y,u,v,h]=>Zc [x,y,u,v,h] && decide (x<u) && decide (y<v)
 |_=>false
def Z8:List Int→Bool
 | [a,b,c,d,e,f,g,h,i]=>Ŵ a && Ŵ b && sW c && (Ŵ d && Ŵ e && sW f) && (Ŵ g && Ŵ h && sW i)
 |_=>false
theorem Z04(a b c:Bool):pK [.lst [.bl a,.bl b,.bl c]]=some (.bl (a && b && c)):=by cases a<;>cases b<;>cases c<;>rfl
theorem Z05(a b c d:Bool):pK [.lst [.bl a,.bl b,.bl c,.bl d]]=some (.bl (a && b && c && d)):=by cases a<;>cases b<;>cases c<;>cases d<;>rfl
theorem Zv{xs:List Int}{sl:P.Slot}(hs:Gz sl (xs.map .int)):jM [sl]=.ret (.sh (.bl (Za xs))):=by
 by_cases hl:xs.length=3
 ·match xs,hl with
  | [a,b,c],_=>
    have h:Za [a,b,c]=(Ŵ a && Ŵ b && wA c):=rfl
    rw[h]
    rcases hs with rfl|rfl<;>cases ea:Ŵ a<;>cases eb:Ŵ b<;>cases ec:wA c<;>simp[jM,nZ,List.replicate,Zp,Zt,ea,eb,ec]
 ·have h:Za xs=false:=by
   unfold Za
   split
   ·simp at hl
   ·rfl
  rw[h]
  have hl':¬((xs.length:Nat):Int)=3:=by omega
  rcases hs with rfl|rfl<;>simp[jM,nZ,List.replicate,hl']
theorem ZC{xs:List Int}{sl:P.Slot}(hs:Gz sl (xs.map .int)):ou [sl]=.ret (.sh (.bl (Zc xs))):=by
 by_cases hl:xs.length=5
 ·match xs,hl with
  | [a,b,c,d,e],_=>
    have h:Zc [a,b,c,d,e]=(Ŵ a && Ŵ b && Ŵ c && Ŵ d && wA e):=rfl
    rw[h]
    have hc:dO ([.int a,.int b,.int c,.int d,.int e]:List PV) none (some 4)=[.int a,.int b,.int c,.int d]:=rfl
    have hb:=Z05 (Ŵ a) (Ŵ b) (Ŵ c) (Ŵ d)
    rcases hs with rfl|rfl<;>cases ea:(Ŵ a && Ŵ b && Ŵ c && Ŵ d)<;>cases ec:wA e<;>rw[ea] at hb<;>simp[ou,uQ,List.replicate,Zp,Zt,hc,Ŗ,hb,ec]
 ·have h:Zc xs=false:=by
   unfold Zc
   split
   ·simp at hl
   ·rfl
  rw[h]
  have hl':¬((xs.length:Nat):Int)=5:=by omega
  rcases hs with rfl|rfl<;>simp[ou,uQ,List.replicate,hl']
theorem Z06(a b c d:Int):cX (.lst [.int a,.int b]) (.lst [.int c,.int d])=some (.bl (!(decide (a=c) && decide (b=d)))):=by
 have h:eqB (.lst [.int a,.int b]) (.lst [.int c,.int d])=(decide (a=c) && decide (b=d)):=by
  simp[eqB,bZ]
  rw[Bool.eq_iff_iff]
  simp
 unfold cX kW
 rw[h]
 simp[ū,bD,dep,gG]
theorem ZT{xs:List Int}(hl:¬xs.length=5):Zc xs=false:=by
 unfold Zc
 split
 ·simp at hl
 ·rfl
theorem ZE{s:P.Slot}{ps:List PV}(h:Gz s ps):cA s=some s:=by rcases h with rfl|rfl<;>rfl
theorem ZO{xs:List Int}{sl:P.Slot}(hs:Gz sl (xs.map .int)):jQ [sl]=.ret (.sh (.bl (Z7 xs))):=by
 have he:=ZC hs
 by_cases hl:xs.length=5
 ·match xs,hl with
  | [a,b,c,d,e],_=>
    have h:Z7 [a,b,c,d,e]=(Zc [a,b,c,d,e] && !(decide (a=c) && decide (b=d))):=rfl
    rw[h]
    have h1:dO ([.int a,.int b,.int c,.int d,.int e]:List PV) none (some 2)=[.int a,.int b]:=rfl
    have h2:dO ([.int a,.int b,.int c,.int d,.int e]:List PV) (some 2) (some 4)=[.int c,.int d]:=rfl
    have h3:=Z06 a b c d
    generalize Zc [a,b,c,d,e]=q at *
    generalize (!(decide (a=c) && decide (b=d)))=r at *
    rcases hs with rfl|rfl<;>cases q<;>simp_all [jQ,oA,List.replicate]
 ·have h:Z7 xs=false:=by
   unfold Z7
   split
   ·simp at hl
   ·rfl
  rw[h]
  rw[ZT hl] at he
  simp[jQ,oA,List.replicate,ZE hs,he]
theorem ZV{xs:List Int}{sl:P.Slot}(hs:Gz sl (xs.map .int)):oE [sl]=.ret (.sh (.bl (Z2 xs))):=by
 have he:=ZC hs
 by_cases hl:xs.length=5
 ·match xs,hl with
  | [a,b,c,d,e],_=>
    have h:Z2 [a,b,c,d,e]=(Zc [a,b,c,d,e] && decide (a<c) && decide (b<d)):=rfl
    rw[h]
    generalize Zc [a,b,c,d,e]=q at *
    rcases hs with rfl|rfl<;>simp only[List.map_cons,List.map_nil] at he<;>cases q<;>by_cases h1:a<c<;>by_cases h2:b<d<;>simp[oE,uR,List.replicate,he,h1,h2]
 ·have h:Z2 xs=false:=by
   unfold Z2
   split
   ·simp at hl
   ·rfl
  rw[h]
  rw[ZT hl] at he
  simp[oE,uR,List.replicate,ZE hs,he]
theorem Zm(a b c:Int):wg [.sh (.lst [.int a,.int b,.int c])]=.ret (.sh (.bl (Ŵ a && Ŵ b && sW c))):=by
 unfold sW
 cases ea:Ŵ a<;>cases eb:Ŵ b<;>by_cases h1:0≤c<;>by_cases h2:c≤1000000000<;>simp[wg,zK,List.replicate,Zp,ea,eb,h1,h2]
theorem ZP{xs:List Int}{sl:P.Slot}(hs:Gz sl (xs.map .int)):jR [sl]=.ret (.sh (.bl (Z8 xs))):=by
 by_cases hl:xs.length=9
 ·match xs,hl with
  | [a,b,c,d,e,f,g,h,i],_=>
    have hc:Z8 [a,b,c,d,e,f,g,h,i]=((Ŵ a && Ŵ b && sW c) && (Ŵ d && Ŵ e && sW f) && (Ŵ g && Ŵ h && sW i)):=rfl
    rw[hc]
    have h1:dO ([.int a,.int b,.int c,.int d,.int e,.int f,.int g,.int h,.int i]:List PV) (some 0) (some 3)=[.int a,.int b,.int c]:=rfl
    have h2:dO ([.int a,.int b,.int c,.int d,.int e,.int f,.int g,.int h,.int i]:List PV) (some 3) (some 6)=[.int d,.int e,.int f]:=rfl
    have h3:dO ([.int a,.int b,.int c,.int d,.int e,.int f,.int g,.int h,.int i]:List PV) (some 6) (some 9)=[.int g,.int h,.int i]:=rfl
    have hb:=Z04 (Ŵ a && Ŵ b && sW c) (Ŵ d && Ŵ e && sW f) (Ŵ g && Ŵ h && sW i)
    have k1:=Zm a b c
    have k2:=Zm d e f
    have k3:=Zm g h i
    generalize (Ŵ a && Ŵ b && sW c)=q1 at *
    generalize (Ŵ d && Ŵ e && sW f)=q2 at *
    generalize (Ŵ g && Ŵ h && sW i)=q3 at *
    rcases hs with rfl|rfl<;>simp[jR,oF,List.replicate,Ŗ,h1,h2,h3,k1,k2,k3,hb]
 ·have h:Z8 xs=false:=by
   unfold Z8
   split
   ·simp at hl
   ·rfl
  rw[h]
  have hl':¬((xs.length:Nat):Int)=9:=by omega
  rcases hs with rfl|rfl<;>simp[jR,oF,List.replicate,hl']
def Z1(w:Str):String:=if w= "post" then "Post" else if w= "fence" then "Fence" else if w= "sail" then "Sail" else if w= "cloth" then "Cloth" else "House"
def Z0(C:String)(w:Str)(xs:List Int):PV:=.ins C ["word","numbers"] [.str w,.lst (xs.map .int)]
def Zd(w:Str)(xs:List Int):Bool:=if w= "post" then Za xs else if w= "fence" then Z7 xs else if w= "sail" then Z2 xs else if w= "cloth" then Z8 xs else if w= "house" then Z2 xs else false
theorem wn:((Str.ofString "word")=(Str.ofString "numbers"))=False:=eq_false (by decide +kernel)
theorem Zl{C:String}(hC:(["Thing","Post","Fence","Sail","Cloth","House"]:List String).contains C=true)(w:Str){xs:List Int}{sl:P.Slot}(hs:Gz sl (xs.map .int)):cC 3 3 C cG [.sh (.str w),sl]=.ok ["word","numbers"] [.str w,.lst (xs.map .int)]:=by
 rcases hs with rfl|rfl<;>simp[cC,cG,pN,IR.of,List.replicate,putN,rH,hC,wn,-List.contains_eq_mem,-List.contains_cons]
theorem s1:PyData.strOk (Str.ofString "post")=true:=by decide +kernel
theorem s2:PyData.strOk (Str.ofString "fence")=true:=by decide +kernel
theorem s3:PyData.strOk (Str.ofString "sail")=true:=by decide +kernel
theorem s4:PyData.strOk (Str.ofString "cloth")=true:=by decide +kernel
theorem s5:PyData.strOk (Str.ofString "house")=true:=by decide +kernel
theorem d12:(Str.ofString "post" =Str.ofString "fence")=False:=eq_false (by decide +kernel)
theorem d13:(Str.ofString "post" =Str.ofString "sail")=False:=eq_false (by decide +kernel)
theorem d14:(Str.ofString "post" =Str.ofString "cloth")=False:=eq_false (by decide +kernel)
theorem d15:(Str.ofString "post" =Str.ofString "house")=False:=eq_false (by decide +kernel)
theorem QZ:(Str.ofString "fence" =Str.ofString "post")=False:=eq_false (by decide +kernel)
theorem d23:(Str.ofString "fence" =Str.ofString "sail")=False:=eq_false (by decide +kernel)
theorem Q_:(Str.ofString "fence" =Str.ofString "cloth")=False:=eq_false (by decide +kernel)
theorem d25:(Str.ofString "fence" =Str.ofString "house")=False:=eq_false (by decide +kernel)
theorem WM:(Str.ofString "sail" =Str.ofString "post")=False:=eq_false (by decide +kernel)
theorem WQ:(Str.ofString "sail" =Str.ofString "fence")=False:=eq_false (by decide +kernel)
theorem WR:(Str.ofString "sail" =Str.ofString "cloth")=False:=eq_false (by decide +kernel)
theorem d35:(Str.ofString "sail" =Str.ofString "house")=False:=eq_false (by decide +kernel)
theorem WT:(Str.ofString "cloth" =Str.ofString "post")=False:=eq_false (by decide +kernel)
theorem d42:(Str.ofString "cloth" =Str.ofString "fence")=False:=eq_false (by decide +kernel)
theorem d43:(Str.ofString "cloth" =Str.ofString "sail")=False:=eq_false (by decide +kernel)
theorem d45:(Str.ofString "cloth" =Str.ofString "house")=False:=eq_false (by decide +kernel)
theorem Ra:(Str.ofString "house" =Str.ofString "post")=False:=eq_false (by decide +kernel)
theorem Rb:(Str.ofString "house" =Str.ofString "fence")=False:=eq_false (by decide +kernel)
theorem WW:(Str.ofString "house" =Str.ofString "sail")=False:=eq_false (by decide +kernel)
theorem Rf:(Str.ofString "house" =Str.ofString "cloth")=False:=eq_false (by decide +kernel)
theorem Zw{w:Str}(hw:PyData.strOk w=true){xs:List Int}{sl:P.Slot}(hs:Gz sl (xs.map .int)):bJ [.sh (.str w),sl]=if Zd w xs=true then .ret (.sh (Z0 (Z1 w) w xs)) else .exc ⟨"BadThing",[],[]⟩:=by
 have e1:=Ē hw s1
 have e2:=Ē hw s2
 have e3:=Ē hw s3
 have e4:=Ē hw s4
 have e5:=Ē hw s5
 have p1:=Zv hs
 have p2:=ZO hs
 have p3:=ZV hs
 have p4:=ZP hs
 have i1:n_ [.sh (.str w),sl]=_:=Zl (by decide) w hs
 have i2:jN [.sh (.str w),sl]=_:=Zl (by decide) w hs
 have i3:oh [.sh (.str w),sl]=_:=Zl (by decide) w hs
 have i4:jO [.sh (.str w),sl]=_:=Zl (by decide) w hs
 have i5:jP [.sh (.str w),sl]=_:=Zl (by decide) w hs
 have hle:=ZE hs
 unfold Zd Z1 Z0
 by_cases h1:w=Str.ofString "post"
 ·have n2:¬w=Str.ofString "fence" := fun z=>(d12▸(h1.symm.trans z):False)
  have n3:¬w=Str.ofString "sail" := fun z=>(d13▸(h1.symm.trans z):False)
  have n4:¬w=Str.ofString "cloth" := fun z=>(d14▸(h1.symm.trans z):False)
  have n5:¬w=Str.ofString "house" := fun z=>(d15▸(h1.symm.trans z):False)
  rw[decide_eq_true h1] at e1
  rw[decide_eq_false n2] at e2
  rw[decide_eq_false n3] at e3
  rw[decide_eq_false n4] at e4
  rw[decide_eq_false n5] at e5
  have hg:(if w=Str.ofString "post" then Za xs else if w=Str.ofString "fence" then Z7 xs else if w=Str.ofString "sail" then Z2 xs else if w=Str.ofString "cloth" then Z8 xs else if w=Str.ofString "house" then Z2 xs else false)=Za xs:=by rw[if_pos h1]
  have hc:(if w=Str.ofString "post" then "Post" else if w=Str.ofString "fence" then "Fence" else if w=Str.ofString "sail" then "Sail" else if w=Str.ofString "cloth" then "Cloth" else "House")= "Post" := by rw[if_pos h1]
  rw[hg,hc]
  cases q:Za xs<;>rw[q] at p1<;>simp[bJ,dj,bF,List.replicate,e1,e2,e3,e4,e5,hle,p1,i1]
 ·skip
  by_cases h2:w=Str.ofString "fence"
  ·have n1:=h1
   have n3:¬w=Str.ofString "sail" := fun z=>(d23▸(h2.symm.trans z):False)
   have n4:¬w=Str.ofString "cloth" := fun z=>(Q_▸(h2.symm.trans z):False)
   have n5:¬w=Str.ofString "house" := fun z=>(d25▸(h2.symm.trans z):False)
   rw[decide_eq_true h2] at e2
   rw[decide_eq_false n1] at e1
   rw[decide_eq_false n3] at e3
   rw[decide_eq_false n4] at e4
   rw[decide_eq_false n5] at e5
   have hg:(if w=Str.ofString "post" then Za xs else if w=Str.ofString "fence" then Z7 xs else if w=Str.ofString "sail" then Z2 xs else if w=Str.ofString "cloth" then Z8 xs else if w=Str.ofString "house" then Z2 xs else false)=Z7 xs:=by rw[if_neg n1,if_pos h2]
   have hc:(if w=Str.ofString "post" then "Post" else if w=Str.ofString "fence" then "Fence" else if w=Str.ofString "sail" then "Sail" else if w=Str.ofString "cloth" then "Cloth" else "House")= "Fence" := by rw[if_neg n1,if_pos h2]
   rw[hg,hc]
   cases q:Z7 xs<;>rw[q] at p2<;>simp[bJ,dj,bF,List.replicate,e1,e2,e3,e4,e5,hle,p2,i2]
  ·skip
   by_cases h3:w=Str.ofString "sail"
   ·have n1:=h1
    have n2:=h2
    have n4:¬w=Str.ofString "cloth" := fun z=>(WR▸(h3.symm.trans z):False)
    have n5:¬w=Str.ofString "house" := fun z=>(d35▸(h3.symm.trans z):False)
    rw[decide_eq_true h3] at e3
    rw[decide_eq_false n1] at e1
    rw[decide_eq_false n2] at e2
    rw[decide_eq_false n4] at e4
    rw[decide_eq_false n5] at e5
    have hg:(if w=Str.ofString "post" then Za xs else if w=Str.ofString "fence" then Z7 xs else if w=Str.ofString "sail" then Z2 xs else if w=Str.ofString "cloth" then Z8 xs else if w=Str.ofString "house" then Z2 xs else false)=Z2 xs:=by rw[if_neg n1,if_neg n2,if_pos h3]
    have hc:(if w=Str.ofString "post" then "Post" else if w=Str.ofString "fence" then "Fence" else if w=Str.ofString "sail" then "Sail" else if w=Str.ofString "cloth" then "Cloth" else "House")= "Sail" := by rw[if_neg n1,if_neg n2,if_pos h3]
    rw[hg,hc]
    cases q:Z2 xs<;>rw[q] at p3<;>simp[bJ,dj,bF,List.replicate,e1,e2,e3,e4,e5,hle,p3,i3]
   ·skip
    by_cases h4:w=Str.ofString "cloth"
    ·have n1:=h1
     have n2:=h2
     have n3:=h3
     have n5:¬w=Str.ofString "house" := fun z=>(d45▸(h4.symm.trans z):False)
     rw[decide_eq_true h4] at e4
     rw[decide_eq_false n1] at e1
     rw[decide_eq_false n2] at e2
     rw[decide_eq_false n3] at e3
     rw[decide_eq_false n5] at e5
     have hg:(if w=Str.ofString "post" then Za xs else if w=Str.ofString "fence" then Z7 xs else if w=Str.ofString "sail" then Z2 xs else if w=Str.ofString "cloth" then Z8 xs else if w=Str.ofString "house" then Z2 xs else false)=Z8 xs:=by rw[if_neg n1,if_neg n2,if_neg n3,if_pos h4]
     have hc:(if w=Str.ofString "post" then "Post" else if w=Str.ofString "fence" then "Fence" else if w=Str.ofString "sail" then "Sail" else if w=Str.ofString "cloth" then "Cloth" else "House")= "Cloth" := by rw[if_neg n1,if_neg n2,if_neg n3,if_pos h4]
     rw[hg,hc]
     cases q:Z8 xs<;>rw[q] at p4<;>simp[bJ,dj,bF,List.replicate,e1,e2,e3,e4,e5,hle,p4,i4]
    ·skip
     by_cases h5:w=Str.ofString "house"
     ·have n1:=h1
      have n2:=h2
      have n3:=h3
      have n4:=h4
      rw[decide_eq_true h5] at e5
      rw[decide_eq_false n1] at e1
      rw[decide_eq_false n2] at e2
      rw[decide_eq_false n3] at e3
      rw[decide_eq_false n4] at e4
      have hg:(if w=Str.ofString "post" then Za xs else if w=Str.ofString "fence" then Z7 xs else if w=Str.ofString "sail" then Z2 xs else if w=Str.ofString "cloth" then Z8 xs else if w=Str.ofString "house" then Z2 xs else false)=Z2 xs:=by rw[if_neg n1,if_neg n2,if_neg n3,if_neg n4,if_pos h5]
      have hc:(if w=Str.ofString "post" then "Post" else if w=Str.ofString "fence" then "Fence" else if w=Str.ofString "sail" then "Sail" else if w=Str.ofString "cloth" then "Cloth" else "House")= "House" := by rw[if_neg n1,if_neg n2,if_neg n3,if_neg n4]
      rw[hg,hc]
      cases q:Z2 xs<;>rw[q] at p3<;>simp[bJ,dj,bF,List.replicate,e1,e2,e3,e4,e5,hle,p3,i5]
     ·skip
      rw[decide_eq_false h1] at e1
      rw[decide_eq_false h2] at e2
      rw[decide_eq_false h3] at e3
      rw[decide_eq_false h4] at e4
      rw[decide_eq_false h5] at e5
      rw[if_neg h1,if_neg h2,if_neg h3,if_neg h4,if_neg h5]
      simp[bJ,dj,bF,List.replicate,e1,e2,e3,e4,e5]
abbrev P3:=Int×Int×Int
def c3(p:P3):PV:=.tup [.int p.1,.int p.2.1,.int p.2.2]
def Ze(x y u v z:Int):List P3:=[(x,y,z),(u,y,z),(u,v,z),(x,v,z)]
def Zh(x y u v h:Int):List P3:=Ze x y u v 0++Ze x y u v h
def Zf(C:String)(xs:List Int):List P3:=
 if C= "Post" then(match xs with
  | [p,q,h]=>Zh (2*p-1) (2*q-1) (2*p+1) (2*q+1) h
  |_=>[])
 else if C= "Fence" then(match xs with
  | [x,y,u,v,h]=>[(x,y,0),(u,v,0),(u,v,h),(x,y,h)]
  |_=>[])
 else if C= "Sail" then(match xs with
  | [x,y,u,v,h]=>Ze x y u v h
  |_=>[])
 else if C= "Cloth" then(match xs with
  | [a,b,c,d,e,f,g,h,i]=>[(a,b,c),(d,e,f),(g,h,i)]
  |_=>[])
 else(match xs with
  | [x,y,u,v,h]=>Zh x y u v h
  |_=>[])
def Zb(w:Str)(xs:List Int):List P3:=Zf (Z1 w) xs
theorem Zn{C:String}(hC:(["Thing","Post","Fence","Sail","Cloth","House"]:List String).contains C=true)(w:Str)(xs:List Int):cI ["Thing","Post","Fence","Sail","Cloth","House"] (Str.ofString "numbers") (Z0 C w xs)=some (.lst (xs.map .int)):=by
 unfold cI Z0
 dsimp only
 rw[if_pos hC]
 have:(Str.ofString "numbers" == Str.ofString "word")=false:=by decide +kernel
 show List.lookup _ [(_,_),(_,_)]=_
 rw[List.lookup_cons,this]
 simp
theorem Zx(x y u v z:Int):kZ [.sh (.int x),.sh (.int y),.sh (.int u),.sh (.int v),.sh (.int z)]=.ret (.ow ((Ze x y u v z).map c3)):=by
 simp[kZ,zL,List.replicate,Ze,c3]
theorem Zy(x y u v h:Int):qu [.sh (.int x),.sh (.int y),.sh (.int u),.sh (.int v),.sh (.int h)]=.ret (.ow ((Zh x y u v h).map c3)):=by
 simp[qu,zM,List.replicate,Zx,Zh,Ze,add_l]
theorem Z07{xs:List Int}(h:Za xs=true)(w:Str):oG [.sh (Z0 "Post" w xs)]=.ret (.ow ((Zf "Post" xs).map c3)):=by
 match xs,h with
 | [p,q,h],hh=>
   simp[Za,Ŵ,wA] at hh
   have hf:=Zn (C:= "Post") (by decide) w [p,q,h]
   generalize Z0 "Post" w [p,q,h]=v at *
   have e:=Zy (2*p-1) (2*q-1) (2*p+1) (2*q+1) h
   simp[oG,zN,List.replicate,hf,e,Zf]
theorem ZW{xs:List Int}(h:Z7 xs=true)(w:Str):oH [.sh (Z0 "Fence" w xs)]=.ret (.ow ((Zf "Fence" xs).map c3)):=by
 match xs,h with
 | [x,y,u,v,h],hh=>
   have hf:=Zn (C:= "Fence") (by decide) w [x,y,u,v,h]
   generalize Z0 "Fence" w [x,y,u,v,h]=t at *
   simp[oH,zO,List.replicate,hf,Zf,c3,ķ]
theorem Z08{xs:List Int}(h:Z2 xs=true)(w:Str):fZ [.sh (Z0 "Sail" w xs)]=.ret (.ow ((Zf "Sail" xs).map c3)):=by
 match xs,h with
 | [x,y,u,v,h],hh=>
   have hf:=Zn (C:= "Sail") (by decide) w [x,y,u,v,h]
   generalize Z0 "Sail" w [x,y,u,v,h]=t at *
   have e:=Zx x y u v h
   simp[fZ,rT,List.replicate,hf,e,Zf]
theorem ZX{xs:List Int}(h:Z2 xs=true)(w:Str):oK [.sh (Z0 "House" w xs)]=.ret (.ow ((Zf "House" xs).map c3)):=by
 match xs,h with
 | [x,y,u,v,h],hh=>
   have hf:=Zn (C:= "House") (by decide) w [x,y,u,v,h]
   generalize Z0 "House" w [x,y,u,v,h]=t at *
   have e:=Zy x y u v h
   simp[oK,zQ,List.replicate,hf,e,Zf]
theorem ZY{xs:List Int}(h:Z8 xs=true)(w:Str):oJ [.sh (Z0 "Cloth" w xs)]=.ret (.ow ((Zf "Cloth" xs).map c3)):=by
 match xs,h with
 | [a,b,c,d,e,f,g,i,j],hh=>
   have hf:=Zn (C:= "Cloth") (by decide) w [a,b,c,d,e,f,g,i,j]
   generalize Z0 "Cloth" w [a,b,c,d,e,f,g,i,j]=t at *
   simp[oJ,zP,List.replicate,hf,Zf,c3,Ŗ,Jd,dO]
   exact⟨rfl,rfl,rfl⟩
theorem ZH{w:Str}{xs:List Int}(hg:Zd w xs=true){mo:M PV}{ρ ρ1:List P.Slot}(ho:mo ρ=.ok (Z0 (Z1 w) w xs) ρ1):cB (Str.ofString "corners") [("Post",oG),("Fence",oH),("Sail",fZ),("Cloth",oJ),("House",oK)] mo Ę ρ=.ok (.ow ((Zb w xs).map c3)) ρ1:=by
 have hn:(["word","numbers"]:List Str).contains (Str.ofString "corners")=false:=by decide +kernel
 have key:∀(C:String) (mf:MF),Z1 w=C→List.lookup C [("Post",oG),("Fence",oH),("Sail",fZ),("Cloth",oJ),("House",oK)]=some mf→mf [.sh (Z0 C w xs)]=.ret (.ow ((Zf C xs).map c3))→cB (Str.ofString "corners") [("Post",oG),("Fence",oH),("Sail",fZ),("Cloth",oJ),("House",oK)] mo Ę ρ=.ok (.ow ((Zb w xs).map c3)) ρ1:=by
  intro C mf hC hl hf
  unfold Zb
  rw[hC] at ho ⊢
  unfold cB
  rw[ho]
  unfold Z0 at *
  simp only[Res.bind]
  rw[hl]
  dsimp only
  rw[if_neg (by rw[hn];decide)]
  simp only[Ę,Res.bind]
  rw[hf]
 unfold Zd at hg
 by_cases e1:w= "post"
 ·rw[if_pos e1] at hg
  exact key "Post" _ (by unfold Z1;rw[if_pos e1]) rfl (Z07 hg w)
 rw[if_neg e1] at hg
 by_cases e2:w= "fence"
 ·rw[if_pos e2] at hg
  exact key "Fence" _ (by unfold Z1;rw[if_neg e1,if_pos e2]) rfl (ZW hg w)
 rw[if_neg e2] at hg
 by_cases e3:w= "sail"
 ·rw[if_pos e3] at hg
  exact key "Sail" _ (by unfold Z1;rw[if_neg e1,if_neg e2,if_pos e3]) rfl (Z08 hg w)
 rw[if_neg e3] at hg
 by_cases e4:w= "cloth"
 ·rw[if_pos e4] at hg
  exact key "Cloth" _ (by unfold Z1;rw[if_neg e1,if_neg e2,if_neg e3,if_pos e4]) rfl (ZY hg w)
 rw[if_neg e4] at hg
 by_cases e5:w= "house"
 ·rw[if_pos e5] at hg
  exact key "House" _ (by unfold Z1;rw[if_neg e1,if_neg e2,if_neg e3,if_neg e4]) rfl (ZX hg w)
 ·rw[if_neg e5] at hg
  cases hg
theorem Z0l(c:Char):c.toNat<1114112:=by
 have h:=c.valid
 show c.val.toNat<1114112
 rcases h with h|⟨_,h⟩
 ·have:c.val.toNat<55296:=h
  omega
 ·exact h
theorem ZI(s:String):∀x∈(Str.ofString s).cps.toList,x<1114112:=by
 intro x hx
 rw[PyProof.Rows.signs_ofString] at hx
 obtain⟨c,_,rfl⟩:=List.mem_map.mp hx
 exact Z0l c
theorem ZJ{x:Str}:PyData.strOk x=true↔∀c∈x.cps.toList,c<1114112:=by
 unfold PyData.strOk
 rw[←Array.all_toList,List.all_eq_true]
 simp
theorem Zz{sep:List Nat}{x:Nat}:∀{ys:List (List Nat)},x∈cj sep ys→x∈sep∨∃y∈ys,x∈y
 | [],h=>by simp[cj] at h
 | [y],h=>.inr ⟨y,by simp,h⟩
 |y::z::r,h=>by
  rw[cj,List.mem_append,List.mem_append] at h
  rcases h with(h|h)|h
  ·exact .inr ⟨y,by simp,h⟩
  ·exact .inl h
  ·rcases Zz h with q|⟨y',q1,q2⟩
   ·exact .inl q
   ·exact .inr ⟨y',List.mem_cons_of_mem _ q1,q2⟩
theorem ZZ{n:Int}(h1: -1000000000≤n)(h2:n≤1000000000):(Str.ofString (toString n)).cps.toList.length≤20:=by
 rw[PyProof.Rows.signs_ofString,List.length_map]
 have key:∀m:Nat,m≤1000000000→(toString m:String).length≤10:=by
  intro m hm
  show m.repr.length≤10
  exact(Nat.length_repr_le_iff (by decide)).mpr (by omega)
 cases n with
 |ofNat m=>
  have:=key m (by have:((m:Nat):Int)≤1000000000:=h2;omega)
  have e:(toString (Int.ofNat m):String)=toString m:=rfl
  rw[e,String.length_toList]
  omega
 |negSucc m=>
  have:=key (m+1) (by have:(-1000000000:Int)≤Int.negSucc m:=h1;omega)
  have e:(toString (Int.negSucc m):String)= "-" ++ toString (m+1):=rfl
  rw[e,String.length_toList,String.length_append]
  have e1:("-" :String).length=1:=rfl
  omega
def Zi(w:Str)(xs:List Int):Str:=S (cj (Str.ofString " ").cps.toList (w.cps.toList::xs.map fun n=>(Str.ofString (toString n)).cps.toList))
theorem Z00(w:Str)(xs:List Int):strsOf (.str w::xs.map fun n=>.str (Str.ofString (toString n)))=some (w.cps.toList::xs.map fun n=>(Str.ofString (toString n)).cps.toList):=by
 have:∀ys:List Int,strsOf (ys.map fun n=>.str (Str.ofString (toString n)))=some (ys.map fun n=>(Str.ofString (toString n)).cps.toList):=by
  intro ys
  induction ys with
  |nil=>rfl
  |cons y ys ih=>rw[List.map_cons,strsOf,ih];rfl
 rw[strsOf,this]
 rfl
theorem Z09{l:List Nat}{b:Nat}(h:∀x∈l,x≤b):l.sum≤l.length*b:=by
 induction l with
 |nil=>simp
 |cons x l ih=>
  rw[List.sum_cons,List.length_cons,Nat.succ_mul]
  have:=h x (by simp)
  have:=ih fun y hy=>h y (List.mem_cons_of_mem _ hy)
  omega
theorem ZD{w:Str}{xs:List Int}(hw:w.cps.toList.length≤1000)(hl:xs.length≤100)(hx:∀n∈xs,-1000000000≤n∧n≤1000000000):lZ (.str (Str.ofString " ")) [.lst (.str w::xs.map fun n=>.str (Str.ofString (toString n)))]=some (.str (Zi w xs)):=by
 unfold lZ
 dsimp only
 rw[Z00]
 have hs:((w.cps.toList::xs.map fun n=>(Str.ofString (toString n)).cps.toList).map List.length).sum≤1000+100*20:=by
  rw[List.map_cons,List.sum_cons,List.map_map]
  have:=Z09 (l:=xs.map (List.length ∘ fun n=>(Str.ofString (toString n)).cps.toList)) (b:=20) (fun x h=>by
   obtain⟨n,hn,rfl⟩:=List.mem_map.mp h
   exact ZZ (hx n hn).1 (hx n hn).2)
  rw[List.length_map] at this
  have:xs.length*20≤100*20:=Nat.mul_le_mul_right 20 hl
  omega
 have hz:(Str.ofString " ").length=1:=by decide +kernel
 have hc:(w.cps.toList::xs.map fun n=>(Str.ofString (toString n)).cps.toList).length≤101:=by simp;omega
 show(if _ then some (PV.str (S (cj (Str.ofString " ").cps.toList (w.cps.toList::xs.map fun n=>(Str.ofString (toString n)).cps.toList)))) else none)=_
 rw[if_pos (by rw[hz];omega)]
 rfl
theorem ZQ{w:Str}(hw:PyData.strOk w=true)(xs:List Int):PyData.strOk (Zi w xs)=true:=by
 rw[ZJ] at hw ⊢
 intro c hc
 have hc':c∈cj (Str.ofString " ").cps.toList (w.cps.toList::xs.map fun n=>(Str.ofString (toString n)).cps.toList):=by simpa[Zi] using hc
 rcases Zz hc' with q|⟨y,q1,q2⟩
 ·exact ZI _ _ q
 ·rcases List.mem_cons.mp q1 with rfl|q1
  ·exact hw c q2
  ·obtain⟨n,_,rfl⟩:=List.mem_map.mp q1
   exact ZI _ _ q2
theorem Zu{xs:List Int}(hl:xs.length≤100)(hx:∀n∈xs,-1000000000≤n∧n≤1000000000):Ŗ (gN 0) aH (cQ rK (ā (ă 0) ė)) (xs.map .int) [.no] []=some (xs.map fun n=>.str (Str.ofString (toString n))):=by
 have:=lV (g:=gN 0) (mt:=aH) (me:=cQ rK (ā (ă 0) ė)) PV.int (fun n=>.str (Str.ofString (toString n))) (fun ρ=>∃s,ρ=[s]) xs [.no] [] ⟨_,rfl⟩ (by simp;omega) (by
  rintro n hn ρ ⟨s,rfl⟩
  have h:=hx n hn
  have Zbr:n.natAbs.log2<1920:=by
   by_cases h0:n.natAbs=0
   ·rw[h0];decide
   ·rw[Nat.log2_lt h0]
    exact Nat.lt_of_lt_of_le (show n.natAbs<2 ^ 30 by omega) (Nat.pow_le_pow_right (by decide) (by decide))
  exact⟨[.sh (.int n)],[.sh (.int n)],[.sh (.int n)],by simp,by simp,by simp[Zbr],_,rfl⟩)
 rw[this]
 simp
def wd(k:Int):Str:=if k=0 then Str.ofString "post" else if k=1 then Str.ofString "fence" else if k=2 then Str.ofString "sail" else if k=3 then Str.ofString "cloth" else Str.ofString "house"
def pl(x:Int):Prop:=-1000000000≤x∧x≤1000000000
def ht(x:Int):Prop:=1≤x∧x≤1000000000
inductive B9:Int→List Int→Prop
 |post {p q h:Int} (h1:pl p) (h2:pl q) (h3:ht h):B9 0 [p,q,h]
 |fence {x y u v h:Int} (h1:pl x) (h2:pl y) (h3:pl u) (h4:pl v) (h5:ht h) (n:¬(x=u∧y=v)):B9 1 [x,y,u,v,h]
 |sail {x y u v h:Int} (h1:pl x) (h2:pl y) (h3:pl u) (h4:pl v) (h5:ht h) (n1:x<u) (n2:y<v):B9 2 [x,y,u,v,h]
 |cloth {a b c d e f g i j:Int} (h1:pl a) (h2:pl b) (h3:0≤c∧c≤1000000000) (h4:pl d) (h5:pl e) (h6:0≤f∧f≤1000000000) (h7:pl g) (h8:pl i) (h9:0≤j∧j≤1000000000):B9 3 [a,b,c,d,e,f,g,i,j]
 |house {x y u v h:Int} (h1:pl x) (h2:pl y) (h3:pl u) (h4:pl v) (h5:ht h) (n1:x<u) (n2:y<v):B9 4 [x,y,u,v,h]
theorem Zk(c:Int):∃x:Int,ak [.sh (.int c)]=.ret (.sh (.int x))∧pl x:=by
 have p1:gZ 10 9=true:=by decide
 have m1:aX 4 1000000000=true:=pL (by decide) (by decide)
 have m2:aX 2 1000000000=true:=pL (by decide) (by decide)
 obtain⟨C,hC⟩:∃C,c % 4000000008=C:=⟨_,rfl⟩
 have m3:aX (C / 4) 7919=true:=pL (by omega) (by omega)
 have h:C % 4=0∨C % 4=1∨C % 4=2∨C % 4=3:=by omega
 unfold pl
 rcases h with h|h|h|h
 ·exact⟨C / 4 % 13-6,by simp[ak,gM,List.replicate,p1,m1,m2,hC,h],by omega,by omega⟩
 ·exact⟨1000000000-C / 4 % 3,by simp[ak,gM,List.replicate,p1,m1,m2,hC,h],by omega,by omega⟩
 ·exact⟨C / 4 % 3-1000000000,by simp[ak,gM,List.replicate,p1,m1,m2,hC,h],by omega,by omega⟩
 ·exact⟨(C / 4*7919+31) % 2000000001-1000000000,by simp[ak,gM,List.replicate,p1,m1,m2,m3,hC,h],by omega,by omega⟩
theorem Zq(c:Int):∃x:Int,cF [.sh (.int c)]=.ret (.sh (.int x))∧ht x:=by
 have p1:gZ 10 9=true:=by decide
 have m1:aX 3 1000000000=true:=pL (by decide) (by decide)
 obtain⟨C,hC⟩:∃C,c % 3000000000=C:=⟨_,rfl⟩
 have h:C % 3=0∨C % 3=1∨C % 3=2:=by omega
 unfold ht
 rcases h with h|h|h
 ·exact⟨1+C / 3 % 6,by simp[cF,jL,List.replicate,p1,m1,hC,h],by omega,by omega⟩
 ·exact⟨1000000000-C / 3 % 3,by simp[cF,jL,List.replicate,p1,m1,hC,h],by omega,by omega⟩
 ·exact⟨1+C / 3 % 1000000000,by simp[cF,jL,List.replicate,p1,m1,hC,h],by omega,by omega⟩
theorem ZA{a b:Int}(ha:pl a)(hb:pl b):∃x y:Int,cD [.sh (.int a),.sh (.int b)]=.ret (.sh (.tup [.int x,.int y]))∧pl x∧pl y∧x<y:=by
 have p1:gZ 10 9=true:=by decide
 unfold pl at *
 by_cases h1:a=b
 ·by_cases h2:a=1000000000
  ·exact⟨a-1,a,by simp[cD,jK,List.replicate,p1,←h1,h2],by omega,by omega,by omega⟩
  ·exact⟨a,a+1,by simp[cD,jK,List.replicate,p1,←h1,h2],by omega,by omega,by omega⟩
 ·refine⟨min a b,max a b,?_,by omega,by omega,by omega⟩
  simp[cD,jK,List.replicate,p1,h1]
  constructor<;>split<;>omega
theorem Z0a:Z1 (wd 0)= "Post" := by decide +kernel
theorem Z0b:Z1 (wd 1)= "Fence" := by decide +kernel
theorem Z0c:Z1 (wd 2)= "Sail" := by decide +kernel
theorem Z0d:Z1 (wd 3)= "Cloth" := by decide +kernel
theorem Z0e:Z1 (wd 4)= "House" := by decide +kernel
theorem gd0(xs:List Int):Zd (wd 0) xs=Za xs:=by simp[Zd,wd]
theorem gd1(xs:List Int):Zd (wd 1) xs=Z7 xs:=by simp[Zd,wd,QZ]
theorem gd2(xs:List Int):Zd (wd 2) xs=Z2 xs:=by simp[Zd,wd,WM,WQ]
theorem gd3(xs:List Int):Zd (wd 3) xs=Z8 xs:=by simp[Zd,wd,WT,d42,d43]
theorem gd4(xs:List Int):Zd (wd 4) xs=Z2 xs:=by simp[Zd,wd,Ra,Rb,WW,Rf]
theorem ZF(k:Int):PyData.strOk (wd k)=true:=by
 unfold wd
 split
 ·exact s1
 split
 ·exact s2
 split
 ·exact s3
 split
 ·exact s4
 ·exact s5
theorem co0(p q h:Int):Zb (wd 0) [p,q,h]=Zh (2*p-1) (2*q-1) (2*p+1) (2*q+1) h:=by unfold Zb;rw[Z0a];rfl
theorem co1(x y u v h:Int):Zb (wd 1) [x,y,u,v,h]=[(x,y,0),(u,v,0),(u,v,h),(x,y,h)]:=by unfold Zb;rw[Z0b];rfl
theorem co2(x y u v h:Int):Zb (wd 2) [x,y,u,v,h]=Ze x y u v h:=by unfold Zb;rw[Z0c];rfl
theorem co3(a b c d e f g i j:Int):Zb (wd 3) [a,b,c,d,e,f,g,i,j]=[(a,b,c),(d,e,f),(g,i,j)]:=by unfold Zb;rw[Z0d];rfl
theorem co4(x y u v h:Int):Zb (wd 4) [x,y,u,v,h]=Zh x y u v h:=by unfold Zb;rw[Z0e];rfl
theorem Zr{k:Int}{xs:List Int}(h:B9 k xs):Zd (wd k) xs=true:=by
 cases h with
 |post h1 h2 h3=>rw[gd0];simp[Za,Ŵ,wA];unfold pl ht at *;omega
 |fence h1 h2 h3 h4 h5 n=>rw[gd1];simp[Z7,Zc,Ŵ,wA];unfold pl ht at *;omega
 |sail h1 h2 h3 h4 h5 n1 n2=>rw[gd2];simp[Z2,Zc,Ŵ,wA];unfold pl ht at *;omega
 |cloth h1 h2 h3 h4 h5 h6 h7 h8 h9=>rw[gd3];simp[Z8,Ŵ,sW];unfold pl at *;omega
 |house h1 h2 h3 h4 h5 n1 n2=>rw[gd4];simp[Z2,Zc,Ŵ,wA];unfold pl ht at *;omega
theorem ZU{k:Int}{xs:List Int}(h:B9 k xs):xs.length≤9∧∀n∈xs,-1000000000≤n∧n≤1000000000:=by
 cases h<;>(unfold pl at *;try unfold ht at *)<;>refine⟨by simp,?_⟩<;>simp only[List.mem_cons,List.not_mem_nil,or_false,forall_eq_or_imp,forall_eq]<;>omega
theorem Z01(ns:List Int)(a:Nat):Ŗ (gN 2) aH (Ė (ĭ ũ (ċ 0 (Ģ (Ė (Ņ ķ (Ė (Ņ ķ (ă 1) (mC (.int 1)))) (ă 2))) Ę)))) [.int 0,.int 1,.int 2,.int 3,.int 4,.int 5,.int 6,.int 7,.int 8] [.sh (.lst (ns.map .int)),.sh (.int a),.no] [] =
 some [.int (ns.getD (a+1) 0),.int (ns.getD (a+2) 0),.int (ns.getD (a+3) 0),.int (ns.getD (a+4) 0),.int (ns.getD (a+5) 0),.int (ns.getD (a+6) 0),.int (ns.getD (a+7) 0),.int (ns.getD (a+8) 0),.int (ns.getD (a+9) 0)]:=by
 have k:∀j:Nat,ũ [.sh (.lst (ns.map .int)),.sh (.int ((a:Int)+1+(j:Int)))]=.ret (.sh (.int (ns.getD (a+1+j) 0))):=fun j=>by
  have:=Zo ns (a+1+j)
  rwa [show(((a+1+j:Nat)):Int)=(a:Int)+1+(j:Int) by omega] at this
 have k0:ũ [.sh (.lst (ns.map .int)),.sh (.int ((a:Int)+1))]=.ret (.sh (.int (ns.getD (a+1) 0))):=by simpa using k 0
 have k1:ũ [.sh (.lst (ns.map .int)),.sh (.int ((a:Int)+1+1))]=.ret (.sh (.int (ns.getD (a+2) 0))):=k 1
 have k2:ũ [.sh (.lst (ns.map .int)),.sh (.int ((a:Int)+1+2))]=.ret (.sh (.int (ns.getD (a+3) 0))):=k 2
 have k3:ũ [.sh (.lst (ns.map .int)),.sh (.int ((a:Int)+1+3))]=.ret (.sh (.int (ns.getD (a+4) 0))):=k 3
 have k4:ũ [.sh (.lst (ns.map .int)),.sh (.int ((a:Int)+1+4))]=.ret (.sh (.int (ns.getD (a+5) 0))):=k 4
 have k5:ũ [.sh (.lst (ns.map .int)),.sh (.int ((a:Int)+1+5))]=.ret (.sh (.int (ns.getD (a+6) 0))):=k 5
 have k6:ũ [.sh (.lst (ns.map .int)),.sh (.int ((a:Int)+1+6))]=.ret (.sh (.int (ns.getD (a+7) 0))):=k 6
 have k7:ũ [.sh (.lst (ns.map .int)),.sh (.int ((a:Int)+1+7))]=.ret (.sh (.int (ns.getD (a+8) 0))):=k 7
 have k8:ũ [.sh (.lst (ns.map .int)),.sh (.int ((a:Int)+1+8))]=.ret (.sh (.int (ns.getD (a+9) 0))):=k 8
 generalize ns.map PV.int=NS at *
 simp[Ŗ,k0,k1,k2,k3,k4,k5,k6,k7,k8,-Zg]
theorem Z0t(c:Int):∃k:Int,(k=0∨k=1∨k=2∨k=3∨k=4)∧eO ([.str (Str.ofString "post"),.str (Str.ofString "fence"),.str (Str.ofString "sail"),.str (Str.ofString "cloth"),.str (Str.ofString "house")]:List PV) (c % 5)=some (.str (wd k)):=by
 have h:c % 5=0∨c % 5=1∨c % 5=2∨c % 5=3∨c % 5=4:=by omega
 refine⟨c % 5,h,?_⟩
 rcases h with e|e|e|e|e<;>rw[e]<;>rfl
theorem w0:wd 0=Str.ofString "post" := rfl
theorem w1:wd 1=Str.ofString "fence" := rfl
theorem w2:wd 2=Str.ofString "sail" := rfl
theorem w3:wd 3=Str.ofString "cloth" := rfl
theorem w4:wd 4=Str.ofString "house" := rfl
theorem ZB(ns:List Int)(a:Nat):∃(k:Int) (xs:List Int),aR [.sh (.lst (ns.map .int)),.sh (.int a)]=.ret (.sh (.tup [.str (wd k),.lst (xs.map .int)]))∧B9 k xs:=by
 obtain⟨k,hk,hix⟩:=Z0t (ns.getD a 0)
 have k0:=Zo ns a
 have hc:=Z01 ns a
 generalize ns.getD a 0=c0 at *
 generalize ns.getD (a+1) 0=c1 at *
 generalize ns.getD (a+2) 0=c2 at *
 generalize ns.getD (a+3) 0=c3 at *
 generalize ns.getD (a+4) 0=c4 at *
 generalize ns.getD (a+5) 0=c5 at *
 generalize ns.getD (a+6) 0=c6 at *
 generalize ns.getD (a+7) 0=c7 at *
 generalize ns.getD (a+8) 0=c8 at *
 generalize ns.getD (a+9) 0=c9 at *
 obtain⟨f1,e1,b1⟩:=Zk c1
 obtain⟨f2,e2,b2⟩:=Zk c2
 obtain⟨f3,e3,b3⟩:=Zk c3
 obtain⟨f4,e4,b4⟩:=Zk c4
 obtain⟨f5,e5,b5⟩:=Zk c5
 obtain⟨f6,e6,b6⟩:=Zk c6
 obtain⟨f7,e7,b7⟩:=Zk c7
 obtain⟨f8,e8,b8⟩:=Zk c8
 obtain⟨f9,e9,b9⟩:=Zk c9
 obtain⟨h3,g3,t3⟩:=Zq c3
 obtain⟨h6,g6,t6⟩:=Zq c6
 obtain⟨h9,g9,t9⟩:=Zq c9
 obtain⟨h5,g5,t5⟩:=Zq c5
 have hr:jl [.int 9]=some [.int 0,.int 1,.int 2,.int 3,.int 4,.int 5,.int 6,.int 7,.int 8]:=rfl
 have E_:dO ([.int c1,.int c2,.int c3,.int c4,.int c5,.int c6,.int c7,.int c8,.int c9]:List PV) none (some 4)=[.int c1,.int c2,.int c3,.int c4]:=rfl
 have Zbs:Ŗ (gN 0) aH (Ė (ĭ ak (ċ 0 Ę))) [.int c1,.int c2,.int c3,.int c4,.int c5,.int c6,.int c7,.int c8,.int c9] [.no] []=some [.int f1,.int f2,.int f3,.int f4,.int f5,.int f6,.int f7,.int f8,.int f9]:=by
  simp[Ŗ,e1,e2,e3,e4,e5,e6,e7,e8,e9]
 have Fb:Ŗ (gN 0) aH (Ė (ĭ ak (ċ 0 Ę))) [.int c1,.int c2,.int c3,.int c4] [.no] []=some [.int f1,.int f2,.int f3,.int f4]:=by
  simp[Ŗ,e1,e2,e3,e4]
 obtain⟨a1,a2,r1,ra1,ra2,ra3⟩:=ZA b1 b3
 obtain⟨d1,d2,r2,rd1,rd2,rd3⟩:=ZA b2 b4
 generalize ns.map PV.int=NS at *
 rcases hk with rfl|rfl|rfl|rfl|rfl
 ·rw[w0] at hix
  exact⟨0,[f1,f2,h3],by simp[aR,dh,List.replicate,k0,hix,hr,hc,Ē,s1,e1,e2,g3,w0,-Zg],.post b1 b2 t3⟩
 ·rw[w1] at hix
  have ht:=Ei (x:=f1) (y:=f2) (z:=f3) (w:=f4)
  cases t:(decide (f1=f3) && decide (f2=f4))
  ·rw[t] at ht
   refine⟨1,[f1,f2,f3,f4,h5],by simp[aR,dh,List.replicate,k0,hix,hr,hc,E_,Ē,s1,s2,s4,T.QZ,T.Q_,Fb,g5,ht,w1,-Zg],.fence b1 b2 b3 b4 t5 (fun z=>?_)⟩
   rw[decide_eq_true z.1,decide_eq_true z.2] at t
   cases t
  ·rw[t] at ht
   exact⟨1,[f1,d1,f3,d2,h5],by simp[aR,dh,List.replicate,k0,hix,hr,hc,E_,Ē,s1,s2,s4,T.QZ,T.Q_,Fb,g5,ht,r2,w1,-Zg],.fence b1 rd1 b3 rd2 t5 (fun z=>by omega)⟩
 ·rw[w2] at hix
  exact⟨2,[a1,d1,a2,d2,h5],by simp[aR,dh,List.replicate,k0,hix,hr,hc,E_,Ē,s1,s2,s3,s4,T.WM,T.WQ,T.WR,Fb,g5,r1,r2,w2,-Zg],.sail ra1 rd1 ra2 rd2 t5 ra3 rd3⟩
 ·rw[w3] at hix
  unfold ht at t3 t6 t9
  exact⟨3,[f1,f2,h3-1+c3 / 7 % 2,f4,f5,h6-1+c6 / 7 % 2,f7,f8,h9-1+c9 / 7 % 2],by simp[aR,dh,zJ,List.replicate,k0,hix,hr,hc,Ē,s1,s4,T.WT,Zbs,forL,g3,g6,g9,o_,w3,-Zg],.cloth b1 b2 (by omega) b4 b5 (by omega) b7 b8 (by omega)⟩
 ·rw[w4] at hix
  exact⟨4,[a1,d1,a2,d2,h5],by simp[aR,dh,List.replicate,k0,hix,hr,hc,E_,Ē,s1,s2,s4,s5,T.Ra,T.Rb,T.Rf,Fb,g5,r1,r2,w4,-Zg],.house ra1 rd1 ra2 rd2 t5 ra3 rd3⟩
theorem Z0m{n:Nat}(h:n≤1000):jl [.int (n:Int)]=some ((List.range n).map fun(i:Nat)=>PV.int (i:Int)):=by
 unfold jl eX
 simp[nJ]
 omega
theorem Zj(x y u v z:Int):aA [.sh (.int x),.sh (.int y),.sh (.int u),.sh (.int v),.sh (.int z)]=.ret (.ow ((Ze x y u v z).map c3)):=by
 simp[aA,sy,List.replicate,Ze,c3]
theorem ZK(x y u v h:Int):iZ [.sh (.str (Str.ofString "house")),.sh (.lst [.int x,.int y,.int u,.int v,.int h])]=.ret (.ow ((Zh x y u v h).map c3)):=by
 have e1:=Zj x y u v 0
 have e2:=Zj x y u v h
 simp[iZ,jU,List.replicate,Ē,s1,s2,s3,s4,s5,Ra,Rb,WW,Rf,e1,e2,Zh,Ze,c3,add_l]
theorem Z02{k:Int}{xs:List Int}(hb:B9 k xs):dw [.sh (.str (wd k)),.sh (.lst (xs.map .int))]=.ret (.ow ((Zb (wd k) xs).map c3)):=by
 cases hb with
 |@post p q h k1 k2 k3=>
  have e:=ZK (2*p-1) (2*q-1) (2*p+1) (2*q+1) h
  rw[co0]
  simp[dw,fj,List.replicate,wd,Ē,s1,s2,s3,s4,s5,d12,d13,d14,d15,e]
 |@fence x y u v h k1 k2 k3 k4 k5 n=>
  rw[co1]
  simp[dw,fj,List.replicate,wd,Ē,s1,s2,s3,s4,s5,QZ,d23,Q_,d25,c3]
 |@sail x y u v h k1 k2 k3 k4 k5 n1 n2=>
  have e:=Zj x y u v h
  rw[co2]
  simp[dw,fj,List.replicate,wd,Ē,s1,s2,s3,s4,s5,WM,WQ,WR,d35,e]
 |@cloth a b c d e f g i j k1 k2 k3 k4 k5 k6 k7 k8 k9=>
  rw[co3]
  simp[dw,fj,List.replicate,wd,Ē,s1,s2,s3,s4,s5,WT,d42,d43,d45,c3,Ŗ,Jd,dO,HT.dM]
 |@house x y u v h k1 k2 k3 k4 k5 n1 n2=>
  have e1:=Zj x y u v 0
  have e2:=Zj x y u v h
  rw[co4]
  simp[dw,fj,List.replicate,wd,Ē,s1,s2,s3,s4,s5,Ra,Rb,WW,Rf,e1,e2,Zh,Ze,c3,add_l]
theorem Zs{C D:String}{w:Str}{xs:List Int}:aQ Z3 Z4 Z9 Z5 Z6 [Z0 C w xs,.cls D]=(Z9.lookup (C,D)).map .bl:=rfl
theorem bl5(a b c d e:Bool):ŉ (.lst [.bl a,.bl b,.bl c,.bl d,.bl e]) (.lst [.bl a,.bl b,.bl c,.bl d,.bl e])=some (.bl true):=mj (by simp[ū,bD]) (by simp[dep,gG])
theorem Z0f{k:Int}{xs:List Int}(hb:B9 k xs):jT [.sh (Z0 (Z1 (wd k)) (wd k) xs),.sh (.str (wd k))]=.ret (.sh (.bl true)):=by
 have key:∀(C:String) (w:Str) (a b c d e:Bool),Z9.lookup (C,"Post")=some a→Z9.lookup (C,"Fence")=some b→Z9.lookup (C,"Sail")=some c→Z9.lookup (C,"Cloth")=some d→Z9.lookup (C,"House")=some e→Z9.lookup (C,"Thing")=some true→
  ŉ (.str (Str.ofString "post")) (.str w)=some (.bl a)→ŉ (.str (Str.ofString "fence")) (.str w)=some (.bl b)→ŉ (.str (Str.ofString "sail")) (.str w)=some (.bl c)→ŉ (.str (Str.ofString "cloth")) (.str w)=some (.bl d)→ŉ (.str (Str.ofString "house")) (.str w)=some (.bl e)→
  jT [.sh (Z0 C w xs),.sh (.str w)]=.ret (.sh (.bl true)):=by
  intro C w a b c d e h1 h2 h3 h4 h5 h6 q1 q2 q3 q4 q5
  have i1:aQ Z3 Z4 Z9 Z5 Z6 [Z0 C w xs,.cls "Post"]=some (.bl a):=by rw[Zs,h1];rfl
  have i2:aQ Z3 Z4 Z9 Z5 Z6 [Z0 C w xs,.cls "Fence"]=some (.bl b):=by rw[Zs,h2];rfl
  have i3:aQ Z3 Z4 Z9 Z5 Z6 [Z0 C w xs,.cls "Sail"]=some (.bl c):=by rw[Zs,h3];rfl
  have i4:aQ Z3 Z4 Z9 Z5 Z6 [Z0 C w xs,.cls "Cloth"]=some (.bl d):=by rw[Zs,h4];rfl
  have i5:aQ Z3 Z4 Z9 Z5 Z6 [Z0 C w xs,.cls "House"]=some (.bl e):=by rw[Zs,h5];rfl
  have i6:aQ Z3 Z4 Z9 Z5 Z6 [Z0 C w xs,.cls "Thing"]=some (.bl true):=by rw[Zs,h6];rfl
  have hq:=bl5 a b c d e
  generalize Z0 C w xs=Tv at *
  simp[jT,rW,List.replicate,i1,i2,i3,i4,i5,i6,add_l,Ŗ,q1,q2,q3,q4,q5,hq]
 cases hb with
 |@post p q h k1 k2 k3=>rw[Z0a];exact key "Post" _ true false false false false (by decide +kernel) (by decide +kernel) (by decide +kernel) (by decide +kernel) (by decide +kernel) (by decide +kernel) (by rw[w0,Ē s1 s1];simp) (by rw[w0,Ē s2 s1];simp[QZ]) (by rw[w0,Ē s3 s1];simp[WM]) (by rw[w0,Ē s4 s1];simp[WT]) (by rw[w0,Ē s5 s1];simp[Ra])
 |@fence x y u v h k1 k2 k3 k4 k5 n=>rw[Z0b];exact key "Fence" _ false true false false false (by decide +kernel) (by decide +kernel) (by decide +kernel) (by decide +kernel) (by decide +kernel) (by decide +kernel) (by rw[w1,Ē s1 s2];simp[d12]) (by rw[w1,Ē s2 s2];simp) (by rw[w1,Ē s3 s2];simp[WQ]) (by rw[w1,Ē s4 s2];simp[d42]) (by rw[w1,Ē s5 s2];simp[Rb])
 |@sail x y u v h k1 k2 k3 k4 k5 n1 n2=>rw[Z0c];exact key "Sail" _ false false true false false (by decide +kernel) (by decide +kernel) (by decide +kernel) (by decide +kernel) (by decide +kernel) (by decide +kernel) (by rw[w2,Ē s1 s3];simp[d13]) (by rw[w2,Ē s2 s3];simp[d23]) (by rw[w2,Ē s3 s3];simp) (by rw[w2,Ē s4 s3];simp[d43]) (by rw[w2,Ē s5 s3];simp[WW])
 |@cloth a b c d e f g i j k1 k2 k3 k4 k5 k6 k7 k8 k9=>rw[Z0d];exact key "Cloth" _ false false false true false (by decide +kernel) (by decide +kernel) (by decide +kernel) (by decide +kernel) (by decide +kernel) (by decide +kernel) (by rw[w3,Ē s1 s4];simp[d14]) (by rw[w3,Ē s2 s4];simp[Q_]) (by rw[w3,Ē s3 s4];simp[WR]) (by rw[w3,Ē s4 s4];simp) (by rw[w3,Ē s5 s4];simp[Rf])
 |@house x y u v h k1 k2 k3 k4 k5 n1 n2=>rw[Z0e];exact key "House" _ false false false false true (by decide +kernel) (by decide +kernel) (by decide +kernel) (by decide +kernel) (by decide +kernel) (by decide +kernel) (by rw[w4,Ē s1 s5];simp[d15]) (by rw[w4,Ē s2 s5];simp[d25]) (by rw[w4,Ē s3 s5];simp[d35]) (by rw[w4,Ē s4 s5];simp[d45]) (by rw[w4,Ē s5 s5];simp)
theorem Z0n(x:List PV):bH Z3 Z4 Z5 Z6 [.tup x,.ty "tuple"]=some (.bl true):=rfl
theorem Z0o(x:List PV):bH Z3 Z4 Z5 Z6 [.lst x,.ty "list"]=some (.bl true):=rfl
theorem Z0p(x:Int):bH Z3 Z4 Z5 Z6 [.int x,.ty "int"]=some (.bl true):=rfl
theorem Z0g(x:Int):bH Z3 Z4 Z5 Z6 [.int x,.ty "bool"]=some (.bl false):=rfl
theorem Z0q(p:P3):cX (c3 p) (c3 p)=some (.bl false):=gK (by simp[c3,ū,bD]) (by simp[c3,dep,gG])
theorem Z0h{L:List P3}(hl:L.length≤1000):mK [.bw (L.map c3),.sh (.lst (L.map c3))]=.ret (.sh (.bl true)):=by
 have ll:(L.map c3).length=L.length:=by simp
 have h1:fU [.lst (L.map c3)]=some (.int (L.length:Int)):=by simp
 have rr:=Z0m (n:=L.length) hl
 obtain⟨ρ',e,y2,rfl⟩:=mq (g:=gN 2) (mb:=rY) (fun(i:Nat)=>PV.int (i:Int)) (fun(_:Unit) (_:Nat)=>()) (fun _ ρ=>∃z,ρ=[.bw (L.map c3),.sh (.lst (L.map c3)),z]) (List.range L.length) (by
  rintro i hi _ ρ ⟨z,rfl⟩
  have hi:=List.mem_range.mp hi
  have hx:eO (L.map c3) (i:Int)=some (c3 L[i]):=by
   unfold eO o_
   simp[hi]
  have n1:=Z0q L[i]
  generalize L[i]=p at *
  obtain⟨a,b,c⟩:=p
  simp only[c3] at hx n1
  have hcp:Ŗ (gN 0) aH (cO (cQ (bH Z3 Z4 Z5 Z6) (ā (ă 0) (ā (mC (.ty "int")) ė))) (Dl (cQ (bH Z3 Z4 Z5 Z6) (ā (ă 0) (ā (mC (.ty "bool")) ė))))) [.int a,.int b,.int c] [.no] []=some [.bl true,.bl true,.bl true]:=by
   simp[Ŗ,Z0p,Z0g]
  have ha:pK [.lst [.bl true,.bl true,.bl true]]=some (.bl true):=rfl
  generalize L.map c3=LV at *
  refine⟨_,_,rfl,?_,.sh (.int i),rfl⟩
  simp[rY,hx,Z0n,n1,hcp,ha]) () [.bw (L.map c3),.sh (.lst (L.map c3)),.no] ⟨_,rfl⟩
 generalize L.map c3=LV at *
 simp[mK,rZ,List.replicate,Z0o,h1,rr,e,-DK]
theorem Z0r{C:String}(hC:(["Thing","Post","Fence","Sail","Cloth","House"]:List String).contains C=true)(w:Str)(xs:List Int):cI ["Thing","Post","Fence","Sail","Cloth","House"] (Str.ofString "word") (Z0 C w xs)=some (.str w):=by
 unfold cI Z0
 dsimp only
 rw[if_pos hC]
 rfl
theorem Z0s{C:String}(hC:(["Thing","Post","Fence","Sail","Cloth","House"]:List String).contains C=true)(w:Str)(xs:List Int):cI ["Thing","Post","Fence","Sail","Cloth","House"] (Str.ofString "numbers") (Z0 C w xs)=some (.lst (xs.map .int)):=by
 unfold cI Z0
 dsimp only
 rw[if_pos hC]
 have:(Str.ofString "numbers" == Str.ofString "word")=false:=by decide +kernel
 show List.lookup _ [(_,_),(_,_)]=_
 rw[List.lookup_cons,this]
 simp
theorem Z0i{C:String}(hC:(["Thing","Post","Fence","Sail","Cloth","House"]:List String).contains C=true){w:Str}{xs:List Int}(hw:w.cps.toList.length≤1000)(hl:xs.length≤100)(hx:∀n∈xs,-1000000000≤n∧n≤1000000000):Ň [.sh (Z0 C w xs)]=.ret (.sh (.str (Zi w xs))):=by
 have h1:=Zu hl hx
 have h2:=ZD hw hl hx
 have h3:=Z0r hC w xs
 have h4:=Z0s hC w xs
 have hL:(xs.map fun n=>PV.str (Str.ofString (toString n))).length=xs.length:=List.length_map _
 generalize (xs.map fun n=>PV.str (Str.ofString (toString n)))=L at *
 have hg:L.length+1≤16777216:=by omega
 have hg':1+L.length≤16777216:=by omega
 generalize Z0 C w xs=v at *
 simp[Ň,su,List.replicate,h3,h4,h1,h2,add_l,hg,hg']
theorem ZG{w:Str}{xs:List Int}{C:String}(hC:(["Thing","Post","Fence","Sail","Cloth","House"]:List String).contains C=true)(hw:w.cps.toList.length≤1000)(hl:xs.length≤100)(hx:∀n∈xs,-1000000000≤n∧n≤1000000000){mo:M PV}{ρ ρ1:List P.Slot}(ho:mo ρ=.ok (Z0 C w xs) ρ1) :
 cB (Str.ofString "shown") [("Thing",Ň),("Post",Ň),("Fence",Ň),("Sail",Ň),("Cloth",Ň),("House",Ň)] mo Ę ρ=.ok (.sh (.str (Zi w xs))) ρ1:=by
 have hn:(["word","numbers"]:List Str).contains (Str.ofString "shown")=false:=by decide +kernel
 have hf:=Z0i hC hw hl hx
 have hk:List.lookup C [("Thing",Ň),("Post",Ň),("Fence",Ň),("Sail",Ň),("Cloth",Ň),("House",Ň)]=some Ň:=by
  simp only[List.contains_cons,List.contains_nil,Bool.or_false,Bool.or_eq_true,beq_iff_eq] at hC
  rcases hC with rfl|rfl|rfl|rfl|rfl|rfl<;>rfl
 unfold cB
 rw[ho]
 unfold Z0 at *
 simp only[Res.bind]
 rw[hk]
 dsimp only
 rw[if_neg (by rw[hn];decide)]
 simp only[Ę,Res.bind]
 rw[hf]
theorem Z0j(k:Int):(["Thing","Post","Fence","Sail","Cloth","House"]:List String).contains (Z1 (wd k))=true:=by
 unfold wd
 split
 ·decide +kernel
 split
 ·decide +kernel
 split
 ·decide +kernel
 split
 ·decide +kernel
 ·decide +kernel
theorem ZL(k:Int):(wd k).cps.toList.length≤1000:=by
 unfold wd
 split
 ·decide +kernel
 split
 ·decide +kernel
 split
 ·decide +kernel
 split
 ·decide +kernel
 ·decide +kernel
theorem Z03(X S:List PV):dO (X++S) none (some (X.length:Int))=X:=by
 unfold dO
 have h1:HT.dM (X++S).length 0 none=0:=rfl
 have h2:HT.dM (X++S).length (X++S).length (some (X.length:Int))=X.length:=by rw[HT.Cz];simp
 rw[h1,h2]
 simp
theorem ZR{k:Int}{xs:List Int}(hb:B9 k xs):(Zb (wd k) xs).length≤8∧0<(Zb (wd k) xs).length:=by
 cases hb with
 |post h1 h2 h3=>rw[co0];simp[Zh,Ze]
 |fence h1 h2 h3 h4 h5 n=>rw[co1];simp
 |sail h1 h2 h3 h4 h5 n1 n2=>rw[co2];simp[Ze]
 |cloth h1 h2 h3 h4 h5 h6 h7 h8 h9=>rw[co3];simp
 |house h1 h2 h3 h4 h5 n1 n2=>rw[co4];simp[Zh,Ze]
theorem ZM{k:Int}{xs:List Int}(hb:B9 k xs){Told Things S:List PV}{Ů:List (List PV)}{i:Nat}(hT:Told[i]?=some (.tup [.str (wd k),.lst (xs.map .int)]))(hG:Things[i]?=some (Z0 (Z1 (wd k)) (wd k) xs))(hP:Ů[i]?=some (xs.map .int++S))(hS:S.length≤10)(z0 z5 z6 z7 z8:P.Slot) :
 ∃y5 y6 y7 y8,sE [z0,.sh (.lst Told),.ol Ů,.ow Things,.sh (.int i),z5,z6,z7,z8]=.ok .nx [z0,.sh (.lst Told),.ol (Ů.set i (xs.map .int++S ++ [.int 5])),.ow Things,.sh (.int i),y5,y6,y7,y8]:=by
 have hg:=Zr hb
 obtain⟨l9,hx⟩:=ZU hb
 obtain⟨c8,c0⟩:=ZR hb
 have t1:=Zu (xs:=xs) (by omega) hx
 have t2:=ZD (w:=wd k) (xs:=xs) (ZL k) (by omega) hx
 have hT':eO Told (i:Int)=some (.tup [.str (wd k),.lst (xs.map .int)]):=by
  rw[←hT]
  have:=(List.getElem?_eq_some_iff.mp hT).1
  unfold eO o_
  simp[this]
 have hG':eO Things (i:Int)=some (Z0 (Z1 (wd k)) (wd k) xs):=by
  rw[←hG]
  have:=(List.getElem?_eq_some_iff.mp hG).1
  unfold eO o_
  simp[this]
 have hil:=(List.getElem?_eq_some_iff.mp hP).1
 have hP':eO (Ů.map PV.lst) (i:Int)=some (.lst (xs.map .int++S)):=by
  unfold eO o_
  simp[hil]
  have:=(List.getElem?_eq_some_iff.mp hP).2
  rw[this]
 have e1:=Z0f hb
 have e2:=Z02 hb
 have e3:=Z0h (L:=Zb (wd k) xs) (by omega)
 have m1:∀ρ:List P.Slot,ρ[3]?=some (.ow Things)→ρ[4]?=some (.sh (.int (i:Int)))→cB (Str.ofString "corners") [("Post",oG),("Fence",oH),("Sail",fZ),("Cloth",oJ),("House",oK)] (Č ĸ (ă 3) (ă 4)) Ę ρ=.ok (.ow ((Zb (wd k) xs).map c3)) ρ:= fun ρ h3 h4=>ZH hg (by simp[h3,h4,hG'])
 have m2:∀ρ:List P.Slot,ρ[3]?=some (.ow Things)→ρ[4]?=some (.sh (.int (i:Int)))→cB (Str.ofString "shown") [("Thing",Ň),("Post",Ň),("Fence",Ň),("Sail",Ň),("Cloth",Ň),("House",Ň)] (Č ĸ (ă 3) (ă 4)) Ę ρ=.ok (.sh (.str (Zi (wd k) xs))) ρ:= fun ρ h3 h4=>ZG (Z0j k) (ZL k) (by omega) hx (by simp[h3,h4,hG'])
 have n1:cX (.str (Zi (wd k) xs)) (.str (Zi (wd k) xs))=some (.bl false):=gK (by unfold ū;exact ZQ (ZF k) xs) (by simp[dep])
 have n2:cX (.lst (xs.map .int)) (.lst (xs.map .int))=some (.bl false):=gK (by unfold ū;exact jE xs) (by unfold dep;have:=jF xs;omega)
 have cp:=Z03 (xs.map .int) S
 have xl:(xs.map PV.int).length≤9:=by simpa using l9
 have ap:([.str (wd k)]:List PV).length+(xs.map fun n=>PV.str (Str.ofString (toString n))).length≤16777216:=by simp;omega
 have aw:ķ (.lst [.str (wd k)]) (.lst (xs.map fun n=>PV.str (Str.ofString (toString n))))=some (.ow (.str (wd k)::xs.map fun n=>PV.str (Str.ofString (toString n)))):=add_l ap
 have sl:(xs.map PV.int++S).length<16777216:=by rw[List.length_append];omega
 obtain⟨q,Q,hQ⟩:∃q Q,(Zb (wd k) xs).map c3=q::Q:=by
  cases e:Zb (wd k) xs with
  |nil=>rw[e] at c0;simp at c0
  |cons q Q=>exact⟨_,_,rfl⟩
 have hQl:Q.length≤8:=by have:=congrArg List.length hQ;simp at this;omega
 rw[hQ] at e2 e3 m1
 have hQ1:Q.length+1<16777216:=by omega
 have hPe:Ů[i]=xs.map .int++S:=(List.getElem?_eq_some_iff.mp hP).2
 have sl':(xs.map PV.int).length+S.length<16777216:=by omega
 generalize Z0 (Z1 (wd k)) (wd k) xs=Tv at *
 generalize Zi (wd k) xs=Sh at *
 generalize (xs.map fun n=>PV.str (Str.ofString (toString n)))=ST at *
 generalize xs.map PV.int=X at *
 generalize wd k=W at *
 refine⟨.sh (.str Sh),.ow (.tup [.int 1,.int 2,.int 3]::Q ++ [.tup [.int 0,.int 0,.int 0]]),.sh (.str W),.sh (.lst X),?_⟩
 simp[sE,hT',hG',t1,t2,aw,m1,m2,e1,e2,e3,hP',Jd,cp,n1,n2,hPe,hil,sl',o_,hQ1,-Ef]
theorem ZN{k:Int}{xs:List Int}(hb:B9 k xs):ķ (.lst (xs.map .int)) (.lst [.int 5,.int 5])=some (.ow (xs.map .int ++ [.int 5,.int 5])):=by
 have:=(ZU hb).1
 exact add_l (by simp;omega)
abbrev FN(nm q:Str)(st:Stmt)(kV dc pm:Value)(an:Option Addr)(cd ct:Value):FuncData:=PySem.W.fnOf nm q (dB st) (aC st) (Ĉ st) .none kV dc pm an cd ct
abbrev LK(K:PySem.W.Frag)(g:Addr)(oc:Value)(od:Option Addr)(f:FuncData)(sl:Array (Option Value)):Prop:=K.lookup g=some ⟨oc,od,.func f,sl⟩
theorem Z0k{l:PySem.W.OpenLaw}{w:World}{K:PySem.W.Frag}{h:Heap}{mg:Str→Option Value}{fa:Addr}(X:K.In h)(G:h.Ns mainGlobals mg)(hfa:mg "law" =some (.ref fa))
 {C0 C1 C2 C3 C4 C5 C6 C7 g0 g1 g2 g3 g4 g5 g6 g7 g8 g9 WX WY W_ Xc Xd Xe Xf Rg Rh Ri Rj Rk Xg Xh BZ Xi Xj g27:Addr}{od0 an0 od1 an1 od2 an2 od3 an3 od4 an4 od5 an5 od6 an6 od7 an7 od8 an8 od9 an9 Zbt Rm Zbu Rn Zbv Ro Zbw Rq Zbx Rr Zby Rt Zbz Ru ZbA Rv ZbB Rw ZbC Rx ZbD Ry ZbE Rz ZbF RB ZbG RD ZbH RG ZbI RJ ZbJ RK ZbK KJ:Option Addr}{sl0 N_ sl2 Oz sl4 sl5 sl6 sl7 sl8 sl9 ZbL ZbM ZbN ZbO ZbP ZbQ ZbR ZbS ZbT ZbU ZbV ZbW ZbX ZbY ZbZ Zb0 Zb1 Zb2:Array (Option Value)}{oc0 kV0 dc0 pm0 cd0 ct0 oc1 kV1 dc1 pm1 cd1 ct1 oc2 kV2 dc2 pm2 cd2 ct2 oc3 kV3 dc3 pm3 cd3 ct3 oc4 kV4 dc4 pm4 cd4 ct4 oc5 kV5 dc5 pm5 cd5 ct5 oc6 kV6 dc6 pm6 cd6 ct6 oc7 kV7 dc7 pm7 cd7 ct7 oc8 kV8 dc8 pm8 cd8 ct8 oc9 kV9 dc9 pm9 cd9 ct9 Zb3 RL RM RN KN RP Zb4 RQ RT RW KQ RX Zb5 RZ R_ Sd KR Sg Zb6 Sq Ss Sv KY Sw Zb7 Sx Sy SJ KZ SM Zb8 SN SQ SX K_ S_ Zb9 Tc Td Te La Tf Zb_ Ti Tj Tn Lb Tp Zca Tq Tr Tt Ld Tw Zcb Tz TF TJ Le TQ Zcc TV TX TY Lf T_ Zcd Ua Ub Uc Lg Ud Zce Ue Ug Uh Li Ui Zcf Uj Uk Ul Lj Um Zcg Uo Uq Ur Lk Us Zch Ut Uu Uv Ln Uw Zci Ux Uy Uz Lp UG Zcj Lq Lr Ls Fd Lw:Value}
 {tk0:Tok}
 {tk1:Tok}
 (u0:PySem.W.nsIn K mainGlobals "YardError" =some (some (.ref C0)))
 (u1:PySem.W.nsIn K mainGlobals "BadThing" =some (some (.ref C1)))
 (u2:PySem.W.nsIn K mainGlobals "Thing" =some (some (.ref C2)))
 (u3:PySem.W.nsIn K mainGlobals "Post" =some (some (.ref C3)))
 (u4:PySem.W.nsIn K mainGlobals "Fence" =some (some (.ref C4)))
 (u5:PySem.W.nsIn K mainGlobals "Sail" =some (some (.ref C5)))
 (u6:PySem.W.nsIn K mainGlobals "Cloth" =some (some (.ref C6)))
 (u7:PySem.W.nsIn K mainGlobals "House" =some (some (.ref C7)))
 (a0:PySem.W.nsIn K mainGlobals "_law_cell" =some (some (.ref g0)))
 (l0:LK K g0 oc0 od0 (FN "_law_cell" "_law_cell" pX kV0 dc0 pm0 an0 cd0 ct0) sl0)
 (c0:PySem.W.codeIn K cd0 "_law_cell" =true)(k0:PySem.W.keepIn K (.ref g0)=true)
 (a1:PySem.W.nsIn K mainGlobals "_law_far" =some (some (.ref g1)))
 (l1:LK K g1 oc1 od1 (FN "_law_far" "_law_far" pY kV1 dc1 pm1 an1 cd1 ct1) N_)
 (c1:PySem.W.codeIn K cd1 "_law_far" =true)(k1:PySem.W.keepIn K (.ref g1)=true)
 (a2:PySem.W.nsIn K mainGlobals "_law_rising" =some (some (.ref g2)))
 (l2:LK K g2 oc2 od2 (FN "_law_rising" "_law_rising" pZ kV2 dc2 pm2 an2 cd2 ct2) sl2)
 (c2:PySem.W.codeIn K cd2 "_law_rising" =true)(k2:PySem.W.keepIn K (.ref g2)=true)
 (a3:PySem.W.nsIn K mainGlobals "_law_high" =some (some (.ref g3)))
 (l3:LK K g3 oc3 od3 (FN "_law_high" "_law_high" qb kV3 dc3 pm3 an3 cd3 ct3) Oz)
 (c3:PySem.W.codeIn K cd3 "_law_high" =true)(k3:PySem.W.keepIn K (.ref g3)=true)
 (a4:PySem.W.nsIn K mainGlobals "_law_thing" =some (some (.ref g4)))
 (l4:LK K g4 oc4 od4 (FN "_law_thing" "_law_thing" g_ kV4 dc4 pm4 an4 cd4 ct4) sl4)
 (c4:PySem.W.codeIn K cd4 "_law_thing" =true)(k4:PySem.W.keepIn K (.ref g4)=true)
 (a5:PySem.W.nsIn K mainGlobals "is_place" =some (some (.ref g5)))
 (l5:LK K g5 oc5 od5 (FN "is_place" "is_place" qd kV5 dc5 pm5 an5 cd5 ct5) sl5)
 (c5:PySem.W.codeIn K cd5 "is_place" =true)(k5:PySem.W.keepIn K (.ref g5)=true)
 (a6:PySem.W.nsIn K mainGlobals "is_height" =some (some (.ref g6)))
 (l6:LK K g6 oc6 od6 (FN "is_height" "is_height" qe kV6 dc6 pm6 an6 cd6 ct6) sl6)
 (c6:PySem.W.codeIn K cd6 "is_height" =true)(k6:PySem.W.keepIn K (.ref g6)=true)
 (a7:PySem.W.nsIn K mainGlobals "makes_post" =some (some (.ref g7)))
 (l7:LK K g7 oc7 od7 (FN "makes_post" "makes_post" qg kV7 dc7 pm7 an7 cd7 ct7) sl7)
 (c7:PySem.W.codeIn K cd7 "makes_post" =true)(k7:PySem.W.keepIn K (.ref g7)=true)
 (a8:PySem.W.findIn K (.ref C2) "__init__" =some (some (.ref g8)))
 (l8:LK K g8 oc8 od8 (FN "__init__" "Thing.__init__" zx kV8 dc8 pm8 an8 cd8 ct8) sl8)
 (c8:PySem.W.codeIn K cd8 "Thing.__init__" =true)(k8:PySem.W.keepIn K (.ref g8)=true)
 (a9:PySem.W.nsIn K mainGlobals "has_two_ends" =some (some (.ref g9)))
 (l9:LK K g9 oc9 od9 (FN "has_two_ends" "has_two_ends" vY kV9 dc9 pm9 an9 cd9 ct9) sl9)
 (c9:PySem.W.codeIn K cd9 "has_two_ends" =true)(k9:PySem.W.keepIn K (.ref g9)=true)
 (a10:PySem.W.nsIn K mainGlobals "makes_fence" =some (some (.ref WX)))
 (l10:LK K WX Zb3 Zbt (FN "makes_fence" "makes_fence" qj RL RM RN Rm KN RP) ZbL)
 (c10:PySem.W.codeIn K KN "makes_fence" =true)(k10:PySem.W.keepIn K (.ref WX)=true)
 (a11:PySem.W.nsIn K mainGlobals "makes_sail_or_house" =some (some (.ref WY)))
 (l11:LK K WY Zb4 Zbu (FN "makes_sail_or_house" "makes_sail_or_house" zy RQ RT RW Rn KQ RX) ZbM)
 (c11:PySem.W.codeIn K KQ "makes_sail_or_house" =true)(k11:PySem.W.keepIn K (.ref WY)=true)
 (a12:PySem.W.nsIn K mainGlobals "is_cloth_corner" =some (some (.ref W_)))
 (l12:LK K W_ Zb5 Zbv (FN "is_cloth_corner" "is_cloth_corner" zA RZ R_ Sd Ro KR Sg) ZbN)
 (c12:PySem.W.codeIn K KR "is_cloth_corner" =true)(k12:PySem.W.keepIn K (.ref W_)=true)
 (a13:PySem.W.nsIn K mainGlobals "makes_cloth" =some (some (.ref Xc)))
 (l13:LK K Xc Zb6 Zbw (FN "makes_cloth" "makes_cloth" mF Sq Ss Sv Rq KY Sw) ZbO)
 (c13:PySem.W.codeIn K KY "makes_cloth" =true)(k13:PySem.W.keepIn K (.ref Xc)=true)
 (a14:PySem.W.nsIn K mainGlobals "thing_of" =some (some (.ref Xd)))
 (l14:LK K Xd Zb7 Zbx (FN "thing_of" "thing_of" ql Sx Sy SJ Rr KZ SM) ZbP)
 (c14:PySem.W.codeIn K KZ "thing_of" =true)(k14:PySem.W.keepIn K (.ref Xd)=true)
 (a15:PySem.W.nsIn K mainGlobals "level_corners" =some (some (.ref Xe)))
 (l15:LK K Xe Zb8 Zby (FN "level_corners" "level_corners" zB SN SQ SX Rt K_ S_) ZbQ)
 (c15:PySem.W.codeIn K K_ "level_corners" =true)(k15:PySem.W.keepIn K (.ref Xe)=true)
 (a16:PySem.W.nsIn K mainGlobals "block_corners" =some (some (.ref Xf)))
 (l16:LK K Xf Zb9 Zbz (FN "block_corners" "block_corners" zE Tc Td Te Ru La Tf) ZbR)
 (c16:PySem.W.codeIn K La "block_corners" =true)(k16:PySem.W.keepIn K (.ref Xf)=true)
 (a17:PySem.W.findIn K (.ref C3) "corners" =some (some (.ref Rg)))
 (l17:LK K Rg Zb_ ZbA (FN "corners" "Post.corners" zF Ti Tj Tn Rv Lb Tp) ZbS)
 (c17:PySem.W.codeIn K Lb "Post.corners" =true)(k17:PySem.W.keepIn K (.ref Rg)=true)
 (a18:PySem.W.findIn K (.ref C4) "corners" =some (some (.ref Rh)))
 (l18:LK K Rh Zca ZbB (FN "corners" "Fence.corners" zG Tq Tr Tt Rw Ld Tw) ZbT)
 (c18:PySem.W.codeIn K Ld "Fence.corners" =true)(k18:PySem.W.keepIn K (.ref Rh)=true)
 (a19:PySem.W.findIn K (.ref C5) "corners" =some (some (.ref Ri)))
 (l19:LK K Ri Zcb ZbC (FN "corners" "Sail.corners" qm Tz TF TJ Rx Le TQ) ZbU)
 (c19:PySem.W.codeIn K Le "Sail.corners" =true)(k19:PySem.W.keepIn K (.ref Ri)=true)
 (a20:PySem.W.findIn K (.ref C6) "corners" =some (some (.ref Rj)))
 (l20:LK K Rj Zcc ZbD (FN "corners" "Cloth.corners" vZ TV TX TY Ry Lf T_) ZbV)
 (c20:PySem.W.codeIn K Lf "Cloth.corners" =true)(k20:PySem.W.keepIn K (.ref Rj)=true)
 (a21:PySem.W.findIn K (.ref C7) "corners" =some (some (.ref Rk)))
 (l21:LK K Rk Zcd ZbE (FN "corners" "House.corners" zH Ua Ub Uc Rz Lg Ud) ZbW)
 (c21:PySem.W.codeIn K Lg "House.corners" =true)(k21:PySem.W.keepIn K (.ref Rk)=true)
 (a22:PySem.W.nsIn K mainGlobals "_law_kind" =some (some (.ref Xg)))
 (l22:LK K Xg Zce ZbF (FN "_law_kind" "_law_kind" mG Ue Ug Uh RB Li Ui) ZbX)
 (c22:PySem.W.codeIn K Li "_law_kind" =true)(k22:PySem.W.keepIn K (.ref Xg)=true)
 (a23:PySem.W.nsIn K mainGlobals "_law_same" =some (some (.ref Xh)))
 (l23:LK K Xh Zcf ZbG (FN "_law_same" "_law_same" mH Uj Uk Ul RD Lj Um) ZbY)
 (c23:PySem.W.codeIn K Lj "_law_same" =true)(k23:PySem.W.keepIn K (.ref Xh)=true)
 (a24:PySem.W.findIn K (.ref C2) "shown" =some (some (.ref BZ)))
 (l24:LK K BZ Zcg ZbH (FN "shown" "Thing.shown" mJ Uo Uq Ur RG Lk Us) ZbZ)
 (c24:PySem.W.codeIn K Lk "Thing.shown" =true)(k24:PySem.W.keepIn K (.ref BZ)=true)
 (a25:PySem.W.nsIn K mainGlobals "_law_level" =some (some (.ref Xi)))
 (l25:LK K Xi Zch ZbI (FN "_law_level" "_law_level" qt Ut Uu Uv RJ Ln Uw) Zb0)
 (c25:PySem.W.codeIn K Ln "_law_level" =true)(k25:PySem.W.keepIn K (.ref Xi)=true)
 (a26:PySem.W.nsIn K mainGlobals "_law_corners" =some (some (.ref Xj)))
 (l26:LK K Xj Zci ZbJ (FN "_law_corners" "_law_corners" jJ Ux Uy Uz RK Lp UG) Zb1)
 (c26:PySem.W.codeIn K Lp "_law_corners" =true)(k26:PySem.W.keepIn K (.ref Xj)=true)
 (a27:PySem.W.nsIn K mainGlobals "law" =some (some (.ref g27)))
 (l27:LK K g27 Zcj ZbK (FN "law" "law" dg Lq Lr Ls KJ Fd Lw) Zb2)
 (c27:PySem.W.codeIn K Fd "law" =true)(k27:PySem.W.keepIn K (.ref g27)=true)
 (x0:PySem.W.nsIn K mainGlobals "MOST_HEIGHT" =some (some (.int (1000000000) tk0)))
 (x1:PySem.W.nsIn K mainGlobals "MOST_PLACE" =some (some (.int (1000000000) tk1)))
 (z0:PySem.W.nsIn K mainGlobals "all" =some none)
 (z1:PySem.W.nsIn K mainGlobals "bool" =some none)
 (z2:PySem.W.nsIn K mainGlobals "int" =some none)
 (z3:PySem.W.nsIn K mainGlobals "isinstance" =some none)
 (z4:PySem.W.nsIn K mainGlobals "len" =some none)
 (z5:PySem.W.nsIn K mainGlobals "list" =some none)
 (z6:PySem.W.nsIn K mainGlobals "max" =some none)
 (z7:PySem.W.nsIn K mainGlobals "min" =some none)
 (z8:PySem.W.nsIn K mainGlobals "range" =some none)
 (z9:PySem.W.nsIn K mainGlobals "str" =some none)
 (z10:PySem.W.nsIn K mainGlobals "tuple" =some none)
 (q0:PySem.W.excIn K (aU C0 C1 C2 C3 C4 C5 C6 C7 "YardError") yO Jk=true)
 (q1:PySem.W.keepIn K (.ref (aU C0 C1 C2 C3 C4 C5 C6 C7 "YardError"))=true)
 (q2:cY K (aU C0 C1 C2 C3 C4 C5 C6 C7 "YardError")=true)
 (q3:PySem.W.excIn K (aU C0 C1 C2 C3 C4 C5 C6 C7 "BadThing") yO Jk=true)
 (q4:PySem.W.keepIn K (.ref (aU C0 C1 C2 C3 C4 C5 C6 C7 "BadThing"))=true)
 (q5:cY K (aU C0 C1 C2 C3 C4 C5 C6 C7 "BadThing")=true)
 (q6:pR K (aU C0 C1 C2 C3 C4 C5 C6 C7 "Thing")=true)
 (q7:FW K (aU C0 C1 C2 C3 C4 C5 C6 C7 "Thing") g8=true)
 (q8:PySem.W.findIn K (.ref (aU C0 C1 C2 C3 C4 C5 C6 C7 "Thing")) "word" =some none)
 (q9:PySem.W.findIn K (.ref (aU C0 C1 C2 C3 C4 C5 C6 C7 "Thing")) "numbers" =some none)
 (q10:bI K (aU C0 C1 C2 C3 C4 C5 C6 C7 "Thing") "shown" BZ=true)
 (q11:pR K (aU C0 C1 C2 C3 C4 C5 C6 C7 "Post")=true)
 (q12:FW K (aU C0 C1 C2 C3 C4 C5 C6 C7 "Post") g8=true)
 (q13:PySem.W.findIn K (.ref (aU C0 C1 C2 C3 C4 C5 C6 C7 "Post")) "word" =some none)
 (q14:PySem.W.findIn K (.ref (aU C0 C1 C2 C3 C4 C5 C6 C7 "Post")) "numbers" =some none)
 (q15:bI K (aU C0 C1 C2 C3 C4 C5 C6 C7 "Post") "shown" BZ=true)
 (q16:bI K (aU C0 C1 C2 C3 C4 C5 C6 C7 "Post") "corners" Rg=true)
 (q17:pR K (aU C0 C1 C2 C3 C4 C5 C6 C7 "Fence")=true)
 (q18:FW K (aU C0 C1 C2 C3 C4 C5 C6 C7 "Fence") g8=true)
 (q19:PySem.W.findIn K (.ref (aU C0 C1 C2 C3 C4 C5 C6 C7 "Fence")) "word" =some none)
 (q20:PySem.W.findIn K (.ref (aU C0 C1 C2 C3 C4 C5 C6 C7 "Fence")) "numbers" =some none)
 (q21:bI K (aU C0 C1 C2 C3 C4 C5 C6 C7 "Fence") "shown" BZ=true)
 (q22:bI K (aU C0 C1 C2 C3 C4 C5 C6 C7 "Fence") "corners" Rh=true)
 (q23:pR K (aU C0 C1 C2 C3 C4 C5 C6 C7 "Sail")=true)
 (q24:FW K (aU C0 C1 C2 C3 C4 C5 C6 C7 "Sail") g8=true)
 (q25:PySem.W.findIn K (.ref (aU C0 C1 C2 C3 C4 C5 C6 C7 "Sail")) "word" =some none)
 (q26:PySem.W.findIn K (.ref (aU C0 C1 C2 C3 C4 C5 C6 C7 "Sail")) "numbers" =some none)
 (q27:bI K (aU C0 C1 C2 C3 C4 C5 C6 C7 "Sail") "shown" BZ=true)
 (q28:bI K (aU C0 C1 C2 C3 C4 C5 C6 C7 "Sail") "corners" Ri=true)
 (q29:pR K (aU C0 C1 C2 C3 C4 C5 C6 C7 "Cloth")=true)
 (q30:FW K (aU C0 C1 C2 C3 C4 C5 C6 C7 "Cloth") g8=true)
 (q31:PySem.W.findIn K (.ref (aU C0 C1 C2 C3 C4 C5 C6 C7 "Cloth")) "word" =some none)
 (q32:PySem.W.findIn K (.ref (aU C0 C1 C2 C3 C4 C5 C6 C7 "Cloth")) "numbers" =some none)
 (q33:bI K (aU C0 C1 C2 C3 C4 C5 C6 C7 "Cloth") "shown" BZ=true)
 (q34:bI K (aU C0 C1 C2 C3 C4 C5 C6 C7 "Cloth") "corners" Rj=true)
 (q35:pR K (aU C0 C1 C2 C3 C4 C5 C6 C7 "House")=true)
 (q36:FW K (aU C0 C1 C2 C3 C4 C5 C6 C7 "House") g8=true)
 (q37:PySem.W.findIn K (.ref (aU C0 C1 C2 C3 C4 C5 C6 C7 "House")) "word" =some none)
 (q38:PySem.W.findIn K (.ref (aU C0 C1 C2 C3 C4 C5 C6 C7 "House")) "numbers" =some none)
 (q39:bI K (aU C0 C1 C2 C3 C4 C5 C6 C7 "House") "shown" BZ=true)
 (q40:bI K (aU C0 C1 C2 C3 C4 C5 C6 C7 "House") "corners" Rk=true)
 (q41:WD K (aU C0 C1 C2 C3 C4 C5 C6 C7) Z9=true)
 (q42:isC K (aU C0 C1 C2 C3 C4 C5 C6 C7) Z3=true)
 (q43:VR K (aU C0 C1 C2 C3 C4 C5 C6 C7) Z4=true)
 (q44:isD K (aU C0 C1 C2 C3 C4 C5 C6 C7) Z5=true)
 (q45:Ed K Z6=true)
 :∃fd:FuncData,(∀(s:Shared) (v:Value),BindsTo s fd ⟨[v],[]⟩ [("_law_script",v)])∧∀base:Heap,K.In base→base.Ns mainGlobals mg→∃cm,ľ l.prog w K mg base (aY l.prog w) 5 fa fd ["_law_script"] (bU ⟨K,cm⟩ 1 jV):=by
 have e:=hfa.symm.trans (PySem.W.mg_of X G a27)
 cases e
 have F0:=ĺ (st:=pX) l0 c0 k0
 have b0:=F0.binds (ps:=["_law_script","_law_at"]) fun _ _ _ _ _ _ us hl=>match us,hl with| [_,_],_=>rfl
 have F1:=ĺ (st:=pY) l1 c1 k1
 have b1:=F1.binds (ps:=["_law_cell_here"]) fun _ _ _ _ _ _ us hl=>match us,hl with| [_],_=>rfl
 have F2:=ĺ (st:=pZ) l2 c2 k2
 have b2:=F2.binds (ps:=["_law_one","_law_other"]) fun _ _ _ _ _ _ us hl=>match us,hl with| [_,_],_=>rfl
 have F3:=ĺ (st:=qb) l3 c3 k3
 have b3:=F3.binds (ps:=["_law_cell_here"]) fun _ _ _ _ _ _ us hl=>match us,hl with| [_],_=>rfl
 have F4:=ĺ (st:=g_) l4 c4 k4
 have b4:=F4.binds (ps:=["_law_script","_law_at"]) fun _ _ _ _ _ _ us hl=>match us,hl with| [_,_],_=>rfl
 have F5:=ĺ (st:=qd) l5 c5 k5
 have b5:=F5.binds (ps:=["number"]) fun _ _ _ _ _ _ us hl=>match us,hl with| [_],_=>rfl
 have F6:=ĺ (st:=qe) l6 c6 k6
 have b6:=F6.binds (ps:=["number"]) fun _ _ _ _ _ _ us hl=>match us,hl with| [_],_=>rfl
 have F7:=ĺ (st:=qg) l7 c7 k7
 have b7:=F7.binds (ps:=["numbers"]) fun _ _ _ _ _ _ us hl=>match us,hl with| [_],_=>rfl
 have F8:=ĺ (st:=zx) l8 c8 k8
 have b8:=F8.binds (ps:=["self","word","numbers"]) fun _ _ _ _ _ _ us hl=>match us,hl with| [_,_,_],_=>rfl
 have F9:=ĺ (st:=vY) l9 c9 k9
 have b9:=F9.binds (ps:=["numbers"]) fun _ _ _ _ _ _ us hl=>match us,hl with| [_],_=>rfl
 have F10:=ĺ (st:=qj) l10 c10 k10
 have b10:=F10.binds (ps:=["numbers"]) fun _ _ _ _ _ _ us hl=>match us,hl with| [_],_=>rfl
 have F11:=ĺ (st:=zy) l11 c11 k11
 have b11:=F11.binds (ps:=["numbers"]) fun _ _ _ _ _ _ us hl=>match us,hl with| [_],_=>rfl
 have F12:=ĺ (st:=zA) l12 c12 k12
 have b12:=F12.binds (ps:=["numbers"]) fun _ _ _ _ _ _ us hl=>match us,hl with| [_],_=>rfl
 have F13:=ĺ (st:=mF) l13 c13 k13
 have b13:=F13.binds (ps:=["numbers"]) fun _ _ _ _ _ _ us hl=>match us,hl with| [_],_=>rfl
 have F14:=ĺ (st:=ql) l14 c14 k14
 have b14:=F14.binds (ps:=["word","numbers"]) fun _ _ _ _ _ _ us hl=>match us,hl with| [_,_],_=>rfl
 have F15:=ĺ (st:=zB) l15 c15 k15
 have b15:=F15.binds (ps:=["x","y","u","v","z"]) fun _ _ _ _ _ _ us hl=>match us,hl with| [_,_,_,_,_],_=>rfl
 have F16:=ĺ (st:=zE) l16 c16 k16
 have b16:=F16.binds (ps:=["x","y","u","v","h"]) fun _ _ _ _ _ _ us hl=>match us,hl with| [_,_,_,_,_],_=>rfl
 have F17:=ĺ (st:=zF) l17 c17 k17
 have b17:=F17.binds (ps:=["self"]) fun _ _ _ _ _ _ us hl=>match us,hl with| [_],_=>rfl
 have F18:=ĺ (st:=zG) l18 c18 k18
 have b18:=F18.binds (ps:=["self"]) fun _ _ _ _ _ _ us hl=>match us,hl with| [_],_=>rfl
 have F19:=ĺ (st:=qm) l19 c19 k19
 have b19:=F19.binds (ps:=["self"]) fun _ _ _ _ _ _ us hl=>match us,hl with| [_],_=>rfl
 have F20:=ĺ (st:=vZ) l20 c20 k20
 have b20:=F20.binds (ps:=["self"]) fun _ _ _ _ _ _ us hl=>match us,hl with| [_],_=>rfl
 have F21:=ĺ (st:=zH) l21 c21 k21
 have b21:=F21.binds (ps:=["self"]) fun _ _ _ _ _ _ us hl=>match us,hl with| [_],_=>rfl
 have F22:=ĺ (st:=mG) l22 c22 k22
 have b22:=F22.binds (ps:=["_law_thing_here","_law_word"]) fun _ _ _ _ _ _ us hl=>match us,hl with| [_,_],_=>rfl
 have F23:=ĺ (st:=mH) l23 c23 k23
 have b23:=F23.binds (ps:=["_law_found","_law_due"]) fun _ _ _ _ _ _ us hl=>match us,hl with| [_,_],_=>rfl
 have F24:=ĺ (st:=mJ) l24 c24 k24
 have b24:=F24.binds (ps:=["self"]) fun _ _ _ _ _ _ us hl=>match us,hl with| [_],_=>rfl
 have F25:=ĺ (st:=qt) l25 c25 k25
 have b25:=F25.binds (ps:=["_law_x","_law_y","_law_u","_law_v","_law_z"]) fun _ _ _ _ _ _ us hl=>match us,hl with| [_,_,_,_,_],_=>rfl
 have F26:=ĺ (st:=jJ) l26 c26 k26
 have b26:=F26.binds (ps:=["_law_word","_law_numbers"]) fun _ _ _ _ _ _ us hl=>match us,hl with| [_,_],_=>rfl
 have F27:=ĺ (st:=dg) l27 c27 k27
 have b27:=F27.binds (ps:=["_law_script"]) fun _ _ _ _ _ _ us hl=>match us,hl with| [_],_=>rfl
 have T:Tx K mg ⟨g0,FN "_law_cell" "_law_cell" pX kV0 dc0 pm0 an0 cd0 ct0,g1,FN "_law_far" "_law_far" pY kV1 dc1 pm1 an1 cd1 ct1,g2,FN "_law_rising" "_law_rising" pZ kV2 dc2 pm2 an2 cd2 ct2,g3,FN "_law_high" "_law_high" qb kV3 dc3 pm3 an3 cd3 ct3,g4,FN "_law_thing" "_law_thing" g_ kV4 dc4 pm4 an4 cd4 ct4,g5,FN "is_place" "is_place" qd kV5 dc5 pm5 an5 cd5 ct5,g6,FN "is_height" "is_height" qe kV6 dc6 pm6 an6 cd6 ct6,g7,FN "makes_post" "makes_post" qg kV7 dc7 pm7 an7 cd7 ct7,g8,FN "__init__" "Thing.__init__" zx kV8 dc8 pm8 an8 cd8 ct8,g9,FN "has_two_ends" "has_two_ends" vY kV9 dc9 pm9 an9 cd9 ct9,WX,FN "makes_fence" "makes_fence" qj RL RM RN Rm KN RP,WY,FN "makes_sail_or_house" "makes_sail_or_house" zy RQ RT RW Rn KQ RX,W_,FN "is_cloth_corner" "is_cloth_corner" zA RZ R_ Sd Ro KR Sg,Xc,FN "makes_cloth" "makes_cloth" mF Sq Ss Sv Rq KY Sw,Xd,FN "thing_of" "thing_of" ql Sx Sy SJ Rr KZ SM,Xe,FN "level_corners" "level_corners" zB SN SQ SX Rt K_ S_,Xf,FN "block_corners" "block_corners" zE Tc Td Te Ru La Tf,Rg,FN "corners" "Post.corners" zF Ti Tj Tn Rv Lb Tp,Rh,FN "corners" "Fence.corners" zG Tq Tr Tt Rw Ld Tw,Ri,FN "corners" "Sail.corners" qm Tz TF TJ Rx Le TQ,Rj,FN "corners" "Cloth.corners" vZ TV TX TY Ry Lf T_,Rk,FN "corners" "House.corners" zH Ua Ub Uc Rz Lg Ud,Xg,FN "_law_kind" "_law_kind" mG Ue Ug Uh RB Li Ui,Xh,FN "_law_same" "_law_same" mH Uj Uk Ul RD Lj Um,BZ,FN "shown" "Thing.shown" mJ Uo Uq Ur RG Lk Us,Xi,FN "_law_level" "_law_level" qt Ut Uu Uv RJ Ln Uw,Xj,FN "_law_corners" "_law_corners" jJ Ux Uy Uz RK Lp UG,fa,FN "law" "law" dg Lq Lr Ls KJ Fd Lw,C0,C1,C2,C3,C4,C5,C6,C7,tk0,tk1⟩:=⟨F0,PySem.W.mg_of X G a0,b0,F1,PySem.W.mg_of X G a1,b1,F2,PySem.W.mg_of X G a2,b2,F3,PySem.W.mg_of X G a3,b3,F4,PySem.W.mg_of X G a4,b4,F5,PySem.W.mg_of X G a5,b5,F6,PySem.W.mg_of X G a6,b6,F7,PySem.W.mg_of X G a7,b7,F8,b8,F9,PySem.W.mg_of X G a9,b9,F10,PySem.W.mg_of X G a10,b10,F11,PySem.W.mg_of X G a11,b11,F12,PySem.W.mg_of X G a12,b12,F13,PySem.W.mg_of X G a13,b13,F14,PySem.W.mg_of X G a14,b14,F15,PySem.W.mg_of X G a15,b15,F16,PySem.W.mg_of X G a16,b16,F17,b17,F18,b18,F19,b19,F20,b20,F21,b21,F22,PySem.W.mg_of X G a22,b22,F23,PySem.W.mg_of X G a23,b23,F24,b24,F25,PySem.W.mg_of X G a25,b25,F26,PySem.W.mg_of X G a26,b26,F27,PySem.W.mg_of X G a27,b27,PySem.W.mg_of X G u0,PySem.W.mg_of X G u1,PySem.W.mg_of X G u2,PySem.W.mg_of X G u3,PySem.W.mg_of X G u4,PySem.W.mg_of X G u5,PySem.W.mg_of X G u6,PySem.W.mg_of X G u7,q0,q1,q2,q3,q4,q5,gH q6,lY q7,q8,q9,ų q10,gH q11,lY q12,q13,q14,ų q15,ų q16,gH q17,lY q18,q19,q20,ų q21,ų q22,gH q23,lY q24,q25,q26,ų q27,ų q28,gH q29,lY q30,q31,q32,ų q33,ų q34,gH q35,lY q36,q37,q38,ų q39,ų q40,zu q41,yU q42,yV q43,yW q44,uJ q45,PySem.W.mg_of X G x0,PySem.W.mg_of X G x1,PySem.W.mg_none_of X G z0,PySem.W.mg_none_of X G z1,PySem.W.mg_none_of X G z2,PySem.W.mg_none_of X G z3,PySem.W.mg_none_of X G z4,PySem.W.mg_none_of X G z5,PySem.W.mg_none_of X G z6,PySem.W.mg_none_of X G z7,PySem.W.mg_none_of X G z8,PySem.W.mg_none_of X G z9,PySem.W.mg_none_of X G z10⟩
 exact⟨PySem.W.fnOf "law" "law" (dB dg) (aC dg) (Ĉ dg) .none Lq Lr Ls KJ Fd Lw,fun s v=>.of_eq rfl,fun base _ _=>⟨_,KH T⟩⟩
theorem ZS(ns:List Int)(hn:ns.length≤63):jV [.sh (.lst (ns.map .int))]=.ret (.sh (.bl true)):=by
 obtain⟨ka,xa,ea,ba⟩:=ZB ns 0
 obtain⟨kb,xb,eb,bb⟩:=ZB ns 10
 have ea':aR [.sh (.lst (ns.map .int)),.sh (.int 0)]=_:=ea
 have eb':aR [.sh (.lst (ns.map .int)),.sh (.int 10)]=_:=eb
 have ga:=Zw (ZF ka) (xs:=xa) (sl:=.bw (xa.map .int)) (.inr rfl)
 have gb:=Zw (ZF kb) (xs:=xb) (sl:=.bw (xb.map .int)) (.inr rfl)
 rw[if_pos (Zr ba)] at ga
 rw[if_pos (Zr bb)] at gb
 have la:=ZN ba
 have lb:=ZN bb
 have st0:∀(S:List PV) (Pb:List PV) (z0 z5 z6 z7 z8:P.Slot),S.length≤10→_:=fun S Pb z0 z5 z6 z7 z8 hS=>ZM ba (Told:=[.tup [.str (wd ka),.lst (xa.map .int)],.tup [.str (wd kb),.lst (xb.map .int)]]) (Things:=[Z0 (Z1 (wd ka)) (wd ka) xa,Z0 (Z1 (wd kb)) (wd kb) xb]) (S:=S) (Ů:=[xa.map .int++S,Pb]) (i:=0) rfl rfl rfl hS z0 z5 z6 z7 z8
 have st1:∀(S:List PV) (Pa:List PV) (z0 z5 z6 z7 z8:P.Slot),S.length≤10→_:=fun S Pa z0 z5 z6 z7 z8 hS=>ZM bb (Told:=[.tup [.str (wd ka),.lst (xa.map .int)],.tup [.str (wd kb),.lst (xb.map .int)]]) (Things:=[Z0 (Z1 (wd ka)) (wd ka) xa,Z0 (Z1 (wd kb)) (wd kb) xb]) (S:=S) (Ů:=[Pa,xb.map .int++S]) (i:=1) rfl rfl rfl hS z0 z5 z6 z7 z8
 have fin:ŉ (.lst [.lst (xa.map .int ++ [.int 5,.int 5]),.lst (xb.map .int ++ [.int 5,.int 5])]) (.lst [.lst (xa.map .int ++ [.int 5,.int 5]),.lst (xb.map .int ++ [.int 5,.int 5])])=some (.bl true):=by
  have ha:xa.map PV.int ++ [.int 5,.int 5]=(xa ++ [5,5]).map PV.int:=by simp
  have hb:xb.map PV.int ++ [.int 5,.int 5]=(xb ++ [5,5]).map PV.int:=by simp
  rw[ha,hb]
  have i1:=jE (xa ++ [5,5])
  have i2:=jE (xb ++ [5,5])
  have j1:=jF (xa ++ [5,5])
  have j2:=jF (xb ++ [5,5])
  exact mj (by simp only[ū,bD,i1,i2];rfl) (by simp only[dep,gG];omega)
 generalize Z0 (Z1 (wd ka)) (wd ka) xa=Ta at *
 generalize Z0 (Z1 (wd kb)) (wd kb) xb=Tb at *
 generalize xa.map PV.int=Xa at *
 generalize xb.map PV.int=Xb at *
 generalize wd ka=Wa at *
 generalize wd kb=Wb at *
 generalize ns.map PV.int=NS at *
 obtain⟨a5,a6,a7,a8,f0⟩:=st0 [] Xb (.sh (.lst NS)) .no .no .no .no (by simp)
 obtain⟨b5,b6,b7,b8,f1⟩:=st1 [] (Xa ++ [.int 5]) (.sh (.lst NS)) a5 a6 a7 a8 (by simp)
 obtain⟨c5,c6,c7,c8,f2⟩:=st1 [.int 5] (Xa ++ [.int 5]) (.sh (.lst NS)) b5 b6 b7 b8 (by simp)
 obtain⟨d5,d6,d7,d8,f3⟩:=st0 [.int 5] (Xb ++ [.int 5,.int 5]) (.sh (.lst NS)) c5 c6 c7 c8 (by simp)
 simp at f0 f1 f2 f3
 have co:bx (gT 2 (Ī (gN 0) (Ī (gN 1) aM))) aH (yd jt (ā (ă 1) ė)) [.tup [.str Wa,.lst Xa],.tup [.str Wb,.lst Xb]] [.no,.no] []=some [Xa,Xb]:=by
  simp[bx]
 have cf:Ŗ (gT 2 (Ī (gN 0) (Ī (gN 1) aM))) aH (Ė (Ņ ķ (ă 1) (Ė (aG (ā (mC (.int 5)) (ā (mC (.int 5)) ė)))))) [.tup [.str Wa,.lst Xa],.tup [.str Wb,.lst Xb]] [.no,.no] []=some [.lst (Xa ++ [.int 5,.int 5]),.lst (Xb ++ [.int 5,.int 5])]:=by
  simp[Ŗ,la,lb]
 simp[jV,sG,List.replicate,ea',eb',co,ga,gb,forL,f0,f1,f2,f3,cf,fin]
theorem Z0u{l:PySem.W.OpenLaw}{q:Program}{loose:List Str}{XP:(Str→Option Value)→Heap→Prop}{YP:World→Heap→Prop}{d:DefRec}{K:Params→PySem.W.Frag}(hn:l.most=some 63)(hdf:d.params.defaults=[])
 (hY:∀(w:World) (h:Heap),YP w h→(K w.params).In h)
 (F:∀(w:World) (mg:Str→Option Value) (fa:Addr) (h:Heap),(K w.params).In h→h.Ns mainGlobals mg→mg d.name=some (.ref fa)→
   ∃fd:FuncData,(∀(s:Shared) (u:Value),BindsTo s fd ⟨[u],[]⟩ [("_law_script",u)])∧∀base:Heap,(K w.params).In base→base.Ns mainGlobals mg→∃cm,ľ l.prog w (K w.params) mg base (aY l.prog w) 5 fa fd ["_law_script"] (bU ⟨K w.params,cm⟩ 1 jV)) :
 PySem.W.WalkO q loose XP YP l.row.toRowW d [] (fun f vs=>PySem.call f vs):=
 P.vW (k:=5) (x:= "_law_script") (m:=jV) hn hdf ⟨rfl,by decide,by decide⟩ hY F ZS
end T
namespace PySem.W.Fast
def tw5599273355540886006:=0
def tw2846477431585972889:=0
def tw10075916782484024588:=0
def tw1386087435228602900:=0
def tw16090509469208344237:=0
def tw1837449569867740653:=0
def tw6085445988937059954:=0
def tw833914197882330500:=0
def tw2357501245353392798:=0
def tw7946405847331228612:=0
def tw7778760055133012681:=0
def tw6210793915236881311:=0
def tw7340068298389150853:=0
def tw11104610357814572495:=0
def tw16029726112868361930:=0
def tw15670977912678578186:=0
def tw5655271774274198325:=0
def tw16730313560861189450:=0
def tw9492623461642054302:=0
def tw1734118446441608310:=0
def tw202338485603951471:=0
def tw16054000299028984804:=0
def tw6236850346097854951:=0
def tw13535920724536635604:=0
def tw13897162296126368381:=0
def tw3751645767471286709:=0
def tw12224141984706239977:=0
def tw784536516837528666:=0
def tw9193054655566074365:=0
def tw1718392021720472633:=0
def tw3736643559281493617:=0
def tw15018194303639605130:=0
def tw15843893747825699865:=0
def tw2558730925639017258:=0
def tw10710108573852725680:=0
def tw12103898489669975761:=0
def tw16582778582602021826:=0
def tw2022131941358882762:=0
def tw4586509895419728656:=0
def tw10107465650728570959:=0
def tw4431324765486042690:=0
def tw7405750399914463817:=0
def tw7794968230561039158:=0
def tw16251824309293544582:=0
def tw14976523284513157744:=0
def tw7227088879695778095:=0
def tw4163286448871316435:=0
def tw3921724271061256353:=0
def tw15217735196837086205:=0
def tw8272634196939776676:=0
def tw4958532481384661958:=0
def tw12332216699776576139:=0
def tw9772768698015943990:=0
def tw2600803544186654064:=0
def tw6324304324498373732:=0
def tw10386570047184694750:=0
def tw9317093743125246969:=0
def tw6005645920811771066:=0
def tw14062933649651140006:=0
def tw8535122133491173237:=0
def tw3587811327842218713:=0
def tw10476060708025473455:=0
def tw2651470326110707145:=0
def tw3349447663363644231:=0
def tw17417609835141865316:=0
def tw2507714706641875326:=0
def tw14806879365163705903:=0
def tw3193501069628021508:=0
def tw7253592280395743414:=0
def tw10911587455784558650:=0
def tw10061807672666838121:=0
def tw1619054756222847867:=0
def tw9785489282076894994:=0
def tw2973184065189259981:=0
def tw18156156410824051230:=0
def tw8220742023053033222:=0
def tw7411552808348206956:=0
def tw12101033527000934142:=0
def tw17770208351616797729:=0
def tw12349580739609898268:=0
def tw11963107554387086637:=0
def tw5438913442851822702:=0
def tw9191010825443687956:=0
def tw2660596383261770705:=0
def tw12095074461555745572:=0
def tw1694023021752580567:=0
def tw11883578967716113805:=0
def tw16544388348490312272:=0
def tw4217001911998101691:=0
def tw8364982323629111269:=0
def tw5416979225842973536:=0
def tw100172315373963628:=0
def tw7489378172711620111:=0
def tw924694368625533676:=0
def tw7538027269869956231:=0
def tw10376173087013451675:=0
def tw2379933093082247440:=0
def tw16277709091269555040:=0
def tw4174573013459398341:=0
def tw8624344609969021354:=0
def tw11967676275597006658:=0
def tw75700271523126017:=0
def tw570520878770148938:=0
def tw1726111320843846847:=0
def tw17263731498802972781:=0
def tw10734378250192952928:=0
def tw11333832030129672116:=0
def tw17961628595665376666:=0
def tw5163009418925730224:=0
def tw17404131795545112566:=0
def tw9170195143267231624:=0
def tw13849209695171805051:=0
def tw8368141915439887406:=0
def tw16340889959542815031:=0
def tw2664216519547609761:=0
def tw2580406541963186221:=0
def tw8726183274370278740:=0
def tw13683092412616147786:=0
def tw17666467459059575141:=0
def tw4049665426176880681:=0
def tw6522166765950653691:=0
def tw16018528848425503244:=0
def tw6173473938680638927:=0
def tw3557277021656461149:=0
def tw16938834346217979973:=0
def tw2754006827651229808:=0
def tw5940126237303824138:=0
def tw7963616255220991789:=0
def tw4357361187747933961:=0
def tw14826564675090779652:=0
def tw3368356964924680694:=0
def tw14477630603920954857:=0
def tw1447524406755480750:=0
def tw9618406945234199169:=0
def tw11210472838511113685:=0
def tw1023619746215733741:=0
def tw12616023356605182017:=0
def tw10717829080276586921:=0
def tw17473553667336512692:=0
def tw15768112252706266741:=0
def tw7891502964955525238:=0
def tw1922985655000218531:=0
def tw7056341652815315558:=0
def tw10492215556800491110:=0
def tw13926810327136491862:=0
def tw9413090013465891445:=0
def tw237186451964032083:=0
def tw4320926292613196509:=0
def tw13914669483070374443:=0
def tw13151102109188676751:=0
def tw16070500565989681683:=0
def tw7414377767978952896:=0
def tw9804470855282660205:=0
def tw13770286073173878532:=0
def tw9795757679810995297:=0
def tw5130090563602810883:=0
def tw4394211540427614852:=0
def tw6938931432784660729:=0
def tw14089278924597443113:=0
def tw16625416445299469342:=0
def tw11775692277221087355:=0
def tw1660461938997718175:=0
def tw15551031844722837104:=0
def tw4799816020717712049:=0
def tw17329460666187551240:=0
def tw15398375759623708338:=0
def tw5639031766837823322:=0
def tw11722803398785299239:=0
def tw3360119194800433478:=0
def tw15803060612037928496:=0
def tw12580946810636091912:=0
def tw11383983904900058405:=0
def tw6410450098651095383:=0
def tw1269685119161744042:=0
def tw9803362285024270319:=0
def tw15000266547405963307:=0
def tw5241335198309418140:=0
def tw4696519666841912973:=0
def tw2919801233723196047:=0
def tw12268889815216202201:=0
def tw13088871548882604823:=0
def tw1968638400810978194:=0
def tw15149688979268328305:=0
def tw12860478140806159317:=0
def tw14066171157303297177:=0
def tw17941554000784766819:=0
def tw1852264837356202534:=0
def tw3542349976268979338:=0
def tw12121332089038343117:=0
def tw14155332507894377210:=0
def tw16844126968855168196:=0
def tw13050335111058055624:=0
def tw5614002426961644151:=0
def tw5332950941455014692:=0
def tw13829225163615514007:=0
def tw2887931885504481372:=0
def tw3366250952988182288:=0
def tw9031790535211669107:=0
def tw4294089216374011188:=0
def tw8570338790150034269:=0
def tw10843751672171697796:=0
def tw9892161394051636761:=0
def tw9378457221721130298:=0
def tw11305512342935212016:=0
def tw7827204717946359855:=0
def tw6410516035302779259:=0
def tw1746413195623351987:=0
def tw16911447172888451614:=0
def tw487777325548856404:=0
def tw10108854776432214689:=0
def tw9888637966536401996:=0
def tw16938664968587851557:=0
def tw13330287177042247186:=0
def tw11804959876235678949:=0
def tw2597887376071262515:=0
def tw7263300108125406032:=0
def tw2222979461074546818:=0
def tw11674099980064453321:=0
def tw13402562964220987684:=0
def tw955649590137055883:=0
def tw5720951955610709771:=0
def tw14897846164611062207:=0
def tw157051439666611506:=0
def tw1948406286832517310:=0
def tw8630169752191169573:=0
def tw3894507624807905740:=0
def tw17024077799698900131:=0
def tw18168426460966109006:=0
def tw11453267610213932409:=0
def tw4220367253896606154:=0
def tw10169055717812013451:=0
def tw4590286913530567738:=0
def tw4532154935217656239:=0
def tw6825781163068051858:=0
def tw2286141163026997042:=0
def tw4068933502036779605:=0
def tw18127681593829407927:=0
def tw2685493760875457271:=0
def tw16264213409019887574:=0
def tw3165435070747319663:=0
def tw2578458686353951485:=0
def tw2402832825015224230:=0
def tw3079250545978095891:=0
def tw16540678107422281403:=0
def tw63906255691597321:=0
def tw2619637142216657022:=0
def tw6733637154848218975:=0
def tw17899054093624482994:=0
def tw2714126096703302381:=0
def tw6673146121717032954:=0
def tw12146424662702602317:=0
def tw10596743382367692569:=0
def tw7352689918619291269:=0
def tw5105057704396618574:=0
def tw13776208366113887419:=0
def tw12973386571973405143:=0
def tw634447182427054296:=0
def tw11452625420647914510:=0
def tw14876359616387374118:=0
def tw1712841771749559494:=0
def tw8112803595249807485:=0
def tw16785873677978611304:=0
def tw1964335959071274320:=0
def tw15355063452778097188:=0
def tw13960080366615709183:=0
def tw7639501536973159759:=0
def tw4195176314951758076:=0
def tw17796383485417378405:=0
def tw13200257939713554300:=0
def tw5095279311135871349:=0
def tw6780209677519344970:=0
def tw11023242644792106378:=0
def tw13008794551035397642:=0
def tw13073863507632217046:=0
def tw15555854200277774780:=0
def tw4812823949151392076:=0
def tw14441672892609784874:=0
def tw10175442592159764093:=0
def tw5322645568919629853:=0
def tw16160612191952501553:=0
def tw5640707781959324066:=0
def tw6763943036163748848:=0
def tw18040334090476442556:=0
def tw6433211227240134935:=0
def tw16343334120323807357:=0
def tw1152822489833472305:=0
def tw14650660520462785636:=0
def tw17135846904850123100:=0
end PySem.W.Fast
open PySem PySem.W PyProof.Rows
set_option maxRecDepth 100000 in
set_option maxHeartbeats 0 in
theorem PySem.Challenge.cw_shadowpost_k21_corners_of_things_holds : PySem.Challenge.rw_shadowpost_k21_corners_of_things.Holds := by
 w_on;o_law;k_head;(case hw=>w_witness2)
 k_fill
 refine T.Z0u (l:=PySem.Challenge.rw_shadowpost_k21_corners_of_things) rfl rfl (fun w h Y=>PySem.W.kIn_of Y) ?F
 case F=>
  intro w mg fa h KX G hmg
  refine' T.Z0k KX G hmg ?u0 ?u1 ?u2 ?u3 ?u4 ?u5 ?u6 ?u7 ?a0 ?l0 ?c0 ?k0 ?a1 ?l1 ?c1 ?k1 ?a2 ?l2 ?c2 ?k2 ?a3 ?l3 ?c3 ?k3 ?a4 ?l4 ?c4 ?k4 ?a5 ?l5 ?c5 ?k5 ?a6 ?l6 ?c6 ?k6 ?a7 ?l7 ?c7 ?k7 ?a8 ?l8 ?c8 ?k8 ?a9 ?l9 ?c9 ?k9 ?a10 ?l10 ?c10 ?k10 ?a11 ?l11 ?c11 ?k11 ?a12 ?l12 ?c12 ?k12 ?a13 ?l13 ?c13 ?k13 ?a14 ?l14 ?c14 ?k14 ?a15 ?l15 ?c15 ?k15 ?a16 ?l16 ?c16 ?k16 ?a17 ?l17 ?c17 ?k17 ?a18 ?l18 ?c18 ?k18 ?a19 ?l19 ?c19 ?k19 ?a20 ?l20 ?c20 ?k20 ?a21 ?l21 ?c21 ?k21 ?a22 ?l22 ?c22 ?k22 ?a23 ?l23 ?c23 ?k23 ?a24 ?l24 ?c24 ?k24 ?a25 ?l25 ?c25 ?k25 ?a26 ?l26 ?c26 ?k26 ?a27 ?l27 ?c27 ?k27 ?x0 ?x1 ?z0 ?z1 ?z2 ?z3 ?z4 ?z5 ?z6 ?z7 ?z8 ?z9 ?z10 ?q0 ?q1 ?q2 ?q3 ?q4 ?q5 ?q6 ?q7 ?q8 ?q9 ?q10 ?q11 ?q12 ?q13 ?q14 ?q15 ?q16 ?q17 ?q18 ?q19 ?q20 ?q21 ?q22 ?q23 ?q24 ?q25 ?q26 ?q27 ?q28 ?q29 ?q30 ?q31 ?q32 ?q33 ?q34 ?q35 ?q36 ?q37 ?q38 ?q39 ?q40 ?q41 ?q42 ?q43 ?q44 ?q45
  (case u0=>k_is)
  (case u1=>k_is)
  (case u2=>k_is)
  (case u3=>k_is)
  (case u4=>k_is)
  (case u5=>k_is)
  (case u6=>k_is)
  (case u7=>k_is)
  (case a0=>k_is)
  (case l0=>unfold T.LK T.FN;k_is)
  (case c0=>k_is)
  (case k0=>k_is)
  (case a1=>k_is)
  (case l1=>unfold T.LK T.FN;k_is)
  (case c1=>k_is)
  (case k1=>k_is)
  (case a2=>k_is)
  (case l2=>unfold T.LK T.FN;k_is)
  (case c2=>k_is)
  (case k2=>k_is)
  (case a3=>k_is)
  (case l3=>unfold T.LK T.FN;k_is)
  (case c3=>k_is)
  (case k3=>k_is)
  (case a4=>k_is)
  (case l4=>unfold T.LK T.FN;k_is)
  (case c4=>k_is)
  (case k4=>k_is)
  (case a5=>k_is)
  (case l5=>unfold T.LK T.FN;k_is)
  (case c5=>k_is)
  (case k5=>k_is)
  (case a6=>k_is)
  (case l6=>unfold T.LK T.FN;k_is)
  (case c6=>k_is)
  (case k6=>k_is)
  (case a7=>k_is)
  (case l7=>unfold T.LK T.FN;k_is)
  (case c7=>k_is)
  (case k7=>k_is)
  (case a8=>k_is)
  (case l8=>unfold T.LK T.FN;k_is)
  (case c8=>k_is)
  (case k8=>k_is)
  (case a9=>k_is)
  (case l9=>unfold T.LK T.FN;k_is)
  (case c9=>k_is)
  (case k9=>k_is)
  (case a10=>k_is)
  (case l10=>unfold T.LK T.FN;k_is)
  (case c10=>k_is)
  (case k10=>k_is)
  (case a11=>k_is)
  (case l11=>unfold T.LK T.FN;k_is)
  (case c11=>k_is)
  (case k11=>k_is)
  (case a12=>k_is)
  (case l12=>unfold T.LK T.FN;k_is)
  (case c12=>k_is)
  (case k12=>k_is)
  (case a13=>k_is)
  (case l13=>unfold T.LK T.FN;k_is)
  (case c13=>k_is)
  (case k13=>k_is)
  (case a14=>k_is)
  (case l14=>unfold T.LK T.FN;k_is)
  (case c14=>k_is)
  (case k14=>k_is)
  (case a15=>k_is)
  (case l15=>unfold T.LK T.FN;k_is)
  (case c15=>k_is)
  (case k15=>k_is)
  (case a16=>k_is)
  (case l16=>unfold T.LK T.FN;k_is)
  (case c16=>k_is)
  (case k16=>k_is)
  (case a17=>k_is)
  (case l17=>unfold T.LK T.FN;k_is)
  (case c17=>k_is)
  (case k17=>k_is)
  (case a18=>k_is)
  (case l18=>unfold T.LK T.FN;k_is)
  (case c18=>k_is)
  (case k18=>k_is)
  (case a19=>k_is)
  (case l19=>unfold T.LK T.FN;k_is)
  (case c19=>k_is)
  (case k19=>k_is)
  (case a20=>k_is)
  (case l20=>unfold T.LK T.FN;k_is)
  (case c20=>k_is)
  (case k20=>k_is)
  (case a21=>k_is)
  (case l21=>unfold T.LK T.FN;k_is)
  (case c21=>k_is)
  (case k21=>k_is)
  (case a22=>k_is)
  (case l22=>unfold T.LK T.FN;k_is)
  (case c22=>k_is)
  (case k22=>k_is)
  (case a23=>k_is)
  (case l23=>unfold T.LK T.FN;k_is)
  (case c23=>k_is)
  (case k23=>k_is)
  (case a24=>k_is)
  (case l24=>unfold T.LK T.FN;k_is)
  (case c24=>k_is)
  (case k24=>k_is)
  (case a25=>k_is)
  (case l25=>unfold T.LK T.FN;k_is)
  (case c25=>k_is)
  (case k25=>k_is)
  (case a26=>k_is)
  (case l26=>unfold T.LK T.FN;k_is)
  (case c26=>k_is)
  (case k26=>k_is)
  (case a27=>k_is)
  (case l27=>unfold T.LK T.FN;k_is)
  (case c27=>k_is)
  (case k27=>k_is)
  (case x0=>k_is)
  (case x1=>k_is)
  (case z0=>k_is)
  (case z1=>k_is)
  (case z2=>k_is)
  (case z3=>k_is)
  (case z4=>k_is)
  (case z5=>k_is)
  (case z6=>k_is)
  (case z7=>k_is)
  (case z8=>k_is)
  (case z9=>k_is)
  (case z10=>k_is)
  (case q0=>kernel_rfl)
  (case q1=>kernel_rfl)
  (case q2=>kernel_rfl)
  (case q3=>kernel_rfl)
  (case q4=>kernel_rfl)
  (case q5=>kernel_rfl)
  (case q6=>kernel_rfl)
  (case q7=>kernel_rfl)
  (case q8=>kernel_rfl)
  (case q9=>kernel_rfl)
  (case q10=>kernel_rfl)
  (case q11=>kernel_rfl)
  (case q12=>kernel_rfl)
  (case q13=>kernel_rfl)
  (case q14=>kernel_rfl)
  (case q15=>kernel_rfl)
  (case q16=>kernel_rfl)
  (case q17=>kernel_rfl)
  (case q18=>kernel_rfl)
  (case q19=>kernel_rfl)
  (case q20=>kernel_rfl)
  (case q21=>kernel_rfl)
  (case q22=>kernel_rfl)
  (case q23=>kernel_rfl)
  (case q24=>kernel_rfl)
  (case q25=>kernel_rfl)
  (case q26=>kernel_rfl)
  (case q27=>kernel_rfl)
  (case q28=>kernel_rfl)
  (case q29=>kernel_rfl)
  (case q30=>kernel_rfl)
  (case q31=>kernel_rfl)
  (case q32=>kernel_rfl)
  (case q33=>kernel_rfl)
  (case q34=>kernel_rfl)
  (case q35=>kernel_rfl)
  (case q36=>kernel_rfl)
  (case q37=>kernel_rfl)
  (case q38=>kernel_rfl)
  (case q39=>kernel_rfl)
  (case q40=>kernel_rfl)
  (case q41=>kernel_rfl)
  (case q42=>kernel_rfl)
  (case q43=>kernel_rfl)
  (case q44=>kernel_rfl)
  (case q45=>kernel_rfl)
