import PyProof.Rows.All
import Wide.All
import OpenK.AllK
import Wide.FinOn
import Lean
import PyProof.EqAt
import PyProof.EqKinds
import PyProof.TupleCall
import PySem.Challenge.RW_shadowpost_k36_whole_dark_by_weights
set_option Elab.async false
set_option linter.all false
set_option maxRecDepth 100000
set_option maxHeartbeats 4000000
namespace L2
open PySem PySem.Spec PyProof.Rows
abbrev Key:=Sum Int Str
def Ti:Key→Value→Bool
 | .inl k,v=>Value.isInt k v
 | .inr x,v=>Value.isStrOf x v
def Zi9(w:World):Key→Int
 | .inl k=>hashInt k
 | .inr x=>hashStr w x
theorem ū:∀{k:Key} {v:Value},Ti k v=true→(∃i t,k=Sum.inl i∧v=Value.int i t)∨(∃x t,k=Sum.inr x∧v=Value.str x t)
 | .inl i,v,h=>by
   obtain⟨t,e⟩:=Value.isInt_shape (k:=i) (v:=v) h
   exact .inl ⟨i,t,rfl,e⟩
 | .inr x,v,h=>by
   obtain⟨t,e⟩:=Value.isStrOf_shape (x:=x) (v:=v) h
   exact .inr ⟨x,t,rfl,e⟩
theorem Wa(a b:Int):decide ((Sum.inl a:Key)=Sum.inl b)=(a== b):=by
 by_cases e:a=b
 ·subst e;simp
 ·have h:¬(Sum.inl a:Key)=Sum.inl b:=fun q=>e (Sum.inl.inj q)
  rw[decide_eq_false h]
  exact(beq_eq_false_iff_ne.mpr e).symm
theorem Wb(a b:Str):decide ((Sum.inr a:Key)=Sum.inr b)=decide (a=b):=by
 by_cases e:a=b
 ·subst e;simp
 ·have h:¬(Sum.inr a:Key)=Sum.inr b:=fun q=>e (Sum.inr.inj q)
  rw[decide_eq_false h,decide_eq_false e]
theorem Wc(a:Int)(b:Str):decide ((Sum.inl a:Key)=Sum.inr b)=false:=decide_eq_false (fun q=>nomatch q)
theorem Wd(a:Str)(b:Int):decide ((Sum.inr a:Key)=Sum.inl b)=false:=decide_eq_false (fun q=>nomatch q)
def sX(prog:Program)(w:World):PySem.KeyKind prog w Key where
 is:=Ti
 hash:=Zi9 w
 inj:=fun v a b ha hb=>by
  rcases ū ha with⟨i,t,rfl,rfl⟩|⟨x,t,rfl,rfl⟩
  ·rcases ū hb with⟨j,u,rfl,e⟩|⟨y,u,rfl,e⟩
   ·injection e with e1 _;rw[e1]
   ·exact nomatch e
  ·rcases ū hb with⟨j,u,rfl,e⟩|⟨y,u,rfl,e⟩
   ·exact nomatch e
   ·injection e with e1 _;rw[e1]
 byValue:=fun k v h=>by
  rcases ū h with⟨i,t,rfl,rfl⟩|⟨x,t,rfl,rfl⟩<;>rfl
 pyHash:=fun hv h=>by
  rcases ū hv with⟨i,t,rfl,rfl⟩|⟨x,t,rfl,rfl⟩
  ·exact wpAny_pyHash_int h
  ·exact wpAny_pyHash_str h
 eqBool:=fun hu hv h=>by
  rcases ū hu with⟨i,t,rfl,rfl⟩|⟨x,t,rfl,rfl⟩
  ·rcases ū hv with⟨j,u,rfl,rfl⟩|⟨y,u,rfl,rfl⟩
   ·rw[Wa] at h;exact wpAny_eqBool_int h
   ·rw[Wc] at h;exact SeqAt.EqAt.int_str i t y u _ _ _ _ h
  ·rcases ū hv with⟨j,u,rfl,rfl⟩|⟨y,u,rfl,rfl⟩
   ·rw[Wd] at h;exact SeqAt.EqAt.str_int x t j u _ _ _ _ h
   ·rw[Wb] at h;exact wpAny_eqBool_str h
 «strs» := fun k x t v h=>by
   rcases ū h with⟨i,u,rfl,e⟩|⟨y,u,rfl,e⟩
   ·exact nomatch e
   ·injection e with e1 _
    subst e1
    cases v<;>rfl
end L2
namespace L2
open PySem PySem.Spec PyProof.Rows
inductive V where
 |non|bl (b:Bool)|int (i:Int)|str (x:Str)|Tj (b:Array UInt8)|flt (b:UInt64)|ref (a:Addr)|ty (n:String)
 deriving DecidableEq
def RelV:V→Value→Prop
 | .non,u=>u=Value.none
 | .bl b,u=>u=Value.bool b
 | .int i,u=>∃t,u=Value.int i t
 | .str x,u=>∃t,u=Value.str x t
 | .Tj b,u=>∃t,u=Value.bytes b t
 | .flt b,u=>∃t,u=Value.float b t
 | .ref a,u=>u=Value.ref a
 | .ty n,u=>u=Value.type n
abbrev Vals:List V→List Value→Prop:=Paired RelV
theorem Vals.length{xs:List V}{us:List Value}(r:Vals xs us):xs.length=us.length:=Paired.length r
theorem Vals.get:∀{xs:List V} {us:List Value} {i:Nat} {x:V},Vals xs us→xs[i]?=some x→∃u,us[i]?=some u∧RelV x u
 |_,_,_,_,.nil,e=>by simp at e
 |_,_,0,_,.cons r _,e=>by simp at e;subst e;exact⟨_,rfl,r⟩
 |_,_,i+1,x,.cons _ t,e=>by
  obtain⟨u,h1,h2⟩:=Vals.get (i:=i) (x:=x) t (by simpa using e)
  exact⟨u,by simpa using h1,h2⟩
theorem Vals.set{x:V}{u:Value}(r:RelV x u):∀{xs:List V} {us:List Value} (i:Nat),Vals xs us→Vals (xs.set i x) (us.set i u)
 |_,_,_,.nil=>.nil
 |_,_,0,.cons _ t=>.cons r t
 |_,_,i+1,.cons q t=>.cons q (Vals.set r i t)
theorem Vals.append:∀{xs ys:List V} {us ws:List Value},Vals xs us→Vals ys ws→Vals (xs++ys) (us++ws)
 |_,_,_,_,.nil,s=>s
 |_,_,_,_,.cons r t,s=>.cons r (Vals.append t s)
theorem Vals.take:∀{xs:List V} {us:List Value} (n:Nat),Vals xs us→Vals (xs.take n) (us.take n)
 |_,_,0,_=>.nil
 |_,_,_+1,.nil=>.nil
 |_,_,n+1,.cons r t=>.cons r (Vals.take n t)
theorem Vals.drop:∀{xs:List V} {us:List Value} (n:Nat),Vals xs us→Vals (xs.drop n) (us.drop n)
 |_,_,0,r=>r
 |_,_,_+1,.nil=>.nil
 |_,_,n+1,.cons _ t=>Vals.drop n t
def qe:Option V→Option Value→Prop
 |some v,some u=>RelV v u
 |none,none=>True
 |_,_=>False
def KV{κ:Type}:List (κ×V)→List (κ×Value)→Prop:=Paired fun(p:κ×V) (q:κ×Value)=>p.1=q.1∧RelV p.2 q.2
def kV:Key→V
 | .inl i=>.int i
 | .inr x=>.str x
inductive HO where
 /-- a list -/
 |lst (xs:List V)
 /-- a tuple (never changes) -/
 |tup (xs:List V)
 /-- a dict whose keys are ints and texts;one whose keys are tuples of ints and texts (the empty one is both) -/
 |dK (kvs:List (Key×V))|dT (kvs:List (List Key×V))
 /-- a set of ints:its members,its size -/
 |set (S:Int→Bool) (n:Nat)
 /-- an instance of the class at C,its dict at dx,its attributes -/
 |ins (C dx:Addr) (fs:List (Str×V))
 /-- the dict of the instance at x -/
 |own (x:Addr)
 /-- the dict of an exception -/
 |xd (fs:List (Str×V))
 /-- a bound method,f of x -/
 |met (f x:Addr)
 /-- a range object lo,lo+1,.. below hi -/
 |rng (lo hi:Int)
 /-- a thing that is known to the object (the script;a dict while a loop walks it):read,never written while it is so -/
 |dD (o:Obj) (u:HO)
 /-- a code object's table -/
 |pY (ps:Array Value)
 /-- any other thing,by what is true of its one object (a def of one's own:ZnV a S n:=HO.ext fun h=>..) -/
 |ext (φ:Heap→Prop)
abbrev Hp:=Addr→Option HO
def upd(H:Hp)(a:Addr)(o:HO):Hp:=fun b=>if b=a then some o else H b
theorem ľ{H:Hp}{a:Addr}{o:HO}:upd H a o a=some o:=by unfold upd;rw[if_pos rfl]
theorem į{H:Hp}{a b:Addr}{o:HO}(h:b≠a):upd H a o b=H b:=by unfold upd;rw[if_neg h]
theorem Ŕ{H:Hp}{a b:Addr}{o:HO}(h:H a=some o)(h':H b=none):a≠b:=by
 intro e;subst e;rw[h] at h';cases h'
section
variable(P:Program)(w:World)
def aA(H:Hp)(h:Heap)(a:Addr):HO→Prop
 | .lst xs=>xs.length≤sizeLine∧∃(its:List Value) (n:Nat),Vals xs its∧h.get? a=some {cls:=.type "list",data:=.seq its.toArray n}
 | .tup xs=>xs.length≤sizeLine∧∃its:List Value,Vals xs its∧IsTup h a its.toArray
 | .dK kvs=>kvs.length≤sizeLine∧(a== sysModules)=false∧∃vs,KV kvs vs∧h.DictOf (sX P w) a vs
 | .dT kvs=>kvs.length≤sizeLine∧(a== sysModules)=false∧∃xs:List (List Key×Addr×Value),
     Paired (fun(p:List Key×V) (q:List Key×Addr×Value)=>p.1=q.1∧H q.2.1=some (.tup (p.1.map kV))∧RelV p.2 q.2.2) kvs xs∧
     ∃o es ep,h.get? a=some o∧o.ExactDict∧o.data=.dict es ep∧es.toList=xs.map (entryOfKey (tupleKind (sX P w)))∧(xs.map (·.1)).Nodup
 | .set S n=>h.SetOf (intKind P w) a S n
 | .ins C dx fs=>H dx=some (.own a)∧fs.length≤1000∧dx≠a∧h.get? a=some (PySem.W.instObj C dx)∧
     ∃mA,h.Ns1 dx mA∧(∀f,qe (fs.lookup f) (mA f))∧PySem.Within mA (fs.map (·.1))
 | .own _=>∃o,h.get? a=some o
 | .xd fs=>∃mA,h.Ns1 a mA∧∀f,qe (fs.lookup f) (mA f)
 | .rng lo hi=>∃t u v,h.get? a=some {cls:=.type "range",data:=.fields #[.int lo t,.int hi u,.int 1 v]}
 | .dD o u=>h.get? a=some o∧aA H h a u
 | .pY ps=>h.get? a=some {cls:=.none,data:=.fields ps}
 | .met f x=>h.get? a=some (PySem.W.methodObj (.ref f) (.ref x))
 | .ext φ=>φ h∧(∃o,h.get? a=some o)∧∀h1 h2:Heap,φ h1→(∀o,h1.get? a=some o→h2.get? a=some o)→φ h2
def iG(H:Hp)(h:Heap):Prop:=∀a o,H a=some o→aA P w H h a o
end
section
variable{P:Program}{w:World}{H H':Hp}{h h':Heap}{a:Addr}{o:HO}
theorem aA.lt(x:aA P w H h a o):a<h.objs.size:=by
 cases o with
 |lst xs=>obtain⟨_,_,_,_,e⟩:=x;exact Heap.lt_size e
 |tup xs=>obtain⟨_,_,_,p⟩:=x;exact p.lt
 |dK kvs=>obtain⟨_,_,_,_,o,_,_,e,_⟩:=x;exact Heap.lt_size e
 |dT kvs=>obtain⟨_,_,_,_,o,_,_,e,_⟩:=x;exact Heap.lt_size e
 |set S n=>obtain⟨o,_,_,_,e,_⟩:=x;exact Heap.lt_size e
 |ins C dx fs=>obtain⟨_,_,_,e,_⟩:=x;exact Heap.lt_size e
 |own y=>obtain⟨_,e⟩:=x;exact Heap.lt_size e
 |xd fs=>obtain⟨_,⟨_,_,_,e,_⟩,_⟩:=x;exact Heap.lt_size e
 |rng lo hi=>obtain⟨_,_,_,e⟩:=x;exact Heap.lt_size e
 |dD ob u=>obtain⟨e,_⟩:=x;exact Heap.lt_size e
 |pY ps=>exact Heap.lt_size (show h.get? a=some _ from x)
 |met f y=>exact Heap.lt_size (show h.get? a=some _ from x)
 |ext φ=>obtain⟨_,⟨_,e⟩,_⟩:=x;exact Heap.lt_size e
theorem Paired.Zb_{α β:Type}{F G:α→β→Prop}:∀{l₁:List α} {l₂:List β},Paired F l₁ l₂→(∀a b,F a b→G a b)→Paired G l₁ l₂
 |_,_,.nil,_=>.nil
 |_,_,.cons r t,f=>.cons (f _ _ r) (Paired.Zb_ t f)
theorem aA.stay(x:aA P w H h a o)(k:∀b u,(b=a∨H b=some (.own a))→h.get? b=some u→h'.get? b=some u)
 (ho:∀b,H b=some (.own a)→H' b=some (.own a))(ht:∀b xs,H b=some (.tup xs)→H' b=some (.tup xs)):aA P w H' h' a o:=by
 induction o with
 |lst xs=>obtain⟨z,its,n,r,e⟩:=x;exact⟨z,its,n,r,k _ _ (.inl rfl) e⟩
 |tup xs=>obtain⟨z,its,r,ob,e,c⟩:=x;exact⟨z,its,r,ob,k _ _ (.inl rfl) e,c⟩
 |dK kvs=>obtain⟨z,y,vs,r,ob,es,ep,e,c⟩:=x;exact⟨z,y,vs,r,ob,es,ep,k _ _ (.inl rfl) e,c⟩
 |dT kvs=>
  obtain⟨z,y,xs,r,ob,es,ep,e,c⟩:=x
  exact⟨z,y,xs,Paired.Zb_ r fun p q z=>⟨z.1,ht _ _ z.2.1,z.2.2⟩,ob,es,ep,k _ _ (.inl rfl) e,c⟩
 |set S n=>obtain⟨ob,es,ep,t,e,c⟩:=x;exact⟨ob,es,ep,t,k _ _ (.inl rfl) e,c⟩
 |ins C dx fs=>
  obtain⟨d,z,ne,e,mA,⟨od,es,ep,e2,c⟩,r⟩:=x
  exact⟨ho _ d,z,ne,k _ _ (.inl rfl) e,mA,⟨od,es,ep,k _ _ (.inr d) e2,c⟩,r⟩
 |own y=>obtain⟨ob,e⟩:=x;exact⟨ob,k _ _ (.inl rfl) e⟩
 |xd fs=>obtain⟨mA,⟨od,es,ep,e,c⟩,r⟩:=x;exact⟨mA,⟨od,es,ep,k _ _ (.inl rfl) e,c⟩,r⟩
 |rng lo hi=>obtain⟨t,u,v,e⟩:=x;exact⟨t,u,v,k _ _ (.inl rfl) e⟩
 |dD ob u ih=>obtain⟨e,q⟩:=x;exact⟨k _ _ (.inl rfl) e,ih q⟩
 |pY ps=>
  have e:h.get? a=some {cls:=.none,data:=.fields ps}:=x
  show h'.get? a=some {cls:=.none,data:=.fields ps}
  exact k a _ (.inl rfl) e
 |met f y=>
  have e:h.get? a=some (PySem.W.methodObj (.ref f) (.ref y)):=x
  show h'.get? a=some (PySem.W.methodObj (.ref f) (.ref y))
  exact k a _ (.inl rfl) e
 |ext φ=>obtain⟨p,⟨o,e⟩,st⟩:=x;exact⟨st _ _ p fun o q=>k _ _ (.inl rfl) q,⟨o,k _ _ (.inl rfl) e⟩,st⟩
theorem iG.lt(x:iG P w H h)(e:H a=some o):a<h.objs.size:=(x a o e).lt
theorem iG.fresh(x:iG P w H h)(e:h.objs.size≤a):H a=none:=by
 cases q:H a with
 |none=>rfl
 |some u=>exact absurd (Nat.lt_of_lt_of_le (x.lt q) e) (Nat.lt_irrefl _)
theorem iG.kept(x:iG P w H h)(k:∀b u,h.get? b=some u→h'.get? b=some u):iG P w H h':=fun a o e=>
 (x a o e).stay (fun b u _ q=>k b u q) (fun _ q=>q) fun _ _ q=>q
theorem iG.laid(x:iG P w H h)(k:∀b u,h.get? b=some u→h'.get? b=some u)(hp:h.objs.size≤a)(new:aA P w (upd H a o) h' a o):iG P w (upd H a o) h':=fun b u e=>by
 have hn:=x.fresh hp
 by_cases hb:b=a
 ·subst hb;rw[ľ] at e;cases e;exact new
 ·rw[į hb] at e
  exact(x b u e).stay (fun c v _ q=>k c v q) (fun c q=>by rw[į (Ŕ q hn)];exact q) fun c xs q=>by rw[į (Ŕ q hn)];exact q
end
def Rd(H:Hp)(a:Addr)(u:HO):Prop:=H a=some u∨∃o,H a=some (.dD o u)
theorem Rd.ok{P:Program}{w:World}{H:Hp}{h:Heap}{a:Addr}{u:HO}(r:Rd H a u)(x:iG P w H h):aA P w H h a u:=by
 rcases r with r|⟨o,r⟩
 ·exact x a u r
 ·obtain⟨_,q⟩:=x a _ r
  exact q
def Mut:Option HO→Prop
 |some (.lst _)=>True
 |some (.dK _)=>True
 |some (.dT _)=>True
 |some (.set _ _)=>True
 |some (.ins _ _ _)=>True
 |some (.ext _)=>True
 |some (.xd _)=>True
 |_=>False
section
variable{P:Program}{w:World}{H:Hp}{h h':Heap}{x e:Addr}{o':HO}
theorem iG.write(ok:iG P w H h)(mu:Mut (H x))(he:e=x∨H e=some (.own x))(k:∀b u,b≠e→h.get? b=some u→h'.get? b=some u)(heo:∃u,h'.get? e=some u)
 (new:aA P w (upd H x o') h' x o'):iG P w (upd H x o') h':=fun b u q=>by
 have Zca:∀c y,H c=some (.own y)→c≠x:=fun c y r z=>by subst z;rw[r] at mu;exact mu
 have Zi_:∀c xs,H c=some (.tup xs)→c≠x:=fun c xs r z=>by subst z;rw[r] at mu;exact mu
 by_cases hb:b=x
 ·subst hb;rw[ľ] at q;cases q;exact new
 ·rw[į hb] at q
  by_cases hbe:b=e
  ·have q':H b=some (.own x):=by
    rcases he with z|z
    ·exact absurd (hbe.trans z) hb
    ·rw[hbe];exact z
   rw[q] at q';cases q'
   obtain⟨v,hv⟩:=heo
   exact⟨v,by rw[hbe];exact hv⟩
  ·refine(ok b u q).stay (fun c v hc r=>k c v ?_ r) (fun c r=>by rw[į (Zca c b r)];exact r) fun c xs r=>by rw[į (Zi_ c xs r)];exact r
   rcases hc with rfl|hc
   ·exact hbe
   ·rintro rfl
    rcases he with z|z
    ·exact Zca c b hc z
    ·rw[hc] at z;cases z;exact hb rfl
end
structure Un(fs ex:List Addr)(H H':Hp)(h h':Heap):Prop where
 keep:∀b o,h.get? b=some o→H b=none→b∉fs→b∉ex→h'.get? b=some o
 slot:∀b o,h.get? b=some o→H b=none→b∈fs→b∉ex→∃sl,h'.get? b=some {o with slots:=sl}
 free:∀b o,h.get? b=some o→H b=none→b∉ex→H' b=none
 there:∀b o,h.get? b=some o→b∉ex→∃o',h'.get? b=some o'
 tups:∀b xs,H b=some (.tup xs)→H' b=some (.tup xs)
 jm:∀b o u,H b=some (.dD o u)→H' b=some (.dD o u)
 jN:∀b ps,H b=some (.pY ps)→∃more,H' b=some (.pY (ps++more))
section
variable{fs fs' ex ex':List Addr}{H H1 H2:Hp}{h h1 h2 h':Heap}{a x e:Addr}{o:HO}
theorem Un.any(u:Un fs ex H H1 h h1){b:Addr}{ob:Obj}(q:h.get? b=some ob)(n:H b=none)(hx:b∉ex):∃sl,h1.get? b=some {ob with slots:=sl}:=by
 by_cases hb:b∈fs
 ·exact u.slot b ob q n hb hx
 ·exact⟨ob.slots,u.keep b ob q n hb hx⟩
theorem Un.kept(k:∀b u,h.get? b=some u→h'.get? b=some u):Un fs ex H H h h':=
 ⟨fun b ob q _ _ _=>k b ob q,fun b ob q _ _ _=>⟨ob.slots,k b ob q⟩,fun _ _ _ n _=>n,fun b ob q _=>⟨ob,k b ob q⟩,fun _ _ q=>q,fun _ _ _ q=>q,fun _ ps q=>⟨#[],by rw[q];simp⟩⟩
theorem Un.refl:Un fs ex H H h h:=Un.kept fun _ _ q=>q
theorem Un.laid(k:∀b u,h.get? b=some u→h'.get? b=some u)(hp:h.objs.size≤a)(hn:H a=none):Un fs ex H (upd H a o) h h' where
 keep:=fun b u q _ _ _=>k b u q
 slot:=fun b u q _ _ _=>⟨u.slots,k b u q⟩
 free:=fun b u q n _=>by rw[į (Nat.ne_of_lt (Nat.lt_of_lt_of_le (Heap.lt_size q) hp))];exact n
 there:=fun b u q _=>⟨u,k b u q⟩
 tups:=fun b xs q=>by rw[į (Ŕ q hn)];exact q
 jm:=fun b u xs q=>by rw[į (Ŕ q hn)];exact q
 jN:=fun b ps q=>⟨#[],by rw[į (Ŕ q hn),q];simp⟩
theorem Un.write(mu:Mut (H x))(he:e=x∨H e=some (.own x))(k:∀b u,b≠e→h.get? b=some u→h'.get? b=some u)(heo:∃u,h'.get? e=some u):Un fs ex H (upd H x o) h h':=by
 have hx:∀b,H b=none→b≠x:=fun b n z=>by subst z;rw[n] at mu;exact mu
 have hb:∀b,H b=none→b≠e:=fun b n z=>by
  subst z
  rcases he with r|r
  ·exact hx b n r
  ·rw[n] at r;cases r
 have hm:∀b u,H b=some u→¬Mut (some u)→b≠x:=fun b u q nm z=>by subst z;rw[q] at mu;exact nm mu
 refine⟨fun b u q n _ _=>k b u (hb b n) q,fun b u q n _ _=>⟨u.slots,k b u (hb b n) q⟩,fun b u q n _=>by rw[į (hx b n)];exact n,fun b u q _=>?_,
  fun b xs q=>by rw[į (hm b _ q fun z=>z)];exact q,fun b u xs q=>by rw[į (hm b _ q fun z=>z)];exact q,fun b ps q=>⟨#[],by rw[į (hm b _ q fun z=>z),q];simp⟩⟩
 by_cases hbe:b=e
 ·subst hbe;exact heo
 ·exact⟨u,k b u hbe q⟩
end
def trk(h:Heap)(H:Hp):List Addr:=(List.range h.objs.size).filter fun a=>(H a).isSome
def sY(h:Heap)(H:Hp):Heap:=PySem.W.hideAll h (trk h H)
theorem DK(h:Heap)(H:Hp):(sY h H).objs.size=h.objs.size:=PySem.W.hideAll_size _ _
theorem FP{h:Heap}{H:Hp}{b:Addr}{o:Obj}(e:h.get? b=some o)(n:H b=none):(sY h H).get? b=some o:=
 PySem.W.hideAll_get _ e fun hm=>by
  have q:(H b).isSome=true:=(List.mem_filter.mp hm).2
  rw[n] at q;simp at q
theorem Qk{h:Heap}{H:Hp}{b:Addr}{o:Obj}(e:(sY h H).get? b=some o):h.get? b=some o∧H b=none:=by
 have e':h.get? b=some o:=PySem.W.of_hideAll (trk h H) e
 refine⟨e',?_⟩
 cases q:H b with
 |none=>rfl
 |some x=>
  have hm:b∈trk h H:=List.mem_filter.mpr ⟨List.mem_range.mpr (Heap.lt_size e'),by simp[q]⟩
  have z:(sY h H).get? b=none:=PySem.W.hideAll_none (trk h H) hm
  rw[z] at e;cases e
def Ql(g h:Heap)(L:Addr):List (Addr×Obj):=(List.range h.objs.size).filterMap fun a=>if a=L∨(g.get? a).isSome=true then none else(h.get? a).map fun o=>(a,o)
def rest(g h:Heap)(L d:Addr):List (Addr×Obj):=(Ql g h L).filter fun p=>decide (p.1≠d)
end L2
namespace L2
open PySem PySem.Spec PyProof.Rows
structure Mod(K:PySem.W.Frag)(mg:Str→Option Value)(base:Heap):Prop where
 kin:K.In base
 glob:base.Ns mainGlobals mg
 blt:∃mb,base.Ns builtinsNs mb∧∀x:Str,x≠ "__name__" →mb x=bootBuiltins x
 nolimit:base.NoLimit
structure Cx where
 prog:Program
 w:World
 K:PySem.W.Frag
 mg:Str→Option Value
 base:Heap
 A:Around
 N:List Str
 s₀:Shared
 H₀:Hp
 env:Env
 outer:List Env
 stack:List Env
 ex:List Addr
 fn:Str→Bool
 calm:Bool
 pn:List (Addr×Obj)
 xe:Value→Shared→Prop
def frs(l:List Env):List Addr:=l.filterMap (·.frame)
abbrev Cx.fs(X:Cx):List Addr:=frs X.outer
def DN(sc:Scope)(x:Str):Prop:=sc.names.lookup x=some .local∨sc.names.lookup x=some .cell∨sc.names.lookup x=some .free
def Loc(sc:Scope)(x:Str):Prop:=sc.names.lookup x=some .local∨sc.names.lookup x=some .cell
def Look(env:Env)(h:Heap)(m:Str→Option Value)(x:Str)(u:Value):Prop:=
 (env.kindOf x=some .local∧m x=some u)∨((env.kindOf x=some .cell∨env.kindOf x=some .free)∧∃c,env.cells.lookup x=some c∧h.IsCell c (some u))
structure Cx.Ok(X:Cx):Prop where
 mod:Mod X.K X.mg X.base
 kind:X.env.scope.kind=.function
 glob:X.env.globals=mainGlobals
 blt:X.env.builtins=builtinsNs
 above:X.s₀.heap.objs.size≤X.env.locals
 inj:∀x y c,X.env.cells.lookup x=some c→X.env.cells.lookup y=some c→x=y
 has:∀x,(X.env.kindOf x=some .cell∨X.env.kindOf x=some .free)→∃c,X.env.cells.lookup x=some c
 cab:∀x c,X.fn x=true→X.env.cells.lookup x=some c→X.s₀.heap.objs.size≤c
 hd:X.calm=true→X.A.handled=none
 frames:X.A.frames=some X.stack
 stk:X.stack=X.outer∨(X.stack=X.env::X.outer∧X.env.frame=some X.env.locals)
 exf:∀b∈X.ex,b≠X.env.locals∧∀x c,X.env.cells.lookup x=some c→c≠b
 bs:∀b o,X.base.get? b=some o→X.s₀.heap.get? b=some o∧X.H₀ b=none
 Qm:X.base.objs.size≤X.s₀.heap.objs.size
 DP:∀b o,X.base.get? b=some o→b∉X.ex
 Qn:∀b∈X.ex,b∉X.fs
 lX:X.s₀.heap.FunFrames X.base X.outer
 Wf:∀b∈X.fs,X.H₀ b=none
structure Inv(X:Cx)(pins:List (Addr×Obj))(σ:List (Option V))(H:Hp)(s:Shared):Prop where
 ok:X.Ok
 os:s.os=X.s₀.os
 bare:AllBare s.gens
 base:Un X.fs X.ex X.H₀ H X.s₀.heap s.heap
 loc:∃m,s.heap.Ns X.env.locals m∧∀(i:Nat) (x:Str) (v:V),X.N[i]?=some x→σ[i]?=some (some v)→DN X.env.scope x→∃u,RelV v u∧Look X.env s.heap m x u
 cell:∀x c,X.env.cells.lookup x=some c→∃v,s.heap.IsCell c v
 free:H X.env.locals=none
 iH:∀x c,X.env.cells.lookup x=some c→H c=none
 pin:∀p∈X.pn++pins,s.heap.get? p.1=some p.2∧H p.1=none∧p.1≠X.env.locals∧p.1∉X.fs∧∀v,p.2.data≠ .cell v
 hok:iG X.prog X.w H s.heap
 len:σ.length=X.N.length
section
variable{X:Cx}{pins:List (Addr×Obj)}{σ:List (Option V)}{H H':Hp}{s:Shared}{h':Heap}
theorem Cx.Ok.Zja(ok:X.Ok){b:Addr}{o:Obj}(e:X.base.get? b=some o):b∉X.fs:=fun hb=>by
 have:=(ok.lX.mem hb).1
 rw[e] at this;cases this
theorem Inv.bs(I:Inv X pins σ H s):∀b o,X.base.get? b=some o→s.heap.get? b=some o∧H b=none:=fun b o e=>
 ⟨I.base.keep b o (I.ok.bs b o e).1 (I.ok.bs b o e).2 (I.ok.Zja e) (I.ok.DP b o e),I.base.free b o (I.ok.bs b o e).1 (I.ok.bs b o e).2 (I.ok.DP b o e)⟩
theorem Inv.bk(I:Inv X pins σ H s):∀b o,X.base.get? b=some o→s.heap.get? b=some o:=fun b o e=>(I.bs b o e).1
theorem Inv.mod(I:Inv X pins σ H s):Mod X.K X.mg X.base:=I.ok.mod
theorem Inv.jM(I:Inv X pins σ H s):X.K.In s.heap:=I.ok.mod.kin.keeps I.bk
theorem Inv.lt(I:Inv X pins σ H s):X.env.locals<s.heap.objs.size:=let ⟨_,hn,_⟩:=I.loc;hn.lt
theorem Inv.sz(I:Inv X pins σ H s):X.s₀.heap.objs.size≤s.heap.objs.size:=Nat.le_trans I.ok.above (Nat.le_of_lt I.lt)
theorem Inv.Zjb(I:Inv X pins σ H s){a:Addr}(h:s.heap.objs.size≤a):a∉X.fs:=fun hb=>by
 obtain⟨_,o,ho,_⟩:=I.ok.lX.mem hb
 exact absurd (Nat.lt_of_lt_of_le (Heap.lt_size ho) (Nat.le_trans I.sz h)) (Nat.lt_irrefl _)
theorem Inv.Wg(I:Inv X pins σ H s):∀x c,X.env.cells.lookup x=some c→c≠X.env.locals:=fun x c e z=>by
 obtain⟨v,o,ho,hd⟩:=I.cell x c e
 obtain⟨m,⟨o',es,ep,ho',hd',_⟩,_⟩:=I.loc
 rw[z,ho'] at ho;cases ho;rw[hd'] at hd;cases hd
theorem Inv.lX(I:Inv X pins σ H s):s.heap.FunFrames X.base X.outer:=by
 have all:∀(l:List Env),(∀b∈frs l,b∈X.fs)→X.s₀.heap.FunFrames X.base l→s.heap.FunFrames X.base l:=by
  intro l
  induction l with
  |nil=>intro _ _;trivial
  |cons env r ih=>
   intro hs hl
   obtain⟨hk,⟨L,o,hf,hn,ho,hd⟩,hr⟩:=hl
   have hL:L∈X.fs:=hs L (by unfold frs;rw[List.filterMap_cons,hf];exact List.mem_cons_self)
   obtain⟨sl,e⟩:=I.base.slot L o ho (I.ok.Wf L hL) hL fun z=>I.ok.Qn L z hL
   exact⟨hk,⟨L,_,hf,hn,e,hd⟩,ih (fun b hb=>hs b (by unfold frs;rw[List.filterMap_cons,hf];exact List.mem_cons_of_mem _ hb)) hr⟩
 exact all X.outer (fun _ hb=>hb) I.ok.lX
theorem Inv.stack(I:Inv X pins σ H s):s.heap.FunFrames X.base X.stack:=by
 rcases I.ok.stk with e|⟨e,hf⟩
 ·rw[e];exact I.lX
 ·rw[e]
  obtain⟨m,hn,_⟩:=I.loc
  refine .cons (by rw[I.ok.kind];decide) hf hn ?_ I.lX
  exact Heap.get?_none_of_le (Nat.le_trans I.ok.Qm I.ok.above)
theorem Inv.mZ(I:Inv X pins σ H s):∀b∈frs X.stack,b∈X.env.locals::X.fs:=fun b hb=>by
 rcases I.ok.stk with e|⟨e,hf⟩
 ·rw[e] at hb;exact List.mem_cons_of_mem _ hb
 ·rw[e] at hb
  unfold frs at hb
  rw[List.filterMap_cons,hf] at hb
  exact hb
theorem Inv.sZ(I:Inv X pins σ H s):∀b∈frs X.stack,H b=none:=fun b hb=>by
 rcases List.mem_cons.mp (I.mZ b hb) with e|hb
 ·rw[e];exact I.free
 ·obtain⟨_,o,ho,_⟩:=I.ok.lX.mem hb
  exact I.base.free b o ho (I.ok.Wf b hb) fun z=>I.ok.Qn b z hb
theorem Inv.step{g':Array GenState}{t':Nat}{d':Drawn}{ch:List Addr}(I:Inv X pins σ H s)
 (hch:∀b∈ch,(b∈X.ex∨X.s₀.heap.objs.size≤b)∧b≠X.env.locals∧(∀x c,X.env.cells.lookup x=some c→c≠b)∧∀p∈X.pn++pins,p.1≠b)
 (keep:∀b o,b≠X.env.locals→b∉X.fs→b∉ch→s.heap.get? b=some o→H b=none→h'.get? b=some o)
 (slot:∀b o,b≠X.env.locals→b∈X.fs→b∉ch→s.heap.get? b=some o→H b=none→∃sl,h'.get? b=some {o with slots:=sl})(free:∀b o,b∉ch→s.heap.get? b=some o→H b=none→H' b=none)
 (there:∀b o,b∉ch→s.heap.get? b=some o→∃o',h'.get? b=some o')
 (tups:∀b xs,H b=some (.tup xs)→H' b=some (.tup xs))(jm:∀b o u,H b=some (.dD o u)→H' b=some (.dD o u))(jN:∀b ps,H b=some (.pY ps)→∃more,H' b=some (.pY (ps++more)))
 (ns:∀m,s.heap.Ns X.env.locals m→h'.Ns X.env.locals m)(hok:iG X.prog X.w H' h')(hg:AllBare g') :
 Inv X pins σ H' {s with heap:=h',gens:=g',drawn:=d',toks:=t'}:=by
 have neL:∀b o,X.s₀.heap.get? b=some o→b≠X.env.locals:=fun b o e=>Nat.ne_of_lt (Nat.lt_of_lt_of_le (Heap.lt_size e) I.ok.above)
 have neC:∀b o,X.s₀.heap.get? b=some o→b∉X.ex→b∉ch:=fun b o e hx hb=>by
  rcases(hch b hb).1 with z|z
  ·exact hx z
  ·exact absurd (Nat.lt_of_lt_of_le (Heap.lt_size e) z) (Nat.lt_irrefl _)
 have cellK:∀x c,X.env.cells.lookup x=some c→∀v,s.heap.IsCell c v→h'.IsCell c v:=fun x c e v ⟨o,ho,hd⟩=>by
  have nch:c∉ch:=fun z=>(hch c z).2.2.1 x c e rfl
  by_cases hc:c∈X.fs
  ·obtain⟨sl,q⟩:=slot c o (I.Wg x c e) hc nch ho (I.iH x c e)
   exact⟨_,q,hd⟩
  ·exact⟨o,keep c o (I.Wg x c e) hc nch ho (I.iH x c e),hd⟩
 refine⟨I.ok,I.os,hg,⟨fun b o e n hb hx=>?_,fun b o e n hb hx=>?_,fun b o e n hx=>?_,fun b o e hx=>?_,fun b xs e=>tups b xs (I.base.tups b xs e),fun b o xs e=>jm b o xs (I.base.jm b o xs e),fun b ps e=>?_⟩,?_,fun x c e=>?_,?_,fun x c e=>?_,fun p hp=>?_,hok,I.len⟩
 ·exact keep b o (neL b o e) hb (neC b o e hx) (I.base.keep b o e n hb hx) (I.base.free b o e n hx)
 ·obtain⟨sl,e1⟩:=I.base.slot b o e n hb hx
  obtain⟨sl',e2⟩:=slot b _ (neL b o e) hb (neC b o e hx) e1 (I.base.free b o e n hx)
  exact⟨sl',e2⟩
 ·obtain⟨o',e1⟩:=I.base.there b o e hx
  exact free b o' (neC b o e hx) e1 (I.base.free b o e n hx)
 ·obtain⟨o',e1⟩:=I.base.there b o e hx
  exact there b o' (neC b o e hx) e1
 ·obtain⟨m1,e1⟩:=I.base.jN b ps e
  obtain⟨m2,e2⟩:=jN b _ e1
  exact⟨m1++m2,by rw[e2,Array.append_assoc]⟩
 ·obtain⟨m,hn,hl⟩:=I.loc
  refine⟨m,ns m hn,fun i x v e1 e2 e3=>?_⟩
  obtain⟨u,r,l⟩:=hl i x v e1 e2 e3
  refine⟨u,r,?_⟩
  rcases l with l|⟨k,c,e,z⟩
  ·exact .inl l
  ·exact .inr ⟨k,c,e,cellK x c e _ z⟩
 ·obtain⟨v,z⟩:=I.cell x c e
  exact⟨v,cellK x c e v z⟩
 ·obtain⟨m,⟨o,_,_,ho,_⟩,_⟩:=I.loc
  exact free _ o (fun z=>(hch _ z).2.1 rfl) ho I.free
 ·obtain⟨v,o,ho,hd⟩:=I.cell x c e
  exact free c o (fun z=>(hch c z).2.2.1 x c e rfl) ho (I.iH x c e)
 ·obtain⟨e,n,ne,nf,d⟩:=I.pin p hp
  have nch:p.1∉ch:=fun z=>(hch p.1 z).2.2.2 p hp rfl
  exact⟨keep p.1 p.2 ne nf nch e n,free p.1 p.2 nch e n,ne,nf,d⟩
theorem Inv.un{t':Nat}(I:Inv X pins σ H s)(u:Un X.fs [] H H' s.heap h')(hok:iG X.prog X.w H' h'):Inv X pins σ H' {s with heap:=h',toks:=t'}:=by
 obtain⟨m,⟨o,es,ep,ho,r⟩,_⟩:=id I.loc
 obtain⟨sl,hL⟩:=u.any ho I.free (by simp)
 exact I.step (g':=s.gens) (d':=s.drawn) (ch:=[]) (fun _ z=>nomatch z) (fun b o _ hb _ e n=>u.keep b o e n hb (by simp)) (fun b o _ hb _ e n=>u.slot b o e n hb (by simp)) (fun b o _ e n=>u.free b o e n (by simp)) (fun b o _ e=>u.there b o e (by simp)) u.tups u.jm u.jN (fun m' hm=>by
  obtain⟨o',es',ep',ho',r'⟩:=hm
  rw[ho] at ho';cases ho'
  exact⟨_,es',ep',hL,r'⟩) hok I.bare
theorem Inv.call{g':Array GenState}{t':Nat}{d':Drawn}{ch:List Addr}(I:Inv X pins σ H s)(u:Un (frs X.stack) ch H H' s.heap h')(hok:iG X.prog X.w H' h')(hg:AllBare g')
 (hch:∀b∈ch,(b∈X.ex∨X.s₀.heap.objs.size≤b)∧b≠X.env.locals∧(∀x c,X.env.cells.lookup x=some c→c≠b)∧∀p∈X.pn++pins,p.1≠b) :
 Inv X pins σ H' {s with heap:=h',gens:=g',drawn:=d',toks:=t'}:=by
 obtain⟨m,⟨o,es,ep,ho,r⟩,_⟩:=id I.loc
 obtain⟨sl,hL⟩:=u.any ho I.free fun z=>(hch _ z).2.1 rfl
 exact I.step (ch:=ch) hch (fun b o hL hb hc e n=>u.keep b o e n (fun z=>(List.mem_cons.mp (I.mZ b z)).elim hL hb) hc) (fun b o _ _ hc e n=>u.any e n hc) (fun b o hc e n=>u.free b o e n hc) (fun b o hc e=>u.there b o e hc) u.tups u.jm u.jN (fun m' hm=>by
  obtain⟨o',es',ep',ho',r'⟩:=hm
  rw[ho] at ho';cases ho'
  exact⟨_,es',ep',hL,r'⟩) hok hg
theorem Inv.turned{t':Nat}{it:Addr}(I:Inv X pins σ H s)(k:∀b o,b≠it→s.heap.get? b=some o→h'.get? b=some o)(hn:H it=none)(hL:it≠X.env.locals)
 (h1:it∈X.ex∨X.s₀.heap.objs.size≤it)(h2:∀x c,X.env.cells.lookup x=some c→c≠it)(h3:∀p∈X.pn++pins,p.1≠it):Inv X pins σ H {s with heap:=h',toks:=t'}:=by
 have nit:∀b u,H b=some u→b≠it:=fun b u e z=>by rw[z,hn] at e;cases e
 refine I.step (g':=s.gens) (d':=s.drawn) (ch:=[it]) (fun b hb=>?_) (fun b o _ _ hc e _=>k b o (fun z=>hc (by simp[z])) e) (fun b o _ _ hc e _=>⟨o.slots,k b o (fun z=>hc (by simp[z])) e⟩) (fun _ _ _ _ n=>n)
  (fun b o hc e=>⟨o,k b o (fun z=>hc (by simp[z])) e⟩) (fun _ _ e=>e) (fun _ _ _ e=>e) (fun b ps e=>⟨#[],by rw[e];simp⟩) (fun m hm=>?_) (fun b u e=>?_) I.bare
 ·have e:b=it:=by simpa using hb
  subst e
  exact⟨h1,hL,h2,h3⟩
 ·obtain⟨o,es,ep,ho,r⟩:=hm
  exact⟨o,es,ep,k _ o (Ne.symm hL) ho,r⟩
 ·refine(I.hok b u e).stay (fun c v hc q=>k c v ?_ q) (fun _ q=>q) fun _ _ q=>q
  rcases hc with z|z
  ·rw[z];exact nit b u e
  ·exact nit c _ z
theorem Inv.tok(I:Inv X pins σ H s)(t:Nat):Inv X pins σ H {s with toks:=t}:=I.un (h':=s.heap) (t':=t) Un.refl I.hok
theorem Inv.kept{t':Nat}(I:Inv X pins σ H s)(k:∀b u,s.heap.get? b=some u→h'.get? b=some u):Inv X pins σ H {s with heap:=h',toks:=t'}:=I.un (Un.kept k) (I.hok.kept k)
theorem Inv.laid{a:Addr}{o:HO}{t':Nat}(I:Inv X pins σ H s)(k:∀b u,s.heap.get? b=some u→h'.get? b=some u)(hp:s.heap.objs.size≤a)(new:aA X.prog X.w (upd H a o) h' a o) :
 Inv X pins σ (upd H a o) {s with heap:=h',toks:=t'}:=I.un (Un.laid k hp (I.hok.fresh hp)) (I.hok.laid k hp new)
theorem Inv.write{x e:Addr}{o:HO}{t':Nat}(I:Inv X pins σ H s)(mu:Mut (H x))(he:e=x∨H e=some (.own x))(k:∀b u,b≠e→s.heap.get? b=some u→h'.get? b=some u)(heo:∃u,h'.get? e=some u)
 (new:aA X.prog X.w (upd H x o) h' x o):Inv X pins σ (upd H x o) {s with heap:=h',toks:=t'}:=I.un (Un.write mu he k heo) (I.hok.write mu he k heo new)
theorem Inv.BP{Tn:List (Addr×Obj)}(I:Inv X pins σ H s)(h:∀p∈Tn,s.heap.get? p.1=some p.2∧H p.1=none∧p.1≠X.env.locals∧p.1∉X.fs∧∀v,p.2.data≠ .cell v):Inv X Tn σ H s:=
 ⟨I.ok,I.os,I.bare,I.base,I.loc,I.cell,I.free,I.iH,fun p hp=>(List.mem_append.mp hp).elim (fun z=>I.pin p (List.mem_append_left _ z)) (h p),I.hok,I.len⟩
theorem vG{N:List Str}(hN:N.Nodup){i j:Nat}{x:Str}(a:N[i]?=some x)(b:N[j]?=some x):i=j:=by
 obtain⟨h1,e1⟩:=List.getElem?_eq_some_iff.mp a
 obtain⟨h2,e2⟩:=List.getElem?_eq_some_iff.mp b
 exact(List.getElem_inj hN).mp (e1.trans e2.symm)
theorem qC{M:Model}{A:Around}{E:Value→Shared→Prop}{i:Nat}{x:Str}{v:V}{u:Value}{Q:Unit→Shared→Prop}(I:Inv X pins σ H s)(hN:X.N.Nodup)(hi:X.N[i]?=some x)(hx:Loc X.env.scope x)(r:RelV v u)
 (h:∀s',Inv X pins (σ.set i (some v)) H s'→(∃a,Heap.SameBut a s.heap s'.heap∧(a=X.env.locals∨X.env.cells.lookup x=some a))→Q () s')(hf:X.fn x=true∨X.env.scope.names.lookup x=some .local:=by first|exact .inl rfl|exact .inr rfl|assumption):wpAny M A (storeName X.env x u) Q E s:=by
 obtain⟨m,hn,hl⟩:=id I.loc
 have hcls:(X.env.scope.kind== .class || (X.env.scope.kind== .module && X.env.locals != X.env.globals))=false:=by rw[I.ok.kind];rfl
 have ZnC:i < σ.length:=by rw[I.len];exact(List.getElem?_eq_some_iff.mp hi).1
 have Wg:=I.Wg
 have tracked:∀{a:Addr} {h':Heap},(∃o,s.heap.get? a=some o∧H a=none)→Heap.SameBut a s.heap h'→iG X.prog X.w H h':=fun{a h'} ha hs b ob e=>by
  obtain⟨_,_,hfree⟩:=ha
  refine(I.hok b ob e).stay (fun c w' hc q=>(hs.2 c ?_).trans q) (fun _ q=>q) fun _ _ q=>q
  rintro rfl
  rcases hc with rfl|hc
  ·rw[hfree] at e;cases e
  ·rw[hfree] at hc;cases hc
 rcases hx with hk|hk
 ·refine wpAny_storeName_local hk hn (fun h' hn' hs=>?_) hcls
  obtain⟨oL,_,_,hoL,_⟩:=id hn
  refine h _ ⟨I.ok,I.os,I.bare,⟨fun b o e n hb hx=>?_,fun b o e n hb hx=>?_,I.base.free,fun b o e hx=>?_,I.base.tups,I.base.jm,I.base.jN⟩,⟨_,hn',fun j y v' e1 e2 e3=>?_⟩,fun y c e=>?_,I.free,I.iH,fun p hp=>?_,tracked ⟨oL,hoL,I.free⟩ hs,by simpa using I.len⟩ ⟨_,hs,.inl rfl⟩
  ·exact(hs.2 b (Nat.ne_of_lt (Nat.lt_of_lt_of_le (Heap.lt_size e) I.ok.above))).trans (I.base.keep b o e n hb hx)
  ·obtain⟨sl,e1⟩:=I.base.slot b o e n hb hx
   exact⟨sl,(hs.2 b (Nat.ne_of_lt (Nat.lt_of_lt_of_le (Heap.lt_size e) I.ok.above))).trans e1⟩
  ·obtain⟨o',e1⟩:=I.base.there b o e hx
   exact⟨o',(hs.2 b (Nat.ne_of_lt (Nat.lt_of_lt_of_le (Heap.lt_size e) I.ok.above))).trans e1⟩
  ·by_cases hj:j=i
   ·subst hj
    rw[hi] at e1;cases e1
    rw[List.getElem?_set_self ZnC] at e2
    cases e2
    exact⟨u,r,.inl ⟨hk,by simp⟩⟩
   ·rw[List.getElem?_set_ne (Ne.symm hj)] at e2
    obtain⟨u',r',q⟩:=hl j y v' e1 e2 e3
    refine⟨u',r',?_⟩
    rcases q with⟨k,e⟩|⟨k,c,e,z⟩
    ·refine .inl ⟨k,?_⟩
     have:y≠x:=fun e=>hj (vG hN e1 (e▸hi))
     simp[this,e]
    ·exact .inr ⟨k,c,e,z.sameBut hs (Wg y c e)⟩
  ·obtain⟨w',z⟩:=I.cell y c e
   exact⟨w',z.sameBut hs (Wg y c e)⟩
  ·obtain⟨e,n,ne,nf,d⟩:=I.pin p hp
   exact⟨(hs.2 p.1 ne).trans e,n,ne,nf,d⟩
 ·have hfn:X.fn x=true:=by
   rcases hf with z|z
   ·exact z
   ·rw[z] at hk;cases hk
  obtain⟨c,hc⟩:=I.ok.has x (.inl hk)
  obtain⟨w',z⟩:=I.cell x c hc
  refine wpAny_storeName_cell I.ok.kind hk hc z (fun h' hc' hs=>?_)
  obtain⟨oc,hoc,Zjc⟩:=id z
  refine h {s with heap:=h'} ⟨I.ok,I.os,I.bare,⟨fun b o e n hb hx=>?_,fun b o e n hb hx=>?_,I.base.free,fun b o e hx=>?_,I.base.tups,I.base.jm,I.base.jN⟩,⟨m,hn.sameBut hs (Ne.symm (Wg x c hc)),fun j y v' e1 e2 e3=>?_⟩,fun y c' e=>?_,I.free,I.iH,fun p hp=>?_,tracked ⟨oc,hoc,I.iH x c hc⟩ hs,by simpa using I.len⟩ ⟨c,hs,.inr hc⟩
  ·exact(hs.2 b (Nat.ne_of_lt (Nat.lt_of_lt_of_le (Heap.lt_size e) (I.ok.cab x c hfn hc)))).trans (I.base.keep b o e n hb hx)
  ·obtain⟨sl,e1⟩:=I.base.slot b o e n hb hx
   exact⟨sl,(hs.2 b (Nat.ne_of_lt (Nat.lt_of_lt_of_le (Heap.lt_size e) (I.ok.cab x c hfn hc)))).trans e1⟩
  ·obtain⟨o',e1⟩:=I.base.there b o e hx
   exact⟨o',(hs.2 b (Nat.ne_of_lt (Nat.lt_of_lt_of_le (Heap.lt_size e) (I.ok.cab x c hfn hc)))).trans e1⟩
  ·by_cases hj:j=i
   ·subst hj
    rw[hi] at e1;cases e1
    rw[List.getElem?_set_self ZnC] at e2
    cases e2
    exact⟨u,r,.inr ⟨.inl hk,c,hc,hc'⟩⟩
   ·rw[List.getElem?_set_ne (Ne.symm hj)] at e2
    obtain⟨u',r',q⟩:=hl j y v' e1 e2 e3
    refine⟨u',r',?_⟩
    rcases q with q|⟨k,c',e,z'⟩
    ·exact .inl q
    ·refine .inr ⟨k,c',e,z'.sameBut hs ?_⟩
     rintro rfl
     exact hj (vG hN e1 (I.ok.inj _ _ _ e hc▸hi))
  ·by_cases hcc:c'=c
   ·subst hcc;exact⟨_,hc'⟩
   ·obtain⟨w2,z2⟩:=I.cell y c' e
    exact⟨w2,z2.sameBut hs hcc⟩
  ·obtain⟨e,n,ne,nf,d⟩:=I.pin p hp
   refine⟨(hs.2 p.1 ?_).trans e,n,ne,nf,d⟩
   intro q
   rw[q,hoc] at e
   have q':oc=p.2:=Option.some.inj e
   exact d w' (by rw[←q'];exact Zjc)
theorem fV{M:Model}{A:Around}{E:Value→Shared→Prop}{i:Nat}{x:Str}{v:V}{u:Value}{Q:Unit→Shared→Prop}(I:Inv X pins σ H s)(hN:X.N.Nodup)(hi:X.N[i]?=some x)(hx:Loc X.env.scope x)(r:RelV v u)
 (h:∀s',Inv X pins (σ.set i (some v)) H s'→Q () s')(hf:X.fn x=true∨X.env.scope.names.lookup x=some .local:=by first|exact .inl rfl|exact .inr rfl|assumption):wpAny M A (storeName X.env x u) Q E s:=
 qC I hN hi hx r (fun s' I' _=>h s' I') hf
theorem Inv.call'{s':Shared}{ch:List Addr}(I:Inv X pins σ H s)(ho:s'.os=s.os)(u:Un (frs X.stack) ch H H' s.heap s'.heap)(hok:iG X.prog X.w H' s'.heap)(hg:AllBare s'.gens)
 (hch:∀b∈ch,(b∈X.ex∨X.s₀.heap.objs.size≤b)∧b≠X.env.locals∧(∀x c,X.env.cells.lookup x=some c→c≠b)∧∀p∈X.pn++pins,p.1≠b):Inv X pins σ H' s':=by
 obtain⟨h',g',d',t',o'⟩:=s'
 have e:o'=s.os:=ho
 subst e
 exact I.call (g':=g') (t':=t') (d':=d') u hok hg hch
end
abbrev XK:=Value→Option Addr→Hp→Prop
abbrev St:=List (Option V)
abbrev VK:=V→Hp→Prop
abbrev TE:=St→Hp→VK→Prop
abbrev TT:=St→Hp→(Bool→Hp→Prop)→Prop
abbrev TA:=St→Hp→(List V→Hp→Prop)→Prop
structure Ends where
 nx:St→Hp→Prop
 rt:VK
 bk:St→Hp→Prop:=fun _ _=>False
 ct:St→Hp→Prop:=fun _ _=>False
abbrev TS:=Ends→St→Hp→Prop
def EP(X:Cx)(pins:List (Addr×Obj))(σ:St)(Q:VK)(u:Value)(s':Shared):Prop:=∃v H',Inv X pins σ H' s'∧RelV v u∧Q v H'
def TP(X:Cx)(pins:List (Addr×Obj))(σ:St)(Q:Bool→Hp→Prop)(b:Bool)(s':Shared):Prop:=∃H',Inv X pins σ H' s'∧Q b H'
def AP(X:Cx)(pins:List (Addr×Obj))(σ:St)(Q:List V→Hp→Prop)(us:List Value)(s':Shared):Prop:=∃vs H',Inv X pins σ H' s'∧Vals vs us∧Q vs H'
def SP(X:Cx)(pins:List (Addr×Obj))(D:Ends)(f:Flow)(s':Shared):Prop:=
 match f with
 | .next=>∃σ' H',Inv X pins σ' H' s'∧D.nx σ' H'
 | .brk=>∃σ' H',Inv X pins σ' H' s'∧D.bk σ' H'
 | .cont=>∃σ' H',Inv X pins σ' H' s'∧D.ct σ' H'
 | .ret u=>∃v σ' H',Inv X pins σ' H' s'∧RelV v u∧D.rt v H'
def PE(X:Cx)(e:Expr)(t:TE):Prop:=
 ∀(pins:List (Addr×Obj)) (s:Shared) (σ:St) (H:Hp) (Q:VK),Inv X pins σ H s→t σ H Q→wpAny (model X.prog X.w) X.A (eval e X.env) (EP X pins σ Q) X.xe s
def PT(X:Cx)(e:Expr)(t:TT):Prop:=
 ∀(pins:List (Addr×Obj)) (s:Shared) (σ:St) (H:Hp) (Q:Bool→Hp→Prop),Inv X pins σ H s→t σ H Q→wpAny (model X.prog X.w) X.A (isTrue e X.env (eval e X.env)) (TP X pins σ Q) X.xe s
def PW(X:Cx)(e:Expr)(t:TT):Prop:=
 ∀(whole:Sem Value) (pins:List (Addr×Obj)) (s:Shared) (σ:St) (H:Hp) (Q:Bool→Hp→Prop),Inv X pins σ H s→t σ H Q→wpAny (model X.prog X.w) X.A (isTrue e X.env whole) (TP X pins σ Q) X.xe s
theorem PW.pt{X:Cx}{e:Expr}{t:TT}(h:PW X e t):PT X e t:=h _
def PA(X:Cx)(es:List Expr)(t:TA):Prop:=
 ∀(pos:Pos) (pins:List (Addr×Obj)) (s:Shared) (σ:St) (H:Hp) (Q:List V→Hp→Prop),Inv X pins σ H s→t σ H Q→wpAny (model X.prog X.w) X.A (spliced (backTo pos (starEach es X.env))) (AP X pins σ Q) X.xe s
def PS(X:Cx)(st:Stmt)(t:TS):Prop:=
 ∀(pins:List (Addr×Obj)) (s:Shared) (σ:St) (H:Hp) (D:Ends),Inv X pins σ H s→t D σ H→wpAny (model X.prog X.w) X.A (exec st X.env) (SP X pins D) X.xe s
def lY(X:Cx)(st:List Stmt)(t:TS):Prop:=
 ∀(pins:List (Addr×Obj)) (s:Shared) (σ:St) (H:Hp) (D:Ends),Inv X pins σ H s→t D σ H→wpAny (model X.prog X.w) X.A (execs st X.env) (SP X pins D) X.xe s
theorem Ų{α:Type}{t:Sem α}{Q Q':α→Shared→Prop}{M:Model}{A:Around}{E:Value→Shared→Prop}{s:Shared}(h:wpAny M A t Q E s)(hQ:∀a s,Q a s→Q' a s):wpAny M A t Q' E s:=wpAny_mono h hQ fun _ _ x=>x
end L2
namespace L2
open PySem PySem.Spec PyProof.Rows
section
variable{X:Cx}
def yP(i:Nat):TE:=fun σ H Q=>∃v,σ[i]?=some (some v)∧Q v H
def tC(v:V):TE:=fun _ H Q=>Q v H
theorem eE{i:Nat}{x:Str}{pos:Pos}(hN:X.N[i]?=some x)(hv:DN X.env.scope x)(hd:(x== ("__debug__" :Str))=false:=by decide)(hcd:(x== ("__classdict__" :Str))=false:=by decide):PE X (.Name x pos) (yP i):=by
 intro pins s σ H Q I h
 obtain⟨v,e,h⟩:=h
 obtain⟨m,hn,hl⟩:=I.loc
 obtain⟨u,r,l⟩:=hl i x v hN e hv
 have fin:EP X pins σ Q u s:=⟨v,H,I,r,h⟩
 rcases l with⟨hk,hm⟩|⟨hk,c,hc,hcell⟩
 ·exact wpAny_Name (wpAny_loadName_local I.ok.kind hk hn hm fin) hd
 ·rcases hk with hk|hk
  ·exact wpAny_Name (wpAny_loadName_cell I.ok.kind hk hc hcell fin) hd
  ·exact wpAny_Name (wpAny_loadName_free I.ok.kind hk hc hcell fin hcd) hd
theorem Wh{i j pos}:PE X (.Constant (.int i) j pos) (tC (.int i)):=fun _ _ _ H _ I h=>wpAny_Constant_int ⟨.int i,H,I.tok _,⟨_,rfl⟩,h⟩
theorem Zcb{b j pos}:PE X (.Constant (.bool b) j pos) (tC (.bl b)):=fun _ _ _ H _ I h=>Constant_bool ⟨.bl b,H,I,rfl,h⟩
theorem Wi{j pos}:PE X (.Constant .none j pos) (tC .non):=fun _ _ _ H _ I h=>Constant_none ⟨.non,H,I,rfl,h⟩
theorem Wj{x j pos}:PE X (.Constant (.str x) j pos) (tC (.str x)):=fun _ _ _ H _ I h=>Calls.Constant_str ⟨.str x,H,I.tok _,⟨_,rfl⟩,h⟩
def Gl(X:Cx)(x:Str):Prop:=X.env.kindOf x=some .globalImplicit
theorem mO{E:Value→Shared→Prop}{pins:List (Addr×Obj)}{s:Shared}{σ:St}{H:Hp}{x:Str}{u:Value}{pos:Pos}{Q:Value→Shared→Prop}(I:Inv X pins σ H s)(hg:Gl X x)(hm:X.mg x=some u)(h:Q u s)
 (hd:(x== ("__debug__" :Str))=false:=by decide):wpAny (model X.prog X.w) X.A (eval (.Name x pos) X.env) Q E s:=
 Calls.Name_function_global I.ok.kind hg (Calls.loadGlobal_global (by rw[I.ok.glob];exact I.mod.glob.keeps I.bk) hm h) hd
theorem jO{E:Value→Shared→Prop}{pins:List (Addr×Obj)}{s:Shared}{σ:St}{H:Hp}{x:Str}{u:Value}{pos:Pos}{Q:Value→Shared→Prop}(I:Inv X pins σ H s)(hg:Gl X x)(hm:X.mg x=none)(hv:bootBuiltins x=some u)(h:Q u s)
 (hn:x≠ "__name__" := by decide)(hd:(x== ("__debug__" :Str))=false:=by decide):wpAny (model X.prog X.w) X.A (eval (.Name x pos) X.env) Q E s:=by
 obtain⟨mb,h1,h2⟩:=I.mod.blt
 exact Calls.Name_function_global I.ok.kind hg (Calls.loadGlobal_builtin (by rw[I.ok.glob];exact I.mod.glob.keeps I.bk) hm (by rw[I.ok.blt];exact h1.keeps I.bk) ((h2 x hn).trans hv) h) hd
theorem mQ{x:Str}{v:V}{u:Value}{pos:Pos}(hg:Gl X x)(hm:X.mg x=some u)(r:RelV v u)(hd:(x== ("__debug__" :Str))=false:=by decide):PE X (.Name x pos) (tC v):=
 fun _ _ _ H _ I h=>mO I hg hm ⟨v,H,I,r,h⟩ hd
theorem gP{x:Str}{v:V}{u:Value}{pos:Pos}(hg:Gl X x)(hm:X.mg x=none)(hv:bootBuiltins x=some u)(r:RelV v u)(hn:x≠ "__name__" := by decide)(hd:(x== ("__debug__" :Str))=false:=by decide):PE X (.Name x pos) (tC v):=
 fun _ _ _ H _ I h=>jO I hg hm hv ⟨v,H,I,r,h⟩ hn hd
variable{a b:Expr}{ta tb:TE}{pos:Pos}
variable{tA tB':TT}{rest:List Expr}
def Zjd(t u:TT):TT:=fun σ H Q=>t σ H fun c H1=>if c=true then u σ H1 Q else Q false H1
def tOr(t u:TT):TT:=fun σ H Q=>t σ H fun c H1=>if c=true then Q true H1 else u σ H1 Q
def Zje(t:TT):TT:=fun σ H Q=>t σ H fun c H1=>Q (!c) H1
theorem Qo(ha:PT X a tA):PW X (.BoolOp .And [a] pos) tA:=by
 intro wh pins s σ H Q I h
 refine isTrue_and (Ų (ha pins s σ H Q I h) fun c s1 e=>?_)
 cases c with
 |true=>exact isTrue_and_nil e
 |false=>exact e
theorem Wk(ha:PT X a tA):PW X (.BoolOp .Or [a] pos) tA:=by
 intro wh pins s σ H Q I h
 refine isTrue_or (Ų (ha pins s σ H Q I h) fun c s1 e=>?_)
 cases c with
 |false=>exact isTrue_or_nil e
 |true=>exact e
theorem Wm(ha:PT X a tA)(hb:PW X (.BoolOp .And (b::rest) pos) tB'):PW X (.BoolOp .And (a::b::rest) pos) (Zjd tA tB'):=by
 intro wh pins s σ H Q I h
 refine isTrue_and (Ų (ha pins s σ H _ I h) fun c s1 ⟨H1,I1,q1⟩=>?_)
 cases c with
 |true=>exact hb wh pins s1 σ H1 Q I1 q1
 |false=>exact⟨H1,I1,q1⟩
theorem Zcc(ha:PT X a tA)(hb:PW X (.BoolOp .Or (b::rest) pos) tB'):PW X (.BoolOp .Or (a::b::rest) pos) (tOr tA tB'):=by
 intro wh pins s σ H Q I h
 refine isTrue_or (Ų (ha pins s σ H _ I h) fun c s1 ⟨H1,I1,q1⟩=>?_)
 cases c with
 |true=>exact⟨H1,I1,q1⟩
 |false=>exact hb wh pins s1 σ H1 Q I1 q1
theorem Wn(ha:PT X a tA):PT X (.UnaryOp .Not a pos) (Zje tA):=by
 intro pins s σ H Q I h
 exact isTrue_not (ha pins s σ H (fun c H1=>Q (!c) H1) I h)
theorem Wo{op}{t:TE}(h:PE X a t):PE X (.BoolOp op [a] pos) t:=fun pins s σ H Q I hw=>BoolOp_one (h pins s σ H Q I hw)
end
end L2
namespace L2
open PySem PySem.Spec PyProof.Rows
def aG(K:PySem.W.Frag)(H:Hp)(a:Addr)(xs:List V):Prop:=
 Rd H a (.lst xs)∨
  ∃(o:Obj) (its:Array Value) (n:Nat),K.lookup a=some o∧o.cls=.type "list" ∧o.dict=none∧o.data=.seq its n∧its.size≤sizeLine∧Vals xs its.toList
def dF(K:PySem.W.Frag)(H:Hp)(a:Addr)(xs:List V):Prop:=
 Rd H a (.tup xs)∨
  ∃(o:Obj) (its:Array Value) (n:Nat),K.lookup a=some o∧o.cls=.type "tuple" ∧o.data=.seq its n∧its.size≤sizeLine∧Vals xs its.toList
def Zjf:Value→Option V
 | .none=>some .non
 | .bool b=>some (.bl b)
 | .int i _=>some (.int i)
 | .str x _=>some (.str x)
 | .bytes b _=>some (.Tj b)
 | .float b _=>some (.flt b)
 | .ref a=>some (.ref a)
 | .type n=>some (.ty n)
 |_=>none
theorem RelV.abs{x:V}{u:Value}(r:RelV x u):Zjf u=some x:=by
 cases x with
 |non=>cases r;rfl
 |bl _=>cases r;rfl
 |int _=>obtain⟨t,rfl⟩:=r;rfl
 |str _=>obtain⟨t,rfl⟩:=r;rfl
 |Tj _=>obtain⟨t,rfl⟩:=r;rfl
 |flt _=>obtain⟨t,rfl⟩:=r;rfl
 |ref _=>cases r;rfl
 |ty _=>cases r;rfl
theorem RelV.inj{x y:V}{u:Value}(r:RelV x u)(q:RelV y u):x=y:=Option.some.inj (r.abs.symm.trans q.abs)
theorem Vals.inj:∀{xs ys:List V} {us:List Value},Vals xs us→Vals ys us→xs=ys
 |_,_,_,.nil,.nil=>rfl
 |_,_,_,.cons r t,.cons r' t'=>by rw[r.inj r',Vals.inj t t']
section
variable{X:Cx}{pins:List (Addr×Obj)}{σ:St}{H:Hp}{s:Shared}{a:Addr}{xs ys:List V}
theorem aG.of{K:PySem.W.Frag}(h:H a=some (.lst xs)):aG K H a xs:=.inl (.inl h)
theorem dF.of{K:PySem.W.Frag}(h:H a=some (.tup xs)):dF K H a xs:=.inl (.inl h)
theorem Inv.list(I:Inv X pins σ H s)(h:aG X.K H a xs):∃its:List Value,Vals xs its∧PlainL s.heap a its.toArray∧xs.length≤sizeLine:=by
 rcases h with h|⟨o,its,n,hk,hc,hd,hs,hz,r⟩
 ·obtain⟨z,its,n,r,e⟩:=h.ok I.hok
  exact⟨its,r,⟨_,n,e,rfl,rfl,rfl⟩,z⟩
 ·refine⟨its.toList,r,⟨o,n,I.jM a o hk,hc,hd,by simpa using hs⟩,?_⟩
  have e:=r.length
  simp only[Array.length_toList] at e
  omega
theorem Inv.tuple(I:Inv X pins σ H s)(h:dF X.K H a xs):∃its:List Value,Vals xs its∧IsTup s.heap a its.toArray∧xs.length≤sizeLine:=by
 rcases h with h|⟨o,its,n,hk,hc,hs,hz,r⟩
 ·obtain⟨z,its,r,p⟩:=h.ok I.hok
  exact⟨its,r,p,z⟩
 ·refine⟨its.toList,r,⟨o,I.jM a o hk,hc,n,by simpa using hs⟩,?_⟩
  have e:=r.length
  simp only[Array.length_toList] at e
  omega
theorem Inv.m_(I:Inv X pins σ H s)(h:aG X.K H a xs)(h':aG X.K H a ys):xs=ys:=by
 obtain⟨its,r,⟨o,n,e,_,_,d⟩,_⟩:=I.list h
 obtain⟨its',r',⟨o',n',e',_,_,d'⟩,_⟩:=I.list h'
 rw[e] at e';cases e'
 rw[d] at d'
 injection d' with d1 _
 have:its=its':=by simpa using congrArg Array.toList d1
 subst this
 exact r.inj r'
theorem Inv.qD(I:Inv X pins σ H s)(h:dF X.K H a xs)(h':dF X.K H a ys):xs=ys:=by
 obtain⟨its,r,⟨o,e,_,n,d⟩,_⟩:=I.tuple h
 obtain⟨its',r',⟨o',e',_,n',d'⟩,_⟩:=I.tuple h'
 rw[e] at e';cases e'
 rw[d] at d'
 injection d' with d1 _
 have:its=its':=by simpa using congrArg Array.toList d1
 subst this
 exact r.inj r'
end
abbrev Cx.wish(X:Cx)(E:Value→Shared→Prop):Cx:={X with xe:=E}
abbrev Cx.aB(X:Cx):Cx:=X.wish fun _ _=>False
theorem Cx.Ok.wish{X:Cx}(ok:X.Ok)(E:Value→Shared→Prop):(X.wish E).Ok:=
 ⟨ok.mod,ok.kind,ok.glob,ok.blt,ok.above,ok.inj,ok.has,ok.cab,ok.hd,ok.frames,ok.stk,ok.exf,ok.bs,ok.Qm,ok.DP,ok.Qn,ok.lX,ok.Wf⟩
theorem Cx.Ok.eG{X:Cx}{E:Value→Shared→Prop}(ok:(X.wish E).Ok):X.Ok:=
 ⟨ok.mod,ok.kind,ok.glob,ok.blt,ok.above,ok.inj,ok.has,ok.cab,ok.hd,ok.frames,ok.stk,ok.exf,ok.bs,ok.Qm,ok.DP,ok.Qn,ok.lX,ok.Wf⟩
section
variable{X:Cx}{pins:List (Addr×Obj)}{σ:St}{H:Hp}{s:Shared}{E:Value→Shared→Prop}
theorem Inv.wish(I:Inv X pins σ H s)(E:Value→Shared→Prop):Inv (X.wish E) pins σ H s:=⟨I.ok.wish E,I.os,I.bare,I.base,I.loc,I.cell,I.free,I.iH,I.pin,I.hok,I.len⟩
theorem Inv.eG(I:Inv (X.wish E) pins σ H s):Inv X pins σ H s:=⟨I.ok.eG,I.os,I.bare,I.base,I.loc,I.cell,I.free,I.iH,I.pin,I.hok,I.len⟩
theorem SP.eG{D:Ends}{f:Flow}{s':Shared}(h:SP (X.wish E) pins D f s'):SP X pins D f s':=by
 cases f with
 |next=>obtain⟨σ',H',I,q⟩:=h;exact⟨σ',H',I.eG,q⟩
 |brk=>obtain⟨σ',H',I,q⟩:=h;exact⟨σ',H',I.eG,q⟩
 |cont=>obtain⟨σ',H',I,q⟩:=h;exact⟨σ',H',I.eG,q⟩
 |ret u=>obtain⟨v,σ',H',I,r,q⟩:=h;exact⟨v,σ',H',I.eG,r,q⟩
theorem PE.aB{e:Expr}{t:TE}(h:PE X.aB e t):PE X e t:=fun pins s σ H Q I hw=>
 wpAny_mono (h pins s σ H Q (I.wish _) hw) (fun _ _ ⟨v,H',I',r,q⟩=>⟨v,H',I'.eG,r,q⟩) fun _ _ z=>False.elim z
end
section
variable{X:Cx}{st:Stmt}{rest:List Stmt}{t u:TS}{e:Expr}{te:TE}{pos:Pos}
def Zcd:TS:=fun D σ H=>D.nx σ H
def Zjg(t u:TS):TS:=fun D σ H=>t {D with nx:=u D} σ H
theorem Qp:lY X [] Zcd:=fun _ _ σ H _ I h=>wpAny_execs_nil ⟨σ,H,I,h⟩
theorem FQ(h1:PS X st t)(h2:lY X rest u):lY X (st::rest) (Zjg t u):=by
 intro pins s σ H D I h
 refine wpAny_execs_cons (Ų (h1 pins s σ H {D with nx:=u D} I h) fun f s1 q=>?_)
 cases f with
 |next=>
  obtain⟨σ',H',I',q⟩:=q
  exact h2 pins s1 σ' H' D I' q
 |ret v=>exact q
 |brk=>exact q
 |cont=>exact q
theorem Qq(h1:PS X st t):lY X [st] t:=by
 intro pins s σ H D I h
 refine wpAny_execs_cons (Ų (h1 pins s σ H D I h) fun f s1 q=>?_)
 cases f with
 |next=>exact wpAny_execs_nil q
 |ret v=>exact q
 |brk=>exact q
 |cont=>exact q
theorem Inv.quiet{pins:List (Addr×Obj)}{σ:St}{H:Hp}{s:Shared}(I:Inv X pins σ H s):interactive X.env=false:=by simp[interactive,I.ok.kind]
def FT(te:TE):TS:=fun D σ H=>te σ H fun _ H1=>D.nx σ H1
theorem eN(he:PE X e te)(hs:swapsWith e none pos.line X.env=pure false:=by rfl):PS X (.Expr e pos) (FT te):=by
 intro pins s σ H D I h
 exact wpAny_Expr_any (Ų (he pins s σ H _ I h) fun v s1 ⟨x,H1,I1,r1,q1⟩=>⟨σ,H1,I1,q1⟩) I.quiet hs
def Zjh(te:TE):TS:=fun D σ H=>te σ H D.rt
theorem Wq(he:PE X e te):PS X (.Return (some e) pos) (Zjh te):=by
 intro pins s σ H D I h
 exact wpAny_Return_some (Ų (he pins s σ H _ I h) fun v s1 ⟨x,H1,I1,r1,q1⟩=>⟨x,σ,H1,I1,r1,q1⟩)
def Zji(c:TT)(t u:TS):TS:=fun D σ H=>c σ H fun b H1=>if b=true then t D σ H1 else u D σ H1
theorem Zce{c:Expr}{a b:List Stmt}{tc:TT}(hc:PT X c tc)(ha:lY X a t)(hb:lY X b u):PS X (.If c a b pos) (Zji tc t u):=by
 intro pins s σ H D I h
 refine wpAny_If (Ų (hc pins s σ H _ I h) fun d s1 ⟨H1,I1,q1⟩=>?_)
 cases d with
 |true=>exact ha pins s1 σ H1 D I1 q1
 |false=>exact hb pins s1 σ H1 D I1 q1
def Wr:TS:=fun _ _ _=>False
theorem FW:PS X st Wr:=fun _ _ _ _ _ _ h=>h.elim
end
abbrev TG:=V→St→Hp→(St→Hp→Prop)→Prop
abbrev FZ:=List V→St→Hp→(St→Hp→Prop)→Prop
def PG(X:Cx)(target:Expr)(t:TG):Prop:=
 ∀(pins:List (Addr×Obj)) (s:Shared) (σ:St) (H:Hp) (v:V) (u:Value) (Q:St→Hp→Prop),Inv X pins σ H s→RelV v u→t v σ H Q→
  wpAny (model X.prog X.w) X.A (assign target X.env u) (fun _ s'=>∃σ' H',Inv X pins σ' H' s'∧Q σ' H') X.xe s
def yQ(X:Cx)(ts:List Expr)(t:FZ):Prop:=
 ∀(pins:List (Addr×Obj)) (s:Shared) (σ:St) (H:Hp) (vs:List V) (us:List Value) (Q:St→Hp→Prop),Inv X pins σ H s→Vals vs us→t vs σ H Q→
  wpAny (model X.prog X.w) X.A (assignInOrder ((assignEach ts X.env).map (·.2)) us) (fun _ s'=>∃σ' H',Inv X pins σ' H' s'∧Q σ' H') X.xe s
abbrev Ws:=V→V→V→Hp→(Hp→Prop)→Prop
def Zcf(X:Cx)(t:Ws):Prop:=
 ∀(pins:List (Addr×Obj)) (s:Shared) (σ:St) (H:Hp) (o i v:V) (ov iv u:Value) (Q:Hp→Prop),Inv X pins σ H s→RelV o ov→RelV i iv→RelV v u→t o i v H Q→
  wpAny (model X.prog X.w) X.A (setItem ov iv u) (fun _ s'=>∃H',Inv X pins σ H' s'∧Q H') X.xe s
abbrev TIp:=V→V→Hp→VK→Prop
def PIp(X:Cx)(op:Operator)(t:TIp):Prop:=
 ∀(pins:List (Addr×Obj)) (s:Shared) (σ:St) (H:Hp) (x y:V) (v u:Value) (Q:VK),Inv X pins σ H s→RelV x v→RelV y u→t x y H Q→
  wpAny (model X.prog X.w) X.A (inplaceOp op v u) (EP X pins σ Q) X.xe s
section
variable{X:Cx}{pos:Pos}
def Tp(i:Nat):TG:=fun v σ H Q=>Q (σ.set i (some v)) H
theorem Qs{i:Nat}{x:Str}(hN:X.N.Nodup)(hi:X.N[i]?=some x)(hx:Loc X.env.scope x)(hf:X.fn x=true∨X.env.scope.names.lookup x=some .local:=by first|exact .inl rfl|exact .inr rfl|assumption):PG X (.Name x pos) (Tp i):=by
 intro pins s σ H v u Q I r h
 exact wpAny_assign_Name (fV I hN hi hx r (fun s' I'=>⟨_,H,I',h⟩) hf)
def Zjj:FZ:=fun vs σ H Q=>vs=[]∧Q σ H
def Zcg(t:TG)(u:FZ):FZ:=fun vs σ H Q=>∃v r,vs=v::r∧t v σ H fun σ' H'=>u r σ' H' Q
theorem Qt:yQ X [] Zjj:=by
 intro pins s σ H vs us Q I r h
 obtain⟨e,h⟩:=h
 subst e
 cases r
 exact assignInOrder_nil ⟨σ,H,I,h⟩
theorem Ga{e:Expr}{es:List Expr}{t:TG}{u:FZ}(h1:PG X e t)(h2:yQ X es u)
 (hs:(assignEach (e::es) X.env).map (·.2)=assign e X.env::(assignEach es X.env).map (·.2):=by rfl):yQ X (e::es) (Zcg t u):=by
 intro pins s σ H vs us Q I r h
 obtain⟨v,vr,e1,h⟩:=h
 subst e1
 cases r with
 |cons r rr=>
  rw[hs]
  refine assignInOrder_cons (Ų (h1 pins s σ H _ _ _ I r h) fun _ s1 ⟨σ1,H1,I1,q1⟩=>?_)
  exact h2 pins s1 σ1 H1 _ _ Q I1 rr q1
def Zjk(K:PySem.W.Frag)(n:Nat)(t:FZ):TG:=fun v σ H Q=>∃a xs,v=.ref a∧dF K H a xs∧xs.length=n∧t xs σ H Q
theorem Gb{es:List Expr}{k:Nat}{t:FZ}{n:Nat}(hc:X.calm=true)(h:yQ X es t)
 (hn:(assignEach es X.env).length=n:=by rfl)(hst:(assignEach es X.env).findIdx? (·.1)=none:=by rfl):PG X (.Tuple es k pos) (Zjk X.K n t):=by
 intro pins s σ H v u Q I r hw
 obtain⟨a,xs,e1,hq,hl,hw⟩:=hw
 subst e1
 cases r
 obtain⟨its,rv,ht,hz⟩:=I.tuple hq
 refine assign_Tuple_tuple (I.ok.hd hc) ht (by simp[hn,←hl,rv.length]) hst fun h' hx=>?_
 have I1:Inv X pins σ H {s with heap:=h'}:=I.kept (t':=s.toks) fun b o e=>hx b o (Nat.ne_of_lt (Heap.lt_size e)) e
 exact h pins _ σ H xs _ Q I1 (by simpa using rv) hw
def Zjl(to ti:TE)(t:Ws):TG:=fun v σ H Q=>to σ H fun o H1=>ti σ H1 fun i H2=>t o i v H2 fun H3=>Q σ H3
theorem Wt{o i:Expr}{to ti:TE}{t:Ws}(ho:PE X o to)(hi:PE X i ti)(hs:Zcf X t)
 (ha:∀v,assign (.Subscript o i pos) X.env v=(do
   let ov ←holding [v] (eval o X.env)
   let iv ←holding [v,ov] (eval i X.env)
   standAt pos
   holding [v,ov,iv] (setItem ov iv v)
   release [v,ov,iv] []):=by intro _;rfl):PG X (.Subscript o i pos) (Zjl to ti t):=by
 intro pins s σ H v u Q I r h
 rw[ha]
 refine wpAny_bind (wpAny_holding (Ų (ho pins s σ H _ I h) fun ov s1 ⟨x,H1,I1,r1,q1⟩=>?_))
 refine wpAny_bind (wpAny_holding (Ų (hi pins s1 σ H1 _ I1 q1) fun iv s2 ⟨y,H2,I2,r2,q2⟩=>?_))
 refine wpAny_bind (wpAny_standAt (wpAny_bind (wpAny_holding (Ų (hs pins s2 σ H2 x y v ov iv u _ I2 r1 r2 r q2) fun _ s3 ⟨H3,I3,q3⟩=>?_))))
 exact wpAny_release ⟨σ,H3,I3,q3⟩
def Zch(te:TE)(g:TG):TS:=fun D σ H=>te σ H fun x H1=>g x σ H1 D.nx
theorem Gd{tg e:Expr}{te:TE}{g:TG}(he:PE X e te)(hg:PG X tg g)(hs:swapsWithSole [tg] e pos.line X.env=pure false:=by rfl)(hw:swappedStores [tg] e X.env=pure none:=by rfl)
 (h1:(assignEach [tg] X.env).map (·.2)=[assign tg X.env]:=by rfl):PS X (.Assign [tg] e pos) (Zch te g):=by
 intro pins s σ H D I h
 refine wpAny_Assign_stores (Ų (he pins s σ H _ I h) fun v s1 ⟨x,H1,I1,r1,q1⟩=>?_) hs hw
 rw[h1]
 exact Ų (hg pins s1 σ H1 x v _ I1 r1 q1) fun _ s2 q=>q
theorem Wu{i:Nat}{x:Str}{e:Expr}{te:TE}{pos':Pos}(hN:X.N.Nodup)(hi:X.N[i]?=some x)(hx:Loc X.env.scope x)(he:PE X e te)(hs:swapsWith e (some (.Name x pos')) pos.line X.env=pure false:=by rfl)(hf:X.fn x=true∨X.env.scope.names.lookup x=some .local:=by first|exact .inl rfl|exact .inr rfl|assumption) :
 PS X (.Assign [.Name x pos'] e pos) (Zch te (Tp i)):=by
 intro pins s σ H D I h
 refine wpAny_Assign_Name (Ų (he pins s σ H _ I h) fun v s1 ⟨y,H1,I1,r1,q1⟩=>?_) hs
 exact fV I1 hN hi hx r1 (fun s2 I2=>⟨_,H1,I2,q1⟩) hf
def Zci(i j:Nat)(ta:TA):TS:=fun D σ H=>ta σ H fun vs H1=>∃v w,vs=[v,w]∧D.nx ((σ.set i (some v)).set j (some w)) H1
theorem yR{i j:Nat}{x y:Str}{a b:Expr}{ta:TA}{px py pt:Pos}{kt k2 pt2}(hc:X.calm=true)(hN:X.N.Nodup)(hi:X.N[i]?=some x)(hj:X.N[j]?=some y)(hij:i≠j)
 (hx:X.env.scope.names.lookup x=some .local)(hy:X.env.scope.names.lookup y=some .local)(ha:PA X [a,b] ta)
 (hw:swappedStores [.Tuple [.Name x px,.Name y py] kt pt] (.Tuple [a,b] k2 pt2) X.env=pure (some [x,y]))
 (hs:swapsWithSole [.Tuple [.Name x px,.Name y py] kt pt] (.Tuple [a,b] k2 pt2) pos.line X.env=pure false:=by rfl) :
 PS X (.Assign [.Tuple [.Name x px,.Name y py] kt pt] (.Tuple [a,b] k2 pt2) pos) (Zci i j ta):=by
 intro pins s σ H D I h
 rw[exec_Assign_arm]
 refine wpAny_bind (wpAny_standAt ?_)
 rw[hs]
 refine wpAny_bind (wpAny_pure ?_)
 rw[if_neg (by decide)]
 refine wpAny_bind (Tuple_ (Ų (ha _ pins s σ H _ I h) fun us s1 ⟨vs,H1,I1,r1,q1⟩=>?_))
 obtain⟨v,w,e1,q1⟩:=q1
 subst e1
 obtain⟨u1,u2,rfl,rv,rw'⟩:∃u1 u2,us=[u1,u2]∧RelV v u1∧RelV w u2:=by
  cases r1 with
  |cons p q=>
   cases q with
   |cons p' q'=>
    cases q'
    exact⟨_,_,rfl,p,p'⟩
 refine wpAny_newObj_type ?_ (by show 2≤sizeLine;decide)
 have I2:Inv X pins σ H1 {s1 with heap:=s1.heap.push {cls:=.type "tuple",data:=.seq [u1,u2].toArray}}:=I1.kept (t':=s1.toks) fun b o e=>Heap.get?_push_of_some _ e
 rw[hw]
 refine wpAny_bind (wpAny_pure ?_)
 show wpAny (model X.prog X.w) X.A (do rule "assign.swapped-stores";let items ←unpackItems (.ref s1.heap.objs.size) 2 none;assignInOrder [fun v=>bindName X.env y v,fun v=>bindName X.env x v] items.reverse;pure Flow.next) _ _ _
 refine wpAny_bind (wpAny_rule (wpAny_bind (unpackItems_tuple (items:=#[u1,u2]) (I.ok.hd hc) (IsTup.new s1.heap _) fun h' hx'=>?_)))
 have I3:=I2.kept (h':=h') (t':=s1.toks) fun b o e=>hx' b o (Nat.ne_of_lt (Heap.lt_size e)) e
 show wpAny _ _ (assignInOrder [fun v=>bindName X.env y v,fun v=>bindName X.env x v] [u2,u1] >>= fun _=>pure Flow.next) _ _ _
 refine wpAny_bind (assignInOrder_cons (wpAny_bindName (fV I3 hN hj (.inl hy) rw' (fun s2 I4=>?_) (.inr hy))))
 refine assignInOrder_cons (wpAny_bindName (fV I4 hN hi (.inl hx) rv (fun s3 I5=>assignInOrder_nil (wpAny_pure ?_)) (.inr hx)))
 rw[List.set_comm _ _ (Ne.symm hij)] at I5
 exact⟨_,H1,I5,q1⟩
def Zjm(i:Nat)(te:TE)(ti:TIp):TS:=fun D σ H=>∃x,σ[i]?=some (some x)∧te σ H fun y H1=>ti x y H1 fun z H2=>D.nx (σ.set i (some z)) H2
theorem Wv{i:Nat}{x:Str}{e:Expr}{te:TE}{op:Operator}{ti:TIp}{pos':Pos}(hN:X.N.Nodup)(hi:X.N[i]?=some x)(hx:Loc X.env.scope x)(he:PE X e te)(ho:PIp X op ti)(hf:X.fn x=true∨X.env.scope.names.lookup x=some .local:=by first|exact .inl rfl|exact .inr rfl|assumption) :
 PS X (.AugAssign (.Name x pos') op e pos) (Zjm i te ti):=by
 intro pins s σ H D I h
 obtain⟨v,e1,h⟩:=h
 obtain⟨m,hn,hl⟩:=I.loc
 have vis:DN X.env.scope x:=by rcases hx with k|k;exact .inl k;exact .inr (.inl k)
 obtain⟨u,r,l⟩:=hl i x v hi e1 vis
 refine wpAny_AugAssign_Name ?_
 have go:wpAny (model X.prog X.w) X.A (eval e X.env) (fun w s₂=>wpAny (model X.prog X.w) X.A (inplaceOp op u w) (fun r s₃=>wpAny (model X.prog X.w) X.A (storeName X.env x r) (fun _=>SP X pins D .next) X.xe s₃) X.xe s₂) X.xe s:=by
  refine Ų (he pins s σ H _ I h) fun w s1 ⟨y,H1,I1,r1,q1⟩=>?_
  refine Ų (ho pins s1 σ H1 v y u w _ I1 r r1 q1) fun z s2 ⟨zv,H2,I2,r2,q2⟩=>?_
  exact fV I2 hN hi hx r2 (fun s3 I3=>⟨_,H2,I3,q2⟩) hf
 rcases l with⟨hk,hm⟩|⟨hk,c,hc,hcell⟩
 ·exact wpAny_loadName_local I.ok.kind hk hn hm go
 ·rcases hk with hk|hk
  ·exact wpAny_loadName_cell I.ok.kind hk hc hcell go
  ·rcases hx with k|k
   ·have:X.env.scope.names.lookup x=some .free:=hk
    rw[k] at this;cases this
   ·have:X.env.scope.names.lookup x=some .free:=hk
    rw[k] at this;cases this
def ipI(f:Int→Int→Int):TIp:=fun x y H Q=>∃i j,x=.int i∧y=.int j∧Q (.int (f i j)) H
end
section
variable{X:Cx}{pos:Pos}
def Ww(c:TT)(tb:TS):TS:=fun D σ H=>∃W:Nat→St→Hp→Prop,(∃m,W m σ H)∧∀m σ H,W m σ H→
 c σ H fun b H1=>if b=true then ∃N:St→Hp→Prop,(∀σ' H',N σ' H'→∃m',m'<m∧W m' σ' H')∧tb {D with nx:=N,ct:=N,bk:=D.nx} σ H1 else D.nx σ H1
theorem Ge{c:Expr}{body:List Stmt}{tc:TT}{tb:TS}(hp:PassesOwn (model X.prog X.w) X.A X.env X.xe)(hc:PT X c tc)(hb:lY X body tb):PS X (.While c body [] pos) (Ww tc tb):=by
 intro pins s σ H D I h
 obtain⟨W,⟨m0,w0⟩,turn⟩:=h
 refine wpAny_While (codeAny_whileLoop (fun n s'=>∃σ' H',Inv X pins σ' H' s'∧W n σ' H') ?_ m0 ⟨σ,H,I,w0⟩)
 rintro n s1 ⟨σ1,H1,I1,w1⟩
 refine wpAny_passesOwn hp (Ų (hc pins s1 σ1 H1 _ I1 (turn n σ1 H1 w1)) fun b s2 ⟨H2,I2,q2⟩=>?_)
 cases b with
 |true=>
  obtain⟨N,hN,q2⟩:=q2
  rw[if_pos rfl]
  refine wpAny_passesOwn hp (Ų (hb pins s2 σ1 H2 _ I2 q2) fun f s3 q3=>?_)
  cases f with
  |next=>
   obtain⟨σ3,H3,I3,n3⟩:=q3
   obtain⟨m',hm,w3⟩:=hN σ3 H3 n3
   exact⟨m',hm,σ3,H3,I3,w3⟩
  |cont=>
   obtain⟨σ3,H3,I3,n3⟩:=q3
   obtain⟨m',hm,w3⟩:=hN σ3 H3 n3
   exact⟨m',hm,σ3,H3,I3,w3⟩
  |brk=>exact q3
  |ret v=>exact q3
 |false=>
  rw[if_neg Bool.false_ne_true]
  exact wpAny_execs_nil ⟨σ1,H2,I2,q2⟩
end
structure It where
 go:Nat→Hp→Prop
 yld:Nat→Hp→V→Hp→Prop
 stop:Nat→Hp→Prop
def fW(X:Cx)(pins:List (Addr×Obj))(H:Hp)(b:Addr):Prop:=
 H b=none∧b≠X.env.locals∧b∉X.fs∧(b∈X.ex∨X.s₀.heap.objs.size≤b)∧(∀x c,X.env.cells.lookup x=some c→c≠b)∧∀p∈X.pn++pins,p.1≠b
theorem Inv.DQ{X:Cx}{pins:List (Addr×Obj)}{σ:St}{H H':Hp}{s:Shared}{b:Addr}(I:Inv X pins σ H s)(hb:s.heap.objs.size≤b)(hn:H' b=none):fW X pins H' b:=by
 refine⟨hn,Nat.ne_of_gt (Nat.lt_of_lt_of_le I.lt hb),I.Zjb hb,.inr (Nat.le_trans I.sz hb),fun x c e z=>?_,fun p hp z=>?_⟩
 ·obtain⟨v,q⟩:=I.cell x c e
  exact absurd (Nat.lt_of_lt_of_le q.lt (by rw[z];exact hb)) (Nat.lt_irrefl _)
 ·exact absurd (Nat.lt_of_lt_of_le (Heap.lt_size (I.pin p hp).1) (by rw[z];exact hb)) (Nat.lt_irrefl _)
structure Turn(P:Program)(w:World)(K:PySem.W.Frag)(tg:Expr)(J:It)(fp:List Addr)(it:Addr)(tn:Nat→Heap→Prop):Prop where
 mem:it∈fp
 obj:∀i h,tn i h→∀b∈fp,∃o,h.get? b=some o∧∀v,o.data≠ .cell v
 keep:∀i h h',tn i h→(∀b∈fp,∀o,h.get? b=some o→h'.get? b=some o)→tn i h'
 item:∀(X:Cx),X.prog=P→X.w=w→X.K=K→X.calm=true→∀(i:Nat) (pins:List (Addr×Obj)) (s:Shared) (σ:St) (H:Hp) (E:Value→Shared→Prop),Inv X pins σ H s→(∀b∈fp,fW X pins H b)→tn i s.heap→J.go i H→
  wpAny (model P w) X.A (pyNext (.ref it)) (fun r s1=>∃u,r=some u∧
   wpAny (model P w) X.A (letOwnedTupleGo tg (.ref it) u) (fun _ s2=>∃x H',Inv X pins σ H' s2∧RelV x u∧J.yld i H x H'∧tn (i+1) s2.heap∧∀b∈fp,H' b=none) E s1) E s
 done:∀(X:Cx),X.prog=P→X.w=w→X.K=K→X.calm=true→∀(i:Nat) (pins:List (Addr×Obj)) (s:Shared) (σ:St) (H:Hp) (E:Value→Shared→Prop),Inv X pins σ H s→(∀b∈fp,fW X pins H b)→tn i s.heap→J.stop i H→
  wpAny (model P w) X.A (pyNext (.ref it)) (fun r s1=>r=none∧Inv X pins σ H s1) E s
 self:∀(A:Around) (i:Nat) (s:Shared) (Q:Value→Shared→Prop) (E:Value→Shared→Prop),tn i s.heap→Q (.ref it) s→wpAny (model P w) A (pyIter (.ref it)) Q E s
abbrev TI:=St→Hp→(It→Hp→Prop)→Prop
def PIE(X:Cx)(pins:List (Addr×Obj))(σ:St)(tg:Expr)(R:It→Hp→Prop)(itv:Value)(s2:Shared):Prop:=
 ∃(it:Addr) (fp:List Addr) (tn:Nat→Heap→Prop) (J:It) (H':Hp),itv=.ref it∧Inv X pins σ H' s2∧Turn X.prog X.w X.K tg J fp it tn∧tn 0 s2.heap∧(∀b∈fp,fW X pins H' b)∧R J H'
def PI(X:Cx)(tg iter:Expr)(wi:TI):Prop:=
 ∀(pins:List (Addr×Obj)) (s:Shared) (σ:St) (H:Hp) (R:It→Hp→Prop),Inv X pins σ H s→wi σ H R→
  wpAny (model X.prog X.w) X.A (eval iter X.env) (fun v s1=>wpAny (model X.prog X.w) X.A (pyIter v) (PIE X pins σ tg R) X.xe s1) X.xe s
theorem BR{M:Model}{A:Around}{E:Value→Shared→Prop}{s:Shared}{tg:Expr}{it:Addr}{u:Value}{o:Obj}{n:String}{vs:Array Value}{Q:Unit→Shared→Prop}(ho:s.heap.get? it=some o)(hc:o.cls=.type n)(hd:o.data=.fields vs)
 (hn:["enumerate","zip","dict_itemiterator","dict_reverseitemiterator","odict_iterator","itertools.zip_longest","itertools.pairwise"].contains n=false)(hQ:Q () s):wpAny M A (letOwnedTupleGo tg (.ref it) u) Q E s:=by
 unfold letOwnedTupleGo
 cases tg<;>first
  |exact wpAny_pure hQ
  |(cases u<;>first
     |exact wpAny_pure hQ
     |(refine wpAny_bind (wpAny_load ho ?_)
       rw[hc,hd]
       show wpAny M A (if(["enumerate","zip","dict_itemiterator","dict_reverseitemiterator","odict_iterator","itertools.zip_longest","itertools.pairwise"].contains n && vs[0]?== some (rawInt _))=true then _ else _) Q E s
       rw[if_neg (by intro h;rw[hn,Bool.false_and] at h;cases h)]
       exact wpAny_pure hQ))
def Wx(K:PySem.W.Frag)(a:Addr):It:=
 ⟨fun i H=>∃xs x,aG K H a xs∧xs[i]?=some x,fun i H x H'=>H'=H∧∀xs,aG K H a xs→xs[i]?=some x,fun i H=>∃xs,aG K H a xs∧xs.length≤i⟩
def Itt(K:PySem.W.Frag)(a:Addr):It:=
 ⟨fun i H=>∃xs x,dF K H a xs∧xs[i]?=some x,fun i H x H'=>H'=H∧∀xs,dF K H a xs→xs[i]?=some x,fun i H=>∃xs,dF K H a xs∧xs.length≤i⟩
def Itr(lo:Int)(n:Nat):It:=⟨fun i _=>i<n,fun i H x H'=>H'=H∧x=.int (lo+i),fun i _=>n≤i⟩
theorem DR{P:Program}{w:World}{K:PySem.W.Frag}{tg:Expr}(a it:Addr):Turn P w K tg (Wx K a) [it] it (fun i h=>h.IsListIter it a i) where
 mem:=by simp
 obj:=fun i h st b hb=>by
  have e:b=it:=by simpa using hb
  subst e
  obtain⟨o,e,c,d⟩:=st
  exact⟨o,e,fun v z=>by rw[d] at z;cases z⟩
 keep:=fun i h h' st k=>st.at fun o e=>k it (by simp) o e
 item:=by
  intro X hP hw hK hc i pins s σ H E I hf st hg
  subst hP hw hK
  obtain⟨xs,x,hq,hx⟩:=hg
  obtain⟨its,rv,p,hz⟩:=I.list hq
  obtain⟨u,hu,ru⟩:=rv.get hx
  obtain⟨f0,f1,f2,f3,f4,f5⟩:=hf it (by simp)
  refine wpAny_pyNext_list_item st p.isList (x:=u) (by simpa using hu) fun h' st' sb=>?_
  have I1:Inv X pins σ H {s with heap:=h'}:=I.turned (t':=s.toks) (fun b o hb e=>(sb.2 b hb).trans e) f0 f1 f3 f4 f5
  obtain⟨o,e,c,d⟩:=id st'
  exact⟨u,rfl,BR (s:={s with heap:=h'}) e c d (by decide) ⟨x,H,I1,ru,⟨rfl,fun ys hy=>by rw[I.m_ hy hq];exact hx⟩,st',fun b hb=>(hf b hb).1⟩⟩
 done:=by
  intro X hP hw hK hc i pins s σ H E I hf st hg
  subst hP hw hK
  obtain⟨xs,hq,hx⟩:=hg
  obtain⟨its,rv,p,hz⟩:=I.list hq
  obtain⟨f0,f1,f2,f3,f4,f5⟩:=hf it (by simp)
  have hl:=rv.length
  exact wpAny_pyNext_list_end (I.ok.hd hc) st p.isList (by simp;omega) fun h' eb=>⟨rfl,I.turned (t':=s.toks) (fun b o hb e=>eb b o hb e) f0 f1 f3 f4 f5⟩
 self:=fun _ _ _ _ _ st h=>wpAny_pyIter_listiter st h
theorem yS{P:Program}{w:World}{K:PySem.W.Frag}{tg:Expr}(a it:Addr):Turn P w K tg (Itt K a) [it] it (fun i h=>h.IsTupleIter it a i) where
 mem:=by simp
 obj:=fun i h st b hb=>by
  have e:b=it:=by simpa using hb
  subst e
  obtain⟨o,e,c,d⟩:=st
  exact⟨o,e,fun v z=>by rw[d] at z;cases z⟩
 keep:=fun i h h' st k=>st.at fun o e=>k it (by simp) o e
 item:=by
  intro X hP hw hK hc i pins s σ H E I hf st hg
  subst hP hw hK
  obtain⟨xs,x,hq,hx⟩:=hg
  obtain⟨its,rv,p,hz⟩:=I.tuple hq
  obtain⟨u,hu,ru⟩:=rv.get hx
  obtain⟨f0,f1,f2,f3,f4,f5⟩:=hf it (by simp)
  refine wpAny_pyNext_tuple_item st (show s.heap.IsTuple a its.toArray from p) (x:=u) (by simpa using hu) fun h' st' sb=>?_
  have I1:Inv X pins σ H {s with heap:=h'}:=I.turned (t':=s.toks) (fun b o hb e=>(sb.2 b hb).trans e) f0 f1 f3 f4 f5
  obtain⟨o,e,c,d⟩:=id st'
  exact⟨u,rfl,BR (s:={s with heap:=h'}) e c d (by decide) ⟨x,H,I1,ru,⟨rfl,fun ys hy=>by rw[I.qD hy hq];exact hx⟩,st',fun b hb=>(hf b hb).1⟩⟩
 done:=by
  intro X hP hw hK hc i pins s σ H E I hf st hg
  subst hP hw hK
  obtain⟨xs,hq,hx⟩:=hg
  obtain⟨its,rv,p,hz⟩:=I.tuple hq
  obtain⟨f0,f1,f2,f3,f4,f5⟩:=hf it (by simp)
  have hl:=rv.length
  exact wpAny_pyNext_tuple_end (I.ok.hd hc) st (show s.heap.IsTuple a its.toArray from p) (by simp;omega) fun h' eb=>⟨rfl,I.turned (t':=s.toks) (fun b o hb e=>eb b o hb e) f0 f1 f3 f4 f5⟩
 self:=fun _ _ _ _ _ st h=>wpAny_pyIter_tupleiter st h
theorem yU{P:Program}{w:World}{K:PySem.W.Frag}{tg:Expr}(it:Addr)(lo:Int)(n:Nat):Turn P w K tg (Itr lo n) [it] it (fun i h=>IsRangeIter h it (lo+(i:Nat)*1) ((n:Int)-(i:Nat)) 1) where
 mem:=by simp
 obj:=fun i h st b hb=>by
  have e:b=it:=by simpa using hb
  subst e
  exact⟨_,st,fun v z=>by
   have z':Data.fields _=Data.cell v:=z
   cases z'⟩
 keep:=fun i h h' st k=>k it (by simp) _ st
 item:=by
  intro X hP hw hK hc i pins s σ H E I hf st hg
  subst hP hw hK
  obtain⟨f0,f1,f2,f3,f4,f5⟩:=hf it (by simp)
  have W:=Walks.range (prog:=X.prog) (w:=X.w) (I.ok.hd hc) it lo 1 n
  refine W.item i s _ _ hg st fun v h' tk hv st' kk=>?_
  obtain⟨t,rfl⟩:=hv
  have I1:Inv X pins σ H {s with heap:=h',toks:=tk}:=I.turned (fun b o hb e=>kk b o (by simpa using hb) e) f0 f1 f3 f4 f5
  refine⟨_,rfl,BR (s:={s with heap:=h',toks:=tk}) (n:= "range_iterator") st' rfl rfl (by decide) ⟨.int (lo+i),H,I1,⟨t,?_⟩,⟨rfl,rfl⟩,st',fun b hb=>(hf b hb).1⟩⟩
  rw[Int.mul_one]
 done:=by
  intro X hP hw hK hc i pins s σ H E I hf st hg
  subst hP hw hK
  obtain⟨f0,f1,f2,f3,f4,f5⟩:=hf it (by simp)
  exact wpAny_pyNext_range_end (I.ok.hd hc) st (by have:n≤i:=hg;omega) fun h' eb=>⟨rfl,I.turned (t':=s.toks) (fun b o hb e=>eb b o hb e) f0 f1 f3 f4 f5⟩
 self:=fun _ _ _ _ _ st h=>wpAny_pyIter_rangeiter st h
end L2
namespace L2
open PySem PySem.Spec PyProof.Rows
section
variable{X:Cx}{tg:Expr}
theorem Gf{pins:List (Addr×Obj)}{σ:St}{H:Hp}{s:Shared}{R:It→Hp→Prop}{E:Value→Shared→Prop}{lo hi:Int}{t u v:Tok}{tk:Nat}(I:Inv X pins σ H s)(h1: -(2 ^ 62)≤lo)(h2:lo<2 ^ 62)(h3: -(2 ^ 62)≤hi)(h4:hi<2 ^ 62)
 (q:R (Itr lo (hi-lo).toNat) H):wpAny (model X.prog X.w) X.A (pyIter (.ref s.heap.objs.size)) (PIE X pins σ tg R) E {s with heap:=s.heap.push {cls:=.type "range",data:=.fields #[.int lo t,.int hi u,.int 1 v]},toks:=tk}:=by
 refine wpAny_pyIter_range (IsRange.new ..) (small_one h1 h2 h3 h4) ?_
 have I1:Inv X pins σ H {s with heap:=s.heap.push {cls:=.type "range",data:=.fields #[.int lo t,.int hi u,.int 1 v]},toks:=tk}:=I.kept fun b o e=>Heap.get?_push_of_some _ e
 refine⟨(s.heap.push {cls:=.type "range",data:=.fields #[.int lo t,.int hi u,.int 1 v]}).objs.size,[(s.heap.push {cls:=.type "range",data:=.fields #[.int lo t,.int hi u,.int 1 v]}).objs.size],_,_,H,rfl,
  I1.kept (t':=tk) fun b o e=>Heap.get?_push_of_some _ e,yU _ lo (hi-lo).toNat,?_,fun b hb=>?_,q⟩
 ·have e1:lo+((0:Nat):Int)*1=lo:=by simp
  have e2:(((hi-lo).toNat:Nat):Int)-((0:Nat):Int)=Builtin.Range.rangeSize lo hi 1:=by rw[rangeSize_one];split<;>omega
  show IsRangeIter _ _ (lo+((0:Nat):Int)*1) ((((hi-lo).toNat:Nat):Int)-((0:Nat):Int)) 1
  rw[e1,e2]
  exact Heap.get?_push_size _ rfl
 ·have e:b=(s.heap.push {cls:=.type "range",data:=.fields #[.int lo t,.int hi u,.int 1 v]}).objs.size:=by simpa using hb
  subst e
  exact I1.DQ (Nat.le_refl _) (I1.hok.fresh (Nat.le_refl _))
def Zcj(ta:TA):TI:=fun σ H R=>ta σ H fun vs H1=>∃j:Int,vs=[.int j]∧ -(2 ^ 62)≤j∧j<2 ^ 62∧R (Itr 0 j.toNat) H1
theorem DW{a:Expr}{ta:TA}{p pos:Pos}(hg:Gl X "range")(hm:X.mg "range" =none)(ha:PA X [a] ta)(hs:starEach [a] X.env=[(false,eval a X.env)]:=by rfl):PI X tg (.Call (.Name "range" p) [a] [] pos) (Zcj ta):=by
 intro pins s σ H R I h
 refine Call_ (jO I hg hm boot_range (PyProof.Rows.callWith_type1 (Ų (ha pos pins s σ H _ I h) fun us s1 ⟨vs,H1,I1,r1,q1⟩=>?_) hs rfl))
 obtain⟨j,e,q1,q2,q⟩:=q1
 subst e
 cases r1 with
 |cons r rr=>
  cases rr
  obtain⟨t,rfl⟩:=r
  exact call_range_1 (Gf I1 (by omega) (by omega) q1 q2 (by simpa using q))
def Zjn(wi:TI)(g:TG)(tb:TS):TS:=fun D σ H=>wi σ H fun J H1=>∃W:Nat→Nat→St→Hp→Prop,(∃m,W 0 m σ H1)∧∀i m σ H,W i m σ H→
 (J.stop i H∧D.nx σ H)∨(J.go i H∧∃N:St→Hp→Prop,(∀σ' H',N σ' H'→∃m',m'<m∧W (i+1) m' σ' H')∧∀x H',J.yld i H x H'→g x σ H' fun σ2 H2=>tb {D with nx:=N,ct:=N,bk:=D.nx} σ2 H2)
def jP(fp:List Addr)(h:Heap):List (Addr×Obj):=fp.filterMap fun b=>(h.get? b).map fun o=>(b,o)
theorem bF{fp:List Addr}{h:Heap}{b:Addr}{o:Obj}(hb:b∈fp)(e:h.get? b=some o):(b,o)∈jP fp h:=List.mem_filterMap.mpr ⟨b,hb,by rw[e];rfl⟩
theorem DX{fp:List Addr}{h:Heap}{p:Addr×Obj}(hp:p∈jP fp h):p.1∈fp∧h.get? p.1=some p.2:=by
 obtain⟨b,hb,e⟩:=List.mem_filterMap.mp hp
 cases q:h.get? b with
 |none=>rw[q] at e;cases e
 |some o=>
  rw[q] at e
  have e':(b,o)=p:=Option.some.inj e
  subst e'
  exact⟨hb,q⟩
theorem Inv.pinned{pins:List (Addr×Obj)}{σ:St}{H:Hp}{s:Shared}{fp:List Addr}(I:Inv X pins σ H s)(hf:∀b∈fp,fW X pins H b)(ho:∀b∈fp,∃o,s.heap.get? b=some o∧∀v,o.data≠ .cell v):Inv X (pins++jP fp s.heap) σ H s:=
 I.BP fun p hp=>(List.mem_append.mp hp).elim (fun z=>I.pin p (List.mem_append_right _ z)) fun z=>by
   obtain⟨hb,e⟩:=DX z
   obtain⟨f0,f1,f2,_⟩:=hf p.1 hb
   obtain⟨o,e',d⟩:=ho p.1 hb
   rw[e] at e';cases e'
   exact⟨e,f0,f1,f2,d⟩
theorem Inv.fX{pins pl:List (Addr×Obj)}{σ:St}{H:Hp}{s:Shared}(I:Inv X (pins++pl) σ H s):Inv X pins σ H s:=I.BP fun p hp=>I.pin p (List.mem_append_right _ (List.mem_append_left _ hp))
theorem Wy{iter:Expr}{body:List Stmt}{wi:TI}{g:TG}{tb:TS}{pos:Pos}(hp:PassesOwn (model X.prog X.w) X.A X.env X.xe)(hc:X.calm=true)(hi:PI X tg iter wi)(hg:PG X tg g)(hb:lY X body tb)
 (hs:∀x,foldedSetIterable iter X.env x=pure x:=by intro _;rfl):PS X (.For tg iter body [] pos) (Zjn wi g tb):=by
 intro pins s σ H D I h
 refine wpAny_For (Ų (hi pins s σ H _ I h) fun v s1 h1=>Ų h1 fun itv s2 h2=>?_) hs
 obtain⟨it,fp,tn,J,H2,e,I2,T,st2,f2,W,⟨m0,w0⟩,turn⟩:=h2
 subst e
 -- what stays true of the iterator's objects through the loop
 have stat:∀{H':Hp},(∀b∈fp,H' b=none)→∀b∈fp,fW X pins H' b:=fun hn b hb=>⟨hn b hb,(f2 b hb).2⟩
 refine codeAny_forLoop_any (fun n s'=>∃i σ' H',Inv X pins σ' H' s'∧tn i s'.heap∧(∀b∈fp,H' b=none)∧W i n σ' H') ?_ m0 ⟨0,σ,H2,I2,st2,fun b hb=>(f2 b hb).1,w0⟩
 rintro n s3 ⟨i,σ3,H3,I3,st3,fr3,w3⟩
 rcases turn i n σ3 H3 w3 with⟨stop,qn⟩|⟨go,N,hN,step⟩
 ·refine wpAny_passesOwn hp (Ų (T.done X rfl rfl rfl hc i pins s3 σ3 H3 X.xe I3 (stat fr3) st3 stop) fun r s4 ⟨hr,I4⟩=>?_)
  subst hr
  exact wpAny_execs_nil ⟨σ3,H3,I4,qn⟩
 ·refine wpAny_passesOwn hp (Ų (T.item X rfl rfl rfl hc i pins s3 σ3 H3 X.xe I3 (stat fr3) st3 go) fun r s4 ⟨u,hr,h4⟩=>?_)
  subst hr
  refine wpAny_passesOwn hp (Ų h4 fun _ s5 ⟨x,H5,I5,r5,y5,Qu,Wz⟩=>?_)
  have I5':=I5.pinned (stat Wz) (T.obj _ _ Qu)
  refine wpAny_passesOwn hp (Ų (hg _ s5 σ3 H5 x u _ I5' r5 (step x H5 y5)) fun _ s6 ⟨σ6,H6,I6,q6⟩=>?_)
  refine wpAny_passesOwn hp (Ų (hb _ s6 σ6 H6 _ I6 q6) fun f s7 q7=>?_)
  have again:∀{σ7:St} {H7:Hp},Inv X (pins++jP fp s5.heap) σ7 H7 s7→N σ7 H7→∃m,m<n∧∃i σ' H',Inv X pins σ' H' s7∧tn i s7.heap∧(∀b∈fp,H' b=none)∧W i m σ' H':=fun{σ7 H7} I7 n7=>by
   obtain⟨m',hm,w7⟩:=hN σ7 H7 n7
   refine⟨m',hm,i+1,σ7,H7,I7.fX,T.keep _ _ _ Qu fun b hb o e=>(I7.pin (b,o) (List.mem_append_right _ (List.mem_append_right _ (bF hb e)))).1,fun b hb=>?_,w7⟩
   obtain⟨o,e,d⟩:=T.obj _ _ Qu b hb
   exact(I7.pin (b,o) (List.mem_append_right _ (List.mem_append_right _ (bF hb e)))).2.1
  cases f with
  |next=>obtain⟨σ7,H7,I7,n7⟩:=q7;exact again I7 n7
  |cont=>obtain⟨σ7,H7,I7,n7⟩:=q7;exact again I7 n7
  |brk=>obtain⟨σ7,H7,I7,q7⟩:=q7;exact⟨σ7,H7,I7.fX,q7⟩
  |ret v=>obtain⟨x7,σ7,H7,I7,r7,q7⟩:=q7;exact⟨x7,σ7,H7,I7.fX,r7,q7⟩
end
end L2
namespace L2
open PySem PySem.Spec PyProof.Rows
abbrev R2:=V→V→Hp→VK→Prop
def aC(X:Cx)(f:Value→Value→Sem Value)(r:R2):Prop:=
 ∀(pins:List (Addr×Obj)) (s:Shared) (σ:St) (H:Hp) (x y:V) (v u:Value) (Q:VK),Inv X pins σ H s→RelV x v→RelV y u→r x y H Q→
  wpAny (model X.prog X.w) X.A (f v u) (EP X pins σ Q) X.xe s
def Qv(X:Cx)(f:Value→Sem Value)(r:V→Hp→VK→Prop):Prop:=
 ∀(pins:List (Addr×Obj)) (s:Shared) (σ:St) (H:Hp) (x:V) (v:Value) (Q:VK),Inv X pins σ H s→RelV x v→r x H Q→
  wpAny (model X.prog X.w) X.A (f v) (EP X pins σ Q) X.xe s
def Ŭ(X:Cx)(f:Value)(r:List V→Hp→VK→Prop):Prop:=
 ∀(pins:List (Addr×Obj)) (s:Shared) (σ:St) (H:Hp) (xs:List V) (us:List Value) (Q:VK),Inv X pins σ H s→Vals xs us→r xs H Q→
  wpAny (model X.prog X.w) X.A (call f us) (EP X pins σ Q) X.xe s
def Zjo(X:Cx)(r:V→Hp→(Bool→Hp→Prop)→Prop):Prop:=
 ∀(pins:List (Addr×Obj)) (s:Shared) (σ:St) (H:Hp) (x:V) (v:Value) (Q:Bool→Hp→Prop),Inv X pins σ H s→RelV x v→r x H Q→
  wpAny (model X.prog X.w) X.A (truthy v) (TP X pins σ Q) X.xe s
def tOp(r:R2)(ta tb:TE):TE:=fun σ H Q=>ta σ H fun x H1=>tb σ H1 fun y H2=>r x y H2 Q
def tUn(r:V→Hp→VK→Prop)(ta:TE):TE:=fun σ H Q=>ta σ H fun x H1=>r x H1 Q
def rI(C:Int→Int→Prop)(g:Int→Int→V):R2:=fun x y H Q=>∃i j,x=.int i∧y=.int j∧C i j∧Q (g i j) H
def Qa(g:Int→Int→V):R2:=fun x y H Q=>∃i j,x=.int i∧y=.int j∧Q (g i j) H
def rU(g:Int→V):V→Hp→VK→Prop:=fun x H Q=>∃i,x=.int i∧Q (g i) H
section
variable{X:Cx}{a b c:Expr}{ta tb tc:TE}{pos:Pos}
theorem WD(ha:PE X a ta)(hb:PE X b tb){pins:List (Addr×Obj)}{s:Shared}{σ:St}{H:Hp}{R:V→V→Hp→Prop}(I:Inv X pins σ H s)
 (h:ta σ H fun x H1=>tb σ H1 fun y H2=>R x y H2){Q:Value→Shared→Prop}{f:Value→Value→Sem Value}
 (hf:∀v u s2 x y H2,Inv X pins σ H2 s2→RelV x v→RelV y u→R x y H2→wpAny (model X.prog X.w) X.A (f v u) Q X.xe s2) :
 wpAny (model X.prog X.w) X.A (eval a X.env) (fun v s₁=>wpAny (model X.prog X.w) X.A (eval b X.env) (fun u s₂=>wpAny (model X.prog X.w) X.A (f v u) Q X.xe s₂) X.xe s₁) X.xe s:=by
 refine Ų (ha pins s σ H _ I h) fun v s1 ⟨x,H1,I1,r1,q1⟩=>?_
 refine Ų (hb pins s1 σ H1 _ I1 q1) fun u s2 ⟨y,H2,I2,r2,q2⟩=>?_
 exact hf v u s2 x y H2 I2 r1 r2 q2
theorem Tq{op:Operator}{r:R2}(ho:aC X (binaryOp op) r)(ha:PE X a ta)(hb:PE X b tb):PE X (.BinOp a op b pos) (tOp r ta tb):=by
 intro pins s σ H Q I h
 exact wpAny_BinOp (WD ha hb I h fun v u s2 x y H2 I2 rx ry q=>ho pins s2 σ H2 x y v u Q I2 rx ry q)
theorem Zck{op:UnaryOp}{r:V→Hp→VK→Prop}(ho:Qv X (unaryOp op) r)(ha:PE X a ta):PE X (.UnaryOp op a pos) (tUn r ta):=by
 intro pins s σ H Q I h
 exact UnaryOp_ (Ų (ha pins s σ H _ I h) fun v s1 ⟨x,H1,I1,r1,q1⟩=>ho pins s1 σ H1 x v Q I1 r1 q1)
theorem BW{f:Value→Value→Sem Value}{C:Int→Int→Prop}{g:Int→Int→Int}
 (rule:∀(i j:Int) (t u:Tok) (s:Shared) (Q:Value→Shared→Prop) (E:Value→Shared→Prop),C i j→Q (.int (g i j) s.toks) {s with toks:=s.toks+1}→wpAny (model X.prog X.w) X.A (f (.int i t) (.int j u)) Q E s) :
 aC X f (rI C fun i j=>.int (g i j)):=by
 intro pins s σ H x y v u Q I rx ry h
 obtain⟨i,j,rfl,rfl,hc,q⟩:=h
 obtain⟨t,rfl⟩:=rx
 obtain⟨t',rfl⟩:=ry
 exact rule i j t t' s _ _ hc ⟨.int (g i j),H,I.tok _,⟨_,rfl⟩,q⟩
theorem vH{f:Value→Value→Sem Value}{g:Int→Int→Int}
 (rule:∀(i j:Int) (t u:Tok) (s:Shared) (Q:Value→Shared→Prop) (E:Value→Shared→Prop),Q (.int (g i j) s.toks) {s with toks:=s.toks+1}→wpAny (model X.prog X.w) X.A (f (.int i t) (.int j u)) Q E s) :
 aC X f (Qa fun i j=>.int (g i j)):=by
 intro pins s σ H x y v u Q I rx ry h
 obtain⟨i,j,rfl,rfl,q⟩:=h
 obtain⟨t,rfl⟩:=rx
 obtain⟨t',rfl⟩:=ry
 exact rule i j t t' s _ _ ⟨.int (g i j),H,I.tok _,⟨_,rfl⟩,q⟩
theorem Qw{f:Value→Value→Sem Value}{g:Int→Int→Bool}
 (rule:∀(i j:Int) (t u:Tok) (s:Shared) (Q:Value→Shared→Prop) (E:Value→Shared→Prop),Q (.bool (g i j)) s→wpAny (model X.prog X.w) X.A (f (.int i t) (.int j u)) Q E s) :
 aC X f (Qa fun i j=>.bl (g i j)):=by
 intro pins s σ H x y v u Q I rx ry h
 obtain⟨i,j,rfl,rfl,q⟩:=h
 obtain⟨t,rfl⟩:=rx
 obtain⟨t',rfl⟩:=ry
 exact rule i j t t' s _ _ ⟨.bl (g i j),H,I,rfl,q⟩
def DY(i j:Int):Prop:=0≤j∧j≤1000000∧i.natAbs<2 ^ 64
def WK(i j:Int):Prop:=(-(2 ^ 64)<i∧i<2 ^ 64)∨(-(2 ^ 64)<j∧j<2 ^ 64)
theorem WK.ok{i j:Int}(h:WK i j):IntMulOk i j:=by
 rcases h with⟨h1,h2⟩|⟨h1,h2⟩
 ·exact .of_left (intBits_le_64 h1 h2)
 ·exact .of_right (intBits_le_64 h1 h2)
theorem yV(k:Nat):(0:Int)≤2 ^ k:=by
 rw[two_pow_cast]
 exact Int.natCast_nonneg _
theorem WL:aC X (binaryOp .Add) (Qa fun i j=>.int (i+j)):=vH fun _ _ _ _ _ _ _ q=>add_int q
theorem WM:aC X (binaryOp .Sub) (Qa fun i j=>.int (i-j)):=vH fun _ _ _ _ _ _ _ q=>sub_int q
theorem Qx:aC X (binaryOp .Mod) (rI (fun _ j=>j≠0) fun i j=>.int (i.fmod j)):=BW fun _ _ _ _ _ _ _ hc q=>mod_int' hc q
theorem WQ:aC X (binaryOp .Pow) (rI DY fun i j=>.int (i ^ j.toNat)):=BW fun _ _ _ _ _ _ _ hc q=>pow_int_small hc.1 hc.2.1 hc.2.2 q
theorem WR:aC X (binaryOp .LShift) (rI DY fun i j=>.int (i*2 ^ j.toNat)):=BW fun _ _ _ _ _ _ _ hc q=>lshift_int_small hc.1 hc.2.1 hc.2.2 q
theorem WT:aC X (binaryOp .RShift) (rI (fun _ j=>0≤j) fun i j=>.int (i / 2 ^ j.toNat)):=BW fun i j _ _ _ _ _ hc q=>
 rshift_int hc (by rw[Int.fdiv_eq_ediv_of_nonneg i (yV _)];exact q)
theorem WW:aC X (binaryOp .BitAnd) (Qa fun i j=>.int (Builtin.bitAnd i j)):=vH fun _ _ _ _ _ _ _ q=>and_int q
theorem unI{f:Value→Sem Value}{g:Int→Int}
 (rule:∀(i:Int) (t:Tok) (s:Shared) (Q:Value→Shared→Prop) (E:Value→Shared→Prop),Q (.int (g i) s.toks) {s with toks:=s.toks+1}→wpAny (model X.prog X.w) X.A (f (.int i t)) Q E s) :
 Qv X f (rU fun i=>.int (g i)):=by
 intro pins s σ H x v Q I rx h
 obtain⟨i,rfl,q⟩:=h
 obtain⟨t,rfl⟩:=rx
 exact rule i t s _ _ ⟨.int (g i),H,I.tok _,⟨_,rfl⟩,q⟩
theorem WX:Qv X (unaryOp .USub) (rU fun i=>.int (-i)):=unI fun _ _ _ _ _ q=>neg_int q
end
section
variable{X:Cx}{a b c:Expr}{ta tb tc:TE}{pos:Pos}
theorem Gg{pins:List (Addr×Obj)}{σ:St}{H:Hp}{s:Shared}{Q:VK}{k k':Bool}(I:Inv X pins σ H s)(q:Q (.bl k) H)(e:k=k'):EP X pins σ Q (.bool k') s:=by
 subst e
 exact⟨.bl k,H,I,rfl,q⟩
theorem Zcl:aC X (compareOp .Lt) (Qa fun i j=>.bl (decide (i<j))):=Qw fun _ _ _ _ _ _ _ q=>lt_int q
theorem Zcm:aC X (compareOp .LtE) (Qa fun i j=>.bl (decide (i≤j))):=Qw fun _ _ _ _ _ _ _ q=>le_int q
theorem Zcn:aC X (compareOp .Gt) (Qa fun i j=>.bl (decide (j<i))):=Qw fun _ _ _ _ _ _ _ q=>gt_int q
theorem Zco:aC X (compareOp .GtE) (Qa fun i j=>.bl (decide (j≤i))):=Qw fun _ _ _ _ _ _ _ q=>ge_int q
theorem yW:aC X (compareOp .Is) (fun x y H Q=>y=.non∧Q (.bl (decide (x=.non))) H):=by
 intro pins s σ H x y v u Q I rx ry h
 obtain⟨rfl,q⟩:=h
 cases ry
 refine is_none_gen (Gg I q ?_)
 cases x<;>first
  |(cases rx;rfl)
  |(obtain⟨t,rfl⟩:=rx;rfl)
theorem Qy:aC X (compareOp .IsNot) (fun x y H Q=>y=.non∧Q (.bl (!decide (x=.non))) H):=by
 intro pins s σ H x y v u Q I rx ry h
 obtain⟨rfl,q⟩:=h
 cases ry
 refine isnot_none_gen (Gg I q ?_)
 cases x<;>first
  |(cases rx;rfl)
  |(obtain⟨t,rfl⟩:=rx;rfl)
theorem aC.or{f:Value→Value→Sem Value}{r r':R2}(h:aC X f r)(h':aC X f r'):aC X f (fun x y H Q=>r x y H Q∨r' x y H Q):=by
 intro pins s σ H x y v u Q I rx ry q
 rcases q with q|q
 ·exact h pins s σ H x y v u Q I rx ry q
 ·exact h' pins s σ H x y v u Q I rx ry q
theorem ħ(b:Expr){op:CmpOp}(h:op≠ .In:=by decide)(h2:op≠ .NotIn:=by decide):behindInMarks op b=false:=by
 have e1:(op== CmpOp.In)=false:=by cases op<;>first|rfl|exact absurd rfl h
 have e2:(op== CmpOp.NotIn)=false:=by cases op<;>first|rfl|exact absurd rfl h2
 cases b<;>simp[behindInMarks,e1,e2]
theorem Qz{op:CmpOp}{r:R2}(ho:aC X (compareOp op) r)(ha:PE X a ta)(hb:PE X b tb)(hm:behindInMarks op b=false):PE X (.Compare a [op] [b] pos) (tOp r ta tb):=by
 intro pins s σ H Q I h
 exact wpAny_Compare1 (WD ha hb I h fun v u s2 x y H2 I2 rx ry q=>ho pins s2 σ H2 x y v u Q I2 rx ry q) hm
def WY(K:PySem.W.Frag)(x:V)(H:Hp)(k:Bool):Prop:=
 match x with
 | .non=>k=false
 | .bl b=>k=b
 | .int i=>k=(i != 0)
 | .str y=>y.length≤sizeLine∧k=((y.length:Int) != 0)
 | .Tj y=>y.size≤sizeLine∧k=((y.size:Int) != 0)
 | .ref p=>(∃xs,aG K H p xs∧k=!xs.isEmpty)∨(∃xs,dF K H p xs∧k=!xs.isEmpty)∨∃kvs,H p=some (.dK kvs)∧k=!kvs.isEmpty
 |_=>False
theorem yX{κ:Type}{kvs:List (κ×V)}{vs:List (κ×Value)}(r:KV kvs vs):(!vs.isEmpty)=!kvs.isEmpty:=by
 cases r<;>rfl
theorem ni{xs:List V}{its:List Value}(r:Vals xs its):(!its.toArray.isEmpty)=!xs.isEmpty:=by
 cases r<;>simp
theorem jQ:(sizeLine:Nat)<2 ^ 63:=by rw[sizeLine_eq];decide
theorem W_:Zjo X (fun x H Q=>∃k,WY X.K x H k∧Q k H):=by
 intro pins s σ H x v Q I rx h
 obtain⟨k,e,q⟩:=h
 have hl:=jQ
 have hs:sizeLine=16777216:=sizeLine_eq
 cases x with
 |non=>
  cases rx
  have e':k=false:=e
  subst e'
  exact truthy_none ⟨H,I,q⟩
 |bl b=>
  cases rx
  have e':k=b:=e
  subst e'
  exact wpAny_truthy_bool ⟨H,I,q⟩
 |int i=>
  obtain⟨t,rfl⟩:=rx
  have e':k=(i != 0):=e
  subst e'
  exact PySem.P.truthy_int ⟨H,I,q⟩
 |str y=>
  obtain⟨t,rfl⟩:=rx
  obtain⟨hy,e'⟩:y.length≤sizeLine∧k=((y.length:Int) != 0):=e
  subst e'
  exact PySem.P.truthy_str (by omega) ⟨H,I.tok _,q⟩
 |Tj y=>
  obtain⟨t,rfl⟩:=rx
  obtain⟨hy,e'⟩:y.size≤sizeLine∧k=((y.size:Int) != 0):=e
  subst e'
  exact PySem.W.truthy_bytes (by omega) ⟨H,I.tok _,q⟩
 |ref p=>
  cases rx
  have e':(∃xs,aG X.K H p xs∧k=!xs.isEmpty)∨(∃xs,dF X.K H p xs∧k=!xs.isEmpty)∨∃kvs,H p=some (.dK kvs)∧k=!kvs.isEmpty:=e
  rcases e' with⟨xs,hx,e'⟩|⟨xs,hx,e'⟩|⟨kvs,hx,e'⟩
  ·subst e'
   obtain⟨its,r,pl,hz⟩:=I.list hx
   have hlen:=r.length
   exact wpAny_truthy_list pl.isList (by simp only[List.size_toArray];omega) ⟨H,I.tok _,by rw[ni r];exact q⟩
  ·subst e'
   obtain⟨its,r,pl,hz⟩:=I.tuple hx
   have hlen:=r.length
   exact truthy_tuple pl (by simp only[List.size_toArray];omega) ⟨H,I.tok _,by rw[ni r];exact q⟩
  ·subst e'
   obtain⟨hz,hS,vs,r,m⟩:kvs.length≤sizeLine∧(p== sysModules)=false∧∃vs,KV kvs vs∧s.heap.DictOf (sX X.prog X.w) p vs:=I.hok p _ hx
   have hlen:kvs.length=vs.length:=Paired.length r
   exact wpAny_truthy_dict hS m (by omega) ⟨H,I.tok _,by rw[yX r];exact q⟩
 |_=>exact(show False from e).elim
theorem Gh(ha:PE X a ta)(he:∀whole,isTrue a X.env whole=(do let v ←whole;standAt a.pos;holding [v] (truthy v))) :
 PT X a (fun σ H Q=>ta σ H fun x H'=>∃k,WY X.K x H' k∧Q k H'):=by
 intro pins s σ H Q I h
 exact isTrue_plain (Ų (ha pins s σ H _ I h) fun v s1 ⟨x,H1,I1,r1,q1⟩=>W_ pins s1 σ H1 x v Q I1 r1 q1) (he _)
theorem yZ:aC X (binaryOp .Add) (fun x y H Q=>∃i j,x=.str i∧y=.str j∧i.length+j.length≤sizeLine∧Q (.str (i++j)) H):=by
 intro pins s σ H x y v u Q I rx ry h
 obtain⟨i,j,rfl,rfl,hz,q⟩:=h
 obtain⟨t,rfl⟩:=rx
 obtain⟨t',rfl⟩:=ry
 exact add_str (fun t' tk=>⟨.str (i++j),H,I.tok _,⟨_,rfl⟩,q⟩) hz
theorem vals1{x:V}{us:List Value}(r:Vals [x] us):∃u,us=[u]∧RelV x u:=by
 cases r with
 |cons r1 r2=>cases r2;exact⟨_,rfl,r1⟩
theorem vals2{x y:V}{us:List Value}(r:Vals [x,y] us):∃u w',us=[u,w']∧RelV x u∧RelV y w':=by
 cases r with
 |cons r1 r2=>
  cases r2 with
  |cons r3 r4=>cases r4;exact⟨_,_,rfl,r1,r3⟩
theorem Gi:Ŭ X (.builtin "abs") (fun xs H Q=>∃i,xs=[.int i]∧Q (.int (if i<0 then -i else i)) H):=by
 intro pins s σ H xs us Q I r h
 obtain⟨i,rfl,q⟩:=h
 obtain⟨u,rfl,t,rfl⟩:=vals1 r
 exact call_abs_int fun u tk=>⟨.int (if i<0 then -i else i),H,I.tok _,⟨_,rfl⟩,q⟩
theorem D_(hc:X.calm=true):Ŭ X (.builtin "max") (fun xs H Q=>∃i j,xs=[.int i,.int j]∧Q (.int (if j>i then j else i)) H):=by
 intro pins s σ H xs us Q I r h
 obtain⟨i,j,rfl,q⟩:=h
 obtain⟨u,w',rfl,⟨t,rfl⟩,⟨t',rfl⟩⟩:=vals2 r
 refine max_two_ints (I.ok.hd hc) fun h' tk k=>⟨_,H,I.kept k,?_,q⟩
 by_cases hj:j>i
 ·rw[if_pos hj,if_pos hj];exact⟨_,rfl⟩
 ·rw[if_neg hj,if_neg hj];exact⟨_,rfl⟩
theorem Ea(hc:X.calm=true):Ŭ X (.builtin "min") (fun xs H Q=>∃i j,xs=[.int i,.int j]∧Q (.int (if j<i then j else i)) H):=by
 intro pins s σ H xs us Q I r h
 obtain⟨i,j,rfl,q⟩:=h
 obtain⟨u,w',rfl,⟨t,rfl⟩,⟨t',rfl⟩⟩:=vals2 r
 refine min_two_ints (I.ok.hd hc) fun h' tk k=>⟨_,H,I.kept k,?_,q⟩
 by_cases hj:j<i
 ·rw[if_pos hj,if_pos hj];exact⟨_,rfl⟩
 ·rw[if_neg hj,if_neg hj];exact⟨_,rfl⟩
theorem Eb:Ŭ X (.type "int") (fun xs H Q=>(∃i,xs=[.int i]∧Q (.int i) H)∨∃k,xs=[.bl k]∧Q (.int (if k then 1 else 0)) H):=by
 intro pins s σ H xs us Q I r h
 rcases h with⟨i,rfl,q⟩|⟨k,rfl,q⟩
 ·obtain⟨u,rfl,t,rfl⟩:=vals1 r
  exact call_int_int ⟨.int i,H,I,⟨_,rfl⟩,q⟩
 ·obtain⟨u,rfl,r1⟩:=vals1 r
  cases r1
  exact call_int_bool ⟨.int (if k then 1 else 0),H,I.tok _,⟨_,rfl⟩,q⟩
def Zjp(K:PySem.W.Frag)(x:V)(H:Hp)(n:Nat):Prop:=
 match x with
 | .str y=>y.length≤sizeLine∧n=y.length
 | .Tj y=>y.size≤sizeLine∧n=y.size
 | .ref p=>(∃xs,aG K H p xs∧n=xs.length)∨∃xs,dF K H p xs∧n=xs.length
 |_=>False
theorem Gj:Ŭ X (.builtin "len") (fun xs H Q=>∃x n,xs=[x]∧Zjp X.K x H n∧Q (.int n) H):=by
 intro pins s σ H xs us Q I r h
 obtain⟨x,n,rfl,e,q⟩:=h
 obtain⟨u,rfl,rx⟩:=vals1 r
 have hl:=jQ
 have hs:sizeLine=16777216:=sizeLine_eq
 cases x with
 |str y=>
  obtain⟨t,rfl⟩:=rx
  obtain⟨hy,e'⟩:y.length≤sizeLine∧n=y.length:=e
  subst e'
  exact len_str (by omega) ⟨.int _,H,I.tok _,⟨_,rfl⟩,q⟩
 |Tj y=>
  obtain⟨t,rfl⟩:=rx
  obtain⟨hy,e'⟩:y.size≤sizeLine∧n=y.size:=e
  subst e'
  exact PySem.W.len_bytes (by omega) ⟨.int _,H,I.tok _,⟨_,rfl⟩,q⟩
 |ref p=>
  cases rx
  have e':(∃xs,aG X.K H p xs∧n=xs.length)∨∃xs,dF X.K H p xs∧n=xs.length:=e
  rcases e' with⟨xs,hx,e'⟩|⟨xs,hx,e'⟩
  ·subst e'
   obtain⟨its,r',pl,hz⟩:=I.list hx
   have hlen:=r'.length
   exact Calls.call_len_list pl.isList (by simp only[List.size_toArray];omega) ⟨.int xs.length,H,I.tok _,⟨_,by simp only[List.size_toArray];rw[hlen]⟩,q⟩
  ·subst e'
   obtain⟨its,r',pl,hz⟩:=I.tuple hx
   have hlen:=r'.length
   exact len_tuple pl (by simp only[List.size_toArray];omega) ⟨.int xs.length,H,I.tok _,⟨_,by simp only[List.size_toArray];rw[hlen]⟩,q⟩
 |_=>exact(show False from e).elim
end
end L2
namespace L2
open PySem PySem.Spec PyProof.Rows
structure za(h:Heap)(x dx C:Addr)(mA:Str→Option Value):Prop where
 obj:h.get? x=some (PySem.W.instObj C dx)
 ns:h.Ns1 dx mA
 ne:dx≠x
theorem Ec{h:Heap}{dx:Addr}{mA:Str→Option Value}(n:h.Ns1 dx mA):∃od,h.get? dx=some od∧∀name,PySem.W.lookIn name od=some (mA name):=by
 obtain⟨o,es,ep,ho,hd,hk,_,hm⟩:=n
 refine⟨o,ho,fun name=>?_⟩
 have e:=hm name
 unfold nsFind findBy at e
 rw[←Array.find?_toList] at e
 unfold PySem.W.lookIn
 rw[hd]
 dsimp only
 split
 ·rename_i y q
  rw[q] at e
  exact congrArg some e
 ·rename_i q
  rw[q] at e
  have a:es.toList.any (·.refKey)=false:=by
   rw[List.any_eq_false]
   intro y hy
   obtain⟨z,t,hkey⟩:=hk y (Array.mem_toList_iff.mp hy)
   simp[DictEntry.refKey,hkey]
  have a':¬es.toList.any (·.refKey)=true:=by rw[a];exact Bool.false_ne_true
  rw[if_neg a']
  exact congrArg some e
theorem za.look{h:Heap}{x dx C:Addr}{mA:Str→Option Value}(I:za h x dx C mA):∃od,PySem.W.InstAt h x (PySem.W.instObj C dx) C (some od)∧∀name,PySem.W.lookIn name od=some (mA name):=
 let ⟨od,ho,hl⟩:=Ec I.ns
 ⟨od,⟨I.obj,rfl,rfl,ho⟩,hl⟩
section
variable{prog:Program}{w:World}{A:Around}{E:Value→Shared→Prop}{s:Shared}{K:PySem.W.Frag}{x dx C f:Addr}{mA:Str→Option Value}{name:Str}{v:Value}
theorem get_map{expr:Bool}{Q:Value→Shared→Prop}(X:K.In s.heap)(I:za s.heap x dx C mA)(hg:PySem.W.plainGet K C name=true)(hh:PySem.W.hasDictIn K C=true)
 (ha:PySem.W.findIn K (.ref C) name=some none)(hv:mA name=some v)(hv':PySem.W.handedIn v=true)(h:Q v {s with toks:=s.toks+1}) :
 wpAny (model prog w) A (getAttr (.ref x) name expr) Q E s:=by
 obtain⟨od,J,hl⟩:=I.look
 exact PySem.W.get_value X J (PySem.W.plainGet_of hg).1 (PySem.W.findObj_own hh ha rfl (by rw[hl,hv])) hv' h
theorem Gk{pl:Sem Bool}{Q:Value×List Value→Shared→Prop}(X:K.In s.heap)(I:za s.heap x dx C mA)(hg:PySem.W.plainGet K C name=true)
 (hf:PySem.W.findIn K (.ref C) name=some (some (.ref f)))(ht:PySem.W.isFn K (.ref f)=true)(hv:mA name=none)(h:Q (.ref f,[.ref x]) s) :
 wpAny (model prog w) A (getMethod (.ref x) name pl) Q E s:=by
 obtain⟨od,J,hl⟩:=I.look
 exact PySem.W.method_fn X J (PySem.W.plainGet_of hg).1 (PySem.W.plainGet_of hg).2 hf (beq_iff_eq.mp ht) (by show(PySem.W.lookIn name od).map (·.isSome)=some false;rw[hl,hv];rfl) h
theorem QB{ns:List Str}{Q:Unit→Shared→Prop}(X:K.In s.heap)(I:za s.heap x dx C mA)
 (hs:PySem.W.findIn K (.ref C) "__setattr__" =some (some (.builtin "object.__setattr__")))(hp:PySem.W.plainOver K C=true)(ht:PySem.W.takerIn K C name=some none)(hh:PySem.W.hasDictIn K C=true)
 (hw:PySem.Within mA ns)(hsz:ns.length≤sizeLine)
 (h:∀h',za h' x dx C (fun y=>if y=name then some v else mA y)→Heap.SameBut dx s.heap h'→Q () {s with heap:=h',toks:=s.toks+2}) :
 wpAny (model prog w) A (setAttr (.ref x) name v) Q E s:=by
 obtain⟨od,J,hl⟩:=I.look
 refine PySem.W.set_plain X J hs (PySem.W.osa_open (s:={s with toks:=s.toks+1}) (r:=none) X J hp ht fun b=>?_)
 obtain⟨cd,hc,hd'⟩:=PySem.W.any_some hh
 have hx:s.heap.get? x=some ⟨.ref C,some dx,.plain,#[]⟩:=I.obj
 refine wpAny_bind (wpAny_pure (wpAny_bind (wpAny_bind (wpAny_loadPart hx (wpAny_bind (PySem.W.Looks.here (s:={s with toks:=s.toks+1}) (PySem.W.looks_clsIn X hc) ?_))))))
 rw[hd']
 refine wpAny_pure (a:=some dx) (wpAny_bind (wpAny_pure (wpAny_bind ?_)))
 refine wpAny_nsSet1 (s:={s with toks:=s.toks+1}) I.ns fun h' hn2 hs2=>?_
 obtain⟨oD,esD,epD,hoD,hdD,hcD⟩:=hn2.count (PySem.Within.cons name v hw)
 refine wpAny_bind (wpAny_lookBehind hoD (by rw[hdD];exact pastItsLine_dict (Nat.le_trans hcD (by rw[List.length_cons];omega))) ?_)
 exact wpAny_pure (h _ ⟨(hs2.2 _ (Ne.symm I.ne)).trans I.obj,hn2,I.ne⟩ hs2)
theorem Gm{R:Result→Shared→Prop}{vs:List Value}{kw:List (Str×Value)}(X:K.In s.heap)(hm:PySem.W.makesIn K C=true)
 (hi:PySem.W.findIn K (.ref C) "__init__" =some (some (.ref f)))(hf:PySem.W.typeIn K (.ref f)=some (.type "function"))
 (h:codeAny (model prog w) (A.under (.builtin "type.__call__" ⟨.ref C::vs,kw⟩)) (.call (.ref f) ⟨.ref (s.heap.objs.size+1)::vs,kw⟩) (PySem.W.InitBack (s.heap.objs.size+1) R)
   {s with heap:=(s.heap.push PySem.W.emptyDict).push (PySem.W.instObj C s.heap.objs.size)}) :
 codeAny (model prog w) A (.call (.ref C) ⟨vs,kw⟩) R s:=by
 obtain⟨hh,g,d,t,os⟩:=s
 exact PySem.W.make_core (PySem.W.makes_of X hm) (PySem.W.looks_findIn X hi) (fun self=>PySem.W.bind_fn X self hf) (.inl rfl) h
end
def eO(f:Str)(v:V):List (Str×V)→List (Str×V)
 | []=>[(f,v)]
 |(g,x)::r=>if g=f then(g,v)::r else(g,x)::eO f v r
theorem lg(f g:Str)(v:V):∀fs:List (Str×V),(eO f v fs).lookup g=if g=f then some v else fs.lookup g
 | []=>by
   show List.lookup g [(f,v)]=_
   by_cases h:g=f
   ·have hb:(g== f)=true:=beq_iff_eq.mpr h
    simp only[List.lookup,hb,if_pos h]
   ·have hb:(g== f)=false:=beq_eq_false_iff_ne.mpr h
    simp only[List.lookup,hb,if_neg h]
 |(k,x)::r=>by
  have ih:=lg f g v r
  rw[show eO f v ((k,x)::r)=(if k=f then(k,v)::r else(k,x)::eO f v r) from rfl]
  by_cases hk:k=f
  ·rw[if_pos hk]
   by_cases h:g=k
   ·have hb:(g== k)=true:=beq_iff_eq.mpr h
    simp only[List.lookup,hb,if_pos (h.trans hk)]
   ·have hb:(g== k)=false:=beq_eq_false_iff_ne.mpr h
    simp only[List.lookup,hb,if_neg (fun e:g=f=>h (e.trans hk.symm))]
  ·rw[if_neg hk]
   by_cases h:g=k
   ·have hb:(g== k)=true:=beq_iff_eq.mpr h
    simp only[List.lookup,hb,if_neg (fun e:g=f=>hk (h.symm.trans e))]
   ·have hb:(g== k)=false:=beq_eq_false_iff_ne.mpr h
    simp only[List.lookup,hb]
    exact ih
theorem jR(f:Str)(v:V):∀fs:List (Str×V),f∈(eO f v fs).map (·.1)∧∀g,g∈fs.map (·.1)→g∈(eO f v fs).map (·.1)
 | []=>⟨by simp[eO],fun g h=>by simp at h⟩
 |(k,x)::r=>by
  obtain⟨i1,i2⟩:=jR f v r
  rw[show eO f v ((k,x)::r)=(if k=f then(k,v)::r else(k,x)::eO f v r) from rfl]
  by_cases hk:k=f
  ·rw[if_pos hk]
   subst hk
   exact⟨by simp,fun g h=>by simpa using h⟩
  ·rw[if_neg hk]
   refine⟨?_,fun g h=>?_⟩
   ·rw[List.map_cons]
    exact List.mem_cons_of_mem _ i1
   ·rw[List.map_cons] at h ⊢
    rcases List.mem_cons.mp h with e|e
    ·exact List.mem_cons.mpr (.inl e)
    ·exact List.mem_cons_of_mem _ (i2 g e)
theorem lq(f:Str)(v:V):∀fs:List (Str×V),(eO f v fs).length≤fs.length+1
 | []=>by simp[eO]
 |(k,x)::r=>by
  have ih:=lq f v r
  rw[show eO f v ((k,x)::r)=(if k=f then(k,v)::r else(k,x)::eO f v r) from rfl]
  by_cases hk:k=f
  ·rw[if_pos hk,List.length_cons,List.length_cons];omega
  ·rw[if_neg hk,List.length_cons,List.length_cons];omega
theorem qe.some_of{v:V}{o:Option Value}(r:qe (some v) o):∃u,o=some u∧RelV v u:=by
 cases o with
 |none=>exact(show False from r).elim
 |some u=>exact⟨u,rfl,r⟩
theorem qe.none_of{o:Option Value}(r:qe none o):o=none:=by
 cases o with
 |none=>rfl
 |some u=>exact(show False from r).elim
theorem Ed{v:V}{u:Value}(r:RelV v u):PySem.W.handedIn u=true:=by
 cases v with
 |non=>cases(show u=Value.none from r);rfl
 |bl b=>cases(show u=Value.bool b from r);rfl
 |int i=>obtain⟨t,e⟩:=(show ∃t,u=Value.int i t from r);cases e;rfl
 |str x=>obtain⟨t,e⟩:=(show ∃t,u=Value.str x t from r);cases e;rfl
 |Tj b=>obtain⟨t,e⟩:=(show ∃t,u=Value.bytes b t from r);cases e;rfl
 |flt b=>obtain⟨t,e⟩:=(show ∃t,u=Value.float b t from r);cases e;rfl
 |ref a=>cases(show u=Value.ref a from r);rfl
 |ty n=>cases(show u=Value.type n from r);rfl
section
variable{P:Program}{w:World}{H H':Hp}{h h':Heap}{a C dx:Addr}{fs fs':List (Str×V)}
theorem mR(hok:iG P w H h)(e:H a=some (.ins C dx fs)):∃mA,za h a dx C mA∧(∀f,qe (fs.lookup f) (mA f))∧PySem.Within mA (fs.map (·.1))∧fs.length≤1000∧H dx=some (.own a):=by
 obtain⟨d,z,ne,ob,mA,n,r,q⟩:=(show aA P w H h a (.ins C dx fs) from hok a _ e)
 exact⟨mA,⟨ob,n,ne⟩,r,q,z,d⟩
end
structure Cls(K:PySem.W.Frag)(C:Addr):Prop where
 pg:PySem.W.plainGet K C Str.empty=true
 hd:PySem.W.hasDictIn K C=true
 po:PySem.W.plainOver K C=true
 sa:PySem.W.findIn K (.ref C) "__setattr__" =some (some (.builtin "object.__setattr__"))
theorem Cls.get{K:PySem.W.Frag}{C:Addr}(c:Cls K C)(f:Str):PySem.W.plainGet K C f=true:=c.pg
def ś(K:PySem.W.Frag)(C:Addr)(f:Str):Prop:=PySem.W.findIn K (.ref C) f=some none
theorem ś.taker{K:PySem.W.Frag}{C:Addr}{f:Str}(n:ś K C f):PySem.W.takerIn K C f=some none:=by
 unfold PySem.W.takerIn
 rw[show PySem.W.findIn K (.ref C) f=some none from n]
 rfl
structure Meth(K:PySem.W.Frag)(C:Addr)(m:Str)(f:Addr):Prop where
 at_:PySem.W.findIn K (.ref C) m=some (some (.ref f))
 fn:PySem.W.isFn K (.ref f)=true
 kp:PySem.W.keepIn K (.ref f)=true
section
variable{X:Cx}{pins:List (Addr×Obj)}{σ:St}{H:Hp}{s:Shared}{a C dx:Addr}{fs:List (Str×V)}{f:Str}{v:V}{A:Around}{E:Value→Shared→Prop}
theorem zc{b:Bool}{Q:Value→Shared→Prop}(I:Inv X pins σ H s)(e:H a=some (.ins C dx fs))(c:Cls X.K C)(n:ś X.K C f)(l:fs.lookup f=some v)
 (h:∀u s',Inv X pins σ H s'→RelV v u→Q u s'):wpAny (model X.prog X.w) A (getAttr (.ref a) f b) Q E s:=by
 obtain⟨mA,O,r,_,_,_⟩:=mR I.hok e
 obtain⟨u,hu,ru⟩:=qe.some_of (v:=v) (o:=mA f) (by rw[←l];exact r f)
 exact get_map I.jM O (c.get f) c.hd n hu (Ed ru) (h u _ (I.tok _) ru)
theorem zf{m:Str}{g:Addr}{pl:Sem Bool}{Q:Value×List Value→Shared→Prop}(I:Inv X pins σ H s)(e:H a=some (.ins C dx fs))(c:Cls X.K C)(k:Meth X.K C m g)(l:fs.lookup m=none)
 (h:Q (.ref g,[.ref a]) s):wpAny (model X.prog X.w) A (getMethod (.ref a) m pl) Q E s:=by
 obtain⟨mA,O,r,_,_,_⟩:=mR I.hok e
 have hn:mA m=none:=qe.none_of (by rw[←l];exact r m)
 exact Gk I.jM O (c.get m) k.at_ k.fn hn h
theorem zj{y:V}{u:Value}{Q:Unit→Shared→Prop}(I:Inv X pins σ H s)(e:H a=some (.ins C dx fs))(c:Cls X.K C)(n:ś X.K C f)(hl:fs.length<1000)(ry:RelV y u)
 (h:∀s',Inv X pins σ (upd H a (.ins C dx (eO f y fs))) s'→Q () s'):wpAny (model X.prog X.w) A (setAttr (.ref a) f u) Q E s:=by
 obtain⟨mA,O,r,wi,_,ho⟩:=mR I.hok e
 have hz:(fs.map (·.1)).length≤sizeLine:=by rw[List.length_map,sizeLine_eq];omega
 refine QB I.jM O c.sa c.po n.taker c.hd wi hz fun h' O' sb=>h _ ?_
 have hd:∃o,h'.get? dx=some o:=let ⟨o,_,_,e',_⟩:=O'.ns;⟨o,e'⟩
 refine I.write (x:=a) (e:=dx) (by rw[e];exact True.intro) (.inr ho) (fun b q hb z=>(sb.2 b hb).trans z) hd ?_
 refine⟨by rw[į O.ne];exact ho,?_,O.ne,O'.obj,_,O'.ns,fun g=>?_,fun g hg=>?_⟩
 ·have:=lq f y fs;omega
 ·show qe ((eO f y fs).lookup g) (if g=f then some u else mA g)
  rw[lg]
  by_cases q:g=f
  ·rw[if_pos q,if_pos q];exact ry
  ·rw[if_neg q,if_neg q];exact r g
 ·by_cases q:g=f
  ·rw[q];exact(jR f y fs).1
  ·refine(jR f y fs).2 g (wi g fun z=>hg ?_)
   show(if g=f then some u else mA g)=none
   rw[if_neg q];exact z
theorem Inv.made(I:Inv X pins σ H s):Inv X pins σ (upd (upd H s.heap.objs.size (.own (s.heap.objs.size+1))) (s.heap.objs.size+1) (.ins C s.heap.objs.size []))
 {s with heap:=(s.heap.push PySem.W.emptyDict).push (PySem.W.instObj C s.heap.objs.size)}:=by
 have e1:(s.heap.push PySem.W.emptyDict).get? s.heap.objs.size=some PySem.W.emptyDict:=Heap.get?_push_size s.heap rfl
 have e2:((s.heap.push PySem.W.emptyDict).push (PySem.W.instObj C s.heap.objs.size)).get? (s.heap.objs.size+1)=some (PySem.W.instObj C s.heap.objs.size):=by
  have:=Heap.get?_push_size (s.heap.push PySem.W.emptyDict) (o:=PySem.W.instObj C s.heap.objs.size) rfl
  rwa [Heap.size_push] at this
 have e3:(s.heap.push PySem.W.emptyDict).Ns s.heap.objs.size (fun _=>none):=⟨PySem.W.emptyDict,#[],_,e1,rfl,(fun e he=>absurd he (by simp)),fun _=>rfl⟩
 have I1:=I.laid (a:=s.heap.objs.size) (o:=.own (s.heap.objs.size+1)) (h':=s.heap.push PySem.W.emptyDict) (t':=s.toks) (fun b u q=>Heap.get?_push_of_some _ q) (Nat.le_refl _) ⟨_,e1⟩
 refine I1.laid (a:=s.heap.objs.size+1) (o:=.ins C s.heap.objs.size []) (t':=s.toks) (fun b u q=>Heap.get?_push_of_some _ q) (Nat.le_of_eq (Heap.size_push _ _)) ?_
 have ne:s.heap.objs.size≠s.heap.objs.size+1:=Nat.ne_of_lt (Nat.lt_succ_self _)
 refine⟨by rw[į ne,ľ],Nat.zero_le _,ne,e2,fun _=>none,(Heap.Ns1.of_empty e3).at fun o q=>Heap.get?_push_of_some _ q,fun _=>True.intro,fun y hy=>absurd rfl hy⟩
theorem QC{prog:Program}{w:World}{env:Env}{e:Expr}{f:Str}{pos:Pos}{s:Shared}{Q:Value→Shared→Prop}(hb:attributeBase e f env (eval e env)=eval e env)
 (h:wpAny (model prog w) A (eval e env) (fun o s₁=>wpAny (model prog w) A (getAttr o f true) Q E s₁) E s):wpAny (model prog w) A (eval (.Attribute e f pos) env) Q E s:=
 Attribute_any_ h (by rw[arm_eval_Attribute,hb])
end
def Zjq(K:PySem.W.Frag)(ta:TE)(f:Str):TE:=fun σ H Q=>ta σ H fun x H1=>∃a C dx fs v,x=.ref a∧H1 a=some (.ins C dx fs)∧Cls K C∧ś K C f∧fs.lookup f=some v∧Q v H1
def Zjr(K:PySem.W.Frag)(ta tv:TE)(f:Str):TS:=fun D σ H=>tv σ H fun y H1=>ta σ H1 fun x H2=>∃a C dx fs,x=.ref a∧H2 a=some (.ins C dx fs)∧Cls K C∧ś K C f∧fs.length<1000∧
 D.nx σ (upd H2 a (.ins C dx (eO f y fs)))
section
variable{X:Cx}{o e value:Expr}{f:Str}{pos pos' tpos:Pos}{ta tv:TE}
theorem Xa(he:PE X e ta)(hb:attributeBase e f X.env (eval e X.env)=eval e X.env):PE X (.Attribute e f pos) (Zjq X.K ta f):=by
 intro pins s σ H Q I h
 refine QC hb (Ų (he pins s σ H _ I h) fun u s1 ⟨x,H1,I1,rx,a,C,dx,fs,v,ex,ea,c,n,l,q⟩=>?_)
 subst ex
 obtain rfl:u=Value.ref a:=rx
 exact zc I1 ea c n l fun u' s2 I2 ru=>⟨v,H1,I2,ru,q⟩
theorem Xb(ha:PE X o ta)(hv:PE X value tv)(hs:swapsWith value (some (.Attribute o f pos')) pos.line X.env=pure false):PS X (.Assign [.Attribute o f pos'] value pos) (Zjr X.K ta tv f):=by
 intro pins s σ H D I h
 refine plainObj_wpAny_Assign_Attribute (Ų (hv pins s σ H _ I h) fun u s1 ⟨y,H1,I1,ry,q⟩=>Ų (ha pins s1 σ H1 _ I1 q) fun ov s2 ⟨x,H2,I2,rx,a,C,dx,fs,ex,ea,c,n,l,q2⟩=>?_) hs
 subst ex
 obtain rfl:ov=Value.ref a:=rx
 exact zj I2 ea c n l ry fun s3 I3=>⟨σ,_,I3,q2⟩
end
section
variable{X:Cx}{pins:List (Addr×Obj)}{σ:St}{H:Hp}{s:Shared}{A:Around}{E:Value→Shared→Prop}{Q:Value→Shared→Prop}{c:Value}{b:Bool}
inductive jT(K:PySem.W.Frag)(H:Hp):V→Value→Prop where
 |non:jT K H .non (.type "NoneType")
 |bl (x:Bool):jT K H (.bl x) (.type "bool")
 |int (i:Int):jT K H (.int i) (.type "int")
 |str (x:Str):jT K H (.str x) (.type "str")
 |flt (x:UInt64):jT K H (.flt x) (.type "float")
 |lst {a:Addr} {xs:List V} (e:H a=some (.lst xs)):jT K H (.ref a) (.type "list")
 |dD {a:Addr} {o:Obj} {xs:List V} (e:H a=some (.dD o (.lst xs))):jT K H (.ref a) (.type "list")
 |tup {a:Addr} {xs:List V} (e:H a=some (.tup xs)):jT K H (.ref a) (.type "tuple")
 |dK {a:Addr} {kvs:List (Key×V)} (e:H a=some (.dK kvs)):jT K H (.ref a) (.type "dict")
 |dT {a:Addr} {kvs:List (List Key×V)} (e:H a=some (.dT kvs)):jT K H (.ref a) (.type "dict")
 |ins {a C dx:Addr} {fs:List (Str×V)} (e:H a=some (.ins C dx fs)) (cl:Cls K C) (ha:PySem.W.findIn K (.ref C) "__class__" =some (some (.builtin "object.__class__")))
   (hn:PySem.W.specialIn K (.builtin "object.__class__") "__get__" =some (some (.builtin "getset_descriptor.__get__"))) (htk:PySem.W.takesIn K (.builtin "object.__class__")=some true)
   (hm:PySem.W.mroIn K C (.type "object")=some true):jT K H (.ref a) (.ref C)
theorem dH{x:V}{u t:Value}(I:Inv X pins σ H s)(rx:RelV x u)(ty:jT X.K H x t)(e:PySem.W.kitOne X.K t c=some b)(h:∀tk,Q (.bool b) {s with toks:=tk}) :
 wpAny (model X.prog X.w) A (call (.builtin "isinstance") [u,c]) Q E s:=by
 cases ty with
 |non=>cases(show u=Value.none from rx);exact PySem.W.kia_one PySem.W.kitx_none I.jM True.intro e (fun z=>nomatch z) h
 |bl y=>cases(show u=Value.bool y from rx);exact PySem.W.kia_one PySem.W.kitx_bool I.jM True.intro e (fun z=>nomatch z) h
 |int i=>obtain⟨t,q⟩:=(show ∃t,u=Value.int i t from rx);cases q;exact PySem.W.kia_one PySem.W.kitx_int I.jM True.intro e (fun z=>nomatch z) h
 |str y=>obtain⟨t,q⟩:=(show ∃t,u=Value.str y t from rx);cases q;exact PySem.W.kia_one PySem.W.kitx_str I.jM True.intro e (fun z=>nomatch z) h
 |flt y=>obtain⟨t,q⟩:=(show ∃t,u=Value.float y t from rx);cases q;exact PySem.W.kia_one PySem.W.kitx_float I.jM True.intro e (fun z=>nomatch z) h
 |@lst a xs ea=>
  cases(show u=Value.ref a from rx)
  obtain⟨_,_,n,_,h1⟩:=(show aA X.prog X.w H s.heap a (.lst xs) from I.hok a _ ea)
  exact PySem.W.kia_one PySem.W.kitx_list I.jM ⟨_,h1,rfl⟩ e (fun z=>nomatch z) h
 |@dD a ob xs ea=>
  cases(show u=Value.ref a from rx)
  obtain⟨_,_,_,n,_,h1⟩:=(show aA X.prog X.w H s.heap a (.dD ob (.lst xs)) from I.hok a _ ea)
  exact PySem.W.kia_one PySem.W.kitx_list I.jM ⟨_,h1,rfl⟩ e (fun z=>nomatch z) h
 |@tup a xs ea=>
  cases(show u=Value.ref a from rx)
  obtain⟨_,_,_,p⟩:=(show aA X.prog X.w H s.heap a (.tup xs) from I.hok a _ ea)
  obtain⟨o,h1,h2,_⟩:=p
  exact PySem.W.kia_one PySem.W.kitx_tuple I.jM ⟨o,h1,h2⟩ e (fun z=>nomatch z) h
 |@dK a kvs ea=>
  cases(show u=Value.ref a from rx)
  obtain⟨_,_,vs,_,p⟩:=(show aA X.prog X.w H s.heap a (.dK kvs) from I.hok a _ ea)
  obtain⟨o,es,ep,h1,h2,_⟩:=p
  exact PySem.W.kia_one PySem.W.kitx_dict I.jM ⟨o,h1,h2.1⟩ e (fun z=>nomatch z) h
 |@dT a kvs ea=>
  cases(show u=Value.ref a from rx)
  obtain⟨_,_,xs,_,o,es,ep,h1,h2,_⟩:=(show aA X.prog X.w H s.heap a (.dT kvs) from I.hok a _ ea)
  exact PySem.W.kia_one PySem.W.kitx_dict I.jM ⟨o,h1,h2.1⟩ e (fun z=>nomatch z) h
 |@ins a C dx fs ea cl ha hn htk hm=>
  cases(show u=Value.ref a from rx)
  obtain⟨mA,O,_⟩:=mR I.hok ea
  obtain⟨od,J,_⟩:=O.look
  exact PySem.W.kia_one (PySem.W.kitx_own (cl.get _) cl.hd ha hn htk hm) I.jM J e (fun z=>nomatch z) h
end
end L2
namespace L2
open PySem PySem.Spec PyProof.Rows
structure bM(k:Nat)(A:Around):Prop where
 hd:A.handled=none
 dp:A.depth+3*k+5<recursionLimit
 un:A.units+16*k+200<cLine
theorem bM.mono{j k:Nat}{A:Around}(r:bM k A)(h:j≤k):bM j A:=⟨r.hd,by have:=r.dp;omega,by have:=r.un;omega⟩
theorem bM.deeper{k:Nat}{A:Around}(r:bM (k+1) A)(env:Env):bM k (A.deeper env):=
 ⟨r.hd,by have:=r.dp;show A.depth+1+3*k+5<_;omega,by have:=r.un;show A.units+3+16*k+200<_;omega⟩
theorem zm{A:Around}{C:Addr}{us:List Value}{kw:List (Str×Value)}:(A.under (.builtin "type.__call__" ⟨.ref C::us,kw⟩)).depth=A.depth+1:=by
 first|rfl|simp[Around.under,Code.weight,Code.isCreation,Code.isGuard,Code.isCaller,Code.frames,Code.isFrame,guardIds]
theorem zp{A:Around}{C:Addr}{us:List Value}{kw:List (Str×Value)}:(A.under (.builtin "type.__call__" ⟨.ref C::us,kw⟩)).units=A.units+1:=by
 first|rfl|simp[Around.under,Code.cUnits,Code.frames,Code.isFrame]
theorem bM.make{k:Nat}{A:Around}(r:bM (k+1) A)(C:Addr)(us:List Value)(kw:List (Str×Value)):bM k (A.under (.builtin "type.__call__" ⟨.ref C::us,kw⟩)):=
 ⟨r.hd,by have:=r.dp;rw[zm];omega,by have:=r.un;rw[zp];omega⟩
theorem bM.depth{k:Nat}{A:Around}(r:bM k A):A.depth<recursionLimit:=by have:=r.dp;omega
theorem bM.units{k:Nat}{A:Around}(r:bM k A):A.units+64<cLine:=by have:=r.un;omega
def Zcp:TA:=fun _ H Q=>Q [] H
def Tr(ta:TE)(tr:TA):TA:=fun σ H Q=>ta σ H fun x H1=>tr σ H1 fun xs H2=>Q (x::xs) H2
section
variable{X:Cx}{e:Expr}{es:List Expr}{te:TE}{t:TA}{pos:Pos}
theorem i_:PA X [] Zcp:=fun _ _ _ _ H Q I h=>Calls.spliced_nil ⟨[],H,I,.nil,h⟩
theorem cu(ha:PE X e te)(hr:PA X es t)(hs:starEach (e::es) X.env=(false,eval e X.env)::starEach es X.env:=by rfl):PA X (e::es) (Tr te t):=by
 intro pos pins s σ H Q I h
 rw[hs]
 show wpAny _ _ (spliced ((false,eval e X.env)::backTo pos (starEach es X.env))) _ _ s
 refine Calls.spliced_cons (Ų (ha pins s σ H _ I h) fun u s1 ⟨x,H1,I1,r1,q1⟩=>?_)
 exact Ų (hr pos pins s1 σ H1 _ I1 q1) fun us s2 ⟨xs,H2,I2,r2,q2⟩=>⟨x::xs,H2,I2,.cons r1 r2,q2⟩
def Zjs(t:TA):TE:=fun σ H Q=>t σ H fun xs H1=>xs.length≤sizeLine∧∀p,H1 p=none→Q (.ref p) (upd H1 p (.tup xs))
def Zjt(t:TA):TE:=fun σ H Q=>t σ H fun xs H1=>xs.length≤sizeLine∧∀p,H1 p=none→Q (.ref p) (upd H1 p (.lst xs))
theorem Xc{x1}(h:PA X es t):PE X (.Tuple es x1 pos) (Zjs t):=by
 intro pins s σ H Q I hq
 refine wpAny_Tuple_spliced (Ų (h pos pins s σ H _ I hq) fun us s1 ⟨xs,H1,I1,r,z,q⟩=>⟨by rw[←r.length];exact z,?_⟩)
 have hf:H1 s1.heap.objs.size=none:=I1.hok.fresh (Nat.le_refl _)
 refine⟨.ref s1.heap.objs.size,upd H1 s1.heap.objs.size (.tup xs),I1.laid (t':=s1.toks) (fun b u e=>Heap.get?_push_of_some _ e) (Nat.le_refl _) ?_,rfl,q _ hf⟩
 exact⟨z,us,r,⟨_,Heap.get?_push_size _ rfl,rfl,_,rfl⟩⟩
theorem Xd(h:PA X es t):PE X (.List es pos) (Zjt t):=by
 intro pins s σ H Q I hq
 refine wpAny_List_spliced (Ų (h pos pins s σ H _ I hq) fun us s1 ⟨xs,H1,I1,r,z,q⟩=>⟨by rw[←r.length];exact z,?_⟩)
 have hf:H1 s1.heap.objs.size=none:=I1.hok.fresh (Nat.le_refl _)
 refine⟨.ref s1.heap.objs.size,upd H1 s1.heap.objs.size (.lst xs),I1.laid (t':=s1.toks) (fun b u e=>Heap.get?_push_of_some _ e) (Nat.le_refl _) ?_,rfl,q _ hf⟩
 exact⟨z,us,0,r,Heap.get?_push_size _ rfl⟩
end
abbrev Sp:=List V→Hp→VK→XK→Prop
abbrev pZ:=List Env→Hp→Shared→XK→Value→Shared→Prop
structure zq(P:Program)(w:World)(K:PySem.W.Frag)(mg:Str→Option Value)(base:Heap)(A:Around)(outer:List Env)(s:Shared)(H:Hp):Prop where
 frames:A.frames=some outer
 mod:Mod K mg base
 bs:∀b o,base.get? b=some o→s.heap.get? b=some o∧H b=none
 Qm:base.objs.size≤s.heap.objs.size
 lX:s.heap.FunFrames base outer
 Wf:∀b∈frs outer,H b=none
 hok:iG P w H s.heap
 bare:AllBare s.gens
def CE(outer:List Env)(P:Program)(w:World)(H:Hp)(s:Shared)(Q:VK)(u:Value)(s':Shared):Prop:=
 ∃v H',s'.os=s.os∧AllBare s'.gens∧Un (frs outer) [] H H' s.heap s'.heap∧iG P w H' s'.heap∧RelV v u∧Q v H'
def CR(CX:pZ)(outer:List Env)(P:Program)(w:World)(H:Hp)(s:Shared)(Q:VK)(E:XK)(r:Result)(s':Shared):Prop:=
 match r with
 | .ok (.ret u)=>CE outer P w H s Q u s'
 | .ok _=>False
 | .error e=>CX outer H s E e s'
structure Ķ(P:Program)(w:World)(K:PySem.W.Frag)(mg:Str→Option Value)(base:Heap)(CX:pZ)(k:Nat)(f:Addr)(fd:FuncData)(ps:List Str)(sp:Sp):Prop where
 len:∀vs H Q E,sp vs H Q E→vs.length=ps.length
 run:∀(A:Around) (outer:List Env) (s:Shared) (H:Hp) (args:Args) (us:List Value) (vs:List V) (Q:VK) (E:XK),bM k A→zq P w K mg base A outer s H→BindsTo s fd args (ps.zip us)→Vals vs us→sp vs H Q E→
  codeAny (model P w) A (.call (.ref f) args) (CR CX outer P w H s Q E) s
theorem Ķ.mono{P:Program}{w:World}{K:PySem.W.Frag}{mg:Str→Option Value}{base:Heap}{CX:pZ}{j k:Nat}{f:Addr}{fd:FuncData}{ps:List Str}{sp:Sp}(F:Ķ P w K mg base CX j f fd ps sp)(h:j≤k) :
 Ķ P w K mg base CX k f fd ps sp:=⟨F.len,fun A outer s H args us vs Q E hr=>F.run A outer s H args us vs Q E (hr.mono h)⟩
theorem Ķ.imp{P:Program}{w:World}{K:PySem.W.Frag}{mg:Str→Option Value}{base:Heap}{CX:pZ}{k:Nat}{f:Addr}{fd:FuncData}{ps:List Str}{sp sp':Sp}(F:Ķ P w K mg base CX k f fd ps sp)
 (h:∀vs H Q E,sp' vs H Q E→sp vs H Q E):Ķ P w K mg base CX k f fd ps sp':=
 ⟨fun vs H Q E q=>F.len vs H Q E (h _ _ _ _ q),fun A outer s H args us vs Q E hr he hb hv hs=>F.run A outer s H args us vs Q E hr he hb hv (h _ _ _ _ hs)⟩
theorem zq.make{P:Program}{w:World}{K:PySem.W.Frag}{mg:Str→Option Value}{base:Heap}{A:Around}{outer:List Env}{s:Shared}{H:Hp}(e:zq P w K mg base A outer s H)(C:Addr)(us:List Value)(kw:List (Str×Value)) :
 zq P w K mg base (A.under (.builtin "type.__call__" ⟨.ref C::us,kw⟩)) outer s H:=⟨by first|exact e.frames|(simpa[Around.under,Code.envs,Code.isFrame,pushEnvs] using e.frames),e.mod,e.bs,e.Qm,e.lX,e.Wf,e.hok,e.bare⟩
section
variable{X:Cx}{pins:List (Addr×Obj)}{σ:St}{H:Hp}{s s':Shared}
theorem Inv.env0(I:Inv X pins σ H s):zq X.prog X.w X.K X.mg X.base X.A X.stack s H:=
 ⟨I.ok.frames,I.ok.mod,I.bs,Nat.le_trans I.ok.Qm I.sz,I.stack,I.sZ,I.hok,I.bare⟩
theorem Inv.after{Q:VK}{u:Value}(I:Inv X pins σ H s)(h:CE X.stack X.prog X.w H s Q u s'):EP X pins σ Q u s':=by
 obtain⟨v,H',os,bare,un,hok,r,q⟩:=h
 obtain⟨hh,g,d,t,os'⟩:=s'
 obtain rfl:os'=s.os:=os
 exact⟨v,H',I.call (h':=hh) (g':=g) (d':=d) (t':=t) (ch:=[]) un hok bare (fun b z=>absurd z (by simp)),r,q⟩
end
def Binds(K:PySem.W.Frag)(fd:FuncData)(ps:List Str)(ds:List Value):Prop:=
 ∀(s:Shared) (us:List Value),K.In s.heap→(us++ds).length=ps.length→BindsTo s fd ⟨us,[]⟩ (ps.zip (us++ds))
theorem Binds.all{K:PySem.W.Frag}{fd:FuncData}{ps:List Str}(h:∀us:List Value,us.length=ps.length→bindArgs fd ⟨us,[]⟩=pure (ps.zip us)):Binds K fd ps []:=fun s us _ hl=>by
 rw[List.append_nil] at hl ⊢
 exact .of_eq (h us hl)
section
variable{X:Cx}{CX:pZ}{k:Nat}{f C:Addr}{fd:FuncData}{ps:List Str}{sp:Sp}{dvs:List V}{ds:List Value}{E:XK}{x m:Str}{p pos apos:Pos}{e o:Expr}{es:List Expr}{ta:TE}{t:TA}
structure Mk(K:PySem.W.Frag)(C f:Addr):Prop where
 makes:PySem.W.makesIn K C=true
 init:PySem.W.findIn K (.ref C) "__init__" =some (some (.ref f))
 fn:PySem.W.isFn K (.ref f)=true
 kp:PySem.W.keepIn K (.ref C)=true
end
section
variable{X:Cx}{CX:pZ}{k:Nat}{f C:Addr}{fd:FuncData}{ps ks:List Str}{sp:Sp}{E:XK}{x m:Str}{p pos apos kpos:Pos}{e o:Expr}{es:List Expr}{kws:List Keyword}{te ta:TE}{t tk:TA}{nm:Option Str}
variable{g:List Value→List Value→List Value}{gV:List V→List V→List V}
end
structure Ě(N P:List Str)(sc:Scope):Prop where
 kind:sc.kind=.function
 co:sc.isCoroutine=false
 gen:sc.isGenerator=false
 nd:N.Nodup
 pre:N.take P.length=P
 par:∀x∈P,sc.names.lookup x=some .local∨sc.names.lookup x=some .cell
 Xe:∀y∈sc.names,y.2≠ .free
theorem qF{kindOf:Str→Option NameKind}{x:Str}:∀{binds:List (Str×Value)} {m:Str→Option Value},(∀v,(x,v)∉binds)→bindL kindOf binds m x=m x
 | [],_,_=>rfl
 |(n,v)::r,m,h=>by
  unfold bindL
  rw[qF fun w hw=>h w (List.mem_cons_of_mem _ hw)]
  split
  ·have:x≠n:=by rintro rfl;exact h v List.mem_cons_self
   simp[this]
  ·rfl
theorem qG{kindOf:Str→Option NameKind}{x:Str}:∀{binds:List (Str×Value)} {m:Str→Option Value},(∀v,(x,v)∉binds)→bindC kindOf binds m x=m x
 | [],_,_=>rfl
 |(n,v)::r,m,h=>by
  unfold bindC
  rw[qG fun w hw=>h w (List.mem_cons_of_mem _ hw)]
  split
  ·rfl
  ·have:x≠n:=by rintro rfl;exact h v List.mem_cons_self
   simp[this]
theorem qH{kindOf:Str→Option NameKind}{x:Str}{v:Value}:∀{P:List Str} {vs:List Value} {i:Nat} {m:Str→Option Value},P.Nodup→P[i]?=some x→vs[i]?=some v→kindOf x=some .local→
 bindL kindOf (P.zip vs) m x=some v
 | [],_,_,_,_,h,_,_=>by simp at h
 |_::_,[],_,_,_,_,h,_=>by simp at h
 |p::P,w::vs,0,m,nd,h1,h2,hk=>by
  simp at h1 h2;subst h1;subst h2
  show bindL kindOf ((p,w)::P.zip vs) m p=_
  unfold bindL
  rw[qF fun v hv=>(List.nodup_cons.mp nd).1 (List.of_mem_zip hv).1,if_pos hk]
  simp
 |p::P,w::vs,i+1,m,nd,h1,h2,hk=>by
  show bindL kindOf ((p,w)::P.zip vs) m x=_
  unfold bindL
  exact qH (i:=i) (List.nodup_cons.mp nd).2 (by simpa using h1) (by simpa using h2) hk
theorem qI{kindOf:Str→Option NameKind}{x:Str}{v:Value}:∀{P:List Str} {vs:List Value} {i:Nat} {m:Str→Option Value},P.Nodup→P[i]?=some x→vs[i]?=some v→kindOf x≠some .local→
 bindC kindOf (P.zip vs) m x=some v
 | [],_,_,_,_,h,_,_=>by simp at h
 |_::_,[],_,_,_,_,h,_=>by simp at h
 |p::P,w::vs,0,m,nd,h1,h2,hk=>by
  simp at h1 h2;subst h1;subst h2
  show bindC kindOf ((p,w)::P.zip vs) m p=_
  unfold bindC
  rw[qG fun v hv=>(List.nodup_cons.mp nd).1 (List.of_mem_zip hv).1,if_neg hk]
  simp
 |p::P,w::vs,i+1,m,nd,h1,h2,hk=>by
  show bindC kindOf ((p,w)::P.zip vs) m x=_
  unfold bindC
  exact qI (i:=i) (List.nodup_cons.mp nd).2 (by simpa using h1) (by simpa using h2) hk
def start(N:List Str)(vs:List V):St:=vs.map some++List.replicate (N.length-vs.length) none
def cA(CX:pZ)(P:Program)(w:World)(K:PySem.W.Frag)(mg:Str→Option Value)(base:Heap)(N:List Str)(qual:Str)(scope:Scope)(f:Addr)(cd:Value)(A:Around)(outer:List Env)(s:Shared)(H:Hp)(E:XK):Cx where
 prog:=P
 w:=w
 K:=K
 mg:=mg
 base:=base
 A:=A.deeper (envOfC qual scope s.heap.objs.size f cd)
 N:=N
 s₀:= s
 H₀:= H
 env:=envOfC qual scope s.heap.objs.size f cd
 outer:=outer
 stack:=envOfC qual scope s.heap.objs.size f cd::outer
 ex:=[]
 calm:=true
 fn:=fun _=>true
 pn:=[]
 xe:=fun e s'=>wpAny (model P w) (A.deeper (envOfC qual scope s.heap.objs.size f cd)) (leaving (envOfC qual scope s.heap.objs.size f cd) e) (fun _ s''=>CX outer H s E e s'') (fun e' s''=>CX outer H s E e' s'') s'
theorem jo{sc:Scope}{n:Nat}{x:Str}(h:sc.names.lookup x=some .cell):∃c,(cellsFrom n sc.names []).lookup x=some c:=by
 have q:=PySem.W.cellsFrom_some sc.names n [] (.inl h)
 exact Option.isSome_iff_exists.mp q
theorem Ef{CX:pZ}{P:Program}{w:World}{K:PySem.W.Frag}{mg:Str→Option Value}{base:Heap}{N ps:List Str}{qual:Str}{scope:Scope}{f:Addr}{cd:Value}{A:Around}{outer:List Env}{s s1:Shared}{H:Hp}{E:XK}{us:List Value}{vs:List V}
 (S:Ě N ps scope)(hd:A.handled=none)(e0:zq P w K mg base A outer s H)(hl:vs.length=ps.length)(r:Vals vs us)
 (x:InCallC s s.heap.objs.size (bindL (envOfC qual scope s.heap.objs.size f cd).kindOf (ps.zip us) fun _=>none) (cellsFrom (s.heap.objs.size+1) scope.names []) (bindC (envOfC qual scope s.heap.objs.size f cd).kindOf (ps.zip us) fun _=>none) s1) :
 Inv (cA CX P w K mg base N qual scope f cd A outer s H E) [] (start N vs) H s1:=by
 have hpl:ps.length≤N.length:=by have:=congrArg List.length S.pre;rw[List.length_take] at this;omega
 obtain⟨h1,tk,rfl,hk⟩:=x.done
 have noA:∀b:Addr,b∉(cA CX P w K mg base N qual scope f cd A outer s H E).ex:=fun b z=>absurd (show b∈([]:List Addr) from z) (by simp)
 refine⟨⟨e0.mod,S.kind,rfl,rfl,Nat.le_refl _,fun y z c h1 h2=>?_,fun y hy=>?_,fun y c _ h=>?_,fun _=>hd,Around.frames_deeper e0.frames,.inr ⟨rfl,rfl⟩,fun b z=>absurd z (noA b),e0.bs,e0.Qm,fun b _ _=>noA b,fun b z=>absurd z (noA b),e0.lX,e0.Wf⟩,
  rfl,e0.bare,Un.kept hk,⟨_,x.toInCall.ns,fun i y v h1 h2 h3=>?_⟩,fun y c h=>⟨_,x.cell y c h⟩,e0.hok.fresh (Nat.le_refl _),fun y c h=>?_,fun p hp=>absurd (show p∈([]:List (Addr×Obj)) from hp) (by simp),e0.hok.kept hk,?_⟩
 ·exact name_of_addr x.apart (PySem.mem_of_lookup h1) (PySem.mem_of_lookup h2)
 ·have hy:scope.names.lookup y=some .cell∨scope.names.lookup y=some .free:=hy
  rcases hy with hy|hy
  ·exact jo hy
  ·exact absurd rfl (S.Xe _ (PySem.mem_of_lookup hy))
 ·exact Nat.le_of_lt (x.above y c (PySem.mem_of_lookup h))
 ·have hi:i<vs.length:=by
   unfold start at h2
   by_cases hi:i<vs.length
   ·exact hi
   ·rw[List.getElem?_append_right (by simpa using hi)] at h2
    rw[List.getElem?_replicate] at h2
    split at h2<;>cases h2
  have ha:vs[i]?=some v:=by
   unfold start at h2
   rw[List.getElem?_append_left (by simpa using hi),List.getElem?_map] at h2
   cases e:vs[i]? with
   |none=>rw[e] at h2;cases h2
   |some a=>rw[e] at h2;cases h2;rfl
  obtain⟨u,hu,rv⟩:=r.get ha
  have hp:ps[i]?=some y:=by
   rw[←S.pre,List.getElem?_take_of_lt (by omega)];exact h1
  have ndP:ps.Nodup:=by rw[←S.pre];exact S.nd.sublist (List.take_sublist _ _)
  refine⟨u,rv,?_⟩
  rcases S.par y (List.mem_of_getElem? hp) with k|k
  ·exact .inl ⟨k,qH ndP hp hu k⟩
  ·obtain⟨c,e⟩:=jo (n:=s.heap.objs.size+1) k
   refine .inr ⟨.inl k,c,e,?_⟩
   have q:=x.cell y c e
   rw[qI ndP hp hu (by show scope.names.lookup y≠_;rw[k];decide)] at q
   exact q
 ·exact e0.hok.fresh (Nat.le_of_lt (x.above y c (PySem.mem_of_lookup h)))
 ·unfold start
  show _=N.length
  rw[List.length_append,List.length_map,List.length_replicate]
  omega
theorem Tt{CX:pZ}{P:Program}{w:World}{K:PySem.W.Frag}{mg:Str→Option Value}{base:Heap}{k:Nat}{f:Addr}{name qual:Str}{params:Arguments}{body:List Stmt}{scope:Scope}{dV kV doc pm cdv ct oc:Value}{an od:Option Addr}
 {osl:Array (Option Value)}{N ps:List Str}{sp:Sp}(lk:K.lookup f=some ⟨oc,od,.func (PySem.W.fnOf name qual params body scope dV kV doc pm an cdv ct),osl⟩)(hcd:PySem.W.codeIn K cdv qual=true)(S:Ě N ps scope)
 (len:∀vs H Q E,sp vs H Q E→vs.length=ps.length)
 (hbody:∀(A:Around) (outer:List Env) (s:Shared) (H:Hp) (vs:List V) (Q:VK) (E:XK),bM k (A.deeper (envOfC qual scope s.heap.objs.size f cdv))→sp vs H Q E→
   ∃t,lY (cA CX P w K mg base N qual scope f cdv A outer s H E) body t∧t {nx:=fun _ H'=>Q .non H',rt:=Q} (start N vs) H) :
 Ķ P w K mg base CX (k+1) f (PySem.W.fnOf name qual params body scope dV kV doc pm an cdv ct) ps sp:=by
 refine⟨len,fun A outer s H args us vs Q E hr e0 hb r hsp=>?_⟩
 have hl:=len _ _ _ _ hsp
 have KX:K.In s.heap:=e0.mod.kin.keeps fun b o e=>(e0.bs b o e).1
 have lim:s.heap.NoLimit:=e0.mod.nolimit.keeps fun b o e=>(e0.bs b o e).1
 have hkind:∀y∈ps.zip us,scope.names.lookup y.1=some .local∨(scope.names.lookup y.1=some .cell∧((cellsFrom (s.heap.objs.size+1) scope.names []).lookup y.1).isSome=true):=fun⟨n,v⟩ hy=>by
  rcases S.par n (List.of_mem_zip hy).1 with q|q
  ·exact .inl q
  ·exact .inr ⟨q,PySem.W.cellsFrom_some _ _ _ (.inl q)⟩
 refine codeAny_call_function hr.depth (KX _ _ lk) rfl S.co S.gen rfl (PySem.W.codeRec_of KX hcd) (hb _ _ _ _ ?_)
 refine wpAny_newFunctionEnv_cells S.kind hkind fun env he s1 x=>?_
 subst he
 refine⟨lim.keeps x.toInCall.keep,codeAny_func ?_⟩
 obtain⟨t,ht,hq⟩:=hbody A outer s H vs Q E (hr.deeper _) hsp
 have I:Inv (cA CX P w K mg base N qual scope f cdv A outer s H E) [] (start N vs) H s1:=Ef S hr.hd e0 hl r x
 refine wpAny_mono (ht [] s1 (start N vs) H _ I hq) (fun fl s' hs=>?_) fun e s' hs=>hs
 have fin:∀{σ':St} {H':Hp} {v:V} {u:Value},Inv (cA CX P w K mg base N qual scope f cdv A outer s H E) [] σ' H' s'→RelV v u→Q v H'→CE outer P w H s Q u s':=
  fun{σ' H' v u} J rv q=>⟨v,H',J.os,J.bare,J.base,J.hok,rv,q⟩
 cases fl with
 |ret u=>
  obtain⟨v,σ',H',J,rv,q⟩:=hs
  exact fin J rv q
 |next=>
  obtain⟨σ',H',J,q⟩:=hs
  exact fin (v:=V.non) (u:=Value.none) J rfl q
 |brk=>
  obtain⟨_,_,_,q⟩:=hs
  exact False.elim q
 |cont=>
  obtain⟨_,_,_,q⟩:=hs
  exact False.elim q
end L2
namespace L2
open PySem PySem.Spec PyProof.Rows
section
variable{X:Cx}{x:Str}{p pos:Pos}{e:Expr}{es:List Expr}{t:TA}{id T:String}{r:List V→Hp→VK→Prop}
def tCB(r:List V→Hp→VK→Prop)(t:TA):TE:=fun σ H Q=>t σ H fun vs H1=>r vs H1 Q
theorem ĩ(hc:Ŭ X (.builtin id) r)(hg:Gl X x)(hm:X.mg x=none)(hv:bootBuiltins x=some (.builtin id))(ha:PA X (e::es) t)(hn:x≠ "__name__" := by decide)(hdb:(x== ("__debug__" :Str))=false:=by decide)
 (he:starEach (e::es) X.env=(false,eval e X.env)::starEach es X.env:=by rfl)(hpl:(backTo pos (starEach es X.env)).any (·.1)=false:=by rfl):PE X (.Call (.Name x p) (e::es) [] pos) (tCB r t):=by
 intro pins s σ H Q I h
 refine wpAny_Call_Name_kw (jO I hg hm hv ?_ hn hdb)
 exact PyProof.Rows.callWith_builtin1 (Ų (ha pos pins s σ H _ I h) fun us s1 ⟨vs,H1,I1,r1,q1⟩=>hc pins s1 σ H1 vs us Q I1 r1 q1) he hpl
theorem ş(hc:Ŭ X (.type T) r)(hg:Gl X x)(hm:X.mg x=none)(hv:bootBuiltins x=some (.type T))(ha:PA X (e::es) t)(hn:x≠ "__name__" := by decide)(hdb:(x== ("__debug__" :Str))=false:=by decide)
 (he:starEach (e::es) X.env=(false,eval e X.env)::starEach es X.env:=by rfl)(hpl:(backTo pos (starEach es X.env)).any (·.1)=false:=by rfl):PE X (.Call (.Name x p) (e::es) [] pos) (tCB r t):=by
 intro pins s σ H Q I h
 refine wpAny_Call_Name_kw (jO I hg hm hv ?_ hn hdb)
 exact PyProof.Rows.callWith_type1 (Ų (ha pos pins s σ H _ I h) fun us s1 ⟨vs,H1,I1,r1,q1⟩=>hc pins s1 σ H1 vs us Q I1 r1 q1) he hpl
end
end L2
namespace HT
open PySem PyProof.Rows
section
open PySem.SeqAt
open PySem.AutoSeq1 (wpAny_loadPart')
open PySem.MeetsSeq PySem.MeetsSeq2 PySem.MeetsSeq3
end
section
variable{prog:Program}{w:World}{A:Around}{E:Value→Shared→Prop}{s:Shared}
def iy(n d:Nat):Option Int→Nat
 |none=>d
 |some v=>if v<0 then(v+(n:Int)).toNat else min v.toNat n
theorem Gn(n d:Nat)(hd:d≤n)(o:Option Int):iy n d o≤n:=by
 cases o with
 |none=>exact hd
 |some v=>
  show(if v<0 then(v+(n:Int)).toNat else min v.toNat n)≤n
  by_cases hv:v<0
  ·rw[if_pos hv];omega
  ·rw[if_neg hv];exact Nat.min_le_right _ _
end
end HT
namespace L2
open PySem PySem.Spec PyProof.Rows
abbrev TO:=St→Hp→(Option Int→Hp→Prop)→Prop
def PO(X:Cx)(e:Option Expr)(t:TO):Prop:=
 ∀(pins:List (Addr×Obj)) (s:Shared) (σ:St) (H:Hp) (Q:Option Int→Hp→Prop),Inv X pins σ H s→t σ H Q→
  wpAny (model X.prog X.w) X.A (evalPart e X.env) (fun u s'=>∃o H',Inv X pins σ H' s'∧IsPart u o∧Q o H') X.xe s
def QD:TO:=fun _ H Q=>Q none H
section
variable{X:Cx}{e:Expr}{te:TE}{lo hi:Option Expr}{tl th:TO}{pos p2:Pos}
theorem QF:PO X none QD:=by
 intro pins s σ H Q I h
 rw[evalPart_none]
 exact wpAny_pure ⟨none,H,I,.none,h⟩
def BX(X:Cx)(r:V→Option Int→Option Int→Hp→VK→Prop):Prop:=
 ∀(pins:List (Addr×Obj)) (s:Shared) (σ:St) (H:Hp) (x:V) (v vl vu:Value) (lo hi:Option Int) (sl:Addr) (Q:VK),Inv X pins σ H s→RelV x v→s.heap.IsSliceOf sl vl vu .none→IsPart vl lo→IsPart vu hi→r x lo hi H Q→
  ∃T id,typeLookup (.type T) "__getitem__" =pure (some (.builtin id))∧s.TypeIs v T∧wpAny (model X.prog X.w) X.A (getItem v (.ref sl)) (EP X pins σ Q) X.xe s
theorem BX.or{r r':V→Option Int→Option Int→Hp→VK→Prop}(h:BX X r)(h':BX X r'):BX X (fun x lo hi H Q=>r x lo hi H Q∨r' x lo hi H Q):=by
 intro pins s σ H x v vl vu lo hi sl Q I rx hs pl pu q
 rcases q with q|q
 ·exact h pins s σ H x v vl vu lo hi sl Q I rx hs pl pu q
 ·exact h' pins s σ H x v vl vu lo hi sl Q I rx hs pl pu q
def tSl(r:V→Option Int→Option Int→Hp→VK→Prop)(te:TE)(tl th:TO):TE:=fun σ H Q=>te σ H fun x H1=>tl σ H1 fun l H2=>th σ H2 fun u H3=>r x l u H3 Q
theorem Gp{r:V→Option Int→Option Int→Hp→VK→Prop}(hr:BX X r)(he:PE X e te)(hl:PO X lo tl)(hu:PO X hi th):PE X (.Subscript e (.Slice lo hi none p2) pos) (tSl r te tl th):=by
 intro pins s σ H Q I h
 refine Subscript_ (Ų (he pins s σ H _ I h) fun v s1 ⟨x,H1,I1,r1,q1⟩=>?_)
 refine wpAny_Slice (Ų (hl pins s1 σ H1 _ I1 q1) fun vl s2 ⟨l,H2,I2,pl,q2⟩=>Ų (hu pins s2 σ H2 _ I2 q2) fun vu s3 ⟨u,H3,I3,pu,q3⟩=>?_)
 rw[evalPart_none]
 refine wpAny_pure ?_
 have I4:Inv X pins σ H3 {s3 with heap:=s3.heap.push {cls:=.type "slice",data:=.fields #[vl,vu,.none]}}:=I3.kept (t':=s3.toks) fun b ob q=>Heap.get?_push_of_some _ q
 obtain⟨T,id,hT,ht,hg⟩:=hr pins {s3 with heap:=s3.heap.push {cls:=.type "slice",data:=.fields #[vl,vu,.none]}} σ H3 x v vl vu l u s3.heap.objs.size Q I4 r1 (Heap.IsSliceOf.new ..) pl pu q3
 show wpAny (model X.prog X.w) X.A (subscriptTail e (.Slice lo hi none p2) v (.ref s3.heap.objs.size)) (EP X pins σ Q) X.xe {s3 with heap:=s3.heap.push {cls:=.type "slice",data:=.fields #[vl,vu,.none]}}
 exact tail_any (ops:=[.ref s3.heap.objs.size,v]) ht hT hg (by with_unfolding_all rfl)
def vI(xs:List V)(lo hi:Option Int):List V:=(xs.drop (HT.iy xs.length 0 lo)).take (HT.iy xs.length xs.length hi-HT.iy xs.length 0 lo)
theorem vJ(xs:List V)(lo hi:Option Int):(vI xs lo hi).length≤xs.length:=by
 unfold vI
 rw[List.length_take,List.length_drop]
 omega
end
end L2
namespace L2
open PySem PySem.Spec PyProof.Rows
def Fw(n:Nat)(i:Int):Option Nat:=if 0≤i then(if i<n then some i.toNat else none) else if -(n:Int)≤i then some (i+n).toNat else none
def tu{α:Type}(xs:List α)(i:Int):Option α:= (Fw xs.length i).bind fun j=>xs[j]?
theorem BZ{n:Nat}{i:Int}{j:Nat}(h:Fw n i=some j):seqIndex? i n=some j∧j<n∧ -(n:Int)≤i∧i<n:=by
 unfold Fw at h
 by_cases h0:0≤i
 ·rw[if_pos h0] at h
  by_cases h1:i<n
  ·rw[if_pos h1] at h
   have e:i.toNat=j:=Option.some.inj h
   exact⟨by rw[seqIndex_of h0 h1,e],by omega,by omega,h1⟩
  ·rw[if_neg h1] at h;cases h
 ·rw[if_neg h0] at h
  by_cases h1: -(n:Int)≤i
  ·rw[if_pos h1] at h
   have e:(i+n).toNat=j:=Option.some.inj h
   exact⟨by rw[seqIndex_neg (by omega) h1,e],by omega,h1,by omega⟩
  ·rw[if_neg h1] at h;cases h
theorem tD{α:Type}{xs:List α}{i:Int}{v:α}(h:tu xs i=some v):∃j,seqIndex? i xs.length=some j∧xs[j]?=some v∧j<xs.length∧ -(xs.length:Int)≤i∧i<xs.length:=by
 unfold tu at h
 cases e:Fw xs.length i with
 |none=>rw[e] at h;cases h
 |some j=>
  rw[e] at h
  obtain⟨h1,h2,h3,h4⟩:=BZ e
  exact⟨j,h1,h,h2,h3,h4⟩
def B_(b:Expr):Prop:=∀o i,subscripted b false o i=operate [o,i] (getItem o i)
def zu(X:Cx)(r:R2):Prop:=
 ∀(value slice:Expr) (pins:List (Addr×Obj)) (s:Shared) (σ:St) (H:Hp) (x y:V) (v u:Value) (Q:VK),Inv X pins σ H s→RelV x v→RelV y u→r x y H Q→
  subscripted slice false v u=operate [v,u] (getItem v u)→wpAny (model X.prog X.w) X.A (subscriptTail value slice v u) (EP X pins σ Q) X.xe s
def MtR(X:Cx)(id:String)(r:V→List V→Hp→VK→Prop):Prop:=
 ∀(pins:List (Addr×Obj)) (s:Shared) (σ:St) (H:Hp) (x:V) (xs:List V) (v:Value) (us:List Value) (Q:VK),Inv X pins σ H s→RelV x v→Vals xs us→r x xs H Q→
  wpAny (model X.prog X.w) X.A (call (.builtin id) (v::us)) (EP X pins σ Q) X.xe s
section
variable{X:Cx}{a b:Expr}{ta tb:TE}{pos:Pos}
theorem zu.or{r r':R2}(h:zu X r)(h':zu X r'):zu X (fun x y H Q=>r x y H Q∨r' x y H Q):=by
 intro value slice pins s σ H x y v u Q I rx ry q hs
 rcases q with q|q
 ·exact h value slice pins s σ H x y v u Q I rx ry q hs
 ·exact h' value slice pins s σ H x y v u Q I rx ry q hs
theorem Zcq{r:R2}(hr:zu X r)(ha:PE X a ta)(hb:PE X b tb)(hs:B_ b):PE X (.Subscript a b pos) (tOp r ta tb):=by
 intro pins s σ H Q I h
 exact Subscript_ (WD ha hb I h fun v u s2 x y H2 I2 rx ry q=>hr a b pins s2 σ H2 x y v u Q I2 rx ry q (hs _ _))
def Zcr(K:PySem.W.Frag):R2:=fun x y H Q=>∃p xs i v,x=.ref p∧y=.int i∧aG K H p xs∧tu xs i=some v∧Q v H
def Zcs(K:PySem.W.Frag):R2:=fun x y H Q=>∃p xs i v,x=.ref p∧y=.int i∧dF K H p xs∧tu xs i=some v∧Q v H
def Zct:R2:=fun x y H Q=>∃z i c,x=.str z∧y=.int i∧z.length≤sizeLine∧tu z.cps.toList i=some c∧Q (.str ⟨#[c]⟩) H
theorem QG:zu X (Zcr X.K):=by
 intro value slice pins s σ H x y v u Q I rx ry h hs
 obtain⟨p,xs,i,z,rfl,rfl,hq,he,q⟩:=h
 cases rx
 obtain⟨t,rfl⟩:=ry
 obtain⟨its,r,pl,hz⟩:=I.list hq
 obtain⟨j,h1,h2,h3,h4,h5⟩:=tD he
 obtain⟨w,ew,rw'⟩:=r.get h2
 have hl:=r.length
 have hn:=jQ
 have fin:EP X pins σ Q w s:=⟨z,H,I,rw',q⟩
 by_cases h0:0≤i
 ·have hj:i.toNat=j:=by
   rw[seqIndex_of h0 h5] at h1
   exact Option.some.inj h1
  exact item_listR pl.isList h0 (by omega) (by rw[hj];simpa using ew) fin hs
 ·have hj:(i+(its.toArray.size:Int)).toNat=j:=by
   rw[seqIndex_neg (by omega) h4] at h1
   rw[List.size_toArray,←hl]
   exact Option.some.inj h1
  exact subscriptTail_builtinR (x:=w) pl.isList.typeIs slot_list_getitem.lookup
   (wpAny_getItem_list_neg (Q:=fun r s'=>r=w∧EP X pins σ Q r s') pl.isList (by omega) (by rw[List.size_toArray]<;>omega) (by omega) (by rw[hj];simpa using ew) ⟨rfl,fin⟩) hs
theorem Xf:zu X (Zcs X.K):=by
 intro value slice pins s σ H x y v u Q I rx ry h hs
 obtain⟨p,xs,i,z,rfl,rfl,hq,he,q⟩:=h
 cases rx
 obtain⟨t,rfl⟩:=ry
 obtain⟨its,r,pl,hz⟩:=I.tuple hq
 obtain⟨j,h1,h2,h3,h4,h5⟩:=tD he
 obtain⟨w,ew,rw'⟩:=r.get h2
 have hl:=r.length
 have hn:=jQ
 have fin:EP X pins σ Q w s:=⟨z,H,I,rw',q⟩
 exact subscriptTail_builtinR (x:=w) pl.typeIs slot_tuple_getitem.lookup
  (getItem_tuple (j:=j) (Q:=fun r s'=>r=w∧EP X pins σ Q r s') pl (by omega) (by omega) (by rw[List.size_toArray,←hl];exact h1) (by simpa using ew) ⟨rfl,fin⟩) hs
theorem Xg:zu X Zct:=by
 intro value slice pins s σ H x y v u Q I rx ry h hs
 obtain⟨z,i,c,rfl,rfl,hz,he,q⟩:=h
 obtain⟨t,rfl⟩:=rx
 obtain⟨t',rfl⟩:=ry
 obtain⟨j,h1,h2,h3,h4,h5⟩:=tD he
 have hl:z.cps.toList.length=z.length:=by simp[Str.length]
 rw[hl] at h1 h4 h5
 have hn:=jQ
 exact tail_any (typeIs_str s z t) slot_str_getitem.lookup (getItem_str (c:=c) (by
  have e1:decide (i < -(2 ^ 63:Int))=false:=decide_eq_false (by omega)
  have e2:decide (i ≥ 2 ^ 63)=false:=decide_eq_false (by omega)
  rw[e1,e2,Bool.or_false]) (by rw[h1];simpa using h2) ⟨.str ⟨#[c]⟩,H,I.tok _,⟨_,rfl⟩,q⟩) hs
def rIx(K:PySem.W.Frag):R2:=fun x y H Q=>Zcr K x y H Q∨Zcs K x y H Q∨Zct x y H Q
theorem Xh:zu X (rIx X.K):=QG.or (Xf.or Xg)
theorem zx(its:List Value)(n j:Nat)(u:Value):Obj.mapSeq (·.setIfInBounds j u) {cls:=.type "list",data:=.seq its.toArray n}= {cls:=.type "list",data:=.seq (its.set j u).toArray n}:=by
 simp[Obj.mapSeq]
theorem Inv.lst{pins:List (Addr×Obj)}{σ:St}{H:Hp}{s:Shared}{p:Addr}{xs:List V}(I:Inv X pins σ H s)(h:H p=some (.lst xs)) :
 ∃(its:List Value) (n:Nat),Vals xs its∧s.heap.get? p=some {cls:=.type "list",data:=.seq its.toArray n}∧xs.length≤sizeLine:=by
 obtain⟨z,its,n,r,e⟩:=I.hok p _ h
 exact⟨its,n,r,e,z⟩
theorem Inv.Xi{pins:List (Addr×Obj)}{σ:St}{H:Hp}{s:Shared}{p:Addr}{xs ys:List V}{its its':List Value}{n n':Nat}{f:Obj→Obj}(I:Inv X pins σ H s)(h:H p=some (.lst xs))
 (ho:s.heap.get? p=some {cls:=.type "list",data:=.seq its.toArray n})(hf:f {cls:=.type "list",data:=.seq its.toArray n}= {cls:=.type "list",data:=.seq its'.toArray n'})(r:Vals ys its')(hz:ys.length≤sizeLine)(t:Nat) :
 Inv X pins σ (upd H p (.lst ys)) {s with heap:=s.heap.update p f,toks:=t}:=by
 have e:(s.heap.update p f).get? p=some {cls:=.type "list",data:=.seq its'.toArray n'}:=by
  rw[Heap.get?_update_self f ho (by rw[hf]<;>rfl),hf]
 refine I.write (x:=p) (e:=p) (by rw[h];trivial) (.inl rfl) (fun b u hb q=>(Heap.get?_update_other _ _ (Ne.symm hb)).trans q) ⟨_,e⟩ ?_
 exact⟨hz,its',n',r,e⟩
def Zcu:V→V→V→Hp→(Hp→Prop)→Prop:=fun o i v H Q=>∃p xs k j,o=.ref p∧i=.int k∧H p=some (.lst xs)∧Fw xs.length k=some j∧Q (upd H p (.lst (xs.set j v)))
theorem set_list:Zcf X Zcu:=by
 intro pins s σ H o i v ov iv u Q I ro ri rv h
 obtain⟨p,xs,k,j,rfl,rfl,hp,hj,q⟩:=h
 cases ro
 obtain⟨t,rfl⟩:=ri
 obtain⟨its,n,r,ho,hz⟩:=I.lst hp
 obtain⟨h1,h2,h3,h4⟩:=BZ hj
 have hl:=r.length
 have hn:=jQ
 have I':Inv X pins σ (upd H p (.lst (xs.set j v))) {s with heap:=s.heap.update p (Obj.mapSeq (·.setIfInBounds j u))}:=
  I.Xi hp ho (zx its n j u) (r.set rv j) (by rw[List.length_set];exact hz) s.toks
 by_cases h0:0≤k
 ·have hk:k.toNat=j:=by
   rw[seqIndex_of h0 h4] at h1
   exact Option.some.inj h1
  exact PySem.W.ki_setAt ho h0 (by omega) (by rw[List.size_toArray,←hl];exact h4) (by rw[hk];exact⟨_,I',q⟩)
 ·have hk:(k+(its.toArray.size:Int)).toNat=j:=by
   rw[seqIndex_neg (by omega) h3] at h1
   rw[List.size_toArray,←hl]
   exact Option.some.inj h1
  exact PySem.W.ki_setBack ho (by omega) (by rw[List.size_toArray,←hl];exact h3) (by omega) (by rw[hk];exact⟨_,I',q⟩)
theorem tE(lo hi:Option Int)(n:Nat):(sliceBounds lo hi none n).1=((HT.iy n 0 lo:Nat):Int)∧(sliceBounds lo hi none n).2.1=((HT.iy n n hi:Nat):Int)∧(sliceBounds lo hi none n).2.2=1:=by
 refine⟨?_,?_,rfl⟩
 ·cases lo with
  |none=>simp[sliceBounds,HT.iy]
  |some i=>
   simp only[sliceBounds,HT.iy,Option.getD_none,show(1:Int)>0 by decide,if_true]
   by_cases h:i<0
   ·simp only[h,if_true]<;>omega
   ·simp only[h,if_false]<;>omega
 ·cases hi with
  |none=>simp[sliceBounds,HT.iy]
  |some i=>
   simp only[sliceBounds,HT.iy,Option.getD_none,show(1:Int)>0 by decide,if_true]
   by_cases h:i<0
   ·simp only[h,if_true]<;>omega
   ·simp only[h,if_false]<;>omega
theorem qg(its:List Value)(lo hi:Option Int):slicePick its.toArray lo hi none=((its.drop (HT.iy its.length 0 lo)).take (HT.iy its.length its.length hi-HT.iy its.length 0 lo)).toArray:=by
 obtain⟨h1,h2,h3⟩:=tE lo hi its.toArray.size
 unfold slicePick
 rw[h1,h2,h3]
 simp only[sliceRange_one,pick_run,List.size_toArray]<;>rfl
def Zju(K:PySem.W.Frag):V→Option Int→Option Int→Hp→VK→Prop:=fun x lo hi H Q=>∃a xs,x=.ref a∧aG K H a xs∧∀p,H p=none→Q (.ref p) (upd H p (.lst (vI xs lo hi)))
theorem QH:BX X (Zju X.K):=by
 intro pins s σ H x v vl vu lo hi sl Q I rx hs pl pu h
 obtain⟨a,xs,rfl,hx,q⟩:=h
 cases rx
 obtain⟨its,r,ht,hz⟩:=I.list hx
 have hlen:=r.length
 refine⟨"list",_,slot_list_getitem.lookup,ht.isList.typeIs,?_⟩
 refine wpAny_getItem_list_slice ht.isList hs pl pu .none (by simp) ?_ (by rw[List.size_toArray]<;>omega)
 rw[qg,←hlen]
 refine⟨.ref s.heap.objs.size,_,I.laid (t':=s.toks) (o:=.lst (vI xs lo hi)) (fun b ob q=>Heap.get?_push_of_some _ q) (Nat.le_refl _) ?_,rfl,q _ (I.hok.fresh (Nat.le_refl _))⟩
 exact⟨Nat.le_trans (vJ xs lo hi) hz,_,0,(r.drop (HT.iy xs.length 0 lo)).take (HT.iy xs.length xs.length hi-HT.iy xs.length 0 lo),Heap.get?_push_size _ rfl⟩
theorem tH:Ŭ X (.type "list") (fun xs H Q=>∃p ys,xs=[.ref p]∧(aG X.K H p ys∨dF X.K H p ys)∧∀l,H l=none→Q (.ref l) (upd H l (.lst ys))):=by
 intro pins s σ H xs us Q I r h
 obtain⟨p,ys,rfl,hq,q⟩:=h
 obtain⟨u,rfl,rx⟩:=vals1 r
 cases rx
 have fin:∀(its:List Value),Vals ys its→ys.length≤sizeLine→∀(h':Heap) (c':Nat),(∀b o',s.heap.get? b=some o'→h'.get? b=some o')→
  h'.get? s.heap.objs.size=some {cls:=.type "list",dict:=none,data:=.seq its.toArray c',slots:=#[]}→EP X pins σ Q (.ref s.heap.objs.size) {s with heap:=h'}:=fun its r' hz h' c' kp e=>
  ⟨.ref s.heap.objs.size,_,I.laid (t':=s.toks) kp (Nat.le_refl _) (show aA X.prog X.w _ h' _ (.lst ys) from⟨hz,its,c',r',e⟩),rfl,q _ (I.hok.fresh (Nat.le_refl _))⟩
 rcases hq with hq|hq
 ·obtain⟨its,r',pl,hz⟩:=I.list hq
  have hlen:=r'.length
  obtain⟨o,ho,hc,n,hd⟩:=pl.isList
  exact call_list_seq p (.inl rfl) ho hc hd (fun h' c' kp e=>fin its r' hz h' c' kp e) (by simp only[List.size_toArray]<;>omega)
 ·obtain⟨its,r',pl,hz⟩:=I.tuple hq
  have hlen:=r'.length
  obtain⟨o,ho,hc,n,hd⟩:=pl
  exact call_list_seq p (.inr rfl) ho hc hd (fun h' c' kp e=>fin its r' hz h' c' kp e) (by simp only[List.size_toArray]<;>omega)
theorem qj:Ŭ X (.type "tuple") (fun xs H Q=>∃p ys,xs=[.ref p]∧((aG X.K H p ys∧∀l,H l=none→Q (.ref l) (upd H l (.tup ys)))∨(dF X.K H p ys∧Q (.ref p) H))):=by
 intro pins s σ H xs us Q I r h
 obtain⟨p,ys,rfl,h⟩:=h
 obtain⟨u,rfl,rx⟩:=vals1 r
 cases rx
 rcases h with⟨hq,q⟩|⟨hq,q⟩
 ·obtain⟨its,r',pl,hz⟩:=I.list hq
  have hlen:=r'.length
  refine call_tuple_list pl.isList (fun h' kp=>?_) (by simp only[List.size_toArray]<;>omega)
  have I1:Inv X pins σ H {s with heap:=h'}:=I.kept (t':=s.toks) kp
  have I2:Inv X pins σ (upd H h'.objs.size (.tup ys)) {s with heap:=h'.push {cls:=.type "tuple",data:=.seq its.toArray}}:=
   I1.laid (t':=s.toks) (fun b o e=>Heap.get?_push_of_some _ e) (Nat.le_refl _) (show aA X.prog X.w _ _ _ (.tup ys) from⟨hz,its,r',IsTup.new _ _⟩)
  exact⟨.ref h'.objs.size,_,I2,rfl,q _ (I1.hok.fresh (Nat.le_refl _))⟩
 ·obtain⟨its,r',pl,hz⟩:=I.tuple hq
  exact call_tuple_same pl ⟨.ref p,H,I,rfl,q⟩
def tyV(K:PySem.W.Frag)(T:String)(x:V)(H:Hp):Prop:=match x with
 | .str _=>T= "str"
 | .int _=>T= "int"
 | .ref p=>(T= "list" ∧∃xs,aG K H p xs)∨(T= "tuple" ∧∃o,K.lookup p=some o∧o.cls=.type "tuple" ∧o.dict=none)∨
     (T= "dict" ∧((∃kvs,H p=some (.dK kvs))∨∃kvs,H p=some (.dT kvs)))∨(T= "set" ∧∃S n,H p=some (.set S n))
 |_=>False
theorem Xj{pins:List (Addr×Obj)}{σ:St}{H:Hp}{s:Shared}{T:String}{x:V}{v:Value}(I:Inv X pins σ H s)(r:RelV x v)(ty:tyV X.K T x H) :
 s.TypeIs v T∧∀a,v=.ref a→∃ob,s.heap.get? a=some ob∧ob.dict=none:=by
 cases x with
 |str z=>
  obtain⟨t,rfl⟩:=r
  cases(show T= "str" from ty)
  exact⟨typeIs_str s z t,fun _ e=>nomatch e⟩
 |int i=>
  obtain⟨t,rfl⟩:=r
  cases(show T= "int" from ty)
  exact⟨typeIs_int s i t,fun _ e=>nomatch e⟩
 |ref p=>
  cases r
  rcases ty with⟨rfl,xs,hq⟩|⟨rfl,o,hk,hc,hd⟩|⟨rfl,hk⟩|⟨rfl,S,n,hk⟩
  ·obtain⟨its,_,pl,_⟩:=I.list hq
   refine⟨pl.isList.typeIs,fun a e=>?_⟩
   cases e
   obtain⟨o,n,e,c,hd,_⟩:=pl
   exact⟨o,e,hd⟩
  ·refine⟨⟨o,I.jM p o hk,hc⟩,fun a e=>?_⟩
   cases e
   exact⟨o,I.jM _ o hk,hd⟩
  ·have z:∃o,s.heap.get? p=some o∧o.ExactDict:=by
    rcases hk with⟨kvs,hk⟩|⟨kvs,hk⟩
    ·obtain⟨_,_,_,_,o,_,_,e,ex,_⟩:=I.hok p _ hk
     exact⟨o,e,ex⟩
    ·obtain⟨_,_,_,_,o,_,_,e,ex,_⟩:=I.hok p _ hk
     exact⟨o,e,ex⟩
   obtain⟨o,e,ex⟩:=z
   refine⟨⟨o,e,ex.1⟩,fun a e2=>?_⟩
   cases e2
   exact⟨o,e,ex.2.1⟩
  ·obtain⟨o,_,_,_,e,ex,_⟩:=I.hok p _ hk
   refine⟨⟨o,e,ex.1⟩,fun a e2=>?_⟩
   cases e2
   exact⟨o,e,ex.2.1⟩
 |_=>exact False.elim ty
def tBM(K:PySem.W.Frag)(T:String)(r:V→List V→Hp→VK→Prop)(to:TE)(t:TA):TE:=fun σ H Q=>to σ H fun x H1=>tyV K T x H1∧t σ H1 fun xs H2=>r x xs H2 Q
variable{o e:Expr}{es:List Expr}{to:TE}{t:TA}{name:Str}{apos cpos:Pos}{T id:String}{r:V→List V→Hp→VK→Prop}
theorem nj(pa:PlainAttrs T)(slot:Slot T name id)(hty:typeOf (.builtin id)=pure (.type "method_descriptor"))(hm:MtR X id r)(ho:PE X o to)(ha:PA X (e::es) t)
 (hbase:attributeBase o name X.env (eval o X.env)=eval o X.env:=by rfl)
 (hfew:((backTo cpos (starEach (e::es) X.env)).all (fun x=>!x.1) && (backToKw cpos (keywordEach [] X.env)).all (fun x=>x.1.isSome)
   && decide ((e::es).length+([]:List Keyword).length+(if([]:List Keyword).isEmpty then 0 else 1)<30))=true:=by rfl)
 (hline:(apos.endLine== cpos.line)=true:=by rfl)(hs:starEach (e::es) X.env=(false,eval e X.env)::starEach es X.env:=by rfl)(hplain:(backTo cpos (starEach es X.env)).any (·.1)=false:=by rfl) :
 PE X (.Call (.Attribute o name apos) (e::es) [] cpos) (tBM X.K T r to t):=by
 intro pins s σ H Q I h
 refine wpAny_Call_method_late hbase hfew hline rfl (Ų (ho pins s σ H _ I h) fun v s1 ⟨x,H1,I1,r1,ty,q1⟩=>?_)
 obtain⟨h1,h2⟩:=Xj I1 r1 ty
 refine⟨T,id,pa,slot,hty,h1,h2,?_⟩
 have hA:=ha cpos pins s1 σ H1 _ I1 q1
 rw[hs] at hA ⊢
 refine Calls.callWith_builtin (by show(false || (backTo cpos (starEach es X.env)).any (·.1))=false;rw[hplain]<;>rfl) (Calls.evalArgs_plain ?_)
 exact Ų hA fun us s2 ⟨vs,H2,I2,r2,q2⟩=>hm pins s2 σ H2 x vs v us Q I2 r1 r2 q2
end
end L2
namespace L2
open PySem PySem.Spec PyProof.Rows
def MtM(X:Cx)(id:String)(r:V→List V→Hp→VK→Prop):Prop:=
 ∀(pins:List (Addr×Obj)) (s:Shared) (σ:St) (H:Hp) (x:V) (xs:List V) (v:Value) (us:List Value) (Q:VK),Inv X pins σ H s→RelV x v→Vals xs us→r x xs H Q→
  wpAny (model X.prog X.w) X.A (call (.builtin id) (v::us)) (EP X pins σ Q) X.xe s
theorem Vals.one:∀{x:V} {us:List Value},Vals [x] us→∃u,us=[u]∧RelV x u
 |_,_,.cons r .nil=>⟨_,rfl,r⟩
section
variable{X:Cx}{pins:List (Addr×Obj)}{σ:St}{H:Hp}{s:Shared}{l b:Addr}{xs ys zs:List V}
theorem Inv.Zcv{its its':List Value}{n:Nat}{f:Array Value→Array Value}{t':Nat}(I:Inv X pins σ H s)(hH:H l=some (.lst xs))
 (e:s.heap.get? l=some {cls:=.type "list",data:=.seq its.toArray n})(hf:f its.toArray=its'.toArray)(hv:Vals ys its')(hz:ys.length≤sizeLine) :
 Inv X pins σ (upd H l (.lst ys)) {s with heap:=s.heap.update l (Obj.mapSeq f),toks:=t'}:=by
 have q:=PySem.IsL.update e f
 rw[hf] at q
 refine I.write (x:=l) (e:=l) (by rw[hH];exact trivial) (.inl rfl) (fun b' u hb hu=>(Heap.get?_update_other s.heap (Obj.mapSeq f) (Ne.symm hb)).trans hu) ⟨_,q⟩ ?_
 exact⟨hz,its',_,hv,q⟩
theorem Inv.Zjv{its:List Value}{t':Nat}(I:Inv X pins σ H s)(hv:Vals ys its)(hz:ys.length≤sizeLine) :
 Inv X pins σ (upd H s.heap.objs.size (.lst ys)) {s with heap:=s.heap.push {cls:=.type "list",data:=.seq its.toArray},toks:=t'}:=
 I.laid (fun _ _ q=>Heap.get?_push_of_some _ q) (Nat.le_refl _) ⟨hz,its,0,hv,Heap.get?_push_size _ rfl⟩
theorem Inv.fresh(I:Inv X pins σ H s):H s.heap.objs.size=none:=I.hok.fresh (Nat.le_refl _)
theorem Inv.Xk(I:Inv X pins σ H s)(hH:H l=some (.lst xs)):xs.length≤sizeLine∧∃(its:List Value) (n:Nat),Vals xs its∧xs.length=its.length∧s.heap.get? l=some {cls:=.type "list",data:=.seq its.toArray n}:=by
 obtain⟨z,its,n,r,e⟩:=I.hok l _ hH
 exact⟨z,its,n,r,r.length,e⟩
theorem Gq{n:Nat}(h:n≤sizeLine):Builtin.List.listTooLong n=false:=by
 unfold Builtin.List.listTooLong
 exact decide_eq_false (by omega)
end
section
variable{X:Cx}
def Ca:V→List V→Hp→VK→Prop:=fun x vs H Q=>∃l xs y,x=.ref l∧vs=[y]∧H l=some (.lst xs)∧xs.length<sizeLine∧Q .non (upd H l (.lst (xs ++ [y])))
theorem bG:MtM X "list.append" Ca:=by
 intro pins s σ H x vs v us Q I rx rv h
 obtain⟨l,xs,y,rfl,rfl,hH,hz,q⟩:=h
 cases rx
 obtain⟨u,rfl,ru⟩:=rv.one
 obtain⟨z,its,n,r,hl,e⟩:=I.Xk hH
 refine call_meets F.slot_list_append ⟨_,e,rfl⟩ F.entry_list_append (F.args_list_append_2 _ _) (PySem.list_append l its.toArray n u (by rw[List.size_toArray];omega)) ⟨e,?_⟩
 refine⟨.non,_,I.Zcv (its':=its ++ [u]) hH e (by simp) (r.append (.cons ru .nil)) ?_,rfl,q⟩
 rw[List.length_append,List.length_singleton]
 omega
def Cd:V→List V→Hp→VK→Prop:=fun x vs H Q=>∃l b xs zs,x=.ref l∧vs=[.ref b]∧H l=some (.lst xs)∧H b=some (.lst zs)∧xs.length+zs.length≤sizeLine∧Q .non (upd H l (.lst (xs++zs)))
theorem qJ:MtM X "list.extend" Cd:=by
 intro pins s σ H x vs v us Q I rx rv h
 obtain⟨l,b,xs,zs,rfl,rfl,hH,hB,hz,q⟩:=h
 cases rx
 obtain⟨u,rfl,ru⟩:=rv.one
 cases ru
 obtain⟨z,its,n,r,hl,e⟩:=I.Xk hH
 obtain⟨z2,its2,n2,r2,hl2,e2⟩:=I.Xk hB
 have hsz:its.toArray.size+its2.toArray.size≤sizeLine:=by rw[List.size_toArray,List.size_toArray];omega
 have Zcw:¬(!its.toArray.isEmpty && Builtin.List.listTooLong (its.toArray.size+its2.toArray.size))=true:=by
  rw[Gq hsz,Bool.and_false]
  exact Bool.false_ne_true
 refine call_meets F.slot_list_extend ⟨_,e,rfl⟩ F.entry_list_extend (F.args_list_extend_2 _ _)
  (AutoSeq1.list_extend_list_list_0 l its.toArray n b its2.toArray n2 Zcw (by rw[List.size_toArray];omega) (by omega)) ⟨e,e2,?_⟩
 refine⟨.non,_,I.Zcv (its':=its++its2) hH e (by simp) (r.append r2) ?_,rfl,q⟩
 rw[List.length_append]
 omega
end
section
variable{prog:Program}{w:World}{A:Around}{E:Value→Shared→Prop}{s:Shared}
end
section
variable{X:Cx}
end
end L2
namespace Att
open PySem PySem.W PySem.Calls PyProof.Rows
theorem lZ{P:Params}{h:Heap}:∀(ns:List Int) (vs:List Value),WellAll P h vs (ns.map WData.int)→IntsAre vs ns:=by
 intro ns
 induction ns with
 |nil=>
  intro vs w
  rw[List.map_nil] at w
  cases w
  exact .nil
 |cons n ns ih=>
  intro vs w
  rw[List.map_cons] at w
  cases w with
  |cons a b=>
   cases a
   exact .cons _ _ (ih _ b)
theorem Eh{l:OpenLaw}{n:Nat}(hn:l.most=some n){P:Params}{h:Heap}{args:List WData}{vals:List Value}
 (hpre:l.row.toRowW.claim.pre args=true)(hwl:WellAll P h vals args) :
 ∃a vs ns,vals=[Value.ref a]∧args=[WData.list (ns.map WData.int)]∧h.get? a=some {cls:=.type "list",data:=.seq vs.toArray}∧IntsAre vs ns∧ns.length≤n:=by
 have hsh:WShape.hasAll [] args [.list .int]=true:=(pre_splitW hpre).1
 have hc:l.pre.holds [] {args:=args}=true:=(pre_splitW hpre).2
 obtain⟨d,r,rfl,h1,h2⟩:=hasAllW_cons hsh
 obtain rfl:=hasAllW_nil h2
 obtain⟨xs,rfl,h3⟩:=hasW_list h1
 obtain⟨ns,rfl⟩:=items_int h3
 have hlen:ns.length≤n:=by
  unfold OpenLaw.pre at hc
  have h4:(WTm.not (.lt (.lit (.int (n:Int))) (.len (.arg 0)))).holds [] {args:=[.list (ns.map .int)]}=true:=by
   have h4:=(holds_andW hc).1
   rw[hn] at h4
   exact h4
  have h5:=condW_of h4 (w_not (w_lt w_lit (w_len_list (w_arg rfl))))
  rw[List.length_map] at h5
  refine Nat.le_of_not_lt fun q=>?_
  have q':(n:Int)<((ns.length:Nat):Int):=by omega
  first
   |(rw[decide_eq_true q'] at h5;exact absurd h5 (by decide))
   |(simp at h5;omega)
 cases hwl with
 |cons w1 w2=>
  cases w2
  cases w1 with
  |list ho hall=>exact⟨_,_,ns,rfl,rfl,ho,lZ ns _ hall,hlen⟩
theorem Ei(l:OpenLaw)(args:List WData):l.row.toRowW.claim.post args (.bool true) args=true:=
 postW_of (r:=l.row.toRowW) (X:=(true== true))
  (show WShape.has [] (.bool true) .bool=true by first|rfl|decide|simp[WShape.has,WShape.arms,WShape.armsAll])
  (show(WTm.eq .res (.lit (.bool true))).value [] {args:=args,res:=some (.bool true),after:=args}=some (.bool (true== true)) from w_eq_bool (w_res rfl) w_lit) rfl
theorem vK{l:OpenLaw}{n:Nat}{q:Program}{loose:List Str}{XP:(Str→Option Value)→Heap→Prop}{YP:World→Heap→Prop}{d:DefRec}
 (hn:l.most=some n)(hdf:d.params.defaults=[])
 (call:∀(w:World) (s₀ s₁:Shared) (mg mb:Str→Option Value) (fa:Addr) (o:Obj) (pm cd doc:Value) (a:Addr) (vs:List Value) (ns:List Int),
   Ground q loose [] XP w s₀ mg mb s₁.heap→YP w s₁.heap→
   s₁.heap.get? fa=some o→o.data=.func (docDef d.name d.params d.body d.scope pm cd doc)→s₁.heap.CodeRec cd d.name→mg d.name=some (.ref fa)→
   s₁.heap.get? a=some {cls:=.type "list",data:=.seq vs.toArray}→IntsAre vs ns→ns.length≤n→s₁.gens= #[]→
   codeAny (model l.prog w) callerA (.call (.ref fa) ⟨[.ref a],[]⟩) (fun r s'=>r=.ok (.ret (.bool true))∧OldK s₁.heap s'.heap∧s'.os=s₁.os∧AllBare s'.gens) s₁) :
 WalkO q loose XP YP l.row.toRowW d [] (fun f vs=>PySem.call f vs):=by
 intro w s₀ s₁ mg mb G Y fa o pm cd doc dV kV ho hd hcd hD hmg hg args vals as hpre hlay hrd hwl hlo
 obtain rfl:dV=.none:=Dflts.none hD hdf
 obtain rfl:kV=.none:=Dflts.noKw hD
 obtain⟨a,vs,ns,rfl,rfl,hobj,hints,hlen⟩:=Eh hn hpre hwl
 refine enter_call (codeAny_mono (call w s₀ s₁ mg mb fa o pm cd doc a vs ns G Y ho (fd_plain hd) hcd hmg hobj hints hlen hg) fun r s' hq=>?_)
 obtain⟨rfl,h2,h3,h4⟩:=hq
 exact⟨.inl ⟨.bool true,.bool true,[],rfl,fun _=>rfl,.bool true,Ei l _,fun _=>⟨List.Pairwise.nil,fun _ hm=>(nomatch hm)⟩⟩,h2,h3,h4⟩
section
variable{prog:Program}{w:World}{A:Around}{E:Value→Shared→Prop}{s:Shared}{K:Frag}
end
end Att
namespace L2
open PySem PySem.Spec PyProof.Rows
theorem aP:∀{vs:List Value} {ns:List Int},IntsAre vs ns→Vals (ns.map V.int) vs
 |_,_,.nil=>.nil
 |_,_,.cons n t h=>.cons ⟨t,rfl⟩ (aP h)
def Only(H:Hp):Prop:=∀b,H b=none∨∃o xs,H b=some (.dD o (.lst xs))
theorem Gs{P:Program}{w:World}{K:PySem.W.Frag}{mg mb:Str→Option Value}{CX:pZ}{k:Nat}{fa a:Addr}{fd:FuncData}{x:Str}{sp:Sp}{s₁:Shared}{vs:List Value}{ns:List Int}
 (KX:K.In s₁.heap)(hns:s₁.heap.Ns mainGlobals mg)(hb:s₁.heap.Ns builtinsNs mb)(hbb:∀x:Str,x≠ "__name__" →mb x=bootBuiltins x)(hlim:s₁.heap.NoLimit)(hg:s₁.gens= #[])
 (ha:s₁.heap.get? a=some {cls:=.type "list",data:=.seq vs.toArray})(hi:IntsAre vs ns)(hl:ns.length≤sizeLine)(hr:bM k callerA)
 (F:∀base:Heap,K.In base→base.Ns mainGlobals mg→Ķ P w K mg base CX k fa fd [x] sp)(hbind:∀(s:Shared) (u:Value),BindsTo s fd ⟨[u],[]⟩ [(x,u)])
 (hsp:∀H:Hp,Only H→aG K H a (ns.map V.int)→sp [.ref a] H (fun v _=>v=.bl true) fun _ _ _=>False)
 (hCX:∀H e s',CX [] H s₁ (fun _ _ _=>False) e s'→False) :
 codeAny (model P w) callerA (.call (.ref fa) ⟨[.ref a],[]⟩) (fun r s'=>r=.ok (.ret (.bool true))∧OldK s₁.heap s'.heap∧s'.os=s₁.os∧AllBare s'.gens) s₁:= by
 have rv:=aP hi
 have lenV:=hi.length
 -- from an abstract heap in which nothing but the script may be tracked
 have core:∀H:Hp,Only H→aG K H a (ns.map V.int)→iG P w H s₁.heap→(∀b,H b≠none→b=a)→(H a≠none→K.lookup a=none)→
  codeAny (model P w) callerA (.call (.ref fa) ⟨[.ref a],[]⟩) (fun r s'=>r=.ok (.ret (.bool true))∧OldK s₁.heap s'.heap∧s'.os=s₁.os∧AllBare s'.gens) s₁:= by
  intro H hO hS hok hA hK
  have Ce:∀{b:Addr} {o:Obj},s₁.heap.get? b=some o→H b=none→(sY s₁.heap H).get? b=some o:=fun e n=>FP e n
  have noA:∀{b:Addr} {o:Obj} {es:Array DictEntry} {ep:Nat},s₁.heap.get? b=some o→o.data=.dict es ep→H b=none:=fun{b o es ep} e d=>by
   cases q:H b with
   |none=>rfl
   |some u=>
    have e':b=a:=hA b (by rw[q];simp)
    subst e'
    rw[ha] at e;cases e
    have d':Data.seq vs.toArray _=Data.dict es ep:=d
    cases d'
  have nsK:∀{b:Addr} {m:Str→Option Value},s₁.heap.Ns b m→(sY s₁.heap H).Ns b m:=fun{b m} ⟨o,es,ep,e,d,r⟩=>⟨o,es,ep,Ce e (noA e d),d,r⟩
  have hKb:K.In (sY s₁.heap H):=fun b o e=>Ce (KX b o e) (by
   cases q:H b with
   |none=>rfl
   |some u=>
    have e':b=a:=hA b (by rw[q];simp)
    subst e'
    rw[hK (by rw[q];simp)] at e;cases e)
  have hM:Mod K mg (sY s₁.heap H):=⟨hKb,nsK hns,⟨mb,nsK hb,hbb⟩,let ⟨mc,h1,h2⟩:=hlim;⟨mc,nsK h1,h2⟩⟩
  have e0:zq P w K mg (sY s₁.heap H) callerA [] s₁ H:=⟨rfl,hM,fun b o e=>Qk e,Nat.le_of_eq (DK _ _),trivial,fun b hb=>absurd (show b∈([]:List Addr) from hb) (by simp),hok,.of_eq hg⟩
  refine codeAny_mono ((F _ hKb (nsK hns)).run callerA [] s₁ H ⟨[.ref a],[]⟩ [.ref a] [.ref a] _ _ hr e0 (hbind s₁ (.ref a)) (.cons rfl .nil) (hsp H hO hS)) fun r s' h=>?_
  cases r with
  |error e=>exact(hCX H e s' h).elim
  |ok fl=>
   cases fl with
   |next=>exact False.elim h
   |brk=>exact False.elim h
   |cont=>exact False.elim h
   |ret u=>
    obtain⟨v,H',os,bare,un,hok',r',q⟩:=h
    have q':v=.bl true:=q
    subst q'
    obtain rfl:u=Value.bool true:=r'
    refine⟨rfl,OldK.of_keep fun b o e=>?_,os,bare⟩
    cases q:H b with
    |none=>exact un.keep b o e q (by intro z;exact absurd (show b∈([]:List Addr) from z) (by simp)) (by simp)
    |some u=>
     rcases hO b with z|⟨ob,xs,z⟩
     ·rw[q] at z;cases z
     ·have z2:=un.jm b ob _ z
      obtain⟨e1,_⟩:=hok b _ z
      obtain⟨e2,_⟩:=hok' b _ z2
      rw[e] at e1;cases e1
      exact e2
 cases hk:K.lookup a with
 |some o=>
  -- the script is one of the module's own objects
  have e:=KX a o hk
  rw[ha] at e
  cases e
  refine core (fun _=>none) (fun _=>.inl rfl) (.inr ⟨_,vs.toArray,_,hk,rfl,rfl,rfl,by rw[List.size_toArray,lenV];exact hl,by simpa using rv⟩) (fun b u z=>by have z':(none:Option HO)=some u:=z;cases z') (fun b z=>absurd rfl z) fun z=>absurd rfl z
 |none=>
  refine core (fun b=>if b=a then some (.dD {cls:=.type "list",data:=.seq vs.toArray} (.lst (ns.map V.int))) else none) (fun b=>?_) (.inl (.inr ⟨{cls:=.type "list",data:=.seq vs.toArray},if_pos rfl⟩)) (fun b u z=>?_) (fun b z=>?_) fun _=>hk
  ·by_cases hb:b=a
   ·exact .inr ⟨_,_,if_pos hb⟩
   ·exact .inl (if_neg hb)
  ·by_cases hb:b=a
   ·have z':=(if_pos hb).symm.trans z
    cases z'
    subst hb
    exact⟨ha,by rw[List.length_map];exact hl,vs,_,rv,ha⟩
   ·have z':=(if_neg hb).symm.trans z
    cases z'
  ·by_cases hb:b=a
   ·exact hb
   ·exact absurd (if_neg hb) z
end L2
namespace L2
open PySem PySem.Spec PyProof.Rows
theorem QJ{l:PySem.W.OpenLaw}{n k:Nat}{q:Program}{loose:List Str}{XP:(Str→Option Value)→Heap→Prop}{YP:World→Heap→Prop}{d:DefRec}{K:Params→PySem.W.Frag}{CX:World→pZ}{sp:World→Sp}{x:Str}
 (hn:l.most=some n)(hn2:n≤sizeLine)(hdf:d.params.defaults=[])(hr:bM k callerA)
 (hY:∀(w:World) (h:Heap),YP w h→(K w.params).In h)
 (F:∀(w:World) (mg:Str→Option Value) (fa:Addr) (h:Heap),(K w.params).In h→h.Ns mainGlobals mg→mg d.name=some (.ref fa)→
   ∃fd:FuncData,(∀(s:Shared) (u:Value),BindsTo s fd ⟨[u],[]⟩ [(x,u)])∧
    ∀base:Heap,(K w.params).In base→base.Ns mainGlobals mg→Ķ l.prog w (K w.params) mg base (CX w) k fa fd [x] (sp w))
 (hsp:∀(w:World) (H:Hp) (a:Addr) (ns:List Int),ns.length≤n→Only H→aG (K w.params) H a (ns.map V.int)→sp w [.ref a] H (fun v _=>v=.bl true) fun _ _ _=>False)
 (hCX:∀(w:World) (H:Hp) (s:Shared) (e:Value) (s':Shared),CX w [] H s (fun _ _ _=>False) e s'→False) :
 PySem.W.WalkO q loose XP YP l.row.toRowW d [] (fun f vs=>PySem.call f vs):=by
 refine Att.vK hn hdf fun w s₀ s₁ mg mb fa o pm cd doc a vs ns G Y ho hd hcd hmg hobj hints hlen hg=>?_
 have KX:=hY w _ Y
 obtain⟨fd,hb,hF⟩:=F w mg fa _ KX G.T.g hmg
 exact Gs KX G.T.g G.T.b G.T.builtins G.T.nolimit hg hobj hints (Nat.le_trans hlen hn2) hr hF hb (fun H hO hS=>hsp w H a ns hlen hO hS) fun H e s'=>hCX w H s₁ e s'
end L2
namespace L2
open PySem PySem.Spec PyProof.Rows
def inClass(s:Stmt)(j:Nat):Stmt:=match s with
 | .ClassDef _ _ _ body _ _ _ _ _ _ _=>body.getD j (.Pass ⟨0,0,0,0⟩)
 |_=>.Pass ⟨0,0,0,0⟩
def gQ(s:Stmt):Arguments:=match s with
 | .FunctionDef _ a _ _ _ _ _ _ _ _=>a
 |_=> {posonlyargs:=[],args:=[],vararg:=none,kwonlyargs:=[],kw_defaults:=[],kwarg:=none,defaults:=[]}
def cB(s:Stmt):List Stmt:=match s with
 | .FunctionDef _ _ b _ _ _ _ _ _ _=>b
 |_=>[]
def Ċ(s:Stmt):Scope:=match s with
 | .FunctionDef _ _ _ _ _ _ sc _ _ _=>sc
 |_=> {kind:=.function,names:=[],isGenerator:=false,isCoroutine:=false}
structure aj(K:PySem.W.Frag)(x qual:Str)(st:Stmt)(f:Addr)(fd:FuncData):Prop where
 ex:∃(oc:Value) (od:Option Addr) (kV doc pm:Value) (an:Option Addr) (cdv ct:Value) (osl:Array (Option Value)),
   fd=PySem.W.fnOf x qual (gQ st) (cB st) (Ċ st) .none kV doc pm an cdv ct∧K.lookup f=some ⟨oc,od,.func fd,osl⟩∧PySem.W.codeIn K cdv qual=true
 kp:PySem.W.keepIn K (.ref f)=true
section
variable{P:Program}{w:World}{K:PySem.W.Frag}{mg:Str→Option Value}{base:Heap}
theorem aj.binds{x qual:Str}{st:Stmt}{f:Addr}{fd:FuncData}{ps:List Str}(F:aj K x qual st f fd)
 (h:∀(kV doc pm:Value) (an:Option Addr) (cdv ct:Value) (us:List Value),us.length=ps.length→bindArgs (PySem.W.fnOf x qual (gQ st) (cB st) (Ċ st) .none kV doc pm an cdv ct) ⟨us,[]⟩=pure (ps.zip us)):Binds K fd ps []:=by
 obtain⟨oc,od,kV,doc,pm,an,cdv,ct,osl,rfl,lk,hcd⟩:=F.ex
 exact .all (h kV doc pm an cdv ct)
theorem Ĩ{x qual:Str}{st:Stmt}{f:Addr}{oc:Value}{od an:Option Addr}{osl:Array (Option Value)}{kV doc pm cdv ct:Value}(l:K.lookup f=some ⟨oc,od,.func (PySem.W.fnOf x qual (gQ st) (cB st) (Ċ st) .none kV doc pm an cdv ct),osl⟩)
 (c:PySem.W.codeIn K cdv qual=true)(k:PySem.W.keepIn K (.ref f)=true):aj K x qual st f (PySem.W.fnOf x qual (gQ st) (cB st) (Ċ st) .none kV doc pm an cdv ct):=⟨⟨oc,od,kV,doc,pm,an,cdv,ct,osl,rfl,l,c⟩,k⟩
end
section
variable{X:Cx}
theorem pv(i:Nat){x:Str}{pos:Pos}(hN:X.N[i]?=some x:=by rfl)(hv:DN X.env.scope x:=by first|exact Or.inl rfl|exact Or.inr (Or.inl rfl)|exact Or.inr (Or.inr rfl))(hd:(x== ("__debug__" :Str))=false:=by decide)
 (hcd:(x== ("__classdict__" :Str))=false:=by decide):PE X (.Name x pos) (yP i):=eE hN hv hd hcd
end
def Same(H H':Hp):Prop:=∀b o,H b=some o→H' b=some o
theorem Same.refl(H:Hp):Same H H:=fun _ _ h=>h
theorem Same.trans{H H1 H2:Hp}(a:Same H H1)(b:Same H1 H2):Same H H2:=fun c o h=>b c o (a c o h)
theorem Same.free{H H':Hp}(e:Same H H'){l:Addr}(h:H' l=Option.none):H l=Option.none:=by
 cases q:H l with
 |none=>rfl
 |some o=>
  rw[e l o q] at h
  cases h
theorem Same.seq{K:PySem.W.Frag}{H H':Hp}{a:Addr}{xs:List V}(e:Same H H')(h:aG K H a xs):aG K H' a xs:=by
 rcases h with(h|⟨o,h⟩)|h
 ·exact .inl (.inl (e _ _ h))
 ·exact .inl (.inr ⟨o,e _ _ h⟩)
 ·exact .inr h
end L2
namespace M2
open PySem PySem.Spec PyProof.Rows L2
section
variable{X:Cx}{a b c e:Expr}{ta tb tc te:TE}{pos:Pos}
theorem PE.wk{t t':TE}(h:PE X e t)(i:∀σ H Q,t' σ H Q→t σ H Q):PE X e t':=fun pins s σ H Q I q=>h pins s σ H Q I (i σ H Q q)
theorem PS.wk{st:Stmt}{t t':TS}(h:PS X st t)(i:∀D σ H,t' D σ H→t D σ H):PS X st t':=fun pins s σ H D I q=>h pins s σ H D I (i D σ H q)
theorem aC.wk{f:Value→Value→Sem Value}{r r':R2}(h:aC X f r)(i:∀x y H Q,r' x y H Q→r x y H Q):aC X f r':=fun pins s σ H x y v u Q I rx ry q=>h pins s σ H x y v u Q I rx ry (i x y H Q q)
theorem Qv.wk{f:Value→Sem Value}{r r':V→Hp→VK→Prop}(h:Qv X f r)(i:∀x H Q,r' x H Q→r x H Q):Qv X f r':=fun pins s σ H x v Q I rx q=>h pins s σ H x v Q I rx (i x H Q q)
theorem Ŭ.wk{f:Value}{r r':List V→Hp→VK→Prop}(h:Ŭ X f r)(i:∀xs H Q,r' xs H Q→r xs H Q):Ŭ X f r':=fun pins s σ H xs us Q I r q=>h pins s σ H xs us Q I r (i xs H Q q)
theorem zu.wk{r r':R2}(h:zu X r)(i:∀x y H Q,r' x y H Q→r x y H Q):zu X r':=fun va sl pins s σ H x y v u Q I rx ry q=>h va sl pins s σ H x y v u Q I rx ry (i x y H Q q)
theorem BX.wk{r r':V→Option Int→Option Int→Hp→VK→Prop}(h:BX X r)(i:∀x lo hi H Q,r' x lo hi H Q→r x lo hi H Q):BX X r':=fun pins s σ H x v vl vu lo hi sl Q I rx hs pl pu q=>h pins s σ H x v vl vu lo hi sl Q I rx hs pl pu (i x lo hi H Q q)
def Xl(i:Nat):TE:=fun σ H Q=>match σ[i]? with
 |some (some v)=>Q v H
 |_=>False
theorem QK{i:Nat}{σ:L2.St}{H:Hp}{Q:VK}(h:Xl i σ H Q):yP i σ H Q:=by
 unfold Xl at h
 split at h
 ·exact⟨_,by assumption,h⟩
 ·exact h.elim
theorem mv(i:Nat){x:Str}{pos:Pos}(hN:X.N[i]?=some x:=by rfl)(hv:DN X.env.scope x:=by first|exact Or.inl rfl|exact Or.inr (Or.inl rfl)|exact Or.inr (Or.inr rfl))(hd:(x== ("__debug__" :Str))=false:=by decide)
 (hcd:(x== ("__classdict__" :Str))=false:=by decide):PE X (.Name x pos) (Xl i):=PE.wk (eE hN hv hd hcd) fun _ _ _ h=>QK h
def bOf(x:V)(k:Bool→Prop):Prop:=match x with
 | .bl c=>k c
 |_=>False
theorem tK{x:V}{k:Bool→Prop}(h:bOf x k):∃c,x=.bl c∧k c:=by
 cases x with
 |bl c=>exact⟨c,rfl,h⟩
 |_=>exact h.elim
def Tw(t:TE):TT:=fun σ H Q=>t σ H fun x H1=>bOf x fun c=>Q c H1
theorem Xm{op:CmpOp}{r:R2}(ho:aC X (compareOp op) r)(ha:PE X a ta)(hb:PE X b tb)(hm:behindInMarks op b=false):PT X (.Compare a [op] [b] pos) (Tw (tOp r ta tb)):=by
 intro pins s σ H Q I h
 refine wpAny_isTrue_Compare1 (Ų (ha pins s σ H _ I h) fun v s1 ⟨x,H1,I1,r1,q1⟩=>Ų (hb pins s1 σ H1 _ I1 q1) fun u s2 ⟨y,H2,I2,r2,q2⟩=>
  Ų (ho pins s2 σ H2 x y v u _ I2 r1 r2 q2) fun c s3 ⟨z,H3,I3,r3,q3⟩=>?_) hm
 obtain⟨k,e,q3⟩:=tK q3
 subst e
 cases r3
 exact wpAny_truthy_bool ⟨H3,I3,q3⟩
def Gu(r r':R2)(ta tb tc:TE):TE:=fun σ H Q=>ta σ H fun x H1=>tb σ H1 fun y H2=>r x y H2 fun z H3=>bOf z fun k=>
 (if k=true then tc σ H3 fun w' H4=>r' y w' H4 Q else Q (.bl false) H3)
theorem Gv{op op':CmpOp}{r r':R2}(ho:aC X (compareOp op) r)(ho':aC X (compareOp op') r')(ha:PE X a ta)(hb:PE X b tb)(hc:PE X c tc)
 (hm:lastMarks [op,op'] [b,c]=false:=by with_unfolding_all rfl):PE X (.Compare a [op,op'] [b,c] pos) (Gu r r' ta tb tc):=by
 intro pins s σ H Q I h
 refine Compare_chain (Ų (ha pins s σ H _ I h) fun v s1 ⟨x,H1,I1,r1,q1⟩=>chain_link (Ų (hb pins s1 σ H1 _ I1 q1) fun u s2 ⟨y,H2,I2,r2,q2⟩=>
  Ų (ho pins s2 σ H2 x y v u _ I2 r1 r2 q2) fun d s3 ⟨z,H3,I3,r3,q3⟩=>?_)) hm
 obtain⟨k,e,q3⟩:=tK q3
 subst e
 cases r3
 refine wpAny_truthy_bool ?_
 cases k with
 |false=>exact ite_ff ⟨.bl false,H3,I3,rfl,q3⟩
 |true=>exact ite_tt (chain_last (Ų (hc pins s3 σ H3 _ I3 q3) fun w' s4 ⟨z',H4,I4,r4,q4⟩=>ho' pins s4 σ H4 y z' u w' Q I4 r2 r4 q4))
def Zcx(ta tb:TE):TE:=fun σ H Q=>ta σ H fun x H1=>bOf x fun c=>if c=true then tb σ H1 Q else Q (.bl false) H1
def Zcy(ta:TE):TE:=fun σ H Q=>ta σ H fun x H1=>bOf x fun c=>Q (.bl (!c)) H1
variable{rest:List Expr}
theorem Xn(ha:PE X a ta)(hb:PE X (.BoolOp .And (b::rest) pos) tb):PE X (.BoolOp .And (a::b::rest) pos) (Zcx ta tb):=by
 intro pins s σ H Q I h
 refine BoolOp_and (Ų (ha pins s σ H _ I h) fun v s1 ⟨x,H1,I1,r1,q1⟩=>?_)
 obtain⟨c,rfl,q1⟩:=tK q1
 cases r1
 refine wpAny_truthy_bool ?_
 cases c with
 |true=>exact hb pins s1 σ H1 Q I1 q1
 |false=>exact⟨.bl false,H1,I1,rfl,q1⟩
theorem Xo(ha:PE X a ta):PE X (.UnaryOp .Not a pos) (Zcy ta):=by
 intro pins s σ H Q I h
 refine UnaryOp_ (Ų (ha pins s σ H _ I h) fun v s1 ⟨x,H1,I1,r1,q1⟩=>?_)
 obtain⟨c,rfl,q1⟩:=tK q1
 cases r1
 exact not_of (wpAny_truthy_bool ⟨.bl (!c),H1,I1,rfl,q1⟩)
def mI(C:Int→Int→Prop)(g:Int→Int→V):R2:=fun x y H Q=>match x,y with
 | .int i,.int j=>C i j∧Q (g i j) H
 |_,_=>False
def zy(g:Int→Int→V):R2:=fun x y H Q=>match x,y with
 | .int i,.int j=>Q (g i j) H
 |_,_=>False
theorem qK{C:Int→Int→Prop}{g:Int→Int→V}(x y:V)(H:Hp)(Q:VK)(h:mI C g x y H Q):rI C g x y H Q:=by
 cases x with
 |int i=>
  cases y with
  |int j=>exact⟨i,j,rfl,rfl,h.1,h.2⟩
  |_=>exact h.elim
 |_=>exact h.elim
theorem jU{g:Int→Int→V}(x y:V)(H:Hp)(Q:VK)(h:zy g x y H Q):Qa g x y H Q:=by
 cases x with
 |int i=>
  cases y with
  |int j=>exact⟨i,j,rfl,rfl,h⟩
  |_=>exact h.elim
 |_=>exact h.elim
def Zcz:R2:=fun x y H Q=>match x,y with
 | .int i,.int j=>Q (.int (i+j)) H
 | .str i,.str j=>i.length+j.length≤sizeLine∧Q (.str (i++j)) H
 |_,_=>False
theorem Xp:aC X (binaryOp .Add) Zcz:=aC.wk (WL.or yZ) fun x y H Q h=>by
 cases x with
 |int i=>
  cases y with
  |int j=>exact .inl ⟨i,j,rfl,rfl,h⟩
  |_=>exact h.elim
 |str i=>
  cases y with
  |str j=>exact .inr ⟨i,j,rfl,rfl,h.1,h.2⟩
  |_=>exact h.elim
 |_=>exact h.elim
theorem Ő:aC X (binaryOp .Sub) (zy fun i j=>.int (i-j)):=aC.wk WM jU
def qL(i j:Int):Prop:=WK i j∨(Builtin.Int.intBits i≤1048576∧Builtin.Int.intBits j≤1048576)
theorem qL.ok{i j:Int}(h:qL i j):IntMulOk i j:=by
 rcases h with h|⟨h1,h2⟩
 ·exact h.ok
 ·exact IntMulOk.of_le h1 h2 (by decide)
theorem Xq:aC X (binaryOp .Mult) (mI qL fun i j=>.int (i*j)):=aC.wk (BW (C:=qL) (g:=fun i j=>i*j) fun _ _ _ _ _ _ _ hc q=>mul_int q hc.ok) qK
def Ej(_ j:Int):Prop:=j≠0∧Builtin.Int.intBits j≤8000
theorem Ej.py{i j:Int}(h:Ej i j):Builtin.divisionGoesByPylong i j=false:=by
 refine PyProof.noPylong_of_log2 ?_
 have hb:=intBits_le_iff.mp h.2
 have h0:j.natAbs≠0:=by have:=h.1;omega
 exact Nat.lt_of_lt_of_le ((Nat.log2_lt h0).mpr hb) (by decide)
theorem Ť:aC X (binaryOp .FloorDiv) (mI Ej fun i j=>.int (i.fdiv j)):=aC.wk (BW (C:=Ej) (g:=fun i j=>i.fdiv j) fun _ _ _ _ _ _ _ hc q=>floordiv_int hc.1 q (.inl hc.py)) qK
theorem ō:aC X (binaryOp .Mod) (mI (fun _ j=>j≠0) fun i j=>.int (i.fmod j)):=aC.wk Qx qK
theorem tM:aC X (binaryOp .Pow) (mI DY fun i j=>.int (i ^ j.toNat)):=aC.wk WQ qK
theorem jq:aC X (compareOp .Lt) (zy fun i j=>.bl (decide (i<j))):=aC.wk Zcl jU
theorem jr:aC X (compareOp .LtE) (zy fun i j=>.bl (decide (i≤j))):=aC.wk Zcm jU
theorem Tz:aC X (compareOp .Gt) (zy fun i j=>.bl (decide (j<i))):=aC.wk Zcn jU
theorem TF:aC X (compareOp .GtE) (zy fun i j=>.bl (decide (j≤i))):=aC.wk Zco jU
def mU(g:Int→V):V→Hp→VK→Prop:=fun x H Q=>match x with
 | .int i=>Q (g i) H
 |_=>False
theorem fY:Qv X (unaryOp .USub) (mU fun i=>.int (-i)):=Qv.wk WX fun x H Q h=>by
 cases x with
 |int i=>exact⟨i,rfl,h⟩
 |_=>exact h.elim
def mAbs:List V→Hp→VK→Prop:=fun xs H Q=>match xs with
 | [.int i]=>Q (.int (if i<0 then -i else i)) H
 |_=>False
theorem Gw:Ŭ X (.builtin "abs") mAbs:=Ŭ.wk Gi fun xs H Q h=>by
 unfold mAbs at h
 split at h
 ·exact⟨_,rfl,h⟩
 ·exact h.elim
def Gx:List V→Hp→VK→Prop:=fun xs H Q=>match xs with
 | [.int i,.int j]=>Q (.int (if j<i then j else i)) H
 |_=>False
theorem tQ(hc:X.calm=true):Ŭ X (.builtin "min") Gx:=Ŭ.wk (Ea hc) fun xs H Q h=>by
 unfold Gx at h
 split at h
 ·exact⟨_,_,rfl,h⟩
 ·exact h.elim
def Gy:List V→Hp→VK→Prop:=fun xs H Q=>match xs with
 | [.int i,.int j]=>Q (.int (if j>i then j else i)) H
 |_=>False
theorem QL(hc:X.calm=true):Ŭ X (.builtin "max") Gy:=Ŭ.wk (D_ hc) fun xs H Q h=>by
 unfold Gy at h
 split at h
 ·exact⟨_,_,rfl,h⟩
 ·exact h.elim
def Xr(K:PySem.W.Frag):List V→Hp→VK→Prop:=fun xs H Q=>match xs with
 | [.str y]=>y.length≤sizeLine∧Q (.int (y.length:Int)) H
 | [.ref p]=>∃ys,(aG K H p ys∨dF K H p ys)∧Q (.int (ys.length:Int)) H
 |_=>False
theorem aD:Ŭ X (.builtin "len") (Xr X.K):=Ŭ.wk Gj fun xs H Q h=>by
 unfold Xr at h
 split at h
 ·exact⟨_,_,rfl,⟨h.1,rfl⟩,h.2⟩
 ·obtain⟨ys,h1,h2⟩:=h
  refine⟨_,ys.length,rfl,?_,h2⟩
  rcases h1 with h1|h1
  ·exact .inl ⟨ys,h1,rfl⟩
  ·exact .inr ⟨ys,h1,rfl⟩
 ·exact h.elim
def mIx(K:PySem.W.Frag):R2:=fun x y H Q=>match x,y with
 | .ref p,.int i=>∃xs v,(aG K H p xs∨dF K H p xs)∧tu xs i=some v∧Q v H
 | .str z,.int i=>∃c,z.length≤sizeLine∧tu z.cps.toList i=some c∧Q (.str ⟨#[c]⟩) H
 |_,_=>False
theorem č:zu X (mIx X.K):=zu.wk Xh fun x y H Q h=>by
 cases x with
 |ref p=>
  cases y with
  |int i=>
   obtain⟨xs,v,h1,h2,h3⟩:=h
   rcases h1 with h1|h1
   ·exact .inl ⟨p,xs,i,v,rfl,rfl,h1,h2,h3⟩
   ·exact .inr (.inl ⟨p,xs,i,v,rfl,rfl,h1,h2,h3⟩)
  |_=>exact h.elim
 |str z=>
  cases y with
  |int i=>
   obtain⟨c,h1,h2,h3⟩:=h
   exact .inr (.inr ⟨z,i,c,rfl,rfl,h1,h2,h3⟩)
  |_=>exact h.elim
 |_=>exact h.elim
def iOf(x:V)(k:Int→Prop):Prop:=match x with
 | .int i=>k i
 |_=>False
def ZcA(t:TE):TO:=fun σ H Q=>t σ H fun x H1=>iOf x fun i=>Q (some i) H1
theorem Gz(h:PE X e te):PO X (some e) (ZcA te):=by
 intro pins s σ H Q I hw
 rw[evalPart_some]
 refine Ų (h pins s σ H _ I hw) fun u s1 ⟨x,H1,I1,r1,q1⟩=>?_
 cases x with
 |int i=>
  obtain⟨t,rfl⟩:=r1
  exact⟨some i,H1,I1,.int i t,q1⟩
 |_=>exact q1.elim
def Zjw(K:PySem.W.Frag):V→Option Int→Option Int→Hp→VK→Prop:=fun x lo hi H Q=>match x with
 | .ref a=>∃xs,aG K H a xs∧∀p,H p=none→Q (.ref p) (upd H p (.lst (vI xs lo hi)))
 |_=>False
theorem GC:BX X (Zjw X.K):=BX.wk QH fun x lo hi H Q h=>by
 cases x with
 |ref a=>
  obtain⟨xs,h1,h2⟩:=h
  exact⟨a,xs,rfl,h1,h2⟩
 |_=>exact h.elim
end
end M2
namespace M2
open PySem PySem.Spec PyProof.Rows L2
section
variable{X:Cx}{tg:Expr}
end
mutual
def Rp(K:PySem.W.Frag)(H:Hp):PyData→V→Prop
 | .none,v=>v=.non
 | .bool b,v=>v=.bl b
 | .int i,v=>v=.int i
 | .str x,v=>v=.str x
 | .tuple ds,v=>∃a xs,v=.ref a∧dF K H a xs∧jV K H ds xs
 | .list ds,v=>∃a xs,v=.ref a∧aG K H a xs∧jV K H ds xs
 | .dict _,_=>False
def jV(K:PySem.W.Frag)(H:Hp):List PyData→List V→Prop
 | [],xs=>xs=[]
 |d::ds,xs=>∃x r,xs=x::r∧Rp K H d x∧jV K H ds r
end
theorem Same.tup{K:PySem.W.Frag}{H H':Hp}{a:Addr}{xs:List V}(e:Same H H')(h:dF K H a xs):dF K H' a xs:=by
 rcases h with(h|⟨o,h⟩)|h
 ·exact .inl (.inl (e _ _ h))
 ·exact .inl (.inr ⟨o,e _ _ h⟩)
 ·exact .inr h
theorem Same.upd{H:Hp}{p:Addr}{o:HO}(h:H p=none):Same H (upd H p o):=fun b u e=>by
 rw[į (Ŕ e h)]
 exact e
mutual
theorem Rp.same{K:PySem.W.Frag}{H H':Hp}(e:Same H H'):∀(d:PyData) (v:V),Rp K H d v→Rp K H' d v
 | .none,_,h=>by unfold Rp at h ⊢;exact h
 | .bool _,_,h=>by unfold Rp at h ⊢;exact h
 | .int _,_,h=>by unfold Rp at h ⊢;exact h
 | .str _,_,h=>by unfold Rp at h ⊢;exact h
 | .tuple ds,_,h=>by
   unfold Rp at h ⊢
   obtain⟨a,xs,h1,h2,h3⟩:=h
   exact⟨a,xs,h1,Same.tup e h2,jV.same e ds xs h3⟩
 | .list ds,_,h=>by
   unfold Rp at h ⊢
   obtain⟨a,xs,h1,h2,h3⟩:=h
   exact⟨a,xs,h1,e.seq h2,jV.same e ds xs h3⟩
 | .dict _,_,h=>by unfold Rp at h;exact h.elim
theorem jV.same{K:PySem.W.Frag}{H H':Hp}(e:Same H H'):∀(ds:List PyData) (xs:List V),jV K H ds xs→jV K H' ds xs
 | [],_,h=>by unfold jV at h ⊢;exact h
 |d::ds,_,h=>by
  unfold jV at h ⊢
  obtain⟨x,r,h1,h2,h3⟩:=h
  exact⟨x,r,h1,Rp.same e d x h2,jV.same e ds r h3⟩
end
section
variable{X:Cx}{pins:List (Addr×Obj)}{σ:L2.St}{H:Hp}{s:Shared}
mutual
theorem Rp.reads(I:Inv X pins σ H s):∀(d:PyData) (v:V) (u:Value),Rp X.K H d v→RelV v u→∃as,Reads s.heap u d as
 | .none,v,u,h,r=>by
   unfold Rp at h;subst h;cases r;exact⟨_,.none⟩
 | .bool b,v,u,h,r=>by
   unfold Rp at h;subst h;cases r;exact⟨_,.bool b⟩
 | .int i,v,u,h,r=>by
   unfold Rp at h;subst h;obtain⟨t,rfl⟩:=r;exact⟨_,.int i t⟩
 | .str x,v,u,h,r=>by
   unfold Rp at h;subst h;obtain⟨t,rfl⟩:=r;exact⟨_,.str x t⟩
 | .tuple ds,v,u,h,r=>by
   unfold Rp at h
   obtain⟨a,xs,h1,h2,h3⟩:=h
   subst h1
   cases r
   obtain⟨its,rv,⟨o,e,hc,n,hd⟩,hz⟩:=I.tuple h2
   obtain⟨as,ra⟩:=jV.reads I ds xs its h3 rv
   exact⟨_,.tuple e hc hd (by simpa using ra)⟩
 | .list ds,v,u,h,r=>by
   unfold Rp at h
   obtain⟨a,xs,h1,h2,h3⟩:=h
   subst h1
   cases r
   obtain⟨its,rv,⟨o,n,e,hc,hdd,hd⟩,hz⟩:=I.list h2
   obtain⟨as,ra⟩:=jV.reads I ds xs its h3 rv
   exact⟨_,.list e hc hd (by simpa using ra)⟩
 | .dict _,_,_,h,_=>by unfold Rp at h;exact h.elim
theorem jV.reads(I:Inv X pins σ H s):∀(ds:List PyData) (xs:List V) (us:List Value),jV X.K H ds xs→Vals xs us→∃as,ReadsAll s.heap us ds as
 | [],xs,us,h,r=>by
   unfold jV at h;subst h;cases r;exact⟨_,.nil⟩
 |d::ds,xs,us,h,r=>by
  unfold jV at h
  obtain⟨x,q,h1,h2,h3⟩:=h
  subst h1
  cases r with
  |cons r1 r2=>
   obtain⟨as,ra⟩:=Rp.reads I d x _ h2 r1
   obtain⟨bs,rb⟩:=jV.reads I ds q _ h3 r2
   exact⟨_,.cons ra rb⟩
end
end
def QM(K:PySem.W.Frag)(neg:Bool):R2:=fun x y H Q=>∃d e,Rp K H d x∧Rp K H e y∧d.canLay0=true∧e.canLay0=true∧min d.depth e.depth≤60∧Q (.bl (if neg then !PyData.eqv d e else PyData.eqv d e)) H
section
variable{X:Cx}
theorem ŋ(hu:X.A.units+64<cLine):aC X (compareOp .Eq) (QM X.K false):=by
 intro pins s σ H x y v u Q I rx ry h
 obtain⟨d,e,h1,h2,h3,h4,h5,q⟩:=h
 obtain⟨as,ra⟩:=Rp.reads I d x v h1 rx
 obtain⟨bs,rb⟩:=Rp.reads I e y u h2 ry
 exact SeqAt.compareEq_reads ra rb h3 h4 (by omega) ⟨.bl _,H,I,rfl,q⟩
theorem aH(hu:X.A.units+64<cLine):aC X (compareOp .NotEq) (QM X.K true):=by
 intro pins s σ H x y v u Q I rx ry h
 obtain⟨d,e,h1,h2,h3,h4,h5,q⟩:=h
 obtain⟨as,ra⟩:=Rp.reads I d x v h1 rx
 obtain⟨bs,rb⟩:=Rp.reads I e y u h2 ry
 exact SeqAt.compareNe_reads ra rb h3 h4 (by omega) ⟨.bl _,H,I,rfl,q⟩
end
section
variable{K:PySem.W.Frag}
end
end M2
namespace M3
open PySem PySem.Spec PyProof.Rows L2 M2
theorem Cg{P:Program}{w:World}{H:Hp}{h h':Heap}{C:Addr}(x:iG P w H h)(hC:H C=none)(k:∀b u,b≠C→h.get? b=some u→h'.get? b=some u):iG P w H h':=fun a o e=>
 (x a o e).stay (fun b u hb q=>k b u (by
   rcases hb with hb|hb
   ·rw[hb];exact Ŕ e hC
   ·exact Ŕ hb hC) q) (fun _ q=>q) fun _ _ q=>q
theorem jc{env:Env}:∀(ns:List (Str×NameKind)) (cs:List (Str×Addr)),(∀y∈ns,y.2=.free→∃c,env.cells.lookup y.1=some c)→(∀x c,cs.lookup x=some c→env.cells.lookup x=some c)→
 ∃cl,(forIn ns cs (fun(x:Str×NameKind) r=>if(x.2== .free)=true then(do let c ←cellOf env x.1;pure (ForInStep.yield ((x.1,c)::r))) else pure (ForInStep.yield r)):Sem (List (Str×Addr)))=pure cl∧
  (∀x c,cl.lookup x=some c→env.cells.lookup x=some c)∧(∀x,(∃c,cs.lookup x=some c)→∃c,cl.lookup x=some c)∧∀y∈ns,y.2=.free→∃c,cl.lookup y.1=some c
 | [],cs,_,h2=>⟨cs,rfl,h2,fun _ z=>z,fun _ z=>nomatch z⟩
 |(n,k)::ns,cs,h1,h2=>by
  by_cases hk:k=.free
  ·subst hk
   obtain⟨c,hc⟩:=h1 (n,.free) List.mem_cons_self rfl
   have e:cellOf env n=pure c:=by unfold cellOf;rw[hc]
   have h2':∀x d,((n,c)::cs).lookup x=some d→env.cells.lookup x=some d:=fun x d q=>by
    rw[List.lookup_cons] at q
    cases hx:x== n with
    |true=>
     rw[hx] at q
     have:x=n:=eq_of_beq hx
     subst this
     cases q
     exact hc
    |false=>
     rw[hx] at q
     exact h2 x d q
   obtain⟨cl,q1,q2,q3,q4⟩:=jc ns ((n,c)::cs) (fun y hy=>h1 y (List.mem_cons_of_mem _ hy)) h2'
   refine⟨cl,?_,q2,fun x ⟨d,hd⟩=>q3 x ?_,fun y hy hf=>?_⟩
   ·rw[List.forIn_cons]
    simp only[beq_self_eq_true,if_true,e,pure_bind]
    exact q1
   ·rw[List.lookup_cons]
    cases hx:x== n with
    |true=>exact⟨c,rfl⟩
    |false=>exact⟨d,hd⟩
   ·rcases List.mem_cons.mp hy with rfl|hy
    ·exact q3 n ⟨c,by rw[List.lookup_cons,beq_self_eq_true]⟩
    ·exact q4 y hy hf
  ·have hb:(k== NameKind.free)=false:=by simpa using hk
   obtain⟨cl,q1,q2,q3,q4⟩:=jc ns cs (fun y hy=>h1 y (List.mem_cons_of_mem _ hy)) h2
   refine⟨cl,?_,q2,q3,fun y hy hf=>?_⟩
   ·rw[List.forIn_cons]
    simp only[hb,Bool.false_eq_true,if_false,pure_bind]
    exact q1
   ·rcases List.mem_cons.mp hy with rfl|hy
    ·exact absurd hf hk
    ·exact q4 y hy hf
theorem jt{scope:Scope}{env:Env}(h:∀y∈scope.names,y.2=.free→∃c,env.cells.lookup y.1=some c) :
 ∃cl,closureFor scope env=pure cl∧(∀x c,cl.lookup x=some c→env.cells.lookup x=some c)∧∀y∈scope.names,y.2=.free→∃c,cl.lookup y.1=some c:=by
 obtain⟨cl,q1,q2,_,q4⟩:=jc (env:=env) scope.names [] h (fun x c z=>by simp at z)
 refine⟨cl,?_,q2,q4⟩
 unfold closureFor
 have e:(forIn scope.names [] (fun(x:Str×NameKind) (r:List (Str×Addr))=>match x with
  |(name,kind)=>if(kind== .free)=true then(do let a ←cellOf env name;pure (ForInStep.yield ((name,a)::r))) else pure (ForInStep.yield r)):Sem (List (Str×Addr)))=pure cl:=q1
 first
  |(simp only[bind_pure];exact q1)
  |(rw[show ∀(t:Sem (List (Str×Addr))),(do let r ←t;pure r)=t from fun t=>by simp];exact q1)
  |(simp only[q1,pure_bind])
def gR(X:Cx)(N':List Str)(scope:Scope)(cl:List (Str×Addr))(C:Addr)(s:Shared)(H:Hp)(fp:List Addr):Cx where
 prog:=X.prog
 w:=X.w
 K:=X.K
 mg:=X.mg
 base:=X.base
 A:=X.A
 N:=N'
 s₀:= s
 H₀:= H
 env:=compEnvC scope cl C X.env
 outer:=X.stack
 stack:=X.stack
 ex:=fp
 fn:=fun x=>scope.names.lookup x== some .cell
 calm:=X.calm
 pn:=[]
 xe:=fun _ _=>False
def nq(X:Cx)(sc scope:Scope):List Str→List Nat→Prop
 |x::xs,j::js=>X.N[j]?=some x∧(scope.names.lookup x=some .free∧(sc.names.lookup x=some .cell∨sc.names.lookup x=some .free))∧nq X sc scope xs js
 |_,[]=>True
 | [],_::_=>False
def fZ(js:List Nat)(nl:Nat)(σ:L2.St):L2.St:=js.map (fun j:Nat=>(σ[j]?).getD none)++List.replicate nl none
theorem qM{X:Cx}{sc scope:Scope}{σ:L2.St}{nl:Nat}:∀{N':List Str} {js:List Nat} {i:Nat} {x:Str} {v:V},nq X sc scope N' js→N'[i]?=some x→(fZ js nl σ)[i]?=some (some v)→
 ∃j:Nat,X.N[j]?=some x∧σ[j]?=some (some v)∧scope.names.lookup x=some .free∧(sc.names.lookup x=some .cell∨sc.names.lookup x=some .free)
 |N',[],i,x,v,_,_,h=>by
  unfold fZ at h
  rw[List.map_nil,List.nil_append,List.getElem?_replicate] at h
  split at h<;>cases h
 | [],_::_,_,_,_,c,_,_=>c.elim
 |y::N',j::js,0,x,v,c,h1,h2=>by
  obtain⟨c1,c2,_⟩:=c
  simp at h1
  subst h1
  have e:(σ[j]?).getD none=some v:=by simpa[fZ] using h2
  refine⟨j,c1,?_,c2⟩
  cases q:σ[j]? with
  |none=>rw[q] at e;cases e
  |some o=>rw[q] at e;exact congrArg some e
 |y::N',j::js,i+1,x,v,c,h1,h2=>by
  exact qM (N':=N') (js:=js) (i:=i) c.2.2 (by simpa using h1) (by simpa[fZ] using h2)
section
variable{prog:Program}{w:World}{A:Around}{R:Result→Shared→Prop}{s:Shared}
theorem ju{elt target iter:Expr}{ifs:List Expr}{scope:Scope}{pos:Pos}{it acc:Value}{env:Env}(I:Nat→Shared→Prop)
 (turn:∀n s,I n s→wpAny (model prog w) A (pyNext it) (fun r s₁=>match r with
   |none=>R (.ok .next) s₁
   |some v=>wpAny (model prog w) A (letOwnedTupleGo target it v) (fun _ s₁'=>wpAny (model prog w) A (assign target env v) (fun _ s₂=>
     wpAny (model prog w) A (forIn ifs true fun c r=>if r=true then do let ok ←isTrue c env (eval c env);pure (ForInStep.yield ok) else pure (ForInStep.yield r)) (fun ok s₃=>
      if ok=true then wpAny (model prog w) A (eval elt env) (fun x s₄=>
       wpAny (model prog w) A (call (.builtin "list.append") [acc,x]) (fun _ s₅=>∃m,m<n∧I m s₅) (fun _ _=>False) s₄) (fun _ _=>False) s₃
      else ∃m,m<n∧I m s₃) (fun _ _=>False) s₂) (fun _ _=>False) s₁') (fun _ _=>False) s₁) (fun _ _=>False) s)
 (n:Nat)(h:I n s) :
 codeAny (model prog w) A (.compLoop (.ListComp elt [⟨target,iter,ifs,0⟩] scope pos) 0 it acc env) R s:=by
 refine codeAny_loop rfl I (fun n s hI=>?_) n h
 show wpAny _ A ((compTurn (.ListComp elt [⟨target,iter,ifs,0⟩] scope pos) 0 it acc env).onRaise (fun x=>do noteFrame x env;theTreesLotGoes x)) _ _ s
 refine wpAny_noted (wpAny_noRaise ?_)
 rw[compTurn_list]
 refine wpAny_bind (wpAny_standAt (wpAny_bind (wpAny_mono (turn n s hI) (fun r s₁ h₁=>?_) fun _ _ h'=>h')))
 cases r with
 |none=>exact wpAny_pure h₁
 |some v=>
  refine wpAny_bind (wpAny_mono h₁ (fun _ s₁' h₁'=>?_) fun _ _ h'=>h')
  refine wpAny_bind (wpAny_mono h₁' (fun _ s₂ h₂=>wpAny_bind (wpAny_mono h₂ (fun ok s₃ h₃=>?_) fun _ _ h'=>h')) fun _ _ h'=>h')
  cases ok with
  |false=>exact wpAny_pure ⟨rfl,h₃⟩
  |true=>
   exact wpAny_bind (wpAny_bind (wpAny_mono h₃ (fun x s₄ h₄=>wpAny_bind (wpAny_mono h₄ (fun _ s₅ h₅=>wpAny_pure (wpAny_pure ⟨rfl,h₅⟩)) fun _ _ h'=>h')) fun _ _ h'=>h'))
end
def TJ(X:Cx)(ifs:List Expr)(t:TT):Prop:=
 ∀(pins:List (Addr×Obj)) (s:Shared) (σ:L2.St) (H:Hp) (Q:Bool→Hp→Prop),Inv X pins σ H s→t σ H Q→
  wpAny (model X.prog X.w) X.A (forIn ifs true fun c r=>if r=true then do let ok ←isTrue c X.env (eval c X.env);pure (ForInStep.yield ok) else pure (ForInStep.yield r)) (TP X pins σ Q) X.xe s
def Zjx:TT:=fun _ H Q=>Q true H
theorem QS{X:Cx}:TJ X [] Zjx:=fun _ _ _ H _ I h=>wpAny_tests_nil ⟨H,I,h⟩
theorem QT{X:Cx}{c:Expr}{t:TT}(h:PT X c t):TJ X [c] t:=fun pins s σ H Q I hw=>wpAny_tests_one (h pins s σ H Q I hw)
def GD(js:List Nat)(nl:Nat)(wi:TI)(g:TG)(tt:TT)(te:TE):TE:=fun σ H Q=>wi σ H fun J H1=>∀D,H1 D=none→
 ∃W:Nat→Nat→L2.St→Hp→Prop,(∃m,W 0 m (fZ js nl σ) (upd H1 D (.lst [])))∧∀i m σ' H',W i m σ' H'→
  (J.stop i H'∧Q (.ref D) H')∨(J.go i H'∧∃N:L2.St→Hp→Prop,(∀σ2 H2,N σ2 H2→∃m',m'<m∧W (i+1) m' σ2 H2)∧∀x H2,J.yld i H' x H2→g x σ' H2 fun σ2 H3=>tt σ2 H3 fun c H4=>
    if c=true then te σ2 H4 fun y H5=>∃ys,H5 D=some (.lst ys)∧ys.length<sizeLine∧N σ2 (upd H5 D (.lst (ys ++ [y]))) else N σ2 H4)
section
variable{X:Cx}{elt tg iter:Expr}{ifs:List Expr}{scope:Scope}{pos:Pos}{wi:TI}{g:TG}{tt:TT}{te:TE}
theorem eU{env:Env}:∀{names:List (Str×NameKind)} {x:Str} {k:NameKind},(k=.cell∨k=.free)→
 (names.map fun(n,k)=>if(k== NameKind.free && env.scope.kind== .function && env.kindOf n== some .cell) then(n,NameKind.cell) else(n,k)).lookup x=some k→(x,NameKind.free)∈names∨(x,NameKind.cell)∈names
 | [],x,k,_,h=>by simp at h
 |(n,q)::r,x,k,hk,h=>by
  have ih:=@eU env r x k hk
  rw[List.map_cons] at h
  by_cases hx:x=n
  ·subst hx
   by_cases hf:q=.free
   ·subst hf
    exact .inl List.mem_cons_self
   ·have hb:(q== NameKind.free)=false:=by simpa using hf
    have e:(if(q== NameKind.free && env.scope.kind== .function && env.kindOf x== some .cell)=true then(x,NameKind.cell) else(x,q))=(x,q):=by
     rw[hb];rfl
    have h2:=h
    simp only[e,List.lookup_cons,beq_self_eq_true] at h2
    have:q=k:=Option.some.inj h2
    rcases hk with hk|hk
    ·rw[this,hk]
     exact .inr List.mem_cons_self
    ·exact absurd (this.trans hk) hf
  ·have hn:(x== n)=false:=by simpa using hx
   have h3:(x,NameKind.free)∈r∨(x,NameKind.cell)∈r:=ih (by
    by_cases c:(q== NameKind.free && env.scope.kind== .function && env.kindOf n== some .cell)=true
    ·simp only[c,if_true,List.lookup_cons,hn] at h
     exact h
    ·simp only[c,if_false,Bool.false_eq_true,List.lookup_cons,hn] at h
     exact h)
   rcases h3 with h3|h3
   ·exact .inl (List.mem_cons_of_mem _ h3)
   ·exact .inr (List.mem_cons_of_mem _ h3)
theorem ŵ:∀(names:List (Str×NameKind)) (n:Nat) (acc:List (Str×Addr)),cellsFrom n names acc=cellsFrom n names []++acc
 | [],_,_=>rfl
 |(x,k)::r,n,acc=>by
  unfold cellsFrom
  split
  ·rw[ŵ r (n+1) ((x,n)::acc),ŵ r (n+1) [(x,n)],List.append_assoc]
   rfl
  ·exact ŵ r n acc
theorem eV:∀(names:List (Str×NameKind)) (n:Nat) {x:Str} {c:Addr},(x,c)∈cellsFrom n names []→(x,NameKind.cell)∈names
 | [],_,_,_,h=>by simp[cellsFrom] at h
 |(y,k)::r,n,x,c,h=>by
  unfold cellsFrom at h
  split at h
  ·rename_i hk
   rw[ŵ r (n+1) [(y,n)]] at h
   rcases List.mem_append.mp h with h|h
   ·exact List.mem_cons_of_mem _ (eV r _ h)
   ·have e:(x,c)=(y,n):=by simpa using h
    cases e
    rw[beq_iff_eq.mp hk]
    exact List.mem_cons_self
  ·exact List.mem_cons_of_mem _ (eV r _ h)
structure Blk(X:Cx)(scope:Scope)(n:Nat)(h:Heap)(cl:List (Str×Addr)):Prop where
 at_:∀x c,cl.lookup x=some c→(X.env.cells.lookup x=some c∧scope.names.lookup x≠some .cell)∨(n<c∧h.IsCell c none∧scope.names.lookup x=some .cell)
 inj:∀x y c,cl.lookup x=some c→cl.lookup y=some c→n<c→x=y
 has:∀x,((x,NameKind.free)∈scope.names∨(x,NameKind.cell)∈scope.names)→∃c,cl.lookup x=some c
theorem GF{X:Cx}{scope:Scope}{n:Nat}{h:Heap}{cl:List (Str×Addr)}(hcell:∀y∈scope.names,y.2=.cell→scope.names.lookup y.1=some .cell)
 (h1:∀x c,cl.lookup x=some c→X.env.cells.lookup x=some c)(h2:∀y∈scope.names,y.2=.free→∃c,cl.lookup y.1=some c)(hlt:∀x c,X.env.cells.lookup x=some c→c<n)
 (ok:CellsOk h (n+1) (cellsFrom (n+1) scope.names [])):Blk X scope n h (cellsFrom (n+1) scope.names cl):=by
 have sp:∀x c,(cellsFrom (n+1) scope.names cl).lookup x=some c→(cl.lookup x=some c∧(cellsFrom (n+1) scope.names []).lookup x=none)∨(cellsFrom (n+1) scope.names []).lookup x=some c:=fun x c e=>by
  rw[ŵ,List.lookup_append] at e
  cases q:(cellsFrom (n+1) scope.names []).lookup x with
  |none=>rw[q] at e;exact .inl ⟨by simpa using e,rfl⟩
  |some d=>rw[q] at e;exact .inr (by simpa using e)
 refine⟨fun x c e=>?_,fun x y c e1 e2 hc=>?_,fun x hx=>?_⟩
 ·rcases sp x c e with⟨e,q⟩|e
  ·refine .inl ⟨h1 x c e,fun z=>?_⟩
   obtain⟨d,hd⟩:=jo (sc:=scope) (n:=n+1) z
   rw[hd] at q
   cases q
  ·have m:=mem_of_lookup e
   exact .inr ⟨(ok.empty x c m).2,(ok.empty x c m).1,hcell _ (eV _ _ m) rfl⟩
 ·have nw:∀z,(cellsFrom (n+1) scope.names cl).lookup z=some c→(cellsFrom (n+1) scope.names []).lookup z=some c:=fun z e=>by
   rcases sp z c e with⟨e,q⟩|e
   ·exact absurd (hlt z c (h1 z c e)) (Nat.lt_asymm hc)
   ·exact e
  exact name_of_addr ok.apart (mem_of_lookup (nw x e1)) (mem_of_lookup (nw y e2))
 ·rw[ŵ,List.lookup_append]
  rcases hx with hx|hx
  ·obtain⟨c,hc⟩:=h2 _ hx rfl
   cases q:(cellsFrom (n+1) scope.names []).lookup x with
   |none=>exact⟨c,by simpa using hc⟩
   |some d=>exact⟨d,rfl⟩
  ·obtain⟨d,hd⟩:=jo (sc:=scope) (n:=n+1) (hcell _ hx rfl)
   rw[hd]
   exact⟨d,rfl⟩
theorem iI{M:Model}{A:Around}{E:Value→Shared→Prop}{s:Shared}{scope:Scope}{globals:Addr}{closure:List (Str×Addr)}{qual:Str}
 {func:Option Addr}{code:Value}{env0:Env}{builtins:Addr}{Q:Env→Shared→Prop}
 (hQ:∀h',h'.Ns s.heap.objs.size (fun _=>none)→(∀b o,s.heap.get? b=some o→h'.get? b=some o)→CellsOk h' (s.heap.objs.size+1) (cellsFrom (s.heap.objs.size+1) scope.names [])→
   Q (newEnv scope s.heap.objs.size globals (cellsFrom (s.heap.objs.size+1) scope.names closure) qual func code (some env0) builtins) {s with heap:=h'}) :
 wpAny M A (newFunctionEnv scope globals closure [] qual func code (some env0) builtins) Q E s:=by
 simp only[newFunctionEnv,Option.isSome_some,if_true]
 refine wpAny_bind (wpAny_alloc ?_)
 refine wpAny_bind (wpAny_layCells _ (fun name kind cells=>by cases hkc:kind== NameKind.cell<;>simp[hkc]) _ _ _ _ ?_)
 have ok:=cellsFrom_ok scope.names (s.heap.push {cls:=.type "dict",data:=.dict #[]}) (s.heap.objs.size+1) [] ⟨fun _ _ hm=>(nomatch hm),List.Pairwise.nil⟩ (by rw[Heap.size_push];exact Nat.le_refl _)
 rw[Heap.size_push] at ok
 rw[show({s with heap:=s.heap.push {cls:=.type "dict",data:=.dict #[]}}:Shared).heap.objs.size=s.heap.objs.size+1 from Heap.size_push ..]
 refine wpAny_bind ?_
 rw[List.forIn_nil]
 exact wpAny_pure (wpAny_pure (hQ _ ((Heap.Ns.new s.heap (.type "dict")).keeps (pushCells_keeps _ _)) (fun b o e=>pushCells_keeps _ _ b o (Heap.get?_push_of_some _ e)) ok))
theorem jw{env:Env}:∀{names:List (Str×NameKind)} {x:Str},names.lookup x=some .free→
 ¬(names.map fun(n,k)=>if(k== NameKind.free && env.scope.kind== .function && env.kindOf n== some .cell) then(n,NameKind.cell) else(n,k)).lookup x=some .local
 | [],x,h=>by simp at h
 |(n,q)::r,x,h=>by
  intro h2
  rw[List.map_cons] at h2
  rw[List.lookup_cons] at h
  cases hx:x== n with
  |true=>
   rw[hx] at h
   cases h
   by_cases c:(NameKind.free== NameKind.free && env.scope.kind== .function && env.kindOf n== some .cell)=true
   ·simp only[c,if_true,List.lookup_cons,hx] at h2
    cases h2
   ·simp only[c,if_false,Bool.false_eq_true,List.lookup_cons,hx] at h2
    cases h2
  |false=>
   rw[hx] at h
   have ih:=jw (env:=env) h
   by_cases c:(q== NameKind.free && env.scope.kind== .function && env.kindOf n== some .cell)=true
   ·simp only[c,if_true,List.lookup_cons,hx] at h2
    exact ih h2
   ·simp only[c,if_false,Bool.false_eq_true,List.lookup_cons,hx] at h2
    exact ih h2
theorem qN{pins:List (Addr×Obj)}{σ:L2.St}{H:Hp}{s:Shared}{N':List Str}{js:List Nat}{nl:Nat}{sc:Scope}{cl:List (Str×Addr)}{fp:List Addr}{h':Heap}{tk:Nat}
 (hsc:X.env.scope=sc)(hk:scope.kind=.function)(hcap:nq X sc scope N' js)(hlen:js.length+nl=N'.length)(B:Blk X scope s.heap.objs.size h' cl)
 (I:Inv X pins σ H s)(hf:∀b∈fp,fW X pins H b)(hlt:∀b∈fp,b<s.heap.objs.size)
 (hn:h'.Ns s.heap.objs.size (fun _=>none))(kp:∀b o,s.heap.get? b=some o→h'.get? b=some o) :
 Inv (gR X N' scope cl s.heap.objs.size s H fp) [] (fZ js nl σ) H {s with heap:=h',toks:=tk}:=by
 have GJ:∀x,((gR X N' scope cl s.heap.objs.size s H fp).env.kindOf x=some .cell∨(gR X N' scope cl s.heap.objs.size s H fp).env.kindOf x=some .free)→∃c,cl.lookup x=some c:=fun x hx=>by
  rcases hx with hx|hx
  ·exact B.has x (eU (.inl rfl) hx)
  ·exact B.has x (eU (.inr rfl) hx)
 have lt:∀x c,X.env.cells.lookup x=some c→c<s.heap.objs.size:=fun x c e=>by
  obtain⟨v,o,ho,_⟩:=I.cell x c e
  exact Heap.lt_size ho
 have inj:∀x y c,cl.lookup x=some c→cl.lookup y=some c→x=y:=fun x y c e1 e2=>by
  rcases B.at_ x c e1 with⟨q1,_⟩|⟨q1,_⟩
  ·rcases B.at_ y c e2 with⟨q2,_⟩|⟨q2,_⟩
   ·exact I.ok.inj x y c q1 q2
   ·exact absurd (lt x c q1) (Nat.lt_asymm q2)
  ·exact B.inj x y c e1 e2 q1
 refine⟨⟨I.ok.mod,hk,I.ok.glob,I.ok.blt,Nat.le_refl _,inj,GJ,fun x c z e=>by
  rcases B.at_ x c e with⟨_,q⟩|⟨q,_⟩
  ·exact absurd (beq_iff_eq.mp z) q
  ·exact Nat.le_of_lt q,I.ok.hd,I.ok.frames,.inl rfl,fun b hb=>⟨Nat.ne_of_lt (hlt b hb),fun x c e=>by
  rcases B.at_ x c e with⟨q,_⟩|⟨q,_⟩
  ·exact(hf b hb).2.2.2.2.1 x c q
  ·exact Nat.ne_of_gt (Nat.lt_trans (hlt b hb) q)⟩,
  I.bs,Nat.le_trans I.ok.Qm I.sz,fun b o e hb=>?_,fun b hb hz=>?_,I.stack,I.sZ⟩,rfl,I.bare,Un.kept kp,⟨_,hn,fun i x v e1 e2 e3=>?_⟩,fun x c e=>?_,I.hok.fresh (Nat.le_refl _),fun x c e=>by
    rcases B.at_ x c e with⟨q,_⟩|⟨q,_⟩
    ·exact I.iH x c q
    ·exact I.hok.fresh (Nat.le_of_lt q),fun p hp=>?_,I.hok.kept kp,?_⟩
 ·rcases(hf b hb).2.2.2.1 with z|z
  ·exact I.ok.DP b o e z
  ·exact absurd (Nat.lt_of_lt_of_le (Heap.lt_size e) (Nat.le_trans I.ok.Qm z)) (Nat.lt_irrefl _)
 ·rcases List.mem_cons.mp (I.mZ b hz) with z|z
  ·exact(hf b hb).2.1 z
  ·exact(hf b hb).2.2.1 z
 ·obtain⟨j,q1,q2,q0,q3⟩:=qM hcap e1 e2
  obtain⟨m,hm,hl⟩:=I.loc
  have Zjy:DN X.env.scope x:=by
   rw[hsc]
   rcases q3 with q3|q3
   ·exact .inr (.inl q3)
   ·exact .inr (.inr q3)
  obtain⟨u,ru,lk⟩:=hl j x v q1 q2 Zjy
  refine⟨u,ru,?_⟩
  rcases lk with⟨k1,_⟩|⟨k1,c,hc,ic⟩
  ·exfalso
   have k1':sc.names.lookup x=some .local:=by rw[←hsc];exact k1
   rcases q3 with q3|q3<;>(rw[k1'] at q3;cases q3)
  ·have e3':(gR X N' scope cl s.heap.objs.size s H fp).env.kindOf x=some .local∨(gR X N' scope cl s.heap.objs.size s H fp).env.kindOf x=some .cell∨(gR X N' scope cl s.heap.objs.size s H fp).env.kindOf x=some .free:=e3
   rcases e3' with z|z
   ·exact absurd z (jw (env:=X.env) q0)
   ·obtain⟨d,hd⟩:=GJ x z
    have:d=c:=by
     rcases B.at_ x d hd with⟨q,_⟩|⟨_,_,q⟩
     ·rw[hc] at q
      exact(Option.some.inj q).symm
     ·rw[q0] at q
      cases q
    subst this
    exact .inr ⟨z,d,hd,by
     obtain⟨o,ho,hd'⟩:=ic
     exact⟨o,kp _ _ ho,hd'⟩⟩
 ·rcases B.at_ x c e with⟨q,_⟩|⟨_,q,_⟩
  ·obtain⟨v,o,ho,hd⟩:=I.cell x c q
   exact⟨v,o,kp _ _ ho,hd⟩
  ·exact⟨none,q⟩
 ·exact absurd hp (by simp[gR])
 ·show _=N'.length
  rw[←hlen]
  simp[fZ]
theorem nu{pins:List (Addr×Obj)}{σ σ':L2.St}{H H':Hp}{s s':Shared}{N':List Str}{cl:List (Str×Addr)}{fp:List Addr}{h':Heap}(I:Inv X pins σ H s)(hf:∀b∈fp,fW X pins H b)
 (J:Inv (gR X N' scope cl s.heap.objs.size s H fp) [] σ' H' s')(kp:∀b u,b≠s.heap.objs.size→s'.heap.get? b=some u→h'.get? b=some u):Inv X pins σ H' {s' with heap:=h'}:=by
 have ne:∀{b:Addr} {o:Obj},s.heap.get? b=some o→b≠s.heap.objs.size:=fun e=>Nat.ne_of_lt (Heap.lt_size e)
 have u:=J.base
 refine I.call' (ch:=fp) J.os ⟨fun b o e n hb hx=>kp b o (ne e) (u.keep b o e n hb hx),fun b o e n hb hx=>?_,fun b o e n hx=>u.free b o e n hx,fun b o e hx=>?_,u.tups,u.jm,u.jN⟩ (Cg J.hok J.free kp) J.bare fun b hb=>?_
 ·obtain⟨sl,q⟩:=u.slot b o e n hb hx
  exact⟨sl,kp b _ (ne e) q⟩
 ·obtain⟨o',q⟩:=u.there b o e hx
  exact⟨o',kp b _ (ne e) q⟩
 ·exact⟨(hf b hb).2.2.2.1,(hf b hb).2.1,(hf b hb).2.2.2.2.1,(hf b hb).2.2.2.2.2⟩
theorem QW(N':List Str)(js:List Nat)(nl:Nat)(sc:Scope)(hsc:X.env.scope=sc)(hcalm:X.calm=true)
 (hi:PI X.aB tg iter wi)(hg:∀cl C s H fp,PG (gR X.aB N' scope cl C s H fp) tg g)(ht:∀cl C s H fp,TJ (gR X.aB N' scope cl C s H fp) ifs tt)(he:∀cl C s H fp,PE (gR X.aB N' scope cl C s H fp) elt te)
 (hcap:nq X.aB sc scope N' js)(hlen:js.length+nl=N'.length:=by rfl)
 (hk:scope.kind=.function:=by rfl)(hcell:∀y∈scope.names,y.2=.cell→scope.names.lookup y.1=some .cell:=by decide +kernel)(hnames:∀y∈scope.names,y.2=.local→scope.names.lookup y.1=some .local:=by decide +kernel)
 (hfree:∀y∈scope.names,y.2=.free→(sc.names.lookup y.1=some .cell∨sc.names.lookup y.1=some .free):=by decide +kernel)
 (hs:∀x,foldedSetIterable iter X.env x=pure x:=by intro _;rfl) :
 PE X.aB (.ListComp elt [⟨tg,iter,ifs,0⟩] scope pos) (GD js nl wi g tt te):=by
 intro pins s σ H Q I h
 obtain⟨cl0,c1,c2,c3⟩:=jt (scope:=scope) (env:=X.aB.env) fun y hy hf=>I.ok.has y.1 (by
  have:=hfree y hy hf
  rw[←hsc] at this
  exact this)
 rw[eval_ListComp]
 refine wpAny_comprehension_free (use:=none) rfl hs c1 hk hnames (Ų (hi pins s σ H _ I h) fun v s1 h1=>Ų h1 fun itv s2 h2=>?_)
 obtain⟨it,fp,tn,J,H2,e,I2,T,st2,f2,q2⟩:=h2
 subst e
 refine wpAny_newObj_type (iI (fun h₁ hns₁ old Xu=>?_))
 dsimp only at hns₁ old Xu ⊢
 generalize Xv:s2.heap.push {cls:=.type "list",dict:=none,data:=.seq ([]:List Value).toArray}=cC at hns₁ old Xu ⊢
 have hD:H2 s2.heap.objs.size=none:=I2.hok.fresh (Nat.le_refl _)
 have I3:Inv X.aB pins σ (upd H2 s2.heap.objs.size (.lst [])) {s2 with heap:=cC}:=by
  rw[←Xv]
  exact I2.laid (t':=s2.toks) (fun b u e=>Heap.get?_push_of_some _ e) (Nat.le_refl _) ⟨Nat.zero_le _,[],0,.nil,Heap.get?_push_size _ rfl⟩
 have GK:∀b∈fp,b<s2.heap.objs.size:=fun b hb=>by
  obtain⟨o,ho,_⟩:=T.obj 0 _ st2 b hb
  exact Heap.lt_size ho
 have Xw:cC.objs.size=s2.heap.objs.size+1:=by rw[←Xv,Heap.size_push]
 have f3:∀b∈fp,fW X.aB pins (upd H2 s2.heap.objs.size (.lst [])) b:=fun b hb=>by
  obtain⟨g0,g1⟩:=f2 b hb
  exact⟨by rw[į (Nat.ne_of_lt (GK b hb))];exact g0,g1⟩
 have B:=GF (X:=X.aB) (cl:=cl0) hcell c2 c3 (fun x c e=>by
  obtain⟨v,o,ho,_⟩:=I3.cell x c e
  exact Heap.lt_size ho) Xu
 generalize cellsFrom (cC.objs.size+1) scope.names cl0=cl at B ⊢
 obtain⟨W,⟨m0,w0⟩,turn⟩:=q2 s2.heap.objs.size hD
 have I4:=qN (X:=X.aB) (N':=N') (js:=js) (nl:=nl) (sc:=sc) (scope:=scope) (cl:=cl) (fp:=fp) (h':=h₁) (tk:=s2.toks) hsc hk hcap hlen B I3 f3 (fun b hb=>by show b<cC.objs.size;rw[Xw];exact Nat.lt_succ_of_lt (GK b hb)) hns₁ old
 have st4:tn 0 h₁:= T.keep 0 _ _ st2 fun b hb o e=>old b o (by rw[←Xv];exact Heap.get?_push_of_some _ e)
 have fr4:∀b∈fp,(upd H2 s2.heap.objs.size (.lst [])) b=none:=fun b hb=>(f3 b hb).1
 have stat:∀{H':Hp},(∀b∈fp,H' b=none)→∀b∈fp,fW (gR X.aB N' scope cl cC.objs.size {s2 with heap:=cC} (upd H2 s2.heap.objs.size (.lst [])) fp) [] H' b:=fun{H'} hn b hb=>by
  obtain⟨g0,g1,g2,g3,g4,g5⟩:=f3 b hb
  refine⟨hn b hb,Nat.ne_of_lt (by show b<cC.objs.size;rw[Xw];exact Nat.lt_succ_of_lt (GK b hb)),fun z=>?_,.inl hb,fun x c e=>by
   rcases B.at_ x c e with⟨q,_⟩|⟨q,_⟩
   ·exact g4 x c q
   ·exact Nat.ne_of_gt (Nat.lt_trans (by show b<cC.objs.size;rw[Xw];exact Nat.lt_succ_of_lt (GK b hb)) q),fun p hp=>absurd hp (by simp[gR])⟩
  rcases List.mem_cons.mp (I3.mZ b z) with z|z
  ·exact g1 z
  ·exact g2 z
 have loop:∀s₃:Shared,s₃= {s2 with heap:=h₁}→
  codeAny (model X.prog X.w) X.A (.compLoop (.ListComp elt [⟨tg,iter,ifs,0⟩] scope pos) 0 (.ref it) (.ref s2.heap.objs.size) (compEnvC scope cl cC.objs.size X.aB.env))
   (compPost (model X.prog X.w) X.A X.aB.xe none (EP X.aB pins σ Q) (.ref s2.heap.objs.size) cC.objs.size) s₃:= by
  rintro s₃ rfl
  refine ju (fun n s'=>∃i σ' H',Inv (gR X.aB N' scope cl cC.objs.size {s2 with heap:=cC} (upd H2 s2.heap.objs.size (.lst [])) fp) [] σ' H' s'∧tn i s'.heap∧(∀b∈fp,H' b=none)∧W i n σ' H') ?_ m0 ⟨0,_,_,I4,st4,fr4,w0⟩
  rintro n s5 ⟨i,σ5,H5,I5,Qu,Wz,w5⟩
  rcases turn i n σ5 H5 w5 with⟨stop,qn⟩|⟨go,N,hN,step⟩
  ·refine Ų (T.done (gR X.aB N' scope cl cC.objs.size {s2 with heap:=cC} (upd H2 s2.heap.objs.size (.lst [])) fp) rfl rfl rfl hcalm i [] s5 σ5 H5 (fun _ _=>False) I5 (stat Wz) Qu stop) fun r s6 ⟨hr,I6⟩=>?_
   subst hr
   obtain⟨m,hm,_⟩:=I6.loc
   refine⟨m,hm,fun h' hs'=>⟨.ref s2.heap.objs.size,H5,nu I3 f3 I6 (fun b u hb e=>hs'.extBut b u hb e),rfl,qn⟩⟩
  ·refine Ų (T.item (gR X.aB N' scope cl cC.objs.size {s2 with heap:=cC} (upd H2 s2.heap.objs.size (.lst [])) fp) rfl rfl rfl hcalm i [] s5 σ5 H5 (fun _ _=>False) I5 (stat Wz) Qu go) fun r s6 ⟨u,hr,h6⟩=>?_
   subst hr
   refine Ų h6 fun _ s7 ⟨x,H7,I7,r7,y7,Xx,fr7⟩=>?_
   have I7':=I7.pinned (stat fr7) (T.obj _ _ Xx)
   have again:∀{s8:Shared} {σ8:L2.St} {H8:Hp},Inv (gR X.aB N' scope cl cC.objs.size {s2 with heap:=cC} (upd H2 s2.heap.objs.size (.lst [])) fp) ([]++jP fp s7.heap) σ8 H8 s8→
    Inv (gR X.aB N' scope cl cC.objs.size {s2 with heap:=cC} (upd H2 s2.heap.objs.size (.lst [])) fp) [] σ8 H8 s8∧tn (i+1) s8.heap∧∀b∈fp,H8 b=none:=fun{s8 σ8 H8} I8=>by
    refine⟨I8.fX,T.keep _ _ _ Xx fun b hb o e=>(I8.pin (b,o) (List.mem_append_right _ (List.mem_append_right _ (bF hb e)))).1,fun b hb=>?_⟩
    obtain⟨o,e,d⟩:=T.obj _ _ Xx b hb
    exact(I8.pin (b,o) (List.mem_append_right _ (List.mem_append_right _ (bF hb e)))).2.1
   refine Ų (hg cl _ _ _ fp _ s7 σ5 H7 x u _ I7' r7 (step x H7 y7)) fun _ s8 ⟨σ8,H8,I8,q8⟩=>?_
   refine Ų (ht cl _ _ _ fp _ s8 σ8 H8 _ I8 q8) fun c s9 ⟨H9,I9,q9⟩=>?_
   cases c with
   |false=>
    rw[if_neg Bool.false_ne_true] at q9 ⊢
    obtain⟨m',hm',w9⟩:=hN _ _ q9
    obtain⟨a1,a2,a3⟩:=again I9
    exact⟨m',hm',i+1,σ8,H9,a1,a2,a3,w9⟩
   |true=>
    rw[if_pos rfl] at q9 ⊢
    refine Ų (he cl _ _ _ fp _ s9 σ8 H9 _ I9 q9) fun yv yK ⟨y,H10,I10,r10,ys,e10,l10,w10⟩=>?_
    refine Ų (bG _ yK σ8 H10 (.ref s2.heap.objs.size) [y] (.ref s2.heap.objs.size) [yv] (fun _ Xy=>N σ8 Xy) I10 rfl (.cons r10 .nil) ⟨_,ys,y,rfl,rfl,e10,l10,w10⟩) fun _ s11 ⟨v11,Xy,I11,_,w11⟩=>?_
    obtain⟨a1,a2,a3⟩:=again I11
    obtain⟨m',hm',w11⟩:=hN _ _ w11
    exact⟨m',hm',i+1,σ8,Xy,a1,a2,a3,w11⟩
 exact codeAny_compStart_list (loop _ rfl) (T.self _ 0 _ _ _ st4 (loop _ rfl))
end
def Its(z:Str):It:=⟨fun i _=>i<z.cps.size,fun i H x H'=>H'=H∧∃c,z.cps.toList[i]?=some c∧x=.str ⟨#[c]⟩,fun i _=>i=z.cps.size⟩
theorem Ek{P:Program}{w:World}{K:PySem.W.Frag}{tg:Expr}(it:Addr)(z:Str)(t:Tok)(ty:String)
 (hW:∀A:Around,A.handled=none→Walks P w A it [it] [it] z.cps.size (SignAt z) (fun i h=>h.IsStrIter it ty z t i))
 (hS:∀(A:Around) (i:Nat) (s:Shared) (Q:Value→Shared→Prop) (E:Value→Shared→Prop),s.heap.IsStrIter it ty z t i→Q (.ref it) s→wpAny (model P w) A (pyIter (.ref it)) Q E s)
 (hty:["enumerate","zip","dict_itemiterator","dict_reverseitemiterator","odict_iterator","itertools.zip_longest","itertools.pairwise"].contains ty=false):Turn P w K tg (Its z) [it] it (fun i h=>h.IsStrIter it ty z t i) where
 mem:=by simp
 obj:=fun i h st b hb=>by
  have e:b=it:=by simpa using hb
  subst e
  obtain⟨o,e,c,d⟩:=st
  exact⟨o,e,fun v z=>by rw[d] at z;cases z⟩
 keep:=fun i h h' st k=>by
  obtain⟨o,e,c,d⟩:=st
  exact⟨o,k it (by simp) o e,c,d⟩
 item:=by
  intro X hP hw hK hc i pins s σ H E I hf st hg
  subst hP hw hK
  obtain⟨f0,f1,f2,f3,f4,f5⟩:=hf it (by simp)
  refine(hW X.A (I.ok.hd hc)).item i s _ _ hg st fun v h' tk hv st' kk=>?_
  obtain⟨c,u,hcu,rfl⟩:=hv
  have I1:Inv X pins σ H {s with heap:=h',toks:=tk}:=I.turned (fun b o hb e=>kk b o (by simpa using hb) e) f0 f1 f3 f4 f5
  obtain⟨o,e,cl,d⟩:=id st'
  exact⟨_,rfl,BR (s:={s with heap:=h',toks:=tk}) e cl d hty ⟨.str ⟨#[c]⟩,H,I1,⟨u,rfl⟩,⟨rfl,c,by simpa using hcu,rfl⟩,st',fun b hb=>(hf b hb).1⟩⟩
 done:=by
  intro X hP hw hK hc i pins s σ H E I hf st hg
  subst hP hw hK
  obtain⟨f0,f1,f2,f3,f4,f5⟩:=hf it (by simp)
  have e:i=z.cps.size:=hg
  subst e
  exact(hW X.A (I.ok.hd hc)).done s _ _ st fun h' tk kk=>⟨rfl,I.turned (fun b o hb e=>kk b o (by simpa using hb) e) f0 f1 f3 f4 f5⟩
 self:=hS
section
variable{X:Cx}{tg:Expr}
end
end M3
namespace M4
open PySem PySem.Spec PyProof.Rows L2 M2 M3
section
variable{X:Cx}
theorem QX{bs:List Bool}:∀{us:List Value},Vals (bs.map V.bl) us→us=bs.map Value.bool:=by
 induction bs with
 |nil=>intro us r;rw[List.map_nil] at r;cases r;rfl
 |cons b bs ih=>
  intro us r
  rw[List.map_cons] at r
  cases r with
  |cons r1 r2=>
   cases r1
   rw[ih r2]
   rfl
theorem all_range(bs:List Bool):(List.range (bs.map Value.bool).toArray.size).all (fun i=>bs.getD i false)=bs.all id:=by
 have e:(bs.map Value.bool).toArray.size=bs.length:=by simp
 rw[e,Bool.eq_iff_iff]
 simp only[List.all_eq_true,List.mem_range,id]
 constructor
 ·intro h b hb
  obtain⟨i,hi,rfl⟩:=List.mem_iff_getElem.mp hb
  have:=h i hi
  rw[List.getD_eq_getElem?_getD,List.getElem?_eq_getElem hi] at this
  exact this
 ·intro h i hi
  rw[List.getD_eq_getElem?_getD,List.getElem?_eq_getElem hi]
  exact h _ (List.getElem_mem hi)
theorem vL{prog:Program}{w:World}{A:Around}(bs:List Bool):TruthOf prog w A (fun i v=>(bs.map Value.bool).toArray[i]?=some v) (fun i=>bs.getD i false):=by
 intro i v s Q E hv hq
 have hv':bs[i]?.map Value.bool=some v:=by
  rw[←List.getElem?_map]
  simpa using hv
 cases hb:bs[i]? with
 |none=>rw[hb] at hv';cases hv'
 |some b=>
  rw[hb] at hv'
  cases hv'
  dsimp only at hq
  rw[List.getD_eq_getElem?_getD,hb] at hq
  exact wpAny_truthy_bool hq
def Xz(K:PySem.W.Frag):List V→Hp→VK→Prop:=fun xs H Q=>match xs with
 | [.ref p]=>∃bs:List Bool,aG K H p (bs.map V.bl)∧Q (.bl (bs.all id)) H
 |_=>False
theorem jW(hc:X.calm=true):Ŭ X (.builtin "all") (Xz X.K):=by
 intro pins s σ H xs us Q I r h
 unfold Xz at h
 split at h
 ·rename_i p
  obtain⟨bs,hS,q⟩:=h
  obtain⟨u,rfl,ru⟩:=vals1 r
  cases ru
  obtain⟨its,rv,pl,hz⟩:=I.list hS
  have e:=QX rv
  subst e
  have hp:p≠s.heap.objs.size:=by
   obtain⟨o,n,e,_⟩:=pl
   exact Nat.ne_of_lt (Heap.lt_size e)
  refine call_all_walk (wpAny_pyIter_list pl.isList ?_)
  refine⟨s.heap.objs.size,_,_,_,_,_,_,rfl,Walks.list (A:=X.A.in1) (show X.A.in1.handled=none from I.ok.hd hc) s.heap.objs.size p hp (bs.map Value.bool).toArray,⟨⟨_,Heap.get?_push_size _ rfl,rfl,rfl⟩,pl.isList.at fun o e=>Heap.get?_push_of_some _ e⟩,vL bs,fun h' tk k=>?_⟩
  rw[all_range]
  exact⟨.bl _,H,I.kept fun b o e=>k b o (by simpa using Nat.ne_of_lt (Heap.lt_size e)) (Heap.get?_push_of_some _ e),rfl,q⟩
 ·exact h.elim
end
abbrev S(l:List Nat):Str:=⟨l.toArray⟩
theorem Zjz(z:Str):S z.cps.toList=z:=by
 cases z
 simp
theorem ZcB(l:List Nat):(S l).length=l.length:=by simp[Str.length]
theorem vM(z:Str):z.cps.toList.length=z.length:=by simp[Str.length]
def tU(xs:List Nat)(lo hi:Option Int):List Nat:=(xs.drop (HT.iy xs.length 0 lo)).take (HT.iy xs.length xs.length hi-HT.iy xs.length 0 lo)
theorem idx_eq(z:Str)(lo hi:Option Int):Builtin.Str.strSliceIndices lo hi 1 z.length=(List.range (HT.iy z.length z.length hi-HT.iy z.length 0 lo)).map (HT.iy z.length 0 lo + ·):=by
 have hc:∀(o:Option Int) (d:Nat),d≤z.length→(match o with|none=>((d:Nat):Int)|some i=>max 0 (min (if i<0 then i+(z.length:Int) else i) (z.length:Int)))=((HT.iy z.length d o:Nat):Int):=by
  intro o d hd
  cases o with
  |none=>rfl
  |some i=>
   show max 0 (min (if i<0 then i+(z.length:Int) else i) (z.length:Int))=((if i<0 then(i+(z.length:Int)).toNat else min i.toNat z.length:Nat):Int)
   by_cases h:i<0
   ·rw[if_pos h,if_pos h];omega
   ·rw[if_neg h,if_neg h];omega
 have e:Builtin.Str.strSliceIndices lo hi 1 z.length=sliceRange ((HT.iy z.length 0 lo:Nat):Int) ((HT.iy z.length z.length hi:Nat):Int) 1:=by
  have h1:=hc lo 0 (Nat.zero_le _)
  have h2:=hc hi z.length (Nat.le_refl _)
  unfold Builtin.Str.strSliceIndices
  simp only[show(1:Int)>0 by decide,if_true]
  rw[←h1,←h2]
  cases lo<;>cases hi<;>rfl
 rw[e,sliceRange_one]
theorem QZ(z:Str)(lo hi:Option Int):(Builtin.Str.strSliceIndices lo hi 1 z.length).filterMap (z.cps[·]?)=tU z.cps.toList lo hi:=by
 rw[idx_eq,pick_run]
 unfold tU
 rw[vM]
theorem Q_(xs:List Nat)(lo hi:Option Int):(tU xs lo hi).length≤xs.length:=by
 unfold tU
 rw[List.length_take,List.length_drop]
 omega
theorem GP{z:Str}{t:Tok}{l u:Option (Int×Tok)}{Q:Value→Shared→Prop}{s:Shared}(hz:z.length≤sizeLine)
 (h:∀t' k,Q (.str (S (tU z.cps.toList (l.map (·.1)) (u.map (·.1)))) t') {s with toks:=k}):(sliceMade z t l u none).post Q s:=by
 have e:=QZ z (l.map (·.1)) (u.map (·.1))
 unfold sliceMade
 have ep:slicePicked z l u none=Builtin.Str.strSliceIndices (l.map (·.1)) (u.map (·.1)) 1 z.length:=rfl
 rw[ep]
 split
 ·rename_i hc
  have hl:(Builtin.Str.strSliceIndices (l.map (·.1)) (u.map (·.1)) 1 z.length).length=z.length:=by simpa using hc
  have hz2:tU z.cps.toList (l.map (·.1)) (u.map (·.1))=z.cps.toList:=by
   rw[idx_eq,List.length_map,List.length_range] at hl
   have hi:=HT.Gn z.length 0 (Nat.zero_le _) (l.map (·.1))
   have hj:=HT.Gn z.length z.length (Nat.le_refl _) (u.map (·.1))
   unfold tU
   rw[vM]
   have hl2:=vM z
   have a0:HT.iy z.length 0 (l.map (·.1))=0∨z.length=0:=by omega
   rcases a0 with a0|a0
   ·rw[a0] at hl ⊢
    rw[List.drop_zero]
    exact List.take_of_length_le (by omega)
   ·have:z.cps.toList=[]:=List.eq_nil_of_length_eq_zero (by omega)
    rw[this]
    simp
  have:=h t s.toks
  rw[hz2,Zjz] at this
  exact this
 ·rw[e]
  exact⟨by rw[ZcB];have:=Q_ z.cps.toList (l.map (·.1)) (u.map (·.1));rw[vM] at this;omega,h _ _⟩
section
variable{X:Cx}
def ZjA:V→Option Int→Option Int→Hp→VK→Prop:=fun x lo hi H Q=>match x with
 | .str z=>z.length≤sizeLine∧Q (.str (S (tU z.cps.toList lo hi))) H
 |_=>False
theorem Ra:BX X ZjA:=by
 intro pins s σ H x v vl vu lo hi sl Q I rx hs pl pu h
 cases x with
 |str z=>
  obtain⟨t,rfl⟩:=rx
  obtain⟨hz,q⟩:=h
  obtain⟨l,el,el2⟩:∃l:Option (Int×Tok),partValue l=vl∧l.map (·.1)=lo:=by
   cases pl with
   |none=>exact⟨none,rfl,rfl⟩
   |int i t=>exact⟨some (i,t),rfl,rfl⟩
  obtain⟨u,eu,eu2⟩:∃u:Option (Int×Tok),partValue u=vu∧u.map (·.1)=hi:=by
   cases pu with
   |none=>exact⟨none,rfl,rfl⟩
   |int i t=>exact⟨some (i,t),rfl,rfl⟩
  subst el el2 eu eu2
  exact⟨"str",_,F.slot_str_getitem.lookup,typeIs_str s z t,wpAny_getItem_str_slice (l:=l) (u:=u) (st:=none) hs rfl (GP hz fun t' k=>⟨.str _,H,I.tok _,⟨_,rfl⟩,q⟩)⟩
 |_=>exact h.elim
def ZjB(K:PySem.W.Frag):V→Option Int→Option Int→Hp→VK→Prop:=fun x lo hi H Q=>match x with
 | .ref a=>∃xs,aG K H a xs∧∀p,H p=none→Q (.ref p) (upd H p (.lst (vI xs lo hi)))
 | .str z=>z.length≤sizeLine∧Q (.str (S (tU z.cps.toList lo hi))) H
 |_=>False
theorem slm:BX X (ZjB X.K):=BX.wk (GC.or Ra) fun x lo hi H Q h=>by
 cases x with
 |ref a=>exact .inl h
 |str z=>exact .inr h
 |_=>exact h.elim
theorem mul_eq(z:Str){n:Int}(h:0≤n):Txt.mul z n=S (List.replicate n.toNat z.cps.toList).flatten:=by
 have key:∀(k:Nat) (acc:Array Nat),((List.replicate k z.cps).foldl (·++ ·) acc).toList=acc.toList++(List.replicate k z.cps.toList).flatten:=by
  intro k
  induction k with
  |zero=>intro acc;simp
  |succ k ih=>
   intro acc
   rw[List.replicate_succ,List.foldl_cons,ih,List.replicate_succ,List.flatten_cons]
   simp
 unfold Txt.mul
 refine PyProof.Rows.ext_toList ?_
 by_cases h1:n<1
 ·rw[if_pos h1]
  have:n.toNat=0:=by omega
  rw[this]
  simp[Str.empty]
 ·rw[if_neg h1]
  split
  ·rename_i hc
   rw[Bool.or_eq_true] at hc
   rcases hc with hc|hc
   ·have:n=1:=by simpa using hc
    subst this
    simp
   ·have h0:z.cps.toList=[]:=List.eq_nil_of_length_eq_zero (by rw[vM];simpa using hc)
    rw[h0]
    simp
  ·rw[key]
   simp
def GQ(z:Str)(n:Int):Prop:=0≤n∧n≤1000∧z.length≤1000
theorem GQ.ok{z:Str}{n:Int}(h:GQ z n):MulOk z n:=by
 obtain⟨h0,h1,h2⟩:=h
 refine⟨?_,fun hn _=>?_,fun hn _=>?_⟩
 ·rw[decide_eq_false (by omega),decide_eq_false (by omega)]
  rfl
 ·have:(9000000000000000:Int)≤(2 ^ 63-1) / n:=by
   rw[Int.le_ediv_iff_mul_le (by omega)]
   omega
  omega
 ·have:z.length*n.toNat≤1000*1000:=Nat.mul_le_mul h2 (by omega)
  unfold Builtin.Str.tooLong
  simp
  rw[sizeLine_eq]
  omega
def GR:R2:=fun x y H Q=>match x,y with
 | .int i,.int j=>qL i j∧Q (.int (i*j)) H
 | .str z,.int n=>GQ z n∧Q (.str (S (List.replicate n.toNat z.cps.toList).flatten)) H
 |_,_=>False
theorem Ģ:aC X (binaryOp .Mult) GR:=by
 intro pins s σ H x y v u Q I rx ry h
 unfold GR at h
 split at h
 ·exact Xq pins s σ H _ _ v u Q I rx ry h
 ·obtain⟨t,rfl⟩:=rx
  obtain⟨t',rfl⟩:=ry
  exact SB.mul h.1.ok fun t' k=>⟨.str _,H,I.tok _,⟨_,by rw[mul_eq _ h.1.1]⟩,h.2⟩
 ·exact h.elim
end
end M4
namespace P
def nst:PySem.Expr→Bool
 | .Starred .. =>false
 |_=>true
theorem ř{e:PySem.Expr}{es:List PySem.Expr}{env:PySem.Env}(h:nst e=true):PySem.starEach (e::es) env=(false,PySem.eval e env)::PySem.starEach es env:=by
 cases e<;>first|rfl|cases h
theorem GX{a b:PySem.Expr}{env:PySem.Env}(h:nst a=true)(h2:nst b=true):PySem.starEach [a,b] env=[(false,PySem.eval a env),(false,PySem.eval b env)]:=by
 rw[ř h,ř h2];rfl
open PySem PySem.Spec PyProof.Rows L2 M2
structure KK where
 K:PySem.W.Frag
 cm:String→Addr
abbrev kk(X:Cx)(cm:String→Addr):KK:=⟨X.K,cm⟩
inductive PV where
 |non|bl (b:Bool)|int (i:Int)|str (x:Str)|tup (xs:List PV)|lst (xs:List PV)
 |ins (C:String) (ns:List Str) (xs:List PV)|xc (C:String) (ns:List Str) (xs:List PV)|ty (n:String)|cls (C:String)
def xo(a C:Addr)(d:Option Addr):HO:=.ext fun h=>∃o vs,h.get? a=some o∧o.cls=.ref C∧o.dict=d∧o.data=.fields vs
def qO(F:Hp)(d:Option Addr)(fs:List (Str×V)):Prop:=(d=none∧fs=[])∨∃a,d=some a∧F a=some (.xd fs)
mutual
def Rep(K:KK)(F:Hp):PV→V→Prop
 | .non,v=>v=.non
 | .bl b,v=>v=.bl b
 | .int i,v=>v=.int i
 | .str x,v=>v=.str x
 | .tup ps,v=>∃a xs,v=.ref a∧dF K.K F a xs∧Ī K F ps xs
 | .lst ps,v=>∃a xs,v=.ref a∧aG K.K F a xs∧Ī K F ps xs
 | .ins C ns ps,v=>∃a dx fs,v=.ref a∧F a=some (.ins (K.cm C) dx fs)∧fs.map (·.1)=ns∧Ī K F ps (fs.map (·.2))
 | .xc C ns ps,v=>∃a d fs,v=.ref a∧F a=some (xo a (K.cm C) d)∧qO F d fs∧fs.map (·.1)=ns∧Ī K F ps (fs.map (·.2))
 | .ty n,v=>v=.ty n
 | .cls C,v=>v=.ref (K.cm C)
def Ī(K:KK)(F:Hp):List PV→List V→Prop
 | [],xs=>xs=[]
 |p::ps,xs=>∃x r,xs=x::r∧Rep K F p x∧Ī K F ps r
end
section
variable{K:KK}{F F' H H':Hp}
theorem qO.same{d:Option Addr}{fs:List (Str×V)}(e:Same F F')(h:qO F d fs):qO F' d fs:=by
 rcases h with h|⟨a,h1,h2⟩
 ·exact .inl h
 ·exact .inr ⟨a,h1,e _ _ h2⟩
mutual
theorem Rep.same(e:Same F F'):∀(p:PV) (v:V),Rep K F p v→Rep K F' p v
 | .non,_,h=>by unfold Rep at h ⊢;exact h
 | .bl _,_,h=>by unfold Rep at h ⊢;exact h
 | .int _,_,h=>by unfold Rep at h ⊢;exact h
 | .str _,_,h=>by unfold Rep at h ⊢;exact h
 | .ty _,_,h=>by unfold Rep at h ⊢;exact h
 | .cls _,_,h=>by unfold Rep at h ⊢;exact h
 | .tup ps,_,h=>by
   unfold Rep at h ⊢
   obtain⟨a,xs,h1,h2,h3⟩:=h
   exact⟨a,xs,h1,Same.tup e h2,Ī.same e ps xs h3⟩
 | .lst ps,_,h=>by
   unfold Rep at h ⊢
   obtain⟨a,xs,h1,h2,h3⟩:=h
   exact⟨a,xs,h1,e.seq h2,Ī.same e ps xs h3⟩
 | .ins C ns ps,_,h=>by
   unfold Rep at h ⊢
   obtain⟨a,dx,fs,h1,h2,h3,h4⟩:=h
   exact⟨a,dx,fs,h1,e _ _ h2,h3,Ī.same e ps _ h4⟩
 | .xc C ns ps,_,h=>by
   unfold Rep at h ⊢
   obtain⟨a,d,fs,h1,h2,hd,h3,h4⟩:=h
   exact⟨a,d,fs,h1,e _ _ h2,hd.same e,h3,Ī.same e ps _ h4⟩
theorem Ī.same(e:Same F F'):∀(ps:List PV) (xs:List V),Ī K F ps xs→Ī K F' ps xs
 | [],_,h=>by unfold Ī at h ⊢;exact h
 |p::ps,_,h=>by
  unfold Ī at h ⊢
  obtain⟨x,r,h1,h2,h3⟩:=h
  exact⟨x,r,h1,Rep.same e p x h2,Ī.same e ps r h3⟩
end
theorem Ī.pr:∀{ps:List PV} {vs:List V},Ī K F ps vs→Paired (Rep K F) ps vs
 | [],_,h=>by unfold Ī at h;subst h;exact .nil
 |p::ps,_,h=>by
  unfold Ī at h
  obtain⟨x,r,rfl,h2,h3⟩:=h
  exact .cons h2 (Ī.pr h3)
theorem Ī.of:∀{ps:List PV} {vs:List V},Paired (Rep K F) ps vs→Ī K F ps vs
 | [],_,.nil=>by unfold Ī;rfl
 |p::ps,_,.cons h t=>by unfold Ī;exact⟨_,_,rfl,h,Ī.of t⟩
theorem Ī.nil:Ī K F [] []:=Ī.of .nil
theorem Ī.cons{p:PV}{v:V}{ps:List PV}{vs:List V}(h:Rep K F p v)(t:Ī K F ps vs):Ī K F (p::ps) (v::vs):=Ī.of (.cons h t.pr)
theorem Ī.length{ps:List PV}{vs:List V}(h:Ī K F ps vs):ps.length=vs.length:=Paired.length h.pr
theorem cH{α β:Type}{G:α→β→Prop}:∀{l:List α} {m:List β} {i:Nat} {x:α},Paired G l m→l[i]?=some x→∃y,m[i]?=some y∧G x y
 |_,_,_,_,.nil,e=>by simp at e
 |_,_,0,_,.cons r _,e=>by simp at e;subst e;exact⟨_,rfl,r⟩
 |_,_,i+1,x,.cons _ t,e=>by
  obtain⟨y,h1,h2⟩:=cH (i:=i) (x:=x) t (by simpa using e)
  exact⟨y,by simpa using h1,h2⟩
theorem GZ{α β:Type}{G:α→β→Prop}:∀{l l2:List α} {m m2:List β},Paired G l m→Paired G l2 m2→Paired G (l++l2) (m++m2)
 |_,_,_,_,.nil,t=>t
 |_,_,_,_,.cons r s,t=>.cons r (GZ s t)
theorem G_{α β:Type}{G:α→β→Prop}{x:α}{y:β}(r:G x y):∀{l:List α} {m:List β} (i:Nat),Paired G l m→Paired G (l.set i x) (m.set i y)
 |_,_,_,.nil=>.nil
 |_,_,0,.cons _ t=>.cons r t
 |_,_,i+1,.cons q t=>.cons q (G_ r i t)
theorem Ci{α β:Type}{G:α→β→Prop}:∀{l:List α} {m:List β} (n:Nat),Paired G l m→Paired G (l.take n) (m.take n)
 |_,_,0,_=>.nil
 |_,_,_+1,.nil=>.nil
 |_,_,n+1,.cons r t=>.cons r (Ci n t)
theorem Cj{α β:Type}{G:α→β→Prop}:∀{l:List α} {m:List β} (n:Nat),Paired G l m→Paired G (l.drop n) (m.drop n)
 |_,_,0,h=>h
 |_,_,_+1,.nil=>.nil
 |_,_,n+1,.cons _ t=>Cj n t
theorem Ī.append{ps qs:List PV}{vs us:List V}(h:Ī K F ps vs)(t:Ī K F qs us):Ī K F (ps++qs) (vs++us):=Ī.of (GZ h.pr t.pr)
end
inductive Slot where
 |no|sh (p:PV)|ow (ps:List PV)|bw (ps:List PV)|rc (C:String) (ns:List Str) (ps:List PV)|ot (ps qs:List PV)
abbrev Ŗ:=List Slot
def Slot.own:Slot→Bool
 | .ow _=>true
 | .rc _ _ _=>true
 | .ot _ _=>true
 |_=>false
structure Ctx where
 B:Hp
 F₀:Hp
 /-- what is lent here:read,never changed,never kept -/
 L:Hp
 /-- which objects may be held as one's own:address,dict,class -/
 S:Addr→Addr→String→Prop
def aR(K:KK)(c:Ctx)(F H:Hp)(o:Option V):Slot→Prop
 | .no=>True
 | .sh p=>∃v,o=some v∧Rep K F p v
 | .ow ps=>∃a vs,o=some (.ref a)∧H a=some (.lst vs)∧F a=none∧c.B a=none∧Ī K F ps vs
 | .bw ps=>∃a vs,o=some (.ref a)∧c.L a=some (.lst vs)∧Ī K F ps vs
 | .rc C ns ps=>∃a dx fs,o=some (.ref a)∧H a=some (.ins (K.cm C) dx fs)∧F a=none∧c.B a=none∧fs.map (·.1)=ns∧Ī K F ps (fs.map (·.2))∧c.S a dx C
 | .ot ps qs=>∃p a xs vs,o=some (.ref p)∧F p=some (.tup (xs ++ [.ref a]))∧Ī K F ps xs∧H a=some (.lst vs)∧F a=none∧c.B a=none∧Ī K F qs vs
def Slot.at_(F:Hp)(x:V)(a:Addr):Slot→Prop
 | .ot _ _=>∃p xs,x=.ref p∧F p=some (.tup (xs ++ [.ref a]))
 | .ow _=>x=.ref a
 | .rc _ _ _=>x=.ref a
 |_=>False
def Š(F:Hp)(σ:L2.St)(ρ:Ŗ)(i:Nat)(a:Addr):Prop:=∃s x,ρ[i]?=some s∧σ[i]?=some (some x)∧s.at_ F x a
structure Rel(K:KK)(c:Ctx)(F H:Hp)(σ:L2.St)(ρ:Ŗ):Prop where
 sub:Same F H
 base:Same c.B H
 f0:Same c.F₀ F
 dD:∀a,c.B a≠none→c.F₀ a=none→F a=none
 lent:∀a u,c.L a=some u→H a=some u∧F a=none
 lb:∀a,c.B a=none→c.L a=none
 len:σ.length=ρ.length
 slot:∀(i:Nat) s,ρ[i]?=some s→aR K c F H ((σ[i]?).getD none) s
 sep:∀i j a,Š F σ ρ i a→Š F σ ρ j a→i=j
def lu(F:Hp)(σ:L2.St)(ρ:Ŗ)(a:Addr):Prop:=∀i,¬Š F σ ρ i a
section
variable{K:KK}{c:Ctx}{F F' H H':Hp}{σ:L2.St}{ρ:Ŗ}{a:Addr}{o:HO}
theorem jd{s:Slot}{x:V}(h:s.at_ F x a):s.own=true:=by
 cases s<;>first|rfl|exact h.elim
theorem Rb{s:Slot}{x:V}(e:Same F F')(h:s.at_ F x a):s.at_ F' x a:=by
 cases s with
 |ot ps qs=>obtain⟨p,xs,h1,h2⟩:=h;exact⟨p,xs,h1,e _ _ h2⟩
 |_=>exact h
theorem zA{s:Slot}{x:V}{b:Addr}(h:s.at_ F x a)(h':s.at_ F x b):a=b:=by
 cases s with
 |ot ps qs=>
  obtain⟨p,xs,h1,h2⟩:=h
  obtain⟨q,ys,h3,h4⟩:=h'
  rw[h1] at h3
  cases h3
  rw[h2] at h4
  have e:xs ++ [V.ref a]=ys ++ [V.ref b]:=by
   injection h4 with h4
   injection h4
  have e2:=congrArg List.getLast? e
  simp at e2
  exact e2
 |ow ps=>rw[show x=.ref a from h] at h';cases h';rfl
 |rc C ns ps=>rw[show x=.ref a from h] at h';cases h';rfl
 |no=>exact h.elim
 |sh p=>exact h.elim
 |bw ps=>exact h.elim
theorem aR.grow{s:Slot}{x:Option V}(h:aR K c F H x s)(eF:Same F F')(eH:∀b vs,(∃y,x=some y∧s.at_ F y b)→H b=some vs→F b=none→c.B b=none→H' b=some vs∧F' b=none):aR K c F' H' x s:=by
 cases s with
 |no=>trivial
 |sh p=>obtain⟨v,h1,h2⟩:=h;exact⟨v,h1,h2.same eF p v⟩
 |ow ps=>
  obtain⟨b,vs,h1,h2,h3,h4,h5⟩:=h
  obtain⟨e1,e2⟩:=eH b _ ⟨_,h1,rfl⟩ h2 h3 h4
  exact⟨b,vs,h1,e1,e2,h4,h5.same eF ps vs⟩
 |bw ps=>obtain⟨b,vs,h1,h2,h3⟩:=h;exact⟨b,vs,h1,h2,h3.same eF ps vs⟩
 |rc C ns ps=>
  obtain⟨b,dx,fs,h1,h2,h3,h4,h5,h6⟩:=h
  obtain⟨e1,e2⟩:=eH b _ ⟨_,h1,rfl⟩ h2 h3 h4
  exact⟨b,dx,fs,h1,e1,e2,h4,h5,h6.1.same eF ps _,h6.2⟩
 |ot ps qs=>
  obtain⟨p,b,xs,vs,h1,h2,h3,h4,h5,h6,h7⟩:=h
  obtain⟨e1,e2⟩:=eH b _ ⟨_,h1,p,xs,rfl,h2⟩ h4 h5 h6
  exact⟨p,b,xs,vs,h1,eF _ _ h2,h3.same eF ps xs,e1,e2,h6,h7.same eF qs vs⟩
theorem aR.owned{s:Slot}{x:Option V}(h:aR K c F H x s)(hs:s.own=true):∃b u y,x=some y∧s.at_ F y b∧H b=some u∧F b=none∧c.B b=none:=by
 cases s with
 |no=>cases hs
 |sh p=>cases hs
 |bw ps=>cases hs
 |ow ps=>obtain⟨b,vs,h1,h2,h3,h4,h5⟩:=h;exact⟨b,_,_,h1,rfl,h2,h3,h4⟩
 |rc C ns ps=>obtain⟨b,dx,fs,h1,h2,h3,h4,h5,h6⟩:=h;exact⟨b,_,_,h1,rfl,h2,h3,h4⟩
 |ot ps qs=>obtain⟨p,b,xs,vs,h1,h2,h3,h4,h5,h6,h7⟩:=h;exact⟨b,_,_,h1,⟨p,xs,rfl,h2⟩,h4,h5,h6⟩
theorem gb{i:Nat}{x:V}(e:σ[i]?=some (some x)):(σ[i]?).getD none=some x:=by rw[e];rfl
theorem Hf{i:Nat}{x:V}(e:(σ[i]?).getD none=some x):σ[i]?=some (some x):=by
 cases q:σ[i]? with
 |none=>rw[q] at e;cases e
 |some y=>rw[q] at e;exact congrArg some e
theorem Rel.owned(r:Rel K c F H σ ρ){i:Nat}(h:Š F σ ρ i a):(∃u,H a=some u)∧F a=none∧c.B a=none:=by
 obtain⟨s,x,h1,h2,h3⟩:=h
 obtain⟨b,u,y,e,q0,q⟩:=(r.slot i s h1).owned (jd h3)
 rw[gb h2] at e
 cases e
 cases zA h3 q0
 exact⟨⟨u,q.1⟩,q.2⟩
theorem Rel.back(r:Rel K c F H σ ρ)(e:Same F F'){i:Nat}(h:Š F' σ ρ i a):Š F σ ρ i a:=by
 obtain⟨s,x,h1,h2,h3⟩:=h
 obtain⟨b,u,y,e1,q0,q⟩:=(r.slot i s h1).owned (jd h3)
 rw[gb h2] at e1
 cases e1
 cases zA h3 (Rb e q0)
 exact⟨s,x,h1,h2,q0⟩
theorem Rel.XC(r:Rel K c F H σ ρ)(e:Same F F'):∀i j a,Š F' σ ρ i a→Š F' σ ρ j a→i=j:=fun i j a h1 h2=>r.sep i j a (r.back e h1) (r.back e h2)
theorem Rel.tW(r:Rel K c F H σ ρ)(e:Same F F')(h:lu F σ ρ a):lu F' σ ρ a:=fun i q=>h i (r.back e q)
theorem Rel.fresh(r:Rel K c F H σ ρ)(h:H a=none):lu F σ ρ a:=fun i q=>by
 obtain⟨⟨u,e⟩,_⟩:=r.owned q
 rw[h] at e;cases e
theorem Rel.alloc(r:Rel K c F H σ ρ)(h:H a=none):Rel K c (upd F a o) (upd H a o) σ ρ where
 sub:=fun b u e=>by
  by_cases hb:b=a
  ·subst hb;rw[ľ] at e ⊢;exact e
  ·rw[į hb] at e ⊢;exact r.sub b u e
 base:=fun b u e=>by
  have hb:b≠a:=fun z=>by rw[z] at e;rw[r.base _ _ e] at h;cases h
  rw[į hb];exact r.base b u e
 f0:=fun b u e=>by
   have hb:b≠a:=fun z=>by rw[z] at e;rw[r.sub _ _ (r.f0 _ _ e)] at h;cases h
   rw[į hb];exact r.f0 b u e
 dD:=fun b h1 h2=>by
  have hb:b≠a:=fun z=>by
   subst z
   cases q:c.B b with
   |none=>exact h1 q
   |some u=>rw[r.base _ _ q] at h;cases h
  rw[į hb];exact r.dD b h1 h2
 lent:=fun b u e=>by
  obtain⟨h1,h2⟩:=r.lent b u e
  have hb:b≠a:=fun z=>by rw[z,h] at h1;cases h1
  rw[į hb,į hb];exact⟨h1,h2⟩
 lb:=r.lb
 len:=r.len
 slot:=fun i s e=>by
  have hF:F a=none:=r.sub.free h
  refine(r.slot i s e).grow (Same.upd hF) fun b u _ h1 h2 h3=>?_
  have hb:b≠a:=fun z=>by rw[z,h] at h1;cases h1
  rw[į hb,į hb];exact⟨h1,h2⟩
 sep:=r.XC (Same.upd (r.sub.free h))
theorem Rel.made(r:Rel K c F H σ ρ)(h:H a=none):Rel K c F (upd H a o) σ ρ where
 sub:=r.sub.trans (Same.upd h)
 base:=r.base.trans (Same.upd h)
 f0:=r.f0
 dD:=r.dD
 lent:=fun b u e=>⟨Same.upd h b u (r.lent b u e).1,(r.lent b u e).2⟩
 lb:=r.lb
 len:=r.len
 slot:=fun i s e=>(r.slot i s e).grow (Same.refl F) fun b u _ h1 h2 h3=>⟨Same.upd h b u h1,h2⟩
 sep:=r.sep
theorem Rel.freeze(r:Rel K c F H σ ρ)(h:H a=some o)(hB:c.B a=none)(hF:F a=none)(hf:lu F σ ρ a):Rel K c (upd F a o) H σ ρ where
 sub:=fun b u e=>by
  by_cases hb:b=a
  ·subst hb;rw[ľ] at e;rw[h];exact e
  ·rw[į hb] at e;exact r.sub b u e
 base:=r.base
 f0:=r.f0.trans (Same.upd hF)
 dD:=fun b h1 h2=>by
  have hb:b≠a:=fun z=>h1 (by rw[z];exact hB)
  rw[į hb];exact r.dD b h1 h2
 lent:=fun b u e=>by
  have hb:b≠a:=fun z=>by rw[z,r.lb a hB] at e;cases e
  rw[į hb];exact r.lent b u e
 lb:=r.lb
 len:=r.len
 slot:=fun i s e=>(r.slot i s e).grow (Same.upd hF) fun b' u' ⟨y,e1',ha⟩ h1 h2 h3=>by
  have hb:b'≠a:=fun z=>by
   subst z
   exact hf i ⟨s,y,e,Hf e1',ha⟩
  rw[į hb];exact⟨h1,h2⟩
 sep:=r.XC (Same.upd hF)
theorem bI{α:Type}{l:List α}{i j:Nat}{x y:α}(h:(l.set i x)[j]?=some y):(j=i∧y=x∧i<l.length)∨(j≠i∧l[j]?=some y):=by
 by_cases hj:j=i
 ·subst hj
  have hl:j<l.length:=by
   have:=(List.getElem?_eq_some_iff.mp h).1
   simpa using this
  rw[List.getElem?_set_self hl] at h
  exact .inl ⟨rfl,(Option.some.inj h).symm,hl⟩
 ·rw[List.getElem?_set_ne (Ne.symm hj)] at h
  exact .inr ⟨hj,h⟩
theorem Hg{l:L2.St}{i:Nat}{x:Option V}(h:i<l.length):((l.set i x)[i]?).getD none=x:=by rw[List.getElem?_set_self h];rfl
theorem Ck{l:L2.St}{i j:Nat}{x:Option V}(h:j≠i):((l.set i x)[j]?).getD none=(l[j]?).getD none:=by rw[List.getElem?_set_ne (Ne.symm h)]
theorem Š.off{i j:Nat}{x:Option V}{s:Slot}(h:Š F (σ.set i x) (ρ.set i s) j a)(hj:j≠i):Š F σ ρ j a:=by
 obtain⟨s',y,h1,h2,h3⟩:=h
 rw[List.getElem?_set_ne (Ne.symm hj)] at h1 h2
 exact⟨s',y,h1,h2,h3⟩
theorem Rel.put(r:Rel K c F H σ ρ){i:Nat}{x:Option V}{s:Slot}(hs:s.own=false)(h:aR K c F H x s):Rel K c F H (σ.set i x) (ρ.set i s) where
 sub:=r.sub
 base:=r.base
 f0:=r.f0
 dD:=r.dD
 lent:=r.lent
 lb:=r.lb
 len:=by simpa using r.len
 slot:=fun j s' e=>by
  rcases bI e with⟨rfl,rfl,hl⟩|⟨hj,e⟩
  ·rw[Hg (by rw[r.len];exact hl)];exact h
  ·rw[Ck hj];exact r.slot j s' e
 sep:=fun j k b h1 h2=>by
  have off:∀{j},Š F (σ.set i x) (ρ.set i s) j b→j≠i:=fun{j} q z=>by
   subst z
   obtain⟨s',y,q1,_,q2⟩:=q
   rcases bI q1 with⟨_,rfl,_⟩|⟨q,_⟩
   ·have:=jd q2;rw[hs] at this;cases this
   ·exact q rfl
  exact r.sep j k b (h1.off (off h1)) (h2.off (off h2))
theorem Rel.TQ(r:Rel K c F H σ ρ){i:Nat}{s:Slot}(hs:s.own=false)(h:aR K c F H ((σ[i]?).getD none) s):Rel K c F H σ (ρ.set i s) where
 sub:=r.sub
 base:=r.base
 f0:=r.f0
 dD:=r.dD
 lent:=r.lent
 lb:=r.lb
 len:=by simpa using r.len
 slot:=fun j s' e=>by
  rcases bI e with⟨rfl,rfl,hl⟩|⟨hj,e⟩
  ·exact h
  ·exact r.slot j s' e
 sep:=fun j k b h1 h2=>by
  have off:∀{j},Š F σ (ρ.set i s) j b→Š F σ ρ j b:=fun{j} ⟨s',y,q1,q3,q2⟩=>by
   rcases bI q1 with⟨_,rfl,_⟩|⟨_,q⟩
   ·have:=jd q2;rw[hs] at this;cases this
   ·exact⟨s',y,q,q3,q2⟩
  exact r.sep j k b (off h1) (off h2)
theorem Rel.Rf(r:Rel K c F H σ ρ){i:Nat}{x:V}{s:Slot}(h:aR K c F H (some x) s)(ha:s.at_ F x a)(hf:lu F σ ρ a):Rel K c F H (σ.set i (some x)) (ρ.set i s) where
 sub:=r.sub
 base:=r.base
 f0:=r.f0
 dD:=r.dD
 lent:=r.lent
 lb:=r.lb
 len:=by simpa using r.len
 slot:=fun j s' e=>by
  rcases bI e with⟨rfl,rfl,hl⟩|⟨hj,e⟩
  ·rw[Hg (by rw[r.len];exact hl)];exact h
  ·rw[Ck hj];exact r.slot j s' e
 sep:=fun j k b h1 h2=>by
  have XD:∀{j},Š F (σ.set i (some x)) (ρ.set i s) j b→(j=i∧b=a)∨(j≠i∧Š F σ ρ j b∧b≠a):=fun{j} q=>by
   by_cases hj:j=i
   ·subst hj
    obtain⟨s',y,q1,q2,q3⟩:=q
    rcases bI q2 with⟨_,e,_⟩|⟨z,_⟩
    ·cases e
     rcases bI q1 with⟨_,e,_⟩|⟨z,_⟩
     ·cases e
      exact .inl ⟨rfl,zA q3 ha⟩
     ·exact absurd rfl z
    ·exact absurd rfl z
   ·exact .inr ⟨hj,q.off hj,fun z=>hf j (z▸q.off hj)⟩
  rcases XD h1 with⟨e1,z1⟩|⟨e1,o1,z1⟩
  ·rcases XD h2 with⟨e2,z2⟩|⟨e2,o2,z2⟩
   ·rw[e1,e2]
   ·exact absurd z1 z2
  ·rcases XD h2 with⟨e2,z2⟩|⟨e2,o2,z2⟩
   ·exact absurd z2 z1
   ·exact r.sep j k b o1 o2
theorem Rel.XF(r:Rel K c F H σ ρ){i:Nat}{s:Slot}(ho:Š F σ ρ i a)(h:aR K c F (upd H a o) ((σ[i]?).getD none) s)(hs:∀x b,σ[i]?=some (some x)→s.at_ F x b→b=a):Rel K c F (upd H a o) σ (ρ.set i s) where
 sub:=fun b u e=>by
  have hb:b≠a:=fun z=>by rw[z,(r.owned ho).2.1] at e;cases e
  rw[į hb];exact r.sub b u e
 base:=fun b u e=>by
  have hb:b≠a:=fun z=>by rw[z,(r.owned ho).2.2] at e;cases e
  rw[į hb];exact r.base b u e
 f0:=r.f0
 dD:=r.dD
 lent:=fun b u e=>by
  have hb:b≠a:=fun z=>by rw[z,r.lb a (r.owned ho).2.2] at e;cases e
  rw[į hb];exact r.lent b u e
 lb:=r.lb
 len:=by simpa using r.len
 slot:=fun j s' e=>by
  rcases bI e with⟨rfl,rfl,hl⟩|⟨hj,e⟩
  ·exact h
  ·refine(r.slot j s' e).grow (Same.refl F) fun b u ⟨y,e1,e2⟩ h1 h2 h3=>?_
   have hb:b≠a:=fun z=>by
    subst z
    exact hj (r.sep j i b ⟨s',y,e,Hf e1,e2⟩ ho)
   exact⟨by rw[į hb];exact h1,h2⟩
 sep:=fun j k b h1 h2=>by
  have off:∀{j},Š F σ (ρ.set i s) j b→Š F σ ρ j b:=fun{j} ⟨s',y,q1,q3,q2⟩=>by
   rcases bI q1 with⟨e,rfl,_⟩|⟨_,q⟩
   ·subst e
    rw[hs y b q3 q2]
    exact ho
   ·exact⟨s',y,q,q3,q2⟩
  exact r.sep j k b (off h1) (off h2)
theorem Rel.write(r:Rel K c F H σ ρ){i:Nat}{s:Slot}(ho:Š F σ ρ i a)(hx:σ[i]?=some (some (.ref a)))(h:aR K c F (upd H a o) (some (.ref a)) s)(hs:∀b,s.at_ F (.ref a) b→b=a):Rel K c F (upd H a o) σ (ρ.set i s):=
 r.XF ho (by rw[hx];exact h) fun x b e q=>by rw[hx] at e;cases e;exact hs b q
structure Gr(F H F' H':Hp):Prop where
 h:Same H H'
 f:Same F F'
 sub:Same F' H'
 out:∀a,H a≠none→F a=none→F' a=none
theorem Rel.call(r:Rel K c F H σ ρ)(g:Gr F H F' H'):Rel K c F' H' σ ρ where
 sub:=g.sub
 base:=r.base.trans g.h
 f0:=r.f0.trans g.f
 dD:=fun b h1 h2=>by
  refine g.out b (fun z=>h1 ?_) (r.dD b h1 h2)
  cases q:c.B b with
  |none=>rfl
  |some u=>rw[r.base _ _ q] at z;cases z
 lent:=fun b u e=>⟨g.h b u (r.lent b u e).1,g.out b (by rw[(r.lent b u e).1];intro z;cases z) (r.lent b u e).2⟩
 lb:=r.lb
 len:=r.len
 slot:=fun i s e=>(r.slot i s e).grow g.f fun b u _ h1 h2 h3=>⟨g.h b u h1,g.out b (by rw[h1];intro z;cases z) h2⟩
 sep:=r.XC g.f
def ctx0(F H:Hp):Ctx:=⟨H,F,fun a=>match F a with
 |none=>H a
 |some _=>none,fun _ _ _=>True⟩
theorem gj{a:Addr}{u:HO}(h:(ctx0 F H).L a=some u):H a=some u∧F a=none:=by
 unfold ctx0 at h
 dsimp only at h
 cases q:F a with
 |none=>rw[q] at h;exact⟨h,rfl⟩
 |some o=>rw[q] at h;cases h
theorem Rel.gr(r:Rel K (ctx0 F H) F' H' σ ρ):Gr F H F' H':=⟨r.base,r.f0,r.sub,r.dD⟩
def cI(K:KK)(F H:Hp):Slot→V→Prop
 | .sh p,v=>Rep K F p v
 | .bw ps,v=>∃a vs,v=.ref a∧H a=some (.lst vs)∧F a=none∧Ī K F ps vs
 |_,_=>False
theorem cI.slot{s:Slot}{v:V}(h:cI K F H s v):aR K (ctx0 F H) F H (some v) s∧s.own=false:=by
 cases s with
 |sh p=>exact⟨⟨v,rfl,h⟩,rfl⟩
 |bw ps=>
  obtain⟨a,vs,rfl,h1,h2,h3⟩:=h
  refine⟨⟨a,vs,rfl,?_,h3⟩,rfl⟩
  show(match F a with|none=>H a|some _=>none)=_
  rw[h2]
  exact h1
 |no=>exact h.elim
 |ow ps=>exact h.elim
 |rc C ns ps=>exact h.elim
 |ot ps qs=>exact h.elim
def startP(n:Nat)(as:List Slot):Ŗ:=as++List.replicate (n-as.length) .no
theorem Rel.start{N:List Str}{as:List Slot}{vs:List V}(s:Same F H)(h:Paired (cI K F H) as vs):Rel K (ctx0 F H) F H (L2.start N vs) (startP N.length as) where
 sub:=s
 base:=Same.refl H
 f0:=Same.refl F
 dD:=fun _ _ h=>h
 lent:=fun _ _ e=>gj e
 lb:=fun a e=>by
   cases q:(ctx0 F H).L a with
   |none=>rfl
   |some u=>
    have e':H a=none:=e
    rw[(gj q).1] at e'
    cases e'
 len:=by unfold L2.start startP;simp[Paired.length h]
 slot:=fun i s' e=>by
  unfold startP at e
  by_cases hi:i<as.length
  ·rw[List.getElem?_append_left hi] at e
   obtain⟨v,h1,h2⟩:=cH h e
   have hv:((L2.start N vs)[i]?).getD none=some v:=by
    unfold L2.start
    rw[List.getElem?_append_left (by simpa[←Paired.length h] using hi),List.getElem?_map,h1];rfl
   rw[hv]
   exact(cI.slot h2).1
  ·rw[List.getElem?_append_right (by omega),List.getElem?_replicate] at e
   split at e
   ·cases e;trivial
   ·cases e
 sep:=fun i j a h1 _=>by
  obtain⟨s',y,h1,_,h2⟩:=h1
  have h2:=jd h2
  exfalso
  unfold startP at h1
  by_cases hi:i<as.length
  ·rw[List.getElem?_append_left hi] at h1
   obtain⟨v,_,h3⟩:=cH h h1
   rw[(cI.slot h3).2] at h2
   cases h2
  ·rw[List.getElem?_append_right (by omega),List.getElem?_replicate] at h1
   split at h1
   ·cases h1;cases h2
   ·cases h1
end
structure PX where
 C:String
 ns:List Str
 ps:List PV
def Rg(K:KK)(F:Hp)(x:PX)(C:Value)(d:Option Addr):Prop:=C=.ref (K.cm x.C)∧∃fs,qO F d fs∧fs.map (·.1)=x.ns∧Ī K F x.ps (fs.map (·.2))
inductive Res(α:Type) where
 |ok (a:α) (ρ:Ŗ)|exc (x:PX) (ρ:Ŗ)|bad
def Res.bind{α β:Type}(r:Res α)(f:α→Ŗ→Res β):Res β:= match r with
 | .ok a ρ=>f a ρ
 | .exc x ρ=>.exc x ρ
 | .bad=>.bad
@[simp] theorem Res.aU{α β:Type}{a:α}{ρ:Ŗ}{f:α→Ŗ→Res β}:(Res.ok a ρ).bind f=f a ρ:= rfl
@[simp] theorem Res.ZcC{α β:Type}{x:PX}{ρ:Ŗ}{f:α→Ŗ→Res β}:(Res.exc x ρ:Res α).bind f=.exc x ρ:= rfl
@[simp] theorem Res.ZcD{α β:Type}{f:α→Ŗ→Res β}:(Res.bad:Res α).bind f=.bad:=rfl
def Res.mV{α:Type}(o:Option α)(ρ:Ŗ):Res α:= match o with
 |some a=>.ok a ρ
 |none=>.bad
@[simp] theorem Res.ZcE{α:Type}{a:α}{ρ:Ŗ}:Res.mV (some a) ρ=.ok a ρ:= rfl
@[simp] theorem Res.ZcF{α:Type}{ρ:Ŗ}:Res.mV (none:Option α) ρ=.bad:=rfl
abbrev M(α:Type):=Ŗ→Res α
inductive RV where
 |sh (p:PV)|ow (ps:List PV)|ot (ps qs:List PV)
def RV.val:RV→PV
 | .sh p=>p
 | .ow ps=>.lst ps
 | .ot ps qs=>.tup (ps ++ [.lst qs])
def RV.slot:RV→Slot
 | .sh p=>.sh p
 | .ow ps=>.ow ps
 | .ot ps qs=>.ot ps qs
abbrev RR(α β:Type):=Ctx→L2.St→Ŗ→Hp→Hp→α→β→Prop
def rV(K:KK):RR PV V:=fun _ _ _ F _ p v=>Rep K F p v
def Cm(K:KK)(F H:Hp)(p:PV)(v:V):Prop:=match p with
 | .lst ps=>∃a vs,v=.ref a∧H a=some (.lst vs)∧Ī K F ps vs
 | .ins C ns ps=>∃a dx fs,v=.ref a∧H a=some (.ins (K.cm C) dx fs)∧fs.map (·.1)=ns∧Ī K F ps (fs.map (·.2))
 |_=>False
def rR(K:KK):RR PV V:=fun _ _ _ F H p v=>Rep K F p v∨Cm K F H p v
def rA(K:KK):RR (List Slot) (List V):=fun _ _ _ F H as vs=>Paired (cI K F H) as vs
def Held(K:KK)(c:Ctx)(σ:L2.St)(ρ:Ŗ)(F H:Hp)(ps:List PV)(v:V):Prop:=∃a vs,v=.ref a∧H a=some (.lst vs)∧F a=none∧c.B a=none∧lu F σ ρ a∧Ī K F ps vs
def Cp(K:KK)(c:Ctx)(σ:L2.St)(ρ:Ŗ)(F H:Hp)(ps qs:List PV)(v:V):Prop:=∃p a xs vs,v=.ref p∧F p=some (.tup (xs ++ [.ref a]))∧Ī K F ps xs∧H a=some (.lst vs)∧F a=none∧c.B a=none∧lu F σ ρ a∧Ī K F qs vs
def rO(K:KK):RR RV V:=fun c σ ρ F H r v=>match r with
 | .sh p=>Rep K F p v
 | .ow ps=>Held K c σ ρ F H ps v
 | .ot ps qs=>Cp K c σ ρ F H ps qs v
def rL(K:KK):RR (List PV) (List V):=fun _ _ _ F _ p v=>Ī K F p v
def rRL(K:KK):RR (List PV) (List V):=fun c σ ρ F H p v=>Paired (rR K c σ ρ F H) p v
def rB:RR Bool Bool:=fun _ _ _ _ _ p v=>p=v
def rI:RR (Option Int) (Option Int):=fun _ _ _ _ _ p v=>p=v
def bH{α β:Type}(K:KK)(E:L2.St→XK)(R:RR α β)(c:Ctx)(F H:Hp)(σ:L2.St)(Q:β→Hp→Prop):Res α→Prop
 | .ok p ρ'=>∀v F' H',Rel K c F' H' σ ρ'→Same F F'→Same H H'→R c σ ρ' F' H' p v→Q v H'
 | .exc x ρ'=>∀C d F' H',Rel K c F' H' σ ρ'→Same F F'→Rg K F' x C d→E σ C d H'
 | .bad=>False
def tG{α β:Type}(K:KK)(E:L2.St→XK)(R:RR α β)(m:M α):L2.St→Hp→(β→Hp→Prop)→Prop:=fun σ H Q=>∃c F ρ,Rel K c F H σ ρ∧bH K E R c F H σ Q (m ρ)
section
variable{α β α' β':Type}{K:KK}{E:L2.St→XK}{R:RR α β}{R':RR α' β'}{c:Ctx}{F F1 H H1:Hp}{σ:L2.St}
theorem bH.mono{Q:β→Hp→Prop}{r:Res α}(h:bH K E R c F H σ Q r)(sF:Same F F1)(sH:Same H H1):bH K E R c F1 H1 σ Q r:=by
 cases r with
 |ok p ρ'=>exact fun v F' H' rel s1 s2 q=>h v F' H' rel (sF.trans s1) (sH.trans s2) q
 |exc x ρ'=>exact fun C d F' H' rel s1 q=>h C d F' H' rel (sF.trans s1) q
 |bad=>exact h
theorem bH.bind{Q:β→Hp→Prop}{Q':β'→Hp→Prop}{r:Res α}{f:α→Ŗ→Res α'}(h:bH K E R' c F H σ Q' (r.bind f))
 (k:∀p ρ1 v F1 H1,Rel K c F1 H1 σ ρ1→Same F F1→Same H H1→R c σ ρ1 F1 H1 p v→bH K E R' c F1 H1 σ Q' (f p ρ1)→Q v H1):bH K E R c F H σ Q r:=by
 cases r with
 |ok p ρ'=>exact fun v F' H' rel s1 s2 q=>k p ρ' v F' H' rel s1 s2 q (bH.mono (show bH K E R' c F H σ Q' (f p ρ') from h) s1 s2)
 |exc x ρ'=>exact h
 |bad=>exact h
theorem bH.rel{R2:RR α β}{Q:β→Hp→Prop}{r:Res α}(h:bH K E R c F H σ Q r)(k:∀p ρ' v F' H',Rel K c F' H' σ ρ'→R2 c σ ρ' F' H' p v→R c σ ρ' F' H' p v):bH K E R2 c F H σ Q r:=by
 cases r with
 |ok p ρ'=>exact fun v F' H' rel s1 s2 q=>h v F' H' rel s1 s2 (k p ρ' v F' H' rel q)
 |exc x ρ'=>exact h
 |bad=>exact h
end
abbrev tV(K:KK)(E:L2.St→XK)(m:M PV):TE:=tG K E (rV K) m
abbrev tR(K:KK)(E:L2.St→XK)(m:M PV):TE:=tG K E (rR K) m
abbrev tO(K:KK)(E:L2.St→XK)(m:M RV):TE:=tG K E (rO K) m
abbrev tL(K:KK)(E:L2.St→XK)(m:M (List PV)):TA:=tG K E (rL K) m
abbrev tA(K:KK)(E:L2.St→XK)(m:M (List Slot)):TA:=tG K E (rA K) m
abbrev tRL(K:KK)(E:L2.St→XK)(m:M (List PV)):TA:=tG K E (rRL K) m
abbrev tB(K:KK)(E:L2.St→XK)(m:M Bool):TT:=tG K E rB m
inductive Fl where
 |nx|bk|ct|rt (r:RV)
def Ž(K:KK)(E:L2.St→XK)(c:Ctx)(F:Hp)(D:Ends):Res Fl→Prop
 | .ok .nx ρ'=>∀σ' F' H',Rel K c F' H' σ' ρ'→Same F F'→D.nx σ' H'
 | .ok .bk ρ'=>∀σ' F' H',Rel K c F' H' σ' ρ'→Same F F'→D.bk σ' H'
 | .ok .ct ρ'=>∀σ' F' H',Rel K c F' H' σ' ρ'→Same F F'→D.ct σ' H'
 | .ok (.rt r) ρ'=>∀v σ' F' H',Rel K c F' H' σ' ρ'→Same F F'→rO K c σ' ρ' F' H' r v→D.rt v H'
 | .exc x ρ'=>∀σ' C d F' H',Rel K c F' H' σ' ρ'→Same F F'→Rg K F' x C d→E σ' C d H'
 | .bad=>False
def tS(K:KK)(E:L2.St→XK)(m:M Fl):TS:=fun D σ H=>∃c F ρ,Rel K c F H σ ρ∧Ž K E c F D (m ρ)
section
variable{K:KK}{E:L2.St→XK}{c:Ctx}{F F1:Hp}{D:Ends}
theorem Ž.mono{r:Res Fl}(h:Ž K E c F D r)(sF:Same F F1):Ž K E c F1 D r:=by
 cases r with
 |ok f ρ'=>
  cases f with
  |rt v=>exact fun v σ' F' H' rel s1 q=>h v σ' F' H' rel (sF.trans s1) q
  |nx=>exact fun σ' F' H' rel s1=>h σ' F' H' rel (sF.trans s1)
  |bk=>exact fun σ' F' H' rel s1=>h σ' F' H' rel (sF.trans s1)
  |ct=>exact fun σ' F' H' rel s1=>h σ' F' H' rel (sF.trans s1)
 |exc x ρ'=>exact fun σ' C d F' H' rel s1 q=>h σ' C d F' H' rel (sF.trans s1) q
 |bad=>exact h
theorem Ž.bind{α β:Type}{R:RR α β}{σ:L2.St}{H:Hp}{Q:β→Hp→Prop}{r:Res α}{f:α→Ŗ→Res Fl}(h:Ž K E c F D (r.bind f))
 (k:∀p ρ1 v F1 H1,Rel K c F1 H1 σ ρ1→Same F F1→R c σ ρ1 F1 H1 p v→Ž K E c F1 D (f p ρ1)→Q v H1):bH K E R c F H σ Q r:=by
 cases r with
 |ok p ρ'=>exact fun v F' H' rel s1 s2 q=>k p ρ' v F' H' rel s1 q (Ž.mono (show Ž K E c F D (f p ρ') from h) s1)
 |exc x ρ'=>exact fun C d F' H' rel s1 q=>h σ C d F' H' rel s1 q
 |bad=>exact h
end
end P
namespace P
open PySem PySem.Spec PyProof.Rows L2 M2
def ę(i:Nat):M PV:=fun ρ=>match ρ[i]? with
 |some (.sh p)=>.ok p ρ
 |some (.ow ps)=>.ok (.lst ps) (ρ.set i (.sh (.lst ps)))
 |_=>.bad
def Ā(i:Nat):M PV:=fun ρ=>match ρ[i]? with
 |some (.sh p)=>.ok p ρ
 |some (.ow ps)=>.ok (.lst ps) ρ
 |some (.bw ps)=>.ok (.lst ps) ρ
 |some (.rc C ns ps)=>.ok (.ins C ns ps) ρ
 |_=>.bad
def cJ(i:Nat):M RV:=fun ρ=>match ρ[i]? with
 |some (.sh p)=>.ok (.sh p) ρ
 |some (.ow ps)=>.ok (.ow ps) (ρ.set i .no)
 |_=>.bad
def mC(p:PV):M PV:=fun ρ=>.ok p ρ
def Ř(m:M PV):M RV:=fun ρ=>(m ρ).bind fun p ρ1=>.ok (.sh p) ρ1
def Ę(m:M RV):M PV:=fun ρ=>(m ρ).bind fun r ρ1=>.ok r.val ρ1
section
variable{K:KK}{c:Ctx}{F H:Hp}{σ:L2.St}{ρ:Ŗ}
theorem at_of{i:Nat}{x:V}(h:(σ[i]?).getD none=some x):σ[i]?=some (some x):=by
 cases q:σ[i]? with
 |none=>rw[q] at h;cases h
 |some y=>rw[q] at h;exact congrArg some h
theorem Rel.ow(r:Rel K c F H σ ρ){i:Nat}{ps:List PV}(e:ρ[i]?=some (.ow ps)):∃a vs,σ[i]?=some (some (.ref a))∧H a=some (.lst vs)∧F a=none∧c.B a=none∧Ī K F ps vs∧Š F σ ρ i a:=by
 obtain⟨a,vs,h1,h2,h3,h4,h5⟩:=r.slot i _ e
 exact⟨a,vs,at_of h1,h2,h3,h4,h5,⟨_,_,e,at_of h1,rfl⟩⟩
theorem Rel.move(r:Rel K c F H σ ρ){i:Nat}{a:Addr}(h:Š F σ ρ i a):Rel K c F H σ (ρ.set i .no)∧lu F σ (ρ.set i .no) a:=by
 refine⟨r.TQ rfl trivial,fun j ⟨s,y,q1,q3,q2⟩=>?_⟩
 rcases bI q1 with⟨_,rfl,_⟩|⟨hj,q⟩
 ·exact q2.elim
 ·exact hj (r.sep j i a ⟨s,y,q,q3,q2⟩ h)
theorem Rel.share(r:Rel K c F H σ ρ){i:Nat}{ps:List PV}(e:ρ[i]?=some (.ow ps)):∃a vs,σ[i]?=some (some (.ref a))∧F a=none∧Rep K (upd F a (.lst vs)) (.lst ps) (.ref a)∧Rel K c (upd F a (.lst vs)) H σ (ρ.set i (.sh (.lst ps))):=by
 obtain⟨a,vs,h1,h2,h3,h4,h5,ho⟩:=r.ow e
 obtain⟨m1,m2⟩:=r.move ho
 have rp:Rep K (upd F a (.lst vs)) (.lst ps) (.ref a):=by
  unfold Rep
  exact⟨a,vs,rfl,aG.of ľ,h5.same (Same.upd h3) ps vs⟩
 have q:=(m1.freeze h2 h4 h3 m2).TQ (i:=i) (s:=.sh (.lst ps)) rfl (show aR K c _ H _ (.sh (.lst ps)) from⟨.ref a,by rw[h1];rfl,rp⟩)
 rw[List.set_set] at q
 exact⟨a,vs,h1,h3,rp,q⟩
theorem Cm.mono{F1 H1:Hp}{p:PV}{v:V}(h:Cm K F H p v)(sF:Same F F1)(sH:Same H H1):Cm K F1 H1 p v:=by
 cases p with
 |lst ps=>
  obtain⟨a,vs,h2,h3,h4⟩:=h
  exact⟨a,vs,h2,sH _ _ h3,h4.same sF ps vs⟩
 |ins C ns ps=>
  obtain⟨a,dx,fs,h2,h3,h4,h5⟩:=h
  exact⟨a,dx,fs,h2,sH _ _ h3,h4,h5.same sF ps _⟩
 |_=>exact h.elim
theorem rR.mono{c:Ctx}{σ:L2.St}{ρ ρ':Ŗ}{F1 H1:Hp}{p:PV}{v:V}(h:rR K c σ ρ F H p v)(sF:Same F F1)(sH:Same H H1):rR K c σ ρ' F1 H1 p v:=by
 rcases h with h|h
 ·exact .inl (h.same sF p v)
 ·exact .inr (h.mono sF sH)
theorem rR.lst{c:Ctx}{σ:L2.St}{ρ:Ŗ}{ps:List PV}{v:V}(s:Same F H)(h:rR K c σ ρ F H (.lst ps) v):∃a vs,v=.ref a∧aG K.K H a vs∧Ī K F ps vs:=by
 rcases h with h|⟨a,vs,h2,h3,h4⟩
 ·unfold Rep at h
  obtain⟨a,xs,h1,h2,h3⟩:=h
  exact⟨a,xs,h1,s.seq h2,h3⟩
 ·exact⟨a,vs,h2,aG.of h3,h4⟩
theorem rR.tup{c:Ctx}{σ:L2.St}{ρ:Ŗ}{ps:List PV}{v:V}(s:Same F H)(h:rR K c σ ρ F H (.tup ps) v):∃a vs,v=.ref a∧dF K.K H a vs∧Ī K F ps vs:=by
 rcases h with h|h
 ·unfold Rep at h
  obtain⟨a,xs,h1,h2,h3⟩:=h
  exact⟨a,xs,h1,Same.tup s h2,h3⟩
 ·exact h.elim
theorem rR.int{c:Ctx}{σ:L2.St}{ρ:Ŗ}{i:Int}{v:V}(h:rR K c σ ρ F H (.int i) v):v=.int i:=by
 rcases h with h|h
 ·unfold Rep at h;exact h
 ·exact h.elim
theorem rR.str{c:Ctx}{σ:L2.St}{ρ:Ŗ}{i:Str}{v:V}(h:rR K c σ ρ F H (.str i) v):v=.str i:=by
 rcases h with h|h
 ·unfold Rep at h;exact h
 ·exact h.elim
theorem rR.bl{c:Ctx}{σ:L2.St}{ρ:Ŗ}{i:Bool}{v:V}(h:rR K c σ ρ F H (.bl i) v):v=.bl i:=by
 rcases h with h|h
 ·unfold Rep at h;exact h
 ·exact h.elim
theorem rR.non{c:Ctx}{σ:L2.St}{ρ:Ŗ}{v:V}(h:rR K c σ ρ F H .non v):v=.non:=by
 rcases h with h|h
 ·unfold Rep at h;exact h
 ·exact h.elim
theorem rR.ty{c:Ctx}{σ:L2.St}{ρ:Ŗ}{n:String}{v:V}(h:rR K c σ ρ F H (.ty n) v):v=.ty n:=by
 rcases h with h|h
 ·unfold Rep at h;exact h
 ·exact h.elim
theorem Rep.int{i:Int}:Rep K F (.int i) (.int i):=by unfold Rep;rfl
theorem Rep.str{i:Str}:Rep K F (.str i) (.str i):=by unfold Rep;rfl
theorem Rep.bl{i:Bool}:Rep K F (.bl i) (.bl i):=by unfold Rep;rfl
theorem Rep.non:Rep K F .non .non:=by unfold Rep;rfl
end
section
variable{X:Cx}{cm:String→Addr}{E:L2.St→XK}{a b e:Expr}{es:List Expr}{pos:Pos}{m ma mb mc:M PV}{mo:M RV}
theorem PT.wk{t t':TT}(h:PT X e t)(i:∀σ H Q,t' σ H Q→t σ H Q):PT X e t':=fun pins s σ H Q I q=>h pins s σ H Q I (i σ H Q q)
theorem PA.wk{t t':TA}(h:PA X es t)(i:∀σ H Q,t' σ H Q→t σ H Q):PA X es t':=fun pos pins s σ H Q I q=>h pos pins s σ H Q I (i σ H Q q)
theorem PW.wk{t t':TT}(h:PW X e t)(i:∀σ H Q,t' σ H Q→t σ H Q):PW X e t':=fun wh pins s σ H Q I q=>h wh pins s σ H Q I (i σ H Q q)
theorem lY.wk{st:List Stmt}{t t':TS}(h:lY X st t)(i:∀D σ H,t' D σ H→t D σ H):lY X st t':=fun pins s σ H D I q=>h pins s σ H D I (i D σ H q)
theorem v_var(i:Nat){x:Str}{pos:Pos}(hN:X.N[i]?=some x:=by rfl)(hv:DN X.env.scope x:=by first|exact Or.inl rfl|exact Or.inr (Or.inl rfl)|exact Or.inr (Or.inr rfl))(hd:(x== ("__debug__" :Str))=false:=by decide)
 (hcd:(x== ("__classdict__" :Str))=false:=by decide):PE X (.Name x pos) (tV (kk X cm) E (ę i)):=PE.wk (eE hN hv hd hcd) fun σ H Q ⟨c,F,ρ,rel,h⟩=>by
 unfold ę at h
 split at h
 ·rename_i p e
  obtain⟨v,h1,h2⟩:=rel.slot i _ e
  exact⟨v,at_of h1,h v F H rel (Same.refl F) (Same.refl H) h2⟩
 ·rename_i ps e
  obtain⟨a,vs,h1,h2,h3,h4⟩:=rel.share e
  exact⟨.ref a,h1,h _ _ H h4 (Same.upd h2) (Same.refl H) h3⟩
 ·exact h.elim
theorem Ă(i:Nat){x:Str}{pos:Pos}(hN:X.N[i]?=some x:=by rfl)(hv:DN X.env.scope x:=by first|exact Or.inl rfl|exact Or.inr (Or.inl rfl)|exact Or.inr (Or.inr rfl))(hd:(x== ("__debug__" :Str))=false:=by decide)
 (hcd:(x== ("__classdict__" :Str))=false:=by decide):PE X (.Name x pos) (tR (kk X cm) E (Ā i)):=PE.wk (eE hN hv hd hcd) fun σ H Q ⟨c,F,ρ,rel,h⟩=>by
 unfold Ā at h
 split at h
 ·rename_i p e
  obtain⟨v,h1,h2⟩:=rel.slot i _ e
  exact⟨v,at_of h1,h v F H rel (Same.refl F) (Same.refl H) (.inl h2)⟩
 ·rename_i ps e
  obtain⟨a,vs,h1,h2,h3,h4,h5,_⟩:=rel.ow e
  exact⟨.ref a,h1,h _ F H rel (Same.refl F) (Same.refl H) (.inr ⟨a,vs,rfl,h2,h5⟩)⟩
 ·rename_i ps e
  obtain⟨a,vs,h1,h2,h3⟩:=rel.slot i _ e
  exact⟨.ref a,at_of h1,h _ F H rel (Same.refl F) (Same.refl H) (.inr ⟨a,vs,rfl,(rel.lent a _ h2).1,h3⟩)⟩
 ·rename_i C ns ps e
  obtain⟨a,dx,fs,h1,h2,h3,h4,h5,h6⟩:=rel.slot i _ e
  exact⟨.ref a,at_of h1,h _ F H rel (Same.refl F) (Same.refl H) (.inr ⟨a,dx,fs,rfl,h2,h5,h6.1⟩)⟩
 ·exact h.elim
theorem fH(i:Nat){x:Str}{pos:Pos}(hN:X.N[i]?=some x:=by rfl)(hv:DN X.env.scope x:=by first|exact Or.inl rfl|exact Or.inr (Or.inl rfl)|exact Or.inr (Or.inr rfl))(hd:(x== ("__debug__" :Str))=false:=by decide)
 (hcd:(x== ("__classdict__" :Str))=false:=by decide):PE X (.Name x pos) (tO (kk X cm) E (cJ i)):=PE.wk (eE hN hv hd hcd) fun σ H Q ⟨c,F,ρ,rel,h⟩=>by
 unfold cJ at h
 split at h
 ·rename_i p e
  obtain⟨v,h1,h2⟩:=rel.slot i _ e
  exact⟨v,at_of h1,h v F H rel (Same.refl F) (Same.refl H) h2⟩
 ·rename_i ps e
  obtain⟨a,vs,h1,h2,h3,h4,h5,h6⟩:=rel.ow e
  obtain⟨m1,m2⟩:=rel.move h6
  exact⟨.ref a,h1,h _ F H m1 (Same.refl F) (Same.refl H) ⟨a,vs,rfl,h2,h3,h4,m2,h5⟩⟩
 ·exact h.elim
theorem Cq{v:V}(p:PV)(h:PE X e (tC v))(hr:∀F,Rep (kk X cm) F p v:=by intro _;unfold Rep;rfl):PE X e (tV (kk X cm) E (mC p)):=PE.wk h fun σ H Q ⟨c,F,ρ,rel,h⟩=>h v F H rel (Same.refl F) (Same.refl H) (hr F)
theorem ă{i j pos}:PE X (.Constant (.int i) j pos) (tV (kk X cm) E (mC (.int i))):=Cq _ Wh
theorem mj{i j pos}:PE X (.Constant (.bool i) j pos) (tV (kk X cm) E (mC (.bl i))):=Cq _ Zcb
theorem qP{j pos}:PE X (.Constant .none j pos) (tV (kk X cm) E (mC .non)):=Cq _ Wi
theorem Ż{x j pos}:PE X (.Constant (.str x) j pos) (tV (kk X cm) E (mC (.str x))):=Cq _ Wj
theorem ā(h:PE X e (tV (kk X cm) E m)):PE X e (tR (kk X cm) E m):=PE.wk h fun σ H Q ⟨c,F,ρ,rel,h⟩=>⟨c,F,ρ,rel,h.rel fun _ _ _ _ _ _ q=>.inl q⟩
theorem Ĳ(h:PE X e (tV (kk X cm) E m)):PE X e (tO (kk X cm) E (Ř m)):=PE.wk h fun σ H Q ⟨c,F,ρ,rel,h⟩=>⟨c,F,ρ,rel,h.bind fun p ρ1 v F1 H1 ĥ s1 s2 q h1=>h1 v F1 H1 ĥ (Same.refl _) (Same.refl _) q⟩
theorem Held.share{K:KK}{c:Ctx}{F H:Hp}{σ:L2.St}{ρ:Ŗ}{ps:List PV}{v:V}(rel:Rel K c F H σ ρ)(h:Held K c σ ρ F H ps v):∃F1,Same F F1∧Rel K c F1 H σ ρ∧Rep K F1 (.lst ps) v:=by
 obtain⟨a,vs,rfl,h1,h2,h3,h4,h5⟩:=h
 refine⟨_,Same.upd h2,rel.freeze h1 h3 h2 h4,?_⟩
 unfold Rep
 exact⟨a,vs,rfl,aG.of ľ,h5.same (Same.upd h2) ps vs⟩
theorem Cp.share{K:KK}{c:Ctx}{F H:Hp}{σ:L2.St}{ρ:Ŗ}{ps qs:List PV}{v:V}(rel:Rel K c F H σ ρ)(h:Cp K c σ ρ F H ps qs v):∃F1,Same F F1∧Rel K c F1 H σ ρ∧Rep K F1 (.tup (ps ++ [.lst qs])) v:=by
 obtain⟨p,a,xs,vs,rfl,h0,hx,h1,h2,h3,h4,h5⟩:=h
 refine⟨_,Same.upd h2,rel.freeze h1 h3 h2 h4,?_⟩
 have ra:Rep K (upd F a (.lst vs)) (.lst qs) (.ref a):=by
  unfold Rep
  exact⟨a,vs,rfl,aG.of ľ,h5.same (Same.upd h2) qs vs⟩
 unfold Rep
 exact⟨p,_,rfl,dF.of (Same.upd h2 _ _ h0),Ī.append (hx.same (Same.upd h2) ps xs) (Ī.cons ra Ī.nil)⟩
theorem ģ(h:PE X e (tO (kk X cm) E mo)):PE X e (tV (kk X cm) E (Ę mo)):=PE.wk h fun σ H Q ⟨c,F,ρ,rel,h⟩=>⟨c,F,ρ,rel,h.bind fun r ρ1 v F1 H1 ĥ s1 s2 q h1=>by
 cases r with
 |sh p=>exact h1 v F1 H1 ĥ (Same.refl _) (Same.refl _) q
 |ow ps=>
  obtain⟨F2,s3,Ō,rp⟩:=Held.share ĥ q
  exact h1 v F2 H1 Ō s3 (Same.refl _) rp
 |ot ps qs=>
  obtain⟨F2,s3,Ō,rp⟩:=Cp.share ĥ q
  exact h1 v F2 H1 Ō s3 (Same.refl _) rp⟩
def Ć(f:PV→PV→Option PV)(ma mb:M PV):M PV:=fun ρ=>(ma ρ).bind fun p ρ1=>(mb ρ1).bind fun q ρ2=>Res.mV (f p q) ρ2
def ŀ(f:PV→PV→Option RV)(ma mb:M PV):M RV:=fun ρ=>(ma ρ).bind fun p ρ1=>(mb ρ1).bind fun q ρ2=>Res.mV (f p q) ρ2
def jl(K:KK)(r:R2)(f:PV→PV→Option PV):Prop:=∀{c:Ctx} {F H:Hp} {σ:L2.St} {ρ:Ŗ} {p q pv:PV} {v u:V} {Q:VK},Rel K c F H σ ρ→rR K c σ ρ F H p v→rR K c σ ρ F H q u→f p q=some pv→
 (∀z F' H',Rel K c F' H' σ ρ→Same F F'→Same H H'→Rep K F' pv z→Q z H')→r v u H Q
def OpO(K:KK)(r:R2)(f:PV→PV→Option RV):Prop:=∀{c:Ctx} {F H:Hp} {σ:L2.St} {ρ:Ŗ} {p q:PV} {pv:RV} {v u:V} {Q:VK},Rel K c F H σ ρ→rR K c σ ρ F H p v→rR K c σ ρ F H q u→f p q=some pv→
 (∀z F' H',Rel K c F' H' σ ρ→Same F F'→Same H H'→rO K c σ ρ F' H' pv z→Q z H')→r v u H Q
theorem Cr{r:R2}{f:PV→PV→Option PV}(hf:jl (kk X cm) r f){σ:L2.St}{H:Hp}{Q:VK}(h:tV (kk X cm) E (Ć f ma mb) σ H Q):tOp r (tR (kk X cm) E ma) (tR (kk X cm) E mb) σ H Q:=by
 obtain⟨c,F,ρ,rel,h⟩:=h
 refine⟨c,F,ρ,rel,h.bind fun p ρ1 v F1 H1 ĥ _ _ r1 h1=>⟨c,F1,ρ1,ĥ,h1.bind fun q ρ2 u F2 H2 Ō sF sH r2 h2=>?_⟩⟩
 cases e:f p q with
 |none=>rw[e] at h2;exact h2.elim
 |some pv=>rw[e] at h2;exact hf Ō (r1.mono sF sH) r2 e fun z F' H' bN s1 s2 q'=>h2 z F' H' bN s1 s2 q'
theorem ZcG{r:R2}{f:PV→PV→Option RV}(hf:OpO (kk X cm) r f){σ:L2.St}{H:Hp}{Q:VK}(h:tO (kk X cm) E (ŀ f ma mb) σ H Q):tOp r (tR (kk X cm) E ma) (tR (kk X cm) E mb) σ H Q:=by
 obtain⟨c,F,ρ,rel,h⟩:=h
 refine⟨c,F,ρ,rel,h.bind fun p ρ1 v F1 H1 ĥ _ _ r1 h1=>⟨c,F1,ρ1,ĥ,h1.bind fun q ρ2 u F2 H2 Ō sF sH r2 h2=>?_⟩⟩
 cases e:f p q with
 |none=>rw[e] at h2;exact h2.elim
 |some pv=>rw[e] at h2;exact hf Ō (r1.mono sF sH) r2 e fun z F' H' bN s1 s2 q'=>h2 z F' H' bN s1 s2 q'
theorem ď{op:Operator}{r:R2}{f:PV→PV→Option PV}(hf:jl (kk X cm) r f)(ho:aC X (binaryOp op) r)(ha:PE X a (tR (kk X cm) E ma))(hb:PE X b (tR (kk X cm) E mb)):PE X (.BinOp a op b pos) (tV (kk X cm) E (Ć f ma mb)):=PE.wk (Tq ho ha hb) fun _ _ _ h=>Cr hf h
theorem ņ{op:Operator}{r:R2}{f:PV→PV→Option RV}(hf:OpO (kk X cm) r f)(ho:aC X (binaryOp op) r)(ha:PE X a (tR (kk X cm) E ma))(hb:PE X b (tR (kk X cm) E mb)):PE X (.BinOp a op b pos) (tO (kk X cm) E (ŀ f ma mb)):=PE.wk (Tq ho ha hb) fun _ _ _ h=>ZcG hf h
theorem bW{op:CmpOp}{r:R2}{f:PV→PV→Option PV}(hf:jl (kk X cm) r f)(ho:aC X (compareOp op) r)(ha:PE X a (tR (kk X cm) E ma))(hb:PE X b (tR (kk X cm) E mb))(hm:behindInMarks op b=false):PE X (.Compare a [op] [b] pos) (tV (kk X cm) E (Ć f ma mb)):=
 PE.wk (Qz ho ha hb hm) fun _ _ _ h=>Cr hf h
theorem ğ{r:R2}{f:PV→PV→Option PV}(hf:jl (kk X cm) r f)(hr:zu X r)(ha:PE X a (tR (kk X cm) E ma))(hb:PE X b (tR (kk X cm) E mb))(hs:B_ b):PE X (.Subscript a b pos) (tV (kk X cm) E (Ć f ma mb)):=
 PE.wk (Zcq hr ha hb hs) fun _ _ _ h=>Cr hf h
def lA(f:PV→Option PV)(ma:M PV):M PV:=fun ρ=>(ma ρ).bind fun p ρ1=>Res.mV (f p) ρ1
def UnV(K:KK)(r:V→Hp→VK→Prop)(f:PV→Option PV):Prop:=∀{c:Ctx} {F H:Hp} {σ:L2.St} {ρ:Ŗ} {p pv:PV} {v:V} {Q:VK},Rel K c F H σ ρ→rR K c σ ρ F H p v→f p=some pv→
 (∀z F' H',Rel K c F' H' σ ρ→Same F F'→Same H H'→Rep K F' pv z→Q z H')→r v H Q
theorem vN{op:UnaryOp}{r:V→Hp→VK→Prop}{f:PV→Option PV}(hf:UnV (kk X cm) r f)(ho:Qv X (unaryOp op) r)(ha:PE X a (tR (kk X cm) E ma)):PE X (.UnaryOp op a pos) (tV (kk X cm) E (lA f ma)):=PE.wk (Zck ho ha) fun σ H Q ⟨c,F,ρ,rel,h⟩=>
 ⟨c,F,ρ,rel,h.bind fun p ρ1 v F1 H1 ĥ _ _ r1 h1=>by
   cases e:f p with
   |none=>rw[e] at h1;exact h1.elim
   |some pv=>rw[e] at h1;exact hf ĥ r1 e fun z F' H' bN s1 s2 q'=>h1 z F' H' bN s1 s2 q'⟩
def Rh:PV→Option Bool
 | .bl b=>some b
 | .int i=>some (i != 0)
 | .non=>some false
 | .str y=>if y.length≤sizeLine then some ((y.length:Int) != 0) else none
 | .lst ps=>some (!ps.isEmpty)
 | .tup ps=>some (!ps.isEmpty)
 |_=>none
def dj(m:M PV):M Bool:=fun ρ=>(m ρ).bind fun p ρ1=>Res.mV (Rh p) ρ1
theorem ZcH{K:KK}{c:Ctx}{F H:Hp}{σ:L2.St}{ρ:Ŗ}{p:PV}{v:V}{k:Bool}(s:Same F H)(r:rR K c σ ρ F H p v)(h:Rh p=some k):WY K.K v H k:=by
 cases p with
 |bl b=>cases r.bl;cases h;rfl
 |int i=>cases r.int;cases h;rfl
 |non=>cases r.non;cases h;rfl
 |str y=>
  cases r.str
  have h':(if y.length≤sizeLine then some ((y.length:Int) != 0) else none)=some k:=h
  split at h'
  ·rename_i hy;cases h';exact⟨hy,rfl⟩
  ·cases h'
 |lst ps=>
  obtain⟨a,vs,rfl,h1,h2⟩:=r.lst s
  cases h
  have e:ps.isEmpty=vs.isEmpty:=by cases h2.pr<;>rfl
  exact .inl ⟨vs,h1,by rw[e]⟩
 |tup ps=>
  obtain⟨a,vs,rfl,h1,h2⟩:=r.tup s
  cases h
  have e:ps.isEmpty=vs.isEmpty:=by cases h2.pr<;>rfl
  exact .inr (.inl ⟨vs,h1,by rw[e]⟩)
 |ins C ns ps=>cases h
 |xc C ns ps=>cases h
 |ty n=>cases h
 |cls C=>cases h
theorem aV(ha:PE X a (tR (kk X cm) E ma))(he:∀whole,isTrue a X.env whole=(do let v ←whole;standAt a.pos;holding [v] (truthy v)):=by intro _;rfl):PT X a (tB (kk X cm) E (dj ma)):=PT.wk (Gh ha he) fun σ H Q ⟨c,F,ρ,rel,h⟩=>
 ⟨c,F,ρ,rel,h.bind fun p ρ1 v F1 H1 ĥ _ _ r1 h1=>by
   cases e:Rh p with
   |none=>rw[e] at h1;exact h1.elim
   |some k=>rw[e] at h1;exact⟨k,ZcH ĥ.sub r1 e,h1 k F1 H1 ĥ (Same.refl _) (Same.refl _) rfl⟩⟩
def aJ(m:M PV):M Bool:=fun ρ=>(m ρ).bind fun p ρ1=>match p with
 | .bl b=>.ok b ρ1
 |_=>.bad
theorem ZcI{σ:L2.St}{H:Hp}{Q:Bool→Hp→Prop}(h:tB (kk X cm) E (aJ m) σ H Q):M2.Tw (tV (kk X cm) E m) σ H Q:=by
 obtain⟨c,F,ρ,rel,h⟩:=h
 refine⟨c,F,ρ,rel,h.bind fun p ρ1 v F1 H1 ĥ _ _ r1 h1=>?_⟩
 cases p with
 |bl b=>
  have e:v=.bl b:=by have r1':Rep (kk X cm) F1 (.bl b) v:=r1;unfold Rep at r1';exact r1'
  subst e
  exact h1 b F1 H1 ĥ (Same.refl _) (Same.refl _) rfl
 |_=>exact h1.elim
theorem Ŀ{op:CmpOp}{r:R2}{f:PV→PV→Option PV}(hf:jl (kk X cm) r f)(ho:aC X (compareOp op) r)(ha:PE X a (tR (kk X cm) E ma))(hb:PE X b (tR (kk X cm) E mb))(hm:behindInMarks op b=false):PT X (.Compare a [op] [b] pos) (tB (kk X cm) E (aJ (Ć f ma mb))):=
 PT.wk (Xm ho ha hb hm) fun σ H Q h=>by
   obtain⟨c,F,ρ,rel,h⟩:=ZcI h
   exact Cr hf ⟨c,F,ρ,rel,h⟩
def El(f g:PV→PV→Option PV)(ma mb mc:M PV):M PV:=fun ρ=>(ma ρ).bind fun p ρ1=>(mb ρ1).bind fun q ρ2=>(Res.mV (f p q) ρ2).bind fun z ρ3=>match z with
 | .bl true=>(mc ρ3).bind fun w ρ4=>Res.mV (g q w) ρ4
 | .bl false=>.ok (.bl false) ρ3
 |_=>.bad
theorem ZcJ{r r':R2}{f g:PV→PV→Option PV}(hf:jl (kk X cm) r f)(hg:jl (kk X cm) r' g){σ:L2.St}{H:Hp}{Q:VK}(h:tV (kk X cm) E (El f g ma mb mc) σ H Q):M2.Gu r r' (tR (kk X cm) E ma) (tR (kk X cm) E mb) (tR (kk X cm) E mc) σ H Q:=by
 obtain⟨c,F,ρ,rel,h⟩:=h
 refine⟨c,F,ρ,rel,h.bind fun p ρ1 v F1 H1 ĥ _ _ r1 h1=>⟨c,F1,ρ1,ĥ,h1.bind fun q ρ2 u F2 H2 Ō sF sH r2 h2=>?_⟩⟩
 cases e:f p q with
 |none=>rw[e] at h2;exact h2.elim
 |some pv=>
  rw[e] at h2
  refine hf Ō (r1.mono sF sH) r2 e fun z F' H' bN s1 s2 q'=>?_
  cases pv with
  |bl k=>
   have ez:z=.bl k:=by unfold Rep at q';exact q'
   subst ez
   cases k with
   |false=>exact h2 _ F' H' bN s1 s2 q'
   |true=>
    refine⟨c,F',ρ2,bN,bH.bind (bH.mono h2 s1 s2) fun w ρ4 x F4 H4 vO s3 s4 r4 h4=>?_⟩
    cases e':g q w with
    |none=>rw[e'] at h4;exact h4.elim
    |some pv'=>rw[e'] at h4;exact hg vO (r2.mono (s1.trans s3) (s2.trans s4)) r4 e' fun z F' H' bN s1 s2 q'=>h4 z F' H' bN s1 s2 q'
  |_=>exact h2.elim
theorem Hh{op op':CmpOp}{r r':R2}{f g:PV→PV→Option PV}{c:Expr}(hf:jl (kk X cm) r f)(hg:jl (kk X cm) r' g)(ho:aC X (compareOp op) r)(ho':aC X (compareOp op') r')(ha:PE X a (tR (kk X cm) E ma))(hb:PE X b (tR (kk X cm) E mb))(hc:PE X c (tR (kk X cm) E mc))
 (hm:lastMarks [op,op'] [b,c]=false:=by with_unfolding_all rfl):PE X (.Compare a [op,op'] [b,c] pos) (tV (kk X cm) E (El f g ma mb mc)):=PE.wk (Gv ho ho' ha hb hc hm) fun _ _ _ h=>ZcJ hf hg h
def fJ(m:M Bool):M Bool:=fun ρ=>(m ρ).bind fun b ρ1=>.ok (!b) ρ1
theorem iJ{m:M Bool}(h:PT X a (tB (kk X cm) E m)):PT X (.UnaryOp .Not a pos) (tB (kk X cm) E (fJ m)):=PT.wk (Wn h) fun σ H Q ⟨c,F,ρ,rel,h⟩=>
 ⟨c,F,ρ,rel,h.bind fun p ρ1 v F1 H1 ĥ _ _ r1 h1=>h1 _ F1 H1 ĥ (Same.refl _) (Same.refl _) (by have e:p=v:=r1;rw[e];rfl)⟩
def jx(ma mb:M Bool):M Bool:=fun ρ=>(ma ρ).bind fun b ρ1=>if b=true then mb ρ1 else .ok false ρ1
def jy(ma mb:M Bool):M Bool:=fun ρ=>(ma ρ).bind fun b ρ1=>if b=true then .ok true ρ1 else mb ρ1
variable{ta tb:M Bool}{rest:List Expr}
theorem je(h:PT X a (tB (kk X cm) E ta)):PW X (.BoolOp .And [a] pos) (tB (kk X cm) E ta):=Qo h
theorem qQ(h:PT X a (tB (kk X cm) E ta)):PW X (.BoolOp .Or [a] pos) (tB (kk X cm) E ta):=Wk h
theorem w_and(ha:PT X a (tB (kk X cm) E ta))(hb:PW X (.BoolOp .And (b::rest) pos) (tB (kk X cm) E tb)):PW X (.BoolOp .And (a::b::rest) pos) (tB (kk X cm) E (jx ta tb)):=PW.wk (Wm ha hb) fun σ H Q ⟨c,F,ρ,rel,h⟩=>
 ⟨c,F,ρ,rel,h.bind fun p ρ1 v F1 H1 ĥ _ _ r1 h1=>by
   have e:p=v:=r1
   subst e
   cases p with
   |true=>exact⟨c,F1,ρ1,ĥ,h1⟩
   |false=>exact h1 false F1 H1 ĥ (Same.refl _) (Same.refl _) rfl⟩
theorem w_or(ha:PT X a (tB (kk X cm) E ta))(hb:PW X (.BoolOp .Or (b::rest) pos) (tB (kk X cm) E tb)):PW X (.BoolOp .Or (a::b::rest) pos) (tB (kk X cm) E (jy ta tb)):=PW.wk (Zcc ha hb) fun σ H Q ⟨c,F,ρ,rel,h⟩=>
 ⟨c,F,ρ,rel,h.bind fun p ρ1 v F1 H1 ĥ _ _ r1 h1=>by
   have e:p=v:=r1
   subst e
   cases p with
   |false=>exact⟨c,F1,ρ1,ĥ,h1⟩
   |true=>exact h1 true F1 H1 ĥ (Same.refl _) (Same.refl _) rfl⟩
def iz(ma mb:M PV):M PV:=fun ρ=>(ma ρ).bind fun p ρ1=>match p with
 | .bl true=>mb ρ1
 | .bl false=>.ok (.bl false) ρ1
 |_=>.bad
def mOr(ma mb:M PV):M PV:=fun ρ=>(ma ρ).bind fun p ρ1=>match p with
 | .bl true=>.ok (.bl true) ρ1
 | .bl false=>mb ρ1
 |_=>.bad
def XH(ma:M PV):M PV:=fun ρ=>(ma ρ).bind fun p ρ1=>match p with
 | .bl b=>.ok (.bl (!b)) ρ1
 |_=>.bad
theorem tX{K:KK}{F:Hp}{b:Bool}{v:V}(h:Rep K F (.bl b) v):v=.bl b:=by unfold Rep at h;exact h
theorem lB{op}(h:PE X a (tV (kk X cm) E ma)):PE X (.BoolOp op [a] pos) (tV (kk X cm) E ma):=Wo h
theorem v_and(ha:PE X a (tV (kk X cm) E ma))(hb:PE X (.BoolOp .And (b::rest) pos) (tV (kk X cm) E mb)):PE X (.BoolOp .And (a::b::rest) pos) (tV (kk X cm) E (iz ma mb)):=PE.wk (Xn ha hb) fun σ H Q ⟨c,F,ρ,rel,h⟩=>
 ⟨c,F,ρ,rel,h.bind fun p ρ1 v F1 H1 ĥ _ _ r1 h1=>by
   cases p with
   |bl k=>
    cases tX r1
    cases k with
    |true=>exact⟨c,F1,ρ1,ĥ,h1⟩
    |false=>exact h1 _ F1 H1 ĥ (Same.refl _) (Same.refl _) r1
   |_=>exact h1.elim⟩
theorem v_not(ha:PE X a (tV (kk X cm) E ma)):PE X (.UnaryOp .Not a pos) (tV (kk X cm) E (XH ma)):=PE.wk (Xo ha) fun σ H Q ⟨c,F,ρ,rel,h⟩=>
 ⟨c,F,ρ,rel,h.bind fun p ρ1 v F1 H1 ĥ _ _ r1 h1=>by
   cases p with
   |bl k=>
    cases tX r1
    exact h1 _ F1 H1 ĥ (Same.refl _) (Same.refl _) Rep.bl
   |_=>exact h1.elim⟩
def bJ{α:Type}(t:M Bool)(ma mb:M α):M α:= fun ρ=>(t ρ).bind fun b ρ1=>if b=true then ma ρ1 else mb ρ1
def ė:M (List PV):=fun ρ=>.ok [] ρ
def Ą(ma:M PV)(mr:M (List PV)):M (List PV):=fun ρ=>(ma ρ).bind fun p ρ1=>(mr ρ1).bind fun ps ρ2=>.ok (p::ps) ρ2
variable{mr:M (List PV)}
theorem ĝ:PA X [] (tL (kk X cm) E ė):=PA.wk i_ fun σ H Q ⟨c,F,ρ,rel,h⟩=>h [] F H rel (Same.refl _) (Same.refl _) Ī.nil
theorem ą(ha:PE X e (tV (kk X cm) E ma))(hr:PA X es (tL (kk X cm) E mr))(hs:starEach (e::es) X.env=(false,eval e X.env)::starEach es X.env:=by exact ř rfl):PA X (e::es) (tL (kk X cm) E (Ą ma mr)):=PA.wk (cu ha hr hs) fun σ H Q ⟨c,F,ρ,rel,h⟩=>
 ⟨c,F,ρ,rel,h.bind fun p ρ1 v F1 H1 ĥ _ _ r1 h1=>⟨c,F1,ρ1,ĥ,h1.bind fun ps ρ2 vs F2 H2 Ō sF sH r2 h2=>h2 _ F2 H2 Ō (Same.refl _) (Same.refl _) (Ī.cons (Rep.same sF p v r1) r2)⟩⟩
theorem Ĭ:PA X [] (tRL (kk X cm) E ė):=PA.wk i_ fun σ H Q ⟨c,F,ρ,rel,h⟩=>h [] F H rel (Same.refl _) (Same.refl _) .nil
theorem Ğ(ha:PE X e (tR (kk X cm) E ma))(hr:PA X es (tRL (kk X cm) E mr))(hs:starEach (e::es) X.env=(false,eval e X.env)::starEach es X.env:=by exact ř rfl):PA X (e::es) (tRL (kk X cm) E (Ą ma mr)):=PA.wk (cu ha hr hs) fun σ H Q ⟨c,F,ρ,rel,h⟩=>
 ⟨c,F,ρ,rel,h.bind fun p ρ1 v F1 H1 ĥ _ _ r1 h1=>⟨c,F1,ρ1,ĥ,h1.bind fun ps ρ2 vs F2 H2 Ō sF sH r2 h2=>h2 _ F2 H2 Ō (Same.refl _) (Same.refl _) (.cons (rR.mono r1 sF sH) r2)⟩⟩
def ē:M (List Slot):=fun ρ=>.ok [] ρ
def Đ(ma:M PV)(mr:M (List Slot)):M (List Slot):=fun ρ=>(ma ρ).bind fun p ρ1=>(mr ρ1).bind fun as ρ2=>.ok (.sh p::as) ρ2
def dI:Slot→Option Slot
 | .sh p=>some (.sh p)
 | .ow ps=>some (.bw ps)
 | .bw ps=>some (.bw ps)
 |_=>none
def Ĉ(i:Nat)(mr:M (List Slot)):M (List Slot):=fun ρ=>match(ρ[i]?).bind dI with
 |none=>.bad
 |some _=>(mr ρ).bind fun as ρ2=>match(ρ2[i]?).bind dI with
  |some s=>.ok (s::as) ρ2
  |none=>.bad
variable{ms:M (List Slot)}
theorem đ:PA X [] (tA (kk X cm) E ē):=PA.wk i_ fun σ H Q ⟨c,F,ρ,rel,h⟩=>h [] F H rel (Same.refl _) (Same.refl _) .nil
theorem ĕ(ha:PE X e (tV (kk X cm) E ma))(hr:PA X es (tA (kk X cm) E ms))(hs:starEach (e::es) X.env=(false,eval e X.env)::starEach es X.env:=by exact ř rfl):PA X (e::es) (tA (kk X cm) E (Đ ma ms)):=PA.wk (cu ha hr hs) fun σ H Q ⟨c,F,ρ,rel,h⟩=>
 ⟨c,F,ρ,rel,h.bind fun p ρ1 v F1 H1 ĥ _ _ r1 h1=>⟨c,F1,ρ1,ĥ,h1.bind fun as ρ2 vs F2 H2 Ō sF sH r2 h2=>h2 _ F2 H2 Ō (Same.refl _) (Same.refl _) (.cons (show cI _ _ _ (.sh p) v from Rep.same sF p v r1) r2)⟩⟩
theorem Cu{K:KK}{c:Ctx}{F H:Hp}{σ:L2.St}{ρ:Ŗ}{i:Nat}{s:Slot}(rel:Rel K c F H σ ρ)(h:(ρ[i]?).bind dI=some s):∃v,σ[i]?=some (some v)∧cI K F H s v:=by
 cases e:ρ[i]? with
 |none=>rw[e] at h;cases h
 |some sl=>
  rw[e] at h
  have h':dI sl=some s:=h
  cases sl with
  |sh p=>
   cases h'
   obtain⟨v,h1,h2⟩:=rel.slot i _ e
   exact⟨v,at_of h1,h2⟩
  |ow ps=>
   cases h'
   obtain⟨a,vs,h1,h2,h3,h4,h5,_⟩:=rel.ow e
   exact⟨.ref a,h1,a,vs,rfl,h2,h3,h5⟩
  |bw ps=>
   cases h'
   obtain⟨a,vs,h1,h2,h3⟩:=rel.slot i _ e
   exact⟨.ref a,at_of h1,a,vs,rfl,(rel.lent a _ h2).1,(rel.lent a _ h2).2,h3⟩
  |no=>cases h'
  |rc C ns ps=>cases h'
  |ot ps qs=>cases h'
theorem ć(i:Nat){x:Str}{px:Pos}(hN:X.N[i]?=some x:=by rfl)(hv:DN X.env.scope x:=by first|exact Or.inl rfl|exact Or.inr (Or.inl rfl)|exact Or.inr (Or.inr rfl))(hd:(x== ("__debug__" :Str))=false:=by decide)
 (hcd:(x== ("__classdict__" :Str))=false:=by decide)(hr:PA X es (tA (kk X cm) E ms))(hs:starEach (.Name x px::es) X.env=(false,eval (.Name x px) X.env)::starEach es X.env:=by exact ř rfl):PA X (.Name x px::es) (tA (kk X cm) E (Ĉ i ms)):=
 PA.wk (cu (eE hN hv hd hcd) hr hs) fun σ H Q ⟨c,F,ρ,rel,h⟩=>by
   unfold Ĉ at h
   cases e:(ρ[i]?).bind dI with
   |none=>rw[e] at h;exact h.elim
   |some s0=>
    rw[e] at h
    obtain⟨v,hv,_⟩:=Cu rel e
    refine⟨v,hv,c,F,ρ,rel,bH.bind h fun as ρ2 vs F2 H2 Ō sF sH r2 h2=>?_⟩
    cases e2:(ρ2[i]?).bind dI with
    |none=>simp only[e2] at h2;exact h2.elim
    |some s=>
     simp only[e2] at h2
     obtain⟨v',hv',r1⟩:=Cu Ō e2
     rw[hv] at hv'
     cases hv'
     exact h2 _ F2 H2 Ō (Same.refl _) (Same.refl _) (.cons r1 r2)
def ŉ(mr:M (List PV)):M PV:=fun ρ=>(mr ρ).bind fun ps ρ1=>if ps.length≤16777216 then .ok (.tup ps) ρ1 else .bad
def ak(mr:M (List PV)):M RV:=fun ρ=>(mr ρ).bind fun ps ρ1=>if ps.length≤16777216 then .ok (.ow ps) ρ1 else .bad
theorem ŗ:sizeLine=16777216:=sizeLine_eq
theorem Ĺ{x1}(h:PA X es (tL (kk X cm) E mr)):PE X (.Tuple es x1 pos) (tV (kk X cm) E (ŉ mr)):=PE.wk (Xc h) fun σ H Q ⟨c,F,ρ,rel,h⟩=>
 ⟨c,F,ρ,rel,h.bind fun ps ρ1 vs F1 H1 ĥ _ _ r1 h1=>by
   split at h1
   ·rename_i hz
    refine⟨by rw[←Ī.length r1,ŗ];exact hz,fun p hp=>h1 _ _ _ (ĥ.alloc hp) (Same.upd (ĥ.sub.free hp)) (Same.upd hp) ?_⟩
    show Rep _ _ _ _
    unfold Rep
    exact⟨p,vs,rfl,dF.of ľ,Ī.same (Same.upd (ĥ.sub.free hp)) ps vs r1⟩
   ·exact h1.elim⟩
theorem gk{K:KK}{c:Ctx}{F H:Hp}{σ:L2.St}{ρ:Ŗ}{ps:List PV}{vs:List V}{a:Addr}(rel:Rel K c F H σ ρ)(ha:H a=none)(r:Ī K F ps vs):Rel K c F (upd H a (.lst vs)) σ ρ∧Held K c σ ρ F (upd H a (.lst vs)) ps (.ref a):=
 ⟨rel.made ha,a,vs,rfl,ľ,rel.sub.free ha,rel.base.free ha,rel.fresh ha,r⟩
theorem Ũ(h:PA X es (tL (kk X cm) E mr)):PE X (.List es pos) (tO (kk X cm) E (ak mr)):=PE.wk (Xd h) fun σ H Q ⟨c,F,ρ,rel,h⟩=>
 ⟨c,F,ρ,rel,h.bind fun ps ρ1 vs F1 H1 ĥ _ _ r1 h1=>by
   split at h1
   ·rename_i hz
    refine⟨by rw[←Ī.length r1,ŗ];exact hz,fun p hp=>?_⟩
    obtain⟨q1,q2⟩:=gk ĥ hp r1
    exact h1 _ _ _ q1 (Same.refl _) (Same.upd hp) q2
   ·exact h1.elim⟩
def bC(f:List PV→Option PV)(mr:M (List PV)):M PV:=fun ρ=>(mr ρ).bind fun ps ρ1=>Res.mV (f ps) ρ1
def nA(f:List PV→Option RV)(mr:M (List PV)):M RV:=fun ρ=>(mr ρ).bind fun ps ρ1=>Res.mV (f ps) ρ1
def dJ(K:KK)(r:List V→Hp→VK→Prop)(f:List PV→Option PV):Prop:=∀{c:Ctx} {F H:Hp} {σ:L2.St} {ρ:Ŗ} {ps:List PV} {pv:PV} {vs:List V} {Q:VK},Rel K c F H σ ρ→rRL K c σ ρ F H ps vs→f ps=some pv→
 (∀z F' H',Rel K c F' H' σ ρ→Same F F'→Same H H'→Rep K F' pv z→Q z H')→r vs H Q
def TX(K:KK)(r:List V→Hp→VK→Prop)(f:List PV→Option RV):Prop:=∀{c:Ctx} {F H:Hp} {σ:L2.St} {ρ:Ŗ} {ps:List PV} {pv:RV} {vs:List V} {Q:VK},Rel K c F H σ ρ→rRL K c σ ρ F H ps vs→f ps=some pv→
 (∀z F' H',Rel K c F' H' σ ρ→Same F F'→Same H H'→rO K c σ ρ F' H' pv z→Q z H')→r vs H Q
theorem š{r:List V→Hp→VK→Prop}{f:List PV→Option PV}(hf:dJ (kk X cm) r f){σ:L2.St}{H:Hp}{Q:VK}(h:tV (kk X cm) E (bC f mr) σ H Q):tCB r (tRL (kk X cm) E mr) σ H Q:=by
 obtain⟨c,F,ρ,rel,h⟩:=h
 refine⟨c,F,ρ,rel,h.bind fun p ρ1 v F1 H1 ĥ _ _ r1 h1=>?_⟩
 cases e:f p with
 |none=>rw[e] at h1;exact h1.elim
 |some pv=>rw[e] at h1;exact hf ĥ r1 e fun z F' H' bN s1 s2 q'=>h1 z F' H' bN s1 s2 q'
theorem vP{r:List V→Hp→VK→Prop}{f:List PV→Option RV}(hf:TX (kk X cm) r f){σ:L2.St}{H:Hp}{Q:VK}(h:tO (kk X cm) E (nA f mr) σ H Q):tCB r (tRL (kk X cm) E mr) σ H Q:=by
 obtain⟨c,F,ρ,rel,h⟩:=h
 refine⟨c,F,ρ,rel,h.bind fun p ρ1 v F1 H1 ĥ _ _ r1 h1=>?_⟩
 cases e:f p with
 |none=>rw[e] at h1;exact h1.elim
 |some pv=>rw[e] at h1;exact hf ĥ r1 e fun z F' H' bN s1 s2 q'=>h1 z F' H' bN s1 s2 q'
end
end P
namespace P
open PySem PySem.Spec PyProof.Rows L2 M2 M3
def bU:M Fl:=fun ρ=>.ok .nx ρ
def mBk:M Fl:=fun ρ=>.ok .bk ρ
def mCt:M Fl:=fun ρ=>.ok .ct ρ
def ġ(a b:M Fl):M Fl:=fun ρ=>(a ρ).bind fun f ρ1=>match f with
 | .nx=>b ρ1
 |f=>.ok f ρ1
def ķ(i:Nat)(m:M RV):M Fl:=fun ρ=>(m ρ).bind fun r ρ1=>.ok .nx (ρ1.set i r.slot)
def ĭ(m:M RV):M Fl:=fun ρ=>(m ρ).bind fun r ρ1=>.ok (.rt r) ρ1
def ZcK:M Fl:=fun ρ=>.ok (.rt (.sh .non)) ρ
def ZcL(m:M PV):M Fl:=fun ρ=>(m ρ).bind fun _ ρ1=>.ok .nx ρ1
section
variable{X:Cx}{cm:String→Addr}{E:L2.St→XK}{a b e:Expr}{st:Stmt}{rest:List Stmt}{es:List Expr}{pos:Pos}{m1 m2:M Fl}{mo:M RV}{mv:M PV}
theorem ĳ:lY X [] (tS (kk X cm) E bU):=lY.wk Qp fun D σ H ⟨c,F,ρ,rel,h⟩=>h σ F H rel (Same.refl F)
theorem Č(h:PS X st (tS (kk X cm) E m1)):lY X [st] (tS (kk X cm) E m1):=Qq h
theorem Ri{c:Ctx}{F:Hp}{D:Ends}{r:Res Fl}(h:Ž (kk X cm) E c F D (r.bind fun f ρ1=>match f with| .nx=>m2 ρ1|f=>.ok f ρ1)):Ž (kk X cm) E c F {D with nx:=tS (kk X cm) E m2 D} r:=by
 cases r with
 |ok f ρ1=>
  cases f with
  |nx=>exact fun σ' F' H' bN s=>⟨c,F',ρ1,bN,Ž.mono h s⟩
  |bk=>exact h
  |ct=>exact h
  |rt v=>exact h
 |exc x ρ1=>exact h
 |bad=>exact h
theorem ĉ(h1:PS X st (tS (kk X cm) E m1))(h2:lY X rest (tS (kk X cm) E m2)):lY X (st::rest) (tS (kk X cm) E (ġ m1 m2)):=lY.wk (FQ h1 h2) fun D σ H ⟨c,F,ρ,rel,h⟩=>⟨c,F,ρ,rel,Ri h⟩
theorem İ{i:Nat}{x:Str}{pos':Pos}(hN:X.N.Nodup)(hi:X.N[i]?=some x)(hx:Loc X.env.scope x)(he:PE X e (tO (kk X cm) E mo))(hs:swapsWith e (some (.Name x pos')) pos.line X.env=pure false:=by rfl)(hf:X.fn x=true∨X.env.scope.names.lookup x=some .local:=by first|exact .inl rfl|exact .inr rfl|assumption) :
 PS X (.Assign [.Name x pos'] e pos) (tS (kk X cm) E (ķ i mo)):=PS.wk (Wu hN hi hx he hs hf) fun D σ H ⟨c,F,ρ,rel,h⟩=>⟨c,F,ρ,rel,Ž.bind h fun r ρ1 v F1 H1 ĥ s1 q h1=>by
 cases r with
 |sh p=>exact h1 _ F1 H1 (ĥ.put rfl ⟨v,rfl,q⟩) (Same.refl _)
 |ow ps=>
  obtain⟨a,vs,rfl,q1,q2,q3,q4,q5⟩:=q
  exact h1 _ F1 H1 (ĥ.Rf ⟨a,vs,rfl,q1,q2,q3,q5⟩ rfl q4) (Same.refl _)
 |ot ps qs=>
  obtain⟨p,a,xs,vs,rfl,q0,qx,q1,q2,q3,q4,q5⟩:=q
  exact h1 _ F1 H1 (ĥ.Rf (s:=.ot ps qs) ⟨p,a,xs,vs,rfl,q0,qx,q1,q2,q3,q5⟩ ⟨p,xs,rfl,q0⟩ q4) (Same.refl _)⟩
theorem Ġ(he:PE X e (tO (kk X cm) E mo)):PS X (.Return (some e) pos) (tS (kk X cm) E (ĭ mo)):=PS.wk (Wq he) fun D σ H ⟨c,F,ρ,rel,h⟩=>⟨c,F,ρ,rel,Ž.bind h fun r ρ1 v F1 H1 ĥ s1 q h1=>h1 v σ F1 H1 ĥ (Same.refl _) q⟩
theorem Ś{t:M Bool}{ss ss':List Stmt}(hc:PT X a (tB (kk X cm) E t))(ha:lY X ss (tS (kk X cm) E m1))(hb:lY X ss' (tS (kk X cm) E m2)):PS X (.If a ss ss' pos) (tS (kk X cm) E (bJ t m1 m2)):=PS.wk (Zce hc ha hb) fun D σ H ⟨c,F,ρ,rel,h⟩=>⟨c,F,ρ,rel,Ž.bind h fun r ρ1 v F1 H1 ĥ s1 q h1=>by
 have e:r=v:=q
 subst e
 cases r with
 |true=>exact⟨c,F1,ρ1,ĥ,h1⟩
 |false=>exact⟨c,F1,ρ1,ĥ,h1⟩⟩
def XJ{α:Type}:M α:= fun _=>.bad
theorem Rj:PS X st (tS (kk X cm) E XJ):=PS.wk FW fun D σ H ⟨c,F,ρ,rel,h⟩=>h
abbrev Tg:=PV→Ŗ→Option Ŗ
abbrev Fx:=List PV→Ŗ→Option Ŗ
def ZcM(K:KK)(c:Ctx)(F H:Hp)(Q:L2.St→Hp→Prop):Option Ŗ→Prop
 |some ρ'=>∀σ',Rel K c F H σ' ρ'→Q σ' H
 |none=>False
def tT(K:KK)(g:Tg):TG:=fun v σ H Q=>∃c F ρ p,Rel K c F H σ ρ∧Rep K F p v∧ZcM K c F H Q (g p ρ)
def tTs(K:KK)(g:Fx):FZ:=fun v σ H Q=>∃c F ρ p,Rel K c F H σ ρ∧Ī K F p v∧ZcM K c F H Q (g p ρ)
def gN(i:Nat):Tg:=fun p ρ=>some (ρ.set i (.sh p))
def ŝ:Fx:=fun ps ρ=>match ps with
 | []=>some ρ
 |_=>none
def ě(g:Tg)(gs:Fx):Fx:=fun ps ρ=>match ps with
 |p::ps=>(g p ρ).bind fun ρ1=>gs ps ρ1
 | []=>none
def gT(n:Nat)(gs:Fx):Tg:=fun p ρ=>match p with
 | .tup ps=>if ps.length=n then gs ps ρ else none
 |_=>none
theorem PG.wk'{tg:Expr}{t t':TG}(h:PG X tg t)(i:∀v σ H Q,t' v σ H Q→t v σ H Q):PG X tg t':=fun pins s σ H v u Q I r q=>h pins s σ H v u Q I r (i v σ H Q q)
theorem yQ.wk{tg:List Expr}{t t':FZ}(h:yQ X tg t)(i:∀v σ H Q,t' v σ H Q→t v σ H Q):yQ X tg t':=fun pins s σ H v u Q I r q=>h pins s σ H v u Q I r (i v σ H Q q)
theorem Ĝ{i:Nat}{x:Str}(hN:X.N.Nodup)(hi:X.N[i]?=some x)(hx:Loc X.env.scope x)(hf:X.fn x=true∨X.env.scope.names.lookup x=some .local:=by first|exact .inl rfl|exact .inr rfl|assumption):PG X (.Name x pos) (tT (kk X cm) (gN i)):=
 PG.wk' (Qs hN hi hx hf) fun v σ H Q ⟨c,F,ρ,p,rel,rp,h⟩=>h _ (rel.put rfl ⟨v,rfl,rp⟩)
theorem aK:yQ X [] (tTs (kk X cm) ŝ):=yQ.wk Qt fun v σ H Q ⟨c,F,ρ,p,rel,rp,h⟩=>by
 cases p with
 |nil=>
  have e:v=[]:=by have:=rp;unfold Ī at this;exact this
  exact⟨e,h σ rel⟩
 |cons _ _=>exact h.elim
theorem Į{es:List Expr}{g:Tg}{gs:Fx}(h1:PG X e (tT (kk X cm) g))(h2:yQ X es (tTs (kk X cm) gs))(hs:(assignEach (e::es) X.env).map (·.2)=assign e X.env::(assignEach es X.env).map (·.2):=by rfl):yQ X (e::es) (tTs (kk X cm) (ě g gs)):=
 yQ.wk (Ga h1 h2 hs) fun v σ H Q ⟨c,F,ρ,p,rel,rp,h⟩=>by
  cases p with
  |nil=>exact h.elim
  |cons p ps=>
   unfold Ī at rp
   obtain⟨x,r,rfl,r1,r2⟩:=rp
   refine⟨x,r,rfl,c,F,ρ,p,rel,r1,?_⟩
   unfold ě at h
   dsimp only at h
   cases eg:g p ρ with
   |none=>rw[eg] at h;exact h.elim
   |some ρ1=>rw[eg] at h;exact fun σ' bN=>⟨c,F,ρ1,ps,bN,r2,h⟩
theorem nC{es:List Expr}{k:Nat}{gs:Fx}{n:Nat}(hc:X.calm=true)(h:yQ X es (tTs (kk X cm) gs))(hn:(assignEach es X.env).length=n:=by rfl)(hst:(assignEach es X.env).findIdx? (·.1)=none:=by rfl):PG X (.Tuple es k pos) (tT (kk X cm) (gT n gs)):=
 PG.wk' (Gb hc h hn hst) fun v σ H Q ⟨c,F,ρ,p,rel,rp,h⟩=>by
   cases p with
   |tup ps=>
    unfold Rep at rp
    obtain⟨a,xs,h1,h2,h3⟩:=rp
    unfold gT at h
    dsimp only at h
    split at h
    ·rename_i hl
     exact⟨a,xs,h1,Same.tup rel.sub h2,by rw[←h3.length];exact hl,c,F,ρ,ps,rel,h3,h⟩
    ·exact h.elim
   |_=>exact h.elim
def ql(g:Tg)(m:M PV):M Fl:=fun ρ=>(m ρ).bind fun p ρ1=>match g p ρ1 with
 |some ρ2=>.ok .nx ρ2
 |none=>.bad
theorem lE{tg:Expr}{g:Tg}(he:PE X e (tV (kk X cm) E mv))(hg:PG X tg (tT (kk X cm) g))(hs:swapsWithSole [tg] e pos.line X.env=pure false:=by rfl)(hw:swappedStores [tg] e X.env=pure none:=by rfl)
 (h1:(assignEach [tg] X.env).map (·.2)=[assign tg X.env]:=by rfl):PS X (.Assign [tg] e pos) (tS (kk X cm) E (ql g mv)):=PS.wk (Gd he hg hs hw h1) fun D σ H ⟨c,F,ρ,rel,h⟩=>⟨c,F,ρ,rel,Ž.bind h fun r ρ1 v F1 H1 ĥ s1 q h1=>by
 refine⟨c,F1,ρ1,r,ĥ,q,?_⟩
 cases eg:g r ρ1 with
 |none=>rw[eg] at h1;exact h1.elim
 |some ρ2=>rw[eg] at h1;exact fun σ' bN=>h1 σ' F1 H1 bN (Same.refl _)⟩
def Em(i j:Nat)(mr:M (List PV)):M Fl:=fun ρ=>(mr ρ).bind fun ps ρ1=>match ps with
 | [p,q]=>.ok .nx ((ρ1.set i (.sh p)).set j (.sh q))
 |_=>.bad
theorem tY{i j:Nat}{mr:M (List PV)}{D:Ends}{σ:L2.St}{H:Hp}(h:tS (kk X cm) E (Em i j mr) D σ H):Zci i j (tL (kk X cm) E mr) D σ H:=by
 obtain⟨c,F,ρ,rel,h⟩:=h
 refine⟨c,F,ρ,rel,Ž.bind h fun ps ρ1 vs F1 H1 ĥ s1 q h1=>?_⟩
 cases ps with
 |nil=>exact h1.elim
 |cons p ps=>
  cases ps with
  |nil=>exact h1.elim
  |cons p2 ps=>
   cases ps with
   |nil=>
    have q':Ī (kk X cm) F1 [p,p2] vs:=q
    cases q'.pr with
    |cons r1 t=>
     cases t with
     |cons r2 t=>
      cases t
      exact⟨_,_,rfl,h1 _ F1 H1 ((ĥ.put (s:=.sh p) rfl ⟨_,rfl,r1⟩).put (s:=.sh p2) rfl ⟨_,rfl,r2⟩) (Same.refl _)⟩
   |cons _ _=>exact h1.elim
def zB(i:Nat)(mi:M PV)(m:M PV):M Fl:=fun ρ=>(m ρ).bind fun p ρ1=>match ρ1[i]? with
 |some (.ow _)=>(mi ρ1).bind fun q ρ2=>match ρ2[i]?,q with
  |some (.ow ps),.int k=>match Fw ps.length k with
   |some j=>.ok .nx (ρ2.set i (.ow (ps.set j p)))
   |none=>.bad
  |_,_=>.bad
 |_=>.bad
theorem Rk{i:Nat}{x:Str}{ix:Expr}{mi:M PV}{px zE:Pos}(he:PE X e (tV (kk X cm) E mv))(hi:PE X ix (tV (kk X cm) E mi))(ho:PE X (.Name x px) (yP i))
 (hsub:∀v,assign (.Subscript (.Name x px) ix zE) X.env v=(do
   let ov ←holding [v] (eval (.Name x px) X.env)
   let iv ←holding [v,ov] (eval ix X.env)
   standAt zE
   holding [v,ov,iv] (setItem ov iv v)
   release [v,ov,iv] []):=by intro _;rfl)
 (hs:swapsWithSole [.Subscript (.Name x px) ix zE] e pos.line X.env=pure false:=by rfl)(hw:swappedStores [.Subscript (.Name x px) ix zE] e X.env=pure none:=by rfl)
 (h1:(assignEach [.Subscript (.Name x px) ix zE] X.env).map (·.2)=[assign (.Subscript (.Name x px) ix zE) X.env]:=by rfl) :
 PS X (.Assign [.Subscript (.Name x px) ix zE] e pos) (tS (kk X cm) E (zB i mi mv)):=PS.wk (Gd he (Wt ho hi set_list hsub) hs hw h1) fun D σ H ⟨c,F,ρ,rel,h⟩=>⟨c,F,ρ,rel,Ž.bind h fun p ρ1 v F1 H1 ĥ s1 q h1=>by
 cases e1:ρ1[i]? with
 |none=>rw[e1] at h1;exact h1.elim
 |some sl=>
  rw[e1] at h1
  cases sl with
  |ow ps0=>
   obtain⟨a,vs0,z1,_,_,_,_,_⟩:=ĥ.ow e1
   refine⟨.ref a,z1,c,F1,ρ1,ĥ,Ž.bind h1 fun q' ρ2 u F2 H2 Ō s2 r2 h2=>?_⟩
   cases e2:ρ2[i]? with
   |none=>rw[e2] at h2;exact h2.elim
   |some sl2=>
    rw[e2] at h2
    cases sl2 with
    |ow ps=>
     cases q' with
     |int k=>
      have eu:u=.int k:=by have:Rep (kk X cm) F2 (.int k) u:=r2;unfold Rep at this;exact this
      subst eu
      dsimp only at h2
      obtain⟨a2,vs,w1,w2,w3,w4,w5,w6⟩:=Ō.ow e2
      rw[z1] at w1
      cases w1
      cases ej:Fw ps.length k with
      |none=>rw[ej] at h2;exact h2.elim
      |some j=>
       rw[ej] at h2
       refine⟨a,vs,k,j,rfl,rfl,w2,by rw[←w5.length];exact ej,h2 σ F2 _ (Ō.write w6 z1 ⟨a,vs.set j v,rfl,ľ,w3,w4,?_⟩ fun _ z=>(V.ref.inj z).symm) (Same.refl _)⟩
       exact Ī.of (G_ (Rep.same s2 p v q) j w5.pr)
     |_=>exact h2.elim
    |_=>exact h2.elim
  |_=>exact h1.elim⟩
def vQ(i:Nat)(m:M PV):M Fl:=fun ρ=>match ρ[i]? with
 |some (.ow _)=>(m ρ).bind fun p ρ1=>match ρ1[i]? with
  |some (.ow ps)=>if ps.length<16777216 then .ok .nx (ρ1.set i (.ow (ps ++ [p]))) else .bad
  |_=>.bad
 |_=>.bad
theorem jz{i:Nat}{D:Ends}{σ:L2.St}{H:Hp}(h:tS (kk X cm) E (vQ i mv) D σ H):FT (tBM X.K "list" Ca (yP i) (tL (kk X cm) E (Ą mv ė))) D σ H:=by
 obtain⟨c,F,ρ,rel,h⟩:=h
 unfold vQ at h
 cases e1:ρ[i]? with
 |none=>rw[e1] at h;exact h.elim
 |some sl=>
  rw[e1] at h
  cases sl with
  |ow ps0=>
   obtain⟨a,vs0,z1,z2,z3,z4,z5,z6⟩:=rel.ow e1
   refine⟨.ref a,z1,.inl ⟨rfl,_,aG.of z2⟩,c,F,ρ,rel,?_⟩
   dsimp only at h
   unfold Ą
   cases em:mv ρ with
   |bad=>rw[em] at h;exact h
   |exc x ρ1=>rw[em] at h;exact fun C d F' H' bN s1 q=>h σ C d F' H' bN s1 q
   |ok p ρ1=>
    rw[em] at h
    intro us F1 H1 ĥ s1 s2 r1
    have r1':Ī (kk X cm) F1 [p] us:=r1
    cases r1'.pr with
    |cons rp t=>
     rename_i v vs'
     cases t
     cases e2:ρ1[i]? with
     |none=>simp only[Res.aU,e2] at h;exact h.elim
     |some sl2=>
      simp only[Res.aU,e2] at h
      cases sl2 with
      |ow ps=>
       obtain⟨a2,vs,w1,w2,w3,w4,w5,w6⟩:=ĥ.ow e2
       rw[z1] at w1
       cases w1
       dsimp only at h
       split at h
       ·rename_i hz
        refine⟨a,vs,v,rfl,rfl,w2,by rw[←w5.length,ŗ];exact hz,h σ F1 _ (ĥ.write w6 z1 ⟨a,vs ++ [v],rfl,ľ,w3,w4,Ī.append w5 (Ī.cons rp Ī.nil)⟩ fun _ z=>(V.ref.inj z).symm) s1⟩
       ·exact h.elim
      |_=>exact h.elim
  |_=>exact h.elim
def Ń(mc:M Bool)(mb:M Fl):Nat→Ŗ→Res Fl
 |0,_=>.bad
 |n+1,ρ=>(mc ρ).bind fun b ρ1=>if b=true then(mb ρ1).bind fun f ρ2=>match f with
  | .nx=>Ń mc mb n ρ2
  | .ct=>Ń mc mb n ρ2
  | .bk=>.ok .nx ρ2
  | .rt r=>.ok (.rt r) ρ2 else .ok .nx ρ1
theorem ž{mc:M Bool}{mb:M Fl}(n:Nat)(ρ:Ŗ):Ń mc mb (n+1) ρ=(mc ρ).bind fun b ρ1=>if b=true then(mb ρ1).bind fun f ρ2=>match f with
 | .nx=>Ń mc mb n ρ2
 | .ct=>Ń mc mb n ρ2
 | .bk=>.ok .nx ρ2
 | .rt r=>.ok (.rt r) ρ2 else .ok .nx ρ1:=rfl
open Classical in
noncomputable def Ŷ(mc:M Bool)(mb:M Fl):M Fl:=fun ρ=>if h:∃n,Ń mc mb n ρ≠ .bad then Ń mc mb (Classical.choose h) ρ else .bad
theorem gn{mc:M Bool}{mb:M Fl}:∀(n:Nat) (ρ:Ŗ),Ń mc mb n ρ≠ .bad→Ń mc mb (n+1) ρ=Ń mc mb n ρ
 |0,ρ,h=>absurd rfl h
 |n+1,ρ,h=>by
  rw[ž] at h
  rw[ž (n+1),ž n]
  cases e:mc ρ with
  |bad=>rfl
  |exc x ρ1=>rfl
  |ok b ρ1=>
   rw[e] at h
   simp only[Res.aU] at h ⊢
   cases b with
   |false=>rfl
   |true=>
    simp only[if_true] at h ⊢
    cases e2:mb ρ1 with
    |bad=>rfl
    |exc x ρ2=>rfl
    |ok f ρ2=>
     rw[e2] at h
     simp only[Res.aU] at h ⊢
     cases f with
     |nx=>exact gn n ρ2 h
     |ct=>exact gn n ρ2 h
     |bk=>rfl
     |rt r=>rfl
theorem qR{mc:M Bool}{mb:M Fl}{n m:Nat}{ρ:Ŗ}(h:Ń mc mb n ρ≠ .bad)(hm:n≤m):Ń mc mb m ρ=Ń mc mb n ρ:= by
 induction hm with
 |refl=>rfl
 |step _ ih=>rw[gn _ _ (by rw[ih];exact h),ih]
theorem ao{mc:M Bool}{mb:M Fl}{ρ:Ŗ}(n:Nat)(h:Ń mc mb n ρ≠ .bad):Ŷ mc mb ρ=Ń mc mb n ρ:= by
 unfold Ŷ
 have hx:∃n,Ń mc mb n ρ≠ .bad:=⟨n,h⟩
 rw[dif_pos hx]
 have hc:=Classical.choose_spec hx
 rcases Nat.le_total n (Classical.choose hx) with hle|hle
 ·exact qR h hle
 ·exact(qR hc hle).symm
theorem gq{mc:M Bool}{mb:M Fl}{ρ:Ŗ}:Ŷ mc mb ρ=(mc ρ).bind fun b ρ1=>if b=true then(mb ρ1).bind fun f ρ2=>match f with
 | .nx=>Ŷ mc mb ρ2
 | .ct=>Ŷ mc mb ρ2
 | .bk=>.ok .nx ρ2
 | .rt r=>.ok (.rt r) ρ2 else .ok .nx ρ1:=by
 have go:∀ρ2,Ŷ mc mb ρ2=.bad∨∃n,Ŷ mc mb ρ2=Ń mc mb n ρ2∧Ń mc mb n ρ2≠ .bad:=fun ρ2=>by
  by_cases hx:∃n,Ń mc mb n ρ2≠ .bad
  ·obtain⟨n,h⟩:=hx
   exact .inr ⟨n,ao n h,h⟩
  ·left;unfold Ŷ;rw[dif_neg hx]
 have ZjC:∀ρ2,Ŷ mc mb ρ2=.bad→∀n,Ń mc mb n ρ2=.bad:=fun ρ2 h n=>by
  refine Classical.byContradiction fun z=>?_
  rw[ao n z] at h
  exact z h
 have fin:∀n,Ń mc mb (n+1) ρ≠ .bad→Ŷ mc mb ρ=Ń mc mb (n+1) ρ:= fun n h=>ao _ h
 cases e:mc ρ with
 |bad=>rcases go ρ with h|⟨n,h1,h2⟩
       ·rw[h];rfl
       ·cases n with
        |zero=>exact absurd rfl h2
        |succ n=>rw[ž,e] at h2;exact absurd rfl h2
 |exc x ρ1=>
  have h:Ń mc mb 1 ρ=.exc x ρ1:=by rw[ž,e];rfl
  rw[ao 1 (by rw[h];intro z;cases z),h];rfl
 |ok b ρ1=>
  simp only[Res.aU]
  cases b with
  |false=>
   have h:Ń mc mb 1 ρ=.ok .nx ρ1:=by rw[ž,e];rfl
   rw[ao 1 (by rw[h];intro z;cases z),h];rfl
  |true=>
   simp only[if_true]
   have one:∀n,Ń mc mb (n+1) ρ=(mb ρ1).bind fun f ρ2=>match f with
    | .nx=>Ń mc mb n ρ2
    | .ct=>Ń mc mb n ρ2
    | .bk=>.ok .nx ρ2
    | .rt r=>.ok (.rt r) ρ2:=fun n=>by rw[ž,e];rfl
   cases e2:mb ρ1 with
   |bad=>
    rcases go ρ with h|⟨n,h1,h2⟩
    ·rw[h];rfl
    ·cases n with
     |zero=>exact absurd rfl h2
     |succ n=>rw[one,e2] at h2;exact absurd rfl h2
   |exc x ρ2=>
    have h:Ń mc mb 1 ρ=.exc x ρ2:=by rw[one,e2];rfl
    rw[ao 1 (by rw[h];intro z;cases z),h];rfl
   |ok f ρ2=>
    have turn:(∀n,Ń mc mb (n+1) ρ=Ń mc mb n ρ2)→Ŷ mc mb ρ=Ŷ mc mb ρ2:=fun hn=>by
     rcases go ρ2 with h|⟨n,h1,h2⟩
     ·rcases go ρ with h'|⟨n,h1,h2⟩
      ·rw[h,h']
      ·cases n with
       |zero=>exact absurd rfl h2
       |succ n=>rw[hn,ZjC ρ2 h n] at h2;exact absurd rfl h2
     ·rw[h1,←hn n]
      exact fin n (by rw[hn n];exact h2)
    cases f with
    |nx=>exact turn fun n=>by rw[one,e2];rfl
    |ct=>exact turn fun n=>by rw[one,e2];rfl
    |bk=>
     have h:Ń mc mb 1 ρ=.ok .nx ρ2:=by rw[one,e2];rfl
     rw[ao 1 (by rw[h];intro z;cases z),h];rfl
    |rt r=>
     have h:Ń mc mb 1 ρ=.ok (.rt r) ρ2:=by rw[one,e2];rfl
     rw[ao 1 (by rw[h];intro z;cases z),h];rfl
theorem Cv{c:Expr}{body:List Stmt}{mc:M Bool}{mb:M Fl}(hp:PassesOwn (model X.prog X.w) X.A X.env X.xe)(hc:PT X c (tB (kk X cm) E mc))(hb:lY X body (tS (kk X cm) E mb)):PS X (.While c body [] pos) (tS (kk X cm) E (Ŷ mc mb)):=PS.wk (Ge hp hc hb) fun D σ H ⟨c,F,ρ,rel,h⟩=>by
 obtain⟨n,hn⟩:∃n,Ž (kk X cm) E c F D (Ń mc mb n ρ):=by
  by_cases hx:∃n,Ń mc mb n ρ≠ .bad
  ·obtain⟨n,hn⟩:=hx
   rw[ao n hn] at h
   exact⟨n,h⟩
  ·unfold Ŷ at h
   rw[dif_neg hx] at h
   exact h.elim
 refine⟨fun m σ' H'=>∃F2 ρ2,Rel (kk X cm) c F2 H' σ' ρ2∧Same F F2∧Ž (kk X cm) E c F2 D (Ń mc mb m ρ2),⟨n,F,ρ,rel,Same.refl _,hn⟩,?_⟩
 rintro m σ1 H1 ⟨F1,ρ1,ĥ,s1,h1⟩
 cases m with
 |zero=>exact h1.elim
 |succ m=>
  rw[ž] at h1
  refine⟨c,F1,ρ1,ĥ,Ž.bind h1 fun k ρ2 v F2 H2 Ō s2 q h2=>?_⟩
  have e:k=v:=q
  subst e
  cases k with
  |false=>
   rw[if_neg Bool.false_ne_true]
   rw[if_neg Bool.false_ne_true] at h2
   exact h2 σ1 F2 H2 Ō (Same.refl _)
  |true=>
   rw[if_pos rfl]
   rw[if_pos rfl] at h2
   refine⟨_,fun σ' H' z=>z,c,F2,ρ2,Ō,?_⟩
   have nxt:∀{ρ3:Ŗ},Ž (kk X cm) E c F2 D (Ń mc mb m ρ3)→∀σ' F' H',Rel (kk X cm) c F' H' σ' ρ3→Same F2 F'→∃m',m'<m+1∧∃F2 ρ2,Rel (kk X cm) c F2 H' σ' ρ2∧Same F F2∧Ž (kk X cm) E c F2 D (Ń mc mb m' ρ2):=
    fun{ρ3} h3 σ' F' H' bN s'=>⟨m,Nat.lt_succ_self m,F',ρ3,bN,(s1.trans s2).trans s',Ž.mono h3 s'⟩
   cases e2:mb ρ2 with
   |bad=>rw[e2] at h2;exact h2
   |exc x ρ3=>rw[e2] at h2;exact h2
   |ok f ρ3=>
    rw[e2] at h2
    cases f with
    |nx=>exact nxt h2
    |ct=>exact nxt h2
    |bk=>exact h2
    |rt r=>exact h2
def fU(K:KK)(Lh F:Hp)(J:It)(items:List PV):Prop:=∀(c:Ctx) (i:Nat) (F2 H:Hp) (σ:L2.St) (ρ:Ŗ),Rel K c F2 H σ ρ→Same F F2→Same Lh H→
 (∀p,items[i]?=some p→J.go i H∧∀x H',J.yld i H x H'→∃F3,Rel K c F3 H' σ ρ∧Same F2 F3∧Same H H'∧Rep K F3 p x)∧(i=items.length→J.stop i H)
def rIt(K:KK):RR (List PV) It:=fun c _ _ F _ items J=>fU K c.L F J items
abbrev tI(K:KK)(E:L2.St→XK)(m:M (List PV)):TI:=tG K E (rIt K) m
def forL(g:Tg)(mb:M Fl):List PV→M Fl
 | [],ρ=>.ok .nx ρ
 |p::ps,ρ=>match g p ρ with
  |none=>.bad
  |some ρ1=>(mb ρ1).bind fun f ρ2=>match f with
   | .nx=>forL g mb ps ρ2
   | .ct=>forL g mb ps ρ2
   | .bk=>.ok .nx ρ2
   | .rt r=>.ok (.rt r) ρ2
def cU(mi:M (List PV))(g:Tg)(mb:M Fl):M Fl:=fun ρ=>(mi ρ).bind fun items ρ1=>forL g mb items ρ1
theorem aW{iter tg:Expr}{body:List Stmt}{mi:M (List PV)}{g:Tg}{mb:M Fl}(hp:PassesOwn (model X.prog X.w) X.A X.env X.xe)(hc:X.calm=true)(hi:PI X tg iter (tI (kk X cm) E mi))(hg:PG X tg (tT (kk X cm) g))(hb:lY X body (tS (kk X cm) E mb))
 (hs:∀x,foldedSetIterable iter X.env x=pure x:=by intro _;rfl):PS X (.For tg iter body [] pos) (tS (kk X cm) E (cU mi g mb)):=PS.wk (Wy hp hc hi hg hb hs) fun D σ H ⟨c,F,ρ,rel,h⟩=>⟨c,F,ρ,rel,Ž.bind h fun items ρ1 J F1 H1 ĥ s1 ito h1=>by
 refine⟨fun i m σ' H'=>∃F2 ρ2,i≤items.length∧m=items.length-i∧Rel (kk X cm) c F2 H' σ' ρ2∧Same F1 F2∧Ž (kk X cm) E c F2 D (forL g mb (items.drop i) ρ2),⟨_,F1,ρ1,Nat.zero_le _,rfl,ĥ,Same.refl _,h1⟩,?_⟩
 rintro i m σ2 H2 ⟨F2,ρ2,hle,rfl,Ō,s2,h2⟩
 obtain⟨go,stop⟩:=ito c i F2 H2 σ2 ρ2 Ō s2 fun b u e=>(Ō.lent b u e).1
 by_cases hlt:i<items.length
 ·obtain⟨g1,g2⟩:=go items[i] (List.getElem?_eq_getElem hlt)
  rw[List.drop_eq_getElem_cons hlt] at h2
  unfold forL at h2
  refine .inr ⟨g1,_,fun σ' H' z=>z,fun x H3 hy=>?_⟩
  obtain⟨F3,mq,s3,_,rp⟩:=g2 x H3 hy
  refine⟨c,F3,ρ2,items[i],mq,rp,?_⟩
  cases eg:g items[i] ρ2 with
  |none=>rw[eg] at h2;exact h2.elim
  |some ρ3=>
   rw[eg] at h2
   dsimp only at h2
   intro σ4 vO
   refine⟨c,F3,ρ3,vO,?_⟩
   have nxt:∀{ρ4:Ŗ},Ž (kk X cm) E c F2 D (forL g mb (items.drop (i+1)) ρ4)→∀σ' F' H',Rel (kk X cm) c F' H' σ' ρ4→Same F3 F'→∃m',m'<items.length-i∧∃F2 ρ2,i+1≤items.length∧m'=items.length-(i+1)∧Rel (kk X cm) c F2 H' σ' ρ2∧Same F1 F2∧Ž (kk X cm) E c F2 D (forL g mb (items.drop (i+1)) ρ2):=
    fun{ρ4} h3 σ' F' H' bN s'=>⟨items.length-(i+1),by omega,F',ρ4,hlt,rfl,bN,(s2.trans s3).trans s',Ž.mono h3 (s3.trans s')⟩
   have h2':=Ž.mono h2 s3
   cases e2:mb ρ3 with
   |bad=>rw[e2] at h2;exact h2
   |exc x ρ4=>rw[e2] at h2';exact h2'
   |ok f ρ4=>
    rw[e2] at h2 h2'
    cases f with
    |nx=>exact nxt h2
    |ct=>exact nxt h2
    |bk=>exact h2'
    |rt r=>exact h2'
 ·have e:i=items.length:=by omega
  refine .inl ⟨stop e,?_⟩
  rw[List.drop_eq_nil_of_le (by omega)] at h2
  unfold forL at h2
  exact h2 σ2 F2 H2 Ō (Same.refl _)⟩
end
end P
namespace P
open PySem PySem.Spec PyProof.Rows L2 M2 M3
inductive FR where
 |ret (r:RV)|exc (x:PX)|bad
abbrev MF:=List Slot→FR
def FR.of:Res Fl→FR
 | .ok (.rt r) _=>.ret r
 | .ok .nx _=>.ret (.sh .non)
 | .exc x _=>.exc x
 |_=>.bad
def Ň(n k:Nat)(mb:M Fl):MF:=fun as=>if as.length=n then FR.of (mb (startP k as)) else .bad
def rF(K:KK)(H F' H':Hp):RV→V→Prop
 | .sh p,v=>Rep K F' p v
 | .ow ps,v=>∃a vs,v=.ref a∧H' a=some (.lst vs)∧F' a=none∧H a=none∧Ī K F' ps vs
 | .ot ps qs,v=>∃p a xs vs,v=.ref p∧F' p=some (.tup (xs ++ [.ref a]))∧Ī K F' ps xs∧H' a=some (.lst vs)∧F' a=none∧H a=none∧Ī K F' qs vs
def ZjD(K:KK)(E:XK)(F H:Hp)(Q:VK):FR→Prop
 | .ret r=>∀v F' H',Gr F H F' H'→rF K H F' H' r v→Q v H'
 | .exc x=>∀C d F' H',Gr F H F' H'→Rg K F' x C d→E C d H'
 | .bad=>False
def ż(K:KK)(n:Nat)(mf:MF):Sp:=fun vs H Q E=>∃F as,as.length=n∧Same F H∧Paired (cI K F H) as vs∧ZjD K E F H Q (mf as)
def eX(CX:pZ)(X:Cx)(E:L2.St→XK):Prop:=∀(pins:List (Addr×Obj)) (σ:L2.St) (H:Hp) (s:Shared) (e:Value) (s':Shared),Inv X pins σ H s→CX X.stack H s (E σ) e s'→X.xe e s'
section
variable{P:Program}{w:World}{K:PySem.W.Frag}{cm:String→Addr}{mg:Str→Option Value}{base:Heap}{CX:pZ}
theorem fnP{x qual:Str}{st:Stmt}{f:Addr}{fd:FuncData}{N ps:List Str}{k:Nat}{mb:M Fl}(F:aj K x qual st f fd)(S:Ě N ps (Ċ st))
 (hbody:∀(cdv:Value) (A:Around) (outer:List Env) (s:Shared) (H:Hp) (E:XK),bM k (A.deeper (envOfC qual (Ċ st) s.heap.objs.size f cdv))→
   lY (cA CX P w K mg base N qual (Ċ st) f cdv A outer s H E) (cB st) (tS ⟨K,cm⟩ (fun _=>E) mb)):Ķ P w K mg base CX (k+1) f fd ps (ż ⟨K,cm⟩ ps.length (Ň ps.length N.length mb)):=by
 obtain⟨oc,od,kV,doc,pm,an,cdv,ct,osl,rfl,lk,hcd⟩:=F.ex
 refine Tt lk hcd S (fun vs H Q E ⟨F,ps',h1,_,h2,_⟩=>by rw[←Paired.length h2];exact h1) fun A outer s H vs Q E hr hsp=>?_
 obtain⟨F,ps',h1,h2,h3,h4⟩:=hsp
 refine⟨_,hbody cdv A outer s H E hr,ctx0 F H,F,startP N.length ps',Rel.start h2 h3,?_⟩
 unfold Ň at h4
 rw[if_pos h1] at h4
 cases e:mb (startP N.length ps') with
 |bad=>rw[e] at h4;exact h4
 |exc x ρ'=>rw[e] at h4;exact fun σ' C d F' H' rel s1 q=>h4 C d F' H' rel.gr q
 |ok fl ρ'=>
  rw[e] at h4
  cases fl with
  |nx=>exact fun σ' F' H' rel s1=>h4 .non F' H' rel.gr (Rep.non (K:=⟨K,cm⟩) (F:=F'))
  |bk=>exact h4.elim
  |ct=>exact h4.elim
  |rt r=>
   intro v σ' F' H' rel s1 q
   refine h4 v F' H' rel.gr ?_
   cases r with
   |sh p=>exact q
   |ow qs=>
    obtain⟨a,vs',e1,e2,e3,e4,_,e5⟩:=q
    exact⟨a,vs',e1,e2,e3,e4,e5⟩
   |ot qs ts=>
    obtain⟨p,a,xs,vs',e1,e0,ex,e2,e3,e4,_,e5⟩:=q
    exact⟨p,a,xs,vs',e1,e0,ex,e2,e3,e4,e5⟩
theorem aL{x qual:Str}{st:Stmt}{f:Addr}{fd:FuncData}{N ps:List Str}{k n j:Nat}{mb:M Fl}{mf:MF}(F:aj K x qual st f fd)(S:Ě N ps (Ċ st))(hn:ps.length=n)(hj:N.length=j)(hf:mf=Ň n j mb)
 (hbody:∀(cdv:Value) (A:Around) (outer:List Env) (s:Shared) (H:Hp) (E:XK),bM k (A.deeper (envOfC qual (Ċ st) s.heap.objs.size f cdv))→
   lY (cA CX P w K mg base N qual (Ċ st) f cdv A outer s H E) (cB st) (tS ⟨K,cm⟩ (fun _=>E) mb)):Ķ P w K mg base CX (k+1) f fd ps (ż ⟨K,cm⟩ n mf):=by
 subst hn hj hf
 exact fnP F S hbody
end
def Ė(mf:MF)(mr:M (List Slot)):M RV:=fun ρ=>(mr ρ).bind fun ps ρ1=>match mf ps with
 | .ret r=>.ok r ρ1
 | .exc x=>.exc x ρ1
 | .bad=>.bad
section
variable{X:Cx}{cm:String→Addr}{E:L2.St→XK}{CX:pZ}{k n:Nat}{f:Addr}{fd:FuncData}{ps:List Str}{mf:MF}{mr:M (List Slot)}{x:Str}{p pos:Pos}{e:Expr}{es:List Expr}
theorem Cw{sp:Sp}{pins:List (Addr×Obj)}{σ:L2.St}{H:Hp}{s:Shared}{Q:VK}{us:List Value}{vs:List V}(F:Ķ X.prog X.w X.K X.mg X.base CX k f fd ps sp)(hr:bM k X.A)(hb:Binds X.K fd ps [])(hx:eX CX X E)
 (I:Inv X pins σ H s)(r:Vals vs us)(h:sp vs H Q (E σ)):wpAny (model X.prog X.w) X.A (call (.ref f) us) (EP X pins σ Q) X.xe s:=by
 have hl:(us ++ []).length=ps.length:=by rw[List.append_nil,←r.length];exact F.len _ _ _ _ h
 have hbd:=hb s us I.jM hl
 rw[List.append_nil] at hbd
 refine wpAny_call (codeAny_mono (F.run X.A X.stack s H ⟨us,[]⟩ us vs Q (E σ) hr I.env0 hbd r h) fun r s' hq=>?_)
 cases r with
 |error e=>exact hx pins σ H s e s' I hq
 |ok fl=>
  cases fl with
  |ret u=>exact I.after hq
  |next=>exact False.elim hq
  |brk=>exact False.elim hq
  |cont=>exact False.elim hq
theorem vR{c:Ctx}{F1 H1:Hp}{σ:L2.St}{ρ1:Ŗ}{Q:VK}{ps:List Slot}{vs:List V}(hlen:(∃r,mf ps=r∧∀z,r=z→z≠ .bad)→ps.length=n)(ĥ:Rel (kk X cm) c F1 H1 σ ρ1)(r1:Paired (cI (kk X cm) F1 H1) ps vs)
 (h:bH (kk X cm) E (rO (kk X cm)) c F1 H1 σ Q (match mf ps with| .ret r=>.ok r ρ1| .exc x=>.exc x ρ1| .bad=>.bad)):ż (kk X cm) n mf vs H1 Q (E σ):=by
 refine⟨F1,ps,?_,ĥ.sub,r1,?_⟩
 ·refine hlen ⟨_,rfl,fun z hz hb=>?_⟩
  rw[hz,hb] at h
  exact h
 ·cases em:mf ps with
  |bad=>rw[em] at h;exact h
  |exc x=>rw[em] at h;exact fun C d F' H' g rx=>h C d F' H' (ĥ.call g) g.f rx
  |ret r=>
   rw[em] at h
   intro v F' H' g rf
   refine h v F' H' (ĥ.call g) g.f g.h ?_
   cases r with
   |sh p=>exact rf
   |ow qs=>
    obtain⟨a,vs',e1,e2,e3,e4,e5⟩:=rf
    exact⟨a,vs',e1,e2,e3,ĥ.base.free e4,ĥ.tW g.f (ĥ.fresh e4),e5⟩
   |ot qs ts=>
    obtain⟨p,a,xs,vs',e1,e0,ex,e2,e3,e4,e5⟩:=rf
    exact⟨p,a,xs,vs',e1,e0,ex,e2,e3,ĥ.base.free e4,ĥ.tW g.f (ĥ.fresh e4),e5⟩
theorem ċ{n k:Nat}{mb:M Fl}{ps:List Slot}(h:∃r,Ň n k mb ps=r∧∀z,r=z→z≠ .bad):ps.length=n:=by
 obtain⟨r,h1,h2⟩:=h
 unfold Ň at h1
 by_cases hl:ps.length=n
 ·exact hl
 ·rw[if_neg hl] at h1
  exact absurd h1.symm (fun z=>h2 .bad (by rw[←h1]) rfl)
theorem Ĕ(F:Ķ X.prog X.w X.K X.mg X.base CX k f fd ps (ż (kk X cm) n mf))(hlen:∀{ps:List Slot},(∃r,mf ps=r∧∀z,r=z→z≠ .bad)→ps.length=n)(hr:bM k X.A)(hg:Gl X x)(hm:X.mg x=some (.ref f))(hk:PySem.W.keepIn X.K (.ref f)=true)(hb:Binds X.K fd ps [])(hx:eX CX X E)
 (ha:PA X (e::es) (tA (kk X cm) E mr))(hdb:(x== ("__debug__" :Str))=false:=by decide)(he:starEach (e::es) X.env=(false,eval e X.env)::starEach es X.env:=by exact ř rfl)(hpl:(backTo pos (starEach es X.env)).any (·.1)=false:=by rfl) :
 PE X (.Call (.Name x p) (e::es) [] pos) (tO (kk X cm) E (Ė mf mr)):=by
 intro pins s σ H Q I h
 obtain⟨c,F,ρ,rel,h⟩:=h
 refine wpAny_Call_Name_kw (mO I hg hm ?_ hdb)
 refine PySem.W.callWith_K (h₀:= X.base) I.ok.mod.kin hk (Ų (ha pos pins s σ H (fun vs H1=>ż (kk X cm) n mf vs H1 Q (E σ)) I ⟨c,F,ρ,rel,h.bind fun ps' ρ1 vs F1 H1 ĥ _ _ r1 h1=>vR hlen ĥ r1 h1⟩) fun us s1 ⟨vs,H1,I1,r,q⟩=>⟨I1.jM,?_⟩) he hpl
 exact Cw (by assumption) hr hb hx I1 r q
end
def Ū(m:M PV):M (List PV):=fun ρ=>(m ρ).bind fun p ρ1=>match p with
 | .lst ps=>.ok ps ρ1
 | .tup ps=>.ok ps ρ1
 | .str z=>.ok (z.cps.toList.map fun c=>.str ⟨#[c]⟩) ρ1
 |_=>.bad
section
variable{X:Cx}{cm:String→Addr}{E:L2.St→XK}{tg:Expr}
def ZjE(K:PySem.W.Frag)(tl:TE):TI:=fun σ H R=>tl σ H fun x H1=>(∃a,x=.ref a∧(∃xs,aG K H1 a xs)∧R (Wx K a) H1)∨(∃a,x=.ref a∧(∃xs,dF K H1 a xs)∧R (Itt K a) H1)∨∃z,x=.str z∧R (Its z) H1
theorem Hi{l:Expr}{tl:TE}(hl:PE X l tl):PI X tg l (ZjE X.K tl):=by
 intro pins s σ H R I h
 refine Ų (hl pins s σ H _ I h) fun v s1 ⟨x,H1,I1,r1,q1⟩=>?_
 rcases q1 with⟨a,e,⟨xs,hq⟩,q⟩|⟨a,e,⟨xs,hq⟩,q⟩|⟨z,e,q⟩
 ·subst e
  cases r1
  obtain⟨its,rv,p,hz⟩:=I1.list hq
  refine wpAny_pyIter_list p.isList ?_
  refine⟨s1.heap.objs.size,[s1.heap.objs.size],_,_,H1,rfl,I1.kept (t':=s1.toks) fun b o e=>Heap.get?_push_of_some _ e,DR a _,⟨_,Heap.get?_push_size _ rfl,rfl,rfl⟩,fun b hb=>?_,q⟩
  have e:b=s1.heap.objs.size:=by simpa using hb
  subst e
  exact I1.DQ (Nat.le_refl _) (I1.hok.fresh (Nat.le_refl _))
 ·subst e
  cases r1
  obtain⟨its,rv,p,hz⟩:=I1.tuple hq
  refine wpAny_pyIter_tuple (show s1.heap.IsTuple a its.toArray from p) ?_
  refine⟨s1.heap.objs.size,[s1.heap.objs.size],_,_,H1,rfl,I1.kept (t':=s1.toks) fun b o e=>Heap.get?_push_of_some _ e,yS a _,⟨_,Heap.get?_push_size _ rfl,rfl,rfl⟩,fun b hb=>?_,q⟩
  have e:b=s1.heap.objs.size:=by simpa using hb
  subst e
  exact I1.DQ (Nat.le_refl _) (I1.hok.fresh (Nat.le_refl _))
 ·subst e
  obtain⟨t,rfl⟩:=r1
  have fin:∀ty,(∀A:Around,A.handled=none→Walks X.prog X.w A s1.heap.objs.size [s1.heap.objs.size] [s1.heap.objs.size] z.cps.size (SignAt z) (fun i h=>h.IsStrIter s1.heap.objs.size ty z t i))→
   (∀(A:Around) (i:Nat) (s:Shared) (Q:Value→Shared→Prop) (E:Value→Shared→Prop),s.heap.IsStrIter s1.heap.objs.size ty z t i→Q (.ref s1.heap.objs.size) s→wpAny (model X.prog X.w) A (pyIter (.ref s1.heap.objs.size)) Q E s)→
   (["enumerate","zip","dict_itemiterator","dict_reverseitemiterator","odict_iterator","itertools.zip_longest","itertools.pairwise"].contains ty=false)→
   PIE X pins σ tg R (.ref s1.heap.objs.size) {s1 with heap:=s1.heap.push {cls:=.type ty,data:=.fields #[.str z t,.int 0 0]}}:=fun ty hW hS hty=>by
   refine⟨s1.heap.objs.size,[s1.heap.objs.size],_,_,H1,rfl,I1.kept (t':=s1.toks) fun b o e=>Heap.get?_push_of_some _ e,Ek _ z t ty hW hS hty,⟨_,Heap.get?_push_size _ rfl,rfl,rfl⟩,fun b hb=>?_,q⟩
   have e:b=s1.heap.objs.size:=by simpa using hb
   subst e
   exact I1.DQ (Nat.le_refl _) (I1.hok.fresh (Nat.le_refl _))
  cases ha:z.cps.all (·< 128) with
  |true=>exact wpAny_pyIter_ascii ha (fin _ (fun A hA=>Walks.strAscii hA _ z t) (fun A i s Q E st q=>wpAny_pyIter_striter_ascii st q) (by decide))
  |false=>exact wpAny_pyIter_wide ha (fin _ (fun A hA=>Walks.strWide hA _ z t) (fun A i s Q E st q=>wpAny_pyIter_striter_wide st q) (by decide))
theorem cL{l:Expr}{m:M PV}(hl:PE X l (tV (kk X cm) E m)):PI X tg l (tI (kk X cm) E (Ū m)):=fun pins s σ H R I h=>Hi hl pins s σ H R I (by
 obtain⟨c,F,ρ,rel,h⟩:=h
 refine⟨c,F,ρ,rel,h.bind fun p ρ1 v F1 H1 ĥ s1 s2 q h1=>?_⟩
 cases p with
 |lst ps=>
  have q':Rep (kk X cm) F1 (.lst ps) v:=q
  unfold Rep at q'
  obtain⟨a,vs,rfl,e1,e2⟩:=q'
  refine .inl ⟨a,rfl,⟨vs,ĥ.sub.seq e1⟩,h1 _ F1 H1 ĥ (Same.refl _) (Same.refl _) ?_⟩
  intro c' i F2 H2 σ2 ρ2 Ō sF _
  have hq:aG X.K H2 a vs:=(sF.trans Ō.sub).seq e1
  refine⟨fun p hp=>?_,fun hi=>⟨vs,hq,by rw[hi,e2.length];exact Nat.le_refl _⟩⟩
  obtain⟨u,hu,ru⟩:=cH e2.pr hp
  refine⟨⟨vs,u,hq,hu⟩,fun x H' ⟨hH,hx⟩=>?_⟩
  subst hH
  have:vs[i]?=some x:=hx vs hq
  rw[hu] at this
  cases this
  exact⟨F2,Ō,Same.refl _,Same.refl _,Rep.same sF p u ru⟩
 |tup ps=>
  have q':Rep (kk X cm) F1 (.tup ps) v:=q
  unfold Rep at q'
  obtain⟨a,vs,rfl,e1,e2⟩:=q'
  refine .inr (.inl ⟨a,rfl,⟨vs,Same.tup ĥ.sub e1⟩,h1 _ F1 H1 ĥ (Same.refl _) (Same.refl _) ?_⟩)
  intro c' i F2 H2 σ2 ρ2 Ō sF _
  have hq:dF X.K H2 a vs:=Same.tup (sF.trans Ō.sub) e1
  refine⟨fun p hp=>?_,fun hi=>⟨vs,hq,by rw[hi,e2.length];exact Nat.le_refl _⟩⟩
  obtain⟨u,hu,ru⟩:=cH e2.pr hp
  refine⟨⟨vs,u,hq,hu⟩,fun x H' ⟨hH,hx⟩=>?_⟩
  subst hH
  have:vs[i]?=some x:=hx vs hq
  rw[hu] at this
  cases this
  exact⟨F2,Ō,Same.refl _,Same.refl _,Rep.same sF p u ru⟩
 |str z=>
  have q':v=.str z:=by have q':Rep (kk X cm) F1 (.str z) v:=q;unfold Rep at q';exact q'
  subst q'
  refine .inr (.inr ⟨z,rfl,h1 _ F1 H1 ĥ (Same.refl _) (Same.refl _) ?_⟩)
  intro c' i F2 H2 σ2 ρ2 Ō sF _
  refine⟨fun p hp=>?_,fun hi=>by rw[hi,List.length_map];show _=_;simp⟩
  rw[List.getElem?_map] at hp
  cases ez:z.cps.toList[i]? with
  |none=>rw[ez] at hp;cases hp
  |some cc=>
   rw[ez] at hp
   cases hp
   refine⟨by have:=(List.getElem?_eq_some_iff.mp ez).1;show i<z.cps.size;simpa using this,fun x H' ⟨hH,c2,hc,hx⟩=>?_⟩
   subst hH hx
   rw[ez] at hc
   cases hc
   exact⟨F2,Ō,Same.refl _,Same.refl _,Rep.str⟩
 |_=>exact h1.elim)
def Ţ(i:Nat):M (List PV):=fun ρ=>match ρ[i]? with
 |some (.bw ps)=>.ok ps ρ
 |some (.sh (.lst ps))=>.ok ps ρ
 |some (.sh (.tup ps))=>.ok ps ρ
 |some (.sh (.str z))=>.ok (z.cps.toList.map fun c=>.str ⟨#[c]⟩) ρ
 |some (.ow ps)=>.ok ps (ρ.set i (.sh (.lst ps)))
 |_=>.bad
theorem aM(i:Nat){x:Str}{px:Pos}(hN:X.N[i]?=some x:=by rfl)(hv:DN X.env.scope x:=by first|exact Or.inl rfl|exact Or.inr (Or.inl rfl)|exact Or.inr (Or.inr rfl))(hd:(x== ("__debug__" :Str))=false:=by decide)
 (hcd:(x== ("__classdict__" :Str))=false:=by decide):PI X tg (.Name x px) (tI (kk X cm) E (Ţ i)):=fun pins s σ H R I h=>by
 obtain⟨c,F,ρ,rel,h⟩:=h
 cases e:ρ[i]? with
 |none=>unfold Ţ at h;rw[e] at h;exact h.elim
 |some sl=>
  have Rm:bH (kk X cm) E (rIt (kk X cm)) c F H σ R (Ū (ę i) ρ)→wpAny (model X.prog X.w) X.A (eval (.Name x px) X.env) (fun v s1=>wpAny (model X.prog X.w) X.A (pyIter v) (PIE X pins σ tg R) X.xe s1) X.xe s:=fun h'=>
   cL (v_var i hN hv hd hcd) pins s σ H R I ⟨c,F,ρ,rel,h'⟩
  unfold Ţ at h
  rw[e] at h
  cases sl with
  |no=>exact h.elim
  |rc C ns ps=>exact h.elim
  |ot ps qs=>exact h.elim
  |ow ps=>exact Rm (by unfold Ū ę;rw[e];exact h)
  |sh p=>
   cases p with
   |lst ps=>exact Rm (by unfold Ū ę;rw[e];exact h)
   |tup ps=>exact Rm (by unfold Ū ę;rw[e];exact h)
   |str z=>exact Rm (by unfold Ū ę;rw[e];exact h)
   |_=>exact h.elim
  |bw ps=>
   obtain⟨a,vs,h1,h2,h3⟩:=rel.slot i _ e
   refine Hi (eE hN hv hd hcd) pins s σ H R I ⟨.ref a,at_of h1,.inl ⟨a,rfl,⟨vs,aG.of (rel.lent a _ h2).1⟩,h _ F H rel (Same.refl _) (Same.refl _) ?_⟩⟩
   intro c' j F2 H2 σ2 ρ2 Ō sF sL
   have hq:aG X.K H2 a vs:=aG.of (sL a _ h2)
   refine⟨fun p hp=>?_,fun hi=>⟨vs,hq,by rw[hi,h3.length];exact Nat.le_refl _⟩⟩
   obtain⟨u,hu,ru⟩:=cH h3.pr hp
   refine⟨⟨vs,u,hq,hu⟩,fun x H' ⟨hH,hx⟩=>?_⟩
   subst hH
   have:vs[j]?=some x:=hx vs hq
   rw[hu] at this
   cases this
   exact⟨F2,Ō,Same.refl _,Same.refl _,Rep.same sF p u ru⟩
def gw(lo:Int)(n:Nat)(c:Int):List PV:=(List.range n).map fun(i:Nat)=>.int (lo+i*c)
def nD(i:Int):Bool:=decide (i.natAbs<1152921504606846976)
def ů:List PV→Option (List PV)
 | [.int j]=>if nD j=true then some (gw 0 j.toNat 1) else none
 |_=>none
def Ű(f:List PV→Option (List PV))(mr:M (List PV)):M (List PV):=fun ρ=>(mr ρ).bind fun ps ρ1=>Res.mV (f ps) ρ1
theorem zF{lo c:Int}{n i:Nat}{p:PV}(h:(gw lo n c)[i]?=some p):i<n∧p=.int (lo+i*c):=by
 unfold gw at h
 by_cases hn:i<n
 ·rw[List.getElem?_map,List.getElem?_range hn] at h
  exact⟨hn,(Option.some.inj h).symm⟩
 ·rw[List.getElem?_eq_none (by simpa using hn)] at h
  cases h
theorem zG{lo c:Int}{n:Nat}:(gw lo n c).length=n:=by simp[gw]
theorem XM{K:KK}{Lh F:Hp}(lo:Int)(n:Nat):fU K Lh F (Itr lo n) (gw lo n 1):=fun c i F2 H σ ρ rel sF _=>
 ⟨fun p hp=>by
   obtain⟨h1,rfl⟩:=zF hp
   refine⟨h1,fun x H' ⟨e1,e2⟩=>?_⟩
   subst e1 e2
   exact⟨F2,rel,Same.refl _,Same.refl _,by rw[Int.mul_one];exact Rep.int⟩,fun hi=>by rw[zG] at hi;subst hi;exact Nat.le_refl _⟩
theorem En{i:Int}(h:nD i=true): -(2 ^ 60)≤i∧i<2 ^ 60:=by
 unfold nD at h
 rw[decide_eq_true_eq] at h
 omega
variable{a b d:Expr}{p pos:Pos}{mr:M (List PV)}
theorem Hj{K:KK}{F:Hp}{ps:List PV}{vs:List V}(h:Ī K F ps vs):(∀i r,ps=.int i::r→∃r',vs=.int i::r'∧Ī K F r r')∧(ps=[]→vs=[]):=by
 refine⟨fun i r e=>?_,fun e=>?_⟩
 ·subst e
  unfold Ī at h
  obtain⟨x,r',h1,h2,h3⟩:=h
  unfold Rep at h2
  exact⟨r',by rw[h1,h2],h3⟩
 ·subst e
  unfold Ī at h
  exact h
theorem ţ(hg:Gl X "range")(hm:X.mg "range" =none)(ha:PA X [a] (tL (kk X cm) E mr))(hs:starEach [a] X.env=[(false,eval a X.env)]:=by exact ř rfl):PI X tg (.Call (.Name "range" p) [a] [] pos) (tI (kk X cm) E (Ű ů mr)):=
 fun pins s σ H R I h=>DW hg hm ha hs pins s σ H R I (by
  obtain⟨c,F,ρ,rel,h⟩:=h
  refine⟨c,F,ρ,rel,h.bind fun ps ρ1 vs F1 H1 ĥ s1 s2 q h1=>?_⟩
  have q':Ī (kk X cm) F1 ps vs:=q
  unfold ů at h1
  split at h1
  ·rename_i j
   split at h1
   ·rename_i hj
    obtain⟨r',e1,e2⟩:=(Hj q').1 _ _ rfl
    cases(Hj e2).2 rfl
    obtain⟨k1,k2⟩:=En hj
    exact⟨j,e1,by omega,by omega,h1 _ F1 H1 ĥ (Same.refl _) (Same.refl _) (XM 0 j.toNat)⟩
   ·exact h1.elim
  ·exact h1.elim)
end
def vU:Slot→Slot
 | .sh p=>.sh p
 | .ow ps=>.bw ps
 | .bw ps=>.bw ps
 |_=>.no
def vV(js:List Nat)(nl:Nat)(ρ:Ŗ):Ŗ:=js.map (fun(j:Nat)=>vU ((ρ[j]?).getD .no))++List.replicate nl .no
def ń(g:Tg)(mt:M Bool)(me:M PV):List PV→Ŗ→List PV→Option (List PV)
 | [],_,acc=>some acc
 |p::ps,ρ,acc=>match g p ρ with
  |none=>none
  |some ρ1=>match mt ρ1 with
   | .ok true ρ2=>match me ρ2 with
     | .ok q ρ3=>if acc.length<16777216 then ń g mt me ps ρ3 (acc ++ [q]) else none
     |_=>none
   | .ok false ρ2=>ń g mt me ps ρ2 acc
   |_=>none
def Œ(js:List Nat)(nl:Nat)(mi:M (List PV))(g:Tg)(mt:M Bool)(me:M PV):M RV:=fun ρ=>(mi ρ).bind fun items ρ1=>match ń g mt me items (vV js nl ρ1) [] with
 |some ps=>.ok (.ow ps) ρ1
 |none=>.bad
abbrev EF:L2.St→XK:=fun _ _ _ _=>False
def Ņ:M Bool:=fun ρ=>.ok true ρ
section
variable{K:KK}{c:Ctx}{F H:Hp}{σ:L2.St}{ρ:Ŗ}
def qm(F H H1:Hp):Ctx:=⟨H1,F,(ctx0 F H).L,fun _ _ _=>True⟩
theorem Rel.cap(js:List Nat)(nl:Nat)(rel:Rel K c F H σ ρ){D:Addr}{o:HO}(hD:H D=none):Rel K (qm F H (upd H D o)) F (upd H D o) (fZ js nl σ) (vV js nl ρ) where
 sub:=rel.sub.trans (Same.upd hD)
 base:=Same.refl _
 f0:=Same.refl _
 dD:=fun _ _ z=>z
 lent:=fun a u e=>⟨Same.upd hD a u (gj e).1,(gj e).2⟩
 lb:=fun a e=>by
   cases q:(qm F H (upd H D o)).L a with
   |none=>rfl
   |some u=>
    have e':upd H D o a=none:=e
    rw[Same.upd hD a u (gj q).1] at e'
    cases e'
 len:=by simp[fZ,vV]
 slot:= fun i s e=>by
  unfold vV at e
  by_cases hi:i<js.length
  ·rw[List.getElem?_append_left (by simpa using hi),List.getElem?_map] at e
   cases ej:js[i]? with
   |none=>rw[ej] at e;cases e
   |some j=>
    rw[ej] at e
    have e':vU ((ρ[j]?).getD .no)=s:=Option.some.inj e
    subst e'
    have hx:((fZ js nl σ)[i]?).getD none=(σ[j]?).getD none:=by
     unfold fZ
     rw[List.getElem?_append_left (by simpa using hi),List.getElem?_map,ej]
     rfl
    rw[hx]
    cases er:ρ[j]? with
    |none=>trivial
    |some sl=>
     have q:=rel.slot j sl er
     cases sl with
     |no=>trivial
     |sh p=>exact q
     |ow ps=>
      obtain⟨a,vs,h1,h2,h3,h4,h5⟩:=q
      refine⟨a,vs,h1,?_,h5⟩
      show(match F a with|none=>H a|some _=>none)=_
      rw[h3]
      exact h2
     |bw ps=>
      obtain⟨a,vs,h1,h2,h3⟩:=q
      obtain⟨l1,l2⟩:=rel.lent a _ h2
      refine⟨a,vs,h1,?_,h3⟩
      show(match F a with|none=>H a|some _=>none)=_
      rw[l2]
      exact l1
     |rc C ns ps=>trivial
     |ot ps qs=>trivial
  ·rw[List.getElem?_append_right (by simpa using hi),List.getElem?_replicate] at e
   split at e
   ·cases e;trivial
   ·cases e
 sep:=fun i j a h1 _=>by
  exfalso
  obtain⟨s,y,h1,_,h2⟩:=h1
  have h2:=jd h2
  unfold vV at h1
  by_cases hi:i<js.length
  ·rw[List.getElem?_append_left (by simpa using hi),List.getElem?_map] at h1
   cases ej:js[i]? with
   |none=>rw[ej] at h1;cases h1
   |some j=>
    rw[ej] at h1
    have e':vU ((ρ[j]?).getD .no)=s:=Option.some.inj h1
    subst e'
    cases q:(ρ[j]?).getD .no<;>rw[q] at h2<;>cases h2
  ·rw[List.getElem?_append_right (by simpa using hi),List.getElem?_replicate] at h1
   split at h1
   ·cases h1;cases h2
   ·cases h1
theorem Rel.rebase{H1 F1:Hp}{D:Addr}{ys zs:List V}(hD:H1 D=none)(hF:F1 D=none)(rel:Rel K (qm F1 H1 (upd H1 D (.lst ys))) F H σ ρ):Rel K (qm F1 H1 (upd H1 D (.lst zs))) F (upd H D (.lst zs)) σ ρ:= by
 have fD:F D=none:=rel.dD D (by show upd H1 D _ D≠none;rw[ľ];intro z;cases z) hF
 have lD:∀b u,(qm F1 H1 (upd H1 D (.lst ys))).L b=some u→b≠D:=fun b u e z=>by
  have q:=(gj (F:=F1) (H:=H1) (a:=b) (u:=u) e).1
  rw[z,hD] at q
  cases q
 have ne:∀b,(qm F1 H1 (upd H1 D (.lst ys))).B b=none→b≠D:=fun b z q=>by
  subst q
  have z':upd H1 b (.lst ys) b=none:=z
  rw[ľ] at z';cases z'
 have back:∀b,b≠D→(qm F1 H1 (upd H1 D (.lst ys))).B b=none→(qm F1 H1 (upd H1 D (.lst zs))).B b=none:=fun b hb z=>by
  have z':upd H1 D (.lst ys) b=none:=z
  show upd H1 D (.lst zs) b=none
  rw[į hb] at z' ⊢;exact z'
 refine⟨fun b u e=>?_,fun b u e=>?_,rel.f0,fun b h1 h2=>?_,fun b u e=>?_,fun b e=>?_,rel.len,fun i s e=>?_,rel.sep⟩
 ·have hb:b≠D:=fun z=>by rw[z,fD] at e;cases e
  rw[į hb];exact rel.sub b u e
 ·by_cases hb:b=D
  ·subst hb
   have e':upd H1 b (.lst zs) b=some u:=e
   rw[ľ] at e' ⊢;exact e'
  ·have e':upd H1 D (.lst zs) b=some u:=e
   rw[į hb] at e' ⊢
   exact rel.base b u (by show upd H1 D _ b=some u;rw[į hb];exact e')
 ·refine rel.dD b (fun z=>h1 ?_) h2
  exact back b (ne b z) z
 ·rw[į (lD b u e)]
  exact rel.lent b u e
 ·refine rel.lb b ?_
  have z':upd H1 D (.lst zs) b=none:=e
  have hb:b≠D:=fun q=>by rw[q,ľ] at z';cases z'
  show upd H1 D (.lst ys) b=none
  rw[į hb] at z' ⊢;exact z'
 ·have q:=rel.slot i s e
  cases s with
  |no=>trivial
  |sh p=>exact q
  |bw ps=>exact q
  |ow ps=>
   obtain⟨a,vs,q1,q2,q3,q4,q5⟩:=q
   have hb:=ne a q4
   exact⟨a,vs,q1,by rw[į hb];exact q2,q3,back a hb q4,q5⟩
  |rc C ns ps=>
   obtain⟨a,dx,fs,q1,q2,q3,q4,q5⟩:=q
   have hb:=ne a q4
   exact⟨a,dx,fs,q1,by rw[į hb];exact q2,q3,back a hb q4,q5⟩
  |ot ps qs=>
   obtain⟨p,a,xs,vs,q1,q0,qx,q2,q3,q4,q5⟩:=q
   have hb:=ne a q4
   exact⟨p,a,xs,vs,q1,q0,qx,by rw[į hb];exact q2,q3,back a hb q4,q5⟩
end
section
variable{X:Cx}{cm:String→Addr}{E:L2.St→XK}{elt tg iter:Expr}{ifs:List Expr}{scope:Scope}{pos:Pos}{mi:M (List PV)}{g:Tg}{mt:M Bool}{me:M PV}
theorem ŕ:TJ X [] (tB (kk X cm) E Ņ):=fun pins s σ H Q I h=>QS pins s σ H Q I (by
 obtain⟨c,F,ρ,rel,h⟩:=h
 exact h true F H rel (Same.refl _) (Same.refl _) rfl)
theorem XQ{a:Expr}(h:PT X a (tB (kk X cm) E mt)):TJ X [a] (tB (kk X cm) E mt):=QT h
theorem vW{js:List Nat}{nl:Nat}{σ:L2.St}{H:Hp}{Q:VK}(h:tO (kk X cm) E (Œ js nl mi g mt me) σ H Q):GD js nl (tI (kk X cm) E mi) (tT (kk X cm) g) (tB (kk X cm) EF mt) (tV (kk X cm) EF me) σ H Q:=by
 obtain⟨c,F,ρ,rel,h⟩:=h
 refine⟨c,F,ρ,rel,h.bind fun items ρ1 J F1 H1 ĥ s1 s2 ito h1=>?_⟩
 intro D hD
 have hF:F1 D=none:=ĥ.sub.free hD
 cases ec:ń g mt me items (vV js nl ρ1) [] with
 |none=>rw[ec] at h1;exact h1.elim
 |some res=>
  rw[ec] at h1
  refine⟨fun i m σ' H'=>∃F' ρ' ys acc,i≤items.length∧m=items.length-i∧Rel (kk X cm) (qm F1 H1 (upd H1 D (.lst ys))) F' H' σ' ρ'∧Ī (kk X cm) F' acc ys∧ń g mt me (items.drop i) ρ' acc=some res,
   ⟨_,F1,_,[],[],Nat.zero_le _,rfl,?_,Ī.nil,ec⟩,?_⟩
  ·exact ĥ.cap js nl hD
  ·rintro i m σ2 H2 ⟨F2,ρ2,ys,acc,hle,rfl,Ō,ra,h2⟩
   have s12:Same F1 F2:=Ō.f0
   have ZcN:∀{b:Addr} {u:HO},c.L b=some u→(qm F1 H1 (upd H1 D (.lst ys))).L b=some u:=fun{b u} e=>by
    obtain⟨l1,l2⟩:=ĥ.lent b u e
    show(match F1 b with|none=>H1 b|some _=>none)=some u
    rw[l2]
    exact l1
   obtain⟨go,stop⟩:=ito _ i F2 H2 σ2 ρ2 Ō s12 fun b u e=>(Ō.lent b u (ZcN e)).1
   have hH2:H2 D=some (.lst ys):=Ō.base D _ (show upd H1 D _ D=_ from ľ)
   have fD:F2 D=none:=Ō.dD D (by show upd H1 D _ D≠none;rw[ľ];intro z;cases z) hF
   by_cases hlt:i<items.length
   ·obtain⟨g1,g2⟩:=go items[i] (List.getElem?_eq_getElem hlt)
    rw[List.drop_eq_getElem_cons hlt] at h2
    unfold ń at h2
    refine .inr ⟨g1,_,fun σ' H' z=>z,fun x H3 hy=>?_⟩
    obtain⟨F3,mq,s3,sH3,rp⟩:=g2 x H3 hy
    refine⟨_,F3,ρ2,items[i],mq,rp,?_⟩
    cases eg:g items[i] ρ2 with
    |none=>rw[eg] at h2;cases h2
    |some ρ3=>
     rw[eg] at h2
     dsimp only at h2
     intro σ4 vO
     refine⟨_,F3,ρ3,vO,?_⟩
     cases em:mt ρ3 with
     |bad=>rw[em] at h2;cases h2
     |exc x ρ4=>rw[em] at h2;cases h2
     |ok b ρ4=>
      rw[em] at h2
      intro b' F5 H5 ZcO s5 Qc eb
      have eb':b=b':=eb
      subst eb'
      cases b with
      |false=>
       rw[if_neg Bool.false_ne_true]
       dsimp only at h2
       exact⟨items.length-(i+1),by omega,F5,ρ4,ys,acc,hlt,rfl,ZcO,Ī.same (s3.trans s5) acc ys ra,h2⟩
      |true=>
       rw[if_pos rfl]
       dsimp only at h2
       refine⟨_,F5,ρ4,ZcO,?_⟩
       cases ee:me ρ4 with
       |bad=>rw[ee] at h2;cases h2
       |exc x ρ5=>rw[ee] at h2;cases h2
       |ok q ρ5=>
        rw[ee] at h2
        dsimp only at h2
        intro y F6 H6 ZcP s6 Eo rq
        split at h2
        ·rename_i hz
         have ra6:=Ī.same ((s3.trans s5).trans s6) acc ys ra
         refine⟨ys,ZcP.base D _ (show upd H1 D _ D=_ from ľ),by rw[←ra6.length,ŗ];exact hz,?_⟩
         exact⟨items.length-(i+1),by omega,F6,ρ5,ys ++ [y],acc ++ [q],hlt,rfl,ZcP.rebase hD hF,Ī.append ra6 (Ī.cons rq Ī.nil),h2⟩
        ·cases h2
   ·have e:i=items.length:=by omega
    refine .inl ⟨stop e,?_⟩
    rw[List.drop_eq_nil_of_le (by omega)] at h2
    unfold ń at h2
    cases h2
    have gr:Gr F1 H1 F2 H2:=⟨fun b u e=>Ō.base b u (by show upd H1 D _ b=_;rw[į (Ŕ e hD)];exact e),s12,Ō.sub,fun b hb hf=>Ō.dD b (by
     show upd H1 D _ b≠none
     by_cases hbD:b=D
     ·rw[hbD,ľ];intro z;cases z
     ·rw[į hbD];exact hb) hf⟩
    have ZjF:=ĥ.call gr
    exact h1 _ F2 H2 ZjF s12 gr.h ⟨D,ys,rfl,hH2,fD,ĥ.base.free hD,ĥ.tW gr.f (ĥ.fresh hD),ra⟩
theorem Ŝ(N':List Str)(js:List Nat)(nl:Nat)(sc:Scope)(hsc:X.env.scope=sc)(hcalm:X.calm=true)
 (hi:PI X.aB tg iter (tI (kk X cm) E mi))(hg:∀cl C s H fp,PG (gR X.aB N' scope cl C s H fp) tg (tT (kk X cm) g))(ht:∀cl C s H fp,TJ (gR X.aB N' scope cl C s H fp) ifs (tB (kk X cm) EF mt))(he:∀cl C s H fp,PE (gR X.aB N' scope cl C s H fp) elt (tV (kk X cm) EF me))
 (hcap:nq X.aB sc scope N' js)(hlen:js.length+nl=N'.length:=by rfl)
 (hk:scope.kind=.function:=by rfl)(hcell:∀y∈scope.names,y.2=.cell→scope.names.lookup y.1=some .cell:=by decide +kernel)(hnames:∀y∈scope.names,y.2=.local→scope.names.lookup y.1=some .local:=by decide +kernel)
 (hfree:∀y∈scope.names,y.2=.free→(sc.names.lookup y.1=some .cell∨sc.names.lookup y.1=some .free):=by decide +kernel)
 (hs:∀x,foldedSetIterable iter X.env x=pure x:=by intro _;rfl) :
 PE X (.ListComp elt [⟨tg,iter,ifs,0⟩] scope pos) (tO (kk X cm) E (Œ js nl mi g mt me)):=
 PE.wk (PE.aB (QW N' js nl sc hsc hcalm hi hg ht he hcap hlen hk hcell hnames hfree hs)) fun _ _ _ h=>vW h
end
end P
namespace P
open PySem PySem.Spec PyProof.Rows L2 M2 M3 M4
abbrev bits(x:Int):Nat:=Builtin.Int.intBits x
section
variable{X:Cx}{cm:String→Addr}{K:KK}
def TY(K:PySem.W.Frag):R2:=fun x y H Q=>∃l b xs zs,x=.ref l∧y=.ref b∧aG K H l xs∧aG K H b zs∧xs.length+zs.length≤sizeLine∧∀p,H p=none→Q (.ref p) (upd H p (.lst (xs++zs)))
theorem Rn:aC X (binaryOp .Add) (TY X.K):=by
 intro pins s σ H x y v u Q I rx ry h
 obtain⟨l,b,xs,zs,rfl,rfl,hH,hB,hz,q⟩:=h
 cases rx
 cases ry
 obtain⟨its,r,pl,z⟩:=I.list hH
 obtain⟨its2,r2,pl2,z2⟩:=I.list hB
 obtain⟨⟨c1,d1,t1,sl1⟩,n,e,hc,hd,hs⟩:=pl
 obtain⟨⟨c2,d2,t2,sl2⟩,n2,e2,hc2,hd2,hs2⟩:=pl2
 simp only at hc hd hs hc2 hd2 hs2
 subst hc hd hs hc2 hd2 hs2
 have hl:=r.length
 have hl2:=r2.length
 have ea:its.toArray++its2.toArray=(its++its2).toArray:=by simp
 refine concat_meets ⟨_,e,rfl⟩ ⟨_,e2,rfl⟩ noFill_list_add seq_list_add PySem.F.slot_list_add PySem.F.entry_list_add (PySem.F.args_list_add_2 _ _) (list_addW l b its.toArray its2.toArray n n2 none none sl1 sl2 (by simp only[List.size_toArray];omega)) ⟨e,e2,?_⟩
 rw[ea]
 exact⟨.ref _,_,I.Zjv (t':=s.toks) (r.append r2) (by rw[List.length_append];omega),rfl,q _ I.fresh⟩
def T_(K:PySem.W.Frag):R2:=fun x y H Q=>∃l b xs zs,x=.ref l∧y=.ref b∧dF K H l xs∧dF K H b zs∧xs≠[]∧zs≠[]∧xs.length+zs.length≤sizeLine∧∀p,H p=none→Q (.ref p) (upd H p (.tup (xs++zs)))
theorem Ro:aC X (binaryOp .Add) (T_ X.K):=by
 intro pins s σ H x y v u Q I rx ry h
 obtain⟨l,b,xs,zs,rfl,rfl,hH,hB,nx,nz,hz,q⟩:=h
 cases rx
 cases ry
 obtain⟨its,r,pl,z⟩:=I.tuple hH
 obtain⟨its2,r2,pl2,z2⟩:=I.tuple hB
 obtain⟨⟨c1,d1,t1,sl1⟩,e,hc,n,hd⟩:=pl
 obtain⟨⟨c2,d2,t2,sl2⟩,e2,hc2,n2,hd2⟩:=pl2
 simp only at hc hd hc2 hd2
 subst hc hd hc2 hd2
 have hl:=r.length
 have hl2:=r2.length
 have ne1:its≠[]:=fun z=>by rw[z] at hl;exact nx (List.length_eq_zero_iff.mp hl)
 have ne2:its2≠[]:=fun z=>by rw[z] at hl2;exact nz (List.length_eq_zero_iff.mp hl2)
 have ea:its.toArray++its2.toArray=(its++its2).toArray:=by simp
 refine concat_meets ⟨_,e,rfl⟩ ⟨_,e2,rfl⟩ noFill_tuple_add seq_tuple_add PySem.F.slot_tuple_add PySem.F.entry_tuple_add (PySem.F.args_tuple_add_2 _ _) (tuple_addW2 l b its.toArray its2.toArray n n2 d1 d2 sl1 sl2 (by simpa using ne1) (by simpa using ne2) (by simp only[List.size_toArray];omega)) ⟨e,e2,?_⟩
 rw[ea]
 exact⟨.ref _,_,I.laid (o:=.tup (xs++zs)) (t':=s.toks) (fun _ _ q=>Heap.get?_push_of_some _ q) (Nat.le_refl _) ⟨by rw[List.length_append];omega,(its++its2),r.append r2,⟨_,Heap.get?_push_size _ rfl,rfl,_,rfl⟩⟩,rfl,q _ I.fresh⟩
def ĸ:PV→PV→Option RV
 | .int i,.int j=>some (.sh (.int (i+j)))
 | .str i,.str j=>if i.length+j.length≤16777216 then some (.sh (.str (i++j))) else none
 | .lst ps,.lst qs=>if ps.length+qs.length≤16777216 then some (.ow (ps++qs)) else none
 | .tup (p::ps),.tup (q::qs)=>if(p::ps).length+(q::qs).length≤16777216 then some (.sh (.tup ((p::ps)++(q::qs)))) else none
 |_,_=>none
def Ua(K:PySem.W.Frag):R2:=fun x y H Q=>Zcz x y H Q∨(TY K x y H Q∨T_ K x y H Q)
theorem Ĵ:aC X (binaryOp .Add) (Ua X.K):=Xp.or (Rn.or Ro)
theorem ĵ:OpO K (Ua K.K) ĸ:=by
 intro c F H σ ρ p q pv v u Q rel r1 r2 e k
 unfold ĸ at e
 split at e
 ·cases e
  cases r1.int
  cases r2.int
  exact .inl (k _ F H rel (Same.refl _) (Same.refl _) (Rep.int (K:=K) (F:=F)))
 ·split at e
  ·rename_i hz
   cases e
   cases r1.str
   cases r2.str
   exact .inl ⟨by rw[ŗ];exact hz,k _ F H rel (Same.refl _) (Same.refl _) (Rep.str (K:=K) (F:=F))⟩
  ·cases e
 ·split at e
  ·rename_i hz
   cases e
   obtain⟨a,xs,rfl,h1,h2⟩:=r1.lst rel.sub
   obtain⟨b,ys,rfl,h3,h4⟩:=r2.lst rel.sub
   refine .inr (.inl ⟨a,b,xs,ys,rfl,rfl,h1,h3,by rw[←h2.length,←h4.length,ŗ];exact hz,fun d hd=>?_⟩)
   obtain⟨q1,q2⟩:=gk rel hd (Ī.append h2 h4)
   exact k _ F _ q1 (Same.refl _) (Same.upd hd) q2
  ·cases e
 ·split at e
  ·rename_i hz
   cases e
   obtain⟨a,xs,rfl,h1,h2⟩:=r1.tup rel.sub
   obtain⟨b,ys,rfl,h3,h4⟩:=r2.tup rel.sub
   have l1:=h2.length
   have l2:=h4.length
   refine .inr (.inr ⟨a,b,xs,ys,rfl,rfl,h1,h3,(fun z=>by rw[z] at l1;cases l1),(fun z=>by rw[z] at l2;cases l2),by rw[←l1,←l2,ŗ];exact hz,fun l hl=>k _ _ _ (rel.alloc hl) (Same.upd (rel.sub.free hl)) (Same.upd hl) ?_⟩)
   show Rep K _ _ _
   unfold Rep
   exact⟨l,xs++ys,rfl,dF.of ľ,Ī.same (Same.upd (rel.sub.free hl)) _ _ (Ī.append h2 h4)⟩
  ·cases e
 ·cases e
def vH(g:Int→Int→Int):PV→PV→Option PV
 | .int i,.int j=>some (.int (g i j))
 |_,_=>none
def BW(C:Int→Int→Bool)(g:Int→Int→Int):PV→PV→Option PV
 | .int i,.int j=>if C i j=true then some (.int (g i j)) else none
 |_,_=>none
def opC(g:Int→Int→Bool):PV→PV→Option PV
 | .int i,.int j=>some (.bl (g i j))
 |_,_=>none
theorem Ub{g:Int→Int→Int}:jl K (zy fun i j=>.int (g i j)) (vH g):=by
 intro c F H σ ρ p q pv v u Q rel r1 r2 e k
 unfold vH at e
 split at e
 ·cases e
  cases r1.int
  cases r2.int
  exact k _ F H rel (Same.refl _) (Same.refl _) Rep.int
 ·cases e
theorem Rq{g:Int→Int→Bool}:jl K (zy fun i j=>.bl (g i j)) (opC g):=by
 intro c F H σ ρ p q pv v u Q rel r1 r2 e k
 unfold opC at e
 split at e
 ·cases e
  cases r1.int
  cases r2.int
  exact k _ F H rel (Same.refl _) (Same.refl _) Rep.bl
 ·cases e
theorem Hl{C:Int→Int→Bool}{C':Int→Int→Prop}{g:Int→Int→Int}(hC:∀i j,C i j=true→C' i j):jl K (mI C' fun i j=>.int (g i j)) (BW C g):=by
 intro c F H σ ρ p q pv v u Q rel r1 r2 e k
 unfold BW at e
 split at e
 ·split at e
  ·rename_i hc
   cases e
   cases r1.int
   cases r2.int
   exact⟨hC _ _ hc,k _ F H rel (Same.refl _) (Same.refl _) Rep.int⟩
  ·cases e
 ·cases e
def ũ:=vH fun i j=>i-j
theorem ő:jl K (zy fun i j=>.int (i-j)) ũ:=Ub
def cM(_ j:Int):Bool:=decide (j≠0) && decide (bits j≤8000)
def ſ:=BW cM fun i j=>i.fdiv j
theorem ŷ:jl K (mI Ej fun i j=>.int (i.fdiv j)) ſ:=Hl fun i j h=>by unfold cM at h;simpa[Ej] using h
def Cy(_ j:Int):Bool:=decide (j≠0)
def œ:=BW Cy fun i j=>i.fmod j
theorem Ŏ:jl K (mI (fun _ j=>j≠0) fun i j=>.int (i.fmod j)) œ:=Hl fun i j h=>by unfold Cy at h;simpa using h
def vX(i j:Int):Bool:=decide (0≤j) && decide (j.natAbs≤1000000) && decide (i.natAbs<18446744073709551616)
def qT:=BW vX fun i j=>i ^ j.toNat
theorem tZ:jl K (mI DY fun i j=>.int (i ^ j.toNat)) qT:=Hl fun i j h=>by
 unfold vX at h
 simp only[Bool.and_eq_true,decide_eq_true_eq] at h
 exact⟨h.1.1,by omega,by have:=h.2;simpa using this⟩
def lF(i j:Int):Bool:=decide (0≤j) && decide (j.natAbs≤1000000) && decide (i.natAbs<18446744073709551616)
def gA:=BW lF fun i j=>i*2 ^ j.toNat
theorem nF:jl K (mI DY fun i j=>.int (i*2 ^ j.toNat)) gA:=Hl fun i j h=>by
 unfold lF at h
 simp only[Bool.and_eq_true,decide_eq_true_eq] at h
 exact⟨h.1.1,by omega,by have:=h.2;simpa using this⟩
def nG(_ j:Int):Bool:=decide (0≤j)
def Cz:=BW nG fun i j=>i / 2 ^ j.toNat
theorem Ho:jl K (mI (fun _ j=>0≤j) fun i j=>.int (i / 2 ^ j.toNat)) Cz:=Hl fun i j h=>by unfold nG at h;simpa using h
def zH:=vH fun i j=>Builtin.bitAnd i j
theorem Rr:jl K (zy fun i j=>.int (Builtin.bitAnd i j)) zH:=Ub
theorem nH:aC X (binaryOp .LShift) (mI DY fun i j=>.int (i*2 ^ j.toNat)):=aC.wk WR qK
theorem Hq:aC X (binaryOp .RShift) (mI (fun _ j=>0≤j) fun i j=>.int (i / 2 ^ j.toNat)):=aC.wk WT qK
theorem Rt:aC X (binaryOp .BitAnd) (zy fun i j=>.int (Builtin.bitAnd i j)):=aC.wk WW jU
def nJ:=opC fun i j=>decide (i<j)
def mz:=opC fun i j=>decide (i≤j)
def Ru:=opC fun i j=>decide (j<i)
def zJ:=opC fun i j=>decide (j≤i)
theorem jA:jl K (zy fun i j=>.bl (decide (i<j))) nJ:=Rq
theorem jB:jl K (zy fun i j=>.bl (decide (i≤j))) mz:=Rq
theorem Uc:jl K (zy fun i j=>.bl (decide (j<i))) Ru:=Rq
theorem Ud:jl K (zy fun i j=>.bl (decide (j≤i))) zJ:=Rq
def ň(i j:Int):Bool:=decide (i.natAbs<18446744073709551616) || decide (j.natAbs<18446744073709551616) || (decide (bits i≤1048576) && decide (bits j≤1048576))
theorem Hr{i j:Int}(h:ň i j=true):qL i j:=by
 unfold ň at h
 simp only[Bool.or_eq_true,Bool.and_eq_true,decide_eq_true_eq] at h
 rcases h with(h|h)|h
 ·exact .inl (.inl ⟨by omega,by omega⟩)
 ·exact .inl (.inr ⟨by omega,by omega⟩)
 ·exact .inr h
def Ĥ:PV→PV→Option PV
 | .int i,.int j=>if ň i j=true then some (.int (i*j)) else none
 | .str z,.int n=>if 0≤n∧n≤1000∧z.length≤1000 then some (.str (S (List.replicate n.toNat z.cps.toList).flatten)) else none
 |_,_=>none
theorem ī:jl K GR Ĥ:=by
 intro c F H σ ρ p q pv v u Q rel r1 r2 e k
 unfold Ĥ at e
 split at e
 ·split at e
  ·rename_i hc
   cases e
   cases r1.int
   cases r2.int
   exact⟨Hr hc,k _ F H rel (Same.refl _) (Same.refl _) Rep.int⟩
  ·cases e
 ·split at e
  ·rename_i hc
   cases e
   cases r1.str
   cases r2.int
   exact⟨hc,k _ F H rel (Same.refl _) (Same.refl _) Rep.str⟩
  ·cases e
 ·cases e
def ZcQ(mr:M (List PV))(mk:M PV):M RV:=fun ρ=>(mr ρ).bind fun ps ρ1=>if ps.length≤16777216 then(mk ρ1).bind fun q ρ2=>match q with
 | .int k=>if -(2 ^ 60)≤k∧k<2 ^ 60∧ps.length*k.toNat≤16777216 then .ok (.ow (List.replicate k.toNat ps).flatten) ρ2 else .bad
 |_=>.bad else .bad
variable{E:L2.St→XK}{a b e:Expr}{es:List Expr}{pos:Pos}{ma mb:M PV}{mr:M (List PV)}
def gB:PV→Option PV
 | .int i=>some (.int (-i))
 |_=>none
theorem gC:UnV K (mU fun i=>.int (-i)) gB:=by
 intro c F H σ ρ p pv v Q rel r1 e k
 unfold gB at e
 split at e
 ·cases e
  cases r1.int
  exact k _ F H rel (Same.refl _) (Same.refl _) Rep.int
 ·cases e
mutual
def eqB:PV→PV→Bool
 | .non,.non=>true
 | .bl a,.bl b=>a== b
 | .bl a,.int j=>(if a then 1 else 0)== j
 | .int i,.bl b=>i== (if b then 1 else 0)
 | .int i,.int j=>i== j
 | .str x,.str y=>x== y
 | .lst xs,.lst ys=>dM xs ys
 | .tup xs,.tup ys=>dM xs ys
 |_,_=>false
def dM:List PV→List PV→Bool
 | [],[]=>true
 |x::xs,y::ys=>eqB x y && dM xs ys
 |_,_=>false
end
mutual
def aq:PV→Bool
 | .non| .bl _| .int _=>true
 | .str x=>PyData.strOk x
 | .lst xs=>bD xs
 | .tup xs=>bD xs
 |_=>false
def bD:List PV→Bool
 | []=>true
 |x::xs=>aq x && bD xs
end
mutual
def dep:PV→Nat
 | .lst xs=>vY xs+1
 | .tup xs=>vY xs+1
 |_=>0
def vY:List PV→Nat
 | []=>0
 |x::xs=>max (dep x) (vY xs)
end
mutual
def toD:PV→PyData
 | .non=>.none
 | .bl b=>.bool b
 | .int i=>.int i
 | .str x=>.str x
 | .lst xs=>.list (dN xs)
 | .tup xs=>.tuple (dN xs)
 |_=>.none
def dN:List PV→List PyData
 | []=>[]
 |x::xs=>toD x::dN xs
end
mutual
theorem eY:∀p:PV,aq p=true→(toD p).canLay0=true
 | .non,_=>rfl
 | .bl _,_=>rfl
 | .int _,_=>rfl
 | .str x,h=>by unfold aq at h;unfold toD PyData.canLay0;exact h
 | .lst xs,h=>by unfold aq at h;unfold toD PyData.canLay0;exact gD xs h
 | .tup xs,h=>by unfold aq at h;unfold toD PyData.canLay0;exact gD xs h
 | .ins _ _ _,h=>by simp[aq] at h
 | .xc _ _ _,h=>by simp[aq] at h
 | .ty _,h=>by simp[aq] at h
 | .cls _,h=>by simp[aq] at h
theorem gD:∀ps:List PV,bD ps=true→PyData.canLayAll0 (dN ps)=true
 | [],_=>rfl
 |p::ps,h=>by
  unfold bD at h
  rw[Bool.and_eq_true] at h
  unfold dN PyData.canLayAll0
  rw[eY p h.1,gD ps h.2]
  rfl
end
mutual
theorem eZ:∀p:PV,(toD p).depth=dep p
 | .non=>rfl
 | .bl _=>rfl
 | .int _=>rfl
 | .str x=>rfl
 | .lst xs=>by unfold toD PyData.depth dep;rw[nM xs]
 | .tup xs=>by unfold toD PyData.depth dep;rw[nM xs]
 | .ins _ _ _=>rfl
 | .xc _ _ _=>rfl
 | .ty _=>rfl
 | .cls _=>rfl
theorem nM:∀ps:List PV,PyData.depthAll (dN ps)=vY ps
 | []=>rfl
 |p::ps=>by unfold dN PyData.depthAll vY;rw[eZ p,nM ps]
end
mutual
theorem t_:∀p q:PV,aq p=true→aq q=true→PyData.eqv (toD p) (toD q)=eqB p q
 | .lst xs,.lst ys,h1,h2=>by
   unfold aq at h1 h2
   unfold toD eqB PyData.eqv
   exact uc xs ys h1 h2
 | .tup xs,.tup ys,h1,h2=>by
   unfold aq at h1 h2
   unfold toD eqB PyData.eqv
   exact uc xs ys h1 h2
 | .ins _ _ _,_,h,_=>by simp[aq] at h
 | .xc _ _ _,_,h,_=>by simp[aq] at h
 | .ty _,_,h,_=>by simp[aq] at h
 | .cls _,_,h,_=>by simp[aq] at h
 | .non,q,_,h=>by cases q<;>first|rfl|(simp[aq] at h)|(simp[toD,eqB,PyData.eqv])
 | .bl _,q,_,h=>by cases q<;>first|rfl|(simp[aq] at h)|(simp[toD,eqB,PyData.eqv])
 | .int _,q,_,h=>by cases q<;>first|rfl|(simp[aq] at h)|(simp[toD,eqB,PyData.eqv])
 | .str _,q,_,h=>by cases q<;>first|rfl|(simp[aq] at h;done)|(simp[toD,eqB,PyData.eqv])
 | .lst _,.non,_,_=>by simp[toD,eqB,PyData.eqv]
 | .lst _,.bl _,_,_=>by simp[toD,eqB,PyData.eqv]
 | .lst _,.int _,_,_=>by simp[toD,eqB,PyData.eqv]
 | .lst _,.str _,_,_=>by simp[toD,eqB,PyData.eqv]
 | .lst _,.tup _,_,_=>by simp[toD,eqB,PyData.eqv]
 | .lst _,.ins _ _ _,_,h=>by simp[aq] at h
 | .lst _,.xc _ _ _,_,h=>by simp[aq] at h
 | .lst _,.ty _,_,h=>by simp[aq] at h
 | .lst _,.cls _,_,h=>by simp[aq] at h
 | .tup _,.non,_,_=>by simp[toD,eqB,PyData.eqv]
 | .tup _,.bl _,_,_=>by simp[toD,eqB,PyData.eqv]
 | .tup _,.int _,_,_=>by simp[toD,eqB,PyData.eqv]
 | .tup _,.str _,_,_=>by simp[toD,eqB,PyData.eqv]
 | .tup _,.lst _,_,_=>by simp[toD,eqB,PyData.eqv]
 | .tup _,.ins _ _ _,_,h=>by simp[aq] at h
 | .tup _,.xc _ _ _,_,h=>by simp[aq] at h
 | .tup _,.ty _,_,h=>by simp[aq] at h
 | .tup _,.cls _,_,h=>by simp[aq] at h
theorem uc:∀ps qs:List PV,bD ps=true→bD qs=true→PyData.eqvAll (dN ps) (dN qs)=dM ps qs
 | [],[],_,_=>by simp[dN,dM,PyData.eqvAll]
 | [],_::_,_,_=>by simp[dN,dM,PyData.eqvAll]
 |_::_,[],_,_=>by simp[dN,dM,PyData.eqvAll]
 |p::ps,q::qs,h1,h2=>by
  unfold bD at h1 h2
  rw[Bool.and_eq_true] at h1 h2
  unfold dN dM PyData.eqvAll
  rw[t_ p q h1.1 h2.1,uc ps qs h1.2 h2.2]
end
mutual
theorem Hs{F:Hp}:∀(p:PV) (v:V),aq p=true→Rep K F p v→Rp K.K F (toD p) v
 | .non,_,_,r=>by unfold Rep at r;unfold toD Rp;exact r
 | .bl _,_,_,r=>by unfold Rep at r;unfold toD Rp;exact r
 | .int _,_,_,r=>by unfold Rep at r;unfold toD Rp;exact r
 | .str _,_,_,r=>by unfold Rep at r;unfold toD Rp;exact r
 | .lst xs,_,h,r=>by
   unfold aq at h
   unfold Rep at r
   unfold toD Rp
   obtain⟨a,vs,h1,h2,h3⟩:=r
   exact⟨a,vs,h1,h2,gU xs vs h h3⟩
 | .tup xs,_,h,r=>by
   unfold aq at h
   unfold Rep at r
   unfold toD Rp
   obtain⟨a,vs,h1,h2,h3⟩:=r
   exact⟨a,vs,h1,h2,gU xs vs h h3⟩
 | .ins _ _ _,_,h,_=>by simp[aq] at h
 | .xc _ _ _,_,h,_=>by simp[aq] at h
 | .ty _,_,h,_=>by simp[aq] at h
 | .cls _,_,h,_=>by simp[aq] at h
theorem gU{F:Hp}:∀(ps:List PV) (vs:List V),bD ps=true→Ī K F ps vs→jV K.K F (dN ps) vs
 | [],_,_,r=>by unfold Ī at r;unfold dN jV;exact r
 |p::ps,_,h,r=>by
  unfold bD at h
  rw[Bool.and_eq_true] at h
  unfold Ī at r
  unfold dN jV
  obtain⟨x,t,h1,h2,h3⟩:=r
  exact⟨x,t,h1,Hs p x h.1 h2,gU ps t h.2 h3⟩
end
theorem gW{c:Ctx}{F H:Hp}{σ:L2.St}{ρ:Ŗ}{p:PV}{v:V}(s:Same F H)(h:aq p=true)(r:rR K c σ ρ F H p v):Rp K.K H (toD p) v:=by
 rcases r with r|r
 ·exact Rp.same s _ _ (Hs p v h r)
 ·cases p with
  |lst ps=>
   obtain⟨a,vs,rfl,h3,h4⟩:=r
   unfold aq at h
   unfold toD Rp
   exact⟨a,vs,rfl,aG.of h3,jV.same s _ _ (gU ps vs h h4)⟩
  |ins C ns ps=>simp[aq] at h
  |_=>exact r.elim
def nO(p q:PV):Bool:=aq p && aq q && decide (min (dep p) (dep q)≤60)
def ŏ(p q:PV):Option PV:=if nO p q=true then some (.bl (eqB p q)) else none
def aN(p q:PV):Option PV:=if nO p q=true then some (.bl (!eqB p q)) else none
theorem Ş:jl K (QM K.K false) ŏ:=by
 intro c F H σ ρ p q pv v u Q rel r1 r2 e k
 unfold ŏ at e
 split at e
 ·rename_i hz
  cases e
  unfold nO at hz
  simp only[Bool.and_eq_true,decide_eq_true_eq] at hz
  refine⟨toD p,toD q,gW rel.sub hz.1.1 r1,gW rel.sub hz.1.2 r2,eY p hz.1.1,eY q hz.1.2,by rw[eZ,eZ];exact hz.2,?_⟩
  rw[t_ p q hz.1.1 hz.1.2]
  exact k _ F H rel (Same.refl _) (Same.refl _) Rep.bl
 ·cases e
theorem cN:jl K (QM K.K true) aN:=by
 intro c F H σ ρ p q pv v u Q rel r1 r2 e k
 unfold aN at e
 split at e
 ·rename_i hz
  cases e
  unfold nO at hz
  simp only[Bool.and_eq_true,decide_eq_true_eq] at hz
  refine⟨toD p,toD q,gW rel.sub hz.1.1 r1,gW rel.sub hz.1.2 r2,eY p hz.1.1,eY q hz.1.2,by rw[eZ,eZ];exact hz.2,?_⟩
  rw[t_ p q hz.1.1 hz.1.2]
  exact k _ F H rel (Same.refl _) (Same.refl _) Rep.bl
 ·cases e
def Ep:PV→Bool
 | .non=>true
 |_=>false
def zK(p q:PV):Option PV:=match q with
 | .non=>some (.bl (Ep p))
 |_=>none
def mW(p q:PV):Option PV:=match q with
 | .non=>some (.bl (!Ep p))
 |_=>none
theorem CG{c:Ctx}{F H:Hp}{σ:L2.St}{ρ:Ŗ}{p:PV}{v:V}(r:rR K c σ ρ F H p v):decide (v=.non)=Ep p:=by
 rcases r with r|r
 ·cases p<;>unfold Rep at r<;>first
   |(subst r;rfl)
   |(obtain⟨a,xs,rfl,_⟩:=r;rfl)
   |(obtain⟨a,xs,ys,rfl,_⟩:=r;rfl)
 ·cases p with
  |lst ps=>obtain⟨a,vs,rfl,_⟩:=r;rfl
  |ins C ns ps=>obtain⟨a,dx,fs,rfl,_⟩:=r;rfl
  |_=>exact r.elim
theorem Ht:jl K (fun x y H Q=>y=.non∧Q (.bl (decide (x=.non))) H) zK:=by
 intro c F H σ ρ p q pv v u Q rel r1 r2 e k
 unfold zK at e
 split at e
 ·cases e
  refine⟨r2.non,?_⟩
  rw[CG r1]
  exact k _ F H rel (Same.refl _) (Same.refl _) Rep.bl
 ·cases e
theorem Hv:jl K (fun x y H Q=>y=.non∧Q (.bl (!decide (x=.non))) H) mW:=by
 intro c F H σ ρ p q pv v u Q rel r1 r2 e k
 unfold mW at e
 split at e
 ·cases e
  refine⟨r2.non,?_⟩
  rw[CG r1]
  exact k _ F H rel (Same.refl _) (Same.refl _) Rep.bl
 ·cases e
def Ē:PV→PV→Option PV
 | .lst ps,.int i=>tu ps i
 | .tup ps,.int i=>tu ps i
 | .str z,.int i=>if z.length≤16777216 then(tu z.cps.toList i).map fun c=>.str ⟨#[c]⟩ else none
 |_,_=>none
theorem CJ{F:Hp}{ps:List PV}{vs:List V}{i:Int}{p:PV}(r:Ī K F ps vs)(h:tu ps i=some p):∃v,tu vs i=some v∧Rep K F p v:=by
 unfold tu at h ⊢
 rw[r.length] at h
 cases e:Fw vs.length i with
 |none=>rw[e] at h;cases h
 |some j=>
  rw[e] at h
  obtain⟨v,h1,h2⟩:=cH r.pr h
  exact⟨v,h1,h2⟩
theorem Ď:jl K (mIx K.K) Ē:=by
 intro c F H σ ρ p q pv v u Q rel r1 r2 e k
 unfold Ē at e
 split at e
 ·obtain⟨a,vs,rfl,h1,h2⟩:=r1.lst rel.sub
  cases r2.int
  obtain⟨x,h3,h4⟩:=CJ h2 e
  exact⟨vs,x,.inl h1,h3,k _ F H rel (Same.refl _) (Same.refl _) h4⟩
 ·obtain⟨a,vs,rfl,h1,h2⟩:=r1.tup rel.sub
  cases r2.int
  obtain⟨x,h3,h4⟩:=CJ h2 e
  exact⟨vs,x,.inr h1,h3,k _ F H rel (Same.refl _) (Same.refl _) h4⟩
 ·split at e
  ·rename_i z i hz
   cases r1.str
   cases r2.int
   cases ea:tu z.cps.toList i with
   |none=>rw[ea] at e;cases e
   |some cc=>
    rw[ea] at e
    cases e
    exact⟨cc,by rw[ŗ];exact hz,ea,k _ F H rel (Same.refl _) (Same.refl _) Rep.str⟩
  ·cases e
 ·cases e
def Rv:M (Option Int):=fun ρ=>.ok none ρ
def mP(m:M PV):M (Option Int):=fun ρ=>(m ρ).bind fun p ρ1=>match p with
 | .int i=>.ok (some i) ρ1
 |_=>.bad
abbrev tP(K:KK)(E:L2.St→XK)(m:M (Option Int)):TO:=tG K E rI m
theorem Hw:PO X none (tP (kk X cm) E Rv):=fun pins s σ H Q I h=>QF pins s σ H Q I (by
 obtain⟨c,F,ρ,rel,h⟩:=h
 exact h none F H rel (Same.refl _) (Same.refl _) rfl)
theorem aX(ha:PE X e (tV (kk X cm) E ma)):PO X (some e) (tP (kk X cm) E (mP ma)):=fun pins s σ H Q I h=>Gz ha pins s σ H Q I (by
 obtain⟨c,F,ρ,rel,h⟩:=h
 refine⟨c,F,ρ,rel,h.bind fun p ρ1 v F1 H1 ĥ _ _ r1 h1=>?_⟩
 cases p with
 |int i=>
  have e:v=.int i:=by have r1':Rep (kk X cm) F1 (.int i) v:=r1;unfold Rep at r1';exact r1'
  subst e
  exact h1 (some i) F1 H1 ĥ (Same.refl _) (Same.refl _) rfl
 |_=>exact h1.elim)
def jf{α:Type}(xs:List α)(lo hi:Option Int):List α:= (xs.drop (HT.iy xs.length 0 lo)).take (HT.iy xs.length xs.length hi-HT.iy xs.length 0 lo)
def XR(p:PV)(lo hi:Option Int):Option RV:=match p with
 | .lst ps=>some (.ow (jf ps lo hi))
 | .str z=>if z.length≤16777216 then some (.sh (.str (S (jf z.cps.toList lo hi)))) else none
 |_=>none
def Fy(ma:M PV)(ml mh:M (Option Int)):M RV:=fun ρ=>(ma ρ).bind fun p ρ1=>(ml ρ1).bind fun lo ρ2=>(mh ρ2).bind fun hi ρ3=>Res.mV (XR p lo hi) ρ3
theorem cV{ml mh:M (Option Int)}{lo hi:Option Expr}{p2:Pos}(ha:PE X a (tR (kk X cm) E ma))(hl:PO X lo (tP (kk X cm) E ml))(hh:PO X hi (tP (kk X cm) E mh)):PE X (.Subscript a (.Slice lo hi none p2) pos) (tO (kk X cm) E (Fy ma ml mh)):=
 PE.wk (Gp slm ha hl hh) fun σ H Q ⟨c,F,ρ,rel,h⟩=>⟨c,F,ρ,rel,h.bind fun p ρ1 v F1 H1 ĥ _ _ r1 h1=>⟨c,F1,ρ1,ĥ,h1.bind fun lo ρ2 lo' F2 H2 Ō sF sH r2 h2=>⟨c,F2,ρ2,Ō,h2.bind fun hi ρ3 hi' F3 H3 mq sF3 sH3 r3 h3=>by
   have e2:lo=lo':=r2
   have e3:hi=hi':=r3
   subst e2 e3
   have r1':rR (kk X cm) c σ ρ3 F3 H3 p v:=r1.mono (sF.trans sF3) (sH.trans sH3)
   cases p with
   |lst ps=>
    obtain⟨a,vs,rfl,q1,q2⟩:=r1'.lst mq.sub
    refine⟨vs,q1,fun d hd=>?_⟩
    have e:Ī (kk X cm) F3 (jf ps lo hi) (vI vs lo hi):=by
     unfold jf vI
     rw[q2.length]
     exact Ī.of (Ci _ (Cj _ q2.pr))
    obtain⟨z1,z2⟩:=gk mq hd e
    exact h3 _ F3 _ z1 (Same.refl _) (Same.upd hd) z2
   |str z=>
    cases r1'.str
    unfold XR at h3
    dsimp only at h3
    split at h3
    ·rename_i hz
     exact⟨by rw[ŗ];exact hz,h3 _ F3 H3 mq (Same.refl _) (Same.refl _) (Rep.str (K:=kk X cm) (F:=F3))⟩
    ·exact h3.elim
   |_=>exact h3.elim⟩⟩⟩
theorem zL{c:Ctx}{F H:Hp}{σ:L2.St}{ρ:Ŗ}{p:PV}{vs:List V}(h:rRL K c σ ρ F H [p] vs):∃v,vs=[v]∧rR K c σ ρ F H p v:=by
 cases h with
 |cons r t=>cases t;exact⟨_,rfl,r⟩
theorem XS{c:Ctx}{F H:Hp}{σ:L2.St}{ρ:Ŗ}{p q:PV}{vs:List V}(h:rRL K c σ ρ F H [p,q] vs):∃v u,vs=[v,u]∧rR K c σ ρ F H p v∧rR K c σ ρ F H q u:=by
 cases h with
 |cons r t=>
  cases t with
  |cons r' t=>cases t;exact⟨_,_,rfl,r,r'⟩
def bO:List PV→Option PV
 | [.lst ps]=>some (.int ps.length)
 | [.tup ps]=>some (.int ps.length)
 | [.str z]=>if z.length≤16777216 then some (.int z.length) else none
 |_=>none
theorem aF:dJ K (Xr K.K) bO:=by
 intro c F H σ ρ ps pv vs Q rel r e k
 unfold bO at e
 split at e
 ·cases e
  obtain⟨v,rfl,r1⟩:=zL r
  obtain⟨a,xs,rfl,h1,h2⟩:=r1.lst rel.sub
  refine⟨xs,.inl h1,?_⟩
  rw[←h2.length]
  exact k _ F H rel (Same.refl _) (Same.refl _) Rep.int
 ·cases e
  obtain⟨v,rfl,r1⟩:=zL r
  obtain⟨a,xs,rfl,h1,h2⟩:=r1.tup rel.sub
  refine⟨xs,.inr h1,?_⟩
  rw[←h2.length]
  exact k _ F H rel (Same.refl _) (Same.refl _) Rep.int
 ·split at e
  ·rename_i hz
   cases e
   obtain⟨v,rfl,r1⟩:=zL r
   cases r1.str
   exact⟨by rw[ŗ];exact hz,k _ F H rel (Same.refl _) (Same.refl _) Rep.int⟩
  ·cases e
 ·cases e
def Hx:List PV→Option PV
 | [.int i]=>some (.int (if i<0 then -i else i))
 |_=>none
theorem Hy:dJ K mAbs Hx:=by
 intro c F H σ ρ ps pv vs Q rel r e k
 unfold Hx at e
 split at e
 ·cases e
  obtain⟨v,rfl,r1⟩:=zL r
  cases r1.int
  exact k _ F H rel (Same.refl _) (Same.refl _) Rep.int
 ·cases e
def qU:List PV→Option PV
 | [.int i,.int j]=>some (.int (if j<i then j else i))
 |_=>none
def CK:List PV→Option PV
 | [.int i,.int j]=>some (.int (if j>i then j else i))
 |_=>none
theorem ud:dJ K Gx qU:=by
 intro c F H σ ρ ps pv vs Q rel r e k
 unfold qU at e
 split at e
 ·cases e
  obtain⟨v,u,rfl,r1,r2⟩:=XS r
  cases r1.int
  cases r2.int
  exact k _ F H rel (Same.refl _) (Same.refl _) Rep.int
 ·cases e
theorem Rx:dJ K Gy CK:=by
 intro c F H σ ρ ps pv vs Q rel r e k
 unfold CK at e
 split at e
 ·cases e
  obtain⟨v,u,rfl,r1,r2⟩:=XS r
  cases r1.int
  cases r2.int
  exact k _ F H rel (Same.refl _) (Same.refl _) Rep.int
 ·cases e
def dO:List PV→Option RV
 | [.lst ps]=>some (.ow ps)
 | [.tup ps]=>some (.ow ps)
 |_=>none
def CN(K:PySem.W.Frag):List V→Hp→VK→Prop:=fun xs H Q=>∃p ys,xs=[.ref p]∧(aG K H p ys∨dF K H p ys)∧∀l,H l=none→Q (.ref l) (upd H l (.lst ys))
theorem cW:Ŭ X (.type "list") (CN X.K):=tH
theorem cX:TX K (CN K.K) dO:=by
 intro c F H σ ρ ps pv vs Q rel r e k
 unfold dO at e
 split at e
 ·cases e
  obtain⟨v,rfl,r1⟩:=zL r
  obtain⟨a,xs,rfl,h1,h2⟩:=r1.lst rel.sub
  refine⟨a,xs,rfl,.inl h1,fun l hl=>?_⟩
  obtain⟨q1,q2⟩:=gk rel hl h2
  exact k _ F _ q1 (Same.refl _) (Same.upd hl) q2
 ·cases e
  obtain⟨v,rfl,r1⟩:=zL r
  obtain⟨a,xs,rfl,h1,h2⟩:=r1.tup rel.sub
  refine⟨a,xs,rfl,.inr h1,fun l hl=>?_⟩
  obtain⟨q1,q2⟩:=gk rel hl h2
  exact k _ F _ q1 (Same.refl _) (Same.upd hl) q2
 ·cases e
def qp:PV→String→Option Bool
 | .int _,"int" =>some true
 | .int _,"bool" =>some false
 | .int _,"str" =>some false
 | .int _,"tuple" =>some false
 | .int _,"list" =>some false
 | .bl _,"int" =>some true
 | .bl _,"bool" =>some true
 | .lst _,"list" =>some true
 | .lst _,"tuple" =>some false
 | .lst _,"int" =>some false
 | .lst _,"str" =>some false
 | .tup _,"tuple" =>some true
 | .tup _,"list" =>some false
 | .tup _,"int" =>some false
 | .tup _,"str" =>some false
 | .str _,"str" =>some true
 | .str _,"int" =>some false
 | .str _,"list" =>some false
 | .str _,"tuple" =>some false
 | .non,"int" =>some false
 | .non,"str" =>some false
 | .non,"tuple" =>some false
 | .non,"list" =>some false
 |_,_=>none
end
theorem vZ{K:KK}{F:Hp}:∀ns:List Int,Ī K F (ns.map .int) (ns.map V.int)
 | []=>Ī.nil
 |n::ns=>Ī.cons Rep.int (vZ ns)
def ZcR(K:PySem.W.Frag):Sp:=fun vs H Q _=>∃(sa:Addr) (ns:List Int),vs=[.ref sa]∧aG K H sa (ns.map V.int)∧ns.length≤63∧∀v H',v=.bl true→Q v H'
end P
namespace P
open PySem PySem.Spec PyProof.Rows L2 M2 M3 M4
section
variable{X:Cx}{cm:String→Addr}{K:KK}
def TyP(K:PySem.W.Frag)(H:Hp)(x:V)(t:Value):Prop:=match x with
 | .non=>t=.type "NoneType"
 | .bl _=>t=.type "bool"
 | .int _=>t=.type "int"
 | .str _=>t=.type "str"
 | .ref a=>(t=.type "list" ∧∃xs,aG K H a xs)∨(t=.type "tuple" ∧∃xs,dF K H a xs)∨jT K H (.ref a) t
 |_=>False
def CP(K:PySem.W.Frag):List V→Hp→VK→Prop:=fun xs H Q=>match xs with
 | [x,.ty n]=>∃t b,TyP K H x t∧PySem.W.kitOne K t (.type n)=some b∧Q (.bl b) H
 | [x,.ref C]=>∃t b,TyP K H x t∧PySem.W.kitOne K t (.ref C)=some b∧Q (.bl b) H
 |_=>False
theorem CQ{pins:List (Addr×Obj)}{σ:L2.St}{H:Hp}{s:Shared}{A:Around}{E:Value→Shared→Prop}{Q:Value→Shared→Prop}{c:Value}{b:Bool}{x:V}{u t:Value}(I:Inv X pins σ H s)(rx:RelV x u)(ty:TyP X.K H x t)(e:PySem.W.kitOne X.K t c=some b)(h:∀tk,Q (.bool b) {s with toks:=tk}) :
 wpAny (model X.prog X.w) A (call (.builtin "isinstance") [u,c]) Q E s:=by
 cases x with
 |non=>cases(show t=_ from ty);exact dH I rx .non e h
 |bl y=>cases(show t=_ from ty);exact dH I rx (.bl y) e h
 |int y=>cases(show t=_ from ty);exact dH I rx (.int y) e h
 |str y=>cases(show t=_ from ty);exact dH I rx (.str y) e h
 |ref a=>
  cases(show u=Value.ref a from rx)
  rcases ty with⟨rfl,xs,hS⟩|⟨rfl,xs,hS⟩|ty
  ·obtain⟨its,r,⟨o,n,h1,h2,_⟩,_⟩:=I.list hS
   exact PySem.W.kia_one PySem.W.kitx_list I.jM ⟨o,h1,h2⟩ e (fun z=>nomatch z) h
  ·obtain⟨its,r,⟨o,h1,h2,_⟩,_⟩:=I.tuple hS
   exact PySem.W.kia_one PySem.W.kitx_tuple I.jM ⟨o,h1,h2⟩ e (fun z=>nomatch z) h
  ·exact dH I rx ty e h
 |_=>exact ty.elim
theorem X_:Ŭ X (.builtin "isinstance") (CP X.K):=by
 intro pins s σ H xs us Q I r h
 unfold CP at h
 split at h
 ·obtain⟨t,b,h1,h2,h3⟩:=h
  obtain⟨u,w',rfl,r1,r2⟩:=vals2 r
  cases r2
  exact CQ I r1 h1 h2 fun tk=>⟨.bl b,H,I.tok _,rfl,h3⟩
 ·obtain⟨t,b,h1,h2,h3⟩:=h
  obtain⟨u,w',rfl,r1,r2⟩:=vals2 r
  cases r2
  exact CQ I r1 h1 h2 fun tk=>⟨.bl b,H,I.tok _,rfl,h3⟩
 ·exact h.elim
def tyN:PV→String
 | .non=> "NoneType"
 | .bl _=> "bool"
 | .int _=> "int"
 | .str _=> "str"
 | .lst _=> "list"
 | .tup _=> "tuple"
 |_=> ""
theorem Hz{F:PySem.W.Frag}{p:PV}{n:String}{b:Bool}(h:qp p n=some b):PySem.W.kitOne F (.type (tyN p)) (.type n)=some b:=by
 unfold qp at h
 split at h<;>first
  |(cases h;first|rfl|decide +kernel|kernel_rfl)
  |cases h
theorem Ry{c:Ctx}{F H:Hp}{σ:L2.St}{ρ:Ŗ}{p:PV}{v:V}(s:Same F H)(r:rR K c σ ρ F H p v)(h:∃n b,qp p n=some b):TyP K.K H v (.type (tyN p)):=by
 obtain⟨n,b,h⟩:=h
 cases p with
 |non=>cases r.non;rfl
 |bl _=>cases r.bl;rfl
 |int _=>cases r.int;rfl
 |str _=>cases r.str;rfl
 |lst ps=>
  obtain⟨a,vs,rfl,h1,h2⟩:=r.lst s
  exact .inl ⟨rfl,vs,h1⟩
 |tup ps=>
  obtain⟨a,vs,rfl,h1,h2⟩:=r.tup s
  exact .inr (.inl ⟨rfl,vs,h1⟩)
 |ins _ _ _=>simp[qp] at h
 |xc _ _ _=>simp[qp] at h
 |ty _=>simp[qp] at h
 |cls _=>simp[qp] at h
def HB:List PV→Option PV
 | [p,.ty n]=>(qp p n).map .bl
 |_=>none
theorem HD:dJ K (CP K.K) HB:=by
 intro c F H σ ρ ps pv vs Q rel r e k
 unfold HB at e
 split at e
 ·rename_i p n
  obtain⟨v,u,rfl,r1,r2⟩:=XS r
  cases r2.ty
  cases eb:qp p n with
  |none=>rw[eb] at e;cases e
  |some b=>
   rw[eb] at e
   cases e
   exact⟨_,b,Ry rel.sub r1 ⟨n,b,eb⟩,Hz eb,k _ F H rel (Same.refl _) (Same.refl _) Rep.bl⟩
 ·cases e
def fj:List PV→Option PV
 | [.lst ps]=>some (.tup ps)
 | [.tup ps]=>some (.tup ps)
 |_=>none
def HF(K:PySem.W.Frag):List V→Hp→VK→Prop:=fun xs H Q=>∃p ys,xs=[.ref p]∧((aG K H p ys∧∀l,H l=none→Q (.ref l) (upd H l (.tup ys)))∨(dF K H p ys∧Q (.ref p) H))
theorem nP:Ŭ X (.type "tuple") (HF X.K):=qj
theorem nQ:dJ K (HF K.K) fj:=by
 intro c F H σ ρ ps pv vs Q rel r e k
 unfold fj at e
 split at e
 ·cases e
  obtain⟨v,rfl,r1⟩:=zL r
  obtain⟨a,xs,rfl,h1,h2⟩:=r1.lst rel.sub
  refine⟨a,xs,rfl,.inl ⟨h1,fun l hl=>k _ _ _ (rel.alloc hl) (Same.upd (rel.sub.free hl)) (Same.upd hl) ?_⟩⟩
  unfold Rep
  exact⟨l,xs,rfl,dF.of ľ,Ī.same (Same.upd (rel.sub.free hl)) _ _ h2⟩
 ·cases e
  obtain⟨v,rfl,r1⟩:=zL r
  have r1':=r1
  obtain⟨a,xs,rfl,h1,h2⟩:=r1.tup rel.sub
  refine⟨a,xs,rfl,.inr ⟨h1,k _ F H rel (Same.refl _) (Same.refl _) ?_⟩⟩
  rcases r1' with q|q
  ·exact q
  ·exact q.elim
 ·cases e
def boolsOf:List PV→Option (List Bool)
 | []=>some []
 | .bl b::ps=>(boolsOf ps).map (b:: ·)
 |_::_=>none
theorem qW{F:Hp}:∀{ps:List PV} {vs:List V} {bs:List Bool},Ī K F ps vs→boolsOf ps=some bs→vs=bs.map V.bl
 | [],vs,bs,r,h=>by
   cases h
   have r':=r.pr
   cases r'
   rfl
 |p::ps,vs,bs,r,h=>by
  cases p with
  |bl b=>
   unfold boolsOf at h
   cases eb:boolsOf ps with
   |none=>rw[eb] at h;cases h
   |some cs=>
    rw[eb] at h
    cases h
    have r':=r.pr
    cases r' with
    |cons r1 t=>
     rw[tX r1,qW (Ī.of t) eb]
     rfl
  |_=>simp[boolsOf] at h
def jX:List PV→Option PV
 | [.lst ps]=>(boolsOf ps).map fun bs=>.bl (bs.all id)
 |_=>none
theorem jY:dJ K (Xz K.K) jX:=by
 intro c F H σ ρ ps pv vs Q rel r e k
 unfold jX at e
 split at e
 ·rename_i ps
  obtain⟨v,rfl,r1⟩:=zL r
  obtain⟨a,xs,rfl,h1,h2⟩:=r1.lst rel.sub
  cases eb:boolsOf ps with
  |none=>rw[eb] at e;cases e
  |some bs=>
   rw[eb] at e
   cases e
   refine⟨bs,by rw[←qW h2 eb];exact h1,k _ F H rel (Same.refl _) (Same.refl _) Rep.bl⟩
 ·cases e
end
end P
namespace P
open PySem PySem.Spec PyProof.Rows L2 M2 M3 M4
section
variable{α β:Type}{ρ:Ŗ}{i j n k:Nat}{p q:PV}{ps:List PV}{m ma mb mc:M PV}{mo:M RV}{a b:M Fl}{ta tb:M Bool}{mr:M (List PV)}{f:PV→PV→Option PV}{fo:PV→PV→Option RV}{fl:List PV→Option PV}{flo:List PV→Option RV}{g:Tg}{gs:Fx}
@[simp] theorem ZnD:bU ρ=.ok .nx ρ:= rfl
@[simp] theorem ZnE:mBk ρ=.ok .bk ρ:= rfl
@[simp] theorem ZnF:mCt ρ=.ok .ct ρ:= rfl
@[simp] theorem ZjG:(XJ:M α) ρ=.bad:=rfl
@[simp] theorem ZjH:ġ a b ρ=(a ρ).bind fun f ρ1=>match f with| .nx=>b ρ1|f=>.ok f ρ1:=rfl
@[simp] theorem ZjI:ķ i mo ρ=(mo ρ).bind fun r ρ1=>.ok .nx (ρ1.set i r.slot):=rfl
@[simp] theorem ZjJ:ĭ mo ρ=(mo ρ).bind fun r ρ1=>.ok (.rt r) ρ1:=rfl
@[simp] theorem Zio:ZcK ρ=.ok (.rt (.sh .non)) ρ:= rfl
@[simp] theorem Ziq:ZcL m ρ=(m ρ).bind fun _ ρ1=>.ok .nx ρ1:=rfl
@[simp] theorem ZnW:mC p ρ=.ok p ρ:= rfl
@[simp] theorem ZnG:Ř m ρ=(m ρ).bind fun p ρ1=>.ok (.sh p) ρ1:=rfl
@[simp] theorem ZjK:Ę mo ρ=(mo ρ).bind fun r ρ1=>.ok r.val ρ1:=rfl
@[simp] theorem ZjL:(RV.sh p).val=p:=rfl
@[simp] theorem ZjM:(RV.ow ps).val=.lst ps:=rfl
@[simp] theorem ZjN:(RV.sh p).slot=.sh p:=rfl
@[simp] theorem ZjO:(RV.ow ps).slot=.ow ps:=rfl
@[simp] theorem ZjP:Ć f ma mb ρ=(ma ρ).bind fun p ρ1=>(mb ρ1).bind fun q ρ2=>Res.mV (f p q) ρ2:=rfl
@[simp] theorem Zir:ŀ fo ma mb ρ=(ma ρ).bind fun p ρ1=>(mb ρ1).bind fun q ρ2=>Res.mV (fo p q) ρ2:=rfl
@[simp] theorem ZnH{u:PV→Option PV}:lA u ma ρ=(ma ρ).bind fun p ρ1=>Res.mV (u p) ρ1:=rfl
@[simp] theorem ZjQ:dj m ρ=(m ρ).bind fun p ρ1=>Res.mV (Rh p) ρ1:=rfl
@[simp] theorem ZnI:aJ m ρ=(m ρ).bind fun p ρ1=>match p with| .bl b=>.ok b ρ1|_=>.bad:=rfl
@[simp] theorem Zis:fJ ta ρ=(ta ρ).bind fun b ρ1=>.ok (!b) ρ1:=rfl
@[simp] theorem Zit:jx ta tb ρ=(ta ρ).bind fun b ρ1=>if b=true then tb ρ1 else .ok false ρ1:=rfl
@[simp] theorem ZjR:jy ta tb ρ=(ta ρ).bind fun b ρ1=>if b=true then .ok true ρ1 else tb ρ1:=rfl
@[simp] theorem ZjS:iz ma mb ρ=(ma ρ).bind fun p ρ1=>match p with| .bl b=>if b=true then mb ρ1 else .ok (.bl false) ρ1|_=>.bad:=by
  unfold iz
  congr
  funext p ρ1
  cases p with
  |bl b=>cases b<;>rfl
  |_=>rfl
@[simp] theorem ZnJ:mOr ma mb ρ=(ma ρ).bind fun p ρ1=>match p with| .bl b=>if b=true then .ok (.bl true) ρ1 else mb ρ1|_=>.bad:=by
  unfold mOr
  congr
  funext p ρ1
  cases p with
  |bl b=>cases b<;>rfl
  |_=>rfl
@[simp] theorem ZjT:XH ma ρ=(ma ρ).bind fun p ρ1=>match p with| .bl b=>.ok (.bl (!b)) ρ1|_=>.bad:=rfl
@[simp] theorem ZnK{x y:M α}:bJ ta x y ρ=(ta ρ).bind fun b ρ1=>if b=true then x ρ1 else y ρ1:=rfl
@[simp] theorem ZjU{f g:PV→PV→Option PV}:El f g ma mb mc ρ=(ma ρ).bind fun p ρ1=>(mb ρ1).bind fun q ρ2=>(Res.mV (f p q) ρ2).bind fun z ρ3=>match z with
  | .bl true=>(mc ρ3).bind fun w ρ4=>Res.mV (g q w) ρ4
  | .bl false=>.ok (.bl false) ρ3
  |_=>.bad:=rfl
@[simp] theorem ZjV:ė ρ=.ok [] ρ:= rfl
@[simp] theorem Ziu:Ą ma mr ρ=(ma ρ).bind fun p ρ1=>(mr ρ1).bind fun ps ρ2=>.ok (p::ps) ρ2:=rfl
@[simp] theorem ZjW:ŉ mr ρ=(mr ρ).bind fun ps ρ1=>if ps.length≤16777216 then .ok (.tup ps) ρ1 else .bad:=rfl
@[simp] theorem ZjX:ak mr ρ=(mr ρ).bind fun ps ρ1=>if ps.length≤16777216 then .ok (.ow ps) ρ1 else .bad:=rfl
@[simp] theorem ZnL:bC fl mr ρ=(mr ρ).bind fun ps ρ1=>Res.mV (fl ps) ρ1:=rfl
@[simp] theorem ZjY:nA flo mr ρ=(mr ρ).bind fun ps ρ1=>Res.mV (flo ps) ρ1:=rfl
@[simp] theorem Ziv{mf:MF}{ms:M (List Slot)}:Ė mf ms ρ=(ms ρ).bind fun ps ρ1=>match mf ps with| .ret r=>.ok r ρ1| .exc x=>.exc x ρ1| .bad=>.bad:=rfl
@[simp] theorem ZnM:ę i ρ=(match ρ[i]? with|some (.sh p)=>.ok p ρ|some (.ow ps)=>.ok (.lst ps) (ρ.set i (.sh (.lst ps)))|_=>.bad):=rfl
@[simp] theorem ZnN:Ā i ρ=(match ρ[i]? with|some (.sh p)=>.ok p ρ|some (.ow ps)=>.ok (.lst ps) ρ|some (.bw ps)=>.ok (.lst ps) ρ|some (.rc C ns ps)=>.ok (.ins C ns ps) ρ|_=>.bad):=rfl
@[simp] theorem ZnO:cJ i ρ=(match ρ[i]? with|some (.sh p)=>.ok (.sh p) ρ|some (.ow ps)=>.ok (.ow ps) (ρ.set i .no)|_=>.bad):=rfl
@[simp] theorem ZjZ:ql g m ρ=(m ρ).bind fun p ρ1=>match g p ρ1 with|some ρ2=>.ok .nx ρ2|none=>.bad:=rfl
@[simp] theorem Zj0:Em i j mr ρ=(mr ρ).bind fun ps ρ1=>match ps with| [p,q]=>.ok .nx ((ρ1.set i (.sh p)).set j (.sh q))|_=>.bad:=rfl
@[simp] theorem HJ:gN i p ρ=some (ρ.set i (.sh p)):=rfl
@[simp] theorem ZcS:ŝ [] ρ=some ρ:= rfl
@[simp] theorem Zb6:ě g gs (p::ps) ρ=(g p ρ).bind fun ρ1=>gs ps ρ1:=rfl
@[simp] theorem ZnP:gT n gs (.tup ps) ρ=if ps.length=n then gs ps ρ else none:=rfl
@[simp] theorem Zj1:vQ i m ρ=(match ρ[i]? with
  |some (.ow _)=>(m ρ).bind fun p ρ1=>match ρ1[i]? with
   |some (.ow ps)=>if ps.length<16777216 then .ok .nx (ρ1.set i (.ow (ps ++ [p]))) else .bad
   |_=>.bad
  |_=>.bad):=rfl
@[simp] theorem ZcT{mi:M PV}:zB i mi m ρ=(m ρ).bind fun p ρ1=>match ρ1[i]? with
  |some (.ow _)=>(mi ρ1).bind fun q ρ2=>match ρ2[i]?,q with
   |some (.ow ps),.int k=>match Fw ps.length k with
    |some j=>.ok .nx (ρ2.set i (.ow (ps.set j p)))
    |none=>.bad
   |_,_=>.bad
  |_=>.bad:=rfl
@[simp] theorem Zj2:Rv ρ=.ok none ρ:= rfl
@[simp] theorem ZnX:mP m ρ=(m ρ).bind fun p ρ1=>match p with| .int i=>.ok (some i) ρ1|_=>.bad:=rfl
@[simp] theorem ZnQ{ml mh:M (Option Int)}:Fy ma ml mh ρ=(ma ρ).bind fun p ρ1=>(ml ρ1).bind fun lo ρ2=>(mh ρ2).bind fun hi ρ3=>Res.mV (XR p lo hi) ρ3:=rfl
@[simp] theorem Zj3{lo hi:Option Int}:XR (.lst ps) lo hi=some (.ow (jf ps lo hi)):=rfl
@[simp] theorem ZcU:Ū m ρ=(m ρ).bind fun p ρ1=>match p with
  | .lst ps=>.ok ps ρ1
  | .tup ps=>.ok ps ρ1
  | .str z=>.ok (z.cps.toList.map fun c=>.str ⟨#[c]⟩) ρ1
  |_=>.bad:=rfl
@[simp] theorem ZcV{h:List PV→Option (List PV)}:Ű h mr ρ=(mr ρ).bind fun ps ρ1=>Res.mV (h ps) ρ1:=rfl
@[simp] theorem Yb{mi:M (List PV)}:cU mi g b ρ=(mi ρ).bind fun items ρ1=>forL g b items ρ1:=rfl
@[simp] theorem Ziw{js:List Nat}{nl:Nat}{mi:M (List PV)}{mt:M Bool}{me:M PV}:Œ js nl mi g mt me ρ=(mi ρ).bind fun items ρ1=>match ń g mt me items (vV js nl ρ1) [] with
  |some ps=>.ok (.ow ps) ρ1
  |none=>.bad:=rfl
@[simp] theorem Zj4:Ņ ρ=.ok true ρ:= rfl
@[simp] theorem Zix{mk:M PV}:ZcQ mr mk ρ=(mr ρ).bind fun ps ρ1=>if ps.length≤16777216 then(mk ρ1).bind fun q ρ2=>match q with
  | .int k=>if -(2 ^ 60)≤k∧k<2 ^ 60∧ps.length*k.toNat≤16777216 then .ok (.ow (List.replicate k.toNat ps).flatten) ρ2 else .bad
  |_=>.bad else .bad:=rfl
@[simp] theorem Zj5{mbd:M Fl}{as:List Slot}:Ň n k mbd as=if as.length=n then FR.of (mbd (startP k as)) else .bad:=rfl
@[simp] theorem Zj6{r:RV}:FR.of (.ok (.rt r) ρ)=.ret r:=rfl
@[simp] theorem Zj7:FR.of (.ok .nx ρ)=.ret (.sh .non):=rfl
@[simp] theorem Zj8{x:PX}:FR.of (.exc x ρ)=.exc x:=rfl
@[simp] theorem Zj9:FR.of .bad=.bad:=rfl
@[simp] theorem ZcW{as:List Slot}:startP k as=as++List.replicate (k-as.length) .no:=rfl
@[simp] theorem Ziy:ē ρ=.ok [] ρ:= rfl
@[simp] theorem ZcX{ms:M (List Slot)}:Đ ma ms ρ=(ma ρ).bind fun p ρ1=>(ms ρ1).bind fun as ρ2=>.ok (.sh p::as) ρ2:=rfl
@[simp] theorem ZcY{ms:M (List Slot)}:Ĉ i ms ρ=(match(ρ[i]?).bind dI with
  |none=>.bad
  |some _=>(ms ρ).bind fun as ρ2=>match(ρ2[i]?).bind dI with
   |some s=>.ok (s::as) ρ2
   |none=>.bad):=rfl
@[simp] theorem Zj_:dI (.sh p)=some (.sh p):=rfl
@[simp] theorem Zka:dI (.ow ps)=some (.bw ps):=rfl
@[simp] theorem Zkb:dI (.bw ps)=some (.bw ps):=rfl
@[simp] theorem Zkc:vU (.sh p)=.sh p:=rfl
@[simp] theorem Zkd:vU (.ow ps)=.bw ps:=rfl
@[simp] theorem Zke:vU (.bw ps)=.bw ps:=rfl
@[simp] theorem Zkf{js:List Nat}{nl:Nat}:vV js nl ρ=js.map (fun(j:Nat)=>vU ((ρ[j]?).getD .no))++List.replicate nl .no:=rfl
@[simp] theorem zM:Ţ i ρ=(match ρ[i]? with
  |some (.bw ps)=>.ok ps ρ
  |some (.sh (.lst ps))=>.ok ps ρ
  |some (.sh (.tup ps))=>.ok ps ρ
  |some (.sh (.str z))=>.ok (z.cps.toList.map fun c=>.str ⟨#[c]⟩) ρ
  |some (.ow ps)=>.ok ps (ρ.set i (.sh (.lst ps)))
  |_=>.bad):=rfl
@[simp] theorem Ziz{x y:Int}:ĸ (.int x) (.int y)=some (.sh (.int (x+y))):=rfl
@[simp] theorem ZiA{x y:Int}:ũ (.int x) (.int y)=some (.int (x-y)):=rfl
@[simp] theorem ZiB{x y:Int}:Ĥ (.int x) (.int y)=if ň x y=true then some (.int (x*y)) else none:=rfl
@[simp] theorem ZiC{x y:Int}:ſ (.int x) (.int y)=if cM x y=true then some (.int (x.fdiv y)) else none:=rfl
@[simp] theorem ZiD{x y:Int}:œ (.int x) (.int y)=if Cy x y=true then some (.int (x.fmod y)) else none:=rfl
@[simp] theorem ZiE{x y:Int}:qT (.int x) (.int y)=if vX x y=true then some (.int (x ^ y.toNat)) else none:=rfl
@[simp] theorem ZiF{x y:Int}:gA (.int x) (.int y)=if lF x y=true then some (.int (x*2 ^ y.toNat)) else none:=rfl
@[simp] theorem ZiG{x y:Int}:Cz (.int x) (.int y)=if nG x y=true then some (.int (x / 2 ^ y.toNat)) else none:=rfl
@[simp] theorem ZiH{x:Int}:gB (.int x)=some (.int (-x)):=rfl
@[simp] theorem Zkg{x y:Int}:nJ (.int x) (.int y)=some (.bl (decide (x<y))):=rfl
@[simp] theorem Zkh{x y:Int}:mz (.int x) (.int y)=some (.bl (decide (x≤y))):=rfl
@[simp] theorem Zki{x y:Int}:Ru (.int x) (.int y)=some (.bl (decide (y<x))):=rfl
@[simp] theorem Zkj{x y:Int}:zJ (.int x) (.int y)=some (.bl (decide (y≤x))):=rfl
@[simp] theorem Zkk{x y:Int}:ŏ (.int x) (.int y)=some (.bl (decide (x=y))):=by
  have h:eqB (.int x) (.int y)=decide (x=y):=by rw[eqB.eq_def];rfl
  rw[←h];rfl
@[simp] theorem Zkl{x y:Int}:aN (.int x) (.int y)=some (.bl (!decide (x=y))):=by
  have h:eqB (.int x) (.int y)=decide (x=y):=by rw[eqB.eq_def];rfl
  rw[←h];rfl
@[simp] theorem Zkm{x y:Bool}:ŏ (.bl x) (.bl y)=some (.bl (x== y)):=rfl
@[simp] theorem Zkn{x y:Bool}:aN (.bl x) (.bl y)=some (.bl (!(x== y))):=rfl
@[simp] theorem Zko{p:PV}:zK p .non=some (.bl (Ep p)):=rfl
@[simp] theorem ZiI{p:PV}:mW p .non=some (.bl (!Ep p)):=rfl
@[simp] theorem Zkp{x:Int}:Ē (.lst ps) (.int x)=tu ps x:=rfl
@[simp] theorem Zkq{x:Int}:Ē (.tup ps) (.int x)=tu ps x:=rfl
@[simp] theorem uf:bO [.lst ps]=some (.int ps.length):=rfl
@[simp] theorem ZiJ:bO [.tup ps]=some (.int ps.length):=rfl
@[simp] theorem Zkr{x:Int}:Hx [.int x]=some (.int (if x<0 then -x else x)):=rfl
@[simp] theorem Zks{x y:Int}:qU [.int x,.int y]=some (.int (if y<x then y else x)):=rfl
@[simp] theorem Zkt{x y:Int}:CK [.int x,.int y]=some (.int (if y>x then y else x)):=rfl
@[simp] theorem ZcZ:dO [.lst ps]=some (.ow ps):=rfl
@[simp] theorem Zc0:dO [.tup ps]=some (.ow ps):=rfl
@[simp] theorem ZiK:fj [.lst ps]=some (.tup ps):=rfl
@[simp] theorem ZiL:fj [.tup ps]=some (.tup ps):=rfl
@[simp] theorem Zku{t:String}:HB [p,.ty t]=(qp p t).map .bl:=rfl
@[simp] theorem ZiM{x:Bool}:Rh (.bl x)=some x:=rfl
@[simp] theorem ZiN{x:Int}:Rh (.int x)=some (x != 0):=rfl
@[simp] theorem ZiO:Rh (.lst ps)=some (!ps.isEmpty):=rfl
@[simp] theorem HN(xs:List α)(n:Nat):tu xs (n:Int)=xs[n]?:= by
  unfold tu Fw
  rw[if_pos (by omega)]
  by_cases h:n<xs.length
  ·rw[if_pos (by omega)]
   simp
  ·rw[if_neg (by omega)]
   simp
   omega
@[simp] theorem ZiP(xs:List α)(n:Nat):tu xs (no_index (OfNat.ofNat n):Int)=xs[(no_index (OfNat.ofNat n):Nat)]?:= HN xs n
@[simp] theorem Zb7{x y:Int}:Cy x y=decide (y≠0):=rfl
end
theorem ű{x y:Int}(h1: -(2 ^ 64)<x)(h2:x<2 ^ 64):ň x y=true:=by unfold ň;rw[decide_eq_true (by omega:x.natAbs<18446744073709551616)];rfl
theorem mul_r{x y:Int}(h1: -(2 ^ 64)<y)(h2:y<2 ^ 64):ň x y=true:=by unfold ň;rw[decide_eq_true (by omega:y.natAbs<18446744073709551616)];simp
theorem wg{x y:Int}(h1:bits x≤1048576)(h2:bits y≤1048576):ň x y=true:=by unfold ň;simp[h1,h2]
theorem nR{x y:Int}(h1:y≠0)(h2:bits y≤8000):cM x y=true:=by unfold cM;simp[h1,h2]
section
variable{g:Tg}{mb:M Fl}{mc mt:M Bool}{me:M PV}{items:List PV}{ρ:Ŗ}
theorem Ŋ{α:Type}(c f:α→PV)(I:Ŗ→Prop):∀(xs:List α) (ρ:Ŗ) (acc:List PV),I ρ→acc.length+xs.length≤16777216→
 (∀x∈xs,∀ρ,I ρ→∃ρ1 ρ2 ρ3,g (c x) ρ=some ρ1∧mt ρ1=.ok true ρ2∧me ρ2=.ok (f x) ρ3∧I ρ3)→ń g mt me (xs.map c) ρ acc=some (acc++xs.map f)
 | [],ρ,acc,_,_,_=>by simp[ń]
 |x::xs,ρ,acc,h,hz,hs=>by
  obtain⟨ρ1,ρ2,ρ3,h1,h2,h3,h4⟩:=hs x List.mem_cons_self ρ h
  rw[List.map_cons,ń,h1]
  dsimp only
  rw[h2]
  dsimp only
  rw[h3]
  dsimp only
  rw[if_pos (by simp at hz;omega),Ŋ c f I xs ρ3 (acc ++ [f x]) h4 (by simp at hz ⊢;omega) fun y hy=>hs y (List.mem_cons_of_mem _ hy)]
  simp
theorem nT{β:Type}(st:β→Ŗ)(I:β→Prop)(μ:β→Nat)(hs:∀b,I b→mc (st b)=.ok false (st b)∨(mc (st b)=.ok true (st b)∧∃b',mb (st b)=.ok .nx (st b')∧I b'∧μ b' < μ b)){b:β}(h0:I b) :
 ∃b',Ŷ mc mb (st b)=.ok .nx (st b')∧I b'∧mc (st b')=.ok false (st b'):=by
 have go:∀n b,μ b≤n→I b→∃b',Ŷ mc mb (st b)=.ok .nx (st b')∧I b'∧mc (st b')=.ok false (st b'):=by
  intro n
  induction n with
  |zero=>
   intro b hn hi
   rcases hs b hi with e|⟨e,b',_,_,hl⟩
   ·exact⟨b,by rw[gq,e];rfl,hi,e⟩
   ·omega
  |succ n ih=>
   intro b hn hi
   rcases hs b hi with e|⟨e,b',e2,hi',hl⟩
   ·exact⟨b,by rw[gq,e];rfl,hi,e⟩
   ·obtain⟨b2,q1,q2⟩:=ih b' (by omega) hi'
    refine⟨b2,?_,q2⟩
    rw[gq,e]
    simp only[Res.aU,if_true,e2]
    exact q1
 exact go (μ b) b (Nat.le_refl _) h0
end
end P
namespace P
open PySem PySem.Spec PyProof.Rows L2 M2 M3 M4
def nU(Q:String→Prop):List String→Prop
 | []=>True
 |c::cs=>Q c∧nU Q cs
theorem nU.get{Q:String→Prop}:∀{cs:List String} {C:String},nU Q cs→cs.contains C=true→Q C
 | [],_,_,h=>by simp at h
 |c::cs,C,⟨h1,h2⟩,h=>by
  by_cases e:C=c
  ·rw[e];exact h1
  ·refine h2.get ?_
   rw[List.contains_cons] at h
   have:(C== c)=false:=by simpa using e
   rw[this,Bool.false_or] at h
   exact h
section
variable{X:Cx}{cm:String→Addr}{K:KK}{E:L2.St→XK}{a b e o:Expr}{es:List Expr}{pos apos:Pos}{m ma mb:M PV}{f:Str}
theorem nW{F:Hp}:∀{fs:List (Str×V)} {ps:List PV} {p:PV},Ī K F ps (fs.map (·.2))→((fs.map (·.1)).zip ps).lookup f=some p→∃v,fs.lookup f=some v∧Rep K F p v
 | [],ps,p,_,h=>by simp at h
 |(g,v)::fs,ps,p,r,h=>by
  have r':=r.pr
  rw[List.map_cons] at r'
  cases r' with
  |cons r1 t=>
   rename_i q qs
   rw[List.map_cons,List.zip_cons_cons,List.lookup_cons] at h
   rw[List.lookup_cons]
   cases hg:f== g with
   |true=>
    simp only[hg] at h
    cases h
    exact⟨v,rfl,r1⟩
   |false=>
    simp only[hg] at h
    exact nW (Ī.of t) h
theorem rR.ins{c:Ctx}{F H:Hp}{σ:L2.St}{ρ:Ŗ}{C:String}{ns:List Str}{ps:List PV}{v:V}(s:Same F H)(h:rR K c σ ρ F H (.ins C ns ps) v):∃a dx fs,v=.ref a∧H a=some (.ins (K.cm C) dx fs)∧fs.map (·.1)=ns∧Ī K F ps (fs.map (·.2)):=by
 rcases h with h|h
 ·unfold Rep at h
  obtain⟨a,dx,fs,h1,h2,h3,h4⟩:=h
  exact⟨a,dx,fs,h1,s _ _ h2,h3,h4⟩
 ·exact h
def bQ(cs:List String)(f:Str):PV→Option PV
 | .ins C ns ps=>if cs.contains C=true then(ns.zip ps).lookup f else none
 |_=>none
theorem cO(cs:List String)(hcs:nU (fun C=>Cls X.K (cm C)∧ś X.K (cm C) f) cs)(he:PE X e (tR (kk X cm) E m))(hb:attributeBase e f X.env (eval e X.env)=eval e X.env:=by rfl):PE X (.Attribute e f pos) (tV (kk X cm) E (lA (bQ cs f) m)):=
 PE.wk (Xa he hb) fun σ H Q ⟨c,F,ρ,rel,h⟩=>⟨c,F,ρ,rel,h.bind fun p ρ1 v F1 H1 ĥ _ _ r1 h1=>by
   cases p with
   |ins C ns ps=>
    unfold bQ at h1
    dsimp only at h1
    split at h1
    ·rename_i hc
     obtain⟨a,dx,fs,rfl,q2,q3,q4⟩:=r1.ins ĥ.sub
     cases el:(ns.zip ps).lookup f with
     |none=>rw[el] at h1;exact h1.elim
     |some q=>
      rw[el] at h1
      subst q3
      obtain⟨v,e1,e2⟩:=nW q4 el
      obtain⟨k1,k2⟩:=hcs.get hc
      exact⟨a,_,dx,fs,v,rfl,q2,k1,k2,e1,h1 v F1 H1 ĥ (Same.refl _) (Same.refl _) e2⟩
    ·exact h1.elim
   |_=>exact h1.elim⟩
def HS(X:Cx)(cm:String→Addr)(CX:pZ)(k n:Nat)(m:Str)(C:String)(mf:MF):Prop:=Cls X.K (cm C)∧∃f fd ps,Meth X.K (cm C) m f∧Ķ X.prog X.w X.K X.mg X.base CX k f fd ps (ż (kk X cm) n mf)∧Binds X.K fd ps []∧
 ∀{ps:List Slot},(∃r,mf ps=r∧∀z,r=z→z≠ .bad)→ps.length=n
def HW(Q:String→MF→Prop):List (String×MF)→Prop
 | []=>True
 |(c,mf)::cs=>Q c mf∧HW Q cs
theorem HW.get{Q:String→MF→Prop}:∀{cs:List (String×MF)} {C:String} {mf:MF},HW Q cs→cs.lookup C=some mf→Q C mf
 | [],_,_,_,h=>by simp at h
 |(c,g)::cs,C,mf,⟨h1,h2⟩,h=>by
  rw[List.lookup_cons] at h
  cases hc:C== c with
  |true=>
   rw[hc] at h
   cases h
   have:C=c:=by simpa using hc
   rw[this];exact h1
  |false=>
   rw[hc] at h
   exact h2.get h
def nY(m:Str)(pY:List (String×MF))(mo:M PV)(ms:M (List Slot)):M RV:=fun ρ=>(mo ρ).bind fun p ρ1=>match p with
 | .ins C ns ps=>match pY.lookup C with
   |some mf=>if ns.contains m=true then .bad else(ms ρ1).bind fun as ρ2=>match mf (.sh (.ins C ns ps)::as) with
    | .ret r=>.ok r ρ2
    | .exc x=>.exc x ρ2
    | .bad=>.bad
   |none=>.bad
 |_=>.bad
theorem qX{m:Str}:∀{fs:List (Str×V)},(fs.map (·.1)).contains m=false→fs.lookup m=none
 | [],_=>rfl
 |(g,v)::fs,h=>by
  rw[List.map_cons,List.contains_cons,Bool.or_eq_false_iff] at h
  rw[List.lookup_cons,h.1]
  exact qX h.2
variable{CX:pZ}{k n:Nat}{Qd:Str}{pY:List (String×MF)}{ms:M (List Slot)}
theorem HX{c:Ctx}{F H:Hp}{σ:L2.St}{ρ:Ŗ}{Q:VK}(rel:Rel (kk X cm) c F H σ ρ)(h:bH (kk X cm) E (rO (kk X cm)) c F H σ Q (nY Qd pY m ms ρ))(Yc:HW (fun C mf=>HS X cm CX k n Qd C mf) pY) :
 bH (kk X cm) E (rV (kk X cm)) c F H σ (fun x H1=>∃a C dx fs g fd ps mf,x=.ref a∧H1 a=some (.ins C dx fs)∧Cls X.K C∧Meth X.K C Qd g∧fs.lookup Qd=none∧Ķ X.prog X.w X.K X.mg X.base CX k g fd ps (ż (kk X cm) n mf)∧Binds X.K fd ps []∧
  tA (kk X cm) E ms σ H1 fun vs H2=>ż (kk X cm) n mf (.ref a::vs) H2 Q (E σ)) (m ρ):=
 bH.bind h fun p ρ1 v F1 H1 ĥ _ _ r1 h1=>by
  cases p with
  |ins C ns ps=>
   dsimp only at h1
   cases el:pY.lookup C with
   |none=>rw[el] at h1;exact h1.elim
   |some mf=>
    rw[el] at h1
    dsimp only at h1
    split at h1
    ·exact h1.elim
    ·rename_i hn
     obtain⟨k1,f,fd,qs,k2,k3,k4,k5⟩:=Yc.get el
     have r1':Rep (kk X cm) F1 (.ins C ns ps) v:=r1
     have r2:=r1'
     unfold Rep at r2
     obtain⟨a,dx,fs,rfl,q2,q3,q4⟩:=r2
     refine⟨a,_,dx,fs,f,fd,qs,mf,rfl,ĥ.sub _ _ q2,k1,k2,qX (by rw[q3];simpa using hn),k3,k4,c,F1,ρ1,ĥ,bH.bind h1 fun as ρ2 vs F2 H2 Ō sF sH r3 h3=>?_⟩
     exact vR (vs:=.ref a::vs) k5 Ō (.cons (show cI _ _ _ (.sh _) _ from Rep.same sF _ _ r1') r3) h3
  |_=>exact h1.elim
theorem Rz{pl:Sem Bool}(Yc:HW (fun C mf=>HS X cm CX k n Qd C mf) pY)(hr:bM k X.A)(hx:eX CX X E)(he:PE X o (tV (kk X cm) E m))
 (ht:eval (.Call (.Attribute o Qd apos) [] [] pos) X.env=(do
   let ov ←eval o X.env
   standAt apos.atName
   let (f,first) ←holding [ov] (getMethod ov Qd pl)
   callWith pos f first (backTo pos (starEach [] X.env)) (backToKw pos (keywordEach [] X.env))):=by rfl) :
 PE X (.Call (.Attribute o Qd apos) [] [] pos) (tO (kk X cm) E (nY Qd pY m ē)):=by
 intro pins s σ H Q I ⟨c,F,ρ,rel,h⟩
 refine PySem.W.methodCall_KW (pl:=pl) (Ų (he pins s σ H _ I ⟨c,F,ρ,rel,HX rel h Yc⟩) fun u s1 ⟨x,H1,I1,rx,a,C,dx,fs,g,fd,ps,mf,ex,ea,cl,k2,l,k3,k4,q⟩=>?_) ht
 subst ex
 obtain rfl:u=Value.ref a:=rx
 refine zf I1 ea cl k2 l ?_
 obtain⟨c1,F1,ρ1,ĥ,q⟩:=q
 exact PySem.W.callWith_K0 (first:=[.ref a]) I1.jM k2.kp (Cw (us:=[.ref a]) (vs:=[.ref a]) k3 hr k4 hx I1 (.cons rfl .nil) (q [] F1 H1 ĥ (Same.refl _) (Same.refl _) .nil))
def putN(f:Str):List Str→List Str
 | []=>[f]
 |g::r=>if g=f then g::r else g::putN f r
def wj(f:Str)(p:PV):List Str→List PV→List PV
 | [],_=>[p]
 |g::r,q::qs=>if g=f then p::qs else q::wj f p r qs
 |_::_,[]=>[]
theorem CT{F:Hp}{p:PV}{y:V}(ry:Rep K F p y):∀{fs:List (Str×V)} {ps:List PV},Ī K F ps (fs.map (·.2))→(eO f y fs).map (·.1)=putN f (fs.map (·.1))∧Ī K F (wj f p (fs.map (·.1)) ps) ((eO f y fs).map (·.2))
 | [],ps,r=>⟨rfl,Ī.cons ry Ī.nil⟩
 |(g,v)::fs,ps,r=>by
  have r':=r.pr
  rw[List.map_cons] at r'
  cases r' with
  |cons r1 t=>
   rename_i q qs
   unfold eO
   rw[List.map_cons]
   unfold putN wj
   by_cases hg:g=f
   ·rw[if_pos hg,if_pos hg,if_pos hg]
    exact⟨rfl,Ī.cons ry (Ī.of t)⟩
   ·rw[if_neg hg,if_neg hg,if_neg hg]
    obtain⟨h1,h2⟩:=CT ry (Ī.of t)
    exact⟨by rw[List.map_cons,h1],Ī.cons r1 h2⟩
def iK(i:Nat)(cs:List String)(f:Str)(mv:M PV):M Fl:=fun ρ=>(mv ρ).bind fun p ρ1=>match ρ1[i]? with
 |some (.rc C ns ps)=>if cs.contains C=true∧ns.length<1000 then .ok .nx (ρ1.set i (.rc C (putN f ns) (wj f p ns ps))) else .bad
 |_=>.bad
theorem aY{i:Nat}{x:Str}{px pos':Pos}(cs:List String)(hcs:nU (fun C=>Cls X.K (cm C)∧ś X.K (cm C) f) cs)(ho:PE X (.Name x px) (yP i))(he:PE X e (tV (kk X cm) E m))(hs:swapsWith e (some (.Attribute (.Name x px) f pos')) pos.line X.env=pure false:=by rfl) :
 PS X (.Assign [.Attribute (.Name x px) f pos'] e pos) (tS (kk X cm) E (iK i cs f m)):=PS.wk (Xb ho he hs) fun D σ H ⟨c,F,ρ,rel,h⟩=>⟨c,F,ρ,rel,Ž.bind h fun p ρ1 y F1 H1 ĥ s1 ry h1=>by
 cases e1:ρ1[i]? with
 |none=>rw[e1] at h1;exact h1.elim
 |some sl=>
  rw[e1] at h1
  cases sl with
  |rc C ns ps=>
   dsimp only at h1
   split at h1
   ·rename_i hc
    obtain⟨a,dx,fs,q1,q2,q3,q4,q5,q6,q7⟩:=ĥ.slot i _ e1
    subst q5
    obtain⟨k1,k2⟩:=hcs.get hc.1
    refine⟨.ref a,at_of q1,a,_,dx,fs,rfl,q2,k1,k2,by simpa using hc.2,?_⟩
    obtain⟨z1,z2⟩:=CT (f:=f) (p:=p) ry q6
    exact h1 σ F1 _ (ĥ.write ⟨_,_,e1,at_of q1,rfl⟩ (at_of q1) ⟨a,dx,_,rfl,ľ,q3,q4,z1,z2,q7⟩ fun _ z=>(V.ref.inj z).symm) (Same.refl _)
   ·exact h1.elim
  |_=>exact h1.elim⟩
inductive IR where
 |ok (ns:List Str) (ps:List PV)|exc (x:PX)|bad
abbrev MI:=List Slot→IR
def IR.of:Res Fl→IR
 | .ok .nx (.rc _ ns ps::_)=>.ok ns ps
 | .exc x _=>.exc x
 |_=>.bad
def cY(n k:Nat)(C:String)(mb:M Fl):MI:=fun as=>if as.length+1=n then IR.of (mb (.rc C [] []::startP (k-1) as)) else .bad
structure GrB(a:Addr)(F H F' H':Hp):Prop where
 h:∀b u,b≠a→H b=some u→H' b=some u
 f:Same F F'
 sub:Same F' H'
 out:∀b,b≠a→H b≠none→F b=none→F' b=none
def Zkv(K:KK)(E:XK)(F H:Hp)(Q:VK)(a dx:Addr)(C:String):IR→Prop
 | .ok ns ps=>∀F' H' fs,GrB a F H F' H'→H' a=some (.ins (K.cm C) dx fs)→F' a=none→fs.map (·.1)=ns→Ī K F' ps (fs.map (·.2))→Q .non H'
 | .exc x=>∀C' d F' H',GrB a F H F' H'→Rg K F' x C' d→E C' d H'
 | .bad=>False
def Qe(K:KK)(n:Nat)(C:String)(mi:MI):Sp:=fun vs H Q E=>∃F a dx vs' as,vs=.ref a::vs'∧as.length+1=n∧H a=some (.ins (K.cm C) dx [])∧F a=none∧Same F H∧Paired (cI K F H) as vs'∧Zkv K E F H Q a dx C (mi as)
def RD(a dx:Addr)(C:String)(F H:Hp):Ctx:=⟨fun b=>if b=a then none else H b,F,fun b=>if b=a then none else(ctx0 F H).L b,fun a' dx' C'=>a'=a∧dx'=dx∧C'=C⟩
theorem Rel.gri{σ:L2.St}{ρ:Ŗ}{a dx:Addr}{C:String}{F H F' H':Hp}(r:Rel K (RD a dx C F H) F' H' σ ρ):GrB a F H F' H':=
 ⟨fun b u hb e=>r.base b u (by show(if b=a then none else H b)=_;rw[if_neg hb];exact e),r.f0,r.sub,fun b hb h1 h2=>r.dD b (by show(if b=a then none else H b)≠none;rw[if_neg hb];exact h1) h2⟩
theorem Rel.Yd{F H:Hp}{N:List Str}{as:List Slot}{vs:List V}{a dx:Addr}{C:String}(s:Same F H)(ha:H a=some (.ins (K.cm C) dx []))(hF:F a=none)(h:Paired (cI K F H) as vs) :
 Rel K (RD a dx C F H) F H (L2.start N (.ref a::vs)) (.rc C [] []::startP (N.length-1) as):=by
 have r0:=Rel.start (N:=N) (K:=K) s (as:=.sh (.int 0)::as) (vs:=.int 0::vs) (.cons (Rep.int (K:=K) (F:=F) (i:=0)) h)
 have est:L2.start N (.ref a::vs)=some (.ref a)::(L2.start N (.int 0::vs)).tail:=by unfold L2.start;simp
 have Zkw:(L2.start N (V.int 0::vs)).tail.length=(startP (N.length-1) as).length:=by
  unfold L2.start startP
  simp[Paired.length h]
  omega
 have tl:∀i:Nat,(L2.start N (.int 0::vs)).tail[i]?=(L2.start N (.int 0::vs))[i+1]?:= fun i=>by simp
 have sp:∀i:Nat,(startP (N.length-1) as)[i]?=(startP N.length (.sh (.int 0)::as))[i+1]?:= fun i=>by
  unfold startP
  simp only[List.cons_append,List.getElem?_cons_succ,List.length_cons]
  rw[show N.length-1-as.length=N.length-(as.length+1) by omega]
 have CW:∀(i:Nat) (s':Slot),(startP (N.length-1) as)[i]?=some s'→s'.own=false:=fun i s' e=>by
  unfold startP at e
  by_cases hi:i<as.length
  ·rw[List.getElem?_append_left hi] at e
   obtain⟨v,_,h3⟩:=cH h e
   exact(cI.slot h3).2
  ·rw[List.getElem?_append_right (by omega),List.getElem?_replicate] at e
   split at e
   ·cases e;rfl
   ·cases e
 rw[est]
 refine⟨s,fun b u e=>?_,Same.refl _,fun _ _ z=>z,fun b u e=>?_,fun b e=>?_,?_,fun i s' e=>?_,fun i j b h1 h2=>?_⟩
 ·have e':(if b=a then none else H b)=some u:=e
  split at e'
  ·cases e'
  ·exact e'
 ·have e':(if b=a then none else(ctx0 F H).L b)=some u:=e
  split at e'
  ·cases e'
  ·exact gj e'
 ·show(if b=a then none else(ctx0 F H).L b)=none
  have e':(if b=a then none else H b)=none:=e
  split
  ·rfl
  ·rename_i hb
   rw[if_neg hb] at e'
   exact r0.lb b e'
 ·simp[Zkw]
 ·cases i with
  |zero=>
   cases e
   exact⟨a,dx,[],rfl,ha,hF,by show(if a=a then none else H a)=none;rw[if_pos rfl],rfl,Ī.nil,rfl,rfl,rfl⟩
  |succ i=>
   have e':(startP (N.length-1) as)[i]?=some s':=by simpa using e
   have q:=r0.slot (i+1) s' (by rw[←sp];exact e')
   rw[←tl] at q
   show aR K (RD a dx C F H) F H (((some (V.ref a)::(L2.start N (.int 0::vs)).tail)[i+1]?).getD none) s'
   rw[List.getElem?_cons_succ]
   cases s' with
   |no=>trivial
   |sh p=>exact q
   |bw ps=>
    obtain⟨b,ws,q1,q2,q3⟩:=q
    refine⟨b,ws,q1,?_,q3⟩
    show(if b=a then none else(ctx0 F H).L b)=_
    rw[if_neg (fun z=>by
     have:=(gj q2).1
     rw[z,ha] at this
     cases this)]
    exact q2
   |ow ps=>have:=CW i _ e';cases this
   |rc C ns ps=>have:=CW i _ e';cases this
   |ot ps qs=>have:=CW i _ e';cases this
 ·have at0:∀{i},Š F (some (.ref a)::(L2.start N (.int 0::vs)).tail) (Slot.rc C [] []::startP (N.length-1) as) i b→i=0:=fun{i} ⟨s',y,q1,_,q2⟩=>by
   have q2:=jd q2
   cases i with
   |zero=>rfl
   |succ i=>
    have:=CW i s' (by simpa using q1)
    rw[this] at q2
    cases q2
  rw[at0 h1,at0 h2]
end
section
variable{P:Program}{w:World}{K:PySem.W.Frag}{cm:String→Addr}{mg:Str→Option Value}{base:Heap}{CX:pZ}
theorem fnI{x qual:Str}{st:Stmt}{f:Addr}{fd:FuncData}{N ps:List Str}{k n j:Nat}{C:String}{mb:M Fl}{mi:MI}(F:aj K x qual st f fd)(S:Ě N ps (Ċ st))(hn:ps.length=n)(hj:N.length=j)(hf:mi=cY n j C mb)
 (hbody:∀(cdv:Value) (A:Around) (outer:List Env) (s:Shared) (H:Hp) (E:XK),bM k (A.deeper (envOfC qual (Ċ st) s.heap.objs.size f cdv))→
   lY (cA CX P w K mg base N qual (Ċ st) f cdv A outer s H E) (cB st) (tS ⟨K,cm⟩ (fun _=>E) mb)):Ķ P w K mg base CX (k+1) f fd ps (Qe ⟨K,cm⟩ n C mi):=by
 subst hn hj hf
 obtain⟨oc,od,kV,doc,pm,an,cdv,ct,osl,rfl,lk,hcd⟩:=F.ex
 refine Tt lk hcd S (fun vs H Q E ⟨F,a,dx,vs',as,h1,h2,_,_,_,h3,_⟩=>by rw[h1,List.length_cons,←Paired.length h3];exact h2) fun A outer s H vs Q E hr hsp=>?_
 obtain⟨F,a,dx,vs',as,rfl,h2,h3,h4,h5,h6,h7⟩:=hsp
 refine⟨_,hbody cdv A outer s H E hr,RD a dx C F H,F,_,Rel.Yd h5 h3 h4 h6,?_⟩
 unfold cY at h7
 rw[if_pos h2] at h7
 cases e:mb (.rc C [] []::startP (N.length-1) as) with
 |bad=>rw[e] at h7;exact h7
 |exc x ρ'=>rw[e] at h7;exact fun σ' C' d F' H' rel s1 q=>h7 C' d F' H' rel.gri q
 |ok fl ρ'=>
  rw[e] at h7
  cases fl with
  |nx=>
   cases ρ' with
   |nil=>exact h7.elim
   |cons sl ρ'=>
    cases sl with
    |rc C' ns qs=>
     intro σ' F' H' rel s1
     obtain⟨b,dy,fs,q1,q2,q3,q4,q5,q6,rfl,rfl,rfl⟩:=rel.slot 0 _ rfl
     exact h7 F' H' fs rel.gri q2 q3 q5 q6
    |_=>exact h7.elim
  |bk=>exact h7.elim
  |ct=>exact h7.elim
  |rt r=>exact h7.elim
end
def bY(C:String)(mi:MI)(ms:M (List Slot)):M PV:=fun ρ=>(ms ρ).bind fun as ρ1=>match mi as with
 | .ok ns ps=>.ok (.ins C ns ps) ρ1
 | .exc x=>.exc x ρ1
 | .bad=>.bad
section
variable{X:Cx}{cm:String→Addr}{E:L2.St→XK}{e:Expr}{es:List Expr}{pos p:Pos}{CX:pZ}{k n:Nat}{f:Addr}{fd:FuncData}{ps:List Str}{C:String}{mi:MI}{ms:M (List Slot)}{x:Str}
theorem HY{c:Ctx}{F1 H1:Hp}{σ:L2.St}{ρ1:Ŗ}{Q:VK}{as:List Slot}{vs:List V}(hlen:(∃r,mi as=r∧∀z,r=z→z≠ .bad)→as.length+1=n)(ĥ:Rel (kk X cm) c F1 H1 σ ρ1)(r1:Paired (cI (kk X cm) F1 H1) as vs)
 (h:bH (kk X cm) E (rV (kk X cm)) c F1 H1 σ Q (match mi as with| .ok ns ps=>.ok (.ins C ns ps) ρ1| .exc x=>.exc x ρ1| .bad=>.bad)) :
 ∀x dx,H1 x=none→H1 dx=none→dx≠x→Qe (kk X cm) n C mi (.ref x::vs) (upd (upd H1 dx (.own x)) x (.ins (cm C) dx [])) (fun v H2=>v=.non∧Q (.ref x) H2) (E σ):=by
 intro x dx hx hdx hne
 have up:∀b u,H1 b=some u→upd (upd H1 dx (.own x)) x (.ins (cm C) dx []) b=some u:=fun b u e=>by
  rw[į (Ŕ e hx),į (Ŕ e hdx)];exact e
 have RG:∀{F' H':Hp},GrB x F1 (upd (upd H1 dx (.own x)) x (.ins (cm C) dx [])) F' H'→Gr F1 H1 F' H':=fun{F' H'} g=>
  ⟨fun b u e=>g.h b u (Ŕ e hx) (up b u e),g.f,g.sub,fun b hb hf=>by
    obtain⟨u,hu⟩:∃u,H1 b=some u:=by
     cases q:H1 b with
     |none=>exact absurd q hb
     |some u=>exact⟨u,rfl⟩
    exact g.out b (Ŕ hu hx) (by rw[up b u hu];intro z;cases z) hf⟩
 refine⟨F1,x,dx,vs,as,rfl,?_,ľ,ĥ.sub.free hx,fun b u e=>up b u (ĥ.sub b u e),?_,?_⟩
 ·refine hlen ⟨_,rfl,fun z hz hb=>?_⟩
  rw[hz,hb] at h
  exact h
 ·refine Paired.mono (fun s v hs=>?_) r1
  cases s with
  |sh p=>exact hs
  |bw qs=>
   obtain⟨b,ws,q1,q2,q3,q4⟩:=hs
   exact⟨b,ws,q1,up b _ q2,q3,q4⟩
  |_=>exact hs.elim
 ·cases em:mi as with
  |bad=>rw[em] at h;exact h
  |exc y=>rw[em] at h;exact fun C' d F' H' g rx=>h C' d F' H' (ĥ.call (RG g)) g.f rx
  |ok ns qs=>
   rw[em] at h
   intro F' H' fs g hx' hF' hn hr
   have r2:=ĥ.call (RG g)
   have r3:=r2.freeze hx' (ĥ.base.free hx) hF' (ĥ.tW (RG g).f (ĥ.fresh hx))
   refine⟨rfl,h _ _ H' r3 (g.f.trans (Same.upd hF')) (RG g).h ?_⟩
   show Rep _ _ _ _
   unfold Rep
   exact⟨x,dx,fs,rfl,ľ,hn,Ī.same (Same.upd hF') qs _ hr⟩
theorem Er{pins:List (Addr×Obj)}{σ:L2.St}{H:Hp}{s:Shared}{Q:VK}{us:List Value}{vs:List V}{sp:Sp}{C:Addr}(M:Mk X.K C f)(F:Ķ X.prog X.w X.K X.mg X.base CX k f fd ps sp)(hr:bM (k+1) X.A)(hb:Binds X.K fd ps [])
 (hx:eX CX X E)(I:Inv X pins σ H s)(r:Vals vs us)
 (h:∀x dx,H x=none→H dx=none→dx≠x→sp (.ref x::vs) (upd (upd H dx (.own x)) x (.ins C dx [])) (fun v H2=>v=.non∧Q (.ref x) H2) (E σ)) :
 wpAny (model X.prog X.w) X.A (call (.ref C) us) (EP X pins σ Q) X.xe s:=by
 have hq:=h (s.heap.objs.size+1) s.heap.objs.size (I.hok.fresh (Nat.le_succ _)) (I.hok.fresh (Nat.le_refl _)) (Nat.ne_of_lt (Nat.lt_succ_self _))
 have I2:=Inv.made (C:=C) I
 have r2:Vals (V.ref (s.heap.objs.size+1)::vs) (Value.ref (s.heap.objs.size+1)::us):=.cons rfl r
 have hl:(Value.ref (s.heap.objs.size+1)::us ++ []).length=ps.length:=by
  have e:=r2.length
  rw[F.len _ _ _ _ hq] at e
  rw[List.append_nil]
  exact e.symm
 have hbd:=hb {s with heap:=(s.heap.push PySem.W.emptyDict).push (PySem.W.instObj C s.heap.objs.size)} (Value.ref (s.heap.objs.size+1)::us) I2.jM hl
 rw[List.append_nil] at hbd
 refine wpAny_call (Gm (f:=f) I.jM M.makes M.init (beq_iff_eq.mp M.fn) (codeAny_mono (F.run _ X.stack _ _ ⟨Value.ref (s.heap.objs.size+1)::us,[]⟩ _ _ _ (E σ) (hr.make C us []) (I2.env0.make C us []) hbd r2 hq) fun r s' hq'=>?_))
 cases r with
 |error e=>exact hx pins σ _ _ e s' I2 hq'
 |ok fl=>
  cases fl with
  |ret u=>
   obtain⟨v,H',I3,rv,ev,q3⟩:=I2.after hq'
   subst ev
   exact⟨rv,⟨V.ref (s.heap.objs.size+1),H',I3,rfl,q3⟩⟩
  |next=>exact False.elim hq'
  |brk=>exact False.elim hq'
  |cont=>exact False.elim hq'
theorem cD{n k:Nat}{C:String}{mb:M Fl}{as:List Slot}(h:∃r,cY n k C mb as=r∧∀z,r=z→z≠ .bad):as.length+1=n:=by
 obtain⟨r,h1,h2⟩:=h
 unfold cY at h1
 by_cases hl:as.length+1=n
 ·exact hl
 ·rw[if_neg hl] at h1
  exact absurd h1.symm (fun z=>h2 .bad (by rw[←h1]) rfl)
theorem jZ(M:Mk X.K (cm C) f)(F:Ķ X.prog X.w X.K X.mg X.base CX k f fd ps (Qe (kk X cm) n C mi))(hlen:∀{as:List Slot},(∃r,mi as=r∧∀z,r=z→z≠ .bad)→as.length+1=n)(hr:bM (k+1) X.A)(hg:Gl X x)(hm:X.mg x=some (.ref (cm C)))(hb:Binds X.K fd ps [])(hx:eX CX X E)
 (ha:PA X (e::es) (tA (kk X cm) E ms))(hdb:(x== ("__debug__" :Str))=false:=by decide)(he:starEach (e::es) X.env=(false,eval e X.env)::starEach es X.env:=by exact ř rfl)(hpl:(backTo pos (starEach es X.env)).any (·.1)=false:=by rfl) :
 PE X (.Call (.Name x p) (e::es) [] pos) (tV (kk X cm) E (bY C mi ms)):=by
 intro pins s σ H Q I ⟨c,F',ρ,rel,h⟩
 refine wpAny_Call_Name_kw (mO I hg hm ?_ hdb)
 refine PySem.W.callWith_K (h₀:= X.base) I.ok.mod.kin M.kp (Ų (ha pos pins s σ H (fun vs H1=>∀x dx,H1 x=none→H1 dx=none→dx≠x→Qe (kk X cm) n C mi (.ref x::vs) (upd (upd H1 dx (.own x)) x (.ins (cm C) dx [])) (fun v H2=>v=.non∧Q (.ref x) H2) (E σ)) I
  ⟨c,F',ρ,rel,bH.bind h fun as ρ1 vs F1 H1 ĥ _ _ r1 h1=>HY hlen ĥ r1 h1⟩) fun us s1 ⟨vs,H1,I1,r,q⟩=>⟨I1.jM,?_⟩) he hpl
 exact Er M F hr hb hx I1 r q
end
end P
namespace P
open PySem PySem.Spec PyProof.Rows L2 M2 M3 M4
def Ye(B:Heap)(e:Addr)(C:Value)(d:Option Addr)(fl:Value)(h:Heap):Prop:=
 ∃oe vs T oT ts,h.get? e=some oe∧(oe.cls=C∧oe.dict=d)∧oe.data=.fields vs∧vs[1]?=some (.ref T)∧B.get? T=none∧T≠e∧h.get? T=some oT∧oT.data=.fields ts∧ts[3]?=some fl
structure Moved(h h':Heap):Prop where
 up:h.UpToSlots h'
 there:∀b o,h.get? b=some o→∃o',h'.get? b=some o'
theorem Moved.trans{h h1 h2:Heap}(a:Moved h h1)(b:Moved h1 h2):Moved h h2:=⟨a.up.trans b.up,fun c o e=>let ⟨o1,e1⟩:=a.there c o e;b.there c o1 e1⟩
theorem Es(o:Obj)(f:Array Value→Array Value):(o.mapFields f).dict=o.dict:=by
 obtain⟨c,d,dt,sl⟩:=o
 cases dt<;>rfl
section
variable{M:Model}{A:Around}{E:Value→Shared→Prop}{s:Shared}{B:Heap}{env:Env}{outer:List Env}{L e:Addr}{Q:Unit→Shared→Prop}
theorem Zc1{oe:Obj}{vs:Array Value}{head:Value}{nxt:Bool}(hfr:A.frames=some (env::outer))(hl:s.heap.FunFrames B (env::outer))(hf:env.frame=some L)
 (he:s.heap.get? e=some oe)(hkb:B.StaysIn s.heap)(hen:B.get? e=none)(hd:oe.data=.fields vs)(hsz:1<vs.size)
 (k:∀h',B.StaysIn h'→h'.FunFrames B (env::outer)→Ye B e oe.cls oe.dict (rawInt L) h'→Moved s.heap h'→Q () {s with heap:=h'}) :
 wpAny M A (do
  let a ←frameOf env
  let pl ←entryPlaceOf L nxt
  let b ←EntryCells.newEntry head a .none (rawInt L) .none pl
  setField (.ref e) 1 b) Q E s:=by
 have out:e∉(env::outer).filterMap (·.frame):=fun z=>by
  obtain⟨_,o,ho,hn⟩:=hl.mem z
  rw[he] at ho
  cases ho
  exact hn vs hd
 refine wpAny_bind (wpAny_frameOf_fun hfr hl hf fun g1 so=>?_)
 refine wpAny_bind (wpAny_entryPlaceOf fun pl hpl=>?_)
 unfold EntryCells.newEntry newFields
 refine wpAny_bind (wpAny_newObj_type ?_ (hpl.sizeOk5 _ _ _ _ _))
 have e1:g1.get? e=some oe:=(so.2.1 e out).trans he
 have b1:B.StaysIn g1:=fun b o q=>(so.2.1 b fun z=>by
  rw[(hl.mem z).1] at q
  cases q).trans (hkb b o q)
 generalize hnw:([head,Value.ref L,.none,rawInt L,.none]++(if pl.isEmpty then List.replicate 6 Value.none else pl))=nw
 have n3:nw.toArray[3]?=some (rawInt L):=by rw[←hnw];simp
 dsimp only
 have e2:=Heap.get?_push_of_some (h:=g1) {cls:=.type "traceback",dict:=none,data:=.fields nw.toArray} e1
 refine wpAny_setField e2 hd hsz ?_
 have ne:g1.objs.size≠e:=Nat.ne_of_gt (Heap.lt_size e1)
 have d3:=Obj.data_mapFields hd (·.setIfInBounds 1 (Value.ref g1.objs.size))
 have e3:=Heap.get?_update_self (Obj.mapFields (·.setIfInBounds 1 (Value.ref g1.objs.size))) e2 (Obj.isFreed_of_fields d3)
 have kp:∀b o,b≠e→g1.get? b=some o→((g1.push {cls:=.type "traceback",dict:=none,data:=.fields nw.toArray}).update e (Obj.mapFields (·.setIfInBounds 1 (Value.ref g1.objs.size)))).get? b=some o:=fun b o hb q=>by
  rw[Heap.get?_update_other _ _ (Ne.symm hb)]
  exact Heap.get?_push_of_some _ q
 have t3:((g1.push {cls:=.type "traceback",dict:=none,data:=.fields nw.toArray}).update e (Obj.mapFields (·.setIfInBounds 1 (Value.ref g1.objs.size)))).get? g1.objs.size=some {cls:=.type "traceback",dict:=none,data:=.fields nw.toArray}:=by
  rw[Heap.get?_update_other _ _ (Ne.symm ne)]
  exact Heap.get?_push_size g1 rfl
 have nr:∀b o,s.heap.get? b=some o→(∀ws,o.data≠ .fields ws)→b≠e:=fun b o q hn z=>by
  rw[z,he] at q
  cases q
  exact hn vs hd
 refine k _ (fun b o q=>kp b o (fun z=>by rw[z,hen] at q;cases q) (b1 b o q)) (hl.of_keeps fun b o q hn=>?_) ?_ ⟨fun b o q hn=>?_,fun b o q=>?_⟩
 ·obtain⟨sl,z⟩:=so.2.2 b o q
  exact⟨_,kp b _ (nr b o q hn) z,rfl⟩
 ·exact⟨_,_,g1.objs.size,_,_,e3,⟨Obj.cls_mapFields _ _,Es _ _⟩,d3,by simp[hsz],b1.fresh,ne,t3,rfl,n3⟩
 ·obtain⟨sl,z⟩:=so.2.2 b o q
  exact⟨sl,kp b _ (nr b o q hn) z⟩
 ·obtain⟨sl,z⟩:=so.2.2 b o q
  by_cases hb:b=e
  ·rw[hb];exact⟨_,e3⟩
  ·exact⟨_,kp b _ hb z⟩
theorem RJ{oe:Obj}{vs:Array Value}(hfr:A.frames=some (env::outer))(hl:s.heap.FunFrames B (env::outer))(hf:env.frame=some L)(he:s.heap.get? e=some oe)(hkb:B.StaysIn s.heap)(hen:B.get? e=none)
 (hd:oe.data=.fields vs)(h1:vs[1]?=some .none)(k:∀h',B.StaysIn h'→h'.FunFrames B (env::outer)→Ye B e oe.cls oe.dict (rawInt L) h'→Moved s.heap h'→Q () {s with heap:=h'}) :
 wpAny M A (noteFrame (.ref e) env) Q E s:=by
 unfold noteFrame
 simp only[hf]
 refine wpAny_bind (wpAny_field he hd h1 ?_)
 rw[if_neg (by decide)]
 exact Zc1 hfr hl hf he hkb hen hd (Array.getElem?_eq_some_iff.mp h1).1 k
theorem Yg{C:Value}{d:Option Addr}(hfr:A.frames=some (env::outer))(hl:s.heap.FunFrames B (env::outer))(hf:env.frame=some L)(ht:Ye B e C d .none s.heap)(hkb:B.StaysIn s.heap)(hen:B.get? e=none)
 (k:∀h',B.StaysIn h'→h'.FunFrames B (env::outer)→Ye B e C d (rawInt L) h'→Moved s.heap h'→Q () {s with heap:=h'}):wpAny M A (noteFrame (.ref e) env) Q E s:=by
 obtain⟨oe,vs,T,oT,ts,he,⟨rfl,rfl⟩,hd,h1,hT,hTe,hT2,hdT,h3⟩:=ht
 unfold noteFrame
 simp only[hf]
 refine wpAny_bind (wpAny_field he hd h1 ?_)
 rw[if_pos (show(Value.ref T != Value.none)=true by simp)]
 refine wpAny_bind (wpAny_field hT2 hdT h3 ?_)
 rw[if_neg (show ¬((Value.none== rawInt L)=true) by simp[rawInt])]
 refine wpAny_bind (wpAny_setField hT2 hdT (Array.getElem?_eq_some_iff.mp h3).1 ?_)
 have oth:∀b,b≠T→(s.heap.update T (Obj.mapFields (·.setIfInBounds 3 Value.none))).get? b=s.heap.get? b:=fun b hb=>Heap.get?_update_other _ _ (Ne.symm hb)
 have nr:∀b o,s.heap.get? b=some o→(∀ws,o.data≠ .fields ws)→b≠T:=fun b o q hn z=>by
  rw[z,hT2] at q
  cases q
  exact hn ts hdT
 refine Zc1 hfr (hl.of_keeps fun b o q hn=>⟨o,(oth b (nr b o q hn)).trans q,rfl⟩) hf ((oth e (Ne.symm hTe)).trans he) (fun b o q=>(oth b fun z=>by rw[z,hT] at q;cases q).trans (hkb b o q)) hen hd (Array.getElem?_eq_some_iff.mp h1).1
  fun h' x1 x2 x3 x4=>k h' x1 x2 x3 (Moved.trans ⟨fun b o q hn=>⟨o.slots,(oth b (nr b o q hn)).trans q⟩,fun b o q=>?_⟩ x4)
 by_cases hb:b=T
 ·rw[hb];exact⟨_,Heap.get?_update_self _ hT2 (Obj.isFreed_of_fields (Obj.data_mapFields hdT _))⟩
 ·exact⟨o,(oth b hb).trans q⟩
theorem CZ{C fl:Value}{d:Option Addr}{l:List Env}(hkb:B.StaysIn s.heap)(hl:s.heap.FunFrames B l)(ht:Ye B e C d fl s.heap)
 (k:∀h',B.StaysIn h'→h'.FunFrames B l→Ye B e C d .none h'→Moved s.heap h'→Q () {s with heap:=h'}):wpAny M A (setFlight (.ref e) none) Q E s:=by
 obtain⟨oe,vs,T,oT,ts,he,hc,hd,h1,hT,hTe,hT2,hdT,h3⟩:=ht
 have z3:3<ts.size:=(Array.getElem?_eq_some_iff.mp h3).1
 have oth:∀b,b≠T→(s.heap.update T (Obj.mapFields (·.setIfInBounds 3 ((none:Option Addr).elim Value.none fun f=>rawInt f)))).get? b=s.heap.get? b:=fun b hb=>Heap.get?_update_other _ _ (Ne.symm hb)
 have nr:∀b o,s.heap.get? b=some o→(∀ws,o.data≠ .fields ws)→b≠T:=fun b o q hn z=>by
  rw[z,hT2] at q
  cases q
  exact hn ts hdT
 unfold setFlight
 refine wpAny_bind (wpAny_field he hd h1 ?_)
 rw[if_pos (show(Value.ref T != Value.none)=true by simp)]
 refine wpAny_setField hT2 hdT z3 (k _ (fun b o q=>(oth b fun z=>by rw[z,hT] at q;cases q).trans (hkb b o q)) (hl.of_keeps fun b o q hn=>⟨o,(oth b (nr b o q hn)).trans q,rfl⟩) ?_ ⟨fun b o q hn=>⟨o.slots,(oth b (nr b o q hn)).trans q⟩,fun b o q=>?_⟩)
 rotate_left
 ·by_cases hb:b=T
  ·rw[hb];exact⟨_,Heap.get?_update_self _ hT2 (Obj.isFreed_of_fields (Obj.data_mapFields hdT _))⟩
  ·exact⟨o,(oth b hb).trans q⟩
 exact⟨oe,vs,T,_,_,(oth e (Ne.symm hTe)).trans he,hc,hd,h1,hT,hTe,Heap.get?_update_self _ hT2 (Obj.isFreed_of_fields (Obj.data_mapFields hdT _)),Obj.data_mapFields hdT _,by simp[z3]⟩
end
theorem wu{P:Program}{w:World}{H:Hp}{h:Heap}{a:Addr}{o:HO}(x:aA P w H h a o):∃ob,h.get? a=some ob:=by
 cases o with
 |lst xs=>obtain⟨_,_,_,_,e⟩:=x;exact⟨_,e⟩
 |tup xs=>obtain⟨_,_,_,ob,e,_⟩:=x;exact⟨_,e⟩
 |dK kvs=>obtain⟨_,_,_,_,ob,_,_,e,_⟩:=x;exact⟨_,e⟩
 |dT kvs=>obtain⟨_,_,_,_,ob,_,_,e,_⟩:=x;exact⟨_,e⟩
 |set S n=>obtain⟨ob,_,_,_,e,_⟩:=x;exact⟨_,e⟩
 |ins C dx fs=>obtain⟨_,_,_,e,_⟩:=x;exact⟨_,e⟩
 |own y=>exact x
 |xd fs=>obtain⟨_,⟨ob,_,_,e,_⟩,_⟩:=x;exact⟨_,e⟩
 |rng lo hi=>obtain⟨_,_,_,e⟩:=x;exact⟨_,e⟩
 |dD ob u=>obtain⟨e,_⟩:=x;exact⟨_,e⟩
 |pY ps=>exact⟨_,(show h.get? a=some _ from x)⟩
 |met f y=>exact⟨_,(show h.get? a=some _ from x)⟩
 |ext φ=>obtain⟨_,e,_⟩:=x;exact e
theorem iG.sub{P:Program}{w:World}{H:Hp}{h B:Heap}(x:iG P w H h)(k:∀b o u,H b=some u→h.get? b=some o→B.get? b=some o):iG P w H B:=fun a o e=>
 (x a o e).stay (fun b u hb q=>by
   rcases hb with rfl|hb
   ·exact k _ _ _ e q
   ·exact k _ _ _ hb q) (fun _ q=>q) fun _ _ q=>q
structure UnX(fs:List Addr)(H H':Hp)(h B h':Heap):Prop where
 keep:∀b o,h.get? b=some o→H b=none→b∉fs→B.get? b=some o
 slot:∀b o,h.get? b=some o→H b=none→b∈fs→∃sl,h'.get? b=some {o with slots:=sl}
 free:∀b o,h.get? b=some o→H b=none→H' b=none
 there:∀b o,h.get? b=some o→∃o',h'.get? b=some o'
 tups:∀b xs,H b=some (.tup xs)→H' b=some (.tup xs)
 jm:∀b o u,H b=some (.dD o u)→H' b=some (.dD o u)
 jN:∀b ps,H b=some (.pY ps)→∃more,H' b=some (.pY (ps++more))
structure Lies(P:Program)(w:World)(outer:List Env)(H:Hp)(s:Shared)(ea:Addr)(C:Value)(d:Option Addr)(fl:Value)(H':Hp)(B:Heap)(s':Shared):Prop where
 os:s'.os=s.os
 bare:AllBare s'.gens
 st:B.StaysIn s'.heap
 en:B.get? ea=none
 fr:s'.heap.FunFrames B outer
 tr:Ye B ea C d fl s'.heap
 hok:iG P w H' B
 un:UnX (frs outer) H H' s.heap B s'.heap
 no:H' ea=none
 new:s.heap.get? ea=none
def ų(P:Program)(w:World):pZ:=fun outer H s E e s'=>∃ea C d H' B,e=.ref ea∧Lies P w outer H s ea C d .none H' B s'∧E C d H'
theorem qY{P:Program}{w:World}{outer:List Env}{H:Hp}{s s':Shared}{e:Value}(h:ų P w outer H s (fun _ _ _=>False) e s'):False:=by
 obtain⟨_,_,_,_,_,_,_,h⟩:=h
 exact h
theorem aO{P:Program}{w:World}{X:Cx}:eX (ų P w) X EF:=fun _ _ _ _ _ _ _ h=>(qY h).elim
section
variable{P:Program}{w:World}{K:PySem.W.Frag}{mg:Str→Option Value}{base:Heap}{N:List Str}{qual:Str}{scope:Scope}{f:Addr}{cdv:Value}{A:Around}{outer:List Env}{s₀:Shared}{H₀:Hp}{E:XK}
theorem Ħ:eX (ų P w) (cA (ų P w) P w K mg base N qual scope f cdv A outer s₀ H₀ E) (fun _=>E):=by
 intro pins σ H s e s' I h
 obtain⟨ea,C,d,H',B,rfl,l,hE⟩:=h
 have hfr:(A.deeper (envOfC qual scope s₀.heap.objs.size f cdv)).frames=some (envOfC qual scope s₀.heap.objs.size f cdv::outer):=I.ok.frames
 show wpAny _ _ (leaving _ _) _ _ s'
 unfold leaving
 refine wpAny_bind (Yg hfr l.fr rfl l.tr l.st l.en fun h1 x1 x2 x3 x4=>?_)
 refine CZ (s:={s' with heap:=h1}) x1 x2 x3 fun h2 y1 y2 y3 y4=>?_
 obtain⟨_,_,y2'⟩:=y2
 have mv:=x4.trans y4
 have neL:∀b o,s₀.heap.get? b=some o→b∉frs outer→b∉frs (envOfC qual scope s₀.heap.objs.size f cdv::outer):=fun b o q hb z=>by
  rcases List.mem_cons.mp (show b∈s₀.heap.objs.size::frs outer from z) with z|z
  ·exact absurd (Heap.lt_size q) (by rw[z];exact Nat.lt_irrefl _)
  ·exact hb z
 have inL:∀b,b∈frs outer→b∈frs (envOfC qual scope s₀.heap.objs.size f cdv::outer):=fun b z=>List.mem_cons_of_mem _ z
 refine⟨ea,C,d,H',B,rfl,⟨l.os.trans I.os,l.bare,y1,l.en,y2',y3,l.hok,⟨fun b o q n hb=>?_,fun b o q n hb=>?_,fun b o q n=>?_,fun b o q=>?_,fun b xs q=>l.un.tups b xs (I.base.tups b xs q),fun b o u q=>l.un.jm b o u (I.base.jm b o u q),fun b ps q=>?_⟩,l.no,?_⟩,hE⟩
 ·exact l.un.keep b o (I.base.keep b o q n hb (by simp[cA])) (I.base.free b o q n (by simp[cA])) (neL b o q hb)
 ·obtain⟨sl,q1⟩:=I.base.slot b o q n hb (by simp[cA])
  obtain⟨sl2,q2⟩:=l.un.slot b _ q1 (I.base.free b o q n (by simp[cA])) (inL b hb)
  have nf:∀vs,o.data≠ .fields vs:=by
   obtain⟨_,o',q3,hn⟩:=l.fr.mem (inL b hb)
   rw[q2] at q3
   cases q3
   exact hn
  obtain⟨sl3,q3⟩:=mv.up b _ q2 nf
  exact⟨sl3,q3⟩
 ·obtain⟨o1,q1⟩:=I.base.there b o q (by simp[cA])
  exact l.un.free b o1 q1 (I.base.free b o q n (by simp[cA]))
 ·obtain⟨o1,q1⟩:=I.base.there b o q (by simp[cA])
  obtain⟨o2,q2⟩:=l.un.there b o1 q1
  exact mv.there b o2 q2
 ·obtain⟨m1,e1⟩:=I.base.jN b ps q
  obtain⟨m2,e2⟩:=l.un.jN b _ e1
  exact⟨m1++m2,by rw[e2,Array.append_assoc]⟩
 ·cases q:s₀.heap.get? ea with
  |none=>rfl
  |some o=>
   obtain⟨o1,q1⟩:=I.base.there ea o q (by simp[cA])
   rw[l.new] at q1
   cases q1
theorem Yh{pins:List (Addr×Obj)}{σ:L2.St}{H:Hp}{s:Shared}{e:Addr}{oe:Obj}{vs:Array Value}(I:Inv (cA (ų P w) P w K mg base N qual scope f cdv A outer s₀ H₀ E) pins σ H s)
 (he:s.heap.get? e=some oe)(hd:oe.data=.fields vs)(h1:vs[1]?=some .none)(hn:H e=none)(hnew:s₀.heap.get? e=none)(hE:E oe.cls oe.dict H) :
 (cA (ų P w) P w K mg base N qual scope f cdv A outer s₀ H₀ E).xe (.ref e) s:=by
 have hfr:(A.deeper (envOfC qual scope s₀.heap.objs.size f cdv)).frames=some (envOfC qual scope s₀.heap.objs.size f cdv::outer):=I.ok.frames
 have st:s.heap.FunFrames base (envOfC qual scope s₀.heap.objs.size f cdv::outer):=I.stack
 have nof:e∉frs (envOfC qual scope s₀.heap.objs.size f cdv::outer):=fun z=>by
  obtain⟨_,o,q,hn⟩:=st.mem z
  rw[he] at q
  cases q
  exact hn vs hd
 have hin:∀env∈(envOfC qual scope s₀.heap.objs.size f cdv::outer),∀a,env.frame=some a→a∈e::frs (envOfC qual scope s₀.heap.objs.size f cdv::outer):=fun env h1 a h2=>List.mem_cons_of_mem _ (List.mem_filterMap.mpr ⟨env,h1,h2⟩)
 have hl:s.heap.FunFrames (PySem.W.hideAll s.heap (e::frs (envOfC qual scope s₀.heap.objs.size f cdv::outer))) (envOfC qual scope s₀.heap.objs.size f cdv::outer):=PySem.W.funFrames_hide st hin
 have hB:∀b o,s.heap.get? b=some o→b≠e→b∉frs (envOfC qual scope s₀.heap.objs.size f cdv::outer)→(PySem.W.hideAll s.heap (e::frs (envOfC qual scope s₀.heap.objs.size f cdv::outer))).get? b=some o:=fun b o q h1 h2=>
  PySem.W.hideAll_get _ q fun z=>(List.mem_cons.mp z).elim h1 h2
 have neL:∀b o,s₀.heap.get? b=some o→b∉frs outer→b∉frs (envOfC qual scope s₀.heap.objs.size f cdv::outer):=fun b o q hb z=>by
  rcases List.mem_cons.mp (show b∈s₀.heap.objs.size::frs outer from z) with z|z
  ·exact absurd (Heap.lt_size q) (by rw[z];exact Nat.lt_irrefl _)
  ·exact hb z
 have ne0:∀b o,s₀.heap.get? b=some o→b≠e:=fun b o q z=>by rw[z,hnew] at q;cases q
 have kb:(PySem.W.hideAll s.heap (e::frs (envOfC qual scope s₀.heap.objs.size f cdv::outer))).StaysIn s.heap:=fun b o q=>PySem.W.of_hideAll _ q
 have en:(PySem.W.hideAll s.heap (e::frs (envOfC qual scope s₀.heap.objs.size f cdv::outer))).get? e=none:=PySem.W.hideAll_none _ List.mem_cons_self
 show wpAny _ _ (leaving _ _) _ _ s
 unfold leaving
 refine wpAny_bind (RJ hfr hl rfl he kb en hd h1 fun g1 x1 x2 x3 x4=>?_)
 refine CZ (s:={s with heap:=g1}) x1 x2 x3 fun g2 y1 y2 y3 y4=>?_
 obtain⟨_,_,y2'⟩:=y2
 have mv:=x4.trans y4
 refine⟨e,oe.cls,oe.dict,H,_,rfl,⟨I.os,I.bare,y1,en,y2',y3,?_,⟨fun b o q n hb=>?_,fun b o q n hb=>?_,fun b o q n=>?_,fun b o q=>?_,I.base.tups,I.base.jm,I.base.jN⟩,hn,hnew⟩,hE⟩
 ·refine iG.sub I.hok fun b o u hu q=>hB b o q (fun z=>by rw[z,hn] at hu;cases hu) fun z=>?_
  have:=I.sZ b z
  rw[hu] at this
  cases this
 ·exact hB b o (I.base.keep b o q n hb (by simp[cA])) (ne0 b o q) (neL b o q hb)
 ·obtain⟨sl,q1⟩:=I.base.slot b o q n hb (by simp[cA])
  have nf:∀vs,o.data≠ .fields vs:=by
   obtain⟨_,o',q3,hn⟩:=st.mem (List.mem_cons_of_mem _ hb)
   rw[q1] at q3
   cases q3
   exact hn
  obtain⟨sl3,q3⟩:=mv.up b _ q1 nf
  exact⟨sl3,q3⟩
 ·exact I.base.free b o q n (by simp[cA])
 ·obtain⟨o1,q1⟩:=I.base.there b o q (by simp[cA])
  exact mv.there b o1 q1
end
end P
namespace P
open PySem PySem.Spec PyProof.Rows L2 M2 M3 M4
abbrev Et:List Value:=[.type "ValueError",.type "Exception",.type "BaseException",.type "object"]
abbrev RK:String:= "ValueError.__new__"
section
variable{K:PySem.W.Frag}{h:Heap}{C:Addr}{bmB:List Value}{newId:String}
theorem Yi(X:K.In h)(q:PySem.W.excIn K C bmB newId=true) :
 ∃bm N nm qn bs hd sn sub ab col dd k0 k1 k2 k3 k5 mN,h.get? C=some (excClassObj nm qn C N bs bm hd sn sub ab col dd k0 k1 k2 k3 k5 newId)∧h.Ns N mN∧mN "__init__" =none∧OwnTail h bmB bm:=by
 unfold PySem.W.excIn at q
 split at q
 case h_2=>cases q
 rename_i dd cd sl ho
 split at q
 case h_2=>cases q
 rename_i C1 bm k0 k1 k2 k3 n1 k5 e1 e2
 simp only[Bool.and_eq_true,beq_iff_eq,Bool.not_eq_true'] at q
 obtain⟨⟨⟨⟨⟨z1,z2⟩,z3⟩,z4⟩,z5⟩,z6⟩:=q
 subst z1 z2
 obtain⟨nm,bs,mro,ns,qn,hd,sn,sub,ab,col,del⟩:=cd
 dsimp only at e1 z3 z5 z6
 subst e1 z3
 obtain⟨sll⟩:=sl
 dsimp only at e2
 subst e2
 exact⟨bm,ns,nm,qn,bs,hd,sn,sub,ab,col,dd,k0,k1,k2,k3,k5,_,X _ _ ho,.of_isNs (PySem.W.isNs_of_in X z5),PySem.W.nsMap_none_of_in X z5 z6,PySem.W.tail_of_in X z4⟩
end
def C_(X:Cx)(E:L2.St→XK):Prop:=∀(pins:List (Addr×Obj)) (σ:L2.St) (H:Hp) (s:Shared) (e:Addr) (oe:Obj) (vs:Array Value),Inv X pins σ H s→s.heap.get? e=some oe→oe.data=.fields vs→vs[1]?=some .none→H e=none→
 X.s₀.heap.get? e=none→E σ oe.cls oe.dict H→X.xe (.ref e) s
theorem Dc{P:Program}{w:World}{K:PySem.W.Frag}{mg:Str→Option Value}{base:Heap}{N:List Str}{qual:Str}{scope:Scope}{f:Addr}{cdv:Value}{A:Around}{outer:List Env}{s₀:Shared}{H₀:Hp}{E:XK} :
 C_ (cA (ų P w) P w K mg base N qual scope f cdv A outer s₀ H₀ E) (fun _=>E):=fun _ _ _ _ _ _ _ I he hd h1 hn hnew hE=>Yh I he hd h1 hn hnew hE
def ug(C:String):M Fl:=fun ρ=>.exc ⟨C,[],[]⟩ ρ
section
variable{X:Cx}{cm:String→Addr}{E:L2.St→XK}{x:Str}{C:String}{np cpos pos:Pos}
theorem RL{P:Program}{w:World}{H:Hp}{h:Heap}{e:Addr}(k:iG P w H h)(q:h.get? e=none):H e=none:=by
 cases z:H e with
 |none=>rfl
 |some u=>
  obtain⟨o,ho⟩:=wu (k e u z)
  rw[q] at ho
  cases ho
theorem Inv.Zkx{pins:List (Addr×Obj)}{σ:L2.St}{H:Hp}{s:Shared}{e:Addr}(I:Inv X pins σ H s)(hex:X.ex=[])(q:s.heap.get? e=none):X.s₀.heap.get? e=none:=by
 cases z:X.s₀.heap.get? e with
 |none=>rfl
 |some o=>
  obtain⟨o1,q1⟩:=I.base.there e o z (by rw[hex];simp)
  rw[q] at q1
  cases q1
theorem wz(hc:X.calm=true)(hex:X.ex=[])(hr:C_ X E)(hg:Gl X x)(hm:X.mg x=some (.ref (cm C)))(q:PySem.W.excIn X.K (cm C) Et RK=true)(hdb:(x== ("__debug__" :Str))=false:=by decide) :
 PS X (.Raise (some (.Call (.Name x np) [] [] cpos)) none pos) (tS (kk X cm) E (ug C)):=by
 intro pins s σ H D I ⟨c,F,ρ,rel,h⟩
 obtain⟨bm,N,nm,qn,bs,hd,sn,sub,ab,col,dd,k0,k1,k2,k3,k5,mN,hC,hN,hni,T⟩:=Yi I.jM q
 refine wpAny_Raise_call_subT (C:=cm C) (nm:=nm) (q:=qn) (N:=N) (bs:=bs) (bm:=bm) (hdct:=hd) (sn:=sn) (sub:=sub) (ab:=ab) (col:=col) (dd:=dd) (k0:=k0) (k1:=k1) (k2:=k2) (k3:=k3) (k5:=k5)
  PySem.F.excBase_ValueError (mN:=mN) (T.hasType (by decide)) (I.ok.hd hc) rfl hni (mO I hg hm ⟨rfl,?_⟩ hdb)
 refine evalArgs_empty ⟨rfl,Nat.zero_le _,hC,hN,T,fun h' e hx=>?_⟩
 obtain⟨t,he,_,_⟩:=hx.there
 have I2:Inv X pins σ H {s with heap:=h'}:=I.kept (t':=s.toks) hx.keeps
 exact hr pins σ H _ e _ _ I2 he rfl rfl (RL I.hok hx.new) (Inv.Zkx I hex hx.new) (h σ _ _ F H rel (Same.refl _) ⟨rfl,[],.inl ⟨rfl,rfl⟩,rfl,Ī.nil⟩)
end
section
variable{M:Model}{A:Around}{E:Value→Shared→Prop}{s:Shared}{K:PySem.W.Frag}{e C D:Addr}{oe:Obj}{b:Bool}{Q:Bool→Shared→Prop}
end
section
variable{X:Cx}{pins:List (Addr×Obj)}{σ:L2.St}{H:Hp}{s:Shared}{xe:Value→Shared→Prop}
end
end P
namespace P
open PySem PySem.Spec PyProof.Rows L2 M2 M3 M4
abbrev MH:=PX→Ŗ→Res Fl
def RM(i:Nat)(yes no:List String)(mh:M Fl)(rest:MH):MH:=fun x ρ=>if yes.contains x.C=true then(match mh (ρ.set i (.sh (.xc x.C x.ns x.ps))) with
 | .ok f ρ2=>.ok f (ρ2.set i .no)
 |_=>.bad) else if no.contains x.C=true then rest x ρ else .bad
def Zc2(yes no:List String)(mh:M Fl)(rest:MH):MH:=fun x ρ=>if yes.contains x.C=true then(match mh ρ with
 | .ok f ρ2=>.ok f ρ2
 |_=>.bad) else if no.contains x.C=true then rest x ρ else .bad
def Zky(mb:M Fl)(mh:MH):M Fl:=fun ρ=>match mb ρ with
 | .exc x ρ1=>mh x ρ1
 |r=>r
section
variable{X:Cx}{cm:String→Addr}{E:L2.St→XK}{pins:List (Addr×Obj)}{σ:L2.St}{H Hc:Hp}{s sc:Shared}{ea:Addr}{C:Value}{d:Option Addr}{B:Heap}
variable{y n:Str}{Dn:String}{i:Nat}{yp hpos:Pos}{b₀:Stmt}{suite:List Stmt}{rest:List ExceptHandler}{yes no:List String}{mh:M Fl}{mr:MH}
end
end P
namespace P
open PySem PySem.Spec PyProof.Rows L2 M2 M3 M4 Builtin Builtin.ObjectAttr
def dw(K:PySem.W.Frag)(C:Addr):Bool:=match K.lookup C with
 |some ⟨.type "type",_,.cls cd,sl⟩=>(match cd.mro,sl.toList with
  | .ref C'::bm,[_,_,_,_,some (.builtin n),_]=>C'== C && n== RK && !cd.hasDel && cd.hasDict && PySem.W.tailIn K Et bm && PySem.W.findIn K (.ref C) "__setattr__" == some (some (.builtin "object.__setattr__")) &&
      PySem.W.findIn K (.ref C) "__getattribute__" == some (some (.builtin "BaseException.__getattribute__")) && PySem.W.findIn K (.ref C) "__getattr__" == some none
  |_,_=>false)
 |_=>false
structure H_(K:PySem.W.Frag)(C:Addr)(cd:ClassData)(bm:List Value):Prop where
 at_:∃dd k0 k1 k2 k3 k5,K.lookup C=some ⟨.type "type",dd,.cls cd,#[k0,k1,k2,k3,some (.builtin RK),k5]⟩
 mro:cd.mro=.ref C::bm
 del:cd.hasDel=false
 dict:cd.hasDict=true
 tail:PySem.W.tailIn K Et bm=true
 sa:PySem.W.findIn K (.ref C) "__setattr__" =some (some (.builtin "object.__setattr__"))
 ga:PySem.W.findIn K (.ref C) "__getattribute__" =some (some (.builtin "BaseException.__getattribute__"))
 gg:PySem.W.findIn K (.ref C) "__getattr__" =some none
theorem uh{K:PySem.W.Frag}{C:Addr}(q:dw K C=true):∃cd bm,H_ K C cd bm:=by
 unfold dw at q
 split at q
 case h_2=>cases q
 rename_i dd cd sl ho
 split at q
 case h_2=>cases q
 rename_i C1 bm k0 k1 k2 k3 n1 k5 e1 e2
 simp only[Bool.and_eq_true,beq_iff_eq,Bool.not_eq_true'] at q
 obtain⟨⟨⟨⟨⟨⟨⟨z1,z2⟩,z3⟩,z4⟩,z5⟩,z6⟩,z7⟩,z8⟩:=q
 subst z1 z2
 obtain⟨sll⟩:=sl
 dsimp only at e2
 subst e2
 exact⟨cd,bm,⟨dd,k0,k1,k2,k3,k5,ho⟩,e1,z3,z4,z5,z6,z7,z8⟩
section
variable{K:PySem.W.Frag}{h:Heap}{C:Addr}{cd:ClassData}{bm:List Value}
theorem H_.cls(x:H_ K C cd bm):PySem.W.clsIn K C=some cd:=by
 obtain⟨_,_,_,_,_,_,e⟩:=x.at_
 unfold PySem.W.clsIn
 rw[e]
theorem wA{T:String}(hT:Et.contains (.type T)=true):∀{l:List Value},PySem.W.tailIn K Et l=true→l.contains (.type T)=true
 | [],e=>by cases(show(Et== [])=true from e)
 |v::r,e=>by
  unfold PySem.W.tailIn at e
  rcases Bool.or_eq_true_iff.mp e with q|q
  ·rw[beq_iff_eq.mp q];exact hT
  ·split at q
   ·split at q
    ·simp only[Bool.and_eq_true,beq_iff_eq] at q
     rw[List.contains_cons,wA hT q.2,Bool.or_true]
    ·cases q
   ·cases q
theorem H_.mroIs(x:H_ K C cd bm){T:String}(hT:Et.contains (.type T)=true):PySem.W.mroIn K C (.type T)=some true:=by
 unfold PySem.W.mroIn
 rw[x.cls,Option.bind_some,if_neg (by rw[x.mro];simp),x.mro,List.contains_cons,wA hT x.tail,Bool.or_true]
end
section
variable{prog:Program}{w:World}{A:Around}{E:Value→Shared→Prop}{h:Heap}{g:Array GenState}{d:Drawn}{t:Nat}{os:OsState}
variable{nm q:Str}{C N:Addr}{bs bm bmB:List Value}{hdct:Bool}{sn:List Str}{sub:List Value}{ab:Bool}{col:Option Bool}{dd:Option Addr}{k0 k1 k2 k3 k5:Option Value}{B newId initId:String}
end
section
variable{prog:Program}{w:World}{A:Around}{E:Value→Shared→Prop}{s:Shared}{K:PySem.W.Frag}{x C:Addr}{cd:ClassData}{bm:List Value}{ox:Obj}{od:Option Obj}{name:Str}{v:Value}
end
end P
namespace P
open PySem PySem.Spec PyProof.Rows L2 M2 M3 M4
section
variable{X:Cx}{pins:List (Addr×Obj)}{σ:L2.St}{H:Hp}{s:Shared}{a C:Addr}{cd:ClassData}{bm:List Value}{d:Option Addr}{fs:List (Str×V)}{f:Str}{y:V}{u:Value}{A:Around}{E:Value→Shared→Prop}
variable{o value:Expr}{pos pos':Pos}{j:Nat}{ss:List Stmt}{r:List (Str×Nat)}
end
section
variable{P:Program}{w:World}{K:PySem.W.Frag}{mg:Str→Option Value}{base:Heap}{CX:pZ}
end
def xiP:List (Str×Nat)→List PV→List Str→List PV→Option (List Str×List PV)
 | [],_,ns,qs=>some (ns,qs)
 |(_,0)::_,_,_,_=>none
 |(f,j+1)::r,ps,ns,qs=>match ps[j]? with
  |some p=>xiP r ps (putN f ns) (wj f p ns qs)
  |none=>none
def Yj(C:String)(n:Nat)(fl:List (Str×Nat))(ms:M (List PV)):M PV:=fun ρ=>(ms ρ).bind fun ps ρ1=>if ps.length+1=n∧ps.length<1000∧fl.length<1000 then(match xiP fl ps [] [] with
 |some (ns,qs)=>.ok (.xc C ns qs) ρ1
 |none=>.bad) else .bad
def RN(C:String)(n:Nat)(fl:List (Str×Nat))(ms:M (List PV)):M Fl:=fun ρ=>(ms ρ).bind fun ps ρ1=>if ps.length+1=n∧ps.length<1000∧fl.length<1000 then(match xiP fl ps [] [] with
 |some (ns,qs)=>.exc ⟨C,ns,qs⟩ ρ1
 |none=>.bad) else .bad
section
variable{X:Cx}{cm:String→Addr}{E:L2.St→XK}{e:Expr}{es:List Expr}{pos p:Pos}{CX:pZ}{k n:Nat}{f:Addr}{fd:FuncData}{ps:List Str}{C:String}{fl:List (Str×Nat)}{ms:M (List PV)}{x:Str}
def RP(C:String):M PV:=fun ρ=>.ok (.xc C [] []) ρ
end
section
variable{M:Model}{A:Around}{E:Value→Shared→Prop}{s:Shared}{K:PySem.W.Frag}{env:Env}
end
section
variable{X:Cx}{cm:String→Addr}{E:L2.St→XK}{e:Expr}{es:List Expr}{pos cpos np:Pos}{CX:pZ}{k n:Nat}{f:Addr}{fd:FuncData}{ps:List Str}{C:String}{fl:List (Str×Nat)}{ms:M (List PV)}{x:Str}
end
end P
namespace P
open PySem PySem.Spec PyProof.Rows L2 M2 M3 M4 Builtin Builtin.ObjectAttr
def cZ(K:PySem.W.Frag)(C:Addr):Bool:=dw K C && PySem.W.findIn K (.ref C) "__class__" == some (some (.builtin "object.__class__")) && PySem.W.specialIn K (.builtin "object.__class__") "__get__" == some (some (.builtin "getset_descriptor.__get__")) && PySem.W.takesIn K (.builtin "object.__class__")== some true
theorem nZ{K:PySem.W.Frag}{C:Addr}(q:cZ K C=true):dw K C=true∧PySem.W.findIn K (.ref C) "__class__" =some (some (.builtin "object.__class__"))∧PySem.W.specialIn K (.builtin "object.__class__") "__get__" =some (some (.builtin "getset_descriptor.__get__"))∧PySem.W.takesIn K (.builtin "object.__class__")=some true:=by
 unfold cZ at q
 simp only[Bool.and_eq_true,beq_iff_eq] at q
 obtain⟨⟨⟨z1,z2⟩,z3⟩,z4⟩:=q
 exact⟨z1,z2,z3,z4⟩
section
variable{prog:Program}{w:World}{A:Around}{E:Value→Shared→Prop}{s:Shared}{K:PySem.W.Frag}{x C:Addr}{ox:Obj}{od:Option Obj}
theorem RQ{R:Result→Shared→Prop}{tk:Tok}(X:K.In s.heap)(I:PySem.W.InstAt s.heap x ox C od)(q:cZ K C=true)
 (h:R (.ok (.ret (.ref C))) s):codeAny (model prog w) A (.call (.builtin "BaseException.__getattribute__") ⟨[.ref x,.str "__class__" tk],[]⟩) R s:=by
 obtain⟨q0,q1,q2,q3⟩:=nZ q
 obtain⟨cd,bm,c⟩:=uh q0
 have hk:builtinKind "BaseException.__getattribute__" =some .slot:=by decide +kernel
 have hsplit:splitId "BaseException.__getattribute__" =some ("BaseException","__getattribute__"):=by decide +kernel
 have L0:=I.type (M:=model prog w)
 have hf:PySem.W.findObj K C od "__class__" =some (.bind (.builtin "getset_descriptor.__get__") (.builtin "object.__class__")):=by
  unfold PySem.W.findObj
  rw[c.cls,Option.bind_some,q1,Option.bind_some]
  simp[q2,q3]
 have L3:=PySem.W.looks_find (M:=model prog w) X I hf
 have hsub:PySem.W.Looks (model prog w) s.heap (isInstance (.ref x) (.type "BaseException")) true:=L0.andThen (PySem.W.looks_mroIn X (c.mroIs (by decide)))
 refine codeAny_call_builtin PySem.F.attrBase_ValueError.ga.plain PySem.F.entry_bexc_ga (@PySem.W.check_slot (model prog w) _ _ s "BaseException.__getattribute__" "BaseException" "__getattribute__" (.ref x) [.str "__class__" tk] [] _ hk hsplit hsub (PySem.F.args_bexc_ga (.ref x) (.str "__class__" tk)) ?_)
 unfold Builtin.«object.__getattribute__»
 refine wpAny_bind (wpAny_pure (wpAny_bind (wpAny_pure (wpAny_bind (L0.here (wpAny_bind (L3.here ?_)))))))
 refine wpAny_bind (wpAny_holding (wpAny_call (PySem.W.class_get X I (c.mroIs (by decide)) ?_)))
 exact wpAny_pure h
theorem Ia{Q:Option Value→Shared→Prop}(X:K.In s.heap)(I:PySem.W.InstAt s.heap x ox C od)(q:cZ K C=true)
 (h:Q (some (.ref C)) {s with toks:=s.toks+1}):wpAny (model prog w) A (getAttr? (.ref x) "__class__") Q E s:=by
 obtain⟨q0,q1,q2,q3⟩:=nZ q
 obtain⟨cd,bm,c⟩:=uh q0
 have FB:=PySem.F.attrBase_ValueError
 obtain⟨hp,g,d,t,os⟩:=s
 have L0:=I.type (M:=model prog w)
 have L1:=PySem.W.looks_findIn (M:=model prog w) X c.ga
 have L2:=PySem.W.looks_findIn (M:=model prog w) X c.gg
 unfold getAttr? getAttrBy? getAttrBy
 refine wpAny_bind (wpAny_mkText (wpAny_bind (wpAny_attempt (wpAny_holding (wpAny_bind (L0.at (wpAny_bind (L1.at ?_))))))))
 show wpAny _ _ (getAttrByItsOwn _ _ _ _ _ _) _ _ _
 have f3:=FB.ga.bind (.ref x)
 unfold getAttrByItsOwn hookBefore callGetattribute
 refine wpAny_bind (L2.at ?_)
 refine wpAny_bind (wpAny_attempt (wpAny_holding ?_))
 rw[if_neg (by decide)]
 unfold boundAndCalled
 rw[f3]
 refine wpAny_bind (wpAny_pure (wpAny_call ?_))
 exact RQ (s:=⟨hp,g,d,t+1,os⟩) X I q (show wpAny _ _ (handedOut (.ref C)) _ _ _ by rw[PySem.W.handedOut_of rfl];exact wpAny_pure (wpAny_pure h))
end
theorem Ib{K:PySem.W.Frag}{x D:Addr}(q:cZ K D=true):PySem.W.KitX K (.ref x) (.ref D) (fun h=>∃ox od,PySem.W.InstAt h x ox D od):=by
 obtain⟨q0,q1,q2,q3⟩:=nZ q
 obtain⟨cd,bm,c⟩:=uh q0
 obtain⟨dd,k0,k1,k2,k3,k5,lC⟩:=c.at_
 refine⟨fun _ _ _ ⟨ox,od,I⟩=>I.type,fun _ _ X _=>?_,fun h tp dd its n sl X htp=>?_,fun X ⟨ox,od,I⟩ k=>Ia X I q k⟩
 ·intro A' Q' E' s' k q
  unfold isType loadHead
  exact wpAny_bind (wpAny_loadPart (k _ _ (X _ _ lC)) (wpAny_pure q))
 ·refine Bool.eq_false_iff.mpr fun q=>?_
  have e:D=tp:=Value.ref.inj (beq_iff_eq.mp q)
  subst e
  have z:=congrArg Obj.cls (Option.some.inj ((X _ _ lC).symm.trans htp))
  exact absurd (Value.type.inj z) (by decide)
section
variable{X:Cx}{cm:String→Addr}{K:KK}
def Ue(K:PySem.W.Frag):List V→Hp→VK→Prop:=fun xs H Q=>CP K xs H Q∨∃a C d fs c cv b,xs=[.ref a,c]∧RelV c cv∧(∀u,RelV c u→u=cv)∧H a=some (xo a C d)∧qO H d fs∧cZ K C=true∧PySem.W.kitOne K (.ref C) cv=some b∧Q (.bl b) H
theorem gY:Ŭ X (.builtin "isinstance") (Ue X.K):=by
 intro pins s σ H xs us Q I r h
 rcases h with h|⟨a,C,d,fs,c,cv,b,rfl,rc,uq,ha,hD,q,hk,hQ⟩
 ·exact X_ pins s σ H xs us Q I r h
 ·obtain⟨u,w',rfl,r1,r2⟩:=vals2 r
  cases(show u=Value.ref a from r1)
  rw[uq w' r2]
  obtain⟨⟨o,ws,ho,hcl,hdi,hda⟩,_,_⟩:=(show aA X.prog X.w H s.heap a (xo a C d) from I.hok a _ ha)
  obtain⟨ocls,odict,odata,osl⟩:=o
  dsimp only at hcl hdi hda
  subst hcl hdi hda
  have J:∃ox od,PySem.W.InstAt s.heap a ox C od:=by
   rcases hD with⟨rfl,_⟩|⟨d0,rfl,z⟩
   ·exact⟨_,none,ho,rfl,rfl,trivial⟩
   ·obtain⟨od,z'⟩:=wu (I.hok d0 _ z)
    exact⟨_,some od,ho,rfl,rfl,z'⟩
  exact PySem.W.kia_one (Ib q) I.jM J hk (fun z=>nomatch z) fun tk=>⟨.bl b,H,I.tok _,rfl,hQ⟩
def um(Q:String→String→Bool→Prop):List ((String×String)×Bool)→Prop
 | []=>True
 |((c,d),b)::r=>Q c d b∧um Q r
theorem um.get{Q:String→String→Bool→Prop}:∀{t:List ((String×String)×Bool)} {c d:String} {b:Bool},um Q t→t.lookup (c,d)=some b→Q c d b
 | [],_,_,_,_,h=>by simp at h
 |((c',d'),b')::r,c,d,b,⟨h1,h2⟩,h=>by
  rw[List.lookup_cons] at h
  cases e:(c,d)== (c',d') with
  |true=>
   rw[e] at h
   cases h
   obtain⟨rfl,rfl⟩:=Prod.mk.inj (beq_iff_eq.mp e)
   exact h1
  |false=>
   rw[e] at h
   exact h2.get h
def fK(tc tt:List ((String×String)×Bool))(ds nt:List String):List PV→Option PV
 | [.xc C _ _,.cls D]=>(tc.lookup (C,D)).map .bl
 | [.xc C _ _,.ty D]=>(tt.lookup (C,D)).map .bl
 | [.non,.cls D]=>if ds.contains D=true then some (.bl false) else none
 | [.non,.ty D]=>if nt.contains D=true then some (.bl false) else HB [.non,.ty D]
 |ps=>HB ps
theorem gZ{tc tt:List ((String×String)×Bool)}{ds nt:List String}(hc:um (fun C D b=>cZ K.K (K.cm C)=true∧PySem.W.kitOne K.K (.ref (K.cm C)) (.ref (K.cm D))=some b) tc)
 (ht:um (fun C D b=>cZ K.K (K.cm C)=true∧PySem.W.kitOne K.K (.ref (K.cm C)) (.type D)=some b) tt)(hd:nU (fun D=>PySem.W.kitOne K.K (.type "NoneType") (.ref (K.cm D))=some false) ds)
 (hn:nU (fun D=>PySem.W.kitOne K.K (.type "NoneType") (.type D)=some false) nt):dJ K (Ue K.K) (fK tc tt ds nt):=by
 intro c F H σ ρ ps pv vs Q rel r e k
 unfold fK at e
 split at e
 ·rename_i C ns qs D
  obtain⟨v,u,rfl,r1,r2⟩:=XS r
  cases eb:tc.lookup (C,D) with
  |none=>rw[eb] at e;cases e
  |some b=>
   rw[eb] at e
   cases e
   obtain⟨k1,k2⟩:=hc.get eb
   have r1':Rep K F (.xc C ns qs) v:=by rcases r1 with q|q;exact q;exact q.elim
   have r2':Rep K F (.cls D) u:=by rcases r2 with q|q;exact q;exact q.elim
   unfold Rep at r1' r2'
   obtain⟨a,d,fs,rfl,q2,q3,q4,q5⟩:=r1'
   subst r2'
   exact .inr ⟨a,_,d,fs,_,.ref (K.cm D),b,rfl,rfl,fun u z=>z,rel.sub _ _ q2,q3.same rel.sub,k1,k2,k _ F H rel (Same.refl _) (Same.refl _) Rep.bl⟩
 ·rename_i C ns qs D
  obtain⟨v,u,rfl,r1,r2⟩:=XS r
  cases eb:tt.lookup (C,D) with
  |none=>rw[eb] at e;cases e
  |some b=>
   rw[eb] at e
   cases e
   obtain⟨k1,k2⟩:=ht.get eb
   have r1':Rep K F (.xc C ns qs) v:=by rcases r1 with q|q;exact q;exact q.elim
   have r2':Rep K F (.ty D) u:=by rcases r2 with q|q;exact q;exact q.elim
   unfold Rep at r1' r2'
   obtain⟨a,d,fs,rfl,q2,q3,q4,q5⟩:=r1'
   subst r2'
   exact .inr ⟨a,_,d,fs,_,.type D,b,rfl,rfl,fun u z=>z,rel.sub _ _ q2,q3.same rel.sub,k1,k2,k _ F H rel (Same.refl _) (Same.refl _) Rep.bl⟩
 ·rename_i D
  obtain⟨v,u,rfl,r1,r2⟩:=XS r
  split at e
  ·rename_i hD
   cases e
   cases r1.non
   have r2':Rep K F (.cls D) u:=by rcases r2 with q|q;exact q;exact q.elim
   unfold Rep at r2'
   subst r2'
   exact .inl ⟨_,false,rfl,hd.get hD,k _ F H rel (Same.refl _) (Same.refl _) Rep.bl⟩
  ·cases e
 ·rename_i D
  split at e
  ·rename_i hD
   obtain⟨v,u,rfl,r1,r2⟩:=XS r
   cases e
   cases r1.non
   cases r2.ty
   exact .inl ⟨_,false,rfl,hn.get hD,k _ F H rel (Same.refl _) (Same.refl _) Rep.bl⟩
  ·exact .inl (HD rel r e k)
 ·exact .inl (HD rel r e k)
end
def isC(K:PySem.W.Frag)(cm:String→Addr):List ((String×String)×Bool)→Bool
 | []=>true
 |((c,d),b)::r=>cZ K (cm c) && PySem.W.kitOne K (.ref (cm c)) (.ref (cm d))== some b && isC K cm r
theorem Ie{K:PySem.W.Frag}{cm:String→Addr}:∀{t:List ((String×String)×Bool)},isC K cm t=true→um (fun C D b=>cZ K (cm C)=true∧PySem.W.kitOne K (.ref (cm C)) (.ref (cm D))=some b) t
 | [],_=>trivial
 |((c,d),b)::r,h=>by
  unfold isC at h
  rw[Bool.and_eq_true,Bool.and_eq_true] at h
  exact⟨⟨h.1.1,beq_iff_eq.mp h.1.2⟩,Ie h.2⟩
def isT(K:PySem.W.Frag)(cm:String→Addr):List ((String×String)×Bool)→Bool
 | []=>true
 |((c,d),b)::r=>cZ K (cm c) && PySem.W.kitOne K (.ref (cm c)) (.type d)== some b && isT K cm r
theorem Ig{K:PySem.W.Frag}{cm:String→Addr}:∀{t:List ((String×String)×Bool)},isT K cm t=true→um (fun C D b=>cZ K (cm C)=true∧PySem.W.kitOne K (.ref (cm C)) (.type D)=some b) t
 | [],_=>trivial
 |((c,d),b)::r,h=>by
  unfold isT at h
  rw[Bool.and_eq_true,Bool.and_eq_true] at h
  exact⟨⟨h.1.1,beq_iff_eq.mp h.1.2⟩,Ig h.2⟩
def isD(K:PySem.W.Frag)(cm:String→Addr):List String→Bool
 | []=>true
 |d::r=>PySem.W.kitOne K (.type "NoneType") (.ref (cm d))== some false && isD K cm r
theorem Ih{K:PySem.W.Frag}{cm:String→Addr}:∀{t:List String},isD K cm t=true→nU (fun D=>PySem.W.kitOne K (.type "NoneType") (.ref (cm D))=some false) t
 | [],_=>trivial
 |d::r,h=>by
  unfold isD at h
  rw[Bool.and_eq_true] at h
  exact⟨beq_iff_eq.mp h.1,Ih h.2⟩
def RT(K:PySem.W.Frag):List String→Bool
 | []=>true
 |d::r=>PySem.W.kitOne K (.type "NoneType") (.type d)== some false && RT K r
theorem Dd{K:PySem.W.Frag}:∀{t:List String},RT K t=true→nU (fun D=>PySem.W.kitOne K (.type "NoneType") (.type D)=some false) t
 | [],_=>trivial
 |d::r,h=>by
  unfold RT at h
  rw[Bool.and_eq_true] at h
  exact⟨beq_iff_eq.mp h.1,Dd h.2⟩
theorem Eu{l:PySem.W.OpenLaw}{k:Nat}{x:Str}{m:MF}{q:Program}{loose:List Str}{XP:(Str→Option Value)→Heap→Prop}{YP:World→Heap→Prop}{d:DefRec}{K:Params→PySem.W.Frag}(hn:l.most=some 63)(hdf:d.params.defaults=[])(hr:bM k callerA)
 (hY:∀(w:World) (h:Heap),YP w h→(K w.params).In h)
 (F:∀(w:World) (mg:Str→Option Value) (fa:Addr) (h:Heap),(K w.params).In h→h.Ns mainGlobals mg→mg d.name=some (.ref fa)→
   ∃fd:FuncData,(∀(s:Shared) (u:Value),BindsTo s fd ⟨[u],[]⟩ [(x,u)])∧∀base:Heap,(K w.params).In base→base.Ns mainGlobals mg→∃cm,Ķ l.prog w (K w.params) mg base (ų l.prog w) k fa fd [x] (ż ⟨K w.params,cm⟩ 1 m))
 (ht:∀ns:List Int,ns.length≤63→m [.sh (.lst (ns.map .int))]=.ret (.sh (.bl true))) :
 PySem.W.WalkO q loose XP YP l.row.toRowW d [] (fun f vs=>PySem.call f vs):=by
 refine L2.QJ (n:=63) (k:=k) (x:=x) (CX:=fun w=>ų l.prog w) (sp:=fun w=>ZcR (K w.params)) hn (by decide) hdf hr hY (fun w mg fa h h1 h2 h3=>?_) (fun w H a ns hl _ hS=>⟨a,ns,rfl,hS,hl,fun _ _ z=>z⟩) fun w H s e s' z=>qY z
 obtain⟨fd,hb,hF⟩:=F w mg fa h h1 h2 h3
 refine⟨fd,hb,fun base k1 k2=>?_⟩
 obtain⟨cm,G⟩:=hF base k1 k2
 refine G.imp fun vs H Q E hs=>?_
 obtain⟨sa,ns,rfl,hS,hl,hq⟩:=hs
 refine⟨H,[.sh (.lst (ns.map .int))],rfl,Same.refl _,.cons ?_ .nil,?_⟩
 ·show Rep _ _ _ _
  unfold Rep
  exact⟨sa,_,rfl,hS,vZ ns⟩
 ·rw[ht ns hl]
  intro v F' H' g rf
  have e:v=.bl true:=tX (K:=⟨K w.params,cm⟩) (F:=F') rf
  exact hq v H' e
section
variable{ρ:Ŗ}{C:String}{n i:Nat}{fl:List (Str×Nat)}{ms:M (List PV)}{mb mh:M Fl}{mr:MH}{yes no:List String}{x:PX}
@[simp] theorem Zc3:ug C ρ=.exc ⟨C,[],[]⟩ ρ:= rfl
@[simp] theorem Zb8:RP C ρ=.ok (.xc C [] []) ρ:= rfl
@[simp] theorem Zc4:Yj C n fl ms ρ=(ms ρ).bind fun ps ρ1=>if ps.length+1=n∧ps.length<1000∧fl.length<1000 then(match xiP fl ps [] [] with
  |some (ns,qs)=>.ok (.xc C ns qs) ρ1
  |none=>.bad) else .bad:=rfl
@[simp] theorem Zb9:RN C n fl ms ρ=(ms ρ).bind fun ps ρ1=>if ps.length+1=n∧ps.length<1000∧fl.length<1000 then(match xiP fl ps [] [] with
  |some (ns,qs)=>.exc ⟨C,ns,qs⟩ ρ1
  |none=>.bad) else .bad:=rfl
@[simp] theorem Zkz:Zky mb mr ρ=(match mb ρ with
  | .exc x ρ1=>mr x ρ1
  |r=>r):=rfl
@[simp] theorem ZkA:RM i yes no mh mr x ρ=(if yes.contains x.C=true then(match mh (ρ.set i (.sh (.xc x.C x.ns x.ps))) with
  | .ok f ρ2=>.ok f (ρ2.set i .no)
  |_=>.bad) else if no.contains x.C=true then mr x ρ else .bad):=rfl
end
end P
namespace P
open PySem PySem.Spec PyProof.Rows L2 M2 M3 M4
section
variable{X:Cx}{cm:String→Addr}{E:L2.St→XK}{y:Str}{Dn:String}{yp hpos:Pos}{b₀:Stmt}{suite:List Stmt}{rest:List ExceptHandler}{yes no:List String}{mh:M Fl}{mr:MH}
@[simp] theorem ZkB{ρ:Ŗ}{x:PX}:Zc2 yes no mh mr x ρ=(if yes.contains x.C=true then(match mh ρ with
  | .ok f ρ2=>.ok f ρ2
  |_=>.bad) else if no.contains x.C=true then mr x ρ else .bad):=rfl
end
end P
namespace P
open PySem PySem.Spec PyProof.Rows L2 M2 M3 M4
section
variable{X:Cx}{cm:String→Addr}{K:KK}
def Ug:List V→Hp→VK→Prop:=fun xs H Q=>(∃i,xs=[.int i]∧Q (.int i) H)∨∃k,xs=[.bl k]∧Q (.int (if k then 1 else 0)) H
theorem Ii:Ŭ X (.type "int") Ug:=Eb
def Ew:List PV→Option PV
 | [.int i]=>some (.int i)
 | [.bl k]=>some (.int (if k then 1 else 0))
 |_=>none
theorem Ij:dJ K Ug Ew:=by
 intro c F H σ ρ ps pv vs Q rel r e k
 unfold Ew at e
 split at e
 ·cases e
  obtain⟨v,rfl,r1⟩:=zL r
  cases r1.int
  exact .inl ⟨_,rfl,k _ F H rel (Same.refl _) (Same.refl _) Rep.int⟩
 ·cases e
  obtain⟨v,rfl,r1⟩:=zL r
  cases r1.bl
  exact .inr ⟨_,rfl,k _ F H rel (Same.refl _) (Same.refl _) Rep.int⟩
 ·cases e
def ZkC:List PV→Option PV
 | [.int i]=>if i.natAbs.log2<1920 then some (.str (toString i)) else none
 |_=>none
def ZkD:List PV→Option PV
 | [.str x]=>if x.length=1 then some (.int (x.cps.getD 0 0:Nat)) else none
 |_=>none
theorem aP:∀{ns:List Int} {its:List Value},Vals (ns.map V.int) its→IntsAre its ns
 | [],its,h=>by cases h;exact .nil
 |n::ns,its,h=>by
  cases h with
  |cons r t=>
   obtain⟨k,e⟩:=(show ∃k,_=Value.int n k from r)
   subst e
   exact .cons n k (aP t)
def Zc5(K:PySem.W.Frag):List V→Hp→VK→Prop:=fun xs H Q=>∃(p:Addr) (ns:List Int),xs=[.ref p]∧aG K H p (ns.map V.int)∧Q (.int ns.sum) H
theorem zN(hc:X.calm=true):Ŭ X (.builtin "sum") (Zc5 X.K):=by
 intro pins s σ H xs us Q I r h
 obtain⟨p,ns,rfl,hS,q⟩:=h
 obtain⟨u,rfl,ru⟩:=vals1 r
 cases ru
 obtain⟨its,rv,pl,hz⟩:=I.list hS
 have hi:=aP rv
 obtain⟨ys,e⟩:=hi.allInts.items
 have hns:ns=ys.toList.map (·.1):=by rw[←hi.numsOf,←nums_intItems,←e]
 have hl:=pl.isList
 rw[e] at hl
 refine sum_intListG (show X.A.handled=none from I.ok.hd hc) hl fun h' tk t' hk=>?_
 refine⟨.int ns.sum,H,I.kept hk,⟨t',?_⟩,q⟩
 rw[preSum_eq,List.take_of_length_le (by simp),←hns]
section
variable{prog:Program}{w:World}{A:Around}{E:Value→Shared→Prop}{s:Shared}{l:Addr}{xs:Array (Int×Tok)}
theorem wB{Q:Value→Shared→Prop}(hl:s.heap.IsTuple l (intItems xs))
 (h:∀s₂:Shared,s₂= {s with heap:=s.heap.push {cls:=.type "tuple_iterator",data:=.fields #[.ref l,.int 0 0]}}→
   (s₂.heap.IsTupleIter s.heap.objs.size l 0∧s₂.heap.IsTuple l (intItems xs))→(∀b∈[s.heap.objs.size,l],b<s₂.heap.objs.size)→l≠s.heap.objs.size→(∀h':Heap,(∀b o,b∉[s.heap.objs.size]→s₂.heap.get? b=some o→h'.get? b=some o)→∀b o,s.heap.get? b=some o→h'.get? b=some o)→Q (.ref s.heap.objs.size) s₂) :
 wpAny (model prog w) A (pyIter (.ref l)) Q E s:=by
 have hlt:l<s.heap.objs.size:=by obtain⟨_,e,_⟩:=hl;exact Heap.lt_size e
 refine wpAny_pyIter_tuple hl (h _ rfl ⟨⟨_,Heap.get?_push_size _ rfl,rfl,rfl⟩,hl.push _⟩ (fun b hb=>?_) (Nat.ne_of_lt hlt) fun h' hk b o e=>?_)
 ·show b<(s.heap.push _).objs.size
  rw[Heap.size_push]
  rcases List.mem_cons.mp hb with rfl|hb
  ·exact Nat.lt_succ_self _
  ·rcases List.mem_cons.mp hb with rfl|hb
   ·exact Nat.lt_succ_of_lt hlt
   ·cases hb
 ·refine hk b o (fun hm=>?_) (Heap.get?_push_of_some _ e)
  rcases List.mem_cons.mp hm with e1|hm
  ·exact absurd (e1▸Heap.lt_size e) (Nat.lt_irrefl _)
  ·cases hm
theorem zO{Q:Value→Shared→Prop}(hh:A.handled=none)(hl:s.heap.IsTuple l (intItems xs))(hne:0<xs.size)
 (h:∀v h' tk,(intItems xs)[argBest (fun i j=>decide (numAt xs i>numAt xs j)) (xs.size-1)]?=some v→(∀b o,s.heap.get? b=some o→h'.get? b=some o)→Q v {s with heap:=h',toks:=tk}) :
 wpAny (model prog w) A (call (.builtin "max") [.ref l]) Q E s:=by
 refine call_max_walk (wB hl fun s₂ e st hfp hlI hk0=>?_)
 subst e
 refine⟨_,_,_,_,_,_,_,rfl,Walks.tuple (A:=A.in1) hh _ l hlI (intItems xs),st,hfp,by simpa[intItems] using hne,CmpOf.ints_gt (numAt xs) (fun _ _=>intItems_at),fun v h' tk hP hk=>?_⟩
 exact h v h' tk (by simpa[intItems] using hP) (hk0 h' hk)
end
def Zc6(K:PySem.W.Frag):List V→Hp→VK→Prop:=fun xs H Q=>∃(p:Addr) (ns:List Int),xs=[.ref p]∧(aG K H p (ns.map V.int)∨dF K H p (ns.map V.int))∧0<ns.length∧∀M,M∈ns→(∀a∈ns,a≤M)→Q (.int M) H
theorem zP(hc:X.calm=true):Ŭ X (.builtin "max") (Zc6 X.K):=by
 intro pins s σ H xs us Q I r h
 obtain⟨p,ns,rfl,hS,hne,q⟩:=h
 obtain⟨u,rfl,ru⟩:=vals1 r
 cases ru
 have fin:∀(ys:Array (Int×Tok)),ns=ys.toList.map (·.1)→0<ys.size→∀v h' tk,(intItems ys)[argBest (fun i j=>decide (numAt ys i>numAt ys j)) (ys.size-1)]?=some v→(∀b o,s.heap.get? b=some o→h'.get? b=some o)→EP X pins σ Q v {s with heap:=h',toks:=tk}:=by
  intro ys hns hsz v h' tk hv hk
  obtain⟨t,rfl⟩:=intItems_at hv
  obtain⟨h1,h2⟩:=argBest_gt (numAt ys) (ys.size-1)
  refine⟨.int _,H,I.kept hk,⟨t,rfl⟩,q _ ?_ fun a ha=>?_⟩
  ·rw[hns,numAt_eq]
   have hj:argBest (fun i j=>decide (numAt ys i>numAt ys j)) (ys.size-1)<(ys.toList.map (·.1)).length:=by rw[List.length_map,Array.length_toList];omega
   rw[List.getD_eq_getElem?_getD,List.getElem?_eq_getElem hj]
   exact List.getElem_mem _
  ·rw[hns] at ha
   obtain⟨j,hj,rfl⟩:=List.mem_iff_getElem.mp ha
   rw[List.length_map,Array.length_toList] at hj
   have:=h2 j (by omega)
   rw[numAt_eq ys j,List.getD_eq_getElem?_getD,List.getElem?_eq_getElem (by rw[List.length_map,Array.length_toList];exact hj)] at this
   exact this
 rcases hS with hS|hS
 ·obtain⟨its,rv,pl,hz⟩:=I.list hS
  have hi:=aP rv
  obtain⟨ys,e⟩:=hi.allInts.items
  have hns:ns=ys.toList.map (·.1):=by rw[←hi.numsOf,←nums_intItems,←e]
  have hl:=pl.isList
  rw[e] at hl
  have hsz:0<ys.size:=by rw[hns,List.length_map,Array.length_toList] at hne;exact hne
  exact max_intList (show X.A.handled=none from I.ok.hd hc) hl hsz (fin ys hns hsz)
 ·obtain⟨its,rv,pl,hz⟩:=I.tuple hS
  have hi:=aP rv
  obtain⟨ys,e⟩:=hi.allInts.items
  have hns:ns=ys.toList.map (·.1):=by rw[←hi.numsOf,←nums_intItems,←e]
  have hl:s.heap.IsTuple p its.toArray:=pl
  rw[e] at hl
  have hsz:0<ys.size:=by rw[hns,List.length_map,Array.length_toList] at hne;exact hne
  exact zO (show X.A.handled=none from I.ok.hd hc) hl hsz (fin ys hns hsz)
def Zc7(K:PySem.W.Frag):List V→Hp→VK→Prop:=fun xs H Q=>∃(p:Addr) (ns:List Int),xs=[.ref p]∧aG K H p (ns.map V.int)∧0<ns.length∧∀M,M∈ns→(∀a∈ns,M≤a)→Q (.int M) H
theorem Ik(hc:X.calm=true):Ŭ X (.builtin "min") (Zc7 X.K):=by
 intro pins s σ H xs us Q I r h
 obtain⟨p,ns,rfl,hS,hne,q⟩:=h
 obtain⟨u,rfl,ru⟩:=vals1 r
 cases ru
 obtain⟨its,rv,pl,hz⟩:=I.list hS
 have hi:=aP rv
 obtain⟨ys,e⟩:=hi.allInts.items
 have hns:ns=ys.toList.map (·.1):=by rw[←hi.numsOf,←nums_intItems,←e]
 have hl:=pl.isList
 rw[e] at hl
 have hsz:0<ys.size:=by rw[hns,List.length_map,Array.length_toList] at hne;exact hne
 refine min_intList (show X.A.handled=none from I.ok.hd hc) hl hsz fun v h' tk hv hk=>?_
 obtain⟨t,rfl⟩:=intItems_at hv
 obtain⟨h1,h2⟩:=argBest_lt (numAt ys) (ys.size-1)
 refine⟨.int _,H,I.kept hk,⟨t,rfl⟩,q _ ?_ fun a ha=>?_⟩
 ·rw[hns,numAt_eq]
  have hj:argBest (fun i j=>decide (numAt ys i<numAt ys j)) (ys.size-1)<(ys.toList.map (·.1)).length:=by rw[List.length_map,Array.length_toList];omega
  rw[List.getD_eq_getElem?_getD,List.getElem?_eq_getElem hj]
  exact List.getElem_mem _
 ·rw[hns] at ha
  obtain⟨j,hj,rfl⟩:=List.mem_iff_getElem.mp ha
  rw[List.length_map,Array.length_toList] at hj
  have:=h2 j (by omega)
  rw[numAt_eq ys j,List.getD_eq_getElem?_getD,List.getElem?_eq_getElem (by rw[List.length_map,Array.length_toList];exact hj)] at this
  exact this
def intsOf:List PV→Option (List Int)
 | []=>some []
 | .int b::ps=>(intsOf ps).map (b:: ·)
 |_::_=>none
@[simp] theorem fu:∀ns:List Int,intsOf (ns.map PV.int)=some ns
  | []=>rfl
  |n::ns=>by rw[List.map_cons,intsOf,fu ns];rfl
theorem ints_rep{F:Hp}:∀{ps:List PV} {vs:List V} {bs:List Int},Ī K F ps vs→intsOf ps=some bs→vs=bs.map V.int
 | [],vs,bs,r,h=>by
   cases h
   cases r.pr
   rfl
 |p::ps,vs,bs,r,h=>by
  cases r.pr with
  |cons r1 t=>
   cases p with
   |int b=>
    unfold intsOf at h
    obtain⟨cs,e,rfl⟩:=Option.map_eq_some_iff.mp h
    rw[ints_rep (Ī.of t) e,show _=V.int b from r1]
    rfl
   |_=>cases h
def best(f:Int→Int→Int):List Int→Option Int
 | []=>none
 |n::ns=>some (ns.foldl f n)
theorem foldl_max:∀(ns:List Int) (n:Int),ns.foldl max n∈n::ns∧∀a∈n::ns,a≤ns.foldl max n
 | [],n=>by simp
 |m::ns,n=>by
  obtain⟨h1,h2⟩:=foldl_max ns (max n m)
  rw[List.foldl_cons]
  refine⟨?_,fun a ha=>?_⟩
  ·rcases List.mem_cons.mp h1 with e|e
   ·rw[e]
    by_cases h:n≤m
    ·rw[Int.max_eq_right h];simp
    ·rw[Int.max_eq_left (by omega)];simp
   ·simp[e]
  ·have hm:=h2 (max n m) List.mem_cons_self
   rcases List.mem_cons.mp ha with rfl|ha
   ·omega
   ·rcases List.mem_cons.mp ha with rfl|ha
    ·omega
    ·exact h2 a (List.mem_cons_of_mem _ ha)
theorem foldl_min:∀(ns:List Int) (n:Int),ns.foldl min n∈n::ns∧∀a∈n::ns,ns.foldl min n≤a
 | [],n=>by simp
 |m::ns,n=>by
  obtain⟨h1,h2⟩:=foldl_min ns (min n m)
  rw[List.foldl_cons]
  refine⟨?_,fun a ha=>?_⟩
  ·rcases List.mem_cons.mp h1 with e|e
   ·rw[e]
    by_cases h:n≤m
    ·rw[Int.min_eq_left h];simp
    ·rw[Int.min_eq_right (by omega)];simp
   ·simp[e]
  ·have hm:=h2 (min n m) List.mem_cons_self
   rcases List.mem_cons.mp ha with rfl|ha
   ·omega
   ·rcases List.mem_cons.mp ha with rfl|ha
    ·omega
    ·exact h2 a (List.mem_cons_of_mem _ ha)
def qt:List PV→Option PV
 | [.lst ps]=>(intsOf ps).map fun ns=>.int ns.sum
 |_=>none
def iM:List PV→Option PV
 | [.lst ps]=>((intsOf ps).bind (best max)).map .int
 | [.tup ps]=>((intsOf ps).bind (best max)).map .int
 |_=>none
def qZ:List PV→Option PV
 | [.lst ps]=>((intsOf ps).bind (best min)).map .int
 |_=>none
theorem zQ:dJ K (Zc5 K.K) qt:=by
 intro c F H σ ρ ps pv vs Q rel r e k
 unfold qt at e
 split at e
 ·rename_i ps
  obtain⟨v,rfl,r1⟩:=zL r
  obtain⟨a,xs,rfl,h1,h2⟩:=r1.lst rel.sub
  obtain⟨ns,eb,rfl⟩:=Option.map_eq_some_iff.mp e
  exact⟨a,ns,rfl,by rw[←ints_rep h2 eb];exact h1,k _ F H rel (Same.refl _) (Same.refl _) Rep.int⟩
 ·cases e
theorem zR:dJ K (Zc6 K.K) iM:=by
 intro c F H σ ρ ps pv vs Q rel r e k
 have fin:∀(ps:List PV) (xs:List V),Ī K F ps xs→((intsOf ps).bind (best max)).map PV.int=some pv→∃ns:List Int,xs=ns.map V.int∧0<ns.length∧∀M,M∈ns→(∀a∈ns,a≤M)→Q (.int M) H:=by
  intro ps xs h2 e
  obtain⟨m,em,rfl⟩:=Option.map_eq_some_iff.mp e
  obtain⟨ns,eb,hb⟩:=Option.bind_eq_some_iff.mp em
  cases ns with
  |nil=>cases hb
  |cons n ns=>
   cases hb
   obtain⟨z1,z2⟩:=foldl_max ns n
   refine⟨n::ns,ints_rep h2 eb,by simp,fun M m1 m2=>?_⟩
   have:M=ns.foldl max n:=Int.le_antisymm (z2 M m1) (m2 _ z1)
   rw[this]
   exact k _ F H rel (Same.refl _) (Same.refl _) Rep.int
 unfold iM at e
 split at e
 ·rename_i ps
  obtain⟨v,rfl,r1⟩:=zL r
  obtain⟨a,xs,rfl,h1,h2⟩:=r1.lst rel.sub
  obtain⟨ns,rfl,hl,hq⟩:=fin ps xs h2 e
  exact⟨a,ns,rfl,.inl h1,hl,hq⟩
 ·rename_i ps
  obtain⟨v,rfl,r1⟩:=zL r
  obtain⟨a,xs,rfl,h1,h2⟩:=r1.tup rel.sub
  obtain⟨ns,rfl,hl,hq⟩:=fin ps xs h2 e
  exact⟨a,ns,rfl,.inr h1,hl,hq⟩
 ·cases e
theorem Il:dJ K (Zc7 K.K) qZ:=by
 intro c F H σ ρ ps pv vs Q rel r e k
 unfold qZ at e
 split at e
 ·rename_i ps
  obtain⟨v,rfl,r1⟩:=zL r
  obtain⟨a,xs,rfl,h1,h2⟩:=r1.lst rel.sub
  obtain⟨m,em,rfl⟩:=Option.map_eq_some_iff.mp e
  obtain⟨ns,eb,hb⟩:=Option.bind_eq_some_iff.mp em
  cases ns with
  |nil=>cases hb
  |cons n ns=>
   cases hb
   obtain⟨z1,z2⟩:=foldl_min ns n
   refine⟨a,n::ns,rfl,by rw[←ints_rep h2 eb];exact h1,by simp,fun M m1 m2=>?_⟩
   have:M=ns.foldl min n:=Int.le_antisymm (m2 _ z1) (z2 M m1)
   rw[this]
   exact k _ F H rel (Same.refl _) (Same.refl _) Rep.int
 ·cases e
@[simp] theorem ZiQ{i:Int}:Ew [.int i]=some (.int i):=rfl
@[simp] theorem ZiR{b:Bool}:Ew [.bl b]=some (.int (if b then 1 else 0)):=rfl
@[simp] theorem ZiS{i:Int}:ZkC [.int i]=if i.natAbs.log2<1920 then some (.str (toString i)) else none:=rfl
@[simp] theorem ZiT{x:Str}:ZkD [.str x]=if x.length=1 then some (.int (x.cps.getD 0 0:Nat)) else none:=rfl
@[simp] theorem g_{ps:List PV}:qt [.lst ps]=(intsOf ps).map fun ns=>.int ns.sum:=rfl
@[simp] theorem RW{ps:List PV}:iM [.lst ps]=((intsOf ps).bind (best max)).map .int:=rfl
@[simp] theorem RX{ps:List PV}:qZ [.lst ps]=((intsOf ps).bind (best min)).map .int:=rfl
@[simp] theorem ZiU{f:Int→Int→Int}{n:Int}{ns:List Int}:best f (n::ns)=some (ns.foldl f n):=rfl
end
end P
namespace P
open PySem PySem.Spec PyProof.Rows L2 M2 M3 M4
def uo(K:PySem.W.Frag)(C:Addr):Bool:=PySem.W.plainGet K C Str.empty && PySem.W.hasDictIn K C && PySem.W.plainOver K C && PySem.W.findIn K (.ref C) "__setattr__" == some (some (.builtin "object.__setattr__"))
theorem jg{K:PySem.W.Frag}{C:Addr}(h:uo K C=true):Cls K C:=by
 unfold uo at h
 simp only[Bool.and_eq_true,beq_iff_eq] at h
 exact⟨h.1.1.1,h.1.1.2,h.1.2,h.2⟩
def n_(K:PySem.W.Frag)(C:Addr)(m:Str)(f:Addr):Bool:=PySem.W.findIn K (.ref C) m== some (some (.ref f)) && PySem.W.isFn K (.ref f) && PySem.W.keepIn K (.ref f)
theorem jC{K:PySem.W.Frag}{C f:Addr}{m:Str}(h:n_ K C m f=true):Meth K C m f:=by
 unfold n_ at h
 simp only[Bool.and_eq_true,beq_iff_eq] at h
 exact⟨h.1.1,h.1.2,h.2⟩
def RZ(K:PySem.W.Frag)(C f:Addr):Bool:=PySem.W.makesIn K C && PySem.W.findIn K (.ref C) "__init__" == some (some (.ref f)) && PySem.W.isFn K (.ref f) && PySem.W.keepIn K (.ref C)
theorem oh{K:PySem.W.Frag}{C f:Addr}(h:RZ K C f=true):Mk K C f:=by
 unfold RZ at h
 simp only[Bool.and_eq_true,beq_iff_eq] at h
 exact⟨h.1.1.1,h.1.1.2,h.1.2,h.2⟩
section
variable{ρ:Ŗ}{i n k:Nat}{C:String}{cs:List String}{f m:Str}{mv mo:M PV}{mi:MI}{ms:M (List Slot)}{mb:M Fl}{pY:List (String×MF)}{as:List Slot}{ns:List Str}{ps:List PV}
@[simp] theorem ZiV:iK i cs f mv ρ=(mv ρ).bind fun p ρ1=>match ρ1[i]? with
  |some (.rc C ns ps)=>if cs.contains C=true∧ns.length<1000 then .ok .nx (ρ1.set i (.rc C (putN f ns) (wj f p ns ps))) else .bad
  |_=>.bad:=rfl
@[simp] theorem ZiW:cY n k C mb as=if as.length+1=n then IR.of (mb (.rc C [] []::startP (k-1) as)) else .bad:=rfl
@[simp] theorem ZkE{C:String}:IR.of (.ok .nx (.rc C ns ps::ρ))=.ok ns ps:=rfl
@[simp] theorem ZiX:bY C mi ms ρ=(ms ρ).bind fun as ρ1=>match mi as with
  | .ok ns ps=>.ok (.ins C ns ps) ρ1
  | .exc x=>.exc x ρ1
  | .bad=>.bad:=rfl
@[simp] theorem ZkF:bQ cs f (.ins C ns ps)=if cs.contains C=true then(ns.zip ps).lookup f else none:=rfl
@[simp] theorem R_:nY m pY mo ms ρ=(mo ρ).bind fun p ρ1=>match p with
  | .ins C ns ps=>match pY.lookup C with
    |some mf=>if ns.contains m=true then .bad else(ms ρ1).bind fun as ρ2=>match mf (.sh (.ins C ns ps)::as) with
     | .ret r=>.ok r ρ2
     | .exc x=>.exc x ρ2
     | .bad=>.bad
    |none=>.bad
  |_=>.bad:=rfl
end
end P
namespace M3
open PySem PySem.Spec PyProof.Rows L2 M2
section
variable{X:Cx}{elt tg iter:Expr}{ifs:List Expr}{scope:Scope}{pos:Pos}{wi:TI}{g:TG}{tt:TT}{te:TE}
theorem Sd{iv:Nat}{y:Str}{py spos:Pos}(hN:X.N.Nodup)(hiN:X.N[iv]?=some y)(hy:X.env.scope.names.lookup y=some .local)(hsw:swapsWith (.ListComp elt [⟨tg,iter,ifs,0⟩] scope pos) (some (.Name y py)) spos.line X.env=pure true)(N':List Str)(js:List Nat)(nl:Nat)(sc:Scope)(hsc:X.env.scope=sc)(hcalm:X.calm=true)
 (hi:PI X.aB tg iter wi)(hg:∀cl C s H fp,PG (gR X.aB N' scope cl C s H fp) tg g)(ht:∀cl C s H fp,TJ (gR X.aB N' scope cl C s H fp) ifs tt)(he:∀cl C s H fp,PE (gR X.aB N' scope cl C s H fp) elt te)
 (hcap:nq X.aB sc scope N' js)(hlen:js.length+nl=N'.length:=by rfl)
 (hk:scope.kind=.function:=by rfl)(hcell:∀y∈scope.names,y.2=.cell→scope.names.lookup y.1=some .cell:=by decide +kernel)(hnames:∀y∈scope.names,y.2=.local→scope.names.lookup y.1=some .local:=by decide +kernel)
 (hfree:∀y∈scope.names,y.2=.free→(sc.names.lookup y.1=some .cell∨sc.names.lookup y.1=some .free):=by decide +kernel)
 (hs:∀x,foldedSetIterable iter X.env x=pure x:=by intro _;rfl) :
 PS X.aB (.Assign [.Name y py] (.ListComp elt [⟨tg,iter,ifs,0⟩] scope pos) spos) (fun D σ H=>GD js nl wi g tt te σ H fun v H'=>D.nx (σ.set iv (some v)) H'):=by
 intro pins s σ H D I h
 obtain⟨cl0,c1,c2,c3⟩:=jt (scope:=scope) (env:=X.aB.env) fun y hy hf=>I.ok.has y.1 (by
  have:=hfree y hy hf
  rw[←hsc] at this
  exact this)
 rw[exec_Assign_Name_used _ _ _ _ (show swapsWith _ _ _ X.aB.env=pure true from hsw)]
 refine wpAny_bind (wpAny_standAt (wpAny_bind ?_))
 show wpAny _ X.A (do let _ ←comprehension (.ListComp elt [⟨tg,iter,ifs,0⟩] scope pos) scope X.aB.env _ (newList []) false (eval iter X.aB.env) (some (assign (.Name y py) X.aB.env))) _ _ s
 refine wpAny_bind (wpAny_mono (wpAny_comprehension_free (Q:=fun _ s'=>SP X.aB pins D .next s') (use:=some (assign (.Name y py) X.aB.env)) rfl hs c1 hk hnames (Ų (hi pins s σ H _ I h) fun v s1 h1=>Ų h1 fun itv s2 h2=>?_)) (fun _ s' hq=>wpAny_pure (wpAny_pure hq)) fun _ _ e=>e)
 obtain⟨it,fp,tn,J,H2,e,I2,T,st2,f2,q2⟩:=h2
 subst e
 refine wpAny_newObj_type (iI (fun h₁ hns₁ old Xu=>?_))
 dsimp only at hns₁ old Xu ⊢
 generalize Xv:s2.heap.push {cls:=.type "list",dict:=none,data:=.seq ([]:List Value).toArray}=cC at hns₁ old Xu ⊢
 have hD:H2 s2.heap.objs.size=none:=I2.hok.fresh (Nat.le_refl _)
 have I3:Inv X.aB pins σ (upd H2 s2.heap.objs.size (.lst [])) {s2 with heap:=cC}:=by
  rw[←Xv]
  exact I2.laid (t':=s2.toks) (fun b u e=>Heap.get?_push_of_some _ e) (Nat.le_refl _) ⟨Nat.zero_le _,[],0,.nil,Heap.get?_push_size _ rfl⟩
 have GK:∀b∈fp,b<s2.heap.objs.size:=fun b hb=>by
  obtain⟨o,ho,_⟩:=T.obj 0 _ st2 b hb
  exact Heap.lt_size ho
 have Xw:cC.objs.size=s2.heap.objs.size+1:=by rw[←Xv,Heap.size_push]
 have f3:∀b∈fp,fW X.aB pins (upd H2 s2.heap.objs.size (.lst [])) b:=fun b hb=>by
  obtain⟨g0,g1⟩:=f2 b hb
  exact⟨by rw[į (Nat.ne_of_lt (GK b hb))];exact g0,g1⟩
 have B:=GF (X:=X.aB) (cl:=cl0) hcell c2 c3 (fun x c e=>by
  obtain⟨v,o,ho,_⟩:=I3.cell x c e
  exact Heap.lt_size ho) Xu
 generalize cellsFrom (cC.objs.size+1) scope.names cl0=cl at B ⊢
 obtain⟨W,⟨m0,w0⟩,turn⟩:=q2 s2.heap.objs.size hD
 have I4:=qN (X:=X.aB) (N':=N') (js:=js) (nl:=nl) (sc:=sc) (scope:=scope) (cl:=cl) (fp:=fp) (h':=h₁) (tk:=s2.toks) hsc hk hcap hlen B I3 f3 (fun b hb=>by show b<cC.objs.size;rw[Xw];exact Nat.lt_succ_of_lt (GK b hb)) hns₁ old
 have st4:tn 0 h₁:= T.keep 0 _ _ st2 fun b hb o e=>old b o (by rw[←Xv];exact Heap.get?_push_of_some _ e)
 have fr4:∀b∈fp,(upd H2 s2.heap.objs.size (.lst [])) b=none:=fun b hb=>(f3 b hb).1
 have stat:∀{H':Hp},(∀b∈fp,H' b=none)→∀b∈fp,fW (gR X.aB N' scope cl cC.objs.size {s2 with heap:=cC} (upd H2 s2.heap.objs.size (.lst [])) fp) [] H' b:=fun{H'} hn b hb=>by
  obtain⟨g0,g1,g2,g3,g4,g5⟩:=f3 b hb
  refine⟨hn b hb,Nat.ne_of_lt (by show b<cC.objs.size;rw[Xw];exact Nat.lt_succ_of_lt (GK b hb)),fun z=>?_,.inl hb,fun x c e=>by
   rcases B.at_ x c e with⟨q,_⟩|⟨q,_⟩
   ·exact g4 x c q
   ·exact Nat.ne_of_gt (Nat.lt_trans (by show b<cC.objs.size;rw[Xw];exact Nat.lt_succ_of_lt (GK b hb)) q),fun p hp=>absurd hp (by simp[gR])⟩
  rcases List.mem_cons.mp (I3.mZ b z) with z|z
  ·exact g1 z
  ·exact g2 z
 have loop:∀s₃:Shared,s₃= {s2 with heap:=h₁}→
  codeAny (model X.prog X.w) X.A (.compLoop (.ListComp elt [⟨tg,iter,ifs,0⟩] scope pos) 0 (.ref it) (.ref s2.heap.objs.size) (compEnvC scope cl cC.objs.size X.aB.env))
   (compPost (model X.prog X.w) X.A X.aB.xe (some (assign (.Name y py) X.aB.env)) (fun _ s'=>SP X.aB pins D .next s') (.ref s2.heap.objs.size) cC.objs.size) s₃:= by
  rintro s₃ rfl
  refine ju (fun n s'=>∃i σ' H',Inv (gR X.aB N' scope cl cC.objs.size {s2 with heap:=cC} (upd H2 s2.heap.objs.size (.lst [])) fp) [] σ' H' s'∧tn i s'.heap∧(∀b∈fp,H' b=none)∧W i n σ' H') ?_ m0 ⟨0,_,_,I4,st4,fr4,w0⟩
  rintro n s5 ⟨i,σ5,H5,I5,Qu,Wz,w5⟩
  rcases turn i n σ5 H5 w5 with⟨stop,qn⟩|⟨go,N,hN,step⟩
  ·refine Ų (T.done (gR X.aB N' scope cl cC.objs.size {s2 with heap:=cC} (upd H2 s2.heap.objs.size (.lst [])) fp) rfl rfl rfl hcalm i [] s5 σ5 H5 (fun _ _=>False) I5 (stat Wz) Qu stop) fun r s6 ⟨hr,I6⟩=>?_
   subst hr
   obtain⟨m,hm,_⟩:=I6.loc
   have I7:Inv X.aB pins σ H5 s6:=nu (h':=s6.heap) I3 f3 I6 (fun b u hb e=>e)
   have hCL:cC.objs.size≠X.aB.env.locals:=Nat.ne_of_gt I3.lt
   have hcC:∀x c,X.aB.env.cells.lookup x=some c→c≠cC.objs.size:=fun x c e z=>by
    obtain⟨v,o,ho,_⟩:=I3.cell x c e
    exact absurd (Heap.lt_size ho) (by rw[z];exact Nat.lt_irrefl _)
   have hpC:∀p∈X.aB.pn++pins,p.1≠cC.objs.size:=fun p hp z=>by
    have:=Heap.lt_size (I3.pin p hp).1
    rw[z] at this
    exact Nat.lt_irrefl _ this
   have hnC:H5 cC.objs.size=none:=I6.free
   refine wpAny_assign_Name (qC (X:=X.aB) (i:=iv) I7 hN hiN (.inl hy) (v:=.ref s2.heap.objs.size) rfl (fun s8 I8 ⟨a8,sb8,ha8⟩=>?_) (.inr hy))
   have ne8:cC.objs.size≠a8:=by
    rcases ha8 with rfl|ha8
    ·exact hCL
    ·exact fun z=>hcC _ _ ha8 z.symm
   refine⟨m,hm.sameBut sb8 ne8,fun h' hs'=>⟨_,H5,?_,qn⟩⟩
   have kp:∀b o,b≠cC.objs.size→s8.heap.get? b=some o→h'.get? b=some o:=fun b o hb e=>hs'.extBut b o hb e
   have kp':∀b o,b∉[cC.objs.size]→s8.heap.get? b=some o→h'.get? b=some o:=fun b o hb e=>kp b o (fun z=>hb (by rw[z];exact List.mem_cons_self)) e
   refine I8.call' (ch:=[cC.objs.size]) (s':={s8 with heap:=h'}) rfl ⟨fun b o e _ _ hx=>kp' b o hx e,fun b o e _ _ hx=>⟨o.slots,kp' b o hx e⟩,fun b o _ n _=>n,fun b o e hx=>⟨o,kp' b o hx e⟩,fun _ _ q=>q,fun _ _ _ q=>q,fun _ ps q=>⟨#[],by rw[q];simp⟩⟩ (Cg I8.hok hnC kp) I8.bare fun b hb=>?_
   cases List.mem_singleton.mp hb
   exact⟨.inr I3.sz,hCL,hcC,hpC⟩
  ·refine Ų (T.item (gR X.aB N' scope cl cC.objs.size {s2 with heap:=cC} (upd H2 s2.heap.objs.size (.lst [])) fp) rfl rfl rfl hcalm i [] s5 σ5 H5 (fun _ _=>False) I5 (stat Wz) Qu go) fun r s6 ⟨u,hr,h6⟩=>?_
   subst hr
   refine Ų h6 fun _ s7 ⟨x,H7,I7,r7,y7,Xx,fr7⟩=>?_
   have I7':=I7.pinned (stat fr7) (T.obj _ _ Xx)
   have again:∀{s8:Shared} {σ8:L2.St} {H8:Hp},Inv (gR X.aB N' scope cl cC.objs.size {s2 with heap:=cC} (upd H2 s2.heap.objs.size (.lst [])) fp) ([]++jP fp s7.heap) σ8 H8 s8→
    Inv (gR X.aB N' scope cl cC.objs.size {s2 with heap:=cC} (upd H2 s2.heap.objs.size (.lst [])) fp) [] σ8 H8 s8∧tn (i+1) s8.heap∧∀b∈fp,H8 b=none:=fun{s8 σ8 H8} I8=>by
    refine⟨I8.fX,T.keep _ _ _ Xx fun b hb o e=>(I8.pin (b,o) (List.mem_append_right _ (List.mem_append_right _ (bF hb e)))).1,fun b hb=>?_⟩
    obtain⟨o,e,d⟩:=T.obj _ _ Xx b hb
    exact(I8.pin (b,o) (List.mem_append_right _ (List.mem_append_right _ (bF hb e)))).2.1
   refine Ų (hg cl _ _ _ fp _ s7 σ5 H7 x u _ I7' r7 (step x H7 y7)) fun _ s8 ⟨σ8,H8,I8,q8⟩=>?_
   refine Ų (ht cl _ _ _ fp _ s8 σ8 H8 _ I8 q8) fun c s9 ⟨H9,I9,q9⟩=>?_
   cases c with
   |false=>
    rw[if_neg Bool.false_ne_true] at q9 ⊢
    obtain⟨m',hm',w9⟩:=hN _ _ q9
    obtain⟨a1,a2,a3⟩:=again I9
    exact⟨m',hm',i+1,σ8,H9,a1,a2,a3,w9⟩
   |true=>
    rw[if_pos rfl] at q9 ⊢
    refine Ų (he cl _ _ _ fp _ s9 σ8 H9 _ I9 q9) fun yv yK ⟨y,H10,I10,r10,ys,e10,l10,w10⟩=>?_
    refine Ų (bG _ yK σ8 H10 (.ref s2.heap.objs.size) [y] (.ref s2.heap.objs.size) [yv] (fun _ Xy=>N σ8 Xy) I10 rfl (.cons r10 .nil) ⟨_,ys,y,rfl,rfl,e10,l10,w10⟩) fun _ s11 ⟨v11,Xy,I11,_,w11⟩=>?_
    obtain⟨a1,a2,a3⟩:=again I11
    obtain⟨m',hm',w11⟩:=hN _ _ w11
    exact⟨m',hm',i+1,σ8,Xy,a1,a2,a3,w11⟩
 exact codeAny_compStart_list (loop _ rfl) (T.self _ 0 _ _ _ st4 (loop _ rfl))
end
end M3
namespace P
open PySem PySem.Spec PyProof.Rows L2 M2 M3 M4
section
variable{X:Cx}{cm:String→Addr}{E:L2.St→XK}{elt tg iter:Expr}{ifs:List Expr}{scope:Scope}{pos:Pos}{mi:M (List PV)}{g:Tg}{mt:M Bool}{me:M PV}
theorem PS.aB{st:Stmt}{t:TS}(h:PS X.aB st t):PS X st t:=fun pins s σ H D I hw=>
 wpAny_mono (h pins s σ H D (I.wish _) hw) (fun _ _ q=>q.eG) fun _ _ z=>False.elim z
theorem ur{i:Nat}{y:Str}{py spos:Pos}(hN:X.N.Nodup)(hi0:X.N[i]?=some y)(hy:X.env.scope.names.lookup y=some .local)(N':List Str)(js:List Nat)(nl:Nat)(sc:Scope)(hsc:X.env.scope=sc)(hcalm:X.calm=true)
 (hi:PI X.aB tg iter (tI (kk X cm) E mi))(hg:∀cl C s H fp,PG (gR X.aB N' scope cl C s H fp) tg (tT (kk X cm) g))(ht:∀cl C s H fp,TJ (gR X.aB N' scope cl C s H fp) ifs (tB (kk X cm) EF mt))(he:∀cl C s H fp,PE (gR X.aB N' scope cl C s H fp) elt (tV (kk X cm) EF me))
 (hcap:nq X.aB sc scope N' js)(hlen:js.length+nl=N'.length:=by rfl)
 (hk:scope.kind=.function:=by rfl)(hcell:∀y∈scope.names,y.2=.cell→scope.names.lookup y.1=some .cell:=by decide +kernel)(hnames:∀y∈scope.names,y.2=.local→scope.names.lookup y.1=some .local:=by decide +kernel)
 (hfree:∀y∈scope.names,y.2=.free→(sc.names.lookup y.1=some .cell∨sc.names.lookup y.1=some .free):=by decide +kernel)
 (hs:∀x,foldedSetIterable iter X.env x=pure x:=by intro _;rfl)(hsw:swapsWith (.ListComp elt [⟨tg,iter,ifs,0⟩] scope pos) (some (.Name y py)) spos.line X.env=pure true:=by rfl) :
 PS X (.Assign [.Name y py] (.ListComp elt [⟨tg,iter,ifs,0⟩] scope pos) spos) (tS (kk X cm) E (ķ i (Œ js nl mi g mt me))):=
 PS.wk (PS.aB (Sd hN hi0 hy hsw N' js nl sc hsc hcalm hi hg ht he hcap hlen hk hcell hnames hfree hs)) fun D σ H ⟨c,F,ρ,rel,h⟩=>vW ⟨c,F,ρ,rel,Ž.bind h fun r ρ1 v F1 H1 ĥ s1 q h1=>by
   cases r with
   |sh p=>exact h1 _ F1 H1 (ĥ.put rfl ⟨v,rfl,q⟩) (Same.refl _)
   |ow ps=>
    obtain⟨a,vs,rfl,q1,q2,q3,q4,q5⟩:=q
    exact h1 _ F1 H1 (ĥ.Rf ⟨a,vs,rfl,q1,q2,q3,q5⟩ rfl q4) (Same.refl _)
   |ot ps qs=>
    obtain⟨p,a,xs,vs,rfl,q0,qx,q1,q2,q3,q4,q5⟩:=q
    exact h1 _ F1 H1 (ĥ.Rf (s:=.ot ps qs) ⟨p,a,xs,vs,rfl,q0,qx,q1,q2,q3,q5⟩ ⟨p,xs,rfl,q0⟩ q4) (Same.refl _)⟩
end
end P
namespace P
open PySem PySem.Spec PyProof.Rows L2 M2 M3 M4
def mBM(f:PV→List PV→Option PV)(mo:M PV)(ms:M (List PV)):M PV:=fun ρ=>(mo ρ).bind fun p ρ1=>match p with
 | .str _=>(ms ρ1).bind fun ps ρ2=>Res.mV (f p ps) ρ2
 |_=>.bad
@[simp] theorem ZnR{f:PV→List PV→Option PV}{mo:M PV}{ms:M (List PV)}{ρ:Ŗ}:mBM f mo ms ρ=(mo ρ).bind fun p ρ1=>match p with
  | .str _=>(ms ρ1).bind fun ps ρ2=>Res.mV (f p ps) ρ2
  |_=>.bad:=rfl
section
variable{X:Cx}{cm:String→Addr}{K:KK}{E:L2.St→XK}{o e:Expr}{es:List Expr}{name:Str}{apos cpos:Pos}{id:String}{r:V→List V→Hp→VK→Prop}{f:PV→List PV→Option PV}{mo:M PV}{ms:M (List PV)}
end
end P
namespace P
open PySem PySem.Spec PyProof.Rows L2 M2 M3 M4
section
variable{X:Cx}{pins:List (Addr×Obj)}{σ:L2.St}{H:Hp}{s:Shared}{h':Heap}
theorem turns{t':Nat}{fp:List Addr}(I:Inv X pins σ H s)(k:∀b o,b∉fp→s.heap.get? b=some o→h'.get? b=some o)(hf:∀b∈fp,fW X pins H b):Inv X pins σ H {s with heap:=h',toks:=t'}:=by
 have nit:∀b u,H b=some u→b∉fp:=fun b u e z=>by rw[(hf b z).1] at e;cases e
 have hL:X.env.locals∉fp:=fun z=>(hf _ z).2.1 rfl
 refine I.step (g':=s.gens) (d':=s.drawn) (ch:=fp) (fun b hb=>?_) (fun b o _ _ hc e _=>k b o hc e) (fun b o _ _ hc e _=>⟨o.slots,k b o hc e⟩) (fun _ _ _ _ n=>n)
  (fun b o hc e=>⟨o,k b o hc e⟩) (fun _ _ e=>e) (fun _ _ _ e=>e) (fun b ps e=>⟨#[],by rw[e];simp⟩) (fun m hm=>?_) (fun b u e=>?_) I.bare
 ·obtain⟨f0,f1,f2,f3,f4,f5⟩:=hf b hb
  exact⟨f3,f1,f4,f5⟩
 ·obtain⟨o,es,ep,ho,r⟩:=hm
  exact⟨o,es,ep,k _ o hL ho,r⟩
 ·refine(I.hok b u e).stay (fun c v hc q=>k c v ?_ q) (fun _ q=>q) fun _ _ q=>q
  rcases hc with z|z
  ·rw[z];exact nit b u e
  ·exact nit c _ z
theorem Yk{a b:Addr}{o:HO}(f:fW X pins H b)(h:b≠a):fW X pins (upd H a o) b:=⟨by rw[į h];exact f.1,f.2⟩
theorem ou{t':Nat}{fp:List Addr}{u1 u2:Value}{x1 x2:V}(I:Inv X pins σ H s)(r1:RelV x1 u1)(r2:RelV x2 u2)(ht:∃o,h'.get? s.heap.objs.size=some o∧o= {cls:=.type "tuple",data:=.seq #[u1,u2]})
 (k:∀b o,b∉fp→s.heap.get? b=some o→h'.get? b=some o)(hf:∀b∈fp,fW X pins H b)(hlt:∀b∈fp,b<s.heap.objs.size) :
 Inv X pins σ (upd H s.heap.objs.size (.tup [x1,x2])) {s with heap:=h',toks:=t'}:=by
 have I1:Inv X pins σ (upd H s.heap.objs.size (.tup [x1,x2])) {s with heap:=s.heap.push {cls:=.type "tuple",data:=.seq #[u1,u2]},toks:=s.toks}:=
  I.laid (t':=s.toks) (fun b u e=>Heap.get?_push_of_some _ e) (Nat.le_refl _) ⟨by show 2≤sizeLine;decide,[u1,u2],.cons r1 (.cons r2 .nil),⟨_,Heap.get?_push_size _ rfl,rfl,_,rfl⟩⟩
 refine turns (fp:=fp) (s:={s with heap:=s.heap.push {cls:=.type "tuple",data:=.seq #[u1,u2]},toks:=s.toks}) (h':=h') (t':=t') I1 (fun b o hb e=>?_) fun b hb=>Yk (hf b hb) (Nat.ne_of_lt (hlt b hb))
 rcases Heap.get?_push_cases e with⟨rfl,rfl⟩|e
 ·obtain⟨o,h1,h2⟩:=ht
  rw[h1,h2]
 ·exact k b o hb e
end
def Ite(K:PySem.W.Frag)(a:Addr):It:=
 ⟨fun i H=>∃xs x,aG K H a xs∧xs[i]?=some x,fun i H y H'=>∃x T,(∀xs,aG K H a xs→xs[i]?=some x)∧H T=none∧y=.ref T∧H'=upd H T (.tup [.int i,x]),fun i H=>∃xs,aG K H a xs∧xs.length≤i⟩
theorem Ey{P:Program}{w:World}{K:PySem.W.Frag}{elts:List Expr}{k:Nat}{pos:Pos}(a e it:Addr)(hne:e≠it):Turn P w K (.Tuple elts k pos) (Ite K a) [e,it] e (fun i h=>(∃old,IsEnum h e it i old)∧h.IsListIter it a i) where
 mem:=by simp
 obj:=fun i h st b hb=>by
  obtain⟨⟨old,he⟩,hit⟩:=st
  rcases List.mem_cons.mp hb with rfl|hb
  ·exact⟨_,he,fun v z=>by
    have z':Data.fields _=Data.cell v:=z
    cases z'⟩
  ·have e':b=it:=by simpa using hb
   subst e'
   obtain⟨o,e1,c,d⟩:=hit
   exact⟨o,e1,fun v z=>by rw[d] at z;cases z⟩
 keep:=fun i h h' st k=>⟨let ⟨old,he⟩:=st.1;⟨old,k e (by simp) _ he⟩,st.2.at fun o q=>k it (by simp) o q⟩
 item:=by
  intro X hP hw hK hc i pins s σ H E I hf st hg
  subst hP hw hK
  obtain⟨⟨old,he⟩,hit⟩:=st
  obtain⟨xs,x,hq,hx⟩:=hg
  obtain⟨its,rv,p,hz⟩:=I.list hq
  obtain⟨u,hu,ru⟩:=rv.get hx
  have elt:e<s.heap.objs.size:=Heap.lt_size he
  have ilt:it<s.heap.objs.size:=by obtain⟨_,q,_⟩:=hit;exact Heap.lt_size q
  refine wpAny_pyNext_enum_item he hit p.isList (x:=u) (by simpa using hu) hne fun h' ho hit' hT hsz hk=>?_
  refine⟨.ref s.heap.objs.size,rfl,wpAny_letOwnedTupleGo_enum ho fun h'' he' hs'=>?_⟩
  have hs2:Heap.SameBut e h' h'':=hs'
  have hlt:∀b∈[e,it],b<s.heap.objs.size:=fun b hb=>by
   rcases List.mem_cons.mp hb with rfl|hb
   ·exact elt
   ·have e':b=it:=by simpa using hb
    subst e';exact ilt
  have I2:=ou (fp:=[e,it]) (h':=h'') (t':=s.toks+1) (x1:=.int i) I ⟨s.toks,rfl⟩ ru ⟨_,(hs2.2 _ (Nat.ne_of_gt elt)).trans hT,rfl⟩ (fun b o hb q=>by
   have hbe:b≠e:=fun z=>hb (by simp[z])
   have hbi:b≠it:=fun z=>hb (by simp[z])
   exact(hs2.2 b hbe).trans (hk b o hbe hbi q)) hf hlt
  refine⟨.ref s.heap.objs.size,_,I2,rfl,⟨x,s.heap.objs.size,fun ys hy=>by rw[I.m_ hy hq];exact hx,I.fresh,rfl,rfl⟩,⟨⟨u,?_⟩,hit'.at fun o q=>(hs2.2 it hne.symm).trans q⟩,fun b hb=>?_⟩
  ·have he2:IsEnum h'' e it ((i:Int)+1) u:=he'
   show IsEnum h'' e it (((i+1:Nat):Int)) u
   rw[Int.natCast_add]
   exact he2
  ·rw[į (Nat.ne_of_lt (hlt b hb))];exact(hf b hb).1
 done:=by
  intro X hP hw hK hc i pins s σ H E I hf st hg
  subst hP hw hK
  obtain⟨⟨old,he⟩,hit⟩:=st
  obtain⟨xs,hq,hx⟩:=hg
  obtain⟨its,rv,p,hz⟩:=I.list hq
  have hl:=rv.length
  refine wpAny_pyNext_enum_end (I.ok.hd hc) he hit p.isList (by simp;omega) fun h' eb=>⟨rfl,turns (fp:=[e,it]) (t':=s.toks) I (fun b o hb q=>eb b o (fun z=>hb (by simp[z])) q) hf⟩
 self:=fun _ _ _ _ _ st h=>let ⟨_,he⟩:=st.1;wpAny_pyIter_enum he h
section
variable{X:Cx}{elts:List Expr}{k:Nat}{tp:Pos}
def Zc8(K:PySem.W.Frag)(ta:TA):TI:=fun σ H R=>ta σ H fun vs H1=>∃a,vs=[.ref a]∧(∃xs,aG K H1 a xs)∧R (Ite K a) H1
theorem Sg{l:Expr}{ta:TA}{p pos:Pos}(hg:Gl X "enumerate")(hm:X.mg "enumerate" =none)(ha:PA X [l] ta)(hs:starEach [l] X.env=[(false,eval l X.env)]:=by exact ř rfl):PI X (.Tuple elts k tp) (.Call (.Name "enumerate" p) [l] [] pos) (Zc8 X.K ta):=by
 intro pins s σ H R I h
 refine Call_ (jO I hg hm boot_enumerate (PyProof.Rows.callWith_type1 (Ų (ha pos pins s σ H _ I h) fun us s1 ⟨vs,H1,I1,r1,q1⟩=>?_) hs rfl))
 obtain⟨a,e,⟨xs,hq⟩,q⟩:=q1
 subst e
 obtain⟨u,rfl,ru⟩:=r1.one
 cases ru
 obtain⟨its,rv,pl,hz⟩:=I1.list hq
 refine call_enumerate_list pl.isList fun h' he hit hsz hk=>?_
 have I2:Inv X pins σ H1 {s1 with heap:=h'}:=I1.kept (t':=s1.toks) hk
 refine wpAny_pyIter_enum (s:={s1 with heap:=h'}) he ⟨s1.heap.objs.size+1,[s1.heap.objs.size+1,s1.heap.objs.size],_,_,H1,rfl,I2,Ey a _ _ (Nat.succ_ne_self _),⟨⟨_,he⟩,hit⟩,fun b hb=>?_,q⟩
 have hb':s1.heap.objs.size≤b:=by
  rcases List.mem_cons.mp hb with rfl|hb
  ·exact Nat.le_succ _
  ·have e':b=s1.heap.objs.size:=by simpa using hb
   exact Nat.le_of_eq e'.symm
 exact I1.DQ hb' (I1.hok.fresh hb')
end
def rLs(K:KK):RR (List PV) V:=fun c _ _ F H items v=>∃a,v=.ref a∧(∃xs,aG K.K H a xs)∧fU K c.L F (Wx K.K a) items
def rTs(K:KK):RR (List PV) V:=fun c _ _ F H items v=>∃a,v=.ref a∧(∃xs,dF K.K H a xs)∧fU K c.L F (Itt K.K a) items
def rSq(K:KK):RR (List PV) V:=fun c σ ρ F H items v=>rLs K c σ ρ F H items v∨rTs K c σ ρ F H items v
theorem jD{K:KK}{L F:Hp}{ps:List PV}{v:V}(h:Rep K F (.lst ps) v):∃a,v=.ref a∧(∃xs,aG K.K F a xs)∧fU K L F (Wx K.K a) ps:=by
 unfold Rep at h
 obtain⟨a,vs,rfl,e1,e2⟩:=h
 refine⟨a,rfl,⟨vs,e1⟩,?_⟩
 intro c' i F2 H2 σ2 ρ2 Ō sF _
 have hq:aG K.K H2 a vs:=(sF.trans Ō.sub).seq e1
 refine⟨fun p hp=>?_,fun hi=>⟨vs,hq,by rw[hi,e2.length];exact Nat.le_refl _⟩⟩
 obtain⟨u,hu,ru⟩:=cH e2.pr hp
 refine⟨⟨vs,u,hq,hu⟩,fun x H' ⟨hH,hx⟩=>?_⟩
 subst hH
 have:vs[i]?=some x:=hx vs hq
 rw[hu] at this
 cases this
 exact⟨F2,Ō,Same.refl _,Same.refl _,Rep.same sF p u ru⟩
theorem Im{K:KK}{L F:Hp}{ps:List PV}{v:V}(h:Rep K F (.tup ps) v):∃a,v=.ref a∧(∃xs,dF K.K F a xs)∧fU K L F (Itt K.K a) ps:=by
 unfold Rep at h
 obtain⟨a,vs,rfl,e1,e2⟩:=h
 refine⟨a,rfl,⟨vs,e1⟩,?_⟩
 intro c' i F2 H2 σ2 ρ2 Ō sF _
 have hq:dF K.K H2 a vs:=Same.tup (sF.trans Ō.sub) e1
 refine⟨fun p hp=>?_,fun hi=>⟨vs,hq,by rw[hi,e2.length];exact Nat.le_refl _⟩⟩
 obtain⟨u,hu,ru⟩:=cH e2.pr hp
 refine⟨⟨vs,u,hq,hu⟩,fun x H' ⟨hH,hx⟩=>?_⟩
 subst hH
 have:vs[i]?=some x:=hx vs hq
 rw[hu] at this
 cases this
 exact⟨F2,Ō,Same.refl _,Same.refl _,Rep.same sF p u ru⟩
theorem q_{K:KK}{c:Ctx}{F:Hp}{a:Addr}{vs:List V}{ps:List PV}(h2:c.L a=some (.lst vs))(h3:Ī K F ps vs):fU K c.L F (Wx K.K a) ps:=by
 intro c' j F2 H2 σ2 ρ2 Ō sF sL
 have hq:aG K.K H2 a vs:=aG.of (sL a _ h2)
 refine⟨fun p hp=>?_,fun hi=>⟨vs,hq,by rw[hi,h3.length];exact Nat.le_refl _⟩⟩
 obtain⟨u,hu,ru⟩:=cH h3.pr hp
 refine⟨⟨vs,u,hq,hu⟩,fun x H' ⟨hH,hx⟩=>?_⟩
 subst hH
 have:vs[j]?=some x:=hx vs hq
 rw[hu] at this
 cases this
 exact⟨F2,Ō,Same.refl _,Same.refl _,Rep.same sF p u ru⟩
theorem fU.mono{K:KK}{L F F1:Hp}{J:It}{ps:List PV}(h:fU K L F J ps)(s:Same F F1):fU K L F1 J ps:=fun c i F2 H σ ρ rel sF sL=>h c i F2 H σ ρ rel (s.trans sF) sL
def mLs(m:M PV):M (List PV):=fun ρ=>(m ρ).bind fun p ρ1=>match p with
 | .lst ps=>.ok ps ρ1
 |_=>.bad
def mSq(m:M PV):M (List PV):=fun ρ=>(m ρ).bind fun p ρ1=>match p with
 | .lst ps=>.ok ps ρ1
 | .tup ps=>.ok ps ρ1
 |_=>.bad
def Sh(i:Nat):M (List PV):=fun ρ=>match ρ[i]? with
 |some (.bw ps)=>.ok ps ρ
 |some (.sh (.lst ps))=>.ok ps ρ
 |some (.ow ps)=>.ok ps (ρ.set i (.sh (.lst ps)))
 |_=>.bad
def wC(i:Nat):M (List PV):=fun ρ=>match ρ[i]? with
 |some (.bw ps)=>.ok ps ρ
 |some (.sh (.lst ps))=>.ok ps ρ
 |some (.sh (.tup ps))=>.ok ps ρ
 |some (.ow ps)=>.ok ps (ρ.set i (.sh (.lst ps)))
 |_=>.bad
section
variable{X:Cx}{cm:String→Addr}{E:L2.St→XK}{e:Expr}{m:M PV}
theorem Df(i:Nat){x:Str}{px:Pos}(hN:X.N[i]?=some x:=by rfl)(hv:DN X.env.scope x:=by first|exact Or.inl rfl|exact Or.inr (Or.inl rfl)|exact Or.inr (Or.inr rfl))(hd:(x== ("__debug__" :Str))=false:=by decide)
 (hcd:(x== ("__classdict__" :Str))=false:=by decide):PE X (.Name x px) (tG (kk X cm) E (rSq (kk X cm)) (wC i)):=PE.wk (eE hN hv hd hcd) fun σ H Q ⟨c,F,ρ,rel,h⟩=>by
 unfold wC at h
 cases e:ρ[i]? with
 |none=>rw[e] at h;exact h.elim
 |some sl=>
  rw[e] at h
  cases sl with
  |no=>exact h.elim
  |rc C ns ps=>exact h.elim
  |ot ps qs=>exact h.elim
  |ow ps=>
   obtain⟨a,vs,z1,z2,z3,z4⟩:=rel.share e
   obtain⟨a',e1,⟨xs,e2⟩,e3⟩:=jD (L:=c.L) z3
   cases e1
   exact⟨.ref a,z1,h _ _ H z4 (Same.upd z2) (Same.refl _) (.inl ⟨a,rfl,⟨xs,z4.sub.seq e2⟩,e3⟩)⟩
  |bw ps=>
   obtain⟨a,vs,h1,h2,h3⟩:=rel.slot i _ e
   exact⟨.ref a,at_of h1,h _ F H rel (Same.refl _) (Same.refl _) (.inl ⟨a,rfl,⟨vs,aG.of (rel.lent a _ h2).1⟩,q_ h2 h3⟩)⟩
  |sh p=>
   obtain⟨v,h1,h2⟩:=rel.slot i _ e
   cases p with
   |lst ps=>
    obtain⟨a,e1,⟨xs,e2⟩,e3⟩:=jD (L:=c.L) h2
    exact⟨v,at_of h1,h v F H rel (Same.refl _) (Same.refl _) (.inl ⟨a,e1,⟨xs,rel.sub.seq e2⟩,e3⟩)⟩
   |tup ps=>
    obtain⟨a,e1,⟨xs,e2⟩,e3⟩:=Im (L:=c.L) h2
    exact⟨v,at_of h1,h v F H rel (Same.refl _) (Same.refl _) (.inr ⟨a,e1,⟨xs,Same.tup rel.sub e2⟩,e3⟩)⟩
   |_=>exact h.elim
theorem Zc9(i:Nat){x:Str}{px:Pos}(hN:X.N[i]?=some x:=by rfl)(hv:DN X.env.scope x:=by first|exact Or.inl rfl|exact Or.inr (Or.inl rfl)|exact Or.inr (Or.inr rfl))(hd:(x== ("__debug__" :Str))=false:=by decide)
 (hcd:(x== ("__classdict__" :Str))=false:=by decide):PE X (.Name x px) (tG (kk X cm) E (rLs (kk X cm)) (Sh i)):=PE.wk (eE hN hv hd hcd) fun σ H Q ⟨c,F,ρ,rel,h⟩=>by
 unfold Sh at h
 cases e:ρ[i]? with
 |none=>rw[e] at h;exact h.elim
 |some sl=>
  rw[e] at h
  cases sl with
  |no=>exact h.elim
  |rc C ns ps=>exact h.elim
  |ot ps qs=>exact h.elim
  |ow ps=>
   obtain⟨a,vs,z1,z2,z3,z4⟩:=rel.share e
   obtain⟨a',e1,⟨xs,e2⟩,e3⟩:=jD (L:=c.L) z3
   cases e1
   exact⟨.ref a,z1,h _ _ H z4 (Same.upd z2) (Same.refl _) ⟨a,rfl,⟨xs,z4.sub.seq e2⟩,e3⟩⟩
  |bw ps=>
   obtain⟨a,vs,h1,h2,h3⟩:=rel.slot i _ e
   exact⟨.ref a,at_of h1,h _ F H rel (Same.refl _) (Same.refl _) ⟨a,rfl,⟨vs,aG.of (rel.lent a _ h2).1⟩,q_ h2 h3⟩⟩
  |sh p=>
   obtain⟨v,h1,h2⟩:=rel.slot i _ e
   cases p with
   |lst ps=>
    obtain⟨a,e1,⟨xs,e2⟩,e3⟩:=jD (L:=c.L) h2
    exact⟨v,at_of h1,h v F H rel (Same.refl _) (Same.refl _) ⟨a,e1,⟨xs,rel.sub.seq e2⟩,e3⟩⟩
   |_=>exact h.elim
def iQ:Nat→List PV→List PV
 |_,[]=>[]
 |k,p::ps=>.tup [.int k,p]::iQ (k+1) ps
theorem rm:∀(k:Nat) (ps:List PV),(iQ k ps).length=ps.length
 |_,[]=>rfl
 |k,_::ps=>congrArg (·+ 1) (rm (k+1) ps)
theorem rz:∀(k:Nat) (ps:List PV) (i:Nat),(iQ k ps)[i]?=ps[i]?.map fun p=>.tup [.int ((k+i:Nat):Int),p]
 |_,[],_=>rfl
 |k,p::ps,0=>rfl
 |k,p::ps,i+1=>by
  show(iQ (k+1) ps)[i]?=_
  rw[rz (k+1) ps i,List.getElem?_cons_succ,show k+1+i=k+(i+1) by omega]
def Io(m:M (List PV)):M (List PV):=fun ρ=>(m ρ).bind fun ps ρ1=>.ok (iQ 0 ps) ρ1
theorem Dg{K:KK}{c:Ctx}{F H:Hp}{σ:L2.St}{ρ:Ŗ}{T:Addr}{p q:PV}{x y:V}(rel:Rel K c F H σ ρ)(hT:H T=none)(r1:Rep K F p x)(r2:Rep K F q y):Rel K c (upd F T (.tup [x,y])) (upd H T (.tup [x,y])) σ ρ∧Rep K (upd F T (.tup [x,y])) (.tup [p,q]) (.ref T):=by
 have hF:=rel.sub.free hT
 refine⟨rel.alloc hT,?_⟩
 unfold Rep
 exact⟨T,[x,y],rfl,dF.of ľ,Ī.cons (Rep.same (Same.upd hF) p x r1) (Ī.cons (Rep.same (Same.upd hF) q y r2) Ī.nil)⟩
theorem Ez{K:KK}{L F:Hp}{a:Addr}{ps:List PV}(h:fU K L F (Wx K.K a) ps):fU K L F (Ite K.K a) (iQ 0 ps):=by
 intro c i F2 H σ ρ rel sF sL
 obtain⟨g,st⟩:=h c i F2 H σ ρ rel sF sL
 refine⟨fun p hp=>?_,fun hi=>st (by rw[hi,rm])⟩
 rw[rz] at hp
 cases eq:ps[i]? with
 |none=>rw[eq] at hp;cases hp
 |some q=>
  rw[eq] at hp
  have hp':PV.tup [.int ((0+i:Nat):Int),q]=p:=Option.some.inj hp
  subst hp'
  obtain⟨⟨xs,x,hq,hx⟩,g2⟩:=g q eq
  refine⟨⟨xs,x,hq,hx⟩,fun y H' ⟨x',T,h1,hT,ey,eH⟩=>?_⟩
  subst ey eH
  obtain⟨F3,mq,s3,_,rp⟩:=g2 x' H ⟨rfl,h1⟩
  obtain⟨r1,r2⟩:=Dg (p:=.int i) (x:=.int i) mq hT (by unfold Rep;rfl) rp
  refine⟨_,r1,s3.trans (Same.upd (mq.sub.free hT)),Same.upd hT,?_⟩
  rw[Nat.zero_add]
  exact r2
theorem Yl{elts:List Expr}{k:Nat}{tp p pos:Pos}{mi:M (List PV)}(hg:Gl X "enumerate")(hm:X.mg "enumerate" =none)(hl:PE X e (tG (kk X cm) E (rLs (kk X cm)) mi))(hs:starEach [e] X.env=[(false,eval e X.env)]:=by exact ř rfl) :
 PI X (.Tuple elts k tp) (.Call (.Name "enumerate" p) [e] [] pos) (tI (kk X cm) E (Io mi)):=fun pins s σ H R I h=>Sg hg hm (cu hl i_ hs) hs pins s σ H R I (by
 obtain⟨c,F,ρ,rel,h⟩:=h
 refine⟨c,F,ρ,rel,h.bind fun ps ρ1 v F1 H1 ĥ s1 s2 q h1=>?_⟩
 obtain⟨a,e1,e2,e3⟩:=q
 subst e1
 exact⟨a,rfl,e2,h1 _ F1 H1 ĥ (Same.refl _) (Same.refl _) (Ez e3)⟩)
def zT(i:Nat)(mo:M RV):M Fl:=fun ρ=>match ρ[i]? with
 |some (.ow _)=>(mo ρ).bind fun r ρ1=>match ρ1[i]?,r with
  |some (.ow ps),.ow qs=>if ps.length+qs.length≤16777216 then .ok .nx (ρ1.set i (.ow (ps++qs))) else .bad
  |_,_=>.bad
 |_=>.bad
theorem Dh{i:Nat}{mo:M RV}{D:Ends}{σ:L2.St}{H:Hp}(h:tS (kk X cm) E (zT i mo) D σ H):FT (tBM X.K "list" Cd (yP i) (Tr (tO (kk X cm) E mo) Zcp)) D σ H:=by
 obtain⟨c,F,ρ,rel,h⟩:=h
 unfold zT at h
 cases e1:ρ[i]? with
 |none=>rw[e1] at h;exact h.elim
 |some sl=>
  rw[e1] at h
  cases sl with
  |ow ps0=>
   obtain⟨a,vs0,z1,z2,z3,z4,z5,z6⟩:=rel.ow e1
   refine⟨.ref a,z1,.inl ⟨rfl,_,aG.of z2⟩,c,F,ρ,rel,?_⟩
   refine Ž.bind h fun r ρ1 v F1 H1 ĥ s1 q h1=>?_
   cases e2:ρ1[i]? with
   |none=>simp only[e2] at h1;exact h1.elim
   |some sl2=>
    simp only[e2] at h1
    cases sl2 with
    |ow ps=>
     cases r with
     |ow qs=>
      obtain⟨b,us,eb,hb1,hb2,hb3,hb4,hb5⟩:=q
      subst eb
      obtain⟨a2,vs,w1,w2,w3,w4,w5,w6⟩:=ĥ.ow e2
      rw[z1] at w1
      cases w1
      dsimp only at h1
      split at h1
      ·rename_i hz
       refine⟨a,b,vs,us,rfl,rfl,w2,hb1,by rw[←w5.length,←hb5.length,ŗ];exact hz,h1 σ F1 _ (ĥ.write w6 z1 ⟨a,vs++us,rfl,ľ,w3,w4,Ī.append w5 hb5⟩ fun _ z=>(V.ref.inj z).symm) (Same.refl _)⟩
      ·exact h1.elim
     |_=>exact h1.elim
    |_=>exact h1.elim
  |_=>exact h.elim
def ZkG(i:Nat):M Fl:=fun ρ=>match ρ[i]? with
 |some (.ow _)=>.ok .nx (ρ.set i (.ow []))
 |_=>.bad
@[simp] theorem ZkH{i:Nat}{ρ:Ŗ}:ZkG i ρ=(match ρ[i]? with
  |some (.ow _)=>.ok .nx (ρ.set i (.ow []))
  |_=>.bad):=rfl
@[simp] theorem ZkI{i:Nat}{mo:M RV}{ρ:Ŗ}:zT i mo ρ=(match ρ[i]? with
  |some (.ow _)=>(mo ρ).bind fun r ρ1=>match ρ1[i]?,r with
   |some (.ow ps),.ow qs=>if ps.length+qs.length≤16777216 then .ok .nx (ρ1.set i (.ow (ps++qs))) else .bad
   |_,_=>.bad
  |_=>.bad):=rfl
@[simp] theorem ZiY{mi:M (List PV)}{ρ:Ŗ}:Io mi ρ=(mi ρ).bind fun ps ρ1=>.ok (iQ 0 ps) ρ1:=rfl
@[simp] theorem ZnS{ρ:Ŗ}:mLs m ρ=(m ρ).bind fun p ρ1=>match p with
  | .lst ps=>.ok ps ρ1
  |_=>.bad:=rfl
@[simp] theorem ZnT{ρ:Ŗ}:mSq m ρ=(m ρ).bind fun p ρ1=>match p with
  | .lst ps=>.ok ps ρ1
  | .tup ps=>.ok ps ρ1
  |_=>.bad:=rfl
@[simp] theorem ZkJ{i:Nat}{ρ:Ŗ}:Sh i ρ=(match ρ[i]? with
  |some (.bw ps)=>.ok ps ρ
  |some (.sh (.lst ps))=>.ok ps ρ
  |some (.ow ps)=>.ok ps (ρ.set i (.sh (.lst ps)))
  |_=>.bad):=rfl
@[simp] theorem ZkK{i:Nat}{ρ:Ŗ}:wC i ρ=(match ρ[i]? with
  |some (.bw ps)=>.ok ps ρ
  |some (.sh (.lst ps))=>.ok ps ρ
  |some (.sh (.tup ps))=>.ok ps ρ
  |some (.ow ps)=>.ok ps (ρ.set i (.sh (.lst ps)))
  |_=>.bad):=rfl
end
end P
namespace P
open PySem PySem.Spec PyProof.Rows L2 M2 M3 M4
theorem Zc_{X:Cx}:PIp X .BitOr (ipI fun i j=>Builtin.bitOr i j):=by
 intro pins s σ H x y v u Q I r1 r2 h
 obtain⟨i,j,e1,e2,q⟩:=h
 subst e1;subst e2
 obtain⟨t,rfl⟩:=r1
 obtain⟨t',rfl⟩:=r2
 exact ior_int ⟨.int _,H,I.tok _,⟨_,rfl⟩,q⟩
def wD(i:Nat)(m:M PV):M Fl:=fun ρ=>match ρ[i]? with
 |some (.sh (.int _))=>(m ρ).bind fun q ρ1=>match ρ1[i]?,q with
  |some (.sh (.int k)),.int j=>.ok .nx (ρ1.set i (.sh (.int (Builtin.bitOr k j))))
  |_,_=>.bad
 |_=>.bad
@[simp] theorem ZiZ{i:Nat}{m:M PV}{ρ:Ŗ}:wD i m ρ=(match ρ[i]? with
  |some (.sh (.int _))=>(m ρ).bind fun q ρ1=>match ρ1[i]?,q with
   |some (.sh (.int k)),.int j=>.ok .nx (ρ1.set i (.sh (.int (Builtin.bitOr k j))))
   |_,_=>.bad
  |_=>.bad):=rfl
section
variable{X:Cx}{cm:String→Addr}{E:L2.St→XK}{e a b:Expr}{m ma mb:M PV}{pos:Pos}
theorem uw{K:KK}{F:Hp}{i:Int}{v:V}(h:Rep K F (.int i) v):v=.int i:=by unfold Rep at h;exact h
theorem Ip{i:Nat}{x:Str}{pos':Pos}(hN:X.N.Nodup)(hi:X.N[i]?=some x)(hx:Loc X.env.scope x)(he:PE X e (tV (kk X cm) E m))(hf:X.fn x=true∨X.env.scope.names.lookup x=some .local:=by first|exact .inl rfl|exact .inr rfl|assumption) :
 PS X (.AugAssign (.Name x pos') .BitOr e pos) (tS (kk X cm) E (wD i m)):=PS.wk (Wv hN hi hx he Zc_ hf) fun D σ H ⟨c,F,ρ,rel,h⟩=>by
 unfold wD at h
 cases e1:ρ[i]? with
 |none=>rw[e1] at h;exact h.elim
 |some sl=>
  rw[e1] at h
  cases sl with
  |sh p=>
   cases p with
   |int k0=>
    obtain⟨v,h1,h2⟩:=rel.slot i _ e1
    cases uw h2
    refine⟨.int k0,at_of h1,c,F,ρ,rel,Ž.bind h fun q ρ1 u F1 H1 ĥ s1 rq h1'=>?_⟩
    cases e2:ρ1[i]? with
    |none=>simp only[e2] at h1';exact h1'.elim
    |some sl2=>
     simp only[e2] at h1'
     cases sl2 with
     |sh p2=>
      cases p2 with
      |int k=>
       cases q with
       |int j=>
        obtain⟨v2,w1,w2⟩:=ĥ.slot i _ e2
        cases uw w2
        rw[h1] at w1
        cases w1
        cases uw rq
        exact⟨k0,j,rfl,rfl,h1' _ F1 H1 (ĥ.put rfl ⟨_,rfl,Rep.int⟩) (Same.refl _)⟩
       |_=>exact h1'.elim
      |_=>exact h1'.elim
     |_=>exact h1'.elim
   |_=>exact h.elim
  |_=>exact h.elim
def Zda:PV→Option PV
 | .int i=>some (.int (Builtin.bitNot i))
 |_=>none
@[simp] theorem Zi0{i:Int}:Zda (.int i)=some (.int (Builtin.bitNot i)):=rfl
def Zdb(m:M PV):M PV:=fun ρ=>(m ρ).bind fun p ρ1=>match p with
 | .int i=>.ok (.int ((Builtin.Int.intBits i:Nat):Int)) ρ1
 |_=>.bad
@[simp] theorem Zi1{ρ:Ŗ}:Zdb m ρ=(m ρ).bind fun p ρ1=>match p with
  | .int i=>.ok (.int ((Builtin.Int.intBits i:Nat):Int)) ρ1
  |_=>.bad:=rfl
def ZkL(m:M PV):M RV:=fun ρ=>(m ρ).bind fun p ρ1=>match p with
 | .lst ps=>.ok (.ow ps.reverse) ρ1
 |_=>.bad
@[simp] theorem ZkM{ρ:Ŗ}:ZkL m ρ=(m ρ).bind fun p ρ1=>match p with
  | .lst ps=>.ok (.ow ps.reverse) ρ1
  |_=>.bad:=rfl
end
section
variable{X:Cx}{K:KK}
end
end P
namespace P
open PySem PySem.Spec PyProof.Rows L2 M2 M3 M4
section
variable{prog:Program}{w:World}{A:Around}{E:Value→Shared→Prop}{s:Shared}
theorem jE{it l:Addr}{i:Nat}{items}{x:Value}{Q:Value→Shared→Prop}(hit:s.heap.IsTupleIter it l i)
 (hl:s.heap.IsTuple l items)(hx:items[i]?=some x)
 (hQ:∀h',h'.IsTupleIter it l (i+1)→Heap.SameBut it s.heap h'→Q x {s with heap:=h'}) :
 wpAny (model prog w) A (Builtin.SmallTypes.nextOf (.ref it)) Q E s:=by
 obtain⟨o,ho,hc,hd⟩:=id hit
 obtain⟨ol,hol,_,nl,hdl⟩:=hl
 unfold Builtin.SmallTypes.nextOf
 refine wpAny_bind (wpAny_callSpecial?_slot (name:=Str.ofString "__next__") hit.typeIs F.slot_tuple_iterator_next
  (wpAny_call_entry F.slot_tuple_iterator_next hit.typeIs F.entry_tuple_iterator_next ?_ (F.args_tuple_iterator_next_1 _)))
 show wpAny _ _ (field (.ref it) 0 >>= _) _ _ s
 refine wpAny_bind (wpAny_field ho hd (x:=.ref l) rfl ?_)
 show wpAny _ _ (if(Value.ref l== Value.none)=true then _ else _) _ _ s
 rw[if_neg (show ¬((Value.ref l== Value.none)=true) from Bool.false_ne_true)]
 show wpAny _ _ (field (.ref it) 1 >>= _) _ _ s
 refine wpAny_bind (wpAny_field ho hd (x:=.int i 0) rfl ?_)
 show wpAny _ _ (seqItems? (.ref l) >>= _) _ _ s
 refine wpAny_bind (wpAny_seqItems hol hdl ?_)
 simp only[Int.toNat_natCast,hx]
 refine wpAny_bind (wpAny_setField ho hd (by simp) (wpAny_pure ⟨x,rfl,wpAny_pure (hQ _ ?_ (Heap.SameBut.update ..))⟩))
 exact⟨_,Heap.get?_update_self _ ho (Obj.isFreed_of_fields (Obj.data_mapFields hd _)),(Obj.cls_mapFields ..).trans hc,by
  rw[Obj.data_mapFields hd];simp[rawInt]⟩
theorem j_{it l:Addr}{i:Nat}{items}{Q:Value→Shared→Prop}(hh:A.handled=none)
 (hit:s.heap.IsTupleIter it l i)(hl:s.heap.IsTuple l items)(hx:items[i]?=none)
 (hE:∀h' e,Heap.ExtBut it s.heap h'→(∃o,h'.get? e=some o∧o.cls=.type "StopIteration")→E (.ref e) {s with heap:=h'}) :
 wpAny (model prog w) A (Builtin.SmallTypes.nextOf (.ref it)) Q E s:=by
 obtain⟨o,ho,hc,hd⟩:=id hit
 obtain⟨ol,hol,_,nl,hdl⟩:=hl
 unfold Builtin.SmallTypes.nextOf
 refine wpAny_bind (wpAny_callSpecial?_slot (name:=Str.ofString "__next__") hit.typeIs F.slot_tuple_iterator_next
  (wpAny_call_entry F.slot_tuple_iterator_next hit.typeIs F.entry_tuple_iterator_next ?_ (F.args_tuple_iterator_next_1 _)))
 show wpAny _ _ (field (.ref it) 0 >>= _) _ _ s
 refine wpAny_bind (wpAny_field ho hd (x:=.ref l) rfl ?_)
 show wpAny _ _ (if(Value.ref l== Value.none)=true then _ else _) _ _ s
 rw[if_neg (show ¬((Value.ref l== Value.none)=true) from Bool.false_ne_true)]
 show wpAny _ _ (field (.ref it) 1 >>= _) _ _ s
 refine wpAny_bind (wpAny_field ho hd (x:=.int i 0) rfl ?_)
 show wpAny _ _ (seqItems? (.ref l) >>= _) _ _ s
 refine wpAny_bind (wpAny_seqItems hol hdl ?_)
 simp only[Int.toNat_natCast,hx]
 refine wpAny_bind (wpAny_rule (wpAny_bind (wpAny_setField ho hd (by simp) ?_)))
 show wpAny _ _ (newExc (.type "StopIteration") [] >>= _) _ _ _
 refine wpAny_bind ?_
 simp only[newExc,newTuple]
 refine wpAny_bind (wpAny_newObj_type ?_ (by size_fits))
 refine wpAny_bind (m:=firstArgMember _ _) (wpAny_of_eq (a:=Value.none) (by first|rfl|(simp only[firstArgMember];rfl)) ?_)
 refine wpAny_newObj_type ?_ (by size_fits)
 simp only[raiseNew]
 refine wpAny_bind (wpAny_handled ?_)
 first|rw[show A.in1.handled=none from hh]|rw[hh]
 refine wpAny_bind (wpAny_pure (wpAny_throw ?_))
 exact hE _ _ (((Heap.SameBut.update ..).extBut.push _).push _) ⟨_,Heap.get?_push_size _ rfl,rfl⟩
end
theorem wF{prog:Program}{w:World}{A:Around}(hh:A.handled=none)(it l:Addr)(hne:l≠it)(items:Array Value) :
 Draws prog w A it [it,l] items.size (fun i v=>items[i]?=some v) (fun i h=>h.IsTupleIter it l i∧h.IsTuple l items) where
 live:=fun _ _ st=>let ⟨o,ho,_⟩:=st.1;⟨o,ho⟩
 frame:=fun _ _ _ st hk=>⟨let ⟨o,ho,r⟩:=st.1;⟨o,hk it (by simp) o ho,r⟩,let ⟨o,ho,r⟩:=st.2;⟨o,hk l (by simp) o ho,r⟩⟩
 item:=fun i s Q E hi st hQ=>by
  refine jE st.1 st.2 (x:=items[i]) (by simp[hi]) fun h' hit' hs'=>?_
  exact hQ _ h' s.toks (by simp[hi]) ⟨hit',st.2.extBut hs'.extBut hne⟩ hs'
 done:=fun s Q E st hE=>j_ hh st.1 st.2 (by simp) hE
structure ZAp(z TI TO i1 i2:Addr)(f1 f2:List Addr):Prop where
 TIz:TI≠z
 TOz:TO≠z
 i1z:i1≠z
 i2z:i2≠z
 TITO:TI≠TO
 TIi1:TI≠i1
 TIi2:TI≠i2
 TOi1:TO≠i1
 TOi2:TO≠i2
 i12:i1≠i2
 z1:z∉f1
 z2:z∉f2
 t1:TO∉f1
 t2:TO∉f2
 a1:i1∉f2
 a2:i2∉f1
section
variable{prog:Program}{w:World}{A:Around}{E:Value→Shared→Prop}{s:Shared}
theorem oA{z TI TO i1 i2:Addr}{f1 f2:List Addr}{n1 n2 k1 k2:Nat}{P1 P2:Nat→Value→Prop}{S1 S2:Nat→Heap→Prop}{a b:Value}{Q:Value→Shared→Prop}(D:ZAp z TI TO i1 i2 f1 f2)
 (D1:Draws prog w A i1 f1 n1 P1 S1)(D2:Draws prog w A i2 f2 n2 P2 S2)
 (hz:IsZip s.heap z TI TO .none)(hTI:IsPair s.heap TI (.ref i1) (.ref i2))(hTO:IsPair s.heap TO a b)(h1:S1 k1 s.heap)(h2:S2 k2 s.heap)(hk1:k1<n1)(hk2:k2<n2)
 (hQ:∀x y h' tk,P1 k1 x→P2 k2 y→IsZip h' z TI TO (rawInt s.heap.objs.size)→IsPair h' TO x y→S1 (k1+1) h'→S2 (k2+1) h'→IsPair h' s.heap.objs.size x y→h'.objs.size=s.heap.objs.size+1→
   (∀c o,c≠z→c≠TO→c≠i1→c≠i2→s.heap.get? c=some o→h'.get? c=some o)→Q (.ref s.heap.objs.size) {s with heap:=h',toks:=tk}) :
 wpAny (model prog w) A (Builtin.«zip.__next__» ⟨[.ref z],[]⟩) (fun fin s'=>∃v,fin=.done (.ret v)∧Q v s') E s:=by
 have Uh:∀{b},b∈f1→b≠z∧b≠TO∧b≠i2:=fun hb=>⟨fun e=>D.z1 (e▸hb),fun e=>D.t1 (e▸hb),fun e=>D.a2 (e▸hb)⟩
 have Sq:∀{b},b∈f2→b≠z∧b≠TO∧b≠i1:=fun hb=>⟨fun e=>D.z2 (e▸hb),fun e=>D.t2 (e▸hb),fun e=>D.a1 (e▸hb)⟩
 obtain⟨hp,g,d,tk0,os⟩:=s
 show wpAny _ _ (field (.ref z) 2 >>= _) _ _ _
 refine wpAny_bind (wpAny_field hz rfl (x:=.bool false) rfl ?_)
 show wpAny _ _ (field (.ref z) 3 >>= _) _ _ _
 refine wpAny_bind (wpAny_field hz rfl (x:=.ref TI) rfl ?_)
 refine wpAny_bind (wpAny_seqItems hTI rfl ?_)
 show wpAny _ _ (Builtin.SmallTypes.ownedTupleIsFree (.ref z) >>= _) _ _ _
 refine wpAny_bind ?_
 unfold Builtin.SmallTypes.ownedTupleIsFree
 refine wpAny_bind (wpAny_field hz rfl (x:=.none) rfl (wpAny_pure ?_))
 simp only[if_true]
 refine wpAny_bind (wpAny_rule ?_)
 refine wpAny_bind (wpAny_field hz rfl (x:=.ref TO) rfl ?_)
 refine wpAny_bind (wpAny_setField_rec hz (by simp) fun h₁ hz₁ hs₁=>?_)
 replace hs₁:Heap.SameBut z hp h₁:= hs₁
 replace hz₁:IsZip h₁ z TI TO .ellipsis:=hz₁
 refine wpAny_bind ?_
 simp only[List.zipIdx_cons,List.zipIdx_nil,List.forIn_cons,List.forIn_nil]
 refine wpAny_bind (wpAny_bind (wpAny_onRaise ?_))
 show wpAny _ _ (Builtin.SmallTypes.nextOf (.ref i1) >>= _) _ _ _
 refine wpAny_bind (D1.item k1 _ _ _ hk1 (D1.frame _ _ _ h1 fun b hb o e=>hs₁.extBut b o (Uh hb).1 e) fun x h₂ tk hPx h1₂ hs₂=>wpAny_pure ?_)
 replace hs₂:Heap.SameBut i1 h₁ h₂:= hs₂
 have hTO₂:IsPair h₂ TO a b:=hs₂.extBut _ _ D.TOi1 (hs₁.extBut _ _ D.TOz hTO)
 refine wpAny_bind (wpAny_seqItems hTO₂ rfl ?_)
 refine wpAny_bind (wpAny_updateSeq_pair hTO₂ fun h₃ hTO₃ hs₃=>?_)
 replace hs₃:Heap.SameBut TO h₂ h₃:= hs₃
 replace hTO₃:IsPair h₃ TO x b:=hTO₃
 refine wpAny_bind (wpAny_letGo (wpAny_pure ?_))
 refine wpAny_bind (wpAny_bind (wpAny_onRaise ?_))
 show wpAny _ _ (Builtin.SmallTypes.nextOf (.ref i2) >>= _) _ _ _
 refine wpAny_bind (D2.item k2 _ _ _ hk2 (D2.frame _ _ _ h2 fun b hb o e=>hs₃.extBut b o (Sq hb).2.1 (hs₂.extBut b o (Sq hb).2.2 (hs₁.extBut b o (Sq hb).1 e))) fun y h₄ tk' hPy h2₄ hs₄=>wpAny_pure ?_)
 replace hs₄:Heap.SameBut i2 h₃ h₄:= hs₄
 have hTO₄:IsPair h₄ TO x b:=hs₄.extBut _ _ D.TOi2 hTO₃
 refine wpAny_bind (wpAny_seqItems hTO₄ rfl ?_)
 refine wpAny_bind (wpAny_updateSeq_pair hTO₄ fun h₅ hTO₅ hs₅=>?_)
 replace hs₅:Heap.SameBut TO h₄ h₅:= hs₅
 replace hTO₅:IsPair h₅ TO x y:=hTO₅
 refine wpAny_bind (wpAny_letGo (wpAny_pure (wpAny_pure ?_)))
 refine wpAny_bind (wpAny_seqItems hTO₅ rfl ?_)
 refine wpAny_bind (wpAny_newTuple ?_)
 have hsz:h₅.objs.size=hp.objs.size:=by rw[hs₅.1,hs₄.1,hs₃.1,hs₂.1,hs₁.1]
 have hz₅:IsZip h₅ z TI TO .ellipsis:=hs₅.extBut _ _ D.TOz.symm (hs₄.extBut _ _ D.i2z.symm (hs₃.extBut _ _ D.TOz.symm (hs₂.extBut _ _ D.i1z.symm hz₁)))
 have hk₅:∀c o,c≠z→c≠TO→c≠i1→c≠i2→hp.get? c=some o→h₅.get? c=some o:=fun c o c1 c2 c3 c4 e=>
  hs₅.extBut _ _ c2 (hs₄.extBut _ _ c4 (hs₃.extBut _ _ c2 (hs₂.extBut _ _ c3 (hs₁.extBut _ _ c1 e))))
 have h1₅:S1 (k1+1) h₅:= D1.frame _ _ _ h1₂ fun b hb o e=>hs₅.extBut b o (Uh hb).2.1 (hs₄.extBut b o (Uh hb).2.2 (hs₃.extBut b o (Uh hb).2.1 e))
 have h2₅:S2 (k2+1) h₅:= D2.frame _ _ _ h2₄ fun b hb o e=>hs₅.extBut b o (Sq hb).2.1 e
 have hzlt:z<h₅.objs.size:=Heap.lt_size hz₅
 show wpAny _ _ (Builtin.SmallTypes.ownedTupleHandOut (.ref z) (.ref h₅.objs.size) >>= _) _ _ _
 refine wpAny_bind ?_
 unfold Builtin.SmallTypes.ownedTupleHandOut
 have hz₆:IsZip (h₅.push {cls:=.type "tuple",data:=.seq #[x,y]}) z TI TO .ellipsis:=Heap.get?_push_of_some _ hz₅
 refine wpAny_bind (wpAny_setField_rec hz₆ (by simp) fun h₇ hz₇ hs₇=>?_)
 replace hz₇:IsZip h₇ z TI TO (rawInt h₅.objs.size):=hz₇
 refine wpAny_setField_rec hz₇ (by simp) fun h₈ hz₈ hs₈=>?_
 replace hz₈:IsZip h₈ z TI TO (rawInt h₅.objs.size):=hz₈
 have up:∀c o,c≠z→h₅.get? c=some o→h₈.get? c=some o:=fun c o c1 e=>hs₈.extBut _ _ c1 (hs₇.extBut _ _ c1 (Heap.get?_push_of_some _ e))
 have hT₈:IsPair h₈ h₅.objs.size x y:=hs₈.extBut _ _ (Nat.ne_of_gt hzlt) (hs₇.extBut _ _ (Nat.ne_of_gt hzlt) (Heap.get?_push_size _ rfl))
 have hz8:h₈.objs.size=h₅.objs.size+1:=by rw[hs₈.1,hs₇.1,Heap.size_push]
 rw[hsz] at hz₈ hT₈ hz8
 refine wpAny_pure ⟨_,rfl,?_⟩
 show Q (.ref h₅.objs.size) _
 rw[hsz]
 exact hQ x y h₈ tk' hPx hPy hz₈ (up _ _ D.TOz hTO₅) (D1.frame _ _ _ h1₅ fun b hb o e=>up b o (Uh hb).1 e) (D2.frame _ _ _ h2₅ fun b hb o e=>up b o (Sq hb).1 e) hT₈ hz8 fun c o c1 c2 c3 c4 e=>up c o c1 (hk₅ c o c1 c2 c3 c4 e)
theorem qu{z TI TO i1 i2:Addr}{f1 f2:List Addr}{n1 n2 k1 k2:Nat}{P1 P2:Nat→Value→Prop}{S1 S2:Nat→Heap→Prop}{a b:Value}{Q:Fin→Shared→Prop}(D:ZAp z TI TO i1 i2 f1 f2)
 (D1:Draws prog w A i1 f1 n1 P1 S1)(D2:Draws prog w A i2 f2 n2 P2 S2)
 (hz:IsZip s.heap z TI TO .none)(hTI:IsPair s.heap TI (.ref i1) (.ref i2))(hTO:IsPair s.heap TO a b)(h1:S1 k1 s.heap)(h2:S2 k2 s.heap)(hend:k1=n1∨(k1<n1∧k2=n2))
 (hE:∀h' e tk,(∀c o,c≠z→c≠TO→c≠i1→c≠i2→s.heap.get? c=some o→h'.get? c=some o)→(∃o,h'.get? e=some o∧o.cls=.type "StopIteration")→E (.ref e) {s with heap:=h',toks:=tk}) :
 wpAny (model prog w) A (Builtin.«zip.__next__» ⟨[.ref z],[]⟩) Q E s:=by
 have Uh:∀{b},b∈f1→b≠z∧b≠TO∧b≠i2:=fun hb=>⟨fun e=>D.z1 (e▸hb),fun e=>D.t1 (e▸hb),fun e=>D.a2 (e▸hb)⟩
 have Sq:∀{b},b∈f2→b≠z∧b≠TO∧b≠i1:=fun hb=>⟨fun e=>D.z2 (e▸hb),fun e=>D.t2 (e▸hb),fun e=>D.a1 (e▸hb)⟩
 obtain⟨hp,g,d,tk0,os⟩:=s
 show wpAny _ _ (field (.ref z) 2 >>= _) _ _ _
 refine wpAny_bind (wpAny_field hz rfl (x:=.bool false) rfl ?_)
 show wpAny _ _ (field (.ref z) 3 >>= _) _ _ _
 refine wpAny_bind (wpAny_field hz rfl (x:=.ref TI) rfl ?_)
 refine wpAny_bind (wpAny_seqItems hTI rfl ?_)
 show wpAny _ _ (Builtin.SmallTypes.ownedTupleIsFree (.ref z) >>= _) _ _ _
 refine wpAny_bind ?_
 unfold Builtin.SmallTypes.ownedTupleIsFree
 refine wpAny_bind (wpAny_field hz rfl (x:=.none) rfl (wpAny_pure ?_))
 simp only[if_true]
 refine wpAny_bind (wpAny_rule ?_)
 refine wpAny_bind (wpAny_field hz rfl (x:=.ref TO) rfl ?_)
 refine wpAny_bind (wpAny_setField_rec hz (by simp) fun h₁ hz₁ hs₁=>?_)
 replace hs₁:Heap.SameBut z hp h₁:= hs₁
 replace hz₁:IsZip h₁ z TI TO .ellipsis:=hz₁
 refine wpAny_bind ?_
 simp only[List.zipIdx_cons,List.zipIdx_nil,List.forIn_cons,List.forIn_nil]
 refine wpAny_bind (wpAny_bind (wpAny_onRaise ?_))
 show wpAny _ _ (Builtin.SmallTypes.nextOf (.ref i1) >>= _) _ _ _
 rcases hend with rfl|⟨hk1,rfl⟩
 ·refine wpAny_bind (D1.done _ _ _ (D1.frame _ _ _ h1 fun b hb o e=>hs₁.extBut b o (Uh hb).1 e) fun h₂ e hs₂ he=>?_)
  obtain⟨oe,hoe,hce⟩:=he
  replace hs₂:Heap.ExtBut i1 h₁ h₂:= hs₂
  have hz₂:IsZip h₂ z TI TO .ellipsis:=hs₂ _ _ D.i1z.symm hz₁
  have hez:e≠z:=fun x=>by subst x;rw[hz₂] at hoe;cases hoe;simp at hce
  exact wpAny_setField_rec hz₂ (by simp) fun h₃ _ hs₃=>hE h₃ e tk0 (fun c o c1 _ c3 _ x=>hs₃.extBut _ _ c1 (hs₂ _ _ c3 (hs₁.extBut _ _ c1 x))) ⟨oe,hs₃.extBut _ _ hez hoe,hce⟩
 ·refine wpAny_bind (D1.item k1 _ _ _ hk1 (D1.frame _ _ _ h1 fun b hb o e=>hs₁.extBut b o (Uh hb).1 e) fun x h₂ tk hPx h1₂ hs₂=>wpAny_pure ?_)
  replace hs₂:Heap.SameBut i1 h₁ h₂:= hs₂
  have hTO₂:IsPair h₂ TO a b:=hs₂.extBut _ _ D.TOi1 (hs₁.extBut _ _ D.TOz hTO)
  refine wpAny_bind (wpAny_seqItems hTO₂ rfl ?_)
  refine wpAny_bind (wpAny_updateSeq_pair hTO₂ fun h₃ hTO₃ hs₃=>?_)
  replace hs₃:Heap.SameBut TO h₂ h₃:= hs₃
  refine wpAny_bind (wpAny_letGo (wpAny_pure ?_))
  refine wpAny_bind (wpAny_bind (wpAny_onRaise ?_))
  show wpAny _ _ (Builtin.SmallTypes.nextOf (.ref i2) >>= _) _ _ _
  refine wpAny_bind (D2.done _ _ _ (D2.frame _ _ _ h2 fun b hb o e=>hs₃.extBut b o (Sq hb).2.1 (hs₂.extBut b o (Sq hb).2.2 (hs₁.extBut b o (Sq hb).1 e))) fun h₄ e hs₄ he=>?_)
  obtain⟨oe,hoe,hce⟩:=he
  replace hs₄:Heap.ExtBut i2 h₃ h₄:= hs₄
  have hz₄:IsZip h₄ z TI TO .ellipsis:=hs₄ _ _ D.i2z.symm (hs₃.extBut _ _ D.TOz.symm (hs₂.extBut _ _ D.i1z.symm hz₁))
  have hez:e≠z:=fun x=>by subst x;rw[hz₄] at hoe;cases hoe;simp at hce
  exact wpAny_setField_rec hz₄ (by simp) fun h₅ _ hs₅=>hE h₅ e tk (fun c o c1 c2 c3 c4 x=>hs₅.extBut _ _ c1 (hs₄ _ _ c4 (hs₃.extBut _ _ c2 (hs₂.extBut _ _ c3 (hs₁.extBut _ _ c1 x))))) ⟨oe,hs₅.extBut _ _ hez hoe,hce⟩
end
section
variable{prog:Program}{w:World}{A:Around}{E:Value→Shared→Prop}{s:Shared}
theorem kh{z TI TO i1 i2:Addr}{f1 f2:List Addr}{n1 n2 k1 k2:Nat}{P1 P2:Nat→Value→Prop}{S1 S2:Nat→Heap→Prop}{a b:Value}{Q:Option Value→Shared→Prop}(D:ZAp z TI TO i1 i2 f1 f2)
 (D1:Draws prog w A.in1 i1 f1 n1 P1 S1)(D2:Draws prog w A.in1 i2 f2 n2 P2 S2)
 (hz:IsZip s.heap z TI TO .none)(hTI:IsPair s.heap TI (.ref i1) (.ref i2))(hTO:IsPair s.heap TO a b)(h1:S1 k1 s.heap)(h2:S2 k2 s.heap)(hk1:k1<n1)(hk2:k2<n2)
 (hQ:∀x y h' tk,P1 k1 x→P2 k2 y→IsZip h' z TI TO (rawInt s.heap.objs.size)→IsPair h' TO x y→S1 (k1+1) h'→S2 (k2+1) h'→IsPair h' s.heap.objs.size x y→h'.objs.size=s.heap.objs.size+1→
   (∀c o,c≠z→c≠TO→c≠i1→c≠i2→s.heap.get? c=some o→h'.get? c=some o)→Q (some (.ref s.heap.objs.size)) {s with heap:=h',toks:=tk}) :
 wpAny (model prog w) A (pyNext (.ref z)) Q E s:=by
 have hT:s.TypeIs (.ref z) "zip" := ⟨_,hz,rfl⟩
 unfold pyNext
 exact wpAny_bind (wpAny_attempt (wpAny_callSpecial?_slot (name:=Str.ofString "__next__") hT F.slot_zip_next
  (wpAny_call_entry F.slot_zip_next hT F.entry_zip_next
    (oA D D1 D2 hz hTI hTO h1 h2 hk1 hk2 fun x y h' tk a0 b0 a1 a2 a3 a4 a5 a6 a7=>wpAny_pure (hQ x y h' tk a0 b0 a1 a2 a3 a4 a5 a6 a7)) (F.args_zip_next_1 _))))
theorem mD{z TI TO i1 i2:Addr}{f1 f2:List Addr}{n1 n2 k1 k2:Nat}{P1 P2:Nat→Value→Prop}{S1 S2:Nat→Heap→Prop}{a b:Value}{Q:Option Value→Shared→Prop}(D:ZAp z TI TO i1 i2 f1 f2)
 (D1:Draws prog w A.in1 i1 f1 n1 P1 S1)(D2:Draws prog w A.in1 i2 f2 n2 P2 S2)
 (hz:IsZip s.heap z TI TO .none)(hTI:IsPair s.heap TI (.ref i1) (.ref i2))(hTO:IsPair s.heap TO a b)(h1:S1 k1 s.heap)(h2:S2 k2 s.heap)(hend:k1=n1∨(k1<n1∧k2=n2))
 (hQ:∀h' tk,(∀c o,c≠z→c≠TO→c≠i1→c≠i2→s.heap.get? c=some o→h'.get? c=some o)→Q none {s with heap:=h',toks:=tk}):wpAny (model prog w) A (pyNext (.ref z)) Q E s:=by
 have hT:s.TypeIs (.ref z) "zip" := ⟨_,hz,rfl⟩
 unfold pyNext
 refine wpAny_bind (wpAny_attempt (wpAny_callSpecial?_slot (name:=Str.ofString "__next__") hT F.slot_zip_next
  (wpAny_call_entry F.slot_zip_next hT F.entry_zip_next (qu D D1 D2 hz hTI hTO h1 h2 hend fun h' e tk hk he=>?_) (F.args_zip_next_1 _))))
 obtain⟨o,ho,hc⟩:=he
 refine wpAny_bind (wpAny_isInstance (T:= "StopIteration") (b:=true) ⟨o,ho,hc⟩ isSubtype_stop ?_)
 exact wpAny_pure (hQ _ _ hk)
end
def qb(K:PySem.W.Frag)(b:Bool)(H:Hp)(a:Addr)(xs:List V):Prop:=if b=true then dF K H a xs else aG K H a xs
def fL(b:Bool)(h:Heap)(it l:Addr)(i:Nat):Prop:=if b=true then h.IsTupleIter it l i else h.IsListIter it l i
def EY(b:Bool)(h:Heap)(l:Addr)(its:Array Value):Prop:=if b=true then h.IsTuple l its else h.IsList l its
def nmB(b:Bool):String:=if b=true then "tuple_iterator" else "list_iterator"
theorem mX{prog:Program}{w:World}{A:Around}(b:Bool)(hh:A.handled=none)(it l:Addr)(hne:l≠it)(items:Array Value) :
 Draws prog w A it [it,l] items.size (fun i v=>items[i]?=some v) (fun i h=>fL b h it l i∧EY b h l items):=by
 cases b with
 |true=>exact wF hh it l hne items
 |false=>exact Draws.list hh it l hne items
theorem fL.ex{b:Bool}{h:Heap}{it l:Addr}{i:Nat}(x:fL b h it l i):∃o,h.get? it=some o∧o.cls=.type (nmB b)∧o.data=.fields #[.ref l,.int i 0]:=by
 cases b with
 |true=>exact x
 |false=>exact x
theorem fL.of{b:Bool}{h:Heap}{it l:Addr}{i:Nat}{o:Obj}(h1:h.get? it=some o)(h2:o.cls=.type (nmB b))(h3:o.data=.fields #[.ref l,.int i 0]):fL b h it l i:=by
 cases b with
 |true=>exact⟨o,h1,h2,h3⟩
 |false=>exact⟨o,h1,h2,h3⟩
theorem fL.keep{b:Bool}{h h':Heap}{it l:Addr}{i:Nat}(x:fL b h it l i)(k:∀o,h.get? it=some o→h'.get? it=some o):fL b h' it l i:=by
 obtain⟨o,h1,h2,h3⟩:=x.ex
 exact .of (k o h1) h2 h3
def Ss(K:PySem.W.Frag)(b:Bool)(H:Hp)(l:Addr)(i:Nat)(xs:List V):Prop:=xs.length≤i∧∀j,j<i→∃ys y,qb K b H l ys∧ys[j]?=some y
def Itz(K:PySem.W.Frag)(b1 b2:Bool)(l1 l2:Addr):It:=
 ⟨fun i H=>(∃xs x,qb K b1 H l1 xs∧xs[i]?=some x)∧∃ys y,qb K b2 H l2 ys∧ys[i]?=some y,
  fun i H z H'=>∃x y T,(∀xs,qb K b1 H l1 xs→xs[i]?=some x)∧(∀ys,qb K b2 H l2 ys→ys[i]?=some y)∧H T=none∧z=.ref T∧H'=upd H T (.tup [x,y]),
  fun i H=>(∃xs,qb K b1 H l1 xs)∧(∃ys,qb K b2 H l2 ys)∧((∃xs,qb K b1 H l1 xs∧Ss K b1 H l1 i xs)∨((∃xs x,qb K b1 H l1 xs∧xs[i]?=some x)∧∃ys,qb K b2 H l2 ys∧Ss K b2 H l2 i ys))⟩
section
variable{X:Cx}{pins:List (Addr×Obj)}{σ:L2.St}{H:Hp}{s:Shared}
theorem rC{b:Bool}{a:Addr}{xs:List V}(I:Inv X pins σ H s)(h:qb X.K b H a xs):∃its:List Value,Vals xs its∧EY b s.heap a its.toArray∧xs.length≤sizeLine:=by
 cases b with
 |true=>
  obtain⟨its,r,p,z⟩:=I.tuple h
  exact⟨its,r,p,z⟩
 |false=>
  obtain⟨its,r,p,z⟩:=I.list h
  exact⟨its,r,p.isList,z⟩
theorem rD{b:Bool}{a:Addr}{xs ys:List V}(I:Inv X pins σ H s)(h:qb X.K b H a xs)(h':qb X.K b H a ys):xs=ys:=by
 cases b with
 |true=>exact I.qD h h'
 |false=>exact I.m_ h h'
theorem Ui{b:Bool}{l:Addr}{i:Nat}{xs:List V}(I:Inv X pins σ H s)(h:qb X.K b H l xs)(q:Ss X.K b H l i xs):xs.length=i:=by
 obtain⟨h1,h2⟩:=q
 refine Nat.le_antisymm h1 ?_
 cases i with
 |zero=>omega
 |succ i=>
  obtain⟨ys,y,e1,e2⟩:=h2 i (by omega)
  rw[rD I e1 h] at e2
  have:=(List.getElem?_eq_some_iff.mp e2).1
  omega
theorem Di{bb:Bool}{a b:Addr}{xs:List V}(I:Inv X pins σ H s)(f:fW X pins H b)(h:qb X.K bb H a xs):a≠b:=by
 intro e
 subst e
 have hk:∀o,X.K.lookup a=some o→False:=fun o e=>by
  have hb:=I.ok.mod.kin a o e
  rcases f.2.2.2.1 with z|z
  ·exact I.ok.DP a o hb z
  ·exact absurd (Nat.lt_of_lt_of_le (Heap.lt_size (I.ok.bs a o hb).1) z) (Nat.lt_irrefl _)
 have hr:∀u,Rd H a u→False:=fun u r=>by
  rcases r with r|⟨o,r⟩<;>(rw[f.1] at r;cases r)
 cases bb with
 |true=>
  have h':dF X.K H a xs:=h
  rcases h' with q|⟨o,_,_,q,_⟩
  ·exact hr _ q
  ·exact hk o q
 |false=>
  have h':aG X.K H a xs:=h
  rcases h' with q|⟨o,_,_,q,_⟩
  ·exact hr _ q
  ·exact hk o q
end
theorem Ir{P:Program}{w:World}{K:PySem.W.Frag}{elts:List Expr}{k:Nat}{pos:Pos}(b1 b2:Bool)(l1 l2 z TI TO i1 i2:Addr)(nd:[z,TI,TO,i1,i2].Nodup) :
 Turn P w K (.Tuple elts k pos) (Itz K b1 b2 l1 l2) [z,TI,TO,i1,i2] z (fun i h=>IsZip h z TI TO .none∧IsPair h TI (.ref i1) (.ref i2)∧(∃a b,IsPair h TO a b)∧fL b1 h i1 l1 i∧fL b2 h i2 l2 i) where
 mem:=by simp
 obj:=fun i h st b hb=>by
  obtain⟨hz,hTI,⟨x,y,hTO⟩,h1,h2⟩:=st
  simp only[List.mem_cons,List.not_mem_nil,or_false] at hb
  rcases hb with rfl|rfl|rfl|rfl|rfl
  ·exact⟨_,hz,fun v z=>by have z':Data.fields _=Data.cell v:=z;cases z'⟩
  ·exact⟨_,hTI,fun v z=>by have z':Data.seq _ _=Data.cell v:=z;cases z'⟩
  ·exact⟨_,hTO,fun v z=>by have z':Data.seq _ _=Data.cell v:=z;cases z'⟩
  ·obtain⟨o,e1,c,d⟩:=h1.ex
   exact⟨o,e1,fun v z=>by rw[d] at z;cases z⟩
  ·obtain⟨o,e1,c,d⟩:=h2.ex
   exact⟨o,e1,fun v z=>by rw[d] at z;cases z⟩
 keep:=fun i h h' st k=>by
  obtain⟨hz,hTI,⟨x,y,hTO⟩,h1,h2⟩:=st
  exact⟨k z (by simp) _ hz,k TI (by simp) _ hTI,⟨x,y,k TO (by simp) _ hTO⟩,h1.keep fun o q=>k i1 (by simp) o q,h2.keep fun o q=>k i2 (by simp) o q⟩
 item:=by
  intro X hP hw hK hc i pins s σ H E I hf st hg
  subst hP hw hK
  obtain⟨hz,hTI,⟨a,b,hTO⟩,h1,h2⟩:=st
  obtain⟨⟨xs,x,hq1,hx⟩,ys,y,hq2,hy⟩:=hg
  obtain⟨zU,rv1,p1,_⟩:=rC I hq1
  obtain⟨its2,rv2,p2,_⟩:=rC I hq2
  obtain⟨u1,hu1,ru1⟩:=rv1.get hx
  obtain⟨u2,hu2,ru2⟩:=rv2.get hy
  have ne1:∀b∈[z,TI,TO,i1,i2],l1≠b:=fun b hb=>Di I (hf b hb) hq1
  have ne2:∀b∈[z,TI,TO,i1,i2],l2≠b:=fun b hb=>Di I (hf b hb) hq2
  have hh:X.A.in1.handled=none:=I.ok.hd hc
  simp only[List.nodup_cons,List.mem_cons,List.not_mem_nil,or_false,not_or,List.nodup_nil,not_false_eq_true,and_true] at nd
  obtain⟨⟨n1,n2,n3,n4⟩,⟨n5,n6,n7⟩,⟨n8,n9⟩,n10⟩:=nd
  have D:ZAp z TI TO i1 i2 [i1,l1] [i2,l2]:=by
   refine⟨Ne.symm n1,Ne.symm n2,Ne.symm n3,Ne.symm n4,n5,n6,n7,n8,n9,n10,?_,?_,?_,?_,?_,?_⟩<;>simp only[List.mem_cons,List.not_mem_nil,or_false,not_or]
   ·exact⟨n3,(ne1 z (by simp)).symm⟩
   ·exact⟨n4,(ne2 z (by simp)).symm⟩
   ·exact⟨n8,(ne1 TO (by simp)).symm⟩
   ·exact⟨n9,(ne2 TO (by simp)).symm⟩
   ·exact⟨n10,(ne2 i1 (by simp)).symm⟩
   ·exact⟨Ne.symm n10,(ne1 i2 (by simp)).symm⟩
  have lt1:i<zU.toArray.size:=by
   rw[List.size_toArray]
   exact(List.getElem?_eq_some_iff.mp hu1).1
  have GK:i<its2.toArray.size:=by
   rw[List.size_toArray]
   exact(List.getElem?_eq_some_iff.mp hu2).1
  have hlt:∀b∈[z,TI,TO,i1,i2],b<s.heap.objs.size:=fun b hb=>by
   simp only[List.mem_cons,List.not_mem_nil,or_false] at hb
   rcases hb with rfl|rfl|rfl|rfl|rfl
   ·exact Heap.lt_size hz
   ·exact Heap.lt_size hTI
   ·exact Heap.lt_size hTO
   ·obtain⟨o,e1,_⟩:=h1.ex;exact Heap.lt_size e1
   ·obtain⟨o,e1,_⟩:=h2.ex;exact Heap.lt_size e1
  refine kh D (mX (A:=X.A.in1) b1 hh i1 l1 (ne1 i1 (by simp)) zU.toArray) (mX (A:=X.A.in1) b2 hh i2 l2 (ne2 i2 (by simp)) its2.toArray) hz hTI hTO ⟨h1,p1⟩ ⟨h2,p2⟩ lt1 GK fun x' y' h' tk hPx hPy hz' ZkN s1 s2 hT hsz hk=>?_
  have ex:x'=u1:=by
   have:zU.toArray[i]?=some x':=hPx
   rw[show zU.toArray[i]?=some u1 by simpa using hu1] at this
   exact(Option.some.inj this).symm
  have ey:y'=u2:=by
   have:its2.toArray[i]?=some y':=hPy
   rw[show its2.toArray[i]?=some u2 by simpa using hu2] at this
   exact(Option.some.inj this).symm
  subst ex ey
  refine⟨.ref s.heap.objs.size,rfl,wpAny_letOwnedTupleGo_zip hz' fun h'' hz'' hs'=>?_⟩
  have hs2:Heap.SameBut z h' h'':=hs'
  have I2:=ou (fp:=[z,TI,TO,i1,i2]) (h':=h'') (t':=tk) I ru1 ru2 ⟨_,(hs2.2 _ (Nat.ne_of_gt (hlt z (by simp)))).trans hT,rfl⟩ (fun b o hb q=>by
   have hne:∀c∈[z,TI,TO,i1,i2],b≠c:=fun c hc e=>hb (e▸hc)
   exact(hs2.2 b (hne z (by simp))).trans (hk b o (hne z (by simp)) (hne TO (by simp)) (hne i1 (by simp)) (hne i2 (by simp)) q)) hf hlt
  refine⟨.ref s.heap.objs.size,_,I2,rfl,⟨x,y,s.heap.objs.size,fun zs hzs=>by rw[rD I hzs hq1];exact hx,fun zs hzs=>by rw[rD I hzs hq2];exact hy,I.fresh,rfl,rfl⟩,
   ⟨hz'',(hs2.2 TI (Ne.symm n1)).trans (hk TI _ (Ne.symm n1) n5 n6 n7 hTI),⟨_,_,(hs2.2 TO (Ne.symm n2)).trans ZkN⟩,s1.1.keep fun o q=>(hs2.2 i1 (Ne.symm n3)).trans q,s2.1.keep fun o q=>(hs2.2 i2 (Ne.symm n4)).trans q⟩,fun b hb=>?_⟩
  rw[į (Nat.ne_of_lt (hlt b hb))];exact(hf b hb).1
 done:=by
  intro X hP hw hK hc i pins s σ H E I hf st hg
  subst hP hw hK
  obtain⟨hz,hTI,⟨a,b,hTO⟩,h1,h2⟩:=st
  obtain⟨⟨xs,hq1⟩,⟨ys,hq2⟩,hend'⟩:=hg
  have hend:xs.length=i∨(i<xs.length∧ys.length=i):=by
   rcases hend' with⟨xs',q1,q2⟩|⟨⟨xs',x,q1,q2⟩,ys',q3,q4⟩
   ·left;rw[rD I hq1 q1];exact Ui I q1 q2
   ·right
    rw[rD I hq1 q1,rD I hq2 q3]
    exact⟨(List.getElem?_eq_some_iff.mp q2).1,Ui I q3 q4⟩
  obtain⟨zU,rv1,p1,_⟩:=rC I hq1
  obtain⟨its2,rv2,p2,_⟩:=rC I hq2
  have hl1:=rv1.length
  have hl2:=rv2.length
  have ne1:∀b∈[z,TI,TO,i1,i2],l1≠b:=fun b hb=>Di I (hf b hb) hq1
  have ne2:∀b∈[z,TI,TO,i1,i2],l2≠b:=fun b hb=>Di I (hf b hb) hq2
  have hh:X.A.in1.handled=none:=I.ok.hd hc
  simp only[List.nodup_cons,List.mem_cons,List.not_mem_nil,or_false,not_or,List.nodup_nil,not_false_eq_true,and_true] at nd
  obtain⟨⟨n1,n2,n3,n4⟩,⟨n5,n6,n7⟩,⟨n8,n9⟩,n10⟩:=nd
  have D:ZAp z TI TO i1 i2 [i1,l1] [i2,l2]:=by
   refine⟨Ne.symm n1,Ne.symm n2,Ne.symm n3,Ne.symm n4,n5,n6,n7,n8,n9,n10,?_,?_,?_,?_,?_,?_⟩<;>simp only[List.mem_cons,List.not_mem_nil,or_false,not_or]
   ·exact⟨n3,(ne1 z (by simp)).symm⟩
   ·exact⟨n4,(ne2 z (by simp)).symm⟩
   ·exact⟨n8,(ne1 TO (by simp)).symm⟩
   ·exact⟨n9,(ne2 TO (by simp)).symm⟩
   ·exact⟨n10,(ne2 i1 (by simp)).symm⟩
   ·exact⟨Ne.symm n10,(ne1 i2 (by simp)).symm⟩
  refine mD D (mX (A:=X.A.in1) b1 hh i1 l1 (ne1 i1 (by simp)) zU.toArray) (mX (A:=X.A.in1) b2 hh i2 l2 (ne2 i2 (by simp)) its2.toArray) hz hTI hTO ⟨h1,p1⟩ ⟨h2,p2⟩ ?_ fun h' tk hk=>⟨rfl,turns (fp:=[z,TI,TO,i1,i2]) (t':=tk) I (fun b o hb q=>?_) hf⟩
  ·rw[List.size_toArray,List.size_toArray]
   omega
  ·have hne:∀c∈[z,TI,TO,i1,i2],b≠c:=fun c hc e=>hb (e▸hc)
   exact hk b o (hne z (by simp)) (hne TO (by simp)) (hne i1 (by simp)) (hne i2 (by simp)) q
 self:=fun _ _ _ _ _ st h=>wpAny_pyIter_zip st.1 h
section
abbrev zB1(b:Bool)(h:Heap)(l1:Addr):Heap:=h.push {cls:=.type (nmB b),data:=.fields #[.ref l1,.int 0 0]}
abbrev zB2(b b':Bool)(h:Heap)(l1 l2:Addr):Heap:=(zB1 b h l1).push {cls:=.type (nmB b'),data:=.fields #[.ref l2,.int 0 0]}
abbrev zB3(b b':Bool)(h:Heap)(l1 l2:Addr):Heap:=(zB2 b b' h l1 l2).push {cls:=.type "tuple",data:=.seq #[.ref h.objs.size,.ref (zB1 b h l1).objs.size]}
abbrev zB4(b b':Bool)(h:Heap)(l1 l2:Addr):Heap:=(zB3 b b' h l1 l2).push {cls:=.type "tuple",data:=.seq #[.none,.none]}
abbrev Ym(b b':Bool)(h:Heap)(l1 l2:Addr):Heap:=(zB4 b b' h l1 l2).push {cls:=.type "zip",data:=.fields #[.none,.bool false,.bool false,.ref (zB2 b b' h l1 l2).objs.size,.ref (zB3 b b' h l1 l2).objs.size]}
theorem wG{prog:Program}{w:World}{A:Around}{E:Value→Shared→Prop}{s:Shared}{b:Bool}{l:Addr}{its:Array Value}{Q:Value→Shared→Prop}(hl:EY b s.heap l its)
 (hQ:Q (.ref s.heap.objs.size) {s with heap:=s.heap.push {cls:=.type (nmB b),data:=.fields #[.ref l,.int 0 0]}}):wpAny (model prog w) A (pyIter (.ref l)) Q E s:=by
 cases b with
 |true=>exact wpAny_pyIter_tuple hl hQ
 |false=>exact wpAny_pyIter_list hl hQ
theorem EY.push{b:Bool}{h:Heap}{l:Addr}{its:Array Value}(x:EY b h l its)(o:Obj):EY b (h.push o) l its:=by
 cases b with
 |true=>exact Heap.IsTuple.push x o
 |false=>exact Heap.IsList.push x o
theorem wH(b b':Bool)(l1 l2:Addr)(xs ys:Array Value) :
 Meets (Builtin.«zip.__new__» ⟨[.type "zip",.ref l1,.ref l2],[]⟩) (fun _ R s=>EY b s.heap l1 xs∧EY b' s.heap l2 ys∧
  R (.ok (.ret (.ref (zB4 b b' s.heap l1 l2).objs.size))) {s with heap:=Ym b b' s.heap l1 l2}):=
 .of_wp fun prog w A R s h=>by
   obtain⟨hp,g,d,tk,os⟩:=s;obtain⟨hl1,hl2,h⟩:=h
   have hsub:=sub_zip
   have hL1:EY b (Shared.heap ⟨hp,g,d,tk,os⟩) l1 xs:=hl1
   have hL2:EY b' (Shared.heap ⟨hp.push {cls:=.type (nmB b),data:=.fields #[.ref l1,.int 0 0]},g,d,tk,os⟩) l2 ys:=EY.push hl2 _
   wp_walk using wG hL1,wG hL2
   exact⟨_,rfl,h⟩
variable{prog:Program}{w:World}{A:Around}{E:Value→Shared→Prop}{s:Shared}
theorem zV{b b':Bool}{l1 l2:Addr}{xs ys:Array Value}{Q:Value→Shared→Prop}(hl1:EY b s.heap l1 xs)(hl2:EY b' s.heap l2 ys)
 (h:∀h',IsZip h' (s.heap.objs.size+4) (s.heap.objs.size+2) (s.heap.objs.size+3) .none→IsPair h' (s.heap.objs.size+2) (.ref s.heap.objs.size) (.ref (s.heap.objs.size+1))→
   IsPair h' (s.heap.objs.size+3) .none .none→fL b h' s.heap.objs.size l1 0→fL b' h' (s.heap.objs.size+1) l2 0→h'.objs.size=s.heap.objs.size+5→
   (∀c o,s.heap.get? c=some o→h'.get? c=some o)→Q (.ref (s.heap.objs.size+4)) {s with heap:=h'}) :
 wpAny (model prog w) A (call (.type "zip") [.ref l1,.ref l2]) Q E s:=by
 refine callType_new F.called_zip (by decide) (F.typeCall_zip_2 _ _) (F.newCall_zip_2 _ _) (fun obj=>F.args_object_init_3 obj _ _) F.entry_zip_new
  (wH b b' l1 l2 xs ys) ⟨hl1,hl2,?_⟩
 have z1:(zB1 b s.heap l1).objs.size=s.heap.objs.size+1:=Heap.size_push ..
 have z2:(zB2 b b' s.heap l1 l2).objs.size=s.heap.objs.size+2:=by rw[Heap.size_push,z1]
 have z3:(zB3 b b' s.heap l1 l2).objs.size=s.heap.objs.size+3:=by rw[Heap.size_push,z2]
 have z4:(zB4 b b' s.heap l1 l2).objs.size=s.heap.objs.size+4:=by rw[Heap.size_push,z3]
 have z5:(Ym b b' s.heap l1 l2).objs.size=s.heap.objs.size+5:=by rw[Heap.size_push,z4]
 have g5:(Ym b b' s.heap l1 l2).get? (zB4 b b' s.heap l1 l2).objs.size=some _:=Heap.get?_push_size _ rfl
 have g4:(Ym b b' s.heap l1 l2).get? (zB3 b b' s.heap l1 l2).objs.size=some _:=Heap.get?_push_of_some _ (Heap.get?_push_size _ rfl)
 have g3:(Ym b b' s.heap l1 l2).get? (zB2 b b' s.heap l1 l2).objs.size=some _:=Heap.get?_push_of_some _ (Heap.get?_push_of_some _ (Heap.get?_push_size _ rfl))
 have g2:(Ym b b' s.heap l1 l2).get? (zB1 b s.heap l1).objs.size=some _:=Heap.get?_push_of_some _ (Heap.get?_push_of_some _ (Heap.get?_push_of_some _ (Heap.get?_push_size _ rfl)))
 have g1:(Ym b b' s.heap l1 l2).get? s.heap.objs.size=some _:=Heap.get?_push_of_some _ (Heap.get?_push_of_some _ (Heap.get?_push_of_some _ (Heap.get?_push_of_some _ (Heap.get?_push_size _ rfl))))
 show _∧_
 rw[z2,z3,z4] at g5
 rw[z1,z2] at g3
 rw[z3] at g4
 rw[z1] at g2
 rw[z4]
 exact⟨⟨_,g5,rfl⟩,h _ g5 g3 g4 (.of g1 rfl rfl) (.of g2 rfl rfl) z5 fun c o x=>
  Heap.get?_push_of_some _ (Heap.get?_push_of_some _ (Heap.get?_push_of_some _ (Heap.get?_push_of_some _ (Heap.get?_push_of_some _ x))))⟩
end
section
variable{X:Cx}{elts:List Expr}{k:Nat}{tp:Pos}
def ZkO(K:PySem.W.Frag)(ta:TA):TI:=fun σ H R=>ta σ H fun vs H1=>∃b1 b2 l1 l2,vs=[.ref l1,.ref l2]∧(∃xs,qb K b1 H1 l1 xs)∧(∃xs,qb K b2 H1 l2 xs)∧R (Itz K b1 b2 l1 l2) H1
theorem Yn{e1 e2:Expr}{ta:TA}{p pos:Pos}(hg:Gl X "zip")(hm:X.mg "zip" =none)(ha:PA X [e1,e2] ta)(hs:starEach [e1,e2] X.env=[(false,eval e1 X.env),(false,eval e2 X.env)]:=by exact GX rfl rfl)(hs2:starEach [e2] X.env=[(false,eval e2 X.env)]:=by exact ř rfl) :
 PI X (.Tuple elts k tp) (.Call (.Name "zip" p) [e1,e2] [] pos) (ZkO X.K ta):=by
 intro pins s σ H R I h
 refine Call_ (jO I hg hm boot_zip (PyProof.Rows.callWith_type1 (Ų (ha pos pins s σ H _ I h) fun us s1 ⟨vs,H1,I1,r1,q1⟩=>?_) (by rw[hs,hs2]) (by rw[hs2];rfl)))
 obtain⟨b1,b2,l1,l2,e,⟨xs,hq1⟩,⟨ys,hq2⟩,q⟩:=q1
 subst e
 obtain⟨u1,u2,rfl,ru1,ru2⟩:=vals2 r1
 cases ru1
 cases ru2
 obtain⟨zU,rv1,p1,_⟩:=rC I1 hq1
 obtain⟨its2,rv2,p2,_⟩:=rC I1 hq2
 refine zV p1 p2 fun h' hz hTI hTO h1 h2 hsz hk=>?_
 have I2:Inv X pins σ H1 {s1 with heap:=h'}:=I1.kept (t':=s1.toks) hk
 refine wpAny_pyIter_zip (s:={s1 with heap:=h'}) hz ⟨s1.heap.objs.size+4,[s1.heap.objs.size+4,s1.heap.objs.size+2,s1.heap.objs.size+3,s1.heap.objs.size,s1.heap.objs.size+1],_,_,H1,rfl,I2,Ir b1 b2 l1 l2 _ _ _ _ _ (by simp),⟨hz,hTI,⟨_,_,hTO⟩,h1,h2⟩,fun b hb=>?_,q⟩
 have hb':s1.heap.objs.size≤b:=by
  simp only[List.mem_cons,List.not_mem_nil,or_false] at hb
  rcases hb with rfl|rfl|rfl|rfl|rfl<;>omega
 exact I1.DQ hb' (I1.hok.fresh hb')
end
def iB:List PV→List PV→List PV
 |p::ps,q::qs=>.tup [p,q]::iB ps qs
 |_,_=>[]
theorem wI:∀(ps qs:List PV) (i:Nat) (r:PV),(iB ps qs)[i]?=some r→∃p q,ps[i]?=some p∧qs[i]?=some q∧r=.tup [p,q]
 | [],_,_,_,h=>by simp[iB] at h
 |_::_,[],_,_,h=>by simp[iB] at h
 |p::ps,q::qs,0,r,h=>by
  have h':some (PV.tup [p,q])=some r:=h
  cases h'
  exact⟨p,q,rfl,rfl,rfl⟩
 |p::ps,q::qs,i+1,r,h=>wI ps qs i r h
theorem wJ:∀(ps qs:List PV),(iB ps qs).length=min ps.length qs.length
 | [],_=>by simp[iB]
 |_::_,[]=>by simp[iB]
 |_::ps,_::qs=>by
  show(iB ps qs).length+1=_
  rw[wJ ps qs,List.length_cons,List.length_cons]
  omega
def wK(m1 m2:M (List PV)):M (List PV):=fun ρ=>(m1 ρ).bind fun ps ρ1=>(m2 ρ1).bind fun qs ρ2=>.ok (iB ps qs) ρ2
def Itb(K:PySem.W.Frag)(b:Bool)(a:Addr):It:=if b=true then Itt K a else Wx K a
theorem oE{K:KK}{L F:Hp}{b:Bool}{a:Addr}{ps:List PV}(h:fU K L F (Itb K.K b a) ps){c:Ctx}{F2 H:Hp}{σ:L2.St}{ρ:Ŗ}(rel:Rel K c F2 H σ ρ)(sF:Same F F2)(sL:Same L H)(i:Nat)(p:PV)(hp:ps[i]?=some p) :
 (∃xs x,qb K.K b H a xs∧xs[i]?=some x)∧∀x,(∀xs,qb K.K b H a xs→xs[i]?=some x)→∃F3,Rel K c F3 H σ ρ∧Same F2 F3∧Rep K F3 p x:=by
 obtain⟨g,_⟩:=h c i F2 H σ ρ rel sF sL
 obtain⟨g1,g2⟩:=g p hp
 cases b with
 |true=>exact⟨g1,fun x hx=>let ⟨F3,r3,s3,_,rp⟩:=g2 x H ⟨rfl,hx⟩;⟨F3,r3,s3,rp⟩⟩
 |false=>exact⟨g1,fun x hx=>let ⟨F3,r3,s3,_,rp⟩:=g2 x H ⟨rfl,hx⟩;⟨F3,r3,s3,rp⟩⟩
theorem ux{K:KK}{L F:Hp}{b:Bool}{a:Addr}{ps:List PV}(h:fU K L F (Itb K.K b a) ps){c:Ctx}{F2 H:Hp}{σ:L2.St}{ρ:Ŗ}(rel:Rel K c F2 H σ ρ)(sF:Same F F2)(sL:Same L H) :
 ∃xs,qb K.K b H a xs∧Ss K.K b H a ps.length xs:=by
 obtain⟨_,st⟩:=h c ps.length F2 H σ ρ rel sF sL
 have st':∃xs,qb K.K b H a xs∧xs.length≤ps.length:=by
  cases b with
  |true=>exact st rfl
  |false=>exact st rfl
 obtain⟨xs,h1,h2⟩:=st'
 exact⟨xs,h1,h2,fun j hj=>(oE h rel sF sL j _ (List.getElem?_eq_getElem hj)).1⟩
theorem Iu{K:KK}{L F:Hp}{b1 b2:Bool}{a1 a2:Addr}{ps qs:List PV}(h1:fU K L F (Itb K.K b1 a1) ps)(h2:fU K L F (Itb K.K b2 a2) qs):fU K L F (Itz K.K b1 b2 a1 a2) (iB ps qs):=by
 intro c i F2 H σ ρ rel sF sL
 refine⟨fun r hr=>?_,fun hi=>?_⟩
 ·obtain⟨p,q,hp,hq,rfl⟩:=wI ps qs i r hr
  obtain⟨g1,y1⟩:=oE h1 rel sF sL i p hp
  refine⟨⟨g1,(oE h2 rel sF sL i q hq).1⟩,fun z H' ⟨x,y,T,e1,e2,hT,ez,eH⟩=>?_⟩
  subst ez eH
  obtain⟨F3,mq,s3,rp⟩:=y1 x e1
  obtain⟨F4,vO,s4,rq⟩:=(oE h2 mq (sF.trans s3) sL i q hq).2 y e2
  obtain⟨r1,r2⟩:=Dg vO hT (Rep.same s4 p x rp) rq
  exact⟨_,r1,(s3.trans s4).trans (Same.upd (vO.sub.free hT)),Same.upd hT,r2⟩
 ·rw[wJ] at hi
  obtain⟨xs,x1,x2⟩:=ux h1 rel sF sL
  obtain⟨ys,y1,y2⟩:=ux h2 rel sF sL
  refine⟨⟨xs,x1⟩,⟨ys,y1⟩,?_⟩
  by_cases hl:ps.length≤qs.length
  ·left
   have e:i=ps.length:=by omega
   exact⟨xs,x1,e▸x2⟩
  ·right
   have e:i=qs.length:=by omega
   exact⟨(oE h1 rel sF sL i _ (List.getElem?_eq_getElem (by omega))).1,ys,y1,e▸y2⟩
theorem Zdc{K:KK}{c:Ctx}{σ:L2.St}{ρ:Ŗ}{F H:Hp}{ps:List PV}{v:V}(h:rSq K c σ ρ F H ps v):∃b a,v=.ref a∧(∃xs,qb K.K b H a xs)∧fU K c.L F (Itb K.K b a) ps:=by
 rcases h with⟨a,e1,e2,e3⟩|⟨a,e1,e2,e3⟩
 ·exact⟨false,a,e1,e2,e3⟩
 ·exact⟨true,a,e1,e2,e3⟩
section
variable{X:Cx}{cm:String→Addr}{E:L2.St→XK}{e e2:Expr}
theorem Uj{elts:List Expr}{k:Nat}{tp p pos:Pos}{m1 m2:M (List PV)}(hg:Gl X "zip")(hm:X.mg "zip" =none)(h1:PE X e (tG (kk X cm) E (rSq (kk X cm)) m1))(h2:PE X e2 (tG (kk X cm) E (rSq (kk X cm)) m2))
 (hs:starEach [e,e2] X.env=[(false,eval e X.env),(false,eval e2 X.env)]:=by exact GX rfl rfl)(hs2:starEach [e2] X.env=[(false,eval e2 X.env)]:=by exact ř rfl) :
 PI X (.Tuple elts k tp) (.Call (.Name "zip" p) [e,e2] [] pos) (tI (kk X cm) E (wK m1 m2)):=fun pins s σ H R I h=>Yn hg hm (cu h1 (cu h2 i_ hs2) (by rw[hs,hs2])) hs hs2 pins s σ H R I (by
 obtain⟨c,F,ρ,rel,h⟩:=h
 refine⟨c,F,ρ,rel,bH.bind h fun ps ρ1 v F1 H1 ĥ s1 s2 q h1=>⟨c,F1,ρ1,ĥ,bH.bind h1 fun qs ρ2 u F2 H2 Ō s3 s4 q2 h2=>?_⟩⟩
 obtain⟨b1,a1,e1,_,e3⟩:=Zdc q
 obtain⟨b2,a2,f1,f2,f3⟩:=Zdc q2
 subst e1 f1
 obtain⟨xs,x1,_⟩:=ux (e3.mono s3) Ō (Same.refl _) fun b u e=>(Ō.lent b u e).1
 exact⟨b1,b2,a1,a2,rfl,⟨xs,x1⟩,f2,h2 _ F2 H2 Ō (Same.refl _) (Same.refl _) (Iu (e3.mono s3) f3)⟩)
end
end P
namespace P
open PySem PySem.Spec PyProof.Rows L2 M2 M3 M4
def Zdd(K:PySem.W.Frag)(neg:Bool):R2:=fun x y H Q=>∃d es a xs,Rp K H d x∧y=.ref a∧(aG K H a xs∨dF K H a xs)∧jV K H es xs∧d.canLay0=true∧PyData.canLayAll0 es=true∧d.depth≤60∧Q (.bl (if neg then !(es.any fun e=>PyData.eqv e d) else es.any fun e=>PyData.eqv e d)) H
open Classical in
noncomputable def Qf(h:Heap)(d:PyData)(y:Value):Bool:=if ∃e as,Reads h y e as∧e.canLay0=true∧PyData.eqv e d=true then true else false
theorem Iv{h:Heap}{d e:PyData}{y:Value}{as:List Addr}(r:Reads h y e as)(hc:e.canLay0=true):Qf h d y=PyData.eqv e d:=by
 unfold Qf
 cases q:PyData.eqv e d with
 |true=>rw[if_pos ⟨e,as,r,hc,q⟩]
 |false=>
  rw[if_neg]
  rintro ⟨e',as',r',hc',q'⟩
  have:=SeqAt.Reads.unique e e' y as as' hc r r'
  subst this
  rw[q] at q'
  cases q'
theorem uy{h:Heap}{d:PyData}:∀{us:List Value} {es:List PyData} {as:List Addr},ReadsAll h us es as→PyData.canLayAll0 es=true→us.any (Qf h d)=es.any fun e=>PyData.eqv e d
 |_,_,_,.nil,_=>rfl
 |_,_,_,.cons r rs,hc=>by
  unfold PyData.canLayAll0 at hc
  rw[Bool.and_eq_true] at hc
  rw[List.any_cons,List.any_cons,Iv r hc.1,uy rs hc.2]
theorem uz{A:Around}{s:Shared}{d:PyData}{v:Value}{bs:List Addr}(rv:Reads s.heap v d bs)(hd:d.canLay0=true)(hu:A.units+d.depth<cLine):∀{us:List Value} {es:List PyData} {as:List Addr},ReadsAll s.heap us es as→PyData.canLayAll0 es=true→∀u∈us,SeqAt.EqAt A s u v (Qf s.heap d u)
 |_,_,_,.nil,_=>fun u hu=>by cases hu
 |_,_,_,.cons r rs,hc=>fun u hm=>by
  unfold PyData.canLayAll0 at hc
  rw[Bool.and_eq_true] at hc
  rcases List.mem_cons.mp hm with rfl|hm
  ·rw[Iv r hc.1]
   exact SeqAt.eqAt_reads _ _ A s _ _ _ _ r rv hc.1 hd (by omega)
  ·exact uz rv hd hu rs hc.2 u hm
section
variable{X:Cx}
theorem E_(hu:X.A.units+64<cLine):aC X (compareOp .NotIn) (Zdd X.K true):=by
 intro pins s σ H x y v u Q I rx ry h
 obtain⟨d,es,a,xs,h1,rfl,hq,h3,h4,h5,h6,q⟩:=h
 cases ry
 obtain⟨as,ra⟩:=Rp.reads I d x v h1 rx
 have hu1:X.A.in1.units+d.depth<cLine:=by
  have:X.A.in1.units=X.A.units+1:=rfl
  omega
 rcases hq with hq|hq
 ·obtain⟨its,r,pl,hz⟩:=I.list hq
  obtain⟨bs,rb⟩:=jV.reads I es xs its h3 r
  refine SeqAt.notIn_listAt (Qf s.heap d) pl.isList (fun w hw=>uz ra h4 hu1 rb h5 w (by simpa using hw)) ⟨.bl _,H,I,rfl,?_⟩
  rw[show its.toArray.any (Qf s.heap d)=its.any (Qf s.heap d) by simp,uy rb h5]
  exact q
 ·obtain⟨its,r,pl,hz⟩:=I.tuple hq
  obtain⟨bs,rb⟩:=jV.reads I es xs its h3 r
  refine SeqAt.notIn_tupleAt (Qf s.heap d) pl (fun w hw=>uz ra h4 hu1 rb h5 w (by simpa using hw)) ⟨.bl _,H,I,rfl,?_⟩
  rw[show its.toArray.any (Qf s.heap d)=its.any (Qf s.heap d) by simp,uy rb h5]
  exact q
end
def inD(neg:Bool)(p q:PV):Option PV:=match q with
 | .lst ps=>if aq p && bD ps && decide (dep p≤60) then some (.bl (if neg then !(ps.any fun y=>eqB y p) else ps.any fun y=>eqB y p)) else none
 | .tup ps=>if aq p && bD ps && decide (dep p≤60) then some (.bl (if neg then !(ps.any fun y=>eqB y p) else ps.any fun y=>eqB y p)) else none
 |_=>none
theorem uD{p:PV}(h:aq p=true):∀{ps:List PV},bD ps=true→(dN ps).any (fun e=>PyData.eqv e (toD p))=ps.any fun y=>eqB y p
 | [],_=>rfl
 |y::ps,hp=>by
  unfold bD at hp
  rw[Bool.and_eq_true] at hp
  unfold dN
  rw[List.any_cons,List.any_cons,t_ y p hp.1 h,uD h hp.2]
theorem Yo{K:KK}{neg:Bool}:jl K (Zdd K.K neg) (inD neg):=by
 intro c F H σ ρ p q pv v u Q rel r1 r2 e k
 unfold inD at e
 split at e
 ·rename_i ps
  split at e
  ·rename_i hc
   rw[Bool.and_eq_true,Bool.and_eq_true,decide_eq_true_eq] at hc
   cases e
   obtain⟨a,xs,rfl,h1,h2⟩:=r2.lst rel.sub
   refine⟨toD p,dN ps,a,xs,gW rel.sub hc.1.1 r1,rfl,.inl h1,jV.same rel.sub _ _ (gU ps xs hc.1.2 h2),eY p hc.1.1,gD ps hc.1.2,by rw[eZ];exact hc.2,?_⟩
   rw[uD hc.1.1 hc.1.2]
   exact k _ F H rel (Same.refl _) (Same.refl _) Rep.bl
  ·cases e
 ·rename_i ps
  split at e
  ·rename_i hc
   rw[Bool.and_eq_true,Bool.and_eq_true,decide_eq_true_eq] at hc
   cases e
   obtain⟨a,xs,rfl,h1,h2⟩:=r2.tup rel.sub
   refine⟨toD p,dN ps,a,xs,gW rel.sub hc.1.1 r1,rfl,.inr h1,jV.same rel.sub _ _ (gU ps xs hc.1.2 h2),eY p hc.1.1,gD ps hc.1.2,by rw[eZ];exact hc.2,?_⟩
   rw[uD hc.1.1 hc.1.2]
   exact k _ F H rel (Same.refl _) (Same.refl _) Rep.bl
  ·cases e
 ·cases e
def Iw{α:Type}(m:M α):M α:= fun ρ=>match m ρ with
 | .ok a ρ'=>.ok a ρ'
 |_=>.bad
@[simp] theorem ZkP{α:Type}{m:M α}{ρ:Ŗ}:Iw m ρ=(match m ρ with
  | .ok a ρ'=>.ok a ρ'
  |_=>.bad):=rfl
theorem Uk{X:Cx}{cm:String→Addr}{E:L2.St→XK}{tg l:Expr}{mi:M (List PV)}(h:PI X tg l (tI (kk X cm) EF mi)):PI X tg l (tI (kk X cm) E (Iw mi)):=fun pins s σ H R I hh=>h pins s σ H R I (by
 obtain⟨c,F,ρ,rel,h'⟩:=hh
 refine⟨c,F,ρ,rel,?_⟩
 unfold Iw at h'
 cases e:mi ρ with
 |ok a ρ'=>rw[e] at h';exact h'
 |exc x ρ'=>rw[e] at h';exact h'.elim
 |bad=>rw[e] at h';exact h')
end P
namespace P
open PySem PySem.Spec PyProof.Rows L2 M2 M3 M4
theorem h_{x:Int}{n:Nat}(h1: -(2 ^ n:Int)<x)(h2:x<2 ^ n):bits x≤n:=by
 refine intBits_le_iff.mpr ?_
 have e:((2 ^ n:Nat):Int)=(2:Int) ^ n:=by simp
 have:((x.natAbs:Nat):Int)<((2 ^ n:Nat):Int):=by rw[e];omega
 omega
theorem Iz{x y:Int}(h:y≠0)(h1: -18446744073709551616<y)(h2:y<18446744073709551616):cM x y=true:=nR h (Nat.le_trans (h_ (n:=64) (by omega) (by omega)) (by decide))
@[simp] theorem Zi2{x:Int}{n:Nat}(h:n≠0)(h2:n<18446744073709551616):cM x (no_index (OfNat.ofNat n):Int)=true:=by
  have e:(no_index (OfNat.ofNat n):Int)=(n:Int):=rfl
  rw[e]
  exact Iz (by omega) (by omega) (by omega)
@[simp] theorem Zde{x:Int}{n:Nat}(h:n<18446744073709551616):ň x (no_index (OfNat.ofNat n):Int)=true:=by
  have e:(no_index (OfNat.ofNat n):Int)=(n:Int):=rfl
  rw[e]
  exact mul_r (by omega) (by omega)
@[simp] theorem Zdf{x:Int}{n:Nat}(h:n<18446744073709551616):ň (no_index (OfNat.ofNat n):Int) x=true:=by
  have e:(no_index (OfNat.ofNat n):Int)=(n:Int):=rfl
  rw[e]
  exact ű (by omega) (by omega)
@[simp] theorem Zi3{m n:Nat}(h:m<18446744073709551616)(h2:n≤1000000):vX (no_index (OfNat.ofNat m):Int) (no_index (OfNat.ofNat n):Int)=true:=by
  have e:(no_index (OfNat.ofNat m):Int)=(m:Int):=rfl
  have e2:(no_index (OfNat.ofNat n):Int)=(n:Int):=rfl
  rw[e,e2]
  unfold vX
  simp
  omega
@[simp] theorem Zdg{x:Int}{n:Nat}:x.fdiv (no_index (OfNat.ofNat n):Int)=x / (no_index (OfNat.ofNat n):Int):=Int.fdiv_eq_ediv_of_nonneg x (Int.natCast_nonneg n)
@[simp] theorem Zdh{x:Int}{n:Nat}:x.fmod (no_index (OfNat.ofNat n):Int)=x % (no_index (OfNat.ofNat n):Int):=Int.fmod_eq_emod_of_nonneg x (Int.natCast_nonneg n)
end P
namespace P
open PySem PySem.Spec PyProof.Rows L2 M2 M3 M4
theorem add_l{xs ys:List PV}(h:xs.length+ys.length≤16777216):ĸ (.lst xs) (.lst ys)=some (.ow (xs++ys)):=by
 unfold ĸ
 simp[h]
theorem Yp{x y z w:Int}:eqB (.tup [.int x,.int y]) (.tup [.int z,.int w])=(decide (x=z) && decide (y=w)):=by
 rw[eqB.eq_def]
 show dM [.int x,.int y] [.int z,.int w]=_
 rw[dM.eq_def]
 show(eqB (.int x) (.int z) && dM [.int y] [.int w])=_
 rw[dM.eq_def]
 show(eqB (.int x) (.int z) && (eqB (.int y) (.int w) && dM [] []))=_
 have h1:eqB (.int x) (.int z)=decide (x=z):=by rw[eqB.eq_def];rfl
 have h2:eqB (.int y) (.int w)=decide (y=w):=by rw[eqB.eq_def];rfl
 have h3:dM [] []=true:=by rw[dM.eq_def]
 rw[h1,h2,h3,Bool.and_true]
mutual
theorem oF:∀p:PV,aq p=true→eqB p p=true
 | .non,_=>by unfold eqB;rfl
 | .bl b,_=>by unfold eqB;simp
 | .int i,_=>by unfold eqB;simp
 | .str x,_=>by unfold eqB;simp
 | .lst xs,h=>by unfold aq at h;unfold eqB;exact kj xs h
 | .tup xs,h=>by unfold aq at h;unfold eqB;exact kj xs h
 | .ins _ _ _,h=>by simp[aq] at h
 | .xc _ _ _,h=>by simp[aq] at h
 | .ty _,h=>by simp[aq] at h
 | .cls _,h=>by simp[aq] at h
theorem kj:∀ps:List PV,bD ps=true→dM ps ps=true
 | [],_=>by unfold dM;rfl
 |p::ps,h=>by
  unfold bD at h
  rw[Bool.and_eq_true] at h
  unfold dM
  rw[oF p h.1,kj ps h.2]
  rfl
end
theorem Fb{p:PV}(h:aq p=true)(hd:dep p≤60):ŏ p p=some (.bl true):=by
 unfold ŏ nO
 rw[h,oF p h,decide_eq_true (by omega:min (dep p) (dep p)≤60)]
 rfl
theorem rE{p:PV}(h:aq p=true)(hd:dep p≤60):aN p p=some (.bl false):=by
 unfold aN nO
 rw[h,oF p h,decide_eq_true (by omega:min (dep p) (dep p)≤60)]
 rfl
theorem cP{a b:Str}(ha:PyData.strOk a=true)(hb:PyData.strOk b=true):ŏ (.str a) (.str b)=some (.bl (decide (a=b))):=by
 have h:eqB (.str a) (.str b)=decide (a=b):=by unfold eqB;rfl
 unfold ŏ nO
 rw[show aq (.str a)=true by unfold aq;exact ha,show aq (.str b)=true by unfold aq;exact hb,h]
 rfl
theorem IK(ns:List Int):bD (ns.map PV.int)=true:=by
 induction ns with
 |nil=>simp[bD]
 |cons n ns ih=>simp[bD,aq,ih]
end P
namespace P
open PySem PySem.Spec PyProof.Rows L2 M2 M3 M4
section
variable{g:Tg}{mb:M Fl}{mt:M Bool}{me:M PV}
theorem cF{α β:Type}(c:α→PV)(step:β→α→β)(J:β→Ŗ→Prop):∀(xs:List α),(∀x∈xs,∀b ρ,J b ρ→∃ρ1 ρ2,g (c x) ρ=some ρ1∧mb ρ1=.ok .nx ρ2∧J (step b x) ρ2)→∀b ρ,J b ρ→∃ρ',forL g mb (xs.map c) ρ=.ok .nx ρ'∧J (xs.foldl step b) ρ'
 | [],_,b,ρ,h=>⟨ρ,rfl,h⟩
 |x::xs,hs,b,ρ,h=>by
  obtain⟨ρ1,ρ2,h1,h2,h3⟩:=hs x (by simp) b ρ h
  obtain⟨ρ',e,h4⟩:=cF c step J xs (fun y hy=>hs y (List.mem_cons_of_mem _ hy)) (step b x) ρ2 h3
  refine⟨ρ',?_,h4⟩
  rw[List.map_cons,forL,h1]
  dsimp only
  rw[h2]
  exact e
theorem dR{α γ:Type}(c:α→PV)(t:α→Option γ)(v:γ→RV)(J:Ŗ→Prop):∀(xs:List α),(∀x∈xs,∀ρ,J ρ→∃ρ1,g (c x) ρ=some ρ1∧((∃r ρ2,t x=some r∧mb ρ1=.ok (.rt (v r)) ρ2)∨(∃ρ2,t x=none∧mb ρ1=.ok .nx ρ2∧J ρ2)))→∀ρ,J ρ→
 (∃r ρ',xs.findSome? t=some r∧forL g mb (xs.map c) ρ=.ok (.rt (v r)) ρ')∨(∃ρ',xs.findSome? t=none∧forL g mb (xs.map c) ρ=.ok .nx ρ'∧J ρ')
 | [],_,ρ,h=>.inr ⟨ρ,rfl,rfl,h⟩
 |x::xs,hs,ρ,h=>by
  obtain⟨ρ1,h1,h2⟩:=hs x (by simp) ρ h
  rcases h2 with⟨r,ρ2,e1,e2⟩|⟨ρ2,e1,e2,e3⟩
  ·refine .inl ⟨r,ρ2,by rw[List.findSome?_cons,e1],?_⟩
   rw[List.map_cons,forL,h1]
   dsimp only
   rw[e2]
   rfl
  ·have hf:List.findSome? t (x::xs)=List.findSome? t xs:=by rw[List.findSome?_cons,e1]
   have hl:forL g mb ((x::xs).map c) ρ=forL g mb (xs.map c) ρ2:=by
    rw[List.map_cons,forL,h1]
    dsimp only
    rw[e2]
    rfl
   rw[hf,hl]
   exact dR c t v J xs (fun y hy=>hs y (List.mem_cons_of_mem _ hy)) ρ2 e3
theorem fB{α:Type}(c f:α→PV)(q:α→Bool)(I:Ŗ→Prop):∀(xs:List α) (ρ:Ŗ) (acc:List PV),I ρ→acc.length+xs.length≤16777216→
 (∀x∈xs,∀ρ,I ρ→∃ρ1 ρ2,g (c x) ρ=some ρ1∧mt ρ1=.ok (q x) ρ2∧(q x=false→I ρ2)∧(q x=true→∃ρ3,me ρ2=.ok (f x) ρ3∧I ρ3))→ń g mt me (xs.map c) ρ acc=some (acc++(xs.filter q).map f)
 | [],ρ,acc,_,_,_=>by simp[ń]
 |x::xs,ρ,acc,h,hz,hs=>by
  obtain⟨ρ1,ρ2,h1,h2,h3,h4⟩:=hs x List.mem_cons_self ρ h
  cases e:q x with
  |true=>
   obtain⟨ρ3,h5,h6⟩:=h4 e
   rw[e] at h2
   rw[List.map_cons,ń,h1]
   dsimp only
   rw[h2]
   dsimp only
   rw[h5]
   dsimp only
   rw[if_pos (by simp at hz;omega),fB c f q I xs ρ3 (acc ++ [f x]) h6 (by simp at hz ⊢;omega) fun y hy=>hs y (List.mem_cons_of_mem _ hy)]
   simp[e]
  |false=>
   rw[e] at h2
   rw[List.map_cons,ń,h1]
   dsimp only
   rw[h2]
   dsimp only
   rw[fB c f q I xs ρ2 acc (h3 e) (by simp at hz ⊢;omega) fun y hy=>hs y (List.mem_cons_of_mem _ hy)]
   simp[e]
end
end P
namespace P
open PySem PySem.Spec PyProof.Rows L2 M2 M3 M4
def ZkQ(K:PySem.W.Frag)(n:Nat)(t:FZ):TG:=fun v σ H Q=>∃a xs,v=.ref a∧aG K H a xs∧xs.length=n∧t xs σ H Q
section
variable{X:Cx}{cm:String→Addr}{pos:Pos}
theorem Yq{es:List Expr}{k:Nat}{t:FZ}{n:Nat}(hc:X.calm=true)(h:yQ X es t)
 (hn:(assignEach es X.env).length=n:=by rfl)(hst:(assignEach es X.env).findIdx? (·.1)=none:=by rfl):PG X (.Tuple es k pos) (ZkQ X.K n t):=by
 intro pins s σ H v u Q I r hw
 obtain⟨a,xs,e1,hq,hl,hw⟩:=hw
 subst e1
 cases r
 obtain⟨its,rv,ht,hz⟩:=I.list hq
 rw[assign_Tuple]
 refine wpAny_bind (wpAny_standAt ?_)
 unfold unpack
 rw[show(assignEach es X.env).length=its.toArray.size by simp[hn,←hl,rv.length],hst]
 refine wpAny_bind (wpAny_holding (PySem.W.kun_itemsOf (I.ok.hd hc) ht.isList fun h' hx=>?_))
 have I1:Inv X pins σ H {s with heap:=h'}:=I.kept (t':=s.toks) fun b o e=>hx b o (Nat.ne_of_lt (Heap.lt_size e)) e
 exact h pins _ σ H xs _ Q I1 (by simpa using rv) hw
def gS(n:Nat)(gs:Fx):Tg:=fun p ρ=>match p with
 | .tup ps=>if ps.length=n then gs ps ρ else none
 | .lst ps=>if ps.length=n then gs ps ρ else none
 |_=>none
@[simp] theorem ZkR{n:Nat}{gs:Fx}{ps:List PV}{ρ:Ŗ}:gS n gs (.tup ps) ρ=if ps.length=n then gs ps ρ else none:=rfl
@[simp] theorem ZkS{n:Nat}{gs:Fx}{ps:List PV}{ρ:Ŗ}:gS n gs (.lst ps) ρ=if ps.length=n then gs ps ρ else none:=rfl
theorem lG{es:List Expr}{k:Nat}{gs:Fx}{n:Nat}(hc:X.calm=true)(h:yQ X es (tTs (kk X cm) gs))(hn:(assignEach es X.env).length=n:=by rfl)(hst:(assignEach es X.env).findIdx? (·.1)=none:=by rfl):PG X (.Tuple es k pos) (tT (kk X cm) (gS n gs)):=by
 intro pins s σ H v u Q I r hw
 obtain⟨c,F,ρ,p,rel,rp,hw⟩:=hw
 cases p with
 |tup ps=>
  unfold Rep at rp
  obtain⟨a,xs,h1,h2,h3⟩:=rp
  unfold gS at hw
  dsimp only at hw
  split at hw
  ·rename_i hl
   exact Gb hc h hn hst pins s σ H v u Q I r ⟨a,xs,h1,Same.tup rel.sub h2,by rw[←h3.length];exact hl,c,F,ρ,ps,rel,h3,hw⟩
  ·exact hw.elim
 |lst ps=>
  unfold Rep at rp
  obtain⟨a,xs,h1,h2,h3⟩:=rp
  unfold gS at hw
  dsimp only at hw
  split at hw
  ·rename_i hl
   exact Yq hc h hn hst pins s σ H v u Q I r ⟨a,xs,h1,rel.sub.seq h2,by rw[←h3.length];exact hl,c,F,ρ,ps,rel,h3,hw⟩
  ·exact hw.elim
 |_=>exact hw.elim
end
end P
namespace P
open PySem PySem.Spec PyProof.Rows L2 M2 M3 M4
section
variable{X:Cx}{cm:String→Addr}{E:L2.St→XK}{a:Expr}{p p1 pos pos1:Pos}{mr:M (List PV)}
end
end P
namespace P
open PySem PySem.Spec PyProof.Rows L2 M2 M3 M4
def Zdi(i:Nat)(m:M Bool):M Bool:=fun ρ=>match ρ[i]? with
 |some (.ot ps qs)=>match m (ρ.set i (.sh (.tup (ps ++ [.lst qs])))) with
  | .ok b _=>.ok b ρ
  |_=>.bad
 |_=>m ρ
section
variable{X:Cx}{cm:String→Addr}{E:L2.St→XK}{e o:Expr}{es:List Expr}{pos:Pos}{m:M Bool}{mo:M RV}{ma:M PV}
def Zdj(mo:M RV):M (List PV×RV):=fun ρ=>(mo ρ).bind fun r ρ1=>.ok ([],r) ρ1
def Yr(ma:M PV)(mr:M (List PV×RV)):M (List PV×RV):=fun ρ=>(ma ρ).bind fun p ρ1=>(mr ρ1).bind fun r ρ2=>.ok (p::r.1,r.2) ρ2
def Zdk(mr:M (List PV×RV)):M RV:=fun ρ=>(mr ρ).bind fun r ρ1=>if r.1.length<16777216 then(match r.2 with
 | .ow qs=>.ok (.ot r.1 qs) ρ1
 | .sh p=>.ok (.sh (.tup (r.1 ++ [p]))) ρ1
 |_=>.bad) else .bad
def Zdl(i j:Nat)(m:M PV):M Fl:=fun ρ=>match ρ[i]? with
 |some (.ot ps _)=>if ps.length=j then(m ρ).bind fun p ρ1=>match ρ1[i]? with
  |some (.ot ps' qs)=>if ps'.length=j∧qs.length<16777216 then .ok .nx (ρ1.set i (.ot ps' (qs ++ [p]))) else .bad
  |_=>.bad
  else .bad
 |_=>.bad
@[simp] theorem ZkT{ps qs:List PV}:(RV.ot ps qs).val=.tup (ps ++ [.lst qs]):=rfl
@[simp] theorem ZkU{ps qs:List PV}:(RV.ot ps qs).slot=.ot ps qs:=rfl
@[simp] theorem Zi4{i:Nat}{ρ:Ŗ}:Zdi i m ρ=(match ρ[i]? with
  |some (.ot ps qs)=>match m (ρ.set i (.sh (.tup (ps ++ [.lst qs])))) with
   | .ok b _=>.ok b ρ
   |_=>.bad
  |_=>m ρ):=rfl
@[simp] theorem Zi5{ρ:Ŗ}:Zdj mo ρ=(mo ρ).bind fun r ρ1=>.ok ([],r) ρ1:=rfl
@[simp] theorem Zdm{mr:M (List PV×RV)}{ρ:Ŗ}:Yr ma mr ρ=(ma ρ).bind fun p ρ1=>(mr ρ1).bind fun r ρ2=>.ok (p::r.1,r.2) ρ2:=rfl
@[simp] theorem Zdn{mr:M (List PV×RV)}{ρ:Ŗ}:Zdk mr ρ=(mr ρ).bind fun r ρ1=>if r.1.length<16777216 then(match r.2 with
  | .ow qs=>.ok (.ot r.1 qs) ρ1
  | .sh p=>.ok (.sh (.tup (r.1 ++ [p]))) ρ1
  |_=>.bad) else .bad:=rfl
@[simp] theorem Zi6{i j:Nat}{ρ:Ŗ}:Zdl i j ma ρ=(match ρ[i]? with
  |some (.ot ps _)=>if ps.length=j then(ma ρ).bind fun p ρ1=>match ρ1[i]? with
   |some (.ot ps' qs)=>if ps'.length=j∧qs.length<16777216 then .ok .nx (ρ1.set i (.ot ps' (qs ++ [p]))) else .bad
   |_=>.bad
   else .bad
  |_=>.bad):=rfl
end
end P
namespace P
open PySem PySem.Spec PyProof.Rows L2 M2 M3 M4
section
variable{X:Cx}{K:KK}
end
end P
namespace My
def gd(a b:Int):Int:=((Int.gcd a b:Nat):Int)
theorem Z10(a b:Int):gd b (Int.fmod a b)=gd a b:=by
 unfold gd
 rw[Int.fmod_def,Int.gcd_sub_mul_left_right,Int.gcd_comm]
theorem Z11(a:Int){b:Int}(h:b≠0):(Int.fmod a b).natAbs<b.natAbs:=by
 rcases(by omega:0<b∨b<0) with h|h
 ·have h1:=Int.fmod_nonneg_of_pos a h
  have h2:=Int.fmod_lt_of_pos a h
  omega
 ·have e:=Int.neg_fmod_neg a b
  have h1:=Int.fmod_nonneg_of_pos (-a) (show 0 < -b by omega)
  have h2:=Int.fmod_lt_of_pos (-a) (show 0 < -b by omega)
  omega
theorem Z12(a:Int):gd a 0=if a<0 then -a else a:=by
 unfold gd
 rw[Int.gcd_zero]
 split<;>omega
theorem Z09(a:Int){b:Int}(h:b≠0):0<gd a b:=by
 have:=Int.gcd_ne_zero_right (a:=a) h
 unfold gd
 omega
theorem Z1s(a b:Int):0≤gd a b:=by
 unfold gd
 omega
theorem Z3h(a:Int){b:Int}(h:b≠0):gd a b≤b.natAbs:=by
 unfold gd
 have:=Int.gcd_dvd_natAbs_right a b
 have:=Nat.le_of_dvd (by omega) this
 omega
def dv(t b:Int):Int:=if b<0 then-gd t b else gd t b
theorem Z3i(t:Int){b:Int}(h:b≠0):dv t b≠0:=by
 have:=Z09 t h
 unfold dv
 split<;>omega
theorem Z2R(t b:Int):dv t b ∣ t∧dv t b ∣ b:=by
 have h1:=Int.gcd_dvd_left t b
 have h2:=Int.gcd_dvd_right t b
 unfold dv gd
 split
 ·exact⟨Int.neg_dvd.mpr h1,Int.neg_dvd.mpr h2⟩
 ·exact⟨h1,h2⟩
theorem Z2q{t b g:Int}(h1:g ∣ t)(h2:g ∣ b)(hg:g.natAbs=Int.gcd t b)(hb:b≠0):Int.gcd (t / g) (b / g)=1:=by
 have hp:0<Int.gcd t b:=Nat.pos_of_ne_zero (Int.gcd_ne_zero_right hb)
 rcases Int.natAbs_eq g with e|e
 ·rw[hg] at e
  rw[e]
  exact Int.gcd_ediv_gcd_ediv_gcd hp
 ·rw[hg] at e
  rw[e,Int.ediv_neg,Int.ediv_neg,Int.neg_gcd,Int.gcd_neg]
  exact Int.gcd_ediv_gcd_ediv_gcd hp
theorem Z1W(t:Int){b:Int}(h:b≠0) :
 1≤b.fdiv (dv t b)∧gd (t.fdiv (dv t b)) (b.fdiv (dv t b))=1∧t.fdiv (dv t b)*b=t*b.fdiv (dv t b):=by
 obtain⟨h1,h2⟩:=Z2R t b
 rw[Int.fdiv_eq_ediv_of_dvd h1,Int.fdiv_eq_ediv_of_dvd h2]
 have hn:=Z3i t h
 obtain⟨x,hx⟩:=h1
 obtain⟨y,hy⟩:=h2
 have e1:t / dv t b=x:=by
  conv=>lhs;lhs;rw[hx]
  exact Int.mul_ediv_cancel_left x hn
 have e2:b / dv t b=y:=by
  conv=>lhs;lhs;rw[hy]
  exact Int.mul_ediv_cancel_left y hn
 refine⟨?_,?_,?_⟩
 ·rw[e2]
  have hp:=Z09 t h
  by_cases c:b<0
  ·have d:dv t b= - gd t b:=if_pos c
   rw[d] at hy
   rcases(by omega:1≤y∨y≤0) with z|z
   ·exact z
   ·have:=Int.mul_le_mul_of_nonneg_left z (Int.le_of_lt hp)
    rw[Int.neg_mul] at hy
    omega
  ·have d:dv t b=gd t b:=if_neg c
   rw[d] at hy
   rcases(by omega:1≤y∨y≤0) with z|z
   ·exact z
   ·have:=Int.mul_le_mul_of_nonneg_left z (Int.le_of_lt hp)
    omega
 ·unfold gd
  rw[Z2q ⟨x,hx⟩ ⟨y,hy⟩ ?_ h]
  ·rfl
  ·unfold dv gd
   split<;>omega
 ·rw[e1,e2]
  conv=>lhs;rw[hy]
  conv=>rhs;lhs;rw[hx]
  rw[Int.mul_comm (dv t b) x,Int.mul_assoc]
end My
namespace Hu
abbrev Pt:=Int×Int
def tn(a b c:Pt):Int:=(b.1-a.1)*(c.2-a.2)-(b.2-a.2)*(c.1-a.1)
theorem Z0v{α:Type}(R:α→α→Prop):∀(l:List α),l≠[]→(∀x∈l,∀y∈l,R x y∨R y x)→(∀x∈l,∀y∈l,∀z∈l,R x y→R y z→R x z)→∃b∈l,∀s∈l,R b s
 | [],h,_,_=>absurd rfl h
 | [x],_,t,_=>⟨x,by simp,fun s hs=>by
     have e:s=x:=by simpa using hs
     subst e
     rcases t s (by simp) s (by simp) with q|q<;>exact q⟩
 |x::y::r,_,t,tr=>by
  obtain⟨b,hb,hl⟩:=Z0v R (y::r) (by simp) (fun a ha c hc=>t a (List.mem_cons_of_mem _ ha) c (List.mem_cons_of_mem _ hc)) (fun a ha c hc d hd=>tr a (List.mem_cons_of_mem _ ha) c (List.mem_cons_of_mem _ hc) d (List.mem_cons_of_mem _ hd))
  have hb':b∈x::y::r:=List.mem_cons_of_mem _ hb
  have hx:x∈x::y::r:=by simp
  have bb:R b b:=hl b hb
  have xx:R x x:=by rcases t x hx x hx with q|q<;>exact q
  rcases t b hb' x hx with q|q
  ·refine⟨b,hb',fun s hs=>?_⟩
   rcases List.mem_cons.mp hs with e|e
   ·subst e;exact q
   ·exact hl s e
  ·refine⟨x,hx,fun s hs=>?_⟩
   rcases List.mem_cons.mp hs with e|e
   ·subst e;exact xx
   ·exact tr x hx b hb' s hs q (hl s e)
def yL(a b c p:Pt):Prop:=tn a b c≠0∧0≤tn p b c*tn a b c∧0≤tn a p c*tn a b c∧0≤tn a b p*tn a b c
theorem Z0a(a b c p:Pt):tn p b c+tn a p c+tn a b p=tn a b c:=by simp only[tn];grind
theorem Zl(a b c:Pt):tn b c a=tn a b c:=by simp only[tn];grind
theorem ZI(a b c:Pt):tn b a c= - tn a b c:=by simp only[tn];grind
theorem Zr(a b c:Pt):tn a c b= - tn a b c:=by simp only[tn];grind
theorem yL.swap{a b c p:Pt}(h:yL a b c p):yL b a c p:=by
 obtain⟨h1,h2,h3,h4⟩:=h
 unfold yL
 rw[ZI a b c,ZI a p c,ZI p b c,ZI a b p]
 refine⟨by omega,?_,?_,?_⟩
 ·rw[Int.neg_mul_neg];exact h3
 ·rw[Int.neg_mul_neg];exact h2
 ·rw[Int.neg_mul_neg];exact h4
theorem yL.Fz{a b c p:Pt}(h:yL a b c p):yL b c a p:=by
 obtain⟨h1,h2,h3,h4⟩:=h
 unfold yL
 rw[Zl a b c,show tn p c a=tn a p c from Zl a p c,show tn b p a=tn a b p from Zl a b p,show tn b c p=tn p b c from Zl p b c]
 exact⟨h1,h3,h4,h2⟩
theorem Z1t{a b c p:Pt}(h1:0≤tn p a b)(h2:0≤tn p b c)(h3:0≤tn p c a)(h:0<tn p a b∨0<tn p b c∨0<tn p c a):yL a b c p:=by
 have e:=Z0a a b c p
 have e1:tn a p c=tn p c a:=(Zl a p c).symm
 have e2:tn a b p=tn p a b:=Zl p a b
 have pos:0<tn a b c:=by omega
 refine⟨by omega,Int.mul_nonneg h2 (by omega),Int.mul_nonneg (by omega) (by omega),Int.mul_nonneg (by omega) (by omega)⟩
section
variable{S:List Pt}{p:Pt}
theorem Z3j(no:∀x∈S,∀y∈S,∀z∈S,¬yL x y z p):∀x∈S,∀y∈S,∀z∈S,0≤tn p x y→0≤tn p y z→0≤tn p x z:=by
 intro x hx y hy z hz h1 h2
 by_cases h:0≤tn p x z
 ·exact h
 ·exfalso
  have e:=Zr p x z
  exact no x hx y hy z hz (Z1t h1 h2 (by omega) (by omega))
def dt(u v:Pt)(p:Pt):Int:=(u.1-p.1)*(v.1-p.1)+(u.2-p.2)*(v.2-p.2)
theorem Z2S{u p:Pt}(h:u≠p):0<dt u u p:=by
 unfold dt
 have h1:0≤(u.1-p.1)*(u.1-p.1):=by
  rcases Int.le_total 0 (u.1-p.1) with q|q
  ·exact Int.mul_nonneg q q
  ·exact Int.mul_nonneg_of_nonpos_of_nonpos q q
 have h2:0≤(u.2-p.2)*(u.2-p.2):=by
  rcases Int.le_total 0 (u.2-p.2) with q|q
  ·exact Int.mul_nonneg q q
  ·exact Int.mul_nonneg_of_nonpos_of_nonpos q q
 by_cases e1:u.1-p.1=0
 ·by_cases e2:u.2-p.2=0
  ·exact absurd (Prod.ext (by omega) (by omega)) h
  ·have:(u.2-p.2)*(u.2-p.2)≠0:=Int.mul_ne_zero e2 e2
   omega
 ·have:(u.1-p.1)*(u.1-p.1)≠0:=Int.mul_ne_zero e1 e1
  omega
theorem Z3E(tri:∃x∈S,∃y∈S,∃z∈S,tn x y z≠0)(no:∀x∈S,∀y∈S,∀z∈S,¬yL x y z p) :
 ∃a∈S,∃b∈S,a≠b∧(∀s∈S,0≤tn a b s)∧tn a b p<0:=by
 obtain⟨x,hx,y,hy,z,hz,ZnY⟩:=tri
 have hp:p∉S:=by
  intro hp
  have e:=Z0a x y z p
  have key:∀u∈S,∀v∈S,tn p u v=0:=by
   intro u hu v hv
   by_cases h:tn p u v=0
   ·exact h
   ·exfalso
    refine no p hp u hu v hv ⟨h,?_,?_,?_⟩
    ·rcases Int.le_total 0 (tn p u v) with q|q
     ·exact Int.mul_nonneg q q
     ·exact Int.mul_nonneg_of_nonpos_of_nonpos q q
    ·rw[show tn p p v=0 by simp only[tn];grind];simp
    ·rw[show tn p u p=0 by simp only[tn];grind];simp
  have k1:=key y hy z hz
  have k2:=key z hz x hx
  have k3:=key x hx y hy
  rw[Zl p z x |>.symm] at k2
  have e1:tn x p z=tn p z x:=(Zl x p z).symm
  have e2:tn x y p=tn p x y:=Zl p x y
  have e3:tn z x p=tn p z x:=Zl p z x
  omega
 have tr:=Z3j no
 have tot:∀x∈S,∀y∈S,0≤tn p x y∨0≤tn p y x:=fun x _ y _=>by have:=Zr p x y;omega
 obtain⟨b0,hb0,l0⟩:=Z0v (fun u v=>0≤tn p u v) S (List.ne_nil_of_mem hx) tot tr
 -- the nearest of those in its direction
 have hT:∃b∈S,(∀s∈S,0≤tn p b s)∧∀s∈S,tn p b s=0→dt b b p≤dt s s p:=by
  let T:=S.filter fun s=>decide (tn p b0 s=0)
  have mT:∀{s},s∈T↔s∈S∧tn p b0 s=0:=by intro s;simp[T]
  have ZkV:b0∈T:=mT.mpr ⟨hb0,by simp only[tn];grind⟩
  obtain⟨b,hb,lb⟩:=Z0v (fun u v=>dt u u p≤dt v v p) T (List.ne_nil_of_mem ZkV) (fun u _ v _=>Int.le_total _ _) (fun u _ v _ w _ h1 h2=>Int.le_trans h1 h2)
  obtain⟨hbS,eb⟩:=mT.mp hb
  have bm:∀s∈S,0≤tn p b s:=fun s hs=>tr b hbS b0 hb0 s hs (by have:=Zr p b0 b;omega) (l0 s hs)
  refine⟨b,hbS,bm,fun s hs es=>lb s (mT.mpr ⟨hs,?_⟩)⟩
  have h1:=l0 s hs
  have h2:0≤tn p s b0:=tr s hs b hbS b0 hb0 (by have:=Zr p b s;omega) (by have:=Zr p b0 b;omega)
  have:=Zr p b0 s
  omega
 obtain⟨b,hb,bm,bn⟩:=hT
 have hbp:b≠p:=fun e=>hp (e▸hb)
 have hw:=Z2S hbp
 let U:=S.filter fun s=>decide (0<tn p b s)
 have mU:∀{s},s∈U↔s∈S∧0<tn p b s:=by intro s;simp[U]
 have hU:U≠[]:=by
  intro hU
  have key:∀s∈S,tn p b s=0:=by
   intro s hs
   have h1:=bm s hs
   by_cases h:tn p b s=0
   ·exact h
   ·have:s∈U:=mU.mpr ⟨hs,by omega⟩
    rw[hU] at this
    cases this
  have k1:=key x hx
  have k2:=key y hy
  have k3:=key z hz
  have fx:∀u v:Pt,tn p b u=0→tn p b v=0→dt b b p*tn p u v=0:=by
   intro u v e1 e2
   have i1:dt b b p*tn p u v=dt b u p*tn p b v-dt b v p*tn p b u:=by simp only[dt,tn];grind
   rw[i1,e1,e2];simp
  have z0:∀u v:Pt,tn p b u=0→tn p b v=0→tn p u v=0:=by
   intro u v e1 e2
   rcases Int.mul_eq_zero.mp (fx u v e1 e2) with q|q
   ·omega
   ·exact q
  have e:=Z0a x y z p
  have w1:=z0 y z k2 k3
  have w2:=z0 z x k3 k1
  have w3:=z0 x y k1 k2
  have e1:tn x p z=tn p z x:=(Zl x p z).symm
  have e2:tn x y p=tn p x y:=Zl p x y
  omega
 obtain⟨d,hd,dm⟩:=Z0v (fun u v=>0≤tn u b v) U hU
  (fun u _ v _=>by
    have e:tn v b u= - tn u b v:=by simp only[tn];grind
    omega)
  (fun u hu v hv w hw' h1 h2=>by
    have ku:=(mU.mp hu).2
    have kv:=(mU.mp hv).2
    have kw:=(mU.mp hw').2
    have e:tn u b w*tn p b v=tn u b v*tn p b w+tn v b w*tn p b u:=by simp only[tn];grind
    have n1:0≤tn u b v*tn p b w:=Int.mul_nonneg h1 (by omega)
    have n2:0≤tn v b w*tn p b u:=Int.mul_nonneg h2 (by omega)
    by_cases h:0≤tn u b w
    ·exact h
    ·have:tn u b w*tn p b v<0:=Int.mul_neg_of_neg_of_pos (by omega) kv
     omega)
 obtain⟨hdS,kd⟩:=mU.mp hd
 refine⟨d,hdS,b,hb,fun e=>?_,fun s hs=>?_,?_⟩
 ·rw[e,show tn p b b=0 by simp only[tn];grind] at kd
  omega
 ·have h1:=bm s hs
  by_cases h:0<tn p b s
  ·exact dm s (mU.mpr ⟨hs,h⟩)
  ·have es:tn p b s=0:=by omega
   have near:=bn s hs es
   -- on the line of p and b
   have c1:dt b b p*tn s p d= - (dt b s p*tn p b d):=by
    have i1:dt b b p*tn s p d=dt b d p*tn p b s-dt b s p*tn p b d:=by simp only[dt,tn];grind
    rw[i1,es];simp
   have c2:dt b b p*tn d b s=(dt b s p-dt b b p)*tn p b d:=by
    have i1:dt b b p*tn d b s=(dt b s p-dt b b p)*tn p b d-(dt b d p-dt b b p)*tn p b s:=by simp only[dt,tn];grind
    rw[i1,es];simp
   have c3:dt b s p*dt b s p=dt b b p*dt s s p:=by
    have i1:dt b b p*dt s s p=dt b s p*dt b s p+tn p b s*tn p b s:=by simp only[dt,tn];grind
    rw[i1,es];simp
   have hge:dt b b p≤dt b s p:=by
    by_cases q:0≤dt b s p
    ·by_cases q2:dt b b p≤dt b s p
     ·exact q2
     ·exfalso
      have l1:dt b s p*dt b s p≤dt b s p*dt b b p:=Int.mul_le_mul_of_nonneg_left (by omega) q
      have l2:dt b s p*dt b b p<dt b b p*dt b b p:=Int.mul_lt_mul_of_pos_right (by omega) hw
      have l3:dt b b p*dt b b p≤dt b b p*dt s s p:=Int.mul_le_mul_of_nonneg_left near (by omega)
      omega
    ·exfalso
     have pos:0<tn s p d:=by
      have l1:0 < -(dt b s p*tn p b d):=by
       have:=Int.mul_neg_of_neg_of_pos (show dt b s p<0 by omega) kd
       omega
      by_cases h0:0<tn s p d
      ·exact h0
      ·have:=Int.mul_nonneg (show 0≤dt b b p by omega) (show 0≤ - tn s p d by omega)
       rw[Int.mul_neg] at this
       omega
     refine no s hs b hb d hdS (Z1t (by have:=Zr p b s;omega) (by omega) ?_ (.inr (.inl kd)))
     have:tn p d s=tn s p d:=Zl s p d
     omega
   have n1:0≤(dt b s p-dt b b p)*tn p b d:=Int.mul_nonneg (by omega) (by omega)
   by_cases h0:0≤tn d b s
   ·exact h0
   ·have:=Int.mul_neg_of_pos_of_neg hw (show tn d b s<0 by omega)
    omega
 ·have:tn d b p= - tn p b d:=by simp only[tn];grind
  omega
end
abbrev Ln:=Int×Int×Int
def hd(l:Ln)(p:Pt):Bool:=decide (l.1*p.1+l.2.1*p.2≤l.2.2)
def Z2(a b:Pt):Ln:=(b.2-a.2,a.1-b.1,(b.2-a.2)*a.1+(a.1-b.1)*a.2)
theorem Z01{a b s:Pt}:hd (Z2 a b) s=true↔0≤tn a b s:=by
 unfold hd Z2
 rw[decide_eq_true_iff]
 have e:tn a b s=((b.2-a.2)*a.1+(a.1-b.1)*a.2)-((b.2-a.2)*s.1+(a.1-b.1)*s.2):=by simp only[tn];grind
 dsimp only
 omega
def Z3(S:List Pt):List Pt:=S.foldl (fun k x=>if x∈k then k else k ++ [x]) []
theorem Z0o(x:Pt):∀(S k:List Pt),x∈S.foldl (fun k x=>if x∈k then k else k ++ [x]) k↔x∈k∨x∈S
 | [],k=>by simp
 |y::S,k=>by
  rw[List.foldl_cons,Z0o x S]
  by_cases h:y∈k
  ·rw[if_pos h]
   constructor
   ·rintro (q|q)
    ·exact .inl q
    ·exact .inr (List.mem_cons_of_mem _ q)
   ·rintro (q|q)
    ·exact .inl q
    ·rcases List.mem_cons.mp q with e|e
     ·exact .inl (e▸h)
     ·exact .inr e
  ·rw[if_neg h]
   simp only[List.mem_append,List.mem_cons,List.not_mem_nil,or_false]
   constructor
   ·rintro ((q|q)|q)
    ·exact .inl q
    ·exact .inr (.inl q)
    ·exact .inr (.inr q)
   ·rintro (q|q|q)
    ·exact .inl (.inl q)
    ·exact .inl (.inr q)
    ·exact .inr q
theorem Zo{x:Pt}{S:List Pt}:x∈Z3 S↔x∈S:=by unfold Z3;rw[Z0o];simp
def ZE(S:List Pt):List Ln:=(Z3 S).flatMap fun a=>(Z3 S).filterMap fun b=>if a≠b∧(Z3 S).all (hd (Z2 a b)) then some (Z2 a b) else none
theorem Zy{S:List Pt}{l:Ln}:l∈ZE S↔∃a∈S,∃b∈S,a≠b∧(∀s∈S,0≤tn a b s)∧l=Z2 a b:=by
 unfold ZE
 simp only[List.mem_flatMap,List.mem_filterMap]
 constructor
 ·rintro ⟨a,ha,b,hb,h⟩
  split at h
  ·rename_i hc
   refine⟨a,Zo.mp ha,b,Zo.mp hb,hc.1,fun s hs=>?_,(Option.some.inj h).symm⟩
   exact Z01.mp (List.all_eq_true.mp hc.2 s (Zo.mpr hs))
  ·cases h
 ·rintro ⟨a,ha,b,hb,h1,h2,rfl⟩
  refine⟨a,Zo.mpr ha,b,Zo.mpr hb,?_⟩
  rw[if_pos ⟨h1,List.all_eq_true.mpr fun s hs=>Z01.mpr (h2 s (Zo.mp hs))⟩]
def mx(l:List Int):Int:=l.tail.foldl max (l.headD 0)
def mn(l:List Int):Int:=l.tail.foldl min (l.headD 0)
theorem Z0k:∀(l:List Int) (m:Int),m≤l.foldl max m∧(∀x∈l,x≤l.foldl max m)∧(l.foldl max m=m∨l.foldl max m∈l)
 | [],m=>by simp
 |y::l,m=>by
  rw[List.foldl_cons]
  obtain⟨h1,h2,h3⟩:=Z0k l (max m y)
  have hm:m≤(max m y)∧y≤(max m y):=⟨Int.le_max_left ..,Int.le_max_right ..⟩
  refine⟨by omega,fun x hx=>?_,?_⟩
  ·rcases List.mem_cons.mp hx with e|e
   ·subst e;omega
   ·exact h2 x e
  ·rcases h3 with q|q
   ·rw[q]
    rcases Int.le_total m y with h|h
    ·right;rw[Int.max_eq_right h];simp
    ·left;rw[Int.max_eq_left h]
   ·right;exact List.mem_cons_of_mem _ q
theorem Z0l:∀(l:List Int) (m:Int),l.foldl min m≤m∧(∀x∈l,l.foldl min m≤x)∧(l.foldl min m=m∨l.foldl min m∈l)
 | [],m=>by simp
 |y::l,m=>by
  rw[List.foldl_cons]
  obtain⟨h1,h2,h3⟩:=Z0l l (min m y)
  have hm:(min m y)≤m∧(min m y)≤y:=⟨Int.min_le_left ..,Int.min_le_right ..⟩
  refine⟨by omega,fun x hx=>?_,?_⟩
  ·rcases List.mem_cons.mp hx with e|e
   ·subst e;omega
   ·exact h2 x e
  ·rcases h3 with q|q
   ·rw[q]
    rcases Int.le_total m y with h|h
    ·left;rw[Int.min_eq_left h]
    ·right;rw[Int.min_eq_right h];simp
   ·right;exact List.mem_cons_of_mem _ q
theorem Z0w{l:List Int}{x:Int}(h:x∈l):x≤mx l:=by
 cases l with
 |nil=>cases h
 |cons y l=>
  obtain⟨h1,h2,_⟩:=Z0k l y
  rcases List.mem_cons.mp h with e|e
  ·subst e;exact h1
  ·exact h2 x e
theorem Z2k{l:List Int}(h:l≠[]):mx l∈l:=by
 cases l with
 |nil=>exact absurd rfl h
 |cons y l=>
  obtain⟨_,_,h3⟩:=Z0k l y
  rcases h3 with q|q
  ·show _∈y::l
   rw[show mx (y::l)=y from q];simp
  ·exact List.mem_cons_of_mem _ q
theorem Z0x{l:List Int}{x:Int}(h:x∈l):mn l≤x:=by
 cases l with
 |nil=>cases h
 |cons y l=>
  obtain⟨h1,h2,_⟩:=Z0l l y
  rcases List.mem_cons.mp h with e|e
  ·subst e;exact h1
  ·exact h2 x e
theorem Z2l{l:List Int}(h:l≠[]):mn l∈l:=by
 cases l with
 |nil=>exact absurd rfl h
 |cons y l=>
  obtain⟨_,_,h3⟩:=Z0l l y
  rcases h3 with q|q
  ·show _∈y::l
   rw[show mn (y::l)=y from q];simp
  ·exact List.mem_cons_of_mem _ q
def box(S:List Pt):List Ln:=[(1,0,mx (S.map (·.1))),(-1,0,- mn (S.map (·.1))),(0,1,mx (S.map (·.2))),(0,-1,- mn (S.map (·.2)))]
def Zc(S:List Pt):List Ln:=box S++ZE S
theorem Z1f{S:List Pt}{l:Ln}(h:l∈Zc S){s:Pt}(hs:s∈S):hd l s=true:=by
 unfold Zc at h
 rcases List.mem_append.mp h with h|h
 ·have h1:=Z0w (List.mem_map_of_mem (f:=(·.1)) hs)
  have h2:=Z0x (List.mem_map_of_mem (f:=(·.1)) hs)
  have h3:=Z0w (List.mem_map_of_mem (f:=(·.2)) hs)
  have h4:=Z0x (List.mem_map_of_mem (f:=(·.2)) hs)
  unfold box at h
  simp only[List.mem_cons,List.not_mem_nil,or_false] at h
  unfold hd
  rw[decide_eq_true_iff]
  rcases h with e|e|e|e<;>subst e<;>simp only<;>omega
 ·obtain⟨a,_,b,_,_,h',rfl⟩:=Zy.mp h
  exact Z01.mpr (h' s hs)
def Zh(S:List Pt)(p:Pt):Option Ln:=(Zc S).find? fun l=>!hd l p
theorem Z1u{S:List Pt}{p:Pt}{l:Ln}(h:Zh S p=some l):l∈Zc S∧hd l p=false:=by
 unfold Zh at h
 have h1:=List.find?_some h
 have h2:=List.mem_of_find?_eq_some h
 exact⟨h2,by simpa using h1⟩
theorem Z1v{S:List Pt}{p:Pt}(h:Zh S p=none):∀l∈Zc S,hd l p=true:=by
 unfold Zh at h
 intro l hl
 have:=List.find?_eq_none.mp h l hl
 simpa using this
def mF(a b c p:Pt):List Int:=[tn p b c,tn a p c,tn a b p]
def ig(a b p:Pt):List Int:=
 let g:=(b.1-a.1)*(p.1-a.1)+(b.2-a.2)*(p.2-a.2)
 [(b.1-a.1)*(b.1-a.1)+(b.2-a.2)*(b.2-a.2)-g,g]
def Zm(w:List Int):Bool:=decide (w.sum≠0) && w.all fun s=>decide (0≤s*w.sum)
theorem Z1X{a b c p:Pt}:Zm (mF a b c p)=true↔yL a b c p:=by
 unfold Zm mF yL
 have e:[tn p b c,tn a p c,tn a b p].sum=tn a b c:=by simp;have:=Z0a a b c p;omega
 rw[e]
 simp[and_assoc]
def at_(S:List Pt)(i:Nat):Pt:=S.getD i (0,0)
theorem ZS{S:List Pt}{i:Nat}(h:i<S.length):at_ S i∈S:=by
 unfold at_
 rw[List.getD_eq_getElem?_getD,List.getElem?_eq_getElem h]
 exact List.getElem_mem h
theorem ZT{S:List Pt}{x:Pt}(h:x∈S):∃i,i<S.length∧at_ S i=x:=by
 obtain⟨i,hi,e⟩:=List.mem_iff_getElem.mp h
 exact⟨i,hi,by unfold at_;rw[List.getD_eq_getElem?_getD,List.getElem?_eq_getElem hi];exact e⟩
def Z8(n:Nat):List (Nat×Nat):=(List.range n).flatMap fun j=>(List.range j).map fun i=>(i,j)
def Zb(n:Nat):List (Nat×Nat×Nat):=(List.range n).flatMap fun k=>(Z8 k).map fun q=>(q.1,q.2,k)
theorem Zt{n i j:Nat}:(i,j)∈Z8 n↔i<j∧j<n:=by
 unfold Z8
 simp only[List.mem_flatMap,List.mem_range,List.mem_map,Prod.mk.injEq]
 constructor
 ·rintro ⟨k,hk,m,hm,rfl,rfl⟩;exact⟨hm,hk⟩
 ·rintro ⟨h1,h2⟩;exact⟨j,h2,i,h1,rfl,rfl⟩
theorem Zd{n i j k:Nat}:(i,j,k)∈Zb n↔i<j∧j<k∧k<n:=by
 unfold Zb
 simp only[List.mem_flatMap,List.mem_range,List.mem_map,Prod.mk.injEq]
 constructor
 ·rintro ⟨m,hm,⟨a,b⟩,hq,rfl,rfl,rfl⟩
  have:=Zt.mp hq
  exact⟨this.1,this.2,hm⟩
 ·rintro ⟨h1,h2,h3⟩;exact⟨k,h3,(i,j),Zt.mpr ⟨h1,h2⟩,rfl,rfl,rfl⟩
def Z0A(S:List Pt)(p:Pt):Option (List Int×List Nat):=(Zb S.length).findSome? fun q=>if Zm (mF (at_ S q.1) (at_ S q.2.1) (at_ S q.2.2) p) then some (mF (at_ S q.1) (at_ S q.2.1) (at_ S q.2.2) p,[q.1,q.2.1,q.2.2]) else none
def Z1g(S:List Pt)(p:Pt):Option (List Int×List Nat):=(Z8 S.length).findSome? fun q=>if Zm (ig (at_ S q.1) (at_ S q.2) p) then some (ig (at_ S q.1) (at_ S q.2) p,[q.1,q.2]) else none
def Zk(S:List Pt)(p:Pt):List Int×List Nat:=((Z0A S p).orElse fun _=>Z1g S p).getD ([1],[0])
structure Z1Y(S:List Pt)(p:Pt)(w:List Int)(q:List Nat):Prop where
 len:w.length=q.length
 sum:w.sum≠0
 sign:∀s∈w,0≤s*w.sum
 nd:q.Nodup
 lt:∀i∈q,i<S.length
 x:((w.zip q).map fun a=>a.1*(at_ S a.2).1).sum=w.sum*p.1
 y:((w.zip q).map fun a=>a.1*(at_ S a.2).2).sum=w.sum*p.2
theorem Zs{w:List Int}:Zm w=true↔w.sum≠0∧∀s∈w,0≤s*w.sum:=by
 unfold Zm
 simp
theorem Z3k{S:List Pt}{p:Pt}{i j k:Nat}(h1:i<j)(h2:j<k)(h3:k<S.length)(h:Zm (mF (at_ S i) (at_ S j) (at_ S k) p)=true):Z1Y S p (mF (at_ S i) (at_ S j) (at_ S k) p) [i,j,k]:=by
 have hs:=Zs.mp h
 refine⟨rfl,hs.1,hs.2,by simp;omega,by simp;omega,?_,?_⟩
 ·unfold mF
  simp[tn]
  grind
 ·unfold mF
  simp[tn]
  grind
theorem Z3l{S:List Pt}{p:Pt}{i j:Nat}(h1:i<j)(h2:j<S.length)(h:Zm (ig (at_ S i) (at_ S j) p)=true)(on:tn (at_ S i) (at_ S j) p=0):Z1Y S p (ig (at_ S i) (at_ S j) p) [i,j]:=by
 have hs:=Zs.mp h
 refine⟨rfl,hs.1,hs.2,by simp;omega,by simp;omega,?_,?_⟩
 ·unfold ig
  unfold tn at on
  simp
  grind
 ·unfold ig
  unfold tn at on
  simp
  grind
theorem Z02{a b:Pt}:tn a a b=0∧tn a b a=0∧tn b a a=0:=by simp only[tn];grind
theorem Z3m{S:List Pt}{p:Pt}{i j k:Nat}(hi:i<S.length)(hj:j<S.length)(hk:k<S.length)(h:yL (at_ S i) (at_ S j) (at_ S k) p):∃i j k,(i,j,k)∈Zb S.length∧yL (at_ S i) (at_ S j) (at_ S k) p:=by
 have n1:i≠j:=fun e=>h.1 (by rw[e];exact Z02.1)
 have n2:j≠k:=fun e=>h.1 (by rw[e];exact Z02.2.2)
 have n3:i≠k:=fun e=>h.1 (by rw[e];exact Z02.2.1)
 rcases Nat.lt_or_gt_of_ne n1 with a|a<;>rcases Nat.lt_or_gt_of_ne n2 with b|b<;>rcases Nat.lt_or_gt_of_ne n3 with c|c
 ·exact⟨i,j,k,Zd.mpr ⟨a,b,hk⟩,h⟩
 ·omega
 ·exact⟨i,k,j,Zd.mpr ⟨c,b,hj⟩,h.swap.Fz.swap.Fz.swap.Fz.swap.Fz.swap.Fz |> fun _=>h.Fz.swap.Fz.Fz⟩
 ·exact⟨k,i,j,Zd.mpr ⟨c,a,hj⟩,h.Fz.Fz⟩
 ·exact⟨j,i,k,Zd.mpr ⟨a,c,hk⟩,h.swap⟩
 ·exact⟨j,k,i,Zd.mpr ⟨b,c,hi⟩,h.Fz⟩
 ·omega
 ·exact⟨k,j,i,Zd.mpr ⟨b,a,hi⟩,h.Fz.swap⟩
theorem Z1w{S:List Pt}{p:Pt}(h:Z0A S p=none):∀x∈S,∀y∈S,∀z∈S,¬yL x y z p:=by
 intro x hx y hy z hz hin
 obtain⟨i,hi,rfl⟩:=ZT hx
 obtain⟨j,hj,rfl⟩:=ZT hy
 obtain⟨k,hk,rfl⟩:=ZT hz
 obtain⟨i,j,k,hm,h3⟩:=Z3m hi hj hk hin
 have:=List.findSome?_eq_none_iff.mp h (i,j,k) hm
 rw[if_pos (Z1X.mpr h3)] at this
 cases this
theorem Z1x{S:List Pt}{p:Pt}(hS:S≠[])(h:Zh S p=none):Z1Y S p (Zk S p).1 (Zk S p).2:=by
 have hl:=Z1v h
 unfold Zk
 cases e3:Z0A S p with
 |some r=>
  obtain⟨⟨i,j,k⟩,hm,hr⟩:=List.exists_of_findSome?_eq_some e3
  obtain⟨h1,h2,h4⟩:=Zd.mp hm
  split at hr
  ·rename_i hw
   cases hr
   exact Z3k h1 h2 h4 hw
  ·cases hr
 |none=>
  have no:=Z1w e3
  have flat:∀x∈S,∀y∈S,∀z∈S,tn x y z=0:=by
   intro x hx y hy z hz
   by_cases q:tn x y z=0
   ·exact q
   ·exfalso
    obtain⟨a,ha,b,hb,hab,h1,h2⟩:=Z3E ⟨x,hx,y,hy,z,hz,q⟩ no
    have:=Z01.mp (hl (Z2 a b) (List.mem_append_right _ (Zy.mpr ⟨a,ha,b,hb,hab,h1,rfl⟩)))
    omega
  have on:∀a∈S,∀b∈S,tn a b p=0:=by
   intro a ha b hb
   by_cases hab:a=b
   ·subst hab;exact Z02.1
   ·have h1:=Z01.mp (hl (Z2 a b) (List.mem_append_right _ (Zy.mpr ⟨a,ha,b,hb,hab,fun s hs=>by rw[flat a ha b hb s hs];exact Int.le_refl 0,rfl⟩)))
    have h2:=Z01.mp (hl (Z2 b a) (List.mem_append_right _ (Zy.mpr ⟨b,hb,a,ha,fun e=>hab e.symm,fun s hs=>by rw[flat b hb a ha s hs];exact Int.le_refl 0,rfl⟩)))
    rw[ZI a b p] at h2
    omega
  have bx:∀l∈box S,hd l p=true:=fun l hm=>hl l (List.mem_append_left _ hm)
  have b1:=bx (1,0,mx (S.map (·.1))) (by simp[box])
  have b2:=bx (-1,0,- mn (S.map (·.1))) (by simp[box])
  have b3:=bx (0,1,mx (S.map (·.2))) (by simp[box])
  have b4:=bx (0,-1,- mn (S.map (·.2))) (by simp[box])
  simp only[hd,decide_eq_true_iff] at b1 b2 b3 b4
  have c1:p.1≤mx (S.map (·.1)):=by omega
  have c2:mn (S.map (·.1))≤p.1:=by omega
  have c3:p.2≤mx (S.map (·.2)):=by omega
  have c4:mn (S.map (·.2))≤p.2:=by omega
  have sq:∀z:Int,0≤z*z:=fun z=>by
   rcases Int.le_total 0 z with q|q
   ·exact Int.mul_nonneg q q
   ·exact Int.mul_nonneg_of_nonpos_of_nonpos q q
  cases e2:Z1g S p with
  |some r=>
   obtain⟨⟨i,j⟩,hm,hr⟩:=List.exists_of_findSome?_eq_some e2
   obtain⟨h1,h2⟩:=Zt.mp hm
   split at hr
   ·rename_i hw
    cases hr
    exact Z3l h1 h2 hw (on _ (ZS (by omega)) _ (ZS h2))
   ·cases hr
  |none=>
   have no2:∀a∈S,∀b∈S,¬(Zm (ig a b p)=true):=by
    intro a ha b hb hw
    obtain⟨i,hi,rfl⟩:=ZT ha
    obtain⟨j,hj,rfl⟩:=ZT hb
    have fall:∀i j,i<j→j<S.length→Zm (ig (at_ S i) (at_ S j) p)=true→False:=by
     intro i j h1 h2 hw
     have:=List.findSome?_eq_none_iff.mp e2 (i,j) (Zt.mpr ⟨h1,h2⟩)
     rw[if_pos hw] at this
     cases this
    rcases Nat.lt_trichotomy i j with q|q|q
    ·exact fall i j q hj hw
    ·subst q
     refine(Zs.mp hw).1 ?_
     simp[ig]
    ·refine fall j i q hi ?_
     rw[Zs] at hw ⊢
     have e1:(ig (at_ S j) (at_ S i) p).sum=(ig (at_ S i) (at_ S j) p).sum:=by simp[ig];grind
     refine⟨by rw[e1];exact hw.1,fun s hs=>?_⟩
     rw[e1]
     refine hw.2 s ?_
     simp[ig] at hs ⊢
     rcases hs with e|e
     ·right;rw[e];grind
     ·left;rw[e];grind
   have key:∀a∈S,∀b∈S,(0<b.1-a.1→a.1≤p.1→p.1≤b.1→False)∧(0<b.2-a.2→a.2≤p.2→p.2≤b.2→False):=by
    intro a ha b hb
    have o:=on a ha b hb
    have e:(b.1-a.1)*(p.2-a.2)=(b.2-a.2)*(p.1-a.1):=by unfold tn at o;omega
    refine⟨fun h1 h2 h3=>no2 a ha b hb ?_,fun h1 h2 h3=>no2 a ha b hb ?_⟩
    all_goals
     rw[Zs]
     have hsum:(ig a b p).sum=(b.1-a.1)*(b.1-a.1)+(b.2-a.2)*(b.2-a.2):=by simp[ig]
     have s1:=sq (b.1-a.1)
     have s2:=sq (b.2-a.2)
    ·have pos:0<(b.1-a.1)*(b.1-a.1):=Int.mul_pos h1 h1
     have g1:0≤(b.1-a.1)*(p.1-a.1)+(b.2-a.2)*(p.2-a.2):=by
      have i1:((b.1-a.1)*(p.1-a.1)+(b.2-a.2)*(p.2-a.2))*(b.1-a.1)=((b.1-a.1)*(b.1-a.1)+(b.2-a.2)*(b.2-a.2))*(p.1-a.1):=by grind
      have i2:0≤((b.1-a.1)*(b.1-a.1)+(b.2-a.2)*(b.2-a.2))*(p.1-a.1):=Int.mul_nonneg (by omega) (by omega)
      by_cases q:0≤(b.1-a.1)*(p.1-a.1)+(b.2-a.2)*(p.2-a.2)
      ·exact q
      ·have:=Int.mul_neg_of_neg_of_pos (show(b.1-a.1)*(p.1-a.1)+(b.2-a.2)*(p.2-a.2)<0 by omega) h1
       omega
     have g2:0≤(b.1-a.1)*(b.1-a.1)+(b.2-a.2)*(b.2-a.2)-((b.1-a.1)*(p.1-a.1)+(b.2-a.2)*(p.2-a.2)):=by
      have i1:((b.1-a.1)*(b.1-a.1)+(b.2-a.2)*(b.2-a.2)-((b.1-a.1)*(p.1-a.1)+(b.2-a.2)*(p.2-a.2)))*(b.1-a.1)=((b.1-a.1)*(b.1-a.1)+(b.2-a.2)*(b.2-a.2))*(b.1-p.1):=by grind
      have i2:0≤((b.1-a.1)*(b.1-a.1)+(b.2-a.2)*(b.2-a.2))*(b.1-p.1):=Int.mul_nonneg (by omega) (by omega)
      by_cases q:0≤(b.1-a.1)*(b.1-a.1)+(b.2-a.2)*(b.2-a.2)-((b.1-a.1)*(p.1-a.1)+(b.2-a.2)*(p.2-a.2))
      ·exact q
      ·have:=Int.mul_neg_of_neg_of_pos (show(b.1-a.1)*(b.1-a.1)+(b.2-a.2)*(b.2-a.2)-((b.1-a.1)*(p.1-a.1)+(b.2-a.2)*(p.2-a.2))<0 by omega) h1
       omega
     rw[hsum]
     refine⟨by omega,fun s hs=>?_⟩
     simp[ig] at hs
     rcases hs with e|e<;>rw[e]
     ·exact Int.mul_nonneg g2 (by omega)
     ·exact Int.mul_nonneg g1 (by omega)
    ·have pos:0<(b.2-a.2)*(b.2-a.2):=Int.mul_pos h1 h1
     have g1:0≤(b.1-a.1)*(p.1-a.1)+(b.2-a.2)*(p.2-a.2):=by
      have i1:((b.1-a.1)*(p.1-a.1)+(b.2-a.2)*(p.2-a.2))*(b.2-a.2)=((b.1-a.1)*(b.1-a.1)+(b.2-a.2)*(b.2-a.2))*(p.2-a.2):=by grind
      have i2:0≤((b.1-a.1)*(b.1-a.1)+(b.2-a.2)*(b.2-a.2))*(p.2-a.2):=Int.mul_nonneg (by omega) (by omega)
      by_cases q:0≤(b.1-a.1)*(p.1-a.1)+(b.2-a.2)*(p.2-a.2)
      ·exact q
      ·have:=Int.mul_neg_of_neg_of_pos (show(b.1-a.1)*(p.1-a.1)+(b.2-a.2)*(p.2-a.2)<0 by omega) h1
       omega
     have g2:0≤(b.1-a.1)*(b.1-a.1)+(b.2-a.2)*(b.2-a.2)-((b.1-a.1)*(p.1-a.1)+(b.2-a.2)*(p.2-a.2)):=by
      have i1:((b.1-a.1)*(b.1-a.1)+(b.2-a.2)*(b.2-a.2)-((b.1-a.1)*(p.1-a.1)+(b.2-a.2)*(p.2-a.2)))*(b.2-a.2)=((b.1-a.1)*(b.1-a.1)+(b.2-a.2)*(b.2-a.2))*(b.2-p.2):=by grind
      have i2:0≤((b.1-a.1)*(b.1-a.1)+(b.2-a.2)*(b.2-a.2))*(b.2-p.2):=Int.mul_nonneg (by omega) (by omega)
      by_cases q:0≤(b.1-a.1)*(b.1-a.1)+(b.2-a.2)*(b.2-a.2)-((b.1-a.1)*(p.1-a.1)+(b.2-a.2)*(p.2-a.2))
      ·exact q
      ·have:=Int.mul_neg_of_neg_of_pos (show(b.1-a.1)*(b.1-a.1)+(b.2-a.2)*(b.2-a.2)-((b.1-a.1)*(p.1-a.1)+(b.2-a.2)*(p.2-a.2))<0 by omega) h1
       omega
     rw[hsum]
     refine⟨by omega,fun s hs=>?_⟩
     simp[ig] at hs
     rcases hs with e|e<;>rw[e]
     ·exact Int.mul_nonneg g2 (by omega)
     ·exact Int.mul_nonneg g1 (by omega)
   have nm:∀f:Pt→Int,S.map f≠[]:=fun f e=>hS (List.map_eq_nil_iff.mp e)
   obtain⟨xa,hxa,exa⟩:=List.mem_map.mp (Z2l (nm (·.1)))
   obtain⟨xb,hxb,exb⟩:=List.mem_map.mp (Z2k (nm (·.1)))
   obtain⟨ya,hya,eya⟩:=List.mem_map.mp (Z2l (nm (·.2)))
   obtain⟨yb,hyb,eyb⟩:=List.mem_map.mp (Z2k (nm (·.2)))
   have h0:at_ S 0∈S:=ZS (List.length_pos_iff.mpr hS)
   have l1:=Z0w (List.mem_map_of_mem (f:=(·.1)) h0)
   have l2:=Z0x (List.mem_map_of_mem (f:=(·.1)) h0)
   have l3:=Z0w (List.mem_map_of_mem (f:=(·.2)) h0)
   have l4:=Z0x (List.mem_map_of_mem (f:=(·.2)) h0)
   have ex:p.1=(at_ S 0).1:=by
    by_cases q:mn (S.map (·.1))<mx (S.map (·.1))
    ·exact((key xa hxa xb hxb).1 (by omega) (by omega) (by omega)).elim
    ·omega
   have ey:p.2=(at_ S 0).2:=by
    by_cases q:mn (S.map (·.2))<mx (S.map (·.2))
    ·exact((key ya hya yb hyb).2 (by omega) (by omega) (by omega)).elim
    ·omega
   refine⟨rfl,by simp,by simp,by simp,by simp;exact List.length_pos_iff.mpr hS,?_,?_⟩
   ·simp[ex]
   ·simp[ey]
end Hu
namespace Fr
def df:List Int→(Nat→Int)→Int
 | [],_=>0
 |x::l,f=>x*f 0+df l fun k=>f (k+1)
theorem Z1y:∀(l:List Int) (i:Nat) (s:Int) (f:Nat→Int),i<l.length→l.getD i 0=0→df (l.set i s) f=df l f+s*f i
 | [],_,_,_,h,_=>by simp at h
 |x::l,0,s,f,_,h=>by
  have e:x=0:=by simpa using h
  subst e
  simp[df]
  omega
 |x::l,i+1,s,f,hl,h=>by
  have:=Z1y l i s (fun k=>f (k+1)) (by simpa using hl) (by simpa using h)
  simp only[List.set_cons_succ,df,this]
  omega
theorem Z2r(n:Nat):∀(f:Nat→Int),df (List.replicate n 0) f=0:=by
 induction n with
 |zero=>intro f;rfl
 |succ n ih=>intro f;rw[List.replicate_succ];simp[df,ih]
def lay(l:List Int)(a:List (Int×Nat)):List Int:=a.foldl (fun acc a=>acc.set a.2 a.1) l
theorem Z13:∀(a:List (Int×Nat)) (l:List Int),(lay l a).length=l.length
 | [],l=>rfl
 |x::a,l=>by unfold lay;rw[List.foldl_cons];exact(Z13 a _).trans (by simp)
theorem Z1z:∀(a:List (Int×Nat)) (l:List Int) (f:Nat→Int),(a.map (·.2)).Nodup→(∀x∈a,x.2<l.length)→(∀x∈a,l.getD x.2 0=0)→df (lay l a) f=df l f+(a.map fun x=>x.1*f x.2).sum
 | [],l,f,_,_,_=>by simp[lay]
 |x::a,l,f,nd,lt,z=>by
  rw[List.map_cons,List.nodup_cons] at nd
  have h1:=Z1y l x.2 x.1 f (lt x (by simp)) (z x (by simp))
  have h2:=Z1z a (l.set x.2 x.1) f nd.2 (fun y hy=>by simpa using lt y (List.mem_cons_of_mem _ hy)) fun y hy=>by
   have hne:x.2≠y.2:=fun e=>nd.1 (e▸List.mem_map_of_mem hy)
   rw[List.getD_eq_getElem?_getD,List.getElem?_set_ne hne,←List.getD_eq_getElem?_getD]
   exact z y (List.mem_cons_of_mem _ hy)
  unfold lay at h2 ⊢
  rw[List.foldl_cons,h2,h1,List.map_cons,List.sum_cons]
  omega
theorem Z14:∀(a:List (Int×Nat)) (l:List Int) (x:Int),x∈lay l a→x∈l∨x∈a.map (·.1)
 | [],l,x,h=>.inl h
 |y::a,l,x,h=>by
  unfold lay at h
  rw[List.foldl_cons] at h
  rcases Z14 a (l.set y.2 y.1) x h with q|q
  ·rcases List.mem_or_eq_of_mem_set q with q|q
   ·exact .inl q
   ·right;rw[q];simp
  ·right;rw[List.map_cons];exact List.mem_cons_of_mem _ q
theorem Z0B:∀(l:List Int),df l (fun _=>1)=l.sum
 | []=>rfl
 |x::l=>by simp[df,Z0B l]
end Fr
namespace T
open PySem L2 M2 M3 M4 P
def top(i:Nat):Stmt:=PySem.Challenge.pw_shadowpost_k36_whole_dark_by_weights.main.body.getD i (.Pass ⟨0,0,0,0⟩)
abbrev wL:Stmt:=top 68
abbrev wM:Stmt:=top 63
abbrev wN:Stmt:=top 67
abbrev Fd:Stmt:=inClass (top 60) 0
abbrev oG:Stmt:=top 10
abbrev wO:Stmt:=top 12
abbrev wQ:Stmt:=top 11
abbrev wR:Stmt:=top 9
abbrev rG:Stmt:=top 13
abbrev wU:Stmt:=top 14
abbrev wV:Stmt:=top 26
abbrev IW:Stmt:=top 50
abbrev I_:Stmt:=top 51
abbrev wW:Stmt:=inClass (top 53) 0
abbrev Ja:Stmt:=inClass (top 54) 0
abbrev wX:Stmt:=inClass (top 55) 0
abbrev rH:Stmt:=inClass (top 56) 0
abbrev wY:Stmt:=inClass (top 57) 0
abbrev rJ:Stmt:=top 29
abbrev wZ:Stmt:=top 32
abbrev xg:Stmt:=top 33
abbrev xq:Stmt:=top 34
abbrev Fe:Stmt:=top 35
abbrev xr:Stmt:=top 36
abbrev xu:Stmt:=top 37
abbrev rK:Stmt:=top 38
abbrev xG:Stmt:=top 62
abbrev xH:Stmt:=top 65
abbrev xJ:Stmt:=top 64
abbrev rM:Stmt:=top 66
abbrev xK:Stmt:=top 42
abbrev xM:Stmt:=top 43
abbrev xO:Stmt:=top 45
abbrev Jb:Stmt:=inClass (top 52) 0
abbrev rN:Stmt:=top 46
abbrev xP:Stmt:=top 47
abbrev Jc:Stmt:=top 48
abbrev Jd:Stmt:=top 44
abbrev rP:Stmt:=top 49
abbrev xQ:Stmt:=top 58
abbrev xR:Stmt:=top 15
abbrev rQ:Stmt:=top 21
abbrev rT:Stmt:=top 22
abbrev Je:Stmt:=top 6
abbrev xT:Stmt:=top 7
abbrev rW:Stmt:=top 20
abbrev xU:Stmt:=top 16
abbrev Jf:Stmt:=top 17
abbrev rY:Stmt:=top 19
abbrev xV:Stmt:=top 18
abbrev oH:Stmt:=top 23
abbrev xW:Stmt:=top 24
abbrev xX:Stmt:=top 27
abbrev xY:Stmt:=top 30
abbrev xZ:Stmt:=top 69
abbrev oJ:Stmt:=top 70
abbrev yc:Stmt:=top 71
abbrev yd:Stmt:=top 73
abbrev yg:Stmt:=top 74
abbrev yj:Stmt:=top 72
abbrev oK:Stmt:=top 75
abbrev oM:Stmt:=top 76
abbrev yq:Stmt:=top 77
abbrev fM:Stmt:=top 78
def Zz:List ((String×String)×Bool):=[]
def ZA:List ((String×String)×Bool):=[]
def ZB:List String:=[]
def ZC:List String:=[]
def cG(c0:Addr)(c1:Addr)(c2:Addr)(c3:Addr)(c4:Addr)(c5:Addr)(c6:Addr)(c7:Addr)(c8:Addr)(c9:Addr):String→Addr:=fun s=>match s with
 | "YardError" =>c0
 | "NoNumber" =>c1
 | "BadThing" =>c2
 | "Thing" =>c3
 | "Post" =>c4
 | "Fence" =>c5
 | "Sail" =>c6
 | "Cloth" =>c7
 | "House" =>c8
 | "Yard" =>c9
 |_=>0
noncomputable def fC:M Fl:=(ġ (bJ (jx (aJ (Ć ŏ (Ć œ (Ć ſ (Ā 0) (mC (.int 7))) (mC (.int 16))) (mC (.int 11)))) (aJ (Ć Ru (Ā 1) (mC (.int 6)))))
 (ĭ (Ř (Ć Ē (Ę (ak (Ą (ŉ (Ą (mC (.int 1)) (Ą (mC (.int 20)) ė))) (Ą (ŉ (Ą (mC (.int 20)) (Ą (mC (.int 1)) ė))) ė)))) (Ć œ (Ā 0) (mC (.int 2))))))
 bU)
 (ġ (ķ 2 (ŀ ĸ (mC (.int 1)) (Ć œ (Ā 0) (bC qU (Ą (mC (.int 5)) (Ą (Ā 1) ė))))))
 (ĭ (Ř (ŉ (Ą (ę 2) (Ą (Ę (ŀ ĸ (mC (.int 1)) (Ć œ (Ć ſ (Ā 0) (mC (.int 5))) (bC qU (Ą (mC (.int 4)) (Ą (Ć ſ (Ā 1) (Ā 2)) ė)))))) ė)))))))
noncomputable def dU:MF:=Ň 2 3 fC
noncomputable def kE:M Fl:=(bJ (aJ (Ć ŏ (Ć œ (Ā 0) (mC (.int 2))) (mC (.int 0))))
 (ġ (vQ 2 (Ć œ (Ā 3) (mC (.int 524287))))
 (ķ 3 (Ř (Ć ſ (Ā 3) (mC (.int 524287))))))
 (ġ (ķ 3 (Ř (Ć œ (Ę (ŀ ĸ (Ę (ŀ ĸ (Ć Ĥ (Ā 3) (mC (.int 49157))) (mC (.int 24593)))) (Ć Ĥ (mC (.int 2)) (Ā 4)))) (mC (.int 8388593)))))
 (vQ 2 (Ć ſ (Ā 3) (mC (.int 16))))))
noncomputable def uE:M Fl:=(ġ (ķ 2 (ak ė))
 (ġ (ķ 3 (Ř (Ć ſ (Ā 0) (mC (.int 2)))))
 (ġ (bJ (aJ (Ć ŏ (Ć œ (Ā 0) (mC (.int 2))) (mC (.int 1))))
 (ķ 3 (Ř (Ć œ (Ā 3) (mC (.int 8388593)))))
 bU)
 (ġ (cU (Ű ů (Ą (ę 1) ė)) (gN 4) kE)
 (ĭ (cJ 2))))))
noncomputable def gF:MF:=Ň 2 5 uE
noncomputable def zW:M Fl:=(ġ (ķ 1 (Ė gF (Ĉ 0 (Đ (mC (.int 4)) ē))))
 (ġ (ķ 2 (Ř (Ć Ē (Ę (ak (Ą (mC (.int 1)) (Ą (mC (.int 1)) (Ą (mC (.int 3)) (Ą (Ć qT (mC (.int 10)) (mC (.int 5))) ė)))))) (Ć œ (Ć Ē (Ā 1) (mC (.int 3))) (mC (.int 4))))))
 (ĭ (Ř (ŉ (Ą (Ć Ĥ (Ć ũ (Ć œ (Ć Ē (Ā 1) (mC (.int 0))) (mC (.int 13))) (mC (.int 6))) (Ā 2)) (Ą (Ć Ĥ (Ć ũ (Ć œ (Ć Ē (Ā 1) (mC (.int 1))) (mC (.int 13))) (mC (.int 6))) (Ā 2)) (Ą (Ć Ĥ (Ę (ŀ ĸ (mC (.int 1)) (Ć œ (Ć Ē (Ā 1) (mC (.int 2))) (mC (.int 5))))) (Ā 2)) ė))))))))
noncomputable def lH:MF:=Ň 1 3 zW
noncomputable def Jg:M Fl:=(ġ (iK 0 ["Yard"] "width" (ę 1))
 (ġ (iK 0 ["Yard"] "height" (ę 2))
 (ġ (iK 0 ["Yard"] "things" (Ę (nA dO (Ą (Ā 3) ė))))
 (iK 0 ["Yard"] "days" (Ę (Œ [] 3 (Ţ 4) (gT 3 (ě (gN 0) (ě (gN 1) (ě (gN 2) ŝ)))) Ņ (ŉ (Ą (ę 0) (Ą (ę 1) (Ą (Ę (nA dO (Ą (Ā 2) ė))) ė))))))))))
noncomputable def iu:MI:=cY 5 5 "Yard" Jg
noncomputable def zX:M Fl:=(ġ (ķ 1 (Œ [] 1 (Ţ 0) (gN 0) Ņ (Ć Ē (Ā 0) (mC (.int 0)))))
 (ġ (ķ 2 (Œ [] 1 (Ţ 0) (gN 0) Ņ (Ć Ē (Ā 0) (mC (.int 1)))))
 (ĭ (ak (Ą (ŉ (Ą (mC (.int 1)) (Ą (mC (.int 0)) (Ą (bC iM (Ą (Ā 1) ė)) ė)))) (Ą (ŉ (Ą (lA gB (mC (.int 1))) (Ą (mC (.int 0)) (Ą (lA gB (bC qZ (Ą (Ā 1) ė))) ė)))) (Ą (ŉ (Ą (mC (.int 0)) (Ą (mC (.int 1)) (Ą (bC iM (Ą (Ā 2) ė)) ė)))) (Ą (ŉ (Ą (mC (.int 0)) (Ą (lA gB (mC (.int 1))) (Ą (lA gB (bC qZ (Ą (Ā 2) ė))) ė)))) ė))))))))
noncomputable def rZ:MF:=Ň 1 3 zX
noncomputable def kI:M Fl:=(bJ (aJ (Ć (inD true) (Ā 2) (Ā 1)))
 (vQ 1 (ę 2))
 bU)
noncomputable def zY:M Fl:=(ġ (ķ 1 (ak ė))
 (ġ (cU (Ţ 0) (gN 2) kI)
 (ĭ (cJ 1))))
noncomputable def su:MF:=Ň 1 3 zY
noncomputable def zZ:M Fl:=(ġ (ķ 2 (Ř (Ć ũ (Ć Ē (Ā 1) (mC (.int 1))) (Ć Ē (Ā 0) (mC (.int 1))))))
 (ġ (ķ 3 (Ř (Ć ũ (Ć Ē (Ā 0) (mC (.int 0))) (Ć Ē (Ā 1) (mC (.int 0))))))
 (ĭ (Ř (ŉ (Ą (ę 2) (Ą (ę 3) (Ą (Ę (ŀ ĸ (Ć Ĥ (Ā 2) (Ć Ē (Ā 0) (mC (.int 0)))) (Ć Ĥ (Ā 3) (Ć Ē (Ā 0) (mC (.int 1)))))) ė))))))))
noncomputable def sy:MF:=Ň 2 4 zZ
noncomputable def z_:M Fl:=(ĭ (Ř (Ć mz (Ę (ŀ ĸ (Ć Ĥ (Ć Ē (Ā 0) (mC (.int 0))) (Ć Ē (Ā 1) (mC (.int 0)))) (Ć Ĥ (Ć Ē (Ā 0) (mC (.int 1))) (Ć Ē (Ā 1) (mC (.int 1)))))) (Ć Ē (Ā 0) (mC (.int 2))))))
noncomputable def iR:MF:=Ň 2 2 z_
noncomputable def kJ:M Fl:=(ġ (ķ 5 (Ė sy (Ĉ 3 (Ĉ 4 ē))))
 (bJ (jx (aJ (Ć aN (Ā 3) (Ā 4))) (dj (bC jX (Ą (Ę (Œ [5] 1 (Ţ 2) (gN 1) Ņ (Ę (Ė iR (Ĉ 0 (Ĉ 1 ē)))))) ė))))
 (vQ 1 (ę 5))
 bU))
noncomputable def uF:M Fl:=(cU (Ţ 2) (gN 4) kJ)
noncomputable def Aa:M Fl:=(ġ (ķ 1 (ak ė))
 (ġ (ķ 2 (Ė su (Ĉ 0 ē)))
 (ġ (cU (Ţ 2) (gN 3) uF)
 (ĭ (cJ 1)))))
noncomputable def sE:MF:=Ň 1 6 Aa
noncomputable def Ab:M Fl:=(ĭ (ŀ ĸ (Ę (Ė rZ (Ĉ 0 ē))) (Ę (Ė sE (Ĉ 0 ē)))))
noncomputable def lJ:MF:=Ň 1 1 Ab
noncomputable def Ac:M Fl:=(ĭ (Ř (ŉ (Ą (Ę (ŀ ĸ (Ć Ĥ (Ć Ē (Ā 1) (mC (.int 2))) (Ć Ē (Ā 0) (mC (.int 0)))) (Ć Ĥ (Ć Ē (Ā 1) (mC (.int 0))) (Ć Ē (Ā 0) (mC (.int 2)))))) (Ą (Ę (ŀ ĸ (Ć Ĥ (Ć Ē (Ā 1) (mC (.int 2))) (Ć Ē (Ā 0) (mC (.int 1)))) (Ć Ĥ (Ć Ē (Ā 1) (mC (.int 1))) (Ć Ē (Ā 0) (mC (.int 2)))))) ė)))))
noncomputable def iU:MF:=Ň 2 2 Ac
noncomputable def Jh:M Fl:=(ĭ (ak (Ą (ŉ (Ą (ę 0) (Ą (ę 1) (Ą (ę 4) ė)))) (Ą (ŉ (Ą (ę 2) (Ą (ę 1) (Ą (ę 4) ė)))) (Ą (ŉ (Ą (ę 2) (Ą (ę 3) (Ą (ę 4) ė)))) (Ą (ŉ (Ą (ę 0) (Ą (ę 3) (Ą (ę 4) ė)))) ė))))))
noncomputable def qw:MF:=Ň 5 5 Jh
noncomputable def Ji:M Fl:=(ĭ (ŀ ĸ (Ę (Ė qw (Ĉ 0 (Ĉ 1 (Ĉ 2 (Ĉ 3 (Đ (mC (.int 0)) ē))))))) (Ę (Ė qw (Ĉ 0 (Ĉ 1 (Ĉ 2 (Ĉ 3 (Ĉ 4 ē)))))))))
noncomputable def yr:MF:=Ň 5 5 Ji
noncomputable def Ad:M Fl:=(ġ (ķ 1 (Ř (Ć Ĥ (mC (.int 2)) (Ć Ē (lA (bQ ["Thing","Post","Fence","Sail","Cloth","House"] "numbers") (Ā 0)) (mC (.int 0))))))
 (ġ (ķ 2 (Ř (Ć Ĥ (mC (.int 2)) (Ć Ē (lA (bQ ["Thing","Post","Fence","Sail","Cloth","House"] "numbers") (Ā 0)) (mC (.int 1))))))
 (ĭ (Ė yr (Đ (Ć ũ (Ā 1) (mC (.int 1))) (Đ (Ć ũ (Ā 2) (mC (.int 1))) (Đ (Ę (ŀ ĸ (Ā 1) (mC (.int 1)))) (Đ (Ę (ŀ ĸ (Ā 2) (mC (.int 1)))) (Đ (Ć Ē (lA (bQ ["Thing","Post","Fence","Sail","Cloth","House"] "numbers") (Ā 0)) (mC (.int 2))) ē)))))))))
noncomputable def lK:MF:=Ň 1 3 Ad
noncomputable def Jj:M Fl:=(ġ (ķ 1 (Ř (lA (bQ ["Thing","Post","Fence","Sail","Cloth","House"] "numbers") (Ā 0))))
 (ġ (ķ 2 (Ř (ŉ (Ą (Ć Ē (Ā 1) (mC (.int 0))) (Ą (Ć Ē (Ā 1) (mC (.int 1))) ė)))))
 (ġ (ķ 3 (Ř (ŉ (Ą (Ć Ē (Ā 1) (mC (.int 2))) (Ą (Ć Ē (Ā 1) (mC (.int 3))) ė)))))
 (ĭ (ak (Ą (Ę (ŀ ĸ (Ā 2) (ŉ (Ą (mC (.int 0)) ė)))) (Ą (Ę (ŀ ĸ (Ā 3) (ŉ (Ą (mC (.int 0)) ė)))) (Ą (Ę (ŀ ĸ (Ā 3) (ŉ (Ą (Ć Ē (Ā 1) (mC (.int 4))) ė)))) (Ą (Ę (ŀ ĸ (Ā 2) (ŉ (Ą (Ć Ē (Ā 1) (mC (.int 4))) ė)))) ė)))))))))
noncomputable def yu:MF:=Ň 1 4 Jj
noncomputable def Ae:M Fl:=(ġ (ķ 1 (Ř (lA (bQ ["Thing","Post","Fence","Sail","Cloth","House"] "numbers") (Ā 0))))
 (ĭ (Ė qw (Đ (Ć Ē (Ā 1) (mC (.int 0))) (Đ (Ć Ē (Ā 1) (mC (.int 1))) (Đ (Ć Ē (Ā 1) (mC (.int 2))) (Đ (Ć Ē (Ā 1) (mC (.int 3))) (Đ (Ć Ē (Ā 1) (mC (.int 4))) ē))))))))
noncomputable def lM:MF:=Ň 1 2 Ae
noncomputable def Af:M Fl:=(ĭ (Œ [0] 1 (Ū (ŉ (Ą (mC (.int 0)) (Ą (mC (.int 3)) (Ą (mC (.int 6)) ė))))) (gN 1) Ņ (bC fj (Ą (Ę (Fy (lA (bQ ["Thing","Post","Fence","Sail","Cloth","House"] "numbers") (Ā 0)) (mP (ę 1)) (mP (Ę (ŀ ĸ (Ā 1) (mC (.int 3))))))) ė))))
noncomputable def lN:MF:=Ň 1 1 Af
noncomputable def Ag:M Fl:=(ġ (ķ 1 (Ř (lA (bQ ["Thing","Post","Fence","Sail","Cloth","House"] "numbers") (Ā 0))))
 (ĭ (Ė yr (Đ (Ć Ē (Ā 1) (mC (.int 0))) (Đ (Ć Ē (Ā 1) (mC (.int 1))) (Đ (Ć Ē (Ā 1) (mC (.int 2))) (Đ (Ć Ē (Ā 1) (mC (.int 3))) (Đ (Ć Ē (Ā 1) (mC (.int 4))) ē))))))))
noncomputable def lO:MF:=Ň 1 2 Ag
noncomputable def Ah:M Fl:=(ĭ (Œ [1] 1 (Iw (Ū (Ę (nY "corners" [("Post",lK),("Fence",yu),("Sail",lM),("Cloth",lN),("House",lO)] (ę 0) ē)))) (gN 1) Ņ (Ę (Ė iU (Ĉ 1 (Ĉ 0 ē))))))
noncomputable def jF:MF:=Ň 2 2 Ah
noncomputable def uG:M Fl:=(ġ (bJ (aJ (Ć nJ (Ā 1) (Ā 0)))
 (ĭ (Ř (mC (.int 0))))
 bU)
 (ĭ (Ř (Ć ũ (Ć gA (mC (.int 1)) (Ę (ŀ ĸ (Ā 1) (mC (.int 1))))) (Ć gA (mC (.int 1)) (Ā 0))))))
noncomputable def jG:MF:=Ň 2 2 uG
noncomputable def dz:M Fl:=(ġ (ķ 9 (Ř (Ć Ĥ (Ā 6) (Ā 1))))
 (ġ (ķ 10 (Ř (Ć ũ (Ā 8) (Ć Ĥ (Ć Ĥ (Ā 7) (Ā 1)) (Ā 2)))))
 (bJ (aJ (Ć Ru (Ā 9) (mC (.int 0))))
 (ķ 5 (Ř (bC qU (Ą (Ā 5) (Ą (Ć ſ (Ā 10) (Ā 9)) ė)))))
 (bJ (aJ (Ć nJ (Ā 9) (mC (.int 0))))
 (ķ 4 (Ř (bC CK (Ą (Ā 4) (Ą (lA gB (Ć ſ (Ā 10) (lA gB (Ā 9)))) ė)))))
 (bJ (aJ (Ć nJ (Ā 10) (mC (.int 0))))
 (ĭ (Ř (mC (.int 0))))
 bU)))))
noncomputable def uH:M Fl:=(ġ (ķ 4 (Ř (mC (.int 0))))
 (ġ (ķ 5 (Ř (Ć ũ (Ā 3) (mC (.int 1)))))
 (ġ (cU (Ţ 0) (gT 3 (ě (gN 6) (ě (gN 7) (ě (gN 8) ŝ)))) dz)
 (ĭ (Ė jG (Ĉ 4 (Ĉ 5 ē)))))))
noncomputable def oN:MF:=Ň 4 11 uH
noncomputable def uI:M Fl:=(wD 4 (Ć gA (Ę (Ė oN (Ĉ 3 (Đ (Ć Ĥ (mC (.int 2)) (Ć Ē (Ā 2) (mC (.int 2)))) (Ĉ 5 (Đ (lA (bQ ["Yard"] "width") (Ā 0)) ē)))))) (Ć Ĥ (Ā 5) (lA (bQ ["Yard"] "width") (Ā 0)))))
noncomputable def Ai:M Fl:=(ġ (ķ 3 (Ė lJ (Đ (Ę (Ė jF (Ĉ 1 (Ĉ 2 ē)))) ē)))
 (ġ (ķ 4 (Ř (mC (.int 0))))
 (ġ (cU (Ű ů (Ą (lA (bQ ["Yard"] "height") (Ā 0)) ė)) (gN 5) uI)
 (ĭ (cJ 4)))))
noncomputable def gG:MF:=Ň 3 6 Ai
noncomputable def Jk:M Fl:=(ĭ (Œ [0,1] 1 (Ū (lA (bQ ["Yard"] "things") (Ā 0))) (gN 2) Ņ (Ę (Ė gG (Ĉ 0 (Ĉ 2 (Ĉ 1 ē)))))))
noncomputable def yx:MF:=Ň 2 2 Jk
noncomputable def Aj:M Fl:=(wD 2 (ę 3))
noncomputable def uJ:M Fl:=(ġ (bJ (aJ (Ć zK (Ā 1) (mC .non)))
 (ĭ (Ė jG (Đ (mC (.int 0)) (Đ (Ć ũ (Ć Ĥ (lA (bQ ["Yard"] "width") (Ā 0)) (lA (bQ ["Yard"] "height") (Ā 0))) (mC (.int 1))) ē))))
 bU)
 (ġ (ķ 2 (Ř (mC (.int 0))))
 (ġ (cU (Ū (Ę (Ė yx (Ĉ 0 (Ĉ 1 ē))))) (gN 3) Aj)
 (ĭ (cJ 2)))))
noncomputable def iV:MF:=Ň 2 4 uJ
noncomputable def uK:M Fl:=(bJ (dj (Ć zH (Ć Cz (Ā 3) (Ā 1)) (mC (.int 1))))
 (ĭ (cJ 2))
 bU)
noncomputable def uL:M Fl:=(ġ (cU (Io (Sh 0)) (gT 2 (ě (gN 2) (ě (gN 3) ŝ))) uK)
 (ĭ (Ř (mC .non))))
noncomputable def lQ:MF:=Ň 2 4 uL
noncomputable def Ak:M Fl:=(ġ (ķ 2 (Ė yx (Ĉ 0 (Ĉ 1 ē))))
 (ĭ (Œ [2] 1 (Ű ů (Ą (Ć Ĥ (lA (bQ ["Yard"] "width") (Ā 0)) (lA (bQ ["Yard"] "height") (Ā 0))) ė)) (gN 1) Ņ (Ę (Ė lQ (Ĉ 0 (Ĉ 1 ē)))))))
noncomputable def oO:MF:=Ň 2 3 Ak
noncomputable def uM:M Fl:=(ġ (bJ (aJ (Ć nJ (Ā 1) (bC bO (Ą (Ā 0) ė))))
 (ĭ (Ř (Ć Ē (Ā 0) (Ā 1))))
 bU)
 (ĭ (Ř (mC (.int 0)))))
noncomputable def dg:MF:=Ň 2 2 uM
noncomputable def uN:M Fl:=(ġ (bJ (aJ (Ć ŏ (Ć œ (Ć ſ (Ā 0) (mC (.int 512))) (mC (.int 12))) (mC (.int 7))))
 (ĭ (ŀ ĸ (mC (.int 1)) (Ć œ (Ć Ĥ (Ā 0) (mC (.int 1907))) (Ć qT (mC (.int 10)) (mC (.int 9))))))
 bU)
 (ĭ (ŀ ĸ (mC (.int 1)) (Ć œ (Ā 0) (mC (.int 9))))))
noncomputable def jH:MF:=Ň 1 1 uN
noncomputable def uO:M Fl:=(ġ (bJ (aJ (Ć ŏ (Ć œ (Ć ſ (Ā 0) (mC (.int 512))) (mC (.int 16))) (mC (.int 5))))
 (ĭ (ŀ ĸ (Ć ũ (Ć œ (Ć Ĥ (Ā 0) (mC (.int 3813))) (Ć ũ (Ć Ĥ (mC (.int 2)) (Ć qT (mC (.int 10)) (mC (.int 9)))) (mC (.int 99)))) (Ć qT (mC (.int 10)) (mC (.int 9)))) (mC (.int 50))))
 bU)
 (ĭ (Ř (Ć ũ (Ć œ (Ā 0) (Ę (ŀ ĸ (Ć Ĥ (mC (.int 2)) (Ā 1)) (mC (.int 9))))) (mC (.int 4))))))
noncomputable def bZ:MF:=Ň 2 2 uO
noncomputable def jh:M Fl:=(ġ (ķ 2 (Ė gF (Ĉ 0 (Đ (mC (.int 14)) ē))))
 (ġ (ql (gS 2 (ě (gN 5) (ě (gN 6) ŝ))) (Ę (Œ [1,2] 1 (Ű ů (Ą (mC (.int 2)) ė)) (gN 2) Ņ (Ę (Ė bZ (Đ (Ć Ē (Ā 1) (Ā 2)) (Ĉ 0 ē)))))))
 (ġ (ķ 3 (Ė jH (Đ (Ć Ē (Ā 2) (mC (.int 2))) ē)))
 (ġ (ķ 4 (Ř (Ć œ (Ć Ē (Ā 2) (mC (.int 3))) (mC (.int 5)))))
 (ġ (bJ (aJ (Ć ŏ (Ā 4) (mC (.int 0))))
 (ĭ (Ř (ŉ (Ą (mC (.str "post")) (Ą (Ę (ak (Ą (Ć ſ (Ā 5) (mC (.int 2))) (Ą (Ć ſ (Ā 6) (mC (.int 2))) (Ą (ę 3) ė))))) ė)))))
 bU)
 (ġ (bJ (aJ (Ć ŏ (Ā 4) (mC (.int 1))))
 (ġ (ql (gS 2 (ě (gN 7) (ě (gN 8) ŝ))) (Ę (ak (Ą (Ć ũ (Ę (ŀ ĸ (Ā 5) (Ć œ (Ć Ē (Ā 2) (mC (.int 4))) (mC (.int 9))))) (mC (.int 4))) (Ą (Ć ũ (Ę (ŀ ĸ (Ā 6) (Ć œ (Ć Ē (Ā 2) (mC (.int 5))) (mC (.int 9))))) (mC (.int 4))) ė)))))
 (ĭ (Ř (ŉ (Ą (mC (.str "fence")) (Ą (Ę (ak (Ą (ę 5) (Ą (ę 6) (Ą (Ę (ŀ ĸ (Ā 7) (bC Ew (Ą (Ć ŏ (ŉ (Ą (ę 5) (Ą (ę 6) ė))) (ŉ (Ą (ę 7) (Ą (ę 8) ė)))) ė)))) (Ą (ę 8) (Ą (ę 3) ė))))))) ė))))))
 bU)
 (ġ (bJ (aJ (Ć ŏ (Ā 4) (mC (.int 2))))
 (ĭ (Ř (ŉ (Ą (mC (.str "cloth")) (Ą (Ę (ŀ ĸ (Ę (ŀ ĸ (Ę (ak (Ą (ę 5) (Ą (ę 6) (Ą (Ć œ (Ć Ē (Ā 2) (mC (.int 6))) (mC (.int 10))) ė))))) (Ę (ak (Ą (Ę (Ė bZ (Đ (Ć Ē (Ā 2) (mC (.int 7))) (Ĉ 1 ē)))) (Ą (Ę (Ė bZ (Đ (Ć Ē (Ā 2) (mC (.int 8))) (Ĉ 1 ē)))) (Ą (ę 3) ė))))))) (Ę (ak (Ą (Ę (Ė bZ (Đ (Ć Ē (Ā 2) (mC (.int 9))) (Ĉ 1 ē)))) (Ą (Ę (Ė bZ (Đ (Ć Ē (Ā 2) (mC (.int 10))) (Ĉ 1 ē)))) (Ą (Ę (Ė jH (Đ (Ć Ē (Ā 2) (mC (.int 11))) ē))) ė))))))) ė)))))
 bU)
 (ĭ (Ř (ŉ (Ą (Ć Ē (Ę (ak (Ą (mC (.str "sail")) (Ą (mC (.str "house")) ė)))) (Ć ũ (Ā 4) (mC (.int 3)))) (Ą (Ę (ak (Ą (ę 5) (Ą (ę 6) (Ą (Ę (ŀ ĸ (Ę (ŀ ĸ (Ā 5) (mC (.int 1)))) (Ć œ (Ć Ē (Ā 2) (mC (.int 4))) (mC (.int 8))))) (Ą (Ę (ŀ ĸ (Ę (ŀ ĸ (Ā 6) (mC (.int 1)))) (Ć œ (Ć Ē (Ā 2) (mC (.int 5))) (mC (.int 8))))) (Ą (ę 3) ė))))))) ė))))))))))))
noncomputable def dW:MF:=Ň 2 9 jh
noncomputable def Al:M Fl:=(ĭ (Ř (El mz mz (lA gB (mC (.int (1000000000)))) (Ā 0) (mC (.int (1000000000))))))
noncomputable def dh:MF:=Ň 1 1 Al
noncomputable def Am:M Fl:=(ĭ (Ř (El mz mz (mC (.int 1)) (Ā 0) (mC (.int (1000000000))))))
noncomputable def lR:MF:=Ň 1 1 Am
noncomputable def uP:M Fl:=(ĭ (Ř (iz (Ć ŏ (bC bO (Ą (Ā 0) ė)) (mC (.int 3))) (iz (Ę (Ė dh (Đ (Ć Ē (Ā 0) (mC (.int 0))) ē))) (iz (Ę (Ė dh (Đ (Ć Ē (Ā 0) (mC (.int 1))) ē))) (Ę (Ė lR (Đ (Ć Ē (Ā 0) (mC (.int 2))) ē))))))))
noncomputable def oR:MF:=Ň 1 1 uP
noncomputable def fO:M Fl:=(ġ (iK 0 ["Thing","Post","Fence","Sail","Cloth","House"] "word" (ę 1))
 (iK 0 ["Thing","Post","Fence","Sail","Cloth","House"] "numbers" (Ę (nA dO (Ą (Ā 2) ė)))))
noncomputable def uQ:MI:=cY 3 3 "Post" fO
noncomputable def oU:MI:=cY 3 3 "Fence" fO
noncomputable def uR:MI:=cY 3 3 "Sail" fO
noncomputable def oW:MI:=cY 3 3 "Cloth" fO
noncomputable def oX:MI:=cY 3 3 "House" fO
noncomputable def uT:M Fl:=(ĭ (Ř (iz (Ć ŏ (bC bO (Ą (Ā 0) ė)) (mC (.int 5))) (iz (bC jX (Ą (Ę (Œ [] 1 (Ū (Ę (Fy (Ā 0) Rv (mP (mC (.int 4)))))) (gN 0) Ņ (Ę (Ė dh (Ĉ 0 ē))))) ė)) (Ę (Ė lR (Đ (Ć Ē (Ā 0) (mC (.int 4))) ē)))))))
noncomputable def jJ:MF:=Ň 1 1 uT
noncomputable def uU:M Fl:=(ĭ (Ř (iz (Ę (Ė jJ (Ĉ 0 ē))) (Ć aN (Ę (Fy (Ā 0) Rv (mP (mC (.int 2))))) (Ę (Fy (Ā 0) (mP (mC (.int 2))) (mP (mC (.int 4)))))))))
noncomputable def oY:MF:=Ň 1 1 uU
noncomputable def Dj:M Fl:=(ĭ (Ř (iz (Ę (Ė jJ (Ĉ 0 ē))) (iz (Ć nJ (Ć Ē (Ā 0) (mC (.int 0))) (Ć Ē (Ā 0) (mC (.int 2)))) (Ć nJ (Ć Ē (Ā 0) (mC (.int 1))) (Ć Ē (Ā 0) (mC (.int 3))))))))
noncomputable def uV:MF:=Ň 1 1 Dj
noncomputable def Jl:M Fl:=(ĭ (Ř (iz (Ę (Ė dh (Đ (Ć Ē (Ā 0) (mC (.int 0))) ē))) (iz (Ę (Ė dh (Đ (Ć Ē (Ā 0) (mC (.int 1))) ē))) (El mz mz (mC (.int 0)) (Ć Ē (Ā 0) (mC (.int 2))) (mC (.int (1000000000))))))))
noncomputable def Fg:MF:=Ň 1 1 Jl
noncomputable def uW:M Fl:=(ĭ (Ř (iz (Ć ŏ (bC bO (Ą (Ā 0) ė)) (mC (.int 9))) (bC jX (Ą (Ę (Œ [0] 1 (Ū (ŉ (Ą (mC (.int 0)) (Ą (mC (.int 3)) (Ą (mC (.int 6)) ė))))) (gN 1) Ņ (Ę (Ė Fg (Đ (Ę (Fy (Ā 0) (mP (ę 1)) (mP (Ę (ŀ ĸ (Ā 1) (mC (.int 3))))))) ē))))) ė)))))
noncomputable def oZ:MF:=Ň 1 1 uW
noncomputable def gH:M Fl:=(ġ (bJ (jx (aJ (Ć ŏ (Ā 0) (mC (.str "post")))) (dj (Ę (Ė oR (Ĉ 1 ē)))))
 (ĭ (Ř (bY "Post" uQ (Ĉ 0 (Ĉ 1 ē)))))
 bU)
 (ġ (bJ (jx (aJ (Ć ŏ (Ā 0) (mC (.str "fence")))) (dj (Ę (Ė oY (Ĉ 1 ē)))))
 (ĭ (Ř (bY "Fence" oU (Ĉ 0 (Ĉ 1 ē)))))
 bU)
 (ġ (bJ (jx (aJ (Ć ŏ (Ā 0) (mC (.str "sail")))) (dj (Ę (Ė uV (Ĉ 1 ē)))))
 (ĭ (Ř (bY "Sail" uR (Ĉ 0 (Ĉ 1 ē)))))
 bU)
 (ġ (bJ (jx (aJ (Ć ŏ (Ā 0) (mC (.str "cloth")))) (dj (Ę (Ė oZ (Ĉ 1 ē)))))
 (ĭ (Ř (bY "Cloth" oW (Ĉ 0 (Ĉ 1 ē)))))
 bU)
 (ġ (bJ (jx (aJ (Ć ŏ (Ā 0) (mC (.str "house")))) (dj (Ę (Ė uV (Ĉ 1 ē)))))
 (ĭ (Ř (bY "House" oX (Ĉ 0 (Ĉ 1 ē)))))
 bU)
 (ug "BadThing"))))))
noncomputable def cQ:MF:=Ň 2 2 gH
noncomputable def uX:M Fl:=(bJ (fJ (dj (Ę (Ė iR (Ĉ 2 (Ĉ 1 ē))))))
 (ĭ (cJ 2))
 bU)
noncomputable def uY:M Fl:=(ġ (cU (Ū (Ę (Ė lJ (Ĉ 0 ē)))) (gN 2) uX)
 (ĭ (Ř (mC .non))))
noncomputable def o_:MF:=Ň 2 3 uY
noncomputable def pq:M Fl:=(zT 1 (Œ [2] 1 (Ű ů (Ą (ę 2) ė)) (gN 1) Ņ (ŉ (Ą (ę 1) (Ą (ę 0) ė)))))
noncomputable def Ao:M Fl:=(ġ (ķ 1 (ak ė))
 (ġ (cU (Ű ů (Ą (ę 0) ė)) (gN 2) pq)
 (ĭ (cJ 1))))
noncomputable def lU:MF:=Ň 1 3 Ao
noncomputable def pA:M Fl:=(zT 1 (Œ [2] 1 (Iw (Ū (Ę (Ė lU (Ĉ 2 ē))))) (gN 1) Ņ (ŉ (Ą (Ć Ē (Ā 1) (mC (.int 0))) (Ą (Ć Ē (Ā 1) (mC (.int 1))) (Ą (ę 0) ė))))))
noncomputable def Aq:M Fl:=(ġ (ķ 1 (ak ė))
 (ġ (cU (Ű ů (Ą (ę 0) ė)) (gN 2) pA)
 (ĭ (cJ 1))))
noncomputable def sG:MF:=Ň 1 3 Aq
noncomputable def Ul:M Fl:=(Ŷ (aJ (Ć aN (Ā 1) (mC (.int 0))))
 (ġ (ķ 2 (Ř (Ć œ (Ā 0) (Ā 1))))
 (ġ (ķ 0 (Ř (ę 1)))
 (ķ 1 (Ř (ę 2))))))
noncomputable def Jm:M Fl:=(ġ Ul
 (ĭ (Ř (bC Hx (Ą (Ā 0) ė)))))
noncomputable def Fi:MF:=Ň 2 3 Jm
noncomputable def uZ:M Fl:=(ġ (bJ (aJ (Ć ŏ (Ā 1) (mC (.int 0))))
 (ug "NoNumber")
 bU)
 (ġ (ķ 2 (Ė Fi (Ĉ 0 (Ĉ 1 ē))))
 (ġ (bJ (aJ (Ć nJ (Ā 1) (mC (.int 0))))
 (ķ 2 (Ř (lA gB (Ā 2))))
 bU)
 (ĭ (Ř (ŉ (Ą (Ć ſ (Ā 0) (Ā 2)) (Ą (Ć ſ (Ā 1) (Ā 2)) ė))))))))
noncomputable def gJ:MF:=Ň 2 3 uZ
noncomputable def u_:M Fl:=(zB 4 (ę 6) (Ę (Ė gJ (Ĉ 5 (Ĉ 3 ē)))))
noncomputable def kO:M Fl:=(ġ (ķ 3 (Ř (bC qt (Ą (Ā 0) ė))))
 (ġ (ķ 4 (Œ [3] 1 (Ű ů (Ą (ę 2) ė)) (gN 1) Ņ (Ę (Ė gJ (Đ (mC (.int 0)) (Ĉ 0 ē))))))
 (ġ (cU (wK (wC 0) (wC 1)) (gT 2 (ě (gN 5) (ě (gN 6) ŝ))) u_)
 (ĭ (cJ 4)))))
noncomputable def dX:MF:=Ň 3 7 kO
noncomputable def Ar:M Fl:=(ġ (ķ 3 (Ř (Ć Ĥ (Ć ũ (Ć Ē (Ā 1) (mC (.int 0))) (Ć Ē (Ā 0) (mC (.int 0)))) (Ć ũ (Ć Ē (Ā 2) (mC (.int 1))) (Ć Ē (Ā 0) (mC (.int 1)))))))
 (ĭ (Ř (Ć ũ (Ā 3) (Ć Ĥ (Ć ũ (Ć Ē (Ā 1) (mC (.int 1))) (Ć Ē (Ā 0) (mC (.int 1)))) (Ć ũ (Ć Ē (Ā 2) (mC (.int 0))) (Ć Ē (Ā 0) (mC (.int 0)))))))))
noncomputable def iW:MF:=Ň 3 4 Ar
noncomputable def Jo:M Fl:=(ġ (ķ 2 (Ř (Ć Ē (Ā 0) (mC (.int 0)))))
 (ġ (ķ 3 (Ř (Ć Ē (Ā 0) (mC (.int 1)))))
 (ġ (ķ 4 (Ř (Ć Ē (Ā 0) (mC (.int 2)))))
 (ĭ (ak (Ą (Ę (Ė iW (Ĉ 1 (Ĉ 3 (Ĉ 4 ē))))) (Ą (Ę (Ė iW (Ĉ 2 (Ĉ 1 (Ĉ 4 ē))))) (Ą (Ę (Ė iW (Ĉ 2 (Ĉ 3 (Ĉ 1 ē))))) ė))))))))
noncomputable def Fj:MF:=Ň 2 5 Jo
noncomputable def vd:M Fl:=(ġ (ķ 1 (Ř (bC qt (Ą (Ā 0) ė))))
 (ĭ (Ř (iz (Ć aN (Ā 1) (mC (.int 0))) (bC jX (Ą (Ę (Œ [1] 1 (Ţ 0) (gN 1) Ņ (Ć zJ (Ć Ĥ (Ā 1) (Ā 0)) (mC (.int 0))))) ė))))))
noncomputable def jK:MF:=Ň 1 2 vd
noncomputable def Av:M Fl:=(ġ (ķ 2 (Ř (Ć ũ (Ć Ē (Ć Ē (Ā 0) (mC (.int 1))) (mC (.int 0))) (Ć Ē (Ć Ē (Ā 0) (mC (.int 0))) (mC (.int 0))))))
 (ġ (ķ 3 (Ř (Ć ũ (Ć Ē (Ć Ē (Ā 0) (mC (.int 1))) (mC (.int 1))) (Ć Ē (Ć Ē (Ā 0) (mC (.int 0))) (mC (.int 1))))))
 (ġ (ķ 4 (ŀ ĸ (Ć Ĥ (Ā 2) (Ć ũ (Ć Ē (Ā 1) (mC (.int 0))) (Ć Ē (Ć Ē (Ā 0) (mC (.int 0))) (mC (.int 0))))) (Ć Ĥ (Ā 3) (Ć ũ (Ć Ē (Ā 1) (mC (.int 1))) (Ć Ē (Ć Ē (Ā 0) (mC (.int 0))) (mC (.int 1)))))))
 (ĭ (ak (Ą (Ć ũ (Ę (ŀ ĸ (Ć Ĥ (Ā 2) (Ā 2)) (Ć Ĥ (Ā 3) (Ā 3)))) (Ā 4)) (Ą (ę 4) ė)))))))
noncomputable def sI:MF:=Ň 2 5 Av
noncomputable def vf:M Fl:=(ġ (ķ 4 (Ė sI (Đ (Ę (Œ [0] 1 (Ţ 3) (gN 1) Ņ (Ć Ē (Ā 0) (Ā 1)))) (Ĉ 1 ē))))
 (bJ (dj (Ę (Ė jK (Ĉ 4 ē))))
 (ĭ (Ė dX (Ĉ 4 (Ĉ 3 (Ĉ 2 ē)))))
 bU))
noncomputable def vg:M Fl:=(ġ (ķ 4 (Ė Fj (Đ (Ę (Œ [0] 1 (Ţ 3) (gN 1) Ņ (Ć Ē (Ā 0) (Ā 1)))) (Ĉ 1 ē))))
 (bJ (dj (Ę (Ė jK (Ĉ 4 ē))))
 (ĭ (Ė dX (Ĉ 4 (Ĉ 3 (Ĉ 2 ē)))))
 bU))
noncomputable def pB:M Fl:=(ġ (ķ 2 (Ř (bC bO (Ą (Ā 0) ė))))
 (ġ (cU (Ū (Ę (Ė sG (Ĉ 2 ē)))) (gN 3) vg)
 (ġ (cU (Ū (Ę (Ė lU (Ĉ 2 ē)))) (gN 3) vf)
 (ĭ (Ė dX (Đ (Ę (ak (Ą (mC (.int 1)) ė))) (Đ (Ę (ak (Ą (mC (.int 0)) ė))) (Ĉ 2 ē))))))))
noncomputable def lV:MF:=Ň 2 5 pB
noncomputable def vh:M Fl:=(ġ (ķ 2 (Ė o_ (Ĉ 0 (Ĉ 1 ē))))
 (ġ (bJ (aJ (Ć zK (Ā 2) (mC .non)))
 (ĭ (Ř (ŉ (Ą (mC (.str "in")) (Ą (Ę (Ė lV (Ĉ 0 (Ĉ 1 ē)))) ė)))))
 bU)
 (ĭ (Ř (ŉ (Ą (mC (.str "out")) (Ą (ę 2) ė)))))))
noncomputable def pC:MF:=Ň 2 3 vh
noncomputable def Aw:M Fl:=(ĭ (Ė iU (Đ (ŉ (Ą (Ć Ĥ (mC (.int 2)) (Ć Ē (Ā 0) (mC (.int 0)))) (Ą (Ć Ĥ (mC (.int 2)) (Ć Ē (Ā 0) (mC (.int 1)))) (Ą (mC (.int 0)) ė)))) (Ĉ 1 ē))))
noncomputable def sJ:MF:=Ň 2 2 Aw
noncomputable def Ax:M Fl:=(ĭ (Ė pC (Đ (Ę (Ė jF (Ĉ 0 (Ĉ 2 ē)))) (Đ (Ę (Ė sJ (Ĉ 1 (Ĉ 2 ē)))) ē))))
noncomputable def dY:MF:=Ň 3 3 Ax
noncomputable def Ay:M Fl:=(ĭ (ak (Ą (ŉ (Ą (ę 0) (Ą (ę 1) (Ą (ę 4) ė)))) (Ą (ŉ (Ą (ę 2) (Ą (ę 1) (Ą (ę 4) ė)))) (Ą (ŉ (Ą (ę 2) (Ą (ę 3) (Ą (ę 4) ė)))) (Ą (ŉ (Ą (ę 0) (Ą (ę 3) (Ą (ę 4) ė)))) ė))))))
noncomputable def b_:MF:=Ň 5 5 Ay
noncomputable def pD:M Fl:=(ġ (bJ (aJ (Ć ŏ (Ā 0) (mC (.str "cloth"))))
 (ĭ (Œ [1] 1 (Ű ů (Ą (mC (.int 3)) ė)) (gN 1) Ņ (bC fj (Ą (Ę (Fy (Ā 0) (mP (Ć Ĥ (mC (.int 3)) (Ā 1))) (mP (Ę (ŀ ĸ (Ć Ĥ (mC (.int 3)) (Ā 1)) (mC (.int 3))))))) ė))))
 bU)
 (ġ (bJ (aJ (Ć ŏ (Ā 0) (mC (.str "post"))))
 (ġ (ql (gS 3 (ě (gN 7) (ě (gN 8) (ě (gN 6) ŝ)))) (ę 1))
 XJ)
 bU)
 (ġ (ql (gS 5 (ě (gN 2) (ě (gN 3) (ě (gN 4) (ě (gN 5) (ě (gN 6) ŝ)))))) (ę 1))
 (ġ (bJ (aJ (Ć ŏ (Ā 0) (mC (.str "fence"))))
 (ĭ (ak (Ą (ŉ (Ą (ę 2) (Ą (ę 3) (Ą (mC (.int 0)) ė)))) (Ą (ŉ (Ą (ę 4) (Ą (ę 5) (Ą (mC (.int 0)) ė)))) (Ą (ŉ (Ą (ę 4) (Ą (ę 5) (Ą (ę 6) ė)))) (Ą (ŉ (Ą (ę 2) (Ą (ę 3) (Ą (ę 6) ė)))) ė))))))
 bU)
 (ġ (bJ (aJ (Ć ŏ (Ā 0) (mC (.str "house"))))
 (ĭ (ŀ ĸ (Ę (Ė b_ (Ĉ 2 (Ĉ 3 (Ĉ 4 (Ĉ 5 (Đ (mC (.int 0)) ē))))))) (Ę (Ė b_ (Ĉ 2 (Ĉ 3 (Ĉ 4 (Ĉ 5 (Ĉ 6 ē)))))))))
 bU)
 (ĭ (Ė b_ (Ĉ 2 (Ĉ 3 (Ĉ 4 (Ĉ 5 (Ĉ 6 ē))))))))))))
noncomputable def mY:MF:=Ň 2 9 pD
noncomputable def ji:M Fl:=(ġ (bJ (aJ (Ć ŏ (Ā 0) (mC (.str "cloth"))))
 (ĭ (Œ [1] 1 (Ű ů (Ą (mC (.int 3)) ė)) (gN 1) Ņ (bC fj (Ą (Ę (Fy (Ā 0) (mP (Ć Ĥ (mC (.int 3)) (Ā 1))) (mP (Ę (ŀ ĸ (Ć Ĥ (mC (.int 3)) (Ā 1)) (mC (.int 3))))))) ė))))
 bU)
 (ġ (bJ (aJ (Ć ŏ (Ā 0) (mC (.str "post"))))
 (ġ (ql (gS 3 (ě (gN 7) (ě (gN 8) (ě (gN 6) ŝ)))) (ę 1))
 (ĭ (Ė mY (Đ (mC (.str "house")) (Đ (Ę (ak (Ą (Ć ũ (Ć Ĥ (mC (.int 2)) (Ā 7)) (mC (.int 1))) (Ą (Ć ũ (Ć Ĥ (mC (.int 2)) (Ā 8)) (mC (.int 1))) (Ą (Ę (ŀ ĸ (Ć Ĥ (mC (.int 2)) (Ā 7)) (mC (.int 1)))) (Ą (Ę (ŀ ĸ (Ć Ĥ (mC (.int 2)) (Ā 8)) (mC (.int 1)))) (Ą (ę 6) ė))))))) ē)))))
 bU)
 (ġ (ql (gS 5 (ě (gN 2) (ě (gN 3) (ě (gN 4) (ě (gN 5) (ě (gN 6) ŝ)))))) (ę 1))
 (ġ (bJ (aJ (Ć ŏ (Ā 0) (mC (.str "fence"))))
 (ĭ (ak (Ą (ŉ (Ą (ę 2) (Ą (ę 3) (Ą (mC (.int 0)) ė)))) (Ą (ŉ (Ą (ę 4) (Ą (ę 5) (Ą (mC (.int 0)) ė)))) (Ą (ŉ (Ą (ę 4) (Ą (ę 5) (Ą (ę 6) ė)))) (Ą (ŉ (Ą (ę 2) (Ą (ę 3) (Ą (ę 6) ė)))) ė))))))
 bU)
 (ġ (bJ (aJ (Ć ŏ (Ā 0) (mC (.str "house"))))
 (ĭ (ŀ ĸ (Ę (Ė b_ (Ĉ 2 (Ĉ 3 (Ĉ 4 (Ĉ 5 (Đ (mC (.int 0)) ē))))))) (Ę (Ė b_ (Ĉ 2 (Ĉ 3 (Ĉ 4 (Ĉ 5 (Ĉ 6 ē)))))))))
 bU)
 (ĭ (Ė b_ (Ĉ 2 (Ĉ 3 (Ĉ 4 (Ĉ 5 (Ĉ 6 ē))))))))))))
noncomputable def cg:MF:=Ň 2 9 ji
noncomputable def vm:M Fl:=(vQ 2 (ŉ (Ą (Ę (ŀ ĸ (Ć Ĥ (Ć Ē (Ā 1) (mC (.int 2))) (Ā 3)) (Ć Ĥ (Ć Ē (Ā 1) (mC (.int 0))) (Ā 5)))) (Ą (Ę (ŀ ĸ (Ć Ĥ (Ć Ē (Ā 1) (mC (.int 2))) (Ā 4)) (Ć Ĥ (Ć Ē (Ā 1) (mC (.int 1))) (Ā 5)))) ė))))
noncomputable def Az:M Fl:=(ġ (ķ 2 (ak ė))
 (ġ (cU (Ū (Ę (Ė cg (Đ (Ć Ē (Ā 0) (mC (.int 0))) (Đ (Ć Ē (Ā 0) (mC (.int 1))) ē))))) (gT 3 (ě (gN 3) (ě (gN 4) (ě (gN 5) ŝ)))) vm)
 (ĭ (cJ 2))))
noncomputable def pF:MF:=Ň 2 6 Az
noncomputable def Jp:M Fl:=(Ŷ (aJ (Ć aN (Ā 1) (mC (.int 0))))
 (Em 0 1 (Ą (ę 1) (Ą (Ć œ (Ā 0) (Ā 1)) ė))))
noncomputable def A_:M Fl:=(ġ Jp
 (ĭ (cJ 0)))
noncomputable def lW:MF:=Ň 2 2 A_
noncomputable def vo:M Fl:=(ġ (Em 2 3 (Ą (Ę (ŀ ĸ (Ć Ĥ (Ā 2) (Ć Ē (Ā 5) (mC (.int 1)))) (Ć Ĥ (Ć Ĥ (Ā 4) (Ć Ē (Ā 5) (mC (.int 0)))) (Ā 3)))) (Ą (Ć Ĥ (Ā 3) (Ć Ē (Ā 5) (mC (.int 1)))) ė)))
 (ġ (ķ 6 (Ė lW (Đ (bC Hx (Ą (Ā 2) ė)) (Ĉ 3 ē))))
 (Em 2 3 (Ą (Ć ſ (Ā 2) (Ā 6)) (Ą (Ć ſ (Ā 3) (Ā 6)) ė)))))
noncomputable def Ba:M Fl:=(ġ (ql (gS 2 (ě (gN 2) (ě (gN 3) ŝ))) (ŉ (Ą (mC (.int 0)) (Ą (mC (.int 1)) ė))))
 (ġ (cU (wK (wC 0) (wC 1)) (gT 2 (ě (gN 4) (ě (gN 5) ŝ))) vo)
 (ĭ (Ř (ŉ (Ą (ę 2) (Ą (ę 3) ė)))))))
noncomputable def fP:MF:=Ň 2 7 Ba
noncomputable def Bb:M Fl:=(ĭ (Ř (iz (bC (fK Zz ZA ZB ZC) (Ą (Ā 0) (Ą (mC (.ty "int")) ė))) (XH (bC (fK Zz ZA ZB ZC) (Ą (Ā 0) (Ą (mC (.ty "bool")) ė)))))))
noncomputable def gK:MF:=Ň 1 1 Bb
noncomputable def vp:M Fl:=(ġ (bJ (jy (fJ (dj (bC (fK Zz ZA ZB ZC) (Ą (Ā 3) (Ą (mC (.ty "tuple")) ė))))) (jy (aJ (Ć aN (bC bO (Ą (Ā 3) ė)) (mC (.int 2)))) (jy (fJ (dj (Ę (Ė gK (Đ (Ć Ē (Ā 3) (mC (.int 0))) ē))))) (fJ (dj (Ę (Ė gK (Đ (Ć Ē (Ā 3) (mC (.int 1))) ē))))))))
 (ĭ (Ř (mC (.bl false))))
 bU)
 (bJ (jy (aJ (Ć nJ (Ć Ē (Ā 3) (mC (.int 0))) (mC (.int 0)))) (jy (aJ (Ć nJ (Ć Ē (Ā 3) (mC (.int 1))) (mC (.int 1)))) (aJ (Ć aN (Ę (Ė lW (Đ (Ć Ē (Ā 3) (mC (.int 0))) (Đ (Ć Ē (Ā 3) (mC (.int 1))) ē)))) (mC (.int 1))))))
 (ĭ (Ř (mC (.bl false))))
 bU))
noncomputable def Bc:M Fl:=(ġ (bJ (jy (aJ (Ć aN (Ć Ē (Ā 0) (mC (.int 0))) (mC (.str "in")))) (jy (fJ (dj (bC (fK Zz ZA ZB ZC) (Ą (Ć Ē (Ā 0) (mC (.int 1))) (Ą (mC (.ty "list")) ė))))) (aJ (Ć aN (bC bO (Ą (Ć Ē (Ā 0) (mC (.int 1))) ė)) (bC bO (Ą (Ā 1) ė))))))
 (ĭ (Ř (mC (.bl false))))
 bU)
 (ġ (cU (Ū (Ć Ē (Ā 0) (mC (.int 1)))) (gN 3) vp)
 (ġ (bJ (aJ (Ć aN (Ę (Ė fP (Đ (Ę (Œ [] 1 (Ţ 1) (gN 0) Ņ (mC (.int 1)))) (Đ (Ć Ē (Ā 0) (mC (.int 1))) ē)))) (ŉ (Ą (mC (.int 1)) (Ą (mC (.int 1)) ė)))))
 (ĭ (Ř (mC (.bl false))))
 bU)
 (ĭ (Ř (Ć ŏ (Ę (Œ [0,1] 1 (Ű ů (Ą (mC (.int 2)) ė)) (gN 2) Ņ (Ę (Ė fP (Đ (Ę (Œ [2] 1 (Ţ 1) (gN 1) Ņ (Ć Ē (Ā 1) (Ā 0)))) (Đ (Ć Ē (Ā 0) (mC (.int 1))) ē)))))) (Ę (ak (Ą (ŉ (Ą (Ć Ē (Ā 2) (mC (.int 0))) (Ą (mC (.int 1)) ė))) (Ą (ŉ (Ą (Ć Ē (Ā 2) (mC (.int 1))) (Ą (mC (.int 1)) ė))) ė))))))))))
noncomputable def pG:MF:=Ň 3 4 Bc
noncomputable def Bd:M Fl:=(ġ (bJ (jy (aJ (Ć aN (Ć Ē (Ā 0) (mC (.int 0))) (mC (.str "out")))) (jy (fJ (dj (bC (fK Zz ZA ZB ZC) (Ą (Ć Ē (Ā 0) (mC (.int 1))) (Ą (mC (.ty "tuple")) ė))))) (aJ (Ć aN (bC bO (Ą (Ć Ē (Ā 0) (mC (.int 1))) ė)) (mC (.int 3))))))
 (ĭ (Ř (mC (.bl false))))
 bU)
 (ġ (bJ (fJ (dj (bC jX (Ą (Ę (Œ [] 1 (Ū (Ć Ē (Ā 0) (mC (.int 1)))) (gN 0) Ņ (Ę (Ė gK (Ĉ 0 ē))))) ė))))
 (ĭ (Ř (mC (.bl false))))
 bU)
 (ġ (ql (gS 3 (ě (gN 3) (ě (gN 4) (ě (gN 5) ŝ)))) (Ć Ē (Ā 0) (mC (.int 1))))
 (ġ (bJ (aJ (Ć mz (Ę (ŀ ĸ (Ć Ĥ (Ā 3) (Ć Ē (Ā 2) (mC (.int 0)))) (Ć Ĥ (Ā 4) (Ć Ē (Ā 2) (mC (.int 1)))))) (Ā 5)))
 (ĭ (Ř (mC (.bl false))))
 bU)
 (ĭ (Ř (bC jX (Ą (Ę (Œ [5,3,4] 1 (Ţ 1) (gN 3) Ņ (Ć mz (Ę (ŀ ĸ (Ć Ĥ (Ā 1) (Ć Ē (Ā 3) (mC (.int 0)))) (Ć Ĥ (Ā 2) (Ć Ē (Ā 3) (mC (.int 1)))))) (Ā 0)))) ė))))))))
noncomputable def pH:MF:=Ň 3 6 Bd
noncomputable def jj:M Fl:=(ġ (ķ 7 (Ė dY (Đ (Ć Ē (Ā 3) (Ā 6)) (Ĉ 0 (Ĉ 1 ē)))))
 (ġ (bJ (jy (fJ (dj (bC (fK Zz ZA ZB ZC) (Ą (Ā 7) (Ą (mC (.ty "tuple")) ė))))) (aJ (Ć aN (bC bO (Ą (Ā 7) ė)) (mC (.int 2)))))
 (ĭ (Ř (mC (.bl false))))
 bU)
 (ġ (ķ 8 (Ė pF (Đ (Ć Ē (Ā 2) (Ā 6)) (Ĉ 1 ē))))
 (ġ (bJ (aJ (Ć ŏ (Ā 6) (Ā 4)))
 (ĭ (Ė pG (Ĉ 7 (Ĉ 8 (Ĉ 5 ē)))))
 bU)
 (bJ (fJ (dj (Ę (Ė pH (Ĉ 7 (Ĉ 8 (Ĉ 5 ē)))))))
 (ĭ (Ř (mC (.bl false))))
 bU)))))
noncomputable def vq:M Fl:=(ġ (ķ 5 (Ř (ŉ (Ą (Ć Ĥ (Ć Ĥ (mC (.int 2)) (Ć Ē (Ā 1) (mC (.int 2)))) (Ć Ē (Ā 0) (mC (.int 0)))) (Ą (Ć Ĥ (Ć Ĥ (mC (.int 2)) (Ć Ē (Ā 1) (mC (.int 2)))) (Ć Ē (Ā 0) (mC (.int 1)))) ė)))))
 (ġ (cU (Ű ů (Ą (bC bO (Ą (Ā 2) ė)) ė)) (gN 6) jj)
 (ĭ (Ř (Ć zK (Ā 4) (mC .non))))))
noncomputable def pI:MF:=Ň 5 9 vq
noncomputable def kW:M Fl:=(ġ (bJ (aJ (Ć aN (Ć œ (Ć Cz (Ā 6) (Ā 8)) (mC (.int 2))) (bC Ew (Ą (Ć mW (Ć Ē (Ā 7) (Ā 8)) (mC .non)) ė))))
 (ĭ (Ř (mC (.bl false))))
 bU)
 (bJ (fJ (dj (Ę (Ė pI (Đ (ŉ (Ą (Ć œ (Ā 8) (Ć Ē (Ā 1) (mC (.int 0)))) (Ą (Ć ſ (Ā 8) (Ć Ē (Ā 1) (mC (.int 0)))) ė))) (Ĉ 2 (Ĉ 3 (Ĉ 4 (Đ (Ć Ē (Ā 7) (Ā 8)) ē)))))))))
 (ĭ (Ř (mC (.bl false))))
 bU))
noncomputable def Bf:M Fl:=(ġ (ķ 1 (Ė dU (Đ (Ę (Ė dg (Ĉ 0 (Đ (mC (.int 0)) ē)))) (Đ (mC (.int 9)) ē))))
 (ġ (ķ 2 (Ė lH (Đ (Ę (Ė dg (Ĉ 0 (Đ (mC (.int 1)) ē)))) ē)))
 (ġ (ķ 3 (Œ [1] 1 (Ū (Ę (Fy (Ā 0) (mP (mC (.int 2))) (mP (mC (.int 7)))))) (gN 1) Ņ (Ę (Ė dW (Ĉ 1 (Đ (bC iM (Ą (Ā 0) ė)) ē))))))
 (ġ (ķ 4 (Œ [] 2 (Ţ 3) (gT 2 (ě (gN 0) (ě (gN 1) ŝ))) Ņ (Ę (Ė cQ (Ĉ 0 (Đ (Ę (nA dO (Ą (Ā 1) ė))) ē))))))
 (ġ (ķ 5 (Ř (bY "Yard" iu (Đ (Ć Ē (Ā 1) (mC (.int 0))) (Đ (Ć Ē (Ā 1) (mC (.int 1))) (Ĉ 4 (Đ (Ę (ak ė)) ē)))))))
 (ġ (ķ 6 (Ė iV (Ĉ 5 (Ĉ 2 ē))))
 (ġ (ķ 7 (Ė oO (Ĉ 5 (Ĉ 2 ē))))
 (ġ (bJ (jy (aJ (Ć aN (bC bO (Ą (Ā 7) ė)) (Ć Ĥ (Ć Ē (Ā 1) (mC (.int 0))) (Ć Ē (Ā 1) (mC (.int 1)))))) (aJ (Ć zJ (Ā 6) (Ć gA (mC (.int 1)) (bC bO (Ą (Ā 7) ė))))))
 (ĭ (Ř (mC (.bl false))))
 bU)
 (ġ (cU (Ű ů (Ą (bC bO (Ą (Ā 7) ė)) ė)) (gN 8) kW)
 (ġ (bJ (aJ (Ć ŏ (Ā 3) (Ę (ak ė))))
 (ĭ (Ř (Ć ŏ (Ā 6) (mC (.int 0)))))
 bU)
 (ġ (ķ 9 (Œ [2,4,1] 1 (Ű ů (Ą (bC bO (Ą (Ā 7) ė)) ė)) (gN 3) Ņ (Ć Ē (Ę (Ė dY (Đ (Ć Ē (Ā 1) (mC (.int 0))) (Đ (ŉ (Ą (Ć œ (Ā 3) (Ć Ē (Ā 2) (mC (.int 0)))) (Ą (Ć ſ (Ā 3) (Ć Ē (Ā 2) (mC (.int 0)))) ė))) (Ĉ 0 ē))))) (mC (.int 0)))))
 (ġ (ķ 10 (Ř (bC qt (Ą (Ę (Œ [9] 1 (Ű ů (Ą (bC bO (Ą (Ā 7) ė)) ė)) (gN 1) (aJ (Ć ŏ (Ć Ē (Ā 0) (Ā 1)) (mC (.str "in")))) (Ć gA (mC (.int 1)) (Ā 1)))) ė))))
 (ĭ (Ř (Ć ŏ (Ę (Ė gG (Ĉ 5 (Đ (Ć Ē (Ā 4) (mC (.int 0))) (Ĉ 2 ē))))) (Ā 10))))))))))))))))
noncomputable def pJ:MF:=Ň 1 11 Bf
set_option genInjectivity false
set_option genSizeOf false
structure Adr where
 Jq:Addr
 Jr:FuncData
 Js:Addr
 Jt:FuncData
 Ju:Addr
 Jv:FuncData
 Ys:Addr
 Yt:FuncData
 Jw:Addr
 Jx:FuncData
 Jy:Addr
 Jz:FuncData
 JB:Addr
 JC:FuncData
 JD:Addr
 JF:FuncData
 JG:Addr
 JH:FuncData
 JK:Addr
 JL:FuncData
 JM:Addr
 JN:FuncData
 Yu:Addr
 Yw:FuncData
 Yx:Addr
 Yy:FuncData
 JQ:Addr
 JR:FuncData
 Yz:Addr
 YB:FuncData
 JT:Addr
 JV:FuncData
 JW:Addr
 JX:FuncData
 JZ:Addr
 J_:FuncData
 Ka:Addr
 Kc:FuncData
 Kd:Addr
 Ke:FuncData
 Kf:Addr
 Kg:FuncData
 Kh:Addr
 Kl:FuncData
 YC:Addr
 YD:FuncData
 Km:Addr
 Ko:FuncData
 Kp:Addr
 Kq:FuncData
 Kr:Addr
 Ks:FuncData
 Ku:Addr
 Kv:FuncData
 Kw:Addr
 Ky:FuncData
 Kz:Addr
 KC:FuncData
 KD:Addr
 KH:FuncData
 KJ:Addr
 KN:FuncData
 KQ:Addr
 KR:FuncData
 KY:Addr
 KZ:FuncData
 mG:Addr
 Bg:FuncData
 K_:Addr
 La:FuncData
 Lb:Addr
 Ld:FuncData
 YF:Addr
 YG:FuncData
 YH:Addr
 YJ:FuncData
 Le:Addr
 Lf:FuncData
 Lg:Addr
 Li:FuncData
 Lj:Addr
 Lk:FuncData
 Lp:Addr
 Lq:FuncData
 Lr:Addr
 Ls:FuncData
 YK:Addr
 YL:FuncData
 Lw:Addr
 Lx:FuncData
 Ly:Addr
 Lz:FuncData
 LC:Addr
 LQ:FuncData
 YM:Addr
 YQ:FuncData
 LR:Addr
 L_:FuncData
 Ma:Addr
 Mf:FuncData
 Mg:Addr
 Mh:FuncData
 Mi:Addr
 Mj:FuncData
 Ml:Addr
 Mp:FuncData
 Mq:Addr
 Mr:FuncData
 Ms:Addr
 Mt:FuncData
 Dk:Addr
 Dl:FuncData
 Mu:Addr
 Mv:FuncData
 Mw:Addr
 Mx:FuncData
 Mz:Addr
 MJ:FuncData
 MK:Addr
 MN:FuncData
 MP:Addr
 M_:FuncData
 Nb:Addr
 Nf:FuncData
 Ng:Addr
 Nh:FuncData
 Ni:Addr
 Nj:FuncData
 yC:Addr
 Bh:Addr
 Bj:Addr
 Sv:Addr
 YT:Addr
 Sw:Addr
 YW:Addr
 Sx:Addr
 Sy:Addr
 YX:Addr
 qy:Tok
 vA:Tok
def ı(a:Adr):String→Addr:=cG a.yC a.Bh a.Bj a.Sv a.YT a.Sw a.YW a.Sx a.Sy a.YX
structure Tx(K:PySem.W.Frag)(mg:Str→Option Value)(a:Adr):Prop where
 Um:aj K "_law_size" "_law_size" wL a.Jq a.Jr
 dU:mg "_law_size" =some (.ref a.Jq)
 Zdo:Binds K a.Jr ["_law_cell","_law_most"] []
 Nk:aj K "_law_grains" "_law_grains" wM a.Js a.Jt
 gF:mg "_law_grains" =some (.ref a.Js)
 Uo:Binds K a.Jt ["_law_cell","_law_many"] []
 Uq:aj K "_law_ray" "_law_ray" wN a.Ju a.Jv
 lH:mg "_law_ray" =some (.ref a.Ju)
 Zdp:Binds K a.Jv ["_law_cell"] []
 ZkW:aj K "__init__" "Yard.__init__" Fd a.Ys a.Yt
 ZkX:Binds K a.Yt ["self","width","height","things","days"] []
 Ur:aj K "box_lines" "box_lines" oG a.Jw a.Jx
 rZ:mg "box_lines" =some (.ref a.Jw)
 Zdq:Binds K a.Jx ["points"] []
 Us:aj K "each_once" "each_once" wO a.Jy a.Jz
 su:mg "each_once" =some (.ref a.Jy)
 Zdr:Binds K a.Jz ["points"] []
 Ut:aj K "line_through" "line_through" wQ a.JB a.JC
 sy:mg "line_through" =some (.ref a.JB)
 Zds:Binds K a.JC ["one","other"] []
 Nm:aj K "holds" "holds" wR a.JD a.JF
 iR:mg "holds" =some (.ref a.JD)
 Uu:Binds K a.JF ["line","pair"] []
 Uv:aj K "edge_lines" "edge_lines" rG a.JG a.JH
 sE:mg "edge_lines" =some (.ref a.JG)
 Zdt:Binds K a.JH ["points"] []
 Np:aj K "lines_about" "lines_about" wU a.JK a.JL
 lJ:mg "lines_about" =some (.ref a.JK)
 Uw:Binds K a.JL ["points"] []
 Nq:aj K "cast" "cast" wV a.JM a.JN
 iU:mg "cast" =some (.ref a.JM)
 Ux:Binds K a.JN ["point","ray"] []
 SJ:aj K "level_corners" "level_corners" IW a.Yu a.Yw
 qw:mg "level_corners" =some (.ref a.Yu)
 YZ:Binds K a.Yw ["x","y","u","v","z"] []
 Y_:aj K "block_corners" "block_corners" I_ a.Yx a.Yy
 yr:mg "block_corners" =some (.ref a.Yx)
 Zdu:Binds K a.Yy ["x","y","u","v","h"] []
 Zdv:aj K "corners" "Post.corners" wW a.JQ a.JR
 Zdw:Binds K a.JR ["self"] []
 ZkY:aj K "corners" "Fence.corners" Ja a.Yz a.YB
 ZkZ:Binds K a.YB ["self"] []
 Zdx:aj K "corners" "Sail.corners" wX a.JT a.JV
 Zdy:Binds K a.JV ["self"] []
 Zdz:aj K "corners" "Cloth.corners" rH a.JW a.JX
 ZdA:Binds K a.JX ["self"] []
 ZdB:aj K "corners" "House.corners" wY a.JZ a.J_
 ZdC:Binds K a.J_ ["self"] []
 Nr:aj K "corner_casts" "corner_casts" rJ a.Ka a.Kc
 jF:mg "corner_casts" =some (.ref a.Ka)
 Uy:Binds K a.Kc ["thing","ray"] []
 Nt:aj K "span_bits" "span_bits" wZ a.Kd a.Ke
 jG:mg "span_bits" =some (.ref a.Kd)
 Uz:Binds K a.Ke ["first","last"] []
 UG:aj K "row_bits" "row_bits" xg a.Kf a.Kg
 oN:mg "row_bits" =some (.ref a.Kf)
 ZdD:Binds K a.Kg ["lines","unit","q","width"] []
 Nu:aj K "dark_of" "dark_of" xq a.Kh a.Kl
 gG:mg "dark_of" =some (.ref a.Kh)
 UJ:Binds K a.Kl ["yard","thing","ray"] []
 Z_:aj K "darks_of_things" "darks_of_things" Fe a.YC a.YD
 yx:mg "darks_of_things" =some (.ref a.YC)
 ZdE:Binds K a.YD ["yard","ray"] []
 UL:aj K "dark" "dark" xr a.Km a.Ko
 iV:mg "dark" =some (.ref a.Km)
 ZdF:Binds K a.Ko ["yard","turn"] []
 UW:aj K "least_holding" "least_holding" xu a.Kp a.Kq
 lQ:mg "least_holding" =some (.ref a.Kp)
 ZdG:Binds K a.Kq ["sets","number"] []
 U_:aj K "who" "who" rK a.Kr a.Ks
 oO:mg "who" =some (.ref a.Kr)
 ZdH:Binds K a.Ks ["yard","ray"] []
 Nv:aj K "_law_at" "_law_at" xG a.Ku a.Kv
 dg:mg "_law_at" =some (.ref a.Ku)
 Va:Binds K a.Kv ["_law_script","_law_k"] []
 Nx:aj K "_law_height" "_law_height" xH a.Kw a.Ky
 jH:mg "_law_height" =some (.ref a.Kw)
 Vb:Binds K a.Ky ["_law_number"] []
 sO:aj K "_law_place" "_law_place" xJ a.Kz a.KC
 bZ:mg "_law_place" =some (.ref a.Kz)
 yD:Binds K a.KC ["_law_number","_law_wide"] []
 Vc:aj K "_law_thing" "_law_thing" rM a.KD a.KH
 dW:mg "_law_thing" =some (.ref a.KD)
 ZdI:Binds K a.KH ["_law_cell","_law_wide"] []
 sS:aj K "is_place" "is_place" xK a.KJ a.KN
 dh:mg "is_place" =some (.ref a.KJ)
 yE:Binds K a.KN ["number"] []
 Ny:aj K "is_height" "is_height" xM a.KQ a.KR
 lR:mg "is_height" =some (.ref a.KQ)
 Vd:Binds K a.KR ["number"] []
 Ve:aj K "makes_post" "makes_post" xO a.KY a.KZ
 oR:mg "makes_post" =some (.ref a.KY)
 ZdJ:Binds K a.KZ ["numbers"] []
 Nz:aj K "__init__" "Thing.__init__" Jb a.mG a.Bg
 NK:Binds K a.Bg ["self","word","numbers"] []
 NP:aj K "has_two_ends" "has_two_ends" rN a.K_ a.La
 jJ:mg "has_two_ends" =some (.ref a.K_)
 Vf:Binds K a.La ["numbers"] []
 Vg:aj K "makes_fence" "makes_fence" xP a.Lb a.Ld
 oY:mg "makes_fence" =some (.ref a.Lb)
 ZdK:Binds K a.Ld ["numbers"] []
 Zaa:aj K "makes_sail_or_house" "makes_sail_or_house" Jc a.YF a.YG
 uV:mg "makes_sail_or_house" =some (.ref a.YF)
 ZdL:Binds K a.YG ["numbers"] []
 ZdM:aj K "is_cloth_corner" "is_cloth_corner" Jd a.YH a.YJ
 Fg:mg "is_cloth_corner" =some (.ref a.YH)
 Zk0:Binds K a.YJ ["numbers"] []
 Vh:aj K "makes_cloth" "makes_cloth" rP a.Le a.Lf
 oZ:mg "makes_cloth" =some (.ref a.Le)
 ZdN:Binds K a.Lf ["numbers"] []
 Vi:aj K "thing_of" "thing_of" xQ a.Lg a.Li
 cQ:mg "thing_of" =some (.ref a.Lg)
 ZdO:Binds K a.Li ["word","numbers"] []
 Vj:aj K "parting_line" "parting_line" xR a.Lj a.Lk
 o_:mg "parting_line" =some (.ref a.Lj)
 ZdP:Binds K a.Lk ["points","point"] []
 NQ:aj K "pairs_below" "pairs_below" rQ a.Lp a.Lq
 lU:mg "pairs_below" =some (.ref a.Lp)
 Vk:Binds K a.Lq ["many"] []
 Vl:aj K "triples_below" "triples_below" rT a.Lr a.Ls
 sG:mg "triples_below" =some (.ref a.Lr)
 ZdQ:Binds K a.Ls ["many"] []
 ZdR:aj K "greatest_divisor" "greatest_divisor" Je a.YK a.YL
 Fi:mg "greatest_divisor" =some (.ref a.YK)
 Zk1:Binds K a.YL ["one","other"] []
 NT:aj K "ratio" "ratio" xT a.Lw a.Lx
 gJ:mg "ratio" =some (.ref a.Lw)
 Vm:Binds K a.Lx ["top","bottom"] []
 Dm:aj K "spread" "spread" rW a.Ly a.Lz
 dX:mg "spread" =some (.ref a.Ly)
 NZ:Binds K a.Lz ["shares","places","many"] []
 Dp:aj K "turned" "turned" xU a.LC a.LQ
 iW:mg "turned" =some (.ref a.LC)
 N_:Binds K a.LQ ["one","other","third"] []
 ZdS:aj K "shares_of_three" "shares_of_three" Jf a.YM a.YQ
 Fj:mg "shares_of_three" =some (.ref a.YM)
 Zk2:Binds K a.YQ ["corners","point"] []
 Oa:aj K "are_weights" "are_weights" rY a.LR a.L_
 jK:mg "are_weights" =some (.ref a.LR)
 Vn:Binds K a.L_ ["shares"] []
 Vo:aj K "shares_of_two" "shares_of_two" xV a.Ma a.Mf
 sI:mg "shares_of_two" =some (.ref a.Ma)
 ZdT:Binds K a.Mf ["ends","point"] []
 Vp:aj K "weights_of" "weights_of" oH a.Mg a.Mh
 lV:mg "weights_of" =some (.ref a.Mg)
 ZdU:Binds K a.Mh ["points","point"] []
 Vq:aj K "held" "held" xW a.Mi a.Mj
 pC:mg "held" =some (.ref a.Mi)
 ZdV:Binds K a.Mj ["points","point"] []
 Vr:aj K "stone_cast" "stone_cast" xX a.Ml a.Mp
 sJ:mg "stone_cast" =some (.ref a.Ml)
 ZdW:Binds K a.Mp ["stone","ray"] []
 Ob:aj K "shading" "shading" xY a.Mq a.Mr
 dY:mg "shading" =some (.ref a.Mq)
 Vs:Binds K a.Mr ["thing","stone","ray"] []
 pK:aj K "_law_flat" "_law_flat" xZ a.Ms a.Mt
 b_:mg "_law_flat" =some (.ref a.Ms)
 sU:Binds K a.Mt ["_law_x","_law_y","_law_u","_law_v","_law_z"] []
 Dq:aj K "_law_corners" "_law_corners" oJ a.Dk a.Dl
 cg:mg "_law_corners" =some (.ref a.Dk)
 Vt:Binds K a.Dl ["_law_word","_law_some"] []
 Vu:aj K "_law_casts" "_law_casts" yc a.Mu a.Mv
 pF:mg "_law_casts" =some (.ref a.Mu)
 ZdX:Binds K a.Mv ["_law_drawn","_law_ray_here"] []
 Oc:aj K "_law_common" "_law_common" yd a.Mw a.Mx
 lW:mg "_law_common" =some (.ref a.Mw)
 Vv:Binds K a.Mx ["_law_one","_law_other"] []
 Od:aj K "_law_summed" "_law_summed" yg a.Mz a.MJ
 fP:mg "_law_summed" =some (.ref a.Mz)
 Vw:Binds K a.MJ ["_law_parts","_law_weights"] []
 Dr:aj K "_law_whole" "_law_whole" yj a.MK a.MN
 gK:mg "_law_whole" =some (.ref a.MK)
 Oe:Binds K a.MN ["_law_found"] []
 Vx:aj K "_law_in" "_law_in" oK a.MP a.M_
 pG:mg "_law_in" =some (.ref a.MP)
 ZdY:Binds K a.M_ ["_law_told","_law_points","_law_point"] []
 Vy:aj K "_law_out" "_law_out" oM a.Nb a.Nf
 pH:mg "_law_out" =some (.ref a.Nb)
 ZdZ:Binds K a.Nf ["_law_told","_law_points","_law_point"] []
 Vz:aj K "_law_stone" "_law_stone" yq a.Ng a.Nh
 pI:mg "_law_stone" =some (.ref a.Ng)
 Zd0:Binds K a.Nh ["_law_stone_here","_law_ray_here","_law_drawn","_law_things","_law_one"] []
 Zd1:aj K "law" "law" fM a.Ni a.Nj
 pJ:mg "law" =some (.ref a.Ni)
 ZnU:Binds K a.Nj ["_law_script"] []
 VB:mg "YardError" =some (.ref (ı a "YardError"))
 Bk:mg "NoNumber" =some (.ref (ı a "NoNumber"))
 Bl:mg "BadThing" =some (.ref (ı a "BadThing"))
 Zi7:mg "Thing" =some (.ref (ı a "Thing"))
 Zab:mg "Post" =some (.ref (ı a "Post"))
 SM:mg "Fence" =some (.ref (ı a "Fence"))
 Zac:mg "Sail" =some (.ref (ı a "Sail"))
 SN:mg "Cloth" =some (.ref (ı a "Cloth"))
 SQ:mg "House" =some (.ref (ı a "House"))
 Zad:mg "Yard" =some (.ref (ı a "Yard"))
 VD:PySem.W.excIn K (ı a "YardError") Et RK=true
 VF:PySem.W.keepIn K (.ref (ı a "YardError"))=true
 VG:dw K (ı a "YardError")=true
 Bm:PySem.W.excIn K (ı a "NoNumber") Et RK=true
 Zae:PySem.W.keepIn K (.ref (ı a "NoNumber"))=true
 Zaf:dw K (ı a "NoNumber")=true
 Bo:PySem.W.excIn K (ı a "BadThing") Et RK=true
 Zag:PySem.W.keepIn K (.ref (ı a "BadThing"))=true
 Zah:dw K (ı a "BadThing")=true
 ŭ:Cls K (ı a "Thing")
 Zi8:Mk K (ı a "Thing") a.mG
 aZ:ś K (ı a "Thing") "word"
 ĺ:ś K (ı a "Thing") "numbers"
 Ÿ:Cls K (ı a "Post")
 Zai:Mk K (ı a "Post") a.mG
 bR:ś K (ı a "Post") "word"
 Ł:ś K (ı a "Post") "numbers"
 pL:Meth K (ı a "Post") "corners" a.JQ
 ť:Cls K (ı a "Fence")
 SX:Mk K (ı a "Fence") a.mG
 bf:ś K (ı a "Fence") "word"
 Ļ:ś K (ı a "Fence") "numbers"
 mH:Meth K (ı a "Fence") "corners" a.Yz
 Ź:Cls K (ı a "Sail")
 Zaj:Mk K (ı a "Sail") a.mG
 bT:ś K (ı a "Sail") "word"
 ł:ś K (ı a "Sail") "numbers"
 pN:Meth K (ı a "Sail") "corners" a.JT
 Ŧ:Cls K (ı a "Cloth")
 S_:Mk K (ı a "Cloth") a.mG
 bh:ś K (ı a "Cloth") "word"
 ļ:ś K (ı a "Cloth") "numbers"
 mJ:Meth K (ı a "Cloth") "corners" a.JW
 ŧ:Cls K (ı a "House")
 Tc:Mk K (ı a "House") a.mG
 bA:ś K (ı a "House") "word"
 Ľ:ś K (ı a "House") "numbers"
 mK:Meth K (ı a "House") "corners" a.JZ
 bV:Cls K (ı a "Yard")
 Zak:Mk K (ı a "Yard") a.Ys
 bB:ś K (ı a "Yard") "width"
 bK:ś K (ı a "Yard") "height"
 iY:ś K (ı a "Yard") "things"
 yF:ś K (ı a "Yard") "days"
 iC:um (fun C D b=>cZ K (ı a C)=true∧PySem.W.kitOne K (.ref (ı a C)) (.ref (ı a D))=some b) Zz
 iT:um (fun C D b=>cZ K (ı a C)=true∧PySem.W.kitOne K (.ref (ı a C)) (.type D)=some b) ZA
 iD:nU (fun D=>PySem.W.kitOne K (.type "NoneType") (.ref (ı a D))=some false) ZB
 iN:nU (fun D=>PySem.W.kitOne K (.type "NoneType") (.type D)=some false) ZC
 iZ:mg "MOST_HEIGHT" =some (.int (1000000000) a.qy)
 jL:mg "MOST_PLACE" =some (.int (1000000000) a.vA)
 VH:mg "abs" =none
 sV:mg "all" =none
 Zal:mg "bool" =none
 yG:mg "enumerate" =none
 Og:mg "int" =none
 au:mg "isinstance" =none
 cj:mg "len" =none
 fG:mg "list" =none
 Dt:mg "max" =none
 yH:mg "min" =none
 Ŵ:mg "range" =none
 Oh:mg "sum" =none
 iw:mg "tuple" =none
 VJ:mg "zip" =none
theorem Oi:Ě ["_law_cell","_law_most","_law_width"] ["_law_cell","_law_most"] (Ċ wL):=⟨rfl,rfl,rfl,by decide +kernel,rfl,by decide +kernel,by decide +kernel⟩
theorem jk:Ě ["_law_cell","_law_many","_law_found","_law_number","_law_k"] ["_law_cell","_law_many"] (Ċ wM):=⟨rfl,rfl,rfl,by decide +kernel,rfl,by decide +kernel,by decide +kernel⟩
theorem Bp:Ě ["_law_cell","_law_xs","_law_scale"] ["_law_cell"] (Ċ wN):=⟨rfl,rfl,rfl,by decide +kernel,rfl,by decide +kernel,by decide +kernel⟩
theorem Zd2:Ě ["self","width","height","things","days"] ["self","width","height","things","days"] (Ċ Fd):=⟨rfl,rfl,rfl,by decide +kernel,rfl,by decide +kernel,by decide +kernel⟩
theorem Bq:Ě ["points","rights","downs"] ["points"] (Ċ oG):=⟨rfl,rfl,rfl,by decide +kernel,rfl,by decide +kernel,by decide +kernel⟩
theorem Br:Ě ["points","kept","point"] ["points"] (Ċ wO):=⟨rfl,rfl,rfl,by decide +kernel,rfl,by decide +kernel,by decide +kernel⟩
theorem Bs:Ě ["one","other","l","m"] ["one","other"] (Ċ wQ):=⟨rfl,rfl,rfl,by decide +kernel,rfl,by decide +kernel,by decide +kernel⟩
theorem Zam:Ě ["line","pair"] ["line","pair"] (Ċ wR):=⟨rfl,rfl,rfl,by decide +kernel,rfl,by decide +kernel,by decide +kernel⟩
theorem kY:Ě ["points","lines","apart","one","other","line"] ["points"] (Ċ rG):=⟨rfl,rfl,rfl,by decide +kernel,rfl,by decide +kernel,by decide +kernel⟩
theorem Zan:Ě ["points"] ["points"] (Ċ wU):=⟨rfl,rfl,rfl,by decide +kernel,rfl,by decide +kernel,by decide +kernel⟩
theorem Zao:Ě ["point","ray"] ["point","ray"] (Ċ wV):=⟨rfl,rfl,rfl,by decide +kernel,rfl,by decide +kernel,by decide +kernel⟩
theorem Zd3:Ě ["x","y","u","v","z"] ["x","y","u","v","z"] (Ċ IW):=⟨rfl,rfl,rfl,by decide +kernel,rfl,by decide +kernel,by decide +kernel⟩
theorem Zd4:Ě ["x","y","u","v","h"] ["x","y","u","v","h"] (Ċ I_):=⟨rfl,rfl,rfl,by decide +kernel,rfl,by decide +kernel,by decide +kernel⟩
theorem Bt:Ě ["self","right","down"] ["self"] (Ċ wW):=⟨rfl,rfl,rfl,by decide +kernel,rfl,by decide +kernel,by decide +kernel⟩
theorem Du:Ě ["self","given","one","other"] ["self"] (Ċ Ja):=⟨rfl,rfl,rfl,by decide +kernel,rfl,by decide +kernel,by decide +kernel⟩
theorem Oj:Ě ["self","given"] ["self"] (Ċ wX):=⟨rfl,rfl,rfl,by decide +kernel,rfl,by decide +kernel,by decide +kernel⟩
theorem Zap:Ě ["self"] ["self"] (Ċ rH):=⟨rfl,rfl,rfl,by decide +kernel,rfl,by decide +kernel,by decide +kernel⟩
theorem Ol:Ě ["self","given"] ["self"] (Ċ wY):=⟨rfl,rfl,rfl,by decide +kernel,rfl,by decide +kernel,by decide +kernel⟩
theorem Zaq:Ě ["thing","ray"] ["thing","ray"] (Ċ rJ):=⟨rfl,rfl,rfl,by decide +kernel,rfl,by decide +kernel,by decide +kernel⟩
theorem Zar:Ě ["first","last"] ["first","last"] (Ċ wZ):=⟨rfl,rfl,rfl,by decide +kernel,rfl,by decide +kernel,by decide +kernel⟩
theorem dB:Ě ["lines","unit","q","width","first","last","l","m","n","step","room"] ["lines","unit","q","width"] (Ċ xg):=⟨rfl,rfl,rfl,by decide +kernel,rfl,by decide +kernel,by decide +kernel⟩
theorem pO:Ě ["yard","thing","ray","lines","bits","q"] ["yard","thing","ray"] (Ċ xq):=⟨rfl,rfl,rfl,by decide +kernel,rfl,by decide +kernel,by decide +kernel⟩
theorem Zd5:Ě ["yard","ray"] ["yard","ray"] (Ċ Fe):=⟨rfl,rfl,rfl,by decide +kernel,rfl,by decide +kernel,by decide +kernel⟩
theorem vB:Ě ["yard","turn","bits","some"] ["yard","turn"] (Ċ xr):=⟨rfl,rfl,rfl,by decide +kernel,rfl,by decide +kernel,by decide +kernel⟩
theorem Bu:Ě ["sets","number","place","bits"] ["sets","number"] (Ċ xu):=⟨rfl,rfl,rfl,by decide +kernel,rfl,by decide +kernel,by decide +kernel⟩
theorem Om:Ě ["yard","ray","sets"] ["yard","ray"] (Ċ rK):=⟨rfl,rfl,rfl,by decide +kernel,rfl,by decide +kernel,by decide +kernel⟩
theorem Zas:Ě ["_law_script","_law_k"] ["_law_script","_law_k"] (Ċ xG):=⟨rfl,rfl,rfl,by decide +kernel,rfl,by decide +kernel,by decide +kernel⟩
theorem Zat:Ě ["_law_number"] ["_law_number"] (Ċ xH):=⟨rfl,rfl,rfl,by decide +kernel,rfl,by decide +kernel,by decide +kernel⟩
theorem Zau:Ě ["_law_number","_law_wide"] ["_law_number","_law_wide"] (Ċ xJ):=⟨rfl,rfl,rfl,by decide +kernel,rfl,by decide +kernel,by decide +kernel⟩
theorem gM:Ě ["_law_cell","_law_wide","_law_xs","_law_h","_law_kind","_law_x","_law_y","_law_u","_law_v"] ["_law_cell","_law_wide"] (Ċ rM):=⟨rfl,rfl,rfl,by decide +kernel,rfl,by decide +kernel,by decide +kernel⟩
theorem Zav:Ě ["number"] ["number"] (Ċ xK):=⟨rfl,rfl,rfl,by decide +kernel,rfl,by decide +kernel,by decide +kernel⟩
theorem Zaw:Ě ["number"] ["number"] (Ċ xM):=⟨rfl,rfl,rfl,by decide +kernel,rfl,by decide +kernel,by decide +kernel⟩
theorem Zax:Ě ["numbers"] ["numbers"] (Ċ xO):=⟨rfl,rfl,rfl,by decide +kernel,rfl,by decide +kernel,by decide +kernel⟩
theorem yI:Ě ["self","word","numbers"] ["self","word","numbers"] (Ċ Jb):=⟨rfl,rfl,rfl,by decide +kernel,rfl,by decide +kernel,by decide +kernel⟩
theorem Zay:Ě ["numbers"] ["numbers"] (Ċ rN):=⟨rfl,rfl,rfl,by decide +kernel,rfl,by decide +kernel,by decide +kernel⟩
theorem Zaz:Ě ["numbers"] ["numbers"] (Ċ xP):=⟨rfl,rfl,rfl,by decide +kernel,rfl,by decide +kernel,by decide +kernel⟩
theorem Zd6:Ě ["numbers"] ["numbers"] (Ċ Jc):=⟨rfl,rfl,rfl,by decide +kernel,rfl,by decide +kernel,by decide +kernel⟩
theorem Zd7:Ě ["numbers"] ["numbers"] (Ċ Jd):=⟨rfl,rfl,rfl,by decide +kernel,rfl,by decide +kernel,by decide +kernel⟩
theorem ZaA:Ě ["numbers"] ["numbers"] (Ċ rP):=⟨rfl,rfl,rfl,by decide +kernel,rfl,by decide +kernel,by decide +kernel⟩
theorem ZaB:Ě ["word","numbers"] ["word","numbers"] (Ċ xQ):=⟨rfl,rfl,rfl,by decide +kernel,rfl,by decide +kernel,by decide +kernel⟩
theorem Oo:Ě ["points","point","line"] ["points","point"] (Ċ xR):=⟨rfl,rfl,rfl,by decide +kernel,rfl,by decide +kernel,by decide +kernel⟩
theorem Bv:Ě ["many","pairs","second"] ["many"] (Ċ rQ):=⟨rfl,rfl,rfl,by decide +kernel,rfl,by decide +kernel,by decide +kernel⟩
theorem Bw:Ě ["many","triples","third"] ["many"] (Ċ rT):=⟨rfl,rfl,rfl,by decide +kernel,rfl,by decide +kernel,by decide +kernel⟩
theorem Dv:Ě ["one","other","rest"] ["one","other"] (Ċ Je):=⟨rfl,rfl,rfl,by decide +kernel,rfl,by decide +kernel,by decide +kernel⟩
theorem Bx:Ě ["top","bottom","divisor"] ["top","bottom"] (Ċ xT):=⟨rfl,rfl,rfl,by decide +kernel,rfl,by decide +kernel,by decide +kernel⟩
theorem pP:Ě ["shares","places","many","whole","weights","share","place"] ["shares","places","many"] (Ċ rW):=⟨rfl,rfl,rfl,by decide +kernel,rfl,by decide +kernel,by decide +kernel⟩
theorem Oq:Ě ["one","other","third","right"] ["one","other","third"] (Ċ xU):=⟨rfl,rfl,rfl,by decide +kernel,rfl,by decide +kernel,by decide +kernel⟩
theorem Dw:Ě ["corners","point","one","other","third"] ["corners","point"] (Ċ Jf):=⟨rfl,rfl,rfl,by decide +kernel,rfl,by decide +kernel,by decide +kernel⟩
theorem Ot:Ě ["shares","whole"] ["shares"] (Ċ rY):=⟨rfl,rfl,rfl,by decide +kernel,rfl,by decide +kernel,by decide +kernel⟩
theorem vC:Ě ["ends","point","right","down","gone"] ["ends","point"] (Ċ xV):=⟨rfl,rfl,rfl,by decide +kernel,rfl,by decide +kernel,by decide +kernel⟩
theorem kZ:Ě ["points","point","many","places","shares"] ["points","point"] (Ċ oH):=⟨rfl,rfl,rfl,by decide +kernel,rfl,by decide +kernel,by decide +kernel⟩
theorem Ou:Ě ["points","point","line"] ["points","point"] (Ċ xW):=⟨rfl,rfl,rfl,by decide +kernel,rfl,by decide +kernel,by decide +kernel⟩
theorem ZaC:Ě ["stone","ray"] ["stone","ray"] (Ċ xX):=⟨rfl,rfl,rfl,by decide +kernel,rfl,by decide +kernel,by decide +kernel⟩
theorem ZaD:Ě ["thing","stone","ray"] ["thing","stone","ray"] (Ċ xY):=⟨rfl,rfl,rfl,by decide +kernel,rfl,by decide +kernel,by decide +kernel⟩
theorem ZaE:Ě ["_law_x","_law_y","_law_u","_law_v","_law_z"] ["_law_x","_law_y","_law_u","_law_v","_law_z"] (Ċ xZ):=⟨rfl,rfl,rfl,by decide +kernel,rfl,by decide +kernel,by decide +kernel⟩
theorem ź:Ě ["_law_word","_law_some","_law_x","_law_y","_law_u","_law_v","_law_h","_law_p","_law_q"] ["_law_word","_law_some"] (Ċ oJ):=⟨rfl,rfl,rfl,by decide +kernel,rfl,by decide +kernel,by decide +kernel⟩
theorem pQ:Ě ["_law_drawn","_law_ray_here","_law_found","_law_x","_law_y","_law_z"] ["_law_drawn","_law_ray_here"] (Ċ yc):=⟨rfl,rfl,rfl,by decide +kernel,rfl,by decide +kernel,by decide +kernel⟩
theorem Ov:Ě ["_law_one","_law_other"] ["_law_one","_law_other"] (Ċ yd):=⟨rfl,rfl,rfl,by decide +kernel,rfl,by decide +kernel,by decide +kernel⟩
theorem gO:Ě ["_law_parts","_law_weights","_law_top","_law_bottom","_law_part","_law_weight","_law_share"] ["_law_parts","_law_weights"] (Ċ yg):=⟨rfl,rfl,rfl,by decide +kernel,rfl,by decide +kernel,by decide +kernel⟩
theorem ZaF:Ě ["_law_found"] ["_law_found"] (Ċ yj):=⟨rfl,rfl,rfl,by decide +kernel,rfl,by decide +kernel,by decide +kernel⟩
theorem Ow:Ě ["_law_told","_law_points","_law_point","_law_weight"] ["_law_told","_law_points","_law_point"] (Ċ oK):=⟨rfl,rfl,rfl,by decide +kernel,rfl,by decide +kernel,by decide +kernel⟩
theorem vD:Ě ["_law_told","_law_points","_law_point","_law_across","_law_down","_law_most"] ["_law_told","_law_points","_law_point"] (Ċ oM):=⟨rfl,rfl,rfl,by decide +kernel,rfl,by decide +kernel,by decide +kernel⟩
theorem pR:Ě ["_law_stone_here","_law_ray_here","_law_drawn","_law_things","_law_one","_law_point","_law_k","_law_told","_law_points"] ["_law_stone_here","_law_ray_here","_law_drawn","_law_things","_law_one"] (Ċ yq):=⟨rfl,rfl,rfl,by decide +kernel,rfl,by decide +kernel,by decide +kernel⟩
theorem cR:Ě ["_law_script","_law_size_here","_law_ray_here","_law_drawn","_law_things","_law_yard","_law_bits","_law_ones","_law_number","_law_told","_law_due"] ["_law_script"] (Ċ fM):=⟨rfl,rfl,rfl,by decide +kernel,rfl,by decide +kernel,by decide +kernel⟩
theorem Z3n{a b:Scope}(h:(a.names.all fun y=>decide (y.2=.free→(b.names.lookup y.1=some .cell∨b.names.lookup y.1=some .free)))=true):∀y∈a.names,y.2=.free→(b.names.lookup y.1=some .cell∨b.names.lookup y.1=some .free):=fun y hy=>of_decide_eq_true (List.all_eq_true.mp h y hy)
section
variable{P:Program}{w:World}{K:PySem.W.Frag}{mg:Str→Option Value}{base:Heap}{a:Adr}
theorem ZaG(T:Tx K mg a):Ķ P w K mg base (ų P w) 1 a.Jq a.Jr ["_law_cell","_law_most"] (ż ⟨K,ı a⟩ 2 dU):=by
 refine aL (cm:=ı a) (mb:=fC) T.Um Oi rfl rfl rfl fun cdv A outer s H E hr=>?_
 have hu:=hr.units
 exact(ĉ (Ś (PW.pt (w_and (Ŀ Ş (ŋ hu) (ā (ď Ŏ ō (ā (ď ŷ Ť (Ă 0) (ā ă))) (ā ă))) (ā ă) (ħ _)) (je (Ŀ Uc Tz (Ă 1) (ā ă) (ħ _)))))
  (Č (Ġ (Ĳ (ğ Ď č (ā (ģ (Ũ (ą (Ĺ (ą ă (ą ă ĝ))) (ą (Ĺ (ą ă (ą ă ĝ))) ĝ))))) (ā (ď Ŏ ō (Ă 0) (ā ă))) (fun _ _=>rfl)))))
  ĳ)
  (ĉ (İ (i:=2) Oi.nd rfl (Or.inl rfl) (ņ ĵ Ĵ (ā ă) (ā (ď Ŏ ō (Ă 0) (ā (PE.wk (ĩ (tQ rfl) (by rfl) T.yH PyProof.Rows.boot_min (Ğ (ā ă) (Ğ (Ă 1) Ĭ))) fun _ _ _ h=>š ud h))))))
  (Č (Ġ (Ĳ (Ĺ (ą (v_var 2) (ą (ģ (ņ ĵ Ĵ (ā ă) (ā (ď Ŏ ō (ā (ď ŷ Ť (Ă 0) (ā ă))) (ā (PE.wk (ĩ (tQ rfl) (by rfl) T.yH PyProof.Rows.boot_min (Ğ (ā ă) (Ğ (ā (ď ŷ Ť (Ă 1) (Ă 2))) Ĭ))) fun _ _ _ h=>š ud h)))))) ĝ))))))))
theorem Ox(T:Tx K mg a):Ķ P w K mg base (ų P w) 1 a.Js a.Jt ["_law_cell","_law_many"] (ż ⟨K,ı a⟩ 2 gF):=by
 refine aL (cm:=ı a) (mb:=uE) T.Nk jk rfl rfl rfl fun cdv A outer s H E hr=>?_
 have hu:=hr.units
 exact(ĉ (İ (i:=2) jk.nd rfl (Or.inl rfl) (Ũ ĝ))
  (ĉ (İ (i:=3) jk.nd rfl (Or.inl rfl) (Ĳ (ď ŷ Ť (Ă 0) (ā ă))))
  (ĉ (Ś (Ŀ Ş (ŋ hu) (ā (ď Ŏ ō (Ă 0) (ā ă))) (ā ă) (ħ _))
  (Č (İ (i:=3) jk.nd rfl (Or.inl rfl) (Ĳ (ď Ŏ ō (Ă 3) (ā ă)))))
  ĳ)
  (ĉ (aW PassesOwn.leaving rfl (ţ rfl T.Ŵ (ą (v_var 1) ĝ)) (Ĝ (i:=4) jk.nd rfl (Or.inl rfl))
  (Č (Ś (Ŀ Ş (ŋ hu) (ā (ď Ŏ ō (Ă 0) (ā ă))) (ā ă) (ħ _))
  (ĉ (PS.wk (eN (nj PySem.F.plainAttrs_list PySem.F.slot_list_append PySem.F.type_list_append bG (pv 2) (ą (ď Ŏ ō (Ă 3) (ā ă)) ĝ))) fun _ _ _ h=>jz h)
  (Č (İ (i:=3) jk.nd rfl (Or.inl rfl) (Ĳ (ď ŷ Ť (Ă 3) (ā ă))))))
  (ĉ (İ (i:=3) jk.nd rfl (Or.inl rfl) (Ĳ (ď Ŏ ō (ā (ģ (ņ ĵ Ĵ (ā (ģ (ņ ĵ Ĵ (ā (ď ī Ģ (Ă 3) (ā ă))) (ā ă)))) (ā (ď ī Ģ (ā ă) (Ă 4)))))) (ā ă))))
  (Č (PS.wk (eN (nj PySem.F.plainAttrs_list PySem.F.slot_list_append PySem.F.type_list_append bG (pv 2) (ą (ď ŷ Ť (Ă 3) (ā ă)) ĝ))) fun _ _ _ h=>jz h))))))
  (Č (Ġ (fH 2)))))))
theorem ZaH(T:Tx K mg a):Ķ P w K mg base (ų P w) 2 a.Ju a.Jv ["_law_cell"] (ż ⟨K,ı a⟩ 1 lH):=by
 refine aL (cm:=ı a) (mb:=zW) T.Uq Bp rfl rfl rfl fun cdv A outer s H E hr=>?_
 have hu:=hr.units
 exact(@ĉ _ _ _ _ _ _ _ (@İ _ _ _ _ _ _ 1 _ _ Bp.nd rfl (Or.inl rfl) (@Ĕ _ _ _ _ _ _ _ _ _ _ _ _ _ _ _ _ (Ox T) ċ (hr.mono (by decide)) rfl T.gF T.Nk.kp T.Uo (@Ħ _ _ _ _ _ _ _ _ _ _ _ _ _ _ _) (@ć _ _ _ _ _ 0 _ _ (by rfl) (by first|exact Or.inl rfl|exact Or.inr (Or.inl rfl)|exact Or.inr (Or.inr rfl)) (by decide) (by decide) (@ĕ _ _ _ _ _ _ _ (@ă _ _ _ _ _ _) (@đ _ _ _) (by exact ř rfl)) (by exact ř rfl)) (by decide) (by exact ř rfl) (by rfl)) (by rfl) (by first|exact .inl rfl|exact .inr rfl|assumption)) (@ĉ _ _ _ _ _ _ _ (@İ _ _ _ _ _ _ 2 _ _ Bp.nd rfl (Or.inl rfl) (@Ĳ _ _ _ _ _ (@ğ _ _ _ _ _ _ _ _ _ _ (@Ď _) (@č _) (@ā _ _ _ _ _ (@ģ _ _ _ _ _ (@Ũ _ _ _ _ _ _ (@ą _ _ _ _ _ _ _ (@ă _ _ _ _ _ _) (@ą _ _ _ _ _ _ _ (@ă _ _ _ _ _ _) (@ą _ _ _ _ _ _ _ (@ă _ _ _ _ _ _) (@ą _ _ _ _ _ _ _ (@ď _ _ _ _ _ _ _ _ _ _ _ (@tZ _) (@tM _) (@ā _ _ _ _ _ (@ă _ _ _ _ _ _)) (@ā _ _ _ _ _ (@ă _ _ _ _ _ _))) (@ĝ _ _ _) (by exact ř rfl)) (by exact ř rfl)) (by exact ř rfl)) (by exact ř rfl))))) (@ā _ _ _ _ _ (@ď _ _ _ _ _ _ _ _ _ _ _ (@Ŏ _) (@ō _) (@ā _ _ _ _ _ (@ğ _ _ _ _ _ _ _ _ _ _ (@Ď _) (@č _) (@Ă _ _ _ 1 _ _ (by rfl) (by first|exact Or.inl rfl|exact Or.inr (Or.inl rfl)|exact Or.inr (Or.inr rfl)) (by decide) (by decide)) (@ā _ _ _ _ _ (@ă _ _ _ _ _ _)) (fun _ _=>rfl))) (@ā _ _ _ _ _ (@ă _ _ _ _ _ _)))) (fun _ _=>rfl))) (by rfl) (by first|exact .inl rfl|exact .inr rfl|assumption)) (@Č _ _ _ _ _ (@Ġ _ _ _ _ _ _ (@Ĳ _ _ _ _ _ (@Ĺ _ _ _ _ _ _ _ (@ą _ _ _ _ _ _ _ (@ď _ _ _ _ _ _ _ _ _ _ _ (@ī _) (@Ģ _) (@ā _ _ _ _ _ (@ď _ _ _ _ _ _ _ _ _ _ _ (@ő _) (@Ő _) (@ā _ _ _ _ _ (@ď _ _ _ _ _ _ _ _ _ _ _ (@Ŏ _) (@ō _) (@ā _ _ _ _ _ (@ğ _ _ _ _ _ _ _ _ _ _ (@Ď _) (@č _) (@Ă _ _ _ 1 _ _ (by rfl) (by first|exact Or.inl rfl|exact Or.inr (Or.inl rfl)|exact Or.inr (Or.inr rfl)) (by decide) (by decide)) (@ā _ _ _ _ _ (@ă _ _ _ _ _ _)) (fun _ _=>rfl))) (@ā _ _ _ _ _ (@ă _ _ _ _ _ _)))) (@ā _ _ _ _ _ (@ă _ _ _ _ _ _)))) (@Ă _ _ _ 2 _ _ (by rfl) (by first|exact Or.inl rfl|exact Or.inr (Or.inl rfl)|exact Or.inr (Or.inr rfl)) (by decide) (by decide))) (@ą _ _ _ _ _ _ _ (@ď _ _ _ _ _ _ _ _ _ _ _ (@ī _) (@Ģ _) (@ā _ _ _ _ _ (@ď _ _ _ _ _ _ _ _ _ _ _ (@ő _) (@Ő _) (@ā _ _ _ _ _ (@ď _ _ _ _ _ _ _ _ _ _ _ (@Ŏ _) (@ō _) (@ā _ _ _ _ _ (@ğ _ _ _ _ _ _ _ _ _ _ (@Ď _) (@č _) (@Ă _ _ _ 1 _ _ (by rfl) (by first|exact Or.inl rfl|exact Or.inr (Or.inl rfl)|exact Or.inr (Or.inr rfl)) (by decide) (by decide)) (@ā _ _ _ _ _ (@ă _ _ _ _ _ _)) (fun _ _=>rfl))) (@ā _ _ _ _ _ (@ă _ _ _ _ _ _)))) (@ā _ _ _ _ _ (@ă _ _ _ _ _ _)))) (@Ă _ _ _ 2 _ _ (by rfl) (by first|exact Or.inl rfl|exact Or.inr (Or.inl rfl)|exact Or.inr (Or.inr rfl)) (by decide) (by decide))) (@ą _ _ _ _ _ _ _ (@ď _ _ _ _ _ _ _ _ _ _ _ (@ī _) (@Ģ _) (@ā _ _ _ _ _ (@ģ _ _ _ _ _ (@ņ _ _ _ _ _ _ _ _ _ _ _ (@ĵ _) (@Ĵ _) (@ā _ _ _ _ _ (@ă _ _ _ _ _ _)) (@ā _ _ _ _ _ (@ď _ _ _ _ _ _ _ _ _ _ _ (@Ŏ _) (@ō _) (@ā _ _ _ _ _ (@ğ _ _ _ _ _ _ _ _ _ _ (@Ď _) (@č _) (@Ă _ _ _ 1 _ _ (by rfl) (by first|exact Or.inl rfl|exact Or.inr (Or.inl rfl)|exact Or.inr (Or.inr rfl)) (by decide) (by decide)) (@ā _ _ _ _ _ (@ă _ _ _ _ _ _)) (fun _ _=>rfl))) (@ā _ _ _ _ _ (@ă _ _ _ _ _ _))))))) (@Ă _ _ _ 2 _ _ (by rfl) (by first|exact Or.inl rfl|exact Or.inr (Or.inl rfl)|exact Or.inr (Or.inr rfl)) (by decide) (by decide))) (@ĝ _ _ _) (by exact ř rfl)) (by exact ř rfl)) (by exact ř rfl))))))))
theorem Oz(T:Tx K mg a):Ķ P w K mg base (ų P w) 1 a.Ys a.Yt ["self","width","height","things","days"] (Qe ⟨K,ı a⟩ 5 "Yard" iu):=by
 refine fnI (cm:=ı a) (mb:=Jg) T.ZkW Zd2 rfl rfl rfl fun cdv A outer s H E hr=>?_
 have hu:=hr.units
 exact(ĉ (aY (i:=0) ["Yard"] ⟨⟨T.bV,T.bB⟩,trivial⟩ (pv 0) (v_var 1))
  (ĉ (aY (i:=0) ["Yard"] ⟨⟨T.bV,T.bK⟩,trivial⟩ (pv 0) (v_var 2))
  (ĉ (aY (i:=0) ["Yard"] ⟨⟨T.bV,T.iY⟩,trivial⟩ (pv 0) (ģ (PE.wk (ş cW (by rfl) T.fG PyProof.Rows.boot_list (Ğ (Ă 3) Ĭ)) fun _ _ _ h=>vP cX h)))
  (Č (aY (i:=0) ["Yard"] ⟨⟨T.bV,T.yF⟩,trivial⟩ (pv 0) (ģ (Ŝ ["name","times","turns"] [] 3 (Ċ Fd) rfl rfl (aM 4) (fun _ _ _ _ _=>(nC rfl (Į (Ĝ (i:=0) (show(["name","times","turns"]:List Str).Nodup by decide +kernel) rfl (Or.inl rfl) (hf:=Or.inr rfl)) (Į (Ĝ (i:=1) (show(["name","times","turns"]:List Str).Nodup by decide +kernel) rfl (Or.inl rfl) (hf:=Or.inr rfl)) (Į (Ĝ (i:=2) (show(["name","times","turns"]:List Str).Nodup by decide +kernel) rfl (Or.inl rfl) (hf:=Or.inr rfl)) aK))))) (fun _ _ _ _ _=>ŕ) (fun _ _ _ _ _=>(Ĺ (ą (v_var 0) (ą (v_var 1) (ą (ģ (PE.wk (ş cW (by rfl) T.fG PyProof.Rows.boot_list (Ğ (Ă 2) Ĭ)) fun _ _ _ h=>vP cX h)) ĝ))))) trivial)))))))
theorem ZaI(T:Tx K mg a):Ķ P w K mg base (ų P w) 1 a.Jw a.Jx ["points"] (ż ⟨K,ı a⟩ 1 rZ):=by
 refine aL (cm:=ı a) (mb:=zX) T.Ur Bq rfl rfl rfl fun cdv A outer s H E hr=>?_
 have hu:=hr.units
 exact(ĉ (ur (i:=1) Bq.nd rfl rfl ["point"] [] 1 (Ċ oG) rfl rfl (aM 0) (fun _ _ _ _ _=>(Ĝ (i:=0) (show(["point"]:List Str).Nodup by decide +kernel) rfl (Or.inl rfl) (hf:=Or.inr rfl))) (fun _ _ _ _ _=>ŕ) (fun _ _ _ _ _=>(ğ Ď č (Ă 0) (ā ă) (fun _ _=>rfl))) trivial)
  (ĉ (ur (i:=2) Bq.nd rfl rfl ["point"] [] 1 (Ċ oG) rfl rfl (aM 0) (fun _ _ _ _ _=>(Ĝ (i:=0) (show(["point"]:List Str).Nodup by decide +kernel) rfl (Or.inl rfl) (hf:=Or.inr rfl))) (fun _ _ _ _ _=>ŕ) (fun _ _ _ _ _=>(ğ Ď č (Ă 0) (ā ă) (fun _ _=>rfl))) trivial)
  (Č (Ġ (Ũ (ą (Ĺ (ą ă (ą ă (ą (PE.wk (ĩ (zP rfl) (by rfl) T.Dt PyProof.Rows.boot_max (Ğ (Ă 1) Ĭ)) fun _ _ _ h=>š zR h) ĝ)))) (ą (Ĺ (ą (vN gC fY (ā ă)) (ą ă (ą (vN gC fY (ā (PE.wk (ĩ (Ik rfl) (by rfl) T.yH PyProof.Rows.boot_min (Ğ (Ă 1) Ĭ)) fun _ _ _ h=>š Il h))) ĝ)))) (ą (Ĺ (ą ă (ą ă (ą (PE.wk (ĩ (zP rfl) (by rfl) T.Dt PyProof.Rows.boot_max (Ğ (Ă 2) Ĭ)) fun _ _ _ h=>š zR h) ĝ)))) (ą (Ĺ (ą ă (ą (vN gC fY (ā ă)) (ą (vN gC fY (ā (PE.wk (ĩ (Ik rfl) (by rfl) T.yH PyProof.Rows.boot_min (Ğ (Ă 2) Ĭ)) fun _ _ _ h=>š Il h))) ĝ)))) ĝ)))))))))
theorem ZaJ(T:Tx K mg a):Ķ P w K mg base (ų P w) 1 a.Jy a.Jz ["points"] (ż ⟨K,ı a⟩ 1 su):=by
 refine aL (cm:=ı a) (mb:=zY) T.Us Br rfl rfl rfl fun cdv A outer s H E hr=>?_
 have hu:=hr.units
 exact(ĉ (İ (i:=1) Br.nd rfl (Or.inl rfl) (Ũ ĝ))
  (ĉ (aW PassesOwn.leaving rfl (aM 0) (Ĝ (i:=2) Br.nd rfl (Or.inl rfl))
  (Č (Ś (Ŀ Yo (E_ hu) (Ă 2) (Ă 1) (by with_unfolding_all rfl))
  (Č (PS.wk (eN (nj PySem.F.plainAttrs_list PySem.F.slot_list_append PySem.F.type_list_append bG (pv 1) (ą (v_var 2) ĝ))) fun _ _ _ h=>jz h))
  ĳ)))
  (Č (Ġ (fH 1)))))
theorem ZaK(T:Tx K mg a):Ķ P w K mg base (ų P w) 1 a.JB a.JC ["one","other"] (ż ⟨K,ı a⟩ 2 sy):=by
 refine aL (cm:=ı a) (mb:=zZ) T.Ut Bs rfl rfl rfl fun cdv A outer s H E hr=>?_
 have hu:=hr.units
 exact(ĉ (İ (i:=2) Bs.nd rfl (Or.inl rfl) (Ĳ (ď ő Ő (ā (ğ Ď č (Ă 1) (ā ă) (fun _ _=>rfl))) (ā (ğ Ď č (Ă 0) (ā ă) (fun _ _=>rfl))))))
  (ĉ (İ (i:=3) Bs.nd rfl (Or.inl rfl) (Ĳ (ď ő Ő (ā (ğ Ď č (Ă 0) (ā ă) (fun _ _=>rfl))) (ā (ğ Ď č (Ă 1) (ā ă) (fun _ _=>rfl))))))
  (Č (Ġ (Ĳ (Ĺ (ą (v_var 2) (ą (v_var 3) (ą (ģ (ņ ĵ Ĵ (ā (ď ī Ģ (Ă 2) (ā (ğ Ď č (Ă 0) (ā ă) (fun _ _=>rfl))))) (ā (ď ī Ģ (Ă 3) (ā (ğ Ď č (Ă 0) (ā ă) (fun _ _=>rfl))))))) ĝ)))))))))
theorem OD(T:Tx K mg a):Ķ P w K mg base (ų P w) 1 a.JD a.JF ["line","pair"] (ż ⟨K,ı a⟩ 2 iR):=by
 refine aL (cm:=ı a) (mb:=z_) T.Nm Zam rfl rfl rfl fun cdv A outer s H E hr=>?_
 have hu:=hr.units
 exact(Č (Ġ (Ĳ (bW jB jr (ā (ģ (ņ ĵ Ĵ (ā (ď ī Ģ (ā (ğ Ď č (Ă 0) (ā ă) (fun _ _=>rfl))) (ā (ğ Ď č (Ă 1) (ā ă) (fun _ _=>rfl))))) (ā (ď ī Ģ (ā (ğ Ď č (Ă 0) (ā ă) (fun _ _=>rfl))) (ā (ğ Ď č (Ă 1) (ā ă) (fun _ _=>rfl)))))))) (ā (ğ Ď č (Ă 0) (ā ă) (fun _ _=>rfl))) (ħ _)))))
theorem ZaL(T:Tx K mg a):Ķ P w K mg base (ų P w) 2 a.JG a.JH ["points"] (ż ⟨K,ı a⟩ 1 sE):=by
 refine aL (cm:=ı a) (mb:=Aa) T.Uv kY rfl rfl rfl fun cdv A outer s H E hr=>?_
 have hu:=hr.units
 exact(ĉ (İ (i:=1) kY.nd rfl (Or.inl rfl) (Ũ ĝ))
  (ĉ (İ (i:=2) kY.nd rfl (Or.inl rfl) (Ĕ (ZaJ T) ċ (hr.mono (by decide)) rfl T.su T.Us.kp T.Zdr Ħ (ć 0 (hr:=đ))))
  (ĉ (aW PassesOwn.leaving rfl (aM 2) (Ĝ (i:=3) kY.nd rfl (Or.inl rfl))
  (Č (aW PassesOwn.leaving rfl (aM 2) (Ĝ (i:=4) kY.nd rfl (Or.inl rfl))
  (ĉ (İ (i:=5) kY.nd rfl (by first|exact Or.inl rfl|exact Or.inr rfl) (Ĕ (ZaK T) ċ (hr.mono (by decide)) rfl T.sy T.Ut.kp T.Zds Ħ (ć 3 (hr:=(ć 4 (hr:=đ))))))
  (Č (Ś (PW.pt (w_and (Ŀ cN (aH hu) (Ă 3) (Ă 4) (ħ _)) (je (aV (ā (PE.wk (ĩ (jW rfl) (by rfl) T.sV PyProof.Rows.boot_all (Ğ (ā (ģ (Ŝ ["line","point"] [5] 1 (Ċ rG) rfl rfl (aM 2) (fun _ _ _ _ _=>(Ĝ (i:=1) (show(["line","point"]:List Str).Nodup by decide +kernel) rfl (Or.inl rfl) (hf:=Or.inr rfl))) (fun _ _ _ _ _=>ŕ) (fun _ _ _ _ _=>(ģ (Ĕ (OD T) ċ (hr.mono (by decide)) rfl T.iR T.Nm.kp T.Uu aO (ć 0 (hr:=(ć 1 (hr:=đ))))))) ⟨rfl,⟨rfl,Or.inl rfl⟩,trivial⟩))) Ĭ)) fun _ _ _ h=>š jY h))))))
  (Č (PS.wk (eN (nj PySem.F.plainAttrs_list PySem.F.slot_list_append PySem.F.type_list_append bG (pv 1) (ą (v_var 5) ĝ))) fun _ _ _ h=>jz h))
  ĳ))))))
  (Č (Ġ (fH 1))))))
theorem OJ(T:Tx K mg a):Ķ P w K mg base (ų P w) 3 a.JK a.JL ["points"] (ż ⟨K,ı a⟩ 1 lJ):=by
 refine aL (cm:=ı a) (mb:=Ab) T.Np Zan rfl rfl rfl fun cdv A outer s H E hr=>?_
 have hu:=hr.units
 exact(Č (Ġ (ņ ĵ Ĵ (ā (ģ (Ĕ (ZaI T) ċ (hr.mono (by decide)) rfl T.rZ T.Ur.kp T.Zdq Ħ (ć 0 (hr:=đ))))) (ā (ģ (Ĕ (ZaL T) ċ (hr.mono (by decide)) rfl T.sE T.Uv.kp T.Zdt Ħ (ć 0 (hr:=đ))))))))
theorem O_(T:Tx K mg a):Ķ P w K mg base (ų P w) 1 a.JM a.JN ["point","ray"] (ż ⟨K,ı a⟩ 2 iU):=by
 refine aL (cm:=ı a) (mb:=Ac) T.Nq Zao rfl rfl rfl fun cdv A outer s H E hr=>?_
 have hu:=hr.units
 exact(Č (Ġ (Ĳ (Ĺ (ą (ģ (ņ ĵ Ĵ (ā (ď ī Ģ (ā (ğ Ď č (Ă 1) (ā ă) (fun _ _=>rfl))) (ā (ğ Ď č (Ă 0) (ā ă) (fun _ _=>rfl))))) (ā (ď ī Ģ (ā (ğ Ď č (Ă 1) (ā ă) (fun _ _=>rfl))) (ā (ğ Ď č (Ă 0) (ā ă) (fun _ _=>rfl))))))) (ą (ģ (ņ ĵ Ĵ (ā (ď ī Ģ (ā (ğ Ď č (Ă 1) (ā ă) (fun _ _=>rfl))) (ā (ğ Ď č (Ă 0) (ā ă) (fun _ _=>rfl))))) (ā (ď ī Ģ (ā (ğ Ď č (Ă 1) (ā ă) (fun _ _=>rfl))) (ā (ğ Ď č (Ă 0) (ā ă) (fun _ _=>rfl))))))) ĝ))))))
theorem Pa(T:Tx K mg a):Ķ P w K mg base (ų P w) 1 a.Yu a.Yw ["x","y","u","v","z"] (ż ⟨K,ı a⟩ 5 qw):=by
 refine aL (cm:=ı a) (mb:=Jh) T.SJ Zd3 rfl rfl rfl fun cdv A outer s H E hr=>?_
 have hu:=hr.units
 exact(Č (Ġ (Ũ (ą (Ĺ (ą (v_var 0) (ą (v_var 1) (ą (v_var 4) ĝ)))) (ą (Ĺ (ą (v_var 2) (ą (v_var 1) (ą (v_var 4) ĝ)))) (ą (Ĺ (ą (v_var 2) (ą (v_var 3) (ą (v_var 4) ĝ)))) (ą (Ĺ (ą (v_var 0) (ą (v_var 3) (ą (v_var 4) ĝ)))) ĝ)))))))
theorem VL(T:Tx K mg a):Ķ P w K mg base (ų P w) 2 a.Yx a.Yy ["x","y","u","v","h"] (ż ⟨K,ı a⟩ 5 yr):=by
 refine aL (cm:=ı a) (mb:=Ji) T.Y_ Zd4 rfl rfl rfl fun cdv A outer s H E hr=>?_
 have hu:=hr.units
 exact(Č (Ġ (ņ ĵ Ĵ (ā (ģ (Ĕ (Pa T) ċ (hr.mono (by decide)) rfl T.qw T.SJ.kp T.YZ Ħ (ć 0 (hr:=(ć 1 (hr:=(ć 2 (hr:=(ć 3 (hr:=(ĕ ă đ)))))))))))) (ā (ģ (Ĕ (Pa T) ċ (hr.mono (by decide)) rfl T.qw T.SJ.kp T.YZ Ħ (ć 0 (hr:=(ć 1 (hr:=(ć 2 (hr:=(ć 3 (hr:=(ć 4 (hr:=đ))))))))))))))))
theorem ZaM(T:Tx K mg a):Ķ P w K mg base (ų P w) 3 a.JQ a.JR ["self"] (ż ⟨K,ı a⟩ 1 lK):=by
 refine aL (cm:=ı a) (mb:=Ad) T.Zdv Bt rfl rfl rfl fun cdv A outer s H E hr=>?_
 have hu:=hr.units
 exact(ĉ (İ (i:=1) Bt.nd rfl (Or.inl rfl) (Ĳ (ď ī Ģ (ā ă) (ā (ğ Ď č (ā (cO ["Thing","Post","Fence","Sail","Cloth","House"] ⟨⟨T.ŭ,T.ĺ⟩,⟨⟨T.Ÿ,T.Ł⟩,⟨⟨T.ť,T.Ļ⟩,⟨⟨T.Ź,T.ł⟩,⟨⟨T.Ŧ,T.ļ⟩,⟨⟨T.ŧ,T.Ľ⟩,trivial⟩⟩⟩⟩⟩⟩ (Ă 0))) (ā ă) (fun _ _=>rfl))))))
  (ĉ (İ (i:=2) Bt.nd rfl (Or.inl rfl) (Ĳ (ď ī Ģ (ā ă) (ā (ğ Ď č (ā (cO ["Thing","Post","Fence","Sail","Cloth","House"] ⟨⟨T.ŭ,T.ĺ⟩,⟨⟨T.Ÿ,T.Ł⟩,⟨⟨T.ť,T.Ļ⟩,⟨⟨T.Ź,T.ł⟩,⟨⟨T.Ŧ,T.ļ⟩,⟨⟨T.ŧ,T.Ľ⟩,trivial⟩⟩⟩⟩⟩⟩ (Ă 0))) (ā ă) (fun _ _=>rfl))))))
  (Č (Ġ (Ĕ (VL T) ċ (hr.mono (by decide)) rfl T.yr T.Y_.kp T.Zdu Ħ (ĕ (ď ő Ő (Ă 1) (ā ă)) (ĕ (ď ő Ő (Ă 2) (ā ă)) (ĕ (ģ (ņ ĵ Ĵ (Ă 1) (ā ă))) (ĕ (ģ (ņ ĵ Ĵ (Ă 2) (ā ă))) (ĕ (ğ Ď č (ā (cO ["Thing","Post","Fence","Sail","Cloth","House"] ⟨⟨T.ŭ,T.ĺ⟩,⟨⟨T.Ÿ,T.Ł⟩,⟨⟨T.ť,T.Ļ⟩,⟨⟨T.Ź,T.ł⟩,⟨⟨T.Ŧ,T.ļ⟩,⟨⟨T.ŧ,T.Ľ⟩,trivial⟩⟩⟩⟩⟩⟩ (Ă 0))) (ā ă) (fun _ _=>rfl)) đ))))))))))
theorem Zd8(T:Tx K mg a):Ķ P w K mg base (ų P w) 1 a.Yz a.YB ["self"] (ż ⟨K,ı a⟩ 1 yu):=by
 refine aL (cm:=ı a) (mb:=Jj) T.ZkY Du rfl rfl rfl fun cdv A outer s H E hr=>?_
 have hu:=hr.units
 exact(ĉ (İ (i:=1) Du.nd rfl (Or.inl rfl) (Ĳ (cO ["Thing","Post","Fence","Sail","Cloth","House"] ⟨⟨T.ŭ,T.ĺ⟩,⟨⟨T.Ÿ,T.Ł⟩,⟨⟨T.ť,T.Ļ⟩,⟨⟨T.Ź,T.ł⟩,⟨⟨T.Ŧ,T.ļ⟩,⟨⟨T.ŧ,T.Ľ⟩,trivial⟩⟩⟩⟩⟩⟩ (Ă 0))))
  (ĉ (İ (i:=2) Du.nd rfl (Or.inl rfl) (Ĳ (Ĺ (ą (ğ Ď č (Ă 1) (ā ă) (fun _ _=>rfl)) (ą (ğ Ď č (Ă 1) (ā ă) (fun _ _=>rfl)) ĝ)))))
  (ĉ (İ (i:=3) Du.nd rfl (Or.inl rfl) (Ĳ (Ĺ (ą (ğ Ď č (Ă 1) (ā ă) (fun _ _=>rfl)) (ą (ğ Ď č (Ă 1) (ā ă) (fun _ _=>rfl)) ĝ)))))
  (Č (Ġ (Ũ (ą (ģ (ņ ĵ Ĵ (Ă 2) (ā (Ĺ (ą ă ĝ))))) (ą (ģ (ņ ĵ Ĵ (Ă 3) (ā (Ĺ (ą ă ĝ))))) (ą (ģ (ņ ĵ Ĵ (Ă 3) (ā (Ĺ (ą (ğ Ď č (Ă 1) (ā ă) (fun _ _=>rfl)) ĝ))))) (ą (ģ (ņ ĵ Ĵ (Ă 2) (ā (Ĺ (ą (ğ Ď č (Ă 1) (ā ă) (fun _ _=>rfl)) ĝ))))) ĝ))))))))))
theorem ZaN(T:Tx K mg a):Ķ P w K mg base (ų P w) 2 a.JT a.JV ["self"] (ż ⟨K,ı a⟩ 1 lM):=by
 refine aL (cm:=ı a) (mb:=Ae) T.Zdx Oj rfl rfl rfl fun cdv A outer s H E hr=>?_
 have hu:=hr.units
 exact(ĉ (İ (i:=1) Oj.nd rfl (Or.inl rfl) (Ĳ (cO ["Thing","Post","Fence","Sail","Cloth","House"] ⟨⟨T.ŭ,T.ĺ⟩,⟨⟨T.Ÿ,T.Ł⟩,⟨⟨T.ť,T.Ļ⟩,⟨⟨T.Ź,T.ł⟩,⟨⟨T.Ŧ,T.ļ⟩,⟨⟨T.ŧ,T.Ľ⟩,trivial⟩⟩⟩⟩⟩⟩ (Ă 0))))
  (Č (Ġ (Ĕ (Pa T) ċ (hr.mono (by decide)) rfl T.qw T.SJ.kp T.YZ Ħ (ĕ (ğ Ď č (Ă 1) (ā ă) (fun _ _=>rfl)) (ĕ (ğ Ď č (Ă 1) (ā ă) (fun _ _=>rfl)) (ĕ (ğ Ď č (Ă 1) (ā ă) (fun _ _=>rfl)) (ĕ (ğ Ď č (Ă 1) (ā ă) (fun _ _=>rfl)) (ĕ (ğ Ď č (Ă 1) (ā ă) (fun _ _=>rfl)) đ)))))))))
theorem ZaO(T:Tx K mg a):Ķ P w K mg base (ų P w) 1 a.JW a.JX ["self"] (ż ⟨K,ı a⟩ 1 lN):=by
 refine aL (cm:=ı a) (mb:=Af) T.Zdz Zap rfl rfl rfl fun cdv A outer s H E hr=>?_
 have hu:=hr.units
 exact(@Č _ _ _ _ _ (@Ġ _ _ _ _ _ _ (Ŝ ["self","place"] [0] 1 (Ċ rH) rfl rfl (@cL _ _ _ _ _ _ (@Ĺ _ _ _ _ _ _ _ (@ą _ _ _ _ _ _ _ (@ă _ _ _ _ _ _) (@ą _ _ _ _ _ _ _ (@ă _ _ _ _ _ _) (@ą _ _ _ _ _ _ _ (@ă _ _ _ _ _ _) (@ĝ _ _ _) (by exact ř rfl)) (by exact ř rfl)) (by exact ř rfl)))) (fun _ _ _ _ _=>(@Ĝ _ _ _ 1 _ (show(["self","place"]:List Str).Nodup by decide +kernel) rfl (Or.inl rfl) (Or.inr rfl))) (fun _ _ _ _ _=>(@ŕ _ _ _)) (fun _ _ _ _ _=>(@PE.wk _ _ _ _ (ş nP (by rfl) T.iw PyProof.Rows.boot_tuple (@Ğ _ _ _ _ _ _ _ (@ā _ _ _ _ _ (@ģ _ _ _ _ _ (@cV _ _ _ _ _ _ _ _ _ _ _ (@ā _ _ _ _ _ (@cO _ _ _ _ _ _ _ ["Thing","Post","Fence","Sail","Cloth","House"] ⟨⟨T.ŭ,T.ĺ⟩,⟨⟨T.Ÿ,T.Ł⟩,⟨⟨T.ť,T.Ļ⟩,⟨⟨T.Ź,T.ł⟩,⟨⟨T.Ŧ,T.ļ⟩,⟨⟨T.ŧ,T.Ľ⟩,trivial⟩⟩⟩⟩⟩⟩ (@Ă _ _ _ 0 _ _ (by rfl) (by first|exact Or.inl rfl|exact Or.inr (Or.inl rfl)|exact Or.inr (Or.inr rfl)) (by decide) (by decide)) (by rfl))) (@aX _ _ _ _ _ (@v_var _ _ _ 1 _ _ (by rfl) (by first|exact Or.inl rfl|exact Or.inr (Or.inl rfl)|exact Or.inr (Or.inr rfl)) (by decide) (by decide))) (@aX _ _ _ _ _ (@ģ _ _ _ _ _ (@ņ _ _ _ _ _ _ _ _ _ _ _ (@ĵ _) (@Ĵ _) (@Ă _ _ _ 1 _ _ (by rfl) (by first|exact Or.inl rfl|exact Or.inr (Or.inl rfl)|exact Or.inr (Or.inr rfl)) (by decide) (by decide)) (@ā _ _ _ _ _ (@ă _ _ _ _ _ _)))))))) (@Ĭ _ _ _) (by exact ř rfl))) (fun _ _ _ h=> @š _ _ _ _ _ _ (@nQ _) _ _ _ h))) ⟨rfl,⟨rfl,Or.inl rfl⟩,trivial⟩)))
theorem ZaP(T:Tx K mg a):Ķ P w K mg base (ų P w) 3 a.JZ a.J_ ["self"] (ż ⟨K,ı a⟩ 1 lO):=by
 refine aL (cm:=ı a) (mb:=Ag) T.ZdB Ol rfl rfl rfl fun cdv A outer s H E hr=>?_
 have hu:=hr.units
 exact(ĉ (İ (i:=1) Ol.nd rfl (Or.inl rfl) (Ĳ (cO ["Thing","Post","Fence","Sail","Cloth","House"] ⟨⟨T.ŭ,T.ĺ⟩,⟨⟨T.Ÿ,T.Ł⟩,⟨⟨T.ť,T.Ļ⟩,⟨⟨T.Ź,T.ł⟩,⟨⟨T.Ŧ,T.ļ⟩,⟨⟨T.ŧ,T.Ľ⟩,trivial⟩⟩⟩⟩⟩⟩ (Ă 0))))
  (Č (Ġ (Ĕ (VL T) ċ (hr.mono (by decide)) rfl T.yr T.Y_.kp T.Zdu Ħ (ĕ (ğ Ď č (Ă 1) (ā ă) (fun _ _=>rfl)) (ĕ (ğ Ď č (Ă 1) (ā ă) (fun _ _=>rfl)) (ĕ (ğ Ď č (Ă 1) (ā ă) (fun _ _=>rfl)) (ĕ (ğ Ď č (Ă 1) (ā ă) (fun _ _=>rfl)) (ĕ (ğ Ď č (Ă 1) (ā ă) (fun _ _=>rfl)) đ)))))))))
theorem Pb(T:Tx K mg a):Ķ P w K mg base (ų P w) 4 a.Ka a.Kc ["thing","ray"] (ż ⟨K,ı a⟩ 2 jF):=by
 refine aL (cm:=ı a) (mb:=Ah) T.Nr Zaq rfl rfl rfl fun cdv A outer s H E hr=>?_
 have hu:=hr.units
 exact(Č (Ġ (Ŝ ["ray","corner"] [1] 1 (Ċ rJ) rfl rfl (Uk (cL (ģ (Rz (Qd:= "corners") (k:=3) (n:=1) (pY:=[("Post",lK),("Fence",yu),("Sail",lM),("Cloth",lN),("House",lO)]) ⟨⟨T.Ÿ,_,_,_,T.pL,(ZaM T).mono (by decide),T.Zdw,ċ⟩,⟨⟨T.ť,_,_,_,T.mH,(Zd8 T).mono (by decide),T.ZkZ,ċ⟩,⟨⟨T.Ź,_,_,_,T.pN,(ZaN T).mono (by decide),T.Zdy,ċ⟩,⟨⟨T.Ŧ,_,_,_,T.mJ,(ZaO T).mono (by decide),T.ZdA,ċ⟩,⟨⟨T.ŧ,_,_,_,T.mK,(ZaP T).mono (by decide),T.ZdC,ċ⟩,trivial⟩⟩⟩⟩⟩ (hr.mono (by decide)) aO (v_var 0))))) (fun _ _ _ _ _=>(Ĝ (i:=1) (show(["ray","corner"]:List Str).Nodup by decide +kernel) rfl (Or.inl rfl) (hf:=Or.inr rfl))) (fun _ _ _ _ _=>ŕ) (fun _ _ _ _ _=>(ģ (Ĕ (O_ T) ċ (hr.mono (by decide)) rfl T.iU T.Nq.kp T.Ux aO (ć 1 (hr:=(ć 0 (hr:=đ))))))) ⟨rfl,⟨rfl,Or.inl rfl⟩,trivial⟩)))
theorem Pg(T:Tx K mg a):Ķ P w K mg base (ų P w) 1 a.Kd a.Ke ["first","last"] (ż ⟨K,ı a⟩ 2 jG):=by
 refine aL (cm:=ı a) (mb:=uG) T.Nt Zar rfl rfl rfl fun cdv A outer s H E hr=>?_
 have hu:=hr.units
 exact(ĉ (Ś (Ŀ jA jq (Ă 1) (Ă 0) (ħ _))
  (Č (Ġ (Ĳ ă)))
  ĳ)
  (Č (Ġ (Ĳ (ď ő Ő (ā (ď nF nH (ā ă) (ā (ģ (ņ ĵ Ĵ (Ă 1) (ā ă)))))) (ā (ď nF nH (ā ă) (Ă 0))))))))
theorem ZaQ(T:Tx K mg a):Ķ P w K mg base (ų P w) 2 a.Kf a.Kg ["lines","unit","q","width"] (ż ⟨K,ı a⟩ 4 oN):=by
 refine aL (cm:=ı a) (mb:=uH) T.UG dB rfl rfl rfl fun cdv A outer s H E hr=>?_
 have hu:=hr.units
 exact(ĉ (İ (i:=4) dB.nd rfl (Or.inl rfl) (Ĳ ă))
  (ĉ (İ (i:=5) dB.nd rfl (Or.inl rfl) (Ĳ (ď ő Ő (Ă 3) (ā ă))))
  (ĉ (aW PassesOwn.leaving rfl (aM 0) (nC rfl (Į (Ĝ (i:=6) dB.nd rfl (Or.inl rfl)) (Į (Ĝ (i:=7) dB.nd rfl (Or.inl rfl)) (Į (Ĝ (i:=8) dB.nd rfl (Or.inl rfl)) aK))))
  (ĉ (İ (i:=9) dB.nd rfl (Or.inl rfl) (Ĳ (ď ī Ģ (Ă 6) (Ă 1))))
  (ĉ (İ (i:=10) dB.nd rfl (Or.inl rfl) (Ĳ (ď ő Ő (Ă 8) (ā (ď ī Ģ (ā (ď ī Ģ (Ă 7) (Ă 1))) (Ă 2))))))
  (Č (Ś (Ŀ Uc Tz (Ă 9) (ā ă) (ħ _))
  (Č (İ (i:=5) dB.nd rfl (Or.inl rfl) (Ĳ (PE.wk (ĩ (tQ rfl) (by rfl) T.yH PyProof.Rows.boot_min (Ğ (Ă 5) (Ğ (ā (ď ŷ Ť (Ă 10) (Ă 9))) Ĭ))) fun _ _ _ h=>š ud h))))
  (Č (Ś (Ŀ jA jq (Ă 9) (ā ă) (ħ _))
  (Č (İ (i:=4) dB.nd rfl (Or.inl rfl) (Ĳ (PE.wk (ĩ (QL rfl) (by rfl) T.Dt PyProof.Rows.boot_max (Ğ (Ă 4) (Ğ (ā (vN gC fY (ā (ď ŷ Ť (Ă 10) (ā (vN gC fY (Ă 9))))))) Ĭ))) fun _ _ _ h=>š Rx h))))
  (Č (Ś (Ŀ jA jq (Ă 10) (ā ă) (ħ _))
  (Č (Ġ (Ĳ ă)))
  ĳ)))))))))
  (Č (Ġ (Ĕ (Pg T) ċ (hr.mono (by decide)) rfl T.jG T.Nt.kp T.Uz Ħ (ć 4 (hr:=(ć 5 (hr:=đ))))))))))
theorem Ph(T:Tx K mg a):Ķ P w K mg base (ų P w) 5 a.Kh a.Kl ["yard","thing","ray"] (ż ⟨K,ı a⟩ 3 gG):=by
 refine aL (cm:=ı a) (mb:=Ai) T.Nu pO rfl rfl rfl fun cdv A outer s H E hr=>?_
 have hu:=hr.units
 exact(ĉ (İ (i:=3) pO.nd rfl (Or.inl rfl) (Ĕ (OJ T) ċ (hr.mono (by decide)) rfl T.lJ T.Np.kp T.Uw Ħ (ĕ (ģ (Ĕ (Pb T) ċ (hr.mono (by decide)) rfl T.jF T.Nr.kp T.Uy Ħ (ć 1 (hr:=(ć 2 (hr:=đ)))))) đ)))
  (ĉ (İ (i:=4) pO.nd rfl (Or.inl rfl) (Ĳ ă))
  (ĉ (aW PassesOwn.leaving rfl (ţ rfl T.Ŵ (ą (cO ["Yard"] ⟨⟨T.bV,T.bK⟩,trivial⟩ (Ă 0)) ĝ)) (Ĝ (i:=5) pO.nd rfl (Or.inl rfl))
  (Č (Ip (i:=4) pO.nd rfl (Or.inl rfl) (ď nF nH (ā (ģ (Ĕ (ZaQ T) ċ (hr.mono (by decide)) rfl T.oN T.UG.kp T.ZdD Ħ (ć 3 (hr:=(ĕ (ď ī Ģ (ā ă) (ā (ğ Ď č (Ă 2) (ā ă) (fun _ _=>rfl)))) (ć 5 (hr:=(ĕ (cO ["Yard"] ⟨⟨T.bV,T.bB⟩,trivial⟩ (Ă 0)) đ))))))))) (ā (ď ī Ģ (Ă 5) (ā (cO ["Yard"] ⟨⟨T.bV,T.bB⟩,trivial⟩ (Ă 0)))))))))
  (Č (Ġ (fH 4))))))
theorem VN(T:Tx K mg a):Ķ P w K mg base (ų P w) 6 a.YC a.YD ["yard","ray"] (ż ⟨K,ı a⟩ 2 yx):=by
 refine aL (cm:=ı a) (mb:=Jk) T.Z_ Zd5 rfl rfl rfl fun cdv A outer s H E hr=>?_
 have hu:=hr.units
 exact(Č (Ġ (Ŝ ["yard","ray","thing"] [0,1] 1 (Ċ Fe) rfl rfl (cL (cO ["Yard"] ⟨⟨T.bV,T.iY⟩,trivial⟩ (Ă 0))) (fun _ _ _ _ _=>(Ĝ (i:=2) (show(["yard","ray","thing"]:List Str).Nodup by decide +kernel) rfl (Or.inl rfl) (hf:=Or.inr rfl))) (fun _ _ _ _ _=>ŕ) (fun _ _ _ _ _=>(ģ (Ĕ (Ph T) ċ (hr.mono (by decide)) rfl T.gG T.Nu.kp T.UJ aO (ć 0 (hr:=(ć 2 (hr:=(ć 1 (hr:=đ))))))))) ⟨rfl,⟨rfl,Or.inl rfl⟩,⟨rfl,⟨rfl,Or.inl rfl⟩,trivial⟩⟩)))
theorem ZaR(T:Tx K mg a):Ķ P w K mg base (ų P w) 7 a.Km a.Ko ["yard","turn"] (ż ⟨K,ı a⟩ 2 iV):=by
 refine aL (cm:=ı a) (mb:=uJ) T.UL vB rfl rfl rfl fun cdv A outer s H E hr=>?_
 have hu:=hr.units
 exact(ĉ (Ś (Ŀ Ht yW (Ă 1) (ā qP) (ħ _))
  (Č (Ġ (Ĕ (Pg T) ċ (hr.mono (by decide)) rfl T.jG T.Nt.kp T.Uz Ħ (ĕ ă (ĕ (ď ő Ő (ā (ď ī Ģ (ā (cO ["Yard"] ⟨⟨T.bV,T.bB⟩,trivial⟩ (Ă 0))) (ā (cO ["Yard"] ⟨⟨T.bV,T.bK⟩,trivial⟩ (Ă 0))))) (ā ă)) đ)))))
  ĳ)
  (ĉ (İ (i:=2) vB.nd rfl (Or.inl rfl) (Ĳ ă))
  (ĉ (aW PassesOwn.leaving rfl (cL (ģ (Ĕ (VN T) ċ (hr.mono (by decide)) rfl T.yx T.Z_.kp T.ZdE Ħ (ć 0 (hr:=(ć 1 (hr:=đ))))))) (Ĝ (i:=3) vB.nd rfl (Or.inl rfl))
  (Č (Ip (i:=2) vB.nd rfl (Or.inl rfl) (v_var 3))))
  (Č (Ġ (fH 2))))))
theorem ZaS(T:Tx K mg a):Ķ P w K mg base (ų P w) 1 a.Kp a.Kq ["sets","number"] (ż ⟨K,ı a⟩ 2 lQ):=by
 refine aL (cm:=ı a) (mb:=uL) T.UW Bu rfl rfl rfl fun cdv A outer s H E hr=>?_
 have hu:=hr.units
 exact(ĉ (aW PassesOwn.leaving rfl (Yl rfl T.yG (Zc9 0)) (nC rfl (Į (Ĝ (i:=2) Bu.nd rfl (Or.inl rfl)) (Į (Ĝ (i:=3) Bu.nd rfl (Or.inl rfl)) aK)))
  (Č (Ś (aV (ā (ď Rr Rt (ā (ď Ho Hq (Ă 3) (Ă 1))) (ā ă))))
  (Č (Ġ (fH 2)))
  ĳ)))
  (Č (Ġ (Ĳ qP))))
theorem ZaT(T:Tx K mg a):Ķ P w K mg base (ų P w) 7 a.Kr a.Ks ["yard","ray"] (ż ⟨K,ı a⟩ 2 oO):=by
 refine aL (cm:=ı a) (mb:=Ak) T.U_ Om rfl rfl rfl fun cdv A outer s H E hr=>?_
 have hu:=hr.units
 exact(ĉ (İ (i:=2) Om.nd rfl (by first|exact Or.inl rfl|exact Or.inr rfl) (Ĕ (VN T) ċ (hr.mono (by decide)) rfl T.yx T.Z_.kp T.ZdE Ħ (ć 0 (hr:=(ć 1 (hr:=đ))))))
  (Č (Ġ (Ŝ ["sets","number"] [2] 1 (Ċ rK) rfl rfl (ţ rfl T.Ŵ (ą (ď ī Ģ (ā (cO ["Yard"] ⟨⟨T.bV,T.bB⟩,trivial⟩ (Ă 0))) (ā (cO ["Yard"] ⟨⟨T.bV,T.bK⟩,trivial⟩ (Ă 0)))) ĝ)) (fun _ _ _ _ _=>(Ĝ (i:=1) (show(["sets","number"]:List Str).Nodup by decide +kernel) rfl (Or.inl rfl) (hf:=Or.inr rfl))) (fun _ _ _ _ _=>ŕ) (fun _ _ _ _ _=>(ģ (Ĕ (ZaS T) ċ (hr.mono (by decide)) rfl T.lQ T.UW.kp T.ZdG aO (ć 0 (hr:=(ć 1 (hr:=đ))))))) ⟨rfl,⟨rfl,Or.inl rfl⟩,trivial⟩))))
theorem Pj(T:Tx K mg a):Ķ P w K mg base (ų P w) 1 a.Ku a.Kv ["_law_script","_law_k"] (ż ⟨K,ı a⟩ 2 dg):=by
 refine aL (cm:=ı a) (mb:=uM) T.Nv Zas rfl rfl rfl fun cdv A outer s H E hr=>?_
 have hu:=hr.units
 exact(ĉ (Ś (Ŀ jA jq (Ă 1) (ā (PE.wk (ĩ aD (by rfl) T.cj PySem.boot_len (Ğ (Ă 0) Ĭ)) fun _ _ _ h=>š aF h)) (ħ _))
  (Č (Ġ (Ĳ (ğ Ď č (Ă 0) (Ă 1) (fun _ _=>rfl)))))
  ĳ)
  (Č (Ġ (Ĳ ă))))
theorem Pk(T:Tx K mg a):Ķ P w K mg base (ų P w) 1 a.Kw a.Ky ["_law_number"] (ż ⟨K,ı a⟩ 1 jH):=by
 refine aL (cm:=ı a) (mb:=uN) T.Nx Zat rfl rfl rfl fun cdv A outer s H E hr=>?_
 have hu:=hr.units
 exact(ĉ (Ś (Ŀ Ş (ŋ hu) (ā (ď Ŏ ō (ā (ď ŷ Ť (Ă 0) (ā ă))) (ā ă))) (ā ă) (ħ _))
  (Č (Ġ (ņ ĵ Ĵ (ā ă) (ā (ď Ŏ ō (ā (ď ī Ģ (Ă 0) (ā ă))) (ā (ď tZ tM (ā ă) (ā ă))))))))
  ĳ)
  (Č (Ġ (ņ ĵ Ĵ (ā ă) (ā (ď Ŏ ō (Ă 0) (ā ă)))))))
theorem pU(T:Tx K mg a):Ķ P w K mg base (ų P w) 1 a.Kz a.KC ["_law_number","_law_wide"] (ż ⟨K,ı a⟩ 2 bZ):=by
 refine aL (cm:=ı a) (mb:=uO) T.sO Zau rfl rfl rfl fun cdv A outer s H E hr=>?_
 have hu:=hr.units
 exact(ĉ (Ś (Ŀ Ş (ŋ hu) (ā (ď Ŏ ō (ā (ď ŷ Ť (Ă 0) (ā ă))) (ā ă))) (ā ă) (ħ _))
  (Č (Ġ (ņ ĵ Ĵ (ā (ď ő Ő (ā (ď Ŏ ō (ā (ď ī Ģ (Ă 0) (ā ă))) (ā (ď ő Ő (ā (ď ī Ģ (ā ă) (ā (ď tZ tM (ā ă) (ā ă))))) (ā ă))))) (ā (ď tZ tM (ā ă) (ā ă))))) (ā ă))))
  ĳ)
  (Č (Ġ (Ĳ (ď ő Ő (ā (ď Ŏ ō (Ă 0) (ā (ģ (ņ ĵ Ĵ (ā (ď ī Ģ (ā ă) (Ă 1))) (ā ă)))))) (ā ă))))))
theorem ZaU(T:Tx K mg a):Ķ P w K mg base (ų P w) 2 a.KD a.KH ["_law_cell","_law_wide"] (ż ⟨K,ı a⟩ 2 dW):=by
 refine aL (cm:=ı a) (mb:=jh) T.Vc gM rfl rfl rfl fun cdv A outer s H E hr=>?_
 have hu:=hr.units
 exact(ĉ (İ (i:=2) gM.nd rfl (by first|exact Or.inl rfl|exact Or.inr rfl) (Ĕ (Ox T) ċ (hr.mono (by decide)) rfl T.gF T.Nk.kp T.Uo Ħ (ć 0 (hr:=(ĕ ă đ)))))
  (ĉ (lE (ģ (Ŝ ["_law_wide","_law_xs","_law_k"] [1,2] 1 (Ċ rM) rfl rfl (ţ rfl T.Ŵ (ą ă ĝ)) (fun _ _ _ _ _=>(Ĝ (i:=2) (show(["_law_wide","_law_xs","_law_k"]:List Str).Nodup by decide +kernel) rfl (Or.inl rfl) (hf:=Or.inr rfl))) (fun _ _ _ _ _=>ŕ) (fun _ _ _ _ _=>(ģ (Ĕ (pU T) ċ (hr.mono (by decide)) rfl T.bZ T.sO.kp T.yD aO (ĕ (ğ Ď č (Ă 1) (Ă 2) (fun _ _=>rfl)) (ć 0 (hr:=đ)))))) ⟨rfl,⟨rfl,Or.inl rfl⟩,⟨rfl,⟨rfl,Or.inl rfl⟩,trivial⟩⟩)) (lG rfl (Į (Ĝ (i:=5) gM.nd rfl (Or.inl rfl)) (Į (Ĝ (i:=6) gM.nd rfl (Or.inl rfl)) aK))))
  (ĉ (İ (i:=3) gM.nd rfl (Or.inl rfl) (Ĕ (Pk T) ċ (hr.mono (by decide)) rfl T.jH T.Nx.kp T.Vb Ħ (ĕ (ğ Ď č (Ă 2) (ā ă) (fun _ _=>rfl)) đ)))
  (ĉ (İ (i:=4) gM.nd rfl (Or.inl rfl) (Ĳ (ď Ŏ ō (ā (ğ Ď č (Ă 2) (ā ă) (fun _ _=>rfl))) (ā ă))))
  (ĉ (Ś (Ŀ Ş (ŋ hu) (Ă 4) (ā ă) (ħ _))
  (Č (Ġ (Ĳ (Ĺ (ą Ż (ą (ģ (Ũ (ą (ď ŷ Ť (Ă 5) (ā ă)) (ą (ď ŷ Ť (Ă 6) (ā ă)) (ą (v_var 3) ĝ))))) ĝ))))))
  ĳ)
  (ĉ (Ś (Ŀ Ş (ŋ hu) (Ă 4) (ā ă) (ħ _))
  (ĉ (lE (ģ (Ũ (ą (ď ő Ő (ā (ģ (ņ ĵ Ĵ (Ă 5) (ā (ď Ŏ ō (ā (ğ Ď č (Ă 2) (ā ă) (fun _ _=>rfl))) (ā ă)))))) (ā ă)) (ą (ď ő Ő (ā (ģ (ņ ĵ Ĵ (Ă 6) (ā (ď Ŏ ō (ā (ğ Ď č (Ă 2) (ā ă) (fun _ _=>rfl))) (ā ă)))))) (ā ă)) ĝ)))) (lG rfl (Į (Ĝ (i:=7) gM.nd rfl (Or.inl rfl)) (Į (Ĝ (i:=8) gM.nd rfl (Or.inl rfl)) aK))))
  (Č (Ġ (Ĳ (Ĺ (ą Ż (ą (ģ (Ũ (ą (v_var 5) (ą (v_var 6) (ą (ģ (ņ ĵ Ĵ (Ă 7) (ā (PE.wk (ş Ii (by rfl) T.Og PyProof.Rows.boot_int (Ğ (ā (bW Ş (ŋ hu) (ā (Ĺ (ą (v_var 5) (ą (v_var 6) ĝ)))) (ā (Ĺ (ą (v_var 7) (ą (v_var 8) ĝ)))) (ħ _))) Ĭ)) fun _ _ _ h=>š Ij h)))) (ą (v_var 8) (ą (v_var 3) ĝ))))))) ĝ)))))))
  ĳ)
  (ĉ (Ś (Ŀ Ş (ŋ hu) (Ă 4) (ā ă) (ħ _))
  (Č (Ġ (Ĳ (Ĺ (ą Ż (ą (ģ (ņ ĵ Ĵ (ā (ģ (ņ ĵ Ĵ (ā (ģ (Ũ (ą (v_var 5) (ą (v_var 6) (ą (ď Ŏ ō (ā (ğ Ď č (Ă 2) (ā ă) (fun _ _=>rfl))) (ā ă)) ĝ)))))) (ā (ģ (Ũ (ą (ģ (Ĕ (pU T) ċ (hr.mono (by decide)) rfl T.bZ T.sO.kp T.yD Ħ (ĕ (ğ Ď č (Ă 2) (ā ă) (fun _ _=>rfl)) (ć 1 (hr:=đ))))) (ą (ģ (Ĕ (pU T) ċ (hr.mono (by decide)) rfl T.bZ T.sO.kp T.yD Ħ (ĕ (ğ Ď č (Ă 2) (ā ă) (fun _ _=>rfl)) (ć 1 (hr:=đ))))) (ą (v_var 3) ĝ))))))))) (ā (ģ (Ũ (ą (ģ (Ĕ (pU T) ċ (hr.mono (by decide)) rfl T.bZ T.sO.kp T.yD Ħ (ĕ (ğ Ď č (Ă 2) (ā ă) (fun _ _=>rfl)) (ć 1 (hr:=đ))))) (ą (ģ (Ĕ (pU T) ċ (hr.mono (by decide)) rfl T.bZ T.sO.kp T.yD Ħ (ĕ (ğ Ď č (Ă 2) (ā ă) (fun _ _=>rfl)) (ć 1 (hr:=đ))))) (ą (ģ (Ĕ (Pk T) ċ (hr.mono (by decide)) rfl T.jH T.Nx.kp T.Vb Ħ (ĕ (ğ Ď č (Ă 2) (ā ă) (fun _ _=>rfl)) đ))) ĝ)))))))) ĝ))))))
  ĳ)
  (Č (Ġ (Ĳ (Ĺ (ą (ğ Ď č (ā (ģ (Ũ (ą Ż (ą Ż ĝ))))) (ā (ď ő Ő (Ă 4) (ā ă))) (fun _ _=>rfl)) (ą (ģ (Ũ (ą (v_var 5) (ą (v_var 6) (ą (ģ (ņ ĵ Ĵ (ā (ģ (ņ ĵ Ĵ (Ă 5) (ā ă)))) (ā (ď Ŏ ō (ā (ğ Ď č (Ă 2) (ā ă) (fun _ _=>rfl))) (ā ă))))) (ą (ģ (ņ ĵ Ĵ (ā (ģ (ņ ĵ Ĵ (Ă 6) (ā ă)))) (ā (ď Ŏ ō (ā (ğ Ď č (Ă 2) (ā ă) (fun _ _=>rfl))) (ā ă))))) (ą (v_var 3) ĝ))))))) ĝ)))))))))))))
theorem pW(T:Tx K mg a):Ķ P w K mg base (ų P w) 1 a.KJ a.KN ["number"] (ż ⟨K,ı a⟩ 1 dh):=by
 refine aL (cm:=ı a) (mb:=Al) T.sS Zav rfl rfl rfl fun cdv A outer s H E hr=>?_
 have hu:=hr.units
 exact(Č (Ġ (Ĳ (Hh jB jB jr jr (ā (vN gC fY (ā (Cq (.int (1000000000)) (mQ (v:=.int (1000000000)) rfl T.jL ⟨_,rfl⟩))))) (Ă 0) (ā (Cq (.int (1000000000)) (mQ (v:=.int (1000000000)) rfl T.jL ⟨_,rfl⟩)))))))
theorem Pn(T:Tx K mg a):Ķ P w K mg base (ų P w) 1 a.KQ a.KR ["number"] (ż ⟨K,ı a⟩ 1 lR):=by
 refine aL (cm:=ı a) (mb:=Am) T.Ny Zaw rfl rfl rfl fun cdv A outer s H E hr=>?_
 have hu:=hr.units
 exact(Č (Ġ (Ĳ (Hh jB jB jr jr (ā ă) (Ă 0) (ā (Cq (.int (1000000000)) (mQ (v:=.int (1000000000)) rfl T.iZ ⟨_,rfl⟩)))))))
theorem ZaV(T:Tx K mg a):Ķ P w K mg base (ų P w) 2 a.KY a.KZ ["numbers"] (ż ⟨K,ı a⟩ 1 oR):=by
 refine aL (cm:=ı a) (mb:=uP) T.Ve Zax rfl rfl rfl fun cdv A outer s H E hr=>?_
 have hu:=hr.units
 exact(Č (Ġ (Ĳ (v_and (bW Ş (ŋ hu) (ā (PE.wk (ĩ aD (by rfl) T.cj PySem.boot_len (Ğ (Ă 0) Ĭ)) fun _ _ _ h=>š aF h)) (ā ă) (ħ _)) (v_and (ģ (Ĕ (pW T) ċ (hr.mono (by decide)) rfl T.dh T.sS.kp T.yE Ħ (ĕ (ğ Ď č (Ă 0) (ā ă) (fun _ _=>rfl)) đ))) (v_and (ģ (Ĕ (pW T) ċ (hr.mono (by decide)) rfl T.dh T.sS.kp T.yE Ħ (ĕ (ğ Ď č (Ă 0) (ā ă) (fun _ _=>rfl)) đ))) (lB (ģ (Ĕ (Pn T) ċ (hr.mono (by decide)) rfl T.lR T.Ny.kp T.Vd Ħ (ĕ (ğ Ď č (Ă 0) (ā ă) (fun _ _=>rfl)) đ))))))))))
theorem Pq(T:Tx K mg a):Ķ P w K mg base (ų P w) 1 a.mG a.Bg ["self","word","numbers"] (Qe ⟨K,ı a⟩ 3 "Post" uQ):=by
 refine fnI (cm:=ı a) (mb:=fO) T.Nz yI rfl rfl rfl fun cdv A outer s H E hr=>?_
 have hu:=hr.units
 exact(ĉ (aY (i:=0) ["Thing","Post","Fence","Sail","Cloth","House"] ⟨⟨T.ŭ,T.aZ⟩,⟨⟨T.Ÿ,T.bR⟩,⟨⟨T.ť,T.bf⟩,⟨⟨T.Ź,T.bT⟩,⟨⟨T.Ŧ,T.bh⟩,⟨⟨T.ŧ,T.bA⟩,trivial⟩⟩⟩⟩⟩⟩ (pv 0) (v_var 1))
  (Č (aY (i:=0) ["Thing","Post","Fence","Sail","Cloth","House"] ⟨⟨T.ŭ,T.ĺ⟩,⟨⟨T.Ÿ,T.Ł⟩,⟨⟨T.ť,T.Ļ⟩,⟨⟨T.Ź,T.ł⟩,⟨⟨T.Ŧ,T.ļ⟩,⟨⟨T.ŧ,T.Ľ⟩,trivial⟩⟩⟩⟩⟩⟩ (pv 0) (ģ (PE.wk (ş cW (by rfl) T.fG PyProof.Rows.boot_list (Ğ (Ă 2) Ĭ)) fun _ _ _ h=>vP cX h)))))
theorem Fo(T:Tx K mg a):Ķ P w K mg base (ų P w) 1 a.mG a.Bg ["self","word","numbers"] (Qe ⟨K,ı a⟩ 3 "Fence" oU):=by
 refine fnI (cm:=ı a) (mb:=fO) T.Nz yI rfl rfl rfl fun cdv A outer s H E hr=>?_
 have hu:=hr.units
 exact(ĉ (aY (i:=0) ["Thing","Post","Fence","Sail","Cloth","House"] ⟨⟨T.ŭ,T.aZ⟩,⟨⟨T.Ÿ,T.bR⟩,⟨⟨T.ť,T.bf⟩,⟨⟨T.Ź,T.bT⟩,⟨⟨T.Ŧ,T.bh⟩,⟨⟨T.ŧ,T.bA⟩,trivial⟩⟩⟩⟩⟩⟩ (pv 0) (v_var 1))
  (Č (aY (i:=0) ["Thing","Post","Fence","Sail","Cloth","House"] ⟨⟨T.ŭ,T.ĺ⟩,⟨⟨T.Ÿ,T.Ł⟩,⟨⟨T.ť,T.Ļ⟩,⟨⟨T.Ź,T.ł⟩,⟨⟨T.Ŧ,T.ļ⟩,⟨⟨T.ŧ,T.Ľ⟩,trivial⟩⟩⟩⟩⟩⟩ (pv 0) (ģ (PE.wk (ş cW (by rfl) T.fG PyProof.Rows.boot_list (Ğ (Ă 2) Ĭ)) fun _ _ _ h=>vP cX h)))))
theorem Pr(T:Tx K mg a):Ķ P w K mg base (ų P w) 1 a.mG a.Bg ["self","word","numbers"] (Qe ⟨K,ı a⟩ 3 "Sail" uR):=by
 refine fnI (cm:=ı a) (mb:=fO) T.Nz yI rfl rfl rfl fun cdv A outer s H E hr=>?_
 have hu:=hr.units
 exact(ĉ (aY (i:=0) ["Thing","Post","Fence","Sail","Cloth","House"] ⟨⟨T.ŭ,T.aZ⟩,⟨⟨T.Ÿ,T.bR⟩,⟨⟨T.ť,T.bf⟩,⟨⟨T.Ź,T.bT⟩,⟨⟨T.Ŧ,T.bh⟩,⟨⟨T.ŧ,T.bA⟩,trivial⟩⟩⟩⟩⟩⟩ (pv 0) (v_var 1))
  (Č (aY (i:=0) ["Thing","Post","Fence","Sail","Cloth","House"] ⟨⟨T.ŭ,T.ĺ⟩,⟨⟨T.Ÿ,T.Ł⟩,⟨⟨T.ť,T.Ļ⟩,⟨⟨T.Ź,T.ł⟩,⟨⟨T.Ŧ,T.ļ⟩,⟨⟨T.ŧ,T.Ľ⟩,trivial⟩⟩⟩⟩⟩⟩ (pv 0) (ģ (PE.wk (ş cW (by rfl) T.fG PyProof.Rows.boot_list (Ğ (Ă 2) Ĭ)) fun _ _ _ h=>vP cX h)))))
theorem Fp(T:Tx K mg a):Ķ P w K mg base (ų P w) 1 a.mG a.Bg ["self","word","numbers"] (Qe ⟨K,ı a⟩ 3 "Cloth" oW):=by
 refine fnI (cm:=ı a) (mb:=fO) T.Nz yI rfl rfl rfl fun cdv A outer s H E hr=>?_
 have hu:=hr.units
 exact(ĉ (aY (i:=0) ["Thing","Post","Fence","Sail","Cloth","House"] ⟨⟨T.ŭ,T.aZ⟩,⟨⟨T.Ÿ,T.bR⟩,⟨⟨T.ť,T.bf⟩,⟨⟨T.Ź,T.bT⟩,⟨⟨T.Ŧ,T.bh⟩,⟨⟨T.ŧ,T.bA⟩,trivial⟩⟩⟩⟩⟩⟩ (pv 0) (v_var 1))
  (Č (aY (i:=0) ["Thing","Post","Fence","Sail","Cloth","House"] ⟨⟨T.ŭ,T.ĺ⟩,⟨⟨T.Ÿ,T.Ł⟩,⟨⟨T.ť,T.Ļ⟩,⟨⟨T.Ź,T.ł⟩,⟨⟨T.Ŧ,T.ļ⟩,⟨⟨T.ŧ,T.Ľ⟩,trivial⟩⟩⟩⟩⟩⟩ (pv 0) (ģ (PE.wk (ş cW (by rfl) T.fG PyProof.Rows.boot_list (Ğ (Ă 2) Ĭ)) fun _ _ _ h=>vP cX h)))))
theorem Fq(T:Tx K mg a):Ķ P w K mg base (ų P w) 1 a.mG a.Bg ["self","word","numbers"] (Qe ⟨K,ı a⟩ 3 "House" oX):=by
 refine fnI (cm:=ı a) (mb:=fO) T.Nz yI rfl rfl rfl fun cdv A outer s H E hr=>?_
 have hu:=hr.units
 exact(ĉ (aY (i:=0) ["Thing","Post","Fence","Sail","Cloth","House"] ⟨⟨T.ŭ,T.aZ⟩,⟨⟨T.Ÿ,T.bR⟩,⟨⟨T.ť,T.bf⟩,⟨⟨T.Ź,T.bT⟩,⟨⟨T.Ŧ,T.bh⟩,⟨⟨T.ŧ,T.bA⟩,trivial⟩⟩⟩⟩⟩⟩ (pv 0) (v_var 1))
  (Č (aY (i:=0) ["Thing","Post","Fence","Sail","Cloth","House"] ⟨⟨T.ŭ,T.ĺ⟩,⟨⟨T.Ÿ,T.Ł⟩,⟨⟨T.ť,T.Ļ⟩,⟨⟨T.Ź,T.ł⟩,⟨⟨T.Ŧ,T.ļ⟩,⟨⟨T.ŧ,T.Ľ⟩,trivial⟩⟩⟩⟩⟩⟩ (pv 0) (ģ (PE.wk (ş cW (by rfl) T.fG PyProof.Rows.boot_list (Ğ (Ă 2) Ĭ)) fun _ _ _ h=>vP cX h)))))
theorem Pu(T:Tx K mg a):Ķ P w K mg base (ų P w) 2 a.K_ a.La ["numbers"] (ż ⟨K,ı a⟩ 1 jJ):=by
 refine aL (cm:=ı a) (mb:=uT) T.NP Zay rfl rfl rfl fun cdv A outer s H E hr=>?_
 have hu:=hr.units
 exact(Č (Ġ (Ĳ (v_and (bW Ş (ŋ hu) (ā (PE.wk (ĩ aD (by rfl) T.cj PySem.boot_len (Ğ (Ă 0) Ĭ)) fun _ _ _ h=>š aF h)) (ā ă) (ħ _)) (v_and (PE.wk (ĩ (jW rfl) (by rfl) T.sV PyProof.Rows.boot_all (Ğ (ā (ģ (Ŝ ["number"] [] 1 (Ċ rN) rfl rfl (cL (ģ (cV (Ă 0) Hw (aX ă)))) (fun _ _ _ _ _=>(Ĝ (i:=0) (show(["number"]:List Str).Nodup by decide +kernel) rfl (Or.inl rfl) (hf:=Or.inr rfl))) (fun _ _ _ _ _=>ŕ) (fun _ _ _ _ _=>(ģ (Ĕ (pW T) ċ (hr.mono (by decide)) rfl T.dh T.sS.kp T.yE aO (ć 0 (hr:=đ))))) trivial))) Ĭ)) fun _ _ _ h=>š jY h) (lB (ģ (Ĕ (Pn T) ċ (hr.mono (by decide)) rfl T.lR T.Ny.kp T.Vd Ħ (ĕ (ğ Ď č (Ă 0) (ā ă) (fun _ _=>rfl)) đ)))))))))
theorem ZaW(T:Tx K mg a):Ķ P w K mg base (ų P w) 3 a.Lb a.Ld ["numbers"] (ż ⟨K,ı a⟩ 1 oY):=by
 refine aL (cm:=ı a) (mb:=uU) T.Vg Zaz rfl rfl rfl fun cdv A outer s H E hr=>?_
 have hu:=hr.units
 exact(Č (Ġ (Ĳ (v_and (ģ (Ĕ (Pu T) ċ (hr.mono (by decide)) rfl T.jJ T.NP.kp T.Vf Ħ (ć 0 (hr:=đ)))) (lB (bW cN (aH hu) (ā (ģ (cV (Ă 0) Hw (aX ă)))) (ā (ģ (cV (Ă 0) (aX ă) (aX ă)))) (ħ _)))))))
theorem VP(T:Tx K mg a):Ķ P w K mg base (ų P w) 3 a.YF a.YG ["numbers"] (ż ⟨K,ı a⟩ 1 uV):=by
 refine aL (cm:=ı a) (mb:=Dj) T.Zaa Zd6 rfl rfl rfl fun cdv A outer s H E hr=>?_
 have hu:=hr.units
 exact(Č (Ġ (Ĳ (v_and (ģ (Ĕ (Pu T) ċ (hr.mono (by decide)) rfl T.jJ T.NP.kp T.Vf Ħ (ć 0 (hr:=đ)))) (v_and (bW jA jq (ā (ğ Ď č (Ă 0) (ā ă) (fun _ _=>rfl))) (ā (ğ Ď č (Ă 0) (ā ă) (fun _ _=>rfl))) (ħ _)) (lB (bW jA jq (ā (ğ Ď č (Ă 0) (ā ă) (fun _ _=>rfl))) (ā (ğ Ď č (Ă 0) (ā ă) (fun _ _=>rfl))) (ħ _))))))))
theorem Zd9(T:Tx K mg a):Ķ P w K mg base (ų P w) 2 a.YH a.YJ ["numbers"] (ż ⟨K,ı a⟩ 1 Fg):=by
 refine aL (cm:=ı a) (mb:=Jl) T.ZdM Zd7 rfl rfl rfl fun cdv A outer s H E hr=>?_
 have hu:=hr.units
 exact(Č (Ġ (Ĳ (v_and (ģ (Ĕ (pW T) ċ (hr.mono (by decide)) rfl T.dh T.sS.kp T.yE Ħ (ĕ (ğ Ď č (Ă 0) (ā ă) (fun _ _=>rfl)) đ))) (v_and (ģ (Ĕ (pW T) ċ (hr.mono (by decide)) rfl T.dh T.sS.kp T.yE Ħ (ĕ (ğ Ď č (Ă 0) (ā ă) (fun _ _=>rfl)) đ))) (lB (Hh jB jB jr jr (ā ă) (ā (ğ Ď č (Ă 0) (ā ă) (fun _ _=>rfl))) (ā (Cq (.int (1000000000)) (mQ (v:=.int (1000000000)) rfl T.iZ ⟨_,rfl⟩))))))))))
theorem ZaX(T:Tx K mg a):Ķ P w K mg base (ų P w) 3 a.Le a.Lf ["numbers"] (ż ⟨K,ı a⟩ 1 oZ):=by
 refine aL (cm:=ı a) (mb:=uW) T.Vh ZaA rfl rfl rfl fun cdv A outer s H E hr=>?_
 have hu:=hr.units
 exact(@Č _ _ _ _ _ (@Ġ _ _ _ _ _ _ (@Ĳ _ _ _ _ _ (@v_and _ _ _ _ _ _ _ _ _ (@bW _ _ _ _ _ _ _ _ _ _ _ (@Ş _) (@ŋ _ hu) (@ā _ _ _ _ _ (@PE.wk _ _ _ _ (ĩ aD (by rfl) T.cj PySem.boot_len (@Ğ _ _ _ _ _ _ _ (@Ă _ _ _ 0 _ _ (by rfl) (by first|exact Or.inl rfl|exact Or.inr (Or.inl rfl)|exact Or.inr (Or.inr rfl)) (by decide) (by decide)) (@Ĭ _ _ _) (by exact ř rfl))) (fun _ _ _ h=> @š _ _ _ _ _ _ (@aF _) _ _ _ h))) (@ā _ _ _ _ _ (@ă _ _ _ _ _ _)) (ħ _)) (@lB _ _ _ _ _ _ _ (@PE.wk _ _ _ _ (ĩ (@jW _ rfl) (by rfl) T.sV PyProof.Rows.boot_all (@Ğ _ _ _ _ _ _ _ (@ā _ _ _ _ _ (@ģ _ _ _ _ _ (Ŝ ["numbers","place"] [0] 1 (Ċ rP) rfl rfl (@cL _ _ _ _ _ _ (@Ĺ _ _ _ _ _ _ _ (@ą _ _ _ _ _ _ _ (@ă _ _ _ _ _ _) (@ą _ _ _ _ _ _ _ (@ă _ _ _ _ _ _) (@ą _ _ _ _ _ _ _ (@ă _ _ _ _ _ _) (@ĝ _ _ _) (by exact ř rfl)) (by exact ř rfl)) (by exact ř rfl)))) (fun _ _ _ _ _=>(@Ĝ _ _ _ 1 _ (show(["numbers","place"]:List Str).Nodup by decide +kernel) rfl (Or.inl rfl) (Or.inr rfl))) (fun _ _ _ _ _=>(@ŕ _ _ _)) (fun _ _ _ _ _=>(@ģ _ _ _ _ _ (@Ĕ _ _ _ _ _ _ _ _ _ _ _ _ _ _ _ _ (Zd9 T) ċ (hr.mono (by decide)) rfl T.Fg T.ZdM.kp T.Zk0 (@aO _ _ _) (@ĕ _ _ _ _ _ _ _ (@ģ _ _ _ _ _ (@cV _ _ _ _ _ _ _ _ _ _ _ (@Ă _ _ _ 0 _ _ (by rfl) (by first|exact Or.inl rfl|exact Or.inr (Or.inl rfl)|exact Or.inr (Or.inr rfl)) (by decide) (by decide)) (@aX _ _ _ _ _ (@v_var _ _ _ 1 _ _ (by rfl) (by first|exact Or.inl rfl|exact Or.inr (Or.inl rfl)|exact Or.inr (Or.inr rfl)) (by decide) (by decide))) (@aX _ _ _ _ _ (@ģ _ _ _ _ _ (@ņ _ _ _ _ _ _ _ _ _ _ _ (@ĵ _) (@Ĵ _) (@Ă _ _ _ 1 _ _ (by rfl) (by first|exact Or.inl rfl|exact Or.inr (Or.inl rfl)|exact Or.inr (Or.inr rfl)) (by decide) (by decide)) (@ā _ _ _ _ _ (@ă _ _ _ _ _ _))))))) (@đ _ _ _) (by exact ř rfl)) (by decide) (by exact ř rfl) (by rfl)))) ⟨rfl,⟨rfl,Or.inl rfl⟩,trivial⟩))) (@Ĭ _ _ _) (by exact ř rfl))) (fun _ _ _ h=> @š _ _ _ _ _ _ (@jY _) _ _ _ h)))))))
theorem ZaY(T:Tx K mg a):Ķ P w K mg base (ų P w) 4 a.Lg a.Li ["word","numbers"] (ż ⟨K,ı a⟩ 2 cQ):=by
 refine aL (cm:=ı a) (mb:=gH) T.Vi ZaB rfl rfl rfl fun cdv A outer s H E hr=>?_
 have hu:=hr.units
 exact(ĉ (Ś (PW.pt (w_and (Ŀ Ş (ŋ hu) (Ă 0) (ā Ż) (ħ _)) (je (aV (ā (ģ (Ĕ (ZaV T) ċ (hr.mono (by decide)) rfl T.oR T.Ve.kp T.ZdJ Ħ (ć 1 (hr:=đ)))))))))
  (Č (Ġ (Ĳ (jZ T.Zai (Pq T) cD (hr.mono (by decide)) rfl T.Zab T.NK Ħ (ć 0 (hr:=(ć 1 (hr:=đ))))))))
  ĳ)
  (ĉ (Ś (PW.pt (w_and (Ŀ Ş (ŋ hu) (Ă 0) (ā Ż) (ħ _)) (je (aV (ā (ģ (Ĕ (ZaW T) ċ (hr.mono (by decide)) rfl T.oY T.Vg.kp T.ZdK Ħ (ć 1 (hr:=đ)))))))))
  (Č (Ġ (Ĳ (jZ T.SX (Fo T) cD (hr.mono (by decide)) rfl T.SM T.NK Ħ (ć 0 (hr:=(ć 1 (hr:=đ))))))))
  ĳ)
  (ĉ (Ś (PW.pt (w_and (Ŀ Ş (ŋ hu) (Ă 0) (ā Ż) (ħ _)) (je (aV (ā (ģ (Ĕ (VP T) ċ (hr.mono (by decide)) rfl T.uV T.Zaa.kp T.ZdL Ħ (ć 1 (hr:=đ)))))))))
  (Č (Ġ (Ĳ (jZ T.Zaj (Pr T) cD (hr.mono (by decide)) rfl T.Zac T.NK Ħ (ć 0 (hr:=(ć 1 (hr:=đ))))))))
  ĳ)
  (ĉ (Ś (PW.pt (w_and (Ŀ Ş (ŋ hu) (Ă 0) (ā Ż) (ħ _)) (je (aV (ā (ģ (Ĕ (ZaX T) ċ (hr.mono (by decide)) rfl T.oZ T.Vh.kp T.ZdN Ħ (ć 1 (hr:=đ)))))))))
  (Č (Ġ (Ĳ (jZ T.S_ (Fp T) cD (hr.mono (by decide)) rfl T.SN T.NK Ħ (ć 0 (hr:=(ć 1 (hr:=đ))))))))
  ĳ)
  (ĉ (Ś (PW.pt (w_and (Ŀ Ş (ŋ hu) (Ă 0) (ā Ż) (ħ _)) (je (aV (ā (ģ (Ĕ (VP T) ċ (hr.mono (by decide)) rfl T.uV T.Zaa.kp T.ZdL Ħ (ć 1 (hr:=đ)))))))))
  (Č (Ġ (Ĳ (jZ T.Tc (Fq T) cD (hr.mono (by decide)) rfl T.SQ T.NK Ħ (ć 0 (hr:=(ć 1 (hr:=đ))))))))
  ĳ)
  (Č (wz (C:= "BadThing") rfl rfl Dc rfl T.Bl T.Bo)))))))
theorem ZaZ(T:Tx K mg a):Ķ P w K mg base (ų P w) 4 a.Lj a.Lk ["points","point"] (ż ⟨K,ı a⟩ 2 o_):=by
 refine aL (cm:=ı a) (mb:=uY) T.Vj Oo rfl rfl rfl fun cdv A outer s H E hr=>?_
 have hu:=hr.units
 exact(ĉ (aW PassesOwn.leaving rfl (cL (ģ (Ĕ (OJ T) ċ (hr.mono (by decide)) rfl T.lJ T.Np.kp T.Uw Ħ (ć 0 (hr:=đ))))) (Ĝ (i:=2) Oo.nd rfl (Or.inl rfl))
  (Č (Ś (iJ (aV (ā (ģ (Ĕ (OD T) ċ (hr.mono (by decide)) rfl T.iR T.Nm.kp T.Uu Ħ (ć 2 (hr:=(ć 1 (hr:=đ)))))))))
  (Č (Ġ (fH 2)))
  ĳ)))
  (Č (Ġ (Ĳ qP))))
theorem Px(T:Tx K mg a):Ķ P w K mg base (ų P w) 1 a.Lp a.Lq ["many"] (ż ⟨K,ı a⟩ 1 lU):=by
 refine aL (cm:=ı a) (mb:=Ao) T.NQ Bv rfl rfl rfl fun cdv A outer s H E hr=>?_
 have hu:=hr.units
 exact(ĉ (İ (i:=1) Bv.nd rfl (Or.inl rfl) (Ũ ĝ))
  (ĉ (aW PassesOwn.leaving rfl (ţ rfl T.Ŵ (ą (v_var 0) ĝ)) (Ĝ (i:=2) Bv.nd rfl (by first|exact Or.inl rfl|exact Or.inr rfl))
  (Č (PS.wk (eN (nj PySem.F.plainAttrs_list PySem.F.slot_list_extend PySem.F.type_list_extend qJ (pv 1) (cu (Ŝ ["second","first"] [2] 1 (Ċ rQ) rfl rfl (ţ rfl T.Ŵ (ą (v_var 2) ĝ)) (fun _ _ _ _ _=>(Ĝ (i:=1) (show(["second","first"]:List Str).Nodup by decide +kernel) rfl (Or.inl rfl) (hf:=Or.inr rfl))) (fun _ _ _ _ _=>ŕ) (fun _ _ _ _ _=>(Ĺ (ą (v_var 1) (ą (v_var 0) ĝ)))) ⟨rfl,⟨rfl,Or.inl rfl⟩,trivial⟩) i_))) fun _ _ _ h=>Dh h)))
  (Č (Ġ (fH 1)))))
theorem Za0(T:Tx K mg a):Ķ P w K mg base (ų P w) 2 a.Lr a.Ls ["many"] (ż ⟨K,ı a⟩ 1 sG):=by
 refine aL (cm:=ı a) (mb:=Aq) T.Vl Bw rfl rfl rfl fun cdv A outer s H E hr=>?_
 have hu:=hr.units
 exact(ĉ (İ (i:=1) Bw.nd rfl (Or.inl rfl) (Ũ ĝ))
  (ĉ (aW PassesOwn.leaving rfl (ţ rfl T.Ŵ (ą (v_var 0) ĝ)) (Ĝ (i:=2) Bw.nd rfl (by first|exact Or.inl rfl|exact Or.inr rfl))
  (Č (PS.wk (eN (nj PySem.F.plainAttrs_list PySem.F.slot_list_extend PySem.F.type_list_extend qJ (pv 1) (cu (Ŝ ["third","pair"] [2] 1 (Ċ rT) rfl rfl (Uk (cL (ģ (Ĕ (Px T) ċ (hr.mono (by decide)) rfl T.lU T.NQ.kp T.Vk aO (ć 2 (hr:=đ)))))) (fun _ _ _ _ _=>(Ĝ (i:=1) (show(["third","pair"]:List Str).Nodup by decide +kernel) rfl (Or.inl rfl) (hf:=Or.inr rfl))) (fun _ _ _ _ _=>ŕ) (fun _ _ _ _ _=>(Ĺ (ą (ğ Ď č (Ă 1) (ā ă) (fun _ _=>rfl)) (ą (ğ Ď č (Ă 1) (ā ă) (fun _ _=>rfl)) (ą (v_var 0) ĝ))))) ⟨rfl,⟨rfl,Or.inl rfl⟩,trivial⟩) i_))) fun _ _ _ h=>Dh h)))
  (Č (Ġ (fH 1)))))
theorem Zd_(T:Tx K mg a):Ķ P w K mg base (ų P w) 1 a.YK a.YL ["one","other"] (ż ⟨K,ı a⟩ 2 Fi):=by
 refine aL (cm:=ı a) (mb:=Jm) T.ZdR Dv rfl rfl rfl fun cdv A outer s H E hr=>?_
 have hu:=hr.units
 exact(ĉ (Cv PassesOwn.leaving (Ŀ cN (aH hu) (Ă 1) (ā ă) (ħ _))
  (ĉ (İ (i:=2) Dv.nd rfl (Or.inl rfl) (Ĳ (ď Ŏ ō (Ă 0) (Ă 1))))
  (ĉ (İ (i:=0) Dv.nd rfl (Or.inl rfl) (Ĳ (v_var 1)))
  (Č (İ (i:=1) Dv.nd rfl (Or.inl rfl) (Ĳ (v_var 2)))))))
  (Č (Ġ (Ĳ (PE.wk (ĩ Gw (by rfl) T.VH PyProof.Rows.boot_abs (Ğ (Ă 0) Ĭ)) fun _ _ _ h=>š Hy h)))))
theorem Py(T:Tx K mg a):Ķ P w K mg base (ų P w) 2 a.Lw a.Lx ["top","bottom"] (ż ⟨K,ı a⟩ 2 gJ):=by
 refine aL (cm:=ı a) (mb:=uZ) T.NT Bx rfl rfl rfl fun cdv A outer s H E hr=>?_
 have hu:=hr.units
 exact(ĉ (Ś (Ŀ Ş (ŋ hu) (Ă 1) (ā ă) (ħ _))
  (Č (wz (C:= "NoNumber") rfl rfl Dc rfl T.Bk T.Bm))
  ĳ)
  (ĉ (İ (i:=2) Bx.nd rfl (Or.inl rfl) (Ĕ (Zd_ T) ċ (hr.mono (by decide)) rfl T.Fi T.ZdR.kp T.Zk1 Ħ (ć 0 (hr:=(ć 1 (hr:=đ))))))
  (ĉ (Ś (Ŀ jA jq (Ă 1) (ā ă) (ħ _))
  (Č (İ (i:=2) Bx.nd rfl (Or.inl rfl) (Ĳ (vN gC fY (Ă 2)))))
  ĳ)
  (Č (Ġ (Ĳ (Ĺ (ą (ď ŷ Ť (Ă 0) (Ă 2)) (ą (ď ŷ Ť (Ă 1) (Ă 2)) ĝ)))))))))
theorem BJ(T:Tx K mg a):Ķ P w K mg base (ų P w) 3 a.Ly a.Lz ["shares","places","many"] (ż ⟨K,ı a⟩ 3 dX):=by
 refine aL (cm:=ı a) (mb:=kO) T.Dm pP rfl rfl rfl fun cdv A outer s H E hr=>?_
 have hu:=hr.units
 exact(ĉ (İ (i:=3) pP.nd rfl (by first|exact Or.inl rfl|exact Or.inr rfl) (Ĳ (PE.wk (ĩ (zN rfl) (by rfl) T.Oh PyProof.Rows.boot_sum (Ğ (Ă 0) Ĭ)) fun _ _ _ h=>š zQ h)))
  (ĉ (ur (i:=4) pP.nd rfl rfl ["whole","place"] [3] 1 (Ċ rW) rfl rfl (ţ rfl T.Ŵ (ą (v_var 2) ĝ)) (fun _ _ _ _ _=>(Ĝ (i:=1) (show(["whole","place"]:List Str).Nodup by decide +kernel) rfl (Or.inl rfl) (hf:=Or.inr rfl))) (fun _ _ _ _ _=>ŕ) (fun _ _ _ _ _=>(ģ (Ĕ (Py T) ċ (hr.mono (by decide)) rfl T.gJ T.NT.kp T.Vm aO (ĕ ă (ć 0 (hr:=đ)))))) ⟨rfl,⟨rfl,Or.inl rfl⟩,trivial⟩)
  (ĉ (aW PassesOwn.leaving rfl (Uj rfl T.VJ (Df 0) (Df 1)) (nC rfl (Į (Ĝ (i:=5) pP.nd rfl (Or.inl rfl)) (Į (Ĝ (i:=6) pP.nd rfl (Or.inl rfl)) aK)))
  (Č (Rk (i:=4) (ģ (Ĕ (Py T) ċ (hr.mono (by decide)) rfl T.gJ T.NT.kp T.Vm Ħ (ć 5 (hr:=(ć 3 (hr:=đ)))))) (v_var 6) (pv 4))))
  (Č (Ġ (fH 4))))))
theorem BK(T:Tx K mg a):Ķ P w K mg base (ų P w) 1 a.LC a.LQ ["one","other","third"] (ż ⟨K,ı a⟩ 3 iW):=by
 refine aL (cm:=ı a) (mb:=Ar) T.Dp Oq rfl rfl rfl fun cdv A outer s H E hr=>?_
 have hu:=hr.units
 exact(ĉ (İ (i:=3) Oq.nd rfl (Or.inl rfl) (Ĳ (ď ī Ģ (ā (ď ő Ő (ā (ğ Ď č (Ă 1) (ā ă) (fun _ _=>rfl))) (ā (ğ Ď č (Ă 0) (ā ă) (fun _ _=>rfl))))) (ā (ď ő Ő (ā (ğ Ď č (Ă 2) (ā ă) (fun _ _=>rfl))) (ā (ğ Ď č (Ă 0) (ā ă) (fun _ _=>rfl))))))))
  (Č (Ġ (Ĳ (ď ő Ő (Ă 3) (ā (ď ī Ģ (ā (ď ő Ő (ā (ğ Ď č (Ă 1) (ā ă) (fun _ _=>rfl))) (ā (ğ Ď č (Ă 0) (ā ă) (fun _ _=>rfl))))) (ā (ď ő Ő (ā (ğ Ď č (Ă 2) (ā ă) (fun _ _=>rfl))) (ā (ğ Ď č (Ă 0) (ā ă) (fun _ _=>rfl))))))))))))
theorem Zea(T:Tx K mg a):Ķ P w K mg base (ų P w) 2 a.YM a.YQ ["corners","point"] (ż ⟨K,ı a⟩ 2 Fj):=by
 refine aL (cm:=ı a) (mb:=Jo) T.ZdS Dw rfl rfl rfl fun cdv A outer s H E hr=>?_
 have hu:=hr.units
 exact(ĉ (İ (i:=2) Dw.nd rfl (Or.inl rfl) (Ĳ (ğ Ď č (Ă 0) (ā ă) (fun _ _=>rfl))))
  (ĉ (İ (i:=3) Dw.nd rfl (Or.inl rfl) (Ĳ (ğ Ď č (Ă 0) (ā ă) (fun _ _=>rfl))))
  (ĉ (İ (i:=4) Dw.nd rfl (Or.inl rfl) (Ĳ (ğ Ď č (Ă 0) (ā ă) (fun _ _=>rfl))))
  (Č (Ġ (Ũ (ą (ģ (Ĕ (BK T) ċ (hr.mono (by decide)) rfl T.iW T.Dp.kp T.N_ Ħ (ć 1 (hr:=(ć 3 (hr:=(ć 4 (hr:=đ)))))))) (ą (ģ (Ĕ (BK T) ċ (hr.mono (by decide)) rfl T.iW T.Dp.kp T.N_ Ħ (ć 2 (hr:=(ć 1 (hr:=(ć 4 (hr:=đ)))))))) (ą (ģ (Ĕ (BK T) ċ (hr.mono (by decide)) rfl T.iW T.Dp.kp T.N_ Ħ (ć 2 (hr:=(ć 3 (hr:=(ć 1 (hr:=đ)))))))) ĝ)))))))))
theorem Pz(T:Tx K mg a):Ķ P w K mg base (ų P w) 1 a.LR a.L_ ["shares"] (ż ⟨K,ı a⟩ 1 jK):=by
 refine aL (cm:=ı a) (mb:=vd) T.Oa Ot rfl rfl rfl fun cdv A outer s H E hr=>?_
 have hu:=hr.units
 exact(ĉ (İ (i:=1) Ot.nd rfl (by first|exact Or.inl rfl|exact Or.inr rfl) (Ĳ (PE.wk (ĩ (zN rfl) (by rfl) T.Oh PyProof.Rows.boot_sum (Ğ (Ă 0) Ĭ)) fun _ _ _ h=>š zQ h)))
  (Č (Ġ (Ĳ (v_and (bW cN (aH hu) (Ă 1) (ā ă) (ħ _)) (lB (PE.wk (ĩ (jW rfl) (by rfl) T.sV PyProof.Rows.boot_all (Ğ (ā (ģ (Ŝ ["whole","share"] [1] 1 (Ċ rY) rfl rfl (aM 0) (fun _ _ _ _ _=>(Ĝ (i:=1) (show(["whole","share"]:List Str).Nodup by decide +kernel) rfl (Or.inl rfl) (hf:=Or.inr rfl))) (fun _ _ _ _ _=>ŕ) (fun _ _ _ _ _=>(bW Ud TF (ā (ď ī Ģ (Ă 1) (Ă 0))) (ā ă) (ħ _))) ⟨rfl,⟨rfl,Or.inl rfl⟩,trivial⟩))) Ĭ)) fun _ _ _ h=>š jY h)))))))
theorem Za1(T:Tx K mg a):Ķ P w K mg base (ų P w) 1 a.Ma a.Mf ["ends","point"] (ż ⟨K,ı a⟩ 2 sI):=by
 refine aL (cm:=ı a) (mb:=Av) T.Vo vC rfl rfl rfl fun cdv A outer s H E hr=>?_
 have hu:=hr.units
 exact(ĉ (İ (i:=2) vC.nd rfl (Or.inl rfl) (Ĳ (ď ő Ő (ā (ğ Ď č (ā (ğ Ď č (Ă 0) (ā ă) (fun _ _=>rfl))) (ā ă) (fun _ _=>rfl))) (ā (ğ Ď č (ā (ğ Ď č (Ă 0) (ā ă) (fun _ _=>rfl))) (ā ă) (fun _ _=>rfl))))))
  (ĉ (İ (i:=3) vC.nd rfl (Or.inl rfl) (Ĳ (ď ő Ő (ā (ğ Ď č (ā (ğ Ď č (Ă 0) (ā ă) (fun _ _=>rfl))) (ā ă) (fun _ _=>rfl))) (ā (ğ Ď č (ā (ğ Ď č (Ă 0) (ā ă) (fun _ _=>rfl))) (ā ă) (fun _ _=>rfl))))))
  (ĉ (İ (i:=4) vC.nd rfl (Or.inl rfl) (ņ ĵ Ĵ (ā (ď ī Ģ (Ă 2) (ā (ď ő Ő (ā (ğ Ď č (Ă 1) (ā ă) (fun _ _=>rfl))) (ā (ğ Ď č (ā (ğ Ď č (Ă 0) (ā ă) (fun _ _=>rfl))) (ā ă) (fun _ _=>rfl))))))) (ā (ď ī Ģ (Ă 3) (ā (ď ő Ő (ā (ğ Ď č (Ă 1) (ā ă) (fun _ _=>rfl))) (ā (ğ Ď č (ā (ğ Ď č (Ă 0) (ā ă) (fun _ _=>rfl))) (ā ă) (fun _ _=>rfl)))))))))
  (Č (Ġ (Ũ (ą (ď ő Ő (ā (ģ (ņ ĵ Ĵ (ā (ď ī Ģ (Ă 2) (Ă 2))) (ā (ď ī Ģ (Ă 3) (Ă 3)))))) (Ă 4)) (ą (v_var 4) ĝ))))))))
theorem Za2(T:Tx K mg a):Ķ P w K mg base (ų P w) 4 a.Mg a.Mh ["points","point"] (ż ⟨K,ı a⟩ 2 lV):=by
 refine aL (cm:=ı a) (mb:=pB) T.Vp kZ rfl rfl rfl fun cdv A outer s H E hr=>?_
 have hu:=hr.units
 exact(ĉ (İ (i:=2) kZ.nd rfl (Or.inl rfl) (Ĳ (PE.wk (ĩ aD (by rfl) T.cj PySem.boot_len (Ğ (Ă 0) Ĭ)) fun _ _ _ h=>š aF h)))
  (ĉ (aW PassesOwn.leaving rfl (cL (ģ (Ĕ (Za0 T) ċ (hr.mono (by decide)) rfl T.sG T.Vl.kp T.ZdQ Ħ (ć 2 (hr:=đ))))) (Ĝ (i:=3) kZ.nd rfl (Or.inl rfl))
  (ĉ (İ (i:=4) kZ.nd rfl (Or.inl rfl) (Ĕ (Zea T) ċ (hr.mono (by decide)) rfl T.Fj T.ZdS.kp T.Zk2 Ħ (ĕ (ģ (Ŝ ["points","place"] [0] 1 (Ċ oH) rfl rfl (aM 3) (fun _ _ _ _ _=>(Ĝ (i:=1) (show(["points","place"]:List Str).Nodup by decide +kernel) rfl (Or.inl rfl) (hf:=Or.inr rfl))) (fun _ _ _ _ _=>ŕ) (fun _ _ _ _ _=>(ğ Ď č (Ă 0) (Ă 1) (fun _ _=>rfl))) ⟨rfl,⟨rfl,Or.inl rfl⟩,trivial⟩)) (ć 1 (hr:=đ)))))
  (Č (Ś (aV (ā (ģ (Ĕ (Pz T) ċ (hr.mono (by decide)) rfl T.jK T.Oa.kp T.Vn Ħ (ć 4 (hr:=đ))))))
  (Č (Ġ (Ĕ (BJ T) ċ (hr.mono (by decide)) rfl T.dX T.Dm.kp T.NZ Ħ (ć 4 (hr:=(ć 3 (hr:=(ć 2 (hr:=đ)))))))))
  ĳ))))
  (ĉ (aW PassesOwn.leaving rfl (cL (ģ (Ĕ (Px T) ċ (hr.mono (by decide)) rfl T.lU T.NQ.kp T.Vk Ħ (ć 2 (hr:=đ))))) (Ĝ (i:=3) kZ.nd rfl (Or.inl rfl))
  (ĉ (İ (i:=4) kZ.nd rfl (Or.inl rfl) (Ĕ (Za1 T) ċ (hr.mono (by decide)) rfl T.sI T.Vo.kp T.ZdT Ħ (ĕ (ģ (Ŝ ["points","place"] [0] 1 (Ċ oH) rfl rfl (aM 3) (fun _ _ _ _ _=>(Ĝ (i:=1) (show(["points","place"]:List Str).Nodup by decide +kernel) rfl (Or.inl rfl) (hf:=Or.inr rfl))) (fun _ _ _ _ _=>ŕ) (fun _ _ _ _ _=>(ğ Ď č (Ă 0) (Ă 1) (fun _ _=>rfl))) ⟨rfl,⟨rfl,Or.inl rfl⟩,trivial⟩)) (ć 1 (hr:=đ)))))
  (Č (Ś (aV (ā (ģ (Ĕ (Pz T) ċ (hr.mono (by decide)) rfl T.jK T.Oa.kp T.Vn Ħ (ć 4 (hr:=đ))))))
  (Č (Ġ (Ĕ (BJ T) ċ (hr.mono (by decide)) rfl T.dX T.Dm.kp T.NZ Ħ (ć 4 (hr:=(ć 3 (hr:=(ć 2 (hr:=đ)))))))))
  ĳ))))
  (Č (Ġ (Ĕ (BJ T) ċ (hr.mono (by decide)) rfl T.dX T.Dm.kp T.NZ Ħ (ĕ (ģ (Ũ (ą ă ĝ))) (ĕ (ģ (Ũ (ą ă ĝ))) (ć 2 (hr:=đ))))))))))
theorem Za3(T:Tx K mg a):Ķ P w K mg base (ų P w) 5 a.Mi a.Mj ["points","point"] (ż ⟨K,ı a⟩ 2 pC):=by
 refine aL (cm:=ı a) (mb:=vh) T.Vq Ou rfl rfl rfl fun cdv A outer s H E hr=>?_
 have hu:=hr.units
 exact(ĉ (İ (i:=2) Ou.nd rfl (Or.inl rfl) (Ĕ (ZaZ T) ċ (hr.mono (by decide)) rfl T.o_ T.Vj.kp T.ZdP Ħ (ć 0 (hr:=(ć 1 (hr:=đ))))))
  (ĉ (Ś (Ŀ Ht yW (Ă 2) (ā qP) (ħ _))
  (Č (Ġ (Ĳ (Ĺ (ą Ż (ą (ģ (Ĕ (Za2 T) ċ (hr.mono (by decide)) rfl T.lV T.Vp.kp T.ZdU Ħ (ć 0 (hr:=(ć 1 (hr:=đ)))))) ĝ))))))
  ĳ)
  (Č (Ġ (Ĳ (Ĺ (ą Ż (ą (v_var 2) ĝ))))))))
theorem Za4(T:Tx K mg a):Ķ P w K mg base (ų P w) 2 a.Ml a.Mp ["stone","ray"] (ż ⟨K,ı a⟩ 2 sJ):=by
 refine aL (cm:=ı a) (mb:=Aw) T.Vr ZaC rfl rfl rfl fun cdv A outer s H E hr=>?_
 have hu:=hr.units
 exact(Č (Ġ (Ĕ (O_ T) ċ (hr.mono (by decide)) rfl T.iU T.Nq.kp T.Ux Ħ (ĕ (Ĺ (ą (ď ī Ģ (ā ă) (ā (ğ Ď č (Ă 0) (ā ă) (fun _ _=>rfl)))) (ą (ď ī Ģ (ā ă) (ā (ğ Ď č (Ă 0) (ā ă) (fun _ _=>rfl)))) (ą ă ĝ)))) (ć 1 (hr:=đ))))))
theorem PJ(T:Tx K mg a):Ķ P w K mg base (ų P w) 6 a.Mq a.Mr ["thing","stone","ray"] (ż ⟨K,ı a⟩ 3 dY):=by
 refine aL (cm:=ı a) (mb:=Ax) T.Ob ZaD rfl rfl rfl fun cdv A outer s H E hr=>?_
 have hu:=hr.units
 exact(Č (Ġ (Ĕ (Za3 T) ċ (hr.mono (by decide)) rfl T.pC T.Vq.kp T.ZdV Ħ (ĕ (ģ (Ĕ (Pb T) ċ (hr.mono (by decide)) rfl T.jF T.Nr.kp T.Uy Ħ (ć 0 (hr:=(ć 2 (hr:=đ)))))) (ĕ (ģ (Ĕ (Za4 T) ċ (hr.mono (by decide)) rfl T.sJ T.Vr.kp T.ZdW Ħ (ć 1 (hr:=(ć 2 (hr:=đ)))))) đ)))))
theorem k_(T:Tx K mg a):Ķ P w K mg base (ų P w) 1 a.Ms a.Mt ["_law_x","_law_y","_law_u","_law_v","_law_z"] (ż ⟨K,ı a⟩ 5 b_):=by
 refine aL (cm:=ı a) (mb:=Ay) T.pK ZaE rfl rfl rfl fun cdv A outer s H E hr=>?_
 have hu:=hr.units
 exact(Č (Ġ (Ũ (ą (Ĺ (ą (v_var 0) (ą (v_var 1) (ą (v_var 4) ĝ)))) (ą (Ĺ (ą (v_var 2) (ą (v_var 1) (ą (v_var 4) ĝ)))) (ą (Ĺ (ą (v_var 2) (ą (v_var 3) (ą (v_var 4) ĝ)))) (ą (Ĺ (ą (v_var 0) (ą (v_var 3) (ą (v_var 4) ĝ)))) ĝ)))))))
theorem PK(T:Tx K mg a):Ķ P w K mg base (ų P w) 2 a.Dk a.Dl ["_law_word","_law_some"] (ż ⟨K,ı a⟩ 2 mY):=by
 refine aL (cm:=ı a) (mb:=pD) T.Dq ź rfl rfl rfl fun cdv A outer s H E hr=>?_
 have hu:=hr.units
 exact(ĉ (Ś (Ŀ Ş (ŋ hu) (Ă 0) (ā Ż) (ħ _))
  (Č (Ġ (Ŝ ["_law_some","_law_k"] [1] 1 (Ċ oJ) rfl rfl (ţ rfl T.Ŵ (ą ă ĝ)) (fun _ _ _ _ _=>(Ĝ (i:=1) (show(["_law_some","_law_k"]:List Str).Nodup by decide +kernel) rfl (Or.inl rfl) (hf:=Or.inr rfl))) (fun _ _ _ _ _=>ŕ) (fun _ _ _ _ _=>(PE.wk (ş nP (by rfl) T.iw PyProof.Rows.boot_tuple (Ğ (ā (ģ (cV (Ă 0) (aX (ď ī Ģ (ā ă) (Ă 1))) (aX (ģ (ņ ĵ Ĵ (ā (ď ī Ģ (ā ă) (Ă 1))) (ā ă))))))) Ĭ)) fun _ _ _ h=>š nQ h)) ⟨rfl,⟨rfl,Or.inl rfl⟩,trivial⟩)))
  ĳ)
  (ĉ (Ś (Ŀ Ş (ŋ hu) (Ă 0) (ā Ż) (ħ _))
  (ĉ (lE (v_var 1) (lG rfl (Į (Ĝ (i:=7) ź.nd rfl (Or.inl rfl)) (Į (Ĝ (i:=8) ź.nd rfl (Or.inl rfl)) (Į (Ĝ (i:=6) ź.nd rfl (Or.inl rfl)) aK)))))
  (Č Rj))
  ĳ)
  (ĉ (lE (v_var 1) (lG rfl (Į (Ĝ (i:=2) ź.nd rfl (Or.inl rfl)) (Į (Ĝ (i:=3) ź.nd rfl (Or.inl rfl)) (Į (Ĝ (i:=4) ź.nd rfl (Or.inl rfl)) (Į (Ĝ (i:=5) ź.nd rfl (Or.inl rfl)) (Į (Ĝ (i:=6) ź.nd rfl (Or.inl rfl)) aK)))))))
  (ĉ (Ś (Ŀ Ş (ŋ hu) (Ă 0) (ā Ż) (ħ _))
  (Č (Ġ (Ũ (ą (Ĺ (ą (v_var 2) (ą (v_var 3) (ą ă ĝ)))) (ą (Ĺ (ą (v_var 4) (ą (v_var 5) (ą ă ĝ)))) (ą (Ĺ (ą (v_var 4) (ą (v_var 5) (ą (v_var 6) ĝ)))) (ą (Ĺ (ą (v_var 2) (ą (v_var 3) (ą (v_var 6) ĝ)))) ĝ)))))))
  ĳ)
  (ĉ (Ś (Ŀ Ş (ŋ hu) (Ă 0) (ā Ż) (ħ _))
  (Č (Ġ (ņ ĵ Ĵ (ā (ģ (Ĕ (k_ T) ċ (hr.mono (by decide)) rfl T.b_ T.pK.kp T.sU Ħ (ć 2 (hr:=(ć 3 (hr:=(ć 4 (hr:=(ć 5 (hr:=(ĕ ă đ)))))))))))) (ā (ģ (Ĕ (k_ T) ċ (hr.mono (by decide)) rfl T.b_ T.pK.kp T.sU Ħ (ć 2 (hr:=(ć 3 (hr:=(ć 4 (hr:=(ć 5 (hr:=(ć 6 (hr:=đ))))))))))))))))
  ĳ)
  (Č (Ġ (Ĕ (k_ T) ċ (hr.mono (by decide)) rfl T.b_ T.pK.kp T.sU Ħ (ć 2 (hr:=(ć 3 (hr:=(ć 4 (hr:=(ć 5 (hr:=(ć 6 (hr:=đ))))))))))))))))))
theorem Za5(T:Tx K mg a):Ķ P w K mg base (ų P w) 3 a.Dk a.Dl ["_law_word","_law_some"] (ż ⟨K,ı a⟩ 2 cg):=by
 refine aL (cm:=ı a) (mb:=ji) T.Dq ź rfl rfl rfl fun cdv A outer s H E hr=>?_
 have hu:=hr.units
 exact(ĉ (Ś (Ŀ Ş (ŋ hu) (Ă 0) (ā Ż) (ħ _))
  (Č (Ġ (Ŝ ["_law_some","_law_k"] [1] 1 (Ċ oJ) rfl rfl (ţ rfl T.Ŵ (ą ă ĝ)) (fun _ _ _ _ _=>(Ĝ (i:=1) (show(["_law_some","_law_k"]:List Str).Nodup by decide +kernel) rfl (Or.inl rfl) (hf:=Or.inr rfl))) (fun _ _ _ _ _=>ŕ) (fun _ _ _ _ _=>(PE.wk (ş nP (by rfl) T.iw PyProof.Rows.boot_tuple (Ğ (ā (ģ (cV (Ă 0) (aX (ď ī Ģ (ā ă) (Ă 1))) (aX (ģ (ņ ĵ Ĵ (ā (ď ī Ģ (ā ă) (Ă 1))) (ā ă))))))) Ĭ)) fun _ _ _ h=>š nQ h)) ⟨rfl,⟨rfl,Or.inl rfl⟩,trivial⟩)))
  ĳ)
  (ĉ (Ś (Ŀ Ş (ŋ hu) (Ă 0) (ā Ż) (ħ _))
  (ĉ (lE (v_var 1) (lG rfl (Į (Ĝ (i:=7) ź.nd rfl (Or.inl rfl)) (Į (Ĝ (i:=8) ź.nd rfl (Or.inl rfl)) (Į (Ĝ (i:=6) ź.nd rfl (Or.inl rfl)) aK)))))
  (Č (Ġ (Ĕ (PK T) ċ (hr.mono (by decide)) rfl T.cg T.Dq.kp T.Vt Ħ (ĕ Ż (ĕ (ģ (Ũ (ą (ď ő Ő (ā (ď ī Ģ (ā ă) (Ă 7))) (ā ă)) (ą (ď ő Ő (ā (ď ī Ģ (ā ă) (Ă 8))) (ā ă)) (ą (ģ (ņ ĵ Ĵ (ā (ď ī Ģ (ā ă) (Ă 7))) (ā ă))) (ą (ģ (ņ ĵ Ĵ (ā (ď ī Ģ (ā ă) (Ă 8))) (ā ă))) (ą (v_var 6) ĝ))))))) đ))))))
  ĳ)
  (ĉ (lE (v_var 1) (lG rfl (Į (Ĝ (i:=2) ź.nd rfl (Or.inl rfl)) (Į (Ĝ (i:=3) ź.nd rfl (Or.inl rfl)) (Į (Ĝ (i:=4) ź.nd rfl (Or.inl rfl)) (Į (Ĝ (i:=5) ź.nd rfl (Or.inl rfl)) (Į (Ĝ (i:=6) ź.nd rfl (Or.inl rfl)) aK)))))))
  (ĉ (Ś (Ŀ Ş (ŋ hu) (Ă 0) (ā Ż) (ħ _))
  (Č (Ġ (Ũ (ą (Ĺ (ą (v_var 2) (ą (v_var 3) (ą ă ĝ)))) (ą (Ĺ (ą (v_var 4) (ą (v_var 5) (ą ă ĝ)))) (ą (Ĺ (ą (v_var 4) (ą (v_var 5) (ą (v_var 6) ĝ)))) (ą (Ĺ (ą (v_var 2) (ą (v_var 3) (ą (v_var 6) ĝ)))) ĝ)))))))
  ĳ)
  (ĉ (Ś (Ŀ Ş (ŋ hu) (Ă 0) (ā Ż) (ħ _))
  (Č (Ġ (ņ ĵ Ĵ (ā (ģ (Ĕ (k_ T) ċ (hr.mono (by decide)) rfl T.b_ T.pK.kp T.sU Ħ (ć 2 (hr:=(ć 3 (hr:=(ć 4 (hr:=(ć 5 (hr:=(ĕ ă đ)))))))))))) (ā (ģ (Ĕ (k_ T) ċ (hr.mono (by decide)) rfl T.b_ T.pK.kp T.sU Ħ (ć 2 (hr:=(ć 3 (hr:=(ć 4 (hr:=(ć 5 (hr:=(ć 6 (hr:=đ))))))))))))))))
  ĳ)
  (Č (Ġ (Ĕ (k_ T) ċ (hr.mono (by decide)) rfl T.b_ T.pK.kp T.sU Ħ (ć 2 (hr:=(ć 3 (hr:=(ć 4 (hr:=(ć 5 (hr:=(ć 6 (hr:=đ))))))))))))))))))
theorem Za6(T:Tx K mg a):Ķ P w K mg base (ų P w) 4 a.Mu a.Mv ["_law_drawn","_law_ray_here"] (ż ⟨K,ı a⟩ 2 pF):=by
 refine aL (cm:=ı a) (mb:=Az) T.Vu pQ rfl rfl rfl fun cdv A outer s H E hr=>?_
 have hu:=hr.units
 exact(ĉ (İ (i:=2) pQ.nd rfl (Or.inl rfl) (Ũ ĝ))
  (ĉ (aW PassesOwn.leaving rfl (cL (ģ (Ĕ (Za5 T) ċ (hr.mono (by decide)) rfl T.cg T.Dq.kp T.Vt Ħ (ĕ (ğ Ď č (Ă 0) (ā ă) (fun _ _=>rfl)) (ĕ (ğ Ď č (Ă 0) (ā ă) (fun _ _=>rfl)) đ))))) (nC rfl (Į (Ĝ (i:=3) pQ.nd rfl (Or.inl rfl)) (Į (Ĝ (i:=4) pQ.nd rfl (Or.inl rfl)) (Į (Ĝ (i:=5) pQ.nd rfl (Or.inl rfl)) aK))))
  (Č (PS.wk (eN (nj PySem.F.plainAttrs_list PySem.F.slot_list_append PySem.F.type_list_append bG (pv 2) (ą (Ĺ (ą (ģ (ņ ĵ Ĵ (ā (ď ī Ģ (ā (ğ Ď č (Ă 1) (ā ă) (fun _ _=>rfl))) (Ă 3))) (ā (ď ī Ģ (ā (ğ Ď č (Ă 1) (ā ă) (fun _ _=>rfl))) (Ă 5))))) (ą (ģ (ņ ĵ Ĵ (ā (ď ī Ģ (ā (ğ Ď č (Ă 1) (ā ă) (fun _ _=>rfl))) (Ă 4))) (ā (ď ī Ģ (ā (ğ Ď č (Ă 1) (ā ă) (fun _ _=>rfl))) (Ă 5))))) ĝ))) ĝ))) fun _ _ _ h=>jz h)))
  (Č (Ġ (fH 2)))))
theorem PL(T:Tx K mg a):Ķ P w K mg base (ų P w) 1 a.Mw a.Mx ["_law_one","_law_other"] (ż ⟨K,ı a⟩ 2 lW):=by
 refine aL (cm:=ı a) (mb:=A_) T.Oc Ov rfl rfl rfl fun cdv A outer s H E hr=>?_
 have hu:=hr.units
 exact(ĉ (Cv PassesOwn.leaving (Ŀ cN (aH hu) (Ă 1) (ā ă) (ħ _))
  (Č (PS.wk (yR (i:=0) (j:=1) rfl Ov.nd rfl rfl (by decide) rfl rfl (ą (v_var 1) (ą (ď Ŏ ō (Ă 0) (Ă 1)) ĝ)) rfl) fun _ _ _ h=>tY h)))
  (Č (Ġ (fH 0))))
theorem PN(T:Tx K mg a):Ķ P w K mg base (ų P w) 2 a.Mz a.MJ ["_law_parts","_law_weights"] (ż ⟨K,ı a⟩ 2 fP):=by
 refine aL (cm:=ı a) (mb:=Ba) T.Od gO rfl rfl rfl fun cdv A outer s H E hr=>?_
 have hu:=hr.units
 exact(ĉ (lE (Ĺ (ą ă (ą ă ĝ))) (lG rfl (Į (Ĝ (i:=2) gO.nd rfl (Or.inl rfl)) (Į (Ĝ (i:=3) gO.nd rfl (Or.inl rfl)) aK))))
  (ĉ (aW PassesOwn.leaving rfl (Uj rfl T.VJ (Df 0) (Df 1)) (nC rfl (Į (Ĝ (i:=4) gO.nd rfl (Or.inl rfl)) (Į (Ĝ (i:=5) gO.nd rfl (Or.inl rfl)) aK)))
  (ĉ (PS.wk (yR (i:=2) (j:=3) rfl gO.nd rfl rfl (by decide) rfl rfl (ą (ģ (ņ ĵ Ĵ (ā (ď ī Ģ (Ă 2) (ā (ğ Ď č (Ă 5) (ā ă) (fun _ _=>rfl))))) (ā (ď ī Ģ (ā (ď ī Ģ (Ă 4) (ā (ğ Ď č (Ă 5) (ā ă) (fun _ _=>rfl))))) (Ă 3))))) (ą (ď ī Ģ (Ă 3) (ā (ğ Ď č (Ă 5) (ā ă) (fun _ _=>rfl)))) ĝ)) rfl) fun _ _ _ h=>tY h)
  (ĉ (İ (i:=6) gO.nd rfl (Or.inl rfl) (Ĕ (PL T) ċ (hr.mono (by decide)) rfl T.lW T.Oc.kp T.Vv Ħ (ĕ (PE.wk (ĩ Gw (by rfl) T.VH PyProof.Rows.boot_abs (Ğ (Ă 2) Ĭ)) fun _ _ _ h=>š Hy h) (ć 3 (hr:=đ)))))
  (Č (PS.wk (yR (i:=2) (j:=3) rfl gO.nd rfl rfl (by decide) rfl rfl (ą (ď ŷ Ť (Ă 2) (Ă 6)) (ą (ď ŷ Ť (Ă 3) (Ă 6)) ĝ)) rfl) fun _ _ _ h=>tY h)))))
  (Č (Ġ (Ĳ (Ĺ (ą (v_var 2) (ą (v_var 3) ĝ))))))))
theorem BL(T:Tx K mg a):Ķ P w K mg base (ų P w) 1 a.MK a.MN ["_law_found"] (ż ⟨K,ı a⟩ 1 gK):=by
 refine aL (cm:=ı a) (mb:=Bb) T.Dr ZaF rfl rfl rfl fun cdv A outer s H E hr=>?_
 have hu:=hr.units
 exact(Č (Ġ (Ĳ (v_and (PE.wk (ĩ gY (by rfl) T.au PyProof.Rows.boot_isinstance (Ğ (Ă 0) (Ğ (ā (Cq (.ty "int") (gP (v:=.ty "int") rfl T.Og PyProof.Rows.boot_int rfl))) Ĭ))) fun _ _ _ h=>š (gZ T.iC T.iT T.iD T.iN) h) (lB (v_not (PE.wk (ĩ gY (by rfl) T.au PyProof.Rows.boot_isinstance (Ğ (Ă 0) (Ğ (ā (Cq (.ty "bool") (gP (v:=.ty "bool") rfl T.Zal PyProof.Rows.boot_bool rfl))) Ĭ))) fun _ _ _ h=>š (gZ T.iC T.iT T.iD T.iN) h)))))))
theorem Za7(T:Tx K mg a):Ķ P w K mg base (ų P w) 3 a.MP a.M_ ["_law_told","_law_points","_law_point"] (ż ⟨K,ı a⟩ 3 pG):=by
 refine aL (cm:=ı a) (mb:=Bc) T.Vx Ow rfl rfl rfl fun cdv A outer s H E hr=>?_
 have hu:=hr.units
 exact(ĉ (Ś (PW.pt (w_or (Ŀ cN (aH hu) (ā (ğ Ď č (Ă 0) (ā ă) (fun _ _=>rfl))) (ā Ż) (ħ _)) (w_or (iJ (aV (ā (PE.wk (ĩ gY (by rfl) T.au PyProof.Rows.boot_isinstance (Ğ (ā (ğ Ď č (Ă 0) (ā ă) (fun _ _=>rfl))) (Ğ (ā (Cq (.ty "list") (gP (v:=.ty "list") rfl T.fG PyProof.Rows.boot_list rfl))) Ĭ))) fun _ _ _ h=>š (gZ T.iC T.iT T.iD T.iN) h)))) (qQ (Ŀ cN (aH hu) (ā (PE.wk (ĩ aD (by rfl) T.cj PySem.boot_len (Ğ (ā (ğ Ď č (Ă 0) (ā ă) (fun _ _=>rfl))) Ĭ)) fun _ _ _ h=>š aF h)) (ā (PE.wk (ĩ aD (by rfl) T.cj PySem.boot_len (Ğ (Ă 1) Ĭ)) fun _ _ _ h=>š aF h)) (ħ _))))))
  (Č (Ġ (Ĳ mj)))
  ĳ)
  (ĉ (aW PassesOwn.leaving rfl (cL (ğ Ď č (Ă 0) (ā ă) (fun _ _=>rfl))) (Ĝ (i:=3) Ow.nd rfl (Or.inl rfl))
  (ĉ (Ś (PW.pt (w_or (iJ (aV (ā (PE.wk (ĩ gY (by rfl) T.au PyProof.Rows.boot_isinstance (Ğ (Ă 3) (Ğ (ā (Cq (.ty "tuple") (gP (v:=.ty "tuple") rfl T.iw PyProof.Rows.boot_tuple rfl))) Ĭ))) fun _ _ _ h=>š (gZ T.iC T.iT T.iD T.iN) h)))) (w_or (Ŀ cN (aH hu) (ā (PE.wk (ĩ aD (by rfl) T.cj PySem.boot_len (Ğ (Ă 3) Ĭ)) fun _ _ _ h=>š aF h)) (ā ă) (ħ _)) (w_or (iJ (aV (ā (ģ (Ĕ (BL T) ċ (hr.mono (by decide)) rfl T.gK T.Dr.kp T.Oe Ħ (ĕ (ğ Ď č (Ă 3) (ā ă) (fun _ _=>rfl)) đ)))))) (qQ (iJ (aV (ā (ģ (Ĕ (BL T) ċ (hr.mono (by decide)) rfl T.gK T.Dr.kp T.Oe Ħ (ĕ (ğ Ď č (Ă 3) (ā ă) (fun _ _=>rfl)) đ)))))))))))
  (Č (Ġ (Ĳ mj)))
  ĳ)
  (Č (Ś (PW.pt (w_or (Ŀ jA jq (ā (ğ Ď č (Ă 3) (ā ă) (fun _ _=>rfl))) (ā ă) (ħ _)) (w_or (Ŀ jA jq (ā (ğ Ď č (Ă 3) (ā ă) (fun _ _=>rfl))) (ā ă) (ħ _)) (qQ (Ŀ cN (aH hu) (ā (ģ (Ĕ (PL T) ċ (hr.mono (by decide)) rfl T.lW T.Oc.kp T.Vv Ħ (ĕ (ğ Ď č (Ă 3) (ā ă) (fun _ _=>rfl)) (ĕ (ğ Ď č (Ă 3) (ā ă) (fun _ _=>rfl)) đ))))) (ā ă) (ħ _))))))
  (Č (Ġ (Ĳ mj)))
  ĳ))))
  (ĉ (Ś (Ŀ cN (aH hu) (ā (ģ (Ĕ (PN T) ċ (hr.mono (by decide)) rfl T.fP T.Od.kp T.Vw Ħ (ĕ (ģ (Ŝ ["_law_one"] [] 1 (Ċ oK) rfl rfl (aM 1) (fun _ _ _ _ _=>(Ĝ (i:=0) (show(["_law_one"]:List Str).Nodup by decide +kernel) rfl (Or.inl rfl) (hf:=Or.inr rfl))) (fun _ _ _ _ _=>ŕ) (fun _ _ _ _ _=>ă) trivial)) (ĕ (ğ Ď č (Ă 0) (ā ă) (fun _ _=>rfl)) đ))))) (ā (Ĺ (ą ă (ą ă ĝ)))) (ħ _))
  (Č (Ġ (Ĳ mj)))
  ĳ)
  (Č (Ġ (Ĳ (bW Ş (ŋ hu) (ā (ģ (Ŝ ["_law_told","_law_points","_law_k"] [0,1] 1 (Ċ oK) rfl rfl (ţ rfl T.Ŵ (ą ă ĝ)) (fun _ _ _ _ _=>(Ĝ (i:=2) (show(["_law_told","_law_points","_law_k"]:List Str).Nodup by decide +kernel) rfl (Or.inr rfl) (hf:=Or.inl rfl))) (fun _ _ _ _ _=>ŕ) (fun _ _ _ _ _=>(ģ (Ĕ (PN T) ċ (hr.mono (by decide)) rfl T.fP T.Od.kp T.Vw aO (ĕ (ģ (Ŝ ["_law_k","_law_one"] [2] 1 _ rfl rfl (aM 1) (fun _ _ _ _ _=>(Ĝ (i:=1) (show(["_law_k","_law_one"]:List Str).Nodup by decide +kernel) rfl (Or.inl rfl) (hf:=Or.inr rfl))) (fun _ _ _ _ _=>ŕ) (fun _ _ _ _ _=>(ğ Ď č (Ă 1) (Ă 0) (fun _ _=>rfl))) ⟨rfl,⟨rfl,Or.inl rfl⟩,trivial⟩ (hfree:=Z3n (by kernel_rfl)))) (ĕ (ğ Ď č (Ă 0) (ā ă) (fun _ _=>rfl)) đ))))) ⟨rfl,⟨rfl,Or.inl rfl⟩,⟨rfl,⟨rfl,Or.inl rfl⟩,trivial⟩⟩))) (ā (ģ (Ũ (ą (Ĺ (ą (ğ Ď č (Ă 2) (ā ă) (fun _ _=>rfl)) (ą ă ĝ))) (ą (Ĺ (ą (ğ Ď č (Ă 2) (ā ă) (fun _ _=>rfl)) (ą ă ĝ))) ĝ))))) (ħ _))))))))
theorem Za8(T:Tx K mg a):Ķ P w K mg base (ų P w) 2 a.Nb a.Nf ["_law_told","_law_points","_law_point"] (ż ⟨K,ı a⟩ 3 pH):=by
 refine aL (cm:=ı a) (mb:=Bd) T.Vy vD rfl rfl rfl fun cdv A outer s H E hr=>?_
 have hu:=hr.units
 exact(ĉ (Ś (PW.pt (w_or (Ŀ cN (aH hu) (ā (ğ Ď č (Ă 0) (ā ă) (fun _ _=>rfl))) (ā Ż) (ħ _)) (w_or (iJ (aV (ā (PE.wk (ĩ gY (by rfl) T.au PyProof.Rows.boot_isinstance (Ğ (ā (ğ Ď č (Ă 0) (ā ă) (fun _ _=>rfl))) (Ğ (ā (Cq (.ty "tuple") (gP (v:=.ty "tuple") rfl T.iw PyProof.Rows.boot_tuple rfl))) Ĭ))) fun _ _ _ h=>š (gZ T.iC T.iT T.iD T.iN) h)))) (qQ (Ŀ cN (aH hu) (ā (PE.wk (ĩ aD (by rfl) T.cj PySem.boot_len (Ğ (ā (ğ Ď č (Ă 0) (ā ă) (fun _ _=>rfl))) Ĭ)) fun _ _ _ h=>š aF h)) (ā ă) (ħ _))))))
  (Č (Ġ (Ĳ mj)))
  ĳ)
  (ĉ (Ś (iJ (aV (ā (PE.wk (ĩ (jW rfl) (by rfl) T.sV PyProof.Rows.boot_all (Ğ (ā (ģ (Ŝ ["_law_one"] [] 1 (Ċ oM) rfl rfl (cL (ğ Ď č (Ă 0) (ā ă) (fun _ _=>rfl))) (fun _ _ _ _ _=>(Ĝ (i:=0) (show(["_law_one"]:List Str).Nodup by decide +kernel) rfl (Or.inl rfl) (hf:=Or.inr rfl))) (fun _ _ _ _ _=>ŕ) (fun _ _ _ _ _=>(ģ (Ĕ (BL T) ċ (hr.mono (by decide)) rfl T.gK T.Dr.kp T.Oe aO (ć 0 (hr:=đ))))) trivial))) Ĭ)) fun _ _ _ h=>š jY h))))
  (Č (Ġ (Ĳ mj)))
  ĳ)
  (ĉ (lE (ğ Ď č (Ă 0) (ā ă) (fun _ _=>rfl)) (lG rfl (Į (Ĝ (i:=3) vD.nd rfl (by first|exact Or.inl rfl|exact Or.inr rfl)) (Į (Ĝ (i:=4) vD.nd rfl (by first|exact Or.inl rfl|exact Or.inr rfl)) (Į (Ĝ (i:=5) vD.nd rfl (by first|exact Or.inl rfl|exact Or.inr rfl)) aK)))))
  (ĉ (Ś (Ŀ jB jr (ā (ģ (ņ ĵ Ĵ (ā (ď ī Ģ (Ă 3) (ā (ğ Ď č (Ă 2) (ā ă) (fun _ _=>rfl))))) (ā (ď ī Ģ (Ă 4) (ā (ğ Ď č (Ă 2) (ā ă) (fun _ _=>rfl)))))))) (Ă 5) (ħ _))
  (Č (Ġ (Ĳ mj)))
  ĳ)
  (Č (Ġ (Ĳ (PE.wk (ĩ (jW rfl) (by rfl) T.sV PyProof.Rows.boot_all (Ğ (ā (ģ (Ŝ ["_law_most","_law_across","_law_down","_law_one"] [5,3,4] 1 (Ċ oM) rfl rfl (aM 1) (fun _ _ _ _ _=>(Ĝ (i:=3) (show(["_law_most","_law_across","_law_down","_law_one"]:List Str).Nodup by decide +kernel) rfl (Or.inl rfl) (hf:=Or.inr rfl))) (fun _ _ _ _ _=>ŕ) (fun _ _ _ _ _=>(bW jB jr (ā (ģ (ņ ĵ Ĵ (ā (ď ī Ģ (Ă 1) (ā (ğ Ď č (Ă 3) (ā ă) (fun _ _=>rfl))))) (ā (ď ī Ģ (Ă 2) (ā (ğ Ď č (Ă 3) (ā ă) (fun _ _=>rfl)))))))) (Ă 0) (ħ _))) ⟨rfl,⟨rfl,Or.inl rfl⟩,⟨rfl,⟨rfl,Or.inl rfl⟩,⟨rfl,⟨rfl,Or.inl rfl⟩,trivial⟩⟩⟩))) Ĭ)) fun _ _ _ h=>š jY h))))))))
theorem Za9(T:Tx K mg a):Ķ P w K mg base (ų P w) 7 a.Ng a.Nh ["_law_stone_here","_law_ray_here","_law_drawn","_law_things","_law_one"] (ż ⟨K,ı a⟩ 5 pI):=by
 refine aL (cm:=ı a) (mb:=vq) T.Vz pR rfl rfl rfl fun cdv A outer s H E hr=>?_
 have hu:=hr.units
 exact(ĉ (İ (i:=5) pR.nd rfl (Or.inl rfl) (Ĳ (Ĺ (ą (ď ī Ģ (ā (ď ī Ģ (ā ă) (ā (ğ Ď č (Ă 1) (ā ă) (fun _ _=>rfl))))) (ā (ğ Ď č (Ă 0) (ā ă) (fun _ _=>rfl)))) (ą (ď ī Ģ (ā (ď ī Ģ (ā ă) (ā (ğ Ď č (Ă 1) (ā ă) (fun _ _=>rfl))))) (ā (ğ Ď č (Ă 0) (ā ă) (fun _ _=>rfl)))) ĝ)))))
  (ĉ (aW PassesOwn.leaving rfl (ţ rfl T.Ŵ (ą (PE.wk (ĩ aD (by rfl) T.cj PySem.boot_len (Ğ (Ă 2) Ĭ)) fun _ _ _ h=>š aF h) ĝ)) (Ĝ (i:=6) pR.nd rfl (Or.inl rfl))
  (ĉ (İ (i:=7) pR.nd rfl (Or.inl rfl) (Ĕ (PJ T) ċ (hr.mono (by decide)) rfl T.dY T.Ob.kp T.Vs Ħ (ĕ (ğ Ď č (Ă 3) (Ă 6) (fun _ _=>rfl)) (ć 0 (hr:=(ć 1 (hr:=đ)))))))
  (ĉ (Ś (PW.pt (w_or (iJ (aV (ā (PE.wk (ĩ gY (by rfl) T.au PyProof.Rows.boot_isinstance (Ğ (Ă 7) (Ğ (ā (Cq (.ty "tuple") (gP (v:=.ty "tuple") rfl T.iw PyProof.Rows.boot_tuple rfl))) Ĭ))) fun _ _ _ h=>š (gZ T.iC T.iT T.iD T.iN) h)))) (qQ (Ŀ cN (aH hu) (ā (PE.wk (ĩ aD (by rfl) T.cj PySem.boot_len (Ğ (Ă 7) Ĭ)) fun _ _ _ h=>š aF h)) (ā ă) (ħ _)))))
  (Č (Ġ (Ĳ mj)))
  ĳ)
  (ĉ (İ (i:=8) pR.nd rfl (Or.inl rfl) (Ĕ (Za6 T) ċ (hr.mono (by decide)) rfl T.pF T.Vu.kp T.ZdX Ħ (ĕ (ğ Ď č (Ă 2) (Ă 6) (fun _ _=>rfl)) (ć 1 (hr:=đ)))))
  (ĉ (Ś (Ŀ Ş (ŋ hu) (Ă 6) (Ă 4) (ħ _))
  (Č (Ġ (Ĕ (Za7 T) ċ (hr.mono (by decide)) rfl T.pG T.Vx.kp T.ZdY Ħ (ć 7 (hr:=(ć 8 (hr:=(ć 5 (hr:=đ)))))))))
  ĳ)
  (Č (Ś (iJ (aV (ā (ģ (Ĕ (Za8 T) ċ (hr.mono (by decide)) rfl T.pH T.Vy.kp T.ZdZ Ħ (ć 7 (hr:=(ć 8 (hr:=(ć 5 (hr:=đ)))))))))))
  (Č (Ġ (Ĳ mj)))
  ĳ)))))))
  (Č (Ġ (Ĳ (bW Ht yW (Ă 4) (ā qP) (ħ _)))))))
theorem Za_(T:Tx K mg a):Ķ P w K mg base (ų P w) 8 a.Ni a.Nj ["_law_script"] (ż ⟨K,ı a⟩ 1 pJ):=by
 refine aL (cm:=ı a) (mb:=Bf) T.Zd1 cR rfl rfl rfl fun cdv A outer s H E hr=>?_
 have hu:=hr.units
 exact(ĉ (İ (i:=1) cR.nd rfl (by first|exact Or.inl rfl|exact Or.inr rfl) (Ĕ (ZaG T) ċ (hr.mono (by decide)) rfl T.dU T.Um.kp T.Zdo Ħ (ĕ (ģ (Ĕ (Pj T) ċ (hr.mono (by decide)) rfl T.dg T.Nv.kp T.Va Ħ (ć 0 (hr:=(ĕ ă đ))))) (ĕ ă đ))))
  (ĉ (İ (i:=2) cR.nd rfl (by first|exact Or.inl rfl|exact Or.inr rfl) (Ĕ (ZaH T) ċ (hr.mono (by decide)) rfl T.lH T.Uq.kp T.Zdp Ħ (ĕ (ģ (Ĕ (Pj T) ċ (hr.mono (by decide)) rfl T.dg T.Nv.kp T.Va Ħ (ć 0 (hr:=(ĕ ă đ))))) đ)))
  (ĉ (ur (i:=3) cR.nd rfl rfl ["_law_size_here","_law_cell"] [1] 1 (Ċ fM) rfl rfl (cL (ģ (cV (Ă 0) (aX ă) (aX ă)))) (fun _ _ _ _ _=>(Ĝ (i:=1) (show(["_law_size_here","_law_cell"]:List Str).Nodup by decide +kernel) rfl (Or.inl rfl) (hf:=Or.inr rfl))) (fun _ _ _ _ _=>ŕ) (fun _ _ _ _ _=>(ģ (Ĕ (ZaU T) ċ (hr.mono (by decide)) rfl T.dW T.Vc.kp T.ZdI aO (ć 1 (hr:=(ĕ (PE.wk (ĩ (zP rfl) (by rfl) T.Dt PyProof.Rows.boot_max (Ğ (Ă 0) Ĭ)) fun _ _ _ h=>š zR h) đ)))))) ⟨rfl,⟨rfl,Or.inl rfl⟩,trivial⟩)
  (ĉ (İ (i:=4) cR.nd rfl (by first|exact Or.inl rfl|exact Or.inr rfl) (Ŝ ["_law_word","_law_numbers"] [] 2 (Ċ fM) rfl rfl (aM 3) (fun _ _ _ _ _=>(nC rfl (Į (Ĝ (i:=0) (show(["_law_word","_law_numbers"]:List Str).Nodup by decide +kernel) rfl (Or.inl rfl) (hf:=Or.inr rfl)) (Į (Ĝ (i:=1) (show(["_law_word","_law_numbers"]:List Str).Nodup by decide +kernel) rfl (Or.inl rfl) (hf:=Or.inr rfl)) aK)))) (fun _ _ _ _ _=>ŕ) (fun _ _ _ _ _=>(ģ (Ĕ (ZaY T) ċ (hr.mono (by decide)) rfl T.cQ T.Vi.kp T.ZdO aO (ć 0 (hr:=(ĕ (ģ (PE.wk (ş cW (by rfl) T.fG PyProof.Rows.boot_list (Ğ (Ă 1) Ĭ)) fun _ _ _ h=>vP cX h)) đ)))))) trivial))
  (ĉ (İ (i:=5) cR.nd rfl (Or.inl rfl) (Ĳ (jZ T.Zak (Oz T) cD (hr.mono (by decide)) rfl T.Zad T.ZkX Ħ (ĕ (ğ Ď č (Ă 1) (ā ă) (fun _ _=>rfl)) (ĕ (ğ Ď č (Ă 1) (ā ă) (fun _ _=>rfl)) (ć 4 (hr:=(ĕ (ģ (Ũ ĝ)) đ))))))))
  (ĉ (İ (i:=6) cR.nd rfl (Or.inl rfl) (Ĕ (ZaR T) ċ (hr.mono (by decide)) rfl T.iV T.UL.kp T.ZdF Ħ (ć 5 (hr:=(ć 2 (hr:=đ))))))
  (ĉ (İ (i:=7) cR.nd rfl (Or.inl rfl) (Ĕ (ZaT T) ċ (hr.mono (by decide)) rfl T.oO T.U_.kp T.ZdH Ħ (ć 5 (hr:=(ć 2 (hr:=đ))))))
  (ĉ (Ś (PW.pt (w_or (Ŀ cN (aH hu) (ā (PE.wk (ĩ aD (by rfl) T.cj PySem.boot_len (Ğ (Ă 7) Ĭ)) fun _ _ _ h=>š aF h)) (ā (ď ī Ģ (ā (ğ Ď č (Ă 1) (ā ă) (fun _ _=>rfl))) (ā (ğ Ď č (Ă 1) (ā ă) (fun _ _=>rfl))))) (ħ _)) (qQ (Ŀ Ud TF (Ă 6) (ā (ď nF nH (ā ă) (ā (PE.wk (ĩ aD (by rfl) T.cj PySem.boot_len (Ğ (Ă 7) Ĭ)) fun _ _ _ h=>š aF h)))) (ħ _)))))
  (Č (Ġ (Ĳ mj)))
  ĳ)
  (ĉ (aW PassesOwn.leaving rfl (ţ rfl T.Ŵ (ą (PE.wk (ĩ aD (by rfl) T.cj PySem.boot_len (Ğ (Ă 7) Ĭ)) fun _ _ _ h=>š aF h) ĝ)) (Ĝ (i:=8) cR.nd rfl (Or.inl rfl))
  (ĉ (Ś (Ŀ cN (aH hu) (ā (ď Ŏ ō (ā (ď Ho Hq (Ă 6) (Ă 8))) (ā ă))) (ā (PE.wk (ş Ii (by rfl) T.Og PyProof.Rows.boot_int (Ğ (ā (bW Hv Qy (ā (ğ Ď č (Ă 7) (Ă 8) (fun _ _=>rfl))) (ā qP) (ħ _))) Ĭ)) fun _ _ _ h=>š Ij h)) (ħ _))
  (Č (Ġ (Ĳ mj)))
  ĳ)
  (Č (Ś (iJ (aV (ā (ģ (Ĕ (Za9 T) ċ (hr.mono (by decide)) rfl T.pI T.Vz.kp T.Zd0 Ħ (ĕ (Ĺ (ą (ď Ŏ ō (Ă 8) (ā (ğ Ď č (Ă 1) (ā ă) (fun _ _=>rfl)))) (ą (ď ŷ Ť (Ă 8) (ā (ğ Ď č (Ă 1) (ā ă) (fun _ _=>rfl)))) ĝ))) (ć 2 (hr:=(ć 3 (hr:=(ć 4 (hr:=(ĕ (ğ Ď č (Ă 7) (Ă 8) (fun _ _=>rfl)) đ)))))))))))))
  (Č (Ġ (Ĳ mj)))
  ĳ))))
  (ĉ (Ś (Ŀ Ş (ŋ hu) (Ă 3) (ā (ģ (Ũ ĝ))) (ħ _))
  (Č (Ġ (Ĳ (bW Ş (ŋ hu) (Ă 6) (ā ă) (ħ _)))))
  ĳ)
  (ĉ (İ (i:=9) cR.nd rfl (by first|exact Or.inl rfl|exact Or.inr rfl) (Ŝ ["_law_ray_here","_law_things","_law_size_here","_law_number"] [2,4,1] 1 (Ċ fM) rfl rfl (ţ rfl T.Ŵ (ą (PE.wk (ĩ aD (by rfl) T.cj PySem.boot_len (Ğ (Ă 7) Ĭ)) fun _ _ _ h=>š aF h) ĝ)) (fun _ _ _ _ _=>(Ĝ (i:=3) (show(["_law_ray_here","_law_things","_law_size_here","_law_number"]:List Str).Nodup by decide +kernel) rfl (Or.inl rfl) (hf:=Or.inr rfl))) (fun _ _ _ _ _=>ŕ) (fun _ _ _ _ _=>(ğ Ď č (ā (ģ (Ĕ (PJ T) ċ (hr.mono (by decide)) rfl T.dY T.Ob.kp T.Vs aO (ĕ (ğ Ď č (Ă 1) (ā ă) (fun _ _=>rfl)) (ĕ (Ĺ (ą (ď Ŏ ō (Ă 3) (ā (ğ Ď č (Ă 2) (ā ă) (fun _ _=>rfl)))) (ą (ď ŷ Ť (Ă 3) (ā (ğ Ď č (Ă 2) (ā ă) (fun _ _=>rfl)))) ĝ))) (ć 0 (hr:=đ))))))) (ā ă) (fun _ _=>rfl))) ⟨rfl,⟨rfl,Or.inl rfl⟩,⟨rfl,⟨rfl,Or.inl rfl⟩,⟨rfl,⟨rfl,Or.inl rfl⟩,trivial⟩⟩⟩))
  (ĉ (İ (i:=10) cR.nd rfl (Or.inl rfl) (Ĳ (PE.wk (ĩ (zN rfl) (by rfl) T.Oh PyProof.Rows.boot_sum (Ğ (ā (ģ (Ŝ ["_law_told","_law_number"] [9] 1 (Ċ fM) rfl rfl (ţ rfl T.Ŵ (ą (PE.wk (ĩ aD (by rfl) T.cj PySem.boot_len (Ğ (Ă 7) Ĭ)) fun _ _ _ h=>š aF h) ĝ)) (fun _ _ _ _ _=>(Ĝ (i:=1) (show(["_law_told","_law_number"]:List Str).Nodup by decide +kernel) rfl (Or.inl rfl) (hf:=Or.inr rfl))) (fun _ _ _ _ _=>(XQ (Ŀ Ş (ŋ hu) (ā (ğ Ď č (Ă 0) (Ă 1) (fun _ _=>rfl))) (ā Ż) (ħ _)))) (fun _ _ _ _ _=>(ď nF nH (ā ă) (Ă 1))) ⟨rfl,⟨rfl,Or.inl rfl⟩,trivial⟩))) Ĭ)) fun _ _ _ h=>š zQ h)))
  (Č (Ġ (Ĳ (bW Ş (ŋ hu) (ā (ģ (Ĕ (Ph T) ċ (hr.mono (by decide)) rfl T.gG T.Nu.kp T.UJ Ħ (ć 5 (hr:=(ĕ (ğ Ď č (Ă 4) (ā ă) (fun _ _=>rfl)) (ć 2 (hr:=đ)))))))) (Ă 10) (ħ _)))))))))))))))))
end
def pt(p:Hu.Pt):PV:=.tup [.int p.1,.int p.2]
def cT(l:Hu.Ln):PV:=.tup [.int l.1,.int l.2.1,.int l.2.2]
def Sm(p:Hu.Pt):Prop:=-100000000000000000≤p.1∧p.1≤100000000000000000∧ -100000000000000000≤p.2∧p.2≤100000000000000000
def Td(l:Hu.Ln):Prop:=-1000000000000000000≤l.1∧l.1≤1000000000000000000∧ -1000000000000000000≤l.2.1∧l.2.1≤1000000000000000000
theorem Z0C{x y:Hu.Pt}:eqB (pt y) (pt x)=decide (y=x):=by
 obtain⟨a,b⟩:=x
 obtain⟨c,d⟩:=y
 unfold pt
 rw[Yp,Bool.eq_iff_iff]
 simp
theorem ZL(x:Hu.Pt):aq (pt x)=true:=by simp[pt,aq,bD]
theorem ZJ(x:Hu.Pt):dep (pt x)=1:=by simp[pt,dep,vY]
theorem Z2T(S:List Hu.Pt):bD (S.map pt)=true:=by
 induction S with
 |nil=>simp[bD]
 |cons p S ih=>simp[bD,ZL,ih]
theorem Z1A(x:Hu.Pt):∀k:List Hu.Pt,(k.map pt).any (fun y=>eqB y (pt x))=decide (x∈k)
 | []=>by simp
 |y::k=>by
  rw[List.map_cons,List.any_cons,Z1A x k,Z0C,Bool.eq_iff_iff]
  simp
  constructor
  ·rintro (e|e)
   ·exact .inl e.symm
   ·exact .inr e
  ·rintro (e|e)
   ·exact .inl e.symm
   ·exact .inr e
theorem Z0D(x:Hu.Pt)(k:List Hu.Pt):inD true (pt x) (.lst (k.map pt))=some (.bl (!decide (x∈k))):=by
 unfold inD
 simp only[ZL,Z2T,ZJ,Z1A]
 rfl
theorem Z0y(x y:Hu.Pt):aN (pt x) (pt y)=some (.bl (!decide (x=y))):=by
 unfold aN nO
 rw[ZL,ZL,ZJ,ZJ,Z0C]
 rfl
theorem Z2s{a b:Hu.Pt}(ha:Sm a)(hb:Sm b):sy [.sh (pt a),.sh (pt b)]=.ret (.sh (cT (Hu.Z2 a b))):=by
 obtain⟨a1,a2,a3,a4⟩:=ha
 obtain⟨b1,b2,b3,b4⟩:=hb
 have m1:ň (b.2-a.2) a.1=true:=ű (by omega) (by omega)
 have m2:ň (a.1-b.1) a.2=true:=ű (by omega) (by omega)
 simp[sy,zZ,List.replicate,pt,cT,Hu.Z2,m1,m2]
theorem Z0E{l:Hu.Ln}(hl:Td l)(p:Hu.Pt):iR [.sh (cT l),.sh (pt p)]=.ret (.sh (.bl (Hu.hd l p))):=by
 obtain⟨a1,a2,a3,a4⟩:=hl
 have m1:ň l.1 p.1=true:=ű (by omega) (by omega)
 have m2:ň l.2.1 p.2=true:=ű (by omega) (by omega)
 simp[iR,z_,List.replicate,pt,cT,Hu.hd,m1,m2]
theorem Z15{a b:Hu.Pt}(ha:Sm a)(hb:Sm b):Td (Hu.Z2 a b):=by
 obtain⟨a1,a2,a3,a4⟩:=ha
 obtain⟨b1,b2,b3,b4⟩:=hb
 simp only[Td,Hu.Z2]
 omega
def Sl(s:P.Slot)(ps:List PV):Prop:=s=.sh (.lst ps)∨s=.bw ps
theorem Sl.lend{s:P.Slot}{ps:List PV}(h:Sl s ps):dI s=some s:=by rcases h with rfl|rfl<;>rfl
theorem Sl.it{s:P.Slot}{ps:List PV}(h:Sl s ps){i:Nat}{ρ:Ŗ}(e:ρ[i]?=some s):Ţ i ρ=.ok ps ρ:= by
 rcases h with rfl|rfl<;>simp[e]
theorem Z2t{S:List Hu.Pt}{sl:P.Slot}(hs:Sl sl (S.map pt))(hl:S.length≤1000):su [sl]=.ret (.ow ((Hu.Z3 S).map pt)):=by
 have hlen:∀(xs k:List Hu.Pt),(xs.foldl (fun k x=>if x∈k then k else k ++ [x]) k).length≤k.length+xs.length:=by
  intro xs
  induction xs with
  |nil=>intro k;simp
  |cons x xs ih=>
   intro k
   rw[List.foldl_cons]
   refine Nat.le_trans (ih _) ?_
   split
   ·simp
   ·simp;omega
 have key:∀(xs:List Hu.Pt) (k:List Hu.Pt) (s2:P.Slot),k.length+xs.length≤1000→∃s2',forL (gN 2) kI (xs.map pt) [sl,.ow (k.map pt),s2]=.ok .nx [sl,.ow ((xs.foldl (fun k x=>if x∈k then k else k ++ [x]) k).map pt),s2']:=by
  intro xs
  induction xs with
  |nil=>intro k s2 _;exact⟨s2,rfl⟩
  |cons x xs ih=>
   intro k s2 hk
   rw[List.length_cons] at hk
   by_cases hx:x∈k
   ·obtain⟨s2',e⟩:=ih k (.sh (pt x)) (by omega)
    refine⟨s2',?_⟩
    have hb:kI [sl,.ow (k.map pt),.sh (pt x)]=.ok .nx [sl,.ow (k.map pt),.sh (pt x)]:=by simp[kI,Z0D,hx]
    rw[List.map_cons,List.foldl_cons,if_pos hx,forL]
    simp[hb,e]
   ·obtain⟨s2',e⟩:=ih (k ++ [x]) (.sh (pt x)) (by simp;omega)
    refine⟨s2',?_⟩
    have h3:k.length<16777216:=by omega
    have hb:kI [sl,.ow (k.map pt),.sh (pt x)]=.ok .nx [sl,.ow ((k ++ [x]).map pt),.sh (pt x)]:=by simp[kI,Z0D,hx,h3]
    rw[List.map_cons,List.foldl_cons,if_neg hx,forL]
    simp only[HJ,List.set_cons_succ,List.set_cons_zero,hb,Res.aU]
    exact e
 obtain⟨s2,e⟩:=key S [] .no (by simpa using hl)
 have hit:=hs.it (i:=0) (ρ:= [sl,.ow [],.no]) rfl
 simp only[List.map_nil] at e
 simp[su,zY,List.replicate,-zM,hit,e]
 rfl
theorem Z1B(x:Int)(l:List Int):iM [.lst ((x::l).map .int)]=some (.int (Hu.mx (x::l))):=by
 show((intsOf ((x::l).map .int)).bind (best max)).map PV.int=_
 rw[fu]
 rfl
theorem Z1C(x:Int)(l:List Int):qZ [.lst ((x::l).map .int)]=some (.int (Hu.mn (x::l))):=by
 show((intsOf ((x::l).map .int)).bind (best min)).map PV.int=_
 rw[fu]
 rfl
theorem Z2U{S:List Hu.Pt}{sl:P.Slot}(hs:Sl sl (S.map pt))(h0:S≠[])(hl:S.length≤1000):rZ [sl]=.ret (.ow ((Hu.box S).map cT)):=by
 have c1:ń (gN 0) Ņ (Ć Ē (Ā 0) (mC (.int 0))) (S.map pt) [.no] []=some ((S.map (·.1)).map .int):=by
  have:=Ŋ (g:=gN 0) (mt:=Ņ) (me:=Ć Ē (Ā 0) (mC (.int 0))) pt (fun p=>.int p.1) (fun ρ=>∃s,ρ=[s]) S [.no] [] ⟨_,rfl⟩ (by simp;omega) (by
   rintro x hx ρ ⟨s,rfl⟩
   exact⟨[.sh (pt x)],[.sh (pt x)],[.sh (pt x)],by simp,by simp,by simp[pt],_,rfl⟩)
  rw[this]
  simp
 have c2:ń (gN 0) Ņ (Ć Ē (Ā 0) (mC (.int 1))) (S.map pt) [.no] []=some ((S.map (·.2)).map .int):=by
  have:=Ŋ (g:=gN 0) (mt:=Ņ) (me:=Ć Ē (Ā 0) (mC (.int 1))) pt (fun p=>.int p.2) (fun ρ=>∃s,ρ=[s]) S [.no] [] ⟨_,rfl⟩ (by simp;omega) (by
   rintro x hx ρ ⟨s,rfl⟩
   exact⟨[.sh (pt x)],[.sh (pt x)],[.sh (pt x)],by simp,by simp,by simp[pt],_,rfl⟩)
  rw[this]
  simp
 obtain⟨p,R,rfl⟩:=List.exists_cons_of_ne_nil h0
 have x1:=Z1B p.1 (R.map (·.1))
 have x2:=Z1C p.1 (R.map (·.1))
 have x3:=Z1B p.2 (R.map (·.2))
 have x4:=Z1C p.2 (R.map (·.2))
 have hit:∀s1 s2,Ţ 0 [sl,s1,s2]=.ok ((p::R).map pt) [sl,s1,s2]:=fun s1 s2=>hs.it rfl
 have b:(Hu.box (p::R)).map cT=[.tup [.int 1,.int 0,.int (Hu.mx (p.1::R.map (·.1)))],.tup [.int (-1),.int 0,.int (- Hu.mn (p.1::R.map (·.1)))],.tup [.int 0,.int 1,.int (Hu.mx (p.2::R.map (·.2)))],.tup [.int 0,.int (-1),.int (- Hu.mn (p.2::R.map (·.2)))]]:=rfl
 rw[b]
 generalize (p::R).map pt=ps at hit c1 c2
 rw[List.map_cons] at c1 c2
 generalize (p.1::R.map (·.1)).map PV.int=us at c1 x1 x2
 generalize (p.2::R.map (·.2)).map PV.int=vs at c2 x3 x4
 simp[rZ,zX,List.replicate,-zM,-RW,-RX,hit,c1,c2,x1,x2,x3,x4]
theorem Z0p:∀l:List Bool,boolsOf (l.map .bl)=some l
 | []=>rfl
 |x::l=>by rw[List.map_cons,boolsOf,Z0p l];rfl
theorem Z0F(l:List Bool):jX [.lst (l.map .bl)]=some (.bl (l.all id)):=by
 show(boolsOf (l.map .bl)).map (fun bs=>PV.bl (bs.all id))=_
 rw[Z0p]
 rfl
theorem ZM(S:List Hu.Pt):(Hu.Z3 S).length≤S.length:=by
 have:∀(xs k:List Hu.Pt),(xs.foldl (fun k x=>if x∈k then k else k ++ [x]) k).length≤k.length+xs.length:=by
  intro xs
  induction xs with
  |nil=>intro k;simp
  |cons x xs ih=>
   intro k
   rw[List.foldl_cons]
   refine Nat.le_trans (ih _) ?_
   split
   ·simp
   ·simp;omega
 have h:=this S []
 rw[List.length_nil,Nat.zero_add] at h
 exact h
theorem Z1D{S:List Hu.Pt}(hS:∀p∈S,Sm p)(hl:S.length≤1000){a b:Hu.Pt}(ha:a∈S)(hb:b∈S)(s0 s5:P.Slot)(L:List Hu.Ln)(hL:L.length<16777216) :
 kJ [s0,.ow (L.map cT),.sh (.lst ((Hu.Z3 S).map pt)),.sh (pt a),.sh (pt b),s5]=.ok .nx [s0,.ow ((L++(if a≠b∧(Hu.Z3 S).all (Hu.hd (Hu.Z2 a b)) then[Hu.Z2 a b] else[])).map cT),.sh (.lst ((Hu.Z3 S).map pt)),.sh (pt a),.sh (pt b),.sh (cT (Hu.Z2 a b))]:=by
 have hsm:=Z15 (hS a ha) (hS b hb)
 have c1:ń (gN 1) Ņ (Ę (Ė iR (Ĉ 0 (Ĉ 1 ē)))) ((Hu.Z3 S).map pt) [.sh (cT (Hu.Z2 a b)),.no] []=some (((Hu.Z3 S).map (Hu.hd (Hu.Z2 a b))).map .bl):=by
  have hlen:(Hu.Z3 S).length≤16777216:=by have:=ZM S;omega
  have:=Ŋ (g:=gN 1) (mt:=Ņ) (me:=Ę (Ė iR (Ĉ 0 (Ĉ 1 ē)))) pt (fun p=>.bl (Hu.hd (Hu.Z2 a b) p)) (fun ρ=>∃s,ρ=[.sh (cT (Hu.Z2 a b)),s]) (Hu.Z3 S) [.sh (cT (Hu.Z2 a b)),.no] [] ⟨_,rfl⟩ (by simpa using hlen) (by
   rintro x hx ρ ⟨s,rfl⟩
   exact⟨[.sh (cT (Hu.Z2 a b)),.sh (pt x)],[.sh (cT (Hu.Z2 a b)),.sh (pt x)],[.sh (cT (Hu.Z2 a b)),.sh (pt x)],by simp,by simp,by simp[Z0E hsm],_,rfl⟩)
  rw[this]
  simp
 have c2:=Z0F ((Hu.Z3 S).map (Hu.hd (Hu.Z2 a b)))
 have e1:=Z2s (hS a ha) (hS b hb)
 have e3:((Hu.Z3 S).map (Hu.hd (Hu.Z2 a b))).all id=(Hu.Z3 S).all (Hu.hd (Hu.Z2 a b)):=by simp
 rw[e3] at c2
 generalize ((Hu.Z3 S).map (Hu.hd (Hu.Z2 a b))).map PV.bl=bs at c1 c2
 by_cases h1:a=b
 ·subst h1
  simp[kJ,e1,Z0y]
 ·by_cases h2:(Hu.Z3 S).all (Hu.hd (Hu.Z2 a b))=true
  ·rw[h2] at c2
   simp[kJ,e1,Z0y,h1,c1,c2,h2,hL,-List.all_eq_true]
  ·rw[Bool.not_eq_true] at h2
   rw[h2] at c2
   simp[kJ,e1,Z0y,h1,c1,c2,h2,hL,-List.all_eq_true,-List.all_eq_false]
theorem Z1Z{S:List Hu.Pt}(hS:∀p∈S,Sm p)(hl:S.length≤1000){a:Hu.Pt}(ha:a∈S)(s0:P.Slot):∀(xs:List Hu.Pt) (L:List Hu.Ln) (s4 s5:P.Slot),(∀x∈xs,x∈S)→L.length+xs.length<16777216→
 ∃FJ Qc,forL (gN 4) kJ (xs.map pt) [s0,.ow (L.map cT),.sh (.lst ((Hu.Z3 S).map pt)),.sh (pt a),s4,s5]=.ok .nx [s0,.ow ((L++xs.filterMap fun b=>if a≠b∧(Hu.Z3 S).all (Hu.hd (Hu.Z2 a b)) then some (Hu.Z2 a b) else none).map cT),.sh (.lst ((Hu.Z3 S).map pt)),.sh (pt a),FJ,Qc]:=by
 intro xs
 induction xs with
 |nil=>intro L s4 s5 _ _;exact⟨s4,s5,by simp[forL]⟩
 |cons b xs ih=>
  intro L s4 s5 hx hL
  rw[List.length_cons] at hL
  have hb:=Z1D hS hl ha (hx b (by simp)) s0 s5 L (by omega)
  obtain⟨FJ,Qc,e⟩:=ih (L++(if a≠b∧(Hu.Z3 S).all (Hu.hd (Hu.Z2 a b)) then[Hu.Z2 a b] else[])) (.sh (pt b)) (.sh (cT (Hu.Z2 a b))) (fun x h=>hx x (List.mem_cons_of_mem _ h)) (by
   rw[List.length_append]
   split
   ·simp;omega
   ·simp;omega)
  refine⟨FJ,Qc,?_⟩
  rw[List.map_cons,forL]
  simp only[HJ,List.set_cons_succ,List.set_cons_zero,hb,Res.aU]
  rw[e,List.filterMap_cons]
  by_cases hc:a≠b∧(Hu.Z3 S).all (Hu.hd (Hu.Z2 a b))=true
  ·rw[if_pos hc,if_pos hc]
   simp only[List.append_assoc,List.cons_append,List.nil_append]
  ·rw[if_neg hc,if_neg hc]
   simp only[List.append_nil]
theorem ZR{α β:Type}(f:α→Option β)(l:List α):(l.filterMap f).length≤l.length:=List.length_filterMap_le ..
theorem Z20{S:List Hu.Pt}(hS:∀p∈S,Sm p)(hl:S.length≤1000)(s0:P.Slot):∀(xs:List Hu.Pt) (L:List Hu.Ln) (s3 s4 s5:P.Slot),(∀x∈xs,x∈S)→L.length+xs.length*1000<10000000→
 ∃s3' FJ Qc,forL (gN 3) uF (xs.map pt) [s0,.ow (L.map cT),.sh (.lst ((Hu.Z3 S).map pt)),s3,s4,s5]=.ok .nx [s0,.ow ((L++xs.flatMap fun a=>(Hu.Z3 S).filterMap fun b=>if a≠b∧(Hu.Z3 S).all (Hu.hd (Hu.Z2 a b)) then some (Hu.Z2 a b) else none).map cT),.sh (.lst ((Hu.Z3 S).map pt)),s3',FJ,Qc]:=by
 intro xs
 induction xs with
 |nil=>intro L s3 s4 s5 _ _;exact⟨s3,s4,s5,by simp[forL]⟩
 |cons a xs ih=>
  intro L s3 s4 s5 hx hL
  rw[List.length_cons] at hL
  have ho:=ZM S
  obtain⟨a4,a5,e1⟩:=Z1Z hS hl (hx a (by simp)) s0 (Hu.Z3 S) L s4 s5 (fun x h=>Hu.Zo.mp h) (by omega)
  have hf:=ZR (fun b=>if a≠b∧(Hu.Z3 S).all (Hu.hd (Hu.Z2 a b))=true then some (Hu.Z2 a b) else none) (Hu.Z3 S)
  obtain⟨s3',FJ,Qc,e2⟩:=ih (L++(Hu.Z3 S).filterMap fun b=>if a≠b∧(Hu.Z3 S).all (Hu.hd (Hu.Z2 a b))=true then some (Hu.Z2 a b) else none) (.sh (pt a)) a4 a5 (fun x h=>hx x (List.mem_cons_of_mem _ h)) (by rw[List.length_append];omega)
  refine⟨s3',FJ,Qc,?_⟩
  have hb:uF [s0,.ow (L.map cT),.sh (.lst ((Hu.Z3 S).map pt)),.sh (pt a),s4,s5]=.ok .nx [s0,.ow ((L++(Hu.Z3 S).filterMap fun b=>if a≠b∧(Hu.Z3 S).all (Hu.hd (Hu.Z2 a b))=true then some (Hu.Z2 a b) else none).map cT),.sh (.lst ((Hu.Z3 S).map pt)),.sh (pt a),a4,a5]:=by
   unfold uF
   simp only[Yb,zM,List.getElem?_cons_succ,List.getElem?_cons_zero,Res.aU]
   exact e1
  rw[List.map_cons,forL]
  simp only[HJ,List.set_cons_succ,List.set_cons_zero,hb,Res.aU]
  rw[e2,List.flatMap_cons,List.append_assoc]
theorem Z21{S:List Hu.Pt}{sl:P.Slot}(hs:Sl sl (S.map pt))(hS:∀p∈S,Sm p)(hl:S.length≤1000):sE [sl]=.ret (.ow ((Hu.ZE S).map cT)):=by
 have h1:=Z2t hs hl
 have ho:=ZM S
 obtain⟨s3,s4,s5,e⟩:=Z20 hS hl sl (Hu.Z3 S) [] .no .no .no (fun x h=>Hu.Zo.mp h) (by simp;omega)
 have he:[]++((Hu.Z3 S).flatMap fun a=>(Hu.Z3 S).filterMap fun b=>if a≠b∧(Hu.Z3 S).all (Hu.hd (Hu.Z2 a b))=true then some (Hu.Z2 a b) else none)=Hu.ZE S:=rfl
 rw[he] at e
 generalize Hu.ZE S=ed at e
 generalize (Hu.Z3 S).map pt=os at e h1
 simp only[List.map_nil] at e
 simp[sE,Aa,List.replicate,hs.lend,h1,e]
theorem Z1E(S:List Hu.Pt)(hl:S.length≤1000):(Hu.ZE S).length≤1000000:=by
 have ho:=ZM S
 have:∀(xs:List Hu.Pt) (f:Hu.Pt→List Hu.Ln),(∀x,(f x).length≤1000)→(xs.flatMap f).length≤xs.length*1000:=by
  intro xs f hf
  induction xs with
  |nil=>simp
  |cons x xs ih=>rw[List.flatMap_cons,List.length_append,List.length_cons];have:=hf x;omega
 refine Nat.le_trans (this (Hu.Z3 S) _ fun x=>Nat.le_trans (ZR _ _) (by omega)) (by omega)
theorem Z0G{S:List Hu.Pt}{sl:P.Slot}(hs:Sl sl (S.map pt))(hS:∀p∈S,Sm p)(h0:S≠[])(hl:S.length≤1000):lJ [sl]=.ret (.ow ((Hu.Zc S).map cT)):=by
 have h1:=Z2U hs h0 hl
 have h2:=Z21 hs hS hl
 have h3:ĸ (.lst ((Hu.box S).map cT)) (.lst ((Hu.ZE S).map cT))=some (.ow ((Hu.Zc S).map cT)):=by
  rw[add_l (by have:=Z1E S hl;simp[Hu.box];omega),←List.map_append]
  rfl
 simp[lJ,Ab,List.replicate,hs.lend,h1,h2,h3]
theorem Z0H{S:List Hu.Pt}{l:Hu.Ln}(h:l∈Hu.Zc S)(hS:∀p∈S,Sm p):Td l:=by
 rcases List.mem_append.mp h with h|h
 ·unfold Hu.box at h
  simp only[List.mem_cons,List.not_mem_nil,or_false] at h
  rcases h with e|e|e|e<;>subst e<;>simp only[Td]<;>omega
 ·obtain⟨a,ha,b,hb,_,_,rfl⟩:=Hu.Zy.mp h
  exact Z15 (hS a ha) (hS b hb)
theorem Z1h(n:Nat):gw 0 n 1=(List.range n).map fun(i:Nat)=>PV.int (i:Int):=by
 unfold gw
 refine List.map_congr_left fun i _=>?_
 simp
theorem ZG{n:Nat}(h:n≤1000):ů [.int (n:Int)]=some ((List.range n).map fun(i:Nat)=>PV.int (i:Int)):=by
 have hs:nD (n:Int)=true:=by unfold nD;simp;omega
 unfold ů
 simp[hs,Z1h]
def VR(s:P.Slot)(ps:List PV):Prop:=s=.sh (.lst ps)∨s=.bw ps
def aQ(x:Int):Bool:=decide (-1000000000≤x∧x≤1000000000)
def yM(x:Int):Bool:=decide (1≤x∧x≤1000000000)
def yN(x:Int):Bool:=decide (0≤x∧x≤1000000000)
theorem Z05(x:Int):dh [.sh (.int x)]=.ret (.sh (.bl (aQ x))):=by
 unfold aQ
 by_cases h1: -1000000000≤x<;>by_cases h2:x≤1000000000<;>simp[dh,Al,List.replicate,h1,h2]
theorem Z0q(x:Int):lR [.sh (.int x)]=.ret (.sh (.bl (yM x))):=by
 unfold yM
 by_cases h1:1≤x<;>by_cases h2:x≤1000000000<;>simp[lR,Am,List.replicate,h1,h2]
def Zi:List Int→Bool
 | [p,q,h]=>aQ p && aQ q && yM h
 |_=>false
def Zj:List Int→Bool
 | [x,y,u,v,h]=>aQ x && aQ y && aQ u && aQ v && yM h
 |_=>false
def Ze:List Int→Bool
 | [x,y,u,v,h]=>Zj [x,y,u,v,h] && !(decide (x=u) && decide (y=v))
 |_=>false
def Z9:List Int→Bool
 | [x,y,u,v,h]=>Zj [x,y,u,v,h] && decide (x<u) && decide (y<v)
 |_=>false
def Zf:List Int→Bool
 | [a,b,c,d,e,f,g,h,i]=>aQ a && aQ b && yN c && (aQ d && aQ e && yN f) && (aQ g && aQ h && yN i)
 |_=>false
theorem Z2V(a b c:Bool):jX [.lst [.bl a,.bl b,.bl c]]=some (.bl (a && b && c)):=by cases a<;>cases b<;>cases c<;>rfl
theorem Z2W(a b c d:Bool):jX [.lst [.bl a,.bl b,.bl c,.bl d]]=some (.bl (a && b && c && d)):=by cases a<;>cases b<;>cases c<;>cases d<;>rfl
theorem Z0u{xs:List Int}{sl:P.Slot}(hs:VR sl (xs.map .int)):oR [sl]=.ret (.sh (.bl (Zi xs))):=by
 by_cases hl:xs.length=3
 ·match xs,hl with
  | [a,b,c],_=>
    have h:Zi [a,b,c]=(aQ a && aQ b && yM c):=rfl
    rw[h]
    rcases hs with rfl|rfl<;>cases ea:aQ a<;>cases eb:aQ b<;>cases ec:yM c<;>simp[oR,uP,List.replicate,Z05,Z0q,ea,eb,ec]
 ·have h:Zi xs=false:=by
   unfold Zi
   split
   ·simp at hl
   ·rfl
  rw[h]
  have hl':¬((xs.length:Nat):Int)=3:=by omega
  rcases hs with rfl|rfl<;>simp[oR,uP,List.replicate,hl']
theorem Z16{xs:List Int}{sl:P.Slot}(hs:VR sl (xs.map .int)):jJ [sl]=.ret (.sh (.bl (Zj xs))):=by
 by_cases hl:xs.length=5
 ·match xs,hl with
  | [a,b,c,d,e],_=>
    have h:Zj [a,b,c,d,e]=(aQ a && aQ b && aQ c && aQ d && yM e):=rfl
    rw[h]
    have hc:jf ([.int a,.int b,.int c,.int d,.int e]:List PV) none (some 4)=[.int a,.int b,.int c,.int d]:=rfl
    have hb:=Z2W (aQ a) (aQ b) (aQ c) (aQ d)
    rcases hs with rfl|rfl<;>cases ea:(aQ a && aQ b && aQ c && aQ d)<;>cases ec:yM e<;>rw[ea] at hb<;>simp[jJ,uT,List.replicate,Z05,Z0q,hc,ń,hb,ec]
 ·have h:Zj xs=false:=by
   unfold Zj
   split
   ·simp at hl
   ·rfl
  rw[h]
  have hl':¬((xs.length:Nat):Int)=5:=by omega
  rcases hs with rfl|rfl<;>simp[jJ,uT,List.replicate,hl']
theorem Z2X(a b c d:Int):aN (.lst [.int a,.int b]) (.lst [.int c,.int d])=some (.bl (!(decide (a=c) && decide (b=d)))):=by
 have h:eqB (.lst [.int a,.int b]) (.lst [.int c,.int d])=(decide (a=c) && decide (b=d)):=by
  simp[eqB,dM]
  rw[Bool.eq_iff_iff]
  simp
 unfold aN nO
 rw[h]
 simp[aq,bD,dep,vY]
theorem Z2m{xs:List Int}(hl:¬xs.length=5):Zj xs=false:=by
 unfold Zj
 split
 ·simp at hl
 ·rfl
theorem Z1i{s:P.Slot}{ps:List PV}(h:VR s ps):dI s=some s:=by rcases h with rfl|rfl<;>rfl
theorem Z22{xs:List Int}{sl:P.Slot}(hs:VR sl (xs.map .int)):oY [sl]=.ret (.sh (.bl (Ze xs))):=by
 have he:=Z16 hs
 by_cases hl:xs.length=5
 ·match xs,hl with
  | [a,b,c,d,e],_=>
    have h:Ze [a,b,c,d,e]=(Zj [a,b,c,d,e] && !(decide (a=c) && decide (b=d))):=rfl
    rw[h]
    have h1:jf ([.int a,.int b,.int c,.int d,.int e]:List PV) none (some 2)=[.int a,.int b]:=rfl
    have h2:jf ([.int a,.int b,.int c,.int d,.int e]:List PV) (some 2) (some 4)=[.int c,.int d]:=rfl
    have h3:=Z2X a b c d
    generalize Zj [a,b,c,d,e]=q at *
    generalize (!(decide (a=c) && decide (b=d)))=r at *
    rcases hs with rfl|rfl<;>cases q<;>simp_all [oY,uU,List.replicate]
 ·have h:Ze xs=false:=by
   unfold Ze
   split
   ·simp at hl
   ·rfl
  rw[h]
  rw[Z2m hl] at he
  simp[oY,uU,List.replicate,Z1i hs,he]
theorem Z2u{xs:List Int}{sl:P.Slot}(hs:VR sl (xs.map .int)):uV [sl]=.ret (.sh (.bl (Z9 xs))):=by
 have he:=Z16 hs
 by_cases hl:xs.length=5
 ·match xs,hl with
  | [a,b,c,d,e],_=>
    have h:Z9 [a,b,c,d,e]=(Zj [a,b,c,d,e] && decide (a<c) && decide (b<d)):=rfl
    rw[h]
    generalize Zj [a,b,c,d,e]=q at *
    rcases hs with rfl|rfl<;>simp only[List.map_cons,List.map_nil] at he<;>cases q<;>by_cases h1:a<c<;>by_cases h2:b<d<;>simp[uV,Dj,List.replicate,he,h1,h2]
 ·have h:Z9 xs=false:=by
   unfold Z9
   split
   ·simp at hl
   ·rfl
  rw[h]
  rw[Z2m hl] at he
  simp[uV,Dj,List.replicate,Z1i hs,he]
theorem ZU(a b c:Int):Fg [.sh (.lst [.int a,.int b,.int c])]=.ret (.sh (.bl (aQ a && aQ b && yN c))):=by
 unfold yN
 cases ea:aQ a<;>cases eb:aQ b<;>by_cases h1:0≤c<;>by_cases h2:c≤1000000000<;>simp[Fg,Jl,List.replicate,Z05,ea,eb,h1,h2]
theorem Z23{xs:List Int}{sl:P.Slot}(hs:VR sl (xs.map .int)):oZ [sl]=.ret (.sh (.bl (Zf xs))):=by
 by_cases hl:xs.length=9
 ·match xs,hl with
  | [a,b,c,d,e,f,g,h,i],_=>
    have hc:Zf [a,b,c,d,e,f,g,h,i]=((aQ a && aQ b && yN c) && (aQ d && aQ e && yN f) && (aQ g && aQ h && yN i)):=rfl
    rw[hc]
    have h1:jf ([.int a,.int b,.int c,.int d,.int e,.int f,.int g,.int h,.int i]:List PV) (some 0) (some 3)=[.int a,.int b,.int c]:=rfl
    have h2:jf ([.int a,.int b,.int c,.int d,.int e,.int f,.int g,.int h,.int i]:List PV) (some 3) (some 6)=[.int d,.int e,.int f]:=rfl
    have h3:jf ([.int a,.int b,.int c,.int d,.int e,.int f,.int g,.int h,.int i]:List PV) (some 6) (some 9)=[.int g,.int h,.int i]:=rfl
    have hb:=Z2V (aQ a && aQ b && yN c) (aQ d && aQ e && yN f) (aQ g && aQ h && yN i)
    have k1:=ZU a b c
    have k2:=ZU d e f
    have k3:=ZU g h i
    generalize (aQ a && aQ b && yN c)=q1 at *
    generalize (aQ d && aQ e && yN f)=q2 at *
    generalize (aQ g && aQ h && yN i)=q3 at *
    rcases hs with rfl|rfl<;>simp[oZ,uW,List.replicate,ń,h1,h2,h3,k1,k2,k3,hb]
 ·have h:Zf xs=false:=by
   unfold Zf
   split
   ·simp at hl
   ·rfl
  rw[h]
  have hl':¬((xs.length:Nat):Int)=9:=by omega
  rcases hs with rfl|rfl<;>simp[oZ,uW,List.replicate,hl']
def Zg(w:Str):String:=if w= "post" then "Post" else if w= "fence" then "Fence" else if w= "sail" then "Sail" else if w= "cloth" then "Cloth" else "House"
def Z5(C:String)(w:Str)(xs:List Int):PV:=.ins C ["word","numbers"] [.str w,.lst (xs.map .int)]
def Z0(w:Str)(xs:List Int):Bool:=if w= "post" then Zi xs else if w= "fence" then Ze xs else if w= "sail" then Z9 xs else if w= "cloth" then Zf xs else if w= "house" then Z9 xs else false
theorem wn:((Str.ofString "word")=(Str.ofString "numbers"))=False:=eq_false (by decide +kernel)
theorem ZK{C:String}(hC:(["Thing","Post","Fence","Sail","Cloth","House"]:List String).contains C=true)(w:Str){xs:List Int}{sl:P.Slot}(hs:VR sl (xs.map .int)):cY 3 3 C fO [.sh (.str w),sl]=.ok ["word","numbers"] [.str w,.lst (xs.map .int)]:=by
 rcases hs with rfl|rfl<;>simp[cY,fO,iK,IR.of,List.replicate,putN,wj,hC,wn,-List.contains_eq_mem,-List.contains_cons]
theorem s1:PyData.strOk (Str.ofString "post")=true:=by decide +kernel
theorem s2:PyData.strOk (Str.ofString "fence")=true:=by decide +kernel
theorem s3:PyData.strOk (Str.ofString "sail")=true:=by decide +kernel
theorem s4:PyData.strOk (Str.ofString "cloth")=true:=by decide +kernel
theorem s5:PyData.strOk (Str.ofString "house")=true:=by decide +kernel
theorem d12:(Str.ofString "post" =Str.ofString "fence")=False:=eq_false (by decide +kernel)
theorem d13:(Str.ofString "post" =Str.ofString "sail")=False:=eq_false (by decide +kernel)
theorem d14:(Str.ofString "post" =Str.ofString "cloth")=False:=eq_false (by decide +kernel)
theorem d15:(Str.ofString "post" =Str.ofString "house")=False:=eq_false (by decide +kernel)
theorem d23:(Str.ofString "fence" =Str.ofString "sail")=False:=eq_false (by decide +kernel)
theorem d24:(Str.ofString "fence" =Str.ofString "cloth")=False:=eq_false (by decide +kernel)
theorem d25:(Str.ofString "fence" =Str.ofString "house")=False:=eq_false (by decide +kernel)
theorem d34:(Str.ofString "sail" =Str.ofString "cloth")=False:=eq_false (by decide +kernel)
theorem d35:(Str.ofString "sail" =Str.ofString "house")=False:=eq_false (by decide +kernel)
theorem d45:(Str.ofString "cloth" =Str.ofString "house")=False:=eq_false (by decide +kernel)
theorem Z24{w:Str}(hw:PyData.strOk w=true){xs:List Int}{sl:P.Slot}(hs:VR sl (xs.map .int)):cQ [.sh (.str w),sl]=if Z0 w xs=true then .ret (.sh (Z5 (Zg w) w xs)) else .exc ⟨"BadThing",[],[]⟩:=by
 have e1:=cP hw s1
 have e2:=cP hw s2
 have e3:=cP hw s3
 have e4:=cP hw s4
 have e5:=cP hw s5
 have p1:=Z0u hs
 have p2:=Z22 hs
 have p3:=Z2u hs
 have p4:=Z23 hs
 have i1:uQ [.sh (.str w),sl]=_:=ZK (by decide) w hs
 have i2:oU [.sh (.str w),sl]=_:=ZK (by decide) w hs
 have i3:uR [.sh (.str w),sl]=_:=ZK (by decide) w hs
 have i4:oW [.sh (.str w),sl]=_:=ZK (by decide) w hs
 have i5:oX [.sh (.str w),sl]=_:=ZK (by decide) w hs
 have hle:=Z1i hs
 unfold Z0 Zg Z5
 by_cases h1:w=Str.ofString "post"
 ·have n2:¬w=Str.ofString "fence" := fun z=>(d12▸(h1.symm.trans z):False)
  have n3:¬w=Str.ofString "sail" := fun z=>(d13▸(h1.symm.trans z):False)
  have n4:¬w=Str.ofString "cloth" := fun z=>(d14▸(h1.symm.trans z):False)
  have n5:¬w=Str.ofString "house" := fun z=>(d15▸(h1.symm.trans z):False)
  rw[decide_eq_true h1] at e1
  rw[decide_eq_false n2] at e2
  rw[decide_eq_false n3] at e3
  rw[decide_eq_false n4] at e4
  rw[decide_eq_false n5] at e5
  have hg:(if w=Str.ofString "post" then Zi xs else if w=Str.ofString "fence" then Ze xs else if w=Str.ofString "sail" then Z9 xs else if w=Str.ofString "cloth" then Zf xs else if w=Str.ofString "house" then Z9 xs else false)=Zi xs:=by rw[if_pos h1]
  have hc:(if w=Str.ofString "post" then "Post" else if w=Str.ofString "fence" then "Fence" else if w=Str.ofString "sail" then "Sail" else if w=Str.ofString "cloth" then "Cloth" else "House")= "Post" := by rw[if_pos h1]
  rw[hg,hc]
  cases q:Zi xs<;>rw[q] at p1<;>simp[cQ,gH,bY,List.replicate,e1,e2,e3,e4,e5,hle,p1,i1]
 ·skip
  by_cases h2:w=Str.ofString "fence"
  ·have n1:=h1
   have n3:¬w=Str.ofString "sail" := fun z=>(d23▸(h2.symm.trans z):False)
   have n4:¬w=Str.ofString "cloth" := fun z=>(d24▸(h2.symm.trans z):False)
   have n5:¬w=Str.ofString "house" := fun z=>(d25▸(h2.symm.trans z):False)
   rw[decide_eq_true h2] at e2
   rw[decide_eq_false n1] at e1
   rw[decide_eq_false n3] at e3
   rw[decide_eq_false n4] at e4
   rw[decide_eq_false n5] at e5
   have hg:(if w=Str.ofString "post" then Zi xs else if w=Str.ofString "fence" then Ze xs else if w=Str.ofString "sail" then Z9 xs else if w=Str.ofString "cloth" then Zf xs else if w=Str.ofString "house" then Z9 xs else false)=Ze xs:=by rw[if_neg n1,if_pos h2]
   have hc:(if w=Str.ofString "post" then "Post" else if w=Str.ofString "fence" then "Fence" else if w=Str.ofString "sail" then "Sail" else if w=Str.ofString "cloth" then "Cloth" else "House")= "Fence" := by rw[if_neg n1,if_pos h2]
   rw[hg,hc]
   cases q:Ze xs<;>rw[q] at p2<;>simp[cQ,gH,bY,List.replicate,e1,e2,e3,e4,e5,hle,p2,i2]
  ·skip
   by_cases h3:w=Str.ofString "sail"
   ·have n1:=h1
    have n2:=h2
    have n4:¬w=Str.ofString "cloth" := fun z=>(d34▸(h3.symm.trans z):False)
    have n5:¬w=Str.ofString "house" := fun z=>(d35▸(h3.symm.trans z):False)
    rw[decide_eq_true h3] at e3
    rw[decide_eq_false n1] at e1
    rw[decide_eq_false n2] at e2
    rw[decide_eq_false n4] at e4
    rw[decide_eq_false n5] at e5
    have hg:(if w=Str.ofString "post" then Zi xs else if w=Str.ofString "fence" then Ze xs else if w=Str.ofString "sail" then Z9 xs else if w=Str.ofString "cloth" then Zf xs else if w=Str.ofString "house" then Z9 xs else false)=Z9 xs:=by rw[if_neg n1,if_neg n2,if_pos h3]
    have hc:(if w=Str.ofString "post" then "Post" else if w=Str.ofString "fence" then "Fence" else if w=Str.ofString "sail" then "Sail" else if w=Str.ofString "cloth" then "Cloth" else "House")= "Sail" := by rw[if_neg n1,if_neg n2,if_pos h3]
    rw[hg,hc]
    cases q:Z9 xs<;>rw[q] at p3<;>simp[cQ,gH,bY,List.replicate,e1,e2,e3,e4,e5,hle,p3,i3]
   ·skip
    by_cases h4:w=Str.ofString "cloth"
    ·have n1:=h1
     have n2:=h2
     have n3:=h3
     have n5:¬w=Str.ofString "house" := fun z=>(d45▸(h4.symm.trans z):False)
     rw[decide_eq_true h4] at e4
     rw[decide_eq_false n1] at e1
     rw[decide_eq_false n2] at e2
     rw[decide_eq_false n3] at e3
     rw[decide_eq_false n5] at e5
     have hg:(if w=Str.ofString "post" then Zi xs else if w=Str.ofString "fence" then Ze xs else if w=Str.ofString "sail" then Z9 xs else if w=Str.ofString "cloth" then Zf xs else if w=Str.ofString "house" then Z9 xs else false)=Zf xs:=by rw[if_neg n1,if_neg n2,if_neg n3,if_pos h4]
     have hc:(if w=Str.ofString "post" then "Post" else if w=Str.ofString "fence" then "Fence" else if w=Str.ofString "sail" then "Sail" else if w=Str.ofString "cloth" then "Cloth" else "House")= "Cloth" := by rw[if_neg n1,if_neg n2,if_neg n3,if_pos h4]
     rw[hg,hc]
     cases q:Zf xs<;>rw[q] at p4<;>simp[cQ,gH,bY,List.replicate,e1,e2,e3,e4,e5,hle,p4,i4]
    ·skip
     by_cases h5:w=Str.ofString "house"
     ·have n1:=h1
      have n2:=h2
      have n3:=h3
      have n4:=h4
      rw[decide_eq_true h5] at e5
      rw[decide_eq_false n1] at e1
      rw[decide_eq_false n2] at e2
      rw[decide_eq_false n3] at e3
      rw[decide_eq_false n4] at e4
      have hg:(if w=Str.ofString "post" then Zi xs else if w=Str.ofString "fence" then Ze xs else if w=Str.ofString "sail" then Z9 xs else if w=Str.ofString "cloth" then Zf xs else if w=Str.ofString "house" then Z9 xs else false)=Z9 xs:=by rw[if_neg n1,if_neg n2,if_neg n3,if_neg n4,if_pos h5]
      have hc:(if w=Str.ofString "post" then "Post" else if w=Str.ofString "fence" then "Fence" else if w=Str.ofString "sail" then "Sail" else if w=Str.ofString "cloth" then "Cloth" else "House")= "House" := by rw[if_neg n1,if_neg n2,if_neg n3,if_neg n4]
      rw[hg,hc]
      cases q:Z9 xs<;>rw[q] at p3<;>simp[cQ,gH,bY,List.replicate,e1,e2,e3,e4,e5,hle,p3,i5]
     ·skip
      rw[decide_eq_false h1] at e1
      rw[decide_eq_false h2] at e2
      rw[decide_eq_false h3] at e3
      rw[decide_eq_false h4] at e4
      rw[decide_eq_false h5] at e5
      rw[if_neg h1,if_neg h2,if_neg h3,if_neg h4,if_neg h5]
      simp[cQ,gH,bY,List.replicate,e1,e2,e3,e4,e5]
abbrev P3:=Int×Int×Int
def c3(p:P3):PV:=.tup [.int p.1,.int p.2.1,.int p.2.2]
def Za(x y u v z:Int):List P3:=[(x,y,z),(u,y,z),(u,v,z),(x,v,z)]
def Zp(x y u v h:Int):List P3:=Za x y u v 0++Za x y u v h
def Z4(C:String)(xs:List Int):List P3:=
 if C= "Post" then(match xs with
  | [p,q,h]=>Zp (2*p-1) (2*q-1) (2*p+1) (2*q+1) h
  |_=>[])
 else if C= "Fence" then(match xs with
  | [x,y,u,v,h]=>[(x,y,0),(u,v,0),(u,v,h),(x,y,h)]
  |_=>[])
 else if C= "Sail" then(match xs with
  | [x,y,u,v,h]=>Za x y u v h
  |_=>[])
 else if C= "Cloth" then(match xs with
  | [a,b,c,d,e,f,g,h,i]=>[(a,b,c),(d,e,f),(g,h,i)]
  |_=>[])
 else(match xs with
  | [x,y,u,v,h]=>Zp x y u v h
  |_=>[])
def Z7(w:Str)(xs:List Int):List P3:=Z4 (Zg w) xs
theorem ZV{C:String}(hC:(["Thing","Post","Fence","Sail","Cloth","House"]:List String).contains C=true)(w:Str)(xs:List Int):bQ ["Thing","Post","Fence","Sail","Cloth","House"] (Str.ofString "numbers") (Z5 C w xs)=some (.lst (xs.map .int)):=by
 unfold bQ Z5
 dsimp only
 rw[if_pos hC]
 have:(Str.ofString "numbers" == Str.ofString "word")=false:=by decide +kernel
 show List.lookup _ [(_,_),(_,_)]=_
 rw[List.lookup_cons,this]
 simp
theorem Z0I(x y u v z:Int):qw [.sh (.int x),.sh (.int y),.sh (.int u),.sh (.int v),.sh (.int z)]=.ret (.ow ((Za x y u v z).map c3)):=by
 simp[qw,Jh,List.replicate,Za,c3]
theorem Z0J(x y u v h:Int):yr [.sh (.int x),.sh (.int y),.sh (.int u),.sh (.int v),.sh (.int h)]=.ret (.ow ((Zp x y u v h).map c3)):=by
 simp[yr,Ji,List.replicate,Z0I,Zp,Za,add_l]
theorem Z2Y{xs:List Int}(h:Zi xs=true)(w:Str):lK [.sh (Z5 "Post" w xs)]=.ret (.ow ((Z4 "Post" xs).map c3)):=by
 match xs,h with
 | [p,q,h],hh=>
   simp[Zi,aQ,yM] at hh
   have hf:=ZV (C:= "Post") (by decide) w [p,q,h]
   generalize Z5 "Post" w [p,q,h]=v at *
   have e:=Z0J (2*p-1) (2*q-1) (2*p+1) (2*q+1) h
   simp[lK,Ad,List.replicate,hf,e,Z4]
theorem Z2v{xs:List Int}(h:Ze xs=true)(w:Str):yu [.sh (Z5 "Fence" w xs)]=.ret (.ow ((Z4 "Fence" xs).map c3)):=by
 match xs,h with
 | [x,y,u,v,h],hh=>
   have hf:=ZV (C:= "Fence") (by decide) w [x,y,u,v,h]
   generalize Z5 "Fence" w [x,y,u,v,h]=t at *
   simp[yu,Jj,List.replicate,hf,Z4,c3,ĸ]
theorem Z2Z{xs:List Int}(h:Z9 xs=true)(w:Str):lM [.sh (Z5 "Sail" w xs)]=.ret (.ow ((Z4 "Sail" xs).map c3)):=by
 match xs,h with
 | [x,y,u,v,h],hh=>
   have hf:=ZV (C:= "Sail") (by decide) w [x,y,u,v,h]
   generalize Z5 "Sail" w [x,y,u,v,h]=t at *
   have e:=Z0I x y u v h
   simp[lM,Ae,List.replicate,hf,e,Z4]
theorem Z2w{xs:List Int}(h:Z9 xs=true)(w:Str):lO [.sh (Z5 "House" w xs)]=.ret (.ow ((Z4 "House" xs).map c3)):=by
 match xs,h with
 | [x,y,u,v,h],hh=>
   have hf:=ZV (C:= "House") (by decide) w [x,y,u,v,h]
   generalize Z5 "House" w [x,y,u,v,h]=t at *
   have e:=Z0J x y u v h
   simp[lO,Ag,List.replicate,hf,e,Z4]
theorem Z2x{xs:List Int}(h:Zf xs=true)(w:Str):lN [.sh (Z5 "Cloth" w xs)]=.ret (.ow ((Z4 "Cloth" xs).map c3)):=by
 match xs,h with
 | [a,b,c,d,e,f,g,i,j],hh=>
   have hf:=ZV (C:= "Cloth") (by decide) w [a,b,c,d,e,f,g,i,j]
   generalize Z5 "Cloth" w [a,b,c,d,e,f,g,i,j]=t at *
   simp[lN,Af,List.replicate,hf,Z4,c3,ń,XR,jf]
   exact⟨rfl,rfl,rfl⟩
def cst(r p:P3):Hu.Pt:=(r.2.2*p.1+r.1*p.2.2,r.2.2*p.2.1+r.2.1*p.2.2)
def RB(r:P3):Prop:=-1000000≤r.1∧r.1≤1000000∧ -1000000≤r.2.1∧r.2.1≤1000000∧ -1000000≤r.2.2∧r.2.2≤1000000
def PB(p:P3):Prop:=-10000000000≤p.1∧p.1≤10000000000∧ -10000000000≤p.2.1∧p.2.1≤10000000000∧ -10000000000≤p.2.2∧p.2.2≤10000000000
theorem Z17{r:P3}(hr:RB r)(p:P3):iU [.sh (c3 p),.sh (c3 r)]=.ret (.sh (pt (cst r p))):=by
 obtain⟨a1,a2,a3,a4,a5,a6⟩:=hr
 have m1:ň r.2.2 p.1=true:=ű (by omega) (by omega)
 have m2:ň r.2.2 p.2.1=true:=ű (by omega) (by omega)
 have m3:ň r.1 p.2.2=true:=ű (by omega) (by omega)
 have m4:ň r.2.1 p.2.2=true:=ű (by omega) (by omega)
 simp[iU,Ac,List.replicate,pt,c3,cst,m1,m2,m3,m4]
theorem Z0b{x y A B:Int}(h1: -A≤x)(h2:x≤A)(h3: -B≤y)(h4:y≤B): -(A*B)≤x*y∧x*y≤A*B:=by
 have hA:0≤A:=by omega
 have hB:0≤B:=by omega
 have e:(x*y).natAbs≤A.natAbs*B.natAbs:=by
  rw[Int.natAbs_mul]
  exact Nat.mul_le_mul (by omega) (by omega)
 have e2:((A*B).natAbs)=A.natAbs*B.natAbs:=Int.natAbs_mul A B
 have e3:0≤A*B:=Int.mul_nonneg hA hB
 omega
theorem ZW{r p:P3}(hr:RB r)(hp:PB p):Sm (cst r p):=by
 obtain⟨a1,a2,a3,a4,a5,a6⟩:=hr
 obtain⟨b1,b2,b3,b4,b5,b6⟩:=hp
 have q1:=Z0b a5 a6 b1 b2
 have q2:=Z0b a5 a6 b3 b4
 have q3:=Z0b a1 a2 b5 b6
 have q4:=Z0b a3 a4 b5 b6
 simp only[Sm,cst]
 omega
theorem Z1F{w:Str}{xs:List Int}(hg:Z0 w xs=true){mo:M PV}{ρ ρ1:List P.Slot}(ho:mo ρ=.ok (Z5 (Zg w) w xs) ρ1):nY (Str.ofString "corners") [("Post",lK),("Fence",yu),("Sail",lM),("Cloth",lN),("House",lO)] mo ē ρ=.ok (.ow ((Z7 w xs).map c3)) ρ1:=by
 have hn:(["word","numbers"]:List Str).contains (Str.ofString "corners")=false:=by decide +kernel
 have key:∀(C:String) (mf:MF),Zg w=C→List.lookup C [("Post",lK),("Fence",yu),("Sail",lM),("Cloth",lN),("House",lO)]=some mf→mf [.sh (Z5 C w xs)]=.ret (.ow ((Z4 C xs).map c3))→nY (Str.ofString "corners") [("Post",lK),("Fence",yu),("Sail",lM),("Cloth",lN),("House",lO)] mo ē ρ=.ok (.ow ((Z7 w xs).map c3)) ρ1:=by
  intro C mf hC hl hf
  unfold Z7
  rw[hC] at ho ⊢
  unfold nY
  rw[ho]
  unfold Z5 at *
  simp only[Res.bind]
  rw[hl]
  dsimp only
  rw[if_neg (by rw[hn];decide)]
  simp only[ē,Res.bind]
  rw[hf]
 unfold Z0 at hg
 by_cases e1:w= "post"
 ·rw[if_pos e1] at hg
  exact key "Post" _ (by unfold Zg;rw[if_pos e1]) rfl (Z2Y hg w)
 rw[if_neg e1] at hg
 by_cases e2:w= "fence"
 ·rw[if_pos e2] at hg
  exact key "Fence" _ (by unfold Zg;rw[if_neg e1,if_pos e2]) rfl (Z2v hg w)
 rw[if_neg e2] at hg
 by_cases e3:w= "sail"
 ·rw[if_pos e3] at hg
  exact key "Sail" _ (by unfold Zg;rw[if_neg e1,if_neg e2,if_pos e3]) rfl (Z2Z hg w)
 rw[if_neg e3] at hg
 by_cases e4:w= "cloth"
 ·rw[if_pos e4] at hg
  exact key "Cloth" _ (by unfold Zg;rw[if_neg e1,if_neg e2,if_neg e3,if_pos e4]) rfl (Z2x hg w)
 rw[if_neg e4] at hg
 by_cases e5:w= "house"
 ·rw[if_pos e5] at hg
  exact key "House" _ (by unfold Zg;rw[if_neg e1,if_neg e2,if_neg e3,if_neg e4]) rfl (Z2w hg w)
 ·rw[if_neg e5] at hg
  cases hg
theorem Z1j{r:P3}(hr:RB r){L:List P3}(hl:L.length≤100)(s1:P.Slot):ń (gN 1) Ņ (Ę (Ė iU (Ĉ 1 (Ĉ 0 ē)))) (L.map c3) [.sh (c3 r),s1] []=some ((L.map (cst r)).map pt):=by
 have:=Ŋ (g:=gN 1) (mt:=Ņ) (me:=Ę (Ė iU (Ĉ 1 (Ĉ 0 ē)))) c3 (fun p=>pt (cst r p)) (fun ρ=>∃s,ρ=[.sh (c3 r),s]) L [.sh (c3 r),s1] [] ⟨_,rfl⟩ (by simp;omega) (by
  rintro p hp ρ ⟨s,rfl⟩
  have e:=Z17 hr p
  generalize c3 r=R at *
  generalize c3 p=Q at *
  exact⟨[R |> .sh,.sh Q],[.sh R,.sh Q],[.sh R,.sh Q],by simp,by simp,by simp[e],_,rfl⟩)
 rw[this]
 simp
theorem Z0K{w:Str}{xs:List Int}(hg:Z0 w xs=true)(hl:(Z7 w xs).length≤100){r:P3}(hr:RB r):jF [.sh (Z5 (Zg w) w xs),.sh (c3 r)]=.ret (.ow (((Z7 w xs).map (cst r)).map pt)):=by
 have h1:=Z1F hg (mo:=ę 0) (ρ:= [.sh (Z5 (Zg w) w xs),.sh (c3 r)]) (ρ1:=[.sh (Z5 (Zg w) w xs),.sh (c3 r)]) (by simp)
 have h2:=Z1j hr hl
 generalize ((Z7 w xs).map (cst r)).map pt=Y at *
 generalize (Z7 w xs).map c3=Z at *
 generalize Z5 (Zg w) w xs=v at *
 generalize c3 r=R at *
 simp[jF,Ah,List.replicate,h1,h2,-R_]
def fQ(s:Hu.Pt):P3:=(2*s.1,2*s.2,0)
theorem ZN{w:Str}{xs:List Int}(hg:Z0 w xs=true):(Z7 w xs).length≤8∧Z7 w xs≠[]∧∀p∈Z7 w xs,PB p:=by
 have hp:Zi xs=true→(Z4 "Post" xs).length≤8∧Z4 "Post" xs≠[]∧∀p∈Z4 "Post" xs,PB p:=by
  intro h
  match xs,h with
  | [a,b,c],h=>
    simp[Zi,aQ,yM] at h
    simp[Z4,Zp,Za,PB]
    omega
 have hf:Ze xs=true→(Z4 "Fence" xs).length≤8∧Z4 "Fence" xs≠[]∧∀p∈Z4 "Fence" xs,PB p:=by
  intro h
  match xs,h with
  | [a,b,c,d,e],h=>
    simp[Ze,Zj,aQ,yM] at h
    simp[Z4,PB]
    omega
 have hs:Z9 xs=true→(Z4 "Sail" xs).length≤8∧Z4 "Sail" xs≠[]∧∀p∈Z4 "Sail" xs,PB p:=by
  intro h
  match xs,h with
  | [a,b,c,d,e],h=>
    simp[Z9,Zj,aQ,yM] at h
    simp[Z4,Za,PB]
    omega
 have hh:Z9 xs=true→(Z4 "House" xs).length≤8∧Z4 "House" xs≠[]∧∀p∈Z4 "House" xs,PB p:=by
  intro h
  match xs,h with
  | [a,b,c,d,e],h=>
    simp[Z9,Zj,aQ,yM] at h
    simp[Z4,Zp,Za,PB]
    omega
 have hc:Zf xs=true→(Z4 "Cloth" xs).length≤8∧Z4 "Cloth" xs≠[]∧∀p∈Z4 "Cloth" xs,PB p:=by
  intro h
  match xs,h with
  | [a,b,c,d,e,f,g,i,j],h=>
    simp[Zf,aQ,yN] at h
    simp[Z4,PB]
    omega
 unfold Z0 at hg
 unfold Z7 Zg
 by_cases e1:w= "post"
 ·rw[if_pos e1] at hg ⊢;exact hp hg
 rw[if_neg e1] at hg ⊢
 by_cases e2:w= "fence"
 ·rw[if_pos e2] at hg ⊢;exact hf hg
 rw[if_neg e2] at hg ⊢
 by_cases e3:w= "sail"
 ·rw[if_pos e3] at hg ⊢;exact hs hg
 rw[if_neg e3] at hg ⊢
 by_cases e4:w= "cloth"
 ·rw[if_pos e4] at hg ⊢;exact hc hg
 rw[if_neg e4] at hg ⊢
 by_cases e5:w= "house"
 ·rw[if_pos e5] at hg;exact hh hg
 ·rw[if_neg e5] at hg;cases hg
def shB(w:Str)(xs:List Int)(s:Hu.Pt)(r:P3):Bool:=(Hu.Zh ((Z7 w xs).map (cst r)) (cst r (fQ s))).isNone
theorem Z1G(b:Nat):Builtin.bitNot (b:Int)= -(b:Int)-1:=rfl
theorem Z1H(a b:Nat):Builtin.bitOr a b=((a ||| b:Nat):Int):=by
 unfold Builtin.bitOr Builtin.bitAnd
 rw[Z1G,Z1G]
 have h1:decide (0≤ -(a:Int)-1)=false:=by simp;omega
 have h2:decide (0≤ -(b:Int)-1)=false:=by simp;omega
 rw[h1,h2]
 have e1:(Builtin.bitNot (-(a:Int)-1)).toNat=a:=by unfold Builtin.bitNot;omega
 have e2:(Builtin.bitNot (-(b:Int)-1)).toNat=b:=by unfold Builtin.bitNot;omega
 simp only[e1,e2]
 unfold Builtin.bitNot
 omega
theorem Z2y(a k:Nat):(a:Int) / 2 ^ k=((a >>> k:Nat):Int):=by
 rw[Nat.shiftRight_eq_div_pow]
 simp
theorem Z18(a k:Nat):(a:Int) / 2 ^ k % 2=if a.testBit k then 1 else 0:=by
 rw[Z2y]
 have:(a >>> k) % 2=if a.testBit k then 1 else 0:=by
  rw[Nat.testBit]
  have h:1 &&& (a >>> k)=(a >>> k) % 2:=by rw[Nat.and_comm];exact Nat.and_one_is_mod _
  rw[h]
  have:(a >>> k) % 2=0∨(a >>> k) % 2=1:=by omega
  rcases this with e|e<;>simp[e]
 by_cases q:a.testBit k=true
 ·rw[if_pos q] at this ⊢;omega
 ·rw[if_neg q] at this ⊢;omega
theorem Z3o(a:Int):Builtin.bitAnd a 1=a % 2:=PyProof.Rows.bitAnd_m1 a
theorem Z25(f l k:Nat)(h:f≤l):(2 ^ (l+1)-2 ^ f).testBit k=(decide (f≤k) && decide (k≤l)):=by
 have e:2 ^ (l+1)-2 ^ f=(2 ^ (l+1-f)-1)*2 ^ f:=by
  rw[Nat.sub_mul,←Nat.pow_add,Nat.one_mul]
  congr 2
  omega
 rw[e,Nat.testBit_mul_two_pow,Nat.testBit_two_pow_sub_one]
 by_cases h1:f≤k
 ·simp[h1]
  by_cases h2:k≤l
  ·simp[h2];omega
  ·simp[h2];omega
 ·simp[h1]
theorem Z1k{a n:Nat}(h:∀k,n≤k→a.testBit k=false):a<2 ^ n:=Nat.lt_pow_two_of_testBit a h
theorem Z1l{k:Nat}(h:k≤1000000):lF 1 (k:Int)=true:=by unfold lF;simp;omega
theorem Z19{f l:Int}{w:Nat}(hf:0≤f)(hl:l<w)(hw:w≤1000):∃B:Nat,jG [.sh (.int f),.sh (.int l)]=.ret (.sh (.int B))∧∀k:Nat,B.testBit k=(decide (f≤k) && decide ((k:Int)≤l)):=by
 by_cases h:l<f
 ·refine⟨0,by simp[jG,uG,List.replicate,h],fun k=>?_⟩
  by_cases h1:f≤k
  ·have h2:¬(k:Int)≤l:=by omega
   simp[h2]
  ·simp[h1]
 ·obtain⟨F,rfl⟩:=Int.eq_ofNat_of_zero_le hf
  obtain⟨L,rfl⟩:=Int.eq_ofNat_of_zero_le (by omega:0≤l)
  have e1:=Z1l (k:=L+1) (by omega)
  have e2:=Z1l (k:=F) (by omega)
  have hp:2 ^ F≤2 ^ (L+1):=Nat.pow_le_pow_right (by omega) (by omega)
  refine⟨2 ^ (L+1)-2 ^ F,?_,fun k=>?_⟩
  ·have t1:((L:Int)+1).toNat=L+1:=by omega
   have t2:((L:Int)+1)=((L+1:Nat):Int):=by omega
   simp only[Int.natCast_add,Int.cast_ofNat_Int] at e1
   have h':¬(L:Int)<F:=h
   simp[jG,uG,List.replicate,h',e1,e2,t1]
   rw[Int.natCast_sub hp]
   simp
  ·rw[Z25 F L k (by omega)]
   simp
def inR(L:List Hu.Ln)(u q k:Int):Prop:=∀l∈L,l.1*(u*k)+l.2.1*(u*q)≤l.2.2
theorem Z1a{a b k:Int}(hb:0<b):k≤a.fdiv b↔k*b≤a:=by
 rw[Int.fdiv_eq_ediv_of_nonneg _ (Int.le_of_lt hb)]
 exact Int.le_ediv_iff_mul_le hb
theorem Z0L{u q:Int}{w:Nat}(hu:0<u)(hu2:u≤10000000)(hq:0≤q)(hq2:q≤1000)(s0:P.Slot):∀(L:List Hu.Ln),(∀l∈L,Td l)→∀(f la:Int) (s6 s7 s8 s9 yK:P.Slot),0≤f→la<w→
 (∃f' P_ Eo Dz DG V_ yJ,forL (gT 3 (ě (gN 6) (ě (gN 7) (ě (gN 8) ŝ)))) dz (L.map cT) [s0,.sh (.int u),.sh (.int q),.sh (.int w),.sh (.int f),.sh (.int la),s6,s7,s8,s9,yK]=.ok .nx [s0,.sh (.int u),.sh (.int q),.sh (.int w),.sh (.int f'),.sh (.int P_),Eo,Dz,DG,V_,yJ]∧0≤f'∧P_<w∧∀k:Int,(f'≤k∧k≤P_)↔(f≤k∧k≤la∧inR L u q k))∨
 (∃ρ',forL (gT 3 (ě (gN 6) (ě (gN 7) (ě (gN 8) ŝ)))) dz (L.map cT) [s0,.sh (.int u),.sh (.int q),.sh (.int w),.sh (.int f),.sh (.int la),s6,s7,s8,s9,yK]=.ok (.rt (.sh (.int 0))) ρ'∧∀k:Int,¬inR L u q k)
 | [],_,f,la,s6,s7,s8,s9,yK,h1,h2=>.inl ⟨f,la,s6,s7,s8,s9,yK,rfl,h1,h2,fun k=>by simp[inR]⟩
 |l::L,hS,f,la,s6,s7,s8,s9,yK,h1,h2=>by
  have hl:=hS l List.mem_cons_self
  have ih:=fun(f la:Int) (s6 s7 s8 s9 yK:P.Slot)=>Z0L (w:=w) hu hu2 hq hq2 s0 L (fun x hx=>hS x (List.mem_cons_of_mem _ hx)) f la s6 s7 s8 s9 yK
  have m1:ň l.1 u=true:=ű (by have:=hl.1;omega) (by have:=hl.2.1;omega)
  have m2:ň l.2.1 u=true:=ű (by have:=hl.2.2.1;omega) (by have:=hl.2.2.2;omega)
  have m3:ň (l.2.1*u) q=true:=mul_r (by omega) (by omega)
  have bs:=Z0b hl.1 hl.2.1 (show -10000000≤u by omega) hu2
  obtain⟨st,hst⟩:∃st,l.1*u=st:=⟨_,rfl⟩
  obtain⟨ro,hro⟩:∃ro,l.2.2-l.2.1*u*q=ro:=⟨_,rfl⟩
  rw[hst] at bs
  have hin:∀k:Int,inR (l::L) u q k↔(k*st≤ro∧inR L u q k):=fun k=>by
   unfold inR
   rw[List.forall_mem_cons]
   have e:l.1*(u*k)=k*st:=by rw[←hst,←Int.mul_assoc,Int.mul_comm]
   have e2:l.2.1*(u*q)=l.2.1*u*q:=by rw[Int.mul_assoc]
   rw[e,e2]
   constructor
   ·rintro ⟨a,b⟩;exact⟨by omega,b⟩
   ·rintro ⟨a,b⟩;exact⟨by omega,b⟩
  have gg:gT 3 (ě (gN 6) (ě (gN 7) (ě (gN 8) ŝ))) (cT l) [s0,.sh (.int u),.sh (.int q),.sh (.int w),.sh (.int f),.sh (.int la),s6,s7,s8,s9,yK]=some [s0,.sh (.int u),.sh (.int q),.sh (.int w),.sh (.int f),.sh (.int la),.sh (.int l.1),.sh (.int l.2.1),.sh (.int l.2.2),s9,yK]:=by simp[cT]
  rw[List.map_cons,forL,gg]
  dsimp only
  by_cases c1:0<st
  ·have d1:cM ro st=true:=nR (by omega) (Nat.le_trans (h_ (n:=200) (by omega) (by omega)) (by decide))
   have e:dz [s0,.sh (.int u),.sh (.int q),.sh (.int w),.sh (.int f),.sh (.int la),.sh (.int l.1),.sh (.int l.2.1),.sh (.int l.2.2),s9,yK]=.ok .nx [s0,.sh (.int u),.sh (.int q),.sh (.int w),.sh (.int f),.sh (.int (min la (ro.fdiv st))),.sh (.int l.1),.sh (.int l.2.1),.sh (.int l.2.2),.sh (.int st),.sh (.int ro)]:=by
    simp[dz,m1,m2,m3,hst,hro,c1,d1]
    split<;>omega
   rw[e]
   rcases ih f (min la (ro.fdiv st)) (.sh (.int l.1)) (.sh (.int l.2.1)) (.sh (.int l.2.2)) (.sh (.int st)) (.sh (.int ro)) h1 (by omega) with⟨f',P_,Eo,Dz,DG,V_,yJ,q1,q2,q3,q4⟩|⟨ρ',q1,q2⟩
   ·refine .inl ⟨f',P_,Eo,Dz,DG,V_,yJ,q1,q2,q3,fun k=>?_⟩
    rw[q4,hin]
    have:=Z1a (a:=ro) (k:=k) c1
    constructor
    ·rintro ⟨a,b,c⟩;exact⟨a,by omega,this.mp (by omega),c⟩
    ·rintro ⟨a,b,c,d⟩;exact⟨a,by have:=this.mpr c;omega,d⟩
   ·exact .inr ⟨ρ',q1,fun k=>by rw[hin];exact fun h=>q2 k h.2⟩
  ·by_cases c2:st<0
   ·have d1:cM ro (-st)=true:=nR (by omega) (Nat.le_trans (h_ (n:=200) (by omega) (by omega)) (by decide))
    have e:dz [s0,.sh (.int u),.sh (.int q),.sh (.int w),.sh (.int f),.sh (.int la),.sh (.int l.1),.sh (.int l.2.1),.sh (.int l.2.2),s9,yK]=.ok .nx [s0,.sh (.int u),.sh (.int q),.sh (.int w),.sh (.int (max f (-(ro.fdiv (-st))))),.sh (.int la),.sh (.int l.1),.sh (.int l.2.1),.sh (.int l.2.2),.sh (.int st),.sh (.int ro)]:=by
     simp[dz,m1,m2,m3,hst,hro,c1,c2,d1]
     split<;>omega
    rw[e]
    rcases ih (max f (-(ro.fdiv (-st)))) la (.sh (.int l.1)) (.sh (.int l.2.1)) (.sh (.int l.2.2)) (.sh (.int st)) (.sh (.int ro)) (by omega) h2 with⟨f',P_,Eo,Dz,DG,V_,yJ,q1,q2,q3,q4⟩|⟨ρ',q1,q2⟩
    ·refine .inl ⟨f',P_,Eo,Dz,DG,V_,yJ,q1,q2,q3,fun k=>?_⟩
     rw[q4,hin]
     have:=Z1a (a:=ro) (b:=-st) (k:=-k) (by omega)
     rw[Int.neg_mul_neg] at this
     constructor
     ·rintro ⟨a,b,c⟩;exact⟨by omega,b,this.mp (by omega),c⟩
     ·rintro ⟨a,b,c,d⟩;exact⟨by have:=this.mpr c;omega,b,d⟩
    ·exact .inr ⟨ρ',q1,fun k=>by rw[hin];exact fun h=>q2 k h.2⟩
   ·have c0:st=0:=by omega
    subst c0
    by_cases c3:ro<0
    ·refine .inr ⟨_,by simp[dz,m1,m2,m3,hst,hro,c3];rfl,fun k=>?_⟩
     rw[hin]
     rintro ⟨a,_⟩
     omega
    ·have e:dz [s0,.sh (.int u),.sh (.int q),.sh (.int w),.sh (.int f),.sh (.int la),.sh (.int l.1),.sh (.int l.2.1),.sh (.int l.2.2),s9,yK]=.ok .nx [s0,.sh (.int u),.sh (.int q),.sh (.int w),.sh (.int f),.sh (.int la),.sh (.int l.1),.sh (.int l.2.1),.sh (.int l.2.2),.sh (.int 0),.sh (.int ro)]:=by
      simp[dz,m1,m2,m3,hst,hro,c3]
     rw[e]
     rcases ih f la (.sh (.int l.1)) (.sh (.int l.2.1)) (.sh (.int l.2.2)) (.sh (.int 0)) (.sh (.int ro)) h1 h2 with⟨f',P_,Eo,Dz,DG,V_,yJ,q1,q2,q3,q4⟩|⟨ρ',q1,q2⟩
     ·refine .inl ⟨f',P_,Eo,Dz,DG,V_,yJ,q1,q2,q3,fun k=>?_⟩
      rw[q4,hin]
      constructor
      ·rintro ⟨a,b,c⟩;exact⟨a,b,by omega,c⟩
      ·rintro ⟨a,b,c,d⟩;exact⟨a,b,d⟩
     ·exact .inr ⟨ρ',q1,fun k=>by rw[hin];exact fun h=>q2 k h.2⟩
theorem Z30{u q:Int}{w:Nat}(hu:0<u)(hu2:u≤10000000)(hq:0≤q)(hq2:q≤1000)(hw:w≤1000){L:List Hu.Ln}(hS:∀l∈L,Td l){sl:P.Slot}(hs:Sl sl (L.map cT)) :
 ∃B:Nat,oN [sl,.sh (.int u),.sh (.int q),.sh (.int w)]=.ret (.sh (.int B))∧∀k:Nat,B.testBit k=true↔(k<w∧inR L u q k):=by
 rcases Z0L (w:=w) hu hu2 hq hq2 sl L hS 0 (w-1) .no .no .no .no .no (by omega) (by omega) with⟨f',P_,Eo,Dz,DG,V_,yJ,q1,q2,q3,q4⟩|⟨ρ',q1,q2⟩
 ·obtain⟨B,b1,b2⟩:=Z19 (f:=f') (l:=P_) q2 q3 hw
  refine⟨B,by rcases hs with rfl|rfl<;>simp[oN,uH,List.replicate,q1,b1],fun k=>?_⟩
  rw[b2,Bool.and_eq_true,decide_eq_true_eq,decide_eq_true_eq,q4 k]
  constructor
  ·rintro ⟨a,b,c⟩;exact⟨by omega,c⟩
  ·rintro ⟨a,b⟩;exact⟨by omega,by omega,b⟩
 ·refine⟨0,by rcases hs with rfl|rfl<;>simp[oN,uH,List.replicate,q1],fun k=>?_⟩
  simp
  exact fun _=>q2 k
abbrev Th:=Str×List Int
def bL(t:Th):PV:=Z5 (Zg t.1) t.1 t.2
def tnV:Option P3→PV
 |none=>.non
 |some r=>c3 r
abbrev Dy:=Str×Int×List (Option P3)
def Qg(d:Dy):PV:=.tup [.str d.1,.int d.2.1,.lst (d.2.2.map tnV)]
def Z6(w h:Int)(T:List Th)(D:List Dy):PV:=.ins "Yard" ["width","height","things","days"] [.int w,.int h,.lst (T.map bL),.lst (D.map Qg)]
theorem ywh:(Str.ofString "width" =Str.ofString "height")=False:=eq_false (by decide +kernel)
theorem ywt:(Str.ofString "width" =Str.ofString "things")=False:=eq_false (by decide +kernel)
theorem ywd:(Str.ofString "width" =Str.ofString "days")=False:=eq_false (by decide +kernel)
theorem yht:(Str.ofString "height" =Str.ofString "things")=False:=eq_false (by decide +kernel)
theorem yhd:(Str.ofString "height" =Str.ofString "days")=False:=eq_false (by decide +kernel)
theorem ytd:(Str.ofString "things" =Str.ofString "days")=False:=eq_false (by decide +kernel)
theorem y_w(w h:Int)(T:List Th)(D:List Dy):bQ ["Yard"] (Str.ofString "width") (Z6 w h T D)=some (.int w):=by
 unfold bQ Z6
 simp
theorem y_h(w h:Int)(T:List Th)(D:List Dy):bQ ["Yard"] (Str.ofString "height") (Z6 w h T D)=some (.int h):=by
 have:(Str.ofString "height" == Str.ofString "width")=false:=by decide +kernel
 unfold bQ Z6
 simp[List.lookup_cons,this]
theorem y_t(w h:Int)(T:List Th)(D:List Dy):bQ ["Yard"] (Str.ofString "things") (Z6 w h T D)=some (.lst (T.map bL)):=by
 have e1:(Str.ofString "things" == Str.ofString "width")=false:=by decide +kernel
 have e2:(Str.ofString "things" == Str.ofString "height")=false:=by decide +kernel
 unfold bQ Z6
 simp[List.lookup_cons,e1,e2]
theorem Z1I(D:List Dy)(hD:D.length≤100000)(s0 s1 s2:P.Slot):ń (gT 3 (ě (gN 0) (ě (gN 1) (ě (gN 2) ŝ)))) Ņ (ŉ (Ą (ę 0) (Ą (ę 1) (Ą (Ę (nA dO (Ą (Ā 2) ė))) ė)))) (D.map Qg) [s0,s1,s2] []=some (D.map Qg):=by
 have h:=Ŋ (g:=gT 3 (ě (gN 0) (ě (gN 1) (ě (gN 2) ŝ)))) (mt:=Ņ) (me:=ŉ (Ą (ę 0) (Ą (ę 1) (Ą (Ę (nA dO (Ą (Ā 2) ė))) ė)))) Qg Qg (fun ρ=>∃a b c,ρ=[a,b,c]) D [s0,s1,s2] [] ⟨_,_,_,rfl⟩ (by simp;omega) (by
  rintro d _ ρ ⟨a,b,c,rfl⟩
  refine⟨[.sh (.str d.1),.sh (.int d.2.1),.sh (.lst (d.2.2.map tnV))],[.sh (.str d.1),.sh (.int d.2.1),.sh (.lst (d.2.2.map tnV))],[.sh (.str d.1),.sh (.int d.2.1),.sh (.lst (d.2.2.map tnV))],by simp[Qg],rfl,by simp[Qg],_,_,_,rfl⟩)
 simpa using h
theorem Z2z(w h:Int){T:List Th}{D:List Dy}(hT:T.length≤100000)(hD:D.length≤100000){s3 s4:P.Slot}(h3:Sl s3 (T.map bL))(h4:Sl s4 (D.map Qg)):iu [.sh (.int w),.sh (.int h),s3,s4]=.ok ["width","height","things","days"] [.int w,.int h,.lst (T.map bL),.lst (D.map Qg)]:=by
 have c:=Z1I D hD .no .no .no
 generalize hx:T.map bL=tx at *
 generalize hy:D.map Qg=dx at *
 rcases h3 with rfl|rfl<;>rcases h4 with rfl|rfl<;>simp[iu,cY,Jg,iK,IR.of,List.replicate,putN,wj,ywh,ywt,ywd,yht,yhd,ytd,c]
theorem Z31{k q w:Nat}(hw:0<w):(q*w≤k∧k-q*w<w)↔k / w=q:=by
 constructor
 ·rintro ⟨a,b⟩
  exact Nat.div_eq_of_lt_le a (by rw[Nat.add_mul];omega)
 ·rintro rfl
  have h1:=Nat.div_mul_le_self k w
  have h2:=Nat.mod_lt k hw
  have h3:=Nat.mod_eq_sub_div_mul (x:=k) (k:=w)
  omega
theorem Z32{k q w:Nat}(h:k / w=q):k-q*w=k % w:=by
 subst h
 exact(Nat.mod_eq_sub_div_mul).symm
theorem Z3p{k w h:Nat}(hw:0<w):k / w<h↔k<w*h:=by
 rw[Nat.div_lt_iff_lt_mul hw,Nat.mul_comm]
def Ů(w k:Nat):Hu.Pt:=(((k % w:Nat):Int),((k / w:Nat):Int))
theorem Z2A{S:List Hu.Pt}{r:P3}{p q:Int}:inR (Hu.Zc S) (2*r.2.2) q p↔(Hu.Zh S (cst r (fQ (p,q)))).isNone=true:=by
 have e:cst r (fQ (p,q))=(2*r.2.2*p,2*r.2.2*q):=by
  unfold cst fQ
  simp only[Int.mul_zero,Int.add_zero,Prod.mk.injEq]
  constructor<;>grind
 rw[e]
 unfold Hu.Zh inR Hu.hd
 rw[Option.isNone_iff_eq_none,List.find?_eq_none]
 simp
theorem Z06{α:Type}(y:α):∀(xs b:List α),y∈xs.foldl (fun b x=>x::b) b↔(y∈xs∨y∈b)
 | [],b=>by simp
 |x::xs,b=>by rw[List.foldl_cons,Z06 y xs (x::b)];simp;grind
def dZ(t:Th)(s:Hu.Pt)(r:P3):Bool:=shB t.1 t.2 s r
theorem Z1J{w h:Nat}(hw:0<w)(hw2:w≤60)(hh:h≤1000)(T:List Th)(Ds:List Dy){t:Th}(hg:Z0 t.1 t.2=true){r:P3}(hr:RB r)(hz:0<r.2.2) :
 ∃D:Nat,gG [.sh (Z6 w h T Ds),.sh (bL t),.sh (c3 r)]=.ret (.sh (.int D))∧∀k,D.testBit k=(decide (k<w*h) && dZ t (Ů w k) r):=by
 obtain⟨g1,g2,g3⟩:=ZN hg
 have hc:=Z0K hg (by omega) hr
 have hS:∀p∈(Z7 t.1 t.2).map (cst r),Sm p:=by
  intro p hp
  obtain⟨q,hq,rfl⟩:=List.mem_map.mp hp
  exact ZW hr (g3 q hq)
 have hl:=Z0G (sl:=.sh (.lst (((Z7 t.1 t.2).map (cst r)).map pt))) (.inl rfl) hS (by simpa using g2) (by simp;omega)
 have hls:∀l∈Hu.Zc ((Z7 t.1 t.2).map (cst r)),Td l:=fun l h=>Z0H h hS
 have yw:=y_w w h T Ds
 have yh:=y_h w h T Ds
 have hv:(2:Int)*r.2.2≤10000000:=by have:=hr.2.2.2.2.2;omega
 generalize hX:Hu.Zc ((Z7 t.1 t.2).map (cst r))=X at *
 generalize hY:Z6 w h T Ds=Y at *
 have hr2:Ē (c3 r) (.int 2)=some (.int r.2.2):=by simp[c3]
 obtain⟨ρ',e1,D,s5,rfl,hD⟩:=cF (g:=gN 5) (mb:=uI) (fun(q:Nat)=>PV.int q) (fun(b:List Nat) (x:Nat)=>x::b) (fun b ρ=>∃(D:Nat) (s5:P.Slot),ρ=[.sh Y,.sh (bL t),.sh (c3 r),.ow (X.map cT),.sh (.int D),s5]∧∀k,D.testBit k=true↔(k / w∈b∧dZ t (Ů w k) r=true)) (List.range h) (by
  rintro q hq b ρ ⟨D,s5,rfl,hD⟩
  have hq:=List.mem_range.mp hq
  obtain⟨B,b1,b2⟩:=Z30 (u:=2*r.2.2) (q:=q) (w:=w) (by omega) hv (by omega) (by omega) (by omega) hls (sl:=.bw (X.map cT)) (.inr rfl)
  have hB:B<2 ^ w:=Z1k fun k hk=>by
   have:=b2 k
   cases e:B.testBit k with
   |false=>rfl
   |true=>have:=(this.mp e).1;omega
  have hB2:B<2 ^ 60:=Nat.lt_of_lt_of_le hB (Nat.pow_le_pow_right (by omega) hw2)
  have hqw:q*w≤1000*60:=Nat.mul_le_mul (by omega) hw2
  have so:lF (B:Int) ((q:Int)*(w:Int))=true:=by
   have:((q:Int)*(w:Int))=((q*w:Nat):Int):=by simp
   rw[this]
   unfold lF
   simp
   omega
  have mo:ň (q:Int) (w:Int)=true:=ű (by omega) (by omega)
  have tn:((q:Int)*(w:Int)).toNat=q*w:=by
   have:((q:Int)*(w:Int))=((q*w:Nat):Int):=by simp
   rw[this];rfl
  obtain⟨Z,hZ⟩:∃Z:Nat,Z=D ||| B*2 ^ (q*w):=⟨_,rfl⟩
  have oe:Builtin.bitOr (D:Int) ((B:Int)*2 ^ (q*w))=(Z:Int):=by
   have ee:(B:Int)*2 ^ (q*w)=((B*2 ^ (q*w):Nat):Int):=by simp
   rw[ee,Z1H,hZ]
  have m2:ň 2 r.2.2=true:=ű (by omega) (by omega)
  generalize c3 r=R at *
  have st:uI [.sh Y,.sh (bL t),.sh R,.ow (X.map cT),.sh (.int D),.sh (.int q)]=.ok .nx [.sh Y,.sh (bL t),.sh R,.ow (X.map cT),.sh (.int Z),.sh (.int q)]:=by
   simp[uI,hr2,yw,m2,b1,mo,so,tn,oe]
  refine⟨_,_,rfl,st,_,_,rfl,fun k=>?_⟩
  rw[hZ,Nat.testBit_or,Bool.or_eq_true,hD,Nat.testBit_mul_two_pow,Bool.and_eq_true,decide_eq_true_eq,b2,List.mem_cons,←hX,Z2A]
  have key:∀(_:k / w=q),((Hu.Zh ((Z7 t.1 t.2).map (cst r)) (cst r (fQ (((k-q*w:Nat):Int),(q:Int))))).isNone=true↔dZ t (Ů w k) r=true):=by
   intro hk
   unfold dZ shB Ů
   rw[Z32 hk,hk]
  have d:=Z31 (k:=k) (q:=q) hw
  constructor
  ·rintro (⟨a,b⟩|⟨a,b,c⟩)
   ·exact⟨.inr a,b⟩
   ·have:=d.mp ⟨a,b⟩
    exact⟨.inl this,(key this).mp c⟩
  ·rintro ⟨a|a,b⟩
   ·have:=d.mpr a
    exact .inr ⟨this.1,this.2,(key a).mpr b⟩
   ·exact .inl ⟨a,b⟩) [] [.sh Y,.sh (bL t),.sh (c3 r),.ow (X.map cT),.sh (.int ((0:Nat):Int)),.no] ⟨0,.no,rfl,by simp⟩
 refine⟨D,?_,fun k=>?_⟩
 ·have rr:=ZG hh
  have hc':jF [.sh (bL t),.sh (c3 r)]=.ret (.ow (((Z7 t.1 t.2).map (cst r)).map pt)):=hc
  generalize c3 r=R at *
  generalize bL t=Tv at *
  simp[gG,Ai,List.replicate,hc',hl,yh,rr,-List.map_map] at e1 ⊢
  simp[e1]
 ·have:=hD k
  rw[Z06,List.mem_range,Z3p hw] at this
  rw[Bool.eq_iff_iff,this,Bool.and_eq_true,decide_eq_true_eq]
  simp
def Zq:Nat→(Nat→Bool)→Nat
 |0,_=>0
 |n+1,p=>Zq n p+if p n then 2 ^ n else 0
theorem ZO(p:Nat→Bool):∀n,Zq n p<2 ^ n
 |0=>by simp[Zq]
 |n+1=>by
  have:=ZO p n
  unfold Zq
  rw[Nat.pow_succ]
  split<;>omega
theorem Zu(p:Nat→Bool):∀n k,(Zq n p).testBit k=(decide (k<n) && p k)
 |0,k=>by simp[Zq]
 |n+1,k=>by
  have hl:=ZO p n
  unfold Zq
  by_cases h:k<n
  ·have ih:=Zu p n k
   have h1:k<n+1:=by omega
   split
   ·rw[Nat.add_comm,Nat.testBit_two_pow_add_gt h,ih];simp[h,h1]
   ·rw[Nat.add_zero,ih];simp[h,h1]
  ·by_cases h2:k=n
   ·subst h2
    split
    ·rename_i q
     rw[Nat.add_comm,Nat.testBit_two_pow_add_eq,Nat.testBit_lt_two_pow hl];simp[q]
    ·rename_i q
     rw[Nat.add_zero,Nat.testBit_lt_two_pow hl];simp[q]
   ·have h3:¬k<n+1:=by omega
    have:Zq n p+(if p n=true then 2 ^ n else 0)<2 ^ k:=by
     refine Nat.lt_of_lt_of_le (ZO p (n+1)) (Nat.pow_le_pow_right (by omega) (by omega))
    rw[Nat.testBit_lt_two_pow this]
    simp[h3]
theorem Z07{n:Nat}{p:Nat→Bool}{D:Nat}(h:∀k,D.testBit k=(decide (k<n) && p k)):D=Zq n p:=Nat.eq_of_testBit_eq fun k=>by rw[h,Zu]
def mL(w h:Nat)(r:P3)(t:Th):Nat:=Zq (w*h) fun k=>dZ t (Ů w k) r
def dkp(w:Nat)(T:List Th):Option P3→Nat→Bool
 |none,_=>true
 |some r,k=>T.any fun t=>dZ t (Ů w k) r
def sW(w h:Nat)(T:List Th)(o:Option P3):Nat:=Zq (w*h) (dkp w T o)
def RB'(o:Option P3):Prop:=match o with|none=>True|some r=>RB r∧0<r.2.2
theorem Z0c{w h:Nat}(hw:0<w)(hw2:w≤60)(hh:h≤1000)(T:List Th)(Ds:List Dy){t:Th}(hg:Z0 t.1 t.2=true){r:P3}(hr:RB r)(hz:0<r.2.2) :
 gG [.sh (Z6 w h T Ds),.sh (bL t),.sh (c3 r)]=.ret (.sh (.int (mL w h r t))):=by
 obtain⟨D,h1,h2⟩:=Z1J hw hw2 hh T Ds hg hr hz
 rw[h1,Z07 h2]
 rfl
theorem Z0M{w h:Nat}(hw:0<w)(hw2:w≤60)(hh:h≤1000){T:List Th}(hT:T.length≤1000)(Ds:List Dy)(hg:∀t∈T,Z0 t.1 t.2=true){r:P3}(hr:RB r)(hz:0<r.2.2) :
 yx [.sh (Z6 w h T Ds),.sh (c3 r)]=.ret (.ow (T.map fun t=>.int (mL w h r t))):=by
 have yt:=y_t w h T Ds
 have hc:=Ŋ (g:=gN 2) (mt:=Ņ) (me:=Ę (Ė gG (Ĉ 0 (Ĉ 2 (Ĉ 1 ē))))) bL (fun t=>.int (mL w h r t)) (fun ρ=>∃s,ρ=[.sh (Z6 w h T Ds),.sh (c3 r),s]) T [.sh (Z6 w h T Ds),.sh (c3 r),.no] [] ⟨_,rfl⟩ (by simp;omega) (by
  rintro t ht ρ ⟨s,rfl⟩
  have e:=Z0c hw hw2 hh T Ds (hg t ht) hr hz
  generalize Z6 w h T Ds=Y at *
  generalize c3 r=R at *
  generalize bL t=Tv at *
  refine⟨_,_,_,rfl,rfl,by simp[e];rfl,_,rfl⟩)
 generalize Z6 w h T Ds=Y at *
 generalize c3 r=R at *
 simp[yx,Jk,List.replicate,yt]
 simp at hc
 simp[hc]
theorem Z2B{w h:Nat}(hw:0<w)(hw2:w≤60)(hh:h≤1000)(Te:w*h≤1000){T:List Th}(hT:T.length≤1000)(Ds:List Dy)(hg:∀t∈T,Z0 t.1 t.2=true){o:Option P3}(ho:RB' o) :
 iV [.sh (Z6 w h T Ds),.sh (tnV o)]=.ret (.sh (.int (sW w h T o))):=by
 have yw:=y_w w h T Ds
 have yh:=y_h w h T Ds
 have mo:ň (w:Int) (h:Int)=true:=ű (by omega) (by omega)
 cases o with
 |none=>
  obtain⟨B,b1,b2⟩:=Z19 (f:=0) (l:=(w:Int)*h-1) (w:=w*h) (by omega) (by rw[Int.natCast_mul];omega) Te
  have:B=sW w h T none:=Z07 fun k=>by
   rw[b2]
   simp[dkp]
   have:((w*h:Nat):Int)=(w:Int)*h:=by simp
   omega
  subst this
  generalize Z6 w h T Ds=Y at *
  simp[iV,uJ,List.replicate,tnV,yw,yh,mo,b1,Ep]
 |some r=>
  have ho:RB r∧0<r.2.2:=ho
  have hd:=Z0M hw hw2 hh hT Ds hg ho.1 ho.2
  obtain⟨ρ',e1,D,s3,rfl,hD⟩:=cF (g:=gN 3) (mb:=Aj) (fun(t:Th)=>PV.int (mL w h r t)) (fun(b:List Th) (x:Th)=>x::b) (fun b ρ=>∃(D:Nat) (s3:P.Slot),ρ=[.sh (Z6 w h T Ds),.sh (c3 r),.sh (.int D),s3]∧∀k,D.testBit k=true↔(k<w*h∧∃t∈b,dZ t (Ů w k) r=true)) T (by
   rintro t ht b ρ ⟨D,s3,rfl,hD⟩
   refine⟨_,_,rfl,by simp[Aj,Z1H];exact⟨rfl,rfl⟩,_,_,rfl,fun k=>?_⟩
   rw[Nat.testBit_or,Bool.or_eq_true,hD,mL,Zu,Bool.and_eq_true,decide_eq_true_eq]
   simp
   grind) [] [.sh (Z6 w h T Ds),.sh (c3 r),.sh (.int ((0:Nat):Int)),.no] ⟨0,.no,rfl,by simp⟩
  have:D=sW w h T (some r):=Z07 fun k=>by
   have:=hD k
   rw[Bool.eq_iff_iff,this]
   simp only[Z06,dkp,List.not_mem_nil,or_false,Bool.and_eq_true,decide_eq_true_eq,List.any_eq_true]
  subst this
  have hn:zK (c3 r) .non=some (.bl false):=by simp[c3,Ep]
  generalize Z6 w h T Ds=Y at *
  show iV [.sh Y,.sh (c3 r)]=_
  simp at e1
  generalize c3 r=R at *
  have hn:Ep R=false:=by simpa using hn
  simp[iV,uJ,List.replicate,hd,hn,e1]
theorem Z0N(ns:List Int)(k:Nat):dg [.sh (.lst (ns.map .int)),.sh (.int k)]=.ret (.sh (.int (ns.getD k 0))):=by
 by_cases h:k<ns.length
 ·have h':(k:Int)<(ns.length:Int):=by omega
  simp[dg,uM,List.replicate,h',List.getElem?_eq_getElem h]
 ·have h':¬(k:Int)<(ns.length:Int):=by omega
  simp[dg,uM,List.replicate,h',List.getElem?_eq_none (Nat.le_of_not_lt h)]
@[simp] theorem Z33(ns:List Int)(k:Nat):dg [.sh (.lst (ns.map .int)),.sh (.int (no_index (OfNat.ofNat k)))]=.ret (.sh (.int (ns.getD k 0))):=Z0N ns k
def Gr(x:Int):Prop:=0≤x∧x<524288
theorem Zx(c:Int)(s1:P.Slot):∀(ks:List Nat) (acc:List Int) (n:Int) (s4:P.Slot),acc.length+ks.length≤100000→(∀k∈ks,k≤100000)→(∀x∈acc,Gr x)→∃(acc':List Int) (n':Int) (FJ:P.Slot),forL (gN 4) kE (ks.map fun(i:Nat)=>PV.int (i:Int)) [.sh (.int c),s1,.ow (acc.map .int),.sh (.int n),s4]=.ok .nx [.sh (.int c),s1,.ow (acc'.map .int),.sh (.int n'),FJ]∧acc'.length=acc.length+ks.length∧∀x∈acc',Gr x
 | [],acc,n,s4,_,_,h=>⟨acc,n,s4,rfl,rfl,h⟩
 |k::ks,acc,n,s4,hl,hk,h=>by
  have hk0:=hk k List.mem_cons_self
  have hl0:acc.length<16777216:=by simp at hl;omega
  rw[List.map_cons,forL]
  have hg:gN 4 (PV.int (k:Int)) [.sh (.int c),s1,.ow (acc.map .int),.sh (.int n),s4]=some [.sh (.int c),s1,.ow (acc.map .int),.sh (.int n),.sh (.int k)]:=rfl
  rw[hg]
  dsimp only
  by_cases h0:c % 2=0
  ·have e:kE [.sh (.int c),s1,.ow (acc.map .int),.sh (.int n),.sh (.int k)]=.ok .nx [.sh (.int c),s1,.ow ((acc ++ [n % 524287]).map .int),.sh (.int (n / 524287)),.sh (.int k)]:=by
    simp[kE,h0,hl0]
   rw[e]
   obtain⟨a,b,d,q1,q2,q3⟩:=Zx c s1 ks (acc ++ [n % 524287]) (n / 524287) (.sh (.int k)) (by simp at hl ⊢;omega) (fun x hx=>hk x (List.mem_cons_of_mem _ hx)) (by
    intro x hx
    rcases List.mem_append.mp hx with hx|hx
    ·exact h x hx
    ·rw[List.mem_singleton.mp hx];unfold Gr;omega)
   exact⟨a,b,d,q1,by simp at q2 ⊢;omega,q3⟩
  ·obtain⟨m,hm⟩:∃m,(n*49157+24593+2*(k:Int)) % 8388593=m:=⟨_,rfl⟩
   have e:kE [.sh (.int c),s1,.ow (acc.map .int),.sh (.int n),.sh (.int k)]=.ok .nx [.sh (.int c),s1,.ow ((acc ++ [m / 16]).map .int),.sh (.int m),.sh (.int k)]:=by
    simp[kE,h0,hl0,hm]
   rw[e]
   obtain⟨a,b,d,q1,q2,q3⟩:=Zx c s1 ks (acc ++ [m / 16]) m (.sh (.int k)) (by simp at hl ⊢;omega) (fun x hx=>hk x (List.mem_cons_of_mem _ hx)) (by
    intro x hx
    rcases List.mem_append.mp hx with hx|hx
    ·exact h x hx
    ·rw[List.mem_singleton.mp hx];unfold Gr;omega)
   exact⟨a,b,d,q1,by simp at q2 ⊢;omega,q3⟩
theorem Z0r(c:Int){n:Nat}(hn:n≤1000):∃xs:List Int,gF [.sh (.int c),.sh (.int n)]=.ret (.ow (xs.map .int))∧xs.length=n∧∀x∈xs,Gr x:=by
 have rr:=ZG hn
 by_cases h:c % 2=1
 ·obtain⟨a,b,d,q1,q2,q3⟩:=Zx c (.sh (.int n)) (List.range n) [] (c / 2 % 8388593) .no (by simp;omega) (fun k hk=>by have:=List.mem_range.mp hk;omega) (by simp)
  refine⟨a,?_,by simpa using q2,q3⟩
  simp at q1
  simp[gF,uE,List.replicate,h,rr,q1]
 ·obtain⟨a,b,d,q1,q2,q3⟩:=Zx c (.sh (.int n)) (List.range n) [] (c / 2) .no (by simp;omega) (fun k hk=>by have:=List.mem_range.mp hk;omega) (by simp)
  refine⟨a,?_,by simpa using q2,q3⟩
  simp at q1
  simp[gF,uE,List.replicate,h,rr,q1]
def Pl(x:Int):Prop:=-1000000000+50≤x∧x≤1000000000-50
theorem Zv(n:Int){w:Int}(h1:1≤w)(h2:w≤1000):∃x:Int,bZ [.sh (.int n),.sh (.int w)]=.ret (.sh (.int x))∧Pl x:=by
 by_cases h:n / 512 % 16=5
 ·exact⟨n*3813 % 1999999901-1000000000+50,by simp[bZ,uO,List.replicate,h],by unfold Pl;omega⟩
 ·have m0:¬(2*w+9=0):=by omega
  have p:=Int.emod_nonneg n (show(2*w+9)≠0 by omega)
  have q:=Int.emod_lt_of_pos n (show 0<(2*w+9) by omega)
  have e:n.fmod (2*w+9)=n % (2*w+9):=Int.fmod_eq_emod_of_nonneg n (by omega)
  exact⟨n % (2*w+9)-4,by simp[bZ,uO,List.replicate,h,m0,e],by unfold Pl;omega⟩
theorem Z0d(n:Int):∃x:Int,jH [.sh (.int n)]=.ret (.sh (.int x))∧1≤x∧x≤1000000000:=by
 by_cases h:n / 512 % 12=7
 ·exact⟨1+n*1907 % 1000000000,by simp[jH,uN,List.replicate,h],by omega,by omega⟩
 ·exact⟨1+n % 9,by simp[jH,uN,List.replicate,h],by omega,by omega⟩
theorem Z1K{x y h:Int}(a:Pl x)(b:Pl y)(c:1≤h∧h≤1000000000):Z0 "post" [x / 2,y / 2,h]=true:=by
 unfold Pl at a b
 unfold Z0 Zi aQ yM
 simp
 omega
theorem Qh{a b:String}(h:decide (Str.ofString a=Str.ofString b)=false):¬(Str.ofString a=Str.ofString b):=of_decide_eq_false h
theorem Z1m{x y u v h:Int}(a:Pl x)(b:Pl y)(hu: -4≤u∧u≤4)(hv: -4≤v∧v≤4)(c:1≤h∧h≤1000000000)(e:Int)(he:e=if u=0∧v=0 then 1 else 0):Z0 "fence" [x,y,x+u+e,y+v,h]=true:=by
 have h1:¬(Str.ofString "fence" =Str.ofString "post"):=Qh (by decide +kernel)
 unfold Pl at a b
 unfold Z0
 rw[if_neg h1,if_pos rfl]
 unfold Ze Zj aQ yM
 simp
 split at he<;>omega
theorem Z0O{w:Str}(hw:w= "sail" ∨w= "house"){x y u v h:Int}(a:Pl x)(b:Pl y)(hu:0≤u∧u≤8)(hv:0≤v∧v≤8)(c:1≤h∧h≤1000000000):Z0 w [x,y,x+1+u,y+1+v,h]=true:=by
 have hb:Z9 [x,y,x+1+u,y+1+v,h]=true:=by
  unfold Pl at a b
  unfold Z9 Zj aQ yM
  simp
  omega
 unfold Z0
 rcases hw with rfl|rfl
 ·rw[if_neg (Qh (by decide +kernel)),if_neg (Qh (by decide +kernel)),if_pos rfl]
  exact hb
 ·rw[if_neg (Qh (by decide +kernel)),if_neg (Qh (by decide +kernel)),if_neg (Qh (by decide +kernel)),if_neg (Qh (by decide +kernel)),if_pos rfl]
  exact hb
theorem Z1n{x y z a b c d e f:Int}(h1:Pl x)(h2:Pl y)(h3:0≤z∧z≤1000000000)(h4:Pl a)(h5:Pl b)(h6:1≤c∧c≤1000000000)(h7:Pl d)(h8:Pl e)(h9:1≤f∧f≤1000000000):Z0 "cloth" [x,y,z,a,b,c,d,e,f]=true:=by
 unfold Z0
 rw[if_neg (Qh (by decide +kernel)),if_neg (Qh (by decide +kernel)),if_neg (Qh (by decide +kernel)),if_pos rfl]
 unfold Pl at *
 unfold Zf aQ yN
 simp
 omega
theorem Z3q:∀(xs:List Int),xs.length=14→∃a b c d e f g h i j k l m n,xs=[a,b,c,d,e,f,g,h,i,j,k,l,m,n]
 | [a,b,c,d,e,f,g,h,i,j,k,l,m,n],_=>⟨a,b,c,d,e,f,g,h,i,j,k,l,m,n,rfl⟩
theorem Z3r(x y:Hu.Pt):ŏ (pt x) (pt y)=some (.bl (decide (x=y))):=by
 unfold ŏ nO
 rw[ZL,ZL,ZJ,ZJ,Z0C]
 rfl
theorem Z0m:ů [.int 2]=some [.int 0,.int 1]:=by rfl
theorem Z1L(c:Int){w:Int}(hw1:1≤w)(hw2:w≤1000):∃t:Th,dW [.sh (.int c),.sh (.int w)]=.ret (.sh (.tup [.str t.1,.lst (t.2.map .int)]))∧Z0 t.1 t.2=true:=by
 obtain⟨xs,eg,hl,hx⟩:=Z0r c (n:=14) (by omega)
 obtain⟨x0,x1,x2,x3,x4,x5,x6,x7,x8,x9,x10,x11,x12,x13,rfl⟩:=Z3q xs hl
 clear hl hx
 obtain⟨p0,e0,q0⟩:=Zv x0 hw1 hw2
 obtain⟨p1,e1,q1⟩:=Zv x1 hw1 hw2
 obtain⟨z,ez,qz⟩:=Z0d x2
 have eg':gF [.sh (.int c),.sh (.int 14)]=.ret (.ow [.int x0,.int x1,.int x2,.int x3,.int x4,.int x5,.int x6,.int x7,.int x8,.int x9,.int x10,.int x11,.int x12,.int x13]):=eg
 clear eg
 have hc:ń (gN 2) Ņ (Ę (Ė bZ (Đ (Ć Ē (Ā 1) (Ā 2)) (Ĉ 0 ē)))) [PV.int 0,PV.int 1] [.sh (.int w),.bw [.int x0,.int x1,.int x2,.int x3,.int x4,.int x5,.int x6,.int x7,.int x8,.int x9,.int x10,.int x11,.int x12,.int x13],.no] []=some [.int p0,.int p1]:=by
  simp[ń,e0,e1]
 have k:0≤x3 % 5∧x3 % 5<5:=by omega
 obtain⟨kd,hkd⟩:∃kd,x3 % 5=kd:=⟨_,rfl⟩
 rw[hkd] at k
 by_cases k0:kd=0
 ·refine⟨("post",[p0 / 2,p1 / 2,z]),?_,Z1K q0 q1 qz⟩
  simp[dW,jh,List.replicate,eg',Z0m,hc,ez,hkd,k0]
 ·by_cases k1:kd=1
  ·refine⟨("fence",[p0,p1,p0+(x4 % 9-4)+(if x4 % 9-4=0∧x5 % 9-4=0 then 1 else 0),p1+(x5 % 9-4),z]),?_,Z1m q0 q1 (by omega) (by omega) qz _ rfl⟩
   have hq:=Z3r (p0,p1) (p0+x4 % 9-4,p1+x5 % 9-4)
   unfold pt at hq
   dsimp only at hq
   have hi:(if x4 % 9-4=0∧x5 % 9-4=0 then(1:Int) else 0)=if decide ((p0,p1)=(p0+x4 % 9-4,p1+x5 % 9-4))=true then 1 else 0:=by
    simp only[decide_eq_true_eq,Prod.mk.injEq]
    split<;>split<;>omega
   generalize decide ((p0,p1)=(p0+x4 % 9-4,p1+x5 % 9-4))=bb at *
   have a1:p0+(x4 % 9-4)=p0+x4 % 9-4:=by omega
   have a2:p1+(x5 % 9-4)=p1+x5 % 9-4:=by omega
   rw[a1,a2,hi]
   cases bb<;>simp[dW,jh,List.replicate,eg',Z0m,hc,ez,hkd,k1,hq]
  ·by_cases k2:kd=2
   ·obtain⟨p7,e7,q7⟩:=Zv x7 hw1 hw2
    obtain⟨p8,e8,q8⟩:=Zv x8 hw1 hw2
    obtain⟨p9,e9,q9⟩:=Zv x9 hw1 hw2
    obtain⟨p10,e10,q10⟩:=Zv x10 hw1 hw2
    obtain⟨z2,ez2,qz2⟩:=Z0d x11
    refine⟨("cloth",[p0,p1,x6 % 10,p7,p8,z,p9,p10,z2]),?_,Z1n q0 q1 (by omega) q7 q8 qz q9 q10 qz2⟩
    simp[dW,jh,List.replicate,eg',Z0m,hc,ez,hkd,k2,e7,e8,e9,e10,ez2,add_l]
   ·by_cases k3:kd=3
    ·refine⟨("sail",[p0,p1,p0+1+x4 % 8,p1+1+x5 % 8,z]),?_,Z0O (.inl rfl) q0 q1 (by omega) (by omega) qz⟩
     simp[dW,jh,List.replicate,eg',Z0m,hc,ez,hkd,k3]
    ·have k4:kd=4:=by omega
     refine⟨("house",[p0,p1,p0+1+x4 % 8,p1+1+x5 % 8,z]),?_,Z0O (.inr rfl) q0 q1 (by omega) (by omega) qz⟩
     simp[dW,jh,List.replicate,eg',Z0m,hc,ez,hkd,k4]
theorem Z26(c:Int):∃w h:Nat,dU [.sh (.int c),.sh (.int 9)]=.ret (.sh (.tup [.int w,.int h]))∧1≤w∧w≤20∧1≤h∧h≤20∧w*h≤20:=by
 by_cases h0:c / 7 % 16=11
 ·have hd:c % 2=0∨c % 2=1:=by omega
  rcases hd with hd|hd
  ·exact⟨1,20,by simp[dU,fC,List.replicate,h0,hd],by omega,by omega,by omega,by omega,by omega⟩
  ·exact⟨20,1,by simp[dU,fC,List.replicate,h0,hd],by omega,by omega,by omega,by omega,by omega⟩
 ·have hd:c % 5=0∨c % 5=1∨c % 5=2∨c % 5=3∨c % 5=4:=by omega
  rcases hd with hd|hd|hd|hd|hd
  ·obtain⟨h,hh⟩:∃h:Nat,1+c / 5 % 4=(h:Int):=⟨(1+c / 5 % 4).toNat,by omega⟩
   exact⟨1,h,by simp[dU,fC,List.replicate,h0,hd,hh],by omega,by omega,by omega,by omega,by omega⟩
  ·obtain⟨h,hh⟩:∃h:Nat,1+c / 5 % 4=(h:Int):=⟨(1+c / 5 % 4).toNat,by omega⟩
   exact⟨2,h,by simp[dU,fC,List.replicate,h0,hd,hh],by omega,by omega,by omega,by omega,by omega⟩
  ·obtain⟨h,hh⟩:∃h:Nat,1+c / 5 % 3=(h:Int):=⟨(1+c / 5 % 3).toNat,by omega⟩
   exact⟨3,h,by simp[dU,fC,List.replicate,h0,hd,hh],by omega,by omega,by omega,by omega,by omega⟩
  ·obtain⟨h,hh⟩:∃h:Nat,1+c / 5 % 2=(h:Int):=⟨(1+c / 5 % 2).toNat,by omega⟩
   exact⟨4,h,by simp[dU,fC,List.replicate,h0,hd,hh],by omega,by omega,by omega,by omega,by omega⟩
  ·exact⟨5,1,by simp[dU,fC,List.replicate,h0,hd],by omega,by omega,by omega,by omega,by omega⟩
def Z0P:Option Hu.Ln→PV
 |some l=>cT l
 |none=>.non
theorem Z1o{S:List Hu.Pt}{sl:P.Slot}(hs:Sl sl (S.map pt))(hS:∀p∈S,Sm p)(h0:S≠[])(hl:S.length≤1000)(p:Hu.Pt):o_ [sl,.sh (pt p)]=.ret (.sh (Z0P (Hu.Zh S p))):=by
 have h1:=Z0G hs hS h0 hl
 have e:(Hu.Zc S).findSome? (fun l=>if Hu.hd l p=true then none else some l)=Hu.Zh S p:=by
  unfold Hu.Zh
  generalize Hu.Zc S=L
  induction L with
  |nil=>rfl
  |cons l L ih=>
   rw[List.findSome?_cons,List.find?_cons]
   cases q:Hu.hd l p with
   |true=>simpa using ih
   |false=>simp
 rcases dR (g:=gN 2) (mb:=uX) cT (fun l=>if Hu.hd l p=true then none else some l) (fun l=>.sh (cT l)) (fun ρ=>∃s2,ρ=[sl,.sh (pt p),s2]) (Hu.Zc S) (by
  rintro l hm ρ ⟨s2,rfl⟩
  refine⟨[sl,.sh (pt p),.sh (cT l)],by simp,?_⟩
  have hh:=Z0E (Z0H hm hS) p
  cases q:Hu.hd l p with
  |true=>
   rw[q] at hh
   exact .inr ⟨[sl,.sh (pt p),.sh (cT l)],by simp,by simp[uX,hh],_,rfl⟩
  |false=>
   rw[q] at hh
   exact .inl ⟨l,[sl,.sh (pt p),.sh (cT l)],by simp,by simp[uX,hh]⟩) [sl,.sh (pt p),.no] ⟨_,rfl⟩ with⟨l,ρ',q1,q2⟩|⟨ρ',q1,q2,_⟩
 ·rw[e] at q1
  rw[q1]
  simp[o_,uY,List.replicate,hs.lend,h1,q2,Z0P]
 ·rw[e] at q1
  rw[q1]
  simp[o_,uY,List.replicate,hs.lend,h1,q2,Z0P]
def qd(q:Nat×Nat):PV:=.tup [.int q.1,.int q.2]
def yO(q:Nat×Nat×Nat):PV:=.tup [.int q.1,.int q.2.1,.int q.2.2]
theorem Z1M(j:Nat)(hj:j≤1000)(acc:List PV)(s0:P.Slot)(ha:acc.length+j≤16777216):pq [s0,.ow acc,.sh (.int j)]=.ok .nx [s0,.ow (acc++((List.range j).map fun i=>(i,j)).map qd),.sh (.int j)]:=by
 have c1:ń (gN 1) Ņ (ŉ (Ą (ę 1) (Ą (ę 0) ė))) ((List.range j).map fun(i:Nat)=>PV.int (i:Int)) [.sh (.int j),.no] []=some (((List.range j).map fun i=>(i,j)).map qd):=by
  have:=Ŋ (g:=gN 1) (mt:=Ņ) (me:=ŉ (Ą (ę 1) (Ą (ę 0) ė))) (fun(i:Nat)=>PV.int (i:Int)) (fun i=>qd (i,j)) (fun ρ=>∃s,ρ=[.sh (.int j),s]) (List.range j) [.sh (.int j),.no] [] ⟨_,rfl⟩ (by simp;omega) (by
   rintro x hx ρ ⟨s,rfl⟩
   exact⟨[.sh (.int j),.sh (.int x)],[.sh (.int j),.sh (.int x)],[.sh (.int j),.sh (.int x)],by simp,by simp,by simp[qd],_,rfl⟩)
  rw[this,List.map_map]
  rfl
 have hl:acc.length+(((List.range j).map fun i=>(i,j)).map qd).length≤16777216:=by simpa using ha
 generalize ((List.range j).map fun i=>(i,j)).map qd=qs at c1 hl
 simp[pq,ZG hj,c1,hl]
theorem Z0e(k:Nat):Hu.Z8 (k+1)=Hu.Z8 k++(List.range k).map fun i=>(i,k):=by
 unfold Hu.Z8
 rw[List.range_succ,List.flatMap_append]
 simp
theorem ZF:∀n,(Hu.Z8 n).length≤n*n
 |0=>by simp[Hu.Z8]
 |n+1=>by
  have:=ZF n
  rw[Z0e,List.length_append,List.length_map,List.length_range,Nat.succ_mul,Nat.mul_succ]
  omega
theorem ZX(k:Nat):Hu.Zb (k+1)=Hu.Zb k++(Hu.Z8 k).map fun q=>(q.1,q.2,k):=by
 unfold Hu.Zb
 rw[List.range_succ,List.flatMap_append]
 simp
theorem ZP{g:Tg}{mb:M Fl}(nb:∀ρ ρ',mb ρ≠ .ok .bk ρ'):∀(xs ys:List PV) (ρ ρ1:Ŗ),forL g mb xs ρ=.ok .nx ρ1→forL g mb (xs++ys) ρ=forL g mb ys ρ1
 | [],ys,ρ,ρ1,h=>by
   have e:Res.ok Fl.nx ρ=.ok .nx ρ1:=h
   cases e
   rfl
 |x::xs,ys,ρ,ρ1,h=>by
  rw[List.cons_append,forL]
  rw[forL] at h
  cases e:g x ρ with
  |none=>rw[e] at h;cases h
  |some ρ2=>
   rw[e] at h
   dsimp only at h ⊢
   cases e2:mb ρ2 with
   |bad=>rw[e2] at h;cases h
   |exc x ρ3=>rw[e2] at h;cases h
   |ok f ρ3=>
    rw[e2] at h
    cases f with
    |nx=>exact ZP nb xs ys ρ3 ρ1 h
    |ct=>exact ZP nb xs ys ρ3 ρ1 h
    |bk=>exact absurd e2 (nb ρ2 ρ3)
    |rt r=>cases h
theorem Z0Q{g:Tg}{mb:M Fl}{p:PV}{ρ ρ1 ρ2:Ŗ}(h1:g p ρ=some ρ1)(h2:mb ρ1=.ok .nx ρ2):forL g mb [p] ρ=.ok .nx ρ2:=by
 rw[forL,h1]
 dsimp only
 rw[h2]
 rfl
theorem Z1N{i:Nat}{mo:M RV}{ρ ρ':Ŗ}:zT i mo ρ≠ .ok .bk ρ':=by
 unfold zT
 intro h
 split at h
 ·cases e:mo ρ with
  |bad=>rw[e] at h;cases h
  |exc x ρ1=>rw[e] at h;cases h
  |ok r ρ1=>
   rw[e] at h
   simp only[Res.aU] at h
   split at h
   ·split at h<;>cases h
   ·cases h
 ·cases h
theorem Z0R(n:Nat)(hn:n≤100):lU [.sh (.int n)]=.ret (.ow ((Hu.Z8 n).map qd)):=by
 have key:∀k,k≤n→∃s2,forL (gN 2) pq ((List.range k).map fun(i:Nat)=>PV.int (i:Int)) [.sh (.int n),.ow [],.no]=.ok .nx [.sh (.int n),.ow ((Hu.Z8 k).map qd),s2]:=by
  intro k
  induction k with
  |zero=>intro _;exact⟨.no,rfl⟩
  |succ k ih=>
   intro hk
   obtain⟨s2,e⟩:=ih (by omega)
   refine⟨.sh (.int k),?_⟩
   rw[List.range_succ,List.map_append,ZP (mb:=pq) (fun _ _=>Z1N) _ _ _ _ e,Z0e,List.map_append]
   have hlen:=ZF k
   have hm:k*k≤100*100:=Nat.mul_le_mul (by omega) (by omega)
   exact Z0Q rfl (Z1M k (by omega) ((Hu.Z8 k).map qd) (.sh (.int n)) (by rw[List.length_map];omega))
 obtain⟨s2,e⟩:=key n (Nat.le_refl n)
 have hr:=ZG (show n≤1000 by omega)
 simp[lU,Ao,List.replicate,hr,e]
theorem Z0Z(k:Nat)(hk:k≤100)(acc:List PV)(s0:P.Slot)(ha:acc.length≤10000000):pA [s0,.ow acc,.sh (.int k)]=.ok .nx [s0,.ow (acc++((Hu.Z8 k).map fun q=>(q.1,q.2,k)).map yO),.sh (.int k)]:=by
 have hlen:=ZF k
 have hm:k*k≤100*100:=Nat.mul_le_mul (by omega) (by omega)
 have c1:ń (gN 1) Ņ (ŉ (Ą (Ć Ē (Ā 1) (mC (.int 0))) (Ą (Ć Ē (Ā 1) (mC (.int 1))) (Ą (ę 0) ė)))) ((Hu.Z8 k).map qd) [.sh (.int k),.no] []=some (((Hu.Z8 k).map fun q=>(q.1,q.2,k)).map yO):=by
  have:=Ŋ (g:=gN 1) (mt:=Ņ) (me:=ŉ (Ą (Ć Ē (Ā 1) (mC (.int 0))) (Ą (Ć Ē (Ā 1) (mC (.int 1))) (Ą (ę 0) ė)))) qd (fun q=>yO (q.1,q.2,k)) (fun ρ=>∃s,ρ=[.sh (.int k),s]) (Hu.Z8 k) [.sh (.int k),.no] [] ⟨_,rfl⟩ (by simp;omega) (by
   rintro x hx ρ ⟨s,rfl⟩
   exact⟨[.sh (.int k),.sh (qd x)],[.sh (.int k),.sh (qd x)],[.sh (.int k),.sh (qd x)],by simp,by simp,by simp[qd,yO],_,rfl⟩)
  rw[this,List.map_map]
  rfl
 have hl:acc.length+(((Hu.Z8 k).map fun q=>(q.1,q.2,k)).map yO).length≤16777216:=by simp;omega
 have hp:=Z0R k hk
 generalize ((Hu.Z8 k).map fun q=>(q.1,q.2,k)).map yO=qs at c1 hl
 simp[pA,hp,c1,hl]
theorem Z03:∀n,n≤100→(Hu.Zb n).length≤n*10000
 |0,_=>by simp[Hu.Zb]
 |n+1,h=>by
  have:=Z03 n (by omega)
  have h2:=ZF n
  have hm:n*n≤100*100:=Nat.mul_le_mul (by omega) (by omega)
  rw[ZX,List.length_append,List.length_map]
  omega
theorem Z1p(n:Nat)(hn:n≤100):sG [.sh (.int n)]=.ret (.ow ((Hu.Zb n).map yO)):=by
 have key:∀k,k≤n→∃s2,forL (gN 2) pA ((List.range k).map fun(i:Nat)=>PV.int (i:Int)) [.sh (.int n),.ow [],.no]=.ok .nx [.sh (.int n),.ow ((Hu.Zb k).map yO),s2]:=by
  intro k
  induction k with
  |zero=>intro _;exact⟨.no,rfl⟩
  |succ k ih=>
   intro hk
   obtain⟨s2,e⟩:=ih (by omega)
   refine⟨.sh (.int k),?_⟩
   rw[List.range_succ,List.map_append,ZP (mb:=pA) (fun _ _=>Z1N) _ _ _ _ e,ZX,List.map_append]
   have hlen:=Z03 k (by omega)
   exact Z0Q rfl (Z0Z k (by omega) ((Hu.Zb k).map yO) (.sh (.int n)) (by rw[List.length_map];omega))
 obtain⟨s2,e⟩:=key n (Nat.le_refl n)
 have hr:=ZG (show n≤1000 by omega)
 simp[sG,Aq,List.replicate,hr,e]
def W(x:Int):Prop:=-100000000000000000000000000000000000000000000000000<x∧x<100000000000000000000000000000000000000000000000000
theorem W.bits{x:Int}(h:W x):bits x≤200:=h_ (n:=200) (by have:=h.1;omega) (by have:=h.2;omega)
theorem dif{a b:Int}(h1: -100000000000000000≤a)(h2:a≤100000000000000000)(h3: -100000000000000000≤b)(h4:b≤100000000000000000): -200000000000000000≤a-b∧a-b≤200000000000000000:=by omega
theorem Z0n{a b c d:Int}(h1: -c≤a)(h2:a≤c)(h3: -d≤b)(h4:b≤d)(hc:0≤c)(hd:0≤d): -(c*d)≤a*b∧a*b≤c*d:=by
 have e1:(a*b).natAbs=a.natAbs*b.natAbs:=Int.natAbs_mul a b
 have e2:a.natAbs*b.natAbs≤c.natAbs*d.natAbs:=Nat.mul_le_mul (by omega) (by omega)
 have e3:(c*d).natAbs=c.natAbs*d.natAbs:=Int.natAbs_mul c d
 have e4:0≤c*d:=Int.mul_nonneg hc hd
 omega
theorem ZY{a b c:Hu.Pt}(ha:Sm a)(hb:Sm b)(hc:Sm c):iW [.sh (pt a),.sh (pt b),.sh (pt c)]=.ret (.sh (.int (Hu.tn a b c))):=by
 obtain⟨a1,a2,a3,a4⟩:=ha
 obtain⟨b1,b2,b3,b4⟩:=hb
 obtain⟨c1,c2,c3,c4⟩:=hc
 have m1:ň (b.1-a.1) (c.2-a.2)=true:=ű (by omega) (by omega)
 have m2:ň (b.2-a.2) (c.1-a.1)=true:=ű (by omega) (by omega)
 simp[iW,Ar,List.replicate,pt,Hu.tn,m1,m2]
theorem Z27{a b c:Hu.Pt}(ha:Sm a)(hb:Sm b)(hc:Sm c): -80000000000000000000000000000000000≤Hu.tn a b c∧Hu.tn a b c≤80000000000000000000000000000000000:=by
 obtain⟨a1,a2,a3,a4⟩:=ha
 obtain⟨b1,b2,b3,b4⟩:=hb
 obtain⟨c1,c2,c3,c4⟩:=hc
 obtain⟨x1,x2⟩:=dif b1 b2 a1 a2
 obtain⟨y1,y2⟩:=dif c3 c4 a3 a4
 obtain⟨z1,z2⟩:=dif b3 b4 a3 a4
 obtain⟨w1,w2⟩:=dif c1 c2 a1 a2
 obtain⟨p1,p2⟩:=Z0n x1 x2 y1 y2 (by decide) (by decide)
 obtain⟨q1,q2⟩:=Z0n z1 z2 w1 w2 (by decide) (by decide)
 unfold Hu.tn
 omega
theorem Z28{a b c p:Hu.Pt}(ha:Sm a)(hb:Sm b)(hc:Sm c)(hp:Sm p):Fj [.sh (.lst [pt a,pt b,pt c]),.sh (pt p)]=.ret (.ow ((Hu.mF a b c p).map .int)):=by
 simp[Fj,Jo,List.replicate,ZY hp hb hc,ZY ha hp hc,ZY ha hb hp,Hu.mF]
theorem Z34{a b p:Hu.Pt}(ha:Sm a)(hb:Sm b)(hp:Sm p):sI [.sh (.lst [pt a,pt b]),.sh (pt p)]=.ret (.ow ((Hu.ig a b p).map .int)):=by
 obtain⟨a1,a2,a3,a4⟩:=ha
 obtain⟨b1,b2,b3,b4⟩:=hb
 obtain⟨c1,c2,c3,c4⟩:=hp
 have m1:∀x,ň (b.1-a.1) x=true:=fun x=>ű (by omega) (by omega)
 have m2:∀x,ň (b.2-a.2) x=true:=fun x=>ű (by omega) (by omega)
 simp[sI,Av,List.replicate,pt,Hu.ig,m1,m2]
theorem Z3s{a b c p:Hu.Pt}(ha:Sm a)(hb:Sm b)(hc:Sm c)(hp:Sm p):∀s∈Hu.mF a b c p,-400000000000000000000000000000000000≤s∧s≤400000000000000000000000000000000000:=by
 have h1:=Z27 hp hb hc
 have h2:=Z27 ha hp hc
 have h3:=Z27 ha hb hp
 intro s hs
 simp only[Hu.mF,List.mem_cons,List.not_mem_nil,or_false] at hs
 rcases hs with e|e|e<;>omega
theorem Z3t{a b p:Hu.Pt}(ha:Sm a)(hb:Sm b)(hp:Sm p):∀s∈Hu.ig a b p,-400000000000000000000000000000000000≤s∧s≤400000000000000000000000000000000000:=by
 obtain⟨a1,a2,a3,a4⟩:=ha
 obtain⟨b1,b2,b3,b4⟩:=hb
 obtain⟨c1,c2,c3,c4⟩:=hp
 obtain⟨x1,x2⟩:=dif b1 b2 a1 a2
 obtain⟨z1,z2⟩:=dif b3 b4 a3 a4
 obtain⟨y1,y2⟩:=dif c1 c2 a1 a2
 obtain⟨w1,w2⟩:=dif c3 c4 a3 a4
 obtain⟨p1,p2⟩:=Z0n x1 x2 y1 y2 (by decide) (by decide)
 obtain⟨q1,q2⟩:=Z0n z1 z2 w1 w2 (by decide) (by decide)
 obtain⟨r1,r2⟩:=Z0n x1 x2 x1 x2 (by decide) (by decide)
 obtain⟨t1,t2⟩:=Z0n z1 z2 z1 z2 (by decide) (by decide)
 intro s hs
 simp only[Hu.ig,List.mem_cons,List.not_mem_nil,or_false] at hs
 rcases hs with e|e<;>omega
def ShB(w:List Int):Prop:=w.length≤3∧∀s∈w,-400000000000000000000000000000000000≤s∧s≤400000000000000000000000000000000000
theorem ShB.sum{w:List Int}(h:ShB w): -2000000000000000000000000000000000000≤w.sum∧w.sum≤2000000000000000000000000000000000000:=by
 obtain⟨h1,h2⟩:=h
 match w,h1,h2 with
 | [],_,_=>simp
 | [a],_,h2=>have:=h2 a (by simp);simp;omega
 | [a,b],_,h2=>have:=h2 a (by simp);have:=h2 b (by simp);simp;omega
 | [a,b,c],_,h2=>have:=h2 a (by simp);have:=h2 b (by simp);have:=h2 c (by simp);simp;omega
theorem Zw{x:Int}(h1: -2000000000000000000000000000000000000≤x)(h2:x≤2000000000000000000000000000000000000):bits x≤200:=h_ (n:=200) (by omega) (by omega)
theorem Z2n{w:List Int}(h:ShB w){sl:P.Slot}(hs:Sl sl (w.map .int)):jK [sl]=.ret (.sh (.bl (Hu.Zm w))):=by
 obtain⟨s1,s2⟩:=h.sum
 have hb:=Zw s1 s2
 have c1:ń (gN 1) Ņ (Ć zJ (Ć Ĥ (Ā 1) (Ā 0)) (mC (.int 0))) (w.map .int) [.sh (.int w.sum),.no] []=some ((w.map fun s=>decide (0≤s*w.sum)).map .bl):=by
  have:=Ŋ (g:=gN 1) (mt:=Ņ) (me:=Ć zJ (Ć Ĥ (Ā 1) (Ā 0)) (mC (.int 0))) PV.int (fun s=>.bl (decide (0≤s*w.sum))) (fun ρ=>∃s,ρ=[.sh (.int w.sum),s]) w [.sh (.int w.sum),.no] [] ⟨_,rfl⟩ (by have:=h.1;simp;omega) (by
   rintro x hx ρ ⟨s,rfl⟩
   have hx':=h.2 x hx
   have hm:ň x w.sum=true:=wg (Nat.le_trans (Zw (by omega) (by omega)) (by decide)) (Nat.le_trans hb (by decide))
   exact⟨[.sh (.int w.sum),.sh (.int x)],[.sh (.int w.sum),.sh (.int x)],[.sh (.int w.sum),.sh (.int x)],by simp,by simp,by simp[hm],_,rfl⟩)
  rw[this,List.map_map]
  rfl
 have c2:=Z0F (w.map fun s=>decide (0≤s*w.sum))
 have c3:(w.map fun s=>decide (0≤s*w.sum)).all id=w.all fun s=>decide (0≤s*w.sum):=by simp
 rw[c3] at c2
 unfold Hu.Zm
 have hsum:qt [.lst (w.map .int)]=some (.int w.sum):=by simp
 unfold Sl at hs
 generalize (w.map fun s=>decide (0≤s*w.sum)).map PV.bl=bs at c1 c2
 generalize (w.all fun s=>decide (0≤s*w.sum))=q at c2
 generalize w.map PV.int=ws at c1 hsum hs
 generalize w.sum=S at c1 hsum
 by_cases h0:S=0
 ·subst h0
  rcases hs with rfl|rfl<;>simp[jK,vd,List.replicate,-g_,hsum]
 ·rcases hs with rfl|rfl<;>simp[jK,vd,List.replicate,-g_,hsum,c1,c2,h0]
theorem Z2o(x y:Int):Fi [.sh (.int x),.sh (.int y)]=.ret (.sh (.int (My.gd x y))):=by
 obtain⟨⟨u,v,r⟩,e1,e2,e3⟩:=nT (mc:=(aJ (Ć aN (Ā 1) (mC (.int 0))))) (mb:=(ġ (ķ 2 (Ř (Ć œ (Ā 0) (Ā 1)))) (ġ (ķ 0 (Ř (ę 1))) (ķ 1 (Ř (ę 2))))))
  (fun b:Int×Int×P.Slot=>[.sh (.int b.1),.sh (.int b.2.1),b.2.2]) (fun b=>My.gd b.1 b.2.1=My.gd x y) (fun b=>b.2.1.natAbs) (b:=(x,y,.no)) (by
    rintro ⟨u,v,r⟩ e
    by_cases hv:v=0
    ·left;simp[hv]
    ·right;exact⟨by simp[hv],(v,u.fmod v,.sh (.int (u.fmod v))),by simp[hv],(My.Z10 u v).trans e,My.Z11 u hv⟩) rfl
 have hv:v=0:=by simpa using e3
 subst hv
 have e1':Ul [.sh (.int x),.sh (.int y),.no]=_:=e1
 simp[Fi,Jm,List.replicate,e1',←e2,My.Z12]
theorem Z1b(t:Int){b:Int}{n:Nat}(h:b≠0)(hb:bits b≤n):bits (My.gd t b)≤n:=by
 refine intBits_le_of_natAbs ?_ hb
 have h1:=My.Z3h t h
 have h2:=My.Z1s t b
 omega
def rt(t b:Int):Int×Int:=(t.fdiv (My.dv t b),b.fdiv (My.dv t b))
theorem Z0S{t b:Int}(h:b≠0)(hz:bits b≤8000):gJ [.sh (.int t),.sh (.int b)]=.ret (.sh (pt (rt t b))):=by
 have g1:=Z1b t h hz
 have g0:=My.Z09 t h
 by_cases hn:b<0
 ·have e:My.dv t b= - My.gd t b:=if_pos hn
  have c:∀i,cM i (- My.gd t b)=true:=fun i=>nR (by omega) (intBits_neg_le g1)
  simp[gJ,uZ,List.replicate,h,Z2o,hn,c,e,pt,rt]
 ·have e:My.dv t b=My.gd t b:=if_neg hn
  have c:∀i,cM i (My.gd t b)=true:=fun i=>nR (by omega) g1
  simp[gJ,uZ,List.replicate,h,Z2o,hn,c,e,pt,rt]
theorem ZZ{w:List Int}{q:List Nat}{n:Nat}(hw:ShB w)(h0:w.sum≠0)(hl:w.length=q.length)(hq:∀i∈q,i<n)(hn:n≤100){s0 s1:P.Slot}(hs0:Sl s0 (w.map .int))(hs1:s1=.sh (.lst (q.map fun(i:Nat)=>.int (i:Int)))∨s1=.sh (.tup (q.map fun(i:Nat)=>.int (i:Int)))) :
 dX [s0,s1,.sh (.int n)]=.ret (.ow ((Fr.lay (List.replicate n 0) (w.zip q)).map fun s=>pt (rt s w.sum))):=by
 obtain⟨b1,b2⟩:=hw.sum
 have hb:=Nat.le_trans (Zw b1 b2) (show 200≤8000 by decide)
 have hsum:qt [.lst (w.map .int)]=some (.int w.sum):=by simp
 have c1:ń (gN 1) Ņ (Ę (Ė gJ (Đ (mC (.int 0)) (Ĉ 0 ē)))) ((List.range n).map fun(i:Nat)=>PV.int (i:Int)) [.sh (.int w.sum),.no] []=some ((List.replicate n (0:Int)).map fun s=>pt (rt s w.sum)):=by
  have:=Ŋ (g:=gN 1) (mt:=Ņ) (me:=Ę (Ė gJ (Đ (mC (.int 0)) (Ĉ 0 ē)))) (fun(i:Nat)=>PV.int (i:Int)) (fun _=>pt (rt 0 w.sum)) (fun ρ=>∃s,ρ=[.sh (.int w.sum),s]) (List.range n) [.sh (.int w.sum),.no] [] ⟨_,rfl⟩ (by simp;omega) (by
   rintro x hx ρ ⟨s,rfl⟩
   exact⟨[.sh (.int w.sum),.sh (.int x)],[.sh (.int w.sum),.sh (.int x)],[.sh (.int w.sum),.sh (.int x)],by simp,by simp,by simp[Z0S h0 hb],_,rfl⟩)
  rw[this]
  simp[List.map_const']
 have hz:iB (w.map .int) (q.map fun(i:Nat)=>PV.int (i:Int))=(w.zip q).map fun a=>.tup [.int a.1,.int (a.2:Int)]:=by
  clear hw h0 hl hq hs0 hs1 hsum c1 hb b1 b2
  induction w generalizing q with
  |nil=>simp[iB]
  |cons x w ih=>
   cases q with
   |nil=>simp[iB]
   |cons i q=>simp[iB,ih]
 have loop:∀s0' s1',∃ρ',forL (gT 2 (ě (gN 5) (ě (gN 6) ŝ))) u_ ((w.zip q).map fun a=>.tup [.int a.1,.int (a.2:Int)]) [s0',s1',.sh (.int n),.sh (.int w.sum),.ow ((List.replicate n (0:Int)).map fun s=>pt (rt s w.sum)),.no,.no]=.ok .nx ρ'∧ρ'[4]?=some (.ow ((Fr.lay (List.replicate n 0) (w.zip q)).map fun s=>pt (rt s w.sum))):=by
  intro s0' s1'
  obtain⟨ρ',e,s5,s6,hρ,_⟩:=cF (g:=gT 2 (ě (gN 5) (ě (gN 6) ŝ))) (mb:=u_) (fun a:Int×Nat=>.tup [.int a.1,.int (a.2:Int)]) (fun acc a=>acc.set a.2 a.1)
   (fun acc ρ=>∃s5 s6,ρ=[s0',s1',.sh (.int n),.sh (.int w.sum),.ow (acc.map fun s=>pt (rt s w.sum)),s5,s6]∧acc.length=n) (w.zip q) (by
     rintro ⟨x,i⟩ hx acc ρ ⟨s5,s6,rfl,hlen⟩
     have hi:i<n:=hq i (List.of_mem_zip hx).2
     have hix:Fw acc.length (i:Int)=some i:=by
      unfold Fw
      rw[if_pos (by omega),if_pos (by omega)]
      simp
     refine⟨[s0',s1',.sh (.int n),.sh (.int w.sum),.ow (acc.map fun s=>pt (rt s w.sum)),.sh (.int x),.sh (.int i)],[s0',s1',.sh (.int n),.sh (.int w.sum),.ow ((acc.set i x).map fun s=>pt (rt s w.sum)),.sh (.int x),.sh (.int i)],by simp,?_,_,_,rfl,by simpa using hlen⟩
     simp[u_,Z0S h0 hb,hix,List.map_set]) (List.replicate n 0) [s0',s1',.sh (.int n),.sh (.int w.sum),.ow ((List.replicate n (0:Int)).map fun s=>pt (rt s w.sum)),.no,.no] ⟨_,_,rfl,by simp⟩
  refine⟨ρ',e,?_⟩
  subst hρ
  rfl
 have hr:=ZG (show n≤1000 by omega)
 generalize (List.replicate n (0:Int)).map (fun s=>pt (rt s w.sum))=zs at c1 loop
 generalize (Fr.lay (List.replicate n 0) (w.zip q)).map (fun s=>pt (rt s w.sum))=rs at loop
 generalize ((w.zip q).map fun a=>PV.tup [.int a.1,.int (a.2:Int)])=ls at hz loop
 generalize w.map PV.int=ws at hs0 hsum hz
 generalize w.sum=S at hsum c1 loop
 generalize (q.map fun(i:Nat)=>PV.int (i:Int))=qs at hz hs1
 rcases hs0 with rfl|rfl<;>rcases hs1 with rfl|rfl
 ·obtain⟨ρ',e,e4⟩:=loop (.sh (.lst ws)) (.sh (.lst qs))
  simp[dX,kO,List.replicate,-g_,hsum,hr,c1,hz,wK,e,e4]
 ·obtain⟨ρ',e,e4⟩:=loop (.sh (.lst ws)) (.sh (.tup qs))
  simp[dX,kO,List.replicate,-g_,hsum,hr,c1,hz,wK,e,e4]
 ·obtain⟨ρ',e,e4⟩:=loop (.bw ws) (.sh (.lst qs))
  simp[dX,kO,List.replicate,-g_,hsum,hr,c1,hz,wK,e,e4]
 ·obtain⟨ρ',e,e4⟩:=loop (.bw ws) (.sh (.tup qs))
  simp[dX,kO,List.replicate,-g_,hsum,hr,c1,hz,wK,e,e4]
def wts(S:List Hu.Pt)(r:List Int×List Nat):List PV:=(Fr.lay (List.replicate S.length 0) (r.1.zip r.2)).map fun s=>pt (rt s r.1.sum)
theorem gb{S:List Hu.Pt}{i:Nat}(h:i<S.length):(S.map pt)[i]?=some (pt (Hu.at_ S i)):=by
 unfold Hu.at_
 rw[List.getElem?_map,List.getD_eq_getElem?_getD,List.getElem?_eq_getElem h]
 rfl
theorem Z3u{S:List Hu.Pt}{sl:P.Slot}(hs:Sl sl (S.map pt)){i j k:Nat}(hi:i<S.length)(hj:j<S.length)(hk:k<S.length)(s3:P.Slot):ń (gN 1) Ņ (Ć Ē (Ā 0) (Ā 1)) [.int (i:Int),.int (j:Int),.int (k:Int)] [sl,s3] []=some [pt (Hu.at_ S i),pt (Hu.at_ S j),pt (Hu.at_ S k)]:=by
 rcases hs with rfl|rfl<;>simp[ń,gb hi,gb hj,gb hk,-List.getElem?_map]
theorem Z3v{S:List Hu.Pt}{sl:P.Slot}(hs:Sl sl (S.map pt)){i j:Nat}(hi:i<S.length)(hj:j<S.length)(s3:P.Slot):ń (gN 1) Ņ (Ć Ē (Ā 0) (Ā 1)) [.int (i:Int),.int (j:Int)] [sl,s3] []=some [pt (Hu.at_ S i),pt (Hu.at_ S j)]:=by
 rcases hs with rfl|rfl<;>simp[ń,gb hi,gb hj,-List.getElem?_map]
theorem Sl.cap{s:P.Slot}{ps:List PV}(h:Sl s ps):vU s=s:=by rcases h with rfl|rfl<;>rfl
theorem Z1O{a b c p:Hu.Pt}(ha:Sm a)(hb:Sm b)(hc:Sm c)(hp:Sm p):ShB (Hu.mF a b c p):=⟨by simp[Hu.mF],Z3s ha hb hc hp⟩
theorem Z1P{a b p:Hu.Pt}(ha:Sm a)(hb:Sm b)(hp:Sm p):ShB (Hu.ig a b p):=⟨by simp[Hu.ig],Z3t ha hb hp⟩
theorem Z1q{S:List Hu.Pt}{sl:P.Slot}(hs:Sl sl (S.map pt))(hS:∀p∈S,Sm p)(h0:S≠[])(hl:S.length≤100){p:Hu.Pt}(hp:Sm p):lV [sl,.sh (pt p)]=.ret (.ow (wts S (Hu.Zk S p))):=by
 have hat:∀i,i<S.length→Sm (Hu.at_ S i):=fun i h=>hS _ (Hu.ZS h)
 have ht:=Z1p S.length hl
 have hpr:=Z0R S.length hl
 have hlen:bO [.lst (S.map pt)]=some (.int S.length):=by simp
 have F3:=dR (g:=gN 3) (mb:=vg) yO (fun q=>if Hu.Zm (Hu.mF (Hu.at_ S q.1) (Hu.at_ S q.2.1) (Hu.at_ S q.2.2) p)=true then some (Hu.mF (Hu.at_ S q.1) (Hu.at_ S q.2.1) (Hu.at_ S q.2.2) p,[q.1,q.2.1,q.2.2]) else none) (fun r=>.ow (wts S r)) (fun ρ=>∃s3 s4,ρ=[sl,.sh (pt p),.sh (.int S.length),s3,s4]) (Hu.Zb S.length) (by
  rintro ⟨i,j,k⟩ hm ρ ⟨s3,s4,rfl⟩
  obtain⟨h1,h2,h3⟩:=Hu.Zd.mp hm
  have hi:i<S.length:=by omega
  have hj:j<S.length:=by omega
  have hb:=Z1O (hat i hi) (hat j hj) (hat k h3) hp
  have e1:=Z28 (hat i hi) (hat j hj) (hat k h3) hp
  have e2:=Z2n hb (sl:=.bw ((Hu.mF (Hu.at_ S i) (Hu.at_ S j) (Hu.at_ S k) p).map .int)) (.inr rfl)
  have e0:=Z3u hs hi hj h3 .no
  refine⟨[sl,.sh (pt p),.sh (.int S.length),.sh (yO (i,j,k)),s4],rfl,?_⟩
  cases q:Hu.Zm (Hu.mF (Hu.at_ S i) (Hu.at_ S j) (Hu.at_ S k) p) with
  |true=>
   left
   have hg:=Hu.Zs.mp q
   have e3:=ZZ (q:=[i,j,k]) (n:=S.length) hb hg.1 rfl (by simp;omega) hl (s0:=.bw ((Hu.mF (Hu.at_ S i) (Hu.at_ S j) (Hu.at_ S k) p).map .int)) (s1:=.sh (.tup [.int i,.int j,.int k])) (.inr rfl) (.inr rfl)
   rw[q] at e2
   refine⟨_,[sl,.sh (pt p),.sh (.int S.length),.sh (yO (i,j,k)),.ow ((Hu.mF (Hu.at_ S i) (Hu.at_ S j) (Hu.at_ S k) p).map .int)],rfl,?_⟩
   generalize Hu.mF (Hu.at_ S i) (Hu.at_ S j) (Hu.at_ S k) p=w at *
   generalize hws:w.map PV.int=ws at *
   simp[vg,yO,hs.cap,e0,e1,e2,e3,wts]
  |false=>
   right
   rw[q] at e2
   refine⟨[sl,.sh (pt p),.sh (.int S.length),.sh (yO (i,j,k)),.ow ((Hu.mF (Hu.at_ S i) (Hu.at_ S j) (Hu.at_ S k) p).map .int)],rfl,?_,_,_,rfl⟩
   generalize Hu.mF (Hu.at_ S i) (Hu.at_ S j) (Hu.at_ S k) p=w at *
   generalize hws:w.map PV.int=ws at *
   simp[vg,yO,hs.cap,e0,e1,e2])
 have F2:=dR (g:=gN 3) (mb:=vf) qd (fun q=>if Hu.Zm (Hu.ig (Hu.at_ S q.1) (Hu.at_ S q.2) p)=true then some (Hu.ig (Hu.at_ S q.1) (Hu.at_ S q.2) p,[q.1,q.2]) else none) (fun r=>.ow (wts S r)) (fun ρ=>∃s3 s4,ρ=[sl,.sh (pt p),.sh (.int S.length),s3,s4]) (Hu.Z8 S.length) (by
  rintro ⟨i,j⟩ hm ρ ⟨s3,s4,rfl⟩
  obtain⟨h1,h2⟩:=Hu.Zt.mp hm
  have hi:i<S.length:=by omega
  have hb:=Z1P (hat i hi) (hat j h2) hp
  have e1:=Z34 (hat i hi) (hat j h2) hp
  have e2:=Z2n hb (sl:=.bw ((Hu.ig (Hu.at_ S i) (Hu.at_ S j) p).map .int)) (.inr rfl)
  have e0:=Z3v hs hi h2 .no
  refine⟨[sl,.sh (pt p),.sh (.int S.length),.sh (qd (i,j)),s4],rfl,?_⟩
  cases q:Hu.Zm (Hu.ig (Hu.at_ S i) (Hu.at_ S j) p) with
  |true=>
   left
   have hg:=Hu.Zs.mp q
   have e3:=ZZ (q:=[i,j]) (n:=S.length) hb hg.1 rfl (by simp;omega) hl (s0:=.bw ((Hu.ig (Hu.at_ S i) (Hu.at_ S j) p).map .int)) (s1:=.sh (.tup [.int i,.int j])) (.inr rfl) (.inr rfl)
   rw[q] at e2
   refine⟨_,[sl,.sh (pt p),.sh (.int S.length),.sh (qd (i,j)),.ow ((Hu.ig (Hu.at_ S i) (Hu.at_ S j) p).map .int)],rfl,?_⟩
   generalize Hu.ig (Hu.at_ S i) (Hu.at_ S j) p=w at *
   generalize hws:w.map PV.int=ws at *
   simp[vf,qd,hs.cap,e0,e1,e2,e3,wts]
  |false=>
   right
   rw[q] at e2
   refine⟨[sl,.sh (pt p),.sh (.int S.length),.sh (qd (i,j)),.ow ((Hu.ig (Hu.at_ S i) (Hu.at_ S j) p).map .int)],rfl,?_,_,_,rfl⟩
   generalize Hu.ig (Hu.at_ S i) (Hu.at_ S j) p=w at *
   generalize hws:w.map PV.int=ws at *
   simp[vf,qd,hs.cap,e0,e1,e2])
 have e3:(Hu.Zb S.length).findSome? (fun q=>if Hu.Zm (Hu.mF (Hu.at_ S q.1) (Hu.at_ S q.2.1) (Hu.at_ S q.2.2) p)=true then some (Hu.mF (Hu.at_ S q.1) (Hu.at_ S q.2.1) (Hu.at_ S q.2.2) p,[q.1,q.2.1,q.2.2]) else none)=Hu.Z0A S p:=rfl
 have e2:(Hu.Z8 S.length).findSome? (fun q=>if Hu.Zm (Hu.ig (Hu.at_ S q.1) (Hu.at_ S q.2) p)=true then some (Hu.ig (Hu.at_ S q.1) (Hu.at_ S q.2) p,[q.1,q.2]) else none)=Hu.Z1g S p:=rfl
 rw[e3] at F3
 rw[e2] at F2
 have e1:=ZZ (w:=[1]) (q:=[0]) (n:=S.length) ⟨by simp,by simp⟩ (by simp) rfl (by simpa using List.length_pos_iff.mpr h0) hl (s0:=.sh (.lst [.int 1])) (s1:=.sh (.lst [.int 0])) (.inl rfl) (.inl rfl)
 have hw1:(Fr.lay (List.replicate S.length 0) ([1].zip [0])).map (fun s=>pt (rt s [1].sum))=wts S ([1],[0]):=rfl
 rw[hw1] at e1
 generalize hn:(S.length:Int)=N at *
 generalize (Hu.Zb S.length).map yO=ts at *
 generalize (Hu.Z8 S.length).map qd=prs at *
 unfold Hu.Zk
 rcases F3 [sl,.sh (pt p),.sh (.int N),.no,.no] ⟨_,_,rfl⟩ with⟨r,ρ',q1,q2⟩|⟨ρ',q1,q2,s3,s4,hρ⟩
 ·rw[q1]
  rcases hs with rfl|rfl<;>simp[lV,pB,List.replicate,-uf,hlen,ht,q2]
 ·subst hρ
  rw[q1]
  rcases F2 [sl,.sh (pt p),.sh (.int N),s3,s4] ⟨_,_,rfl⟩ with⟨r,ρ',q3,q4⟩|⟨ρ',q3,q4,s3',FJ,hρ⟩
  ·rw[q3]
   rcases hs with rfl|rfl<;>simp[lV,pB,List.replicate,-uf,hlen,ht,hpr,q2,q4]
  ·subst hρ
   rw[q3]
   rcases hs with rfl|rfl<;>simp[lV,pB,List.replicate,-uf,hlen,ht,hpr,q2,q4,e1]
def Zn(S:List Hu.Pt)(p:Hu.Pt):PV:=match Hu.Zh S p with
 |some l=>.tup [.str "out",cT l]
 |none=>.tup [.str "in",.lst (wts S (Hu.Zk S p))]
theorem Z2C{S:List Hu.Pt}{sl:P.Slot}(hs:Sl sl (S.map pt))(hS:∀p∈S,Sm p)(h0:S≠[])(hl:S.length≤100){p:Hu.Pt}(hp:Sm p):pC [sl,.sh (pt p)]=.ret (.sh (Zn S p)):=by
 have h1:=Z1o hs hS h0 (by omega) p
 have h2:=Z1q hs hS h0 hl hp
 unfold Zn
 cases e:Hu.Zh S p with
 |some l=>
  rw[e] at h1
  simp[pC,vh,List.replicate,hs.lend,h1,Z0P,cT,Ep]
 |none=>
  rw[e] at h1
  simp[pC,vh,List.replicate,hs.lend,h1,Z0P,h2,Ep]
theorem Z29{r:P3}(hr:RB r)(s:Hu.Pt):sJ [.sh (pt s),.sh (c3 r)]=.ret (.sh (pt (cst r (fQ s)))):=by
 have e:=Z17 hr (fQ s)
 have e':PV.tup [.int (2*s.1),.int (2*s.2),.int 0]=c3 (fQ s):=rfl
 generalize hR:c3 r=R at *
 unfold pt
 simp[sJ,Aw,List.replicate,e',e]
 rfl
theorem Z0f{w:Str}{xs:List Int}(hg:Z0 w xs=true){r:P3}(hr:RB r){s:Hu.Pt}(hs:PB (fQ s)):dY [.sh (Z5 (Zg w) w xs),.sh (pt s),.sh (c3 r)]=.ret (.sh (Zn ((Z7 w xs).map (cst r)) (cst r (fQ s)))):=by
 obtain⟨g1,g2,g3⟩:=ZN hg
 have h1:=Z0K hg (by omega) hr
 have h2:=Z29 hr s
 have h3:=Z2C (S:=(Z7 w xs).map (cst r)) (sl:=.sh (.lst (((Z7 w xs).map (cst r)).map pt))) (.inl rfl) (by
  intro p hp
  obtain⟨q,hq,rfl⟩:=List.mem_map.mp hp
  exact ZW hr (g3 q hq)) (by simpa using g2) (by simp;omega) (p:=cst r (fQ s)) (ZW hr hs)
 generalize Zn ((Z7 w xs).map (cst r)) (cst r (fQ s))=V at *
 generalize ((Z7 w xs).map (cst r)).map pt=Y at *
 generalize pt (cst r (fQ s))=Z at *
 generalize Z5 (Zg w) w xs=v at *
 generalize c3 r=R at *
 generalize pt s=Q at *
 simp[dY,Ax,List.replicate,h1,h2,h3]
theorem Z3F:∀(xs:List Int),xs.length=4→∃a b c d,xs=[a,b,c,d]
 | [a,b,c,d],_=>⟨a,b,c,d,rfl⟩
theorem Z35(c0:Int):∃r:P3,lH [.sh (.int c0)]=.ret (.sh (c3 r))∧RB r∧0<r.2.2:=by
 obtain⟨xs,eg,hl,hx⟩:=Z0r c0 (n:=4) (by omega)
 obtain⟨a,b,c,d,rfl⟩:=Z3F xs hl
 have eg':gF [.sh (.int c0),.sh (.int 4)]=.ret (.ow [.int a,.int b,.int c,.int d]):=eg
 have a1:0≤a % 13∧a % 13<13:=by omega
 have b1:0≤b % 13∧b % 13<13:=by omega
 have c1:0≤c % 5∧c % 5<5:=by omega
 have go:∀s:Int,(s=1∨s=3∨s=100000)→Ē (.lst [.int 1,.int 1,.int 3,.int 100000]) (.int (d % 4))=some (.int s)→∃r:P3,lH [.sh (.int c0)]=.ret (.sh (c3 r))∧RB r∧0<r.2.2:=by
  intro s hs hx
  have m1:∀x:Int,ň x s=true:=fun x=>mul_r (by omega) (by omega)
  refine⟨((a % 13-6)*s,(b % 13-6)*s,(1+c % 5)*s),?_,?_⟩
  ·simp[lH,zW,List.replicate,eg',hx,m1,c3]
  ·rcases hs with rfl|rfl|rfl<;>refine⟨⟨?_,?_,?_,?_,?_,?_⟩,?_⟩<;>dsimp only<;>omega
 have hd:d % 4=0∨d % 4=1∨d % 4=2∨d % 4=3:=by omega
 rcases hd with hd|hd|hd|hd
 ·exact go 1 (by omega) (by rw[hd];rfl)
 ·exact go 1 (by omega) (by rw[hd];rfl)
 ·exact go 3 (by omega) (by rw[hd];rfl)
 ·exact go 100000 (by omega) (by rw[hd];rfl)
def pX:Th:=(Str.ofString "post",[])
def dG(w:Nat)(T:List Th)(r:P3)(k:Nat):List Nat:=(List.range T.length).filter fun i=>dZ (T.getD i pX) (Ů w k) r
theorem Z1c{T:List Th}{i:Nat}(h:i<T.length):T.getD i pX∈T∧(T.map bL)[i]?=some (bL (T.getD i pX)):=by
 rw[List.getD_eq_getElem?_getD,List.getElem?_eq_getElem h]
 exact⟨List.getElem_mem h,by simp[h]⟩
theorem Z0T{w k:Nat}(hk:k<1000):PB (fQ (Ů w k)):=by
 have h1:k % w≤k:=Nat.mod_le k w
 have h2:k / w≤k:=Nat.div_le_self k w
 unfold PB fQ Ů
 dsimp only
 generalize k % w=a at *
 generalize k / w=b at *
 omega
def oV:Option Nat→PV
 |none=>.non
 |some j=>.int (j:Int)
theorem Z0s(f:Nat→PV):∀(n a:Nat),iQ a ((List.range' a n).map f)=(List.range' a n).map fun(k:Nat)=>PV.tup [.int k,f k]
 |0,a=>rfl
 |n+1,a=>by
  rw[List.range'_succ,List.map_cons,List.map_cons]
  show _::iQ (a+1) _=_
  rw[Z0s f n (a+1)]
theorem Z2a(w h:Nat)(r:P3)(T:List Th):(T.map fun t=>PV.int (mL w h r t))=(List.range T.length).map fun i=>PV.int (mL w h r (T.getD i pX)):=by
 refine List.ext_getElem (by simp) fun i h1 h2=>?_
 simp at h1
 simp[h1]
theorem Z2D(w h:Nat)(r:P3)(T:List Th):iQ 0 (T.map fun t=>PV.int (mL w h r t))=(List.range T.length).map fun(i:Nat)=>PV.tup [.int i,.int (mL w h r (T.getD i pX))]:=by
 rw[Z2a,List.range_eq_range']
 exact Z0s _ _ 0
theorem Z36{w h:Nat}{r:P3}{t:Th}{k:Nat}(hk:k<w*h):(mL w h r t).testBit k=dZ t (Ů w k) r:=by rw[mL,Zu];simp[hk]
theorem Z0g{α β:Type}(p:α→Bool)(f:α→β):∀l:List α,l.findSome? (fun x=>if p x=true then some (f x) else none)=(l.find? p).map f
 | []=>rfl
 |x::l=>by
  rw[List.findSome?_cons,List.find?_cons]
  cases h:p x with
  |true=>simp
  |false=>simpa using Z0g p f l
theorem Z2b{w h:Nat}(T:List Th)(r:P3){k:Nat}(hk:k<w*h){sl:P.Slot}(hs:Sl sl (T.map fun t=>PV.int (mL w h r t))):lQ [sl,.sh (.int k)]=.ret (.sh (oV (dG w T r k).head?)):=by
 have hf:(List.range T.length).findSome? (fun i=>if dZ (T.getD i pX) (Ů w k) r=true then some i else none)=(dG w T r k).head?:= by
  have:=Z0g (fun i=>dZ (T.getD i pX) (Ů w k) r) (fun(i:Nat)=>i) (List.range T.length)
  rw[this,dG,List.head?_filter]
  simp
 have main:=dR (g:=gT 2 (ě (gN 2) (ě (gN 3) ŝ))) (mb:=uK) (fun(i:Nat)=>PV.tup [.int i,.int (mL w h r (T.getD i pX))]) (fun i=>if dZ (T.getD i pX) (Ů w k) r=true then some i else none) (fun i=>.sh (.int (i:Int))) (fun ρ=>∃a b,ρ=[sl,.sh (.int k),a,b]) (List.range T.length) (by
  rintro i hi ρ ⟨a,b,rfl⟩
  have hb:=Z36 (r:=r) (t:=T.getD i pX) hk
  generalize T.getD i pX=t at *
  have sb:zH (.int ((mL w h r t:Int) / 2 ^ k)) (.int 1)=some (.int (if dZ t (Ů w k) r then 1 else 0)):=by
   show some (PV.int (Builtin.bitAnd ((mL w h r t:Int) / 2 ^ k) 1))=_
   rw[Z3o,Z18,hb]
  have so:nG (mL w h r t:Int) (k:Int)=true:=by unfold nG;simp
  generalize mL w h r t=A at *
  refine⟨[sl,.sh (.int k),.sh (.int i),.sh (.int A)],by simp,?_⟩
  cases hd:dZ t (Ů w k) r with
  |true=>
   rw[hd] at sb
   simp at sb
   exact .inl ⟨i,[sl,.sh (.int k),.sh (.int i),.sh (.int A)],by simp,by simp[uK,so,sb,Rh]⟩
  |false=>
   rw[hd] at sb
   simp at sb
   exact .inr ⟨[sl,.sh (.int k),.sh (.int i),.sh (.int A)],by simp,by simp[uK,so,sb,Rh],_,_,rfl⟩) [sl,.sh (.int k),.no,.no] ⟨_,_,rfl⟩
 rw[hf,←Z2D] at main
 generalize (dG w T r k).head?=q at *
 generalize (T.map fun t=>PV.int (mL w h r t))=DV at *
 rcases main with⟨i,ρ2,q1,q2⟩|⟨ρ2,q1,q2,_⟩
 ·rw[q1]
  rcases hs with rfl|rfl<;>simp[lQ,uL,List.replicate,q2,oV]
 ·rw[q1]
  rcases hs with rfl|rfl<;>simp[lQ,uL,List.replicate,q2,oV]
theorem Z37{w h:Nat}(hw:0<w)(hw2:w≤60)(hh:h≤1000)(Te:w*h≤1000){T:List Th}(hT:T.length≤1000)(hg:∀t∈T,Z0 t.1 t.2=true)(Ds:List Dy){r:P3}(hr:RB r)(hz:0<r.2.2):oO [.sh (Z6 w h T Ds),.sh (c3 r)]=.ret (.ow ((List.range (w*h)).map fun k=>oV (dG w T r k).head?)):=by
 have e1:=Z0M hw hw2 hh hT Ds hg hr hz
 have yw:=y_w w h T Ds
 have yh:=y_h w h T Ds
 have mo:ň (w:Int) (h:Int)=true:=ű (by omega) (by omega)
 have rr:=ZG (n:=w*h) Te
 rw[Int.natCast_mul] at rr
 have hc:=Ŋ (g:=gN 1) (mt:=Ņ) (me:=Ę (Ė lQ (Ĉ 0 (Ĉ 1 ē)))) (fun(k:Nat)=>PV.int (k:Int)) (fun k=>oV (dG w T r k).head?) (fun ρ=>∃a,ρ=[.bw (T.map fun t=>PV.int (mL w h r t)),a]) (List.range (w*h)) [.bw (T.map fun t=>PV.int (mL w h r t)),.no] [] ⟨_,rfl⟩ (by simp;omega) (by
  rintro k hk ρ ⟨a,rfl⟩
  have hk:=List.mem_range.mp hk
  have e:=Z2b T r hk (sl:=.bw (T.map fun t=>PV.int (mL w h r t))) (.inr rfl)
  generalize (T.map fun t=>PV.int (mL w h r t))=DV at *
  generalize oV (dG w T r k).head?=O at *
  exact⟨[.bw DV,.sh (.int k)],_,[.bw DV,.sh (.int k)],rfl,rfl,by simp[e],_,rfl⟩)
 rw[List.nil_append] at hc
 generalize Z6 w h T Ds=Yv at *
 generalize c3 r=R at *
 generalize (T.map fun t=>PV.int (mL w h r t))=DV at *
 generalize ((List.range (w*h)).map fun k=>oV (dG w T r k).head?)=OV at *
 simp[oO,Ak,List.replicate,e1,yw,yh,mo,rr,hc]
def Z1(t:Th):PV:=.tup [.str t.1,.lst (t.2.map .int)]
theorem Z38(w h:Nat):iM [.tup [.int w,.int h]]=some (.int ((max w h:Nat):Int)):=by
 show some (PV.int (max (w:Int) h))=_
 congr 2
 omega
theorem Z0U{w h:Nat}(hw:1≤w∧w≤20)(hh:1≤h∧h≤20):∀(cs:List Int) (acc:List PV) (s1:P.Slot),acc.length+cs.length≤1000→∃T:List Th,ń (gN 1) Ņ (Ę (Ė dW (Ĉ 1 (Đ (bC iM (Ą (Ā 0) ė)) ē)))) (cs.map .int) [.sh (.tup [.int w,.int h]),s1] acc=some (acc++T.map Z1)∧T.length=cs.length∧∀t∈T,Z0 t.1 t.2=true
 | [],acc,s1,_=>⟨[],by simp[ń],rfl,by simp⟩
 |c::cs,acc,s1,ha=>by
  obtain⟨t,e1,e2⟩:=Z1L c (w:=((max w h:Nat):Int)) (by omega) (by omega)
  obtain⟨T,q1,q2,q3⟩:=Z0U hw hh cs (acc ++ [Z1 t]) (.sh (.int c)) (by simp at ha ⊢;omega)
  refine⟨t::T,?_,by simp[q2],?_⟩
  ·have hz:acc.length<16777216:=by simp at ha;omega
   have mx:=Z38 w h
   change dW _=.ret (.sh (Z1 t)) at e1
   generalize hR:Z1 t=R at *
   generalize ((max w h:Nat):Int)=m at *
   rw[List.map_cons,ń]
   simp[mx,e1,hz,hR]
   simpa using q1
  ·intro x hx
   rcases List.mem_cons.mp hx with rfl|hx
   ·exact e2
   ·exact q3 x hx
theorem Z0V{w:Str}{xs:List Int}(h:Z0 w xs=true):PyData.strOk w=true:=by
 unfold Z0 at h
 by_cases e1:w= "post"
 ·rw[e1];exact s1
 rw[if_neg e1] at h
 by_cases e2:w= "fence"
 ·rw[e2];exact s2
 rw[if_neg e2] at h
 by_cases e3:w= "sail"
 ·rw[e3];exact s3
 rw[if_neg e3] at h
 by_cases e4:w= "cloth"
 ·rw[e4];exact s4
 rw[if_neg e4] at h
 by_cases e5:w= "house"
 ·rw[e5];exact s5
 rw[if_neg e5] at h
 cases h
theorem Z1Q{T:List Th}(hl:T.length≤1000)(hg:∀t∈T,Z0 t.1 t.2=true)(s0 s1:P.Slot):ń (gT 2 (ě (gN 0) (ě (gN 1) ŝ))) Ņ (Ę (Ė cQ (Ĉ 0 (Đ (Ę (nA dO (Ą (Ā 1) ė))) ē)))) (T.map Z1) [s0,s1] []=some (T.map bL):=by
 have hc:=Ŋ (g:=gT 2 (ě (gN 0) (ě (gN 1) ŝ))) (mt:=Ņ) (me:=Ę (Ė cQ (Ĉ 0 (Đ (Ę (nA dO (Ą (Ā 1) ė))) ē)))) Z1 bL (fun ρ=>∃a b,ρ=[a,b]) T [s0,s1] [] ⟨_,_,rfl⟩ (by simp;omega) (by
  rintro t ht ρ ⟨a,b,rfl⟩
  have e:=Z24 (Z0V (hg t ht)) (xs:=t.2) (sl:=.sh (.lst (t.2.map .int))) (.inl rfl)
  rw[if_pos (hg t ht)] at e
  change cQ _=.ret (.sh (bL t)) at e
  refine⟨[.sh (.str t.1),.sh (.lst (t.2.map .int))],_,[.sh (.str t.1),.sh (.lst (t.2.map .int))],by simp[Z1],rfl,?_,_,_,rfl⟩
  generalize t.2.map PV.int=X at *
  generalize bL t=V at *
  simp[e])
 simpa using hc
theorem Z0z{ps:List PV}:fK Zz ZA ZB ZC [.tup ps,.ty "tuple"]=some (.bl true):=rfl
theorem Z3w{ps:List PV}:fK Zz ZA ZB ZC [.lst ps,.ty "list"]=some (.bl true):=rfl
theorem Z3x{x:Int}:fK Zz ZA ZB ZC [.int x,.ty "int"]=some (.bl true):=rfl
theorem Z39{x:Int}:fK Zz ZA ZB ZC [.int x,.ty "bool"]=some (.bl false):=rfl
theorem ZQ(x:Int):gK [.sh (.int x)]=.ret (.sh (.bl true)):=by simp[gK,Bb,List.replicate,Z3x,Z39]
theorem Z0t{t b:Int}(ht:0≤t)(hb:0≤b):lW [.sh (.int t),.sh (.int b)]=.ret (.sh (.int (My.gd t b))):=by
 obtain⟨⟨u,v⟩,e1,⟨e2,e3,e4⟩,e5⟩:=nT (mc:=(aJ (Ć aN (Ā 1) (mC (.int 0))))) (mb:=(Em 0 1 (Ą (ę 1) (Ą (Ć œ (Ā 0) (Ā 1)) ė))))
  (fun c:Int×Int=>[.sh (.int c.1),.sh (.int c.2)]) (fun c=>My.gd c.1 c.2=My.gd t b∧0≤c.1∧0≤c.2) (fun c=>c.2.natAbs) (b:=(t,b)) (by
    rintro ⟨u,v⟩ ⟨e,h1,h2⟩
    have h1':0≤u:=h1
    have h2':0≤v:=h2
    by_cases hv:v=0
    ·left;simp[hv]
    ·right;exact⟨by simp[hv],(v,u.fmod v),by simp[hv],⟨(My.Z10 u v).trans e,h2',Int.fmod_nonneg_of_pos u (by omega)⟩,My.Z11 u hv⟩) ⟨rfl,ht,hb⟩
 have hv:v=0:=by simpa using e5
 have e3':0≤u:=e3
 subst hv
 have e2':My.gd u 0=My.gd t b:=e2
 rw[My.Z12,if_neg (by omega)] at e2'
 have e1':Jp [.sh (.int t),.sh (.int b)]=_:=e1
 simp[lW,A_,List.replicate,e1',e2']
theorem Z08{s W:Int}(hW:W≠0):1≤(rt s W).2∧My.gd (rt s W).1 (rt s W).2=1∧(rt s W).1*W=s*(rt s W).2:=My.Z1W s hW
theorem Z2E{s W:Int}(hs:bits s≤200)(hW:bits W≤200):bits (rt s W).1≤200∧bits (rt s W).2≤200:=⟨intBits_fdiv_le hs,intBits_fdiv_le hW⟩
structure Fr1(W A:Int)(n:Nat)(c:Int×Int):Prop where
 pos:1≤c.2
 val:c.1*W=c.2*A
 b1:bits c.1≤n
 b2:bits c.2≤n
 red:My.gd (Int.natAbs c.1:Int) c.2=1
theorem Z2F(a b:Int):My.gd a b ∣ a:=Int.gcd_dvd_left ..
theorem Z2G(a b:Int):My.gd a b ∣ b:=Int.gcd_dvd_right ..
theorem Z2H{a b:Int}(hb:0<b):My.gd (Int.natAbs (a / My.gd (Int.natAbs a:Int) b):Int) (b / My.gd (Int.natAbs a:Int) b)=1:=by
 have h0:Int.gcd (Int.natAbs a:Int) b=Int.gcd a b:=by simp[Int.gcd]
 unfold My.gd
 rw[h0]
 have hg:0<Int.gcd a b:=Int.gcd_pos_of_ne_zero_right a (by omega)
 have e:Int.gcd ((Int.natAbs (a / (Int.gcd a b:Int)):Nat):Int) (b / (Int.gcd a b:Int))=Int.gcd (a / (Int.gcd a b:Int)) (b / (Int.gcd a b:Int)):=by simp[Int.gcd]
 rw[e,Int.gcd_ediv_gcd_ediv_gcd hg]
 rfl
theorem Z2I{W A s q:Int}{n:Nat}{c:Int×Int}(hW:W≠0)(Qi:bits W≤200)(hs:bits s≤200)(hq:bits q≤60)(hn:n≤5000)(h:Fr1 W A n c)(s0 s1 s6:P.Slot):∃c':Int×Int,∃g:P.Slot,vo [s0,s1,.sh (.int c.1),.sh (.int c.2),.sh (.int q),.sh (pt (rt s W)),s6]=.ok .nx [s0,s1,.sh (.int c'.1),.sh (.int c'.2),.sh (.int q),.sh (pt (rt s W)),g]∧Fr1 W (A+q*s) (n+500) c':=by
 obtain⟨f1,f2,f3⟩:=Z08 (s:=s) hW
 obtain⟨g1,g2⟩:=Z2E hs Qi
 obtain⟨h1,h2,h3,h4,h5⟩:=h
 have ep:pt (rt s W)=.tup [.int (rt s W).1,.int (rt s W).2]:=rfl
 rw[ep]
 generalize (rt s W).1=t at *
 generalize (rt s W).2=b at *
 obtain⟨x,y⟩:=c
 dsimp only at h1 h2 h3 h4 h5 ⊢
 have m1:ň x b=true:=wg (by omega) (by omega)
 have m2:ň q t=true:=wg (by omega) (by omega)
 have z1:bits (q*t)≤260:=Nat.le_trans (intBits_mul_le hq g1) (by decide)
 have m3:ň (q*t) y=true:=wg (by omega) (by omega)
 have m4:ň y b=true:=wg (by omega) (by omega)
 have z2:bits (x*b)≤n+200:=intBits_mul_le h3 g2
 have z3:bits (q*t*y)≤260+n:=intBits_mul_le z1 h4
 have z4:bits (x*b+q*t*y)≤n+261:=by
  refine Nat.le_trans (intBits_add_le z2 z3) (by omega)
 have z5:bits (y*b)≤n+200:=intBits_mul_le h4 g2
 have hB:0<y*b:=Int.mul_pos (by omega) (by omega)
 have hval:(x*b+q*t*y)*W=y*b*(A+q*s):=by grind
 generalize hT:x*b+q*t*y=T' at *
 generalize hB':y*b=B' at *
 have ha:(if T'<0 then -T' else T')=(T'.natAbs:Int):=by split<;>omega
 have hc:=Z0t (t:=(T'.natAbs:Int)) (b:=B') (by omega) (by omega)
 have hG:=My.Z09 (T'.natAbs:Int) (b:=B') (by omega)
 have hGb:=Z1b (T'.natAbs:Int) (b:=B') (by omega) z5
 have d2:=Z2G (T'.natAbs:Int) B'
 have d1:My.gd (T'.natAbs:Int) B' ∣ T':=Int.dvd_natAbs.mp (Z2F _ _)
 have hr:=Z2H (a:=T') hB
 generalize My.gd (T'.natAbs:Int) B'=G at *
 have f1':cM T' G=true:=nR (by omega) (by omega)
 have f2':cM B' G=true:=nR (by omega) (by omega)
 have e1:T'.fdiv G=T' / G:=Int.fdiv_eq_ediv_of_nonneg _ (by omega)
 have e2:B'.fdiv G=B' / G:=Int.fdiv_eq_ediv_of_nonneg _ (by omega)
 refine⟨(T'.fdiv G,B'.fdiv G),.sh (.int G),?_,⟨?_,?_,?_,?_,?_⟩⟩
 ·simp[vo,m1,m2,m3,m4,hT,hB',ha,hc,f1',f2']
 ·dsimp only
  rw[e2]
  rw[Int.le_ediv_iff_mul_le hG]
  have:=Int.le_of_dvd hB d2
  omega
 ·dsimp only
  rw[e1,e2]
  obtain⟨u,rfl⟩:=d1
  obtain⟨v,rfl⟩:=d2
  rw[Int.mul_ediv_cancel_left _ (by omega),Int.mul_ediv_cancel_left _ (by omega)]
  refine Int.eq_of_mul_eq_mul_left (a:=G) (by omega) ?_
  rw[←Int.mul_assoc,←Int.mul_assoc]
  exact hval
 ·exact Nat.le_trans (intBits_fdiv_le z4) (by omega)
 ·exact Nat.le_trans (intBits_fdiv_le z5) (by omega)
 ·dsimp only
  rw[e1,e2]
  exact hr
theorem Z0W{W:Int}(hW:W≠0)(Qi:bits W≤200)(s0 s1:P.Slot):∀(L Q:List Int),Q.length=L.length→(∀s∈L,bits s≤200)→(∀q∈Q,bits q≤60)→∀(n:Nat) (A:Int) (c:Int×Int) (s4 s5 s6:P.Slot),n+500*L.length≤5000→Fr1 W A n c→∃(c':Int×Int) (FJ Qc Eo:P.Slot),forL (gT 2 (ě (gN 4) (ě (gN 5) ŝ))) vo (iB (Q.map .int) (L.map fun s=>pt (rt s W))) [s0,s1,.sh (.int c.1),.sh (.int c.2),s4,s5,s6]=.ok .nx [s0,s1,.sh (.int c'.1),.sh (.int c'.2),FJ,Qc,Eo]∧Fr1 W (A+((Q.zip L).map fun z=>z.1*z.2).sum) (n+500*L.length) c'
 | [],[],_,_,_,n,A,c,s4,s5,s6,_,h=>⟨c,s4,s5,s6,rfl,by simpa using h⟩
 | [],_::_,hl,_,_,_,_,_,_,_,_,_,_=>by simp at hl
 |_::_,[],hl,_,_,_,_,_,_,_,_,_,_=>by simp at hl
 |s::L,q::Q,hl,hL,hQ,n,A,c,s4,s5,s6,hn,h=>by
  obtain⟨c1,g,e,h1⟩:=Z2I hW Qi (hL s List.mem_cons_self) (hQ q List.mem_cons_self) (by simp at hn;omega) h s0 s1 s6
  obtain⟨c',a1,a2,a3,e2,h2⟩:=Z0W hW Qi s0 s1 L Q (by simpa using hl) (fun x hx=>hL x (List.mem_cons_of_mem _ hx)) (fun x hx=>hQ x (List.mem_cons_of_mem _ hx)) (n+500) (A+q*s) c1 (.sh (.int q)) (.sh (pt (rt s W))) g (by simp at hn;omega) h1
  refine⟨c',a1,a2,a3,?_,?_⟩
  ·show forL _ _ (.tup [.int q,pt (rt s W)]::iB _ _) _=_
   have hg:gT 2 (ě (gN 4) (ě (gN 5) ŝ)) (.tup [.int q,pt (rt s W)]) [s0,s1,.sh (.int c.1),.sh (.int c.2),s4,s5,s6]=some [s0,s1,.sh (.int c.1),.sh (.int c.2),.sh (.int q),.sh (pt (rt s W)),s6]:=by simp
   rw[forL,hg]
   dsimp only
   rw[e]
   exact e2
  ·have ea:A+(((q::Q).zip (s::L)).map fun z=>z.1*z.2).sum=A+q*s+((Q.zip L).map fun z=>z.1*z.2).sum:=by simp;omega
   have eb:n+500*(s::L).length=n+500+500*L.length:=by simp;omega
   rw[ea,eb]
   exact h2
theorem Z3a{W v:Int}{n:Nat}{c:Int×Int}(hW:W≠0)(h:Fr1 W (v*W) n c):c=(v,1):=by
 obtain⟨h1,h2,_,_,h5⟩:=h
 obtain⟨x,y⟩:=c
 dsimp only at *
 have hx:x=y*v:=by
  refine Int.eq_of_mul_eq_mul_right hW ?_
  rw[h2,Int.mul_assoc]
 have hd:y ∣ My.gd (x.natAbs:Int) y:=Int.dvd_coe_gcd (Int.dvd_natAbs.mpr ⟨v,hx⟩) (Int.dvd_refl y)
 rw[h5] at hd
 have hy:y=1:=by
  have:=Int.le_of_dvd (by decide) hd
  omega
 rw[hy] at hx
 rw[hx,hy]
 simp
theorem Z00{W v:Int}(hW:W≠0)(Qi:bits W≤200){L Q:List Int}(hl:Q.length=L.length)(hn:L.length≤8)(hL:∀s∈L,bits s≤200)(hQ:∀q∈Q,bits q≤60)(hv:((Q.zip L).map fun z=>z.1*z.2).sum=v*W){s0 s1:P.Slot}(h0:Sl s0 (Q.map .int))(h1:Sl s1 (L.map fun s=>pt (rt s W))):fP [s0,s1]=.ret (.sh (pt (v,1))):=by
 obtain⟨c',a1,a2,a3,e,h⟩:=Z0W hW Qi s0 s1 L Q hl hL hQ 4 0 (0,1) .no .no .no (by omega) ⟨by decide,by simp,by decide,by decide,by decide⟩
 rw[Int.zero_add,hv] at h
 have hc:=Z3a hW h
 subst hc
 dsimp only at e
 generalize (L.map fun s=>pt (rt s W))=LV at *
 generalize Q.map PV.int=QV at *
 rcases h0 with rfl|rfl<;>rcases h1 with rfl|rfl<;>simp[fP,Ba,List.replicate,wK,wC,e,pt]
theorem ZD(x y u v z:Int):b_ [.sh (.int x),.sh (.int y),.sh (.int u),.sh (.int v),.sh (.int z)]=.ret (.ow ((Za x y u v z).map c3)):=by
 simp[b_,Ay,List.replicate,Za,c3]
theorem fS{a b:String}(h1:PyData.strOk (Str.ofString a)=true)(h2:PyData.strOk (Str.ofString b)=true)(h:decide (Str.ofString a=Str.ofString b)=false):ŏ (.str (Str.ofString a)) (.str (Str.ofString b))=some (.bl false):=by rw[cP h1 h2,h]
theorem tS'{a:String}(h1:PyData.strOk (Str.ofString a)=true):ŏ (.str (Str.ofString a)) (.str (Str.ofString a))=some (.bl true):=by rw[cP h1 h1];simp
theorem r3:ů [.int 3]=some [.int 0,.int 1,.int 2]:=by rfl
theorem Z1R(x y u v h:Int):mY [.sh (.str (Str.ofString "house")),.sh (.lst [.int x,.int y,.int u,.int v,.int h])]=.ret (.ow ((Zp x y u v h).map c3)):=by
 have a1:=fS s5 s4 (by decide +kernel)
 have a2:=fS s5 s1 (by decide +kernel)
 have a3:=fS s5 s2 (by decide +kernel)
 have a4:=tS' s5
 have e1:=ZD x y u v 0
 have e2:=ZD x y u v h
 have e3:ĸ (.lst ((Za x y u v 0).map c3)) (.lst ((Za x y u v h).map c3))=some (.ow ((Zp x y u v h).map c3)):=by
  rw[add_l (by simp[Za])]
  simp[Zp]
 generalize (Za x y u v 0).map c3=L1 at *
 generalize (Za x y u v h).map c3=L2 at *
 simp[mY,pD,List.replicate,a1,a2,a3,a4,e1,e2,e3]
theorem Z2c{x y u v h:Int}:cg [.sh (.str (Str.ofString "house")),.sh (.lst [.int x,.int y,.int u,.int v,.int h])]=.ret (.ow ((Zp x y u v h).map c3)):=by
 have a1:=fS s5 s4 (by decide +kernel)
 have a2:=fS s5 s1 (by decide +kernel)
 have a3:=fS s5 s2 (by decide +kernel)
 have a4:=tS' s5
 have e1:=ZD x y u v 0
 have e2:=ZD x y u v h
 have e3:ĸ (.lst ((Za x y u v 0).map c3)) (.lst ((Za x y u v h).map c3))=some (.ow ((Zp x y u v h).map c3)):=by
  rw[add_l (by simp[Za])]
  simp[Zp]
 generalize (Za x y u v 0).map c3=L1 at *
 generalize (Za x y u v h).map c3=L2 at *
 simp[cg,ji,List.replicate,a1,a2,a3,a4,e1,e2,e3]
theorem Z2J{x y u v h:Int}:cg [.sh (.str (Str.ofString "sail")),.sh (.lst [.int x,.int y,.int u,.int v,.int h])]=.ret (.ow ((Za x y u v h).map c3)):=by
 have a1:=fS s3 s4 (by decide +kernel)
 have a2:=fS s3 s1 (by decide +kernel)
 have a3:=fS s3 s2 (by decide +kernel)
 have a4:=fS s3 s5 (by decide +kernel)
 have e2:=ZD x y u v h
 generalize (Za x y u v h).map c3=L2 at *
 simp[cg,ji,List.replicate,a1,a2,a3,a4,e2]
theorem Z2K{p q h:Int}:cg [.sh (.str (Str.ofString "post")),.sh (.lst [.int p,.int q,.int h])]=.ret (.ow ((Zp (2*p-1) (2*q-1) (2*p+1) (2*q+1) h).map c3)):=by
 have a1:=fS s1 s4 (by decide +kernel)
 have a2:=tS' s1
 have e:=Z1R (2*p-1) (2*q-1) (2*p+1) (2*q+1) h
 simp[cg,ji,List.replicate,a1,a2,e]
theorem Z2d{x y u v h:Int}:cg [.sh (.str (Str.ofString "fence")),.sh (.lst [.int x,.int y,.int u,.int v,.int h])]=.ret (.ow (([(x,y,0),(u,v,0),(u,v,h),(x,y,h)]:List P3).map c3)):=by
 have a1:=fS s2 s4 (by decide +kernel)
 have a2:=fS s2 s1 (by decide +kernel)
 have a3:=tS' s2
 simp[cg,ji,List.replicate,a1,a2,a3,c3]
theorem Z2e{a b c d e f g h i:Int}:cg [.sh (.str (Str.ofString "cloth")),.sh (.lst [.int a,.int b,.int c,.int d,.int e,.int f,.int g,.int h,.int i])]=.ret (.ow (([(a,b,c),(d,e,f),(g,h,i)]:List P3).map c3)):=by
 have a1:=tS' s4
 have hc:ń (gN 1) Ņ (bC fj (Ą (Ę (Fy (Ā 0) (mP (Ć Ĥ (mC (.int 3)) (Ā 1))) (mP (Ę (ŀ ĸ (Ć Ĥ (mC (.int 3)) (Ā 1)) (mC (.int 3))))))) ė)) [PV.int 0,PV.int 1,PV.int 2] [.sh (.lst [.int a,.int b,.int c,.int d,.int e,.int f,.int g,.int h,.int i]),.no] []=some (([(a,b,c),(d,e,f),(g,h,i)]:List P3).map c3):=by
  simp[ń,XR,jf,HT.iy,fj,c3]
 simp[cg,ji,List.replicate,a1,r3,hc]
theorem Z2f{w:Str}{xs:List Int}(hg:Z0 w xs=true):cg [.sh (.str w),.sh (.lst (xs.map .int))]=.ret (.ow ((Z7 w xs).map c3)):=by
 have box:Z9 xs=true→∃x y u v h,xs=[x,y,u,v,h]:=by
  intro hb
  rcases xs with _|⟨x,_|⟨y,_|⟨u,_|⟨v,_|⟨h,_|_⟩⟩⟩⟩⟩<;>first|exact⟨_,_,_,_,_,rfl⟩|cases hb
 unfold Z0 at hg
 unfold Z7 Zg
 by_cases e1:w= "post"
 ·subst e1
  rw[if_pos rfl] at hg
  rcases xs with _|⟨p,_|⟨q,_|⟨h,_|_⟩⟩⟩<;>first|exact Z2K|cases hg
 rw[if_neg e1] at hg
 by_cases e2:w= "fence"
 ·subst e2
  rw[if_pos rfl] at hg
  rcases xs with _|⟨x,_|⟨y,_|⟨u,_|⟨v,_|⟨h,_|_⟩⟩⟩⟩⟩<;>first|exact Z2d|cases hg
 rw[if_neg e2] at hg
 by_cases e3:w= "sail"
 ·subst e3
  rw[if_pos rfl] at hg
  obtain⟨x,y,u,v,h,rfl⟩:=box hg
  exact Z2J
 rw[if_neg e3] at hg
 by_cases e4:w= "cloth"
 ·subst e4
  rw[if_pos rfl] at hg
  rcases xs with _|⟨a,_|⟨b,_|⟨c,_|⟨d,_|⟨e,_|⟨f,_|⟨g,_|⟨h,_|⟨i,_|_⟩⟩⟩⟩⟩⟩⟩⟩⟩<;>first|exact Z2e|cases hg
 rw[if_neg e4] at hg
 by_cases e5:w= "house"
 ·subst e5
  rw[if_pos rfl] at hg
  obtain⟨x,y,u,v,h,rfl⟩:=box hg
  exact Z2c
 rw[if_neg e5] at hg
 cases hg
theorem Z0h{r:P3}(hr:RB r)(s0:P.Slot):∀(L:List P3) (acc:List PV) (s3 s4 s5:P.Slot),acc.length+L.length≤1000→∃a b c,forL (gT 3 (ě (gN 3) (ě (gN 4) (ě (gN 5) ŝ)))) vm (L.map c3) [s0,.sh (c3 r),.ow acc,s3,s4,s5]=.ok .nx [s0,.sh (c3 r),.ow (acc++(L.map (cst r)).map pt),a,b,c]
 | [],acc,s3,s4,s5,_=>⟨s3,s4,s5,by simp[forL]⟩
 |p::L,acc,s3,s4,s5,ha=>by
  obtain⟨a,b,c,q⟩:=Z0h hr s0 L (acc ++ [pt (cst r p)]) (.sh (.int p.1)) (.sh (.int p.2.1)) (.sh (.int p.2.2)) (by simp at ha ⊢;omega)
  refine⟨a,b,c,?_⟩
  have hz:acc.length<16777216:=by simp at ha;omega
  obtain⟨r1,r2,r3,r4,r5,r6⟩:=hr
  have m1:∀x:Int,ň r.1 x=true:=fun x=>ű (by omega) (by omega)
  have m2:∀x:Int,ň r.2.1 x=true:=fun x=>ű (by omega) (by omega)
  have m3:∀x:Int,ň r.2.2 x=true:=fun x=>ű (by omega) (by omega)
  have hg:gT 3 (ě (gN 3) (ě (gN 4) (ě (gN 5) ŝ))) (c3 p) [s0,.sh (c3 r),.ow acc,s3,s4,s5]=some [s0,.sh (c3 r),.ow acc,.sh (.int p.1),.sh (.int p.2.1),.sh (.int p.2.2)]:=by simp[c3]
  have e:vm [s0,.sh (c3 r),.ow acc,.sh (.int p.1),.sh (.int p.2.1),.sh (.int p.2.2)]=.ok .nx [s0,.sh (c3 r),.ow (acc ++ [pt (cst r p)]),.sh (.int p.1),.sh (.int p.2.1),.sh (.int p.2.2)]:=by
   simp[vm,c3,m1,m2,m3,hz,pt,cst]
  rw[List.map_cons,forL,hg]
  dsimp only
  rw[e]
  have eq:acc++((p::L).map (cst r)).map pt=acc ++ [pt (cst r p)]++(L.map (cst r)).map pt:=by simp
  rw[eq]
  exact q
theorem Z1S{t:Th}(hg:Z0 t.1 t.2=true){r:P3}(hr:RB r):pF [.sh (Z1 t),.sh (c3 r)]=.ret (.ow (((Z7 t.1 t.2).map (cst r)).map pt)):=by
 have e1:=Z2f hg
 obtain⟨a,b,c,q⟩:=Z0h hr (.sh (Z1 t)) (Z7 t.1 t.2) [] .no .no .no (by have:=(ZN hg).1;simp;omega)
 rw[List.nil_append] at q
 have x0:Ē (Z1 t) (.int 0)=some (.str t.1):=by simp[Z1]
 have x1:Ē (Z1 t) (.int 1)=some (.lst (t.2.map .int)):=by simp[Z1]
 generalize Z1 t=RV' at *
 generalize t.2.map PV.int=X at *
 generalize ((Z7 t.1 t.2).map (cst r)).map pt=CV at *
 generalize (Z7 t.1 t.2).map c3=C3 at *
 generalize c3 r=R at *
 simp[pF,Az,List.replicate,x0,x1,e1,q]
theorem Z2L{S:List Hu.Pt}(hS:∀p∈S,Sm p){p:Hu.Pt}(hp:Sm p):ShB (Hu.Zk S p).1:=by
 have hat:∀i,i<S.length→Sm (Hu.at_ S i):=fun i h=>hS _ (Hu.ZS h)
 unfold Hu.Zk
 cases e3:Hu.Z0A S p with
 |some r=>
  obtain⟨⟨i,j,k⟩,hm,hr⟩:=List.exists_of_findSome?_eq_some e3
  obtain⟨h1,h2,h3⟩:=Hu.Zd.mp hm
  split at hr
  ·cases hr
   exact Z1O (hat i (by omega)) (hat j (by omega)) (hat k h3) hp
  ·cases hr
 |none=>
  cases e2:Hu.Z1g S p with
  |some r=>
   obtain⟨⟨i,j⟩,hm,hr⟩:=List.exists_of_findSome?_eq_some e2
   obtain⟨h1,h2⟩:=Hu.Zt.mp hm
   split at hr
   ·cases hr
    exact Z1P (hat i (by omega)) (hat j h2) hp
   ·cases hr
  |none=>exact⟨by simp,by simp⟩
theorem Z04{α β:Type}:∀{l:List α} {m:List β},l.length=m.length→(l.zip m).map (·.2)=m
 | [],[],_=>rfl
 |_::l,_::m,h=>by simp[Z04 (l:=l) (m:=m) (by simpa using h)]
 | [],_::_,h=>by simp at h
 |_::_,[],h=>by simp at h
theorem ZH{α β:Type}:∀{l:List α} {m:List β},l.length=m.length→(l.zip m).map (·.1)=l
 | [],[],_=>rfl
 |_::l,_::m,h=>by simp[ZH (l:=l) (m:=m) (by simpa using h)]
 | [],_::_,h=>by simp at h
 |_::_,[],h=>by simp at h
theorem Z2g:PyData.strOk (Str.ofString "in")=true:=by decide +kernel
theorem Z2p:PyData.strOk (Str.ofString "out")=true:=by decide +kernel
theorem Z3y:aN (.str (Str.ofString "in")) (.str (Str.ofString "in"))=some (.bl false):=rE (by unfold aq;exact Z2g) (by unfold dep;decide)
theorem Z3b:aN (.str (Str.ofString "out")) (.str (Str.ofString "out"))=some (.bl false):=rE (by unfold aq;exact Z2p) (by unfold dep;decide)
theorem Z3z{S:List Hu.Pt}{p:Hu.Pt}{l:Hu.Ln}(hl:Td l)(h1:∀s∈S,Hu.hd l s=true)(h2:Hu.hd l p=false)(hn:S.length≤100):pH [.sh (.tup [.str (Str.ofString "out"),cT l]),.bw (S.map pt),.sh (pt p)]=.ret (.sh (.bl true)):=by
 obtain⟨a1,a2,a3,a4⟩:=hl
 have m1:∀x,ň l.1 x=true:=fun x=>ű (by omega) (by omega)
 have m2:∀x,ň l.2.1 x=true:=fun x=>ű (by omega) (by omega)
 have c1:=Ŋ (g:=gN 3) (mt:=Ņ) (me:=Ć mz (Ę (ŀ ĸ (Ć Ĥ (Ā 1) (Ć Ē (Ā 3) (mC (.int 0)))) (Ć Ĥ (Ā 2) (Ć Ē (Ā 3) (mC (.int 1)))))) (Ā 0)) pt (fun _=>.bl true) (fun ρ=>∃a,ρ=[.sh (.int l.2.2),.sh (.int l.1),.sh (.int l.2.1),a]) S [.sh (.int l.2.2),.sh (.int l.1),.sh (.int l.2.1),.no] [] ⟨_,rfl⟩ (by simp;omega) (by
  rintro s hm ρ ⟨a,rfl⟩
  have hh:=h1 s hm
  unfold Hu.hd at hh
  rw[decide_eq_true_eq] at hh
  exact⟨[.sh (.int l.2.2),.sh (.int l.1),.sh (.int l.2.1),.sh (pt s)],_,[.sh (.int l.2.2),.sh (.int l.1),.sh (.int l.2.1),.sh (pt s)],rfl,rfl,by simp[pt,m1,m2,hh],_,rfl⟩)
 rw[List.nil_append] at c1
 have c2:jX [.lst (S.map fun _=>PV.bl true)]=some (.bl true):=by
  have:=Z0F (S.map fun _=>true)
  rw[List.map_map] at this
  have e2:(S.map fun _=>true).all id=true:=by simp
  rw[e2] at this
  exact this
 have c3':jX [.lst [.bl true,.bl true,.bl true]]=some (.bl true):=rfl
 have cw:ń (gN 0) Ņ (Ę (Ė gK (Ĉ 0 ē))) [.int l.1,.int l.2.1,.int l.2.2] [.no] []=some [.bl true,.bl true,.bl true]:=by
  have w1:=ZQ l.1
  have w2:=ZQ l.2.1
  have w3:=ZQ l.2.2
  simp[ń,w1,w2,w3]
 unfold Hu.hd at h2
 rw[decide_eq_false_iff_not] at h2
 generalize (S.map fun _=>PV.bl true)=bs at c1 c2
 generalize S.map pt=ps at c1
 have no:=Z3b
 simp[pH,Bd,List.replicate,cT,pt,no,Z0z,cw,c3',m1,m2,h2,c1,c2]
theorem Z3G{s W:Int}(hW:W≠0)(h0:0≤(rt s W).1)(z0 z1 z2:P.Slot):vp [z0,z1,z2,.sh (pt (rt s W))]=.ok .nx [z0,z1,z2,.sh (pt (rt s W))]:=by
 obtain⟨f1,f2,f3⟩:=Z08 (s:=s) hW
 have hc:=Z0t h0 (show 0≤(rt s W).2 by omega)
 rw[f2] at hc
 have ep:pt (rt s W)=.tup [.int (rt s W).1,.int (rt s W).2]:=rfl
 rw[ep]
 generalize (rt s W).1=t at *
 generalize (rt s W).2=b at *
 have a1:¬t<0:=by omega
 have a2:¬b<1:=by omega
 simp[vp,Z0z,ZQ,a1,a2,hc]
theorem Z1T{s W:Int}(hW:W≠0)(h:0≤s*W):0≤(rt s W).1:=by
 obtain⟨f1,f2,f3⟩:=Z08 (s:=s) hW
 generalize (rt s W).1=t at *
 generalize (rt s W).2=b at *
 refine Classical.byContradiction fun hn=>?_
 have hn:t<0:=by omega
 have h2:t*W*W=s*W*b:=by rw[f3,Int.mul_assoc,Int.mul_comm b W,←Int.mul_assoc]
 have h3:0≤s*W*b:=Int.mul_nonneg h (by omega)
 have h4:0<W*W:=by
  rcases Int.lt_or_gt_of_ne hW with h|h
  ·exact Int.mul_pos_of_neg_of_neg h h
  ·exact Int.mul_pos h h
 rw[←h2,Int.mul_assoc] at h3
 have h5:t*(W*W)<0:=Int.mul_neg_of_neg_of_pos hn h4
 omega
theorem zs(f:Hu.Pt→Int):∀(S:List Hu.Pt) (L:List Int),L.length=S.length→(((S.map f).zip L).map fun z=>z.1*z.2).sum=Fr.df L (fun k=>f (Hu.at_ S k))
 | [],[],_=>rfl
 | [],_::_,h=>by simp at h
 |_::_,[],h=>by simp at h
 |x::S,l::L,h=>by
  have ih:=zs f S L (by simpa using h)
  show f x*l+_=l*f x+Fr.df L (fun k=>f (Hu.at_ S k))
  rw[←ih,Int.mul_comm]
  rfl
theorem Z2h:bits 1≤60:=by decide
theorem Z1d{x:Int}(h1: -100000000000000000≤x)(h2:x≤100000000000000000):bits x≤60:=h_ (n:=60) (by omega) (by omega)
theorem Z3H{S:List Hu.Pt}{p:Hu.Pt}{L:List Int}{W:Int}(hW:W≠0)(Qi:bits W≤200)(hL:∀s∈L,bits s≤200∧0≤s*W)(hl:L.length=S.length)(hn:S.length≤8)(hS:∀q∈S,Sm q)(h1:L.sum=W)
 (hx:Fr.df L (fun k=>(Hu.at_ S k).1)=W*p.1)(hy:Fr.df L (fun k=>(Hu.at_ S k).2)=W*p.2):pG [.sh (.tup [.str (Str.ofString "in"),.lst (L.map fun s=>pt (rt s W))]),.bw (S.map pt),.sh (pt p)]=.ret (.sh (.bl true)):=by
 have su1:fP [.sh (.lst ((S.map fun _=>(1:Int)).map .int)),.sh (.lst (L.map fun s=>pt (rt s W)))]=.ret (.sh (pt (1,1))):=
  Z00 hW Qi (by simp[hl]) (by omega) (fun s hs=>(hL s hs).1) (fun q hq=>by obtain⟨_,_,rfl⟩:=List.mem_map.mp hq;exact Z2h) (by rw[zs (fun _=>1) S L hl,Fr.Z0B,h1];omega) (.inl rfl) (.inl rfl)
 have su2:fP [.sh (.lst ((S.map fun q=>q.1).map .int)),.sh (.lst (L.map fun s=>pt (rt s W)))]=.ret (.sh (pt (p.1,1))):=
  Z00 hW Qi (by simp[hl]) (by omega) (fun s hs=>(hL s hs).1) (fun q hq=>by obtain⟨z,hz,rfl⟩:=List.mem_map.mp hq;exact Z1d (hS z hz).1 (hS z hz).2.1) (by rw[zs (fun q=>q.1) S L hl,hx,Int.mul_comm]) (.inl rfl) (.inl rfl)
 have su3:fP [.sh (.lst ((S.map fun q=>q.2).map .int)),.sh (.lst (L.map fun s=>pt (rt s W)))]=.ret (.sh (pt (p.2,1))):=
  Z00 hW Qi (by simp[hl]) (by omega) (fun s hs=>(hL s hs).1) (fun q hq=>by obtain⟨z,hz,rfl⟩:=List.mem_map.mp hq;exact Z1d (hS z hz).2.2.1 (hS z hz).2.2.2) (by rw[zs (fun q=>q.2) S L hl,hy,Int.mul_comm]) (.inl rfl) (.inl rfl)
 have c1:ń (gN 0) Ņ (mC (.int 1)) (S.map pt) [.no] []=some ((S.map fun _=>(1:Int)).map .int):=by
  have:=Ŋ (g:=gN 0) (mt:=Ņ) (me:=mC (.int 1)) pt (fun _=>.int 1) (fun ρ=>∃a,ρ=[a]) S [.no] [] ⟨_,rfl⟩ (by simp;omega) (by
   rintro s hm ρ ⟨a,rfl⟩
   exact⟨_,_,_,rfl,rfl,rfl,_,rfl⟩)
  rw[this]
  simp
 have c2:ń (gN 1) Ņ (Ć Ē (Ā 1) (Ā 0)) (S.map pt) [.sh (.int 0),.no] []=some ((S.map fun q=>q.1).map .int):=by
  have:=Ŋ (g:=gN 1) (mt:=Ņ) (me:=Ć Ē (Ā 1) (Ā 0)) pt (fun q=>.int q.1) (fun ρ=>∃a,ρ=[.sh (.int 0),a]) S [.sh (.int 0),.no] [] ⟨_,rfl⟩ (by simp;omega) (by
   rintro s hm ρ ⟨a,rfl⟩
   exact⟨[.sh (.int 0),.sh (pt s)],_,[.sh (.int 0),.sh (pt s)],rfl,rfl,by simp[pt],_,rfl⟩)
  rw[this]
  simp
 have c3:ń (gN 1) Ņ (Ć Ē (Ā 1) (Ā 0)) (S.map pt) [.sh (.int 1),.no] []=some ((S.map fun q=>q.2).map .int):=by
  have:=Ŋ (g:=gN 1) (mt:=Ņ) (me:=Ć Ē (Ā 1) (Ā 0)) pt (fun q=>.int q.2) (fun ρ=>∃a,ρ=[.sh (.int 1),a]) S [.sh (.int 1),.no] [] ⟨_,rfl⟩ (by simp;omega) (by
   rintro s hm ρ ⟨a,rfl⟩
   exact⟨[.sh (.int 1),.sh (pt s)],_,[.sh (.int 1),.sh (pt s)],rfl,rfl,by simp[pt],_,rfl⟩)
  rw[this]
  simp
 obtain⟨ρ',e1,a,rfl⟩:=cF (g:=gN 3) (mb:=vp) (fun s=>pt (rt s W)) (fun(_:Unit) (_:Int)=>()) (fun _ ρ=>∃a,ρ=[.sh (.tup [.str (Str.ofString "in"),.lst (L.map fun s=>pt (rt s W))]),.bw (S.map pt),.sh (pt p),a]) L (by
  rintro s hs _ ρ ⟨a,rfl⟩
  exact⟨_,_,rfl,Z3G hW (Z1T hW (hL s hs).2) _ _ _,_,rfl⟩) () [.sh (.tup [.str (Str.ofString "in"),.lst (L.map fun s=>pt (rt s W))]),.bw (S.map pt),.sh (pt p),.no] ⟨_,rfl⟩
 have hlen:(L.map fun s=>pt (rt s W)).length=(S.map pt).length:=by simp[hl]
 have n1:=Z0y (1,1) (1,1)
 have n1':aN (pt (1,1)) (.tup [.int 1,.int 1])=some (.bl false):=by simpa[pt] using n1
 have q1:ŏ (.lst [pt (p.1,1),pt (p.2,1)]) (.lst [.tup [.int p.1,.int 1],.tup [.int p.2,.int 1]])=some (.bl true):=Fb (by simp[aq,bD,ZL]) (by simp[dep,vY,ZJ])
 have x0:Ē (pt p) (.int 0)=some (.int p.1):=by simp[pt]
 have x1:Ē (pt p) (.int 1)=some (.int p.2):=by simp[pt]
 have co:ń (gN 2) Ņ (Ę (Ė fP (Đ (Ę (Œ [2] 1 (Ţ 1) (gN 1) Ņ (Ć Ē (Ā 1) (Ā 0)))) (Đ (Ć Ē (Ā 0) (mC (.int 1))) ē)))) [PV.int 0,PV.int 1] [.sh (.tup [.str (Str.ofString "in"),.lst (L.map fun s=>pt (rt s W))]),.bw (S.map pt),.no] []=some [pt (p.1,1),pt (p.2,1)]:=by
  generalize (L.map fun s=>pt (rt s W))=LV at *
  generalize S.map pt=SV at *
  generalize (S.map fun q=>q.1).map PV.int=S1 at *
  generalize (S.map fun q=>q.2).map PV.int=S2 at *
  generalize pt (p.1,1)=P1 at *
  generalize pt (p.2,1)=P2 at *
  simp[ń,c2,c3,su2,su3]
 generalize (L.map fun s=>pt (rt s W))=LV at *
 generalize S.map pt=SV at *
 generalize (S.map fun _=>(1:Int)).map PV.int=S0 at *
 generalize pt (p.1,1)=P1 at *
 generalize pt (p.2,1)=P2 at *
 generalize pt (1,1)=P0 at *
 generalize pt p=PP at *
 simp[pG,Bc,List.replicate,Z3y,Z3w,hlen,e1,c1,su1,n1',Z0m,co,x0,x1,q1]
theorem inH{S:List Hu.Pt}(h0:S≠[])(hS:∀p∈S,Sm p)(hn:S.length≤8){p:Hu.Pt}(hp:Sm p)(e:Hu.Zh S p=none):pG [.sh (Zn S p),.bw (S.map pt),.sh (pt p)]=.ret (.sh (.bl true)):=by
 unfold Zn
 rw[e]
 have hg:=Hu.Z1x h0 e
 have hsh:=Z2L hS hp
 obtain⟨b1,b2⟩:=hsh.sum
 have hz:∀x∈(Hu.Zk S p).1.zip (Hu.Zk S p).2,x.2<(List.replicate S.length (0:Int)).length:=fun x hx=>by
  rw[List.length_replicate]
  exact hg.lt _ (List.of_mem_zip hx).2
 have hz0:∀x∈(Hu.Zk S p).1.zip (Hu.Zk S p).2,(List.replicate S.length (0:Int)).getD x.2 0=0:=fun x hx=>by
  rw[List.getD_eq_getElem?_getD,List.getElem?_replicate]
  split<;>rfl
 have hnd:(((Hu.Zk S p).1.zip (Hu.Zk S p).2).map (·.2)).Nodup:=by rw[Z04 hg.len];exact hg.nd
 have hdf:∀f,Fr.df (Fr.lay (List.replicate S.length 0) ((Hu.Zk S p).1.zip (Hu.Zk S p).2)) f=(((Hu.Zk S p).1.zip (Hu.Zk S p).2).map fun x=>x.1*f x.2).sum:=fun f=>by
  rw[Fr.Z1z _ _ f hnd hz hz0,Fr.Z2r]
  omega
 exact Z3H (S:=S) (p:=p) (L:=Fr.lay (List.replicate S.length 0) ((Hu.Zk S p).1.zip (Hu.Zk S p).2)) (W:=(Hu.Zk S p).1.sum) hg.sum (Zw b1 b2) (fun s hm=>by
  rcases Fr.Z14 _ _ _ hm with q|q
  ·have:s=0:=(List.mem_replicate.mp q).2
   subst this
   exact⟨Zw (by decide) (by decide),by simp⟩
  ·rw[ZH hg.len] at q
   have:=hsh.2 s q
   exact⟨Zw (by omega) (by omega),hg.sign s q⟩) (by rw[Fr.Z13,List.length_replicate]) hn hS (by
   rw[←Fr.Z0B,hdf]
   simp only[Int.mul_one]
   rw[ZH hg.len]) (by rw[hdf];exact hg.x) (by rw[hdf];exact hg.y)
theorem Z3I{S:List Hu.Pt}(hS:∀p∈S,Sm p)(hn:S.length≤8){p:Hu.Pt}{l:Hu.Ln}(e:Hu.Zh S p=some l):pH [.sh (Zn S p),.bw (S.map pt),.sh (pt p)]=.ret (.sh (.bl true)):=by
 unfold Zn
 rw[e]
 obtain⟨h1,h2⟩:=Hu.Z1u e
 exact Z3z (Z0H h1 hS) (fun s hm=>Hu.Z1f h1 hm) h2 (by omega)
theorem Z3A(S:List Hu.Pt)(p:Hu.Pt):∃a b,Zn S p=.tup [a,b]:=by
 unfold Zn
 cases Hu.Zh S p with
 |some l=>exact⟨_,_,rfl⟩
 |none=>exact⟨_,_,rfl⟩
theorem Z3B(i:Nat)(q:Option Nat):ŏ (.int (i:Int)) (oV q)=some (.bl (decide (q=some i))):=by
 cases q with
 |none=>rfl
 |some j=>
  have:ŏ (.int (i:Int)) (.int (j:Int))=some (.bl (decide ((i:Int)=(j:Int)))):=by simp
  unfold oV
  rw[this]
  congr 2
  by_cases h:j=i
  ·subst h;simp
  ·simp[h];omega
def cS(r:P3)(t:Th):List Hu.Pt:=(Z7 t.1 t.2).map (cst r)
theorem Z1r{T:List Th}(hg:∀t∈T,Z0 t.1 t.2=true){r:P3}(hr:RB r){w k:Nat}(hk:k<1000){i:Nat}(hi:i<T.length)(q:Option Nat){s2 s3:P.Slot}(h2:Sl s2 (T.map Z1))(h3:Sl s3 (T.map bL))(s7 s8:P.Slot) :
 (q=some i→dZ (T.getD i pX) (Ů w k) r=true→∃ρ',jj [.sh (pt (Ů w k)),.sh (c3 r),s2,s3,.sh (oV q),.sh (pt (cst r (fQ (Ů w k)))),.sh (.int i),s7,s8]=.ok (.rt (.sh (.bl true))) ρ')∧
 (q≠some i→dZ (T.getD i pX) (Ů w k) r=false→∃Dz DG,jj [.sh (pt (Ů w k)),.sh (c3 r),s2,s3,.sh (oV q),.sh (pt (cst r (fQ (Ů w k)))),.sh (.int i),s7,s8]=.ok .nx [.sh (pt (Ů w k)),.sh (c3 r),s2,s3,.sh (oV q),.sh (pt (cst r (fQ (Ů w k)))),.sh (.int i),Dz,DG]):=by
 obtain⟨m1,m2⟩:=Z1c hi
 have m3:(T.map Z1)[i]?=some (Z1 (T.getD i pX)):=by
  rw[List.getD_eq_getElem?_getD,List.getElem?_eq_getElem hi]
  simp[hi]
 have hgt:=hg _ m1
 have hsh:dZ (T.getD i pX) (Ů w k) r=(Hu.Zh (cS r (T.getD i pX)) (cst r (fQ (Ů w k)))).isNone:=rfl
 rw[hsh]
 generalize T.getD i pX=t at *
 have e1:dY [.sh (bL t),.sh (pt (Ů w k)),.sh (c3 r)]=.ret (.sh (Zn (cS r t) (cst r (fQ (Ů w k))))):=Z0f hgt hr (Z0T hk)
 have e2:pF [.sh (Z1 t),.sh (c3 r)]=.ret (.ow ((cS r t).map pt)):=Z1S hgt hr
 obtain⟨g1,g2,g3⟩:=ZN hgt
 have hS:∀p∈cS r t,Sm p:=by
  intro p hp
  obtain⟨z,hz,rfl⟩:=List.mem_map.mp hp
  exact ZW hr (g3 z hz)
 have hn:(cS r t).length≤8:=by unfold cS;simp;exact g1
 have h0:cS r t≠[]:=by unfold cS;simpa using g2
 have hp:Sm (cst r (fQ (Ů w k))):=ZW hr (Z0T hk)
 have e3:=Z3B i q
 obtain⟨va,vb,hv⟩:=Z3A (cS r t) (cst r (fQ (Ů w k)))
 constructor
 ·intro hq hd
  have en:Hu.Zh (cS r t) (cst r (fQ (Ů w k)))=none:=by simpa using hd
  have e4:=inH h0 hS hn hp en
  rw[decide_eq_true hq] at e3
  rw[hv] at e1 e4
  generalize oV q=Q at *
  generalize pt (cst r (fQ (Ů w k)))=PP at *
  generalize pt (Ů w k)=Pv at *
  generalize c3 r=R at *
  generalize bL t=Tv at *
  generalize Z1 t=Rw at *
  generalize (cS r t).map pt=CV at *
  generalize T.map Z1=TR at *
  generalize T.map bL=TV at *
  refine⟨[.sh Pv,.sh R,s2,s3,.sh Q,.sh PP,.sh (.int i),.sh (.tup [va,vb]),.ow CV],?_⟩
  rcases h2 with rfl|rfl<;>rcases h3 with rfl|rfl<;>simp[jj,m2,m3,e1,e2,e3,e4,Z0z]
 ·intro hq hd
  cases en:Hu.Zh (cS r t) (cst r (fQ (Ů w k))) with
  |none=>rw[en] at hd;simp at hd
  |some l=>
   have e4:=Z3I hS hn en
   rw[decide_eq_false hq] at e3
   rw[hv] at e1 e4
   generalize oV q=Q at *
   generalize pt (cst r (fQ (Ů w k)))=PP at *
   generalize pt (Ů w k)=Pv at *
   generalize c3 r=R at *
   generalize bL t=Tv at *
   generalize Z1 t=Rw at *
   generalize (cS r t).map pt=CV at *
   generalize T.map Z1=TR at *
   generalize T.map bL=TV at *
   refine⟨.sh (.tup [va,vb]),.ow CV,?_⟩
   rcases h2 with rfl|rfl<;>rcases h3 with rfl|rfl<;>simp[jj,m2,m3,e1,e2,e3,e4,Z0z]
theorem Z1U{w:Nat}{T:List Th}{r:P3}{k a:Nat}(ha:a<T.length)(h1:dZ (T.getD a pX) (Ů w k) r=true)(h2:∀i,i<a→dZ (T.getD i pX) (Ů w k) r=false):(dG w T r k).head?=some a:=by
 unfold dG
 rw[List.head?_filter,List.find?_range_eq_some]
 exact⟨h1,List.mem_range.mpr ha,fun j hj=>by rw[h2 j hj];rfl⟩
theorem Z1V{w:Nat}{T:List Th}{r:P3}{k:Nat}(h2:∀i,i<T.length→dZ (T.getD i pX) (Ů w k) r=false):(dG w T r k).head?=none:=by
 unfold dG
 rw[List.head?_filter,List.find?_range_eq_none]
 exact fun j hj=>by rw[h2 j hj];rfl
theorem Z2M{w:Nat}{T:List Th}{r:P3}{k a:Nat}(h:(dG w T r k).head?=some a):dZ (T.getD a pX) (Ů w k) r=true:=by
 unfold dG at h
 rw[List.head?_filter,List.find?_range_eq_some] at h
 exact h.1
theorem Z0i{T:List Th}(hg:∀t∈T,Z0 t.1 t.2=true){r:P3}(hr:RB r){w k:Nat}(hk:k<1000){s2 s3:P.Slot}(h2:Sl s2 (T.map Z1))(h3:Sl s3 (T.map bL)):∀(m a:Nat),a+m=T.length→(∀i,i<a→dZ (T.getD i pX) (Ů w k) r=false)→∀(s6 s7 s8:P.Slot),
 (∃ρ',forL (gN 6) jj ((List.range' a m).map fun(i:Nat)=>PV.int (i:Int)) [.sh (pt (Ů w k)),.sh (c3 r),s2,s3,.sh (oV (dG w T r k).head?),.sh (pt (cst r (fQ (Ů w k)))),s6,s7,s8]=.ok (.rt (.sh (.bl true))) ρ')∨
 ((dG w T r k).head?=none∧∃Eo Dz DG,forL (gN 6) jj ((List.range' a m).map fun(i:Nat)=>PV.int (i:Int)) [.sh (pt (Ů w k)),.sh (c3 r),s2,s3,.sh (oV (dG w T r k).head?),.sh (pt (cst r (fQ (Ů w k)))),s6,s7,s8]=.ok .nx [.sh (pt (Ů w k)),.sh (c3 r),s2,s3,.sh (oV (dG w T r k).head?),.sh (pt (cst r (fQ (Ů w k)))),Eo,Dz,DG])
 |0,a,ha,hf,s6,s7,s8=>.inr ⟨Z1V fun i hi=>hf i (by omega),s6,s7,s8,rfl⟩
 |m+1,a,ha,hf,s6,s7,s8=>by
  have hi:a<T.length:=by omega
  obtain⟨g1,g2⟩:=Z1r hg hr (w:=w) hk hi (dG w T r k).head? h2 h3 s7 s8
  have hgn:gN 6 (PV.int (a:Int)) [.sh (pt (Ů w k)),.sh (c3 r),s2,s3,.sh (oV (dG w T r k).head?),.sh (pt (cst r (fQ (Ů w k)))),s6,s7,s8]=some [.sh (pt (Ů w k)),.sh (c3 r),s2,s3,.sh (oV (dG w T r k).head?),.sh (pt (cst r (fQ (Ů w k)))),.sh (.int a),s7,s8]:=rfl
  rw[List.range'_succ,List.map_cons,forL,hgn]
  dsimp only
  cases hs:dZ (T.getD a pX) (Ů w k) r with
  |true=>
   obtain⟨ρ',e⟩:=g1 (Z1U hi hs hf) hs
   rw[e]
   exact .inl ⟨ρ',rfl⟩
  |false=>
   have hne:(dG w T r k).head?≠some a:=fun h=>by rw[Z2M h] at hs;cases hs
   obtain⟨Dz,DG,e⟩:=g2 hne hs
   rw[e]
   exact Z0i hg hr hk h2 h3 m (a+1) (by omega) (fun i hi'=>by
    by_cases h:i=a
    ·rw[h];exact hs
    ·exact hf i (by omega)) (.sh (.int a)) Dz DG
theorem Z2N{T:List Th}(hT:T.length≤1000)(hg:∀t∈T,Z0 t.1 t.2=true){r:P3}(hr:RB r){w k:Nat}(hk:k<1000){s2 s3:P.Slot}(h2:Sl s2 (T.map Z1))(h3:Sl s3 (T.map bL)):pI [.sh (pt (Ů w k)),.sh (c3 r),s2,s3,.sh (oV (dG w T r k).head?)]=.ret (.sh (.bl true)):=by
 have hl:=Z0i hg hr (w:=w) hk h2 h3 T.length 0 (by omega) (by omega) .no .no .no
 rw[←List.range_eq_range'] at hl
 have rt:=ZG (n:=T.length) hT
 have htl:(T.map Z1).length=T.length:=by simp
 have rt':ů [.int ((T.map Z1).length:Int)]=some ((List.range T.length).map fun(i:Nat)=>PV.int (i:Int)):=by rw[htl];exact rt
 obtain⟨r1,r2,r3,r4,r5,r6⟩:=hr
 have m1:ň 2 r.2.2=true:=ű (by omega) (by omega)
 have m2:∀x,ň (2*r.2.2) x=true:=fun x=>ű (by omega) (by omega)
 have hp:PV.tup [.int (2*r.2.2*(Ů w k).1),.int (2*r.2.2*(Ů w k).2)]=pt (cst r (fQ (Ů w k))):=by
  unfold pt cst fQ
  congr 2
  ·congr 1;simp;grind
  ·congr 2;simp;grind
 have x2:Ē (c3 r) (.int 2)=some (.int r.2.2):=by simp[c3]
 have y0:Ē (pt (Ů w k)) (.int 0)=some (.int (Ů w k).1):=by simp[pt]
 have y1:Ē (pt (Ů w k)) (.int 1)=some (.int (Ů w k).2):=by simp[pt]
 have on:Ep (oV none)=true:=rfl
 generalize pt (cst r (fQ (Ů w k)))=PP at *
 generalize pt (Ů w k)=Pv at *
 generalize c3 r=R at *
 generalize T.map Z1=TR at *
 generalize T.map bL=TV at *
 rcases hl with⟨ρ',e⟩|⟨hn,a,b,c,e⟩
 ·generalize oV (dG w T r k).head?=Q at *
  rcases h2 with rfl|rfl<;>rcases h3 with rfl|rfl<;>simp[pI,vq,List.replicate,x2,y0,y1,m1,m2,hp,rt',e]
 ·rw[hn] at e ⊢
  generalize oV none=Q at *
  rcases h2 with rfl|rfl<;>rcases h3 with rfl|rfl<;>simp[pI,vq,List.replicate,x2,y0,y1,m1,m2,hp,rt',e,on]
theorem Z2i{w:Nat}{T:List Th}{r:P3}{k:Nat}:dkp w T (some r) k=(dG w T r k).head?.isSome:=by
 show(T.any fun t=>dZ t (Ů w k) r)=_
 rw[Bool.eq_iff_iff,List.any_eq_true]
 unfold dG
 rw[List.head?_filter,List.find?_isSome]
 constructor
 ·rintro ⟨t,ht,hs⟩
  obtain⟨i,hi,rfl⟩:=List.mem_iff_getElem.mp ht
  refine⟨i,List.mem_range.mpr hi,?_⟩
  rw[List.getD_eq_getElem?_getD,List.getElem?_eq_getElem hi]
  exact hs
 ·rintro ⟨i,hi,hs⟩
  exact⟨_,(Z1c (List.mem_range.mp hi)).1,hs⟩
theorem Z3C{w h:Nat}(hw:0<w)(hw2:w≤60)(Te:w*h≤1000){T:List Th}(hT:T.length≤1000)(hg:∀t∈T,Z0 t.1 t.2=true){r:P3}(hr:RB r){k:Nat}(hk:k<w*h)(z0 z5 z9 Ft:P.Slot) :
 kW [z0,.sh (.tup [.int w,.int h]),.sh (c3 r),.sh (.lst (T.map Z1)),.ow (T.map bL),z5,.sh (.int (sW w h T (some r))),.ow ((List.range (w*h)).map fun k=>oV (dG w T r k).head?),.sh (.int k),z9,Ft]=.ok .nx [z0,.sh (.tup [.int w,.int h]),.sh (c3 r),.sh (.lst (T.map Z1)),.ow (T.map bL),z5,.sh (.int (sW w h T (some r))),.ow ((List.range (w*h)).map fun k=>oV (dG w T r k).head?),.sh (.int k),z9,Ft]:=by
 have hz:¬w=0:=by omega
 have m1:((k:Int)).fmod (w:Int)=((k % w:Nat):Int):=by rw[Int.fmod_eq_emod_of_nonneg _ (by omega)];rfl
 have m2:((k:Int)).fdiv (w:Int)=((k / w:Nat):Int):=by rw[Int.fdiv_eq_ediv_of_nonneg _ (by omega)];rfl
 have fo:cM (k:Int) (w:Int)=true:=Iz (by omega) (by omega) (by omega)
 have hs:PV.tup [.int ((k % w:Nat):Int),.int ((k / w:Nat):Int)]=pt (Ů w k):=rfl
 have q:=Z2N hT hg hr (w:=w) (k:=k) (by omega) (s2:=.sh (.lst (T.map Z1))) (s3:=.bw (T.map bL)) (.inl rfl) (.inr rfl)
 have hx:((List.range (w*h)).map fun k=>oV (dG w T r k).head?)[k]?=some (oV (dG w T r k).head?):=by simp[hk]
 have hb:(sW w h T (some r)).testBit k=(dG w T r k).head?.isSome:=by rw[sW,Zu,Z2i];simp[hk]
 have sb:=Z18 (sW w h T (some r)) k
 rw[hb] at sb
 have so:nG (sW w h T (some r):Int) (k:Int)=true:=by unfold nG;simp
 generalize pt (Ů w k)=Pv at *
 generalize ((k % w:Nat):Int)=a1 at *
 generalize ((k / w:Nat):Int)=a2 at *
 generalize sW w h T (some r)=A at *
 generalize ((List.range (w*h)).map fun k=>oV (dG w T r k).head?)=OV at *
 generalize c3 r=R at *
 generalize T.map Z1=TR at *
 generalize T.map bL=TV at *
 cases hq:(dG w T r k).head? with
 |none=>
  rw[hq] at q hx sb
  have on:Ep (oV none)=true:=rfl
  simp at sb
  generalize oV none=Q at *
  simp[kW,so,sb,hx,on,hz,m1,m2,fo,hs,q]
 |some j=>
  rw[hq] at q hx sb
  have on:Ep (oV (some j))=false:=rfl
  simp at sb
  generalize oV (some j)=Q at *
  simp[kW,so,sb,hx,on,hz,m1,m2,fo,hs,q]
theorem Z3c{t:Th}(h:Z0 t.1 t.2=true):aq (Z1 t)=true:=by
 unfold Z1
 simp only[aq,bD]
 have:=Z0V h
 have h2:=IK t.2
 simp[this,h2]
theorem Z1e:∀{T:List Th},(∀t∈T,Z0 t.1 t.2=true)→bD (T.map Z1)=true
 | [],_=>rfl
 |t::T,h=>by
  rw[List.map_cons]
  simp only[bD]
  rw[Z3c (h t List.mem_cons_self),Z1e fun x hx=>h x (List.mem_cons_of_mem _ hx)]
  rfl
theorem Z3d{T:List Th}(h:∀t∈T,Z0 t.1 t.2=true):ŏ (.lst (T.map Z1)) (.lst [])=some (.bl T.isEmpty):=by
 have h1:aq (.lst (T.map Z1))=true:=by unfold aq;exact Z1e h
 have h3:aq (.lst [])=true:=rfl
 have h4:decide (min (dep (.lst (T.map Z1))) (dep (.lst []))≤60)=true:=by
  rw[decide_eq_true_eq]
  have:dep (.lst [])≤60:=by decide
  omega
 unfold ŏ nO
 rw[h1,h3,h4]
 cases T with
 |nil=>rfl
 |cons x T=>
  show some (PV.bl (eqB (.lst ((x::T).map Z1)) (.lst [])))=_
  simp[eqB,dM]
def Fv(b:Bool):PV:=if b then .str (Str.ofString "in") else .str (Str.ofString "out")
theorem Z2O{w:Nat}{t:Th}{r:P3}{k:Nat}:∃b,Zn (cS r t) (cst r (fQ (Ů w k)))=.tup [Fv (dZ t (Ů w k) r),b]:=by
 have hsh:dZ t (Ů w k) r=(Hu.Zh (cS r t) (cst r (fQ (Ů w k)))).isNone:=rfl
 rw[hsh]
 unfold Zn
 cases Hu.Zh (cS r t) (cst r (fQ (Ů w k))) with
 |some l=>exact⟨_,rfl⟩
 |none=>exact⟨_,rfl⟩
theorem Z3e(b:Bool):ŏ (Fv b) (.str (Str.ofString "in"))=some (.bl b):=by
 cases b with
 |true=>exact tS' Z2g
 |false=>exact fS Z2p Z2g (by decide +kernel)
theorem Z0X(p:Nat→Bool):∀n,(((List.range n).filter p).map fun(k:Nat)=>((2:Int) ^ k)).sum=(Zq n p:Int)
 |0=>rfl
 |n+1=>by
  rw[List.range_succ,List.filter_append,List.map_append,List.sum_append,Z0X p n]
  show _=((Zq n p+if p n=true then 2 ^ n else 0:Nat):Int)
  cases h:p n<;>simp[h]
theorem Z3f{w h:Nat}(hw:0<w)(hw2:w≤60)(Te:w*h≤1000){t:Th}{T:List Th}(hg:Z0 t.1 t.2=true){r:P3}(hr:RB r)(s3:P.Slot) :
 ń (gN 3) Ņ (Ć Ē (Ę (Ė dY (Đ (Ć Ē (Ā 1) (mC (.int 0))) (Đ (ŉ (Ą (Ć œ (Ā 3) (Ć Ē (Ā 2) (mC (.int 0)))) (Ą (Ć ſ (Ā 3) (Ć Ē (Ā 2) (mC (.int 0)))) ė))) (Ĉ 0 ē))))) (mC (.int 0))) ((List.range (w*h)).map fun(i:Nat)=>PV.int (i:Int)) [.sh (c3 r),.bw ((t::T).map bL),.sh (.tup [.int w,.int h]),s3] []=some ((List.range (w*h)).map fun k=>Fv (dZ t (Ů w k) r)):=by
 have hc:=Ŋ (g:=gN 3) (mt:=Ņ) (me:=Ć Ē (Ę (Ė dY (Đ (Ć Ē (Ā 1) (mC (.int 0))) (Đ (ŉ (Ą (Ć œ (Ā 3) (Ć Ē (Ā 2) (mC (.int 0)))) (Ą (Ć ſ (Ā 3) (Ć Ē (Ā 2) (mC (.int 0)))) ė))) (Ĉ 0 ē))))) (mC (.int 0))) (fun(i:Nat)=>PV.int (i:Int)) (fun k=>Fv (dZ t (Ů w k) r)) (fun ρ=>∃a,ρ=[.sh (c3 r),.bw ((t::T).map bL),.sh (.tup [.int w,.int h]),a]) (List.range (w*h)) [.sh (c3 r),.bw ((t::T).map bL),.sh (.tup [.int w,.int h]),s3] [] ⟨_,rfl⟩ (by simp;omega) (by
  rintro k hk ρ ⟨a,rfl⟩
  have hk:=List.mem_range.mp hk
  have hz:¬w=0:=by omega
  have m1:((k:Int)).fmod (w:Int)=((k % w:Nat):Int):=by rw[Int.fmod_eq_emod_of_nonneg _ (by omega)];rfl
  have m2:((k:Int)).fdiv (w:Int)=((k / w:Nat):Int):=by rw[Int.fdiv_eq_ediv_of_nonneg _ (by omega)];rfl
  have fo:cM (k:Int) (w:Int)=true:=Iz (by omega) (by omega) (by omega)
  have hs:PV.tup [.int ((k % w:Nat):Int),.int ((k / w:Nat):Int)]=pt (Ů w k):=rfl
  have e1:dY [.sh (bL t),.sh (pt (Ů w k)),.sh (c3 r)]=.ret (.sh (Zn (cS r t) (cst r (fQ (Ů w k))))):=Z0f hg hr (Z0T (by omega))
  obtain⟨b,hb⟩:=Z2O (w:=w) (t:=t) (r:=r) (k:=k)
  rw[hb] at e1
  have hx:((t::T).map bL)[0]?=some (bL t):=rfl
  generalize Fv (dZ t (Ů w k) r)=IO' at *
  generalize (t::T).map bL=TV at *
  generalize bL t=Tv at *
  generalize pt (Ů w k)=Pv at *
  generalize ((k % w:Nat):Int)=a1 at *
  generalize ((k / w:Nat):Int)=a2 at *
  generalize c3 r=R at *
  exact⟨[.sh R,.bw TV,.sh (.tup [.int w,.int h]),.sh (.int k)],_,[.sh R,.bw TV,.sh (.tup [.int w,.int h]),.sh (.int k)],rfl,rfl,by simp[hx,hz,m1,m2,fo,hs,e1],_,rfl⟩)
 simpa using hc
theorem Z3D{w h:Nat}(Te:w*h≤1000)(t:Th)(r:P3)(s1:P.Slot):∃L:List PV,ń (gN 1) (aJ (Ć ŏ (Ć Ē (Ā 0) (Ā 1)) (mC (.str "in")))) (Ć gA (mC (.int 1)) (Ā 1)) ((List.range (w*h)).map fun(i:Nat)=>PV.int (i:Int)) [.bw ((List.range (w*h)).map fun k=>Fv (dZ t (Ů w k) r)),s1] []=some L∧qt [.lst L]=some (.int (mL w h r t)):=by
 have hc:=fB (g:=gN 1) (mt:=aJ (Ć ŏ (Ć Ē (Ā 0) (Ā 1)) (mC (.str "in")))) (me:=Ć gA (mC (.int 1)) (Ā 1)) (fun(k:Nat)=>PV.int (k:Int)) (fun(k:Nat)=>.int ((2:Int) ^ k)) (fun k=>dZ t (Ů w k) r) (fun ρ=>∃a,ρ=[.bw ((List.range (w*h)).map fun k=>Fv (dZ t (Ů w k) r)),a]) (List.range (w*h)) [.bw ((List.range (w*h)).map fun k=>Fv (dZ t (Ů w k) r)),s1] [] ⟨_,rfl⟩ (by simp;omega) (by
  rintro k hk ρ ⟨a,rfl⟩
  have hk:=List.mem_range.mp hk
  have hx:((List.range (w*h)).map fun k=>Fv (dZ t (Ů w k) r))[k]?=some (Fv (dZ t (Ů w k) r)):=by simp[hk]
  have so:=Z1l (k:=k) (by omega)
  have he:=Z3e (dZ t (Ů w k) r)
  generalize ((List.range (w*h)).map fun k=>Fv (dZ t (Ů w k) r))=F at *
  generalize dZ t (Ů w k) r=bb at *
  generalize Fv bb=I' at *
  exact⟨[.bw F,.sh (.int k)],[.bw F,.sh (.int k)],rfl,by simp[hx,he],fun _=>⟨_,rfl⟩,fun _=>⟨[.bw F,.sh (.int k)],by simp[so],_,rfl⟩⟩)
 refine⟨_,hc,?_⟩
 rw[List.nil_append]
 have e:((List.range (w*h)).filter fun k=>dZ t (Ů w k) r).map (fun(k:Nat)=>PV.int ((2:Int) ^ k))=(((List.range (w*h)).filter fun k=>dZ t (Ů w k) r).map fun(k:Nat)=>((2:Int) ^ k)).map .int:=by simp
 rw[e]
 show((intsOf _).map fun ns=>PV.int ns.sum)=_
 rw[fu,Option.map_some,Z0X]
 rfl
noncomputable def Z0j:M Fl:=(ġ (bJ (aJ (Ć ŏ (Ā 3) (Ę (ak ė)))) (ĭ (Ř (Ć ŏ (Ā 6) (mC (.int 0))))) bU) (ġ (ķ 9 (Œ [2,4,1] 1 (Ű ů (Ą (bC bO (Ą (Ā 7) ė)) ė)) (gN 3) Ņ (Ć Ē (Ę (Ė dY (Đ (Ć Ē (Ā 1) (mC (.int 0))) (Đ (ŉ (Ą (Ć œ (Ā 3) (Ć Ē (Ā 2) (mC (.int 0)))) (Ą (Ć ſ (Ā 3) (Ć Ē (Ā 2) (mC (.int 0)))) ė))) (Ĉ 0 ē))))) (mC (.int 0))))) (ġ (ķ 10 (Ř (bC qt (Ą (Ę (Œ [9] 1 (Ű ů (Ą (bC bO (Ą (Ā 7) ė)) ė)) (gN 1) (aJ (Ć ŏ (Ć Ē (Ā 0) (Ā 1)) (mC (.str "in")))) (Ć gA (mC (.int 1)) (Ā 1)))) ė)))) (ĭ (Ř (Ć ŏ (Ę (Ė gG (Ĉ 5 (Đ (Ć Ē (Ā 4) (mC (.int 0))) (Ĉ 2 ē))))) (Ā 10)))))))
noncomputable def Z0Y:M Fl:=(ġ (ķ 4 (Œ [] 2 (Ţ 3) (gT 2 (ě (gN 0) (ě (gN 1) ŝ))) Ņ (Ę (Ė cQ (Ĉ 0 (Đ (Ę (nA dO (Ą (Ā 1) ė))) ē)))))) (ġ (ķ 5 (Ř (bY "Yard" iu (Đ (Ć Ē (Ā 1) (mC (.int 0))) (Đ (Ć Ē (Ā 1) (mC (.int 1))) (Ĉ 4 (Đ (Ę (ak ė)) ē))))))) (ġ (ķ 6 (Ė iV (Ĉ 5 (Ĉ 2 ē)))) (ġ (ķ 7 (Ė oO (Ĉ 5 (Ĉ 2 ē)))) (ġ (bJ (jy (aJ (Ć aN (bC bO (Ą (Ā 7) ė)) (Ć Ĥ (Ć Ē (Ā 1) (mC (.int 0))) (Ć Ē (Ā 1) (mC (.int 1)))))) (aJ (Ć zJ (Ā 6) (Ć gA (mC (.int 1)) (bC bO (Ą (Ā 7) ė)))))) (ĭ (Ř (mC (.bl false)))) bU) (ġ (cU (Ű ů (Ą (bC bO (Ą (Ā 7) ė)) ė)) (gN 8) kW) Z0j))))))
theorem Z3J:Bf=(ġ (ķ 1 (Ė dU (Đ (Ę (Ė dg (Ĉ 0 (Đ (mC (.int 0)) ē)))) (Đ (mC (.int 9)) ē)))) (ġ (ķ 2 (Ė lH (Đ (Ę (Ė dg (Ĉ 0 (Đ (mC (.int 1)) ē)))) ē))) (ġ (ķ 3 (Œ [1] 1 (Ū (Ę (Fy (Ā 0) (mP (mC (.int 2))) (mP (mC (.int 7)))))) (gN 1) Ņ (Ę (Ė dW (Ĉ 1 (Đ (bC iM (Ą (Ā 0) ė)) ē)))))) Z0Y))):=rfl
theorem Z2P{w h:Nat}(hw:1≤w∧w≤20)(hh:1≤h∧h≤20)(Te:w*h≤20){T:List Th}(hT:T.length≤100)(hg:∀t∈T,Z0 t.1 t.2=true){r:P3}(hr:RB r)(hz:0<r.2.2)(z0 z8 z9 Ft:P.Slot) :
 FR.of (Z0j [z0,.sh (.tup [.int w,.int h]),.sh (c3 r),.sh (.lst (T.map Z1)),.ow (T.map bL),.sh (Z6 w h T []),.sh (.int (sW w h T (some r))),.ow ((List.range (w*h)).map fun k=>oV (dG w T r k).head?),z8,z9,Ft])=.ret (.sh (.bl true)):=by
 have en:=Z3d hg
 cases T with
 |nil=>
  have h0:sW w h [] (some r)=0:=by
   refine Nat.eq_of_testBit_eq fun k=>?_
   rw[sW,Zu]
   simp[dkp]
  rw[h0]
  have en':ŏ (.lst (([]:List Th).map Z1)) (.lst [])=some (.bl true):=en
  generalize Z6 w h [] []=Yv at *
  generalize ([]:List Th).map Z1=TR at *
  simp[Z0j,en']
 |cons t T=>
  have en':ŏ (.lst ((t::T).map Z1)) (.lst [])=some (.bl false):=en
  have ht:=hg t List.mem_cons_self
  have q1:=Z3f (w:=w) (h:=h) (by omega) (by omega) (by omega) (T:=T) ht hr .no
  obtain⟨L,q2,q3⟩:=Z3D (w:=w) (h:=h) (by omega) t r .no
  have q4:=Z0c (w:=w) (h:=h) (by omega) (by omega) (by omega) (t::T) [] ht hr hz
  have rr:=ZG (n:=w*h) (by omega)
  have hl:((List.range (w*h)).map fun k=>oV (dG w (t::T) r k).head?).length=w*h:=by simp
  have rr':ů [.int (((List.range (w*h)).map fun k=>oV (dG w (t::T) r k).head?).length:Int)]=some ((List.range (w*h)).map fun(i:Nat)=>PV.int (i:Int)):=by rw[hl];exact rr
  have hx:((t::T).map bL)[0]?=some (bL t):=rfl
  generalize ((List.range (w*h)).map fun k=>oV (dG w (t::T) r k).head?)=OV at *
  generalize ((List.range (w*h)).map fun k=>Fv (dZ t (Ů w k) r))=IV at *
  generalize sW w h (t::T) (some r)=A at *
  generalize mL w h r t=B at *
  generalize Z6 w h (t::T) []=Yv at *
  generalize (t::T).map Z1=TR at *
  generalize (t::T).map bL=TV at *
  generalize bL t=Tv at *
  generalize c3 r=R at *
  simp[Z0j,en',rr',q1,q2,q3,hx,q4]
theorem Z2Q{w h:Nat}(hw:1≤w∧w≤20)(hh:1≤h∧h≤20)(Te:w*h≤20){T:List Th}(hT:T.length≤100)(hg:∀t∈T,Z0 t.1 t.2=true){r:P3}(hr:RB r)(hz:0<r.2.2)(z0 z4 z5 z6 z7 z8 z9 Ft:P.Slot) :
 FR.of (Z0Y [z0,.sh (.tup [.int w,.int h]),.sh (c3 r),.ow (T.map Z1),z4,z5,z6,z7,z8,z9,Ft])=.ret (.sh (.bl true)):=by
 have q1:=Z1Q (T:=T) (by omega) hg .no .no
 have q2:=Z2z (w:Int) (h:Int) (T:=T) (D:=[]) (by omega) (by simp) (s3:=.bw (T.map bL)) (s4:=.sh (.lst [])) (.inr rfl) (.inl rfl)
 have q3:iV [.sh (Z6 w h T []),.sh (c3 r)]=.ret (.sh (.int (sW w h T (some r)))):=Z2B (w:=w) (h:=h) (by omega) (by omega) (by omega) (by omega) (T:=T) (by omega) [] hg (o:=some r) ⟨hr,hz⟩
 have q4:=Z37 (w:=w) (h:=h) (by omega) (by omega) (by omega) (by omega) (T:=T) (by omega) hg [] hr hz
 have mo:ň (w:Int) (h:Int)=true:=ű (by omega) (by omega)
 have rr:=ZG (n:=w*h) (by omega)
 have hl:((List.range (w*h)).map fun k=>oV (dG w T r k).head?).length=w*h:=by simp
 have hl2:(((List.range (w*h)).map fun k=>oV (dG w T r k).head?).length:Int)=(w:Int)*h:=by rw[hl];simp
 have rr':ů [.int ((w:Int)*h)]=some ((List.range (w*h)).map fun(i:Nat)=>PV.int (i:Int)):=by rw[←Int.natCast_mul];exact rr
 have so:lF 1 ((w:Int)*h)=true:=by rw[←Int.natCast_mul];exact Z1l (by omega)
 have tn:((w:Int)*h).toNat=w*h:=by rw[←Int.natCast_mul];rfl
 have hlt:¬((2:Int) ^ (w*h)≤(sW w h T (some r):Int)):=by
  have:=ZO (dkp w T (some r)) (w*h)
  have e:((2 ^ (w*h):Nat):Int)=(2:Int) ^ (w*h):=by simp
  rw[←e]
  unfold sW
  omega
 obtain⟨ρ',e1,y8,rfl⟩:=cF (g:=gN 8) (mb:=kW) (fun(i:Nat)=>PV.int (i:Int)) (fun(_:Unit) (_:Nat)=>()) (fun _ ρ=>∃a,ρ=[z0,.sh (.tup [.int w,.int h]),.sh (c3 r),.sh (.lst (T.map Z1)),.ow (T.map bL),.sh (Z6 w h T []),.sh (.int (sW w h T (some r))),.ow ((List.range (w*h)).map fun k=>oV (dG w T r k).head?),a,z9,Ft]) (List.range (w*h)) (by
  rintro k hk _ ρ ⟨a,rfl⟩
  have hk:=List.mem_range.mp hk
  exact⟨_,_,rfl,Z3C (by omega) (by omega) (by omega) (by omega) hg hr hk _ _ _ _,_,rfl⟩) () [z0,.sh (.tup [.int w,.int h]),.sh (c3 r),.sh (.lst (T.map Z1)),.ow (T.map bL),.sh (Z6 w h T []),.sh (.int (sW w h T (some r))),.ow ((List.range (w*h)).map fun k=>oV (dG w T r k).head?),z8,z9,Ft] ⟨_,rfl⟩
 have ft:=Z2P hw hh Te hT hg hr hz z0 y8 z9 Ft
 have hY:PV.ins "Yard" ["width","height","things","days"] [.int w,.int h,.lst (T.map bL),.lst []]=Z6 w h T []:=rfl
 have q2':iu [.sh (.int w),.sh (.int h),.bw (T.map bL),.sh (.lst [])]=.ok ["width","height","things","days"] [.int w,.int h,.lst (T.map bL),.lst []]:=q2
 clear q2
 generalize sW w h T (some r)=A at *
 generalize Z6 w h T []=Yv at *
 generalize T.map Z1=TR at *
 generalize T.map bL=TV at *
 generalize ((List.range (w*h)).map fun k=>oV (dG w T r k).head?)=OV at *
 generalize c3 r=R at *
 simp[Z0Y,q1,bY,q2',hY,q3,q4,hl2,mo,so,tn,hlt,rr',e1]
 simpa using ft
abbrev FN(nm q:Str)(st:Stmt)(kV dc pm:Value)(an:Option Addr)(cd ct:Value):FuncData:=PySem.W.fnOf nm q (gQ st) (cB st) (Ċ st) .none kV dc pm an cd ct
abbrev LK(K:PySem.W.Frag)(g:Addr)(oc:Value)(od:Option Addr)(f:FuncData)(sl:Array (Option Value)):Prop:=K.lookup g=some ⟨oc,od,.func f,sl⟩
theorem Z3g{l:PySem.W.OpenLaw}{w:World}{K:PySem.W.Frag}{h:Heap}{mg:Str→Option Value}{fa:Addr}(X:K.In h)(G:h.Ns mainGlobals mg)(hfa:mg "law" =some (.ref fa))
 {C0 C1 C2 C3 C4 C5 C6 C7 C8 C9 g0 g1 g2 g3 g4 g5 g6 g7 g8 g9 g10 g11 g12 g13 g14 g15 g16 g17 g18 g19 g20 g21 g22 g23 g24 g25 g26 g27 g28 g29 g30 g31 g32 Qj g34 g35 g36 g37 g38 g39 g40 g41 g42 g43 g44 g45 g46 g47 g48 g49 g50 g51 g52 g53 g54 g55 g56 g57 g58 g59 g60 g61 g62 g63:Addr}{od0 an0 od1 an1 od2 an2 od3 an3 od4 an4 od5 an5 od6 an6 od7 an7 od8 an8 od9 an9 Zk3 Zeb Zk4 Zec Zk5 Zed Zk6 Zee Zk7 Zef Zk8 Zeg Zk9 Zeh Zk_ Zei Zla Zej Zlb Zek Zlc Zel Zld Zem Zle Zen Zlf Zeo Zlg Zep Zlh Zeq Zli Zer Zlj Zes Zlk Zet Zll Zeu Zlm Zev Zln Zew Zlo Zex Zlp Zey Zlq Zez Zlr ZeA Zls ZeB Zlt ZeC Zlu ZeD Zlv ZeE Zlw ZeF Zlx ZeG Zly ZeH Zlz ZeI ZlA ZeJ ZlB ZeK ZlC ZeL ZlD ZeM ZlE ZeN ZlF ZeO ZlG ZeP ZlH ZeQ ZlI ZeR ZlJ ZeS ZlK ZeT ZlL ZeU ZlM ZeV ZlN ZeW ZlO ZeX ZlP ZeY ZlQ ZeZ ZlR Ze0 ZlS Ze1 ZlT Zba:Option Addr}{sl0 sl1 sl2 sl3 sl4 sl5 sl6 sl7 sl8 sl9 ZlU ZlV ZlW ZlX ZlY ZlZ Zl0 Zl1 Zl2 Zl3 Zl4 Zl5 Zl6 Zl7 Zl8 Zl9 Zl_ Zma Zmb Zmc Zmd Zme Zmf Zmg Zmh Zmi Zmj Zmk Zml Zmm Zmn Zmo Zmp Zmq Zmr Zms Zmt Zmu Zmv Zmw Zmx Zmy Zmz ZmA ZmB ZmC ZmD ZmE ZmF ZmG ZmH ZmI ZmJ ZmK:Array (Option Value)}{oc0 kV0 dc0 pm0 cd0 ct0 oc1 kV1 dc1 pm1 cd1 ct1 oc2 kV2 dc2 pm2 cd2 ct2 oc3 kV3 dc3 pm3 cd3 ct3 oc4 kV4 dc4 pm4 cd4 ct4 oc5 kV5 dc5 pm5 cd5 ct5 oc6 kV6 dc6 pm6 cd6 ct6 oc7 kV7 dc7 pm7 cd7 ct7 oc8 kV8 dc8 pm8 cd8 ct8 oc9 kV9 dc9 pm9 cd9 ct9 ZmL Ze2 Ze3 Ze4 Zbb Ze5 ZmM Ze6 Ze7 Ze8 Zbc Ze9 ZmN Ze_ Zfa Zfb Zbd Zfc ZmO Zfd Zfe Zff Zbe Zfg ZmP Zfh Zfi Zfj Zbf Zfk ZmQ Zfl Zfm Zfn Zbg Zfo ZmR Zfp Zfq Zfr Zbh Zfs ZmS Zft Zfu Zfv Zbi Zfw ZmT Zfx Zfy Zfz Zbj ZfA ZmU ZfB ZfC ZfD Zbk ZfE ZmV ZfF ZfG ZfH Zbl ZfI ZmW ZfJ ZfK ZfL Zbm ZfM ZmX ZfN ZfO ZfP Zbn ZfQ ZmY ZfR ZfS ZfT Zbo ZfU ZmZ ZfV ZfW ZfX Zbp ZfY Zm0 ZfZ Zf0 Zf1 Zbq Zf2 Zm1 Zf3 Zf4 Zf5 Zbr Zf6 Zm2 Zf7 Zf8 Zf9 Zbs Zf_ Zm3 Zga Zgb Zgc Zbt Zgd Zm4 Zge Zgf Zgg Zbu Zgh Zm5 Zgi Zgj Zgk Zbv Zgl Zm6 Zgm Zgn Zgo Zbw Zgp Zm7 Zgq Zgr Zgs Zbx Zgt Zm8 Zgu Zgv Zgw Zby Zgx Zm9 Zgy Zgz ZgA Zbz ZgB Zm_ ZgC ZgD ZgE ZbA ZgF Zna ZgG ZgH ZgI ZbB ZgJ Znb ZgK ZgL ZgM ZbC ZgN Znc ZgO ZgP ZgQ ZbD ZgR Znd ZgS ZgT ZgU ZbE ZgV Zne ZgW ZgX ZgY ZbF ZgZ Znf Zg0 Zg1 Zg2 ZbG Zg3 Zng Zg4 Zg5 Zg6 ZbH Zg7 Znh Zg8 Zg9 Zg_ ZbI Zha Zni Zhb Zhc Zhd ZbJ Zhe Znj Zhf Zhg Zhh ZbK Zhi Znk Zhj Zhk Zhl ZbL Zhm Znl Zhn Zho Zhp ZbM Zhq Znm Zhr Zhs Zht ZbN Zhu Znn Zhv Zhw Zhx ZbO Zhy Zno Zhz ZhA ZhB ZbP ZhC Znp ZhD ZhE ZhF ZbQ ZhG Znq ZhH ZhI ZhJ ZbR ZhK Znr ZhL ZhM ZhN ZbS ZhO Zns ZhP ZhQ ZhR ZbT ZhS Znt ZhT ZhU ZhV ZbU ZhW Znu ZhX ZhY ZhZ ZbV Zh0 Znv Zh1 Zh2 Zh3 ZbW Zh4 Znw Zh5 Zh6 Zh7 ZbX Zh8 Znx Zh9 Zh_ Zia ZbY Zib Zny Zic Zid Zie ZbZ Zif Znz Zig Zih Zii Zb0 Zij ZnA Zik Zil Zim Zb1 Zin ZnB Zb2 Zb3 Zb4 Tf Zb5:Value}
 {tk0:Tok}
 {tk1:Tok}
 (u0:PySem.W.nsIn K mainGlobals "YardError" =some (some (.ref C0)))
 (u1:PySem.W.nsIn K mainGlobals "NoNumber" =some (some (.ref C1)))
 (u2:PySem.W.nsIn K mainGlobals "BadThing" =some (some (.ref C2)))
 (u3:PySem.W.nsIn K mainGlobals "Thing" =some (some (.ref C3)))
 (u4:PySem.W.nsIn K mainGlobals "Post" =some (some (.ref C4)))
 (u5:PySem.W.nsIn K mainGlobals "Fence" =some (some (.ref C5)))
 (u6:PySem.W.nsIn K mainGlobals "Sail" =some (some (.ref C6)))
 (u7:PySem.W.nsIn K mainGlobals "Cloth" =some (some (.ref C7)))
 (u8:PySem.W.nsIn K mainGlobals "House" =some (some (.ref C8)))
 (u9:PySem.W.nsIn K mainGlobals "Yard" =some (some (.ref C9)))
 (a0:PySem.W.nsIn K mainGlobals "_law_size" =some (some (.ref g0)))
 (l0:LK K g0 oc0 od0 (FN "_law_size" "_law_size" wL kV0 dc0 pm0 an0 cd0 ct0) sl0)
 (c0:PySem.W.codeIn K cd0 "_law_size" =true)(k0:PySem.W.keepIn K (.ref g0)=true)
 (a1:PySem.W.nsIn K mainGlobals "_law_grains" =some (some (.ref g1)))
 (l1:LK K g1 oc1 od1 (FN "_law_grains" "_law_grains" wM kV1 dc1 pm1 an1 cd1 ct1) sl1)
 (c1:PySem.W.codeIn K cd1 "_law_grains" =true)(k1:PySem.W.keepIn K (.ref g1)=true)
 (a2:PySem.W.nsIn K mainGlobals "_law_ray" =some (some (.ref g2)))
 (l2:LK K g2 oc2 od2 (FN "_law_ray" "_law_ray" wN kV2 dc2 pm2 an2 cd2 ct2) sl2)
 (c2:PySem.W.codeIn K cd2 "_law_ray" =true)(k2:PySem.W.keepIn K (.ref g2)=true)
 (a3:PySem.W.findIn K (.ref C9) "__init__" =some (some (.ref g3)))
 (l3:LK K g3 oc3 od3 (FN "__init__" "Yard.__init__" Fd kV3 dc3 pm3 an3 cd3 ct3) sl3)
 (c3:PySem.W.codeIn K cd3 "Yard.__init__" =true)(k3:PySem.W.keepIn K (.ref g3)=true)
 (a4:PySem.W.nsIn K mainGlobals "box_lines" =some (some (.ref g4)))
 (l4:LK K g4 oc4 od4 (FN "box_lines" "box_lines" oG kV4 dc4 pm4 an4 cd4 ct4) sl4)
 (c4:PySem.W.codeIn K cd4 "box_lines" =true)(k4:PySem.W.keepIn K (.ref g4)=true)
 (a5:PySem.W.nsIn K mainGlobals "each_once" =some (some (.ref g5)))
 (l5:LK K g5 oc5 od5 (FN "each_once" "each_once" wO kV5 dc5 pm5 an5 cd5 ct5) sl5)
 (c5:PySem.W.codeIn K cd5 "each_once" =true)(k5:PySem.W.keepIn K (.ref g5)=true)
 (a6:PySem.W.nsIn K mainGlobals "line_through" =some (some (.ref g6)))
 (l6:LK K g6 oc6 od6 (FN "line_through" "line_through" wQ kV6 dc6 pm6 an6 cd6 ct6) sl6)
 (c6:PySem.W.codeIn K cd6 "line_through" =true)(k6:PySem.W.keepIn K (.ref g6)=true)
 (a7:PySem.W.nsIn K mainGlobals "holds" =some (some (.ref g7)))
 (l7:LK K g7 oc7 od7 (FN "holds" "holds" wR kV7 dc7 pm7 an7 cd7 ct7) sl7)
 (c7:PySem.W.codeIn K cd7 "holds" =true)(k7:PySem.W.keepIn K (.ref g7)=true)
 (a8:PySem.W.nsIn K mainGlobals "edge_lines" =some (some (.ref g8)))
 (l8:LK K g8 oc8 od8 (FN "edge_lines" "edge_lines" rG kV8 dc8 pm8 an8 cd8 ct8) sl8)
 (c8:PySem.W.codeIn K cd8 "edge_lines" =true)(k8:PySem.W.keepIn K (.ref g8)=true)
 (a9:PySem.W.nsIn K mainGlobals "lines_about" =some (some (.ref g9)))
 (l9:LK K g9 oc9 od9 (FN "lines_about" "lines_about" wU kV9 dc9 pm9 an9 cd9 ct9) sl9)
 (c9:PySem.W.codeIn K cd9 "lines_about" =true)(k9:PySem.W.keepIn K (.ref g9)=true)
 (a10:PySem.W.nsIn K mainGlobals "cast" =some (some (.ref g10)))
 (l10:LK K g10 ZmL Zk3 (FN "cast" "cast" wV Ze2 Ze3 Ze4 Zeb Zbb Ze5) ZlU)
 (c10:PySem.W.codeIn K Zbb "cast" =true)(k10:PySem.W.keepIn K (.ref g10)=true)
 (a11:PySem.W.nsIn K mainGlobals "level_corners" =some (some (.ref g11)))
 (l11:LK K g11 ZmM Zk4 (FN "level_corners" "level_corners" IW Ze6 Ze7 Ze8 Zec Zbc Ze9) ZlV)
 (c11:PySem.W.codeIn K Zbc "level_corners" =true)(k11:PySem.W.keepIn K (.ref g11)=true)
 (a12:PySem.W.nsIn K mainGlobals "block_corners" =some (some (.ref g12)))
 (l12:LK K g12 ZmN Zk5 (FN "block_corners" "block_corners" I_ Ze_ Zfa Zfb Zed Zbd Zfc) ZlW)
 (c12:PySem.W.codeIn K Zbd "block_corners" =true)(k12:PySem.W.keepIn K (.ref g12)=true)
 (a13:PySem.W.findIn K (.ref C4) "corners" =some (some (.ref g13)))
 (l13:LK K g13 ZmO Zk6 (FN "corners" "Post.corners" wW Zfd Zfe Zff Zee Zbe Zfg) ZlX)
 (c13:PySem.W.codeIn K Zbe "Post.corners" =true)(k13:PySem.W.keepIn K (.ref g13)=true)
 (a14:PySem.W.findIn K (.ref C5) "corners" =some (some (.ref g14)))
 (l14:LK K g14 ZmP Zk7 (FN "corners" "Fence.corners" Ja Zfh Zfi Zfj Zef Zbf Zfk) ZlY)
 (c14:PySem.W.codeIn K Zbf "Fence.corners" =true)(k14:PySem.W.keepIn K (.ref g14)=true)
 (a15:PySem.W.findIn K (.ref C6) "corners" =some (some (.ref g15)))
 (l15:LK K g15 ZmQ Zk8 (FN "corners" "Sail.corners" wX Zfl Zfm Zfn Zeg Zbg Zfo) ZlZ)
 (c15:PySem.W.codeIn K Zbg "Sail.corners" =true)(k15:PySem.W.keepIn K (.ref g15)=true)
 (a16:PySem.W.findIn K (.ref C7) "corners" =some (some (.ref g16)))
 (l16:LK K g16 ZmR Zk9 (FN "corners" "Cloth.corners" rH Zfp Zfq Zfr Zeh Zbh Zfs) Zl0)
 (c16:PySem.W.codeIn K Zbh "Cloth.corners" =true)(k16:PySem.W.keepIn K (.ref g16)=true)
 (a17:PySem.W.findIn K (.ref C8) "corners" =some (some (.ref g17)))
 (l17:LK K g17 ZmS Zk_ (FN "corners" "House.corners" wY Zft Zfu Zfv Zei Zbi Zfw) Zl1)
 (c17:PySem.W.codeIn K Zbi "House.corners" =true)(k17:PySem.W.keepIn K (.ref g17)=true)
 (a18:PySem.W.nsIn K mainGlobals "corner_casts" =some (some (.ref g18)))
 (l18:LK K g18 ZmT Zla (FN "corner_casts" "corner_casts" rJ Zfx Zfy Zfz Zej Zbj ZfA) Zl2)
 (c18:PySem.W.codeIn K Zbj "corner_casts" =true)(k18:PySem.W.keepIn K (.ref g18)=true)
 (a19:PySem.W.nsIn K mainGlobals "span_bits" =some (some (.ref g19)))
 (l19:LK K g19 ZmU Zlb (FN "span_bits" "span_bits" wZ ZfB ZfC ZfD Zek Zbk ZfE) Zl3)
 (c19:PySem.W.codeIn K Zbk "span_bits" =true)(k19:PySem.W.keepIn K (.ref g19)=true)
 (a20:PySem.W.nsIn K mainGlobals "row_bits" =some (some (.ref g20)))
 (l20:LK K g20 ZmV Zlc (FN "row_bits" "row_bits" xg ZfF ZfG ZfH Zel Zbl ZfI) Zl4)
 (c20:PySem.W.codeIn K Zbl "row_bits" =true)(k20:PySem.W.keepIn K (.ref g20)=true)
 (a21:PySem.W.nsIn K mainGlobals "dark_of" =some (some (.ref g21)))
 (l21:LK K g21 ZmW Zld (FN "dark_of" "dark_of" xq ZfJ ZfK ZfL Zem Zbm ZfM) Zl5)
 (c21:PySem.W.codeIn K Zbm "dark_of" =true)(k21:PySem.W.keepIn K (.ref g21)=true)
 (a22:PySem.W.nsIn K mainGlobals "darks_of_things" =some (some (.ref g22)))
 (l22:LK K g22 ZmX Zle (FN "darks_of_things" "darks_of_things" Fe ZfN ZfO ZfP Zen Zbn ZfQ) Zl6)
 (c22:PySem.W.codeIn K Zbn "darks_of_things" =true)(k22:PySem.W.keepIn K (.ref g22)=true)
 (a23:PySem.W.nsIn K mainGlobals "dark" =some (some (.ref g23)))
 (l23:LK K g23 ZmY Zlf (FN "dark" "dark" xr ZfR ZfS ZfT Zeo Zbo ZfU) Zl7)
 (c23:PySem.W.codeIn K Zbo "dark" =true)(k23:PySem.W.keepIn K (.ref g23)=true)
 (a24:PySem.W.nsIn K mainGlobals "least_holding" =some (some (.ref g24)))
 (l24:LK K g24 ZmZ Zlg (FN "least_holding" "least_holding" xu ZfV ZfW ZfX Zep Zbp ZfY) Zl8)
 (c24:PySem.W.codeIn K Zbp "least_holding" =true)(k24:PySem.W.keepIn K (.ref g24)=true)
 (a25:PySem.W.nsIn K mainGlobals "who" =some (some (.ref g25)))
 (l25:LK K g25 Zm0 Zlh (FN "who" "who" rK ZfZ Zf0 Zf1 Zeq Zbq Zf2) Zl9)
 (c25:PySem.W.codeIn K Zbq "who" =true)(k25:PySem.W.keepIn K (.ref g25)=true)
 (a26:PySem.W.nsIn K mainGlobals "_law_at" =some (some (.ref g26)))
 (l26:LK K g26 Zm1 Zli (FN "_law_at" "_law_at" xG Zf3 Zf4 Zf5 Zer Zbr Zf6) Zl_)
 (c26:PySem.W.codeIn K Zbr "_law_at" =true)(k26:PySem.W.keepIn K (.ref g26)=true)
 (a27:PySem.W.nsIn K mainGlobals "_law_height" =some (some (.ref g27)))
 (l27:LK K g27 Zm2 Zlj (FN "_law_height" "_law_height" xH Zf7 Zf8 Zf9 Zes Zbs Zf_) Zma)
 (c27:PySem.W.codeIn K Zbs "_law_height" =true)(k27:PySem.W.keepIn K (.ref g27)=true)
 (a28:PySem.W.nsIn K mainGlobals "_law_place" =some (some (.ref g28)))
 (l28:LK K g28 Zm3 Zlk (FN "_law_place" "_law_place" xJ Zga Zgb Zgc Zet Zbt Zgd) Zmb)
 (c28:PySem.W.codeIn K Zbt "_law_place" =true)(k28:PySem.W.keepIn K (.ref g28)=true)
 (a29:PySem.W.nsIn K mainGlobals "_law_thing" =some (some (.ref g29)))
 (l29:LK K g29 Zm4 Zll (FN "_law_thing" "_law_thing" rM Zge Zgf Zgg Zeu Zbu Zgh) Zmc)
 (c29:PySem.W.codeIn K Zbu "_law_thing" =true)(k29:PySem.W.keepIn K (.ref g29)=true)
 (a30:PySem.W.nsIn K mainGlobals "is_place" =some (some (.ref g30)))
 (l30:LK K g30 Zm5 Zlm (FN "is_place" "is_place" xK Zgi Zgj Zgk Zev Zbv Zgl) Zmd)
 (c30:PySem.W.codeIn K Zbv "is_place" =true)(k30:PySem.W.keepIn K (.ref g30)=true)
 (a31:PySem.W.nsIn K mainGlobals "is_height" =some (some (.ref g31)))
 (l31:LK K g31 Zm6 Zln (FN "is_height" "is_height" xM Zgm Zgn Zgo Zew Zbw Zgp) Zme)
 (c31:PySem.W.codeIn K Zbw "is_height" =true)(k31:PySem.W.keepIn K (.ref g31)=true)
 (a32:PySem.W.nsIn K mainGlobals "makes_post" =some (some (.ref g32)))
 (l32:LK K g32 Zm7 Zlo (FN "makes_post" "makes_post" xO Zgq Zgr Zgs Zex Zbx Zgt) Zmf)
 (c32:PySem.W.codeIn K Zbx "makes_post" =true)(k32:PySem.W.keepIn K (.ref g32)=true)
 (a33:PySem.W.findIn K (.ref C3) "__init__" =some (some (.ref Qj)))
 (l33:LK K Qj Zm8 Zlp (FN "__init__" "Thing.__init__" Jb Zgu Zgv Zgw Zey Zby Zgx) Zmg)
 (c33:PySem.W.codeIn K Zby "Thing.__init__" =true)(k33:PySem.W.keepIn K (.ref Qj)=true)
 (a34:PySem.W.nsIn K mainGlobals "has_two_ends" =some (some (.ref g34)))
 (l34:LK K g34 Zm9 Zlq (FN "has_two_ends" "has_two_ends" rN Zgy Zgz ZgA Zez Zbz ZgB) Zmh)
 (c34:PySem.W.codeIn K Zbz "has_two_ends" =true)(k34:PySem.W.keepIn K (.ref g34)=true)
 (a35:PySem.W.nsIn K mainGlobals "makes_fence" =some (some (.ref g35)))
 (l35:LK K g35 Zm_ Zlr (FN "makes_fence" "makes_fence" xP ZgC ZgD ZgE ZeA ZbA ZgF) Zmi)
 (c35:PySem.W.codeIn K ZbA "makes_fence" =true)(k35:PySem.W.keepIn K (.ref g35)=true)
 (a36:PySem.W.nsIn K mainGlobals "makes_sail_or_house" =some (some (.ref g36)))
 (l36:LK K g36 Zna Zls (FN "makes_sail_or_house" "makes_sail_or_house" Jc ZgG ZgH ZgI ZeB ZbB ZgJ) Zmj)
 (c36:PySem.W.codeIn K ZbB "makes_sail_or_house" =true)(k36:PySem.W.keepIn K (.ref g36)=true)
 (a37:PySem.W.nsIn K mainGlobals "is_cloth_corner" =some (some (.ref g37)))
 (l37:LK K g37 Znb Zlt (FN "is_cloth_corner" "is_cloth_corner" Jd ZgK ZgL ZgM ZeC ZbC ZgN) Zmk)
 (c37:PySem.W.codeIn K ZbC "is_cloth_corner" =true)(k37:PySem.W.keepIn K (.ref g37)=true)
 (a38:PySem.W.nsIn K mainGlobals "makes_cloth" =some (some (.ref g38)))
 (l38:LK K g38 Znc Zlu (FN "makes_cloth" "makes_cloth" rP ZgO ZgP ZgQ ZeD ZbD ZgR) Zml)
 (c38:PySem.W.codeIn K ZbD "makes_cloth" =true)(k38:PySem.W.keepIn K (.ref g38)=true)
 (a39:PySem.W.nsIn K mainGlobals "thing_of" =some (some (.ref g39)))
 (l39:LK K g39 Znd Zlv (FN "thing_of" "thing_of" xQ ZgS ZgT ZgU ZeE ZbE ZgV) Zmm)
 (c39:PySem.W.codeIn K ZbE "thing_of" =true)(k39:PySem.W.keepIn K (.ref g39)=true)
 (a40:PySem.W.nsIn K mainGlobals "parting_line" =some (some (.ref g40)))
 (l40:LK K g40 Zne Zlw (FN "parting_line" "parting_line" xR ZgW ZgX ZgY ZeF ZbF ZgZ) Zmn)
 (c40:PySem.W.codeIn K ZbF "parting_line" =true)(k40:PySem.W.keepIn K (.ref g40)=true)
 (a41:PySem.W.nsIn K mainGlobals "pairs_below" =some (some (.ref g41)))
 (l41:LK K g41 Znf Zlx (FN "pairs_below" "pairs_below" rQ Zg0 Zg1 Zg2 ZeG ZbG Zg3) Zmo)
 (c41:PySem.W.codeIn K ZbG "pairs_below" =true)(k41:PySem.W.keepIn K (.ref g41)=true)
 (a42:PySem.W.nsIn K mainGlobals "triples_below" =some (some (.ref g42)))
 (l42:LK K g42 Zng Zly (FN "triples_below" "triples_below" rT Zg4 Zg5 Zg6 ZeH ZbH Zg7) Zmp)
 (c42:PySem.W.codeIn K ZbH "triples_below" =true)(k42:PySem.W.keepIn K (.ref g42)=true)
 (a43:PySem.W.nsIn K mainGlobals "greatest_divisor" =some (some (.ref g43)))
 (l43:LK K g43 Znh Zlz (FN "greatest_divisor" "greatest_divisor" Je Zg8 Zg9 Zg_ ZeI ZbI Zha) Zmq)
 (c43:PySem.W.codeIn K ZbI "greatest_divisor" =true)(k43:PySem.W.keepIn K (.ref g43)=true)
 (a44:PySem.W.nsIn K mainGlobals "ratio" =some (some (.ref g44)))
 (l44:LK K g44 Zni ZlA (FN "ratio" "ratio" xT Zhb Zhc Zhd ZeJ ZbJ Zhe) Zmr)
 (c44:PySem.W.codeIn K ZbJ "ratio" =true)(k44:PySem.W.keepIn K (.ref g44)=true)
 (a45:PySem.W.nsIn K mainGlobals "spread" =some (some (.ref g45)))
 (l45:LK K g45 Znj ZlB (FN "spread" "spread" rW Zhf Zhg Zhh ZeK ZbK Zhi) Zms)
 (c45:PySem.W.codeIn K ZbK "spread" =true)(k45:PySem.W.keepIn K (.ref g45)=true)
 (a46:PySem.W.nsIn K mainGlobals "turned" =some (some (.ref g46)))
 (l46:LK K g46 Znk ZlC (FN "turned" "turned" xU Zhj Zhk Zhl ZeL ZbL Zhm) Zmt)
 (c46:PySem.W.codeIn K ZbL "turned" =true)(k46:PySem.W.keepIn K (.ref g46)=true)
 (a47:PySem.W.nsIn K mainGlobals "shares_of_three" =some (some (.ref g47)))
 (l47:LK K g47 Znl ZlD (FN "shares_of_three" "shares_of_three" Jf Zhn Zho Zhp ZeM ZbM Zhq) Zmu)
 (c47:PySem.W.codeIn K ZbM "shares_of_three" =true)(k47:PySem.W.keepIn K (.ref g47)=true)
 (a48:PySem.W.nsIn K mainGlobals "are_weights" =some (some (.ref g48)))
 (l48:LK K g48 Znm ZlE (FN "are_weights" "are_weights" rY Zhr Zhs Zht ZeN ZbN Zhu) Zmv)
 (c48:PySem.W.codeIn K ZbN "are_weights" =true)(k48:PySem.W.keepIn K (.ref g48)=true)
 (a49:PySem.W.nsIn K mainGlobals "shares_of_two" =some (some (.ref g49)))
 (l49:LK K g49 Znn ZlF (FN "shares_of_two" "shares_of_two" xV Zhv Zhw Zhx ZeO ZbO Zhy) Zmw)
 (c49:PySem.W.codeIn K ZbO "shares_of_two" =true)(k49:PySem.W.keepIn K (.ref g49)=true)
 (a50:PySem.W.nsIn K mainGlobals "weights_of" =some (some (.ref g50)))
 (l50:LK K g50 Zno ZlG (FN "weights_of" "weights_of" oH Zhz ZhA ZhB ZeP ZbP ZhC) Zmx)
 (c50:PySem.W.codeIn K ZbP "weights_of" =true)(k50:PySem.W.keepIn K (.ref g50)=true)
 (a51:PySem.W.nsIn K mainGlobals "held" =some (some (.ref g51)))
 (l51:LK K g51 Znp ZlH (FN "held" "held" xW ZhD ZhE ZhF ZeQ ZbQ ZhG) Zmy)
 (c51:PySem.W.codeIn K ZbQ "held" =true)(k51:PySem.W.keepIn K (.ref g51)=true)
 (a52:PySem.W.nsIn K mainGlobals "stone_cast" =some (some (.ref g52)))
 (l52:LK K g52 Znq ZlI (FN "stone_cast" "stone_cast" xX ZhH ZhI ZhJ ZeR ZbR ZhK) Zmz)
 (c52:PySem.W.codeIn K ZbR "stone_cast" =true)(k52:PySem.W.keepIn K (.ref g52)=true)
 (a53:PySem.W.nsIn K mainGlobals "shading" =some (some (.ref g53)))
 (l53:LK K g53 Znr ZlJ (FN "shading" "shading" xY ZhL ZhM ZhN ZeS ZbS ZhO) ZmA)
 (c53:PySem.W.codeIn K ZbS "shading" =true)(k53:PySem.W.keepIn K (.ref g53)=true)
 (a54:PySem.W.nsIn K mainGlobals "_law_flat" =some (some (.ref g54)))
 (l54:LK K g54 Zns ZlK (FN "_law_flat" "_law_flat" xZ ZhP ZhQ ZhR ZeT ZbT ZhS) ZmB)
 (c54:PySem.W.codeIn K ZbT "_law_flat" =true)(k54:PySem.W.keepIn K (.ref g54)=true)
 (a55:PySem.W.nsIn K mainGlobals "_law_corners" =some (some (.ref g55)))
 (l55:LK K g55 Znt ZlL (FN "_law_corners" "_law_corners" oJ ZhT ZhU ZhV ZeU ZbU ZhW) ZmC)
 (c55:PySem.W.codeIn K ZbU "_law_corners" =true)(k55:PySem.W.keepIn K (.ref g55)=true)
 (a56:PySem.W.nsIn K mainGlobals "_law_casts" =some (some (.ref g56)))
 (l56:LK K g56 Znu ZlM (FN "_law_casts" "_law_casts" yc ZhX ZhY ZhZ ZeV ZbV Zh0) ZmD)
 (c56:PySem.W.codeIn K ZbV "_law_casts" =true)(k56:PySem.W.keepIn K (.ref g56)=true)
 (a57:PySem.W.nsIn K mainGlobals "_law_common" =some (some (.ref g57)))
 (l57:LK K g57 Znv ZlN (FN "_law_common" "_law_common" yd Zh1 Zh2 Zh3 ZeW ZbW Zh4) ZmE)
 (c57:PySem.W.codeIn K ZbW "_law_common" =true)(k57:PySem.W.keepIn K (.ref g57)=true)
 (a58:PySem.W.nsIn K mainGlobals "_law_summed" =some (some (.ref g58)))
 (l58:LK K g58 Znw ZlO (FN "_law_summed" "_law_summed" yg Zh5 Zh6 Zh7 ZeX ZbX Zh8) ZmF)
 (c58:PySem.W.codeIn K ZbX "_law_summed" =true)(k58:PySem.W.keepIn K (.ref g58)=true)
 (a59:PySem.W.nsIn K mainGlobals "_law_whole" =some (some (.ref g59)))
 (l59:LK K g59 Znx ZlP (FN "_law_whole" "_law_whole" yj Zh9 Zh_ Zia ZeY ZbY Zib) ZmG)
 (c59:PySem.W.codeIn K ZbY "_law_whole" =true)(k59:PySem.W.keepIn K (.ref g59)=true)
 (a60:PySem.W.nsIn K mainGlobals "_law_in" =some (some (.ref g60)))
 (l60:LK K g60 Zny ZlQ (FN "_law_in" "_law_in" oK Zic Zid Zie ZeZ ZbZ Zif) ZmH)
 (c60:PySem.W.codeIn K ZbZ "_law_in" =true)(k60:PySem.W.keepIn K (.ref g60)=true)
 (a61:PySem.W.nsIn K mainGlobals "_law_out" =some (some (.ref g61)))
 (l61:LK K g61 Znz ZlR (FN "_law_out" "_law_out" oM Zig Zih Zii Ze0 Zb0 Zij) ZmI)
 (c61:PySem.W.codeIn K Zb0 "_law_out" =true)(k61:PySem.W.keepIn K (.ref g61)=true)
 (a62:PySem.W.nsIn K mainGlobals "_law_stone" =some (some (.ref g62)))
 (l62:LK K g62 ZnA ZlS (FN "_law_stone" "_law_stone" yq Zik Zil Zim Ze1 Zb1 Zin) ZmJ)
 (c62:PySem.W.codeIn K Zb1 "_law_stone" =true)(k62:PySem.W.keepIn K (.ref g62)=true)
 (a63:PySem.W.nsIn K mainGlobals "law" =some (some (.ref g63)))
 (l63:LK K g63 ZnB ZlT (FN "law" "law" fM Zb2 Zb3 Zb4 Zba Tf Zb5) ZmK)
 (c63:PySem.W.codeIn K Tf "law" =true)(k63:PySem.W.keepIn K (.ref g63)=true)
 (x0:PySem.W.nsIn K mainGlobals "MOST_HEIGHT" =some (some (.int (1000000000) tk0)))
 (x1:PySem.W.nsIn K mainGlobals "MOST_PLACE" =some (some (.int (1000000000) tk1)))
 (z0:PySem.W.nsIn K mainGlobals "abs" =some none)
 (z1:PySem.W.nsIn K mainGlobals "all" =some none)
 (z2:PySem.W.nsIn K mainGlobals "bool" =some none)
 (z3:PySem.W.nsIn K mainGlobals "enumerate" =some none)
 (z4:PySem.W.nsIn K mainGlobals "int" =some none)
 (z5:PySem.W.nsIn K mainGlobals "isinstance" =some none)
 (z6:PySem.W.nsIn K mainGlobals "len" =some none)
 (z7:PySem.W.nsIn K mainGlobals "list" =some none)
 (z8:PySem.W.nsIn K mainGlobals "max" =some none)
 (z9:PySem.W.nsIn K mainGlobals "min" =some none)
 (Ft:PySem.W.nsIn K mainGlobals "range" =some none)
 (z11:PySem.W.nsIn K mainGlobals "sum" =some none)
 (z12:PySem.W.nsIn K mainGlobals "tuple" =some none)
 (z13:PySem.W.nsIn K mainGlobals "zip" =some none)
 (q0:PySem.W.excIn K (cG C0 C1 C2 C3 C4 C5 C6 C7 C8 C9 "YardError") Et RK=true)
 (q1:PySem.W.keepIn K (.ref (cG C0 C1 C2 C3 C4 C5 C6 C7 C8 C9 "YardError"))=true)
 (q2:dw K (cG C0 C1 C2 C3 C4 C5 C6 C7 C8 C9 "YardError")=true)
 (q3:PySem.W.excIn K (cG C0 C1 C2 C3 C4 C5 C6 C7 C8 C9 "NoNumber") Et RK=true)
 (q4:PySem.W.keepIn K (.ref (cG C0 C1 C2 C3 C4 C5 C6 C7 C8 C9 "NoNumber"))=true)
 (q5:dw K (cG C0 C1 C2 C3 C4 C5 C6 C7 C8 C9 "NoNumber")=true)
 (q6:PySem.W.excIn K (cG C0 C1 C2 C3 C4 C5 C6 C7 C8 C9 "BadThing") Et RK=true)
 (q7:PySem.W.keepIn K (.ref (cG C0 C1 C2 C3 C4 C5 C6 C7 C8 C9 "BadThing"))=true)
 (q8:dw K (cG C0 C1 C2 C3 C4 C5 C6 C7 C8 C9 "BadThing")=true)
 (q9:uo K (cG C0 C1 C2 C3 C4 C5 C6 C7 C8 C9 "Thing")=true)
 (q10:RZ K (cG C0 C1 C2 C3 C4 C5 C6 C7 C8 C9 "Thing") Qj=true)
 (q11:PySem.W.findIn K (.ref (cG C0 C1 C2 C3 C4 C5 C6 C7 C8 C9 "Thing")) "word" =some none)
 (q12:PySem.W.findIn K (.ref (cG C0 C1 C2 C3 C4 C5 C6 C7 C8 C9 "Thing")) "numbers" =some none)
 (q13:uo K (cG C0 C1 C2 C3 C4 C5 C6 C7 C8 C9 "Post")=true)
 (q14:RZ K (cG C0 C1 C2 C3 C4 C5 C6 C7 C8 C9 "Post") Qj=true)
 (q15:PySem.W.findIn K (.ref (cG C0 C1 C2 C3 C4 C5 C6 C7 C8 C9 "Post")) "word" =some none)
 (q16:PySem.W.findIn K (.ref (cG C0 C1 C2 C3 C4 C5 C6 C7 C8 C9 "Post")) "numbers" =some none)
 (q17:n_ K (cG C0 C1 C2 C3 C4 C5 C6 C7 C8 C9 "Post") "corners" g13=true)
 (q18:uo K (cG C0 C1 C2 C3 C4 C5 C6 C7 C8 C9 "Fence")=true)
 (q19:RZ K (cG C0 C1 C2 C3 C4 C5 C6 C7 C8 C9 "Fence") Qj=true)
 (q20:PySem.W.findIn K (.ref (cG C0 C1 C2 C3 C4 C5 C6 C7 C8 C9 "Fence")) "word" =some none)
 (q21:PySem.W.findIn K (.ref (cG C0 C1 C2 C3 C4 C5 C6 C7 C8 C9 "Fence")) "numbers" =some none)
 (q22:n_ K (cG C0 C1 C2 C3 C4 C5 C6 C7 C8 C9 "Fence") "corners" g14=true)
 (q23:uo K (cG C0 C1 C2 C3 C4 C5 C6 C7 C8 C9 "Sail")=true)
 (q24:RZ K (cG C0 C1 C2 C3 C4 C5 C6 C7 C8 C9 "Sail") Qj=true)
 (q25:PySem.W.findIn K (.ref (cG C0 C1 C2 C3 C4 C5 C6 C7 C8 C9 "Sail")) "word" =some none)
 (q26:PySem.W.findIn K (.ref (cG C0 C1 C2 C3 C4 C5 C6 C7 C8 C9 "Sail")) "numbers" =some none)
 (q27:n_ K (cG C0 C1 C2 C3 C4 C5 C6 C7 C8 C9 "Sail") "corners" g15=true)
 (q28:uo K (cG C0 C1 C2 C3 C4 C5 C6 C7 C8 C9 "Cloth")=true)
 (q29:RZ K (cG C0 C1 C2 C3 C4 C5 C6 C7 C8 C9 "Cloth") Qj=true)
 (q30:PySem.W.findIn K (.ref (cG C0 C1 C2 C3 C4 C5 C6 C7 C8 C9 "Cloth")) "word" =some none)
 (q31:PySem.W.findIn K (.ref (cG C0 C1 C2 C3 C4 C5 C6 C7 C8 C9 "Cloth")) "numbers" =some none)
 (q32:n_ K (cG C0 C1 C2 C3 C4 C5 C6 C7 C8 C9 "Cloth") "corners" g16=true)
 (q33:uo K (cG C0 C1 C2 C3 C4 C5 C6 C7 C8 C9 "House")=true)
 (q34:RZ K (cG C0 C1 C2 C3 C4 C5 C6 C7 C8 C9 "House") Qj=true)
 (q35:PySem.W.findIn K (.ref (cG C0 C1 C2 C3 C4 C5 C6 C7 C8 C9 "House")) "word" =some none)
 (q36:PySem.W.findIn K (.ref (cG C0 C1 C2 C3 C4 C5 C6 C7 C8 C9 "House")) "numbers" =some none)
 (q37:n_ K (cG C0 C1 C2 C3 C4 C5 C6 C7 C8 C9 "House") "corners" g17=true)
 (q38:uo K (cG C0 C1 C2 C3 C4 C5 C6 C7 C8 C9 "Yard")=true)
 (q39:RZ K (cG C0 C1 C2 C3 C4 C5 C6 C7 C8 C9 "Yard") g3=true)
 (q40:PySem.W.findIn K (.ref (cG C0 C1 C2 C3 C4 C5 C6 C7 C8 C9 "Yard")) "width" =some none)
 (q41:PySem.W.findIn K (.ref (cG C0 C1 C2 C3 C4 C5 C6 C7 C8 C9 "Yard")) "height" =some none)
 (q42:PySem.W.findIn K (.ref (cG C0 C1 C2 C3 C4 C5 C6 C7 C8 C9 "Yard")) "things" =some none)
 (q43:PySem.W.findIn K (.ref (cG C0 C1 C2 C3 C4 C5 C6 C7 C8 C9 "Yard")) "days" =some none)
 (q44:isC K (cG C0 C1 C2 C3 C4 C5 C6 C7 C8 C9) Zz=true)
 (q45:isT K (cG C0 C1 C2 C3 C4 C5 C6 C7 C8 C9) ZA=true)
 (q46:isD K (cG C0 C1 C2 C3 C4 C5 C6 C7 C8 C9) ZB=true)
 (q47:RT K ZC=true)
 :∃fd:FuncData,(∀(s:Shared) (v:Value),BindsTo s fd ⟨[v],[]⟩ [("_law_script",v)])∧∀base:Heap,K.In base→base.Ns mainGlobals mg→∃cm,Ķ l.prog w K mg base (ų l.prog w) 8 fa fd ["_law_script"] (ż ⟨K,cm⟩ 1 pJ):=by
 have e:=hfa.symm.trans (PySem.W.mg_of X G a63)
 cases e
 have F0:=Ĩ (st:=wL) l0 c0 k0
 have b0:=F0.binds (ps:=["_law_cell","_law_most"]) fun _ _ _ _ _ _ us hl=>match us,hl with| [_,_],_=>rfl
 have F1:=Ĩ (st:=wM) l1 c1 k1
 have b1:=F1.binds (ps:=["_law_cell","_law_many"]) fun _ _ _ _ _ _ us hl=>match us,hl with| [_,_],_=>rfl
 have F2:=Ĩ (st:=wN) l2 c2 k2
 have b2:=F2.binds (ps:=["_law_cell"]) fun _ _ _ _ _ _ us hl=>match us,hl with| [_],_=>rfl
 have F3:=Ĩ (st:=Fd) l3 c3 k3
 have b3:=F3.binds (ps:=["self","width","height","things","days"]) fun _ _ _ _ _ _ us hl=>match us,hl with| [_,_,_,_,_],_=>rfl
 have F4:=Ĩ (st:=oG) l4 c4 k4
 have b4:=F4.binds (ps:=["points"]) fun _ _ _ _ _ _ us hl=>match us,hl with| [_],_=>rfl
 have F5:=Ĩ (st:=wO) l5 c5 k5
 have b5:=F5.binds (ps:=["points"]) fun _ _ _ _ _ _ us hl=>match us,hl with| [_],_=>rfl
 have F6:=Ĩ (st:=wQ) l6 c6 k6
 have b6:=F6.binds (ps:=["one","other"]) fun _ _ _ _ _ _ us hl=>match us,hl with| [_,_],_=>rfl
 have F7:=Ĩ (st:=wR) l7 c7 k7
 have b7:=F7.binds (ps:=["line","pair"]) fun _ _ _ _ _ _ us hl=>match us,hl with| [_,_],_=>rfl
 have F8:=Ĩ (st:=rG) l8 c8 k8
 have b8:=F8.binds (ps:=["points"]) fun _ _ _ _ _ _ us hl=>match us,hl with| [_],_=>rfl
 have F9:=Ĩ (st:=wU) l9 c9 k9
 have b9:=F9.binds (ps:=["points"]) fun _ _ _ _ _ _ us hl=>match us,hl with| [_],_=>rfl
 have F10:=Ĩ (st:=wV) l10 c10 k10
 have b10:=F10.binds (ps:=["point","ray"]) fun _ _ _ _ _ _ us hl=>match us,hl with| [_,_],_=>rfl
 have F11:=Ĩ (st:=IW) l11 c11 k11
 have b11:=F11.binds (ps:=["x","y","u","v","z"]) fun _ _ _ _ _ _ us hl=>match us,hl with| [_,_,_,_,_],_=>rfl
 have F12:=Ĩ (st:=I_) l12 c12 k12
 have b12:=F12.binds (ps:=["x","y","u","v","h"]) fun _ _ _ _ _ _ us hl=>match us,hl with| [_,_,_,_,_],_=>rfl
 have F13:=Ĩ (st:=wW) l13 c13 k13
 have b13:=F13.binds (ps:=["self"]) fun _ _ _ _ _ _ us hl=>match us,hl with| [_],_=>rfl
 have F14:=Ĩ (st:=Ja) l14 c14 k14
 have b14:=F14.binds (ps:=["self"]) fun _ _ _ _ _ _ us hl=>match us,hl with| [_],_=>rfl
 have F15:=Ĩ (st:=wX) l15 c15 k15
 have b15:=F15.binds (ps:=["self"]) fun _ _ _ _ _ _ us hl=>match us,hl with| [_],_=>rfl
 have F16:=Ĩ (st:=rH) l16 c16 k16
 have b16:=F16.binds (ps:=["self"]) fun _ _ _ _ _ _ us hl=>match us,hl with| [_],_=>rfl
 have F17:=Ĩ (st:=wY) l17 c17 k17
 have b17:=F17.binds (ps:=["self"]) fun _ _ _ _ _ _ us hl=>match us,hl with| [_],_=>rfl
 have F18:=Ĩ (st:=rJ) l18 c18 k18
 have b18:=F18.binds (ps:=["thing","ray"]) fun _ _ _ _ _ _ us hl=>match us,hl with| [_,_],_=>rfl
 have F19:=Ĩ (st:=wZ) l19 c19 k19
 have b19:=F19.binds (ps:=["first","last"]) fun _ _ _ _ _ _ us hl=>match us,hl with| [_,_],_=>rfl
 have F20:=Ĩ (st:=xg) l20 c20 k20
 have b20:=F20.binds (ps:=["lines","unit","q","width"]) fun _ _ _ _ _ _ us hl=>match us,hl with| [_,_,_,_],_=>rfl
 have F21:=Ĩ (st:=xq) l21 c21 k21
 have b21:=F21.binds (ps:=["yard","thing","ray"]) fun _ _ _ _ _ _ us hl=>match us,hl with| [_,_,_],_=>rfl
 have F22:=Ĩ (st:=Fe) l22 c22 k22
 have b22:=F22.binds (ps:=["yard","ray"]) fun _ _ _ _ _ _ us hl=>match us,hl with| [_,_],_=>rfl
 have F23:=Ĩ (st:=xr) l23 c23 k23
 have b23:=F23.binds (ps:=["yard","turn"]) fun _ _ _ _ _ _ us hl=>match us,hl with| [_,_],_=>rfl
 have F24:=Ĩ (st:=xu) l24 c24 k24
 have b24:=F24.binds (ps:=["sets","number"]) fun _ _ _ _ _ _ us hl=>match us,hl with| [_,_],_=>rfl
 have F25:=Ĩ (st:=rK) l25 c25 k25
 have b25:=F25.binds (ps:=["yard","ray"]) fun _ _ _ _ _ _ us hl=>match us,hl with| [_,_],_=>rfl
 have F26:=Ĩ (st:=xG) l26 c26 k26
 have b26:=F26.binds (ps:=["_law_script","_law_k"]) fun _ _ _ _ _ _ us hl=>match us,hl with| [_,_],_=>rfl
 have F27:=Ĩ (st:=xH) l27 c27 k27
 have b27:=F27.binds (ps:=["_law_number"]) fun _ _ _ _ _ _ us hl=>match us,hl with| [_],_=>rfl
 have F28:=Ĩ (st:=xJ) l28 c28 k28
 have b28:=F28.binds (ps:=["_law_number","_law_wide"]) fun _ _ _ _ _ _ us hl=>match us,hl with| [_,_],_=>rfl
 have F29:=Ĩ (st:=rM) l29 c29 k29
 have b29:=F29.binds (ps:=["_law_cell","_law_wide"]) fun _ _ _ _ _ _ us hl=>match us,hl with| [_,_],_=>rfl
 have F30:=Ĩ (st:=xK) l30 c30 k30
 have b30:=F30.binds (ps:=["number"]) fun _ _ _ _ _ _ us hl=>match us,hl with| [_],_=>rfl
 have F31:=Ĩ (st:=xM) l31 c31 k31
 have b31:=F31.binds (ps:=["number"]) fun _ _ _ _ _ _ us hl=>match us,hl with| [_],_=>rfl
 have F32:=Ĩ (st:=xO) l32 c32 k32
 have b32:=F32.binds (ps:=["numbers"]) fun _ _ _ _ _ _ us hl=>match us,hl with| [_],_=>rfl
 have F33:=Ĩ (st:=Jb) l33 c33 k33
 have b33:=F33.binds (ps:=["self","word","numbers"]) fun _ _ _ _ _ _ us hl=>match us,hl with| [_,_,_],_=>rfl
 have F34:=Ĩ (st:=rN) l34 c34 k34
 have b34:=F34.binds (ps:=["numbers"]) fun _ _ _ _ _ _ us hl=>match us,hl with| [_],_=>rfl
 have F35:=Ĩ (st:=xP) l35 c35 k35
 have b35:=F35.binds (ps:=["numbers"]) fun _ _ _ _ _ _ us hl=>match us,hl with| [_],_=>rfl
 have F36:=Ĩ (st:=Jc) l36 c36 k36
 have b36:=F36.binds (ps:=["numbers"]) fun _ _ _ _ _ _ us hl=>match us,hl with| [_],_=>rfl
 have F37:=Ĩ (st:=Jd) l37 c37 k37
 have b37:=F37.binds (ps:=["numbers"]) fun _ _ _ _ _ _ us hl=>match us,hl with| [_],_=>rfl
 have F38:=Ĩ (st:=rP) l38 c38 k38
 have b38:=F38.binds (ps:=["numbers"]) fun _ _ _ _ _ _ us hl=>match us,hl with| [_],_=>rfl
 have F39:=Ĩ (st:=xQ) l39 c39 k39
 have b39:=F39.binds (ps:=["word","numbers"]) fun _ _ _ _ _ _ us hl=>match us,hl with| [_,_],_=>rfl
 have F40:=Ĩ (st:=xR) l40 c40 k40
 have b40:=F40.binds (ps:=["points","point"]) fun _ _ _ _ _ _ us hl=>match us,hl with| [_,_],_=>rfl
 have F41:=Ĩ (st:=rQ) l41 c41 k41
 have b41:=F41.binds (ps:=["many"]) fun _ _ _ _ _ _ us hl=>match us,hl with| [_],_=>rfl
 have F42:=Ĩ (st:=rT) l42 c42 k42
 have b42:=F42.binds (ps:=["many"]) fun _ _ _ _ _ _ us hl=>match us,hl with| [_],_=>rfl
 have F43:=Ĩ (st:=Je) l43 c43 k43
 have b43:=F43.binds (ps:=["one","other"]) fun _ _ _ _ _ _ us hl=>match us,hl with| [_,_],_=>rfl
 have F44:=Ĩ (st:=xT) l44 c44 k44
 have b44:=F44.binds (ps:=["top","bottom"]) fun _ _ _ _ _ _ us hl=>match us,hl with| [_,_],_=>rfl
 have F45:=Ĩ (st:=rW) l45 c45 k45
 have b45:=F45.binds (ps:=["shares","places","many"]) fun _ _ _ _ _ _ us hl=>match us,hl with| [_,_,_],_=>rfl
 have F46:=Ĩ (st:=xU) l46 c46 k46
 have b46:=F46.binds (ps:=["one","other","third"]) fun _ _ _ _ _ _ us hl=>match us,hl with| [_,_,_],_=>rfl
 have F47:=Ĩ (st:=Jf) l47 c47 k47
 have b47:=F47.binds (ps:=["corners","point"]) fun _ _ _ _ _ _ us hl=>match us,hl with| [_,_],_=>rfl
 have F48:=Ĩ (st:=rY) l48 c48 k48
 have b48:=F48.binds (ps:=["shares"]) fun _ _ _ _ _ _ us hl=>match us,hl with| [_],_=>rfl
 have F49:=Ĩ (st:=xV) l49 c49 k49
 have b49:=F49.binds (ps:=["ends","point"]) fun _ _ _ _ _ _ us hl=>match us,hl with| [_,_],_=>rfl
 have F50:=Ĩ (st:=oH) l50 c50 k50
 have b50:=F50.binds (ps:=["points","point"]) fun _ _ _ _ _ _ us hl=>match us,hl with| [_,_],_=>rfl
 have F51:=Ĩ (st:=xW) l51 c51 k51
 have b51:=F51.binds (ps:=["points","point"]) fun _ _ _ _ _ _ us hl=>match us,hl with| [_,_],_=>rfl
 have F52:=Ĩ (st:=xX) l52 c52 k52
 have b52:=F52.binds (ps:=["stone","ray"]) fun _ _ _ _ _ _ us hl=>match us,hl with| [_,_],_=>rfl
 have F53:=Ĩ (st:=xY) l53 c53 k53
 have b53:=F53.binds (ps:=["thing","stone","ray"]) fun _ _ _ _ _ _ us hl=>match us,hl with| [_,_,_],_=>rfl
 have F54:=Ĩ (st:=xZ) l54 c54 k54
 have b54:=F54.binds (ps:=["_law_x","_law_y","_law_u","_law_v","_law_z"]) fun _ _ _ _ _ _ us hl=>match us,hl with| [_,_,_,_,_],_=>rfl
 have F55:=Ĩ (st:=oJ) l55 c55 k55
 have b55:=F55.binds (ps:=["_law_word","_law_some"]) fun _ _ _ _ _ _ us hl=>match us,hl with| [_,_],_=>rfl
 have F56:=Ĩ (st:=yc) l56 c56 k56
 have b56:=F56.binds (ps:=["_law_drawn","_law_ray_here"]) fun _ _ _ _ _ _ us hl=>match us,hl with| [_,_],_=>rfl
 have F57:=Ĩ (st:=yd) l57 c57 k57
 have b57:=F57.binds (ps:=["_law_one","_law_other"]) fun _ _ _ _ _ _ us hl=>match us,hl with| [_,_],_=>rfl
 have F58:=Ĩ (st:=yg) l58 c58 k58
 have b58:=F58.binds (ps:=["_law_parts","_law_weights"]) fun _ _ _ _ _ _ us hl=>match us,hl with| [_,_],_=>rfl
 have F59:=Ĩ (st:=yj) l59 c59 k59
 have b59:=F59.binds (ps:=["_law_found"]) fun _ _ _ _ _ _ us hl=>match us,hl with| [_],_=>rfl
 have F60:=Ĩ (st:=oK) l60 c60 k60
 have b60:=F60.binds (ps:=["_law_told","_law_points","_law_point"]) fun _ _ _ _ _ _ us hl=>match us,hl with| [_,_,_],_=>rfl
 have F61:=Ĩ (st:=oM) l61 c61 k61
 have b61:=F61.binds (ps:=["_law_told","_law_points","_law_point"]) fun _ _ _ _ _ _ us hl=>match us,hl with| [_,_,_],_=>rfl
 have F62:=Ĩ (st:=yq) l62 c62 k62
 have b62:=F62.binds (ps:=["_law_stone_here","_law_ray_here","_law_drawn","_law_things","_law_one"]) fun _ _ _ _ _ _ us hl=>match us,hl with| [_,_,_,_,_],_=>rfl
 have F63:=Ĩ (st:=fM) l63 c63 k63
 have b63:=F63.binds (ps:=["_law_script"]) fun _ _ _ _ _ _ us hl=>match us,hl with| [_],_=>rfl
 have T:Tx K mg ⟨g0,FN "_law_size" "_law_size" wL kV0 dc0 pm0 an0 cd0 ct0,g1,FN "_law_grains" "_law_grains" wM kV1 dc1 pm1 an1 cd1 ct1,g2,FN "_law_ray" "_law_ray" wN kV2 dc2 pm2 an2 cd2 ct2,g3,FN "__init__" "Yard.__init__" Fd kV3 dc3 pm3 an3 cd3 ct3,g4,FN "box_lines" "box_lines" oG kV4 dc4 pm4 an4 cd4 ct4,g5,FN "each_once" "each_once" wO kV5 dc5 pm5 an5 cd5 ct5,g6,FN "line_through" "line_through" wQ kV6 dc6 pm6 an6 cd6 ct6,g7,FN "holds" "holds" wR kV7 dc7 pm7 an7 cd7 ct7,g8,FN "edge_lines" "edge_lines" rG kV8 dc8 pm8 an8 cd8 ct8,g9,FN "lines_about" "lines_about" wU kV9 dc9 pm9 an9 cd9 ct9,g10,FN "cast" "cast" wV Ze2 Ze3 Ze4 Zeb Zbb Ze5,g11,FN "level_corners" "level_corners" IW Ze6 Ze7 Ze8 Zec Zbc Ze9,g12,FN "block_corners" "block_corners" I_ Ze_ Zfa Zfb Zed Zbd Zfc,g13,FN "corners" "Post.corners" wW Zfd Zfe Zff Zee Zbe Zfg,g14,FN "corners" "Fence.corners" Ja Zfh Zfi Zfj Zef Zbf Zfk,g15,FN "corners" "Sail.corners" wX Zfl Zfm Zfn Zeg Zbg Zfo,g16,FN "corners" "Cloth.corners" rH Zfp Zfq Zfr Zeh Zbh Zfs,g17,FN "corners" "House.corners" wY Zft Zfu Zfv Zei Zbi Zfw,g18,FN "corner_casts" "corner_casts" rJ Zfx Zfy Zfz Zej Zbj ZfA,g19,FN "span_bits" "span_bits" wZ ZfB ZfC ZfD Zek Zbk ZfE,g20,FN "row_bits" "row_bits" xg ZfF ZfG ZfH Zel Zbl ZfI,g21,FN "dark_of" "dark_of" xq ZfJ ZfK ZfL Zem Zbm ZfM,g22,FN "darks_of_things" "darks_of_things" Fe ZfN ZfO ZfP Zen Zbn ZfQ,g23,FN "dark" "dark" xr ZfR ZfS ZfT Zeo Zbo ZfU,g24,FN "least_holding" "least_holding" xu ZfV ZfW ZfX Zep Zbp ZfY,g25,FN "who" "who" rK ZfZ Zf0 Zf1 Zeq Zbq Zf2,g26,FN "_law_at" "_law_at" xG Zf3 Zf4 Zf5 Zer Zbr Zf6,g27,FN "_law_height" "_law_height" xH Zf7 Zf8 Zf9 Zes Zbs Zf_,g28,FN "_law_place" "_law_place" xJ Zga Zgb Zgc Zet Zbt Zgd,g29,FN "_law_thing" "_law_thing" rM Zge Zgf Zgg Zeu Zbu Zgh,g30,FN "is_place" "is_place" xK Zgi Zgj Zgk Zev Zbv Zgl,g31,FN "is_height" "is_height" xM Zgm Zgn Zgo Zew Zbw Zgp,g32,FN "makes_post" "makes_post" xO Zgq Zgr Zgs Zex Zbx Zgt,Qj,FN "__init__" "Thing.__init__" Jb Zgu Zgv Zgw Zey Zby Zgx,g34,FN "has_two_ends" "has_two_ends" rN Zgy Zgz ZgA Zez Zbz ZgB,g35,FN "makes_fence" "makes_fence" xP ZgC ZgD ZgE ZeA ZbA ZgF,g36,FN "makes_sail_or_house" "makes_sail_or_house" Jc ZgG ZgH ZgI ZeB ZbB ZgJ,g37,FN "is_cloth_corner" "is_cloth_corner" Jd ZgK ZgL ZgM ZeC ZbC ZgN,g38,FN "makes_cloth" "makes_cloth" rP ZgO ZgP ZgQ ZeD ZbD ZgR,g39,FN "thing_of" "thing_of" xQ ZgS ZgT ZgU ZeE ZbE ZgV,g40,FN "parting_line" "parting_line" xR ZgW ZgX ZgY ZeF ZbF ZgZ,g41,FN "pairs_below" "pairs_below" rQ Zg0 Zg1 Zg2 ZeG ZbG Zg3,g42,FN "triples_below" "triples_below" rT Zg4 Zg5 Zg6 ZeH ZbH Zg7,g43,FN "greatest_divisor" "greatest_divisor" Je Zg8 Zg9 Zg_ ZeI ZbI Zha,g44,FN "ratio" "ratio" xT Zhb Zhc Zhd ZeJ ZbJ Zhe,g45,FN "spread" "spread" rW Zhf Zhg Zhh ZeK ZbK Zhi,g46,FN "turned" "turned" xU Zhj Zhk Zhl ZeL ZbL Zhm,g47,FN "shares_of_three" "shares_of_three" Jf Zhn Zho Zhp ZeM ZbM Zhq,g48,FN "are_weights" "are_weights" rY Zhr Zhs Zht ZeN ZbN Zhu,g49,FN "shares_of_two" "shares_of_two" xV Zhv Zhw Zhx ZeO ZbO Zhy,g50,FN "weights_of" "weights_of" oH Zhz ZhA ZhB ZeP ZbP ZhC,g51,FN "held" "held" xW ZhD ZhE ZhF ZeQ ZbQ ZhG,g52,FN "stone_cast" "stone_cast" xX ZhH ZhI ZhJ ZeR ZbR ZhK,g53,FN "shading" "shading" xY ZhL ZhM ZhN ZeS ZbS ZhO,g54,FN "_law_flat" "_law_flat" xZ ZhP ZhQ ZhR ZeT ZbT ZhS,g55,FN "_law_corners" "_law_corners" oJ ZhT ZhU ZhV ZeU ZbU ZhW,g56,FN "_law_casts" "_law_casts" yc ZhX ZhY ZhZ ZeV ZbV Zh0,g57,FN "_law_common" "_law_common" yd Zh1 Zh2 Zh3 ZeW ZbW Zh4,g58,FN "_law_summed" "_law_summed" yg Zh5 Zh6 Zh7 ZeX ZbX Zh8,g59,FN "_law_whole" "_law_whole" yj Zh9 Zh_ Zia ZeY ZbY Zib,g60,FN "_law_in" "_law_in" oK Zic Zid Zie ZeZ ZbZ Zif,g61,FN "_law_out" "_law_out" oM Zig Zih Zii Ze0 Zb0 Zij,g62,FN "_law_stone" "_law_stone" yq Zik Zil Zim Ze1 Zb1 Zin,fa,FN "law" "law" fM Zb2 Zb3 Zb4 Zba Tf Zb5,C0,C1,C2,C3,C4,C5,C6,C7,C8,C9,tk0,tk1⟩:=⟨F0,PySem.W.mg_of X G a0,b0,F1,PySem.W.mg_of X G a1,b1,F2,PySem.W.mg_of X G a2,b2,F3,b3,F4,PySem.W.mg_of X G a4,b4,F5,PySem.W.mg_of X G a5,b5,F6,PySem.W.mg_of X G a6,b6,F7,PySem.W.mg_of X G a7,b7,F8,PySem.W.mg_of X G a8,b8,F9,PySem.W.mg_of X G a9,b9,F10,PySem.W.mg_of X G a10,b10,F11,PySem.W.mg_of X G a11,b11,F12,PySem.W.mg_of X G a12,b12,F13,b13,F14,b14,F15,b15,F16,b16,F17,b17,F18,PySem.W.mg_of X G a18,b18,F19,PySem.W.mg_of X G a19,b19,F20,PySem.W.mg_of X G a20,b20,F21,PySem.W.mg_of X G a21,b21,F22,PySem.W.mg_of X G a22,b22,F23,PySem.W.mg_of X G a23,b23,F24,PySem.W.mg_of X G a24,b24,F25,PySem.W.mg_of X G a25,b25,F26,PySem.W.mg_of X G a26,b26,F27,PySem.W.mg_of X G a27,b27,F28,PySem.W.mg_of X G a28,b28,F29,PySem.W.mg_of X G a29,b29,F30,PySem.W.mg_of X G a30,b30,F31,PySem.W.mg_of X G a31,b31,F32,PySem.W.mg_of X G a32,b32,F33,b33,F34,PySem.W.mg_of X G a34,b34,F35,PySem.W.mg_of X G a35,b35,F36,PySem.W.mg_of X G a36,b36,F37,PySem.W.mg_of X G a37,b37,F38,PySem.W.mg_of X G a38,b38,F39,PySem.W.mg_of X G a39,b39,F40,PySem.W.mg_of X G a40,b40,F41,PySem.W.mg_of X G a41,b41,F42,PySem.W.mg_of X G a42,b42,F43,PySem.W.mg_of X G a43,b43,F44,PySem.W.mg_of X G a44,b44,F45,PySem.W.mg_of X G a45,b45,F46,PySem.W.mg_of X G a46,b46,F47,PySem.W.mg_of X G a47,b47,F48,PySem.W.mg_of X G a48,b48,F49,PySem.W.mg_of X G a49,b49,F50,PySem.W.mg_of X G a50,b50,F51,PySem.W.mg_of X G a51,b51,F52,PySem.W.mg_of X G a52,b52,F53,PySem.W.mg_of X G a53,b53,F54,PySem.W.mg_of X G a54,b54,F55,PySem.W.mg_of X G a55,b55,F56,PySem.W.mg_of X G a56,b56,F57,PySem.W.mg_of X G a57,b57,F58,PySem.W.mg_of X G a58,b58,F59,PySem.W.mg_of X G a59,b59,F60,PySem.W.mg_of X G a60,b60,F61,PySem.W.mg_of X G a61,b61,F62,PySem.W.mg_of X G a62,b62,F63,PySem.W.mg_of X G a63,b63,PySem.W.mg_of X G u0,PySem.W.mg_of X G u1,PySem.W.mg_of X G u2,PySem.W.mg_of X G u3,PySem.W.mg_of X G u4,PySem.W.mg_of X G u5,PySem.W.mg_of X G u6,PySem.W.mg_of X G u7,PySem.W.mg_of X G u8,PySem.W.mg_of X G u9,q0,q1,q2,q3,q4,q5,q6,q7,q8,jg q9,oh q10,q11,q12,jg q13,oh q14,q15,q16,jC q17,jg q18,oh q19,q20,q21,jC q22,jg q23,oh q24,q25,q26,jC q27,jg q28,oh q29,q30,q31,jC q32,jg q33,oh q34,q35,q36,jC q37,jg q38,oh q39,q40,q41,q42,q43,Ie q44,Ig q45,Ih q46,Dd q47,PySem.W.mg_of X G x0,PySem.W.mg_of X G x1,PySem.W.mg_none_of X G z0,PySem.W.mg_none_of X G z1,PySem.W.mg_none_of X G z2,PySem.W.mg_none_of X G z3,PySem.W.mg_none_of X G z4,PySem.W.mg_none_of X G z5,PySem.W.mg_none_of X G z6,PySem.W.mg_none_of X G z7,PySem.W.mg_none_of X G z8,PySem.W.mg_none_of X G z9,PySem.W.mg_none_of X G Ft,PySem.W.mg_none_of X G z11,PySem.W.mg_none_of X G z12,PySem.W.mg_none_of X G z13⟩
 exact⟨PySem.W.fnOf "law" "law" (gQ fM) (cB fM) (Ċ fM) .none Zb2 Zb3 Zb4 Zba Tf Zb5,fun s v=>.of_eq rfl,fun base _ _=>⟨_,Za_ T⟩⟩
theorem slI(xs:List Int)(lo hi:Option Int):∃ys:List Int,jf (xs.map PV.int) lo hi=ys.map PV.int∧ys.length≤xs.length:=by
 refine⟨(xs.drop (HT.iy xs.length 0 lo)).take (HT.iy xs.length xs.length hi-HT.iy xs.length 0 lo),?_,by simp;omega⟩
 unfold jf
 rw[List.length_map,List.map_take,List.map_drop]
theorem Z2j(ns:List Int)(hn:ns.length≤63):pJ [.sh (.lst (ns.map .int))]=.ret (.sh (.bl true)):=by
 have k0:dg [.sh (.lst (ns.map .int)),.sh (.int 0)]=.ret (.sh (.int (ns.getD 0 0))):=Z0N ns 0
 have k1:dg [.sh (.lst (ns.map .int)),.sh (.int 1)]=.ret (.sh (.int (ns.getD 1 0))):=Z0N ns 1
 obtain⟨c0,e0⟩:∃c,ns.getD 0 0=c:=⟨_,rfl⟩
 obtain⟨c1,e1⟩:∃c,ns.getD 1 0=c:=⟨_,rfl⟩
 rw[e0] at k0
 rw[e1] at k1
 obtain⟨w,h,hs,w1,w2,h1,h2,wh⟩:=Z26 c0
 obtain⟨r,hr,hr1,hr2⟩:=Z35 c1
 obtain⟨ys,hy,hyl⟩:=slI ns (some 2) (some 7)
 obtain⟨T,hT,hTl,hTg⟩:=Z0U ⟨w1,w2⟩ ⟨h1,h2⟩ ys [] .no (by simp;omega)
 rw[List.nil_append] at hT
 have fin:=Z2Q (w:=w) (h:=h) ⟨w1,w2⟩ ⟨h1,h2⟩ wh (T:=T) (by omega) hTg hr1 hr2 (.sh (.lst (ns.map .int))) .no .no .no .no .no .no .no
 generalize ns.map PV.int=NS at *
 generalize ys.map PV.int=YS at *
 generalize T.map Z1=TR at *
 generalize c3 r=R at *
 simp[pJ,Z3J,List.replicate,k0,k1,hs,hr,XR,hy,hT,-Z33]
 simpa using fin
theorem Z3K{l:PySem.W.OpenLaw}{q:Program}{loose:List Str}{XP:(Str→Option Value)→Heap→Prop}{YP:World→Heap→Prop}{d:DefRec}{K:Params→PySem.W.Frag}(hn:l.most=some 63)(hdf:d.params.defaults=[])
 (hY:∀(w:World) (h:Heap),YP w h→(K w.params).In h)
 (F:∀(w:World) (mg:Str→Option Value) (fa:Addr) (h:Heap),(K w.params).In h→h.Ns mainGlobals mg→mg d.name=some (.ref fa)→
   ∃fd:FuncData,(∀(s:Shared) (u:Value),BindsTo s fd ⟨[u],[]⟩ [("_law_script",u)])∧∀base:Heap,(K w.params).In base→base.Ns mainGlobals mg→∃cm,Ķ l.prog w (K w.params) mg base (ų l.prog w) 8 fa fd ["_law_script"] (ż ⟨K w.params,cm⟩ 1 pJ)) :
 PySem.W.WalkO q loose XP YP l.row.toRowW d [] (fun f vs=>PySem.call f vs):=
 P.Eu (k:=8) (x:= "_law_script") (m:=pJ) hn hdf ⟨rfl,by decide,by decide⟩ hY F Z2j
end T
namespace PySem.W.Fast
def tw12321322923401928501:=0
def tw381415489483377307:=0
def tw2496427826699778080:=0
def tw14244555235150797424:=0
def tw8108390705508285299:=0
def tw17608316208022443190:=0
def tw2127170173870405109:=0
def tw8661409062151308492:=0
def tw8870518989988366770:=0
def tw7422000502930241400:=0
def tw7088993900316642646:=0
def tw13520627881739184116:=0
def tw6266940919140911359:=0
def tw4247413573153048041:=0
def tw757907220340050027:=0
def tw14691874038640889048:=0
def tw16273451435795875962:=0
def tw10377317884765771077:=0
def tw15425470562485438611:=0
def tw8566885913426175163:=0
def tw12564036417646112716:=0
def tw5501840616127117955:=0
def tw2610009677550023181:=0
def tw6992068942586357275:=0
def tw17244543657507870318:=0
def tw5658324218479239842:=0
def tw11904924798451168950:=0
def tw9426688753941953546:=0
def tw17538172429553729607:=0
def tw17250873158939299171:=0
def tw11499197747682893130:=0
def tw4813403707864545177:=0
def tw15485551197174663097:=0
def tw11512923335044360859:=0
def tw15305527601454906643:=0
def tw17457709008976323383:=0
def tw17793301826142673593:=0
def tw4446338557279957704:=0
def tw18336928541788503356:=0
def tw4956777730930822936:=0
def tw11220767499356515963:=0
def tw10701025586144999902:=0
def tw8282293917486402171:=0
def tw3522092318471411161:=0
def tw14348156439875505435:=0
def tw8754639730979034109:=0
def tw17037215487317398270:=0
def tw16455808577330876521:=0
def tw1218916221593810493:=0
def tw16862908472846642041:=0
def tw17879256840378031480:=0
def tw15343850578578412835:=0
def tw6530620731806593363:=0
def tw18081708801901017035:=0
def tw8984224665513173132:=0
def tw13754086774117503069:=0
def tw3996540930751104476:=0
def tw15128299522482220263:=0
def tw9814640110092117898:=0
def tw12396149055939732049:=0
def tw16835993513121859034:=0
def tw421754026400101255:=0
def tw12638494924270272742:=0
def tw11578456723036876082:=0
def tw14895959402723220082:=0
def tw1587566386752962061:=0
def tw7046404210663169944:=0
def tw7902175122976584114:=0
def tw16688937646811723646:=0
def tw13474400735296831314:=0
def tw12150220529669812910:=0
def tw1544642042267529814:=0
def tw6968287568173510392:=0
def tw15327958537318289490:=0
def tw5885537070692329087:=0
def tw14842462317628988611:=0
def tw14774722362509486488:=0
def tw12089211110238052569:=0
def tw612862477848443017:=0
def tw4983876866380233848:=0
def tw7028624589328100175:=0
def tw14751946022123068310:=0
def tw4305229792838240780:=0
def tw10883968681278753063:=0
def tw2953432370246023904:=0
def tw2100212359702229404:=0
def tw10825738395161345650:=0
def tw6087386650943318591:=0
def tw16007121563081163176:=0
def tw5885683223884797097:=0
def tw11609552349911844702:=0
def tw12924510148595765433:=0
def tw11346667286306668827:=0
def tw8740831386685208582:=0
def tw17303245342678527699:=0
def tw10162133162191672132:=0
def tw7699327373523072920:=0
def tw18422315253931067440:=0
def tw18256281991106553079:=0
def tw1869021956259279169:=0
def tw9149313260845831893:=0
def tw16249218756732820559:=0
def tw11873973060377915950:=0
def tw645311186370067148:=0
def tw2003743726852351600:=0
def tw3669089527487123223:=0
def tw11634124181702347694:=0
def tw16377023853598631386:=0
def tw9129136448135748548:=0
def tw11425738844401609563:=0
def tw953350424461994842:=0
def tw7902874711237573393:=0
def tw14169452808224372289:=0
def tw1515335226770704140:=0
def tw1498391242810400935:=0
def tw9523951394675902837:=0
def tw2450213629035263218:=0
def tw12434991958511284789:=0
def tw3797775460670961597:=0
def tw6143436513945225504:=0
def tw12835614143987055468:=0
def tw14259979224820543451:=0
def tw15875679495769818496:=0
def tw15320368896288349151:=0
def tw3735504820128553007:=0
def tw10087091490998576695:=0
def tw3841916931367422908:=0
def tw17200042897029139543:=0
def tw7530276687922009209:=0
def tw4358966606257393359:=0
def tw4434857605131709442:=0
def tw2973443800563688694:=0
def tw3620917061712383008:=0
def tw1439910530764676239:=0
def tw9215091657843845894:=0
def tw7528395271722565363:=0
def tw2198472226235764511:=0
def tw18146065696843276993:=0
def tw9439597656187036244:=0
def tw2445725465989659482:=0
def tw15507996816497487694:=0
def tw15546456482919732576:=0
def tw17945800204261801856:=0
def tw12013206404287487141:=0
def tw10363215065008758730:=0
def tw3066465164496647115:=0
def tw4933561428259998266:=0
def tw16237914269097017812:=0
def tw12161834812804665432:=0
def tw11027551682421646670:=0
def tw6327319145341139774:=0
def tw8140864885442799913:=0
def tw6641601779204424806:=0
def tw10237744727159047422:=0
def tw7856900215759972382:=0
def tw6216544192265590213:=0
def tw14045098946696213345:=0
def tw1344133128458589960:=0
def tw3506711806641642309:=0
def tw743856087956994761:=0
def tw14265368661026718345:=0
def tw1905824239483771543:=0
def tw16458327936521755134:=0
def tw16561121206247380385:=0
def tw13257757388745432132:=0
def tw2436055330034023709:=0
def tw14102399829539899777:=0
def tw16916509828068975849:=0
def tw4940415941662553222:=0
def tw1983396549124658793:=0
def tw11416663900430781656:=0
def tw11272673185805099555:=0
def tw16319203999126640822:=0
def tw8779000870185096976:=0
def tw13089554172866884978:=0
def tw14728410916652950945:=0
def tw13885940406178347442:=0
def tw10659783930214804054:=0
def tw17809754376776598704:=0
def tw12256986668668320479:=0
def tw17428316275527781865:=0
def tw4799363060413727004:=0
def tw15546315286467358536:=0
def tw5047105954844128180:=0
def tw11596964408042999397:=0
def tw882062570225420334:=0
def tw17974389946325254334:=0
def tw9490000336299010681:=0
def tw12456092680812597506:=0
def tw5151665724632885635:=0
def tw15654287960143806925:=0
def tw9414389753798332089:=0
def tw14432911203236079618:=0
def tw8863466954635521646:=0
def tw12629877827210948072:=0
def tw8849036108530109802:=0
def tw5923830953223811878:=0
def tw18215672675544712012:=0
def tw8316278931925805415:=0
def tw8617029454433381574:=0
def tw212987096017374733:=0
def tw9722738096011065481:=0
def tw6098422075407585767:=0
def tw10775292503004318994:=0
def tw2733454652495053929:=0
def tw1004613182935596042:=0
def tw15264685291775748846:=0
def tw15382211932169281325:=0
def tw5885106510827360292:=0
def tw1607999878352971198:=0
def tw7903665328981908233:=0
def tw13664185116070376537:=0
def tw18131620897870293465:=0
def tw1545257375208146440:=0
def tw963198352406107664:=0
def tw1028807005956313640:=0
def tw14811041136139614224:=0
def tw590810196270296347:=0
def tw11798793512763641970:=0
def tw3652971178747389291:=0
def tw9634792548321430380:=0
def tw3548805481598701062:=0
def tw2286243022870487716:=0
def tw13459582479577643627:=0
def tw3895833034260095541:=0
def tw2589685080779677748:=0
def tw8686397862228127986:=0
def tw8097245100869303531:=0
def tw959821210027176867:=0
def tw2859046325223730446:=0
def tw17435811086804917825:=0
def tw12943188647151912647:=0
def tw2871523730235211422:=0
def tw15023174480744608174:=0
def tw2926670881421379539:=0
def tw18259785525338209716:=0
def tw13145131739708582270:=0
def tw3543395099817170449:=0
def tw3699280543907985525:=0
def tw16635022340675251371:=0
def tw12584955495720280576:=0
def tw7238503254673454773:=0
def tw15027679922197177446:=0
def tw5608896353822011112:=0
def tw11701153660599077035:=0
def tw12814958002339995019:=0
def tw720980272252467298:=0
def tw13716565624848620570:=0
def tw16992664564108191665:=0
def tw1054727451957838892:=0
def tw17853317254376913301:=0
def tw16729894324221810518:=0
def tw598934124838312483:=0
def tw29501445464125446:=0
def tw2331142032143091208:=0
def tw18287762188271733380:=0
def tw1116420810559539941:=0
def tw14425191115701716229:=0
def tw1743488508182675283:=0
def tw13962056649270655836:=0
def tw8037644779432020421:=0
def tw17096333820250083535:=0
def tw12097810862493760804:=0
def tw14466065573946460383:=0
def tw2123198943194616792:=0
def tw14381193005366495256:=0
def tw13886208186487283578:=0
def tw5228092447423755936:=0
def tw5259921134774019268:=0
def tw12806584420992947092:=0
def tw3623860378428476999:=0
def tw1537951892801159420:=0
def tw7548458884253641632:=0
def tw6092690100975610491:=0
def tw9865748414751643955:=0
def tw13257511010756052990:=0
def tw12130469406509494884:=0
def tw10448050513134006629:=0
def tw10980992090187840221:=0
def tw16404883639837471158:=0
def tw15407466743424703966:=0
def tw1109106601928217943:=0
def tw16690415584316280884:=0
def tw4487317092098418689:=0
def tw5135887325972645476:=0
def tw17787053953046976920:=0
def tw16656712673569807690:=0
def tw12140116618115723197:=0
def tw7078517850601865579:=0
def tw13161125786568575402:=0
def tw289526248049410535:=0
def tw11910086236694771817:=0
def tw2060412094463866346:=0
def tw491068126423163206:=0
def tw6330113966258227563:=0
def tw15344441184579231159:=0
def tw7925181820302481127:=0
def tw1840827341507064891:=0
def tw1205244029474777665:=0
def tw10804067008136544582:=0
def tw16012284749018026312:=0
def tw11645294870043954781:=0
def tw15704711549961733832:=0
def tw12662704979104426632:=0
def tw13391145474780793290:=0
def tw13093124845646035946:=0
def tw2414407155674905756:=0
def tw14541750865318298834:=0
def tw8367003293877297474:=0
def tw153166424113269683:=0
def tw12207248325313865110:=0
def tw18176486195738421002:=0
def tw10734778437294360751:=0
def tw11649241850572066694:=0
def tw15830135574832427274:=0
def tw5293320127189332094:=0
def tw10077791749624927481:=0
def tw4872577448683387440:=0
def tw16114125811336535043:=0
def tw11532959475578439514:=0
def tw8554993249819542983:=0
def tw8941869075373740240:=0
def tw8352345823758819408:=0
def tw916612877371565934:=0
def tw1885476279989517040:=0
def tw8807001940671742867:=0
def tw8657453172476834416:=0
def tw1716715461582306671:=0
def tw16911084832864202176:=0
def tw1270557886196605170:=0
def tw14424022389624459566:=0
def tw1536865487018606885:=0
def tw8320589938484372358:=0
def tw4650645596734946783:=0
def tw14356305152771041560:=0
def tw370087576687194328:=0
def tw15816507541612426983:=0
def tw12857144556120789473:=0
def tw6695965132411128379:=0
def tw17228167268258249480:=0
def tw2942269297749068402:=0
def tw13704815971690633779:=0
def tw6312323206871230291:=0
def tw7221281619668505333:=0
def tw2061876022161656341:=0
def tw11684615765612340399:=0
def tw2340170333023134849:=0
def tw11276727020184117267:=0
def tw5933676125212644507:=0
def tw16358779978438635527:=0
def tw16576758760655873553:=0
def tw14695215072290952244:=0
def tw12448112821729090736:=0
def tw3357675780775047619:=0
def tw16551920915924998844:=0
def tw6668507283489541808:=0
def tw18384342555973323639:=0
def tw4317775773887503142:=0
def tw4597698201290582727:=0
def tw17901184661207585735:=0
def tw14430344456592454357:=0
def tw3631104249750484813:=0
def tw4998450659869309833:=0
def tw5643003365140769157:=0
def tw5761767060220789791:=0
def tw2756872722088608396:=0
def tw10702922701075817112:=0
def tw6417958890510888606:=0
def tw10600836364546208280:=0
def tw2806919856101897723:=0
def tw77977745296100572:=0
def tw532066536634518098:=0
def tw16233555032183123659:=0
def tw17224257453462705897:=0
def tw7488621914650615341:=0
def tw8319258602620974267:=0
def tw1508345031679294978:=0
def tw4660311069228467823:=0
def tw13466227305608659382:=0
def tw18082191137972653755:=0
def tw12376693015729273332:=0
def tw13547048920020630555:=0
def tw11304095045441785757:=0
def tw15114403983455482703:=0
def tw9068670533157963982:=0
def tw11710743455508885618:=0
def tw13581805773652954249:=0
def tw11918785506426611544:=0
def tw7044769442528508573:=0
def tw12254306557118030691:=0
def tw16169744128002283059:=0
def tw6881408017661738763:=0
def tw9763346083810189010:=0
def tw14866981092802857683:=0
def tw11386135618419540118:=0
def tw11609222363939498039:=0
def tw17107059443127683230:=0
def tw9075398154645548523:=0
def tw16635628381441662853:=0
def tw15197472594123932608:=0
def tw14182570558327326667:=0
def tw9716375990654834356:=0
def tw7308600223023571494:=0
def tw16113279718246077161:=0
def tw2188647994149737835:=0
def tw354737326984169220:=0
def tw7110689589622210169:=0
def tw18302886734198954166:=0
def tw8742946731596846798:=0
def tw10361709529217334167:=0
def tw6508310095046124733:=0
def tw18183779676854215380:=0
def tw3993915324794459841:=0
def tw7738203468506691461:=0
def tw4698046258985338364:=0
def tw16523738207686841529:=0
def tw16905963939711713401:=0
def tw16890220761018362388:=0
def tw11839040318375563718:=0
def tw1107756405382866172:=0
def tw3860307744450653951:=0
def tw15166793363485889304:=0
def tw13092629984259322010:=0
def tw15851229621790190736:=0
def tw7884500336513549287:=0
def tw8584384926365955837:=0
def tw5948633555528647524:=0
def tw495761854726422008:=0
def tw586089356355799528:=0
def tw9619471333824660375:=0
def tw4186465163839811453:=0
def tw17974269666521401771:=0
def tw7587131526858531597:=0
def tw4802214997841538894:=0
def tw5221201618938745304:=0
def tw16108123723947987029:=0
def tw9630473883223359133:=0
def tw16673956717851709123:=0
def tw2669805666772742893:=0
def tw11828082986687636619:=0
def tw7480747250035581722:=0
def tw3122158615907799232:=0
def tw16239166140267458600:=0
def tw12588763261693797412:=0
def tw6457834835817375029:=0
def tw17963948037383068038:=0
def tw4512643721411901378:=0
def tw11818373876635067729:=0
def tw18362182071769417452:=0
def tw10135726330841789745:=0
def tw15888510288276224616:=0
def tw10779668237857736961:=0
def tw7362047523390522599:=0
def tw1106796085770030720:=0
def tw2527067860428836225:=0
def tw3240675842903479014:=0
def tw2525583418630218034:=0
def tw6407138041299069614:=0
def tw3708545994681562051:=0
def tw13862850860181466909:=0
def tw17398318511700027999:=0
def tw10132913864625037727:=0
def tw3926123120371000695:=0
def tw10133080103759905062:=0
def tw12039734770419975346:=0
def tw7822999243468601165:=0
def tw2004553612820272339:=0
def tw884204194055206945:=0
def tw5713405288500073258:=0
def tw12228184916126598950:=0
def tw7745732418022950734:=0
def tw14345304709032397796:=0
def tw6268748640222041807:=0
def tw16338560969612372403:=0
def tw1165834218235612228:=0
def tw9596827102726728546:=0
def tw1415559247242051102:=0
def tw776582814970824797:=0
def tw7293875870033083749:=0
def tw13067525094944654397:=0
def tw7357468887401800565:=0
def tw4423499678413127740:=0
def tw6473876489000503763:=0
def tw15672029022230690111:=0
def tw15745582288428047097:=0
def tw6787714751160527003:=0
def tw2588010069766701698:=0
def tw10594397483290073815:=0
def tw17713698169468073276:=0
def tw13255179838884203983:=0
def tw9323215422307562491:=0
def tw16261403692585617745:=0
def tw2344121338990559535:=0
def tw13011514216937238246:=0
def tw12874882526166059384:=0
def tw8225383386797070240:=0
def tw1015047567223108246:=0
def tw871998873545854954:=0
def tw1582800540606798433:=0
def tw10464944704803841775:=0
def tw3960807057721077303:=0
def tw13473796172527889079:=0
def tw1145156466568664077:=0
def tw8450310173271259295:=0
def tw4223215041681979099:=0
def tw14518258567888989322:=0
def tw4596853550107198167:=0
def tw1813743493075664742:=0
def tw13562484957032936941:=0
def tw1109363735574518206:=0
def tw5306832299360301473:=0
def tw9374259451892865298:=0
def tw8851414730338439645:=0
def tw16153456487852021470:=0
def tw11977890123696912061:=0
def tw13394330514663986202:=0
def tw8973734482609693446:=0
def tw9283890576296878540:=0
def tw18265513816057108528:=0
def tw4497432240362106810:=0
def tw11296251372935009473:=0
def tw14389793420643087653:=0
def tw7409306662908909330:=0
def tw15483376082766817504:=0
def tw4838090603166899749:=0
def tw15231891492574679266:=0
def tw14950084925821843774:=0
def tw4749469940363116628:=0
def tw18183776462779751099:=0
def tw18345964028785674150:=0
def tw5821632135249429868:=0
def tw9804487548060404821:=0
def tw9774750888110723411:=0
end PySem.W.Fast
open PySem PySem.W PyProof.Rows
set_option maxRecDepth 100000 in
set_option maxHeartbeats 0 in
theorem PySem.Challenge.cw_shadowpost_k36_whole_dark_by_weights_holds : PySem.Challenge.rw_shadowpost_k36_whole_dark_by_weights.Holds := by
 w_on;o_law;k_head;(case hw=>w_witness2)
 k_fill
 refine T.Z3K (l:=PySem.Challenge.rw_shadowpost_k36_whole_dark_by_weights) rfl rfl (fun w h Y=>PySem.W.kIn_of Y) ?F
 case F=>
  intro w mg fa h KX G hmg
  refine' T.Z3g KX G hmg ?u0 ?u1 ?u2 ?u3 ?u4 ?u5 ?u6 ?u7 ?u8 ?u9 ?a0 ?l0 ?c0 ?k0 ?a1 ?l1 ?c1 ?k1 ?a2 ?l2 ?c2 ?k2 ?a3 ?l3 ?c3 ?k3 ?a4 ?l4 ?c4 ?k4 ?a5 ?l5 ?c5 ?k5 ?a6 ?l6 ?c6 ?k6 ?a7 ?l7 ?c7 ?k7 ?a8 ?l8 ?c8 ?k8 ?a9 ?l9 ?c9 ?k9 ?a10 ?l10 ?c10 ?k10 ?a11 ?l11 ?c11 ?k11 ?a12 ?l12 ?c12 ?k12 ?a13 ?l13 ?c13 ?k13 ?a14 ?l14 ?c14 ?k14 ?a15 ?l15 ?c15 ?k15 ?a16 ?l16 ?c16 ?k16 ?a17 ?l17 ?c17 ?k17 ?a18 ?l18 ?c18 ?k18 ?a19 ?l19 ?c19 ?k19 ?a20 ?l20 ?c20 ?k20 ?a21 ?l21 ?c21 ?k21 ?a22 ?l22 ?c22 ?k22 ?a23 ?l23 ?c23 ?k23 ?a24 ?l24 ?c24 ?k24 ?a25 ?l25 ?c25 ?k25 ?a26 ?l26 ?c26 ?k26 ?a27 ?l27 ?c27 ?k27 ?a28 ?l28 ?c28 ?k28 ?a29 ?l29 ?c29 ?k29 ?a30 ?l30 ?c30 ?k30 ?a31 ?l31 ?c31 ?k31 ?a32 ?l32 ?c32 ?k32 ?a33 ?l33 ?c33 ?k33 ?a34 ?l34 ?c34 ?k34 ?a35 ?l35 ?c35 ?k35 ?a36 ?l36 ?c36 ?k36 ?a37 ?l37 ?c37 ?k37 ?a38 ?l38 ?c38 ?k38 ?a39 ?l39 ?c39 ?k39 ?a40 ?l40 ?c40 ?k40 ?a41 ?l41 ?c41 ?k41 ?a42 ?l42 ?c42 ?k42 ?a43 ?l43 ?c43 ?k43 ?a44 ?l44 ?c44 ?k44 ?a45 ?l45 ?c45 ?k45 ?a46 ?l46 ?c46 ?k46 ?a47 ?l47 ?c47 ?k47 ?a48 ?l48 ?c48 ?k48 ?a49 ?l49 ?c49 ?k49 ?a50 ?l50 ?c50 ?k50 ?a51 ?l51 ?c51 ?k51 ?a52 ?l52 ?c52 ?k52 ?a53 ?l53 ?c53 ?k53 ?a54 ?l54 ?c54 ?k54 ?a55 ?l55 ?c55 ?k55 ?a56 ?l56 ?c56 ?k56 ?a57 ?l57 ?c57 ?k57 ?a58 ?l58 ?c58 ?k58 ?a59 ?l59 ?c59 ?k59 ?a60 ?l60 ?c60 ?k60 ?a61 ?l61 ?c61 ?k61 ?a62 ?l62 ?c62 ?k62 ?a63 ?l63 ?c63 ?k63 ?x0 ?x1 ?z0 ?z1 ?z2 ?z3 ?z4 ?z5 ?z6 ?z7 ?z8 ?z9 ?Ft ?z11 ?z12 ?z13 ?q0 ?q1 ?q2 ?q3 ?q4 ?q5 ?q6 ?q7 ?q8 ?q9 ?q10 ?q11 ?q12 ?q13 ?q14 ?q15 ?q16 ?q17 ?q18 ?q19 ?q20 ?q21 ?q22 ?q23 ?q24 ?q25 ?q26 ?q27 ?q28 ?q29 ?q30 ?q31 ?q32 ?q33 ?q34 ?q35 ?q36 ?q37 ?q38 ?q39 ?q40 ?q41 ?q42 ?q43 ?q44 ?q45 ?q46 ?q47
  (case u0=>k_is)
  (case u1=>k_is)
  (case u2=>k_is)
  (case u3=>k_is)
  (case u4=>k_is)
  (case u5=>k_is)
  (case u6=>k_is)
  (case u7=>k_is)
  (case u8=>k_is)
  (case u9=>k_is)
  (case a0=>k_is)
  (case l0=>unfold T.LK T.FN;k_is)
  (case c0=>k_is)
  (case k0=>k_is)
  (case a1=>k_is)
  (case l1=>unfold T.LK T.FN;k_is)
  (case c1=>k_is)
  (case k1=>k_is)
  (case a2=>k_is)
  (case l2=>unfold T.LK T.FN;k_is)
  (case c2=>k_is)
  (case k2=>k_is)
  (case a3=>k_is)
  (case l3=>unfold T.LK T.FN;k_is)
  (case c3=>k_is)
  (case k3=>k_is)
  (case a4=>k_is)
  (case l4=>unfold T.LK T.FN;k_is)
  (case c4=>k_is)
  (case k4=>k_is)
  (case a5=>k_is)
  (case l5=>unfold T.LK T.FN;k_is)
  (case c5=>k_is)
  (case k5=>k_is)
  (case a6=>k_is)
  (case l6=>unfold T.LK T.FN;k_is)
  (case c6=>k_is)
  (case k6=>k_is)
  (case a7=>k_is)
  (case l7=>unfold T.LK T.FN;k_is)
  (case c7=>k_is)
  (case k7=>k_is)
  (case a8=>k_is)
  (case l8=>unfold T.LK T.FN;k_is)
  (case c8=>k_is)
  (case k8=>k_is)
  (case a9=>k_is)
  (case l9=>unfold T.LK T.FN;k_is)
  (case c9=>k_is)
  (case k9=>k_is)
  (case a10=>k_is)
  (case l10=>unfold T.LK T.FN;k_is)
  (case c10=>k_is)
  (case k10=>k_is)
  (case a11=>k_is)
  (case l11=>unfold T.LK T.FN;k_is)
  (case c11=>k_is)
  (case k11=>k_is)
  (case a12=>k_is)
  (case l12=>unfold T.LK T.FN;k_is)
  (case c12=>k_is)
  (case k12=>k_is)
  (case a13=>k_is)
  (case l13=>unfold T.LK T.FN;k_is)
  (case c13=>k_is)
  (case k13=>k_is)
  (case a14=>k_is)
  (case l14=>unfold T.LK T.FN;k_is)
  (case c14=>k_is)
  (case k14=>k_is)
  (case a15=>k_is)
  (case l15=>unfold T.LK T.FN;k_is)
  (case c15=>k_is)
  (case k15=>k_is)
  (case a16=>k_is)
  (case l16=>unfold T.LK T.FN;k_is)
  (case c16=>k_is)
  (case k16=>k_is)
  (case a17=>k_is)
  (case l17=>unfold T.LK T.FN;k_is)
  (case c17=>k_is)
  (case k17=>k_is)
  (case a18=>k_is)
  (case l18=>unfold T.LK T.FN;k_is)
  (case c18=>k_is)
  (case k18=>k_is)
  (case a19=>k_is)
  (case l19=>unfold T.LK T.FN;k_is)
  (case c19=>k_is)
  (case k19=>k_is)
  (case a20=>k_is)
  (case l20=>unfold T.LK T.FN;k_is)
  (case c20=>k_is)
  (case k20=>k_is)
  (case a21=>k_is)
  (case l21=>unfold T.LK T.FN;k_is)
  (case c21=>k_is)
  (case k21=>k_is)
  (case a22=>k_is)
  (case l22=>unfold T.LK T.FN;k_is)
  (case c22=>k_is)
  (case k22=>k_is)
  (case a23=>k_is)
  (case l23=>unfold T.LK T.FN;k_is)
  (case c23=>k_is)
  (case k23=>k_is)
  (case a24=>k_is)
  (case l24=>unfold T.LK T.FN;k_is)
  (case c24=>k_is)
  (case k24=>k_is)
  (case a25=>k_is)
  (case l25=>unfold T.LK T.FN;k_is)
  (case c25=>k_is)
  (case k25=>k_is)
  (case a26=>k_is)
  (case l26=>unfold T.LK T.FN;k_is)
  (case c26=>k_is)
  (case k26=>k_is)
  (case a27=>k_is)
  (case l27=>unfold T.LK T.FN;k_is)
  (case c27=>k_is)
  (case k27=>k_is)
  (case a28=>k_is)
  (case l28=>unfold T.LK T.FN;k_is)
  (case c28=>k_is)
  (case k28=>k_is)
  (case a29=>k_is)
  (case l29=>unfold T.LK T.FN;k_is)
  (case c29=>k_is)
  (case k29=>k_is)
  (case a30=>k_is)
  (case l30=>unfold T.LK T.FN;k_is)
  (case c30=>k_is)
  (case k30=>k_is)
  (case a31=>k_is)
  (case l31=>unfold T.LK T.FN;k_is)
  (case c31=>k_is)
  (case k31=>k_is)
  (case a32=>k_is)
  (case l32=>unfold T.LK T.FN;k_is)
  (case c32=>k_is)
  (case k32=>k_is)
  (case a33=>k_is)
  (case l33=>unfold T.LK T.FN;k_is)
  (case c33=>k_is)
  (case k33=>k_is)
  (case a34=>k_is)
  (case l34=>unfold T.LK T.FN;k_is)
  (case c34=>k_is)
  (case k34=>k_is)
  (case a35=>k_is)
  (case l35=>unfold T.LK T.FN;k_is)
  (case c35=>k_is)
  (case k35=>k_is)
  (case a36=>k_is)
  (case l36=>unfold T.LK T.FN;k_is)
  (case c36=>k_is)
  (case k36=>k_is)
  (case a37=>k_is)
  (case l37=>unfold T.LK T.FN;k_is)
  (case c37=>k_is)
  (case k37=>k_is)
  (case a38=>k_is)
  (case l38=>unfold T.LK T.FN;k_is)
  (case c38=>k_is)
  (case k38=>k_is)
  (case a39=>k_is)
  (case l39=>unfold T.LK T.FN;k_is)
  (case c39=>k_is)
  (case k39=>k_is)
  (case a40=>k_is)
  (case l40=>unfold T.LK T.FN;k_is)
  (case c40=>k_is)
  (case k40=>k_is)
  (case a41=>k_is)
  (case l41=>unfold T.LK T.FN;k_is)
  (case c41=>k_is)
  (case k41=>k_is)
  (case a42=>k_is)
  (case l42=>unfold T.LK T.FN;k_is)
  (case c42=>k_is)
  (case k42=>k_is)
  (case a43=>k_is)
  (case l43=>unfold T.LK T.FN;k_is)
  (case c43=>k_is)
  (case k43=>k_is)
  (case a44=>k_is)
  (case l44=>unfold T.LK T.FN;k_is)
  (case c44=>k_is)
  (case k44=>k_is)
  (case a45=>k_is)
  (case l45=>unfold T.LK T.FN;k_is)
  (case c45=>k_is)
  (case k45=>k_is)
  (case a46=>k_is)
  (case l46=>unfold T.LK T.FN;k_is)
  (case c46=>k_is)
  (case k46=>k_is)
  (case a47=>k_is)
  (case l47=>unfold T.LK T.FN;k_is)
  (case c47=>k_is)
  (case k47=>k_is)
  (case a48=>k_is)
  (case l48=>unfold T.LK T.FN;k_is)
  (case c48=>k_is)
  (case k48=>k_is)
  (case a49=>k_is)
  (case l49=>unfold T.LK T.FN;k_is)
  (case c49=>k_is)
  (case k49=>k_is)
  (case a50=>k_is)
  (case l50=>unfold T.LK T.FN;k_is)
  (case c50=>k_is)
  (case k50=>k_is)
  (case a51=>k_is)
  (case l51=>unfold T.LK T.FN;k_is)
  (case c51=>k_is)
  (case k51=>k_is)
  (case a52=>k_is)
  (case l52=>unfold T.LK T.FN;k_is)
  (case c52=>k_is)
  (case k52=>k_is)
  (case a53=>k_is)
  (case l53=>unfold T.LK T.FN;k_is)
  (case c53=>k_is)
  (case k53=>k_is)
  (case a54=>k_is)
  (case l54=>unfold T.LK T.FN;k_is)
  (case c54=>k_is)
  (case k54=>k_is)
  (case a55=>k_is)
  (case l55=>unfold T.LK T.FN;k_is)
  (case c55=>k_is)
  (case k55=>k_is)
  (case a56=>k_is)
  (case l56=>unfold T.LK T.FN;k_is)
  (case c56=>k_is)
  (case k56=>k_is)
  (case a57=>k_is)
  (case l57=>unfold T.LK T.FN;k_is)
  (case c57=>k_is)
  (case k57=>k_is)
  (case a58=>k_is)
  (case l58=>unfold T.LK T.FN;k_is)
  (case c58=>k_is)
  (case k58=>k_is)
  (case a59=>k_is)
  (case l59=>unfold T.LK T.FN;k_is)
  (case c59=>k_is)
  (case k59=>k_is)
  (case a60=>k_is)
  (case l60=>unfold T.LK T.FN;k_is)
  (case c60=>k_is)
  (case k60=>k_is)
  (case a61=>k_is)
  (case l61=>unfold T.LK T.FN;k_is)
  (case c61=>k_is)
  (case k61=>k_is)
  (case a62=>k_is)
  (case l62=>unfold T.LK T.FN;k_is)
  (case c62=>k_is)
  (case k62=>k_is)
  (case a63=>k_is)
  (case l63=>unfold T.LK T.FN;k_is)
  (case c63=>k_is)
  (case k63=>k_is)
  (case x0=>k_is)
  (case x1=>k_is)
  (case z0=>k_is)
  (case z1=>k_is)
  (case z2=>k_is)
  (case z3=>k_is)
  (case z4=>k_is)
  (case z5=>k_is)
  (case z6=>k_is)
  (case z7=>k_is)
  (case z8=>k_is)
  (case z9=>k_is)
  (case Ft=>k_is)
  (case z11=>k_is)
  (case z12=>k_is)
  (case z13=>k_is)
  (case q0=>kernel_rfl)
  (case q1=>kernel_rfl)
  (case q2=>kernel_rfl)
  (case q3=>kernel_rfl)
  (case q4=>kernel_rfl)
  (case q5=>kernel_rfl)
  (case q6=>kernel_rfl)
  (case q7=>kernel_rfl)
  (case q8=>kernel_rfl)
  (case q9=>kernel_rfl)
  (case q10=>kernel_rfl)
  (case q11=>kernel_rfl)
  (case q12=>kernel_rfl)
  (case q13=>kernel_rfl)
  (case q14=>kernel_rfl)
  (case q15=>kernel_rfl)
  (case q16=>kernel_rfl)
  (case q17=>kernel_rfl)
  (case q18=>kernel_rfl)
  (case q19=>kernel_rfl)
  (case q20=>kernel_rfl)
  (case q21=>kernel_rfl)
  (case q22=>kernel_rfl)
  (case q23=>kernel_rfl)
  (case q24=>kernel_rfl)
  (case q25=>kernel_rfl)
  (case q26=>kernel_rfl)
  (case q27=>kernel_rfl)
  (case q28=>kernel_rfl)
  (case q29=>kernel_rfl)
  (case q30=>kernel_rfl)
  (case q31=>kernel_rfl)
  (case q32=>kernel_rfl)
  (case q33=>kernel_rfl)
  (case q34=>kernel_rfl)
  (case q35=>kernel_rfl)
  (case q36=>kernel_rfl)
  (case q37=>kernel_rfl)
  (case q38=>kernel_rfl)
  (case q39=>kernel_rfl)
  (case q40=>kernel_rfl)
  (case q41=>kernel_rfl)
  (case q42=>kernel_rfl)
  (case q43=>kernel_rfl)
  (case q44=>kernel_rfl)
  (case q45=>kernel_rfl)
  (case q46=>kernel_rfl)
  (case q47=>kernel_rfl)
