import PyProof.Rows.All
import Wide.All
import OpenK.AllK
import Wide.FinOn
import Lean
import PyProof.EqAt
import PyProof.EqKinds
import PyProof.TupleCall
import PySem.Challenge.RW_shadowpost_k27_shading_walked
set_option Elab.async false
set_option linter.all false
set_option maxRecDepth 100000
set_option maxHeartbeats 4000000
namespace L2
open PySem PySem.Spec PyProof.Rows
abbrev Key:=Sum Int Str
def O_:Key→Value→Bool
 | .inl k,v=>Value.isInt k v
 | .inr x,v=>Value.isStrOf x v
def Zgx(w:World):Key→Int
 | .inl k=>hashInt k
 | .inr x=>hashStr w x
theorem Ť:∀{k:Key} {v:Value},O_ k v=true→(∃i t,k=Sum.inl i∧v=Value.int i t)∨(∃x t,k=Sum.inr x∧v=Value.str x t)
 | .inl i,v,h=>by
   obtain⟨t,e⟩:=Value.isInt_shape (k:=i) (v:=v) h
   exact .inl ⟨i,t,rfl,e⟩
 | .inr x,v,h=>by
   obtain⟨t,e⟩:=Value.isStrOf_shape (x:=x) (v:=v) h
   exact .inr ⟨x,t,rfl,e⟩
theorem Rt(a b:Int):decide ((Sum.inl a:Key)=Sum.inl b)=(a== b):=by
 by_cases e:a=b
 ·subst e;simp
 ·have h:¬(Sum.inl a:Key)=Sum.inl b:=fun q=>e (Sum.inl.inj q)
  rw[decide_eq_false h]
  exact(beq_eq_false_iff_ne.mpr e).symm
theorem Ru(a b:Str):decide ((Sum.inr a:Key)=Sum.inr b)=decide (a=b):=by
 by_cases e:a=b
 ·subst e;simp
 ·have h:¬(Sum.inr a:Key)=Sum.inr b:=fun q=>e (Sum.inr.inj q)
  rw[decide_eq_false h,decide_eq_false e]
theorem Rv(a:Int)(b:Str):decide ((Sum.inl a:Key)=Sum.inr b)=false:=decide_eq_false (fun q=>nomatch q)
theorem Rw(a:Str)(b:Int):decide ((Sum.inr a:Key)=Sum.inl b)=false:=decide_eq_false (fun q=>nomatch q)
def qF(prog:Program)(w:World):PySem.KeyKind prog w Key where
 is:=O_
 hash:=Zgx w
 inj:=fun v a b ha hb=>by
  rcases Ť ha with⟨i,t,rfl,rfl⟩|⟨x,t,rfl,rfl⟩
  ·rcases Ť hb with⟨j,u,rfl,e⟩|⟨y,u,rfl,e⟩
   ·injection e with e1 _;rw[e1]
   ·exact nomatch e
  ·rcases Ť hb with⟨j,u,rfl,e⟩|⟨y,u,rfl,e⟩
   ·exact nomatch e
   ·injection e with e1 _;rw[e1]
 byValue:=fun k v h=>by
  rcases Ť h with⟨i,t,rfl,rfl⟩|⟨x,t,rfl,rfl⟩<;>rfl
 pyHash:=fun hv h=>by
  rcases Ť hv with⟨i,t,rfl,rfl⟩|⟨x,t,rfl,rfl⟩
  ·exact wpAny_pyHash_int h
  ·exact wpAny_pyHash_str h
 eqBool:=fun hu hv h=>by
  rcases Ť hu with⟨i,t,rfl,rfl⟩|⟨x,t,rfl,rfl⟩
  ·rcases Ť hv with⟨j,u,rfl,rfl⟩|⟨y,u,rfl,rfl⟩
   ·rw[Rt] at h;exact wpAny_eqBool_int h
   ·rw[Rv] at h;exact SeqAt.EqAt.int_str i t y u _ _ _ _ h
  ·rcases Ť hv with⟨j,u,rfl,rfl⟩|⟨y,u,rfl,rfl⟩
   ·rw[Rw] at h;exact SeqAt.EqAt.str_int x t j u _ _ _ _ h
   ·rw[Ru] at h;exact wpAny_eqBool_str h
 «strs» := fun k x t v h=>by
   rcases Ť h with⟨i,u,rfl,e⟩|⟨y,u,rfl,e⟩
   ·exact nomatch e
   ·injection e with e1 _
    subst e1
    cases v<;>rfl
end L2
namespace L2
open PySem PySem.Spec PyProof.Rows
inductive V where
 |non|bl (b:Bool)|int (i:Int)|str (x:Str)|Pa (b:Array UInt8)|flt (b:UInt64)|ref (a:Addr)|ty (n:String)
 deriving DecidableEq
def RelV:V→Value→Prop
 | .non,u=>u=Value.none
 | .bl b,u=>u=Value.bool b
 | .int i,u=>∃t,u=Value.int i t
 | .str x,u=>∃t,u=Value.str x t
 | .Pa b,u=>∃t,u=Value.bytes b t
 | .flt b,u=>∃t,u=Value.float b t
 | .ref a,u=>u=Value.ref a
 | .ty n,u=>u=Value.type n
abbrev Vals:List V→List Value→Prop:=Paired RelV
theorem Vals.length{xs:List V}{us:List Value}(r:Vals xs us):xs.length=us.length:=Paired.length r
theorem Vals.get:∀{xs:List V} {us:List Value} {i:Nat} {x:V},Vals xs us→xs[i]?=some x→∃u,us[i]?=some u∧RelV x u
 |_,_,_,_,.nil,e=>by simp at e
 |_,_,0,_,.cons r _,e=>by simp at e;subst e;exact⟨_,rfl,r⟩
 |_,_,i+1,x,.cons _ t,e=>by
  obtain⟨u,h1,h2⟩:=Vals.get (i:=i) (x:=x) t (by simpa using e)
  exact⟨u,by simpa using h1,h2⟩
theorem Vals.set{x:V}{u:Value}(r:RelV x u):∀{xs:List V} {us:List Value} (i:Nat),Vals xs us→Vals (xs.set i x) (us.set i u)
 |_,_,_,.nil=>.nil
 |_,_,0,.cons _ t=>.cons r t
 |_,_,i+1,.cons q t=>.cons q (Vals.set r i t)
theorem Vals.append:∀{xs ys:List V} {us ws:List Value},Vals xs us→Vals ys ws→Vals (xs++ys) (us++ws)
 |_,_,_,_,.nil,s=>s
 |_,_,_,_,.cons r t,s=>.cons r (Vals.append t s)
theorem Vals.take:∀{xs:List V} {us:List Value} (n:Nat),Vals xs us→Vals (xs.take n) (us.take n)
 |_,_,0,_=>.nil
 |_,_,_+1,.nil=>.nil
 |_,_,n+1,.cons r t=>.cons r (Vals.take n t)
theorem Vals.drop:∀{xs:List V} {us:List Value} (n:Nat),Vals xs us→Vals (xs.drop n) (us.drop n)
 |_,_,0,r=>r
 |_,_,_+1,.nil=>.nil
 |_,_,n+1,.cons _ t=>Vals.drop n t
def oF:Option V→Option Value→Prop
 |some v,some u=>RelV v u
 |none,none=>True
 |_,_=>False
def KV{κ:Type}:List (κ×V)→List (κ×Value)→Prop:=Paired fun(p:κ×V) (q:κ×Value)=>p.1=q.1∧RelV p.2 q.2
def kV:Key→V
 | .inl i=>.int i
 | .inr x=>.str x
inductive HO where
 /-- a list -/
 |lst (xs:List V)
 /-- a tuple (never changes) -/
 |tup (xs:List V)
 /-- a dict whose keys are ints and texts;one whose keys are tuples of ints and texts (the empty one is both) -/
 |dK (kvs:List (Key×V))|dT (kvs:List (List Key×V))
 /-- a set of ints:its members,its size -/
 |set (S:Int→Bool) (n:Nat)
 /-- an instance of the class at C,its dict at dx,its attributes -/
 |ins (C dx:Addr) (fs:List (Str×V))
 /-- the dict of the instance at x -/
 |own (x:Addr)
 /-- the dict of an exception -/
 |xd (fs:List (Str×V))
 /-- a bound method,f of x -/
 |met (f x:Addr)
 /-- a range object lo,lo+1,.. below hi -/
 |rng (lo hi:Int)
 /-- a thing that is known to the object (the script;a dict while a loop walks it):read,never written while it is so -/
 |cQ (o:Obj) (u:HO)
 /-- a code object's table -/
 |oh (ps:Array Value)
 /-- any other thing,by what is true of its one object (a def of one's own:Zk0 a S n:=HO.ext fun h=>..) -/
 |ext (φ:Heap→Prop)
abbrev Hp:=Addr→Option HO
def upd(H:Hp)(a:Addr)(o:HO):Hp:=fun b=>if b=a then some o else H b
theorem Ĳ{H:Hp}{a:Addr}{o:HO}:upd H a o a=some o:=by unfold upd;rw[if_pos rfl]
theorem Į{H:Hp}{a b:Addr}{o:HO}(h:b≠a):upd H a o b=H b:=by unfold upd;rw[if_neg h]
theorem ő{H:Hp}{a b:Addr}{o:HO}(h:H a=some o)(h':H b=none):a≠b:=by
 intro e;subst e;rw[h] at h';cases h'
section
variable(P:Program)(w:World)
def ſ(H:Hp)(h:Heap)(a:Addr):HO→Prop
 | .lst xs=>xs.length≤sizeLine∧∃(its:List Value) (n:Nat),Vals xs its∧h.get? a=some {cls:=.type "list",data:=.seq its.toArray n}
 | .tup xs=>xs.length≤sizeLine∧∃its:List Value,Vals xs its∧IsTup h a its.toArray
 | .dK kvs=>kvs.length≤sizeLine∧(a== sysModules)=false∧∃vs,KV kvs vs∧h.DictOf (qF P w) a vs
 | .dT kvs=>kvs.length≤sizeLine∧(a== sysModules)=false∧∃xs:List (List Key×Addr×Value),
     Paired (fun(p:List Key×V) (q:List Key×Addr×Value)=>p.1=q.1∧H q.2.1=some (.tup (p.1.map kV))∧RelV p.2 q.2.2) kvs xs∧
     ∃o es ep,h.get? a=some o∧o.ExactDict∧o.data=.dict es ep∧es.toList=xs.map (entryOfKey (tupleKind (qF P w)))∧(xs.map (·.1)).Nodup
 | .set S n=>h.SetOf (intKind P w) a S n
 | .ins C dx fs=>H dx=some (.own a)∧fs.length≤1000∧dx≠a∧h.get? a=some (PySem.W.instObj C dx)∧
     ∃mA,h.Ns1 dx mA∧(∀f,oF (fs.lookup f) (mA f))∧PySem.Within mA (fs.map (·.1))
 | .own _=>∃o,h.get? a=some o
 | .xd fs=>∃mA,h.Ns1 a mA∧∀f,oF (fs.lookup f) (mA f)
 | .rng lo hi=>∃t u v,h.get? a=some {cls:=.type "range",data:=.fields #[.int lo t,.int hi u,.int 1 v]}
 | .cQ o u=>h.get? a=some o∧ſ H h a u
 | .oh ps=>h.get? a=some {cls:=.none,data:=.fields ps}
 | .met f x=>h.get? a=some (PySem.W.methodObj (.ref f) (.ref x))
 | .ext φ=>φ h∧(∃o,h.get? a=some o)∧∀h1 h2:Heap,φ h1→(∀o,h1.get? a=some o→h2.get? a=some o)→φ h2
def gB(H:Hp)(h:Heap):Prop:=∀a o,H a=some o→ſ P w H h a o
end
section
variable{P:Program}{w:World}{H H':Hp}{h h':Heap}{a:Addr}{o:HO}
theorem ſ.lt(x:ſ P w H h a o):a<h.objs.size:=by
 cases o with
 |lst xs=>obtain⟨_,_,_,_,e⟩:=x;exact Heap.lt_size e
 |tup xs=>obtain⟨_,_,_,p⟩:=x;exact p.lt
 |dK kvs=>obtain⟨_,_,_,_,o,_,_,e,_⟩:=x;exact Heap.lt_size e
 |dT kvs=>obtain⟨_,_,_,_,o,_,_,e,_⟩:=x;exact Heap.lt_size e
 |set S n=>obtain⟨o,_,_,_,e,_⟩:=x;exact Heap.lt_size e
 |ins C dx fs=>obtain⟨_,_,_,e,_⟩:=x;exact Heap.lt_size e
 |own y=>obtain⟨_,e⟩:=x;exact Heap.lt_size e
 |xd fs=>obtain⟨_,⟨_,_,_,e,_⟩,_⟩:=x;exact Heap.lt_size e
 |rng lo hi=>obtain⟨_,_,_,e⟩:=x;exact Heap.lt_size e
 |cQ ob u=>obtain⟨e,_⟩:=x;exact Heap.lt_size e
 |oh ps=>exact Heap.lt_size (show h.get? a=some _ from x)
 |met f y=>exact Heap.lt_size (show h.get? a=some _ from x)
 |ext φ=>obtain⟨_,⟨_,e⟩,_⟩:=x;exact Heap.lt_size e
theorem Paired.Zaa{α β:Type}{F G:α→β→Prop}:∀{l₁:List α} {l₂:List β},Paired F l₁ l₂→(∀a b,F a b→G a b)→Paired G l₁ l₂
 |_,_,.nil,_=>.nil
 |_,_,.cons r t,f=>.cons (f _ _ r) (Paired.Zaa t f)
theorem ſ.stay(x:ſ P w H h a o)(k:∀b u,(b=a∨H b=some (.own a))→h.get? b=some u→h'.get? b=some u)
 (ho:∀b,H b=some (.own a)→H' b=some (.own a))(ht:∀b xs,H b=some (.tup xs)→H' b=some (.tup xs)):ſ P w H' h' a o:=by
 induction o with
 |lst xs=>obtain⟨z,its,n,r,e⟩:=x;exact⟨z,its,n,r,k _ _ (.inl rfl) e⟩
 |tup xs=>obtain⟨z,its,r,ob,e,c⟩:=x;exact⟨z,its,r,ob,k _ _ (.inl rfl) e,c⟩
 |dK kvs=>obtain⟨z,y,vs,r,ob,es,ep,e,c⟩:=x;exact⟨z,y,vs,r,ob,es,ep,k _ _ (.inl rfl) e,c⟩
 |dT kvs=>
  obtain⟨z,y,xs,r,ob,es,ep,e,c⟩:=x
  exact⟨z,y,xs,Paired.Zaa r fun p q z=>⟨z.1,ht _ _ z.2.1,z.2.2⟩,ob,es,ep,k _ _ (.inl rfl) e,c⟩
 |set S n=>obtain⟨ob,es,ep,t,e,c⟩:=x;exact⟨ob,es,ep,t,k _ _ (.inl rfl) e,c⟩
 |ins C dx fs=>
  obtain⟨d,z,ne,e,mA,⟨od,es,ep,e2,c⟩,r⟩:=x
  exact⟨ho _ d,z,ne,k _ _ (.inl rfl) e,mA,⟨od,es,ep,k _ _ (.inr d) e2,c⟩,r⟩
 |own y=>obtain⟨ob,e⟩:=x;exact⟨ob,k _ _ (.inl rfl) e⟩
 |xd fs=>obtain⟨mA,⟨od,es,ep,e,c⟩,r⟩:=x;exact⟨mA,⟨od,es,ep,k _ _ (.inl rfl) e,c⟩,r⟩
 |rng lo hi=>obtain⟨t,u,v,e⟩:=x;exact⟨t,u,v,k _ _ (.inl rfl) e⟩
 |cQ ob u ih=>obtain⟨e,q⟩:=x;exact⟨k _ _ (.inl rfl) e,ih q⟩
 |oh ps=>
  have e:h.get? a=some {cls:=.none,data:=.fields ps}:=x
  show h'.get? a=some {cls:=.none,data:=.fields ps}
  exact k a _ (.inl rfl) e
 |met f y=>
  have e:h.get? a=some (PySem.W.methodObj (.ref f) (.ref y)):=x
  show h'.get? a=some (PySem.W.methodObj (.ref f) (.ref y))
  exact k a _ (.inl rfl) e
 |ext φ=>obtain⟨p,⟨o,e⟩,st⟩:=x;exact⟨st _ _ p fun o q=>k _ _ (.inl rfl) q,⟨o,k _ _ (.inl rfl) e⟩,st⟩
theorem gB.lt(x:gB P w H h)(e:H a=some o):a<h.objs.size:=(x a o e).lt
theorem gB.fresh(x:gB P w H h)(e:h.objs.size≤a):H a=none:=by
 cases q:H a with
 |none=>rfl
 |some u=>exact absurd (Nat.lt_of_lt_of_le (x.lt q) e) (Nat.lt_irrefl _)
theorem gB.kept(x:gB P w H h)(k:∀b u,h.get? b=some u→h'.get? b=some u):gB P w H h':=fun a o e=>
 (x a o e).stay (fun b u _ q=>k b u q) (fun _ q=>q) fun _ _ q=>q
theorem gB.laid(x:gB P w H h)(k:∀b u,h.get? b=some u→h'.get? b=some u)(hp:h.objs.size≤a)(new:ſ P w (upd H a o) h' a o):gB P w (upd H a o) h':=fun b u e=>by
 have hn:=x.fresh hp
 by_cases hb:b=a
 ·subst hb;rw[Ĳ] at e;cases e;exact new
 ·rw[Į hb] at e
  exact(x b u e).stay (fun c v _ q=>k c v q) (fun c q=>by rw[Į (ő q hn)];exact q) fun c xs q=>by rw[Į (ő q hn)];exact q
end
def Rd(H:Hp)(a:Addr)(u:HO):Prop:=H a=some u∨∃o,H a=some (.cQ o u)
theorem Rd.ok{P:Program}{w:World}{H:Hp}{h:Heap}{a:Addr}{u:HO}(r:Rd H a u)(x:gB P w H h):ſ P w H h a u:=by
 rcases r with r|⟨o,r⟩
 ·exact x a u r
 ·obtain⟨_,q⟩:=x a _ r
  exact q
def Mut:Option HO→Prop
 |some (.lst _)=>True
 |some (.dK _)=>True
 |some (.dT _)=>True
 |some (.set _ _)=>True
 |some (.ins _ _ _)=>True
 |some (.ext _)=>True
 |some (.xd _)=>True
 |_=>False
section
variable{P:Program}{w:World}{H:Hp}{h h':Heap}{x e:Addr}{o':HO}
theorem gB.write(ok:gB P w H h)(mu:Mut (H x))(he:e=x∨H e=some (.own x))(k:∀b u,b≠e→h.get? b=some u→h'.get? b=some u)(heo:∃u,h'.get? e=some u)
 (new:ſ P w (upd H x o') h' x o'):gB P w (upd H x o') h':=fun b u q=>by
 have Zab:∀c y,H c=some (.own y)→c≠x:=fun c y r z=>by subst z;rw[r] at mu;exact mu
 have Zgy:∀c xs,H c=some (.tup xs)→c≠x:=fun c xs r z=>by subst z;rw[r] at mu;exact mu
 by_cases hb:b=x
 ·subst hb;rw[Ĳ] at q;cases q;exact new
 ·rw[Į hb] at q
  by_cases hbe:b=e
  ·have q':H b=some (.own x):=by
    rcases he with z|z
    ·exact absurd (hbe.trans z) hb
    ·rw[hbe];exact z
   rw[q] at q';cases q'
   obtain⟨v,hv⟩:=heo
   exact⟨v,by rw[hbe];exact hv⟩
  ·refine(ok b u q).stay (fun c v hc r=>k c v ?_ r) (fun c r=>by rw[Į (Zab c b r)];exact r) fun c xs r=>by rw[Į (Zgy c xs r)];exact r
   rcases hc with rfl|hc
   ·exact hbe
   ·rintro rfl
    rcases he with z|z
    ·exact Zab c b hc z
    ·rw[hc] at z;cases z;exact hb rfl
end
structure Un(fs ex:List Addr)(H H':Hp)(h h':Heap):Prop where
 keep:∀b o,h.get? b=some o→H b=none→b∉fs→b∉ex→h'.get? b=some o
 slot:∀b o,h.get? b=some o→H b=none→b∈fs→b∉ex→∃sl,h'.get? b=some {o with slots:=sl}
 free:∀b o,h.get? b=some o→H b=none→b∉ex→H' b=none
 there:∀b o,h.get? b=some o→b∉ex→∃o',h'.get? b=some o'
 tups:∀b xs,H b=some (.tup xs)→H' b=some (.tup xs)
 iu:∀b o u,H b=some (.cQ o u)→H' b=some (.cQ o u)
 jd:∀b ps,H b=some (.oh ps)→∃more,H' b=some (.oh (ps++more))
section
variable{fs fs' ex ex':List Addr}{H H1 H2:Hp}{h h1 h2 h':Heap}{a x e:Addr}{o:HO}
theorem Un.any(u:Un fs ex H H1 h h1){b:Addr}{ob:Obj}(q:h.get? b=some ob)(n:H b=none)(hx:b∉ex):∃sl,h1.get? b=some {ob with slots:=sl}:=by
 by_cases hb:b∈fs
 ·exact u.slot b ob q n hb hx
 ·exact⟨ob.slots,u.keep b ob q n hb hx⟩
theorem Un.kept(k:∀b u,h.get? b=some u→h'.get? b=some u):Un fs ex H H h h':=
 ⟨fun b ob q _ _ _=>k b ob q,fun b ob q _ _ _=>⟨ob.slots,k b ob q⟩,fun _ _ _ n _=>n,fun b ob q _=>⟨ob,k b ob q⟩,fun _ _ q=>q,fun _ _ _ q=>q,fun _ ps q=>⟨#[],by rw[q];simp⟩⟩
theorem Un.refl:Un fs ex H H h h:=Un.kept fun _ _ q=>q
theorem Un.laid(k:∀b u,h.get? b=some u→h'.get? b=some u)(hp:h.objs.size≤a)(hn:H a=none):Un fs ex H (upd H a o) h h' where
 keep:=fun b u q _ _ _=>k b u q
 slot:=fun b u q _ _ _=>⟨u.slots,k b u q⟩
 free:=fun b u q n _=>by rw[Į (Nat.ne_of_lt (Nat.lt_of_lt_of_le (Heap.lt_size q) hp))];exact n
 there:=fun b u q _=>⟨u,k b u q⟩
 tups:=fun b xs q=>by rw[Į (ő q hn)];exact q
 iu:=fun b u xs q=>by rw[Į (ő q hn)];exact q
 jd:=fun b ps q=>⟨#[],by rw[Į (ő q hn),q];simp⟩
theorem Un.write(mu:Mut (H x))(he:e=x∨H e=some (.own x))(k:∀b u,b≠e→h.get? b=some u→h'.get? b=some u)(heo:∃u,h'.get? e=some u):Un fs ex H (upd H x o) h h':=by
 have hx:∀b,H b=none→b≠x:=fun b n z=>by subst z;rw[n] at mu;exact mu
 have hb:∀b,H b=none→b≠e:=fun b n z=>by
  subst z
  rcases he with r|r
  ·exact hx b n r
  ·rw[n] at r;cases r
 have hm:∀b u,H b=some u→¬Mut (some u)→b≠x:=fun b u q nm z=>by subst z;rw[q] at mu;exact nm mu
 refine⟨fun b u q n _ _=>k b u (hb b n) q,fun b u q n _ _=>⟨u.slots,k b u (hb b n) q⟩,fun b u q n _=>by rw[Į (hx b n)];exact n,fun b u q _=>?_,
  fun b xs q=>by rw[Į (hm b _ q fun z=>z)];exact q,fun b u xs q=>by rw[Į (hm b _ q fun z=>z)];exact q,fun b ps q=>⟨#[],by rw[Į (hm b _ q fun z=>z),q];simp⟩⟩
 by_cases hbe:b=e
 ·subst hbe;exact heo
 ·exact⟨u,k b u hbe q⟩
end
def trk(h:Heap)(H:Hp):List Addr:=(List.range h.objs.size).filter fun a=>(H a).isSome
def qG(h:Heap)(H:Hp):Heap:=PySem.W.hideAll h (trk h H)
theorem Av(h:Heap)(H:Hp):(qG h H).objs.size=h.objs.size:=PySem.W.hideAll_size _ _
theorem Cv{h:Heap}{H:Hp}{b:Addr}{o:Obj}(e:h.get? b=some o)(n:H b=none):(qG h H).get? b=some o:=
 PySem.W.hideAll_get _ e fun hm=>by
  have q:(H b).isSome=true:=(List.mem_filter.mp hm).2
  rw[n] at q;simp at q
theorem Lg{h:Heap}{H:Hp}{b:Addr}{o:Obj}(e:(qG h H).get? b=some o):h.get? b=some o∧H b=none:=by
 have e':h.get? b=some o:=PySem.W.of_hideAll (trk h H) e
 refine⟨e',?_⟩
 cases q:H b with
 |none=>rfl
 |some x=>
  have hm:b∈trk h H:=List.mem_filter.mpr ⟨List.mem_range.mpr (Heap.lt_size e'),by simp[q]⟩
  have z:(qG h H).get? b=none:=PySem.W.hideAll_none (trk h H) hm
  rw[z] at e;cases e
def Li(g h:Heap)(L:Addr):List (Addr×Obj):=(List.range h.objs.size).filterMap fun a=>if a=L∨(g.get? a).isSome=true then none else(h.get? a).map fun o=>(a,o)
def rest(g h:Heap)(L d:Addr):List (Addr×Obj):=(Li g h L).filter fun p=>decide (p.1≠d)
end L2
namespace L2
open PySem PySem.Spec PyProof.Rows
structure Mod(K:PySem.W.Frag)(mg:Str→Option Value)(base:Heap):Prop where
 kin:K.In base
 glob:base.Ns mainGlobals mg
 blt:∃mb,base.Ns builtinsNs mb∧∀x:Str,x≠ "__name__" →mb x=bootBuiltins x
 nolimit:base.NoLimit
structure Cx where
 prog:Program
 w:World
 K:PySem.W.Frag
 mg:Str→Option Value
 base:Heap
 A:Around
 N:List Str
 s₀:Shared
 H₀:Hp
 env:Env
 outer:List Env
 stack:List Env
 ex:List Addr
 fn:Str→Bool
 calm:Bool
 pn:List (Addr×Obj)
 xe:Value→Shared→Prop
def frs(l:List Env):List Addr:=l.filterMap (·.frame)
abbrev Cx.fs(X:Cx):List Addr:=frs X.outer
def Cw(sc:Scope)(x:Str):Prop:=sc.names.lookup x=some .local∨sc.names.lookup x=some .cell∨sc.names.lookup x=some .free
def Loc(sc:Scope)(x:Str):Prop:=sc.names.lookup x=some .local∨sc.names.lookup x=some .cell
def Look(env:Env)(h:Heap)(m:Str→Option Value)(x:Str)(u:Value):Prop:=
 (env.kindOf x=some .local∧m x=some u)∨((env.kindOf x=some .cell∨env.kindOf x=some .free)∧∃c,env.cells.lookup x=some c∧h.IsCell c (some u))
structure Cx.Ok(X:Cx):Prop where
 mod:Mod X.K X.mg X.base
 kind:X.env.scope.kind=.function
 glob:X.env.globals=mainGlobals
 blt:X.env.builtins=builtinsNs
 above:X.s₀.heap.objs.size≤X.env.locals
 inj:∀x y c,X.env.cells.lookup x=some c→X.env.cells.lookup y=some c→x=y
 has:∀x,(X.env.kindOf x=some .cell∨X.env.kindOf x=some .free)→∃c,X.env.cells.lookup x=some c
 cab:∀x c,X.fn x=true→X.env.cells.lookup x=some c→X.s₀.heap.objs.size≤c
 hd:X.calm=true→X.A.handled=none
 frames:X.A.frames=some X.stack
 stk:X.stack=X.outer∨(X.stack=X.env::X.outer∧X.env.frame=some X.env.locals)
 exf:∀b∈X.ex,b≠X.env.locals∧∀x c,X.env.cells.lookup x=some c→c≠b
 bs:∀b o,X.base.get? b=some o→X.s₀.heap.get? b=some o∧X.H₀ b=none
 Lj:X.base.objs.size≤X.s₀.heap.objs.size
 Aw:∀b o,X.base.get? b=some o→b∉X.ex
 Lk:∀b∈X.ex,b∉X.fs
 j_:X.s₀.heap.FunFrames X.base X.outer
 Rx:∀b∈X.fs,X.H₀ b=none
structure Inv(X:Cx)(pins:List (Addr×Obj))(σ:List (Option V))(H:Hp)(s:Shared):Prop where
 ok:X.Ok
 os:s.os=X.s₀.os
 bare:AllBare s.gens
 base:Un X.fs X.ex X.H₀ H X.s₀.heap s.heap
 loc:∃m,s.heap.Ns X.env.locals m∧∀(i:Nat) (x:Str) (v:V),X.N[i]?=some x→σ[i]?=some (some v)→Cw X.env.scope x→∃u,RelV v u∧Look X.env s.heap m x u
 cell:∀x c,X.env.cells.lookup x=some c→∃v,s.heap.IsCell c v
 free:H X.env.locals=none
 gC:∀x c,X.env.cells.lookup x=some c→H c=none
 pin:∀p∈X.pn++pins,s.heap.get? p.1=some p.2∧H p.1=none∧p.1≠X.env.locals∧p.1∉X.fs∧∀v,p.2.data≠ .cell v
 hok:gB X.prog X.w H s.heap
 len:σ.length=X.N.length
section
variable{X:Cx}{pins:List (Addr×Obj)}{σ:List (Option V)}{H H':Hp}{s:Shared}{h':Heap}
theorem Cx.Ok.Zgz(ok:X.Ok){b:Addr}{o:Obj}(e:X.base.get? b=some o):b∉X.fs:=fun hb=>by
 have:=(ok.j_.mem hb).1
 rw[e] at this;cases this
theorem Inv.bs(I:Inv X pins σ H s):∀b o,X.base.get? b=some o→s.heap.get? b=some o∧H b=none:=fun b o e=>
 ⟨I.base.keep b o (I.ok.bs b o e).1 (I.ok.bs b o e).2 (I.ok.Zgz e) (I.ok.Aw b o e),I.base.free b o (I.ok.bs b o e).1 (I.ok.bs b o e).2 (I.ok.Aw b o e)⟩
theorem Inv.bk(I:Inv X pins σ H s):∀b o,X.base.get? b=some o→s.heap.get? b=some o:=fun b o e=>(I.bs b o e).1
theorem Inv.mod(I:Inv X pins σ H s):Mod X.K X.mg X.base:=I.ok.mod
theorem Inv.i_(I:Inv X pins σ H s):X.K.In s.heap:=I.ok.mod.kin.keeps I.bk
theorem Inv.lt(I:Inv X pins σ H s):X.env.locals<s.heap.objs.size:=let ⟨_,hn,_⟩:=I.loc;hn.lt
theorem Inv.sz(I:Inv X pins σ H s):X.s₀.heap.objs.size≤s.heap.objs.size:=Nat.le_trans I.ok.above (Nat.le_of_lt I.lt)
theorem Inv.ZgA(I:Inv X pins σ H s){a:Addr}(h:s.heap.objs.size≤a):a∉X.fs:=fun hb=>by
 obtain⟨_,o,ho,_⟩:=I.ok.j_.mem hb
 exact absurd (Nat.lt_of_lt_of_le (Heap.lt_size ho) (Nat.le_trans I.sz h)) (Nat.lt_irrefl _)
theorem Inv.Ry(I:Inv X pins σ H s):∀x c,X.env.cells.lookup x=some c→c≠X.env.locals:=fun x c e z=>by
 obtain⟨v,o,ho,hd⟩:=I.cell x c e
 obtain⟨m,⟨o',es,ep,ho',hd',_⟩,_⟩:=I.loc
 rw[z,ho'] at ho;cases ho;rw[hd'] at hd;cases hd
theorem Inv.j_(I:Inv X pins σ H s):s.heap.FunFrames X.base X.outer:=by
 have all:∀(l:List Env),(∀b∈frs l,b∈X.fs)→X.s₀.heap.FunFrames X.base l→s.heap.FunFrames X.base l:=by
  intro l
  induction l with
  |nil=>intro _ _;trivial
  |cons env r ih=>
   intro hs hl
   obtain⟨hk,⟨L,o,hf,hn,ho,hd⟩,hr⟩:=hl
   have hL:L∈X.fs:=hs L (by unfold frs;rw[List.filterMap_cons,hf];exact List.mem_cons_self)
   obtain⟨sl,e⟩:=I.base.slot L o ho (I.ok.Rx L hL) hL fun z=>I.ok.Lk L z hL
   exact⟨hk,⟨L,_,hf,hn,e,hd⟩,ih (fun b hb=>hs b (by unfold frs;rw[List.filterMap_cons,hf];exact List.mem_cons_of_mem _ hb)) hr⟩
 exact all X.outer (fun _ hb=>hb) I.ok.j_
theorem Inv.stack(I:Inv X pins σ H s):s.heap.FunFrames X.base X.stack:=by
 rcases I.ok.stk with e|⟨e,hf⟩
 ·rw[e];exact I.j_
 ·rw[e]
  obtain⟨m,hn,_⟩:=I.loc
  refine .cons (by rw[I.ok.kind];decide) hf hn ?_ I.j_
  exact Heap.get?_none_of_le (Nat.le_trans I.ok.Lj I.ok.above)
theorem Inv.lG(I:Inv X pins σ H s):∀b∈frs X.stack,b∈X.env.locals::X.fs:=fun b hb=>by
 rcases I.ok.stk with e|⟨e,hf⟩
 ·rw[e] at hb;exact List.mem_cons_of_mem _ hb
 ·rw[e] at hb
  unfold frs at hb
  rw[List.filterMap_cons,hf] at hb
  exact hb
theorem Inv.qH(I:Inv X pins σ H s):∀b∈frs X.stack,H b=none:=fun b hb=>by
 rcases List.mem_cons.mp (I.lG b hb) with e|hb
 ·rw[e];exact I.free
 ·obtain⟨_,o,ho,_⟩:=I.ok.j_.mem hb
  exact I.base.free b o ho (I.ok.Rx b hb) fun z=>I.ok.Lk b z hb
theorem Inv.step{g':Array GenState}{t':Nat}{d':Drawn}{ch:List Addr}(I:Inv X pins σ H s)
 (hch:∀b∈ch,(b∈X.ex∨X.s₀.heap.objs.size≤b)∧b≠X.env.locals∧(∀x c,X.env.cells.lookup x=some c→c≠b)∧∀p∈X.pn++pins,p.1≠b)
 (keep:∀b o,b≠X.env.locals→b∉X.fs→b∉ch→s.heap.get? b=some o→H b=none→h'.get? b=some o)
 (slot:∀b o,b≠X.env.locals→b∈X.fs→b∉ch→s.heap.get? b=some o→H b=none→∃sl,h'.get? b=some {o with slots:=sl})(free:∀b o,b∉ch→s.heap.get? b=some o→H b=none→H' b=none)
 (there:∀b o,b∉ch→s.heap.get? b=some o→∃o',h'.get? b=some o')
 (tups:∀b xs,H b=some (.tup xs)→H' b=some (.tup xs))(iu:∀b o u,H b=some (.cQ o u)→H' b=some (.cQ o u))(jd:∀b ps,H b=some (.oh ps)→∃more,H' b=some (.oh (ps++more)))
 (ns:∀m,s.heap.Ns X.env.locals m→h'.Ns X.env.locals m)(hok:gB X.prog X.w H' h')(hg:AllBare g') :
 Inv X pins σ H' {s with heap:=h',gens:=g',drawn:=d',toks:=t'}:=by
 have YJ:∀b o,X.s₀.heap.get? b=some o→b≠X.env.locals:=fun b o e=>Nat.ne_of_lt (Nat.lt_of_lt_of_le (Heap.lt_size e) I.ok.above)
 have neC:∀b o,X.s₀.heap.get? b=some o→b∉X.ex→b∉ch:=fun b o e hx hb=>by
  rcases(hch b hb).1 with z|z
  ·exact hx z
  ·exact absurd (Nat.lt_of_lt_of_le (Heap.lt_size e) z) (Nat.lt_irrefl _)
 have cellK:∀x c,X.env.cells.lookup x=some c→∀v,s.heap.IsCell c v→h'.IsCell c v:=fun x c e v ⟨o,ho,hd⟩=>by
  have nch:c∉ch:=fun z=>(hch c z).2.2.1 x c e rfl
  by_cases hc:c∈X.fs
  ·obtain⟨sl,q⟩:=slot c o (I.Ry x c e) hc nch ho (I.gC x c e)
   exact⟨_,q,hd⟩
  ·exact⟨o,keep c o (I.Ry x c e) hc nch ho (I.gC x c e),hd⟩
 refine⟨I.ok,I.os,hg,⟨fun b o e n hb hx=>?_,fun b o e n hb hx=>?_,fun b o e n hx=>?_,fun b o e hx=>?_,fun b xs e=>tups b xs (I.base.tups b xs e),fun b o xs e=>iu b o xs (I.base.iu b o xs e),fun b ps e=>?_⟩,?_,fun x c e=>?_,?_,fun x c e=>?_,fun p hp=>?_,hok,I.len⟩
 ·exact keep b o (YJ b o e) hb (neC b o e hx) (I.base.keep b o e n hb hx) (I.base.free b o e n hx)
 ·obtain⟨sl,e1⟩:=I.base.slot b o e n hb hx
  obtain⟨sl',e2⟩:=slot b _ (YJ b o e) hb (neC b o e hx) e1 (I.base.free b o e n hx)
  exact⟨sl',e2⟩
 ·obtain⟨o',e1⟩:=I.base.there b o e hx
  exact free b o' (neC b o e hx) e1 (I.base.free b o e n hx)
 ·obtain⟨o',e1⟩:=I.base.there b o e hx
  exact there b o' (neC b o e hx) e1
 ·obtain⟨m1,e1⟩:=I.base.jd b ps e
  obtain⟨m2,e2⟩:=jd b _ e1
  exact⟨m1++m2,by rw[e2,Array.append_assoc]⟩
 ·obtain⟨m,hn,hl⟩:=I.loc
  refine⟨m,ns m hn,fun i x v e1 e2 e3=>?_⟩
  obtain⟨u,r,l⟩:=hl i x v e1 e2 e3
  refine⟨u,r,?_⟩
  rcases l with l|⟨k,c,e,z⟩
  ·exact .inl l
  ·exact .inr ⟨k,c,e,cellK x c e _ z⟩
 ·obtain⟨v,z⟩:=I.cell x c e
  exact⟨v,cellK x c e v z⟩
 ·obtain⟨m,⟨o,_,_,ho,_⟩,_⟩:=I.loc
  exact free _ o (fun z=>(hch _ z).2.1 rfl) ho I.free
 ·obtain⟨v,o,ho,hd⟩:=I.cell x c e
  exact free c o (fun z=>(hch c z).2.2.1 x c e rfl) ho (I.gC x c e)
 ·obtain⟨e,n,ne,nf,d⟩:=I.pin p hp
  have nch:p.1∉ch:=fun z=>(hch p.1 z).2.2.2 p hp rfl
  exact⟨keep p.1 p.2 ne nf nch e n,free p.1 p.2 nch e n,ne,nf,d⟩
theorem Inv.un{t':Nat}(I:Inv X pins σ H s)(u:Un X.fs [] H H' s.heap h')(hok:gB X.prog X.w H' h'):Inv X pins σ H' {s with heap:=h',toks:=t'}:=by
 obtain⟨m,⟨o,es,ep,ho,r⟩,_⟩:=id I.loc
 obtain⟨sl,hL⟩:=u.any ho I.free (by simp)
 exact I.step (g':=s.gens) (d':=s.drawn) (ch:=[]) (fun _ z=>nomatch z) (fun b o _ hb _ e n=>u.keep b o e n hb (by simp)) (fun b o _ hb _ e n=>u.slot b o e n hb (by simp)) (fun b o _ e n=>u.free b o e n (by simp)) (fun b o _ e=>u.there b o e (by simp)) u.tups u.iu u.jd (fun m' hm=>by
  obtain⟨o',es',ep',ho',r'⟩:=hm
  rw[ho] at ho';cases ho'
  exact⟨_,es',ep',hL,r'⟩) hok I.bare
theorem Inv.call{g':Array GenState}{t':Nat}{d':Drawn}{ch:List Addr}(I:Inv X pins σ H s)(u:Un (frs X.stack) ch H H' s.heap h')(hok:gB X.prog X.w H' h')(hg:AllBare g')
 (hch:∀b∈ch,(b∈X.ex∨X.s₀.heap.objs.size≤b)∧b≠X.env.locals∧(∀x c,X.env.cells.lookup x=some c→c≠b)∧∀p∈X.pn++pins,p.1≠b) :
 Inv X pins σ H' {s with heap:=h',gens:=g',drawn:=d',toks:=t'}:=by
 obtain⟨m,⟨o,es,ep,ho,r⟩,_⟩:=id I.loc
 obtain⟨sl,hL⟩:=u.any ho I.free fun z=>(hch _ z).2.1 rfl
 exact I.step (ch:=ch) hch (fun b o hL hb hc e n=>u.keep b o e n (fun z=>(List.mem_cons.mp (I.lG b z)).elim hL hb) hc) (fun b o _ _ hc e n=>u.any e n hc) (fun b o hc e n=>u.free b o e n hc) (fun b o hc e=>u.there b o e hc) u.tups u.iu u.jd (fun m' hm=>by
  obtain⟨o',es',ep',ho',r'⟩:=hm
  rw[ho] at ho';cases ho'
  exact⟨_,es',ep',hL,r'⟩) hok hg
theorem Inv.turned{t':Nat}{it:Addr}(I:Inv X pins σ H s)(k:∀b o,b≠it→s.heap.get? b=some o→h'.get? b=some o)(hn:H it=none)(hL:it≠X.env.locals)
 (h1:it∈X.ex∨X.s₀.heap.objs.size≤it)(h2:∀x c,X.env.cells.lookup x=some c→c≠it)(h3:∀p∈X.pn++pins,p.1≠it):Inv X pins σ H {s with heap:=h',toks:=t'}:=by
 have nit:∀b u,H b=some u→b≠it:=fun b u e z=>by rw[z,hn] at e;cases e
 refine I.step (g':=s.gens) (d':=s.drawn) (ch:=[it]) (fun b hb=>?_) (fun b o _ _ hc e _=>k b o (fun z=>hc (by simp[z])) e) (fun b o _ _ hc e _=>⟨o.slots,k b o (fun z=>hc (by simp[z])) e⟩) (fun _ _ _ _ n=>n)
  (fun b o hc e=>⟨o,k b o (fun z=>hc (by simp[z])) e⟩) (fun _ _ e=>e) (fun _ _ _ e=>e) (fun b ps e=>⟨#[],by rw[e];simp⟩) (fun m hm=>?_) (fun b u e=>?_) I.bare
 ·have e:b=it:=by simpa using hb
  subst e
  exact⟨h1,hL,h2,h3⟩
 ·obtain⟨o,es,ep,ho,r⟩:=hm
  exact⟨o,es,ep,k _ o (Ne.symm hL) ho,r⟩
 ·refine(I.hok b u e).stay (fun c v hc q=>k c v ?_ q) (fun _ q=>q) fun _ _ q=>q
  rcases hc with z|z
  ·rw[z];exact nit b u e
  ·exact nit c _ z
theorem Inv.tok(I:Inv X pins σ H s)(t:Nat):Inv X pins σ H {s with toks:=t}:=I.un (h':=s.heap) (t':=t) Un.refl I.hok
theorem Inv.kept{t':Nat}(I:Inv X pins σ H s)(k:∀b u,s.heap.get? b=some u→h'.get? b=some u):Inv X pins σ H {s with heap:=h',toks:=t'}:=I.un (Un.kept k) (I.hok.kept k)
theorem Inv.laid{a:Addr}{o:HO}{t':Nat}(I:Inv X pins σ H s)(k:∀b u,s.heap.get? b=some u→h'.get? b=some u)(hp:s.heap.objs.size≤a)(new:ſ X.prog X.w (upd H a o) h' a o) :
 Inv X pins σ (upd H a o) {s with heap:=h',toks:=t'}:=I.un (Un.laid k hp (I.hok.fresh hp)) (I.hok.laid k hp new)
theorem Inv.write{x e:Addr}{o:HO}{t':Nat}(I:Inv X pins σ H s)(mu:Mut (H x))(he:e=x∨H e=some (.own x))(k:∀b u,b≠e→s.heap.get? b=some u→h'.get? b=some u)(heo:∃u,h'.get? e=some u)
 (new:ſ X.prog X.w (upd H x o) h' x o):Inv X pins σ (upd H x o) {s with heap:=h',toks:=t'}:=I.un (Un.write mu he k heo) (I.hok.write mu he k heo new)
theorem Inv.yW{Pb:List (Addr×Obj)}(I:Inv X pins σ H s)(h:∀p∈Pb,s.heap.get? p.1=some p.2∧H p.1=none∧p.1≠X.env.locals∧p.1∉X.fs∧∀v,p.2.data≠ .cell v):Inv X Pb σ H s:=
 ⟨I.ok,I.os,I.bare,I.base,I.loc,I.cell,I.free,I.gC,fun p hp=>(List.mem_append.mp hp).elim (fun z=>I.pin p (List.mem_append_left _ z)) (h p),I.hok,I.len⟩
theorem tE{N:List Str}(hN:N.Nodup){i j:Nat}{x:Str}(a:N[i]?=some x)(b:N[j]?=some x):i=j:=by
 obtain⟨h1,e1⟩:=List.getElem?_eq_some_iff.mp a
 obtain⟨h2,e2⟩:=List.getElem?_eq_some_iff.mp b
 exact(List.getElem_inj hN).mp (e1.trans e2.symm)
theorem oR{M:Model}{A:Around}{E:Value→Shared→Prop}{i:Nat}{x:Str}{v:V}{u:Value}{Q:Unit→Shared→Prop}(I:Inv X pins σ H s)(hN:X.N.Nodup)(hi:X.N[i]?=some x)(hx:Loc X.env.scope x)(r:RelV v u)
 (h:∀s',Inv X pins (σ.set i (some v)) H s'→(∃a,Heap.SameBut a s.heap s'.heap∧(a=X.env.locals∨X.env.cells.lookup x=some a))→Q () s')(hf:X.fn x=true∨X.env.scope.names.lookup x=some .local:=by first|exact .inl rfl|exact .inr rfl|assumption):wpAny M A (storeName X.env x u) Q E s:=by
 obtain⟨m,hn,hl⟩:=id I.loc
 have hcls:(X.env.scope.kind== .class || (X.env.scope.kind== .module && X.env.locals != X.env.globals))=false:=by rw[I.ok.kind];rfl
 have ZkH:i < σ.length:=by rw[I.len];exact(List.getElem?_eq_some_iff.mp hi).1
 have Ry:=I.Ry
 have tracked:∀{a:Addr} {h':Heap},(∃o,s.heap.get? a=some o∧H a=none)→Heap.SameBut a s.heap h'→gB X.prog X.w H h':=fun{a h'} ha hs b ob e=>by
  obtain⟨_,_,hfree⟩:=ha
  refine(I.hok b ob e).stay (fun c w' hc q=>(hs.2 c ?_).trans q) (fun _ q=>q) fun _ _ q=>q
  rintro rfl
  rcases hc with rfl|hc
  ·rw[hfree] at e;cases e
  ·rw[hfree] at hc;cases hc
 rcases hx with hk|hk
 ·refine wpAny_storeName_local hk hn (fun h' hn' hs=>?_) hcls
  obtain⟨oL,_,_,hoL,_⟩:=id hn
  refine h _ ⟨I.ok,I.os,I.bare,⟨fun b o e n hb hx=>?_,fun b o e n hb hx=>?_,I.base.free,fun b o e hx=>?_,I.base.tups,I.base.iu,I.base.jd⟩,⟨_,hn',fun j y v' e1 e2 e3=>?_⟩,fun y c e=>?_,I.free,I.gC,fun p hp=>?_,tracked ⟨oL,hoL,I.free⟩ hs,by simpa using I.len⟩ ⟨_,hs,.inl rfl⟩
  ·exact(hs.2 b (Nat.ne_of_lt (Nat.lt_of_lt_of_le (Heap.lt_size e) I.ok.above))).trans (I.base.keep b o e n hb hx)
  ·obtain⟨sl,e1⟩:=I.base.slot b o e n hb hx
   exact⟨sl,(hs.2 b (Nat.ne_of_lt (Nat.lt_of_lt_of_le (Heap.lt_size e) I.ok.above))).trans e1⟩
  ·obtain⟨o',e1⟩:=I.base.there b o e hx
   exact⟨o',(hs.2 b (Nat.ne_of_lt (Nat.lt_of_lt_of_le (Heap.lt_size e) I.ok.above))).trans e1⟩
  ·by_cases hj:j=i
   ·subst hj
    rw[hi] at e1;cases e1
    rw[List.getElem?_set_self ZkH] at e2
    cases e2
    exact⟨u,r,.inl ⟨hk,by simp⟩⟩
   ·rw[List.getElem?_set_ne (Ne.symm hj)] at e2
    obtain⟨u',r',q⟩:=hl j y v' e1 e2 e3
    refine⟨u',r',?_⟩
    rcases q with⟨k,e⟩|⟨k,c,e,z⟩
    ·refine .inl ⟨k,?_⟩
     have:y≠x:=fun e=>hj (tE hN e1 (e▸hi))
     simp[this,e]
    ·exact .inr ⟨k,c,e,z.sameBut hs (Ry y c e)⟩
  ·obtain⟨w',z⟩:=I.cell y c e
   exact⟨w',z.sameBut hs (Ry y c e)⟩
  ·obtain⟨e,n,ne,nf,d⟩:=I.pin p hp
   exact⟨(hs.2 p.1 ne).trans e,n,ne,nf,d⟩
 ·have hfn:X.fn x=true:=by
   rcases hf with z|z
   ·exact z
   ·rw[z] at hk;cases hk
  obtain⟨c,hc⟩:=I.ok.has x (.inl hk)
  obtain⟨w',z⟩:=I.cell x c hc
  refine wpAny_storeName_cell I.ok.kind hk hc z (fun h' hc' hs=>?_)
  obtain⟨oc,hoc,ZgB⟩:=id z
  refine h {s with heap:=h'} ⟨I.ok,I.os,I.bare,⟨fun b o e n hb hx=>?_,fun b o e n hb hx=>?_,I.base.free,fun b o e hx=>?_,I.base.tups,I.base.iu,I.base.jd⟩,⟨m,hn.sameBut hs (Ne.symm (Ry x c hc)),fun j y v' e1 e2 e3=>?_⟩,fun y c' e=>?_,I.free,I.gC,fun p hp=>?_,tracked ⟨oc,hoc,I.gC x c hc⟩ hs,by simpa using I.len⟩ ⟨c,hs,.inr hc⟩
  ·exact(hs.2 b (Nat.ne_of_lt (Nat.lt_of_lt_of_le (Heap.lt_size e) (I.ok.cab x c hfn hc)))).trans (I.base.keep b o e n hb hx)
  ·obtain⟨sl,e1⟩:=I.base.slot b o e n hb hx
   exact⟨sl,(hs.2 b (Nat.ne_of_lt (Nat.lt_of_lt_of_le (Heap.lt_size e) (I.ok.cab x c hfn hc)))).trans e1⟩
  ·obtain⟨o',e1⟩:=I.base.there b o e hx
   exact⟨o',(hs.2 b (Nat.ne_of_lt (Nat.lt_of_lt_of_le (Heap.lt_size e) (I.ok.cab x c hfn hc)))).trans e1⟩
  ·by_cases hj:j=i
   ·subst hj
    rw[hi] at e1;cases e1
    rw[List.getElem?_set_self ZkH] at e2
    cases e2
    exact⟨u,r,.inr ⟨.inl hk,c,hc,hc'⟩⟩
   ·rw[List.getElem?_set_ne (Ne.symm hj)] at e2
    obtain⟨u',r',q⟩:=hl j y v' e1 e2 e3
    refine⟨u',r',?_⟩
    rcases q with q|⟨k,c',e,z'⟩
    ·exact .inl q
    ·refine .inr ⟨k,c',e,z'.sameBut hs ?_⟩
     rintro rfl
     exact hj (tE hN e1 (I.ok.inj _ _ _ e hc▸hi))
  ·by_cases hcc:c'=c
   ·subst hcc;exact⟨_,hc'⟩
   ·obtain⟨w2,z2⟩:=I.cell y c' e
    exact⟨w2,z2.sameBut hs hcc⟩
  ·obtain⟨e,n,ne,nf,d⟩:=I.pin p hp
   refine⟨(hs.2 p.1 ?_).trans e,n,ne,nf,d⟩
   intro q
   rw[q,hoc] at e
   have q':oc=p.2:=Option.some.inj e
   exact d w' (by rw[←q'];exact ZgB)
theorem iw{M:Model}{A:Around}{E:Value→Shared→Prop}{i:Nat}{x:Str}{v:V}{u:Value}{Q:Unit→Shared→Prop}(I:Inv X pins σ H s)(hN:X.N.Nodup)(hi:X.N[i]?=some x)(hx:Loc X.env.scope x)(r:RelV v u)
 (h:∀s',Inv X pins (σ.set i (some v)) H s'→Q () s')(hf:X.fn x=true∨X.env.scope.names.lookup x=some .local:=by first|exact .inl rfl|exact .inr rfl|assumption):wpAny M A (storeName X.env x u) Q E s:=
 oR I hN hi hx r (fun s' I' _=>h s' I') hf
theorem Inv.call'{s':Shared}{ch:List Addr}(I:Inv X pins σ H s)(ho:s'.os=s.os)(u:Un (frs X.stack) ch H H' s.heap s'.heap)(hok:gB X.prog X.w H' s'.heap)(hg:AllBare s'.gens)
 (hch:∀b∈ch,(b∈X.ex∨X.s₀.heap.objs.size≤b)∧b≠X.env.locals∧(∀x c,X.env.cells.lookup x=some c→c≠b)∧∀p∈X.pn++pins,p.1≠b):Inv X pins σ H' s':=by
 obtain⟨h',g',d',t',o'⟩:=s'
 have e:o'=s.os:=ho
 subst e
 exact I.call (g':=g') (t':=t') (d':=d') u hok hg hch
end
abbrev XK:=Value→Option Addr→Hp→Prop
abbrev St:=List (Option V)
abbrev VK:=V→Hp→Prop
abbrev TE:=St→Hp→VK→Prop
abbrev TT:=St→Hp→(Bool→Hp→Prop)→Prop
abbrev TA:=St→Hp→(List V→Hp→Prop)→Prop
structure Ends where
 nx:St→Hp→Prop
 rt:VK
 bk:St→Hp→Prop:=fun _ _=>False
 ct:St→Hp→Prop:=fun _ _=>False
abbrev TS:=Ends→St→Hp→Prop
def EP(X:Cx)(pins:List (Addr×Obj))(σ:St)(Q:VK)(u:Value)(s':Shared):Prop:=∃v H',Inv X pins σ H' s'∧RelV v u∧Q v H'
def TP(X:Cx)(pins:List (Addr×Obj))(σ:St)(Q:Bool→Hp→Prop)(b:Bool)(s':Shared):Prop:=∃H',Inv X pins σ H' s'∧Q b H'
def AP(X:Cx)(pins:List (Addr×Obj))(σ:St)(Q:List V→Hp→Prop)(us:List Value)(s':Shared):Prop:=∃vs H',Inv X pins σ H' s'∧Vals vs us∧Q vs H'
def SP(X:Cx)(pins:List (Addr×Obj))(D:Ends)(f:Flow)(s':Shared):Prop:=
 match f with
 | .next=>∃σ' H',Inv X pins σ' H' s'∧D.nx σ' H'
 | .brk=>∃σ' H',Inv X pins σ' H' s'∧D.bk σ' H'
 | .cont=>∃σ' H',Inv X pins σ' H' s'∧D.ct σ' H'
 | .ret u=>∃v σ' H',Inv X pins σ' H' s'∧RelV v u∧D.rt v H'
def PE(X:Cx)(e:Expr)(t:TE):Prop:=
 ∀(pins:List (Addr×Obj)) (s:Shared) (σ:St) (H:Hp) (Q:VK),Inv X pins σ H s→t σ H Q→wpAny (model X.prog X.w) X.A (eval e X.env) (EP X pins σ Q) X.xe s
def PT(X:Cx)(e:Expr)(t:TT):Prop:=
 ∀(pins:List (Addr×Obj)) (s:Shared) (σ:St) (H:Hp) (Q:Bool→Hp→Prop),Inv X pins σ H s→t σ H Q→wpAny (model X.prog X.w) X.A (isTrue e X.env (eval e X.env)) (TP X pins σ Q) X.xe s
def PW(X:Cx)(e:Expr)(t:TT):Prop:=
 ∀(whole:Sem Value) (pins:List (Addr×Obj)) (s:Shared) (σ:St) (H:Hp) (Q:Bool→Hp→Prop),Inv X pins σ H s→t σ H Q→wpAny (model X.prog X.w) X.A (isTrue e X.env whole) (TP X pins σ Q) X.xe s
theorem PW.pt{X:Cx}{e:Expr}{t:TT}(h:PW X e t):PT X e t:=h _
def PA(X:Cx)(es:List Expr)(t:TA):Prop:=
 ∀(pos:Pos) (pins:List (Addr×Obj)) (s:Shared) (σ:St) (H:Hp) (Q:List V→Hp→Prop),Inv X pins σ H s→t σ H Q→wpAny (model X.prog X.w) X.A (spliced (backTo pos (starEach es X.env))) (AP X pins σ Q) X.xe s
def PS(X:Cx)(st:Stmt)(t:TS):Prop:=
 ∀(pins:List (Addr×Obj)) (s:Shared) (σ:St) (H:Hp) (D:Ends),Inv X pins σ H s→t D σ H→wpAny (model X.prog X.w) X.A (exec st X.env) (SP X pins D) X.xe s
def kh(X:Cx)(st:List Stmt)(t:TS):Prop:=
 ∀(pins:List (Addr×Obj)) (s:Shared) (σ:St) (H:Hp) (D:Ends),Inv X pins σ H s→t D σ H→wpAny (model X.prog X.w) X.A (execs st X.env) (SP X pins D) X.xe s
theorem ű{α:Type}{t:Sem α}{Q Q':α→Shared→Prop}{M:Model}{A:Around}{E:Value→Shared→Prop}{s:Shared}(h:wpAny M A t Q E s)(hQ:∀a s,Q a s→Q' a s):wpAny M A t Q' E s:=wpAny_mono h hQ fun _ _ x=>x
end L2
namespace L2
open PySem PySem.Spec PyProof.Rows
section
variable{X:Cx}
def tH(i:Nat):TE:=fun σ H Q=>∃v,σ[i]?=some (some v)∧Q v H
def tC(v:V):TE:=fun _ H Q=>Q v H
theorem eE{i:Nat}{x:Str}{pos:Pos}(hN:X.N[i]?=some x)(hv:Cw X.env.scope x)(hd:(x== ("__debug__" :Str))=false:=by decide)(hcd:(x== ("__classdict__" :Str))=false:=by decide):PE X (.Name x pos) (tH i):=by
 intro pins s σ H Q I h
 obtain⟨v,e,h⟩:=h
 obtain⟨m,hn,hl⟩:=I.loc
 obtain⟨u,r,l⟩:=hl i x v hN e hv
 have fin:EP X pins σ Q u s:=⟨v,H,I,r,h⟩
 rcases l with⟨hk,hm⟩|⟨hk,c,hc,hcell⟩
 ·exact wpAny_Name (wpAny_loadName_local I.ok.kind hk hn hm fin) hd
 ·rcases hk with hk|hk
  ·exact wpAny_Name (wpAny_loadName_cell I.ok.kind hk hc hcell fin) hd
  ·exact wpAny_Name (wpAny_loadName_free I.ok.kind hk hc hcell fin hcd) hd
theorem Cy{i j pos}:PE X (.Constant (.int i) j pos) (tC (.int i)):=fun _ _ _ H _ I h=>wpAny_Constant_int ⟨.int i,H,I.tok _,⟨_,rfl⟩,h⟩
theorem Zac{b j pos}:PE X (.Constant (.bool b) j pos) (tC (.bl b)):=fun _ _ _ H _ I h=>Constant_bool ⟨.bl b,H,I,rfl,h⟩
theorem Rz{j pos}:PE X (.Constant .none j pos) (tC .non):=fun _ _ _ H _ I h=>Constant_none ⟨.non,H,I,rfl,h⟩
theorem RD{x j pos}:PE X (.Constant (.str x) j pos) (tC (.str x)):=fun _ _ _ H _ I h=>Calls.Constant_str ⟨.str x,H,I.tok _,⟨_,rfl⟩,h⟩
def Gl(X:Cx)(x:Str):Prop:=X.env.kindOf x=some .globalImplicit
theorem lg{E:Value→Shared→Prop}{pins:List (Addr×Obj)}{s:Shared}{σ:St}{H:Hp}{x:Str}{u:Value}{pos:Pos}{Q:Value→Shared→Prop}(I:Inv X pins σ H s)(hg:Gl X x)(hm:X.mg x=some u)(h:Q u s)
 (hd:(x== ("__debug__" :Str))=false:=by decide):wpAny (model X.prog X.w) X.A (eval (.Name x pos) X.env) Q E s:=
 Calls.Name_function_global I.ok.kind hg (Calls.loadGlobal_global (by rw[I.ok.glob];exact I.mod.glob.keeps I.bk) hm h) hd
theorem lH{E:Value→Shared→Prop}{pins:List (Addr×Obj)}{s:Shared}{σ:St}{H:Hp}{x:Str}{u:Value}{pos:Pos}{Q:Value→Shared→Prop}(I:Inv X pins σ H s)(hg:Gl X x)(hm:X.mg x=none)(hv:bootBuiltins x=some u)(h:Q u s)
 (hn:x≠ "__name__" := by decide)(hd:(x== ("__debug__" :Str))=false:=by decide):wpAny (model X.prog X.w) X.A (eval (.Name x pos) X.env) Q E s:=by
 obtain⟨mb,h1,h2⟩:=I.mod.blt
 exact Calls.Name_function_global I.ok.kind hg (Calls.loadGlobal_builtin (by rw[I.ok.glob];exact I.mod.glob.keeps I.bk) hm (by rw[I.ok.blt];exact h1.keeps I.bk) ((h2 x hn).trans hv) h) hd
theorem lq{x:Str}{v:V}{u:Value}{pos:Pos}(hg:Gl X x)(hm:X.mg x=some u)(r:RelV v u)(hd:(x== ("__debug__" :Str))=false:=by decide):PE X (.Name x pos) (tC v):=
 fun _ _ _ H _ I h=>lg I hg hm ⟨v,H,I,r,h⟩ hd
theorem bf{x:Str}{v:V}{u:Value}{pos:Pos}(hg:Gl X x)(hm:X.mg x=none)(hv:bootBuiltins x=some u)(r:RelV v u)(hn:x≠ "__name__" := by decide)(hd:(x== ("__debug__" :Str))=false:=by decide):PE X (.Name x pos) (tC v):=
 fun _ _ _ H _ I h=>lH I hg hm hv ⟨v,H,I,r,h⟩ hn hd
variable{a b:Expr}{ta tb:TE}{pos:Pos}
variable{tA tB':TT}{rest:List Expr}
def ZgC(t u:TT):TT:=fun σ H Q=>t σ H fun c H1=>if c=true then u σ H1 Q else Q false H1
def tOr(t u:TT):TT:=fun σ H Q=>t σ H fun c H1=>if c=true then Q true H1 else u σ H1 Q
def ZgD(t:TT):TT:=fun σ H Q=>t σ H fun c H1=>Q (!c) H1
theorem Lp(ha:PT X a tA):PW X (.BoolOp .And [a] pos) tA:=by
 intro wh pins s σ H Q I h
 refine isTrue_and (ű (ha pins s σ H Q I h) fun c s1 e=>?_)
 cases c with
 |true=>exact isTrue_and_nil e
 |false=>exact e
theorem RG(ha:PT X a tA):PW X (.BoolOp .Or [a] pos) tA:=by
 intro wh pins s σ H Q I h
 refine isTrue_or (ű (ha pins s σ H Q I h) fun c s1 e=>?_)
 cases c with
 |false=>exact isTrue_or_nil e
 |true=>exact e
theorem RJ(ha:PT X a tA)(hb:PW X (.BoolOp .And (b::rest) pos) tB'):PW X (.BoolOp .And (a::b::rest) pos) (ZgC tA tB'):=by
 intro wh pins s σ H Q I h
 refine isTrue_and (ű (ha pins s σ H _ I h) fun c s1 ⟨H1,I1,q1⟩=>?_)
 cases c with
 |true=>exact hb wh pins s1 σ H1 Q I1 q1
 |false=>exact⟨H1,I1,q1⟩
theorem Zad(ha:PT X a tA)(hb:PW X (.BoolOp .Or (b::rest) pos) tB'):PW X (.BoolOp .Or (a::b::rest) pos) (tOr tA tB'):=by
 intro wh pins s σ H Q I h
 refine isTrue_or (ű (ha pins s σ H _ I h) fun c s1 ⟨H1,I1,q1⟩=>?_)
 cases c with
 |true=>exact⟨H1,I1,q1⟩
 |false=>exact hb wh pins s1 σ H1 Q I1 q1
theorem RK(ha:PT X a tA):PT X (.UnaryOp .Not a pos) (ZgD tA):=by
 intro pins s σ H Q I h
 exact isTrue_not (ha pins s σ H (fun c H1=>Q (!c) H1) I h)
theorem RL{op}{t:TE}(h:PE X a t):PE X (.BoolOp op [a] pos) t:=fun pins s σ H Q I hw=>BoolOp_one (h pins s σ H Q I hw)
end
end L2
namespace L2
open PySem PySem.Spec PyProof.Rows
def aB(K:PySem.W.Frag)(H:Hp)(a:Addr)(xs:List V):Prop:=
 Rd H a (.lst xs)∨
  ∃(o:Obj) (its:Array Value) (n:Nat),K.lookup a=some o∧o.cls=.type "list" ∧o.dict=none∧o.data=.seq its n∧its.size≤sizeLine∧Vals xs its.toList
def cF(K:PySem.W.Frag)(H:Hp)(a:Addr)(xs:List V):Prop:=
 Rd H a (.tup xs)∨
  ∃(o:Obj) (its:Array Value) (n:Nat),K.lookup a=some o∧o.cls=.type "tuple" ∧o.data=.seq its n∧its.size≤sizeLine∧Vals xs its.toList
def ZgE:Value→Option V
 | .none=>some .non
 | .bool b=>some (.bl b)
 | .int i _=>some (.int i)
 | .str x _=>some (.str x)
 | .bytes b _=>some (.Pa b)
 | .float b _=>some (.flt b)
 | .ref a=>some (.ref a)
 | .type n=>some (.ty n)
 |_=>none
theorem RelV.abs{x:V}{u:Value}(r:RelV x u):ZgE u=some x:=by
 cases x with
 |non=>cases r;rfl
 |bl _=>cases r;rfl
 |int _=>obtain⟨t,rfl⟩:=r;rfl
 |str _=>obtain⟨t,rfl⟩:=r;rfl
 |Pa _=>obtain⟨t,rfl⟩:=r;rfl
 |flt _=>obtain⟨t,rfl⟩:=r;rfl
 |ref _=>cases r;rfl
 |ty _=>cases r;rfl
theorem RelV.inj{x y:V}{u:Value}(r:RelV x u)(q:RelV y u):x=y:=Option.some.inj (r.abs.symm.trans q.abs)
theorem Vals.inj:∀{xs ys:List V} {us:List Value},Vals xs us→Vals ys us→xs=ys
 |_,_,_,.nil,.nil=>rfl
 |_,_,_,.cons r t,.cons r' t'=>by rw[r.inj r',Vals.inj t t']
section
variable{X:Cx}{pins:List (Addr×Obj)}{σ:St}{H:Hp}{s:Shared}{a:Addr}{xs ys:List V}
theorem aB.of{K:PySem.W.Frag}(h:H a=some (.lst xs)):aB K H a xs:=.inl (.inl h)
theorem cF.of{K:PySem.W.Frag}(h:H a=some (.tup xs)):cF K H a xs:=.inl (.inl h)
theorem Inv.list(I:Inv X pins σ H s)(h:aB X.K H a xs):∃its:List Value,Vals xs its∧PlainL s.heap a its.toArray∧xs.length≤sizeLine:=by
 rcases h with h|⟨o,its,n,hk,hc,hd,hs,hz,r⟩
 ·obtain⟨z,its,n,r,e⟩:=h.ok I.hok
  exact⟨its,r,⟨_,n,e,rfl,rfl,rfl⟩,z⟩
 ·refine⟨its.toList,r,⟨o,n,I.i_ a o hk,hc,hd,by simpa using hs⟩,?_⟩
  have e:=r.length
  simp only[Array.length_toList] at e
  omega
theorem Inv.tuple(I:Inv X pins σ H s)(h:cF X.K H a xs):∃its:List Value,Vals xs its∧IsTup s.heap a its.toArray∧xs.length≤sizeLine:=by
 rcases h with h|⟨o,its,n,hk,hc,hs,hz,r⟩
 ·obtain⟨z,its,r,p⟩:=h.ok I.hok
  exact⟨its,r,p,z⟩
 ·refine⟨its.toList,r,⟨o,I.i_ a o hk,hc,n,by simpa using hs⟩,?_⟩
  have e:=r.length
  simp only[Array.length_toList] at e
  omega
theorem Inv.tK(I:Inv X pins σ H s)(h:aB X.K H a xs)(h':aB X.K H a ys):xs=ys:=by
 obtain⟨its,r,⟨o,n,e,_,_,d⟩,_⟩:=I.list h
 obtain⟨its',r',⟨o',n',e',_,_,d'⟩,_⟩:=I.list h'
 rw[e] at e';cases e'
 rw[d] at d'
 injection d' with d1 _
 have:its=its':=by simpa using congrArg Array.toList d1
 subst this
 exact r.inj r'
theorem Inv.oU(I:Inv X pins σ H s)(h:cF X.K H a xs)(h':cF X.K H a ys):xs=ys:=by
 obtain⟨its,r,⟨o,e,_,n,d⟩,_⟩:=I.tuple h
 obtain⟨its',r',⟨o',e',_,n',d'⟩,_⟩:=I.tuple h'
 rw[e] at e';cases e'
 rw[d] at d'
 injection d' with d1 _
 have:its=its':=by simpa using congrArg Array.toList d1
 subst this
 exact r.inj r'
end
abbrev Cx.wish(X:Cx)(E:Value→Shared→Prop):Cx:={X with xe:=E}
abbrev Cx.aj(X:Cx):Cx:=X.wish fun _ _=>False
theorem Cx.Ok.wish{X:Cx}(ok:X.Ok)(E:Value→Shared→Prop):(X.wish E).Ok:=
 ⟨ok.mod,ok.kind,ok.glob,ok.blt,ok.above,ok.inj,ok.has,ok.cab,ok.hd,ok.frames,ok.stk,ok.exf,ok.bs,ok.Lj,ok.Aw,ok.Lk,ok.j_,ok.Rx⟩
theorem Cx.Ok.dz{X:Cx}{E:Value→Shared→Prop}(ok:(X.wish E).Ok):X.Ok:=
 ⟨ok.mod,ok.kind,ok.glob,ok.blt,ok.above,ok.inj,ok.has,ok.cab,ok.hd,ok.frames,ok.stk,ok.exf,ok.bs,ok.Lj,ok.Aw,ok.Lk,ok.j_,ok.Rx⟩
section
variable{X:Cx}{pins:List (Addr×Obj)}{σ:St}{H:Hp}{s:Shared}{E:Value→Shared→Prop}
theorem Inv.wish(I:Inv X pins σ H s)(E:Value→Shared→Prop):Inv (X.wish E) pins σ H s:=⟨I.ok.wish E,I.os,I.bare,I.base,I.loc,I.cell,I.free,I.gC,I.pin,I.hok,I.len⟩
theorem Inv.dz(I:Inv (X.wish E) pins σ H s):Inv X pins σ H s:=⟨I.ok.dz,I.os,I.bare,I.base,I.loc,I.cell,I.free,I.gC,I.pin,I.hok,I.len⟩
theorem SP.dz{D:Ends}{f:Flow}{s':Shared}(h:SP (X.wish E) pins D f s'):SP X pins D f s':=by
 cases f with
 |next=>obtain⟨σ',H',I,q⟩:=h;exact⟨σ',H',I.dz,q⟩
 |brk=>obtain⟨σ',H',I,q⟩:=h;exact⟨σ',H',I.dz,q⟩
 |cont=>obtain⟨σ',H',I,q⟩:=h;exact⟨σ',H',I.dz,q⟩
 |ret u=>obtain⟨v,σ',H',I,r,q⟩:=h;exact⟨v,σ',H',I.dz,r,q⟩
theorem PE.aj{e:Expr}{t:TE}(h:PE X.aj e t):PE X e t:=fun pins s σ H Q I hw=>
 wpAny_mono (h pins s σ H Q (I.wish _) hw) (fun _ _ ⟨v,H',I',r,q⟩=>⟨v,H',I'.dz,r,q⟩) fun _ _ z=>False.elim z
end
section
variable{X:Cx}{st:Stmt}{rest:List Stmt}{t u:TS}{e:Expr}{te:TE}{pos:Pos}
def Zae:TS:=fun D σ H=>D.nx σ H
def ZgF(t u:TS):TS:=fun D σ H=>t {D with nx:=u D} σ H
theorem Lq:kh X [] Zae:=fun _ _ σ H _ I h=>wpAny_execs_nil ⟨σ,H,I,h⟩
theorem Cz(h1:PS X st t)(h2:kh X rest u):kh X (st::rest) (ZgF t u):=by
 intro pins s σ H D I h
 refine wpAny_execs_cons (ű (h1 pins s σ H {D with nx:=u D} I h) fun f s1 q=>?_)
 cases f with
 |next=>
  obtain⟨σ',H',I',q⟩:=q
  exact h2 pins s1 σ' H' D I' q
 |ret v=>exact q
 |brk=>exact q
 |cont=>exact q
theorem Lr(h1:PS X st t):kh X [st] t:=by
 intro pins s σ H D I h
 refine wpAny_execs_cons (ű (h1 pins s σ H D I h) fun f s1 q=>?_)
 cases f with
 |next=>exact wpAny_execs_nil q
 |ret v=>exact q
 |brk=>exact q
 |cont=>exact q
theorem Inv.quiet{pins:List (Addr×Obj)}{σ:St}{H:Hp}{s:Shared}(I:Inv X pins σ H s):interactive X.env=false:=by simp[interactive,I.ok.kind]
def yX(te:TE):TS:=fun D σ H=>te σ H fun _ H1=>D.nx σ H1
theorem cJ(he:PE X e te)(hs:swapsWith e none pos.line X.env=pure false:=by rfl):PS X (.Expr e pos) (yX te):=by
 intro pins s σ H D I h
 exact wpAny_Expr_any (ű (he pins s σ H _ I h) fun v s1 ⟨x,H1,I1,r1,q1⟩=>⟨σ,H1,I1,q1⟩) I.quiet hs
def ZgG(te:TE):TS:=fun D σ H=>te σ H D.rt
theorem RM(he:PE X e te):PS X (.Return (some e) pos) (ZgG te):=by
 intro pins s σ H D I h
 exact wpAny_Return_some (ű (he pins s σ H _ I h) fun v s1 ⟨x,H1,I1,r1,q1⟩=>⟨x,σ,H1,I1,r1,q1⟩)
def ZgH(c:TT)(t u:TS):TS:=fun D σ H=>c σ H fun b H1=>if b=true then t D σ H1 else u D σ H1
theorem Zaf{c:Expr}{a b:List Stmt}{tc:TT}(hc:PT X c tc)(ha:kh X a t)(hb:kh X b u):PS X (.If c a b pos) (ZgH tc t u):=by
 intro pins s σ H D I h
 refine wpAny_If (ű (hc pins s σ H _ I h) fun d s1 ⟨H1,I1,q1⟩=>?_)
 cases d with
 |true=>exact ha pins s1 σ H1 D I1 q1
 |false=>exact hb pins s1 σ H1 D I1 q1
def RN:TS:=fun _ _ _=>False
theorem CG:PS X st RN:=fun _ _ _ _ _ _ h=>h.elim
end
abbrev TG:=V→St→Hp→(St→Hp→Prop)→Prop
abbrev CJ:=List V→St→Hp→(St→Hp→Prop)→Prop
def PG(X:Cx)(target:Expr)(t:TG):Prop:=
 ∀(pins:List (Addr×Obj)) (s:Shared) (σ:St) (H:Hp) (v:V) (u:Value) (Q:St→Hp→Prop),Inv X pins σ H s→RelV v u→t v σ H Q→
  wpAny (model X.prog X.w) X.A (assign target X.env u) (fun _ s'=>∃σ' H',Inv X pins σ' H' s'∧Q σ' H') X.xe s
def wg(X:Cx)(ts:List Expr)(t:CJ):Prop:=
 ∀(pins:List (Addr×Obj)) (s:Shared) (σ:St) (H:Hp) (vs:List V) (us:List Value) (Q:St→Hp→Prop),Inv X pins σ H s→Vals vs us→t vs σ H Q→
  wpAny (model X.prog X.w) X.A (assignInOrder ((assignEach ts X.env).map (·.2)) us) (fun _ s'=>∃σ' H',Inv X pins σ' H' s'∧Q σ' H') X.xe s
abbrev RP:=V→V→V→Hp→(Hp→Prop)→Prop
def Zag(X:Cx)(t:RP):Prop:=
 ∀(pins:List (Addr×Obj)) (s:Shared) (σ:St) (H:Hp) (o i v:V) (ov iv u:Value) (Q:Hp→Prop),Inv X pins σ H s→RelV o ov→RelV i iv→RelV v u→t o i v H Q→
  wpAny (model X.prog X.w) X.A (setItem ov iv u) (fun _ s'=>∃H',Inv X pins σ H' s'∧Q H') X.xe s
section
variable{X:Cx}{pos:Pos}
def Pg(i:Nat):TG:=fun v σ H Q=>Q (σ.set i (some v)) H
theorem Ls{i:Nat}{x:Str}(hN:X.N.Nodup)(hi:X.N[i]?=some x)(hx:Loc X.env.scope x)(hf:X.fn x=true∨X.env.scope.names.lookup x=some .local:=by first|exact .inl rfl|exact .inr rfl|assumption):PG X (.Name x pos) (Pg i):=by
 intro pins s σ H v u Q I r h
 exact wpAny_assign_Name (iw I hN hi hx r (fun s' I'=>⟨_,H,I',h⟩) hf)
def ZgI:CJ:=fun vs σ H Q=>vs=[]∧Q σ H
def Zah(t:TG)(u:CJ):CJ:=fun vs σ H Q=>∃v r,vs=v::r∧t v σ H fun σ' H'=>u r σ' H' Q
theorem Lw:wg X [] ZgI:=by
 intro pins s σ H vs us Q I r h
 obtain⟨e,h⟩:=h
 subst e
 cases r
 exact assignInOrder_nil ⟨σ,H,I,h⟩
theorem CK{e:Expr}{es:List Expr}{t:TG}{u:CJ}(h1:PG X e t)(h2:wg X es u)
 (hs:(assignEach (e::es) X.env).map (·.2)=assign e X.env::(assignEach es X.env).map (·.2):=by rfl):wg X (e::es) (Zah t u):=by
 intro pins s σ H vs us Q I r h
 obtain⟨v,vr,e1,h⟩:=h
 subst e1
 cases r with
 |cons r rr=>
  rw[hs]
  refine assignInOrder_cons (ű (h1 pins s σ H _ _ _ I r h) fun _ s1 ⟨σ1,H1,I1,q1⟩=>?_)
  exact h2 pins s1 σ1 H1 _ _ Q I1 rr q1
def ZgJ(K:PySem.W.Frag)(n:Nat)(t:CJ):TG:=fun v σ H Q=>∃a xs,v=.ref a∧cF K H a xs∧xs.length=n∧t xs σ H Q
theorem CN{es:List Expr}{k:Nat}{t:CJ}{n:Nat}(hc:X.calm=true)(h:wg X es t)
 (hn:(assignEach es X.env).length=n:=by rfl)(hst:(assignEach es X.env).findIdx? (·.1)=none:=by rfl):PG X (.Tuple es k pos) (ZgJ X.K n t):=by
 intro pins s σ H v u Q I r hw
 obtain⟨a,xs,e1,hq,hl,hw⟩:=hw
 subst e1
 cases r
 obtain⟨its,rv,ht,hz⟩:=I.tuple hq
 refine assign_Tuple_tuple (I.ok.hd hc) ht (by simp[hn,←hl,rv.length]) hst fun h' hx=>?_
 have I1:Inv X pins σ H {s with heap:=h'}:=I.kept (t':=s.toks) fun b o e=>hx b o (Nat.ne_of_lt (Heap.lt_size e)) e
 exact h pins _ σ H xs _ Q I1 (by simpa using rv) hw
def ZgK(to ti:TE)(t:RP):TG:=fun v σ H Q=>to σ H fun o H1=>ti σ H1 fun i H2=>t o i v H2 fun H3=>Q σ H3
theorem RQ{o i:Expr}{to ti:TE}{t:RP}(ho:PE X o to)(hi:PE X i ti)(hs:Zag X t)
 (ha:∀v,assign (.Subscript o i pos) X.env v=(do
   let ov ←holding [v] (eval o X.env)
   let iv ←holding [v,ov] (eval i X.env)
   standAt pos
   holding [v,ov,iv] (setItem ov iv v)
   release [v,ov,iv] []):=by intro _;rfl):PG X (.Subscript o i pos) (ZgK to ti t):=by
 intro pins s σ H v u Q I r h
 rw[ha]
 refine wpAny_bind (wpAny_holding (ű (ho pins s σ H _ I h) fun ov s1 ⟨x,H1,I1,r1,q1⟩=>?_))
 refine wpAny_bind (wpAny_holding (ű (hi pins s1 σ H1 _ I1 q1) fun iv s2 ⟨y,H2,I2,r2,q2⟩=>?_))
 refine wpAny_bind (wpAny_standAt (wpAny_bind (wpAny_holding (ű (hs pins s2 σ H2 x y v ov iv u _ I2 r1 r2 r q2) fun _ s3 ⟨H3,I3,q3⟩=>?_))))
 exact wpAny_release ⟨σ,H3,I3,q3⟩
def Zai(te:TE)(g:TG):TS:=fun D σ H=>te σ H fun x H1=>g x σ H1 D.nx
theorem CP{tg e:Expr}{te:TE}{g:TG}(he:PE X e te)(hg:PG X tg g)(hs:swapsWithSole [tg] e pos.line X.env=pure false:=by rfl)(hw:swappedStores [tg] e X.env=pure none:=by rfl)
 (h1:(assignEach [tg] X.env).map (·.2)=[assign tg X.env]:=by rfl):PS X (.Assign [tg] e pos) (Zai te g):=by
 intro pins s σ H D I h
 refine wpAny_Assign_stores (ű (he pins s σ H _ I h) fun v s1 ⟨x,H1,I1,r1,q1⟩=>?_) hs hw
 rw[h1]
 exact ű (hg pins s1 σ H1 x v _ I1 r1 q1) fun _ s2 q=>q
theorem RT{i:Nat}{x:Str}{e:Expr}{te:TE}{pos':Pos}(hN:X.N.Nodup)(hi:X.N[i]?=some x)(hx:Loc X.env.scope x)(he:PE X e te)(hs:swapsWith e (some (.Name x pos')) pos.line X.env=pure false:=by rfl)(hf:X.fn x=true∨X.env.scope.names.lookup x=some .local:=by first|exact .inl rfl|exact .inr rfl|assumption) :
 PS X (.Assign [.Name x pos'] e pos) (Zai te (Pg i)):=by
 intro pins s σ H D I h
 refine wpAny_Assign_Name (ű (he pins s σ H _ I h) fun v s1 ⟨y,H1,I1,r1,q1⟩=>?_) hs
 exact iw I1 hN hi hx r1 (fun s2 I2=>⟨_,H1,I2,q1⟩) hf
def Zaj(i j:Nat)(ta:TA):TS:=fun D σ H=>ta σ H fun vs H1=>∃v w,vs=[v,w]∧D.nx ((σ.set i (some v)).set j (some w)) H1
theorem RW{i j:Nat}{x y:Str}{a b:Expr}{ta:TA}{px py pt:Pos}{kt k2 pt2}(hc:X.calm=true)(hN:X.N.Nodup)(hi:X.N[i]?=some x)(hj:X.N[j]?=some y)(hij:i≠j)
 (hx:X.env.scope.names.lookup x=some .local)(hy:X.env.scope.names.lookup y=some .local)(ha:PA X [a,b] ta)
 (hw:swappedStores [.Tuple [.Name x px,.Name y py] kt pt] (.Tuple [a,b] k2 pt2) X.env=pure (some [x,y]))
 (hs:swapsWithSole [.Tuple [.Name x px,.Name y py] kt pt] (.Tuple [a,b] k2 pt2) pos.line X.env=pure false:=by rfl) :
 PS X (.Assign [.Tuple [.Name x px,.Name y py] kt pt] (.Tuple [a,b] k2 pt2) pos) (Zaj i j ta):=by
 intro pins s σ H D I h
 rw[exec_Assign_arm]
 refine wpAny_bind (wpAny_standAt ?_)
 rw[hs]
 refine wpAny_bind (wpAny_pure ?_)
 rw[if_neg (by decide)]
 refine wpAny_bind (Tuple_ (ű (ha _ pins s σ H _ I h) fun us s1 ⟨vs,H1,I1,r1,q1⟩=>?_))
 obtain⟨v,w,e1,q1⟩:=q1
 subst e1
 obtain⟨u1,u2,rfl,rv,rw'⟩:∃u1 u2,us=[u1,u2]∧RelV v u1∧RelV w u2:=by
  cases r1 with
  |cons p q=>
   cases q with
   |cons p' q'=>
    cases q'
    exact⟨_,_,rfl,p,p'⟩
 refine wpAny_newObj_type ?_ (by show 2≤sizeLine;decide)
 have I2:Inv X pins σ H1 {s1 with heap:=s1.heap.push {cls:=.type "tuple",data:=.seq [u1,u2].toArray}}:=I1.kept (t':=s1.toks) fun b o e=>Heap.get?_push_of_some _ e
 rw[hw]
 refine wpAny_bind (wpAny_pure ?_)
 show wpAny (model X.prog X.w) X.A (do rule "assign.swapped-stores";let items ←unpackItems (.ref s1.heap.objs.size) 2 none;assignInOrder [fun v=>bindName X.env y v,fun v=>bindName X.env x v] items.reverse;pure Flow.next) _ _ _
 refine wpAny_bind (wpAny_rule (wpAny_bind (unpackItems_tuple (items:=#[u1,u2]) (I.ok.hd hc) (IsTup.new s1.heap _) fun h' hx'=>?_)))
 have I3:=I2.kept (h':=h') (t':=s1.toks) fun b o e=>hx' b o (Nat.ne_of_lt (Heap.lt_size e)) e
 show wpAny _ _ (assignInOrder [fun v=>bindName X.env y v,fun v=>bindName X.env x v] [u2,u1] >>= fun _=>pure Flow.next) _ _ _
 refine wpAny_bind (assignInOrder_cons (wpAny_bindName (iw I3 hN hj (.inl hy) rw' (fun s2 I4=>?_) (.inr hy))))
 refine assignInOrder_cons (wpAny_bindName (iw I4 hN hi (.inl hx) rv (fun s3 I5=>assignInOrder_nil (wpAny_pure ?_)) (.inr hx)))
 rw[List.set_comm _ _ (Ne.symm hij)] at I5
 exact⟨_,H1,I5,q1⟩
end
section
variable{X:Cx}{pos:Pos}
def RX(c:TT)(tb:TS):TS:=fun D σ H=>∃W:Nat→St→Hp→Prop,(∃m,W m σ H)∧∀m σ H,W m σ H→
 c σ H fun b H1=>if b=true then ∃N:St→Hp→Prop,(∀σ' H',N σ' H'→∃m',m'<m∧W m' σ' H')∧tb {D with nx:=N,ct:=N,bk:=D.nx} σ H1 else D.nx σ H1
theorem CQ{c:Expr}{body:List Stmt}{tc:TT}{tb:TS}(hp:PassesOwn (model X.prog X.w) X.A X.env X.xe)(hc:PT X c tc)(hb:kh X body tb):PS X (.While c body [] pos) (RX tc tb):=by
 intro pins s σ H D I h
 obtain⟨W,⟨m0,w0⟩,turn⟩:=h
 refine wpAny_While (codeAny_whileLoop (fun n s'=>∃σ' H',Inv X pins σ' H' s'∧W n σ' H') ?_ m0 ⟨σ,H,I,w0⟩)
 rintro n s1 ⟨σ1,H1,I1,w1⟩
 refine wpAny_passesOwn hp (ű (hc pins s1 σ1 H1 _ I1 (turn n σ1 H1 w1)) fun b s2 ⟨H2,I2,q2⟩=>?_)
 cases b with
 |true=>
  obtain⟨N,hN,q2⟩:=q2
  rw[if_pos rfl]
  refine wpAny_passesOwn hp (ű (hb pins s2 σ1 H2 _ I2 q2) fun f s3 q3=>?_)
  cases f with
  |next=>
   obtain⟨σ3,H3,I3,n3⟩:=q3
   obtain⟨m',hm,w3⟩:=hN σ3 H3 n3
   exact⟨m',hm,σ3,H3,I3,w3⟩
  |cont=>
   obtain⟨σ3,H3,I3,n3⟩:=q3
   obtain⟨m',hm,w3⟩:=hN σ3 H3 n3
   exact⟨m',hm,σ3,H3,I3,w3⟩
  |brk=>exact q3
  |ret v=>exact q3
 |false=>
  rw[if_neg Bool.false_ne_true]
  exact wpAny_execs_nil ⟨σ1,H2,I2,q2⟩
end
structure It where
 go:Nat→Hp→Prop
 yld:Nat→Hp→V→Hp→Prop
 stop:Nat→Hp→Prop
def eG(X:Cx)(pins:List (Addr×Obj))(H:Hp)(b:Addr):Prop:=
 H b=none∧b≠X.env.locals∧b∉X.fs∧(b∈X.ex∨X.s₀.heap.objs.size≤b)∧(∀x c,X.env.cells.lookup x=some c→c≠b)∧∀p∈X.pn++pins,p.1≠b
theorem Inv.CT{X:Cx}{pins:List (Addr×Obj)}{σ:St}{H H':Hp}{s:Shared}{b:Addr}(I:Inv X pins σ H s)(hb:s.heap.objs.size≤b)(hn:H' b=none):eG X pins H' b:=by
 refine⟨hn,Nat.ne_of_gt (Nat.lt_of_lt_of_le I.lt hb),I.ZgA hb,.inr (Nat.le_trans I.sz hb),fun x c e z=>?_,fun p hp z=>?_⟩
 ·obtain⟨v,q⟩:=I.cell x c e
  exact absurd (Nat.lt_of_lt_of_le q.lt (by rw[z];exact hb)) (Nat.lt_irrefl _)
 ·exact absurd (Nat.lt_of_lt_of_le (Heap.lt_size (I.pin p hp).1) (by rw[z];exact hb)) (Nat.lt_irrefl _)
structure Turn(P:Program)(w:World)(K:PySem.W.Frag)(tg:Expr)(J:It)(fp:List Addr)(it:Addr)(tn:Nat→Heap→Prop):Prop where
 mem:it∈fp
 obj:∀i h,tn i h→∀b∈fp,∃o,h.get? b=some o∧∀v,o.data≠ .cell v
 keep:∀i h h',tn i h→(∀b∈fp,∀o,h.get? b=some o→h'.get? b=some o)→tn i h'
 item:∀(X:Cx),X.prog=P→X.w=w→X.K=K→X.calm=true→∀(i:Nat) (pins:List (Addr×Obj)) (s:Shared) (σ:St) (H:Hp) (E:Value→Shared→Prop),Inv X pins σ H s→(∀b∈fp,eG X pins H b)→tn i s.heap→J.go i H→
  wpAny (model P w) X.A (pyNext (.ref it)) (fun r s1=>∃u,r=some u∧
   wpAny (model P w) X.A (letOwnedTupleGo tg (.ref it) u) (fun _ s2=>∃x H',Inv X pins σ H' s2∧RelV x u∧J.yld i H x H'∧tn (i+1) s2.heap∧∀b∈fp,H' b=none) E s1) E s
 done:∀(X:Cx),X.prog=P→X.w=w→X.K=K→X.calm=true→∀(i:Nat) (pins:List (Addr×Obj)) (s:Shared) (σ:St) (H:Hp) (E:Value→Shared→Prop),Inv X pins σ H s→(∀b∈fp,eG X pins H b)→tn i s.heap→J.stop i H→
  wpAny (model P w) X.A (pyNext (.ref it)) (fun r s1=>r=none∧Inv X pins σ H s1) E s
 self:∀(A:Around) (i:Nat) (s:Shared) (Q:Value→Shared→Prop) (E:Value→Shared→Prop),tn i s.heap→Q (.ref it) s→wpAny (model P w) A (pyIter (.ref it)) Q E s
abbrev TI:=St→Hp→(It→Hp→Prop)→Prop
def PIE(X:Cx)(pins:List (Addr×Obj))(σ:St)(tg:Expr)(R:It→Hp→Prop)(itv:Value)(s2:Shared):Prop:=
 ∃(it:Addr) (fp:List Addr) (tn:Nat→Heap→Prop) (J:It) (H':Hp),itv=.ref it∧Inv X pins σ H' s2∧Turn X.prog X.w X.K tg J fp it tn∧tn 0 s2.heap∧(∀b∈fp,eG X pins H' b)∧R J H'
def PI(X:Cx)(tg iter:Expr)(wi:TI):Prop:=
 ∀(pins:List (Addr×Obj)) (s:Shared) (σ:St) (H:Hp) (R:It→Hp→Prop),Inv X pins σ H s→wi σ H R→
  wpAny (model X.prog X.w) X.A (eval iter X.env) (fun v s1=>wpAny (model X.prog X.w) X.A (pyIter v) (PIE X pins σ tg R) X.xe s1) X.xe s
theorem yZ{M:Model}{A:Around}{E:Value→Shared→Prop}{s:Shared}{tg:Expr}{it:Addr}{u:Value}{o:Obj}{n:String}{vs:Array Value}{Q:Unit→Shared→Prop}(ho:s.heap.get? it=some o)(hc:o.cls=.type n)(hd:o.data=.fields vs)
 (hn:["enumerate","zip","dict_itemiterator","dict_reverseitemiterator","odict_iterator","itertools.zip_longest","itertools.pairwise"].contains n=false)(hQ:Q () s):wpAny M A (letOwnedTupleGo tg (.ref it) u) Q E s:=by
 unfold letOwnedTupleGo
 cases tg<;>first
  |exact wpAny_pure hQ
  |(cases u<;>first
     |exact wpAny_pure hQ
     |(refine wpAny_bind (wpAny_load ho ?_)
       rw[hc,hd]
       show wpAny M A (if(["enumerate","zip","dict_itemiterator","dict_reverseitemiterator","odict_iterator","itertools.zip_longest","itertools.pairwise"].contains n && vs[0]?== some (rawInt _))=true then _ else _) Q E s
       rw[if_neg (by intro h;rw[hn,Bool.false_and] at h;cases h)]
       exact wpAny_pure hQ))
def YK(K:PySem.W.Frag)(a:Addr):It:=
 ⟨fun i H=>∃xs x,aB K H a xs∧xs[i]?=some x,fun i H x H'=>H'=H∧∀xs,aB K H a xs→xs[i]?=some x,fun i H=>∃xs,aB K H a xs∧xs.length≤i⟩
def Itt(K:PySem.W.Frag)(a:Addr):It:=
 ⟨fun i H=>∃xs x,cF K H a xs∧xs[i]?=some x,fun i H x H'=>H'=H∧∀xs,cF K H a xs→xs[i]?=some x,fun i H=>∃xs,cF K H a xs∧xs.length≤i⟩
def Itr(lo:Int)(n:Nat):It:=⟨fun i _=>i<n,fun i H x H'=>H'=H∧x=.int (lo+i),fun i _=>n≤i⟩
theorem Ax{P:Program}{w:World}{K:PySem.W.Frag}{tg:Expr}(a it:Addr):Turn P w K tg (YK K a) [it] it (fun i h=>h.IsListIter it a i) where
 mem:=by simp
 obj:=fun i h st b hb=>by
  have e:b=it:=by simpa using hb
  subst e
  obtain⟨o,e,c,d⟩:=st
  exact⟨o,e,fun v z=>by rw[d] at z;cases z⟩
 keep:=fun i h h' st k=>st.at fun o e=>k it (by simp) o e
 item:=by
  intro X hP hw hK hc i pins s σ H E I hf st hg
  subst hP hw hK
  obtain⟨xs,x,hq,hx⟩:=hg
  obtain⟨its,rv,p,hz⟩:=I.list hq
  obtain⟨u,hu,ru⟩:=rv.get hx
  obtain⟨f0,f1,f2,f3,f4,f5⟩:=hf it (by simp)
  refine wpAny_pyNext_list_item st p.isList (x:=u) (by simpa using hu) fun h' st' sb=>?_
  have I1:Inv X pins σ H {s with heap:=h'}:=I.turned (t':=s.toks) (fun b o hb e=>(sb.2 b hb).trans e) f0 f1 f3 f4 f5
  obtain⟨o,e,c,d⟩:=id st'
  exact⟨u,rfl,yZ (s:={s with heap:=h'}) e c d (by decide) ⟨x,H,I1,ru,⟨rfl,fun ys hy=>by rw[I.tK hy hq];exact hx⟩,st',fun b hb=>(hf b hb).1⟩⟩
 done:=by
  intro X hP hw hK hc i pins s σ H E I hf st hg
  subst hP hw hK
  obtain⟨xs,hq,hx⟩:=hg
  obtain⟨its,rv,p,hz⟩:=I.list hq
  obtain⟨f0,f1,f2,f3,f4,f5⟩:=hf it (by simp)
  have hl:=rv.length
  exact wpAny_pyNext_list_end (I.ok.hd hc) st p.isList (by simp;omega) fun h' eb=>⟨rfl,I.turned (t':=s.toks) (fun b o hb e=>eb b o hb e) f0 f1 f3 f4 f5⟩
 self:=fun _ _ _ _ _ st h=>wpAny_pyIter_listiter st h
theorem wj{P:Program}{w:World}{K:PySem.W.Frag}{tg:Expr}(a it:Addr):Turn P w K tg (Itt K a) [it] it (fun i h=>h.IsTupleIter it a i) where
 mem:=by simp
 obj:=fun i h st b hb=>by
  have e:b=it:=by simpa using hb
  subst e
  obtain⟨o,e,c,d⟩:=st
  exact⟨o,e,fun v z=>by rw[d] at z;cases z⟩
 keep:=fun i h h' st k=>st.at fun o e=>k it (by simp) o e
 item:=by
  intro X hP hw hK hc i pins s σ H E I hf st hg
  subst hP hw hK
  obtain⟨xs,x,hq,hx⟩:=hg
  obtain⟨its,rv,p,hz⟩:=I.tuple hq
  obtain⟨u,hu,ru⟩:=rv.get hx
  obtain⟨f0,f1,f2,f3,f4,f5⟩:=hf it (by simp)
  refine wpAny_pyNext_tuple_item st (show s.heap.IsTuple a its.toArray from p) (x:=u) (by simpa using hu) fun h' st' sb=>?_
  have I1:Inv X pins σ H {s with heap:=h'}:=I.turned (t':=s.toks) (fun b o hb e=>(sb.2 b hb).trans e) f0 f1 f3 f4 f5
  obtain⟨o,e,c,d⟩:=id st'
  exact⟨u,rfl,yZ (s:={s with heap:=h'}) e c d (by decide) ⟨x,H,I1,ru,⟨rfl,fun ys hy=>by rw[I.oU hy hq];exact hx⟩,st',fun b hb=>(hf b hb).1⟩⟩
 done:=by
  intro X hP hw hK hc i pins s σ H E I hf st hg
  subst hP hw hK
  obtain⟨xs,hq,hx⟩:=hg
  obtain⟨its,rv,p,hz⟩:=I.tuple hq
  obtain⟨f0,f1,f2,f3,f4,f5⟩:=hf it (by simp)
  have hl:=rv.length
  exact wpAny_pyNext_tuple_end (I.ok.hd hc) st (show s.heap.IsTuple a its.toArray from p) (by simp;omega) fun h' eb=>⟨rfl,I.turned (t':=s.toks) (fun b o hb e=>eb b o hb e) f0 f1 f3 f4 f5⟩
 self:=fun _ _ _ _ _ st h=>wpAny_pyIter_tupleiter st h
theorem wu{P:Program}{w:World}{K:PySem.W.Frag}{tg:Expr}(it:Addr)(lo:Int)(n:Nat):Turn P w K tg (Itr lo n) [it] it (fun i h=>IsRangeIter h it (lo+(i:Nat)*1) ((n:Int)-(i:Nat)) 1) where
 mem:=by simp
 obj:=fun i h st b hb=>by
  have e:b=it:=by simpa using hb
  subst e
  exact⟨_,st,fun v z=>by
   have z':Data.fields _=Data.cell v:=z
   cases z'⟩
 keep:=fun i h h' st k=>k it (by simp) _ st
 item:=by
  intro X hP hw hK hc i pins s σ H E I hf st hg
  subst hP hw hK
  obtain⟨f0,f1,f2,f3,f4,f5⟩:=hf it (by simp)
  have W:=Walks.range (prog:=X.prog) (w:=X.w) (I.ok.hd hc) it lo 1 n
  refine W.item i s _ _ hg st fun v h' tk hv st' kk=>?_
  obtain⟨t,rfl⟩:=hv
  have I1:Inv X pins σ H {s with heap:=h',toks:=tk}:=I.turned (fun b o hb e=>kk b o (by simpa using hb) e) f0 f1 f3 f4 f5
  refine⟨_,rfl,yZ (s:={s with heap:=h',toks:=tk}) (n:= "range_iterator") st' rfl rfl (by decide) ⟨.int (lo+i),H,I1,⟨t,?_⟩,⟨rfl,rfl⟩,st',fun b hb=>(hf b hb).1⟩⟩
  rw[Int.mul_one]
 done:=by
  intro X hP hw hK hc i pins s σ H E I hf st hg
  subst hP hw hK
  obtain⟨f0,f1,f2,f3,f4,f5⟩:=hf it (by simp)
  exact wpAny_pyNext_range_end (I.ok.hd hc) st (by have:n≤i:=hg;omega) fun h' eb=>⟨rfl,I.turned (t':=s.toks) (fun b o hb e=>eb b o hb e) f0 f1 f3 f4 f5⟩
 self:=fun _ _ _ _ _ st h=>wpAny_pyIter_rangeiter st h
end L2
namespace L2
open PySem PySem.Spec PyProof.Rows
section
variable{X:Cx}{tg:Expr}
theorem CV{pins:List (Addr×Obj)}{σ:St}{H:Hp}{s:Shared}{R:It→Hp→Prop}{E:Value→Shared→Prop}{lo hi:Int}{t u v:Tok}{tk:Nat}(I:Inv X pins σ H s)(h1: -(2 ^ 62)≤lo)(h2:lo<2 ^ 62)(h3: -(2 ^ 62)≤hi)(h4:hi<2 ^ 62)
 (q:R (Itr lo (hi-lo).toNat) H):wpAny (model X.prog X.w) X.A (pyIter (.ref s.heap.objs.size)) (PIE X pins σ tg R) E {s with heap:=s.heap.push {cls:=.type "range",data:=.fields #[.int lo t,.int hi u,.int 1 v]},toks:=tk}:=by
 refine wpAny_pyIter_range (IsRange.new ..) (small_one h1 h2 h3 h4) ?_
 have I1:Inv X pins σ H {s with heap:=s.heap.push {cls:=.type "range",data:=.fields #[.int lo t,.int hi u,.int 1 v]},toks:=tk}:=I.kept fun b o e=>Heap.get?_push_of_some _ e
 refine⟨(s.heap.push {cls:=.type "range",data:=.fields #[.int lo t,.int hi u,.int 1 v]}).objs.size,[(s.heap.push {cls:=.type "range",data:=.fields #[.int lo t,.int hi u,.int 1 v]}).objs.size],_,_,H,rfl,
  I1.kept (t':=tk) fun b o e=>Heap.get?_push_of_some _ e,wu _ lo (hi-lo).toNat,?_,fun b hb=>?_,q⟩
 ·have e1:lo+((0:Nat):Int)*1=lo:=by simp
  have e2:(((hi-lo).toNat:Nat):Int)-((0:Nat):Int)=Builtin.Range.rangeSize lo hi 1:=by rw[rangeSize_one];split<;>omega
  show IsRangeIter _ _ (lo+((0:Nat):Int)*1) ((((hi-lo).toNat:Nat):Int)-((0:Nat):Int)) 1
  rw[e1,e2]
  exact Heap.get?_push_size _ rfl
 ·have e:b=(s.heap.push {cls:=.type "range",data:=.fields #[.int lo t,.int hi u,.int 1 v]}).objs.size:=by simpa using hb
  subst e
  exact I1.CT (Nat.le_refl _) (I1.hok.fresh (Nat.le_refl _))
def Zak(ta:TA):TI:=fun σ H R=>ta σ H fun vs H1=>∃j:Int,vs=[.int j]∧ -(2 ^ 62)≤j∧j<2 ^ 62∧R (Itr 0 j.toNat) H1
theorem Ay{a:Expr}{ta:TA}{p pos:Pos}(hg:Gl X "range")(hm:X.mg "range" =none)(ha:PA X [a] ta)(hs:starEach [a] X.env=[(false,eval a X.env)]:=by rfl):PI X tg (.Call (.Name "range" p) [a] [] pos) (Zak ta):=by
 intro pins s σ H R I h
 refine Call_ (lH I hg hm boot_range (PyProof.Rows.callWith_type1 (ű (ha pos pins s σ H _ I h) fun us s1 ⟨vs,H1,I1,r1,q1⟩=>?_) hs rfl))
 obtain⟨j,e,q1,q2,q⟩:=q1
 subst e
 cases r1 with
 |cons r rr=>
  cases rr
  obtain⟨t,rfl⟩:=r
  exact call_range_1 (CV I1 (by omega) (by omega) q1 q2 (by simpa using q))
def ZgL(wi:TI)(g:TG)(tb:TS):TS:=fun D σ H=>wi σ H fun J H1=>∃W:Nat→Nat→St→Hp→Prop,(∃m,W 0 m σ H1)∧∀i m σ H,W i m σ H→
 (J.stop i H∧D.nx σ H)∨(J.go i H∧∃N:St→Hp→Prop,(∀σ' H',N σ' H'→∃m',m'<m∧W (i+1) m' σ' H')∧∀x H',J.yld i H x H'→g x σ H' fun σ2 H2=>tb {D with nx:=N,ct:=N,bk:=D.nx} σ2 H2)
def je(fp:List Addr)(h:Heap):List (Addr×Obj):=fp.filterMap fun b=>(h.get? b).map fun o=>(b,o)
theorem aX{fp:List Addr}{h:Heap}{b:Addr}{o:Obj}(hb:b∈fp)(e:h.get? b=some o):(b,o)∈je fp h:=List.mem_filterMap.mpr ⟨b,hb,by rw[e];rfl⟩
theorem Az{fp:List Addr}{h:Heap}{p:Addr×Obj}(hp:p∈je fp h):p.1∈fp∧h.get? p.1=some p.2:=by
 obtain⟨b,hb,e⟩:=List.mem_filterMap.mp hp
 cases q:h.get? b with
 |none=>rw[q] at e;cases e
 |some o=>
  rw[q] at e
  have e':(b,o)=p:=Option.some.inj e
  subst e'
  exact⟨hb,q⟩
theorem Inv.pinned{pins:List (Addr×Obj)}{σ:St}{H:Hp}{s:Shared}{fp:List Addr}(I:Inv X pins σ H s)(hf:∀b∈fp,eG X pins H b)(ho:∀b∈fp,∃o,s.heap.get? b=some o∧∀v,o.data≠ .cell v):Inv X (pins++je fp s.heap) σ H s:=
 I.yW fun p hp=>(List.mem_append.mp hp).elim (fun z=>I.pin p (List.mem_append_right _ z)) fun z=>by
   obtain⟨hb,e⟩:=Az z
   obtain⟨f0,f1,f2,_⟩:=hf p.1 hb
   obtain⟨o,e',d⟩:=ho p.1 hb
   rw[e] at e';cases e'
   exact⟨e,f0,f1,f2,d⟩
theorem Inv.eN{pins pl:List (Addr×Obj)}{σ:St}{H:Hp}{s:Shared}(I:Inv X (pins++pl) σ H s):Inv X pins σ H s:=I.yW fun p hp=>I.pin p (List.mem_append_right _ (List.mem_append_left _ hp))
theorem RZ{iter:Expr}{body:List Stmt}{wi:TI}{g:TG}{tb:TS}{pos:Pos}(hp:PassesOwn (model X.prog X.w) X.A X.env X.xe)(hc:X.calm=true)(hi:PI X tg iter wi)(hg:PG X tg g)(hb:kh X body tb)
 (hs:∀x,foldedSetIterable iter X.env x=pure x:=by intro _;rfl):PS X (.For tg iter body [] pos) (ZgL wi g tb):=by
 intro pins s σ H D I h
 refine wpAny_For (ű (hi pins s σ H _ I h) fun v s1 h1=>ű h1 fun itv s2 h2=>?_) hs
 obtain⟨it,fp,tn,J,H2,e,I2,T,st2,f2,W,⟨m0,w0⟩,turn⟩:=h2
 subst e
 -- what stays true of the iterator's objects through the loop
 have stat:∀{H':Hp},(∀b∈fp,H' b=none)→∀b∈fp,eG X pins H' b:=fun hn b hb=>⟨hn b hb,(f2 b hb).2⟩
 refine codeAny_forLoop_any (fun n s'=>∃i σ' H',Inv X pins σ' H' s'∧tn i s'.heap∧(∀b∈fp,H' b=none)∧W i n σ' H') ?_ m0 ⟨0,σ,H2,I2,st2,fun b hb=>(f2 b hb).1,w0⟩
 rintro n s3 ⟨i,σ3,H3,I3,st3,fr3,w3⟩
 rcases turn i n σ3 H3 w3 with⟨stop,qn⟩|⟨go,N,hN,step⟩
 ·refine wpAny_passesOwn hp (ű (T.done X rfl rfl rfl hc i pins s3 σ3 H3 X.xe I3 (stat fr3) st3 stop) fun r s4 ⟨hr,I4⟩=>?_)
  subst hr
  exact wpAny_execs_nil ⟨σ3,H3,I4,qn⟩
 ·refine wpAny_passesOwn hp (ű (T.item X rfl rfl rfl hc i pins s3 σ3 H3 X.xe I3 (stat fr3) st3 go) fun r s4 ⟨u,hr,h4⟩=>?_)
  subst hr
  refine wpAny_passesOwn hp (ű h4 fun _ s5 ⟨x,H5,I5,r5,y5,Lx,R_⟩=>?_)
  have I5':=I5.pinned (stat R_) (T.obj _ _ Lx)
  refine wpAny_passesOwn hp (ű (hg _ s5 σ3 H5 x u _ I5' r5 (step x H5 y5)) fun _ s6 ⟨σ6,H6,I6,q6⟩=>?_)
  refine wpAny_passesOwn hp (ű (hb _ s6 σ6 H6 _ I6 q6) fun f s7 q7=>?_)
  have again:∀{σ7:St} {H7:Hp},Inv X (pins++je fp s5.heap) σ7 H7 s7→N σ7 H7→∃m,m<n∧∃i σ' H',Inv X pins σ' H' s7∧tn i s7.heap∧(∀b∈fp,H' b=none)∧W i m σ' H':=fun{σ7 H7} I7 n7=>by
   obtain⟨m',hm,w7⟩:=hN σ7 H7 n7
   refine⟨m',hm,i+1,σ7,H7,I7.eN,T.keep _ _ _ Lx fun b hb o e=>(I7.pin (b,o) (List.mem_append_right _ (List.mem_append_right _ (aX hb e)))).1,fun b hb=>?_,w7⟩
   obtain⟨o,e,d⟩:=T.obj _ _ Lx b hb
   exact(I7.pin (b,o) (List.mem_append_right _ (List.mem_append_right _ (aX hb e)))).2.1
  cases f with
  |next=>obtain⟨σ7,H7,I7,n7⟩:=q7;exact again I7 n7
  |cont=>obtain⟨σ7,H7,I7,n7⟩:=q7;exact again I7 n7
  |brk=>obtain⟨σ7,H7,I7,q7⟩:=q7;exact⟨σ7,H7,I7.eN,q7⟩
  |ret v=>obtain⟨x7,σ7,H7,I7,r7,q7⟩:=q7;exact⟨x7,σ7,H7,I7.eN,r7,q7⟩
end
end L2
namespace L2
open PySem PySem.Spec PyProof.Rows
abbrev R2:=V→V→Hp→VK→Prop
def aY(X:Cx)(f:Value→Value→Sem Value)(r:R2):Prop:=
 ∀(pins:List (Addr×Obj)) (s:Shared) (σ:St) (H:Hp) (x y:V) (v u:Value) (Q:VK),Inv X pins σ H s→RelV x v→RelV y u→r x y H Q→
  wpAny (model X.prog X.w) X.A (f v u) (EP X pins σ Q) X.xe s
def Ly(X:Cx)(f:Value→Sem Value)(r:V→Hp→VK→Prop):Prop:=
 ∀(pins:List (Addr×Obj)) (s:Shared) (σ:St) (H:Hp) (x:V) (v:Value) (Q:VK),Inv X pins σ H s→RelV x v→r x H Q→
  wpAny (model X.prog X.w) X.A (f v) (EP X pins σ Q) X.xe s
def Ŝ(X:Cx)(f:Value)(r:List V→Hp→VK→Prop):Prop:=
 ∀(pins:List (Addr×Obj)) (s:Shared) (σ:St) (H:Hp) (xs:List V) (us:List Value) (Q:VK),Inv X pins σ H s→Vals xs us→r xs H Q→
  wpAny (model X.prog X.w) X.A (call f us) (EP X pins σ Q) X.xe s
def ZgM(X:Cx)(r:V→Hp→(Bool→Hp→Prop)→Prop):Prop:=
 ∀(pins:List (Addr×Obj)) (s:Shared) (σ:St) (H:Hp) (x:V) (v:Value) (Q:Bool→Hp→Prop),Inv X pins σ H s→RelV x v→r x H Q→
  wpAny (model X.prog X.w) X.A (truthy v) (TP X pins σ Q) X.xe s
def Sd(r:R2)(ta tb:TE):TE:=fun σ H Q=>ta σ H fun x H1=>tb σ H1 fun y H2=>r x y H2 Q
def tUn(r:V→Hp→VK→Prop)(ta:TE):TE:=fun σ H Q=>ta σ H fun x H1=>r x H1 Q
def rI(C:Int→Int→Prop)(g:Int→Int→V):R2:=fun x y H Q=>∃i j,x=.int i∧y=.int j∧C i j∧Q (g i j) H
def Ph(g:Int→Int→V):R2:=fun x y H Q=>∃i j,x=.int i∧y=.int j∧Q (g i j) H
def rU(g:Int→V):V→Hp→VK→Prop:=fun x H Q=>∃i,x=.int i∧Q (g i) H
section
variable{X:Cx}{a b c:Expr}{ta tb tc:TE}{pos:Pos}
theorem Sg(ha:PE X a ta)(hb:PE X b tb){pins:List (Addr×Obj)}{s:Shared}{σ:St}{H:Hp}{R:V→V→Hp→Prop}(I:Inv X pins σ H s)
 (h:ta σ H fun x H1=>tb σ H1 fun y H2=>R x y H2){Q:Value→Shared→Prop}{f:Value→Value→Sem Value}
 (hf:∀v u s2 x y H2,Inv X pins σ H2 s2→RelV x v→RelV y u→R x y H2→wpAny (model X.prog X.w) X.A (f v u) Q X.xe s2) :
 wpAny (model X.prog X.w) X.A (eval a X.env) (fun v s₁=>wpAny (model X.prog X.w) X.A (eval b X.env) (fun u s₂=>wpAny (model X.prog X.w) X.A (f v u) Q X.xe s₂) X.xe s₁) X.xe s:=by
 refine ű (ha pins s σ H _ I h) fun v s1 ⟨x,H1,I1,r1,q1⟩=>?_
 refine ű (hb pins s1 σ H1 _ I1 q1) fun u s2 ⟨y,H2,I2,r2,q2⟩=>?_
 exact hf v u s2 x y H2 I2 r1 r2 q2
theorem Pj{op:Operator}{r:R2}(ho:aY X (binaryOp op) r)(ha:PE X a ta)(hb:PE X b tb):PE X (.BinOp a op b pos) (Sd r ta tb):=by
 intro pins s σ H Q I h
 exact wpAny_BinOp (Sg ha hb I h fun v u s2 x y H2 I2 rx ry q=>ho pins s2 σ H2 x y v u Q I2 rx ry q)
theorem Zal{op:UnaryOp}{r:V→Hp→VK→Prop}(ho:Ly X (unaryOp op) r)(ha:PE X a ta):PE X (.UnaryOp op a pos) (tUn r ta):=by
 intro pins s σ H Q I h
 exact UnaryOp_ (ű (ha pins s σ H _ I h) fun v s1 ⟨x,H1,I1,r1,q1⟩=>ho pins s1 σ H1 x v Q I1 r1 q1)
theorem Cm{f:Value→Value→Sem Value}{C:Int→Int→Prop}{g:Int→Int→Int}
 (rule:∀(i j:Int) (t u:Tok) (s:Shared) (Q:Value→Shared→Prop) (E:Value→Shared→Prop),C i j→Q (.int (g i j) s.toks) {s with toks:=s.toks+1}→wpAny (model X.prog X.w) X.A (f (.int i t) (.int j u)) Q E s) :
 aY X f (rI C fun i j=>.int (g i j)):=by
 intro pins s σ H x y v u Q I rx ry h
 obtain⟨i,j,rfl,rfl,hc,q⟩:=h
 obtain⟨t,rfl⟩:=rx
 obtain⟨t',rfl⟩:=ry
 exact rule i j t t' s _ _ hc ⟨.int (g i j),H,I.tok _,⟨_,rfl⟩,q⟩
theorem A_{f:Value→Value→Sem Value}{g:Int→Int→Int}
 (rule:∀(i j:Int) (t u:Tok) (s:Shared) (Q:Value→Shared→Prop) (E:Value→Shared→Prop),Q (.int (g i j) s.toks) {s with toks:=s.toks+1}→wpAny (model X.prog X.w) X.A (f (.int i t) (.int j u)) Q E s) :
 aY X f (Ph fun i j=>.int (g i j)):=by
 intro pins s σ H x y v u Q I rx ry h
 obtain⟨i,j,rfl,rfl,q⟩:=h
 obtain⟨t,rfl⟩:=rx
 obtain⟨t',rfl⟩:=ry
 exact rule i j t t' s _ _ ⟨.int (g i j),H,I.tok _,⟨_,rfl⟩,q⟩
theorem Sh{f:Value→Value→Sem Value}{g:Int→Int→Bool}
 (rule:∀(i j:Int) (t u:Tok) (s:Shared) (Q:Value→Shared→Prop) (E:Value→Shared→Prop),Q (.bool (g i j)) s→wpAny (model X.prog X.w) X.A (f (.int i t) (.int j u)) Q E s) :
 aY X f (Ph fun i j=>.bl (g i j)):=by
 intro pins s σ H x y v u Q I rx ry h
 obtain⟨i,j,rfl,rfl,q⟩:=h
 obtain⟨t,rfl⟩:=rx
 obtain⟨t',rfl⟩:=ry
 exact rule i j t t' s _ _ ⟨.bl (g i j),H,I,rfl,q⟩
def Zam(i j:Int):Prop:=0<j∧j<1073741824
def Sq(i j:Int):Prop:=0≤j∧j≤1000000∧i.natAbs<2 ^ 64
def Ss(i j:Int):Prop:=(-(2 ^ 64)<i∧i<2 ^ 64)∨(-(2 ^ 64)<j∧j<2 ^ 64)
theorem Ss.ok{i j:Int}(h:Ss i j):IntMulOk i j:=by
 rcases h with⟨h1,h2⟩|⟨h1,h2⟩
 ·exact .of_left (intBits_le_64 h1 h2)
 ·exact .of_right (intBits_le_64 h1 h2)
theorem Sv:aY X (binaryOp .Add) (Ph fun i j=>.int (i+j)):=A_ fun _ _ _ _ _ _ _ q=>add_int q
theorem Sw:aY X (binaryOp .Sub) (Ph fun i j=>.int (i-j)):=A_ fun _ _ _ _ _ _ _ q=>sub_int q
theorem Lz:aY X (binaryOp .Mod) (rI (fun _ j=>j≠0) fun i j=>.int (i.fmod j)):=Cm fun _ _ _ _ _ _ _ hc q=>mod_int' hc q
theorem Sx:aY X (binaryOp .Pow) (rI Sq fun i j=>.int (i ^ j.toNat)):=Cm fun _ _ _ _ _ _ _ hc q=>pow_int_small hc.1 hc.2.1 hc.2.2 q
theorem unI{f:Value→Sem Value}{g:Int→Int}
 (rule:∀(i:Int) (t:Tok) (s:Shared) (Q:Value→Shared→Prop) (E:Value→Shared→Prop),Q (.int (g i) s.toks) {s with toks:=s.toks+1}→wpAny (model X.prog X.w) X.A (f (.int i t)) Q E s) :
 Ly X f (rU fun i=>.int (g i)):=by
 intro pins s σ H x v Q I rx h
 obtain⟨i,rfl,q⟩:=h
 obtain⟨t,rfl⟩:=rx
 exact rule i t s _ _ ⟨.int (g i),H,I.tok _,⟨_,rfl⟩,q⟩
theorem Sy:Ly X (unaryOp .USub) (rU fun i=>.int (-i)):=unI fun _ _ _ _ _ q=>neg_int q
end
section
variable{X:Cx}{a b c:Expr}{ta tb tc:TE}{pos:Pos}
theorem SJ{pins:List (Addr×Obj)}{σ:St}{H:Hp}{s:Shared}{Q:VK}{k k':Bool}(I:Inv X pins σ H s)(q:Q (.bl k) H)(e:k=k'):EP X pins σ Q (.bool k') s:=by
 subst e
 exact⟨.bl k,H,I,rfl,q⟩
theorem Zan:aY X (compareOp .Lt) (Ph fun i j=>.bl (decide (i<j))):=Sh fun _ _ _ _ _ _ _ q=>lt_int q
theorem Zao:aY X (compareOp .LtE) (Ph fun i j=>.bl (decide (i≤j))):=Sh fun _ _ _ _ _ _ _ q=>le_int q
theorem Zap:aY X (compareOp .GtE) (Ph fun i j=>.bl (decide (j≤i))):=Sh fun _ _ _ _ _ _ _ q=>ge_int q
theorem SM:aY X (compareOp .Is) (fun x y H Q=>y=.non∧Q (.bl (decide (x=.non))) H):=by
 intro pins s σ H x y v u Q I rx ry h
 obtain⟨rfl,q⟩:=h
 cases ry
 refine is_none_gen (SJ I q ?_)
 cases x<;>first
  |(cases rx;rfl)
  |(obtain⟨t,rfl⟩:=rx;rfl)
theorem aY.or{f:Value→Value→Sem Value}{r r':R2}(h:aY X f r)(h':aY X f r'):aY X f (fun x y H Q=>r x y H Q∨r' x y H Q):=by
 intro pins s σ H x y v u Q I rx ry q
 rcases q with q|q
 ·exact h pins s σ H x y v u Q I rx ry q
 ·exact h' pins s σ H x y v u Q I rx ry q
theorem ĭ(b:Expr){op:CmpOp}(h:op≠ .In:=by decide)(h2:op≠ .NotIn:=by decide):behindInMarks op b=false:=by
 have e1:(op== CmpOp.In)=false:=by cases op<;>first|rfl|exact absurd rfl h
 have e2:(op== CmpOp.NotIn)=false:=by cases op<;>first|rfl|exact absurd rfl h2
 cases b<;>simp[behindInMarks,e1,e2]
theorem LC{op:CmpOp}{r:R2}(ho:aY X (compareOp op) r)(ha:PE X a ta)(hb:PE X b tb)(hm:behindInMarks op b=false):PE X (.Compare a [op] [b] pos) (Sd r ta tb):=by
 intro pins s σ H Q I h
 exact wpAny_Compare1 (Sg ha hb I h fun v u s2 x y H2 I2 rx ry q=>ho pins s2 σ H2 x y v u Q I2 rx ry q) hm
def SN(K:PySem.W.Frag)(x:V)(H:Hp)(k:Bool):Prop:=
 match x with
 | .non=>k=false
 | .bl b=>k=b
 | .int i=>k=(i != 0)
 | .str y=>y.length≤sizeLine∧k=((y.length:Int) != 0)
 | .Pa y=>y.size≤sizeLine∧k=((y.size:Int) != 0)
 | .ref p=>(∃xs,aB K H p xs∧k=!xs.isEmpty)∨(∃xs,cF K H p xs∧k=!xs.isEmpty)∨∃kvs,H p=some (.dK kvs)∧k=!kvs.isEmpty
 |_=>False
theorem wz{κ:Type}{kvs:List (κ×V)}{vs:List (κ×Value)}(r:KV kvs vs):(!vs.isEmpty)=!kvs.isEmpty:=by
 cases r<;>rfl
theorem lJ{xs:List V}{its:List Value}(r:Vals xs its):(!its.toArray.isEmpty)=!xs.isEmpty:=by
 cases r<;>simp
theorem jf:(sizeLine:Nat)<2 ^ 63:=by rw[sizeLine_eq];decide
theorem SQ:ZgM X (fun x H Q=>∃k,SN X.K x H k∧Q k H):=by
 intro pins s σ H x v Q I rx h
 obtain⟨k,e,q⟩:=h
 have hl:=jf
 have hs:sizeLine=16777216:=sizeLine_eq
 cases x with
 |non=>
  cases rx
  have e':k=false:=e
  subst e'
  exact truthy_none ⟨H,I,q⟩
 |bl b=>
  cases rx
  have e':k=b:=e
  subst e'
  exact wpAny_truthy_bool ⟨H,I,q⟩
 |int i=>
  obtain⟨t,rfl⟩:=rx
  have e':k=(i != 0):=e
  subst e'
  exact PySem.P.truthy_int ⟨H,I,q⟩
 |str y=>
  obtain⟨t,rfl⟩:=rx
  obtain⟨hy,e'⟩:y.length≤sizeLine∧k=((y.length:Int) != 0):=e
  subst e'
  exact PySem.P.truthy_str (by omega) ⟨H,I.tok _,q⟩
 |Pa y=>
  obtain⟨t,rfl⟩:=rx
  obtain⟨hy,e'⟩:y.size≤sizeLine∧k=((y.size:Int) != 0):=e
  subst e'
  exact PySem.W.truthy_bytes (by omega) ⟨H,I.tok _,q⟩
 |ref p=>
  cases rx
  have e':(∃xs,aB X.K H p xs∧k=!xs.isEmpty)∨(∃xs,cF X.K H p xs∧k=!xs.isEmpty)∨∃kvs,H p=some (.dK kvs)∧k=!kvs.isEmpty:=e
  rcases e' with⟨xs,hx,e'⟩|⟨xs,hx,e'⟩|⟨kvs,hx,e'⟩
  ·subst e'
   obtain⟨its,r,pl,hz⟩:=I.list hx
   have hlen:=r.length
   exact wpAny_truthy_list pl.isList (by simp only[List.size_toArray];omega) ⟨H,I.tok _,by rw[lJ r];exact q⟩
  ·subst e'
   obtain⟨its,r,pl,hz⟩:=I.tuple hx
   have hlen:=r.length
   exact truthy_tuple pl (by simp only[List.size_toArray];omega) ⟨H,I.tok _,by rw[lJ r];exact q⟩
  ·subst e'
   obtain⟨hz,hS,vs,r,m⟩:kvs.length≤sizeLine∧(p== sysModules)=false∧∃vs,KV kvs vs∧s.heap.DictOf (qF X.prog X.w) p vs:=I.hok p _ hx
   have hlen:kvs.length=vs.length:=Paired.length r
   exact wpAny_truthy_dict hS m (by omega) ⟨H,I.tok _,by rw[wz r];exact q⟩
 |_=>exact(show False from e).elim
theorem CW(ha:PE X a ta)(he:∀whole,isTrue a X.env whole=(do let v ←whole;standAt a.pos;holding [v] (truthy v))) :
 PT X a (fun σ H Q=>ta σ H fun x H'=>∃k,SN X.K x H' k∧Q k H'):=by
 intro pins s σ H Q I h
 exact isTrue_plain (ű (ha pins s σ H _ I h) fun v s1 ⟨x,H1,I1,r1,q1⟩=>SQ pins s1 σ H1 x v Q I1 r1 q1) (he _)
theorem wA:aY X (binaryOp .Add) (fun x y H Q=>∃i j,x=.str i∧y=.str j∧i.length+j.length≤sizeLine∧Q (.str (i++j)) H):=by
 intro pins s σ H x y v u Q I rx ry h
 obtain⟨i,j,rfl,rfl,hz,q⟩:=h
 obtain⟨t,rfl⟩:=rx
 obtain⟨t',rfl⟩:=ry
 exact add_str (fun t' tk=>⟨.str (i++j),H,I.tok _,⟨_,rfl⟩,q⟩) hz
theorem vals1{x:V}{us:List Value}(r:Vals [x] us):∃u,us=[u]∧RelV x u:=by
 cases r with
 |cons r1 r2=>cases r2;exact⟨_,rfl,r1⟩
theorem vals2{x y:V}{us:List Value}(r:Vals [x,y] us):∃u w',us=[u,w']∧RelV x u∧RelV y w':=by
 cases r with
 |cons r1 r2=>
  cases r2 with
  |cons r3 r4=>cases r4;exact⟨_,_,rfl,r1,r3⟩
theorem CZ:Ŝ X (.builtin "abs") (fun xs H Q=>∃i,xs=[.int i]∧Q (.int (if i<0 then -i else i)) H):=by
 intro pins s σ H xs us Q I r h
 obtain⟨i,rfl,q⟩:=h
 obtain⟨u,rfl,t,rfl⟩:=vals1 r
 exact call_abs_int fun u tk=>⟨.int (if i<0 then -i else i),H,I.tok _,⟨_,rfl⟩,q⟩
theorem Ba(hc:X.calm=true):Ŝ X (.builtin "max") (fun xs H Q=>∃i j,xs=[.int i,.int j]∧Q (.int (if j>i then j else i)) H):=by
 intro pins s σ H xs us Q I r h
 obtain⟨i,j,rfl,q⟩:=h
 obtain⟨u,w',rfl,⟨t,rfl⟩,⟨t',rfl⟩⟩:=vals2 r
 refine max_two_ints (I.ok.hd hc) fun h' tk k=>⟨_,H,I.kept k,?_,q⟩
 by_cases hj:j>i
 ·rw[if_pos hj,if_pos hj];exact⟨_,rfl⟩
 ·rw[if_neg hj,if_neg hj];exact⟨_,rfl⟩
theorem Bb(hc:X.calm=true):Ŝ X (.builtin "min") (fun xs H Q=>∃i j,xs=[.int i,.int j]∧Q (.int (if j<i then j else i)) H):=by
 intro pins s σ H xs us Q I r h
 obtain⟨i,j,rfl,q⟩:=h
 obtain⟨u,w',rfl,⟨t,rfl⟩,⟨t',rfl⟩⟩:=vals2 r
 refine min_two_ints (I.ok.hd hc) fun h' tk k=>⟨_,H,I.kept k,?_,q⟩
 by_cases hj:j<i
 ·rw[if_pos hj,if_pos hj];exact⟨_,rfl⟩
 ·rw[if_neg hj,if_neg hj];exact⟨_,rfl⟩
theorem Bc:Ŝ X (.type "int") (fun xs H Q=>(∃i,xs=[.int i]∧Q (.int i) H)∨∃k,xs=[.bl k]∧Q (.int (if k then 1 else 0)) H):=by
 intro pins s σ H xs us Q I r h
 rcases h with⟨i,rfl,q⟩|⟨k,rfl,q⟩
 ·obtain⟨u,rfl,t,rfl⟩:=vals1 r
  exact call_int_int ⟨.int i,H,I,⟨_,rfl⟩,q⟩
 ·obtain⟨u,rfl,r1⟩:=vals1 r
  cases r1
  exact call_int_bool ⟨.int (if k then 1 else 0),H,I.tok _,⟨_,rfl⟩,q⟩
def ZgN(K:PySem.W.Frag)(x:V)(H:Hp)(n:Nat):Prop:=
 match x with
 | .str y=>y.length≤sizeLine∧n=y.length
 | .Pa y=>y.size≤sizeLine∧n=y.size
 | .ref p=>(∃xs,aB K H p xs∧n=xs.length)∨∃xs,cF K H p xs∧n=xs.length
 |_=>False
theorem C_:Ŝ X (.builtin "len") (fun xs H Q=>∃x n,xs=[x]∧ZgN X.K x H n∧Q (.int n) H):=by
 intro pins s σ H xs us Q I r h
 obtain⟨x,n,rfl,e,q⟩:=h
 obtain⟨u,rfl,rx⟩:=vals1 r
 have hl:=jf
 have hs:sizeLine=16777216:=sizeLine_eq
 cases x with
 |str y=>
  obtain⟨t,rfl⟩:=rx
  obtain⟨hy,e'⟩:y.length≤sizeLine∧n=y.length:=e
  subst e'
  exact len_str (by omega) ⟨.int _,H,I.tok _,⟨_,rfl⟩,q⟩
 |Pa y=>
  obtain⟨t,rfl⟩:=rx
  obtain⟨hy,e'⟩:y.size≤sizeLine∧n=y.size:=e
  subst e'
  exact PySem.W.len_bytes (by omega) ⟨.int _,H,I.tok _,⟨_,rfl⟩,q⟩
 |ref p=>
  cases rx
  have e':(∃xs,aB X.K H p xs∧n=xs.length)∨∃xs,cF X.K H p xs∧n=xs.length:=e
  rcases e' with⟨xs,hx,e'⟩|⟨xs,hx,e'⟩
  ·subst e'
   obtain⟨its,r',pl,hz⟩:=I.list hx
   have hlen:=r'.length
   exact Calls.call_len_list pl.isList (by simp only[List.size_toArray];omega) ⟨.int xs.length,H,I.tok _,⟨_,by simp only[List.size_toArray];rw[hlen]⟩,q⟩
  ·subst e'
   obtain⟨its,r',pl,hz⟩:=I.tuple hx
   have hlen:=r'.length
   exact len_tuple pl (by simp only[List.size_toArray];omega) ⟨.int xs.length,H,I.tok _,⟨_,by simp only[List.size_toArray];rw[hlen]⟩,q⟩
 |_=>exact(show False from e).elim
theorem tM:Ŝ X (.builtin "divmod") (fun xs H Q=>∃i j,xs=[.int i,.int j]∧Zam i j∧∀p,H p=none→Q (.ref p) (upd H p (.tup [.int (i / j),.int (i % j)]))):=by
 intro pins s σ H xs us Q I r h
 obtain⟨i,j,rfl,⟨h1,h2⟩,q⟩:=h
 obtain⟨u,w',rfl,⟨t,rfl⟩,⟨t',rfl⟩⟩:=vals2 r
 refine divmod_int (by omega) ?_ (.inl (PyProof.noPylong_small (by omega)))
 rw[Int.fdiv_eq_ediv_of_nonneg i (by omega),Int.fmod_eq_emod_of_nonneg i (by omega)]
 have hn:H s.heap.objs.size=none:=I.hok.fresh (Nat.le_refl _)
 refine⟨.ref s.heap.objs.size,_,?_,rfl,q _ hn⟩
 refine I.laid (fun b o e=>Heap.get?_push_of_some _ e) (Nat.le_refl _) ⟨by simp only[List.length_cons,List.length_nil];rw[sizeLine_eq];decide,[.int (i / j) s.toks,.int (i % j) (s.toks+1)],.cons ⟨_,rfl⟩ (.cons ⟨_,rfl⟩ .nil),?_⟩
 exact⟨_,Heap.get?_push_size s.heap rfl,rfl,0,rfl⟩
end
end L2
namespace L2
open PySem PySem.Spec PyProof.Rows
structure wB(h:Heap)(x dx C:Addr)(mA:Str→Option Value):Prop where
 obj:h.get? x=some (PySem.W.instObj C dx)
 ns:h.Ns1 dx mA
 ne:dx≠x
theorem Bd{h:Heap}{dx:Addr}{mA:Str→Option Value}(n:h.Ns1 dx mA):∃od,h.get? dx=some od∧∀name,PySem.W.lookIn name od=some (mA name):=by
 obtain⟨o,es,ep,ho,hd,hk,_,hm⟩:=n
 refine⟨o,ho,fun name=>?_⟩
 have e:=hm name
 unfold nsFind findBy at e
 rw[←Array.find?_toList] at e
 unfold PySem.W.lookIn
 rw[hd]
 dsimp only
 split
 ·rename_i y q
  rw[q] at e
  exact congrArg some e
 ·rename_i q
  rw[q] at e
  have a:es.toList.any (·.refKey)=false:=by
   rw[List.any_eq_false]
   intro y hy
   obtain⟨z,t,hkey⟩:=hk y (Array.mem_toList_iff.mp hy)
   simp[DictEntry.refKey,hkey]
  have a':¬es.toList.any (·.refKey)=true:=by rw[a];exact Bool.false_ne_true
  rw[if_neg a']
  exact congrArg some e
theorem wB.look{h:Heap}{x dx C:Addr}{mA:Str→Option Value}(I:wB h x dx C mA):∃od,PySem.W.InstAt h x (PySem.W.instObj C dx) C (some od)∧∀name,PySem.W.lookIn name od=some (mA name):=
 let ⟨od,ho,hl⟩:=Bd I.ns
 ⟨od,⟨I.obj,rfl,rfl,ho⟩,hl⟩
section
variable{prog:Program}{w:World}{A:Around}{E:Value→Shared→Prop}{s:Shared}{K:PySem.W.Frag}{x dx C f:Addr}{mA:Str→Option Value}{name:Str}{v:Value}
theorem get_map{expr:Bool}{Q:Value→Shared→Prop}(X:K.In s.heap)(I:wB s.heap x dx C mA)(hg:PySem.W.plainGet K C name=true)(hh:PySem.W.hasDictIn K C=true)
 (ha:PySem.W.findIn K (.ref C) name=some none)(hv:mA name=some v)(hv':PySem.W.handedIn v=true)(h:Q v {s with toks:=s.toks+1}) :
 wpAny (model prog w) A (getAttr (.ref x) name expr) Q E s:=by
 obtain⟨od,J,hl⟩:=I.look
 exact PySem.W.get_value X J (PySem.W.plainGet_of hg).1 (PySem.W.findObj_own hh ha rfl (by rw[hl,hv])) hv' h
theorem Dc{pl:Sem Bool}{Q:Value×List Value→Shared→Prop}(X:K.In s.heap)(I:wB s.heap x dx C mA)(hg:PySem.W.plainGet K C name=true)
 (hf:PySem.W.findIn K (.ref C) name=some (some (.ref f)))(ht:PySem.W.isFn K (.ref f)=true)(hv:mA name=none)(h:Q (.ref f,[.ref x]) s) :
 wpAny (model prog w) A (getMethod (.ref x) name pl) Q E s:=by
 obtain⟨od,J,hl⟩:=I.look
 exact PySem.W.method_fn X J (PySem.W.plainGet_of hg).1 (PySem.W.plainGet_of hg).2 hf (beq_iff_eq.mp ht) (by show(PySem.W.lookIn name od).map (·.isSome)=some false;rw[hl,hv];rfl) h
theorem LQ{ns:List Str}{Q:Unit→Shared→Prop}(X:K.In s.heap)(I:wB s.heap x dx C mA)
 (hs:PySem.W.findIn K (.ref C) "__setattr__" =some (some (.builtin "object.__setattr__")))(hp:PySem.W.plainOver K C=true)(ht:PySem.W.takerIn K C name=some none)(hh:PySem.W.hasDictIn K C=true)
 (hw:PySem.Within mA ns)(hsz:ns.length≤sizeLine)
 (h:∀h',wB h' x dx C (fun y=>if y=name then some v else mA y)→Heap.SameBut dx s.heap h'→Q () {s with heap:=h',toks:=s.toks+2}) :
 wpAny (model prog w) A (setAttr (.ref x) name v) Q E s:=by
 obtain⟨od,J,hl⟩:=I.look
 refine PySem.W.set_plain X J hs (PySem.W.osa_open (s:={s with toks:=s.toks+1}) (r:=none) X J hp ht fun b=>?_)
 obtain⟨cd,hc,hd'⟩:=PySem.W.any_some hh
 have hx:s.heap.get? x=some ⟨.ref C,some dx,.plain,#[]⟩:=I.obj
 refine wpAny_bind (wpAny_pure (wpAny_bind (wpAny_bind (wpAny_loadPart hx (wpAny_bind (PySem.W.Looks.here (s:={s with toks:=s.toks+1}) (PySem.W.looks_clsIn X hc) ?_))))))
 rw[hd']
 refine wpAny_pure (a:=some dx) (wpAny_bind (wpAny_pure (wpAny_bind ?_)))
 refine wpAny_nsSet1 (s:={s with toks:=s.toks+1}) I.ns fun h' hn2 hs2=>?_
 obtain⟨oD,esD,epD,hoD,hdD,hcD⟩:=hn2.count (PySem.Within.cons name v hw)
 refine wpAny_bind (wpAny_lookBehind hoD (by rw[hdD];exact pastItsLine_dict (Nat.le_trans hcD (by rw[List.length_cons];omega))) ?_)
 exact wpAny_pure (h _ ⟨(hs2.2 _ (Ne.symm I.ne)).trans I.obj,hn2,I.ne⟩ hs2)
theorem Dd{R:Result→Shared→Prop}{vs:List Value}{kw:List (Str×Value)}(X:K.In s.heap)(hm:PySem.W.makesIn K C=true)
 (hi:PySem.W.findIn K (.ref C) "__init__" =some (some (.ref f)))(hf:PySem.W.typeIn K (.ref f)=some (.type "function"))
 (h:codeAny (model prog w) (A.under (.builtin "type.__call__" ⟨.ref C::vs,kw⟩)) (.call (.ref f) ⟨.ref (s.heap.objs.size+1)::vs,kw⟩) (PySem.W.InitBack (s.heap.objs.size+1) R)
   {s with heap:=(s.heap.push PySem.W.emptyDict).push (PySem.W.instObj C s.heap.objs.size)}) :
 codeAny (model prog w) A (.call (.ref C) ⟨vs,kw⟩) R s:=by
 obtain⟨hh,g,d,t,os⟩:=s
 exact PySem.W.make_core (PySem.W.makes_of X hm) (PySem.W.looks_findIn X hi) (fun self=>PySem.W.bind_fn X self hf) (.inl rfl) h
end
def dB(f:Str)(v:V):List (Str×V)→List (Str×V)
 | []=>[(f,v)]
 |(g,x)::r=>if g=f then(g,v)::r else(g,x)::dB f v r
theorem jF(f g:Str)(v:V):∀fs:List (Str×V),(dB f v fs).lookup g=if g=f then some v else fs.lookup g
 | []=>by
   show List.lookup g [(f,v)]=_
   by_cases h:g=f
   ·have hb:(g== f)=true:=beq_iff_eq.mpr h
    simp only[List.lookup,hb,if_pos h]
   ·have hb:(g== f)=false:=beq_eq_false_iff_ne.mpr h
    simp only[List.lookup,hb,if_neg h]
 |(k,x)::r=>by
  have ih:=jF f g v r
  rw[show dB f v ((k,x)::r)=(if k=f then(k,v)::r else(k,x)::dB f v r) from rfl]
  by_cases hk:k=f
  ·rw[if_pos hk]
   by_cases h:g=k
   ·have hb:(g== k)=true:=beq_iff_eq.mpr h
    simp only[List.lookup,hb,if_pos (h.trans hk)]
   ·have hb:(g== k)=false:=beq_eq_false_iff_ne.mpr h
    simp only[List.lookup,hb,if_neg (fun e:g=f=>h (e.trans hk.symm))]
  ·rw[if_neg hk]
   by_cases h:g=k
   ·have hb:(g== k)=true:=beq_iff_eq.mpr h
    simp only[List.lookup,hb,if_neg (fun e:g=f=>hk (h.symm.trans e))]
   ·have hb:(g== k)=false:=beq_eq_false_iff_ne.mpr h
    simp only[List.lookup,hb]
    exact ih
theorem jg(f:Str)(v:V):∀fs:List (Str×V),f∈(dB f v fs).map (·.1)∧∀g,g∈fs.map (·.1)→g∈(dB f v fs).map (·.1)
 | []=>⟨by simp[dB],fun g h=>by simp at h⟩
 |(k,x)::r=>by
  obtain⟨i1,i2⟩:=jg f v r
  rw[show dB f v ((k,x)::r)=(if k=f then(k,v)::r else(k,x)::dB f v r) from rfl]
  by_cases hk:k=f
  ·rw[if_pos hk]
   subst hk
   exact⟨by simp,fun g h=>by simpa using h⟩
  ·rw[if_neg hk]
   refine⟨?_,fun g h=>?_⟩
   ·rw[List.map_cons]
    exact List.mem_cons_of_mem _ i1
   ·rw[List.map_cons] at h ⊢
    rcases List.mem_cons.mp h with e|e
    ·exact List.mem_cons.mpr (.inl e)
    ·exact List.mem_cons_of_mem _ (i2 g e)
theorem jG(f:Str)(v:V):∀fs:List (Str×V),(dB f v fs).length≤fs.length+1
 | []=>by simp[dB]
 |(k,x)::r=>by
  have ih:=jG f v r
  rw[show dB f v ((k,x)::r)=(if k=f then(k,v)::r else(k,x)::dB f v r) from rfl]
  by_cases hk:k=f
  ·rw[if_pos hk,List.length_cons,List.length_cons];omega
  ·rw[if_neg hk,List.length_cons,List.length_cons];omega
theorem oF.some_of{v:V}{o:Option Value}(r:oF (some v) o):∃u,o=some u∧RelV v u:=by
 cases o with
 |none=>exact(show False from r).elim
 |some u=>exact⟨u,rfl,r⟩
theorem oF.none_of{o:Option Value}(r:oF none o):o=none:=by
 cases o with
 |none=>rfl
 |some u=>exact(show False from r).elim
theorem Bf{v:V}{u:Value}(r:RelV v u):PySem.W.handedIn u=true:=by
 cases v with
 |non=>cases(show u=Value.none from r);rfl
 |bl b=>cases(show u=Value.bool b from r);rfl
 |int i=>obtain⟨t,e⟩:=(show ∃t,u=Value.int i t from r);cases e;rfl
 |str x=>obtain⟨t,e⟩:=(show ∃t,u=Value.str x t from r);cases e;rfl
 |Pa b=>obtain⟨t,e⟩:=(show ∃t,u=Value.bytes b t from r);cases e;rfl
 |flt b=>obtain⟨t,e⟩:=(show ∃t,u=Value.float b t from r);cases e;rfl
 |ref a=>cases(show u=Value.ref a from r);rfl
 |ty n=>cases(show u=Value.type n from r);rfl
section
variable{P:Program}{w:World}{H H':Hp}{h h':Heap}{a C dx:Addr}{fs fs':List (Str×V)}
theorem lu(hok:gB P w H h)(e:H a=some (.ins C dx fs)):∃mA,wB h a dx C mA∧(∀f,oF (fs.lookup f) (mA f))∧PySem.Within mA (fs.map (·.1))∧fs.length≤1000∧H dx=some (.own a):=by
 obtain⟨d,z,ne,ob,mA,n,r,q⟩:=(show ſ P w H h a (.ins C dx fs) from hok a _ e)
 exact⟨mA,⟨ob,n,ne⟩,r,q,z,d⟩
end
structure Cls(K:PySem.W.Frag)(C:Addr):Prop where
 pg:PySem.W.plainGet K C Str.empty=true
 hd:PySem.W.hasDictIn K C=true
 po:PySem.W.plainOver K C=true
 sa:PySem.W.findIn K (.ref C) "__setattr__" =some (some (.builtin "object.__setattr__"))
theorem Cls.get{K:PySem.W.Frag}{C:Addr}(c:Cls K C)(f:Str):PySem.W.plainGet K C f=true:=c.pg
def ŭ(K:PySem.W.Frag)(C:Addr)(f:Str):Prop:=PySem.W.findIn K (.ref C) f=some none
theorem ŭ.taker{K:PySem.W.Frag}{C:Addr}{f:Str}(n:ŭ K C f):PySem.W.takerIn K C f=some none:=by
 unfold PySem.W.takerIn
 rw[show PySem.W.findIn K (.ref C) f=some none from n]
 rfl
structure Meth(K:PySem.W.Frag)(C:Addr)(m:Str)(f:Addr):Prop where
 at_:PySem.W.findIn K (.ref C) m=some (some (.ref f))
 fn:PySem.W.isFn K (.ref f)=true
 kp:PySem.W.keepIn K (.ref f)=true
section
variable{X:Cx}{pins:List (Addr×Obj)}{σ:St}{H:Hp}{s:Shared}{a C dx:Addr}{fs:List (Str×V)}{f:Str}{v:V}{A:Around}{E:Value→Shared→Prop}
theorem wC{b:Bool}{Q:Value→Shared→Prop}(I:Inv X pins σ H s)(e:H a=some (.ins C dx fs))(c:Cls X.K C)(n:ŭ X.K C f)(l:fs.lookup f=some v)
 (h:∀u s',Inv X pins σ H s'→RelV v u→Q u s'):wpAny (model X.prog X.w) A (getAttr (.ref a) f b) Q E s:=by
 obtain⟨mA,O,r,_,_,_⟩:=lu I.hok e
 obtain⟨u,hu,ru⟩:=oF.some_of (v:=v) (o:=mA f) (by rw[←l];exact r f)
 exact get_map I.i_ O (c.get f) c.hd n hu (Bf ru) (h u _ (I.tok _) ru)
theorem wD{m:Str}{g:Addr}{pl:Sem Bool}{Q:Value×List Value→Shared→Prop}(I:Inv X pins σ H s)(e:H a=some (.ins C dx fs))(c:Cls X.K C)(k:Meth X.K C m g)(l:fs.lookup m=none)
 (h:Q (.ref g,[.ref a]) s):wpAny (model X.prog X.w) A (getMethod (.ref a) m pl) Q E s:=by
 obtain⟨mA,O,r,_,_,_⟩:=lu I.hok e
 have hn:mA m=none:=oF.none_of (by rw[←l];exact r m)
 exact Dc I.i_ O (c.get m) k.at_ k.fn hn h
theorem wF{y:V}{u:Value}{Q:Unit→Shared→Prop}(I:Inv X pins σ H s)(e:H a=some (.ins C dx fs))(c:Cls X.K C)(n:ŭ X.K C f)(hl:fs.length<1000)(ry:RelV y u)
 (h:∀s',Inv X pins σ (upd H a (.ins C dx (dB f y fs))) s'→Q () s'):wpAny (model X.prog X.w) A (setAttr (.ref a) f u) Q E s:=by
 obtain⟨mA,O,r,wi,_,ho⟩:=lu I.hok e
 have hz:(fs.map (·.1)).length≤sizeLine:=by rw[List.length_map,sizeLine_eq];omega
 refine LQ I.i_ O c.sa c.po n.taker c.hd wi hz fun h' O' sb=>h _ ?_
 have hd:∃o,h'.get? dx=some o:=let ⟨o,_,_,e',_⟩:=O'.ns;⟨o,e'⟩
 refine I.write (x:=a) (e:=dx) (by rw[e];exact True.intro) (.inr ho) (fun b q hb z=>(sb.2 b hb).trans z) hd ?_
 refine⟨by rw[Į O.ne];exact ho,?_,O.ne,O'.obj,_,O'.ns,fun g=>?_,fun g hg=>?_⟩
 ·have:=jG f y fs;omega
 ·show oF ((dB f y fs).lookup g) (if g=f then some u else mA g)
  rw[jF]
  by_cases q:g=f
  ·rw[if_pos q,if_pos q];exact ry
  ·rw[if_neg q,if_neg q];exact r g
 ·by_cases q:g=f
  ·rw[q];exact(jg f y fs).1
  ·refine(jg f y fs).2 g (wi g fun z=>hg ?_)
   show(if g=f then some u else mA g)=none
   rw[if_neg q];exact z
theorem Inv.made(I:Inv X pins σ H s):Inv X pins σ (upd (upd H s.heap.objs.size (.own (s.heap.objs.size+1))) (s.heap.objs.size+1) (.ins C s.heap.objs.size []))
 {s with heap:=(s.heap.push PySem.W.emptyDict).push (PySem.W.instObj C s.heap.objs.size)}:=by
 have e1:(s.heap.push PySem.W.emptyDict).get? s.heap.objs.size=some PySem.W.emptyDict:=Heap.get?_push_size s.heap rfl
 have e2:((s.heap.push PySem.W.emptyDict).push (PySem.W.instObj C s.heap.objs.size)).get? (s.heap.objs.size+1)=some (PySem.W.instObj C s.heap.objs.size):=by
  have:=Heap.get?_push_size (s.heap.push PySem.W.emptyDict) (o:=PySem.W.instObj C s.heap.objs.size) rfl
  rwa [Heap.size_push] at this
 have e3:(s.heap.push PySem.W.emptyDict).Ns s.heap.objs.size (fun _=>none):=⟨PySem.W.emptyDict,#[],_,e1,rfl,(fun e he=>absurd he (by simp)),fun _=>rfl⟩
 have I1:=I.laid (a:=s.heap.objs.size) (o:=.own (s.heap.objs.size+1)) (h':=s.heap.push PySem.W.emptyDict) (t':=s.toks) (fun b u q=>Heap.get?_push_of_some _ q) (Nat.le_refl _) ⟨_,e1⟩
 refine I1.laid (a:=s.heap.objs.size+1) (o:=.ins C s.heap.objs.size []) (t':=s.toks) (fun b u q=>Heap.get?_push_of_some _ q) (Nat.le_of_eq (Heap.size_push _ _)) ?_
 have ne:s.heap.objs.size≠s.heap.objs.size+1:=Nat.ne_of_lt (Nat.lt_succ_self _)
 refine⟨by rw[Į ne,Ĳ],Nat.zero_le _,ne,e2,fun _=>none,(Heap.Ns1.of_empty e3).at fun o q=>Heap.get?_push_of_some _ q,fun _=>True.intro,fun y hy=>absurd rfl hy⟩
theorem LR{prog:Program}{w:World}{env:Env}{e:Expr}{f:Str}{pos:Pos}{s:Shared}{Q:Value→Shared→Prop}(hb:attributeBase e f env (eval e env)=eval e env)
 (h:wpAny (model prog w) A (eval e env) (fun o s₁=>wpAny (model prog w) A (getAttr o f true) Q E s₁) E s):wpAny (model prog w) A (eval (.Attribute e f pos) env) Q E s:=
 Attribute_any_ h (by rw[arm_eval_Attribute,hb])
end
def ZgO(K:PySem.W.Frag)(ta:TE)(f:Str):TE:=fun σ H Q=>ta σ H fun x H1=>∃a C dx fs v,x=.ref a∧H1 a=some (.ins C dx fs)∧Cls K C∧ŭ K C f∧fs.lookup f=some v∧Q v H1
def ZgP(K:PySem.W.Frag)(ta tv:TE)(f:Str):TS:=fun D σ H=>tv σ H fun y H1=>ta σ H1 fun x H2=>∃a C dx fs,x=.ref a∧H2 a=some (.ins C dx fs)∧Cls K C∧ŭ K C f∧fs.length<1000∧
 D.nx σ (upd H2 a (.ins C dx (dB f y fs)))
section
variable{X:Cx}{o e value:Expr}{f:Str}{pos pos' tpos:Pos}{ta tv:TE}
theorem SX(he:PE X e ta)(hb:attributeBase e f X.env (eval e X.env)=eval e X.env):PE X (.Attribute e f pos) (ZgO X.K ta f):=by
 intro pins s σ H Q I h
 refine LR hb (ű (he pins s σ H _ I h) fun u s1 ⟨x,H1,I1,rx,a,C,dx,fs,v,ex,ea,c,n,l,q⟩=>?_)
 subst ex
 obtain rfl:u=Value.ref a:=rx
 exact wC I1 ea c n l fun u' s2 I2 ru=>⟨v,H1,I2,ru,q⟩
theorem S_(ha:PE X o ta)(hv:PE X value tv)(hs:swapsWith value (some (.Attribute o f pos')) pos.line X.env=pure false):PS X (.Assign [.Attribute o f pos'] value pos) (ZgP X.K ta tv f):=by
 intro pins s σ H D I h
 refine plainObj_wpAny_Assign_Attribute (ű (hv pins s σ H _ I h) fun u s1 ⟨y,H1,I1,ry,q⟩=>ű (ha pins s1 σ H1 _ I1 q) fun ov s2 ⟨x,H2,I2,rx,a,C,dx,fs,ex,ea,c,n,l,q2⟩=>?_) hs
 subst ex
 obtain rfl:ov=Value.ref a:=rx
 exact wF I2 ea c n l ry fun s3 I3=>⟨σ,_,I3,q2⟩
end
section
variable{X:Cx}{pins:List (Addr×Obj)}{σ:St}{H:Hp}{s:Shared}{A:Around}{E:Value→Shared→Prop}{Q:Value→Shared→Prop}{c:Value}{b:Bool}
inductive jh(K:PySem.W.Frag)(H:Hp):V→Value→Prop where
 |non:jh K H .non (.type "NoneType")
 |bl (x:Bool):jh K H (.bl x) (.type "bool")
 |int (i:Int):jh K H (.int i) (.type "int")
 |str (x:Str):jh K H (.str x) (.type "str")
 |flt (x:UInt64):jh K H (.flt x) (.type "float")
 |lst {a:Addr} {xs:List V} (e:H a=some (.lst xs)):jh K H (.ref a) (.type "list")
 |cQ {a:Addr} {o:Obj} {xs:List V} (e:H a=some (.cQ o (.lst xs))):jh K H (.ref a) (.type "list")
 |tup {a:Addr} {xs:List V} (e:H a=some (.tup xs)):jh K H (.ref a) (.type "tuple")
 |dK {a:Addr} {kvs:List (Key×V)} (e:H a=some (.dK kvs)):jh K H (.ref a) (.type "dict")
 |dT {a:Addr} {kvs:List (List Key×V)} (e:H a=some (.dT kvs)):jh K H (.ref a) (.type "dict")
 |ins {a C dx:Addr} {fs:List (Str×V)} (e:H a=some (.ins C dx fs)) (cl:Cls K C) (ha:PySem.W.findIn K (.ref C) "__class__" =some (some (.builtin "object.__class__")))
   (hn:PySem.W.specialIn K (.builtin "object.__class__") "__get__" =some (some (.builtin "getset_descriptor.__get__"))) (htk:PySem.W.takesIn K (.builtin "object.__class__")=some true)
   (hm:PySem.W.mroIn K C (.type "object")=some true):jh K H (.ref a) (.ref C)
theorem cT{x:V}{u t:Value}(I:Inv X pins σ H s)(rx:RelV x u)(ty:jh X.K H x t)(e:PySem.W.kitOne X.K t c=some b)(h:∀tk,Q (.bool b) {s with toks:=tk}) :
 wpAny (model X.prog X.w) A (call (.builtin "isinstance") [u,c]) Q E s:=by
 cases ty with
 |non=>cases(show u=Value.none from rx);exact PySem.W.kia_one PySem.W.kitx_none I.i_ True.intro e (fun z=>nomatch z) h
 |bl y=>cases(show u=Value.bool y from rx);exact PySem.W.kia_one PySem.W.kitx_bool I.i_ True.intro e (fun z=>nomatch z) h
 |int i=>obtain⟨t,q⟩:=(show ∃t,u=Value.int i t from rx);cases q;exact PySem.W.kia_one PySem.W.kitx_int I.i_ True.intro e (fun z=>nomatch z) h
 |str y=>obtain⟨t,q⟩:=(show ∃t,u=Value.str y t from rx);cases q;exact PySem.W.kia_one PySem.W.kitx_str I.i_ True.intro e (fun z=>nomatch z) h
 |flt y=>obtain⟨t,q⟩:=(show ∃t,u=Value.float y t from rx);cases q;exact PySem.W.kia_one PySem.W.kitx_float I.i_ True.intro e (fun z=>nomatch z) h
 |@lst a xs ea=>
  cases(show u=Value.ref a from rx)
  obtain⟨_,_,n,_,h1⟩:=(show ſ X.prog X.w H s.heap a (.lst xs) from I.hok a _ ea)
  exact PySem.W.kia_one PySem.W.kitx_list I.i_ ⟨_,h1,rfl⟩ e (fun z=>nomatch z) h
 |@cQ a ob xs ea=>
  cases(show u=Value.ref a from rx)
  obtain⟨_,_,_,n,_,h1⟩:=(show ſ X.prog X.w H s.heap a (.cQ ob (.lst xs)) from I.hok a _ ea)
  exact PySem.W.kia_one PySem.W.kitx_list I.i_ ⟨_,h1,rfl⟩ e (fun z=>nomatch z) h
 |@tup a xs ea=>
  cases(show u=Value.ref a from rx)
  obtain⟨_,_,_,p⟩:=(show ſ X.prog X.w H s.heap a (.tup xs) from I.hok a _ ea)
  obtain⟨o,h1,h2,_⟩:=p
  exact PySem.W.kia_one PySem.W.kitx_tuple I.i_ ⟨o,h1,h2⟩ e (fun z=>nomatch z) h
 |@dK a kvs ea=>
  cases(show u=Value.ref a from rx)
  obtain⟨_,_,vs,_,p⟩:=(show ſ X.prog X.w H s.heap a (.dK kvs) from I.hok a _ ea)
  obtain⟨o,es,ep,h1,h2,_⟩:=p
  exact PySem.W.kia_one PySem.W.kitx_dict I.i_ ⟨o,h1,h2.1⟩ e (fun z=>nomatch z) h
 |@dT a kvs ea=>
  cases(show u=Value.ref a from rx)
  obtain⟨_,_,xs,_,o,es,ep,h1,h2,_⟩:=(show ſ X.prog X.w H s.heap a (.dT kvs) from I.hok a _ ea)
  exact PySem.W.kia_one PySem.W.kitx_dict I.i_ ⟨o,h1,h2.1⟩ e (fun z=>nomatch z) h
 |@ins a C dx fs ea cl ha hn htk hm=>
  cases(show u=Value.ref a from rx)
  obtain⟨mA,O,_⟩:=lu I.hok ea
  obtain⟨od,J,_⟩:=O.look
  exact PySem.W.kia_one (PySem.W.kitx_own (cl.get _) cl.hd ha hn htk hm) I.i_ J e (fun z=>nomatch z) h
end
end L2
namespace L2
open PySem PySem.Spec PyProof.Rows
structure bD(k:Nat)(A:Around):Prop where
 hd:A.handled=none
 dp:A.depth+3*k+5<recursionLimit
 un:A.units+16*k+200<cLine
theorem bD.mono{j k:Nat}{A:Around}(r:bD k A)(h:j≤k):bD j A:=⟨r.hd,by have:=r.dp;omega,by have:=r.un;omega⟩
theorem bD.deeper{k:Nat}{A:Around}(r:bD (k+1) A)(env:Env):bD k (A.deeper env):=
 ⟨r.hd,by have:=r.dp;show A.depth+1+3*k+5<_;omega,by have:=r.un;show A.units+3+16*k+200<_;omega⟩
theorem wG{A:Around}{C:Addr}{us:List Value}{kw:List (Str×Value)}:(A.under (.builtin "type.__call__" ⟨.ref C::us,kw⟩)).depth=A.depth+1:=by
 first|rfl|simp[Around.under,Code.weight,Code.isCreation,Code.isGuard,Code.isCaller,Code.frames,Code.isFrame,guardIds]
theorem wH{A:Around}{C:Addr}{us:List Value}{kw:List (Str×Value)}:(A.under (.builtin "type.__call__" ⟨.ref C::us,kw⟩)).units=A.units+1:=by
 first|rfl|simp[Around.under,Code.cUnits,Code.frames,Code.isFrame]
theorem bD.make{k:Nat}{A:Around}(r:bD (k+1) A)(C:Addr)(us:List Value)(kw:List (Str×Value)):bD k (A.under (.builtin "type.__call__" ⟨.ref C::us,kw⟩)):=
 ⟨r.hd,by have:=r.dp;rw[wG];omega,by have:=r.un;rw[wH];omega⟩
theorem bD.depth{k:Nat}{A:Around}(r:bD k A):A.depth<recursionLimit:=by have:=r.dp;omega
theorem bD.units{k:Nat}{A:Around}(r:bD k A):A.units+64<cLine:=by have:=r.un;omega
def Zaq:TA:=fun _ H Q=>Q [] H
def Pk(ta:TE)(tr:TA):TA:=fun σ H Q=>ta σ H fun x H1=>tr σ H1 fun xs H2=>Q (x::xs) H2
section
variable{X:Cx}{e:Expr}{es:List Expr}{te:TE}{t:TA}{pos:Pos}
theorem gQ:PA X [] Zaq:=fun _ _ _ _ H Q I h=>Calls.spliced_nil ⟨[],H,I,.nil,h⟩
theorem bh(ha:PE X e te)(hr:PA X es t)(hs:starEach (e::es) X.env=(false,eval e X.env)::starEach es X.env:=by rfl):PA X (e::es) (Pk te t):=by
 intro pos pins s σ H Q I h
 rw[hs]
 show wpAny _ _ (spliced ((false,eval e X.env)::backTo pos (starEach es X.env))) _ _ s
 refine Calls.spliced_cons (ű (ha pins s σ H _ I h) fun u s1 ⟨x,H1,I1,r1,q1⟩=>?_)
 exact ű (hr pos pins s1 σ H1 _ I1 q1) fun us s2 ⟨xs,H2,I2,r2,q2⟩=>⟨x::xs,H2,I2,.cons r1 r2,q2⟩
def ZgQ(t:TA):TE:=fun σ H Q=>t σ H fun xs H1=>xs.length≤sizeLine∧∀p,H1 p=none→Q (.ref p) (upd H1 p (.tup xs))
def ZgR(t:TA):TE:=fun σ H Q=>t σ H fun xs H1=>xs.length≤sizeLine∧∀p,H1 p=none→Q (.ref p) (upd H1 p (.lst xs))
theorem Df{x1}(h:PA X es t):PE X (.Tuple es x1 pos) (ZgQ t):=by
 intro pins s σ H Q I hq
 refine wpAny_Tuple_spliced (ű (h pos pins s σ H _ I hq) fun us s1 ⟨xs,H1,I1,r,z,q⟩=>⟨by rw[←r.length];exact z,?_⟩)
 have hf:H1 s1.heap.objs.size=none:=I1.hok.fresh (Nat.le_refl _)
 refine⟨.ref s1.heap.objs.size,upd H1 s1.heap.objs.size (.tup xs),I1.laid (t':=s1.toks) (fun b u e=>Heap.get?_push_of_some _ e) (Nat.le_refl _) ?_,rfl,q _ hf⟩
 exact⟨z,us,r,⟨_,Heap.get?_push_size _ rfl,rfl,_,rfl⟩⟩
theorem Tc(h:PA X es t):PE X (.List es pos) (ZgR t):=by
 intro pins s σ H Q I hq
 refine wpAny_List_spliced (ű (h pos pins s σ H _ I hq) fun us s1 ⟨xs,H1,I1,r,z,q⟩=>⟨by rw[←r.length];exact z,?_⟩)
 have hf:H1 s1.heap.objs.size=none:=I1.hok.fresh (Nat.le_refl _)
 refine⟨.ref s1.heap.objs.size,upd H1 s1.heap.objs.size (.lst xs),I1.laid (t':=s1.toks) (fun b u e=>Heap.get?_push_of_some _ e) (Nat.le_refl _) ?_,rfl,q _ hf⟩
 exact⟨z,us,0,r,Heap.get?_push_size _ rfl⟩
end
abbrev Sp:=List V→Hp→VK→XK→Prop
abbrev ou:=List Env→Hp→Shared→XK→Value→Shared→Prop
structure wI(P:Program)(w:World)(K:PySem.W.Frag)(mg:Str→Option Value)(base:Heap)(A:Around)(outer:List Env)(s:Shared)(H:Hp):Prop where
 frames:A.frames=some outer
 mod:Mod K mg base
 bs:∀b o,base.get? b=some o→s.heap.get? b=some o∧H b=none
 Lj:base.objs.size≤s.heap.objs.size
 j_:s.heap.FunFrames base outer
 Rx:∀b∈frs outer,H b=none
 hok:gB P w H s.heap
 bare:AllBare s.gens
def CE(outer:List Env)(P:Program)(w:World)(H:Hp)(s:Shared)(Q:VK)(u:Value)(s':Shared):Prop:=
 ∃v H',s'.os=s.os∧AllBare s'.gens∧Un (frs outer) [] H H' s.heap s'.heap∧gB P w H' s'.heap∧RelV v u∧Q v H'
def CR(CX:ou)(outer:List Env)(P:Program)(w:World)(H:Hp)(s:Shared)(Q:VK)(E:XK)(r:Result)(s':Shared):Prop:=
 match r with
 | .ok (.ret u)=>CE outer P w H s Q u s'
 | .ok _=>False
 | .error e=>CX outer H s E e s'
structure ľ(P:Program)(w:World)(K:PySem.W.Frag)(mg:Str→Option Value)(base:Heap)(CX:ou)(k:Nat)(f:Addr)(fd:FuncData)(ps:List Str)(sp:Sp):Prop where
 len:∀vs H Q E,sp vs H Q E→vs.length=ps.length
 run:∀(A:Around) (outer:List Env) (s:Shared) (H:Hp) (args:Args) (us:List Value) (vs:List V) (Q:VK) (E:XK),bD k A→wI P w K mg base A outer s H→BindsTo s fd args (ps.zip us)→Vals vs us→sp vs H Q E→
  codeAny (model P w) A (.call (.ref f) args) (CR CX outer P w H s Q E) s
theorem ľ.mono{P:Program}{w:World}{K:PySem.W.Frag}{mg:Str→Option Value}{base:Heap}{CX:ou}{j k:Nat}{f:Addr}{fd:FuncData}{ps:List Str}{sp:Sp}(F:ľ P w K mg base CX j f fd ps sp)(h:j≤k) :
 ľ P w K mg base CX k f fd ps sp:=⟨F.len,fun A outer s H args us vs Q E hr=>F.run A outer s H args us vs Q E (hr.mono h)⟩
theorem ľ.imp{P:Program}{w:World}{K:PySem.W.Frag}{mg:Str→Option Value}{base:Heap}{CX:ou}{k:Nat}{f:Addr}{fd:FuncData}{ps:List Str}{sp sp':Sp}(F:ľ P w K mg base CX k f fd ps sp)
 (h:∀vs H Q E,sp' vs H Q E→sp vs H Q E):ľ P w K mg base CX k f fd ps sp':=
 ⟨fun vs H Q E q=>F.len vs H Q E (h _ _ _ _ q),fun A outer s H args us vs Q E hr he hb hv hs=>F.run A outer s H args us vs Q E hr he hb hv (h _ _ _ _ hs)⟩
theorem wI.make{P:Program}{w:World}{K:PySem.W.Frag}{mg:Str→Option Value}{base:Heap}{A:Around}{outer:List Env}{s:Shared}{H:Hp}(e:wI P w K mg base A outer s H)(C:Addr)(us:List Value)(kw:List (Str×Value)) :
 wI P w K mg base (A.under (.builtin "type.__call__" ⟨.ref C::us,kw⟩)) outer s H:=⟨by first|exact e.frames|(simpa[Around.under,Code.envs,Code.isFrame,pushEnvs] using e.frames),e.mod,e.bs,e.Lj,e.j_,e.Rx,e.hok,e.bare⟩
section
variable{X:Cx}{pins:List (Addr×Obj)}{σ:St}{H:Hp}{s s':Shared}
theorem Inv.env0(I:Inv X pins σ H s):wI X.prog X.w X.K X.mg X.base X.A X.stack s H:=
 ⟨I.ok.frames,I.ok.mod,I.bs,Nat.le_trans I.ok.Lj I.sz,I.stack,I.qH,I.hok,I.bare⟩
theorem Inv.after{Q:VK}{u:Value}(I:Inv X pins σ H s)(h:CE X.stack X.prog X.w H s Q u s'):EP X pins σ Q u s':=by
 obtain⟨v,H',os,bare,un,hok,r,q⟩:=h
 obtain⟨hh,g,d,t,os'⟩:=s'
 obtain rfl:os'=s.os:=os
 exact⟨v,H',I.call (h':=hh) (g':=g) (d':=d) (t':=t) (ch:=[]) un hok bare (fun b z=>absurd z (by simp)),r,q⟩
end
def Binds(K:PySem.W.Frag)(fd:FuncData)(ps:List Str)(ds:List Value):Prop:=
 ∀(s:Shared) (us:List Value),K.In s.heap→(us++ds).length=ps.length→BindsTo s fd ⟨us,[]⟩ (ps.zip (us++ds))
theorem Binds.all{K:PySem.W.Frag}{fd:FuncData}{ps:List Str}(h:∀us:List Value,us.length=ps.length→bindArgs fd ⟨us,[]⟩=pure (ps.zip us)):Binds K fd ps []:=fun s us _ hl=>by
 rw[List.append_nil] at hl ⊢
 exact .of_eq (h us hl)
section
variable{X:Cx}{CX:ou}{k:Nat}{f C:Addr}{fd:FuncData}{ps:List Str}{sp:Sp}{dvs:List V}{ds:List Value}{E:XK}{x m:Str}{p pos apos:Pos}{e o:Expr}{es:List Expr}{ta:TE}{t:TA}
structure Mk(K:PySem.W.Frag)(C f:Addr):Prop where
 makes:PySem.W.makesIn K C=true
 init:PySem.W.findIn K (.ref C) "__init__" =some (some (.ref f))
 fn:PySem.W.isFn K (.ref f)=true
 kp:PySem.W.keepIn K (.ref C)=true
end
section
variable{X:Cx}{CX:ou}{k:Nat}{f C:Addr}{fd:FuncData}{ps ks:List Str}{sp:Sp}{E:XK}{x m:Str}{p pos apos kpos:Pos}{e o:Expr}{es:List Expr}{kws:List Keyword}{te ta:TE}{t tk:TA}{nm:Option Str}
variable{g:List Value→List Value→List Value}{gV:List V→List V→List V}
end
structure ė(N P:List Str)(sc:Scope):Prop where
 kind:sc.kind=.function
 co:sc.isCoroutine=false
 gen:sc.isGenerator=false
 nd:N.Nodup
 pre:N.take P.length=P
 par:∀x∈P,sc.names.lookup x=some .local∨sc.names.lookup x=some .cell
 Td:∀y∈sc.names,y.2≠ .free
theorem oV{kindOf:Str→Option NameKind}{x:Str}:∀{binds:List (Str×Value)} {m:Str→Option Value},(∀v,(x,v)∉binds)→bindL kindOf binds m x=m x
 | [],_,_=>rfl
 |(n,v)::r,m,h=>by
  unfold bindL
  rw[oV fun w hw=>h w (List.mem_cons_of_mem _ hw)]
  split
  ·have:x≠n:=by rintro rfl;exact h v List.mem_cons_self
   simp[this]
  ·rfl
theorem oW{kindOf:Str→Option NameKind}{x:Str}:∀{binds:List (Str×Value)} {m:Str→Option Value},(∀v,(x,v)∉binds)→bindC kindOf binds m x=m x
 | [],_,_=>rfl
 |(n,v)::r,m,h=>by
  unfold bindC
  rw[oW fun w hw=>h w (List.mem_cons_of_mem _ hw)]
  split
  ·rfl
  ·have:x≠n:=by rintro rfl;exact h v List.mem_cons_self
   simp[this]
theorem oX{kindOf:Str→Option NameKind}{x:Str}{v:Value}:∀{P:List Str} {vs:List Value} {i:Nat} {m:Str→Option Value},P.Nodup→P[i]?=some x→vs[i]?=some v→kindOf x=some .local→
 bindL kindOf (P.zip vs) m x=some v
 | [],_,_,_,_,h,_,_=>by simp at h
 |_::_,[],_,_,_,_,h,_=>by simp at h
 |p::P,w::vs,0,m,nd,h1,h2,hk=>by
  simp at h1 h2;subst h1;subst h2
  show bindL kindOf ((p,w)::P.zip vs) m p=_
  unfold bindL
  rw[oV fun v hv=>(List.nodup_cons.mp nd).1 (List.of_mem_zip hv).1,if_pos hk]
  simp
 |p::P,w::vs,i+1,m,nd,h1,h2,hk=>by
  show bindL kindOf ((p,w)::P.zip vs) m x=_
  unfold bindL
  exact oX (i:=i) (List.nodup_cons.mp nd).2 (by simpa using h1) (by simpa using h2) hk
theorem oY{kindOf:Str→Option NameKind}{x:Str}{v:Value}:∀{P:List Str} {vs:List Value} {i:Nat} {m:Str→Option Value},P.Nodup→P[i]?=some x→vs[i]?=some v→kindOf x≠some .local→
 bindC kindOf (P.zip vs) m x=some v
 | [],_,_,_,_,h,_,_=>by simp at h
 |_::_,[],_,_,_,_,h,_=>by simp at h
 |p::P,w::vs,0,m,nd,h1,h2,hk=>by
  simp at h1 h2;subst h1;subst h2
  show bindC kindOf ((p,w)::P.zip vs) m p=_
  unfold bindC
  rw[oW fun v hv=>(List.nodup_cons.mp nd).1 (List.of_mem_zip hv).1,if_neg hk]
  simp
 |p::P,w::vs,i+1,m,nd,h1,h2,hk=>by
  show bindC kindOf ((p,w)::P.zip vs) m x=_
  unfold bindC
  exact oY (i:=i) (List.nodup_cons.mp nd).2 (by simpa using h1) (by simpa using h2) hk
def start(N:List Str)(vs:List V):St:=vs.map some++List.replicate (N.length-vs.length) none
def bO(CX:ou)(P:Program)(w:World)(K:PySem.W.Frag)(mg:Str→Option Value)(base:Heap)(N:List Str)(qual:Str)(scope:Scope)(f:Addr)(cd:Value)(A:Around)(outer:List Env)(s:Shared)(H:Hp)(E:XK):Cx where
 prog:=P
 w:=w
 K:=K
 mg:=mg
 base:=base
 A:=A.deeper (envOfC qual scope s.heap.objs.size f cd)
 N:=N
 s₀:= s
 H₀:= H
 env:=envOfC qual scope s.heap.objs.size f cd
 outer:=outer
 stack:=envOfC qual scope s.heap.objs.size f cd::outer
 ex:=[]
 calm:=true
 fn:=fun _=>true
 pn:=[]
 xe:=fun e s'=>wpAny (model P w) (A.deeper (envOfC qual scope s.heap.objs.size f cd)) (leaving (envOfC qual scope s.heap.objs.size f cd) e) (fun _ s''=>CX outer H s E e s'') (fun e' s''=>CX outer H s E e' s'') s'
theorem iy{sc:Scope}{n:Nat}{x:Str}(h:sc.names.lookup x=some .cell):∃c,(cellsFrom n sc.names []).lookup x=some c:=by
 have q:=PySem.W.cellsFrom_some sc.names n [] (.inl h)
 exact Option.isSome_iff_exists.mp q
theorem Bg{CX:ou}{P:Program}{w:World}{K:PySem.W.Frag}{mg:Str→Option Value}{base:Heap}{N ps:List Str}{qual:Str}{scope:Scope}{f:Addr}{cd:Value}{A:Around}{outer:List Env}{s s1:Shared}{H:Hp}{E:XK}{us:List Value}{vs:List V}
 (S:ė N ps scope)(hd:A.handled=none)(e0:wI P w K mg base A outer s H)(hl:vs.length=ps.length)(r:Vals vs us)
 (x:InCallC s s.heap.objs.size (bindL (envOfC qual scope s.heap.objs.size f cd).kindOf (ps.zip us) fun _=>none) (cellsFrom (s.heap.objs.size+1) scope.names []) (bindC (envOfC qual scope s.heap.objs.size f cd).kindOf (ps.zip us) fun _=>none) s1) :
 Inv (bO CX P w K mg base N qual scope f cd A outer s H E) [] (start N vs) H s1:=by
 have hpl:ps.length≤N.length:=by have:=congrArg List.length S.pre;rw[List.length_take] at this;omega
 obtain⟨h1,tk,rfl,hk⟩:=x.done
 have noA:∀b:Addr,b∉(bO CX P w K mg base N qual scope f cd A outer s H E).ex:=fun b z=>absurd (show b∈([]:List Addr) from z) (by simp)
 refine⟨⟨e0.mod,S.kind,rfl,rfl,Nat.le_refl _,fun y z c h1 h2=>?_,fun y hy=>?_,fun y c _ h=>?_,fun _=>hd,Around.frames_deeper e0.frames,.inr ⟨rfl,rfl⟩,fun b z=>absurd z (noA b),e0.bs,e0.Lj,fun b _ _=>noA b,fun b z=>absurd z (noA b),e0.j_,e0.Rx⟩,
  rfl,e0.bare,Un.kept hk,⟨_,x.toInCall.ns,fun i y v h1 h2 h3=>?_⟩,fun y c h=>⟨_,x.cell y c h⟩,e0.hok.fresh (Nat.le_refl _),fun y c h=>?_,fun p hp=>absurd (show p∈([]:List (Addr×Obj)) from hp) (by simp),e0.hok.kept hk,?_⟩
 ·exact name_of_addr x.apart (PySem.mem_of_lookup h1) (PySem.mem_of_lookup h2)
 ·have hy:scope.names.lookup y=some .cell∨scope.names.lookup y=some .free:=hy
  rcases hy with hy|hy
  ·exact iy hy
  ·exact absurd rfl (S.Td _ (PySem.mem_of_lookup hy))
 ·exact Nat.le_of_lt (x.above y c (PySem.mem_of_lookup h))
 ·have hi:i<vs.length:=by
   unfold start at h2
   by_cases hi:i<vs.length
   ·exact hi
   ·rw[List.getElem?_append_right (by simpa using hi)] at h2
    rw[List.getElem?_replicate] at h2
    split at h2<;>cases h2
  have ha:vs[i]?=some v:=by
   unfold start at h2
   rw[List.getElem?_append_left (by simpa using hi),List.getElem?_map] at h2
   cases e:vs[i]? with
   |none=>rw[e] at h2;cases h2
   |some a=>rw[e] at h2;cases h2;rfl
  obtain⟨u,hu,rv⟩:=r.get ha
  have hp:ps[i]?=some y:=by
   rw[←S.pre,List.getElem?_take_of_lt (by omega)];exact h1
  have ndP:ps.Nodup:=by rw[←S.pre];exact S.nd.sublist (List.take_sublist _ _)
  refine⟨u,rv,?_⟩
  rcases S.par y (List.mem_of_getElem? hp) with k|k
  ·exact .inl ⟨k,oX ndP hp hu k⟩
  ·obtain⟨c,e⟩:=iy (n:=s.heap.objs.size+1) k
   refine .inr ⟨.inl k,c,e,?_⟩
   have q:=x.cell y c e
   rw[oY ndP hp hu (by show scope.names.lookup y≠_;rw[k];decide)] at q
   exact q
 ·exact e0.hok.fresh (Nat.le_of_lt (x.above y c (PySem.mem_of_lookup h)))
 ·unfold start
  show _=N.length
  rw[List.length_append,List.length_map,List.length_replicate]
  omega
theorem Pn{CX:ou}{P:Program}{w:World}{K:PySem.W.Frag}{mg:Str→Option Value}{base:Heap}{k:Nat}{f:Addr}{name qual:Str}{params:Arguments}{body:List Stmt}{scope:Scope}{dV kV doc pm cdv ct oc:Value}{an od:Option Addr}
 {osl:Array (Option Value)}{N ps:List Str}{sp:Sp}(lk:K.lookup f=some ⟨oc,od,.func (PySem.W.fnOf name qual params body scope dV kV doc pm an cdv ct),osl⟩)(hcd:PySem.W.codeIn K cdv qual=true)(S:ė N ps scope)
 (len:∀vs H Q E,sp vs H Q E→vs.length=ps.length)
 (hbody:∀(A:Around) (outer:List Env) (s:Shared) (H:Hp) (vs:List V) (Q:VK) (E:XK),bD k (A.deeper (envOfC qual scope s.heap.objs.size f cdv))→sp vs H Q E→
   ∃t,kh (bO CX P w K mg base N qual scope f cdv A outer s H E) body t∧t {nx:=fun _ H'=>Q .non H',rt:=Q} (start N vs) H) :
 ľ P w K mg base CX (k+1) f (PySem.W.fnOf name qual params body scope dV kV doc pm an cdv ct) ps sp:=by
 refine⟨len,fun A outer s H args us vs Q E hr e0 hb r hsp=>?_⟩
 have hl:=len _ _ _ _ hsp
 have KX:K.In s.heap:=e0.mod.kin.keeps fun b o e=>(e0.bs b o e).1
 have lim:s.heap.NoLimit:=e0.mod.nolimit.keeps fun b o e=>(e0.bs b o e).1
 have hkind:∀y∈ps.zip us,scope.names.lookup y.1=some .local∨(scope.names.lookup y.1=some .cell∧((cellsFrom (s.heap.objs.size+1) scope.names []).lookup y.1).isSome=true):=fun⟨n,v⟩ hy=>by
  rcases S.par n (List.of_mem_zip hy).1 with q|q
  ·exact .inl q
  ·exact .inr ⟨q,PySem.W.cellsFrom_some _ _ _ (.inl q)⟩
 refine codeAny_call_function hr.depth (KX _ _ lk) rfl S.co S.gen rfl (PySem.W.codeRec_of KX hcd) (hb _ _ _ _ ?_)
 refine wpAny_newFunctionEnv_cells S.kind hkind fun env he s1 x=>?_
 subst he
 refine⟨lim.keeps x.toInCall.keep,codeAny_func ?_⟩
 obtain⟨t,ht,hq⟩:=hbody A outer s H vs Q E (hr.deeper _) hsp
 have I:Inv (bO CX P w K mg base N qual scope f cdv A outer s H E) [] (start N vs) H s1:=Bg S hr.hd e0 hl r x
 refine wpAny_mono (ht [] s1 (start N vs) H _ I hq) (fun fl s' hs=>?_) fun e s' hs=>hs
 have fin:∀{σ':St} {H':Hp} {v:V} {u:Value},Inv (bO CX P w K mg base N qual scope f cdv A outer s H E) [] σ' H' s'→RelV v u→Q v H'→CE outer P w H s Q u s':=
  fun{σ' H' v u} J rv q=>⟨v,H',J.os,J.bare,J.base,J.hok,rv,q⟩
 cases fl with
 |ret u=>
  obtain⟨v,σ',H',J,rv,q⟩:=hs
  exact fin J rv q
 |next=>
  obtain⟨σ',H',J,q⟩:=hs
  exact fin (v:=V.non) (u:=Value.none) J rfl q
 |brk=>
  obtain⟨_,_,_,q⟩:=hs
  exact False.elim q
 |cont=>
  obtain⟨_,_,_,q⟩:=hs
  exact False.elim q
end L2
namespace L2
open PySem PySem.Spec PyProof.Rows
section
variable{X:Cx}{x:Str}{p pos:Pos}{e:Expr}{es:List Expr}{t:TA}{id T:String}{r:List V→Hp→VK→Prop}
def tCB(r:List V→Hp→VK→Prop)(t:TA):TE:=fun σ H Q=>t σ H fun vs H1=>r vs H1 Q
theorem ĩ(hc:Ŝ X (.builtin id) r)(hg:Gl X x)(hm:X.mg x=none)(hv:bootBuiltins x=some (.builtin id))(ha:PA X (e::es) t)(hn:x≠ "__name__" := by decide)(hdb:(x== ("__debug__" :Str))=false:=by decide)
 (he:starEach (e::es) X.env=(false,eval e X.env)::starEach es X.env:=by rfl)(hpl:(backTo pos (starEach es X.env)).any (·.1)=false:=by rfl):PE X (.Call (.Name x p) (e::es) [] pos) (tCB r t):=by
 intro pins s σ H Q I h
 refine wpAny_Call_Name_kw (lH I hg hm hv ?_ hn hdb)
 exact PyProof.Rows.callWith_builtin1 (ű (ha pos pins s σ H _ I h) fun us s1 ⟨vs,H1,I1,r1,q1⟩=>hc pins s1 σ H1 vs us Q I1 r1 q1) he hpl
theorem ų(hc:Ŝ X (.type T) r)(hg:Gl X x)(hm:X.mg x=none)(hv:bootBuiltins x=some (.type T))(ha:PA X (e::es) t)(hn:x≠ "__name__" := by decide)(hdb:(x== ("__debug__" :Str))=false:=by decide)
 (he:starEach (e::es) X.env=(false,eval e X.env)::starEach es X.env:=by rfl)(hpl:(backTo pos (starEach es X.env)).any (·.1)=false:=by rfl):PE X (.Call (.Name x p) (e::es) [] pos) (tCB r t):=by
 intro pins s σ H Q I h
 refine wpAny_Call_Name_kw (lH I hg hm hv ?_ hn hdb)
 exact PyProof.Rows.callWith_type1 (ű (ha pos pins s σ H _ I h) fun us s1 ⟨vs,H1,I1,r1,q1⟩=>hc pins s1 σ H1 vs us Q I1 r1 q1) he hpl
end
end L2
namespace HT
open PySem PyProof.Rows
section
open PySem.SeqAt
open PySem.AutoSeq1 (wpAny_loadPart')
open PySem.MeetsSeq PySem.MeetsSeq2 PySem.MeetsSeq3
end
section
variable{prog:Program}{w:World}{A:Around}{E:Value→Shared→Prop}{s:Shared}
def ig(n d:Nat):Option Int→Nat
 |none=>d
 |some v=>if v<0 then(v+(n:Int)).toNat else min v.toNat n
theorem Dg(n d:Nat)(hd:d≤n)(o:Option Int):ig n d o≤n:=by
 cases o with
 |none=>exact hd
 |some v=>
  show(if v<0 then(v+(n:Int)).toNat else min v.toNat n)≤n
  by_cases hv:v<0
  ·rw[if_pos hv];omega
  ·rw[if_neg hv];exact Nat.min_le_right _ _
end
end HT
namespace L2
open PySem PySem.Spec PyProof.Rows
abbrev TO:=St→Hp→(Option Int→Hp→Prop)→Prop
def PO(X:Cx)(e:Option Expr)(t:TO):Prop:=
 ∀(pins:List (Addr×Obj)) (s:Shared) (σ:St) (H:Hp) (Q:Option Int→Hp→Prop),Inv X pins σ H s→t σ H Q→
  wpAny (model X.prog X.w) X.A (evalPart e X.env) (fun u s'=>∃o H',Inv X pins σ H' s'∧IsPart u o∧Q o H') X.xe s
def L_:TO:=fun _ H Q=>Q none H
section
variable{X:Cx}{e:Expr}{te:TE}{lo hi:Option Expr}{tl th:TO}{pos p2:Pos}
theorem Ma:PO X none L_:=by
 intro pins s σ H Q I h
 rw[evalPart_none]
 exact wpAny_pure ⟨none,H,I,.none,h⟩
def zf(X:Cx)(r:V→Option Int→Option Int→Hp→VK→Prop):Prop:=
 ∀(pins:List (Addr×Obj)) (s:Shared) (σ:St) (H:Hp) (x:V) (v vl vu:Value) (lo hi:Option Int) (sl:Addr) (Q:VK),Inv X pins σ H s→RelV x v→s.heap.IsSliceOf sl vl vu .none→IsPart vl lo→IsPart vu hi→r x lo hi H Q→
  ∃T id,typeLookup (.type T) "__getitem__" =pure (some (.builtin id))∧s.TypeIs v T∧wpAny (model X.prog X.w) X.A (getItem v (.ref sl)) (EP X pins σ Q) X.xe s
theorem zf.or{r r':V→Option Int→Option Int→Hp→VK→Prop}(h:zf X r)(h':zf X r'):zf X (fun x lo hi H Q=>r x lo hi H Q∨r' x lo hi H Q):=by
 intro pins s σ H x v vl vu lo hi sl Q I rx hs pl pu q
 rcases q with q|q
 ·exact h pins s σ H x v vl vu lo hi sl Q I rx hs pl pu q
 ·exact h' pins s σ H x v vl vu lo hi sl Q I rx hs pl pu q
def tSl(r:V→Option Int→Option Int→Hp→VK→Prop)(te:TE)(tl th:TO):TE:=fun σ H Q=>te σ H fun x H1=>tl σ H1 fun l H2=>th σ H2 fun u H3=>r x l u H3 Q
theorem Dh{r:V→Option Int→Option Int→Hp→VK→Prop}(hr:zf X r)(he:PE X e te)(hl:PO X lo tl)(hu:PO X hi th):PE X (.Subscript e (.Slice lo hi none p2) pos) (tSl r te tl th):=by
 intro pins s σ H Q I h
 refine Subscript_ (ű (he pins s σ H _ I h) fun v s1 ⟨x,H1,I1,r1,q1⟩=>?_)
 refine wpAny_Slice (ű (hl pins s1 σ H1 _ I1 q1) fun vl s2 ⟨l,H2,I2,pl,q2⟩=>ű (hu pins s2 σ H2 _ I2 q2) fun vu s3 ⟨u,H3,I3,pu,q3⟩=>?_)
 rw[evalPart_none]
 refine wpAny_pure ?_
 have I4:Inv X pins σ H3 {s3 with heap:=s3.heap.push {cls:=.type "slice",data:=.fields #[vl,vu,.none]}}:=I3.kept (t':=s3.toks) fun b ob q=>Heap.get?_push_of_some _ q
 obtain⟨T,id,hT,ht,hg⟩:=hr pins {s3 with heap:=s3.heap.push {cls:=.type "slice",data:=.fields #[vl,vu,.none]}} σ H3 x v vl vu l u s3.heap.objs.size Q I4 r1 (Heap.IsSliceOf.new ..) pl pu q3
 show wpAny (model X.prog X.w) X.A (subscriptTail e (.Slice lo hi none p2) v (.ref s3.heap.objs.size)) (EP X pins σ Q) X.xe {s3 with heap:=s3.heap.push {cls:=.type "slice",data:=.fields #[vl,vu,.none]}}
 exact tail_any (ops:=[.ref s3.heap.objs.size,v]) ht hT hg (by with_unfolding_all rfl)
def tQ(xs:List V)(lo hi:Option Int):List V:=(xs.drop (HT.ig xs.length 0 lo)).take (HT.ig xs.length xs.length hi-HT.ig xs.length 0 lo)
theorem tU(xs:List V)(lo hi:Option Int):(tQ xs lo hi).length≤xs.length:=by
 unfold tQ
 rw[List.length_take,List.length_drop]
 omega
end
end L2
namespace L2
open PySem PySem.Spec PyProof.Rows
def wJ(n:Nat)(i:Int):Option Nat:=if 0≤i then(if i<n then some i.toNat else none) else if -(n:Int)≤i then some (i+n).toNat else none
def jc{α:Type}(xs:List α)(i:Int):Option α:= (wJ xs.length i).bind fun j=>xs[j]?
theorem zj{n:Nat}{i:Int}{j:Nat}(h:wJ n i=some j):seqIndex? i n=some j∧j<n∧ -(n:Int)≤i∧i<n:=by
 unfold wJ at h
 by_cases h0:0≤i
 ·rw[if_pos h0] at h
  by_cases h1:i<n
  ·rw[if_pos h1] at h
   have e:i.toNat=j:=Option.some.inj h
   exact⟨by rw[seqIndex_of h0 h1,e],by omega,by omega,h1⟩
  ·rw[if_neg h1] at h;cases h
 ·rw[if_neg h0] at h
  by_cases h1: -(n:Int)≤i
  ·rw[if_pos h1] at h
   have e:(i+n).toNat=j:=Option.some.inj h
   exact⟨by rw[seqIndex_neg (by omega) h1,e],by omega,h1,by omega⟩
  ·rw[if_neg h1] at h;cases h
theorem qI{α:Type}{xs:List α}{i:Int}{v:α}(h:jc xs i=some v):∃j,seqIndex? i xs.length=some j∧xs[j]?=some v∧j<xs.length∧ -(xs.length:Int)≤i∧i<xs.length:=by
 unfold jc at h
 cases e:wJ xs.length i with
 |none=>rw[e] at h;cases h
 |some j=>
  rw[e] at h
  obtain⟨h1,h2,h3,h4⟩:=zj e
  exact⟨j,h1,h,h2,h3,h4⟩
def zm(b:Expr):Prop:=∀o i,subscripted b false o i=operate [o,i] (getItem o i)
def wK(X:Cx)(r:R2):Prop:=
 ∀(value slice:Expr) (pins:List (Addr×Obj)) (s:Shared) (σ:St) (H:Hp) (x y:V) (v u:Value) (Q:VK),Inv X pins σ H s→RelV x v→RelV y u→r x y H Q→
  subscripted slice false v u=operate [v,u] (getItem v u)→wpAny (model X.prog X.w) X.A (subscriptTail value slice v u) (EP X pins σ Q) X.xe s
def MtR(X:Cx)(id:String)(r:V→List V→Hp→VK→Prop):Prop:=
 ∀(pins:List (Addr×Obj)) (s:Shared) (σ:St) (H:Hp) (x:V) (xs:List V) (v:Value) (us:List Value) (Q:VK),Inv X pins σ H s→RelV x v→Vals xs us→r x xs H Q→
  wpAny (model X.prog X.w) X.A (call (.builtin id) (v::us)) (EP X pins σ Q) X.xe s
section
variable{X:Cx}{a b:Expr}{ta tb:TE}{pos:Pos}
theorem wK.or{r r':R2}(h:wK X r)(h':wK X r'):wK X (fun x y H Q=>r x y H Q∨r' x y H Q):=by
 intro value slice pins s σ H x y v u Q I rx ry q hs
 rcases q with q|q
 ·exact h value slice pins s σ H x y v u Q I rx ry q hs
 ·exact h' value slice pins s σ H x y v u Q I rx ry q hs
theorem Pq{r:R2}(hr:wK X r)(ha:PE X a ta)(hb:PE X b tb)(hs:zm b):PE X (.Subscript a b pos) (Sd r ta tb):=by
 intro pins s σ H Q I h
 exact Subscript_ (Sg ha hb I h fun v u s2 x y H2 I2 rx ry q=>hr a b pins s2 σ H2 x y v u Q I2 rx ry q (hs _ _))
def Zar(K:PySem.W.Frag):R2:=fun x y H Q=>∃p xs i v,x=.ref p∧y=.int i∧aB K H p xs∧jc xs i=some v∧Q v H
def Zas(K:PySem.W.Frag):R2:=fun x y H Q=>∃p xs i v,x=.ref p∧y=.int i∧cF K H p xs∧jc xs i=some v∧Q v H
def Zat:R2:=fun x y H Q=>∃z i c,x=.str z∧y=.int i∧z.length≤sizeLine∧jc z.cps.toList i=some c∧Q (.str ⟨#[c]⟩) H
theorem Mf:wK X (Zar X.K):=by
 intro value slice pins s σ H x y v u Q I rx ry h hs
 obtain⟨p,xs,i,z,rfl,rfl,hq,he,q⟩:=h
 cases rx
 obtain⟨t,rfl⟩:=ry
 obtain⟨its,r,pl,hz⟩:=I.list hq
 obtain⟨j,h1,h2,h3,h4,h5⟩:=qI he
 obtain⟨w,ew,rw'⟩:=r.get h2
 have hl:=r.length
 have hn:=jf
 have fin:EP X pins σ Q w s:=⟨z,H,I,rw',q⟩
 by_cases h0:0≤i
 ·have hj:i.toNat=j:=by
   rw[seqIndex_of h0 h5] at h1
   exact Option.some.inj h1
  exact item_listR pl.isList h0 (by omega) (by rw[hj];simpa using ew) fin hs
 ·have hj:(i+(its.toArray.size:Int)).toNat=j:=by
   rw[seqIndex_neg (by omega) h4] at h1
   rw[List.size_toArray,←hl]
   exact Option.some.inj h1
  exact subscriptTail_builtinR (x:=w) pl.isList.typeIs slot_list_getitem.lookup
   (wpAny_getItem_list_neg (Q:=fun r s'=>r=w∧EP X pins σ Q r s') pl.isList (by omega) (by rw[List.size_toArray]<;>omega) (by omega) (by rw[hj];simpa using ew) ⟨rfl,fin⟩) hs
theorem Te:wK X (Zas X.K):=by
 intro value slice pins s σ H x y v u Q I rx ry h hs
 obtain⟨p,xs,i,z,rfl,rfl,hq,he,q⟩:=h
 cases rx
 obtain⟨t,rfl⟩:=ry
 obtain⟨its,r,pl,hz⟩:=I.tuple hq
 obtain⟨j,h1,h2,h3,h4,h5⟩:=qI he
 obtain⟨w,ew,rw'⟩:=r.get h2
 have hl:=r.length
 have hn:=jf
 have fin:EP X pins σ Q w s:=⟨z,H,I,rw',q⟩
 exact subscriptTail_builtinR (x:=w) pl.typeIs slot_tuple_getitem.lookup
  (getItem_tuple (j:=j) (Q:=fun r s'=>r=w∧EP X pins σ Q r s') pl (by omega) (by omega) (by rw[List.size_toArray,←hl];exact h1) (by simpa using ew) ⟨rfl,fin⟩) hs
theorem Tf:wK X Zat:=by
 intro value slice pins s σ H x y v u Q I rx ry h hs
 obtain⟨z,i,c,rfl,rfl,hz,he,q⟩:=h
 obtain⟨t,rfl⟩:=rx
 obtain⟨t',rfl⟩:=ry
 obtain⟨j,h1,h2,h3,h4,h5⟩:=qI he
 have hl:z.cps.toList.length=z.length:=by simp[Str.length]
 rw[hl] at h1 h4 h5
 have hn:=jf
 exact tail_any (typeIs_str s z t) slot_str_getitem.lookup (getItem_str (c:=c) (by
  have e1:decide (i < -(2 ^ 63:Int))=false:=decide_eq_false (by omega)
  have e2:decide (i ≥ 2 ^ 63)=false:=decide_eq_false (by omega)
  rw[e1,e2,Bool.or_false]) (by rw[h1];simpa using h2) ⟨.str ⟨#[c]⟩,H,I.tok _,⟨_,rfl⟩,q⟩) hs
def rIx(K:PySem.W.Frag):R2:=fun x y H Q=>Zar K x y H Q∨Zas K x y H Q∨Zat x y H Q
theorem Di:wK X (rIx X.K):=Mf.or (Te.or Tf)
theorem wL(its:List Value)(n j:Nat)(u:Value):Obj.mapSeq (·.setIfInBounds j u) {cls:=.type "list",data:=.seq its.toArray n}= {cls:=.type "list",data:=.seq (its.set j u).toArray n}:=by
 simp[Obj.mapSeq]
theorem Inv.lst{pins:List (Addr×Obj)}{σ:St}{H:Hp}{s:Shared}{p:Addr}{xs:List V}(I:Inv X pins σ H s)(h:H p=some (.lst xs)) :
 ∃(its:List Value) (n:Nat),Vals xs its∧s.heap.get? p=some {cls:=.type "list",data:=.seq its.toArray n}∧xs.length≤sizeLine:=by
 obtain⟨z,its,n,r,e⟩:=I.hok p _ h
 exact⟨its,n,r,e,z⟩
theorem Inv.Ti{pins:List (Addr×Obj)}{σ:St}{H:Hp}{s:Shared}{p:Addr}{xs ys:List V}{its its':List Value}{n n':Nat}{f:Obj→Obj}(I:Inv X pins σ H s)(h:H p=some (.lst xs))
 (ho:s.heap.get? p=some {cls:=.type "list",data:=.seq its.toArray n})(hf:f {cls:=.type "list",data:=.seq its.toArray n}= {cls:=.type "list",data:=.seq its'.toArray n'})(r:Vals ys its')(hz:ys.length≤sizeLine)(t:Nat) :
 Inv X pins σ (upd H p (.lst ys)) {s with heap:=s.heap.update p f,toks:=t}:=by
 have e:(s.heap.update p f).get? p=some {cls:=.type "list",data:=.seq its'.toArray n'}:=by
  rw[Heap.get?_update_self f ho (by rw[hf]<;>rfl),hf]
 refine I.write (x:=p) (e:=p) (by rw[h];trivial) (.inl rfl) (fun b u hb q=>(Heap.get?_update_other _ _ (Ne.symm hb)).trans q) ⟨_,e⟩ ?_
 exact⟨hz,its',n',r,e⟩
def Zau:V→V→V→Hp→(Hp→Prop)→Prop:=fun o i v H Q=>∃p xs k j,o=.ref p∧i=.int k∧H p=some (.lst xs)∧wJ xs.length k=some j∧Q (upd H p (.lst (xs.set j v)))
theorem set_list:Zag X Zau:=by
 intro pins s σ H o i v ov iv u Q I ro ri rv h
 obtain⟨p,xs,k,j,rfl,rfl,hp,hj,q⟩:=h
 cases ro
 obtain⟨t,rfl⟩:=ri
 obtain⟨its,n,r,ho,hz⟩:=I.lst hp
 obtain⟨h1,h2,h3,h4⟩:=zj hj
 have hl:=r.length
 have hn:=jf
 have I':Inv X pins σ (upd H p (.lst (xs.set j v))) {s with heap:=s.heap.update p (Obj.mapSeq (·.setIfInBounds j u))}:=
  I.Ti hp ho (wL its n j u) (r.set rv j) (by rw[List.length_set];exact hz) s.toks
 by_cases h0:0≤k
 ·have hk:k.toNat=j:=by
   rw[seqIndex_of h0 h4] at h1
   exact Option.some.inj h1
  exact PySem.W.ki_setAt ho h0 (by omega) (by rw[List.size_toArray,←hl];exact h4) (by rw[hk];exact⟨_,I',q⟩)
 ·have hk:(k+(its.toArray.size:Int)).toNat=j:=by
   rw[seqIndex_neg (by omega) h3] at h1
   rw[List.size_toArray,←hl]
   exact Option.some.inj h1
  exact PySem.W.ki_setBack ho (by omega) (by rw[List.size_toArray,←hl];exact h3) (by omega) (by rw[hk];exact⟨_,I',q⟩)
theorem qJ(lo hi:Option Int)(n:Nat):(sliceBounds lo hi none n).1=((HT.ig n 0 lo:Nat):Int)∧(sliceBounds lo hi none n).2.1=((HT.ig n n hi:Nat):Int)∧(sliceBounds lo hi none n).2.2=1:=by
 refine⟨?_,?_,rfl⟩
 ·cases lo with
  |none=>simp[sliceBounds,HT.ig]
  |some i=>
   simp only[sliceBounds,HT.ig,Option.getD_none,show(1:Int)>0 by decide,if_true]
   by_cases h:i<0
   ·simp only[h,if_true]<;>omega
   ·simp only[h,if_false]<;>omega
 ·cases hi with
  |none=>simp[sliceBounds,HT.ig]
  |some i=>
   simp only[sliceBounds,HT.ig,Option.getD_none,show(1:Int)>0 by decide,if_true]
   by_cases h:i<0
   ·simp only[h,if_true]<;>omega
   ·simp only[h,if_false]<;>omega
theorem oG(its:List Value)(lo hi:Option Int):slicePick its.toArray lo hi none=((its.drop (HT.ig its.length 0 lo)).take (HT.ig its.length its.length hi-HT.ig its.length 0 lo)).toArray:=by
 obtain⟨h1,h2,h3⟩:=qJ lo hi its.toArray.size
 unfold slicePick
 rw[h1,h2,h3]
 simp only[sliceRange_one,pick_run,List.size_toArray]<;>rfl
def ZgS(K:PySem.W.Frag):V→Option Int→Option Int→Hp→VK→Prop:=fun x lo hi H Q=>∃a xs,x=.ref a∧aB K H a xs∧∀p,H p=none→Q (.ref p) (upd H p (.lst (tQ xs lo hi)))
theorem Mg:zf X (ZgS X.K):=by
 intro pins s σ H x v vl vu lo hi sl Q I rx hs pl pu h
 obtain⟨a,xs,rfl,hx,q⟩:=h
 cases rx
 obtain⟨its,r,ht,hz⟩:=I.list hx
 have hlen:=r.length
 refine⟨"list",_,slot_list_getitem.lookup,ht.isList.typeIs,?_⟩
 refine wpAny_getItem_list_slice ht.isList hs pl pu .none (by simp) ?_ (by rw[List.size_toArray]<;>omega)
 rw[oG,←hlen]
 refine⟨.ref s.heap.objs.size,_,I.laid (t':=s.toks) (o:=.lst (tQ xs lo hi)) (fun b ob q=>Heap.get?_push_of_some _ q) (Nat.le_refl _) ?_,rfl,q _ (I.hok.fresh (Nat.le_refl _))⟩
 exact⟨Nat.le_trans (tU xs lo hi) hz,_,0,(r.drop (HT.ig xs.length 0 lo)).take (HT.ig xs.length xs.length hi-HT.ig xs.length 0 lo),Heap.get?_push_size _ rfl⟩
theorem qK:Ŝ X (.type "list") (fun xs H Q=>∃p ys,xs=[.ref p]∧(aB X.K H p ys∨cF X.K H p ys)∧∀l,H l=none→Q (.ref l) (upd H l (.lst ys))):=by
 intro pins s σ H xs us Q I r h
 obtain⟨p,ys,rfl,hq,q⟩:=h
 obtain⟨u,rfl,rx⟩:=vals1 r
 cases rx
 have fin:∀(its:List Value),Vals ys its→ys.length≤sizeLine→∀(h':Heap) (c':Nat),(∀b o',s.heap.get? b=some o'→h'.get? b=some o')→
  h'.get? s.heap.objs.size=some {cls:=.type "list",dict:=none,data:=.seq its.toArray c',slots:=#[]}→EP X pins σ Q (.ref s.heap.objs.size) {s with heap:=h'}:=fun its r' hz h' c' kp e=>
  ⟨.ref s.heap.objs.size,_,I.laid (t':=s.toks) kp (Nat.le_refl _) (show ſ X.prog X.w _ h' _ (.lst ys) from⟨hz,its,c',r',e⟩),rfl,q _ (I.hok.fresh (Nat.le_refl _))⟩
 rcases hq with hq|hq
 ·obtain⟨its,r',pl,hz⟩:=I.list hq
  have hlen:=r'.length
  obtain⟨o,ho,hc,n,hd⟩:=pl.isList
  exact call_list_seq p (.inl rfl) ho hc hd (fun h' c' kp e=>fin its r' hz h' c' kp e) (by simp only[List.size_toArray]<;>omega)
 ·obtain⟨its,r',pl,hz⟩:=I.tuple hq
  have hlen:=r'.length
  obtain⟨o,ho,hc,n,hd⟩:=pl
  exact call_list_seq p (.inr rfl) ho hc hd (fun h' c' kp e=>fin its r' hz h' c' kp e) (by simp only[List.size_toArray]<;>omega)
theorem oH:Ŝ X (.type "tuple") (fun xs H Q=>∃p ys,xs=[.ref p]∧((aB X.K H p ys∧∀l,H l=none→Q (.ref l) (upd H l (.tup ys)))∨(cF X.K H p ys∧Q (.ref p) H))):=by
 intro pins s σ H xs us Q I r h
 obtain⟨p,ys,rfl,h⟩:=h
 obtain⟨u,rfl,rx⟩:=vals1 r
 cases rx
 rcases h with⟨hq,q⟩|⟨hq,q⟩
 ·obtain⟨its,r',pl,hz⟩:=I.list hq
  have hlen:=r'.length
  refine call_tuple_list pl.isList (fun h' kp=>?_) (by simp only[List.size_toArray]<;>omega)
  have I1:Inv X pins σ H {s with heap:=h'}:=I.kept (t':=s.toks) kp
  have I2:Inv X pins σ (upd H h'.objs.size (.tup ys)) {s with heap:=h'.push {cls:=.type "tuple",data:=.seq its.toArray}}:=
   I1.laid (t':=s.toks) (fun b o e=>Heap.get?_push_of_some _ e) (Nat.le_refl _) (show ſ X.prog X.w _ _ _ (.tup ys) from⟨hz,its,r',IsTup.new _ _⟩)
  exact⟨.ref h'.objs.size,_,I2,rfl,q _ (I1.hok.fresh (Nat.le_refl _))⟩
 ·obtain⟨its,r',pl,hz⟩:=I.tuple hq
  exact call_tuple_same pl ⟨.ref p,H,I,rfl,q⟩
def tyV(K:PySem.W.Frag)(T:String)(x:V)(H:Hp):Prop:=match x with
 | .str _=>T= "str"
 | .int _=>T= "int"
 | .ref p=>(T= "list" ∧∃xs,aB K H p xs)∨(T= "tuple" ∧∃o,K.lookup p=some o∧o.cls=.type "tuple" ∧o.dict=none)∨
     (T= "dict" ∧((∃kvs,H p=some (.dK kvs))∨∃kvs,H p=some (.dT kvs)))∨(T= "set" ∧∃S n,H p=some (.set S n))
 |_=>False
theorem Tj{pins:List (Addr×Obj)}{σ:St}{H:Hp}{s:Shared}{T:String}{x:V}{v:Value}(I:Inv X pins σ H s)(r:RelV x v)(ty:tyV X.K T x H) :
 s.TypeIs v T∧∀a,v=.ref a→∃ob,s.heap.get? a=some ob∧ob.dict=none:=by
 cases x with
 |str z=>
  obtain⟨t,rfl⟩:=r
  cases(show T= "str" from ty)
  exact⟨typeIs_str s z t,fun _ e=>nomatch e⟩
 |int i=>
  obtain⟨t,rfl⟩:=r
  cases(show T= "int" from ty)
  exact⟨typeIs_int s i t,fun _ e=>nomatch e⟩
 |ref p=>
  cases r
  rcases ty with⟨rfl,xs,hq⟩|⟨rfl,o,hk,hc,hd⟩|⟨rfl,hk⟩|⟨rfl,S,n,hk⟩
  ·obtain⟨its,_,pl,_⟩:=I.list hq
   refine⟨pl.isList.typeIs,fun a e=>?_⟩
   cases e
   obtain⟨o,n,e,c,hd,_⟩:=pl
   exact⟨o,e,hd⟩
  ·refine⟨⟨o,I.i_ p o hk,hc⟩,fun a e=>?_⟩
   cases e
   exact⟨o,I.i_ _ o hk,hd⟩
  ·have z:∃o,s.heap.get? p=some o∧o.ExactDict:=by
    rcases hk with⟨kvs,hk⟩|⟨kvs,hk⟩
    ·obtain⟨_,_,_,_,o,_,_,e,ex,_⟩:=I.hok p _ hk
     exact⟨o,e,ex⟩
    ·obtain⟨_,_,_,_,o,_,_,e,ex,_⟩:=I.hok p _ hk
     exact⟨o,e,ex⟩
   obtain⟨o,e,ex⟩:=z
   refine⟨⟨o,e,ex.1⟩,fun a e2=>?_⟩
   cases e2
   exact⟨o,e,ex.2.1⟩
  ·obtain⟨o,_,_,_,e,ex,_⟩:=I.hok p _ hk
   refine⟨⟨o,e,ex.1⟩,fun a e2=>?_⟩
   cases e2
   exact⟨o,e,ex.2.1⟩
 |_=>exact False.elim ty
def tBM(K:PySem.W.Frag)(T:String)(r:V→List V→Hp→VK→Prop)(to:TE)(t:TA):TE:=fun σ H Q=>to σ H fun x H1=>tyV K T x H1∧t σ H1 fun xs H2=>r x xs H2 Q
variable{o e:Expr}{es:List Expr}{to:TE}{t:TA}{name:Str}{apos cpos:Pos}{T id:String}{r:V→List V→Hp→VK→Prop}
theorem jH(pa:PlainAttrs T)(slot:Slot T name id)(hty:typeOf (.builtin id)=pure (.type "method_descriptor"))(hm:MtR X id r)(ho:PE X o to)(ha:PA X (e::es) t)
 (hbase:attributeBase o name X.env (eval o X.env)=eval o X.env:=by rfl)
 (hfew:((backTo cpos (starEach (e::es) X.env)).all (fun x=>!x.1) && (backToKw cpos (keywordEach [] X.env)).all (fun x=>x.1.isSome)
   && decide ((e::es).length+([]:List Keyword).length+(if([]:List Keyword).isEmpty then 0 else 1)<30))=true:=by rfl)
 (hline:(apos.endLine== cpos.line)=true:=by rfl)(hs:starEach (e::es) X.env=(false,eval e X.env)::starEach es X.env:=by rfl)(hplain:(backTo cpos (starEach es X.env)).any (·.1)=false:=by rfl) :
 PE X (.Call (.Attribute o name apos) (e::es) [] cpos) (tBM X.K T r to t):=by
 intro pins s σ H Q I h
 refine wpAny_Call_method_late hbase hfew hline rfl (ű (ho pins s σ H _ I h) fun v s1 ⟨x,H1,I1,r1,ty,q1⟩=>?_)
 obtain⟨h1,h2⟩:=Tj I1 r1 ty
 refine⟨T,id,pa,slot,hty,h1,h2,?_⟩
 have hA:=ha cpos pins s1 σ H1 _ I1 q1
 rw[hs] at hA ⊢
 refine Calls.callWith_builtin (by show(false || (backTo cpos (starEach es X.env)).any (·.1))=false;rw[hplain]<;>rfl) (Calls.evalArgs_plain ?_)
 exact ű hA fun us s2 ⟨vs,H2,I2,r2,q2⟩=>hm pins s2 σ H2 x vs v us Q I2 r1 r2 q2
end
end L2
namespace L2
open PySem PySem.Spec PyProof.Rows
def MtM(X:Cx)(id:String)(r:V→List V→Hp→VK→Prop):Prop:=
 ∀(pins:List (Addr×Obj)) (s:Shared) (σ:St) (H:Hp) (x:V) (xs:List V) (v:Value) (us:List Value) (Q:VK),Inv X pins σ H s→RelV x v→Vals xs us→r x xs H Q→
  wpAny (model X.prog X.w) X.A (call (.builtin id) (v::us)) (EP X pins σ Q) X.xe s
theorem Vals.one:∀{x:V} {us:List Value},Vals [x] us→∃u,us=[u]∧RelV x u
 |_,_,.cons r .nil=>⟨_,rfl,r⟩
section
variable{X:Cx}{pins:List (Addr×Obj)}{σ:St}{H:Hp}{s:Shared}{l b:Addr}{xs ys zs:List V}
theorem Inv.Zav{its its':List Value}{n:Nat}{f:Array Value→Array Value}{t':Nat}(I:Inv X pins σ H s)(hH:H l=some (.lst xs))
 (e:s.heap.get? l=some {cls:=.type "list",data:=.seq its.toArray n})(hf:f its.toArray=its'.toArray)(hv:Vals ys its')(hz:ys.length≤sizeLine) :
 Inv X pins σ (upd H l (.lst ys)) {s with heap:=s.heap.update l (Obj.mapSeq f),toks:=t'}:=by
 have q:=PySem.IsL.update e f
 rw[hf] at q
 refine I.write (x:=l) (e:=l) (by rw[hH];exact trivial) (.inl rfl) (fun b' u hb hu=>(Heap.get?_update_other s.heap (Obj.mapSeq f) (Ne.symm hb)).trans hu) ⟨_,q⟩ ?_
 exact⟨hz,its',_,hv,q⟩
theorem Inv.ZgT{its:List Value}{t':Nat}(I:Inv X pins σ H s)(hv:Vals ys its)(hz:ys.length≤sizeLine) :
 Inv X pins σ (upd H s.heap.objs.size (.lst ys)) {s with heap:=s.heap.push {cls:=.type "list",data:=.seq its.toArray},toks:=t'}:=
 I.laid (fun _ _ q=>Heap.get?_push_of_some _ q) (Nat.le_refl _) ⟨hz,its,0,hv,Heap.get?_push_size _ rfl⟩
theorem Inv.fresh(I:Inv X pins σ H s):H s.heap.objs.size=none:=I.hok.fresh (Nat.le_refl _)
theorem Inv.Tn(I:Inv X pins σ H s)(hH:H l=some (.lst xs)):xs.length≤sizeLine∧∃(its:List Value) (n:Nat),Vals xs its∧xs.length=its.length∧s.heap.get? l=some {cls:=.type "list",data:=.seq its.toArray n}:=by
 obtain⟨z,its,n,r,e⟩:=I.hok l _ hH
 exact⟨z,its,n,r,r.length,e⟩
theorem Dj{n:Nat}(h:n≤sizeLine):Builtin.List.listTooLong n=false:=by
 unfold Builtin.List.listTooLong
 exact decide_eq_false (by omega)
end
section
variable{X:Cx}
def qL:V→List V→Hp→VK→Prop:=fun x vs H Q=>∃l xs y,x=.ref l∧vs=[y]∧H l=some (.lst xs)∧xs.length<sizeLine∧Q .non (upd H l (.lst (xs ++ [y])))
theorem aG:MtM X "list.append" qL:=by
 intro pins s σ H x vs v us Q I rx rv h
 obtain⟨l,xs,y,rfl,rfl,hH,hz,q⟩:=h
 cases rx
 obtain⟨u,rfl,ru⟩:=rv.one
 obtain⟨z,its,n,r,hl,e⟩:=I.Tn hH
 refine call_meets F.slot_list_append ⟨_,e,rfl⟩ F.entry_list_append (F.args_list_append_2 _ _) (PySem.list_append l its.toArray n u (by rw[List.size_toArray];omega)) ⟨e,?_⟩
 refine⟨.non,_,I.Zav (its':=its ++ [u]) hH e (by simp) (r.append (.cons ru .nil)) ?_,rfl,q⟩
 rw[List.length_append,List.length_singleton]
 omega
def zp:V→List V→Hp→VK→Prop:=fun x vs H Q=>∃l b xs zs,x=.ref l∧vs=[.ref b]∧H l=some (.lst xs)∧H b=some (.lst zs)∧xs.length+zs.length≤sizeLine∧Q .non (upd H l (.lst (xs++zs)))
theorem oZ:MtM X "list.extend" zp:=by
 intro pins s σ H x vs v us Q I rx rv h
 obtain⟨l,b,xs,zs,rfl,rfl,hH,hB,hz,q⟩:=h
 cases rx
 obtain⟨u,rfl,ru⟩:=rv.one
 cases ru
 obtain⟨z,its,n,r,hl,e⟩:=I.Tn hH
 obtain⟨z2,its2,n2,r2,hl2,e2⟩:=I.Tn hB
 have hsz:its.toArray.size+its2.toArray.size≤sizeLine:=by rw[List.size_toArray,List.size_toArray];omega
 have Zaw:¬(!its.toArray.isEmpty && Builtin.List.listTooLong (its.toArray.size+its2.toArray.size))=true:=by
  rw[Dj hsz,Bool.and_false]
  exact Bool.false_ne_true
 refine call_meets F.slot_list_extend ⟨_,e,rfl⟩ F.entry_list_extend (F.args_list_extend_2 _ _)
  (AutoSeq1.list_extend_list_list_0 l its.toArray n b its2.toArray n2 Zaw (by rw[List.size_toArray];omega) (by omega)) ⟨e,e2,?_⟩
 refine⟨.non,_,I.Zav (its':=its++its2) hH e (by simp) (r.append r2) ?_,rfl,q⟩
 rw[List.length_append]
 omega
end
section
variable{prog:Program}{w:World}{A:Around}{E:Value→Shared→Prop}{s:Shared}
end
section
variable{X:Cx}
end
end L2
namespace Att
open PySem PySem.W PySem.Calls PyProof.Rows
theorem kj{P:Params}{h:Heap}:∀(ns:List Int) (vs:List Value),WellAll P h vs (ns.map WData.int)→IntsAre vs ns:=by
 intro ns
 induction ns with
 |nil=>
  intro vs w
  rw[List.map_nil] at w
  cases w
  exact .nil
 |cons n ns ih=>
  intro vs w
  rw[List.map_cons] at w
  cases w with
  |cons a b=>
   cases a
   exact .cons _ _ (ih _ b)
theorem Bh{l:OpenLaw}{n:Nat}(hn:l.most=some n){P:Params}{h:Heap}{args:List WData}{vals:List Value}
 (hpre:l.row.toRowW.claim.pre args=true)(hwl:WellAll P h vals args) :
 ∃a vs ns,vals=[Value.ref a]∧args=[WData.list (ns.map WData.int)]∧h.get? a=some {cls:=.type "list",data:=.seq vs.toArray}∧IntsAre vs ns∧ns.length≤n:=by
 have hsh:WShape.hasAll [] args [.list .int]=true:=(pre_splitW hpre).1
 have hc:l.pre.holds [] {args:=args}=true:=(pre_splitW hpre).2
 obtain⟨d,r,rfl,h1,h2⟩:=hasAllW_cons hsh
 obtain rfl:=hasAllW_nil h2
 obtain⟨xs,rfl,h3⟩:=hasW_list h1
 obtain⟨ns,rfl⟩:=items_int h3
 have hlen:ns.length≤n:=by
  unfold OpenLaw.pre at hc
  have h4:(WTm.not (.lt (.lit (.int (n:Int))) (.len (.arg 0)))).holds [] {args:=[.list (ns.map .int)]}=true:=by
   have h4:=(holds_andW hc).1
   rw[hn] at h4
   exact h4
  have h5:=condW_of h4 (w_not (w_lt w_lit (w_len_list (w_arg rfl))))
  rw[List.length_map] at h5
  refine Nat.le_of_not_lt fun q=>?_
  have q':(n:Int)<((ns.length:Nat):Int):=by omega
  first
   |(rw[decide_eq_true q'] at h5;exact absurd h5 (by decide))
   |(simp at h5;omega)
 cases hwl with
 |cons w1 w2=>
  cases w2
  cases w1 with
  |list ho hall=>exact⟨_,_,ns,rfl,rfl,ho,kj ns _ hall,hlen⟩
theorem Bj(l:OpenLaw)(args:List WData):l.row.toRowW.claim.post args (.bool true) args=true:=
 postW_of (r:=l.row.toRowW) (X:=(true== true))
  (show WShape.has [] (.bool true) .bool=true by first|rfl|decide|simp[WShape.has,WShape.arms,WShape.armsAll])
  (show(WTm.eq .res (.lit (.bool true))).value [] {args:=args,res:=some (.bool true),after:=args}=some (.bool (true== true)) from w_eq_bool (w_res rfl) w_lit) rfl
theorem tW{l:OpenLaw}{n:Nat}{q:Program}{loose:List Str}{XP:(Str→Option Value)→Heap→Prop}{YP:World→Heap→Prop}{d:DefRec}
 (hn:l.most=some n)(hdf:d.params.defaults=[])
 (call:∀(w:World) (s₀ s₁:Shared) (mg mb:Str→Option Value) (fa:Addr) (o:Obj) (pm cd doc:Value) (a:Addr) (vs:List Value) (ns:List Int),
   Ground q loose [] XP w s₀ mg mb s₁.heap→YP w s₁.heap→
   s₁.heap.get? fa=some o→o.data=.func (docDef d.name d.params d.body d.scope pm cd doc)→s₁.heap.CodeRec cd d.name→mg d.name=some (.ref fa)→
   s₁.heap.get? a=some {cls:=.type "list",data:=.seq vs.toArray}→IntsAre vs ns→ns.length≤n→s₁.gens= #[]→
   codeAny (model l.prog w) callerA (.call (.ref fa) ⟨[.ref a],[]⟩) (fun r s'=>r=.ok (.ret (.bool true))∧OldK s₁.heap s'.heap∧s'.os=s₁.os∧AllBare s'.gens) s₁) :
 WalkO q loose XP YP l.row.toRowW d [] (fun f vs=>PySem.call f vs):=by
 intro w s₀ s₁ mg mb G Y fa o pm cd doc dV kV ho hd hcd hD hmg hg args vals as hpre hlay hrd hwl hlo
 obtain rfl:dV=.none:=Dflts.none hD hdf
 obtain rfl:kV=.none:=Dflts.noKw hD
 obtain⟨a,vs,ns,rfl,rfl,hobj,hints,hlen⟩:=Bh hn hpre hwl
 refine enter_call (codeAny_mono (call w s₀ s₁ mg mb fa o pm cd doc a vs ns G Y ho (fd_plain hd) hcd hmg hobj hints hlen hg) fun r s' hq=>?_)
 obtain⟨rfl,h2,h3,h4⟩:=hq
 exact⟨.inl ⟨.bool true,.bool true,[],rfl,fun _=>rfl,.bool true,Bj l _,fun _=>⟨List.Pairwise.nil,fun _ hm=>(nomatch hm)⟩⟩,h2,h3,h4⟩
section
variable{prog:Program}{w:World}{A:Around}{E:Value→Shared→Prop}{s:Shared}{K:Frag}
end
end Att
namespace L2
open PySem PySem.Spec PyProof.Rows
theorem aH:∀{vs:List Value} {ns:List Int},IntsAre vs ns→Vals (ns.map V.int) vs
 |_,_,.nil=>.nil
 |_,_,.cons n t h=>.cons ⟨t,rfl⟩ (aH h)
def Only(H:Hp):Prop:=∀b,H b=none∨∃o xs,H b=some (.cQ o (.lst xs))
theorem Dk{P:Program}{w:World}{K:PySem.W.Frag}{mg mb:Str→Option Value}{CX:ou}{k:Nat}{fa a:Addr}{fd:FuncData}{x:Str}{sp:Sp}{s₁:Shared}{vs:List Value}{ns:List Int}
 (KX:K.In s₁.heap)(hns:s₁.heap.Ns mainGlobals mg)(hb:s₁.heap.Ns builtinsNs mb)(hbb:∀x:Str,x≠ "__name__" →mb x=bootBuiltins x)(hlim:s₁.heap.NoLimit)(hg:s₁.gens= #[])
 (ha:s₁.heap.get? a=some {cls:=.type "list",data:=.seq vs.toArray})(hi:IntsAre vs ns)(hl:ns.length≤sizeLine)(hr:bD k callerA)
 (F:∀base:Heap,K.In base→base.Ns mainGlobals mg→ľ P w K mg base CX k fa fd [x] sp)(hbind:∀(s:Shared) (u:Value),BindsTo s fd ⟨[u],[]⟩ [(x,u)])
 (hsp:∀H:Hp,Only H→aB K H a (ns.map V.int)→sp [.ref a] H (fun v _=>v=.bl true) fun _ _ _=>False)
 (hCX:∀H e s',CX [] H s₁ (fun _ _ _=>False) e s'→False) :
 codeAny (model P w) callerA (.call (.ref fa) ⟨[.ref a],[]⟩) (fun r s'=>r=.ok (.ret (.bool true))∧OldK s₁.heap s'.heap∧s'.os=s₁.os∧AllBare s'.gens) s₁:= by
 have rv:=aH hi
 have lenV:=hi.length
 -- from an abstract heap in which nothing but the script may be tracked
 have core:∀H:Hp,Only H→aB K H a (ns.map V.int)→gB P w H s₁.heap→(∀b,H b≠none→b=a)→(H a≠none→K.lookup a=none)→
  codeAny (model P w) callerA (.call (.ref fa) ⟨[.ref a],[]⟩) (fun r s'=>r=.ok (.ret (.bool true))∧OldK s₁.heap s'.heap∧s'.os=s₁.os∧AllBare s'.gens) s₁:= by
  intro H hO hS hok hA hK
  have zq:∀{b:Addr} {o:Obj},s₁.heap.get? b=some o→H b=none→(qG s₁.heap H).get? b=some o:=fun e n=>Cv e n
  have noA:∀{b:Addr} {o:Obj} {es:Array DictEntry} {ep:Nat},s₁.heap.get? b=some o→o.data=.dict es ep→H b=none:=fun{b o es ep} e d=>by
   cases q:H b with
   |none=>rfl
   |some u=>
    have e':b=a:=hA b (by rw[q];simp)
    subst e'
    rw[ha] at e;cases e
    have d':Data.seq vs.toArray _=Data.dict es ep:=d
    cases d'
  have nsK:∀{b:Addr} {m:Str→Option Value},s₁.heap.Ns b m→(qG s₁.heap H).Ns b m:=fun{b m} ⟨o,es,ep,e,d,r⟩=>⟨o,es,ep,zq e (noA e d),d,r⟩
  have hKb:K.In (qG s₁.heap H):=fun b o e=>zq (KX b o e) (by
   cases q:H b with
   |none=>rfl
   |some u=>
    have e':b=a:=hA b (by rw[q];simp)
    subst e'
    rw[hK (by rw[q];simp)] at e;cases e)
  have hM:Mod K mg (qG s₁.heap H):=⟨hKb,nsK hns,⟨mb,nsK hb,hbb⟩,let ⟨mc,h1,h2⟩:=hlim;⟨mc,nsK h1,h2⟩⟩
  have e0:wI P w K mg (qG s₁.heap H) callerA [] s₁ H:=⟨rfl,hM,fun b o e=>Lg e,Nat.le_of_eq (Av _ _),trivial,fun b hb=>absurd (show b∈([]:List Addr) from hb) (by simp),hok,.of_eq hg⟩
  refine codeAny_mono ((F _ hKb (nsK hns)).run callerA [] s₁ H ⟨[.ref a],[]⟩ [.ref a] [.ref a] _ _ hr e0 (hbind s₁ (.ref a)) (.cons rfl .nil) (hsp H hO hS)) fun r s' h=>?_
  cases r with
  |error e=>exact(hCX H e s' h).elim
  |ok fl=>
   cases fl with
   |next=>exact False.elim h
   |brk=>exact False.elim h
   |cont=>exact False.elim h
   |ret u=>
    obtain⟨v,H',os,bare,un,hok',r',q⟩:=h
    have q':v=.bl true:=q
    subst q'
    obtain rfl:u=Value.bool true:=r'
    refine⟨rfl,OldK.of_keep fun b o e=>?_,os,bare⟩
    cases q:H b with
    |none=>exact un.keep b o e q (by intro z;exact absurd (show b∈([]:List Addr) from z) (by simp)) (by simp)
    |some u=>
     rcases hO b with z|⟨ob,xs,z⟩
     ·rw[q] at z;cases z
     ·have z2:=un.iu b ob _ z
      obtain⟨e1,_⟩:=hok b _ z
      obtain⟨e2,_⟩:=hok' b _ z2
      rw[e] at e1;cases e1
      exact e2
 cases hk:K.lookup a with
 |some o=>
  -- the script is one of the module's own objects
  have e:=KX a o hk
  rw[ha] at e
  cases e
  refine core (fun _=>none) (fun _=>.inl rfl) (.inr ⟨_,vs.toArray,_,hk,rfl,rfl,rfl,by rw[List.size_toArray,lenV];exact hl,by simpa using rv⟩) (fun b u z=>by have z':(none:Option HO)=some u:=z;cases z') (fun b z=>absurd rfl z) fun z=>absurd rfl z
 |none=>
  refine core (fun b=>if b=a then some (.cQ {cls:=.type "list",data:=.seq vs.toArray} (.lst (ns.map V.int))) else none) (fun b=>?_) (.inl (.inr ⟨{cls:=.type "list",data:=.seq vs.toArray},if_pos rfl⟩)) (fun b u z=>?_) (fun b z=>?_) fun _=>hk
  ·by_cases hb:b=a
   ·exact .inr ⟨_,_,if_pos hb⟩
   ·exact .inl (if_neg hb)
  ·by_cases hb:b=a
   ·have z':=(if_pos hb).symm.trans z
    cases z'
    subst hb
    exact⟨ha,by rw[List.length_map];exact hl,vs,_,rv,ha⟩
   ·have z':=(if_neg hb).symm.trans z
    cases z'
  ·by_cases hb:b=a
   ·exact hb
   ·exact absurd (if_neg hb) z
end L2
namespace L2
open PySem PySem.Spec PyProof.Rows
theorem Mh{l:PySem.W.OpenLaw}{n k:Nat}{q:Program}{loose:List Str}{XP:(Str→Option Value)→Heap→Prop}{YP:World→Heap→Prop}{d:DefRec}{K:Params→PySem.W.Frag}{CX:World→ou}{sp:World→Sp}{x:Str}
 (hn:l.most=some n)(hn2:n≤sizeLine)(hdf:d.params.defaults=[])(hr:bD k callerA)
 (hY:∀(w:World) (h:Heap),YP w h→(K w.params).In h)
 (F:∀(w:World) (mg:Str→Option Value) (fa:Addr) (h:Heap),(K w.params).In h→h.Ns mainGlobals mg→mg d.name=some (.ref fa)→
   ∃fd:FuncData,(∀(s:Shared) (u:Value),BindsTo s fd ⟨[u],[]⟩ [(x,u)])∧
    ∀base:Heap,(K w.params).In base→base.Ns mainGlobals mg→ľ l.prog w (K w.params) mg base (CX w) k fa fd [x] (sp w))
 (hsp:∀(w:World) (H:Hp) (a:Addr) (ns:List Int),ns.length≤n→Only H→aB (K w.params) H a (ns.map V.int)→sp w [.ref a] H (fun v _=>v=.bl true) fun _ _ _=>False)
 (hCX:∀(w:World) (H:Hp) (s:Shared) (e:Value) (s':Shared),CX w [] H s (fun _ _ _=>False) e s'→False) :
 PySem.W.WalkO q loose XP YP l.row.toRowW d [] (fun f vs=>PySem.call f vs):=by
 refine Att.tW hn hdf fun w s₀ s₁ mg mb fa o pm cd doc a vs ns G Y ho hd hcd hmg hobj hints hlen hg=>?_
 have KX:=hY w _ Y
 obtain⟨fd,hb,hF⟩:=F w mg fa _ KX G.T.g hmg
 exact Dk KX G.T.g G.T.b G.T.builtins G.T.nolimit hg hobj hints (Nat.le_trans hlen hn2) hr hF hb (fun H hO hS=>hsp w H a ns hlen hO hS) fun H e s'=>hCX w H s₁ e s'
end L2
namespace L2
open PySem PySem.Spec PyProof.Rows
def inClass(s:Stmt)(j:Nat):Stmt:=match s with
 | .ClassDef _ _ _ body _ _ _ _ _ _ _=>body.getD j (.Pass ⟨0,0,0,0⟩)
 |_=>.Pass ⟨0,0,0,0⟩
def fQ(s:Stmt):Arguments:=match s with
 | .FunctionDef _ a _ _ _ _ _ _ _ _=>a
 |_=> {posonlyargs:=[],args:=[],vararg:=none,kwonlyargs:=[],kw_defaults:=[],kwarg:=none,defaults:=[]}
def bQ(s:Stmt):List Stmt:=match s with
 | .FunctionDef _ _ b _ _ _ _ _ _ _=>b
 |_=>[]
def ċ(s:Stmt):Scope:=match s with
 | .FunctionDef _ _ _ _ _ _ sc _ _ _=>sc
 |_=> {kind:=.function,names:=[],isGenerator:=false,isCoroutine:=false}
structure aJ(K:PySem.W.Frag)(x qual:Str)(st:Stmt)(f:Addr)(fd:FuncData):Prop where
 ex:∃(oc:Value) (od:Option Addr) (kV doc pm:Value) (an:Option Addr) (cdv ct:Value) (osl:Array (Option Value)),
   fd=PySem.W.fnOf x qual (fQ st) (bQ st) (ċ st) .none kV doc pm an cdv ct∧K.lookup f=some ⟨oc,od,.func fd,osl⟩∧PySem.W.codeIn K cdv qual=true
 kp:PySem.W.keepIn K (.ref f)=true
section
variable{P:Program}{w:World}{K:PySem.W.Frag}{mg:Str→Option Value}{base:Heap}
theorem aJ.binds{x qual:Str}{st:Stmt}{f:Addr}{fd:FuncData}{ps:List Str}(F:aJ K x qual st f fd)
 (h:∀(kV doc pm:Value) (an:Option Addr) (cdv ct:Value) (us:List Value),us.length=ps.length→bindArgs (PySem.W.fnOf x qual (fQ st) (bQ st) (ċ st) .none kV doc pm an cdv ct) ⟨us,[]⟩=pure (ps.zip us)):Binds K fd ps []:=by
 obtain⟨oc,od,kV,doc,pm,an,cdv,ct,osl,rfl,lk,hcd⟩:=F.ex
 exact .all (h kV doc pm an cdv ct)
theorem Ĭ{x qual:Str}{st:Stmt}{f:Addr}{oc:Value}{od an:Option Addr}{osl:Array (Option Value)}{kV doc pm cdv ct:Value}(l:K.lookup f=some ⟨oc,od,.func (PySem.W.fnOf x qual (fQ st) (bQ st) (ċ st) .none kV doc pm an cdv ct),osl⟩)
 (c:PySem.W.codeIn K cdv qual=true)(k:PySem.W.keepIn K (.ref f)=true):aJ K x qual st f (PySem.W.fnOf x qual (fQ st) (bQ st) (ċ st) .none kV doc pm an cdv ct):=⟨⟨oc,od,kV,doc,pm,an,cdv,ct,osl,rfl,l,c⟩,k⟩
end
section
variable{X:Cx}
theorem pv(i:Nat){x:Str}{pos:Pos}(hN:X.N[i]?=some x:=by rfl)(hv:Cw X.env.scope x:=by first|exact Or.inl rfl|exact Or.inr (Or.inl rfl)|exact Or.inr (Or.inr rfl))(hd:(x== ("__debug__" :Str))=false:=by decide)
 (hcd:(x== ("__classdict__" :Str))=false:=by decide):PE X (.Name x pos) (tH i):=eE hN hv hd hcd
end
def Same(H H':Hp):Prop:=∀b o,H b=some o→H' b=some o
theorem Same.refl(H:Hp):Same H H:=fun _ _ h=>h
theorem Same.trans{H H1 H2:Hp}(a:Same H H1)(b:Same H1 H2):Same H H2:=fun c o h=>b c o (a c o h)
theorem Same.free{H H':Hp}(e:Same H H'){l:Addr}(h:H' l=Option.none):H l=Option.none:=by
 cases q:H l with
 |none=>rfl
 |some o=>
  rw[e l o q] at h
  cases h
theorem Same.seq{K:PySem.W.Frag}{H H':Hp}{a:Addr}{xs:List V}(e:Same H H')(h:aB K H a xs):aB K H' a xs:=by
 rcases h with(h|⟨o,h⟩)|h
 ·exact .inl (.inl (e _ _ h))
 ·exact .inl (.inr ⟨o,e _ _ h⟩)
 ·exact .inr h
end L2
namespace M2
open PySem PySem.Spec PyProof.Rows L2
section
variable{X:Cx}{a b c e:Expr}{ta tb tc te:TE}{pos:Pos}
theorem PE.wk{t t':TE}(h:PE X e t)(i:∀σ H Q,t' σ H Q→t σ H Q):PE X e t':=fun pins s σ H Q I q=>h pins s σ H Q I (i σ H Q q)
theorem PS.wk{st:Stmt}{t t':TS}(h:PS X st t)(i:∀D σ H,t' D σ H→t D σ H):PS X st t':=fun pins s σ H D I q=>h pins s σ H D I (i D σ H q)
theorem aY.wk{f:Value→Value→Sem Value}{r r':R2}(h:aY X f r)(i:∀x y H Q,r' x y H Q→r x y H Q):aY X f r':=fun pins s σ H x y v u Q I rx ry q=>h pins s σ H x y v u Q I rx ry (i x y H Q q)
theorem Ly.wk{f:Value→Sem Value}{r r':V→Hp→VK→Prop}(h:Ly X f r)(i:∀x H Q,r' x H Q→r x H Q):Ly X f r':=fun pins s σ H x v Q I rx q=>h pins s σ H x v Q I rx (i x H Q q)
theorem Ŝ.wk{f:Value}{r r':List V→Hp→VK→Prop}(h:Ŝ X f r)(i:∀xs H Q,r' xs H Q→r xs H Q):Ŝ X f r':=fun pins s σ H xs us Q I r q=>h pins s σ H xs us Q I r (i xs H Q q)
theorem wK.wk{r r':R2}(h:wK X r)(i:∀x y H Q,r' x y H Q→r x y H Q):wK X r':=fun va sl pins s σ H x y v u Q I rx ry q=>h va sl pins s σ H x y v u Q I rx ry (i x y H Q q)
theorem zf.wk{r r':V→Option Int→Option Int→Hp→VK→Prop}(h:zf X r)(i:∀x lo hi H Q,r' x lo hi H Q→r x lo hi H Q):zf X r':=fun pins s σ H x v vl vu lo hi sl Q I rx hs pl pu q=>h pins s σ H x v vl vu lo hi sl Q I rx hs pl pu (i x lo hi H Q q)
def Tp(i:Nat):TE:=fun σ H Q=>match σ[i]? with
 |some (some v)=>Q v H
 |_=>False
theorem Mi{i:Nat}{σ:L2.St}{H:Hp}{Q:VK}(h:Tp i σ H Q):tH i σ H Q:=by
 unfold Tp at h
 split at h
 ·exact⟨_,by assumption,h⟩
 ·exact h.elim
theorem mv(i:Nat){x:Str}{pos:Pos}(hN:X.N[i]?=some x:=by rfl)(hv:Cw X.env.scope x:=by first|exact Or.inl rfl|exact Or.inr (Or.inl rfl)|exact Or.inr (Or.inr rfl))(hd:(x== ("__debug__" :Str))=false:=by decide)
 (hcd:(x== ("__classdict__" :Str))=false:=by decide):PE X (.Name x pos) (Tp i):=PE.wk (eE hN hv hd hcd) fun _ _ _ h=>Mi h
def bOf(x:V)(k:Bool→Prop):Prop:=match x with
 | .bl c=>k c
 |_=>False
theorem wM{x:V}{k:Bool→Prop}(h:bOf x k):∃c,x=.bl c∧k c:=by
 cases x with
 |bl c=>exact⟨c,rfl,h⟩
 |_=>exact h.elim
def Pr(t:TE):TT:=fun σ H Q=>t σ H fun x H1=>bOf x fun c=>Q c H1
theorem Tq{op:CmpOp}{r:R2}(ho:aY X (compareOp op) r)(ha:PE X a ta)(hb:PE X b tb)(hm:behindInMarks op b=false):PT X (.Compare a [op] [b] pos) (Pr (Sd r ta tb)):=by
 intro pins s σ H Q I h
 refine wpAny_isTrue_Compare1 (ű (ha pins s σ H _ I h) fun v s1 ⟨x,H1,I1,r1,q1⟩=>ű (hb pins s1 σ H1 _ I1 q1) fun u s2 ⟨y,H2,I2,r2,q2⟩=>
  ű (ho pins s2 σ H2 x y v u _ I2 r1 r2 q2) fun c s3 ⟨z,H3,I3,r3,q3⟩=>?_) hm
 obtain⟨k,e,q3⟩:=wM q3
 subst e
 cases r3
 exact wpAny_truthy_bool ⟨H3,I3,q3⟩
def Dl(r r':R2)(ta tb tc:TE):TE:=fun σ H Q=>ta σ H fun x H1=>tb σ H1 fun y H2=>r x y H2 fun z H3=>bOf z fun k=>
 (if k=true then tc σ H3 fun w' H4=>r' y w' H4 Q else Q (.bl false) H3)
theorem Dm{op op':CmpOp}{r r':R2}(ho:aY X (compareOp op) r)(ho':aY X (compareOp op') r')(ha:PE X a ta)(hb:PE X b tb)(hc:PE X c tc)
 (hm:lastMarks [op,op'] [b,c]=false:=by with_unfolding_all rfl):PE X (.Compare a [op,op'] [b,c] pos) (Dl r r' ta tb tc):=by
 intro pins s σ H Q I h
 refine Compare_chain (ű (ha pins s σ H _ I h) fun v s1 ⟨x,H1,I1,r1,q1⟩=>chain_link (ű (hb pins s1 σ H1 _ I1 q1) fun u s2 ⟨y,H2,I2,r2,q2⟩=>
  ű (ho pins s2 σ H2 x y v u _ I2 r1 r2 q2) fun d s3 ⟨z,H3,I3,r3,q3⟩=>?_)) hm
 obtain⟨k,e,q3⟩:=wM q3
 subst e
 cases r3
 refine wpAny_truthy_bool ?_
 cases k with
 |false=>exact ite_ff ⟨.bl false,H3,I3,rfl,q3⟩
 |true=>exact ite_tt (chain_last (ű (hc pins s3 σ H3 _ I3 q3) fun w' s4 ⟨z',H4,I4,r4,q4⟩=>ho' pins s4 σ H4 y z' u w' Q I4 r2 r4 q4))
def Zax(ta tb:TE):TE:=fun σ H Q=>ta σ H fun x H1=>bOf x fun c=>if c=true then tb σ H1 Q else Q (.bl false) H1
variable{rest:List Expr}
theorem Tr(ha:PE X a ta)(hb:PE X (.BoolOp .And (b::rest) pos) tb):PE X (.BoolOp .And (a::b::rest) pos) (Zax ta tb):=by
 intro pins s σ H Q I h
 refine BoolOp_and (ű (ha pins s σ H _ I h) fun v s1 ⟨x,H1,I1,r1,q1⟩=>?_)
 obtain⟨c,rfl,q1⟩:=wM q1
 cases r1
 refine wpAny_truthy_bool ?_
 cases c with
 |true=>exact hb pins s1 σ H1 Q I1 q1
 |false=>exact⟨.bl false,H1,I1,rfl,q1⟩
def mI(C:Int→Int→Prop)(g:Int→Int→V):R2:=fun x y H Q=>match x,y with
 | .int i,.int j=>C i j∧Q (g i j) H
 |_,_=>False
def Dp(g:Int→Int→V):R2:=fun x y H Q=>match x,y with
 | .int i,.int j=>Q (g i j) H
 |_,_=>False
theorem zu{C:Int→Int→Prop}{g:Int→Int→V}(x y:V)(H:Hp)(Q:VK)(h:mI C g x y H Q):rI C g x y H Q:=by
 cases x with
 |int i=>
  cases y with
  |int j=>exact⟨i,j,rfl,rfl,h.1,h.2⟩
  |_=>exact h.elim
 |_=>exact h.elim
theorem qM{g:Int→Int→V}(x y:V)(H:Hp)(Q:VK)(h:Dp g x y H Q):Ph g x y H Q:=by
 cases x with
 |int i=>
  cases y with
  |int j=>exact⟨i,j,rfl,rfl,h⟩
  |_=>exact h.elim
 |_=>exact h.elim
def Zay:R2:=fun x y H Q=>match x,y with
 | .int i,.int j=>Q (.int (i+j)) H
 | .str i,.str j=>i.length+j.length≤sizeLine∧Q (.str (i++j)) H
 |_,_=>False
theorem Tt:aY X (binaryOp .Add) Zay:=aY.wk (Sv.or wA) fun x y H Q h=>by
 cases x with
 |int i=>
  cases y with
  |int j=>exact .inl ⟨i,j,rfl,rfl,h⟩
  |_=>exact h.elim
 |str i=>
  cases y with
  |str j=>exact .inr ⟨i,j,rfl,rfl,h.1,h.2⟩
  |_=>exact h.elim
 |_=>exact h.elim
theorem œ:aY X (binaryOp .Sub) (Dp fun i j=>.int (i-j)):=aY.wk Sw qM
def o_(i j:Int):Prop:=Ss i j∨(Builtin.Int.intBits i≤1048576∧Builtin.Int.intBits j≤1048576)
theorem o_.ok{i j:Int}(h:o_ i j):IntMulOk i j:=by
 rcases h with h|⟨h1,h2⟩
 ·exact h.ok
 ·exact IntMulOk.of_le h1 h2 (by decide)
theorem Tv:aY X (binaryOp .Mult) (mI o_ fun i j=>.int (i*j)):=aY.wk (Cm (C:=o_) (g:=fun i j=>i*j) fun _ _ _ _ _ _ _ hc q=>mul_int q hc.ok) zu
def Bk(_ j:Int):Prop:=j≠0∧Builtin.Int.intBits j≤8000
theorem Bk.py{i j:Int}(h:Bk i j):Builtin.divisionGoesByPylong i j=false:=by
 refine PyProof.noPylong_of_log2 ?_
 have hb:=intBits_le_iff.mp h.2
 have h0:j.natAbs≠0:=by have:=h.1;omega
 exact Nat.lt_of_lt_of_le ((Nat.log2_lt h0).mpr hb) (by decide)
theorem Ō:aY X (binaryOp .FloorDiv) (mI Bk fun i j=>.int (i.fdiv j)):=aY.wk (Cm (C:=Bk) (g:=fun i j=>i.fdiv j) fun _ _ _ _ _ _ _ hc q=>floordiv_int hc.1 q (.inl hc.py)) zu
theorem ō:aY X (binaryOp .Mod) (mI (fun _ j=>j≠0) fun i j=>.int (i.fmod j)):=aY.wk Lz zu
theorem aL:aY X (binaryOp .Pow) (mI Sq fun i j=>.int (i ^ j.toNat)):=aY.wk Sx zu
theorem pq:aY X (compareOp .Lt) (Dp fun i j=>.bl (decide (i<j))):=aY.wk Zan qM
theorem iz:aY X (compareOp .LtE) (Dp fun i j=>.bl (decide (i≤j))):=aY.wk Zao qM
theorem Zaz:aY X (compareOp .GtE) (Dp fun i j=>.bl (decide (j≤i))):=aY.wk Zap qM
def mU(g:Int→V):V→Hp→VK→Prop:=fun x H Q=>match x with
 | .int i=>Q (g i) H
 |_=>False
theorem ji:Ly X (unaryOp .USub) (mU fun i=>.int (-i)):=Ly.wk Sy fun x H Q h=>by
 cases x with
 |int i=>exact⟨i,rfl,h⟩
 |_=>exact h.elim
def mAbs:List V→Hp→VK→Prop:=fun xs H Q=>match xs with
 | [.int i]=>Q (.int (if i<0 then -i else i)) H
 |_=>False
theorem Tw:Ŝ X (.builtin "abs") mAbs:=Ŝ.wk CZ fun xs H Q h=>by
 unfold mAbs at h
 split at h
 ·exact⟨_,rfl,h⟩
 ·exact h.elim
def Dq:List V→Hp→VK→Prop:=fun xs H Q=>match xs with
 | [.int i,.int j]=>Q (.int (if j<i then j else i)) H
 |_=>False
theorem Mj(hc:X.calm=true):Ŝ X (.builtin "min") Dq:=Ŝ.wk (Bb hc) fun xs H Q h=>by
 unfold Dq at h
 split at h
 ·exact⟨_,_,rfl,h⟩
 ·exact h.elim
def Dr:List V→Hp→VK→Prop:=fun xs H Q=>match xs with
 | [.int i,.int j]=>Q (.int (if j>i then j else i)) H
 |_=>False
theorem Ml(hc:X.calm=true):Ŝ X (.builtin "max") Dr:=Ŝ.wk (Ba hc) fun xs H Q h=>by
 unfold Dr at h
 split at h
 ·exact⟨_,_,rfl,h⟩
 ·exact h.elim
def Tz(K:PySem.W.Frag):List V→Hp→VK→Prop:=fun xs H Q=>match xs with
 | [.str y]=>y.length≤sizeLine∧Q (.int (y.length:Int)) H
 | [.ref p]=>∃ys,(aB K H p ys∨cF K H p ys)∧Q (.int (ys.length:Int)) H
 |_=>False
theorem bU:Ŝ X (.builtin "len") (Tz X.K):=Ŝ.wk C_ fun xs H Q h=>by
 unfold Tz at h
 split at h
 ·exact⟨_,_,rfl,⟨h.1,rfl⟩,h.2⟩
 ·obtain⟨ys,h1,h2⟩:=h
  refine⟨_,ys.length,rfl,?_,h2⟩
  rcases h1 with h1|h1
  ·exact .inl ⟨ys,h1,rfl⟩
  ·exact .inr ⟨ys,h1,rfl⟩
 ·exact h.elim
def mIx(K:PySem.W.Frag):R2:=fun x y H Q=>match x,y with
 | .ref p,.int i=>∃xs v,(aB K H p xs∨cF K H p xs)∧jc xs i=some v∧Q v H
 | .str z,.int i=>∃c,z.length≤sizeLine∧jc z.cps.toList i=some c∧Q (.str ⟨#[c]⟩) H
 |_,_=>False
theorem ď:wK X (mIx X.K):=wK.wk Di fun x y H Q h=>by
 cases x with
 |ref p=>
  cases y with
  |int i=>
   obtain⟨xs,v,h1,h2,h3⟩:=h
   rcases h1 with h1|h1
   ·exact .inl ⟨p,xs,i,v,rfl,rfl,h1,h2,h3⟩
   ·exact .inr (.inl ⟨p,xs,i,v,rfl,rfl,h1,h2,h3⟩)
  |_=>exact h.elim
 |str z=>
  cases y with
  |int i=>
   obtain⟨c,h1,h2,h3⟩:=h
   exact .inr (.inr ⟨z,i,c,rfl,rfl,h1,h2,h3⟩)
  |_=>exact h.elim
 |_=>exact h.elim
def iOf(x:V)(k:Int→Prop):Prop:=match x with
 | .int i=>k i
 |_=>False
def ZaA(t:TE):TO:=fun σ H Q=>t σ H fun x H1=>iOf x fun i=>Q (some i) H1
theorem Ds(h:PE X e te):PO X (some e) (ZaA te):=by
 intro pins s σ H Q I hw
 rw[evalPart_some]
 refine ű (h pins s σ H _ I hw) fun u s1 ⟨x,H1,I1,r1,q1⟩=>?_
 cases x with
 |int i=>
  obtain⟨t,rfl⟩:=r1
  exact⟨some i,H1,I1,.int i t,q1⟩
 |_=>exact q1.elim
def ZgU(K:PySem.W.Frag):V→Option Int→Option Int→Hp→VK→Prop:=fun x lo hi H Q=>match x with
 | .ref a=>∃xs,aB K H a xs∧∀p,H p=none→Q (.ref p) (upd H p (.lst (tQ xs lo hi)))
 |_=>False
theorem Dt:zf X (ZgU X.K):=zf.wk Mg fun x lo hi H Q h=>by
 cases x with
 |ref a=>
  obtain⟨xs,h1,h2⟩:=h
  exact⟨a,xs,rfl,h1,h2⟩
 |_=>exact h.elim
end
end M2
namespace M2
open PySem PySem.Spec PyProof.Rows L2
section
variable{X:Cx}{tg:Expr}
end
mutual
def Rp(K:PySem.W.Frag)(H:Hp):PyData→V→Prop
 | .none,v=>v=.non
 | .bool b,v=>v=.bl b
 | .int i,v=>v=.int i
 | .str x,v=>v=.str x
 | .tuple ds,v=>∃a xs,v=.ref a∧cF K H a xs∧jj K H ds xs
 | .list ds,v=>∃a xs,v=.ref a∧aB K H a xs∧jj K H ds xs
 | .dict _,_=>False
def jj(K:PySem.W.Frag)(H:Hp):List PyData→List V→Prop
 | [],xs=>xs=[]
 |d::ds,xs=>∃x r,xs=x::r∧Rp K H d x∧jj K H ds r
end
theorem Same.tup{K:PySem.W.Frag}{H H':Hp}{a:Addr}{xs:List V}(e:Same H H')(h:cF K H a xs):cF K H' a xs:=by
 rcases h with(h|⟨o,h⟩)|h
 ·exact .inl (.inl (e _ _ h))
 ·exact .inl (.inr ⟨o,e _ _ h⟩)
 ·exact .inr h
theorem Same.upd{H:Hp}{p:Addr}{o:HO}(h:H p=none):Same H (upd H p o):=fun b u e=>by
 rw[Į (ő e h)]
 exact e
mutual
theorem Rp.same{K:PySem.W.Frag}{H H':Hp}(e:Same H H'):∀(d:PyData) (v:V),Rp K H d v→Rp K H' d v
 | .none,_,h=>by unfold Rp at h ⊢;exact h
 | .bool _,_,h=>by unfold Rp at h ⊢;exact h
 | .int _,_,h=>by unfold Rp at h ⊢;exact h
 | .str _,_,h=>by unfold Rp at h ⊢;exact h
 | .tuple ds,_,h=>by
   unfold Rp at h ⊢
   obtain⟨a,xs,h1,h2,h3⟩:=h
   exact⟨a,xs,h1,Same.tup e h2,jj.same e ds xs h3⟩
 | .list ds,_,h=>by
   unfold Rp at h ⊢
   obtain⟨a,xs,h1,h2,h3⟩:=h
   exact⟨a,xs,h1,e.seq h2,jj.same e ds xs h3⟩
 | .dict _,_,h=>by unfold Rp at h;exact h.elim
theorem jj.same{K:PySem.W.Frag}{H H':Hp}(e:Same H H'):∀(ds:List PyData) (xs:List V),jj K H ds xs→jj K H' ds xs
 | [],_,h=>by unfold jj at h ⊢;exact h
 |d::ds,_,h=>by
  unfold jj at h ⊢
  obtain⟨x,r,h1,h2,h3⟩:=h
  exact⟨x,r,h1,Rp.same e d x h2,jj.same e ds r h3⟩
end
section
variable{X:Cx}{pins:List (Addr×Obj)}{σ:L2.St}{H:Hp}{s:Shared}
mutual
theorem Rp.reads(I:Inv X pins σ H s):∀(d:PyData) (v:V) (u:Value),Rp X.K H d v→RelV v u→∃as,Reads s.heap u d as
 | .none,v,u,h,r=>by
   unfold Rp at h;subst h;cases r;exact⟨_,.none⟩
 | .bool b,v,u,h,r=>by
   unfold Rp at h;subst h;cases r;exact⟨_,.bool b⟩
 | .int i,v,u,h,r=>by
   unfold Rp at h;subst h;obtain⟨t,rfl⟩:=r;exact⟨_,.int i t⟩
 | .str x,v,u,h,r=>by
   unfold Rp at h;subst h;obtain⟨t,rfl⟩:=r;exact⟨_,.str x t⟩
 | .tuple ds,v,u,h,r=>by
   unfold Rp at h
   obtain⟨a,xs,h1,h2,h3⟩:=h
   subst h1
   cases r
   obtain⟨its,rv,⟨o,e,hc,n,hd⟩,hz⟩:=I.tuple h2
   obtain⟨as,ra⟩:=jj.reads I ds xs its h3 rv
   exact⟨_,.tuple e hc hd (by simpa using ra)⟩
 | .list ds,v,u,h,r=>by
   unfold Rp at h
   obtain⟨a,xs,h1,h2,h3⟩:=h
   subst h1
   cases r
   obtain⟨its,rv,⟨o,n,e,hc,hdd,hd⟩,hz⟩:=I.list h2
   obtain⟨as,ra⟩:=jj.reads I ds xs its h3 rv
   exact⟨_,.list e hc hd (by simpa using ra)⟩
 | .dict _,_,_,h,_=>by unfold Rp at h;exact h.elim
theorem jj.reads(I:Inv X pins σ H s):∀(ds:List PyData) (xs:List V) (us:List Value),jj X.K H ds xs→Vals xs us→∃as,ReadsAll s.heap us ds as
 | [],xs,us,h,r=>by
   unfold jj at h;subst h;cases r;exact⟨_,.nil⟩
 |d::ds,xs,us,h,r=>by
  unfold jj at h
  obtain⟨x,q,h1,h2,h3⟩:=h
  subst h1
  cases r with
  |cons r1 r2=>
   obtain⟨as,ra⟩:=Rp.reads I d x _ h2 r1
   obtain⟨bs,rb⟩:=jj.reads I ds q _ h3 r2
   exact⟨_,.cons ra rb⟩
end
end
def Mp(K:PySem.W.Frag)(neg:Bool):R2:=fun x y H Q=>∃d e,Rp K H d x∧Rp K H e y∧d.canLay0=true∧e.canLay0=true∧min d.depth e.depth≤60∧Q (.bl (if neg then !PyData.eqv d e else PyData.eqv d e)) H
section
variable{X:Cx}
theorem Ň(hu:X.A.units+64<cLine):aY X (compareOp .Eq) (Mp X.K false):=by
 intro pins s σ H x y v u Q I rx ry h
 obtain⟨d,e,h1,h2,h3,h4,h5,q⟩:=h
 obtain⟨as,ra⟩:=Rp.reads I d x v h1 rx
 obtain⟨bs,rb⟩:=Rp.reads I e y u h2 ry
 exact SeqAt.compareEq_reads ra rb h3 h4 (by omega) ⟨.bl _,H,I,rfl,q⟩
theorem bJ(hu:X.A.units+64<cLine):aY X (compareOp .NotEq) (Mp X.K true):=by
 intro pins s σ H x y v u Q I rx ry h
 obtain⟨d,e,h1,h2,h3,h4,h5,q⟩:=h
 obtain⟨as,ra⟩:=Rp.reads I d x v h1 rx
 obtain⟨bs,rb⟩:=Rp.reads I e y u h2 ry
 exact SeqAt.compareNe_reads ra rb h3 h4 (by omega) ⟨.bl _,H,I,rfl,q⟩
end
section
variable{K:PySem.W.Frag}
end
end M2
namespace M3
open PySem PySem.Spec PyProof.Rows L2 M2
theorem zx{P:Program}{w:World}{H:Hp}{h h':Heap}{C:Addr}(x:gB P w H h)(hC:H C=none)(k:∀b u,b≠C→h.get? b=some u→h'.get? b=some u):gB P w H h':=fun a o e=>
 (x a o e).stay (fun b u hb q=>k b u (by
   rcases hb with hb|hb
   ·rw[hb];exact ő e hC
   ·exact ő hb hC) q) (fun _ q=>q) fun _ _ q=>q
theorem gR{env:Env}:∀(ns:List (Str×NameKind)) (cs:List (Str×Addr)),(∀y∈ns,y.2=.free→∃c,env.cells.lookup y.1=some c)→(∀x c,cs.lookup x=some c→env.cells.lookup x=some c)→
 ∃cl,(forIn ns cs (fun(x:Str×NameKind) r=>if(x.2== .free)=true then(do let c ←cellOf env x.1;pure (ForInStep.yield ((x.1,c)::r))) else pure (ForInStep.yield r)):Sem (List (Str×Addr)))=pure cl∧
  (∀x c,cl.lookup x=some c→env.cells.lookup x=some c)∧(∀x,(∃c,cs.lookup x=some c)→∃c,cl.lookup x=some c)∧∀y∈ns,y.2=.free→∃c,cl.lookup y.1=some c
 | [],cs,_,h2=>⟨cs,rfl,h2,fun _ z=>z,fun _ z=>nomatch z⟩
 |(n,k)::ns,cs,h1,h2=>by
  by_cases hk:k=.free
  ·subst hk
   obtain⟨c,hc⟩:=h1 (n,.free) List.mem_cons_self rfl
   have e:cellOf env n=pure c:=by unfold cellOf;rw[hc]
   have h2':∀x d,((n,c)::cs).lookup x=some d→env.cells.lookup x=some d:=fun x d q=>by
    rw[List.lookup_cons] at q
    cases hx:x== n with
    |true=>
     rw[hx] at q
     have:x=n:=eq_of_beq hx
     subst this
     cases q
     exact hc
    |false=>
     rw[hx] at q
     exact h2 x d q
   obtain⟨cl,q1,q2,q3,q4⟩:=gR ns ((n,c)::cs) (fun y hy=>h1 y (List.mem_cons_of_mem _ hy)) h2'
   refine⟨cl,?_,q2,fun x ⟨d,hd⟩=>q3 x ?_,fun y hy hf=>?_⟩
   ·rw[List.forIn_cons]
    simp only[beq_self_eq_true,if_true,e,pure_bind]
    exact q1
   ·rw[List.lookup_cons]
    cases hx:x== n with
    |true=>exact⟨c,rfl⟩
    |false=>exact⟨d,hd⟩
   ·rcases List.mem_cons.mp hy with rfl|hy
    ·exact q3 n ⟨c,by rw[List.lookup_cons,beq_self_eq_true]⟩
    ·exact q4 y hy hf
  ·have hb:(k== NameKind.free)=false:=by simpa using hk
   obtain⟨cl,q1,q2,q3,q4⟩:=gR ns cs (fun y hy=>h1 y (List.mem_cons_of_mem _ hy)) h2
   refine⟨cl,?_,q2,q3,fun y hy hf=>?_⟩
   ·rw[List.forIn_cons]
    simp only[hb,Bool.false_eq_true,if_false,pure_bind]
    exact q1
   ·rcases List.mem_cons.mp hy with rfl|hy
    ·exact absurd hf hk
    ·exact q4 y hy hf
theorem iB{scope:Scope}{env:Env}(h:∀y∈scope.names,y.2=.free→∃c,env.cells.lookup y.1=some c) :
 ∃cl,closureFor scope env=pure cl∧(∀x c,cl.lookup x=some c→env.cells.lookup x=some c)∧∀y∈scope.names,y.2=.free→∃c,cl.lookup y.1=some c:=by
 obtain⟨cl,q1,q2,_,q4⟩:=gR (env:=env) scope.names [] h (fun x c z=>by simp at z)
 refine⟨cl,?_,q2,q4⟩
 unfold closureFor
 have e:(forIn scope.names [] (fun(x:Str×NameKind) (r:List (Str×Addr))=>match x with
  |(name,kind)=>if(kind== .free)=true then(do let a ←cellOf env name;pure (ForInStep.yield ((name,a)::r))) else pure (ForInStep.yield r)):Sem (List (Str×Addr)))=pure cl:=q1
 first
  |(simp only[bind_pure];exact q1)
  |(rw[show ∀(t:Sem (List (Str×Addr))),(do let r ←t;pure r)=t from fun t=>by simp];exact q1)
  |(simp only[q1,pure_bind])
def fU(X:Cx)(N':List Str)(scope:Scope)(cl:List (Str×Addr))(C:Addr)(s:Shared)(H:Hp)(fp:List Addr):Cx where
 prog:=X.prog
 w:=X.w
 K:=X.K
 mg:=X.mg
 base:=X.base
 A:=X.A
 N:=N'
 s₀:= s
 H₀:= H
 env:=compEnvC scope cl C X.env
 outer:=X.stack
 stack:=X.stack
 ex:=fp
 fn:=fun x=>scope.names.lookup x== some .cell
 calm:=X.calm
 pn:=[]
 xe:=fun _ _=>False
def lK(X:Cx)(sc scope:Scope):List Str→List Nat→Prop
 |x::xs,j::js=>X.N[j]?=some x∧(scope.names.lookup x=some .free∧(sc.names.lookup x=some .cell∨sc.names.lookup x=some .free))∧lK X sc scope xs js
 |_,[]=>True
 | [],_::_=>False
def eO(js:List Nat)(nl:Nat)(σ:L2.St):L2.St:=js.map (fun j:Nat=>(σ[j]?).getD none)++List.replicate nl none
theorem pA{X:Cx}{sc scope:Scope}{σ:L2.St}{nl:Nat}:∀{N':List Str} {js:List Nat} {i:Nat} {x:Str} {v:V},lK X sc scope N' js→N'[i]?=some x→(eO js nl σ)[i]?=some (some v)→
 ∃j:Nat,X.N[j]?=some x∧σ[j]?=some (some v)∧scope.names.lookup x=some .free∧(sc.names.lookup x=some .cell∨sc.names.lookup x=some .free)
 |N',[],i,x,v,_,_,h=>by
  unfold eO at h
  rw[List.map_nil,List.nil_append,List.getElem?_replicate] at h
  split at h<;>cases h
 | [],_::_,_,_,_,c,_,_=>c.elim
 |y::N',j::js,0,x,v,c,h1,h2=>by
  obtain⟨c1,c2,_⟩:=c
  simp at h1
  subst h1
  have e:(σ[j]?).getD none=some v:=by simpa[eO] using h2
  refine⟨j,c1,?_,c2⟩
  cases q:σ[j]? with
  |none=>rw[q] at e;cases e
  |some o=>rw[q] at e;exact congrArg some e
 |y::N',j::js,i+1,x,v,c,h1,h2=>by
  exact pA (N':=N') (js:=js) (i:=i) c.2.2 (by simpa using h1) (by simpa[eO] using h2)
section
variable{prog:Program}{w:World}{A:Around}{R:Result→Shared→Prop}{s:Shared}
theorem iG{elt target iter:Expr}{ifs:List Expr}{scope:Scope}{pos:Pos}{it acc:Value}{env:Env}(I:Nat→Shared→Prop)
 (turn:∀n s,I n s→wpAny (model prog w) A (pyNext it) (fun r s₁=>match r with
   |none=>R (.ok .next) s₁
   |some v=>wpAny (model prog w) A (letOwnedTupleGo target it v) (fun _ s₁'=>wpAny (model prog w) A (assign target env v) (fun _ s₂=>
     wpAny (model prog w) A (forIn ifs true fun c r=>if r=true then do let ok ←isTrue c env (eval c env);pure (ForInStep.yield ok) else pure (ForInStep.yield r)) (fun ok s₃=>
      if ok=true then wpAny (model prog w) A (eval elt env) (fun x s₄=>
       wpAny (model prog w) A (call (.builtin "list.append") [acc,x]) (fun _ s₅=>∃m,m<n∧I m s₅) (fun _ _=>False) s₄) (fun _ _=>False) s₃
      else ∃m,m<n∧I m s₃) (fun _ _=>False) s₂) (fun _ _=>False) s₁') (fun _ _=>False) s₁) (fun _ _=>False) s)
 (n:Nat)(h:I n s) :
 codeAny (model prog w) A (.compLoop (.ListComp elt [⟨target,iter,ifs,0⟩] scope pos) 0 it acc env) R s:=by
 refine codeAny_loop rfl I (fun n s hI=>?_) n h
 show wpAny _ A ((compTurn (.ListComp elt [⟨target,iter,ifs,0⟩] scope pos) 0 it acc env).onRaise (fun x=>do noteFrame x env;theTreesLotGoes x)) _ _ s
 refine wpAny_noted (wpAny_noRaise ?_)
 rw[compTurn_list]
 refine wpAny_bind (wpAny_standAt (wpAny_bind (wpAny_mono (turn n s hI) (fun r s₁ h₁=>?_) fun _ _ h'=>h')))
 cases r with
 |none=>exact wpAny_pure h₁
 |some v=>
  refine wpAny_bind (wpAny_mono h₁ (fun _ s₁' h₁'=>?_) fun _ _ h'=>h')
  refine wpAny_bind (wpAny_mono h₁' (fun _ s₂ h₂=>wpAny_bind (wpAny_mono h₂ (fun ok s₃ h₃=>?_) fun _ _ h'=>h')) fun _ _ h'=>h')
  cases ok with
  |false=>exact wpAny_pure ⟨rfl,h₃⟩
  |true=>
   exact wpAny_bind (wpAny_bind (wpAny_mono h₃ (fun x s₄ h₄=>wpAny_bind (wpAny_mono h₄ (fun _ s₅ h₅=>wpAny_pure (wpAny_pure ⟨rfl,h₅⟩)) fun _ _ h'=>h')) fun _ _ h'=>h'))
end
def YL(X:Cx)(ifs:List Expr)(t:TT):Prop:=
 ∀(pins:List (Addr×Obj)) (s:Shared) (σ:L2.St) (H:Hp) (Q:Bool→Hp→Prop),Inv X pins σ H s→t σ H Q→
  wpAny (model X.prog X.w) X.A (forIn ifs true fun c r=>if r=true then do let ok ←isTrue c X.env (eval c X.env);pure (ForInStep.yield ok) else pure (ForInStep.yield r)) (TP X pins σ Q) X.xe s
def ZgV:TT:=fun _ H Q=>Q true H
theorem Mq{X:Cx}:YL X [] ZgV:=fun _ _ _ H _ I h=>wpAny_tests_nil ⟨H,I,h⟩
def Du(js:List Nat)(nl:Nat)(wi:TI)(g:TG)(tt:TT)(te:TE):TE:=fun σ H Q=>wi σ H fun J H1=>∀D,H1 D=none→
 ∃W:Nat→Nat→L2.St→Hp→Prop,(∃m,W 0 m (eO js nl σ) (upd H1 D (.lst [])))∧∀i m σ' H',W i m σ' H'→
  (J.stop i H'∧Q (.ref D) H')∨(J.go i H'∧∃N:L2.St→Hp→Prop,(∀σ2 H2,N σ2 H2→∃m',m'<m∧W (i+1) m' σ2 H2)∧∀x H2,J.yld i H' x H2→g x σ' H2 fun σ2 H3=>tt σ2 H3 fun c H4=>
    if c=true then te σ2 H4 fun y H5=>∃ys,H5 D=some (.lst ys)∧ys.length<sizeLine∧N σ2 (upd H5 D (.lst (ys ++ [y]))) else N σ2 H4)
section
variable{X:Cx}{elt tg iter:Expr}{ifs:List Expr}{scope:Scope}{pos:Pos}{wi:TI}{g:TG}{tt:TT}{te:TE}
theorem dD{env:Env}:∀{names:List (Str×NameKind)} {x:Str} {k:NameKind},(k=.cell∨k=.free)→
 (names.map fun(n,k)=>if(k== NameKind.free && env.scope.kind== .function && env.kindOf n== some .cell) then(n,NameKind.cell) else(n,k)).lookup x=some k→(x,NameKind.free)∈names∨(x,NameKind.cell)∈names
 | [],x,k,_,h=>by simp at h
 |(n,q)::r,x,k,hk,h=>by
  have ih:=@dD env r x k hk
  rw[List.map_cons] at h
  by_cases hx:x=n
  ·subst hx
   by_cases hf:q=.free
   ·subst hf
    exact .inl List.mem_cons_self
   ·have hb:(q== NameKind.free)=false:=by simpa using hf
    have e:(if(q== NameKind.free && env.scope.kind== .function && env.kindOf x== some .cell)=true then(x,NameKind.cell) else(x,q))=(x,q):=by
     rw[hb];rfl
    have h2:=h
    simp only[e,List.lookup_cons,beq_self_eq_true] at h2
    have:q=k:=Option.some.inj h2
    rcases hk with hk|hk
    ·rw[this,hk]
     exact .inr List.mem_cons_self
    ·exact absurd (this.trans hk) hf
  ·have hn:(x== n)=false:=by simpa using hx
   have h3:(x,NameKind.free)∈r∨(x,NameKind.cell)∈r:=ih (by
    by_cases c:(q== NameKind.free && env.scope.kind== .function && env.kindOf n== some .cell)=true
    ·simp only[c,if_true,List.lookup_cons,hn] at h
     exact h
    ·simp only[c,if_false,Bool.false_eq_true,List.lookup_cons,hn] at h
     exact h)
   rcases h3 with h3|h3
   ·exact .inl (List.mem_cons_of_mem _ h3)
   ·exact .inr (List.mem_cons_of_mem _ h3)
theorem Ŵ:∀(names:List (Str×NameKind)) (n:Nat) (acc:List (Str×Addr)),cellsFrom n names acc=cellsFrom n names []++acc
 | [],_,_=>rfl
 |(x,k)::r,n,acc=>by
  unfold cellsFrom
  split
  ·rw[Ŵ r (n+1) ((x,n)::acc),Ŵ r (n+1) [(x,n)],List.append_assoc]
   rfl
  ·exact Ŵ r n acc
theorem dF:∀(names:List (Str×NameKind)) (n:Nat) {x:Str} {c:Addr},(x,c)∈cellsFrom n names []→(x,NameKind.cell)∈names
 | [],_,_,_,h=>by simp[cellsFrom] at h
 |(y,k)::r,n,x,c,h=>by
  unfold cellsFrom at h
  split at h
  ·rename_i hk
   rw[Ŵ r (n+1) [(y,n)]] at h
   rcases List.mem_append.mp h with h|h
   ·exact List.mem_cons_of_mem _ (dF r _ h)
   ·have e:(x,c)=(y,n):=by simpa using h
    cases e
    rw[beq_iff_eq.mp hk]
    exact List.mem_cons_self
  ·exact List.mem_cons_of_mem _ (dF r _ h)
structure Blk(X:Cx)(scope:Scope)(n:Nat)(h:Heap)(cl:List (Str×Addr)):Prop where
 at_:∀x c,cl.lookup x=some c→(X.env.cells.lookup x=some c∧scope.names.lookup x≠some .cell)∨(n<c∧h.IsCell c none∧scope.names.lookup x=some .cell)
 inj:∀x y c,cl.lookup x=some c→cl.lookup y=some c→n<c→x=y
 has:∀x,((x,NameKind.free)∈scope.names∨(x,NameKind.cell)∈scope.names)→∃c,cl.lookup x=some c
theorem Dv{X:Cx}{scope:Scope}{n:Nat}{h:Heap}{cl:List (Str×Addr)}(hcell:∀y∈scope.names,y.2=.cell→scope.names.lookup y.1=some .cell)
 (h1:∀x c,cl.lookup x=some c→X.env.cells.lookup x=some c)(h2:∀y∈scope.names,y.2=.free→∃c,cl.lookup y.1=some c)(hlt:∀x c,X.env.cells.lookup x=some c→c<n)
 (ok:CellsOk h (n+1) (cellsFrom (n+1) scope.names [])):Blk X scope n h (cellsFrom (n+1) scope.names cl):=by
 have sp:∀x c,(cellsFrom (n+1) scope.names cl).lookup x=some c→(cl.lookup x=some c∧(cellsFrom (n+1) scope.names []).lookup x=none)∨(cellsFrom (n+1) scope.names []).lookup x=some c:=fun x c e=>by
  rw[Ŵ,List.lookup_append] at e
  cases q:(cellsFrom (n+1) scope.names []).lookup x with
  |none=>rw[q] at e;exact .inl ⟨by simpa using e,rfl⟩
  |some d=>rw[q] at e;exact .inr (by simpa using e)
 refine⟨fun x c e=>?_,fun x y c e1 e2 hc=>?_,fun x hx=>?_⟩
 ·rcases sp x c e with⟨e,q⟩|e
  ·refine .inl ⟨h1 x c e,fun z=>?_⟩
   obtain⟨d,hd⟩:=iy (sc:=scope) (n:=n+1) z
   rw[hd] at q
   cases q
  ·have m:=mem_of_lookup e
   exact .inr ⟨(ok.empty x c m).2,(ok.empty x c m).1,hcell _ (dF _ _ m) rfl⟩
 ·have nw:∀z,(cellsFrom (n+1) scope.names cl).lookup z=some c→(cellsFrom (n+1) scope.names []).lookup z=some c:=fun z e=>by
   rcases sp z c e with⟨e,q⟩|e
   ·exact absurd (hlt z c (h1 z c e)) (Nat.lt_asymm hc)
   ·exact e
  exact name_of_addr ok.apart (mem_of_lookup (nw x e1)) (mem_of_lookup (nw y e2))
 ·rw[Ŵ,List.lookup_append]
  rcases hx with hx|hx
  ·obtain⟨c,hc⟩:=h2 _ hx rfl
   cases q:(cellsFrom (n+1) scope.names []).lookup x with
   |none=>exact⟨c,by simpa using hc⟩
   |some d=>exact⟨d,rfl⟩
  ·obtain⟨d,hd⟩:=iy (sc:=scope) (n:=n+1) (hcell _ hx rfl)
   rw[hd]
   exact⟨d,rfl⟩
theorem gD{M:Model}{A:Around}{E:Value→Shared→Prop}{s:Shared}{scope:Scope}{globals:Addr}{closure:List (Str×Addr)}{qual:Str}
 {func:Option Addr}{code:Value}{env0:Env}{builtins:Addr}{Q:Env→Shared→Prop}
 (hQ:∀h',h'.Ns s.heap.objs.size (fun _=>none)→(∀b o,s.heap.get? b=some o→h'.get? b=some o)→CellsOk h' (s.heap.objs.size+1) (cellsFrom (s.heap.objs.size+1) scope.names [])→
   Q (newEnv scope s.heap.objs.size globals (cellsFrom (s.heap.objs.size+1) scope.names closure) qual func code (some env0) builtins) {s with heap:=h'}) :
 wpAny M A (newFunctionEnv scope globals closure [] qual func code (some env0) builtins) Q E s:=by
 simp only[newFunctionEnv,Option.isSome_some,if_true]
 refine wpAny_bind (wpAny_alloc ?_)
 refine wpAny_bind (wpAny_layCells _ (fun name kind cells=>by cases hkc:kind== NameKind.cell<;>simp[hkc]) _ _ _ _ ?_)
 have ok:=cellsFrom_ok scope.names (s.heap.push {cls:=.type "dict",data:=.dict #[]}) (s.heap.objs.size+1) [] ⟨fun _ _ hm=>(nomatch hm),List.Pairwise.nil⟩ (by rw[Heap.size_push];exact Nat.le_refl _)
 rw[Heap.size_push] at ok
 rw[show({s with heap:=s.heap.push {cls:=.type "dict",data:=.dict #[]}}:Shared).heap.objs.size=s.heap.objs.size+1 from Heap.size_push ..]
 refine wpAny_bind ?_
 rw[List.forIn_nil]
 exact wpAny_pure (wpAny_pure (hQ _ ((Heap.Ns.new s.heap (.type "dict")).keeps (pushCells_keeps _ _)) (fun b o e=>pushCells_keeps _ _ b o (Heap.get?_push_of_some _ e)) ok))
theorem iH{env:Env}:∀{names:List (Str×NameKind)} {x:Str},names.lookup x=some .free→
 ¬(names.map fun(n,k)=>if(k== NameKind.free && env.scope.kind== .function && env.kindOf n== some .cell) then(n,NameKind.cell) else(n,k)).lookup x=some .local
 | [],x,h=>by simp at h
 |(n,q)::r,x,h=>by
  intro h2
  rw[List.map_cons] at h2
  rw[List.lookup_cons] at h
  cases hx:x== n with
  |true=>
   rw[hx] at h
   cases h
   by_cases c:(NameKind.free== NameKind.free && env.scope.kind== .function && env.kindOf n== some .cell)=true
   ·simp only[c,if_true,List.lookup_cons,hx] at h2
    cases h2
   ·simp only[c,if_false,Bool.false_eq_true,List.lookup_cons,hx] at h2
    cases h2
  |false=>
   rw[hx] at h
   have ih:=iH (env:=env) h
   by_cases c:(q== NameKind.free && env.scope.kind== .function && env.kindOf n== some .cell)=true
   ·simp only[c,if_true,List.lookup_cons,hx] at h2
    exact ih h2
   ·simp only[c,if_false,Bool.false_eq_true,List.lookup_cons,hx] at h2
    exact ih h2
theorem pC{pins:List (Addr×Obj)}{σ:L2.St}{H:Hp}{s:Shared}{N':List Str}{js:List Nat}{nl:Nat}{sc:Scope}{cl:List (Str×Addr)}{fp:List Addr}{h':Heap}{tk:Nat}
 (hsc:X.env.scope=sc)(hk:scope.kind=.function)(hcap:lK X sc scope N' js)(hlen:js.length+nl=N'.length)(B:Blk X scope s.heap.objs.size h' cl)
 (I:Inv X pins σ H s)(hf:∀b∈fp,eG X pins H b)(hlt:∀b∈fp,b<s.heap.objs.size)
 (hn:h'.Ns s.heap.objs.size (fun _=>none))(kp:∀b o,s.heap.get? b=some o→h'.get? b=some o) :
 Inv (fU X N' scope cl s.heap.objs.size s H fp) [] (eO js nl σ) H {s with heap:=h',toks:=tk}:=by
 have Dw:∀x,((fU X N' scope cl s.heap.objs.size s H fp).env.kindOf x=some .cell∨(fU X N' scope cl s.heap.objs.size s H fp).env.kindOf x=some .free)→∃c,cl.lookup x=some c:=fun x hx=>by
  rcases hx with hx|hx
  ·exact B.has x (dD (.inl rfl) hx)
  ·exact B.has x (dD (.inr rfl) hx)
 have lt:∀x c,X.env.cells.lookup x=some c→c<s.heap.objs.size:=fun x c e=>by
  obtain⟨v,o,ho,_⟩:=I.cell x c e
  exact Heap.lt_size ho
 have inj:∀x y c,cl.lookup x=some c→cl.lookup y=some c→x=y:=fun x y c e1 e2=>by
  rcases B.at_ x c e1 with⟨q1,_⟩|⟨q1,_⟩
  ·rcases B.at_ y c e2 with⟨q2,_⟩|⟨q2,_⟩
   ·exact I.ok.inj x y c q1 q2
   ·exact absurd (lt x c q1) (Nat.lt_asymm q2)
  ·exact B.inj x y c e1 e2 q1
 refine⟨⟨I.ok.mod,hk,I.ok.glob,I.ok.blt,Nat.le_refl _,inj,Dw,fun x c z e=>by
  rcases B.at_ x c e with⟨_,q⟩|⟨q,_⟩
  ·exact absurd (beq_iff_eq.mp z) q
  ·exact Nat.le_of_lt q,I.ok.hd,I.ok.frames,.inl rfl,fun b hb=>⟨Nat.ne_of_lt (hlt b hb),fun x c e=>by
  rcases B.at_ x c e with⟨q,_⟩|⟨q,_⟩
  ·exact(hf b hb).2.2.2.2.1 x c q
  ·exact Nat.ne_of_gt (Nat.lt_trans (hlt b hb) q)⟩,
  I.bs,Nat.le_trans I.ok.Lj I.sz,fun b o e hb=>?_,fun b hb hz=>?_,I.stack,I.qH⟩,rfl,I.bare,Un.kept kp,⟨_,hn,fun i x v e1 e2 e3=>?_⟩,fun x c e=>?_,I.hok.fresh (Nat.le_refl _),fun x c e=>by
    rcases B.at_ x c e with⟨q,_⟩|⟨q,_⟩
    ·exact I.gC x c q
    ·exact I.hok.fresh (Nat.le_of_lt q),fun p hp=>?_,I.hok.kept kp,?_⟩
 ·rcases(hf b hb).2.2.2.1 with z|z
  ·exact I.ok.Aw b o e z
  ·exact absurd (Nat.lt_of_lt_of_le (Heap.lt_size e) (Nat.le_trans I.ok.Lj z)) (Nat.lt_irrefl _)
 ·rcases List.mem_cons.mp (I.lG b hz) with z|z
  ·exact(hf b hb).2.1 z
  ·exact(hf b hb).2.2.1 z
 ·obtain⟨j,q1,q2,q0,q3⟩:=pA hcap e1 e2
  obtain⟨m,hm,hl⟩:=I.loc
  have ZgW:Cw X.env.scope x:=by
   rw[hsc]
   rcases q3 with q3|q3
   ·exact .inr (.inl q3)
   ·exact .inr (.inr q3)
  obtain⟨u,ru,lk⟩:=hl j x v q1 q2 ZgW
  refine⟨u,ru,?_⟩
  rcases lk with⟨k1,_⟩|⟨k1,c,hc,ic⟩
  ·exfalso
   have k1':sc.names.lookup x=some .local:=by rw[←hsc];exact k1
   rcases q3 with q3|q3<;>(rw[k1'] at q3;cases q3)
  ·have e3':(fU X N' scope cl s.heap.objs.size s H fp).env.kindOf x=some .local∨(fU X N' scope cl s.heap.objs.size s H fp).env.kindOf x=some .cell∨(fU X N' scope cl s.heap.objs.size s H fp).env.kindOf x=some .free:=e3
   rcases e3' with z|z
   ·exact absurd z (iH (env:=X.env) q0)
   ·obtain⟨d,hd⟩:=Dw x z
    have:d=c:=by
     rcases B.at_ x d hd with⟨q,_⟩|⟨_,_,q⟩
     ·rw[hc] at q
      exact(Option.some.inj q).symm
     ·rw[q0] at q
      cases q
    subst this
    exact .inr ⟨z,d,hd,by
     obtain⟨o,ho,hd'⟩:=ic
     exact⟨o,kp _ _ ho,hd'⟩⟩
 ·rcases B.at_ x c e with⟨q,_⟩|⟨_,q,_⟩
  ·obtain⟨v,o,ho,hd⟩:=I.cell x c q
   exact⟨v,o,kp _ _ ho,hd⟩
  ·exact⟨none,q⟩
 ·exact absurd hp (by simp[fU])
 ·show _=N'.length
  rw[←hlen]
  simp[eO]
theorem lM{pins:List (Addr×Obj)}{σ σ':L2.St}{H H':Hp}{s s':Shared}{N':List Str}{cl:List (Str×Addr)}{fp:List Addr}{h':Heap}(I:Inv X pins σ H s)(hf:∀b∈fp,eG X pins H b)
 (J:Inv (fU X N' scope cl s.heap.objs.size s H fp) [] σ' H' s')(kp:∀b u,b≠s.heap.objs.size→s'.heap.get? b=some u→h'.get? b=some u):Inv X pins σ H' {s' with heap:=h'}:=by
 have ne:∀{b:Addr} {o:Obj},s.heap.get? b=some o→b≠s.heap.objs.size:=fun e=>Nat.ne_of_lt (Heap.lt_size e)
 have u:=J.base
 refine I.call' (ch:=fp) J.os ⟨fun b o e n hb hx=>kp b o (ne e) (u.keep b o e n hb hx),fun b o e n hb hx=>?_,fun b o e n hx=>u.free b o e n hx,fun b o e hx=>?_,u.tups,u.iu,u.jd⟩ (zx J.hok J.free kp) J.bare fun b hb=>?_
 ·obtain⟨sl,q⟩:=u.slot b o e n hb hx
  exact⟨sl,kp b _ (ne e) q⟩
 ·obtain⟨o',q⟩:=u.there b o e hx
  exact⟨o',kp b _ (ne e) q⟩
 ·exact⟨(hf b hb).2.2.2.1,(hf b hb).2.1,(hf b hb).2.2.2.2.1,(hf b hb).2.2.2.2.2⟩
theorem Mr(N':List Str)(js:List Nat)(nl:Nat)(sc:Scope)(hsc:X.env.scope=sc)(hcalm:X.calm=true)
 (hi:PI X.aj tg iter wi)(hg:∀cl C s H fp,PG (fU X.aj N' scope cl C s H fp) tg g)(ht:∀cl C s H fp,YL (fU X.aj N' scope cl C s H fp) ifs tt)(he:∀cl C s H fp,PE (fU X.aj N' scope cl C s H fp) elt te)
 (hcap:lK X.aj sc scope N' js)(hlen:js.length+nl=N'.length:=by rfl)
 (hk:scope.kind=.function:=by rfl)(hcell:∀y∈scope.names,y.2=.cell→scope.names.lookup y.1=some .cell:=by decide +kernel)(hnames:∀y∈scope.names,y.2=.local→scope.names.lookup y.1=some .local:=by decide +kernel)
 (hfree:∀y∈scope.names,y.2=.free→(sc.names.lookup y.1=some .cell∨sc.names.lookup y.1=some .free):=by decide +kernel)
 (hs:∀x,foldedSetIterable iter X.env x=pure x:=by intro _;rfl) :
 PE X.aj (.ListComp elt [⟨tg,iter,ifs,0⟩] scope pos) (Du js nl wi g tt te):=by
 intro pins s σ H Q I h
 obtain⟨cl0,c1,c2,c3⟩:=iB (scope:=scope) (env:=X.aj.env) fun y hy hf=>I.ok.has y.1 (by
  have:=hfree y hy hf
  rw[←hsc] at this
  exact this)
 rw[eval_ListComp]
 refine wpAny_comprehension_free (use:=none) rfl hs c1 hk hnames (ű (hi pins s σ H _ I h) fun v s1 h1=>ű h1 fun itv s2 h2=>?_)
 obtain⟨it,fp,tn,J,H2,e,I2,T,st2,f2,q2⟩:=h2
 subst e
 refine wpAny_newObj_type (gD (fun h₁ hns₁ old TF=>?_))
 dsimp only at hns₁ old TF ⊢
 generalize TJ:s2.heap.push {cls:=.type "list",dict:=none,data:=.seq ([]:List Value).toArray}=bR at hns₁ old TF ⊢
 have hD:H2 s2.heap.objs.size=none:=I2.hok.fresh (Nat.le_refl _)
 have I3:Inv X.aj pins σ (upd H2 s2.heap.objs.size (.lst [])) {s2 with heap:=bR}:=by
  rw[←TJ]
  exact I2.laid (t':=s2.toks) (fun b u e=>Heap.get?_push_of_some _ e) (Nat.le_refl _) ⟨Nat.zero_le _,[],0,.nil,Heap.get?_push_size _ rfl⟩
 have Dy:∀b∈fp,b<s2.heap.objs.size:=fun b hb=>by
  obtain⟨o,ho,_⟩:=T.obj 0 _ st2 b hb
  exact Heap.lt_size ho
 have TQ:bR.objs.size=s2.heap.objs.size+1:=by rw[←TJ,Heap.size_push]
 have f3:∀b∈fp,eG X.aj pins (upd H2 s2.heap.objs.size (.lst [])) b:=fun b hb=>by
  obtain⟨g0,g1⟩:=f2 b hb
  exact⟨by rw[Į (Nat.ne_of_lt (Dy b hb))];exact g0,g1⟩
 have B:=Dv (X:=X.aj) (cl:=cl0) hcell c2 c3 (fun x c e=>by
  obtain⟨v,o,ho,_⟩:=I3.cell x c e
  exact Heap.lt_size ho) TF
 generalize cellsFrom (bR.objs.size+1) scope.names cl0=cl at B ⊢
 obtain⟨W,⟨m0,w0⟩,turn⟩:=q2 s2.heap.objs.size hD
 have I4:=pC (X:=X.aj) (N':=N') (js:=js) (nl:=nl) (sc:=sc) (scope:=scope) (cl:=cl) (fp:=fp) (h':=h₁) (tk:=s2.toks) hsc hk hcap hlen B I3 f3 (fun b hb=>by show b<bR.objs.size;rw[TQ];exact Nat.lt_succ_of_lt (Dy b hb)) hns₁ old
 have st4:tn 0 h₁:= T.keep 0 _ _ st2 fun b hb o e=>old b o (by rw[←TJ];exact Heap.get?_push_of_some _ e)
 have fr4:∀b∈fp,(upd H2 s2.heap.objs.size (.lst [])) b=none:=fun b hb=>(f3 b hb).1
 have stat:∀{H':Hp},(∀b∈fp,H' b=none)→∀b∈fp,eG (fU X.aj N' scope cl bR.objs.size {s2 with heap:=bR} (upd H2 s2.heap.objs.size (.lst [])) fp) [] H' b:=fun{H'} hn b hb=>by
  obtain⟨g0,g1,g2,g3,g4,g5⟩:=f3 b hb
  refine⟨hn b hb,Nat.ne_of_lt (by show b<bR.objs.size;rw[TQ];exact Nat.lt_succ_of_lt (Dy b hb)),fun z=>?_,.inl hb,fun x c e=>by
   rcases B.at_ x c e with⟨q,_⟩|⟨q,_⟩
   ·exact g4 x c q
   ·exact Nat.ne_of_gt (Nat.lt_trans (by show b<bR.objs.size;rw[TQ];exact Nat.lt_succ_of_lt (Dy b hb)) q),fun p hp=>absurd hp (by simp[fU])⟩
  rcases List.mem_cons.mp (I3.lG b z) with z|z
  ·exact g1 z
  ·exact g2 z
 have loop:∀s₃:Shared,s₃= {s2 with heap:=h₁}→
  codeAny (model X.prog X.w) X.A (.compLoop (.ListComp elt [⟨tg,iter,ifs,0⟩] scope pos) 0 (.ref it) (.ref s2.heap.objs.size) (compEnvC scope cl bR.objs.size X.aj.env))
   (compPost (model X.prog X.w) X.A X.aj.xe none (EP X.aj pins σ Q) (.ref s2.heap.objs.size) bR.objs.size) s₃:= by
  rintro s₃ rfl
  refine iG (fun n s'=>∃i σ' H',Inv (fU X.aj N' scope cl bR.objs.size {s2 with heap:=bR} (upd H2 s2.heap.objs.size (.lst [])) fp) [] σ' H' s'∧tn i s'.heap∧(∀b∈fp,H' b=none)∧W i n σ' H') ?_ m0 ⟨0,_,_,I4,st4,fr4,w0⟩
  rintro n s5 ⟨i,σ5,H5,I5,Lx,R_,w5⟩
  rcases turn i n σ5 H5 w5 with⟨stop,qn⟩|⟨go,N,hN,step⟩
  ·refine ű (T.done (fU X.aj N' scope cl bR.objs.size {s2 with heap:=bR} (upd H2 s2.heap.objs.size (.lst [])) fp) rfl rfl rfl hcalm i [] s5 σ5 H5 (fun _ _=>False) I5 (stat R_) Lx stop) fun r s6 ⟨hr,I6⟩=>?_
   subst hr
   obtain⟨m,hm,_⟩:=I6.loc
   refine⟨m,hm,fun h' hs'=>⟨.ref s2.heap.objs.size,H5,lM I3 f3 I6 (fun b u hb e=>hs'.extBut b u hb e),rfl,qn⟩⟩
  ·refine ű (T.item (fU X.aj N' scope cl bR.objs.size {s2 with heap:=bR} (upd H2 s2.heap.objs.size (.lst [])) fp) rfl rfl rfl hcalm i [] s5 σ5 H5 (fun _ _=>False) I5 (stat R_) Lx go) fun r s6 ⟨u,hr,h6⟩=>?_
   subst hr
   refine ű h6 fun _ s7 ⟨x,H7,I7,r7,y7,TV,fr7⟩=>?_
   have I7':=I7.pinned (stat fr7) (T.obj _ _ TV)
   have again:∀{s8:Shared} {σ8:L2.St} {H8:Hp},Inv (fU X.aj N' scope cl bR.objs.size {s2 with heap:=bR} (upd H2 s2.heap.objs.size (.lst [])) fp) ([]++je fp s7.heap) σ8 H8 s8→
    Inv (fU X.aj N' scope cl bR.objs.size {s2 with heap:=bR} (upd H2 s2.heap.objs.size (.lst [])) fp) [] σ8 H8 s8∧tn (i+1) s8.heap∧∀b∈fp,H8 b=none:=fun{s8 σ8 H8} I8=>by
    refine⟨I8.eN,T.keep _ _ _ TV fun b hb o e=>(I8.pin (b,o) (List.mem_append_right _ (List.mem_append_right _ (aX hb e)))).1,fun b hb=>?_⟩
    obtain⟨o,e,d⟩:=T.obj _ _ TV b hb
    exact(I8.pin (b,o) (List.mem_append_right _ (List.mem_append_right _ (aX hb e)))).2.1
   refine ű (hg cl _ _ _ fp _ s7 σ5 H7 x u _ I7' r7 (step x H7 y7)) fun _ s8 ⟨σ8,H8,I8,q8⟩=>?_
   refine ű (ht cl _ _ _ fp _ s8 σ8 H8 _ I8 q8) fun c s9 ⟨H9,I9,q9⟩=>?_
   cases c with
   |false=>
    rw[if_neg Bool.false_ne_true] at q9 ⊢
    obtain⟨m',hm',w9⟩:=hN _ _ q9
    obtain⟨a1,a2,a3⟩:=again I9
    exact⟨m',hm',i+1,σ8,H9,a1,a2,a3,w9⟩
   |true=>
    rw[if_pos rfl] at q9 ⊢
    refine ű (he cl _ _ _ fp _ s9 σ8 H9 _ I9 q9) fun yv s10 ⟨y,H10,I10,r10,ys,e10,l10,w10⟩=>?_
    refine ű (aG _ s10 σ8 H10 (.ref s2.heap.objs.size) [y] (.ref s2.heap.objs.size) [yv] (fun _ TX=>N σ8 TX) I10 rfl (.cons r10 .nil) ⟨_,ys,y,rfl,rfl,e10,l10,w10⟩) fun _ s11 ⟨v11,TX,I11,_,w11⟩=>?_
    obtain⟨a1,a2,a3⟩:=again I11
    obtain⟨m',hm',w11⟩:=hN _ _ w11
    exact⟨m',hm',i+1,σ8,TX,a1,a2,a3,w11⟩
 exact codeAny_compStart_list (loop _ rfl) (T.self _ 0 _ _ _ st4 (loop _ rfl))
end
def Its(z:Str):It:=⟨fun i _=>i<z.cps.size,fun i H x H'=>H'=H∧∃c,z.cps.toList[i]?=some c∧x=.str ⟨#[c]⟩,fun i _=>i=z.cps.size⟩
theorem Bl{P:Program}{w:World}{K:PySem.W.Frag}{tg:Expr}(it:Addr)(z:Str)(t:Tok)(ty:String)
 (hW:∀A:Around,A.handled=none→Walks P w A it [it] [it] z.cps.size (SignAt z) (fun i h=>h.IsStrIter it ty z t i))
 (hS:∀(A:Around) (i:Nat) (s:Shared) (Q:Value→Shared→Prop) (E:Value→Shared→Prop),s.heap.IsStrIter it ty z t i→Q (.ref it) s→wpAny (model P w) A (pyIter (.ref it)) Q E s)
 (hty:["enumerate","zip","dict_itemiterator","dict_reverseitemiterator","odict_iterator","itertools.zip_longest","itertools.pairwise"].contains ty=false):Turn P w K tg (Its z) [it] it (fun i h=>h.IsStrIter it ty z t i) where
 mem:=by simp
 obj:=fun i h st b hb=>by
  have e:b=it:=by simpa using hb
  subst e
  obtain⟨o,e,c,d⟩:=st
  exact⟨o,e,fun v z=>by rw[d] at z;cases z⟩
 keep:=fun i h h' st k=>by
  obtain⟨o,e,c,d⟩:=st
  exact⟨o,k it (by simp) o e,c,d⟩
 item:=by
  intro X hP hw hK hc i pins s σ H E I hf st hg
  subst hP hw hK
  obtain⟨f0,f1,f2,f3,f4,f5⟩:=hf it (by simp)
  refine(hW X.A (I.ok.hd hc)).item i s _ _ hg st fun v h' tk hv st' kk=>?_
  obtain⟨c,u,hcu,rfl⟩:=hv
  have I1:Inv X pins σ H {s with heap:=h',toks:=tk}:=I.turned (fun b o hb e=>kk b o (by simpa using hb) e) f0 f1 f3 f4 f5
  obtain⟨o,e,cl,d⟩:=id st'
  exact⟨_,rfl,yZ (s:={s with heap:=h',toks:=tk}) e cl d hty ⟨.str ⟨#[c]⟩,H,I1,⟨u,rfl⟩,⟨rfl,c,by simpa using hcu,rfl⟩,st',fun b hb=>(hf b hb).1⟩⟩
 done:=by
  intro X hP hw hK hc i pins s σ H E I hf st hg
  subst hP hw hK
  obtain⟨f0,f1,f2,f3,f4,f5⟩:=hf it (by simp)
  have e:i=z.cps.size:=hg
  subst e
  exact(hW X.A (I.ok.hd hc)).done s _ _ st fun h' tk kk=>⟨rfl,I.turned (fun b o hb e=>kk b o (by simpa using hb) e) f0 f1 f3 f4 f5⟩
 self:=hS
section
variable{X:Cx}{tg:Expr}
end
end M3
namespace M4
open PySem PySem.Spec PyProof.Rows L2 M2 M3
section
variable{X:Cx}
theorem Ms{bs:List Bool}:∀{us:List Value},Vals (bs.map V.bl) us→us=bs.map Value.bool:=by
 induction bs with
 |nil=>intro us r;rw[List.map_nil] at r;cases r;rfl
 |cons b bs ih=>
  intro us r
  rw[List.map_cons] at r
  cases r with
  |cons r1 r2=>
   cases r1
   rw[ih r2]
   rfl
theorem all_range(bs:List Bool):(List.range (bs.map Value.bool).toArray.size).all (fun i=>bs.getD i false)=bs.all id:=by
 have e:(bs.map Value.bool).toArray.size=bs.length:=by simp
 rw[e,Bool.eq_iff_iff]
 simp only[List.all_eq_true,List.mem_range,id]
 constructor
 ·intro h b hb
  obtain⟨i,hi,rfl⟩:=List.mem_iff_getElem.mp hb
  have:=h i hi
  rw[List.getD_eq_getElem?_getD,List.getElem?_eq_getElem hi] at this
  exact this
 ·intro h i hi
  rw[List.getD_eq_getElem?_getD,List.getElem?_eq_getElem hi]
  exact h _ (List.getElem_mem hi)
theorem tX{prog:Program}{w:World}{A:Around}(bs:List Bool):TruthOf prog w A (fun i v=>(bs.map Value.bool).toArray[i]?=some v) (fun i=>bs.getD i false):=by
 intro i v s Q E hv hq
 have hv':bs[i]?.map Value.bool=some v:=by
  rw[←List.getElem?_map]
  simpa using hv
 cases hb:bs[i]? with
 |none=>rw[hb] at hv';cases hv'
 |some b=>
  rw[hb] at hv'
  cases hv'
  dsimp only at hq
  rw[List.getD_eq_getElem?_getD,hb] at hq
  exact wpAny_truthy_bool hq
def TY(K:PySem.W.Frag):List V→Hp→VK→Prop:=fun xs H Q=>match xs with
 | [.ref p]=>∃bs:List Bool,aB K H p (bs.map V.bl)∧Q (.bl (bs.all id)) H
 |_=>False
theorem jk(hc:X.calm=true):Ŝ X (.builtin "all") (TY X.K):=by
 intro pins s σ H xs us Q I r h
 unfold TY at h
 split at h
 ·rename_i p
  obtain⟨bs,hS,q⟩:=h
  obtain⟨u,rfl,ru⟩:=vals1 r
  cases ru
  obtain⟨its,rv,pl,hz⟩:=I.list hS
  have e:=Ms rv
  subst e
  have hp:p≠s.heap.objs.size:=by
   obtain⟨o,n,e,_⟩:=pl
   exact Nat.ne_of_lt (Heap.lt_size e)
  refine call_all_walk (wpAny_pyIter_list pl.isList ?_)
  refine⟨s.heap.objs.size,_,_,_,_,_,_,rfl,Walks.list (A:=X.A.in1) (show X.A.in1.handled=none from I.ok.hd hc) s.heap.objs.size p hp (bs.map Value.bool).toArray,⟨⟨_,Heap.get?_push_size _ rfl,rfl,rfl⟩,pl.isList.at fun o e=>Heap.get?_push_of_some _ e⟩,tX bs,fun h' tk k=>?_⟩
  rw[all_range]
  exact⟨.bl _,H,I.kept fun b o e=>k b o (by simpa using Nat.ne_of_lt (Heap.lt_size e)) (Heap.get?_push_of_some _ e),rfl,q⟩
 ·exact h.elim
end
abbrev S(l:List Nat):Str:=⟨l.toArray⟩
theorem ZgX(z:Str):S z.cps.toList=z:=by
 cases z
 simp
theorem ZaB(l:List Nat):(S l).length=l.length:=by simp[Str.length]
theorem tY(z:Str):z.cps.toList.length=z.length:=by simp[Str.length]
def qN(xs:List Nat)(lo hi:Option Int):List Nat:=(xs.drop (HT.ig xs.length 0 lo)).take (HT.ig xs.length xs.length hi-HT.ig xs.length 0 lo)
theorem idx_eq(z:Str)(lo hi:Option Int):Builtin.Str.strSliceIndices lo hi 1 z.length=(List.range (HT.ig z.length z.length hi-HT.ig z.length 0 lo)).map (HT.ig z.length 0 lo + ·):=by
 have hc:∀(o:Option Int) (d:Nat),d≤z.length→(match o with|none=>((d:Nat):Int)|some i=>max 0 (min (if i<0 then i+(z.length:Int) else i) (z.length:Int)))=((HT.ig z.length d o:Nat):Int):=by
  intro o d hd
  cases o with
  |none=>rfl
  |some i=>
   show max 0 (min (if i<0 then i+(z.length:Int) else i) (z.length:Int))=((if i<0 then(i+(z.length:Int)).toNat else min i.toNat z.length:Nat):Int)
   by_cases h:i<0
   ·rw[if_pos h,if_pos h];omega
   ·rw[if_neg h,if_neg h];omega
 have e:Builtin.Str.strSliceIndices lo hi 1 z.length=sliceRange ((HT.ig z.length 0 lo:Nat):Int) ((HT.ig z.length z.length hi:Nat):Int) 1:=by
  have h1:=hc lo 0 (Nat.zero_le _)
  have h2:=hc hi z.length (Nat.le_refl _)
  unfold Builtin.Str.strSliceIndices
  simp only[show(1:Int)>0 by decide,if_true]
  rw[←h1,←h2]
  cases lo<;>cases hi<;>rfl
 rw[e,sliceRange_one]
theorem Mt(z:Str)(lo hi:Option Int):(Builtin.Str.strSliceIndices lo hi 1 z.length).filterMap (z.cps[·]?)=qN z.cps.toList lo hi:=by
 rw[idx_eq,pick_run]
 unfold qN
 rw[tY]
theorem Mu(xs:List Nat)(lo hi:Option Int):(qN xs lo hi).length≤xs.length:=by
 unfold qN
 rw[List.length_take,List.length_drop]
 omega
theorem Dz{z:Str}{t:Tok}{l u:Option (Int×Tok)}{Q:Value→Shared→Prop}{s:Shared}(hz:z.length≤sizeLine)
 (h:∀t' k,Q (.str (S (qN z.cps.toList (l.map (·.1)) (u.map (·.1)))) t') {s with toks:=k}):(sliceMade z t l u none).post Q s:=by
 have e:=Mt z (l.map (·.1)) (u.map (·.1))
 unfold sliceMade
 have ep:slicePicked z l u none=Builtin.Str.strSliceIndices (l.map (·.1)) (u.map (·.1)) 1 z.length:=rfl
 rw[ep]
 split
 ·rename_i hc
  have hl:(Builtin.Str.strSliceIndices (l.map (·.1)) (u.map (·.1)) 1 z.length).length=z.length:=by simpa using hc
  have hz2:qN z.cps.toList (l.map (·.1)) (u.map (·.1))=z.cps.toList:=by
   rw[idx_eq,List.length_map,List.length_range] at hl
   have hi:=HT.Dg z.length 0 (Nat.zero_le _) (l.map (·.1))
   have hj:=HT.Dg z.length z.length (Nat.le_refl _) (u.map (·.1))
   unfold qN
   rw[tY]
   have hl2:=tY z
   have a0:HT.ig z.length 0 (l.map (·.1))=0∨z.length=0:=by omega
   rcases a0 with a0|a0
   ·rw[a0] at hl ⊢
    rw[List.drop_zero]
    exact List.take_of_length_le (by omega)
   ·have:z.cps.toList=[]:=List.eq_nil_of_length_eq_zero (by omega)
    rw[this]
    simp
  have:=h t s.toks
  rw[hz2,ZgX] at this
  exact this
 ·rw[e]
  exact⟨by rw[ZaB];have:=Mu z.cps.toList (l.map (·.1)) (u.map (·.1));rw[tY] at this;omega,h _ _⟩
section
variable{X:Cx}
def ZgY:V→Option Int→Option Int→Hp→VK→Prop:=fun x lo hi H Q=>match x with
 | .str z=>z.length≤sizeLine∧Q (.str (S (qN z.cps.toList lo hi))) H
 |_=>False
theorem Mv:zf X ZgY:=by
 intro pins s σ H x v vl vu lo hi sl Q I rx hs pl pu h
 cases x with
 |str z=>
  obtain⟨t,rfl⟩:=rx
  obtain⟨hz,q⟩:=h
  obtain⟨l,el,el2⟩:∃l:Option (Int×Tok),partValue l=vl∧l.map (·.1)=lo:=by
   cases pl with
   |none=>exact⟨none,rfl,rfl⟩
   |int i t=>exact⟨some (i,t),rfl,rfl⟩
  obtain⟨u,eu,eu2⟩:∃u:Option (Int×Tok),partValue u=vu∧u.map (·.1)=hi:=by
   cases pu with
   |none=>exact⟨none,rfl,rfl⟩
   |int i t=>exact⟨some (i,t),rfl,rfl⟩
  subst el el2 eu eu2
  exact⟨"str",_,F.slot_str_getitem.lookup,typeIs_str s z t,wpAny_getItem_str_slice (l:=l) (u:=u) (st:=none) hs rfl (Dz hz fun t' k=>⟨.str _,H,I.tok _,⟨_,rfl⟩,q⟩)⟩
 |_=>exact h.elim
def ZgZ(K:PySem.W.Frag):V→Option Int→Option Int→Hp→VK→Prop:=fun x lo hi H Q=>match x with
 | .ref a=>∃xs,aB K H a xs∧∀p,H p=none→Q (.ref p) (upd H p (.lst (tQ xs lo hi)))
 | .str z=>z.length≤sizeLine∧Q (.str (S (qN z.cps.toList lo hi))) H
 |_=>False
theorem slm:zf X (ZgZ X.K):=zf.wk (Dt.or Mv) fun x lo hi H Q h=>by
 cases x with
 |ref a=>exact .inl h
 |str z=>exact .inr h
 |_=>exact h.elim
theorem mul_eq(z:Str){n:Int}(h:0≤n):Txt.mul z n=S (List.replicate n.toNat z.cps.toList).flatten:=by
 have key:∀(k:Nat) (acc:Array Nat),((List.replicate k z.cps).foldl (·++ ·) acc).toList=acc.toList++(List.replicate k z.cps.toList).flatten:=by
  intro k
  induction k with
  |zero=>intro acc;simp
  |succ k ih=>
   intro acc
   rw[List.replicate_succ,List.foldl_cons,ih,List.replicate_succ,List.flatten_cons]
   simp
 unfold Txt.mul
 refine PyProof.Rows.ext_toList ?_
 by_cases h1:n<1
 ·rw[if_pos h1]
  have:n.toNat=0:=by omega
  rw[this]
  simp[Str.empty]
 ·rw[if_neg h1]
  split
  ·rename_i hc
   rw[Bool.or_eq_true] at hc
   rcases hc with hc|hc
   ·have:n=1:=by simpa using hc
    subst this
    simp
   ·have h0:z.cps.toList=[]:=List.eq_nil_of_length_eq_zero (by rw[tY];simpa using hc)
    rw[h0]
    simp
  ·rw[key]
   simp
def DG(z:Str)(n:Int):Prop:=0≤n∧n≤1000∧z.length≤1000
theorem DG.ok{z:Str}{n:Int}(h:DG z n):MulOk z n:=by
 obtain⟨h0,h1,h2⟩:=h
 refine⟨?_,fun hn _=>?_,fun hn _=>?_⟩
 ·rw[decide_eq_false (by omega),decide_eq_false (by omega)]
  rfl
 ·have:(9000000000000000:Int)≤(2 ^ 63-1) / n:=by
   rw[Int.le_ediv_iff_mul_le (by omega)]
   omega
  omega
 ·have:z.length*n.toNat≤1000*1000:=Nat.mul_le_mul h2 (by omega)
  unfold Builtin.Str.tooLong
  simp
  rw[sizeLine_eq]
  omega
def DK:R2:=fun x y H Q=>match x,y with
 | .int i,.int j=>o_ i j∧Q (.int (i*j)) H
 | .str z,.int n=>DG z n∧Q (.str (S (List.replicate n.toNat z.cps.toList).flatten)) H
 |_,_=>False
theorem Ę:aY X (binaryOp .Mult) DK:=by
 intro pins s σ H x y v u Q I rx ry h
 unfold DK at h
 split at h
 ·exact Tv pins s σ H _ _ v u Q I rx ry h
 ·obtain⟨t,rfl⟩:=rx
  obtain⟨t',rfl⟩:=ry
  exact SB.mul h.1.ok fun t' k=>⟨.str _,H,I.tok _,⟨_,by rw[mul_eq _ h.1.1]⟩,h.2⟩
 ·exact h.elim
end
end M4
namespace P
def nst:PySem.Expr→Bool
 | .Starred .. =>false
 |_=>true
theorem ć{e:PySem.Expr}{es:List PySem.Expr}{env:PySem.Env}(h:nst e=true):PySem.starEach (e::es) env=(false,PySem.eval e env)::PySem.starEach es env:=by
 cases e<;>first|rfl|cases h
theorem DN{a b:PySem.Expr}{env:PySem.Env}(h:nst a=true)(h2:nst b=true):PySem.starEach [a,b] env=[(false,PySem.eval a env),(false,PySem.eval b env)]:=by
 rw[ć h,ć h2];rfl
open PySem PySem.Spec PyProof.Rows L2 M2
structure KK where
 K:PySem.W.Frag
 cm:String→Addr
abbrev kk(X:Cx)(cm:String→Addr):KK:=⟨X.K,cm⟩
inductive PV where
 |non|bl (b:Bool)|int (i:Int)|str (x:Str)|tup (xs:List PV)|lst (xs:List PV)
 |ins (C:String) (ns:List Str) (xs:List PV)|xc (C:String) (ns:List Str) (xs:List PV)|ty (n:String)|cls (C:String)
def xo(a C:Addr)(d:Option Addr):HO:=.ext fun h=>∃o vs,h.get? a=some o∧o.cls=.ref C∧o.dict=d∧o.data=.fields vs
def pD(F:Hp)(d:Option Addr)(fs:List (Str×V)):Prop:=(d=none∧fs=[])∨∃a,d=some a∧F a=some (.xd fs)
mutual
def Rep(K:KK)(F:Hp):PV→V→Prop
 | .non,v=>v=.non
 | .bl b,v=>v=.bl b
 | .int i,v=>v=.int i
 | .str x,v=>v=.str x
 | .tup ps,v=>∃a xs,v=.ref a∧cF K.K F a xs∧ġ K F ps xs
 | .lst ps,v=>∃a xs,v=.ref a∧aB K.K F a xs∧ġ K F ps xs
 | .ins C ns ps,v=>∃a dx fs,v=.ref a∧F a=some (.ins (K.cm C) dx fs)∧fs.map (·.1)=ns∧ġ K F ps (fs.map (·.2))
 | .xc C ns ps,v=>∃a d fs,v=.ref a∧F a=some (xo a (K.cm C) d)∧pD F d fs∧fs.map (·.1)=ns∧ġ K F ps (fs.map (·.2))
 | .ty n,v=>v=.ty n
 | .cls C,v=>v=.ref (K.cm C)
def ġ(K:KK)(F:Hp):List PV→List V→Prop
 | [],xs=>xs=[]
 |p::ps,xs=>∃x r,xs=x::r∧Rep K F p x∧ġ K F ps r
end
section
variable{K:KK}{F F' H H':Hp}
theorem pD.same{d:Option Addr}{fs:List (Str×V)}(e:Same F F')(h:pD F d fs):pD F' d fs:=by
 rcases h with h|⟨a,h1,h2⟩
 ·exact .inl h
 ·exact .inr ⟨a,h1,e _ _ h2⟩
mutual
theorem Rep.same(e:Same F F'):∀(p:PV) (v:V),Rep K F p v→Rep K F' p v
 | .non,_,h=>by unfold Rep at h ⊢;exact h
 | .bl _,_,h=>by unfold Rep at h ⊢;exact h
 | .int _,_,h=>by unfold Rep at h ⊢;exact h
 | .str _,_,h=>by unfold Rep at h ⊢;exact h
 | .ty _,_,h=>by unfold Rep at h ⊢;exact h
 | .cls _,_,h=>by unfold Rep at h ⊢;exact h
 | .tup ps,_,h=>by
   unfold Rep at h ⊢
   obtain⟨a,xs,h1,h2,h3⟩:=h
   exact⟨a,xs,h1,Same.tup e h2,ġ.same e ps xs h3⟩
 | .lst ps,_,h=>by
   unfold Rep at h ⊢
   obtain⟨a,xs,h1,h2,h3⟩:=h
   exact⟨a,xs,h1,e.seq h2,ġ.same e ps xs h3⟩
 | .ins C ns ps,_,h=>by
   unfold Rep at h ⊢
   obtain⟨a,dx,fs,h1,h2,h3,h4⟩:=h
   exact⟨a,dx,fs,h1,e _ _ h2,h3,ġ.same e ps _ h4⟩
 | .xc C ns ps,_,h=>by
   unfold Rep at h ⊢
   obtain⟨a,d,fs,h1,h2,hd,h3,h4⟩:=h
   exact⟨a,d,fs,h1,e _ _ h2,hd.same e,h3,ġ.same e ps _ h4⟩
theorem ġ.same(e:Same F F'):∀(ps:List PV) (xs:List V),ġ K F ps xs→ġ K F' ps xs
 | [],_,h=>by unfold ġ at h ⊢;exact h
 |p::ps,_,h=>by
  unfold ġ at h ⊢
  obtain⟨x,r,h1,h2,h3⟩:=h
  exact⟨x,r,h1,Rep.same e p x h2,ġ.same e ps r h3⟩
end
theorem ġ.pr:∀{ps:List PV} {vs:List V},ġ K F ps vs→Paired (Rep K F) ps vs
 | [],_,h=>by unfold ġ at h;subst h;exact .nil
 |p::ps,_,h=>by
  unfold ġ at h
  obtain⟨x,r,rfl,h2,h3⟩:=h
  exact .cons h2 (ġ.pr h3)
theorem ġ.of:∀{ps:List PV} {vs:List V},Paired (Rep K F) ps vs→ġ K F ps vs
 | [],_,.nil=>by unfold ġ;rfl
 |p::ps,_,.cons h t=>by unfold ġ;exact⟨_,_,rfl,h,ġ.of t⟩
theorem ġ.nil:ġ K F [] []:=ġ.of .nil
theorem ġ.cons{p:PV}{v:V}{ps:List PV}{vs:List V}(h:Rep K F p v)(t:ġ K F ps vs):ġ K F (p::ps) (v::vs):=ġ.of (.cons h t.pr)
theorem ġ.length{ps:List PV}{vs:List V}(h:ġ K F ps vs):ps.length=vs.length:=Paired.length h.pr
theorem bV{α β:Type}{G:α→β→Prop}:∀{l:List α} {m:List β} {i:Nat} {x:α},Paired G l m→l[i]?=some x→∃y,m[i]?=some y∧G x y
 |_,_,_,_,.nil,e=>by simp at e
 |_,_,0,_,.cons r _,e=>by simp at e;subst e;exact⟨_,rfl,r⟩
 |_,_,i+1,x,.cons _ t,e=>by
  obtain⟨y,h1,h2⟩:=bV (i:=i) (x:=x) t (by simpa using e)
  exact⟨y,by simpa using h1,h2⟩
theorem DP{α β:Type}{G:α→β→Prop}:∀{l l2:List α} {m m2:List β},Paired G l m→Paired G l2 m2→Paired G (l++l2) (m++m2)
 |_,_,_,_,.nil,t=>t
 |_,_,_,_,.cons r s,t=>.cons r (DP s t)
theorem DQ{α β:Type}{G:α→β→Prop}{x:α}{y:β}(r:G x y):∀{l:List α} {m:List β} (i:Nat),Paired G l m→Paired G (l.set i x) (m.set i y)
 |_,_,_,.nil=>.nil
 |_,_,0,.cons _ t=>.cons r t
 |_,_,i+1,.cons q t=>.cons q (DQ r i t)
theorem zy{α β:Type}{G:α→β→Prop}:∀{l:List α} {m:List β} (n:Nat),Paired G l m→Paired G (l.take n) (m.take n)
 |_,_,0,_=>.nil
 |_,_,_+1,.nil=>.nil
 |_,_,n+1,.cons r t=>.cons r (zy n t)
theorem zA{α β:Type}{G:α→β→Prop}:∀{l:List α} {m:List β} (n:Nat),Paired G l m→Paired G (l.drop n) (m.drop n)
 |_,_,0,h=>h
 |_,_,_+1,.nil=>.nil
 |_,_,n+1,.cons _ t=>zA n t
theorem ġ.append{ps qs:List PV}{vs us:List V}(h:ġ K F ps vs)(t:ġ K F qs us):ġ K F (ps++qs) (vs++us):=ġ.of (DP h.pr t.pr)
end
inductive Slot where
 |no|sh (p:PV)|ow (ps:List PV)|bw (ps:List PV)|rc (C:String) (ns:List Str) (ps:List PV)|ot (ps qs:List PV)
abbrev Ő:=List Slot
def Slot.own:Slot→Bool
 | .ow _=>true
 | .rc _ _ _=>true
 | .ot _ _=>true
 |_=>false
structure Ctx where
 B:Hp
 F₀:Hp
 /-- what is lent here:read,never changed,never kept -/
 L:Hp
 /-- which objects may be held as one's own:address,dict,class -/
 S:Addr→Addr→String→Prop
def aC(K:KK)(c:Ctx)(F H:Hp)(o:Option V):Slot→Prop
 | .no=>True
 | .sh p=>∃v,o=some v∧Rep K F p v
 | .ow ps=>∃a vs,o=some (.ref a)∧H a=some (.lst vs)∧F a=none∧c.B a=none∧ġ K F ps vs
 | .bw ps=>∃a vs,o=some (.ref a)∧c.L a=some (.lst vs)∧ġ K F ps vs
 | .rc C ns ps=>∃a dx fs,o=some (.ref a)∧H a=some (.ins (K.cm C) dx fs)∧F a=none∧c.B a=none∧fs.map (·.1)=ns∧ġ K F ps (fs.map (·.2))∧c.S a dx C
 | .ot ps qs=>∃p a xs vs,o=some (.ref p)∧F p=some (.tup (xs ++ [.ref a]))∧ġ K F ps xs∧H a=some (.lst vs)∧F a=none∧c.B a=none∧ġ K F qs vs
def Slot.at_(F:Hp)(x:V)(a:Addr):Slot→Prop
 | .ot _ _=>∃p xs,x=.ref p∧F p=some (.tup (xs ++ [.ref a]))
 | .ow _=>x=.ref a
 | .rc _ _ _=>x=.ref a
 |_=>False
def ř(F:Hp)(σ:L2.St)(ρ:Ő)(i:Nat)(a:Addr):Prop:=∃s x,ρ[i]?=some s∧σ[i]?=some (some x)∧s.at_ F x a
structure Rel(K:KK)(c:Ctx)(F H:Hp)(σ:L2.St)(ρ:Ő):Prop where
 sub:Same F H
 base:Same c.B H
 f0:Same c.F₀ F
 cQ:∀a,c.B a≠none→c.F₀ a=none→F a=none
 lent:∀a u,c.L a=some u→H a=some u∧F a=none
 lb:∀a,c.B a=none→c.L a=none
 len:σ.length=ρ.length
 slot:∀(i:Nat) s,ρ[i]?=some s→aC K c F H ((σ[i]?).getD none) s
 sep:∀i j a,ř F σ ρ i a→ř F σ ρ j a→i=j
def jJ(F:Hp)(σ:L2.St)(ρ:Ő)(a:Addr):Prop:=∀i,¬ř F σ ρ i a
section
variable{K:KK}{c:Ctx}{F F' H H':Hp}{σ:L2.St}{ρ:Ő}{a:Addr}{o:HO}
theorem gU{s:Slot}{x:V}(h:s.at_ F x a):s.own=true:=by
 cases s<;>first|rfl|exact h.elim
theorem Mw{s:Slot}{x:V}(e:Same F F')(h:s.at_ F x a):s.at_ F' x a:=by
 cases s with
 |ot ps qs=>obtain⟨p,xs,h1,h2⟩:=h;exact⟨p,xs,h1,e _ _ h2⟩
 |_=>exact h
theorem lN{s:Slot}{x:V}{b:Addr}(h:s.at_ F x a)(h':s.at_ F x b):a=b:=by
 cases s with
 |ot ps qs=>
  obtain⟨p,xs,h1,h2⟩:=h
  obtain⟨q,ys,h3,h4⟩:=h'
  rw[h1] at h3
  cases h3
  rw[h2] at h4
  have e:xs ++ [V.ref a]=ys ++ [V.ref b]:=by
   injection h4 with h4
   injection h4
  have e2:=congrArg List.getLast? e
  simp at e2
  exact e2
 |ow ps=>rw[show x=.ref a from h] at h';cases h';rfl
 |rc C ns ps=>rw[show x=.ref a from h] at h';cases h';rfl
 |no=>exact h.elim
 |sh p=>exact h.elim
 |bw ps=>exact h.elim
theorem aC.grow{s:Slot}{x:Option V}(h:aC K c F H x s)(eF:Same F F')(eH:∀b vs,(∃y,x=some y∧s.at_ F y b)→H b=some vs→F b=none→c.B b=none→H' b=some vs∧F' b=none):aC K c F' H' x s:=by
 cases s with
 |no=>trivial
 |sh p=>obtain⟨v,h1,h2⟩:=h;exact⟨v,h1,h2.same eF p v⟩
 |ow ps=>
  obtain⟨b,vs,h1,h2,h3,h4,h5⟩:=h
  obtain⟨e1,e2⟩:=eH b _ ⟨_,h1,rfl⟩ h2 h3 h4
  exact⟨b,vs,h1,e1,e2,h4,h5.same eF ps vs⟩
 |bw ps=>obtain⟨b,vs,h1,h2,h3⟩:=h;exact⟨b,vs,h1,h2,h3.same eF ps vs⟩
 |rc C ns ps=>
  obtain⟨b,dx,fs,h1,h2,h3,h4,h5,h6⟩:=h
  obtain⟨e1,e2⟩:=eH b _ ⟨_,h1,rfl⟩ h2 h3 h4
  exact⟨b,dx,fs,h1,e1,e2,h4,h5,h6.1.same eF ps _,h6.2⟩
 |ot ps qs=>
  obtain⟨p,b,xs,vs,h1,h2,h3,h4,h5,h6,h7⟩:=h
  obtain⟨e1,e2⟩:=eH b _ ⟨_,h1,p,xs,rfl,h2⟩ h4 h5 h6
  exact⟨p,b,xs,vs,h1,eF _ _ h2,h3.same eF ps xs,e1,e2,h6,h7.same eF qs vs⟩
theorem aC.owned{s:Slot}{x:Option V}(h:aC K c F H x s)(hs:s.own=true):∃b u y,x=some y∧s.at_ F y b∧H b=some u∧F b=none∧c.B b=none:=by
 cases s with
 |no=>cases hs
 |sh p=>cases hs
 |bw ps=>cases hs
 |ow ps=>obtain⟨b,vs,h1,h2,h3,h4,h5⟩:=h;exact⟨b,_,_,h1,rfl,h2,h3,h4⟩
 |rc C ns ps=>obtain⟨b,dx,fs,h1,h2,h3,h4,h5,h6⟩:=h;exact⟨b,_,_,h1,rfl,h2,h3,h4⟩
 |ot ps qs=>obtain⟨p,b,xs,vs,h1,h2,h3,h4,h5,h6,h7⟩:=h;exact⟨b,_,_,h1,⟨p,xs,rfl,h2⟩,h4,h5,h6⟩
theorem dG{i:Nat}{x:V}(e:σ[i]?=some (some x)):(σ[i]?).getD none=some x:=by rw[e];rfl
theorem DR{i:Nat}{x:V}(e:(σ[i]?).getD none=some x):σ[i]?=some (some x):=by
 cases q:σ[i]? with
 |none=>rw[q] at e;cases e
 |some y=>rw[q] at e;exact congrArg some e
theorem Rel.owned(r:Rel K c F H σ ρ){i:Nat}(h:ř F σ ρ i a):(∃u,H a=some u)∧F a=none∧c.B a=none:=by
 obtain⟨s,x,h1,h2,h3⟩:=h
 obtain⟨b,u,y,e,q0,q⟩:=(r.slot i s h1).owned (gU h3)
 rw[dG h2] at e
 cases e
 cases lN h3 q0
 exact⟨⟨u,q.1⟩,q.2⟩
theorem Rel.back(r:Rel K c F H σ ρ)(e:Same F F'){i:Nat}(h:ř F' σ ρ i a):ř F σ ρ i a:=by
 obtain⟨s,x,h1,h2,h3⟩:=h
 obtain⟨b,u,y,e1,q0,q⟩:=(r.slot i s h1).owned (gU h3)
 rw[dG h2] at e1
 cases e1
 cases lN h3 (Mw e q0)
 exact⟨s,x,h1,h2,q0⟩
theorem Rel.T_(r:Rel K c F H σ ρ)(e:Same F F'):∀i j a,ř F' σ ρ i a→ř F' σ ρ j a→i=j:=fun i j a h1 h2=>r.sep i j a (r.back e h1) (r.back e h2)
theorem Rel.lO(r:Rel K c F H σ ρ)(e:Same F F')(h:jJ F σ ρ a):jJ F' σ ρ a:=fun i q=>h i (r.back e q)
theorem Rel.fresh(r:Rel K c F H σ ρ)(h:H a=none):jJ F σ ρ a:=fun i q=>by
 obtain⟨⟨u,e⟩,_⟩:=r.owned q
 rw[h] at e;cases e
theorem Rel.alloc(r:Rel K c F H σ ρ)(h:H a=none):Rel K c (upd F a o) (upd H a o) σ ρ where
 sub:=fun b u e=>by
  by_cases hb:b=a
  ·subst hb;rw[Ĳ] at e ⊢;exact e
  ·rw[Į hb] at e ⊢;exact r.sub b u e
 base:=fun b u e=>by
  have hb:b≠a:=fun z=>by rw[z] at e;rw[r.base _ _ e] at h;cases h
  rw[Į hb];exact r.base b u e
 f0:=fun b u e=>by
   have hb:b≠a:=fun z=>by rw[z] at e;rw[r.sub _ _ (r.f0 _ _ e)] at h;cases h
   rw[Į hb];exact r.f0 b u e
 cQ:=fun b h1 h2=>by
  have hb:b≠a:=fun z=>by
   subst z
   cases q:c.B b with
   |none=>exact h1 q
   |some u=>rw[r.base _ _ q] at h;cases h
  rw[Į hb];exact r.cQ b h1 h2
 lent:=fun b u e=>by
  obtain⟨h1,h2⟩:=r.lent b u e
  have hb:b≠a:=fun z=>by rw[z,h] at h1;cases h1
  rw[Į hb,Į hb];exact⟨h1,h2⟩
 lb:=r.lb
 len:=r.len
 slot:=fun i s e=>by
  have hF:F a=none:=r.sub.free h
  refine(r.slot i s e).grow (Same.upd hF) fun b u _ h1 h2 h3=>?_
  have hb:b≠a:=fun z=>by rw[z,h] at h1;cases h1
  rw[Į hb,Į hb];exact⟨h1,h2⟩
 sep:=r.T_ (Same.upd (r.sub.free h))
theorem Rel.made(r:Rel K c F H σ ρ)(h:H a=none):Rel K c F (upd H a o) σ ρ where
 sub:=r.sub.trans (Same.upd h)
 base:=r.base.trans (Same.upd h)
 f0:=r.f0
 cQ:=r.cQ
 lent:=fun b u e=>⟨Same.upd h b u (r.lent b u e).1,(r.lent b u e).2⟩
 lb:=r.lb
 len:=r.len
 slot:=fun i s e=>(r.slot i s e).grow (Same.refl F) fun b u _ h1 h2 h3=>⟨Same.upd h b u h1,h2⟩
 sep:=r.sep
theorem Rel.freeze(r:Rel K c F H σ ρ)(h:H a=some o)(hB:c.B a=none)(hF:F a=none)(hf:jJ F σ ρ a):Rel K c (upd F a o) H σ ρ where
 sub:=fun b u e=>by
  by_cases hb:b=a
  ·subst hb;rw[Ĳ] at e;rw[h];exact e
  ·rw[Į hb] at e;exact r.sub b u e
 base:=r.base
 f0:=r.f0.trans (Same.upd hF)
 cQ:=fun b h1 h2=>by
  have hb:b≠a:=fun z=>h1 (by rw[z];exact hB)
  rw[Į hb];exact r.cQ b h1 h2
 lent:=fun b u e=>by
  have hb:b≠a:=fun z=>by rw[z,r.lb a hB] at e;cases e
  rw[Į hb];exact r.lent b u e
 lb:=r.lb
 len:=r.len
 slot:=fun i s e=>(r.slot i s e).grow (Same.upd hF) fun b' u' ⟨y,e1',ha⟩ h1 h2 h3=>by
  have hb:b'≠a:=fun z=>by
   subst z
   exact hf i ⟨s,y,e,DR e1',ha⟩
  rw[Į hb];exact⟨h1,h2⟩
 sep:=r.T_ (Same.upd hF)
theorem bA{α:Type}{l:List α}{i j:Nat}{x y:α}(h:(l.set i x)[j]?=some y):(j=i∧y=x∧i<l.length)∨(j≠i∧l[j]?=some y):=by
 by_cases hj:j=i
 ·subst hj
  have hl:j<l.length:=by
   have:=(List.getElem?_eq_some_iff.mp h).1
   simpa using this
  rw[List.getElem?_set_self hl] at h
  exact .inl ⟨rfl,(Option.some.inj h).symm,hl⟩
 ·rw[List.getElem?_set_ne (Ne.symm hj)] at h
  exact .inr ⟨hj,h⟩
theorem DW{l:L2.St}{i:Nat}{x:Option V}(h:i<l.length):((l.set i x)[i]?).getD none=x:=by rw[List.getElem?_set_self h];rfl
theorem zB{l:L2.St}{i j:Nat}{x:Option V}(h:j≠i):((l.set i x)[j]?).getD none=(l[j]?).getD none:=by rw[List.getElem?_set_ne (Ne.symm h)]
theorem ř.off{i j:Nat}{x:Option V}{s:Slot}(h:ř F (σ.set i x) (ρ.set i s) j a)(hj:j≠i):ř F σ ρ j a:=by
 obtain⟨s',y,h1,h2,h3⟩:=h
 rw[List.getElem?_set_ne (Ne.symm hj)] at h1 h2
 exact⟨s',y,h1,h2,h3⟩
theorem Rel.put(r:Rel K c F H σ ρ){i:Nat}{x:Option V}{s:Slot}(hs:s.own=false)(h:aC K c F H x s):Rel K c F H (σ.set i x) (ρ.set i s) where
 sub:=r.sub
 base:=r.base
 f0:=r.f0
 cQ:=r.cQ
 lent:=r.lent
 lb:=r.lb
 len:=by simpa using r.len
 slot:=fun j s' e=>by
  rcases bA e with⟨rfl,rfl,hl⟩|⟨hj,e⟩
  ·rw[DW (by rw[r.len];exact hl)];exact h
  ·rw[zB hj];exact r.slot j s' e
 sep:=fun j k b h1 h2=>by
  have off:∀{j},ř F (σ.set i x) (ρ.set i s) j b→j≠i:=fun{j} q z=>by
   subst z
   obtain⟨s',y,q1,_,q2⟩:=q
   rcases bA q1 with⟨_,rfl,_⟩|⟨q,_⟩
   ·have:=gU q2;rw[hs] at this;cases this
   ·exact q rfl
  exact r.sep j k b (h1.off (off h1)) (h2.off (off h2))
theorem Rel.DX(r:Rel K c F H σ ρ){i:Nat}{s:Slot}(hs:s.own=false)(h:aC K c F H ((σ[i]?).getD none) s):Rel K c F H σ (ρ.set i s) where
 sub:=r.sub
 base:=r.base
 f0:=r.f0
 cQ:=r.cQ
 lent:=r.lent
 lb:=r.lb
 len:=by simpa using r.len
 slot:=fun j s' e=>by
  rcases bA e with⟨rfl,rfl,hl⟩|⟨hj,e⟩
  ·exact h
  ·exact r.slot j s' e
 sep:=fun j k b h1 h2=>by
  have off:∀{j},ř F σ (ρ.set i s) j b→ř F σ ρ j b:=fun{j} ⟨s',y,q1,q3,q2⟩=>by
   rcases bA q1 with⟨_,rfl,_⟩|⟨_,q⟩
   ·have:=gU q2;rw[hs] at this;cases this
   ·exact⟨s',y,q,q3,q2⟩
  exact r.sep j k b (off h1) (off h2)
theorem Rel.Mx(r:Rel K c F H σ ρ){i:Nat}{x:V}{s:Slot}(h:aC K c F H (some x) s)(ha:s.at_ F x a)(hf:jJ F σ ρ a):Rel K c F H (σ.set i (some x)) (ρ.set i s) where
 sub:=r.sub
 base:=r.base
 f0:=r.f0
 cQ:=r.cQ
 lent:=r.lent
 lb:=r.lb
 len:=by simpa using r.len
 slot:=fun j s' e=>by
  rcases bA e with⟨rfl,rfl,hl⟩|⟨hj,e⟩
  ·rw[DW (by rw[r.len];exact hl)];exact h
  ·rw[zB hj];exact r.slot j s' e
 sep:=fun j k b h1 h2=>by
  have Ua:∀{j},ř F (σ.set i (some x)) (ρ.set i s) j b→(j=i∧b=a)∨(j≠i∧ř F σ ρ j b∧b≠a):=fun{j} q=>by
   by_cases hj:j=i
   ·subst hj
    obtain⟨s',y,q1,q2,q3⟩:=q
    rcases bA q2 with⟨_,e,_⟩|⟨z,_⟩
    ·cases e
     rcases bA q1 with⟨_,e,_⟩|⟨z,_⟩
     ·cases e
      exact .inl ⟨rfl,lN q3 ha⟩
     ·exact absurd rfl z
    ·exact absurd rfl z
   ·exact .inr ⟨hj,q.off hj,fun z=>hf j (z▸q.off hj)⟩
  rcases Ua h1 with⟨e1,z1⟩|⟨e1,o1,z1⟩
  ·rcases Ua h2 with⟨e2,z2⟩|⟨e2,o2,z2⟩
   ·rw[e1,e2]
   ·exact absurd z1 z2
  ·rcases Ua h2 with⟨e2,z2⟩|⟨e2,o2,z2⟩
   ·exact absurd z2 z1
   ·exact r.sep j k b o1 o2
theorem Rel.DY(r:Rel K c F H σ ρ){i:Nat}{s:Slot}(ho:ř F σ ρ i a)(h:aC K c F (upd H a o) ((σ[i]?).getD none) s)(hs:∀x b,σ[i]?=some (some x)→s.at_ F x b→b=a):Rel K c F (upd H a o) σ (ρ.set i s) where
 sub:=fun b u e=>by
  have hb:b≠a:=fun z=>by rw[z,(r.owned ho).2.1] at e;cases e
  rw[Į hb];exact r.sub b u e
 base:=fun b u e=>by
  have hb:b≠a:=fun z=>by rw[z,(r.owned ho).2.2] at e;cases e
  rw[Į hb];exact r.base b u e
 f0:=r.f0
 cQ:=r.cQ
 lent:=fun b u e=>by
  have hb:b≠a:=fun z=>by rw[z,r.lb a (r.owned ho).2.2] at e;cases e
  rw[Į hb];exact r.lent b u e
 lb:=r.lb
 len:=by simpa using r.len
 slot:=fun j s' e=>by
  rcases bA e with⟨rfl,rfl,hl⟩|⟨hj,e⟩
  ·exact h
  ·refine(r.slot j s' e).grow (Same.refl F) fun b u ⟨y,e1,e2⟩ h1 h2 h3=>?_
   have hb:b≠a:=fun z=>by
    subst z
    exact hj (r.sep j i b ⟨s',y,e,DR e1,e2⟩ ho)
   exact⟨by rw[Į hb];exact h1,h2⟩
 sep:=fun j k b h1 h2=>by
  have off:∀{j},ř F σ (ρ.set i s) j b→ř F σ ρ j b:=fun{j} ⟨s',y,q1,q3,q2⟩=>by
   rcases bA q1 with⟨e,rfl,_⟩|⟨_,q⟩
   ·subst e
    rw[hs y b q3 q2]
    exact ho
   ·exact⟨s',y,q,q3,q2⟩
  exact r.sep j k b (off h1) (off h2)
theorem Rel.write(r:Rel K c F H σ ρ){i:Nat}{s:Slot}(ho:ř F σ ρ i a)(hx:σ[i]?=some (some (.ref a)))(h:aC K c F (upd H a o) (some (.ref a)) s)(hs:∀b,s.at_ F (.ref a) b→b=a):Rel K c F (upd H a o) σ (ρ.set i s):=
 r.DY ho (by rw[hx];exact h) fun x b e q=>by rw[hx] at e;cases e;exact hs b q
structure Gr(F H F' H':Hp):Prop where
 h:Same H H'
 f:Same F F'
 sub:Same F' H'
 out:∀a,H a≠none→F a=none→F' a=none
theorem Rel.call(r:Rel K c F H σ ρ)(g:Gr F H F' H'):Rel K c F' H' σ ρ where
 sub:=g.sub
 base:=r.base.trans g.h
 f0:=r.f0.trans g.f
 cQ:=fun b h1 h2=>by
  refine g.out b (fun z=>h1 ?_) (r.cQ b h1 h2)
  cases q:c.B b with
  |none=>rfl
  |some u=>rw[r.base _ _ q] at z;cases z
 lent:=fun b u e=>⟨g.h b u (r.lent b u e).1,g.out b (by rw[(r.lent b u e).1];intro z;cases z) (r.lent b u e).2⟩
 lb:=r.lb
 len:=r.len
 slot:=fun i s e=>(r.slot i s e).grow g.f fun b u _ h1 h2 h3=>⟨g.h b u h1,g.out b (by rw[h1];intro z;cases z) h2⟩
 sep:=r.T_ g.f
def ctx0(F H:Hp):Ctx:=⟨H,F,fun a=>match F a with
 |none=>H a
 |some _=>none,fun _ _ _=>True⟩
theorem eU{a:Addr}{u:HO}(h:(ctx0 F H).L a=some u):H a=some u∧F a=none:=by
 unfold ctx0 at h
 dsimp only at h
 cases q:F a with
 |none=>rw[q] at h;exact⟨h,rfl⟩
 |some o=>rw[q] at h;cases h
theorem Rel.gr(r:Rel K (ctx0 F H) F' H' σ ρ):Gr F H F' H':=⟨r.base,r.f0,r.sub,r.cQ⟩
def bW(K:KK)(F H:Hp):Slot→V→Prop
 | .sh p,v=>Rep K F p v
 | .bw ps,v=>∃a vs,v=.ref a∧H a=some (.lst vs)∧F a=none∧ġ K F ps vs
 |_,_=>False
theorem bW.slot{s:Slot}{v:V}(h:bW K F H s v):aC K (ctx0 F H) F H (some v) s∧s.own=false:=by
 cases s with
 |sh p=>exact⟨⟨v,rfl,h⟩,rfl⟩
 |bw ps=>
  obtain⟨a,vs,rfl,h1,h2,h3⟩:=h
  refine⟨⟨a,vs,rfl,?_,h3⟩,rfl⟩
  show(match F a with|none=>H a|some _=>none)=_
  rw[h2]
  exact h1
 |no=>exact h.elim
 |ow ps=>exact h.elim
 |rc C ns ps=>exact h.elim
 |ot ps qs=>exact h.elim
def startP(n:Nat)(as:List Slot):Ő:=as++List.replicate (n-as.length) .no
theorem Rel.start{N:List Str}{as:List Slot}{vs:List V}(s:Same F H)(h:Paired (bW K F H) as vs):Rel K (ctx0 F H) F H (L2.start N vs) (startP N.length as) where
 sub:=s
 base:=Same.refl H
 f0:=Same.refl F
 cQ:=fun _ _ h=>h
 lent:=fun _ _ e=>eU e
 lb:=fun a e=>by
   cases q:(ctx0 F H).L a with
   |none=>rfl
   |some u=>
    have e':H a=none:=e
    rw[(eU q).1] at e'
    cases e'
 len:=by unfold L2.start startP;simp[Paired.length h]
 slot:=fun i s' e=>by
  unfold startP at e
  by_cases hi:i<as.length
  ·rw[List.getElem?_append_left hi] at e
   obtain⟨v,h1,h2⟩:=bV h e
   have hv:((L2.start N vs)[i]?).getD none=some v:=by
    unfold L2.start
    rw[List.getElem?_append_left (by simpa[←Paired.length h] using hi),List.getElem?_map,h1];rfl
   rw[hv]
   exact(bW.slot h2).1
  ·rw[List.getElem?_append_right (by omega),List.getElem?_replicate] at e
   split at e
   ·cases e;trivial
   ·cases e
 sep:=fun i j a h1 _=>by
  obtain⟨s',y,h1,_,h2⟩:=h1
  have h2:=gU h2
  exfalso
  unfold startP at h1
  by_cases hi:i<as.length
  ·rw[List.getElem?_append_left hi] at h1
   obtain⟨v,_,h3⟩:=bV h h1
   rw[(bW.slot h3).2] at h2
   cases h2
  ·rw[List.getElem?_append_right (by omega),List.getElem?_replicate] at h1
   split at h1
   ·cases h1;cases h2
   ·cases h1
end
structure PX where
 C:String
 ns:List Str
 ps:List PV
def Mz(K:KK)(F:Hp)(x:PX)(C:Value)(d:Option Addr):Prop:=C=.ref (K.cm x.C)∧∃fs,pD F d fs∧fs.map (·.1)=x.ns∧ġ K F x.ps (fs.map (·.2))
inductive Res(α:Type) where
 |ok (a:α) (ρ:Ő)|exc (x:PX) (ρ:Ő)|bad
def Res.bind{α β:Type}(r:Res α)(f:α→Ő→Res β):Res β:= match r with
 | .ok a ρ=>f a ρ
 | .exc x ρ=>.exc x ρ
 | .bad=>.bad
@[simp] theorem Res.ż{α β:Type}{a:α}{ρ:Ő}{f:α→Ő→Res β}:(Res.ok a ρ).bind f=f a ρ:= rfl
@[simp] theorem Res.ZaC{α β:Type}{x:PX}{ρ:Ő}{f:α→Ő→Res β}:(Res.exc x ρ:Res α).bind f=.exc x ρ:= rfl
@[simp] theorem Res.ZaD{α β:Type}{f:α→Ő→Res β}:(Res.bad:Res α).bind f=.bad:=rfl
def Res.lA{α:Type}(o:Option α)(ρ:Ő):Res α:= match o with
 |some a=>.ok a ρ
 |none=>.bad
@[simp] theorem Res.ZaE{α:Type}{a:α}{ρ:Ő}:Res.lA (some a) ρ=.ok a ρ:= rfl
@[simp] theorem Res.ZaF{α:Type}{ρ:Ő}:Res.lA (none:Option α) ρ=.bad:=rfl
abbrev M(α:Type):=Ő→Res α
inductive RV where
 |sh (p:PV)|ow (ps:List PV)|ot (ps qs:List PV)
def RV.val:RV→PV
 | .sh p=>p
 | .ow ps=>.lst ps
 | .ot ps qs=>.tup (ps ++ [.lst qs])
def RV.slot:RV→Slot
 | .sh p=>.sh p
 | .ow ps=>.ow ps
 | .ot ps qs=>.ot ps qs
abbrev RR(α β:Type):=Ctx→L2.St→Ő→Hp→Hp→α→β→Prop
def rV(K:KK):RR PV V:=fun _ _ _ F _ p v=>Rep K F p v
def zE(K:KK)(F H:Hp)(p:PV)(v:V):Prop:=match p with
 | .lst ps=>∃a vs,v=.ref a∧H a=some (.lst vs)∧ġ K F ps vs
 | .ins C ns ps=>∃a dx fs,v=.ref a∧H a=some (.ins (K.cm C) dx fs)∧fs.map (·.1)=ns∧ġ K F ps (fs.map (·.2))
 |_=>False
def rR(K:KK):RR PV V:=fun _ _ _ F H p v=>Rep K F p v∨zE K F H p v
def rA(K:KK):RR (List Slot) (List V):=fun _ _ _ F H as vs=>Paired (bW K F H) as vs
def Held(K:KK)(c:Ctx)(σ:L2.St)(ρ:Ő)(F H:Hp)(ps:List PV)(v:V):Prop:=∃a vs,v=.ref a∧H a=some (.lst vs)∧F a=none∧c.B a=none∧jJ F σ ρ a∧ġ K F ps vs
def zF(K:KK)(c:Ctx)(σ:L2.St)(ρ:Ő)(F H:Hp)(ps qs:List PV)(v:V):Prop:=∃p a xs vs,v=.ref p∧F p=some (.tup (xs ++ [.ref a]))∧ġ K F ps xs∧H a=some (.lst vs)∧F a=none∧c.B a=none∧jJ F σ ρ a∧ġ K F qs vs
def rO(K:KK):RR RV V:=fun c σ ρ F H r v=>match r with
 | .sh p=>Rep K F p v
 | .ow ps=>Held K c σ ρ F H ps v
 | .ot ps qs=>zF K c σ ρ F H ps qs v
def rL(K:KK):RR (List PV) (List V):=fun _ _ _ F _ p v=>ġ K F p v
def rRL(K:KK):RR (List PV) (List V):=fun c σ ρ F H p v=>Paired (rR K c σ ρ F H) p v
def rB:RR Bool Bool:=fun _ _ _ _ _ p v=>p=v
def rI:RR (Option Int) (Option Int):=fun _ _ _ _ _ p v=>p=v
def aZ{α β:Type}(K:KK)(E:L2.St→XK)(R:RR α β)(c:Ctx)(F H:Hp)(σ:L2.St)(Q:β→Hp→Prop):Res α→Prop
 | .ok p ρ'=>∀v F' H',Rel K c F' H' σ ρ'→Same F F'→Same H H'→R c σ ρ' F' H' p v→Q v H'
 | .exc x ρ'=>∀C d F' H',Rel K c F' H' σ ρ'→Same F F'→Mz K F' x C d→E σ C d H'
 | .bad=>False
def tG{α β:Type}(K:KK)(E:L2.St→XK)(R:RR α β)(m:M α):L2.St→Hp→(β→Hp→Prop)→Prop:=fun σ H Q=>∃c F ρ,Rel K c F H σ ρ∧aZ K E R c F H σ Q (m ρ)
section
variable{α β α' β':Type}{K:KK}{E:L2.St→XK}{R:RR α β}{R':RR α' β'}{c:Ctx}{F F1 H H1:Hp}{σ:L2.St}
theorem aZ.mono{Q:β→Hp→Prop}{r:Res α}(h:aZ K E R c F H σ Q r)(sF:Same F F1)(sH:Same H H1):aZ K E R c F1 H1 σ Q r:=by
 cases r with
 |ok p ρ'=>exact fun v F' H' rel s1 s2 q=>h v F' H' rel (sF.trans s1) (sH.trans s2) q
 |exc x ρ'=>exact fun C d F' H' rel s1 q=>h C d F' H' rel (sF.trans s1) q
 |bad=>exact h
theorem aZ.bind{Q:β→Hp→Prop}{Q':β'→Hp→Prop}{r:Res α}{f:α→Ő→Res α'}(h:aZ K E R' c F H σ Q' (r.bind f))
 (k:∀p ρ1 v F1 H1,Rel K c F1 H1 σ ρ1→Same F F1→Same H H1→R c σ ρ1 F1 H1 p v→aZ K E R' c F1 H1 σ Q' (f p ρ1)→Q v H1):aZ K E R c F H σ Q r:=by
 cases r with
 |ok p ρ'=>exact fun v F' H' rel s1 s2 q=>k p ρ' v F' H' rel s1 s2 q (aZ.mono (show aZ K E R' c F H σ Q' (f p ρ') from h) s1 s2)
 |exc x ρ'=>exact h
 |bad=>exact h
theorem aZ.rel{R2:RR α β}{Q:β→Hp→Prop}{r:Res α}(h:aZ K E R c F H σ Q r)(k:∀p ρ' v F' H',Rel K c F' H' σ ρ'→R2 c σ ρ' F' H' p v→R c σ ρ' F' H' p v):aZ K E R2 c F H σ Q r:=by
 cases r with
 |ok p ρ'=>exact fun v F' H' rel s1 s2 q=>h v F' H' rel s1 s2 (k p ρ' v F' H' rel q)
 |exc x ρ'=>exact h
 |bad=>exact h
end
abbrev tV(K:KK)(E:L2.St→XK)(m:M PV):TE:=tG K E (rV K) m
abbrev tR(K:KK)(E:L2.St→XK)(m:M PV):TE:=tG K E (rR K) m
abbrev tO(K:KK)(E:L2.St→XK)(m:M RV):TE:=tG K E (rO K) m
abbrev tL(K:KK)(E:L2.St→XK)(m:M (List PV)):TA:=tG K E (rL K) m
abbrev tA(K:KK)(E:L2.St→XK)(m:M (List Slot)):TA:=tG K E (rA K) m
abbrev tRL(K:KK)(E:L2.St→XK)(m:M (List PV)):TA:=tG K E (rRL K) m
abbrev tB(K:KK)(E:L2.St→XK)(m:M Bool):TT:=tG K E rB m
inductive Fl where
 |nx|bk|ct|rt (r:RV)
def Ž(K:KK)(E:L2.St→XK)(c:Ctx)(F:Hp)(D:Ends):Res Fl→Prop
 | .ok .nx ρ'=>∀σ' F' H',Rel K c F' H' σ' ρ'→Same F F'→D.nx σ' H'
 | .ok .bk ρ'=>∀σ' F' H',Rel K c F' H' σ' ρ'→Same F F'→D.bk σ' H'
 | .ok .ct ρ'=>∀σ' F' H',Rel K c F' H' σ' ρ'→Same F F'→D.ct σ' H'
 | .ok (.rt r) ρ'=>∀v σ' F' H',Rel K c F' H' σ' ρ'→Same F F'→rO K c σ' ρ' F' H' r v→D.rt v H'
 | .exc x ρ'=>∀σ' C d F' H',Rel K c F' H' σ' ρ'→Same F F'→Mz K F' x C d→E σ' C d H'
 | .bad=>False
def tS(K:KK)(E:L2.St→XK)(m:M Fl):TS:=fun D σ H=>∃c F ρ,Rel K c F H σ ρ∧Ž K E c F D (m ρ)
section
variable{K:KK}{E:L2.St→XK}{c:Ctx}{F F1:Hp}{D:Ends}
theorem Ž.mono{r:Res Fl}(h:Ž K E c F D r)(sF:Same F F1):Ž K E c F1 D r:=by
 cases r with
 |ok f ρ'=>
  cases f with
  |rt v=>exact fun v σ' F' H' rel s1 q=>h v σ' F' H' rel (sF.trans s1) q
  |nx=>exact fun σ' F' H' rel s1=>h σ' F' H' rel (sF.trans s1)
  |bk=>exact fun σ' F' H' rel s1=>h σ' F' H' rel (sF.trans s1)
  |ct=>exact fun σ' F' H' rel s1=>h σ' F' H' rel (sF.trans s1)
 |exc x ρ'=>exact fun σ' C d F' H' rel s1 q=>h σ' C d F' H' rel (sF.trans s1) q
 |bad=>exact h
theorem Ž.bind{α β:Type}{R:RR α β}{σ:L2.St}{H:Hp}{Q:β→Hp→Prop}{r:Res α}{f:α→Ő→Res Fl}(h:Ž K E c F D (r.bind f))
 (k:∀p ρ1 v F1 H1,Rel K c F1 H1 σ ρ1→Same F F1→R c σ ρ1 F1 H1 p v→Ž K E c F1 D (f p ρ1)→Q v H1):aZ K E R c F H σ Q r:=by
 cases r with
 |ok p ρ'=>exact fun v F' H' rel s1 s2 q=>k p ρ' v F' H' rel s1 q (Ž.mono (show Ž K E c F D (f p ρ') from h) s1)
 |exc x ρ'=>exact fun C d F' H' rel s1 q=>h σ C d F' H' rel s1 q
 |bad=>exact h
end
end P
namespace P
open PySem PySem.Spec PyProof.Rows L2 M2
def đ(i:Nat):M PV:=fun ρ=>match ρ[i]? with
 |some (.sh p)=>.ok p ρ
 |some (.ow ps)=>.ok (.lst ps) (ρ.set i (.sh (.lst ps)))
 |_=>.bad
def ā(i:Nat):M PV:=fun ρ=>match ρ[i]? with
 |some (.sh p)=>.ok p ρ
 |some (.ow ps)=>.ok (.lst ps) ρ
 |some (.bw ps)=>.ok (.lst ps) ρ
 |some (.rc C ns ps)=>.ok (.ins C ns ps) ρ
 |_=>.bad
def gF(i:Nat):M RV:=fun ρ=>match ρ[i]? with
 |some (.sh p)=>.ok (.sh p) ρ
 |some (.ow ps)=>.ok (.ow ps) (ρ.set i .no)
 |_=>.bad
def mC(p:PV):M PV:=fun ρ=>.ok p ρ
def Š(m:M PV):M RV:=fun ρ=>(m ρ).bind fun p ρ1=>.ok (.sh p) ρ1
def Ě(m:M RV):M PV:=fun ρ=>(m ρ).bind fun r ρ1=>.ok r.val ρ1
section
variable{K:KK}{c:Ctx}{F H:Hp}{σ:L2.St}{ρ:Ő}
theorem at_of{i:Nat}{x:V}(h:(σ[i]?).getD none=some x):σ[i]?=some (some x):=by
 cases q:σ[i]? with
 |none=>rw[q] at h;cases h
 |some y=>rw[q] at h;exact congrArg some h
theorem Rel.ow(r:Rel K c F H σ ρ){i:Nat}{ps:List PV}(e:ρ[i]?=some (.ow ps)):∃a vs,σ[i]?=some (some (.ref a))∧H a=some (.lst vs)∧F a=none∧c.B a=none∧ġ K F ps vs∧ř F σ ρ i a:=by
 obtain⟨a,vs,h1,h2,h3,h4,h5⟩:=r.slot i _ e
 exact⟨a,vs,at_of h1,h2,h3,h4,h5,⟨_,_,e,at_of h1,rfl⟩⟩
theorem Rel.move(r:Rel K c F H σ ρ){i:Nat}{a:Addr}(h:ř F σ ρ i a):Rel K c F H σ (ρ.set i .no)∧jJ F σ (ρ.set i .no) a:=by
 refine⟨r.DX rfl trivial,fun j ⟨s,y,q1,q3,q2⟩=>?_⟩
 rcases bA q1 with⟨_,rfl,_⟩|⟨hj,q⟩
 ·exact q2.elim
 ·exact hj (r.sep j i a ⟨s,y,q,q3,q2⟩ h)
theorem Rel.share(r:Rel K c F H σ ρ){i:Nat}{ps:List PV}(e:ρ[i]?=some (.ow ps)):∃a vs,σ[i]?=some (some (.ref a))∧F a=none∧Rep K (upd F a (.lst vs)) (.lst ps) (.ref a)∧Rel K c (upd F a (.lst vs)) H σ (ρ.set i (.sh (.lst ps))):=by
 obtain⟨a,vs,h1,h2,h3,h4,h5,ho⟩:=r.ow e
 obtain⟨m1,m2⟩:=r.move ho
 have rp:Rep K (upd F a (.lst vs)) (.lst ps) (.ref a):=by
  unfold Rep
  exact⟨a,vs,rfl,aB.of Ĳ,h5.same (Same.upd h3) ps vs⟩
 have q:=(m1.freeze h2 h4 h3 m2).DX (i:=i) (s:=.sh (.lst ps)) rfl (show aC K c _ H _ (.sh (.lst ps)) from⟨.ref a,by rw[h1];rfl,rp⟩)
 rw[List.set_set] at q
 exact⟨a,vs,h1,h3,rp,q⟩
theorem zE.mono{F1 H1:Hp}{p:PV}{v:V}(h:zE K F H p v)(sF:Same F F1)(sH:Same H H1):zE K F1 H1 p v:=by
 cases p with
 |lst ps=>
  obtain⟨a,vs,h2,h3,h4⟩:=h
  exact⟨a,vs,h2,sH _ _ h3,h4.same sF ps vs⟩
 |ins C ns ps=>
  obtain⟨a,dx,fs,h2,h3,h4,h5⟩:=h
  exact⟨a,dx,fs,h2,sH _ _ h3,h4,h5.same sF ps _⟩
 |_=>exact h.elim
theorem rR.mono{c:Ctx}{σ:L2.St}{ρ ρ':Ő}{F1 H1:Hp}{p:PV}{v:V}(h:rR K c σ ρ F H p v)(sF:Same F F1)(sH:Same H H1):rR K c σ ρ' F1 H1 p v:=by
 rcases h with h|h
 ·exact .inl (h.same sF p v)
 ·exact .inr (h.mono sF sH)
theorem rR.lst{c:Ctx}{σ:L2.St}{ρ:Ő}{ps:List PV}{v:V}(s:Same F H)(h:rR K c σ ρ F H (.lst ps) v):∃a vs,v=.ref a∧aB K.K H a vs∧ġ K F ps vs:=by
 rcases h with h|⟨a,vs,h2,h3,h4⟩
 ·unfold Rep at h
  obtain⟨a,xs,h1,h2,h3⟩:=h
  exact⟨a,xs,h1,s.seq h2,h3⟩
 ·exact⟨a,vs,h2,aB.of h3,h4⟩
theorem rR.tup{c:Ctx}{σ:L2.St}{ρ:Ő}{ps:List PV}{v:V}(s:Same F H)(h:rR K c σ ρ F H (.tup ps) v):∃a vs,v=.ref a∧cF K.K H a vs∧ġ K F ps vs:=by
 rcases h with h|h
 ·unfold Rep at h
  obtain⟨a,xs,h1,h2,h3⟩:=h
  exact⟨a,xs,h1,Same.tup s h2,h3⟩
 ·exact h.elim
theorem rR.int{c:Ctx}{σ:L2.St}{ρ:Ő}{i:Int}{v:V}(h:rR K c σ ρ F H (.int i) v):v=.int i:=by
 rcases h with h|h
 ·unfold Rep at h;exact h
 ·exact h.elim
theorem rR.str{c:Ctx}{σ:L2.St}{ρ:Ő}{i:Str}{v:V}(h:rR K c σ ρ F H (.str i) v):v=.str i:=by
 rcases h with h|h
 ·unfold Rep at h;exact h
 ·exact h.elim
theorem rR.bl{c:Ctx}{σ:L2.St}{ρ:Ő}{i:Bool}{v:V}(h:rR K c σ ρ F H (.bl i) v):v=.bl i:=by
 rcases h with h|h
 ·unfold Rep at h;exact h
 ·exact h.elim
theorem rR.non{c:Ctx}{σ:L2.St}{ρ:Ő}{v:V}(h:rR K c σ ρ F H .non v):v=.non:=by
 rcases h with h|h
 ·unfold Rep at h;exact h
 ·exact h.elim
theorem rR.ty{c:Ctx}{σ:L2.St}{ρ:Ő}{n:String}{v:V}(h:rR K c σ ρ F H (.ty n) v):v=.ty n:=by
 rcases h with h|h
 ·unfold Rep at h;exact h
 ·exact h.elim
theorem Rep.int{i:Int}:Rep K F (.int i) (.int i):=by unfold Rep;rfl
theorem Rep.str{i:Str}:Rep K F (.str i) (.str i):=by unfold Rep;rfl
theorem Rep.bl{i:Bool}:Rep K F (.bl i) (.bl i):=by unfold Rep;rfl
theorem Rep.non:Rep K F .non .non:=by unfold Rep;rfl
end
section
variable{X:Cx}{cm:String→Addr}{E:L2.St→XK}{a b e:Expr}{es:List Expr}{pos:Pos}{m ma mb mc:M PV}{mo:M RV}
theorem PT.wk{t t':TT}(h:PT X e t)(i:∀σ H Q,t' σ H Q→t σ H Q):PT X e t':=fun pins s σ H Q I q=>h pins s σ H Q I (i σ H Q q)
theorem PA.wk{t t':TA}(h:PA X es t)(i:∀σ H Q,t' σ H Q→t σ H Q):PA X es t':=fun pos pins s σ H Q I q=>h pos pins s σ H Q I (i σ H Q q)
theorem PW.wk{t t':TT}(h:PW X e t)(i:∀σ H Q,t' σ H Q→t σ H Q):PW X e t':=fun wh pins s σ H Q I q=>h wh pins s σ H Q I (i σ H Q q)
theorem kh.wk{st:List Stmt}{t t':TS}(h:kh X st t)(i:∀D σ H,t' D σ H→t D σ H):kh X st t':=fun pins s σ H D I q=>h pins s σ H D I (i D σ H q)
theorem v_var(i:Nat){x:Str}{pos:Pos}(hN:X.N[i]?=some x:=by rfl)(hv:Cw X.env.scope x:=by first|exact Or.inl rfl|exact Or.inr (Or.inl rfl)|exact Or.inr (Or.inr rfl))(hd:(x== ("__debug__" :Str))=false:=by decide)
 (hcd:(x== ("__classdict__" :Str))=false:=by decide):PE X (.Name x pos) (tV (kk X cm) E (đ i)):=PE.wk (eE hN hv hd hcd) fun σ H Q ⟨c,F,ρ,rel,h⟩=>by
 unfold đ at h
 split at h
 ·rename_i p e
  obtain⟨v,h1,h2⟩:=rel.slot i _ e
  exact⟨v,at_of h1,h v F H rel (Same.refl F) (Same.refl H) h2⟩
 ·rename_i ps e
  obtain⟨a,vs,h1,h2,h3,h4⟩:=rel.share e
  exact⟨.ref a,h1,h _ _ H h4 (Same.upd h2) (Same.refl H) h3⟩
 ·exact h.elim
theorem Ă(i:Nat){x:Str}{pos:Pos}(hN:X.N[i]?=some x:=by rfl)(hv:Cw X.env.scope x:=by first|exact Or.inl rfl|exact Or.inr (Or.inl rfl)|exact Or.inr (Or.inr rfl))(hd:(x== ("__debug__" :Str))=false:=by decide)
 (hcd:(x== ("__classdict__" :Str))=false:=by decide):PE X (.Name x pos) (tR (kk X cm) E (ā i)):=PE.wk (eE hN hv hd hcd) fun σ H Q ⟨c,F,ρ,rel,h⟩=>by
 unfold ā at h
 split at h
 ·rename_i p e
  obtain⟨v,h1,h2⟩:=rel.slot i _ e
  exact⟨v,at_of h1,h v F H rel (Same.refl F) (Same.refl H) (.inl h2)⟩
 ·rename_i ps e
  obtain⟨a,vs,h1,h2,h3,h4,h5,_⟩:=rel.ow e
  exact⟨.ref a,h1,h _ F H rel (Same.refl F) (Same.refl H) (.inr ⟨a,vs,rfl,h2,h5⟩)⟩
 ·rename_i ps e
  obtain⟨a,vs,h1,h2,h3⟩:=rel.slot i _ e
  exact⟨.ref a,at_of h1,h _ F H rel (Same.refl F) (Same.refl H) (.inr ⟨a,vs,rfl,(rel.lent a _ h2).1,h3⟩)⟩
 ·rename_i C ns ps e
  obtain⟨a,dx,fs,h1,h2,h3,h4,h5,h6⟩:=rel.slot i _ e
  exact⟨.ref a,at_of h1,h _ F H rel (Same.refl F) (Same.refl H) (.inr ⟨a,dx,fs,rfl,h2,h5,h6.1⟩)⟩
 ·exact h.elim
theorem lQ(i:Nat){x:Str}{pos:Pos}(hN:X.N[i]?=some x:=by rfl)(hv:Cw X.env.scope x:=by first|exact Or.inl rfl|exact Or.inr (Or.inl rfl)|exact Or.inr (Or.inr rfl))(hd:(x== ("__debug__" :Str))=false:=by decide)
 (hcd:(x== ("__classdict__" :Str))=false:=by decide):PE X (.Name x pos) (tO (kk X cm) E (gF i)):=PE.wk (eE hN hv hd hcd) fun σ H Q ⟨c,F,ρ,rel,h⟩=>by
 unfold gF at h
 split at h
 ·rename_i p e
  obtain⟨v,h1,h2⟩:=rel.slot i _ e
  exact⟨v,at_of h1,h v F H rel (Same.refl F) (Same.refl H) h2⟩
 ·rename_i ps e
  obtain⟨a,vs,h1,h2,h3,h4,h5,h6⟩:=rel.ow e
  obtain⟨m1,m2⟩:=rel.move h6
  exact⟨.ref a,h1,h _ F H m1 (Same.refl F) (Same.refl H) ⟨a,vs,rfl,h2,h3,h4,m2,h5⟩⟩
 ·exact h.elim
theorem tD{v:V}(p:PV)(h:PE X e (tC v))(hr:∀F,Rep (kk X cm) F p v:=by intro _;unfold Rep;rfl):PE X e (tV (kk X cm) E (mC p)):=PE.wk h fun σ H Q ⟨c,F,ρ,rel,h⟩=>h v F H rel (Same.refl F) (Same.refl H) (hr F)
theorem ă{i j pos}:PE X (.Constant (.int i) j pos) (tV (kk X cm) E (mC (.int i))):=tD _ Cy
theorem gW{i j pos}:PE X (.Constant (.bool i) j pos) (tV (kk X cm) E (mC (.bl i))):=tD _ Zac
theorem Pu{j pos}:PE X (.Constant .none j pos) (tV (kk X cm) E (mC .non)):=tD _ Rz
theorem š{x j pos}:PE X (.Constant (.str x) j pos) (tV (kk X cm) E (mC (.str x))):=tD _ RD
theorem Ā(h:PE X e (tV (kk X cm) E m)):PE X e (tR (kk X cm) E m):=PE.wk h fun σ H Q ⟨c,F,ρ,rel,h⟩=>⟨c,F,ρ,rel,h.rel fun _ _ _ _ _ _ q=>.inl q⟩
theorem Ķ(h:PE X e (tV (kk X cm) E m)):PE X e (tO (kk X cm) E (Š m)):=PE.wk h fun σ H Q ⟨c,F,ρ,rel,h⟩=>⟨c,F,ρ,rel,h.bind fun p ρ1 v F1 H1 Ģ s1 s2 q h1=>h1 v F1 H1 Ģ (Same.refl _) (Same.refl _) q⟩
theorem Held.share{K:KK}{c:Ctx}{F H:Hp}{σ:L2.St}{ρ:Ő}{ps:List PV}{v:V}(rel:Rel K c F H σ ρ)(h:Held K c σ ρ F H ps v):∃F1,Same F F1∧Rel K c F1 H σ ρ∧Rep K F1 (.lst ps) v:=by
 obtain⟨a,vs,rfl,h1,h2,h3,h4,h5⟩:=h
 refine⟨_,Same.upd h2,rel.freeze h1 h3 h2 h4,?_⟩
 unfold Rep
 exact⟨a,vs,rfl,aB.of Ĳ,h5.same (Same.upd h2) ps vs⟩
theorem zF.share{K:KK}{c:Ctx}{F H:Hp}{σ:L2.St}{ρ:Ő}{ps qs:List PV}{v:V}(rel:Rel K c F H σ ρ)(h:zF K c σ ρ F H ps qs v):∃F1,Same F F1∧Rel K c F1 H σ ρ∧Rep K F1 (.tup (ps ++ [.lst qs])) v:=by
 obtain⟨p,a,xs,vs,rfl,h0,hx,h1,h2,h3,h4,h5⟩:=h
 refine⟨_,Same.upd h2,rel.freeze h1 h3 h2 h4,?_⟩
 have ra:Rep K (upd F a (.lst vs)) (.lst qs) (.ref a):=by
  unfold Rep
  exact⟨a,vs,rfl,aB.of Ĳ,h5.same (Same.upd h2) qs vs⟩
 unfold Rep
 exact⟨p,_,rfl,cF.of (Same.upd h2 _ _ h0),ġ.append (hx.same (Same.upd h2) ps xs) (ġ.cons ra ġ.nil)⟩
theorem ĥ(h:PE X e (tO (kk X cm) E mo)):PE X e (tV (kk X cm) E (Ě mo)):=PE.wk h fun σ H Q ⟨c,F,ρ,rel,h⟩=>⟨c,F,ρ,rel,h.bind fun r ρ1 v F1 H1 Ģ s1 s2 q h1=>by
 cases r with
 |sh p=>exact h1 v F1 H1 Ģ (Same.refl _) (Same.refl _) q
 |ow ps=>
  obtain⟨F2,s3,ń,rp⟩:=Held.share Ģ q
  exact h1 v F2 H1 ń s3 (Same.refl _) rp
 |ot ps qs=>
  obtain⟨F2,s3,ń,rp⟩:=zF.share Ģ q
  exact h1 v F2 H1 ń s3 (Same.refl _) rp⟩
def Ć(f:PV→PV→Option PV)(ma mb:M PV):M PV:=fun ρ=>(ma ρ).bind fun p ρ1=>(mb ρ1).bind fun q ρ2=>Res.lA (f p q) ρ2
def Ľ(f:PV→PV→Option RV)(ma mb:M PV):M RV:=fun ρ=>(ma ρ).bind fun p ρ1=>(mb ρ1).bind fun q ρ2=>Res.lA (f p q) ρ2
def kE(K:KK)(r:R2)(f:PV→PV→Option PV):Prop:=∀{c:Ctx} {F H:Hp} {σ:L2.St} {ρ:Ő} {p q pv:PV} {v u:V} {Q:VK},Rel K c F H σ ρ→rR K c σ ρ F H p v→rR K c σ ρ F H q u→f p q=some pv→
 (∀z F' H',Rel K c F' H' σ ρ→Same F F'→Same H H'→Rep K F' pv z→Q z H')→r v u H Q
def OpO(K:KK)(r:R2)(f:PV→PV→Option RV):Prop:=∀{c:Ctx} {F H:Hp} {σ:L2.St} {ρ:Ő} {p q:PV} {pv:RV} {v u:V} {Q:VK},Rel K c F H σ ρ→rR K c σ ρ F H p v→rR K c σ ρ F H q u→f p q=some pv→
 (∀z F' H',Rel K c F' H' σ ρ→Same F F'→Same H H'→rO K c σ ρ F' H' pv z→Q z H')→r v u H Q
theorem zG{r:R2}{f:PV→PV→Option PV}(hf:kE (kk X cm) r f){σ:L2.St}{H:Hp}{Q:VK}(h:tV (kk X cm) E (Ć f ma mb) σ H Q):Sd r (tR (kk X cm) E ma) (tR (kk X cm) E mb) σ H Q:=by
 obtain⟨c,F,ρ,rel,h⟩:=h
 refine⟨c,F,ρ,rel,h.bind fun p ρ1 v F1 H1 Ģ _ _ r1 h1=>⟨c,F1,ρ1,Ģ,h1.bind fun q ρ2 u F2 H2 ń sF sH r2 h2=>?_⟩⟩
 cases e:f p q with
 |none=>rw[e] at h2;exact h2.elim
 |some pv=>rw[e] at h2;exact hf ń (r1.mono sF sH) r2 e fun z F' H' aK s1 s2 q'=>h2 z F' H' aK s1 s2 q'
theorem ZaG{r:R2}{f:PV→PV→Option RV}(hf:OpO (kk X cm) r f){σ:L2.St}{H:Hp}{Q:VK}(h:tO (kk X cm) E (Ľ f ma mb) σ H Q):Sd r (tR (kk X cm) E ma) (tR (kk X cm) E mb) σ H Q:=by
 obtain⟨c,F,ρ,rel,h⟩:=h
 refine⟨c,F,ρ,rel,h.bind fun p ρ1 v F1 H1 Ģ _ _ r1 h1=>⟨c,F1,ρ1,Ģ,h1.bind fun q ρ2 u F2 H2 ń sF sH r2 h2=>?_⟩⟩
 cases e:f p q with
 |none=>rw[e] at h2;exact h2.elim
 |some pv=>rw[e] at h2;exact hf ń (r1.mono sF sH) r2 e fun z F' H' aK s1 s2 q'=>h2 z F' H' aK s1 s2 q'
theorem Ď{op:Operator}{r:R2}{f:PV→PV→Option PV}(hf:kE (kk X cm) r f)(ho:aY X (binaryOp op) r)(ha:PE X a (tR (kk X cm) E ma))(hb:PE X b (tR (kk X cm) E mb)):PE X (.BinOp a op b pos) (tV (kk X cm) E (Ć f ma mb)):=PE.wk (Pj ho ha hb) fun _ _ _ h=>zG hf h
theorem ł{op:Operator}{r:R2}{f:PV→PV→Option RV}(hf:OpO (kk X cm) r f)(ho:aY X (binaryOp op) r)(ha:PE X a (tR (kk X cm) E ma))(hb:PE X b (tR (kk X cm) E mb)):PE X (.BinOp a op b pos) (tO (kk X cm) E (Ľ f ma mb)):=PE.wk (Pj ho ha hb) fun _ _ _ h=>ZaG hf h
theorem bY{op:CmpOp}{r:R2}{f:PV→PV→Option PV}(hf:kE (kk X cm) r f)(ho:aY X (compareOp op) r)(ha:PE X a (tR (kk X cm) E ma))(hb:PE X b (tR (kk X cm) E mb))(hm:behindInMarks op b=false):PE X (.Compare a [op] [b] pos) (tV (kk X cm) E (Ć f ma mb)):=
 PE.wk (LC ho ha hb hm) fun _ _ _ h=>zG hf h
theorem Ĩ{r:R2}{f:PV→PV→Option PV}(hf:kE (kk X cm) r f)(hr:wK X r)(ha:PE X a (tR (kk X cm) E ma))(hb:PE X b (tR (kk X cm) E mb))(hs:zm b):PE X (.Subscript a b pos) (tV (kk X cm) E (Ć f ma mb)):=
 PE.wk (Pq hr ha hb hs) fun _ _ _ h=>zG hf h
def vW(f:PV→Option PV)(ma:M PV):M PV:=fun ρ=>(ma ρ).bind fun p ρ1=>Res.lA (f p) ρ1
def UnV(K:KK)(r:V→Hp→VK→Prop)(f:PV→Option PV):Prop:=∀{c:Ctx} {F H:Hp} {σ:L2.St} {ρ:Ő} {p pv:PV} {v:V} {Q:VK},Rel K c F H σ ρ→rR K c σ ρ F H p v→f p=some pv→
 (∀z F' H',Rel K c F' H' σ ρ→Same F F'→Same H H'→Rep K F' pv z→Q z H')→r v H Q
theorem Bm{op:UnaryOp}{r:V→Hp→VK→Prop}{f:PV→Option PV}(hf:UnV (kk X cm) r f)(ho:Ly X (unaryOp op) r)(ha:PE X a (tR (kk X cm) E ma)):PE X (.UnaryOp op a pos) (tV (kk X cm) E (vW f ma)):=PE.wk (Zal ho ha) fun σ H Q ⟨c,F,ρ,rel,h⟩=>
 ⟨c,F,ρ,rel,h.bind fun p ρ1 v F1 H1 Ģ _ _ r1 h1=>by
   cases e:f p with
   |none=>rw[e] at h1;exact h1.elim
   |some pv=>rw[e] at h1;exact hf Ģ r1 e fun z F' H' aK s1 s2 q'=>h1 z F' H' aK s1 s2 q'⟩
def Ub:PV→Option Bool
 | .bl b=>some b
 | .int i=>some (i != 0)
 | .non=>some false
 | .str y=>if y.length≤sizeLine then some ((y.length:Int) != 0) else none
 | .lst ps=>some (!ps.isEmpty)
 | .tup ps=>some (!ps.isEmpty)
 |_=>none
def bZ(m:M PV):M Bool:=fun ρ=>(m ρ).bind fun p ρ1=>Res.lA (Ub p) ρ1
theorem ZaH{K:KK}{c:Ctx}{F H:Hp}{σ:L2.St}{ρ:Ő}{p:PV}{v:V}{k:Bool}(s:Same F H)(r:rR K c σ ρ F H p v)(h:Ub p=some k):SN K.K v H k:=by
 cases p with
 |bl b=>cases r.bl;cases h;rfl
 |int i=>cases r.int;cases h;rfl
 |non=>cases r.non;cases h;rfl
 |str y=>
  cases r.str
  have h':(if y.length≤sizeLine then some ((y.length:Int) != 0) else none)=some k:=h
  split at h'
  ·rename_i hy;cases h';exact⟨hy,rfl⟩
  ·cases h'
 |lst ps=>
  obtain⟨a,vs,rfl,h1,h2⟩:=r.lst s
  cases h
  have e:ps.isEmpty=vs.isEmpty:=by cases h2.pr<;>rfl
  exact .inl ⟨vs,h1,by rw[e]⟩
 |tup ps=>
  obtain⟨a,vs,rfl,h1,h2⟩:=r.tup s
  cases h
  have e:ps.isEmpty=vs.isEmpty:=by cases h2.pr<;>rfl
  exact .inr (.inl ⟨vs,h1,by rw[e]⟩)
 |ins C ns ps=>cases h
 |xc C ns ps=>cases h
 |ty n=>cases h
 |cls C=>cases h
theorem aA(ha:PE X a (tR (kk X cm) E ma))(he:∀whole,isTrue a X.env whole=(do let v ←whole;standAt a.pos;holding [v] (truthy v)):=by intro _;rfl):PT X a (tB (kk X cm) E (bZ ma)):=PT.wk (CW ha he) fun σ H Q ⟨c,F,ρ,rel,h⟩=>
 ⟨c,F,ρ,rel,h.bind fun p ρ1 v F1 H1 Ģ _ _ r1 h1=>by
   cases e:Ub p with
   |none=>rw[e] at h1;exact h1.elim
   |some k=>rw[e] at h1;exact⟨k,ZaH Ģ.sub r1 e,h1 k F1 H1 Ģ (Same.refl _) (Same.refl _) rfl⟩⟩
def cG(m:M PV):M Bool:=fun ρ=>(m ρ).bind fun p ρ1=>match p with
 | .bl b=>.ok b ρ1
 |_=>.bad
theorem ZaI{σ:L2.St}{H:Hp}{Q:Bool→Hp→Prop}(h:tB (kk X cm) E (cG m) σ H Q):M2.Pr (tV (kk X cm) E m) σ H Q:=by
 obtain⟨c,F,ρ,rel,h⟩:=h
 refine⟨c,F,ρ,rel,h.bind fun p ρ1 v F1 H1 Ģ _ _ r1 h1=>?_⟩
 cases p with
 |bl b=>
  have e:v=.bl b:=by have r1':Rep (kk X cm) F1 (.bl b) v:=r1;unfold Rep at r1';exact r1'
  subst e
  exact h1 b F1 H1 Ģ (Same.refl _) (Same.refl _) rfl
 |_=>exact h1.elim
theorem ŉ{op:CmpOp}{r:R2}{f:PV→PV→Option PV}(hf:kE (kk X cm) r f)(ho:aY X (compareOp op) r)(ha:PE X a (tR (kk X cm) E ma))(hb:PE X b (tR (kk X cm) E mb))(hm:behindInMarks op b=false):PT X (.Compare a [op] [b] pos) (tB (kk X cm) E (cG (Ć f ma mb))):=
 PT.wk (Tq ho ha hb hm) fun σ H Q h=>by
   obtain⟨c,F,ρ,rel,h⟩:=ZaI h
   exact zG hf ⟨c,F,ρ,rel,h⟩
def Bo(f g:PV→PV→Option PV)(ma mb mc:M PV):M PV:=fun ρ=>(ma ρ).bind fun p ρ1=>(mb ρ1).bind fun q ρ2=>(Res.lA (f p q) ρ2).bind fun z ρ3=>match z with
 | .bl true=>(mc ρ3).bind fun w ρ4=>Res.lA (g q w) ρ4
 | .bl false=>.ok (.bl false) ρ3
 |_=>.bad
theorem ZaJ{r r':R2}{f g:PV→PV→Option PV}(hf:kE (kk X cm) r f)(hg:kE (kk X cm) r' g){σ:L2.St}{H:Hp}{Q:VK}(h:tV (kk X cm) E (Bo f g ma mb mc) σ H Q):M2.Dl r r' (tR (kk X cm) E ma) (tR (kk X cm) E mb) (tR (kk X cm) E mc) σ H Q:=by
 obtain⟨c,F,ρ,rel,h⟩:=h
 refine⟨c,F,ρ,rel,h.bind fun p ρ1 v F1 H1 Ģ _ _ r1 h1=>⟨c,F1,ρ1,Ģ,h1.bind fun q ρ2 u F2 H2 ń sF sH r2 h2=>?_⟩⟩
 cases e:f p q with
 |none=>rw[e] at h2;exact h2.elim
 |some pv=>
  rw[e] at h2
  refine hf ń (r1.mono sF sH) r2 e fun z F' H' aK s1 s2 q'=>?_
  cases pv with
  |bl k=>
   have ez:z=.bl k:=by unfold Rep at q';exact q'
   subst ez
   cases k with
   |false=>exact h2 _ F' H' aK s1 s2 q'
   |true=>
    refine⟨c,F',ρ2,aK,aZ.bind (aZ.mono h2 s1 s2) fun w ρ4 x F4 H4 tZ s3 s4 r4 h4=>?_⟩
    cases e':g q w with
    |none=>rw[e'] at h4;exact h4.elim
    |some pv'=>rw[e'] at h4;exact hg tZ (r2.mono (s1.trans s3) (s2.trans s4)) r4 e' fun z F' H' aK s1 s2 q'=>h4 z F' H' aK s1 s2 q'
  |_=>exact h2.elim
theorem D_{op op':CmpOp}{r r':R2}{f g:PV→PV→Option PV}{c:Expr}(hf:kE (kk X cm) r f)(hg:kE (kk X cm) r' g)(ho:aY X (compareOp op) r)(ho':aY X (compareOp op') r')(ha:PE X a (tR (kk X cm) E ma))(hb:PE X b (tR (kk X cm) E mb))(hc:PE X c (tR (kk X cm) E mc))
 (hm:lastMarks [op,op'] [b,c]=false:=by with_unfolding_all rfl):PE X (.Compare a [op,op'] [b,c] pos) (tV (kk X cm) E (Bo f g ma mb mc)):=PE.wk (Dm ho ho' ha hb hc hm) fun _ _ _ h=>ZaJ hf hg h
def cU(m:M Bool):M Bool:=fun ρ=>(m ρ).bind fun b ρ1=>.ok (!b) ρ1
theorem eV{m:M Bool}(h:PT X a (tB (kk X cm) E m)):PT X (.UnaryOp .Not a pos) (tB (kk X cm) E (cU m)):=PT.wk (RK h) fun σ H Q ⟨c,F,ρ,rel,h⟩=>
 ⟨c,F,ρ,rel,h.bind fun p ρ1 v F1 H1 Ģ _ _ r1 h1=>h1 _ F1 H1 Ģ (Same.refl _) (Same.refl _) (by have e:p=v:=r1;rw[e];rfl)⟩
def jK(ma mb:M Bool):M Bool:=fun ρ=>(ma ρ).bind fun b ρ1=>if b=true then mb ρ1 else .ok false ρ1
def lR(ma mb:M Bool):M Bool:=fun ρ=>(ma ρ).bind fun b ρ1=>if b=true then .ok true ρ1 else mb ρ1
variable{ta tb:M Bool}{rest:List Expr}
theorem jl(h:PT X a (tB (kk X cm) E ta)):PW X (.BoolOp .And [a] pos) (tB (kk X cm) E ta):=Lp h
theorem jL(h:PT X a (tB (kk X cm) E ta)):PW X (.BoolOp .Or [a] pos) (tB (kk X cm) E ta):=RG h
theorem w_and(ha:PT X a (tB (kk X cm) E ta))(hb:PW X (.BoolOp .And (b::rest) pos) (tB (kk X cm) E tb)):PW X (.BoolOp .And (a::b::rest) pos) (tB (kk X cm) E (jK ta tb)):=PW.wk (RJ ha hb) fun σ H Q ⟨c,F,ρ,rel,h⟩=>
 ⟨c,F,ρ,rel,h.bind fun p ρ1 v F1 H1 Ģ _ _ r1 h1=>by
   have e:p=v:=r1
   subst e
   cases p with
   |true=>exact⟨c,F1,ρ1,Ģ,h1⟩
   |false=>exact h1 false F1 H1 Ģ (Same.refl _) (Same.refl _) rfl⟩
theorem w_or(ha:PT X a (tB (kk X cm) E ta))(hb:PW X (.BoolOp .Or (b::rest) pos) (tB (kk X cm) E tb)):PW X (.BoolOp .Or (a::b::rest) pos) (tB (kk X cm) E (lR ta tb)):=PW.wk (Zad ha hb) fun σ H Q ⟨c,F,ρ,rel,h⟩=>
 ⟨c,F,ρ,rel,h.bind fun p ρ1 v F1 H1 Ģ _ _ r1 h1=>by
   have e:p=v:=r1
   subst e
   cases p with
   |false=>exact⟨c,F1,ρ1,Ģ,h1⟩
   |true=>exact h1 true F1 H1 Ģ (Same.refl _) (Same.refl _) rfl⟩
def gq(ma mb:M PV):M PV:=fun ρ=>(ma ρ).bind fun p ρ1=>match p with
 | .bl true=>mb ρ1
 | .bl false=>.ok (.bl false) ρ1
 |_=>.bad
def mOr(ma mb:M PV):M PV:=fun ρ=>(ma ρ).bind fun p ρ1=>match p with
 | .bl true=>.ok (.bl true) ρ1
 | .bl false=>mb ρ1
 |_=>.bad
def Zg0(ma:M PV):M PV:=fun ρ=>(ma ρ).bind fun p ρ1=>match p with
 | .bl b=>.ok (.bl (!b)) ρ1
 |_=>.bad
theorem wN{K:KK}{F:Hp}{b:Bool}{v:V}(h:Rep K F (.bl b) v):v=.bl b:=by unfold Rep at h;exact h
theorem jM{op}(h:PE X a (tV (kk X cm) E ma)):PE X (.BoolOp op [a] pos) (tV (kk X cm) E ma):=RL h
theorem v_and(ha:PE X a (tV (kk X cm) E ma))(hb:PE X (.BoolOp .And (b::rest) pos) (tV (kk X cm) E mb)):PE X (.BoolOp .And (a::b::rest) pos) (tV (kk X cm) E (gq ma mb)):=PE.wk (Tr ha hb) fun σ H Q ⟨c,F,ρ,rel,h⟩=>
 ⟨c,F,ρ,rel,h.bind fun p ρ1 v F1 H1 Ģ _ _ r1 h1=>by
   cases p with
   |bl k=>
    cases wN r1
    cases k with
    |true=>exact⟨c,F1,ρ1,Ģ,h1⟩
    |false=>exact h1 _ F1 H1 Ģ (Same.refl _) (Same.refl _) r1
   |_=>exact h1.elim⟩
def b_{α:Type}(t:M Bool)(ma mb:M α):M α:= fun ρ=>(t ρ).bind fun b ρ1=>if b=true then ma ρ1 else mb ρ1
def ĝ:M (List PV):=fun ρ=>.ok [] ρ
def ą(ma:M PV)(mr:M (List PV)):M (List PV):=fun ρ=>(ma ρ).bind fun p ρ1=>(mr ρ1).bind fun ps ρ2=>.ok (p::ps) ρ2
variable{mr:M (List PV)}
theorem ğ:PA X [] (tL (kk X cm) E ĝ):=PA.wk gQ fun σ H Q ⟨c,F,ρ,rel,h⟩=>h [] F H rel (Same.refl _) (Same.refl _) ġ.nil
theorem Ą(ha:PE X e (tV (kk X cm) E ma))(hr:PA X es (tL (kk X cm) E mr))(hs:starEach (e::es) X.env=(false,eval e X.env)::starEach es X.env:=by exact ć rfl):PA X (e::es) (tL (kk X cm) E (ą ma mr)):=PA.wk (bh ha hr hs) fun σ H Q ⟨c,F,ρ,rel,h⟩=>
 ⟨c,F,ρ,rel,h.bind fun p ρ1 v F1 H1 Ģ _ _ r1 h1=>⟨c,F1,ρ1,Ģ,h1.bind fun ps ρ2 vs F2 H2 ń sF sH r2 h2=>h2 _ F2 H2 ń (Same.refl _) (Same.refl _) (ġ.cons (Rep.same sF p v r1) r2)⟩⟩
theorem ı:PA X [] (tRL (kk X cm) E ĝ):=PA.wk gQ fun σ H Q ⟨c,F,ρ,rel,h⟩=>h [] F H rel (Same.refl _) (Same.refl _) .nil
theorem Ė(ha:PE X e (tR (kk X cm) E ma))(hr:PA X es (tRL (kk X cm) E mr))(hs:starEach (e::es) X.env=(false,eval e X.env)::starEach es X.env:=by exact ć rfl):PA X (e::es) (tRL (kk X cm) E (ą ma mr)):=PA.wk (bh ha hr hs) fun σ H Q ⟨c,F,ρ,rel,h⟩=>
 ⟨c,F,ρ,rel,h.bind fun p ρ1 v F1 H1 Ģ _ _ r1 h1=>⟨c,F1,ρ1,Ģ,h1.bind fun ps ρ2 vs F2 H2 ń sF sH r2 h2=>h2 _ F2 H2 ń (Same.refl _) (Same.refl _) (.cons (rR.mono r1 sF sH) r2)⟩⟩
def ĕ:M (List Slot):=fun ρ=>.ok [] ρ
def ħ(ma:M PV)(mr:M (List Slot)):M (List Slot):=fun ρ=>(ma ρ).bind fun p ρ1=>(mr ρ1).bind fun as ρ2=>.ok (.sh p::as) ρ2
def cV:Slot→Option Slot
 | .sh p=>some (.sh p)
 | .ow ps=>some (.bw ps)
 | .bw ps=>some (.bw ps)
 |_=>none
def Ċ(i:Nat)(mr:M (List Slot)):M (List Slot):=fun ρ=>match(ρ[i]?).bind cV with
 |none=>.bad
 |some _=>(mr ρ).bind fun as ρ2=>match(ρ2[i]?).bind cV with
  |some s=>.ok (s::as) ρ2
  |none=>.bad
variable{ms:M (List Slot)}
theorem Ē:PA X [] (tA (kk X cm) E ĕ):=PA.wk gQ fun σ H Q ⟨c,F,ρ,rel,h⟩=>h [] F H rel (Same.refl _) (Same.refl _) .nil
theorem Ĝ(ha:PE X e (tV (kk X cm) E ma))(hr:PA X es (tA (kk X cm) E ms))(hs:starEach (e::es) X.env=(false,eval e X.env)::starEach es X.env:=by exact ć rfl):PA X (e::es) (tA (kk X cm) E (ħ ma ms)):=PA.wk (bh ha hr hs) fun σ H Q ⟨c,F,ρ,rel,h⟩=>
 ⟨c,F,ρ,rel,h.bind fun p ρ1 v F1 H1 Ģ _ _ r1 h1=>⟨c,F1,ρ1,Ģ,h1.bind fun as ρ2 vs F2 H2 ń sF sH r2 h2=>h2 _ F2 H2 ń (Same.refl _) (Same.refl _) (.cons (show bW _ _ _ (.sh p) v from Rep.same sF p v r1) r2)⟩⟩
theorem zH{K:KK}{c:Ctx}{F H:Hp}{σ:L2.St}{ρ:Ő}{i:Nat}{s:Slot}(rel:Rel K c F H σ ρ)(h:(ρ[i]?).bind cV=some s):∃v,σ[i]?=some (some v)∧bW K F H s v:=by
 cases e:ρ[i]? with
 |none=>rw[e] at h;cases h
 |some sl=>
  rw[e] at h
  have h':cV sl=some s:=h
  cases sl with
  |sh p=>
   cases h'
   obtain⟨v,h1,h2⟩:=rel.slot i _ e
   exact⟨v,at_of h1,h2⟩
  |ow ps=>
   cases h'
   obtain⟨a,vs,h1,h2,h3,h4,h5,_⟩:=rel.ow e
   exact⟨.ref a,h1,a,vs,rfl,h2,h3,h5⟩
  |bw ps=>
   cases h'
   obtain⟨a,vs,h1,h2,h3⟩:=rel.slot i _ e
   exact⟨.ref a,at_of h1,a,vs,rfl,(rel.lent a _ h2).1,(rel.lent a _ h2).2,h3⟩
  |no=>cases h'
  |rc C ns ps=>cases h'
  |ot ps qs=>cases h'
theorem Ĉ(i:Nat){x:Str}{px:Pos}(hN:X.N[i]?=some x:=by rfl)(hv:Cw X.env.scope x:=by first|exact Or.inl rfl|exact Or.inr (Or.inl rfl)|exact Or.inr (Or.inr rfl))(hd:(x== ("__debug__" :Str))=false:=by decide)
 (hcd:(x== ("__classdict__" :Str))=false:=by decide)(hr:PA X es (tA (kk X cm) E ms))(hs:starEach (.Name x px::es) X.env=(false,eval (.Name x px) X.env)::starEach es X.env:=by exact ć rfl):PA X (.Name x px::es) (tA (kk X cm) E (Ċ i ms)):=
 PA.wk (bh (eE hN hv hd hcd) hr hs) fun σ H Q ⟨c,F,ρ,rel,h⟩=>by
   unfold Ċ at h
   cases e:(ρ[i]?).bind cV with
   |none=>rw[e] at h;exact h.elim
   |some s0=>
    rw[e] at h
    obtain⟨v,hv,_⟩:=zH rel e
    refine⟨v,hv,c,F,ρ,rel,aZ.bind h fun as ρ2 vs F2 H2 ń sF sH r2 h2=>?_⟩
    cases e2:(ρ2[i]?).bind cV with
    |none=>simp only[e2] at h2;exact h2.elim
    |some s=>
     simp only[e2] at h2
     obtain⟨v',hv',r1⟩:=zH ń e2
     rw[hv] at hv'
     cases hv'
     exact h2 _ F2 H2 ń (Same.refl _) (Same.refl _) (.cons r1 r2)
def ŏ(mr:M (List PV)):M PV:=fun ρ=>(mr ρ).bind fun ps ρ1=>if ps.length≤16777216 then .ok (.tup ps) ρ1 else .bad
def aD(mr:M (List PV)):M RV:=fun ρ=>(mr ρ).bind fun ps ρ1=>if ps.length≤16777216 then .ok (.ow ps) ρ1 else .bad
theorem Ŋ:sizeLine=16777216:=sizeLine_eq
theorem Ŀ{x1}(h:PA X es (tL (kk X cm) E mr)):PE X (.Tuple es x1 pos) (tV (kk X cm) E (ŏ mr)):=PE.wk (Df h) fun σ H Q ⟨c,F,ρ,rel,h⟩=>
 ⟨c,F,ρ,rel,h.bind fun ps ρ1 vs F1 H1 Ģ _ _ r1 h1=>by
   split at h1
   ·rename_i hz
    refine⟨by rw[←ġ.length r1,Ŋ];exact hz,fun p hp=>h1 _ _ _ (Ģ.alloc hp) (Same.upd (Ģ.sub.free hp)) (Same.upd hp) ?_⟩
    show Rep _ _ _ _
    unfold Rep
    exact⟨p,vs,rfl,cF.of Ĳ,ġ.same (Same.upd (Ģ.sub.free hp)) ps vs r1⟩
   ·exact h1.elim⟩
theorem eX{K:KK}{c:Ctx}{F H:Hp}{σ:L2.St}{ρ:Ő}{ps:List PV}{vs:List V}{a:Addr}(rel:Rel K c F H σ ρ)(ha:H a=none)(r:ġ K F ps vs):Rel K c F (upd H a (.lst vs)) σ ρ∧Held K c σ ρ F (upd H a (.lst vs)) ps (.ref a):=
 ⟨rel.made ha,a,vs,rfl,Ĳ,rel.sub.free ha,rel.base.free ha,rel.fresh ha,r⟩
theorem ť(h:PA X es (tL (kk X cm) E mr)):PE X (.List es pos) (tO (kk X cm) E (aD mr)):=PE.wk (Tc h) fun σ H Q ⟨c,F,ρ,rel,h⟩=>
 ⟨c,F,ρ,rel,h.bind fun ps ρ1 vs F1 H1 Ģ _ _ r1 h1=>by
   split at h1
   ·rename_i hz
    refine⟨by rw[←ġ.length r1,Ŋ];exact hz,fun p hp=>?_⟩
    obtain⟨q1,q2⟩:=eX Ģ hp r1
    exact h1 _ _ _ q1 (Same.refl _) (Same.upd hp) q2
   ·exact h1.elim⟩
def cI(f:List PV→Option PV)(mr:M (List PV)):M PV:=fun ρ=>(mr ρ).bind fun ps ρ1=>Res.lA (f ps) ρ1
def Ea(f:List PV→Option RV)(mr:M (List PV)):M RV:=fun ρ=>(mr ρ).bind fun ps ρ1=>Res.lA (f ps) ρ1
def cL(K:KK)(r:List V→Hp→VK→Prop)(f:List PV→Option PV):Prop:=∀{c:Ctx} {F H:Hp} {σ:L2.St} {ρ:Ő} {ps:List PV} {pv:PV} {vs:List V} {Q:VK},Rel K c F H σ ρ→rRL K c σ ρ F H ps vs→f ps=some pv→
 (∀z F' H',Rel K c F' H' σ ρ→Same F F'→Same H H'→Rep K F' pv z→Q z H')→r vs H Q
def Px(K:KK)(r:List V→Hp→VK→Prop)(f:List PV→Option RV):Prop:=∀{c:Ctx} {F H:Hp} {σ:L2.St} {ρ:Ő} {ps:List PV} {pv:RV} {vs:List V} {Q:VK},Rel K c F H σ ρ→rRL K c σ ρ F H ps vs→f ps=some pv→
 (∀z F' H',Rel K c F' H' σ ρ→Same F F'→Same H H'→rO K c σ ρ F' H' pv z→Q z H')→r vs H Q
theorem Ũ{r:List V→Hp→VK→Prop}{f:List PV→Option PV}(hf:cL (kk X cm) r f){σ:L2.St}{H:Hp}{Q:VK}(h:tV (kk X cm) E (cI f mr) σ H Q):tCB r (tRL (kk X cm) E mr) σ H Q:=by
 obtain⟨c,F,ρ,rel,h⟩:=h
 refine⟨c,F,ρ,rel,h.bind fun p ρ1 v F1 H1 Ģ _ _ r1 h1=>?_⟩
 cases e:f p with
 |none=>rw[e] at h1;exact h1.elim
 |some pv=>rw[e] at h1;exact hf Ģ r1 e fun z F' H' aK s1 s2 q'=>h1 z F' H' aK s1 s2 q'
theorem Bp{r:List V→Hp→VK→Prop}{f:List PV→Option RV}(hf:Px (kk X cm) r f){σ:L2.St}{H:Hp}{Q:VK}(h:tO (kk X cm) E (Ea f mr) σ H Q):tCB r (tRL (kk X cm) E mr) σ H Q:=by
 obtain⟨c,F,ρ,rel,h⟩:=h
 refine⟨c,F,ρ,rel,h.bind fun p ρ1 v F1 H1 Ģ _ _ r1 h1=>?_⟩
 cases e:f p with
 |none=>rw[e] at h1;exact h1.elim
 |some pv=>rw[e] at h1;exact hf Ģ r1 e fun z F' H' aK s1 s2 q'=>h1 z F' H' aK s1 s2 q'
end
end P
namespace P
open PySem PySem.Spec PyProof.Rows L2 M2 M3
def cH:M Fl:=fun ρ=>.ok .nx ρ
def mBk:M Fl:=fun ρ=>.ok .bk ρ
def mCt:M Fl:=fun ρ=>.ok .ct ρ
def Ħ(a b:M Fl):M Fl:=fun ρ=>(a ρ).bind fun f ρ1=>match f with
 | .nx=>b ρ1
 |f=>.ok f ρ1
def Ņ(i:Nat)(m:M RV):M Fl:=fun ρ=>(m ρ).bind fun r ρ1=>.ok .nx (ρ1.set i r.slot)
def ĳ(m:M RV):M Fl:=fun ρ=>(m ρ).bind fun r ρ1=>.ok (.rt r) ρ1
def ZaK:M Fl:=fun ρ=>.ok (.rt (.sh .non)) ρ
def ZaL(m:M PV):M Fl:=fun ρ=>(m ρ).bind fun _ ρ1=>.ok .nx ρ1
section
variable{X:Cx}{cm:String→Addr}{E:L2.St→XK}{a b e:Expr}{st:Stmt}{rest:List Stmt}{es:List Expr}{pos:Pos}{m1 m2:M Fl}{mo:M RV}{mv:M PV}
theorem Ĵ:kh X [] (tS (kk X cm) E cH):=kh.wk Lq fun D σ H ⟨c,F,ρ,rel,h⟩=>h σ F H rel (Same.refl F)
theorem č(h:PS X st (tS (kk X cm) E m1)):kh X [st] (tS (kk X cm) E m1):=Lr h
theorem MJ{c:Ctx}{F:Hp}{D:Ends}{r:Res Fl}(h:Ž (kk X cm) E c F D (r.bind fun f ρ1=>match f with| .nx=>m2 ρ1|f=>.ok f ρ1)):Ž (kk X cm) E c F {D with nx:=tS (kk X cm) E m2 D} r:=by
 cases r with
 |ok f ρ1=>
  cases f with
  |nx=>exact fun σ' F' H' aK s=>⟨c,F',ρ1,aK,Ž.mono h s⟩
  |bk=>exact h
  |ct=>exact h
  |rt v=>exact h
 |exc x ρ1=>exact h
 |bad=>exact h
theorem ĉ(h1:PS X st (tS (kk X cm) E m1))(h2:kh X rest (tS (kk X cm) E m2)):kh X (st::rest) (tS (kk X cm) E (Ħ m1 m2)):=kh.wk (Cz h1 h2) fun D σ H ⟨c,F,ρ,rel,h⟩=>⟨c,F,ρ,rel,MJ h⟩
theorem ĸ{i:Nat}{x:Str}{pos':Pos}(hN:X.N.Nodup)(hi:X.N[i]?=some x)(hx:Loc X.env.scope x)(he:PE X e (tO (kk X cm) E mo))(hs:swapsWith e (some (.Name x pos')) pos.line X.env=pure false:=by rfl)(hf:X.fn x=true∨X.env.scope.names.lookup x=some .local:=by first|exact .inl rfl|exact .inr rfl|assumption) :
 PS X (.Assign [.Name x pos'] e pos) (tS (kk X cm) E (Ņ i mo)):=PS.wk (RT hN hi hx he hs hf) fun D σ H ⟨c,F,ρ,rel,h⟩=>⟨c,F,ρ,rel,Ž.bind h fun r ρ1 v F1 H1 Ģ s1 q h1=>by
 cases r with
 |sh p=>exact h1 _ F1 H1 (Ģ.put rfl ⟨v,rfl,q⟩) (Same.refl _)
 |ow ps=>
  obtain⟨a,vs,rfl,q1,q2,q3,q4,q5⟩:=q
  exact h1 _ F1 H1 (Ģ.Mx ⟨a,vs,rfl,q1,q2,q3,q5⟩ rfl q4) (Same.refl _)
 |ot ps qs=>
  obtain⟨p,a,xs,vs,rfl,q0,qx,q1,q2,q3,q4,q5⟩:=q
  exact h1 _ F1 H1 (Ģ.Mx (s:=.ot ps qs) ⟨p,a,xs,vs,rfl,q0,qx,q1,q2,q3,q5⟩ ⟨p,xs,rfl,q0⟩ q4) (Same.refl _)⟩
theorem ģ(he:PE X e (tO (kk X cm) E mo)):PS X (.Return (some e) pos) (tS (kk X cm) E (ĳ mo)):=PS.wk (RM he) fun D σ H ⟨c,F,ρ,rel,h⟩=>⟨c,F,ρ,rel,Ž.bind h fun r ρ1 v F1 H1 Ģ s1 q h1=>h1 v σ F1 H1 Ģ (Same.refl _) q⟩
theorem Ţ{t:M Bool}{ss ss':List Stmt}(hc:PT X a (tB (kk X cm) E t))(ha:kh X ss (tS (kk X cm) E m1))(hb:kh X ss' (tS (kk X cm) E m2)):PS X (.If a ss ss' pos) (tS (kk X cm) E (b_ t m1 m2)):=PS.wk (Zaf hc ha hb) fun D σ H ⟨c,F,ρ,rel,h⟩=>⟨c,F,ρ,rel,Ž.bind h fun r ρ1 v F1 H1 Ģ s1 q h1=>by
 have e:r=v:=q
 subst e
 cases r with
 |true=>exact⟨c,F1,ρ1,Ģ,h1⟩
 |false=>exact⟨c,F1,ρ1,Ģ,h1⟩⟩
def Uc{α:Type}:M α:= fun _=>.bad
theorem MK:PS X st (tS (kk X cm) E Uc):=PS.wk CG fun D σ H ⟨c,F,ρ,rel,h⟩=>h
abbrev Tg:=PV→Ő→Option Ő
abbrev Cp:=List PV→Ő→Option Ő
def ZaM(K:KK)(c:Ctx)(F H:Hp)(Q:L2.St→Hp→Prop):Option Ő→Prop
 |some ρ'=>∀σ',Rel K c F H σ' ρ'→Q σ' H
 |none=>False
def tT(K:KK)(g:Tg):TG:=fun v σ H Q=>∃c F ρ p,Rel K c F H σ ρ∧Rep K F p v∧ZaM K c F H Q (g p ρ)
def tTs(K:KK)(g:Cp):CJ:=fun v σ H Q=>∃c F ρ p,Rel K c F H σ ρ∧ġ K F p v∧ZaM K c F H Q (g p ρ)
def gN(i:Nat):Tg:=fun p ρ=>some (ρ.set i (.sh p))
def Ŧ:Cp:=fun ps ρ=>match ps with
 | []=>some ρ
 |_=>none
def ě(g:Tg)(gs:Cp):Cp:=fun ps ρ=>match ps with
 |p::ps=>(g p ρ).bind fun ρ1=>gs ps ρ1
 | []=>none
def gT(n:Nat)(gs:Cp):Tg:=fun p ρ=>match p with
 | .tup ps=>if ps.length=n then gs ps ρ else none
 |_=>none
theorem PG.wk'{tg:Expr}{t t':TG}(h:PG X tg t)(i:∀v σ H Q,t' v σ H Q→t v σ H Q):PG X tg t':=fun pins s σ H v u Q I r q=>h pins s σ H v u Q I r (i v σ H Q q)
theorem wg.wk{tg:List Expr}{t t':CJ}(h:wg X tg t)(i:∀v σ H Q,t' v σ H Q→t v σ H Q):wg X tg t':=fun pins s σ H v u Q I r q=>h pins s σ H v u Q I r (i v σ H Q q)
theorem ē{i:Nat}{x:Str}(hN:X.N.Nodup)(hi:X.N[i]?=some x)(hx:Loc X.env.scope x)(hf:X.fn x=true∨X.env.scope.names.lookup x=some .local:=by first|exact .inl rfl|exact .inr rfl|assumption):PG X (.Name x pos) (tT (kk X cm) (gN i)):=
 PG.wk' (Ls hN hi hx hf) fun v σ H Q ⟨c,F,ρ,p,rel,rp,h⟩=>h _ (rel.put rfl ⟨v,rfl,rp⟩)
theorem Ů:wg X [] (tTs (kk X cm) Ŧ):=wg.wk Lw fun v σ H Q ⟨c,F,ρ,p,rel,rp,h⟩=>by
 cases p with
 |nil=>
  have e:v=[]:=by have:=rp;unfold ġ at this;exact this
  exact⟨e,h σ rel⟩
 |cons _ _=>exact h.elim
theorem Ĥ{es:List Expr}{g:Tg}{gs:Cp}(h1:PG X e (tT (kk X cm) g))(h2:wg X es (tTs (kk X cm) gs))(hs:(assignEach (e::es) X.env).map (·.2)=assign e X.env::(assignEach es X.env).map (·.2):=by rfl):wg X (e::es) (tTs (kk X cm) (ě g gs)):=
 wg.wk (CK h1 h2 hs) fun v σ H Q ⟨c,F,ρ,p,rel,rp,h⟩=>by
  cases p with
  |nil=>exact h.elim
  |cons p ps=>
   unfold ġ at rp
   obtain⟨x,r,rfl,r1,r2⟩:=rp
   refine⟨x,r,rfl,c,F,ρ,p,rel,r1,?_⟩
   unfold ě at h
   dsimp only at h
   cases eg:g p ρ with
   |none=>rw[eg] at h;exact h.elim
   |some ρ1=>rw[eg] at h;exact fun σ' aK=>⟨c,F,ρ1,ps,aK,r2,h⟩
theorem zJ{es:List Expr}{k:Nat}{gs:Cp}{n:Nat}(hc:X.calm=true)(h:wg X es (tTs (kk X cm) gs))(hn:(assignEach es X.env).length=n:=by rfl)(hst:(assignEach es X.env).findIdx? (·.1)=none:=by rfl):PG X (.Tuple es k pos) (tT (kk X cm) (gT n gs)):=
 PG.wk' (CN hc h hn hst) fun v σ H Q ⟨c,F,ρ,p,rel,rp,h⟩=>by
   cases p with
   |tup ps=>
    unfold Rep at rp
    obtain⟨a,xs,h1,h2,h3⟩:=rp
    unfold gT at h
    dsimp only at h
    split at h
    ·rename_i hl
     exact⟨a,xs,h1,Same.tup rel.sub h2,by rw[←h3.length];exact hl,c,F,ρ,ps,rel,h3,h⟩
    ·exact h.elim
   |_=>exact h.elim
def eY(g:Tg)(m:M PV):M Fl:=fun ρ=>(m ρ).bind fun p ρ1=>match g p ρ1 with
 |some ρ2=>.ok .nx ρ2
 |none=>.bad
theorem cg{tg:Expr}{g:Tg}(he:PE X e (tV (kk X cm) E mv))(hg:PG X tg (tT (kk X cm) g))(hs:swapsWithSole [tg] e pos.line X.env=pure false:=by rfl)(hw:swappedStores [tg] e X.env=pure none:=by rfl)
 (h1:(assignEach [tg] X.env).map (·.2)=[assign tg X.env]:=by rfl):PS X (.Assign [tg] e pos) (tS (kk X cm) E (eY g mv)):=PS.wk (CP he hg hs hw h1) fun D σ H ⟨c,F,ρ,rel,h⟩=>⟨c,F,ρ,rel,Ž.bind h fun r ρ1 v F1 H1 Ģ s1 q h1=>by
 refine⟨c,F1,ρ1,r,Ģ,q,?_⟩
 cases eg:g r ρ1 with
 |none=>rw[eg] at h1;exact h1.elim
 |some ρ2=>rw[eg] at h1;exact fun σ' aK=>h1 σ' F1 H1 aK (Same.refl _)⟩
def MN(i j:Nat)(mr:M (List PV)):M Fl:=fun ρ=>(mr ρ).bind fun ps ρ1=>match ps with
 | [p,q]=>.ok .nx ((ρ1.set i (.sh p)).set j (.sh q))
 |_=>.bad
theorem MP{i j:Nat}{mr:M (List PV)}{D:Ends}{σ:L2.St}{H:Hp}(h:tS (kk X cm) E (MN i j mr) D σ H):Zaj i j (tL (kk X cm) E mr) D σ H:=by
 obtain⟨c,F,ρ,rel,h⟩:=h
 refine⟨c,F,ρ,rel,Ž.bind h fun ps ρ1 vs F1 H1 Ģ s1 q h1=>?_⟩
 cases ps with
 |nil=>exact h1.elim
 |cons p ps=>
  cases ps with
  |nil=>exact h1.elim
  |cons p2 ps=>
   cases ps with
   |nil=>
    have q':ġ (kk X cm) F1 [p,p2] vs:=q
    cases q'.pr with
    |cons r1 t=>
     cases t with
     |cons r2 t=>
      cases t
      exact⟨_,_,rfl,h1 _ F1 H1 ((Ģ.put (s:=.sh p) rfl ⟨_,rfl,r1⟩).put (s:=.sh p2) rfl ⟨_,rfl,r2⟩) (Same.refl _)⟩
   |cons _ _=>exact h1.elim
def wO(i:Nat)(mi:M PV)(m:M PV):M Fl:=fun ρ=>(m ρ).bind fun p ρ1=>match ρ1[i]? with
 |some (.ow _)=>(mi ρ1).bind fun q ρ2=>match ρ2[i]?,q with
  |some (.ow ps),.int k=>match wJ ps.length k with
   |some j=>.ok .nx (ρ2.set i (.ow (ps.set j p)))
   |none=>.bad
  |_,_=>.bad
 |_=>.bad
theorem M_{i:Nat}{x:Str}{ix:Expr}{mi:M PV}{px wQ:Pos}(he:PE X e (tV (kk X cm) E mv))(hi:PE X ix (tV (kk X cm) E mi))(ho:PE X (.Name x px) (tH i))
 (hsub:∀v,assign (.Subscript (.Name x px) ix wQ) X.env v=(do
   let ov ←holding [v] (eval (.Name x px) X.env)
   let iv ←holding [v,ov] (eval ix X.env)
   standAt wQ
   holding [v,ov,iv] (setItem ov iv v)
   release [v,ov,iv] []):=by intro _;rfl)
 (hs:swapsWithSole [.Subscript (.Name x px) ix wQ] e pos.line X.env=pure false:=by rfl)(hw:swappedStores [.Subscript (.Name x px) ix wQ] e X.env=pure none:=by rfl)
 (h1:(assignEach [.Subscript (.Name x px) ix wQ] X.env).map (·.2)=[assign (.Subscript (.Name x px) ix wQ) X.env]:=by rfl) :
 PS X (.Assign [.Subscript (.Name x px) ix wQ] e pos) (tS (kk X cm) E (wO i mi mv)):=PS.wk (CP he (RQ ho hi set_list hsub) hs hw h1) fun D σ H ⟨c,F,ρ,rel,h⟩=>⟨c,F,ρ,rel,Ž.bind h fun p ρ1 v F1 H1 Ģ s1 q h1=>by
 cases e1:ρ1[i]? with
 |none=>rw[e1] at h1;exact h1.elim
 |some sl=>
  rw[e1] at h1
  cases sl with
  |ow ps0=>
   obtain⟨a,vs0,z1,_,_,_,_,_⟩:=Ģ.ow e1
   refine⟨.ref a,z1,c,F1,ρ1,Ģ,Ž.bind h1 fun q' ρ2 u F2 H2 ń s2 r2 h2=>?_⟩
   cases e2:ρ2[i]? with
   |none=>rw[e2] at h2;exact h2.elim
   |some sl2=>
    rw[e2] at h2
    cases sl2 with
    |ow ps=>
     cases q' with
     |int k=>
      have eu:u=.int k:=by have:Rep (kk X cm) F2 (.int k) u:=r2;unfold Rep at this;exact this
      subst eu
      dsimp only at h2
      obtain⟨a2,vs,w1,w2,w3,w4,w5,w6⟩:=ń.ow e2
      rw[z1] at w1
      cases w1
      cases ej:wJ ps.length k with
      |none=>rw[ej] at h2;exact h2.elim
      |some j=>
       rw[ej] at h2
       refine⟨a,vs,k,j,rfl,rfl,w2,by rw[←w5.length];exact ej,h2 σ F2 _ (ń.write w6 z1 ⟨a,vs.set j v,rfl,Ĳ,w3,w4,?_⟩ fun _ z=>(V.ref.inj z).symm) (Same.refl _)⟩
       exact ġ.of (DQ (Rep.same s2 p v q) j w5.pr)
     |_=>exact h2.elim
    |_=>exact h2.elim
  |_=>exact h1.elim⟩
def t_(i:Nat)(m:M PV):M Fl:=fun ρ=>match ρ[i]? with
 |some (.ow _)=>(m ρ).bind fun p ρ1=>match ρ1[i]? with
  |some (.ow ps)=>if ps.length<16777216 then .ok .nx (ρ1.set i (.ow (ps ++ [p]))) else .bad
  |_=>.bad
 |_=>.bad
theorem iI{i:Nat}{D:Ends}{σ:L2.St}{H:Hp}(h:tS (kk X cm) E (t_ i mv) D σ H):yX (tBM X.K "list" qL (tH i) (tL (kk X cm) E (ą mv ĝ))) D σ H:=by
 obtain⟨c,F,ρ,rel,h⟩:=h
 unfold t_ at h
 cases e1:ρ[i]? with
 |none=>rw[e1] at h;exact h.elim
 |some sl=>
  rw[e1] at h
  cases sl with
  |ow ps0=>
   obtain⟨a,vs0,z1,z2,z3,z4,z5,z6⟩:=rel.ow e1
   refine⟨.ref a,z1,.inl ⟨rfl,_,aB.of z2⟩,c,F,ρ,rel,?_⟩
   dsimp only at h
   unfold ą
   cases em:mv ρ with
   |bad=>rw[em] at h;exact h
   |exc x ρ1=>rw[em] at h;exact fun C d F' H' aK s1 q=>h σ C d F' H' aK s1 q
   |ok p ρ1=>
    rw[em] at h
    intro us F1 H1 Ģ s1 s2 r1
    have r1':ġ (kk X cm) F1 [p] us:=r1
    cases r1'.pr with
    |cons rp t=>
     rename_i v vs'
     cases t
     cases e2:ρ1[i]? with
     |none=>simp only[Res.ż,e2] at h;exact h.elim
     |some sl2=>
      simp only[Res.ż,e2] at h
      cases sl2 with
      |ow ps=>
       obtain⟨a2,vs,w1,w2,w3,w4,w5,w6⟩:=Ģ.ow e2
       rw[z1] at w1
       cases w1
       dsimp only at h
       split at h
       ·rename_i hz
        refine⟨a,vs,v,rfl,rfl,w2,by rw[←w5.length,Ŋ];exact hz,h σ F1 _ (Ģ.write w6 z1 ⟨a,vs ++ [v],rfl,Ĳ,w3,w4,ġ.append w5 (ġ.cons rp ġ.nil)⟩ fun _ z=>(V.ref.inj z).symm) s1⟩
       ·exact h.elim
      |_=>exact h.elim
  |_=>exact h.elim
def Ń(mc:M Bool)(mb:M Fl):Nat→Ő→Res Fl
 |0,_=>.bad
 |n+1,ρ=>(mc ρ).bind fun b ρ1=>if b=true then(mb ρ1).bind fun f ρ2=>match f with
  | .nx=>Ń mc mb n ρ2
  | .ct=>Ń mc mb n ρ2
  | .bk=>.ok .nx ρ2
  | .rt r=>.ok (.rt r) ρ2 else .ok .nx ρ1
theorem Ż{mc:M Bool}{mb:M Fl}(n:Nat)(ρ:Ő):Ń mc mb (n+1) ρ=(mc ρ).bind fun b ρ1=>if b=true then(mb ρ1).bind fun f ρ2=>match f with
 | .nx=>Ń mc mb n ρ2
 | .ct=>Ń mc mb n ρ2
 | .bk=>.ok .nx ρ2
 | .rt r=>.ok (.rt r) ρ2 else .ok .nx ρ1:=rfl
open Classical in
noncomputable def ŵ(mc:M Bool)(mb:M Fl):M Fl:=fun ρ=>if h:∃n,Ń mc mb n ρ≠ .bad then Ń mc mb (Classical.choose h) ρ else .bad
theorem eZ{mc:M Bool}{mb:M Fl}:∀(n:Nat) (ρ:Ő),Ń mc mb n ρ≠ .bad→Ń mc mb (n+1) ρ=Ń mc mb n ρ
 |0,ρ,h=>absurd rfl h
 |n+1,ρ,h=>by
  rw[Ż] at h
  rw[Ż (n+1),Ż n]
  cases e:mc ρ with
  |bad=>rfl
  |exc x ρ1=>rfl
  |ok b ρ1=>
   rw[e] at h
   simp only[Res.ż] at h ⊢
   cases b with
   |false=>rfl
   |true=>
    simp only[if_true] at h ⊢
    cases e2:mb ρ1 with
    |bad=>rfl
    |exc x ρ2=>rfl
    |ok f ρ2=>
     rw[e2] at h
     simp only[Res.ż] at h ⊢
     cases f with
     |nx=>exact eZ n ρ2 h
     |ct=>exact eZ n ρ2 h
     |bk=>rfl
     |rt r=>rfl
theorem pF{mc:M Bool}{mb:M Fl}{n m:Nat}{ρ:Ő}(h:Ń mc mb n ρ≠ .bad)(hm:n≤m):Ń mc mb m ρ=Ń mc mb n ρ:= by
 induction hm with
 |refl=>rfl
 |step _ ih=>rw[eZ _ _ (by rw[ih];exact h),ih]
theorem ž{mc:M Bool}{mb:M Fl}{ρ:Ő}(n:Nat)(h:Ń mc mb n ρ≠ .bad):ŵ mc mb ρ=Ń mc mb n ρ:= by
 unfold ŵ
 have hx:∃n,Ń mc mb n ρ≠ .bad:=⟨n,h⟩
 rw[dif_pos hx]
 have hc:=Classical.choose_spec hx
 rcases Nat.le_total n (Classical.choose hx) with hle|hle
 ·exact pF h hle
 ·exact(pF hc hle).symm
theorem fj{mc:M Bool}{mb:M Fl}{ρ:Ő}:ŵ mc mb ρ=(mc ρ).bind fun b ρ1=>if b=true then(mb ρ1).bind fun f ρ2=>match f with
 | .nx=>ŵ mc mb ρ2
 | .ct=>ŵ mc mb ρ2
 | .bk=>.ok .nx ρ2
 | .rt r=>.ok (.rt r) ρ2 else .ok .nx ρ1:=by
 have go:∀ρ2,ŵ mc mb ρ2=.bad∨∃n,ŵ mc mb ρ2=Ń mc mb n ρ2∧Ń mc mb n ρ2≠ .bad:=fun ρ2=>by
  by_cases hx:∃n,Ń mc mb n ρ2≠ .bad
  ·obtain⟨n,h⟩:=hx
   exact .inr ⟨n,ž n h,h⟩
  ·left;unfold ŵ;rw[dif_neg hx]
 have Zg1:∀ρ2,ŵ mc mb ρ2=.bad→∀n,Ń mc mb n ρ2=.bad:=fun ρ2 h n=>by
  refine Classical.byContradiction fun z=>?_
  rw[ž n z] at h
  exact z h
 have fin:∀n,Ń mc mb (n+1) ρ≠ .bad→ŵ mc mb ρ=Ń mc mb (n+1) ρ:= fun n h=>ž _ h
 cases e:mc ρ with
 |bad=>rcases go ρ with h|⟨n,h1,h2⟩
       ·rw[h];rfl
       ·cases n with
        |zero=>exact absurd rfl h2
        |succ n=>rw[Ż,e] at h2;exact absurd rfl h2
 |exc x ρ1=>
  have h:Ń mc mb 1 ρ=.exc x ρ1:=by rw[Ż,e];rfl
  rw[ž 1 (by rw[h];intro z;cases z),h];rfl
 |ok b ρ1=>
  simp only[Res.ż]
  cases b with
  |false=>
   have h:Ń mc mb 1 ρ=.ok .nx ρ1:=by rw[Ż,e];rfl
   rw[ž 1 (by rw[h];intro z;cases z),h];rfl
  |true=>
   simp only[if_true]
   have one:∀n,Ń mc mb (n+1) ρ=(mb ρ1).bind fun f ρ2=>match f with
    | .nx=>Ń mc mb n ρ2
    | .ct=>Ń mc mb n ρ2
    | .bk=>.ok .nx ρ2
    | .rt r=>.ok (.rt r) ρ2:=fun n=>by rw[Ż,e];rfl
   cases e2:mb ρ1 with
   |bad=>
    rcases go ρ with h|⟨n,h1,h2⟩
    ·rw[h];rfl
    ·cases n with
     |zero=>exact absurd rfl h2
     |succ n=>rw[one,e2] at h2;exact absurd rfl h2
   |exc x ρ2=>
    have h:Ń mc mb 1 ρ=.exc x ρ2:=by rw[one,e2];rfl
    rw[ž 1 (by rw[h];intro z;cases z),h];rfl
   |ok f ρ2=>
    have turn:(∀n,Ń mc mb (n+1) ρ=Ń mc mb n ρ2)→ŵ mc mb ρ=ŵ mc mb ρ2:=fun hn=>by
     rcases go ρ2 with h|⟨n,h1,h2⟩
     ·rcases go ρ with h'|⟨n,h1,h2⟩
      ·rw[h,h']
      ·cases n with
       |zero=>exact absurd rfl h2
       |succ n=>rw[hn,Zg1 ρ2 h n] at h2;exact absurd rfl h2
     ·rw[h1,←hn n]
      exact fin n (by rw[hn n];exact h2)
    cases f with
    |nx=>exact turn fun n=>by rw[one,e2];rfl
    |ct=>exact turn fun n=>by rw[one,e2];rfl
    |bk=>
     have h:Ń mc mb 1 ρ=.ok .nx ρ2:=by rw[one,e2];rfl
     rw[ž 1 (by rw[h];intro z;cases z),h];rfl
    |rt r=>
     have h:Ń mc mb 1 ρ=.ok (.rt r) ρ2:=by rw[one,e2];rfl
     rw[ž 1 (by rw[h];intro z;cases z),h];rfl
theorem zK{c:Expr}{body:List Stmt}{mc:M Bool}{mb:M Fl}(hp:PassesOwn (model X.prog X.w) X.A X.env X.xe)(hc:PT X c (tB (kk X cm) E mc))(hb:kh X body (tS (kk X cm) E mb)):PS X (.While c body [] pos) (tS (kk X cm) E (ŵ mc mb)):=PS.wk (CQ hp hc hb) fun D σ H ⟨c,F,ρ,rel,h⟩=>by
 obtain⟨n,hn⟩:∃n,Ž (kk X cm) E c F D (Ń mc mb n ρ):=by
  by_cases hx:∃n,Ń mc mb n ρ≠ .bad
  ·obtain⟨n,hn⟩:=hx
   rw[ž n hn] at h
   exact⟨n,h⟩
  ·unfold ŵ at h
   rw[dif_neg hx] at h
   exact h.elim
 refine⟨fun m σ' H'=>∃F2 ρ2,Rel (kk X cm) c F2 H' σ' ρ2∧Same F F2∧Ž (kk X cm) E c F2 D (Ń mc mb m ρ2),⟨n,F,ρ,rel,Same.refl _,hn⟩,?_⟩
 rintro m σ1 H1 ⟨F1,ρ1,Ģ,s1,h1⟩
 cases m with
 |zero=>exact h1.elim
 |succ m=>
  rw[Ż] at h1
  refine⟨c,F1,ρ1,Ģ,Ž.bind h1 fun k ρ2 v F2 H2 ń s2 q h2=>?_⟩
  have e:k=v:=q
  subst e
  cases k with
  |false=>
   rw[if_neg Bool.false_ne_true]
   rw[if_neg Bool.false_ne_true] at h2
   exact h2 σ1 F2 H2 ń (Same.refl _)
  |true=>
   rw[if_pos rfl]
   rw[if_pos rfl] at h2
   refine⟨_,fun σ' H' z=>z,c,F2,ρ2,ń,?_⟩
   have nxt:∀{ρ3:Ő},Ž (kk X cm) E c F2 D (Ń mc mb m ρ3)→∀σ' F' H',Rel (kk X cm) c F' H' σ' ρ3→Same F2 F'→∃m',m'<m+1∧∃F2 ρ2,Rel (kk X cm) c F2 H' σ' ρ2∧Same F F2∧Ž (kk X cm) E c F2 D (Ń mc mb m' ρ2):=
    fun{ρ3} h3 σ' F' H' aK s'=>⟨m,Nat.lt_succ_self m,F',ρ3,aK,(s1.trans s2).trans s',Ž.mono h3 s'⟩
   cases e2:mb ρ2 with
   |bad=>rw[e2] at h2;exact h2
   |exc x ρ3=>rw[e2] at h2;exact h2
   |ok f ρ3=>
    rw[e2] at h2
    cases f with
    |nx=>exact nxt h2
    |ct=>exact nxt h2
    |bk=>exact h2
    |rt r=>exact h2
def gw(K:KK)(Lh F:Hp)(J:It)(items:List PV):Prop:=∀(c:Ctx) (i:Nat) (F2 H:Hp) (σ:L2.St) (ρ:Ő),Rel K c F2 H σ ρ→Same F F2→Same Lh H→
 (∀p,items[i]?=some p→J.go i H∧∀x H',J.yld i H x H'→∃F3,Rel K c F3 H' σ ρ∧Same F2 F3∧Same H H'∧Rep K F3 p x)∧(i=items.length→J.stop i H)
def rIt(K:KK):RR (List PV) It:=fun c _ _ F _ items J=>gw K c.L F J items
abbrev tI(K:KK)(E:L2.St→XK)(m:M (List PV)):TI:=tG K E (rIt K) m
def forL(g:Tg)(mb:M Fl):List PV→M Fl
 | [],ρ=>.ok .nx ρ
 |p::ps,ρ=>match g p ρ with
  |none=>.bad
  |some ρ1=>(mb ρ1).bind fun f ρ2=>match f with
   | .nx=>forL g mb ps ρ2
   | .ct=>forL g mb ps ρ2
   | .bk=>.ok .nx ρ2
   | .rt r=>.ok (.rt r) ρ2
def dH(mi:M (List PV))(g:Tg)(mb:M Fl):M Fl:=fun ρ=>(mi ρ).bind fun items ρ1=>forL g mb items ρ1
theorem bF{iter tg:Expr}{body:List Stmt}{mi:M (List PV)}{g:Tg}{mb:M Fl}(hp:PassesOwn (model X.prog X.w) X.A X.env X.xe)(hc:X.calm=true)(hi:PI X tg iter (tI (kk X cm) E mi))(hg:PG X tg (tT (kk X cm) g))(hb:kh X body (tS (kk X cm) E mb))
 (hs:∀x,foldedSetIterable iter X.env x=pure x:=by intro _;rfl):PS X (.For tg iter body [] pos) (tS (kk X cm) E (dH mi g mb)):=PS.wk (RZ hp hc hi hg hb hs) fun D σ H ⟨c,F,ρ,rel,h⟩=>⟨c,F,ρ,rel,Ž.bind h fun items ρ1 J F1 H1 Ģ s1 ito h1=>by
 refine⟨fun i m σ' H'=>∃F2 ρ2,i≤items.length∧m=items.length-i∧Rel (kk X cm) c F2 H' σ' ρ2∧Same F1 F2∧Ž (kk X cm) E c F2 D (forL g mb (items.drop i) ρ2),⟨_,F1,ρ1,Nat.zero_le _,rfl,Ģ,Same.refl _,h1⟩,?_⟩
 rintro i m σ2 H2 ⟨F2,ρ2,hle,rfl,ń,s2,h2⟩
 obtain⟨go,stop⟩:=ito c i F2 H2 σ2 ρ2 ń s2 fun b u e=>(ń.lent b u e).1
 by_cases hlt:i<items.length
 ·obtain⟨g1,g2⟩:=go items[i] (List.getElem?_eq_getElem hlt)
  rw[List.drop_eq_getElem_cons hlt] at h2
  unfold forL at h2
  refine .inr ⟨g1,_,fun σ' H' z=>z,fun x H3 hy=>?_⟩
  obtain⟨F3,qO,s3,_,rp⟩:=g2 x H3 hy
  refine⟨c,F3,ρ2,items[i],qO,rp,?_⟩
  cases eg:g items[i] ρ2 with
  |none=>rw[eg] at h2;exact h2.elim
  |some ρ3=>
   rw[eg] at h2
   dsimp only at h2
   intro σ4 tZ
   refine⟨c,F3,ρ3,tZ,?_⟩
   have nxt:∀{ρ4:Ő},Ž (kk X cm) E c F2 D (forL g mb (items.drop (i+1)) ρ4)→∀σ' F' H',Rel (kk X cm) c F' H' σ' ρ4→Same F3 F'→∃m',m'<items.length-i∧∃F2 ρ2,i+1≤items.length∧m'=items.length-(i+1)∧Rel (kk X cm) c F2 H' σ' ρ2∧Same F1 F2∧Ž (kk X cm) E c F2 D (forL g mb (items.drop (i+1)) ρ2):=
    fun{ρ4} h3 σ' F' H' aK s'=>⟨items.length-(i+1),by omega,F',ρ4,hlt,rfl,aK,(s2.trans s3).trans s',Ž.mono h3 (s3.trans s')⟩
   have h2':=Ž.mono h2 s3
   cases e2:mb ρ3 with
   |bad=>rw[e2] at h2;exact h2
   |exc x ρ4=>rw[e2] at h2';exact h2'
   |ok f ρ4=>
    rw[e2] at h2 h2'
    cases f with
    |nx=>exact nxt h2
    |ct=>exact nxt h2
    |bk=>exact h2'
    |rt r=>exact h2'
 ·have e:i=items.length:=by omega
  refine .inl ⟨stop e,?_⟩
  rw[List.drop_eq_nil_of_le (by omega)] at h2
  unfold forL at h2
  exact h2 σ2 F2 H2 ń (Same.refl _)⟩
end
end P
namespace P
open PySem PySem.Spec PyProof.Rows L2 M2 M3
inductive FR where
 |ret (r:RV)|exc (x:PX)|bad
abbrev MF:=List Slot→FR
def FR.of:Res Fl→FR
 | .ok (.rt r) _=>.ret r
 | .ok .nx _=>.ret (.sh .non)
 | .exc x _=>.exc x
 |_=>.bad
def ŋ(n k:Nat)(mb:M Fl):MF:=fun as=>if as.length=n then FR.of (mb (startP k as)) else .bad
def rF(K:KK)(H F' H':Hp):RV→V→Prop
 | .sh p,v=>Rep K F' p v
 | .ow ps,v=>∃a vs,v=.ref a∧H' a=some (.lst vs)∧F' a=none∧H a=none∧ġ K F' ps vs
 | .ot ps qs,v=>∃p a xs vs,v=.ref p∧F' p=some (.tup (xs ++ [.ref a]))∧ġ K F' ps xs∧H' a=some (.lst vs)∧F' a=none∧H a=none∧ġ K F' qs vs
def Zg2(K:KK)(E:XK)(F H:Hp)(Q:VK):FR→Prop
 | .ret r=>∀v F' H',Gr F H F' H'→rF K H F' H' r v→Q v H'
 | .exc x=>∀C d F' H',Gr F H F' H'→Mz K F' x C d→E C d H'
 | .bad=>False
def ak(K:KK)(n:Nat)(mf:MF):Sp:=fun vs H Q E=>∃F as,as.length=n∧Same F H∧Paired (bW K F H) as vs∧Zg2 K E F H Q (mf as)
def dI(CX:ou)(X:Cx)(E:L2.St→XK):Prop:=∀(pins:List (Addr×Obj)) (σ:L2.St) (H:Hp) (s:Shared) (e:Value) (s':Shared),Inv X pins σ H s→CX X.stack H s (E σ) e s'→X.xe e s'
section
variable{P:Program}{w:World}{K:PySem.W.Frag}{cm:String→Addr}{mg:Str→Option Value}{base:Heap}{CX:ou}
theorem fnP{x qual:Str}{st:Stmt}{f:Addr}{fd:FuncData}{N ps:List Str}{k:Nat}{mb:M Fl}(F:aJ K x qual st f fd)(S:ė N ps (ċ st))
 (hbody:∀(cdv:Value) (A:Around) (outer:List Env) (s:Shared) (H:Hp) (E:XK),bD k (A.deeper (envOfC qual (ċ st) s.heap.objs.size f cdv))→
   kh (bO CX P w K mg base N qual (ċ st) f cdv A outer s H E) (bQ st) (tS ⟨K,cm⟩ (fun _=>E) mb)):ľ P w K mg base CX (k+1) f fd ps (ak ⟨K,cm⟩ ps.length (ŋ ps.length N.length mb)):=by
 obtain⟨oc,od,kV,doc,pm,an,cdv,ct,osl,rfl,lk,hcd⟩:=F.ex
 refine Pn lk hcd S (fun vs H Q E ⟨F,ps',h1,_,h2,_⟩=>by rw[←Paired.length h2];exact h1) fun A outer s H vs Q E hr hsp=>?_
 obtain⟨F,ps',h1,h2,h3,h4⟩:=hsp
 refine⟨_,hbody cdv A outer s H E hr,ctx0 F H,F,startP N.length ps',Rel.start h2 h3,?_⟩
 unfold ŋ at h4
 rw[if_pos h1] at h4
 cases e:mb (startP N.length ps') with
 |bad=>rw[e] at h4;exact h4
 |exc x ρ'=>rw[e] at h4;exact fun σ' C d F' H' rel s1 q=>h4 C d F' H' rel.gr q
 |ok fl ρ'=>
  rw[e] at h4
  cases fl with
  |nx=>exact fun σ' F' H' rel s1=>h4 .non F' H' rel.gr (Rep.non (K:=⟨K,cm⟩) (F:=F'))
  |bk=>exact h4.elim
  |ct=>exact h4.elim
  |rt r=>
   intro v σ' F' H' rel s1 q
   refine h4 v F' H' rel.gr ?_
   cases r with
   |sh p=>exact q
   |ow qs=>
    obtain⟨a,vs',e1,e2,e3,e4,_,e5⟩:=q
    exact⟨a,vs',e1,e2,e3,e4,e5⟩
   |ot qs ts=>
    obtain⟨p,a,xs,vs',e1,e0,ex,e2,e3,e4,_,e5⟩:=q
    exact⟨p,a,xs,vs',e1,e0,ex,e2,e3,e4,e5⟩
theorem aV{x qual:Str}{st:Stmt}{f:Addr}{fd:FuncData}{N ps:List Str}{k n j:Nat}{mb:M Fl}{mf:MF}(F:aJ K x qual st f fd)(S:ė N ps (ċ st))(hn:ps.length=n)(hj:N.length=j)(hf:mf=ŋ n j mb)
 (hbody:∀(cdv:Value) (A:Around) (outer:List Env) (s:Shared) (H:Hp) (E:XK),bD k (A.deeper (envOfC qual (ċ st) s.heap.objs.size f cdv))→
   kh (bO CX P w K mg base N qual (ċ st) f cdv A outer s H E) (bQ st) (tS ⟨K,cm⟩ (fun _=>E) mb)):ľ P w K mg base CX (k+1) f fd ps (ak ⟨K,cm⟩ n mf):=by
 subst hn hj hf
 exact fnP F S hbody
end
def Ġ(mf:MF)(mr:M (List Slot)):M RV:=fun ρ=>(mr ρ).bind fun ps ρ1=>match mf ps with
 | .ret r=>.ok r ρ1
 | .exc x=>.exc x ρ1
 | .bad=>.bad
section
variable{X:Cx}{cm:String→Addr}{E:L2.St→XK}{CX:ou}{k n:Nat}{f:Addr}{fd:FuncData}{ps:List Str}{mf:MF}{mr:M (List Slot)}{x:Str}{p pos:Pos}{e:Expr}{es:List Expr}
theorem zL{sp:Sp}{pins:List (Addr×Obj)}{σ:L2.St}{H:Hp}{s:Shared}{Q:VK}{us:List Value}{vs:List V}(F:ľ X.prog X.w X.K X.mg X.base CX k f fd ps sp)(hr:bD k X.A)(hb:Binds X.K fd ps [])(hx:dI CX X E)
 (I:Inv X pins σ H s)(r:Vals vs us)(h:sp vs H Q (E σ)):wpAny (model X.prog X.w) X.A (call (.ref f) us) (EP X pins σ Q) X.xe s:=by
 have hl:(us ++ []).length=ps.length:=by rw[List.append_nil,←r.length];exact F.len _ _ _ _ h
 have hbd:=hb s us I.i_ hl
 rw[List.append_nil] at hbd
 refine wpAny_call (codeAny_mono (F.run X.A X.stack s H ⟨us,[]⟩ us vs Q (E σ) hr I.env0 hbd r h) fun r s' hq=>?_)
 cases r with
 |error e=>exact hx pins σ H s e s' I hq
 |ok fl=>
  cases fl with
  |ret u=>exact I.after hq
  |next=>exact False.elim hq
  |brk=>exact False.elim hq
  |cont=>exact False.elim hq
theorem uc{c:Ctx}{F1 H1:Hp}{σ:L2.St}{ρ1:Ő}{Q:VK}{ps:List Slot}{vs:List V}(hlen:(∃r,mf ps=r∧∀z,r=z→z≠ .bad)→ps.length=n)(Ģ:Rel (kk X cm) c F1 H1 σ ρ1)(r1:Paired (bW (kk X cm) F1 H1) ps vs)
 (h:aZ (kk X cm) E (rO (kk X cm)) c F1 H1 σ Q (match mf ps with| .ret r=>.ok r ρ1| .exc x=>.exc x ρ1| .bad=>.bad)):ak (kk X cm) n mf vs H1 Q (E σ):=by
 refine⟨F1,ps,?_,Ģ.sub,r1,?_⟩
 ·refine hlen ⟨_,rfl,fun z hz hb=>?_⟩
  rw[hz,hb] at h
  exact h
 ·cases em:mf ps with
  |bad=>rw[em] at h;exact h
  |exc x=>rw[em] at h;exact fun C d F' H' g rx=>h C d F' H' (Ģ.call g) g.f rx
  |ret r=>
   rw[em] at h
   intro v F' H' g rf
   refine h v F' H' (Ģ.call g) g.f g.h ?_
   cases r with
   |sh p=>exact rf
   |ow qs=>
    obtain⟨a,vs',e1,e2,e3,e4,e5⟩:=rf
    exact⟨a,vs',e1,e2,e3,Ģ.base.free e4,Ģ.lO g.f (Ģ.fresh e4),e5⟩
   |ot qs ts=>
    obtain⟨p,a,xs,vs',e1,e0,ex,e2,e3,e4,e5⟩:=rf
    exact⟨p,a,xs,vs',e1,e0,ex,e2,e3,Ģ.base.free e4,Ģ.lO g.f (Ģ.fresh e4),e5⟩
theorem Č{n k:Nat}{mb:M Fl}{ps:List Slot}(h:∃r,ŋ n k mb ps=r∧∀z,r=z→z≠ .bad):ps.length=n:=by
 obtain⟨r,h1,h2⟩:=h
 unfold ŋ at h1
 by_cases hl:ps.length=n
 ·exact hl
 ·rw[if_neg hl] at h1
  exact absurd h1.symm (fun z=>h2 .bad (by rw[←h1]) rfl)
theorem Ĕ(F:ľ X.prog X.w X.K X.mg X.base CX k f fd ps (ak (kk X cm) n mf))(hlen:∀{ps:List Slot},(∃r,mf ps=r∧∀z,r=z→z≠ .bad)→ps.length=n)(hr:bD k X.A)(hg:Gl X x)(hm:X.mg x=some (.ref f))(hk:PySem.W.keepIn X.K (.ref f)=true)(hb:Binds X.K fd ps [])(hx:dI CX X E)
 (ha:PA X (e::es) (tA (kk X cm) E mr))(hdb:(x== ("__debug__" :Str))=false:=by decide)(he:starEach (e::es) X.env=(false,eval e X.env)::starEach es X.env:=by exact ć rfl)(hpl:(backTo pos (starEach es X.env)).any (·.1)=false:=by rfl) :
 PE X (.Call (.Name x p) (e::es) [] pos) (tO (kk X cm) E (Ġ mf mr)):=by
 intro pins s σ H Q I h
 obtain⟨c,F,ρ,rel,h⟩:=h
 refine wpAny_Call_Name_kw (lg I hg hm ?_ hdb)
 refine PySem.W.callWith_K (h₀:= X.base) I.ok.mod.kin hk (ű (ha pos pins s σ H (fun vs H1=>ak (kk X cm) n mf vs H1 Q (E σ)) I ⟨c,F,ρ,rel,h.bind fun ps' ρ1 vs F1 H1 Ģ _ _ r1 h1=>uc hlen Ģ r1 h1⟩) fun us s1 ⟨vs,H1,I1,r,q⟩=>⟨I1.i_,?_⟩) he hpl
 exact zL (by assumption) hr hb hx I1 r q
end
def ů(m:M PV):M (List PV):=fun ρ=>(m ρ).bind fun p ρ1=>match p with
 | .lst ps=>.ok ps ρ1
 | .tup ps=>.ok ps ρ1
 | .str z=>.ok (z.cps.toList.map fun c=>.str ⟨#[c]⟩) ρ1
 |_=>.bad
section
variable{X:Cx}{cm:String→Addr}{E:L2.St→XK}{tg:Expr}
def Zg3(K:PySem.W.Frag)(tl:TE):TI:=fun σ H R=>tl σ H fun x H1=>(∃a,x=.ref a∧(∃xs,aB K H1 a xs)∧R (YK K a) H1)∨(∃a,x=.ref a∧(∃xs,cF K H1 a xs)∧R (Itt K a) H1)∨∃z,x=.str z∧R (Its z) H1
theorem Eb{l:Expr}{tl:TE}(hl:PE X l tl):PI X tg l (Zg3 X.K tl):=by
 intro pins s σ H R I h
 refine ű (hl pins s σ H _ I h) fun v s1 ⟨x,H1,I1,r1,q1⟩=>?_
 rcases q1 with⟨a,e,⟨xs,hq⟩,q⟩|⟨a,e,⟨xs,hq⟩,q⟩|⟨z,e,q⟩
 ·subst e
  cases r1
  obtain⟨its,rv,p,hz⟩:=I1.list hq
  refine wpAny_pyIter_list p.isList ?_
  refine⟨s1.heap.objs.size,[s1.heap.objs.size],_,_,H1,rfl,I1.kept (t':=s1.toks) fun b o e=>Heap.get?_push_of_some _ e,Ax a _,⟨_,Heap.get?_push_size _ rfl,rfl,rfl⟩,fun b hb=>?_,q⟩
  have e:b=s1.heap.objs.size:=by simpa using hb
  subst e
  exact I1.CT (Nat.le_refl _) (I1.hok.fresh (Nat.le_refl _))
 ·subst e
  cases r1
  obtain⟨its,rv,p,hz⟩:=I1.tuple hq
  refine wpAny_pyIter_tuple (show s1.heap.IsTuple a its.toArray from p) ?_
  refine⟨s1.heap.objs.size,[s1.heap.objs.size],_,_,H1,rfl,I1.kept (t':=s1.toks) fun b o e=>Heap.get?_push_of_some _ e,wj a _,⟨_,Heap.get?_push_size _ rfl,rfl,rfl⟩,fun b hb=>?_,q⟩
  have e:b=s1.heap.objs.size:=by simpa using hb
  subst e
  exact I1.CT (Nat.le_refl _) (I1.hok.fresh (Nat.le_refl _))
 ·subst e
  obtain⟨t,rfl⟩:=r1
  have fin:∀ty,(∀A:Around,A.handled=none→Walks X.prog X.w A s1.heap.objs.size [s1.heap.objs.size] [s1.heap.objs.size] z.cps.size (SignAt z) (fun i h=>h.IsStrIter s1.heap.objs.size ty z t i))→
   (∀(A:Around) (i:Nat) (s:Shared) (Q:Value→Shared→Prop) (E:Value→Shared→Prop),s.heap.IsStrIter s1.heap.objs.size ty z t i→Q (.ref s1.heap.objs.size) s→wpAny (model X.prog X.w) A (pyIter (.ref s1.heap.objs.size)) Q E s)→
   (["enumerate","zip","dict_itemiterator","dict_reverseitemiterator","odict_iterator","itertools.zip_longest","itertools.pairwise"].contains ty=false)→
   PIE X pins σ tg R (.ref s1.heap.objs.size) {s1 with heap:=s1.heap.push {cls:=.type ty,data:=.fields #[.str z t,.int 0 0]}}:=fun ty hW hS hty=>by
   refine⟨s1.heap.objs.size,[s1.heap.objs.size],_,_,H1,rfl,I1.kept (t':=s1.toks) fun b o e=>Heap.get?_push_of_some _ e,Bl _ z t ty hW hS hty,⟨_,Heap.get?_push_size _ rfl,rfl,rfl⟩,fun b hb=>?_,q⟩
   have e:b=s1.heap.objs.size:=by simpa using hb
   subst e
   exact I1.CT (Nat.le_refl _) (I1.hok.fresh (Nat.le_refl _))
  cases ha:z.cps.all (·< 128) with
  |true=>exact wpAny_pyIter_ascii ha (fin _ (fun A hA=>Walks.strAscii hA _ z t) (fun A i s Q E st q=>wpAny_pyIter_striter_ascii st q) (by decide))
  |false=>exact wpAny_pyIter_wide ha (fin _ (fun A hA=>Walks.strWide hA _ z t) (fun A i s Q E st q=>wpAny_pyIter_striter_wide st q) (by decide))
theorem cW{l:Expr}{m:M PV}(hl:PE X l (tV (kk X cm) E m)):PI X tg l (tI (kk X cm) E (ů m)):=fun pins s σ H R I h=>Eb hl pins s σ H R I (by
 obtain⟨c,F,ρ,rel,h⟩:=h
 refine⟨c,F,ρ,rel,h.bind fun p ρ1 v F1 H1 Ģ s1 s2 q h1=>?_⟩
 cases p with
 |lst ps=>
  have q':Rep (kk X cm) F1 (.lst ps) v:=q
  unfold Rep at q'
  obtain⟨a,vs,rfl,e1,e2⟩:=q'
  refine .inl ⟨a,rfl,⟨vs,Ģ.sub.seq e1⟩,h1 _ F1 H1 Ģ (Same.refl _) (Same.refl _) ?_⟩
  intro c' i F2 H2 σ2 ρ2 ń sF _
  have hq:aB X.K H2 a vs:=(sF.trans ń.sub).seq e1
  refine⟨fun p hp=>?_,fun hi=>⟨vs,hq,by rw[hi,e2.length];exact Nat.le_refl _⟩⟩
  obtain⟨u,hu,ru⟩:=bV e2.pr hp
  refine⟨⟨vs,u,hq,hu⟩,fun x H' ⟨hH,hx⟩=>?_⟩
  subst hH
  have:vs[i]?=some x:=hx vs hq
  rw[hu] at this
  cases this
  exact⟨F2,ń,Same.refl _,Same.refl _,Rep.same sF p u ru⟩
 |tup ps=>
  have q':Rep (kk X cm) F1 (.tup ps) v:=q
  unfold Rep at q'
  obtain⟨a,vs,rfl,e1,e2⟩:=q'
  refine .inr (.inl ⟨a,rfl,⟨vs,Same.tup Ģ.sub e1⟩,h1 _ F1 H1 Ģ (Same.refl _) (Same.refl _) ?_⟩)
  intro c' i F2 H2 σ2 ρ2 ń sF _
  have hq:cF X.K H2 a vs:=Same.tup (sF.trans ń.sub) e1
  refine⟨fun p hp=>?_,fun hi=>⟨vs,hq,by rw[hi,e2.length];exact Nat.le_refl _⟩⟩
  obtain⟨u,hu,ru⟩:=bV e2.pr hp
  refine⟨⟨vs,u,hq,hu⟩,fun x H' ⟨hH,hx⟩=>?_⟩
  subst hH
  have:vs[i]?=some x:=hx vs hq
  rw[hu] at this
  cases this
  exact⟨F2,ń,Same.refl _,Same.refl _,Rep.same sF p u ru⟩
 |str z=>
  have q':v=.str z:=by have q':Rep (kk X cm) F1 (.str z) v:=q;unfold Rep at q';exact q'
  subst q'
  refine .inr (.inr ⟨z,rfl,h1 _ F1 H1 Ģ (Same.refl _) (Same.refl _) ?_⟩)
  intro c' i F2 H2 σ2 ρ2 ń sF _
  refine⟨fun p hp=>?_,fun hi=>by rw[hi,List.length_map];show _=_;simp⟩
  rw[List.getElem?_map] at hp
  cases ez:z.cps.toList[i]? with
  |none=>rw[ez] at hp;cases hp
  |some cc=>
   rw[ez] at hp
   cases hp
   refine⟨by have:=(List.getElem?_eq_some_iff.mp ez).1;show i<z.cps.size;simpa using this,fun x H' ⟨hH,c2,hc,hx⟩=>?_⟩
   subst hH hx
   rw[ez] at hc
   cases hc
   exact⟨F2,ń,Same.refl _,Same.refl _,Rep.str⟩
 |_=>exact h1.elim)
def ţ(i:Nat):M (List PV):=fun ρ=>match ρ[i]? with
 |some (.bw ps)=>.ok ps ρ
 |some (.sh (.lst ps))=>.ok ps ρ
 |some (.sh (.tup ps))=>.ok ps ρ
 |some (.sh (.str z))=>.ok (z.cps.toList.map fun c=>.str ⟨#[c]⟩) ρ
 |some (.ow ps)=>.ok ps (ρ.set i (.sh (.lst ps)))
 |_=>.bad
theorem ao(i:Nat){x:Str}{px:Pos}(hN:X.N[i]?=some x:=by rfl)(hv:Cw X.env.scope x:=by first|exact Or.inl rfl|exact Or.inr (Or.inl rfl)|exact Or.inr (Or.inr rfl))(hd:(x== ("__debug__" :Str))=false:=by decide)
 (hcd:(x== ("__classdict__" :Str))=false:=by decide):PI X tg (.Name x px) (tI (kk X cm) E (ţ i)):=fun pins s σ H R I h=>by
 obtain⟨c,F,ρ,rel,h⟩:=h
 cases e:ρ[i]? with
 |none=>unfold ţ at h;rw[e] at h;exact h.elim
 |some sl=>
  have Nb:aZ (kk X cm) E (rIt (kk X cm)) c F H σ R (ů (đ i) ρ)→wpAny (model X.prog X.w) X.A (eval (.Name x px) X.env) (fun v s1=>wpAny (model X.prog X.w) X.A (pyIter v) (PIE X pins σ tg R) X.xe s1) X.xe s:=fun h'=>
   cW (v_var i hN hv hd hcd) pins s σ H R I ⟨c,F,ρ,rel,h'⟩
  unfold ţ at h
  rw[e] at h
  cases sl with
  |no=>exact h.elim
  |rc C ns ps=>exact h.elim
  |ot ps qs=>exact h.elim
  |ow ps=>exact Nb (by unfold ů đ;rw[e];exact h)
  |sh p=>
   cases p with
   |lst ps=>exact Nb (by unfold ů đ;rw[e];exact h)
   |tup ps=>exact Nb (by unfold ů đ;rw[e];exact h)
   |str z=>exact Nb (by unfold ů đ;rw[e];exact h)
   |_=>exact h.elim
  |bw ps=>
   obtain⟨a,vs,h1,h2,h3⟩:=rel.slot i _ e
   refine Eb (eE hN hv hd hcd) pins s σ H R I ⟨.ref a,at_of h1,.inl ⟨a,rfl,⟨vs,aB.of (rel.lent a _ h2).1⟩,h _ F H rel (Same.refl _) (Same.refl _) ?_⟩⟩
   intro c' j F2 H2 σ2 ρ2 ń sF sL
   have hq:aB X.K H2 a vs:=aB.of (sL a _ h2)
   refine⟨fun p hp=>?_,fun hi=>⟨vs,hq,by rw[hi,h3.length];exact Nat.le_refl _⟩⟩
   obtain⟨u,hu,ru⟩:=bV h3.pr hp
   refine⟨⟨vs,u,hq,hu⟩,fun x H' ⟨hH,hx⟩=>?_⟩
   subst hH
   have:vs[j]?=some x:=hx vs hq
   rw[hu] at this
   cases this
   exact⟨F2,ń,Same.refl _,Same.refl _,Rep.same sF p u ru⟩
def fu(lo:Int)(n:Nat)(c:Int):List PV:=(List.range n).map fun(i:Nat)=>.int (lo+i*c)
def lU(i:Int):Bool:=decide (i.natAbs<1152921504606846976)
def bL:List PV→Option (List PV)
 | [.int j]=>if lU j=true then some (fu 0 j.toNat 1) else none
 |_=>none
def cj(f:List PV→Option (List PV))(mr:M (List PV)):M (List PV):=fun ρ=>(mr ρ).bind fun ps ρ1=>Res.lA (f ps) ρ1
theorem wR{lo c:Int}{n i:Nat}{p:PV}(h:(fu lo n c)[i]?=some p):i<n∧p=.int (lo+i*c):=by
 unfold fu at h
 by_cases hn:i<n
 ·rw[List.getElem?_map,List.getElem?_range hn] at h
  exact⟨hn,(Option.some.inj h).symm⟩
 ·rw[List.getElem?_eq_none (by simpa using hn)] at h
  cases h
theorem wU{lo c:Int}{n:Nat}:(fu lo n c).length=n:=by simp[fu]
theorem Ud{K:KK}{Lh F:Hp}(lo:Int)(n:Nat):gw K Lh F (Itr lo n) (fu lo n 1):=fun c i F2 H σ ρ rel sF _=>
 ⟨fun p hp=>by
   obtain⟨h1,rfl⟩:=wR hp
   refine⟨h1,fun x H' ⟨e1,e2⟩=>?_⟩
   subst e1 e2
   exact⟨F2,rel,Same.refl _,Same.refl _,by rw[Int.mul_one];exact Rep.int⟩,fun hi=>by rw[wU] at hi;subst hi;exact Nat.le_refl _⟩
theorem Bq{i:Int}(h:lU i=true): -(2 ^ 60)≤i∧i<2 ^ 60:=by
 unfold lU at h
 rw[decide_eq_true_eq] at h
 omega
variable{a b d:Expr}{p pos:Pos}{mr:M (List PV)}
theorem Ec{K:KK}{F:Hp}{ps:List PV}{vs:List V}(h:ġ K F ps vs):(∀i r,ps=.int i::r→∃r',vs=.int i::r'∧ġ K F r r')∧(ps=[]→vs=[]):=by
 refine⟨fun i r e=>?_,fun e=>?_⟩
 ·subst e
  unfold ġ at h
  obtain⟨x,r',h1,h2,h3⟩:=h
  unfold Rep at h2
  exact⟨r',by rw[h1,h2],h3⟩
 ·subst e
  unfold ġ at h
  exact h
theorem aM(hg:Gl X "range")(hm:X.mg "range" =none)(ha:PA X [a] (tL (kk X cm) E mr))(hs:starEach [a] X.env=[(false,eval a X.env)]:=by exact ć rfl):PI X tg (.Call (.Name "range" p) [a] [] pos) (tI (kk X cm) E (cj bL mr)):=
 fun pins s σ H R I h=>Ay hg hm ha hs pins s σ H R I (by
  obtain⟨c,F,ρ,rel,h⟩:=h
  refine⟨c,F,ρ,rel,h.bind fun ps ρ1 vs F1 H1 Ģ s1 s2 q h1=>?_⟩
  have q':ġ (kk X cm) F1 ps vs:=q
  unfold bL at h1
  split at h1
  ·rename_i j
   split at h1
   ·rename_i hj
    obtain⟨r',e1,e2⟩:=(Ec q').1 _ _ rfl
    cases(Ec e2).2 rfl
    obtain⟨k1,k2⟩:=Bq hj
    exact⟨j,e1,by omega,by omega,h1 _ F1 H1 Ģ (Same.refl _) (Same.refl _) (Ud 0 j.toNat)⟩
   ·exact h1.elim
  ·exact h1.elim)
end
def ud:Slot→Slot
 | .sh p=>.sh p
 | .ow ps=>.bw ps
 | .bw ps=>.bw ps
 |_=>.no
def uf(js:List Nat)(nl:Nat)(ρ:Ő):Ő:=js.map (fun(j:Nat)=>ud ((ρ[j]?).getD .no))++List.replicate nl .no
def ŗ(g:Tg)(mt:M Bool)(me:M PV):List PV→Ő→List PV→Option (List PV)
 | [],_,acc=>some acc
 |p::ps,ρ,acc=>match g p ρ with
  |none=>none
  |some ρ1=>match mt ρ1 with
   | .ok true ρ2=>match me ρ2 with
     | .ok q ρ3=>if acc.length<16777216 then ŗ g mt me ps ρ3 (acc ++ [q]) else none
     |_=>none
   | .ok false ρ2=>ŗ g mt me ps ρ2 acc
   |_=>none
def Ų(js:List Nat)(nl:Nat)(mi:M (List PV))(g:Tg)(mt:M Bool)(me:M PV):M RV:=fun ρ=>(mi ρ).bind fun items ρ1=>match ŗ g mt me items (uf js nl ρ1) [] with
 |some ps=>.ok (.ow ps) ρ1
 |none=>.bad
abbrev EF:L2.St→XK:=fun _ _ _ _=>False
def Ŗ:M Bool:=fun ρ=>.ok true ρ
section
variable{K:KK}{c:Ctx}{F H:Hp}{σ:L2.St}{ρ:Ő}
def oJ(F H H1:Hp):Ctx:=⟨H1,F,(ctx0 F H).L,fun _ _ _=>True⟩
theorem Rel.cap(js:List Nat)(nl:Nat)(rel:Rel K c F H σ ρ){D:Addr}{o:HO}(hD:H D=none):Rel K (oJ F H (upd H D o)) F (upd H D o) (eO js nl σ) (uf js nl ρ) where
 sub:=rel.sub.trans (Same.upd hD)
 base:=Same.refl _
 f0:=Same.refl _
 cQ:=fun _ _ z=>z
 lent:=fun a u e=>⟨Same.upd hD a u (eU e).1,(eU e).2⟩
 lb:=fun a e=>by
   cases q:(oJ F H (upd H D o)).L a with
   |none=>rfl
   |some u=>
    have e':upd H D o a=none:=e
    rw[Same.upd hD a u (eU q).1] at e'
    cases e'
 len:=by simp[eO,uf]
 slot:= fun i s e=>by
  unfold uf at e
  by_cases hi:i<js.length
  ·rw[List.getElem?_append_left (by simpa using hi),List.getElem?_map] at e
   cases ej:js[i]? with
   |none=>rw[ej] at e;cases e
   |some j=>
    rw[ej] at e
    have e':ud ((ρ[j]?).getD .no)=s:=Option.some.inj e
    subst e'
    have hx:((eO js nl σ)[i]?).getD none=(σ[j]?).getD none:=by
     unfold eO
     rw[List.getElem?_append_left (by simpa using hi),List.getElem?_map,ej]
     rfl
    rw[hx]
    cases er:ρ[j]? with
    |none=>trivial
    |some sl=>
     have q:=rel.slot j sl er
     cases sl with
     |no=>trivial
     |sh p=>exact q
     |ow ps=>
      obtain⟨a,vs,h1,h2,h3,h4,h5⟩:=q
      refine⟨a,vs,h1,?_,h5⟩
      show(match F a with|none=>H a|some _=>none)=_
      rw[h3]
      exact h2
     |bw ps=>
      obtain⟨a,vs,h1,h2,h3⟩:=q
      obtain⟨l1,l2⟩:=rel.lent a _ h2
      refine⟨a,vs,h1,?_,h3⟩
      show(match F a with|none=>H a|some _=>none)=_
      rw[l2]
      exact l1
     |rc C ns ps=>trivial
     |ot ps qs=>trivial
  ·rw[List.getElem?_append_right (by simpa using hi),List.getElem?_replicate] at e
   split at e
   ·cases e;trivial
   ·cases e
 sep:=fun i j a h1 _=>by
  exfalso
  obtain⟨s,y,h1,_,h2⟩:=h1
  have h2:=gU h2
  unfold uf at h1
  by_cases hi:i<js.length
  ·rw[List.getElem?_append_left (by simpa using hi),List.getElem?_map] at h1
   cases ej:js[i]? with
   |none=>rw[ej] at h1;cases h1
   |some j=>
    rw[ej] at h1
    have e':ud ((ρ[j]?).getD .no)=s:=Option.some.inj h1
    subst e'
    cases q:(ρ[j]?).getD .no<;>rw[q] at h2<;>cases h2
  ·rw[List.getElem?_append_right (by simpa using hi),List.getElem?_replicate] at h1
   split at h1
   ·cases h1;cases h2
   ·cases h1
theorem Rel.rebase{H1 F1:Hp}{D:Addr}{ys zs:List V}(hD:H1 D=none)(hF:F1 D=none)(rel:Rel K (oJ F1 H1 (upd H1 D (.lst ys))) F H σ ρ):Rel K (oJ F1 H1 (upd H1 D (.lst zs))) F (upd H D (.lst zs)) σ ρ:= by
 have fD:F D=none:=rel.cQ D (by show upd H1 D _ D≠none;rw[Ĳ];intro z;cases z) hF
 have lD:∀b u,(oJ F1 H1 (upd H1 D (.lst ys))).L b=some u→b≠D:=fun b u e z=>by
  have q:=(eU (F:=F1) (H:=H1) (a:=b) (u:=u) e).1
  rw[z,hD] at q
  cases q
 have ne:∀b,(oJ F1 H1 (upd H1 D (.lst ys))).B b=none→b≠D:=fun b z q=>by
  subst q
  have z':upd H1 b (.lst ys) b=none:=z
  rw[Ĳ] at z';cases z'
 have back:∀b,b≠D→(oJ F1 H1 (upd H1 D (.lst ys))).B b=none→(oJ F1 H1 (upd H1 D (.lst zs))).B b=none:=fun b hb z=>by
  have z':upd H1 D (.lst ys) b=none:=z
  show upd H1 D (.lst zs) b=none
  rw[Į hb] at z' ⊢;exact z'
 refine⟨fun b u e=>?_,fun b u e=>?_,rel.f0,fun b h1 h2=>?_,fun b u e=>?_,fun b e=>?_,rel.len,fun i s e=>?_,rel.sep⟩
 ·have hb:b≠D:=fun z=>by rw[z,fD] at e;cases e
  rw[Į hb];exact rel.sub b u e
 ·by_cases hb:b=D
  ·subst hb
   have e':upd H1 b (.lst zs) b=some u:=e
   rw[Ĳ] at e' ⊢;exact e'
  ·have e':upd H1 D (.lst zs) b=some u:=e
   rw[Į hb] at e' ⊢
   exact rel.base b u (by show upd H1 D _ b=some u;rw[Į hb];exact e')
 ·refine rel.cQ b (fun z=>h1 ?_) h2
  exact back b (ne b z) z
 ·rw[Į (lD b u e)]
  exact rel.lent b u e
 ·refine rel.lb b ?_
  have z':upd H1 D (.lst zs) b=none:=e
  have hb:b≠D:=fun q=>by rw[q,Ĳ] at z';cases z'
  show upd H1 D (.lst ys) b=none
  rw[Į hb] at z' ⊢;exact z'
 ·have q:=rel.slot i s e
  cases s with
  |no=>trivial
  |sh p=>exact q
  |bw ps=>exact q
  |ow ps=>
   obtain⟨a,vs,q1,q2,q3,q4,q5⟩:=q
   have hb:=ne a q4
   exact⟨a,vs,q1,by rw[Į hb];exact q2,q3,back a hb q4,q5⟩
  |rc C ns ps=>
   obtain⟨a,dx,fs,q1,q2,q3,q4,q5⟩:=q
   have hb:=ne a q4
   exact⟨a,dx,fs,q1,by rw[Į hb];exact q2,q3,back a hb q4,q5⟩
  |ot ps qs=>
   obtain⟨p,a,xs,vs,q1,q0,qx,q2,q3,q4,q5⟩:=q
   have hb:=ne a q4
   exact⟨p,a,xs,vs,q1,q0,qx,by rw[Į hb];exact q2,q3,back a hb q4,q5⟩
end
section
variable{X:Cx}{cm:String→Addr}{E:L2.St→XK}{elt tg iter:Expr}{ifs:List Expr}{scope:Scope}{pos:Pos}{mi:M (List PV)}{g:Tg}{mt:M Bool}{me:M PV}
theorem ũ:YL X [] (tB (kk X cm) E Ŗ):=fun pins s σ H Q I h=>Mq pins s σ H Q I (by
 obtain⟨c,F,ρ,rel,h⟩:=h
 exact h true F H rel (Same.refl _) (Same.refl _) rfl)
theorem ug{js:List Nat}{nl:Nat}{σ:L2.St}{H:Hp}{Q:VK}(h:tO (kk X cm) E (Ų js nl mi g mt me) σ H Q):Du js nl (tI (kk X cm) E mi) (tT (kk X cm) g) (tB (kk X cm) EF mt) (tV (kk X cm) EF me) σ H Q:=by
 obtain⟨c,F,ρ,rel,h⟩:=h
 refine⟨c,F,ρ,rel,h.bind fun items ρ1 J F1 H1 Ģ s1 s2 ito h1=>?_⟩
 intro D hD
 have hF:F1 D=none:=Ģ.sub.free hD
 cases ec:ŗ g mt me items (uf js nl ρ1) [] with
 |none=>rw[ec] at h1;exact h1.elim
 |some res=>
  rw[ec] at h1
  refine⟨fun i m σ' H'=>∃F' ρ' ys acc,i≤items.length∧m=items.length-i∧Rel (kk X cm) (oJ F1 H1 (upd H1 D (.lst ys))) F' H' σ' ρ'∧ġ (kk X cm) F' acc ys∧ŗ g mt me (items.drop i) ρ' acc=some res,
   ⟨_,F1,_,[],[],Nat.zero_le _,rfl,?_,ġ.nil,ec⟩,?_⟩
  ·exact Ģ.cap js nl hD
  ·rintro i m σ2 H2 ⟨F2,ρ2,ys,acc,hle,rfl,ń,ra,h2⟩
   have s12:Same F1 F2:=ń.f0
   have ZaN:∀{b:Addr} {u:HO},c.L b=some u→(oJ F1 H1 (upd H1 D (.lst ys))).L b=some u:=fun{b u} e=>by
    obtain⟨l1,l2⟩:=Ģ.lent b u e
    show(match F1 b with|none=>H1 b|some _=>none)=some u
    rw[l2]
    exact l1
   obtain⟨go,stop⟩:=ito _ i F2 H2 σ2 ρ2 ń s12 fun b u e=>(ń.lent b u (ZaN e)).1
   have hH2:H2 D=some (.lst ys):=ń.base D _ (show upd H1 D _ D=_ from Ĳ)
   have fD:F2 D=none:=ń.cQ D (by show upd H1 D _ D≠none;rw[Ĳ];intro z;cases z) hF
   by_cases hlt:i<items.length
   ·obtain⟨g1,g2⟩:=go items[i] (List.getElem?_eq_getElem hlt)
    rw[List.drop_eq_getElem_cons hlt] at h2
    unfold ŗ at h2
    refine .inr ⟨g1,_,fun σ' H' z=>z,fun x H3 hy=>?_⟩
    obtain⟨F3,qO,s3,sH3,rp⟩:=g2 x H3 hy
    refine⟨_,F3,ρ2,items[i],qO,rp,?_⟩
    cases eg:g items[i] ρ2 with
    |none=>rw[eg] at h2;cases h2
    |some ρ3=>
     rw[eg] at h2
     dsimp only at h2
     intro σ4 tZ
     refine⟨_,F3,ρ3,tZ,?_⟩
     cases em:mt ρ3 with
     |bad=>rw[em] at h2;cases h2
     |exc x ρ4=>rw[em] at h2;cases h2
     |ok b ρ4=>
      rw[em] at h2
      intro b' F5 H5 ZaO s5 Py eb
      have eb':b=b':=eb
      subst eb'
      cases b with
      |false=>
       rw[if_neg Bool.false_ne_true]
       dsimp only at h2
       exact⟨items.length-(i+1),by omega,F5,ρ4,ys,acc,hlt,rfl,ZaO,ġ.same (s3.trans s5) acc ys ra,h2⟩
      |true=>
       rw[if_pos rfl]
       dsimp only at h2
       refine⟨_,F5,ρ4,ZaO,?_⟩
       cases ee:me ρ4 with
       |bad=>rw[ee] at h2;cases h2
       |exc x ρ5=>rw[ee] at h2;cases h2
       |ok q ρ5=>
        rw[ee] at h2
        dsimp only at h2
        intro y F6 H6 ZaP s6 s6' rq
        split at h2
        ·rename_i hz
         have ra6:=ġ.same ((s3.trans s5).trans s6) acc ys ra
         refine⟨ys,ZaP.base D _ (show upd H1 D _ D=_ from Ĳ),by rw[←ra6.length,Ŋ];exact hz,?_⟩
         exact⟨items.length-(i+1),by omega,F6,ρ5,ys ++ [y],acc ++ [q],hlt,rfl,ZaP.rebase hD hF,ġ.append ra6 (ġ.cons rq ġ.nil),h2⟩
        ·cases h2
   ·have e:i=items.length:=by omega
    refine .inl ⟨stop e,?_⟩
    rw[List.drop_eq_nil_of_le (by omega)] at h2
    unfold ŗ at h2
    cases h2
    have gr:Gr F1 H1 F2 H2:=⟨fun b u e=>ń.base b u (by show upd H1 D _ b=_;rw[Į (ő e hD)];exact e),s12,ń.sub,fun b hb hf=>ń.cQ b (by
     show upd H1 D _ b≠none
     by_cases hbD:b=D
     ·rw[hbD,Ĳ];intro z;cases z
     ·rw[Į hbD];exact hb) hf⟩
    have Zg4:=Ģ.call gr
    exact h1 _ F2 H2 Zg4 s12 gr.h ⟨D,ys,rfl,hH2,fD,Ģ.base.free hD,Ģ.lO gr.f (Ģ.fresh hD),ra⟩
theorem aq(N':List Str)(js:List Nat)(nl:Nat)(sc:Scope)(hsc:X.env.scope=sc)(hcalm:X.calm=true)
 (hi:PI X.aj tg iter (tI (kk X cm) E mi))(hg:∀cl C s H fp,PG (fU X.aj N' scope cl C s H fp) tg (tT (kk X cm) g))(ht:∀cl C s H fp,YL (fU X.aj N' scope cl C s H fp) ifs (tB (kk X cm) EF mt))(he:∀cl C s H fp,PE (fU X.aj N' scope cl C s H fp) elt (tV (kk X cm) EF me))
 (hcap:lK X.aj sc scope N' js)(hlen:js.length+nl=N'.length:=by rfl)
 (hk:scope.kind=.function:=by rfl)(hcell:∀y∈scope.names,y.2=.cell→scope.names.lookup y.1=some .cell:=by decide +kernel)(hnames:∀y∈scope.names,y.2=.local→scope.names.lookup y.1=some .local:=by decide +kernel)
 (hfree:∀y∈scope.names,y.2=.free→(sc.names.lookup y.1=some .cell∨sc.names.lookup y.1=some .free):=by decide +kernel)
 (hs:∀x,foldedSetIterable iter X.env x=pure x:=by intro _;rfl) :
 PE X (.ListComp elt [⟨tg,iter,ifs,0⟩] scope pos) (tO (kk X cm) E (Ų js nl mi g mt me)):=
 PE.wk (PE.aj (Mr N' js nl sc hsc hcalm hi hg ht he hcap hlen hk hcell hnames hfree hs)) fun _ _ _ h=>ug h
end
end P
namespace P
open PySem PySem.Spec PyProof.Rows L2 M2 M3 M4
abbrev bits(x:Int):Nat:=Builtin.Int.intBits x
section
variable{X:Cx}{cm:String→Addr}{K:KK}
def Pz(K:PySem.W.Frag):R2:=fun x y H Q=>∃l b xs zs,x=.ref l∧y=.ref b∧aB K H l xs∧aB K H b zs∧xs.length+zs.length≤sizeLine∧∀p,H p=none→Q (.ref p) (upd H p (.lst (xs++zs)))
theorem Nf:aY X (binaryOp .Add) (Pz X.K):=by
 intro pins s σ H x y v u Q I rx ry h
 obtain⟨l,b,xs,zs,rfl,rfl,hH,hB,hz,q⟩:=h
 cases rx
 cases ry
 obtain⟨its,r,pl,z⟩:=I.list hH
 obtain⟨its2,r2,pl2,z2⟩:=I.list hB
 obtain⟨⟨c1,d1,t1,sl1⟩,n,e,hc,hd,hs⟩:=pl
 obtain⟨⟨c2,d2,t2,sl2⟩,n2,e2,hc2,hd2,hs2⟩:=pl2
 simp only at hc hd hs hc2 hd2 hs2
 subst hc hd hs hc2 hd2 hs2
 have hl:=r.length
 have hl2:=r2.length
 have ea:its.toArray++its2.toArray=(its++its2).toArray:=by simp
 refine concat_meets ⟨_,e,rfl⟩ ⟨_,e2,rfl⟩ noFill_list_add seq_list_add PySem.F.slot_list_add PySem.F.entry_list_add (PySem.F.args_list_add_2 _ _) (list_addW l b its.toArray its2.toArray n n2 none none sl1 sl2 (by simp only[List.size_toArray];omega)) ⟨e,e2,?_⟩
 rw[ea]
 exact⟨.ref _,_,I.ZgT (t':=s.toks) (r.append r2) (by rw[List.length_append];omega),rfl,q _ I.fresh⟩
def PJ(K:PySem.W.Frag):R2:=fun x y H Q=>∃l b xs zs,x=.ref l∧y=.ref b∧cF K H l xs∧cF K H b zs∧xs≠[]∧zs≠[]∧xs.length+zs.length≤sizeLine∧∀p,H p=none→Q (.ref p) (upd H p (.tup (xs++zs)))
theorem Ng:aY X (binaryOp .Add) (PJ X.K):=by
 intro pins s σ H x y v u Q I rx ry h
 obtain⟨l,b,xs,zs,rfl,rfl,hH,hB,nx,nz,hz,q⟩:=h
 cases rx
 cases ry
 obtain⟨its,r,pl,z⟩:=I.tuple hH
 obtain⟨its2,r2,pl2,z2⟩:=I.tuple hB
 obtain⟨⟨c1,d1,t1,sl1⟩,e,hc,n,hd⟩:=pl
 obtain⟨⟨c2,d2,t2,sl2⟩,e2,hc2,n2,hd2⟩:=pl2
 simp only at hc hd hc2 hd2
 subst hc hd hc2 hd2
 have hl:=r.length
 have hl2:=r2.length
 have ne1:its≠[]:=fun z=>by rw[z] at hl;exact nx (List.length_eq_zero_iff.mp hl)
 have ne2:its2≠[]:=fun z=>by rw[z] at hl2;exact nz (List.length_eq_zero_iff.mp hl2)
 have ea:its.toArray++its2.toArray=(its++its2).toArray:=by simp
 refine concat_meets ⟨_,e,rfl⟩ ⟨_,e2,rfl⟩ noFill_tuple_add seq_tuple_add PySem.F.slot_tuple_add PySem.F.entry_tuple_add (PySem.F.args_tuple_add_2 _ _) (tuple_addW2 l b its.toArray its2.toArray n n2 d1 d2 sl1 sl2 (by simpa using ne1) (by simpa using ne2) (by simp only[List.size_toArray];omega)) ⟨e,e2,?_⟩
 rw[ea]
 exact⟨.ref _,_,I.laid (o:=.tup (xs++zs)) (t':=s.toks) (fun _ _ q=>Heap.get?_push_of_some _ q) (Nat.le_refl _) ⟨by rw[List.length_append];omega,(its++its2),r.append r2,⟨_,Heap.get?_push_size _ rfl,rfl,_,rfl⟩⟩,rfl,q _ I.fresh⟩
def ĵ:PV→PV→Option RV
 | .int i,.int j=>some (.sh (.int (i+j)))
 | .str i,.str j=>if i.length+j.length≤16777216 then some (.sh (.str (i++j))) else none
 | .lst ps,.lst qs=>if ps.length+qs.length≤16777216 then some (.ow (ps++qs)) else none
 | .tup (p::ps),.tup (q::qs)=>if(p::ps).length+(q::qs).length≤16777216 then some (.sh (.tup ((p::ps)++(q::qs)))) else none
 |_,_=>none
def PK(K:PySem.W.Frag):R2:=fun x y H Q=>Zay x y H Q∨(Pz K x y H Q∨PJ K x y H Q)
theorem į:aY X (binaryOp .Add) (PK X.K):=Tt.or (Nf.or Ng)
theorem İ:OpO K (PK K.K) ĵ:=by
 intro c F H σ ρ p q pv v u Q rel r1 r2 e k
 unfold ĵ at e
 split at e
 ·cases e
  cases r1.int
  cases r2.int
  exact .inl (k _ F H rel (Same.refl _) (Same.refl _) (Rep.int (K:=K) (F:=F)))
 ·split at e
  ·rename_i hz
   cases e
   cases r1.str
   cases r2.str
   exact .inl ⟨by rw[Ŋ];exact hz,k _ F H rel (Same.refl _) (Same.refl _) (Rep.str (K:=K) (F:=F))⟩
  ·cases e
 ·split at e
  ·rename_i hz
   cases e
   obtain⟨a,xs,rfl,h1,h2⟩:=r1.lst rel.sub
   obtain⟨b,ys,rfl,h3,h4⟩:=r2.lst rel.sub
   refine .inr (.inl ⟨a,b,xs,ys,rfl,rfl,h1,h3,by rw[←h2.length,←h4.length,Ŋ];exact hz,fun d hd=>?_⟩)
   obtain⟨q1,q2⟩:=eX rel hd (ġ.append h2 h4)
   exact k _ F _ q1 (Same.refl _) (Same.upd hd) q2
  ·cases e
 ·split at e
  ·rename_i hz
   cases e
   obtain⟨a,xs,rfl,h1,h2⟩:=r1.tup rel.sub
   obtain⟨b,ys,rfl,h3,h4⟩:=r2.tup rel.sub
   have l1:=h2.length
   have l2:=h4.length
   refine .inr (.inr ⟨a,b,xs,ys,rfl,rfl,h1,h3,(fun z=>by rw[z] at l1;cases l1),(fun z=>by rw[z] at l2;cases l2),by rw[←l1,←l2,Ŋ];exact hz,fun l hl=>k _ _ _ (rel.alloc hl) (Same.upd (rel.sub.free hl)) (Same.upd hl) ?_⟩)
   show Rep K _ _ _
   unfold Rep
   exact⟨l,xs++ys,rfl,cF.of Ĳ,ġ.same (Same.upd (rel.sub.free hl)) _ _ (ġ.append h2 h4)⟩
  ·cases e
 ·cases e
def A_(g:Int→Int→Int):PV→PV→Option PV
 | .int i,.int j=>some (.int (g i j))
 |_,_=>none
def Cm(C:Int→Int→Bool)(g:Int→Int→Int):PV→PV→Option PV
 | .int i,.int j=>if C i j=true then some (.int (g i j)) else none
 |_,_=>none
def YM(g:Int→Int→Bool):PV→PV→Option PV
 | .int i,.int j=>some (.bl (g i j))
 |_,_=>none
theorem ZaQ{g:Int→Int→Int}:kE K (Dp fun i j=>.int (g i j)) (A_ g):=by
 intro c F H σ ρ p q pv v u Q rel r1 r2 e k
 unfold A_ at e
 split at e
 ·cases e
  cases r1.int
  cases r2.int
  exact k _ F H rel (Same.refl _) (Same.refl _) Rep.int
 ·cases e
theorem Ue{g:Int→Int→Bool}:kE K (Dp fun i j=>.bl (g i j)) (YM g):=by
 intro c F H σ ρ p q pv v u Q rel r1 r2 e k
 unfold YM at e
 split at e
 ·cases e
  cases r1.int
  cases r2.int
  exact k _ F H rel (Same.refl _) (Same.refl _) Rep.bl
 ·cases e
theorem Ug{C:Int→Int→Bool}{C':Int→Int→Prop}{g:Int→Int→Int}(hC:∀i j,C i j=true→C' i j):kE K (mI C' fun i j=>.int (g i j)) (Cm C g):=by
 intro c F H σ ρ p q pv v u Q rel r1 r2 e k
 unfold Cm at e
 split at e
 ·split at e
  ·rename_i hc
   cases e
   cases r1.int
   cases r2.int
   exact⟨hC _ _ hc,k _ F H rel (Same.refl _) (Same.refl _) Rep.int⟩
  ·cases e
 ·cases e
def ū:=A_ fun i j=>i-j
theorem Ŕ:kE K (Dp fun i j=>.int (i-j)) ū:=ZaQ
def cX(_ j:Int):Bool:=decide (j≠0) && decide (bits j≤8000)
def Ŭ:=Cm cX fun i j=>i.fdiv j
theorem Ś:kE K (mI Bk fun i j=>.int (i.fdiv j)) Ŭ:=Ug fun i j h=>by unfold cX at h;simpa[Bk] using h
def zM(_ j:Int):Bool:=decide (j≠0)
def ŕ:=Cm zM fun i j=>i.fmod j
theorem Ŏ:kE K (mI (fun _ j=>j≠0) fun i j=>.int (i.fmod j)) ŕ:=Ug fun i j h=>by unfold zM at h;simpa using h
def uh(i j:Int):Bool:=decide (0≤j) && decide (j.natAbs≤1000000) && decide (i.natAbs<18446744073709551616)
def bM:=Cm uh fun i j=>i ^ j.toNat
theorem aN:kE K (mI Sq fun i j=>.int (i ^ j.toNat)) bM:=Ug fun i j h=>by
 unfold uh at h
 simp only[Bool.and_eq_true,decide_eq_true_eq] at h
 exact⟨h.1.1,by omega,by have:=h.2;simpa using this⟩
def PL(i j:Int):Bool:=decide (0≤j) && decide (j.natAbs≤1000000) && decide (i.natAbs<18446744073709551616)
def ZaR:=Cm PL fun i j=>i*2 ^ j.toNat
def PN(_ j:Int):Bool:=decide (0≤j)
def ZaS:=Cm PN fun i j=>i / 2 ^ j.toNat
def um:=YM fun i j=>decide (i<j)
def jm:=YM fun i j=>decide (i≤j)
def Zg5:=YM fun i j=>decide (j<i)
def Ed:=YM fun i j=>decide (j≤i)
theorem pG:kE K (Dp fun i j=>.bl (decide (i<j))) um:=Ue
theorem iJ:kE K (Dp fun i j=>.bl (decide (i≤j))) jm:=Ue
theorem ZaT:kE K (Dp fun i j=>.bl (decide (j≤i))) Ed:=Ue
def ň(i j:Int):Bool:=decide (i.natAbs<18446744073709551616) || decide (j.natAbs<18446744073709551616) || (decide (bits i≤1048576) && decide (bits j≤1048576))
theorem Ef{i j:Int}(h:ň i j=true):o_ i j:=by
 unfold ň at h
 simp only[Bool.or_eq_true,Bool.and_eq_true,decide_eq_true_eq] at h
 rcases h with(h|h)|h
 ·exact .inl (.inl ⟨by omega,by omega⟩)
 ·exact .inl (.inr ⟨by omega,by omega⟩)
 ·exact .inr h
def Ğ:PV→PV→Option PV
 | .int i,.int j=>if ň i j=true then some (.int (i*j)) else none
 | .str z,.int n=>if 0≤n∧n≤1000∧z.length≤1000 then some (.str (S (List.replicate n.toNat z.cps.toList).flatten)) else none
 |_,_=>none
theorem Ī:kE K DK Ğ:=by
 intro c F H σ ρ p q pv v u Q rel r1 r2 e k
 unfold Ğ at e
 split at e
 ·split at e
  ·rename_i hc
   cases e
   cases r1.int
   cases r2.int
   exact⟨Ef hc,k _ F H rel (Same.refl _) (Same.refl _) Rep.int⟩
  ·cases e
 ·split at e
  ·rename_i hc
   cases e
   cases r1.str
   cases r2.int
   exact⟨hc,k _ F H rel (Same.refl _) (Same.refl _) Rep.str⟩
  ·cases e
 ·cases e
def ZaU(mr:M (List PV))(mk:M PV):M RV:=fun ρ=>(mr ρ).bind fun ps ρ1=>if ps.length≤16777216 then(mk ρ1).bind fun q ρ2=>match q with
 | .int k=>if -(2 ^ 60)≤k∧k<2 ^ 60∧ps.length*k.toNat≤16777216 then .ok (.ow (List.replicate k.toNat ps).flatten) ρ2 else .bad
 |_=>.bad else .bad
variable{E:L2.St→XK}{a b e:Expr}{es:List Expr}{pos:Pos}{ma mb:M PV}{mr:M (List PV)}
def iK:PV→Option PV
 | .int i=>some (.int (-i))
 |_=>none
theorem jo:UnV K (mU fun i=>.int (-i)) iK:=by
 intro c F H σ ρ p pv v Q rel r1 e k
 unfold iK at e
 split at e
 ·cases e
  cases r1.int
  exact k _ F H rel (Same.refl _) (Same.refl _) Rep.int
 ·cases e
mutual
def eqB:PV→PV→Bool
 | .non,.non=>true
 | .bl a,.bl b=>a== b
 | .bl a,.int j=>(if a then 1 else 0)== j
 | .int i,.bl b=>i== (if b then 1 else 0)
 | .int i,.int j=>i== j
 | .str x,.str y=>x== y
 | .lst xs,.lst ys=>gA xs ys
 | .tup xs,.tup ys=>gA xs ys
 |_,_=>false
def gA:List PV→List PV→Bool
 | [],[]=>true
 |x::xs,y::ys=>eqB x y && gA xs ys
 |_,_=>false
end
mutual
def bI:PV→Bool
 | .non| .bl _| .int _=>true
 | .str x=>PyData.strOk x
 | .lst xs=>cY xs
 | .tup xs=>cY xs
 |_=>false
def cY:List PV→Bool
 | []=>true
 |x::xs=>bI x && cY xs
end
mutual
def dep:PV→Nat
 | .lst xs=>uo xs+1
 | .tup xs=>uo xs+1
 |_=>0
def uo:List PV→Nat
 | []=>0
 |x::xs=>max (dep x) (uo xs)
end
mutual
def toD:PV→PyData
 | .non=>.none
 | .bl b=>.bool b
 | .int i=>.int i
 | .str x=>.str x
 | .lst xs=>.list (cZ xs)
 | .tup xs=>.tuple (cZ xs)
 |_=>.none
def cZ:List PV→List PyData
 | []=>[]
 |x::xs=>toD x::cZ xs
end
mutual
theorem dJ:∀p:PV,bI p=true→(toD p).canLay0=true
 | .non,_=>rfl
 | .bl _,_=>rfl
 | .int _,_=>rfl
 | .str x,h=>by unfold bI at h;unfold toD PyData.canLay0;exact h
 | .lst xs,h=>by unfold bI at h;unfold toD PyData.canLay0;exact fB xs h
 | .tup xs,h=>by unfold bI at h;unfold toD PyData.canLay0;exact fB xs h
 | .ins _ _ _,h=>by simp[bI] at h
 | .xc _ _ _,h=>by simp[bI] at h
 | .ty _,h=>by simp[bI] at h
 | .cls _,h=>by simp[bI] at h
theorem fB:∀ps:List PV,cY ps=true→PyData.canLayAll0 (cZ ps)=true
 | [],_=>rfl
 |p::ps,h=>by
  unfold cY at h
  rw[Bool.and_eq_true] at h
  unfold cZ PyData.canLayAll0
  rw[dJ p h.1,fB ps h.2]
  rfl
end
mutual
theorem dM:∀p:PV,(toD p).depth=dep p
 | .non=>rfl
 | .bl _=>rfl
 | .int _=>rfl
 | .str x=>rfl
 | .lst xs=>by unfold toD PyData.depth dep;rw[lV xs]
 | .tup xs=>by unfold toD PyData.depth dep;rw[lV xs]
 | .ins _ _ _=>rfl
 | .xc _ _ _=>rfl
 | .ty _=>rfl
 | .cls _=>rfl
theorem lV:∀ps:List PV,PyData.depthAll (cZ ps)=uo ps
 | []=>rfl
 |p::ps=>by unfold cZ PyData.depthAll uo;rw[dM p,lV ps]
end
mutual
theorem qP:∀p q:PV,bI p=true→bI q=true→PyData.eqv (toD p) (toD q)=eqB p q
 | .lst xs,.lst ys,h1,h2=>by
   unfold bI at h1 h2
   unfold toD eqB PyData.eqv
   exact qQ xs ys h1 h2
 | .tup xs,.tup ys,h1,h2=>by
   unfold bI at h1 h2
   unfold toD eqB PyData.eqv
   exact qQ xs ys h1 h2
 | .ins _ _ _,_,h,_=>by simp[bI] at h
 | .xc _ _ _,_,h,_=>by simp[bI] at h
 | .ty _,_,h,_=>by simp[bI] at h
 | .cls _,_,h,_=>by simp[bI] at h
 | .non,q,_,h=>by cases q<;>first|rfl|(simp[bI] at h)|(simp[toD,eqB,PyData.eqv])
 | .bl _,q,_,h=>by cases q<;>first|rfl|(simp[bI] at h)|(simp[toD,eqB,PyData.eqv])
 | .int _,q,_,h=>by cases q<;>first|rfl|(simp[bI] at h)|(simp[toD,eqB,PyData.eqv])
 | .str _,q,_,h=>by cases q<;>first|rfl|(simp[bI] at h;done)|(simp[toD,eqB,PyData.eqv])
 | .lst _,.non,_,_=>by simp[toD,eqB,PyData.eqv]
 | .lst _,.bl _,_,_=>by simp[toD,eqB,PyData.eqv]
 | .lst _,.int _,_,_=>by simp[toD,eqB,PyData.eqv]
 | .lst _,.str _,_,_=>by simp[toD,eqB,PyData.eqv]
 | .lst _,.tup _,_,_=>by simp[toD,eqB,PyData.eqv]
 | .lst _,.ins _ _ _,_,h=>by simp[bI] at h
 | .lst _,.xc _ _ _,_,h=>by simp[bI] at h
 | .lst _,.ty _,_,h=>by simp[bI] at h
 | .lst _,.cls _,_,h=>by simp[bI] at h
 | .tup _,.non,_,_=>by simp[toD,eqB,PyData.eqv]
 | .tup _,.bl _,_,_=>by simp[toD,eqB,PyData.eqv]
 | .tup _,.int _,_,_=>by simp[toD,eqB,PyData.eqv]
 | .tup _,.str _,_,_=>by simp[toD,eqB,PyData.eqv]
 | .tup _,.lst _,_,_=>by simp[toD,eqB,PyData.eqv]
 | .tup _,.ins _ _ _,_,h=>by simp[bI] at h
 | .tup _,.xc _ _ _,_,h=>by simp[bI] at h
 | .tup _,.ty _,_,h=>by simp[bI] at h
 | .tup _,.cls _,_,h=>by simp[bI] at h
theorem qQ:∀ps qs:List PV,cY ps=true→cY qs=true→PyData.eqvAll (cZ ps) (cZ qs)=gA ps qs
 | [],[],_,_=>by simp[cZ,gA,PyData.eqvAll]
 | [],_::_,_,_=>by simp[cZ,gA,PyData.eqvAll]
 |_::_,[],_,_=>by simp[cZ,gA,PyData.eqvAll]
 |p::ps,q::qs,h1,h2=>by
  unfold cY at h1 h2
  rw[Bool.and_eq_true] at h1 h2
  unfold cZ gA PyData.eqvAll
  rw[qP p q h1.1 h2.1,qQ ps qs h1.2 h2.2]
end
mutual
theorem Eh{F:Hp}:∀(p:PV) (v:V),bI p=true→Rep K F p v→Rp K.K F (toD p) v
 | .non,_,_,r=>by unfold Rep at r;unfold toD Rp;exact r
 | .bl _,_,_,r=>by unfold Rep at r;unfold toD Rp;exact r
 | .int _,_,_,r=>by unfold Rep at r;unfold toD Rp;exact r
 | .str _,_,_,r=>by unfold Rep at r;unfold toD Rp;exact r
 | .lst xs,_,h,r=>by
   unfold bI at h
   unfold Rep at r
   unfold toD Rp
   obtain⟨a,vs,h1,h2,h3⟩:=r
   exact⟨a,vs,h1,h2,fV xs vs h h3⟩
 | .tup xs,_,h,r=>by
   unfold bI at h
   unfold Rep at r
   unfold toD Rp
   obtain⟨a,vs,h1,h2,h3⟩:=r
   exact⟨a,vs,h1,h2,fV xs vs h h3⟩
 | .ins _ _ _,_,h,_=>by simp[bI] at h
 | .xc _ _ _,_,h,_=>by simp[bI] at h
 | .ty _,_,h,_=>by simp[bI] at h
 | .cls _,_,h,_=>by simp[bI] at h
theorem fV{F:Hp}:∀(ps:List PV) (vs:List V),cY ps=true→ġ K F ps vs→jj K.K F (cZ ps) vs
 | [],_,_,r=>by unfold ġ at r;unfold cZ jj;exact r
 |p::ps,_,h,r=>by
  unfold cY at h
  rw[Bool.and_eq_true] at h
  unfold ġ at r
  unfold cZ jj
  obtain⟨x,t,h1,h2,h3⟩:=r
  exact⟨x,t,h1,Eh p x h.1 h2,fV ps t h.2 h3⟩
end
theorem fW{c:Ctx}{F H:Hp}{σ:L2.St}{ρ:Ő}{p:PV}{v:V}(s:Same F H)(h:bI p=true)(r:rR K c σ ρ F H p v):Rp K.K H (toD p) v:=by
 rcases r with r|r
 ·exact Rp.same s _ _ (Eh p v h r)
 ·cases p with
  |lst ps=>
   obtain⟨a,vs,rfl,h3,h4⟩:=r
   unfold bI at h
   unfold toD Rp
   exact⟨a,vs,rfl,aB.of h3,jj.same s _ _ (fV ps vs h h4)⟩
  |ins C ns ps=>simp[bI] at h
  |_=>exact r.elim
def qR(p q:PV):Bool:=bI p && bI q && decide (min (dep p) (dep q)≤60)
def Ū(p q:PV):Option PV:=if qR p q=true then some (.bl (eqB p q)) else none
def cu(p q:PV):Option PV:=if qR p q=true then some (.bl (!eqB p q)) else none
theorem ś:kE K (Mp K.K false) Ū:=by
 intro c F H σ ρ p q pv v u Q rel r1 r2 e k
 unfold Ū at e
 split at e
 ·rename_i hz
  cases e
  unfold qR at hz
  simp only[Bool.and_eq_true,decide_eq_true_eq] at hz
  refine⟨toD p,toD q,fW rel.sub hz.1.1 r1,fW rel.sub hz.1.2 r2,dJ p hz.1.1,dJ q hz.1.2,by rw[dM,dM];exact hz.2,?_⟩
  rw[qP p q hz.1.1 hz.1.2]
  exact k _ F H rel (Same.refl _) (Same.refl _) Rep.bl
 ·cases e
theorem dR:kE K (Mp K.K true) cu:=by
 intro c F H σ ρ p q pv v u Q rel r1 r2 e k
 unfold cu at e
 split at e
 ·rename_i hz
  cases e
  unfold qR at hz
  simp only[Bool.and_eq_true,decide_eq_true_eq] at hz
  refine⟨toD p,toD q,fW rel.sub hz.1.1 r1,fW rel.sub hz.1.2 r2,dJ p hz.1.1,dJ q hz.1.2,by rw[dM,dM];exact hz.2,?_⟩
  rw[qP p q hz.1.1 hz.1.2]
  exact k _ F H rel (Same.refl _) (Same.refl _) Rep.bl
 ·cases e
def Uh:PV→Bool
 | .non=>true
 |_=>false
def Nh(p q:PV):Option PV:=match q with
 | .non=>some (.bl (Uh p))
 |_=>none
def Ni(p q:PV):Option PV:=match q with
 | .non=>some (.bl (!Uh p))
 |_=>none
theorem Nj{c:Ctx}{F H:Hp}{σ:L2.St}{ρ:Ő}{p:PV}{v:V}(r:rR K c σ ρ F H p v):decide (v=.non)=Uh p:=by
 rcases r with r|r
 ·cases p<;>unfold Rep at r<;>first
   |(subst r;rfl)
   |(obtain⟨a,xs,rfl,_⟩:=r;rfl)
   |(obtain⟨a,xs,ys,rfl,_⟩:=r;rfl)
 ·cases p with
  |lst ps=>obtain⟨a,vs,rfl,_⟩:=r;rfl
  |ins C ns ps=>obtain⟨a,dx,fs,rfl,_⟩:=r;rfl
  |_=>exact r.elim
theorem ZaV:kE K (fun x y H Q=>y=.non∧Q (.bl (decide (x=.non))) H) Nh:=by
 intro c F H σ ρ p q pv v u Q rel r1 r2 e k
 unfold Nh at e
 split at e
 ·cases e
  refine⟨r2.non,?_⟩
  rw[Nj r1]
  exact k _ F H rel (Same.refl _) (Same.refl _) Rep.bl
 ·cases e
def ę:PV→PV→Option PV
 | .lst ps,.int i=>jc ps i
 | .tup ps,.int i=>jc ps i
 | .str z,.int i=>if z.length≤16777216 then(jc z.cps.toList i).map fun c=>.str ⟨#[c]⟩ else none
 |_,_=>none
theorem zN{F:Hp}{ps:List PV}{vs:List V}{i:Int}{p:PV}(r:ġ K F ps vs)(h:jc ps i=some p):∃v,jc vs i=some v∧Rep K F p v:=by
 unfold jc at h ⊢
 rw[r.length] at h
 cases e:wJ vs.length i with
 |none=>rw[e] at h;cases h
 |some j=>
  rw[e] at h
  obtain⟨v,h1,h2⟩:=bV r.pr h
  exact⟨v,h1,h2⟩
theorem Đ:kE K (mIx K.K) ę:=by
 intro c F H σ ρ p q pv v u Q rel r1 r2 e k
 unfold ę at e
 split at e
 ·obtain⟨a,vs,rfl,h1,h2⟩:=r1.lst rel.sub
  cases r2.int
  obtain⟨x,h3,h4⟩:=zN h2 e
  exact⟨vs,x,.inl h1,h3,k _ F H rel (Same.refl _) (Same.refl _) h4⟩
 ·obtain⟨a,vs,rfl,h1,h2⟩:=r1.tup rel.sub
  cases r2.int
  obtain⟨x,h3,h4⟩:=zN h2 e
  exact⟨vs,x,.inr h1,h3,k _ F H rel (Same.refl _) (Same.refl _) h4⟩
 ·split at e
  ·rename_i z i hz
   cases r1.str
   cases r2.int
   cases ea:jc z.cps.toList i with
   |none=>rw[ea] at e;cases e
   |some cc=>
    rw[ea] at e
    cases e
    exact⟨cc,by rw[Ŋ];exact hz,ea,k _ F H rel (Same.refl _) (Same.refl _) Rep.str⟩
  ·cases e
 ·cases e
def Nk:M (Option Int):=fun ρ=>.ok none ρ
def mP(m:M PV):M (Option Int):=fun ρ=>(m ρ).bind fun p ρ1=>match p with
 | .int i=>.ok (some i) ρ1
 |_=>.bad
abbrev tP(K:KK)(E:L2.St→XK)(m:M (Option Int)):TO:=tG K E rI m
theorem Ei:PO X none (tP (kk X cm) E Nk):=fun pins s σ H Q I h=>Ma pins s σ H Q I (by
 obtain⟨c,F,ρ,rel,h⟩:=h
 exact h none F H rel (Same.refl _) (Same.refl _) rfl)
theorem bK(ha:PE X e (tV (kk X cm) E ma)):PO X (some e) (tP (kk X cm) E (mP ma)):=fun pins s σ H Q I h=>Ds ha pins s σ H Q I (by
 obtain⟨c,F,ρ,rel,h⟩:=h
 refine⟨c,F,ρ,rel,h.bind fun p ρ1 v F1 H1 Ģ _ _ r1 h1=>?_⟩
 cases p with
 |int i=>
  have e:v=.int i:=by have r1':Rep (kk X cm) F1 (.int i) v:=r1;unfold Rep at r1';exact r1'
  subst e
  exact h1 (some i) F1 H1 Ģ (Same.refl _) (Same.refl _) rfl
 |_=>exact h1.elim)
def jq{α:Type}(xs:List α)(lo hi:Option Int):List α:= (xs.drop (HT.ig xs.length 0 lo)).take (HT.ig xs.length xs.length hi-HT.ig xs.length 0 lo)
def YQ(p:PV)(lo hi:Option Int):Option RV:=match p with
 | .lst ps=>some (.ow (jq ps lo hi))
 | .str z=>if z.length≤16777216 then some (.sh (.str (S (jq z.cps.toList lo hi)))) else none
 |_=>none
def Nm(ma:M PV)(ml mh:M (Option Int)):M RV:=fun ρ=>(ma ρ).bind fun p ρ1=>(ml ρ1).bind fun lo ρ2=>(mh ρ2).bind fun hi ρ3=>Res.lA (YQ p lo hi) ρ3
theorem dN{ml mh:M (Option Int)}{lo hi:Option Expr}{p2:Pos}(ha:PE X a (tR (kk X cm) E ma))(hl:PO X lo (tP (kk X cm) E ml))(hh:PO X hi (tP (kk X cm) E mh)):PE X (.Subscript a (.Slice lo hi none p2) pos) (tO (kk X cm) E (Nm ma ml mh)):=
 PE.wk (Dh slm ha hl hh) fun σ H Q ⟨c,F,ρ,rel,h⟩=>⟨c,F,ρ,rel,h.bind fun p ρ1 v F1 H1 Ģ _ _ r1 h1=>⟨c,F1,ρ1,Ģ,h1.bind fun lo ρ2 lo' F2 H2 ń sF sH r2 h2=>⟨c,F2,ρ2,ń,h2.bind fun hi ρ3 hi' F3 H3 qO sF3 sH3 r3 h3=>by
   have e2:lo=lo':=r2
   have e3:hi=hi':=r3
   subst e2 e3
   have r1':rR (kk X cm) c σ ρ3 F3 H3 p v:=r1.mono (sF.trans sF3) (sH.trans sH3)
   cases p with
   |lst ps=>
    obtain⟨a,vs,rfl,q1,q2⟩:=r1'.lst qO.sub
    refine⟨vs,q1,fun d hd=>?_⟩
    have e:ġ (kk X cm) F3 (jq ps lo hi) (tQ vs lo hi):=by
     unfold jq tQ
     rw[q2.length]
     exact ġ.of (zy _ (zA _ q2.pr))
    obtain⟨z1,z2⟩:=eX qO hd e
    exact h3 _ F3 _ z1 (Same.refl _) (Same.upd hd) z2
   |str z=>
    cases r1'.str
    unfold YQ at h3
    dsimp only at h3
    split at h3
    ·rename_i hz
     exact⟨by rw[Ŋ];exact hz,h3 _ F3 H3 qO (Same.refl _) (Same.refl _) (Rep.str (K:=kk X cm) (F:=F3))⟩
    ·exact h3.elim
   |_=>exact h3.elim⟩⟩⟩
theorem wV{c:Ctx}{F H:Hp}{σ:L2.St}{ρ:Ő}{p:PV}{vs:List V}(h:rRL K c σ ρ F H [p] vs):∃v,vs=[v]∧rR K c σ ρ F H p v:=by
 cases h with
 |cons r t=>cases t;exact⟨_,rfl,r⟩
theorem P_{c:Ctx}{F H:Hp}{σ:L2.St}{ρ:Ő}{p q:PV}{vs:List V}(h:rRL K c σ ρ F H [p,q] vs):∃v u,vs=[v,u]∧rR K c σ ρ F H p v∧rR K c σ ρ F H q u:=by
 cases h with
 |cons r t=>
  cases t with
  |cons r' t=>cases t;exact⟨_,_,rfl,r,r'⟩
def dO:List PV→Option PV
 | [.lst ps]=>some (.int ps.length)
 | [.tup ps]=>some (.int ps.length)
 | [.str z]=>if z.length≤16777216 then some (.int z.length) else none
 |_=>none
theorem cA:cL K (Tz K.K) dO:=by
 intro c F H σ ρ ps pv vs Q rel r e k
 unfold dO at e
 split at e
 ·cases e
  obtain⟨v,rfl,r1⟩:=wV r
  obtain⟨a,xs,rfl,h1,h2⟩:=r1.lst rel.sub
  refine⟨xs,.inl h1,?_⟩
  rw[←h2.length]
  exact k _ F H rel (Same.refl _) (Same.refl _) Rep.int
 ·cases e
  obtain⟨v,rfl,r1⟩:=wV r
  obtain⟨a,xs,rfl,h1,h2⟩:=r1.tup rel.sub
  refine⟨xs,.inr h1,?_⟩
  rw[←h2.length]
  exact k _ F H rel (Same.refl _) (Same.refl _) Rep.int
 ·split at e
  ·rename_i hz
   cases e
   obtain⟨v,rfl,r1⟩:=wV r
   cases r1.str
   exact⟨by rw[Ŋ];exact hz,k _ F H rel (Same.refl _) (Same.refl _) Rep.int⟩
  ·cases e
 ·cases e
def Np:List PV→Option PV
 | [.int i]=>some (.int (if i<0 then -i else i))
 |_=>none
theorem Ui:cL K mAbs Np:=by
 intro c F H σ ρ ps pv vs Q rel r e k
 unfold Np at e
 split at e
 ·cases e
  obtain⟨v,rfl,r1⟩:=wV r
  cases r1.int
  exact k _ F H rel (Same.refl _) (Same.refl _) Rep.int
 ·cases e
def zO:List PV→Option PV
 | [.int i,.int j]=>some (.int (if j<i then j else i))
 |_=>none
def zP:List PV→Option PV
 | [.int i,.int j]=>some (.int (if j>i then j else i))
 |_=>none
theorem Nq:cL K Dq zO:=by
 intro c F H σ ρ ps pv vs Q rel r e k
 unfold zO at e
 split at e
 ·cases e
  obtain⟨v,u,rfl,r1,r2⟩:=P_ r
  cases r1.int
  cases r2.int
  exact k _ F H rel (Same.refl _) (Same.refl _) Rep.int
 ·cases e
theorem Nr:cL K Dr zP:=by
 intro c F H σ ρ ps pv vs Q rel r e k
 unfold zP at e
 split at e
 ·cases e
  obtain⟨v,u,rfl,r1,r2⟩:=P_ r
  cases r1.int
  cases r2.int
  exact k _ F H rel (Same.refl _) (Same.refl _) Rep.int
 ·cases e
def lW:List PV→Option RV
 | [.lst ps]=>some (.ow ps)
 | [.tup ps]=>some (.ow ps)
 |_=>none
def zQ(K:PySem.W.Frag):List V→Hp→VK→Prop:=fun xs H Q=>∃p ys,xs=[.ref p]∧(aB K H p ys∨cF K H p ys)∧∀l,H l=none→Q (.ref l) (upd H l (.lst ys))
theorem fX:Ŝ X (.type "list") (zQ X.K):=qK
theorem fY:Px K (zQ K.K) lW:=by
 intro c F H σ ρ ps pv vs Q rel r e k
 unfold lW at e
 split at e
 ·cases e
  obtain⟨v,rfl,r1⟩:=wV r
  obtain⟨a,xs,rfl,h1,h2⟩:=r1.lst rel.sub
  refine⟨a,xs,rfl,.inl h1,fun l hl=>?_⟩
  obtain⟨q1,q2⟩:=eX rel hl h2
  exact k _ F _ q1 (Same.refl _) (Same.upd hl) q2
 ·cases e
  obtain⟨v,rfl,r1⟩:=wV r
  obtain⟨a,xs,rfl,h1,h2⟩:=r1.tup rel.sub
  refine⟨a,xs,rfl,.inr h1,fun l hl=>?_⟩
  obtain⟨q1,q2⟩:=eX rel hl h2
  exact k _ F _ q1 (Same.refl _) (Same.upd hl) q2
 ·cases e
def oK:PV→String→Option Bool
 | .int _,"int" =>some true
 | .int _,"bool" =>some false
 | .int _,"str" =>some false
 | .int _,"tuple" =>some false
 | .int _,"list" =>some false
 | .bl _,"int" =>some true
 | .bl _,"bool" =>some true
 | .lst _,"list" =>some true
 | .lst _,"tuple" =>some false
 | .lst _,"int" =>some false
 | .lst _,"str" =>some false
 | .tup _,"tuple" =>some true
 | .tup _,"list" =>some false
 | .tup _,"int" =>some false
 | .tup _,"str" =>some false
 | .str _,"str" =>some true
 | .str _,"int" =>some false
 | .str _,"list" =>some false
 | .str _,"tuple" =>some false
 | .non,"int" =>some false
 | .non,"str" =>some false
 | .non,"tuple" =>some false
 | .non,"list" =>some false
 |_,_=>none
end
theorem ur{K:KK}{F:Hp}:∀ns:List Int,ġ K F (ns.map .int) (ns.map V.int)
 | []=>ġ.nil
 |n::ns=>ġ.cons Rep.int (ur ns)
def ZaW(K:PySem.W.Frag):Sp:=fun vs H Q _=>∃(sa:Addr) (ns:List Int),vs=[.ref sa]∧aB K H sa (ns.map V.int)∧ns.length≤63∧∀v H',v=.bl true→Q v H'
end P
namespace P
open PySem PySem.Spec PyProof.Rows L2 M2 M3 M4
section
variable{X:Cx}{cm:String→Addr}{K:KK}
def TyP(K:PySem.W.Frag)(H:Hp)(x:V)(t:Value):Prop:=match x with
 | .non=>t=.type "NoneType"
 | .bl _=>t=.type "bool"
 | .int _=>t=.type "int"
 | .str _=>t=.type "str"
 | .ref a=>(t=.type "list" ∧∃xs,aB K H a xs)∨(t=.type "tuple" ∧∃xs,cF K H a xs)∨jh K H (.ref a) t
 |_=>False
def zR(K:PySem.W.Frag):List V→Hp→VK→Prop:=fun xs H Q=>match xs with
 | [x,.ty n]=>∃t b,TyP K H x t∧PySem.W.kitOne K t (.type n)=some b∧Q (.bl b) H
 | [x,.ref C]=>∃t b,TyP K H x t∧PySem.W.kitOne K t (.ref C)=some b∧Q (.bl b) H
 |_=>False
theorem zT{pins:List (Addr×Obj)}{σ:L2.St}{H:Hp}{s:Shared}{A:Around}{E:Value→Shared→Prop}{Q:Value→Shared→Prop}{c:Value}{b:Bool}{x:V}{u t:Value}(I:Inv X pins σ H s)(rx:RelV x u)(ty:TyP X.K H x t)(e:PySem.W.kitOne X.K t c=some b)(h:∀tk,Q (.bool b) {s with toks:=tk}) :
 wpAny (model X.prog X.w) A (call (.builtin "isinstance") [u,c]) Q E s:=by
 cases x with
 |non=>cases(show t=_ from ty);exact cT I rx .non e h
 |bl y=>cases(show t=_ from ty);exact cT I rx (.bl y) e h
 |int y=>cases(show t=_ from ty);exact cT I rx (.int y) e h
 |str y=>cases(show t=_ from ty);exact cT I rx (.str y) e h
 |ref a=>
  cases(show u=Value.ref a from rx)
  rcases ty with⟨rfl,xs,hS⟩|⟨rfl,xs,hS⟩|ty
  ·obtain⟨its,r,⟨o,n,h1,h2,_⟩,_⟩:=I.list hS
   exact PySem.W.kia_one PySem.W.kitx_list I.i_ ⟨o,h1,h2⟩ e (fun z=>nomatch z) h
  ·obtain⟨its,r,⟨o,h1,h2,_⟩,_⟩:=I.tuple hS
   exact PySem.W.kia_one PySem.W.kitx_tuple I.i_ ⟨o,h1,h2⟩ e (fun z=>nomatch z) h
  ·exact cT I rx ty e h
 |_=>exact ty.elim
theorem Uj:Ŝ X (.builtin "isinstance") (zR X.K):=by
 intro pins s σ H xs us Q I r h
 unfold zR at h
 split at h
 ·obtain⟨t,b,h1,h2,h3⟩:=h
  obtain⟨u,w',rfl,r1,r2⟩:=vals2 r
  cases r2
  exact zT I r1 h1 h2 fun tk=>⟨.bl b,H,I.tok _,rfl,h3⟩
 ·obtain⟨t,b,h1,h2,h3⟩:=h
  obtain⟨u,w',rfl,r1,r2⟩:=vals2 r
  cases r2
  exact zT I r1 h1 h2 fun tk=>⟨.bl b,H,I.tok _,rfl,h3⟩
 ·exact h.elim
def tyN:PV→String
 | .non=> "NoneType"
 | .bl _=> "bool"
 | .int _=> "int"
 | .str _=> "str"
 | .lst _=> "list"
 | .tup _=> "tuple"
 |_=> ""
theorem Ej{F:PySem.W.Frag}{p:PV}{n:String}{b:Bool}(h:oK p n=some b):PySem.W.kitOne F (.type (tyN p)) (.type n)=some b:=by
 unfold oK at h
 split at h<;>first
  |(cases h;first|rfl|decide +kernel|kernel_rfl)
  |cases h
theorem Nt{c:Ctx}{F H:Hp}{σ:L2.St}{ρ:Ő}{p:PV}{v:V}(s:Same F H)(r:rR K c σ ρ F H p v)(h:∃n b,oK p n=some b):TyP K.K H v (.type (tyN p)):=by
 obtain⟨n,b,h⟩:=h
 cases p with
 |non=>cases r.non;rfl
 |bl _=>cases r.bl;rfl
 |int _=>cases r.int;rfl
 |str _=>cases r.str;rfl
 |lst ps=>
  obtain⟨a,vs,rfl,h1,h2⟩:=r.lst s
  exact .inl ⟨rfl,vs,h1⟩
 |tup ps=>
  obtain⟨a,vs,rfl,h1,h2⟩:=r.tup s
  exact .inr (.inl ⟨rfl,vs,h1⟩)
 |ins _ _ _=>simp[oK] at h
 |xc _ _ _=>simp[oK] at h
 |ty _=>simp[oK] at h
 |cls _=>simp[oK] at h
def Ek:List PV→Option PV
 | [p,.ty n]=>(oK p n).map .bl
 |_=>none
theorem El:cL K (zR K.K) Ek:=by
 intro c F H σ ρ ps pv vs Q rel r e k
 unfold Ek at e
 split at e
 ·rename_i p n
  obtain⟨v,u,rfl,r1,r2⟩:=P_ r
  cases r2.ty
  cases eb:oK p n with
  |none=>rw[eb] at e;cases e
  |some b=>
   rw[eb] at e
   cases e
   exact⟨_,b,Nt rel.sub r1 ⟨n,b,eb⟩,Ej eb,k _ F H rel (Same.refl _) (Same.refl _) Rep.bl⟩
 ·cases e
def gY:List PV→Option PV
 | [.lst ps]=>some (.tup ps)
 | [.tup ps]=>some (.tup ps)
 |_=>none
def Em(K:PySem.W.Frag):List V→Hp→VK→Prop:=fun xs H Q=>∃p ys,xs=[.ref p]∧((aB K H p ys∧∀l,H l=none→Q (.ref l) (upd H l (.tup ys)))∨(cF K H p ys∧Q (.ref p) H))
theorem lX:Ŝ X (.type "tuple") (Em X.K):=oH
theorem lY:cL K (Em K.K) gY:=by
 intro c F H σ ρ ps pv vs Q rel r e k
 unfold gY at e
 split at e
 ·cases e
  obtain⟨v,rfl,r1⟩:=wV r
  obtain⟨a,xs,rfl,h1,h2⟩:=r1.lst rel.sub
  refine⟨a,xs,rfl,.inl ⟨h1,fun l hl=>k _ _ _ (rel.alloc hl) (Same.upd (rel.sub.free hl)) (Same.upd hl) ?_⟩⟩
  unfold Rep
  exact⟨l,xs,rfl,cF.of Ĳ,ġ.same (Same.upd (rel.sub.free hl)) _ _ h2⟩
 ·cases e
  obtain⟨v,rfl,r1⟩:=wV r
  have r1':=r1
  obtain⟨a,xs,rfl,h1,h2⟩:=r1.tup rel.sub
  refine⟨a,xs,rfl,.inr ⟨h1,k _ F H rel (Same.refl _) (Same.refl _) ?_⟩⟩
  rcases r1' with q|q
  ·exact q
  ·exact q.elim
 ·cases e
def boolsOf:List PV→Option (List Bool)
 | []=>some []
 | .bl b::ps=>(boolsOf ps).map (b:: ·)
 |_::_=>none
theorem pH{F:Hp}:∀{ps:List PV} {vs:List V} {bs:List Bool},ġ K F ps vs→boolsOf ps=some bs→vs=bs.map V.bl
 | [],vs,bs,r,h=>by
   cases h
   have r':=r.pr
   cases r'
   rfl
 |p::ps,vs,bs,r,h=>by
  cases p with
  |bl b=>
   unfold boolsOf at h
   cases eb:boolsOf ps with
   |none=>rw[eb] at h;cases h
   |some cs=>
    rw[eb] at h
    cases h
    have r':=r.pr
    cases r' with
    |cons r1 t=>
     rw[wN r1,pH (ġ.of t) eb]
     rfl
  |_=>simp[boolsOf] at h
def lZ:List PV→Option PV
 | [.lst ps]=>(boolsOf ps).map fun bs=>.bl (bs.all id)
 |_=>none
theorem jr:cL K (TY K.K) lZ:=by
 intro c F H σ ρ ps pv vs Q rel r e k
 unfold lZ at e
 split at e
 ·rename_i ps
  obtain⟨v,rfl,r1⟩:=wV r
  obtain⟨a,xs,rfl,h1,h2⟩:=r1.lst rel.sub
  cases eb:boolsOf ps with
  |none=>rw[eb] at e;cases e
  |some bs=>
   rw[eb] at e
   cases e
   refine⟨bs,by rw[←pH h2 eb];exact h1,k _ F H rel (Same.refl _) (Same.refl _) Rep.bl⟩
 ·cases e
def zU(_ j:Int):Bool:=decide (0<j) && decide (j.natAbs<1073741824)
def iM:List PV→Option PV
 | [.int i,.int j]=>if zU i j=true then some (.tup [.int (i / j),.int (i % j)]) else none
 |_=>none
def zV:List V→Hp→VK→Prop:=fun xs H Q=>∃i j,xs=[.int i,.int j]∧Zam i j∧∀p,H p=none→Q (.ref p) (upd H p (.tup [.int (i / j),.int (i % j)]))
theorem Br:Ŝ X (.builtin "divmod") zV:=tM
theorem Bt:cL K zV iM:=by
 intro c F H σ ρ ps pv vs Q rel r e k
 unfold iM at e
 split at e
 ·split at e
  ·rename_i i j hd
   cases e
   obtain⟨v,u,rfl,r1,r2⟩:=P_ r
   cases r1.int
   cases r2.int
   unfold zU at hd
   simp only[Bool.and_eq_true,decide_eq_true_eq] at hd
   refine⟨i,j,rfl,⟨hd.1,by omega⟩,fun l hl=>k _ _ _ (rel.alloc hl) (Same.upd (rel.sub.free hl)) (Same.upd hl) ?_⟩
   unfold Rep
   exact⟨l,_,rfl,cF.of Ĳ,ġ.cons Rep.int (ġ.cons Rep.int ġ.nil)⟩
  ·cases e
 ·cases e
end
end P
namespace P
open PySem PySem.Spec PyProof.Rows L2 M2 M3 M4
section
variable{α β:Type}{ρ:Ő}{i j n k:Nat}{p q:PV}{ps:List PV}{m ma mb mc:M PV}{mo:M RV}{a b:M Fl}{ta tb:M Bool}{mr:M (List PV)}{f:PV→PV→Option PV}{fo:PV→PV→Option RV}{fl:List PV→Option PV}{flo:List PV→Option RV}{g:Tg}{gs:Cp}
@[simp] theorem ZkI:cH ρ=.ok .nx ρ:= rfl
@[simp] theorem ZkJ:mBk ρ=.ok .bk ρ:= rfl
@[simp] theorem ZkK:mCt ρ=.ok .ct ρ:= rfl
@[simp] theorem Zg6:(Uc:M α) ρ=.bad:=rfl
@[simp] theorem Zg7:Ħ a b ρ=(a ρ).bind fun f ρ1=>match f with| .nx=>b ρ1|f=>.ok f ρ1:=rfl
@[simp] theorem Zg8:Ņ i mo ρ=(mo ρ).bind fun r ρ1=>.ok .nx (ρ1.set i r.slot):=rfl
@[simp] theorem Zg9:ĳ mo ρ=(mo ρ).bind fun r ρ1=>.ok (.rt r) ρ1:=rfl
@[simp] theorem ZfO:ZaK ρ=.ok (.rt (.sh .non)) ρ:= rfl
@[simp] theorem ZfP:ZaL m ρ=(m ρ).bind fun _ ρ1=>.ok .nx ρ1:=rfl
@[simp] theorem Zk1:mC p ρ=.ok p ρ:= rfl
@[simp] theorem ZkL:Š m ρ=(m ρ).bind fun p ρ1=>.ok (.sh p) ρ1:=rfl
@[simp] theorem Zg_:Ě mo ρ=(mo ρ).bind fun r ρ1=>.ok r.val ρ1:=rfl
@[simp] theorem Zha:(RV.sh p).val=p:=rfl
@[simp] theorem Zhb:(RV.ow ps).val=.lst ps:=rfl
@[simp] theorem Zhc:(RV.sh p).slot=.sh p:=rfl
@[simp] theorem Zhd:(RV.ow ps).slot=.ow ps:=rfl
@[simp] theorem Zhe:Ć f ma mb ρ=(ma ρ).bind fun p ρ1=>(mb ρ1).bind fun q ρ2=>Res.lA (f p q) ρ2:=rfl
@[simp] theorem ZfQ:Ľ fo ma mb ρ=(ma ρ).bind fun p ρ1=>(mb ρ1).bind fun q ρ2=>Res.lA (fo p q) ρ2:=rfl
@[simp] theorem ZkM{u:PV→Option PV}:vW u ma ρ=(ma ρ).bind fun p ρ1=>Res.lA (u p) ρ1:=rfl
@[simp] theorem Zhf:bZ m ρ=(m ρ).bind fun p ρ1=>Res.lA (Ub p) ρ1:=rfl
@[simp] theorem ZkN:cG m ρ=(m ρ).bind fun p ρ1=>match p with| .bl b=>.ok b ρ1|_=>.bad:=rfl
@[simp] theorem ZfR:cU ta ρ=(ta ρ).bind fun b ρ1=>.ok (!b) ρ1:=rfl
@[simp] theorem ZfS:jK ta tb ρ=(ta ρ).bind fun b ρ1=>if b=true then tb ρ1 else .ok false ρ1:=rfl
@[simp] theorem Zhg:lR ta tb ρ=(ta ρ).bind fun b ρ1=>if b=true then .ok true ρ1 else tb ρ1:=rfl
@[simp] theorem Zhh:gq ma mb ρ=(ma ρ).bind fun p ρ1=>match p with| .bl b=>if b=true then mb ρ1 else .ok (.bl false) ρ1|_=>.bad:=by
  unfold gq
  congr
  funext p ρ1
  cases p with
  |bl b=>cases b<;>rfl
  |_=>rfl
@[simp] theorem ZkO:mOr ma mb ρ=(ma ρ).bind fun p ρ1=>match p with| .bl b=>if b=true then .ok (.bl true) ρ1 else mb ρ1|_=>.bad:=by
  unfold mOr
  congr
  funext p ρ1
  cases p with
  |bl b=>cases b<;>rfl
  |_=>rfl
@[simp] theorem Zhi:Zg0 ma ρ=(ma ρ).bind fun p ρ1=>match p with| .bl b=>.ok (.bl (!b)) ρ1|_=>.bad:=rfl
@[simp] theorem ZkP{x y:M α}:b_ ta x y ρ=(ta ρ).bind fun b ρ1=>if b=true then x ρ1 else y ρ1:=rfl
@[simp] theorem Zhj{f g:PV→PV→Option PV}:Bo f g ma mb mc ρ=(ma ρ).bind fun p ρ1=>(mb ρ1).bind fun q ρ2=>(Res.lA (f p q) ρ2).bind fun z ρ3=>match z with
  | .bl true=>(mc ρ3).bind fun w ρ4=>Res.lA (g q w) ρ4
  | .bl false=>.ok (.bl false) ρ3
  |_=>.bad:=rfl
@[simp] theorem Zhk:ĝ ρ=.ok [] ρ:= rfl
@[simp] theorem ZfT:ą ma mr ρ=(ma ρ).bind fun p ρ1=>(mr ρ1).bind fun ps ρ2=>.ok (p::ps) ρ2:=rfl
@[simp] theorem Zhl:ŏ mr ρ=(mr ρ).bind fun ps ρ1=>if ps.length≤16777216 then .ok (.tup ps) ρ1 else .bad:=rfl
@[simp] theorem Zhm:aD mr ρ=(mr ρ).bind fun ps ρ1=>if ps.length≤16777216 then .ok (.ow ps) ρ1 else .bad:=rfl
@[simp] theorem ZkQ:cI fl mr ρ=(mr ρ).bind fun ps ρ1=>Res.lA (fl ps) ρ1:=rfl
@[simp] theorem Zhn:Ea flo mr ρ=(mr ρ).bind fun ps ρ1=>Res.lA (flo ps) ρ1:=rfl
@[simp] theorem ZfU{mf:MF}{ms:M (List Slot)}:Ġ mf ms ρ=(ms ρ).bind fun ps ρ1=>match mf ps with| .ret r=>.ok r ρ1| .exc x=>.exc x ρ1| .bad=>.bad:=rfl
@[simp] theorem ZkR:đ i ρ=(match ρ[i]? with|some (.sh p)=>.ok p ρ|some (.ow ps)=>.ok (.lst ps) (ρ.set i (.sh (.lst ps)))|_=>.bad):=rfl
@[simp] theorem ZkS:ā i ρ=(match ρ[i]? with|some (.sh p)=>.ok p ρ|some (.ow ps)=>.ok (.lst ps) ρ|some (.bw ps)=>.ok (.lst ps) ρ|some (.rc C ns ps)=>.ok (.ins C ns ps) ρ|_=>.bad):=rfl
@[simp] theorem ZkT:gF i ρ=(match ρ[i]? with|some (.sh p)=>.ok (.sh p) ρ|some (.ow ps)=>.ok (.ow ps) (ρ.set i .no)|_=>.bad):=rfl
@[simp] theorem Zho:eY g m ρ=(m ρ).bind fun p ρ1=>match g p ρ1 with|some ρ2=>.ok .nx ρ2|none=>.bad:=rfl
@[simp] theorem Zhp:MN i j mr ρ=(mr ρ).bind fun ps ρ1=>match ps with| [p,q]=>.ok .nx ((ρ1.set i (.sh p)).set j (.sh q))|_=>.bad:=rfl
@[simp] theorem En:gN i p ρ=some (ρ.set i (.sh p)):=rfl
@[simp] theorem ZaX:Ŧ [] ρ=some ρ:= rfl
@[simp] theorem YS:ě g gs (p::ps) ρ=(g p ρ).bind fun ρ1=>gs ps ρ1:=rfl
@[simp] theorem ZkU:gT n gs (.tup ps) ρ=if ps.length=n then gs ps ρ else none:=rfl
@[simp] theorem Zhq:t_ i m ρ=(match ρ[i]? with
  |some (.ow _)=>(m ρ).bind fun p ρ1=>match ρ1[i]? with
   |some (.ow ps)=>if ps.length<16777216 then .ok .nx (ρ1.set i (.ow (ps ++ [p]))) else .bad
   |_=>.bad
  |_=>.bad):=rfl
@[simp] theorem ZaY{mi:M PV}:wO i mi m ρ=(m ρ).bind fun p ρ1=>match ρ1[i]? with
  |some (.ow _)=>(mi ρ1).bind fun q ρ2=>match ρ2[i]?,q with
   |some (.ow ps),.int k=>match wJ ps.length k with
    |some j=>.ok .nx (ρ2.set i (.ow (ps.set j p)))
    |none=>.bad
   |_,_=>.bad
  |_=>.bad:=rfl
@[simp] theorem Zhr:Nk ρ=.ok none ρ:= rfl
@[simp] theorem Zk2:mP m ρ=(m ρ).bind fun p ρ1=>match p with| .int i=>.ok (some i) ρ1|_=>.bad:=rfl
@[simp] theorem ZkV{ml mh:M (Option Int)}:Nm ma ml mh ρ=(ma ρ).bind fun p ρ1=>(ml ρ1).bind fun lo ρ2=>(mh ρ2).bind fun hi ρ3=>Res.lA (YQ p lo hi) ρ3:=rfl
@[simp] theorem Zhs{lo hi:Option Int}:YQ (.lst ps) lo hi=some (.ow (jq ps lo hi)):=rfl
@[simp] theorem ZaZ:ů m ρ=(m ρ).bind fun p ρ1=>match p with
  | .lst ps=>.ok ps ρ1
  | .tup ps=>.ok ps ρ1
  | .str z=>.ok (z.cps.toList.map fun c=>.str ⟨#[c]⟩) ρ1
  |_=>.bad:=rfl
@[simp] theorem Za0{h:List PV→Option (List PV)}:cj h mr ρ=(mr ρ).bind fun ps ρ1=>Res.lA (h ps) ρ1:=rfl
@[simp] theorem Uk{mi:M (List PV)}:dH mi g b ρ=(mi ρ).bind fun items ρ1=>forL g b items ρ1:=rfl
@[simp] theorem ZfV{js:List Nat}{nl:Nat}{mi:M (List PV)}{mt:M Bool}{me:M PV}:Ų js nl mi g mt me ρ=(mi ρ).bind fun items ρ1=>match ŗ g mt me items (uf js nl ρ1) [] with
  |some ps=>.ok (.ow ps) ρ1
  |none=>.bad:=rfl
@[simp] theorem Zht:Ŗ ρ=.ok true ρ:= rfl
@[simp] theorem ZfW{mk:M PV}:ZaU mr mk ρ=(mr ρ).bind fun ps ρ1=>if ps.length≤16777216 then(mk ρ1).bind fun q ρ2=>match q with
  | .int k=>if -(2 ^ 60)≤k∧k<2 ^ 60∧ps.length*k.toNat≤16777216 then .ok (.ow (List.replicate k.toNat ps).flatten) ρ2 else .bad
  |_=>.bad else .bad:=rfl
@[simp] theorem Zhu{mbd:M Fl}{as:List Slot}:ŋ n k mbd as=if as.length=n then FR.of (mbd (startP k as)) else .bad:=rfl
@[simp] theorem Zhv{r:RV}:FR.of (.ok (.rt r) ρ)=.ret r:=rfl
@[simp] theorem Zhw:FR.of (.ok .nx ρ)=.ret (.sh .non):=rfl
@[simp] theorem Zhx{x:PX}:FR.of (.exc x ρ)=.exc x:=rfl
@[simp] theorem Zhy:FR.of .bad=.bad:=rfl
@[simp] theorem Za1{as:List Slot}:startP k as=as++List.replicate (k-as.length) .no:=rfl
@[simp] theorem ZfX:ĕ ρ=.ok [] ρ:= rfl
@[simp] theorem Za2{ms:M (List Slot)}:ħ ma ms ρ=(ma ρ).bind fun p ρ1=>(ms ρ1).bind fun as ρ2=>.ok (.sh p::as) ρ2:=rfl
@[simp] theorem Za3{ms:M (List Slot)}:Ċ i ms ρ=(match(ρ[i]?).bind cV with
  |none=>.bad
  |some _=>(ms ρ).bind fun as ρ2=>match(ρ2[i]?).bind cV with
   |some s=>.ok (s::as) ρ2
   |none=>.bad):=rfl
@[simp] theorem Zhz:cV (.sh p)=some (.sh p):=rfl
@[simp] theorem ZhA:cV (.ow ps)=some (.bw ps):=rfl
@[simp] theorem ZhB:cV (.bw ps)=some (.bw ps):=rfl
@[simp] theorem ZhC:ud (.sh p)=.sh p:=rfl
@[simp] theorem ZhD:ud (.ow ps)=.bw ps:=rfl
@[simp] theorem ZhE:ud (.bw ps)=.bw ps:=rfl
@[simp] theorem ZhF{js:List Nat}{nl:Nat}:uf js nl ρ=js.map (fun(j:Nat)=>ud ((ρ[j]?).getD .no))++List.replicate nl .no:=rfl
@[simp] theorem wW:ţ i ρ=(match ρ[i]? with
  |some (.bw ps)=>.ok ps ρ
  |some (.sh (.lst ps))=>.ok ps ρ
  |some (.sh (.tup ps))=>.ok ps ρ
  |some (.sh (.str z))=>.ok (z.cps.toList.map fun c=>.str ⟨#[c]⟩) ρ
  |some (.ow ps)=>.ok ps (ρ.set i (.sh (.lst ps)))
  |_=>.bad):=rfl
@[simp] theorem ZfY{x y:Int}:ĵ (.int x) (.int y)=some (.sh (.int (x+y))):=rfl
@[simp] theorem ZfZ{x y:Int}:ū (.int x) (.int y)=some (.int (x-y)):=rfl
@[simp] theorem Zf0{x y:Int}:Ğ (.int x) (.int y)=if ň x y=true then some (.int (x*y)) else none:=rfl
@[simp] theorem Zf1{x y:Int}:Ŭ (.int x) (.int y)=if cX x y=true then some (.int (x.fdiv y)) else none:=rfl
@[simp] theorem Zf2{x y:Int}:ŕ (.int x) (.int y)=if zM x y=true then some (.int (x.fmod y)) else none:=rfl
@[simp] theorem Zf3{x y:Int}:bM (.int x) (.int y)=if uh x y=true then some (.int (x ^ y.toNat)) else none:=rfl
@[simp] theorem Zf4{x y:Int}:ZaR (.int x) (.int y)=if PL x y=true then some (.int (x*2 ^ y.toNat)) else none:=rfl
@[simp] theorem Zf5{x y:Int}:ZaS (.int x) (.int y)=if PN x y=true then some (.int (x / 2 ^ y.toNat)) else none:=rfl
@[simp] theorem Zf6{x:Int}:iK (.int x)=some (.int (-x)):=rfl
@[simp] theorem ZhG{x y:Int}:um (.int x) (.int y)=some (.bl (decide (x<y))):=rfl
@[simp] theorem ZhH{x y:Int}:jm (.int x) (.int y)=some (.bl (decide (x≤y))):=rfl
@[simp] theorem ZhI{x y:Int}:Zg5 (.int x) (.int y)=some (.bl (decide (y<x))):=rfl
@[simp] theorem ZhJ{x y:Int}:Ed (.int x) (.int y)=some (.bl (decide (y≤x))):=rfl
@[simp] theorem ZhK{x y:Int}:Ū (.int x) (.int y)=some (.bl (decide (x=y))):=by
  have h:eqB (.int x) (.int y)=decide (x=y):=by rw[eqB.eq_def];rfl
  rw[←h];rfl
@[simp] theorem ZhL{x y:Int}:cu (.int x) (.int y)=some (.bl (!decide (x=y))):=by
  have h:eqB (.int x) (.int y)=decide (x=y):=by rw[eqB.eq_def];rfl
  rw[←h];rfl
@[simp] theorem ZhM{x y:Bool}:Ū (.bl x) (.bl y)=some (.bl (x== y)):=rfl
@[simp] theorem ZhN{x y:Bool}:cu (.bl x) (.bl y)=some (.bl (!(x== y))):=rfl
@[simp] theorem ZhO{p:PV}:Nh p .non=some (.bl (Uh p)):=rfl
@[simp] theorem Zf7{p:PV}:Ni p .non=some (.bl (!Uh p)):=rfl
@[simp] theorem ZhP{x:Int}:ę (.lst ps) (.int x)=jc ps x:=rfl
@[simp] theorem ZhQ{x:Int}:ę (.tup ps) (.int x)=jc ps x:=rfl
@[simp] theorem fZ:dO [.lst ps]=some (.int ps.length):=rfl
@[simp] theorem Zf8:dO [.tup ps]=some (.int ps.length):=rfl
@[simp] theorem ZhR{x:Int}:Np [.int x]=some (.int (if x<0 then -x else x)):=rfl
@[simp] theorem ZhS{x y:Int}:zO [.int x,.int y]=some (.int (if y<x then y else x)):=rfl
@[simp] theorem ZhT{x y:Int}:zP [.int x,.int y]=some (.int (if y>x then y else x)):=rfl
@[simp] theorem Za4:lW [.lst ps]=some (.ow ps):=rfl
@[simp] theorem Za5:lW [.tup ps]=some (.ow ps):=rfl
@[simp] theorem Zf9:gY [.lst ps]=some (.tup ps):=rfl
@[simp] theorem Zf_:gY [.tup ps]=some (.tup ps):=rfl
@[simp] theorem ZhU{t:String}:Ek [p,.ty t]=(oK p t).map .bl:=rfl
@[simp] theorem Zga{x:Bool}:Ub (.bl x)=some x:=rfl
@[simp] theorem Zgb{x:Int}:Ub (.int x)=some (x != 0):=rfl
@[simp] theorem Zgc:Ub (.lst ps)=some (!ps.isEmpty):=rfl
@[simp] theorem Eo(xs:List α)(n:Nat):jc xs (n:Int)=xs[n]?:= by
  unfold jc wJ
  rw[if_pos (by omega)]
  by_cases h:n<xs.length
  ·rw[if_pos (by omega)]
   simp
  ·rw[if_neg (by omega)]
   simp
   omega
@[simp] theorem Zgd(xs:List α)(n:Nat):jc xs (no_index (OfNat.ofNat n):Int)=xs[(no_index (OfNat.ofNat n):Nat)]?:= Eo xs n
@[simp] theorem YT{x y:Int}:zM x y=decide (y≠0):=rfl
end
theorem Ź{x y:Int}(h1: -(2 ^ 64)<x)(h2:x<2 ^ 64):ň x y=true:=by unfold ň;rw[decide_eq_true (by omega:x.natAbs<18446744073709551616)];rfl
theorem mul_r{x y:Int}(h1: -(2 ^ 64)<y)(h2:y<2 ^ 64):ň x y=true:=by unfold ň;rw[decide_eq_true (by omega:y.natAbs<18446744073709551616)];simp
theorem Ep{x y:Int}(h1:bits x≤1048576)(h2:bits y≤1048576):ň x y=true:=by unfold ň;simp[h1,h2]
theorem mj{x y:Int}(h1:y≠0)(h2:bits y≤8000):cX x y=true:=by unfold cX;simp[h1,h2]
section
variable{g:Tg}{mb:M Fl}{mc mt:M Bool}{me:M PV}{items:List PV}{ρ:Ő}
theorem Er(I:Nat→Ő→Prop)(R:Res Fl→Prop)(h0:I 0 ρ)
 (hs:∀i p ρ,items[i]?=some p→I i ρ→∃ρ1,g p ρ=some ρ1∧((∃ρ2,(mb ρ1=.ok .nx ρ2∨mb ρ1=.ok .ct ρ2)∧I (i+1) ρ2)∨(∃r ρ2,mb ρ1=.ok (.rt r) ρ2∧R (.ok (.rt r) ρ2))∨(∃ρ2,mb ρ1=.ok .bk ρ2∧R (.ok .nx ρ2))∨∃x ρ2,mb ρ1=.exc x ρ2∧R (.exc x ρ2)))
 (hd:∀ρ,I items.length ρ→R (.ok .nx ρ)):R (forL g mb items ρ):=by
 induction items generalizing ρ I with
 |nil=>exact hd ρ h0
 |cons p ps ih=>
  obtain⟨ρ1,e1,h⟩:=hs 0 p ρ rfl h0
  unfold forL
  rw[e1]
  dsimp only
  rcases h with⟨ρ2,e2,h2⟩|⟨r,ρ2,e2,h2⟩|⟨ρ2,e2,h2⟩|⟨x,ρ2,e2,h2⟩
  ·have go:R (forL g mb ps ρ2):=ih (fun i=>I (i+1)) h2 (fun i q ρ e hi=>hs (i+1) q ρ (by simpa using e) hi) (fun ρ h=>hd ρ (by simpa using h))
   rcases e2 with e2|e2
   ·rw[e2];exact go
   ·rw[e2];exact go
  ·rw[e2];exact h2
  ·rw[e2];exact h2
  ·rw[e2];exact h2
theorem Es(I:Nat→Ő→Prop)(h0:I 0 ρ)(hs:∀i p ρ,items[i]?=some p→I i ρ→∃ρ1 ρ2,g p ρ=some ρ1∧mb ρ1=.ok .nx ρ2∧I (i+1) ρ2):∃ρ',forL g mb items ρ=.ok .nx ρ'∧I items.length ρ':=
 Er I (fun r=>∃ρ',r=.ok .nx ρ'∧I items.length ρ') h0 (fun i p ρ e hi=>by
  obtain⟨ρ1,ρ2,h1,h2,h3⟩:=hs i p ρ e hi
  exact⟨ρ1,h1,.inl ⟨ρ2,.inl h2,h3⟩⟩) fun ρ h=>⟨ρ,rfl,h⟩
theorem Ř{α:Type}(c f:α→PV)(I:Ő→Prop):∀(xs:List α) (ρ:Ő) (acc:List PV),I ρ→acc.length+xs.length≤16777216→
 (∀x∈xs,∀ρ,I ρ→∃ρ1 ρ2 ρ3,g (c x) ρ=some ρ1∧mt ρ1=.ok true ρ2∧me ρ2=.ok (f x) ρ3∧I ρ3)→ŗ g mt me (xs.map c) ρ acc=some (acc++xs.map f)
 | [],ρ,acc,_,_,_=>by simp[ŗ]
 |x::xs,ρ,acc,h,hz,hs=>by
  obtain⟨ρ1,ρ2,ρ3,h1,h2,h3,h4⟩:=hs x List.mem_cons_self ρ h
  rw[List.map_cons,ŗ,h1]
  dsimp only
  rw[h2]
  dsimp only
  rw[h3]
  dsimp only
  rw[if_pos (by simp at hz;omega),Ř c f I xs ρ3 (acc ++ [f x]) h4 (by simp at hz ⊢;omega) fun y hy=>hs y (List.mem_cons_of_mem _ hy)]
  simp
theorem mq{β:Type}(st:β→Ő)(I:β→Prop)(μ:β→Nat)(hs:∀b,I b→mc (st b)=.ok false (st b)∨(mc (st b)=.ok true (st b)∧∃b',mb (st b)=.ok .nx (st b')∧I b'∧μ b' < μ b)){b:β}(h0:I b) :
 ∃b',ŵ mc mb (st b)=.ok .nx (st b')∧I b'∧mc (st b')=.ok false (st b'):=by
 have go:∀n b,μ b≤n→I b→∃b',ŵ mc mb (st b)=.ok .nx (st b')∧I b'∧mc (st b')=.ok false (st b'):=by
  intro n
  induction n with
  |zero=>
   intro b hn hi
   rcases hs b hi with e|⟨e,b',_,_,hl⟩
   ·exact⟨b,by rw[fj,e];rfl,hi,e⟩
   ·omega
  |succ n ih=>
   intro b hn hi
   rcases hs b hi with e|⟨e,b',e2,hi',hl⟩
   ·exact⟨b,by rw[fj,e];rfl,hi,e⟩
   ·obtain⟨b2,q1,q2⟩:=ih b' (by omega) hi'
    refine⟨b2,?_,q2⟩
    rw[fj,e]
    simp only[Res.ż,if_true,e2]
    exact q1
 exact go (μ b) b (Nat.le_refl _) h0
theorem Et{β:Type}(st:β→Ő)(I:Nat→β→Prop){b:β}(h0:I 0 b)(hs:∀i p b,items[i]?=some p→I i b→∃ρ1 b',g p (st b)=some ρ1∧mb ρ1=.ok .nx (st b')∧I (i+1) b') :
 ∃b',forL g mb items (st b)=.ok .nx (st b')∧I items.length b':=by
 obtain⟨ρ',e,b',rfl,h⟩:=Es (g:=g) (mb:=mb) (items:=items) (ρ:= st b) (fun i ρ=>∃b,ρ=st b∧I i b) ⟨b,rfl,h0⟩ (by
  rintro i p ρ e ⟨b,rfl,hi⟩
  obtain⟨ρ1,b',h1,h2,h3⟩:=hs i p b e hi
  exact⟨ρ1,_,h1,h2,b',rfl,h3⟩)
 exact⟨b',e,h⟩
end
end P
namespace P
open PySem PySem.Spec PyProof.Rows L2 M2 M3 M4
def mz(Q:String→Prop):List String→Prop
 | []=>True
 |c::cs=>Q c∧mz Q cs
theorem mz.get{Q:String→Prop}:∀{cs:List String} {C:String},mz Q cs→cs.contains C=true→Q C
 | [],_,_,h=>by simp at h
 |c::cs,C,⟨h1,h2⟩,h=>by
  by_cases e:C=c
  ·rw[e];exact h1
  ·refine h2.get ?_
   rw[List.contains_cons] at h
   have:(C== c)=false:=by simpa using e
   rw[this,Bool.false_or] at h
   exact h
section
variable{X:Cx}{cm:String→Addr}{K:KK}{E:L2.St→XK}{a b e o:Expr}{es:List Expr}{pos apos:Pos}{m ma mb:M PV}{f:Str}
theorem mD{F:Hp}:∀{fs:List (Str×V)} {ps:List PV} {p:PV},ġ K F ps (fs.map (·.2))→((fs.map (·.1)).zip ps).lookup f=some p→∃v,fs.lookup f=some v∧Rep K F p v
 | [],ps,p,_,h=>by simp at h
 |(g,v)::fs,ps,p,r,h=>by
  have r':=r.pr
  rw[List.map_cons] at r'
  cases r' with
  |cons r1 t=>
   rename_i q qs
   rw[List.map_cons,List.zip_cons_cons,List.lookup_cons] at h
   rw[List.lookup_cons]
   cases hg:f== g with
   |true=>
    simp only[hg] at h
    cases h
    exact⟨v,rfl,r1⟩
   |false=>
    simp only[hg] at h
    exact mD (ġ.of t) h
theorem rR.ins{c:Ctx}{F H:Hp}{σ:L2.St}{ρ:Ő}{C:String}{ns:List Str}{ps:List PV}{v:V}(s:Same F H)(h:rR K c σ ρ F H (.ins C ns ps) v):∃a dx fs,v=.ref a∧H a=some (.ins (K.cm C) dx fs)∧fs.map (·.1)=ns∧ġ K F ps (fs.map (·.2)):=by
 rcases h with h|h
 ·unfold Rep at h
  obtain⟨a,dx,fs,h1,h2,h3,h4⟩:=h
  exact⟨a,dx,fs,h1,s _ _ h2,h3,h4⟩
 ·exact h
def kI(cs:List String)(f:Str):PV→Option PV
 | .ins C ns ps=>if cs.contains C=true then(ns.zip ps).lookup f else none
 |_=>none
theorem mF(cs:List String)(hcs:mz (fun C=>Cls X.K (cm C)∧ŭ X.K (cm C) f) cs)(he:PE X e (tR (kk X cm) E m))(hb:attributeBase e f X.env (eval e X.env)=eval e X.env:=by rfl):PE X (.Attribute e f pos) (tV (kk X cm) E (vW (kI cs f) m)):=
 PE.wk (SX he hb) fun σ H Q ⟨c,F,ρ,rel,h⟩=>⟨c,F,ρ,rel,h.bind fun p ρ1 v F1 H1 Ģ _ _ r1 h1=>by
   cases p with
   |ins C ns ps=>
    unfold kI at h1
    dsimp only at h1
    split at h1
    ·rename_i hc
     obtain⟨a,dx,fs,rfl,q2,q3,q4⟩:=r1.ins Ģ.sub
     cases el:(ns.zip ps).lookup f with
     |none=>rw[el] at h1;exact h1.elim
     |some q=>
      rw[el] at h1
      subst q3
      obtain⟨v,e1,e2⟩:=mD q4 el
      obtain⟨k1,k2⟩:=hcs.get hc
      exact⟨a,_,dx,fs,v,rfl,q2,k1,k2,e1,h1 v F1 H1 Ģ (Same.refl _) (Same.refl _) e2⟩
    ·exact h1.elim
   |_=>exact h1.elim⟩
def Eu(X:Cx)(cm:String→Addr)(CX:ou)(k n:Nat)(m:Str)(C:String)(mf:MF):Prop:=Cls X.K (cm C)∧∃f fd ps,Meth X.K (cm C) m f∧ľ X.prog X.w X.K X.mg X.base CX k f fd ps (ak (kk X cm) n mf)∧Binds X.K fd ps []∧
 ∀{ps:List Slot},(∃r,mf ps=r∧∀z,r=z→z≠ .bad)→ps.length=n
def Ew(Q:String→MF→Prop):List (String×MF)→Prop
 | []=>True
 |(c,mf)::cs=>Q c mf∧Ew Q cs
theorem Ew.get{Q:String→MF→Prop}:∀{cs:List (String×MF)} {C:String} {mf:MF},Ew Q cs→cs.lookup C=some mf→Q C mf
 | [],_,_,_,h=>by simp at h
 |(c,g)::cs,C,mf,⟨h1,h2⟩,h=>by
  rw[List.lookup_cons] at h
  cases hc:C== c with
  |true=>
   rw[hc] at h
   cases h
   have:C=c:=by simpa using hc
   rw[this];exact h1
  |false=>
   rw[hc] at h
   exact h2.get h
def mG(m:Str)(oh:List (String×MF))(mo:M PV)(ms:M (List Slot)):M RV:=fun ρ=>(mo ρ).bind fun p ρ1=>match p with
 | .ins C ns ps=>match oh.lookup C with
   |some mf=>if ns.contains m=true then .bad else(ms ρ1).bind fun as ρ2=>match mf (.sh (.ins C ns ps)::as) with
    | .ret r=>.ok r ρ2
    | .exc x=>.exc x ρ2
    | .bad=>.bad
   |none=>.bad
 |_=>.bad
theorem pI{m:Str}:∀{fs:List (Str×V)},(fs.map (·.1)).contains m=false→fs.lookup m=none
 | [],_=>rfl
 |(g,v)::fs,h=>by
  rw[List.map_cons,List.contains_cons,Bool.or_eq_false_iff] at h
  rw[List.lookup_cons,h.1]
  exact pI h.2
variable{CX:ou}{k n:Nat}{Ld:Str}{oh:List (String×MF)}{ms:M (List Slot)}
theorem Ey{c:Ctx}{F H:Hp}{σ:L2.St}{ρ:Ő}{Q:VK}(rel:Rel (kk X cm) c F H σ ρ)(h:aZ (kk X cm) E (rO (kk X cm)) c F H σ Q (mG Ld oh m ms ρ))(Ul:Ew (fun C mf=>Eu X cm CX k n Ld C mf) oh) :
 aZ (kk X cm) E (rV (kk X cm)) c F H σ (fun x H1=>∃a C dx fs g fd ps mf,x=.ref a∧H1 a=some (.ins C dx fs)∧Cls X.K C∧Meth X.K C Ld g∧fs.lookup Ld=none∧ľ X.prog X.w X.K X.mg X.base CX k g fd ps (ak (kk X cm) n mf)∧Binds X.K fd ps []∧
  tA (kk X cm) E ms σ H1 fun vs H2=>ak (kk X cm) n mf (.ref a::vs) H2 Q (E σ)) (m ρ):=
 aZ.bind h fun p ρ1 v F1 H1 Ģ _ _ r1 h1=>by
  cases p with
  |ins C ns ps=>
   dsimp only at h1
   cases el:oh.lookup C with
   |none=>rw[el] at h1;exact h1.elim
   |some mf=>
    rw[el] at h1
    dsimp only at h1
    split at h1
    ·exact h1.elim
    ·rename_i hn
     obtain⟨k1,f,fd,qs,k2,k3,k4,k5⟩:=Ul.get el
     have r1':Rep (kk X cm) F1 (.ins C ns ps) v:=r1
     have r2:=r1'
     unfold Rep at r2
     obtain⟨a,dx,fs,rfl,q2,q3,q4⟩:=r2
     refine⟨a,_,dx,fs,f,fd,qs,mf,rfl,Ģ.sub _ _ q2,k1,k2,pI (by rw[q3];simpa using hn),k3,k4,c,F1,ρ1,Ģ,aZ.bind h1 fun as ρ2 vs F2 H2 ń sF sH r3 h3=>?_⟩
     exact uc (vs:=.ref a::vs) k5 ń (.cons (show bW _ _ _ (.sh _) _ from Rep.same sF _ _ r1') r3) h3
  |_=>exact h1.elim
theorem Nu{pl:Sem Bool}(Ul:Ew (fun C mf=>Eu X cm CX k n Ld C mf) oh)(hr:bD k X.A)(hx:dI CX X E)(he:PE X o (tV (kk X cm) E m))
 (ht:eval (.Call (.Attribute o Ld apos) [] [] pos) X.env=(do
   let ov ←eval o X.env
   standAt apos.atName
   let (f,first) ←holding [ov] (getMethod ov Ld pl)
   callWith pos f first (backTo pos (starEach [] X.env)) (backToKw pos (keywordEach [] X.env))):=by rfl) :
 PE X (.Call (.Attribute o Ld apos) [] [] pos) (tO (kk X cm) E (mG Ld oh m ĕ)):=by
 intro pins s σ H Q I ⟨c,F,ρ,rel,h⟩
 refine PySem.W.methodCall_KW (pl:=pl) (ű (he pins s σ H _ I ⟨c,F,ρ,rel,Ey rel h Ul⟩) fun u s1 ⟨x,H1,I1,rx,a,C,dx,fs,g,fd,ps,mf,ex,ea,cl,k2,l,k3,k4,q⟩=>?_) ht
 subst ex
 obtain rfl:u=Value.ref a:=rx
 refine wD I1 ea cl k2 l ?_
 obtain⟨c1,F1,ρ1,Ģ,q⟩:=q
 exact PySem.W.callWith_K0 (first:=[.ref a]) I1.i_ k2.kp (zL (us:=[.ref a]) (vs:=[.ref a]) k3 hr k4 hx I1 (.cons rfl .nil) (q [] F1 H1 Ģ (Same.refl _) (Same.refl _) .nil))
def putN(f:Str):List Str→List Str
 | []=>[f]
 |g::r=>if g=f then g::r else g::putN f r
def wX(f:Str)(p:PV):List Str→List PV→List PV
 | [],_=>[p]
 |g::r,q::qs=>if g=f then p::qs else q::wX f p r qs
 |_::_,[]=>[]
theorem zW{F:Hp}{p:PV}{y:V}(ry:Rep K F p y):∀{fs:List (Str×V)} {ps:List PV},ġ K F ps (fs.map (·.2))→(dB f y fs).map (·.1)=putN f (fs.map (·.1))∧ġ K F (wX f p (fs.map (·.1)) ps) ((dB f y fs).map (·.2))
 | [],ps,r=>⟨rfl,ġ.cons ry ġ.nil⟩
 |(g,v)::fs,ps,r=>by
  have r':=r.pr
  rw[List.map_cons] at r'
  cases r' with
  |cons r1 t=>
   rename_i q qs
   unfold dB
   rw[List.map_cons]
   unfold putN wX
   by_cases hg:g=f
   ·rw[if_pos hg,if_pos hg,if_pos hg]
    exact⟨rfl,ġ.cons ry (ġ.of t)⟩
   ·rw[if_neg hg,if_neg hg,if_neg hg]
    obtain⟨h1,h2⟩:=zW ry (ġ.of t)
    exact⟨by rw[List.map_cons,h1],ġ.cons r1 h2⟩
def uw(i:Nat)(cs:List String)(f:Str)(mv:M PV):M Fl:=fun ρ=>(mv ρ).bind fun p ρ1=>match ρ1[i]? with
 |some (.rc C ns ps)=>if cs.contains C=true∧ns.length<1000 then .ok .nx (ρ1.set i (.rc C (putN f ns) (wX f p ns ps))) else .bad
 |_=>.bad
theorem cO{i:Nat}{x:Str}{px pos':Pos}(cs:List String)(hcs:mz (fun C=>Cls X.K (cm C)∧ŭ X.K (cm C) f) cs)(ho:PE X (.Name x px) (tH i))(he:PE X e (tV (kk X cm) E m))(hs:swapsWith e (some (.Attribute (.Name x px) f pos')) pos.line X.env=pure false:=by rfl) :
 PS X (.Assign [.Attribute (.Name x px) f pos'] e pos) (tS (kk X cm) E (uw i cs f m)):=PS.wk (S_ ho he hs) fun D σ H ⟨c,F,ρ,rel,h⟩=>⟨c,F,ρ,rel,Ž.bind h fun p ρ1 y F1 H1 Ģ s1 ry h1=>by
 cases e1:ρ1[i]? with
 |none=>rw[e1] at h1;exact h1.elim
 |some sl=>
  rw[e1] at h1
  cases sl with
  |rc C ns ps=>
   dsimp only at h1
   split at h1
   ·rename_i hc
    obtain⟨a,dx,fs,q1,q2,q3,q4,q5,q6,q7⟩:=Ģ.slot i _ e1
    subst q5
    obtain⟨k1,k2⟩:=hcs.get hc.1
    refine⟨.ref a,at_of q1,a,_,dx,fs,rfl,q2,k1,k2,by simpa using hc.2,?_⟩
    obtain⟨z1,z2⟩:=zW (f:=f) (p:=p) ry q6
    exact h1 σ F1 _ (Ģ.write ⟨_,_,e1,at_of q1,rfl⟩ (at_of q1) ⟨a,dx,_,rfl,Ĳ,q3,q4,z1,z2,q7⟩ fun _ z=>(V.ref.inj z).symm) (Same.refl _)
   ·exact h1.elim
  |_=>exact h1.elim⟩
inductive IR where
 |ok (ns:List Str) (ps:List PV)|exc (x:PX)|bad
abbrev MI:=List Slot→IR
def IR.of:Res Fl→IR
 | .ok .nx (.rc _ ns ps::_)=>.ok ns ps
 | .exc x _=>.exc x
 |_=>.bad
def dU(n k:Nat)(C:String)(mb:M Fl):MI:=fun as=>if as.length+1=n then IR.of (mb (.rc C [] []::startP (k-1) as)) else .bad
structure GrB(a:Addr)(F H F' H':Hp):Prop where
 h:∀b u,b≠a→H b=some u→H' b=some u
 f:Same F F'
 sub:Same F' H'
 out:∀b,b≠a→H b≠none→F b=none→F' b=none
def ZhV(K:KK)(E:XK)(F H:Hp)(Q:VK)(a dx:Addr)(C:String):IR→Prop
 | .ok ns ps=>∀F' H' fs,GrB a F H F' H'→H' a=some (.ins (K.cm C) dx fs)→F' a=none→fs.map (·.1)=ns→ġ K F' ps (fs.map (·.2))→Q .non H'
 | .exc x=>∀C' d F' H',GrB a F H F' H'→Mz K F' x C' d→E C' d H'
 | .bad=>False
def Nv(K:KK)(n:Nat)(C:String)(mi:MI):Sp:=fun vs H Q E=>∃F a dx vs' as,vs=.ref a::vs'∧as.length+1=n∧H a=some (.ins (K.cm C) dx [])∧F a=none∧Same F H∧Paired (bW K F H) as vs'∧ZhV K E F H Q a dx C (mi as)
def Nx(a dx:Addr)(C:String)(F H:Hp):Ctx:=⟨fun b=>if b=a then none else H b,F,fun b=>if b=a then none else(ctx0 F H).L b,fun a' dx' C'=>a'=a∧dx'=dx∧C'=C⟩
theorem Rel.gri{σ:L2.St}{ρ:Ő}{a dx:Addr}{C:String}{F H F' H':Hp}(r:Rel K (Nx a dx C F H) F' H' σ ρ):GrB a F H F' H':=
 ⟨fun b u hb e=>r.base b u (by show(if b=a then none else H b)=_;rw[if_neg hb];exact e),r.f0,r.sub,fun b hb h1 h2=>r.cQ b (by show(if b=a then none else H b)≠none;rw[if_neg hb];exact h1) h2⟩
theorem Rel.Um{F H:Hp}{N:List Str}{as:List Slot}{vs:List V}{a dx:Addr}{C:String}(s:Same F H)(ha:H a=some (.ins (K.cm C) dx []))(hF:F a=none)(h:Paired (bW K F H) as vs) :
 Rel K (Nx a dx C F H) F H (L2.start N (.ref a::vs)) (.rc C [] []::startP (N.length-1) as):=by
 have r0:=Rel.start (N:=N) (K:=K) s (as:=.sh (.int 0)::as) (vs:=.int 0::vs) (.cons (Rep.int (K:=K) (F:=F) (i:=0)) h)
 have est:L2.start N (.ref a::vs)=some (.ref a)::(L2.start N (.int 0::vs)).tail:=by unfold L2.start;simp
 have ZhW:(L2.start N (V.int 0::vs)).tail.length=(startP (N.length-1) as).length:=by
  unfold L2.start startP
  simp[Paired.length h]
  omega
 have tl:∀i:Nat,(L2.start N (.int 0::vs)).tail[i]?=(L2.start N (.int 0::vs))[i+1]?:= fun i=>by simp
 have sp:∀i:Nat,(startP (N.length-1) as)[i]?=(startP N.length (.sh (.int 0)::as))[i+1]?:= fun i=>by
  unfold startP
  simp only[List.cons_append,List.getElem?_cons_succ,List.length_cons]
  rw[show N.length-1-as.length=N.length-(as.length+1) by omega]
 have zX:∀(i:Nat) (s':Slot),(startP (N.length-1) as)[i]?=some s'→s'.own=false:=fun i s' e=>by
  unfold startP at e
  by_cases hi:i<as.length
  ·rw[List.getElem?_append_left hi] at e
   obtain⟨v,_,h3⟩:=bV h e
   exact(bW.slot h3).2
  ·rw[List.getElem?_append_right (by omega),List.getElem?_replicate] at e
   split at e
   ·cases e;rfl
   ·cases e
 rw[est]
 refine⟨s,fun b u e=>?_,Same.refl _,fun _ _ z=>z,fun b u e=>?_,fun b e=>?_,?_,fun i s' e=>?_,fun i j b h1 h2=>?_⟩
 ·have e':(if b=a then none else H b)=some u:=e
  split at e'
  ·cases e'
  ·exact e'
 ·have e':(if b=a then none else(ctx0 F H).L b)=some u:=e
  split at e'
  ·cases e'
  ·exact eU e'
 ·show(if b=a then none else(ctx0 F H).L b)=none
  have e':(if b=a then none else H b)=none:=e
  split
  ·rfl
  ·rename_i hb
   rw[if_neg hb] at e'
   exact r0.lb b e'
 ·simp[ZhW]
 ·cases i with
  |zero=>
   cases e
   exact⟨a,dx,[],rfl,ha,hF,by show(if a=a then none else H a)=none;rw[if_pos rfl],rfl,ġ.nil,rfl,rfl,rfl⟩
  |succ i=>
   have e':(startP (N.length-1) as)[i]?=some s':=by simpa using e
   have q:=r0.slot (i+1) s' (by rw[←sp];exact e')
   rw[←tl] at q
   show aC K (Nx a dx C F H) F H (((some (V.ref a)::(L2.start N (.int 0::vs)).tail)[i+1]?).getD none) s'
   rw[List.getElem?_cons_succ]
   cases s' with
   |no=>trivial
   |sh p=>exact q
   |bw ps=>
    obtain⟨b,ws,q1,q2,q3⟩:=q
    refine⟨b,ws,q1,?_,q3⟩
    show(if b=a then none else(ctx0 F H).L b)=_
    rw[if_neg (fun z=>by
     have:=(eU q2).1
     rw[z,ha] at this
     cases this)]
    exact q2
   |ow ps=>have:=zX i _ e';cases this
   |rc C ns ps=>have:=zX i _ e';cases this
   |ot ps qs=>have:=zX i _ e';cases this
 ·have at0:∀{i},ř F (some (.ref a)::(L2.start N (.int 0::vs)).tail) (Slot.rc C [] []::startP (N.length-1) as) i b→i=0:=fun{i} ⟨s',y,q1,_,q2⟩=>by
   have q2:=gU q2
   cases i with
   |zero=>rfl
   |succ i=>
    have:=zX i s' (by simpa using q1)
    rw[this] at q2
    cases q2
  rw[at0 h1,at0 h2]
end
section
variable{P:Program}{w:World}{K:PySem.W.Frag}{cm:String→Addr}{mg:Str→Option Value}{base:Heap}{CX:ou}
theorem fnI{x qual:Str}{st:Stmt}{f:Addr}{fd:FuncData}{N ps:List Str}{k n j:Nat}{C:String}{mb:M Fl}{mi:MI}(F:aJ K x qual st f fd)(S:ė N ps (ċ st))(hn:ps.length=n)(hj:N.length=j)(hf:mi=dU n j C mb)
 (hbody:∀(cdv:Value) (A:Around) (outer:List Env) (s:Shared) (H:Hp) (E:XK),bD k (A.deeper (envOfC qual (ċ st) s.heap.objs.size f cdv))→
   kh (bO CX P w K mg base N qual (ċ st) f cdv A outer s H E) (bQ st) (tS ⟨K,cm⟩ (fun _=>E) mb)):ľ P w K mg base CX (k+1) f fd ps (Nv ⟨K,cm⟩ n C mi):=by
 subst hn hj hf
 obtain⟨oc,od,kV,doc,pm,an,cdv,ct,osl,rfl,lk,hcd⟩:=F.ex
 refine Pn lk hcd S (fun vs H Q E ⟨F,a,dx,vs',as,h1,h2,_,_,_,h3,_⟩=>by rw[h1,List.length_cons,←Paired.length h3];exact h2) fun A outer s H vs Q E hr hsp=>?_
 obtain⟨F,a,dx,vs',as,rfl,h2,h3,h4,h5,h6,h7⟩:=hsp
 refine⟨_,hbody cdv A outer s H E hr,Nx a dx C F H,F,_,Rel.Um h5 h3 h4 h6,?_⟩
 unfold dU at h7
 rw[if_pos h2] at h7
 cases e:mb (.rc C [] []::startP (N.length-1) as) with
 |bad=>rw[e] at h7;exact h7
 |exc x ρ'=>rw[e] at h7;exact fun σ' C' d F' H' rel s1 q=>h7 C' d F' H' rel.gri q
 |ok fl ρ'=>
  rw[e] at h7
  cases fl with
  |nx=>
   cases ρ' with
   |nil=>exact h7.elim
   |cons sl ρ'=>
    cases sl with
    |rc C' ns qs=>
     intro σ' F' H' rel s1
     obtain⟨b,dy,fs,q1,q2,q3,q4,q5,q6,rfl,rfl,rfl⟩:=rel.slot 0 _ rfl
     exact h7 F' H' fs rel.gri q2 q3 q5 q6
    |_=>exact h7.elim
  |bk=>exact h7.elim
  |ct=>exact h7.elim
  |rt r=>exact h7.elim
end
def dg(C:String)(mi:MI)(ms:M (List Slot)):M PV:=fun ρ=>(ms ρ).bind fun as ρ1=>match mi as with
 | .ok ns ps=>.ok (.ins C ns ps) ρ1
 | .exc x=>.exc x ρ1
 | .bad=>.bad
section
variable{X:Cx}{cm:String→Addr}{E:L2.St→XK}{e:Expr}{es:List Expr}{pos p:Pos}{CX:ou}{k n:Nat}{f:Addr}{fd:FuncData}{ps:List Str}{C:String}{mi:MI}{ms:M (List Slot)}{x:Str}
theorem Ez{c:Ctx}{F1 H1:Hp}{σ:L2.St}{ρ1:Ő}{Q:VK}{as:List Slot}{vs:List V}(hlen:(∃r,mi as=r∧∀z,r=z→z≠ .bad)→as.length+1=n)(Ģ:Rel (kk X cm) c F1 H1 σ ρ1)(r1:Paired (bW (kk X cm) F1 H1) as vs)
 (h:aZ (kk X cm) E (rV (kk X cm)) c F1 H1 σ Q (match mi as with| .ok ns ps=>.ok (.ins C ns ps) ρ1| .exc x=>.exc x ρ1| .bad=>.bad)) :
 ∀x dx,H1 x=none→H1 dx=none→dx≠x→Nv (kk X cm) n C mi (.ref x::vs) (upd (upd H1 dx (.own x)) x (.ins (cm C) dx [])) (fun v H2=>v=.non∧Q (.ref x) H2) (E σ):=by
 intro x dx hx hdx hne
 have up:∀b u,H1 b=some u→upd (upd H1 dx (.own x)) x (.ins (cm C) dx []) b=some u:=fun b u e=>by
  rw[Į (ő e hx),Į (ő e hdx)];exact e
 have Ny:∀{F' H':Hp},GrB x F1 (upd (upd H1 dx (.own x)) x (.ins (cm C) dx [])) F' H'→Gr F1 H1 F' H':=fun{F' H'} g=>
  ⟨fun b u e=>g.h b u (ő e hx) (up b u e),g.f,g.sub,fun b hb hf=>by
    obtain⟨u,hu⟩:∃u,H1 b=some u:=by
     cases q:H1 b with
     |none=>exact absurd q hb
     |some u=>exact⟨u,rfl⟩
    exact g.out b (ő hu hx) (by rw[up b u hu];intro z;cases z) hf⟩
 refine⟨F1,x,dx,vs,as,rfl,?_,Ĳ,Ģ.sub.free hx,fun b u e=>up b u (Ģ.sub b u e),?_,?_⟩
 ·refine hlen ⟨_,rfl,fun z hz hb=>?_⟩
  rw[hz,hb] at h
  exact h
 ·refine Paired.mono (fun s v hs=>?_) r1
  cases s with
  |sh p=>exact hs
  |bw qs=>
   obtain⟨b,ws,q1,q2,q3,q4⟩:=hs
   exact⟨b,ws,q1,up b _ q2,q3,q4⟩
  |_=>exact hs.elim
 ·cases em:mi as with
  |bad=>rw[em] at h;exact h
  |exc y=>rw[em] at h;exact fun C' d F' H' g rx=>h C' d F' H' (Ģ.call (Ny g)) g.f rx
  |ok ns qs=>
   rw[em] at h
   intro F' H' fs g hx' hF' hn hr
   have r2:=Ģ.call (Ny g)
   have r3:=r2.freeze hx' (Ģ.base.free hx) hF' (Ģ.lO (Ny g).f (Ģ.fresh hx))
   refine⟨rfl,h _ _ H' r3 (g.f.trans (Same.upd hF')) (Ny g).h ?_⟩
   show Rep _ _ _ _
   unfold Rep
   exact⟨x,dx,fs,rfl,Ĳ,hn,ġ.same (Same.upd hF') qs _ hr⟩
theorem Bu{pins:List (Addr×Obj)}{σ:L2.St}{H:Hp}{s:Shared}{Q:VK}{us:List Value}{vs:List V}{sp:Sp}{C:Addr}(M:Mk X.K C f)(F:ľ X.prog X.w X.K X.mg X.base CX k f fd ps sp)(hr:bD (k+1) X.A)(hb:Binds X.K fd ps [])
 (hx:dI CX X E)(I:Inv X pins σ H s)(r:Vals vs us)
 (h:∀x dx,H x=none→H dx=none→dx≠x→sp (.ref x::vs) (upd (upd H dx (.own x)) x (.ins C dx [])) (fun v H2=>v=.non∧Q (.ref x) H2) (E σ)) :
 wpAny (model X.prog X.w) X.A (call (.ref C) us) (EP X pins σ Q) X.xe s:=by
 have hq:=h (s.heap.objs.size+1) s.heap.objs.size (I.hok.fresh (Nat.le_succ _)) (I.hok.fresh (Nat.le_refl _)) (Nat.ne_of_lt (Nat.lt_succ_self _))
 have I2:=Inv.made (C:=C) I
 have r2:Vals (V.ref (s.heap.objs.size+1)::vs) (Value.ref (s.heap.objs.size+1)::us):=.cons rfl r
 have hl:(Value.ref (s.heap.objs.size+1)::us ++ []).length=ps.length:=by
  have e:=r2.length
  rw[F.len _ _ _ _ hq] at e
  rw[List.append_nil]
  exact e.symm
 have hbd:=hb {s with heap:=(s.heap.push PySem.W.emptyDict).push (PySem.W.instObj C s.heap.objs.size)} (Value.ref (s.heap.objs.size+1)::us) I2.i_ hl
 rw[List.append_nil] at hbd
 refine wpAny_call (Dd (f:=f) I.i_ M.makes M.init (beq_iff_eq.mp M.fn) (codeAny_mono (F.run _ X.stack _ _ ⟨Value.ref (s.heap.objs.size+1)::us,[]⟩ _ _ _ (E σ) (hr.make C us []) (I2.env0.make C us []) hbd r2 hq) fun r s' hq'=>?_))
 cases r with
 |error e=>exact hx pins σ _ _ e s' I2 hq'
 |ok fl=>
  cases fl with
  |ret u=>
   obtain⟨v,H',I3,rv,ev,q3⟩:=I2.after hq'
   subst ev
   exact⟨rv,⟨V.ref (s.heap.objs.size+1),H',I3,rfl,q3⟩⟩
  |next=>exact False.elim hq'
  |brk=>exact False.elim hq'
  |cont=>exact False.elim hq'
theorem dh{n k:Nat}{C:String}{mb:M Fl}{as:List Slot}(h:∃r,dU n k C mb as=r∧∀z,r=z→z≠ .bad):as.length+1=n:=by
 obtain⟨r,h1,h2⟩:=h
 unfold dU at h1
 by_cases hl:as.length+1=n
 ·exact hl
 ·rw[if_neg hl] at h1
  exact absurd h1.symm (fun z=>h2 .bad (by rw[←h1]) rfl)
theorem mH(M:Mk X.K (cm C) f)(F:ľ X.prog X.w X.K X.mg X.base CX k f fd ps (Nv (kk X cm) n C mi))(hlen:∀{as:List Slot},(∃r,mi as=r∧∀z,r=z→z≠ .bad)→as.length+1=n)(hr:bD (k+1) X.A)(hg:Gl X x)(hm:X.mg x=some (.ref (cm C)))(hb:Binds X.K fd ps [])(hx:dI CX X E)
 (ha:PA X (e::es) (tA (kk X cm) E ms))(hdb:(x== ("__debug__" :Str))=false:=by decide)(he:starEach (e::es) X.env=(false,eval e X.env)::starEach es X.env:=by exact ć rfl)(hpl:(backTo pos (starEach es X.env)).any (·.1)=false:=by rfl) :
 PE X (.Call (.Name x p) (e::es) [] pos) (tV (kk X cm) E (dg C mi ms)):=by
 intro pins s σ H Q I ⟨c,F',ρ,rel,h⟩
 refine wpAny_Call_Name_kw (lg I hg hm ?_ hdb)
 refine PySem.W.callWith_K (h₀:= X.base) I.ok.mod.kin M.kp (ű (ha pos pins s σ H (fun vs H1=>∀x dx,H1 x=none→H1 dx=none→dx≠x→Nv (kk X cm) n C mi (.ref x::vs) (upd (upd H1 dx (.own x)) x (.ins (cm C) dx [])) (fun v H2=>v=.non∧Q (.ref x) H2) (E σ)) I
  ⟨c,F',ρ,rel,aZ.bind h fun as ρ1 vs F1 H1 Ģ _ _ r1 h1=>Ez hlen Ģ r1 h1⟩) fun us s1 ⟨vs,H1,I1,r,q⟩=>⟨I1.i_,?_⟩) he hpl
 exact Bu M F hr hb hx I1 r q
end
end P
namespace P
open PySem PySem.Spec PyProof.Rows L2 M2 M3 M4
def Uo(B:Heap)(e:Addr)(C:Value)(d:Option Addr)(fl:Value)(h:Heap):Prop:=
 ∃oe vs T oT ts,h.get? e=some oe∧(oe.cls=C∧oe.dict=d)∧oe.data=.fields vs∧vs[1]?=some (.ref T)∧B.get? T=none∧T≠e∧h.get? T=some oT∧oT.data=.fields ts∧ts[3]?=some fl
structure Moved(h h':Heap):Prop where
 up:h.UpToSlots h'
 there:∀b o,h.get? b=some o→∃o',h'.get? b=some o'
theorem Moved.trans{h h1 h2:Heap}(a:Moved h h1)(b:Moved h1 h2):Moved h h2:=⟨a.up.trans b.up,fun c o e=>let ⟨o1,e1⟩:=a.there c o e;b.there c o1 e1⟩
theorem Bv(o:Obj)(f:Array Value→Array Value):(o.mapFields f).dict=o.dict:=by
 obtain⟨c,d,dt,sl⟩:=o
 cases dt<;>rfl
section
variable{M:Model}{A:Around}{E:Value→Shared→Prop}{s:Shared}{B:Heap}{env:Env}{outer:List Env}{L e:Addr}{Q:Unit→Shared→Prop}
theorem Za6{oe:Obj}{vs:Array Value}{head:Value}{nxt:Bool}(hfr:A.frames=some (env::outer))(hl:s.heap.FunFrames B (env::outer))(hf:env.frame=some L)
 (he:s.heap.get? e=some oe)(hkb:B.StaysIn s.heap)(hen:B.get? e=none)(hd:oe.data=.fields vs)(hsz:1<vs.size)
 (k:∀h',B.StaysIn h'→h'.FunFrames B (env::outer)→Uo B e oe.cls oe.dict (rawInt L) h'→Moved s.heap h'→Q () {s with heap:=h'}) :
 wpAny M A (do
  let a ←frameOf env
  let pl ←entryPlaceOf L nxt
  let b ←EntryCells.newEntry head a .none (rawInt L) .none pl
  setField (.ref e) 1 b) Q E s:=by
 have out:e∉(env::outer).filterMap (·.frame):=fun z=>by
  obtain⟨_,o,ho,hn⟩:=hl.mem z
  rw[he] at ho
  cases ho
  exact hn vs hd
 refine wpAny_bind (wpAny_frameOf_fun hfr hl hf fun g1 so=>?_)
 refine wpAny_bind (wpAny_entryPlaceOf fun pl hpl=>?_)
 unfold EntryCells.newEntry newFields
 refine wpAny_bind (wpAny_newObj_type ?_ (hpl.sizeOk5 _ _ _ _ _))
 have e1:g1.get? e=some oe:=(so.2.1 e out).trans he
 have b1:B.StaysIn g1:=fun b o q=>(so.2.1 b fun z=>by
  rw[(hl.mem z).1] at q
  cases q).trans (hkb b o q)
 generalize hnw:([head,Value.ref L,.none,rawInt L,.none]++(if pl.isEmpty then List.replicate 6 Value.none else pl))=nw
 have n3:nw.toArray[3]?=some (rawInt L):=by rw[←hnw];simp
 dsimp only
 have e2:=Heap.get?_push_of_some (h:=g1) {cls:=.type "traceback",dict:=none,data:=.fields nw.toArray} e1
 refine wpAny_setField e2 hd hsz ?_
 have ne:g1.objs.size≠e:=Nat.ne_of_gt (Heap.lt_size e1)
 have d3:=Obj.data_mapFields hd (·.setIfInBounds 1 (Value.ref g1.objs.size))
 have e3:=Heap.get?_update_self (Obj.mapFields (·.setIfInBounds 1 (Value.ref g1.objs.size))) e2 (Obj.isFreed_of_fields d3)
 have kp:∀b o,b≠e→g1.get? b=some o→((g1.push {cls:=.type "traceback",dict:=none,data:=.fields nw.toArray}).update e (Obj.mapFields (·.setIfInBounds 1 (Value.ref g1.objs.size)))).get? b=some o:=fun b o hb q=>by
  rw[Heap.get?_update_other _ _ (Ne.symm hb)]
  exact Heap.get?_push_of_some _ q
 have t3:((g1.push {cls:=.type "traceback",dict:=none,data:=.fields nw.toArray}).update e (Obj.mapFields (·.setIfInBounds 1 (Value.ref g1.objs.size)))).get? g1.objs.size=some {cls:=.type "traceback",dict:=none,data:=.fields nw.toArray}:=by
  rw[Heap.get?_update_other _ _ (Ne.symm ne)]
  exact Heap.get?_push_size g1 rfl
 have nr:∀b o,s.heap.get? b=some o→(∀ws,o.data≠ .fields ws)→b≠e:=fun b o q hn z=>by
  rw[z,he] at q
  cases q
  exact hn vs hd
 refine k _ (fun b o q=>kp b o (fun z=>by rw[z,hen] at q;cases q) (b1 b o q)) (hl.of_keeps fun b o q hn=>?_) ?_ ⟨fun b o q hn=>?_,fun b o q=>?_⟩
 ·obtain⟨sl,z⟩:=so.2.2 b o q
  exact⟨_,kp b _ (nr b o q hn) z,rfl⟩
 ·exact⟨_,_,g1.objs.size,_,_,e3,⟨Obj.cls_mapFields _ _,Bv _ _⟩,d3,by simp[hsz],b1.fresh,ne,t3,rfl,n3⟩
 ·obtain⟨sl,z⟩:=so.2.2 b o q
  exact⟨sl,kp b _ (nr b o q hn) z⟩
 ·obtain⟨sl,z⟩:=so.2.2 b o q
  by_cases hb:b=e
  ·rw[hb];exact⟨_,e3⟩
  ·exact⟨_,kp b _ hb z⟩
theorem Nz{oe:Obj}{vs:Array Value}(hfr:A.frames=some (env::outer))(hl:s.heap.FunFrames B (env::outer))(hf:env.frame=some L)(he:s.heap.get? e=some oe)(hkb:B.StaysIn s.heap)(hen:B.get? e=none)
 (hd:oe.data=.fields vs)(h1:vs[1]?=some .none)(k:∀h',B.StaysIn h'→h'.FunFrames B (env::outer)→Uo B e oe.cls oe.dict (rawInt L) h'→Moved s.heap h'→Q () {s with heap:=h'}) :
 wpAny M A (noteFrame (.ref e) env) Q E s:=by
 unfold noteFrame
 simp only[hf]
 refine wpAny_bind (wpAny_field he hd h1 ?_)
 rw[if_neg (by decide)]
 exact Za6 hfr hl hf he hkb hen hd (Array.getElem?_eq_some_iff.mp h1).1 k
theorem Uq{C:Value}{d:Option Addr}(hfr:A.frames=some (env::outer))(hl:s.heap.FunFrames B (env::outer))(hf:env.frame=some L)(ht:Uo B e C d .none s.heap)(hkb:B.StaysIn s.heap)(hen:B.get? e=none)
 (k:∀h',B.StaysIn h'→h'.FunFrames B (env::outer)→Uo B e C d (rawInt L) h'→Moved s.heap h'→Q () {s with heap:=h'}):wpAny M A (noteFrame (.ref e) env) Q E s:=by
 obtain⟨oe,vs,T,oT,ts,he,⟨rfl,rfl⟩,hd,h1,hT,hTe,hT2,hdT,h3⟩:=ht
 unfold noteFrame
 simp only[hf]
 refine wpAny_bind (wpAny_field he hd h1 ?_)
 rw[if_pos (show(Value.ref T != Value.none)=true by simp)]
 refine wpAny_bind (wpAny_field hT2 hdT h3 ?_)
 rw[if_neg (show ¬((Value.none== rawInt L)=true) by simp[rawInt])]
 refine wpAny_bind (wpAny_setField hT2 hdT (Array.getElem?_eq_some_iff.mp h3).1 ?_)
 have oth:∀b,b≠T→(s.heap.update T (Obj.mapFields (·.setIfInBounds 3 Value.none))).get? b=s.heap.get? b:=fun b hb=>Heap.get?_update_other _ _ (Ne.symm hb)
 have nr:∀b o,s.heap.get? b=some o→(∀ws,o.data≠ .fields ws)→b≠T:=fun b o q hn z=>by
  rw[z,hT2] at q
  cases q
  exact hn ts hdT
 refine Za6 hfr (hl.of_keeps fun b o q hn=>⟨o,(oth b (nr b o q hn)).trans q,rfl⟩) hf ((oth e (Ne.symm hTe)).trans he) (fun b o q=>(oth b fun z=>by rw[z,hT] at q;cases q).trans (hkb b o q)) hen hd (Array.getElem?_eq_some_iff.mp h1).1
  fun h' x1 x2 x3 x4=>k h' x1 x2 x3 (Moved.trans ⟨fun b o q hn=>⟨o.slots,(oth b (nr b o q hn)).trans q⟩,fun b o q=>?_⟩ x4)
 by_cases hb:b=T
 ·rw[hb];exact⟨_,Heap.get?_update_self _ hT2 (Obj.isFreed_of_fields (Obj.data_mapFields hdT _))⟩
 ·exact⟨o,(oth b hb).trans q⟩
theorem zY{C fl:Value}{d:Option Addr}{l:List Env}(hkb:B.StaysIn s.heap)(hl:s.heap.FunFrames B l)(ht:Uo B e C d fl s.heap)
 (k:∀h',B.StaysIn h'→h'.FunFrames B l→Uo B e C d .none h'→Moved s.heap h'→Q () {s with heap:=h'}):wpAny M A (setFlight (.ref e) none) Q E s:=by
 obtain⟨oe,vs,T,oT,ts,he,hc,hd,h1,hT,hTe,hT2,hdT,h3⟩:=ht
 have z3:3<ts.size:=(Array.getElem?_eq_some_iff.mp h3).1
 have oth:∀b,b≠T→(s.heap.update T (Obj.mapFields (·.setIfInBounds 3 ((none:Option Addr).elim Value.none fun f=>rawInt f)))).get? b=s.heap.get? b:=fun b hb=>Heap.get?_update_other _ _ (Ne.symm hb)
 have nr:∀b o,s.heap.get? b=some o→(∀ws,o.data≠ .fields ws)→b≠T:=fun b o q hn z=>by
  rw[z,hT2] at q
  cases q
  exact hn ts hdT
 unfold setFlight
 refine wpAny_bind (wpAny_field he hd h1 ?_)
 rw[if_pos (show(Value.ref T != Value.none)=true by simp)]
 refine wpAny_setField hT2 hdT z3 (k _ (fun b o q=>(oth b fun z=>by rw[z,hT] at q;cases q).trans (hkb b o q)) (hl.of_keeps fun b o q hn=>⟨o,(oth b (nr b o q hn)).trans q,rfl⟩) ?_ ⟨fun b o q hn=>⟨o.slots,(oth b (nr b o q hn)).trans q⟩,fun b o q=>?_⟩)
 rotate_left
 ·by_cases hb:b=T
  ·rw[hb];exact⟨_,Heap.get?_update_self _ hT2 (Obj.isFreed_of_fields (Obj.data_mapFields hdT _))⟩
  ·exact⟨o,(oth b hb).trans q⟩
 exact⟨oe,vs,T,_,_,(oth e (Ne.symm hTe)).trans he,hc,hd,h1,hT,hTe,Heap.get?_update_self _ hT2 (Obj.isFreed_of_fields (Obj.data_mapFields hdT _)),Obj.data_mapFields hdT _,by simp[z3]⟩
end
theorem ux{P:Program}{w:World}{H:Hp}{h:Heap}{a:Addr}{o:HO}(x:ſ P w H h a o):∃ob,h.get? a=some ob:=by
 cases o with
 |lst xs=>obtain⟨_,_,_,_,e⟩:=x;exact⟨_,e⟩
 |tup xs=>obtain⟨_,_,_,ob,e,_⟩:=x;exact⟨_,e⟩
 |dK kvs=>obtain⟨_,_,_,_,ob,_,_,e,_⟩:=x;exact⟨_,e⟩
 |dT kvs=>obtain⟨_,_,_,_,ob,_,_,e,_⟩:=x;exact⟨_,e⟩
 |set S n=>obtain⟨ob,_,_,_,e,_⟩:=x;exact⟨_,e⟩
 |ins C dx fs=>obtain⟨_,_,_,e,_⟩:=x;exact⟨_,e⟩
 |own y=>exact x
 |xd fs=>obtain⟨_,⟨ob,_,_,e,_⟩,_⟩:=x;exact⟨_,e⟩
 |rng lo hi=>obtain⟨_,_,_,e⟩:=x;exact⟨_,e⟩
 |cQ ob u=>obtain⟨e,_⟩:=x;exact⟨_,e⟩
 |oh ps=>exact⟨_,(show h.get? a=some _ from x)⟩
 |met f y=>exact⟨_,(show h.get? a=some _ from x)⟩
 |ext φ=>obtain⟨_,e,_⟩:=x;exact e
theorem gB.sub{P:Program}{w:World}{H:Hp}{h B:Heap}(x:gB P w H h)(k:∀b o u,H b=some u→h.get? b=some o→B.get? b=some o):gB P w H B:=fun a o e=>
 (x a o e).stay (fun b u hb q=>by
   rcases hb with rfl|hb
   ·exact k _ _ _ e q
   ·exact k _ _ _ hb q) (fun _ q=>q) fun _ _ q=>q
structure UnX(fs:List Addr)(H H':Hp)(h B h':Heap):Prop where
 keep:∀b o,h.get? b=some o→H b=none→b∉fs→B.get? b=some o
 slot:∀b o,h.get? b=some o→H b=none→b∈fs→∃sl,h'.get? b=some {o with slots:=sl}
 free:∀b o,h.get? b=some o→H b=none→H' b=none
 there:∀b o,h.get? b=some o→∃o',h'.get? b=some o'
 tups:∀b xs,H b=some (.tup xs)→H' b=some (.tup xs)
 iu:∀b o u,H b=some (.cQ o u)→H' b=some (.cQ o u)
 jd:∀b ps,H b=some (.oh ps)→∃more,H' b=some (.oh (ps++more))
structure Lies(P:Program)(w:World)(outer:List Env)(H:Hp)(s:Shared)(ea:Addr)(C:Value)(d:Option Addr)(fl:Value)(H':Hp)(B:Heap)(s':Shared):Prop where
 os:s'.os=s.os
 bare:AllBare s'.gens
 st:B.StaysIn s'.heap
 en:B.get? ea=none
 fr:s'.heap.FunFrames B outer
 tr:Uo B ea C d fl s'.heap
 hok:gB P w H' B
 un:UnX (frs outer) H H' s.heap B s'.heap
 no:H' ea=none
 new:s.heap.get? ea=none
def ź(P:Program)(w:World):ou:=fun outer H s E e s'=>∃ea C d H' B,e=.ref ea∧Lies P w outer H s ea C d .none H' B s'∧E C d H'
theorem pJ{P:Program}{w:World}{outer:List Env}{H:Hp}{s s':Shared}{e:Value}(h:ź P w outer H s (fun _ _ _=>False) e s'):False:=by
 obtain⟨_,_,_,_,_,_,_,h⟩:=h
 exact h
theorem cB{P:Program}{w:World}{X:Cx}:dI (ź P w) X EF:=fun _ _ _ _ _ _ _ h=>(pJ h).elim
section
variable{P:Program}{w:World}{K:PySem.W.Frag}{mg:Str→Option Value}{base:Heap}{N:List Str}{qual:Str}{scope:Scope}{f:Addr}{cdv:Value}{A:Around}{outer:List Env}{s₀:Shared}{H₀:Hp}{E:XK}
theorem ī:dI (ź P w) (bO (ź P w) P w K mg base N qual scope f cdv A outer s₀ H₀ E) (fun _=>E):=by
 intro pins σ H s e s' I h
 obtain⟨ea,C,d,H',B,rfl,l,hE⟩:=h
 have hfr:(A.deeper (envOfC qual scope s₀.heap.objs.size f cdv)).frames=some (envOfC qual scope s₀.heap.objs.size f cdv::outer):=I.ok.frames
 show wpAny _ _ (leaving _ _) _ _ s'
 unfold leaving
 refine wpAny_bind (Uq hfr l.fr rfl l.tr l.st l.en fun h1 x1 x2 x3 x4=>?_)
 refine zY (s:={s' with heap:=h1}) x1 x2 x3 fun h2 y1 y2 y3 y4=>?_
 obtain⟨_,_,y2'⟩:=y2
 have mv:=x4.trans y4
 have YJ:∀b o,s₀.heap.get? b=some o→b∉frs outer→b∉frs (envOfC qual scope s₀.heap.objs.size f cdv::outer):=fun b o q hb z=>by
  rcases List.mem_cons.mp (show b∈s₀.heap.objs.size::frs outer from z) with z|z
  ·exact absurd (Heap.lt_size q) (by rw[z];exact Nat.lt_irrefl _)
  ·exact hb z
 have inL:∀b,b∈frs outer→b∈frs (envOfC qual scope s₀.heap.objs.size f cdv::outer):=fun b z=>List.mem_cons_of_mem _ z
 refine⟨ea,C,d,H',B,rfl,⟨l.os.trans I.os,l.bare,y1,l.en,y2',y3,l.hok,⟨fun b o q n hb=>?_,fun b o q n hb=>?_,fun b o q n=>?_,fun b o q=>?_,fun b xs q=>l.un.tups b xs (I.base.tups b xs q),fun b o u q=>l.un.iu b o u (I.base.iu b o u q),fun b ps q=>?_⟩,l.no,?_⟩,hE⟩
 ·exact l.un.keep b o (I.base.keep b o q n hb (by simp[bO])) (I.base.free b o q n (by simp[bO])) (YJ b o q hb)
 ·obtain⟨sl,q1⟩:=I.base.slot b o q n hb (by simp[bO])
  obtain⟨sl2,q2⟩:=l.un.slot b _ q1 (I.base.free b o q n (by simp[bO])) (inL b hb)
  have nf:∀vs,o.data≠ .fields vs:=by
   obtain⟨_,o',q3,hn⟩:=l.fr.mem (inL b hb)
   rw[q2] at q3
   cases q3
   exact hn
  obtain⟨sl3,q3⟩:=mv.up b _ q2 nf
  exact⟨sl3,q3⟩
 ·obtain⟨o1,q1⟩:=I.base.there b o q (by simp[bO])
  exact l.un.free b o1 q1 (I.base.free b o q n (by simp[bO]))
 ·obtain⟨o1,q1⟩:=I.base.there b o q (by simp[bO])
  obtain⟨o2,q2⟩:=l.un.there b o1 q1
  exact mv.there b o2 q2
 ·obtain⟨m1,e1⟩:=I.base.jd b ps q
  obtain⟨m2,e2⟩:=l.un.jd b _ e1
  exact⟨m1++m2,by rw[e2,Array.append_assoc]⟩
 ·cases q:s₀.heap.get? ea with
  |none=>rfl
  |some o=>
   obtain⟨o1,q1⟩:=I.base.there ea o q (by simp[bO])
   rw[l.new] at q1
   cases q1
theorem Ur{pins:List (Addr×Obj)}{σ:L2.St}{H:Hp}{s:Shared}{e:Addr}{oe:Obj}{vs:Array Value}(I:Inv (bO (ź P w) P w K mg base N qual scope f cdv A outer s₀ H₀ E) pins σ H s)
 (he:s.heap.get? e=some oe)(hd:oe.data=.fields vs)(h1:vs[1]?=some .none)(hn:H e=none)(hnew:s₀.heap.get? e=none)(hE:E oe.cls oe.dict H) :
 (bO (ź P w) P w K mg base N qual scope f cdv A outer s₀ H₀ E).xe (.ref e) s:=by
 have hfr:(A.deeper (envOfC qual scope s₀.heap.objs.size f cdv)).frames=some (envOfC qual scope s₀.heap.objs.size f cdv::outer):=I.ok.frames
 have st:s.heap.FunFrames base (envOfC qual scope s₀.heap.objs.size f cdv::outer):=I.stack
 have nof:e∉frs (envOfC qual scope s₀.heap.objs.size f cdv::outer):=fun z=>by
  obtain⟨_,o,q,hn⟩:=st.mem z
  rw[he] at q
  cases q
  exact hn vs hd
 have hin:∀env∈(envOfC qual scope s₀.heap.objs.size f cdv::outer),∀a,env.frame=some a→a∈e::frs (envOfC qual scope s₀.heap.objs.size f cdv::outer):=fun env h1 a h2=>List.mem_cons_of_mem _ (List.mem_filterMap.mpr ⟨env,h1,h2⟩)
 have hl:s.heap.FunFrames (PySem.W.hideAll s.heap (e::frs (envOfC qual scope s₀.heap.objs.size f cdv::outer))) (envOfC qual scope s₀.heap.objs.size f cdv::outer):=PySem.W.funFrames_hide st hin
 have hB:∀b o,s.heap.get? b=some o→b≠e→b∉frs (envOfC qual scope s₀.heap.objs.size f cdv::outer)→(PySem.W.hideAll s.heap (e::frs (envOfC qual scope s₀.heap.objs.size f cdv::outer))).get? b=some o:=fun b o q h1 h2=>
  PySem.W.hideAll_get _ q fun z=>(List.mem_cons.mp z).elim h1 h2
 have YJ:∀b o,s₀.heap.get? b=some o→b∉frs outer→b∉frs (envOfC qual scope s₀.heap.objs.size f cdv::outer):=fun b o q hb z=>by
  rcases List.mem_cons.mp (show b∈s₀.heap.objs.size::frs outer from z) with z|z
  ·exact absurd (Heap.lt_size q) (by rw[z];exact Nat.lt_irrefl _)
  ·exact hb z
 have ne0:∀b o,s₀.heap.get? b=some o→b≠e:=fun b o q z=>by rw[z,hnew] at q;cases q
 have kb:(PySem.W.hideAll s.heap (e::frs (envOfC qual scope s₀.heap.objs.size f cdv::outer))).StaysIn s.heap:=fun b o q=>PySem.W.of_hideAll _ q
 have en:(PySem.W.hideAll s.heap (e::frs (envOfC qual scope s₀.heap.objs.size f cdv::outer))).get? e=none:=PySem.W.hideAll_none _ List.mem_cons_self
 show wpAny _ _ (leaving _ _) _ _ s
 unfold leaving
 refine wpAny_bind (Nz hfr hl rfl he kb en hd h1 fun g1 x1 x2 x3 x4=>?_)
 refine zY (s:={s with heap:=g1}) x1 x2 x3 fun g2 y1 y2 y3 y4=>?_
 obtain⟨_,_,y2'⟩:=y2
 have mv:=x4.trans y4
 refine⟨e,oe.cls,oe.dict,H,_,rfl,⟨I.os,I.bare,y1,en,y2',y3,?_,⟨fun b o q n hb=>?_,fun b o q n hb=>?_,fun b o q n=>?_,fun b o q=>?_,I.base.tups,I.base.iu,I.base.jd⟩,hn,hnew⟩,hE⟩
 ·refine gB.sub I.hok fun b o u hu q=>hB b o q (fun z=>by rw[z,hn] at hu;cases hu) fun z=>?_
  have:=I.qH b z
  rw[hu] at this
  cases this
 ·exact hB b o (I.base.keep b o q n hb (by simp[bO])) (ne0 b o q) (YJ b o q hb)
 ·obtain⟨sl,q1⟩:=I.base.slot b o q n hb (by simp[bO])
  have nf:∀vs,o.data≠ .fields vs:=by
   obtain⟨_,o',q3,hn⟩:=st.mem (List.mem_cons_of_mem _ hb)
   rw[q1] at q3
   cases q3
   exact hn
  obtain⟨sl3,q3⟩:=mv.up b _ q1 nf
  exact⟨sl3,q3⟩
 ·exact I.base.free b o q n (by simp[bO])
 ·obtain⟨o1,q1⟩:=I.base.there b o q (by simp[bO])
  exact mv.there b o1 q1
end
end P
namespace P
open PySem PySem.Spec PyProof.Rows L2 M2 M3 M4
abbrev Bw:List Value:=[.type "ValueError",.type "Exception",.type "BaseException",.type "object"]
abbrev NK:String:= "ValueError.__new__"
section
variable{K:PySem.W.Frag}{h:Heap}{C:Addr}{bmB:List Value}{newId:String}
theorem Us(X:K.In h)(q:PySem.W.excIn K C bmB newId=true) :
 ∃bm N nm qn bs hd sn sub ab col dd k0 k1 k2 k3 k5 mN,h.get? C=some (excClassObj nm qn C N bs bm hd sn sub ab col dd k0 k1 k2 k3 k5 newId)∧h.Ns N mN∧mN "__init__" =none∧OwnTail h bmB bm:=by
 unfold PySem.W.excIn at q
 split at q
 case h_2=>cases q
 rename_i dd cd sl ho
 split at q
 case h_2=>cases q
 rename_i C1 bm k0 k1 k2 k3 n1 k5 e1 e2
 simp only[Bool.and_eq_true,beq_iff_eq,Bool.not_eq_true'] at q
 obtain⟨⟨⟨⟨⟨z1,z2⟩,z3⟩,z4⟩,z5⟩,z6⟩:=q
 subst z1 z2
 obtain⟨nm,bs,mro,ns,qn,hd,sn,sub,ab,col,del⟩:=cd
 dsimp only at e1 z3 z5 z6
 subst e1 z3
 obtain⟨sll⟩:=sl
 dsimp only at e2
 subst e2
 exact⟨bm,ns,nm,qn,bs,hd,sn,sub,ab,col,dd,k0,k1,k2,k3,k5,_,X _ _ ho,.of_isNs (PySem.W.isNs_of_in X z5),PySem.W.nsMap_none_of_in X z5 z6,PySem.W.tail_of_in X z4⟩
end
def zZ(X:Cx)(E:L2.St→XK):Prop:=∀(pins:List (Addr×Obj)) (σ:L2.St) (H:Hp) (s:Shared) (e:Addr) (oe:Obj) (vs:Array Value),Inv X pins σ H s→s.heap.get? e=some oe→oe.data=.fields vs→vs[1]?=some .none→H e=none→
 X.s₀.heap.get? e=none→E σ oe.cls oe.dict H→X.xe (.ref e) s
theorem z_{P:Program}{w:World}{K:PySem.W.Frag}{mg:Str→Option Value}{base:Heap}{N:List Str}{qual:Str}{scope:Scope}{f:Addr}{cdv:Value}{A:Around}{outer:List Env}{s₀:Shared}{H₀:Hp}{E:XK} :
 zZ (bO (ź P w) P w K mg base N qual scope f cdv A outer s₀ H₀ E) (fun _=>E):=fun _ _ _ _ _ _ _ I he hd h1 hn hnew hE=>Ur I he hd h1 hn hnew hE
def qT(C:String):M Fl:=fun ρ=>.exc ⟨C,[],[]⟩ ρ
section
variable{X:Cx}{cm:String→Addr}{E:L2.St→XK}{x:Str}{C:String}{np cpos pos:Pos}
theorem NP{P:Program}{w:World}{H:Hp}{h:Heap}{e:Addr}(k:gB P w H h)(q:h.get? e=none):H e=none:=by
 cases z:H e with
 |none=>rfl
 |some u=>
  obtain⟨o,ho⟩:=ux (k e u z)
  rw[q] at ho
  cases ho
theorem Inv.ZhX{pins:List (Addr×Obj)}{σ:L2.St}{H:Hp}{s:Shared}{e:Addr}(I:Inv X pins σ H s)(hex:X.ex=[])(q:s.heap.get? e=none):X.s₀.heap.get? e=none:=by
 cases z:X.s₀.heap.get? e with
 |none=>rfl
 |some o=>
  obtain⟨o1,q1⟩:=I.base.there e o z (by rw[hex];simp)
  rw[q] at q1
  cases q1
theorem uy(hc:X.calm=true)(hex:X.ex=[])(hr:zZ X E)(hg:Gl X x)(hm:X.mg x=some (.ref (cm C)))(q:PySem.W.excIn X.K (cm C) Bw NK=true)(hdb:(x== ("__debug__" :Str))=false:=by decide) :
 PS X (.Raise (some (.Call (.Name x np) [] [] cpos)) none pos) (tS (kk X cm) E (qT C)):=by
 intro pins s σ H D I ⟨c,F,ρ,rel,h⟩
 obtain⟨bm,N,nm,qn,bs,hd,sn,sub,ab,col,dd,k0,k1,k2,k3,k5,mN,hC,hN,hni,T⟩:=Us I.i_ q
 refine wpAny_Raise_call_subT (C:=cm C) (nm:=nm) (q:=qn) (N:=N) (bs:=bs) (bm:=bm) (hdct:=hd) (sn:=sn) (sub:=sub) (ab:=ab) (col:=col) (dd:=dd) (k0:=k0) (k1:=k1) (k2:=k2) (k3:=k3) (k5:=k5)
  PySem.F.excBase_ValueError (mN:=mN) (T.hasType (by decide)) (I.ok.hd hc) rfl hni (lg I hg hm ⟨rfl,?_⟩ hdb)
 refine evalArgs_empty ⟨rfl,Nat.zero_le _,hC,hN,T,fun h' e hx=>?_⟩
 obtain⟨t,he,_,_⟩:=hx.there
 have I2:Inv X pins σ H {s with heap:=h'}:=I.kept (t':=s.toks) hx.keeps
 exact hr pins σ H _ e _ _ I2 he rfl rfl (NP I.hok hx.new) (Inv.ZhX I hex hx.new) (h σ _ _ F H rel (Same.refl _) ⟨rfl,[],.inl ⟨rfl,rfl⟩,rfl,ġ.nil⟩)
end
section
variable{M:Model}{A:Around}{E:Value→Shared→Prop}{s:Shared}{K:PySem.W.Frag}{e C D:Addr}{oe:Obj}{b:Bool}{Q:Bool→Shared→Prop}
end
section
variable{X:Cx}{pins:List (Addr×Obj)}{σ:L2.St}{H:Hp}{s:Shared}{xe:Value→Shared→Prop}
end
end P
namespace P
open PySem PySem.Spec PyProof.Rows L2 M2 M3 M4
abbrev MH:=PX→Ő→Res Fl
def NQ(i:Nat)(yes no:List String)(mh:M Fl)(rest:MH):MH:=fun x ρ=>if yes.contains x.C=true then(match mh (ρ.set i (.sh (.xc x.C x.ns x.ps))) with
 | .ok f ρ2=>.ok f (ρ2.set i .no)
 |_=>.bad) else if no.contains x.C=true then rest x ρ else .bad
def Za7(yes no:List String)(mh:M Fl)(rest:MH):MH:=fun x ρ=>if yes.contains x.C=true then(match mh ρ with
 | .ok f ρ2=>.ok f ρ2
 |_=>.bad) else if no.contains x.C=true then rest x ρ else .bad
def ZhY(mb:M Fl)(mh:MH):M Fl:=fun ρ=>match mb ρ with
 | .exc x ρ1=>mh x ρ1
 |r=>r
section
variable{X:Cx}{cm:String→Addr}{E:L2.St→XK}{pins:List (Addr×Obj)}{σ:L2.St}{H Hc:Hp}{s sc:Shared}{ea:Addr}{C:Value}{d:Option Addr}{B:Heap}
variable{y n:Str}{Dn:String}{i:Nat}{yp hpos:Pos}{b₀:Stmt}{suite:List Stmt}{rest:List ExceptHandler}{yes no:List String}{mh:M Fl}{mr:MH}
end
end P
namespace P
open PySem PySem.Spec PyProof.Rows L2 M2 M3 M4 Builtin Builtin.ObjectAttr
def cP(K:PySem.W.Frag)(C:Addr):Bool:=match K.lookup C with
 |some ⟨.type "type",_,.cls cd,sl⟩=>(match cd.mro,sl.toList with
  | .ref C'::bm,[_,_,_,_,some (.builtin n),_]=>C'== C && n== NK && !cd.hasDel && cd.hasDict && PySem.W.tailIn K Bw bm && PySem.W.findIn K (.ref C) "__setattr__" == some (some (.builtin "object.__setattr__")) &&
      PySem.W.findIn K (.ref C) "__getattribute__" == some (some (.builtin "BaseException.__getattribute__")) && PySem.W.findIn K (.ref C) "__getattr__" == some none
  |_,_=>false)
 |_=>false
structure EY(K:PySem.W.Frag)(C:Addr)(cd:ClassData)(bm:List Value):Prop where
 at_:∃dd k0 k1 k2 k3 k5,K.lookup C=some ⟨.type "type",dd,.cls cd,#[k0,k1,k2,k3,some (.builtin NK),k5]⟩
 mro:cd.mro=.ref C::bm
 del:cd.hasDel=false
 dict:cd.hasDict=true
 tail:PySem.W.tailIn K Bw bm=true
 sa:PySem.W.findIn K (.ref C) "__setattr__" =some (some (.builtin "object.__setattr__"))
 ga:PySem.W.findIn K (.ref C) "__getattribute__" =some (some (.builtin "BaseException.__getattribute__"))
 gg:PySem.W.findIn K (.ref C) "__getattr__" =some none
theorem qU{K:PySem.W.Frag}{C:Addr}(q:cP K C=true):∃cd bm,EY K C cd bm:=by
 unfold cP at q
 split at q
 case h_2=>cases q
 rename_i dd cd sl ho
 split at q
 case h_2=>cases q
 rename_i C1 bm k0 k1 k2 k3 n1 k5 e1 e2
 simp only[Bool.and_eq_true,beq_iff_eq,Bool.not_eq_true'] at q
 obtain⟨⟨⟨⟨⟨⟨⟨z1,z2⟩,z3⟩,z4⟩,z5⟩,z6⟩,z7⟩,z8⟩:=q
 subst z1 z2
 obtain⟨sll⟩:=sl
 dsimp only at e2
 subst e2
 exact⟨cd,bm,⟨dd,k0,k1,k2,k3,k5,ho⟩,e1,z3,z4,z5,z6,z7,z8⟩
section
variable{K:PySem.W.Frag}{h:Heap}{C:Addr}{cd:ClassData}{bm:List Value}
theorem EY.cls(x:EY K C cd bm):PySem.W.clsIn K C=some cd:=by
 obtain⟨_,_,_,_,_,_,e⟩:=x.at_
 unfold PySem.W.clsIn
 rw[e]
theorem uz{T:String}(hT:Bw.contains (.type T)=true):∀{l:List Value},PySem.W.tailIn K Bw l=true→l.contains (.type T)=true
 | [],e=>by cases(show(Bw== [])=true from e)
 |v::r,e=>by
  unfold PySem.W.tailIn at e
  rcases Bool.or_eq_true_iff.mp e with q|q
  ·rw[beq_iff_eq.mp q];exact hT
  ·split at q
   ·split at q
    ·simp only[Bool.and_eq_true,beq_iff_eq] at q
     rw[List.contains_cons,uz hT q.2,Bool.or_true]
    ·cases q
   ·cases q
theorem EY.mroIs(x:EY K C cd bm){T:String}(hT:Bw.contains (.type T)=true):PySem.W.mroIn K C (.type T)=some true:=by
 unfold PySem.W.mroIn
 rw[x.cls,Option.bind_some,if_neg (by rw[x.mro];simp),x.mro,List.contains_cons,uz hT x.tail,Bool.or_true]
end
section
variable{prog:Program}{w:World}{A:Around}{E:Value→Shared→Prop}{h:Heap}{g:Array GenState}{d:Drawn}{t:Nat}{os:OsState}
variable{nm q:Str}{C N:Addr}{bs bm bmB:List Value}{hdct:Bool}{sn:List Str}{sub:List Value}{ab:Bool}{col:Option Bool}{dd:Option Addr}{k0 k1 k2 k3 k5:Option Value}{B newId initId:String}
end
section
variable{prog:Program}{w:World}{A:Around}{E:Value→Shared→Prop}{s:Shared}{K:PySem.W.Frag}{x C:Addr}{cd:ClassData}{bm:List Value}{ox:Obj}{od:Option Obj}{name:Str}{v:Value}
end
end P
namespace P
open PySem PySem.Spec PyProof.Rows L2 M2 M3 M4
section
variable{X:Cx}{pins:List (Addr×Obj)}{σ:L2.St}{H:Hp}{s:Shared}{a C:Addr}{cd:ClassData}{bm:List Value}{d:Option Addr}{fs:List (Str×V)}{f:Str}{y:V}{u:Value}{A:Around}{E:Value→Shared→Prop}
variable{o value:Expr}{pos pos':Pos}{j:Nat}{ss:List Stmt}{r:List (Str×Nat)}
end
section
variable{P:Program}{w:World}{K:PySem.W.Frag}{mg:Str→Option Value}{base:Heap}{CX:ou}
end
def xiP:List (Str×Nat)→List PV→List Str→List PV→Option (List Str×List PV)
 | [],_,ns,qs=>some (ns,qs)
 |(_,0)::_,_,_,_=>none
 |(f,j+1)::r,ps,ns,qs=>match ps[j]? with
  |some p=>xiP r ps (putN f ns) (wX f p ns qs)
  |none=>none
def Ut(C:String)(n:Nat)(fl:List (Str×Nat))(ms:M (List PV)):M PV:=fun ρ=>(ms ρ).bind fun ps ρ1=>if ps.length+1=n∧ps.length<1000∧fl.length<1000 then(match xiP fl ps [] [] with
 |some (ns,qs)=>.ok (.xc C ns qs) ρ1
 |none=>.bad) else .bad
def NT(C:String)(n:Nat)(fl:List (Str×Nat))(ms:M (List PV)):M Fl:=fun ρ=>(ms ρ).bind fun ps ρ1=>if ps.length+1=n∧ps.length<1000∧fl.length<1000 then(match xiP fl ps [] [] with
 |some (ns,qs)=>.exc ⟨C,ns,qs⟩ ρ1
 |none=>.bad) else .bad
section
variable{X:Cx}{cm:String→Addr}{E:L2.St→XK}{e:Expr}{es:List Expr}{pos p:Pos}{CX:ou}{k n:Nat}{f:Addr}{fd:FuncData}{ps:List Str}{C:String}{fl:List (Str×Nat)}{ms:M (List PV)}{x:Str}
def NZ(C:String):M PV:=fun ρ=>.ok (.xc C [] []) ρ
end
section
variable{M:Model}{A:Around}{E:Value→Shared→Prop}{s:Shared}{K:PySem.W.Frag}{env:Env}
end
section
variable{X:Cx}{cm:String→Addr}{E:L2.St→XK}{e:Expr}{es:List Expr}{pos cpos np:Pos}{CX:ou}{k n:Nat}{f:Addr}{fd:FuncData}{ps:List Str}{C:String}{fl:List (Str×Nat)}{ms:M (List PV)}{x:Str}
end
end P
namespace P
open PySem PySem.Spec PyProof.Rows L2 M2 M3 M4 Builtin Builtin.ObjectAttr
def cM(K:PySem.W.Frag)(C:Addr):Bool:=cP K C && PySem.W.findIn K (.ref C) "__class__" == some (some (.builtin "object.__class__")) && PySem.W.specialIn K (.builtin "object.__class__") "__get__" == some (some (.builtin "getset_descriptor.__get__")) && PySem.W.takesIn K (.builtin "object.__class__")== some true
theorem mJ{K:PySem.W.Frag}{C:Addr}(q:cM K C=true):cP K C=true∧PySem.W.findIn K (.ref C) "__class__" =some (some (.builtin "object.__class__"))∧PySem.W.specialIn K (.builtin "object.__class__") "__get__" =some (some (.builtin "getset_descriptor.__get__"))∧PySem.W.takesIn K (.builtin "object.__class__")=some true:=by
 unfold cM at q
 simp only[Bool.and_eq_true,beq_iff_eq] at q
 obtain⟨⟨⟨z1,z2⟩,z3⟩,z4⟩:=q
 exact⟨z1,z2,z3,z4⟩
section
variable{prog:Program}{w:World}{A:Around}{E:Value→Shared→Prop}{s:Shared}{K:PySem.W.Frag}{x C:Addr}{ox:Obj}{od:Option Obj}
theorem N_{R:Result→Shared→Prop}{tk:Tok}(X:K.In s.heap)(I:PySem.W.InstAt s.heap x ox C od)(q:cM K C=true)
 (h:R (.ok (.ret (.ref C))) s):codeAny (model prog w) A (.call (.builtin "BaseException.__getattribute__") ⟨[.ref x,.str "__class__" tk],[]⟩) R s:=by
 obtain⟨q0,q1,q2,q3⟩:=mJ q
 obtain⟨cd,bm,c⟩:=qU q0
 have hk:builtinKind "BaseException.__getattribute__" =some .slot:=by decide +kernel
 have hsplit:splitId "BaseException.__getattribute__" =some ("BaseException","__getattribute__"):=by decide +kernel
 have L0:=I.type (M:=model prog w)
 have hf:PySem.W.findObj K C od "__class__" =some (.bind (.builtin "getset_descriptor.__get__") (.builtin "object.__class__")):=by
  unfold PySem.W.findObj
  rw[c.cls,Option.bind_some,q1,Option.bind_some]
  simp[q2,q3]
 have L3:=PySem.W.looks_find (M:=model prog w) X I hf
 have hsub:PySem.W.Looks (model prog w) s.heap (isInstance (.ref x) (.type "BaseException")) true:=L0.andThen (PySem.W.looks_mroIn X (c.mroIs (by decide)))
 refine codeAny_call_builtin PySem.F.attrBase_ValueError.ga.plain PySem.F.entry_bexc_ga (@PySem.W.check_slot (model prog w) _ _ s "BaseException.__getattribute__" "BaseException" "__getattribute__" (.ref x) [.str "__class__" tk] [] _ hk hsplit hsub (PySem.F.args_bexc_ga (.ref x) (.str "__class__" tk)) ?_)
 unfold Builtin.«object.__getattribute__»
 refine wpAny_bind (wpAny_pure (wpAny_bind (wpAny_pure (wpAny_bind (L0.here (wpAny_bind (L3.here ?_)))))))
 refine wpAny_bind (wpAny_holding (wpAny_call (PySem.W.class_get X I (c.mroIs (by decide)) ?_)))
 exact wpAny_pure h
theorem E_{Q:Option Value→Shared→Prop}(X:K.In s.heap)(I:PySem.W.InstAt s.heap x ox C od)(q:cM K C=true)
 (h:Q (some (.ref C)) {s with toks:=s.toks+1}):wpAny (model prog w) A (getAttr? (.ref x) "__class__") Q E s:=by
 obtain⟨q0,q1,q2,q3⟩:=mJ q
 obtain⟨cd,bm,c⟩:=qU q0
 have FB:=PySem.F.attrBase_ValueError
 obtain⟨hp,g,d,t,os⟩:=s
 have L0:=I.type (M:=model prog w)
 have L1:=PySem.W.looks_findIn (M:=model prog w) X c.ga
 have L2:=PySem.W.looks_findIn (M:=model prog w) X c.gg
 unfold getAttr? getAttrBy? getAttrBy
 refine wpAny_bind (wpAny_mkText (wpAny_bind (wpAny_attempt (wpAny_holding (wpAny_bind (L0.at (wpAny_bind (L1.at ?_))))))))
 show wpAny _ _ (getAttrByItsOwn _ _ _ _ _ _) _ _ _
 have f3:=FB.ga.bind (.ref x)
 unfold getAttrByItsOwn hookBefore callGetattribute
 refine wpAny_bind (L2.at ?_)
 refine wpAny_bind (wpAny_attempt (wpAny_holding ?_))
 rw[if_neg (by decide)]
 unfold boundAndCalled
 rw[f3]
 refine wpAny_bind (wpAny_pure (wpAny_call ?_))
 exact N_ (s:=⟨hp,g,d,t+1,os⟩) X I q (show wpAny _ _ (handedOut (.ref C)) _ _ _ by rw[PySem.W.handedOut_of rfl];exact wpAny_pure (wpAny_pure h))
end
theorem Fb{K:PySem.W.Frag}{x D:Addr}(q:cM K D=true):PySem.W.KitX K (.ref x) (.ref D) (fun h=>∃ox od,PySem.W.InstAt h x ox D od):=by
 obtain⟨q0,q1,q2,q3⟩:=mJ q
 obtain⟨cd,bm,c⟩:=qU q0
 obtain⟨dd,k0,k1,k2,k3,k5,lC⟩:=c.at_
 refine⟨fun _ _ _ ⟨ox,od,I⟩=>I.type,fun _ _ X _=>?_,fun h tp dd its n sl X htp=>?_,fun X ⟨ox,od,I⟩ k=>E_ X I q k⟩
 ·intro A' Q' E' s' k q
  unfold isType loadHead
  exact wpAny_bind (wpAny_loadPart (k _ _ (X _ _ lC)) (wpAny_pure q))
 ·refine Bool.eq_false_iff.mpr fun q=>?_
  have e:D=tp:=Value.ref.inj (beq_iff_eq.mp q)
  subst e
  have z:=congrArg Obj.cls (Option.some.inj ((X _ _ lC).symm.trans htp))
  exact absurd (Value.type.inj z) (by decide)
section
variable{X:Cx}{cm:String→Addr}{K:KK}
def Qa(K:PySem.W.Frag):List V→Hp→VK→Prop:=fun xs H Q=>zR K xs H Q∨∃a C d fs c cv b,xs=[.ref a,c]∧RelV c cv∧(∀u,RelV c u→u=cv)∧H a=some (xo a C d)∧pD H d fs∧cM K C=true∧PySem.W.kitOne K (.ref C) cv=some b∧Q (.bl b) H
theorem bB:Ŝ X (.builtin "isinstance") (Qa X.K):=by
 intro pins s σ H xs us Q I r h
 rcases h with h|⟨a,C,d,fs,c,cv,b,rfl,rc,uq,ha,hD,q,hk,hQ⟩
 ·exact Uj pins s σ H xs us Q I r h
 ·obtain⟨u,w',rfl,r1,r2⟩:=vals2 r
  cases(show u=Value.ref a from r1)
  rw[uq w' r2]
  obtain⟨⟨o,ws,ho,hcl,hdi,hda⟩,_,_⟩:=(show ſ X.prog X.w H s.heap a (xo a C d) from I.hok a _ ha)
  obtain⟨ocls,odict,odata,osl⟩:=o
  dsimp only at hcl hdi hda
  subst hcl hdi hda
  have J:∃ox od,PySem.W.InstAt s.heap a ox C od:=by
   rcases hD with⟨rfl,_⟩|⟨d0,rfl,z⟩
   ·exact⟨_,none,ho,rfl,rfl,trivial⟩
   ·obtain⟨od,z'⟩:=ux (I.hok d0 _ z)
    exact⟨_,some od,ho,rfl,rfl,z'⟩
  exact PySem.W.kia_one (Fb q) I.i_ J hk (fun z=>nomatch z) fun tk=>⟨.bl b,H,I.tok _,rfl,hQ⟩
def qW(Q:String→String→Bool→Prop):List ((String×String)×Bool)→Prop
 | []=>True
 |((c,d),b)::r=>Q c d b∧qW Q r
theorem qW.get{Q:String→String→Bool→Prop}:∀{t:List ((String×String)×Bool)} {c d:String} {b:Bool},qW Q t→t.lookup (c,d)=some b→Q c d b
 | [],_,_,_,_,h=>by simp at h
 |((c',d'),b')::r,c,d,b,⟨h1,h2⟩,h=>by
  rw[List.lookup_cons] at h
  cases e:(c,d)== (c',d') with
  |true=>
   rw[e] at h
   cases h
   obtain⟨rfl,rfl⟩:=Prod.mk.inj (beq_iff_eq.mp e)
   exact h1
  |false=>
   rw[e] at h
   exact h2.get h
def aW(tc tt:List ((String×String)×Bool))(ds nt:List String):List PV→Option PV
 | [.xc C _ _,.cls D]=>(tc.lookup (C,D)).map .bl
 | [.xc C _ _,.ty D]=>(tt.lookup (C,D)).map .bl
 | [.non,.cls D]=>if ds.contains D=true then some (.bl false) else none
 | [.non,.ty D]=>if nt.contains D=true then some (.bl false) else Ek [.non,.ty D]
 |ps=>Ek ps
theorem bC{tc tt:List ((String×String)×Bool)}{ds nt:List String}(hc:qW (fun C D b=>cM K.K (K.cm C)=true∧PySem.W.kitOne K.K (.ref (K.cm C)) (.ref (K.cm D))=some b) tc)
 (ht:qW (fun C D b=>cM K.K (K.cm C)=true∧PySem.W.kitOne K.K (.ref (K.cm C)) (.type D)=some b) tt)(hd:mz (fun D=>PySem.W.kitOne K.K (.type "NoneType") (.ref (K.cm D))=some false) ds)
 (hn:mz (fun D=>PySem.W.kitOne K.K (.type "NoneType") (.type D)=some false) nt):cL K (Qa K.K) (aW tc tt ds nt):=by
 intro c F H σ ρ ps pv vs Q rel r e k
 unfold aW at e
 split at e
 ·rename_i C ns qs D
  obtain⟨v,u,rfl,r1,r2⟩:=P_ r
  cases eb:tc.lookup (C,D) with
  |none=>rw[eb] at e;cases e
  |some b=>
   rw[eb] at e
   cases e
   obtain⟨k1,k2⟩:=hc.get eb
   have r1':Rep K F (.xc C ns qs) v:=by rcases r1 with q|q;exact q;exact q.elim
   have r2':Rep K F (.cls D) u:=by rcases r2 with q|q;exact q;exact q.elim
   unfold Rep at r1' r2'
   obtain⟨a,d,fs,rfl,q2,q3,q4,q5⟩:=r1'
   subst r2'
   exact .inr ⟨a,_,d,fs,_,.ref (K.cm D),b,rfl,rfl,fun u z=>z,rel.sub _ _ q2,q3.same rel.sub,k1,k2,k _ F H rel (Same.refl _) (Same.refl _) Rep.bl⟩
 ·rename_i C ns qs D
  obtain⟨v,u,rfl,r1,r2⟩:=P_ r
  cases eb:tt.lookup (C,D) with
  |none=>rw[eb] at e;cases e
  |some b=>
   rw[eb] at e
   cases e
   obtain⟨k1,k2⟩:=ht.get eb
   have r1':Rep K F (.xc C ns qs) v:=by rcases r1 with q|q;exact q;exact q.elim
   have r2':Rep K F (.ty D) u:=by rcases r2 with q|q;exact q;exact q.elim
   unfold Rep at r1' r2'
   obtain⟨a,d,fs,rfl,q2,q3,q4,q5⟩:=r1'
   subst r2'
   exact .inr ⟨a,_,d,fs,_,.type D,b,rfl,rfl,fun u z=>z,rel.sub _ _ q2,q3.same rel.sub,k1,k2,k _ F H rel (Same.refl _) (Same.refl _) Rep.bl⟩
 ·rename_i D
  obtain⟨v,u,rfl,r1,r2⟩:=P_ r
  split at e
  ·rename_i hD
   cases e
   cases r1.non
   have r2':Rep K F (.cls D) u:=by rcases r2 with q|q;exact q;exact q.elim
   unfold Rep at r2'
   subst r2'
   exact .inl ⟨_,false,rfl,hd.get hD,k _ F H rel (Same.refl _) (Same.refl _) Rep.bl⟩
  ·cases e
 ·rename_i D
  split at e
  ·rename_i hD
   obtain⟨v,u,rfl,r1,r2⟩:=P_ r
   cases e
   cases r1.non
   cases r2.ty
   exact .inl ⟨_,false,rfl,hn.get hD,k _ F H rel (Same.refl _) (Same.refl _) Rep.bl⟩
  ·exact .inl (El rel r e k)
 ·exact .inl (El rel r e k)
end
def isC(K:PySem.W.Frag)(cm:String→Addr):List ((String×String)×Bool)→Bool
 | []=>true
 |((c,d),b)::r=>cM K (cm c) && PySem.W.kitOne K (.ref (cm c)) (.ref (cm d))== some b && isC K cm r
theorem Fd{K:PySem.W.Frag}{cm:String→Addr}:∀{t:List ((String×String)×Bool)},isC K cm t=true→qW (fun C D b=>cM K (cm C)=true∧PySem.W.kitOne K (.ref (cm C)) (.ref (cm D))=some b) t
 | [],_=>trivial
 |((c,d),b)::r,h=>by
  unfold isC at h
  rw[Bool.and_eq_true,Bool.and_eq_true] at h
  exact⟨⟨h.1.1,beq_iff_eq.mp h.1.2⟩,Fd h.2⟩
def isT(K:PySem.W.Frag)(cm:String→Addr):List ((String×String)×Bool)→Bool
 | []=>true
 |((c,d),b)::r=>cM K (cm c) && PySem.W.kitOne K (.ref (cm c)) (.type d)== some b && isT K cm r
theorem Fe{K:PySem.W.Frag}{cm:String→Addr}:∀{t:List ((String×String)×Bool)},isT K cm t=true→qW (fun C D b=>cM K (cm C)=true∧PySem.W.kitOne K (.ref (cm C)) (.type D)=some b) t
 | [],_=>trivial
 |((c,d),b)::r,h=>by
  unfold isT at h
  rw[Bool.and_eq_true,Bool.and_eq_true] at h
  exact⟨⟨h.1.1,beq_iff_eq.mp h.1.2⟩,Fe h.2⟩
def isD(K:PySem.W.Frag)(cm:String→Addr):List String→Bool
 | []=>true
 |d::r=>PySem.W.kitOne K (.type "NoneType") (.ref (cm d))== some false && isD K cm r
theorem Fg{K:PySem.W.Frag}{cm:String→Addr}:∀{t:List String},isD K cm t=true→mz (fun D=>PySem.W.kitOne K (.type "NoneType") (.ref (cm D))=some false) t
 | [],_=>trivial
 |d::r,h=>by
  unfold isD at h
  rw[Bool.and_eq_true] at h
  exact⟨beq_iff_eq.mp h.1,Fg h.2⟩
def Oa(K:PySem.W.Frag):List String→Bool
 | []=>true
 |d::r=>PySem.W.kitOne K (.type "NoneType") (.type d)== some false && Oa K r
theorem Aa{K:PySem.W.Frag}:∀{t:List String},Oa K t=true→mz (fun D=>PySem.W.kitOne K (.type "NoneType") (.type D)=some false) t
 | [],_=>trivial
 |d::r,h=>by
  unfold Oa at h
  rw[Bool.and_eq_true] at h
  exact⟨beq_iff_eq.mp h.1,Aa h.2⟩
theorem Bx{l:PySem.W.OpenLaw}{k:Nat}{x:Str}{m:MF}{q:Program}{loose:List Str}{XP:(Str→Option Value)→Heap→Prop}{YP:World→Heap→Prop}{d:DefRec}{K:Params→PySem.W.Frag}(hn:l.most=some 63)(hdf:d.params.defaults=[])(hr:bD k callerA)
 (hY:∀(w:World) (h:Heap),YP w h→(K w.params).In h)
 (F:∀(w:World) (mg:Str→Option Value) (fa:Addr) (h:Heap),(K w.params).In h→h.Ns mainGlobals mg→mg d.name=some (.ref fa)→
   ∃fd:FuncData,(∀(s:Shared) (u:Value),BindsTo s fd ⟨[u],[]⟩ [(x,u)])∧∀base:Heap,(K w.params).In base→base.Ns mainGlobals mg→∃cm,ľ l.prog w (K w.params) mg base (ź l.prog w) k fa fd [x] (ak ⟨K w.params,cm⟩ 1 m))
 (ht:∀ns:List Int,ns.length≤63→m [.sh (.lst (ns.map .int))]=.ret (.sh (.bl true))) :
 PySem.W.WalkO q loose XP YP l.row.toRowW d [] (fun f vs=>PySem.call f vs):=by
 refine L2.Mh (n:=63) (k:=k) (x:=x) (CX:=fun w=>ź l.prog w) (sp:=fun w=>ZaW (K w.params)) hn (by decide) hdf hr hY (fun w mg fa h h1 h2 h3=>?_) (fun w H a ns hl _ hS=>⟨a,ns,rfl,hS,hl,fun _ _ z=>z⟩) fun w H s e s' z=>pJ z
 obtain⟨fd,hb,hF⟩:=F w mg fa h h1 h2 h3
 refine⟨fd,hb,fun base k1 k2=>?_⟩
 obtain⟨cm,G⟩:=hF base k1 k2
 refine G.imp fun vs H Q E hs=>?_
 obtain⟨sa,ns,rfl,hS,hl,hq⟩:=hs
 refine⟨H,[.sh (.lst (ns.map .int))],rfl,Same.refl _,.cons ?_ .nil,?_⟩
 ·show Rep _ _ _ _
  unfold Rep
  exact⟨sa,_,rfl,hS,ur ns⟩
 ·rw[ht ns hl]
  intro v F' H' g rf
  have e:v=.bl true:=wN (K:=⟨K w.params,cm⟩) (F:=F') rf
  exact hq v H' e
section
variable{ρ:Ő}{C:String}{n i:Nat}{fl:List (Str×Nat)}{ms:M (List PV)}{mb mh:M Fl}{mr:MH}{yes no:List String}{x:PX}
@[simp] theorem Za8:qT C ρ=.exc ⟨C,[],[]⟩ ρ:= rfl
@[simp] theorem YW:NZ C ρ=.ok (.xc C [] []) ρ:= rfl
@[simp] theorem Za9:Ut C n fl ms ρ=(ms ρ).bind fun ps ρ1=>if ps.length+1=n∧ps.length<1000∧fl.length<1000 then(match xiP fl ps [] [] with
  |some (ns,qs)=>.ok (.xc C ns qs) ρ1
  |none=>.bad) else .bad:=rfl
@[simp] theorem YX:NT C n fl ms ρ=(ms ρ).bind fun ps ρ1=>if ps.length+1=n∧ps.length<1000∧fl.length<1000 then(match xiP fl ps [] [] with
  |some (ns,qs)=>.exc ⟨C,ns,qs⟩ ρ1
  |none=>.bad) else .bad:=rfl
@[simp] theorem ZhZ:ZhY mb mr ρ=(match mb ρ with
  | .exc x ρ1=>mr x ρ1
  |r=>r):=rfl
@[simp] theorem Zh0:NQ i yes no mh mr x ρ=(if yes.contains x.C=true then(match mh (ρ.set i (.sh (.xc x.C x.ns x.ps))) with
  | .ok f ρ2=>.ok f (ρ2.set i .no)
  |_=>.bad) else if no.contains x.C=true then mr x ρ else .bad):=rfl
end
end P
namespace P
open PySem PySem.Spec PyProof.Rows L2 M2 M3 M4
section
variable{X:Cx}{cm:String→Addr}{E:L2.St→XK}{y:Str}{Dn:String}{yp hpos:Pos}{b₀:Stmt}{suite:List Stmt}{rest:List ExceptHandler}{yes no:List String}{mh:M Fl}{mr:MH}
@[simp] theorem Zh1{ρ:Ő}{x:PX}:Za7 yes no mh mr x ρ=(if yes.contains x.C=true then(match mh ρ with
  | .ok f ρ2=>.ok f ρ2
  |_=>.bad) else if no.contains x.C=true then mr x ρ else .bad):=rfl
end
end P
namespace P
open PySem PySem.Spec PyProof.Rows L2 M2 M3 M4
section
variable{X:Cx}{cm:String→Addr}{K:KK}
def Qc:List V→Hp→VK→Prop:=fun xs H Q=>(∃i,xs=[.int i]∧Q (.int i) H)∨∃k,xs=[.bl k]∧Q (.int (if k then 1 else 0)) H
theorem Uu:Ŝ X (.type "int") Qc:=Bc
def wY:List PV→Option PV
 | [.int i]=>some (.int i)
 | [.bl k]=>some (.int (if k then 1 else 0))
 |_=>none
theorem Uv:cL K Qc wY:=by
 intro c F H σ ρ ps pv vs Q rel r e k
 unfold wY at e
 split at e
 ·cases e
  obtain⟨v,rfl,r1⟩:=wV r
  cases r1.int
  exact .inl ⟨_,rfl,k _ F H rel (Same.refl _) (Same.refl _) Rep.int⟩
 ·cases e
  obtain⟨v,rfl,r1⟩:=wV r
  cases r1.bl
  exact .inr ⟨_,rfl,k _ F H rel (Same.refl _) (Same.refl _) Rep.int⟩
 ·cases e
def Zh2:List PV→Option PV
 | [.int i]=>if i.natAbs.log2<1920 then some (.str (toString i)) else none
 |_=>none
def Zh3:List PV→Option PV
 | [.str x]=>if x.length=1 then some (.int (x.cps.getD 0 0:Nat)) else none
 |_=>none
theorem aH:∀{ns:List Int} {its:List Value},Vals (ns.map V.int) its→IntsAre its ns
 | [],its,h=>by cases h;exact .nil
 |n::ns,its,h=>by
  cases h with
  |cons r t=>
   obtain⟨k,e⟩:=(show ∃k,_=Value.int n k from r)
   subst e
   exact .cons n k (aH t)
def Za_(K:PySem.W.Frag):List V→Hp→VK→Prop:=fun xs H Q=>∃(p:Addr) (ns:List Int),xs=[.ref p]∧aB K H p (ns.map V.int)∧Q (.int ns.sum) H
theorem qX(hc:X.calm=true):Ŝ X (.builtin "sum") (Za_ X.K):=by
 intro pins s σ H xs us Q I r h
 obtain⟨p,ns,rfl,hS,q⟩:=h
 obtain⟨u,rfl,ru⟩:=vals1 r
 cases ru
 obtain⟨its,rv,pl,hz⟩:=I.list hS
 have hi:=aH rv
 obtain⟨ys,e⟩:=hi.allInts.items
 have hns:ns=ys.toList.map (·.1):=by rw[←hi.numsOf,←nums_intItems,←e]
 have hl:=pl.isList
 rw[e] at hl
 refine sum_intListG (show X.A.handled=none from I.ok.hd hc) hl fun h' tk t' hk=>?_
 refine⟨.int ns.sum,H,I.kept hk,⟨t',?_⟩,q⟩
 rw[preSum_eq,List.take_of_length_le (by simp),←hns]
section
variable{prog:Program}{w:World}{A:Around}{E:Value→Shared→Prop}{s:Shared}{l:Addr}{xs:Array (Int×Tok)}
theorem uD{Q:Value→Shared→Prop}(hl:s.heap.IsTuple l (intItems xs))
 (h:∀s₂:Shared,s₂= {s with heap:=s.heap.push {cls:=.type "tuple_iterator",data:=.fields #[.ref l,.int 0 0]}}→
   (s₂.heap.IsTupleIter s.heap.objs.size l 0∧s₂.heap.IsTuple l (intItems xs))→(∀b∈[s.heap.objs.size,l],b<s₂.heap.objs.size)→l≠s.heap.objs.size→(∀h':Heap,(∀b o,b∉[s.heap.objs.size]→s₂.heap.get? b=some o→h'.get? b=some o)→∀b o,s.heap.get? b=some o→h'.get? b=some o)→Q (.ref s.heap.objs.size) s₂) :
 wpAny (model prog w) A (pyIter (.ref l)) Q E s:=by
 have hlt:l<s.heap.objs.size:=by obtain⟨_,e,_⟩:=hl;exact Heap.lt_size e
 refine wpAny_pyIter_tuple hl (h _ rfl ⟨⟨_,Heap.get?_push_size _ rfl,rfl,rfl⟩,hl.push _⟩ (fun b hb=>?_) (Nat.ne_of_lt hlt) fun h' hk b o e=>?_)
 ·show b<(s.heap.push _).objs.size
  rw[Heap.size_push]
  rcases List.mem_cons.mp hb with rfl|hb
  ·exact Nat.lt_succ_self _
  ·rcases List.mem_cons.mp hb with rfl|hb
   ·exact Nat.lt_succ_of_lt hlt
   ·cases hb
 ·refine hk b o (fun hm=>?_) (Heap.get?_push_of_some _ e)
  rcases List.mem_cons.mp hm with e1|hm
  ·exact absurd (e1▸Heap.lt_size e) (Nat.lt_irrefl _)
  ·cases hm
theorem wZ{Q:Value→Shared→Prop}(hh:A.handled=none)(hl:s.heap.IsTuple l (intItems xs))(hne:0<xs.size)
 (h:∀v h' tk,(intItems xs)[argBest (fun i j=>decide (numAt xs i>numAt xs j)) (xs.size-1)]?=some v→(∀b o,s.heap.get? b=some o→h'.get? b=some o)→Q v {s with heap:=h',toks:=tk}) :
 wpAny (model prog w) A (call (.builtin "max") [.ref l]) Q E s:=by
 refine call_max_walk (uD hl fun s₂ e st hfp hlI hk0=>?_)
 subst e
 refine⟨_,_,_,_,_,_,_,rfl,Walks.tuple (A:=A.in1) hh _ l hlI (intItems xs),st,hfp,by simpa[intItems] using hne,CmpOf.ints_gt (numAt xs) (fun _ _=>intItems_at),fun v h' tk hP hk=>?_⟩
 exact h v h' tk (by simpa[intItems] using hP) (hk0 h' hk)
end
def Zba(K:PySem.W.Frag):List V→Hp→VK→Prop:=fun xs H Q=>∃(p:Addr) (ns:List Int),xs=[.ref p]∧(aB K H p (ns.map V.int)∨cF K H p (ns.map V.int))∧0<ns.length∧∀M,M∈ns→(∀a∈ns,a≤M)→Q (.int M) H
theorem Fi(hc:X.calm=true):Ŝ X (.builtin "max") (Zba X.K):=by
 intro pins s σ H xs us Q I r h
 obtain⟨p,ns,rfl,hS,hne,q⟩:=h
 obtain⟨u,rfl,ru⟩:=vals1 r
 cases ru
 have fin:∀(ys:Array (Int×Tok)),ns=ys.toList.map (·.1)→0<ys.size→∀v h' tk,(intItems ys)[argBest (fun i j=>decide (numAt ys i>numAt ys j)) (ys.size-1)]?=some v→(∀b o,s.heap.get? b=some o→h'.get? b=some o)→EP X pins σ Q v {s with heap:=h',toks:=tk}:=by
  intro ys hns hsz v h' tk hv hk
  obtain⟨t,rfl⟩:=intItems_at hv
  obtain⟨h1,h2⟩:=argBest_gt (numAt ys) (ys.size-1)
  refine⟨.int _,H,I.kept hk,⟨t,rfl⟩,q _ ?_ fun a ha=>?_⟩
  ·rw[hns,numAt_eq]
   have hj:argBest (fun i j=>decide (numAt ys i>numAt ys j)) (ys.size-1)<(ys.toList.map (·.1)).length:=by rw[List.length_map,Array.length_toList];omega
   rw[List.getD_eq_getElem?_getD,List.getElem?_eq_getElem hj]
   exact List.getElem_mem _
  ·rw[hns] at ha
   obtain⟨j,hj,rfl⟩:=List.mem_iff_getElem.mp ha
   rw[List.length_map,Array.length_toList] at hj
   have:=h2 j (by omega)
   rw[numAt_eq ys j,List.getD_eq_getElem?_getD,List.getElem?_eq_getElem (by rw[List.length_map,Array.length_toList];exact hj)] at this
   exact this
 rcases hS with hS|hS
 ·obtain⟨its,rv,pl,hz⟩:=I.list hS
  have hi:=aH rv
  obtain⟨ys,e⟩:=hi.allInts.items
  have hns:ns=ys.toList.map (·.1):=by rw[←hi.numsOf,←nums_intItems,←e]
  have hl:=pl.isList
  rw[e] at hl
  have hsz:0<ys.size:=by rw[hns,List.length_map,Array.length_toList] at hne;exact hne
  exact max_intList (show X.A.handled=none from I.ok.hd hc) hl hsz (fin ys hns hsz)
 ·obtain⟨its,rv,pl,hz⟩:=I.tuple hS
  have hi:=aH rv
  obtain⟨ys,e⟩:=hi.allInts.items
  have hns:ns=ys.toList.map (·.1):=by rw[←hi.numsOf,←nums_intItems,←e]
  have hl:s.heap.IsTuple p its.toArray:=pl
  rw[e] at hl
  have hsz:0<ys.size:=by rw[hns,List.length_map,Array.length_toList] at hne;exact hne
  exact wZ (show X.A.handled=none from I.ok.hd hc) hl hsz (fin ys hns hsz)
def Zbb(K:PySem.W.Frag):List V→Hp→VK→Prop:=fun xs H Q=>∃(p:Addr) (ns:List Int),xs=[.ref p]∧aB K H p (ns.map V.int)∧0<ns.length∧∀M,M∈ns→(∀a∈ns,M≤a)→Q (.int M) H
theorem Fj(hc:X.calm=true):Ŝ X (.builtin "min") (Zbb X.K):=by
 intro pins s σ H xs us Q I r h
 obtain⟨p,ns,rfl,hS,hne,q⟩:=h
 obtain⟨u,rfl,ru⟩:=vals1 r
 cases ru
 obtain⟨its,rv,pl,hz⟩:=I.list hS
 have hi:=aH rv
 obtain⟨ys,e⟩:=hi.allInts.items
 have hns:ns=ys.toList.map (·.1):=by rw[←hi.numsOf,←nums_intItems,←e]
 have hl:=pl.isList
 rw[e] at hl
 have hsz:0<ys.size:=by rw[hns,List.length_map,Array.length_toList] at hne;exact hne
 refine min_intList (show X.A.handled=none from I.ok.hd hc) hl hsz fun v h' tk hv hk=>?_
 obtain⟨t,rfl⟩:=intItems_at hv
 obtain⟨h1,h2⟩:=argBest_lt (numAt ys) (ys.size-1)
 refine⟨.int _,H,I.kept hk,⟨t,rfl⟩,q _ ?_ fun a ha=>?_⟩
 ·rw[hns,numAt_eq]
  have hj:argBest (fun i j=>decide (numAt ys i<numAt ys j)) (ys.size-1)<(ys.toList.map (·.1)).length:=by rw[List.length_map,Array.length_toList];omega
  rw[List.getD_eq_getElem?_getD,List.getElem?_eq_getElem hj]
  exact List.getElem_mem _
 ·rw[hns] at ha
  obtain⟨j,hj,rfl⟩:=List.mem_iff_getElem.mp ha
  rw[List.length_map,Array.length_toList] at hj
  have:=h2 j (by omega)
  rw[numAt_eq ys j,List.getD_eq_getElem?_getD,List.getElem?_eq_getElem (by rw[List.length_map,Array.length_toList];exact hj)] at this
  exact this
def intsOf:List PV→Option (List Int)
 | []=>some []
 | .int b::ps=>(intsOf ps).map (b:: ·)
 |_::_=>none
@[simp] theorem cC:∀ns:List Int,intsOf (ns.map PV.int)=some ns
  | []=>rfl
  |n::ns=>by rw[List.map_cons,intsOf,cC ns];rfl
theorem ints_rep{F:Hp}:∀{ps:List PV} {vs:List V} {bs:List Int},ġ K F ps vs→intsOf ps=some bs→vs=bs.map V.int
 | [],vs,bs,r,h=>by
   cases h
   cases r.pr
   rfl
 |p::ps,vs,bs,r,h=>by
  cases r.pr with
  |cons r1 t=>
   cases p with
   |int b=>
    unfold intsOf at h
    obtain⟨cs,e,rfl⟩:=Option.map_eq_some_iff.mp h
    rw[ints_rep (ġ.of t) e,show _=V.int b from r1]
    rfl
   |_=>cases h
def best(f:Int→Int→Int):List Int→Option Int
 | []=>none
 |n::ns=>some (ns.foldl f n)
theorem foldl_max:∀(ns:List Int) (n:Int),ns.foldl max n∈n::ns∧∀a∈n::ns,a≤ns.foldl max n
 | [],n=>by simp
 |m::ns,n=>by
  obtain⟨h1,h2⟩:=foldl_max ns (max n m)
  rw[List.foldl_cons]
  refine⟨?_,fun a ha=>?_⟩
  ·rcases List.mem_cons.mp h1 with e|e
   ·rw[e]
    by_cases h:n≤m
    ·rw[Int.max_eq_right h];simp
    ·rw[Int.max_eq_left (by omega)];simp
   ·simp[e]
  ·have hm:=h2 (max n m) List.mem_cons_self
   rcases List.mem_cons.mp ha with rfl|ha
   ·omega
   ·rcases List.mem_cons.mp ha with rfl|ha
    ·omega
    ·exact h2 a (List.mem_cons_of_mem _ ha)
theorem foldl_min:∀(ns:List Int) (n:Int),ns.foldl min n∈n::ns∧∀a∈n::ns,ns.foldl min n≤a
 | [],n=>by simp
 |m::ns,n=>by
  obtain⟨h1,h2⟩:=foldl_min ns (min n m)
  rw[List.foldl_cons]
  refine⟨?_,fun a ha=>?_⟩
  ·rcases List.mem_cons.mp h1 with e|e
   ·rw[e]
    by_cases h:n≤m
    ·rw[Int.min_eq_left h];simp
    ·rw[Int.min_eq_right (by omega)];simp
   ·simp[e]
  ·have hm:=h2 (min n m) List.mem_cons_self
   rcases List.mem_cons.mp ha with rfl|ha
   ·omega
   ·rcases List.mem_cons.mp ha with rfl|ha
    ·omega
    ·exact h2 a (List.mem_cons_of_mem _ ha)
def mK:List PV→Option PV
 | [.lst ps]=>(intsOf ps).map fun ns=>.int ns.sum
 |_=>none
def pK:List PV→Option PV
 | [.lst ps]=>((intsOf ps).bind (best max)).map .int
 | [.tup ps]=>((intsOf ps).bind (best max)).map .int
 |_=>none
def pL:List PV→Option PV
 | [.lst ps]=>((intsOf ps).bind (best min)).map .int
 |_=>none
theorem qY:cL K (Za_ K.K) mK:=by
 intro c F H σ ρ ps pv vs Q rel r e k
 unfold mK at e
 split at e
 ·rename_i ps
  obtain⟨v,rfl,r1⟩:=wV r
  obtain⟨a,xs,rfl,h1,h2⟩:=r1.lst rel.sub
  obtain⟨ns,eb,rfl⟩:=Option.map_eq_some_iff.mp e
  exact⟨a,ns,rfl,by rw[←ints_rep h2 eb];exact h1,k _ F H rel (Same.refl _) (Same.refl _) Rep.int⟩
 ·cases e
theorem Fo:cL K (Zba K.K) pK:=by
 intro c F H σ ρ ps pv vs Q rel r e k
 have fin:∀(ps:List PV) (xs:List V),ġ K F ps xs→((intsOf ps).bind (best max)).map PV.int=some pv→∃ns:List Int,xs=ns.map V.int∧0<ns.length∧∀M,M∈ns→(∀a∈ns,a≤M)→Q (.int M) H:=by
  intro ps xs h2 e
  obtain⟨m,em,rfl⟩:=Option.map_eq_some_iff.mp e
  obtain⟨ns,eb,hb⟩:=Option.bind_eq_some_iff.mp em
  cases ns with
  |nil=>cases hb
  |cons n ns=>
   cases hb
   obtain⟨z1,z2⟩:=foldl_max ns n
   refine⟨n::ns,ints_rep h2 eb,by simp,fun M m1 m2=>?_⟩
   have:M=ns.foldl max n:=Int.le_antisymm (z2 M m1) (m2 _ z1)
   rw[this]
   exact k _ F H rel (Same.refl _) (Same.refl _) Rep.int
 unfold pK at e
 split at e
 ·rename_i ps
  obtain⟨v,rfl,r1⟩:=wV r
  obtain⟨a,xs,rfl,h1,h2⟩:=r1.lst rel.sub
  obtain⟨ns,rfl,hl,hq⟩:=fin ps xs h2 e
  exact⟨a,ns,rfl,.inl h1,hl,hq⟩
 ·rename_i ps
  obtain⟨v,rfl,r1⟩:=wV r
  obtain⟨a,xs,rfl,h1,h2⟩:=r1.tup rel.sub
  obtain⟨ns,rfl,hl,hq⟩:=fin ps xs h2 e
  exact⟨a,ns,rfl,.inr h1,hl,hq⟩
 ·cases e
theorem Fp:cL K (Zbb K.K) pL:=by
 intro c F H σ ρ ps pv vs Q rel r e k
 unfold pL at e
 split at e
 ·rename_i ps
  obtain⟨v,rfl,r1⟩:=wV r
  obtain⟨a,xs,rfl,h1,h2⟩:=r1.lst rel.sub
  obtain⟨m,em,rfl⟩:=Option.map_eq_some_iff.mp e
  obtain⟨ns,eb,hb⟩:=Option.bind_eq_some_iff.mp em
  cases ns with
  |nil=>cases hb
  |cons n ns=>
   cases hb
   obtain⟨z1,z2⟩:=foldl_min ns n
   refine⟨a,n::ns,rfl,by rw[←ints_rep h2 eb];exact h1,by simp,fun M m1 m2=>?_⟩
   have:M=ns.foldl min n:=Int.le_antisymm (m2 _ z1) (z2 M m1)
   rw[this]
   exact k _ F H rel (Same.refl _) (Same.refl _) Rep.int
 ·cases e
@[simp] theorem Zge{i:Int}:wY [.int i]=some (.int i):=rfl
@[simp] theorem Zgf{b:Bool}:wY [.bl b]=some (.int (if b then 1 else 0)):=rfl
@[simp] theorem Zgg{i:Int}:Zh2 [.int i]=if i.natAbs.log2<1920 then some (.str (toString i)) else none:=rfl
@[simp] theorem Zgh{x:Str}:Zh3 [.str x]=if x.length=1 then some (.int (x.cps.getD 0 0:Nat)) else none:=rfl
@[simp] theorem aO{ps:List PV}:mK [.lst ps]=(intsOf ps).map fun ns=>.int ns.sum:=rfl
@[simp] theorem Ob{ps:List PV}:pK [.lst ps]=((intsOf ps).bind (best max)).map .int:=rfl
@[simp] theorem Oc{ps:List PV}:pL [.lst ps]=((intsOf ps).bind (best min)).map .int:=rfl
@[simp] theorem Zgi{f:Int→Int→Int}{n:Int}{ns:List Int}:best f (n::ns)=some (ns.foldl f n):=rfl
end
end P
namespace P
open PySem PySem.Spec PyProof.Rows L2 M2 M3 M4
def uE(K:PySem.W.Frag)(C:Addr):Bool:=PySem.W.plainGet K C Str.empty && PySem.W.hasDictIn K C && PySem.W.plainOver K C && PySem.W.findIn K (.ref C) "__setattr__" == some (some (.builtin "object.__setattr__"))
theorem jt{K:PySem.W.Frag}{C:Addr}(h:uE K C=true):Cls K C:=by
 unfold uE at h
 simp only[Bool.and_eq_true,beq_iff_eq] at h
 exact⟨h.1.1.1,h.1.1.2,h.1.2,h.2⟩
def mL(K:PySem.W.Frag)(C:Addr)(m:Str)(f:Addr):Bool:=PySem.W.findIn K (.ref C) m== some (some (.ref f)) && PySem.W.isFn K (.ref f) && PySem.W.keepIn K (.ref f)
theorem iQ{K:PySem.W.Frag}{C f:Addr}{m:Str}(h:mL K C m f=true):Meth K C m f:=by
 unfold mL at h
 simp only[Bool.and_eq_true,beq_iff_eq] at h
 exact⟨h.1.1,h.1.2,h.2⟩
def Qd(K:PySem.W.Frag)(C f:Addr):Bool:=PySem.W.makesIn K C && PySem.W.findIn K (.ref C) "__init__" == some (some (.ref f)) && PySem.W.isFn K (.ref f) && PySem.W.keepIn K (.ref C)
theorem pN{K:PySem.W.Frag}{C f:Addr}(h:Qd K C f=true):Mk K C f:=by
 unfold Qd at h
 simp only[Bool.and_eq_true,beq_iff_eq] at h
 exact⟨h.1.1.1,h.1.1.2,h.1.2,h.2⟩
section
variable{ρ:Ő}{i n k:Nat}{C:String}{cs:List String}{f m:Str}{mv mo:M PV}{mi:MI}{ms:M (List Slot)}{mb:M Fl}{oh:List (String×MF)}{as:List Slot}{ns:List Str}{ps:List PV}
@[simp] theorem Zgj:uw i cs f mv ρ=(mv ρ).bind fun p ρ1=>match ρ1[i]? with
  |some (.rc C ns ps)=>if cs.contains C=true∧ns.length<1000 then .ok .nx (ρ1.set i (.rc C (putN f ns) (wX f p ns ps))) else .bad
  |_=>.bad:=rfl
@[simp] theorem Zgk:dU n k C mb as=if as.length+1=n then IR.of (mb (.rc C [] []::startP (k-1) as)) else .bad:=rfl
@[simp] theorem Zh4{C:String}:IR.of (.ok .nx (.rc C ns ps::ρ))=.ok ns ps:=rfl
@[simp] theorem Zgl:dg C mi ms ρ=(ms ρ).bind fun as ρ1=>match mi as with
  | .ok ns ps=>.ok (.ins C ns ps) ρ1
  | .exc x=>.exc x ρ1
  | .bad=>.bad:=rfl
@[simp] theorem Zh5:kI cs f (.ins C ns ps)=if cs.contains C=true then(ns.zip ps).lookup f else none:=rfl
@[simp] theorem Od:mG m oh mo ms ρ=(mo ρ).bind fun p ρ1=>match p with
  | .ins C ns ps=>match oh.lookup C with
    |some mf=>if ns.contains m=true then .bad else(ms ρ1).bind fun as ρ2=>match mf (.sh (.ins C ns ps)::as) with
     | .ret r=>.ok r ρ2
     | .exc x=>.exc x ρ2
     | .bad=>.bad
    |none=>.bad
  |_=>.bad:=rfl
end
end P
namespace M3
open PySem PySem.Spec PyProof.Rows L2 M2
section
variable{X:Cx}{elt tg iter:Expr}{ifs:List Expr}{scope:Scope}{pos:Pos}{wi:TI}{g:TG}{tt:TT}{te:TE}
theorem Oe{iv:Nat}{y:Str}{py spos:Pos}(hN:X.N.Nodup)(hiN:X.N[iv]?=some y)(hy:X.env.scope.names.lookup y=some .local)(hsw:swapsWith (.ListComp elt [⟨tg,iter,ifs,0⟩] scope pos) (some (.Name y py)) spos.line X.env=pure true)(N':List Str)(js:List Nat)(nl:Nat)(sc:Scope)(hsc:X.env.scope=sc)(hcalm:X.calm=true)
 (hi:PI X.aj tg iter wi)(hg:∀cl C s H fp,PG (fU X.aj N' scope cl C s H fp) tg g)(ht:∀cl C s H fp,YL (fU X.aj N' scope cl C s H fp) ifs tt)(he:∀cl C s H fp,PE (fU X.aj N' scope cl C s H fp) elt te)
 (hcap:lK X.aj sc scope N' js)(hlen:js.length+nl=N'.length:=by rfl)
 (hk:scope.kind=.function:=by rfl)(hcell:∀y∈scope.names,y.2=.cell→scope.names.lookup y.1=some .cell:=by decide +kernel)(hnames:∀y∈scope.names,y.2=.local→scope.names.lookup y.1=some .local:=by decide +kernel)
 (hfree:∀y∈scope.names,y.2=.free→(sc.names.lookup y.1=some .cell∨sc.names.lookup y.1=some .free):=by decide +kernel)
 (hs:∀x,foldedSetIterable iter X.env x=pure x:=by intro _;rfl) :
 PS X.aj (.Assign [.Name y py] (.ListComp elt [⟨tg,iter,ifs,0⟩] scope pos) spos) (fun D σ H=>Du js nl wi g tt te σ H fun v H'=>D.nx (σ.set iv (some v)) H'):=by
 intro pins s σ H D I h
 obtain⟨cl0,c1,c2,c3⟩:=iB (scope:=scope) (env:=X.aj.env) fun y hy hf=>I.ok.has y.1 (by
  have:=hfree y hy hf
  rw[←hsc] at this
  exact this)
 rw[exec_Assign_Name_used _ _ _ _ (show swapsWith _ _ _ X.aj.env=pure true from hsw)]
 refine wpAny_bind (wpAny_standAt (wpAny_bind ?_))
 show wpAny _ X.A (do let _ ←comprehension (.ListComp elt [⟨tg,iter,ifs,0⟩] scope pos) scope X.aj.env _ (newList []) false (eval iter X.aj.env) (some (assign (.Name y py) X.aj.env))) _ _ s
 refine wpAny_bind (wpAny_mono (wpAny_comprehension_free (Q:=fun _ s'=>SP X.aj pins D .next s') (use:=some (assign (.Name y py) X.aj.env)) rfl hs c1 hk hnames (ű (hi pins s σ H _ I h) fun v s1 h1=>ű h1 fun itv s2 h2=>?_)) (fun _ s' hq=>wpAny_pure (wpAny_pure hq)) fun _ _ e=>e)
 obtain⟨it,fp,tn,J,H2,e,I2,T,st2,f2,q2⟩:=h2
 subst e
 refine wpAny_newObj_type (gD (fun h₁ hns₁ old TF=>?_))
 dsimp only at hns₁ old TF ⊢
 generalize TJ:s2.heap.push {cls:=.type "list",dict:=none,data:=.seq ([]:List Value).toArray}=bR at hns₁ old TF ⊢
 have hD:H2 s2.heap.objs.size=none:=I2.hok.fresh (Nat.le_refl _)
 have I3:Inv X.aj pins σ (upd H2 s2.heap.objs.size (.lst [])) {s2 with heap:=bR}:=by
  rw[←TJ]
  exact I2.laid (t':=s2.toks) (fun b u e=>Heap.get?_push_of_some _ e) (Nat.le_refl _) ⟨Nat.zero_le _,[],0,.nil,Heap.get?_push_size _ rfl⟩
 have Dy:∀b∈fp,b<s2.heap.objs.size:=fun b hb=>by
  obtain⟨o,ho,_⟩:=T.obj 0 _ st2 b hb
  exact Heap.lt_size ho
 have TQ:bR.objs.size=s2.heap.objs.size+1:=by rw[←TJ,Heap.size_push]
 have f3:∀b∈fp,eG X.aj pins (upd H2 s2.heap.objs.size (.lst [])) b:=fun b hb=>by
  obtain⟨g0,g1⟩:=f2 b hb
  exact⟨by rw[Į (Nat.ne_of_lt (Dy b hb))];exact g0,g1⟩
 have B:=Dv (X:=X.aj) (cl:=cl0) hcell c2 c3 (fun x c e=>by
  obtain⟨v,o,ho,_⟩:=I3.cell x c e
  exact Heap.lt_size ho) TF
 generalize cellsFrom (bR.objs.size+1) scope.names cl0=cl at B ⊢
 obtain⟨W,⟨m0,w0⟩,turn⟩:=q2 s2.heap.objs.size hD
 have I4:=pC (X:=X.aj) (N':=N') (js:=js) (nl:=nl) (sc:=sc) (scope:=scope) (cl:=cl) (fp:=fp) (h':=h₁) (tk:=s2.toks) hsc hk hcap hlen B I3 f3 (fun b hb=>by show b<bR.objs.size;rw[TQ];exact Nat.lt_succ_of_lt (Dy b hb)) hns₁ old
 have st4:tn 0 h₁:= T.keep 0 _ _ st2 fun b hb o e=>old b o (by rw[←TJ];exact Heap.get?_push_of_some _ e)
 have fr4:∀b∈fp,(upd H2 s2.heap.objs.size (.lst [])) b=none:=fun b hb=>(f3 b hb).1
 have stat:∀{H':Hp},(∀b∈fp,H' b=none)→∀b∈fp,eG (fU X.aj N' scope cl bR.objs.size {s2 with heap:=bR} (upd H2 s2.heap.objs.size (.lst [])) fp) [] H' b:=fun{H'} hn b hb=>by
  obtain⟨g0,g1,g2,g3,g4,g5⟩:=f3 b hb
  refine⟨hn b hb,Nat.ne_of_lt (by show b<bR.objs.size;rw[TQ];exact Nat.lt_succ_of_lt (Dy b hb)),fun z=>?_,.inl hb,fun x c e=>by
   rcases B.at_ x c e with⟨q,_⟩|⟨q,_⟩
   ·exact g4 x c q
   ·exact Nat.ne_of_gt (Nat.lt_trans (by show b<bR.objs.size;rw[TQ];exact Nat.lt_succ_of_lt (Dy b hb)) q),fun p hp=>absurd hp (by simp[fU])⟩
  rcases List.mem_cons.mp (I3.lG b z) with z|z
  ·exact g1 z
  ·exact g2 z
 have loop:∀s₃:Shared,s₃= {s2 with heap:=h₁}→
  codeAny (model X.prog X.w) X.A (.compLoop (.ListComp elt [⟨tg,iter,ifs,0⟩] scope pos) 0 (.ref it) (.ref s2.heap.objs.size) (compEnvC scope cl bR.objs.size X.aj.env))
   (compPost (model X.prog X.w) X.A X.aj.xe (some (assign (.Name y py) X.aj.env)) (fun _ s'=>SP X.aj pins D .next s') (.ref s2.heap.objs.size) bR.objs.size) s₃:= by
  rintro s₃ rfl
  refine iG (fun n s'=>∃i σ' H',Inv (fU X.aj N' scope cl bR.objs.size {s2 with heap:=bR} (upd H2 s2.heap.objs.size (.lst [])) fp) [] σ' H' s'∧tn i s'.heap∧(∀b∈fp,H' b=none)∧W i n σ' H') ?_ m0 ⟨0,_,_,I4,st4,fr4,w0⟩
  rintro n s5 ⟨i,σ5,H5,I5,Lx,R_,w5⟩
  rcases turn i n σ5 H5 w5 with⟨stop,qn⟩|⟨go,N,hN,step⟩
  ·refine ű (T.done (fU X.aj N' scope cl bR.objs.size {s2 with heap:=bR} (upd H2 s2.heap.objs.size (.lst [])) fp) rfl rfl rfl hcalm i [] s5 σ5 H5 (fun _ _=>False) I5 (stat R_) Lx stop) fun r s6 ⟨hr,I6⟩=>?_
   subst hr
   obtain⟨m,hm,_⟩:=I6.loc
   have I7:Inv X.aj pins σ H5 s6:=lM (h':=s6.heap) I3 f3 I6 (fun b u hb e=>e)
   have hCL:bR.objs.size≠X.aj.env.locals:=Nat.ne_of_gt I3.lt
   have hcC:∀x c,X.aj.env.cells.lookup x=some c→c≠bR.objs.size:=fun x c e z=>by
    obtain⟨v,o,ho,_⟩:=I3.cell x c e
    exact absurd (Heap.lt_size ho) (by rw[z];exact Nat.lt_irrefl _)
   have hpC:∀p∈X.aj.pn++pins,p.1≠bR.objs.size:=fun p hp z=>by
    have:=Heap.lt_size (I3.pin p hp).1
    rw[z] at this
    exact Nat.lt_irrefl _ this
   have hnC:H5 bR.objs.size=none:=I6.free
   refine wpAny_assign_Name (oR (X:=X.aj) (i:=iv) I7 hN hiN (.inl hy) (v:=.ref s2.heap.objs.size) rfl (fun s8 I8 ⟨a8,sb8,ha8⟩=>?_) (.inr hy))
   have ne8:bR.objs.size≠a8:=by
    rcases ha8 with rfl|ha8
    ·exact hCL
    ·exact fun z=>hcC _ _ ha8 z.symm
   refine⟨m,hm.sameBut sb8 ne8,fun h' hs'=>⟨_,H5,?_,qn⟩⟩
   have kp:∀b o,b≠bR.objs.size→s8.heap.get? b=some o→h'.get? b=some o:=fun b o hb e=>hs'.extBut b o hb e
   have kp':∀b o,b∉[bR.objs.size]→s8.heap.get? b=some o→h'.get? b=some o:=fun b o hb e=>kp b o (fun z=>hb (by rw[z];exact List.mem_cons_self)) e
   refine I8.call' (ch:=[bR.objs.size]) (s':={s8 with heap:=h'}) rfl ⟨fun b o e _ _ hx=>kp' b o hx e,fun b o e _ _ hx=>⟨o.slots,kp' b o hx e⟩,fun b o _ n _=>n,fun b o e hx=>⟨o,kp' b o hx e⟩,fun _ _ q=>q,fun _ _ _ q=>q,fun _ ps q=>⟨#[],by rw[q];simp⟩⟩ (zx I8.hok hnC kp) I8.bare fun b hb=>?_
   cases List.mem_singleton.mp hb
   exact⟨.inr I3.sz,hCL,hcC,hpC⟩
  ·refine ű (T.item (fU X.aj N' scope cl bR.objs.size {s2 with heap:=bR} (upd H2 s2.heap.objs.size (.lst [])) fp) rfl rfl rfl hcalm i [] s5 σ5 H5 (fun _ _=>False) I5 (stat R_) Lx go) fun r s6 ⟨u,hr,h6⟩=>?_
   subst hr
   refine ű h6 fun _ s7 ⟨x,H7,I7,r7,y7,TV,fr7⟩=>?_
   have I7':=I7.pinned (stat fr7) (T.obj _ _ TV)
   have again:∀{s8:Shared} {σ8:L2.St} {H8:Hp},Inv (fU X.aj N' scope cl bR.objs.size {s2 with heap:=bR} (upd H2 s2.heap.objs.size (.lst [])) fp) ([]++je fp s7.heap) σ8 H8 s8→
    Inv (fU X.aj N' scope cl bR.objs.size {s2 with heap:=bR} (upd H2 s2.heap.objs.size (.lst [])) fp) [] σ8 H8 s8∧tn (i+1) s8.heap∧∀b∈fp,H8 b=none:=fun{s8 σ8 H8} I8=>by
    refine⟨I8.eN,T.keep _ _ _ TV fun b hb o e=>(I8.pin (b,o) (List.mem_append_right _ (List.mem_append_right _ (aX hb e)))).1,fun b hb=>?_⟩
    obtain⟨o,e,d⟩:=T.obj _ _ TV b hb
    exact(I8.pin (b,o) (List.mem_append_right _ (List.mem_append_right _ (aX hb e)))).2.1
   refine ű (hg cl _ _ _ fp _ s7 σ5 H7 x u _ I7' r7 (step x H7 y7)) fun _ s8 ⟨σ8,H8,I8,q8⟩=>?_
   refine ű (ht cl _ _ _ fp _ s8 σ8 H8 _ I8 q8) fun c s9 ⟨H9,I9,q9⟩=>?_
   cases c with
   |false=>
    rw[if_neg Bool.false_ne_true] at q9 ⊢
    obtain⟨m',hm',w9⟩:=hN _ _ q9
    obtain⟨a1,a2,a3⟩:=again I9
    exact⟨m',hm',i+1,σ8,H9,a1,a2,a3,w9⟩
   |true=>
    rw[if_pos rfl] at q9 ⊢
    refine ű (he cl _ _ _ fp _ s9 σ8 H9 _ I9 q9) fun yv s10 ⟨y,H10,I10,r10,ys,e10,l10,w10⟩=>?_
    refine ű (aG _ s10 σ8 H10 (.ref s2.heap.objs.size) [y] (.ref s2.heap.objs.size) [yv] (fun _ TX=>N σ8 TX) I10 rfl (.cons r10 .nil) ⟨_,ys,y,rfl,rfl,e10,l10,w10⟩) fun _ s11 ⟨v11,TX,I11,_,w11⟩=>?_
    obtain⟨a1,a2,a3⟩:=again I11
    obtain⟨m',hm',w11⟩:=hN _ _ w11
    exact⟨m',hm',i+1,σ8,TX,a1,a2,a3,w11⟩
 exact codeAny_compStart_list (loop _ rfl) (T.self _ 0 _ _ _ st4 (loop _ rfl))
end
end M3
namespace P
open PySem PySem.Spec PyProof.Rows L2 M2 M3 M4
section
variable{X:Cx}{cm:String→Addr}{E:L2.St→XK}{elt tg iter:Expr}{ifs:List Expr}{scope:Scope}{pos:Pos}{mi:M (List PV)}{g:Tg}{mt:M Bool}{me:M PV}
theorem PS.aj{st:Stmt}{t:TS}(h:PS X.aj st t):PS X st t:=fun pins s σ H D I hw=>
 wpAny_mono (h pins s σ H D (I.wish _) hw) (fun _ _ q=>q.dz) fun _ _ z=>False.elim z
theorem mO{i:Nat}{y:Str}{py spos:Pos}(hN:X.N.Nodup)(hi0:X.N[i]?=some y)(hy:X.env.scope.names.lookup y=some .local)(N':List Str)(js:List Nat)(nl:Nat)(sc:Scope)(hsc:X.env.scope=sc)(hcalm:X.calm=true)
 (hi:PI X.aj tg iter (tI (kk X cm) E mi))(hg:∀cl C s H fp,PG (fU X.aj N' scope cl C s H fp) tg (tT (kk X cm) g))(ht:∀cl C s H fp,YL (fU X.aj N' scope cl C s H fp) ifs (tB (kk X cm) EF mt))(he:∀cl C s H fp,PE (fU X.aj N' scope cl C s H fp) elt (tV (kk X cm) EF me))
 (hcap:lK X.aj sc scope N' js)(hlen:js.length+nl=N'.length:=by rfl)
 (hk:scope.kind=.function:=by rfl)(hcell:∀y∈scope.names,y.2=.cell→scope.names.lookup y.1=some .cell:=by decide +kernel)(hnames:∀y∈scope.names,y.2=.local→scope.names.lookup y.1=some .local:=by decide +kernel)
 (hfree:∀y∈scope.names,y.2=.free→(sc.names.lookup y.1=some .cell∨sc.names.lookup y.1=some .free):=by decide +kernel)
 (hs:∀x,foldedSetIterable iter X.env x=pure x:=by intro _;rfl)(hsw:swapsWith (.ListComp elt [⟨tg,iter,ifs,0⟩] scope pos) (some (.Name y py)) spos.line X.env=pure true:=by rfl) :
 PS X (.Assign [.Name y py] (.ListComp elt [⟨tg,iter,ifs,0⟩] scope pos) spos) (tS (kk X cm) E (Ņ i (Ų js nl mi g mt me))):=
 PS.wk (PS.aj (Oe hN hi0 hy hsw N' js nl sc hsc hcalm hi hg ht he hcap hlen hk hcell hnames hfree hs)) fun D σ H ⟨c,F,ρ,rel,h⟩=>ug ⟨c,F,ρ,rel,Ž.bind h fun r ρ1 v F1 H1 Ģ s1 q h1=>by
   cases r with
   |sh p=>exact h1 _ F1 H1 (Ģ.put rfl ⟨v,rfl,q⟩) (Same.refl _)
   |ow ps=>
    obtain⟨a,vs,rfl,q1,q2,q3,q4,q5⟩:=q
    exact h1 _ F1 H1 (Ģ.Mx ⟨a,vs,rfl,q1,q2,q3,q5⟩ rfl q4) (Same.refl _)
   |ot ps qs=>
    obtain⟨p,a,xs,vs,rfl,q0,qx,q1,q2,q3,q4,q5⟩:=q
    exact h1 _ F1 H1 (Ģ.Mx (s:=.ot ps qs) ⟨p,a,xs,vs,rfl,q0,qx,q1,q2,q3,q5⟩ ⟨p,xs,rfl,q0⟩ q4) (Same.refl _)⟩
end
end P
namespace P
open PySem PySem.Spec PyProof.Rows L2 M2 M3 M4
def mBM(f:PV→List PV→Option PV)(mo:M PV)(ms:M (List PV)):M PV:=fun ρ=>(mo ρ).bind fun p ρ1=>match p with
 | .str _=>(ms ρ1).bind fun ps ρ2=>Res.lA (f p ps) ρ2
 |_=>.bad
@[simp] theorem ZkW{f:PV→List PV→Option PV}{mo:M PV}{ms:M (List PV)}{ρ:Ő}:mBM f mo ms ρ=(mo ρ).bind fun p ρ1=>match p with
  | .str _=>(ms ρ1).bind fun ps ρ2=>Res.lA (f p ps) ρ2
  |_=>.bad:=rfl
section
variable{X:Cx}{cm:String→Addr}{K:KK}{E:L2.St→XK}{o e:Expr}{es:List Expr}{name:Str}{apos cpos:Pos}{id:String}{r:V→List V→Hp→VK→Prop}{f:PV→List PV→Option PV}{mo:M PV}{ms:M (List PV)}
end
end P
namespace P
open PySem PySem.Spec PyProof.Rows L2 M2 M3 M4
section
variable{X:Cx}{pins:List (Addr×Obj)}{σ:L2.St}{H:Hp}{s:Shared}{h':Heap}
theorem turns{t':Nat}{fp:List Addr}(I:Inv X pins σ H s)(k:∀b o,b∉fp→s.heap.get? b=some o→h'.get? b=some o)(hf:∀b∈fp,eG X pins H b):Inv X pins σ H {s with heap:=h',toks:=t'}:=by
 have nit:∀b u,H b=some u→b∉fp:=fun b u e z=>by rw[(hf b z).1] at e;cases e
 have hL:X.env.locals∉fp:=fun z=>(hf _ z).2.1 rfl
 refine I.step (g':=s.gens) (d':=s.drawn) (ch:=fp) (fun b hb=>?_) (fun b o _ _ hc e _=>k b o hc e) (fun b o _ _ hc e _=>⟨o.slots,k b o hc e⟩) (fun _ _ _ _ n=>n)
  (fun b o hc e=>⟨o,k b o hc e⟩) (fun _ _ e=>e) (fun _ _ _ e=>e) (fun b ps e=>⟨#[],by rw[e];simp⟩) (fun m hm=>?_) (fun b u e=>?_) I.bare
 ·obtain⟨f0,f1,f2,f3,f4,f5⟩:=hf b hb
  exact⟨f3,f1,f4,f5⟩
 ·obtain⟨o,es,ep,ho,r⟩:=hm
  exact⟨o,es,ep,k _ o hL ho,r⟩
 ·refine(I.hok b u e).stay (fun c v hc q=>k c v ?_ q) (fun _ q=>q) fun _ _ q=>q
  rcases hc with z|z
  ·rw[z];exact nit b u e
  ·exact nit c _ z
theorem Uw{a b:Addr}{o:HO}(f:eG X pins H b)(h:b≠a):eG X pins (upd H a o) b:=⟨by rw[Į h];exact f.1,f.2⟩
theorem xg{t':Nat}{fp:List Addr}{u1 u2:Value}{x1 x2:V}(I:Inv X pins σ H s)(r1:RelV x1 u1)(r2:RelV x2 u2)(ht:∃o,h'.get? s.heap.objs.size=some o∧o= {cls:=.type "tuple",data:=.seq #[u1,u2]})
 (k:∀b o,b∉fp→s.heap.get? b=some o→h'.get? b=some o)(hf:∀b∈fp,eG X pins H b)(hlt:∀b∈fp,b<s.heap.objs.size) :
 Inv X pins σ (upd H s.heap.objs.size (.tup [x1,x2])) {s with heap:=h',toks:=t'}:=by
 have I1:Inv X pins σ (upd H s.heap.objs.size (.tup [x1,x2])) {s with heap:=s.heap.push {cls:=.type "tuple",data:=.seq #[u1,u2]},toks:=s.toks}:=
  I.laid (t':=s.toks) (fun b u e=>Heap.get?_push_of_some _ e) (Nat.le_refl _) ⟨by show 2≤sizeLine;decide,[u1,u2],.cons r1 (.cons r2 .nil),⟨_,Heap.get?_push_size _ rfl,rfl,_,rfl⟩⟩
 refine turns (fp:=fp) (s:={s with heap:=s.heap.push {cls:=.type "tuple",data:=.seq #[u1,u2]},toks:=s.toks}) (h':=h') (t':=t') I1 (fun b o hb e=>?_) fun b hb=>Uw (hf b hb) (Nat.ne_of_lt (hlt b hb))
 rcases Heap.get?_push_cases e with⟨rfl,rfl⟩|e
 ·obtain⟨o,h1,h2⟩:=ht
  rw[h1,h2]
 ·exact k b o hb e
end
section
variable{X:Cx}{elts:List Expr}{k:Nat}{tp:Pos}
end
def rLs(K:KK):RR (List PV) V:=fun c _ _ F H items v=>∃a,v=.ref a∧(∃xs,aB K.K H a xs)∧gw K c.L F (YK K.K a) items
def rTs(K:KK):RR (List PV) V:=fun c _ _ F H items v=>∃a,v=.ref a∧(∃xs,cF K.K H a xs)∧gw K c.L F (Itt K.K a) items
def rSq(K:KK):RR (List PV) V:=fun c σ ρ F H items v=>rLs K c σ ρ F H items v∨rTs K c σ ρ F H items v
theorem uF{K:KK}{L F:Hp}{ps:List PV}{v:V}(h:Rep K F (.lst ps) v):∃a,v=.ref a∧(∃xs,aB K.K F a xs)∧gw K L F (YK K.K a) ps:=by
 unfold Rep at h
 obtain⟨a,vs,rfl,e1,e2⟩:=h
 refine⟨a,rfl,⟨vs,e1⟩,?_⟩
 intro c' i F2 H2 σ2 ρ2 ń sF _
 have hq:aB K.K H2 a vs:=(sF.trans ń.sub).seq e1
 refine⟨fun p hp=>?_,fun hi=>⟨vs,hq,by rw[hi,e2.length];exact Nat.le_refl _⟩⟩
 obtain⟨u,hu,ru⟩:=bV e2.pr hp
 refine⟨⟨vs,u,hq,hu⟩,fun x H' ⟨hH,hx⟩=>?_⟩
 subst hH
 have:vs[i]?=some x:=hx vs hq
 rw[hu] at this
 cases this
 exact⟨F2,ń,Same.refl _,Same.refl _,Rep.same sF p u ru⟩
theorem Fq{K:KK}{L F:Hp}{ps:List PV}{v:V}(h:Rep K F (.tup ps) v):∃a,v=.ref a∧(∃xs,cF K.K F a xs)∧gw K L F (Itt K.K a) ps:=by
 unfold Rep at h
 obtain⟨a,vs,rfl,e1,e2⟩:=h
 refine⟨a,rfl,⟨vs,e1⟩,?_⟩
 intro c' i F2 H2 σ2 ρ2 ń sF _
 have hq:cF K.K H2 a vs:=Same.tup (sF.trans ń.sub) e1
 refine⟨fun p hp=>?_,fun hi=>⟨vs,hq,by rw[hi,e2.length];exact Nat.le_refl _⟩⟩
 obtain⟨u,hu,ru⟩:=bV e2.pr hp
 refine⟨⟨vs,u,hq,hu⟩,fun x H' ⟨hH,hx⟩=>?_⟩
 subst hH
 have:vs[i]?=some x:=hx vs hq
 rw[hu] at this
 cases this
 exact⟨F2,ń,Same.refl _,Same.refl _,Rep.same sF p u ru⟩
theorem BJ{K:KK}{c:Ctx}{F:Hp}{a:Addr}{vs:List V}{ps:List PV}(h2:c.L a=some (.lst vs))(h3:ġ K F ps vs):gw K c.L F (YK K.K a) ps:=by
 intro c' j F2 H2 σ2 ρ2 ń sF sL
 have hq:aB K.K H2 a vs:=aB.of (sL a _ h2)
 refine⟨fun p hp=>?_,fun hi=>⟨vs,hq,by rw[hi,h3.length];exact Nat.le_refl _⟩⟩
 obtain⟨u,hu,ru⟩:=bV h3.pr hp
 refine⟨⟨vs,u,hq,hu⟩,fun x H' ⟨hH,hx⟩=>?_⟩
 subst hH
 have:vs[j]?=some x:=hx vs hq
 rw[hu] at this
 cases this
 exact⟨F2,ń,Same.refl _,Same.refl _,Rep.same sF p u ru⟩
theorem gw.mono{K:KK}{L F F1:Hp}{J:It}{ps:List PV}(h:gw K L F J ps)(s:Same F F1):gw K L F1 J ps:=fun c i F2 H σ ρ rel sF sL=>h c i F2 H σ ρ rel (s.trans sF) sL
def mLs(m:M PV):M (List PV):=fun ρ=>(m ρ).bind fun p ρ1=>match p with
 | .lst ps=>.ok ps ρ1
 |_=>.bad
def mSq(m:M PV):M (List PV):=fun ρ=>(m ρ).bind fun p ρ1=>match p with
 | .lst ps=>.ok ps ρ1
 | .tup ps=>.ok ps ρ1
 |_=>.bad
def Zh6(i:Nat):M (List PV):=fun ρ=>match ρ[i]? with
 |some (.bw ps)=>.ok ps ρ
 |some (.sh (.lst ps))=>.ok ps ρ
 |some (.ow ps)=>.ok ps (ρ.set i (.sh (.lst ps)))
 |_=>.bad
def Ft(i:Nat):M (List PV):=fun ρ=>match ρ[i]? with
 |some (.bw ps)=>.ok ps ρ
 |some (.sh (.lst ps))=>.ok ps ρ
 |some (.sh (.tup ps))=>.ok ps ρ
 |some (.ow ps)=>.ok ps (ρ.set i (.sh (.lst ps)))
 |_=>.bad
section
variable{X:Cx}{cm:String→Addr}{E:L2.St→XK}{e:Expr}{m:M PV}
theorem Qe(i:Nat){x:Str}{px:Pos}(hN:X.N[i]?=some x:=by rfl)(hv:Cw X.env.scope x:=by first|exact Or.inl rfl|exact Or.inr (Or.inl rfl)|exact Or.inr (Or.inr rfl))(hd:(x== ("__debug__" :Str))=false:=by decide)
 (hcd:(x== ("__classdict__" :Str))=false:=by decide):PE X (.Name x px) (tG (kk X cm) E (rSq (kk X cm)) (Ft i)):=PE.wk (eE hN hv hd hcd) fun σ H Q ⟨c,F,ρ,rel,h⟩=>by
 unfold Ft at h
 cases e:ρ[i]? with
 |none=>rw[e] at h;exact h.elim
 |some sl=>
  rw[e] at h
  cases sl with
  |no=>exact h.elim
  |rc C ns ps=>exact h.elim
  |ot ps qs=>exact h.elim
  |ow ps=>
   obtain⟨a,vs,z1,z2,z3,z4⟩:=rel.share e
   obtain⟨a',e1,⟨xs,e2⟩,e3⟩:=uF (L:=c.L) z3
   cases e1
   exact⟨.ref a,z1,h _ _ H z4 (Same.upd z2) (Same.refl _) (.inl ⟨a,rfl,⟨xs,z4.sub.seq e2⟩,e3⟩)⟩
  |bw ps=>
   obtain⟨a,vs,h1,h2,h3⟩:=rel.slot i _ e
   exact⟨.ref a,at_of h1,h _ F H rel (Same.refl _) (Same.refl _) (.inl ⟨a,rfl,⟨vs,aB.of (rel.lent a _ h2).1⟩,BJ h2 h3⟩)⟩
  |sh p=>
   obtain⟨v,h1,h2⟩:=rel.slot i _ e
   cases p with
   |lst ps=>
    obtain⟨a,e1,⟨xs,e2⟩,e3⟩:=uF (L:=c.L) h2
    exact⟨v,at_of h1,h v F H rel (Same.refl _) (Same.refl _) (.inl ⟨a,e1,⟨xs,rel.sub.seq e2⟩,e3⟩)⟩
   |tup ps=>
    obtain⟨a,e1,⟨xs,e2⟩,e3⟩:=Fq (L:=c.L) h2
    exact⟨v,at_of h1,h v F H rel (Same.refl _) (Same.refl _) (.inr ⟨a,e1,⟨xs,Same.tup rel.sub e2⟩,e3⟩)⟩
   |_=>exact h.elim
def Fv:Nat→List PV→List PV
 |_,[]=>[]
 |k,p::ps=>.tup [.int k,p]::Fv (k+1) ps
def Zbc(m:M (List PV)):M (List PV):=fun ρ=>(m ρ).bind fun ps ρ1=>.ok (Fv 0 ps) ρ1
theorem Og{K:KK}{c:Ctx}{F H:Hp}{σ:L2.St}{ρ:Ő}{T:Addr}{p q:PV}{x y:V}(rel:Rel K c F H σ ρ)(hT:H T=none)(r1:Rep K F p x)(r2:Rep K F q y):Rel K c (upd F T (.tup [x,y])) (upd H T (.tup [x,y])) σ ρ∧Rep K (upd F T (.tup [x,y])) (.tup [p,q]) (.ref T):=by
 have hF:=rel.sub.free hT
 refine⟨rel.alloc hT,?_⟩
 unfold Rep
 exact⟨T,[x,y],rfl,cF.of Ĳ,ġ.cons (Rep.same (Same.upd hF) p x r1) (ġ.cons (Rep.same (Same.upd hF) q y r2) ġ.nil)⟩
def xq(i:Nat)(mo:M RV):M Fl:=fun ρ=>match ρ[i]? with
 |some (.ow _)=>(mo ρ).bind fun r ρ1=>match ρ1[i]?,r with
  |some (.ow ps),.ow qs=>if ps.length+qs.length≤16777216 then .ok .nx (ρ1.set i (.ow (ps++qs))) else .bad
  |_,_=>.bad
 |_=>.bad
theorem Ab{i:Nat}{mo:M RV}{D:Ends}{σ:L2.St}{H:Hp}(h:tS (kk X cm) E (xq i mo) D σ H):yX (tBM X.K "list" zp (tH i) (Pk (tO (kk X cm) E mo) Zaq)) D σ H:=by
 obtain⟨c,F,ρ,rel,h⟩:=h
 unfold xq at h
 cases e1:ρ[i]? with
 |none=>rw[e1] at h;exact h.elim
 |some sl=>
  rw[e1] at h
  cases sl with
  |ow ps0=>
   obtain⟨a,vs0,z1,z2,z3,z4,z5,z6⟩:=rel.ow e1
   refine⟨.ref a,z1,.inl ⟨rfl,_,aB.of z2⟩,c,F,ρ,rel,?_⟩
   refine Ž.bind h fun r ρ1 v F1 H1 Ģ s1 q h1=>?_
   cases e2:ρ1[i]? with
   |none=>simp only[e2] at h1;exact h1.elim
   |some sl2=>
    simp only[e2] at h1
    cases sl2 with
    |ow ps=>
     cases r with
     |ow qs=>
      obtain⟨b,us,eb,hb1,hb2,hb3,hb4,hb5⟩:=q
      subst eb
      obtain⟨a2,vs,w1,w2,w3,w4,w5,w6⟩:=Ģ.ow e2
      rw[z1] at w1
      cases w1
      dsimp only at h1
      split at h1
      ·rename_i hz
       refine⟨a,b,vs,us,rfl,rfl,w2,hb1,by rw[←w5.length,←hb5.length,Ŋ];exact hz,h1 σ F1 _ (Ģ.write w6 z1 ⟨a,vs++us,rfl,Ĳ,w3,w4,ġ.append w5 hb5⟩ fun _ z=>(V.ref.inj z).symm) (Same.refl _)⟩
      ·exact h1.elim
     |_=>exact h1.elim
    |_=>exact h1.elim
  |_=>exact h.elim
def Zh7(i:Nat):M Fl:=fun ρ=>match ρ[i]? with
 |some (.ow _)=>.ok .nx (ρ.set i (.ow []))
 |_=>.bad
@[simp] theorem Zh8{i:Nat}{ρ:Ő}:Zh7 i ρ=(match ρ[i]? with
  |some (.ow _)=>.ok .nx (ρ.set i (.ow []))
  |_=>.bad):=rfl
@[simp] theorem Zh9{i:Nat}{mo:M RV}{ρ:Ő}:xq i mo ρ=(match ρ[i]? with
  |some (.ow _)=>(mo ρ).bind fun r ρ1=>match ρ1[i]?,r with
   |some (.ow ps),.ow qs=>if ps.length+qs.length≤16777216 then .ok .nx (ρ1.set i (.ow (ps++qs))) else .bad
   |_,_=>.bad
  |_=>.bad):=rfl
@[simp] theorem Zgm{mi:M (List PV)}{ρ:Ő}:Zbc mi ρ=(mi ρ).bind fun ps ρ1=>.ok (Fv 0 ps) ρ1:=rfl
@[simp] theorem ZkX{ρ:Ő}:mLs m ρ=(m ρ).bind fun p ρ1=>match p with
  | .lst ps=>.ok ps ρ1
  |_=>.bad:=rfl
@[simp] theorem ZkY{ρ:Ő}:mSq m ρ=(m ρ).bind fun p ρ1=>match p with
  | .lst ps=>.ok ps ρ1
  | .tup ps=>.ok ps ρ1
  |_=>.bad:=rfl
@[simp] theorem Zh_{i:Nat}{ρ:Ő}:Zh6 i ρ=(match ρ[i]? with
  |some (.bw ps)=>.ok ps ρ
  |some (.sh (.lst ps))=>.ok ps ρ
  |some (.ow ps)=>.ok ps (ρ.set i (.sh (.lst ps)))
  |_=>.bad):=rfl
@[simp] theorem Zia{i:Nat}{ρ:Ő}:Ft i ρ=(match ρ[i]? with
  |some (.bw ps)=>.ok ps ρ
  |some (.sh (.lst ps))=>.ok ps ρ
  |some (.sh (.tup ps))=>.ok ps ρ
  |some (.ow ps)=>.ok ps (ρ.set i (.sh (.lst ps)))
  |_=>.bad):=rfl
end
end P
namespace P
open PySem PySem.Spec PyProof.Rows L2 M2 M3 M4
def Zbd(i:Nat)(m:M PV):M Fl:=fun ρ=>match ρ[i]? with
 |some (.sh (.int _))=>(m ρ).bind fun q ρ1=>match ρ1[i]?,q with
  |some (.sh (.int k)),.int j=>.ok .nx (ρ1.set i (.sh (.int (Builtin.bitOr k j))))
  |_,_=>.bad
 |_=>.bad
@[simp] theorem Zgn{i:Nat}{m:M PV}{ρ:Ő}:Zbd i m ρ=(match ρ[i]? with
  |some (.sh (.int _))=>(m ρ).bind fun q ρ1=>match ρ1[i]?,q with
   |some (.sh (.int k)),.int j=>.ok .nx (ρ1.set i (.sh (.int (Builtin.bitOr k j))))
   |_,_=>.bad
  |_=>.bad):=rfl
section
variable{X:Cx}{cm:String→Addr}{E:L2.St→XK}{e a b:Expr}{m ma mb:M PV}{pos:Pos}
def Zbe:PV→Option PV
 | .int i=>some (.int (Builtin.bitNot i))
 |_=>none
@[simp] theorem Zgo{i:Int}:Zbe (.int i)=some (.int (Builtin.bitNot i)):=rfl
def Zbf(m:M PV):M PV:=fun ρ=>(m ρ).bind fun p ρ1=>match p with
 | .int i=>.ok (.int ((Builtin.Int.intBits i:Nat):Int)) ρ1
 |_=>.bad
@[simp] theorem Zgp{ρ:Ő}:Zbf m ρ=(m ρ).bind fun p ρ1=>match p with
  | .int i=>.ok (.int ((Builtin.Int.intBits i:Nat):Int)) ρ1
  |_=>.bad:=rfl
def Zib(m:M PV):M RV:=fun ρ=>(m ρ).bind fun p ρ1=>match p with
 | .lst ps=>.ok (.ow ps.reverse) ρ1
 |_=>.bad
@[simp] theorem Zic{ρ:Ő}:Zib m ρ=(m ρ).bind fun p ρ1=>match p with
  | .lst ps=>.ok (.ow ps.reverse) ρ1
  |_=>.bad:=rfl
end
section
variable{X:Cx}{K:KK}
end
end P
namespace P
open PySem PySem.Spec PyProof.Rows L2 M2 M3 M4
section
variable{prog:Program}{w:World}{A:Around}{E:Value→Shared→Prop}{s:Shared}
theorem iR{it l:Addr}{i:Nat}{items}{x:Value}{Q:Value→Shared→Prop}(hit:s.heap.IsTupleIter it l i)
 (hl:s.heap.IsTuple l items)(hx:items[i]?=some x)
 (hQ:∀h',h'.IsTupleIter it l (i+1)→Heap.SameBut it s.heap h'→Q x {s with heap:=h'}) :
 wpAny (model prog w) A (Builtin.SmallTypes.nextOf (.ref it)) Q E s:=by
 obtain⟨o,ho,hc,hd⟩:=id hit
 obtain⟨ol,hol,_,nl,hdl⟩:=hl
 unfold Builtin.SmallTypes.nextOf
 refine wpAny_bind (wpAny_callSpecial?_slot (name:=Str.ofString "__next__") hit.typeIs F.slot_tuple_iterator_next
  (wpAny_call_entry F.slot_tuple_iterator_next hit.typeIs F.entry_tuple_iterator_next ?_ (F.args_tuple_iterator_next_1 _)))
 show wpAny _ _ (field (.ref it) 0 >>= _) _ _ s
 refine wpAny_bind (wpAny_field ho hd (x:=.ref l) rfl ?_)
 show wpAny _ _ (if(Value.ref l== Value.none)=true then _ else _) _ _ s
 rw[if_neg (show ¬((Value.ref l== Value.none)=true) from Bool.false_ne_true)]
 show wpAny _ _ (field (.ref it) 1 >>= _) _ _ s
 refine wpAny_bind (wpAny_field ho hd (x:=.int i 0) rfl ?_)
 show wpAny _ _ (seqItems? (.ref l) >>= _) _ _ s
 refine wpAny_bind (wpAny_seqItems hol hdl ?_)
 simp only[Int.toNat_natCast,hx]
 refine wpAny_bind (wpAny_setField ho hd (by simp) (wpAny_pure ⟨x,rfl,wpAny_pure (hQ _ ?_ (Heap.SameBut.update ..))⟩))
 exact⟨_,Heap.get?_update_self _ ho (Obj.isFreed_of_fields (Obj.data_mapFields hd _)),(Obj.cls_mapFields ..).trans hc,by
  rw[Obj.data_mapFields hd];simp[rawInt]⟩
theorem ju{it l:Addr}{i:Nat}{items}{Q:Value→Shared→Prop}(hh:A.handled=none)
 (hit:s.heap.IsTupleIter it l i)(hl:s.heap.IsTuple l items)(hx:items[i]?=none)
 (hE:∀h' e,Heap.ExtBut it s.heap h'→(∃o,h'.get? e=some o∧o.cls=.type "StopIteration")→E (.ref e) {s with heap:=h'}) :
 wpAny (model prog w) A (Builtin.SmallTypes.nextOf (.ref it)) Q E s:=by
 obtain⟨o,ho,hc,hd⟩:=id hit
 obtain⟨ol,hol,_,nl,hdl⟩:=hl
 unfold Builtin.SmallTypes.nextOf
 refine wpAny_bind (wpAny_callSpecial?_slot (name:=Str.ofString "__next__") hit.typeIs F.slot_tuple_iterator_next
  (wpAny_call_entry F.slot_tuple_iterator_next hit.typeIs F.entry_tuple_iterator_next ?_ (F.args_tuple_iterator_next_1 _)))
 show wpAny _ _ (field (.ref it) 0 >>= _) _ _ s
 refine wpAny_bind (wpAny_field ho hd (x:=.ref l) rfl ?_)
 show wpAny _ _ (if(Value.ref l== Value.none)=true then _ else _) _ _ s
 rw[if_neg (show ¬((Value.ref l== Value.none)=true) from Bool.false_ne_true)]
 show wpAny _ _ (field (.ref it) 1 >>= _) _ _ s
 refine wpAny_bind (wpAny_field ho hd (x:=.int i 0) rfl ?_)
 show wpAny _ _ (seqItems? (.ref l) >>= _) _ _ s
 refine wpAny_bind (wpAny_seqItems hol hdl ?_)
 simp only[Int.toNat_natCast,hx]
 refine wpAny_bind (wpAny_rule (wpAny_bind (wpAny_setField ho hd (by simp) ?_)))
 show wpAny _ _ (newExc (.type "StopIteration") [] >>= _) _ _ _
 refine wpAny_bind ?_
 simp only[newExc,newTuple]
 refine wpAny_bind (wpAny_newObj_type ?_ (by size_fits))
 refine wpAny_bind (m:=firstArgMember _ _) (wpAny_of_eq (a:=Value.none) (by first|rfl|(simp only[firstArgMember];rfl)) ?_)
 refine wpAny_newObj_type ?_ (by size_fits)
 simp only[raiseNew]
 refine wpAny_bind (wpAny_handled ?_)
 first|rw[show A.in1.handled=none from hh]|rw[hh]
 refine wpAny_bind (wpAny_pure (wpAny_throw ?_))
 exact hE _ _ (((Heap.SameBut.update ..).extBut.push _).push _) ⟨_,Heap.get?_push_size _ rfl,rfl⟩
end
theorem uG{prog:Program}{w:World}{A:Around}(hh:A.handled=none)(it l:Addr)(hne:l≠it)(items:Array Value) :
 Draws prog w A it [it,l] items.size (fun i v=>items[i]?=some v) (fun i h=>h.IsTupleIter it l i∧h.IsTuple l items) where
 live:=fun _ _ st=>let ⟨o,ho,_⟩:=st.1;⟨o,ho⟩
 frame:=fun _ _ _ st hk=>⟨let ⟨o,ho,r⟩:=st.1;⟨o,hk it (by simp) o ho,r⟩,let ⟨o,ho,r⟩:=st.2;⟨o,hk l (by simp) o ho,r⟩⟩
 item:=fun i s Q E hi st hQ=>by
  refine iR st.1 st.2 (x:=items[i]) (by simp[hi]) fun h' hit' hs'=>?_
  exact hQ _ h' s.toks (by simp[hi]) ⟨hit',st.2.extBut hs'.extBut hne⟩ hs'
 done:=fun s Q E st hE=>ju hh st.1 st.2 (by simp) hE
structure YZ(z TI TO i1 i2:Addr)(f1 f2:List Addr):Prop where
 TIz:TI≠z
 TOz:TO≠z
 i1z:i1≠z
 i2z:i2≠z
 TITO:TI≠TO
 TIi1:TI≠i1
 TIi2:TI≠i2
 TOi1:TO≠i1
 TOi2:TO≠i2
 i12:i1≠i2
 z1:z∉f1
 z2:z∉f2
 t1:TO∉f1
 t2:TO∉f2
 a1:i1∉f2
 a2:i2∉f1
section
variable{prog:Program}{w:World}{A:Around}{E:Value→Shared→Prop}{s:Shared}
theorem mQ{z TI TO i1 i2:Addr}{f1 f2:List Addr}{n1 n2 k1 k2:Nat}{P1 P2:Nat→Value→Prop}{S1 S2:Nat→Heap→Prop}{a b:Value}{Q:Value→Shared→Prop}(D:YZ z TI TO i1 i2 f1 f2)
 (D1:Draws prog w A i1 f1 n1 P1 S1)(D2:Draws prog w A i2 f2 n2 P2 S2)
 (hz:IsZip s.heap z TI TO .none)(hTI:IsPair s.heap TI (.ref i1) (.ref i2))(hTO:IsPair s.heap TO a b)(h1:S1 k1 s.heap)(h2:S2 k2 s.heap)(hk1:k1<n1)(hk2:k2<n2)
 (hQ:∀x y h' tk,P1 k1 x→P2 k2 y→IsZip h' z TI TO (rawInt s.heap.objs.size)→IsPair h' TO x y→S1 (k1+1) h'→S2 (k2+1) h'→IsPair h' s.heap.objs.size x y→h'.objs.size=s.heap.objs.size+1→
   (∀c o,c≠z→c≠TO→c≠i1→c≠i2→s.heap.get? c=some o→h'.get? c=some o)→Q (.ref s.heap.objs.size) {s with heap:=h',toks:=tk}) :
 wpAny (model prog w) A (Builtin.«zip.__next__» ⟨[.ref z],[]⟩) (fun fin s'=>∃v,fin=.done (.ret v)∧Q v s') E s:=by
 have Qf:∀{b},b∈f1→b≠z∧b≠TO∧b≠i2:=fun hb=>⟨fun e=>D.z1 (e▸hb),fun e=>D.t1 (e▸hb),fun e=>D.a2 (e▸hb)⟩
 have Oh:∀{b},b∈f2→b≠z∧b≠TO∧b≠i1:=fun hb=>⟨fun e=>D.z2 (e▸hb),fun e=>D.t2 (e▸hb),fun e=>D.a1 (e▸hb)⟩
 obtain⟨hp,g,d,tk0,os⟩:=s
 show wpAny _ _ (field (.ref z) 2 >>= _) _ _ _
 refine wpAny_bind (wpAny_field hz rfl (x:=.bool false) rfl ?_)
 show wpAny _ _ (field (.ref z) 3 >>= _) _ _ _
 refine wpAny_bind (wpAny_field hz rfl (x:=.ref TI) rfl ?_)
 refine wpAny_bind (wpAny_seqItems hTI rfl ?_)
 show wpAny _ _ (Builtin.SmallTypes.ownedTupleIsFree (.ref z) >>= _) _ _ _
 refine wpAny_bind ?_
 unfold Builtin.SmallTypes.ownedTupleIsFree
 refine wpAny_bind (wpAny_field hz rfl (x:=.none) rfl (wpAny_pure ?_))
 simp only[if_true]
 refine wpAny_bind (wpAny_rule ?_)
 refine wpAny_bind (wpAny_field hz rfl (x:=.ref TO) rfl ?_)
 refine wpAny_bind (wpAny_setField_rec hz (by simp) fun h₁ hz₁ hs₁=>?_)
 replace hs₁:Heap.SameBut z hp h₁:= hs₁
 replace hz₁:IsZip h₁ z TI TO .ellipsis:=hz₁
 refine wpAny_bind ?_
 simp only[List.zipIdx_cons,List.zipIdx_nil,List.forIn_cons,List.forIn_nil]
 refine wpAny_bind (wpAny_bind (wpAny_onRaise ?_))
 show wpAny _ _ (Builtin.SmallTypes.nextOf (.ref i1) >>= _) _ _ _
 refine wpAny_bind (D1.item k1 _ _ _ hk1 (D1.frame _ _ _ h1 fun b hb o e=>hs₁.extBut b o (Qf hb).1 e) fun x h₂ tk hPx h1₂ hs₂=>wpAny_pure ?_)
 replace hs₂:Heap.SameBut i1 h₁ h₂:= hs₂
 have hTO₂:IsPair h₂ TO a b:=hs₂.extBut _ _ D.TOi1 (hs₁.extBut _ _ D.TOz hTO)
 refine wpAny_bind (wpAny_seqItems hTO₂ rfl ?_)
 refine wpAny_bind (wpAny_updateSeq_pair hTO₂ fun h₃ hTO₃ hs₃=>?_)
 replace hs₃:Heap.SameBut TO h₂ h₃:= hs₃
 replace hTO₃:IsPair h₃ TO x b:=hTO₃
 refine wpAny_bind (wpAny_letGo (wpAny_pure ?_))
 refine wpAny_bind (wpAny_bind (wpAny_onRaise ?_))
 show wpAny _ _ (Builtin.SmallTypes.nextOf (.ref i2) >>= _) _ _ _
 refine wpAny_bind (D2.item k2 _ _ _ hk2 (D2.frame _ _ _ h2 fun b hb o e=>hs₃.extBut b o (Oh hb).2.1 (hs₂.extBut b o (Oh hb).2.2 (hs₁.extBut b o (Oh hb).1 e))) fun y h₄ tk' hPy h2₄ hs₄=>wpAny_pure ?_)
 replace hs₄:Heap.SameBut i2 h₃ h₄:= hs₄
 have hTO₄:IsPair h₄ TO x b:=hs₄.extBut _ _ D.TOi2 hTO₃
 refine wpAny_bind (wpAny_seqItems hTO₄ rfl ?_)
 refine wpAny_bind (wpAny_updateSeq_pair hTO₄ fun h₅ hTO₅ hs₅=>?_)
 replace hs₅:Heap.SameBut TO h₄ h₅:= hs₅
 replace hTO₅:IsPair h₅ TO x y:=hTO₅
 refine wpAny_bind (wpAny_letGo (wpAny_pure (wpAny_pure ?_)))
 refine wpAny_bind (wpAny_seqItems hTO₅ rfl ?_)
 refine wpAny_bind (wpAny_newTuple ?_)
 have hsz:h₅.objs.size=hp.objs.size:=by rw[hs₅.1,hs₄.1,hs₃.1,hs₂.1,hs₁.1]
 have hz₅:IsZip h₅ z TI TO .ellipsis:=hs₅.extBut _ _ D.TOz.symm (hs₄.extBut _ _ D.i2z.symm (hs₃.extBut _ _ D.TOz.symm (hs₂.extBut _ _ D.i1z.symm hz₁)))
 have hk₅:∀c o,c≠z→c≠TO→c≠i1→c≠i2→hp.get? c=some o→h₅.get? c=some o:=fun c o c1 c2 c3 c4 e=>
  hs₅.extBut _ _ c2 (hs₄.extBut _ _ c4 (hs₃.extBut _ _ c2 (hs₂.extBut _ _ c3 (hs₁.extBut _ _ c1 e))))
 have h1₅:S1 (k1+1) h₅:= D1.frame _ _ _ h1₂ fun b hb o e=>hs₅.extBut b o (Qf hb).2.1 (hs₄.extBut b o (Qf hb).2.2 (hs₃.extBut b o (Qf hb).2.1 e))
 have h2₅:S2 (k2+1) h₅:= D2.frame _ _ _ h2₄ fun b hb o e=>hs₅.extBut b o (Oh hb).2.1 e
 have hzlt:z<h₅.objs.size:=Heap.lt_size hz₅
 show wpAny _ _ (Builtin.SmallTypes.ownedTupleHandOut (.ref z) (.ref h₅.objs.size) >>= _) _ _ _
 refine wpAny_bind ?_
 unfold Builtin.SmallTypes.ownedTupleHandOut
 have hz₆:IsZip (h₅.push {cls:=.type "tuple",data:=.seq #[x,y]}) z TI TO .ellipsis:=Heap.get?_push_of_some _ hz₅
 refine wpAny_bind (wpAny_setField_rec hz₆ (by simp) fun h₇ hz₇ hs₇=>?_)
 replace hz₇:IsZip h₇ z TI TO (rawInt h₅.objs.size):=hz₇
 refine wpAny_setField_rec hz₇ (by simp) fun h₈ hz₈ hs₈=>?_
 replace hz₈:IsZip h₈ z TI TO (rawInt h₅.objs.size):=hz₈
 have up:∀c o,c≠z→h₅.get? c=some o→h₈.get? c=some o:=fun c o c1 e=>hs₈.extBut _ _ c1 (hs₇.extBut _ _ c1 (Heap.get?_push_of_some _ e))
 have hT₈:IsPair h₈ h₅.objs.size x y:=hs₈.extBut _ _ (Nat.ne_of_gt hzlt) (hs₇.extBut _ _ (Nat.ne_of_gt hzlt) (Heap.get?_push_size _ rfl))
 have hz8:h₈.objs.size=h₅.objs.size+1:=by rw[hs₈.1,hs₇.1,Heap.size_push]
 rw[hsz] at hz₈ hT₈ hz8
 refine wpAny_pure ⟨_,rfl,?_⟩
 show Q (.ref h₅.objs.size) _
 rw[hsz]
 exact hQ x y h₈ tk' hPx hPy hz₈ (up _ _ D.TOz hTO₅) (D1.frame _ _ _ h1₅ fun b hb o e=>up b o (Qf hb).1 e) (D2.frame _ _ _ h2₅ fun b hb o e=>up b o (Oh hb).1 e) hT₈ hz8 fun c o c1 c2 c3 c4 e=>up c o c1 (hk₅ c o c1 c2 c3 c4 e)
theorem oM{z TI TO i1 i2:Addr}{f1 f2:List Addr}{n1 n2 k1 k2:Nat}{P1 P2:Nat→Value→Prop}{S1 S2:Nat→Heap→Prop}{a b:Value}{Q:Fin→Shared→Prop}(D:YZ z TI TO i1 i2 f1 f2)
 (D1:Draws prog w A i1 f1 n1 P1 S1)(D2:Draws prog w A i2 f2 n2 P2 S2)
 (hz:IsZip s.heap z TI TO .none)(hTI:IsPair s.heap TI (.ref i1) (.ref i2))(hTO:IsPair s.heap TO a b)(h1:S1 k1 s.heap)(h2:S2 k2 s.heap)(hend:k1=n1∨(k1<n1∧k2=n2))
 (hE:∀h' e tk,(∀c o,c≠z→c≠TO→c≠i1→c≠i2→s.heap.get? c=some o→h'.get? c=some o)→(∃o,h'.get? e=some o∧o.cls=.type "StopIteration")→E (.ref e) {s with heap:=h',toks:=tk}) :
 wpAny (model prog w) A (Builtin.«zip.__next__» ⟨[.ref z],[]⟩) Q E s:=by
 have Qf:∀{b},b∈f1→b≠z∧b≠TO∧b≠i2:=fun hb=>⟨fun e=>D.z1 (e▸hb),fun e=>D.t1 (e▸hb),fun e=>D.a2 (e▸hb)⟩
 have Oh:∀{b},b∈f2→b≠z∧b≠TO∧b≠i1:=fun hb=>⟨fun e=>D.z2 (e▸hb),fun e=>D.t2 (e▸hb),fun e=>D.a1 (e▸hb)⟩
 obtain⟨hp,g,d,tk0,os⟩:=s
 show wpAny _ _ (field (.ref z) 2 >>= _) _ _ _
 refine wpAny_bind (wpAny_field hz rfl (x:=.bool false) rfl ?_)
 show wpAny _ _ (field (.ref z) 3 >>= _) _ _ _
 refine wpAny_bind (wpAny_field hz rfl (x:=.ref TI) rfl ?_)
 refine wpAny_bind (wpAny_seqItems hTI rfl ?_)
 show wpAny _ _ (Builtin.SmallTypes.ownedTupleIsFree (.ref z) >>= _) _ _ _
 refine wpAny_bind ?_
 unfold Builtin.SmallTypes.ownedTupleIsFree
 refine wpAny_bind (wpAny_field hz rfl (x:=.none) rfl (wpAny_pure ?_))
 simp only[if_true]
 refine wpAny_bind (wpAny_rule ?_)
 refine wpAny_bind (wpAny_field hz rfl (x:=.ref TO) rfl ?_)
 refine wpAny_bind (wpAny_setField_rec hz (by simp) fun h₁ hz₁ hs₁=>?_)
 replace hs₁:Heap.SameBut z hp h₁:= hs₁
 replace hz₁:IsZip h₁ z TI TO .ellipsis:=hz₁
 refine wpAny_bind ?_
 simp only[List.zipIdx_cons,List.zipIdx_nil,List.forIn_cons,List.forIn_nil]
 refine wpAny_bind (wpAny_bind (wpAny_onRaise ?_))
 show wpAny _ _ (Builtin.SmallTypes.nextOf (.ref i1) >>= _) _ _ _
 rcases hend with rfl|⟨hk1,rfl⟩
 ·refine wpAny_bind (D1.done _ _ _ (D1.frame _ _ _ h1 fun b hb o e=>hs₁.extBut b o (Qf hb).1 e) fun h₂ e hs₂ he=>?_)
  obtain⟨oe,hoe,hce⟩:=he
  replace hs₂:Heap.ExtBut i1 h₁ h₂:= hs₂
  have hz₂:IsZip h₂ z TI TO .ellipsis:=hs₂ _ _ D.i1z.symm hz₁
  have hez:e≠z:=fun x=>by subst x;rw[hz₂] at hoe;cases hoe;simp at hce
  exact wpAny_setField_rec hz₂ (by simp) fun h₃ _ hs₃=>hE h₃ e tk0 (fun c o c1 _ c3 _ x=>hs₃.extBut _ _ c1 (hs₂ _ _ c3 (hs₁.extBut _ _ c1 x))) ⟨oe,hs₃.extBut _ _ hez hoe,hce⟩
 ·refine wpAny_bind (D1.item k1 _ _ _ hk1 (D1.frame _ _ _ h1 fun b hb o e=>hs₁.extBut b o (Qf hb).1 e) fun x h₂ tk hPx h1₂ hs₂=>wpAny_pure ?_)
  replace hs₂:Heap.SameBut i1 h₁ h₂:= hs₂
  have hTO₂:IsPair h₂ TO a b:=hs₂.extBut _ _ D.TOi1 (hs₁.extBut _ _ D.TOz hTO)
  refine wpAny_bind (wpAny_seqItems hTO₂ rfl ?_)
  refine wpAny_bind (wpAny_updateSeq_pair hTO₂ fun h₃ hTO₃ hs₃=>?_)
  replace hs₃:Heap.SameBut TO h₂ h₃:= hs₃
  refine wpAny_bind (wpAny_letGo (wpAny_pure ?_))
  refine wpAny_bind (wpAny_bind (wpAny_onRaise ?_))
  show wpAny _ _ (Builtin.SmallTypes.nextOf (.ref i2) >>= _) _ _ _
  refine wpAny_bind (D2.done _ _ _ (D2.frame _ _ _ h2 fun b hb o e=>hs₃.extBut b o (Oh hb).2.1 (hs₂.extBut b o (Oh hb).2.2 (hs₁.extBut b o (Oh hb).1 e))) fun h₄ e hs₄ he=>?_)
  obtain⟨oe,hoe,hce⟩:=he
  replace hs₄:Heap.ExtBut i2 h₃ h₄:= hs₄
  have hz₄:IsZip h₄ z TI TO .ellipsis:=hs₄ _ _ D.i2z.symm (hs₃.extBut _ _ D.TOz.symm (hs₂.extBut _ _ D.i1z.symm hz₁))
  have hez:e≠z:=fun x=>by subst x;rw[hz₄] at hoe;cases hoe;simp at hce
  exact wpAny_setField_rec hz₄ (by simp) fun h₅ _ hs₅=>hE h₅ e tk (fun c o c1 c2 c3 c4 x=>hs₅.extBut _ _ c1 (hs₄ _ _ c4 (hs₃.extBut _ _ c2 (hs₂.extBut _ _ c3 (hs₁.extBut _ _ c1 x))))) ⟨oe,hs₅.extBut _ _ hez hoe,hce⟩
end
section
variable{prog:Program}{w:World}{A:Around}{E:Value→Shared→Prop}{s:Shared}
theorem jw{z TI TO i1 i2:Addr}{f1 f2:List Addr}{n1 n2 k1 k2:Nat}{P1 P2:Nat→Value→Prop}{S1 S2:Nat→Heap→Prop}{a b:Value}{Q:Option Value→Shared→Prop}(D:YZ z TI TO i1 i2 f1 f2)
 (D1:Draws prog w A.in1 i1 f1 n1 P1 S1)(D2:Draws prog w A.in1 i2 f2 n2 P2 S2)
 (hz:IsZip s.heap z TI TO .none)(hTI:IsPair s.heap TI (.ref i1) (.ref i2))(hTO:IsPair s.heap TO a b)(h1:S1 k1 s.heap)(h2:S2 k2 s.heap)(hk1:k1<n1)(hk2:k2<n2)
 (hQ:∀x y h' tk,P1 k1 x→P2 k2 y→IsZip h' z TI TO (rawInt s.heap.objs.size)→IsPair h' TO x y→S1 (k1+1) h'→S2 (k2+1) h'→IsPair h' s.heap.objs.size x y→h'.objs.size=s.heap.objs.size+1→
   (∀c o,c≠z→c≠TO→c≠i1→c≠i2→s.heap.get? c=some o→h'.get? c=some o)→Q (some (.ref s.heap.objs.size)) {s with heap:=h',toks:=tk}) :
 wpAny (model prog w) A (pyNext (.ref z)) Q E s:=by
 have hT:s.TypeIs (.ref z) "zip" := ⟨_,hz,rfl⟩
 unfold pyNext
 exact wpAny_bind (wpAny_attempt (wpAny_callSpecial?_slot (name:=Str.ofString "__next__") hT F.slot_zip_next
  (wpAny_call_entry F.slot_zip_next hT F.entry_zip_next
    (mQ D D1 D2 hz hTI hTO h1 h2 hk1 hk2 fun x y h' tk a0 b0 a1 a2 a3 a4 a5 a6 a7=>wpAny_pure (hQ x y h' tk a0 b0 a1 a2 a3 a4 a5 a6 a7)) (F.args_zip_next_1 _))))
theorem kJ{z TI TO i1 i2:Addr}{f1 f2:List Addr}{n1 n2 k1 k2:Nat}{P1 P2:Nat→Value→Prop}{S1 S2:Nat→Heap→Prop}{a b:Value}{Q:Option Value→Shared→Prop}(D:YZ z TI TO i1 i2 f1 f2)
 (D1:Draws prog w A.in1 i1 f1 n1 P1 S1)(D2:Draws prog w A.in1 i2 f2 n2 P2 S2)
 (hz:IsZip s.heap z TI TO .none)(hTI:IsPair s.heap TI (.ref i1) (.ref i2))(hTO:IsPair s.heap TO a b)(h1:S1 k1 s.heap)(h2:S2 k2 s.heap)(hend:k1=n1∨(k1<n1∧k2=n2))
 (hQ:∀h' tk,(∀c o,c≠z→c≠TO→c≠i1→c≠i2→s.heap.get? c=some o→h'.get? c=some o)→Q none {s with heap:=h',toks:=tk}):wpAny (model prog w) A (pyNext (.ref z)) Q E s:=by
 have hT:s.TypeIs (.ref z) "zip" := ⟨_,hz,rfl⟩
 unfold pyNext
 refine wpAny_bind (wpAny_attempt (wpAny_callSpecial?_slot (name:=Str.ofString "__next__") hT F.slot_zip_next
  (wpAny_call_entry F.slot_zip_next hT F.entry_zip_next (oM D D1 D2 hz hTI hTO h1 h2 hend fun h' e tk hk he=>?_) (F.args_zip_next_1 _))))
 obtain⟨o,ho,hc⟩:=he
 refine wpAny_bind (wpAny_isInstance (T:= "StopIteration") (b:=true) ⟨o,ho,hc⟩ isSubtype_stop ?_)
 exact wpAny_pure (hQ _ _ hk)
end
def oA(K:PySem.W.Frag)(b:Bool)(H:Hp)(a:Addr)(xs:List V):Prop:=if b=true then cF K H a xs else aB K H a xs
def dW(b:Bool)(h:Heap)(it l:Addr)(i:Nat):Prop:=if b=true then h.IsTupleIter it l i else h.IsListIter it l i
def BK(b:Bool)(h:Heap)(l:Addr)(its:Array Value):Prop:=if b=true then h.IsTuple l its else h.IsList l its
def Y_(b:Bool):String:=if b=true then "tuple_iterator" else "list_iterator"
theorem lB{prog:Program}{w:World}{A:Around}(b:Bool)(hh:A.handled=none)(it l:Addr)(hne:l≠it)(items:Array Value) :
 Draws prog w A it [it,l] items.size (fun i v=>items[i]?=some v) (fun i h=>dW b h it l i∧BK b h l items):=by
 cases b with
 |true=>exact uG hh it l hne items
 |false=>exact Draws.list hh it l hne items
theorem dW.ex{b:Bool}{h:Heap}{it l:Addr}{i:Nat}(x:dW b h it l i):∃o,h.get? it=some o∧o.cls=.type (Y_ b)∧o.data=.fields #[.ref l,.int i 0]:=by
 cases b with
 |true=>exact x
 |false=>exact x
theorem dW.of{b:Bool}{h:Heap}{it l:Addr}{i:Nat}{o:Obj}(h1:h.get? it=some o)(h2:o.cls=.type (Y_ b))(h3:o.data=.fields #[.ref l,.int i 0]):dW b h it l i:=by
 cases b with
 |true=>exact⟨o,h1,h2,h3⟩
 |false=>exact⟨o,h1,h2,h3⟩
theorem dW.keep{b:Bool}{h h':Heap}{it l:Addr}{i:Nat}(x:dW b h it l i)(k:∀o,h.get? it=some o→h'.get? it=some o):dW b h' it l i:=by
 obtain⟨o,h1,h2,h3⟩:=x.ex
 exact .of (k o h1) h2 h3
def Oi(K:PySem.W.Frag)(b:Bool)(H:Hp)(l:Addr)(i:Nat)(xs:List V):Prop:=xs.length≤i∧∀j,j<i→∃ys y,oA K b H l ys∧ys[j]?=some y
def Itz(K:PySem.W.Frag)(b1 b2:Bool)(l1 l2:Addr):It:=
 ⟨fun i H=>(∃xs x,oA K b1 H l1 xs∧xs[i]?=some x)∧∃ys y,oA K b2 H l2 ys∧ys[i]?=some y,
  fun i H z H'=>∃x y T,(∀xs,oA K b1 H l1 xs→xs[i]?=some x)∧(∀ys,oA K b2 H l2 ys→ys[i]?=some y)∧H T=none∧z=.ref T∧H'=upd H T (.tup [x,y]),
  fun i H=>(∃xs,oA K b1 H l1 xs)∧(∃ys,oA K b2 H l2 ys)∧((∃xs,oA K b1 H l1 xs∧Oi K b1 H l1 i xs)∨((∃xs x,oA K b1 H l1 xs∧xs[i]?=some x)∧∃ys,oA K b2 H l2 ys∧Oi K b2 H l2 i ys))⟩
section
variable{X:Cx}{pins:List (Addr×Obj)}{σ:L2.St}{H:Hp}{s:Shared}
theorem pO{b:Bool}{a:Addr}{xs:List V}(I:Inv X pins σ H s)(h:oA X.K b H a xs):∃its:List Value,Vals xs its∧BK b s.heap a its.toArray∧xs.length≤sizeLine:=by
 cases b with
 |true=>
  obtain⟨its,r,p,z⟩:=I.tuple h
  exact⟨its,r,p,z⟩
 |false=>
  obtain⟨its,r,p,z⟩:=I.list h
  exact⟨its,r,p.isList,z⟩
theorem pP{b:Bool}{a:Addr}{xs ys:List V}(I:Inv X pins σ H s)(h:oA X.K b H a xs)(h':oA X.K b H a ys):xs=ys:=by
 cases b with
 |true=>exact I.oU h h'
 |false=>exact I.tK h h'
theorem Qg{b:Bool}{l:Addr}{i:Nat}{xs:List V}(I:Inv X pins σ H s)(h:oA X.K b H l xs)(q:Oi X.K b H l i xs):xs.length=i:=by
 obtain⟨h1,h2⟩:=q
 refine Nat.le_antisymm h1 ?_
 cases i with
 |zero=>omega
 |succ i=>
  obtain⟨ys,y,e1,e2⟩:=h2 i (by omega)
  rw[pP I e1 h] at e2
  have:=(List.getElem?_eq_some_iff.mp e2).1
  omega
theorem Ac{bb:Bool}{a b:Addr}{xs:List V}(I:Inv X pins σ H s)(f:eG X pins H b)(h:oA X.K bb H a xs):a≠b:=by
 intro e
 subst e
 have hk:∀o,X.K.lookup a=some o→False:=fun o e=>by
  have hb:=I.ok.mod.kin a o e
  rcases f.2.2.2.1 with z|z
  ·exact I.ok.Aw a o hb z
  ·exact absurd (Nat.lt_of_lt_of_le (Heap.lt_size (I.ok.bs a o hb).1) z) (Nat.lt_irrefl _)
 have hr:∀u,Rd H a u→False:=fun u r=>by
  rcases r with r|⟨o,r⟩<;>(rw[f.1] at r;cases r)
 cases bb with
 |true=>
  have h':cF X.K H a xs:=h
  rcases h' with q|⟨o,_,_,q,_⟩
  ·exact hr _ q
  ·exact hk o q
 |false=>
  have h':aB X.K H a xs:=h
  rcases h' with q|⟨o,_,_,q,_⟩
  ·exact hr _ q
  ·exact hk o q
end
theorem Fw{P:Program}{w:World}{K:PySem.W.Frag}{elts:List Expr}{k:Nat}{pos:Pos}(b1 b2:Bool)(l1 l2 z TI TO i1 i2:Addr)(nd:[z,TI,TO,i1,i2].Nodup) :
 Turn P w K (.Tuple elts k pos) (Itz K b1 b2 l1 l2) [z,TI,TO,i1,i2] z (fun i h=>IsZip h z TI TO .none∧IsPair h TI (.ref i1) (.ref i2)∧(∃a b,IsPair h TO a b)∧dW b1 h i1 l1 i∧dW b2 h i2 l2 i) where
 mem:=by simp
 obj:=fun i h st b hb=>by
  obtain⟨hz,hTI,⟨x,y,hTO⟩,h1,h2⟩:=st
  simp only[List.mem_cons,List.not_mem_nil,or_false] at hb
  rcases hb with rfl|rfl|rfl|rfl|rfl
  ·exact⟨_,hz,fun v z=>by have z':Data.fields _=Data.cell v:=z;cases z'⟩
  ·exact⟨_,hTI,fun v z=>by have z':Data.seq _ _=Data.cell v:=z;cases z'⟩
  ·exact⟨_,hTO,fun v z=>by have z':Data.seq _ _=Data.cell v:=z;cases z'⟩
  ·obtain⟨o,e1,c,d⟩:=h1.ex
   exact⟨o,e1,fun v z=>by rw[d] at z;cases z⟩
  ·obtain⟨o,e1,c,d⟩:=h2.ex
   exact⟨o,e1,fun v z=>by rw[d] at z;cases z⟩
 keep:=fun i h h' st k=>by
  obtain⟨hz,hTI,⟨x,y,hTO⟩,h1,h2⟩:=st
  exact⟨k z (by simp) _ hz,k TI (by simp) _ hTI,⟨x,y,k TO (by simp) _ hTO⟩,h1.keep fun o q=>k i1 (by simp) o q,h2.keep fun o q=>k i2 (by simp) o q⟩
 item:=by
  intro X hP hw hK hc i pins s σ H E I hf st hg
  subst hP hw hK
  obtain⟨hz,hTI,⟨a,b,hTO⟩,h1,h2⟩:=st
  obtain⟨⟨xs,x,hq1,hx⟩,ys,y,hq2,hy⟩:=hg
  obtain⟨xr,rv1,p1,_⟩:=pO I hq1
  obtain⟨its2,rv2,p2,_⟩:=pO I hq2
  obtain⟨u1,hu1,ru1⟩:=rv1.get hx
  obtain⟨u2,hu2,ru2⟩:=rv2.get hy
  have ne1:∀b∈[z,TI,TO,i1,i2],l1≠b:=fun b hb=>Ac I (hf b hb) hq1
  have ne2:∀b∈[z,TI,TO,i1,i2],l2≠b:=fun b hb=>Ac I (hf b hb) hq2
  have hh:X.A.in1.handled=none:=I.ok.hd hc
  simp only[List.nodup_cons,List.mem_cons,List.not_mem_nil,or_false,not_or,List.nodup_nil,not_false_eq_true,and_true] at nd
  obtain⟨⟨n1,n2,n3,n4⟩,⟨n5,n6,n7⟩,⟨n8,n9⟩,n10⟩:=nd
  have D:YZ z TI TO i1 i2 [i1,l1] [i2,l2]:=by
   refine⟨Ne.symm n1,Ne.symm n2,Ne.symm n3,Ne.symm n4,n5,n6,n7,n8,n9,n10,?_,?_,?_,?_,?_,?_⟩<;>simp only[List.mem_cons,List.not_mem_nil,or_false,not_or]
   ·exact⟨n3,(ne1 z (by simp)).symm⟩
   ·exact⟨n4,(ne2 z (by simp)).symm⟩
   ·exact⟨n8,(ne1 TO (by simp)).symm⟩
   ·exact⟨n9,(ne2 TO (by simp)).symm⟩
   ·exact⟨n10,(ne2 i1 (by simp)).symm⟩
   ·exact⟨Ne.symm n10,(ne1 i2 (by simp)).symm⟩
  have lt1:i<xr.toArray.size:=by
   rw[List.size_toArray]
   exact(List.getElem?_eq_some_iff.mp hu1).1
  have Dy:i<its2.toArray.size:=by
   rw[List.size_toArray]
   exact(List.getElem?_eq_some_iff.mp hu2).1
  have hlt:∀b∈[z,TI,TO,i1,i2],b<s.heap.objs.size:=fun b hb=>by
   simp only[List.mem_cons,List.not_mem_nil,or_false] at hb
   rcases hb with rfl|rfl|rfl|rfl|rfl
   ·exact Heap.lt_size hz
   ·exact Heap.lt_size hTI
   ·exact Heap.lt_size hTO
   ·obtain⟨o,e1,_⟩:=h1.ex;exact Heap.lt_size e1
   ·obtain⟨o,e1,_⟩:=h2.ex;exact Heap.lt_size e1
  refine jw D (lB (A:=X.A.in1) b1 hh i1 l1 (ne1 i1 (by simp)) xr.toArray) (lB (A:=X.A.in1) b2 hh i2 l2 (ne2 i2 (by simp)) its2.toArray) hz hTI hTO ⟨h1,p1⟩ ⟨h2,p2⟩ lt1 Dy fun x' y' h' tk hPx hPy hz' Zid s1 s2 hT hsz hk=>?_
  have ex:x'=u1:=by
   have:xr.toArray[i]?=some x':=hPx
   rw[show xr.toArray[i]?=some u1 by simpa using hu1] at this
   exact(Option.some.inj this).symm
  have ey:y'=u2:=by
   have:its2.toArray[i]?=some y':=hPy
   rw[show its2.toArray[i]?=some u2 by simpa using hu2] at this
   exact(Option.some.inj this).symm
  subst ex ey
  refine⟨.ref s.heap.objs.size,rfl,wpAny_letOwnedTupleGo_zip hz' fun h'' hz'' hs'=>?_⟩
  have hs2:Heap.SameBut z h' h'':=hs'
  have I2:=xg (fp:=[z,TI,TO,i1,i2]) (h':=h'') (t':=tk) I ru1 ru2 ⟨_,(hs2.2 _ (Nat.ne_of_gt (hlt z (by simp)))).trans hT,rfl⟩ (fun b o hb q=>by
   have hne:∀c∈[z,TI,TO,i1,i2],b≠c:=fun c hc e=>hb (e▸hc)
   exact(hs2.2 b (hne z (by simp))).trans (hk b o (hne z (by simp)) (hne TO (by simp)) (hne i1 (by simp)) (hne i2 (by simp)) q)) hf hlt
  refine⟨.ref s.heap.objs.size,_,I2,rfl,⟨x,y,s.heap.objs.size,fun zs hzs=>by rw[pP I hzs hq1];exact hx,fun zs hzs=>by rw[pP I hzs hq2];exact hy,I.fresh,rfl,rfl⟩,
   ⟨hz'',(hs2.2 TI (Ne.symm n1)).trans (hk TI _ (Ne.symm n1) n5 n6 n7 hTI),⟨_,_,(hs2.2 TO (Ne.symm n2)).trans Zid⟩,s1.1.keep fun o q=>(hs2.2 i1 (Ne.symm n3)).trans q,s2.1.keep fun o q=>(hs2.2 i2 (Ne.symm n4)).trans q⟩,fun b hb=>?_⟩
  rw[Į (Nat.ne_of_lt (hlt b hb))];exact(hf b hb).1
 done:=by
  intro X hP hw hK hc i pins s σ H E I hf st hg
  subst hP hw hK
  obtain⟨hz,hTI,⟨a,b,hTO⟩,h1,h2⟩:=st
  obtain⟨⟨xs,hq1⟩,⟨ys,hq2⟩,hend'⟩:=hg
  have hend:xs.length=i∨(i<xs.length∧ys.length=i):=by
   rcases hend' with⟨xs',q1,q2⟩|⟨⟨xs',x,q1,q2⟩,ys',q3,q4⟩
   ·left;rw[pP I hq1 q1];exact Qg I q1 q2
   ·right
    rw[pP I hq1 q1,pP I hq2 q3]
    exact⟨(List.getElem?_eq_some_iff.mp q2).1,Qg I q3 q4⟩
  obtain⟨xr,rv1,p1,_⟩:=pO I hq1
  obtain⟨its2,rv2,p2,_⟩:=pO I hq2
  have hl1:=rv1.length
  have hl2:=rv2.length
  have ne1:∀b∈[z,TI,TO,i1,i2],l1≠b:=fun b hb=>Ac I (hf b hb) hq1
  have ne2:∀b∈[z,TI,TO,i1,i2],l2≠b:=fun b hb=>Ac I (hf b hb) hq2
  have hh:X.A.in1.handled=none:=I.ok.hd hc
  simp only[List.nodup_cons,List.mem_cons,List.not_mem_nil,or_false,not_or,List.nodup_nil,not_false_eq_true,and_true] at nd
  obtain⟨⟨n1,n2,n3,n4⟩,⟨n5,n6,n7⟩,⟨n8,n9⟩,n10⟩:=nd
  have D:YZ z TI TO i1 i2 [i1,l1] [i2,l2]:=by
   refine⟨Ne.symm n1,Ne.symm n2,Ne.symm n3,Ne.symm n4,n5,n6,n7,n8,n9,n10,?_,?_,?_,?_,?_,?_⟩<;>simp only[List.mem_cons,List.not_mem_nil,or_false,not_or]
   ·exact⟨n3,(ne1 z (by simp)).symm⟩
   ·exact⟨n4,(ne2 z (by simp)).symm⟩
   ·exact⟨n8,(ne1 TO (by simp)).symm⟩
   ·exact⟨n9,(ne2 TO (by simp)).symm⟩
   ·exact⟨n10,(ne2 i1 (by simp)).symm⟩
   ·exact⟨Ne.symm n10,(ne1 i2 (by simp)).symm⟩
  refine kJ D (lB (A:=X.A.in1) b1 hh i1 l1 (ne1 i1 (by simp)) xr.toArray) (lB (A:=X.A.in1) b2 hh i2 l2 (ne2 i2 (by simp)) its2.toArray) hz hTI hTO ⟨h1,p1⟩ ⟨h2,p2⟩ ?_ fun h' tk hk=>⟨rfl,turns (fp:=[z,TI,TO,i1,i2]) (t':=tk) I (fun b o hb q=>?_) hf⟩
  ·rw[List.size_toArray,List.size_toArray]
   omega
  ·have hne:∀c∈[z,TI,TO,i1,i2],b≠c:=fun c hc e=>hb (e▸hc)
   exact hk b o (hne z (by simp)) (hne TO (by simp)) (hne i1 (by simp)) (hne i2 (by simp)) q
 self:=fun _ _ _ _ _ st h=>wpAny_pyIter_zip st.1 h
section
abbrev zB1(b:Bool)(h:Heap)(l1:Addr):Heap:=h.push {cls:=.type (Y_ b),data:=.fields #[.ref l1,.int 0 0]}
abbrev zB2(b b':Bool)(h:Heap)(l1 l2:Addr):Heap:=(zB1 b h l1).push {cls:=.type (Y_ b'),data:=.fields #[.ref l2,.int 0 0]}
abbrev zB3(b b':Bool)(h:Heap)(l1 l2:Addr):Heap:=(zB2 b b' h l1 l2).push {cls:=.type "tuple",data:=.seq #[.ref h.objs.size,.ref (zB1 b h l1).objs.size]}
abbrev zB4(b b':Bool)(h:Heap)(l1 l2:Addr):Heap:=(zB3 b b' h l1 l2).push {cls:=.type "tuple",data:=.seq #[.none,.none]}
abbrev Ux(b b':Bool)(h:Heap)(l1 l2:Addr):Heap:=(zB4 b b' h l1 l2).push {cls:=.type "zip",data:=.fields #[.none,.bool false,.bool false,.ref (zB2 b b' h l1 l2).objs.size,.ref (zB3 b b' h l1 l2).objs.size]}
theorem uH{prog:Program}{w:World}{A:Around}{E:Value→Shared→Prop}{s:Shared}{b:Bool}{l:Addr}{its:Array Value}{Q:Value→Shared→Prop}(hl:BK b s.heap l its)
 (hQ:Q (.ref s.heap.objs.size) {s with heap:=s.heap.push {cls:=.type (Y_ b),data:=.fields #[.ref l,.int 0 0]}}):wpAny (model prog w) A (pyIter (.ref l)) Q E s:=by
 cases b with
 |true=>exact wpAny_pyIter_tuple hl hQ
 |false=>exact wpAny_pyIter_list hl hQ
theorem BK.push{b:Bool}{h:Heap}{l:Addr}{its:Array Value}(x:BK b h l its)(o:Obj):BK b (h.push o) l its:=by
 cases b with
 |true=>exact Heap.IsTuple.push x o
 |false=>exact Heap.IsList.push x o
theorem uI(b b':Bool)(l1 l2:Addr)(xs ys:Array Value) :
 Meets (Builtin.«zip.__new__» ⟨[.type "zip",.ref l1,.ref l2],[]⟩) (fun _ R s=>BK b s.heap l1 xs∧BK b' s.heap l2 ys∧
  R (.ok (.ret (.ref (zB4 b b' s.heap l1 l2).objs.size))) {s with heap:=Ux b b' s.heap l1 l2}):=
 .of_wp fun prog w A R s h=>by
   obtain⟨hp,g,d,tk,os⟩:=s;obtain⟨hl1,hl2,h⟩:=h
   have hsub:=sub_zip
   have hL1:BK b (Shared.heap ⟨hp,g,d,tk,os⟩) l1 xs:=hl1
   have hL2:BK b' (Shared.heap ⟨hp.push {cls:=.type (Y_ b),data:=.fields #[.ref l1,.int 0 0]},g,d,tk,os⟩) l2 ys:=BK.push hl2 _
   wp_walk using uH hL1,uH hL2
   exact⟨_,rfl,h⟩
variable{prog:Program}{w:World}{A:Around}{E:Value→Shared→Prop}{s:Shared}
theorem xu{b b':Bool}{l1 l2:Addr}{xs ys:Array Value}{Q:Value→Shared→Prop}(hl1:BK b s.heap l1 xs)(hl2:BK b' s.heap l2 ys)
 (h:∀h',IsZip h' (s.heap.objs.size+4) (s.heap.objs.size+2) (s.heap.objs.size+3) .none→IsPair h' (s.heap.objs.size+2) (.ref s.heap.objs.size) (.ref (s.heap.objs.size+1))→
   IsPair h' (s.heap.objs.size+3) .none .none→dW b h' s.heap.objs.size l1 0→dW b' h' (s.heap.objs.size+1) l2 0→h'.objs.size=s.heap.objs.size+5→
   (∀c o,s.heap.get? c=some o→h'.get? c=some o)→Q (.ref (s.heap.objs.size+4)) {s with heap:=h'}) :
 wpAny (model prog w) A (call (.type "zip") [.ref l1,.ref l2]) Q E s:=by
 refine callType_new F.called_zip (by decide) (F.typeCall_zip_2 _ _) (F.newCall_zip_2 _ _) (fun obj=>F.args_object_init_3 obj _ _) F.entry_zip_new
  (uI b b' l1 l2 xs ys) ⟨hl1,hl2,?_⟩
 have z1:(zB1 b s.heap l1).objs.size=s.heap.objs.size+1:=Heap.size_push ..
 have z2:(zB2 b b' s.heap l1 l2).objs.size=s.heap.objs.size+2:=by rw[Heap.size_push,z1]
 have z3:(zB3 b b' s.heap l1 l2).objs.size=s.heap.objs.size+3:=by rw[Heap.size_push,z2]
 have z4:(zB4 b b' s.heap l1 l2).objs.size=s.heap.objs.size+4:=by rw[Heap.size_push,z3]
 have z5:(Ux b b' s.heap l1 l2).objs.size=s.heap.objs.size+5:=by rw[Heap.size_push,z4]
 have g5:(Ux b b' s.heap l1 l2).get? (zB4 b b' s.heap l1 l2).objs.size=some _:=Heap.get?_push_size _ rfl
 have g4:(Ux b b' s.heap l1 l2).get? (zB3 b b' s.heap l1 l2).objs.size=some _:=Heap.get?_push_of_some _ (Heap.get?_push_size _ rfl)
 have g3:(Ux b b' s.heap l1 l2).get? (zB2 b b' s.heap l1 l2).objs.size=some _:=Heap.get?_push_of_some _ (Heap.get?_push_of_some _ (Heap.get?_push_size _ rfl))
 have g2:(Ux b b' s.heap l1 l2).get? (zB1 b s.heap l1).objs.size=some _:=Heap.get?_push_of_some _ (Heap.get?_push_of_some _ (Heap.get?_push_of_some _ (Heap.get?_push_size _ rfl)))
 have g1:(Ux b b' s.heap l1 l2).get? s.heap.objs.size=some _:=Heap.get?_push_of_some _ (Heap.get?_push_of_some _ (Heap.get?_push_of_some _ (Heap.get?_push_of_some _ (Heap.get?_push_size _ rfl))))
 show _∧_
 rw[z2,z3,z4] at g5
 rw[z1,z2] at g3
 rw[z3] at g4
 rw[z1] at g2
 rw[z4]
 exact⟨⟨_,g5,rfl⟩,h _ g5 g3 g4 (.of g1 rfl rfl) (.of g2 rfl rfl) z5 fun c o x=>
  Heap.get?_push_of_some _ (Heap.get?_push_of_some _ (Heap.get?_push_of_some _ (Heap.get?_push_of_some _ (Heap.get?_push_of_some _ x))))⟩
end
section
variable{X:Cx}{elts:List Expr}{k:Nat}{tp:Pos}
def Zie(K:PySem.W.Frag)(ta:TA):TI:=fun σ H R=>ta σ H fun vs H1=>∃b1 b2 l1 l2,vs=[.ref l1,.ref l2]∧(∃xs,oA K b1 H1 l1 xs)∧(∃xs,oA K b2 H1 l2 xs)∧R (Itz K b1 b2 l1 l2) H1
theorem Uy{e1 e2:Expr}{ta:TA}{p pos:Pos}(hg:Gl X "zip")(hm:X.mg "zip" =none)(ha:PA X [e1,e2] ta)(hs:starEach [e1,e2] X.env=[(false,eval e1 X.env),(false,eval e2 X.env)]:=by exact DN rfl rfl)(hs2:starEach [e2] X.env=[(false,eval e2 X.env)]:=by exact ć rfl) :
 PI X (.Tuple elts k tp) (.Call (.Name "zip" p) [e1,e2] [] pos) (Zie X.K ta):=by
 intro pins s σ H R I h
 refine Call_ (lH I hg hm boot_zip (PyProof.Rows.callWith_type1 (ű (ha pos pins s σ H _ I h) fun us s1 ⟨vs,H1,I1,r1,q1⟩=>?_) (by rw[hs,hs2]) (by rw[hs2];rfl)))
 obtain⟨b1,b2,l1,l2,e,⟨xs,hq1⟩,⟨ys,hq2⟩,q⟩:=q1
 subst e
 obtain⟨u1,u2,rfl,ru1,ru2⟩:=vals2 r1
 cases ru1
 cases ru2
 obtain⟨xr,rv1,p1,_⟩:=pO I1 hq1
 obtain⟨its2,rv2,p2,_⟩:=pO I1 hq2
 refine xu p1 p2 fun h' hz hTI hTO h1 h2 hsz hk=>?_
 have I2:Inv X pins σ H1 {s1 with heap:=h'}:=I1.kept (t':=s1.toks) hk
 refine wpAny_pyIter_zip (s:={s1 with heap:=h'}) hz ⟨s1.heap.objs.size+4,[s1.heap.objs.size+4,s1.heap.objs.size+2,s1.heap.objs.size+3,s1.heap.objs.size,s1.heap.objs.size+1],_,_,H1,rfl,I2,Fw b1 b2 l1 l2 _ _ _ _ _ (by simp),⟨hz,hTI,⟨_,_,hTO⟩,h1,h2⟩,fun b hb=>?_,q⟩
 have hb':s1.heap.objs.size≤b:=by
  simp only[List.mem_cons,List.not_mem_nil,or_false] at hb
  rcases hb with rfl|rfl|rfl|rfl|rfl<;>omega
 exact I1.CT hb' (I1.hok.fresh hb')
end
def iU:List PV→List PV→List PV
 |p::ps,q::qs=>.tup [p,q]::iU ps qs
 |_,_=>[]
theorem uJ:∀(ps qs:List PV) (i:Nat) (r:PV),(iU ps qs)[i]?=some r→∃p q,ps[i]?=some p∧qs[i]?=some q∧r=.tup [p,q]
 | [],_,_,_,h=>by simp[iU] at h
 |_::_,[],_,_,h=>by simp[iU] at h
 |p::ps,q::qs,0,r,h=>by
  have h':some (PV.tup [p,q])=some r:=h
  cases h'
  exact⟨p,q,rfl,rfl,rfl⟩
 |p::ps,q::qs,i+1,r,h=>uJ ps qs i r h
theorem uK:∀(ps qs:List PV),(iU ps qs).length=min ps.length qs.length
 | [],_=>by simp[iU]
 |_::_,[]=>by simp[iU]
 |_::ps,_::qs=>by
  show(iU ps qs).length+1=_
  rw[uK ps qs,List.length_cons,List.length_cons]
  omega
def BL(m1 m2:M (List PV)):M (List PV):=fun ρ=>(m1 ρ).bind fun ps ρ1=>(m2 ρ1).bind fun qs ρ2=>.ok (iU ps qs) ρ2
def Itb(K:PySem.W.Frag)(b:Bool)(a:Addr):It:=if b=true then Itt K a else YK K a
theorem mR{K:KK}{L F:Hp}{b:Bool}{a:Addr}{ps:List PV}(h:gw K L F (Itb K.K b a) ps){c:Ctx}{F2 H:Hp}{σ:L2.St}{ρ:Ő}(rel:Rel K c F2 H σ ρ)(sF:Same F F2)(sL:Same L H)(i:Nat)(p:PV)(hp:ps[i]?=some p) :
 (∃xs x,oA K.K b H a xs∧xs[i]?=some x)∧∀x,(∀xs,oA K.K b H a xs→xs[i]?=some x)→∃F3,Rel K c F3 H σ ρ∧Same F2 F3∧Rep K F3 p x:=by
 obtain⟨g,_⟩:=h c i F2 H σ ρ rel sF sL
 obtain⟨g1,g2⟩:=g p hp
 cases b with
 |true=>exact⟨g1,fun x hx=>let ⟨F3,r3,s3,_,rp⟩:=g2 x H ⟨rfl,hx⟩;⟨F3,r3,s3,rp⟩⟩
 |false=>exact⟨g1,fun x hx=>let ⟨F3,r3,s3,_,rp⟩:=g2 x H ⟨rfl,hx⟩;⟨F3,r3,s3,rp⟩⟩
theorem qZ{K:KK}{L F:Hp}{b:Bool}{a:Addr}{ps:List PV}(h:gw K L F (Itb K.K b a) ps){c:Ctx}{F2 H:Hp}{σ:L2.St}{ρ:Ő}(rel:Rel K c F2 H σ ρ)(sF:Same F F2)(sL:Same L H) :
 ∃xs,oA K.K b H a xs∧Oi K.K b H a ps.length xs:=by
 obtain⟨_,st⟩:=h c ps.length F2 H σ ρ rel sF sL
 have st':∃xs,oA K.K b H a xs∧xs.length≤ps.length:=by
  cases b with
  |true=>exact st rfl
  |false=>exact st rfl
 obtain⟨xs,h1,h2⟩:=st'
 exact⟨xs,h1,h2,fun j hj=>(mR h rel sF sL j _ (List.getElem?_eq_getElem hj)).1⟩
theorem Fx{K:KK}{L F:Hp}{b1 b2:Bool}{a1 a2:Addr}{ps qs:List PV}(h1:gw K L F (Itb K.K b1 a1) ps)(h2:gw K L F (Itb K.K b2 a2) qs):gw K L F (Itz K.K b1 b2 a1 a2) (iU ps qs):=by
 intro c i F2 H σ ρ rel sF sL
 refine⟨fun r hr=>?_,fun hi=>?_⟩
 ·obtain⟨p,q,hp,hq,rfl⟩:=uJ ps qs i r hr
  obtain⟨g1,y1⟩:=mR h1 rel sF sL i p hp
  refine⟨⟨g1,(mR h2 rel sF sL i q hq).1⟩,fun z H' ⟨x,y,T,e1,e2,hT,ez,eH⟩=>?_⟩
  subst ez eH
  obtain⟨F3,qO,s3,rp⟩:=y1 x e1
  obtain⟨F4,tZ,s4,rq⟩:=(mR h2 qO (sF.trans s3) sL i q hq).2 y e2
  obtain⟨r1,r2⟩:=Og tZ hT (Rep.same s4 p x rp) rq
  exact⟨_,r1,(s3.trans s4).trans (Same.upd (tZ.sub.free hT)),Same.upd hT,r2⟩
 ·rw[uK] at hi
  obtain⟨xs,x1,x2⟩:=qZ h1 rel sF sL
  obtain⟨ys,y1,y2⟩:=qZ h2 rel sF sL
  refine⟨⟨xs,x1⟩,⟨ys,y1⟩,?_⟩
  by_cases hl:ps.length≤qs.length
  ·left
   have e:i=ps.length:=by omega
   exact⟨xs,x1,e▸x2⟩
  ·right
   have e:i=qs.length:=by omega
   exact⟨(mR h1 rel sF sL i _ (List.getElem?_eq_getElem (by omega))).1,ys,y1,e▸y2⟩
theorem Zbg{K:KK}{c:Ctx}{σ:L2.St}{ρ:Ő}{F H:Hp}{ps:List PV}{v:V}(h:rSq K c σ ρ F H ps v):∃b a,v=.ref a∧(∃xs,oA K.K b H a xs)∧gw K c.L F (Itb K.K b a) ps:=by
 rcases h with⟨a,e1,e2,e3⟩|⟨a,e1,e2,e3⟩
 ·exact⟨false,a,e1,e2,e3⟩
 ·exact⟨true,a,e1,e2,e3⟩
section
variable{X:Cx}{cm:String→Addr}{E:L2.St→XK}{e e2:Expr}
theorem Zbh{elts:List Expr}{k:Nat}{tp p pos:Pos}{m1 m2:M (List PV)}(hg:Gl X "zip")(hm:X.mg "zip" =none)(h1:PE X e (tG (kk X cm) E (rSq (kk X cm)) m1))(h2:PE X e2 (tG (kk X cm) E (rSq (kk X cm)) m2))
 (hs:starEach [e,e2] X.env=[(false,eval e X.env),(false,eval e2 X.env)]:=by exact DN rfl rfl)(hs2:starEach [e2] X.env=[(false,eval e2 X.env)]:=by exact ć rfl) :
 PI X (.Tuple elts k tp) (.Call (.Name "zip" p) [e,e2] [] pos) (tI (kk X cm) E (BL m1 m2)):=fun pins s σ H R I h=>Uy hg hm (bh h1 (bh h2 gQ hs2) (by rw[hs,hs2])) hs hs2 pins s σ H R I (by
 obtain⟨c,F,ρ,rel,h⟩:=h
 refine⟨c,F,ρ,rel,aZ.bind h fun ps ρ1 v F1 H1 Ģ s1 s2 q h1=>⟨c,F1,ρ1,Ģ,aZ.bind h1 fun qs ρ2 u F2 H2 ń s3 s4 q2 h2=>?_⟩⟩
 obtain⟨b1,a1,e1,_,e3⟩:=Zbg q
 obtain⟨b2,a2,f1,f2,f3⟩:=Zbg q2
 subst e1 f1
 obtain⟨xs,x1,_⟩:=qZ (e3.mono s3) ń (Same.refl _) fun b u e=>(ń.lent b u e).1
 exact⟨b1,b2,a1,a2,rfl,⟨xs,x1⟩,f2,h2 _ F2 H2 ń (Same.refl _) (Same.refl _) (Fx (e3.mono s3) f3)⟩)
end
end P
namespace P
open PySem PySem.Spec PyProof.Rows L2 M2 M3 M4
def Zbi(K:PySem.W.Frag)(neg:Bool):R2:=fun x y H Q=>∃d es a xs,Rp K H d x∧y=.ref a∧(aB K H a xs∨cF K H a xs)∧jj K H es xs∧d.canLay0=true∧PyData.canLayAll0 es=true∧d.depth≤60∧Q (.bl (if neg then !(es.any fun e=>PyData.eqv e d) else es.any fun e=>PyData.eqv e d)) H
open Classical in
noncomputable def Le(h:Heap)(d:PyData)(y:Value):Bool:=if ∃e as,Reads h y e as∧e.canLay0=true∧PyData.eqv e d=true then true else false
theorem Fy{h:Heap}{d e:PyData}{y:Value}{as:List Addr}(r:Reads h y e as)(hc:e.canLay0=true):Le h d y=PyData.eqv e d:=by
 unfold Le
 cases q:PyData.eqv e d with
 |true=>rw[if_pos ⟨e,as,r,hc,q⟩]
 |false=>
  rw[if_neg]
  rintro ⟨e',as',r',hc',q'⟩
  have:=SeqAt.Reads.unique e e' y as as' hc r r'
  subst this
  rw[q] at q'
  cases q'
theorem q_{h:Heap}{d:PyData}:∀{us:List Value} {es:List PyData} {as:List Addr},ReadsAll h us es as→PyData.canLayAll0 es=true→us.any (Le h d)=es.any fun e=>PyData.eqv e d
 |_,_,_,.nil,_=>rfl
 |_,_,_,.cons r rs,hc=>by
  unfold PyData.canLayAll0 at hc
  rw[Bool.and_eq_true] at hc
  rw[List.any_cons,List.any_cons,Fy r hc.1,q_ rs hc.2]
theorem rm{A:Around}{s:Shared}{d:PyData}{v:Value}{bs:List Addr}(rv:Reads s.heap v d bs)(hd:d.canLay0=true)(hu:A.units+d.depth<cLine):∀{us:List Value} {es:List PyData} {as:List Addr},ReadsAll s.heap us es as→PyData.canLayAll0 es=true→∀u∈us,SeqAt.EqAt A s u v (Le s.heap d u)
 |_,_,_,.nil,_=>fun u hu=>by cases hu
 |_,_,_,.cons r rs,hc=>fun u hm=>by
  unfold PyData.canLayAll0 at hc
  rw[Bool.and_eq_true] at hc
  rcases List.mem_cons.mp hm with rfl|hm
  ·rw[Fy r hc.1]
   exact SeqAt.eqAt_reads _ _ A s _ _ _ _ r rv hc.1 hd (by omega)
  ·exact rm rv hd hu rs hc.2 u hm
section
variable{X:Cx}
theorem BP(hu:X.A.units+64<cLine):aY X (compareOp .NotIn) (Zbi X.K true):=by
 intro pins s σ H x y v u Q I rx ry h
 obtain⟨d,es,a,xs,h1,rfl,hq,h3,h4,h5,h6,q⟩:=h
 cases ry
 obtain⟨as,ra⟩:=Rp.reads I d x v h1 rx
 have hu1:X.A.in1.units+d.depth<cLine:=by
  have:X.A.in1.units=X.A.units+1:=rfl
  omega
 rcases hq with hq|hq
 ·obtain⟨its,r,pl,hz⟩:=I.list hq
  obtain⟨bs,rb⟩:=jj.reads I es xs its h3 r
  refine SeqAt.notIn_listAt (Le s.heap d) pl.isList (fun w hw=>rm ra h4 hu1 rb h5 w (by simpa using hw)) ⟨.bl _,H,I,rfl,?_⟩
  rw[show its.toArray.any (Le s.heap d)=its.any (Le s.heap d) by simp,q_ rb h5]
  exact q
 ·obtain⟨its,r,pl,hz⟩:=I.tuple hq
  obtain⟨bs,rb⟩:=jj.reads I es xs its h3 r
  refine SeqAt.notIn_tupleAt (Le s.heap d) pl (fun w hw=>rm ra h4 hu1 rb h5 w (by simpa using hw)) ⟨.bl _,H,I,rfl,?_⟩
  rw[show its.toArray.any (Le s.heap d)=its.any (Le s.heap d) by simp,q_ rb h5]
  exact q
end
def inD(neg:Bool)(p q:PV):Option PV:=match q with
 | .lst ps=>if bI p && cY ps && decide (dep p≤60) then some (.bl (if neg then !(ps.any fun y=>eqB y p) else ps.any fun y=>eqB y p)) else none
 | .tup ps=>if bI p && cY ps && decide (dep p≤60) then some (.bl (if neg then !(ps.any fun y=>eqB y p) else ps.any fun y=>eqB y p)) else none
 |_=>none
theorem rz{p:PV}(h:bI p=true):∀{ps:List PV},cY ps=true→(cZ ps).any (fun e=>PyData.eqv e (toD p))=ps.any fun y=>eqB y p
 | [],_=>rfl
 |y::ps,hp=>by
  unfold cY at hp
  rw[Bool.and_eq_true] at hp
  unfold cZ
  rw[List.any_cons,List.any_cons,qP y p hp.1 h,rz h hp.2]
theorem Uz{K:KK}{neg:Bool}:kE K (Zbi K.K neg) (inD neg):=by
 intro c F H σ ρ p q pv v u Q rel r1 r2 e k
 unfold inD at e
 split at e
 ·rename_i ps
  split at e
  ·rename_i hc
   rw[Bool.and_eq_true,Bool.and_eq_true,decide_eq_true_eq] at hc
   cases e
   obtain⟨a,xs,rfl,h1,h2⟩:=r2.lst rel.sub
   refine⟨toD p,cZ ps,a,xs,fW rel.sub hc.1.1 r1,rfl,.inl h1,jj.same rel.sub _ _ (fV ps xs hc.1.2 h2),dJ p hc.1.1,fB ps hc.1.2,by rw[dM];exact hc.2,?_⟩
   rw[rz hc.1.1 hc.1.2]
   exact k _ F H rel (Same.refl _) (Same.refl _) Rep.bl
  ·cases e
 ·rename_i ps
  split at e
  ·rename_i hc
   rw[Bool.and_eq_true,Bool.and_eq_true,decide_eq_true_eq] at hc
   cases e
   obtain⟨a,xs,rfl,h1,h2⟩:=r2.tup rel.sub
   refine⟨toD p,cZ ps,a,xs,fW rel.sub hc.1.1 r1,rfl,.inr h1,jj.same rel.sub _ _ (fV ps xs hc.1.2 h2),dJ p hc.1.1,fB ps hc.1.2,by rw[dM];exact hc.2,?_⟩
   rw[rz hc.1.1 hc.1.2]
   exact k _ F H rel (Same.refl _) (Same.refl _) Rep.bl
  ·cases e
 ·cases e
def BR{α:Type}(m:M α):M α:= fun ρ=>match m ρ with
 | .ok a ρ'=>.ok a ρ'
 |_=>.bad
@[simp] theorem Zif{α:Type}{m:M α}{ρ:Ő}:BR m ρ=(match m ρ with
  | .ok a ρ'=>.ok a ρ'
  |_=>.bad):=rfl
theorem Fz{X:Cx}{cm:String→Addr}{E:L2.St→XK}{tg l:Expr}{mi:M (List PV)}(h:PI X tg l (tI (kk X cm) EF mi)):PI X tg l (tI (kk X cm) E (BR mi)):=fun pins s σ H R I hh=>h pins s σ H R I (by
 obtain⟨c,F,ρ,rel,h'⟩:=hh
 refine⟨c,F,ρ,rel,?_⟩
 unfold BR at h'
 cases e:mi ρ with
 |ok a ρ'=>rw[e] at h';exact h'
 |exc x ρ'=>rw[e] at h';exact h'.elim
 |bad=>rw[e] at h';exact h')
end P
namespace P
open PySem PySem.Spec PyProof.Rows L2 M2 M3 M4
theorem lE{x:Int}{n:Nat}(h1: -(2 ^ n:Int)<x)(h2:x<2 ^ n):bits x≤n:=by
 refine intBits_le_iff.mpr ?_
 have e:((2 ^ n:Nat):Int)=(2:Int) ^ n:=by simp
 have:((x.natAbs:Nat):Int)<((2 ^ n:Nat):Int):=by rw[e];omega
 omega
theorem Zbj{x y:Int}(h:y≠0)(h1: -18446744073709551616<y)(h2:y<18446744073709551616):cX x y=true:=mj h (Nat.le_trans (lE (n:=64) (by omega) (by omega)) (by decide))
@[simp] theorem Zgq{x:Int}{n:Nat}(h:n≠0)(h2:n<18446744073709551616):cX x (no_index (OfNat.ofNat n):Int)=true:=by
  have e:(no_index (OfNat.ofNat n):Int)=(n:Int):=rfl
  rw[e]
  exact Zbj (by omega) (by omega) (by omega)
@[simp] theorem Zbk{x:Int}{n:Nat}(h:n<18446744073709551616):ň x (no_index (OfNat.ofNat n):Int)=true:=by
  have e:(no_index (OfNat.ofNat n):Int)=(n:Int):=rfl
  rw[e]
  exact mul_r (by omega) (by omega)
@[simp] theorem Zbl{x:Int}{n:Nat}(h:n<18446744073709551616):ň (no_index (OfNat.ofNat n):Int) x=true:=by
  have e:(no_index (OfNat.ofNat n):Int)=(n:Int):=rfl
  rw[e]
  exact Ź (by omega) (by omega)
@[simp] theorem Zgr{m n:Nat}(h:m<18446744073709551616)(h2:n≤1000000):uh (no_index (OfNat.ofNat m):Int) (no_index (OfNat.ofNat n):Int)=true:=by
  have e:(no_index (OfNat.ofNat m):Int)=(m:Int):=rfl
  have e2:(no_index (OfNat.ofNat n):Int)=(n:Int):=rfl
  rw[e,e2]
  unfold uh
  simp
  omega
@[simp] theorem Zbm{x:Int}{n:Nat}:x.fdiv (no_index (OfNat.ofNat n):Int)=x / (no_index (OfNat.ofNat n):Int):=Int.fdiv_eq_ediv_of_nonneg x (Int.natCast_nonneg n)
@[simp] theorem Zbn{x:Int}{n:Nat}:x.fmod (no_index (OfNat.ofNat n):Int)=x % (no_index (OfNat.ofNat n):Int):=Int.fmod_eq_emod_of_nonneg x (Int.natCast_nonneg n)
end P
namespace P
open PySem PySem.Spec PyProof.Rows L2 M2 M3 M4
theorem add_l{xs ys:List PV}(h:xs.length+ys.length≤16777216):ĵ (.lst xs) (.lst ys)=some (.ow (xs++ys)):=by
 unfold ĵ
 simp[h]
theorem FJ{x y z w:Int}:eqB (.tup [.int x,.int y]) (.tup [.int z,.int w])=(decide (x=z) && decide (y=w)):=by
 rw[eqB.eq_def]
 show gA [.int x,.int y] [.int z,.int w]=_
 rw[gA.eq_def]
 show(eqB (.int x) (.int z) && gA [.int y] [.int w])=_
 rw[gA.eq_def]
 show(eqB (.int x) (.int z) && (eqB (.int y) (.int w) && gA [] []))=_
 have h1:eqB (.int x) (.int z)=decide (x=z):=by rw[eqB.eq_def];rfl
 have h2:eqB (.int y) (.int w)=decide (y=w):=by rw[eqB.eq_def];rfl
 have h3:gA [] []=true:=by rw[gA.eq_def]
 rw[h1,h2,h3,Bool.and_true]
theorem UG{x y z w:Int}:qR (.tup [.int x,.int y]) (.tup [.int z,.int w])=true:=by
 simp[qR,bI,cY,dep,uo]
theorem Ad{x y z w:Int}:Ū (.tup [.int x,.int y]) (.tup [.int z,.int w])=some (.bl (decide (x=z) && decide (y=w))):=by
 unfold Ū
 rw[if_pos UG,FJ]
theorem ņ{a b:Str}(ha:PyData.strOk a=true)(hb:PyData.strOk b=true):Ū (.str a) (.str b)=some (.bl (decide (a=b))):=by
 have h:eqB (.str a) (.str b)=decide (a=b):=by unfold eqB;rfl
 unfold Ū qR
 rw[show bI (.str a)=true by unfold bI;exact ha,show bI (.str b)=true by unfold bI;exact hb,h]
 rfl
end P
namespace P
open PySem PySem.Spec PyProof.Rows L2 M2 M3 M4
section
variable{g:Tg}{mb:M Fl}{mt:M Bool}{me:M PV}
theorem pQ{α β:Type}(c:α→PV)(step:β→α→β)(J:β→Ő→Prop):∀(xs:List α),(∀x∈xs,∀b ρ,J b ρ→∃ρ1 ρ2,g (c x) ρ=some ρ1∧mb ρ1=.ok .nx ρ2∧J (step b x) ρ2)→∀b ρ,J b ρ→∃ρ',forL g mb (xs.map c) ρ=.ok .nx ρ'∧J (xs.foldl step b) ρ'
 | [],_,b,ρ,h=>⟨ρ,rfl,h⟩
 |x::xs,hs,b,ρ,h=>by
  obtain⟨ρ1,ρ2,h1,h2,h3⟩:=hs x (by simp) b ρ h
  obtain⟨ρ',e,h4⟩:=pQ c step J xs (fun y hy=>hs y (List.mem_cons_of_mem _ hy)) (step b x) ρ2 h3
  refine⟨ρ',?_,h4⟩
  rw[List.map_cons,forL,h1]
  dsimp only
  rw[h2]
  exact e
theorem gj{α γ:Type}(c:α→PV)(t:α→Option γ)(v:γ→RV)(J:Ő→Prop):∀(xs:List α),(∀x∈xs,∀ρ,J ρ→∃ρ1,g (c x) ρ=some ρ1∧((∃r ρ2,t x=some r∧mb ρ1=.ok (.rt (v r)) ρ2)∨(∃ρ2,t x=none∧mb ρ1=.ok .nx ρ2∧J ρ2)))→∀ρ,J ρ→
 (∃r ρ',xs.findSome? t=some r∧forL g mb (xs.map c) ρ=.ok (.rt (v r)) ρ')∨(∃ρ',xs.findSome? t=none∧forL g mb (xs.map c) ρ=.ok .nx ρ'∧J ρ')
 | [],_,ρ,h=>.inr ⟨ρ,rfl,rfl,h⟩
 |x::xs,hs,ρ,h=>by
  obtain⟨ρ1,h1,h2⟩:=hs x (by simp) ρ h
  rcases h2 with⟨r,ρ2,e1,e2⟩|⟨ρ2,e1,e2,e3⟩
  ·refine .inl ⟨r,ρ2,by rw[List.findSome?_cons,e1],?_⟩
   rw[List.map_cons,forL,h1]
   dsimp only
   rw[e2]
   rfl
  ·have hf:List.findSome? t (x::xs)=List.findSome? t xs:=by rw[List.findSome?_cons,e1]
   have hl:forL g mb ((x::xs).map c) ρ=forL g mb (xs.map c) ρ2:=by
    rw[List.map_cons,forL,h1]
    dsimp only
    rw[e2]
    rfl
   rw[hf,hl]
   exact gj c t v J xs (fun y hy=>hs y (List.mem_cons_of_mem _ hy)) ρ2 e3
end
end P
namespace P
open PySem PySem.Spec PyProof.Rows L2 M2 M3 M4
def Zig(K:PySem.W.Frag)(n:Nat)(t:CJ):TG:=fun v σ H Q=>∃a xs,v=.ref a∧aB K H a xs∧xs.length=n∧t xs σ H Q
section
variable{X:Cx}{cm:String→Addr}{pos:Pos}
theorem UJ{es:List Expr}{k:Nat}{t:CJ}{n:Nat}(hc:X.calm=true)(h:wg X es t)
 (hn:(assignEach es X.env).length=n:=by rfl)(hst:(assignEach es X.env).findIdx? (·.1)=none:=by rfl):PG X (.Tuple es k pos) (Zig X.K n t):=by
 intro pins s σ H v u Q I r hw
 obtain⟨a,xs,e1,hq,hl,hw⟩:=hw
 subst e1
 cases r
 obtain⟨its,rv,ht,hz⟩:=I.list hq
 rw[assign_Tuple]
 refine wpAny_bind (wpAny_standAt ?_)
 unfold unpack
 rw[show(assignEach es X.env).length=its.toArray.size by simp[hn,←hl,rv.length],hst]
 refine wpAny_bind (wpAny_holding (PySem.W.kun_itemsOf (I.ok.hd hc) ht.isList fun h' hx=>?_))
 have I1:Inv X pins σ H {s with heap:=h'}:=I.kept (t':=s.toks) fun b o e=>hx b o (Nat.ne_of_lt (Heap.lt_size e)) e
 exact h pins _ σ H xs _ Q I1 (by simpa using rv) hw
def gS(n:Nat)(gs:Cp):Tg:=fun p ρ=>match p with
 | .tup ps=>if ps.length=n then gs ps ρ else none
 | .lst ps=>if ps.length=n then gs ps ρ else none
 |_=>none
@[simp] theorem Zih{n:Nat}{gs:Cp}{ps:List PV}{ρ:Ő}:gS n gs (.tup ps) ρ=if ps.length=n then gs ps ρ else none:=rfl
@[simp] theorem Zii{n:Nat}{gs:Cp}{ps:List PV}{ρ:Ő}:gS n gs (.lst ps) ρ=if ps.length=n then gs ps ρ else none:=rfl
theorem cD{es:List Expr}{k:Nat}{gs:Cp}{n:Nat}(hc:X.calm=true)(h:wg X es (tTs (kk X cm) gs))(hn:(assignEach es X.env).length=n:=by rfl)(hst:(assignEach es X.env).findIdx? (·.1)=none:=by rfl):PG X (.Tuple es k pos) (tT (kk X cm) (gS n gs)):=by
 intro pins s σ H v u Q I r hw
 obtain⟨c,F,ρ,p,rel,rp,hw⟩:=hw
 cases p with
 |tup ps=>
  unfold Rep at rp
  obtain⟨a,xs,h1,h2,h3⟩:=rp
  unfold gS at hw
  dsimp only at hw
  split at hw
  ·rename_i hl
   exact CN hc h hn hst pins s σ H v u Q I r ⟨a,xs,h1,Same.tup rel.sub h2,by rw[←h3.length];exact hl,c,F,ρ,ps,rel,h3,hw⟩
  ·exact hw.elim
 |lst ps=>
  unfold Rep at rp
  obtain⟨a,xs,h1,h2,h3⟩:=rp
  unfold gS at hw
  dsimp only at hw
  split at hw
  ·rename_i hl
   exact UJ hc h hn hst pins s σ H v u Q I r ⟨a,xs,h1,rel.sub.seq h2,by rw[←h3.length];exact hl,c,F,ρ,ps,rel,h3,hw⟩
  ·exact hw.elim
 |_=>exact hw.elim
end
end P
namespace P
open PySem PySem.Spec PyProof.Rows L2 M2 M3 M4
section
variable{X:Cx}{cm:String→Addr}{E:L2.St→XK}{a:Expr}{p p1 pos pos1:Pos}{mr:M (List PV)}
end
end P
namespace P
open PySem PySem.Spec PyProof.Rows L2 M2 M3 M4
theorem Rel.keep{K:KK}{c:Ctx}{F H H':Hp}{σ:L2.St}{ρ:Ő}(r:Rel K c F H σ ρ)(e:Same H H'):Rel K c F H' σ ρ:= r.call ⟨e,Same.refl F,r.sub.trans e,fun _ _ h=>h⟩
theorem Rel.UL{K:KK}{c:Ctx}{F H:Hp}{σ:L2.St}{ρ:Ő}(r:Rel K c F H σ ρ){i:Nat}{ps qs:List PV}(e:ρ[i]?=some (.ot ps qs)):∃F',Same F F'∧Rel K c F' H σ (ρ.set i (.sh (.tup (ps ++ [.lst qs])))):=by
 obtain⟨p,a,xs,vs,h1,h2,h3,h4,h5,h6,h7⟩:=r.slot i _ e
 obtain⟨m1,m2⟩:=r.move (a:=a) ⟨_,_,e,at_of h1,p,xs,rfl,h2⟩
 have ra:Rep K (upd F a (.lst vs)) (.lst qs) (.ref a):=by
  unfold Rep
  exact⟨a,vs,rfl,aB.of Ĳ,h7.same (Same.upd h5) qs vs⟩
 have rp:Rep K (upd F a (.lst vs)) (.tup (ps ++ [.lst qs])) (.ref p):=by
  unfold Rep
  exact⟨p,_,rfl,cF.of (Same.upd h5 _ _ h2),ġ.append (h3.same (Same.upd h5) ps xs) (ġ.cons ra ġ.nil)⟩
 have q:=(m1.freeze h4 h6 h5 m2).DX (i:=i) (s:=.sh (.tup (ps ++ [.lst qs]))) rfl (show aC K c _ H _ (.sh (.tup (ps ++ [.lst qs]))) from⟨.ref p,by rw[at_of h1];rfl,rp⟩)
 rw[List.set_set] at q
 exact⟨_,Same.upd h5,q⟩
def pR(i:Nat)(m:M Bool):M Bool:=fun ρ=>match ρ[i]? with
 |some (.ot ps qs)=>match m (ρ.set i (.sh (.tup (ps ++ [.lst qs])))) with
  | .ok b _=>.ok b ρ
  |_=>.bad
 |_=>m ρ
section
variable{X:Cx}{cm:String→Addr}{E:L2.St→XK}{e o:Expr}{es:List Expr}{pos:Pos}{m:M Bool}{mo:M RV}{ma:M PV}
theorem xG(i:Nat)(h:PT X e (tB (kk X cm) E m)):PT X e (tB (kk X cm) E (pR i m)):=PT.wk h fun σ H Q ⟨c,F,ρ,rel,h⟩=>by
 unfold pR at h
 cases e1:ρ[i]? with
 |none=>rw[e1] at h;exact⟨c,F,ρ,rel,h⟩
 |some s=>
  rw[e1] at h
  cases s with
  |ot ps qs=>
   obtain⟨F',sF,aK⟩:=rel.UL e1
   refine⟨c,F',_,aK,?_⟩
   dsimp only at h
   cases em:m (ρ.set i (.sh (.tup (ps ++ [.lst qs])))) with
   |ok b ρ1=>rw[em] at h;exact fun v F2 H2 r1 s1 s2 q=>h v F H2 (rel.keep s2) (Same.refl _) s2 q
   |exc x ρ1=>rw[em] at h;exact h.elim
   |bad=>rw[em] at h;exact h.elim
  |_=>exact⟨c,F,ρ,rel,h⟩
def rLO(K:KK):RR (List PV×RV) (List V):=fun c σ ρ F H r vs=>∃xs v,vs=xs ++ [v]∧ġ K F r.1 xs∧rO K c σ ρ F H r.2 v
def FP(mo:M RV):M (List PV×RV):=fun ρ=>(mo ρ).bind fun r ρ1=>.ok ([],r) ρ1
def xH(ma:M PV)(mr:M (List PV×RV)):M (List PV×RV):=fun ρ=>(ma ρ).bind fun p ρ1=>(mr ρ1).bind fun r ρ2=>.ok (p::r.1,r.2) ρ2
theorem UW(he:PE X e (tO (kk X cm) E mo))(hs:starEach [e] X.env=(false,eval e X.env)::starEach [] X.env:=by exact ć rfl):PA X [e] (tG (kk X cm) E (rLO (kk X cm)) (FP mo)):=
 PA.wk (bh he gQ hs) fun σ H Q ⟨c,F,ρ,rel,h⟩=>⟨c,F,ρ,rel,h.bind fun r ρ1 v F1 H1 Ģ _ _ r1 h1=>h1 _ F1 H1 Ģ (Same.refl _) (Same.refl _) ⟨[],v,rfl,ġ.nil,r1⟩⟩
theorem Oj{mr:M (List PV×RV)}(ha:PE X e (tV (kk X cm) E ma))(hr:PA X es (tG (kk X cm) E (rLO (kk X cm)) mr))(hs:starEach (e::es) X.env=(false,eval e X.env)::starEach es X.env:=by exact ć rfl):PA X (e::es) (tG (kk X cm) E (rLO (kk X cm)) (xH ma mr)):=
 PA.wk (bh ha hr hs) fun σ H Q ⟨c,F,ρ,rel,h⟩=>⟨c,F,ρ,rel,h.bind fun p ρ1 v F1 H1 Ģ _ _ r1 h1=>⟨c,F1,ρ1,Ģ,h1.bind fun r ρ2 vs F2 H2 ń sF sH ⟨xs,u,e1,e2,e3⟩ h2=>h2 _ F2 H2 ń (Same.refl _) (Same.refl _) ⟨v::xs,u,by rw[e1];rfl,ġ.cons (Rep.same sF p v r1) e2,e3⟩⟩⟩
def FQ(mr:M (List PV×RV)):M RV:=fun ρ=>(mr ρ).bind fun r ρ1=>if r.1.length<16777216 then(match r.2 with
 | .ow qs=>.ok (.ot r.1 qs) ρ1
 | .sh p=>.ok (.sh (.tup (r.1 ++ [p]))) ρ1
 |_=>.bad) else .bad
theorem U_{x1}{mr:M (List PV×RV)}(h:PA X es (tG (kk X cm) E (rLO (kk X cm)) mr)):PE X (.Tuple es x1 pos) (tO (kk X cm) E (FQ mr)):=PE.wk (Df h) fun σ H Q ⟨c,F,ρ,rel,h⟩=>
 ⟨c,F,ρ,rel,h.bind fun r ρ1 vs F1 H1 Ģ _ _ ⟨xs,v,e1,e2,e3⟩ h1=>by
   subst e1
   split at h1
   ·rename_i hz
    refine⟨by rw[List.length_append,←e2.length,Ŋ];simp only[List.length_cons,List.length_nil];omega,fun p hp=>?_⟩
    have ń:=Ģ.alloc (o:=.tup (xs ++ [v])) hp
    have sF:Same F1 (upd F1 p (.tup (xs ++ [v]))):=Same.upd (Ģ.sub.free hp)
    obtain⟨ps,rv⟩:=r
    cases rv with
    |sh q=>
     refine h1 _ _ _ ń sF (Same.upd hp) ?_
     show Rep _ _ _ _
     unfold Rep
     exact⟨p,_,rfl,cF.of Ĳ,ġ.append (e2.same sF ps xs) (ġ.cons (Rep.same sF q v e3) ġ.nil)⟩
    |ow qs=>
     obtain⟨a,vs,rfl,q1,q2,q3,q4,q5⟩:=e3
     have na:a≠p:=fun z=>by rw[z,hp] at q1;cases q1
     exact h1 _ _ _ ń sF (Same.upd hp) ⟨p,a,xs,vs,rfl,Ĳ,e2.same sF ps xs,by rw[Į na];exact q1,by rw[Į na];exact q2,q3,Ģ.lO sF q4,q5.same sF qs vs⟩
    |ot _ _=>exact h1.elim
   ·exact h1.elim⟩
def Ae(i j:Nat)(m:M PV):M Fl:=fun ρ=>match ρ[i]? with
 |some (.ot ps _)=>if ps.length=j then(m ρ).bind fun p ρ1=>match ρ1[i]? with
  |some (.ot ps' qs)=>if ps'.length=j∧qs.length<16777216 then .ok .nx (ρ1.set i (.ot ps' (qs ++ [p]))) else .bad
  |_=>.bad
  else .bad
 |_=>.bad
theorem FT{xs:List V}{v:V}{j:Nat}(h:xs.length=j):jc (xs ++ [v]) (j:Int)=some v:=by
 subst h
 have h1:((xs.length:Nat):Int)<((xs ++ [v]).length:Int):=by simp;omega
 unfold jc wJ
 rw[if_pos (by omega),if_pos h1]
 simp
theorem FW{i j:Nat}{D:Ends}{σ:L2.St}{H:Hp}(h:tS (kk X cm) E (Ae i j ma) D σ H):yX (tBM X.K "list" qL (Sd (rIx X.K) (tH i) (tC (.int j))) (tL (kk X cm) E (ą ma ĝ))) D σ H:=by
 obtain⟨c,F,ρ,rel,h⟩:=h
 unfold Ae at h
 cases e1:ρ[i]? with
 |none=>rw[e1] at h;exact h.elim
 |some sl=>
  rw[e1] at h
  cases sl with
  |ot ps0 qs0=>
   obtain⟨p,a,xs,vs0,z1,z2,z3,z4,z5,z6,z7⟩:=rel.slot i _ e1
   dsimp only at h
   split at h
   ·rename_i hj
    refine⟨.ref p,at_of z1,.inr (.inl ⟨p,xs ++ [.ref a],(j:Int),.ref a,rfl,rfl,cF.of (rel.sub _ _ z2),FT (by rw[←z3.length];exact hj),.inl ⟨rfl,_,aB.of z4⟩,c,F,ρ,rel,?_⟩)⟩
    unfold ą
    cases em:ma ρ with
    |bad=>rw[em] at h;exact h
    |exc x ρ1=>rw[em] at h;exact fun C d F' H' aK s1 q=>h σ C d F' H' aK s1 q
    |ok p1 ρ1=>
     rw[em] at h
     intro us F1 H1 Ģ s1 s2 r1
     have r1':ġ (kk X cm) F1 [p1] us:=r1
     cases r1'.pr with
     |cons rp t=>
      rename_i v vs'
      cases t
      cases e2:ρ1[i]? with
      |none=>simp only[Res.ż,e2] at h;exact h.elim
      |some sl2=>
       simp only[Res.ż,e2] at h
       cases sl2 with
       |ot ps qs=>
        obtain⟨p2,a2,xs2,vs,w1,w2,w3,w4,w5,w6,w7⟩:=Ģ.slot i _ e2
        have own:ř F1 σ ρ1 i a2:=⟨_,_,e2,at_of w1,p2,xs2,rfl,w2⟩
        have e3:=at_of z1
        rw[at_of w1] at e3
        have e3':p2=p:=by injection e3 with e3;injection e3 with e3;injection e3
        subst e3'
        have e4:a2=a:=lN (s:=.ot ps qs) (x:=.ref p2) ⟨p2,xs2,rfl,w2⟩ ⟨p2,xs,rfl,s1 _ _ z2⟩
        subst e4
        dsimp only at h
        split at h
        ·rename_i hz
         refine⟨a2,vs,v,rfl,rfl,w4,by rw[←w7.length,Ŋ];exact hz.2,h σ F1 _ (Ģ.DY own ⟨p2,a2,xs2,vs ++ [v],w1,w2,w3,Ĳ,w5,w6,ġ.append w7 (ġ.cons rp ġ.nil)⟩ fun x b ex q=>?_) s1⟩
         rw[at_of w1] at ex
         cases ex
         exact lN q ⟨p2,xs2,rfl,w2⟩
        ·exact h.elim
       |_=>exact h.elim
   ·exact h.elim
  |_=>exact h.elim
@[simp] theorem Va{ps qs:List PV}:(RV.ot ps qs).val=.tup (ps ++ [.lst qs]):=rfl
@[simp] theorem Zij{ps qs:List PV}:(RV.ot ps qs).slot=.ot ps qs:=rfl
@[simp] theorem Zgs{i:Nat}{ρ:Ő}:pR i m ρ=(match ρ[i]? with
  |some (.ot ps qs)=>match m (ρ.set i (.sh (.tup (ps ++ [.lst qs])))) with
   | .ok b _=>.ok b ρ
   |_=>.bad
  |_=>m ρ):=rfl
@[simp] theorem Zgt{ρ:Ő}:FP mo ρ=(mo ρ).bind fun r ρ1=>.ok ([],r) ρ1:=rfl
@[simp] theorem Zbo{mr:M (List PV×RV)}{ρ:Ő}:xH ma mr ρ=(ma ρ).bind fun p ρ1=>(mr ρ1).bind fun r ρ2=>.ok (p::r.1,r.2) ρ2:=rfl
@[simp] theorem Zbp{mr:M (List PV×RV)}{ρ:Ő}:FQ mr ρ=(mr ρ).bind fun r ρ1=>if r.1.length<16777216 then(match r.2 with
  | .ow qs=>.ok (.ot r.1 qs) ρ1
  | .sh p=>.ok (.sh (.tup (r.1 ++ [p]))) ρ1
  |_=>.bad) else .bad:=rfl
@[simp] theorem Zgu{i j:Nat}{ρ:Ő}:Ae i j ma ρ=(match ρ[i]? with
  |some (.ot ps _)=>if ps.length=j then(ma ρ).bind fun p ρ1=>match ρ1[i]? with
   |some (.ot ps' qs)=>if ps'.length=j∧qs.length<16777216 then .ok .nx (ρ1.set i (.ot ps' (qs ++ [p]))) else .bad
   |_=>.bad
   else .bad
  |_=>.bad):=rfl
end
end P
namespace P
open PySem PySem.Spec PyProof.Rows L2 M2 M3 M4
section
variable{X:Cx}{K:KK}
end
end P
namespace My
def gd(a b:Int):Int:=((Int.gcd a b:Nat):Int)
theorem Z0G(a b:Int):gd b (Int.fmod a b)=gd a b:=by
 unfold gd
 rw[Int.fmod_def,Int.gcd_sub_mul_left_right,Int.gcd_comm]
theorem Z0H(a:Int){b:Int}(h:b≠0):(Int.fmod a b).natAbs<b.natAbs:=by
 rcases(by omega:0<b∨b<0) with h|h
 ·have h1:=Int.fmod_nonneg_of_pos a h
  have h2:=Int.fmod_lt_of_pos a h
  omega
 ·have e:=Int.neg_fmod_neg a b
  have h1:=Int.fmod_nonneg_of_pos (-a) (show 0 < -b by omega)
  have h2:=Int.fmod_lt_of_pos (-a) (show 0 < -b by omega)
  omega
theorem Z0I(a:Int):gd a 0=if a<0 then -a else a:=by
 unfold gd
 rw[Int.gcd_zero]
 split<;>omega
theorem Z0j(a:Int){b:Int}(h:b≠0):0<gd a b:=by
 have:=Int.gcd_ne_zero_right (a:=a) h
 unfold gd
 omega
theorem Z10(a b:Int):0≤gd a b:=by
 unfold gd
 omega
theorem Z2q(a:Int){b:Int}(h:b≠0):gd a b≤b.natAbs:=by
 unfold gd
 have:=Int.gcd_dvd_natAbs_right a b
 have:=Nat.le_of_dvd (by omega) this
 omega
def dv(t b:Int):Int:=if b<0 then-gd t b else gd t b
theorem Z2r(t:Int){b:Int}(h:b≠0):dv t b≠0:=by
 have:=Z0j t h
 unfold dv
 split<;>omega
theorem Z2e(t b:Int):dv t b ∣ t∧dv t b ∣ b:=by
 have h1:=Int.gcd_dvd_left t b
 have h2:=Int.gcd_dvd_right t b
 unfold dv gd
 split
 ·exact⟨Int.neg_dvd.mpr h1,Int.neg_dvd.mpr h2⟩
 ·exact⟨h1,h2⟩
theorem Z22{t b g:Int}(h1:g ∣ t)(h2:g ∣ b)(hg:g.natAbs=Int.gcd t b)(hb:b≠0):Int.gcd (t / g) (b / g)=1:=by
 have hp:0<Int.gcd t b:=Nat.pos_of_ne_zero (Int.gcd_ne_zero_right hb)
 rcases Int.natAbs_eq g with e|e
 ·rw[hg] at e
  rw[e]
  exact Int.gcd_ediv_gcd_ediv_gcd hp
 ·rw[hg] at e
  rw[e,Int.ediv_neg,Int.ediv_neg,Int.neg_gcd,Int.gcd_neg]
  exact Int.gcd_ediv_gcd_ediv_gcd hp
theorem Z1y(t:Int){b:Int}(h:b≠0) :
 1≤b.fdiv (dv t b)∧gd (t.fdiv (dv t b)) (b.fdiv (dv t b))=1∧t.fdiv (dv t b)*b=t*b.fdiv (dv t b):=by
 obtain⟨h1,h2⟩:=Z2e t b
 rw[Int.fdiv_eq_ediv_of_dvd h1,Int.fdiv_eq_ediv_of_dvd h2]
 have hn:=Z2r t h
 obtain⟨x,hx⟩:=h1
 obtain⟨y,hy⟩:=h2
 have e1:t / dv t b=x:=by
  conv=>lhs;lhs;rw[hx]
  exact Int.mul_ediv_cancel_left x hn
 have e2:b / dv t b=y:=by
  conv=>lhs;lhs;rw[hy]
  exact Int.mul_ediv_cancel_left y hn
 refine⟨?_,?_,?_⟩
 ·rw[e2]
  have hp:=Z0j t h
  by_cases c:b<0
  ·have d:dv t b= - gd t b:=if_pos c
   rw[d] at hy
   rcases(by omega:1≤y∨y≤0) with z|z
   ·exact z
   ·have:=Int.mul_le_mul_of_nonneg_left z (Int.le_of_lt hp)
    rw[Int.neg_mul] at hy
    omega
  ·have d:dv t b=gd t b:=if_neg c
   rw[d] at hy
   rcases(by omega:1≤y∨y≤0) with z|z
   ·exact z
   ·have:=Int.mul_le_mul_of_nonneg_left z (Int.le_of_lt hp)
    omega
 ·unfold gd
  rw[Z22 ⟨x,hx⟩ ⟨y,hy⟩ ?_ h]
  ·rfl
  ·unfold dv gd
   split<;>omega
 ·rw[e1,e2]
  conv=>lhs;rw[hy]
  conv=>rhs;lhs;rw[hx]
  rw[Int.mul_comm (dv t b) x,Int.mul_assoc]
end My
namespace Hu
abbrev Pt:=Int×Int
def tn(a b c:Pt):Int:=(b.1-a.1)*(c.2-a.2)-(b.2-a.2)*(c.1-a.1)
theorem Z0e{α:Type}(R:α→α→Prop):∀(l:List α),l≠[]→(∀x∈l,∀y∈l,R x y∨R y x)→(∀x∈l,∀y∈l,∀z∈l,R x y→R y z→R x z)→∃b∈l,∀s∈l,R b s
 | [],h,_,_=>absurd rfl h
 | [x],_,t,_=>⟨x,by simp,fun s hs=>by
     have e:s=x:=by simpa using hs
     subst e
     rcases t s (by simp) s (by simp) with q|q<;>exact q⟩
 |x::y::r,_,t,tr=>by
  obtain⟨b,hb,hl⟩:=Z0e R (y::r) (by simp) (fun a ha c hc=>t a (List.mem_cons_of_mem _ ha) c (List.mem_cons_of_mem _ hc)) (fun a ha c hc d hd=>tr a (List.mem_cons_of_mem _ ha) c (List.mem_cons_of_mem _ hc) d (List.mem_cons_of_mem _ hd))
  have hb':b∈x::y::r:=List.mem_cons_of_mem _ hb
  have hx:x∈x::y::r:=by simp
  have bb:R b b:=hl b hb
  have xx:R x x:=by rcases t x hx x hx with q|q<;>exact q
  rcases t b hb' x hx with q|q
  ·refine⟨b,hb',fun s hs=>?_⟩
   rcases List.mem_cons.mp hs with e|e
   ·subst e;exact q
   ·exact hl s e
  ·refine⟨x,hx,fun s hs=>?_⟩
   rcases List.mem_cons.mp hs with e|e
   ·subst e;exact xx
   ·exact tr x hx b hb' s hs q (hl s e)
def vX(a b c p:Pt):Prop:=tn a b c≠0∧0≤tn p b c*tn a b c∧0≤tn a p c*tn a b c∧0≤tn a b p*tn a b c
theorem Z00(a b c p:Pt):tn p b c+tn a p c+tn a b p=tn a b c:=by simp only[tn];grind
theorem Zg(a b c:Pt):tn b c a=tn a b c:=by simp only[tn];grind
theorem ZE(a b c:Pt):tn b a c= - tn a b c:=by simp only[tn];grind
theorem Zq(a b c:Pt):tn a c b= - tn a b c:=by simp only[tn];grind
theorem vX.swap{a b c p:Pt}(h:vX a b c p):vX b a c p:=by
 obtain⟨h1,h2,h3,h4⟩:=h
 unfold vX
 rw[ZE a b c,ZE a p c,ZE p b c,ZE a b p]
 refine⟨by omega,?_,?_,?_⟩
 ·rw[Int.neg_mul_neg];exact h3
 ·rw[Int.neg_mul_neg];exact h2
 ·rw[Int.neg_mul_neg];exact h4
theorem vX.Cq{a b c p:Pt}(h:vX a b c p):vX b c a p:=by
 obtain⟨h1,h2,h3,h4⟩:=h
 unfold vX
 rw[Zg a b c,show tn p c a=tn a p c from Zg a p c,show tn b p a=tn a b p from Zg a b p,show tn b c p=tn p b c from Zg p b c]
 exact⟨h1,h3,h4,h2⟩
theorem Z11{a b c p:Pt}(h1:0≤tn p a b)(h2:0≤tn p b c)(h3:0≤tn p c a)(h:0<tn p a b∨0<tn p b c∨0<tn p c a):vX a b c p:=by
 have e:=Z00 a b c p
 have e1:tn a p c=tn p c a:=(Zg a p c).symm
 have e2:tn a b p=tn p a b:=Zg p a b
 have pos:0<tn a b c:=by omega
 refine⟨by omega,Int.mul_nonneg h2 (by omega),Int.mul_nonneg (by omega) (by omega),Int.mul_nonneg (by omega) (by omega)⟩
section
variable{S:List Pt}{p:Pt}
theorem Z2s(no:∀x∈S,∀y∈S,∀z∈S,¬vX x y z p):∀x∈S,∀y∈S,∀z∈S,0≤tn p x y→0≤tn p y z→0≤tn p x z:=by
 intro x hx y hy z hz h1 h2
 by_cases h:0≤tn p x z
 ·exact h
 ·exfalso
  have e:=Zq p x z
  exact no x hx y hy z hz (Z11 h1 h2 (by omega) (by omega))
def dt(u v:Pt)(p:Pt):Int:=(u.1-p.1)*(v.1-p.1)+(u.2-p.2)*(v.2-p.2)
theorem Z2f{u p:Pt}(h:u≠p):0<dt u u p:=by
 unfold dt
 have h1:0≤(u.1-p.1)*(u.1-p.1):=by
  rcases Int.le_total 0 (u.1-p.1) with q|q
  ·exact Int.mul_nonneg q q
  ·exact Int.mul_nonneg_of_nonpos_of_nonpos q q
 have h2:0≤(u.2-p.2)*(u.2-p.2):=by
  rcases Int.le_total 0 (u.2-p.2) with q|q
  ·exact Int.mul_nonneg q q
  ·exact Int.mul_nonneg_of_nonpos_of_nonpos q q
 by_cases e1:u.1-p.1=0
 ·by_cases e2:u.2-p.2=0
  ·exact absurd (Prod.ext (by omega) (by omega)) h
  ·have:(u.2-p.2)*(u.2-p.2)≠0:=Int.mul_ne_zero e2 e2
   omega
 ·have:(u.1-p.1)*(u.1-p.1)≠0:=Int.mul_ne_zero e1 e1
  omega
theorem Z2E(tri:∃x∈S,∃y∈S,∃z∈S,tn x y z≠0)(no:∀x∈S,∀y∈S,∀z∈S,¬vX x y z p) :
 ∃a∈S,∃b∈S,a≠b∧(∀s∈S,0≤tn a b s)∧tn a b p<0:=by
 obtain⟨x,hx,y,hy,z,hz,Zk3⟩:=tri
 have hp:p∉S:=by
  intro hp
  have e:=Z00 x y z p
  have key:∀u∈S,∀v∈S,tn p u v=0:=by
   intro u hu v hv
   by_cases h:tn p u v=0
   ·exact h
   ·exfalso
    refine no p hp u hu v hv ⟨h,?_,?_,?_⟩
    ·rcases Int.le_total 0 (tn p u v) with q|q
     ·exact Int.mul_nonneg q q
     ·exact Int.mul_nonneg_of_nonpos_of_nonpos q q
    ·rw[show tn p p v=0 by simp only[tn];grind];simp
    ·rw[show tn p u p=0 by simp only[tn];grind];simp
  have k1:=key y hy z hz
  have k2:=key z hz x hx
  have k3:=key x hx y hy
  rw[Zg p z x |>.symm] at k2
  have e1:tn x p z=tn p z x:=(Zg x p z).symm
  have e2:tn x y p=tn p x y:=Zg p x y
  have e3:tn z x p=tn p z x:=Zg p z x
  omega
 have tr:=Z2s no
 have tot:∀x∈S,∀y∈S,0≤tn p x y∨0≤tn p y x:=fun x _ y _=>by have:=Zq p x y;omega
 obtain⟨b0,hb0,l0⟩:=Z0e (fun u v=>0≤tn p u v) S (List.ne_nil_of_mem hx) tot tr
 -- the nearest of those in its direction
 have hT:∃b∈S,(∀s∈S,0≤tn p b s)∧∀s∈S,tn p b s=0→dt b b p≤dt s s p:=by
  let T:=S.filter fun s=>decide (tn p b0 s=0)
  have mT:∀{s},s∈T↔s∈S∧tn p b0 s=0:=by intro s;simp[T]
  have Zik:b0∈T:=mT.mpr ⟨hb0,by simp only[tn];grind⟩
  obtain⟨b,hb,lb⟩:=Z0e (fun u v=>dt u u p≤dt v v p) T (List.ne_nil_of_mem Zik) (fun u _ v _=>Int.le_total _ _) (fun u _ v _ w _ h1 h2=>Int.le_trans h1 h2)
  obtain⟨hbS,eb⟩:=mT.mp hb
  have bm:∀s∈S,0≤tn p b s:=fun s hs=>tr b hbS b0 hb0 s hs (by have:=Zq p b0 b;omega) (l0 s hs)
  refine⟨b,hbS,bm,fun s hs es=>lb s (mT.mpr ⟨hs,?_⟩)⟩
  have h1:=l0 s hs
  have h2:0≤tn p s b0:=tr s hs b hbS b0 hb0 (by have:=Zq p b s;omega) (by have:=Zq p b0 b;omega)
  have:=Zq p b0 s
  omega
 obtain⟨b,hb,bm,bn⟩:=hT
 have hbp:b≠p:=fun e=>hp (e▸hb)
 have hw:=Z2f hbp
 let U:=S.filter fun s=>decide (0<tn p b s)
 have mU:∀{s},s∈U↔s∈S∧0<tn p b s:=by intro s;simp[U]
 have hU:U≠[]:=by
  intro hU
  have key:∀s∈S,tn p b s=0:=by
   intro s hs
   have h1:=bm s hs
   by_cases h:tn p b s=0
   ·exact h
   ·have:s∈U:=mU.mpr ⟨hs,by omega⟩
    rw[hU] at this
    cases this
  have k1:=key x hx
  have k2:=key y hy
  have k3:=key z hz
  have fx:∀u v:Pt,tn p b u=0→tn p b v=0→dt b b p*tn p u v=0:=by
   intro u v e1 e2
   have i1:dt b b p*tn p u v=dt b u p*tn p b v-dt b v p*tn p b u:=by simp only[dt,tn];grind
   rw[i1,e1,e2];simp
  have z0:∀u v:Pt,tn p b u=0→tn p b v=0→tn p u v=0:=by
   intro u v e1 e2
   rcases Int.mul_eq_zero.mp (fx u v e1 e2) with q|q
   ·omega
   ·exact q
  have e:=Z00 x y z p
  have w1:=z0 y z k2 k3
  have w2:=z0 z x k3 k1
  have w3:=z0 x y k1 k2
  have e1:tn x p z=tn p z x:=(Zg x p z).symm
  have e2:tn x y p=tn p x y:=Zg p x y
  omega
 obtain⟨d,hd,dm⟩:=Z0e (fun u v=>0≤tn u b v) U hU
  (fun u _ v _=>by
    have e:tn v b u= - tn u b v:=by simp only[tn];grind
    omega)
  (fun u hu v hv w hw' h1 h2=>by
    have ku:=(mU.mp hu).2
    have kv:=(mU.mp hv).2
    have kw:=(mU.mp hw').2
    have e:tn u b w*tn p b v=tn u b v*tn p b w+tn v b w*tn p b u:=by simp only[tn];grind
    have n1:0≤tn u b v*tn p b w:=Int.mul_nonneg h1 (by omega)
    have n2:0≤tn v b w*tn p b u:=Int.mul_nonneg h2 (by omega)
    by_cases h:0≤tn u b w
    ·exact h
    ·have:tn u b w*tn p b v<0:=Int.mul_neg_of_neg_of_pos (by omega) kv
     omega)
 obtain⟨hdS,kd⟩:=mU.mp hd
 refine⟨d,hdS,b,hb,fun e=>?_,fun s hs=>?_,?_⟩
 ·rw[e,show tn p b b=0 by simp only[tn];grind] at kd
  omega
 ·have h1:=bm s hs
  by_cases h:0<tn p b s
  ·exact dm s (mU.mpr ⟨hs,h⟩)
  ·have es:tn p b s=0:=by omega
   have near:=bn s hs es
   -- on the line of p and b
   have c1:dt b b p*tn s p d= - (dt b s p*tn p b d):=by
    have i1:dt b b p*tn s p d=dt b d p*tn p b s-dt b s p*tn p b d:=by simp only[dt,tn];grind
    rw[i1,es];simp
   have c2:dt b b p*tn d b s=(dt b s p-dt b b p)*tn p b d:=by
    have i1:dt b b p*tn d b s=(dt b s p-dt b b p)*tn p b d-(dt b d p-dt b b p)*tn p b s:=by simp only[dt,tn];grind
    rw[i1,es];simp
   have c3:dt b s p*dt b s p=dt b b p*dt s s p:=by
    have i1:dt b b p*dt s s p=dt b s p*dt b s p+tn p b s*tn p b s:=by simp only[dt,tn];grind
    rw[i1,es];simp
   have hge:dt b b p≤dt b s p:=by
    by_cases q:0≤dt b s p
    ·by_cases q2:dt b b p≤dt b s p
     ·exact q2
     ·exfalso
      have l1:dt b s p*dt b s p≤dt b s p*dt b b p:=Int.mul_le_mul_of_nonneg_left (by omega) q
      have l2:dt b s p*dt b b p<dt b b p*dt b b p:=Int.mul_lt_mul_of_pos_right (by omega) hw
      have l3:dt b b p*dt b b p≤dt b b p*dt s s p:=Int.mul_le_mul_of_nonneg_left near (by omega)
      omega
    ·exfalso
     have pos:0<tn s p d:=by
      have l1:0 < -(dt b s p*tn p b d):=by
       have:=Int.mul_neg_of_neg_of_pos (show dt b s p<0 by omega) kd
       omega
      by_cases h0:0<tn s p d
      ·exact h0
      ·have:=Int.mul_nonneg (show 0≤dt b b p by omega) (show 0≤ - tn s p d by omega)
       rw[Int.mul_neg] at this
       omega
     refine no s hs b hb d hdS (Z11 (by have:=Zq p b s;omega) (by omega) ?_ (.inr (.inl kd)))
     have:tn p d s=tn s p d:=Zg s p d
     omega
   have n1:0≤(dt b s p-dt b b p)*tn p b d:=Int.mul_nonneg (by omega) (by omega)
   by_cases h0:0≤tn d b s
   ·exact h0
   ·have:=Int.mul_neg_of_pos_of_neg hw (show tn d b s<0 by omega)
    omega
 ·have:tn d b p= - tn p b d:=by simp only[tn];grind
  omega
end
abbrev Ln:=Int×Int×Int
def hd(l:Ln)(p:Pt):Bool:=decide (l.1*p.1+l.2.1*p.2≤l.2.2)
def Z1(a b:Pt):Ln:=(b.2-a.2,a.1-b.1,(b.2-a.2)*a.1+(a.1-b.1)*a.2)
theorem ZS{a b s:Pt}:hd (Z1 a b) s=true↔0≤tn a b s:=by
 unfold hd Z1
 rw[decide_eq_true_iff]
 have e:tn a b s=((b.2-a.2)*a.1+(a.1-b.1)*a.2)-((b.2-a.2)*s.1+(a.1-b.1)*s.2):=by simp only[tn];grind
 dsimp only
 omega
def Z2(S:List Pt):List Pt:=S.foldl (fun k x=>if x∈k then k else k ++ [x]) []
theorem Z0a(x:Pt):∀(S k:List Pt),x∈S.foldl (fun k x=>if x∈k then k else k ++ [x]) k↔x∈k∨x∈S
 | [],k=>by simp
 |y::S,k=>by
  rw[List.foldl_cons,Z0a x S]
  by_cases h:y∈k
  ·rw[if_pos h]
   constructor
   ·rintro (q|q)
    ·exact .inl q
    ·exact .inr (List.mem_cons_of_mem _ q)
   ·rintro (q|q)
    ·exact .inl q
    ·rcases List.mem_cons.mp q with e|e
     ·exact .inl (e▸h)
     ·exact .inr e
  ·rw[if_neg h]
   simp only[List.mem_append,List.mem_cons,List.not_mem_nil,or_false]
   constructor
   ·rintro ((q|q)|q)
    ·exact .inl q
    ·exact .inr (.inl q)
    ·exact .inr (.inr q)
   ·rintro (q|q|q)
    ·exact .inl (.inl q)
    ·exact .inl (.inr q)
    ·exact .inr q
theorem Zn{x:Pt}{S:List Pt}:x∈Z2 S↔x∈S:=by unfold Z2;rw[Z0a];simp
def ZA(S:List Pt):List Ln:=(Z2 S).flatMap fun a=>(Z2 S).filterMap fun b=>if a≠b∧(Z2 S).all (hd (Z1 a b)) then some (Z1 a b) else none
theorem Zv{S:List Pt}{l:Ln}:l∈ZA S↔∃a∈S,∃b∈S,a≠b∧(∀s∈S,0≤tn a b s)∧l=Z1 a b:=by
 unfold ZA
 simp only[List.mem_flatMap,List.mem_filterMap]
 constructor
 ·rintro ⟨a,ha,b,hb,h⟩
  split at h
  ·rename_i hc
   refine⟨a,Zn.mp ha,b,Zn.mp hb,hc.1,fun s hs=>?_,(Option.some.inj h).symm⟩
   exact ZS.mp (List.all_eq_true.mp hc.2 s (Zn.mpr hs))
  ·cases h
 ·rintro ⟨a,ha,b,hb,h1,h2,rfl⟩
  refine⟨a,Zn.mpr ha,b,Zn.mpr hb,?_⟩
  rw[if_pos ⟨h1,List.all_eq_true.mpr fun s hs=>ZS.mpr (h2 s (Zn.mp hs))⟩]
def mx(l:List Int):Int:=l.tail.foldl max (l.headD 0)
def mn(l:List Int):Int:=l.tail.foldl min (l.headD 0)
theorem Z04:∀(l:List Int) (m:Int),m≤l.foldl max m∧(∀x∈l,x≤l.foldl max m)∧(l.foldl max m=m∨l.foldl max m∈l)
 | [],m=>by simp
 |y::l,m=>by
  rw[List.foldl_cons]
  obtain⟨h1,h2,h3⟩:=Z04 l (max m y)
  have hm:m≤(max m y)∧y≤(max m y):=⟨Int.le_max_left ..,Int.le_max_right ..⟩
  refine⟨by omega,fun x hx=>?_,?_⟩
  ·rcases List.mem_cons.mp hx with e|e
   ·subst e;omega
   ·exact h2 x e
  ·rcases h3 with q|q
   ·rw[q]
    rcases Int.le_total m y with h|h
    ·right;rw[Int.max_eq_right h];simp
    ·left;rw[Int.max_eq_left h]
   ·right;exact List.mem_cons_of_mem _ q
theorem Z05:∀(l:List Int) (m:Int),l.foldl min m≤m∧(∀x∈l,l.foldl min m≤x)∧(l.foldl min m=m∨l.foldl min m∈l)
 | [],m=>by simp
 |y::l,m=>by
  rw[List.foldl_cons]
  obtain⟨h1,h2,h3⟩:=Z05 l (min m y)
  have hm:(min m y)≤m∧(min m y)≤y:=⟨Int.min_le_left ..,Int.min_le_right ..⟩
  refine⟨by omega,fun x hx=>?_,?_⟩
  ·rcases List.mem_cons.mp hx with e|e
   ·subst e;omega
   ·exact h2 x e
  ·rcases h3 with q|q
   ·rw[q]
    rcases Int.le_total m y with h|h
    ·left;rw[Int.min_eq_left h]
    ·right;rw[Int.min_eq_right h];simp
   ·right;exact List.mem_cons_of_mem _ q
theorem Z0f{l:List Int}{x:Int}(h:x∈l):x≤mx l:=by
 cases l with
 |nil=>cases h
 |cons y l=>
  obtain⟨h1,h2,_⟩:=Z04 l y
  rcases List.mem_cons.mp h with e|e
  ·subst e;exact h1
  ·exact h2 x e
theorem Z1S{l:List Int}(h:l≠[]):mx l∈l:=by
 cases l with
 |nil=>exact absurd rfl h
 |cons y l=>
  obtain⟨_,_,h3⟩:=Z04 l y
  rcases h3 with q|q
  ·show _∈y::l
   rw[show mx (y::l)=y from q];simp
  ·exact List.mem_cons_of_mem _ q
theorem Z0g{l:List Int}{x:Int}(h:x∈l):mn l≤x:=by
 cases l with
 |nil=>cases h
 |cons y l=>
  obtain⟨h1,h2,_⟩:=Z05 l y
  rcases List.mem_cons.mp h with e|e
  ·subst e;exact h1
  ·exact h2 x e
theorem Z1T{l:List Int}(h:l≠[]):mn l∈l:=by
 cases l with
 |nil=>exact absurd rfl h
 |cons y l=>
  obtain⟨_,_,h3⟩:=Z05 l y
  rcases h3 with q|q
  ·show _∈y::l
   rw[show mn (y::l)=y from q];simp
  ·exact List.mem_cons_of_mem _ q
def box(S:List Pt):List Ln:=[(1,0,mx (S.map (·.1))),(-1,0,- mn (S.map (·.1))),(0,1,mx (S.map (·.2))),(0,-1,- mn (S.map (·.2)))]
def Zp(S:List Pt):List Ln:=box S++ZA S
theorem Z0Q{S:List Pt}{l:Ln}(h:l∈Zp S){s:Pt}(hs:s∈S):hd l s=true:=by
 unfold Zp at h
 rcases List.mem_append.mp h with h|h
 ·have h1:=Z0f (List.mem_map_of_mem (f:=(·.1)) hs)
  have h2:=Z0g (List.mem_map_of_mem (f:=(·.1)) hs)
  have h3:=Z0f (List.mem_map_of_mem (f:=(·.2)) hs)
  have h4:=Z0g (List.mem_map_of_mem (f:=(·.2)) hs)
  unfold box at h
  simp only[List.mem_cons,List.not_mem_nil,or_false] at h
  unfold hd
  rw[decide_eq_true_iff]
  rcases h with e|e|e|e<;>subst e<;>simp only<;>omega
 ·obtain⟨a,_,b,_,_,h',rfl⟩:=Zv.mp h
  exact ZS.mpr (h' s hs)
def Zo(S:List Pt)(p:Pt):Option Ln:=(Zp S).find? fun l=>!hd l p
theorem Z12{S:List Pt}{p:Pt}{l:Ln}(h:Zo S p=some l):l∈Zp S∧hd l p=false:=by
 unfold Zo at h
 have h1:=List.find?_some h
 have h2:=List.mem_of_find?_eq_some h
 exact⟨h2,by simpa using h1⟩
theorem Z13{S:List Pt}{p:Pt}(h:Zo S p=none):∀l∈Zp S,hd l p=true:=by
 unfold Zo at h
 intro l hl
 have:=List.find?_eq_none.mp h l hl
 simpa using this
def kO(a b c p:Pt):List Int:=[tn p b c,tn a p c,tn a b p]
def gk(a b p:Pt):List Int:=
 let g:=(b.1-a.1)*(p.1-a.1)+(b.2-a.2)*(p.2-a.2)
 [(b.1-a.1)*(b.1-a.1)+(b.2-a.2)*(b.2-a.2)-g,g]
def Zh(w:List Int):Bool:=decide (w.sum≠0) && w.all fun s=>decide (0≤s*w.sum)
theorem Z1z{a b c p:Pt}:Zh (kO a b c p)=true↔vX a b c p:=by
 unfold Zh kO vX
 have e:[tn p b c,tn a p c,tn a b p].sum=tn a b c:=by simp;have:=Z00 a b c p;omega
 rw[e]
 simp[and_assoc]
def at_(S:List Pt)(i:Nat):Pt:=S.getD i (0,0)
theorem ZF{S:List Pt}{i:Nat}(h:i<S.length):at_ S i∈S:=by
 unfold at_
 rw[List.getD_eq_getElem?_getD,List.getElem?_eq_getElem h]
 exact List.getElem_mem h
theorem ZL{S:List Pt}{x:Pt}(h:x∈S):∃i,i<S.length∧at_ S i=x:=by
 obtain⟨i,hi,e⟩:=List.mem_iff_getElem.mp h
 exact⟨i,hi,by unfold at_;rw[List.getD_eq_getElem?_getD,List.getElem?_eq_getElem hi];exact e⟩
def Z7(n:Nat):List (Nat×Nat):=(List.range n).flatMap fun j=>(List.range j).map fun i=>(i,j)
def Z8(n:Nat):List (Nat×Nat×Nat):=(List.range n).flatMap fun k=>(Z7 k).map fun q=>(q.1,q.2,k)
theorem Zs{n i j:Nat}:(i,j)∈Z7 n↔i<j∧j<n:=by
 unfold Z7
 simp only[List.mem_flatMap,List.mem_range,List.mem_map,Prod.mk.injEq]
 constructor
 ·rintro ⟨k,hk,m,hm,rfl,rfl⟩;exact⟨hm,hk⟩
 ·rintro ⟨h1,h2⟩;exact⟨j,h2,i,h1,rfl,rfl⟩
theorem Z9{n i j k:Nat}:(i,j,k)∈Z8 n↔i<j∧j<k∧k<n:=by
 unfold Z8
 simp only[List.mem_flatMap,List.mem_range,List.mem_map,Prod.mk.injEq]
 constructor
 ·rintro ⟨m,hm,⟨a,b⟩,hq,rfl,rfl,rfl⟩
  have:=Zs.mp hq
  exact⟨this.1,this.2,hm⟩
 ·rintro ⟨h1,h2,h3⟩;exact⟨k,h3,(i,j),Zs.mpr ⟨h1,h2⟩,rfl,rfl,rfl⟩
def Z0k(S:List Pt)(p:Pt):Option (List Int×List Nat):=(Z8 S.length).findSome? fun q=>if Zh (kO (at_ S q.1) (at_ S q.2.1) (at_ S q.2.2) p) then some (kO (at_ S q.1) (at_ S q.2.1) (at_ S q.2.2) p,[q.1,q.2.1,q.2.2]) else none
def Z0R(S:List Pt)(p:Pt):Option (List Int×List Nat):=(Z7 S.length).findSome? fun q=>if Zh (gk (at_ S q.1) (at_ S q.2) p) then some (gk (at_ S q.1) (at_ S q.2) p,[q.1,q.2]) else none
def Za(S:List Pt)(p:Pt):List Int×List Nat:=((Z0k S p).orElse fun _=>Z0R S p).getD ([1],[0])
structure Z1A(S:List Pt)(p:Pt)(w:List Int)(q:List Nat):Prop where
 len:w.length=q.length
 sum:w.sum≠0
 sign:∀s∈w,0≤s*w.sum
 nd:q.Nodup
 lt:∀i∈q,i<S.length
 x:((w.zip q).map fun a=>a.1*(at_ S a.2).1).sum=w.sum*p.1
 y:((w.zip q).map fun a=>a.1*(at_ S a.2).2).sum=w.sum*p.2
theorem Zr{w:List Int}:Zh w=true↔w.sum≠0∧∀s∈w,0≤s*w.sum:=by
 unfold Zh
 simp
theorem Z2t{S:List Pt}{p:Pt}{i j k:Nat}(h1:i<j)(h2:j<k)(h3:k<S.length)(h:Zh (kO (at_ S i) (at_ S j) (at_ S k) p)=true):Z1A S p (kO (at_ S i) (at_ S j) (at_ S k) p) [i,j,k]:=by
 have hs:=Zr.mp h
 refine⟨rfl,hs.1,hs.2,by simp;omega,by simp;omega,?_,?_⟩
 ·unfold kO
  simp[tn]
  grind
 ·unfold kO
  simp[tn]
  grind
theorem Z2u{S:List Pt}{p:Pt}{i j:Nat}(h1:i<j)(h2:j<S.length)(h:Zh (gk (at_ S i) (at_ S j) p)=true)(on:tn (at_ S i) (at_ S j) p=0):Z1A S p (gk (at_ S i) (at_ S j) p) [i,j]:=by
 have hs:=Zr.mp h
 refine⟨rfl,hs.1,hs.2,by simp;omega,by simp;omega,?_,?_⟩
 ·unfold gk
  unfold tn at on
  simp
  grind
 ·unfold gk
  unfold tn at on
  simp
  grind
theorem ZT{a b:Pt}:tn a a b=0∧tn a b a=0∧tn b a a=0:=by simp only[tn];grind
theorem Z2v{S:List Pt}{p:Pt}{i j k:Nat}(hi:i<S.length)(hj:j<S.length)(hk:k<S.length)(h:vX (at_ S i) (at_ S j) (at_ S k) p):∃i j k,(i,j,k)∈Z8 S.length∧vX (at_ S i) (at_ S j) (at_ S k) p:=by
 have n1:i≠j:=fun e=>h.1 (by rw[e];exact ZT.1)
 have n2:j≠k:=fun e=>h.1 (by rw[e];exact ZT.2.2)
 have n3:i≠k:=fun e=>h.1 (by rw[e];exact ZT.2.1)
 rcases Nat.lt_or_gt_of_ne n1 with a|a<;>rcases Nat.lt_or_gt_of_ne n2 with b|b<;>rcases Nat.lt_or_gt_of_ne n3 with c|c
 ·exact⟨i,j,k,Z9.mpr ⟨a,b,hk⟩,h⟩
 ·omega
 ·exact⟨i,k,j,Z9.mpr ⟨c,b,hj⟩,h.swap.Cq.swap.Cq.swap.Cq.swap.Cq.swap.Cq |> fun _=>h.Cq.swap.Cq.Cq⟩
 ·exact⟨k,i,j,Z9.mpr ⟨c,a,hj⟩,h.Cq.Cq⟩
 ·exact⟨j,i,k,Z9.mpr ⟨a,c,hk⟩,h.swap⟩
 ·exact⟨j,k,i,Z9.mpr ⟨b,c,hi⟩,h.Cq⟩
 ·omega
 ·exact⟨k,j,i,Z9.mpr ⟨b,a,hi⟩,h.Cq.swap⟩
theorem Z14{S:List Pt}{p:Pt}(h:Z0k S p=none):∀x∈S,∀y∈S,∀z∈S,¬vX x y z p:=by
 intro x hx y hy z hz hin
 obtain⟨i,hi,rfl⟩:=ZL hx
 obtain⟨j,hj,rfl⟩:=ZL hy
 obtain⟨k,hk,rfl⟩:=ZL hz
 obtain⟨i,j,k,hm,h3⟩:=Z2v hi hj hk hin
 have:=List.findSome?_eq_none_iff.mp h (i,j,k) hm
 rw[if_pos (Z1z.mpr h3)] at this
 cases this
theorem Z15{S:List Pt}{p:Pt}(hS:S≠[])(h:Zo S p=none):Z1A S p (Za S p).1 (Za S p).2:=by
 have hl:=Z13 h
 unfold Za
 cases e3:Z0k S p with
 |some r=>
  obtain⟨⟨i,j,k⟩,hm,hr⟩:=List.exists_of_findSome?_eq_some e3
  obtain⟨h1,h2,h4⟩:=Z9.mp hm
  split at hr
  ·rename_i hw
   cases hr
   exact Z2t h1 h2 h4 hw
  ·cases hr
 |none=>
  have no:=Z14 e3
  have flat:∀x∈S,∀y∈S,∀z∈S,tn x y z=0:=by
   intro x hx y hy z hz
   by_cases q:tn x y z=0
   ·exact q
   ·exfalso
    obtain⟨a,ha,b,hb,hab,h1,h2⟩:=Z2E ⟨x,hx,y,hy,z,hz,q⟩ no
    have:=ZS.mp (hl (Z1 a b) (List.mem_append_right _ (Zv.mpr ⟨a,ha,b,hb,hab,h1,rfl⟩)))
    omega
  have on:∀a∈S,∀b∈S,tn a b p=0:=by
   intro a ha b hb
   by_cases hab:a=b
   ·subst hab;exact ZT.1
   ·have h1:=ZS.mp (hl (Z1 a b) (List.mem_append_right _ (Zv.mpr ⟨a,ha,b,hb,hab,fun s hs=>by rw[flat a ha b hb s hs];exact Int.le_refl 0,rfl⟩)))
    have h2:=ZS.mp (hl (Z1 b a) (List.mem_append_right _ (Zv.mpr ⟨b,hb,a,ha,fun e=>hab e.symm,fun s hs=>by rw[flat b hb a ha s hs];exact Int.le_refl 0,rfl⟩)))
    rw[ZE a b p] at h2
    omega
  have bx:∀l∈box S,hd l p=true:=fun l hm=>hl l (List.mem_append_left _ hm)
  have b1:=bx (1,0,mx (S.map (·.1))) (by simp[box])
  have b2:=bx (-1,0,- mn (S.map (·.1))) (by simp[box])
  have b3:=bx (0,1,mx (S.map (·.2))) (by simp[box])
  have b4:=bx (0,-1,- mn (S.map (·.2))) (by simp[box])
  simp only[hd,decide_eq_true_iff] at b1 b2 b3 b4
  have c1:p.1≤mx (S.map (·.1)):=by omega
  have c2:mn (S.map (·.1))≤p.1:=by omega
  have c3:p.2≤mx (S.map (·.2)):=by omega
  have c4:mn (S.map (·.2))≤p.2:=by omega
  have sq:∀z:Int,0≤z*z:=fun z=>by
   rcases Int.le_total 0 z with q|q
   ·exact Int.mul_nonneg q q
   ·exact Int.mul_nonneg_of_nonpos_of_nonpos q q
  cases e2:Z0R S p with
  |some r=>
   obtain⟨⟨i,j⟩,hm,hr⟩:=List.exists_of_findSome?_eq_some e2
   obtain⟨h1,h2⟩:=Zs.mp hm
   split at hr
   ·rename_i hw
    cases hr
    exact Z2u h1 h2 hw (on _ (ZF (by omega)) _ (ZF h2))
   ·cases hr
  |none=>
   have no2:∀a∈S,∀b∈S,¬(Zh (gk a b p)=true):=by
    intro a ha b hb hw
    obtain⟨i,hi,rfl⟩:=ZL ha
    obtain⟨j,hj,rfl⟩:=ZL hb
    have fall:∀i j,i<j→j<S.length→Zh (gk (at_ S i) (at_ S j) p)=true→False:=by
     intro i j h1 h2 hw
     have:=List.findSome?_eq_none_iff.mp e2 (i,j) (Zs.mpr ⟨h1,h2⟩)
     rw[if_pos hw] at this
     cases this
    rcases Nat.lt_trichotomy i j with q|q|q
    ·exact fall i j q hj hw
    ·subst q
     refine(Zr.mp hw).1 ?_
     simp[gk]
    ·refine fall j i q hi ?_
     rw[Zr] at hw ⊢
     have e1:(gk (at_ S j) (at_ S i) p).sum=(gk (at_ S i) (at_ S j) p).sum:=by simp[gk];grind
     refine⟨by rw[e1];exact hw.1,fun s hs=>?_⟩
     rw[e1]
     refine hw.2 s ?_
     simp[gk] at hs ⊢
     rcases hs with e|e
     ·right;rw[e];grind
     ·left;rw[e];grind
   have key:∀a∈S,∀b∈S,(0<b.1-a.1→a.1≤p.1→p.1≤b.1→False)∧(0<b.2-a.2→a.2≤p.2→p.2≤b.2→False):=by
    intro a ha b hb
    have o:=on a ha b hb
    have e:(b.1-a.1)*(p.2-a.2)=(b.2-a.2)*(p.1-a.1):=by unfold tn at o;omega
    refine⟨fun h1 h2 h3=>no2 a ha b hb ?_,fun h1 h2 h3=>no2 a ha b hb ?_⟩
    all_goals
     rw[Zr]
     have hsum:(gk a b p).sum=(b.1-a.1)*(b.1-a.1)+(b.2-a.2)*(b.2-a.2):=by simp[gk]
     have s1:=sq (b.1-a.1)
     have s2:=sq (b.2-a.2)
    ·have pos:0<(b.1-a.1)*(b.1-a.1):=Int.mul_pos h1 h1
     have g1:0≤(b.1-a.1)*(p.1-a.1)+(b.2-a.2)*(p.2-a.2):=by
      have i1:((b.1-a.1)*(p.1-a.1)+(b.2-a.2)*(p.2-a.2))*(b.1-a.1)=((b.1-a.1)*(b.1-a.1)+(b.2-a.2)*(b.2-a.2))*(p.1-a.1):=by grind
      have i2:0≤((b.1-a.1)*(b.1-a.1)+(b.2-a.2)*(b.2-a.2))*(p.1-a.1):=Int.mul_nonneg (by omega) (by omega)
      by_cases q:0≤(b.1-a.1)*(p.1-a.1)+(b.2-a.2)*(p.2-a.2)
      ·exact q
      ·have:=Int.mul_neg_of_neg_of_pos (show(b.1-a.1)*(p.1-a.1)+(b.2-a.2)*(p.2-a.2)<0 by omega) h1
       omega
     have g2:0≤(b.1-a.1)*(b.1-a.1)+(b.2-a.2)*(b.2-a.2)-((b.1-a.1)*(p.1-a.1)+(b.2-a.2)*(p.2-a.2)):=by
      have i1:((b.1-a.1)*(b.1-a.1)+(b.2-a.2)*(b.2-a.2)-((b.1-a.1)*(p.1-a.1)+(b.2-a.2)*(p.2-a.2)))*(b.1-a.1)=((b.1-a.1)*(b.1-a.1)+(b.2-a.2)*(b.2-a.2))*(b.1-p.1):=by grind
      have i2:0≤((b.1-a.1)*(b.1-a.1)+(b.2-a.2)*(b.2-a.2))*(b.1-p.1):=Int.mul_nonneg (by omega) (by omega)
      by_cases q:0≤(b.1-a.1)*(b.1-a.1)+(b.2-a.2)*(b.2-a.2)-((b.1-a.1)*(p.1-a.1)+(b.2-a.2)*(p.2-a.2))
      ·exact q
      ·have:=Int.mul_neg_of_neg_of_pos (show(b.1-a.1)*(b.1-a.1)+(b.2-a.2)*(b.2-a.2)-((b.1-a.1)*(p.1-a.1)+(b.2-a.2)*(p.2-a.2))<0 by omega) h1
       omega
     rw[hsum]
     refine⟨by omega,fun s hs=>?_⟩
     simp[gk] at hs
     rcases hs with e|e<;>rw[e]
     ·exact Int.mul_nonneg g2 (by omega)
     ·exact Int.mul_nonneg g1 (by omega)
    ·have pos:0<(b.2-a.2)*(b.2-a.2):=Int.mul_pos h1 h1
     have g1:0≤(b.1-a.1)*(p.1-a.1)+(b.2-a.2)*(p.2-a.2):=by
      have i1:((b.1-a.1)*(p.1-a.1)+(b.2-a.2)*(p.2-a.2))*(b.2-a.2)=((b.1-a.1)*(b.1-a.1)+(b.2-a.2)*(b.2-a.2))*(p.2-a.2):=by grind
      have i2:0≤((b.1-a.1)*(b.1-a.1)+(b.2-a.2)*(b.2-a.2))*(p.2-a.2):=Int.mul_nonneg (by omega) (by omega)
      by_cases q:0≤(b.1-a.1)*(p.1-a.1)+(b.2-a.2)*(p.2-a.2)
      ·exact q
      ·have:=Int.mul_neg_of_neg_of_pos (show(b.1-a.1)*(p.1-a.1)+(b.2-a.2)*(p.2-a.2)<0 by omega) h1
       omega
     have g2:0≤(b.1-a.1)*(b.1-a.1)+(b.2-a.2)*(b.2-a.2)-((b.1-a.1)*(p.1-a.1)+(b.2-a.2)*(p.2-a.2)):=by
      have i1:((b.1-a.1)*(b.1-a.1)+(b.2-a.2)*(b.2-a.2)-((b.1-a.1)*(p.1-a.1)+(b.2-a.2)*(p.2-a.2)))*(b.2-a.2)=((b.1-a.1)*(b.1-a.1)+(b.2-a.2)*(b.2-a.2))*(b.2-p.2):=by grind
      have i2:0≤((b.1-a.1)*(b.1-a.1)+(b.2-a.2)*(b.2-a.2))*(b.2-p.2):=Int.mul_nonneg (by omega) (by omega)
      by_cases q:0≤(b.1-a.1)*(b.1-a.1)+(b.2-a.2)*(b.2-a.2)-((b.1-a.1)*(p.1-a.1)+(b.2-a.2)*(p.2-a.2))
      ·exact q
      ·have:=Int.mul_neg_of_neg_of_pos (show(b.1-a.1)*(b.1-a.1)+(b.2-a.2)*(b.2-a.2)-((b.1-a.1)*(p.1-a.1)+(b.2-a.2)*(p.2-a.2))<0 by omega) h1
       omega
     rw[hsum]
     refine⟨by omega,fun s hs=>?_⟩
     simp[gk] at hs
     rcases hs with e|e<;>rw[e]
     ·exact Int.mul_nonneg g2 (by omega)
     ·exact Int.mul_nonneg g1 (by omega)
   have nm:∀f:Pt→Int,S.map f≠[]:=fun f e=>hS (List.map_eq_nil_iff.mp e)
   obtain⟨xa,hxa,exa⟩:=List.mem_map.mp (Z1T (nm (·.1)))
   obtain⟨xb,hxb,exb⟩:=List.mem_map.mp (Z1S (nm (·.1)))
   obtain⟨ya,hya,eya⟩:=List.mem_map.mp (Z1T (nm (·.2)))
   obtain⟨yb,hyb,eyb⟩:=List.mem_map.mp (Z1S (nm (·.2)))
   have h0:at_ S 0∈S:=ZF (List.length_pos_iff.mpr hS)
   have l1:=Z0f (List.mem_map_of_mem (f:=(·.1)) h0)
   have l2:=Z0g (List.mem_map_of_mem (f:=(·.1)) h0)
   have l3:=Z0f (List.mem_map_of_mem (f:=(·.2)) h0)
   have l4:=Z0g (List.mem_map_of_mem (f:=(·.2)) h0)
   have ex:p.1=(at_ S 0).1:=by
    by_cases q:mn (S.map (·.1))<mx (S.map (·.1))
    ·exact((key xa hxa xb hxb).1 (by omega) (by omega) (by omega)).elim
    ·omega
   have ey:p.2=(at_ S 0).2:=by
    by_cases q:mn (S.map (·.2))<mx (S.map (·.2))
    ·exact((key ya hya yb hyb).2 (by omega) (by omega) (by omega)).elim
    ·omega
   refine⟨rfl,by simp,by simp,by simp,by simp;exact List.length_pos_iff.mpr hS,?_,?_⟩
   ·simp[ex]
   ·simp[ey]
end Hu
namespace Fr
theorem Z1B{t b s W C:Int}(hb:0<b)(h:t*W=s*b)(hd:b ∣ C):C / b*t*W=C*s:=by
 obtain⟨q,rfl⟩:=hd
 rw[Int.mul_ediv_cancel_left q (by omega)]
 calc q*t*W=q*(t*W):=by rw[Int.mul_assoc]
  _=q*(s*b):=by rw[h]
  _=b*q*s:=by rw[Int.mul_comm b q,Int.mul_assoc,Int.mul_comm s b]
theorem ZC{α:Type}{f g:α→Int}{W C:Int}:∀(l:List α),(∀x∈l,f x*W=C*g x)→(l.map f).sum*W=C*(l.map g).sum
 | [],_=>by simp
 |x::l,h=>by
  rw[List.map_cons,List.map_cons,List.sum_cons,List.sum_cons,Int.add_mul,Int.mul_add,h x (by simp),ZC l fun y hy=>h y (List.mem_cons_of_mem _ hy)]
theorem Z0l:∀(bs:List Int) (a:Int),a ∣ bs.foldl (·* ·) a∧∀b∈bs,b ∣ bs.foldl (·* ·) a
 | [],a=>⟨⟨1,by simp⟩,fun b hb=>by cases hb⟩
 |x::bs,a=>by
  obtain⟨h1,h2⟩:=Z0l bs (a*x)
  rw[List.foldl_cons]
  refine⟨Int.dvd_trans ⟨x,rfl⟩ h1,fun b hb=>?_⟩
  rcases List.mem_cons.mp hb with e|e
  ·subst e;exact Int.dvd_trans ⟨a,Int.mul_comm a b⟩ h1
  ·exact h2 b e
theorem Z0m:∀(bs:List Int) (a:Int),0<a→(∀b∈bs,0<b)→0<bs.foldl (·* ·) a
 | [],a,h,_=>h
 |x::bs,a,h,hb=>by
  rw[List.foldl_cons]
  exact Z0m bs (a*x) (Int.mul_pos h (hb x (by simp))) fun b hb'=>hb b (List.mem_cons_of_mem _ hb')
def df:List Int→(Nat→Int)→Int
 | [],_=>0
 |x::l,f=>x*f 0+df l fun k=>f (k+1)
theorem Z16:∀(l:List Int) (i:Nat) (s:Int) (f:Nat→Int),i<l.length→l.getD i 0=0→df (l.set i s) f=df l f+s*f i
 | [],_,_,_,h,_=>by simp at h
 |x::l,0,s,f,_,h=>by
  have e:x=0:=by simpa using h
  subst e
  simp[df]
  omega
 |x::l,i+1,s,f,hl,h=>by
  have:=Z16 l i s (fun k=>f (k+1)) (by simpa using hl) (by simpa using h)
  simp only[List.set_cons_succ,df,this]
  omega
theorem Z23(n:Nat):∀(f:Nat→Int),df (List.replicate n 0) f=0:=by
 induction n with
 |zero=>intro f;rfl
 |succ n ih=>intro f;rw[List.replicate_succ];simp[df,ih]
def lay(l:List Int)(a:List (Int×Nat)):List Int:=a.foldl (fun acc a=>acc.set a.2 a.1) l
theorem Z06:∀(a:List (Int×Nat)) (l:List Int),(lay l a).length=l.length
 | [],l=>rfl
 |x::a,l=>by unfold lay;rw[List.foldl_cons];exact(Z06 a _).trans (by simp)
theorem Z17:∀(a:List (Int×Nat)) (l:List Int) (f:Nat→Int),(a.map (·.2)).Nodup→(∀x∈a,x.2<l.length)→(∀x∈a,l.getD x.2 0=0)→df (lay l a) f=df l f+(a.map fun x=>x.1*f x.2).sum
 | [],l,f,_,_,_=>by simp[lay]
 |x::a,l,f,nd,lt,z=>by
  rw[List.map_cons,List.nodup_cons] at nd
  have h1:=Z16 l x.2 x.1 f (lt x (by simp)) (z x (by simp))
  have h2:=Z17 a (l.set x.2 x.1) f nd.2 (fun y hy=>by simpa using lt y (List.mem_cons_of_mem _ hy)) fun y hy=>by
   have hne:x.2≠y.2:=fun e=>nd.1 (e▸List.mem_map_of_mem hy)
   rw[List.getD_eq_getElem?_getD,List.getElem?_set_ne hne,←List.getD_eq_getElem?_getD]
   exact z y (List.mem_cons_of_mem _ hy)
  unfold lay at h2 ⊢
  rw[List.foldl_cons,h2,h1,List.map_cons,List.sum_cons]
  omega
theorem Z0J:∀(a:List (Int×Nat)) (l:List Int) (x:Int),x∈lay l a→x∈l∨x∈a.map (·.1)
 | [],l,x,h=>.inl h
 |y::a,l,x,h=>by
  unfold lay at h
  rw[List.foldl_cons] at h
  rcases Z0J a (l.set y.2 y.1) x h with q|q
  ·rcases List.mem_or_eq_of_mem_set q with q|q
   ·exact .inl q
   ·right;rw[q];simp
  ·right;rw[List.map_cons];exact List.mem_cons_of_mem _ q
theorem Z18:∀(l:List Int),df l (fun _=>1)=l.sum
 | []=>rfl
 |x::l=>by simp[df,Z18 l]
theorem Z0n:∀(l:List Int) (f:Nat→Int),df l f=((List.range l.length).map fun k=>l.getD k 0*f k).sum
 | [],f=>rfl
 |x::l,f=>by
  rw[List.length_cons,List.range_succ_eq_map,List.map_cons,List.map_map,List.sum_cons]
  simp only[df,Z0n l]
  rfl
end Fr
namespace T
open PySem L2 M2 M3 M4 P
def top(i:Nat):Stmt:=PySem.Challenge.pw_shadowpost_k27_shading_walked.main.body.getD i (.Pass ⟨0,0,0,0⟩)
abbrev uL:Stmt:=top 60
abbrev uM:Stmt:=top 54
abbrev uN:Stmt:=top 55
abbrev uO:Stmt:=top 56
abbrev uP:Stmt:=top 57
abbrev uQ:Stmt:=top 58
abbrev uR:Stmt:=top 59
abbrev uT:Stmt:=top 35
abbrev uU:Stmt:=top 36
abbrev uV:Stmt:=top 38
abbrev FZ:Stmt:=inClass (top 45) 0
abbrev pU:Stmt:=top 39
abbrev uW:Stmt:=top 40
abbrev Ga:Stmt:=top 41
abbrev Gb:Stmt:=top 37
abbrev pW:Stmt:=top 42
abbrev uX:Stmt:=top 51
abbrev mV:Stmt:=top 10
abbrev uY:Stmt:=top 12
abbrev uZ:Stmt:=top 11
abbrev u_:Stmt:=top 9
abbrev pX:Stmt:=top 13
abbrev vd:Stmt:=top 14
abbrev vf:Stmt:=top 15
abbrev pY:Stmt:=top 21
abbrev BW:Stmt:=top 22
abbrev Gd:Stmt:=top 6
abbrev vg:Stmt:=top 7
abbrev pZ:Stmt:=top 20
abbrev vh:Stmt:=top 16
abbrev Ge:Stmt:=top 17
abbrev qb:Stmt:=top 19
abbrev vm:Stmt:=top 18
abbrev mW:Stmt:=top 23
abbrev vo:Stmt:=top 24
abbrev vp:Stmt:=top 26
abbrev Gf:Stmt:=top 43
abbrev Gg:Stmt:=top 44
abbrev vq:Stmt:=inClass (top 46) 0
abbrev vA:Stmt:=inClass (top 47) 0
abbrev vB:Stmt:=inClass (top 48) 0
abbrev qd:Stmt:=inClass (top 49) 0
abbrev Gh:Stmt:=inClass (top 50) 0
abbrev qe:Stmt:=top 29
abbrev vC:Stmt:=top 27
abbrev vD:Stmt:=top 30
abbrev vG:Stmt:=top 31
abbrev vH:Stmt:=top 53
abbrev vI:Stmt:=top 67
abbrev Gi:Stmt:=top 63
abbrev jN:Stmt:=top 64
abbrev qg:Stmt:=top 65
abbrev vJ:Stmt:=top 66
abbrev vK:Stmt:=top 61
abbrev mX:Stmt:=top 62
abbrev gG:Stmt:=top 68
def Zi:List ((String×String)×Bool):=[]
def Zj:List ((String×String)×Bool):=[]
def Zk:List String:=[]
def Zl:List String:=[]
def cR(c0:Addr)(c1:Addr)(c2:Addr)(c3:Addr)(c4:Addr)(c5:Addr)(c6:Addr)(c7:Addr)(c8:Addr):String→Addr:=fun s=>match s with
 | "YardError" =>c0
 | "NoNumber" =>c1
 | "BadThing" =>c2
 | "Thing" =>c3
 | "Post" =>c4
 | "Fence" =>c5
 | "Sail" =>c6
 | "Cloth" =>c7
 | "House" =>c8
 |_=>0
noncomputable def rC:M Fl:=(Ħ (Ņ 0 (Š (Ć ŕ (ā 0) (Ć bM (mC (.int 10)) (mC (.int 12))))))
 (Ħ (b_ (cG (Ć Ū (Ć ŕ (ā 0) (mC (.int 8))) (mC (.int 5))))
 (ĳ (Š (ŏ (ą (Ć ū (Ć ŕ (Ć Ŭ (ā 0) (mC (.int 8))) (mC (.int 2001))) (mC (.int 1000))) (ą (Ć ū (Ć ŕ (Ć Ŭ (ā 0) (mC (.int 16008))) (mC (.int 2001))) (mC (.int 1000))) ĝ)))))
 cH)
 (ĳ (Š (ŏ (ą (Ć ŕ (Ć Ŭ (ā 0) (mC (.int 8))) (mC (.int 20))) (ą (Ć ŕ (Ć Ŭ (ā 0) (mC (.int 160))) (mC (.int 20))) ĝ)))))))
noncomputable def mY:MF:=ŋ 1 1 rC
noncomputable def xJ:M Fl:=(Ħ (Ņ 0 (Ľ ĵ (Ě (Ľ ĵ (Ć ŕ (ā 0) (mC (.int 1073741789))) (Ć Ğ (mC (.int 3)) (ā 1)))) (mC (.int 1))))
 (Ħ (eY (gS 2 (ě (gN 2) (ě (gN 3) Ŧ))) (cI iM (ą (Ě (Ľ ĵ (Ć Ğ (ā 0) (mC (.int 40009))) (Ć Ğ (ā 1) (mC (.int 5501))))) (ą (mC (.int 32749)) ĝ))))
 (ĳ (Š (Ć ŕ (Ě (Ľ ĵ (Ě (Ľ ĵ (Ć Ğ (ā 2) (ā 2)) (Ć Ğ (ā 3) (Ě (Ľ ĵ (ā 3) (mC (.int 613))))))) (ā 1))) (mC (.int 1500450271)))))))
noncomputable def jO:MF:=ŋ 2 4 xJ
noncomputable def jx:M Fl:=(b_ (cG (Ć Ū (ā 2) (mC (.int 0))))
 (Ħ (t_ 3 (Ć ŕ (ā 0) (Ć bM (mC (.int 10)) (mC (.int 6)))))
 (Ņ 0 (Š (Ć Ŭ (ā 0) (Ć bM (mC (.int 10)) (mC (.int 6)))))))
 (t_ 3 (Ě (Ġ jO (ħ (Ě (Ľ ĵ (Ě (Ġ jO (Ċ 0 (Ċ 4 ĕ)))) (ā 0))) (Ċ 4 ĕ))))))
noncomputable def xK:M Fl:=(Ħ (Ņ 2 (Š (Ć ŕ (ā 0) (mC (.int 2)))))
 (Ħ (Ņ 0 (Š (Ć ŕ (Ć Ŭ (ā 0) (mC (.int 2))) (Ć Ğ (Ć Ğ (Ć bM (mC (.int 10)) (mC (.int 60))) (Ć bM (mC (.int 10)) (mC (.int 60)))) (Ć bM (mC (.int 10)) (mC (.int 60)))))))
 (Ħ (Ņ 3 (aD ĝ))
 (Ħ (dH (cj bL (ą (đ 1) ĝ)) (gN 4) jx)
 (ĳ (gF 3))))))
noncomputable def fC:MF:=ŋ 2 5 xK
noncomputable def rD:M Fl:=(Ħ (b_ (cG (Ć Ū (Ć ŕ (ā 0) (mC (.int 4))) (mC (.int 3))))
 (Ħ (eY (gS 4 (ě (gN 2) (ě (gN 3) (ě (gN 4) (ě (gN 5) Ŧ))))) (Ě (Ġ fC (ħ (Ć Ŭ (ā 0) (mC (.int 4))) (ħ (mC (.int 4)) ĕ)))))
 (Ħ (Ņ 2 (Ľ ĵ (ā 2) (Ć Ğ (Ć ŕ (ā 5) (mC (.int 2))) (Ć bM (mC (.int 10)) (mC (.int 6))))))
 (Ħ (Ņ 3 (Ľ ĵ (ā 3) (Ć Ğ (Ć ŕ (Ć Ŭ (ā 5) (mC (.int 2))) (mC (.int 2))) (Ć bM (mC (.int 10)) (mC (.int 6))))))
 (ĳ (Š (ŏ (ą (Ć ū (Ć ŕ (ā 2) (Ě (Ľ ĵ (Ć Ğ (mC (.int 2)) (Ć bM (mC (.int 10)) (mC (.int 6)))) (mC (.int 1))))) (Ć bM (mC (.int 10)) (mC (.int 6)))) (ą (Ć ū (Ć ŕ (ā 3) (Ě (Ľ ĵ (Ć Ğ (mC (.int 2)) (Ć bM (mC (.int 10)) (mC (.int 6)))) (mC (.int 1))))) (Ć bM (mC (.int 10)) (mC (.int 6)))) (ą (Ě (Ľ ĵ (mC (.int 1)) (Ć ŕ (ā 4) (Ć bM (mC (.int 10)) (mC (.int 6)))))) ĝ)))))))))
 cH)
 (Ħ (Ņ 1 (Š (Ć ę (Ě (aD (ą (mC (.int 1)) (ą (mC (.int 1)) (ą (mC (.int 7)) (ą (Ć bM (mC (.int 10)) (mC (.int 5))) ĝ)))))) (Ć ŕ (Ć Ŭ (ā 0) (mC (.int 588))) (mC (.int 4))))))
 (ĳ (Š (ŏ (ą (Ć Ğ (ā 1) (Ć ū (Ć ŕ (Ć Ŭ (ā 0) (mC (.int 4))) (mC (.int 7))) (mC (.int 3)))) (ą (Ć Ğ (ā 1) (Ć ū (Ć ŕ (Ć Ŭ (ā 0) (mC (.int 28))) (mC (.int 7))) (mC (.int 3)))) (ą (Ć Ğ (ā 1) (Ě (Ľ ĵ (mC (.int 1)) (Ć ŕ (Ć Ŭ (ā 0) (mC (.int 196))) (mC (.int 3)))))) ĝ))))))))
noncomputable def mZ:MF:=ŋ 1 6 rD
noncomputable def xM:M Fl:=(Ħ (eY (gS 3 (ě (gN 4) (ě (gN 5) (ě (gN 6) Ŧ)))) (đ 2))
 (ĳ (aD (ą (Ć ū (Ě (Ľ ĵ (Ć ū (Ć Ğ (mC (.int 2)) (Ć ę (ā 1) (mC (.int 0)))) (Ć Ŭ (Ć Ğ (ā 4) (ā 3)) (ā 6))) (Ć ŕ (ā 0) (mC (.int 9))))) (mC (.int 4))) (ą (Ć ū (Ě (Ľ ĵ (Ć ū (Ć Ğ (mC (.int 2)) (Ć ę (ā 1) (mC (.int 1)))) (Ć Ŭ (Ć Ğ (ā 5) (ā 3)) (ā 6))) (Ć ŕ (Ć Ŭ (ā 0) (mC (.int 9))) (mC (.int 9))))) (mC (.int 4))) (ą (đ 3) ĝ))))))
noncomputable def gH:MF:=ŋ 4 7 xM
noncomputable def rE:M Fl:=(Ħ (b_ (cG (Ć Ū (ā 0) (ā 1)))
 (ĳ (Š (ŏ (ą (đ 0) (ą (Ě (Ľ ĵ (ā 0) (mC (.int 1)))) ĝ)))))
 cH)
 (ĳ (Š (ŏ (ą (cI zO (ą (ā 0) (ą (ā 1) ĝ))) (ą (cI zP (ą (ā 0) (ą (ā 1) ĝ))) ĝ))))))
noncomputable def iV:MF:=ŋ 2 2 rE
noncomputable def Gj:M Fl:=(Ņ 7 (Ľ ĵ (ā 7) (Ě (Ġ gH (ħ (Ć ę (ā 4) (Ě (Ľ ĵ (mC (.int 1)) (ā 8)))) (Ċ 1 (Ċ 2 (ħ (Ć ŕ (Ć Ŭ (Ć ę (ā 4) (mC (.int 4))) (Ě (Ľ ĵ (mC (.int 1)) (Ć Ğ (mC (.int 7)) (ā 8))))) (Ě (Ľ ĵ (ā 5) (mC (.int 1))))) ĕ))))))))
noncomputable def fG:M Fl:=(Ħ (Ņ 3 (Š (Ć ę (Ě (aD (ą (mC (.str "post")) (ą (mC (.str "fence")) (ą (mC (.str "sail")) (ą (mC (.str "cloth")) (ą (mC (.str "house")) ĝ))))))) (Ć ŕ (ā 0) (mC (.int 5))))))
 (Ħ (Ņ 4 (Ġ fC (ħ (Ć Ŭ (ā 0) (mC (.int 5))) (ħ (mC (.int 6)) ĕ))))
 (Ħ (Ņ 5 (Ľ ĵ (mC (.int 1)) (Ć ŕ (Ć ę (ā 4) (mC (.int 0))) (Ć ę (Ě (aD (ą (mC (.int 8)) (ą (mC (.int 8)) (ą (mC (.int 900)) ĝ))))) (Ć ŕ (Ć Ŭ (ā 0) (mC (.int 5))) (mC (.int 3)))))))
 (Ħ (b_ (cG (Ć Ū (ā 3) (mC (.str "cloth"))))
 (Ħ (Ņ 7 (aD ĝ))
 (Ħ (dH (cj bL (ą (mC (.int 3)) ĝ)) (gN 8) Gj)
 (ĳ (Š (ŏ (ą (đ 3) (ą (đ 7) ĝ)))))))
 cH)
 (Ħ (Ņ 6 (Š (Ć ę (Ě (aD (ą (mC (.int 0)) (ą (Ć Ŭ (ā 5) (mC (.int 2))) (ą (đ 5) ĝ))))) (Ć ŕ (Ć ę (ā 4) (mC (.int 5))) (mC (.int 3))))))
 (Ħ (b_ (cG (Ć Ū (ā 3) (mC (.str "sail"))))
 (Ņ 6 (Š (đ 5)))
 cH)
 (Ħ (eY (gS 3 (ě (gN 9) (ě (gN 10) (ě (gN 11) Ŧ)))) (Ě (Ġ gH (ħ (Ć ę (ā 4) (mC (.int 1))) (Ċ 1 (Ċ 2 (Ċ 6 ĕ)))))))
 (Ħ (eY (gS 3 (ě (gN 12) (ě (gN 13) (ě (gN 11) Ŧ)))) (Ě (Ġ gH (ħ (Ć ę (ā 4) (mC (.int 2))) (Ċ 1 (Ċ 2 (Ċ 6 ĕ)))))))
 (Ħ (b_ (cG (Ć Ū (ā 3) (mC (.str "post"))))
 (ĳ (Š (ŏ (ą (đ 3) (ą (Ě (aD (ą (Ć Ŭ (ā 9) (mC (.int 2))) (ą (Ć Ŭ (ā 10) (mC (.int 2))) (ą (đ 5) ĝ))))) ĝ)))))
 cH)
 (Ħ (b_ (cG (Ć Ū (ā 3) (mC (.str "fence"))))
 (ĳ (Š (ŏ (ą (đ 3) (ą (Ě (aD (ą (đ 9) (ą (đ 10) (ą (Ě (Ľ ĵ (ā 12) (cI wY (ą (Ć Ū (ŏ (ą (đ 9) (ą (đ 10) ĝ))) (ŏ (ą (đ 12) (ą (đ 13) ĝ)))) ĝ)))) (ą (đ 13) (ą (đ 5) ĝ))))))) ĝ)))))
 cH)
 (Ħ (eY (gS 2 (ě (gN 9) (ě (gN 12) Ŧ))) (Ě (Ġ iV (Ċ 9 (Ċ 12 ĕ)))))
 (Ħ (eY (gS 2 (ě (gN 10) (ě (gN 13) Ŧ))) (Ě (Ġ iV (Ċ 10 (Ċ 13 ĕ)))))
 (ĳ (Š (ŏ (ą (đ 3) (ą (Ě (aD (ą (đ 9) (ą (đ 10) (ą (đ 12) (ą (đ 13) (ą (đ 5) ĝ))))))) ĝ)))))))))))))))))
noncomputable def fH:MF:=ŋ 3 14 fG
noncomputable def xO:M Fl:=(ĳ (Š (Bo jm jm (vW iK (mC (.int (1000000000)))) (ā 0) (mC (.int (1000000000))))))
noncomputable def cN:MF:=ŋ 1 1 xO
noncomputable def xP:M Fl:=(ĳ (Š (Bo jm jm (mC (.int 1)) (ā 0) (mC (.int (1000000000))))))
noncomputable def jP:MF:=ŋ 1 1 xP
noncomputable def rG:M Fl:=(ĳ (Š (gq (Ć Ū (cI dO (ą (ā 0) ĝ)) (mC (.int 3))) (gq (Ě (Ġ cN (ħ (Ć ę (ā 0) (mC (.int 0))) ĕ))) (gq (Ě (Ġ cN (ħ (Ć ę (ā 0) (mC (.int 1))) ĕ))) (Ě (Ġ jP (ħ (Ć ę (ā 0) (mC (.int 2))) ĕ))))))))
noncomputable def m_:MF:=ŋ 1 1 rG
noncomputable def dX:M Fl:=(Ħ (uw 0 ["Thing","Post","Fence","Sail","Cloth","House"] "word" (đ 1))
 (uw 0 ["Thing","Post","Fence","Sail","Cloth","House"] "numbers" (Ě (Ea lW (ą (ā 2) ĝ)))))
noncomputable def rH:MI:=dU 3 3 "Post" dX
noncomputable def ni:MI:=dU 3 3 "Fence" dX
noncomputable def rJ:MI:=dU 3 3 "Sail" dX
noncomputable def nj:MI:=dU 3 3 "Cloth" dX
noncomputable def nq:MI:=dU 3 3 "House" dX
noncomputable def rK:M Fl:=(ĳ (Š (gq (Ć Ū (cI dO (ą (ā 0) ĝ)) (mC (.int 5))) (gq (cI lZ (ą (Ě (Ų [] 1 (ů (Ě (Nm (ā 0) Nk (mP (mC (.int 4)))))) (gN 0) Ŗ (Ě (Ġ cN (Ċ 0 ĕ))))) ĝ)) (Ě (Ġ jP (ħ (Ć ę (ā 0) (mC (.int 4))) ĕ)))))))
noncomputable def iW:MF:=ŋ 1 1 rK
noncomputable def rM:M Fl:=(ĳ (Š (gq (Ě (Ġ iW (Ċ 0 ĕ))) (Ć cu (Ě (Nm (ā 0) Nk (mP (mC (.int 2))))) (Ě (Nm (ā 0) (mP (mC (.int 2))) (mP (mC (.int 4)))))))))
noncomputable def nu:MF:=ŋ 1 1 rM
noncomputable def Af:M Fl:=(ĳ (Š (gq (Ě (Ġ iW (Ċ 0 ĕ))) (gq (Ć um (Ć ę (ā 0) (mC (.int 0))) (Ć ę (ā 0) (mC (.int 2)))) (Ć um (Ć ę (ā 0) (mC (.int 1))) (Ć ę (ā 0) (mC (.int 3))))))))
noncomputable def rN:MF:=ŋ 1 1 Af
noncomputable def Gk:M Fl:=(ĳ (Š (gq (Ě (Ġ cN (ħ (Ć ę (ā 0) (mC (.int 0))) ĕ))) (gq (Ě (Ġ cN (ħ (Ć ę (ā 0) (mC (.int 1))) ĕ))) (Bo jm jm (mC (.int 0)) (Ć ę (ā 0) (mC (.int 2))) (mC (.int (1000000000))))))))
noncomputable def BX:MF:=ŋ 1 1 Gk
noncomputable def rP:M Fl:=(ĳ (Š (gq (Ć Ū (cI dO (ą (ā 0) ĝ)) (mC (.int 9))) (cI lZ (ą (Ě (Ų [0] 1 (ů (ŏ (ą (mC (.int 0)) (ą (mC (.int 3)) (ą (mC (.int 6)) ĝ))))) (gN 1) Ŗ (Ě (Ġ BX (ħ (Ě (Nm (ā 0) (mP (đ 1)) (mP (Ě (Ľ ĵ (ā 1) (mC (.int 3))))))) ĕ))))) ĝ)))))
noncomputable def nA:MF:=ŋ 1 1 rP
noncomputable def fJ:M Fl:=(Ħ (b_ (jK (cG (Ć Ū (ā 0) (mC (.str "post")))) (bZ (Ě (Ġ m_ (Ċ 1 ĕ)))))
 (ĳ (Š (dg "Post" rH (Ċ 0 (Ċ 1 ĕ)))))
 cH)
 (Ħ (b_ (jK (cG (Ć Ū (ā 0) (mC (.str "fence")))) (bZ (Ě (Ġ nu (Ċ 1 ĕ)))))
 (ĳ (Š (dg "Fence" ni (Ċ 0 (Ċ 1 ĕ)))))
 cH)
 (Ħ (b_ (jK (cG (Ć Ū (ā 0) (mC (.str "sail")))) (bZ (Ě (Ġ rN (Ċ 1 ĕ)))))
 (ĳ (Š (dg "Sail" rJ (Ċ 0 (Ċ 1 ĕ)))))
 cH)
 (Ħ (b_ (jK (cG (Ć Ū (ā 0) (mC (.str "cloth")))) (bZ (Ě (Ġ nA (Ċ 1 ĕ)))))
 (ĳ (Š (dg "Cloth" nj (Ċ 0 (Ċ 1 ĕ)))))
 cH)
 (Ħ (b_ (jK (cG (Ć Ū (ā 0) (mC (.str "house")))) (bZ (Ě (Ġ rN (Ċ 1 ĕ)))))
 (ĳ (Š (dg "House" nq (Ċ 0 (Ċ 1 ĕ)))))
 cH)
 (qT "BadThing"))))))
noncomputable def dY:MF:=ŋ 2 2 fJ
noncomputable def xQ:M Fl:=(Ħ (Ņ 1 (Ų [] 1 (ţ 0) (gN 0) Ŗ (Ć ę (ā 0) (mC (.int 0)))))
 (Ħ (Ņ 2 (Ų [] 1 (ţ 0) (gN 0) Ŗ (Ć ę (ā 0) (mC (.int 1)))))
 (ĳ (aD (ą (ŏ (ą (mC (.int 1)) (ą (mC (.int 0)) (ą (cI pK (ą (ā 1) ĝ)) ĝ)))) (ą (ŏ (ą (vW iK (mC (.int 1))) (ą (mC (.int 0)) (ą (vW iK (cI pL (ą (ā 1) ĝ))) ĝ)))) (ą (ŏ (ą (mC (.int 0)) (ą (mC (.int 1)) (ą (cI pK (ą (ā 2) ĝ)) ĝ)))) (ą (ŏ (ą (mC (.int 0)) (ą (vW iK (mC (.int 1))) (ą (vW iK (cI pL (ą (ā 2) ĝ))) ĝ)))) ĝ))))))))
noncomputable def qj:MF:=ŋ 1 3 xQ
noncomputable def jy:M Fl:=(b_ (cG (Ć (inD true) (ā 2) (ā 1)))
 (t_ 1 (đ 2))
 cH)
noncomputable def xR:M Fl:=(Ħ (Ņ 1 (aD ĝ))
 (Ħ (dH (ţ 0) (gN 2) jy)
 (ĳ (gF 1))))
noncomputable def ql:MF:=ŋ 1 3 xR
noncomputable def xT:M Fl:=(Ħ (Ņ 2 (Š (Ć ū (Ć ę (ā 1) (mC (.int 1))) (Ć ę (ā 0) (mC (.int 1))))))
 (Ħ (Ņ 3 (Š (Ć ū (Ć ę (ā 0) (mC (.int 0))) (Ć ę (ā 1) (mC (.int 0))))))
 (ĳ (Š (ŏ (ą (đ 2) (ą (đ 3) (ą (Ě (Ľ ĵ (Ć Ğ (ā 2) (Ć ę (ā 0) (mC (.int 0)))) (Ć Ğ (ā 3) (Ć ę (ā 0) (mC (.int 1)))))) ĝ))))))))
noncomputable def qm:MF:=ŋ 2 4 xT
noncomputable def xU:M Fl:=(ĳ (Š (Ć jm (Ě (Ľ ĵ (Ć Ğ (Ć ę (ā 0) (mC (.int 0))) (Ć ę (ā 1) (mC (.int 0)))) (Ć Ğ (Ć ę (ā 0) (mC (.int 1))) (Ć ę (ā 1) (mC (.int 1)))))) (Ć ę (ā 0) (mC (.int 2))))))
noncomputable def gJ:MF:=ŋ 2 2 xU
noncomputable def jz:M Fl:=(Ħ (Ņ 5 (Ġ qm (Ċ 3 (Ċ 4 ĕ))))
 (b_ (jK (cG (Ć cu (ā 3) (ā 4))) (bZ (cI lZ (ą (Ě (Ų [5] 1 (ţ 2) (gN 1) Ŗ (Ě (Ġ gJ (Ċ 0 (Ċ 1 ĕ)))))) ĝ))))
 (t_ 1 (đ 5))
 cH))
noncomputable def rQ:M Fl:=(dH (ţ 2) (gN 4) jz)
noncomputable def xV:M Fl:=(Ħ (Ņ 1 (aD ĝ))
 (Ħ (Ņ 2 (Ġ ql (Ċ 0 ĕ)))
 (Ħ (dH (ţ 2) (gN 3) rQ)
 (ĳ (gF 1)))))
noncomputable def qp:MF:=ŋ 1 6 xV
noncomputable def xW:M Fl:=(ĳ (Ľ ĵ (Ě (Ġ qj (Ċ 0 ĕ))) (Ě (Ġ qp (Ċ 0 ĕ)))))
noncomputable def qt:MF:=ŋ 1 1 xW
noncomputable def rT:M Fl:=(b_ (cU (bZ (Ě (Ġ gJ (Ċ 2 (Ċ 1 ĕ))))))
 (ĳ (gF 2))
 cH)
noncomputable def rW:M Fl:=(Ħ (dH (ů (Ě (Ġ qt (Ċ 0 ĕ)))) (gN 2) rT)
 (ĳ (Š (mC .non))))
noncomputable def nC:MF:=ŋ 2 3 rW
noncomputable def nD:M Fl:=(xq 1 (Ų [2] 1 (cj bL (ą (đ 2) ĝ)) (gN 1) Ŗ (ŏ (ą (đ 1) (ą (đ 0) ĝ)))))
noncomputable def xX:M Fl:=(Ħ (Ņ 1 (aD ĝ))
 (Ħ (dH (cj bL (ą (đ 0) ĝ)) (gN 2) nD)
 (ĳ (gF 1))))
noncomputable def jQ:MF:=ŋ 1 3 xX
noncomputable def vL:M Fl:=(xq 1 (Ų [2] 1 (BR (ů (Ě (Ġ jQ (Ċ 2 ĕ))))) (gN 1) Ŗ (ŏ (ą (Ć ę (ā 1) (mC (.int 0))) (ą (Ć ę (ā 1) (mC (.int 1))) (ą (đ 0) ĝ))))))
noncomputable def Gm:M Fl:=(Ħ (Ņ 1 (aD ĝ))
 (Ħ (dH (cj bL (ą (đ 0) ĝ)) (gN 2) vL)
 (ĳ (gF 1))))
noncomputable def BZ:MF:=ŋ 1 3 Gm
noncomputable def Qh:M Fl:=(ŵ (cG (Ć cu (ā 1) (mC (.int 0))))
 (Ħ (Ņ 2 (Š (Ć ŕ (ā 0) (ā 1))))
 (Ħ (Ņ 0 (Š (đ 1)))
 (Ņ 1 (Š (đ 2))))))
noncomputable def Gn:M Fl:=(Ħ Qh
 (ĳ (Š (cI Np (ą (ā 0) ĝ)))))
noncomputable def B_:MF:=ŋ 2 3 Gn
noncomputable def rY:M Fl:=(Ħ (b_ (cG (Ć Ū (ā 1) (mC (.int 0))))
 (qT "NoNumber")
 cH)
 (Ħ (Ņ 2 (Ġ B_ (Ċ 0 (Ċ 1 ĕ))))
 (Ħ (b_ (cG (Ć um (ā 1) (mC (.int 0))))
 (Ņ 2 (Š (vW iK (ā 2))))
 cH)
 (ĳ (Š (ŏ (ą (Ć Ŭ (ā 0) (ā 2)) (ą (Ć Ŭ (ā 1) (ā 2)) ĝ))))))))
noncomputable def fK:MF:=ŋ 2 3 rY
noncomputable def rZ:M Fl:=(wO 4 (đ 6) (Ě (Ġ fK (Ċ 5 (Ċ 3 ĕ)))))
noncomputable def jA:M Fl:=(Ħ (Ņ 3 (Š (cI mK (ą (ā 0) ĝ))))
 (Ħ (Ņ 4 (Ų [3] 1 (cj bL (ą (đ 2) ĝ)) (gN 1) Ŗ (Ě (Ġ fK (ħ (mC (.int 0)) (Ċ 0 ĕ))))))
 (Ħ (dH (BL (Ft 0) (Ft 1)) (gT 2 (ě (gN 5) (ě (gN 6) Ŧ))) rZ)
 (ĳ (gF 4)))))
noncomputable def dj:MF:=ŋ 3 7 jA
noncomputable def xY:M Fl:=(Ħ (Ņ 3 (Š (Ć Ğ (Ć ū (Ć ę (ā 1) (mC (.int 0))) (Ć ę (ā 0) (mC (.int 0)))) (Ć ū (Ć ę (ā 2) (mC (.int 1))) (Ć ę (ā 0) (mC (.int 1)))))))
 (ĳ (Š (Ć ū (ā 3) (Ć Ğ (Ć ū (Ć ę (ā 1) (mC (.int 1))) (Ć ę (ā 0) (mC (.int 1)))) (Ć ū (Ć ę (ā 2) (mC (.int 0))) (Ć ę (ā 0) (mC (.int 0)))))))))
noncomputable def gK:MF:=ŋ 3 4 xY
noncomputable def Gp:M Fl:=(Ħ (Ņ 2 (Š (Ć ę (ā 0) (mC (.int 0)))))
 (Ħ (Ņ 3 (Š (Ć ę (ā 0) (mC (.int 1)))))
 (Ħ (Ņ 4 (Š (Ć ę (ā 0) (mC (.int 2)))))
 (ĳ (aD (ą (Ě (Ġ gK (Ċ 1 (Ċ 3 (Ċ 4 ĕ))))) (ą (Ě (Ġ gK (Ċ 2 (Ċ 1 (Ċ 4 ĕ))))) (ą (Ě (Ġ gK (Ċ 2 (Ċ 3 (Ċ 1 ĕ))))) ĝ))))))))
noncomputable def Cd:MF:=ŋ 2 5 Gp
noncomputable def su:M Fl:=(Ħ (Ņ 1 (Š (cI mK (ą (ā 0) ĝ))))
 (ĳ (Š (gq (Ć cu (ā 1) (mC (.int 0))) (cI lZ (ą (Ě (Ų [1] 1 (ţ 0) (gN 1) Ŗ (Ć Ed (Ć Ğ (ā 1) (ā 0)) (mC (.int 0))))) ĝ))))))
noncomputable def iY:MF:=ŋ 1 2 su
noncomputable def xZ:M Fl:=(Ħ (Ņ 2 (Š (Ć ū (Ć ę (Ć ę (ā 0) (mC (.int 1))) (mC (.int 0))) (Ć ę (Ć ę (ā 0) (mC (.int 0))) (mC (.int 0))))))
 (Ħ (Ņ 3 (Š (Ć ū (Ć ę (Ć ę (ā 0) (mC (.int 1))) (mC (.int 1))) (Ć ę (Ć ę (ā 0) (mC (.int 0))) (mC (.int 1))))))
 (Ħ (Ņ 4 (Ľ ĵ (Ć Ğ (ā 2) (Ć ū (Ć ę (ā 1) (mC (.int 0))) (Ć ę (Ć ę (ā 0) (mC (.int 0))) (mC (.int 0))))) (Ć Ğ (ā 3) (Ć ū (Ć ę (ā 1) (mC (.int 1))) (Ć ę (Ć ę (ā 0) (mC (.int 0))) (mC (.int 1)))))))
 (ĳ (aD (ą (Ć ū (Ě (Ľ ĵ (Ć Ğ (ā 2) (ā 2)) (Ć Ğ (ā 3) (ā 3)))) (ā 4)) (ą (đ 4) ĝ)))))))
noncomputable def qu:MF:=ŋ 2 5 xZ
noncomputable def sy:M Fl:=(Ħ (Ņ 4 (Ġ qu (ħ (Ě (Ų [0] 1 (ţ 3) (gN 1) Ŗ (Ć ę (ā 0) (ā 1)))) (Ċ 1 ĕ))))
 (b_ (bZ (Ě (Ġ iY (Ċ 4 ĕ))))
 (ĳ (Ġ dj (Ċ 4 (Ċ 3 (Ċ 2 ĕ)))))
 cH))
noncomputable def sE:M Fl:=(Ħ (Ņ 4 (Ġ Cd (ħ (Ě (Ų [0] 1 (ţ 3) (gN 1) Ŗ (Ć ę (ā 0) (ā 1)))) (Ċ 1 ĕ))))
 (b_ (bZ (Ě (Ġ iY (Ċ 4 ĕ))))
 (ĳ (Ġ dj (Ċ 4 (Ċ 3 (Ċ 2 ĕ)))))
 cH))
noncomputable def nF:M Fl:=(Ħ (Ņ 2 (Š (cI dO (ą (ā 0) ĝ))))
 (Ħ (dH (ů (Ě (Ġ BZ (Ċ 2 ĕ)))) (gN 3) sE)
 (Ħ (dH (ů (Ě (Ġ jQ (Ċ 2 ĕ)))) (gN 3) sy)
 (ĳ (Ġ dj (ħ (Ě (aD (ą (mC (.int 1)) ĝ))) (ħ (Ě (aD (ą (mC (.int 0)) ĝ))) (Ċ 2 ĕ))))))))
noncomputable def jR:MF:=ŋ 2 5 nF
noncomputable def sG:M Fl:=(Ħ (Ņ 2 (Ġ nC (Ċ 0 (Ċ 1 ĕ))))
 (Ħ (b_ (cG (Ć Nh (ā 2) (mC .non)))
 (ĳ (FQ (xH (mC (.str "in")) (FP (Ġ jR (Ċ 0 (Ċ 1 ĕ)))))))
 cH)
 (ĳ (Š (ŏ (ą (mC (.str "out")) (ą (đ 2) ĝ)))))))
noncomputable def nG:MF:=ŋ 2 3 sG
noncomputable def yc:M Fl:=(ĳ (Š (ŏ (ą (Ě (Ľ ĵ (Ć Ğ (Ć ę (ā 1) (mC (.int 2))) (Ć ę (ā 0) (mC (.int 0)))) (Ć Ğ (Ć ę (ā 1) (mC (.int 0))) (Ć ę (ā 0) (mC (.int 2)))))) (ą (Ě (Ľ ĵ (Ć Ğ (Ć ę (ā 1) (mC (.int 2))) (Ć ę (ā 0) (mC (.int 1)))) (Ć Ğ (Ć ę (ā 1) (mC (.int 1))) (Ć ę (ā 0) (mC (.int 2)))))) ĝ)))))
noncomputable def gM:MF:=ŋ 2 2 yc
noncomputable def Gq:M Fl:=(ĳ (aD (ą (ŏ (ą (đ 0) (ą (đ 1) (ą (đ 4) ĝ)))) (ą (ŏ (ą (đ 2) (ą (đ 1) (ą (đ 4) ĝ)))) (ą (ŏ (ą (đ 2) (ą (đ 3) (ą (đ 4) ĝ)))) (ą (ŏ (ą (đ 0) (ą (đ 3) (ą (đ 4) ĝ)))) ĝ))))))
noncomputable def oN:MF:=ŋ 5 5 Gq
noncomputable def Gs:M Fl:=(ĳ (Ľ ĵ (Ě (Ġ oN (Ċ 0 (Ċ 1 (Ċ 2 (Ċ 3 (ħ (mC (.int 0)) ĕ))))))) (Ě (Ġ oN (Ċ 0 (Ċ 1 (Ċ 2 (Ċ 3 (Ċ 4 ĕ)))))))))
noncomputable def vM:MF:=ŋ 5 5 Gs
noncomputable def yd:M Fl:=(Ħ (Ņ 1 (Š (Ć Ğ (mC (.int 2)) (Ć ę (vW (kI ["Thing","Post","Fence","Sail","Cloth","House"] "numbers") (ā 0)) (mC (.int 0))))))
 (Ħ (Ņ 2 (Š (Ć Ğ (mC (.int 2)) (Ć ę (vW (kI ["Thing","Post","Fence","Sail","Cloth","House"] "numbers") (ā 0)) (mC (.int 1))))))
 (ĳ (Ġ vM (ħ (Ć ū (ā 1) (mC (.int 1))) (ħ (Ć ū (ā 2) (mC (.int 1))) (ħ (Ě (Ľ ĵ (ā 1) (mC (.int 1)))) (ħ (Ě (Ľ ĵ (ā 2) (mC (.int 1)))) (ħ (Ć ę (vW (kI ["Thing","Post","Fence","Sail","Cloth","House"] "numbers") (ā 0)) (mC (.int 2))) ĕ)))))))))
noncomputable def jT:MF:=ŋ 1 3 yd
noncomputable def yg:M Fl:=(Ħ (Ņ 1 (Š (vW (kI ["Thing","Post","Fence","Sail","Cloth","House"] "numbers") (ā 0))))
 (Ħ (Ņ 2 (Š (ŏ (ą (Ć ę (ā 1) (mC (.int 0))) (ą (Ć ę (ā 1) (mC (.int 1))) ĝ)))))
 (Ħ (Ņ 3 (Š (ŏ (ą (Ć ę (ā 1) (mC (.int 2))) (ą (Ć ę (ā 1) (mC (.int 3))) ĝ)))))
 (ĳ (aD (ą (Ě (Ľ ĵ (ā 2) (ŏ (ą (mC (.int 0)) ĝ)))) (ą (Ě (Ľ ĵ (ā 3) (ŏ (ą (mC (.int 0)) ĝ)))) (ą (Ě (Ľ ĵ (ā 3) (ŏ (ą (Ć ę (ā 1) (mC (.int 4))) ĝ)))) (ą (Ě (Ľ ĵ (ā 2) (ŏ (ą (Ć ę (ā 1) (mC (.int 4))) ĝ)))) ĝ)))))))))
noncomputable def jU:MF:=ŋ 1 4 yg
noncomputable def yh:M Fl:=(Ħ (Ņ 1 (Š (vW (kI ["Thing","Post","Fence","Sail","Cloth","House"] "numbers") (ā 0))))
 (ĳ (Ġ oN (ħ (Ć ę (ā 1) (mC (.int 0))) (ħ (Ć ę (ā 1) (mC (.int 1))) (ħ (Ć ę (ā 1) (mC (.int 2))) (ħ (Ć ę (ā 1) (mC (.int 3))) (ħ (Ć ę (ā 1) (mC (.int 4))) ĕ))))))))
noncomputable def jV:MF:=ŋ 1 2 yh
noncomputable def yj:M Fl:=(ĳ (Ų [0] 1 (ů (ŏ (ą (mC (.int 0)) (ą (mC (.int 3)) (ą (mC (.int 6)) ĝ))))) (gN 1) Ŗ (cI gY (ą (Ě (Nm (vW (kI ["Thing","Post","Fence","Sail","Cloth","House"] "numbers") (ā 0)) (mP (đ 1)) (mP (Ě (Ľ ĵ (ā 1) (mC (.int 3))))))) ĝ))))
noncomputable def jW:MF:=ŋ 1 1 yj
noncomputable def Gu:M Fl:=(Ħ (Ņ 1 (Š (vW (kI ["Thing","Post","Fence","Sail","Cloth","House"] "numbers") (ā 0))))
 (ĳ (Ġ vM (ħ (Ć ę (ā 1) (mC (.int 0))) (ħ (Ć ę (ā 1) (mC (.int 1))) (ħ (Ć ę (ā 1) (mC (.int 2))) (ħ (Ć ę (ā 1) (mC (.int 3))) (ħ (Ć ę (ā 1) (mC (.int 4))) ĕ))))))))
noncomputable def vN:MF:=ŋ 1 2 Gu
noncomputable def yq:M Fl:=(ĳ (Ų [1] 1 (BR (ů (Ě (mG "corners" [("Post",jT),("Fence",jU),("Sail",jV),("Cloth",jW),("House",vN)] (đ 0) ĕ)))) (gN 1) Ŗ (Ě (Ġ gM (Ċ 1 (Ċ 0 ĕ))))))
noncomputable def qw:MF:=ŋ 2 2 yq
noncomputable def yr:M Fl:=(ĳ (Ġ gM (ħ (ŏ (ą (Ć Ğ (mC (.int 2)) (Ć ę (ā 0) (mC (.int 0)))) (ą (Ć Ğ (mC (.int 2)) (Ć ę (ā 0) (mC (.int 1)))) (ą (mC (.int 0)) ĝ)))) (Ċ 1 ĕ))))
noncomputable def qy:MF:=ŋ 2 2 yr
noncomputable def yt:M Fl:=(ĳ (Ġ nG (ħ (Ě (Ġ qw (Ċ 0 (Ċ 2 ĕ)))) (ħ (Ě (Ġ qy (Ċ 1 (Ċ 2 ĕ)))) ĕ))))
noncomputable def jX:MF:=ŋ 3 3 yt
noncomputable def sI:M Fl:=(ĳ (Š (Ć Ū (Ć ę (Ě (Ġ jX (Ċ 0 (Ċ 1 (Ċ 2 ĕ))))) (mC (.int 0))) (mC (.str "in")))))
noncomputable def nH:MF:=ŋ 3 3 sI
noncomputable def sJ:M Fl:=(Ħ (b_ (cG (Ć um (ā 1) (cI dO (ą (ā 0) ĝ))))
 (ĳ (Š (Ć ę (ā 0) (ā 1))))
 cH)
 (ĳ (Š (mC (.int 0)))))
noncomputable def dZ:MF:=ŋ 2 2 sJ
noncomputable def yu:M Fl:=(ĳ (Š (ŏ (ą (Ě (Ľ ĵ (Ć Ğ (Ć ę (ā 1) (mC (.int 2))) (Ć ę (ā 0) (mC (.int 0)))) (Ć Ğ (Ć ę (ā 1) (mC (.int 0))) (Ć ę (ā 0) (mC (.int 2)))))) (ą (Ě (Ľ ĵ (Ć Ğ (Ć ę (ā 1) (mC (.int 2))) (Ć ę (ā 0) (mC (.int 1)))) (Ć Ğ (Ć ę (ā 1) (mC (.int 1))) (Ć ę (ā 0) (mC (.int 2)))))) ĝ)))))
noncomputable def gO:MF:=ŋ 2 2 yu
noncomputable def Qi:M Fl:=(ŵ (cG (Ć cu (ā 3) (mC (.int 0))))
 (MN 2 3 (ą (đ 3) (ą (Ć ŕ (ā 2) (ā 3)) ĝ))))
noncomputable def Qj:M Fl:=(b_ (lR (cU (bZ (cI (aW Zi Zj Zk Zl) (ą (ā 1) (ą (mC (.ty "int")) ĝ))))) (bZ (cI (aW Zi Zj Zk Zl) (ą (ā 1) (ą (mC (.ty "bool")) ĝ)))))
 (ĳ (Š (mC (.bl false))))
 cH)
noncomputable def Gv:M Fl:=(Ħ (b_ (lR (cU (bZ (cI (aW Zi Zj Zk Zl) (ą (ā 0) (ą (mC (.ty "tuple")) ĝ))))) (cG (Ć cu (cI dO (ą (ā 0) ĝ)) (mC (.int 2)))))
 (ĳ (Š (mC (.bl false))))
 cH)
 (Ħ (dH (ţ 0) (gN 1) Qj)
 (Ħ (b_ (lR (cG (Ć um (Ć ę (ā 0) (mC (.int 1))) (mC (.int 1)))) (cG (Ć um (Ć ę (ā 0) (mC (.int 0))) (mC (.int 0)))))
 (ĳ (Š (mC (.bl false))))
 cH)
 (Ħ (eY (gS 2 (ě (gN 2) (ě (gN 3) Ŧ))) (đ 0))
 (Ħ Qi
 (ĳ (Š (Ć Ū (ā 2) (mC (.int 1))))))))))
noncomputable def vO:MF:=ŋ 1 4 Gv
noncomputable def nJ:M Fl:=(b_ (cG (Ć cu (cI mK (ą (Ě (Ų [4,5,1] 1 (cj bL (ą (cI dO (ą (ā 1) ĝ)) ĝ)) (gN 3) Ŗ (Ć Ğ (Ć ę (ā 0) (ā 3)) (Ć ę (Ć ę (ā 2) (ā 3)) (ā 1))))) ĝ)) (Ć Ğ (ā 3) (Ć ę (ā 2) (ā 5)))))
 (ĳ (Š (mC (.bl false))))
 cH)
noncomputable def sO:M Fl:=(Ņ 3 (Š (Ć Ğ (ā 3) (ā 7))))
noncomputable def sS:M Fl:=(Ħ (b_ (lR (cU (bZ (cI (aW Zi Zj Zk Zl) (ą (ā 0) (ą (mC (.ty "list")) ĝ))))) (cG (Ć cu (cI dO (ą (ā 0) ĝ)) (cI dO (ą (ā 1) ĝ)))))
 (ĳ (Š (mC (.bl false))))
 cH)
 (Ħ (b_ (cU (bZ (cI lZ (ą (Ě (Ų [] 1 (ţ 0) (gN 0) Ŗ (Ě (Ġ vO (Ċ 0 ĕ))))) ĝ))))
 (ĳ (Š (mC (.bl false))))
 cH)
 (Ħ (Ņ 3 (Š (mC (.int 1))))
 (Ħ (dH (ţ 0) (gT 2 (ě (gN 6) (ě (gN 7) Ŧ))) sO)
 (Ħ (Ņ 4 (Ų [3] 2 (ţ 0) (gT 2 (ě (gN 1) (ě (gN 2) Ŧ))) Ŗ (Ć Ğ (Ć Ŭ (ā 0) (ā 2)) (ā 1))))
 (Ħ (b_ (cG (Ć cu (cI mK (ą (ā 4) ĝ)) (ā 3)))
 (ĳ (Š (mC (.bl false))))
 cH)
 (Ħ (dH (cj bL (ą (mC (.int 2)) ĝ)) (gN 5) nJ)
 (ĳ (Š (mC (.bl true)))))))))))
noncomputable def jY:MF:=ŋ 3 8 sS
noncomputable def yw:M Fl:=(b_ (lR (cU (bZ (cI (aW Zi Zj Zk Zl) (ą (ā 3) (ą (mC (.ty "int")) ĝ))))) (bZ (cI (aW Zi Zj Zk Zl) (ą (ā 3) (ą (mC (.ty "bool")) ĝ)))))
 (ĳ (Š (mC (.bl false))))
 cH)
noncomputable def sU:M Fl:=(Ħ (b_ (lR (cU (bZ (cI (aW Zi Zj Zk Zl) (ą (ā 0) (ą (mC (.ty "tuple")) ĝ))))) (cG (Ć cu (cI dO (ą (ā 0) ĝ)) (mC (.int 3)))))
 (ĳ (Š (mC (.bl false))))
 cH)
 (Ħ (dH (ţ 0) (gN 3) yw)
 (Ħ (eY (gS 3 (ě (gN 4) (ě (gN 5) (ě (gN 6) Ŧ)))) (đ 0))
 (Ħ (b_ (cG (Ć jm (Ě (Ľ ĵ (Ć Ğ (ā 4) (Ć ę (ā 2) (mC (.int 0)))) (Ć Ğ (ā 5) (Ć ę (ā 2) (mC (.int 1)))))) (ā 6)))
 (ĳ (Š (mC (.bl false))))
 cH)
 (ĳ (Š (cI lZ (ą (Ě (Ų [6,4,5] 2 (ţ 1) (gT 2 (ě (gN 3) (ě (gN 4) Ŧ))) Ŗ (Ć jm (Ě (Ľ ĵ (Ć Ğ (ā 1) (ā 3)) (Ć Ğ (ā 2) (ā 4)))) (ā 0)))) ĝ))))))))
noncomputable def nM:MF:=ŋ 3 7 sU
noncomputable def sV:M Fl:=(Ħ (b_ (lR (cU (bZ (cI (aW Zi Zj Zk Zl) (ą (ā 0) (ą (mC (.ty "tuple")) ĝ))))) (lR (cG (Ć cu (cI dO (ą (ā 0) ĝ)) (mC (.int 2)))) (cU (bZ (cI (aW Zi Zj Zk Zl) (ą (Ć ę (ā 0) (mC (.int 0))) (ą (mC (.ty "str")) ĝ)))))))
 (ĳ (Š (mC (.bl false))))
 cH)
 (Ħ (b_ (cG (Ć Ū (Ć ę (ā 0) (mC (.int 0))) (mC (.str "in"))))
 (ĳ (Ġ jY (ħ (Ć ę (ā 0) (mC (.int 1))) (Ċ 1 (Ċ 2 ĕ)))))
 cH)
 (ĳ (Š (gq (Ć Ū (Ć ę (ā 0) (mC (.int 0))) (mC (.str "out"))) (Ě (Ġ nM (ħ (Ć ę (ā 0) (mC (.int 1))) (Ċ 1 (Ċ 2 ĕ))))))))))
noncomputable def jZ:MF:=ŋ 3 3 sV
noncomputable def yx:M Fl:=(ĳ (aD (ą (ŏ (ą (đ 0) (ą (đ 1) (ą (đ 4) ĝ)))) (ą (ŏ (ą (đ 2) (ą (đ 1) (ą (đ 4) ĝ)))) (ą (ŏ (ą (đ 2) (ą (đ 3) (ą (đ 4) ĝ)))) (ą (ŏ (ą (đ 0) (ą (đ 3) (ą (đ 4) ĝ)))) ĝ))))))
noncomputable def bN:MF:=ŋ 5 5 yx
noncomputable def nO:M Fl:=(Ħ (b_ (cG (Ć Ū (ā 0) (mC (.str "cloth"))))
 (ĳ (Ų [1] 1 (ů (Ě (aD (ą (mC (.int 0)) (ą (mC (.int 3)) (ą (mC (.int 6)) ĝ)))))) (gN 1) Ŗ (cI gY (ą (Ě (Nm (ā 0) (mP (đ 1)) (mP (Ě (Ľ ĵ (ā 1) (mC (.int 3))))))) ĝ))))
 cH)
 (Ħ (b_ (cG (Ć Ū (ā 0) (mC (.str "post"))))
 (Ħ (eY (gS 3 (ě (gN 7) (ě (gN 8) (ě (gN 6) Ŧ)))) (đ 1))
 Uc)
 cH)
 (Ħ (eY (gS 5 (ě (gN 2) (ě (gN 3) (ě (gN 4) (ě (gN 5) (ě (gN 6) Ŧ)))))) (đ 1))
 (Ħ (b_ (cG (Ć Ū (ā 0) (mC (.str "fence"))))
 (ĳ (aD (ą (ŏ (ą (đ 2) (ą (đ 3) (ą (mC (.int 0)) ĝ)))) (ą (ŏ (ą (đ 4) (ą (đ 5) (ą (mC (.int 0)) ĝ)))) (ą (ŏ (ą (đ 4) (ą (đ 5) (ą (đ 6) ĝ)))) (ą (ŏ (ą (đ 2) (ą (đ 3) (ą (đ 6) ĝ)))) ĝ))))))
 cH)
 (Ħ (b_ (cG (Ć Ū (ā 0) (mC (.str "sail"))))
 (ĳ (Ġ bN (Ċ 2 (Ċ 3 (Ċ 4 (Ċ 5 (Ċ 6 ĕ)))))))
 cH)
 (ĳ (Ľ ĵ (Ě (Ġ bN (Ċ 2 (Ċ 3 (Ċ 4 (Ċ 5 (ħ (mC (.int 0)) ĕ))))))) (Ě (Ġ bN (Ċ 2 (Ċ 3 (Ċ 4 (Ċ 5 (Ċ 6 ĕ))))))))))))))
noncomputable def lF:MF:=ŋ 2 9 nO
noncomputable def gZ:M Fl:=(Ħ (b_ (cG (Ć Ū (ā 0) (mC (.str "cloth"))))
 (ĳ (Ų [1] 1 (ů (Ě (aD (ą (mC (.int 0)) (ą (mC (.int 3)) (ą (mC (.int 6)) ĝ)))))) (gN 1) Ŗ (cI gY (ą (Ě (Nm (ā 0) (mP (đ 1)) (mP (Ě (Ľ ĵ (ā 1) (mC (.int 3))))))) ĝ))))
 cH)
 (Ħ (b_ (cG (Ć Ū (ā 0) (mC (.str "post"))))
 (Ħ (eY (gS 3 (ě (gN 7) (ě (gN 8) (ě (gN 6) Ŧ)))) (đ 1))
 (ĳ (Ġ lF (ħ (mC (.str "house")) (ħ (Ě (aD (ą (Ć ū (Ć Ğ (mC (.int 2)) (ā 7)) (mC (.int 1))) (ą (Ć ū (Ć Ğ (mC (.int 2)) (ā 8)) (mC (.int 1))) (ą (Ě (Ľ ĵ (Ć Ğ (mC (.int 2)) (ā 7)) (mC (.int 1)))) (ą (Ě (Ľ ĵ (Ć Ğ (mC (.int 2)) (ā 8)) (mC (.int 1)))) (ą (đ 6) ĝ))))))) ĕ)))))
 cH)
 (Ħ (eY (gS 5 (ě (gN 2) (ě (gN 3) (ě (gN 4) (ě (gN 5) (ě (gN 6) Ŧ)))))) (đ 1))
 (Ħ (b_ (cG (Ć Ū (ā 0) (mC (.str "fence"))))
 (ĳ (aD (ą (ŏ (ą (đ 2) (ą (đ 3) (ą (mC (.int 0)) ĝ)))) (ą (ŏ (ą (đ 4) (ą (đ 5) (ą (mC (.int 0)) ĝ)))) (ą (ŏ (ą (đ 4) (ą (đ 5) (ą (đ 6) ĝ)))) (ą (ŏ (ą (đ 2) (ą (đ 3) (ą (đ 6) ĝ)))) ĝ))))))
 cH)
 (Ħ (b_ (cG (Ć Ū (ā 0) (mC (.str "sail"))))
 (ĳ (Ġ bN (Ċ 2 (Ċ 3 (Ċ 4 (Ċ 5 (Ċ 6 ĕ)))))))
 cH)
 (ĳ (Ľ ĵ (Ě (Ġ bN (Ċ 2 (Ċ 3 (Ċ 4 (Ċ 5 (ħ (mC (.int 0)) ĕ))))))) (Ě (Ġ bN (Ċ 2 (Ċ 3 (Ċ 4 (Ċ 5 (Ċ 6 ĕ))))))))))))))
noncomputable def fL:MF:=ŋ 2 9 gZ
noncomputable def fM:M Fl:=(Ħ (eY (gS 4 (ě (gN 4) (ě (gN 5) (ě (gN 9) (ě (gN 10) Ŧ))))) (Ć ę (ā 1) (ā 2)))
 (Ħ (Ņ 6 (Ų [5] 1 (BR (ů (Ě (Ġ fL (Ċ 9 (Ċ 10 ĕ)))))) (gN 1) Ŗ (Ě (Ġ gO (Ċ 1 (Ċ 0 ĕ))))))
 (Ħ (Ņ 7 (Ġ jX (ħ (Ć ę (ā 3) (ā 2)) (Ċ 4 (Ċ 5 ĕ)))))
 (Ħ (b_ (pR 7 (cU (bZ (Ě (Ġ jZ (Ċ 7 (Ċ 6 (ħ (Ě (Ġ gO (ħ (ŏ (ą (Ć Ğ (mC (.int 2)) (Ć ę (ā 4) (mC (.int 0)))) (ą (Ć Ğ (mC (.int 2)) (Ć ę (ā 4) (mC (.int 1)))) (ą (mC (.int 0)) ĝ)))) (Ċ 5 ĕ)))) ĕ))))))))
 (ĳ (Š (mC (.bl false))))
 cH)
 (Ħ (Ņ 8 (Ġ nH (ħ (Ć ę (ā 3) (ā 2)) (Ċ 4 (Ċ 5 ĕ)))))
 (Ħ (b_ (pR 7 (lR (cU (bZ (cI (aW Zi Zj Zk Zl) (ą (ā 8) (ą (mC (.ty "bool")) ĝ))))) (cG (Ć cu (ā 8) (Ć Ū (Ć ę (ā 7) (mC (.int 0))) (mC (.str "in")))))))
 (ĳ (Š (mC (.bl false))))
 cH)
 (b_ (pR 7 (cG (Ć Ū (Ć ę (ā 7) (mC (.int 0))) (mC (.str "in")))))
 (Ae 7 1 (ŏ (ą (mC (.int 1)) (ą (mC (.int 1)) ĝ))))
 cH)))))))
noncomputable def nP:M Fl:=(Ħ (Ņ 4 (Ġ mY (ħ (Ě (Ġ dZ (Ċ 0 (ħ (Ć Ğ (mC (.int 3)) (ā 2)) ĕ)))) ĕ)))
 (Ħ (Ņ 5 (Ġ mZ (ħ (Ě (Ġ dZ (Ċ 0 (ħ (Ě (Ľ ĵ (Ć Ğ (mC (.int 3)) (ā 2)) (mC (.int 1)))) ĕ)))) ĕ)))
 (Ħ (eY (gS 2 (ě (gN 9) (ě (gN 10) Ŧ))) (Ě (Ġ fH (ħ (Ě (Ġ dZ (Ċ 0 (ħ (Ě (Ľ ĵ (Ć Ğ (mC (.int 3)) (ā 2)) (mC (.int 2)))) ĕ)))) (Ċ 4 (Ċ 5 ĕ))))))
 (t_ 1 (ŏ (ą (đ 4) (ą (đ 5) (ą (đ 9) (ą (đ 10) ĝ)))))))))
noncomputable def yC:M Fl:=(Ħ (Ņ 1 (aD ĝ))
 (Ħ (dH (cj bL (ą (mC (.int 2)) ĝ)) (gN 2) nP)
 (Ħ (Ņ 3 (Ų [] 1 (ţ 1) (gN 0) Ŗ (Ě (Ġ dY (ħ (Ć ę (ā 0) (mC (.int 2))) (ħ (Ě (Ea lW (ą (Ć ę (ā 0) (mC (.int 3))) ĝ))) ĕ))))))
 (Ħ (dH (ů (Ě (aD (ą (mC (.int 0)) (ą (mC (.int 1)) (ą (mC (.int 0)) ĝ)))))) (gN 2) fM)
 (ĳ (Š (mC (.bl true))))))))
noncomputable def nQ:MF:=ŋ 1 11 yC
set_option genInjectivity false
set_option genSizeOf false
structure Adr where
 Gw:Addr
 Gx:FuncData
 Gy:Addr
 Gz:FuncData
 GC:Addr
 GD:FuncData
 GF:Addr
 GJ:FuncData
 GK:Addr
 GP:FuncData
 GQ:Addr
 GR:FuncData
 GX:Addr
 GZ:FuncData
 G_:Addr
 Hf:FuncData
 Hg:Addr
 Hh:FuncData
 Hi:Addr
 Hj:FuncData
 kW:Addr
 yD:FuncData
 Hl:Addr
 Ho:FuncData
 Hq:Addr
 Hr:FuncData
 Vb:Addr
 Vc:FuncData
 Vd:Addr
 Ve:FuncData
 Hs:Addr
 Ht:FuncData
 Hv:Addr
 Hw:FuncData
 Hx:Addr
 Hy:FuncData
 Hz:Addr
 HB:FuncData
 HD:Addr
 HF:FuncData
 HJ:Addr
 HN:FuncData
 HS:Addr
 HW:FuncData
 HX:Addr
 HY:FuncData
 H_:Addr
 Ia:FuncData
 Ib:Addr
 Ie:FuncData
 Vf:Addr
 Vg:FuncData
 Vh:Addr
 Vi:FuncData
 Ig:Addr
 Ih:FuncData
 Ii:Addr
 Ij:FuncData
 Ik:Addr
 Il:FuncData
 Vj:Addr
 Vk:FuncData
 Im:Addr
 Io:FuncData
 Ip:Addr
 Ir:FuncData
 Iu:Addr
 Iv:FuncData
 Iw:Addr
 Iz:FuncData
 IK:Addr
 IV:FuncData
 Vl:Addr
 Vm:FuncData
 Vn:Addr
 Vo:FuncData
 IW:Addr
 I_:FuncData
 Ja:Addr
 Jb:FuncData
 Jc:Addr
 Jd:FuncData
 Je:Addr
 Jf:FuncData
 Vp:Addr
 Vq:FuncData
 Jg:Addr
 Jh:FuncData
 Ji:Addr
 Jj:FuncData
 Jk:Addr
 Jl:FuncData
 Jm:Addr
 Jo:FuncData
 Jp:Addr
 Jq:FuncData
 Jr:Addr
 Js:FuncData
 Vr:Addr
 Vs:FuncData
 Jt:Addr
 Ju:FuncData
 Jv:Addr
 Jw:FuncData
 Jx:Addr
 Jy:FuncData
 Jz:Addr
 JB:FuncData
 Ag:Addr
 Ah:FuncData
 JC:Addr
 JD:FuncData
 vP:Addr
 yE:Addr
 yF:Addr
 Ol:Addr
 Vt:Addr
 Om:Addr
 Vu:Addr
 Oo:Addr
 Oq:Addr
 oO:Tok
 sW:Tok
def ķ(a:Adr):String→Addr:=cR a.vP a.yE a.yF a.Ol a.Vt a.Om a.Vu a.Oo a.Oq
structure Tx(K:PySem.W.Frag)(mg:Str→Option Value)(a:Adr):Prop where
 Qk:aJ K "_law_stone" "_law_stone" uL a.Gw a.Gx
 mY:mg "_law_stone" =some (.ref a.Gw)
 Zbq:Binds K a.Gx ["_law_cell_here"] []
 JF:aJ K "_law_churn" "_law_churn" uM a.Gy a.Gz
 jO:mg "_law_churn" =some (.ref a.Gy)
 Ql:Binds K a.Gz ["_law_number","_law_k"] []
 JG:aJ K "_law_row" "_law_row" uN a.GC a.GD
 fC:mg "_law_row" =some (.ref a.GC)
 Qm:Binds K a.GD ["_law_cell_here","_law_many"] []
 Qn:aJ K "_law_ray" "_law_ray" uO a.GF a.GJ
 mZ:mg "_law_ray" =some (.ref a.GF)
 Zbr:Binds K a.GJ ["_law_cell_here"] []
 Ai:aJ K "_law_corner" "_law_corner" uP a.GK a.GP
 gH:mg "_law_corner" =some (.ref a.GK)
 JH:Binds K a.GP ["_law_number","_law_stone_here","_law_ray_here","_law_z"] []
 JK:aJ K "_law_rising" "_law_rising" uQ a.GQ a.GR
 iV:mg "_law_rising" =some (.ref a.GQ)
 Qo:Binds K a.GR ["_law_one","_law_other"] []
 Qp:aJ K "_law_beside" "_law_beside" uR a.GX a.GZ
 fH:mg "_law_beside" =some (.ref a.GX)
 Zbs:Binds K a.GZ ["_law_cell_here","_law_stone_here","_law_ray_here"] []
 qz:aJ K "is_place" "is_place" uT a.G_ a.Hf
 cN:mg "is_place" =some (.ref a.G_)
 vQ:Binds K a.Hf ["number"] []
 JL:aJ K "is_height" "is_height" uU a.Hg a.Hh
 jP:mg "is_height" =some (.ref a.Hg)
 Qq:Binds K a.Hh ["number"] []
 Qs:aJ K "makes_post" "makes_post" uV a.Hi a.Hj
 m_:mg "makes_post" =some (.ref a.Hi)
 Zbt:Binds K a.Hj ["numbers"] []
 JM:aJ K "__init__" "Thing.__init__" FZ a.kW a.yD
 JN:Binds K a.yD ["self","word","numbers"] []
 JQ:aJ K "has_two_ends" "has_two_ends" pU a.Hl a.Ho
 iW:mg "has_two_ends" =some (.ref a.Hl)
 Qt:Binds K a.Ho ["numbers"] []
 Qu:aJ K "makes_fence" "makes_fence" uW a.Hq a.Hr
 nu:mg "makes_fence" =some (.ref a.Hq)
 Zbu:Binds K a.Hr ["numbers"] []
 Vv:aJ K "makes_sail_or_house" "makes_sail_or_house" Ga a.Vb a.Vc
 rN:mg "makes_sail_or_house" =some (.ref a.Vb)
 Zbv:Binds K a.Vc ["numbers"] []
 Zbw:aJ K "is_cloth_corner" "is_cloth_corner" Gb a.Vd a.Ve
 BX:mg "is_cloth_corner" =some (.ref a.Vd)
 Zil:Binds K a.Ve ["numbers"] []
 Qv:aJ K "makes_cloth" "makes_cloth" pW a.Hs a.Ht
 nA:mg "makes_cloth" =some (.ref a.Hs)
 Zbx:Binds K a.Ht ["numbers"] []
 Qw:aJ K "thing_of" "thing_of" uX a.Hv a.Hw
 dY:mg "thing_of" =some (.ref a.Hv)
 Zby:Binds K a.Hw ["word","numbers"] []
 Qx:aJ K "box_lines" "box_lines" mV a.Hx a.Hy
 qj:mg "box_lines" =some (.ref a.Hx)
 Zbz:Binds K a.Hy ["points"] []
 Qy:aJ K "each_once" "each_once" uY a.Hz a.HB
 ql:mg "each_once" =some (.ref a.Hz)
 ZbA:Binds K a.HB ["points"] []
 Qz:aJ K "line_through" "line_through" uZ a.HD a.HF
 qm:mg "line_through" =some (.ref a.HD)
 ZbB:Binds K a.HF ["one","other"] []
 JR:aJ K "holds" "holds" u_ a.HJ a.HN
 gJ:mg "holds" =some (.ref a.HJ)
 QB:Binds K a.HN ["line","pair"] []
 QC:aJ K "edge_lines" "edge_lines" pX a.HS a.HW
 qp:mg "edge_lines" =some (.ref a.HS)
 ZbC:Binds K a.HW ["points"] []
 QD:aJ K "lines_about" "lines_about" vd a.HX a.HY
 qt:mg "lines_about" =some (.ref a.HX)
 ZbD:Binds K a.HY ["points"] []
 QF:aJ K "parting_line" "parting_line" vf a.H_ a.Ia
 nC:mg "parting_line" =some (.ref a.H_)
 ZbE:Binds K a.Ia ["points","point"] []
 JT:aJ K "pairs_below" "pairs_below" pY a.Ib a.Ie
 jQ:mg "pairs_below" =some (.ref a.Ib)
 QG:Binds K a.Ie ["many"] []
 ZbF:aJ K "triples_below" "triples_below" BW a.Vf a.Vg
 BZ:mg "triples_below" =some (.ref a.Vf)
 Zim:Binds K a.Vg ["many"] []
 ZbG:aJ K "greatest_divisor" "greatest_divisor" Gd a.Vh a.Vi
 B_:mg "greatest_divisor" =some (.ref a.Vh)
 Zin:Binds K a.Vi ["one","other"] []
 JV:aJ K "ratio" "ratio" vg a.Ig a.Ih
 fK:mg "ratio" =some (.ref a.Ig)
 QH:Binds K a.Ih ["top","bottom"] []
 Aj:aJ K "spread" "spread" pZ a.Ii a.Ij
 dj:mg "spread" =some (.ref a.Ii)
 JW:Binds K a.Ij ["shares","places","many"] []
 Ak:aJ K "turned" "turned" vh a.Ik a.Il
 gK:mg "turned" =some (.ref a.Ik)
 JX:Binds K a.Il ["one","other","third"] []
 ZbH:aJ K "shares_of_three" "shares_of_three" Ge a.Vj a.Vk
 Cd:mg "shares_of_three" =some (.ref a.Vj)
 Zio:Binds K a.Vk ["corners","point"] []
 JZ:aJ K "are_weights" "are_weights" qb a.Im a.Io
 iY:mg "are_weights" =some (.ref a.Im)
 QJ:Binds K a.Io ["shares"] []
 QK:aJ K "shares_of_two" "shares_of_two" vm a.Ip a.Ir
 qu:mg "shares_of_two" =some (.ref a.Ip)
 ZbI:Binds K a.Ir ["ends","point"] []
 QL:aJ K "weights_of" "weights_of" mW a.Iu a.Iv
 jR:mg "weights_of" =some (.ref a.Iu)
 ZbJ:Binds K a.Iv ["points","point"] []
 QM:aJ K "held" "held" vo a.Iw a.Iz
 nG:mg "held" =some (.ref a.Iw)
 ZbK:Binds K a.Iz ["points","point"] []
 J_:aJ K "cast" "cast" vp a.IK a.IV
 gM:mg "cast" =some (.ref a.IK)
 QS:Binds K a.IV ["point","ray"] []
 Ot:aJ K "level_corners" "level_corners" Gf a.Vl a.Vm
 oN:mg "level_corners" =some (.ref a.Vl)
 Vw:Binds K a.Vm ["x","y","u","v","z"] []
 Vx:aJ K "block_corners" "block_corners" Gg a.Vn a.Vo
 vM:mg "block_corners" =some (.ref a.Vn)
 ZbL:Binds K a.Vo ["x","y","u","v","h"] []
 ZbM:aJ K "corners" "Post.corners" vq a.IW a.I_
 ZbN:Binds K a.I_ ["self"] []
 ZbO:aJ K "corners" "Fence.corners" vA a.Ja a.Jb
 ZbP:Binds K a.Jb ["self"] []
 ZbQ:aJ K "corners" "Sail.corners" vB a.Jc a.Jd
 ZbR:Binds K a.Jd ["self"] []
 ZbS:aJ K "corners" "Cloth.corners" qd a.Je a.Jf
 ZbT:Binds K a.Jf ["self"] []
 Ziq:aJ K "corners" "House.corners" Gh a.Vp a.Vq
 Zir:Binds K a.Vq ["self"] []
 QT:aJ K "corner_casts" "corner_casts" qe a.Jg a.Jh
 qw:mg "corner_casts" =some (.ref a.Jg)
 ZbU:Binds K a.Jh ["thing","ray"] []
 QV:aJ K "stone_cast" "stone_cast" vC a.Ji a.Jj
 qy:mg "stone_cast" =some (.ref a.Ji)
 ZbV:Binds K a.Jj ["stone","ray"] []
 Ka:aJ K "shading" "shading" vD a.Jk a.Jl
 jX:mg "shading" =some (.ref a.Jk)
 QW:Binds K a.Jl ["thing","stone","ray"] []
 QX:aJ K "shades" "shades" vG a.Jm a.Jo
 nH:mg "shades" =some (.ref a.Jm)
 ZbW:Binds K a.Jo ["thing","stone","ray"] []
 Al:aJ K "_law_cell" "_law_cell" vH a.Jp a.Jq
 dZ:mg "_law_cell" =some (.ref a.Jp)
 Kc:Binds K a.Jq ["_law_script","_law_at"] []
 Kd:aJ K "_law_cast" "_law_cast" vI a.Jr a.Js
 gO:mg "_law_cast" =some (.ref a.Jr)
 QZ:Binds K a.Js ["_law_point","_law_ray_here"] []
 ZbX:aJ K "_law_fraction" "_law_fraction" Gi a.Vr a.Vs
 vO:mg "_law_fraction" =some (.ref a.Vr)
 Zis:Binds K a.Vs ["_law_found"] []
 Q_:aJ K "_law_in" "_law_in" jN a.Jt a.Ju
 jY:mg "_law_in" =some (.ref a.Jt)
 ZbY:Binds K a.Ju ["_law_weights","_law_points","_law_point"] []
 Rf:aJ K "_law_out" "_law_out" qg a.Jv a.Jw
 nM:mg "_law_out" =some (.ref a.Jv)
 ZbZ:Binds K a.Jw ["_law_line","_law_points","_law_point"] []
 Rg:aJ K "_law_walked" "_law_walked" vJ a.Jx a.Jy
 jZ:mg "_law_walked" =some (.ref a.Jx)
 Zb0:Binds K a.Jy ["_law_found","_law_points","_law_point"] []
 nR:aJ K "_law_level" "_law_level" vK a.Jz a.JB
 bN:mg "_law_level" =some (.ref a.Jz)
 qC:Binds K a.JB ["_law_x","_law_y","_law_u","_law_v","_law_z"] []
 Am:aJ K "_law_corners" "_law_corners" mX a.Ag a.Ah
 fL:mg "_law_corners" =some (.ref a.Ag)
 Rh:Binds K a.Ah ["_law_word","_law_numbers"] []
 Zb1:aJ K "law" "law" gG a.JC a.JD
 nQ:mg "law" =some (.ref a.JC)
 ZkZ:Binds K a.JD ["_law_script"] []
 Ri:mg "YardError" =some (.ref (ķ a "YardError"))
 yG:mg "NoNumber" =some (.ref (ķ a "NoNumber"))
 yH:mg "BadThing" =some (.ref (ķ a "BadThing"))
 Zgv:mg "Thing" =some (.ref (ķ a "Thing"))
 Vy:mg "Post" =some (.ref (ķ a "Post"))
 Ou:mg "Fence" =some (.ref (ķ a "Fence"))
 Vz:mg "Sail" =some (.ref (ķ a "Sail"))
 Ov:mg "Cloth" =some (.ref (ķ a "Cloth"))
 Ow:mg "House" =some (.ref (ķ a "House"))
 Rj:PySem.W.excIn K (ķ a "YardError") Bw NK=true
 Rk:PySem.W.keepIn K (.ref (ķ a "YardError"))=true
 Rm:cP K (ķ a "YardError")=true
 yI:PySem.W.excIn K (ķ a "NoNumber") Bw NK=true
 VB:PySem.W.keepIn K (.ref (ķ a "NoNumber"))=true
 VD:cP K (ķ a "NoNumber")=true
 yJ:PySem.W.excIn K (ķ a "BadThing") Bw NK=true
 VF:PySem.W.keepIn K (.ref (ķ a "BadThing"))=true
 VG:cP K (ķ a "BadThing")=true
 ŧ:Cls K (ķ a "Thing")
 Zgw:Mk K (ķ a "Thing") a.kW
 aP:ŭ K (ķ a "Thing") "word"
 Ĺ:ŭ K (ķ a "Thing") "numbers"
 Ŷ:Cls K (ķ a "Post")
 VH:Mk K (ķ a "Post") a.kW
 bG:ŭ K (ķ a "Post") "word"
 ŀ:ŭ K (ķ a "Post") "numbers"
 nT:Meth K (ķ a "Post") "corners" a.IW
 ŝ:Cls K (ķ a "Fence")
 Ox:Mk K (ķ a "Fence") a.kW
 aQ:ŭ K (ķ a "Fence") "word"
 ĺ:ŭ K (ķ a "Fence") "numbers"
 kY:Meth K (ķ a "Fence") "corners" a.Ja
 ŷ:Cls K (ķ a "Sail")
 VJ:Mk K (ķ a "Sail") a.kW
 bH:ŭ K (ķ a "Sail") "word"
 Ł:ŭ K (ķ a "Sail") "numbers"
 nU:Meth K (ķ a "Sail") "corners" a.Jc
 Ş:Cls K (ķ a "Cloth")
 Oz:Mk K (ķ a "Cloth") a.kW
 aR:ŭ K (ķ a "Cloth") "word"
 Ļ:ŭ K (ķ a "Cloth") "numbers"
 kZ:Meth K (ķ a "Cloth") "corners" a.Je
 ş:Cls K (ķ a "House")
 OD:Mk K (ķ a "House") a.kW
 aU:ŭ K (ķ a "House") "word"
 ļ:ŭ K (ķ a "House") "numbers"
 k_:Meth K (ķ a "House") "corners" a.Vp
 iC:qW (fun C D b=>cM K (ķ a C)=true∧PySem.W.kitOne K (.ref (ķ a C)) (.ref (ķ a D))=some b) Zi
 iT:qW (fun C D b=>cM K (ķ a C)=true∧PySem.W.kitOne K (.ref (ķ a C)) (.type D)=some b) Zj
 iD:mz (fun D=>PySem.W.kitOne K (.type "NoneType") (.ref (ķ a D))=some false) Zk
 iN:mz (fun D=>PySem.W.kitOne K (.type "NoneType") (.type D)=some false) Zl
 gP:mg "MOST_HEIGHT" =some (.int (1000000000) a.oO)
 iZ:mg "MOST_PLACE" =some (.int (1000000000) a.sW)
 Zb2:mg "abs" =none
 qD:mg "all" =none
 yK:mg "bool" =none
 Ke:mg "divmod" =none
 Kf:mg "int" =none
 Œ:mg "isinstance" =none
 fO:mg "len" =none
 g_:mg "list" =none
 Kg:mg "max" =none
 Kh:mg "min" =none
 bT:mg "range" =none
 Zb3:mg "str" =none
 Ao:mg "sum" =none
 gn:mg "tuple" =none
 Zb4:mg "zip" =none
theorem Kl:ė ["_law_cell_here"] ["_law_cell_here"] (ċ uL):=⟨rfl,rfl,rfl,by decide +kernel,rfl,by decide +kernel,by decide +kernel⟩
theorem sX:ė ["_law_number","_law_k","_law_high","_law_low"] ["_law_number","_law_k"] (ċ uM):=⟨rfl,rfl,rfl,by decide +kernel,rfl,by decide +kernel,by decide +kernel⟩
theorem jB:ė ["_law_cell_here","_law_many","_law_by","_law_found","_law_k"] ["_law_cell_here","_law_many"] (ċ uN):=⟨rfl,rfl,rfl,by decide +kernel,rfl,by decide +kernel,by decide +kernel⟩
theorem fP:ė ["_law_cell_here","_law_by","_law_a","_law_b","_law_c","_law_more"] ["_law_cell_here"] (ċ uO):=⟨rfl,rfl,rfl,by decide +kernel,rfl,by decide +kernel,by decide +kernel⟩
theorem sY:ė ["_law_number","_law_stone_here","_law_ray_here","_law_z","_law_a","_law_b","_law_c"] ["_law_number","_law_stone_here","_law_ray_here","_law_z"] (ċ uP):=⟨rfl,rfl,rfl,by decide +kernel,rfl,by decide +kernel,by decide +kernel⟩
theorem VL:ė ["_law_one","_law_other"] ["_law_one","_law_other"] (ċ uQ):=⟨rfl,rfl,rfl,by decide +kernel,rfl,by decide +kernel,by decide +kernel⟩
theorem Ű:ė ["_law_cell_here","_law_stone_here","_law_ray_here","_law_word","_law_numbers","_law_high","_law_at","_law_found","_law_k","_law_x","_law_y","_law_z","_law_u","_law_v"] ["_law_cell_here","_law_stone_here","_law_ray_here"] (ċ uR):=⟨rfl,rfl,rfl,by decide +kernel,rfl,by decide +kernel,by decide +kernel⟩
theorem VN:ė ["number"] ["number"] (ċ uT):=⟨rfl,rfl,rfl,by decide +kernel,rfl,by decide +kernel,by decide +kernel⟩
theorem VP:ė ["number"] ["number"] (ċ uU):=⟨rfl,rfl,rfl,by decide +kernel,rfl,by decide +kernel,by decide +kernel⟩
theorem VR:ė ["numbers"] ["numbers"] (ċ uV):=⟨rfl,rfl,rfl,by decide +kernel,rfl,by decide +kernel,by decide +kernel⟩
theorem vR:ė ["self","word","numbers"] ["self","word","numbers"] (ċ FZ):=⟨rfl,rfl,rfl,by decide +kernel,rfl,by decide +kernel,by decide +kernel⟩
theorem V_:ė ["numbers"] ["numbers"] (ċ pU):=⟨rfl,rfl,rfl,by decide +kernel,rfl,by decide +kernel,by decide +kernel⟩
theorem Wc:ė ["numbers"] ["numbers"] (ċ uW):=⟨rfl,rfl,rfl,by decide +kernel,rfl,by decide +kernel,by decide +kernel⟩
theorem Zb5:ė ["numbers"] ["numbers"] (ċ Ga):=⟨rfl,rfl,rfl,by decide +kernel,rfl,by decide +kernel,by decide +kernel⟩
theorem Zb6:ė ["numbers"] ["numbers"] (ċ Gb):=⟨rfl,rfl,rfl,by decide +kernel,rfl,by decide +kernel,by decide +kernel⟩
theorem Wd:ė ["numbers"] ["numbers"] (ċ pW):=⟨rfl,rfl,rfl,by decide +kernel,rfl,by decide +kernel,by decide +kernel⟩
theorem Wf:ė ["word","numbers"] ["word","numbers"] (ċ uX):=⟨rfl,rfl,rfl,by decide +kernel,rfl,by decide +kernel,by decide +kernel⟩
theorem yL:ė ["points","rights","downs"] ["points"] (ċ mV):=⟨rfl,rfl,rfl,by decide +kernel,rfl,by decide +kernel,by decide +kernel⟩
theorem yM:ė ["points","kept","point"] ["points"] (ċ uY):=⟨rfl,rfl,rfl,by decide +kernel,rfl,by decide +kernel,by decide +kernel⟩
theorem yN:ė ["one","other","l","m"] ["one","other"] (ċ uZ):=⟨rfl,rfl,rfl,by decide +kernel,rfl,by decide +kernel,by decide +kernel⟩
theorem Wg:ė ["line","pair"] ["line","pair"] (ċ u_):=⟨rfl,rfl,rfl,by decide +kernel,rfl,by decide +kernel,by decide +kernel⟩
theorem jC:ė ["points","lines","apart","one","other","line"] ["points"] (ċ pX):=⟨rfl,rfl,rfl,by decide +kernel,rfl,by decide +kernel,by decide +kernel⟩
theorem Wh:ė ["points"] ["points"] (ċ vd):=⟨rfl,rfl,rfl,by decide +kernel,rfl,by decide +kernel,by decide +kernel⟩
theorem Km:ė ["points","point","line"] ["points","point"] (ċ vf):=⟨rfl,rfl,rfl,by decide +kernel,rfl,by decide +kernel,by decide +kernel⟩
theorem yO:ė ["many","pairs","second"] ["many"] (ċ pY):=⟨rfl,rfl,rfl,by decide +kernel,rfl,by decide +kernel,by decide +kernel⟩
theorem Ko:ė ["many","triples","third"] ["many"] (ċ BW):=⟨rfl,rfl,rfl,by decide +kernel,rfl,by decide +kernel,by decide +kernel⟩
theorem Aq:ė ["one","other","rest"] ["one","other"] (ċ Gd):=⟨rfl,rfl,rfl,by decide +kernel,rfl,by decide +kernel,by decide +kernel⟩
theorem yP:ė ["top","bottom","divisor"] ["top","bottom"] (ċ vg):=⟨rfl,rfl,rfl,by decide +kernel,rfl,by decide +kernel,by decide +kernel⟩
theorem nW:ė ["shares","places","many","whole","weights","share","place"] ["shares","places","many"] (ċ pZ):=⟨rfl,rfl,rfl,by decide +kernel,rfl,by decide +kernel,by decide +kernel⟩
theorem Kp:ė ["one","other","third","right"] ["one","other","third"] (ċ vh):=⟨rfl,rfl,rfl,by decide +kernel,rfl,by decide +kernel,by decide +kernel⟩
theorem Ar:ė ["corners","point","one","other","third"] ["corners","point"] (ċ Ge):=⟨rfl,rfl,rfl,by decide +kernel,rfl,by decide +kernel,by decide +kernel⟩
theorem Kq:ė ["shares","whole"] ["shares"] (ċ qb):=⟨rfl,rfl,rfl,by decide +kernel,rfl,by decide +kernel,by decide +kernel⟩
theorem sZ:ė ["ends","point","right","down","gone"] ["ends","point"] (ċ vm):=⟨rfl,rfl,rfl,by decide +kernel,rfl,by decide +kernel,by decide +kernel⟩
theorem jD:ė ["points","point","many","places","shares"] ["points","point"] (ċ mW):=⟨rfl,rfl,rfl,by decide +kernel,rfl,by decide +kernel,by decide +kernel⟩
theorem Kr:ė ["points","point","line"] ["points","point"] (ċ vo):=⟨rfl,rfl,rfl,by decide +kernel,rfl,by decide +kernel,by decide +kernel⟩
theorem Wi:ė ["point","ray"] ["point","ray"] (ċ vp):=⟨rfl,rfl,rfl,by decide +kernel,rfl,by decide +kernel,by decide +kernel⟩
theorem Zb7:ė ["x","y","u","v","z"] ["x","y","u","v","z"] (ċ Gf):=⟨rfl,rfl,rfl,by decide +kernel,rfl,by decide +kernel,by decide +kernel⟩
theorem Zb8:ė ["x","y","u","v","h"] ["x","y","u","v","h"] (ċ Gg):=⟨rfl,rfl,rfl,by decide +kernel,rfl,by decide +kernel,by decide +kernel⟩
theorem yQ:ė ["self","right","down"] ["self"] (ċ vq):=⟨rfl,rfl,rfl,by decide +kernel,rfl,by decide +kernel,by decide +kernel⟩
theorem tu:ė ["self","given","one","other"] ["self"] (ċ vA):=⟨rfl,rfl,rfl,by decide +kernel,rfl,by decide +kernel,by decide +kernel⟩
theorem Ks:ė ["self","given"] ["self"] (ċ vB):=⟨rfl,rfl,rfl,by decide +kernel,rfl,by decide +kernel,by decide +kernel⟩
theorem Wj:ė ["self"] ["self"] (ċ qd):=⟨rfl,rfl,rfl,by decide +kernel,rfl,by decide +kernel,by decide +kernel⟩
theorem Rn:ė ["self","given"] ["self"] (ċ Gh):=⟨rfl,rfl,rfl,by decide +kernel,rfl,by decide +kernel,by decide +kernel⟩
theorem Wk:ė ["thing","ray"] ["thing","ray"] (ċ qe):=⟨rfl,rfl,rfl,by decide +kernel,rfl,by decide +kernel,by decide +kernel⟩
theorem Wm:ė ["stone","ray"] ["stone","ray"] (ċ vC):=⟨rfl,rfl,rfl,by decide +kernel,rfl,by decide +kernel,by decide +kernel⟩
theorem Wn:ė ["thing","stone","ray"] ["thing","stone","ray"] (ċ vD):=⟨rfl,rfl,rfl,by decide +kernel,rfl,by decide +kernel,by decide +kernel⟩
theorem Wo:ė ["thing","stone","ray"] ["thing","stone","ray"] (ċ vG):=⟨rfl,rfl,rfl,by decide +kernel,rfl,by decide +kernel,by decide +kernel⟩
theorem Wq:ė ["_law_script","_law_at"] ["_law_script","_law_at"] (ċ vH):=⟨rfl,rfl,rfl,by decide +kernel,rfl,by decide +kernel,by decide +kernel⟩
theorem Wr:ė ["_law_point","_law_ray_here"] ["_law_point","_law_ray_here"] (ċ vI):=⟨rfl,rfl,rfl,by decide +kernel,rfl,by decide +kernel,by decide +kernel⟩
theorem vU:ė ["_law_found","_law_number","_law_one","_law_other"] ["_law_found"] (ċ Gi):=⟨rfl,rfl,rfl,by decide +kernel,rfl,by decide +kernel,by decide +kernel⟩
theorem h_:ė ["_law_weights","_law_points","_law_point","_law_common","_law_shares","_law_axis","_law_top","_law_bottom"] ["_law_weights","_law_points","_law_point"] (ċ jN):=⟨rfl,rfl,rfl,by decide +kernel,rfl,by decide +kernel,by decide +kernel⟩
theorem nY:ė ["_law_line","_law_points","_law_point","_law_number","_law_l","_law_m","_law_n"] ["_law_line","_law_points","_law_point"] (ċ qg):=⟨rfl,rfl,rfl,by decide +kernel,rfl,by decide +kernel,by decide +kernel⟩
theorem Ws:ė ["_law_found","_law_points","_law_point"] ["_law_found","_law_points","_law_point"] (ċ vJ):=⟨rfl,rfl,rfl,by decide +kernel,rfl,by decide +kernel,by decide +kernel⟩
theorem Wt:ė ["_law_x","_law_y","_law_u","_law_v","_law_z"] ["_law_x","_law_y","_law_u","_law_v","_law_z"] (ċ vK):=⟨rfl,rfl,rfl,by decide +kernel,rfl,by decide +kernel,by decide +kernel⟩
theorem Ÿ:ė ["_law_word","_law_numbers","_law_x","_law_y","_law_u","_law_v","_law_h","_law_p","_law_q"] ["_law_word","_law_numbers"] (ċ mX):=⟨rfl,rfl,rfl,by decide +kernel,rfl,by decide +kernel,by decide +kernel⟩
theorem au:ė ["_law_script","_law_told","_law_k","_law_things","_law_stone_here","_law_ray_here","_law_points","_law_found","_law_answer","_law_word","_law_numbers"] ["_law_script"] (ċ gG):=⟨rfl,rfl,rfl,by decide +kernel,rfl,by decide +kernel,by decide +kernel⟩
section
variable{P:Program}{w:World}{K:PySem.W.Frag}{mg:Str→Option Value}{base:Heap}{a:Adr}
theorem Wu(T:Tx K mg a):ľ P w K mg base (ź P w) 1 a.Gw a.Gx ["_law_cell_here"] (ak ⟨K,ķ a⟩ 1 mY):=by
 refine aV (cm:=ķ a) (mb:=rC) T.Qk Kl rfl rfl rfl fun cdv A outer s H E hr=>?_
 have hu:=hr.units
 exact(ĉ (ĸ (i:=0) Kl.nd rfl (Or.inl rfl) (Ķ (Ď Ŏ ō (Ă 0) (Ā (Ď aN aL (Ā ă) (Ā ă))))))
  (ĉ (Ţ (ŉ ś (Ň hu) (Ā (Ď Ŏ ō (Ă 0) (Ā ă))) (Ā ă) (ĭ _))
  (č (ģ (Ķ (Ŀ (Ą (Ď Ŕ œ (Ā (Ď Ŏ ō (Ā (Ď Ś Ō (Ă 0) (Ā ă))) (Ā ă))) (Ā ă)) (Ą (Ď Ŕ œ (Ā (Ď Ŏ ō (Ā (Ď Ś Ō (Ă 0) (Ā ă))) (Ā ă))) (Ā ă)) ğ))))))
  Ĵ)
  (č (ģ (Ķ (Ŀ (Ą (Ď Ŏ ō (Ā (Ď Ś Ō (Ă 0) (Ā ă))) (Ā ă)) (Ą (Ď Ŏ ō (Ā (Ď Ś Ō (Ă 0) (Ā ă))) (Ā ă)) ğ))))))))
theorem Ku(T:Tx K mg a):ľ P w K mg base (ź P w) 1 a.Gy a.Gz ["_law_number","_law_k"] (ak ⟨K,ķ a⟩ 2 jO):=by
 refine aV (cm:=ķ a) (mb:=xJ) T.JF sX rfl rfl rfl fun cdv A outer s H E hr=>?_
 have hu:=hr.units
 exact(ĉ (ĸ (i:=0) sX.nd rfl (Or.inl rfl) (ł İ į (Ā (ĥ (ł İ į (Ā (Ď Ŏ ō (Ă 0) (Ā ă))) (Ā (Ď Ī Ę (Ā ă) (Ă 1)))))) (Ā ă)))
  (ĉ (cg (PE.wk (ĩ Br (by rfl) T.Ke PyProof.Rows.boot_divmod (Ė (Ā (ĥ (ł İ į (Ā (Ď Ī Ę (Ă 0) (Ā ă))) (Ā (Ď Ī Ę (Ă 1) (Ā ă)))))) (Ė (Ā ă) ı))) fun _ _ _ h=>Ũ Bt h) (cD rfl (Ĥ (ē (i:=2) sX.nd rfl (Or.inl rfl)) (Ĥ (ē (i:=3) sX.nd rfl (Or.inl rfl)) Ů))))
  (č (ģ (Ķ (Ď Ŏ ō (Ā (ĥ (ł İ į (Ā (ĥ (ł İ į (Ā (Ď Ī Ę (Ă 2) (Ă 2))) (Ā (Ď Ī Ę (Ă 3) (Ā (ĥ (ł İ į (Ă 3) (Ā ă))))))))) (Ă 1)))) (Ā ă)))))))
theorem Kv(T:Tx K mg a):ľ P w K mg base (ź P w) 2 a.GC a.GD ["_law_cell_here","_law_many"] (ak ⟨K,ķ a⟩ 2 fC):=by
 refine aV (cm:=ķ a) (mb:=xK) T.JG jB rfl rfl rfl fun cdv A outer s H E hr=>?_
 have hu:=hr.units
 exact(ĉ (ĸ (i:=2) jB.nd rfl (Or.inl rfl) (Ķ (Ď Ŏ ō (Ă 0) (Ā ă))))
  (ĉ (ĸ (i:=0) jB.nd rfl (Or.inl rfl) (Ķ (Ď Ŏ ō (Ā (Ď Ś Ō (Ă 0) (Ā ă))) (Ā (Ď Ī Ę (Ā (Ď Ī Ę (Ā (Ď aN aL (Ā ă) (Ā ă))) (Ā (Ď aN aL (Ā ă) (Ā ă))))) (Ā (Ď aN aL (Ā ă) (Ā ă))))))))
  (ĉ (ĸ (i:=3) jB.nd rfl (Or.inl rfl) (ť ğ))
  (ĉ (bF PassesOwn.leaving rfl (aM rfl T.bT (Ą (v_var 1) ğ)) (ē (i:=4) jB.nd rfl (Or.inl rfl))
  (č (Ţ (ŉ ś (Ň hu) (Ă 2) (Ā ă) (ĭ _))
  (ĉ (PS.wk (cJ (jH PySem.F.plainAttrs_list PySem.F.slot_list_append PySem.F.type_list_append aG (pv 3) (Ą (Ď Ŏ ō (Ă 0) (Ā (Ď aN aL (Ā ă) (Ā ă)))) ğ))) fun _ _ _ h=>iI h)
  (č (ĸ (i:=0) jB.nd rfl (Or.inl rfl) (Ķ (Ď Ś Ō (Ă 0) (Ā (Ď aN aL (Ā ă) (Ā ă))))))))
  (č (PS.wk (cJ (jH PySem.F.plainAttrs_list PySem.F.slot_list_append PySem.F.type_list_append aG (pv 3) (Ą (ĥ (Ĕ (Ku T) Č (hr.mono (by decide)) rfl T.jO T.JF.kp T.Ql ī (Ĝ (ĥ (ł İ į (Ā (ĥ (Ĕ (Ku T) Č (hr.mono (by decide)) rfl T.jO T.JF.kp T.Ql ī (Ĉ 0 (hr:=(Ĉ 4 (hr:=Ē))))))) (Ă 0))) (Ĉ 4 (hr:=Ē))))) ğ))) fun _ _ _ h=>iI h)))))
  (č (ģ (lQ 3)))))))
theorem Wv(T:Tx K mg a):ľ P w K mg base (ź P w) 3 a.GF a.GJ ["_law_cell_here"] (ak ⟨K,ķ a⟩ 1 mZ):=by
 refine aV (cm:=ķ a) (mb:=rD) T.Qn fP rfl rfl rfl fun cdv A outer s H E hr=>?_
 have hu:=hr.units
 exact(@ĉ _ _ _ _ _ _ _ (@Ţ _ _ _ _ _ _ _ _ _ _ (@ŉ _ _ _ _ _ _ _ _ _ _ _ (@ś _) (@Ň _ hu) (@Ā _ _ _ _ _ (@Ď _ _ _ _ _ _ _ _ _ _ _ (@Ŏ _) (@ō _) (@Ă _ _ _ 0 _ _ (by rfl) (by first|exact Or.inl rfl|exact Or.inr (Or.inl rfl)|exact Or.inr (Or.inr rfl)) (by decide) (by decide)) (@Ā _ _ _ _ _ (@ă _ _ _ _ _ _)))) (@Ā _ _ _ _ _ (@ă _ _ _ _ _ _)) (ĭ _)) (@ĉ _ _ _ _ _ _ _ (@cg _ _ _ _ _ _ _ _ (@ĥ _ _ _ _ _ (@Ĕ _ _ _ _ _ _ _ _ _ _ _ _ _ _ _ _ (Kv T) Č (hr.mono (by decide)) rfl T.fC T.JG.kp T.Qm (@ī _ _ _ _ _ _ _ _ _ _ _ _ _ _ _) (@Ĝ _ _ _ _ _ _ _ (@Ď _ _ _ _ _ _ _ _ _ _ _ (@Ś _) (@Ō _) (@Ă _ _ _ 0 _ _ (by rfl) (by first|exact Or.inl rfl|exact Or.inr (Or.inl rfl)|exact Or.inr (Or.inr rfl)) (by decide) (by decide)) (@Ā _ _ _ _ _ (@ă _ _ _ _ _ _))) (@Ĝ _ _ _ _ _ _ _ (@ă _ _ _ _ _ _) (@Ē _ _ _) (by exact ć rfl)) (by exact ć rfl)) (by decide) (by exact ć rfl) (by rfl))) (@cD _ _ _ _ _ _ _ rfl (@Ĥ _ _ _ _ _ _ (@ē _ _ _ 2 _ fP.nd rfl (Or.inl rfl) (by first|exact .inl rfl|exact .inr rfl|assumption)) (@Ĥ _ _ _ _ _ _ (@ē _ _ _ 3 _ fP.nd rfl (Or.inl rfl) (by first|exact .inl rfl|exact .inr rfl|assumption)) (@Ĥ _ _ _ _ _ _ (@ē _ _ _ 4 _ fP.nd rfl (Or.inl rfl) (by first|exact .inl rfl|exact .inr rfl|assumption)) (@Ĥ _ _ _ _ _ _ (@ē _ _ _ 5 _ fP.nd rfl (Or.inl rfl) (by first|exact .inl rfl|exact .inr rfl|assumption)) (@Ů _ _) (by rfl)) (by rfl)) (by rfl)) (by rfl)) (by rfl) (by rfl)) (by rfl) (by rfl) (by rfl)) (@ĉ _ _ _ _ _ _ _ (@ĸ _ _ _ _ _ _ 2 _ _ fP.nd rfl (Or.inl rfl) (@ł _ _ _ _ _ _ _ _ _ _ _ (@İ _) (@į _) (@Ă _ _ _ 2 _ _ (by rfl) (by first|exact Or.inl rfl|exact Or.inr (Or.inl rfl)|exact Or.inr (Or.inr rfl)) (by decide) (by decide)) (@Ā _ _ _ _ _ (@Ď _ _ _ _ _ _ _ _ _ _ _ (@Ī _) (@Ę _) (@Ā _ _ _ _ _ (@Ď _ _ _ _ _ _ _ _ _ _ _ (@Ŏ _) (@ō _) (@Ă _ _ _ 5 _ _ (by rfl) (by first|exact Or.inl rfl|exact Or.inr (Or.inl rfl)|exact Or.inr (Or.inr rfl)) (by decide) (by decide)) (@Ā _ _ _ _ _ (@ă _ _ _ _ _ _)))) (@Ā _ _ _ _ _ (@Ď _ _ _ _ _ _ _ _ _ _ _ (@aN _) (@aL _) (@Ā _ _ _ _ _ (@ă _ _ _ _ _ _)) (@Ā _ _ _ _ _ (@ă _ _ _ _ _ _))))))) (by rfl) (by first|exact .inl rfl|exact .inr rfl|assumption)) (@ĉ _ _ _ _ _ _ _ (@ĸ _ _ _ _ _ _ 3 _ _ fP.nd rfl (Or.inl rfl) (@ł _ _ _ _ _ _ _ _ _ _ _ (@İ _) (@į _) (@Ă _ _ _ 3 _ _ (by rfl) (by first|exact Or.inl rfl|exact Or.inr (Or.inl rfl)|exact Or.inr (Or.inr rfl)) (by decide) (by decide)) (@Ā _ _ _ _ _ (@Ď _ _ _ _ _ _ _ _ _ _ _ (@Ī _) (@Ę _) (@Ā _ _ _ _ _ (@Ď _ _ _ _ _ _ _ _ _ _ _ (@Ŏ _) (@ō _) (@Ā _ _ _ _ _ (@Ď _ _ _ _ _ _ _ _ _ _ _ (@Ś _) (@Ō _) (@Ă _ _ _ 5 _ _ (by rfl) (by first|exact Or.inl rfl|exact Or.inr (Or.inl rfl)|exact Or.inr (Or.inr rfl)) (by decide) (by decide)) (@Ā _ _ _ _ _ (@ă _ _ _ _ _ _)))) (@Ā _ _ _ _ _ (@ă _ _ _ _ _ _)))) (@Ā _ _ _ _ _ (@Ď _ _ _ _ _ _ _ _ _ _ _ (@aN _) (@aL _) (@Ā _ _ _ _ _ (@ă _ _ _ _ _ _)) (@Ā _ _ _ _ _ (@ă _ _ _ _ _ _))))))) (by rfl) (by first|exact .inl rfl|exact .inr rfl|assumption)) (@č _ _ _ _ _ (@ģ _ _ _ _ _ _ (@Ķ _ _ _ _ _ (@Ŀ _ _ _ _ _ _ _ (@Ą _ _ _ _ _ _ _ (@Ď _ _ _ _ _ _ _ _ _ _ _ (@Ŕ _) (@œ _) (@Ā _ _ _ _ _ (@Ď _ _ _ _ _ _ _ _ _ _ _ (@Ŏ _) (@ō _) (@Ă _ _ _ 2 _ _ (by rfl) (by first|exact Or.inl rfl|exact Or.inr (Or.inl rfl)|exact Or.inr (Or.inr rfl)) (by decide) (by decide)) (@Ā _ _ _ _ _ (@ĥ _ _ _ _ _ (@ł _ _ _ _ _ _ _ _ _ _ _ (@İ _) (@į _) (@Ā _ _ _ _ _ (@Ď _ _ _ _ _ _ _ _ _ _ _ (@Ī _) (@Ę _) (@Ā _ _ _ _ _ (@ă _ _ _ _ _ _)) (@Ā _ _ _ _ _ (@Ď _ _ _ _ _ _ _ _ _ _ _ (@aN _) (@aL _) (@Ā _ _ _ _ _ (@ă _ _ _ _ _ _)) (@Ā _ _ _ _ _ (@ă _ _ _ _ _ _)))))) (@Ā _ _ _ _ _ (@ă _ _ _ _ _ _))))))) (@Ā _ _ _ _ _ (@Ď _ _ _ _ _ _ _ _ _ _ _ (@aN _) (@aL _) (@Ā _ _ _ _ _ (@ă _ _ _ _ _ _)) (@Ā _ _ _ _ _ (@ă _ _ _ _ _ _))))) (@Ą _ _ _ _ _ _ _ (@Ď _ _ _ _ _ _ _ _ _ _ _ (@Ŕ _) (@œ _) (@Ā _ _ _ _ _ (@Ď _ _ _ _ _ _ _ _ _ _ _ (@Ŏ _) (@ō _) (@Ă _ _ _ 3 _ _ (by rfl) (by first|exact Or.inl rfl|exact Or.inr (Or.inl rfl)|exact Or.inr (Or.inr rfl)) (by decide) (by decide)) (@Ā _ _ _ _ _ (@ĥ _ _ _ _ _ (@ł _ _ _ _ _ _ _ _ _ _ _ (@İ _) (@į _) (@Ā _ _ _ _ _ (@Ď _ _ _ _ _ _ _ _ _ _ _ (@Ī _) (@Ę _) (@Ā _ _ _ _ _ (@ă _ _ _ _ _ _)) (@Ā _ _ _ _ _ (@Ď _ _ _ _ _ _ _ _ _ _ _ (@aN _) (@aL _) (@Ā _ _ _ _ _ (@ă _ _ _ _ _ _)) (@Ā _ _ _ _ _ (@ă _ _ _ _ _ _)))))) (@Ā _ _ _ _ _ (@ă _ _ _ _ _ _))))))) (@Ā _ _ _ _ _ (@Ď _ _ _ _ _ _ _ _ _ _ _ (@aN _) (@aL _) (@Ā _ _ _ _ _ (@ă _ _ _ _ _ _)) (@Ā _ _ _ _ _ (@ă _ _ _ _ _ _))))) (@Ą _ _ _ _ _ _ _ (@ĥ _ _ _ _ _ (@ł _ _ _ _ _ _ _ _ _ _ _ (@İ _) (@į _) (@Ā _ _ _ _ _ (@ă _ _ _ _ _ _)) (@Ā _ _ _ _ _ (@Ď _ _ _ _ _ _ _ _ _ _ _ (@Ŏ _) (@ō _) (@Ă _ _ _ 4 _ _ (by rfl) (by first|exact Or.inl rfl|exact Or.inr (Or.inl rfl)|exact Or.inr (Or.inr rfl)) (by decide) (by decide)) (@Ā _ _ _ _ _ (@Ď _ _ _ _ _ _ _ _ _ _ _ (@aN _) (@aL _) (@Ā _ _ _ _ _ (@ă _ _ _ _ _ _)) (@Ā _ _ _ _ _ (@ă _ _ _ _ _ _)))))))) (@ğ _ _ _) (by exact ć rfl)) (by exact ć rfl)) (by exact ć rfl))))))))) (@Ĵ _ _ _)) (@ĉ _ _ _ _ _ _ _ (@ĸ _ _ _ _ _ _ 1 _ _ fP.nd rfl (Or.inl rfl) (@Ķ _ _ _ _ _ (@Ĩ _ _ _ _ _ _ _ _ _ _ (@Đ _) (@ď _) (@Ā _ _ _ _ _ (@ĥ _ _ _ _ _ (@ť _ _ _ _ _ _ (@Ą _ _ _ _ _ _ _ (@ă _ _ _ _ _ _) (@Ą _ _ _ _ _ _ _ (@ă _ _ _ _ _ _) (@Ą _ _ _ _ _ _ _ (@ă _ _ _ _ _ _) (@Ą _ _ _ _ _ _ _ (@Ď _ _ _ _ _ _ _ _ _ _ _ (@aN _) (@aL _) (@Ā _ _ _ _ _ (@ă _ _ _ _ _ _)) (@Ā _ _ _ _ _ (@ă _ _ _ _ _ _))) (@ğ _ _ _) (by exact ć rfl)) (by exact ć rfl)) (by exact ć rfl)) (by exact ć rfl))))) (@Ā _ _ _ _ _ (@Ď _ _ _ _ _ _ _ _ _ _ _ (@Ŏ _) (@ō _) (@Ā _ _ _ _ _ (@Ď _ _ _ _ _ _ _ _ _ _ _ (@Ś _) (@Ō _) (@Ă _ _ _ 0 _ _ (by rfl) (by first|exact Or.inl rfl|exact Or.inr (Or.inl rfl)|exact Or.inr (Or.inr rfl)) (by decide) (by decide)) (@Ā _ _ _ _ _ (@ă _ _ _ _ _ _)))) (@Ā _ _ _ _ _ (@ă _ _ _ _ _ _)))) (fun _ _=>rfl))) (by rfl) (by first|exact .inl rfl|exact .inr rfl|assumption)) (@č _ _ _ _ _ (@ģ _ _ _ _ _ _ (@Ķ _ _ _ _ _ (@Ŀ _ _ _ _ _ _ _ (@Ą _ _ _ _ _ _ _ (@Ď _ _ _ _ _ _ _ _ _ _ _ (@Ī _) (@Ę _) (@Ă _ _ _ 1 _ _ (by rfl) (by first|exact Or.inl rfl|exact Or.inr (Or.inl rfl)|exact Or.inr (Or.inr rfl)) (by decide) (by decide)) (@Ā _ _ _ _ _ (@Ď _ _ _ _ _ _ _ _ _ _ _ (@Ŕ _) (@œ _) (@Ā _ _ _ _ _ (@Ď _ _ _ _ _ _ _ _ _ _ _ (@Ŏ _) (@ō _) (@Ā _ _ _ _ _ (@Ď _ _ _ _ _ _ _ _ _ _ _ (@Ś _) (@Ō _) (@Ă _ _ _ 0 _ _ (by rfl) (by first|exact Or.inl rfl|exact Or.inr (Or.inl rfl)|exact Or.inr (Or.inr rfl)) (by decide) (by decide)) (@Ā _ _ _ _ _ (@ă _ _ _ _ _ _)))) (@Ā _ _ _ _ _ (@ă _ _ _ _ _ _)))) (@Ā _ _ _ _ _ (@ă _ _ _ _ _ _))))) (@Ą _ _ _ _ _ _ _ (@Ď _ _ _ _ _ _ _ _ _ _ _ (@Ī _) (@Ę _) (@Ă _ _ _ 1 _ _ (by rfl) (by first|exact Or.inl rfl|exact Or.inr (Or.inl rfl)|exact Or.inr (Or.inr rfl)) (by decide) (by decide)) (@Ā _ _ _ _ _ (@Ď _ _ _ _ _ _ _ _ _ _ _ (@Ŕ _) (@œ _) (@Ā _ _ _ _ _ (@Ď _ _ _ _ _ _ _ _ _ _ _ (@Ŏ _) (@ō _) (@Ā _ _ _ _ _ (@Ď _ _ _ _ _ _ _ _ _ _ _ (@Ś _) (@Ō _) (@Ă _ _ _ 0 _ _ (by rfl) (by first|exact Or.inl rfl|exact Or.inr (Or.inl rfl)|exact Or.inr (Or.inr rfl)) (by decide) (by decide)) (@Ā _ _ _ _ _ (@ă _ _ _ _ _ _)))) (@Ā _ _ _ _ _ (@ă _ _ _ _ _ _)))) (@Ā _ _ _ _ _ (@ă _ _ _ _ _ _))))) (@Ą _ _ _ _ _ _ _ (@Ď _ _ _ _ _ _ _ _ _ _ _ (@Ī _) (@Ę _) (@Ă _ _ _ 1 _ _ (by rfl) (by first|exact Or.inl rfl|exact Or.inr (Or.inl rfl)|exact Or.inr (Or.inr rfl)) (by decide) (by decide)) (@Ā _ _ _ _ _ (@ĥ _ _ _ _ _ (@ł _ _ _ _ _ _ _ _ _ _ _ (@İ _) (@į _) (@Ā _ _ _ _ _ (@ă _ _ _ _ _ _)) (@Ā _ _ _ _ _ (@Ď _ _ _ _ _ _ _ _ _ _ _ (@Ŏ _) (@ō _) (@Ā _ _ _ _ _ (@Ď _ _ _ _ _ _ _ _ _ _ _ (@Ś _) (@Ō _) (@Ă _ _ _ 0 _ _ (by rfl) (by first|exact Or.inl rfl|exact Or.inr (Or.inl rfl)|exact Or.inr (Or.inr rfl)) (by decide) (by decide)) (@Ā _ _ _ _ _ (@ă _ _ _ _ _ _)))) (@Ā _ _ _ _ _ (@ă _ _ _ _ _ _)))))))) (@ğ _ _ _) (by exact ć rfl)) (by exact ć rfl)) (by exact ć rfl))))))))
theorem yR(T:Tx K mg a):ľ P w K mg base (ź P w) 1 a.GK a.GP ["_law_number","_law_stone_here","_law_ray_here","_law_z"] (ak ⟨K,ķ a⟩ 4 gH):=by
 refine aV (cm:=ķ a) (mb:=xM) T.Ai sY rfl rfl rfl fun cdv A outer s H E hr=>?_
 have hu:=hr.units
 exact(ĉ (cg (v_var 2) (cD rfl (Ĥ (ē (i:=4) sY.nd rfl (Or.inl rfl)) (Ĥ (ē (i:=5) sY.nd rfl (Or.inl rfl)) (Ĥ (ē (i:=6) sY.nd rfl (Or.inl rfl)) Ů)))))
  (č (ģ (ť (Ą (Ď Ŕ œ (Ā (ĥ (ł İ į (Ā (Ď Ŕ œ (Ā (Ď Ī Ę (Ā ă) (Ā (Ĩ Đ ď (Ă 1) (Ā ă) (fun _ _=>rfl))))) (Ā (Ď Ś Ō (Ā (Ď Ī Ę (Ă 4) (Ă 3))) (Ă 6))))) (Ā (Ď Ŏ ō (Ă 0) (Ā ă)))))) (Ā ă)) (Ą (Ď Ŕ œ (Ā (ĥ (ł İ į (Ā (Ď Ŕ œ (Ā (Ď Ī Ę (Ā ă) (Ā (Ĩ Đ ď (Ă 1) (Ā ă) (fun _ _=>rfl))))) (Ā (Ď Ś Ō (Ā (Ď Ī Ę (Ă 5) (Ă 3))) (Ă 6))))) (Ā (Ď Ŏ ō (Ā (Ď Ś Ō (Ă 0) (Ā ă))) (Ā ă)))))) (Ā ă)) (Ą (v_var 3) ğ)))))))
theorem Kw(T:Tx K mg a):ľ P w K mg base (ź P w) 1 a.GQ a.GR ["_law_one","_law_other"] (ak ⟨K,ķ a⟩ 2 iV):=by
 refine aV (cm:=ķ a) (mb:=rE) T.JK VL rfl rfl rfl fun cdv A outer s H E hr=>?_
 have hu:=hr.units
 exact(ĉ (Ţ (ŉ ś (Ň hu) (Ă 0) (Ă 1) (ĭ _))
  (č (ģ (Ķ (Ŀ (Ą (v_var 0) (Ą (ĥ (ł İ į (Ă 0) (Ā ă))) ğ))))))
  Ĵ)
  (č (ģ (Ķ (Ŀ (Ą (PE.wk (ĩ (Mj rfl) (by rfl) T.Kh PyProof.Rows.boot_min (Ė (Ă 0) (Ė (Ă 1) ı))) fun _ _ _ h=>Ũ Nq h) (Ą (PE.wk (ĩ (Ml rfl) (by rfl) T.Kg PyProof.Rows.boot_max (Ė (Ă 0) (Ė (Ă 1) ı))) fun _ _ _ h=>Ũ Nr h) ğ)))))))
theorem Ww(T:Tx K mg a):ľ P w K mg base (ź P w) 3 a.GX a.GZ ["_law_cell_here","_law_stone_here","_law_ray_here"] (ak ⟨K,ķ a⟩ 3 fH):=by
 refine aV (cm:=ķ a) (mb:=fG) T.Qp Ű rfl rfl rfl fun cdv A outer s H E hr=>?_
 have hu:=hr.units
 exact(@ĉ _ _ _ _ _ _ _ (@ĸ _ _ _ _ _ _ 3 _ _ Ű.nd rfl (Or.inl rfl) (@Ķ _ _ _ _ _ (@Ĩ _ _ _ _ _ _ _ _ _ _ (@Đ _) (@ď _) (@Ā _ _ _ _ _ (@ĥ _ _ _ _ _ (@ť _ _ _ _ _ _ (@Ą _ _ _ _ _ _ _ (@š _ _ _ _ _ _) (@Ą _ _ _ _ _ _ _ (@š _ _ _ _ _ _) (@Ą _ _ _ _ _ _ _ (@š _ _ _ _ _ _) (@Ą _ _ _ _ _ _ _ (@š _ _ _ _ _ _) (@Ą _ _ _ _ _ _ _ (@š _ _ _ _ _ _) (@ğ _ _ _) (by exact ć rfl)) (by exact ć rfl)) (by exact ć rfl)) (by exact ć rfl)) (by exact ć rfl))))) (@Ā _ _ _ _ _ (@Ď _ _ _ _ _ _ _ _ _ _ _ (@Ŏ _) (@ō _) (@Ă _ _ _ 0 _ _ (by rfl) (by first|exact Or.inl rfl|exact Or.inr (Or.inl rfl)|exact Or.inr (Or.inr rfl)) (by decide) (by decide)) (@Ā _ _ _ _ _ (@ă _ _ _ _ _ _)))) (fun _ _=>rfl))) (by rfl) (by first|exact .inl rfl|exact .inr rfl|assumption)) (@ĉ _ _ _ _ _ _ _ (@ĸ _ _ _ _ _ _ 4 _ _ Ű.nd rfl (Or.inl rfl) (@Ĕ _ _ _ _ _ _ _ _ _ _ _ _ _ _ _ _ (Kv T) Č (hr.mono (by decide)) rfl T.fC T.JG.kp T.Qm (@ī _ _ _ _ _ _ _ _ _ _ _ _ _ _ _) (@Ĝ _ _ _ _ _ _ _ (@Ď _ _ _ _ _ _ _ _ _ _ _ (@Ś _) (@Ō _) (@Ă _ _ _ 0 _ _ (by rfl) (by first|exact Or.inl rfl|exact Or.inr (Or.inl rfl)|exact Or.inr (Or.inr rfl)) (by decide) (by decide)) (@Ā _ _ _ _ _ (@ă _ _ _ _ _ _))) (@Ĝ _ _ _ _ _ _ _ (@ă _ _ _ _ _ _) (@Ē _ _ _) (by exact ć rfl)) (by exact ć rfl)) (by decide) (by exact ć rfl) (by rfl)) (by rfl) (by first|exact .inl rfl|exact .inr rfl|assumption)) (@ĉ _ _ _ _ _ _ _ (@ĸ _ _ _ _ _ _ 5 _ _ Ű.nd rfl (Or.inl rfl) (@ł _ _ _ _ _ _ _ _ _ _ _ (@İ _) (@į _) (@Ā _ _ _ _ _ (@ă _ _ _ _ _ _)) (@Ā _ _ _ _ _ (@Ď _ _ _ _ _ _ _ _ _ _ _ (@Ŏ _) (@ō _) (@Ā _ _ _ _ _ (@Ĩ _ _ _ _ _ _ _ _ _ _ (@Đ _) (@ď _) (@Ă _ _ _ 4 _ _ (by rfl) (by first|exact Or.inl rfl|exact Or.inr (Or.inl rfl)|exact Or.inr (Or.inr rfl)) (by decide) (by decide)) (@Ā _ _ _ _ _ (@ă _ _ _ _ _ _)) (fun _ _=>rfl))) (@Ā _ _ _ _ _ (@Ĩ _ _ _ _ _ _ _ _ _ _ (@Đ _) (@ď _) (@Ā _ _ _ _ _ (@ĥ _ _ _ _ _ (@ť _ _ _ _ _ _ (@Ą _ _ _ _ _ _ _ (@ă _ _ _ _ _ _) (@Ą _ _ _ _ _ _ _ (@ă _ _ _ _ _ _) (@Ą _ _ _ _ _ _ _ (@ă _ _ _ _ _ _) (@ğ _ _ _) (by exact ć rfl)) (by exact ć rfl)) (by exact ć rfl))))) (@Ā _ _ _ _ _ (@Ď _ _ _ _ _ _ _ _ _ _ _ (@Ŏ _) (@ō _) (@Ā _ _ _ _ _ (@Ď _ _ _ _ _ _ _ _ _ _ _ (@Ś _) (@Ō _) (@Ă _ _ _ 0 _ _ (by rfl) (by first|exact Or.inl rfl|exact Or.inr (Or.inl rfl)|exact Or.inr (Or.inr rfl)) (by decide) (by decide)) (@Ā _ _ _ _ _ (@ă _ _ _ _ _ _)))) (@Ā _ _ _ _ _ (@ă _ _ _ _ _ _)))) (fun _ _=>rfl)))))) (by rfl) (by first|exact .inl rfl|exact .inr rfl|assumption)) (@ĉ _ _ _ _ _ _ _ (@Ţ _ _ _ _ _ _ _ _ _ _ (@ŉ _ _ _ _ _ _ _ _ _ _ _ (@ś _) (@Ň _ hu) (@Ă _ _ _ 3 _ _ (by rfl) (by first|exact Or.inl rfl|exact Or.inr (Or.inl rfl)|exact Or.inr (Or.inr rfl)) (by decide) (by decide)) (@Ā _ _ _ _ _ (@š _ _ _ _ _ _)) (ĭ _)) (@ĉ _ _ _ _ _ _ _ (@ĸ _ _ _ _ _ _ 7 _ _ Ű.nd rfl (Or.inl rfl) (@ť _ _ _ _ _ _ (@ğ _ _ _)) (by rfl) (by first|exact .inl rfl|exact .inr rfl|assumption)) (@ĉ _ _ _ _ _ _ _ (@bF _ _ _ _ _ _ _ _ _ _ PassesOwn.leaving rfl (@aM _ _ _ _ _ _ _ _ rfl T.bT (@Ą _ _ _ _ _ _ _ (@ă _ _ _ _ _ _) (@ğ _ _ _) (by exact ć rfl)) (by exact ć rfl)) (@ē _ _ _ 8 _ Ű.nd rfl (Or.inl rfl) (by first|exact .inl rfl|exact .inr rfl|assumption)) (@č _ _ _ _ _ (@ĸ _ _ _ _ _ _ 7 _ _ Ű.nd rfl (Or.inl rfl) (@ł _ _ _ _ _ _ _ _ _ _ _ (@İ _) (@į _) (@Ă _ _ _ 7 _ _ (by rfl) (by first|exact Or.inl rfl|exact Or.inr (Or.inl rfl)|exact Or.inr (Or.inr rfl)) (by decide) (by decide)) (@Ā _ _ _ _ _ (@ĥ _ _ _ _ _ (@Ĕ _ _ _ _ _ _ _ _ _ _ _ _ _ _ _ _ (yR T) Č (hr.mono (by decide)) rfl T.gH T.Ai.kp T.JH (@ī _ _ _ _ _ _ _ _ _ _ _ _ _ _ _) (@Ĝ _ _ _ _ _ _ _ (@Ĩ _ _ _ _ _ _ _ _ _ _ (@Đ _) (@ď _) (@Ă _ _ _ 4 _ _ (by rfl) (by first|exact Or.inl rfl|exact Or.inr (Or.inl rfl)|exact Or.inr (Or.inr rfl)) (by decide) (by decide)) (@Ā _ _ _ _ _ (@ĥ _ _ _ _ _ (@ł _ _ _ _ _ _ _ _ _ _ _ (@İ _) (@į _) (@Ā _ _ _ _ _ (@ă _ _ _ _ _ _)) (@Ă _ _ _ 8 _ _ (by rfl) (by first|exact Or.inl rfl|exact Or.inr (Or.inl rfl)|exact Or.inr (Or.inr rfl)) (by decide) (by decide))))) (fun _ _=>rfl)) (@Ĉ _ _ _ _ _ 1 _ _ (by rfl) (by first|exact Or.inl rfl|exact Or.inr (Or.inl rfl)|exact Or.inr (Or.inr rfl)) (by decide) (by decide) (@Ĉ _ _ _ _ _ 2 _ _ (by rfl) (by first|exact Or.inl rfl|exact Or.inr (Or.inl rfl)|exact Or.inr (Or.inr rfl)) (by decide) (by decide) (@Ĝ _ _ _ _ _ _ _ (@Ď _ _ _ _ _ _ _ _ _ _ _ (@Ŏ _) (@ō _) (@Ā _ _ _ _ _ (@Ď _ _ _ _ _ _ _ _ _ _ _ (@Ś _) (@Ō _) (@Ā _ _ _ _ _ (@Ĩ _ _ _ _ _ _ _ _ _ _ (@Đ _) (@ď _) (@Ă _ _ _ 4 _ _ (by rfl) (by first|exact Or.inl rfl|exact Or.inr (Or.inl rfl)|exact Or.inr (Or.inr rfl)) (by decide) (by decide)) (@Ā _ _ _ _ _ (@ă _ _ _ _ _ _)) (fun _ _=>rfl))) (@Ā _ _ _ _ _ (@ĥ _ _ _ _ _ (@ł _ _ _ _ _ _ _ _ _ _ _ (@İ _) (@į _) (@Ā _ _ _ _ _ (@ă _ _ _ _ _ _)) (@Ā _ _ _ _ _ (@Ď _ _ _ _ _ _ _ _ _ _ _ (@Ī _) (@Ę _) (@Ā _ _ _ _ _ (@ă _ _ _ _ _ _)) (@Ă _ _ _ 8 _ _ (by rfl) (by first|exact Or.inl rfl|exact Or.inr (Or.inl rfl)|exact Or.inr (Or.inr rfl)) (by decide) (by decide))))))))) (@Ā _ _ _ _ _ (@ĥ _ _ _ _ _ (@ł _ _ _ _ _ _ _ _ _ _ _ (@İ _) (@į _) (@Ă _ _ _ 5 _ _ (by rfl) (by first|exact Or.inl rfl|exact Or.inr (Or.inl rfl)|exact Or.inr (Or.inr rfl)) (by decide) (by decide)) (@Ā _ _ _ _ _ (@ă _ _ _ _ _ _)))))) (@Ē _ _ _) (by exact ć rfl)) (by exact ć rfl)) (by exact ć rfl)) (by exact ć rfl)) (by decide) (by exact ć rfl) (by rfl))))) (by rfl) (by first|exact .inl rfl|exact .inr rfl|assumption))) (by intro _;rfl)) (@č _ _ _ _ _ (@ģ _ _ _ _ _ _ (@Ķ _ _ _ _ _ (@Ŀ _ _ _ _ _ _ _ (@Ą _ _ _ _ _ _ _ (@v_var _ _ _ 3 _ _ (by rfl) (by first|exact Or.inl rfl|exact Or.inr (Or.inl rfl)|exact Or.inr (Or.inr rfl)) (by decide) (by decide)) (@Ą _ _ _ _ _ _ _ (@v_var _ _ _ 7 _ _ (by rfl) (by first|exact Or.inl rfl|exact Or.inr (Or.inl rfl)|exact Or.inr (Or.inr rfl)) (by decide) (by decide)) (@ğ _ _ _) (by exact ć rfl)) (by exact ć rfl)))))))) (@Ĵ _ _ _)) (@ĉ _ _ _ _ _ _ _ (@ĸ _ _ _ _ _ _ 6 _ _ Ű.nd rfl (Or.inl rfl) (@Ķ _ _ _ _ _ (@Ĩ _ _ _ _ _ _ _ _ _ _ (@Đ _) (@ď _) (@Ā _ _ _ _ _ (@ĥ _ _ _ _ _ (@ť _ _ _ _ _ _ (@Ą _ _ _ _ _ _ _ (@ă _ _ _ _ _ _) (@Ą _ _ _ _ _ _ _ (@Ď _ _ _ _ _ _ _ _ _ _ _ (@Ś _) (@Ō _) (@Ă _ _ _ 5 _ _ (by rfl) (by first|exact Or.inl rfl|exact Or.inr (Or.inl rfl)|exact Or.inr (Or.inr rfl)) (by decide) (by decide)) (@Ā _ _ _ _ _ (@ă _ _ _ _ _ _))) (@Ą _ _ _ _ _ _ _ (@v_var _ _ _ 5 _ _ (by rfl) (by first|exact Or.inl rfl|exact Or.inr (Or.inl rfl)|exact Or.inr (Or.inr rfl)) (by decide) (by decide)) (@ğ _ _ _) (by exact ć rfl)) (by exact ć rfl)) (by exact ć rfl))))) (@Ā _ _ _ _ _ (@Ď _ _ _ _ _ _ _ _ _ _ _ (@Ŏ _) (@ō _) (@Ā _ _ _ _ _ (@Ĩ _ _ _ _ _ _ _ _ _ _ (@Đ _) (@ď _) (@Ă _ _ _ 4 _ _ (by rfl) (by first|exact Or.inl rfl|exact Or.inr (Or.inl rfl)|exact Or.inr (Or.inr rfl)) (by decide) (by decide)) (@Ā _ _ _ _ _ (@ă _ _ _ _ _ _)) (fun _ _=>rfl))) (@Ā _ _ _ _ _ (@ă _ _ _ _ _ _)))) (fun _ _=>rfl))) (by rfl) (by first|exact .inl rfl|exact .inr rfl|assumption)) (@ĉ _ _ _ _ _ _ _ (@Ţ _ _ _ _ _ _ _ _ _ _ (@ŉ _ _ _ _ _ _ _ _ _ _ _ (@ś _) (@Ň _ hu) (@Ă _ _ _ 3 _ _ (by rfl) (by first|exact Or.inl rfl|exact Or.inr (Or.inl rfl)|exact Or.inr (Or.inr rfl)) (by decide) (by decide)) (@Ā _ _ _ _ _ (@š _ _ _ _ _ _)) (ĭ _)) (@č _ _ _ _ _ (@ĸ _ _ _ _ _ _ 6 _ _ Ű.nd rfl (Or.inl rfl) (@Ķ _ _ _ _ _ (@v_var _ _ _ 5 _ _ (by rfl) (by first|exact Or.inl rfl|exact Or.inr (Or.inl rfl)|exact Or.inr (Or.inr rfl)) (by decide) (by decide))) (by rfl) (by first|exact .inl rfl|exact .inr rfl|assumption))) (@Ĵ _ _ _)) (@ĉ _ _ _ _ _ _ _ (@cg _ _ _ _ _ _ _ _ (@ĥ _ _ _ _ _ (@Ĕ _ _ _ _ _ _ _ _ _ _ _ _ _ _ _ _ (yR T) Č (hr.mono (by decide)) rfl T.gH T.Ai.kp T.JH (@ī _ _ _ _ _ _ _ _ _ _ _ _ _ _ _) (@Ĝ _ _ _ _ _ _ _ (@Ĩ _ _ _ _ _ _ _ _ _ _ (@Đ _) (@ď _) (@Ă _ _ _ 4 _ _ (by rfl) (by first|exact Or.inl rfl|exact Or.inr (Or.inl rfl)|exact Or.inr (Or.inr rfl)) (by decide) (by decide)) (@Ā _ _ _ _ _ (@ă _ _ _ _ _ _)) (fun _ _=>rfl)) (@Ĉ _ _ _ _ _ 1 _ _ (by rfl) (by first|exact Or.inl rfl|exact Or.inr (Or.inl rfl)|exact Or.inr (Or.inr rfl)) (by decide) (by decide) (@Ĉ _ _ _ _ _ 2 _ _ (by rfl) (by first|exact Or.inl rfl|exact Or.inr (Or.inl rfl)|exact Or.inr (Or.inr rfl)) (by decide) (by decide) (@Ĉ _ _ _ _ _ 6 _ _ (by rfl) (by first|exact Or.inl rfl|exact Or.inr (Or.inl rfl)|exact Or.inr (Or.inr rfl)) (by decide) (by decide) (@Ē _ _ _) (by exact ć rfl)) (by exact ć rfl)) (by exact ć rfl)) (by exact ć rfl)) (by decide) (by exact ć rfl) (by rfl))) (@cD _ _ _ _ _ _ _ rfl (@Ĥ _ _ _ _ _ _ (@ē _ _ _ 9 _ Ű.nd rfl (Or.inl rfl) (by first|exact .inl rfl|exact .inr rfl|assumption)) (@Ĥ _ _ _ _ _ _ (@ē _ _ _ 10 _ Ű.nd rfl (Or.inl rfl) (by first|exact .inl rfl|exact .inr rfl|assumption)) (@Ĥ _ _ _ _ _ _ (@ē _ _ _ 11 _ Ű.nd rfl (Or.inl rfl) (by first|exact .inl rfl|exact .inr rfl|assumption)) (@Ů _ _) (by rfl)) (by rfl)) (by rfl)) (by rfl) (by rfl)) (by rfl) (by rfl) (by rfl)) (@ĉ _ _ _ _ _ _ _ (@cg _ _ _ _ _ _ _ _ (@ĥ _ _ _ _ _ (@Ĕ _ _ _ _ _ _ _ _ _ _ _ _ _ _ _ _ (yR T) Č (hr.mono (by decide)) rfl T.gH T.Ai.kp T.JH (@ī _ _ _ _ _ _ _ _ _ _ _ _ _ _ _) (@Ĝ _ _ _ _ _ _ _ (@Ĩ _ _ _ _ _ _ _ _ _ _ (@Đ _) (@ď _) (@Ă _ _ _ 4 _ _ (by rfl) (by first|exact Or.inl rfl|exact Or.inr (Or.inl rfl)|exact Or.inr (Or.inr rfl)) (by decide) (by decide)) (@Ā _ _ _ _ _ (@ă _ _ _ _ _ _)) (fun _ _=>rfl)) (@Ĉ _ _ _ _ _ 1 _ _ (by rfl) (by first|exact Or.inl rfl|exact Or.inr (Or.inl rfl)|exact Or.inr (Or.inr rfl)) (by decide) (by decide) (@Ĉ _ _ _ _ _ 2 _ _ (by rfl) (by first|exact Or.inl rfl|exact Or.inr (Or.inl rfl)|exact Or.inr (Or.inr rfl)) (by decide) (by decide) (@Ĉ _ _ _ _ _ 6 _ _ (by rfl) (by first|exact Or.inl rfl|exact Or.inr (Or.inl rfl)|exact Or.inr (Or.inr rfl)) (by decide) (by decide) (@Ē _ _ _) (by exact ć rfl)) (by exact ć rfl)) (by exact ć rfl)) (by exact ć rfl)) (by decide) (by exact ć rfl) (by rfl))) (@cD _ _ _ _ _ _ _ rfl (@Ĥ _ _ _ _ _ _ (@ē _ _ _ 12 _ Ű.nd rfl (Or.inl rfl) (by first|exact .inl rfl|exact .inr rfl|assumption)) (@Ĥ _ _ _ _ _ _ (@ē _ _ _ 13 _ Ű.nd rfl (Or.inl rfl) (by first|exact .inl rfl|exact .inr rfl|assumption)) (@Ĥ _ _ _ _ _ _ (@ē _ _ _ 11 _ Ű.nd rfl (Or.inl rfl) (by first|exact .inl rfl|exact .inr rfl|assumption)) (@Ů _ _) (by rfl)) (by rfl)) (by rfl)) (by rfl) (by rfl)) (by rfl) (by rfl) (by rfl)) (@ĉ _ _ _ _ _ _ _ (@Ţ _ _ _ _ _ _ _ _ _ _ (@ŉ _ _ _ _ _ _ _ _ _ _ _ (@ś _) (@Ň _ hu) (@Ă _ _ _ 3 _ _ (by rfl) (by first|exact Or.inl rfl|exact Or.inr (Or.inl rfl)|exact Or.inr (Or.inr rfl)) (by decide) (by decide)) (@Ā _ _ _ _ _ (@š _ _ _ _ _ _)) (ĭ _)) (@č _ _ _ _ _ (@ģ _ _ _ _ _ _ (@Ķ _ _ _ _ _ (@Ŀ _ _ _ _ _ _ _ (@Ą _ _ _ _ _ _ _ (@v_var _ _ _ 3 _ _ (by rfl) (by first|exact Or.inl rfl|exact Or.inr (Or.inl rfl)|exact Or.inr (Or.inr rfl)) (by decide) (by decide)) (@Ą _ _ _ _ _ _ _ (@ĥ _ _ _ _ _ (@ť _ _ _ _ _ _ (@Ą _ _ _ _ _ _ _ (@Ď _ _ _ _ _ _ _ _ _ _ _ (@Ś _) (@Ō _) (@Ă _ _ _ 9 _ _ (by rfl) (by first|exact Or.inl rfl|exact Or.inr (Or.inl rfl)|exact Or.inr (Or.inr rfl)) (by decide) (by decide)) (@Ā _ _ _ _ _ (@ă _ _ _ _ _ _))) (@Ą _ _ _ _ _ _ _ (@Ď _ _ _ _ _ _ _ _ _ _ _ (@Ś _) (@Ō _) (@Ă _ _ _ 10 _ _ (by rfl) (by first|exact Or.inl rfl|exact Or.inr (Or.inl rfl)|exact Or.inr (Or.inr rfl)) (by decide) (by decide)) (@Ā _ _ _ _ _ (@ă _ _ _ _ _ _))) (@Ą _ _ _ _ _ _ _ (@v_var _ _ _ 5 _ _ (by rfl) (by first|exact Or.inl rfl|exact Or.inr (Or.inl rfl)|exact Or.inr (Or.inr rfl)) (by decide) (by decide)) (@ğ _ _ _) (by exact ć rfl)) (by exact ć rfl)) (by exact ć rfl)))) (@ğ _ _ _) (by exact ć rfl)) (by exact ć rfl)))))) (@Ĵ _ _ _)) (@ĉ _ _ _ _ _ _ _ (@Ţ _ _ _ _ _ _ _ _ _ _ (@ŉ _ _ _ _ _ _ _ _ _ _ _ (@ś _) (@Ň _ hu) (@Ă _ _ _ 3 _ _ (by rfl) (by first|exact Or.inl rfl|exact Or.inr (Or.inl rfl)|exact Or.inr (Or.inr rfl)) (by decide) (by decide)) (@Ā _ _ _ _ _ (@š _ _ _ _ _ _)) (ĭ _)) (@č _ _ _ _ _ (@ģ _ _ _ _ _ _ (@Ķ _ _ _ _ _ (@Ŀ _ _ _ _ _ _ _ (@Ą _ _ _ _ _ _ _ (@v_var _ _ _ 3 _ _ (by rfl) (by first|exact Or.inl rfl|exact Or.inr (Or.inl rfl)|exact Or.inr (Or.inr rfl)) (by decide) (by decide)) (@Ą _ _ _ _ _ _ _ (@ĥ _ _ _ _ _ (@ť _ _ _ _ _ _ (@Ą _ _ _ _ _ _ _ (@v_var _ _ _ 9 _ _ (by rfl) (by first|exact Or.inl rfl|exact Or.inr (Or.inl rfl)|exact Or.inr (Or.inr rfl)) (by decide) (by decide)) (@Ą _ _ _ _ _ _ _ (@v_var _ _ _ 10 _ _ (by rfl) (by first|exact Or.inl rfl|exact Or.inr (Or.inl rfl)|exact Or.inr (Or.inr rfl)) (by decide) (by decide)) (@Ą _ _ _ _ _ _ _ (@ĥ _ _ _ _ _ (@ł _ _ _ _ _ _ _ _ _ _ _ (@İ _) (@į _) (@Ă _ _ _ 12 _ _ (by rfl) (by first|exact Or.inl rfl|exact Or.inr (Or.inl rfl)|exact Or.inr (Or.inr rfl)) (by decide) (by decide)) (@Ā _ _ _ _ _ (@PE.wk _ _ _ _ (ų Uu (by rfl) T.Kf PyProof.Rows.boot_int (@Ė _ _ _ _ _ _ _ (@Ā _ _ _ _ _ (@bY _ _ _ _ _ _ _ _ _ _ _ (@ś _) (@Ň _ hu) (@Ā _ _ _ _ _ (@Ŀ _ _ _ _ _ _ _ (@Ą _ _ _ _ _ _ _ (@v_var _ _ _ 9 _ _ (by rfl) (by first|exact Or.inl rfl|exact Or.inr (Or.inl rfl)|exact Or.inr (Or.inr rfl)) (by decide) (by decide)) (@Ą _ _ _ _ _ _ _ (@v_var _ _ _ 10 _ _ (by rfl) (by first|exact Or.inl rfl|exact Or.inr (Or.inl rfl)|exact Or.inr (Or.inr rfl)) (by decide) (by decide)) (@ğ _ _ _) (by exact ć rfl)) (by exact ć rfl)))) (@Ā _ _ _ _ _ (@Ŀ _ _ _ _ _ _ _ (@Ą _ _ _ _ _ _ _ (@v_var _ _ _ 12 _ _ (by rfl) (by first|exact Or.inl rfl|exact Or.inr (Or.inl rfl)|exact Or.inr (Or.inr rfl)) (by decide) (by decide)) (@Ą _ _ _ _ _ _ _ (@v_var _ _ _ 13 _ _ (by rfl) (by first|exact Or.inl rfl|exact Or.inr (Or.inl rfl)|exact Or.inr (Or.inr rfl)) (by decide) (by decide)) (@ğ _ _ _) (by exact ć rfl)) (by exact ć rfl)))) (ĭ _))) (@ı _ _ _) (by exact ć rfl))) (fun _ _ _ h=> @Ũ _ _ _ _ _ _ (@Uv _) _ _ _ h))))) (@Ą _ _ _ _ _ _ _ (@v_var _ _ _ 13 _ _ (by rfl) (by first|exact Or.inl rfl|exact Or.inr (Or.inl rfl)|exact Or.inr (Or.inr rfl)) (by decide) (by decide)) (@Ą _ _ _ _ _ _ _ (@v_var _ _ _ 5 _ _ (by rfl) (by first|exact Or.inl rfl|exact Or.inr (Or.inl rfl)|exact Or.inr (Or.inr rfl)) (by decide) (by decide)) (@ğ _ _ _) (by exact ć rfl)) (by exact ć rfl)) (by exact ć rfl)) (by exact ć rfl)) (by exact ć rfl)))) (@ğ _ _ _) (by exact ć rfl)) (by exact ć rfl)))))) (@Ĵ _ _ _)) (@ĉ _ _ _ _ _ _ _ (@cg _ _ _ _ _ _ _ _ (@ĥ _ _ _ _ _ (@Ĕ _ _ _ _ _ _ _ _ _ _ _ _ _ _ _ _ (Kw T) Č (hr.mono (by decide)) rfl T.iV T.JK.kp T.Qo (@ī _ _ _ _ _ _ _ _ _ _ _ _ _ _ _) (@Ĉ _ _ _ _ _ 9 _ _ (by rfl) (by first|exact Or.inl rfl|exact Or.inr (Or.inl rfl)|exact Or.inr (Or.inr rfl)) (by decide) (by decide) (@Ĉ _ _ _ _ _ 12 _ _ (by rfl) (by first|exact Or.inl rfl|exact Or.inr (Or.inl rfl)|exact Or.inr (Or.inr rfl)) (by decide) (by decide) (@Ē _ _ _) (by exact ć rfl)) (by exact ć rfl)) (by decide) (by exact ć rfl) (by rfl))) (@cD _ _ _ _ _ _ _ rfl (@Ĥ _ _ _ _ _ _ (@ē _ _ _ 9 _ Ű.nd rfl (Or.inl rfl) (by first|exact .inl rfl|exact .inr rfl|assumption)) (@Ĥ _ _ _ _ _ _ (@ē _ _ _ 12 _ Ű.nd rfl (Or.inl rfl) (by first|exact .inl rfl|exact .inr rfl|assumption)) (@Ů _ _) (by rfl)) (by rfl)) (by rfl) (by rfl)) (by rfl) (by rfl) (by rfl)) (@ĉ _ _ _ _ _ _ _ (@cg _ _ _ _ _ _ _ _ (@ĥ _ _ _ _ _ (@Ĕ _ _ _ _ _ _ _ _ _ _ _ _ _ _ _ _ (Kw T) Č (hr.mono (by decide)) rfl T.iV T.JK.kp T.Qo (@ī _ _ _ _ _ _ _ _ _ _ _ _ _ _ _) (@Ĉ _ _ _ _ _ 10 _ _ (by rfl) (by first|exact Or.inl rfl|exact Or.inr (Or.inl rfl)|exact Or.inr (Or.inr rfl)) (by decide) (by decide) (@Ĉ _ _ _ _ _ 13 _ _ (by rfl) (by first|exact Or.inl rfl|exact Or.inr (Or.inl rfl)|exact Or.inr (Or.inr rfl)) (by decide) (by decide) (@Ē _ _ _) (by exact ć rfl)) (by exact ć rfl)) (by decide) (by exact ć rfl) (by rfl))) (@cD _ _ _ _ _ _ _ rfl (@Ĥ _ _ _ _ _ _ (@ē _ _ _ 10 _ Ű.nd rfl (Or.inl rfl) (by first|exact .inl rfl|exact .inr rfl|assumption)) (@Ĥ _ _ _ _ _ _ (@ē _ _ _ 13 _ Ű.nd rfl (Or.inl rfl) (by first|exact .inl rfl|exact .inr rfl|assumption)) (@Ů _ _) (by rfl)) (by rfl)) (by rfl) (by rfl)) (by rfl) (by rfl) (by rfl)) (@č _ _ _ _ _ (@ģ _ _ _ _ _ _ (@Ķ _ _ _ _ _ (@Ŀ _ _ _ _ _ _ _ (@Ą _ _ _ _ _ _ _ (@v_var _ _ _ 3 _ _ (by rfl) (by first|exact Or.inl rfl|exact Or.inr (Or.inl rfl)|exact Or.inr (Or.inr rfl)) (by decide) (by decide)) (@Ą _ _ _ _ _ _ _ (@ĥ _ _ _ _ _ (@ť _ _ _ _ _ _ (@Ą _ _ _ _ _ _ _ (@v_var _ _ _ 9 _ _ (by rfl) (by first|exact Or.inl rfl|exact Or.inr (Or.inl rfl)|exact Or.inr (Or.inr rfl)) (by decide) (by decide)) (@Ą _ _ _ _ _ _ _ (@v_var _ _ _ 10 _ _ (by rfl) (by first|exact Or.inl rfl|exact Or.inr (Or.inl rfl)|exact Or.inr (Or.inr rfl)) (by decide) (by decide)) (@Ą _ _ _ _ _ _ _ (@v_var _ _ _ 12 _ _ (by rfl) (by first|exact Or.inl rfl|exact Or.inr (Or.inl rfl)|exact Or.inr (Or.inr rfl)) (by decide) (by decide)) (@Ą _ _ _ _ _ _ _ (@v_var _ _ _ 13 _ _ (by rfl) (by first|exact Or.inl rfl|exact Or.inr (Or.inl rfl)|exact Or.inr (Or.inr rfl)) (by decide) (by decide)) (@Ą _ _ _ _ _ _ _ (@v_var _ _ _ 5 _ _ (by rfl) (by first|exact Or.inl rfl|exact Or.inr (Or.inl rfl)|exact Or.inr (Or.inr rfl)) (by decide) (by decide)) (@ğ _ _ _) (by exact ć rfl)) (by exact ć rfl)) (by exact ć rfl)) (by exact ć rfl)) (by exact ć rfl)))) (@ğ _ _ _) (by exact ć rfl)) (by exact ć rfl))))))))))))))))))
theorem nZ(T:Tx K mg a):ľ P w K mg base (ź P w) 1 a.G_ a.Hf ["number"] (ak ⟨K,ķ a⟩ 1 cN):=by
 refine aV (cm:=ķ a) (mb:=xO) T.qz VN rfl rfl rfl fun cdv A outer s H E hr=>?_
 have hu:=hr.units
 exact(č (ģ (Ķ (D_ iJ iJ iz iz (Ā (Bm jo ji (Ā (tD (.int (1000000000)) (lq (v:=.int (1000000000)) rfl T.iZ ⟨_,rfl⟩))))) (Ă 0) (Ā (tD (.int (1000000000)) (lq (v:=.int (1000000000)) rfl T.iZ ⟨_,rfl⟩)))))))
theorem Ky(T:Tx K mg a):ľ P w K mg base (ź P w) 1 a.Hg a.Hh ["number"] (ak ⟨K,ķ a⟩ 1 jP):=by
 refine aV (cm:=ķ a) (mb:=xP) T.JL VP rfl rfl rfl fun cdv A outer s H E hr=>?_
 have hu:=hr.units
 exact(č (ģ (Ķ (D_ iJ iJ iz iz (Ā ă) (Ă 0) (Ā (tD (.int (1000000000)) (lq (v:=.int (1000000000)) rfl T.gP ⟨_,rfl⟩)))))))
theorem Wx(T:Tx K mg a):ľ P w K mg base (ź P w) 2 a.Hi a.Hj ["numbers"] (ak ⟨K,ķ a⟩ 1 m_):=by
 refine aV (cm:=ķ a) (mb:=rG) T.Qs VR rfl rfl rfl fun cdv A outer s H E hr=>?_
 have hu:=hr.units
 exact(č (ģ (Ķ (v_and (bY ś (Ň hu) (Ā (PE.wk (ĩ bU (by rfl) T.fO PySem.boot_len (Ė (Ă 0) ı)) fun _ _ _ h=>Ũ cA h)) (Ā ă) (ĭ _)) (v_and (ĥ (Ĕ (nZ T) Č (hr.mono (by decide)) rfl T.cN T.qz.kp T.vQ ī (Ĝ (Ĩ Đ ď (Ă 0) (Ā ă) (fun _ _=>rfl)) Ē))) (v_and (ĥ (Ĕ (nZ T) Č (hr.mono (by decide)) rfl T.cN T.qz.kp T.vQ ī (Ĝ (Ĩ Đ ď (Ă 0) (Ā ă) (fun _ _=>rfl)) Ē))) (jM (ĥ (Ĕ (Ky T) Č (hr.mono (by decide)) rfl T.jP T.JL.kp T.Qq ī (Ĝ (Ĩ Đ ď (Ă 0) (Ā ă) (fun _ _=>rfl)) Ē))))))))))
theorem Kz(T:Tx K mg a):ľ P w K mg base (ź P w) 1 a.kW a.yD ["self","word","numbers"] (Nv ⟨K,ķ a⟩ 3 "Post" rH):=by
 refine fnI (cm:=ķ a) (mb:=dX) T.JM vR rfl rfl rfl fun cdv A outer s H E hr=>?_
 have hu:=hr.units
 exact(ĉ (cO (i:=0) ["Thing","Post","Fence","Sail","Cloth","House"] ⟨⟨T.ŧ,T.aP⟩,⟨⟨T.Ŷ,T.bG⟩,⟨⟨T.ŝ,T.aQ⟩,⟨⟨T.ŷ,T.bH⟩,⟨⟨T.Ş,T.aR⟩,⟨⟨T.ş,T.aU⟩,trivial⟩⟩⟩⟩⟩⟩ (pv 0) (v_var 1))
  (č (cO (i:=0) ["Thing","Post","Fence","Sail","Cloth","House"] ⟨⟨T.ŧ,T.Ĺ⟩,⟨⟨T.Ŷ,T.ŀ⟩,⟨⟨T.ŝ,T.ĺ⟩,⟨⟨T.ŷ,T.Ł⟩,⟨⟨T.Ş,T.Ļ⟩,⟨⟨T.ş,T.ļ⟩,trivial⟩⟩⟩⟩⟩⟩ (pv 0) (ĥ (PE.wk (ų fX (by rfl) T.g_ PyProof.Rows.boot_list (Ė (Ă 2) ı)) fun _ _ _ h=>Bp fY h)))))
theorem Ce(T:Tx K mg a):ľ P w K mg base (ź P w) 1 a.kW a.yD ["self","word","numbers"] (Nv ⟨K,ķ a⟩ 3 "Fence" ni):=by
 refine fnI (cm:=ķ a) (mb:=dX) T.JM vR rfl rfl rfl fun cdv A outer s H E hr=>?_
 have hu:=hr.units
 exact(ĉ (cO (i:=0) ["Thing","Post","Fence","Sail","Cloth","House"] ⟨⟨T.ŧ,T.aP⟩,⟨⟨T.Ŷ,T.bG⟩,⟨⟨T.ŝ,T.aQ⟩,⟨⟨T.ŷ,T.bH⟩,⟨⟨T.Ş,T.aR⟩,⟨⟨T.ş,T.aU⟩,trivial⟩⟩⟩⟩⟩⟩ (pv 0) (v_var 1))
  (č (cO (i:=0) ["Thing","Post","Fence","Sail","Cloth","House"] ⟨⟨T.ŧ,T.Ĺ⟩,⟨⟨T.Ŷ,T.ŀ⟩,⟨⟨T.ŝ,T.ĺ⟩,⟨⟨T.ŷ,T.Ł⟩,⟨⟨T.Ş,T.Ļ⟩,⟨⟨T.ş,T.ļ⟩,trivial⟩⟩⟩⟩⟩⟩ (pv 0) (ĥ (PE.wk (ų fX (by rfl) T.g_ PyProof.Rows.boot_list (Ė (Ă 2) ı)) fun _ _ _ h=>Bp fY h)))))
theorem KC(T:Tx K mg a):ľ P w K mg base (ź P w) 1 a.kW a.yD ["self","word","numbers"] (Nv ⟨K,ķ a⟩ 3 "Sail" rJ):=by
 refine fnI (cm:=ķ a) (mb:=dX) T.JM vR rfl rfl rfl fun cdv A outer s H E hr=>?_
 have hu:=hr.units
 exact(ĉ (cO (i:=0) ["Thing","Post","Fence","Sail","Cloth","House"] ⟨⟨T.ŧ,T.aP⟩,⟨⟨T.Ŷ,T.bG⟩,⟨⟨T.ŝ,T.aQ⟩,⟨⟨T.ŷ,T.bH⟩,⟨⟨T.Ş,T.aR⟩,⟨⟨T.ş,T.aU⟩,trivial⟩⟩⟩⟩⟩⟩ (pv 0) (v_var 1))
  (č (cO (i:=0) ["Thing","Post","Fence","Sail","Cloth","House"] ⟨⟨T.ŧ,T.Ĺ⟩,⟨⟨T.Ŷ,T.ŀ⟩,⟨⟨T.ŝ,T.ĺ⟩,⟨⟨T.ŷ,T.Ł⟩,⟨⟨T.Ş,T.Ļ⟩,⟨⟨T.ş,T.ļ⟩,trivial⟩⟩⟩⟩⟩⟩ (pv 0) (ĥ (PE.wk (ų fX (by rfl) T.g_ PyProof.Rows.boot_list (Ė (Ă 2) ı)) fun _ _ _ h=>Bp fY h)))))
theorem Cg(T:Tx K mg a):ľ P w K mg base (ź P w) 1 a.kW a.yD ["self","word","numbers"] (Nv ⟨K,ķ a⟩ 3 "Cloth" nj):=by
 refine fnI (cm:=ķ a) (mb:=dX) T.JM vR rfl rfl rfl fun cdv A outer s H E hr=>?_
 have hu:=hr.units
 exact(ĉ (cO (i:=0) ["Thing","Post","Fence","Sail","Cloth","House"] ⟨⟨T.ŧ,T.aP⟩,⟨⟨T.Ŷ,T.bG⟩,⟨⟨T.ŝ,T.aQ⟩,⟨⟨T.ŷ,T.bH⟩,⟨⟨T.Ş,T.aR⟩,⟨⟨T.ş,T.aU⟩,trivial⟩⟩⟩⟩⟩⟩ (pv 0) (v_var 1))
  (č (cO (i:=0) ["Thing","Post","Fence","Sail","Cloth","House"] ⟨⟨T.ŧ,T.Ĺ⟩,⟨⟨T.Ŷ,T.ŀ⟩,⟨⟨T.ŝ,T.ĺ⟩,⟨⟨T.ŷ,T.Ł⟩,⟨⟨T.Ş,T.Ļ⟩,⟨⟨T.ş,T.ļ⟩,trivial⟩⟩⟩⟩⟩⟩ (pv 0) (ĥ (PE.wk (ų fX (by rfl) T.g_ PyProof.Rows.boot_list (Ė (Ă 2) ı)) fun _ _ _ h=>Bp fY h)))))
theorem Ci(T:Tx K mg a):ľ P w K mg base (ź P w) 1 a.kW a.yD ["self","word","numbers"] (Nv ⟨K,ķ a⟩ 3 "House" nq):=by
 refine fnI (cm:=ķ a) (mb:=dX) T.JM vR rfl rfl rfl fun cdv A outer s H E hr=>?_
 have hu:=hr.units
 exact(ĉ (cO (i:=0) ["Thing","Post","Fence","Sail","Cloth","House"] ⟨⟨T.ŧ,T.aP⟩,⟨⟨T.Ŷ,T.bG⟩,⟨⟨T.ŝ,T.aQ⟩,⟨⟨T.ŷ,T.bH⟩,⟨⟨T.Ş,T.aR⟩,⟨⟨T.ş,T.aU⟩,trivial⟩⟩⟩⟩⟩⟩ (pv 0) (v_var 1))
  (č (cO (i:=0) ["Thing","Post","Fence","Sail","Cloth","House"] ⟨⟨T.ŧ,T.Ĺ⟩,⟨⟨T.Ŷ,T.ŀ⟩,⟨⟨T.ŝ,T.ĺ⟩,⟨⟨T.ŷ,T.Ł⟩,⟨⟨T.Ş,T.Ļ⟩,⟨⟨T.ş,T.ļ⟩,trivial⟩⟩⟩⟩⟩⟩ (pv 0) (ĥ (PE.wk (ų fX (by rfl) T.g_ PyProof.Rows.boot_list (Ė (Ă 2) ı)) fun _ _ _ h=>Bp fY h)))))
theorem KD(T:Tx K mg a):ľ P w K mg base (ź P w) 2 a.Hl a.Ho ["numbers"] (ak ⟨K,ķ a⟩ 1 iW):=by
 refine aV (cm:=ķ a) (mb:=rK) T.JQ V_ rfl rfl rfl fun cdv A outer s H E hr=>?_
 have hu:=hr.units
 exact(č (ģ (Ķ (v_and (bY ś (Ň hu) (Ā (PE.wk (ĩ bU (by rfl) T.fO PySem.boot_len (Ė (Ă 0) ı)) fun _ _ _ h=>Ũ cA h)) (Ā ă) (ĭ _)) (v_and (PE.wk (ĩ (jk rfl) (by rfl) T.qD PyProof.Rows.boot_all (Ė (Ā (ĥ (aq ["number"] [] 1 (ċ pU) rfl rfl (cW (ĥ (dN (Ă 0) Ei (bK ă)))) (fun _ _ _ _ _=>(ē (i:=0) (show(["number"]:List Str).Nodup by decide +kernel) rfl (Or.inl rfl) (hf:=Or.inr rfl))) (fun _ _ _ _ _=>ũ) (fun _ _ _ _ _=>(ĥ (Ĕ (nZ T) Č (hr.mono (by decide)) rfl T.cN T.qz.kp T.vQ cB (Ĉ 0 (hr:=Ē))))) trivial))) ı)) fun _ _ _ h=>Ũ jr h) (jM (ĥ (Ĕ (Ky T) Č (hr.mono (by decide)) rfl T.jP T.JL.kp T.Qq ī (Ĝ (Ĩ Đ ď (Ă 0) (Ā ă) (fun _ _=>rfl)) Ē)))))))))
theorem Wy(T:Tx K mg a):ľ P w K mg base (ź P w) 3 a.Hq a.Hr ["numbers"] (ak ⟨K,ķ a⟩ 1 nu):=by
 refine aV (cm:=ķ a) (mb:=rM) T.Qu Wc rfl rfl rfl fun cdv A outer s H E hr=>?_
 have hu:=hr.units
 exact(č (ģ (Ķ (v_and (ĥ (Ĕ (KD T) Č (hr.mono (by decide)) rfl T.iW T.JQ.kp T.Qt ī (Ĉ 0 (hr:=Ē)))) (jM (bY dR (bJ hu) (Ā (ĥ (dN (Ă 0) Ei (bK ă)))) (Ā (ĥ (dN (Ă 0) (bK ă) (bK ă)))) (ĭ _)))))))
theorem Ro(T:Tx K mg a):ľ P w K mg base (ź P w) 3 a.Vb a.Vc ["numbers"] (ak ⟨K,ķ a⟩ 1 rN):=by
 refine aV (cm:=ķ a) (mb:=Af) T.Vv Zb5 rfl rfl rfl fun cdv A outer s H E hr=>?_
 have hu:=hr.units
 exact(č (ģ (Ķ (v_and (ĥ (Ĕ (KD T) Č (hr.mono (by decide)) rfl T.iW T.JQ.kp T.Qt ī (Ĉ 0 (hr:=Ē)))) (v_and (bY pG pq (Ā (Ĩ Đ ď (Ă 0) (Ā ă) (fun _ _=>rfl))) (Ā (Ĩ Đ ď (Ă 0) (Ā ă) (fun _ _=>rfl))) (ĭ _)) (jM (bY pG pq (Ā (Ĩ Đ ď (Ă 0) (Ā ă) (fun _ _=>rfl))) (Ā (Ĩ Đ ď (Ă 0) (Ā ă) (fun _ _=>rfl))) (ĭ _))))))))
theorem Zb9(T:Tx K mg a):ľ P w K mg base (ź P w) 2 a.Vd a.Ve ["numbers"] (ak ⟨K,ķ a⟩ 1 BX):=by
 refine aV (cm:=ķ a) (mb:=Gk) T.Zbw Zb6 rfl rfl rfl fun cdv A outer s H E hr=>?_
 have hu:=hr.units
 exact(č (ģ (Ķ (v_and (ĥ (Ĕ (nZ T) Č (hr.mono (by decide)) rfl T.cN T.qz.kp T.vQ ī (Ĝ (Ĩ Đ ď (Ă 0) (Ā ă) (fun _ _=>rfl)) Ē))) (v_and (ĥ (Ĕ (nZ T) Č (hr.mono (by decide)) rfl T.cN T.qz.kp T.vQ ī (Ĝ (Ĩ Đ ď (Ă 0) (Ā ă) (fun _ _=>rfl)) Ē))) (jM (D_ iJ iJ iz iz (Ā ă) (Ā (Ĩ Đ ď (Ă 0) (Ā ă) (fun _ _=>rfl))) (Ā (tD (.int (1000000000)) (lq (v:=.int (1000000000)) rfl T.gP ⟨_,rfl⟩))))))))))
theorem Wz(T:Tx K mg a):ľ P w K mg base (ź P w) 3 a.Hs a.Ht ["numbers"] (ak ⟨K,ķ a⟩ 1 nA):=by
 refine aV (cm:=ķ a) (mb:=rP) T.Qv Wd rfl rfl rfl fun cdv A outer s H E hr=>?_
 have hu:=hr.units
 exact(@č _ _ _ _ _ (@ģ _ _ _ _ _ _ (@Ķ _ _ _ _ _ (@v_and _ _ _ _ _ _ _ _ _ (@bY _ _ _ _ _ _ _ _ _ _ _ (@ś _) (@Ň _ hu) (@Ā _ _ _ _ _ (@PE.wk _ _ _ _ (ĩ bU (by rfl) T.fO PySem.boot_len (@Ė _ _ _ _ _ _ _ (@Ă _ _ _ 0 _ _ (by rfl) (by first|exact Or.inl rfl|exact Or.inr (Or.inl rfl)|exact Or.inr (Or.inr rfl)) (by decide) (by decide)) (@ı _ _ _) (by exact ć rfl))) (fun _ _ _ h=> @Ũ _ _ _ _ _ _ (@cA _) _ _ _ h))) (@Ā _ _ _ _ _ (@ă _ _ _ _ _ _)) (ĭ _)) (@jM _ _ _ _ _ _ _ (@PE.wk _ _ _ _ (ĩ (@jk _ rfl) (by rfl) T.qD PyProof.Rows.boot_all (@Ė _ _ _ _ _ _ _ (@Ā _ _ _ _ _ (@ĥ _ _ _ _ _ (aq ["numbers","place"] [0] 1 (ċ pW) rfl rfl (@cW _ _ _ _ _ _ (@Ŀ _ _ _ _ _ _ _ (@Ą _ _ _ _ _ _ _ (@ă _ _ _ _ _ _) (@Ą _ _ _ _ _ _ _ (@ă _ _ _ _ _ _) (@Ą _ _ _ _ _ _ _ (@ă _ _ _ _ _ _) (@ğ _ _ _) (by exact ć rfl)) (by exact ć rfl)) (by exact ć rfl)))) (fun _ _ _ _ _=>(@ē _ _ _ 1 _ (show(["numbers","place"]:List Str).Nodup by decide +kernel) rfl (Or.inl rfl) (Or.inr rfl))) (fun _ _ _ _ _=>(@ũ _ _ _)) (fun _ _ _ _ _=>(@ĥ _ _ _ _ _ (@Ĕ _ _ _ _ _ _ _ _ _ _ _ _ _ _ _ _ (Zb9 T) Č (hr.mono (by decide)) rfl T.BX T.Zbw.kp T.Zil (@cB _ _ _) (@Ĝ _ _ _ _ _ _ _ (@ĥ _ _ _ _ _ (@dN _ _ _ _ _ _ _ _ _ _ _ (@Ă _ _ _ 0 _ _ (by rfl) (by first|exact Or.inl rfl|exact Or.inr (Or.inl rfl)|exact Or.inr (Or.inr rfl)) (by decide) (by decide)) (@bK _ _ _ _ _ (@v_var _ _ _ 1 _ _ (by rfl) (by first|exact Or.inl rfl|exact Or.inr (Or.inl rfl)|exact Or.inr (Or.inr rfl)) (by decide) (by decide))) (@bK _ _ _ _ _ (@ĥ _ _ _ _ _ (@ł _ _ _ _ _ _ _ _ _ _ _ (@İ _) (@į _) (@Ă _ _ _ 1 _ _ (by rfl) (by first|exact Or.inl rfl|exact Or.inr (Or.inl rfl)|exact Or.inr (Or.inr rfl)) (by decide) (by decide)) (@Ā _ _ _ _ _ (@ă _ _ _ _ _ _))))))) (@Ē _ _ _) (by exact ć rfl)) (by decide) (by exact ć rfl) (by rfl)))) ⟨rfl,⟨rfl,Or.inl rfl⟩,trivial⟩))) (@ı _ _ _) (by exact ć rfl))) (fun _ _ _ h=> @Ũ _ _ _ _ _ _ (@jr _) _ _ _ h)))))))
theorem WD(T:Tx K mg a):ľ P w K mg base (ź P w) 4 a.Hv a.Hw ["word","numbers"] (ak ⟨K,ķ a⟩ 2 dY):=by
 refine aV (cm:=ķ a) (mb:=fJ) T.Qw Wf rfl rfl rfl fun cdv A outer s H E hr=>?_
 have hu:=hr.units
 exact(ĉ (Ţ (PW.pt (w_and (ŉ ś (Ň hu) (Ă 0) (Ā š) (ĭ _)) (jl (aA (Ā (ĥ (Ĕ (Wx T) Č (hr.mono (by decide)) rfl T.m_ T.Qs.kp T.Zbt ī (Ĉ 1 (hr:=Ē)))))))))
  (č (ģ (Ķ (mH T.VH (Kz T) dh (hr.mono (by decide)) rfl T.Vy T.JN ī (Ĉ 0 (hr:=(Ĉ 1 (hr:=Ē))))))))
  Ĵ)
  (ĉ (Ţ (PW.pt (w_and (ŉ ś (Ň hu) (Ă 0) (Ā š) (ĭ _)) (jl (aA (Ā (ĥ (Ĕ (Wy T) Č (hr.mono (by decide)) rfl T.nu T.Qu.kp T.Zbu ī (Ĉ 1 (hr:=Ē)))))))))
  (č (ģ (Ķ (mH T.Ox (Ce T) dh (hr.mono (by decide)) rfl T.Ou T.JN ī (Ĉ 0 (hr:=(Ĉ 1 (hr:=Ē))))))))
  Ĵ)
  (ĉ (Ţ (PW.pt (w_and (ŉ ś (Ň hu) (Ă 0) (Ā š) (ĭ _)) (jl (aA (Ā (ĥ (Ĕ (Ro T) Č (hr.mono (by decide)) rfl T.rN T.Vv.kp T.Zbv ī (Ĉ 1 (hr:=Ē)))))))))
  (č (ģ (Ķ (mH T.VJ (KC T) dh (hr.mono (by decide)) rfl T.Vz T.JN ī (Ĉ 0 (hr:=(Ĉ 1 (hr:=Ē))))))))
  Ĵ)
  (ĉ (Ţ (PW.pt (w_and (ŉ ś (Ň hu) (Ă 0) (Ā š) (ĭ _)) (jl (aA (Ā (ĥ (Ĕ (Wz T) Č (hr.mono (by decide)) rfl T.nA T.Qv.kp T.Zbx ī (Ĉ 1 (hr:=Ē)))))))))
  (č (ģ (Ķ (mH T.Oz (Cg T) dh (hr.mono (by decide)) rfl T.Ov T.JN ī (Ĉ 0 (hr:=(Ĉ 1 (hr:=Ē))))))))
  Ĵ)
  (ĉ (Ţ (PW.pt (w_and (ŉ ś (Ň hu) (Ă 0) (Ā š) (ĭ _)) (jl (aA (Ā (ĥ (Ĕ (Ro T) Č (hr.mono (by decide)) rfl T.rN T.Vv.kp T.Zbv ī (Ĉ 1 (hr:=Ē)))))))))
  (č (ģ (Ķ (mH T.OD (Ci T) dh (hr.mono (by decide)) rfl T.Ow T.JN ī (Ĉ 0 (hr:=(Ĉ 1 (hr:=Ē))))))))
  Ĵ)
  (č (uy (C:= "BadThing") rfl rfl z_ rfl T.yH T.yJ)))))))
theorem WK(T:Tx K mg a):ľ P w K mg base (ź P w) 1 a.Hx a.Hy ["points"] (ak ⟨K,ķ a⟩ 1 qj):=by
 refine aV (cm:=ķ a) (mb:=xQ) T.Qx yL rfl rfl rfl fun cdv A outer s H E hr=>?_
 have hu:=hr.units
 exact(ĉ (mO (i:=1) yL.nd rfl rfl ["point"] [] 1 (ċ mV) rfl rfl (ao 0) (fun _ _ _ _ _=>(ē (i:=0) (show(["point"]:List Str).Nodup by decide +kernel) rfl (Or.inl rfl) (hf:=Or.inr rfl))) (fun _ _ _ _ _=>ũ) (fun _ _ _ _ _=>(Ĩ Đ ď (Ă 0) (Ā ă) (fun _ _=>rfl))) trivial)
  (ĉ (mO (i:=2) yL.nd rfl rfl ["point"] [] 1 (ċ mV) rfl rfl (ao 0) (fun _ _ _ _ _=>(ē (i:=0) (show(["point"]:List Str).Nodup by decide +kernel) rfl (Or.inl rfl) (hf:=Or.inr rfl))) (fun _ _ _ _ _=>ũ) (fun _ _ _ _ _=>(Ĩ Đ ď (Ă 0) (Ā ă) (fun _ _=>rfl))) trivial)
  (č (ģ (ť (Ą (Ŀ (Ą ă (Ą ă (Ą (PE.wk (ĩ (Fi rfl) (by rfl) T.Kg PyProof.Rows.boot_max (Ė (Ă 1) ı)) fun _ _ _ h=>Ũ Fo h) ğ)))) (Ą (Ŀ (Ą (Bm jo ji (Ā ă)) (Ą ă (Ą (Bm jo ji (Ā (PE.wk (ĩ (Fj rfl) (by rfl) T.Kh PyProof.Rows.boot_min (Ė (Ă 1) ı)) fun _ _ _ h=>Ũ Fp h))) ğ)))) (Ą (Ŀ (Ą ă (Ą ă (Ą (PE.wk (ĩ (Fi rfl) (by rfl) T.Kg PyProof.Rows.boot_max (Ė (Ă 2) ı)) fun _ _ _ h=>Ũ Fo h) ğ)))) (Ą (Ŀ (Ą ă (Ą (Bm jo ji (Ā ă)) (Ą (Bm jo ji (Ā (PE.wk (ĩ (Fj rfl) (by rfl) T.Kh PyProof.Rows.boot_min (Ė (Ă 2) ı)) fun _ _ _ h=>Ũ Fp h))) ğ)))) ğ)))))))))
theorem WL(T:Tx K mg a):ľ P w K mg base (ź P w) 1 a.Hz a.HB ["points"] (ak ⟨K,ķ a⟩ 1 ql):=by
 refine aV (cm:=ķ a) (mb:=xR) T.Qy yM rfl rfl rfl fun cdv A outer s H E hr=>?_
 have hu:=hr.units
 exact(ĉ (ĸ (i:=1) yM.nd rfl (Or.inl rfl) (ť ğ))
  (ĉ (bF PassesOwn.leaving rfl (ao 0) (ē (i:=2) yM.nd rfl (Or.inl rfl))
  (č (Ţ (ŉ Uz (BP hu) (Ă 2) (Ă 1) (by with_unfolding_all rfl))
  (č (PS.wk (cJ (jH PySem.F.plainAttrs_list PySem.F.slot_list_append PySem.F.type_list_append aG (pv 1) (Ą (v_var 2) ğ))) fun _ _ _ h=>iI h))
  Ĵ)))
  (č (ģ (lQ 1)))))
theorem WM(T:Tx K mg a):ľ P w K mg base (ź P w) 1 a.HD a.HF ["one","other"] (ak ⟨K,ķ a⟩ 2 qm):=by
 refine aV (cm:=ķ a) (mb:=xT) T.Qz yN rfl rfl rfl fun cdv A outer s H E hr=>?_
 have hu:=hr.units
 exact(ĉ (ĸ (i:=2) yN.nd rfl (Or.inl rfl) (Ķ (Ď Ŕ œ (Ā (Ĩ Đ ď (Ă 1) (Ā ă) (fun _ _=>rfl))) (Ā (Ĩ Đ ď (Ă 0) (Ā ă) (fun _ _=>rfl))))))
  (ĉ (ĸ (i:=3) yN.nd rfl (Or.inl rfl) (Ķ (Ď Ŕ œ (Ā (Ĩ Đ ď (Ă 0) (Ā ă) (fun _ _=>rfl))) (Ā (Ĩ Đ ď (Ă 1) (Ā ă) (fun _ _=>rfl))))))
  (č (ģ (Ķ (Ŀ (Ą (v_var 2) (Ą (v_var 3) (Ą (ĥ (ł İ į (Ā (Ď Ī Ę (Ă 2) (Ā (Ĩ Đ ď (Ă 0) (Ā ă) (fun _ _=>rfl))))) (Ā (Ď Ī Ę (Ă 3) (Ā (Ĩ Đ ď (Ă 0) (Ā ă) (fun _ _=>rfl))))))) ğ)))))))))
theorem KH(T:Tx K mg a):ľ P w K mg base (ź P w) 1 a.HJ a.HN ["line","pair"] (ak ⟨K,ķ a⟩ 2 gJ):=by
 refine aV (cm:=ķ a) (mb:=xU) T.JR Wg rfl rfl rfl fun cdv A outer s H E hr=>?_
 have hu:=hr.units
 exact(č (ģ (Ķ (bY iJ iz (Ā (ĥ (ł İ į (Ā (Ď Ī Ę (Ā (Ĩ Đ ď (Ă 0) (Ā ă) (fun _ _=>rfl))) (Ā (Ĩ Đ ď (Ă 1) (Ā ă) (fun _ _=>rfl))))) (Ā (Ď Ī Ę (Ā (Ĩ Đ ď (Ă 0) (Ā ă) (fun _ _=>rfl))) (Ā (Ĩ Đ ď (Ă 1) (Ā ă) (fun _ _=>rfl)))))))) (Ā (Ĩ Đ ď (Ă 0) (Ā ă) (fun _ _=>rfl))) (ĭ _)))))
theorem WQ(T:Tx K mg a):ľ P w K mg base (ź P w) 2 a.HS a.HW ["points"] (ak ⟨K,ķ a⟩ 1 qp):=by
 refine aV (cm:=ķ a) (mb:=xV) T.QC jC rfl rfl rfl fun cdv A outer s H E hr=>?_
 have hu:=hr.units
 exact(ĉ (ĸ (i:=1) jC.nd rfl (Or.inl rfl) (ť ğ))
  (ĉ (ĸ (i:=2) jC.nd rfl (Or.inl rfl) (Ĕ (WL T) Č (hr.mono (by decide)) rfl T.ql T.Qy.kp T.ZbA ī (Ĉ 0 (hr:=Ē))))
  (ĉ (bF PassesOwn.leaving rfl (ao 2) (ē (i:=3) jC.nd rfl (Or.inl rfl))
  (č (bF PassesOwn.leaving rfl (ao 2) (ē (i:=4) jC.nd rfl (Or.inl rfl))
  (ĉ (ĸ (i:=5) jC.nd rfl (by first|exact Or.inl rfl|exact Or.inr rfl) (Ĕ (WM T) Č (hr.mono (by decide)) rfl T.qm T.Qz.kp T.ZbB ī (Ĉ 3 (hr:=(Ĉ 4 (hr:=Ē))))))
  (č (Ţ (PW.pt (w_and (ŉ dR (bJ hu) (Ă 3) (Ă 4) (ĭ _)) (jl (aA (Ā (PE.wk (ĩ (jk rfl) (by rfl) T.qD PyProof.Rows.boot_all (Ė (Ā (ĥ (aq ["line","point"] [5] 1 (ċ pX) rfl rfl (ao 2) (fun _ _ _ _ _=>(ē (i:=1) (show(["line","point"]:List Str).Nodup by decide +kernel) rfl (Or.inl rfl) (hf:=Or.inr rfl))) (fun _ _ _ _ _=>ũ) (fun _ _ _ _ _=>(ĥ (Ĕ (KH T) Č (hr.mono (by decide)) rfl T.gJ T.JR.kp T.QB cB (Ĉ 0 (hr:=(Ĉ 1 (hr:=Ē))))))) ⟨rfl,⟨rfl,Or.inl rfl⟩,trivial⟩))) ı)) fun _ _ _ h=>Ũ jr h))))))
  (č (PS.wk (cJ (jH PySem.F.plainAttrs_list PySem.F.slot_list_append PySem.F.type_list_append aG (pv 1) (Ą (v_var 5) ğ))) fun _ _ _ h=>iI h))
  Ĵ))))))
  (č (ģ (lQ 1))))))
theorem WR(T:Tx K mg a):ľ P w K mg base (ź P w) 3 a.HX a.HY ["points"] (ak ⟨K,ķ a⟩ 1 qt):=by
 refine aV (cm:=ķ a) (mb:=xW) T.QD Wh rfl rfl rfl fun cdv A outer s H E hr=>?_
 have hu:=hr.units
 exact(č (ģ (ł İ į (Ā (ĥ (Ĕ (WK T) Č (hr.mono (by decide)) rfl T.qj T.Qx.kp T.Zbz ī (Ĉ 0 (hr:=Ē))))) (Ā (ĥ (Ĕ (WQ T) Č (hr.mono (by decide)) rfl T.qp T.QC.kp T.ZbC ī (Ĉ 0 (hr:=Ē))))))))
theorem WT(T:Tx K mg a):ľ P w K mg base (ź P w) 4 a.H_ a.Ia ["points","point"] (ak ⟨K,ķ a⟩ 2 nC):=by
 refine aV (cm:=ķ a) (mb:=rW) T.QF Km rfl rfl rfl fun cdv A outer s H E hr=>?_
 have hu:=hr.units
 exact(ĉ (bF PassesOwn.leaving rfl (cW (ĥ (Ĕ (WR T) Č (hr.mono (by decide)) rfl T.qt T.QD.kp T.ZbD ī (Ĉ 0 (hr:=Ē))))) (ē (i:=2) Km.nd rfl (Or.inl rfl))
  (č (Ţ (eV (aA (Ā (ĥ (Ĕ (KH T) Č (hr.mono (by decide)) rfl T.gJ T.JR.kp T.QB ī (Ĉ 2 (hr:=(Ĉ 1 (hr:=Ē)))))))))
  (č (ģ (lQ 2)))
  Ĵ)))
  (č (ģ (Ķ Pu))))
theorem KJ(T:Tx K mg a):ľ P w K mg base (ź P w) 1 a.Ib a.Ie ["many"] (ak ⟨K,ķ a⟩ 1 jQ):=by
 refine aV (cm:=ķ a) (mb:=xX) T.JT yO rfl rfl rfl fun cdv A outer s H E hr=>?_
 have hu:=hr.units
 exact(ĉ (ĸ (i:=1) yO.nd rfl (Or.inl rfl) (ť ğ))
  (ĉ (bF PassesOwn.leaving rfl (aM rfl T.bT (Ą (v_var 0) ğ)) (ē (i:=2) yO.nd rfl (by first|exact Or.inl rfl|exact Or.inr rfl))
  (č (PS.wk (cJ (jH PySem.F.plainAttrs_list PySem.F.slot_list_extend PySem.F.type_list_extend oZ (pv 1) (bh (aq ["second","first"] [2] 1 (ċ pY) rfl rfl (aM rfl T.bT (Ą (v_var 2) ğ)) (fun _ _ _ _ _=>(ē (i:=1) (show(["second","first"]:List Str).Nodup by decide +kernel) rfl (Or.inl rfl) (hf:=Or.inr rfl))) (fun _ _ _ _ _=>ũ) (fun _ _ _ _ _=>(Ŀ (Ą (v_var 1) (Ą (v_var 0) ğ)))) ⟨rfl,⟨rfl,Or.inl rfl⟩,trivial⟩) gQ))) fun _ _ _ h=>Ab h)))
  (č (ģ (lQ 1)))))
theorem Zb_(T:Tx K mg a):ľ P w K mg base (ź P w) 2 a.Vf a.Vg ["many"] (ak ⟨K,ķ a⟩ 1 BZ):=by
 refine aV (cm:=ķ a) (mb:=Gm) T.ZbF Ko rfl rfl rfl fun cdv A outer s H E hr=>?_
 have hu:=hr.units
 exact(ĉ (ĸ (i:=1) Ko.nd rfl (Or.inl rfl) (ť ğ))
  (ĉ (bF PassesOwn.leaving rfl (aM rfl T.bT (Ą (v_var 0) ğ)) (ē (i:=2) Ko.nd rfl (by first|exact Or.inl rfl|exact Or.inr rfl))
  (č (PS.wk (cJ (jH PySem.F.plainAttrs_list PySem.F.slot_list_extend PySem.F.type_list_extend oZ (pv 1) (bh (aq ["third","pair"] [2] 1 (ċ BW) rfl rfl (Fz (cW (ĥ (Ĕ (KJ T) Č (hr.mono (by decide)) rfl T.jQ T.JT.kp T.QG cB (Ĉ 2 (hr:=Ē)))))) (fun _ _ _ _ _=>(ē (i:=1) (show(["third","pair"]:List Str).Nodup by decide +kernel) rfl (Or.inl rfl) (hf:=Or.inr rfl))) (fun _ _ _ _ _=>ũ) (fun _ _ _ _ _=>(Ŀ (Ą (Ĩ Đ ď (Ă 1) (Ā ă) (fun _ _=>rfl)) (Ą (Ĩ Đ ď (Ă 1) (Ā ă) (fun _ _=>rfl)) (Ą (v_var 0) ğ))))) ⟨rfl,⟨rfl,Or.inl rfl⟩,trivial⟩) gQ))) fun _ _ _ h=>Ab h)))
  (č (ģ (lQ 1)))))
theorem Zca(T:Tx K mg a):ľ P w K mg base (ź P w) 1 a.Vh a.Vi ["one","other"] (ak ⟨K,ķ a⟩ 2 B_):=by
 refine aV (cm:=ķ a) (mb:=Gn) T.ZbG Aq rfl rfl rfl fun cdv A outer s H E hr=>?_
 have hu:=hr.units
 exact(ĉ (zK PassesOwn.leaving (ŉ dR (bJ hu) (Ă 1) (Ā ă) (ĭ _))
  (ĉ (ĸ (i:=2) Aq.nd rfl (Or.inl rfl) (Ķ (Ď Ŏ ō (Ă 0) (Ă 1))))
  (ĉ (ĸ (i:=0) Aq.nd rfl (Or.inl rfl) (Ķ (v_var 1)))
  (č (ĸ (i:=1) Aq.nd rfl (Or.inl rfl) (Ķ (v_var 2)))))))
  (č (ģ (Ķ (PE.wk (ĩ Tw (by rfl) T.Zb2 PyProof.Rows.boot_abs (Ė (Ă 0) ı)) fun _ _ _ h=>Ũ Ui h)))))
theorem KN(T:Tx K mg a):ľ P w K mg base (ź P w) 2 a.Ig a.Ih ["top","bottom"] (ak ⟨K,ķ a⟩ 2 fK):=by
 refine aV (cm:=ķ a) (mb:=rY) T.JV yP rfl rfl rfl fun cdv A outer s H E hr=>?_
 have hu:=hr.units
 exact(ĉ (Ţ (ŉ ś (Ň hu) (Ă 1) (Ā ă) (ĭ _))
  (č (uy (C:= "NoNumber") rfl rfl z_ rfl T.yG T.yI))
  Ĵ)
  (ĉ (ĸ (i:=2) yP.nd rfl (Or.inl rfl) (Ĕ (Zca T) Č (hr.mono (by decide)) rfl T.B_ T.ZbG.kp T.Zin ī (Ĉ 0 (hr:=(Ĉ 1 (hr:=Ē))))))
  (ĉ (Ţ (ŉ pG pq (Ă 1) (Ā ă) (ĭ _))
  (č (ĸ (i:=2) yP.nd rfl (Or.inl rfl) (Ķ (Bm jo ji (Ă 2)))))
  Ĵ)
  (č (ģ (Ķ (Ŀ (Ą (Ď Ś Ō (Ă 0) (Ă 2)) (Ą (Ď Ś Ō (Ă 1) (Ă 2)) ğ)))))))))
theorem yS(T:Tx K mg a):ľ P w K mg base (ź P w) 3 a.Ii a.Ij ["shares","places","many"] (ak ⟨K,ķ a⟩ 3 dj):=by
 refine aV (cm:=ķ a) (mb:=jA) T.Aj nW rfl rfl rfl fun cdv A outer s H E hr=>?_
 have hu:=hr.units
 exact(ĉ (ĸ (i:=3) nW.nd rfl (by first|exact Or.inl rfl|exact Or.inr rfl) (Ķ (PE.wk (ĩ (qX rfl) (by rfl) T.Ao PyProof.Rows.boot_sum (Ė (Ă 0) ı)) fun _ _ _ h=>Ũ qY h)))
  (ĉ (mO (i:=4) nW.nd rfl rfl ["whole","place"] [3] 1 (ċ pZ) rfl rfl (aM rfl T.bT (Ą (v_var 2) ğ)) (fun _ _ _ _ _=>(ē (i:=1) (show(["whole","place"]:List Str).Nodup by decide +kernel) rfl (Or.inl rfl) (hf:=Or.inr rfl))) (fun _ _ _ _ _=>ũ) (fun _ _ _ _ _=>(ĥ (Ĕ (KN T) Č (hr.mono (by decide)) rfl T.fK T.JV.kp T.QH cB (Ĝ ă (Ĉ 0 (hr:=Ē)))))) ⟨rfl,⟨rfl,Or.inl rfl⟩,trivial⟩)
  (ĉ (bF PassesOwn.leaving rfl (Zbh rfl T.Zb4 (Qe 0) (Qe 1)) (zJ rfl (Ĥ (ē (i:=5) nW.nd rfl (Or.inl rfl)) (Ĥ (ē (i:=6) nW.nd rfl (Or.inl rfl)) Ů)))
  (č (M_ (i:=4) (ĥ (Ĕ (KN T) Č (hr.mono (by decide)) rfl T.fK T.JV.kp T.QH ī (Ĉ 5 (hr:=(Ĉ 3 (hr:=Ē)))))) (v_var 6) (pv 4))))
  (č (ģ (lQ 4))))))
theorem yU(T:Tx K mg a):ľ P w K mg base (ź P w) 1 a.Ik a.Il ["one","other","third"] (ak ⟨K,ķ a⟩ 3 gK):=by
 refine aV (cm:=ķ a) (mb:=xY) T.Ak Kp rfl rfl rfl fun cdv A outer s H E hr=>?_
 have hu:=hr.units
 exact(ĉ (ĸ (i:=3) Kp.nd rfl (Or.inl rfl) (Ķ (Ď Ī Ę (Ā (Ď Ŕ œ (Ā (Ĩ Đ ď (Ă 1) (Ā ă) (fun _ _=>rfl))) (Ā (Ĩ Đ ď (Ă 0) (Ā ă) (fun _ _=>rfl))))) (Ā (Ď Ŕ œ (Ā (Ĩ Đ ď (Ă 2) (Ā ă) (fun _ _=>rfl))) (Ā (Ĩ Đ ď (Ă 0) (Ā ă) (fun _ _=>rfl))))))))
  (č (ģ (Ķ (Ď Ŕ œ (Ă 3) (Ā (Ď Ī Ę (Ā (Ď Ŕ œ (Ā (Ĩ Đ ď (Ă 1) (Ā ă) (fun _ _=>rfl))) (Ā (Ĩ Đ ď (Ă 0) (Ā ă) (fun _ _=>rfl))))) (Ā (Ď Ŕ œ (Ā (Ĩ Đ ď (Ă 2) (Ā ă) (fun _ _=>rfl))) (Ā (Ĩ Đ ď (Ă 0) (Ā ă) (fun _ _=>rfl))))))))))))
theorem Zcb(T:Tx K mg a):ľ P w K mg base (ź P w) 2 a.Vj a.Vk ["corners","point"] (ak ⟨K,ķ a⟩ 2 Cd):=by
 refine aV (cm:=ķ a) (mb:=Gp) T.ZbH Ar rfl rfl rfl fun cdv A outer s H E hr=>?_
 have hu:=hr.units
 exact(ĉ (ĸ (i:=2) Ar.nd rfl (Or.inl rfl) (Ķ (Ĩ Đ ď (Ă 0) (Ā ă) (fun _ _=>rfl))))
  (ĉ (ĸ (i:=3) Ar.nd rfl (Or.inl rfl) (Ķ (Ĩ Đ ď (Ă 0) (Ā ă) (fun _ _=>rfl))))
  (ĉ (ĸ (i:=4) Ar.nd rfl (Or.inl rfl) (Ķ (Ĩ Đ ď (Ă 0) (Ā ă) (fun _ _=>rfl))))
  (č (ģ (ť (Ą (ĥ (Ĕ (yU T) Č (hr.mono (by decide)) rfl T.gK T.Ak.kp T.JX ī (Ĉ 1 (hr:=(Ĉ 3 (hr:=(Ĉ 4 (hr:=Ē)))))))) (Ą (ĥ (Ĕ (yU T) Č (hr.mono (by decide)) rfl T.gK T.Ak.kp T.JX ī (Ĉ 2 (hr:=(Ĉ 1 (hr:=(Ĉ 4 (hr:=Ē)))))))) (Ą (ĥ (Ĕ (yU T) Č (hr.mono (by decide)) rfl T.gK T.Ak.kp T.JX ī (Ĉ 2 (hr:=(Ĉ 3 (hr:=(Ĉ 1 (hr:=Ē)))))))) ğ)))))))))
theorem KQ(T:Tx K mg a):ľ P w K mg base (ź P w) 1 a.Im a.Io ["shares"] (ak ⟨K,ķ a⟩ 1 iY):=by
 refine aV (cm:=ķ a) (mb:=su) T.JZ Kq rfl rfl rfl fun cdv A outer s H E hr=>?_
 have hu:=hr.units
 exact(ĉ (ĸ (i:=1) Kq.nd rfl (by first|exact Or.inl rfl|exact Or.inr rfl) (Ķ (PE.wk (ĩ (qX rfl) (by rfl) T.Ao PyProof.Rows.boot_sum (Ė (Ă 0) ı)) fun _ _ _ h=>Ũ qY h)))
  (č (ģ (Ķ (v_and (bY dR (bJ hu) (Ă 1) (Ā ă) (ĭ _)) (jM (PE.wk (ĩ (jk rfl) (by rfl) T.qD PyProof.Rows.boot_all (Ė (Ā (ĥ (aq ["whole","share"] [1] 1 (ċ qb) rfl rfl (ao 0) (fun _ _ _ _ _=>(ē (i:=1) (show(["whole","share"]:List Str).Nodup by decide +kernel) rfl (Or.inl rfl) (hf:=Or.inr rfl))) (fun _ _ _ _ _=>ũ) (fun _ _ _ _ _=>(bY ZaT Zaz (Ā (Ď Ī Ę (Ă 1) (Ă 0))) (Ā ă) (ĭ _))) ⟨rfl,⟨rfl,Or.inl rfl⟩,trivial⟩))) ı)) fun _ _ _ h=>Ũ jr h)))))))
theorem WW(T:Tx K mg a):ľ P w K mg base (ź P w) 1 a.Ip a.Ir ["ends","point"] (ak ⟨K,ķ a⟩ 2 qu):=by
 refine aV (cm:=ķ a) (mb:=xZ) T.QK sZ rfl rfl rfl fun cdv A outer s H E hr=>?_
 have hu:=hr.units
 exact(ĉ (ĸ (i:=2) sZ.nd rfl (Or.inl rfl) (Ķ (Ď Ŕ œ (Ā (Ĩ Đ ď (Ā (Ĩ Đ ď (Ă 0) (Ā ă) (fun _ _=>rfl))) (Ā ă) (fun _ _=>rfl))) (Ā (Ĩ Đ ď (Ā (Ĩ Đ ď (Ă 0) (Ā ă) (fun _ _=>rfl))) (Ā ă) (fun _ _=>rfl))))))
  (ĉ (ĸ (i:=3) sZ.nd rfl (Or.inl rfl) (Ķ (Ď Ŕ œ (Ā (Ĩ Đ ď (Ā (Ĩ Đ ď (Ă 0) (Ā ă) (fun _ _=>rfl))) (Ā ă) (fun _ _=>rfl))) (Ā (Ĩ Đ ď (Ā (Ĩ Đ ď (Ă 0) (Ā ă) (fun _ _=>rfl))) (Ā ă) (fun _ _=>rfl))))))
  (ĉ (ĸ (i:=4) sZ.nd rfl (Or.inl rfl) (ł İ į (Ā (Ď Ī Ę (Ă 2) (Ā (Ď Ŕ œ (Ā (Ĩ Đ ď (Ă 1) (Ā ă) (fun _ _=>rfl))) (Ā (Ĩ Đ ď (Ā (Ĩ Đ ď (Ă 0) (Ā ă) (fun _ _=>rfl))) (Ā ă) (fun _ _=>rfl))))))) (Ā (Ď Ī Ę (Ă 3) (Ā (Ď Ŕ œ (Ā (Ĩ Đ ď (Ă 1) (Ā ă) (fun _ _=>rfl))) (Ā (Ĩ Đ ď (Ā (Ĩ Đ ď (Ă 0) (Ā ă) (fun _ _=>rfl))) (Ā ă) (fun _ _=>rfl)))))))))
  (č (ģ (ť (Ą (Ď Ŕ œ (Ā (ĥ (ł İ į (Ā (Ď Ī Ę (Ă 2) (Ă 2))) (Ā (Ď Ī Ę (Ă 3) (Ă 3)))))) (Ă 4)) (Ą (v_var 4) ğ))))))))
theorem WX(T:Tx K mg a):ľ P w K mg base (ź P w) 4 a.Iu a.Iv ["points","point"] (ak ⟨K,ķ a⟩ 2 jR):=by
 refine aV (cm:=ķ a) (mb:=nF) T.QL jD rfl rfl rfl fun cdv A outer s H E hr=>?_
 have hu:=hr.units
 exact(ĉ (ĸ (i:=2) jD.nd rfl (Or.inl rfl) (Ķ (PE.wk (ĩ bU (by rfl) T.fO PySem.boot_len (Ė (Ă 0) ı)) fun _ _ _ h=>Ũ cA h)))
  (ĉ (bF PassesOwn.leaving rfl (cW (ĥ (Ĕ (Zb_ T) Č (hr.mono (by decide)) rfl T.BZ T.ZbF.kp T.Zim ī (Ĉ 2 (hr:=Ē))))) (ē (i:=3) jD.nd rfl (Or.inl rfl))
  (ĉ (ĸ (i:=4) jD.nd rfl (Or.inl rfl) (Ĕ (Zcb T) Č (hr.mono (by decide)) rfl T.Cd T.ZbH.kp T.Zio ī (Ĝ (ĥ (aq ["points","place"] [0] 1 (ċ mW) rfl rfl (ao 3) (fun _ _ _ _ _=>(ē (i:=1) (show(["points","place"]:List Str).Nodup by decide +kernel) rfl (Or.inl rfl) (hf:=Or.inr rfl))) (fun _ _ _ _ _=>ũ) (fun _ _ _ _ _=>(Ĩ Đ ď (Ă 0) (Ă 1) (fun _ _=>rfl))) ⟨rfl,⟨rfl,Or.inl rfl⟩,trivial⟩)) (Ĉ 1 (hr:=Ē)))))
  (č (Ţ (aA (Ā (ĥ (Ĕ (KQ T) Č (hr.mono (by decide)) rfl T.iY T.JZ.kp T.QJ ī (Ĉ 4 (hr:=Ē))))))
  (č (ģ (Ĕ (yS T) Č (hr.mono (by decide)) rfl T.dj T.Aj.kp T.JW ī (Ĉ 4 (hr:=(Ĉ 3 (hr:=(Ĉ 2 (hr:=Ē)))))))))
  Ĵ))))
  (ĉ (bF PassesOwn.leaving rfl (cW (ĥ (Ĕ (KJ T) Č (hr.mono (by decide)) rfl T.jQ T.JT.kp T.QG ī (Ĉ 2 (hr:=Ē))))) (ē (i:=3) jD.nd rfl (Or.inl rfl))
  (ĉ (ĸ (i:=4) jD.nd rfl (Or.inl rfl) (Ĕ (WW T) Č (hr.mono (by decide)) rfl T.qu T.QK.kp T.ZbI ī (Ĝ (ĥ (aq ["points","place"] [0] 1 (ċ mW) rfl rfl (ao 3) (fun _ _ _ _ _=>(ē (i:=1) (show(["points","place"]:List Str).Nodup by decide +kernel) rfl (Or.inl rfl) (hf:=Or.inr rfl))) (fun _ _ _ _ _=>ũ) (fun _ _ _ _ _=>(Ĩ Đ ď (Ă 0) (Ă 1) (fun _ _=>rfl))) ⟨rfl,⟨rfl,Or.inl rfl⟩,trivial⟩)) (Ĉ 1 (hr:=Ē)))))
  (č (Ţ (aA (Ā (ĥ (Ĕ (KQ T) Č (hr.mono (by decide)) rfl T.iY T.JZ.kp T.QJ ī (Ĉ 4 (hr:=Ē))))))
  (č (ģ (Ĕ (yS T) Č (hr.mono (by decide)) rfl T.dj T.Aj.kp T.JW ī (Ĉ 4 (hr:=(Ĉ 3 (hr:=(Ĉ 2 (hr:=Ē)))))))))
  Ĵ))))
  (č (ģ (Ĕ (yS T) Č (hr.mono (by decide)) rfl T.dj T.Aj.kp T.JW ī (Ĝ (ĥ (ť (Ą ă ğ))) (Ĝ (ĥ (ť (Ą ă ğ))) (Ĉ 2 (hr:=Ē))))))))))
theorem WY(T:Tx K mg a):ľ P w K mg base (ź P w) 5 a.Iw a.Iz ["points","point"] (ak ⟨K,ķ a⟩ 2 nG):=by
 refine aV (cm:=ķ a) (mb:=sG) T.QM Kr rfl rfl rfl fun cdv A outer s H E hr=>?_
 have hu:=hr.units
 exact(ĉ (ĸ (i:=2) Kr.nd rfl (Or.inl rfl) (Ĕ (WT T) Č (hr.mono (by decide)) rfl T.nC T.QF.kp T.ZbE ī (Ĉ 0 (hr:=(Ĉ 1 (hr:=Ē))))))
  (ĉ (Ţ (ŉ ZaV SM (Ă 2) (Ā Pu) (ĭ _))
  (č (ģ (U_ (Oj š (UW (Ĕ (WX T) Č (hr.mono (by decide)) rfl T.jR T.QL.kp T.ZbJ ī (Ĉ 0 (hr:=(Ĉ 1 (hr:=Ē))))))))))
  Ĵ)
  (č (ģ (Ķ (Ŀ (Ą š (Ą (v_var 2) ğ))))))))
theorem KR(T:Tx K mg a):ľ P w K mg base (ź P w) 1 a.IK a.IV ["point","ray"] (ak ⟨K,ķ a⟩ 2 gM):=by
 refine aV (cm:=ķ a) (mb:=yc) T.J_ Wi rfl rfl rfl fun cdv A outer s H E hr=>?_
 have hu:=hr.units
 exact(č (ģ (Ķ (Ŀ (Ą (ĥ (ł İ į (Ā (Ď Ī Ę (Ā (Ĩ Đ ď (Ă 1) (Ā ă) (fun _ _=>rfl))) (Ā (Ĩ Đ ď (Ă 0) (Ā ă) (fun _ _=>rfl))))) (Ā (Ď Ī Ę (Ā (Ĩ Đ ď (Ă 1) (Ā ă) (fun _ _=>rfl))) (Ā (Ĩ Đ ď (Ă 0) (Ā ă) (fun _ _=>rfl))))))) (Ą (ĥ (ł İ į (Ā (Ď Ī Ę (Ā (Ĩ Đ ď (Ă 1) (Ā ă) (fun _ _=>rfl))) (Ā (Ĩ Đ ď (Ă 0) (Ā ă) (fun _ _=>rfl))))) (Ā (Ď Ī Ę (Ā (Ĩ Đ ď (Ă 1) (Ā ă) (fun _ _=>rfl))) (Ā (Ĩ Đ ď (Ă 0) (Ā ă) (fun _ _=>rfl))))))) ğ))))))
theorem KY(T:Tx K mg a):ľ P w K mg base (ź P w) 1 a.Vl a.Vm ["x","y","u","v","z"] (ak ⟨K,ķ a⟩ 5 oN):=by
 refine aV (cm:=ķ a) (mb:=Gq) T.Ot Zb7 rfl rfl rfl fun cdv A outer s H E hr=>?_
 have hu:=hr.units
 exact(č (ģ (ť (Ą (Ŀ (Ą (v_var 0) (Ą (v_var 1) (Ą (v_var 4) ğ)))) (Ą (Ŀ (Ą (v_var 2) (Ą (v_var 1) (Ą (v_var 4) ğ)))) (Ą (Ŀ (Ą (v_var 2) (Ą (v_var 3) (Ą (v_var 4) ğ)))) (Ą (Ŀ (Ą (v_var 0) (Ą (v_var 3) (Ą (v_var 4) ğ)))) ğ)))))))
theorem Rq(T:Tx K mg a):ľ P w K mg base (ź P w) 2 a.Vn a.Vo ["x","y","u","v","h"] (ak ⟨K,ķ a⟩ 5 vM):=by
 refine aV (cm:=ķ a) (mb:=Gs) T.Vx Zb8 rfl rfl rfl fun cdv A outer s H E hr=>?_
 have hu:=hr.units
 exact(č (ģ (ł İ į (Ā (ĥ (Ĕ (KY T) Č (hr.mono (by decide)) rfl T.oN T.Ot.kp T.Vw ī (Ĉ 0 (hr:=(Ĉ 1 (hr:=(Ĉ 2 (hr:=(Ĉ 3 (hr:=(Ĝ ă Ē)))))))))))) (Ā (ĥ (Ĕ (KY T) Č (hr.mono (by decide)) rfl T.oN T.Ot.kp T.Vw ī (Ĉ 0 (hr:=(Ĉ 1 (hr:=(Ĉ 2 (hr:=(Ĉ 3 (hr:=(Ĉ 4 (hr:=Ē))))))))))))))))
theorem W_(T:Tx K mg a):ľ P w K mg base (ź P w) 3 a.IW a.I_ ["self"] (ak ⟨K,ķ a⟩ 1 jT):=by
 refine aV (cm:=ķ a) (mb:=yd) T.ZbM yQ rfl rfl rfl fun cdv A outer s H E hr=>?_
 have hu:=hr.units
 exact(ĉ (ĸ (i:=1) yQ.nd rfl (Or.inl rfl) (Ķ (Ď Ī Ę (Ā ă) (Ā (Ĩ Đ ď (Ā (mF ["Thing","Post","Fence","Sail","Cloth","House"] ⟨⟨T.ŧ,T.Ĺ⟩,⟨⟨T.Ŷ,T.ŀ⟩,⟨⟨T.ŝ,T.ĺ⟩,⟨⟨T.ŷ,T.Ł⟩,⟨⟨T.Ş,T.Ļ⟩,⟨⟨T.ş,T.ļ⟩,trivial⟩⟩⟩⟩⟩⟩ (Ă 0))) (Ā ă) (fun _ _=>rfl))))))
  (ĉ (ĸ (i:=2) yQ.nd rfl (Or.inl rfl) (Ķ (Ď Ī Ę (Ā ă) (Ā (Ĩ Đ ď (Ā (mF ["Thing","Post","Fence","Sail","Cloth","House"] ⟨⟨T.ŧ,T.Ĺ⟩,⟨⟨T.Ŷ,T.ŀ⟩,⟨⟨T.ŝ,T.ĺ⟩,⟨⟨T.ŷ,T.Ł⟩,⟨⟨T.Ş,T.Ļ⟩,⟨⟨T.ş,T.ļ⟩,trivial⟩⟩⟩⟩⟩⟩ (Ă 0))) (Ā ă) (fun _ _=>rfl))))))
  (č (ģ (Ĕ (Rq T) Č (hr.mono (by decide)) rfl T.vM T.Vx.kp T.ZbL ī (Ĝ (Ď Ŕ œ (Ă 1) (Ā ă)) (Ĝ (Ď Ŕ œ (Ă 2) (Ā ă)) (Ĝ (ĥ (ł İ į (Ă 1) (Ā ă))) (Ĝ (ĥ (ł İ į (Ă 2) (Ā ă))) (Ĝ (Ĩ Đ ď (Ā (mF ["Thing","Post","Fence","Sail","Cloth","House"] ⟨⟨T.ŧ,T.Ĺ⟩,⟨⟨T.Ŷ,T.ŀ⟩,⟨⟨T.ŝ,T.ĺ⟩,⟨⟨T.ŷ,T.Ł⟩,⟨⟨T.Ş,T.Ļ⟩,⟨⟨T.ş,T.ļ⟩,trivial⟩⟩⟩⟩⟩⟩ (Ă 0))) (Ā ă) (fun _ _=>rfl)) Ē))))))))))
theorem Xc(T:Tx K mg a):ľ P w K mg base (ź P w) 1 a.Ja a.Jb ["self"] (ak ⟨K,ķ a⟩ 1 jU):=by
 refine aV (cm:=ķ a) (mb:=yg) T.ZbO tu rfl rfl rfl fun cdv A outer s H E hr=>?_
 have hu:=hr.units
 exact(ĉ (ĸ (i:=1) tu.nd rfl (Or.inl rfl) (Ķ (mF ["Thing","Post","Fence","Sail","Cloth","House"] ⟨⟨T.ŧ,T.Ĺ⟩,⟨⟨T.Ŷ,T.ŀ⟩,⟨⟨T.ŝ,T.ĺ⟩,⟨⟨T.ŷ,T.Ł⟩,⟨⟨T.Ş,T.Ļ⟩,⟨⟨T.ş,T.ļ⟩,trivial⟩⟩⟩⟩⟩⟩ (Ă 0))))
  (ĉ (ĸ (i:=2) tu.nd rfl (Or.inl rfl) (Ķ (Ŀ (Ą (Ĩ Đ ď (Ă 1) (Ā ă) (fun _ _=>rfl)) (Ą (Ĩ Đ ď (Ă 1) (Ā ă) (fun _ _=>rfl)) ğ)))))
  (ĉ (ĸ (i:=3) tu.nd rfl (Or.inl rfl) (Ķ (Ŀ (Ą (Ĩ Đ ď (Ă 1) (Ā ă) (fun _ _=>rfl)) (Ą (Ĩ Đ ď (Ă 1) (Ā ă) (fun _ _=>rfl)) ğ)))))
  (č (ģ (ť (Ą (ĥ (ł İ į (Ă 2) (Ā (Ŀ (Ą ă ğ))))) (Ą (ĥ (ł İ į (Ă 3) (Ā (Ŀ (Ą ă ğ))))) (Ą (ĥ (ł İ į (Ă 3) (Ā (Ŀ (Ą (Ĩ Đ ď (Ă 1) (Ā ă) (fun _ _=>rfl)) ğ))))) (Ą (ĥ (ł İ į (Ă 2) (Ā (Ŀ (Ą (Ĩ Đ ď (Ă 1) (Ā ă) (fun _ _=>rfl)) ğ))))) ğ))))))))))
theorem Xd(T:Tx K mg a):ľ P w K mg base (ź P w) 2 a.Jc a.Jd ["self"] (ak ⟨K,ķ a⟩ 1 jV):=by
 refine aV (cm:=ķ a) (mb:=yh) T.ZbQ Ks rfl rfl rfl fun cdv A outer s H E hr=>?_
 have hu:=hr.units
 exact(ĉ (ĸ (i:=1) Ks.nd rfl (Or.inl rfl) (Ķ (mF ["Thing","Post","Fence","Sail","Cloth","House"] ⟨⟨T.ŧ,T.Ĺ⟩,⟨⟨T.Ŷ,T.ŀ⟩,⟨⟨T.ŝ,T.ĺ⟩,⟨⟨T.ŷ,T.Ł⟩,⟨⟨T.Ş,T.Ļ⟩,⟨⟨T.ş,T.ļ⟩,trivial⟩⟩⟩⟩⟩⟩ (Ă 0))))
  (č (ģ (Ĕ (KY T) Č (hr.mono (by decide)) rfl T.oN T.Ot.kp T.Vw ī (Ĝ (Ĩ Đ ď (Ă 1) (Ā ă) (fun _ _=>rfl)) (Ĝ (Ĩ Đ ď (Ă 1) (Ā ă) (fun _ _=>rfl)) (Ĝ (Ĩ Đ ď (Ă 1) (Ā ă) (fun _ _=>rfl)) (Ĝ (Ĩ Đ ď (Ă 1) (Ā ă) (fun _ _=>rfl)) (Ĝ (Ĩ Đ ď (Ă 1) (Ā ă) (fun _ _=>rfl)) Ē)))))))))
theorem Xe(T:Tx K mg a):ľ P w K mg base (ź P w) 1 a.Je a.Jf ["self"] (ak ⟨K,ķ a⟩ 1 jW):=by
 refine aV (cm:=ķ a) (mb:=yj) T.ZbS Wj rfl rfl rfl fun cdv A outer s H E hr=>?_
 have hu:=hr.units
 exact(@č _ _ _ _ _ (@ģ _ _ _ _ _ _ (aq ["self","place"] [0] 1 (ċ qd) rfl rfl (@cW _ _ _ _ _ _ (@Ŀ _ _ _ _ _ _ _ (@Ą _ _ _ _ _ _ _ (@ă _ _ _ _ _ _) (@Ą _ _ _ _ _ _ _ (@ă _ _ _ _ _ _) (@Ą _ _ _ _ _ _ _ (@ă _ _ _ _ _ _) (@ğ _ _ _) (by exact ć rfl)) (by exact ć rfl)) (by exact ć rfl)))) (fun _ _ _ _ _=>(@ē _ _ _ 1 _ (show(["self","place"]:List Str).Nodup by decide +kernel) rfl (Or.inl rfl) (Or.inr rfl))) (fun _ _ _ _ _=>(@ũ _ _ _)) (fun _ _ _ _ _=>(@PE.wk _ _ _ _ (ų lX (by rfl) T.gn PyProof.Rows.boot_tuple (@Ė _ _ _ _ _ _ _ (@Ā _ _ _ _ _ (@ĥ _ _ _ _ _ (@dN _ _ _ _ _ _ _ _ _ _ _ (@Ā _ _ _ _ _ (@mF _ _ _ _ _ _ _ ["Thing","Post","Fence","Sail","Cloth","House"] ⟨⟨T.ŧ,T.Ĺ⟩,⟨⟨T.Ŷ,T.ŀ⟩,⟨⟨T.ŝ,T.ĺ⟩,⟨⟨T.ŷ,T.Ł⟩,⟨⟨T.Ş,T.Ļ⟩,⟨⟨T.ş,T.ļ⟩,trivial⟩⟩⟩⟩⟩⟩ (@Ă _ _ _ 0 _ _ (by rfl) (by first|exact Or.inl rfl|exact Or.inr (Or.inl rfl)|exact Or.inr (Or.inr rfl)) (by decide) (by decide)) (by rfl))) (@bK _ _ _ _ _ (@v_var _ _ _ 1 _ _ (by rfl) (by first|exact Or.inl rfl|exact Or.inr (Or.inl rfl)|exact Or.inr (Or.inr rfl)) (by decide) (by decide))) (@bK _ _ _ _ _ (@ĥ _ _ _ _ _ (@ł _ _ _ _ _ _ _ _ _ _ _ (@İ _) (@į _) (@Ă _ _ _ 1 _ _ (by rfl) (by first|exact Or.inl rfl|exact Or.inr (Or.inl rfl)|exact Or.inr (Or.inr rfl)) (by decide) (by decide)) (@Ā _ _ _ _ _ (@ă _ _ _ _ _ _)))))))) (@ı _ _ _) (by exact ć rfl))) (fun _ _ _ h=> @Ũ _ _ _ _ _ _ (@lY _) _ _ _ h))) ⟨rfl,⟨rfl,Or.inl rfl⟩,trivial⟩)))
theorem Zcc(T:Tx K mg a):ľ P w K mg base (ź P w) 3 a.Vp a.Vq ["self"] (ak ⟨K,ķ a⟩ 1 vN):=by
 refine aV (cm:=ķ a) (mb:=Gu) T.Ziq Rn rfl rfl rfl fun cdv A outer s H E hr=>?_
 have hu:=hr.units
 exact(ĉ (ĸ (i:=1) Rn.nd rfl (Or.inl rfl) (Ķ (mF ["Thing","Post","Fence","Sail","Cloth","House"] ⟨⟨T.ŧ,T.Ĺ⟩,⟨⟨T.Ŷ,T.ŀ⟩,⟨⟨T.ŝ,T.ĺ⟩,⟨⟨T.ŷ,T.Ł⟩,⟨⟨T.Ş,T.Ļ⟩,⟨⟨T.ş,T.ļ⟩,trivial⟩⟩⟩⟩⟩⟩ (Ă 0))))
  (č (ģ (Ĕ (Rq T) Č (hr.mono (by decide)) rfl T.vM T.Vx.kp T.ZbL ī (Ĝ (Ĩ Đ ď (Ă 1) (Ā ă) (fun _ _=>rfl)) (Ĝ (Ĩ Đ ď (Ă 1) (Ā ă) (fun _ _=>rfl)) (Ĝ (Ĩ Đ ď (Ă 1) (Ā ă) (fun _ _=>rfl)) (Ĝ (Ĩ Đ ď (Ă 1) (Ā ă) (fun _ _=>rfl)) (Ĝ (Ĩ Đ ď (Ă 1) (Ā ă) (fun _ _=>rfl)) Ē)))))))))
theorem Xf(T:Tx K mg a):ľ P w K mg base (ź P w) 4 a.Jg a.Jh ["thing","ray"] (ak ⟨K,ķ a⟩ 2 qw):=by
 refine aV (cm:=ķ a) (mb:=yq) T.QT Wk rfl rfl rfl fun cdv A outer s H E hr=>?_
 have hu:=hr.units
 exact(č (ģ (aq ["ray","corner"] [1] 1 (ċ qe) rfl rfl (Fz (cW (ĥ (Nu (Ld:= "corners") (k:=3) (n:=1) (oh:=[("Post",jT),("Fence",jU),("Sail",jV),("Cloth",jW),("House",vN)]) ⟨⟨T.Ŷ,_,_,_,T.nT,(W_ T).mono (by decide),T.ZbN,Č⟩,⟨⟨T.ŝ,_,_,_,T.kY,(Xc T).mono (by decide),T.ZbP,Č⟩,⟨⟨T.ŷ,_,_,_,T.nU,(Xd T).mono (by decide),T.ZbR,Č⟩,⟨⟨T.Ş,_,_,_,T.kZ,(Xe T).mono (by decide),T.ZbT,Č⟩,⟨⟨T.ş,_,_,_,T.k_,(Zcc T).mono (by decide),T.Zir,Č⟩,trivial⟩⟩⟩⟩⟩ (hr.mono (by decide)) cB (v_var 0))))) (fun _ _ _ _ _=>(ē (i:=1) (show(["ray","corner"]:List Str).Nodup by decide +kernel) rfl (Or.inl rfl) (hf:=Or.inr rfl))) (fun _ _ _ _ _=>ũ) (fun _ _ _ _ _=>(ĥ (Ĕ (KR T) Č (hr.mono (by decide)) rfl T.gM T.J_.kp T.QS cB (Ĉ 1 (hr:=(Ĉ 0 (hr:=Ē))))))) ⟨rfl,⟨rfl,Or.inl rfl⟩,trivial⟩)))
theorem Xg(T:Tx K mg a):ľ P w K mg base (ź P w) 2 a.Ji a.Jj ["stone","ray"] (ak ⟨K,ķ a⟩ 2 qy):=by
 refine aV (cm:=ķ a) (mb:=yr) T.QV Wm rfl rfl rfl fun cdv A outer s H E hr=>?_
 have hu:=hr.units
 exact(č (ģ (Ĕ (KR T) Č (hr.mono (by decide)) rfl T.gM T.J_.kp T.QS ī (Ĝ (Ŀ (Ą (Ď Ī Ę (Ā ă) (Ā (Ĩ Đ ď (Ă 0) (Ā ă) (fun _ _=>rfl)))) (Ą (Ď Ī Ę (Ā ă) (Ā (Ĩ Đ ď (Ă 0) (Ā ă) (fun _ _=>rfl)))) (Ą ă ğ)))) (Ĉ 1 (hr:=Ē))))))
theorem KZ(T:Tx K mg a):ľ P w K mg base (ź P w) 6 a.Jk a.Jl ["thing","stone","ray"] (ak ⟨K,ķ a⟩ 3 jX):=by
 refine aV (cm:=ķ a) (mb:=yt) T.Ka Wn rfl rfl rfl fun cdv A outer s H E hr=>?_
 have hu:=hr.units
 exact(č (ģ (Ĕ (WY T) Č (hr.mono (by decide)) rfl T.nG T.QM.kp T.ZbK ī (Ĝ (ĥ (Ĕ (Xf T) Č (hr.mono (by decide)) rfl T.qw T.QT.kp T.ZbU ī (Ĉ 0 (hr:=(Ĉ 2 (hr:=Ē)))))) (Ĝ (ĥ (Ĕ (Xg T) Č (hr.mono (by decide)) rfl T.qy T.QV.kp T.ZbV ī (Ĉ 1 (hr:=(Ĉ 2 (hr:=Ē)))))) Ē)))))
theorem Xh(T:Tx K mg a):ľ P w K mg base (ź P w) 7 a.Jm a.Jo ["thing","stone","ray"] (ak ⟨K,ķ a⟩ 3 nH):=by
 refine aV (cm:=ķ a) (mb:=sI) T.QX Wo rfl rfl rfl fun cdv A outer s H E hr=>?_
 have hu:=hr.units
 exact(č (ģ (Ķ (bY ś (Ň hu) (Ā (Ĩ Đ ď (Ā (ĥ (Ĕ (KZ T) Č (hr.mono (by decide)) rfl T.jX T.Ka.kp T.QW ī (Ĉ 0 (hr:=(Ĉ 1 (hr:=(Ĉ 2 (hr:=Ē))))))))) (Ā ă) (fun _ _=>rfl))) (Ā š) (ĭ _)))))
theorem yV(T:Tx K mg a):ľ P w K mg base (ź P w) 1 a.Jp a.Jq ["_law_script","_law_at"] (ak ⟨K,ķ a⟩ 2 dZ):=by
 refine aV (cm:=ķ a) (mb:=sJ) T.Al Wq rfl rfl rfl fun cdv A outer s H E hr=>?_
 have hu:=hr.units
 exact(ĉ (Ţ (ŉ pG pq (Ă 1) (Ā (PE.wk (ĩ bU (by rfl) T.fO PySem.boot_len (Ė (Ă 0) ı)) fun _ _ _ h=>Ũ cA h)) (ĭ _))
  (č (ģ (Ķ (Ĩ Đ ď (Ă 0) (Ă 1) (fun _ _=>rfl)))))
  Ĵ)
  (č (ģ (Ķ ă))))
theorem K_(T:Tx K mg a):ľ P w K mg base (ź P w) 1 a.Jr a.Js ["_law_point","_law_ray_here"] (ak ⟨K,ķ a⟩ 2 gO):=by
 refine aV (cm:=ķ a) (mb:=yu) T.Kd Wr rfl rfl rfl fun cdv A outer s H E hr=>?_
 have hu:=hr.units
 exact(č (ģ (Ķ (Ŀ (Ą (ĥ (ł İ į (Ā (Ď Ī Ę (Ā (Ĩ Đ ď (Ă 1) (Ā ă) (fun _ _=>rfl))) (Ā (Ĩ Đ ď (Ă 0) (Ā ă) (fun _ _=>rfl))))) (Ā (Ď Ī Ę (Ā (Ĩ Đ ď (Ă 1) (Ā ă) (fun _ _=>rfl))) (Ā (Ĩ Đ ď (Ă 0) (Ā ă) (fun _ _=>rfl))))))) (Ą (ĥ (ł İ į (Ā (Ď Ī Ę (Ā (Ĩ Đ ď (Ă 1) (Ā ă) (fun _ _=>rfl))) (Ā (Ĩ Đ ď (Ă 0) (Ā ă) (fun _ _=>rfl))))) (Ā (Ď Ī Ę (Ā (Ĩ Đ ď (Ă 1) (Ā ă) (fun _ _=>rfl))) (Ā (Ĩ Đ ď (Ă 0) (Ā ă) (fun _ _=>rfl))))))) ğ))))))
theorem Zcd(T:Tx K mg a):ľ P w K mg base (ź P w) 1 a.Vr a.Vs ["_law_found"] (ak ⟨K,ķ a⟩ 1 vO):=by
 refine aV (cm:=ķ a) (mb:=Gv) T.ZbX vU rfl rfl rfl fun cdv A outer s H E hr=>?_
 have hu:=hr.units
 exact(ĉ (Ţ (PW.pt (w_or (eV (aA (Ā (PE.wk (ĩ bB (by rfl) T.Œ PyProof.Rows.boot_isinstance (Ė (Ă 0) (Ė (Ā (tD (.ty "tuple") (bf (v:=.ty "tuple") rfl T.gn PyProof.Rows.boot_tuple rfl))) ı))) fun _ _ _ h=>Ũ (bC T.iC T.iT T.iD T.iN) h)))) (jL (ŉ dR (bJ hu) (Ā (PE.wk (ĩ bU (by rfl) T.fO PySem.boot_len (Ė (Ă 0) ı)) fun _ _ _ h=>Ũ cA h)) (Ā ă) (ĭ _)))))
  (č (ģ (Ķ gW)))
  Ĵ)
  (ĉ (bF PassesOwn.leaving rfl (ao 0) (ē (i:=1) vU.nd rfl (Or.inl rfl))
  (č (Ţ (PW.pt (w_or (eV (aA (Ā (PE.wk (ĩ bB (by rfl) T.Œ PyProof.Rows.boot_isinstance (Ė (Ă 1) (Ė (Ā (tD (.ty "int") (bf (v:=.ty "int") rfl T.Kf PyProof.Rows.boot_int rfl))) ı))) fun _ _ _ h=>Ũ (bC T.iC T.iT T.iD T.iN) h)))) (jL (aA (Ā (PE.wk (ĩ bB (by rfl) T.Œ PyProof.Rows.boot_isinstance (Ė (Ă 1) (Ė (Ā (tD (.ty "bool") (bf (v:=.ty "bool") rfl T.yK PyProof.Rows.boot_bool rfl))) ı))) fun _ _ _ h=>Ũ (bC T.iC T.iT T.iD T.iN) h))))))
  (č (ģ (Ķ gW)))
  Ĵ)))
  (ĉ (Ţ (PW.pt (w_or (ŉ pG pq (Ā (Ĩ Đ ď (Ă 0) (Ā ă) (fun _ _=>rfl))) (Ā ă) (ĭ _)) (jL (ŉ pG pq (Ā (Ĩ Đ ď (Ă 0) (Ā ă) (fun _ _=>rfl))) (Ā ă) (ĭ _)))))
  (č (ģ (Ķ gW)))
  Ĵ)
  (ĉ (cg (v_var 0) (cD rfl (Ĥ (ē (i:=2) vU.nd rfl (Or.inl rfl)) (Ĥ (ē (i:=3) vU.nd rfl (Or.inl rfl)) Ů))))
  (ĉ (zK PassesOwn.leaving (ŉ dR (bJ hu) (Ă 3) (Ā ă) (ĭ _))
  (č (PS.wk (RW (i:=2) (j:=3) rfl vU.nd rfl rfl (by decide) rfl rfl (Ą (v_var 3) (Ą (Ď Ŏ ō (Ă 2) (Ă 3)) ğ)) rfl) fun _ _ _ h=>MP h)))
  (č (ģ (Ķ (bY ś (Ň hu) (Ă 2) (Ā ă) (ĭ _))))))))))
theorem Xi(T:Tx K mg a):ľ P w K mg base (ź P w) 2 a.Jt a.Ju ["_law_weights","_law_points","_law_point"] (ak ⟨K,ķ a⟩ 3 jY):=by
 refine aV (cm:=ķ a) (mb:=sS) T.Q_ h_ rfl rfl rfl fun cdv A outer s H E hr=>?_
 have hu:=hr.units
 exact(ĉ (Ţ (PW.pt (w_or (eV (aA (Ā (PE.wk (ĩ bB (by rfl) T.Œ PyProof.Rows.boot_isinstance (Ė (Ă 0) (Ė (Ā (tD (.ty "list") (bf (v:=.ty "list") rfl T.g_ PyProof.Rows.boot_list rfl))) ı))) fun _ _ _ h=>Ũ (bC T.iC T.iT T.iD T.iN) h)))) (jL (ŉ dR (bJ hu) (Ā (PE.wk (ĩ bU (by rfl) T.fO PySem.boot_len (Ė (Ă 0) ı)) fun _ _ _ h=>Ũ cA h)) (Ā (PE.wk (ĩ bU (by rfl) T.fO PySem.boot_len (Ė (Ă 1) ı)) fun _ _ _ h=>Ũ cA h)) (ĭ _)))))
  (č (ģ (Ķ gW)))
  Ĵ)
  (ĉ (Ţ (eV (aA (Ā (PE.wk (ĩ (jk rfl) (by rfl) T.qD PyProof.Rows.boot_all (Ė (Ā (ĥ (aq ["_law_weight"] [] 1 (ċ jN) rfl rfl (ao 0) (fun _ _ _ _ _=>(ē (i:=0) (show(["_law_weight"]:List Str).Nodup by decide +kernel) rfl (Or.inl rfl) (hf:=Or.inr rfl))) (fun _ _ _ _ _=>ũ) (fun _ _ _ _ _=>(ĥ (Ĕ (Zcd T) Č (hr.mono (by decide)) rfl T.vO T.ZbX.kp T.Zis cB (Ĉ 0 (hr:=Ē))))) trivial))) ı)) fun _ _ _ h=>Ũ jr h))))
  (č (ģ (Ķ gW)))
  Ĵ)
  (ĉ (ĸ (i:=3) h_.nd rfl (by first|exact Or.inl rfl|exact Or.inr rfl) (Ķ ă))
  (ĉ (bF PassesOwn.leaving rfl (ao 0) (zJ rfl (Ĥ (ē (i:=6) h_.nd rfl (Or.inl rfl)) (Ĥ (ē (i:=7) h_.nd rfl (Or.inl rfl)) Ů)))
  (č (ĸ (i:=3) h_.nd rfl (by first|exact Or.inl rfl|exact Or.inr rfl) (Ķ (Ď Ī Ę (Ă 3) (Ă 7))))))
  (ĉ (ĸ (i:=4) h_.nd rfl (by first|exact Or.inl rfl|exact Or.inr rfl) (aq ["_law_common","_law_top","_law_bottom"] [3] 2 (ċ jN) rfl rfl (ao 0) (fun _ _ _ _ _=>(zJ rfl (Ĥ (ē (i:=1) (show(["_law_common","_law_top","_law_bottom"]:List Str).Nodup by decide +kernel) rfl (Or.inl rfl) (hf:=Or.inr rfl)) (Ĥ (ē (i:=2) (show(["_law_common","_law_top","_law_bottom"]:List Str).Nodup by decide +kernel) rfl (Or.inl rfl) (hf:=Or.inr rfl)) Ů)))) (fun _ _ _ _ _=>ũ) (fun _ _ _ _ _=>(Ď Ī Ę (Ā (Ď Ś Ō (Ă 0) (Ă 2))) (Ă 1))) ⟨rfl,⟨rfl,Or.inl rfl⟩,trivial⟩))
  (ĉ (Ţ (ŉ dR (bJ hu) (Ā (PE.wk (ĩ (qX rfl) (by rfl) T.Ao PyProof.Rows.boot_sum (Ė (Ă 4) ı)) fun _ _ _ h=>Ũ qY h)) (Ă 3) (ĭ _))
  (č (ģ (Ķ gW)))
  Ĵ)
  (ĉ (bF PassesOwn.leaving rfl (aM rfl T.bT (Ą ă ğ)) (ē (i:=5) h_.nd rfl (by first|exact Or.inl rfl|exact Or.inr rfl))
  (č (Ţ (ŉ dR (bJ hu) (Ā (PE.wk (ĩ (qX rfl) (by rfl) T.Ao PyProof.Rows.boot_sum (Ė (Ā (ĥ (aq ["_law_shares","_law_axis","_law_points","_law_k"] [4,5,1] 1 (ċ jN) rfl rfl (aM rfl T.bT (Ą (PE.wk (ĩ bU (by rfl) T.fO PySem.boot_len (Ė (Ă 1) ı)) fun _ _ _ h=>Ũ cA h) ğ)) (fun _ _ _ _ _=>(ē (i:=3) (show(["_law_shares","_law_axis","_law_points","_law_k"]:List Str).Nodup by decide +kernel) rfl (Or.inl rfl) (hf:=Or.inr rfl))) (fun _ _ _ _ _=>ũ) (fun _ _ _ _ _=>(Ď Ī Ę (Ā (Ĩ Đ ď (Ă 0) (Ă 3) (fun _ _=>rfl))) (Ā (Ĩ Đ ď (Ā (Ĩ Đ ď (Ă 2) (Ă 3) (fun _ _=>rfl))) (Ă 1) (fun _ _=>rfl))))) ⟨rfl,⟨rfl,Or.inl rfl⟩,⟨rfl,⟨rfl,Or.inl rfl⟩,⟨rfl,⟨rfl,Or.inl rfl⟩,trivial⟩⟩⟩))) ı)) fun _ _ _ h=>Ũ qY h)) (Ā (Ď Ī Ę (Ă 3) (Ā (Ĩ Đ ď (Ă 2) (Ă 5) (fun _ _=>rfl))))) (ĭ _))
  (č (ģ (Ķ gW)))
  Ĵ)))
  (č (ģ (Ķ gW))))))))))
theorem Xj(T:Tx K mg a):ľ P w K mg base (ź P w) 1 a.Jv a.Jw ["_law_line","_law_points","_law_point"] (ak ⟨K,ķ a⟩ 3 nM):=by
 refine aV (cm:=ķ a) (mb:=sU) T.Rf nY rfl rfl rfl fun cdv A outer s H E hr=>?_
 have hu:=hr.units
 exact(ĉ (Ţ (PW.pt (w_or (eV (aA (Ā (PE.wk (ĩ bB (by rfl) T.Œ PyProof.Rows.boot_isinstance (Ė (Ă 0) (Ė (Ā (tD (.ty "tuple") (bf (v:=.ty "tuple") rfl T.gn PyProof.Rows.boot_tuple rfl))) ı))) fun _ _ _ h=>Ũ (bC T.iC T.iT T.iD T.iN) h)))) (jL (ŉ dR (bJ hu) (Ā (PE.wk (ĩ bU (by rfl) T.fO PySem.boot_len (Ė (Ă 0) ı)) fun _ _ _ h=>Ũ cA h)) (Ā ă) (ĭ _)))))
  (č (ģ (Ķ gW)))
  Ĵ)
  (ĉ (bF PassesOwn.leaving rfl (ao 0) (ē (i:=3) nY.nd rfl (Or.inl rfl))
  (č (Ţ (PW.pt (w_or (eV (aA (Ā (PE.wk (ĩ bB (by rfl) T.Œ PyProof.Rows.boot_isinstance (Ė (Ă 3) (Ė (Ā (tD (.ty "int") (bf (v:=.ty "int") rfl T.Kf PyProof.Rows.boot_int rfl))) ı))) fun _ _ _ h=>Ũ (bC T.iC T.iT T.iD T.iN) h)))) (jL (aA (Ā (PE.wk (ĩ bB (by rfl) T.Œ PyProof.Rows.boot_isinstance (Ė (Ă 3) (Ė (Ā (tD (.ty "bool") (bf (v:=.ty "bool") rfl T.yK PyProof.Rows.boot_bool rfl))) ı))) fun _ _ _ h=>Ũ (bC T.iC T.iT T.iD T.iN) h))))))
  (č (ģ (Ķ gW)))
  Ĵ)))
  (ĉ (cg (v_var 0) (cD rfl (Ĥ (ē (i:=4) nY.nd rfl (by first|exact Or.inl rfl|exact Or.inr rfl)) (Ĥ (ē (i:=5) nY.nd rfl (by first|exact Or.inl rfl|exact Or.inr rfl)) (Ĥ (ē (i:=6) nY.nd rfl (by first|exact Or.inl rfl|exact Or.inr rfl)) Ů)))))
  (ĉ (Ţ (ŉ iJ iz (Ā (ĥ (ł İ į (Ā (Ď Ī Ę (Ă 4) (Ā (Ĩ Đ ď (Ă 2) (Ā ă) (fun _ _=>rfl))))) (Ā (Ď Ī Ę (Ă 5) (Ā (Ĩ Đ ď (Ă 2) (Ā ă) (fun _ _=>rfl)))))))) (Ă 6) (ĭ _))
  (č (ģ (Ķ gW)))
  Ĵ)
  (č (ģ (Ķ (PE.wk (ĩ (jk rfl) (by rfl) T.qD PyProof.Rows.boot_all (Ė (Ā (ĥ (aq ["_law_n","_law_l","_law_m","_law_x","_law_y"] [6,4,5] 2 (ċ qg) rfl rfl (ao 1) (fun _ _ _ _ _=>(zJ rfl (Ĥ (ē (i:=3) (show(["_law_n","_law_l","_law_m","_law_x","_law_y"]:List Str).Nodup by decide +kernel) rfl (Or.inl rfl) (hf:=Or.inr rfl)) (Ĥ (ē (i:=4) (show(["_law_n","_law_l","_law_m","_law_x","_law_y"]:List Str).Nodup by decide +kernel) rfl (Or.inl rfl) (hf:=Or.inr rfl)) Ů)))) (fun _ _ _ _ _=>ũ) (fun _ _ _ _ _=>(bY iJ iz (Ā (ĥ (ł İ į (Ā (Ď Ī Ę (Ă 1) (Ă 3))) (Ā (Ď Ī Ę (Ă 2) (Ă 4)))))) (Ă 0) (ĭ _))) ⟨rfl,⟨rfl,Or.inl rfl⟩,⟨rfl,⟨rfl,Or.inl rfl⟩,⟨rfl,⟨rfl,Or.inl rfl⟩,trivial⟩⟩⟩))) ı)) fun _ _ _ h=>Ũ jr h))))))))
theorem Xk(T:Tx K mg a):ľ P w K mg base (ź P w) 3 a.Jx a.Jy ["_law_found","_law_points","_law_point"] (ak ⟨K,ķ a⟩ 3 jZ):=by
 refine aV (cm:=ķ a) (mb:=sV) T.Rg Ws rfl rfl rfl fun cdv A outer s H E hr=>?_
 have hu:=hr.units
 exact(ĉ (Ţ (PW.pt (w_or (eV (aA (Ā (PE.wk (ĩ bB (by rfl) T.Œ PyProof.Rows.boot_isinstance (Ė (Ă 0) (Ė (Ā (tD (.ty "tuple") (bf (v:=.ty "tuple") rfl T.gn PyProof.Rows.boot_tuple rfl))) ı))) fun _ _ _ h=>Ũ (bC T.iC T.iT T.iD T.iN) h)))) (w_or (ŉ dR (bJ hu) (Ā (PE.wk (ĩ bU (by rfl) T.fO PySem.boot_len (Ė (Ă 0) ı)) fun _ _ _ h=>Ũ cA h)) (Ā ă) (ĭ _)) (jL (eV (aA (Ā (PE.wk (ĩ bB (by rfl) T.Œ PyProof.Rows.boot_isinstance (Ė (Ā (Ĩ Đ ď (Ă 0) (Ā ă) (fun _ _=>rfl))) (Ė (Ā (tD (.ty "str") (bf (v:=.ty "str") rfl T.Zb3 PyProof.Rows.boot_str rfl))) ı))) fun _ _ _ h=>Ũ (bC T.iC T.iT T.iD T.iN) h))))))))
  (č (ģ (Ķ gW)))
  Ĵ)
  (ĉ (Ţ (ŉ ś (Ň hu) (Ā (Ĩ Đ ď (Ă 0) (Ā ă) (fun _ _=>rfl))) (Ā š) (ĭ _))
  (č (ģ (Ĕ (Xi T) Č (hr.mono (by decide)) rfl T.jY T.Q_.kp T.ZbY ī (Ĝ (Ĩ Đ ď (Ă 0) (Ā ă) (fun _ _=>rfl)) (Ĉ 1 (hr:=(Ĉ 2 (hr:=Ē))))))))
  Ĵ)
  (č (ģ (Ķ (v_and (bY ś (Ň hu) (Ā (Ĩ Đ ď (Ă 0) (Ā ă) (fun _ _=>rfl))) (Ā š) (ĭ _)) (jM (ĥ (Ĕ (Xj T) Č (hr.mono (by decide)) rfl T.nM T.Rf.kp T.ZbZ ī (Ĝ (Ĩ Đ ď (Ă 0) (Ā ă) (fun _ _=>rfl)) (Ĉ 1 (hr:=(Ĉ 2 (hr:=Ē))))))))))))))
theorem jE(T:Tx K mg a):ľ P w K mg base (ź P w) 1 a.Jz a.JB ["_law_x","_law_y","_law_u","_law_v","_law_z"] (ak ⟨K,ķ a⟩ 5 bN):=by
 refine aV (cm:=ķ a) (mb:=yx) T.nR Wt rfl rfl rfl fun cdv A outer s H E hr=>?_
 have hu:=hr.units
 exact(č (ģ (ť (Ą (Ŀ (Ą (v_var 0) (Ą (v_var 1) (Ą (v_var 4) ğ)))) (Ą (Ŀ (Ą (v_var 2) (Ą (v_var 1) (Ą (v_var 4) ğ)))) (Ą (Ŀ (Ą (v_var 2) (Ą (v_var 3) (Ą (v_var 4) ğ)))) (Ą (Ŀ (Ą (v_var 0) (Ą (v_var 3) (Ą (v_var 4) ğ)))) ğ)))))))
theorem La(T:Tx K mg a):ľ P w K mg base (ź P w) 2 a.Ag a.Ah ["_law_word","_law_numbers"] (ak ⟨K,ķ a⟩ 2 lF):=by
 refine aV (cm:=ķ a) (mb:=nO) T.Am Ÿ rfl rfl rfl fun cdv A outer s H E hr=>?_
 have hu:=hr.units
 exact(@ĉ _ _ _ _ _ _ _ (@Ţ _ _ _ _ _ _ _ _ _ _ (@ŉ _ _ _ _ _ _ _ _ _ _ _ (@ś _) (@Ň _ hu) (@Ă _ _ _ 0 _ _ (by rfl) (by first|exact Or.inl rfl|exact Or.inr (Or.inl rfl)|exact Or.inr (Or.inr rfl)) (by decide) (by decide)) (@Ā _ _ _ _ _ (@š _ _ _ _ _ _)) (ĭ _)) (@č _ _ _ _ _ (@ģ _ _ _ _ _ _ (aq ["_law_numbers","_law_k"] [1] 1 (ċ mX) rfl rfl (@cW _ _ _ _ _ _ (@ĥ _ _ _ _ _ (@ť _ _ _ _ _ _ (@Ą _ _ _ _ _ _ _ (@ă _ _ _ _ _ _) (@Ą _ _ _ _ _ _ _ (@ă _ _ _ _ _ _) (@Ą _ _ _ _ _ _ _ (@ă _ _ _ _ _ _) (@ğ _ _ _) (by exact ć rfl)) (by exact ć rfl)) (by exact ć rfl))))) (fun _ _ _ _ _=>(@ē _ _ _ 1 _ (show(["_law_numbers","_law_k"]:List Str).Nodup by decide +kernel) rfl (Or.inl rfl) (Or.inr rfl))) (fun _ _ _ _ _=>(@ũ _ _ _)) (fun _ _ _ _ _=>(@PE.wk _ _ _ _ (ų lX (by rfl) T.gn PyProof.Rows.boot_tuple (@Ė _ _ _ _ _ _ _ (@Ā _ _ _ _ _ (@ĥ _ _ _ _ _ (@dN _ _ _ _ _ _ _ _ _ _ _ (@Ă _ _ _ 0 _ _ (by rfl) (by first|exact Or.inl rfl|exact Or.inr (Or.inl rfl)|exact Or.inr (Or.inr rfl)) (by decide) (by decide)) (@bK _ _ _ _ _ (@v_var _ _ _ 1 _ _ (by rfl) (by first|exact Or.inl rfl|exact Or.inr (Or.inl rfl)|exact Or.inr (Or.inr rfl)) (by decide) (by decide))) (@bK _ _ _ _ _ (@ĥ _ _ _ _ _ (@ł _ _ _ _ _ _ _ _ _ _ _ (@İ _) (@į _) (@Ă _ _ _ 1 _ _ (by rfl) (by first|exact Or.inl rfl|exact Or.inr (Or.inl rfl)|exact Or.inr (Or.inr rfl)) (by decide) (by decide)) (@Ā _ _ _ _ _ (@ă _ _ _ _ _ _)))))))) (@ı _ _ _) (by exact ć rfl))) (fun _ _ _ h=> @Ũ _ _ _ _ _ _ (@lY _) _ _ _ h))) ⟨rfl,⟨rfl,Or.inl rfl⟩,trivial⟩))) (@Ĵ _ _ _)) (@ĉ _ _ _ _ _ _ _ (@Ţ _ _ _ _ _ _ _ _ _ _ (@ŉ _ _ _ _ _ _ _ _ _ _ _ (@ś _) (@Ň _ hu) (@Ă _ _ _ 0 _ _ (by rfl) (by first|exact Or.inl rfl|exact Or.inr (Or.inl rfl)|exact Or.inr (Or.inr rfl)) (by decide) (by decide)) (@Ā _ _ _ _ _ (@š _ _ _ _ _ _)) (ĭ _)) (@ĉ _ _ _ _ _ _ _ (@cg _ _ _ _ _ _ _ _ (@v_var _ _ _ 1 _ _ (by rfl) (by first|exact Or.inl rfl|exact Or.inr (Or.inl rfl)|exact Or.inr (Or.inr rfl)) (by decide) (by decide)) (@cD _ _ _ _ _ _ _ rfl (@Ĥ _ _ _ _ _ _ (@ē _ _ _ 7 _ Ÿ.nd rfl (Or.inl rfl) (by first|exact .inl rfl|exact .inr rfl|assumption)) (@Ĥ _ _ _ _ _ _ (@ē _ _ _ 8 _ Ÿ.nd rfl (Or.inl rfl) (by first|exact .inl rfl|exact .inr rfl|assumption)) (@Ĥ _ _ _ _ _ _ (@ē _ _ _ 6 _ Ÿ.nd rfl (Or.inl rfl) (by first|exact .inl rfl|exact .inr rfl|assumption)) (@Ů _ _) (by rfl)) (by rfl)) (by rfl)) (by rfl) (by rfl)) (by rfl) (by rfl) (by rfl)) (@č _ _ _ _ _ (@MK _ _ _ _))) (@Ĵ _ _ _)) (@ĉ _ _ _ _ _ _ _ (@cg _ _ _ _ _ _ _ _ (@v_var _ _ _ 1 _ _ (by rfl) (by first|exact Or.inl rfl|exact Or.inr (Or.inl rfl)|exact Or.inr (Or.inr rfl)) (by decide) (by decide)) (@cD _ _ _ _ _ _ _ rfl (@Ĥ _ _ _ _ _ _ (@ē _ _ _ 2 _ Ÿ.nd rfl (Or.inl rfl) (by first|exact .inl rfl|exact .inr rfl|assumption)) (@Ĥ _ _ _ _ _ _ (@ē _ _ _ 3 _ Ÿ.nd rfl (Or.inl rfl) (by first|exact .inl rfl|exact .inr rfl|assumption)) (@Ĥ _ _ _ _ _ _ (@ē _ _ _ 4 _ Ÿ.nd rfl (Or.inl rfl) (by first|exact .inl rfl|exact .inr rfl|assumption)) (@Ĥ _ _ _ _ _ _ (@ē _ _ _ 5 _ Ÿ.nd rfl (Or.inl rfl) (by first|exact .inl rfl|exact .inr rfl|assumption)) (@Ĥ _ _ _ _ _ _ (@ē _ _ _ 6 _ Ÿ.nd rfl (Or.inl rfl) (by first|exact .inl rfl|exact .inr rfl|assumption)) (@Ů _ _) (by rfl)) (by rfl)) (by rfl)) (by rfl)) (by rfl)) (by rfl) (by rfl)) (by rfl) (by rfl) (by rfl)) (@ĉ _ _ _ _ _ _ _ (@Ţ _ _ _ _ _ _ _ _ _ _ (@ŉ _ _ _ _ _ _ _ _ _ _ _ (@ś _) (@Ň _ hu) (@Ă _ _ _ 0 _ _ (by rfl) (by first|exact Or.inl rfl|exact Or.inr (Or.inl rfl)|exact Or.inr (Or.inr rfl)) (by decide) (by decide)) (@Ā _ _ _ _ _ (@š _ _ _ _ _ _)) (ĭ _)) (@č _ _ _ _ _ (@ģ _ _ _ _ _ _ (@ť _ _ _ _ _ _ (@Ą _ _ _ _ _ _ _ (@Ŀ _ _ _ _ _ _ _ (@Ą _ _ _ _ _ _ _ (@v_var _ _ _ 2 _ _ (by rfl) (by first|exact Or.inl rfl|exact Or.inr (Or.inl rfl)|exact Or.inr (Or.inr rfl)) (by decide) (by decide)) (@Ą _ _ _ _ _ _ _ (@v_var _ _ _ 3 _ _ (by rfl) (by first|exact Or.inl rfl|exact Or.inr (Or.inl rfl)|exact Or.inr (Or.inr rfl)) (by decide) (by decide)) (@Ą _ _ _ _ _ _ _ (@ă _ _ _ _ _ _) (@ğ _ _ _) (by exact ć rfl)) (by exact ć rfl)) (by exact ć rfl))) (@Ą _ _ _ _ _ _ _ (@Ŀ _ _ _ _ _ _ _ (@Ą _ _ _ _ _ _ _ (@v_var _ _ _ 4 _ _ (by rfl) (by first|exact Or.inl rfl|exact Or.inr (Or.inl rfl)|exact Or.inr (Or.inr rfl)) (by decide) (by decide)) (@Ą _ _ _ _ _ _ _ (@v_var _ _ _ 5 _ _ (by rfl) (by first|exact Or.inl rfl|exact Or.inr (Or.inl rfl)|exact Or.inr (Or.inr rfl)) (by decide) (by decide)) (@Ą _ _ _ _ _ _ _ (@ă _ _ _ _ _ _) (@ğ _ _ _) (by exact ć rfl)) (by exact ć rfl)) (by exact ć rfl))) (@Ą _ _ _ _ _ _ _ (@Ŀ _ _ _ _ _ _ _ (@Ą _ _ _ _ _ _ _ (@v_var _ _ _ 4 _ _ (by rfl) (by first|exact Or.inl rfl|exact Or.inr (Or.inl rfl)|exact Or.inr (Or.inr rfl)) (by decide) (by decide)) (@Ą _ _ _ _ _ _ _ (@v_var _ _ _ 5 _ _ (by rfl) (by first|exact Or.inl rfl|exact Or.inr (Or.inl rfl)|exact Or.inr (Or.inr rfl)) (by decide) (by decide)) (@Ą _ _ _ _ _ _ _ (@v_var _ _ _ 6 _ _ (by rfl) (by first|exact Or.inl rfl|exact Or.inr (Or.inl rfl)|exact Or.inr (Or.inr rfl)) (by decide) (by decide)) (@ğ _ _ _) (by exact ć rfl)) (by exact ć rfl)) (by exact ć rfl))) (@Ą _ _ _ _ _ _ _ (@Ŀ _ _ _ _ _ _ _ (@Ą _ _ _ _ _ _ _ (@v_var _ _ _ 2 _ _ (by rfl) (by first|exact Or.inl rfl|exact Or.inr (Or.inl rfl)|exact Or.inr (Or.inr rfl)) (by decide) (by decide)) (@Ą _ _ _ _ _ _ _ (@v_var _ _ _ 3 _ _ (by rfl) (by first|exact Or.inl rfl|exact Or.inr (Or.inl rfl)|exact Or.inr (Or.inr rfl)) (by decide) (by decide)) (@Ą _ _ _ _ _ _ _ (@v_var _ _ _ 6 _ _ (by rfl) (by first|exact Or.inl rfl|exact Or.inr (Or.inl rfl)|exact Or.inr (Or.inr rfl)) (by decide) (by decide)) (@ğ _ _ _) (by exact ć rfl)) (by exact ć rfl)) (by exact ć rfl))) (@ğ _ _ _) (by exact ć rfl)) (by exact ć rfl)) (by exact ć rfl)) (by exact ć rfl))))) (@Ĵ _ _ _)) (@ĉ _ _ _ _ _ _ _ (@Ţ _ _ _ _ _ _ _ _ _ _ (@ŉ _ _ _ _ _ _ _ _ _ _ _ (@ś _) (@Ň _ hu) (@Ă _ _ _ 0 _ _ (by rfl) (by first|exact Or.inl rfl|exact Or.inr (Or.inl rfl)|exact Or.inr (Or.inr rfl)) (by decide) (by decide)) (@Ā _ _ _ _ _ (@š _ _ _ _ _ _)) (ĭ _)) (@č _ _ _ _ _ (@ģ _ _ _ _ _ _ (@Ĕ _ _ _ _ _ _ _ _ _ _ _ _ _ _ _ _ (jE T) Č (hr.mono (by decide)) rfl T.bN T.nR.kp T.qC (@ī _ _ _ _ _ _ _ _ _ _ _ _ _ _ _) (@Ĉ _ _ _ _ _ 2 _ _ (by rfl) (by first|exact Or.inl rfl|exact Or.inr (Or.inl rfl)|exact Or.inr (Or.inr rfl)) (by decide) (by decide) (@Ĉ _ _ _ _ _ 3 _ _ (by rfl) (by first|exact Or.inl rfl|exact Or.inr (Or.inl rfl)|exact Or.inr (Or.inr rfl)) (by decide) (by decide) (@Ĉ _ _ _ _ _ 4 _ _ (by rfl) (by first|exact Or.inl rfl|exact Or.inr (Or.inl rfl)|exact Or.inr (Or.inr rfl)) (by decide) (by decide) (@Ĉ _ _ _ _ _ 5 _ _ (by rfl) (by first|exact Or.inl rfl|exact Or.inr (Or.inl rfl)|exact Or.inr (Or.inr rfl)) (by decide) (by decide) (@Ĉ _ _ _ _ _ 6 _ _ (by rfl) (by first|exact Or.inl rfl|exact Or.inr (Or.inl rfl)|exact Or.inr (Or.inr rfl)) (by decide) (by decide) (@Ē _ _ _) (by exact ć rfl)) (by exact ć rfl)) (by exact ć rfl)) (by exact ć rfl)) (by exact ć rfl)) (by decide) (by exact ć rfl) (by rfl)))) (@Ĵ _ _ _)) (@č _ _ _ _ _ (@ģ _ _ _ _ _ _ (@ł _ _ _ _ _ _ _ _ _ _ _ (@İ _) (@į _) (@Ā _ _ _ _ _ (@ĥ _ _ _ _ _ (@Ĕ _ _ _ _ _ _ _ _ _ _ _ _ _ _ _ _ (jE T) Č (hr.mono (by decide)) rfl T.bN T.nR.kp T.qC (@ī _ _ _ _ _ _ _ _ _ _ _ _ _ _ _) (@Ĉ _ _ _ _ _ 2 _ _ (by rfl) (by first|exact Or.inl rfl|exact Or.inr (Or.inl rfl)|exact Or.inr (Or.inr rfl)) (by decide) (by decide) (@Ĉ _ _ _ _ _ 3 _ _ (by rfl) (by first|exact Or.inl rfl|exact Or.inr (Or.inl rfl)|exact Or.inr (Or.inr rfl)) (by decide) (by decide) (@Ĉ _ _ _ _ _ 4 _ _ (by rfl) (by first|exact Or.inl rfl|exact Or.inr (Or.inl rfl)|exact Or.inr (Or.inr rfl)) (by decide) (by decide) (@Ĉ _ _ _ _ _ 5 _ _ (by rfl) (by first|exact Or.inl rfl|exact Or.inr (Or.inl rfl)|exact Or.inr (Or.inr rfl)) (by decide) (by decide) (@Ĝ _ _ _ _ _ _ _ (@ă _ _ _ _ _ _) (@Ē _ _ _) (by exact ć rfl)) (by exact ć rfl)) (by exact ć rfl)) (by exact ć rfl)) (by exact ć rfl)) (by decide) (by exact ć rfl) (by rfl)))) (@Ā _ _ _ _ _ (@ĥ _ _ _ _ _ (@Ĕ _ _ _ _ _ _ _ _ _ _ _ _ _ _ _ _ (jE T) Č (hr.mono (by decide)) rfl T.bN T.nR.kp T.qC (@ī _ _ _ _ _ _ _ _ _ _ _ _ _ _ _) (@Ĉ _ _ _ _ _ 2 _ _ (by rfl) (by first|exact Or.inl rfl|exact Or.inr (Or.inl rfl)|exact Or.inr (Or.inr rfl)) (by decide) (by decide) (@Ĉ _ _ _ _ _ 3 _ _ (by rfl) (by first|exact Or.inl rfl|exact Or.inr (Or.inl rfl)|exact Or.inr (Or.inr rfl)) (by decide) (by decide) (@Ĉ _ _ _ _ _ 4 _ _ (by rfl) (by first|exact Or.inl rfl|exact Or.inr (Or.inl rfl)|exact Or.inr (Or.inr rfl)) (by decide) (by decide) (@Ĉ _ _ _ _ _ 5 _ _ (by rfl) (by first|exact Or.inl rfl|exact Or.inr (Or.inl rfl)|exact Or.inr (Or.inr rfl)) (by decide) (by decide) (@Ĉ _ _ _ _ _ 6 _ _ (by rfl) (by first|exact Or.inl rfl|exact Or.inr (Or.inl rfl)|exact Or.inr (Or.inr rfl)) (by decide) (by decide) (@Ē _ _ _) (by exact ć rfl)) (by exact ć rfl)) (by exact ć rfl)) (by exact ć rfl)) (by exact ć rfl)) (by decide) (by exact ć rfl) (by rfl))))))))))))
theorem Xl(T:Tx K mg a):ľ P w K mg base (ź P w) 3 a.Ag a.Ah ["_law_word","_law_numbers"] (ak ⟨K,ķ a⟩ 2 fL):=by
 refine aV (cm:=ķ a) (mb:=gZ) T.Am Ÿ rfl rfl rfl fun cdv A outer s H E hr=>?_
 have hu:=hr.units
 exact(@ĉ _ _ _ _ _ _ _ (@Ţ _ _ _ _ _ _ _ _ _ _ (@ŉ _ _ _ _ _ _ _ _ _ _ _ (@ś _) (@Ň _ hu) (@Ă _ _ _ 0 _ _ (by rfl) (by first|exact Or.inl rfl|exact Or.inr (Or.inl rfl)|exact Or.inr (Or.inr rfl)) (by decide) (by decide)) (@Ā _ _ _ _ _ (@š _ _ _ _ _ _)) (ĭ _)) (@č _ _ _ _ _ (@ģ _ _ _ _ _ _ (aq ["_law_numbers","_law_k"] [1] 1 (ċ mX) rfl rfl (@cW _ _ _ _ _ _ (@ĥ _ _ _ _ _ (@ť _ _ _ _ _ _ (@Ą _ _ _ _ _ _ _ (@ă _ _ _ _ _ _) (@Ą _ _ _ _ _ _ _ (@ă _ _ _ _ _ _) (@Ą _ _ _ _ _ _ _ (@ă _ _ _ _ _ _) (@ğ _ _ _) (by exact ć rfl)) (by exact ć rfl)) (by exact ć rfl))))) (fun _ _ _ _ _=>(@ē _ _ _ 1 _ (show(["_law_numbers","_law_k"]:List Str).Nodup by decide +kernel) rfl (Or.inl rfl) (Or.inr rfl))) (fun _ _ _ _ _=>(@ũ _ _ _)) (fun _ _ _ _ _=>(@PE.wk _ _ _ _ (ų lX (by rfl) T.gn PyProof.Rows.boot_tuple (@Ė _ _ _ _ _ _ _ (@Ā _ _ _ _ _ (@ĥ _ _ _ _ _ (@dN _ _ _ _ _ _ _ _ _ _ _ (@Ă _ _ _ 0 _ _ (by rfl) (by first|exact Or.inl rfl|exact Or.inr (Or.inl rfl)|exact Or.inr (Or.inr rfl)) (by decide) (by decide)) (@bK _ _ _ _ _ (@v_var _ _ _ 1 _ _ (by rfl) (by first|exact Or.inl rfl|exact Or.inr (Or.inl rfl)|exact Or.inr (Or.inr rfl)) (by decide) (by decide))) (@bK _ _ _ _ _ (@ĥ _ _ _ _ _ (@ł _ _ _ _ _ _ _ _ _ _ _ (@İ _) (@į _) (@Ă _ _ _ 1 _ _ (by rfl) (by first|exact Or.inl rfl|exact Or.inr (Or.inl rfl)|exact Or.inr (Or.inr rfl)) (by decide) (by decide)) (@Ā _ _ _ _ _ (@ă _ _ _ _ _ _)))))))) (@ı _ _ _) (by exact ć rfl))) (fun _ _ _ h=> @Ũ _ _ _ _ _ _ (@lY _) _ _ _ h))) ⟨rfl,⟨rfl,Or.inl rfl⟩,trivial⟩))) (@Ĵ _ _ _)) (@ĉ _ _ _ _ _ _ _ (@Ţ _ _ _ _ _ _ _ _ _ _ (@ŉ _ _ _ _ _ _ _ _ _ _ _ (@ś _) (@Ň _ hu) (@Ă _ _ _ 0 _ _ (by rfl) (by first|exact Or.inl rfl|exact Or.inr (Or.inl rfl)|exact Or.inr (Or.inr rfl)) (by decide) (by decide)) (@Ā _ _ _ _ _ (@š _ _ _ _ _ _)) (ĭ _)) (@ĉ _ _ _ _ _ _ _ (@cg _ _ _ _ _ _ _ _ (@v_var _ _ _ 1 _ _ (by rfl) (by first|exact Or.inl rfl|exact Or.inr (Or.inl rfl)|exact Or.inr (Or.inr rfl)) (by decide) (by decide)) (@cD _ _ _ _ _ _ _ rfl (@Ĥ _ _ _ _ _ _ (@ē _ _ _ 7 _ Ÿ.nd rfl (Or.inl rfl) (by first|exact .inl rfl|exact .inr rfl|assumption)) (@Ĥ _ _ _ _ _ _ (@ē _ _ _ 8 _ Ÿ.nd rfl (Or.inl rfl) (by first|exact .inl rfl|exact .inr rfl|assumption)) (@Ĥ _ _ _ _ _ _ (@ē _ _ _ 6 _ Ÿ.nd rfl (Or.inl rfl) (by first|exact .inl rfl|exact .inr rfl|assumption)) (@Ů _ _) (by rfl)) (by rfl)) (by rfl)) (by rfl) (by rfl)) (by rfl) (by rfl) (by rfl)) (@č _ _ _ _ _ (@ģ _ _ _ _ _ _ (@Ĕ _ _ _ _ _ _ _ _ _ _ _ _ _ _ _ _ (La T) Č (hr.mono (by decide)) rfl T.fL T.Am.kp T.Rh (@ī _ _ _ _ _ _ _ _ _ _ _ _ _ _ _) (@Ĝ _ _ _ _ _ _ _ (@š _ _ _ _ _ _) (@Ĝ _ _ _ _ _ _ _ (@ĥ _ _ _ _ _ (@ť _ _ _ _ _ _ (@Ą _ _ _ _ _ _ _ (@Ď _ _ _ _ _ _ _ _ _ _ _ (@Ŕ _) (@œ _) (@Ā _ _ _ _ _ (@Ď _ _ _ _ _ _ _ _ _ _ _ (@Ī _) (@Ę _) (@Ā _ _ _ _ _ (@ă _ _ _ _ _ _)) (@Ă _ _ _ 7 _ _ (by rfl) (by first|exact Or.inl rfl|exact Or.inr (Or.inl rfl)|exact Or.inr (Or.inr rfl)) (by decide) (by decide)))) (@Ā _ _ _ _ _ (@ă _ _ _ _ _ _))) (@Ą _ _ _ _ _ _ _ (@Ď _ _ _ _ _ _ _ _ _ _ _ (@Ŕ _) (@œ _) (@Ā _ _ _ _ _ (@Ď _ _ _ _ _ _ _ _ _ _ _ (@Ī _) (@Ę _) (@Ā _ _ _ _ _ (@ă _ _ _ _ _ _)) (@Ă _ _ _ 8 _ _ (by rfl) (by first|exact Or.inl rfl|exact Or.inr (Or.inl rfl)|exact Or.inr (Or.inr rfl)) (by decide) (by decide)))) (@Ā _ _ _ _ _ (@ă _ _ _ _ _ _))) (@Ą _ _ _ _ _ _ _ (@ĥ _ _ _ _ _ (@ł _ _ _ _ _ _ _ _ _ _ _ (@İ _) (@į _) (@Ā _ _ _ _ _ (@Ď _ _ _ _ _ _ _ _ _ _ _ (@Ī _) (@Ę _) (@Ā _ _ _ _ _ (@ă _ _ _ _ _ _)) (@Ă _ _ _ 7 _ _ (by rfl) (by first|exact Or.inl rfl|exact Or.inr (Or.inl rfl)|exact Or.inr (Or.inr rfl)) (by decide) (by decide)))) (@Ā _ _ _ _ _ (@ă _ _ _ _ _ _)))) (@Ą _ _ _ _ _ _ _ (@ĥ _ _ _ _ _ (@ł _ _ _ _ _ _ _ _ _ _ _ (@İ _) (@į _) (@Ā _ _ _ _ _ (@Ď _ _ _ _ _ _ _ _ _ _ _ (@Ī _) (@Ę _) (@Ā _ _ _ _ _ (@ă _ _ _ _ _ _)) (@Ă _ _ _ 8 _ _ (by rfl) (by first|exact Or.inl rfl|exact Or.inr (Or.inl rfl)|exact Or.inr (Or.inr rfl)) (by decide) (by decide)))) (@Ā _ _ _ _ _ (@ă _ _ _ _ _ _)))) (@Ą _ _ _ _ _ _ _ (@v_var _ _ _ 6 _ _ (by rfl) (by first|exact Or.inl rfl|exact Or.inr (Or.inl rfl)|exact Or.inr (Or.inr rfl)) (by decide) (by decide)) (@ğ _ _ _) (by exact ć rfl)) (by exact ć rfl)) (by exact ć rfl)) (by exact ć rfl)) (by exact ć rfl)))) (@Ē _ _ _) (by exact ć rfl)) (by exact ć rfl)) (by decide) (by exact ć rfl) (by rfl))))) (@Ĵ _ _ _)) (@ĉ _ _ _ _ _ _ _ (@cg _ _ _ _ _ _ _ _ (@v_var _ _ _ 1 _ _ (by rfl) (by first|exact Or.inl rfl|exact Or.inr (Or.inl rfl)|exact Or.inr (Or.inr rfl)) (by decide) (by decide)) (@cD _ _ _ _ _ _ _ rfl (@Ĥ _ _ _ _ _ _ (@ē _ _ _ 2 _ Ÿ.nd rfl (Or.inl rfl) (by first|exact .inl rfl|exact .inr rfl|assumption)) (@Ĥ _ _ _ _ _ _ (@ē _ _ _ 3 _ Ÿ.nd rfl (Or.inl rfl) (by first|exact .inl rfl|exact .inr rfl|assumption)) (@Ĥ _ _ _ _ _ _ (@ē _ _ _ 4 _ Ÿ.nd rfl (Or.inl rfl) (by first|exact .inl rfl|exact .inr rfl|assumption)) (@Ĥ _ _ _ _ _ _ (@ē _ _ _ 5 _ Ÿ.nd rfl (Or.inl rfl) (by first|exact .inl rfl|exact .inr rfl|assumption)) (@Ĥ _ _ _ _ _ _ (@ē _ _ _ 6 _ Ÿ.nd rfl (Or.inl rfl) (by first|exact .inl rfl|exact .inr rfl|assumption)) (@Ů _ _) (by rfl)) (by rfl)) (by rfl)) (by rfl)) (by rfl)) (by rfl) (by rfl)) (by rfl) (by rfl) (by rfl)) (@ĉ _ _ _ _ _ _ _ (@Ţ _ _ _ _ _ _ _ _ _ _ (@ŉ _ _ _ _ _ _ _ _ _ _ _ (@ś _) (@Ň _ hu) (@Ă _ _ _ 0 _ _ (by rfl) (by first|exact Or.inl rfl|exact Or.inr (Or.inl rfl)|exact Or.inr (Or.inr rfl)) (by decide) (by decide)) (@Ā _ _ _ _ _ (@š _ _ _ _ _ _)) (ĭ _)) (@č _ _ _ _ _ (@ģ _ _ _ _ _ _ (@ť _ _ _ _ _ _ (@Ą _ _ _ _ _ _ _ (@Ŀ _ _ _ _ _ _ _ (@Ą _ _ _ _ _ _ _ (@v_var _ _ _ 2 _ _ (by rfl) (by first|exact Or.inl rfl|exact Or.inr (Or.inl rfl)|exact Or.inr (Or.inr rfl)) (by decide) (by decide)) (@Ą _ _ _ _ _ _ _ (@v_var _ _ _ 3 _ _ (by rfl) (by first|exact Or.inl rfl|exact Or.inr (Or.inl rfl)|exact Or.inr (Or.inr rfl)) (by decide) (by decide)) (@Ą _ _ _ _ _ _ _ (@ă _ _ _ _ _ _) (@ğ _ _ _) (by exact ć rfl)) (by exact ć rfl)) (by exact ć rfl))) (@Ą _ _ _ _ _ _ _ (@Ŀ _ _ _ _ _ _ _ (@Ą _ _ _ _ _ _ _ (@v_var _ _ _ 4 _ _ (by rfl) (by first|exact Or.inl rfl|exact Or.inr (Or.inl rfl)|exact Or.inr (Or.inr rfl)) (by decide) (by decide)) (@Ą _ _ _ _ _ _ _ (@v_var _ _ _ 5 _ _ (by rfl) (by first|exact Or.inl rfl|exact Or.inr (Or.inl rfl)|exact Or.inr (Or.inr rfl)) (by decide) (by decide)) (@Ą _ _ _ _ _ _ _ (@ă _ _ _ _ _ _) (@ğ _ _ _) (by exact ć rfl)) (by exact ć rfl)) (by exact ć rfl))) (@Ą _ _ _ _ _ _ _ (@Ŀ _ _ _ _ _ _ _ (@Ą _ _ _ _ _ _ _ (@v_var _ _ _ 4 _ _ (by rfl) (by first|exact Or.inl rfl|exact Or.inr (Or.inl rfl)|exact Or.inr (Or.inr rfl)) (by decide) (by decide)) (@Ą _ _ _ _ _ _ _ (@v_var _ _ _ 5 _ _ (by rfl) (by first|exact Or.inl rfl|exact Or.inr (Or.inl rfl)|exact Or.inr (Or.inr rfl)) (by decide) (by decide)) (@Ą _ _ _ _ _ _ _ (@v_var _ _ _ 6 _ _ (by rfl) (by first|exact Or.inl rfl|exact Or.inr (Or.inl rfl)|exact Or.inr (Or.inr rfl)) (by decide) (by decide)) (@ğ _ _ _) (by exact ć rfl)) (by exact ć rfl)) (by exact ć rfl))) (@Ą _ _ _ _ _ _ _ (@Ŀ _ _ _ _ _ _ _ (@Ą _ _ _ _ _ _ _ (@v_var _ _ _ 2 _ _ (by rfl) (by first|exact Or.inl rfl|exact Or.inr (Or.inl rfl)|exact Or.inr (Or.inr rfl)) (by decide) (by decide)) (@Ą _ _ _ _ _ _ _ (@v_var _ _ _ 3 _ _ (by rfl) (by first|exact Or.inl rfl|exact Or.inr (Or.inl rfl)|exact Or.inr (Or.inr rfl)) (by decide) (by decide)) (@Ą _ _ _ _ _ _ _ (@v_var _ _ _ 6 _ _ (by rfl) (by first|exact Or.inl rfl|exact Or.inr (Or.inl rfl)|exact Or.inr (Or.inr rfl)) (by decide) (by decide)) (@ğ _ _ _) (by exact ć rfl)) (by exact ć rfl)) (by exact ć rfl))) (@ğ _ _ _) (by exact ć rfl)) (by exact ć rfl)) (by exact ć rfl)) (by exact ć rfl))))) (@Ĵ _ _ _)) (@ĉ _ _ _ _ _ _ _ (@Ţ _ _ _ _ _ _ _ _ _ _ (@ŉ _ _ _ _ _ _ _ _ _ _ _ (@ś _) (@Ň _ hu) (@Ă _ _ _ 0 _ _ (by rfl) (by first|exact Or.inl rfl|exact Or.inr (Or.inl rfl)|exact Or.inr (Or.inr rfl)) (by decide) (by decide)) (@Ā _ _ _ _ _ (@š _ _ _ _ _ _)) (ĭ _)) (@č _ _ _ _ _ (@ģ _ _ _ _ _ _ (@Ĕ _ _ _ _ _ _ _ _ _ _ _ _ _ _ _ _ (jE T) Č (hr.mono (by decide)) rfl T.bN T.nR.kp T.qC (@ī _ _ _ _ _ _ _ _ _ _ _ _ _ _ _) (@Ĉ _ _ _ _ _ 2 _ _ (by rfl) (by first|exact Or.inl rfl|exact Or.inr (Or.inl rfl)|exact Or.inr (Or.inr rfl)) (by decide) (by decide) (@Ĉ _ _ _ _ _ 3 _ _ (by rfl) (by first|exact Or.inl rfl|exact Or.inr (Or.inl rfl)|exact Or.inr (Or.inr rfl)) (by decide) (by decide) (@Ĉ _ _ _ _ _ 4 _ _ (by rfl) (by first|exact Or.inl rfl|exact Or.inr (Or.inl rfl)|exact Or.inr (Or.inr rfl)) (by decide) (by decide) (@Ĉ _ _ _ _ _ 5 _ _ (by rfl) (by first|exact Or.inl rfl|exact Or.inr (Or.inl rfl)|exact Or.inr (Or.inr rfl)) (by decide) (by decide) (@Ĉ _ _ _ _ _ 6 _ _ (by rfl) (by first|exact Or.inl rfl|exact Or.inr (Or.inl rfl)|exact Or.inr (Or.inr rfl)) (by decide) (by decide) (@Ē _ _ _) (by exact ć rfl)) (by exact ć rfl)) (by exact ć rfl)) (by exact ć rfl)) (by exact ć rfl)) (by decide) (by exact ć rfl) (by rfl)))) (@Ĵ _ _ _)) (@č _ _ _ _ _ (@ģ _ _ _ _ _ _ (@ł _ _ _ _ _ _ _ _ _ _ _ (@İ _) (@į _) (@Ā _ _ _ _ _ (@ĥ _ _ _ _ _ (@Ĕ _ _ _ _ _ _ _ _ _ _ _ _ _ _ _ _ (jE T) Č (hr.mono (by decide)) rfl T.bN T.nR.kp T.qC (@ī _ _ _ _ _ _ _ _ _ _ _ _ _ _ _) (@Ĉ _ _ _ _ _ 2 _ _ (by rfl) (by first|exact Or.inl rfl|exact Or.inr (Or.inl rfl)|exact Or.inr (Or.inr rfl)) (by decide) (by decide) (@Ĉ _ _ _ _ _ 3 _ _ (by rfl) (by first|exact Or.inl rfl|exact Or.inr (Or.inl rfl)|exact Or.inr (Or.inr rfl)) (by decide) (by decide) (@Ĉ _ _ _ _ _ 4 _ _ (by rfl) (by first|exact Or.inl rfl|exact Or.inr (Or.inl rfl)|exact Or.inr (Or.inr rfl)) (by decide) (by decide) (@Ĉ _ _ _ _ _ 5 _ _ (by rfl) (by first|exact Or.inl rfl|exact Or.inr (Or.inl rfl)|exact Or.inr (Or.inr rfl)) (by decide) (by decide) (@Ĝ _ _ _ _ _ _ _ (@ă _ _ _ _ _ _) (@Ē _ _ _) (by exact ć rfl)) (by exact ć rfl)) (by exact ć rfl)) (by exact ć rfl)) (by exact ć rfl)) (by decide) (by exact ć rfl) (by rfl)))) (@Ā _ _ _ _ _ (@ĥ _ _ _ _ _ (@Ĕ _ _ _ _ _ _ _ _ _ _ _ _ _ _ _ _ (jE T) Č (hr.mono (by decide)) rfl T.bN T.nR.kp T.qC (@ī _ _ _ _ _ _ _ _ _ _ _ _ _ _ _) (@Ĉ _ _ _ _ _ 2 _ _ (by rfl) (by first|exact Or.inl rfl|exact Or.inr (Or.inl rfl)|exact Or.inr (Or.inr rfl)) (by decide) (by decide) (@Ĉ _ _ _ _ _ 3 _ _ (by rfl) (by first|exact Or.inl rfl|exact Or.inr (Or.inl rfl)|exact Or.inr (Or.inr rfl)) (by decide) (by decide) (@Ĉ _ _ _ _ _ 4 _ _ (by rfl) (by first|exact Or.inl rfl|exact Or.inr (Or.inl rfl)|exact Or.inr (Or.inr rfl)) (by decide) (by decide) (@Ĉ _ _ _ _ _ 5 _ _ (by rfl) (by first|exact Or.inl rfl|exact Or.inr (Or.inl rfl)|exact Or.inr (Or.inr rfl)) (by decide) (by decide) (@Ĉ _ _ _ _ _ 6 _ _ (by rfl) (by first|exact Or.inl rfl|exact Or.inr (Or.inl rfl)|exact Or.inr (Or.inr rfl)) (by decide) (by decide) (@Ē _ _ _) (by exact ć rfl)) (by exact ć rfl)) (by exact ć rfl)) (by exact ć rfl)) (by exact ć rfl)) (by decide) (by exact ć rfl) (by rfl))))))))))))
theorem Xm(T:Tx K mg a):ľ P w K mg base (ź P w) 8 a.JC a.JD ["_law_script"] (ak ⟨K,ķ a⟩ 1 nQ):=by
 refine aV (cm:=ķ a) (mb:=yC) T.Zb1 au rfl rfl rfl fun cdv A outer s H E hr=>?_
 have hu:=hr.units
 exact(@ĉ _ _ _ _ _ _ _ (@ĸ _ _ _ _ _ _ 1 _ _ au.nd rfl (Or.inl rfl) (@ť _ _ _ _ _ _ (@ğ _ _ _)) (by rfl) (by first|exact .inl rfl|exact .inr rfl|assumption)) (@ĉ _ _ _ _ _ _ _ (@bF _ _ _ _ _ _ _ _ _ _ PassesOwn.leaving rfl (@aM _ _ _ _ _ _ _ _ rfl T.bT (@Ą _ _ _ _ _ _ _ (@ă _ _ _ _ _ _) (@ğ _ _ _) (by exact ć rfl)) (by exact ć rfl)) (@ē _ _ _ 2 _ au.nd rfl (Or.inl rfl) (by first|exact .inl rfl|exact .inr rfl|assumption)) (@ĉ _ _ _ _ _ _ _ (@ĸ _ _ _ _ _ _ 4 _ _ au.nd rfl (Or.inl rfl) (@Ĕ _ _ _ _ _ _ _ _ _ _ _ _ _ _ _ _ (Wu T) Č (hr.mono (by decide)) rfl T.mY T.Qk.kp T.Zbq (@ī _ _ _ _ _ _ _ _ _ _ _ _ _ _ _) (@Ĝ _ _ _ _ _ _ _ (@ĥ _ _ _ _ _ (@Ĕ _ _ _ _ _ _ _ _ _ _ _ _ _ _ _ _ (yV T) Č (hr.mono (by decide)) rfl T.dZ T.Al.kp T.Kc (@ī _ _ _ _ _ _ _ _ _ _ _ _ _ _ _) (@Ĉ _ _ _ _ _ 0 _ _ (by rfl) (by first|exact Or.inl rfl|exact Or.inr (Or.inl rfl)|exact Or.inr (Or.inr rfl)) (by decide) (by decide) (@Ĝ _ _ _ _ _ _ _ (@Ď _ _ _ _ _ _ _ _ _ _ _ (@Ī _) (@Ę _) (@Ā _ _ _ _ _ (@ă _ _ _ _ _ _)) (@Ă _ _ _ 2 _ _ (by rfl) (by first|exact Or.inl rfl|exact Or.inr (Or.inl rfl)|exact Or.inr (Or.inr rfl)) (by decide) (by decide))) (@Ē _ _ _) (by exact ć rfl)) (by exact ć rfl)) (by decide) (by exact ć rfl) (by rfl))) (@Ē _ _ _) (by exact ć rfl)) (by decide) (by exact ć rfl) (by rfl)) (by rfl) (by first|exact .inl rfl|exact .inr rfl|assumption)) (@ĉ _ _ _ _ _ _ _ (@ĸ _ _ _ _ _ _ 5 _ _ au.nd rfl (by first|exact Or.inl rfl|exact Or.inr rfl) (@Ĕ _ _ _ _ _ _ _ _ _ _ _ _ _ _ _ _ (Wv T) Č (hr.mono (by decide)) rfl T.mZ T.Qn.kp T.Zbr (@ī _ _ _ _ _ _ _ _ _ _ _ _ _ _ _) (@Ĝ _ _ _ _ _ _ _ (@ĥ _ _ _ _ _ (@Ĕ _ _ _ _ _ _ _ _ _ _ _ _ _ _ _ _ (yV T) Č (hr.mono (by decide)) rfl T.dZ T.Al.kp T.Kc (@ī _ _ _ _ _ _ _ _ _ _ _ _ _ _ _) (@Ĉ _ _ _ _ _ 0 _ _ (by rfl) (by first|exact Or.inl rfl|exact Or.inr (Or.inl rfl)|exact Or.inr (Or.inr rfl)) (by decide) (by decide) (@Ĝ _ _ _ _ _ _ _ (@ĥ _ _ _ _ _ (@ł _ _ _ _ _ _ _ _ _ _ _ (@İ _) (@į _) (@Ā _ _ _ _ _ (@Ď _ _ _ _ _ _ _ _ _ _ _ (@Ī _) (@Ę _) (@Ā _ _ _ _ _ (@ă _ _ _ _ _ _)) (@Ă _ _ _ 2 _ _ (by rfl) (by first|exact Or.inl rfl|exact Or.inr (Or.inl rfl)|exact Or.inr (Or.inr rfl)) (by decide) (by decide)))) (@Ā _ _ _ _ _ (@ă _ _ _ _ _ _)))) (@Ē _ _ _) (by exact ć rfl)) (by exact ć rfl)) (by decide) (by exact ć rfl) (by rfl))) (@Ē _ _ _) (by exact ć rfl)) (by decide) (by exact ć rfl) (by rfl)) (by rfl) (by first|exact .inl rfl|exact .inr rfl|assumption)) (@ĉ _ _ _ _ _ _ _ (@cg _ _ _ _ _ _ _ _ (@ĥ _ _ _ _ _ (@Ĕ _ _ _ _ _ _ _ _ _ _ _ _ _ _ _ _ (Ww T) Č (hr.mono (by decide)) rfl T.fH T.Qp.kp T.Zbs (@ī _ _ _ _ _ _ _ _ _ _ _ _ _ _ _) (@Ĝ _ _ _ _ _ _ _ (@ĥ _ _ _ _ _ (@Ĕ _ _ _ _ _ _ _ _ _ _ _ _ _ _ _ _ (yV T) Č (hr.mono (by decide)) rfl T.dZ T.Al.kp T.Kc (@ī _ _ _ _ _ _ _ _ _ _ _ _ _ _ _) (@Ĉ _ _ _ _ _ 0 _ _ (by rfl) (by first|exact Or.inl rfl|exact Or.inr (Or.inl rfl)|exact Or.inr (Or.inr rfl)) (by decide) (by decide) (@Ĝ _ _ _ _ _ _ _ (@ĥ _ _ _ _ _ (@ł _ _ _ _ _ _ _ _ _ _ _ (@İ _) (@į _) (@Ā _ _ _ _ _ (@Ď _ _ _ _ _ _ _ _ _ _ _ (@Ī _) (@Ę _) (@Ā _ _ _ _ _ (@ă _ _ _ _ _ _)) (@Ă _ _ _ 2 _ _ (by rfl) (by first|exact Or.inl rfl|exact Or.inr (Or.inl rfl)|exact Or.inr (Or.inr rfl)) (by decide) (by decide)))) (@Ā _ _ _ _ _ (@ă _ _ _ _ _ _)))) (@Ē _ _ _) (by exact ć rfl)) (by exact ć rfl)) (by decide) (by exact ć rfl) (by rfl))) (@Ĉ _ _ _ _ _ 4 _ _ (by rfl) (by first|exact Or.inl rfl|exact Or.inr (Or.inl rfl)|exact Or.inr (Or.inr rfl)) (by decide) (by decide) (@Ĉ _ _ _ _ _ 5 _ _ (by rfl) (by first|exact Or.inl rfl|exact Or.inr (Or.inl rfl)|exact Or.inr (Or.inr rfl)) (by decide) (by decide) (@Ē _ _ _) (by exact ć rfl)) (by exact ć rfl)) (by exact ć rfl)) (by decide) (by exact ć rfl) (by rfl))) (@cD _ _ _ _ _ _ _ rfl (@Ĥ _ _ _ _ _ _ (@ē _ _ _ 9 _ au.nd rfl (Or.inl rfl) (by first|exact .inl rfl|exact .inr rfl|assumption)) (@Ĥ _ _ _ _ _ _ (@ē _ _ _ 10 _ au.nd rfl (Or.inl rfl) (by first|exact .inl rfl|exact .inr rfl|assumption)) (@Ů _ _) (by rfl)) (by rfl)) (by rfl) (by rfl)) (by rfl) (by rfl) (by rfl)) (@č _ _ _ _ _ (@PS.wk _ _ _ _ (cJ (jH PySem.F.plainAttrs_list PySem.F.slot_list_append PySem.F.type_list_append aG (pv 1) (@Ą _ _ _ _ _ _ _ (@Ŀ _ _ _ _ _ _ _ (@Ą _ _ _ _ _ _ _ (@v_var _ _ _ 4 _ _ (by rfl) (by first|exact Or.inl rfl|exact Or.inr (Or.inl rfl)|exact Or.inr (Or.inr rfl)) (by decide) (by decide)) (@Ą _ _ _ _ _ _ _ (@v_var _ _ _ 5 _ _ (by rfl) (by first|exact Or.inl rfl|exact Or.inr (Or.inl rfl)|exact Or.inr (Or.inr rfl)) (by decide) (by decide)) (@Ą _ _ _ _ _ _ _ (@v_var _ _ _ 9 _ _ (by rfl) (by first|exact Or.inl rfl|exact Or.inr (Or.inl rfl)|exact Or.inr (Or.inr rfl)) (by decide) (by decide)) (@Ą _ _ _ _ _ _ _ (@v_var _ _ _ 10 _ _ (by rfl) (by first|exact Or.inl rfl|exact Or.inr (Or.inl rfl)|exact Or.inr (Or.inr rfl)) (by decide) (by decide)) (@ğ _ _ _) (by exact ć rfl)) (by exact ć rfl)) (by exact ć rfl)) (by exact ć rfl))) (@ğ _ _ _) (by exact ć rfl)))) (fun _ _ _ h=> @iI _ _ _ _ _ _ _ _ h)))))) (by intro _;rfl)) (@ĉ _ _ _ _ _ _ _ (mO (i:=3) au.nd rfl rfl ["_law_row_here"] [] 1 (ċ gG) rfl rfl (@ao _ _ _ _ 1 _ _ (by rfl) (by first|exact Or.inl rfl|exact Or.inr (Or.inl rfl)|exact Or.inr (Or.inr rfl)) (by decide) (by decide)) (fun _ _ _ _ _=>(@ē _ _ _ 0 _ (show(["_law_row_here"]:List Str).Nodup by decide +kernel) rfl (Or.inl rfl) (Or.inr rfl))) (fun _ _ _ _ _=>(@ũ _ _ _)) (fun _ _ _ _ _=>(@ĥ _ _ _ _ _ (@Ĕ _ _ _ _ _ _ _ _ _ _ _ _ _ _ _ _ (WD T) Č (hr.mono (by decide)) rfl T.dY T.Qw.kp T.Zby (@cB _ _ _) (@Ĝ _ _ _ _ _ _ _ (@Ĩ _ _ _ _ _ _ _ _ _ _ (@Đ _) (@ď _) (@Ă _ _ _ 0 _ _ (by rfl) (by first|exact Or.inl rfl|exact Or.inr (Or.inl rfl)|exact Or.inr (Or.inr rfl)) (by decide) (by decide)) (@Ā _ _ _ _ _ (@ă _ _ _ _ _ _)) (fun _ _=>rfl)) (@Ĝ _ _ _ _ _ _ _ (@ĥ _ _ _ _ _ (@PE.wk _ _ _ _ (ų fX (by rfl) T.g_ PyProof.Rows.boot_list (@Ė _ _ _ _ _ _ _ (@Ā _ _ _ _ _ (@Ĩ _ _ _ _ _ _ _ _ _ _ (@Đ _) (@ď _) (@Ă _ _ _ 0 _ _ (by rfl) (by first|exact Or.inl rfl|exact Or.inr (Or.inl rfl)|exact Or.inr (Or.inr rfl)) (by decide) (by decide)) (@Ā _ _ _ _ _ (@ă _ _ _ _ _ _)) (fun _ _=>rfl))) (@ı _ _ _) (by exact ć rfl))) (fun _ _ _ h=> @Bp _ _ _ _ _ _ (@fY _) _ _ _ h))) (@Ē _ _ _) (by exact ć rfl)) (by exact ć rfl)) (by decide) (by exact ć rfl) (by rfl)))) trivial) (@ĉ _ _ _ _ _ _ _ (@bF _ _ _ _ _ _ _ _ _ _ PassesOwn.leaving rfl (@cW _ _ _ _ _ _ (@ĥ _ _ _ _ _ (@ť _ _ _ _ _ _ (@Ą _ _ _ _ _ _ _ (@ă _ _ _ _ _ _) (@Ą _ _ _ _ _ _ _ (@ă _ _ _ _ _ _) (@Ą _ _ _ _ _ _ _ (@ă _ _ _ _ _ _) (@ğ _ _ _) (by exact ć rfl)) (by exact ć rfl)) (by exact ć rfl))))) (@ē _ _ _ 2 _ au.nd rfl (Or.inl rfl) (by first|exact .inl rfl|exact .inr rfl|assumption)) (@ĉ _ _ _ _ _ _ _ (@cg _ _ _ _ _ _ _ _ (@Ĩ _ _ _ _ _ _ _ _ _ _ (@Đ _) (@ď _) (@Ă _ _ _ 1 _ _ (by rfl) (by first|exact Or.inl rfl|exact Or.inr (Or.inl rfl)|exact Or.inr (Or.inr rfl)) (by decide) (by decide)) (@Ă _ _ _ 2 _ _ (by rfl) (by first|exact Or.inl rfl|exact Or.inr (Or.inl rfl)|exact Or.inr (Or.inr rfl)) (by decide) (by decide)) (fun _ _=>rfl)) (@cD _ _ _ _ _ _ _ rfl (@Ĥ _ _ _ _ _ _ (@ē _ _ _ 4 _ au.nd rfl (Or.inl rfl) (by first|exact .inl rfl|exact .inr rfl|assumption)) (@Ĥ _ _ _ _ _ _ (@ē _ _ _ 5 _ au.nd rfl (by first|exact Or.inl rfl|exact Or.inr rfl) (by first|exact .inl rfl|exact .inr rfl|assumption)) (@Ĥ _ _ _ _ _ _ (@ē _ _ _ 9 _ au.nd rfl (Or.inl rfl) (by first|exact .inl rfl|exact .inr rfl|assumption)) (@Ĥ _ _ _ _ _ _ (@ē _ _ _ 10 _ au.nd rfl (Or.inl rfl) (by first|exact .inl rfl|exact .inr rfl|assumption)) (@Ů _ _) (by rfl)) (by rfl)) (by rfl)) (by rfl)) (by rfl) (by rfl)) (by rfl) (by rfl) (by rfl)) (@ĉ _ _ _ _ _ _ _ (mO (i:=6) au.nd rfl rfl ["_law_ray_here","_law_corner_here"] [5] 1 (ċ gG) rfl rfl (@Fz _ _ _ _ _ _ (@cW _ _ _ _ _ _ (@ĥ _ _ _ _ _ (@Ĕ _ _ _ _ _ _ _ _ _ _ _ _ _ _ _ _ (Xl T) Č (hr.mono (by decide)) rfl T.fL T.Am.kp T.Rh (@cB _ _ _) (@Ĉ _ _ _ _ _ 9 _ _ (by rfl) (by first|exact Or.inl rfl|exact Or.inr (Or.inl rfl)|exact Or.inr (Or.inr rfl)) (by decide) (by decide) (@Ĉ _ _ _ _ _ 10 _ _ (by rfl) (by first|exact Or.inl rfl|exact Or.inr (Or.inl rfl)|exact Or.inr (Or.inr rfl)) (by decide) (by decide) (@Ē _ _ _) (by exact ć rfl)) (by exact ć rfl)) (by decide) (by exact ć rfl) (by rfl))))) (fun _ _ _ _ _=>(@ē _ _ _ 1 _ (show(["_law_ray_here","_law_corner_here"]:List Str).Nodup by decide +kernel) rfl (Or.inl rfl) (Or.inr rfl))) (fun _ _ _ _ _=>(@ũ _ _ _)) (fun _ _ _ _ _=>(@ĥ _ _ _ _ _ (@Ĕ _ _ _ _ _ _ _ _ _ _ _ _ _ _ _ _ (K_ T) Č (hr.mono (by decide)) rfl T.gO T.Kd.kp T.QZ (@cB _ _ _) (@Ĉ _ _ _ _ _ 1 _ _ (by rfl) (by first|exact Or.inl rfl|exact Or.inr (Or.inl rfl)|exact Or.inr (Or.inr rfl)) (by decide) (by decide) (@Ĉ _ _ _ _ _ 0 _ _ (by rfl) (by first|exact Or.inl rfl|exact Or.inr (Or.inl rfl)|exact Or.inr (Or.inr rfl)) (by decide) (by decide) (@Ē _ _ _) (by exact ć rfl)) (by exact ć rfl)) (by decide) (by exact ć rfl) (by rfl)))) ⟨rfl,⟨rfl,Or.inl rfl⟩,trivial⟩) (@ĉ _ _ _ _ _ _ _ (@ĸ _ _ _ _ _ _ 7 _ _ au.nd rfl (Or.inl rfl) (@Ĕ _ _ _ _ _ _ _ _ _ _ _ _ _ _ _ _ (KZ T) Č (hr.mono (by decide)) rfl T.jX T.Ka.kp T.QW (@ī _ _ _ _ _ _ _ _ _ _ _ _ _ _ _) (@Ĝ _ _ _ _ _ _ _ (@Ĩ _ _ _ _ _ _ _ _ _ _ (@Đ _) (@ď _) (@Ă _ _ _ 3 _ _ (by rfl) (by first|exact Or.inl rfl|exact Or.inr (Or.inl rfl)|exact Or.inr (Or.inr rfl)) (by decide) (by decide)) (@Ă _ _ _ 2 _ _ (by rfl) (by first|exact Or.inl rfl|exact Or.inr (Or.inl rfl)|exact Or.inr (Or.inr rfl)) (by decide) (by decide)) (fun _ _=>rfl)) (@Ĉ _ _ _ _ _ 4 _ _ (by rfl) (by first|exact Or.inl rfl|exact Or.inr (Or.inl rfl)|exact Or.inr (Or.inr rfl)) (by decide) (by decide) (@Ĉ _ _ _ _ _ 5 _ _ (by rfl) (by first|exact Or.inl rfl|exact Or.inr (Or.inl rfl)|exact Or.inr (Or.inr rfl)) (by decide) (by decide) (@Ē _ _ _) (by exact ć rfl)) (by exact ć rfl)) (by exact ć rfl)) (by decide) (by exact ć rfl) (by rfl)) (by rfl) (by first|exact .inl rfl|exact .inr rfl|assumption)) (@ĉ _ _ _ _ _ _ _ (@Ţ _ _ _ _ _ _ _ _ _ _ (@xG _ _ _ _ _ 7 (@eV _ _ _ _ _ _ (@aA _ _ _ _ _ (@Ā _ _ _ _ _ (@ĥ _ _ _ _ _ (@Ĕ _ _ _ _ _ _ _ _ _ _ _ _ _ _ _ _ (Xk T) Č (hr.mono (by decide)) rfl T.jZ T.Rg.kp T.Zb0 (@ī _ _ _ _ _ _ _ _ _ _ _ _ _ _ _) (@Ĉ _ _ _ _ _ 7 _ _ (by rfl) (by first|exact Or.inl rfl|exact Or.inr (Or.inl rfl)|exact Or.inr (Or.inr rfl)) (by decide) (by decide) (@Ĉ _ _ _ _ _ 6 _ _ (by rfl) (by first|exact Or.inl rfl|exact Or.inr (Or.inl rfl)|exact Or.inr (Or.inr rfl)) (by decide) (by decide) (@Ĝ _ _ _ _ _ _ _ (@ĥ _ _ _ _ _ (@Ĕ _ _ _ _ _ _ _ _ _ _ _ _ _ _ _ _ (K_ T) Č (hr.mono (by decide)) rfl T.gO T.Kd.kp T.QZ (@ī _ _ _ _ _ _ _ _ _ _ _ _ _ _ _) (@Ĝ _ _ _ _ _ _ _ (@Ŀ _ _ _ _ _ _ _ (@Ą _ _ _ _ _ _ _ (@Ď _ _ _ _ _ _ _ _ _ _ _ (@Ī _) (@Ę _) (@Ā _ _ _ _ _ (@ă _ _ _ _ _ _)) (@Ā _ _ _ _ _ (@Ĩ _ _ _ _ _ _ _ _ _ _ (@Đ _) (@ď _) (@Ă _ _ _ 4 _ _ (by rfl) (by first|exact Or.inl rfl|exact Or.inr (Or.inl rfl)|exact Or.inr (Or.inr rfl)) (by decide) (by decide)) (@Ā _ _ _ _ _ (@ă _ _ _ _ _ _)) (fun _ _=>rfl)))) (@Ą _ _ _ _ _ _ _ (@Ď _ _ _ _ _ _ _ _ _ _ _ (@Ī _) (@Ę _) (@Ā _ _ _ _ _ (@ă _ _ _ _ _ _)) (@Ā _ _ _ _ _ (@Ĩ _ _ _ _ _ _ _ _ _ _ (@Đ _) (@ď _) (@Ă _ _ _ 4 _ _ (by rfl) (by first|exact Or.inl rfl|exact Or.inr (Or.inl rfl)|exact Or.inr (Or.inr rfl)) (by decide) (by decide)) (@Ā _ _ _ _ _ (@ă _ _ _ _ _ _)) (fun _ _=>rfl)))) (@Ą _ _ _ _ _ _ _ (@ă _ _ _ _ _ _) (@ğ _ _ _) (by exact ć rfl)) (by exact ć rfl)) (by exact ć rfl))) (@Ĉ _ _ _ _ _ 5 _ _ (by rfl) (by first|exact Or.inl rfl|exact Or.inr (Or.inl rfl)|exact Or.inr (Or.inr rfl)) (by decide) (by decide) (@Ē _ _ _) (by exact ć rfl)) (by exact ć rfl)) (by decide) (by exact ć rfl) (by rfl))) (@Ē _ _ _) (by exact ć rfl)) (by exact ć rfl)) (by exact ć rfl)) (by decide) (by exact ć rfl) (by rfl)))) (by intro _;rfl)))) (@č _ _ _ _ _ (@ģ _ _ _ _ _ _ (@Ķ _ _ _ _ _ (@gW _ _ _ _ _ _)))) (@Ĵ _ _ _)) (@ĉ _ _ _ _ _ _ _ (@ĸ _ _ _ _ _ _ 8 _ _ au.nd rfl (Or.inl rfl) (@Ĕ _ _ _ _ _ _ _ _ _ _ _ _ _ _ _ _ (Xh T) Č (hr.mono (by decide)) rfl T.nH T.QX.kp T.ZbW (@ī _ _ _ _ _ _ _ _ _ _ _ _ _ _ _) (@Ĝ _ _ _ _ _ _ _ (@Ĩ _ _ _ _ _ _ _ _ _ _ (@Đ _) (@ď _) (@Ă _ _ _ 3 _ _ (by rfl) (by first|exact Or.inl rfl|exact Or.inr (Or.inl rfl)|exact Or.inr (Or.inr rfl)) (by decide) (by decide)) (@Ă _ _ _ 2 _ _ (by rfl) (by first|exact Or.inl rfl|exact Or.inr (Or.inl rfl)|exact Or.inr (Or.inr rfl)) (by decide) (by decide)) (fun _ _=>rfl)) (@Ĉ _ _ _ _ _ 4 _ _ (by rfl) (by first|exact Or.inl rfl|exact Or.inr (Or.inl rfl)|exact Or.inr (Or.inr rfl)) (by decide) (by decide) (@Ĉ _ _ _ _ _ 5 _ _ (by rfl) (by first|exact Or.inl rfl|exact Or.inr (Or.inl rfl)|exact Or.inr (Or.inr rfl)) (by decide) (by decide) (@Ē _ _ _) (by exact ć rfl)) (by exact ć rfl)) (by exact ć rfl)) (by decide) (by exact ć rfl) (by rfl)) (by rfl) (by first|exact .inl rfl|exact .inr rfl|assumption)) (@ĉ _ _ _ _ _ _ _ (@Ţ _ _ _ _ _ _ _ _ _ _ (@xG _ _ _ _ _ 7 (@PW.pt _ _ _ (@w_or _ _ _ _ _ _ _ _ _ (@eV _ _ _ _ _ _ (@aA _ _ _ _ _ (@Ā _ _ _ _ _ (@PE.wk _ _ _ _ (ĩ bB (by rfl) T.Œ PyProof.Rows.boot_isinstance (@Ė _ _ _ _ _ _ _ (@Ă _ _ _ 8 _ _ (by rfl) (by first|exact Or.inl rfl|exact Or.inr (Or.inl rfl)|exact Or.inr (Or.inr rfl)) (by decide) (by decide)) (@Ė _ _ _ _ _ _ _ (@Ā _ _ _ _ _ (@tD _ _ _ _ _ (.ty "bool") (@bf _ _ (.ty "bool") _ _ rfl T.yK PyProof.Rows.boot_bool rfl (by decide) (by decide)) (by intro _;unfold Rep;rfl))) (@ı _ _ _) (by exact ć rfl)) (by exact ć rfl))) (fun _ _ _ h=> @Ũ _ _ _ _ _ _ (@bC _ _ _ _ _ T.iC T.iT T.iD T.iN) _ _ _ h))) (by intro _;rfl))) (@jL _ _ _ _ _ _ (@ŉ _ _ _ _ _ _ _ _ _ _ _ (@dR _) (@bJ _ hu) (@Ă _ _ _ 8 _ _ (by rfl) (by first|exact Or.inl rfl|exact Or.inr (Or.inl rfl)|exact Or.inr (Or.inr rfl)) (by decide) (by decide)) (@Ā _ _ _ _ _ (@bY _ _ _ _ _ _ _ _ _ _ _ (@ś _) (@Ň _ hu) (@Ā _ _ _ _ _ (@Ĩ _ _ _ _ _ _ _ _ _ _ (@Đ _) (@ď _) (@Ă _ _ _ 7 _ _ (by rfl) (by first|exact Or.inl rfl|exact Or.inr (Or.inl rfl)|exact Or.inr (Or.inr rfl)) (by decide) (by decide)) (@Ā _ _ _ _ _ (@ă _ _ _ _ _ _)) (fun _ _=>rfl))) (@Ā _ _ _ _ _ (@š _ _ _ _ _ _)) (ĭ _))) (ĭ _)))))) (@č _ _ _ _ _ (@ģ _ _ _ _ _ _ (@Ķ _ _ _ _ _ (@gW _ _ _ _ _ _)))) (@Ĵ _ _ _)) (@č _ _ _ _ _ (@Ţ _ _ _ _ _ _ _ _ _ _ (@xG _ _ _ _ _ 7 (@ŉ _ _ _ _ _ _ _ _ _ _ _ (@ś _) (@Ň _ hu) (@Ā _ _ _ _ _ (@Ĩ _ _ _ _ _ _ _ _ _ _ (@Đ _) (@ď _) (@Ă _ _ _ 7 _ _ (by rfl) (by first|exact Or.inl rfl|exact Or.inr (Or.inl rfl)|exact Or.inr (Or.inr rfl)) (by decide) (by decide)) (@Ā _ _ _ _ _ (@ă _ _ _ _ _ _)) (fun _ _=>rfl))) (@Ā _ _ _ _ _ (@š _ _ _ _ _ _)) (ĭ _))) (@č _ _ _ _ _ (@PS.wk _ _ _ _ (cJ (jH PySem.F.plainAttrs_list PySem.F.slot_list_append PySem.F.type_list_append aG (@Pq _ _ _ _ _ _ _ (@Di _) (pv 7) (@Cy _ _ _ _) (fun _ _=>rfl)) (@Ą _ _ _ _ _ _ _ (@Ŀ _ _ _ _ _ _ _ (@Ą _ _ _ _ _ _ _ (@ă _ _ _ _ _ _) (@Ą _ _ _ _ _ _ _ (@ă _ _ _ _ _ _) (@ğ _ _ _) (by exact ć rfl)) (by exact ć rfl))) (@ğ _ _ _) (by exact ć rfl)))) (fun _ _ _ h=> @FW _ _ _ _ _ _ _ _ _ h))) (@Ĵ _ _ _))))))))) (by intro _;rfl)) (@č _ _ _ _ _ (@ģ _ _ _ _ _ _ (@Ķ _ _ _ _ _ (@gW _ _ _ _ _ _))))))))
end
theorem ZH(ns:List Int)(k:Nat):dZ [.sh (.lst (ns.map .int)),.sh (.int k)]=.ret (.sh (.int (ns.getD k 0))):=by
 by_cases h:k<ns.length
 ·have h':(k:Int)<(ns.length:Int):=by omega
  simp[dZ,sJ,List.replicate,h',List.getElem?_eq_getElem h]
 ·have h':¬(k:Int)<(ns.length:Int):=by omega
  simp[dZ,sJ,List.replicate,h',List.getElem?_eq_none (Nat.le_of_not_lt h)]
@[simp] theorem Z1C(ns:List Int)(k:Nat):dZ [.sh (.lst (ns.map .int)),.sh (.int (no_index (OfNat.ofNat k)))]=.ret (.sh (.int (ns.getD k 0))):=ZH ns k
@[simp] theorem Z2N{x:Int}{n:Nat}(h:n≠0)(h2:n<1073741824):zU x (no_index (OfNat.ofNat n):Int)=true:=by
  have e:(no_index (OfNat.ofNat n):Int)=(n:Int):=rfl
  rw[e]
  unfold zU
  simp
  omega
theorem Z0o(n k:Int)(h0:0≤k)(hk:k<1000):∃x:Int,jO [.sh (.int n),.sh (.int k)]=.ret (.sh (.int x))∧0≤x∧x<1500450271:=by
 have h1:=Int.emod_nonneg n (show(1073741789:Int)≠0 by decide)
 have h2:=Int.emod_lt_of_pos n (show(0:Int)<1073741789 by decide)
 obtain⟨N,hN⟩:∃N,(n % 1073741789+3*k+1)*40009+k*5501=N:=⟨_,rfl⟩
 have b0:0≤N / 32749:=by omega
 have b1:N / 32749<18446744073709551616:=by omega
 have b2:0≤N % 32749:=by omega
 have b3:N % 32749<32749:=by omega
 obtain⟨h,hh⟩:∃h,N / 32749=h:=⟨_,rfl⟩
 obtain⟨l,hl⟩:∃l,N % 32749=l:=⟨_,rfl⟩
 rw[hh] at b0 b1
 rw[hl] at b2 b3
 have m1:ň h h=true:=Ź (by omega) (by omega)
 have m2:ň l (l+613)=true:=Ź (by omega) (by omega)
 have hd:iM [.int N,.int 32749]=some (.tup [.int h,.int l]):=by rw[←hh,←hl];simp[iM]
 obtain⟨S,hS⟩:∃S,h*h+l*(l+613)+k=S:=⟨_,rfl⟩
 refine⟨S % 1500450271,?_,by omega,by omega⟩
 simp[jO,xJ,List.replicate,hN,hd,m1,m2,hS]
def pt(p:Hu.Pt):PV:=.tup [.int p.1,.int p.2]
def dw(l:Hu.Ln):PV:=.tup [.int l.1,.int l.2.1,.int l.2.2]
def Sm(p:Hu.Pt):Prop:=-100000000000000000≤p.1∧p.1≤100000000000000000∧ -100000000000000000≤p.2∧p.2≤100000000000000000
def Z_(l:Hu.Ln):Prop:=-1000000000000000000≤l.1∧l.1≤1000000000000000000∧ -1000000000000000000≤l.2.1∧l.2.1≤1000000000000000000
theorem Z19{x y:Hu.Pt}:eqB (pt y) (pt x)=decide (y=x):=by
 obtain⟨a,b⟩:=x
 obtain⟨c,d⟩:=y
 unfold pt
 rw[FJ,Bool.eq_iff_iff]
 simp
theorem Z0h(x:Hu.Pt):bI (pt x)=true:=by simp[pt,bI,cY]
theorem Z0p(x:Hu.Pt):dep (pt x)=1:=by simp[pt,dep,uo]
theorem Z2g(S:List Hu.Pt):cY (S.map pt)=true:=by
 induction S with
 |nil=>simp[cY]
 |cons p S ih=>simp[cY,Z0h,ih]
theorem Z1a(x:Hu.Pt):∀k:List Hu.Pt,(k.map pt).any (fun y=>eqB y (pt x))=decide (x∈k)
 | []=>by simp
 |y::k=>by
  rw[List.map_cons,List.any_cons,Z1a x k,Z19,Bool.eq_iff_iff]
  simp
  constructor
  ·rintro (e|e)
   ·exact .inl e.symm
   ·exact .inr e
  ·rintro (e|e)
   ·exact .inl e.symm
   ·exact .inr e
theorem Z0q(x:Hu.Pt)(k:List Hu.Pt):inD true (pt x) (.lst (k.map pt))=some (.bl (!decide (x∈k))):=by
 unfold inD
 simp only[Z0h,Z2g,Z0p,Z1a]
 rfl
theorem Z0S(x y:Hu.Pt):cu (pt x) (pt y)=some (.bl (!decide (x=y))):=by
 unfold cu qR
 rw[Z0h,Z0h,Z0p,Z0p,Z19]
 rfl
theorem Z24{a b:Hu.Pt}(ha:Sm a)(hb:Sm b):qm [.sh (pt a),.sh (pt b)]=.ret (.sh (dw (Hu.Z1 a b))):=by
 obtain⟨a1,a2,a3,a4⟩:=ha
 obtain⟨b1,b2,b3,b4⟩:=hb
 have m1:ň (b.2-a.2) a.1=true:=Ź (by omega) (by omega)
 have m2:ň (a.1-b.1) a.2=true:=Ź (by omega) (by omega)
 simp[qm,xT,List.replicate,pt,dw,Hu.Z1,m1,m2]
theorem Z0r{l:Hu.Ln}(hl:Z_ l)(p:Hu.Pt):gJ [.sh (dw l),.sh (pt p)]=.ret (.sh (.bl (Hu.hd l p))):=by
 obtain⟨a1,a2,a3,a4⟩:=hl
 have m1:ň l.1 p.1=true:=Ź (by omega) (by omega)
 have m2:ň l.2.1 p.2=true:=Ź (by omega) (by omega)
 simp[gJ,xU,List.replicate,pt,dw,Hu.hd,m1,m2]
theorem Z0K{a b:Hu.Pt}(ha:Sm a)(hb:Sm b):Z_ (Hu.Z1 a b):=by
 obtain⟨a1,a2,a3,a4⟩:=ha
 obtain⟨b1,b2,b3,b4⟩:=hb
 simp only[Z_,Hu.Z1]
 omega
def Sl(s:P.Slot)(ps:List PV):Prop:=s=.sh (.lst ps)∨s=.bw ps
theorem Sl.lend{s:P.Slot}{ps:List PV}(h:Sl s ps):cV s=some s:=by rcases h with rfl|rfl<;>rfl
theorem Sl.it{s:P.Slot}{ps:List PV}(h:Sl s ps){i:Nat}{ρ:Ő}(e:ρ[i]?=some s):ţ i ρ=.ok ps ρ:= by
 rcases h with rfl|rfl<;>simp[e]
theorem Z25{S:List Hu.Pt}{sl:P.Slot}(hs:Sl sl (S.map pt))(hl:S.length≤1000):ql [sl]=.ret (.ow ((Hu.Z2 S).map pt)):=by
 have hlen:∀(xs k:List Hu.Pt),(xs.foldl (fun k x=>if x∈k then k else k ++ [x]) k).length≤k.length+xs.length:=by
  intro xs
  induction xs with
  |nil=>intro k;simp
  |cons x xs ih=>
   intro k
   rw[List.foldl_cons]
   refine Nat.le_trans (ih _) ?_
   split
   ·simp
   ·simp;omega
 have key:∀(xs:List Hu.Pt) (k:List Hu.Pt) (s2:P.Slot),k.length+xs.length≤1000→∃s2',forL (gN 2) jy (xs.map pt) [sl,.ow (k.map pt),s2]=.ok .nx [sl,.ow ((xs.foldl (fun k x=>if x∈k then k else k ++ [x]) k).map pt),s2']:=by
  intro xs
  induction xs with
  |nil=>intro k s2 _;exact⟨s2,rfl⟩
  |cons x xs ih=>
   intro k s2 hk
   rw[List.length_cons] at hk
   by_cases hx:x∈k
   ·obtain⟨s2',e⟩:=ih k (.sh (pt x)) (by omega)
    refine⟨s2',?_⟩
    have hb:jy [sl,.ow (k.map pt),.sh (pt x)]=.ok .nx [sl,.ow (k.map pt),.sh (pt x)]:=by simp[jy,Z0q,hx]
    rw[List.map_cons,List.foldl_cons,if_pos hx,forL]
    simp[hb,e]
   ·obtain⟨s2',e⟩:=ih (k ++ [x]) (.sh (pt x)) (by simp;omega)
    refine⟨s2',?_⟩
    have h3:k.length<16777216:=by omega
    have hb:jy [sl,.ow (k.map pt),.sh (pt x)]=.ok .nx [sl,.ow ((k ++ [x]).map pt),.sh (pt x)]:=by simp[jy,Z0q,hx,h3]
    rw[List.map_cons,List.foldl_cons,if_neg hx,forL]
    simp only[En,List.set_cons_succ,List.set_cons_zero,hb,Res.ż]
    exact e
 obtain⟨s2,e⟩:=key S [] .no (by simpa using hl)
 have hit:=hs.it (i:=0) (ρ:= [sl,.ow [],.no]) rfl
 simp only[List.map_nil] at e
 simp[ql,xR,List.replicate,-wW,hit,e]
 rfl
theorem Z1b(x:Int)(l:List Int):pK [.lst ((x::l).map .int)]=some (.int (Hu.mx (x::l))):=by
 show((intsOf ((x::l).map .int)).bind (best max)).map PV.int=_
 rw[cC]
 rfl
theorem Z1c(x:Int)(l:List Int):pL [.lst ((x::l).map .int)]=some (.int (Hu.mn (x::l))):=by
 show((intsOf ((x::l).map .int)).bind (best min)).map PV.int=_
 rw[cC]
 rfl
theorem Z2h{S:List Hu.Pt}{sl:P.Slot}(hs:Sl sl (S.map pt))(h0:S≠[])(hl:S.length≤1000):qj [sl]=.ret (.ow ((Hu.box S).map dw)):=by
 have c1:ŗ (gN 0) Ŗ (Ć ę (ā 0) (mC (.int 0))) (S.map pt) [.no] []=some ((S.map (·.1)).map .int):=by
  have:=Ř (g:=gN 0) (mt:=Ŗ) (me:=Ć ę (ā 0) (mC (.int 0))) pt (fun p=>.int p.1) (fun ρ=>∃s,ρ=[s]) S [.no] [] ⟨_,rfl⟩ (by simp;omega) (by
   rintro x hx ρ ⟨s,rfl⟩
   exact⟨[.sh (pt x)],[.sh (pt x)],[.sh (pt x)],by simp,by simp,by simp[pt],_,rfl⟩)
  rw[this]
  simp
 have c2:ŗ (gN 0) Ŗ (Ć ę (ā 0) (mC (.int 1))) (S.map pt) [.no] []=some ((S.map (·.2)).map .int):=by
  have:=Ř (g:=gN 0) (mt:=Ŗ) (me:=Ć ę (ā 0) (mC (.int 1))) pt (fun p=>.int p.2) (fun ρ=>∃s,ρ=[s]) S [.no] [] ⟨_,rfl⟩ (by simp;omega) (by
   rintro x hx ρ ⟨s,rfl⟩
   exact⟨[.sh (pt x)],[.sh (pt x)],[.sh (pt x)],by simp,by simp,by simp[pt],_,rfl⟩)
  rw[this]
  simp
 obtain⟨p,R,rfl⟩:=List.exists_cons_of_ne_nil h0
 have x1:=Z1b p.1 (R.map (·.1))
 have x2:=Z1c p.1 (R.map (·.1))
 have x3:=Z1b p.2 (R.map (·.2))
 have x4:=Z1c p.2 (R.map (·.2))
 have hit:∀s1 s2,ţ 0 [sl,s1,s2]=.ok ((p::R).map pt) [sl,s1,s2]:=fun s1 s2=>hs.it rfl
 have b:(Hu.box (p::R)).map dw=[.tup [.int 1,.int 0,.int (Hu.mx (p.1::R.map (·.1)))],.tup [.int (-1),.int 0,.int (- Hu.mn (p.1::R.map (·.1)))],.tup [.int 0,.int 1,.int (Hu.mx (p.2::R.map (·.2)))],.tup [.int 0,.int (-1),.int (- Hu.mn (p.2::R.map (·.2)))]]:=rfl
 rw[b]
 generalize (p::R).map pt=ps at hit c1 c2
 rw[List.map_cons] at c1 c2
 generalize (p.1::R.map (·.1)).map PV.int=us at c1 x1 x2
 generalize (p.2::R.map (·.2)).map PV.int=vs at c2 x3 x4
 simp[qj,xQ,List.replicate,-wW,-Ob,-Oc,hit,c1,c2,x1,x2,x3,x4]
theorem Z0b:∀l:List Bool,boolsOf (l.map .bl)=some l
 | []=>rfl
 |x::l=>by rw[List.map_cons,boolsOf,Z0b l];rfl
theorem Z01(l:List Bool):lZ [.lst (l.map .bl)]=some (.bl (l.all id)):=by
 show(boolsOf (l.map .bl)).map (fun bs=>PV.bl (bs.all id))=_
 rw[Z0b]
 rfl
theorem ZI(S:List Hu.Pt):(Hu.Z2 S).length≤S.length:=by
 have:∀(xs k:List Hu.Pt),(xs.foldl (fun k x=>if x∈k then k else k ++ [x]) k).length≤k.length+xs.length:=by
  intro xs
  induction xs with
  |nil=>intro k;simp
  |cons x xs ih=>
   intro k
   rw[List.foldl_cons]
   refine Nat.le_trans (ih _) ?_
   split
   ·simp
   ·simp;omega
 have h:=this S []
 rw[List.length_nil,Nat.zero_add] at h
 exact h
theorem Z1d{S:List Hu.Pt}(hS:∀p∈S,Sm p)(hl:S.length≤1000){a b:Hu.Pt}(ha:a∈S)(hb:b∈S)(s0 s5:P.Slot)(L:List Hu.Ln)(hL:L.length<16777216) :
 jz [s0,.ow (L.map dw),.sh (.lst ((Hu.Z2 S).map pt)),.sh (pt a),.sh (pt b),s5]=.ok .nx [s0,.ow ((L++(if a≠b∧(Hu.Z2 S).all (Hu.hd (Hu.Z1 a b)) then[Hu.Z1 a b] else[])).map dw),.sh (.lst ((Hu.Z2 S).map pt)),.sh (pt a),.sh (pt b),.sh (dw (Hu.Z1 a b))]:=by
 have hsm:=Z0K (hS a ha) (hS b hb)
 have c1:ŗ (gN 1) Ŗ (Ě (Ġ gJ (Ċ 0 (Ċ 1 ĕ)))) ((Hu.Z2 S).map pt) [.sh (dw (Hu.Z1 a b)),.no] []=some (((Hu.Z2 S).map (Hu.hd (Hu.Z1 a b))).map .bl):=by
  have hlen:(Hu.Z2 S).length≤16777216:=by have:=ZI S;omega
  have:=Ř (g:=gN 1) (mt:=Ŗ) (me:=Ě (Ġ gJ (Ċ 0 (Ċ 1 ĕ)))) pt (fun p=>.bl (Hu.hd (Hu.Z1 a b) p)) (fun ρ=>∃s,ρ=[.sh (dw (Hu.Z1 a b)),s]) (Hu.Z2 S) [.sh (dw (Hu.Z1 a b)),.no] [] ⟨_,rfl⟩ (by simpa using hlen) (by
   rintro x hx ρ ⟨s,rfl⟩
   exact⟨[.sh (dw (Hu.Z1 a b)),.sh (pt x)],[.sh (dw (Hu.Z1 a b)),.sh (pt x)],[.sh (dw (Hu.Z1 a b)),.sh (pt x)],by simp,by simp,by simp[Z0r hsm],_,rfl⟩)
  rw[this]
  simp
 have c2:=Z01 ((Hu.Z2 S).map (Hu.hd (Hu.Z1 a b)))
 have e1:=Z24 (hS a ha) (hS b hb)
 have e3:((Hu.Z2 S).map (Hu.hd (Hu.Z1 a b))).all id=(Hu.Z2 S).all (Hu.hd (Hu.Z1 a b)):=by simp
 rw[e3] at c2
 generalize ((Hu.Z2 S).map (Hu.hd (Hu.Z1 a b))).map PV.bl=bs at c1 c2
 by_cases h1:a=b
 ·subst h1
  simp[jz,e1,Z0S]
 ·by_cases h2:(Hu.Z2 S).all (Hu.hd (Hu.Z1 a b))=true
  ·rw[h2] at c2
   simp[jz,e1,Z0S,h1,c1,c2,h2,hL,-List.all_eq_true]
  ·rw[Bool.not_eq_true] at h2
   rw[h2] at c2
   simp[jz,e1,Z0S,h1,c1,c2,h2,hL,-List.all_eq_true,-List.all_eq_false]
theorem Z1D{S:List Hu.Pt}(hS:∀p∈S,Sm p)(hl:S.length≤1000){a:Hu.Pt}(ha:a∈S)(s0:P.Slot):∀(xs:List Hu.Pt) (L:List Hu.Ln) (s4 s5:P.Slot),(∀x∈xs,x∈S)→L.length+xs.length<16777216→
 ∃Cr Py,forL (gN 4) jz (xs.map pt) [s0,.ow (L.map dw),.sh (.lst ((Hu.Z2 S).map pt)),.sh (pt a),s4,s5]=.ok .nx [s0,.ow ((L++xs.filterMap fun b=>if a≠b∧(Hu.Z2 S).all (Hu.hd (Hu.Z1 a b)) then some (Hu.Z1 a b) else none).map dw),.sh (.lst ((Hu.Z2 S).map pt)),.sh (pt a),Cr,Py]:=by
 intro xs
 induction xs with
 |nil=>intro L s4 s5 _ _;exact⟨s4,s5,by simp[forL]⟩
 |cons b xs ih=>
  intro L s4 s5 hx hL
  rw[List.length_cons] at hL
  have hb:=Z1d hS hl ha (hx b (by simp)) s0 s5 L (by omega)
  obtain⟨Cr,Py,e⟩:=ih (L++(if a≠b∧(Hu.Z2 S).all (Hu.hd (Hu.Z1 a b)) then[Hu.Z1 a b] else[])) (.sh (pt b)) (.sh (dw (Hu.Z1 a b))) (fun x h=>hx x (List.mem_cons_of_mem _ h)) (by
   rw[List.length_append]
   split
   ·simp;omega
   ·simp;omega)
  refine⟨Cr,Py,?_⟩
  rw[List.map_cons,forL]
  simp only[En,List.set_cons_succ,List.set_cons_zero,hb,Res.ż]
  rw[e,List.filterMap_cons]
  by_cases hc:a≠b∧(Hu.Z2 S).all (Hu.hd (Hu.Z1 a b))=true
  ·rw[if_pos hc,if_pos hc]
   simp only[List.append_assoc,List.cons_append,List.nil_append]
  ·rw[if_neg hc,if_neg hc]
   simp only[List.append_nil]
theorem ZK{α β:Type}(f:α→Option β)(l:List α):(l.filterMap f).length≤l.length:=List.length_filterMap_le ..
theorem Z1E{S:List Hu.Pt}(hS:∀p∈S,Sm p)(hl:S.length≤1000)(s0:P.Slot):∀(xs:List Hu.Pt) (L:List Hu.Ln) (s3 s4 s5:P.Slot),(∀x∈xs,x∈S)→L.length+xs.length*1000<10000000→
 ∃s3' Cr Py,forL (gN 3) rQ (xs.map pt) [s0,.ow (L.map dw),.sh (.lst ((Hu.Z2 S).map pt)),s3,s4,s5]=.ok .nx [s0,.ow ((L++xs.flatMap fun a=>(Hu.Z2 S).filterMap fun b=>if a≠b∧(Hu.Z2 S).all (Hu.hd (Hu.Z1 a b)) then some (Hu.Z1 a b) else none).map dw),.sh (.lst ((Hu.Z2 S).map pt)),s3',Cr,Py]:=by
 intro xs
 induction xs with
 |nil=>intro L s3 s4 s5 _ _;exact⟨s3,s4,s5,by simp[forL]⟩
 |cons a xs ih=>
  intro L s3 s4 s5 hx hL
  rw[List.length_cons] at hL
  have ho:=ZI S
  obtain⟨a4,a5,e1⟩:=Z1D hS hl (hx a (by simp)) s0 (Hu.Z2 S) L s4 s5 (fun x h=>Hu.Zn.mp h) (by omega)
  have hf:=ZK (fun b=>if a≠b∧(Hu.Z2 S).all (Hu.hd (Hu.Z1 a b))=true then some (Hu.Z1 a b) else none) (Hu.Z2 S)
  obtain⟨s3',Cr,Py,e2⟩:=ih (L++(Hu.Z2 S).filterMap fun b=>if a≠b∧(Hu.Z2 S).all (Hu.hd (Hu.Z1 a b))=true then some (Hu.Z1 a b) else none) (.sh (pt a)) a4 a5 (fun x h=>hx x (List.mem_cons_of_mem _ h)) (by rw[List.length_append];omega)
  refine⟨s3',Cr,Py,?_⟩
  have hb:rQ [s0,.ow (L.map dw),.sh (.lst ((Hu.Z2 S).map pt)),.sh (pt a),s4,s5]=.ok .nx [s0,.ow ((L++(Hu.Z2 S).filterMap fun b=>if a≠b∧(Hu.Z2 S).all (Hu.hd (Hu.Z1 a b))=true then some (Hu.Z1 a b) else none).map dw),.sh (.lst ((Hu.Z2 S).map pt)),.sh (pt a),a4,a5]:=by
   unfold rQ
   simp only[Uk,wW,List.getElem?_cons_succ,List.getElem?_cons_zero,Res.ż]
   exact e1
  rw[List.map_cons,forL]
  simp only[En,List.set_cons_succ,List.set_cons_zero,hb,Res.ż]
  rw[e2,List.flatMap_cons,List.append_assoc]
theorem Z1F{S:List Hu.Pt}{sl:P.Slot}(hs:Sl sl (S.map pt))(hS:∀p∈S,Sm p)(hl:S.length≤1000):qp [sl]=.ret (.ow ((Hu.ZA S).map dw)):=by
 have h1:=Z25 hs hl
 have ho:=ZI S
 obtain⟨s3,s4,s5,e⟩:=Z1E hS hl sl (Hu.Z2 S) [] .no .no .no (fun x h=>Hu.Zn.mp h) (by simp;omega)
 have he:[]++((Hu.Z2 S).flatMap fun a=>(Hu.Z2 S).filterMap fun b=>if a≠b∧(Hu.Z2 S).all (Hu.hd (Hu.Z1 a b))=true then some (Hu.Z1 a b) else none)=Hu.ZA S:=rfl
 rw[he] at e
 generalize Hu.ZA S=ed at e
 generalize (Hu.Z2 S).map pt=os at e h1
 simp only[List.map_nil] at e
 simp[qp,xV,List.replicate,hs.lend,h1,e]
theorem Z1e(S:List Hu.Pt)(hl:S.length≤1000):(Hu.ZA S).length≤1000000:=by
 have ho:=ZI S
 have:∀(xs:List Hu.Pt) (f:Hu.Pt→List Hu.Ln),(∀x,(f x).length≤1000)→(xs.flatMap f).length≤xs.length*1000:=by
  intro xs f hf
  induction xs with
  |nil=>simp
  |cons x xs ih=>rw[List.flatMap_cons,List.length_append,List.length_cons];have:=hf x;omega
 refine Nat.le_trans (this (Hu.Z2 S) _ fun x=>Nat.le_trans (ZK _ _) (by omega)) (by omega)
theorem Z1G{S:List Hu.Pt}{sl:P.Slot}(hs:Sl sl (S.map pt))(hS:∀p∈S,Sm p)(h0:S≠[])(hl:S.length≤1000):qt [sl]=.ret (.ow ((Hu.Zp S).map dw)):=by
 have h1:=Z2h hs h0 hl
 have h2:=Z1F hs hS hl
 have h3:ĵ (.lst ((Hu.box S).map dw)) (.lst ((Hu.ZA S).map dw))=some (.ow ((Hu.Zp S).map dw)):=by
  rw[add_l (by have:=Z1e S hl;simp[Hu.box];omega),←List.map_append]
  rfl
 simp[qt,xW,List.replicate,hs.lend,h1,h2,h3]
theorem Z1f{S:List Hu.Pt}{l:Hu.Ln}(h:l∈Hu.Zp S)(hS:∀p∈S,Sm p):Z_ l:=by
 rcases List.mem_append.mp h with h|h
 ·unfold Hu.box at h
  simp only[List.mem_cons,List.not_mem_nil,or_false] at h
  rcases h with e|e|e|e<;>subst e<;>simp only[Z_]<;>omega
 ·obtain⟨a,ha,b,hb,_,_,rfl⟩:=Hu.Zv.mp h
  exact Z0K (hS a ha) (hS b hb)
theorem Z0T(n:Nat):fu 0 n 1=(List.range n).map fun(i:Nat)=>PV.int (i:Int):=by
 unfold fu
 refine List.map_congr_left fun i _=>?_
 simp
theorem ZY{n:Nat}(h:n≤1000):bL [.int (n:Int)]=some ((List.range n).map fun(i:Nat)=>PV.int (i:Int)):=by
 have hs:lU (n:Int)=true:=by unfold lU;simp;omega
 unfold bL
 simp[hs,Z0T]
def Z0s:Option Hu.Ln→PV
 |some l=>dw l
 |none=>.non
theorem Z0U{S:List Hu.Pt}{sl:P.Slot}(hs:Sl sl (S.map pt))(hS:∀p∈S,Sm p)(h0:S≠[])(hl:S.length≤1000)(p:Hu.Pt):nC [sl,.sh (pt p)]=.ret (.sh (Z0s (Hu.Zo S p))):=by
 have h1:=Z1G hs hS h0 hl
 have e:(Hu.Zp S).findSome? (fun l=>if Hu.hd l p=true then none else some l)=Hu.Zo S p:=by
  unfold Hu.Zo
  generalize Hu.Zp S=L
  induction L with
  |nil=>rfl
  |cons l L ih=>
   rw[List.findSome?_cons,List.find?_cons]
   cases q:Hu.hd l p with
   |true=>simpa using ih
   |false=>simp
 rcases gj (g:=gN 2) (mb:=rT) dw (fun l=>if Hu.hd l p=true then none else some l) (fun l=>.sh (dw l)) (fun ρ=>∃s2,ρ=[sl,.sh (pt p),s2]) (Hu.Zp S) (by
  rintro l hm ρ ⟨s2,rfl⟩
  refine⟨[sl,.sh (pt p),.sh (dw l)],by simp,?_⟩
  have hh:=Z0r (Z1f hm hS) p
  cases q:Hu.hd l p with
  |true=>
   rw[q] at hh
   exact .inr ⟨[sl,.sh (pt p),.sh (dw l)],by simp,by simp[rT,hh],_,rfl⟩
  |false=>
   rw[q] at hh
   exact .inl ⟨l,[sl,.sh (pt p),.sh (dw l)],by simp,by simp[rT,hh]⟩) [sl,.sh (pt p),.no] ⟨_,rfl⟩ with⟨l,ρ',q1,q2⟩|⟨ρ',q1,q2,_⟩
 ·rw[e] at q1
  rw[q1]
  simp[nC,rW,List.replicate,hs.lend,h1,q2,Z0s]
 ·rw[e] at q1
  rw[q1]
  simp[nC,rW,List.replicate,hs.lend,h1,q2,Z0s]
def oE(q:Nat×Nat):PV:=.tup [.int q.1,.int q.2]
def vY(q:Nat×Nat×Nat):PV:=.tup [.int q.1,.int q.2.1,.int q.2.2]
theorem Z1g(j:Nat)(hj:j≤1000)(acc:List PV)(s0:P.Slot)(ha:acc.length+j≤16777216):nD [s0,.ow acc,.sh (.int j)]=.ok .nx [s0,.ow (acc++((List.range j).map fun i=>(i,j)).map oE),.sh (.int j)]:=by
 have c1:ŗ (gN 1) Ŗ (ŏ (ą (đ 1) (ą (đ 0) ĝ))) ((List.range j).map fun(i:Nat)=>PV.int (i:Int)) [.sh (.int j),.no] []=some (((List.range j).map fun i=>(i,j)).map oE):=by
  have:=Ř (g:=gN 1) (mt:=Ŗ) (me:=ŏ (ą (đ 1) (ą (đ 0) ĝ))) (fun(i:Nat)=>PV.int (i:Int)) (fun i=>oE (i,j)) (fun ρ=>∃s,ρ=[.sh (.int j),s]) (List.range j) [.sh (.int j),.no] [] ⟨_,rfl⟩ (by simp;omega) (by
   rintro x hx ρ ⟨s,rfl⟩
   exact⟨[.sh (.int j),.sh (.int x)],[.sh (.int j),.sh (.int x)],[.sh (.int j),.sh (.int x)],by simp,by simp,by simp[oE],_,rfl⟩)
  rw[this,List.map_map]
  rfl
 have hl:acc.length+(((List.range j).map fun i=>(i,j)).map oE).length≤16777216:=by simpa using ha
 generalize ((List.range j).map fun i=>(i,j)).map oE=qs at c1 hl
 simp[nD,ZY hj,c1,hl]
theorem Z02(k:Nat):Hu.Z7 (k+1)=Hu.Z7 k++(List.range k).map fun i=>(i,k):=by
 unfold Hu.Z7
 rw[List.range_succ,List.flatMap_append]
 simp
theorem ZB:∀n,(Hu.Z7 n).length≤n*n
 |0=>by simp[Hu.Z7]
 |n+1=>by
  have:=ZB n
  rw[Z02,List.length_append,List.length_map,List.length_range,Nat.succ_mul,Nat.mul_succ]
  omega
theorem ZM(k:Nat):Hu.Z8 (k+1)=Hu.Z8 k++(Hu.Z7 k).map fun q=>(q.1,q.2,k):=by
 unfold Hu.Z8
 rw[List.range_succ,List.flatMap_append]
 simp
theorem ZJ{g:Tg}{mb:M Fl}(nb:∀ρ ρ',mb ρ≠ .ok .bk ρ'):∀(xs ys:List PV) (ρ ρ1:Ő),forL g mb xs ρ=.ok .nx ρ1→forL g mb (xs++ys) ρ=forL g mb ys ρ1
 | [],ys,ρ,ρ1,h=>by
   have e:Res.ok Fl.nx ρ=.ok .nx ρ1:=h
   cases e
   rfl
 |x::xs,ys,ρ,ρ1,h=>by
  rw[List.cons_append,forL]
  rw[forL] at h
  cases e:g x ρ with
  |none=>rw[e] at h;cases h
  |some ρ2=>
   rw[e] at h
   dsimp only at h ⊢
   cases e2:mb ρ2 with
   |bad=>rw[e2] at h;cases h
   |exc x ρ3=>rw[e2] at h;cases h
   |ok f ρ3=>
    rw[e2] at h
    cases f with
    |nx=>exact ZJ nb xs ys ρ3 ρ1 h
    |ct=>exact ZJ nb xs ys ρ3 ρ1 h
    |bk=>exact absurd e2 (nb ρ2 ρ3)
    |rt r=>cases h
theorem Z0t{g:Tg}{mb:M Fl}{p:PV}{ρ ρ1 ρ2:Ő}(h1:g p ρ=some ρ1)(h2:mb ρ1=.ok .nx ρ2):forL g mb [p] ρ=.ok .nx ρ2:=by
 rw[forL,h1]
 dsimp only
 rw[h2]
 rfl
theorem Z1h{i:Nat}{mo:M RV}{ρ ρ':Ő}:xq i mo ρ≠ .ok .bk ρ':=by
 unfold xq
 intro h
 split at h
 ·cases e:mo ρ with
  |bad=>rw[e] at h;cases h
  |exc x ρ1=>rw[e] at h;cases h
  |ok r ρ1=>
   rw[e] at h
   simp only[Res.ż] at h
   split at h
   ·split at h<;>cases h
   ·cases h
 ·cases h
theorem Z0u(n:Nat)(hn:n≤100):jQ [.sh (.int n)]=.ret (.ow ((Hu.Z7 n).map oE)):=by
 have key:∀k,k≤n→∃s2,forL (gN 2) nD ((List.range k).map fun(i:Nat)=>PV.int (i:Int)) [.sh (.int n),.ow [],.no]=.ok .nx [.sh (.int n),.ow ((Hu.Z7 k).map oE),s2]:=by
  intro k
  induction k with
  |zero=>intro _;exact⟨.no,rfl⟩
  |succ k ih=>
   intro hk
   obtain⟨s2,e⟩:=ih (by omega)
   refine⟨.sh (.int k),?_⟩
   rw[List.range_succ,List.map_append,ZJ (mb:=nD) (fun _ _=>Z1h) _ _ _ _ e,Z02,List.map_append]
   have hlen:=ZB k
   have hm:k*k≤100*100:=Nat.mul_le_mul (by omega) (by omega)
   exact Z0t rfl (Z1g k (by omega) ((Hu.Z7 k).map oE) (.sh (.int n)) (by rw[List.length_map];omega))
 obtain⟨s2,e⟩:=key n (Nat.le_refl n)
 have hr:=ZY (show n≤1000 by omega)
 simp[jQ,xX,List.replicate,hr,e]
theorem Z0E(k:Nat)(hk:k≤100)(acc:List PV)(s0:P.Slot)(ha:acc.length≤10000000):vL [s0,.ow acc,.sh (.int k)]=.ok .nx [s0,.ow (acc++((Hu.Z7 k).map fun q=>(q.1,q.2,k)).map vY),.sh (.int k)]:=by
 have hlen:=ZB k
 have hm:k*k≤100*100:=Nat.mul_le_mul (by omega) (by omega)
 have c1:ŗ (gN 1) Ŗ (ŏ (ą (Ć ę (ā 1) (mC (.int 0))) (ą (Ć ę (ā 1) (mC (.int 1))) (ą (đ 0) ĝ)))) ((Hu.Z7 k).map oE) [.sh (.int k),.no] []=some (((Hu.Z7 k).map fun q=>(q.1,q.2,k)).map vY):=by
  have:=Ř (g:=gN 1) (mt:=Ŗ) (me:=ŏ (ą (Ć ę (ā 1) (mC (.int 0))) (ą (Ć ę (ā 1) (mC (.int 1))) (ą (đ 0) ĝ)))) oE (fun q=>vY (q.1,q.2,k)) (fun ρ=>∃s,ρ=[.sh (.int k),s]) (Hu.Z7 k) [.sh (.int k),.no] [] ⟨_,rfl⟩ (by simp;omega) (by
   rintro x hx ρ ⟨s,rfl⟩
   exact⟨[.sh (.int k),.sh (oE x)],[.sh (.int k),.sh (oE x)],[.sh (.int k),.sh (oE x)],by simp,by simp,by simp[oE,vY],_,rfl⟩)
  rw[this,List.map_map]
  rfl
 have hl:acc.length+(((Hu.Z7 k).map fun q=>(q.1,q.2,k)).map vY).length≤16777216:=by simp;omega
 have hp:=Z0u k hk
 generalize ((Hu.Z7 k).map fun q=>(q.1,q.2,k)).map vY=qs at c1 hl
 simp[vL,hp,c1,hl]
theorem ZV:∀n,n≤100→(Hu.Z8 n).length≤n*10000
 |0,_=>by simp[Hu.Z8]
 |n+1,h=>by
  have:=ZV n (by omega)
  have h2:=ZB n
  have hm:n*n≤100*100:=Nat.mul_le_mul (by omega) (by omega)
  rw[ZM,List.length_append,List.length_map]
  omega
theorem Z0V(n:Nat)(hn:n≤100):BZ [.sh (.int n)]=.ret (.ow ((Hu.Z8 n).map vY)):=by
 have key:∀k,k≤n→∃s2,forL (gN 2) vL ((List.range k).map fun(i:Nat)=>PV.int (i:Int)) [.sh (.int n),.ow [],.no]=.ok .nx [.sh (.int n),.ow ((Hu.Z8 k).map vY),s2]:=by
  intro k
  induction k with
  |zero=>intro _;exact⟨.no,rfl⟩
  |succ k ih=>
   intro hk
   obtain⟨s2,e⟩:=ih (by omega)
   refine⟨.sh (.int k),?_⟩
   rw[List.range_succ,List.map_append,ZJ (mb:=vL) (fun _ _=>Z1h) _ _ _ _ e,ZM,List.map_append]
   have hlen:=ZV k (by omega)
   exact Z0t rfl (Z0E k (by omega) ((Hu.Z8 k).map vY) (.sh (.int n)) (by rw[List.length_map];omega))
 obtain⟨s2,e⟩:=key n (Nat.le_refl n)
 have hr:=ZY (show n≤1000 by omega)
 simp[BZ,Gm,List.replicate,hr,e]
def W(x:Int):Prop:=-100000000000000000000000000000000000000000000000000<x∧x<100000000000000000000000000000000000000000000000000
theorem W.bits{x:Int}(h:W x):bits x≤200:=lE (n:=200) (by have:=h.1;omega) (by have:=h.2;omega)
theorem dif{a b:Int}(h1: -100000000000000000≤a)(h2:a≤100000000000000000)(h3: -100000000000000000≤b)(h4:b≤100000000000000000): -200000000000000000≤a-b∧a-b≤200000000000000000:=by omega
theorem Z07{a b c d:Int}(h1: -c≤a)(h2:a≤c)(h3: -d≤b)(h4:b≤d)(hc:0≤c)(hd:0≤d): -(c*d)≤a*b∧a*b≤c*d:=by
 have e1:(a*b).natAbs=a.natAbs*b.natAbs:=Int.natAbs_mul a b
 have e2:a.natAbs*b.natAbs≤c.natAbs*d.natAbs:=Nat.mul_le_mul (by omega) (by omega)
 have e3:(c*d).natAbs=c.natAbs*d.natAbs:=Int.natAbs_mul c d
 have e4:0≤c*d:=Int.mul_nonneg hc hd
 omega
theorem ZN{a b c:Hu.Pt}(ha:Sm a)(hb:Sm b)(hc:Sm c):gK [.sh (pt a),.sh (pt b),.sh (pt c)]=.ret (.sh (.int (Hu.tn a b c))):=by
 obtain⟨a1,a2,a3,a4⟩:=ha
 obtain⟨b1,b2,b3,b4⟩:=hb
 obtain⟨c1,c2,c3,c4⟩:=hc
 have m1:ň (b.1-a.1) (c.2-a.2)=true:=Ź (by omega) (by omega)
 have m2:ň (b.2-a.2) (c.1-a.1)=true:=Ź (by omega) (by omega)
 simp[gK,xY,List.replicate,pt,Hu.tn,m1,m2]
theorem Z1H{a b c:Hu.Pt}(ha:Sm a)(hb:Sm b)(hc:Sm c): -80000000000000000000000000000000000≤Hu.tn a b c∧Hu.tn a b c≤80000000000000000000000000000000000:=by
 obtain⟨a1,a2,a3,a4⟩:=ha
 obtain⟨b1,b2,b3,b4⟩:=hb
 obtain⟨c1,c2,c3,c4⟩:=hc
 obtain⟨x1,x2⟩:=dif b1 b2 a1 a2
 obtain⟨y1,y2⟩:=dif c3 c4 a3 a4
 obtain⟨z1,z2⟩:=dif b3 b4 a3 a4
 obtain⟨w1,w2⟩:=dif c1 c2 a1 a2
 obtain⟨p1,p2⟩:=Z07 x1 x2 y1 y2 (by decide) (by decide)
 obtain⟨q1,q2⟩:=Z07 z1 z2 w1 w2 (by decide) (by decide)
 unfold Hu.tn
 omega
theorem Z1I{a b c p:Hu.Pt}(ha:Sm a)(hb:Sm b)(hc:Sm c)(hp:Sm p):Cd [.sh (.lst [pt a,pt b,pt c]),.sh (pt p)]=.ret (.ow ((Hu.kO a b c p).map .int)):=by
 simp[Cd,Gp,List.replicate,ZN hp hb hc,ZN ha hp hc,ZN ha hb hp,Hu.kO]
theorem Z2i{a b p:Hu.Pt}(ha:Sm a)(hb:Sm b)(hp:Sm p):qu [.sh (.lst [pt a,pt b]),.sh (pt p)]=.ret (.ow ((Hu.gk a b p).map .int)):=by
 obtain⟨a1,a2,a3,a4⟩:=ha
 obtain⟨b1,b2,b3,b4⟩:=hb
 obtain⟨c1,c2,c3,c4⟩:=hp
 have m1:∀x,ň (b.1-a.1) x=true:=fun x=>Ź (by omega) (by omega)
 have m2:∀x,ň (b.2-a.2) x=true:=fun x=>Ź (by omega) (by omega)
 simp[qu,xZ,List.replicate,pt,Hu.gk,m1,m2]
theorem Z2w{a b c p:Hu.Pt}(ha:Sm a)(hb:Sm b)(hc:Sm c)(hp:Sm p):∀s∈Hu.kO a b c p,-400000000000000000000000000000000000≤s∧s≤400000000000000000000000000000000000:=by
 have h1:=Z1H hp hb hc
 have h2:=Z1H ha hp hc
 have h3:=Z1H ha hb hp
 intro s hs
 simp only[Hu.kO,List.mem_cons,List.not_mem_nil,or_false] at hs
 rcases hs with e|e|e<;>omega
theorem Z2x{a b p:Hu.Pt}(ha:Sm a)(hb:Sm b)(hp:Sm p):∀s∈Hu.gk a b p,-400000000000000000000000000000000000≤s∧s≤400000000000000000000000000000000000:=by
 obtain⟨a1,a2,a3,a4⟩:=ha
 obtain⟨b1,b2,b3,b4⟩:=hb
 obtain⟨c1,c2,c3,c4⟩:=hp
 obtain⟨x1,x2⟩:=dif b1 b2 a1 a2
 obtain⟨z1,z2⟩:=dif b3 b4 a3 a4
 obtain⟨y1,y2⟩:=dif c1 c2 a1 a2
 obtain⟨w1,w2⟩:=dif c3 c4 a3 a4
 obtain⟨p1,p2⟩:=Z07 x1 x2 y1 y2 (by decide) (by decide)
 obtain⟨q1,q2⟩:=Z07 z1 z2 w1 w2 (by decide) (by decide)
 obtain⟨r1,r2⟩:=Z07 x1 x2 x1 x2 (by decide) (by decide)
 obtain⟨t1,t2⟩:=Z07 z1 z2 z1 z2 (by decide) (by decide)
 intro s hs
 simp only[Hu.gk,List.mem_cons,List.not_mem_nil,or_false] at hs
 rcases hs with e|e<;>omega
def Xn(w:List Int):Prop:=w.length≤3∧∀s∈w,-400000000000000000000000000000000000≤s∧s≤400000000000000000000000000000000000
theorem Xn.sum{w:List Int}(h:Xn w): -2000000000000000000000000000000000000≤w.sum∧w.sum≤2000000000000000000000000000000000000:=by
 obtain⟨h1,h2⟩:=h
 match w,h1,h2 with
 | [],_,_=>simp
 | [a],_,h2=>have:=h2 a (by simp);simp;omega
 | [a,b],_,h2=>have:=h2 a (by simp);have:=h2 b (by simp);simp;omega
 | [a,b,c],_,h2=>have:=h2 a (by simp);have:=h2 b (by simp);have:=h2 c (by simp);simp;omega
theorem Zu{x:Int}(h1: -2000000000000000000000000000000000000≤x)(h2:x≤2000000000000000000000000000000000000):bits x≤200:=lE (n:=200) (by omega) (by omega)
theorem Z1U{w:List Int}(h:Xn w){sl:P.Slot}(hs:Sl sl (w.map .int)):iY [sl]=.ret (.sh (.bl (Hu.Zh w))):=by
 obtain⟨s1,s2⟩:=h.sum
 have hb:=Zu s1 s2
 have c1:ŗ (gN 1) Ŗ (Ć Ed (Ć Ğ (ā 1) (ā 0)) (mC (.int 0))) (w.map .int) [.sh (.int w.sum),.no] []=some ((w.map fun s=>decide (0≤s*w.sum)).map .bl):=by
  have:=Ř (g:=gN 1) (mt:=Ŗ) (me:=Ć Ed (Ć Ğ (ā 1) (ā 0)) (mC (.int 0))) PV.int (fun s=>.bl (decide (0≤s*w.sum))) (fun ρ=>∃s,ρ=[.sh (.int w.sum),s]) w [.sh (.int w.sum),.no] [] ⟨_,rfl⟩ (by have:=h.1;simp;omega) (by
   rintro x hx ρ ⟨s,rfl⟩
   have hx':=h.2 x hx
   have hm:ň x w.sum=true:=Ep (Nat.le_trans (Zu (by omega) (by omega)) (by decide)) (Nat.le_trans hb (by decide))
   exact⟨[.sh (.int w.sum),.sh (.int x)],[.sh (.int w.sum),.sh (.int x)],[.sh (.int w.sum),.sh (.int x)],by simp,by simp,by simp[hm],_,rfl⟩)
  rw[this,List.map_map]
  rfl
 have c2:=Z01 (w.map fun s=>decide (0≤s*w.sum))
 have c3:(w.map fun s=>decide (0≤s*w.sum)).all id=w.all fun s=>decide (0≤s*w.sum):=by simp
 rw[c3] at c2
 unfold Hu.Zh
 have hsum:mK [.lst (w.map .int)]=some (.int w.sum):=by simp
 unfold Sl at hs
 generalize (w.map fun s=>decide (0≤s*w.sum)).map PV.bl=bs at c1 c2
 generalize (w.all fun s=>decide (0≤s*w.sum))=q at c2
 generalize w.map PV.int=ws at c1 hsum hs
 generalize w.sum=S at c1 hsum
 by_cases h0:S=0
 ·subst h0
  rcases hs with rfl|rfl<;>simp[iY,su,List.replicate,-aO,hsum]
 ·rcases hs with rfl|rfl<;>simp[iY,su,List.replicate,-aO,hsum,c1,c2,h0]
theorem Z1V(x y:Int):B_ [.sh (.int x),.sh (.int y)]=.ret (.sh (.int (My.gd x y))):=by
 obtain⟨⟨u,v,r⟩,e1,e2,e3⟩:=mq (mc:=(cG (Ć cu (ā 1) (mC (.int 0))))) (mb:=(Ħ (Ņ 2 (Š (Ć ŕ (ā 0) (ā 1)))) (Ħ (Ņ 0 (Š (đ 1))) (Ņ 1 (Š (đ 2))))))
  (fun b:Int×Int×P.Slot=>[.sh (.int b.1),.sh (.int b.2.1),b.2.2]) (fun b=>My.gd b.1 b.2.1=My.gd x y) (fun b=>b.2.1.natAbs) (b:=(x,y,.no)) (by
    rintro ⟨u,v,r⟩ e
    by_cases hv:v=0
    ·left;simp[hv]
    ·right;exact⟨by simp[hv],(v,u.fmod v,.sh (.int (u.fmod v))),by simp[hv],(My.Z0G u v).trans e,My.Z0H u hv⟩) rfl
 have hv:v=0:=by simpa using e3
 subst hv
 have e1':Qh [.sh (.int x),.sh (.int y),.no]=_:=e1
 simp[B_,Gn,List.replicate,e1',←e2,My.Z0I]
theorem Z26(t:Int){b:Int}{n:Nat}(h:b≠0)(hb:bits b≤n):bits (My.gd t b)≤n:=by
 refine intBits_le_of_natAbs ?_ hb
 have h1:=My.Z2q t h
 have h2:=My.Z10 t b
 omega
def rt(t b:Int):Int×Int:=(t.fdiv (My.dv t b),b.fdiv (My.dv t b))
theorem Z0v{t b:Int}(h:b≠0)(hz:bits b≤8000):fK [.sh (.int t),.sh (.int b)]=.ret (.sh (pt (rt t b))):=by
 have g1:=Z26 t h hz
 have g0:=My.Z0j t h
 by_cases hn:b<0
 ·have e:My.dv t b= - My.gd t b:=if_pos hn
  have c:∀i,cX i (- My.gd t b)=true:=fun i=>mj (by omega) (intBits_neg_le g1)
  simp[fK,rY,List.replicate,h,Z1V,hn,c,e,pt,rt]
 ·have e:My.dv t b=My.gd t b:=if_neg hn
  have c:∀i,cX i (My.gd t b)=true:=fun i=>mj (by omega) g1
  simp[fK,rY,List.replicate,h,Z1V,hn,c,e,pt,rt]
theorem ZO{w:List Int}{q:List Nat}{n:Nat}(hw:Xn w)(h0:w.sum≠0)(hl:w.length=q.length)(hq:∀i∈q,i<n)(hn:n≤100){s0 s1:P.Slot}(hs0:Sl s0 (w.map .int))(hs1:s1=.sh (.lst (q.map fun(i:Nat)=>.int (i:Int)))∨s1=.sh (.tup (q.map fun(i:Nat)=>.int (i:Int)))) :
 dj [s0,s1,.sh (.int n)]=.ret (.ow ((Fr.lay (List.replicate n 0) (w.zip q)).map fun s=>pt (rt s w.sum))):=by
 obtain⟨b1,b2⟩:=hw.sum
 have hb:=Nat.le_trans (Zu b1 b2) (show 200≤8000 by decide)
 have hsum:mK [.lst (w.map .int)]=some (.int w.sum):=by simp
 have c1:ŗ (gN 1) Ŗ (Ě (Ġ fK (ħ (mC (.int 0)) (Ċ 0 ĕ)))) ((List.range n).map fun(i:Nat)=>PV.int (i:Int)) [.sh (.int w.sum),.no] []=some ((List.replicate n (0:Int)).map fun s=>pt (rt s w.sum)):=by
  have:=Ř (g:=gN 1) (mt:=Ŗ) (me:=Ě (Ġ fK (ħ (mC (.int 0)) (Ċ 0 ĕ)))) (fun(i:Nat)=>PV.int (i:Int)) (fun _=>pt (rt 0 w.sum)) (fun ρ=>∃s,ρ=[.sh (.int w.sum),s]) (List.range n) [.sh (.int w.sum),.no] [] ⟨_,rfl⟩ (by simp;omega) (by
   rintro x hx ρ ⟨s,rfl⟩
   exact⟨[.sh (.int w.sum),.sh (.int x)],[.sh (.int w.sum),.sh (.int x)],[.sh (.int w.sum),.sh (.int x)],by simp,by simp,by simp[Z0v h0 hb],_,rfl⟩)
  rw[this]
  simp[List.map_const']
 have hz:iU (w.map .int) (q.map fun(i:Nat)=>PV.int (i:Int))=(w.zip q).map fun a=>.tup [.int a.1,.int (a.2:Int)]:=by
  clear hw h0 hl hq hs0 hs1 hsum c1 hb b1 b2
  induction w generalizing q with
  |nil=>simp[iU]
  |cons x w ih=>
   cases q with
   |nil=>simp[iU]
   |cons i q=>simp[iU,ih]
 have loop:∀s0' s1',∃ρ',forL (gT 2 (ě (gN 5) (ě (gN 6) Ŧ))) rZ ((w.zip q).map fun a=>.tup [.int a.1,.int (a.2:Int)]) [s0',s1',.sh (.int n),.sh (.int w.sum),.ow ((List.replicate n (0:Int)).map fun s=>pt (rt s w.sum)),.no,.no]=.ok .nx ρ'∧ρ'[4]?=some (.ow ((Fr.lay (List.replicate n 0) (w.zip q)).map fun s=>pt (rt s w.sum))):=by
  intro s0' s1'
  obtain⟨ρ',e,s5,s6,hρ,_⟩:=pQ (g:=gT 2 (ě (gN 5) (ě (gN 6) Ŧ))) (mb:=rZ) (fun a:Int×Nat=>.tup [.int a.1,.int (a.2:Int)]) (fun acc a=>acc.set a.2 a.1)
   (fun acc ρ=>∃s5 s6,ρ=[s0',s1',.sh (.int n),.sh (.int w.sum),.ow (acc.map fun s=>pt (rt s w.sum)),s5,s6]∧acc.length=n) (w.zip q) (by
     rintro ⟨x,i⟩ hx acc ρ ⟨s5,s6,rfl,hlen⟩
     have hi:i<n:=hq i (List.of_mem_zip hx).2
     have hix:wJ acc.length (i:Int)=some i:=by
      unfold wJ
      rw[if_pos (by omega),if_pos (by omega)]
      simp
     refine⟨[s0',s1',.sh (.int n),.sh (.int w.sum),.ow (acc.map fun s=>pt (rt s w.sum)),.sh (.int x),.sh (.int i)],[s0',s1',.sh (.int n),.sh (.int w.sum),.ow ((acc.set i x).map fun s=>pt (rt s w.sum)),.sh (.int x),.sh (.int i)],by simp,?_,_,_,rfl,by simpa using hlen⟩
     simp[rZ,Z0v h0 hb,hix,List.map_set]) (List.replicate n 0) [s0',s1',.sh (.int n),.sh (.int w.sum),.ow ((List.replicate n (0:Int)).map fun s=>pt (rt s w.sum)),.no,.no] ⟨_,_,rfl,by simp⟩
  refine⟨ρ',e,?_⟩
  subst hρ
  rfl
 have hr:=ZY (show n≤1000 by omega)
 generalize (List.replicate n (0:Int)).map (fun s=>pt (rt s w.sum))=zs at c1 loop
 generalize (Fr.lay (List.replicate n 0) (w.zip q)).map (fun s=>pt (rt s w.sum))=rs at loop
 generalize ((w.zip q).map fun a=>PV.tup [.int a.1,.int (a.2:Int)])=ls at hz loop
 generalize w.map PV.int=ws at hs0 hsum hz
 generalize w.sum=S at hsum c1 loop
 generalize (q.map fun(i:Nat)=>PV.int (i:Int))=qs at hz hs1
 rcases hs0 with rfl|rfl<;>rcases hs1 with rfl|rfl
 ·obtain⟨ρ',e,e4⟩:=loop (.sh (.lst ws)) (.sh (.lst qs))
  simp[dj,jA,List.replicate,-aO,hsum,hr,c1,hz,BL,e,e4]
 ·obtain⟨ρ',e,e4⟩:=loop (.sh (.lst ws)) (.sh (.tup qs))
  simp[dj,jA,List.replicate,-aO,hsum,hr,c1,hz,BL,e,e4]
 ·obtain⟨ρ',e,e4⟩:=loop (.bw ws) (.sh (.lst qs))
  simp[dj,jA,List.replicate,-aO,hsum,hr,c1,hz,BL,e,e4]
 ·obtain⟨ρ',e,e4⟩:=loop (.bw ws) (.sh (.tup qs))
  simp[dj,jA,List.replicate,-aO,hsum,hr,c1,hz,BL,e,e4]
def Cj(S:List Hu.Pt)(r:List Int×List Nat):List PV:=(Fr.lay (List.replicate S.length 0) (r.1.zip r.2)).map fun s=>pt (rt s r.1.sum)
theorem dG{S:List Hu.Pt}{i:Nat}(h:i<S.length):(S.map pt)[i]?=some (pt (Hu.at_ S i)):=by
 unfold Hu.at_
 rw[List.getElem?_map,List.getD_eq_getElem?_getD,List.getElem?_eq_getElem h]
 rfl
theorem Z2y{S:List Hu.Pt}{sl:P.Slot}(hs:Sl sl (S.map pt)){i j k:Nat}(hi:i<S.length)(hj:j<S.length)(hk:k<S.length)(s3:P.Slot):ŗ (gN 1) Ŗ (Ć ę (ā 0) (ā 1)) [.int (i:Int),.int (j:Int),.int (k:Int)] [sl,s3] []=some [pt (Hu.at_ S i),pt (Hu.at_ S j),pt (Hu.at_ S k)]:=by
 rcases hs with rfl|rfl<;>simp[ŗ,dG hi,dG hj,dG hk,-List.getElem?_map]
theorem Z2z{S:List Hu.Pt}{sl:P.Slot}(hs:Sl sl (S.map pt)){i j:Nat}(hi:i<S.length)(hj:j<S.length)(s3:P.Slot):ŗ (gN 1) Ŗ (Ć ę (ā 0) (ā 1)) [.int (i:Int),.int (j:Int)] [sl,s3] []=some [pt (Hu.at_ S i),pt (Hu.at_ S j)]:=by
 rcases hs with rfl|rfl<;>simp[ŗ,dG hi,dG hj,-List.getElem?_map]
theorem Sl.cap{s:P.Slot}{ps:List PV}(h:Sl s ps):ud s=s:=by rcases h with rfl|rfl<;>rfl
theorem Z1i{a b c p:Hu.Pt}(ha:Sm a)(hb:Sm b)(hc:Sm c)(hp:Sm p):Xn (Hu.kO a b c p):=⟨by simp[Hu.kO],Z2w ha hb hc hp⟩
theorem Z1j{a b p:Hu.Pt}(ha:Sm a)(hb:Sm b)(hp:Sm p):Xn (Hu.gk a b p):=⟨by simp[Hu.gk],Z2x ha hb hp⟩
theorem Z0W{S:List Hu.Pt}{sl:P.Slot}(hs:Sl sl (S.map pt))(hS:∀p∈S,Sm p)(h0:S≠[])(hl:S.length≤100){p:Hu.Pt}(hp:Sm p):jR [sl,.sh (pt p)]=.ret (.ow (Cj S (Hu.Za S p))):=by
 have hat:∀i,i<S.length→Sm (Hu.at_ S i):=fun i h=>hS _ (Hu.ZF h)
 have ht:=Z0V S.length hl
 have hpr:=Z0u S.length hl
 have hlen:dO [.lst (S.map pt)]=some (.int S.length):=by simp
 have F3:=gj (g:=gN 3) (mb:=sE) vY (fun q=>if Hu.Zh (Hu.kO (Hu.at_ S q.1) (Hu.at_ S q.2.1) (Hu.at_ S q.2.2) p)=true then some (Hu.kO (Hu.at_ S q.1) (Hu.at_ S q.2.1) (Hu.at_ S q.2.2) p,[q.1,q.2.1,q.2.2]) else none) (fun r=>.ow (Cj S r)) (fun ρ=>∃s3 s4,ρ=[sl,.sh (pt p),.sh (.int S.length),s3,s4]) (Hu.Z8 S.length) (by
  rintro ⟨i,j,k⟩ hm ρ ⟨s3,s4,rfl⟩
  obtain⟨h1,h2,h3⟩:=Hu.Z9.mp hm
  have hi:i<S.length:=by omega
  have hj:j<S.length:=by omega
  have hb:=Z1i (hat i hi) (hat j hj) (hat k h3) hp
  have e1:=Z1I (hat i hi) (hat j hj) (hat k h3) hp
  have e2:=Z1U hb (sl:=.bw ((Hu.kO (Hu.at_ S i) (Hu.at_ S j) (Hu.at_ S k) p).map .int)) (.inr rfl)
  have e0:=Z2y hs hi hj h3 .no
  refine⟨[sl,.sh (pt p),.sh (.int S.length),.sh (vY (i,j,k)),s4],rfl,?_⟩
  cases q:Hu.Zh (Hu.kO (Hu.at_ S i) (Hu.at_ S j) (Hu.at_ S k) p) with
  |true=>
   left
   have hg:=Hu.Zr.mp q
   have e3:=ZO (q:=[i,j,k]) (n:=S.length) hb hg.1 rfl (by simp;omega) hl (s0:=.bw ((Hu.kO (Hu.at_ S i) (Hu.at_ S j) (Hu.at_ S k) p).map .int)) (s1:=.sh (.tup [.int i,.int j,.int k])) (.inr rfl) (.inr rfl)
   rw[q] at e2
   refine⟨_,[sl,.sh (pt p),.sh (.int S.length),.sh (vY (i,j,k)),.ow ((Hu.kO (Hu.at_ S i) (Hu.at_ S j) (Hu.at_ S k) p).map .int)],rfl,?_⟩
   generalize Hu.kO (Hu.at_ S i) (Hu.at_ S j) (Hu.at_ S k) p=w at *
   generalize hws:w.map PV.int=ws at *
   simp[sE,vY,hs.cap,e0,e1,e2,e3,Cj]
  |false=>
   right
   rw[q] at e2
   refine⟨[sl,.sh (pt p),.sh (.int S.length),.sh (vY (i,j,k)),.ow ((Hu.kO (Hu.at_ S i) (Hu.at_ S j) (Hu.at_ S k) p).map .int)],rfl,?_,_,_,rfl⟩
   generalize Hu.kO (Hu.at_ S i) (Hu.at_ S j) (Hu.at_ S k) p=w at *
   generalize hws:w.map PV.int=ws at *
   simp[sE,vY,hs.cap,e0,e1,e2])
 have F2:=gj (g:=gN 3) (mb:=sy) oE (fun q=>if Hu.Zh (Hu.gk (Hu.at_ S q.1) (Hu.at_ S q.2) p)=true then some (Hu.gk (Hu.at_ S q.1) (Hu.at_ S q.2) p,[q.1,q.2]) else none) (fun r=>.ow (Cj S r)) (fun ρ=>∃s3 s4,ρ=[sl,.sh (pt p),.sh (.int S.length),s3,s4]) (Hu.Z7 S.length) (by
  rintro ⟨i,j⟩ hm ρ ⟨s3,s4,rfl⟩
  obtain⟨h1,h2⟩:=Hu.Zs.mp hm
  have hi:i<S.length:=by omega
  have hb:=Z1j (hat i hi) (hat j h2) hp
  have e1:=Z2i (hat i hi) (hat j h2) hp
  have e2:=Z1U hb (sl:=.bw ((Hu.gk (Hu.at_ S i) (Hu.at_ S j) p).map .int)) (.inr rfl)
  have e0:=Z2z hs hi h2 .no
  refine⟨[sl,.sh (pt p),.sh (.int S.length),.sh (oE (i,j)),s4],rfl,?_⟩
  cases q:Hu.Zh (Hu.gk (Hu.at_ S i) (Hu.at_ S j) p) with
  |true=>
   left
   have hg:=Hu.Zr.mp q
   have e3:=ZO (q:=[i,j]) (n:=S.length) hb hg.1 rfl (by simp;omega) hl (s0:=.bw ((Hu.gk (Hu.at_ S i) (Hu.at_ S j) p).map .int)) (s1:=.sh (.tup [.int i,.int j])) (.inr rfl) (.inr rfl)
   rw[q] at e2
   refine⟨_,[sl,.sh (pt p),.sh (.int S.length),.sh (oE (i,j)),.ow ((Hu.gk (Hu.at_ S i) (Hu.at_ S j) p).map .int)],rfl,?_⟩
   generalize Hu.gk (Hu.at_ S i) (Hu.at_ S j) p=w at *
   generalize hws:w.map PV.int=ws at *
   simp[sy,oE,hs.cap,e0,e1,e2,e3,Cj]
  |false=>
   right
   rw[q] at e2
   refine⟨[sl,.sh (pt p),.sh (.int S.length),.sh (oE (i,j)),.ow ((Hu.gk (Hu.at_ S i) (Hu.at_ S j) p).map .int)],rfl,?_,_,_,rfl⟩
   generalize Hu.gk (Hu.at_ S i) (Hu.at_ S j) p=w at *
   generalize hws:w.map PV.int=ws at *
   simp[sy,oE,hs.cap,e0,e1,e2])
 have e3:(Hu.Z8 S.length).findSome? (fun q=>if Hu.Zh (Hu.kO (Hu.at_ S q.1) (Hu.at_ S q.2.1) (Hu.at_ S q.2.2) p)=true then some (Hu.kO (Hu.at_ S q.1) (Hu.at_ S q.2.1) (Hu.at_ S q.2.2) p,[q.1,q.2.1,q.2.2]) else none)=Hu.Z0k S p:=rfl
 have e2:(Hu.Z7 S.length).findSome? (fun q=>if Hu.Zh (Hu.gk (Hu.at_ S q.1) (Hu.at_ S q.2) p)=true then some (Hu.gk (Hu.at_ S q.1) (Hu.at_ S q.2) p,[q.1,q.2]) else none)=Hu.Z0R S p:=rfl
 rw[e3] at F3
 rw[e2] at F2
 have e1:=ZO (w:=[1]) (q:=[0]) (n:=S.length) ⟨by simp,by simp⟩ (by simp) rfl (by simpa using List.length_pos_iff.mpr h0) hl (s0:=.sh (.lst [.int 1])) (s1:=.sh (.lst [.int 0])) (.inl rfl) (.inl rfl)
 have hw1:(Fr.lay (List.replicate S.length 0) ([1].zip [0])).map (fun s=>pt (rt s [1].sum))=Cj S ([1],[0]):=rfl
 rw[hw1] at e1
 generalize hn:(S.length:Int)=N at *
 generalize (Hu.Z8 S.length).map vY=ts at *
 generalize (Hu.Z7 S.length).map oE=prs at *
 unfold Hu.Za
 rcases F3 [sl,.sh (pt p),.sh (.int N),.no,.no] ⟨_,_,rfl⟩ with⟨r,ρ',q1,q2⟩|⟨ρ',q1,q2,s3,s4,hρ⟩
 ·rw[q1]
  rcases hs with rfl|rfl<;>simp[jR,nF,List.replicate,-fZ,hlen,ht,q2]
 ·subst hρ
  rw[q1]
  rcases F2 [sl,.sh (pt p),.sh (.int N),s3,s4] ⟨_,_,rfl⟩ with⟨r,ρ',q3,q4⟩|⟨ρ',q3,q4,s3',Cr,hρ⟩
  ·rw[q3]
   rcases hs with rfl|rfl<;>simp[jR,nF,List.replicate,-fZ,hlen,ht,hpr,q2,q4]
  ·subst hρ
   rw[q3]
   rcases hs with rfl|rfl<;>simp[jR,nF,List.replicate,-fZ,hlen,ht,hpr,q2,q4,e1]
def Z0i(S:List Hu.Pt)(p:Hu.Pt):PV:=match Hu.Zo S p with
 |some l=>.tup [.str "out",dw l]
 |none=>.tup [.str "in",.lst (Cj S (Hu.Za S p))]
def Zx(S:List Hu.Pt)(p:Hu.Pt):RV:=match Hu.Zo S p with
 |some l=>.sh (.tup [.str "out",dw l])
 |none=>.ot [.str "in"] (Cj S (Hu.Za S p))
theorem Z1k(S:List Hu.Pt)(p:Hu.Pt):(Zx S p).val=Z0i S p:=by
 unfold Zx Z0i
 cases Hu.Zo S p<;>rfl
theorem Z1J{S:List Hu.Pt}{sl:P.Slot}(hs:Sl sl (S.map pt))(hS:∀p∈S,Sm p)(h0:S≠[])(hl:S.length≤100){p:Hu.Pt}(hp:Sm p):nG [sl,.sh (pt p)]=.ret (Zx S p):=by
 have h1:=Z0U hs hS h0 (by omega) p
 have h2:=Z0W hs hS h0 hl hp
 unfold Zx
 cases e:Hu.Zo S p with
 |some l=>
  rw[e] at h1
  simp[nG,sG,List.replicate,hs.lend,h1,Z0s,dw,Uh]
 |none=>
  rw[e] at h1
  simp[nG,sG,List.replicate,hs.lend,h1,Z0s,h2,Uh]
def Rr(s:P.Slot)(ps:List PV):Prop:=s=.sh (.lst ps)∨s=.bw ps
def aF(x:Int):Bool:=decide (-1000000000≤x∧x≤1000000000)
def vV(x:Int):Bool:=decide (1≤x∧x≤1000000000)
def vZ(x:Int):Bool:=decide (0≤x∧x≤1000000000)
theorem ZZ(x:Int):cN [.sh (.int x)]=.ret (.sh (.bl (aF x))):=by
 unfold aF
 by_cases h1: -1000000000≤x<;>by_cases h2:x≤1000000000<;>simp[cN,xO,List.replicate,h1,h2]
theorem Z0c(x:Int):jP [.sh (.int x)]=.ret (.sh (.bl (vV x))):=by
 unfold vV
 by_cases h1:1≤x<;>by_cases h2:x≤1000000000<;>simp[jP,xP,List.replicate,h1,h2]
def Ze:List Int→Bool
 | [p,q,h]=>aF p && aF q && vV h
 |_=>false
def Zf:List Int→Bool
 | [x,y,u,v,h]=>aF x && aF y && aF u && aF v && vV h
 |_=>false
def Zb:List Int→Bool
 | [x,y,u,v,h]=>Zf [x,y,u,v,h] && !(decide (x=u) && decide (y=v))
 |_=>false
def Z6:List Int→Bool
 | [x,y,u,v,h]=>Zf [x,y,u,v,h] && decide (x<u) && decide (y<v)
 |_=>false
def Zc:List Int→Bool
 | [a,b,c,d,e,f,g,h,i]=>aF a && aF b && vZ c && (aF d && aF e && vZ f) && (aF g && aF h && vZ i)
 |_=>false
theorem Z2j(a b c:Bool):lZ [.lst [.bl a,.bl b,.bl c]]=some (.bl (a && b && c)):=by cases a<;>cases b<;>cases c<;>rfl
theorem Z2k(a b c d:Bool):lZ [.lst [.bl a,.bl b,.bl c,.bl d]]=some (.bl (a && b && c && d)):=by cases a<;>cases b<;>cases c<;>cases d<;>rfl
theorem Z0d{xs:List Int}{sl:P.Slot}(hs:Rr sl (xs.map .int)):m_ [sl]=.ret (.sh (.bl (Ze xs))):=by
 by_cases hl:xs.length=3
 ·match xs,hl with
  | [a,b,c],_=>
    have h:Ze [a,b,c]=(aF a && aF b && vV c):=rfl
    rw[h]
    rcases hs with rfl|rfl<;>cases ea:aF a<;>cases eb:aF b<;>cases ec:vV c<;>simp[m_,rG,List.replicate,ZZ,Z0c,ea,eb,ec]
 ·have h:Ze xs=false:=by
   unfold Ze
   split
   ·simp at hl
   ·rfl
  rw[h]
  have hl':¬((xs.length:Nat):Int)=3:=by omega
  rcases hs with rfl|rfl<;>simp[m_,rG,List.replicate,hl']
theorem Z0L{xs:List Int}{sl:P.Slot}(hs:Rr sl (xs.map .int)):iW [sl]=.ret (.sh (.bl (Zf xs))):=by
 by_cases hl:xs.length=5
 ·match xs,hl with
  | [a,b,c,d,e],_=>
    have h:Zf [a,b,c,d,e]=(aF a && aF b && aF c && aF d && vV e):=rfl
    rw[h]
    have hc:jq ([.int a,.int b,.int c,.int d,.int e]:List PV) none (some 4)=[.int a,.int b,.int c,.int d]:=rfl
    have hb:=Z2k (aF a) (aF b) (aF c) (aF d)
    rcases hs with rfl|rfl<;>cases ea:(aF a && aF b && aF c && aF d)<;>cases ec:vV e<;>rw[ea] at hb<;>simp[iW,rK,List.replicate,ZZ,Z0c,hc,ŗ,hb,ec]
 ·have h:Zf xs=false:=by
   unfold Zf
   split
   ·simp at hl
   ·rfl
  rw[h]
  have hl':¬((xs.length:Nat):Int)=5:=by omega
  rcases hs with rfl|rfl<;>simp[iW,rK,List.replicate,hl']
theorem Z2l(a b c d:Int):cu (.lst [.int a,.int b]) (.lst [.int c,.int d])=some (.bl (!(decide (a=c) && decide (b=d)))):=by
 have h:eqB (.lst [.int a,.int b]) (.lst [.int c,.int d])=(decide (a=c) && decide (b=d)):=by
  simp[eqB,gA]
  rw[Bool.eq_iff_iff]
  simp
 unfold cu qR
 rw[h]
 simp[bI,cY,dep,uo]
theorem Z1W{xs:List Int}(hl:¬xs.length=5):Zf xs=false:=by
 unfold Zf
 split
 ·simp at hl
 ·rfl
theorem Z0X{s:P.Slot}{ps:List PV}(h:Rr s ps):cV s=some s:=by rcases h with rfl|rfl<;>rfl
theorem Z1K{xs:List Int}{sl:P.Slot}(hs:Rr sl (xs.map .int)):nu [sl]=.ret (.sh (.bl (Zb xs))):=by
 have he:=Z0L hs
 by_cases hl:xs.length=5
 ·match xs,hl with
  | [a,b,c,d,e],_=>
    have h:Zb [a,b,c,d,e]=(Zf [a,b,c,d,e] && !(decide (a=c) && decide (b=d))):=rfl
    rw[h]
    have h1:jq ([.int a,.int b,.int c,.int d,.int e]:List PV) none (some 2)=[.int a,.int b]:=rfl
    have h2:jq ([.int a,.int b,.int c,.int d,.int e]:List PV) (some 2) (some 4)=[.int c,.int d]:=rfl
    have h3:=Z2l a b c d
    generalize Zf [a,b,c,d,e]=q at *
    generalize (!(decide (a=c) && decide (b=d)))=r at *
    rcases hs with rfl|rfl<;>cases q<;>simp_all [nu,rM,List.replicate]
 ·have h:Zb xs=false:=by
   unfold Zb
   split
   ·simp at hl
   ·rfl
  rw[h]
  rw[Z1W hl] at he
  simp[nu,rM,List.replicate,Z0X hs,he]
theorem Z27{xs:List Int}{sl:P.Slot}(hs:Rr sl (xs.map .int)):rN [sl]=.ret (.sh (.bl (Z6 xs))):=by
 have he:=Z0L hs
 by_cases hl:xs.length=5
 ·match xs,hl with
  | [a,b,c,d,e],_=>
    have h:Z6 [a,b,c,d,e]=(Zf [a,b,c,d,e] && decide (a<c) && decide (b<d)):=rfl
    rw[h]
    generalize Zf [a,b,c,d,e]=q at *
    rcases hs with rfl|rfl<;>simp only[List.map_cons,List.map_nil] at he<;>cases q<;>by_cases h1:a<c<;>by_cases h2:b<d<;>simp[rN,Af,List.replicate,he,h1,h2]
 ·have h:Z6 xs=false:=by
   unfold Z6
   split
   ·simp at hl
   ·rfl
  rw[h]
  rw[Z1W hl] at he
  simp[rN,Af,List.replicate,Z0X hs,he]
theorem ZP(a b c:Int):BX [.sh (.lst [.int a,.int b,.int c])]=.ret (.sh (.bl (aF a && aF b && vZ c))):=by
 unfold vZ
 cases ea:aF a<;>cases eb:aF b<;>by_cases h1:0≤c<;>by_cases h2:c≤1000000000<;>simp[BX,Gk,List.replicate,ZZ,ea,eb,h1,h2]
theorem Z1L{xs:List Int}{sl:P.Slot}(hs:Rr sl (xs.map .int)):nA [sl]=.ret (.sh (.bl (Zc xs))):=by
 by_cases hl:xs.length=9
 ·match xs,hl with
  | [a,b,c,d,e,f,g,h,i],_=>
    have hc:Zc [a,b,c,d,e,f,g,h,i]=((aF a && aF b && vZ c) && (aF d && aF e && vZ f) && (aF g && aF h && vZ i)):=rfl
    rw[hc]
    have h1:jq ([.int a,.int b,.int c,.int d,.int e,.int f,.int g,.int h,.int i]:List PV) (some 0) (some 3)=[.int a,.int b,.int c]:=rfl
    have h2:jq ([.int a,.int b,.int c,.int d,.int e,.int f,.int g,.int h,.int i]:List PV) (some 3) (some 6)=[.int d,.int e,.int f]:=rfl
    have h3:jq ([.int a,.int b,.int c,.int d,.int e,.int f,.int g,.int h,.int i]:List PV) (some 6) (some 9)=[.int g,.int h,.int i]:=rfl
    have hb:=Z2j (aF a && aF b && vZ c) (aF d && aF e && vZ f) (aF g && aF h && vZ i)
    have k1:=ZP a b c
    have k2:=ZP d e f
    have k3:=ZP g h i
    generalize (aF a && aF b && vZ c)=q1 at *
    generalize (aF d && aF e && vZ f)=q2 at *
    generalize (aF g && aF h && vZ i)=q3 at *
    rcases hs with rfl|rfl<;>simp[nA,rP,List.replicate,ŗ,h1,h2,h3,k1,k2,k3,hb]
 ·have h:Zc xs=false:=by
   unfold Zc
   split
   ·simp at hl
   ·rfl
  rw[h]
  have hl':¬((xs.length:Nat):Int)=9:=by omega
  rcases hs with rfl|rfl<;>simp[nA,rP,List.replicate,hl']
def Z4(w:Str):String:=if w= "post" then "Post" else if w= "fence" then "Fence" else if w= "sail" then "Sail" else if w= "cloth" then "Cloth" else "House"
def Z0(C:String)(w:Str)(xs:List Int):PV:=.ins C ["word","numbers"] [.str w,.lst (xs.map .int)]
def Zd(w:Str)(xs:List Int):Bool:=if w= "post" then Ze xs else if w= "fence" then Zb xs else if w= "sail" then Z6 xs else if w= "cloth" then Zc xs else if w= "house" then Z6 xs else false
theorem wn:((Str.ofString "word")=(Str.ofString "numbers"))=False:=eq_false (by decide +kernel)
theorem ZG{C:String}(hC:(["Thing","Post","Fence","Sail","Cloth","House"]:List String).contains C=true)(w:Str){xs:List Int}{sl:P.Slot}(hs:Rr sl (xs.map .int)):dU 3 3 C dX [.sh (.str w),sl]=.ok ["word","numbers"] [.str w,.lst (xs.map .int)]:=by
 rcases hs with rfl|rfl<;>simp[dU,dX,uw,IR.of,List.replicate,putN,wX,hC,wn,-List.contains_eq_mem,-List.contains_cons]
theorem s1:PyData.strOk (Str.ofString "post")=true:=by decide +kernel
theorem s2:PyData.strOk (Str.ofString "fence")=true:=by decide +kernel
theorem s3:PyData.strOk (Str.ofString "sail")=true:=by decide +kernel
theorem s4:PyData.strOk (Str.ofString "cloth")=true:=by decide +kernel
theorem s5:PyData.strOk (Str.ofString "house")=true:=by decide +kernel
theorem d12:(Str.ofString "post" =Str.ofString "fence")=False:=eq_false (by decide +kernel)
theorem d13:(Str.ofString "post" =Str.ofString "sail")=False:=eq_false (by decide +kernel)
theorem d14:(Str.ofString "post" =Str.ofString "cloth")=False:=eq_false (by decide +kernel)
theorem d15:(Str.ofString "post" =Str.ofString "house")=False:=eq_false (by decide +kernel)
theorem d21:(Str.ofString "fence" =Str.ofString "post")=False:=eq_false (by decide +kernel)
theorem d23:(Str.ofString "fence" =Str.ofString "sail")=False:=eq_false (by decide +kernel)
theorem d24:(Str.ofString "fence" =Str.ofString "cloth")=False:=eq_false (by decide +kernel)
theorem d25:(Str.ofString "fence" =Str.ofString "house")=False:=eq_false (by decide +kernel)
theorem d31:(Str.ofString "sail" =Str.ofString "post")=False:=eq_false (by decide +kernel)
theorem d32:(Str.ofString "sail" =Str.ofString "fence")=False:=eq_false (by decide +kernel)
theorem d34:(Str.ofString "sail" =Str.ofString "cloth")=False:=eq_false (by decide +kernel)
theorem d35:(Str.ofString "sail" =Str.ofString "house")=False:=eq_false (by decide +kernel)
theorem d41:(Str.ofString "cloth" =Str.ofString "post")=False:=eq_false (by decide +kernel)
theorem d42:(Str.ofString "cloth" =Str.ofString "fence")=False:=eq_false (by decide +kernel)
theorem d43:(Str.ofString "cloth" =Str.ofString "sail")=False:=eq_false (by decide +kernel)
theorem d45:(Str.ofString "cloth" =Str.ofString "house")=False:=eq_false (by decide +kernel)
theorem d51:(Str.ofString "house" =Str.ofString "post")=False:=eq_false (by decide +kernel)
theorem d52:(Str.ofString "house" =Str.ofString "fence")=False:=eq_false (by decide +kernel)
theorem d53:(Str.ofString "house" =Str.ofString "sail")=False:=eq_false (by decide +kernel)
theorem d54:(Str.ofString "house" =Str.ofString "cloth")=False:=eq_false (by decide +kernel)
theorem Z0w{w:Str}(hw:PyData.strOk w=true){xs:List Int}{sl:P.Slot}(hs:Rr sl (xs.map .int)):dY [.sh (.str w),sl]=if Zd w xs=true then .ret (.sh (Z0 (Z4 w) w xs)) else .exc ⟨"BadThing",[],[]⟩:=by
 have e1:=ņ hw s1
 have e2:=ņ hw s2
 have e3:=ņ hw s3
 have e4:=ņ hw s4
 have e5:=ņ hw s5
 have p1:=Z0d hs
 have p2:=Z1K hs
 have p3:=Z27 hs
 have p4:=Z1L hs
 have i1:rH [.sh (.str w),sl]=_:=ZG (by decide) w hs
 have i2:ni [.sh (.str w),sl]=_:=ZG (by decide) w hs
 have i3:rJ [.sh (.str w),sl]=_:=ZG (by decide) w hs
 have i4:nj [.sh (.str w),sl]=_:=ZG (by decide) w hs
 have i5:nq [.sh (.str w),sl]=_:=ZG (by decide) w hs
 have hle:=Z0X hs
 unfold Zd Z4 Z0
 by_cases h1:w=Str.ofString "post"
 ·have n2:¬w=Str.ofString "fence" := fun z=>(d12▸(h1.symm.trans z):False)
  have n3:¬w=Str.ofString "sail" := fun z=>(d13▸(h1.symm.trans z):False)
  have n4:¬w=Str.ofString "cloth" := fun z=>(d14▸(h1.symm.trans z):False)
  have n5:¬w=Str.ofString "house" := fun z=>(d15▸(h1.symm.trans z):False)
  rw[decide_eq_true h1] at e1
  rw[decide_eq_false n2] at e2
  rw[decide_eq_false n3] at e3
  rw[decide_eq_false n4] at e4
  rw[decide_eq_false n5] at e5
  have hg:(if w=Str.ofString "post" then Ze xs else if w=Str.ofString "fence" then Zb xs else if w=Str.ofString "sail" then Z6 xs else if w=Str.ofString "cloth" then Zc xs else if w=Str.ofString "house" then Z6 xs else false)=Ze xs:=by rw[if_pos h1]
  have hc:(if w=Str.ofString "post" then "Post" else if w=Str.ofString "fence" then "Fence" else if w=Str.ofString "sail" then "Sail" else if w=Str.ofString "cloth" then "Cloth" else "House")= "Post" := by rw[if_pos h1]
  rw[hg,hc]
  cases q:Ze xs<;>rw[q] at p1<;>simp[dY,fJ,dg,List.replicate,e1,e2,e3,e4,e5,hle,p1,i1]
 ·skip
  by_cases h2:w=Str.ofString "fence"
  ·have n1:=h1
   have n3:¬w=Str.ofString "sail" := fun z=>(d23▸(h2.symm.trans z):False)
   have n4:¬w=Str.ofString "cloth" := fun z=>(d24▸(h2.symm.trans z):False)
   have n5:¬w=Str.ofString "house" := fun z=>(d25▸(h2.symm.trans z):False)
   rw[decide_eq_true h2] at e2
   rw[decide_eq_false n1] at e1
   rw[decide_eq_false n3] at e3
   rw[decide_eq_false n4] at e4
   rw[decide_eq_false n5] at e5
   have hg:(if w=Str.ofString "post" then Ze xs else if w=Str.ofString "fence" then Zb xs else if w=Str.ofString "sail" then Z6 xs else if w=Str.ofString "cloth" then Zc xs else if w=Str.ofString "house" then Z6 xs else false)=Zb xs:=by rw[if_neg n1,if_pos h2]
   have hc:(if w=Str.ofString "post" then "Post" else if w=Str.ofString "fence" then "Fence" else if w=Str.ofString "sail" then "Sail" else if w=Str.ofString "cloth" then "Cloth" else "House")= "Fence" := by rw[if_neg n1,if_pos h2]
   rw[hg,hc]
   cases q:Zb xs<;>rw[q] at p2<;>simp[dY,fJ,dg,List.replicate,e1,e2,e3,e4,e5,hle,p2,i2]
  ·skip
   by_cases h3:w=Str.ofString "sail"
   ·have n1:=h1
    have n2:=h2
    have n4:¬w=Str.ofString "cloth" := fun z=>(d34▸(h3.symm.trans z):False)
    have n5:¬w=Str.ofString "house" := fun z=>(d35▸(h3.symm.trans z):False)
    rw[decide_eq_true h3] at e3
    rw[decide_eq_false n1] at e1
    rw[decide_eq_false n2] at e2
    rw[decide_eq_false n4] at e4
    rw[decide_eq_false n5] at e5
    have hg:(if w=Str.ofString "post" then Ze xs else if w=Str.ofString "fence" then Zb xs else if w=Str.ofString "sail" then Z6 xs else if w=Str.ofString "cloth" then Zc xs else if w=Str.ofString "house" then Z6 xs else false)=Z6 xs:=by rw[if_neg n1,if_neg n2,if_pos h3]
    have hc:(if w=Str.ofString "post" then "Post" else if w=Str.ofString "fence" then "Fence" else if w=Str.ofString "sail" then "Sail" else if w=Str.ofString "cloth" then "Cloth" else "House")= "Sail" := by rw[if_neg n1,if_neg n2,if_pos h3]
    rw[hg,hc]
    cases q:Z6 xs<;>rw[q] at p3<;>simp[dY,fJ,dg,List.replicate,e1,e2,e3,e4,e5,hle,p3,i3]
   ·skip
    by_cases h4:w=Str.ofString "cloth"
    ·have n1:=h1
     have n2:=h2
     have n3:=h3
     have n5:¬w=Str.ofString "house" := fun z=>(d45▸(h4.symm.trans z):False)
     rw[decide_eq_true h4] at e4
     rw[decide_eq_false n1] at e1
     rw[decide_eq_false n2] at e2
     rw[decide_eq_false n3] at e3
     rw[decide_eq_false n5] at e5
     have hg:(if w=Str.ofString "post" then Ze xs else if w=Str.ofString "fence" then Zb xs else if w=Str.ofString "sail" then Z6 xs else if w=Str.ofString "cloth" then Zc xs else if w=Str.ofString "house" then Z6 xs else false)=Zc xs:=by rw[if_neg n1,if_neg n2,if_neg n3,if_pos h4]
     have hc:(if w=Str.ofString "post" then "Post" else if w=Str.ofString "fence" then "Fence" else if w=Str.ofString "sail" then "Sail" else if w=Str.ofString "cloth" then "Cloth" else "House")= "Cloth" := by rw[if_neg n1,if_neg n2,if_neg n3,if_pos h4]
     rw[hg,hc]
     cases q:Zc xs<;>rw[q] at p4<;>simp[dY,fJ,dg,List.replicate,e1,e2,e3,e4,e5,hle,p4,i4]
    ·skip
     by_cases h5:w=Str.ofString "house"
     ·have n1:=h1
      have n2:=h2
      have n3:=h3
      have n4:=h4
      rw[decide_eq_true h5] at e5
      rw[decide_eq_false n1] at e1
      rw[decide_eq_false n2] at e2
      rw[decide_eq_false n3] at e3
      rw[decide_eq_false n4] at e4
      have hg:(if w=Str.ofString "post" then Ze xs else if w=Str.ofString "fence" then Zb xs else if w=Str.ofString "sail" then Z6 xs else if w=Str.ofString "cloth" then Zc xs else if w=Str.ofString "house" then Z6 xs else false)=Z6 xs:=by rw[if_neg n1,if_neg n2,if_neg n3,if_neg n4,if_pos h5]
      have hc:(if w=Str.ofString "post" then "Post" else if w=Str.ofString "fence" then "Fence" else if w=Str.ofString "sail" then "Sail" else if w=Str.ofString "cloth" then "Cloth" else "House")= "House" := by rw[if_neg n1,if_neg n2,if_neg n3,if_neg n4]
      rw[hg,hc]
      cases q:Z6 xs<;>rw[q] at p3<;>simp[dY,fJ,dg,List.replicate,e1,e2,e3,e4,e5,hle,p3,i5]
     ·skip
      rw[decide_eq_false h1] at e1
      rw[decide_eq_false h2] at e2
      rw[decide_eq_false h3] at e3
      rw[decide_eq_false h4] at e4
      rw[decide_eq_false h5] at e5
      rw[if_neg h1,if_neg h2,if_neg h3,if_neg h4,if_neg h5]
      simp[dY,fJ,dg,List.replicate,e1,e2,e3,e4,e5]
abbrev P3:=Int×Int×Int
def c3(p:P3):PV:=.tup [.int p.1,.int p.2.1,.int p.2.2]
def Zm(x y u v z:Int):List P3:=[(x,y,z),(u,y,z),(u,v,z),(x,v,z)]
def Zt(x y u v h:Int):List P3:=Zm x y u v 0++Zm x y u v h
def Z5(C:String)(xs:List Int):List P3:=
 if C= "Post" then(match xs with
  | [p,q,h]=>Zt (2*p-1) (2*q-1) (2*p+1) (2*q+1) h
  |_=>[])
 else if C= "Fence" then(match xs with
  | [x,y,u,v,h]=>[(x,y,0),(u,v,0),(u,v,h),(x,y,h)]
  |_=>[])
 else if C= "Sail" then(match xs with
  | [x,y,u,v,h]=>Zm x y u v h
  |_=>[])
 else if C= "Cloth" then(match xs with
  | [a,b,c,d,e,f,g,h,i]=>[(a,b,c),(d,e,f),(g,h,i)]
  |_=>[])
 else(match xs with
  | [x,y,u,v,h]=>Zt x y u v h
  |_=>[])
def Z3(w:Str)(xs:List Int):List P3:=Z5 (Z4 w) xs
theorem ZQ{C:String}(hC:(["Thing","Post","Fence","Sail","Cloth","House"]:List String).contains C=true)(w:Str)(xs:List Int):kI ["Thing","Post","Fence","Sail","Cloth","House"] (Str.ofString "numbers") (Z0 C w xs)=some (.lst (xs.map .int)):=by
 unfold kI Z0
 dsimp only
 rw[if_pos hC]
 have:(Str.ofString "numbers" == Str.ofString "word")=false:=by decide +kernel
 show List.lookup _ [(_,_),(_,_)]=_
 rw[List.lookup_cons,this]
 simp
theorem Z0x(x y u v z:Int):oN [.sh (.int x),.sh (.int y),.sh (.int u),.sh (.int v),.sh (.int z)]=.ret (.ow ((Zm x y u v z).map c3)):=by
 simp[oN,Gq,List.replicate,Zm,c3]
theorem Z0y(x y u v h:Int):vM [.sh (.int x),.sh (.int y),.sh (.int u),.sh (.int v),.sh (.int h)]=.ret (.ow ((Zt x y u v h).map c3)):=by
 simp[vM,Gs,List.replicate,Z0x,Zt,Zm,add_l]
theorem Z2m{xs:List Int}(h:Ze xs=true)(w:Str):jT [.sh (Z0 "Post" w xs)]=.ret (.ow ((Z5 "Post" xs).map c3)):=by
 match xs,h with
 | [p,q,h],hh=>
   simp[Ze,aF,vV] at hh
   have hf:=ZQ (C:= "Post") (by decide) w [p,q,h]
   generalize Z0 "Post" w [p,q,h]=v at *
   have e:=Z0y (2*p-1) (2*q-1) (2*p+1) (2*q+1) h
   simp[jT,yd,List.replicate,hf,e,Z5]
theorem Z28{xs:List Int}(h:Zb xs=true)(w:Str):jU [.sh (Z0 "Fence" w xs)]=.ret (.ow ((Z5 "Fence" xs).map c3)):=by
 match xs,h with
 | [x,y,u,v,h],hh=>
   have hf:=ZQ (C:= "Fence") (by decide) w [x,y,u,v,h]
   generalize Z0 "Fence" w [x,y,u,v,h]=t at *
   simp[jU,yg,List.replicate,hf,Z5,c3,ĵ]
theorem Z2n{xs:List Int}(h:Z6 xs=true)(w:Str):jV [.sh (Z0 "Sail" w xs)]=.ret (.ow ((Z5 "Sail" xs).map c3)):=by
 match xs,h with
 | [x,y,u,v,h],hh=>
   have hf:=ZQ (C:= "Sail") (by decide) w [x,y,u,v,h]
   generalize Z0 "Sail" w [x,y,u,v,h]=t at *
   have e:=Z0x x y u v h
   simp[jV,yh,List.replicate,hf,e,Z5]
theorem Z29{xs:List Int}(h:Z6 xs=true)(w:Str):vN [.sh (Z0 "House" w xs)]=.ret (.ow ((Z5 "House" xs).map c3)):=by
 match xs,h with
 | [x,y,u,v,h],hh=>
   have hf:=ZQ (C:= "House") (by decide) w [x,y,u,v,h]
   generalize Z0 "House" w [x,y,u,v,h]=t at *
   have e:=Z0y x y u v h
   simp[vN,Gu,List.replicate,hf,e,Z5]
theorem Z2a{xs:List Int}(h:Zc xs=true)(w:Str):jW [.sh (Z0 "Cloth" w xs)]=.ret (.ow ((Z5 "Cloth" xs).map c3)):=by
 match xs,h with
 | [a,b,c,d,e,f,g,i,j],hh=>
   have hf:=ZQ (C:= "Cloth") (by decide) w [a,b,c,d,e,f,g,i,j]
   generalize Z0 "Cloth" w [a,b,c,d,e,f,g,i,j]=t at *
   simp[jW,yj,List.replicate,hf,Z5,c3,ŗ,YQ,jq]
   exact⟨rfl,rfl,rfl⟩
def cst(r p:P3):Hu.Pt:=(r.2.2*p.1+r.1*p.2.2,r.2.2*p.2.1+r.2.1*p.2.2)
def RB(r:P3):Prop:=-1000000≤r.1∧r.1≤1000000∧ -1000000≤r.2.1∧r.2.1≤1000000∧ -1000000≤r.2.2∧r.2.2≤1000000
def PB(p:P3):Prop:=-10000000000≤p.1∧p.1≤10000000000∧ -10000000000≤p.2.1∧p.2.1≤10000000000∧ -10000000000≤p.2.2∧p.2.2≤10000000000
theorem Z0M{r:P3}(hr:RB r)(p:P3):gM [.sh (c3 p),.sh (c3 r)]=.ret (.sh (pt (cst r p))):=by
 obtain⟨a1,a2,a3,a4,a5,a6⟩:=hr
 have m1:ň r.2.2 p.1=true:=Ź (by omega) (by omega)
 have m2:ň r.2.2 p.2.1=true:=Ź (by omega) (by omega)
 have m3:ň r.1 p.2.2=true:=Ź (by omega) (by omega)
 have m4:ň r.2.1 p.2.2=true:=Ź (by omega) (by omega)
 simp[gM,yc,List.replicate,pt,c3,cst,m1,m2,m3,m4]
theorem ZU{x y A B:Int}(h1: -A≤x)(h2:x≤A)(h3: -B≤y)(h4:y≤B): -(A*B)≤x*y∧x*y≤A*B:=by
 have hA:0≤A:=by omega
 have hB:0≤B:=by omega
 have e:(x*y).natAbs≤A.natAbs*B.natAbs:=by
  rw[Int.natAbs_mul]
  exact Nat.mul_le_mul (by omega) (by omega)
 have e2:((A*B).natAbs)=A.natAbs*B.natAbs:=Int.natAbs_mul A B
 have e3:0≤A*B:=Int.mul_nonneg hA hB
 omega
theorem Z03{r p:P3}(hr:RB r)(hp:PB p):Sm (cst r p):=by
 obtain⟨a1,a2,a3,a4,a5,a6⟩:=hr
 obtain⟨b1,b2,b3,b4,b5,b6⟩:=hp
 have q1:=ZU a5 a6 b1 b2
 have q2:=ZU a5 a6 b3 b4
 have q3:=ZU a1 a2 b5 b6
 have q4:=ZU a3 a4 b5 b6
 simp only[Sm,cst]
 omega
theorem Z1l{w:Str}{xs:List Int}(hg:Zd w xs=true){mo:M PV}{ρ ρ1:List P.Slot}(ho:mo ρ=.ok (Z0 (Z4 w) w xs) ρ1):mG (Str.ofString "corners") [("Post",jT),("Fence",jU),("Sail",jV),("Cloth",jW),("House",vN)] mo ĕ ρ=.ok (.ow ((Z3 w xs).map c3)) ρ1:=by
 have hn:(["word","numbers"]:List Str).contains (Str.ofString "corners")=false:=by decide +kernel
 have key:∀(C:String) (mf:MF),Z4 w=C→List.lookup C [("Post",jT),("Fence",jU),("Sail",jV),("Cloth",jW),("House",vN)]=some mf→mf [.sh (Z0 C w xs)]=.ret (.ow ((Z5 C xs).map c3))→mG (Str.ofString "corners") [("Post",jT),("Fence",jU),("Sail",jV),("Cloth",jW),("House",vN)] mo ĕ ρ=.ok (.ow ((Z3 w xs).map c3)) ρ1:=by
  intro C mf hC hl hf
  unfold Z3
  rw[hC] at ho ⊢
  unfold mG
  rw[ho]
  unfold Z0 at *
  simp only[Res.bind]
  rw[hl]
  dsimp only
  rw[if_neg (by rw[hn];decide)]
  simp only[ĕ,Res.bind]
  rw[hf]
 unfold Zd at hg
 by_cases e1:w= "post"
 ·rw[if_pos e1] at hg
  exact key "Post" _ (by unfold Z4;rw[if_pos e1]) rfl (Z2m hg w)
 rw[if_neg e1] at hg
 by_cases e2:w= "fence"
 ·rw[if_pos e2] at hg
  exact key "Fence" _ (by unfold Z4;rw[if_neg e1,if_pos e2]) rfl (Z28 hg w)
 rw[if_neg e2] at hg
 by_cases e3:w= "sail"
 ·rw[if_pos e3] at hg
  exact key "Sail" _ (by unfold Z4;rw[if_neg e1,if_neg e2,if_pos e3]) rfl (Z2n hg w)
 rw[if_neg e3] at hg
 by_cases e4:w= "cloth"
 ·rw[if_pos e4] at hg
  exact key "Cloth" _ (by unfold Z4;rw[if_neg e1,if_neg e2,if_neg e3,if_pos e4]) rfl (Z2a hg w)
 rw[if_neg e4] at hg
 by_cases e5:w= "house"
 ·rw[if_pos e5] at hg
  exact key "House" _ (by unfold Z4;rw[if_neg e1,if_neg e2,if_neg e3,if_neg e4]) rfl (Z29 hg w)
 ·rw[if_neg e5] at hg
  cases hg
theorem Z0Y{r:P3}(hr:RB r){L:List P3}(hl:L.length≤100)(s1:P.Slot):ŗ (gN 1) Ŗ (Ě (Ġ gM (Ċ 1 (Ċ 0 ĕ)))) (L.map c3) [.sh (c3 r),s1] []=some ((L.map (cst r)).map pt):=by
 have:=Ř (g:=gN 1) (mt:=Ŗ) (me:=Ě (Ġ gM (Ċ 1 (Ċ 0 ĕ)))) c3 (fun p=>pt (cst r p)) (fun ρ=>∃s,ρ=[.sh (c3 r),s]) L [.sh (c3 r),s1] [] ⟨_,rfl⟩ (by simp;omega) (by
  rintro p hp ρ ⟨s,rfl⟩
  have e:=Z0M hr p
  generalize c3 r=R at *
  generalize c3 p=Q at *
  exact⟨[R |> .sh,.sh Q],[.sh R,.sh Q],[.sh R,.sh Q],by simp,by simp,by simp[e],_,rfl⟩)
 rw[this]
 simp
theorem Z1M{w:Str}{xs:List Int}(hg:Zd w xs=true)(hl:(Z3 w xs).length≤100){r:P3}(hr:RB r):qw [.sh (Z0 (Z4 w) w xs),.sh (c3 r)]=.ret (.ow (((Z3 w xs).map (cst r)).map pt)):=by
 have h1:=Z1l hg (mo:=đ 0) (ρ:= [.sh (Z0 (Z4 w) w xs),.sh (c3 r)]) (ρ1:=[.sh (Z0 (Z4 w) w xs),.sh (c3 r)]) (by simp)
 have h2:=Z0Y hr hl
 generalize ((Z3 w xs).map (cst r)).map pt=Y at *
 generalize (Z3 w xs).map c3=Z at *
 generalize Z0 (Z4 w) w xs=v at *
 generalize c3 r=R at *
 simp[qw,yq,List.replicate,h1,h2,-Od]
def n_(s:Hu.Pt):P3:=(2*s.1,2*s.2,0)
theorem Z0z{w:Str}{xs:List Int}(hg:Zd w xs=true):(Z3 w xs).length≤8∧Z3 w xs≠[]∧∀p∈Z3 w xs,PB p:=by
 have hp:Ze xs=true→(Z5 "Post" xs).length≤8∧Z5 "Post" xs≠[]∧∀p∈Z5 "Post" xs,PB p:=by
  intro h
  match xs,h with
  | [a,b,c],h=>
    simp[Ze,aF,vV] at h
    simp[Z5,Zt,Zm,PB]
    omega
 have hf:Zb xs=true→(Z5 "Fence" xs).length≤8∧Z5 "Fence" xs≠[]∧∀p∈Z5 "Fence" xs,PB p:=by
  intro h
  match xs,h with
  | [a,b,c,d,e],h=>
    simp[Zb,Zf,aF,vV] at h
    simp[Z5,PB]
    omega
 have hs:Z6 xs=true→(Z5 "Sail" xs).length≤8∧Z5 "Sail" xs≠[]∧∀p∈Z5 "Sail" xs,PB p:=by
  intro h
  match xs,h with
  | [a,b,c,d,e],h=>
    simp[Z6,Zf,aF,vV] at h
    simp[Z5,Zm,PB]
    omega
 have hh:Z6 xs=true→(Z5 "House" xs).length≤8∧Z5 "House" xs≠[]∧∀p∈Z5 "House" xs,PB p:=by
  intro h
  match xs,h with
  | [a,b,c,d,e],h=>
    simp[Z6,Zf,aF,vV] at h
    simp[Z5,Zt,Zm,PB]
    omega
 have hc:Zc xs=true→(Z5 "Cloth" xs).length≤8∧Z5 "Cloth" xs≠[]∧∀p∈Z5 "Cloth" xs,PB p:=by
  intro h
  match xs,h with
  | [a,b,c,d,e,f,g,i,j],h=>
    simp[Zc,aF,vZ] at h
    simp[Z5,PB]
    omega
 unfold Zd at hg
 unfold Z3 Z4
 by_cases e1:w= "post"
 ·rw[if_pos e1] at hg ⊢;exact hp hg
 rw[if_neg e1] at hg ⊢
 by_cases e2:w= "fence"
 ·rw[if_pos e2] at hg ⊢;exact hf hg
 rw[if_neg e2] at hg ⊢
 by_cases e3:w= "sail"
 ·rw[if_pos e3] at hg ⊢;exact hs hg
 rw[if_neg e3] at hg ⊢
 by_cases e4:w= "cloth"
 ·rw[if_pos e4] at hg ⊢;exact hc hg
 rw[if_neg e4] at hg ⊢
 by_cases e5:w= "house"
 ·rw[if_pos e5] at hg;exact hh hg
 ·rw[if_neg e5] at hg;cases hg
def shB(w:Str)(xs:List Int)(s:Hu.Pt)(r:P3):Bool:=(Hu.Zo ((Z3 w xs).map (cst r)) (cst r (n_ s))).isNone
theorem Z1N{r:P3}(hr:RB r)(s:Hu.Pt):qy [.sh (pt s),.sh (c3 r)]=.ret (.sh (pt (cst r (n_ s)))):=by
 have e:=Z0M hr (n_ s)
 have e':PV.tup [.int (2*s.1),.int (2*s.2),.int 0]=c3 (n_ s):=rfl
 generalize hR:c3 r=R at *
 unfold pt
 simp[qy,yr,List.replicate,e',e]
 rfl
theorem ZW{w:Str}{xs:List Int}(hg:Zd w xs=true){r:P3}(hr:RB r){s:Hu.Pt}(hs:PB (n_ s)):jX [.sh (Z0 (Z4 w) w xs),.sh (pt s),.sh (c3 r)]=.ret (Zx ((Z3 w xs).map (cst r)) (cst r (n_ s))):=by
 obtain⟨g1,g2,g3⟩:=Z0z hg
 have h1:=Z1M hg (by omega) hr
 have h2:=Z1N hr s
 have h3:=Z1J (S:=(Z3 w xs).map (cst r)) (sl:=.sh (.lst (((Z3 w xs).map (cst r)).map pt))) (.inl rfl) (by
  intro p hp
  obtain⟨q,hq,rfl⟩:=List.mem_map.mp hp
  exact Z03 hr (g3 q hq)) (by simpa using g2) (by simp;omega) (p:=cst r (n_ s)) (Z03 hr hs)
 generalize Zx ((Z3 w xs).map (cst r)) (cst r (n_ s))=V at *
 generalize ((Z3 w xs).map (cst r)).map pt=Y at *
 generalize pt (cst r (n_ s))=Z at *
 generalize Z0 (Z4 w) w xs=v at *
 generalize c3 r=R at *
 generalize pt s=Q at *
 simp[jX,yt,List.replicate,h1,h2,h3]
theorem sIn:PyData.strOk (Str.ofString "in")=true:=by decide +kernel
theorem Z2F:PyData.strOk (Str.ofString "out")=true:=by decide +kernel
theorem dIO:(Str.ofString "out" =Str.ofString "in")=False:=eq_false (by decide +kernel)
theorem Z1m{w:Str}{xs:List Int}(hg:Zd w xs=true){r:P3}(hr:RB r){s:Hu.Pt}(hs:PB (n_ s)):nH [.sh (Z0 (Z4 w) w xs),.sh (pt s),.sh (c3 r)]=.ret (.sh (.bl (shB w xs s r))):=by
 have h1:=ZW hg hr hs
 unfold Zx at h1
 unfold shB
 generalize Z0 (Z4 w) w xs=v at *
 generalize c3 r=R at *
 generalize pt s=Q at *
 cases e:Hu.Zo ((Z3 w xs).map (cst r)) (cst r (n_ s)) with
 |none=>
  rw[e] at h1
  dsimp only at h1
  generalize Cj ((Z3 w xs).map (cst r)) (Hu.Za ((Z3 w xs).map (cst r)) (cst r (n_ s)))=Y at *
  simp[nH,sI,List.replicate,h1,ņ sIn sIn]
 |some l=>
  rw[e] at h1
  dsimp only at h1
  generalize dw l=Y at *
  simp[nH,sI,List.replicate,h1,ņ Z2F sIn,dIO]
theorem p6:(10:Int) ^ 6=1000000:=by decide
theorem Z1O(Ck:Bool)(c:Int)(xs:List Int)(N s4:P.Slot)(k:Nat)(hk:k<100)(hl:xs.length≤100):∃c' x:Int,jx [.sh (.int c),N,.sh (.int (if Ck then 0 else 1)),.ow (xs.map .int),.sh (.int k)]=.ok .nx [.sh (.int c'),N,.sh (.int (if Ck then 0 else 1)),.ow ((xs ++ [x]).map .int),.sh (.int k)]∧0≤x∧x<1500450271:=by
 have hb:xs.length<16777216:=by omega
 cases Ck with
 |true=>
  refine⟨c / 1000000,c % 1000000,?_,by omega,by omega⟩
  simp[jx,hb]
 |false=>
  obtain⟨y,e1,_,_⟩:=Z0o c k (by omega) (by omega)
  obtain⟨x,e2,h1,h2⟩:=Z0o (y+c) k (by omega) (by omega)
  refine⟨c,x,?_,h1,h2⟩
  simp[jx,hb,e1,e2]
theorem Z1P(Ck:Bool)(c:Int)(N s4:P.Slot){n:Nat}(hn:n≤100):∃(c':Int) (xs:List Int) (Cr:P.Slot),forL (gN 4) jx ((List.range n).map fun(i:Nat)=>PV.int (i:Int)) [.sh (.int c),N,.sh (.int (if Ck then 0 else 1)),.ow [],s4]=.ok .nx [.sh (.int c'),N,.sh (.int (if Ck then 0 else 1)),.ow (xs.map .int),Cr]∧xs.length=n∧∀x∈xs,0≤x∧x<1500450271:=by
 obtain⟨⟨c',xs,Cr⟩,e,h1,h2⟩:=Et (g:=gN 4) (mb:=jx) (items:=(List.range n).map fun(i:Nat)=>PV.int (i:Int)) (fun b:Int×List Int×P.Slot=>[.sh (.int b.1),N,.sh (.int (if Ck then 0 else 1)),.ow (b.2.1.map .int),b.2.2]) (fun i b=>b.2.1.length=i∧∀x∈b.2.1,0≤x∧x<1500450271) (b:=(c,[],s4)) ⟨rfl,by simp⟩ (by
  rintro i p ⟨c,xs,s⟩ hp ⟨h1,h2⟩
  have hi:i<n:=by
   have:=(List.getElem?_eq_some_iff.mp hp).1
   simpa using this
  rw[List.getElem?_map,List.getElem?_range hi] at hp
  cases hp
  dsimp only at h1 h2
  obtain⟨c',x,e,g1,g2⟩:=Z1O Ck c xs N s i (by omega) (by omega)
  refine⟨_,(c',xs ++ [x],.sh (.int i)),rfl,e,by simp[h1],?_⟩
  intro y hy
  rcases List.mem_append.mp hy with hy|hy
  ·exact h2 y hy
  ·simp at hy;subst hy;exact⟨g1,g2⟩)
 refine⟨c',xs,Cr,e,by simpa using h1,h2⟩
theorem Z1n(c:Int){n:Nat}(hn:n≤100):∃xs:List Int,fC [.sh (.int c),.sh (.int n)]=.ret (.ow (xs.map .int))∧xs.length=n∧∀x∈xs,0≤x∧x<1500450271:=by
 have hr:=ZY (show n≤1000 by omega)
 have m1:ň (1000000000000000000000000000000000000000000000000000000000000:Int) 1000000000000000000000000000000000000000000000000000000000000=true:=by decide +kernel
 have m2:ň (1000000000000000000000000000000000000000000000000000000000000000000000000000000000000000000000000000000000000000000000000:Int) 1000000000000000000000000000000000000000000000000000000000000=true:=by decide +kernel
 have key:∀Ck:Bool,c % 2=(if Ck then 0 else 1)→∃xs:List Int,fC [.sh (.int c),.sh (.int n)]=.ret (.ow (xs.map .int))∧xs.length=n∧∀x∈xs,0≤x∧x<1500450271:=by
  intro Ck hb
  obtain⟨c',xs,s4,e,h⟩:=Z1P Ck (c / 2 % 1000000000000000000000000000000000000000000000000000000000000000000000000000000000000000000000000000000000000000000000000000000000000000000000000000000000000000000000000000000000000) (.sh (.int n)) .no hn
  refine⟨xs,?_,h⟩
  generalize (if Ck then 0 else 1:Int)=B at *
  simp[fC,xK,List.replicate,hr,hb,m1,m2,e]
 by_cases h:c % 2=0
 ·exact key true (by simp[h])
 ·exact key false (by simp;omega)
theorem Z1o(c:Int):∃s:Hu.Pt,mY [.sh (.int c)]=.ret (.sh (pt s))∧ -1000≤s.1∧s.1≤1000∧ -1000≤s.2∧s.2≤1000:=by
 obtain⟨n,hn⟩:∃n,c % 1000000000000=n:=⟨_,rfl⟩
 by_cases h:n % 8=5
 ·refine⟨(n / 8 % 2001-1000,n / 16008 % 2001-1000),?_,by dsimp only;omega⟩
  simp[mY,rC,List.replicate,hn,h,pt,-Int.emod_emod_of_dvd]
 ·refine⟨(n / 8 % 20,n / 160 % 20),?_,by dsimp only;omega⟩
  simp[mY,rC,List.replicate,hn,h,pt,-Int.emod_emod_of_dvd]
theorem ix4(k:Int):∃m:Int,jc ([.int 1,.int 1,.int 7,.int 100000]:List PV) (k % 4)=some (.int m)∧(m=1∨m=7∨m=100000):=by
 have h:k % 4=0∨k % 4=1∨k % 4=2∨k % 4=3:=by omega
 rcases h with h|h|h|h<;>rw[h]
 ·exact⟨1,rfl,.inl rfl⟩
 ·exact⟨1,rfl,.inl rfl⟩
 ·exact⟨7,rfl,.inr (.inl rfl)⟩
 ·exact⟨100000,rfl,.inr (.inr rfl)⟩
theorem Z2b(c:Int):∃r:P3,mZ [.sh (.int c)]=.ret (.sh (c3 r))∧RB r∧1≤r.2.2:=by
 by_cases h:c % 4=3
 ·obtain⟨xs,e,hl,hb⟩:=Z1n (c / 4) (n:=4) (by omega)
  match xs,hl with
  | [a,b,d,f],_=>
    refine⟨((a+f % 2*1000000) % 2000001-1000000,(b+f / 2 % 2*1000000) % 2000001-1000000,1+d % 1000000),?_,?_,?_⟩
    ·have e':fC [.sh (.int (c / 4)),.sh (.int 4)]=.ret (.ow [.int a,.int b,.int d,.int f]):=e
     simp[mZ,rD,List.replicate,h,e',c3]
    ·unfold RB;dsimp only;omega
    ·dsimp only;omega
 ·obtain⟨m,e,hm⟩:=ix4 (c / 588)
  have hx: -3≤c / 4 % 7-3∧c / 4 % 7-3≤3:=by omega
  have hy: -3≤c / 28 % 7-3∧c / 28 % 7-3≤3:=by omega
  have hz:1≤1+c / 196 % 3∧1+c / 196 % 3≤3:=by omega
  generalize hx':c / 4 % 7-3=x at *
  generalize hy':c / 28 % 7-3=y at *
  generalize hz':1+c / 196 % 3=z at *
  refine⟨(m*x,m*y,m*z),?_,?_,?_⟩
  ·have m1:∀t,ň m t=true:=fun t=>Ź (by omega) (by omega)
   simp[mZ,rD,List.replicate,h,e,c3,hx',hy',hz',m1]
  ·unfold RB
   dsimp only
   rcases hm with rfl|rfl|rfl<;>omega
  ·dsimp only
   rcases hm with rfl|rfl|rfl<;>omega
theorem Z0A{x:Int}(h1: -(2 ^ 64)<x)(h2:x<2 ^ 64):bits x≤8000:=by
 unfold bits Builtin.Int.intBits
 split
 ·omega
 ·rename_i h
  have:x.natAbs.log2<64:=by
   rw[Nat.log2_lt (by simpa using h)]
   omega
  omega
theorem Z1X{x c A:Int}(hc:1≤c)(h1: -A≤x)(h2:x≤A): -A≤x / c∧x / c≤A:=by
 have hA:0≤A:=by omega
 constructor
 ·rw[Int.le_ediv_iff_mul_le (by omega)]
  have:A*1≤A*c:=Int.mul_le_mul_of_nonneg_left hc hA
  have e: -A*c= -(A*c):=by grind
  omega
 ·have:x / c≤A / c:=Int.ediv_le_ediv (by omega) h2
  have h3:A / c≤A:=Int.ediv_le_self c hA
  omega
theorem Z0Z(n:Int){s:Hu.Pt}(hs: -1000≤s.1∧s.1≤1000∧ -1000≤s.2∧s.2≤1000){r:P3}(hr:RB r)(h1:1≤r.2.2){z:Int}(hz:0≤z)(hz':z≤900):∃x y:Int,gH [.sh (.int n),.sh (pt s),.sh (c3 r),.sh (.int z)]=.ret (.ow [.int x,.int y,.int z])∧ -901000000≤x∧x≤901000000∧ -901000000≤y∧y≤901000000:=by
 obtain⟨r1,r2,r3⟩:=r
 obtain⟨a1,a2,a3,a4,a5,a6⟩:=hr
 dsimp only at *
 have q1:=ZU a1 a2 (show -900≤z by omega) hz'
 have q2:=ZU a3 a4 (show -900≤z by omega) hz'
 have d1:=Z1X h1 q1.1 q1.2
 have d2:=Z1X h1 q2.1 q2.2
 have m1:ň r1 z=true:=Ź (by omega) (by omega)
 have m2:ň r2 z=true:=Ź (by omega) (by omega)
 have f1:cX (r1*z) r3=true:=mj (by omega) (Z0A (by omega) (by omega))
 have f2:cX (r2*z) r3=true:=mj (by omega) (Z0A (by omega) (by omega))
 have g1:(r1*z).fdiv r3=r1*z / r3:=Int.fdiv_eq_ediv_of_nonneg _ (by omega)
 have g2:(r2*z).fdiv r3=r2*z / r3:=Int.fdiv_eq_ediv_of_nonneg _ (by omega)
 refine⟨2*s.1-r1*z / r3+n % 9-4,2*s.2-r2*z / r3+n / 9 % 9-4,?_,by omega,by omega,by omega,by omega⟩
 simp[gH,xM,List.replicate,pt,c3,m1,m2,f1,f2,g1,g2]
theorem Zy(x y:Int):∃a b:Int,iV [.sh (.int x),.sh (.int y)]=.ret (.sh (.tup [.int a,.int b]))∧a<b∧min x y≤a∧b≤max x y+1:=by
 by_cases h:x=y
 ·subst h
  exact⟨x,x+1,by simp[iV,rE,List.replicate],by omega,by omega,by omega⟩
 ·refine⟨min x y,max x y,?_,by omega,by omega,by omega⟩
  simp[iV,rE,List.replicate,h]
  constructor<;>split<;>omega
def wd(k:Int):Str:=if k=0 then Str.ofString "post" else if k=1 then Str.ofString "fence" else if k=2 then Str.ofString "sail" else if k=3 then Str.ofString "cloth" else Str.ofString "house"
def pB(x:Int):Prop:=-901000001≤x∧x≤901000001
def hB(h:Int):Prop:=1≤h∧h≤900
inductive Bs:Int→List Int→Prop
 |post {p q h:Int} (h1:pB p) (h2:pB q) (h3:hB h):Bs 0 [p,q,h]
 |fence {x y u v h:Int} (h1:pB x) (h2:pB y) (h3:pB u) (h4:pB v) (h5:hB h) (n:¬(x=u∧y=v)):Bs 1 [x,y,u,v,h]
 |sail {x y u v h:Int} (h1:pB x) (h2:pB y) (h3:pB u) (h4:pB v) (h5:hB h) (n1:x<u) (n2:y<v):Bs 2 [x,y,u,v,h]
 |cloth {a b c d e f g i j:Int} (h1:pB a) (h2:pB b) (h3:0≤c∧c≤900) (h4:pB d) (h5:pB e) (h6:0≤f∧f≤900) (h7:pB g) (h8:pB i) (h9:0≤j∧j≤900):Bs 3 [a,b,c,d,e,f,g,i,j]
 |house {x y u v h:Int} (h1:pB x) (h2:pB y) (h3:pB u) (h4:pB v) (h5:hB h) (n1:x<u) (n2:y<v):Bs 4 [x,y,u,v,h]
theorem ix3(k:Int):∃m:Int,jc ([.int 8,.int 8,.int 900]:List PV) (k % 3)=some (.int m)∧(m=8∨m=900):=by
 have h:k % 3=0∨k % 3=1∨k % 3=2:=by omega
 rcases h with h|h|h<;>rw[h]
 ·exact⟨8,rfl,.inl rfl⟩
 ·exact⟨8,rfl,.inl rfl⟩
 ·exact⟨900,rfl,.inr rfl⟩
theorem Z2G(H k:Int)(hH:hB H):∃m:Int,jc ([.int 0,.int (H / 2),.int H]:List PV) (k % 3)=some (.int m)∧0≤m∧m≤900:=by
 unfold hB at hH
 have h:k % 3=0∨k % 3=1∨k % 3=2:=by omega
 rcases h with h|h|h<;>rw[h]
 ·exact⟨0,rfl,by omega,by omega⟩
 ·exact⟨H / 2,rfl,by omega,by omega⟩
 ·exact⟨H,rfl,by omega,by omega⟩
theorem Z2A{n m:Int}(h:m=8∨m=900):ŕ (.int n) (.int m)=some (.int (n % m))∧0≤n % m∧n % m<900:=by
 rcases h with rfl|rfl
 ·exact⟨by simp,by omega,by omega⟩
 ·exact⟨by simp,by omega,by omega⟩
theorem Z1p(c:Int){s:Hu.Pt}(hs: -1000≤s.1∧s.1≤1000∧ -1000≤s.2∧s.2≤1000){r:P3}(hr:RB r)(h1:1≤r.2.2):∃xs:List Int,fH [.sh (.int c),.sh (pt s),.sh (c3 r)]=.ret (.sh (.tup [.str (wd (c % 5)),.lst (xs.map .int)]))∧Bs (c % 5) xs:=by
 obtain⟨ns,e1,hl,hb⟩:=Z1n (c / 5) (n:=6) (by omega)
 match ns,hl with
 | [n0,n1,n2,n3,n4,n5],_=>
 have e1':fC [.sh (.int (c / 5)),.sh (.int 6)]=.ret (.ow [.int n0,.int n1,.int n2,.int n3,.int n4,.int n5]):=e1
 clear e1 hb
 obtain⟨m,e2,hm⟩:=ix3 (c / 5)
 obtain⟨e3,g1,g2⟩:=Z2A (n:=n0) hm
 obtain⟨H,hH⟩:∃H,1+n0 % m=H:=⟨_,rfl⟩
 have hHB:hB H:=by unfold hB;omega
 obtain⟨z,e4,z1,z2⟩:=Z2G H n5 hHB
 have Lb:=fun n z (h:0≤z) (h':z≤900)=>Z0Z n hs hr h1 h h'
 generalize pt s=S at *
 generalize c3 r=R at *
 unfold hB at hHB
 have h5:c % 5=0∨c % 5=1∨c % 5=2∨c % 5=3∨c % 5=4:=by omega
 rcases h5 with h|h|h|h|h
 ·obtain⟨x,y,k1,b1,b2,b3,b4⟩:=Lb n1 z z1 z2
  obtain⟨u,v,k2,b5,b6,b7,b8⟩:=Lb n2 z z1 z2
  refine⟨[x / 2,y / 2,H],?_,by rw[h];exact .post (by unfold pB;omega) (by unfold pB;omega) (by unfold hB;omega)⟩
  rw[h]
  simp[fH,fG,List.replicate,h,e1',e2,e3,hH,e4,k1,k2,wd,ņ,s1,s2,s3,s4,s5,d12,d13,d14,d15]
 ·obtain⟨x,y,k1,b1,b2,b3,b4⟩:=Lb n1 z z1 z2
  obtain⟨u,v,k2,b5,b6,b7,b8⟩:=Lb n2 z z1 z2
  by_cases q:x=u∧y=v
  ·refine⟨[x,y,u+1,v,H],?_,by rw[h];exact .fence (by unfold pB;omega) (by unfold pB;omega) (by unfold pB;omega) (by unfold pB;omega) (by unfold hB;omega) (by omega)⟩
   obtain⟨rfl,rfl⟩:=q
   rw[h]
   simp[fH,fG,List.replicate,h,e1',e2,e3,hH,e4,k1,k2,wd,ņ,s1,s2,s3,s4,s5,d21,d23,d24,d25,Ad,wY]
  ·refine⟨[x,y,u,v,H],?_,by rw[h];exact .fence (by unfold pB;omega) (by unfold pB;omega) (by unfold pB;omega) (by unfold pB;omega) (by unfold hB;omega) q⟩
   have q':(decide (x=u) && decide (y=v))=false:=by simpa using q
   rw[h]
   simp[fH,fG,List.replicate,h,e1',e2,e3,hH,e4,k1,k2,wd,ņ,s1,s2,s3,s4,s5,d21,d23,d24,d25,Ad,wY,q']
 ·obtain⟨x,y,k1,b1,b2,b3,b4⟩:=Lb n1 H (by omega) (by omega)
  obtain⟨u,v,k2,b5,b6,b7,b8⟩:=Lb n2 H (by omega) (by omega)
  obtain⟨x',u',k3,q1,q2,q3⟩:=Zy x u
  obtain⟨y',v',k4,q4,q5,q6⟩:=Zy y v
  refine⟨[x',y',u',v',H],?_,by rw[h];exact .sail (by unfold pB;omega) (by unfold pB;omega) (by unfold pB;omega) (by unfold pB;omega) (by unfold hB;omega) q1 q4⟩
  rw[h]
  simp[fH,fG,List.replicate,h,e1',e2,e3,hH,e4,k1,k2,k3,k4,wd,ņ,s1,s2,s3,s4,s5,d31,d32,d34,d35]
 ·have zz:∀k:Int,0≤n4 / k % (H+1)∧n4 / k % (H+1)≤900:=fun k=>by
   have:=Int.emod_nonneg (n4 / k) (show H+1≠0 by omega)
   have:=Int.emod_lt_of_pos (n4 / k) (show 0<H+1 by omega)
   omega
  have f1:∀t,cX t (H+1)=true:=fun t=>mj (by omega) (Z0A (by omega) (by omega))
  have f2:∀t,Int.fmod t (H+1)=t % (H+1):=fun t=>Int.fmod_eq_emod_of_nonneg _ (by omega)
  obtain⟨a,b,k1,b1,b2,b3,b4⟩:=Lb n1 (n4 / 1 % (H+1)) (zz 1).1 (zz 1).2
  obtain⟨d,e,k2,b5,b6,b7,b8⟩:=Lb n2 (n4 / 8 % (H+1)) (zz 8).1 (zz 8).2
  obtain⟨g,i,k3,b9,b10,b11,b12⟩:=Lb n3 (n4 / 15 % (H+1)) (zz 15).1 (zz 15).2
  refine⟨[a,b,n4 / 1 % (H+1),d,e,n4 / 8 % (H+1),g,i,n4 / 15 % (H+1)],?_,by rw[h];exact .cloth (by unfold pB;omega) (by unfold pB;omega) (zz 1) (by unfold pB;omega) (by unfold pB;omega) (zz 8) (by unfold pB;omega) (by unfold pB;omega) (zz 15)⟩
  rw[h]
  generalize zz1:n4 / 1 % (H+1)=za at *
  generalize zz8:n4 / 8 % (H+1)=zb at *
  generalize Zit:n4 / 15 % (H+1)=zc at *
  have Ziu:n4 % (H+1)=za:=by rw[←zz1,Int.ediv_one]
  have nz:(H+1=0)=False:=eq_false (by omega)
  have r3:bL [.int 3]=some [.int 0,.int 1,.int 2]:=ZY (n:=3) (by omega)
  simp[fH,fG,List.replicate,h,e1',e2,e3,hH,e4,k1,k2,k3,wd,ņ,s1,s2,s3,s4,s5,d41,d42,d43,d45,Gj,forL,r3,nz,f1,f2,Ziu,zz8,Zit,add_l]
 ·obtain⟨x,y,k1,b1,b2,b3,b4⟩:=Lb n1 z z1 z2
  obtain⟨u,v,k2,b5,b6,b7,b8⟩:=Lb n2 z z1 z2
  obtain⟨x',u',k3,q1,q2,q3⟩:=Zy x u
  obtain⟨y',v',k4,q4,q5,q6⟩:=Zy y v
  refine⟨[x',y',u',v',H],?_,by rw[h];exact .house (by unfold pB;omega) (by unfold pB;omega) (by unfold pB;omega) (by unfold pB;omega) (by unfold hB;omega) q1 q4⟩
  rw[h]
  simp[fH,fG,List.replicate,h,e1',e2,e3,hH,e4,k1,k2,k3,k4,wd,ņ,s1,s2,s3,s4,s5,d51,d52,d53,d54]
theorem Z2H:Z4 (wd 0)= "Post" := by decide +kernel
theorem Z2I:Z4 (wd 1)= "Fence" := by decide +kernel
theorem Z2J:Z4 (wd 2)= "Sail" := by decide +kernel
theorem Z2K:Z4 (wd 3)= "Cloth" := by decide +kernel
theorem Z2L:Z4 (wd 4)= "House" := by decide +kernel
theorem gd0(xs:List Int):Zd (wd 0) xs=Ze xs:=by simp[Zd,wd]
theorem gd1(xs:List Int):Zd (wd 1) xs=Zb xs:=by simp[Zd,wd,d21]
theorem gd2(xs:List Int):Zd (wd 2) xs=Z6 xs:=by simp[Zd,wd,d31,d32]
theorem gd3(xs:List Int):Zd (wd 3) xs=Zc xs:=by simp[Zd,wd,d41,d42,d43]
theorem gd4(xs:List Int):Zd (wd 4) xs=Z6 xs:=by simp[Zd,wd,d51,d52,d53,d54]
theorem Z1Y(k:Int):PyData.strOk (wd k)=true:=by
 unfold wd
 split
 ·exact s1
 split
 ·exact s2
 split
 ·exact s3
 split
 ·exact s4
 ·exact s5
theorem co0(p q h:Int):Z3 (wd 0) [p,q,h]=Zt (2*p-1) (2*q-1) (2*p+1) (2*q+1) h:=by unfold Z3;rw[Z2H];rfl
theorem co1(x y u v h:Int):Z3 (wd 1) [x,y,u,v,h]=[(x,y,0),(u,v,0),(u,v,h),(x,y,h)]:=by unfold Z3;rw[Z2I];rfl
theorem co2(x y u v h:Int):Z3 (wd 2) [x,y,u,v,h]=Zm x y u v h:=by unfold Z3;rw[Z2J];rfl
theorem co3(a b c d e f g i j:Int):Z3 (wd 3) [a,b,c,d,e,f,g,i,j]=[(a,b,c),(d,e,f),(g,i,j)]:=by unfold Z3;rw[Z2K];rfl
theorem co4(x y u v h:Int):Z3 (wd 4) [x,y,u,v,h]=Zt x y u v h:=by unfold Z3;rw[Z2L];rfl
theorem Z08{k:Int}{xs:List Int}(h:Bs k xs):Zd (wd k) xs=true:=by
 cases h with
 |post h1 h2 h3=>rw[gd0];simp[Ze,aF,vV];unfold pB hB at *;omega
 |fence h1 h2 h3 h4 h5 n=>rw[gd1];simp[Zb,Zf,aF,vV];unfold pB hB at *;omega
 |sail h1 h2 h3 h4 h5 n1 n2=>rw[gd2];simp[Z6,Zf,aF,vV];unfold pB hB at *;omega
 |cloth h1 h2 h3 h4 h5 h6 h7 h8 h9=>rw[gd3];simp[Zc,aF,vZ];unfold pB at *;omega
 |house h1 h2 h3 h4 h5 n1 n2=>rw[gd4];simp[Z6,Zf,aF,vV];unfold pB hB at *;omega
theorem ZR{ps:List PV}:aW Zi Zj Zk Zl [.tup ps,.ty "tuple"]=some (.bl true):=rfl
theorem Z1q{ps:List PV}:aW Zi Zj Zk Zl [.lst ps,.ty "list"]=some (.bl true):=rfl
theorem Z0B{x:Int}:aW Zi Zj Zk Zl [.int x,.ty "int"]=some (.bl true):=rfl
theorem Z09{x:Int}:aW Zi Zj Zk Zl [.int x,.ty "bool"]=some (.bl false):=rfl
theorem Z1r{x:Str}:aW Zi Zj Zk Zl [.str x,.ty "str"]=some (.bl true):=rfl
theorem Z2c{t b:Int}(hb:1≤b)(ht:0≤t)(hg:My.gd t b=1):vO [.sh (pt (t,b))]=.ret (.sh (.bl true)):=by
 obtain⟨⟨u,v⟩,e1,⟨e2,e3,e4⟩,e5⟩:=mq (mc:=(cG (Ć cu (ā 3) (mC (.int 0))))) (mb:=(MN 2 3 (ą (đ 3) (ą (Ć ŕ (ā 2) (ā 3)) ĝ))))
  (fun c:Int×Int=>[.sh (pt (t,b)),.sh (.int b),.sh (.int c.1),.sh (.int c.2)]) (fun c=>My.gd c.1 c.2=My.gd t b∧0≤c.1∧0≤c.2) (fun c=>c.2.natAbs) (b:=(t,b)) (by
    rintro ⟨u,v⟩ ⟨e,h1,h2⟩
    have h1':0≤u:=h1
    have h2':0≤v:=h2
    by_cases hv:v=0
    ·left;simp[hv]
    ·right;exact⟨by simp[hv],(v,u.fmod v),by simp[hv],⟨(My.Z0G u v).trans e,h2',Int.fmod_nonneg_of_pos u (by omega)⟩,My.Z0H u hv⟩) ⟨rfl,ht,by omega⟩
 have hv:v=0:=by simpa using e5
 have e3':0≤u:=e3
 subst hv
 have e2':My.gd u 0=1:=e2.trans hg
 rw[My.Z0I,if_neg (by omega)] at e2'
 subst e2'
 have e1':Qi [.sh (pt (t,b)),.sh (.int b),.sh (.int t),.sh (.int b)]=_:=e1
 have h1:¬b<1:=by omega
 have h2:¬t<0:=by omega
 simp only[pt] at e1'
 simp[vO,Gv,Qj,List.replicate,pt,ZR,Z0B,Z09,forL,h1,h2,e1']
theorem Zz{s W:Int}(hW:W≠0):1≤(rt s W).2∧My.gd (rt s W).1 (rt s W).2=1∧(rt s W).1*W=s*(rt s W).2:=My.Z1y s hW
theorem Z1s{s W:Int}(hW:W≠0)(h:0≤s*W):0≤(rt s W).1:=by
 obtain⟨h1,_,h3⟩:=Zz (s:=s) hW
 have e:(rt s W).1*(W*W)=(s*W)*(rt s W).2:=by
  calc (rt s W).1*(W*W)=((rt s W).1*W)*W:=by rw[Int.mul_assoc]
   _=s*(rt s W).2*W:=by rw[h3]
   _=(s*W)*(rt s W).2:=by rw[Int.mul_assoc,Int.mul_comm (rt s W).2 W,←Int.mul_assoc]
 have hp:0<W*W:=by
  rcases Int.lt_or_gt_of_ne hW with q|q
  ·exact Int.mul_pos_of_neg_of_neg q q
  ·exact Int.mul_pos q q
 have hn:0≤(s*W)*(rt s W).2:=Int.mul_nonneg h (by omega)
 by_cases q:0≤(rt s W).1
 ·exact q
 ·have:=Int.mul_neg_of_neg_of_pos (show(rt s W).1<0 by omega) hp
  omega
theorem Z0N{s W:Int}(hs:bits s≤200)(hW:bits W≤200):bits (rt s W).1≤200∧bits (rt s W).2≤200:=⟨intBits_fdiv_le hs,intBits_fdiv_le hW⟩
theorem Z1t{s W C:Int}(hW:W≠0)(hd:(rt s W).2 ∣ C):C.fdiv (rt s W).2*(rt s W).1*W=C*s:=by
 obtain⟨h1,_,h3⟩:=Zz (s:=s) hW
 rw[Int.fdiv_eq_ediv_of_nonneg _ (by omega)]
 exact Fr.Z1B (by omega) h3 hd
theorem Z0O{W:Int}(hW:bits W≤200)(s0 s1 s2:P.Slot):∀(L:List Int) (c:Int) (s6 s7:P.Slot),bits c+200*L.length≤100000→∃s6' s7',forL (gT 2 (ě (gN 6) (ě (gN 7) Ŧ))) sO (L.map fun s=>pt (rt s W)) [s0,s1,s2,.sh (.int c),.no,.no,s6,s7]=.ok .nx [s0,s1,s2,.sh (.int ((L.map fun s=>(rt s W).2).foldl (·* ·) c)),.no,.no,s6',s7']∧bits ((L.map fun s=>(rt s W).2).foldl (·* ·) c)≤100000
 | [],c,s6,s7,h=>⟨s6,s7,rfl,by simpa using(show bits c≤100000 by simp at h;omega)⟩
 |s::L,c,s6,s7,h=>by
  rw[List.length_cons] at h
  have hb:bits (rt s W).2≤200:=intBits_fdiv_le hW
  have hm:ň c (rt s W).2=true:=Ep (by omega) (by omega)
  have hc:bits (c*(rt s W).2)≤bits c+200:=intBits_mul_le (Nat.le_refl _) hb
  obtain⟨s6',s7',e,e'⟩:=Z0O hW s0 s1 s2 L (c*(rt s W).2) (.sh (.int (rt s W).1)) (.sh (.int (rt s W).2)) (by omega)
  refine⟨s6',s7',?_,e'⟩
  have hbody:sO [s0,s1,s2,.sh (.int c),.no,.no,.sh (.int (rt s W).1),.sh (.int (rt s W).2)]=.ok .nx [s0,s1,s2,.sh (.int (c*(rt s W).2)),.no,.no,.sh (.int (rt s W).1),.sh (.int (rt s W).2)]:=by
   simp[sO,hm]
  rw[List.map_cons,List.map_cons,List.foldl_cons,forL]
  have hg:gT 2 (ě (gN 6) (ě (gN 7) Ŧ)) (pt (rt s W)) [s0,s1,s2,.sh (.int c),.no,.no,s6,s7]=some [s0,s1,s2,.sh (.int c),.no,.no,.sh (.int (rt s W).1),.sh (.int (rt s W).2)]:=by simp[pt]
  rw[hg]
  dsimp only
  rw[hbody]
  exact e
def ax(j:Nat)(p:Hu.Pt):Int:=if j=0 then p.1 else p.2
theorem Z1Z{j:Nat}(hj:j<2)(p:Hu.Pt):ę (pt p) (.int j)=some (.int (ax j p)):=by
 have h:j=0∨j=1:=by omega
 rcases h with rfl|rfl<;>rfl
theorem Z0P{S:List Hu.Pt}{p:Hu.Pt}{H:List Int}{C:Int}{j:Nat}(hj:j<2)(hl:H.length=S.length)(hn:S.length≤100){sl:P.Slot}(hs:Sl sl (S.map pt))(hb:∀x∈H,bits x≤100400)(hC:bits C≤100000)(hS:∀q∈S,Sm q)
 (hp:Sm p)(heq:((List.range S.length).map fun k=>H.getD k 0*ax j (Hu.at_ S k)).sum=C*ax j p)(s0 s6 s7:P.Slot):nJ [s0,sl,.sh (pt p),.sh (.int C),.ow (H.map .int),.sh (.int j),s6,s7]=.ok .nx [s0,sl,.sh (pt p),.sh (.int C),.ow (H.map .int),.sh (.int j),s6,s7]:=by
 have sax:∀q,Sm q→ -100000000000000000≤ax j q∧ax j q≤100000000000000000:=by
  rintro q ⟨a1,a2,a3,a4⟩
  unfold ax
  split<;>omega
 have c1:ŗ (gN 3) Ŗ (Ć Ğ (Ć ę (ā 0) (ā 3)) (Ć ę (Ć ę (ā 2) (ā 3)) (ā 1))) ((List.range S.length).map fun(i:Nat)=>PV.int (i:Int)) [.bw (H.map .int),.sh (.int j),sl,.no] []=some (((List.range S.length).map fun k=>H.getD k 0*ax j (Hu.at_ S k)).map .int):=by
  have:=Ř (g:=gN 3) (mt:=Ŗ) (me:=Ć Ğ (Ć ę (ā 0) (ā 3)) (Ć ę (Ć ę (ā 2) (ā 3)) (ā 1))) (fun(i:Nat)=>PV.int (i:Int)) (fun k=>.int (H.getD k 0*ax j (Hu.at_ S k))) (fun ρ=>∃s,ρ=[.bw (H.map .int),.sh (.int j),sl,s]) (List.range S.length) [.bw (H.map .int),.sh (.int j),sl,.no] [] ⟨_,rfl⟩ (by simp;omega) (by
   rintro k hk ρ ⟨s,rfl⟩
   have hk':k<S.length:=List.mem_range.mp hk
   have hH:(H.map PV.int)[k]?=some (.int (H.getD k 0)):=by
    rw[List.getElem?_map,List.getD_eq_getElem?_getD,List.getElem?_eq_getElem (by omega)]
    rfl
   have hx:=sax _ (hS _ (Hu.ZF hk'))
   have hm:ň (H.getD k 0) (ax j (Hu.at_ S k))=true:=mul_r (by omega) (by omega)
   refine⟨[.bw (H.map .int),.sh (.int j),sl,.sh (.int k)],[.bw (H.map .int),.sh (.int j),sl,.sh (.int k)],[.bw (H.map .int),.sh (.int j),sl,.sh (.int k)],by simp,by simp,?_,_,rfl⟩
   have hpt:=Z1Z hj (Hu.at_ S k)
   generalize H.getD k 0=x at *
   generalize ax j (Hu.at_ S k)=y at *
   rcases hs with rfl|rfl<;>simp[hH,dG hk',hpt,hm,-List.getElem?_map])
  rw[this,List.map_map]
  rfl
 have hpp:=Z1Z hj p
 have hx:=sax p hp
 have hm:ň C (ax j p)=true:=mul_r (by omega) (by omega)
 have hr:=ZY (show S.length≤1000 by omega)
 have hsum:mK [.lst (((List.range S.length).map fun k=>H.getD k 0*ax j (Hu.at_ S k)).map .int)]=some (.int (C*ax j p)):=by
  simp only[aO,cC,Option.map_some,heq]
 have hlen:dO [.lst (S.map pt)]=some (.int S.length):=by simp
 generalize (((List.range S.length).map fun k=>H.getD k 0*ax j (Hu.at_ S k)).map PV.int)=zs at c1 hsum
 generalize ((List.range S.length).map fun(i:Nat)=>PV.int (i:Int))=is at c1 hr
 generalize ax j p=y at *
 rcases hs with rfl|rfl<;>simp[nJ,-fZ,hlen,hr,c1,hsum,hpp,hm,-aO]
theorem Z2B{S:List Hu.Pt}{p:Hu.Pt}{L:List Int}{W:Int}(hW:W≠0)(hWb:bits W≤200)(hL:∀s∈L,bits s≤200∧0≤s*W)(hl:L.length=S.length)(hn:S.length≤100)(hS:∀q∈S,Sm q)(hp:Sm p)(h1:L.sum=W)
 (hx:∀j,j<2→Fr.df L (fun k=>ax j (Hu.at_ S k))=W*ax j p){sl:P.Slot}(hs:Sl sl (S.map pt)):jY [.sh (.lst (L.map fun s=>pt (rt s W))),sl,.sh (pt p)]=.ret (.sh (.bl true)):=by
 have c1:ŗ (gN 0) Ŗ (Ě (Ġ vO (Ċ 0 ĕ))) (L.map fun s=>pt (rt s W)) [.no] []=some ((L.map fun _=>true).map .bl):=by
  have:=Ř (g:=gN 0) (mt:=Ŗ) (me:=Ě (Ġ vO (Ċ 0 ĕ))) (fun s=>pt (rt s W)) (fun _=>.bl true) (fun ρ=>∃s,ρ=[s]) L [.no] [] ⟨_,rfl⟩ (by simp;omega) (by
   rintro s hm ρ ⟨sl',rfl⟩
   obtain⟨f1,f2,f3⟩:=Zz (s:=s) hW
   have:=Z2c f1 (Z1s hW (hL s hm).2) f2
   exact⟨[.sh (pt (rt s W))],[.sh (pt (rt s W))],[.sh (pt (rt s W))],by simp,by simp,by simp[this],_,rfl⟩)
  rw[this,List.map_map]
  rfl
 have c2:=Z01 (L.map fun _=>true)
 have c2':(L.map fun _=>true).all id=true:=by simp
 rw[c2'] at c2
 obtain⟨s6,s7,e,hCb⟩:=Z0O hWb (.sh (.lst (L.map fun s=>pt (rt s W)))) sl (.sh (pt p)) L 1 .no .no (by
  have:bits 1≤1:=lE (n:=1) (by decide) (by decide)
  omega)
 have hdv:∀s∈L,(rt s W).2 ∣ (L.map fun s=>(rt s W).2).foldl (·* ·) 1:=fun s hm=>(Fr.Z0l _ _).2 _ (List.mem_map_of_mem (f:=fun s=>(rt s W).2) hm)
 have hpos:0<(L.map fun s=>(rt s W).2).foldl (·* ·) 1:=Fr.Z0m _ _ (by decide) fun b hb=>by
  obtain⟨s,_,rfl⟩:=List.mem_map.mp hb
  have:=(Zz (s:=s) hW).1
  omega
 generalize hC:(L.map fun s=>(rt s W).2).foldl (·* ·) 1=C at *
 have c3:ŗ (gT 2 (ě (gN 1) (ě (gN 2) Ŧ))) Ŗ (Ć Ğ (Ć Ŭ (ā 0) (ā 2)) (ā 1)) (L.map fun s=>pt (rt s W)) [.sh (.int C),.no,.no] []=some ((L.map fun s=>C.fdiv (rt s W).2*(rt s W).1).map .int):=by
  have:=Ř (g:=gT 2 (ě (gN 1) (ě (gN 2) Ŧ))) (mt:=Ŗ) (me:=Ć Ğ (Ć Ŭ (ā 0) (ā 2)) (ā 1)) (fun s=>pt (rt s W)) (fun s=>.int (C.fdiv (rt s W).2*(rt s W).1)) (fun ρ=>∃a b,ρ=[.sh (.int C),a,b]) L [.sh (.int C),.no,.no] [] ⟨_,_,rfl⟩ (by simp;omega) (by
   rintro s hm ρ ⟨a,b,rfl⟩
   obtain⟨f1,f2,f3⟩:=Zz (s:=s) hW
   obtain⟨g1,g2⟩:=Z0N (hL s hm).1 hWb
   have hf:cX C (rt s W).2=true:=mj (by omega) (by omega)
   have hm:ň (C.fdiv (rt s W).2) (rt s W).1=true:=Ep (Nat.le_trans (intBits_fdiv_le hCb) (by decide)) (by omega)
   exact⟨[.sh (.int C),.sh (.int (rt s W).1),.sh (.int (rt s W).2)],[.sh (.int C),.sh (.int (rt s W).1),.sh (.int (rt s W).2)],[.sh (.int C),.sh (.int (rt s W).1),.sh (.int (rt s W).2)],by simp[pt],by simp,by simp[hf,hm],_,_,rfl⟩)
  rw[this,List.map_map]
  rfl
 have hone:∀s∈L,C.fdiv (rt s W).2*(rt s W).1*W=C*s:=fun s hm=>Z1t hW (hdv s hm)
 have hsum:(L.map fun s=>C.fdiv (rt s W).2*(rt s W).1).sum=C:=by
  have:=Fr.ZC (f:=fun s=>C.fdiv (rt s W).2*(rt s W).1) (g:=fun s=>s) L hone
  rw[List.map_id',h1] at this
  exact Int.eq_of_mul_eq_mul_right hW this
 have hHb:∀x∈L.map (fun s=>C.fdiv (rt s W).2*(rt s W).1),bits x≤100400:=by
  intro x hx
  obtain⟨s,hm,rfl⟩:=List.mem_map.mp hx
  obtain⟨g1,g2⟩:=Z0N (hL s hm).1 hWb
  exact Nat.le_trans (intBits_mul_le (intBits_fdiv_le hCb) g1) (by decide)
 have hax:∀j,j<2→((List.range S.length).map fun k=>(L.map fun s=>C.fdiv (rt s W).2*(rt s W).1).getD k 0*ax j (Hu.at_ S k)).sum=C*ax j p:=by
  intro j hj
  have h:=Fr.ZC (W:=W) (C:=C) (f:=fun k=>(L.map fun s=>C.fdiv (rt s W).2*(rt s W).1).getD k 0*ax j (Hu.at_ S k)) (g:=fun k=>L.getD k 0*ax j (Hu.at_ S k)) (List.range S.length) (fun k hk=>by
   have hk':k<L.length:=by rw[hl];exact List.mem_range.mp hk
   have e1:(L.map fun s=>C.fdiv (rt s W).2*(rt s W).1).getD k 0=C.fdiv (rt L[k] W).2*(rt L[k] W).1:=by
    rw[List.getD_eq_getElem?_getD,List.getElem?_map,List.getElem?_eq_getElem hk']
    rfl
   have e2:L.getD k 0=L[k]:=by rw[List.getD_eq_getElem?_getD,List.getElem?_eq_getElem hk'];rfl
   show(L.map fun s=>C.fdiv (rt s W).2*(rt s W).1).getD k 0*ax j (Hu.at_ S k)*W=C*(L.getD k 0*ax j (Hu.at_ S k))
   rw[e1,e2]
   have:=hone L[k] (List.getElem_mem hk')
   calc C.fdiv (rt L[k] W).2*(rt L[k] W).1*ax j (Hu.at_ S k)*W=(C.fdiv (rt L[k] W).2*(rt L[k] W).1*W)*ax j (Hu.at_ S k):=by rw[Int.mul_assoc,Int.mul_comm (ax j _) W,←Int.mul_assoc]
    _=C*L[k]*ax j (Hu.at_ S k):=by rw[this]
    _=C*(L[k]*ax j (Hu.at_ S k)):=by rw[Int.mul_assoc])
  have hd:=Fr.Z0n L (fun k=>ax j (Hu.at_ S k))
  rw[hx j hj,hl] at hd
  rw[←hd] at h
  refine Int.eq_of_mul_eq_mul_right hW (h.trans ?_)
  rw[Int.mul_assoc,Int.mul_comm W]
 have t0:=Z0P (j:=0) (by decide) (H:=L.map fun s=>C.fdiv (rt s W).2*(rt s W).1) (by simpa using hl) hn hs hHb hCb hS hp (hax 0 (by decide)) (.sh (.lst (L.map fun s=>pt (rt s W)))) s6 s7
 have t1:=Z0P (j:=1) (by decide) (H:=L.map fun s=>C.fdiv (rt s W).2*(rt s W).1) (by simpa using hl) hn hs hHb hCb hS hp (hax 1 (by decide)) (.sh (.lst (L.map fun s=>pt (rt s W)))) s6 s7
 have hsum':mK [.lst ((L.map fun s=>C.fdiv (rt s W).2*(rt s W).1).map .int)]=some (.int C):=by
  simp only[aO,cC,Option.map_some,hsum]
 have hl1:dO [.lst (L.map fun s=>pt (rt s W))]=some (.int S.length):=by simp[hl]
 have hl2:dO [.lst (S.map pt)]=some (.int S.length):=by simp
 have hr2:bL [.int 2]=some [.int 0,.int 1]:=rfl
 generalize (L.map fun _=>true).map PV.bl=bs at c1 c2
 generalize (L.map fun s=>C.fdiv (rt s W).2*(rt s W).1).map PV.int=hs' at c3 hsum' t0 t1
 generalize L.map (fun s=>pt (rt s W))=V at c1 e c3 t0 t1 hl1
 have t0':nJ [.sh (.lst V),sl,.sh (pt p),.sh (.int C),.ow hs',.sh (.int 0),s6,s7]=_:=t0
 have t1':nJ [.sh (.lst V),sl,.sh (pt p),.sh (.int C),.ow hs',.sh (.int 1),s6,s7]=_:=t1
 rcases hs with rfl|rfl
 ·simp[jY,sS,List.replicate,Z1q,-fZ,hl1,hl2,c1,c2,e,c3,hsum',-aO,hr2,forL,t0',t1']
 ·simp[jY,sS,List.replicate,Z1q,-fZ,hl1,hl2,c1,c2,e,c3,hsum',-aO,hr2,forL,t0',t1']
theorem Z2o{S:List Hu.Pt}{p:Hu.Pt}{l:Hu.Ln}(hl:Z_ l)(h1:∀s∈S,Hu.hd l s=true)(h2:Hu.hd l p=false)(hn:S.length≤100){sl:P.Slot}(hs:Sl sl (S.map pt)):nM [.sh (dw l),sl,.sh (pt p)]=.ret (.sh (.bl true)):=by
 obtain⟨a1,a2,a3,a4⟩:=hl
 have m1:∀x,ň l.1 x=true:=fun x=>Ź (by omega) (by omega)
 have m2:∀x,ň l.2.1 x=true:=fun x=>Ź (by omega) (by omega)
 have c1:ŗ (gT 2 (ě (gN 3) (ě (gN 4) Ŧ))) Ŗ (Ć jm (Ě (Ľ ĵ (Ć Ğ (ā 1) (ā 3)) (Ć Ğ (ā 2) (ā 4)))) (ā 0)) (S.map pt) [.sh (.int l.2.2),.sh (.int l.1),.sh (.int l.2.1),.no,.no] []=some ((S.map fun _=>true).map .bl):=by
  have:=Ř (g:=gT 2 (ě (gN 3) (ě (gN 4) Ŧ))) (mt:=Ŗ) (me:=Ć jm (Ě (Ľ ĵ (Ć Ğ (ā 1) (ā 3)) (Ć Ğ (ā 2) (ā 4)))) (ā 0)) pt (fun _=>.bl true) (fun ρ=>∃a b,ρ=[.sh (.int l.2.2),.sh (.int l.1),.sh (.int l.2.1),a,b]) S [.sh (.int l.2.2),.sh (.int l.1),.sh (.int l.2.1),.no,.no] [] ⟨_,_,rfl⟩ (by simp;omega) (by
   rintro s hm ρ ⟨a,b,rfl⟩
   have hh:=h1 s hm
   unfold Hu.hd at hh
   rw[decide_eq_true_eq] at hh
   exact⟨[.sh (.int l.2.2),.sh (.int l.1),.sh (.int l.2.1),.sh (.int s.1),.sh (.int s.2)],[.sh (.int l.2.2),.sh (.int l.1),.sh (.int l.2.1),.sh (.int s.1),.sh (.int s.2)],[.sh (.int l.2.2),.sh (.int l.1),.sh (.int l.2.1),.sh (.int s.1),.sh (.int s.2)],by simp[pt],by simp,by simp[m1,m2,hh],_,_,rfl⟩)
  rw[this,List.map_map]
  rfl
 have c2:=Z01 (S.map fun _=>true)
 have c2':(S.map fun _=>true).all id=true:=by simp
 rw[c2'] at c2
 unfold Hu.hd at h2
 rw[decide_eq_false_iff_not] at h2
 generalize (S.map fun _=>true).map PV.bl=bs at c1 c2
 generalize hS:S.map pt=ps at c1 hs
 rcases hs with rfl|rfl
 ·simp[nM,sU,yw,List.replicate,dw,pt,ZR,Z0B,Z09,forL,m1,m2,h2,c1,c2]
 ·simp[nM,sU,yw,List.replicate,dw,pt,ZR,Z0B,Z09,forL,m1,m2,h2,c1,c2]
theorem Z20:Ū (.str "in") (.str "in")=some (.bl true):=by rw[ņ (by decide +kernel) (by decide +kernel)];rfl
theorem Z21:Ū (.str "out") (.str "in")=some (.bl false):=by rw[ņ (by decide +kernel) (by decide +kernel),decide_eq_false (by decide +kernel)]
theorem Z2C:Ū (.str "out") (.str "out")=some (.bl true):=by rw[ņ (by decide +kernel) (by decide +kernel)];rfl
theorem Z2d{S:List Hu.Pt}(hS:∀p∈S,Sm p){p:Hu.Pt}(hp:Sm p):Xn (Hu.Za S p).1:=by
 have hat:∀i,i<S.length→Sm (Hu.at_ S i):=fun i h=>hS _ (Hu.ZF h)
 unfold Hu.Za
 cases e3:Hu.Z0k S p with
 |some r=>
  obtain⟨⟨i,j,k⟩,hm,hr⟩:=List.exists_of_findSome?_eq_some e3
  obtain⟨h1,h2,h3⟩:=Hu.Z9.mp hm
  split at hr
  ·cases hr
   exact Z1i (hat i (by omega)) (hat j (by omega)) (hat k h3) hp
  ·cases hr
 |none=>
  cases e2:Hu.Z0R S p with
  |some r=>
   obtain⟨⟨i,j⟩,hm,hr⟩:=List.exists_of_findSome?_eq_some e2
   obtain⟨h1,h2⟩:=Hu.Zs.mp hm
   split at hr
   ·cases hr
    exact Z1j (hat i (by omega)) (hat j h2) hp
   ·cases hr
  |none=>exact⟨by simp,by simp⟩
theorem ZX{α β:Type}:∀{l:List α} {m:List β},l.length=m.length→(l.zip m).map (·.2)=m
 | [],[],_=>rfl
 |_::l,_::m,h=>by simp[ZX (l:=l) (m:=m) (by simpa using h)]
 | [],_::_,h=>by simp at h
 |_::_,[],h=>by simp at h
theorem ZD{α β:Type}:∀{l:List α} {m:List β},l.length=m.length→(l.zip m).map (·.1)=l
 | [],[],_=>rfl
 |_::l,_::m,h=>by simp[ZD (l:=l) (m:=m) (by simpa using h)]
 | [],_::_,h=>by simp at h
 |_::_,[],h=>by simp at h
theorem Z1u{S:List Hu.Pt}(h0:S≠[])(hS:∀p∈S,Sm p)(hn:S.length≤100){p:Hu.Pt}(hp:Sm p){sl:P.Slot}(hs:Sl sl (S.map pt)):jZ [.sh (Z0i S p),sl,.sh (pt p)]=.ret (.sh (.bl true)):=by
 unfold Z0i
 cases e:Hu.Zo S p with
 |some l=>
  obtain⟨h1,h2⟩:=Hu.Z12 e
  have ho:=Z2o (Z1f h1 hS) (fun s hm=>Hu.Z0Q h1 hm) h2 hn hs
  simp[jZ,sV,List.replicate,hs.lend,ZR,Z1r,Z21,Z2C,ho]
 |none=>
  have hg:=Hu.Z15 h0 e
  have hsh:=Z2d hS hp
  obtain⟨b1,b2⟩:=hsh.sum
  have hz:∀x∈(Hu.Za S p).1.zip (Hu.Za S p).2,x.2<(List.replicate S.length (0:Int)).length:=fun x hx=>by
   rw[List.length_replicate]
   exact hg.lt _ (List.of_mem_zip hx).2
  have hz0:∀x∈(Hu.Za S p).1.zip (Hu.Za S p).2,(List.replicate S.length (0:Int)).getD x.2 0=0:=fun x hx=>by
   rw[List.getD_eq_getElem?_getD,List.getElem?_replicate]
   split<;>rfl
  have hnd:(((Hu.Za S p).1.zip (Hu.Za S p).2).map (·.2)).Nodup:=by rw[ZX hg.len];exact hg.nd
  have hdf:∀f,Fr.df (Fr.lay (List.replicate S.length 0) ((Hu.Za S p).1.zip (Hu.Za S p).2)) f=(((Hu.Za S p).1.zip (Hu.Za S p).2).map fun x=>x.1*f x.2).sum:=fun f=>by
   rw[Fr.Z17 _ _ f hnd hz hz0,Fr.Z23]
   omega
  have hi:=Z2B (S:=S) (p:=p) (L:=Fr.lay (List.replicate S.length 0) ((Hu.Za S p).1.zip (Hu.Za S p).2)) (W:=(Hu.Za S p).1.sum) hg.sum (Zu b1 b2) (fun s hm=>by
   rcases Fr.Z0J _ _ _ hm with q|q
   ·have:s=0:=(List.mem_replicate.mp q).2
    subst this
    exact⟨Zu (by decide) (by decide),by simp⟩
   ·rw[ZD hg.len] at q
    have:=hsh.2 s q
    exact⟨Zu (by omega) (by omega),hg.sign s q⟩) (by rw[Fr.Z06,List.length_replicate]) hn hS hp (by
    rw[←Fr.Z18,hdf]
    simp only[Int.mul_one]
    rw[ZD hg.len]) (by
    intro j hj
    rw[hdf]
    have h:j=0∨j=1:=by omega
    rcases h with rfl|rfl
    ·exact hg.x
    ·exact hg.y) hs
  have hi':jY [.sh (.lst (Cj S (Hu.Za S p))),sl,.sh (pt p)]=.ret (.sh (.bl true)):=hi
  simp[jZ,sV,List.replicate,hs.lend,ZR,Z1r,Z20,hi']
theorem isb(b:Bool):aW Zi Zj Zk Zl [.bl b,.ty "bool"]=some (.bl true):=by rfl
theorem neb(b:Bool):cu (.bl b) (.bl b)=some (.bl false):=by cases b<;>rfl
theorem Zw(x y u v z:Int):bN [.sh (.int x),.sh (.int y),.sh (.int u),.sh (.int v),.sh (.int z)]=.ret (.ow ((Zm x y u v z).map c3)):=by
 simp[bN,yx,List.replicate,Zm,c3]
theorem Z1v(x y u v h:Int):lF [.sh (.str (Str.ofString "house")),.sh (.lst [.int x,.int y,.int u,.int v,.int h])]=.ret (.ow ((Zt x y u v h).map c3)):=by
 have e1:=Zw x y u v 0
 have e2:=Zw x y u v h
 simp[lF,nO,List.replicate,ņ,s1,s2,s3,s4,s5,d51,d52,d53,d54,e1,e2,Zt,Zm,c3,add_l]
theorem Z1Q{k:Int}{xs:List Int}(hb:Bs k xs):fL [.sh (.str (wd k)),.sh (.lst (xs.map .int))]=.ret (.ow ((Z3 (wd k) xs).map c3)):=by
 cases hb with
 |@post p q h k1 k2 k3=>
  have e:=Z1v (2*p-1) (2*q-1) (2*p+1) (2*q+1) h
  rw[co0]
  simp[fL,gZ,List.replicate,wd,ņ,s1,s2,s3,s4,s5,d12,d13,d14,d15,e]
 |@fence x y u v h k1 k2 k3 k4 k5 n=>
  rw[co1]
  simp[fL,gZ,List.replicate,wd,ņ,s1,s2,s3,s4,s5,d21,d23,d24,d25,c3]
 |@sail x y u v h k1 k2 k3 k4 k5 n1 n2=>
  have e:=Zw x y u v h
  rw[co2]
  simp[fL,gZ,List.replicate,wd,ņ,s1,s2,s3,s4,s5,d31,d32,d34,d35,e]
 |@cloth a b c d e f g i j k1 k2 k3 k4 k5 k6 k7 k8 k9=>
  rw[co3]
  simp[fL,gZ,List.replicate,wd,ņ,s1,s2,s3,s4,s5,d41,d42,d43,d45,c3,ŗ,YQ,jq,HT.ig]
 |@house x y u v h k1 k2 k3 k4 k5 n1 n2=>
  have e1:=Zw x y u v 0
  have e2:=Zw x y u v h
  rw[co4]
  simp[fL,gZ,List.replicate,wd,ņ,s1,s2,s3,s4,s5,d51,d52,d53,d54,e1,e2,Zt,Zm,c3,add_l]
theorem Z0C{r:P3}(hr:RB r)(p:P3):gO [.sh (c3 p),.sh (c3 r)]=.ret (.sh (pt (cst r p))):=by
 obtain⟨h1,h2,h3,h4,h5,h6⟩:=hr
 have m1:∀y,ň r.2.2 y=true:=fun y=>Ź (by omega) (by omega)
 have m2:∀y,ň r.1 y=true:=fun y=>Ź (by omega) (by omega)
 have m3:∀y,ň r.2.1 y=true:=fun y=>Ź (by omega) (by omega)
 simp[gO,yu,List.replicate,c3,pt,cst,m1,m2,m3]
theorem Z0F{r:P3}(hr:RB r){L:List P3}(hl:L.length≤100)(s1:P.Slot):ŗ (gN 1) Ŗ (Ě (Ġ gO (Ċ 1 (Ċ 0 ĕ)))) (L.map c3) [.sh (c3 r),s1] []=some ((L.map (cst r)).map pt):=by
 have:=Ř (g:=gN 1) (mt:=Ŗ) (me:=Ě (Ġ gO (Ċ 1 (Ċ 0 ĕ)))) c3 (fun p=>pt (cst r p)) (fun ρ=>∃s,ρ=[.sh (c3 r),s]) L [.sh (c3 r),s1] [] ⟨_,rfl⟩ (by simp;omega) (by
  rintro p hp ρ ⟨s,rfl⟩
  have e:=Z0C hr p
  generalize c3 r=R at *
  generalize c3 p=Q at *
  exact⟨[R |> .sh,.sh Q],[.sh R,.sh Q],[.sh R,.sh Q],by simp,by simp,by simp[e],_,rfl⟩)
 rw[this]
 simp
theorem Z2D{S:List Hu.Pt}(h0:S≠[])(hS:∀p∈S,Sm p)(hn:S.length≤100){p:Hu.Pt}(hp:Sm p){sl:P.Slot}(hs:Sl sl (S.map pt)):jZ [.sh (Zx S p).val,sl,.sh (pt p)]=.ret (.sh (.bl true)):=by
 rw[Z1k]
 exact Z1u h0 hS hn hp hs
theorem Z1w{k:Int}{xs:List Int}(hb:Bs k xs){s:Hu.Pt}(hs: -1000≤s.1∧s.1≤1000∧ -1000≤s.2∧s.2≤1000){r:P3}(hr:RB r){Told Things:List PV}{i:Nat}
 (hT:Told[i]?=some (.tup [pt s,c3 r,.str (wd k),.lst (xs.map .int)]))(hG:Things[i]?=some (Z0 (Z4 (wd k)) (wd k) xs))(z0 z4 z5 z6 z7 z8 z9 Cu:P.Slot) :
 ∃y4 y5 y6 y7 y8 y9 y10,fM [z0,.sh (.lst Told),.sh (.int i),.ow Things,z4,z5,z6,z7,z8,z9,Cu]=.ok .nx [z0,.sh (.lst Told),.sh (.int i),.ow Things,y4,y5,y6,y7,y8,y9,y10]:=by
 have hg:=Z08 hb
 obtain⟨g1,g2,g3⟩:=Z0z hg
 have hp:PB (n_ s):=by unfold PB n_;dsimp only;omega
 have e1:=Z1Q hb
 have e2:=Z0F hr (L:=Z3 (wd k) xs) (by omega) .no
 have e3:=ZW hg hr hp
 have e4:=Z0C hr (n_ s)
 have e4':PV.tup [.int (2*s.1),.int (2*s.2),.int 0]=c3 (n_ s):=rfl
 have hSm:∀q∈(Z3 (wd k) xs).map (cst r),Sm q:=by
  intro q hq
  obtain⟨t,ht,rfl⟩:=List.mem_map.mp hq
  exact Z03 hr (g3 t ht)
 have e5:=Z2D (S:=(Z3 (wd k) xs).map (cst r)) (by simpa using g2) hSm (by simp;omega) (p:=cst r (n_ s)) (Z03 hr hp) (sl:=.bw (((Z3 (wd k) xs).map (cst r)).map pt)) (.inr rfl)
 have e6:=Z1m hg hr hp
 have hx1:jc Told (i:Int)=some (.tup [pt s,c3 r,.str (wd k),.lst (xs.map .int)]):=by
  rw[←hT]
  have:=(List.getElem?_eq_some_iff.mp hT).1
  unfold jc wJ
  simp[this]
 have hx2:jc Things (i:Int)=some (Z0 (Z4 (wd k)) (wd k) xs):=by
  rw[←hG]
  have:=(List.getElem?_eq_some_iff.mp hG).1
  unfold jc wJ
  simp[this]
 unfold Zx at e3 e5
 unfold shB at e6
 have hL:(Cj ((Z3 (wd k) xs).map (cst r)) (Hu.Za ((Z3 (wd k) xs).map (cst r)) (cst r (n_ s)))).length<16777216:=by
  unfold Cj
  rw[List.length_map,Fr.Z06,List.length_replicate,List.length_map]
  omega
 generalize pt (cst r (n_ s))=Z at *
 generalize xs.map PV.int=X at *
 generalize (Z3 (wd k) xs).map c3=C at *
 generalize ((Z3 (wd k) xs).map (cst r)).map pt=Y at *
 generalize Z0 (Z4 (wd k)) (wd k) xs=Th at *
 cases e:Hu.Zo ((Z3 (wd k) xs).map (cst r)) (cst r (n_ s)) with
 |none=>
  rw[e] at e3 e5 e6
  dsimp only at e3 e5 e6
  generalize Cj ((Z3 (wd k) xs).map (cst r)) (Hu.Za ((Z3 (wd k) xs).map (cst r)) (cst r (n_ s)))=L at *
  generalize wd k=W at *
  generalize hc:c3 (n_ s)=Cs at *
  generalize c3 r=R at *
  obtain⟨a,b⟩:=s
  refine⟨.sh (pt (a,b)),.sh R,.ow Y,.ot [.str "in"] (L ++ [.tup [.int 1,.int 1]]),.sh (.bl true),.sh (.str W),.sh (.lst X),?_⟩
  simp only[pt,Option.isNone_none,Va,List.cons_append,List.nil_append] at *
  simp[fM,hx1,hx2,e1,e2,e3,e4,e4',e5,e6,isb,neb,Z20,hL]
 |some l=>
  rw[e] at e3 e5 e6
  dsimp only at e3 e5 e6
  generalize wd k=W at *
  generalize hc:c3 (n_ s)=Cs at *
  generalize c3 r=R at *
  generalize dw l=Lv at *
  obtain⟨a,b⟩:=s
  refine⟨.sh (pt (a,b)),.sh R,.ow Y,.sh (.tup [.str "out",Lv]),.sh (.bl false),.sh (.str W),.sh (.lst X),?_⟩
  simp only[pt,Option.isNone_some,RV.val] at *
  simp[fM,hx1,hx2,e1,e2,e3,e4,e4',e5,e6,isb,neb,Z21,RV.val]
theorem Z0D{k:Int}{xs:List Int}(hb:Bs k xs):xs.length≤100:=by cases hb<;>simp
abbrev FN(nm q:Str)(st:Stmt)(kV dc pm:Value)(an:Option Addr)(cd ct:Value):FuncData:=PySem.W.fnOf nm q (fQ st) (bQ st) (ċ st) .none kV dc pm an cd ct
abbrev LK(K:PySem.W.Frag)(g:Addr)(oc:Value)(od:Option Addr)(f:FuncData)(sl:Array (Option Value)):Prop:=K.lookup g=some ⟨oc,od,.func f,sl⟩
theorem Z2p{l:PySem.W.OpenLaw}{w:World}{K:PySem.W.Frag}{h:Heap}{mg:Str→Option Value}{fa:Addr}(X:K.In h)(G:h.Ns mainGlobals mg)(hfa:mg "law" =some (.ref fa))
 {C0 C1 C2 C3 C4 C5 C6 C7 C8 g0 g1 g2 g3 g4 g5 g6 g7 g8 g9 Lf g11 g12 g13 g14 g15 g16 g17 g18 g19 g20 g21 g22 g23 g24 g25 g26 g27 g28 g29 g30 g31 g32 g33 g34 g35 g36 g37 g38 g39 g40 g41 g42 g43 g44 g45 g46 g47 g48 g49 g50 g51 g52 g53 g54 g55:Addr}{od0 an0 od1 an1 od2 an2 od3 an3 od4 an4 od5 an5 od6 an6 od7 an7 od8 an8 od9 an9 Ziv Zce Ziw Zcf Zix Zcg Ziy Zch Ziz Zci ZiA Zcj ZiB Zck ZiC Zcl ZiD Zcm ZiE Zcn ZiF Zco ZiG Zcp ZiH Zcq ZiI Zcr ZiJ Zcs ZiK Zct ZiL Zcu ZiM Zcv ZiN Zcw ZiO Zcx ZiP Zcy ZiQ Zcz ZiR ZcA ZiS ZcB ZiT ZcC ZiU ZcD ZiV ZcE ZiW ZcF ZiX ZcG ZiY ZcH ZiZ ZcI Zi0 ZcJ Zi1 ZcK Zi2 ZcL Zi3 ZcM Zi4 ZcN Zi5 ZcO Zi6 ZcP Zi7 ZcQ Zi8 ZcR Zi9 ZcS Zi_ ZcT Zja ZcU Zjb ZcV Zjc ZcW Zjd Xo:Option Addr}{sl0 sl1 sl2 sl3 sl4 sl5 sl6 sl7 sl8 sl9 Zje Zjf Zjg Zjh Zji Zjj Zjk Zjl Zjm Zjn Zjo Zjp Zjq Zjr Zjs Zjt Zju Zjv Zjw Zjx Zjy Zjz ZjA ZjB ZjC ZjD ZjE ZjF ZjG ZjH ZjI ZjJ ZjK ZjL ZjM ZjN ZjO ZjP ZjQ ZjR ZjS ZjT ZjU ZjV ZjW ZjX:Array (Option Value)}{oc0 kV0 dc0 pm0 cd0 ct0 oc1 kV1 dc1 pm1 cd1 ct1 oc2 kV2 dc2 pm2 cd2 ct2 oc3 kV3 dc3 pm3 cd3 ct3 oc4 kV4 dc4 pm4 cd4 ct4 oc5 kV5 dc5 pm5 cd5 ct5 oc6 kV6 dc6 pm6 cd6 ct6 oc7 kV7 dc7 pm7 cd7 ct7 oc8 kV8 dc8 pm8 cd8 ct8 oc9 kV9 dc9 pm9 cd9 ct9 ZjY ZcX ZcY ZcZ Xp Zc0 ZjZ Zc1 Zc2 Zc3 Xq Zc4 Zj0 Zc5 Zc6 Zc7 Xr Zc8 Zj1 Zc9 Zc_ Zda Xu Zdb Zj2 Zdc Zdd Zde Xv Zdf Zj3 Zdg Zdh Zdi Xw Zdj Zj4 Zdk Zdl Zdm Xx Zdn Zj5 Zdo Zdp Zdq Xy Zdr Zj6 Zds Zdt Zdu Xz Zdv Zj7 Zdw Zdx Zdy XC Zdz Zj8 ZdA ZdB ZdC XD ZdD Zj9 ZdE ZdF ZdG XF ZdH Zj_ ZdI ZdJ ZdK XH ZdL Zka ZdM ZdN ZdO XJ ZdP Zkb ZdQ ZdR ZdS XM ZdT Zkc ZdU ZdV ZdW XQ ZdX Zkd ZdY ZdZ Zd0 XR Zd1 Zke Zd2 Zd3 Zd4 XS Zd5 Zkf Zd6 Zd7 Zd8 X_ Zd9 Zkg Zd_ Zea Zeb Yb Zec Zkh Zed Zee Zef Yc Zeg Zki Zeh Zei Zej Yd Zek Zkj Zel Zem Zen Ye Zeo Zkk Zep Zeq Zer Yg Zes Zkl Zet Zeu Zev Yh Zew Zkm Zex Zey Zez Yi ZeA Zkn ZeB ZeC ZeD Yj ZeE Zko ZeF ZeG ZeH Yk ZeI Zkp ZeJ ZeK ZeL Yl ZeM Zkq ZeN ZeO ZeP Ym ZeQ Zkr ZeR ZeS ZeT Yn ZeU Zks ZeV ZeW ZeX Yo ZeY Zkt ZeZ Ze0 Ze1 Yp Ze2 Zku Ze3 Ze4 Ze5 Yq Ze6 Zkv Ze7 Ze8 Ze9 Yr Ze_ Zkw Zfa Zfb Zfc Ys Zfd Zkx Zfe Zff Zfg Yt Zfh Zky Zfi Zfj Zfk Yu Zfl Zkz Zfm Zfn Zfo Yv Zfp ZkA Zfq Zfr Zfs Yw Zft ZkB Zfu Zfv Zfw Yx Zfx ZkC Zfy Zfz ZfA Yy ZfB ZkD ZfC ZfD ZfE Yz ZfF ZkE ZfG ZfH ZfI YB ZfJ ZkF ZfK ZfL ZfM YC ZfN ZkG YD YF YG OJ YH:Value}
 {tk0:Tok}
 {tk1:Tok}
 (u0:PySem.W.nsIn K mainGlobals "YardError" =some (some (.ref C0)))
 (u1:PySem.W.nsIn K mainGlobals "NoNumber" =some (some (.ref C1)))
 (u2:PySem.W.nsIn K mainGlobals "BadThing" =some (some (.ref C2)))
 (u3:PySem.W.nsIn K mainGlobals "Thing" =some (some (.ref C3)))
 (u4:PySem.W.nsIn K mainGlobals "Post" =some (some (.ref C4)))
 (u5:PySem.W.nsIn K mainGlobals "Fence" =some (some (.ref C5)))
 (u6:PySem.W.nsIn K mainGlobals "Sail" =some (some (.ref C6)))
 (u7:PySem.W.nsIn K mainGlobals "Cloth" =some (some (.ref C7)))
 (u8:PySem.W.nsIn K mainGlobals "House" =some (some (.ref C8)))
 (a0:PySem.W.nsIn K mainGlobals "_law_stone" =some (some (.ref g0)))
 (l0:LK K g0 oc0 od0 (FN "_law_stone" "_law_stone" uL kV0 dc0 pm0 an0 cd0 ct0) sl0)
 (c0:PySem.W.codeIn K cd0 "_law_stone" =true)(k0:PySem.W.keepIn K (.ref g0)=true)
 (a1:PySem.W.nsIn K mainGlobals "_law_churn" =some (some (.ref g1)))
 (l1:LK K g1 oc1 od1 (FN "_law_churn" "_law_churn" uM kV1 dc1 pm1 an1 cd1 ct1) sl1)
 (c1:PySem.W.codeIn K cd1 "_law_churn" =true)(k1:PySem.W.keepIn K (.ref g1)=true)
 (a2:PySem.W.nsIn K mainGlobals "_law_row" =some (some (.ref g2)))
 (l2:LK K g2 oc2 od2 (FN "_law_row" "_law_row" uN kV2 dc2 pm2 an2 cd2 ct2) sl2)
 (c2:PySem.W.codeIn K cd2 "_law_row" =true)(k2:PySem.W.keepIn K (.ref g2)=true)
 (a3:PySem.W.nsIn K mainGlobals "_law_ray" =some (some (.ref g3)))
 (l3:LK K g3 oc3 od3 (FN "_law_ray" "_law_ray" uO kV3 dc3 pm3 an3 cd3 ct3) sl3)
 (c3:PySem.W.codeIn K cd3 "_law_ray" =true)(k3:PySem.W.keepIn K (.ref g3)=true)
 (a4:PySem.W.nsIn K mainGlobals "_law_corner" =some (some (.ref g4)))
 (l4:LK K g4 oc4 od4 (FN "_law_corner" "_law_corner" uP kV4 dc4 pm4 an4 cd4 ct4) sl4)
 (c4:PySem.W.codeIn K cd4 "_law_corner" =true)(k4:PySem.W.keepIn K (.ref g4)=true)
 (a5:PySem.W.nsIn K mainGlobals "_law_rising" =some (some (.ref g5)))
 (l5:LK K g5 oc5 od5 (FN "_law_rising" "_law_rising" uQ kV5 dc5 pm5 an5 cd5 ct5) sl5)
 (c5:PySem.W.codeIn K cd5 "_law_rising" =true)(k5:PySem.W.keepIn K (.ref g5)=true)
 (a6:PySem.W.nsIn K mainGlobals "_law_beside" =some (some (.ref g6)))
 (l6:LK K g6 oc6 od6 (FN "_law_beside" "_law_beside" uR kV6 dc6 pm6 an6 cd6 ct6) sl6)
 (c6:PySem.W.codeIn K cd6 "_law_beside" =true)(k6:PySem.W.keepIn K (.ref g6)=true)
 (a7:PySem.W.nsIn K mainGlobals "is_place" =some (some (.ref g7)))
 (l7:LK K g7 oc7 od7 (FN "is_place" "is_place" uT kV7 dc7 pm7 an7 cd7 ct7) sl7)
 (c7:PySem.W.codeIn K cd7 "is_place" =true)(k7:PySem.W.keepIn K (.ref g7)=true)
 (a8:PySem.W.nsIn K mainGlobals "is_height" =some (some (.ref g8)))
 (l8:LK K g8 oc8 od8 (FN "is_height" "is_height" uU kV8 dc8 pm8 an8 cd8 ct8) sl8)
 (c8:PySem.W.codeIn K cd8 "is_height" =true)(k8:PySem.W.keepIn K (.ref g8)=true)
 (a9:PySem.W.nsIn K mainGlobals "makes_post" =some (some (.ref g9)))
 (l9:LK K g9 oc9 od9 (FN "makes_post" "makes_post" uV kV9 dc9 pm9 an9 cd9 ct9) sl9)
 (c9:PySem.W.codeIn K cd9 "makes_post" =true)(k9:PySem.W.keepIn K (.ref g9)=true)
 (a10:PySem.W.findIn K (.ref C3) "__init__" =some (some (.ref Lf)))
 (l10:LK K Lf ZjY Ziv (FN "__init__" "Thing.__init__" FZ ZcX ZcY ZcZ Zce Xp Zc0) Zje)
 (c10:PySem.W.codeIn K Xp "Thing.__init__" =true)(k10:PySem.W.keepIn K (.ref Lf)=true)
 (a11:PySem.W.nsIn K mainGlobals "has_two_ends" =some (some (.ref g11)))
 (l11:LK K g11 ZjZ Ziw (FN "has_two_ends" "has_two_ends" pU Zc1 Zc2 Zc3 Zcf Xq Zc4) Zjf)
 (c11:PySem.W.codeIn K Xq "has_two_ends" =true)(k11:PySem.W.keepIn K (.ref g11)=true)
 (a12:PySem.W.nsIn K mainGlobals "makes_fence" =some (some (.ref g12)))
 (l12:LK K g12 Zj0 Zix (FN "makes_fence" "makes_fence" uW Zc5 Zc6 Zc7 Zcg Xr Zc8) Zjg)
 (c12:PySem.W.codeIn K Xr "makes_fence" =true)(k12:PySem.W.keepIn K (.ref g12)=true)
 (a13:PySem.W.nsIn K mainGlobals "makes_sail_or_house" =some (some (.ref g13)))
 (l13:LK K g13 Zj1 Ziy (FN "makes_sail_or_house" "makes_sail_or_house" Ga Zc9 Zc_ Zda Zch Xu Zdb) Zjh)
 (c13:PySem.W.codeIn K Xu "makes_sail_or_house" =true)(k13:PySem.W.keepIn K (.ref g13)=true)
 (a14:PySem.W.nsIn K mainGlobals "is_cloth_corner" =some (some (.ref g14)))
 (l14:LK K g14 Zj2 Ziz (FN "is_cloth_corner" "is_cloth_corner" Gb Zdc Zdd Zde Zci Xv Zdf) Zji)
 (c14:PySem.W.codeIn K Xv "is_cloth_corner" =true)(k14:PySem.W.keepIn K (.ref g14)=true)
 (a15:PySem.W.nsIn K mainGlobals "makes_cloth" =some (some (.ref g15)))
 (l15:LK K g15 Zj3 ZiA (FN "makes_cloth" "makes_cloth" pW Zdg Zdh Zdi Zcj Xw Zdj) Zjj)
 (c15:PySem.W.codeIn K Xw "makes_cloth" =true)(k15:PySem.W.keepIn K (.ref g15)=true)
 (a16:PySem.W.nsIn K mainGlobals "thing_of" =some (some (.ref g16)))
 (l16:LK K g16 Zj4 ZiB (FN "thing_of" "thing_of" uX Zdk Zdl Zdm Zck Xx Zdn) Zjk)
 (c16:PySem.W.codeIn K Xx "thing_of" =true)(k16:PySem.W.keepIn K (.ref g16)=true)
 (a17:PySem.W.nsIn K mainGlobals "box_lines" =some (some (.ref g17)))
 (l17:LK K g17 Zj5 ZiC (FN "box_lines" "box_lines" mV Zdo Zdp Zdq Zcl Xy Zdr) Zjl)
 (c17:PySem.W.codeIn K Xy "box_lines" =true)(k17:PySem.W.keepIn K (.ref g17)=true)
 (a18:PySem.W.nsIn K mainGlobals "each_once" =some (some (.ref g18)))
 (l18:LK K g18 Zj6 ZiD (FN "each_once" "each_once" uY Zds Zdt Zdu Zcm Xz Zdv) Zjm)
 (c18:PySem.W.codeIn K Xz "each_once" =true)(k18:PySem.W.keepIn K (.ref g18)=true)
 (a19:PySem.W.nsIn K mainGlobals "line_through" =some (some (.ref g19)))
 (l19:LK K g19 Zj7 ZiE (FN "line_through" "line_through" uZ Zdw Zdx Zdy Zcn XC Zdz) Zjn)
 (c19:PySem.W.codeIn K XC "line_through" =true)(k19:PySem.W.keepIn K (.ref g19)=true)
 (a20:PySem.W.nsIn K mainGlobals "holds" =some (some (.ref g20)))
 (l20:LK K g20 Zj8 ZiF (FN "holds" "holds" u_ ZdA ZdB ZdC Zco XD ZdD) Zjo)
 (c20:PySem.W.codeIn K XD "holds" =true)(k20:PySem.W.keepIn K (.ref g20)=true)
 (a21:PySem.W.nsIn K mainGlobals "edge_lines" =some (some (.ref g21)))
 (l21:LK K g21 Zj9 ZiG (FN "edge_lines" "edge_lines" pX ZdE ZdF ZdG Zcp XF ZdH) Zjp)
 (c21:PySem.W.codeIn K XF "edge_lines" =true)(k21:PySem.W.keepIn K (.ref g21)=true)
 (a22:PySem.W.nsIn K mainGlobals "lines_about" =some (some (.ref g22)))
 (l22:LK K g22 Zj_ ZiH (FN "lines_about" "lines_about" vd ZdI ZdJ ZdK Zcq XH ZdL) Zjq)
 (c22:PySem.W.codeIn K XH "lines_about" =true)(k22:PySem.W.keepIn K (.ref g22)=true)
 (a23:PySem.W.nsIn K mainGlobals "parting_line" =some (some (.ref g23)))
 (l23:LK K g23 Zka ZiI (FN "parting_line" "parting_line" vf ZdM ZdN ZdO Zcr XJ ZdP) Zjr)
 (c23:PySem.W.codeIn K XJ "parting_line" =true)(k23:PySem.W.keepIn K (.ref g23)=true)
 (a24:PySem.W.nsIn K mainGlobals "pairs_below" =some (some (.ref g24)))
 (l24:LK K g24 Zkb ZiJ (FN "pairs_below" "pairs_below" pY ZdQ ZdR ZdS Zcs XM ZdT) Zjs)
 (c24:PySem.W.codeIn K XM "pairs_below" =true)(k24:PySem.W.keepIn K (.ref g24)=true)
 (a25:PySem.W.nsIn K mainGlobals "triples_below" =some (some (.ref g25)))
 (l25:LK K g25 Zkc ZiK (FN "triples_below" "triples_below" BW ZdU ZdV ZdW Zct XQ ZdX) Zjt)
 (c25:PySem.W.codeIn K XQ "triples_below" =true)(k25:PySem.W.keepIn K (.ref g25)=true)
 (a26:PySem.W.nsIn K mainGlobals "greatest_divisor" =some (some (.ref g26)))
 (l26:LK K g26 Zkd ZiL (FN "greatest_divisor" "greatest_divisor" Gd ZdY ZdZ Zd0 Zcu XR Zd1) Zju)
 (c26:PySem.W.codeIn K XR "greatest_divisor" =true)(k26:PySem.W.keepIn K (.ref g26)=true)
 (a27:PySem.W.nsIn K mainGlobals "ratio" =some (some (.ref g27)))
 (l27:LK K g27 Zke ZiM (FN "ratio" "ratio" vg Zd2 Zd3 Zd4 Zcv XS Zd5) Zjv)
 (c27:PySem.W.codeIn K XS "ratio" =true)(k27:PySem.W.keepIn K (.ref g27)=true)
 (a28:PySem.W.nsIn K mainGlobals "spread" =some (some (.ref g28)))
 (l28:LK K g28 Zkf ZiN (FN "spread" "spread" pZ Zd6 Zd7 Zd8 Zcw X_ Zd9) Zjw)
 (c28:PySem.W.codeIn K X_ "spread" =true)(k28:PySem.W.keepIn K (.ref g28)=true)
 (a29:PySem.W.nsIn K mainGlobals "turned" =some (some (.ref g29)))
 (l29:LK K g29 Zkg ZiO (FN "turned" "turned" vh Zd_ Zea Zeb Zcx Yb Zec) Zjx)
 (c29:PySem.W.codeIn K Yb "turned" =true)(k29:PySem.W.keepIn K (.ref g29)=true)
 (a30:PySem.W.nsIn K mainGlobals "shares_of_three" =some (some (.ref g30)))
 (l30:LK K g30 Zkh ZiP (FN "shares_of_three" "shares_of_three" Ge Zed Zee Zef Zcy Yc Zeg) Zjy)
 (c30:PySem.W.codeIn K Yc "shares_of_three" =true)(k30:PySem.W.keepIn K (.ref g30)=true)
 (a31:PySem.W.nsIn K mainGlobals "are_weights" =some (some (.ref g31)))
 (l31:LK K g31 Zki ZiQ (FN "are_weights" "are_weights" qb Zeh Zei Zej Zcz Yd Zek) Zjz)
 (c31:PySem.W.codeIn K Yd "are_weights" =true)(k31:PySem.W.keepIn K (.ref g31)=true)
 (a32:PySem.W.nsIn K mainGlobals "shares_of_two" =some (some (.ref g32)))
 (l32:LK K g32 Zkj ZiR (FN "shares_of_two" "shares_of_two" vm Zel Zem Zen ZcA Ye Zeo) ZjA)
 (c32:PySem.W.codeIn K Ye "shares_of_two" =true)(k32:PySem.W.keepIn K (.ref g32)=true)
 (a33:PySem.W.nsIn K mainGlobals "weights_of" =some (some (.ref g33)))
 (l33:LK K g33 Zkk ZiS (FN "weights_of" "weights_of" mW Zep Zeq Zer ZcB Yg Zes) ZjB)
 (c33:PySem.W.codeIn K Yg "weights_of" =true)(k33:PySem.W.keepIn K (.ref g33)=true)
 (a34:PySem.W.nsIn K mainGlobals "held" =some (some (.ref g34)))
 (l34:LK K g34 Zkl ZiT (FN "held" "held" vo Zet Zeu Zev ZcC Yh Zew) ZjC)
 (c34:PySem.W.codeIn K Yh "held" =true)(k34:PySem.W.keepIn K (.ref g34)=true)
 (a35:PySem.W.nsIn K mainGlobals "cast" =some (some (.ref g35)))
 (l35:LK K g35 Zkm ZiU (FN "cast" "cast" vp Zex Zey Zez ZcD Yi ZeA) ZjD)
 (c35:PySem.W.codeIn K Yi "cast" =true)(k35:PySem.W.keepIn K (.ref g35)=true)
 (a36:PySem.W.nsIn K mainGlobals "level_corners" =some (some (.ref g36)))
 (l36:LK K g36 Zkn ZiV (FN "level_corners" "level_corners" Gf ZeB ZeC ZeD ZcE Yj ZeE) ZjE)
 (c36:PySem.W.codeIn K Yj "level_corners" =true)(k36:PySem.W.keepIn K (.ref g36)=true)
 (a37:PySem.W.nsIn K mainGlobals "block_corners" =some (some (.ref g37)))
 (l37:LK K g37 Zko ZiW (FN "block_corners" "block_corners" Gg ZeF ZeG ZeH ZcF Yk ZeI) ZjF)
 (c37:PySem.W.codeIn K Yk "block_corners" =true)(k37:PySem.W.keepIn K (.ref g37)=true)
 (a38:PySem.W.findIn K (.ref C4) "corners" =some (some (.ref g38)))
 (l38:LK K g38 Zkp ZiX (FN "corners" "Post.corners" vq ZeJ ZeK ZeL ZcG Yl ZeM) ZjG)
 (c38:PySem.W.codeIn K Yl "Post.corners" =true)(k38:PySem.W.keepIn K (.ref g38)=true)
 (a39:PySem.W.findIn K (.ref C5) "corners" =some (some (.ref g39)))
 (l39:LK K g39 Zkq ZiY (FN "corners" "Fence.corners" vA ZeN ZeO ZeP ZcH Ym ZeQ) ZjH)
 (c39:PySem.W.codeIn K Ym "Fence.corners" =true)(k39:PySem.W.keepIn K (.ref g39)=true)
 (a40:PySem.W.findIn K (.ref C6) "corners" =some (some (.ref g40)))
 (l40:LK K g40 Zkr ZiZ (FN "corners" "Sail.corners" vB ZeR ZeS ZeT ZcI Yn ZeU) ZjI)
 (c40:PySem.W.codeIn K Yn "Sail.corners" =true)(k40:PySem.W.keepIn K (.ref g40)=true)
 (a41:PySem.W.findIn K (.ref C7) "corners" =some (some (.ref g41)))
 (l41:LK K g41 Zks Zi0 (FN "corners" "Cloth.corners" qd ZeV ZeW ZeX ZcJ Yo ZeY) ZjJ)
 (c41:PySem.W.codeIn K Yo "Cloth.corners" =true)(k41:PySem.W.keepIn K (.ref g41)=true)
 (a42:PySem.W.findIn K (.ref C8) "corners" =some (some (.ref g42)))
 (l42:LK K g42 Zkt Zi1 (FN "corners" "House.corners" Gh ZeZ Ze0 Ze1 ZcK Yp Ze2) ZjK)
 (c42:PySem.W.codeIn K Yp "House.corners" =true)(k42:PySem.W.keepIn K (.ref g42)=true)
 (a43:PySem.W.nsIn K mainGlobals "corner_casts" =some (some (.ref g43)))
 (l43:LK K g43 Zku Zi2 (FN "corner_casts" "corner_casts" qe Ze3 Ze4 Ze5 ZcL Yq Ze6) ZjL)
 (c43:PySem.W.codeIn K Yq "corner_casts" =true)(k43:PySem.W.keepIn K (.ref g43)=true)
 (a44:PySem.W.nsIn K mainGlobals "stone_cast" =some (some (.ref g44)))
 (l44:LK K g44 Zkv Zi3 (FN "stone_cast" "stone_cast" vC Ze7 Ze8 Ze9 ZcM Yr Ze_) ZjM)
 (c44:PySem.W.codeIn K Yr "stone_cast" =true)(k44:PySem.W.keepIn K (.ref g44)=true)
 (a45:PySem.W.nsIn K mainGlobals "shading" =some (some (.ref g45)))
 (l45:LK K g45 Zkw Zi4 (FN "shading" "shading" vD Zfa Zfb Zfc ZcN Ys Zfd) ZjN)
 (c45:PySem.W.codeIn K Ys "shading" =true)(k45:PySem.W.keepIn K (.ref g45)=true)
 (a46:PySem.W.nsIn K mainGlobals "shades" =some (some (.ref g46)))
 (l46:LK K g46 Zkx Zi5 (FN "shades" "shades" vG Zfe Zff Zfg ZcO Yt Zfh) ZjO)
 (c46:PySem.W.codeIn K Yt "shades" =true)(k46:PySem.W.keepIn K (.ref g46)=true)
 (a47:PySem.W.nsIn K mainGlobals "_law_cell" =some (some (.ref g47)))
 (l47:LK K g47 Zky Zi6 (FN "_law_cell" "_law_cell" vH Zfi Zfj Zfk ZcP Yu Zfl) ZjP)
 (c47:PySem.W.codeIn K Yu "_law_cell" =true)(k47:PySem.W.keepIn K (.ref g47)=true)
 (a48:PySem.W.nsIn K mainGlobals "_law_cast" =some (some (.ref g48)))
 (l48:LK K g48 Zkz Zi7 (FN "_law_cast" "_law_cast" vI Zfm Zfn Zfo ZcQ Yv Zfp) ZjQ)
 (c48:PySem.W.codeIn K Yv "_law_cast" =true)(k48:PySem.W.keepIn K (.ref g48)=true)
 (a49:PySem.W.nsIn K mainGlobals "_law_fraction" =some (some (.ref g49)))
 (l49:LK K g49 ZkA Zi8 (FN "_law_fraction" "_law_fraction" Gi Zfq Zfr Zfs ZcR Yw Zft) ZjR)
 (c49:PySem.W.codeIn K Yw "_law_fraction" =true)(k49:PySem.W.keepIn K (.ref g49)=true)
 (a50:PySem.W.nsIn K mainGlobals "_law_in" =some (some (.ref g50)))
 (l50:LK K g50 ZkB Zi9 (FN "_law_in" "_law_in" jN Zfu Zfv Zfw ZcS Yx Zfx) ZjS)
 (c50:PySem.W.codeIn K Yx "_law_in" =true)(k50:PySem.W.keepIn K (.ref g50)=true)
 (a51:PySem.W.nsIn K mainGlobals "_law_out" =some (some (.ref g51)))
 (l51:LK K g51 ZkC Zi_ (FN "_law_out" "_law_out" qg Zfy Zfz ZfA ZcT Yy ZfB) ZjT)
 (c51:PySem.W.codeIn K Yy "_law_out" =true)(k51:PySem.W.keepIn K (.ref g51)=true)
 (a52:PySem.W.nsIn K mainGlobals "_law_walked" =some (some (.ref g52)))
 (l52:LK K g52 ZkD Zja (FN "_law_walked" "_law_walked" vJ ZfC ZfD ZfE ZcU Yz ZfF) ZjU)
 (c52:PySem.W.codeIn K Yz "_law_walked" =true)(k52:PySem.W.keepIn K (.ref g52)=true)
 (a53:PySem.W.nsIn K mainGlobals "_law_level" =some (some (.ref g53)))
 (l53:LK K g53 ZkE Zjb (FN "_law_level" "_law_level" vK ZfG ZfH ZfI ZcV YB ZfJ) ZjV)
 (c53:PySem.W.codeIn K YB "_law_level" =true)(k53:PySem.W.keepIn K (.ref g53)=true)
 (a54:PySem.W.nsIn K mainGlobals "_law_corners" =some (some (.ref g54)))
 (l54:LK K g54 ZkF Zjc (FN "_law_corners" "_law_corners" mX ZfK ZfL ZfM ZcW YC ZfN) ZjW)
 (c54:PySem.W.codeIn K YC "_law_corners" =true)(k54:PySem.W.keepIn K (.ref g54)=true)
 (a55:PySem.W.nsIn K mainGlobals "law" =some (some (.ref g55)))
 (l55:LK K g55 ZkG Zjd (FN "law" "law" gG YD YF YG Xo OJ YH) ZjX)
 (c55:PySem.W.codeIn K OJ "law" =true)(k55:PySem.W.keepIn K (.ref g55)=true)
 (x0:PySem.W.nsIn K mainGlobals "MOST_HEIGHT" =some (some (.int (1000000000) tk0)))
 (x1:PySem.W.nsIn K mainGlobals "MOST_PLACE" =some (some (.int (1000000000) tk1)))
 (z0:PySem.W.nsIn K mainGlobals "abs" =some none)
 (z1:PySem.W.nsIn K mainGlobals "all" =some none)
 (z2:PySem.W.nsIn K mainGlobals "bool" =some none)
 (z3:PySem.W.nsIn K mainGlobals "divmod" =some none)
 (z4:PySem.W.nsIn K mainGlobals "int" =some none)
 (z5:PySem.W.nsIn K mainGlobals "isinstance" =some none)
 (z6:PySem.W.nsIn K mainGlobals "len" =some none)
 (z7:PySem.W.nsIn K mainGlobals "list" =some none)
 (z8:PySem.W.nsIn K mainGlobals "max" =some none)
 (z9:PySem.W.nsIn K mainGlobals "min" =some none)
 (Cu:PySem.W.nsIn K mainGlobals "range" =some none)
 (z11:PySem.W.nsIn K mainGlobals "str" =some none)
 (z12:PySem.W.nsIn K mainGlobals "sum" =some none)
 (z13:PySem.W.nsIn K mainGlobals "tuple" =some none)
 (z14:PySem.W.nsIn K mainGlobals "zip" =some none)
 (q0:PySem.W.excIn K (cR C0 C1 C2 C3 C4 C5 C6 C7 C8 "YardError") Bw NK=true)
 (q1:PySem.W.keepIn K (.ref (cR C0 C1 C2 C3 C4 C5 C6 C7 C8 "YardError"))=true)
 (q2:cP K (cR C0 C1 C2 C3 C4 C5 C6 C7 C8 "YardError")=true)
 (q3:PySem.W.excIn K (cR C0 C1 C2 C3 C4 C5 C6 C7 C8 "NoNumber") Bw NK=true)
 (q4:PySem.W.keepIn K (.ref (cR C0 C1 C2 C3 C4 C5 C6 C7 C8 "NoNumber"))=true)
 (q5:cP K (cR C0 C1 C2 C3 C4 C5 C6 C7 C8 "NoNumber")=true)
 (q6:PySem.W.excIn K (cR C0 C1 C2 C3 C4 C5 C6 C7 C8 "BadThing") Bw NK=true)
 (q7:PySem.W.keepIn K (.ref (cR C0 C1 C2 C3 C4 C5 C6 C7 C8 "BadThing"))=true)
 (q8:cP K (cR C0 C1 C2 C3 C4 C5 C6 C7 C8 "BadThing")=true)
 (q9:uE K (cR C0 C1 C2 C3 C4 C5 C6 C7 C8 "Thing")=true)
 (q10:Qd K (cR C0 C1 C2 C3 C4 C5 C6 C7 C8 "Thing") Lf=true)
 (q11:PySem.W.findIn K (.ref (cR C0 C1 C2 C3 C4 C5 C6 C7 C8 "Thing")) "word" =some none)
 (q12:PySem.W.findIn K (.ref (cR C0 C1 C2 C3 C4 C5 C6 C7 C8 "Thing")) "numbers" =some none)
 (q13:uE K (cR C0 C1 C2 C3 C4 C5 C6 C7 C8 "Post")=true)
 (q14:Qd K (cR C0 C1 C2 C3 C4 C5 C6 C7 C8 "Post") Lf=true)
 (q15:PySem.W.findIn K (.ref (cR C0 C1 C2 C3 C4 C5 C6 C7 C8 "Post")) "word" =some none)
 (q16:PySem.W.findIn K (.ref (cR C0 C1 C2 C3 C4 C5 C6 C7 C8 "Post")) "numbers" =some none)
 (q17:mL K (cR C0 C1 C2 C3 C4 C5 C6 C7 C8 "Post") "corners" g38=true)
 (q18:uE K (cR C0 C1 C2 C3 C4 C5 C6 C7 C8 "Fence")=true)
 (q19:Qd K (cR C0 C1 C2 C3 C4 C5 C6 C7 C8 "Fence") Lf=true)
 (q20:PySem.W.findIn K (.ref (cR C0 C1 C2 C3 C4 C5 C6 C7 C8 "Fence")) "word" =some none)
 (q21:PySem.W.findIn K (.ref (cR C0 C1 C2 C3 C4 C5 C6 C7 C8 "Fence")) "numbers" =some none)
 (q22:mL K (cR C0 C1 C2 C3 C4 C5 C6 C7 C8 "Fence") "corners" g39=true)
 (q23:uE K (cR C0 C1 C2 C3 C4 C5 C6 C7 C8 "Sail")=true)
 (q24:Qd K (cR C0 C1 C2 C3 C4 C5 C6 C7 C8 "Sail") Lf=true)
 (q25:PySem.W.findIn K (.ref (cR C0 C1 C2 C3 C4 C5 C6 C7 C8 "Sail")) "word" =some none)
 (q26:PySem.W.findIn K (.ref (cR C0 C1 C2 C3 C4 C5 C6 C7 C8 "Sail")) "numbers" =some none)
 (q27:mL K (cR C0 C1 C2 C3 C4 C5 C6 C7 C8 "Sail") "corners" g40=true)
 (q28:uE K (cR C0 C1 C2 C3 C4 C5 C6 C7 C8 "Cloth")=true)
 (q29:Qd K (cR C0 C1 C2 C3 C4 C5 C6 C7 C8 "Cloth") Lf=true)
 (q30:PySem.W.findIn K (.ref (cR C0 C1 C2 C3 C4 C5 C6 C7 C8 "Cloth")) "word" =some none)
 (q31:PySem.W.findIn K (.ref (cR C0 C1 C2 C3 C4 C5 C6 C7 C8 "Cloth")) "numbers" =some none)
 (q32:mL K (cR C0 C1 C2 C3 C4 C5 C6 C7 C8 "Cloth") "corners" g41=true)
 (q33:uE K (cR C0 C1 C2 C3 C4 C5 C6 C7 C8 "House")=true)
 (q34:Qd K (cR C0 C1 C2 C3 C4 C5 C6 C7 C8 "House") Lf=true)
 (q35:PySem.W.findIn K (.ref (cR C0 C1 C2 C3 C4 C5 C6 C7 C8 "House")) "word" =some none)
 (q36:PySem.W.findIn K (.ref (cR C0 C1 C2 C3 C4 C5 C6 C7 C8 "House")) "numbers" =some none)
 (q37:mL K (cR C0 C1 C2 C3 C4 C5 C6 C7 C8 "House") "corners" g42=true)
 (q38:isC K (cR C0 C1 C2 C3 C4 C5 C6 C7 C8) Zi=true)
 (q39:isT K (cR C0 C1 C2 C3 C4 C5 C6 C7 C8) Zj=true)
 (q40:isD K (cR C0 C1 C2 C3 C4 C5 C6 C7 C8) Zk=true)
 (q41:Oa K Zl=true)
 :∃fd:FuncData,(∀(s:Shared) (v:Value),BindsTo s fd ⟨[v],[]⟩ [("_law_script",v)])∧∀base:Heap,K.In base→base.Ns mainGlobals mg→∃cm,ľ l.prog w K mg base (ź l.prog w) 8 fa fd ["_law_script"] (ak ⟨K,cm⟩ 1 nQ):=by
 have e:=hfa.symm.trans (PySem.W.mg_of X G a55)
 cases e
 have F0:=Ĭ (st:=uL) l0 c0 k0
 have b0:=F0.binds (ps:=["_law_cell_here"]) fun _ _ _ _ _ _ us hl=>match us,hl with| [_],_=>rfl
 have F1:=Ĭ (st:=uM) l1 c1 k1
 have b1:=F1.binds (ps:=["_law_number","_law_k"]) fun _ _ _ _ _ _ us hl=>match us,hl with| [_,_],_=>rfl
 have F2:=Ĭ (st:=uN) l2 c2 k2
 have b2:=F2.binds (ps:=["_law_cell_here","_law_many"]) fun _ _ _ _ _ _ us hl=>match us,hl with| [_,_],_=>rfl
 have F3:=Ĭ (st:=uO) l3 c3 k3
 have b3:=F3.binds (ps:=["_law_cell_here"]) fun _ _ _ _ _ _ us hl=>match us,hl with| [_],_=>rfl
 have F4:=Ĭ (st:=uP) l4 c4 k4
 have b4:=F4.binds (ps:=["_law_number","_law_stone_here","_law_ray_here","_law_z"]) fun _ _ _ _ _ _ us hl=>match us,hl with| [_,_,_,_],_=>rfl
 have F5:=Ĭ (st:=uQ) l5 c5 k5
 have b5:=F5.binds (ps:=["_law_one","_law_other"]) fun _ _ _ _ _ _ us hl=>match us,hl with| [_,_],_=>rfl
 have F6:=Ĭ (st:=uR) l6 c6 k6
 have b6:=F6.binds (ps:=["_law_cell_here","_law_stone_here","_law_ray_here"]) fun _ _ _ _ _ _ us hl=>match us,hl with| [_,_,_],_=>rfl
 have F7:=Ĭ (st:=uT) l7 c7 k7
 have b7:=F7.binds (ps:=["number"]) fun _ _ _ _ _ _ us hl=>match us,hl with| [_],_=>rfl
 have F8:=Ĭ (st:=uU) l8 c8 k8
 have b8:=F8.binds (ps:=["number"]) fun _ _ _ _ _ _ us hl=>match us,hl with| [_],_=>rfl
 have F9:=Ĭ (st:=uV) l9 c9 k9
 have b9:=F9.binds (ps:=["numbers"]) fun _ _ _ _ _ _ us hl=>match us,hl with| [_],_=>rfl
 have F10:=Ĭ (st:=FZ) l10 c10 k10
 have b10:=F10.binds (ps:=["self","word","numbers"]) fun _ _ _ _ _ _ us hl=>match us,hl with| [_,_,_],_=>rfl
 have F11:=Ĭ (st:=pU) l11 c11 k11
 have b11:=F11.binds (ps:=["numbers"]) fun _ _ _ _ _ _ us hl=>match us,hl with| [_],_=>rfl
 have F12:=Ĭ (st:=uW) l12 c12 k12
 have b12:=F12.binds (ps:=["numbers"]) fun _ _ _ _ _ _ us hl=>match us,hl with| [_],_=>rfl
 have F13:=Ĭ (st:=Ga) l13 c13 k13
 have b13:=F13.binds (ps:=["numbers"]) fun _ _ _ _ _ _ us hl=>match us,hl with| [_],_=>rfl
 have F14:=Ĭ (st:=Gb) l14 c14 k14
 have b14:=F14.binds (ps:=["numbers"]) fun _ _ _ _ _ _ us hl=>match us,hl with| [_],_=>rfl
 have F15:=Ĭ (st:=pW) l15 c15 k15
 have b15:=F15.binds (ps:=["numbers"]) fun _ _ _ _ _ _ us hl=>match us,hl with| [_],_=>rfl
 have F16:=Ĭ (st:=uX) l16 c16 k16
 have b16:=F16.binds (ps:=["word","numbers"]) fun _ _ _ _ _ _ us hl=>match us,hl with| [_,_],_=>rfl
 have F17:=Ĭ (st:=mV) l17 c17 k17
 have b17:=F17.binds (ps:=["points"]) fun _ _ _ _ _ _ us hl=>match us,hl with| [_],_=>rfl
 have F18:=Ĭ (st:=uY) l18 c18 k18
 have b18:=F18.binds (ps:=["points"]) fun _ _ _ _ _ _ us hl=>match us,hl with| [_],_=>rfl
 have F19:=Ĭ (st:=uZ) l19 c19 k19
 have b19:=F19.binds (ps:=["one","other"]) fun _ _ _ _ _ _ us hl=>match us,hl with| [_,_],_=>rfl
 have F20:=Ĭ (st:=u_) l20 c20 k20
 have b20:=F20.binds (ps:=["line","pair"]) fun _ _ _ _ _ _ us hl=>match us,hl with| [_,_],_=>rfl
 have F21:=Ĭ (st:=pX) l21 c21 k21
 have b21:=F21.binds (ps:=["points"]) fun _ _ _ _ _ _ us hl=>match us,hl with| [_],_=>rfl
 have F22:=Ĭ (st:=vd) l22 c22 k22
 have b22:=F22.binds (ps:=["points"]) fun _ _ _ _ _ _ us hl=>match us,hl with| [_],_=>rfl
 have F23:=Ĭ (st:=vf) l23 c23 k23
 have b23:=F23.binds (ps:=["points","point"]) fun _ _ _ _ _ _ us hl=>match us,hl with| [_,_],_=>rfl
 have F24:=Ĭ (st:=pY) l24 c24 k24
 have b24:=F24.binds (ps:=["many"]) fun _ _ _ _ _ _ us hl=>match us,hl with| [_],_=>rfl
 have F25:=Ĭ (st:=BW) l25 c25 k25
 have b25:=F25.binds (ps:=["many"]) fun _ _ _ _ _ _ us hl=>match us,hl with| [_],_=>rfl
 have F26:=Ĭ (st:=Gd) l26 c26 k26
 have b26:=F26.binds (ps:=["one","other"]) fun _ _ _ _ _ _ us hl=>match us,hl with| [_,_],_=>rfl
 have F27:=Ĭ (st:=vg) l27 c27 k27
 have b27:=F27.binds (ps:=["top","bottom"]) fun _ _ _ _ _ _ us hl=>match us,hl with| [_,_],_=>rfl
 have F28:=Ĭ (st:=pZ) l28 c28 k28
 have b28:=F28.binds (ps:=["shares","places","many"]) fun _ _ _ _ _ _ us hl=>match us,hl with| [_,_,_],_=>rfl
 have F29:=Ĭ (st:=vh) l29 c29 k29
 have b29:=F29.binds (ps:=["one","other","third"]) fun _ _ _ _ _ _ us hl=>match us,hl with| [_,_,_],_=>rfl
 have F30:=Ĭ (st:=Ge) l30 c30 k30
 have b30:=F30.binds (ps:=["corners","point"]) fun _ _ _ _ _ _ us hl=>match us,hl with| [_,_],_=>rfl
 have F31:=Ĭ (st:=qb) l31 c31 k31
 have b31:=F31.binds (ps:=["shares"]) fun _ _ _ _ _ _ us hl=>match us,hl with| [_],_=>rfl
 have F32:=Ĭ (st:=vm) l32 c32 k32
 have b32:=F32.binds (ps:=["ends","point"]) fun _ _ _ _ _ _ us hl=>match us,hl with| [_,_],_=>rfl
 have F33:=Ĭ (st:=mW) l33 c33 k33
 have b33:=F33.binds (ps:=["points","point"]) fun _ _ _ _ _ _ us hl=>match us,hl with| [_,_],_=>rfl
 have F34:=Ĭ (st:=vo) l34 c34 k34
 have b34:=F34.binds (ps:=["points","point"]) fun _ _ _ _ _ _ us hl=>match us,hl with| [_,_],_=>rfl
 have F35:=Ĭ (st:=vp) l35 c35 k35
 have b35:=F35.binds (ps:=["point","ray"]) fun _ _ _ _ _ _ us hl=>match us,hl with| [_,_],_=>rfl
 have F36:=Ĭ (st:=Gf) l36 c36 k36
 have b36:=F36.binds (ps:=["x","y","u","v","z"]) fun _ _ _ _ _ _ us hl=>match us,hl with| [_,_,_,_,_],_=>rfl
 have F37:=Ĭ (st:=Gg) l37 c37 k37
 have b37:=F37.binds (ps:=["x","y","u","v","h"]) fun _ _ _ _ _ _ us hl=>match us,hl with| [_,_,_,_,_],_=>rfl
 have F38:=Ĭ (st:=vq) l38 c38 k38
 have b38:=F38.binds (ps:=["self"]) fun _ _ _ _ _ _ us hl=>match us,hl with| [_],_=>rfl
 have F39:=Ĭ (st:=vA) l39 c39 k39
 have b39:=F39.binds (ps:=["self"]) fun _ _ _ _ _ _ us hl=>match us,hl with| [_],_=>rfl
 have F40:=Ĭ (st:=vB) l40 c40 k40
 have b40:=F40.binds (ps:=["self"]) fun _ _ _ _ _ _ us hl=>match us,hl with| [_],_=>rfl
 have F41:=Ĭ (st:=qd) l41 c41 k41
 have b41:=F41.binds (ps:=["self"]) fun _ _ _ _ _ _ us hl=>match us,hl with| [_],_=>rfl
 have F42:=Ĭ (st:=Gh) l42 c42 k42
 have b42:=F42.binds (ps:=["self"]) fun _ _ _ _ _ _ us hl=>match us,hl with| [_],_=>rfl
 have F43:=Ĭ (st:=qe) l43 c43 k43
 have b43:=F43.binds (ps:=["thing","ray"]) fun _ _ _ _ _ _ us hl=>match us,hl with| [_,_],_=>rfl
 have F44:=Ĭ (st:=vC) l44 c44 k44
 have b44:=F44.binds (ps:=["stone","ray"]) fun _ _ _ _ _ _ us hl=>match us,hl with| [_,_],_=>rfl
 have F45:=Ĭ (st:=vD) l45 c45 k45
 have b45:=F45.binds (ps:=["thing","stone","ray"]) fun _ _ _ _ _ _ us hl=>match us,hl with| [_,_,_],_=>rfl
 have F46:=Ĭ (st:=vG) l46 c46 k46
 have b46:=F46.binds (ps:=["thing","stone","ray"]) fun _ _ _ _ _ _ us hl=>match us,hl with| [_,_,_],_=>rfl
 have F47:=Ĭ (st:=vH) l47 c47 k47
 have b47:=F47.binds (ps:=["_law_script","_law_at"]) fun _ _ _ _ _ _ us hl=>match us,hl with| [_,_],_=>rfl
 have F48:=Ĭ (st:=vI) l48 c48 k48
 have b48:=F48.binds (ps:=["_law_point","_law_ray_here"]) fun _ _ _ _ _ _ us hl=>match us,hl with| [_,_],_=>rfl
 have F49:=Ĭ (st:=Gi) l49 c49 k49
 have b49:=F49.binds (ps:=["_law_found"]) fun _ _ _ _ _ _ us hl=>match us,hl with| [_],_=>rfl
 have F50:=Ĭ (st:=jN) l50 c50 k50
 have b50:=F50.binds (ps:=["_law_weights","_law_points","_law_point"]) fun _ _ _ _ _ _ us hl=>match us,hl with| [_,_,_],_=>rfl
 have F51:=Ĭ (st:=qg) l51 c51 k51
 have b51:=F51.binds (ps:=["_law_line","_law_points","_law_point"]) fun _ _ _ _ _ _ us hl=>match us,hl with| [_,_,_],_=>rfl
 have F52:=Ĭ (st:=vJ) l52 c52 k52
 have b52:=F52.binds (ps:=["_law_found","_law_points","_law_point"]) fun _ _ _ _ _ _ us hl=>match us,hl with| [_,_,_],_=>rfl
 have F53:=Ĭ (st:=vK) l53 c53 k53
 have b53:=F53.binds (ps:=["_law_x","_law_y","_law_u","_law_v","_law_z"]) fun _ _ _ _ _ _ us hl=>match us,hl with| [_,_,_,_,_],_=>rfl
 have F54:=Ĭ (st:=mX) l54 c54 k54
 have b54:=F54.binds (ps:=["_law_word","_law_numbers"]) fun _ _ _ _ _ _ us hl=>match us,hl with| [_,_],_=>rfl
 have F55:=Ĭ (st:=gG) l55 c55 k55
 have b55:=F55.binds (ps:=["_law_script"]) fun _ _ _ _ _ _ us hl=>match us,hl with| [_],_=>rfl
 have T:Tx K mg ⟨g0,FN "_law_stone" "_law_stone" uL kV0 dc0 pm0 an0 cd0 ct0,g1,FN "_law_churn" "_law_churn" uM kV1 dc1 pm1 an1 cd1 ct1,g2,FN "_law_row" "_law_row" uN kV2 dc2 pm2 an2 cd2 ct2,g3,FN "_law_ray" "_law_ray" uO kV3 dc3 pm3 an3 cd3 ct3,g4,FN "_law_corner" "_law_corner" uP kV4 dc4 pm4 an4 cd4 ct4,g5,FN "_law_rising" "_law_rising" uQ kV5 dc5 pm5 an5 cd5 ct5,g6,FN "_law_beside" "_law_beside" uR kV6 dc6 pm6 an6 cd6 ct6,g7,FN "is_place" "is_place" uT kV7 dc7 pm7 an7 cd7 ct7,g8,FN "is_height" "is_height" uU kV8 dc8 pm8 an8 cd8 ct8,g9,FN "makes_post" "makes_post" uV kV9 dc9 pm9 an9 cd9 ct9,Lf,FN "__init__" "Thing.__init__" FZ ZcX ZcY ZcZ Zce Xp Zc0,g11,FN "has_two_ends" "has_two_ends" pU Zc1 Zc2 Zc3 Zcf Xq Zc4,g12,FN "makes_fence" "makes_fence" uW Zc5 Zc6 Zc7 Zcg Xr Zc8,g13,FN "makes_sail_or_house" "makes_sail_or_house" Ga Zc9 Zc_ Zda Zch Xu Zdb,g14,FN "is_cloth_corner" "is_cloth_corner" Gb Zdc Zdd Zde Zci Xv Zdf,g15,FN "makes_cloth" "makes_cloth" pW Zdg Zdh Zdi Zcj Xw Zdj,g16,FN "thing_of" "thing_of" uX Zdk Zdl Zdm Zck Xx Zdn,g17,FN "box_lines" "box_lines" mV Zdo Zdp Zdq Zcl Xy Zdr,g18,FN "each_once" "each_once" uY Zds Zdt Zdu Zcm Xz Zdv,g19,FN "line_through" "line_through" uZ Zdw Zdx Zdy Zcn XC Zdz,g20,FN "holds" "holds" u_ ZdA ZdB ZdC Zco XD ZdD,g21,FN "edge_lines" "edge_lines" pX ZdE ZdF ZdG Zcp XF ZdH,g22,FN "lines_about" "lines_about" vd ZdI ZdJ ZdK Zcq XH ZdL,g23,FN "parting_line" "parting_line" vf ZdM ZdN ZdO Zcr XJ ZdP,g24,FN "pairs_below" "pairs_below" pY ZdQ ZdR ZdS Zcs XM ZdT,g25,FN "triples_below" "triples_below" BW ZdU ZdV ZdW Zct XQ ZdX,g26,FN "greatest_divisor" "greatest_divisor" Gd ZdY ZdZ Zd0 Zcu XR Zd1,g27,FN "ratio" "ratio" vg Zd2 Zd3 Zd4 Zcv XS Zd5,g28,FN "spread" "spread" pZ Zd6 Zd7 Zd8 Zcw X_ Zd9,g29,FN "turned" "turned" vh Zd_ Zea Zeb Zcx Yb Zec,g30,FN "shares_of_three" "shares_of_three" Ge Zed Zee Zef Zcy Yc Zeg,g31,FN "are_weights" "are_weights" qb Zeh Zei Zej Zcz Yd Zek,g32,FN "shares_of_two" "shares_of_two" vm Zel Zem Zen ZcA Ye Zeo,g33,FN "weights_of" "weights_of" mW Zep Zeq Zer ZcB Yg Zes,g34,FN "held" "held" vo Zet Zeu Zev ZcC Yh Zew,g35,FN "cast" "cast" vp Zex Zey Zez ZcD Yi ZeA,g36,FN "level_corners" "level_corners" Gf ZeB ZeC ZeD ZcE Yj ZeE,g37,FN "block_corners" "block_corners" Gg ZeF ZeG ZeH ZcF Yk ZeI,g38,FN "corners" "Post.corners" vq ZeJ ZeK ZeL ZcG Yl ZeM,g39,FN "corners" "Fence.corners" vA ZeN ZeO ZeP ZcH Ym ZeQ,g40,FN "corners" "Sail.corners" vB ZeR ZeS ZeT ZcI Yn ZeU,g41,FN "corners" "Cloth.corners" qd ZeV ZeW ZeX ZcJ Yo ZeY,g42,FN "corners" "House.corners" Gh ZeZ Ze0 Ze1 ZcK Yp Ze2,g43,FN "corner_casts" "corner_casts" qe Ze3 Ze4 Ze5 ZcL Yq Ze6,g44,FN "stone_cast" "stone_cast" vC Ze7 Ze8 Ze9 ZcM Yr Ze_,g45,FN "shading" "shading" vD Zfa Zfb Zfc ZcN Ys Zfd,g46,FN "shades" "shades" vG Zfe Zff Zfg ZcO Yt Zfh,g47,FN "_law_cell" "_law_cell" vH Zfi Zfj Zfk ZcP Yu Zfl,g48,FN "_law_cast" "_law_cast" vI Zfm Zfn Zfo ZcQ Yv Zfp,g49,FN "_law_fraction" "_law_fraction" Gi Zfq Zfr Zfs ZcR Yw Zft,g50,FN "_law_in" "_law_in" jN Zfu Zfv Zfw ZcS Yx Zfx,g51,FN "_law_out" "_law_out" qg Zfy Zfz ZfA ZcT Yy ZfB,g52,FN "_law_walked" "_law_walked" vJ ZfC ZfD ZfE ZcU Yz ZfF,g53,FN "_law_level" "_law_level" vK ZfG ZfH ZfI ZcV YB ZfJ,g54,FN "_law_corners" "_law_corners" mX ZfK ZfL ZfM ZcW YC ZfN,fa,FN "law" "law" gG YD YF YG Xo OJ YH,C0,C1,C2,C3,C4,C5,C6,C7,C8,tk0,tk1⟩:=⟨F0,PySem.W.mg_of X G a0,b0,F1,PySem.W.mg_of X G a1,b1,F2,PySem.W.mg_of X G a2,b2,F3,PySem.W.mg_of X G a3,b3,F4,PySem.W.mg_of X G a4,b4,F5,PySem.W.mg_of X G a5,b5,F6,PySem.W.mg_of X G a6,b6,F7,PySem.W.mg_of X G a7,b7,F8,PySem.W.mg_of X G a8,b8,F9,PySem.W.mg_of X G a9,b9,F10,b10,F11,PySem.W.mg_of X G a11,b11,F12,PySem.W.mg_of X G a12,b12,F13,PySem.W.mg_of X G a13,b13,F14,PySem.W.mg_of X G a14,b14,F15,PySem.W.mg_of X G a15,b15,F16,PySem.W.mg_of X G a16,b16,F17,PySem.W.mg_of X G a17,b17,F18,PySem.W.mg_of X G a18,b18,F19,PySem.W.mg_of X G a19,b19,F20,PySem.W.mg_of X G a20,b20,F21,PySem.W.mg_of X G a21,b21,F22,PySem.W.mg_of X G a22,b22,F23,PySem.W.mg_of X G a23,b23,F24,PySem.W.mg_of X G a24,b24,F25,PySem.W.mg_of X G a25,b25,F26,PySem.W.mg_of X G a26,b26,F27,PySem.W.mg_of X G a27,b27,F28,PySem.W.mg_of X G a28,b28,F29,PySem.W.mg_of X G a29,b29,F30,PySem.W.mg_of X G a30,b30,F31,PySem.W.mg_of X G a31,b31,F32,PySem.W.mg_of X G a32,b32,F33,PySem.W.mg_of X G a33,b33,F34,PySem.W.mg_of X G a34,b34,F35,PySem.W.mg_of X G a35,b35,F36,PySem.W.mg_of X G a36,b36,F37,PySem.W.mg_of X G a37,b37,F38,b38,F39,b39,F40,b40,F41,b41,F42,b42,F43,PySem.W.mg_of X G a43,b43,F44,PySem.W.mg_of X G a44,b44,F45,PySem.W.mg_of X G a45,b45,F46,PySem.W.mg_of X G a46,b46,F47,PySem.W.mg_of X G a47,b47,F48,PySem.W.mg_of X G a48,b48,F49,PySem.W.mg_of X G a49,b49,F50,PySem.W.mg_of X G a50,b50,F51,PySem.W.mg_of X G a51,b51,F52,PySem.W.mg_of X G a52,b52,F53,PySem.W.mg_of X G a53,b53,F54,PySem.W.mg_of X G a54,b54,F55,PySem.W.mg_of X G a55,b55,PySem.W.mg_of X G u0,PySem.W.mg_of X G u1,PySem.W.mg_of X G u2,PySem.W.mg_of X G u3,PySem.W.mg_of X G u4,PySem.W.mg_of X G u5,PySem.W.mg_of X G u6,PySem.W.mg_of X G u7,PySem.W.mg_of X G u8,q0,q1,q2,q3,q4,q5,q6,q7,q8,jt q9,pN q10,q11,q12,jt q13,pN q14,q15,q16,iQ q17,jt q18,pN q19,q20,q21,iQ q22,jt q23,pN q24,q25,q26,iQ q27,jt q28,pN q29,q30,q31,iQ q32,jt q33,pN q34,q35,q36,iQ q37,Fd q38,Fe q39,Fg q40,Aa q41,PySem.W.mg_of X G x0,PySem.W.mg_of X G x1,PySem.W.mg_none_of X G z0,PySem.W.mg_none_of X G z1,PySem.W.mg_none_of X G z2,PySem.W.mg_none_of X G z3,PySem.W.mg_none_of X G z4,PySem.W.mg_none_of X G z5,PySem.W.mg_none_of X G z6,PySem.W.mg_none_of X G z7,PySem.W.mg_none_of X G z8,PySem.W.mg_none_of X G z9,PySem.W.mg_none_of X G Cu,PySem.W.mg_none_of X G z11,PySem.W.mg_none_of X G z12,PySem.W.mg_none_of X G z13,PySem.W.mg_none_of X G z14⟩
 exact⟨PySem.W.fnOf "law" "law" (fQ gG) (bQ gG) (ċ gG) .none YD YF YG Xo OJ YH,fun s v=>.of_eq rfl,fun base _ _=>⟨_,Xm T⟩⟩
theorem Z1x(ns:List Int)(i:Nat)(Told:List PV)(hl:Told.length<1000)(z3 z4 z5 z6 z7 z8 z9 Cu:P.Slot):∃(k:Int) (xs:List Int) (s:Hu.Pt) (r:P3),Bs k xs∧(-1000≤s.1∧s.1≤1000∧ -1000≤s.2∧s.2≤1000)∧RB r∧∃y4 y5 y9 y10,
 nP [.sh (.lst (ns.map .int)),.ow Told,.sh (.int i),z3,z4,z5,z6,z7,z8,z9,Cu]=.ok .nx [.sh (.lst (ns.map .int)),.ow (Told ++ [.tup [pt s,c3 r,.str (wd k),.lst (xs.map .int)]]),.sh (.int i),z3,y4,y5,z6,z7,z8,y9,y10]:=by
 have k0:=ZH ns (3*i)
 have k1:=ZH ns (3*i+1)
 have k2:=ZH ns (3*i+2)
 have c0:(((3*i:Nat)):Int)=3*(i:Int):=by omega
 have c1:(((3*i+1:Nat)):Int)=3*(i:Int)+1:=by omega
 have c2:(((3*i+2:Nat)):Int)=3*(i:Int)+2:=by omega
 rw[c0] at k0
 rw[c1] at k1
 rw[c2] at k2
 obtain⟨s,e0,hs⟩:=Z1o (ns.getD (3*i) 0)
 obtain⟨r,e1,hr,h1⟩:=Z2b (ns.getD (3*i+1) 0)
 obtain⟨xs,e2,hb⟩:=Z1p (ns.getD (3*i+2) 0) hs hr h1
 have m3:ň 3 (i:Int)=true:=Ź (by decide) (by decide)
 refine⟨_,xs,s,r,hb,hs,hr,.sh (pt s),.sh (c3 r),.sh (.str (wd (ns.getD (3*i+2) 0 % 5))),.sh (.lst (xs.map .int)),?_⟩
 generalize xs.map PV.int=X at *
 generalize wd (ns.getD (3*i+2) 0 % 5)=W at *
 generalize ns.getD (3*i) 0=n0 at *
 generalize ns.getD (3*i+1) 0=n1 at *
 generalize ns.getD (3*i+2) 0=n2 at *
 generalize ns.map PV.int=NS at *
 generalize pt s=S at *
 generalize c3 r=R at *
 have hl':Told.length<16777216:=by omega
 simp[nP,m3,k0,k1,k2,e0,e1,e2,hl',-Z1C]
theorem Z1R(ns:List Int)(hn:ns.length≤63):nQ [.sh (.lst (ns.map .int))]=.ret (.sh (.bl true)):=by
 obtain⟨ka,xa,sa,ra,ba,ha,Ra,y4,y5,y9,y10,ea⟩:=Z1x ns 0 [] (by simp) .no .no .no .no .no .no .no .no
 obtain⟨kb,xb,sb,rb,bb,hb,Rb,v4,v5,v9,v10,eb⟩:=Z1x ns 1 [.tup [pt sa,c3 ra,.str (wd ka),.lst (xa.map .int)]] (by simp) .no y4 y5 .no .no .no y9 y10
 have ga:=Z0w (Z1Y ka) (xs:=xa) (sl:=.sh (.lst (xa.map .int))) (.inl rfl)
 have gb:=Z0w (Z1Y kb) (xs:=xb) (sl:=.sh (.lst (xb.map .int))) (.inl rfl)
 rw[if_pos (Z08 ba)] at ga
 rw[if_pos (Z08 bb)] at gb
 have st:∀(i:Nat) (z0 z4 z5 z6 z7 z8 z9 Cu:P.Slot),i<2→∃y4 y5 y6 y7 y8 y9 y10,fM [z0,.sh (.lst [.tup [pt sa,c3 ra,.str (wd ka),.lst (xa.map .int)],.tup [pt sb,c3 rb,.str (wd kb),.lst (xb.map .int)]]),.sh (.int i),.ow [Z0 (Z4 (wd ka)) (wd ka) xa,Z0 (Z4 (wd kb)) (wd kb) xb],z4,z5,z6,z7,z8,z9,Cu]=.ok .nx [z0,.sh (.lst [.tup [pt sa,c3 ra,.str (wd ka),.lst (xa.map .int)],.tup [pt sb,c3 rb,.str (wd kb),.lst (xb.map .int)]]),.sh (.int i),.ow [Z0 (Z4 (wd ka)) (wd ka) xa,Z0 (Z4 (wd kb)) (wd kb) xb],y4,y5,y6,y7,y8,y9,y10]:=by
  intro i z0 z4 z5 z6 z7 z8 z9 Cu hi
  have h:i=0∨i=1:=by omega
  rcases h with rfl|rfl
  ·exact Z1w ba ha Ra (i:=0) rfl rfl z0 z4 z5 z6 z7 z8 z9 Cu
  ·exact Z1w bb hb Rb (i:=1) rfl rfl z0 z4 z5 z6 z7 z8 z9 Cu
 have la:(xa.map PV.int).length≤16777216:=by rw[List.length_map];have:=Z0D ba;omega
 have lb:(xb.map PV.int).length≤16777216:=by rw[List.length_map];have:=Z0D bb;omega
 generalize Z0 (Z4 (wd ka)) (wd ka) xa=Ta at *
 generalize Z0 (Z4 (wd kb)) (wd kb) xb=Tb at *
 generalize xa.map PV.int=Xa at *
 generalize xb.map PV.int=Xb at *
 generalize wd ka=Wa at *
 generalize wd kb=Wb at *
 generalize pt sa=Sa at *
 generalize pt sb=Sb at *
 generalize c3 ra=Ca at *
 generalize c3 rb=Cb at *
 generalize ns.map PV.int=NS at *
 have ea':nP [.sh (.lst NS),.ow [],.sh (.int 0),.no,.no,.no,.no,.no,.no,.no,.no]=_:=ea
 have eb':nP [.sh (.lst NS),.ow [.tup [Sa,Ca,.str Wa,.lst Xa]],.sh (.int 1),.no,y4,y5,.no,.no,.no,y9,y10]=_:=eb
 simp only[List.nil_append,List.cons_append] at ea' eb'
 obtain⟨p4,p5,p6,p7,p8,p9,p10,f0⟩:=st 0 (.sh (.lst NS)) v4 v5 .no .no .no v9 v10 (by omega)
 obtain⟨q4,q5,q6,q7,q8,q9,q10,f1⟩:=st 1 (.sh (.lst NS)) p4 p5 p6 p7 p8 p9 p10 (by omega)
 obtain⟨r4,r5,r6,r7,r8,r9,r10,f2⟩:=st 0 (.sh (.lst NS)) q4 q5 q6 q7 q8 q9 q10 (by omega)
 have f0':fM [.sh (.lst NS),.sh (.lst [.tup [Sa,Ca,.str Wa,.lst Xa],.tup [Sb,Cb,.str Wb,.lst Xb]]),.sh (.int 0),.ow [Ta,Tb],v4,v5,.no,.no,.no,v9,v10]=_:=f0
 have f1':fM [.sh (.lst NS),.sh (.lst [.tup [Sa,Ca,.str Wa,.lst Xa],.tup [Sb,Cb,.str Wb,.lst Xb]]),.sh (.int 1),.ow [Ta,Tb],p4,p5,p6,p7,p8,p9,p10]=_:=f1
 have f2':fM [.sh (.lst NS),.sh (.lst [.tup [Sa,Ca,.str Wa,.lst Xa],.tup [Sb,Cb,.str Wb,.lst Xb]]),.sh (.int 0),.ow [Ta,Tb],q4,q5,q6,q7,q8,q9,q10]=_:=f2
 have r2:bL [.int 2]=some [.int 0,.int 1]:=rfl
 have hc:ŗ (gN 0) Ŗ (Ě (Ġ dY (ħ (Ć ę (ā 0) (mC (.int 2))) (ħ (Ě (Ea lW (ą (Ć ę (ā 0) (mC (.int 3))) ĝ))) ĕ)))) [.tup [Sa,Ca,.str Wa,.lst Xa],.tup [Sb,Cb,.str Wb,.lst Xb]] [.no] []=some [Ta,Tb]:=by
  simp[ŗ,ga,gb]
 simp[nQ,yC,List.replicate,r2,forL,ea',eb',f0',f1',f2',hc]
theorem Z2M{l:PySem.W.OpenLaw}{q:Program}{loose:List Str}{XP:(Str→Option Value)→Heap→Prop}{YP:World→Heap→Prop}{d:DefRec}{K:Params→PySem.W.Frag}(hn:l.most=some 63)(hdf:d.params.defaults=[])
 (hY:∀(w:World) (h:Heap),YP w h→(K w.params).In h)
 (F:∀(w:World) (mg:Str→Option Value) (fa:Addr) (h:Heap),(K w.params).In h→h.Ns mainGlobals mg→mg d.name=some (.ref fa)→
   ∃fd:FuncData,(∀(s:Shared) (u:Value),BindsTo s fd ⟨[u],[]⟩ [("_law_script",u)])∧∀base:Heap,(K w.params).In base→base.Ns mainGlobals mg→∃cm,ľ l.prog w (K w.params) mg base (ź l.prog w) 8 fa fd ["_law_script"] (ak ⟨K w.params,cm⟩ 1 nQ)) :
 PySem.W.WalkO q loose XP YP l.row.toRowW d [] (fun f vs=>PySem.call f vs):=
 P.Bx (k:=8) (x:= "_law_script") (m:=nQ) hn hdf ⟨rfl,by decide,by decide⟩ hY F Z1R
end T
namespace PySem.W.Fast
def tw16724884402618258533:=0
def tw5053556401950158311:=0
def tw9714394659157293690:=0
def tw17965149712684848161:=0
def tw15342079329644080962:=0
def tw10315714105074390772:=0
def tw14380149163790342129:=0
def tw13400588932073281147:=0
def tw15249843562415207465:=0
def tw946890894747894704:=0
def tw13618177194763096445:=0
def tw16964965220222733576:=0
def tw2815180709716135903:=0
def tw3107203338707674316:=0
def tw8784137207008793134:=0
def tw11841175663910369805:=0
def tw3192882377049120885:=0
def tw16363250522823559960:=0
def tw13662325853513023372:=0
def tw6056749003974650737:=0
def tw9188993829220154996:=0
def tw1173718336053653195:=0
def tw2697076404157955102:=0
def tw7219867813190062789:=0
def tw4286853109086752225:=0
def tw16637619863271278239:=0
def tw10549062302816004798:=0
def tw15318855591884386277:=0
def tw10379080115698072737:=0
def tw1355266894888649115:=0
def tw2858345700802074603:=0
def tw10327401351688781640:=0
def tw14999195655528713724:=0
def tw9535074606827232181:=0
def tw16610186391223300180:=0
def tw11834831818859103109:=0
def tw18206800473124631082:=0
def tw7250306475412635638:=0
def tw5346140671950273613:=0
def tw9145044172344819249:=0
def tw1658547270145799710:=0
def tw6134894203866949617:=0
def tw5274682836516500834:=0
def tw1634303199159961775:=0
def tw8742239291977569111:=0
def tw12552637566418525649:=0
def tw18187542095044936192:=0
def tw13971018823593872871:=0
def tw1838751680052759184:=0
def tw12495779028021307688:=0
def tw13167355717513094563:=0
def tw12945834336045130271:=0
def tw5458870025841350644:=0
def tw16673321546890658043:=0
def tw17726344994406385702:=0
def tw18423817492173973222:=0
def tw2253141821535560915:=0
def tw7072977905916330508:=0
def tw17417155463713749889:=0
def tw2676147471983948294:=0
def tw11964064166545156090:=0
def tw10789402133844381573:=0
def tw10404360228295722246:=0
def tw12021716445354136847:=0
def tw6755019292812012646:=0
def tw10249303708139501221:=0
def tw9346597209512800556:=0
def tw7265954658695344102:=0
def tw8590676668378260034:=0
def tw3980268680304549487:=0
def tw88315231073216408:=0
def tw2937787855888432147:=0
def tw3927897968820740838:=0
def tw13571083803153328203:=0
def tw13216793741385910620:=0
def tw15671158374149095780:=0
def tw10649758761004042407:=0
def tw17794230460367042245:=0
def tw5826325254064373336:=0
def tw16929075232905637202:=0
def tw3434559902957801726:=0
def tw3542955299482908242:=0
def tw505952739282634682:=0
def tw14461558896656588836:=0
def tw9762477285377188395:=0
def tw2666760719004244249:=0
def tw10651233524316623695:=0
def tw6596590051326210435:=0
def tw6937172365065757400:=0
def tw1435938942003299832:=0
def tw3604557026645883915:=0
def tw3004925973134105956:=0
def tw13276294111177779406:=0
def tw6283495460398013584:=0
def tw7281011013588278411:=0
def tw8467695163607008078:=0
def tw1846352007062673018:=0
def tw18073499111065850702:=0
def tw4417126792968701915:=0
def tw5834019750534761321:=0
def tw3878908053820950913:=0
def tw14236385535787572322:=0
def tw13621625271397783700:=0
def tw9029903593842763320:=0
def tw12095919309477169650:=0
def tw10614543811353547603:=0
def tw12157103023984140741:=0
def tw1146089187244821237:=0
def tw9608849318102181510:=0
def tw4865086702349811690:=0
def tw7078388110984212109:=0
def tw5336993557189849453:=0
def tw8487803844339402501:=0
def tw3603574254851821315:=0
def tw2403028127788033850:=0
def tw10745453500878300605:=0
def tw17766431546283926274:=0
def tw4761742997528772326:=0
def tw12101241518416910939:=0
def tw6929456947347000383:=0
def tw8344402332961320461:=0
def tw16720367477233196896:=0
def tw10059752336218169459:=0
def tw686955647885293747:=0
def tw7551184741700239194:=0
def tw16285254145818800363:=0
def tw396604385348523642:=0
def tw9900286466025099508:=0
def tw8480095142530026693:=0
def tw15075915547246913367:=0
def tw3704096438313864354:=0
def tw6750956161502314820:=0
def tw3846665617092345164:=0
def tw7286726622642757689:=0
def tw2733356601811258610:=0
def tw15382197553353982730:=0
def tw4467051145467182989:=0
def tw7356896657631274823:=0
def tw4170337429860893269:=0
def tw13139638359922788022:=0
def tw1156127514945166171:=0
def tw5164637092591950637:=0
def tw10943613054969764880:=0
def tw6988934946653056562:=0
def tw13036315581356268764:=0
def tw11418221075733804022:=0
def tw5849063728211773818:=0
def tw11327574215424401546:=0
def tw5990353895760654438:=0
def tw3170664625062499724:=0
def tw14581680363391488044:=0
def tw13038415811486729212:=0
def tw5224021384274755549:=0
def tw4133828502215501351:=0
def tw13248091402755210150:=0
def tw13325870595272396194:=0
def tw6985861124344832083:=0
def tw3252862350214402143:=0
def tw2298128712784270678:=0
def tw13321024420921375676:=0
def tw9147243574449538106:=0
def tw12076025226749635487:=0
def tw478101190171493218:=0
def tw11847238854114358182:=0
def tw8787118039385561930:=0
def tw1971487594590933750:=0
def tw1393745042628727887:=0
def tw10940993975197151175:=0
def tw18103323927353683228:=0
def tw15095179841503419450:=0
def tw4709981131818007007:=0
def tw14470645231470261362:=0
def tw8915350855001266971:=0
def tw16601341892843259026:=0
def tw6524669454879928884:=0
def tw18399076493274776257:=0
def tw4433962788581609557:=0
def tw10215875003921155739:=0
def tw15180136965773705184:=0
def tw17170280933342948562:=0
def tw12678206558871880634:=0
def tw9819108101343986943:=0
def tw14195325297827311342:=0
def tw14007282147628788619:=0
def tw3427055403811357345:=0
def tw9864462836659897718:=0
def tw7807761191201349052:=0
def tw17814229832108165372:=0
def tw2588341214276845124:=0
def tw14373420745084739717:=0
def tw14476267035694375287:=0
def tw12364678871926076328:=0
def tw5195584398882731146:=0
def tw3018880632761255351:=0
def tw2867574487391736756:=0
def tw1881562154050097315:=0
def tw521408525151192745:=0
def tw3832495745492350520:=0
def tw14016122875654027575:=0
def tw3973554327816799058:=0
def tw12312959198423435831:=0
def tw8503972226271516506:=0
def tw13647160072471598681:=0
def tw17602742830648055867:=0
def tw15703220857880779016:=0
def tw13502270884153838726:=0
def tw14471575253156407658:=0
def tw10191205928093151415:=0
def tw17658466641523745631:=0
def tw7157075737068928250:=0
def tw6087024182405997920:=0
def tw2923160474395521903:=0
def tw10014677995697347333:=0
def tw4143705295665311273:=0
def tw10041385635453468979:=0
def tw2508039143266960377:=0
def tw507460486203255836:=0
def tw9675102576350526617:=0
def tw5843884030152597111:=0
def tw4447080495470520957:=0
def tw12435005847195154808:=0
def tw1106032681826599812:=0
def tw5581609857795107657:=0
def tw11893767811907084729:=0
def tw16862502845002725295:=0
def tw9664387425667198359:=0
def tw4326749398650732126:=0
def tw7665288678073512843:=0
def tw856892735448841737:=0
def tw10533615590183153631:=0
def tw10898548874721127666:=0
def tw10495504444323713283:=0
def tw9647266024512677162:=0
def tw10186260569915856467:=0
def tw9488147692441302948:=0
def tw8142498927584493583:=0
def tw11860298414277174610:=0
def tw15302813598873819924:=0
def tw5848706418884816416:=0
def tw15439307206193342011:=0
def tw14117814157726609418:=0
def tw4003387594496160878:=0
def tw1655751553624450544:=0
def tw10245638646970812241:=0
def tw7365781777088045296:=0
def tw9019755722602670421:=0
def tw2166850505972547114:=0
def tw4423576704324192508:=0
def tw10971012973271509197:=0
def tw3606546744507307020:=0
def tw1002993755809227248:=0
def tw9233044152999750334:=0
def tw17105853827908083706:=0
def tw17272561360058087683:=0
def tw18201480093715252446:=0
def tw14651143997627463710:=0
def tw15850345795932448171:=0
def tw5799671310081127494:=0
def tw1666222382862414335:=0
def tw16076505696750179712:=0
def tw1367526219201554368:=0
def tw7252043299123139061:=0
def tw1578898405488549956:=0
def tw3855317787996860609:=0
def tw15610558518152288878:=0
def tw10115135099276751825:=0
def tw12443223344463223321:=0
def tw16933275918300010514:=0
def tw492975902758207760:=0
def tw15958557768827142398:=0
def tw1678252726723220099:=0
def tw5036368878401790847:=0
def tw15281135523943914757:=0
def tw849592460523204210:=0
def tw2578171341223580963:=0
def tw5645231764346456355:=0
def tw12884162438270305746:=0
def tw14037609686264900490:=0
def tw6056834458246974206:=0
def tw17432263270673248901:=0
def tw3923106836569451044:=0
def tw9079291681512337871:=0
def tw2602055521223005146:=0
def tw14236623194793949006:=0
def tw7816631089277892874:=0
def tw10928647490213891170:=0
def tw17752480605230134320:=0
def tw263002420020688944:=0
def tw18060953917674753904:=0
def tw1940852202691959884:=0
def tw14364995174913947495:=0
def tw6475089287806620842:=0
def tw16328328843782323847:=0
def tw14732991646201936107:=0
def tw13158635770008725458:=0
def tw8644311761138814291:=0
def tw11167154214764961996:=0
def tw12381571580101015692:=0
def tw8705326998181605429:=0
def tw14343080113067732697:=0
def tw171485346232778748:=0
def tw1574281594034181862:=0
def tw6791596837589373601:=0
def tw12713928860988036585:=0
def tw2421498202798210761:=0
def tw17668883270559993210:=0
def tw87513818040039323:=0
def tw11582198039668498407:=0
def tw8236980223349918749:=0
def tw11755269284458949028:=0
def tw11859022357995369715:=0
def tw7215474106519033513:=0
def tw22772681818050220:=0
def tw9705981259589063797:=0
def tw7938714799566018098:=0
def tw7714798725845173689:=0
def tw7534934207064528145:=0
def tw15705304657592385723:=0
def tw2992080752456675849:=0
def tw912924706831802371:=0
def tw3989092095936759571:=0
def tw15908546590034957443:=0
def tw18061698936326431131:=0
def tw319793234431221003:=0
def tw17631585751524579690:=0
def tw15653514139069998098:=0
def tw10727468447998504716:=0
def tw1690168228634095186:=0
def tw6732085425649051983:=0
def tw6511123369103118995:=0
def tw13885271296068782637:=0
def tw1401593423944602257:=0
def tw15197693332982025059:=0
def tw11512354272532567542:=0
def tw3905690788175488774:=0
def tw10900154548495629922:=0
def tw16489877381331101585:=0
def tw8190710405354347623:=0
def tw18023658966440221037:=0
def tw4174721122754068555:=0
def tw8523409273474257219:=0
def tw14179193337979125252:=0
def tw9686993436177925594:=0
def tw7271176348683348556:=0
def tw1787747369886524620:=0
def tw12136344654813938812:=0
def tw6625751399269146215:=0
def tw10592226329065819841:=0
def tw15329769702087093708:=0
def tw15469313431190858745:=0
def tw16243575871069067519:=0
def tw5667064014500256636:=0
def tw16886643213045169175:=0
def tw8473295135761156749:=0
def tw15314793832715120050:=0
def tw7947248096043147224:=0
def tw2920284398941555143:=0
def tw2768180391299840403:=0
def tw15272451811296288154:=0
def tw3599512826964755345:=0
def tw9943159920309884369:=0
def tw16403895286655037310:=0
def tw3421589504689543380:=0
def tw8258299478422139579:=0
def tw3333959951382607515:=0
def tw15162956719369981009:=0
def tw6397603020610296837:=0
def tw11365576554259092540:=0
def tw15275656929247162106:=0
def tw13048124481115023985:=0
def tw513020686307744822:=0
def tw8839649493745949315:=0
def tw12080045378025666353:=0
def tw1471124111430224811:=0
def tw18060650186110047282:=0
def tw16886047479483000340:=0
def tw156012737816346126:=0
def tw3063103517712505699:=0
def tw9064982695499086561:=0
def tw9952149272664498802:=0
def tw17291173297765657548:=0
def tw16671190781042066816:=0
def tw3266073738939451777:=0
def tw16456509306051055938:=0
def tw8774602837891749855:=0
def tw6110197848995352202:=0
def tw11867247811916568837:=0
def tw13118317896554831193:=0
def tw18313742695949861684:=0
def tw16186025661194200565:=0
def tw513042398296694279:=0
def tw150852459297006727:=0
def tw15383455315697593284:=0
def tw8527284627172212294:=0
def tw15605393183062483016:=0
def tw9771410900339764679:=0
def tw13559949609873746942:=0
def tw421947988637604319:=0
def tw14046252389758148521:=0
def tw3278578075554692725:=0
def tw6276254854841599886:=0
def tw5945763296479430328:=0
def tw7720300738377259377:=0
def tw1688454313466547697:=0
def tw14559391641091188073:=0
def tw12382446621721628416:=0
def tw18206806169178584503:=0
def tw3026440369607350760:=0
def tw3622842859499342658:=0
def tw4606786085530624423:=0
def tw10929300980547019607:=0
def tw14141441778179399474:=0
def tw14411459733855244013:=0
def tw2173440683677338252:=0
def tw3538213647219480323:=0
def tw6428035811564890285:=0
def tw12438301744378170178:=0
def tw9830796127351453104:=0
def tw6954175816906670463:=0
def tw15111336399774677808:=0
def tw15887013643122239638:=0
def tw7826433225429121161:=0
def tw15817019083169423303:=0
def tw11799604640938013250:=0
def tw9146755105221057095:=0
def tw17825253202505769805:=0
def tw1510329367101632177:=0
def tw1736079512257960498:=0
def tw4944162214806441465:=0
def tw2764467198486809737:=0
def tw8051076485490136803:=0
def tw11426322070343828551:=0
def tw2534134940748472763:=0
def tw16447203363093389937:=0
def tw14065465873101805043:=0
def tw4922986162012458071:=0
def tw12918971197568347187:=0
def tw1539054667500269604:=0
def tw9074408665418424704:=0
def tw6024262941138418196:=0
def tw724941864886267380:=0
def tw14183118834385828976:=0
def tw10037396262868490461:=0
def tw8381695487558340496:=0
def tw13514967452391770318:=0
def tw18358349315916126503:=0
def tw13936208524117133832:=0
def tw7076520493276872170:=0
def tw6089808801462250939:=0
def tw11205333781861040549:=0
def tw13515775595334905406:=0
def tw16539625010190334043:=0
def tw8680049318028264466:=0
def tw13163026547884478363:=0
def tw7561241142921197389:=0
def tw395177856138215993:=0
def tw16609498179589725969:=0
def tw3024946455616648422:=0
def tw630408648687799855:=0
def tw8894401840887344577:=0
def tw13367377522140331866:=0
def tw4977707866182778192:=0
def tw6460367619548828264:=0
def tw16951650007338614474:=0
def tw9503591179704253960:=0
def tw11679744953258519341:=0
def tw15261725623355245028:=0
def tw14473471727270468774:=0
def tw12543385917148709281:=0
def tw6077188121525898256:=0
def tw12202126715787342108:=0
def tw9895847105315948600:=0
def tw9280111509784198507:=0
def tw15683577834946877510:=0
end PySem.W.Fast
open PySem PySem.W PyProof.Rows
set_option maxRecDepth 100000 in
set_option maxHeartbeats 0 in
theorem PySem.Challenge.cw_shadowpost_k27_shading_walked_holds : PySem.Challenge.rw_shadowpost_k27_shading_walked.Holds := by
 w_on;o_law;k_head;(case hw=>w_witness2)
 k_fill
 refine T.Z2M (l:=PySem.Challenge.rw_shadowpost_k27_shading_walked) rfl rfl (fun w h Y=>PySem.W.kIn_of Y) ?F
 case F=>
  intro w mg fa h KX G hmg
  refine' T.Z2p KX G hmg ?u0 ?u1 ?u2 ?u3 ?u4 ?u5 ?u6 ?u7 ?u8 ?a0 ?l0 ?c0 ?k0 ?a1 ?l1 ?c1 ?k1 ?a2 ?l2 ?c2 ?k2 ?a3 ?l3 ?c3 ?k3 ?a4 ?l4 ?c4 ?k4 ?a5 ?l5 ?c5 ?k5 ?a6 ?l6 ?c6 ?k6 ?a7 ?l7 ?c7 ?k7 ?a8 ?l8 ?c8 ?k8 ?a9 ?l9 ?c9 ?k9 ?a10 ?l10 ?c10 ?k10 ?a11 ?l11 ?c11 ?k11 ?a12 ?l12 ?c12 ?k12 ?a13 ?l13 ?c13 ?k13 ?a14 ?l14 ?c14 ?k14 ?a15 ?l15 ?c15 ?k15 ?a16 ?l16 ?c16 ?k16 ?a17 ?l17 ?c17 ?k17 ?a18 ?l18 ?c18 ?k18 ?a19 ?l19 ?c19 ?k19 ?a20 ?l20 ?c20 ?k20 ?a21 ?l21 ?c21 ?k21 ?a22 ?l22 ?c22 ?k22 ?a23 ?l23 ?c23 ?k23 ?a24 ?l24 ?c24 ?k24 ?a25 ?l25 ?c25 ?k25 ?a26 ?l26 ?c26 ?k26 ?a27 ?l27 ?c27 ?k27 ?a28 ?l28 ?c28 ?k28 ?a29 ?l29 ?c29 ?k29 ?a30 ?l30 ?c30 ?k30 ?a31 ?l31 ?c31 ?k31 ?a32 ?l32 ?c32 ?k32 ?a33 ?l33 ?c33 ?k33 ?a34 ?l34 ?c34 ?k34 ?a35 ?l35 ?c35 ?k35 ?a36 ?l36 ?c36 ?k36 ?a37 ?l37 ?c37 ?k37 ?a38 ?l38 ?c38 ?k38 ?a39 ?l39 ?c39 ?k39 ?a40 ?l40 ?c40 ?k40 ?a41 ?l41 ?c41 ?k41 ?a42 ?l42 ?c42 ?k42 ?a43 ?l43 ?c43 ?k43 ?a44 ?l44 ?c44 ?k44 ?a45 ?l45 ?c45 ?k45 ?a46 ?l46 ?c46 ?k46 ?a47 ?l47 ?c47 ?k47 ?a48 ?l48 ?c48 ?k48 ?a49 ?l49 ?c49 ?k49 ?a50 ?l50 ?c50 ?k50 ?a51 ?l51 ?c51 ?k51 ?a52 ?l52 ?c52 ?k52 ?a53 ?l53 ?c53 ?k53 ?a54 ?l54 ?c54 ?k54 ?a55 ?l55 ?c55 ?k55 ?x0 ?x1 ?z0 ?z1 ?z2 ?z3 ?z4 ?z5 ?z6 ?z7 ?z8 ?z9 ?Cu ?z11 ?z12 ?z13 ?z14 ?q0 ?q1 ?q2 ?q3 ?q4 ?q5 ?q6 ?q7 ?q8 ?q9 ?q10 ?q11 ?q12 ?q13 ?q14 ?q15 ?q16 ?q17 ?q18 ?q19 ?q20 ?q21 ?q22 ?q23 ?q24 ?q25 ?q26 ?q27 ?q28 ?q29 ?q30 ?q31 ?q32 ?q33 ?q34 ?q35 ?q36 ?q37 ?q38 ?q39 ?q40 ?q41
  (case u0=>k_is)
  (case u1=>k_is)
  (case u2=>k_is)
  (case u3=>k_is)
  (case u4=>k_is)
  (case u5=>k_is)
  (case u6=>k_is)
  (case u7=>k_is)
  (case u8=>k_is)
  (case a0=>k_is)
  (case l0=>unfold T.LK T.FN;k_is)
  (case c0=>k_is)
  (case k0=>k_is)
  (case a1=>k_is)
  (case l1=>unfold T.LK T.FN;k_is)
  (case c1=>k_is)
  (case k1=>k_is)
  (case a2=>k_is)
  (case l2=>unfold T.LK T.FN;k_is)
  (case c2=>k_is)
  (case k2=>k_is)
  (case a3=>k_is)
  (case l3=>unfold T.LK T.FN;k_is)
  (case c3=>k_is)
  (case k3=>k_is)
  (case a4=>k_is)
  (case l4=>unfold T.LK T.FN;k_is)
  (case c4=>k_is)
  (case k4=>k_is)
  (case a5=>k_is)
  (case l5=>unfold T.LK T.FN;k_is)
  (case c5=>k_is)
  (case k5=>k_is)
  (case a6=>k_is)
  (case l6=>unfold T.LK T.FN;k_is)
  (case c6=>k_is)
  (case k6=>k_is)
  (case a7=>k_is)
  (case l7=>unfold T.LK T.FN;k_is)
  (case c7=>k_is)
  (case k7=>k_is)
  (case a8=>k_is)
  (case l8=>unfold T.LK T.FN;k_is)
  (case c8=>k_is)
  (case k8=>k_is)
  (case a9=>k_is)
  (case l9=>unfold T.LK T.FN;k_is)
  (case c9=>k_is)
  (case k9=>k_is)
  (case a10=>k_is)
  (case l10=>unfold T.LK T.FN;k_is)
  (case c10=>k_is)
  (case k10=>k_is)
  (case a11=>k_is)
  (case l11=>unfold T.LK T.FN;k_is)
  (case c11=>k_is)
  (case k11=>k_is)
  (case a12=>k_is)
  (case l12=>unfold T.LK T.FN;k_is)
  (case c12=>k_is)
  (case k12=>k_is)
  (case a13=>k_is)
  (case l13=>unfold T.LK T.FN;k_is)
  (case c13=>k_is)
  (case k13=>k_is)
  (case a14=>k_is)
  (case l14=>unfold T.LK T.FN;k_is)
  (case c14=>k_is)
  (case k14=>k_is)
  (case a15=>k_is)
  (case l15=>unfold T.LK T.FN;k_is)
  (case c15=>k_is)
  (case k15=>k_is)
  (case a16=>k_is)
  (case l16=>unfold T.LK T.FN;k_is)
  (case c16=>k_is)
  (case k16=>k_is)
  (case a17=>k_is)
  (case l17=>unfold T.LK T.FN;k_is)
  (case c17=>k_is)
  (case k17=>k_is)
  (case a18=>k_is)
  (case l18=>unfold T.LK T.FN;k_is)
  (case c18=>k_is)
  (case k18=>k_is)
  (case a19=>k_is)
  (case l19=>unfold T.LK T.FN;k_is)
  (case c19=>k_is)
  (case k19=>k_is)
  (case a20=>k_is)
  (case l20=>unfold T.LK T.FN;k_is)
  (case c20=>k_is)
  (case k20=>k_is)
  (case a21=>k_is)
  (case l21=>unfold T.LK T.FN;k_is)
  (case c21=>k_is)
  (case k21=>k_is)
  (case a22=>k_is)
  (case l22=>unfold T.LK T.FN;k_is)
  (case c22=>k_is)
  (case k22=>k_is)
  (case a23=>k_is)
  (case l23=>unfold T.LK T.FN;k_is)
  (case c23=>k_is)
  (case k23=>k_is)
  (case a24=>k_is)
  (case l24=>unfold T.LK T.FN;k_is)
  (case c24=>k_is)
  (case k24=>k_is)
  (case a25=>k_is)
  (case l25=>unfold T.LK T.FN;k_is)
  (case c25=>k_is)
  (case k25=>k_is)
  (case a26=>k_is)
  (case l26=>unfold T.LK T.FN;k_is)
  (case c26=>k_is)
  (case k26=>k_is)
  (case a27=>k_is)
  (case l27=>unfold T.LK T.FN;k_is)
  (case c27=>k_is)
  (case k27=>k_is)
  (case a28=>k_is)
  (case l28=>unfold T.LK T.FN;k_is)
  (case c28=>k_is)
  (case k28=>k_is)
  (case a29=>k_is)
  (case l29=>unfold T.LK T.FN;k_is)
  (case c29=>k_is)
  (case k29=>k_is)
  (case a30=>k_is)
  (case l30=>unfold T.LK T.FN;k_is)
  (case c30=>k_is)
  (case k30=>k_is)
  (case a31=>k_is)
  (case l31=>unfold T.LK T.FN;k_is)
  (case c31=>k_is)
  (case k31=>k_is)
  (case a32=>k_is)
  (case l32=>unfold T.LK T.FN;k_is)
  (case c32=>k_is)
  (case k32=>k_is)
  (case a33=>k_is)
  (case l33=>unfold T.LK T.FN;k_is)
  (case c33=>k_is)
  (case k33=>k_is)
  (case a34=>k_is)
  (case l34=>unfold T.LK T.FN;k_is)
  (case c34=>k_is)
  (case k34=>k_is)
  (case a35=>k_is)
  (case l35=>unfold T.LK T.FN;k_is)
  (case c35=>k_is)
  (case k35=>k_is)
  (case a36=>k_is)
  (case l36=>unfold T.LK T.FN;k_is)
  (case c36=>k_is)
  (case k36=>k_is)
  (case a37=>k_is)
  (case l37=>unfold T.LK T.FN;k_is)
  (case c37=>k_is)
  (case k37=>k_is)
  (case a38=>k_is)
  (case l38=>unfold T.LK T.FN;k_is)
  (case c38=>k_is)
  (case k38=>k_is)
  (case a39=>k_is)
  (case l39=>unfold T.LK T.FN;k_is)
  (case c39=>k_is)
  (case k39=>k_is)
  (case a40=>k_is)
  (case l40=>unfold T.LK T.FN;k_is)
  (case c40=>k_is)
  (case k40=>k_is)
  (case a41=>k_is)
  (case l41=>unfold T.LK T.FN;k_is)
  (case c41=>k_is)
  (case k41=>k_is)
  (case a42=>k_is)
  (case l42=>unfold T.LK T.FN;k_is)
  (case c42=>k_is)
  (case k42=>k_is)
  (case a43=>k_is)
  (case l43=>unfold T.LK T.FN;k_is)
  (case c43=>k_is)
  (case k43=>k_is)
  (case a44=>k_is)
  (case l44=>unfold T.LK T.FN;k_is)
  (case c44=>k_is)
  (case k44=>k_is)
  (case a45=>k_is)
  (case l45=>unfold T.LK T.FN;k_is)
  (case c45=>k_is)
  (case k45=>k_is)
  (case a46=>k_is)
  (case l46=>unfold T.LK T.FN;k_is)
  (case c46=>k_is)
  (case k46=>k_is)
  (case a47=>k_is)
  (case l47=>unfold T.LK T.FN;k_is)
  (case c47=>k_is)
  (case k47=>k_is)
  (case a48=>k_is)
  (case l48=>unfold T.LK T.FN;k_is)
  (case c48=>k_is)
  (case k48=>k_is)
  (case a49=>k_is)
  (case l49=>unfold T.LK T.FN;k_is)
  (case c49=>k_is)
  (case k49=>k_is)
  (case a50=>k_is)
  (case l50=>unfold T.LK T.FN;k_is)
  (case c50=>k_is)
  (case k50=>k_is)
  (case a51=>k_is)
  (case l51=>unfold T.LK T.FN;k_is)
  (case c51=>k_is)
  (case k51=>k_is)
  (case a52=>k_is)
  (case l52=>unfold T.LK T.FN;k_is)
  (case c52=>k_is)
  (case k52=>k_is)
  (case a53=>k_is)
  (case l53=>unfold T.LK T.FN;k_is)
  (case c53=>k_is)
  (case k53=>k_is)
  (case a54=>k_is)
  (case l54=>unfold T.LK T.FN;k_is)
  (case c54=>k_is)
  (case k54=>k_is)
  (case a55=>k_is)
  (case l55=>unfold T.LK T.FN;k_is)
  (case c55=>k_is)
  (case k55=>k_is)
  (case x0=>k_is)
  (case x1=>k_is)
  (case z0=>k_is)
  (case z1=>k_is)
  (case z2=>k_is)
  (case z3=>k_is)
  (case z4=>k_is)
  (case z5=>k_is)
  (case z6=>k_is)
  (case z7=>k_is)
  (case z8=>k_is)
  (case z9=>k_is)
  (case Cu=>k_is)
  (case z11=>k_is)
  (case z12=>k_is)
  (case z13=>k_is)
  (case z14=>k_is)
  (case q0=>kernel_rfl)
  (case q1=>kernel_rfl)
  (case q2=>kernel_rfl)
  (case q3=>kernel_rfl)
  (case q4=>kernel_rfl)
  (case q5=>kernel_rfl)
  (case q6=>kernel_rfl)
  (case q7=>kernel_rfl)
  (case q8=>kernel_rfl)
  (case q9=>kernel_rfl)
  (case q10=>kernel_rfl)
  (case q11=>kernel_rfl)
  (case q12=>kernel_rfl)
  (case q13=>kernel_rfl)
  (case q14=>kernel_rfl)
  (case q15=>kernel_rfl)
  (case q16=>kernel_rfl)
  (case q17=>kernel_rfl)
  (case q18=>kernel_rfl)
  (case q19=>kernel_rfl)
  (case q20=>kernel_rfl)
  (case q21=>kernel_rfl)
  (case q22=>kernel_rfl)
  (case q23=>kernel_rfl)
  (case q24=>kernel_rfl)
  (case q25=>kernel_rfl)
  (case q26=>kernel_rfl)
  (case q27=>kernel_rfl)
  (case q28=>kernel_rfl)
  (case q29=>kernel_rfl)
  (case q30=>kernel_rfl)
  (case q31=>kernel_rfl)
  (case q32=>kernel_rfl)
  (case q33=>kernel_rfl)
  (case q34=>kernel_rfl)
  (case q35=>kernel_rfl)
  (case q36=>kernel_rfl)
  (case q37=>kernel_rfl)
  (case q38=>kernel_rfl)
  (case q39=>kernel_rfl)
  (case q40=>kernel_rfl)
  (case q41=>kernel_rfl)
