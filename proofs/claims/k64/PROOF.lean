import PyProof.Rows.All
import Wide.All
import OpenK.AllK
import Wide.FinOn
import Lean
import PyProof.EqAt
import PyProof.EqKinds
import PyProof.TupleCall
import PySem.Challenge.RW_shadowpost_k64_whole_no_walk_costs_less
set_option Elab.async false
set_option linter.all false
set_option maxRecDepth 100000
set_option maxHeartbeats 4000000
namespace L2
open PySem PySem.Spec PyProof.Rows
abbrev Key:=Sum Int Str
def KY:Key->Value->Bool
 | .inl k,v=>Value.isInt k v
 | .inr x,v=>Value.isStrOf x v
def ZbY(w:World):Key->Int
 | .inl k=>hashInt k
 | .inr x=>hashStr w x
theorem Ň:∀{k:Key} {v:Value},KY k v=true->(∃i t,k=Sum.inl i/\v=Value.int i t)\/(∃x t,k=Sum.inr x/\v=Value.str x t)
 | .inl i,v,h=>by
   obtain⟨t,e⟩:=Value.isInt_shape (k:=i) (v:=v) h
   exact .inl ⟨i,t,rfl,e⟩
 | .inr x,v,h=>by
   obtain⟨t,e⟩:=Value.isStrOf_shape (x:=x) (v:=v) h
   exact .inr ⟨x,t,rfl,e⟩
def RW(a b:Int):decide ((Sum.inl a:Key)=Sum.inl b)=(a== b):=by
 by_cases e:a=b
 ·subst e;simp
 ·have h:¬(Sum.inl a:Key)=Sum.inl b:=λq=>e (Sum.inl.inj q)
  rw[decide_eq_false h]
  exact(beq_eq_false_iff_ne.mpr e).symm
def RX(a b:Str):decide ((Sum.inr a:Key)=Sum.inr b)=decide (a=b):=by
 by_cases e:a=b
 ·subst e;simp
 ·have h:¬(Sum.inr a:Key)=Sum.inr b:=λq=>e (Sum.inr.inj q)
  rw[decide_eq_false h,decide_eq_false e]
def RZ(a:Int)(b:Str):decide ((Sum.inl a:Key)=Sum.inr b)=false:=decide_eq_false (λq=>nomatch q)
def R_(a:Str)(b:Int):decide ((Sum.inr a:Key)=Sum.inl b)=false:=decide_eq_false (λq=>nomatch q)
def qC(prog:Program)(w:World):PySem.KeyKind prog w Key where
 is:=KY
 hash:=ZbY w
 inj:=λv a b ha hb=>by
  rcases Ň ha with⟨i,t,rfl,rfl⟩|⟨x,t,rfl,rfl⟩
  ·rcases Ň hb with⟨j,u,rfl,e⟩|⟨y,u,rfl,e⟩
   ·injection e with e1 _;rw[e1]
   ·exact nomatch e
  ·rcases Ň hb with⟨j,u,rfl,e⟩|⟨y,u,rfl,e⟩
   ·exact nomatch e
   ·injection e with e1 _;rw[e1]
 byValue:=λk v h=>by
  rcases Ň h with⟨i,t,rfl,rfl⟩|⟨x,t,rfl,rfl⟩<;>rfl
 pyHash:=λhv h=>by
  rcases Ň hv with⟨i,t,rfl,rfl⟩|⟨x,t,rfl,rfl⟩
  ·exact wpAny_pyHash_int h
  ·exact wpAny_pyHash_str h
 eqBool:=λhu hv h=>by
  rcases Ň hu with⟨i,t,rfl,rfl⟩|⟨x,t,rfl,rfl⟩
  ·rcases Ň hv with⟨j,u,rfl,rfl⟩|⟨y,u,rfl,rfl⟩
   ·rw[RW] at h;exact wpAny_eqBool_int h
   ·rw[RZ] at h;exact SeqAt.EqAt.int_str i t y u _ _ _ _ h
  ·rcases Ň hv with⟨j,u,rfl,rfl⟩|⟨y,u,rfl,rfl⟩
   ·rw[R_] at h;exact SeqAt.EqAt.str_int x t j u _ _ _ _ h
   ·rw[RX] at h;exact wpAny_eqBool_str h
 «strs» := fun k x t v h=>by
   rcases Ň h with⟨i,u,rfl,e⟩|⟨y,u,rfl,e⟩
   ·exact nomatch e
   ·injection e with e1 _
    subst e1
    cases v<;>rfl
end L2
namespace L2
open PySem PySem.Spec PyProof.Rows
inductive V where
 |non|bl (b:Bool)|int (i:Int)|str (x:Str)|HY (b:Array UInt8)|flt (b:UInt64)|ref (a:Addr)|ty (n:String)
 deriving DecidableEq
def RelV:V->Value->Prop
 | .non,u=>u=Value.none
 | .bl b,u=>u=Value.bool b
 | .int i,u=>∃t,u=Value.int i t
 | .str x,u=>∃t,u=Value.str x t
 | .HY b,u=>∃t,u=Value.bytes b t
 | .flt b,u=>∃t,u=Value.float b t
 | .ref a,u=>u=Value.ref a
 | .ty n,u=>u=Value.type n
abbrev Vals:List V->List Value->Prop:=Paired RelV
theorem Vals.length{xs:List V}{us:List Value}(r:Vals xs us):xs.length=us.length:=Paired.length r
theorem Vals.get:∀{xs:List V} {us:List Value} {i:Nat} {x:V},Vals xs us->xs[i]?=some x->∃u,us[i]?=some u/\RelV x u
 |_,_,_,_,.nil,e=>by simp at e
 |_,_,0,_,.cons r _,e=>by simp at e;subst e;exact⟨_,rfl,r⟩
 |_,_,i+1,x,.cons _ t,e=>by
  obtain⟨u,h1,h2⟩:=Vals.get (i:=i) (x:=x) t (by simpa using e)
  exact⟨u,by simpa using h1,h2⟩
theorem Vals.append:∀{xs ys:List V} {us ws:List Value},Vals xs us->Vals ys ws->Vals (xs++ys) (us++ws)
 |_,_,_,_,.nil,s=>s
 |_,_,_,_,.cons r t,s=>.cons r (Vals.append t s)
theorem Vals.take:∀{xs:List V} {us:List Value} (n:Nat),Vals xs us->Vals (xs.take n) (us.take n)
 |_,_,0,_=>.nil
 |_,_,_+1,.nil=>.nil
 |_,_,n+1,.cons r t=>.cons r (Vals.take n t)
theorem Vals.drop:∀{xs:List V} {us:List Value} (n:Nat),Vals xs us->Vals (xs.drop n) (us.drop n)
 |_,_,0,r=>r
 |_,_,_+1,.nil=>.nil
 |_,_,n+1,.cons _ t=>Vals.drop n t
def oA:Option V->Option Value->Prop
 |some v,some u=>RelV v u
 |none,none=>True
 |_,_=>False
def KV{κ:Type}:List (κ×V)->List (κ×Value)->Prop:=Paired λ(p:κ×V) (q:κ×Value)=>p.1=q.1/\RelV p.2 q.2
def kV:Key->V
 | .inl i=>.int i
 | .inr x=>.str x
inductive HO where
 /-- a list -/
 |lst (xs:List V)
 /-- a tuple (never changes) -/
 |tup (xs:List V)
 /-- a dict whose keys are ints and texts;one whose keys are tuples of ints and texts (the empty one is both) -/
 |dK (kvs:List (Key×V))|dT (kvs:List (List Key×V))
 /-- a set of ints:its members,its size -/
 |set (S:Int->Bool) (n:Nat)
 /-- an instance of the class at C,its dict at dx,its attributes -/
 |ins (C dx:Addr) (fs:List (Str×V))
 /-- the dict of the instance at x -/
 |own (x:Addr)
 /-- the dict of an exception -/
 |xd (fs:List (Str×V))
 /-- a bound method,f of x -/
 |met (f x:Addr)
 /-- a range object lo,lo+1,.. below hi -/
 |rng (lo hi:Int)
 /-- a thing that is known to the object (the script;a dict while a loop walks it):read,never written while it is so -/
 |fB (o:Obj) (u:HO)
 /-- a code object's table -/
 |gW (q:Str)
 /-- a code made of such a table,by its name -/
 |zY (q:Str)
 /-- any other thing,by what is true of its one object (a def of one's own:ZdO a S n:=HO.ext λh=>..) -/
 |ext (φ:Heap->Prop)
abbrev Hp:=Addr->Option HO
def upd(H:Hp)(a:Addr)(o:HO):Hp:=λb=>if b=a then some o else H b
def Ħ{H:Hp}{a:Addr}{o:HO}:upd H a o a=some o:=by unfold upd;rw[if_pos rfl]
def Ę{H:Hp}{a b:Addr}{o:HO}(h:b≠a):upd H a o b=H b:=by unfold upd;rw[if_neg h]
def Ģ{H:Hp}{a b:Addr}{o:HO}(h:H a=some o)(h':H b=none):a≠b:=by
 intro e;subst e;rw[h] at h';cases h'
section
variable(P:Program)(w:World)
def aU(H:Hp)(h:Heap)(a:Addr):HO->Prop
 | .lst xs=>xs.length<=sizeLine/\∃(its:List Value) (n:Nat),Vals xs its/\h.get? a=some {cls:=.type "list",data:=.seq its.toArray n}
 | .tup xs=>xs.length<=sizeLine/\∃its:List Value,Vals xs its/\IsTup h a its.toArray
 | .dK kvs=>kvs.length<=sizeLine/\(a== sysModules)=false/\∃vs,KV kvs vs/\h.DictOf (qC P w) a vs
 | .dT kvs=>kvs.length≤sizeLine∧(a== sysModules)=false∧∃xs:List (List Key×Addr×Value),
     Paired (λ(p:List Key×V) (q:List Key×Addr×Value)=>p.1=q.1/\H q.2.1=some (.tup (p.1.map kV))/\RelV p.2 q.2.2) kvs xs/\
     ∃o es ep,h.get? a=some o/\o.ExactDict/\o.data=.dict es ep/\es.toList=xs.map (entryOfKey (tupleKind (qC P w)))/\(xs.map (·.1)).Nodup
 | .set S n=>h.SetOf (intKind P w) a S n
 | .ins C dx fs=>H dx=some (.own a)∧fs.length≤1000∧dx≠a∧h.get? a=some (PySem.W.instObj C dx)∧
     ∃mA,h.Ns1 dx mA/\(∀f,oA (fs.lookup f) (mA f))/\PySem.Within mA (fs.map (·.1))
 | .own _=>∃o,h.get? a=some o
 | .xd fs=>∃mA,h.Ns1 a mA/\∀f,oA (fs.lookup f) (mA f)
 | .rng lo hi=>∃t u v,h.get? a=some {cls:=.type "range",data:=.fields #[.int lo t,.int hi u,.int 1 v]}
 | .fB o u=>h.get? a=some o/\aU H h a u
 | .gW q=>∃ps:Array Value,h.get? a=some {cls:=.none,data:=.fields ps}/\TriplesOk ps.toList/\∀pos cv,codeAmong pos ps.toList=some cv->∃c,cv=.ref c/\H c=some (.zY q)
 | .zY q=>h.CodeRec (.ref a) q
 | .met f x=>h.get? a=some (PySem.W.methodObj (.ref f) (.ref x))
 | .ext φ=>φ h/\(∃o,h.get? a=some o)/\∀h1 h2:Heap,φ h1->(∀o,h1.get? a=some o->h2.get? a=some o)->φ h2
def je(H:Hp)(h:Heap):Prop:=∀a o,H a=some o->aU P w H h a o
end
section
variable{P:Program}{w:World}{H H':Hp}{h h':Heap}{a:Addr}{o:HO}
theorem aU.lt(x:aU P w H h a o):a<h.objs.size:=by
 cases o with
 |lst xs=>obtain⟨_,_,_,_,e⟩:=x;exact Heap.lt_size e
 |tup xs=>obtain⟨_,_,_,p⟩:=x;exact p.lt
 |dK kvs=>obtain⟨_,_,_,_,o,_,_,e,_⟩:=x;exact Heap.lt_size e
 |dT kvs=>obtain⟨_,_,_,_,o,_,_,e,_⟩:=x;exact Heap.lt_size e
 |set S n=>obtain⟨o,_,_,_,e,_⟩:=x;exact Heap.lt_size e
 |ins C dx fs=>obtain⟨_,_,_,e,_⟩:=x;exact Heap.lt_size e
 |own y=>obtain⟨_,e⟩:=x;exact Heap.lt_size e
 |xd fs=>obtain⟨_,⟨_,_,_,e,_⟩,_⟩:=x;exact Heap.lt_size e
 |rng lo hi=>obtain⟨_,_,_,e⟩:=x;exact Heap.lt_size e
 |fB ob u=>obtain⟨e,_⟩:=x;exact Heap.lt_size e
 |gW q=>obtain⟨_,e,_⟩:=x;exact Heap.lt_size e
 |zY q=>obtain⟨c,o,_,_,z,e,_⟩:=x;cases z;exact Heap.lt_size e
 |met f y=>exact Heap.lt_size (show h.get? a=some _ from x)
 |ext φ=>obtain⟨_,⟨_,e⟩,_⟩:=x;exact Heap.lt_size e
theorem Paired.Yc{α β:Type}{F G:α->β->Prop}:∀{l₁:List α} {l₂:List β},Paired F l₁ l₂->(∀a b,F a b->G a b)->Paired G l₁ l₂
 |_,_,.nil,_=>.nil
 |_,_,.cons r t,f=>.cons (f _ _ r) (Paired.Yc t f)
def aU.stay(x:aU P w H h a o)(k:∀b u,(b=a\/H b=some (.own a))->h.get? b=some u->h'.get? b=some u)
 (ho:∀b,H b=some (.own a)->H' b=some (.own a))(ht:∀b xs,H b=some (.tup xs)->H' b=some (.tup xs))(hc:∀b q,H b=some (.zY q)->H' b=some (.zY q):=by exact λ_ _ z=>z):aU P w H' h' a o:=by
 induction o with
 |lst xs=>obtain⟨z,its,n,r,e⟩:=x;exact⟨z,its,n,r,k _ _ (.inl rfl) e⟩
 |tup xs=>obtain⟨z,its,r,ob,e,c⟩:=x;exact⟨z,its,r,ob,k _ _ (.inl rfl) e,c⟩
 |dK kvs=>obtain⟨z,y,vs,r,ob,es,ep,e,c⟩:=x;exact⟨z,y,vs,r,ob,es,ep,k _ _ (.inl rfl) e,c⟩
 |dT kvs=>
  obtain⟨z,y,xs,r,ob,es,ep,e,c⟩:=x
  exact⟨z,y,xs,Paired.Yc r λp q z=>⟨z.1,ht _ _ z.2.1,z.2.2⟩,ob,es,ep,k _ _ (.inl rfl) e,c⟩
 |set S n=>obtain⟨ob,es,ep,t,e,c⟩:=x;exact⟨ob,es,ep,t,k _ _ (.inl rfl) e,c⟩
 |ins C dx fs=>
  obtain⟨d,z,ne,e,mA,⟨od,es,ep,e2,c⟩,r⟩:=x
  exact⟨ho _ d,z,ne,k _ _ (.inl rfl) e,mA,⟨od,es,ep,k _ _ (.inr d) e2,c⟩,r⟩
 |own y=>obtain⟨ob,e⟩:=x;exact⟨ob,k _ _ (.inl rfl) e⟩
 |xd fs=>obtain⟨mA,⟨od,es,ep,e,c⟩,r⟩:=x;exact⟨mA,⟨od,es,ep,k _ _ (.inl rfl) e,c⟩,r⟩
 |rng lo hi=>obtain⟨t,u,v,e⟩:=x;exact⟨t,u,v,k _ _ (.inl rfl) e⟩
 |fB ob u ih=>obtain⟨e,q⟩:=x;exact⟨k _ _ (.inl rfl) e,ih q⟩
 |gW q=>
  obtain⟨ps,e,t,r⟩:=x
  exact⟨ps,k a _ (.inl rfl) e,t,λpos cv z=>let ⟨c,z1,z2⟩:=r pos cv z;⟨c,z1,hc c q z2⟩⟩
 |zY q=>
  obtain⟨c,o,vs,t,z,e,r⟩:=x
  cases z
  exact⟨a,o,vs,t,rfl,k a _ (.inl rfl) e,r⟩
 |met f y=>
  have e:h.get? a=some (PySem.W.methodObj (.ref f) (.ref y)):=x
  show h'.get? a=some (PySem.W.methodObj (.ref f) (.ref y))
  exact k a _ (.inl rfl) e
 |ext φ=>obtain⟨p,⟨o,e⟩,st⟩:=x;exact⟨st _ _ p λo q=>k _ _ (.inl rfl) q,⟨o,k _ _ (.inl rfl) e⟩,st⟩
theorem je.lt(x:je P w H h)(e:H a=some o):a<h.objs.size:=(x a o e).lt
def je.fresh(x:je P w H h)(e:h.objs.size<=a):H a=none:=by
 cases q:H a with
 |none=>rfl
 |some u=>exact absurd (Nat.lt_of_lt_of_le (x.lt q) e) (Nat.lt_irrefl _)
def je.kept(x:je P w H h)(k:∀b u,h.get? b=some u->h'.get? b=some u):je P w H h':=λa o e=>
 (x a o e).stay (λb u _ q=>k b u q) (λ_ q=>q) λ_ _ q=>q
def je.laid(x:je P w H h)(k:∀b u,h.get? b=some u->h'.get? b=some u)(hp:h.objs.size<=a)(new:aU P w (upd H a o) h' a o):je P w (upd H a o) h':=λb u e=>by
 have hn:=x.fresh hp
 by_cases hb:b=a
 ·subst hb;rw[Ħ] at e;cases e;exact new
 ·rw[Ę hb] at e
  exact(x b u e).stay (λc v _ q=>k c v q) (λc q=>by rw[Ę (Ģ q hn)];exact q) (λc xs q=>by rw[Ę (Ģ q hn)];exact q) λc xs q=>by rw[Ę (Ģ q hn)];exact q
end
def Rd(H:Hp)(a:Addr)(u:HO):Prop:=H a=some u\/∃o,H a=some (.fB o u)
def Rd.ok{P:Program}{w:World}{H:Hp}{h:Heap}{a:Addr}{u:HO}(r:Rd H a u)(x:je P w H h):aU P w H h a u:=by
 rcases r with r|⟨o,r⟩
 ·exact x a u r
 ·obtain⟨_,q⟩:=x a _ r
  exact q
def Mut:Option HO->Prop
 |some (.lst _)=>True
 |some (.dK _)=>True
 |some (.dT _)=>True
 |some (.set _ _)=>True
 |some (.ins _ _ _)=>True
 |some (.ext _)=>True
 |some (.xd _)=>True
 |_=>False
section
variable{P:Program}{w:World}{H:Hp}{h h':Heap}{x e:Addr}{o':HO}
def je.write(ok:je P w H h)(mu:Mut (H x))(he:e=x\/H e=some (.own x))(k:∀b u,b≠e->h.get? b=some u->h'.get? b=some u)(heo:∃u,h'.get? e=some u)
 (new:aU P w (upd H x o') h' x o'):je P w (upd H x o') h':=λb u q=>by
 have Yd:∀c y,H c=some (.own y)->c≠x:=λc y r z=>by subst z;rw[r] at mu;exact mu
 have ZbZ:∀c xs,H c=some (.tup xs)->c≠x:=λc xs r z=>by subst z;rw[r] at mu;exact mu
 have Zb0:∀c q,H c=some (.zY q)->c≠x:=λc xs r z=>by subst z;rw[r] at mu;exact mu
 by_cases hb:b=x
 ·subst hb;rw[Ħ] at q;cases q;exact new
 ·rw[Ę hb] at q
  by_cases hbe:b=e
  ·have q':H b=some (.own x):=by
    rcases he with z|z
    ·exact absurd (hbe.trans z) hb
    ·rw[hbe];exact z
   rw[q] at q';cases q'
   obtain⟨v,hv⟩:=heo
   exact⟨v,by rw[hbe];exact hv⟩
  ·refine(ok b u q).stay (λc v hc r=>k c v ?_ r) (λc r=>by rw[Ę (Yd c b r)];exact r) (λc xs r=>by rw[Ę (ZbZ c xs r)];exact r) λc xs r=>by rw[Ę (Zb0 c xs r)];exact r
   rcases hc with rfl|hc
   ·exact hbe
   ·rintro rfl
    rcases he with z|z
    ·exact Yd c b hc z
    ·rw[hc] at z;cases z;exact hb rfl
end
structure Un(fs ex:List Addr)(H H':Hp)(h h':Heap):Prop where
 keep:∀b o,h.get? b=some o->H b=none->b∉fs->b∉ex->h'.get? b=some o
 slot:∀b o,h.get? b=some o->H b=none->b∈fs->b∉ex->∃sl,h'.get? b=some {o with slots:=sl}
 free:∀b o,h.get? b=some o->H b=none->b∉ex->H' b=none
 there:∀b o,h.get? b=some o->b∉ex->∃o',h'.get? b=some o'
 tups:∀b xs,H b=some (.tup xs)->H' b=some (.tup xs)
 oE:∀b o u,H b=some (.fB o u)->H' b=some (.fB o u)
 lB:∀b q,H b=some (.gW q)->H' b=some (.gW q)
section
variable{fs fs' ex ex':List Addr}{H H1 H2:Hp}{h h1 h2 h':Heap}{a x e:Addr}{o:HO}
def Un.any(u:Un fs ex H H1 h h1){b:Addr}{ob:Obj}(q:h.get? b=some ob)(n:H b=none)(hx:b∉ex):∃sl,h1.get? b=some {ob with slots:=sl}:=by
 by_cases hb:b∈fs
 ·exact u.slot b ob q n hb hx
 ·exact⟨ob.slots,u.keep b ob q n hb hx⟩
def Un.kept(k:∀b u,h.get? b=some u->h'.get? b=some u):Un fs ex H H h h':=
 ⟨λb ob q _ _ _=>k b ob q,λb ob q _ _ _=>⟨ob.slots,k b ob q⟩,λ_ _ _ n _=>n,λb ob q _=>⟨ob,k b ob q⟩,λ_ _ q=>q,λ_ _ _ q=>q,λ_ _ q=>q⟩
def Un.refl:Un fs ex H H h h:=Un.kept λ_ _ q=>q
def Un.laid(k:∀b u,h.get? b=some u->h'.get? b=some u)(hp:h.objs.size<=a)(hn:H a=none):Un fs ex H (upd H a o) h h' where
 keep:=λb u q _ _ _=>k b u q
 slot:=λb u q _ _ _=>⟨u.slots,k b u q⟩
 free:=λb u q n _=>by rw[Ę (Nat.ne_of_lt (Nat.lt_of_lt_of_le (Heap.lt_size q) hp))];exact n
 there:=λb u q _=>⟨u,k b u q⟩
 tups:=λb xs q=>by rw[Ę (Ģ q hn)];exact q
 oE:=λb u xs q=>by rw[Ę (Ģ q hn)];exact q
 lB:=λb ps q=>by rw[Ę (Ģ q hn)];exact q
def Un.write(mu:Mut (H x))(he:e=x\/H e=some (.own x))(k:∀b u,b≠e->h.get? b=some u->h'.get? b=some u)(heo:∃u,h'.get? e=some u):Un fs ex H (upd H x o) h h':=by
 have hx:∀b,H b=none->b≠x:=λb n z=>by subst z;rw[n] at mu;exact mu
 have hb:∀b,H b=none->b≠e:=λb n z=>by
  subst z
  rcases he with r|r
  ·exact hx b n r
  ·rw[n] at r;cases r
 have hm:∀b u,H b=some u->¬Mut (some u)->b≠x:=λb u q nm z=>by subst z;rw[q] at mu;exact nm mu
 refine⟨λb u q n _ _=>k b u (hb b n) q,λb u q n _ _=>⟨u.slots,k b u (hb b n) q⟩,λb u q n _=>by rw[Ę (hx b n)];exact n,λb u q _=>?_,
  λb xs q=>by rw[Ę (hm b _ q λz=>z)];exact q,λb u xs q=>by rw[Ę (hm b _ q λz=>z)];exact q,λb ps q=>by rw[Ę (hm b _ q λz=>z)];exact q⟩
 by_cases hbe:b=e
 ·subst hbe;exact heo
 ·exact⟨u,k b u hbe q⟩
end
def trk(h:Heap)(H:Hp):List Addr:=(List.range h.objs.size).filter λa=>(H a).isSome
def oG(h:Heap)(H:Hp):Heap:=PySem.W.hideAll h (trk h H)
def zZ(h:Heap)(H:Hp):(oG h H).objs.size=h.objs.size:=PySem.W.hideAll_size _ _
def Bu{h:Heap}{H:Hp}{b:Addr}{o:Obj}(e:h.get? b=some o)(n:H b=none):(oG h H).get? b=some o:=
 PySem.W.hideAll_get _ e λhm=>by
  have q:(H b).isSome=true:=(List.mem_filter.mp hm).2
  rw[n] at q;simp at q
def H_{h:Heap}{H:Hp}{b:Addr}{o:Obj}(e:(oG h H).get? b=some o):h.get? b=some o/\H b=none:=by
 have e':h.get? b=some o:=PySem.W.of_hideAll (trk h H) e
 refine⟨e',?_⟩
 cases q:H b with
 |none=>rfl
 |some x=>
  have hm:b∈trk h H:=List.mem_filter.mpr ⟨List.mem_range.mpr (Heap.lt_size e'),by simp[q]⟩
  have z:(oG h H).get? b=none:=PySem.W.hideAll_none (trk h H) hm
  rw[z] at e;cases e
def Ia(g h:Heap)(L:Addr):List (Addr×Obj):=(List.range h.objs.size).filterMap λa=>if a=L\/(g.get? a).isSome=true then none else(h.get? a).map λo=>(a,o)
def rest(g h:Heap)(L d:Addr):List (Addr×Obj):=(Ia g h L).filter λp=>decide (p.1≠d)
end L2
namespace L2
open PySem PySem.Spec PyProof.Rows
structure Mod(K:PySem.W.Frag)(mg:Str->Option Value)(base:Heap):Prop where
 kin:K.In base
 glob:base.Ns mainGlobals mg
 blt:∃mb,base.Ns builtinsNs mb/\∀x:Str,x≠ "__name__" ->mb x=bootBuiltins x
 nolimit:base.NoLimit
def lams:List Str:=["best_step"]
abbrev bx(x:Str):Str:=(x ++ ".<locals>.") ++ "<lambda>"
def TabsOk(K:PySem.W.Frag)(mg:Str->Option Value)(base:Heap)(H:Hp):Prop:=∀x c P,x∈lams->PySem.W.tabIn K x=some (c,P)->PySem.W.CodeHd base c P/\H P=some (.gW (bx x))/\base.BuiltinsAt mg P
structure Cx where
 prog:Program
 w:World
 K:PySem.W.Frag
 mg:Str->Option Value
 base:Heap
 A:Around
 N:List Str
 s₀:Shared
 H₀:Hp
 env:Env
 outer:List Env
 stack:List Env
 ex:List Addr
 fn:Str->Bool
 calm:Bool
 pn:List (Addr×Obj)
 xe:Value->Shared->Prop
def frs(l:List Env):List Addr:=l.filterMap (·.frame)
abbrev Cx.fs(X:Cx):List Addr:=frs X.outer
def z_(sc:Scope)(x:Str):Prop:=sc.names.lookup x=some .local\/sc.names.lookup x=some .cell\/sc.names.lookup x=some .free
def Loc(sc:Scope)(x:Str):Prop:=sc.names.lookup x=some .local\/sc.names.lookup x=some .cell
def Look(env:Env)(h:Heap)(m:Str->Option Value)(x:Str)(u:Value):Prop:=
 (env.kindOf x=some .local/\m x=some u)\/((env.kindOf x=some .cell\/env.kindOf x=some .free)/\∃c,env.cells.lookup x=some c/\h.IsCell c (some u))
structure Cx.Ok(X:Cx):Prop where
 mod:Mod X.K X.mg X.base
 kind:X.env.scope.kind=.function
 glob:X.env.globals=mainGlobals
 blt:X.env.builtins=builtinsNs
 above:X.s₀.heap.objs.size<=X.env.locals
 inj:∀x y c,X.env.cells.lookup x=some c->X.env.cells.lookup y=some c->x=y
 has:∀x,(X.env.kindOf x=some .cell\/X.env.kindOf x=some .free)->∃c,X.env.cells.lookup x=some c
 cab:∀x c,X.fn x=true->X.env.cells.lookup x=some c->X.s₀.heap.objs.size<=c
 hd:X.calm=true->X.A.handled=none
 frames:X.A.frames=some X.stack
 stk:X.stack=X.outer\/(X.stack=X.env::X.outer/\X.env.frame=some X.env.locals)
 exf:∀b∈X.ex,b≠X.env.locals/\∀x c,X.env.cells.lookup x=some c->c≠b
 bs:∀b o,X.base.get? b=some o->X.s₀.heap.get? b=some o/\X.H₀ b=none
 Hz:X.base.objs.size<=X.s₀.heap.objs.size
 Bv:∀b o,X.base.get? b=some o->b∉X.ex
 Ib:∀b∈X.ex,b∉X.fs
 lC:X.s₀.heap.FunFrames X.base X.outer
 Sd:∀b∈X.fs,X.H₀ b=none
 tb:TabsOk X.K X.mg X.base X.H₀
structure Inv(X:Cx)(pins:List (Addr×Obj))(σ:List (Option V))(H:Hp)(s:Shared):Prop where
 ok:X.Ok
 os:s.os=X.s₀.os
 bare:AllBare s.gens
 base:Un X.fs X.ex X.H₀ H X.s₀.heap s.heap
 loc:∃m,s.heap.Ns X.env.locals m/\∀(i:Nat) (x:Str) (v:V),X.N[i]?=some x->σ[i]?=some (some v)->z_ X.env.scope x->∃u,RelV v u/\Look X.env s.heap m x u
 cell:∀x c,X.env.cells.lookup x=some c->∃v,s.heap.IsCell c v
 free:H X.env.locals=none
 fC:∀x c,X.env.cells.lookup x=some c->H c=none
 pin:∀p∈X.pn++pins,s.heap.get? p.1=some p.2/\H p.1=none/\p.1≠X.env.locals/\p.1∉X.fs/\∀v,p.2.data≠ .cell v
 hok:je X.prog X.w H s.heap
 len:σ.length=X.N.length
section
variable{X:Cx}{pins:List (Addr×Obj)}{σ:List (Option V)}{H H':Hp}{s:Shared}{h':Heap}
def Cx.Ok.Zb1(ok:X.Ok){b:Addr}{o:Obj}(e:X.base.get? b=some o):b∉X.fs:=λhb=>by
 have:=(ok.lC.mem hb).1
 rw[e] at this;cases this
theorem Inv.bs(I:Inv X pins σ H s):∀b o,X.base.get? b=some o->s.heap.get? b=some o/\H b=none:=λb o e=>
 ⟨I.base.keep b o (I.ok.bs b o e).1 (I.ok.bs b o e).2 (I.ok.Zb1 e) (I.ok.Bv b o e),I.base.free b o (I.ok.bs b o e).1 (I.ok.bs b o e).2 (I.ok.Bv b o e)⟩
def Inv.bk(I:Inv X pins σ H s):∀b o,X.base.get? b=some o->s.heap.get? b=some o:=λb o e=>(I.bs b o e).1
theorem Inv.tb(I:Inv X pins σ H s):TabsOk X.K X.mg X.base H:=λx c P hx e=>⟨(I.ok.tb x c P hx e).1,I.base.lB _ _ (I.ok.tb x c P hx e).2.1,(I.ok.tb x c P hx e).2.2⟩
theorem Inv.mod(I:Inv X pins σ H s):Mod X.K X.mg X.base:=I.ok.mod
def Inv.Aa(I:Inv X pins σ H s):X.K.In s.heap:=I.ok.mod.kin.keeps I.bk
theorem Inv.nolimit(I:Inv X pins σ H s):s.heap.NoLimit:=I.ok.mod.nolimit.keeps I.bk
theorem Inv.lt(I:Inv X pins σ H s):X.env.locals<s.heap.objs.size:=let ⟨_,hn,_⟩:=I.loc;hn.lt
def Inv.sz(I:Inv X pins σ H s):X.s₀.heap.objs.size<=s.heap.objs.size:=Nat.le_trans I.ok.above (Nat.le_of_lt I.lt)
def Inv.Zb2(I:Inv X pins σ H s){a:Addr}(h:s.heap.objs.size<=a):a∉X.fs:=λhb=>by
 obtain⟨_,o,ho,_⟩:=I.ok.lC.mem hb
 exact absurd (Nat.lt_of_lt_of_le (Heap.lt_size ho) (Nat.le_trans I.sz h)) (Nat.lt_irrefl _)
def Inv.Sg(I:Inv X pins σ H s):∀x c,X.env.cells.lookup x=some c->c≠X.env.locals:=λx c e z=>by
 obtain⟨v,o,ho,hd⟩:=I.cell x c e
 obtain⟨m,⟨o',es,ep,ho',hd',_⟩,_⟩:=I.loc
 rw[z,ho'] at ho;cases ho;rw[hd'] at hd;cases hd
theorem Inv.lC(I:Inv X pins σ H s):s.heap.FunFrames X.base X.outer:=by
 have all:∀(l:List Env),(∀b∈frs l,b∈X.fs)->X.s₀.heap.FunFrames X.base l->s.heap.FunFrames X.base l:=by
  intro l
  induction l with
  |nil=>intro _ _;trivial
  |cons env r ih=>
   intro hs hl
   obtain⟨hk,⟨L,o,hf,hn,ho,hd⟩,hr⟩:=hl
   have hL:L∈X.fs:=hs L (by unfold frs;rw[List.filterMap_cons,hf];exact List.mem_cons_self)
   obtain⟨sl,e⟩:=I.base.slot L o ho (I.ok.Sd L hL) hL λz=>I.ok.Ib L z hL
   exact⟨hk,⟨L,_,hf,hn,e,hd⟩,ih (λb hb=>hs b (by unfold frs;rw[List.filterMap_cons,hf];exact List.mem_cons_of_mem _ hb)) hr⟩
 exact all X.outer (λ_ hb=>hb) I.ok.lC
theorem Inv.stack(I:Inv X pins σ H s):s.heap.FunFrames X.base X.stack:=by
 rcases I.ok.stk with e|⟨e,hf⟩
 ·rw[e];exact I.lC
 ·rw[e]
  obtain⟨m,hn,_⟩:=I.loc
  refine .cons (by rw[I.ok.kind];decide) hf hn ?_ I.lC
  exact Heap.get?_none_of_le (Nat.le_trans I.ok.Hz I.ok.above)
def Inv.lY(I:Inv X pins σ H s):∀b∈frs X.stack,b∈X.env.locals::X.fs:=λb hb=>by
 rcases I.ok.stk with e|⟨e,hf⟩
 ·rw[e] at hb;exact List.mem_cons_of_mem _ hb
 ·rw[e] at hb
  unfold frs at hb
  rw[List.filterMap_cons,hf] at hb
  exact hb
def Inv.qD(I:Inv X pins σ H s):∀b∈frs X.stack,H b=none:=λb hb=>by
 rcases List.mem_cons.mp (I.lY b hb) with e|hb
 ·rw[e];exact I.free
 ·obtain⟨_,o,ho,_⟩:=I.ok.lC.mem hb
  exact I.base.free b o ho (I.ok.Sd b hb) λz=>I.ok.Ib b z hb
def Inv.step{g':Array GenState}{t':Nat}{d':Drawn}{ch:List Addr}(I:Inv X pins σ H s)
 (hch:∀b∈ch,(b∈X.ex\/X.s₀.heap.objs.size<=b)/\b≠X.env.locals/\(∀x c,X.env.cells.lookup x=some c->c≠b)/\∀p∈X.pn++pins,p.1≠b)
 (keep:∀b o,b≠X.env.locals->b∉X.fs->b∉ch->s.heap.get? b=some o->H b=none->h'.get? b=some o)
 (slot:∀b o,b≠X.env.locals->b∈X.fs->b∉ch->s.heap.get? b=some o->H b=none->∃sl,h'.get? b=some {o with slots:=sl})(free:∀b o,b∉ch->s.heap.get? b=some o->H b=none->H' b=none)
 (there:∀b o,b∉ch->s.heap.get? b=some o->∃o',h'.get? b=some o')
 (tups:∀b xs,H b=some (.tup xs)->H' b=some (.tup xs))(oE:∀b o u,H b=some (.fB o u)->H' b=some (.fB o u))(lB:∀b q,H b=some (.gW q)->H' b=some (.gW q))
 (ns:∀m,s.heap.Ns X.env.locals m->h'.Ns X.env.locals m)(hok:je X.prog X.w H' h')(hg:AllBare g') :
 Inv X pins σ H' {s with heap:=h',gens:=g',drawn:=d',toks:=t'}:=by
 have neL:∀b o,X.s₀.heap.get? b=some o->b≠X.env.locals:=λb o e=>Nat.ne_of_lt (Nat.lt_of_lt_of_le (Heap.lt_size e) I.ok.above)
 have neC:∀b o,X.s₀.heap.get? b=some o->b∉X.ex->b∉ch:=λb o e hx hb=>by
  rcases(hch b hb).1 with z|z
  ·exact hx z
  ·exact absurd (Nat.lt_of_lt_of_le (Heap.lt_size e) z) (Nat.lt_irrefl _)
 have cellK:∀x c,X.env.cells.lookup x=some c->∀v,s.heap.IsCell c v->h'.IsCell c v:=λx c e v ⟨o,ho,hd⟩=>by
  have Ye:c∉ch:=λz=>(hch c z).2.2.1 x c e rfl
  by_cases hc:c∈X.fs
  ·obtain⟨sl,q⟩:=slot c o (I.Sg x c e) hc Ye ho (I.fC x c e)
   exact⟨_,q,hd⟩
  ·exact⟨o,keep c o (I.Sg x c e) hc Ye ho (I.fC x c e),hd⟩
 refine⟨I.ok,I.os,hg,⟨λb o e n hb hx=>?_,λb o e n hb hx=>?_,λb o e n hx=>?_,λb o e hx=>?_,λb xs e=>tups b xs (I.base.tups b xs e),λb o xs e=>oE b o xs (I.base.oE b o xs e),λb ps e=>?_⟩,?_,λx c e=>?_,?_,λx c e=>?_,λp hp=>?_,hok,I.len⟩
 ·exact keep b o (neL b o e) hb (neC b o e hx) (I.base.keep b o e n hb hx) (I.base.free b o e n hx)
 ·obtain⟨sl,e1⟩:=I.base.slot b o e n hb hx
  obtain⟨sl',e2⟩:=slot b _ (neL b o e) hb (neC b o e hx) e1 (I.base.free b o e n hx)
  exact⟨sl',e2⟩
 ·obtain⟨o',e1⟩:=I.base.there b o e hx
  exact free b o' (neC b o e hx) e1 (I.base.free b o e n hx)
 ·obtain⟨o',e1⟩:=I.base.there b o e hx
  exact there b o' (neC b o e hx) e1
 ·exact lB b ps (I.base.lB b ps e)
 ·obtain⟨m,hn,hl⟩:=I.loc
  refine⟨m,ns m hn,λi x v e1 e2 e3=>?_⟩
  obtain⟨u,r,l⟩:=hl i x v e1 e2 e3
  refine⟨u,r,?_⟩
  rcases l with l|⟨k,c,e,z⟩
  ·exact .inl l
  ·exact .inr ⟨k,c,e,cellK x c e _ z⟩
 ·obtain⟨v,z⟩:=I.cell x c e
  exact⟨v,cellK x c e v z⟩
 ·obtain⟨m,⟨o,_,_,ho,_⟩,_⟩:=I.loc
  exact free _ o (λz=>(hch _ z).2.1 rfl) ho I.free
 ·obtain⟨v,o,ho,hd⟩:=I.cell x c e
  exact free c o (λz=>(hch c z).2.2.1 x c e rfl) ho (I.fC x c e)
 ·obtain⟨e,n,ne,nf,d⟩:=I.pin p hp
  have Ye:p.1∉ch:=λz=>(hch p.1 z).2.2.2 p hp rfl
  exact⟨keep p.1 p.2 ne nf Ye e n,free p.1 p.2 Ye e n,ne,nf,d⟩
def Inv.un{t':Nat}(I:Inv X pins σ H s)(u:Un X.fs [] H H' s.heap h')(hok:je X.prog X.w H' h'):Inv X pins σ H' {s with heap:=h',toks:=t'}:=by
 obtain⟨m,⟨o,es,ep,ho,r⟩,_⟩:=id I.loc
 obtain⟨sl,hL⟩:=u.any ho I.free (by simp)
 exact I.step (g':=s.gens) (d':=s.drawn) (ch:=[]) (λ_ z=>nomatch z) (λb o _ hb _ e n=>u.keep b o e n hb (by simp)) (λb o _ hb _ e n=>u.slot b o e n hb (by simp)) (λb o _ e n=>u.free b o e n (by simp)) (λb o _ e=>u.there b o e (by simp)) u.tups u.oE u.lB (λm' hm=>by
  obtain⟨o',es',ep',ho',r'⟩:=hm
  rw[ho] at ho';cases ho'
  exact⟨_,es',ep',hL,r'⟩) hok I.bare
def Inv.call{g':Array GenState}{t':Nat}{d':Drawn}{ch:List Addr}(I:Inv X pins σ H s)(u:Un (frs X.stack) ch H H' s.heap h')(hok:je X.prog X.w H' h')(hg:AllBare g')
 (hch:∀b∈ch,(b∈X.ex\/X.s₀.heap.objs.size<=b)/\b≠X.env.locals/\(∀x c,X.env.cells.lookup x=some c->c≠b)/\∀p∈X.pn++pins,p.1≠b) :
 Inv X pins σ H' {s with heap:=h',gens:=g',drawn:=d',toks:=t'}:=by
 obtain⟨m,⟨o,es,ep,ho,r⟩,_⟩:=id I.loc
 obtain⟨sl,hL⟩:=u.any ho I.free λz=>(hch _ z).2.1 rfl
 exact I.step (ch:=ch) hch (λb o hL hb hc e n=>u.keep b o e n (λz=>(List.mem_cons.mp (I.lY b z)).elim hL hb) hc) (λb o _ _ hc e n=>u.any e n hc) (λb o hc e n=>u.free b o e n hc) (λb o hc e=>u.there b o e hc) u.tups u.oE u.lB (λm' hm=>by
  obtain⟨o',es',ep',ho',r'⟩:=hm
  rw[ho] at ho';cases ho'
  exact⟨_,es',ep',hL,r'⟩) hok hg
def Inv.turned{t':Nat}{it:Addr}(I:Inv X pins σ H s)(k:∀b o,b≠it->s.heap.get? b=some o->h'.get? b=some o)(hn:H it=none)(hL:it≠X.env.locals)
 (h1:it∈X.ex\/X.s₀.heap.objs.size<=it)(h2:∀x c,X.env.cells.lookup x=some c->c≠it)(h3:∀p∈X.pn++pins,p.1≠it):Inv X pins σ H {s with heap:=h',toks:=t'}:=by
 have nit:∀b u,H b=some u->b≠it:=λb u e z=>by rw[z,hn] at e;cases e
 refine I.step (g':=s.gens) (d':=s.drawn) (ch:=[it]) (λb hb=>?_) (λb o _ _ hc e _=>k b o (λz=>hc (by simp[z])) e) (λb o _ _ hc e _=>⟨o.slots,k b o (λz=>hc (by simp[z])) e⟩) (λ_ _ _ _ n=>n)
  (λb o hc e=>⟨o,k b o (λz=>hc (by simp[z])) e⟩) (λ_ _ e=>e) (λ_ _ _ e=>e) (λ_ _ e=>e) (λm hm=>?_) (λb u e=>?_) I.bare
 ·have e:b=it:=by simpa using hb
  subst e
  exact⟨h1,hL,h2,h3⟩
 ·obtain⟨o,es,ep,ho,r⟩:=hm
  exact⟨o,es,ep,k _ o (Ne.symm hL) ho,r⟩
 ·refine(I.hok b u e).stay (λc v hc q=>k c v ?_ q) (λ_ q=>q) λ_ _ q=>q
  rcases hc with z|z
  ·rw[z];exact nit b u e
  ·exact nit c _ z
def Inv.tok(I:Inv X pins σ H s)(t:Nat):Inv X pins σ H {s with toks:=t}:=I.un (h':=s.heap) (t':=t) Un.refl I.hok
theorem Inv.kept{t':Nat}(I:Inv X pins σ H s)(k:∀b u,s.heap.get? b=some u->h'.get? b=some u):Inv X pins σ H {s with heap:=h',toks:=t'}:=I.un (Un.kept k) (I.hok.kept k)
theorem Inv.laid{a:Addr}{o:HO}{t':Nat}(I:Inv X pins σ H s)(k:∀b u,s.heap.get? b=some u->h'.get? b=some u)(hp:s.heap.objs.size<=a)(new:aU X.prog X.w (upd H a o) h' a o) :
 Inv X pins σ (upd H a o) {s with heap:=h',toks:=t'}:=I.un (Un.laid k hp (I.hok.fresh hp)) (I.hok.laid k hp new)
theorem Inv.write{x e:Addr}{o:HO}{t':Nat}(I:Inv X pins σ H s)(mu:Mut (H x))(he:e=x\/H e=some (.own x))(k:∀b u,b≠e->s.heap.get? b=some u->h'.get? b=some u)(heo:∃u,h'.get? e=some u)
 (new:aU X.prog X.w (upd H x o) h' x o):Inv X pins σ (upd H x o) {s with heap:=h',toks:=t'}:=I.un (Un.write mu he k heo) (I.hok.write mu he k heo new)
def Inv.yK{gY:List (Addr×Obj)}(I:Inv X pins σ H s)(h:∀p∈gY,s.heap.get? p.1=some p.2/\H p.1=none/\p.1≠X.env.locals/\p.1∉X.fs/\∀v,p.2.data≠ .cell v):Inv X gY σ H s:=
 ⟨I.ok,I.os,I.bare,I.base,I.loc,I.cell,I.free,I.fC,λp hp=>(List.mem_append.mp hp).elim (λz=>I.pin p (List.mem_append_left _ z)) (h p),I.hok,I.len⟩
def tM{N:List Str}(hN:N.Nodup){i j:Nat}{x:Str}(a:N[i]?=some x)(b:N[j]?=some x):i=j:=by
 obtain⟨h1,e1⟩:=List.getElem?_eq_some_iff.mp a
 obtain⟨h2,e2⟩:=List.getElem?_eq_some_iff.mp b
 exact(List.getElem_inj hN).mp (e1.trans e2.symm)
def oZ{M:Model}{A:Around}{E:Value->Shared->Prop}{i:Nat}{x:Str}{v:V}{u:Value}{Q:Unit->Shared->Prop}(I:Inv X pins σ H s)(hN:X.N.Nodup)(hi:X.N[i]?=some x)(hx:Loc X.env.scope x)(r:RelV v u)
 (h:∀s',Inv X pins (σ.set i (some v)) H s'->(∃a,Heap.SameBut a s.heap s'.heap/\(a=X.env.locals\/X.env.cells.lookup x=some a))->Q () s')(hf:X.fn x=true\/X.env.scope.names.lookup x=some .local:=by first|exact .inl rfl|exact .inr rfl|assumption):wpAny M A (storeName X.env x u) Q E s:=by
 obtain⟨m,hn,hl⟩:=id I.loc
 have hcls:(X.env.scope.kind== .class || (X.env.scope.kind== .module && X.env.locals != X.env.globals))=false:=by rw[I.ok.kind];rfl
 have ZdB:i < σ.length:=by rw[I.len];exact(List.getElem?_eq_some_iff.mp hi).1
 have Sg:=I.Sg
 have tracked:∀{a:Addr} {h':Heap},(∃o,s.heap.get? a=some o/\H a=none)->Heap.SameBut a s.heap h'->je X.prog X.w H h':=fun{a h'} ha hs b ob e=>by
  obtain⟨_,_,hfree⟩:=ha
  refine(I.hok b ob e).stay (λc w' hc q=>(hs.2 c ?_).trans q) (λ_ q=>q) λ_ _ q=>q
  rintro rfl
  rcases hc with rfl|hc
  ·rw[hfree] at e;cases e
  ·rw[hfree] at hc;cases hc
 rcases hx with hk|hk
 ·refine wpAny_storeName_local hk hn (λh' hn' hs=>?_) hcls
  obtain⟨oL,_,_,hoL,_⟩:=id hn
  refine h _ ⟨I.ok,I.os,I.bare,⟨λb o e n hb hx=>?_,λb o e n hb hx=>?_,I.base.free,λb o e hx=>?_,I.base.tups,I.base.oE,I.base.lB⟩,⟨_,hn',λj y v' e1 e2 e3=>?_⟩,λy c e=>?_,I.free,I.fC,λp hp=>?_,tracked ⟨oL,hoL,I.free⟩ hs,by simpa using I.len⟩ ⟨_,hs,.inl rfl⟩
  ·exact(hs.2 b (Nat.ne_of_lt (Nat.lt_of_lt_of_le (Heap.lt_size e) I.ok.above))).trans (I.base.keep b o e n hb hx)
  ·obtain⟨sl,e1⟩:=I.base.slot b o e n hb hx
   exact⟨sl,(hs.2 b (Nat.ne_of_lt (Nat.lt_of_lt_of_le (Heap.lt_size e) I.ok.above))).trans e1⟩
  ·obtain⟨o',e1⟩:=I.base.there b o e hx
   exact⟨o',(hs.2 b (Nat.ne_of_lt (Nat.lt_of_lt_of_le (Heap.lt_size e) I.ok.above))).trans e1⟩
  ·by_cases hj:j=i
   ·subst hj
    rw[hi] at e1;cases e1
    rw[List.getElem?_set_self ZdB] at e2
    cases e2
    exact⟨u,r,.inl ⟨hk,by simp⟩⟩
   ·rw[List.getElem?_set_ne (Ne.symm hj)] at e2
    obtain⟨u',r',q⟩:=hl j y v' e1 e2 e3
    refine⟨u',r',?_⟩
    rcases q with⟨k,e⟩|⟨k,c,e,z⟩
    ·refine .inl ⟨k,?_⟩
     have:y≠x:=λe=>hj (tM hN e1 (e▸hi))
     simp[this,e]
    ·exact .inr ⟨k,c,e,z.sameBut hs (Sg y c e)⟩
  ·obtain⟨w',z⟩:=I.cell y c e
   exact⟨w',z.sameBut hs (Sg y c e)⟩
  ·obtain⟨e,n,ne,nf,d⟩:=I.pin p hp
   exact⟨(hs.2 p.1 ne).trans e,n,ne,nf,d⟩
 ·have hfn:X.fn x=true:=by
   rcases hf with z|z
   ·exact z
   ·rw[z] at hk;cases hk
  obtain⟨c,hc⟩:=I.ok.has x (.inl hk)
  obtain⟨w',z⟩:=I.cell x c hc
  refine wpAny_storeName_cell I.ok.kind hk hc z (λh' hc' hs=>?_)
  obtain⟨oc,hoc,Zb3⟩:=id z
  refine h {s with heap:=h'} ⟨I.ok,I.os,I.bare,⟨λb o e n hb hx=>?_,λb o e n hb hx=>?_,I.base.free,λb o e hx=>?_,I.base.tups,I.base.oE,I.base.lB⟩,⟨m,hn.sameBut hs (Ne.symm (Sg x c hc)),λj y v' e1 e2 e3=>?_⟩,λy c' e=>?_,I.free,I.fC,λp hp=>?_,tracked ⟨oc,hoc,I.fC x c hc⟩ hs,by simpa using I.len⟩ ⟨c,hs,.inr hc⟩
  ·exact(hs.2 b (Nat.ne_of_lt (Nat.lt_of_lt_of_le (Heap.lt_size e) (I.ok.cab x c hfn hc)))).trans (I.base.keep b o e n hb hx)
  ·obtain⟨sl,e1⟩:=I.base.slot b o e n hb hx
   exact⟨sl,(hs.2 b (Nat.ne_of_lt (Nat.lt_of_lt_of_le (Heap.lt_size e) (I.ok.cab x c hfn hc)))).trans e1⟩
  ·obtain⟨o',e1⟩:=I.base.there b o e hx
   exact⟨o',(hs.2 b (Nat.ne_of_lt (Nat.lt_of_lt_of_le (Heap.lt_size e) (I.ok.cab x c hfn hc)))).trans e1⟩
  ·by_cases hj:j=i
   ·subst hj
    rw[hi] at e1;cases e1
    rw[List.getElem?_set_self ZdB] at e2
    cases e2
    exact⟨u,r,.inr ⟨.inl hk,c,hc,hc'⟩⟩
   ·rw[List.getElem?_set_ne (Ne.symm hj)] at e2
    obtain⟨u',r',q⟩:=hl j y v' e1 e2 e3
    refine⟨u',r',?_⟩
    rcases q with q|⟨k,c',e,z'⟩
    ·exact .inl q
    ·refine .inr ⟨k,c',e,z'.sameBut hs ?_⟩
     rintro rfl
     exact hj (tM hN e1 (I.ok.inj _ _ _ e hc▸hi))
  ·by_cases hcc:c'=c
   ·subst hcc;exact⟨_,hc'⟩
   ·obtain⟨w2,z2⟩:=I.cell y c' e
    exact⟨w2,z2.sameBut hs hcc⟩
  ·obtain⟨e,n,ne,nf,d⟩:=I.pin p hp
   refine⟨(hs.2 p.1 ?_).trans e,n,ne,nf,d⟩
   intro q
   rw[q,hoc] at e
   have q':oc=p.2:=Option.some.inj e
   exact d w' (by rw[<-q'];exact Zb3)
def lZ{M:Model}{A:Around}{E:Value->Shared->Prop}{i:Nat}{x:Str}{v:V}{u:Value}{Q:Unit->Shared->Prop}(I:Inv X pins σ H s)(hN:X.N.Nodup)(hi:X.N[i]?=some x)(hx:Loc X.env.scope x)(r:RelV v u)
 (h:∀s',Inv X pins (σ.set i (some v)) H s'->Q () s')(hf:X.fn x=true\/X.env.scope.names.lookup x=some .local:=by first|exact .inl rfl|exact .inr rfl|assumption):wpAny M A (storeName X.env x u) Q E s:=
 oZ I hN hi hx r (λs' I' _=>h s' I') hf
def Inv.call'{s':Shared}{ch:List Addr}(I:Inv X pins σ H s)(ho:s'.os=s.os)(u:Un (frs X.stack) ch H H' s.heap s'.heap)(hok:je X.prog X.w H' s'.heap)(hg:AllBare s'.gens)
 (hch:∀b∈ch,(b∈X.ex\/X.s₀.heap.objs.size<=b)/\b≠X.env.locals/\(∀x c,X.env.cells.lookup x=some c->c≠b)/\∀p∈X.pn++pins,p.1≠b):Inv X pins σ H' s':=by
 obtain⟨h',g',d',t',o'⟩:=s'
 have e:o'=s.os:=ho
 subst e
 exact I.call (g':=g') (t':=t') (d':=d') u hok hg hch
end
abbrev XK:=Value->Option Addr->Hp->Prop
abbrev St:=List (Option V)
abbrev VK:=V->Hp->Prop
abbrev TE:=St->Hp->VK->Prop
abbrev TT:=St->Hp->(Bool->Hp->Prop)->Prop
abbrev TA:=St->Hp->(List V->Hp->Prop)->Prop
structure Ends where
 nx:St->Hp->Prop
 rt:VK
 bk:St->Hp->Prop:=λ_ _=>False
 ct:St->Hp->Prop:=λ_ _=>False
abbrev TS:=Ends->St->Hp->Prop
def EP(X:Cx)(pins:List (Addr×Obj))(σ:St)(Q:VK)(u:Value)(s':Shared):Prop:=∃v H',Inv X pins σ H' s'/\RelV v u/\Q v H'
def TP(X:Cx)(pins:List (Addr×Obj))(σ:St)(Q:Bool->Hp->Prop)(b:Bool)(s':Shared):Prop:=∃H',Inv X pins σ H' s'/\Q b H'
def AP(X:Cx)(pins:List (Addr×Obj))(σ:St)(Q:List V->Hp->Prop)(us:List Value)(s':Shared):Prop:=∃vs H',Inv X pins σ H' s'/\Vals vs us/\Q vs H'
def SP(X:Cx)(pins:List (Addr×Obj))(D:Ends)(f:Flow)(s':Shared):Prop:=
 match f with
 | .next=>∃σ' H',Inv X pins σ' H' s'/\D.nx σ' H'
 | .brk=>∃σ' H',Inv X pins σ' H' s'/\D.bk σ' H'
 | .cont=>∃σ' H',Inv X pins σ' H' s'/\D.ct σ' H'
 | .ret u=>∃v σ' H',Inv X pins σ' H' s'/\RelV v u/\D.rt v H'
def PE(X:Cx)(e:Expr)(t:TE):Prop:=
 ∀(pins:List (Addr×Obj)) (s:Shared) (σ:St) (H:Hp) (Q:VK),Inv X pins σ H s->t σ H Q->wpAny (model X.prog X.w) X.A (eval e X.env) (EP X pins σ Q) X.xe s
def PT(X:Cx)(e:Expr)(t:TT):Prop:=
 ∀(pins:List (Addr×Obj)) (s:Shared) (σ:St) (H:Hp) (Q:Bool->Hp->Prop),Inv X pins σ H s->t σ H Q->wpAny (model X.prog X.w) X.A (isTrue e X.env (eval e X.env)) (TP X pins σ Q) X.xe s
def PW(X:Cx)(e:Expr)(t:TT):Prop:=
 ∀(whole:Sem Value) (pins:List (Addr×Obj)) (s:Shared) (σ:St) (H:Hp) (Q:Bool->Hp->Prop),Inv X pins σ H s->t σ H Q->wpAny (model X.prog X.w) X.A (isTrue e X.env whole) (TP X pins σ Q) X.xe s
def PW.pt{X:Cx}{e:Expr}{t:TT}(h:PW X e t):PT X e t:=h _
def PA(X:Cx)(es:List Expr)(t:TA):Prop:=
 ∀(pos:Pos) (pins:List (Addr×Obj)) (s:Shared) (σ:St) (H:Hp) (Q:List V->Hp->Prop),Inv X pins σ H s->t σ H Q->wpAny (model X.prog X.w) X.A (spliced (backTo pos (starEach es X.env))) (AP X pins σ Q) X.xe s
def PS(X:Cx)(st:Stmt)(t:TS):Prop:=
 ∀(pins:List (Addr×Obj)) (s:Shared) (σ:St) (H:Hp) (D:Ends),Inv X pins σ H s->t D σ H->wpAny (model X.prog X.w) X.A (exec st X.env) (SP X pins D) X.xe s
def gZ(X:Cx)(st:List Stmt)(t:TS):Prop:=
 ∀(pins:List (Addr×Obj)) (s:Shared) (σ:St) (H:Hp) (D:Ends),Inv X pins σ H s->t D σ H->wpAny (model X.prog X.w) X.A (execs st X.env) (SP X pins D) X.xe s
def ŏ{α:Type}{t:Sem α}{Q Q':α->Shared->Prop}{M:Model}{A:Around}{E:Value->Shared->Prop}{s:Shared}(h:wpAny M A t Q E s)(hQ:∀a s,Q a s->Q' a s):wpAny M A t Q' E s:=wpAny_mono h hQ λ_ _ x=>x
end L2
namespace L2
open PySem PySem.Spec PyProof.Rows
section
variable{X:Cx}
def Bw(i:Nat):TE:=λσ H Q=>∃v,σ[i]?=some (some v)/\Q v H
def tC(v:V):TE:=λ_ H Q=>Q v H
def iM{i:Nat}{x:Str}{pos:Pos}(hN:X.N[i]?=some x)(hv:z_ X.env.scope x)(hd:(x== ("__debug__" :Str))=false:=by decide)(hcd:(x== ("__classdict__" :Str))=false:=by decide):PE X (.Name x pos) (Bw i):=by
 intro pins s σ H Q I h
 obtain⟨v,e,h⟩:=h
 obtain⟨m,hn,hl⟩:=I.loc
 obtain⟨u,r,l⟩:=hl i x v hN e hv
 have fin:EP X pins σ Q u s:=⟨v,H,I,r,h⟩
 rcases l with⟨hk,hm⟩|⟨hk,c,hc,hcell⟩
 ·exact wpAny_Name (wpAny_loadName_local I.ok.kind hk hn hm fin) hd
 ·rcases hk with hk|hk
  ·exact wpAny_Name (wpAny_loadName_cell I.ok.kind hk hc hcell fin) hd
  ·exact wpAny_Name (wpAny_loadName_free I.ok.kind hk hc hcell fin hcd) hd
def Sh{i j pos}:PE X (.Constant (.int i) j pos) (tC (.int i)):=λ_ _ _ H _ I h=>wpAny_Constant_int ⟨.int i,H,I.tok _,⟨_,rfl⟩,h⟩
def Yg{b j pos}:PE X (.Constant (.bool b) j pos) (tC (.bl b)):=λ_ _ _ H _ I h=>Constant_bool ⟨.bl b,H,I,rfl,h⟩
def Sq{j pos}:PE X (.Constant .none j pos) (tC .non):=λ_ _ _ H _ I h=>Constant_none ⟨.non,H,I,rfl,h⟩
def Ss{x j pos}:PE X (.Constant (.str x) j pos) (tC (.str x)):=λ_ _ _ H _ I h=>Calls.Constant_str ⟨.str x,H,I.tok _,⟨_,rfl⟩,h⟩
def Gl(X:Cx)(x:Str):Prop:=X.env.kindOf x=some .globalImplicit
def qF{E:Value->Shared->Prop}{pins:List (Addr×Obj)}{s:Shared}{σ:St}{H:Hp}{x:Str}{u:Value}{pos:Pos}{Q:Value->Shared->Prop}(I:Inv X pins σ H s)(hg:Gl X x)(hm:X.mg x=some u)(h:Q u s)
 (hd:(x== ("__debug__" :Str))=false:=by decide):wpAny (model X.prog X.w) X.A (eval (.Name x pos) X.env) Q E s:=
 Calls.Name_function_global I.ok.kind hg (Calls.loadGlobal_global (by rw[I.ok.glob];exact I.mod.glob.keeps I.bk) hm h) hd
def fG{E:Value->Shared->Prop}{pins:List (Addr×Obj)}{s:Shared}{σ:St}{H:Hp}{x:Str}{u:Value}{pos:Pos}{Q:Value->Shared->Prop}(I:Inv X pins σ H s)(hg:Gl X x)(hm:X.mg x=none)(hv:bootBuiltins x=some u)(h:Q u s)
 (hn:x≠ "__name__" := by decide)(hd:(x== ("__debug__" :Str))=false:=by decide):wpAny (model X.prog X.w) X.A (eval (.Name x pos) X.env) Q E s:=by
 obtain⟨mb,h1,h2⟩:=I.mod.blt
 exact Calls.Name_function_global I.ok.kind hg (Calls.loadGlobal_builtin (by rw[I.ok.glob];exact I.mod.glob.keeps I.bk) hm (by rw[I.ok.blt];exact h1.keeps I.bk) ((h2 x hn).trans hv) h) hd
def jf{x:Str}{v:V}{u:Value}{pos:Pos}(hg:Gl X x)(hm:X.mg x=some u)(r:RelV v u)(hd:(x== ("__debug__" :Str))=false:=by decide):PE X (.Name x pos) (tC v):=
 λ_ _ _ H _ I h=>qF I hg hm ⟨v,H,I,r,h⟩ hd
variable{a b:Expr}{ta tb:TE}{pos:Pos}
variable{tA tB':TT}{rest:List Expr}
def Zb4(t u:TT):TT:=λσ H Q=>t σ H λc H1=>if c=true then u σ H1 Q else Q false H1
def tOr(t u:TT):TT:=λσ H Q=>t σ H λc H1=>if c=true then Q true H1 else u σ H1 Q
def Zb5(t:TT):TT:=λσ H Q=>t σ H λc H1=>Q (!c) H1
def Ie(ha:PT X a tA):PW X (.BoolOp .And [a] pos) tA:=by
 intro wh pins s σ H Q I h
 refine isTrue_and (ŏ (ha pins s σ H Q I h) λc s1 e=>?_)
 cases c with
 |true=>exact isTrue_and_nil e
 |false=>exact e
def Sv(ha:PT X a tA):PW X (.BoolOp .Or [a] pos) tA:=by
 intro wh pins s σ H Q I h
 refine isTrue_or (ŏ (ha pins s σ H Q I h) λc s1 e=>?_)
 cases c with
 |false=>exact isTrue_or_nil e
 |true=>exact e
def Sw(ha:PT X a tA)(hb:PW X (.BoolOp .And (b::rest) pos) tB'):PW X (.BoolOp .And (a::b::rest) pos) (Zb4 tA tB'):=by
 intro wh pins s σ H Q I h
 refine isTrue_and (ŏ (ha pins s σ H _ I h) λc s1 ⟨H1,I1,q1⟩=>?_)
 cases c with
 |true=>exact hb wh pins s1 σ H1 Q I1 q1
 |false=>exact⟨H1,I1,q1⟩
def Yh(ha:PT X a tA)(hb:PW X (.BoolOp .Or (b::rest) pos) tB'):PW X (.BoolOp .Or (a::b::rest) pos) (tOr tA tB'):=by
 intro wh pins s σ H Q I h
 refine isTrue_or (ŏ (ha pins s σ H _ I h) λc s1 ⟨H1,I1,q1⟩=>?_)
 cases c with
 |true=>exact⟨H1,I1,q1⟩
 |false=>exact hb wh pins s1 σ H1 Q I1 q1
def Sx(ha:PT X a tA):PT X (.UnaryOp .Not a pos) (Zb5 tA):=by
 intro pins s σ H Q I h
 exact isTrue_not (ha pins s σ H (λc H1=>Q (!c) H1) I h)
def Sy{op}{t:TE}(h:PE X a t):PE X (.BoolOp op [a] pos) t:=λpins s σ H Q I hw=>BoolOp_one (h pins s σ H Q I hw)
def tIf(t:TT)(ta tb:TE):TE:=λσ H Q=>t σ H λc H1=>if c=true then ta σ H1 Q else tb σ H1 Q
def Bx{c:Expr}(hc:PT X c tA)(ha:PE X a ta)(hb:PE X b tb):PE X (.IfExp c a b pos) (tIf tA ta tb):=by
 intro pins s σ H Q I h
 refine wpAny_IfExp (ŏ (hc pins s σ H _ I h) λd s1 ⟨H1,I1,q1⟩=>?_)
 cases d with
 |true=>exact ha pins s1 σ H1 Q I1 q1
 |false=>exact hb pins s1 σ H1 Q I1 q1
end
end L2
namespace L2
open PySem PySem.Spec PyProof.Rows
def Ÿ(K:PySem.W.Frag)(H:Hp)(a:Addr)(xs:List V):Prop:=
 Rd H a (.lst xs)\/
  ∃(o:Obj) (its:Array Value) (n:Nat),K.lookup a=some o/\o.cls=.type "list" /\o.dict=none/\o.data=.seq its n/\its.size<=sizeLine/\Vals xs its.toList
def fH(K:PySem.W.Frag)(H:Hp)(a:Addr)(xs:List V):Prop:=
 Rd H a (.tup xs)\/
  ∃(o:Obj) (its:Array Value) (n:Nat),K.lookup a=some o/\o.cls=.type "tuple" /\o.data=.seq its n/\its.size<=sizeLine/\Vals xs its.toList
def Zb6:Value->Option V
 | .none=>some .non
 | .bool b=>some (.bl b)
 | .int i _=>some (.int i)
 | .str x _=>some (.str x)
 | .bytes b _=>some (.HY b)
 | .float b _=>some (.flt b)
 | .ref a=>some (.ref a)
 | .type n=>some (.ty n)
 |_=>none
def RelV.abs{x:V}{u:Value}(r:RelV x u):Zb6 u=some x:=by
 cases x with
 |non=>cases r;rfl
 |bl _=>cases r;rfl
 |int _=>obtain⟨t,rfl⟩:=r;rfl
 |str _=>obtain⟨t,rfl⟩:=r;rfl
 |HY _=>obtain⟨t,rfl⟩:=r;rfl
 |flt _=>obtain⟨t,rfl⟩:=r;rfl
 |ref _=>cases r;rfl
 |ty _=>cases r;rfl
theorem RelV.inj{x y:V}{u:Value}(r:RelV x u)(q:RelV y u):x=y:=Option.some.inj (r.abs.symm.trans q.abs)
theorem Vals.inj:∀{xs ys:List V} {us:List Value},Vals xs us->Vals ys us->xs=ys
 |_,_,_,.nil,.nil=>rfl
 |_,_,_,.cons r t,.cons r' t'=>by rw[r.inj r',Vals.inj t t']
section
variable{X:Cx}{pins:List (Addr×Obj)}{σ:St}{H:Hp}{s:Shared}{a:Addr}{xs ys:List V}
def Ÿ.of{K:PySem.W.Frag}(h:H a=some (.lst xs)):Ÿ K H a xs:=.inl (.inl h)
def fH.of{K:PySem.W.Frag}(h:H a=some (.tup xs)):fH K H a xs:=.inl (.inl h)
def Inv.list(I:Inv X pins σ H s)(h:Ÿ X.K H a xs):∃its:List Value,Vals xs its/\PlainL s.heap a its.toArray/\xs.length<=sizeLine:=by
 rcases h with h|⟨o,its,n,hk,hc,hd,hs,hz,r⟩
 ·obtain⟨z,its,n,r,e⟩:=h.ok I.hok
  exact⟨its,r,⟨_,n,e,rfl,rfl,rfl⟩,z⟩
 ·refine⟨its.toList,r,⟨o,n,I.Aa a o hk,hc,hd,by simpa using hs⟩,?_⟩
  have e:=r.length
  simp only[Array.length_toList] at e
  omega
def Inv.tuple(I:Inv X pins σ H s)(h:fH X.K H a xs):∃its:List Value,Vals xs its/\IsTup s.heap a its.toArray/\xs.length<=sizeLine:=by
 rcases h with h|⟨o,its,n,hk,hc,hs,hz,r⟩
 ·obtain⟨z,its,r,p⟩:=h.ok I.hok
  exact⟨its,r,p,z⟩
 ·refine⟨its.toList,r,⟨o,I.Aa a o hk,hc,n,by simpa using hs⟩,?_⟩
  have e:=r.length
  simp only[Array.length_toList] at e
  omega
def Inv.tQ(I:Inv X pins σ H s)(h:Ÿ X.K H a xs)(h':Ÿ X.K H a ys):xs=ys:=by
 obtain⟨its,r,⟨o,n,e,_,_,d⟩,_⟩:=I.list h
 obtain⟨its',r',⟨o',n',e',_,_,d'⟩,_⟩:=I.list h'
 rw[e] at e';cases e'
 rw[d] at d'
 injection d' with d1 _
 have:its=its':=by simpa using congrArg Array.toList d1
 subst this
 exact r.inj r'
def Inv.Ab(I:Inv X pins σ H s)(h:fH X.K H a xs)(h':fH X.K H a ys):xs=ys:=by
 obtain⟨its,r,⟨o,e,_,n,d⟩,_⟩:=I.tuple h
 obtain⟨its',r',⟨o',e',_,n',d'⟩,_⟩:=I.tuple h'
 rw[e] at e';cases e'
 rw[d] at d'
 injection d' with d1 _
 have:its=its':=by simpa using congrArg Array.toList d1
 subst this
 exact r.inj r'
end
abbrev Cx.wish(X:Cx)(E:Value->Shared->Prop):Cx:={X with xe:=E}
abbrev Cx.Œ(X:Cx):Cx:=X.wish λ_ _=>False
theorem Cx.Ok.wish{X:Cx}(ok:X.Ok)(E:Value->Shared->Prop):(X.wish E).Ok:=
 ⟨ok.mod,ok.kind,ok.glob,ok.blt,ok.above,ok.inj,ok.has,ok.cab,ok.hd,ok.frames,ok.stk,ok.exf,ok.bs,ok.Hz,ok.Bv,ok.Ib,ok.lC,ok.Sd,ok.tb⟩
def Cx.Ok.dg{X:Cx}{E:Value->Shared->Prop}(ok:(X.wish E).Ok):X.Ok:=
 ⟨ok.mod,ok.kind,ok.glob,ok.blt,ok.above,ok.inj,ok.has,ok.cab,ok.hd,ok.frames,ok.stk,ok.exf,ok.bs,ok.Hz,ok.Bv,ok.Ib,ok.lC,ok.Sd,ok.tb⟩
section
variable{X:Cx}{pins:List (Addr×Obj)}{σ:St}{H:Hp}{s:Shared}{E:Value->Shared->Prop}
theorem Inv.wish(I:Inv X pins σ H s)(E:Value->Shared->Prop):Inv (X.wish E) pins σ H s:=⟨I.ok.wish E,I.os,I.bare,I.base,I.loc,I.cell,I.free,I.fC,I.pin,I.hok,I.len⟩
theorem Inv.dg(I:Inv (X.wish E) pins σ H s):Inv X pins σ H s:=⟨I.ok.dg,I.os,I.bare,I.base,I.loc,I.cell,I.free,I.fC,I.pin,I.hok,I.len⟩
theorem SP.dg{D:Ends}{f:Flow}{s':Shared}(h:SP (X.wish E) pins D f s'):SP X pins D f s':=by
 cases f with
 |next=>obtain⟨σ',H',I,q⟩:=h;exact⟨σ',H',I.dg,q⟩
 |brk=>obtain⟨σ',H',I,q⟩:=h;exact⟨σ',H',I.dg,q⟩
 |cont=>obtain⟨σ',H',I,q⟩:=h;exact⟨σ',H',I.dg,q⟩
 |ret u=>obtain⟨v,σ',H',I,r,q⟩:=h;exact⟨v,σ',H',I.dg,r,q⟩
theorem PE.Œ{e:Expr}{t:TE}(h:PE X.Œ e t):PE X e t:=λpins s σ H Q I hw=>
 wpAny_mono (h pins s σ H Q (I.wish _) hw) (λ_ _ ⟨v,H',I',r,q⟩=>⟨v,H',I'.dg,r,q⟩) λ_ _ z=>False.elim z
end
section
variable{X:Cx}{st:Stmt}{rest:List Stmt}{t u:TS}{e:Expr}{te:TE}{pos:Pos}
def Yi:TS:=λD σ H=>D.nx σ H
def Zb7(t u:TS):TS:=λD σ H=>t {D with nx:=u D} σ H
def Ig:gZ X [] Yi:=λ_ _ σ H _ I h=>wpAny_execs_nil ⟨σ,H,I,h⟩
def BJ(h1:PS X st t)(h2:gZ X rest u):gZ X (st::rest) (Zb7 t u):=by
 intro pins s σ H D I h
 refine wpAny_execs_cons (ŏ (h1 pins s σ H {D with nx:=u D} I h) λf s1 q=>?_)
 cases f with
 |next=>
  obtain⟨σ',H',I',q⟩:=q
  exact h2 pins s1 σ' H' D I' q
 |ret v=>exact q
 |brk=>exact q
 |cont=>exact q
def Ih(h1:PS X st t):gZ X [st] t:=by
 intro pins s σ H D I h
 refine wpAny_execs_cons (ŏ (h1 pins s σ H D I h) λf s1 q=>?_)
 cases f with
 |next=>exact wpAny_execs_nil q
 |ret v=>exact q
 |brk=>exact q
 |cont=>exact q
def Inv.quiet{pins:List (Addr×Obj)}{σ:St}{H:Hp}{s:Shared}(I:Inv X pins σ H s):interactive X.env=false:=by simp[interactive,I.ok.kind]
def KZ(te:TE):TS:=λD σ H=>te σ H λ_ H1=>D.nx σ H1
def Ż(he:PE X e te)(hs:swapsWith e none pos.line X.env=pure false:=by rfl):PS X (.Expr e pos) (KZ te):=by
 intro pins s σ H D I h
 exact wpAny_Expr_any (ŏ (he pins s σ H _ I h) λv s1 ⟨x,H1,I1,r1,q1⟩=>⟨σ,H1,I1,q1⟩) I.quiet hs
def Zb8(te:TE):TS:=λD σ H=>te σ H D.rt
def SJ(he:PE X e te):PS X (.Return (some e) pos) (Zb8 te):=by
 intro pins s σ H D I h
 exact wpAny_Return_some (ŏ (he pins s σ H _ I h) λv s1 ⟨x,H1,I1,r1,q1⟩=>⟨x,σ,H1,I1,r1,q1⟩)
def Zb9(c:TT)(t u:TS):TS:=λD σ H=>c σ H λb H1=>if b=true then t D σ H1 else u D σ H1
def Yj{c:Expr}{a b:List Stmt}{tc:TT}(hc:PT X c tc)(ha:gZ X a t)(hb:gZ X b u):PS X (.If c a b pos) (Zb9 tc t u):=by
 intro pins s σ H D I h
 refine wpAny_If (ŏ (hc pins s σ H _ I h) λd s1 ⟨H1,I1,q1⟩=>?_)
 cases d with
 |true=>exact ha pins s1 σ H1 D I1 q1
 |false=>exact hb pins s1 σ H1 D I1 q1
def SM:TS:=λ_ _ _=>False
def BK:PS X st SM:=λ_ _ _ _ _ _ h=>h.elim
end
abbrev TG:=V->St->Hp->(St->Hp->Prop)->Prop
abbrev BL:=List V->St->Hp->(St->Hp->Prop)->Prop
def PG(X:Cx)(target:Expr)(t:TG):Prop:=
 ∀(pins:List (Addr×Obj)) (s:Shared) (σ:St) (H:Hp) (v:V) (u:Value) (Q:St->Hp->Prop),Inv X pins σ H s->RelV v u->t v σ H Q->
  wpAny (model X.prog X.w) X.A (assign target X.env u) (λ_ s'=>∃σ' H',Inv X pins σ' H' s'/\Q σ' H') X.xe s
def vG(X:Cx)(ts:List Expr)(t:BL):Prop:=
 ∀(pins:List (Addr×Obj)) (s:Shared) (σ:St) (H:Hp) (vs:List V) (us:List Value) (Q:St->Hp->Prop),Inv X pins σ H s->Vals vs us->t vs σ H Q->
  wpAny (model X.prog X.w) X.A (assignInOrder ((assignEach ts X.env).map (·.2)) us) (λ_ s'=>∃σ' H',Inv X pins σ' H' s'/\Q σ' H') X.xe s
abbrev TIp:=V->V->Hp->VK->Prop
def PIp(X:Cx)(op:Operator)(t:TIp):Prop:=
 ∀(pins:List (Addr×Obj)) (s:Shared) (σ:St) (H:Hp) (x y:V) (v u:Value) (Q:VK),Inv X pins σ H s->RelV x v->RelV y u->t x y H Q->
  wpAny (model X.prog X.w) X.A (inplaceOp op v u) (EP X pins σ Q) X.xe s
section
variable{X:Cx}{pos:Pos}
def K_(i:Nat):TG:=λv σ H Q=>Q (σ.set i (some v)) H
def Ii{i:Nat}{x:Str}(hN:X.N.Nodup)(hi:X.N[i]?=some x)(hx:Loc X.env.scope x)(hf:X.fn x=true\/X.env.scope.names.lookup x=some .local:=by first|exact .inl rfl|exact .inr rfl|assumption):PG X (.Name x pos) (K_ i):=by
 intro pins s σ H v u Q I r h
 exact wpAny_assign_Name (lZ I hN hi hx r (λs' I'=>⟨_,H,I',h⟩) hf)
def Zb_:BL:=λvs σ H Q=>vs=[]/\Q σ H
def Yk(t:TG)(u:BL):BL:=λvs σ H Q=>∃v r,vs=v::r/\t v σ H λσ' H'=>u r σ' H' Q
def Ij:vG X [] Zb_:=by
 intro pins s σ H vs us Q I r h
 obtain⟨e,h⟩:=h
 subst e
 cases r
 exact assignInOrder_nil ⟨σ,H,I,h⟩
def BP{e:Expr}{es:List Expr}{t:TG}{u:BL}(h1:PG X e t)(h2:vG X es u)
 (hs:(assignEach (e::es) X.env).map (·.2)=assign e X.env::(assignEach es X.env).map (·.2):=by rfl):vG X (e::es) (Yk t u):=by
 intro pins s σ H vs us Q I r h
 obtain⟨v,vr,e1,h⟩:=h
 subst e1
 cases r with
 |cons r rr=>
  rw[hs]
  refine assignInOrder_cons (ŏ (h1 pins s σ H _ _ _ I r h) λ_ s1 ⟨σ1,H1,I1,q1⟩=>?_)
  exact h2 pins s1 σ1 H1 _ _ Q I1 rr q1
def Zca(K:PySem.W.Frag)(n:Nat)(t:BL):TG:=λv σ H Q=>∃a xs,v=.ref a/\fH K H a xs/\xs.length=n/\t xs σ H Q
def BR{es:List Expr}{k:Nat}{t:BL}{n:Nat}(hc:X.calm=true)(h:vG X es t)
 (hn:(assignEach es X.env).length=n:=by rfl)(hst:(assignEach es X.env).findIdx? (·.1)=none:=by rfl):PG X (.Tuple es k pos) (Zca X.K n t):=by
 intro pins s σ H v u Q I r hw
 obtain⟨a,xs,e1,hq,hl,hw⟩:=hw
 subst e1
 cases r
 obtain⟨its,rv,ht,hz⟩:=I.tuple hq
 refine assign_Tuple_tuple (I.ok.hd hc) ht (by simp[hn,<-hl,rv.length]) hst λh' hx=>?_
 have I1:Inv X pins σ H {s with heap:=h'}:=I.kept (t':=s.toks) λb o e=>hx b o (Nat.ne_of_lt (Heap.lt_size e)) e
 exact h pins _ σ H xs _ Q I1 (by simpa using rv) hw
def Yl(te:TE)(g:TG):TS:=λD σ H=>te σ H λx H1=>g x σ H1 D.nx
def SN{tg e:Expr}{te:TE}{g:TG}(he:PE X e te)(hg:PG X tg g)(hs:swapsWithSole [tg] e pos.line X.env=pure false:=by rfl)(hw:swappedStores [tg] e X.env=pure none:=by rfl)
 (h1:(assignEach [tg] X.env).map (·.2)=[assign tg X.env]:=by rfl):PS X (.Assign [tg] e pos) (Yl te g):=by
 intro pins s σ H D I h
 refine wpAny_Assign_stores (ŏ (he pins s σ H _ I h) λv s1 ⟨x,H1,I1,r1,q1⟩=>?_) hs hw
 rw[h1]
 exact ŏ (hg pins s1 σ H1 x v _ I1 r1 q1) λ_ s2 q=>q
def SQ{i:Nat}{x:Str}{e:Expr}{te:TE}{pos':Pos}(hN:X.N.Nodup)(hi:X.N[i]?=some x)(hx:Loc X.env.scope x)(he:PE X e te)(hs:swapsWith e (some (.Name x pos')) pos.line X.env=pure false:=by rfl)(hf:X.fn x=true\/X.env.scope.names.lookup x=some .local:=by first|exact .inl rfl|exact .inr rfl|assumption) :
 PS X (.Assign [.Name x pos'] e pos) (Yl te (K_ i)):=by
 intro pins s σ H D I h
 refine wpAny_Assign_Name (ŏ (he pins s σ H _ I h) λv s1 ⟨y,H1,I1,r1,q1⟩=>?_) hs
 exact lZ I1 hN hi hx r1 (λs2 I2=>⟨_,H1,I2,q1⟩) hf
def Zcb(i:Nat)(te:TE)(ti:TIp):TS:=λD σ H=>∃x,σ[i]?=some (some x)/\te σ H λy H1=>ti x y H1 λz H2=>D.nx (σ.set i (some z)) H2
def SX{i:Nat}{x:Str}{e:Expr}{te:TE}{op:Operator}{ti:TIp}{pos':Pos}(hN:X.N.Nodup)(hi:X.N[i]?=some x)(hx:Loc X.env.scope x)(he:PE X e te)(ho:PIp X op ti)(hf:X.fn x=true\/X.env.scope.names.lookup x=some .local:=by first|exact .inl rfl|exact .inr rfl|assumption) :
 PS X (.AugAssign (.Name x pos') op e pos) (Zcb i te ti):=by
 intro pins s σ H D I h
 obtain⟨v,e1,h⟩:=h
 obtain⟨m,hn,hl⟩:=I.loc
 have vis:z_ X.env.scope x:=by rcases hx with k|k;exact .inl k;exact .inr (.inl k)
 obtain⟨u,r,l⟩:=hl i x v hi e1 vis
 refine wpAny_AugAssign_Name ?_
 have go:wpAny (model X.prog X.w) X.A (eval e X.env) (λw s₂=>wpAny (model X.prog X.w) X.A (inplaceOp op u w) (λr s₃=>wpAny (model X.prog X.w) X.A (storeName X.env x r) (λ_=>SP X pins D .next) X.xe s₃) X.xe s₂) X.xe s:=by
  refine ŏ (he pins s σ H _ I h) λw s1 ⟨y,H1,I1,r1,q1⟩=>?_
  refine ŏ (ho pins s1 σ H1 v y u w _ I1 r r1 q1) λz s2 ⟨zv,H2,I2,r2,q2⟩=>?_
  exact lZ I2 hN hi hx r2 (λs3 I3=>⟨_,H2,I3,q2⟩) hf
 rcases l with⟨hk,hm⟩|⟨hk,c,hc,hcell⟩
 ·exact wpAny_loadName_local I.ok.kind hk hn hm go
 ·rcases hk with hk|hk
  ·exact wpAny_loadName_cell I.ok.kind hk hc hcell go
  ·rcases hx with k|k
   ·have:X.env.scope.names.lookup x=some .free:=hk
    rw[k] at this;cases this
   ·have:X.env.scope.names.lookup x=some .free:=hk
    rw[k] at this;cases this
def ipI(f:Int->Int->Int):TIp:=λx y H Q=>∃i j,x=.int i/\y=.int j/\Q (.int (f i j)) H
end
section
variable{X:Cx}{pos:Pos}
def S_(c:TT)(tb:TS):TS:=λD σ H=>∃W:Nat->St->Hp->Prop,(∃m,W m σ H)/\∀m σ H,W m σ H->
 c σ H λb H1=>if b=true then ∃N:St->Hp->Prop,(∀σ' H',N σ' H'->∃m',m'<m/\W m' σ' H')/\tb {D with nx:=N,ct:=N,bk:=D.nx} σ H1 else D.nx σ H1
def BW{c:Expr}{body:List Stmt}{tc:TT}{tb:TS}(hp:PassesOwn (model X.prog X.w) X.A X.env X.xe)(hc:PT X c tc)(hb:gZ X body tb):PS X (.While c body [] pos) (S_ tc tb):=by
 intro pins s σ H D I h
 obtain⟨W,⟨m0,w0⟩,turn⟩:=h
 refine wpAny_While (codeAny_whileLoop (λn s'=>∃σ' H',Inv X pins σ' H' s'/\W n σ' H') ?_ m0 ⟨σ,H,I,w0⟩)
 rintro n s1 ⟨σ1,H1,I1,w1⟩
 refine wpAny_passesOwn hp (ŏ (hc pins s1 σ1 H1 _ I1 (turn n σ1 H1 w1)) λb s2 ⟨H2,I2,q2⟩=>?_)
 cases b with
 |true=>
  obtain⟨N,hN,q2⟩:=q2
  rw[if_pos rfl]
  refine wpAny_passesOwn hp (ŏ (hb pins s2 σ1 H2 _ I2 q2) λf s3 q3=>?_)
  cases f with
  |next=>
   obtain⟨σ3,H3,I3,n3⟩:=q3
   obtain⟨m',hm,w3⟩:=hN σ3 H3 n3
   exact⟨m',hm,σ3,H3,I3,w3⟩
  |cont=>
   obtain⟨σ3,H3,I3,n3⟩:=q3
   obtain⟨m',hm,w3⟩:=hN σ3 H3 n3
   exact⟨m',hm,σ3,H3,I3,w3⟩
  |brk=>exact q3
  |ret v=>exact q3
 |false=>
  rw[if_neg Bool.false_ne_true]
  exact wpAny_execs_nil ⟨σ1,H2,I2,q2⟩
end
structure It where
 go:Nat->Hp->Prop
 yld:Nat->Hp->V->Hp->Prop
 stop:Nat->Hp->Prop
def bW(X:Cx)(pins:List (Addr×Obj))(H:Hp)(b:Addr):Prop:=
 H b=none/\b≠X.env.locals/\b∉X.fs/\(b∈X.ex\/X.s₀.heap.objs.size<=b)/\(∀x c,X.env.cells.lookup x=some c->c≠b)/\∀p∈X.pn++pins,p.1≠b
def Inv.oH{X:Cx}{pins:List (Addr×Obj)}{σ:St}{H H':Hp}{s:Shared}{b:Addr}(I:Inv X pins σ H s)(hb:s.heap.objs.size<=b)(hn:H' b=none):bW X pins H' b:=by
 refine⟨hn,Nat.ne_of_gt (Nat.lt_of_lt_of_le I.lt hb),I.Zb2 hb,.inr (Nat.le_trans I.sz hb),λx c e z=>?_,λp hp z=>?_⟩
 ·obtain⟨v,q⟩:=I.cell x c e
  exact absurd (Nat.lt_of_lt_of_le q.lt (by rw[z];exact hb)) (Nat.lt_irrefl _)
 ·exact absurd (Nat.lt_of_lt_of_le (Heap.lt_size (I.pin p hp).1) (by rw[z];exact hb)) (Nat.lt_irrefl _)
structure Turn(P:Program)(w:World)(K:PySem.W.Frag)(tg:Expr)(J:It)(fp:List Addr)(it:Addr)(tn:Nat->Heap->Prop):Prop where
 mem:it∈fp
 obj:∀i h,tn i h->∀b∈fp,∃o,h.get? b=some o/\∀v,o.data≠ .cell v
 keep:∀i h h',tn i h->(∀b∈fp,∀o,h.get? b=some o->h'.get? b=some o)->tn i h'
 item:∀(X:Cx),X.prog=P->X.w=w->X.K=K->X.calm=true->∀(i:Nat) (pins:List (Addr×Obj)) (s:Shared) (σ:St) (H:Hp) (E:Value->Shared->Prop),Inv X pins σ H s->(∀b∈fp,bW X pins H b)->tn i s.heap->J.go i H->
  wpAny (model P w) X.A (pyNext (.ref it)) (λr s1=>∃u,r=some u/\
   wpAny (model P w) X.A (letOwnedTupleGo tg (.ref it) u) (λ_ s2=>∃x H',Inv X pins σ H' s2/\RelV x u/\J.yld i H x H'/\tn (i+1) s2.heap/\∀b∈fp,H' b=none) E s1) E s
 done:∀(X:Cx),X.prog=P->X.w=w->X.K=K->X.calm=true->∀(i:Nat) (pins:List (Addr×Obj)) (s:Shared) (σ:St) (H:Hp) (E:Value->Shared->Prop),Inv X pins σ H s->(∀b∈fp,bW X pins H b)->tn i s.heap->J.stop i H->
  wpAny (model P w) X.A (pyNext (.ref it)) (λr s1=>r=none/\Inv X pins σ H s1) E s
 self:∀(A:Around) (i:Nat) (s:Shared) (Q:Value->Shared->Prop) (E:Value->Shared->Prop),tn i s.heap->Q (.ref it) s->wpAny (model P w) A (pyIter (.ref it)) Q E s
abbrev TI:=St->Hp->(It->Hp->Prop)->Prop
def PIE(X:Cx)(pins:List (Addr×Obj))(σ:St)(tg:Expr)(R:It->Hp->Prop)(itv:Value)(s2:Shared):Prop:=
 ∃(it:Addr) (fp:List Addr) (tn:Nat->Heap->Prop) (J:It) (H':Hp),itv=.ref it/\Inv X pins σ H' s2/\Turn X.prog X.w X.K tg J fp it tn/\tn 0 s2.heap/\(∀b∈fp,bW X pins H' b)/\R J H'
def PI(X:Cx)(tg iter:Expr)(wi:TI):Prop:=
 ∀(pins:List (Addr×Obj)) (s:Shared) (σ:St) (H:Hp) (R:It->Hp->Prop),Inv X pins σ H s->wi σ H R->
  wpAny (model X.prog X.w) X.A (eval iter X.env) (λv s1=>wpAny (model X.prog X.w) X.A (pyIter v) (PIE X pins σ tg R) X.xe s1) X.xe s
def o_{M:Model}{A:Around}{E:Value->Shared->Prop}{s:Shared}{tg:Expr}{it:Addr}{u:Value}{o:Obj}{n:String}{vs:Array Value}{Q:Unit->Shared->Prop}(ho:s.heap.get? it=some o)(hc:o.cls=.type n)(hd:o.data=.fields vs)
 (hn:["enumerate","zip","dict_itemiterator","dict_reverseitemiterator","odict_iterator","itertools.zip_longest","itertools.pairwise"].contains n=false)(hQ:Q () s):wpAny M A (letOwnedTupleGo tg (.ref it) u) Q E s:=by
 unfold letOwnedTupleGo
 cases tg<;>first
  |exact wpAny_pure hQ
  |(cases u<;>first
     |exact wpAny_pure hQ
     |(refine wpAny_bind (wpAny_load ho ?_)
       rw[hc,hd]
       show wpAny M A (if(["enumerate","zip","dict_itemiterator","dict_reverseitemiterator","odict_iterator","itertools.zip_longest","itertools.pairwise"].contains n && vs[0]?== some (rawInt _))=true then _ else _) Q E s
       rw[if_neg (by intro h;rw[hn,Bool.false_and] at h;cases h)]
       exact wpAny_pure hQ))
def Itl(K:PySem.W.Frag)(a:Addr):It:=
 ⟨λi H=>∃xs x,Ÿ K H a xs/\xs[i]?=some x,λi H x H'=>H'=H/\∀xs,Ÿ K H a xs->xs[i]?=some x,λi H=>∃xs,Ÿ K H a xs/\xs.length<=i⟩
def Itt(K:PySem.W.Frag)(a:Addr):It:=
 ⟨λi H=>∃xs x,fH K H a xs/\xs[i]?=some x,λi H x H'=>H'=H/\∀xs,fH K H a xs->xs[i]?=some x,λi H=>∃xs,fH K H a xs/\xs.length<=i⟩
def Itr(lo:Int)(n:Nat):It:=⟨λi _=>i<n,λi H x H'=>H'=H/\x=.int (lo+i),λi _=>n<=i⟩
def Ac{P:Program}{w:World}{K:PySem.W.Frag}{tg:Expr}(a it:Addr):Turn P w K tg (Itl K a) [it] it (λi h=>h.IsListIter it a i) where
 mem:=by simp
 obj:=λi h st b hb=>by
  have e:b=it:=by simpa using hb
  subst e
  obtain⟨o,e,c,d⟩:=st
  exact⟨o,e,λv z=>by rw[d] at z;cases z⟩
 keep:=λi h h' st k=>st.at λo e=>k it (by simp) o e
 item:=by
  intro X hP hw hK hc i pins s σ H E I hf st hg
  subst hP hw hK
  obtain⟨xs,x,hq,hx⟩:=hg
  obtain⟨its,rv,p,hz⟩:=I.list hq
  obtain⟨u,hu,ru⟩:=rv.get hx
  obtain⟨f0,f1,f2,f3,f4,f5⟩:=hf it (by simp)
  refine wpAny_pyNext_list_item st p.isList (x:=u) (by simpa using hu) λh' st' sb=>?_
  have I1:Inv X pins σ H {s with heap:=h'}:=I.turned (t':=s.toks) (λb o hb e=>(sb.2 b hb).trans e) f0 f1 f3 f4 f5
  obtain⟨o,e,c,d⟩:=id st'
  exact⟨u,rfl,o_ (s:={s with heap:=h'}) e c d (by decide) ⟨x,H,I1,ru,⟨rfl,λys hy=>by rw[I.tQ hy hq];exact hx⟩,st',λb hb=>(hf b hb).1⟩⟩
 done:=by
  intro X hP hw hK hc i pins s σ H E I hf st hg
  subst hP hw hK
  obtain⟨xs,hq,hx⟩:=hg
  obtain⟨its,rv,p,hz⟩:=I.list hq
  obtain⟨f0,f1,f2,f3,f4,f5⟩:=hf it (by simp)
  have hl:=rv.length
  exact wpAny_pyNext_list_end (I.ok.hd hc) st p.isList (by simp;omega) λh' eb=>⟨rfl,I.turned (t':=s.toks) (λb o hb e=>eb b o hb e) f0 f1 f3 f4 f5⟩
 self:=λ_ _ _ _ _ st h=>wpAny_pyIter_listiter st h
def vK{P:Program}{w:World}{K:PySem.W.Frag}{tg:Expr}(a it:Addr):Turn P w K tg (Itt K a) [it] it (λi h=>h.IsTupleIter it a i) where
 mem:=by simp
 obj:=λi h st b hb=>by
  have e:b=it:=by simpa using hb
  subst e
  obtain⟨o,e,c,d⟩:=st
  exact⟨o,e,λv z=>by rw[d] at z;cases z⟩
 keep:=λi h h' st k=>st.at λo e=>k it (by simp) o e
 item:=by
  intro X hP hw hK hc i pins s σ H E I hf st hg
  subst hP hw hK
  obtain⟨xs,x,hq,hx⟩:=hg
  obtain⟨its,rv,p,hz⟩:=I.tuple hq
  obtain⟨u,hu,ru⟩:=rv.get hx
  obtain⟨f0,f1,f2,f3,f4,f5⟩:=hf it (by simp)
  refine wpAny_pyNext_tuple_item st (show s.heap.IsTuple a its.toArray from p) (x:=u) (by simpa using hu) λh' st' sb=>?_
  have I1:Inv X pins σ H {s with heap:=h'}:=I.turned (t':=s.toks) (λb o hb e=>(sb.2 b hb).trans e) f0 f1 f3 f4 f5
  obtain⟨o,e,c,d⟩:=id st'
  exact⟨u,rfl,o_ (s:={s with heap:=h'}) e c d (by decide) ⟨x,H,I1,ru,⟨rfl,λys hy=>by rw[I.Ab hy hq];exact hx⟩,st',λb hb=>(hf b hb).1⟩⟩
 done:=by
  intro X hP hw hK hc i pins s σ H E I hf st hg
  subst hP hw hK
  obtain⟨xs,hq,hx⟩:=hg
  obtain⟨its,rv,p,hz⟩:=I.tuple hq
  obtain⟨f0,f1,f2,f3,f4,f5⟩:=hf it (by simp)
  have hl:=rv.length
  exact wpAny_pyNext_tuple_end (I.ok.hd hc) st (show s.heap.IsTuple a its.toArray from p) (by simp;omega) λh' eb=>⟨rfl,I.turned (t':=s.toks) (λb o hb e=>eb b o hb e) f0 f1 f3 f4 f5⟩
 self:=λ_ _ _ _ _ st h=>wpAny_pyIter_tupleiter st h
def vL{P:Program}{w:World}{K:PySem.W.Frag}{tg:Expr}(it:Addr)(lo:Int)(n:Nat):Turn P w K tg (Itr lo n) [it] it (λi h=>IsRangeIter h it (lo+(i:Nat)*1) ((n:Int)-(i:Nat)) 1) where
 mem:=by simp
 obj:=λi h st b hb=>by
  have e:b=it:=by simpa using hb
  subst e
  exact⟨_,st,λv z=>by
   have z':Data.fields _=Data.cell v:=z
   cases z'⟩
 keep:=λi h h' st k=>k it (by simp) _ st
 item:=by
  intro X hP hw hK hc i pins s σ H E I hf st hg
  subst hP hw hK
  obtain⟨f0,f1,f2,f3,f4,f5⟩:=hf it (by simp)
  have W:=Walks.range (prog:=X.prog) (w:=X.w) (I.ok.hd hc) it lo 1 n
  refine W.item i s _ _ hg st λv h' tk hv st' kk=>?_
  obtain⟨t,rfl⟩:=hv
  have I1:Inv X pins σ H {s with heap:=h',toks:=tk}:=I.turned (λb o hb e=>kk b o (by simpa using hb) e) f0 f1 f3 f4 f5
  refine⟨_,rfl,o_ (s:={s with heap:=h',toks:=tk}) (n:= "range_iterator") st' rfl rfl (by decide) ⟨.int (lo+i),H,I1,⟨t,?_⟩,⟨rfl,rfl⟩,st',λb hb=>(hf b hb).1⟩⟩
  rw[Int.mul_one]
 done:=by
  intro X hP hw hK hc i pins s σ H E I hf st hg
  subst hP hw hK
  obtain⟨f0,f1,f2,f3,f4,f5⟩:=hf it (by simp)
  exact wpAny_pyNext_range_end (I.ok.hd hc) st (by have:n<=i:=hg;omega) λh' eb=>⟨rfl,I.turned (t':=s.toks) (λb o hb e=>eb b o hb e) f0 f1 f3 f4 f5⟩
 self:=λ_ _ _ _ _ st h=>wpAny_pyIter_rangeiter st h
end L2
namespace L2
open PySem PySem.Spec PyProof.Rows
section
variable{X:Cx}{tg:Expr}
def BX{pins:List (Addr×Obj)}{σ:St}{H:Hp}{s:Shared}{R:It->Hp->Prop}{E:Value->Shared->Prop}{lo hi:Int}{t u v:Tok}{tk:Nat}(I:Inv X pins σ H s)(h1: -(2 ^ 62)<=lo)(h2:lo<2 ^ 62)(h3: -(2 ^ 62)<=hi)(h4:hi<2 ^ 62)
 (q:R (Itr lo (hi-lo).toNat) H):wpAny (model X.prog X.w) X.A (pyIter (.ref s.heap.objs.size)) (PIE X pins σ tg R) E {s with heap:=s.heap.push {cls:=.type "range",data:=.fields #[.int lo t,.int hi u,.int 1 v]},toks:=tk}:=by
 refine wpAny_pyIter_range (IsRange.new ..) (small_one h1 h2 h3 h4) ?_
 have I1:Inv X pins σ H {s with heap:=s.heap.push {cls:=.type "range",data:=.fields #[.int lo t,.int hi u,.int 1 v]},toks:=tk}:=I.kept λb o e=>Heap.get?_push_of_some _ e
 refine⟨(s.heap.push {cls:=.type "range",data:=.fields #[.int lo t,.int hi u,.int 1 v]}).objs.size,[(s.heap.push {cls:=.type "range",data:=.fields #[.int lo t,.int hi u,.int 1 v]}).objs.size],_,_,H,rfl,
  I1.kept (t':=tk) λb o e=>Heap.get?_push_of_some _ e,vL _ lo (hi-lo).toNat,?_,λb hb=>?_,q⟩
 ·have e1:lo+((0:Nat):Int)*1=lo:=by simp
  have e2:(((hi-lo).toNat:Nat):Int)-((0:Nat):Int)=Builtin.Range.rangeSize lo hi 1:=by rw[rangeSize_one];split<;>omega
  show IsRangeIter _ _ (lo+((0:Nat):Int)*1) ((((hi-lo).toNat:Nat):Int)-((0:Nat):Int)) 1
  rw[e1,e2]
  exact Heap.get?_push_size _ rfl
 ·have e:b=(s.heap.push {cls:=.type "range",data:=.fields #[.int lo t,.int hi u,.int 1 v]}).objs.size:=by simpa using hb
  subst e
  exact I1.oH (Nat.le_refl _) (I1.hok.fresh (Nat.le_refl _))
def Ym(ta:TA):TI:=λσ H R=>ta σ H λvs H1=>∃j:Int,vs=[.int j]/\ -(2 ^ 62)<=j/\j<2 ^ 62/\R (Itr 0 j.toNat) H1
def Ad{a:Expr}{ta:TA}{p pos:Pos}(hg:Gl X "range")(hm:X.mg "range" =none)(ha:PA X [a] ta)(hs:starEach [a] X.env=[(false,eval a X.env)]:=by rfl):PI X tg (.Call (.Name "range" p) [a] [] pos) (Ym ta):=by
 intro pins s σ H R I h
 refine Call_ (fG I hg hm boot_range (PyProof.Rows.callWith_type1 (ŏ (ha pos pins s σ H _ I h) λus s1 ⟨vs,H1,I1,r1,q1⟩=>?_) hs rfl))
 obtain⟨j,e,q1,q2,q⟩:=q1
 subst e
 cases r1 with
 |cons r rr=>
  cases rr
  obtain⟨t,rfl⟩:=r
  exact call_range_1 (BX I1 (by omega) (by omega) q1 q2 (by simpa using q))
def Zcc(wi:TI)(g:TG)(tb:TS):TS:=λD σ H=>wi σ H λJ H1=>∃W:Nat->Nat->St->Hp->Prop,(∃m,W 0 m σ H1)/\∀i m σ H,W i m σ H->
 (J.stop i H/\D.nx σ H)\/(J.go i H/\∃N:St->Hp->Prop,(∀σ' H',N σ' H'->∃m',m'<m/\W (i+1) m' σ' H')/\∀x H',J.yld i H x H'->g x σ H' λσ2 H2=>tb {D with nx:=N,ct:=N,bk:=D.nx} σ2 H2)
def jD(fp:List Addr)(h:Heap):List (Addr×Obj):=fp.filterMap λb=>(h.get? b).map λo=>(b,o)
def Š{fp:List Addr}{h:Heap}{b:Addr}{o:Obj}(hb:b∈fp)(e:h.get? b=some o):(b,o)∈jD fp h:=List.mem_filterMap.mpr ⟨b,hb,by rw[e];rfl⟩
def Ae{fp:List Addr}{h:Heap}{p:Addr×Obj}(hp:p∈jD fp h):p.1∈fp/\h.get? p.1=some p.2:=by
 obtain⟨b,hb,e⟩:=List.mem_filterMap.mp hp
 cases q:h.get? b with
 |none=>rw[q] at e;cases e
 |some o=>
  rw[q] at e
  have e':(b,o)=p:=Option.some.inj e
  subst e'
  exact⟨hb,q⟩
def Inv.pinned{pins:List (Addr×Obj)}{σ:St}{H:Hp}{s:Shared}{fp:List Addr}(I:Inv X pins σ H s)(hf:∀b∈fp,bW X pins H b)(ho:∀b∈fp,∃o,s.heap.get? b=some o/\∀v,o.data≠ .cell v):Inv X (pins++jD fp s.heap) σ H s:=
 I.yK fun p hp=>(List.mem_append.mp hp).elim (fun z=>I.pin p (List.mem_append_right _ z)) fun z=>by
   obtain⟨hb,e⟩:=Ae z
   obtain⟨f0,f1,f2,_⟩:=hf p.1 hb
   obtain⟨o,e',d⟩:=ho p.1 hb
   rw[e] at e';cases e'
   exact⟨e,f0,f1,f2,d⟩
def Inv.cH{pins pl:List (Addr×Obj)}{σ:St}{H:Hp}{s:Shared}(I:Inv X (pins++pl) σ H s):Inv X pins σ H s:=I.yK λp hp=>I.pin p (List.mem_append_right _ (List.mem_append_left _ hp))
def Tc{iter:Expr}{body:List Stmt}{wi:TI}{g:TG}{tb:TS}{pos:Pos}(hp:PassesOwn (model X.prog X.w) X.A X.env X.xe)(hc:X.calm=true)(hi:PI X tg iter wi)(hg:PG X tg g)(hb:gZ X body tb)
 (hs:∀x,foldedSetIterable iter X.env x=pure x:=by intro _;rfl):PS X (.For tg iter body [] pos) (Zcc wi g tb):=by
 intro pins s σ H D I h
 refine wpAny_For (ŏ (hi pins s σ H _ I h) λv s1 h1=>ŏ h1 λitv s2 h2=>?_) hs
 obtain⟨it,fp,tn,J,H2,e,I2,T,st2,f2,W,⟨m0,w0⟩,turn⟩:=h2
 subst e
 -- what stays true of the iterator's objects through the loop
 have stat:∀{H':Hp},(∀b∈fp,H' b=none)->∀b∈fp,bW X pins H' b:=λhn b hb=>⟨hn b hb,(f2 b hb).2⟩
 refine codeAny_forLoop_any (λn s'=>∃i σ' H',Inv X pins σ' H' s'/\tn i s'.heap/\(∀b∈fp,H' b=none)/\W i n σ' H') ?_ m0 ⟨0,σ,H2,I2,st2,λb hb=>(f2 b hb).1,w0⟩
 rintro n s3 ⟨i,σ3,H3,I3,st3,fr3,w3⟩
 rcases turn i n σ3 H3 w3 with⟨stop,qn⟩|⟨go,N,hN,step⟩
 ·refine wpAny_passesOwn hp (ŏ (T.done X rfl rfl rfl hc i pins s3 σ3 H3 X.xe I3 (stat fr3) st3 stop) λr s4 ⟨hr,I4⟩=>?_)
  subst hr
  exact wpAny_execs_nil ⟨σ3,H3,I4,qn⟩
 ·refine wpAny_passesOwn hp (ŏ (T.item X rfl rfl rfl hc i pins s3 σ3 H3 X.xe I3 (stat fr3) st3 go) λr s4 ⟨u,hr,h4⟩=>?_)
  subst hr
  refine wpAny_passesOwn hp (ŏ h4 λ_ s5 ⟨x,H5,I5,r5,y5,Ik,Td⟩=>?_)
  have I5':=I5.pinned (stat Td) (T.obj _ _ Ik)
  refine wpAny_passesOwn hp (ŏ (hg _ s5 σ3 H5 x u _ I5' r5 (step x H5 y5)) λ_ s6 ⟨σ6,H6,I6,q6⟩=>?_)
  refine wpAny_passesOwn hp (ŏ (hb _ s6 σ6 H6 _ I6 q6) λf s7 q7=>?_)
  have again:∀{σ7:St} {H7:Hp},Inv X (pins++jD fp s5.heap) σ7 H7 s7->N σ7 H7->∃m,m<n/\∃i σ' H',Inv X pins σ' H' s7/\tn i s7.heap/\(∀b∈fp,H' b=none)/\W i m σ' H':=fun{σ7 H7} I7 n7=>by
   obtain⟨m',hm,w7⟩:=hN σ7 H7 n7
   refine⟨m',hm,i+1,σ7,H7,I7.cH,T.keep _ _ _ Ik λb hb o e=>(I7.pin (b,o) (List.mem_append_right _ (List.mem_append_right _ (Š hb e)))).1,λb hb=>?_,w7⟩
   obtain⟨o,e,d⟩:=T.obj _ _ Ik b hb
   exact(I7.pin (b,o) (List.mem_append_right _ (List.mem_append_right _ (Š hb e)))).2.1
  cases f with
  |next=>obtain⟨σ7,H7,I7,n7⟩:=q7;exact again I7 n7
  |cont=>obtain⟨σ7,H7,I7,n7⟩:=q7;exact again I7 n7
  |brk=>obtain⟨σ7,H7,I7,q7⟩:=q7;exact⟨σ7,H7,I7.cH,q7⟩
  |ret v=>obtain⟨x7,σ7,H7,I7,r7,q7⟩:=q7;exact⟨x7,σ7,H7,I7.cH,r7,q7⟩
end
end L2
namespace L2
open PySem PySem.Spec PyProof.Rows
abbrev R2:=V->V->Hp->VK->Prop
def Ş(X:Cx)(f:Value->Value->Sem Value)(r:R2):Prop:=
 ∀(pins:List (Addr×Obj)) (s:Shared) (σ:St) (H:Hp) (x y:V) (v u:Value) (Q:VK),Inv X pins σ H s->RelV x v->RelV y u->r x y H Q->
  wpAny (model X.prog X.w) X.A (f v u) (EP X pins σ Q) X.xe s
def Il(X:Cx)(f:Value->Sem Value)(r:V->Hp->VK->Prop):Prop:=
 ∀(pins:List (Addr×Obj)) (s:Shared) (σ:St) (H:Hp) (x:V) (v:Value) (Q:VK),Inv X pins σ H s->RelV x v->r x H Q->
  wpAny (model X.prog X.w) X.A (f v) (EP X pins σ Q) X.xe s
def ň(X:Cx)(f:Value)(r:List V->Hp->VK->Prop):Prop:=
 ∀(pins:List (Addr×Obj)) (s:Shared) (σ:St) (H:Hp) (xs:List V) (us:List Value) (Q:VK),Inv X pins σ H s->Vals xs us->r xs H Q->
  wpAny (model X.prog X.w) X.A (call f us) (EP X pins σ Q) X.xe s
def Zcd(X:Cx)(r:V->Hp->(Bool->Hp->Prop)->Prop):Prop:=
 ∀(pins:List (Addr×Obj)) (s:Shared) (σ:St) (H:Hp) (x:V) (v:Value) (Q:Bool->Hp->Prop),Inv X pins σ H s->RelV x v->r x H Q->
  wpAny (model X.prog X.w) X.A (truthy v) (TP X pins σ Q) X.xe s
def XH(r:R2)(ta tb:TE):TE:=λσ H Q=>ta σ H λx H1=>tb σ H1 λy H2=>r x y H2 Q
def tUn(r:V->Hp->VK->Prop)(ta:TE):TE:=λσ H Q=>ta σ H λx H1=>r x H1 Q
def rI(C:Int->Int->Prop)(g:Int->Int->V):R2:=λx y H Q=>∃i j,x=.int i/\y=.int j/\C i j/\Q (g i j) H
def HB(g:Int->Int->V):R2:=λx y H Q=>∃i j,x=.int i/\y=.int j/\Q (g i j) H
def rU(g:Int->V):V->Hp->VK->Prop:=λx H Q=>∃i,x=.int i/\Q (g i) H
section
variable{X:Cx}{a b c:Expr}{ta tb tc:TE}{pos:Pos}
def Te(ha:PE X a ta)(hb:PE X b tb){pins:List (Addr×Obj)}{s:Shared}{σ:St}{H:Hp}{R:V->V->Hp->Prop}(I:Inv X pins σ H s)
 (h:ta σ H λx H1=>tb σ H1 λy H2=>R x y H2){Q:Value->Shared->Prop}{f:Value->Value->Sem Value}
 (hf:∀v u s2 x y H2,Inv X pins σ H2 s2->RelV x v->RelV y u->R x y H2->wpAny (model X.prog X.w) X.A (f v u) Q X.xe s2) :
 wpAny (model X.prog X.w) X.A (eval a X.env) (λv s₁=>wpAny (model X.prog X.w) X.A (eval b X.env) (λu s₂=>wpAny (model X.prog X.w) X.A (f v u) Q X.xe s₂) X.xe s₁) X.xe s:=by
 refine ŏ (ha pins s σ H _ I h) λv s1 ⟨x,H1,I1,r1,q1⟩=>?_
 refine ŏ (hb pins s1 σ H1 _ I1 q1) λu s2 ⟨y,H2,I2,r2,q2⟩=>?_
 exact hf v u s2 x y H2 I2 r1 r2 q2
def La{op:Operator}{r:R2}(ho:Ş X (binaryOp op) r)(ha:PE X a ta)(hb:PE X b tb):PE X (.BinOp a op b pos) (XH r ta tb):=by
 intro pins s σ H Q I h
 exact wpAny_BinOp (Te ha hb I h λv u s2 x y H2 I2 rx ry q=>ho pins s2 σ H2 x y v u Q I2 rx ry q)
def Yn{op:UnaryOp}{r:V->Hp->VK->Prop}(ho:Il X (unaryOp op) r)(ha:PE X a ta):PE X (.UnaryOp op a pos) (tUn r ta):=by
 intro pins s σ H Q I h
 exact UnaryOp_ (ŏ (ha pins s σ H _ I h) λv s1 ⟨x,H1,I1,r1,q1⟩=>ho pins s1 σ H1 x v Q I1 r1 q1)
def yL{f:Value->Value->Sem Value}{C:Int->Int->Prop}{g:Int->Int->Int}
 (rule:∀(i j:Int) (t u:Tok) (s:Shared) (Q:Value->Shared->Prop) (E:Value->Shared->Prop),C i j->Q (.int (g i j) s.toks) {s with toks:=s.toks+1}->wpAny (model X.prog X.w) X.A (f (.int i t) (.int j u)) Q E s) :
 Ş X f (rI C λi j=>.int (g i j)):=by
 intro pins s σ H x y v u Q I rx ry h
 obtain⟨i,j,rfl,rfl,hc,q⟩:=h
 obtain⟨t,rfl⟩:=rx
 obtain⟨t',rfl⟩:=ry
 exact rule i j t t' s _ _ hc ⟨.int (g i j),H,I.tok _,⟨_,rfl⟩,q⟩
def tU{f:Value->Value->Sem Value}{g:Int->Int->Int}
 (rule:∀(i j:Int) (t u:Tok) (s:Shared) (Q:Value->Shared->Prop) (E:Value->Shared->Prop),Q (.int (g i j) s.toks) {s with toks:=s.toks+1}->wpAny (model X.prog X.w) X.A (f (.int i t) (.int j u)) Q E s) :
 Ş X f (HB λi j=>.int (g i j)):=by
 intro pins s σ H x y v u Q I rx ry h
 obtain⟨i,j,rfl,rfl,q⟩:=h
 obtain⟨t,rfl⟩:=rx
 obtain⟨t',rfl⟩:=ry
 exact rule i j t t' s _ _ ⟨.int (g i j),H,I.tok _,⟨_,rfl⟩,q⟩
def Im{f:Value->Value->Sem Value}{g:Int->Int->Bool}
 (rule:∀(i j:Int) (t u:Tok) (s:Shared) (Q:Value->Shared->Prop) (E:Value->Shared->Prop),Q (.bool (g i j)) s->wpAny (model X.prog X.w) X.A (f (.int i t) (.int j u)) Q E s) :
 Ş X f (HB λi j=>.bl (g i j)):=by
 intro pins s σ H x y v u Q I rx ry h
 obtain⟨i,j,rfl,rfl,q⟩:=h
 obtain⟨t,rfl⟩:=rx
 obtain⟨t',rfl⟩:=ry
 exact rule i j t t' s _ _ ⟨.bl (g i j),H,I,rfl,q⟩
def Af(i j:Int):Prop:=0<=j/\j<=1000000/\i.natAbs<2 ^ 64
def Tf(i j:Int):Prop:=(-(2 ^ 64)<i/\i<2 ^ 64)\/(-(2 ^ 64)<j/\j<2 ^ 64)
def Tf.ok{i j:Int}(h:Tf i j):IntMulOk i j:=by
 rcases h with⟨h1,h2⟩|⟨h1,h2⟩
 ·exact .of_left (intBits_le_64 h1 h2)
 ·exact .of_right (intBits_le_64 h1 h2)
def vM(k:Nat):(0:Int)<=2 ^ k:=by
 rw[two_pow_cast]
 exact Int.natCast_nonneg _
def Ti:Ş X (binaryOp .Add) (HB λi j=>.int (i+j)):=tU λ_ _ _ _ _ _ _ q=>add_int q
def Tj:Ş X (binaryOp .Sub) (HB λi j=>.int (i-j)):=tU λ_ _ _ _ _ _ _ q=>sub_int q
def Io:Ş X (binaryOp .Mod) (rI (λ_ j=>j≠0) λi j=>.int (i.fmod j)):=yL λ_ _ _ _ _ _ _ hc q=>mod_int' hc q
def Tn:Ş X (binaryOp .Pow) (rI Af λi j=>.int (i ^ j.toNat)):=yL λ_ _ _ _ _ _ _ hc q=>pow_int_small hc.1 hc.2.1 hc.2.2 q
def Tp:Ş X (binaryOp .LShift) (rI Af λi j=>.int (i*2 ^ j.toNat)):=yL λ_ _ _ _ _ _ _ hc q=>lshift_int_small hc.1 hc.2.1 hc.2.2 q
def Tq:Ş X (binaryOp .RShift) (rI (λ_ j=>0<=j) λi j=>.int (i / 2 ^ j.toNat)):=yL λi j _ _ _ _ _ hc q=>
 rshift_int hc (by rw[Int.fdiv_eq_ediv_of_nonneg i (vM _)];exact q)
def Tr:Ş X (binaryOp .BitAnd) (HB λi j=>.int (Builtin.bitAnd i j)):=tU λ_ _ _ _ _ _ _ q=>and_int q
def unI{f:Value->Sem Value}{g:Int->Int}
 (rule:∀(i:Int) (t:Tok) (s:Shared) (Q:Value->Shared->Prop) (E:Value->Shared->Prop),Q (.int (g i) s.toks) {s with toks:=s.toks+1}->wpAny (model X.prog X.w) X.A (f (.int i t)) Q E s) :
 Il X f (rU λi=>.int (g i)):=by
 intro pins s σ H x v Q I rx h
 obtain⟨i,rfl,q⟩:=h
 obtain⟨t,rfl⟩:=rx
 exact rule i t s _ _ ⟨.int (g i),H,I.tok _,⟨_,rfl⟩,q⟩
def Tt:Il X (unaryOp .USub) (rU λi=>.int (-i)):=unI λ_ _ _ _ _ q=>neg_int q
end
section
variable{X:Cx}{a b c:Expr}{ta tb tc:TE}{pos:Pos}
def BZ{pins:List (Addr×Obj)}{σ:St}{H:Hp}{s:Shared}{Q:VK}{k k':Bool}(I:Inv X pins σ H s)(q:Q (.bl k) H)(e:k=k'):EP X pins σ Q (.bool k') s:=by
 subst e
 exact⟨.bl k,H,I,rfl,q⟩
def Yo:Ş X (compareOp .Lt) (HB λi j=>.bl (decide (i<j))):=Im λ_ _ _ _ _ _ _ q=>lt_int q
def Yp:Ş X (compareOp .LtE) (HB λi j=>.bl (decide (i<=j))):=Im λ_ _ _ _ _ _ _ q=>le_int q
def Yq:Ş X (compareOp .Gt) (HB λi j=>.bl (decide (j<i))):=Im λ_ _ _ _ _ _ _ q=>gt_int q
def Yr:Ş X (compareOp .GtE) (HB λi j=>.bl (decide (j<=i))):=Im λ_ _ _ _ _ _ _ q=>ge_int q
def iQ:Ş X (compareOp .Is) (λx y H Q=>y=.non/\Q (.bl (decide (x=.non))) H):=by
 intro pins s σ H x y v u Q I rx ry h
 obtain⟨rfl,q⟩:=h
 cases ry
 refine is_none_gen (BZ I q ?_)
 cases x<;>first
  |(cases rx;rfl)
  |(obtain⟨t,rfl⟩:=rx;rfl)
def yM:Ş X (compareOp .IsNot) (λx y H Q=>y=.non/\Q (.bl (!decide (x=.non))) H):=by
 intro pins s σ H x y v u Q I rx ry h
 obtain⟨rfl,q⟩:=h
 cases ry
 refine isnot_none_gen (BZ I q ?_)
 cases x<;>first
  |(cases rx;rfl)
  |(obtain⟨t,rfl⟩:=rx;rfl)
def Ş.or{f:Value->Value->Sem Value}{r r':R2}(h:Ş X f r)(h':Ş X f r'):Ş X f (λx y H Q=>r x y H Q\/r' x y H Q):=by
 intro pins s σ H x y v u Q I rx ry q
 rcases q with q|q
 ·exact h pins s σ H x y v u Q I rx ry q
 ·exact h' pins s σ H x y v u Q I rx ry q
def Ķ(b:Expr){op:CmpOp}(h:op≠ .In:=by decide)(h2:op≠ .NotIn:=by decide):behindInMarks op b=false:=by
 have e1:(op== CmpOp.In)=false:=by cases op<;>first|rfl|exact absurd rfl h
 have e2:(op== CmpOp.NotIn)=false:=by cases op<;>first|rfl|exact absurd rfl h2
 cases b<;>simp[behindInMarks,e1,e2]
def Ip{op:CmpOp}{r:R2}(ho:Ş X (compareOp op) r)(ha:PE X a ta)(hb:PE X b tb)(hm:behindInMarks op b=false):PE X (.Compare a [op] [b] pos) (XH r ta tb):=by
 intro pins s σ H Q I h
 exact wpAny_Compare1 (Te ha hb I h λv u s2 x y H2 I2 rx ry q=>ho pins s2 σ H2 x y v u Q I2 rx ry q) hm
def Tw(K:PySem.W.Frag)(x:V)(H:Hp)(k:Bool):Prop:=
 match x with
 | .non=>k=false
 | .bl b=>k=b
 | .int i=>k=(i != 0)
 | .str y=>y.length<=sizeLine/\k=((y.length:Int) != 0)
 | .HY y=>y.size<=sizeLine/\k=((y.size:Int) != 0)
 | .ref p=>(∃xs,Ÿ K H p xs/\k=!xs.isEmpty)\/(∃xs,fH K H p xs/\k=!xs.isEmpty)\/∃kvs,H p=some (.dK kvs)/\k=!kvs.isEmpty
 |_=>False
def vN{κ:Type}{kvs:List (κ×V)}{vs:List (κ×Value)}(r:KV kvs vs):(!vs.isEmpty)=!kvs.isEmpty:=by
 cases r<;>rfl
def mj{xs:List V}{its:List Value}(r:Vals xs its):(!its.toArray.isEmpty)=!xs.isEmpty:=by
 cases r<;>simp
def mq:(sizeLine:Nat)<2 ^ 63:=by rw[sizeLine_eq];decide
def Tz:Zcd X (λx H Q=>∃k,Tw X.K x H k/\Q k H):=by
 intro pins s σ H x v Q I rx h
 obtain⟨k,e,q⟩:=h
 have hl:=mq
 have hs:sizeLine=16777216:=sizeLine_eq
 cases x with
 |non=>
  cases rx
  have e':k=false:=e
  subst e'
  exact truthy_none ⟨H,I,q⟩
 |bl b=>
  cases rx
  have e':k=b:=e
  subst e'
  exact wpAny_truthy_bool ⟨H,I,q⟩
 |int i=>
  obtain⟨t,rfl⟩:=rx
  have e':k=(i != 0):=e
  subst e'
  exact PySem.P.truthy_int ⟨H,I,q⟩
 |str y=>
  obtain⟨t,rfl⟩:=rx
  obtain⟨hy,e'⟩:y.length<=sizeLine/\k=((y.length:Int) != 0):=e
  subst e'
  exact PySem.P.truthy_str (by omega) ⟨H,I.tok _,q⟩
 |HY y=>
  obtain⟨t,rfl⟩:=rx
  obtain⟨hy,e'⟩:y.size<=sizeLine/\k=((y.size:Int) != 0):=e
  subst e'
  exact PySem.W.truthy_bytes (by omega) ⟨H,I.tok _,q⟩
 |ref p=>
  cases rx
  have e':(∃xs,Ÿ X.K H p xs/\k=!xs.isEmpty)\/(∃xs,fH X.K H p xs/\k=!xs.isEmpty)\/∃kvs,H p=some (.dK kvs)/\k=!kvs.isEmpty:=e
  rcases e' with⟨xs,hx,e'⟩|⟨xs,hx,e'⟩|⟨kvs,hx,e'⟩
  ·subst e'
   obtain⟨its,r,pl,hz⟩:=I.list hx
   have hlen:=r.length
   exact wpAny_truthy_list pl.isList (by simp only[List.size_toArray];omega) ⟨H,I.tok _,by rw[mj r];exact q⟩
  ·subst e'
   obtain⟨its,r,pl,hz⟩:=I.tuple hx
   have hlen:=r.length
   exact truthy_tuple pl (by simp only[List.size_toArray];omega) ⟨H,I.tok _,by rw[mj r];exact q⟩
  ·subst e'
   obtain⟨hz,hS,vs,r,m⟩:kvs.length<=sizeLine/\(p== sysModules)=false/\∃vs,KV kvs vs/\s.heap.DictOf (qC X.prog X.w) p vs:=I.hok p _ hx
   have hlen:kvs.length=vs.length:=Paired.length r
   exact wpAny_truthy_dict hS m (by omega) ⟨H,I.tok _,by rw[vN r];exact q⟩
 |_=>exact(show False from e).elim
def B_(ha:PE X a ta)(he:∀whole,isTrue a X.env whole=(do let v <-whole;standAt a.pos;holding [v] (truthy v))) :
 PT X a (λσ H Q=>ta σ H λx H'=>∃k,Tw X.K x H' k/\Q k H'):=by
 intro pins s σ H Q I h
 exact isTrue_plain (ŏ (ha pins s σ H _ I h) λv s1 ⟨x,H1,I1,r1,q1⟩=>Tz pins s1 σ H1 x v Q I1 r1 q1) (he _)
def vO:Ş X (binaryOp .Add) (λx y H Q=>∃i j,x=.str i/\y=.str j/\i.length+j.length<=sizeLine/\Q (.str (i++j)) H):=by
 intro pins s σ H x y v u Q I rx ry h
 obtain⟨i,j,rfl,rfl,hz,q⟩:=h
 obtain⟨t,rfl⟩:=rx
 obtain⟨t',rfl⟩:=ry
 exact add_str (λt' tk=>⟨.str (i++j),H,I.tok _,⟨_,rfl⟩,q⟩) hz
def vals1{x:V}{us:List Value}(r:Vals [x] us):∃u,us=[u]/\RelV x u:=by
 cases r with
 |cons r1 r2=>cases r2;exact⟨_,rfl,r1⟩
def vals2{x y:V}{us:List Value}(r:Vals [x,y] us):∃u w',us=[u,w']/\RelV x u/\RelV y w':=by
 cases r with
 |cons r1 r2=>
  cases r2 with
  |cons r3 r4=>cases r4;exact⟨_,_,rfl,r1,r3⟩
def Ca:ň X (.builtin "abs") (λxs H Q=>∃i,xs=[.int i]/\Q (.int (if i<0 then -i else i)) H):=by
 intro pins s σ H xs us Q I r h
 obtain⟨i,rfl,q⟩:=h
 obtain⟨u,rfl,t,rfl⟩:=vals1 r
 exact call_abs_int λu tk=>⟨.int (if i<0 then -i else i),H,I.tok _,⟨_,rfl⟩,q⟩
def Ag(hc:X.calm=true):ň X (.builtin "max") (λxs H Q=>∃i j,xs=[.int i,.int j]/\Q (.int (if j>i then j else i)) H):=by
 intro pins s σ H xs us Q I r h
 obtain⟨i,j,rfl,q⟩:=h
 obtain⟨u,w',rfl,⟨t,rfl⟩,⟨t',rfl⟩⟩:=vals2 r
 refine max_two_ints (I.ok.hd hc) λh' tk k=>⟨_,H,I.kept k,?_,q⟩
 by_cases hj:j>i
 ·rw[if_pos hj,if_pos hj];exact⟨_,rfl⟩
 ·rw[if_neg hj,if_neg hj];exact⟨_,rfl⟩
def Ah(hc:X.calm=true):ň X (.builtin "min") (λxs H Q=>∃i j,xs=[.int i,.int j]/\Q (.int (if j<i then j else i)) H):=by
 intro pins s σ H xs us Q I r h
 obtain⟨i,j,rfl,q⟩:=h
 obtain⟨u,w',rfl,⟨t,rfl⟩,⟨t',rfl⟩⟩:=vals2 r
 refine min_two_ints (I.ok.hd hc) λh' tk k=>⟨_,H,I.kept k,?_,q⟩
 by_cases hj:j<i
 ·rw[if_pos hj,if_pos hj];exact⟨_,rfl⟩
 ·rw[if_neg hj,if_neg hj];exact⟨_,rfl⟩
def Ai:ň X (.type "int") (λxs H Q=>(∃i,xs=[.int i]/\Q (.int i) H)\/∃k,xs=[.bl k]/\Q (.int (if k then 1 else 0)) H):=by
 intro pins s σ H xs us Q I r h
 rcases h with⟨i,rfl,q⟩|⟨k,rfl,q⟩
 ·obtain⟨u,rfl,t,rfl⟩:=vals1 r
  exact call_int_int ⟨.int i,H,I,⟨_,rfl⟩,q⟩
 ·obtain⟨u,rfl,r1⟩:=vals1 r
  cases r1
  exact call_int_bool ⟨.int (if k then 1 else 0),H,I.tok _,⟨_,rfl⟩,q⟩
def Zce(K:PySem.W.Frag)(x:V)(H:Hp)(n:Nat):Prop:=
 match x with
 | .str y=>y.length<=sizeLine/\n=y.length
 | .HY y=>y.size<=sizeLine/\n=y.size
 | .ref p=>(∃xs,Ÿ K H p xs/\n=xs.length)\/∃xs,fH K H p xs/\n=xs.length
 |_=>False
def Cd:ň X (.builtin "len") (λxs H Q=>∃x n,xs=[x]/\Zce X.K x H n/\Q (.int n) H):=by
 intro pins s σ H xs us Q I r h
 obtain⟨x,n,rfl,e,q⟩:=h
 obtain⟨u,rfl,rx⟩:=vals1 r
 have hl:=mq
 have hs:sizeLine=16777216:=sizeLine_eq
 cases x with
 |str y=>
  obtain⟨t,rfl⟩:=rx
  obtain⟨hy,e'⟩:y.length<=sizeLine/\n=y.length:=e
  subst e'
  exact len_str (by omega) ⟨.int _,H,I.tok _,⟨_,rfl⟩,q⟩
 |HY y=>
  obtain⟨t,rfl⟩:=rx
  obtain⟨hy,e'⟩:y.size<=sizeLine/\n=y.size:=e
  subst e'
  exact PySem.W.len_bytes (by omega) ⟨.int _,H,I.tok _,⟨_,rfl⟩,q⟩
 |ref p=>
  cases rx
  have e':(∃xs,Ÿ X.K H p xs/\n=xs.length)\/∃xs,fH X.K H p xs/\n=xs.length:=e
  rcases e' with⟨xs,hx,e'⟩|⟨xs,hx,e'⟩
  ·subst e'
   obtain⟨its,r',pl,hz⟩:=I.list hx
   have hlen:=r'.length
   exact Calls.call_len_list pl.isList (by simp only[List.size_toArray];omega) ⟨.int xs.length,H,I.tok _,⟨_,by simp only[List.size_toArray];rw[hlen]⟩,q⟩
  ·subst e'
   obtain⟨its,r',pl,hz⟩:=I.tuple hx
   have hlen:=r'.length
   exact len_tuple pl (by simp only[List.size_toArray];omega) ⟨.int xs.length,H,I.tok _,⟨_,by simp only[List.size_toArray];rw[hlen]⟩,q⟩
 |_=>exact(show False from e).elim
end
end L2
namespace L2
open PySem PySem.Spec PyProof.Rows
structure vP(h:Heap)(x dx C:Addr)(mA:Str->Option Value):Prop where
 obj:h.get? x=some (PySem.W.instObj C dx)
 ns:h.Ns1 dx mA
 ne:dx≠x
def Aj{h:Heap}{dx:Addr}{mA:Str->Option Value}(n:h.Ns1 dx mA):∃od,h.get? dx=some od/\∀name,PySem.W.lookIn name od=some (mA name):=by
 obtain⟨o,es,ep,ho,hd,hk,_,hm⟩:=n
 refine⟨o,ho,λname=>?_⟩
 have e:=hm name
 unfold nsFind findBy at e
 rw[<-Array.find?_toList] at e
 unfold PySem.W.lookIn
 rw[hd]
 dsimp only
 split
 ·rename_i y q
  rw[q] at e
  exact congrArg some e
 ·rename_i q
  rw[q] at e
  have a:es.toList.any (·.refKey)=false:=by
   rw[List.any_eq_false]
   intro y hy
   obtain⟨z,t,hkey⟩:=hk y (Array.mem_toList_iff.mp hy)
   simp[DictEntry.refKey,hkey]
  have a':¬es.toList.any (·.refKey)=true:=by rw[a];exact Bool.false_ne_true
  rw[if_neg a']
  exact congrArg some e
def vP.look{h:Heap}{x dx C:Addr}{mA:Str->Option Value}(I:vP h x dx C mA):∃od,PySem.W.InstAt h x (PySem.W.instObj C dx) C (some od)/\∀name,PySem.W.lookIn name od=some (mA name):=
 let ⟨od,ho,hl⟩:=Aj I.ns
 ⟨od,⟨I.obj,rfl,rfl,ho⟩,hl⟩
section
variable{prog:Program}{w:World}{A:Around}{E:Value->Shared->Prop}{s:Shared}{K:PySem.W.Frag}{x dx C f:Addr}{mA:Str->Option Value}{name:Str}{v:Value}
def get_map{expr:Bool}{Q:Value->Shared->Prop}(X:K.In s.heap)(I:vP s.heap x dx C mA)(hg:PySem.W.plainGet K C name=true)(hh:PySem.W.hasDictIn K C=true)
 (ha:PySem.W.findIn K (.ref C) name=some none)(hv:mA name=some v)(hv':PySem.W.handedIn v=true)(h:Q v {s with toks:=s.toks+1}) :
 wpAny (model prog w) A (getAttr (.ref x) name expr) Q E s:=by
 obtain⟨od,J,hl⟩:=I.look
 exact PySem.W.get_value X J (PySem.W.plainGet_of hg).1 (PySem.W.findObj_own hh ha rfl (by rw[hl,hv])) hv' h
def Ce{pl:Sem Bool}{Q:Value×List Value->Shared->Prop}(X:K.In s.heap)(I:vP s.heap x dx C mA)(hg:PySem.W.plainGet K C name=true)
 (hf:PySem.W.findIn K (.ref C) name=some (some (.ref f)))(ht:PySem.W.isFn K (.ref f)=true)(hv:mA name=none)(h:Q (.ref f,[.ref x]) s) :
 wpAny (model prog w) A (getMethod (.ref x) name pl) Q E s:=by
 obtain⟨od,J,hl⟩:=I.look
 exact PySem.W.method_fn X J (PySem.W.plainGet_of hg).1 (PySem.W.plainGet_of hg).2 hf (beq_iff_eq.mp ht) (by show(PySem.W.lookIn name od).map (·.isSome)=some false;rw[hl,hv];rfl) h
def Ir{ns:List Str}{Q:Unit->Shared->Prop}(X:K.In s.heap)(I:vP s.heap x dx C mA)
 (hs:PySem.W.findIn K (.ref C) "__setattr__" =some (some (.builtin "object.__setattr__")))(hp:PySem.W.plainOver K C=true)(ht:PySem.W.takerIn K C name=some none)(hh:PySem.W.hasDictIn K C=true)
 (hw:PySem.Within mA ns)(hsz:ns.length<=sizeLine)
 (h:∀h',vP h' x dx C (λy=>if y=name then some v else mA y)->Heap.SameBut dx s.heap h'->Q () {s with heap:=h',toks:=s.toks+2}) :
 wpAny (model prog w) A (setAttr (.ref x) name v) Q E s:=by
 obtain⟨od,J,hl⟩:=I.look
 refine PySem.W.set_plain X J hs (PySem.W.osa_open (s:={s with toks:=s.toks+1}) (r:=none) X J hp ht λb=>?_)
 obtain⟨cd,hc,hd'⟩:=PySem.W.any_some hh
 have hx:s.heap.get? x=some ⟨.ref C,some dx,.plain,#[]⟩:=I.obj
 refine wpAny_bind (wpAny_pure (wpAny_bind (wpAny_bind (wpAny_loadPart hx (wpAny_bind (PySem.W.Looks.here (s:={s with toks:=s.toks+1}) (PySem.W.looks_clsIn X hc) ?_))))))
 rw[hd']
 refine wpAny_pure (a:=some dx) (wpAny_bind (wpAny_pure (wpAny_bind ?_)))
 refine wpAny_nsSet1 (s:={s with toks:=s.toks+1}) I.ns λh' hn2 hs2=>?_
 obtain⟨oD,esD,epD,hoD,hdD,hcD⟩:=hn2.count (PySem.Within.cons name v hw)
 refine wpAny_bind (wpAny_lookBehind hoD (by rw[hdD];exact pastItsLine_dict (Nat.le_trans hcD (by rw[List.length_cons];omega))) ?_)
 exact wpAny_pure (h _ ⟨(hs2.2 _ (Ne.symm I.ne)).trans I.obj,hn2,I.ne⟩ hs2)
def Cg{R:Result->Shared->Prop}{vs:List Value}{kw:List (Str×Value)}(X:K.In s.heap)(hm:PySem.W.makesIn K C=true)
 (hi:PySem.W.findIn K (.ref C) "__init__" =some (some (.ref f)))(hf:PySem.W.typeIn K (.ref f)=some (.type "function"))
 (h:codeAny (model prog w) (A.under (.builtin "type.__call__" ⟨.ref C::vs,kw⟩)) (.call (.ref f) ⟨.ref (s.heap.objs.size+1)::vs,kw⟩) (PySem.W.InitBack (s.heap.objs.size+1) R)
   {s with heap:=(s.heap.push PySem.W.emptyDict).push (PySem.W.instObj C s.heap.objs.size)}) :
 codeAny (model prog w) A (.call (.ref C) ⟨vs,kw⟩) R s:=by
 obtain⟨hh,g,d,t,os⟩:=s
 exact PySem.W.make_core (PySem.W.makes_of X hm) (PySem.W.looks_findIn X hi) (λself=>PySem.W.bind_fn X self hf) (.inl rfl) h
end
def dh(f:Str)(v:V):List (Str×V)->List (Str×V)
 | []=>[(f,v)]
 |(g,x)::r=>if g=f then(g,v)::r else(g,x)::dh f v r
theorem jY(f g:Str)(v:V):∀fs:List (Str×V),(dh f v fs).lookup g=if g=f then some v else fs.lookup g
 | []=>by
   show List.lookup g [(f,v)]=_
   by_cases h:g=f
   ·have hb:(g== f)=true:=beq_iff_eq.mpr h
    simp only[List.lookup,hb,if_pos h]
   ·have hb:(g== f)=false:=beq_eq_false_iff_ne.mpr h
    simp only[List.lookup,hb,if_neg h]
 |(k,x)::r=>by
  have ih:=jY f g v r
  rw[show dh f v ((k,x)::r)=(if k=f then(k,v)::r else(k,x)::dh f v r) from rfl]
  by_cases hk:k=f
  ·rw[if_pos hk]
   by_cases h:g=k
   ·have hb:(g== k)=true:=beq_iff_eq.mpr h
    simp only[List.lookup,hb,if_pos (h.trans hk)]
   ·have hb:(g== k)=false:=beq_eq_false_iff_ne.mpr h
    simp only[List.lookup,hb,if_neg (λe:g=f=>h (e.trans hk.symm))]
  ·rw[if_neg hk]
   by_cases h:g=k
   ·have hb:(g== k)=true:=beq_iff_eq.mpr h
    simp only[List.lookup,hb,if_neg (λe:g=f=>hk (h.symm.trans e))]
   ·have hb:(g== k)=false:=beq_eq_false_iff_ne.mpr h
    simp only[List.lookup,hb]
    exact ih
theorem jE(f:Str)(v:V):∀fs:List (Str×V),f∈(dh f v fs).map (·.1)/\∀g,g∈fs.map (·.1)->g∈(dh f v fs).map (·.1)
 | []=>⟨by simp[dh],λg h=>by simp at h⟩
 |(k,x)::r=>by
  obtain⟨i1,i2⟩:=jE f v r
  rw[show dh f v ((k,x)::r)=(if k=f then(k,v)::r else(k,x)::dh f v r) from rfl]
  by_cases hk:k=f
  ·rw[if_pos hk]
   subst hk
   exact⟨by simp,λg h=>by simpa using h⟩
  ·rw[if_neg hk]
   refine⟨?_,λg h=>?_⟩
   ·rw[List.map_cons]
    exact List.mem_cons_of_mem _ i1
   ·rw[List.map_cons] at h ⊢
    rcases List.mem_cons.mp h with e|e
    ·exact List.mem_cons.mpr (.inl e)
    ·exact List.mem_cons_of_mem _ (i2 g e)
theorem jZ(f:Str)(v:V):∀fs:List (Str×V),(dh f v fs).length<=fs.length+1
 | []=>by simp[dh]
 |(k,x)::r=>by
  have ih:=jZ f v r
  rw[show dh f v ((k,x)::r)=(if k=f then(k,v)::r else(k,x)::dh f v r) from rfl]
  by_cases hk:k=f
  ·rw[if_pos hk,List.length_cons,List.length_cons];omega
  ·rw[if_neg hk,List.length_cons,List.length_cons];omega
def oA.some_of{v:V}{o:Option Value}(r:oA (some v) o):∃u,o=some u/\RelV v u:=by
 cases o with
 |none=>exact(show False from r).elim
 |some u=>exact⟨u,rfl,r⟩
def oA.none_of{o:Option Value}(r:oA none o):o=none:=by
 cases o with
 |none=>rfl
 |some u=>exact(show False from r).elim
def Ak{v:V}{u:Value}(r:RelV v u):PySem.W.handedIn u=true:=by
 cases v with
 |non=>cases(show u=Value.none from r);rfl
 |bl b=>cases(show u=Value.bool b from r);rfl
 |int i=>obtain⟨t,e⟩:=(show ∃t,u=Value.int i t from r);cases e;rfl
 |str x=>obtain⟨t,e⟩:=(show ∃t,u=Value.str x t from r);cases e;rfl
 |HY b=>obtain⟨t,e⟩:=(show ∃t,u=Value.bytes b t from r);cases e;rfl
 |flt b=>obtain⟨t,e⟩:=(show ∃t,u=Value.float b t from r);cases e;rfl
 |ref a=>cases(show u=Value.ref a from r);rfl
 |ty n=>cases(show u=Value.type n from r);rfl
section
variable{P:Program}{w:World}{H H':Hp}{h h':Heap}{a C dx:Addr}{fs fs':List (Str×V)}
def qG(hok:je P w H h)(e:H a=some (.ins C dx fs)):∃mA,vP h a dx C mA/\(∀f,oA (fs.lookup f) (mA f))/\PySem.Within mA (fs.map (·.1))/\fs.length<=1000/\H dx=some (.own a):=by
 obtain⟨d,z,ne,ob,mA,n,r,q⟩:=(show aU P w H h a (.ins C dx fs) from hok a _ e)
 exact⟨mA,⟨ob,n,ne⟩,r,q,z,d⟩
end
structure Cls(K:PySem.W.Frag)(C:Addr):Prop where
 pg:PySem.W.plainGet K C Str.empty=true
 hd:PySem.W.hasDictIn K C=true
 po:PySem.W.plainOver K C=true
 sa:PySem.W.findIn K (.ref C) "__setattr__" =some (some (.builtin "object.__setattr__"))
def Cls.get{K:PySem.W.Frag}{C:Addr}(c:Cls K C)(f:Str):PySem.W.plainGet K C f=true:=c.pg
def ĳ(K:PySem.W.Frag)(C:Addr)(f:Str):Prop:=PySem.W.findIn K (.ref C) f=some none
def ĳ.taker{K:PySem.W.Frag}{C:Addr}{f:Str}(n:ĳ K C f):PySem.W.takerIn K C f=some none:=by
 unfold PySem.W.takerIn
 rw[show PySem.W.findIn K (.ref C) f=some none from n]
 rfl
structure Meth(K:PySem.W.Frag)(C:Addr)(m:Str)(f:Addr):Prop where
 at_:PySem.W.findIn K (.ref C) m=some (some (.ref f))
 fn:PySem.W.isFn K (.ref f)=true
 kp:PySem.W.keepIn K (.ref f)=true
section
variable{X:Cx}{pins:List (Addr×Obj)}{σ:St}{H:Hp}{s:Shared}{a C dx:Addr}{fs:List (Str×V)}{f:Str}{v:V}{A:Around}{E:Value->Shared->Prop}
def vQ{b:Bool}{Q:Value->Shared->Prop}(I:Inv X pins σ H s)(e:H a=some (.ins C dx fs))(c:Cls X.K C)(n:ĳ X.K C f)(l:fs.lookup f=some v)
 (h:∀u s',Inv X pins σ H s'->RelV v u->Q u s'):wpAny (model X.prog X.w) A (getAttr (.ref a) f b) Q E s:=by
 obtain⟨mA,O,r,_,_,_⟩:=qG I.hok e
 obtain⟨u,hu,ru⟩:=oA.some_of (v:=v) (o:=mA f) (by rw[<-l];exact r f)
 exact get_map I.Aa O (c.get f) c.hd n hu (Ak ru) (h u _ (I.tok _) ru)
def vR{m:Str}{g:Addr}{pl:Sem Bool}{Q:Value×List Value->Shared->Prop}(I:Inv X pins σ H s)(e:H a=some (.ins C dx fs))(c:Cls X.K C)(k:Meth X.K C m g)(l:fs.lookup m=none)
 (h:Q (.ref g,[.ref a]) s):wpAny (model X.prog X.w) A (getMethod (.ref a) m pl) Q E s:=by
 obtain⟨mA,O,r,_,_,_⟩:=qG I.hok e
 have hn:mA m=none:=oA.none_of (by rw[<-l];exact r m)
 exact Ce I.Aa O (c.get m) k.at_ k.fn hn h
def vU{y:V}{u:Value}{Q:Unit->Shared->Prop}(I:Inv X pins σ H s)(e:H a=some (.ins C dx fs))(c:Cls X.K C)(n:ĳ X.K C f)(hl:fs.length<1000)(ry:RelV y u)
 (h:∀s',Inv X pins σ (upd H a (.ins C dx (dh f y fs))) s'->Q () s'):wpAny (model X.prog X.w) A (setAttr (.ref a) f u) Q E s:=by
 obtain⟨mA,O,r,wi,_,ho⟩:=qG I.hok e
 have hz:(fs.map (·.1)).length<=sizeLine:=by rw[List.length_map,sizeLine_eq];omega
 refine Ir I.Aa O c.sa c.po n.taker c.hd wi hz λh' O' sb=>h _ ?_
 have hd:∃o,h'.get? dx=some o:=let ⟨o,_,_,e',_⟩:=O'.ns;⟨o,e'⟩
 refine I.write (x:=a) (e:=dx) (by rw[e];exact True.intro) (.inr ho) (λb q hb z=>(sb.2 b hb).trans z) hd ?_
 refine⟨by rw[Ę O.ne];exact ho,?_,O.ne,O'.obj,_,O'.ns,λg=>?_,λg hg=>?_⟩
 ·have:=jZ f y fs;omega
 ·show oA ((dh f y fs).lookup g) (if g=f then some u else mA g)
  rw[jY]
  by_cases q:g=f
  ·rw[if_pos q,if_pos q];exact ry
  ·rw[if_neg q,if_neg q];exact r g
 ·by_cases q:g=f
  ·rw[q];exact(jE f y fs).1
  ·refine(jE f y fs).2 g (wi g λz=>hg ?_)
   show(if g=f then some u else mA g)=none
   rw[if_neg q];exact z
def Inv.made(I:Inv X pins σ H s):Inv X pins σ (upd (upd H s.heap.objs.size (.own (s.heap.objs.size+1))) (s.heap.objs.size+1) (.ins C s.heap.objs.size []))
 {s with heap:=(s.heap.push PySem.W.emptyDict).push (PySem.W.instObj C s.heap.objs.size)}:=by
 have e1:(s.heap.push PySem.W.emptyDict).get? s.heap.objs.size=some PySem.W.emptyDict:=Heap.get?_push_size s.heap rfl
 have e2:((s.heap.push PySem.W.emptyDict).push (PySem.W.instObj C s.heap.objs.size)).get? (s.heap.objs.size+1)=some (PySem.W.instObj C s.heap.objs.size):=by
  have:=Heap.get?_push_size (s.heap.push PySem.W.emptyDict) (o:=PySem.W.instObj C s.heap.objs.size) rfl
  rwa [Heap.size_push] at this
 have e3:(s.heap.push PySem.W.emptyDict).Ns s.heap.objs.size (λ_=>none):=⟨PySem.W.emptyDict,#[],_,e1,rfl,(λe he=>absurd he (by simp)),λ_=>rfl⟩
 have I1:=I.laid (a:=s.heap.objs.size) (o:=.own (s.heap.objs.size+1)) (h':=s.heap.push PySem.W.emptyDict) (t':=s.toks) (λb u q=>Heap.get?_push_of_some _ q) (Nat.le_refl _) ⟨_,e1⟩
 refine I1.laid (a:=s.heap.objs.size+1) (o:=.ins C s.heap.objs.size []) (t':=s.toks) (λb u q=>Heap.get?_push_of_some _ q) (Nat.le_of_eq (Heap.size_push _ _)) ?_
 have ne:s.heap.objs.size≠s.heap.objs.size+1:=Nat.ne_of_lt (Nat.lt_succ_self _)
 refine⟨by rw[Ę ne,Ħ],Nat.zero_le _,ne,e2,λ_=>none,(Heap.Ns1.of_empty e3).at λo q=>Heap.get?_push_of_some _ q,λ_=>True.intro,λy hy=>absurd rfl hy⟩
def Iu{prog:Program}{w:World}{env:Env}{e:Expr}{f:Str}{pos:Pos}{s:Shared}{Q:Value->Shared->Prop}(hb:attributeBase e f env (eval e env)=eval e env)
 (h:wpAny (model prog w) A (eval e env) (λo s₁=>wpAny (model prog w) A (getAttr o f true) Q E s₁) E s):wpAny (model prog w) A (eval (.Attribute e f pos) env) Q E s:=
 Attribute_any_ h (by rw[arm_eval_Attribute,hb])
end
def Zcf(K:PySem.W.Frag)(ta:TE)(f:Str):TE:=λσ H Q=>ta σ H λx H1=>∃a C dx fs v,x=.ref a/\H1 a=some (.ins C dx fs)/\Cls K C/\ĳ K C f/\fs.lookup f=some v/\Q v H1
def Zcg(K:PySem.W.Frag)(ta tv:TE)(f:Str):TS:=λD σ H=>tv σ H λy H1=>ta σ H1 λx H2=>∃a C dx fs,x=.ref a/\H2 a=some (.ins C dx fs)/\Cls K C/\ĳ K C f/\fs.length<1000/\
 D.nx σ (upd H2 a (.ins C dx (dh f y fs)))
section
variable{X:Cx}{o e value:Expr}{f:Str}{pos pos' tpos:Pos}{ta tv:TE}
def TF(he:PE X e ta)(hb:attributeBase e f X.env (eval e X.env)=eval e X.env):PE X (.Attribute e f pos) (Zcf X.K ta f):=by
 intro pins s σ H Q I h
 refine Iu hb (ŏ (he pins s σ H _ I h) λu s1 ⟨x,H1,I1,rx,a,C,dx,fs,v,ex,ea,c,n,l,q⟩=>?_)
 subst ex
 obtain rfl:u=Value.ref a:=rx
 exact vQ I1 ea c n l λu' s2 I2 ru=>⟨v,H1,I2,ru,q⟩
def TJ(ha:PE X o ta)(hv:PE X value tv)(hs:swapsWith value (some (.Attribute o f pos')) pos.line X.env=pure false):PS X (.Assign [.Attribute o f pos'] value pos) (Zcg X.K ta tv f):=by
 intro pins s σ H D I h
 refine plainObj_wpAny_Assign_Attribute (ŏ (hv pins s σ H _ I h) λu s1 ⟨y,H1,I1,ry,q⟩=>ŏ (ha pins s1 σ H1 _ I1 q) λov s2 ⟨x,H2,I2,rx,a,C,dx,fs,ex,ea,c,n,l,q2⟩=>?_) hs
 subst ex
 obtain rfl:ov=Value.ref a:=rx
 exact vU I2 ea c n l ry λs3 I3=>⟨σ,_,I3,q2⟩
end
section
variable{X:Cx}{pins:List (Addr×Obj)}{σ:St}{H:Hp}{s:Shared}{A:Around}{E:Value->Shared->Prop}{Q:Value->Shared->Prop}{c:Value}{b:Bool}
end
end L2
namespace L2
open PySem PySem.Spec PyProof.Rows
structure Ś(k:Nat)(A:Around):Prop where
 hd:A.handled=none
 dp:A.depth+3*k+5<recursionLimit
 un:A.units+16*k+200<cLine
def Ś.mono{j k:Nat}{A:Around}(r:Ś k A)(h:j<=k):Ś j A:=⟨r.hd,by have:=r.dp;omega,by have:=r.un;omega⟩
def Ś.mo{j k:Nat}{A:Around}(r:Ś k A)(h:j<=k:= by decide):Ś j A:= r.mono h
theorem Ś.deeper{k:Nat}{A:Around}(r:Ś (k+1) A)(env:Env):Ś k (A.deeper env):=
 ⟨r.hd,by have:=r.dp;show A.depth+1+3*k+5<_;omega,by have:=r.un;show A.units+3+16*k+200<_;omega⟩
theorem Ś.in1{k:Nat}{A:Around}(r:Ś (k+1) A):Ś k A.in1:=
 ⟨r.hd,by have:=r.dp;show A.depth+3*k+5<_;omega,by have:=r.un;show A.units+1+16*k+200<_;omega⟩
def vV{A:Around}{C:Addr}{us:List Value}{kw:List (Str×Value)}:(A.under (.builtin "type.__call__" ⟨.ref C::us,kw⟩)).depth=A.depth+1:=by
 first|rfl|simp[Around.under,Code.weight,Code.isCreation,Code.isGuard,Code.isCaller,Code.frames,Code.isFrame,guardIds]
def vW{A:Around}{C:Addr}{us:List Value}{kw:List (Str×Value)}:(A.under (.builtin "type.__call__" ⟨.ref C::us,kw⟩)).units=A.units+1:=by
 first|rfl|simp[Around.under,Code.cUnits,Code.frames,Code.isFrame]
def Ś.make{k:Nat}{A:Around}(r:Ś (k+1) A)(C:Addr)(us:List Value)(kw:List (Str×Value)):Ś k (A.under (.builtin "type.__call__" ⟨.ref C::us,kw⟩)):=
 ⟨r.hd,by have:=r.dp;rw[vV];omega,by have:=r.un;rw[vW];omega⟩
theorem Ś.depth{k:Nat}{A:Around}(r:Ś k A):A.depth<recursionLimit:=by have:=r.dp;omega
theorem Ś.units{k:Nat}{A:Around}(r:Ś k A):A.units+64<cLine:=by have:=r.un;omega
def Zch:TA:=λ_ H Q=>Q [] H
def Ys(ta:TE)(tr:TA):TA:=λσ H Q=>ta σ H λx H1=>tr σ H1 λxs H2=>Q (x::xs) H2
section
variable{X:Cx}{e:Expr}{es:List Expr}{te:TE}{t:TA}{pos:Pos}
def mz:PA X [] Zch:=λ_ _ _ _ H Q I h=>Calls.spliced_nil ⟨[],H,I,.nil,h⟩
def gK(ha:PE X e te)(hr:PA X es t)(hs:starEach (e::es) X.env=(false,eval e X.env)::starEach es X.env:=by rfl):PA X (e::es) (Ys te t):=by
 intro pos pins s σ H Q I h
 rw[hs]
 show wpAny _ _ (spliced ((false,eval e X.env)::backTo pos (starEach es X.env))) _ _ s
 refine Calls.spliced_cons (ŏ (ha pins s σ H _ I h) λu s1 ⟨x,H1,I1,r1,q1⟩=>?_)
 exact ŏ (hr pos pins s1 σ H1 _ I1 q1) λus s2 ⟨xs,H2,I2,r2,q2⟩=>⟨x::xs,H2,I2,.cons r1 r2,q2⟩
def Zci(t:TA):TE:=λσ H Q=>t σ H λxs H1=>xs.length<=sizeLine/\∀p,H1 p=none->Q (.ref p) (upd H1 p (.tup xs))
def Zcj(t:TA):TE:=λσ H Q=>t σ H λxs H1=>xs.length<=sizeLine/\∀p,H1 p=none->Q (.ref p) (upd H1 p (.lst xs))
def TQ{x1}(h:PA X es t):PE X (.Tuple es x1 pos) (Zci t):=by
 intro pins s σ H Q I hq
 refine wpAny_Tuple_spliced (ŏ (h pos pins s σ H _ I hq) λus s1 ⟨xs,H1,I1,r,z,q⟩=>⟨by rw[<-r.length];exact z,?_⟩)
 have hf:H1 s1.heap.objs.size=none:=I1.hok.fresh (Nat.le_refl _)
 refine⟨.ref s1.heap.objs.size,upd H1 s1.heap.objs.size (.tup xs),I1.laid (t':=s1.toks) (λb u e=>Heap.get?_push_of_some _ e) (Nat.le_refl _) ?_,rfl,q _ hf⟩
 exact⟨z,us,r,⟨_,Heap.get?_push_size _ rfl,rfl,_,rfl⟩⟩
def TY(h:PA X es t):PE X (.List es pos) (Zcj t):=by
 intro pins s σ H Q I hq
 refine wpAny_List_spliced (ŏ (h pos pins s σ H _ I hq) λus s1 ⟨xs,H1,I1,r,z,q⟩=>⟨by rw[<-r.length];exact z,?_⟩)
 have hf:H1 s1.heap.objs.size=none:=I1.hok.fresh (Nat.le_refl _)
 refine⟨.ref s1.heap.objs.size,upd H1 s1.heap.objs.size (.lst xs),I1.laid (t':=s1.toks) (λb u e=>Heap.get?_push_of_some _ e) (Nat.le_refl _) ?_,rfl,q _ hf⟩
 exact⟨z,us,0,r,Heap.get?_push_size _ rfl⟩
end
abbrev Sp:=List V->Hp->VK->XK->Prop
abbrev jF:=List Env->Hp->Shared->XK->Value->Shared->Prop
structure vX(P:Program)(w:World)(K:PySem.W.Frag)(mg:Str->Option Value)(base:Heap)(A:Around)(outer:List Env)(s:Shared)(H:Hp):Prop where
 frames:A.frames=some outer
 mod:Mod K mg base
 bs:∀b o,base.get? b=some o->s.heap.get? b=some o/\H b=none
 Hz:base.objs.size<=s.heap.objs.size
 lC:s.heap.FunFrames base outer
 Sd:∀b∈frs outer,H b=none
 hok:je P w H s.heap
 bare:AllBare s.gens
 tb:TabsOk K mg base H
def CE(outer:List Env)(P:Program)(w:World)(H:Hp)(s:Shared)(Q:VK)(u:Value)(s':Shared):Prop:=
 ∃v H',s'.os=s.os/\AllBare s'.gens/\Un (frs outer) [] H H' s.heap s'.heap/\je P w H' s'.heap/\RelV v u/\Q v H'
def CR(CX:jF)(outer:List Env)(P:Program)(w:World)(H:Hp)(s:Shared)(Q:VK)(E:XK)(r:Result)(s':Shared):Prop:=
 match r with
 | .ok (.ret u)=>CE outer P w H s Q u s'
 | .ok _=>False
 | .error e=>CX outer H s E e s'
structure ģ(P:Program)(w:World)(K:PySem.W.Frag)(mg:Str->Option Value)(base:Heap)(CX:jF)(k:Nat)(f:Addr)(fd:FuncData)(ps:List Str)(sp:Sp):Prop where
 len:∀vs H Q E,sp vs H Q E->vs.length=ps.length
 run:∀(A:Around) (outer:List Env) (s:Shared) (H:Hp) (args:Args) (us:List Value) (vs:List V) (Q:VK) (E:XK),Ś k A->vX P w K mg base A outer s H->BindsTo s fd args (ps.zip us)->Vals vs us->sp vs H Q E->
  codeAny (model P w) A (.call (.ref f) args) (CR CX outer P w H s Q E) s
theorem ģ.mono{P:Program}{w:World}{K:PySem.W.Frag}{mg:Str->Option Value}{base:Heap}{CX:jF}{j k:Nat}{f:Addr}{fd:FuncData}{ps:List Str}{sp:Sp}(F:ģ P w K mg base CX j f fd ps sp)(h:j<=k) :
 ģ P w K mg base CX k f fd ps sp:=⟨F.len,λA outer s H args us vs Q E hr=>F.run A outer s H args us vs Q E (hr.mono h)⟩
def ģ.imp{P:Program}{w:World}{K:PySem.W.Frag}{mg:Str->Option Value}{base:Heap}{CX:jF}{k:Nat}{f:Addr}{fd:FuncData}{ps:List Str}{sp sp':Sp}(F:ģ P w K mg base CX k f fd ps sp)
 (h:∀vs H Q E,sp' vs H Q E->sp vs H Q E):ģ P w K mg base CX k f fd ps sp':=
 ⟨λvs H Q E q=>F.len vs H Q E (h _ _ _ _ q),λA outer s H args us vs Q E hr he hb hv hs=>F.run A outer s H args us vs Q E hr he hb hv (h _ _ _ _ hs)⟩
def vX.make{P:Program}{w:World}{K:PySem.W.Frag}{mg:Str->Option Value}{base:Heap}{A:Around}{outer:List Env}{s:Shared}{H:Hp}(e:vX P w K mg base A outer s H)(C:Addr)(us:List Value)(kw:List (Str×Value)) :
 vX P w K mg base (A.under (.builtin "type.__call__" ⟨.ref C::us,kw⟩)) outer s H:=⟨by first|exact e.frames|(simpa[Around.under,Code.envs,Code.isFrame,pushEnvs] using e.frames),e.mod,e.bs,e.Hz,e.lC,e.Sd,e.hok,e.bare,e.tb⟩
section
variable{X:Cx}{pins:List (Addr×Obj)}{σ:St}{H:Hp}{s s':Shared}
def Inv.env0(I:Inv X pins σ H s):vX X.prog X.w X.K X.mg X.base X.A X.stack s H:=
 ⟨I.ok.frames,I.ok.mod,I.bs,Nat.le_trans I.ok.Hz I.sz,I.stack,I.qD,I.hok,I.bare,I.tb⟩
def Inv.after{Q:VK}{u:Value}(I:Inv X pins σ H s)(h:CE X.stack X.prog X.w H s Q u s'):EP X pins σ Q u s':=by
 obtain⟨v,H',os,bare,un,hok,r,q⟩:=h
 obtain⟨hh,g,d,t,os'⟩:=s'
 obtain rfl:os'=s.os:=os
 exact⟨v,H',I.call (h':=hh) (g':=g) (d':=d) (t':=t) (ch:=[]) un hok bare (λb z=>absurd z (by simp)),r,q⟩
end
def Binds(K:PySem.W.Frag)(fd:FuncData)(ps:List Str)(ds:List Value):Prop:=
 ∀(s:Shared) (us:List Value),K.In s.heap->(us++ds).length=ps.length->BindsTo s fd ⟨us,[]⟩ (ps.zip (us++ds))
def Binds.all{K:PySem.W.Frag}{fd:FuncData}{ps:List Str}(h:∀us:List Value,us.length=ps.length->bindArgs fd ⟨us,[]⟩=pure (ps.zip us)):Binds K fd ps []:=λs us _ hl=>by
 rw[List.append_nil] at hl ⊢
 exact .of_eq (h us hl)
section
variable{X:Cx}{CX:jF}{k:Nat}{f C:Addr}{fd:FuncData}{ps:List Str}{sp:Sp}{dvs:List V}{ds:List Value}{E:XK}{x m:Str}{p pos apos:Pos}{e o:Expr}{es:List Expr}{ta:TE}{t:TA}
structure Mk(K:PySem.W.Frag)(C f:Addr):Prop where
 makes:PySem.W.makesIn K C=true
 init:PySem.W.findIn K (.ref C) "__init__" =some (some (.ref f))
 fn:PySem.W.isFn K (.ref f)=true
 kp:PySem.W.keepIn K (.ref C)=true
end
section
variable{X:Cx}{CX:jF}{k:Nat}{f C:Addr}{fd:FuncData}{ps ks:List Str}{sp:Sp}{E:XK}{x m:Str}{p pos apos kpos:Pos}{e o:Expr}{es:List Expr}{kws:List Keyword}{te ta:TE}{t tk:TA}{nm:Option Str}
variable{g:List Value->List Value->List Value}{gV:List V->List V->List V}
end
structure Ē(N P:List Str)(sc:Scope):Prop where
 kind:sc.kind=.function
 co:sc.isCoroutine=false
 gen:sc.isGenerator=false
 nd:N.Nodup
 pre:N.take P.length=P
 par:∀x∈P,sc.names.lookup x=some .local\/sc.names.lookup x=some .cell
 T_:∀y∈sc.names,y.2≠ .free
theorem pq{kindOf:Str->Option NameKind}{x:Str}:∀{binds:List (Str×Value)} {m:Str->Option Value},(∀v,(x,v)∉binds)->bindL kindOf binds m x=m x
 | [],_,_=>rfl
 |(n,v)::r,m,h=>by
  unfold bindL
  rw[pq λw hw=>h w (List.mem_cons_of_mem _ hw)]
  split
  ·have:x≠n:=by rintro rfl;exact h v List.mem_cons_self
   simp[this]
  ·rfl
theorem pA{kindOf:Str->Option NameKind}{x:Str}:∀{binds:List (Str×Value)} {m:Str->Option Value},(∀v,(x,v)∉binds)->bindC kindOf binds m x=m x
 | [],_,_=>rfl
 |(n,v)::r,m,h=>by
  unfold bindC
  rw[pA λw hw=>h w (List.mem_cons_of_mem _ hw)]
  split
  ·rfl
  ·have:x≠n:=by rintro rfl;exact h v List.mem_cons_self
   simp[this]
theorem pB{kindOf:Str->Option NameKind}{x:Str}{v:Value}:∀{P:List Str} {vs:List Value} {i:Nat} {m:Str->Option Value},P.Nodup->P[i]?=some x->vs[i]?=some v->kindOf x=some .local->
 bindL kindOf (P.zip vs) m x=some v
 | [],_,_,_,_,h,_,_=>by simp at h
 |_::_,[],_,_,_,_,h,_=>by simp at h
 |p::P,w::vs,0,m,nd,h1,h2,hk=>by
  simp at h1 h2;subst h1;subst h2
  show bindL kindOf ((p,w)::P.zip vs) m p=_
  unfold bindL
  rw[pq λv hv=>(List.nodup_cons.mp nd).1 (List.of_mem_zip hv).1,if_pos hk]
  simp
 |p::P,w::vs,i+1,m,nd,h1,h2,hk=>by
  show bindL kindOf ((p,w)::P.zip vs) m x=_
  unfold bindL
  exact pB (i:=i) (List.nodup_cons.mp nd).2 (by simpa using h1) (by simpa using h2) hk
theorem pC{kindOf:Str->Option NameKind}{x:Str}{v:Value}:∀{P:List Str} {vs:List Value} {i:Nat} {m:Str->Option Value},P.Nodup->P[i]?=some x->vs[i]?=some v->kindOf x≠some .local->
 bindC kindOf (P.zip vs) m x=some v
 | [],_,_,_,_,h,_,_=>by simp at h
 |_::_,[],_,_,_,_,h,_=>by simp at h
 |p::P,w::vs,0,m,nd,h1,h2,hk=>by
  simp at h1 h2;subst h1;subst h2
  show bindC kindOf ((p,w)::P.zip vs) m p=_
  unfold bindC
  rw[pA λv hv=>(List.nodup_cons.mp nd).1 (List.of_mem_zip hv).1,if_neg hk]
  simp
 |p::P,w::vs,i+1,m,nd,h1,h2,hk=>by
  show bindC kindOf ((p,w)::P.zip vs) m x=_
  unfold bindC
  exact pC (i:=i) (List.nodup_cons.mp nd).2 (by simpa using h1) (by simpa using h2) hk
def start(N:List Str)(vs:List V):St:=vs.map some++List.replicate (N.length-vs.length) none
def oJ(CX:jF)(P:Program)(w:World)(K:PySem.W.Frag)(mg:Str->Option Value)(base:Heap)(N:List Str)(qual:Str)(scope:Scope)(f:Addr)(cd:Value)(A:Around)(outer:List Env)(s:Shared)(H:Hp)(E:XK):Cx where
 prog:=P
 w:=w
 K:=K
 mg:=mg
 base:=base
 A:=A.deeper (envOfC qual scope s.heap.objs.size f cd)
 N:=N
 s₀:= s
 H₀:= H
 env:=envOfC qual scope s.heap.objs.size f cd
 outer:=outer
 stack:=envOfC qual scope s.heap.objs.size f cd::outer
 ex:=[]
 calm:=true
 fn:=λ_=>true
 pn:=[]
 xe:=λe s'=>wpAny (model P w) (A.deeper (envOfC qual scope s.heap.objs.size f cd)) (leaving (envOfC qual scope s.heap.objs.size f cd) e) (λ_ s''=>CX outer H s E e s'') (λe' s''=>CX outer H s E e' s'') s'
def jg{sc:Scope}{n:Nat}{x:Str}(h:sc.names.lookup x=some .cell):∃c,(cellsFrom n sc.names []).lookup x=some c:=by
 have q:=PySem.W.cellsFrom_some sc.names n [] (.inl h)
 exact Option.isSome_iff_exists.mp q
def Al{CX:jF}{P:Program}{w:World}{K:PySem.W.Frag}{mg:Str->Option Value}{base:Heap}{N ps:List Str}{qual:Str}{scope:Scope}{f:Addr}{cd:Value}{A:Around}{outer:List Env}{s s1:Shared}{H:Hp}{E:XK}{us:List Value}{vs:List V}
 (S:Ē N ps scope)(hd:A.handled=none)(e0:vX P w K mg base A outer s H)(hl:vs.length=ps.length)(r:Vals vs us)
 (x:InCallC s s.heap.objs.size (bindL (envOfC qual scope s.heap.objs.size f cd).kindOf (ps.zip us) λ_=>none) (cellsFrom (s.heap.objs.size+1) scope.names []) (bindC (envOfC qual scope s.heap.objs.size f cd).kindOf (ps.zip us) λ_=>none) s1) :
 Inv (oJ CX P w K mg base N qual scope f cd A outer s H E) [] (start N vs) H s1:=by
 have hpl:ps.length<=N.length:=by have:=congrArg List.length S.pre;rw[List.length_take] at this;omega
 obtain⟨h1,tk,rfl,hk⟩:=x.done
 have Yt:∀b:Addr,b∉(oJ CX P w K mg base N qual scope f cd A outer s H E).ex:=λb z=>absurd (show b∈([]:List Addr) from z) (by simp)
 refine⟨⟨e0.mod,S.kind,rfl,rfl,Nat.le_refl _,λy z c h1 h2=>?_,λy hy=>?_,λy c _ h=>?_,λ_=>hd,Around.frames_deeper e0.frames,.inr ⟨rfl,rfl⟩,λb z=>absurd z (Yt b),e0.bs,e0.Hz,λb _ _=>Yt b,λb z=>absurd z (Yt b),e0.lC,e0.Sd,e0.tb⟩,
  rfl,e0.bare,Un.kept hk,⟨_,x.toInCall.ns,λi y v h1 h2 h3=>?_⟩,λy c h=>⟨_,x.cell y c h⟩,e0.hok.fresh (Nat.le_refl _),λy c h=>?_,λp hp=>absurd (show p∈([]:List (Addr×Obj)) from hp) (by simp),e0.hok.kept hk,?_⟩
 ·exact name_of_addr x.apart (PySem.mem_of_lookup h1) (PySem.mem_of_lookup h2)
 ·have hy:scope.names.lookup y=some .cell\/scope.names.lookup y=some .free:=hy
  rcases hy with hy|hy
  ·exact jg hy
  ·exact absurd rfl (S.T_ _ (PySem.mem_of_lookup hy))
 ·exact Nat.le_of_lt (x.above y c (PySem.mem_of_lookup h))
 ·have hi:i<vs.length:=by
   unfold start at h2
   by_cases hi:i<vs.length
   ·exact hi
   ·rw[List.getElem?_append_right (by simpa using hi)] at h2
    rw[List.getElem?_replicate] at h2
    split at h2<;>cases h2
  have ha:vs[i]?=some v:=by
   unfold start at h2
   rw[List.getElem?_append_left (by simpa using hi),List.getElem?_map] at h2
   cases e:vs[i]? with
   |none=>rw[e] at h2;cases h2
   |some a=>rw[e] at h2;cases h2;rfl
  obtain⟨u,hu,rv⟩:=r.get ha
  have hp:ps[i]?=some y:=by
   rw[<-S.pre,List.getElem?_take_of_lt (by omega)];exact h1
  have ndP:ps.Nodup:=by rw[<-S.pre];exact S.nd.sublist (List.take_sublist _ _)
  refine⟨u,rv,?_⟩
  rcases S.par y (List.mem_of_getElem? hp) with k|k
  ·exact .inl ⟨k,pB ndP hp hu k⟩
  ·obtain⟨c,e⟩:=jg (n:=s.heap.objs.size+1) k
   refine .inr ⟨.inl k,c,e,?_⟩
   have q:=x.cell y c e
   rw[pC ndP hp hu (by show scope.names.lookup y≠_;rw[k];decide)] at q
   exact q
 ·exact e0.hok.fresh (Nat.le_of_lt (x.above y c (PySem.mem_of_lookup h)))
 ·unfold start
  show _=N.length
  rw[List.length_append,List.length_map,List.length_replicate]
  omega
def Ci{CX:jF}{P:Program}{w:World}{K:PySem.W.Frag}{mg:Str->Option Value}{base:Heap}{k:Nat}{f:Addr}{name qual:Str}{params:Arguments}{body:List Stmt}{scope:Scope}{dV kV doc pm cdv ct oc:Value}{an od:Option Addr}
 {osl:Array (Option Value)}{N ps:List Str}{sp:Sp}(lk:K.lookup f=some ⟨oc,od,.func (PySem.W.fnOf name qual params body scope dV kV doc pm an cdv ct),osl⟩)(hcd:PySem.W.codeIn K cdv qual=true)(S:Ē N ps scope)
 (len:∀vs H Q E,sp vs H Q E->vs.length=ps.length)
 (hbody:∀(A:Around) (outer:List Env) (s:Shared) (H:Hp) (vs:List V) (Q:VK) (E:XK),Ś k (A.deeper (envOfC qual scope s.heap.objs.size f cdv))→sp vs H Q E→
   ∃t,gZ (oJ CX P w K mg base N qual scope f cdv A outer s H E) body t/\t {nx:=λ_ H'=>Q .non H',rt:=Q} (start N vs) H) :
 ģ P w K mg base CX (k+1) f (PySem.W.fnOf name qual params body scope dV kV doc pm an cdv ct) ps sp:=by
 refine⟨len,λA outer s H args us vs Q E hr e0 hb r hsp=>?_⟩
 have hl:=len _ _ _ _ hsp
 have KX:K.In s.heap:=e0.mod.kin.keeps λb o e=>(e0.bs b o e).1
 have lim:s.heap.NoLimit:=e0.mod.nolimit.keeps λb o e=>(e0.bs b o e).1
 have hkind:∀y∈ps.zip us,scope.names.lookup y.1=some .local\/(scope.names.lookup y.1=some .cell/\((cellsFrom (s.heap.objs.size+1) scope.names []).lookup y.1).isSome=true):=λ⟨n,v⟩ hy=>by
  rcases S.par n (List.of_mem_zip hy).1 with q|q
  ·exact .inl q
  ·exact .inr ⟨q,PySem.W.cellsFrom_some _ _ _ (.inl q)⟩
 refine codeAny_call_function hr.depth (KX _ _ lk) rfl S.co S.gen rfl (PySem.W.codeRec_of KX hcd) (hb _ _ _ _ ?_)
 refine wpAny_newFunctionEnv_cells S.kind hkind λenv he s1 x=>?_
 subst he
 refine⟨lim.keeps x.toInCall.keep,codeAny_func ?_⟩
 obtain⟨t,ht,hq⟩:=hbody A outer s H vs Q E (hr.deeper _) hsp
 have I:Inv (oJ CX P w K mg base N qual scope f cdv A outer s H E) [] (start N vs) H s1:=Al S hr.hd e0 hl r x
 refine wpAny_mono (ht [] s1 (start N vs) H _ I hq) (λfl s' hs=>?_) λe s' hs=>hs
 have fin:∀{σ':St} {H':Hp} {v:V} {u:Value},Inv (oJ CX P w K mg base N qual scope f cdv A outer s H E) [] σ' H' s'->RelV v u->Q v H'->CE outer P w H s Q u s':=
  fun{σ' H' v u} J rv q=>⟨v,H',J.os,J.bare,J.base,J.hok,rv,q⟩
 cases fl with
 |ret u=>
  obtain⟨v,σ',H',J,rv,q⟩:=hs
  exact fin J rv q
 |next=>
  obtain⟨σ',H',J,q⟩:=hs
  exact fin (v:=V.non) (u:=Value.none) J rfl q
 |brk=>
  obtain⟨_,_,_,q⟩:=hs
  exact False.elim q
 |cont=>
  obtain⟨_,_,_,q⟩:=hs
  exact False.elim q
end L2
namespace L2
open PySem PySem.Spec PyProof.Rows
section
variable{X:Cx}{x:Str}{p pos:Pos}{e:Expr}{es:List Expr}{t:TA}{id T:String}{r:List V->Hp->VK->Prop}
def tCB(r:List V->Hp->VK->Prop)(t:TA):TE:=λσ H Q=>t σ H λvs H1=>r vs H1 Q
def Cj(hc:ň X (.builtin id) r)(hg:Gl X x)(hm:X.mg x=none)(hv:bootBuiltins x=some (.builtin id))(ha:PA X (e::es) t)(hn:x≠ "__name__" := by decide)(hdb:(x== ("__debug__" :Str))=false:=by decide)
 (he:starEach (e::es) X.env=(false,eval e X.env)::starEach es X.env:=by rfl)(hpl:(backTo pos (starEach es X.env)).any (·.1)=false:=by rfl):PE X (.Call (.Name x p) (e::es) [] pos) (tCB r t):=by
 intro pins s σ H Q I h
 refine wpAny_Call_Name_kw (fG I hg hm hv ?_ hn hdb)
 exact PyProof.Rows.callWith_builtin1 (ŏ (ha pos pins s σ H _ I h) λus s1 ⟨vs,H1,I1,r1,q1⟩=>hc pins s1 σ H1 vs us Q I1 r1 q1) he hpl
def pD(hc:ň X (.type T) r)(hg:Gl X x)(hm:X.mg x=none)(hv:bootBuiltins x=some (.type T))(ha:PA X (e::es) t)(hn:x≠ "__name__" := by decide)(hdb:(x== ("__debug__" :Str))=false:=by decide)
 (he:starEach (e::es) X.env=(false,eval e X.env)::starEach es X.env:=by rfl)(hpl:(backTo pos (starEach es X.env)).any (·.1)=false:=by rfl):PE X (.Call (.Name x p) (e::es) [] pos) (tCB r t):=by
 intro pins s σ H Q I h
 refine wpAny_Call_Name_kw (fG I hg hm hv ?_ hn hdb)
 exact PyProof.Rows.callWith_type1 (ŏ (ha pos pins s σ H _ I h) λus s1 ⟨vs,H1,I1,r1,q1⟩=>hc pins s1 σ H1 vs us Q I1 r1 q1) he hpl
end
end L2
namespace HT
open PySem PyProof.Rows
section
open PySem.SeqAt
open PySem.AutoSeq1 (wpAny_loadPart')
open PySem.MeetsSeq PySem.MeetsSeq2 PySem.MeetsSeq3
end
section
variable{prog:Program}{w:World}{A:Around}{E:Value->Shared->Prop}{s:Shared}
def fJ(n d:Nat):Option Int->Nat
 |none=>d
 |some v=>if v<0 then(v+(n:Int)).toNat else min v.toNat n
def yN(n d k:Nat):fJ n d (some (k:Int))=min k n:=by
 show(if(k:Int)<0 then((k:Int)+(n:Int)).toNat else min (k:Int).toNat n)=min k n
 rw[if_neg (by omega),Int.toNat_natCast]
def Ck(n d:Nat)(hd:d<=n)(o:Option Int):fJ n d o<=n:=by
 cases o with
 |none=>exact hd
 |some v=>
  show(if v<0 then(v+(n:Int)).toNat else min v.toNat n)<=n
  by_cases hv:v<0
  ·rw[if_pos hv];omega
  ·rw[if_neg hv];exact Nat.min_le_right _ _
end
end HT
namespace L2
open PySem PySem.Spec PyProof.Rows
abbrev TO:=St->Hp->(Option Int->Hp->Prop)->Prop
def PO(X:Cx)(e:Option Expr)(t:TO):Prop:=
 ∀(pins:List (Addr×Obj)) (s:Shared) (σ:St) (H:Hp) (Q:Option Int->Hp->Prop),Inv X pins σ H s->t σ H Q->
  wpAny (model X.prog X.w) X.A (evalPart e X.env) (λu s'=>∃o H',Inv X pins σ H' s'/\IsPart u o/\Q o H') X.xe s
def Iv:TO:=λ_ H Q=>Q none H
section
variable{X:Cx}{e:Expr}{te:TE}{lo hi:Option Expr}{tl th:TO}{pos p2:Pos}
def Iw:PO X none Iv:=by
 intro pins s σ H Q I h
 rw[evalPart_none]
 exact wpAny_pure ⟨none,H,I,.none,h⟩
def yO(X:Cx)(r:V->Option Int->Option Int->Hp->VK->Prop):Prop:=
 ∀(pins:List (Addr×Obj)) (s:Shared) (σ:St) (H:Hp) (x:V) (v vl vu:Value) (lo hi:Option Int) (sl:Addr) (Q:VK),Inv X pins σ H s->RelV x v->s.heap.IsSliceOf sl vl vu .none->IsPart vl lo->IsPart vu hi->r x lo hi H Q->
  ∃T id,typeLookup (.type T) "__getitem__" =pure (some (.builtin id))/\s.TypeIs v T/\wpAny (model X.prog X.w) X.A (getItem v (.ref sl)) (EP X pins σ Q) X.xe s
def yO.or{r r':V->Option Int->Option Int->Hp->VK->Prop}(h:yO X r)(h':yO X r'):yO X (λx lo hi H Q=>r x lo hi H Q\/r' x lo hi H Q):=by
 intro pins s σ H x v vl vu lo hi sl Q I rx hs pl pu q
 rcases q with q|q
 ·exact h pins s σ H x v vl vu lo hi sl Q I rx hs pl pu q
 ·exact h' pins s σ H x v vl vu lo hi sl Q I rx hs pl pu q
def tSl(r:V->Option Int->Option Int->Hp->VK->Prop)(te:TE)(tl th:TO):TE:=λσ H Q=>te σ H λx H1=>tl σ H1 λl H2=>th σ H2 λu H3=>r x l u H3 Q
def Cm{r:V->Option Int->Option Int->Hp->VK->Prop}(hr:yO X r)(he:PE X e te)(hl:PO X lo tl)(hu:PO X hi th):PE X (.Subscript e (.Slice lo hi none p2) pos) (tSl r te tl th):=by
 intro pins s σ H Q I h
 refine Subscript_ (ŏ (he pins s σ H _ I h) λv s1 ⟨x,H1,I1,r1,q1⟩=>?_)
 refine wpAny_Slice (ŏ (hl pins s1 σ H1 _ I1 q1) λvl s2 ⟨l,H2,I2,pl,q2⟩=>ŏ (hu pins s2 σ H2 _ I2 q2) λvu s3 ⟨u,H3,I3,pu,q3⟩=>?_)
 rw[evalPart_none]
 refine wpAny_pure ?_
 have I4:Inv X pins σ H3 {s3 with heap:=s3.heap.push {cls:=.type "slice",data:=.fields #[vl,vu,.none]}}:=I3.kept (t':=s3.toks) λb ob q=>Heap.get?_push_of_some _ q
 obtain⟨T,id,hT,ht,hg⟩:=hr pins {s3 with heap:=s3.heap.push {cls:=.type "slice",data:=.fields #[vl,vu,.none]}} σ H3 x v vl vu l u s3.heap.objs.size Q I4 r1 (Heap.IsSliceOf.new ..) pl pu q3
 show wpAny (model X.prog X.w) X.A (subscriptTail e (.Slice lo hi none p2) v (.ref s3.heap.objs.size)) (EP X pins σ Q) X.xe {s3 with heap:=s3.heap.push {cls:=.type "slice",data:=.fields #[vl,vu,.none]}}
 exact tail_any (ops:=[.ref s3.heap.objs.size,v]) ht hT hg (by with_unfolding_all rfl)
def tW(xs:List V)(lo hi:Option Int):List V:=(xs.drop (HT.fJ xs.length 0 lo)).take (HT.fJ xs.length xs.length hi-HT.fJ xs.length 0 lo)
def tX(xs:List V)(lo hi:Option Int):(tW xs lo hi).length<=xs.length:=by
 unfold tW
 rw[List.length_take,List.length_drop]
 omega
end
end L2
namespace L2
open PySem PySem.Spec PyProof.Rows
def HD(n:Nat)(i:Int):Option Nat:=if 0<=i then(if i<n then some i.toNat else none) else if -(n:Int)<=i then some (i+n).toNat else none
def mD{α:Type}(xs:List α)(i:Int):Option α:= (HD xs.length i).bind λj=>xs[j]?
def Iz{n:Nat}{i:Int}{j:Nat}(h:HD n i=some j):seqIndex? i n=some j/\j<n/\ -(n:Int)<=i/\i<n:=by
 unfold HD at h
 by_cases h0:0<=i
 ·rw[if_pos h0] at h
  by_cases h1:i<n
  ·rw[if_pos h1] at h
   have e:i.toNat=j:=Option.some.inj h
   exact⟨by rw[seqIndex_of h0 h1,e],by omega,by omega,h1⟩
  ·rw[if_neg h1] at h;cases h
 ·rw[if_neg h0] at h
  by_cases h1: -(n:Int)<=i
  ·rw[if_pos h1] at h
   have e:(i+n).toNat=j:=Option.some.inj h
   exact⟨by rw[seqIndex_neg (by omega) h1,e],by omega,h1,by omega⟩
  ·rw[if_neg h1] at h;cases h
def qH{α:Type}{xs:List α}{i:Int}{v:α}(h:mD xs i=some v):∃j,seqIndex? i xs.length=some j/\xs[j]?=some v/\j<xs.length/\ -(xs.length:Int)<=i/\i<xs.length:=by
 unfold mD at h
 cases e:HD xs.length i with
 |none=>rw[e] at h;cases h
 |some j=>
  rw[e] at h
  obtain⟨h1,h2,h3,h4⟩:=Iz e
  exact⟨j,h1,h,h2,h3,h4⟩
def lR(b:Expr):Prop:=∀o i,subscripted b false o i=operate [o,i] (getItem o i)
def vY(X:Cx)(r:R2):Prop:=
 ∀(value slice:Expr) (pins:List (Addr×Obj)) (s:Shared) (σ:St) (H:Hp) (x y:V) (v u:Value) (Q:VK),Inv X pins σ H s->RelV x v->RelV y u->r x y H Q->
  subscripted slice false v u=operate [v,u] (getItem v u)->wpAny (model X.prog X.w) X.A (subscriptTail value slice v u) (EP X pins σ Q) X.xe s
def MtR(X:Cx)(id:String)(r:V->List V->Hp->VK->Prop):Prop:=
 ∀(pins:List (Addr×Obj)) (s:Shared) (σ:St) (H:Hp) (x:V) (xs:List V) (v:Value) (us:List Value) (Q:VK),Inv X pins σ H s->RelV x v->Vals xs us->r x xs H Q->
  wpAny (model X.prog X.w) X.A (call (.builtin id) (v::us)) (EP X pins σ Q) X.xe s
section
variable{X:Cx}{a b:Expr}{ta tb:TE}{pos:Pos}
def vY.or{r r':R2}(h:vY X r)(h':vY X r'):vY X (λx y H Q=>r x y H Q\/r' x y H Q):=by
 intro value slice pins s σ H x y v u Q I rx ry q hs
 rcases q with q|q
 ·exact h value slice pins s σ H x y v u Q I rx ry q hs
 ·exact h' value slice pins s σ H x y v u Q I rx ry q hs
def Yu{r:R2}(hr:vY X r)(ha:PE X a ta)(hb:PE X b tb)(hs:lR b):PE X (.Subscript a b pos) (XH r ta tb):=by
 intro pins s σ H Q I h
 exact Subscript_ (Te ha hb I h λv u s2 x y H2 I2 rx ry q=>hr a b pins s2 σ H2 x y v u Q I2 rx ry q (hs _ _))
def Yw(K:PySem.W.Frag):R2:=λx y H Q=>∃p xs i v,x=.ref p/\y=.int i/\Ÿ K H p xs/\mD xs i=some v/\Q v H
def Yx(K:PySem.W.Frag):R2:=λx y H Q=>∃p xs i v,x=.ref p/\y=.int i/\fH K H p xs/\mD xs i=some v/\Q v H
def Yy:R2:=λx y H Q=>∃z i c,x=.str z/\y=.int i/\z.length<=sizeLine/\mD z.cps.toList i=some c/\Q (.str ⟨#[c]⟩) H
def IK:vY X (Yw X.K):=by
 intro value slice pins s σ H x y v u Q I rx ry h hs
 obtain⟨p,xs,i,z,rfl,rfl,hq,he,q⟩:=h
 cases rx
 obtain⟨t,rfl⟩:=ry
 obtain⟨its,r,pl,hz⟩:=I.list hq
 obtain⟨j,h1,h2,h3,h4,h5⟩:=qH he
 obtain⟨w,ew,Yz⟩:=r.get h2
 have hl:=r.length
 have hn:=mq
 have fin:EP X pins σ Q w s:=⟨z,H,I,Yz,q⟩
 by_cases h0:0<=i
 ·have hj:i.toNat=j:=by
   rw[seqIndex_of h0 h5] at h1
   exact Option.some.inj h1
  exact item_listR pl.isList h0 (by omega) (by rw[hj];simpa using ew) fin hs
 ·have hj:(i+(its.toArray.size:Int)).toNat=j:=by
   rw[seqIndex_neg (by omega) h4] at h1
   rw[List.size_toArray,<-hl]
   exact Option.some.inj h1
  exact subscriptTail_builtinR (x:=w) pl.isList.typeIs slot_list_getitem.lookup
   (wpAny_getItem_list_neg (Q:=λr s'=>r=w/\EP X pins σ Q r s') pl.isList (by omega) (by rw[List.size_toArray]<;>omega) (by omega) (by rw[hj];simpa using ew) ⟨rfl,fin⟩) hs
def Ua:vY X (Yx X.K):=by
 intro value slice pins s σ H x y v u Q I rx ry h hs
 obtain⟨p,xs,i,z,rfl,rfl,hq,he,q⟩:=h
 cases rx
 obtain⟨t,rfl⟩:=ry
 obtain⟨its,r,pl,hz⟩:=I.tuple hq
 obtain⟨j,h1,h2,h3,h4,h5⟩:=qH he
 obtain⟨w,ew,Yz⟩:=r.get h2
 have hl:=r.length
 have hn:=mq
 have fin:EP X pins σ Q w s:=⟨z,H,I,Yz,q⟩
 exact subscriptTail_builtinR (x:=w) pl.typeIs slot_tuple_getitem.lookup
  (getItem_tuple (j:=j) (Q:=λr s'=>r=w/\EP X pins σ Q r s') pl (by omega) (by omega) (by rw[List.size_toArray,<-hl];exact h1) (by simpa using ew) ⟨rfl,fin⟩) hs
def Ub:vY X Yy:=by
 intro value slice pins s σ H x y v u Q I rx ry h hs
 obtain⟨z,i,c,rfl,rfl,hz,he,q⟩:=h
 obtain⟨t,rfl⟩:=rx
 obtain⟨t',rfl⟩:=ry
 obtain⟨j,h1,h2,h3,h4,h5⟩:=qH he
 have hl:z.cps.toList.length=z.length:=by simp[Str.length]
 rw[hl] at h1 h4 h5
 have hn:=mq
 exact tail_any (typeIs_str s z t) slot_str_getitem.lookup (getItem_str (c:=c) (by
  have e1:decide (i < -(2 ^ 63:Int))=false:=decide_eq_false (by omega)
  have e2:decide (i >= 2 ^ 63)=false:=decide_eq_false (by omega)
  rw[e1,e2,Bool.or_false]) (by rw[h1];simpa using h2) ⟨.str ⟨#[c]⟩,H,I.tok _,⟨_,rfl⟩,q⟩) hs
def rIx(K:PySem.W.Frag):R2:=λx y H Q=>Yw K x y H Q\/Yx K x y H Q\/Yy x y H Q
def Uc:vY X (rIx X.K):=IK.or (Ua.or Ub)
def qI(lo hi:Option Int)(n:Nat):(sliceBounds lo hi none n).1=((HT.fJ n 0 lo:Nat):Int)/\(sliceBounds lo hi none n).2.1=((HT.fJ n n hi:Nat):Int)/\(sliceBounds lo hi none n).2.2=1:=by
 refine⟨?_,?_,rfl⟩
 ·cases lo with
  |none=>simp[sliceBounds,HT.fJ]
  |some i=>
   simp only[sliceBounds,HT.fJ,Option.getD_none,show(1:Int)>0 by decide,if_true]
   by_cases h:i<0
   ·simp only[h,if_true]<;>omega
   ·simp only[h,if_false]<;>omega
 ·cases hi with
  |none=>simp[sliceBounds,HT.fJ]
  |some i=>
   simp only[sliceBounds,HT.fJ,Option.getD_none,show(1:Int)>0 by decide,if_true]
   by_cases h:i<0
   ·simp only[h,if_true]<;>omega
   ·simp only[h,if_false]<;>omega
def oK(its:List Value)(lo hi:Option Int):slicePick its.toArray lo hi none=((its.drop (HT.fJ its.length 0 lo)).take (HT.fJ its.length its.length hi-HT.fJ its.length 0 lo)).toArray:=by
 obtain⟨h1,h2,h3⟩:=qI lo hi its.toArray.size
 unfold slicePick
 rw[h1,h2,h3]
 simp only[sliceRange_one,pick_run,List.size_toArray]<;>rfl
def Zck(K:PySem.W.Frag):V->Option Int->Option Int->Hp->VK->Prop:=λx lo hi H Q=>∃a xs,x=.ref a/\Ÿ K H a xs/\∀p,H p=none->Q (.ref p) (upd H p (.lst (tW xs lo hi)))
def IV:yO X (Zck X.K):=by
 intro pins s σ H x v vl vu lo hi sl Q I rx hs pl pu h
 obtain⟨a,xs,rfl,hx,q⟩:=h
 cases rx
 obtain⟨its,r,ht,hz⟩:=I.list hx
 have hlen:=r.length
 refine⟨"list",_,slot_list_getitem.lookup,ht.isList.typeIs,?_⟩
 refine wpAny_getItem_list_slice ht.isList hs pl pu .none (by simp) ?_ (by rw[List.size_toArray]<;>omega)
 rw[oK,<-hlen]
 refine⟨.ref s.heap.objs.size,_,I.laid (t':=s.toks) (o:=.lst (tW xs lo hi)) (λb ob q=>Heap.get?_push_of_some _ q) (Nat.le_refl _) ?_,rfl,q _ (I.hok.fresh (Nat.le_refl _))⟩
 exact⟨Nat.le_trans (tX xs lo hi) hz,_,0,(r.drop (HT.fJ xs.length 0 lo)).take (HT.fJ xs.length xs.length hi-HT.fJ xs.length 0 lo),Heap.get?_push_size _ rfl⟩
def qJ:ň X (.type "list") (λxs H Q=>∃p ys,xs=[.ref p]/\(Ÿ X.K H p ys\/fH X.K H p ys)/\∀l,H l=none->Q (.ref l) (upd H l (.lst ys))):=by
 intro pins s σ H xs us Q I r h
 obtain⟨p,ys,rfl,hq,q⟩:=h
 obtain⟨u,rfl,rx⟩:=vals1 r
 cases rx
 have fin:∀(its:List Value),Vals ys its->ys.length<=sizeLine->∀(h':Heap) (c':Nat),(∀b o',s.heap.get? b=some o'->h'.get? b=some o')->
  h'.get? s.heap.objs.size=some {cls:=.type "list",dict:=none,data:=.seq its.toArray c',slots:=#[]}->EP X pins σ Q (.ref s.heap.objs.size) {s with heap:=h'}:=λits r' hz h' c' kp e=>
  ⟨.ref s.heap.objs.size,_,I.laid (t':=s.toks) kp (Nat.le_refl _) (show aU X.prog X.w _ h' _ (.lst ys) from⟨hz,its,c',r',e⟩),rfl,q _ (I.hok.fresh (Nat.le_refl _))⟩
 rcases hq with hq|hq
 ·obtain⟨its,r',pl,hz⟩:=I.list hq
  have hlen:=r'.length
  obtain⟨o,ho,hc,n,hd⟩:=pl.isList
  exact call_list_seq p (.inl rfl) ho hc hd (λh' c' kp e=>fin its r' hz h' c' kp e) (by simp only[List.size_toArray]<;>omega)
 ·obtain⟨its,r',pl,hz⟩:=I.tuple hq
  have hlen:=r'.length
  obtain⟨o,ho,hc,n,hd⟩:=pl
  exact call_list_seq p (.inr rfl) ho hc hd (λh' c' kp e=>fin its r' hz h' c' kp e) (by simp only[List.size_toArray]<;>omega)
def oM:ň X (.type "tuple") (λxs H Q=>∃p ys,xs=[.ref p]/\((Ÿ X.K H p ys/\∀l,H l=none->Q (.ref l) (upd H l (.tup ys)))\/(fH X.K H p ys/\Q (.ref p) H))):=by
 intro pins s σ H xs us Q I r h
 obtain⟨p,ys,rfl,h⟩:=h
 obtain⟨u,rfl,rx⟩:=vals1 r
 cases rx
 rcases h with⟨hq,q⟩|⟨hq,q⟩
 ·obtain⟨its,r',pl,hz⟩:=I.list hq
  have hlen:=r'.length
  refine call_tuple_list pl.isList (λh' kp=>?_) (by simp only[List.size_toArray]<;>omega)
  have I1:Inv X pins σ H {s with heap:=h'}:=I.kept (t':=s.toks) kp
  have I2:Inv X pins σ (upd H h'.objs.size (.tup ys)) {s with heap:=h'.push {cls:=.type "tuple",data:=.seq its.toArray}}:=
   I1.laid (t':=s.toks) (λb o e=>Heap.get?_push_of_some _ e) (Nat.le_refl _) (show aU X.prog X.w _ _ _ (.tup ys) from⟨hz,its,r',IsTup.new _ _⟩)
  exact⟨.ref h'.objs.size,_,I2,rfl,q _ (I1.hok.fresh (Nat.le_refl _))⟩
 ·obtain⟨its,r',pl,hz⟩:=I.tuple hq
  exact call_tuple_same pl ⟨.ref p,H,I,rfl,q⟩
def tyV(K:PySem.W.Frag)(T:String)(x:V)(H:Hp):Prop:=match x with
 | .str _=>T= "str"
 | .int _=>T= "int"
 | .ref p=>(T= "list" ∧∃xs,Ÿ K H p xs)∨(T= "tuple" ∧∃o,K.lookup p=some o∧o.cls=.type "tuple" ∧o.dict=none)∨
     (T= "dict" /\((∃kvs,H p=some (.dK kvs))\/∃kvs,H p=some (.dT kvs)))\/(T= "set" /\∃S n,H p=some (.set S n))
 |_=>False
def Ud{pins:List (Addr×Obj)}{σ:St}{H:Hp}{s:Shared}{T:String}{x:V}{v:Value}(I:Inv X pins σ H s)(r:RelV x v)(ty:tyV X.K T x H) :
 s.TypeIs v T/\∀a,v=.ref a->∃ob,s.heap.get? a=some ob/\ob.dict=none:=by
 cases x with
 |str z=>
  obtain⟨t,rfl⟩:=r
  cases(show T= "str" from ty)
  exact⟨typeIs_str s z t,λ_ e=>nomatch e⟩
 |int i=>
  obtain⟨t,rfl⟩:=r
  cases(show T= "int" from ty)
  exact⟨typeIs_int s i t,λ_ e=>nomatch e⟩
 |ref p=>
  cases r
  rcases ty with⟨rfl,xs,hq⟩|⟨rfl,o,hk,hc,hd⟩|⟨rfl,hk⟩|⟨rfl,S,n,hk⟩
  ·obtain⟨its,_,pl,_⟩:=I.list hq
   refine⟨pl.isList.typeIs,λa e=>?_⟩
   cases e
   obtain⟨o,n,e,c,hd,_⟩:=pl
   exact⟨o,e,hd⟩
  ·refine⟨⟨o,I.Aa p o hk,hc⟩,λa e=>?_⟩
   cases e
   exact⟨o,I.Aa _ o hk,hd⟩
  ·have z:∃o,s.heap.get? p=some o∧o.ExactDict:=by
    rcases hk with⟨kvs,hk⟩|⟨kvs,hk⟩
    ·obtain⟨_,_,_,_,o,_,_,e,ex,_⟩:=I.hok p _ hk
     exact⟨o,e,ex⟩
    ·obtain⟨_,_,_,_,o,_,_,e,ex,_⟩:=I.hok p _ hk
     exact⟨o,e,ex⟩
   obtain⟨o,e,ex⟩:=z
   refine⟨⟨o,e,ex.1⟩,λa e2=>?_⟩
   cases e2
   exact⟨o,e,ex.2.1⟩
  ·obtain⟨o,_,_,_,e,ex,_⟩:=I.hok p _ hk
   refine⟨⟨o,e,ex.1⟩,λa e2=>?_⟩
   cases e2
   exact⟨o,e,ex.2.1⟩
 |_=>exact False.elim ty
def tBM(K:PySem.W.Frag)(T:String)(r:V->List V->Hp->VK->Prop)(to:TE)(t:TA):TE:=λσ H Q=>to σ H λx H1=>tyV K T x H1/\t σ H1 λxs H2=>r x xs H2 Q
variable{o e:Expr}{es:List Expr}{to:TE}{t:TA}{name:Str}{apos cpos:Pos}{T id:String}{r:V->List V->Hp->VK->Prop}
def g_(pa:PlainAttrs T)(slot:Slot T name id)(hty:typeOf (.builtin id)=pure (.type "method_descriptor"))(hm:MtR X id r)(ho:PE X o to)(ha:PA X (e::es) t)
 (hbase:attributeBase o name X.env (eval o X.env)=eval o X.env:=by rfl)
 (hfew:((backTo cpos (starEach (e::es) X.env)).all (fun x=>!x.1) && (backToKw cpos (keywordEach [] X.env)).all (fun x=>x.1.isSome)
   && decide ((e::es).length+([]:List Keyword).length+(if([]:List Keyword).isEmpty then 0 else 1)<30))=true:=by rfl)
 (hline:(apos.endLine== cpos.line)=true:=by rfl)(hs:starEach (e::es) X.env=(false,eval e X.env)::starEach es X.env:=by rfl)(hplain:(backTo cpos (starEach es X.env)).any (·.1)=false:=by rfl) :
 PE X (.Call (.Attribute o name apos) (e::es) [] cpos) (tBM X.K T r to t):=by
 intro pins s σ H Q I h
 refine wpAny_Call_method_late hbase hfew hline rfl (ŏ (ho pins s σ H _ I h) λv s1 ⟨x,H1,I1,r1,ty,q1⟩=>?_)
 obtain⟨h1,h2⟩:=Ud I1 r1 ty
 refine⟨T,id,pa,slot,hty,h1,h2,?_⟩
 have hA:=ha cpos pins s1 σ H1 _ I1 q1
 rw[hs] at hA ⊢
 refine Calls.callWith_builtin (by show(false || (backTo cpos (starEach es X.env)).any (·.1))=false;rw[hplain]<;>rfl) (Calls.evalArgs_plain ?_)
 exact ŏ hA λus s2 ⟨vs,H2,I2,r2,q2⟩=>hm pins s2 σ H2 x vs v us Q I2 r1 r2 q2
end
end L2
namespace L2
open PySem PySem.Spec PyProof.Rows
def MtM(X:Cx)(id:String)(r:V->List V->Hp->VK->Prop):Prop:=
 ∀(pins:List (Addr×Obj)) (s:Shared) (σ:St) (H:Hp) (x:V) (xs:List V) (v:Value) (us:List Value) (Q:VK),Inv X pins σ H s->RelV x v->Vals xs us->r x xs H Q->
  wpAny (model X.prog X.w) X.A (call (.builtin id) (v::us)) (EP X pins σ Q) X.xe s
theorem Vals.one:∀{x:V} {us:List Value},Vals [x] us->∃u,us=[u]/\RelV x u
 |_,_,.cons r .nil=>⟨_,rfl,r⟩
section
variable{X:Cx}{pins:List (Addr×Obj)}{σ:St}{H:Hp}{s:Shared}{l b:Addr}{xs ys zs:List V}
def Inv.Zcl{its its':List Value}{n:Nat}{f:Array Value->Array Value}{t':Nat}(I:Inv X pins σ H s)(hH:H l=some (.lst xs))
 (e:s.heap.get? l=some {cls:=.type "list",data:=.seq its.toArray n})(hf:f its.toArray=its'.toArray)(hv:Vals ys its')(hz:ys.length<=sizeLine) :
 Inv X pins σ (upd H l (.lst ys)) {s with heap:=s.heap.update l (Obj.mapSeq f),toks:=t'}:=by
 have q:=PySem.IsL.update e f
 rw[hf] at q
 refine I.write (x:=l) (e:=l) (by rw[hH];exact trivial) (.inl rfl) (λb' u hb hu=>(Heap.get?_update_other s.heap (Obj.mapSeq f) (Ne.symm hb)).trans hu) ⟨_,q⟩ ?_
 exact⟨hz,its',_,hv,q⟩
def Inv.Zcm{its:List Value}{t':Nat}(I:Inv X pins σ H s)(hv:Vals ys its)(hz:ys.length<=sizeLine) :
 Inv X pins σ (upd H s.heap.objs.size (.lst ys)) {s with heap:=s.heap.push {cls:=.type "list",data:=.seq its.toArray},toks:=t'}:=
 I.laid (λ_ _ q=>Heap.get?_push_of_some _ q) (Nat.le_refl _) ⟨hz,its,0,hv,Heap.get?_push_size _ rfl⟩
theorem Inv.fresh(I:Inv X pins σ H s):H s.heap.objs.size=none:=I.hok.fresh (Nat.le_refl _)
def Inv.Zcn(I:Inv X pins σ H s)(hH:H l=some (.lst xs)):xs.length<=sizeLine/\∃(its:List Value) (n:Nat),Vals xs its/\xs.length=its.length/\s.heap.get? l=some {cls:=.type "list",data:=.seq its.toArray n}:=by
 obtain⟨z,its,n,r,e⟩:=I.hok l _ hH
 exact⟨z,its,n,r,r.length,e⟩
end
section
variable{X:Cx}
def yP:V->List V->Hp->VK->Prop:=λx vs H Q=>∃l xs y,x=.ref l/\vs=[y]/\H l=some (.lst xs)/\xs.length<sizeLine/\Q .non (upd H l (.lst (xs ++ [y])))
def Ņ:MtM X "list.append" yP:=by
 intro pins s σ H x vs v us Q I rx rv h
 obtain⟨l,xs,y,rfl,rfl,hH,hz,q⟩:=h
 cases rx
 obtain⟨u,rfl,ru⟩:=rv.one
 obtain⟨z,its,n,r,hl,e⟩:=I.Zcn hH
 refine call_meets F.slot_list_append ⟨_,e,rfl⟩ F.entry_list_append (F.args_list_append_2 _ _) (PySem.list_append l its.toArray n u (by rw[List.size_toArray];omega)) ⟨e,?_⟩
 refine⟨.non,_,I.Zcl (its':=its ++ [u]) hH e (by simp) (r.append (.cons ru .nil)) ?_,rfl,q⟩
 rw[List.length_append,List.length_singleton]
 omega
end
section
variable{prog:Program}{w:World}{A:Around}{E:Value->Shared->Prop}{s:Shared}
end
section
variable{X:Cx}
end
end L2
namespace Att
open PySem PySem.W PySem.Calls PyProof.Rows
def lE{P:Params}{h:Heap}:∀(ns:List Int) (vs:List Value),WellAll P h vs (ns.map WData.int)->IntsAre vs ns:=by
 intro ns
 induction ns with
 |nil=>
  intro vs w
  rw[List.map_nil] at w
  cases w
  exact .nil
 |cons n ns ih=>
  intro vs w
  rw[List.map_cons] at w
  cases w with
  |cons a b=>
   cases a
   exact .cons _ _ (ih _ b)
def Am{l:OpenLaw}{n:Nat}(hn:l.most=some n){P:Params}{h:Heap}{args:List WData}{vals:List Value}
 (hpre:l.row.toRowW.claim.pre args=true)(hwl:WellAll P h vals args) :
 ∃a vs ns,vals=[Value.ref a]/\args=[WData.list (ns.map WData.int)]/\h.get? a=some {cls:=.type "list",data:=.seq vs.toArray}/\IntsAre vs ns/\ns.length<=n:=by
 have hsh:WShape.hasAll [] args [.list .int]=true:=(pre_splitW hpre).1
 have hc:l.pre.holds [] {args:=args}=true:=(pre_splitW hpre).2
 obtain⟨d,r,rfl,h1,h2⟩:=hasAllW_cons hsh
 obtain rfl:=hasAllW_nil h2
 obtain⟨xs,rfl,h3⟩:=hasW_list h1
 obtain⟨ns,rfl⟩:=items_int h3
 have hlen:ns.length<=n:=by
  unfold OpenLaw.pre at hc
  have h4:(WTm.not (.lt (.lit (.int (n:Int))) (.len (.arg 0)))).holds [] {args:=[.list (ns.map .int)]}=true:=by
   have h4:=(holds_andW hc).1
   rw[hn] at h4
   exact h4
  have h5:=condW_of h4 (w_not (w_lt w_lit (w_len_list (w_arg rfl))))
  rw[List.length_map] at h5
  refine Nat.le_of_not_lt λq=>?_
  have q':(n:Int)<((ns.length:Nat):Int):=by omega
  first
   |(rw[decide_eq_true q'] at h5;exact absurd h5 (by decide))
   |(simp at h5;omega)
 cases hwl with
 |cons w1 w2=>
  cases w2
  cases w1 with
  |list ho hall=>exact⟨_,_,ns,rfl,rfl,ho,lE ns _ hall,hlen⟩
def Ao(l:OpenLaw)(args:List WData):l.row.toRowW.claim.post args (.bool true) args=true:=
 postW_of (r:=l.row.toRowW) (X:=(true== true))
  (show WShape.has [] (.bool true) .bool=true by first|rfl|decide|simp[WShape.has,WShape.arms,WShape.armsAll])
  (show(WTm.eq .res (.lit (.bool true))).value [] {args:=args,res:=some (.bool true),after:=args}=some (.bool (true== true)) from w_eq_bool (w_res rfl) w_lit) rfl
def tY{l:OpenLaw}{n:Nat}{q:Program}{loose:List Str}{XP:(Str->Option Value)->Heap->Prop}{YP:World->Heap->Prop}{d:DefRec}
 (hn:l.most=some n)(hdf:d.params.defaults=[])
 (call:∀(w:World) (s₀ s₁:Shared) (mg mb:Str→Option Value) (fa:Addr) (o:Obj) (pm cd doc:Value) (a:Addr) (vs:List Value) (ns:List Int),
   Ground q loose [] XP w s₀ mg mb s₁.heap->YP w s₁.heap->
   s₁.heap.get? fa=some o->o.data=.func (docDef d.name d.params d.body d.scope pm cd doc)->s₁.heap.CodeRec cd d.name->mg d.name=some (.ref fa)->
   s₁.heap.get? a=some {cls:=.type "list",data:=.seq vs.toArray}->IntsAre vs ns->ns.length<=n->s₁.gens= #[]->
   codeAny (model l.prog w) callerA (.call (.ref fa) ⟨[.ref a],[]⟩) (λr s'=>r=.ok (.ret (.bool true))/\OldK s₁.heap s'.heap/\s'.os=s₁.os/\AllBare s'.gens) s₁) :
 WalkO q loose XP YP l.row.toRowW d [] (λf vs=>PySem.call f vs):=by
 intro w s₀ s₁ mg mb G Y fa o pm cd doc dV kV ho hd hcd hD hmg hg args vals as hpre hlay hrd hwl hlo
 obtain rfl:dV=.none:=Dflts.none hD hdf
 obtain rfl:kV=.none:=Dflts.noKw hD
 obtain⟨a,vs,ns,rfl,rfl,hobj,hints,hlen⟩:=Am hn hpre hwl
 refine enter_call (codeAny_mono (call w s₀ s₁ mg mb fa o pm cd doc a vs ns G Y ho (fd_plain hd) hcd hmg hobj hints hlen hg) λr s' hq=>?_)
 obtain⟨rfl,h2,h3,h4⟩:=hq
 exact⟨.inl ⟨.bool true,.bool true,[],rfl,λ_=>rfl,.bool true,Ao l _,λ_=>⟨List.Pairwise.nil,λ_ hm=>(nomatch hm)⟩⟩,h2,h3,h4⟩
section
variable{prog:Program}{w:World}{A:Around}{E:Value->Shared->Prop}{s:Shared}{K:Frag}
end
end Att
namespace L2
open PySem PySem.Spec PyProof.Rows
theorem ak:∀{vs:List Value} {ns:List Int},IntsAre vs ns->Vals (ns.map V.int) vs
 |_,_,.nil=>.nil
 |_,_,.cons n t h=>.cons ⟨t,rfl⟩ (ak h)
def Only(H:Hp):Prop:=∀b,H b=none\/(∃o xs,H b=some (.fB o (.lst xs)))\/∃q,H b=some (.gW q)
def fK(K:PySem.W.Frag):List Str->Hp
 | []=>λ_=>none
 |y::r=>λb=>match PySem.W.tabIn K y with
  |some (_,P)=>if b=P then some (.gW (bx y)) else fK K r b
  |none=>fK K r b
theorem bK{K:PySem.W.Frag}:∀{l:List Str} {b:Addr} {u:HO},fK K l b=some u->∃y c,y∈l/\PySem.W.tabIn K y=some (c,b)/\u=.gW (bx y)
 | [],_,_,h=>by cases(show(none:Option HO)=some _ from h)
 |y::r,b,u,h=>by
  have h':(match PySem.W.tabIn K y with
   |some (_,P)=>if b=P then some (.gW (bx y)) else fK K r b
   |none=>fK K r b)=some u:=h
  have rc:fK K r b=some u->∃z c,z∈y::r/\PySem.W.tabIn K z=some (c,b)/\u=.gW (bx z):=λq=>
   let ⟨z,c,h1,h2,h3⟩:=bK q
   ⟨z,c,List.mem_cons_of_mem _ h1,h2,h3⟩
  cases e:PySem.W.tabIn K y with
  |none=>rw[e] at h';exact rc h'
  |some p=>
   obtain⟨c,P⟩:=p
   rw[e] at h'
   have h2:(if b=P then some (HO.gW (bx y)) else fK K r b)=some u:=h'
   by_cases hb:b=P
   ·rw[if_pos hb] at h2
    cases h2
    exact⟨y,c,List.mem_cons_self,by rw[hb];exact e,rfl⟩
   ·rw[if_neg hb] at h2
    exact rc h2
theorem yQ{K:PySem.W.Frag}{y:Str}{c P:Addr}(e:PySem.W.tabIn K y=some (c,P)):∀{l:List Str},(∀z∈l,z=y)->y∈l->fK K l P=some (.gW (bx y))
 | [],_,h=>by cases h
 |z::r,h1,_=>by
  have hz:=h1 z List.mem_cons_self
  subst hz
  show(match PySem.W.tabIn K z with
   |some (_,Q)=>if P=Q then some (HO.gW (bx z)) else fK K r P
   |none=>fK K r P)=_
  rw[e]
  exact if_pos rfl
def Cp{P:Program}{w:World}{K:PySem.W.Frag}{mg mb:Str->Option Value}{CX:jF}{k:Nat}{fa a:Addr}{fd:FuncData}{x:Str}{sp:Sp}{s₁:Shared}{vs:List Value}{ns:List Int}
 (KX:K.In s₁.heap)(hns:s₁.heap.Ns mainGlobals mg)(hb:s₁.heap.Ns builtinsNs mb)(hbb:∀x:Str,x≠ "__name__" ->mb x=bootBuiltins x)(hlim:s₁.heap.NoLimit)(hg:s₁.gens= #[])
 (ha:s₁.heap.get? a=some {cls:=.type "list",data:=.seq vs.toArray})(hi:IntsAre vs ns)(hl:ns.length<=sizeLine)(hr:Ś k callerA)
 (F:∀base:Heap,K.In base->base.Ns mainGlobals mg->ģ P w K mg base CX k fa fd [x] sp)(hbind:∀(s:Shared) (u:Value),BindsTo s fd ⟨[u],[]⟩ [(x,u)])
 (hsp:∀H:Hp,Only H->Ÿ K H a (ns.map V.int)->sp [.ref a] H (λv _=>v=.bl true) λ_ _ _=>False)
 (YB:∀H e s',CX [] H s₁ (λ_ _ _=>False) e s'->False)
 (hnt:lams≠[]->PySem.W.noTabs K=true)(hone:∀y z,y∈lams->z∈lams->y=z)(htb:∀y c Pt,y∈lams->PySem.W.tabIn K y=some (c,Pt)->PySem.W.CodeHd s₁.heap c Pt/\s₁.heap.get? Pt=some (PySem.W.tabObj #[])/\s₁.heap.BuiltinsAt mg Pt) :
 codeAny (model P w) callerA (.call (.ref fa) ⟨[.ref a],[]⟩) (λr s'=>r=.ok (.ret (.bool true))/\OldK s₁.heap s'.heap/\s'.os=s₁.os/\AllBare s'.gens) s₁:= by
 have rv:=ak hi
 have lenV:=hi.length
 -- from an abstract heap in which nothing but the script may be tracked
 have core:∀H:Hp,Only H->Ÿ K H a (ns.map V.int)->je P w H s₁.heap->(∀b,H b≠none->b=a\/∃y c,y∈lams/\PySem.W.tabIn K y=some (c,b))->(H a≠none->K.lookup a=none)->(∀y c Pt,y∈lams->PySem.W.tabIn K y=some (c,Pt)->H Pt=some (.gW (bx y)))->
  codeAny (model P w) callerA (.call (.ref fa) ⟨[.ref a],[]⟩) (λr s'=>r=.ok (.ret (.bool true))/\OldK s₁.heap s'.heap/\s'.os=s₁.os/\AllBare s'.gens) s₁:= by
  intro H hO hS hok hA hK hT
  have lU:∀{b:Addr} {o:Obj},s₁.heap.get? b=some o->H b=none->(oG s₁.heap H).get? b=some o:=λe n=>Bu e n
  have Yt:∀{b:Addr} {o:Obj} {es:Array DictEntry} {ep:Nat},s₁.heap.get? b=some o->o.data=.dict es ep->H b=none:=fun{b o es ep} e d=>by
   cases q:H b with
   |none=>rfl
   |some u=>
    rcases hA b (by rw[q];simp) with e'|⟨y,c,hy,hty⟩
    ·subst e'
     rw[ha] at e;cases e
     have d':Data.seq vs.toArray _=Data.dict es ep:=d
     cases d'
    ·have e2:=(htb y c b hy hty).2.1
     rw[e] at e2;cases e2;cases d
  have nsK:∀{b:Addr} {m:Str->Option Value},s₁.heap.Ns b m->(oG s₁.heap H).Ns b m:=fun{b m} ⟨o,es,ep,e,d,r⟩=>⟨o,es,ep,lU e (Yt e d),d,r⟩
  have hKb:K.In (oG s₁.heap H):=λb o e=>lU (KX b o e) (by
   cases q:H b with
   |none=>rfl
   |some u=>
    rcases hA b (by rw[q];simp) with e'|⟨y,c,hy,hty⟩
    ·subst e'
     rw[hK (by rw[q];simp)] at e;cases e
    ·have e2:=(htb y c b hy hty).2.1
     rw[KX b o e] at e2
     cases e2
     have h2:=List.all_eq_true.mp (hnt (λz=>by rw[z] at hy;cases hy)) (b,_) (PySem.W.mem_of_lookupK e)
     exact absurd (show false=true from h2) Bool.false_ne_true)
  have hM:Mod K mg (oG s₁.heap H):=⟨hKb,nsK hns,⟨mb,nsK hb,hbb⟩,let ⟨mc,h1,h2⟩:=hlim;⟨mc,nsK h1,h2⟩⟩
  have hTB:TabsOk K mg (oG s₁.heap H) H:=λy c Pt hy hty=>by
   obtain⟨⟨o,us,file,tf,flags,tg,inF,text,tt,e1,r1,r2⟩,_,bm,ob,b1,b2,b3,b4,b5,b6,b7⟩:=htb y c Pt hy hty
   refine⟨⟨o,us,file,tf,flags,tg,inF,text,tt,lU e1 ?_,r1,r2⟩,hT y c Pt hy hty,bm,ob,b1,b2,b3,b4,lU b5 ?_,b6,b7⟩
   rotate_left
   ·cases q:H bm with
    |none=>rfl
    |some u=>
     rcases hA bm (by rw[q];simp) with e'|⟨z,c2,hz,htz⟩
     ·rw[e',ha] at b5;cases b5;exact absurd (Value.type.inj b6) (by decide)
     ·have e2:=(htb z c2 bm hz htz).2.1
      rw[b5] at e2;cases e2;cases b6
   cases q:H c with
   |none=>rfl
   |some u=>
    rcases hA c (by rw[q];simp) with e'|⟨z,c2,hz,htz⟩
    ·rw[e',ha] at e1;cases e1;exact absurd (Value.type.inj r1) (by decide)
    ·have e2:=(htb z c2 c hz htz).2.1
     rw[e1] at e2;cases e2;cases r1
  have e0:vX P w K mg (oG s₁.heap H) callerA [] s₁ H:=⟨rfl,hM,λb o e=>H_ e,Nat.le_of_eq (zZ _ _),trivial,λb hb=>absurd (show b∈([]:List Addr) from hb) (by simp),hok,.of_eq hg,hTB⟩
  refine codeAny_mono ((F _ hKb (nsK hns)).run callerA [] s₁ H ⟨[.ref a],[]⟩ [.ref a] [.ref a] _ _ hr e0 (hbind s₁ (.ref a)) (.cons rfl .nil) (hsp H hO hS)) λr s' h=>?_
  cases r with
  |error e=>exact(YB H e s' h).elim
  |ok fl=>
   cases fl with
   |next=>exact False.elim h
   |brk=>exact False.elim h
   |cont=>exact False.elim h
   |ret u=>
    obtain⟨v,H',os,bare,un,hok',r',q⟩:=h
    have q':v=.bl true:=q
    subst q'
    obtain rfl:u=Value.bool true:=r'
    have old:∀b o,s₁.heap.get? b=some o->(∀t,H b≠some (.gW t))->s'.heap.get? b=some o:=?_
    ·refine⟨rfl,⟨λb o e=>?_,λb o e=>?_⟩,os,bare⟩
     ·by_cases ht:∃t,H b=some (.gW t)
      ·obtain⟨t,ht⟩:=ht
       obtain⟨ps,e1,_⟩:=hok' b _ (un.lB b t ht)
       rcases hA b (by rw[ht];simp) with e'|⟨y,c,hy,hty⟩
       ·subst e'
        obtain⟨ps2,e3,_⟩:=hok b _ ht
        rw[ha] at e3;cases e3
       ·obtain⟨⟨o2,us,file,tf,flags,tg,inF,text,tt,f1,f2,f3,f4,_⟩,e2,_⟩:=htb y c b hy hty
        rw[e] at e2;cases e2
        exact .inr (.inl ⟨⟨c,o2,us,f1,f2,f3,f4⟩,rfl,#[],ps,rfl,by rw[e1];simp⟩)
      ·exact .inl (old b o e λt z=>ht ⟨t,z⟩)
     ·by_cases ht:∃t,H b=some (.gW t)
      ·obtain⟨t,ht⟩:=ht
       obtain⟨ps,e1,_⟩:=hok' b _ (un.lB b t ht)
       exact⟨_,e1⟩
      ·exact⟨o,old b o e λt z=>ht ⟨t,z⟩⟩
    intro b o e nt
    cases q:H b with
    |none=>exact un.keep b o e q (by intro z;exact absurd (show b∈([]:List Addr) from z) (by simp)) (by simp)
    |some u=>
     rcases hO b with z|⟨ob,xs,z⟩|⟨t,z⟩
     ·rw[q] at z;cases z
     rotate_left
     ·exact absurd z (nt t)
     ·have z2:=un.oE b ob _ z
      obtain⟨e1,_⟩:=hok b _ z
      obtain⟨e2,_⟩:=hok' b _ z2
      rw[e] at e1;cases e1
      exact e2
 cases hk:K.lookup a with
 |some o=>
  -- the script is one of the module's own objects
  have e:=KX a o hk
  rw[ha] at e
  cases e
  refine core (fK K lams) (λb=>?_) (.inr ⟨_,vs.toArray,_,hk,rfl,rfl,rfl,by rw[List.size_toArray,lenV];exact hl,by simpa using rv⟩) (λb u z=>?_) (λb z=>?_) (λz=>?_) λy c Pt hy hty=>yQ hty (λz hz=>hone z y hz hy) hy
  ·cases q:fK K lams b with
   |none=>exact .inl rfl
   |some u=>obtain⟨y,c,_,_,rfl⟩:=bK q;exact .inr (.inr ⟨_,rfl⟩)
  ·obtain⟨y,c,hy,hty,rfl⟩:=bK z
   exact⟨#[],(htb y c b hy hty).2.1,trivial,λpos cv z=>by cases z⟩
  ·cases q:fK K lams b with
   |none=>exact absurd q z
   |some u=>obtain⟨y,c,hy,hty,_⟩:=bK q;exact .inr ⟨y,c,hy,hty⟩
  ·cases q:fK K lams a with
   |none=>exact absurd q z
   |some u=>
    obtain⟨y,c,hy,hty,_⟩:=bK q
    have e2:=(htb y c a hy hty).2.1
    rw[ha] at e2;cases e2
 |none=>
  refine core (λb=>if b=a then some (.fB {cls:=.type "list",data:=.seq vs.toArray} (.lst (ns.map V.int))) else fK K lams b) (λb=>?_) (.inl (.inr ⟨{cls:=.type "list",data:=.seq vs.toArray},if_pos rfl⟩)) (λb u z=>?_) (λb z=>?_) (λ_=>hk) λy c Pt hy hty=>?_
  ·by_cases hb:b=a
   ·exact .inr (.inl ⟨_,_,if_pos hb⟩)
   ·cases q:fK K lams b with
    |none=>exact .inl ((if_neg hb).trans q)
    |some u=>obtain⟨y,c,_,_,rfl⟩:=bK q;exact .inr (.inr ⟨_,(if_neg hb).trans q⟩)
  ·by_cases hb:b=a
   ·have z':=(if_pos hb).symm.trans z
    cases z'
    subst hb
    exact⟨ha,by rw[List.length_map];exact hl,vs,_,rv,ha⟩
   ·have z':=(if_neg hb).symm.trans z
    obtain⟨y,c,hy,hty,rfl⟩:=bK z'
    exact⟨#[],(htb y c b hy hty).2.1,trivial,λpos cv z=>by cases z⟩
  ·by_cases hb:b=a
   ·exact .inl hb
   ·cases q:fK K lams b with
    |none=>exact absurd ((if_neg hb).trans q) z
    |some u=>obtain⟨y,c,hy,hty,_⟩:=bK q;exact .inr ⟨y,c,hy,hty⟩
  ·have ne:Pt≠a:=fun z=>by
    subst z
    have e2:=(htb y c _ hy hty).2.1
    rw[ha] at e2;cases e2
   exact(if_neg ne).trans (yQ hty (λz hz=>hone z y hz hy) hy)
end L2
namespace L2
open PySem PySem.Spec PyProof.Rows
def IW{p:Program}{loose:List Str}{mean:ExcName->Option Value}{mg mb:Str->Option Value}{h:Heap}{K:PySem.W.Frag}{d:DefRec}{x:Str}{c P:Addr}(T:Top p loose mean mg mb h)(X:K.In h)(hr:(recsOf p).find? (λe=>e.name== x)=some d)(ht:PySem.W.tabIn K x=some (c,P)) :
 PySem.W.CodeHd h c P/\h.get? P=some (PySem.W.tabObj #[])/\h.BuiltinsAt mg P:=by
 obtain⟨h1,h2⟩:=PySem.W.tab_of T X hr ht
 obtain⟨bm,ob,b1,b2,b3,b4,b5,b6⟩:=T.bmain
 have hbP:bm≠P:=λq=>by rw[q,h2] at b3;cases b3;cases b4
 have hbG:bm≠mainGlobals:=λq=>by
  obtain⟨o,es,ep,e,hd,_⟩:=T.g
  rw[q,e] at b3;cases b3;rw[hd] at b6;cases b6
 exact⟨h1,h2,bm,ob,b1,b2,hbG,hbP,b3,b4,b5,b6⟩
def I_{l:PySem.W.OpenLaw}{n k:Nat}{q:Program}{loose:List Str}{XP:(Str->Option Value)->Heap->Prop}{YP:World->Heap->Prop}{d:DefRec}{K:Params->PySem.W.Frag}{CX:World->jF}{sp:World->Sp}{x:Str}
 (hn:l.most=some n)(hn2:n<=sizeLine)(hdf:d.params.defaults=[])(hr:Ś k callerA)
 (hY:∀(w:World) (h:Heap),YP w h->(K w.params).In h)
 (F:∀(w:World) (mg:Str→Option Value) (fa:Addr) (h:Heap),(K w.params).In h→h.Ns mainGlobals mg→mg d.name=some (.ref fa)→
   ∃fd:FuncData,(∀(s:Shared) (u:Value),BindsTo s fd ⟨[u],[]⟩ [(x,u)])/\
    ∀base:Heap,(K w.params).In base->base.Ns mainGlobals mg->ģ l.prog w (K w.params) mg base (CX w) k fa fd [x] (sp w))
 (hsp:∀(w:World) (H:Hp) (a:Addr) (ns:List Int),ns.length<=n->Only H->Ÿ (K w.params) H a (ns.map V.int)->sp w [.ref a] H (λv _=>v=.bl true) λ_ _ _=>False)
 (YB:∀(w:World) (H:Hp) (s:Shared) (e:Value) (s':Shared),CX w [] H s (λ_ _ _=>False) e s'->False)
 (hnt:lams≠[]->∀w:World,PySem.W.noTabs (K w.params)=true:=by intro z;exact absurd rfl z)(hone:∀y z,y∈lams->z∈lams->y=z:=by simp[lams])(hrec:∀y,y∈lams->∃d,(recsOf q).find? (λe=>e.name== y)=some d:=by simp[lams]) :
 PySem.W.WalkO q loose XP YP l.row.toRowW d [] (λf vs=>PySem.call f vs):=by
 refine Att.tY hn hdf λw s₀ s₁ mg mb fa o pm cd doc a vs ns G Y ho hd hcd hmg hobj hints hlen hg=>?_
 have KX:=hY w _ Y
 obtain⟨fd,hb,hF⟩:=F w mg fa _ KX G.T.g hmg
 exact Cp KX G.T.g G.T.b G.T.builtins G.T.nolimit hg hobj hints (Nat.le_trans hlen hn2) hr hF hb (λH hO hS=>hsp w H a ns hlen hO hS) (λH e s'=>YB w H s₁ e s') (λz=>hnt z w) hone λy c Pt hy hty=>let ⟨_,hr'⟩:=hrec y hy;IW G.T KX hr' hty
end L2
namespace L2
open PySem PySem.Spec PyProof.Rows
def inClass(s:Stmt)(j:Nat):Stmt:=match s with
 | .ClassDef _ _ _ body _ _ _ _ _ _ _=>body.getD j (.Pass ⟨0,0,0,0⟩)
 |_=>.Pass ⟨0,0,0,0⟩
def aB(s:Stmt):Arguments:=match s with
 | .FunctionDef _ a _ _ _ _ _ _ _ _=>a
 |_=> {posonlyargs:=[],args:=[],vararg:=none,kwonlyargs:=[],kw_defaults:=[],kwarg:=none,defaults:=[]}
def Ŕ(s:Stmt):List Stmt:=match s with
 | .FunctionDef _ _ b _ _ _ _ _ _ _=>b
 |_=>[]
def Ĉ(s:Stmt):Scope:=match s with
 | .FunctionDef _ _ _ _ _ _ sc _ _ _=>sc
 |_=> {kind:=.function,names:=[],isGenerator:=false,isCoroutine:=false}
abbrev Ũ:jF:=λ_ _ _ _ _ _=>False
structure Cq(K:PySem.W.Frag)(x qual:Str)(st:Stmt)(f:Addr)(fd:FuncData):Prop where
 ex:∃(oc:Value) (od:Option Addr) (kV doc pm:Value) (an:Option Addr) (cdv ct:Value) (osl:Array (Option Value)),
   fd=PySem.W.fnOf x qual (aB st) (Ŕ st) (Ĉ st) .none kV doc pm an cdv ct/\K.lookup f=some ⟨oc,od,.func fd,osl⟩/\PySem.W.codeIn K cdv qual=true
 kp:PySem.W.keepIn K (.ref f)=true
section
variable{P:Program}{w:World}{K:PySem.W.Frag}{mg:Str->Option Value}{base:Heap}
def Cq.binds{x qual:Str}{st:Stmt}{f:Addr}{fd:FuncData}{ps:List Str}(F:Cq K x qual st f fd)
 (h:∀(kV doc pm:Value) (an:Option Addr) (cdv ct:Value) (us:List Value),us.length=ps.length->bindArgs (PySem.W.fnOf x qual (aB st) (Ŕ st) (Ĉ st) .none kV doc pm an cdv ct) ⟨us,[]⟩=pure (ps.zip us)):Binds K fd ps []:=by
 obtain⟨oc,od,kV,doc,pm,an,cdv,ct,osl,rfl,lk,hcd⟩:=F.ex
 exact .all (h kV doc pm an cdv ct)
def Cr{x qual:Str}{st:Stmt}{f:Addr}{oc:Value}{od an:Option Addr}{osl:Array (Option Value)}{kV doc pm cdv ct:Value}(l:K.lookup f=some ⟨oc,od,.func (PySem.W.fnOf x qual (aB st) (Ŕ st) (Ĉ st) .none kV doc pm an cdv ct),osl⟩)
 (c:PySem.W.codeIn K cdv qual=true)(k:PySem.W.keepIn K (.ref f)=true):Cq K x qual st f (PySem.W.fnOf x qual (aB st) (Ŕ st) (Ĉ st) .none kV doc pm an cdv ct):=⟨⟨oc,od,kV,doc,pm,an,cdv,ct,osl,rfl,l,c⟩,k⟩
end
section
variable{X:Cx}
def pv(i:Nat){x:Str}{pos:Pos}(hN:X.N[i]?=some x:=by rfl)(hv:z_ X.env.scope x:=by first|exact Or.inl rfl|exact Or.inr (Or.inl rfl)|exact Or.inr (Or.inr rfl))(hd:(x== ("__debug__" :Str))=false:=by decide)
 (hcd:(x== ("__classdict__" :Str))=false:=by decide):PE X (.Name x pos) (Bw i):=iM hN hv hd hcd
end
def Same(H H':Hp):Prop:=∀b o,H b=some o->H' b=some o
def Same.refl(H:Hp):Same H H:=λ_ _ h=>h
def Same.trans{H H1 H2:Hp}(a:Same H H1)(b:Same H1 H2):Same H H2:=λc o h=>b c o (a c o h)
def Same.free{H H':Hp}(e:Same H H'){l:Addr}(h:H' l=Option.none):H l=Option.none:=by
 cases q:H l with
 |none=>rfl
 |some o=>
  rw[e l o q] at h
  cases h
def Same.seq{K:PySem.W.Frag}{H H':Hp}{a:Addr}{xs:List V}(e:Same H H')(h:Ÿ K H a xs):Ÿ K H' a xs:=by
 rcases h with(h|⟨o,h⟩)|h
 ·exact .inl (.inl (e _ _ h))
 ·exact .inl (.inr ⟨o,e _ _ h⟩)
 ·exact .inr h
end L2
namespace M2
open PySem PySem.Spec PyProof.Rows L2
section
variable{X:Cx}{a b c e:Expr}{ta tb tc te:TE}{pos:Pos}
def PE.wk{t t':TE}(h:PE X e t)(i:∀σ H Q,t' σ H Q->t σ H Q):PE X e t':=λpins s σ H Q I q=>h pins s σ H Q I (i σ H Q q)
def PS.wk{st:Stmt}{t t':TS}(h:PS X st t)(i:∀D σ H,t' D σ H->t D σ H):PS X st t':=λpins s σ H D I q=>h pins s σ H D I (i D σ H q)
def Ş.wk{f:Value->Value->Sem Value}{r r':R2}(h:Ş X f r)(i:∀x y H Q,r' x y H Q->r x y H Q):Ş X f r':=λpins s σ H x y v u Q I rx ry q=>h pins s σ H x y v u Q I rx ry (i x y H Q q)
def Il.wk{f:Value->Sem Value}{r r':V->Hp->VK->Prop}(h:Il X f r)(i:∀x H Q,r' x H Q->r x H Q):Il X f r':=λpins s σ H x v Q I rx q=>h pins s σ H x v Q I rx (i x H Q q)
def ň.wk{f:Value}{r r':List V->Hp->VK->Prop}(h:ň X f r)(i:∀xs H Q,r' xs H Q->r xs H Q):ň X f r':=λpins s σ H xs us Q I r q=>h pins s σ H xs us Q I r (i xs H Q q)
def vY.wk{r r':R2}(h:vY X r)(i:∀x y H Q,r' x y H Q->r x y H Q):vY X r':=λva sl pins s σ H x y v u Q I rx ry q=>h va sl pins s σ H x y v u Q I rx ry (i x y H Q q)
def yO.wk{r r':V->Option Int->Option Int->Hp->VK->Prop}(h:yO X r)(i:∀x lo hi H Q,r' x lo hi H Q->r x lo hi H Q):yO X r':=λpins s σ H x v vl vu lo hi sl Q I rx hs pl pu q=>h pins s σ H x v vl vu lo hi sl Q I rx hs pl pu (i x lo hi H Q q)
def Ue(i:Nat):TE:=λσ H Q=>match σ[i]? with
 |some (some v)=>Q v H
 |_=>False
def Ja{i:Nat}{σ:L2.St}{H:Hp}{Q:VK}(h:Ue i σ H Q):Bw i σ H Q:=by
 unfold Ue at h
 split at h
 ·exact⟨_,by assumption,h⟩
 ·exact h.elim
def mv(i:Nat){x:Str}{pos:Pos}(hN:X.N[i]?=some x:=by rfl)(hv:z_ X.env.scope x:=by first|exact Or.inl rfl|exact Or.inr (Or.inl rfl)|exact Or.inr (Or.inr rfl))(hd:(x== ("__debug__" :Str))=false:=by decide)
 (hcd:(x== ("__classdict__" :Str))=false:=by decide):PE X (.Name x pos) (Ue i):=PE.wk (iM hN hv hd hcd) λ_ _ _ h=>Ja h
def bOf(x:V)(k:Bool->Prop):Prop:=match x with
 | .bl c=>k c
 |_=>False
def mF{x:V}{k:Bool->Prop}(h:bOf x k):∃c,x=.bl c/\k c:=by
 cases x with
 |bl c=>exact⟨c,rfl,h⟩
 |_=>exact h.elim
def Cu(t:TE):TT:=λσ H Q=>t σ H λx H1=>bOf x λc=>Q c H1
def Ug{op:CmpOp}{r:R2}(ho:Ş X (compareOp op) r)(ha:PE X a ta)(hb:PE X b tb)(hm:behindInMarks op b=false):PT X (.Compare a [op] [b] pos) (Cu (XH r ta tb)):=by
 intro pins s σ H Q I h
 refine wpAny_isTrue_Compare1 (ŏ (ha pins s σ H _ I h) λv s1 ⟨x,H1,I1,r1,q1⟩=>ŏ (hb pins s1 σ H1 _ I1 q1) λu s2 ⟨y,H2,I2,r2,q2⟩=>
  ŏ (ho pins s2 σ H2 x y v u _ I2 r1 r2 q2) λc s3 ⟨z,H3,I3,r3,q3⟩=>?_) hm
 obtain⟨k,e,q3⟩:=mF q3
 subst e
 cases r3
 exact wpAny_truthy_bool ⟨H3,I3,q3⟩
def vZ(r r':R2)(ta tb tc:TE):TE:=λσ H Q=>ta σ H λx H1=>tb σ H1 λy H2=>r x y H2 λz H3=>bOf z λk=>
 (if k=true then tc σ H3 λw' H4=>r' y w' H4 Q else Q (.bl false) H3)
def Cv{op op':CmpOp}{r r':R2}(ho:Ş X (compareOp op) r)(ho':Ş X (compareOp op') r')(ha:PE X a ta)(hb:PE X b tb)(hc:PE X c tc)
 (hm:lastMarks [op,op'] [b,c]=false:=by with_unfolding_all rfl):PE X (.Compare a [op,op'] [b,c] pos) (vZ r r' ta tb tc):=by
 intro pins s σ H Q I h
 refine Compare_chain (ŏ (ha pins s σ H _ I h) λv s1 ⟨x,H1,I1,r1,q1⟩=>chain_link (ŏ (hb pins s1 σ H1 _ I1 q1) λu s2 ⟨y,H2,I2,r2,q2⟩=>
  ŏ (ho pins s2 σ H2 x y v u _ I2 r1 r2 q2) λd s3 ⟨z,H3,I3,r3,q3⟩=>?_)) hm
 obtain⟨k,e,q3⟩:=mF q3
 subst e
 cases r3
 refine wpAny_truthy_bool ?_
 cases k with
 |false=>exact ite_ff ⟨.bl false,H3,I3,rfl,q3⟩
 |true=>exact ite_tt (chain_last (ŏ (hc pins s3 σ H3 _ I3 q3) λw' s4 ⟨z',H4,I4,r4,q4⟩=>ho' pins s4 σ H4 y z' u w' Q I4 r2 r4 q4))
def Cw{op op':CmpOp}{r r':R2}(ho:Ş X (compareOp op) r)(ho':Ş X (compareOp op') r')(ha:PE X a ta)(hb:PE X b tb)(hc:PE X c tc)
 (hm:lastMarks [op,op'] [b,c]=false:=by with_unfolding_all rfl):PT X (.Compare a [op,op'] [b,c] pos) (Cu (vZ r r' ta tb tc)):=by
 intro pins s σ H Q I h
 refine isTrue_chain (ŏ (ha pins s σ H _ I h) λv s1 ⟨x,H1,I1,r1,q1⟩=>test_link (ŏ (hb pins s1 σ H1 _ I1 q1) λu s2 ⟨y,H2,I2,r2,q2⟩=>
  ŏ (ho pins s2 σ H2 x y v u _ I2 r1 r2 q2) λd s3 ⟨z,H3,I3,r3,q3⟩=>?_)) hm
 obtain⟨k,e,q3⟩:=mF q3
 subst e
 cases r3
 refine wpAny_truthy_bool ?_
 cases k with
 |false=>exact ite_ff ⟨H3,I3,q3⟩
 |true=>
  refine ite_tt (test_last (ŏ (hc pins s3 σ H3 _ I3 q3) λw' s4 ⟨z',H4,I4,r4,q4⟩=>ŏ (ho' pins s4 σ H4 y z' u w' _ I4 r2 r4 q4) λd' s5 ⟨z2,H5,I5,r5,q5⟩=>?_))
  obtain⟨k2,e2,q5⟩:=mF q5
  subst e2
  cases r5
  exact wpAny_truthy_bool ⟨H5,I5,q5⟩
def YC(ta tb:TE):TE:=λσ H Q=>ta σ H λx H1=>bOf x λc=>if c=true then tb σ H1 Q else Q (.bl false) H1
variable{rest:List Expr}
def Uh(ha:PE X a ta)(hb:PE X (.BoolOp .And (b::rest) pos) tb):PE X (.BoolOp .And (a::b::rest) pos) (YC ta tb):=by
 intro pins s σ H Q I h
 refine BoolOp_and (ŏ (ha pins s σ H _ I h) λv s1 ⟨x,H1,I1,r1,q1⟩=>?_)
 obtain⟨c,rfl,q1⟩:=mF q1
 cases r1
 refine wpAny_truthy_bool ?_
 cases c with
 |true=>exact hb pins s1 σ H1 Q I1 q1
 |false=>exact⟨.bl false,H1,I1,rfl,q1⟩
def mI(C:Int->Int->Prop)(g:Int->Int->V):R2:=λx y H Q=>match x,y with
 | .int i,.int j=>C i j/\Q (g i j) H
 |_,_=>False
def wg(g:Int->Int->V):R2:=λx y H Q=>match x,y with
 | .int i,.int j=>Q (g i j) H
 |_,_=>False
def pF{C:Int->Int->Prop}{g:Int->Int->V}(x y:V)(H:Hp)(Q:VK)(h:mI C g x y H Q):rI C g x y H Q:=by
 cases x with
 |int i=>
  cases y with
  |int j=>exact⟨i,j,rfl,rfl,h.1,h.2⟩
  |_=>exact h.elim
 |_=>exact h.elim
def jG{g:Int->Int->V}(x y:V)(H:Hp)(Q:VK)(h:wg g x y H Q):HB g x y H Q:=by
 cases x with
 |int i=>
  cases y with
  |int j=>exact⟨i,j,rfl,rfl,h⟩
  |_=>exact h.elim
 |_=>exact h.elim
def YD:R2:=λx y H Q=>match x,y with
 | .int i,.int j=>Q (.int (i+j)) H
 | .str i,.str j=>i.length+j.length<=sizeLine/\Q (.str (i++j)) H
 |_,_=>False
def Ui:Ş X (binaryOp .Add) YD:=Ş.wk (Ti.or vO) λx y H Q h=>by
 cases x with
 |int i=>
  cases y with
  |int j=>exact .inl ⟨i,j,rfl,rfl,h⟩
  |_=>exact h.elim
 |str i=>
  cases y with
  |str j=>exact .inr ⟨i,j,rfl,rfl,h.1,h.2⟩
  |_=>exact h.elim
 |_=>exact h.elim
def Uj:Ş X (binaryOp .Sub) (wg λi j=>.int (i-j)):=Ş.wk Tj jG
def pG(i j:Int):Prop:=Tf i j\/(Builtin.Int.intBits i<=1048576/\Builtin.Int.intBits j<=1048576)
theorem pG.ok{i j:Int}(h:pG i j):IntMulOk i j:=by
 rcases h with h|⟨h1,h2⟩
 ·exact h.ok
 ·exact IntMulOk.of_le h1 h2 (by decide)
def Uk:Ş X (binaryOp .Mult) (mI pG λi j=>.int (i*j)):=Ş.wk (yL (C:=pG) (g:=λi j=>i*j) λ_ _ _ _ _ _ _ hc q=>mul_int q hc.ok) pF
def Aq(_ j:Int):Prop:=j≠0/\Builtin.Int.intBits j<=8000
def Aq.py{i j:Int}(h:Aq i j):Builtin.divisionGoesByPylong i j=false:=by
 refine PyProof.noPylong_of_log2 ?_
 have hb:=intBits_le_iff.mp h.2
 have h0:j.natAbs≠0:=by have:=h.1;omega
 exact Nat.lt_of_lt_of_le ((Nat.log2_lt h0).mpr hb) (by decide)
def Jb:Ş X (binaryOp .FloorDiv) (mI Aq λi j=>.int (i.fdiv j)):=Ş.wk (yL (C:=Aq) (g:=λi j=>i.fdiv j) λ_ _ _ _ _ _ _ hc q=>floordiv_int hc.1 q (.inl hc.py)) pF
def Ul:Ş X (binaryOp .Mod) (mI (λ_ j=>j≠0) λi j=>.int (i.fmod j)):=Ş.wk Io pF
def qK:Ş X (binaryOp .Pow) (mI Af λi j=>.int (i ^ j.toNat)):=Ş.wk Tn pF
def dY:Ş X (compareOp .Lt) (wg λi j=>.bl (decide (i<j))):=Ş.wk Yo jG
def bL:Ş X (compareOp .LtE) (wg λi j=>.bl (decide (i<=j))):=Ş.wk Yp jG
def tZ:Ş X (compareOp .Gt) (wg λi j=>.bl (decide (j<i))):=Ş.wk Yq jG
def YF:Ş X (compareOp .GtE) (wg λi j=>.bl (decide (j<=i))):=Ş.wk Yr jG
def mU(g:Int->V):V->Hp->VK->Prop:=λx H Q=>match x with
 | .int i=>Q (g i) H
 |_=>False
def ū:Il X (unaryOp .USub) (mU λi=>.int (-i)):=Il.wk Tt λx H Q h=>by
 cases x with
 |int i=>exact⟨i,rfl,h⟩
 |_=>exact h.elim
def mAbs:List V->Hp->VK->Prop:=λxs H Q=>match xs with
 | [.int i]=>Q (.int (if i<0 then -i else i)) H
 |_=>False
def Cy:ň X (.builtin "abs") mAbs:=ň.wk Ca λxs H Q h=>by
 unfold mAbs at h
 split at h
 ·exact⟨_,rfl,h⟩
 ·exact h.elim
def Cz:List V->Hp->VK->Prop:=λxs H Q=>match xs with
 | [.int i,.int j]=>Q (.int (if j<i then j else i)) H
 |_=>False
def qL(hc:X.calm=true):ň X (.builtin "min") Cz:=ň.wk (Ah hc) λxs H Q h=>by
 unfold Cz at h
 split at h
 ·exact⟨_,_,rfl,h⟩
 ·exact h.elim
def CG:List V->Hp->VK->Prop:=λxs H Q=>match xs with
 | [.int i,.int j]=>Q (.int (if j>i then j else i)) H
 |_=>False
def Jc(hc:X.calm=true):ň X (.builtin "max") CG:=ň.wk (Ag hc) λxs H Q h=>by
 unfold CG at h
 split at h
 ·exact⟨_,_,rfl,h⟩
 ·exact h.elim
def Um(K:PySem.W.Frag):List V->Hp->VK->Prop:=λxs H Q=>match xs with
 | [.str y]=>y.length<=sizeLine/\Q (.int (y.length:Int)) H
 | [.ref p]=>∃ys,(Ÿ K H p ys\/fH K H p ys)/\Q (.int (ys.length:Int)) H
 |_=>False
def ao:ň X (.builtin "len") (Um X.K):=ň.wk Cd λxs H Q h=>by
 unfold Um at h
 split at h
 ·exact⟨_,_,rfl,⟨h.1,rfl⟩,h.2⟩
 ·obtain⟨ys,h1,h2⟩:=h
  refine⟨_,ys.length,rfl,?_,h2⟩
  rcases h1 with h1|h1
  ·exact .inl ⟨ys,h1,rfl⟩
  ·exact .inr ⟨ys,h1,rfl⟩
 ·exact h.elim
def mIx(K:PySem.W.Frag):R2:=λx y H Q=>match x,y with
 | .ref p,.int i=>∃xs v,(Ÿ K H p xs\/fH K H p xs)/\mD xs i=some v/\Q v H
 | .str z,.int i=>∃c,z.length<=sizeLine/\mD z.cps.toList i=some c/\Q (.str ⟨#[c]⟩) H
 |_,_=>False
def YG:vY X (mIx X.K):=vY.wk Uc λx y H Q h=>by
 cases x with
 |ref p=>
  cases y with
  |int i=>
   obtain⟨xs,v,h1,h2,h3⟩:=h
   rcases h1 with h1|h1
   ·exact .inl ⟨p,xs,i,v,rfl,rfl,h1,h2,h3⟩
   ·exact .inr (.inl ⟨p,xs,i,v,rfl,rfl,h1,h2,h3⟩)
  |_=>exact h.elim
 |str z=>
  cases y with
  |int i=>
   obtain⟨c,h1,h2,h3⟩:=h
   exact .inr (.inr ⟨z,i,c,rfl,rfl,h1,h2,h3⟩)
  |_=>exact h.elim
 |_=>exact h.elim
def iOf(x:V)(k:Int->Prop):Prop:=match x with
 | .int i=>k i
 |_=>False
def YH(t:TE):TO:=λσ H Q=>t σ H λx H1=>iOf x λi=>Q (some i) H1
def CJ(h:PE X e te):PO X (some e) (YH te):=by
 intro pins s σ H Q I hw
 rw[evalPart_some]
 refine ŏ (h pins s σ H _ I hw) λu s1 ⟨x,H1,I1,r1,q1⟩=>?_
 cases x with
 |int i=>
  obtain⟨t,rfl⟩:=r1
  exact⟨some i,H1,I1,.int i t,q1⟩
 |_=>exact q1.elim
def Zco(K:PySem.W.Frag):V->Option Int->Option Int->Hp->VK->Prop:=λx lo hi H Q=>match x with
 | .ref a=>∃xs,Ÿ K H a xs/\∀p,H p=none->Q (.ref p) (upd H p (.lst (tW xs lo hi)))
 |_=>False
def CK:yO X (Zco X.K):=yO.wk IV λx lo hi H Q h=>by
 cases x with
 |ref a=>
  obtain⟨xs,h1,h2⟩:=h
  exact⟨a,xs,rfl,h1,h2⟩
 |_=>exact h.elim
end
end M2
namespace M2
open PySem PySem.Spec PyProof.Rows L2
def Itc(lo c:Int)(n:Nat):It:=⟨λi _=>i<n,λi H x H'=>H'=H/\x=.int (lo+i*c),λi _=>n<=i⟩
def t_{P:Program}{w:World}{K:PySem.W.Frag}{tg:Expr}(it:Addr)(lo c:Int)(n:Nat):Turn P w K tg (Itc lo c n) [it] it (λi h=>IsRangeIter h it (lo+(i:Nat)*c) ((n:Int)-(i:Nat)) c) where
 mem:=by simp
 obj:=λi h st b hb=>by
  have e:b=it:=by simpa using hb
  subst e
  exact⟨_,st,λv z=>by
   have z':Data.fields _=Data.cell v:=z
   cases z'⟩
 keep:=λi h h' st k=>k it (by simp) _ st
 item:=by
  intro X hP hw hK hc i pins s σ H E I hf st hg
  subst hP hw hK
  obtain⟨f0,f1,f2,f3,f4,f5⟩:=hf it (by simp)
  have W:=Walks.range (prog:=X.prog) (w:=X.w) (I.ok.hd hc) it lo c n
  refine W.item i s _ _ hg st λv h' tk hv st' kk=>?_
  obtain⟨t,rfl⟩:=hv
  have I1:Inv X pins σ H {s with heap:=h',toks:=tk}:=I.turned (λb o hb e=>kk b o (by simpa using hb) e) f0 f1 f3 f4 f5
  exact⟨_,rfl,o_ (s:={s with heap:=h',toks:=tk}) (n:= "range_iterator") st' rfl rfl (by decide) ⟨.int (lo+i*c),H,I1,⟨t,rfl⟩,⟨rfl,rfl⟩,st',λb hb=>(hf b hb).1⟩⟩
 done:=by
  intro X hP hw hK hc i pins s σ H E I hf st hg
  subst hP hw hK
  obtain⟨f0,f1,f2,f3,f4,f5⟩:=hf it (by simp)
  exact wpAny_pyNext_range_end (I.ok.hd hc) st (by have:n<=i:=hg;omega) λh' eb=>⟨rfl,I.turned (t':=s.toks) (λb o hb e=>eb b o hb e) f0 f1 f3 f4 f5⟩
 self:=λ_ _ _ _ _ st h=>wpAny_pyIter_rangeiter st h
section
variable{X:Cx}{tg:Expr}
end
mutual
def Rp(K:PySem.W.Frag)(H:Hp):PyData->V->Prop
 | .none,v=>v=.non
 | .bool b,v=>v=.bl b
 | .int i,v=>v=.int i
 | .str x,v=>v=.str x
 | .tuple ds,v=>∃a xs,v=.ref a/\fH K H a xs/\jH K H ds xs
 | .list ds,v=>∃a xs,v=.ref a/\Ÿ K H a xs/\jH K H ds xs
 | .dict _,_=>False
def jH(K:PySem.W.Frag)(H:Hp):List PyData->List V->Prop
 | [],xs=>xs=[]
 |d::ds,xs=>∃x r,xs=x::r/\Rp K H d x/\jH K H ds r
end
def Same.tup{K:PySem.W.Frag}{H H':Hp}{a:Addr}{xs:List V}(e:Same H H')(h:fH K H a xs):fH K H' a xs:=by
 rcases h with(h|⟨o,h⟩)|h
 ·exact .inl (.inl (e _ _ h))
 ·exact .inl (.inr ⟨o,e _ _ h⟩)
 ·exact .inr h
theorem Same.upd{H:Hp}{p:Addr}{o:HO}(h:H p=none):Same H (upd H p o):=λb u e=>by
 rw[Ę (Ģ e h)]
 exact e
mutual
theorem Rp.same{K:PySem.W.Frag}{H H':Hp}(e:Same H H'):∀(d:PyData) (v:V),Rp K H d v->Rp K H' d v
 | .none,_,h=>by unfold Rp at h ⊢;exact h
 | .bool _,_,h=>by unfold Rp at h ⊢;exact h
 | .int _,_,h=>by unfold Rp at h ⊢;exact h
 | .str _,_,h=>by unfold Rp at h ⊢;exact h
 | .tuple ds,_,h=>by
   unfold Rp at h ⊢
   obtain⟨a,xs,h1,h2,h3⟩:=h
   exact⟨a,xs,h1,Same.tup e h2,jH.same e ds xs h3⟩
 | .list ds,_,h=>by
   unfold Rp at h ⊢
   obtain⟨a,xs,h1,h2,h3⟩:=h
   exact⟨a,xs,h1,e.seq h2,jH.same e ds xs h3⟩
 | .dict _,_,h=>by unfold Rp at h;exact h.elim
theorem jH.same{K:PySem.W.Frag}{H H':Hp}(e:Same H H'):∀(ds:List PyData) (xs:List V),jH K H ds xs->jH K H' ds xs
 | [],_,h=>by unfold jH at h ⊢;exact h
 |d::ds,_,h=>by
  unfold jH at h ⊢
  obtain⟨x,r,h1,h2,h3⟩:=h
  exact⟨x,r,h1,Rp.same e d x h2,jH.same e ds r h3⟩
end
section
variable{X:Cx}{pins:List (Addr×Obj)}{σ:L2.St}{H:Hp}{s:Shared}
mutual
theorem Rp.reads(I:Inv X pins σ H s):∀(d:PyData) (v:V) (u:Value),Rp X.K H d v->RelV v u->∃as,Reads s.heap u d as
 | .none,v,u,h,r=>by
   unfold Rp at h;subst h;cases r;exact⟨_,.none⟩
 | .bool b,v,u,h,r=>by
   unfold Rp at h;subst h;cases r;exact⟨_,.bool b⟩
 | .int i,v,u,h,r=>by
   unfold Rp at h;subst h;obtain⟨t,rfl⟩:=r;exact⟨_,.int i t⟩
 | .str x,v,u,h,r=>by
   unfold Rp at h;subst h;obtain⟨t,rfl⟩:=r;exact⟨_,.str x t⟩
 | .tuple ds,v,u,h,r=>by
   unfold Rp at h
   obtain⟨a,xs,h1,h2,h3⟩:=h
   subst h1
   cases r
   obtain⟨its,rv,⟨o,e,hc,n,hd⟩,hz⟩:=I.tuple h2
   obtain⟨as,ra⟩:=jH.reads I ds xs its h3 rv
   exact⟨_,.tuple e hc hd (by simpa using ra)⟩
 | .list ds,v,u,h,r=>by
   unfold Rp at h
   obtain⟨a,xs,h1,h2,h3⟩:=h
   subst h1
   cases r
   obtain⟨its,rv,⟨o,n,e,hc,hdd,hd⟩,hz⟩:=I.list h2
   obtain⟨as,ra⟩:=jH.reads I ds xs its h3 rv
   exact⟨_,.list e hc hd (by simpa using ra)⟩
 | .dict _,_,_,h,_=>by unfold Rp at h;exact h.elim
theorem jH.reads(I:Inv X pins σ H s):∀(ds:List PyData) (xs:List V) (us:List Value),jH X.K H ds xs->Vals xs us->∃as,ReadsAll s.heap us ds as
 | [],xs,us,h,r=>by
   unfold jH at h;subst h;cases r;exact⟨_,.nil⟩
 |d::ds,xs,us,h,r=>by
  unfold jH at h
  obtain⟨x,q,h1,h2,h3⟩:=h
  subst h1
  cases r with
  |cons r1 r2=>
   obtain⟨as,ra⟩:=Rp.reads I d x _ h2 r1
   obtain⟨bs,rb⟩:=jH.reads I ds q _ h3 r2
   exact⟨_,.cons ra rb⟩
end
end
def Jd(K:PySem.W.Frag)(neg:Bool):R2:=λx y H Q=>∃d e,Rp K H d x/\Rp K H e y/\d.canLay0=true/\e.canLay0=true/\min d.depth e.depth<=60/\Q (.bl (if neg then !PyData.eqv d e else PyData.eqv d e)) H
section
variable{X:Cx}
def CN(hu:X.A.units+64<cLine):Ş X (compareOp .Eq) (Jd X.K false):=by
 intro pins s σ H x y v u Q I rx ry h
 obtain⟨d,e,h1,h2,h3,h4,h5,q⟩:=h
 obtain⟨as,ra⟩:=Rp.reads I d x v h1 rx
 obtain⟨bs,rb⟩:=Rp.reads I e y u h2 ry
 exact SeqAt.compareEq_reads ra rb h3 h4 (by omega) ⟨.bl _,H,I,rfl,q⟩
def CP(hu:X.A.units+64<cLine):Ş X (compareOp .NotEq) (Jd X.K true):=by
 intro pins s σ H x y v u Q I rx ry h
 obtain⟨d,e,h1,h2,h3,h4,h5,q⟩:=h
 obtain⟨as,ra⟩:=Rp.reads I d x v h1 rx
 obtain⟨bs,rb⟩:=Rp.reads I e y u h2 ry
 exact SeqAt.compareNe_reads ra rb h3 h4 (by omega) ⟨.bl _,H,I,rfl,q⟩
end
section
variable{K:PySem.W.Frag}
end
end M2
namespace M3
open PySem PySem.Spec PyProof.Rows L2 M2
def yR{P:Program}{w:World}{H:Hp}{h h':Heap}{C:Addr}(x:je P w H h)(hC:H C=none)(k:∀b u,b≠C->h.get? b=some u->h'.get? b=some u):je P w H h':=λa o e=>
 (x a o e).stay (fun b u hb q=>k b u (by
   rcases hb with hb|hb
   ·rw[hb];exact Ģ e hC
   ·exact Ģ hb hC) q) (λ_ q=>q) λ_ _ q=>q
theorem iR{env:Env}:∀(ns:List (Str×NameKind)) (cs:List (Str×Addr)),(∀y∈ns,y.2=.free->∃c,env.cells.lookup y.1=some c)->(∀x c,cs.lookup x=some c->env.cells.lookup x=some c)->
 ∃cl,(forIn ns cs (λ(x:Str×NameKind) r=>if(x.2== .free)=true then(do let c <-cellOf env x.1;pure (ForInStep.yield ((x.1,c)::r))) else pure (ForInStep.yield r)):Sem (List (Str×Addr)))=pure cl/\
  (∀x c,cl.lookup x=some c->env.cells.lookup x=some c)/\(∀x,(∃c,cs.lookup x=some c)->∃c,cl.lookup x=some c)/\∀y∈ns,y.2=.free->∃c,cl.lookup y.1=some c
 | [],cs,_,h2=>⟨cs,rfl,h2,λ_ z=>z,λ_ z=>nomatch z⟩
 |(n,k)::ns,cs,h1,h2=>by
  by_cases hk:k=.free
  ·subst hk
   obtain⟨c,hc⟩:=h1 (n,.free) List.mem_cons_self rfl
   have e:cellOf env n=pure c:=by unfold cellOf;rw[hc]
   have h2':∀x d,((n,c)::cs).lookup x=some d->env.cells.lookup x=some d:=λx d q=>by
    rw[List.lookup_cons] at q
    cases hx:x== n with
    |true=>
     rw[hx] at q
     have:x=n:=eq_of_beq hx
     subst this
     cases q
     exact hc
    |false=>
     rw[hx] at q
     exact h2 x d q
   obtain⟨cl,q1,q2,q3,q4⟩:=iR ns ((n,c)::cs) (λy hy=>h1 y (List.mem_cons_of_mem _ hy)) h2'
   refine⟨cl,?_,q2,λx ⟨d,hd⟩=>q3 x ?_,λy hy hf=>?_⟩
   ·rw[List.forIn_cons]
    simp only[beq_self_eq_true,if_true,e,pure_bind]
    exact q1
   ·rw[List.lookup_cons]
    cases hx:x== n with
    |true=>exact⟨c,rfl⟩
    |false=>exact⟨d,hd⟩
   ·rcases List.mem_cons.mp hy with rfl|hy
    ·exact q3 n ⟨c,by rw[List.lookup_cons,beq_self_eq_true]⟩
    ·exact q4 y hy hf
  ·have hb:(k== NameKind.free)=false:=by simpa using hk
   obtain⟨cl,q1,q2,q3,q4⟩:=iR ns cs (λy hy=>h1 y (List.mem_cons_of_mem _ hy)) h2
   refine⟨cl,?_,q2,q3,λy hy hf=>?_⟩
   ·rw[List.forIn_cons]
    simp only[hb,Bool.false_eq_true,if_false,pure_bind]
    exact q1
   ·rcases List.mem_cons.mp hy with rfl|hy
    ·exact absurd hf hk
    ·exact q4 y hy hf
def dw{scope:Scope}{env:Env}(h:∀y∈scope.names,y.2=.free->∃c,env.cells.lookup y.1=some c) :
 ∃cl,closureFor scope env=pure cl/\(∀x c,cl.lookup x=some c->env.cells.lookup x=some c)/\∀y∈scope.names,y.2=.free->∃c,cl.lookup y.1=some c:=by
 obtain⟨cl,q1,q2,_,q4⟩:=iR (env:=env) scope.names [] h (λx c z=>by simp at z)
 refine⟨cl,?_,q2,q4⟩
 unfold closureFor
 have e:(forIn scope.names [] (λ(x:Str×NameKind) (r:List (Str×Addr))=>match x with
  |(name,kind)=>if(kind== .free)=true then(do let a <-cellOf env name;pure (ForInStep.yield ((name,a)::r))) else pure (ForInStep.yield r)):Sem (List (Str×Addr)))=pure cl:=q1
 first
  |(simp only[bind_pure];exact q1)
  |(rw[show ∀(t:Sem (List (Str×Addr))),(do let r <-t;pure r)=t from λt=>by simp];exact q1)
  |(simp only[q1,pure_bind])
def bY(X:Cx)(N':List Str)(scope:Scope)(cl:List (Str×Addr))(C:Addr)(s:Shared)(H:Hp)(fp:List Addr):Cx where
 prog:=X.prog
 w:=X.w
 K:=X.K
 mg:=X.mg
 base:=X.base
 A:=X.A
 N:=N'
 s₀:= s
 H₀:= H
 env:=compEnvC scope cl C X.env
 outer:=X.stack
 stack:=X.stack
 ex:=fp
 fn:=λx=>scope.names.lookup x== some .cell
 calm:=X.calm
 pn:=[]
 xe:=λ_ _=>False
def cI(X:Cx)(sc scope:Scope):List Str->List Nat->Prop
 |x::xs,j::js=>X.N[j]?=some x/\(scope.names.lookup x=some .free/\(sc.names.lookup x=some .cell\/sc.names.lookup x=some .free))/\cI X sc scope xs js
 |_,[]=>True
 | [],_::_=>False
def cJ(js:List Nat)(nl:Nat)(σ:L2.St):L2.St:=js.map (λj:Nat=>(σ[j]?).getD none)++List.replicate nl none
theorem jJ{X:Cx}{sc scope:Scope}{σ:L2.St}{nl:Nat}:∀{N':List Str} {js:List Nat} {i:Nat} {x:Str} {v:V},cI X sc scope N' js->N'[i]?=some x->(cJ js nl σ)[i]?=some (some v)->
 ∃j:Nat,X.N[j]?=some x/\σ[j]?=some (some v)/\scope.names.lookup x=some .free/\(sc.names.lookup x=some .cell\/sc.names.lookup x=some .free)
 |N',[],i,x,v,_,_,h=>by
  unfold cJ at h
  rw[List.map_nil,List.nil_append,List.getElem?_replicate] at h
  split at h<;>cases h
 | [],_::_,_,_,_,c,_,_=>c.elim
 |y::N',j::js,0,x,v,c,h1,h2=>by
  obtain⟨c1,c2,_⟩:=c
  simp at h1
  subst h1
  have e:(σ[j]?).getD none=some v:=by simpa[cJ] using h2
  refine⟨j,c1,?_,c2⟩
  cases q:σ[j]? with
  |none=>rw[q] at e;cases e
  |some o=>rw[q] at e;exact congrArg some e
 |y::N',j::js,i+1,x,v,c,h1,h2=>by
  exact jJ (N':=N') (js:=js) (i:=i) c.2.2 (by simpa using h1) (by simpa[cJ] using h2)
section
variable{prog:Program}{w:World}{A:Around}{R:Result->Shared->Prop}{s:Shared}
def jh{elt target iter:Expr}{ifs:List Expr}{scope:Scope}{pos:Pos}{it acc:Value}{env:Env}(I:Nat->Shared->Prop)
 (turn:∀n s,I n s→wpAny (model prog w) A (pyNext it) (fun r s₁=>match r with
   |none=>R (.ok .next) s₁
   |some v=>wpAny (model prog w) A (letOwnedTupleGo target it v) (fun _ s₁'=>wpAny (model prog w) A (assign target env v) (fun _ s₂=>
     wpAny (model prog w) A (forIn ifs true λc r=>if r=true then do let ok <-isTrue c env (eval c env);pure (ForInStep.yield ok) else pure (ForInStep.yield r)) (λok s₃=>
      if ok=true then wpAny (model prog w) A (eval elt env) (λx s₄=>
       wpAny (model prog w) A (call (.builtin "list.append") [acc,x]) (λ_ s₅=>∃m,m<n/\I m s₅) (λ_ _=>False) s₄) (λ_ _=>False) s₃
      else ∃m,m<n/\I m s₃) (λ_ _=>False) s₂) (λ_ _=>False) s₁') (λ_ _=>False) s₁) (λ_ _=>False) s)
 (n:Nat)(h:I n s) :
 codeAny (model prog w) A (.compLoop (.ListComp elt [⟨target,iter,ifs,0⟩] scope pos) 0 it acc env) R s:=by
 refine codeAny_loop rfl I (λn s hI=>?_) n h
 show wpAny _ A ((compTurn (.ListComp elt [⟨target,iter,ifs,0⟩] scope pos) 0 it acc env).onRaise (λx=>do noteFrame x env;theTreesLotGoes x)) _ _ s
 refine wpAny_noted (wpAny_noRaise ?_)
 rw[compTurn_list]
 refine wpAny_bind (wpAny_standAt (wpAny_bind (wpAny_mono (turn n s hI) (λr s₁ h₁=>?_) λ_ _ h'=>h')))
 cases r with
 |none=>exact wpAny_pure h₁
 |some v=>
  refine wpAny_bind (wpAny_mono h₁ (λ_ s₁' h₁'=>?_) λ_ _ h'=>h')
  refine wpAny_bind (wpAny_mono h₁' (λ_ s₂ h₂=>wpAny_bind (wpAny_mono h₂ (λok s₃ h₃=>?_) λ_ _ h'=>h')) λ_ _ h'=>h')
  cases ok with
  |false=>exact wpAny_pure ⟨rfl,h₃⟩
  |true=>
   exact wpAny_bind (wpAny_bind (wpAny_mono h₃ (λx s₄ h₄=>wpAny_bind (wpAny_mono h₄ (λ_ s₅ h₅=>wpAny_pure (wpAny_pure ⟨rfl,h₅⟩)) λ_ _ h'=>h')) λ_ _ h'=>h'))
end
def Bm(X:Cx)(ifs:List Expr)(t:TT):Prop:=
 ∀(pins:List (Addr×Obj)) (s:Shared) (σ:L2.St) (H:Hp) (Q:Bool->Hp->Prop),Inv X pins σ H s->t σ H Q->
  wpAny (model X.prog X.w) X.A (forIn ifs true λc r=>if r=true then do let ok <-isTrue c X.env (eval c X.env);pure (ForInStep.yield ok) else pure (ForInStep.yield r)) (TP X pins σ Q) X.xe s
def Zcp:TT:=λ_ H Q=>Q true H
def Je{X:Cx}:Bm X [] Zcp:=λ_ _ _ H _ I h=>wpAny_tests_nil ⟨H,I,h⟩
def Jf{X:Cx}{c:Expr}{t:TT}(h:PT X c t):Bm X [c] t:=λpins s σ H Q I hw=>wpAny_tests_one (h pins s σ H Q I hw)
def CQ(js:List Nat)(nl:Nat)(wi:TI)(g:TG)(tt:TT)(te:TE):TE:=λσ H Q=>wi σ H λJ H1=>∀D,H1 D=none->
 ∃W:Nat->Nat->L2.St->Hp->Prop,(∃m,W 0 m (cJ js nl σ) (upd H1 D (.lst [])))/\∀i m σ' H',W i m σ' H'->
  (J.stop i H'∧Q (.ref D) H')∨(J.go i H'∧∃N:L2.St→Hp→Prop,(∀σ2 H2,N σ2 H2→∃m',m'<m∧W (i+1) m' σ2 H2)∧∀x H2,J.yld i H' x H2→g x σ' H2 fun σ2 H3=>tt σ2 H3 fun c H4=>
    if c=true then te σ2 H4 λy H5=>∃ys,H5 D=some (.lst ys)/\ys.length<sizeLine/\N σ2 (upd H5 D (.lst (ys ++ [y]))) else N σ2 H4)
section
variable{X:Cx}{elt tg iter:Expr}{ifs:List Expr}{scope:Scope}{pos:Pos}{wi:TI}{g:TG}{tt:TT}{te:TE}
theorem dz{env:Env}:∀{names:List (Str×NameKind)} {x:Str} {k:NameKind},(k=.cell\/k=.free)->
 (names.map λ(n,k)=>if(k== NameKind.free && env.scope.kind== .function && env.kindOf n== some .cell) then(n,NameKind.cell) else(n,k)).lookup x=some k->(x,NameKind.free)∈names\/(x,NameKind.cell)∈names
 | [],x,k,_,h=>by simp at h
 |(n,q)::r,x,k,hk,h=>by
  have ih:=@dz env r x k hk
  rw[List.map_cons] at h
  by_cases hx:x=n
  ·subst hx
   by_cases hf:q=.free
   ·subst hf
    exact .inl List.mem_cons_self
   ·have hb:(q== NameKind.free)=false:=by simpa using hf
    have e:(if(q== NameKind.free && env.scope.kind== .function && env.kindOf x== some .cell)=true then(x,NameKind.cell) else(x,q))=(x,q):=by
     rw[hb];rfl
    have h2:=h
    simp only[e,List.lookup_cons,beq_self_eq_true] at h2
    have:q=k:=Option.some.inj h2
    rcases hk with hk|hk
    ·rw[this,hk]
     exact .inr List.mem_cons_self
    ·exact absurd (this.trans hk) hf
  ·have hn:(x== n)=false:=by simpa using hx
   have h3:(x,NameKind.free)∈r\/(x,NameKind.cell)∈r:=ih (by
    by_cases c:(q== NameKind.free && env.scope.kind== .function && env.kindOf n== some .cell)=true
    ·simp only[c,if_true,List.lookup_cons,hn] at h
     exact h
    ·simp only[c,if_false,Bool.false_eq_true,List.lookup_cons,hn] at h
     exact h)
   rcases h3 with h3|h3
   ·exact .inl (List.mem_cons_of_mem _ h3)
   ·exact .inr (List.mem_cons_of_mem _ h3)
theorem Ř:∀(names:List (Str×NameKind)) (n:Nat) (acc:List (Str×Addr)),cellsFrom n names acc=cellsFrom n names []++acc
 | [],_,_=>rfl
 |(x,k)::r,n,acc=>by
  unfold cellsFrom
  split
  ·rw[Ř r (n+1) ((x,n)::acc),Ř r (n+1) [(x,n)],List.append_assoc]
   rfl
  ·exact Ř r n acc
theorem dB:∀(names:List (Str×NameKind)) (n:Nat) {x:Str} {c:Addr},(x,c)∈cellsFrom n names []->(x,NameKind.cell)∈names
 | [],_,_,_,h=>by simp[cellsFrom] at h
 |(y,k)::r,n,x,c,h=>by
  unfold cellsFrom at h
  split at h
  ·rename_i hk
   rw[Ř r (n+1) [(y,n)]] at h
   rcases List.mem_append.mp h with h|h
   ·exact List.mem_cons_of_mem _ (dB r _ h)
   ·have e:(x,c)=(y,n):=by simpa using h
    cases e
    rw[beq_iff_eq.mp hk]
    exact List.mem_cons_self
  ·exact List.mem_cons_of_mem _ (dB r _ h)
structure Blk(X:Cx)(scope:Scope)(n:Nat)(h:Heap)(cl:List (Str×Addr)):Prop where
 at_:∀x c,cl.lookup x=some c->(X.env.cells.lookup x=some c/\scope.names.lookup x≠some .cell)\/(n<c/\h.IsCell c none/\scope.names.lookup x=some .cell)
 inj:∀x y c,cl.lookup x=some c->cl.lookup y=some c->n<c->x=y
 has:∀x,((x,NameKind.free)∈scope.names\/(x,NameKind.cell)∈scope.names)->∃c,cl.lookup x=some c
def CT{X:Cx}{scope:Scope}{n:Nat}{h:Heap}{cl:List (Str×Addr)}(hcell:∀y∈scope.names,y.2=.cell->scope.names.lookup y.1=some .cell)
 (h1:∀x c,cl.lookup x=some c->X.env.cells.lookup x=some c)(h2:∀y∈scope.names,y.2=.free->∃c,cl.lookup y.1=some c)(hlt:∀x c,X.env.cells.lookup x=some c->c<n)
 (ok:CellsOk h (n+1) (cellsFrom (n+1) scope.names [])):Blk X scope n h (cellsFrom (n+1) scope.names cl):=by
 have sp:∀x c,(cellsFrom (n+1) scope.names cl).lookup x=some c->(cl.lookup x=some c/\(cellsFrom (n+1) scope.names []).lookup x=none)\/(cellsFrom (n+1) scope.names []).lookup x=some c:=λx c e=>by
  rw[Ř,List.lookup_append] at e
  cases q:(cellsFrom (n+1) scope.names []).lookup x with
  |none=>rw[q] at e;exact .inl ⟨by simpa using e,rfl⟩
  |some d=>rw[q] at e;exact .inr (by simpa using e)
 refine⟨λx c e=>?_,λx y c e1 e2 hc=>?_,λx hx=>?_⟩
 ·rcases sp x c e with⟨e,q⟩|e
  ·refine .inl ⟨h1 x c e,λz=>?_⟩
   obtain⟨d,hd⟩:=jg (sc:=scope) (n:=n+1) z
   rw[hd] at q
   cases q
  ·have m:=mem_of_lookup e
   exact .inr ⟨(ok.empty x c m).2,(ok.empty x c m).1,hcell _ (dB _ _ m) rfl⟩
 ·have nw:∀z,(cellsFrom (n+1) scope.names cl).lookup z=some c→(cellsFrom (n+1) scope.names []).lookup z=some c:=fun z e=>by
   rcases sp z c e with⟨e,q⟩|e
   ·exact absurd (hlt z c (h1 z c e)) (Nat.lt_asymm hc)
   ·exact e
  exact name_of_addr ok.apart (mem_of_lookup (nw x e1)) (mem_of_lookup (nw y e2))
 ·rw[Ř,List.lookup_append]
  rcases hx with hx|hx
  ·obtain⟨c,hc⟩:=h2 _ hx rfl
   cases q:(cellsFrom (n+1) scope.names []).lookup x with
   |none=>exact⟨c,by simpa using hc⟩
   |some d=>exact⟨d,rfl⟩
  ·obtain⟨d,hd⟩:=jg (sc:=scope) (n:=n+1) (hcell _ hx rfl)
   rw[hd]
   exact⟨d,rfl⟩
def h_{M:Model}{A:Around}{E:Value->Shared->Prop}{s:Shared}{scope:Scope}{globals:Addr}{closure:List (Str×Addr)}{qual:Str}
 {func:Option Addr}{code:Value}{env0:Env}{builtins:Addr}{Q:Env->Shared->Prop}
 (hQ:∀h',h'.Ns s.heap.objs.size (fun _=>none)→(∀b o,s.heap.get? b=some o→h'.get? b=some o)→CellsOk h' (s.heap.objs.size+1) (cellsFrom (s.heap.objs.size+1) scope.names [])→
   Q (newEnv scope s.heap.objs.size globals (cellsFrom (s.heap.objs.size+1) scope.names closure) qual func code (some env0) builtins) {s with heap:=h'}) :
 wpAny M A (newFunctionEnv scope globals closure [] qual func code (some env0) builtins) Q E s:=by
 simp only[newFunctionEnv,Option.isSome_some,if_true]
 refine wpAny_bind (wpAny_alloc ?_)
 refine wpAny_bind (wpAny_layCells _ (λname kind cells=>by cases hkc:kind== NameKind.cell<;>simp[hkc]) _ _ _ _ ?_)
 have ok:=cellsFrom_ok scope.names (s.heap.push {cls:=.type "dict",data:=.dict #[]}) (s.heap.objs.size+1) [] ⟨λ_ _ hm=>(nomatch hm),List.Pairwise.nil⟩ (by rw[Heap.size_push];exact Nat.le_refl _)
 rw[Heap.size_push] at ok
 rw[show({s with heap:=s.heap.push {cls:=.type "dict",data:=.dict #[]}}:Shared).heap.objs.size=s.heap.objs.size+1 from Heap.size_push ..]
 refine wpAny_bind ?_
 rw[List.forIn_nil]
 exact wpAny_pure (wpAny_pure (hQ _ ((Heap.Ns.new s.heap (.type "dict")).keeps (pushCells_keeps _ _)) (λb o e=>pushCells_keeps _ _ b o (Heap.get?_push_of_some _ e)) ok))
theorem ji{env:Env}:∀{names:List (Str×NameKind)} {x:Str},names.lookup x=some .free->
 ¬(names.map λ(n,k)=>if(k== NameKind.free && env.scope.kind== .function && env.kindOf n== some .cell) then(n,NameKind.cell) else(n,k)).lookup x=some .local
 | [],x,h=>by simp at h
 |(n,q)::r,x,h=>by
  intro h2
  rw[List.map_cons] at h2
  rw[List.lookup_cons] at h
  cases hx:x== n with
  |true=>
   rw[hx] at h
   cases h
   by_cases c:(NameKind.free== NameKind.free && env.scope.kind== .function && env.kindOf n== some .cell)=true
   ·simp only[c,if_true,List.lookup_cons,hx] at h2
    cases h2
   ·simp only[c,if_false,Bool.false_eq_true,List.lookup_cons,hx] at h2
    cases h2
  |false=>
   rw[hx] at h
   have ih:=ji (env:=env) h
   by_cases c:(q== NameKind.free && env.scope.kind== .function && env.kindOf n== some .cell)=true
   ·simp only[c,if_true,List.lookup_cons,hx] at h2
    exact ih h2
   ·simp only[c,if_false,Bool.false_eq_true,List.lookup_cons,hx] at h2
    exact ih h2
def pH{pins:List (Addr×Obj)}{σ:L2.St}{H:Hp}{s:Shared}{N':List Str}{js:List Nat}{nl:Nat}{sc:Scope}{cl:List (Str×Addr)}{fp:List Addr}{h':Heap}{tk:Nat}
 (hsc:X.env.scope=sc)(hk:scope.kind=.function)(hcap:cI X sc scope N' js)(hlen:js.length+nl=N'.length)(B:Blk X scope s.heap.objs.size h' cl)
 (I:Inv X pins σ H s)(hf:∀b∈fp,bW X pins H b)(hlt:∀b∈fp,b<s.heap.objs.size)
 (hn:h'.Ns s.heap.objs.size (λ_=>none))(kp:∀b o,s.heap.get? b=some o->h'.get? b=some o) :
 Inv (bY X N' scope cl s.heap.objs.size s H fp) [] (cJ js nl σ) H {s with heap:=h',toks:=tk}:=by
 have CV:∀x,((bY X N' scope cl s.heap.objs.size s H fp).env.kindOf x=some .cell\/(bY X N' scope cl s.heap.objs.size s H fp).env.kindOf x=some .free)->∃c,cl.lookup x=some c:=λx hx=>by
  rcases hx with hx|hx
  ·exact B.has x (dz (.inl rfl) hx)
  ·exact B.has x (dz (.inr rfl) hx)
 have lt:∀x c,X.env.cells.lookup x=some c->c<s.heap.objs.size:=λx c e=>by
  obtain⟨v,o,ho,_⟩:=I.cell x c e
  exact Heap.lt_size ho
 have inj:∀x y c,cl.lookup x=some c->cl.lookup y=some c->x=y:=λx y c e1 e2=>by
  rcases B.at_ x c e1 with⟨q1,_⟩|⟨q1,_⟩
  ·rcases B.at_ y c e2 with⟨q2,_⟩|⟨q2,_⟩
   ·exact I.ok.inj x y c q1 q2
   ·exact absurd (lt x c q1) (Nat.lt_asymm q2)
  ·exact B.inj x y c e1 e2 q1
 refine⟨⟨I.ok.mod,hk,I.ok.glob,I.ok.blt,Nat.le_refl _,inj,CV,λx c z e=>by
  rcases B.at_ x c e with⟨_,q⟩|⟨q,_⟩
  ·exact absurd (beq_iff_eq.mp z) q
  ·exact Nat.le_of_lt q,I.ok.hd,I.ok.frames,.inl rfl,λb hb=>⟨Nat.ne_of_lt (hlt b hb),λx c e=>by
  rcases B.at_ x c e with⟨q,_⟩|⟨q,_⟩
  ·exact(hf b hb).2.2.2.2.1 x c q
  ·exact Nat.ne_of_gt (Nat.lt_trans (hlt b hb) q)⟩,
  I.bs,Nat.le_trans I.ok.Hz I.sz,fun b o e hb=>?_,fun b hb hz=>?_,I.stack,I.qD,I.tb⟩,rfl,I.bare,Un.kept kp,⟨_,hn,fun i x v e1 e2 e3=>?_⟩,fun x c e=>?_,I.hok.fresh (Nat.le_refl _),fun x c e=>by
    rcases B.at_ x c e with⟨q,_⟩|⟨q,_⟩
    ·exact I.fC x c q
    ·exact I.hok.fresh (Nat.le_of_lt q),λp hp=>?_,I.hok.kept kp,?_⟩
 ·rcases(hf b hb).2.2.2.1 with z|z
  ·exact I.ok.Bv b o e z
  ·exact absurd (Nat.lt_of_lt_of_le (Heap.lt_size e) (Nat.le_trans I.ok.Hz z)) (Nat.lt_irrefl _)
 ·rcases List.mem_cons.mp (I.lY b hz) with z|z
  ·exact(hf b hb).2.1 z
  ·exact(hf b hb).2.2.1 z
 ·obtain⟨j,q1,q2,q0,q3⟩:=jJ hcap e1 e2
  obtain⟨m,hm,hl⟩:=I.loc
  have Uo:z_ X.env.scope x:=by
   rw[hsc]
   rcases q3 with q3|q3
   ·exact .inr (.inl q3)
   ·exact .inr (.inr q3)
  obtain⟨u,ru,lk⟩:=hl j x v q1 q2 Uo
  refine⟨u,ru,?_⟩
  rcases lk with⟨k1,_⟩|⟨k1,c,hc,ic⟩
  ·exfalso
   have k1':sc.names.lookup x=some .local:=by rw[<-hsc];exact k1
   rcases q3 with q3|q3<;>(rw[k1'] at q3;cases q3)
  ·have e3':(bY X N' scope cl s.heap.objs.size s H fp).env.kindOf x=some .local\/(bY X N' scope cl s.heap.objs.size s H fp).env.kindOf x=some .cell\/(bY X N' scope cl s.heap.objs.size s H fp).env.kindOf x=some .free:=e3
   rcases e3' with z|z
   ·exact absurd z (ji (env:=X.env) q0)
   ·obtain⟨d,hd⟩:=CV x z
    have:d=c:=by
     rcases B.at_ x d hd with⟨q,_⟩|⟨_,_,q⟩
     ·rw[hc] at q
      exact(Option.some.inj q).symm
     ·rw[q0] at q
      cases q
    subst this
    exact .inr ⟨z,d,hd,by
     obtain⟨o,ho,hd'⟩:=ic
     exact⟨o,kp _ _ ho,hd'⟩⟩
 ·rcases B.at_ x c e with⟨q,_⟩|⟨_,q,_⟩
  ·obtain⟨v,o,ho,hd⟩:=I.cell x c q
   exact⟨v,o,kp _ _ ho,hd⟩
  ·exact⟨none,q⟩
 ·exact absurd hp (by simp[bY])
 ·show _=N'.length
  rw[<-hlen]
  simp[cJ]
def mG{pins:List (Addr×Obj)}{σ σ':L2.St}{H H':Hp}{s s':Shared}{N':List Str}{cl:List (Str×Addr)}{fp:List Addr}{h':Heap}(I:Inv X pins σ H s)(hf:∀b∈fp,bW X pins H b)
 (J:Inv (bY X N' scope cl s.heap.objs.size s H fp) [] σ' H' s')(kp:∀b u,b≠s.heap.objs.size->s'.heap.get? b=some u->h'.get? b=some u):Inv X pins σ H' {s' with heap:=h'}:=by
 have ne:∀{b:Addr} {o:Obj},s.heap.get? b=some o->b≠s.heap.objs.size:=λe=>Nat.ne_of_lt (Heap.lt_size e)
 have u:=J.base
 refine I.call' (ch:=fp) J.os ⟨λb o e n hb hx=>kp b o (ne e) (u.keep b o e n hb hx),λb o e n hb hx=>?_,λb o e n hx=>u.free b o e n hx,λb o e hx=>?_,u.tups,u.oE,u.lB⟩ (yR J.hok J.free kp) J.bare λb hb=>?_
 ·obtain⟨sl,q⟩:=u.slot b o e n hb hx
  exact⟨sl,kp b _ (ne e) q⟩
 ·obtain⟨o',q⟩:=u.there b o e hx
  exact⟨o',kp b _ (ne e) q⟩
 ·exact⟨(hf b hb).2.2.2.1,(hf b hb).2.1,(hf b hb).2.2.2.2.1,(hf b hb).2.2.2.2.2⟩
def Jg(N':List Str)(js:List Nat)(nl:Nat)(sc:Scope)(hsc:X.env.scope=sc)(hcalm:X.calm=true)
 (hi:PI X.Œ tg iter wi)(hg:∀cl C s H fp,PG (bY X.Œ N' scope cl C s H fp) tg g)(ht:∀cl C s H fp,Bm (bY X.Œ N' scope cl C s H fp) ifs tt)(he:∀cl C s H fp,PE (bY X.Œ N' scope cl C s H fp) elt te)
 (hcap:cI X.Œ sc scope N' js)(hlen:js.length+nl=N'.length:=by rfl)
 (hk:scope.kind=.function:=by rfl)(hcell:∀y∈scope.names,y.2=.cell->scope.names.lookup y.1=some .cell:=by decide +kernel)(hnames:∀y∈scope.names,y.2=.local->scope.names.lookup y.1=some .local:=by decide +kernel)
 (hfree:∀y∈scope.names,y.2=.free->(sc.names.lookup y.1=some .cell\/sc.names.lookup y.1=some .free):=by decide +kernel)
 (hs:∀x,foldedSetIterable iter X.env x=pure x:=by intro _;rfl) :
 PE X.Œ (.ListComp elt [⟨tg,iter,ifs,0⟩] scope pos) (CQ js nl wi g tt te):=by
 intro pins s σ H Q I h
 obtain⟨YJ,c1,c2,c3⟩:=dw (scope:=scope) (env:=X.Œ.env) λy hy hf=>I.ok.has y.1 (by
  have:=hfree y hy hf
  rw[<-hsc] at this
  exact this)
 rw[eval_ListComp]
 refine wpAny_comprehension_free (use:=none) rfl hs c1 hk hnames (ŏ (hi pins s σ H _ I h) λv s1 h1=>ŏ h1 λitv s2 h2=>?_)
 obtain⟨it,fp,tn,J,H2,e,I2,T,st2,f2,q2⟩:=h2
 subst e
 refine wpAny_newObj_type (h_ (λh₁ hns₁ old Uq=>?_))
 dsimp only at hns₁ old Uq ⊢
 generalize Ur:s2.heap.push {cls:=.type "list",dict:=none,data:=.seq ([]:List Value).toArray}=aX at hns₁ old Uq ⊢
 have hD:H2 s2.heap.objs.size=none:=I2.hok.fresh (Nat.le_refl _)
 have I3:Inv X.Œ pins σ (upd H2 s2.heap.objs.size (.lst [])) {s2 with heap:=aX}:=by
  rw[<-Ur]
  exact I2.laid (t':=s2.toks) (λb u e=>Heap.get?_push_of_some _ e) (Nat.le_refl _) ⟨Nat.zero_le _,[],0,.nil,Heap.get?_push_size _ rfl⟩
 have Jh:∀b∈fp,b<s2.heap.objs.size:=λb hb=>by
  obtain⟨o,ho,_⟩:=T.obj 0 _ st2 b hb
  exact Heap.lt_size ho
 have Us:aX.objs.size=s2.heap.objs.size+1:=by rw[<-Ur,Heap.size_push]
 have f3:∀b∈fp,bW X.Œ pins (upd H2 s2.heap.objs.size (.lst [])) b:=λb hb=>by
  obtain⟨g0,g1⟩:=f2 b hb
  exact⟨by rw[Ę (Nat.ne_of_lt (Jh b hb))];exact g0,g1⟩
 have B:=CT (X:=X.Œ) (cl:=YJ) hcell c2 c3 (λx c e=>by
  obtain⟨v,o,ho,_⟩:=I3.cell x c e
  exact Heap.lt_size ho) Uq
 generalize cellsFrom (aX.objs.size+1) scope.names YJ=cl at B ⊢
 obtain⟨W,⟨m0,w0⟩,turn⟩:=q2 s2.heap.objs.size hD
 have I4:=pH (X:=X.Œ) (N':=N') (js:=js) (nl:=nl) (sc:=sc) (scope:=scope) (cl:=cl) (fp:=fp) (h':=h₁) (tk:=s2.toks) hsc hk hcap hlen B I3 f3 (λb hb=>by show b<aX.objs.size;rw[Us];exact Nat.lt_succ_of_lt (Jh b hb)) hns₁ old
 have YK:tn 0 h₁:= T.keep 0 _ _ st2 λb hb o e=>old b o (by rw[<-Ur];exact Heap.get?_push_of_some _ e)
 have fr4:∀b∈fp,(upd H2 s2.heap.objs.size (.lst [])) b=none:=λb hb=>(f3 b hb).1
 have stat:∀{H':Hp},(∀b∈fp,H' b=none)->∀b∈fp,bW (bY X.Œ N' scope cl aX.objs.size {s2 with heap:=aX} (upd H2 s2.heap.objs.size (.lst [])) fp) [] H' b:=fun{H'} hn b hb=>by
  obtain⟨g0,g1,g2,g3,g4,g5⟩:=f3 b hb
  refine⟨hn b hb,Nat.ne_of_lt (by show b<aX.objs.size;rw[Us];exact Nat.lt_succ_of_lt (Jh b hb)),λz=>?_,.inl hb,λx c e=>by
   rcases B.at_ x c e with⟨q,_⟩|⟨q,_⟩
   ·exact g4 x c q
   ·exact Nat.ne_of_gt (Nat.lt_trans (by show b<aX.objs.size;rw[Us];exact Nat.lt_succ_of_lt (Jh b hb)) q),λp hp=>absurd hp (by simp[bY])⟩
  rcases List.mem_cons.mp (I3.lY b z) with z|z
  ·exact g1 z
  ·exact g2 z
 have loop:∀s₃:Shared,s₃= {s2 with heap:=h₁}->
  codeAny (model X.prog X.w) X.A (.compLoop (.ListComp elt [⟨tg,iter,ifs,0⟩] scope pos) 0 (.ref it) (.ref s2.heap.objs.size) (compEnvC scope cl aX.objs.size X.Œ.env))
   (compPost (model X.prog X.w) X.A X.Œ.xe none (EP X.Œ pins σ Q) (.ref s2.heap.objs.size) aX.objs.size) s₃:= by
  rintro s₃ rfl
  refine jh (λn s'=>∃i σ' H',Inv (bY X.Œ N' scope cl aX.objs.size {s2 with heap:=aX} (upd H2 s2.heap.objs.size (.lst [])) fp) [] σ' H' s'/\tn i s'.heap/\(∀b∈fp,H' b=none)/\W i n σ' H') ?_ m0 ⟨0,_,_,I4,YK,fr4,w0⟩
  rintro n s5 ⟨i,σ5,H5,I5,Ik,Td,w5⟩
  rcases turn i n σ5 H5 w5 with⟨stop,qn⟩|⟨go,N,hN,step⟩
  ·refine ŏ (T.done (bY X.Œ N' scope cl aX.objs.size {s2 with heap:=aX} (upd H2 s2.heap.objs.size (.lst [])) fp) rfl rfl rfl hcalm i [] s5 σ5 H5 (λ_ _=>False) I5 (stat Td) Ik stop) λr s6 ⟨hr,I6⟩=>?_
   subst hr
   obtain⟨m,hm,_⟩:=I6.loc
   refine⟨m,hm,λh' hs'=>⟨.ref s2.heap.objs.size,H5,mG I3 f3 I6 (λb u hb e=>hs'.extBut b u hb e),rfl,qn⟩⟩
  ·refine ŏ (T.item (bY X.Œ N' scope cl aX.objs.size {s2 with heap:=aX} (upd H2 s2.heap.objs.size (.lst [])) fp) rfl rfl rfl hcalm i [] s5 σ5 H5 (λ_ _=>False) I5 (stat Td) Ik go) λr s6 ⟨u,hr,h6⟩=>?_
   subst hr
   refine ŏ h6 λ_ s7 ⟨x,H7,I7,r7,y7,Ut,fr7⟩=>?_
   have I7':=I7.pinned (stat fr7) (T.obj _ _ Ut)
   have again:∀{s8:Shared} {σ8:L2.St} {H8:Hp},Inv (bY X.Œ N' scope cl aX.objs.size {s2 with heap:=aX} (upd H2 s2.heap.objs.size (.lst [])) fp) ([]++jD fp s7.heap) σ8 H8 s8->
    Inv (bY X.Œ N' scope cl aX.objs.size {s2 with heap:=aX} (upd H2 s2.heap.objs.size (.lst [])) fp) [] σ8 H8 s8/\tn (i+1) s8.heap/\∀b∈fp,H8 b=none:=fun{s8 σ8 H8} I8=>by
    refine⟨I8.cH,T.keep _ _ _ Ut λb hb o e=>(I8.pin (b,o) (List.mem_append_right _ (List.mem_append_right _ (Š hb e)))).1,λb hb=>?_⟩
    obtain⟨o,e,d⟩:=T.obj _ _ Ut b hb
    exact(I8.pin (b,o) (List.mem_append_right _ (List.mem_append_right _ (Š hb e)))).2.1
   refine ŏ (hg cl _ _ _ fp _ s7 σ5 H7 x u _ I7' r7 (step x H7 y7)) λ_ s8 ⟨σ8,H8,I8,q8⟩=>?_
   refine ŏ (ht cl _ _ _ fp _ s8 σ8 H8 _ I8 q8) λc s9 ⟨H9,I9,q9⟩=>?_
   cases c with
   |false=>
    rw[if_neg Bool.false_ne_true] at q9 ⊢
    obtain⟨m',hm',w9⟩:=hN _ _ q9
    obtain⟨a1,a2,a3⟩:=again I9
    exact⟨m',hm',i+1,σ8,H9,a1,a2,a3,w9⟩
   |true=>
    rw[if_pos rfl] at q9 ⊢
    refine ŏ (he cl _ _ _ fp _ s9 σ8 H9 _ I9 q9) λyv vH ⟨y,H10,I10,r10,ys,e10,l10,w10⟩=>?_
    refine ŏ (Ņ _ vH σ8 H10 (.ref s2.heap.objs.size) [y] (.ref s2.heap.objs.size) [yv] (λ_ Uu=>N σ8 Uu) I10 rfl (.cons r10 .nil) ⟨_,ys,y,rfl,rfl,e10,l10,w10⟩) λ_ s11 ⟨v11,Uu,I11,_,w11⟩=>?_
    obtain⟨a1,a2,a3⟩:=again I11
    obtain⟨m',hm',w11⟩:=hN _ _ w11
    exact⟨m',hm',i+1,σ8,Uu,a1,a2,a3,w11⟩
 exact codeAny_compStart_list (loop _ rfl) (T.self _ 0 _ _ _ YK (loop _ rfl))
end
def Its(z:Str):It:=⟨λi _=>i<z.cps.size,λi H x H'=>H'=H/\∃c,z.cps.toList[i]?=some c/\x=.str ⟨#[c]⟩,λi _=>i=z.cps.size⟩
def Ar{P:Program}{w:World}{K:PySem.W.Frag}{tg:Expr}(it:Addr)(z:Str)(t:Tok)(ty:String)
 (hW:∀A:Around,A.handled=none->Walks P w A it [it] [it] z.cps.size (SignAt z) (λi h=>h.IsStrIter it ty z t i))
 (hS:∀(A:Around) (i:Nat) (s:Shared) (Q:Value->Shared->Prop) (E:Value->Shared->Prop),s.heap.IsStrIter it ty z t i->Q (.ref it) s->wpAny (model P w) A (pyIter (.ref it)) Q E s)
 (hty:["enumerate","zip","dict_itemiterator","dict_reverseitemiterator","odict_iterator","itertools.zip_longest","itertools.pairwise"].contains ty=false):Turn P w K tg (Its z) [it] it (λi h=>h.IsStrIter it ty z t i) where
 mem:=by simp
 obj:=λi h st b hb=>by
  have e:b=it:=by simpa using hb
  subst e
  obtain⟨o,e,c,d⟩:=st
  exact⟨o,e,λv z=>by rw[d] at z;cases z⟩
 keep:=λi h h' st k=>by
  obtain⟨o,e,c,d⟩:=st
  exact⟨o,k it (by simp) o e,c,d⟩
 item:=by
  intro X hP hw hK hc i pins s σ H E I hf st hg
  subst hP hw hK
  obtain⟨f0,f1,f2,f3,f4,f5⟩:=hf it (by simp)
  refine(hW X.A (I.ok.hd hc)).item i s _ _ hg st λv h' tk hv st' kk=>?_
  obtain⟨c,u,hcu,rfl⟩:=hv
  have I1:Inv X pins σ H {s with heap:=h',toks:=tk}:=I.turned (λb o hb e=>kk b o (by simpa using hb) e) f0 f1 f3 f4 f5
  obtain⟨o,e,cl,d⟩:=id st'
  exact⟨_,rfl,o_ (s:={s with heap:=h',toks:=tk}) e cl d hty ⟨.str ⟨#[c]⟩,H,I1,⟨u,rfl⟩,⟨rfl,c,by simpa using hcu,rfl⟩,st',λb hb=>(hf b hb).1⟩⟩
 done:=by
  intro X hP hw hK hc i pins s σ H E I hf st hg
  subst hP hw hK
  obtain⟨f0,f1,f2,f3,f4,f5⟩:=hf it (by simp)
  have e:i=z.cps.size:=hg
  subst e
  exact(hW X.A (I.ok.hd hc)).done s _ _ st λh' tk kk=>⟨rfl,I.turned (λb o hb e=>kk b o (by simpa using hb) e) f0 f1 f3 f4 f5⟩
 self:=hS
section
variable{X:Cx}{tg:Expr}
end
end M3
namespace M4
open PySem PySem.Spec PyProof.Rows L2 M2 M3
section
variable{X:Cx}
def Ji{bs:List Bool}:∀{us:List Value},Vals (bs.map V.bl) us->us=bs.map Value.bool:=by
 induction bs with
 |nil=>intro us r;rw[List.map_nil] at r;cases r;rfl
 |cons b bs ih=>
  intro us r
  rw[List.map_cons] at r
  cases r with
  |cons r1 r2=>
   cases r1
   rw[ih r2]
   rfl
def all_range(bs:List Bool):(List.range (bs.map Value.bool).toArray.size).all (λi=>bs.getD i false)=bs.all id:=by
 have e:(bs.map Value.bool).toArray.size=bs.length:=by simp
 rw[e,Bool.eq_iff_iff]
 simp only[List.all_eq_true,List.mem_range,id]
 constructor
 ·intro h b hb
  obtain⟨i,hi,rfl⟩:=List.mem_iff_getElem.mp hb
  have:=h i hi
  rw[List.getD_eq_getElem?_getD,List.getElem?_eq_getElem hi] at this
  exact this
 ·intro h i hi
  rw[List.getD_eq_getElem?_getD,List.getElem?_eq_getElem hi]
  exact h _ (List.getElem_mem hi)
def uc{prog:Program}{w:World}{A:Around}(bs:List Bool):TruthOf prog w A (λi v=>(bs.map Value.bool).toArray[i]?=some v) (λi=>bs.getD i false):=by
 intro i v s Q E hv hq
 have hv':bs[i]?.map Value.bool=some v:=by
  rw[<-List.getElem?_map]
  simpa using hv
 cases hb:bs[i]? with
 |none=>rw[hb] at hv';cases hv'
 |some b=>
  rw[hb] at hv'
  cases hv'
  dsimp only at hq
  rw[List.getD_eq_getElem?_getD,hb] at hq
  exact wpAny_truthy_bool hq
def Uv(K:PySem.W.Frag):List V->Hp->VK->Prop:=λxs H Q=>match xs with
 | [.ref p]=>∃bs:List Bool,Ÿ K H p (bs.map V.bl)/\Q (.bl (bs.all id)) H
 |_=>False
def wj(hc:X.calm=true):ň X (.builtin "all") (Uv X.K):=by
 intro pins s σ H xs us Q I r h
 unfold Uv at h
 split at h
 ·rename_i p
  obtain⟨bs,hS,q⟩:=h
  obtain⟨u,rfl,ru⟩:=vals1 r
  cases ru
  obtain⟨its,rv,pl,hz⟩:=I.list hS
  have e:=Ji rv
  subst e
  have hp:p≠s.heap.objs.size:=by
   obtain⟨o,n,e,_⟩:=pl
   exact Nat.ne_of_lt (Heap.lt_size e)
  refine call_all_walk (wpAny_pyIter_list pl.isList ?_)
  refine⟨s.heap.objs.size,_,_,_,_,_,_,rfl,Walks.list (A:=X.A.in1) (show X.A.in1.handled=none from I.ok.hd hc) s.heap.objs.size p hp (bs.map Value.bool).toArray,⟨⟨_,Heap.get?_push_size _ rfl,rfl,rfl⟩,pl.isList.at λo e=>Heap.get?_push_of_some _ e⟩,uc bs,λh' tk k=>?_⟩
  rw[all_range]
  exact⟨.bl _,H,I.kept λb o e=>k b o (by simpa using Nat.ne_of_lt (Heap.lt_size e)) (Heap.get?_push_of_some _ e),rfl,q⟩
 ·exact h.elim
end
abbrev S(l:List Nat):Str:=⟨l.toArray⟩
def Zcq(z:Str):S z.cps.toList=z:=by
 cases z
 simp
def YL(l:List Nat):(S l).length=l.length:=by simp[Str.length]
def ud(z:Str):z.cps.toList.length=z.length:=by simp[Str.length]
def qM(xs:List Nat)(lo hi:Option Int):List Nat:=(xs.drop (HT.fJ xs.length 0 lo)).take (HT.fJ xs.length xs.length hi-HT.fJ xs.length 0 lo)
def idx_eq(z:Str)(lo hi:Option Int):Builtin.Str.strSliceIndices lo hi 1 z.length=(List.range (HT.fJ z.length z.length hi-HT.fJ z.length 0 lo)).map (HT.fJ z.length 0 lo + ·):=by
 have hc:∀(o:Option Int) (d:Nat),d<=z.length->(match o with|none=>((d:Nat):Int)|some i=>max 0 (min (if i<0 then i+(z.length:Int) else i) (z.length:Int)))=((HT.fJ z.length d o:Nat):Int):=by
  intro o d hd
  cases o with
  |none=>rfl
  |some i=>
   show max 0 (min (if i<0 then i+(z.length:Int) else i) (z.length:Int))=((if i<0 then(i+(z.length:Int)).toNat else min i.toNat z.length:Nat):Int)
   by_cases h:i<0
   ·rw[if_pos h,if_pos h];omega
   ·rw[if_neg h,if_neg h];omega
 have e:Builtin.Str.strSliceIndices lo hi 1 z.length=sliceRange ((HT.fJ z.length 0 lo:Nat):Int) ((HT.fJ z.length z.length hi:Nat):Int) 1:=by
  have h1:=hc lo 0 (Nat.zero_le _)
  have h2:=hc hi z.length (Nat.le_refl _)
  unfold Builtin.Str.strSliceIndices
  simp only[show(1:Int)>0 by decide,if_true]
  rw[<-h1,<-h2]
  cases lo<;>cases hi<;>rfl
 rw[e,sliceRange_one]
def Jj(z:Str)(lo hi:Option Int):(Builtin.Str.strSliceIndices lo hi 1 z.length).filterMap (z.cps[·]?)=qM z.cps.toList lo hi:=by
 rw[idx_eq,pick_run]
 unfold qM
 rw[ud]
def Jk(xs:List Nat)(lo hi:Option Int):(qM xs lo hi).length<=xs.length:=by
 unfold qM
 rw[List.length_take,List.length_drop]
 omega
def CW{z:Str}{t:Tok}{l u:Option (Int×Tok)}{Q:Value->Shared->Prop}{s:Shared}(hz:z.length<=sizeLine)
 (h:∀t' k,Q (.str (S (qM z.cps.toList (l.map (·.1)) (u.map (·.1)))) t') {s with toks:=k}):(sliceMade z t l u none).post Q s:=by
 have e:=Jj z (l.map (·.1)) (u.map (·.1))
 unfold sliceMade
 have ep:slicePicked z l u none=Builtin.Str.strSliceIndices (l.map (·.1)) (u.map (·.1)) 1 z.length:=rfl
 rw[ep]
 split
 ·rename_i hc
  have hl:(Builtin.Str.strSliceIndices (l.map (·.1)) (u.map (·.1)) 1 z.length).length=z.length:=by simpa using hc
  have hz2:qM z.cps.toList (l.map (·.1)) (u.map (·.1))=z.cps.toList:=by
   rw[idx_eq,List.length_map,List.length_range] at hl
   have hi:=HT.Ck z.length 0 (Nat.zero_le _) (l.map (·.1))
   have hj:=HT.Ck z.length z.length (Nat.le_refl _) (u.map (·.1))
   unfold qM
   rw[ud]
   have hl2:=ud z
   have a0:HT.fJ z.length 0 (l.map (·.1))=0\/z.length=0:=by omega
   rcases a0 with a0|a0
   ·rw[a0] at hl ⊢
    rw[List.drop_zero]
    exact List.take_of_length_le (by omega)
   ·have:z.cps.toList=[]:=List.eq_nil_of_length_eq_zero (by omega)
    rw[this]
    simp
  have:=h t s.toks
  rw[hz2,Zcq] at this
  exact this
 ·rw[e]
  exact⟨by rw[YL];have:=Jk z.cps.toList (l.map (·.1)) (u.map (·.1));rw[ud] at this;omega,h _ _⟩
section
variable{X:Cx}
def Zcr:V->Option Int->Option Int->Hp->VK->Prop:=λx lo hi H Q=>match x with
 | .str z=>z.length<=sizeLine/\Q (.str (S (qM z.cps.toList lo hi))) H
 |_=>False
def Jl:yO X Zcr:=by
 intro pins s σ H x v vl vu lo hi sl Q I rx hs pl pu h
 cases x with
 |str z=>
  obtain⟨t,rfl⟩:=rx
  obtain⟨hz,q⟩:=h
  obtain⟨l,el,el2⟩:∃l:Option (Int×Tok),partValue l=vl/\l.map (·.1)=lo:=by
   cases pl with
   |none=>exact⟨none,rfl,rfl⟩
   |int i t=>exact⟨some (i,t),rfl,rfl⟩
  obtain⟨u,eu,eu2⟩:∃u:Option (Int×Tok),partValue u=vu/\u.map (·.1)=hi:=by
   cases pu with
   |none=>exact⟨none,rfl,rfl⟩
   |int i t=>exact⟨some (i,t),rfl,rfl⟩
  subst el el2 eu eu2
  exact⟨"str",_,F.slot_str_getitem.lookup,typeIs_str s z t,wpAny_getItem_str_slice (l:=l) (u:=u) (st:=none) hs rfl (CW hz λt' k=>⟨.str _,H,I.tok _,⟨_,rfl⟩,q⟩)⟩
 |_=>exact h.elim
def Zcs(K:PySem.W.Frag):V->Option Int->Option Int->Hp->VK->Prop:=λx lo hi H Q=>match x with
 | .ref a=>∃xs,Ÿ K H a xs/\∀p,H p=none->Q (.ref p) (upd H p (.lst (tW xs lo hi)))
 | .str z=>z.length<=sizeLine/\Q (.str (S (qM z.cps.toList lo hi))) H
 |_=>False
def slm:yO X (Zcs X.K):=yO.wk (CK.or Jl) λx lo hi H Q h=>by
 cases x with
 |ref a=>exact .inl h
 |str z=>exact .inr h
 |_=>exact h.elim
def mul_eq(z:Str){n:Int}(h:0<=n):Txt.mul z n=S (List.replicate n.toNat z.cps.toList).flatten:=by
 have key:∀(k:Nat) (acc:Array Nat),((List.replicate k z.cps).foldl (·++ ·) acc).toList=acc.toList++(List.replicate k z.cps.toList).flatten:=by
  intro k
  induction k with
  |zero=>intro acc;simp
  |succ k ih=>
   intro acc
   rw[List.replicate_succ,List.foldl_cons,ih,List.replicate_succ,List.flatten_cons]
   simp
 unfold Txt.mul
 refine PyProof.Rows.ext_toList ?_
 by_cases h1:n<1
 ·rw[if_pos h1]
  have:n.toNat=0:=by omega
  rw[this]
  simp[Str.empty]
 ·rw[if_neg h1]
  split
  ·rename_i hc
   rw[Bool.or_eq_true] at hc
   rcases hc with hc|hc
   ·have:n=1:=by simpa using hc
    subst this
    simp
   ·have h0:z.cps.toList=[]:=List.eq_nil_of_length_eq_zero (by rw[ud];simpa using hc)
    rw[h0]
    simp
  ·rw[key]
   simp
def CZ(z:Str)(n:Int):Prop:=0<=n/\n<=1000/\z.length<=1000
def CZ.ok{z:Str}{n:Int}(h:CZ z n):MulOk z n:=by
 obtain⟨h0,h1,h2⟩:=h
 refine⟨?_,λhn _=>?_,λhn _=>?_⟩
 ·rw[decide_eq_false (by omega),decide_eq_false (by omega)]
  rfl
 ·have:(9000000000000000:Int)≤(2 ^ 63-1) / n:=by
   rw[Int.le_ediv_iff_mul_le (by omega)]
   omega
  omega
 ·have:z.length*n.toNat<=1000*1000:=Nat.mul_le_mul h2 (by omega)
  unfold Builtin.Str.tooLong
  simp
  rw[sizeLine_eq]
  omega
def C_:R2:=λx y H Q=>match x,y with
 | .int i,.int j=>pG i j/\Q (.int (i*j)) H
 | .str z,.int n=>CZ z n/\Q (.str (S (List.replicate n.toNat z.cps.toList).flatten)) H
 |_,_=>False
def Jm:Ş X (binaryOp .Mult) C_:=by
 intro pins s σ H x y v u Q I rx ry h
 unfold C_ at h
 split at h
 ·exact Uk pins s σ H _ _ v u Q I rx ry h
 ·obtain⟨t,rfl⟩:=rx
  obtain⟨t',rfl⟩:=ry
  exact SB.mul h.1.ok λt' k=>⟨.str _,H,I.tok _,⟨_,by rw[mul_eq _ h.1.1]⟩,h.2⟩
 ·exact h.elim
end
end M4
namespace M5
open PySem PySem.Spec PyProof.Rows L2 M2 M3
def wu{p2:Pos}{c:Value}{a b:Int}{cv:Value}(l:List Value)(h:TriplesOk l)(e:codeAmong p2 (l ++ [rawInt a,rawInt b,c])=some cv):codeAmong p2 l=some cv\/cv=c:=by
 fun_induction TriplesOk l with
 |case1=>
  right
  simp only[List.nil_append,codeAmong,rawInt] at e
  split at e
  ·exact(Option.some.inj e).symm
  ·cases e
 |case2 a' t b' u x rest ih=>
  simp only[List.cons_append,codeAmong] at e ⊢
  split at e
  ·rename_i hc;rw[if_pos hc];exact .inl e
  ·rename_i hc;rw[if_neg hc];exact ih h e
 |case3 l h1 h2=>exact h.elim
section
variable{X:Cx}{pins:List (Addr×Obj)}{σ:L2.St}{H:Hp}{s:Shared}{x:Str}{c P:Addr}{params:Arguments}{body:Expr}{scope:Scope}{pos:Pos}{cl:List (Str×Addr)}
def Dc{Q:Value->Shared->Prop}{E:Value->Shared->Prop}(I:Inv X pins σ H s)(hx:x∈lams)(ht:PySem.W.tabIn X.K x=some (c,P))(hcode:X.env.code=.ref c)(hq:X.env.qual=x ++ ".<locals>.")(hdef:defaultsOf params X.env=([],[]))(hcl:closureFor scope X.env=pure cl)
 (h:∀f c' pm ctv H' s',Inv X pins σ H' s'->(∀a,H a=none->H' a=none\/a=c')->Same H H'->H' c'=some (.zY (bx x))->s'.heap.get? f=some (PySem.W.kla_obj "<lambda>" (bx x) params body scope cl pm c' ctv)->bW X pins H' f->Q (.ref f) s') :
 wpAny (model X.prog X.w) X.A (eval (.Lambda params body scope pos) X.env) Q E s:=by
 obtain⟨C,hT,hB⟩:=I.tb x c P hx ht
 obtain⟨ps,hP,tr,ent⟩:=I.hok P _ hT
 have hg:=I.ok.mod.glob.keeps I.bk
 have hgP:mainGlobals≠P:=λq=>by
  obtain⟨o,es,ep,e,hd,_⟩:=hg
  rw[q,hP] at e;cases e;cases hd
 have hB':s.heap.BuiltinsAt X.mg P:=by
  obtain⟨bm,ob,b1,b2,b3,b4,b5,b6⟩:=hB
  exact⟨bm,ob,b1,b2,b3,b4,I.bk _ _ b5,b6⟩
 refine PySem.W.kla_eval hdef ?_
 rw[hq]
 cases hf:codeAmong pos ps.toList with
 |none=>
  refine PySem.W.kla_makeFunction (mg:=X.mg) hcl I.ok.glob hg hcode (C.keeps I.bk) hP tr hf hgP hB' λc' ctv h' tk hxb hge hlt hrec htb=>?_
  have hc':H c'=none:=I.hok.fresh hge
  have hcP:c'≠P:=λz=>by rw[z,hT] at hc';cases hc'
  have neP:∀b,H b=none->b≠P:=λb n z=>by rw[z,hT] at n;cases n
  have old:∀b o,b≠P->s.heap.get? b=some o->(h'.push (PySem.W.kla_obj "<lambda>" (bx x) params body scope cl ((X.mg "__name__").getD .none) c' ctv)).get? b=some o:=λb o hb e=>Heap.get?_push_of_some _ (hxb b o hb e)
  have u:Un X.fs [] H (upd H c' (.zY (bx x))) s.heap (h'.push (PySem.W.kla_obj "<lambda>" (bx x) params body scope cl ((X.mg "__name__").getD .none) c' ctv)):=by
   refine⟨λb o e n _ _=>old b o (neP b n) e,λb o e n _ _=>⟨o.slots,old b o (neP b n) e⟩,λb o e n _=>?_,λb o e _=>?_,λb xs e=>by rw[Ę (Ģ e hc')];exact e,λb o u e=>by rw[Ę (Ģ e hc')];exact e,λb q e=>by rw[Ę (Ģ e hc')];exact e⟩
   ·rw[Ę (Nat.ne_of_lt (Nat.lt_of_lt_of_le (Heap.lt_size e) hge))];exact n
   ·by_cases hb:b=P
    ·exact⟨_,by rw[hb];exact Heap.get?_push_of_some _ htb⟩
    ·exact⟨o,old b o hb e⟩
  have hok:je X.prog X.w (upd H c' (.zY (bx x))) (h'.push (PySem.W.kla_obj "<lambda>" (bx x) params body scope cl ((X.mg "__name__").getD .none) c' ctv)):=λb v e=>by
   by_cases hb:b=c'
   ·subst hb
    rw[Ħ] at e;cases e
    obtain⟨c2,o,vs,t,z,e1,r⟩:=hrec
    exact⟨c2,o,vs,t,z,Heap.get?_push_of_some _ e1,r⟩
   ·rw[Ę hb] at e
    by_cases hbP:b=P
    ·subst hbP
     rw[hT] at e;cases e
     refine⟨_,Heap.get?_push_of_some _ htb,?_,λp2 cv z=>?_⟩
     ·have:=TriplesOk_snoc pos.line pos.col (.ref c') ps.toList tr
      simpa using this
     ·rcases wu (a:=pos.line) (b:=pos.col) (c:=.ref c') ps.toList tr (by simpa using z) with z|z
      ·obtain⟨d,z1,z2⟩:=ent p2 cv z
       exact⟨d,z1,by rw[Ę (Ģ z2 hc')];exact z2⟩
      ·exact⟨c',z,Ħ⟩
    ·exact(I.hok b v e).stay (fun b2 o hb2 q=>old b2 o (by
      rcases hb2 with z|z
      ·rw[z];exact hbP
      ·intro z2;rw[z2,hT] at z;cases z) q) (λd q=>by rw[Ę (Ģ q hc')];exact q) (λd xs q=>by rw[Ę (Ģ q hc')];exact q) λd xs q=>by rw[Ę (Ģ q hc')];exact q
  have hfz:s.heap.objs.size<=h'.objs.size:=Nat.le_of_lt (Nat.lt_of_le_of_lt hge hlt)
  refine h h'.objs.size c' _ ctv (upd H c' (.zY (bx x))) _ (I.un (t':=tk) u hok) (λa n=>?_) (λb v e=>by rw[Ę (Ģ e hc')];exact e) Ħ (Heap.get?_push_size _ rfl) (I.oH hfz (by rw[Ę (Nat.ne_of_gt hlt)];exact I.hok.fresh hfz))
  by_cases ha:a=c'
  ·exact .inr ha
  ·exact .inl (by rw[Ę ha];exact n)
 |some cv=>
  obtain⟨c',rfl,hcc⟩:=ent pos cv hf
  refine PySem.W.kla_makeFunctionHit (mg:=X.mg) hcl I.ok.glob hg hcode (C.keeps I.bk) hP tr hf hB' λctv h' tk hk hsz=>?_
  exact h h'.objs.size c' _ ctv H _ (I.kept (t':=tk) λb o e=>Heap.get?_push_of_some _ (hk b o e)) (λ_ n=>.inl n) (Same.refl H) hcc (Heap.get?_push_size _ rfl) (I.oH hsz (I.hok.fresh hsz))
end
def Bo(X:Cx)(N':List Str)(qual:Str)(scope:Scope)(cl:List (Str×Addr))(f:Addr)(c':Addr)(A:Around)(s:Shared)(H:Hp):Cx where
 prog:=X.prog
 w:=X.w
 K:=X.K
 mg:=X.mg
 base:=X.base
 A:=A.deeper (PySem.W.envX qual scope s.heap.objs.size f (.ref c') cl)
 N:=N'
 s₀:= s
 H₀:= H
 env:=PySem.W.envX qual scope s.heap.objs.size f (.ref c') cl
 outer:=X.stack
 stack:=PySem.W.envX qual scope s.heap.objs.size f (.ref c') cl::X.stack
 ex:=[]
 fn:=λ_=>false
 calm:=true
 pn:=[]
 xe:=λ_ _=>False
def cL(js:List Nat)(σ:L2.St)(v:V):L2.St:=js.map (λj:Nat=>(σ[j]?).getD none) ++ [some v]
section
variable{X:Cx}{pins:List (Addr×Obj)}{σ:L2.St}{H:Hp}{s:Shared}{params:Arguments}{body:Expr}{scope sc:Scope}{cl:List (Str×Addr)}{N0:List Str}{js:List Nat}{qual px:Str}{f c':Addr}{A:Around}
def Jo(hsc:X.env.scope=sc)(hk:scope.kind=.function)(hcap:cI X sc scope N0 js)(hlen:js.length=N0.length)(hcell:∀y∈scope.names,y.2≠ .cell)(hpx:scope.names.lookup px=some .local)
 (hA:A.frames=some X.stack)(hhd:A.handled=none)(c2:∀x c,cl.lookup x=some c->X.env.cells.lookup x=some c)(c3:∀y∈scope.names,y.2=.free->∃c,cl.lookup y.1=some c)
 (I:Inv X pins σ H s){v:V}{u:Value}(r:RelV v u){h':Heap}{tk:Nat}(hn:h'.Ns s.heap.objs.size (λy=>[(px,u)].reverse.lookup y))(kp:∀b o,s.heap.get? b=some o->h'.get? b=some o) :
 Inv (Bo X (N0 ++ [px]) qual scope cl f c' A s H) [] (cL js σ v) H {s with heap:=h',toks:=tk}:=by
 have has:∀y,(scope.names.lookup y=some .cell\/scope.names.lookup y=some .free)->∃c,cl.lookup y=some c:=λy hy=>by
  rcases hy with hy|hy
  ·exact absurd rfl (hcell _ (PySem.mem_of_lookup hy))
  ·exact c3 _ (PySem.mem_of_lookup hy) rfl
 refine⟨⟨I.ok.mod,hk,rfl,rfl,Nat.le_refl _,λx y c e1 e2=>I.ok.inj x y c (c2 x c e1) (c2 y c e2),has,(λ_ _ z _=>absurd (show false=true from z) Bool.false_ne_true),λ_=>hhd,Around.frames_deeper hA,.inr ⟨rfl,rfl⟩,λb hb=>absurd hb (by simp[Bo]),
  I.bs,Nat.le_trans I.ok.Hz I.sz,λb _ _ hb=>absurd hb (by simp[Bo]),λb hb=>absurd hb (by simp[Bo]),I.stack,I.qD,I.tb⟩,rfl,I.bare,Un.kept kp,⟨_,hn,λi x w e1 e2 e3=>?_⟩,λx c e=>?_,I.hok.fresh (Nat.le_refl _),λx c e=>I.fC x c (c2 x c e),λp hp=>absurd hp (by simp[Bo]),I.hok.kept kp,?_⟩
 ·by_cases hi:i<js.length
  ·have e1':N0[i]?=some x:=by
    have:=e1
    rwa [show(Bo X (N0 ++ [px]) qual scope cl f c' A s H).N=N0 ++ [px] from rfl,List.getElem?_append_left (by omega)] at this
   have e2':(cJ js 0 σ)[i]?=some (some w):=by
    unfold cJ
    unfold cL at e2
    rw[List.getElem?_append_left (by simpa using hi)] at e2 ⊢
    exact e2
   obtain⟨j,q1,q2,q0,q3⟩:=jJ hcap e1' e2'
   obtain⟨m,hm,hl⟩:=I.loc
   have Uo:z_ X.env.scope x:=by
    rw[hsc]
    rcases q3 with q3|q3
    ·exact .inr (.inl q3)
    ·exact .inr (.inr q3)
   obtain⟨u',ru,lk⟩:=hl j x w q1 q2 Uo
   refine⟨u',ru,?_⟩
   rcases lk with⟨k1,_⟩|⟨k1,c,hc,ic⟩
   ·exfalso
    have k1':sc.names.lookup x=some .local:=by rw[<-hsc];exact k1
    rcases q3 with q3|q3<;>(rw[k1'] at q3;cases q3)
   ·obtain⟨d,hd⟩:=has x (.inr q0)
    have:d=c:=by
     have:=c2 x d hd
     rw[hc] at this
     exact(Option.some.inj this).symm
    subst this
    exact .inr ⟨.inr q0,d,hd,by
     obtain⟨o,ho,hd'⟩:=ic
     exact⟨o,kp _ _ ho,hd'⟩⟩
  ·have hi2:i=js.length:=by
    have l2:=(List.getElem?_eq_some_iff.mp e2).1
    unfold cL at l2
    simp at l2
    omega
   subst hi2
   unfold cL at e2
   rw[List.getElem?_append_right (by simp)] at e2
   have ev:v=w:=by simpa using e2
   subst ev
   have ex:px=x:=by
    have:=e1
    rw[show(Bo X (N0 ++ [px]) qual scope cl f c' A s H).N=N0 ++ [px] from rfl,List.getElem?_append_right (by omega),hlen] at this
    simpa using this
   subst ex
   exact⟨u,r,.inl ⟨hpx,by simp[List.lookup]⟩⟩
 ·obtain⟨w,o,ho,hd⟩:=I.cell x c (c2 x c e)
  exact⟨w,o,kp _ _ ho,hd⟩
 ·show _=(N0 ++ [px]).length
  unfold cL
  simp[hlen]
def Dd{te:TE}{pm ctv:Value}(hsc:X.env.scope=sc)(hk:scope.kind=.function)(hcap:cI X sc scope N0 js)(hlen:js.length=N0.length)(hcell:∀y∈scope.names,y.2≠ .cell)(hpx:scope.names.lookup px=some .local)(hco:scope.isCoroutine=false)(hgen:scope.isGenerator=false)
 (hA:A.frames=some X.stack)(hhd:A.handled=none)(Uw:A.depth<recursionLimit)(c2:∀x c,cl.lookup x=some c->X.env.cells.lookup x=some c)(c3:∀y∈scope.names,y.2=.free->∃c,cl.lookup y.1=some c)
 (hbind:∀u:Value,bindArgs (PySem.W.kla_fn "<lambda>" qual params body scope cl pm (.ref c') ctv) ⟨[u],[]⟩=pure [(px,u)])
 (he:∀s H,PE (Bo X (N0 ++ [px]) qual scope cl f c' A s H) body te)
 (I:Inv X pins σ H s)(hf:s.heap.get? f=some (PySem.W.kla_obj "<lambda>" qual params body scope cl pm c' ctv))(hc:H c'=some (.zY qual)){v:V}{u:Value}(r:RelV v u){Q:VK}{E:Value->Shared->Prop}(h:te (cL js σ v) H Q) :
 wpAny (model X.prog X.w) A (call (.ref f) [u]) (EP X pins σ Q) E s:=by
 refine wpAny_call (PySem.W.kla_callFunE Uw hf rfl hco hgen rfl (I.hok c' _ hc) ?_)
 rw[hbind u]
 refine wpAny_pure (wpAny_newFunctionEnv hcell (λy hy=>by rw[List.mem_singleton.mp hy];exact hpx) (λh₁ hns hsb=>⟨(I.nolimit).fresh _ hsb,?_⟩) hk)
 have kp:∀b o,s.heap.get? b=some o->h₁.get? b=some o:=λb o e=>hsb.extBut b o (Nat.ne_of_lt (Heap.lt_size e)) (Heap.get?_push_of_some _ e)
 have J:=Jo (qual:=qual) (f:=f) (c':=c') (tk:=s.toks + [(px,u)].length) hsc hk hcap hlen hcell hpx hA hhd c2 c3 I r hns kp
 show codeAny _ _ (.expr body (PySem.W.envX qual scope s.heap.objs.size f (.ref c') cl)) _ _
 refine PySem.W.kla_codeExpr (wpAny_mono (he s H [] _ _ H Q J h) (λy s' hy=>?_) λ_ _ z=>z.elim)
 obtain⟨w,H',J',Yz,q⟩:=hy
 exact I.after ⟨w,H',J'.os,J'.bare,J'.base,J'.hok,Yz,q⟩
end
section
variable{X:Cx}{pins:List (Addr×Obj)}{σ:L2.St}{H:Hp}{s:Shared}
def pI{fp:List Addr}{t:Sem Value}{A:Around}{Qv:V->Hp->Prop}{R:Value->Shared->Prop}(I:Inv X pins σ H s)(hf:∀b∈fp,bW X pins H b)(ho:∀b∈fp,∃o,s.heap.get? b=some o/\∀v,o.data≠ .cell v)
 (run:∀gY,Inv X gY σ H s->wpAny (model X.prog X.w) A t (EP X gY σ Qv) (λ_ _=>False) s)
 (k:∀y u H2 s2,Inv X pins σ H2 s2->RelV y u->Qv y H2->(∀b∈fp,bW X pins H2 b)->(∀b∈fp,∀o,s.heap.get? b=some o->s2.heap.get? b=some o)->R u s2):wpAny (model X.prog X.w) A t R (λ_ _=>False) s:=by
 refine wpAny_mono (run _ (I.pinned hf ho)) (λu s2 ⟨y,H2,I2,r,q⟩=>?_) λ_ _ z=>z
 refine k y u H2 s2 I2.cH r q (λb hb=>?_) λb hb o e=>(I2.pin (b,o) (List.mem_append_right _ (List.mem_append_right _ (Š hb e)))).1
 obtain⟨o,e,_⟩:=ho b hb
 exact⟨(I2.pin (b,o) (List.mem_append_right _ (List.mem_append_right _ (Š hb e)))).2.1,(hf b hb).2⟩
def Ų{h':Heap}{t':Nat}{b:Addr}(I:Inv X pins σ H s)(hf:bW X pins H b)(k:∀c o,c≠b->s.heap.get? c=some o->h'.get? c=some o):Inv X pins σ H {s with heap:=h',toks:=t'}:=
 let ⟨f0,f1,_,f3,f4,f5⟩:=hf
 I.turned k f0 f1 f3 f4 f5
variable{R:Result->Shared->Prop}{f l S It:Addr}{oF:Obj}{xs:List V}(ks:Nat->Int)(W:Nat->Hp->Prop)
def yS{h:Heap}{l It:Addr}{its:Array Value}{i:Nat}(hl:h.IsList l its)(hit:h.IsListIter It l i):l≠It:=λz=>by
 obtain⟨o,e,c,_⟩:=hl
 obtain⟨o',e',c',_⟩:=hit
 rw[z,e'] at e
 cases e
 rw[c] at c'
 exact absurd (Value.type.inj c') (by decide)
def wz{h:Heap}{S It l:Addr}{vs:Array Value}{n i:Nat}(hS:h.get? S=some (seqObj "list" vs n))(hit:h.IsListIter It l i):S≠It:=λz=>by
 obtain⟨o',e',c',_⟩:=hit
 rw[z,e'] at hS
 cases hS
 exact absurd (Value.type.inj c') (by decide)
end
section
variable{X:Cx}{x px:Str}{c P:Addr}{params:Arguments}{body e:Expr}{scope:Scope}{p pos Av kpos:Pos}{ta:TA}{te:TE}
end
end M5
namespace P
def XJ:PySem.Expr->Bool
 | .Starred .. =>false
 |_=>true
def ſ{e:PySem.Expr}{es:List PySem.Expr}{env:PySem.Env}(h:XJ e=true):PySem.starEach (e::es) env=(false,PySem.eval e env)::PySem.starEach es env:=by
 cases e<;>first|rfl|cases h
def Ux{a b:PySem.Expr}{env:PySem.Env}(h:XJ a=true)(h2:XJ b=true):PySem.starEach [a,b] env=[(false,PySem.eval a env),(false,PySem.eval b env)]:=by
 rw[ſ h,ſ h2];rfl
def Uy{a b c:PySem.Expr}{env:PySem.Env}(h:XJ a=true)(h2:XJ b=true)(h3:XJ c=true):PySem.starEach [a,b,c] env=[(false,PySem.eval a env),(false,PySem.eval b env),(false,PySem.eval c env)]:=by
 rw[ſ h,ſ h2,ſ h3];rfl
open PySem PySem.Spec PyProof.Rows L2 M2
structure KK where
 K:PySem.W.Frag
 cm:String->Addr
abbrev kk(X:Cx)(cm:String->Addr):KK:=⟨X.K,cm⟩
inductive PV where
 |non|bl (b:Bool)|int (i:Int)|str (x:Str)|tup (xs:List PV)|lst (xs:List PV)
 |ins (C:String) (ns:List Str) (xs:List PV)|xc (C:String) (ns:List Str) (xs:List PV)|ty (n:String)|cls (C:String)
def xo(a C:Addr)(d:Option Addr):HO:=.ext λh=>∃o vs,h.get? a=some o/\o.cls=.ref C/\o.dict=d/\o.data=.fields vs
def uf(F:Hp)(d:Option Addr)(fs:List (Str×V)):Prop:=(d=none/\fs=[])\/∃a,d=some a/\F a=some (.xd fs)
mutual
def Rep(K:KK)(F:Hp):PV->V->Prop
 | .non,v=>v=.non
 | .bl b,v=>v=.bl b
 | .int i,v=>v=.int i
 | .str x,v=>v=.str x
 | .tup ps,v=>∃a xs,v=.ref a/\fH K.K F a xs/\ę K F ps xs
 | .lst ps,v=>∃a xs,v=.ref a/\Ÿ K.K F a xs/\ę K F ps xs
 | .ins C ns ps,v=>∃a dx fs,v=.ref a/\F a=some (.ins (K.cm C) dx fs)/\fs.map (·.1)=ns/\ę K F ps (fs.map (·.2))
 | .xc C ns ps,v=>∃a d fs,v=.ref a/\F a=some (xo a (K.cm C) d)/\uf F d fs/\fs.map (·.1)=ns/\ę K F ps (fs.map (·.2))
 | .ty n,v=>v=.ty n
 | .cls C,v=>v=.ref (K.cm C)
def ę(K:KK)(F:Hp):List PV->List V->Prop
 | [],xs=>xs=[]
 |p::ps,xs=>∃x r,xs=x::r/\Rep K F p x/\ę K F ps r
end
section
variable{K:KK}{F F' H H':Hp}
def uf.same{d:Option Addr}{fs:List (Str×V)}(e:Same F F')(h:uf F d fs):uf F' d fs:=by
 rcases h with h|⟨a,h1,h2⟩
 ·exact .inl h
 ·exact .inr ⟨a,h1,e _ _ h2⟩
mutual
theorem Rep.same(e:Same F F'):∀(p:PV) (v:V),Rep K F p v->Rep K F' p v
 | .non,_,h=>by unfold Rep at h ⊢;exact h
 | .bl _,_,h=>by unfold Rep at h ⊢;exact h
 | .int _,_,h=>by unfold Rep at h ⊢;exact h
 | .str _,_,h=>by unfold Rep at h ⊢;exact h
 | .ty _,_,h=>by unfold Rep at h ⊢;exact h
 | .cls _,_,h=>by unfold Rep at h ⊢;exact h
 | .tup ps,_,h=>by
   unfold Rep at h ⊢
   obtain⟨a,xs,h1,h2,h3⟩:=h
   exact⟨a,xs,h1,Same.tup e h2,ę.same e ps xs h3⟩
 | .lst ps,_,h=>by
   unfold Rep at h ⊢
   obtain⟨a,xs,h1,h2,h3⟩:=h
   exact⟨a,xs,h1,e.seq h2,ę.same e ps xs h3⟩
 | .ins C ns ps,_,h=>by
   unfold Rep at h ⊢
   obtain⟨a,dx,fs,h1,h2,h3,h4⟩:=h
   exact⟨a,dx,fs,h1,e _ _ h2,h3,ę.same e ps _ h4⟩
 | .xc C ns ps,_,h=>by
   unfold Rep at h ⊢
   obtain⟨a,d,fs,h1,h2,hd,h3,h4⟩:=h
   exact⟨a,d,fs,h1,e _ _ h2,hd.same e,h3,ę.same e ps _ h4⟩
theorem ę.same(e:Same F F'):∀(ps:List PV) (xs:List V),ę K F ps xs->ę K F' ps xs
 | [],_,h=>by unfold ę at h ⊢;exact h
 |p::ps,_,h=>by
  unfold ę at h ⊢
  obtain⟨x,r,h1,h2,h3⟩:=h
  exact⟨x,r,h1,Rep.same e p x h2,ę.same e ps r h3⟩
end
theorem ę.pr:∀{ps:List PV} {vs:List V},ę K F ps vs->Paired (Rep K F) ps vs
 | [],_,h=>by unfold ę at h;subst h;exact .nil
 |p::ps,_,h=>by
  unfold ę at h
  obtain⟨x,r,rfl,h2,h3⟩:=h
  exact .cons h2 (ę.pr h3)
theorem ę.of:∀{ps:List PV} {vs:List V},Paired (Rep K F) ps vs->ę K F ps vs
 | [],_,.nil=>by unfold ę;rfl
 |p::ps,_,.cons h t=>by unfold ę;exact⟨_,_,rfl,h,ę.of t⟩
theorem ę.nil:ę K F [] []:=ę.of .nil
theorem ę.cons{p:PV}{v:V}{ps:List PV}{vs:List V}(h:Rep K F p v)(t:ę K F ps vs):ę K F (p::ps) (v::vs):=ę.of (.cons h t.pr)
theorem ę.length{ps:List PV}{vs:List V}(h:ę K F ps vs):ps.length=vs.length:=Paired.length h.pr
theorem bA{α β:Type}{G:α->β->Prop}:∀{l:List α} {m:List β} {i:Nat} {x:α},Paired G l m->l[i]?=some x->∃y,m[i]?=some y/\G x y
 |_,_,_,_,.nil,e=>by simp at e
 |_,_,0,_,.cons r _,e=>by simp at e;subst e;exact⟨_,rfl,r⟩
 |_,_,i+1,x,.cons _ t,e=>by
  obtain⟨y,h1,h2⟩:=bA (i:=i) (x:=x) t (by simpa using e)
  exact⟨y,by simpa using h1,h2⟩
theorem wA{α β:Type}{G:α->β->Prop}:∀{l l2:List α} {m m2:List β},Paired G l m->Paired G l2 m2->Paired G (l++l2) (m++m2)
 |_,_,_,_,.nil,t=>t
 |_,_,_,_,.cons r s,t=>.cons r (wA s t)
theorem yU{α β:Type}{G:α->β->Prop}:∀{l:List α} {m:List β} (n:Nat),Paired G l m->Paired G (l.take n) (m.take n)
 |_,_,0,_=>.nil
 |_,_,_+1,.nil=>.nil
 |_,_,n+1,.cons r t=>.cons r (yU n t)
theorem yV{α β:Type}{G:α->β->Prop}:∀{l:List α} {m:List β} (n:Nat),Paired G l m->Paired G (l.drop n) (m.drop n)
 |_,_,0,h=>h
 |_,_,_+1,.nil=>.nil
 |_,_,n+1,.cons _ t=>yV n t
theorem Dg{α β:Type}{G:α->β->Prop}:∀{l:List α} {m:List β},Paired G l m->Paired G l.reverse m.reverse
 |_,_,.nil=>.nil
 |_,_,.cons r t=>by
  rw[List.reverse_cons,List.reverse_cons]
  exact wA (Dg t) (.cons r .nil)
def ę.append{ps qs:List PV}{vs us:List V}(h:ę K F ps vs)(t:ę K F qs us):ę K F (ps++qs) (vs++us):=ę.of (wA h.pr t.pr)
end
inductive Slot where
 |no|sh (p:PV)|ow (ps:List PV)|bw (ps:List PV)|rc (C:String) (ns:List Str) (ps:List PV)|ot (ps qs:List PV)|ol (Bp:List (List PV))
abbrev ľ:=List Slot
def Slot.own:Slot->Bool
 | .ow _=>true
 | .rc _ _ _=>true
 | .ot _ _=>true
 | .ol _=>true
 |_=>false
structure Ctx where
 B:Hp
 F₀:Hp
 /-- what is lent here:read,never changed,never kept -/
 L:Hp
 /-- which objects may be held as one's own:address,dict,class -/
 S:Addr->Addr->String->Prop
def Ŭ(K:KK)(c:Ctx)(F H:Hp)(o:Option V):Slot->Prop
 | .no=>True
 | .sh p=>∃v,o=some v/\Rep K F p v
 | .ow ps=>∃a vs,o=some (.ref a)/\H a=some (.lst vs)/\F a=none/\c.B a=none/\ę K F ps vs
 | .bw ps=>∃a vs,o=some (.ref a)/\c.L a=some (.lst vs)/\ę K F ps vs
 | .rc C ns ps=>∃a dx fs,o=some (.ref a)/\H a=some (.ins (K.cm C) dx fs)/\F a=none/\c.B a=none/\fs.map (·.1)=ns/\ę K F ps (fs.map (·.2))/\c.S a dx C
 | .ot ps qs=>∃p a xs vs,o=some (.ref p)/\F p=some (.tup (xs ++ [.ref a]))/\ę K F ps xs/\H a=some (.lst vs)/\F a=none/\c.B a=none/\ę K F qs vs
 | .ol Bp=>∃(p:Addr) (as:List Addr),o=some (.ref p)/\F p=some (.lst (as.map V.ref))/\as.Nodup/\Paired (λ(a:Addr) (ps:List PV)=>∃vs,H a=some (.lst vs)/\F a=none/\c.B a=none/\ę K F ps vs) as Bp
def Slot.at_(F:Hp)(x:V)(a:Addr):Slot->Prop
 | .ot _ _=>∃p xs,x=.ref p/\F p=some (.tup (xs ++ [.ref a]))
 | .ol _=>∃(p:Addr) (as:List Addr),x=.ref p/\F p=some (.lst (as.map V.ref))/\a∈as
 | .ow _=>x=.ref a
 | .rc _ _ _=>x=.ref a
 |_=>False
def Ŀ(F:Hp)(σ:L2.St)(ρ:ľ)(i:Nat)(a:Addr):Prop:=∃s x,ρ[i]?=some s/\σ[i]?=some (some x)/\s.at_ F x a
structure Rel(K:KK)(c:Ctx)(F H:Hp)(σ:L2.St)(ρ:ľ):Prop where
 sub:Same F H
 base:Same c.B H
 f0:Same c.F₀ F
 fB:∀a,c.B a≠none->c.F₀ a=none->F a=none
 lent:∀a u,c.L a=some u->H a=some u/\F a=none
 lb:∀a,c.B a=none->c.L a=none
 len:σ.length=ρ.length
 slot:∀(i:Nat) s,ρ[i]?=some s->Ŭ K c F H ((σ[i]?).getD none) s
 sep:∀i j a,Ŀ F σ ρ i a->Ŀ F σ ρ j a->i=j
def j_(F:Hp)(σ:L2.St)(ρ:ľ)(a:Addr):Prop:=∀i,¬Ŀ F σ ρ i a
section
variable{K:KK}{c:Ctx}{F F' H H':Hp}{σ:L2.St}{ρ:ľ}{a:Addr}{o:HO}
def jK{s:Slot}{x:V}(h:s.at_ F x a):s.own=true:=by
 cases s<;>first|rfl|exact h.elim
theorem mH:∀{as bs:List Addr},as.map V.ref=bs.map V.ref->as=bs
 | [],[],_=>rfl
 | [],_::_,h=>by cases h
 |_::_,[],h=>by cases h
 |a::as,b::bs,h=>by
  injection h with h1 h2
  injection h1 with h1
  rw[h1,mH h2]
def lV{ps qs:List PV}{x:V}{b:Addr}(h:(Slot.ot ps qs).at_ F x a)(h':(Slot.ot ps qs).at_ F x b):a=b:=by
 obtain⟨p,xs,h1,h2⟩:=h
 obtain⟨q,ys,h3,h4⟩:=h'
 rw[h1] at h3
 cases h3
 rw[h2] at h4
 have e:xs ++ [V.ref a]=ys ++ [V.ref b]:=by
  injection h4 with h4
  injection h4
 have e2:=congrArg List.getLast? e
 simp at e2
 exact e2
theorem Dh{α β:Type}{G:α->β->Prop}:∀{l:List α} {m:List β} {x:α},Paired G l m->x∈l->∃y,y∈m/\G x y
 |_,_,_,.nil,h=>by simp at h
 |_,_,x,.cons r t,h=>by
  rcases List.mem_cons.mp h with rfl|h
  ·exact⟨_,List.mem_cons_self,r⟩
  ·obtain⟨y,h1,h2⟩:=Dh t h
   exact⟨y,List.mem_cons_of_mem _ h1,h2⟩
theorem Di{α β:Type}{G G':α->β->Prop}:∀{l:List α} {m:List β},Paired G l m->(∀x y,x∈l->G x y->G' x y)->Paired G' l m
 |_,_,.nil,_=>.nil
 |_,_,.cons r t,h=>.cons (h _ _ List.mem_cons_self r) (Di t λx y hx=>h x y (List.mem_cons_of_mem _ hx))
def Ŭ.grow{s:Slot}{x:Option V}(h:Ŭ K c F H x s)(eF:Same F F')(eH:∀b vs,(∃y,x=some y/\s.at_ F y b)->H b=some vs->F b=none->c.B b=none->H' b=some vs/\F' b=none):Ŭ K c F' H' x s:=by
 cases s with
 |no=>trivial
 |sh p=>obtain⟨v,h1,h2⟩:=h;exact⟨v,h1,h2.same eF p v⟩
 |ow ps=>
  obtain⟨b,vs,h1,h2,h3,h4,h5⟩:=h
  obtain⟨e1,e2⟩:=eH b _ ⟨_,h1,rfl⟩ h2 h3 h4
  exact⟨b,vs,h1,e1,e2,h4,h5.same eF ps vs⟩
 |bw ps=>obtain⟨b,vs,h1,h2,h3⟩:=h;exact⟨b,vs,h1,h2,h3.same eF ps vs⟩
 |rc C ns ps=>
  obtain⟨b,dx,fs,h1,h2,h3,h4,h5,h6⟩:=h
  obtain⟨e1,e2⟩:=eH b _ ⟨_,h1,rfl⟩ h2 h3 h4
  exact⟨b,dx,fs,h1,e1,e2,h4,h5,h6.1.same eF ps _,h6.2⟩
 |ot ps qs=>
  obtain⟨p,b,xs,vs,h1,h2,h3,h4,h5,h6,h7⟩:=h
  obtain⟨e1,e2⟩:=eH b _ ⟨_,h1,p,xs,rfl,h2⟩ h4 h5 h6
  exact⟨p,b,xs,vs,h1,eF _ _ h2,h3.same eF ps xs,e1,e2,h6,h7.same eF qs vs⟩
 |ol Bp=>
  obtain⟨p,as,h1,h2,h3,h4⟩:=h
  refine⟨p,as,h1,eF _ _ h2,h3,Di h4 λb ps hb ⟨vs,k1,k2,k3,k4⟩=>?_⟩
  obtain⟨e1,e2⟩:=eH b _ ⟨_,h1,p,as,rfl,h2,hb⟩ k1 k2 k3
  exact⟨vs,e1,e2,k3,k4.same eF ps vs⟩
def Ŭ.owned{s:Slot}{y:V}(h:Ŭ K c F H (some y) s)(ha:s.at_ F y a):∃u,H a=some u/\F a=none/\c.B a=none:=by
 cases s with
 |no=>exact ha.elim
 |sh p=>exact ha.elim
 |bw ps=>exact ha.elim
 |ow ps=>
  obtain⟨b,vs,h1,h2,h3,h4,h5⟩:=h
  rw[show y=.ref a from ha] at h1
  cases h1
  exact⟨_,h2,h3,h4⟩
 |rc C ns ps=>
  obtain⟨b,dx,fs,h1,h2,h3,h4,h5,h6⟩:=h
  rw[show y=.ref a from ha] at h1
  cases h1
  exact⟨_,h2,h3,h4⟩
 |ot ps qs=>
  obtain⟨p,b,xs,vs,h1,h2,h3,h4,h5,h6,h7⟩:=h
  cases h1
  cases lV (ps:=ps) (qs:=qs) ha ⟨p,xs,rfl,h2⟩
  exact⟨_,h4,h5,h6⟩
 |ol Bp=>
  obtain⟨p,as,h1,h2,h3,h4⟩:=h
  cases h1
  obtain⟨q,bs,e1,e2,e3⟩:=ha
  cases e1
  rw[h2] at e2
  have e:as=bs:=mH (by injection e2 with e2;injection e2)
  subst e
  obtain⟨ps,_,vs,k1,k2,k3,_⟩:=Dh h4 e3
  exact⟨_,k1,k2,k3⟩
def Ŭ.back{s:Slot}{y:V}(h:Ŭ K c F H (some y) s)(e:Same F F')(ha:s.at_ F' y a):s.at_ F y a:=by
 cases s with
 |ot ps qs=>
  obtain⟨p,b,xs,vs,h1,h2,h3,h4,h5,h6,h7⟩:=h
  cases h1
  cases lV (ps:=ps) (qs:=qs) ha ⟨p,xs,rfl,e _ _ h2⟩
  exact⟨p,xs,rfl,h2⟩
 |ol Bp=>
  obtain⟨p,as,h1,h2,h3,h4⟩:=h
  cases h1
  obtain⟨q,bs,e1,e2,e3⟩:=ha
  cases e1
  rw[e _ _ h2] at e2
  have z:as=bs:=mH (by injection e2 with e2;injection e2)
  subst z
  exact⟨p,as,rfl,h2,e3⟩
 |_=>exact ha
def Dj{i:Nat}{x:V}(e:σ[i]?=some (some x)):(σ[i]?).getD none=some x:=by rw[e];rfl
def Dk{i:Nat}{x:V}(e:(σ[i]?).getD none=some x):σ[i]?=some (some x):=by
 cases q:σ[i]? with
 |none=>rw[q] at e;cases e
 |some y=>rw[q] at e;exact congrArg some e
theorem Rel.owned(r:Rel K c F H σ ρ){i:Nat}(h:Ŀ F σ ρ i a):(∃u,H a=some u)/\F a=none/\c.B a=none:=by
 obtain⟨s,x,h1,h2,h3⟩:=h
 have q:=r.slot i s h1
 rw[Dj h2] at q
 obtain⟨u,q⟩:=q.owned h3
 exact⟨⟨u,q.1⟩,q.2⟩
theorem Rel.back(r:Rel K c F H σ ρ)(e:Same F F'){i:Nat}(h:Ŀ F' σ ρ i a):Ŀ F σ ρ i a:=by
 obtain⟨s,x,h1,h2,h3⟩:=h
 have q:=r.slot i s h1
 rw[Dj h2] at q
 exact⟨s,x,h1,h2,q.back e h3⟩
def Rel.Uz(r:Rel K c F H σ ρ)(e:Same F F'):∀i j a,Ŀ F' σ ρ i a->Ŀ F' σ ρ j a->i=j:=λi j a h1 h2=>r.sep i j a (r.back e h1) (r.back e h2)
def Rel.qN(r:Rel K c F H σ ρ)(e:Same F F')(h:j_ F σ ρ a):j_ F' σ ρ a:=λi q=>h i (r.back e q)
def Rel.fresh(r:Rel K c F H σ ρ)(h:H a=none):j_ F σ ρ a:=λi q=>by
 obtain⟨⟨u,e⟩,_⟩:=r.owned q
 rw[h] at e;cases e
def Rel.alloc(r:Rel K c F H σ ρ)(h:H a=none):Rel K c (upd F a o) (upd H a o) σ ρ where
 sub:=λb u e=>by
  by_cases hb:b=a
  ·subst hb;rw[Ħ] at e ⊢;exact e
  ·rw[Ę hb] at e ⊢;exact r.sub b u e
 base:=λb u e=>by
  have hb:b≠a:=λz=>by rw[z] at e;rw[r.base _ _ e] at h;cases h
  rw[Ę hb];exact r.base b u e
 f0:=fun b u e=>by
   have hb:b≠a:=λz=>by rw[z] at e;rw[r.sub _ _ (r.f0 _ _ e)] at h;cases h
   rw[Ę hb];exact r.f0 b u e
 fB:=λb h1 h2=>by
  have hb:b≠a:=λz=>by
   subst z
   cases q:c.B b with
   |none=>exact h1 q
   |some u=>rw[r.base _ _ q] at h;cases h
  rw[Ę hb];exact r.fB b h1 h2
 lent:=λb u e=>by
  obtain⟨h1,h2⟩:=r.lent b u e
  have hb:b≠a:=λz=>by rw[z,h] at h1;cases h1
  rw[Ę hb,Ę hb];exact⟨h1,h2⟩
 lb:=r.lb
 len:=r.len
 slot:=λi s e=>by
  have hF:F a=none:=r.sub.free h
  refine(r.slot i s e).grow (Same.upd hF) λb u _ h1 h2 h3=>?_
  have hb:b≠a:=λz=>by rw[z,h] at h1;cases h1
  rw[Ę hb,Ę hb];exact⟨h1,h2⟩
 sep:=r.Uz (Same.upd (r.sub.free h))
def Rel.made(r:Rel K c F H σ ρ)(h:H a=none):Rel K c F (upd H a o) σ ρ where
 sub:=r.sub.trans (Same.upd h)
 base:=r.base.trans (Same.upd h)
 f0:=r.f0
 fB:=r.fB
 lent:=λb u e=>⟨Same.upd h b u (r.lent b u e).1,(r.lent b u e).2⟩
 lb:=r.lb
 len:=r.len
 slot:=λi s e=>(r.slot i s e).grow (Same.refl F) λb u _ h1 h2 h3=>⟨Same.upd h b u h1,h2⟩
 sep:=r.sep
def Rel.freeze(r:Rel K c F H σ ρ)(h:H a=some o)(hB:c.B a=none)(hF:F a=none)(hf:j_ F σ ρ a):Rel K c (upd F a o) H σ ρ where
 sub:=λb u e=>by
  by_cases hb:b=a
  ·subst hb;rw[Ħ] at e;rw[h];exact e
  ·rw[Ę hb] at e;exact r.sub b u e
 base:=r.base
 f0:=r.f0.trans (Same.upd hF)
 fB:=λb h1 h2=>by
  have hb:b≠a:=λz=>h1 (by rw[z];exact hB)
  rw[Ę hb];exact r.fB b h1 h2
 lent:=λb u e=>by
  have hb:b≠a:=λz=>by rw[z,r.lb a hB] at e;cases e
  rw[Ę hb];exact r.lent b u e
 lb:=r.lb
 len:=r.len
 slot:=λi s e=>(r.slot i s e).grow (Same.upd hF) λb' u' ⟨y,e1',ha⟩ h1 h2 h3=>by
  have hb:b'≠a:=λz=>by
   subst z
   exact hf i ⟨s,y,e,Dk e1',ha⟩
  rw[Ę hb];exact⟨h1,h2⟩
 sep:=r.Uz (Same.upd hF)
def aC{α:Type}{l:List α}{i j:Nat}{x y:α}(h:(l.set i x)[j]?=some y):(j=i/\y=x/\i<l.length)\/(j≠i/\l[j]?=some y):=by
 by_cases hj:j=i
 ·subst hj
  have hl:j<l.length:=by
   have:=(List.getElem?_eq_some_iff.mp h).1
   simpa using this
  rw[List.getElem?_set_self hl] at h
  exact .inl ⟨rfl,(Option.some.inj h).symm,hl⟩
 ·rw[List.getElem?_set_ne (Ne.symm hj)] at h
  exact .inr ⟨hj,h⟩
def Dl{l:L2.St}{i:Nat}{x:Option V}(h:i<l.length):((l.set i x)[i]?).getD none=x:=by rw[List.getElem?_set_self h];rfl
def yW{l:L2.St}{i j:Nat}{x:Option V}(h:j≠i):((l.set i x)[j]?).getD none=(l[j]?).getD none:=by rw[List.getElem?_set_ne (Ne.symm h)]
def Ŀ.off{i j:Nat}{x:Option V}{s:Slot}(h:Ŀ F (σ.set i x) (ρ.set i s) j a)(hj:j≠i):Ŀ F σ ρ j a:=by
 obtain⟨s',y,h1,h2,h3⟩:=h
 rw[List.getElem?_set_ne (Ne.symm hj)] at h1 h2
 exact⟨s',y,h1,h2,h3⟩
def Rel.put(r:Rel K c F H σ ρ){i:Nat}{x:Option V}{s:Slot}(hs:s.own=false)(h:Ŭ K c F H x s):Rel K c F H (σ.set i x) (ρ.set i s) where
 sub:=r.sub
 base:=r.base
 f0:=r.f0
 fB:=r.fB
 lent:=r.lent
 lb:=r.lb
 len:=by simpa using r.len
 slot:=λj s' e=>by
  rcases aC e with⟨rfl,rfl,hl⟩|⟨hj,e⟩
  ·rw[Dl (by rw[r.len];exact hl)];exact h
  ·rw[yW hj];exact r.slot j s' e
 sep:=λj k b h1 h2=>by
  have off:∀{j},Ŀ F (σ.set i x) (ρ.set i s) j b->j≠i:=fun{j} q z=>by
   subst z
   obtain⟨s',y,q1,_,q2⟩:=q
   rcases aC q1 with⟨_,rfl,_⟩|⟨q,_⟩
   ·have:=jK q2;rw[hs] at this;cases this
   ·exact q rfl
  exact r.sep j k b (h1.off (off h1)) (h2.off (off h2))
def Rel.Lb(r:Rel K c F H σ ρ){i:Nat}{s:Slot}(hs:s.own=false)(h:Ŭ K c F H ((σ[i]?).getD none) s):Rel K c F H σ (ρ.set i s) where
 sub:=r.sub
 base:=r.base
 f0:=r.f0
 fB:=r.fB
 lent:=r.lent
 lb:=r.lb
 len:=by simpa using r.len
 slot:=λj s' e=>by
  rcases aC e with⟨rfl,rfl,hl⟩|⟨hj,e⟩
  ·exact h
  ·exact r.slot j s' e
 sep:=λj k b h1 h2=>by
  have off:∀{j},Ŀ F σ (ρ.set i s) j b->Ŀ F σ ρ j b:=fun{j} ⟨s',y,q1,q3,q2⟩=>by
   rcases aC q1 with⟨_,rfl,_⟩|⟨_,q⟩
   ·have:=jK q2;rw[hs] at this;cases this
   ·exact⟨s',y,q,q3,q2⟩
  exact r.sep j k b (off h1) (off h2)
def Rel.Jp(r:Rel K c F H σ ρ){i:Nat}{x:V}{s:Slot}(h:Ŭ K c F H (some x) s)(hf:∀a,s.at_ F x a->j_ F σ ρ a):Rel K c F H (σ.set i (some x)) (ρ.set i s) where
 sub:=r.sub
 base:=r.base
 f0:=r.f0
 fB:=r.fB
 lent:=r.lent
 lb:=r.lb
 len:=by simpa using r.len
 slot:=λj s' e=>by
  rcases aC e with⟨rfl,rfl,hl⟩|⟨hj,e⟩
  ·rw[Dl (by rw[r.len];exact hl)];exact h
  ·rw[yW hj];exact r.slot j s' e
 sep:=λj k b h1 h2=>by
  have UG:∀{j},Ŀ F (σ.set i (some x)) (ρ.set i s) j b->(j=i/\s.at_ F x b)\/(j≠i/\Ŀ F σ ρ j b):=fun{j} q=>by
   by_cases hj:j=i
   ·subst hj
    obtain⟨s',y,q1,q2,q3⟩:=q
    rcases aC q2 with⟨_,e,_⟩|⟨z,_⟩
    ·cases e
     rcases aC q1 with⟨_,e,_⟩|⟨z,_⟩
     ·cases e
      exact .inl ⟨rfl,q3⟩
     ·exact absurd rfl z
    ·exact absurd rfl z
   ·exact .inr ⟨hj,q.off hj⟩
  rcases UG h1 with⟨e1,z1⟩|⟨e1,o1⟩
  ·rcases UG h2 with⟨e2,z2⟩|⟨e2,o2⟩
   ·rw[e1,e2]
   ·exact absurd o2 (hf b z1 k)
  ·rcases UG h2 with⟨e2,z2⟩|⟨e2,o2⟩
   ·exact absurd o1 (hf b z2 j)
   ·exact r.sep j k b o1 o2
def Rel.UJ(r:Rel K c F H σ ρ){i:Nat}{s:Slot}(ho:Ŀ F σ ρ i a)(h:Ŭ K c F (upd H a o) ((σ[i]?).getD none) s)(hs:∀x b,σ[i]?=some (some x)->s.at_ F x b->Ŀ F σ ρ i b):Rel K c F (upd H a o) σ (ρ.set i s) where
 sub:=λb u e=>by
  have hb:b≠a:=λz=>by rw[z,(r.owned ho).2.1] at e;cases e
  rw[Ę hb];exact r.sub b u e
 base:=λb u e=>by
  have hb:b≠a:=λz=>by rw[z,(r.owned ho).2.2] at e;cases e
  rw[Ę hb];exact r.base b u e
 f0:=r.f0
 fB:=r.fB
 lent:=λb u e=>by
  have hb:b≠a:=λz=>by rw[z,r.lb a (r.owned ho).2.2] at e;cases e
  rw[Ę hb];exact r.lent b u e
 lb:=r.lb
 len:=by simpa using r.len
 slot:=λj s' e=>by
  rcases aC e with⟨rfl,rfl,hl⟩|⟨hj,e⟩
  ·exact h
  ·refine(r.slot j s' e).grow (Same.refl F) λb u ⟨y,e1,e2⟩ h1 h2 h3=>?_
   have hb:b≠a:=λz=>by
    subst z
    exact hj (r.sep j i b ⟨s',y,e,Dk e1,e2⟩ ho)
   exact⟨by rw[Ę hb];exact h1,h2⟩
 sep:=λj k b h1 h2=>by
  have off:∀{j},Ŀ F σ (ρ.set i s) j b->Ŀ F σ ρ j b:=fun{j} ⟨s',y,q1,q3,q2⟩=>by
   rcases aC q1 with⟨e,rfl,_⟩|⟨_,q⟩
   ·subst e
    exact hs y b q3 q2
   ·exact⟨s',y,q,q3,q2⟩
  exact r.sep j k b (off h1) (off h2)
def Rel.write(r:Rel K c F H σ ρ){i:Nat}{s:Slot}(ho:Ŀ F σ ρ i a)(hx:σ[i]?=some (some (.ref a)))(h:Ŭ K c F (upd H a o) (some (.ref a)) s)(hs:∀b,s.at_ F (.ref a) b->b=a):Rel K c F (upd H a o) σ (ρ.set i s):=
 r.UJ ho (by rw[hx];exact h) λx b e q=>by rw[hx] at e;cases e;rw[hs b q];exact ho
structure Gr(F H F' H':Hp):Prop where
 h:Same H H'
 f:Same F F'
 sub:Same F' H'
 out:∀a,H a≠none->F a=none->F' a=none
def Rel.call(r:Rel K c F H σ ρ)(g:Gr F H F' H'):Rel K c F' H' σ ρ where
 sub:=g.sub
 base:=r.base.trans g.h
 f0:=r.f0.trans g.f
 fB:=λb h1 h2=>by
  refine g.out b (λz=>h1 ?_) (r.fB b h1 h2)
  cases q:c.B b with
  |none=>rfl
  |some u=>rw[r.base _ _ q] at z;cases z
 lent:=λb u e=>⟨g.h b u (r.lent b u e).1,g.out b (by rw[(r.lent b u e).1];intro z;cases z) (r.lent b u e).2⟩
 lb:=r.lb
 len:=r.len
 slot:=λi s e=>(r.slot i s e).grow g.f λb u _ h1 h2 h3=>⟨g.h b u h1,g.out b (by rw[h1];intro z;cases z) h2⟩
 sep:=r.Uz g.f
def ctx0(F H:Hp):Ctx:=⟨H,F,λa=>match F a with
 |none=>H a
 |some _=>none,λ_ _ _=>True⟩
def bZ{a:Addr}{u:HO}(h:(ctx0 F H).L a=some u):H a=some u/\F a=none:=by
 unfold ctx0 at h
 dsimp only at h
 cases q:F a with
 |none=>rw[q] at h;exact⟨h,rfl⟩
 |some o=>rw[q] at h;cases h
def Rel.gr(r:Rel K (ctx0 F H) F' H' σ ρ):Gr F H F' H':=⟨r.base,r.f0,r.sub,r.fB⟩
def bB(K:KK)(F H:Hp):Slot->V->Prop
 | .sh p,v=>Rep K F p v
 | .bw ps,v=>∃a vs,v=.ref a/\H a=some (.lst vs)/\F a=none/\ę K F ps vs
 |_,_=>False
def bB.slot{s:Slot}{v:V}(h:bB K F H s v):Ŭ K (ctx0 F H) F H (some v) s/\s.own=false:=by
 cases s with
 |sh p=>exact⟨⟨v,rfl,h⟩,rfl⟩
 |bw ps=>
  obtain⟨a,vs,rfl,h1,h2,h3⟩:=h
  refine⟨⟨a,vs,rfl,?_,h3⟩,rfl⟩
  show(match F a with|none=>H a|some _=>none)=_
  rw[h2]
  exact h1
 |no=>exact h.elim
 |ow ps=>exact h.elim
 |rc C ns ps=>exact h.elim
 |ot ps qs=>exact h.elim
 |ol Bp=>exact h.elim
def startP(n:Nat)(as:List Slot):ľ:=as++List.replicate (n-as.length) .no
theorem Rel.start{N:List Str}{as:List Slot}{vs:List V}(s:Same F H)(h:Paired (bB K F H) as vs):Rel K (ctx0 F H) F H (L2.start N vs) (startP N.length as) where
 sub:=s
 base:=Same.refl H
 f0:=Same.refl F
 fB:=λ_ _ h=>h
 lent:=λ_ _ e=>bZ e
 lb:=fun a e=>by
   cases q:(ctx0 F H).L a with
   |none=>rfl
   |some u=>
    have e':H a=none:=e
    rw[(bZ q).1] at e'
    cases e'
 len:=by unfold L2.start startP;simp[Paired.length h]
 slot:=λi s' e=>by
  unfold startP at e
  by_cases hi:i<as.length
  ·rw[List.getElem?_append_left hi] at e
   obtain⟨v,h1,h2⟩:=bA h e
   have hv:((L2.start N vs)[i]?).getD none=some v:=by
    unfold L2.start
    rw[List.getElem?_append_left (by simpa[<-Paired.length h] using hi),List.getElem?_map,h1];rfl
   rw[hv]
   exact(bB.slot h2).1
  ·rw[List.getElem?_append_right (by omega),List.getElem?_replicate] at e
   split at e
   ·cases e;trivial
   ·cases e
 sep:=λi j a h1 _=>by
  obtain⟨s',y,h1,_,h2⟩:=h1
  have h2:=jK h2
  exfalso
  unfold startP at h1
  by_cases hi:i<as.length
  ·rw[List.getElem?_append_left hi] at h1
   obtain⟨v,_,h3⟩:=bA h h1
   rw[(bB.slot h3).2] at h2
   cases h2
  ·rw[List.getElem?_append_right (by omega),List.getElem?_replicate] at h1
   split at h1
   ·cases h1;cases h2
   ·cases h1
end
structure PX where
 C:String
 ns:List Str
 ps:List PV
def Jq(K:KK)(F:Hp)(x:PX)(C:Value)(d:Option Addr):Prop:=C=.ref (K.cm x.C)/\∃fs,uf F d fs/\fs.map (·.1)=x.ns/\ę K F x.ps (fs.map (·.2))
inductive Res(α:Type) where
 |ok (a:α) (ρ:ľ)|exc (x:PX) (ρ:ľ)|bad
def Res.bind{α β:Type}(r:Res α)(f:α->ľ->Res β):Res β:= match r with
 | .ok a ρ=>f a ρ
 | .exc x ρ=>.exc x ρ
 | .bad=>.bad
@[simp] theorem Res.aD{α β:Type}{a:α}{ρ:ľ}{f:α->ľ->Res β}:(Res.ok a ρ).bind f=f a ρ:= rfl
@[simp] theorem Res.YM{α β:Type}{x:PX}{ρ:ľ}{f:α->ľ->Res β}:(Res.exc x ρ:Res α).bind f=.exc x ρ:= rfl
@[simp] theorem Res.YQ{α β:Type}{f:α->ľ->Res β}:(Res.bad:Res α).bind f=.bad:=rfl
def Res.lW{α:Type}(o:Option α)(ρ:ľ):Res α:= match o with
 |some a=>.ok a ρ
 |none=>.bad
@[simp] theorem Res.YS{α:Type}{a:α}{ρ:ľ}:Res.lW (some a) ρ=.ok a ρ:= rfl
@[simp] theorem Res.YT{α:Type}{ρ:ľ}:Res.lW (none:Option α) ρ=.bad:=rfl
abbrev M(α:Type):=ľ->Res α
inductive RV where
 |sh (p:PV)|ow (ps:List PV)|ot (ps qs:List PV)
def RV.val:RV->PV
 | .sh p=>p
 | .ow ps=>.lst ps
 | .ot ps qs=>.tup (ps ++ [.lst qs])
def RV.slot:RV->Slot
 | .sh p=>.sh p
 | .ow ps=>.ow ps
 | .ot ps qs=>.ot ps qs
abbrev RR(α β:Type):=Ctx->L2.St->ľ->Hp->Hp->α->β->Prop
def rV(K:KK):RR PV V:=λ_ _ _ F _ p v=>Rep K F p v
def yX(K:KK)(F H:Hp)(p:PV)(v:V):Prop:=match p with
 | .lst ps=>∃a vs,v=.ref a/\H a=some (.lst vs)/\ę K F ps vs
 | .ins C ns ps=>∃a dx fs,v=.ref a/\H a=some (.ins (K.cm C) dx fs)/\fs.map (·.1)=ns/\ę K F ps (fs.map (·.2))
 |_=>False
def rR(K:KK):RR PV V:=λ_ _ _ F H p v=>Rep K F p v\/yX K F H p v
def rA(K:KK):RR (List Slot) (List V):=λ_ _ _ F H as vs=>Paired (bB K F H) as vs
def Held(K:KK)(c:Ctx)(σ:L2.St)(ρ:ľ)(F H:Hp)(ps:List PV)(v:V):Prop:=∃a vs,v=.ref a/\H a=some (.lst vs)/\F a=none/\c.B a=none/\j_ F σ ρ a/\ę K F ps vs
def yZ(K:KK)(c:Ctx)(σ:L2.St)(ρ:ľ)(F H:Hp)(ps qs:List PV)(v:V):Prop:=∃p a xs vs,v=.ref p/\F p=some (.tup (xs ++ [.ref a]))/\ę K F ps xs/\H a=some (.lst vs)/\F a=none/\c.B a=none/\j_ F σ ρ a/\ę K F qs vs
def rO(K:KK):RR RV V:=λc σ ρ F H r v=>match r with
 | .sh p=>Rep K F p v
 | .ow ps=>Held K c σ ρ F H ps v
 | .ot ps qs=>yZ K c σ ρ F H ps qs v
def rL(K:KK):RR (List PV) (List V):=λ_ _ _ F _ p v=>ę K F p v
def YW(K:KK):RR (List PV) (List V):=λc σ ρ F H p v=>Paired (rR K c σ ρ F H) p v
def rB:RR Bool Bool:=λ_ _ _ _ _ p v=>p=v
def rI:RR (Option Int) (Option Int):=λ_ _ _ _ _ p v=>p=v
def aJ{α β:Type}(K:KK)(E:L2.St->XK)(R:RR α β)(c:Ctx)(F H:Hp)(σ:L2.St)(Q:β->Hp->Prop):Res α->Prop
 | .ok p ρ'=>∀v F' H',Rel K c F' H' σ ρ'->Same F F'->Same H H'->R c σ ρ' F' H' p v->Q v H'
 | .exc x ρ'=>∀C d F' H',Rel K c F' H' σ ρ'->Same F F'->Jq K F' x C d->E σ C d H'
 | .bad=>False
def tG{α β:Type}(K:KK)(E:L2.St->XK)(R:RR α β)(m:M α):L2.St->Hp->(β->Hp->Prop)->Prop:=λσ H Q=>∃c F ρ,Rel K c F H σ ρ/\aJ K E R c F H σ Q (m ρ)
section
variable{α β α' β':Type}{K:KK}{E:L2.St->XK}{R:RR α β}{R':RR α' β'}{c:Ctx}{F F1 H H1:Hp}{σ:L2.St}
def aJ.mono{Q:β->Hp->Prop}{r:Res α}(h:aJ K E R c F H σ Q r)(sF:Same F F1)(sH:Same H H1):aJ K E R c F1 H1 σ Q r:=by
 cases r with
 |ok p ρ'=>exact λv F' H' rel s1 s2 q=>h v F' H' rel (sF.trans s1) (sH.trans s2) q
 |exc x ρ'=>exact λC d F' H' rel s1 q=>h C d F' H' rel (sF.trans s1) q
 |bad=>exact h
theorem aJ.bind{Q:β->Hp->Prop}{Q':β'->Hp->Prop}{r:Res α}{f:α->ľ->Res α'}(h:aJ K E R' c F H σ Q' (r.bind f))
 (k:∀p ρ1 v F1 H1,Rel K c F1 H1 σ ρ1->Same F F1->Same H H1->R c σ ρ1 F1 H1 p v->aJ K E R' c F1 H1 σ Q' (f p ρ1)->Q v H1):aJ K E R c F H σ Q r:=by
 cases r with
 |ok p ρ'=>exact λv F' H' rel s1 s2 q=>k p ρ' v F' H' rel s1 s2 q (aJ.mono (show aJ K E R' c F H σ Q' (f p ρ') from h) s1 s2)
 |exc x ρ'=>exact h
 |bad=>exact h
theorem aJ.rel{R2:RR α β}{Q:β->Hp->Prop}{r:Res α}(h:aJ K E R c F H σ Q r)(k:∀p ρ' v F' H',Rel K c F' H' σ ρ'->R2 c σ ρ' F' H' p v->R c σ ρ' F' H' p v):aJ K E R2 c F H σ Q r:=by
 cases r with
 |ok p ρ'=>exact λv F' H' rel s1 s2 q=>h v F' H' rel s1 s2 (k p ρ' v F' H' rel q)
 |exc x ρ'=>exact h
 |bad=>exact h
end
abbrev tV(K:KK)(E:L2.St->XK)(m:M PV):TE:=tG K E (rV K) m
abbrev tR(K:KK)(E:L2.St->XK)(m:M PV):TE:=tG K E (rR K) m
abbrev tO(K:KK)(E:L2.St->XK)(m:M RV):TE:=tG K E (rO K) m
abbrev tL(K:KK)(E:L2.St->XK)(m:M (List PV)):TA:=tG K E (rL K) m
abbrev tA(K:KK)(E:L2.St->XK)(m:M (List Slot)):TA:=tG K E (rA K) m
abbrev Jr(K:KK)(E:L2.St->XK)(m:M (List PV)):TA:=tG K E (YW K) m
abbrev tB(K:KK)(E:L2.St->XK)(m:M Bool):TT:=tG K E rB m
inductive Fl where
 |nx|bk|ct|rt (r:RV)
def Ů(K:KK)(E:L2.St->XK)(c:Ctx)(F:Hp)(D:Ends):Res Fl->Prop
 | .ok .nx ρ'=>∀σ' F' H',Rel K c F' H' σ' ρ'->Same F F'->D.nx σ' H'
 | .ok .bk ρ'=>∀σ' F' H',Rel K c F' H' σ' ρ'->Same F F'->D.bk σ' H'
 | .ok .ct ρ'=>∀σ' F' H',Rel K c F' H' σ' ρ'->Same F F'->D.ct σ' H'
 | .ok (.rt r) ρ'=>∀v σ' F' H',Rel K c F' H' σ' ρ'->Same F F'->rO K c σ' ρ' F' H' r v->D.rt v H'
 | .exc x ρ'=>∀σ' C d F' H',Rel K c F' H' σ' ρ'->Same F F'->Jq K F' x C d->E σ' C d H'
 | .bad=>False
def tS(K:KK)(E:L2.St->XK)(m:M Fl):TS:=λD σ H=>∃c F ρ,Rel K c F H σ ρ/\Ů K E c F D (m ρ)
section
variable{K:KK}{E:L2.St->XK}{c:Ctx}{F F1:Hp}{D:Ends}
def Ů.mono{r:Res Fl}(h:Ů K E c F D r)(sF:Same F F1):Ů K E c F1 D r:=by
 cases r with
 |ok f ρ'=>
  cases f with
  |rt v=>exact λv σ' F' H' rel s1 q=>h v σ' F' H' rel (sF.trans s1) q
  |nx=>exact λσ' F' H' rel s1=>h σ' F' H' rel (sF.trans s1)
  |bk=>exact λσ' F' H' rel s1=>h σ' F' H' rel (sF.trans s1)
  |ct=>exact λσ' F' H' rel s1=>h σ' F' H' rel (sF.trans s1)
 |exc x ρ'=>exact λσ' C d F' H' rel s1 q=>h σ' C d F' H' rel (sF.trans s1) q
 |bad=>exact h
theorem Ů.bind{α β:Type}{R:RR α β}{σ:L2.St}{H:Hp}{Q:β->Hp->Prop}{r:Res α}{f:α->ľ->Res Fl}(h:Ů K E c F D (r.bind f))
 (k:∀p ρ1 v F1 H1,Rel K c F1 H1 σ ρ1->Same F F1->R c σ ρ1 F1 H1 p v->Ů K E c F1 D (f p ρ1)->Q v H1):aJ K E R c F H σ Q r:=by
 cases r with
 |ok p ρ'=>exact λv F' H' rel s1 s2 q=>k p ρ' v F' H' rel s1 q (Ů.mono (show Ů K E c F D (f p ρ') from h) s1)
 |exc x ρ'=>exact λC d F' H' rel s1 q=>h σ C d F' H' rel s1 q
 |bad=>exact h
end
end P
namespace P
open PySem PySem.Spec PyProof.Rows L2 M2
def ě(i:Nat):M PV:=λρ=>match ρ[i]? with
 |some (.sh p)=>.ok p ρ
 |some (.ow ps)=>.ok (.lst ps) (ρ.set i (.sh (.lst ps)))
 |_=>.bad
def Ā(i:Nat):M PV:=λρ=>match ρ[i]? with
 |some (.sh p)=>.ok p ρ
 |some (.ow ps)=>.ok (.lst ps) ρ
 |some (.bw ps)=>.ok (.lst ps) ρ
 |some (.rc C ns ps)=>.ok (.ins C ns ps) ρ
 |_=>.bad
def jj(i:Nat):M RV:=λρ=>match ρ[i]? with
 |some (.sh p)=>.ok (.sh p) ρ
 |some (.ow ps)=>.ok (.ow ps) (ρ.set i .no)
 |_=>.bad
def mC(p:PV):M PV:=λρ=>.ok p ρ
def ŀ(m:M PV):M RV:=λρ=>(m ρ).bind λp ρ1=>.ok (.sh p) ρ1
def č(m:M RV):M PV:=λρ=>(m ρ).bind λr ρ1=>.ok r.val ρ1
section
variable{K:KK}{c:Ctx}{F H:Hp}{σ:L2.St}{ρ:ľ}
def at_of{i:Nat}{x:V}(h:(σ[i]?).getD none=some x):σ[i]?=some (some x):=by
 cases q:σ[i]? with
 |none=>rw[q] at h;cases h
 |some y=>rw[q] at h;exact congrArg some h
theorem Rel.ow(r:Rel K c F H σ ρ){i:Nat}{ps:List PV}(e:ρ[i]?=some (.ow ps)):∃a vs,σ[i]?=some (some (.ref a))/\H a=some (.lst vs)/\F a=none/\c.B a=none/\ę K F ps vs/\Ŀ F σ ρ i a:=by
 obtain⟨a,vs,h1,h2,h3,h4,h5⟩:=r.slot i _ e
 exact⟨a,vs,at_of h1,h2,h3,h4,h5,⟨_,_,e,at_of h1,rfl⟩⟩
def Rel.move(r:Rel K c F H σ ρ){i:Nat}{a:Addr}(h:Ŀ F σ ρ i a):Rel K c F H σ (ρ.set i .no)/\j_ F σ (ρ.set i .no) a:=by
 refine⟨r.Lb rfl trivial,λj ⟨s,y,q1,q3,q2⟩=>?_⟩
 rcases aC q1 with⟨_,rfl,_⟩|⟨hj,q⟩
 ·exact q2.elim
 ·exact hj (r.sep j i a ⟨s,y,q,q3,q2⟩ h)
def Rel.share(r:Rel K c F H σ ρ){i:Nat}{ps:List PV}(e:ρ[i]?=some (.ow ps)):∃a vs,σ[i]?=some (some (.ref a))/\F a=none/\Rep K (upd F a (.lst vs)) (.lst ps) (.ref a)/\Rel K c (upd F a (.lst vs)) H σ (ρ.set i (.sh (.lst ps))):=by
 obtain⟨a,vs,h1,h2,h3,h4,h5,ho⟩:=r.ow e
 obtain⟨m1,m2⟩:=r.move ho
 have rp:Rep K (upd F a (.lst vs)) (.lst ps) (.ref a):=by
  unfold Rep
  exact⟨a,vs,rfl,Ÿ.of Ħ,h5.same (Same.upd h3) ps vs⟩
 have q:=(m1.freeze h2 h4 h3 m2).Lb (i:=i) (s:=.sh (.lst ps)) rfl (show Ŭ K c _ H _ (.sh (.lst ps)) from⟨.ref a,by rw[h1];rfl,rp⟩)
 rw[List.set_set] at q
 exact⟨a,vs,h1,h3,rp,q⟩
def yX.mono{F1 H1:Hp}{p:PV}{v:V}(h:yX K F H p v)(sF:Same F F1)(sH:Same H H1):yX K F1 H1 p v:=by
 cases p with
 |lst ps=>
  obtain⟨a,vs,h2,h3,h4⟩:=h
  exact⟨a,vs,h2,sH _ _ h3,h4.same sF ps vs⟩
 |ins C ns ps=>
  obtain⟨a,dx,fs,h2,h3,h4,h5⟩:=h
  exact⟨a,dx,fs,h2,sH _ _ h3,h4,h5.same sF ps _⟩
 |_=>exact h.elim
theorem rR.mono{c:Ctx}{σ:L2.St}{ρ ρ':ľ}{F1 H1:Hp}{p:PV}{v:V}(h:rR K c σ ρ F H p v)(sF:Same F F1)(sH:Same H H1):rR K c σ ρ' F1 H1 p v:=by
 rcases h with h|h
 ·exact .inl (h.same sF p v)
 ·exact .inr (h.mono sF sH)
theorem rR.lst{c:Ctx}{σ:L2.St}{ρ:ľ}{ps:List PV}{v:V}(s:Same F H)(h:rR K c σ ρ F H (.lst ps) v):∃a vs,v=.ref a/\Ÿ K.K H a vs/\ę K F ps vs:=by
 rcases h with h|⟨a,vs,h2,h3,h4⟩
 ·unfold Rep at h
  obtain⟨a,xs,h1,h2,h3⟩:=h
  exact⟨a,xs,h1,s.seq h2,h3⟩
 ·exact⟨a,vs,h2,Ÿ.of h3,h4⟩
theorem rR.tup{c:Ctx}{σ:L2.St}{ρ:ľ}{ps:List PV}{v:V}(s:Same F H)(h:rR K c σ ρ F H (.tup ps) v):∃a vs,v=.ref a/\fH K.K H a vs/\ę K F ps vs:=by
 rcases h with h|h
 ·unfold Rep at h
  obtain⟨a,xs,h1,h2,h3⟩:=h
  exact⟨a,xs,h1,Same.tup s h2,h3⟩
 ·exact h.elim
theorem rR.int{c:Ctx}{σ:L2.St}{ρ:ľ}{i:Int}{v:V}(h:rR K c σ ρ F H (.int i) v):v=.int i:=by
 rcases h with h|h
 ·unfold Rep at h;exact h
 ·exact h.elim
theorem rR.str{c:Ctx}{σ:L2.St}{ρ:ľ}{i:Str}{v:V}(h:rR K c σ ρ F H (.str i) v):v=.str i:=by
 rcases h with h|h
 ·unfold Rep at h;exact h
 ·exact h.elim
theorem rR.bl{c:Ctx}{σ:L2.St}{ρ:ľ}{i:Bool}{v:V}(h:rR K c σ ρ F H (.bl i) v):v=.bl i:=by
 rcases h with h|h
 ·unfold Rep at h;exact h
 ·exact h.elim
theorem rR.non{c:Ctx}{σ:L2.St}{ρ:ľ}{v:V}(h:rR K c σ ρ F H .non v):v=.non:=by
 rcases h with h|h
 ·unfold Rep at h;exact h
 ·exact h.elim
theorem Rep.int{i:Int}:Rep K F (.int i) (.int i):=by unfold Rep;rfl
theorem Rep.str{i:Str}:Rep K F (.str i) (.str i):=by unfold Rep;rfl
theorem Rep.bl{i:Bool}:Rep K F (.bl i) (.bl i):=by unfold Rep;rfl
theorem Rep.non:Rep K F .non .non:=by unfold Rep;rfl
end
section
variable{X:Cx}{cm:String->Addr}{E:L2.St->XK}{a b e:Expr}{es:List Expr}{pos:Pos}{m ma mb mc:M PV}{mo:M RV}
def PT.wk{t t':TT}(h:PT X e t)(i:∀σ H Q,t' σ H Q->t σ H Q):PT X e t':=λpins s σ H Q I q=>h pins s σ H Q I (i σ H Q q)
def PA.wk{t t':TA}(h:PA X es t)(i:∀σ H Q,t' σ H Q->t σ H Q):PA X es t':=λpos pins s σ H Q I q=>h pos pins s σ H Q I (i σ H Q q)
def PW.wk{t t':TT}(h:PW X e t)(i:∀σ H Q,t' σ H Q->t σ H Q):PW X e t':=λwh pins s σ H Q I q=>h wh pins s σ H Q I (i σ H Q q)
def gZ.wk{st:List Stmt}{t t':TS}(h:gZ X st t)(i:∀D σ H,t' D σ H->t D σ H):gZ X st t':=λpins s σ H D I q=>h pins s σ H D I (i D σ H q)
def v_var(i:Nat){x:Str}{pos:Pos}(hN:X.N[i]?=some x:=by rfl)(hv:z_ X.env.scope x:=by first|exact Or.inl rfl|exact Or.inr (Or.inl rfl)|exact Or.inr (Or.inr rfl))(hd:(x== ("__debug__" :Str))=false:=by decide)
 (hcd:(x== ("__classdict__" :Str))=false:=by decide):PE X (.Name x pos) (tV (kk X cm) E (ě i)):=PE.wk (iM hN hv hd hcd) λσ H Q ⟨c,F,ρ,rel,h⟩=>by
 unfold ě at h
 split at h
 ·rename_i p e
  obtain⟨v,h1,h2⟩:=rel.slot i _ e
  exact⟨v,at_of h1,h v F H rel (Same.refl F) (Same.refl H) h2⟩
 ·rename_i ps e
  obtain⟨a,vs,h1,h2,h3,h4⟩:=rel.share e
  exact⟨.ref a,h1,h _ _ H h4 (Same.upd h2) (Same.refl H) h3⟩
 ·exact h.elim
def ā(i:Nat){x:Str}{pos:Pos}(hN:X.N[i]?=some x:=by rfl)(hv:z_ X.env.scope x:=by first|exact Or.inl rfl|exact Or.inr (Or.inl rfl)|exact Or.inr (Or.inr rfl))(hd:(x== ("__debug__" :Str))=false:=by decide)
 (hcd:(x== ("__classdict__" :Str))=false:=by decide):PE X (.Name x pos) (tR (kk X cm) E (Ā i)):=PE.wk (iM hN hv hd hcd) λσ H Q ⟨c,F,ρ,rel,h⟩=>by
 unfold Ā at h
 split at h
 ·rename_i p e
  obtain⟨v,h1,h2⟩:=rel.slot i _ e
  exact⟨v,at_of h1,h v F H rel (Same.refl F) (Same.refl H) (.inl h2)⟩
 ·rename_i ps e
  obtain⟨a,vs,h1,h2,h3,h4,h5,_⟩:=rel.ow e
  exact⟨.ref a,h1,h _ F H rel (Same.refl F) (Same.refl H) (.inr ⟨a,vs,rfl,h2,h5⟩)⟩
 ·rename_i ps e
  obtain⟨a,vs,h1,h2,h3⟩:=rel.slot i _ e
  exact⟨.ref a,at_of h1,h _ F H rel (Same.refl F) (Same.refl H) (.inr ⟨a,vs,rfl,(rel.lent a _ h2).1,h3⟩)⟩
 ·rename_i C ns ps e
  obtain⟨a,dx,fs,h1,h2,h3,h4,h5,h6⟩:=rel.slot i _ e
  exact⟨.ref a,at_of h1,h _ F H rel (Same.refl F) (Same.refl H) (.inr ⟨a,dx,fs,rfl,h2,h5,h6.1⟩)⟩
 ·exact h.elim
def pJ(i:Nat){x:Str}{pos:Pos}(hN:X.N[i]?=some x:=by rfl)(hv:z_ X.env.scope x:=by first|exact Or.inl rfl|exact Or.inr (Or.inl rfl)|exact Or.inr (Or.inr rfl))(hd:(x== ("__debug__" :Str))=false:=by decide)
 (hcd:(x== ("__classdict__" :Str))=false:=by decide):PE X (.Name x pos) (tO (kk X cm) E (jj i)):=PE.wk (iM hN hv hd hcd) λσ H Q ⟨c,F,ρ,rel,h⟩=>by
 unfold jj at h
 split at h
 ·rename_i p e
  obtain⟨v,h1,h2⟩:=rel.slot i _ e
  exact⟨v,at_of h1,h v F H rel (Same.refl F) (Same.refl H) h2⟩
 ·rename_i ps e
  obtain⟨a,vs,h1,h2,h3,h4,h5,h6⟩:=rel.ow e
  obtain⟨m1,m2⟩:=rel.move h6
  exact⟨.ref a,h1,h _ F H m1 (Same.refl F) (Same.refl H) ⟨a,vs,rfl,h2,h3,h4,m2,h5⟩⟩
 ·exact h.elim
def Js{v:V}(p:PV)(h:PE X e (tC v))(hr:∀F,Rep (kk X cm) F p v:=by intro _;unfold Rep;rfl):PE X e (tV (kk X cm) E (mC p)):=PE.wk h λσ H Q ⟨c,F,ρ,rel,h⟩=>h v F H rel (Same.refl F) (Same.refl H) (hr F)
def ĥ{i j pos}:PE X (.Constant (.int i) j pos) (tV (kk X cm) E (mC (.int i))):=Js _ Sh
def ug{i j pos}:PE X (.Constant (.bool i) j pos) (tV (kk X cm) E (mC (.bl i))):=Js _ Yg
def uh{j pos}:PE X (.Constant .none j pos) (tV (kk X cm) E (mC .non)):=Js _ Sq
def fL{x j pos}:PE X (.Constant (.str x) j pos) (tV (kk X cm) E (mC (.str x))):=Js _ Ss
def Ě(h:PE X e (tV (kk X cm) E m)):PE X e (tR (kk X cm) E m):=PE.wk h λσ H Q ⟨c,F,ρ,rel,h⟩=>⟨c,F,ρ,rel,h.rel λ_ _ _ _ _ _ q=>.inl q⟩
def ť(h:PE X e (tV (kk X cm) E m)):PE X e (tO (kk X cm) E (ŀ m)):=PE.wk h λσ H Q ⟨c,F,ρ,rel,h⟩=>⟨c,F,ρ,rel,h.bind λp ρ1 v F1 H1 ĕ s1 s2 q h1=>h1 v F1 H1 ĕ (Same.refl _) (Same.refl _) q⟩
def Held.share{K:KK}{c:Ctx}{F H:Hp}{σ:L2.St}{ρ:ľ}{ps:List PV}{v:V}(rel:Rel K c F H σ ρ)(h:Held K c σ ρ F H ps v):∃F1,Same F F1/\Rel K c F1 H σ ρ/\Rep K F1 (.lst ps) v:=by
 obtain⟨a,vs,rfl,h1,h2,h3,h4,h5⟩:=h
 refine⟨_,Same.upd h2,rel.freeze h1 h3 h2 h4,?_⟩
 unfold Rep
 exact⟨a,vs,rfl,Ÿ.of Ħ,h5.same (Same.upd h2) ps vs⟩
def yZ.share{K:KK}{c:Ctx}{F H:Hp}{σ:L2.St}{ρ:ľ}{ps qs:List PV}{v:V}(rel:Rel K c F H σ ρ)(h:yZ K c σ ρ F H ps qs v):∃F1,Same F F1/\Rel K c F1 H σ ρ/\Rep K F1 (.tup (ps ++ [.lst qs])) v:=by
 obtain⟨p,a,xs,vs,rfl,h0,hx,h1,h2,h3,h4,h5⟩:=h
 refine⟨_,Same.upd h2,rel.freeze h1 h3 h2 h4,?_⟩
 have ra:Rep K (upd F a (.lst vs)) (.lst qs) (.ref a):=by
  unfold Rep
  exact⟨a,vs,rfl,Ÿ.of Ħ,h5.same (Same.upd h2) qs vs⟩
 unfold Rep
 exact⟨p,_,rfl,fH.of (Same.upd h2 _ _ h0),ę.append (hx.same (Same.upd h2) ps xs) (ę.cons ra ę.nil)⟩
def ğ(h:PE X e (tO (kk X cm) E mo)):PE X e (tV (kk X cm) E (č mo)):=PE.wk h λσ H Q ⟨c,F,ρ,rel,h⟩=>⟨c,F,ρ,rel,h.bind λr ρ1 v F1 H1 ĕ s1 s2 q h1=>by
 cases r with
 |sh p=>exact h1 v F1 H1 ĕ (Same.refl _) (Same.refl _) q
 |ow ps=>
  obtain⟨F2,s3,ķ,rp⟩:=Held.share ĕ q
  exact h1 v F2 H1 ķ s3 (Same.refl _) rp
 |ot ps qs=>
  obtain⟨F2,s3,ķ,rp⟩:=yZ.share ĕ q
  exact h1 v F2 H1 ķ s3 (Same.refl _) rp⟩
def ă(f:PV->PV->Option PV)(ma mb:M PV):M PV:=λρ=>(ma ρ).bind λp ρ1=>(mb ρ1).bind λq ρ2=>Res.lW (f p q) ρ2
def Ġ(f:PV->PV->Option RV)(ma mb:M PV):M RV:=λρ=>(ma ρ).bind λp ρ1=>(mb ρ1).bind λq ρ2=>Res.lW (f p q) ρ2
def ig(K:KK)(r:R2)(f:PV->PV->Option PV):Prop:=∀{c:Ctx} {F H:Hp} {σ:L2.St} {ρ:ľ} {p q pv:PV} {v u:V} {Q:VK},Rel K c F H σ ρ->rR K c σ ρ F H p v->rR K c σ ρ F H q u->f p q=some pv->
 (∀z F' H',Rel K c F' H' σ ρ->Same F F'->Same H H'->Rep K F' pv z->Q z H')->r v u H Q
def OpO(K:KK)(r:R2)(f:PV->PV->Option RV):Prop:=∀{c:Ctx} {F H:Hp} {σ:L2.St} {ρ:ľ} {p q:PV} {pv:RV} {v u:V} {Q:VK},Rel K c F H σ ρ->rR K c σ ρ F H p v->rR K c σ ρ F H q u->f p q=some pv->
 (∀z F' H',Rel K c F' H' σ ρ->Same F F'->Same H H'->rO K c σ ρ F' H' pv z->Q z H')->r v u H Q
def za{r:R2}{f:PV->PV->Option PV}(hf:ig (kk X cm) r f){σ:L2.St}{H:Hp}{Q:VK}(h:tV (kk X cm) E (ă f ma mb) σ H Q):XH r (tR (kk X cm) E ma) (tR (kk X cm) E mb) σ H Q:=by
 obtain⟨c,F,ρ,rel,h⟩:=h
 refine⟨c,F,ρ,rel,h.bind λp ρ1 v F1 H1 ĕ _ _ r1 h1=>⟨c,F1,ρ1,ĕ,h1.bind λq ρ2 u F2 H2 ķ sF sH r2 h2=>?_⟩⟩
 cases e:f p q with
 |none=>rw[e] at h2;exact h2.elim
 |some pv=>rw[e] at h2;exact hf ķ (r1.mono sF sH) r2 e λz F' H' aK s1 s2 q'=>h2 z F' H' aK s1 s2 q'
def YX{r:R2}{f:PV->PV->Option RV}(hf:OpO (kk X cm) r f){σ:L2.St}{H:Hp}{Q:VK}(h:tO (kk X cm) E (Ġ f ma mb) σ H Q):XH r (tR (kk X cm) E ma) (tR (kk X cm) E mb) σ H Q:=by
 obtain⟨c,F,ρ,rel,h⟩:=h
 refine⟨c,F,ρ,rel,h.bind λp ρ1 v F1 H1 ĕ _ _ r1 h1=>⟨c,F1,ρ1,ĕ,h1.bind λq ρ2 u F2 H2 ķ sF sH r2 h2=>?_⟩⟩
 cases e:f p q with
 |none=>rw[e] at h2;exact h2.elim
 |some pv=>rw[e] at h2;exact hf ķ (r1.mono sF sH) r2 e λz F' H' aK s1 s2 q'=>h2 z F' H' aK s1 s2 q'
def bC{op:Operator}{r:R2}{f:PV->PV->Option PV}(hf:ig (kk X cm) r f)(ho:Ş X (binaryOp op) r)(ha:PE X a (tR (kk X cm) E ma))(hb:PE X b (tR (kk X cm) E mb)):PE X (.BinOp a op b pos) (tV (kk X cm) E (ă f ma mb)):=PE.wk (La ho ha hb) λ_ _ _ h=>za hf h
def YZ{op:Operator}{r:R2}{f:PV->PV->Option RV}(hf:OpO (kk X cm) r f)(ho:Ş X (binaryOp op) r)(ha:PE X a (tR (kk X cm) E ma))(hb:PE X b (tR (kk X cm) E mb)):PE X (.BinOp a op b pos) (tO (kk X cm) E (Ġ f ma mb)):=PE.wk (La ho ha hb) λ_ _ _ h=>YX hf h
def jk{op:CmpOp}{r:R2}{f:PV->PV->Option PV}(hf:ig (kk X cm) r f)(ho:Ş X (compareOp op) r)(ha:PE X a (tR (kk X cm) E ma))(hb:PE X b (tR (kk X cm) E mb))(hm:behindInMarks op b=false):PE X (.Compare a [op] [b] pos) (tV (kk X cm) E (ă f ma mb)):=
 PE.wk (Ip ho ha hb hm) λ_ _ _ h=>za hf h
def Zct{r:R2}{f:PV->PV->Option PV}(hf:ig (kk X cm) r f)(hr:vY X r)(ha:PE X a (tR (kk X cm) E ma))(hb:PE X b (tR (kk X cm) E mb))(hs:lR b):PE X (.Subscript a b pos) (tV (kk X cm) E (ă f ma mb)):=
 PE.wk (Yu hr ha hb hs) λ_ _ _ h=>za hf h
def aL(f:PV->Option PV)(ma:M PV):M PV:=λρ=>(ma ρ).bind λp ρ1=>Res.lW (f p) ρ1
def UnV(K:KK)(r:V->Hp->VK->Prop)(f:PV->Option PV):Prop:=∀{c:Ctx} {F H:Hp} {σ:L2.St} {ρ:ľ} {p pv:PV} {v:V} {Q:VK},Rel K c F H σ ρ->rR K c σ ρ F H p v->f p=some pv->
 (∀z F' H',Rel K c F' H' σ ρ->Same F F'->Same H H'->Rep K F' pv z->Q z H')->r v H Q
def gQ{op:UnaryOp}{r:V->Hp->VK->Prop}{f:PV->Option PV}(hf:UnV (kk X cm) r f)(ho:Il X (unaryOp op) r)(ha:PE X a (tR (kk X cm) E ma)):PE X (.UnaryOp op a pos) (tV (kk X cm) E (aL f ma)):=PE.wk (Yn ho ha) λσ H Q ⟨c,F,ρ,rel,h⟩=>
 ⟨c,F,ρ,rel,h.bind fun p ρ1 v F1 H1 ĕ _ _ r1 h1=>by
   cases e:f p with
   |none=>rw[e] at h1;exact h1.elim
   |some pv=>rw[e] at h1;exact hf ĕ r1 e λz F' H' aK s1 s2 q'=>h1 z F' H' aK s1 s2 q'⟩
def UL:PV->Option Bool
 | .bl b=>some b
 | .int i=>some (i != 0)
 | .non=>some false
 | .str y=>if y.length<=sizeLine then some ((y.length:Int) != 0) else none
 | .lst ps=>some (!ps.isEmpty)
 | .tup ps=>some (!ps.isEmpty)
 |_=>none
def gR(m:M PV):M Bool:=λρ=>(m ρ).bind λp ρ1=>Res.lW (UL p) ρ1
def Y_{K:KK}{c:Ctx}{F H:Hp}{σ:L2.St}{ρ:ľ}{p:PV}{v:V}{k:Bool}(s:Same F H)(r:rR K c σ ρ F H p v)(h:UL p=some k):Tw K.K v H k:=by
 cases p with
 |bl b=>cases r.bl;cases h;rfl
 |int i=>cases r.int;cases h;rfl
 |non=>cases r.non;cases h;rfl
 |str y=>
  cases r.str
  have h':(if y.length<=sizeLine then some ((y.length:Int) != 0) else none)=some k:=h
  split at h'
  ·rename_i hy;cases h';exact⟨hy,rfl⟩
  ·cases h'
 |lst ps=>
  obtain⟨a,vs,rfl,h1,h2⟩:=r.lst s
  cases h
  have e:ps.isEmpty=vs.isEmpty:=by cases h2.pr<;>rfl
  exact .inl ⟨vs,h1,by rw[e]⟩
 |tup ps=>
  obtain⟨a,vs,rfl,h1,h2⟩:=r.tup s
  cases h
  have e:ps.isEmpty=vs.isEmpty:=by cases h2.pr<;>rfl
  exact .inr (.inl ⟨vs,h1,by rw[e]⟩)
 |ins C ns ps=>cases h
 |xc C ns ps=>cases h
 |ty n=>cases h
 |cls C=>cases h
def fM(ha:PE X a (tR (kk X cm) E ma))(he:∀whole,isTrue a X.env whole=(do let v <-whole;standAt a.pos;holding [v] (truthy v)):=by intro _;rfl):PT X a (tB (kk X cm) E (gR ma)):=PT.wk (B_ ha he) λσ H Q ⟨c,F,ρ,rel,h⟩=>
 ⟨c,F,ρ,rel,h.bind fun p ρ1 v F1 H1 ĕ _ _ r1 h1=>by
   cases e:UL p with
   |none=>rw[e] at h1;exact h1.elim
   |some k=>rw[e] at h1;exact⟨k,Y_ ĕ.sub r1 e,h1 k F1 H1 ĕ (Same.refl _) (Same.refl _) rfl⟩⟩
def aM(m:M PV):M Bool:=λρ=>(m ρ).bind λp ρ1=>match p with
 | .bl b=>.ok b ρ1
 |_=>.bad
def Ld{σ:L2.St}{H:Hp}{Q:Bool->Hp->Prop}(h:tB (kk X cm) E (aM m) σ H Q):M2.Cu (tV (kk X cm) E m) σ H Q:=by
 obtain⟨c,F,ρ,rel,h⟩:=h
 refine⟨c,F,ρ,rel,h.bind λp ρ1 v F1 H1 ĕ _ _ r1 h1=>?_⟩
 cases p with
 |bl b=>
  have e:v=.bl b:=by have r1':Rep (kk X cm) F1 (.bl b) v:=r1;unfold Rep at r1';exact r1'
  subst e
  exact h1 b F1 H1 ĕ (Same.refl _) (Same.refl _) rfl
 |_=>exact h1.elim
def ů{op:CmpOp}{r:R2}{f:PV->PV->Option PV}(hf:ig (kk X cm) r f)(ho:Ş X (compareOp op) r)(ha:PE X a (tR (kk X cm) E ma))(hb:PE X b (tR (kk X cm) E mb))(hm:behindInMarks op b=false):PT X (.Compare a [op] [b] pos) (tB (kk X cm) E (aM (ă f ma mb))):=
 PT.wk (Ug ho ha hb hm) fun σ H Q h=>by
   obtain⟨c,F,ρ,rel,h⟩:=Ld h
   exact za hf ⟨c,F,ρ,rel,h⟩
def lF(f g:PV->PV->Option PV)(ma mb mc:M PV):M PV:=λρ=>(ma ρ).bind λp ρ1=>(mb ρ1).bind λq ρ2=>(Res.lW (f p q) ρ2).bind λz ρ3=>match z with
 | .bl true=>(mc ρ3).bind λw ρ4=>Res.lW (g q w) ρ4
 | .bl false=>.ok (.bl false) ρ3
 |_=>.bad
def Le{r r':R2}{f g:PV->PV->Option PV}(hf:ig (kk X cm) r f)(hg:ig (kk X cm) r' g){σ:L2.St}{H:Hp}{Q:VK}(h:tV (kk X cm) E (lF f g ma mb mc) σ H Q):M2.vZ r r' (tR (kk X cm) E ma) (tR (kk X cm) E mb) (tR (kk X cm) E mc) σ H Q:=by
 obtain⟨c,F,ρ,rel,h⟩:=h
 refine⟨c,F,ρ,rel,h.bind λp ρ1 v F1 H1 ĕ _ _ r1 h1=>⟨c,F1,ρ1,ĕ,h1.bind λq ρ2 u F2 H2 ķ sF sH r2 h2=>?_⟩⟩
 cases e:f p q with
 |none=>rw[e] at h2;exact h2.elim
 |some pv=>
  rw[e] at h2
  refine hf ķ (r1.mono sF sH) r2 e λz F' H' aK s1 s2 q'=>?_
  cases pv with
  |bl k=>
   have ez:z=.bl k:=by unfold Rep at q';exact q'
   subst ez
   cases k with
   |false=>exact h2 _ F' H' aK s1 s2 q'
   |true=>
    refine⟨c,F',ρ2,aK,aJ.bind (aJ.mono h2 s1 s2) λw ρ4 x F4 H4 Dp s3 s4 r4 h4=>?_⟩
    cases e':g q w with
    |none=>rw[e'] at h4;exact h4.elim
    |some pv'=>rw[e'] at h4;exact hg Dp (r2.mono (s1.trans s3) (s2.trans s4)) r4 e' λz F' H' aK s1 s2 q'=>h4 z F' H' aK s1 s2 q'
  |_=>exact h2.elim
def pK{op op':CmpOp}{r r':R2}{f g:PV->PV->Option PV}{c:Expr}(hf:ig (kk X cm) r f)(hg:ig (kk X cm) r' g)(ho:Ş X (compareOp op) r)(ho':Ş X (compareOp op') r')(ha:PE X a (tR (kk X cm) E ma))(hb:PE X b (tR (kk X cm) E mb))(hc:PE X c (tR (kk X cm) E mc))
 (hm:lastMarks [op,op'] [b,c]=false:=by with_unfolding_all rfl):PE X (.Compare a [op,op'] [b,c] pos) (tV (kk X cm) E (lF f g ma mb mc)):=PE.wk (Cv ho ho' ha hb hc hm) λ_ _ _ h=>Le hf hg h
def Lf{op op':CmpOp}{r r':R2}{f g:PV->PV->Option PV}{c:Expr}(hf:ig (kk X cm) r f)(hg:ig (kk X cm) r' g)(ho:Ş X (compareOp op) r)(ho':Ş X (compareOp op') r')(ha:PE X a (tR (kk X cm) E ma))(hb:PE X b (tR (kk X cm) E mb))(hc:PE X c (tR (kk X cm) E mc))
 (hm:lastMarks [op,op'] [b,c]=false:=by with_unfolding_all rfl):PT X (.Compare a [op,op'] [b,c] pos) (tB (kk X cm) E (aM (lF f g ma mb mc))):=PT.wk (Cw ho ho' ha hb hc hm) λσ H Q h=>by
 obtain⟨c,F,ρ,rel,h⟩:=Ld h
 exact Le hf hg ⟨c,F,ρ,rel,h⟩
def kh(m:M Bool):M Bool:=λρ=>(m ρ).bind λb ρ1=>.ok (!b) ρ1
def zc{m:M Bool}(h:PT X a (tB (kk X cm) E m)):PT X (.UnaryOp .Not a pos) (tB (kk X cm) E (kh m)):=PT.wk (Sx h) λσ H Q ⟨c,F,ρ,rel,h⟩=>
 ⟨c,F,ρ,rel,h.bind λp ρ1 v F1 H1 ĕ _ _ r1 h1=>h1 _ F1 H1 ĕ (Same.refl _) (Same.refl _) (by have e:p=v:=r1;rw[e];rfl)⟩
def dZ(ma mb:M Bool):M Bool:=λρ=>(ma ρ).bind λb ρ1=>if b=true then mb ρ1 else .ok false ρ1
def Jt(ma mb:M Bool):M Bool:=λρ=>(ma ρ).bind λb ρ1=>if b=true then .ok true ρ1 else mb ρ1
variable{ta tb:M Bool}{rest:List Expr}
def b_(h:PT X a (tB (kk X cm) E ta)):PW X (.BoolOp .And [a] pos) (tB (kk X cm) E ta):=Ie h
def Lg(h:PT X a (tB (kk X cm) E ta)):PW X (.BoolOp .Or [a] pos) (tB (kk X cm) E ta):=Sv h
def w_and(ha:PT X a (tB (kk X cm) E ta))(hb:PW X (.BoolOp .And (b::rest) pos) (tB (kk X cm) E tb)):PW X (.BoolOp .And (a::b::rest) pos) (tB (kk X cm) E (dZ ta tb)):=PW.wk (Sw ha hb) λσ H Q ⟨c,F,ρ,rel,h⟩=>
 ⟨c,F,ρ,rel,h.bind fun p ρ1 v F1 H1 ĕ _ _ r1 h1=>by
   have e:p=v:=r1
   subst e
   cases p with
   |true=>exact⟨c,F1,ρ1,ĕ,h1⟩
   |false=>exact h1 false F1 H1 ĕ (Same.refl _) (Same.refl _) rfl⟩
def w_or(ha:PT X a (tB (kk X cm) E ta))(hb:PW X (.BoolOp .Or (b::rest) pos) (tB (kk X cm) E tb)):PW X (.BoolOp .Or (a::b::rest) pos) (tB (kk X cm) E (Jt ta tb)):=PW.wk (Yh ha hb) λσ H Q ⟨c,F,ρ,rel,h⟩=>
 ⟨c,F,ρ,rel,h.bind fun p ρ1 v F1 H1 ĕ _ _ r1 h1=>by
   have e:p=v:=r1
   subst e
   cases p with
   |false=>exact⟨c,F1,ρ1,ĕ,h1⟩
   |true=>exact h1 true F1 H1 ĕ (Same.refl _) (Same.refl _) rfl⟩
def fO(ma mb:M PV):M PV:=λρ=>(ma ρ).bind λp ρ1=>match p with
 | .bl true=>mb ρ1
 | .bl false=>.ok (.bl false) ρ1
 |_=>.bad
def wB{K:KK}{F:Hp}{b:Bool}{v:V}(h:Rep K F (.bl b) v):v=.bl b:=by unfold Rep at h;exact h
def kj{op}(h:PE X a (tV (kk X cm) E ma)):PE X (.BoolOp op [a] pos) (tV (kk X cm) E ma):=Sy h
def v_and(ha:PE X a (tV (kk X cm) E ma))(hb:PE X (.BoolOp .And (b::rest) pos) (tV (kk X cm) E mb)):PE X (.BoolOp .And (a::b::rest) pos) (tV (kk X cm) E (fO ma mb)):=PE.wk (Uh ha hb) λσ H Q ⟨c,F,ρ,rel,h⟩=>
 ⟨c,F,ρ,rel,h.bind fun p ρ1 v F1 H1 ĕ _ _ r1 h1=>by
   cases p with
   |bl k=>
    cases wB r1
    cases k with
    |true=>exact⟨c,F1,ρ1,ĕ,h1⟩
    |false=>exact h1 _ F1 H1 ĕ (Same.refl _) (Same.refl _) r1
   |_=>exact h1.elim⟩
def bJ{α:Type}(t:M Bool)(ma mb:M α):M α:= λρ=>(t ρ).bind λb ρ1=>if b=true then ma ρ1 else mb ρ1
def Z_{α:Type}{R:RR α V}{c':Expr}{ma mb:M α}(hc:PT X c' (tB (kk X cm) E ta))(ha:PE X a (tG (kk X cm) E R ma))(hb:PE X b (tG (kk X cm) E R mb)):PE X (.IfExp c' a b pos) (tG (kk X cm) E R (bJ ta ma mb)):=PE.wk (Bx hc ha hb) λσ H Q ⟨c,F,ρ,rel,h⟩=>
 ⟨c,F,ρ,rel,h.bind fun p ρ1 v F1 H1 ĕ _ _ r1 h1=>by
   have e:p=v:=r1
   subst e
   cases p with
   |true=>exact⟨c,F1,ρ1,ĕ,h1⟩
   |false=>exact⟨c,F1,ρ1,ĕ,h1⟩⟩
def Ĕ:M (List PV):=λρ=>.ok [] ρ
def Ă(ma:M PV)(mr:M (List PV)):M (List PV):=λρ=>(ma ρ).bind λp ρ1=>(mr ρ1).bind λps ρ2=>.ok (p::ps) ρ2
variable{mr:M (List PV)}
def ė:PA X [] (tL (kk X cm) E Ĕ):=PA.wk mz λσ H Q ⟨c,F,ρ,rel,h⟩=>h [] F H rel (Same.refl _) (Same.refl _) ę.nil
def ą(ha:PE X e (tV (kk X cm) E ma))(hr:PA X es (tL (kk X cm) E mr))(hs:starEach (e::es) X.env=(false,eval e X.env)::starEach es X.env:=by exact ſ rfl):PA X (e::es) (tL (kk X cm) E (Ă ma mr)):=PA.wk (gK ha hr hs) λσ H Q ⟨c,F,ρ,rel,h⟩=>
 ⟨c,F,ρ,rel,h.bind λp ρ1 v F1 H1 ĕ _ _ r1 h1=>⟨c,F1,ρ1,ĕ,h1.bind λps ρ2 vs F2 H2 ķ sF sH r2 h2=>h2 _ F2 H2 ķ (Same.refl _) (Same.refl _) (ę.cons (Rep.same sF p v r1) r2)⟩⟩
def ħ:PA X [] (Jr (kk X cm) E Ĕ):=PA.wk mz λσ H Q ⟨c,F,ρ,rel,h⟩=>h [] F H rel (Same.refl _) (Same.refl _) .nil
def Ĝ(ha:PE X e (tR (kk X cm) E ma))(hr:PA X es (Jr (kk X cm) E mr))(hs:starEach (e::es) X.env=(false,eval e X.env)::starEach es X.env:=by exact ſ rfl):PA X (e::es) (Jr (kk X cm) E (Ă ma mr)):=PA.wk (gK ha hr hs) λσ H Q ⟨c,F,ρ,rel,h⟩=>
 ⟨c,F,ρ,rel,h.bind λp ρ1 v F1 H1 ĕ _ _ r1 h1=>⟨c,F1,ρ1,ĕ,h1.bind λps ρ2 vs F2 H2 ķ sF sH r2 h2=>h2 _ F2 H2 ķ (Same.refl _) (Same.refl _) (.cons (rR.mono r1 sF sH) r2)⟩⟩
def Ċ:M (List Slot):=λρ=>.ok [] ρ
def ć(ma:M PV)(mr:M (List Slot)):M (List Slot):=λρ=>(ma ρ).bind λp ρ1=>(mr ρ1).bind λas ρ2=>.ok (.sh p::as) ρ2
def cM:Slot->Option Slot
 | .sh p=>some (.sh p)
 | .ow ps=>some (.bw ps)
 | .bw ps=>some (.bw ps)
 |_=>none
def Ą(i:Nat)(mr:M (List Slot)):M (List Slot):=λρ=>match(ρ[i]?).bind cM with
 |none=>.bad
 |some _=>(mr ρ).bind λas ρ2=>match(ρ2[i]?).bind cM with
  |some s=>.ok (s::as) ρ2
  |none=>.bad
variable{ms:M (List Slot)}
def ď:PA X [] (tA (kk X cm) E Ċ):=PA.wk mz λσ H Q ⟨c,F,ρ,rel,h⟩=>h [] F H rel (Same.refl _) (Same.refl _) .nil
def ċ(ha:PE X e (tV (kk X cm) E ma))(hr:PA X es (tA (kk X cm) E ms))(hs:starEach (e::es) X.env=(false,eval e X.env)::starEach es X.env:=by exact ſ rfl):PA X (e::es) (tA (kk X cm) E (ć ma ms)):=PA.wk (gK ha hr hs) λσ H Q ⟨c,F,ρ,rel,h⟩=>
 ⟨c,F,ρ,rel,h.bind λp ρ1 v F1 H1 ĕ _ _ r1 h1=>⟨c,F1,ρ1,ĕ,h1.bind λas ρ2 vs F2 H2 ķ sF sH r2 h2=>h2 _ F2 H2 ķ (Same.refl _) (Same.refl _) (.cons (show bB _ _ _ (.sh p) v from Rep.same sF p v r1) r2)⟩⟩
def zf{K:KK}{c:Ctx}{F H:Hp}{σ:L2.St}{ρ:ľ}{i:Nat}{s:Slot}(rel:Rel K c F H σ ρ)(h:(ρ[i]?).bind cM=some s):∃v,σ[i]?=some (some v)/\bB K F H s v:=by
 cases e:ρ[i]? with
 |none=>rw[e] at h;cases h
 |some sl=>
  rw[e] at h
  have h':cM sl=some s:=h
  cases sl with
  |sh p=>
   cases h'
   obtain⟨v,h1,h2⟩:=rel.slot i _ e
   exact⟨v,at_of h1,h2⟩
  |ow ps=>
   cases h'
   obtain⟨a,vs,h1,h2,h3,h4,h5,_⟩:=rel.ow e
   exact⟨.ref a,h1,a,vs,rfl,h2,h3,h5⟩
  |bw ps=>
   cases h'
   obtain⟨a,vs,h1,h2,h3⟩:=rel.slot i _ e
   exact⟨.ref a,at_of h1,a,vs,rfl,(rel.lent a _ h2).1,(rel.lent a _ h2).2,h3⟩
  |no=>cases h'
  |rc C ns ps=>cases h'
  |ot ps qs=>cases h'
  |ol Bp=>cases h'
def Ju(i:Nat){x:Str}{px:Pos}(hN:X.N[i]?=some x:=by rfl)(hv:z_ X.env.scope x:=by first|exact Or.inl rfl|exact Or.inr (Or.inl rfl)|exact Or.inr (Or.inr rfl))(hd:(x== ("__debug__" :Str))=false:=by decide)
 (hcd:(x== ("__classdict__" :Str))=false:=by decide)(hr:PA X es (tA (kk X cm) E ms))(hs:starEach (.Name x px::es) X.env=(false,eval (.Name x px) X.env)::starEach es X.env:=by exact ſ rfl):PA X (.Name x px::es) (tA (kk X cm) E (Ą i ms)):=
 PA.wk (gK (iM hN hv hd hcd) hr hs) fun σ H Q ⟨c,F,ρ,rel,h⟩=>by
   unfold Ą at h
   cases e:(ρ[i]?).bind cM with
   |none=>rw[e] at h;exact h.elim
   |some s0=>
    rw[e] at h
    obtain⟨v,hv,_⟩:=zf rel e
    refine⟨v,hv,c,F,ρ,rel,aJ.bind h λas ρ2 vs F2 H2 ķ sF sH r2 h2=>?_⟩
    cases e2:(ρ2[i]?).bind cM with
    |none=>simp only[e2] at h2;exact h2.elim
    |some s=>
     simp only[e2] at h2
     obtain⟨v',hv',r1⟩:=zf ķ e2
     rw[hv] at hv'
     cases hv'
     exact h2 _ F2 H2 ķ (Same.refl _) (Same.refl _) (.cons r1 r2)
def Ĺ(mr:M (List PV)):M PV:=λρ=>(mr ρ).bind λps ρ1=>if ps.length<=16777216 then .ok (.tup ps) ρ1 else .bad
def ś(mr:M (List PV)):M RV:=λρ=>(mr ρ).bind λps ρ1=>if ps.length<=16777216 then .ok (.ow ps) ρ1 else .bad
def ĺ:sizeLine=16777216:=sizeLine_eq
def Į{x1}(h:PA X es (tL (kk X cm) E mr)):PE X (.Tuple es x1 pos) (tV (kk X cm) E (Ĺ mr)):=PE.wk (TQ h) λσ H Q ⟨c,F,ρ,rel,h⟩=>
 ⟨c,F,ρ,rel,h.bind fun ps ρ1 vs F1 H1 ĕ _ _ r1 h1=>by
   split at h1
   ·rename_i hz
    refine⟨by rw[<-ę.length r1,ĺ];exact hz,λp hp=>h1 _ _ _ (ĕ.alloc hp) (Same.upd (ĕ.sub.free hp)) (Same.upd hp) ?_⟩
    show Rep _ _ _ _
    unfold Rep
    exact⟨p,vs,rfl,fH.of Ħ,ę.same (Same.upd (ĕ.sub.free hp)) ps vs r1⟩
   ·exact h1.elim⟩
def cO{K:KK}{c:Ctx}{F H:Hp}{σ:L2.St}{ρ:ľ}{ps:List PV}{vs:List V}{a:Addr}(rel:Rel K c F H σ ρ)(ha:H a=none)(r:ę K F ps vs):Rel K c F (upd H a (.lst vs)) σ ρ/\Held K c σ ρ F (upd H a (.lst vs)) ps (.ref a):=
 ⟨rel.made ha,a,vs,rfl,Ħ,rel.sub.free ha,rel.base.free ha,rel.fresh ha,r⟩
def ō(h:PA X es (tL (kk X cm) E mr)):PE X (.List es pos) (tO (kk X cm) E (ś mr)):=PE.wk (TY h) λσ H Q ⟨c,F,ρ,rel,h⟩=>
 ⟨c,F,ρ,rel,h.bind fun ps ρ1 vs F1 H1 ĕ _ _ r1 h1=>by
   split at h1
   ·rename_i hz
    refine⟨by rw[<-ę.length r1,ĺ];exact hz,λp hp=>?_⟩
    obtain⟨q1,q2⟩:=cO ĕ hp r1
    exact h1 _ _ _ q1 (Same.refl _) (Same.upd hp) q2
   ·exact h1.elim⟩
def cZ(f:List PV->Option PV)(mr:M (List PV)):M PV:=λρ=>(mr ρ).bind λps ρ1=>Res.lW (f ps) ρ1
def jl(f:List PV->Option RV)(mr:M (List PV)):M RV:=λρ=>(mr ρ).bind λps ρ1=>Res.lW (f ps) ρ1
def eE(K:KK)(r:List V->Hp->VK->Prop)(f:List PV->Option PV):Prop:=∀{c:Ctx} {F H:Hp} {σ:L2.St} {ρ:ľ} {ps:List PV} {pv:PV} {vs:List V} {Q:VK},Rel K c F H σ ρ->YW K c σ ρ F H ps vs->f ps=some pv->
 (∀z F' H',Rel K c F' H' σ ρ->Same F F'->Same H H'->Rep K F' pv z->Q z H')->r vs H Q
def Dq(K:KK)(r:List V->Hp->VK->Prop)(f:List PV->Option RV):Prop:=∀{c:Ctx} {F H:Hp} {σ:L2.St} {ρ:ľ} {ps:List PV} {pv:RV} {vs:List V} {Q:VK},Rel K c F H σ ρ->YW K c σ ρ F H ps vs->f ps=some pv->
 (∀z F' H',Rel K c F' H' σ ρ->Same F F'->Same H H'->rO K c σ ρ F' H' pv z->Q z H')->r vs H Q
def Zaa{r:List V->Hp->VK->Prop}{f:List PV->Option PV}(hf:eE (kk X cm) r f){σ:L2.St}{H:Hp}{Q:VK}(h:tV (kk X cm) E (cZ f mr) σ H Q):tCB r (Jr (kk X cm) E mr) σ H Q:=by
 obtain⟨c,F,ρ,rel,h⟩:=h
 refine⟨c,F,ρ,rel,h.bind λp ρ1 v F1 H1 ĕ _ _ r1 h1=>?_⟩
 cases e:f p with
 |none=>rw[e] at h1;exact h1.elim
 |some pv=>rw[e] at h1;exact hf ĕ r1 e λz F' H' aK s1 s2 q'=>h1 z F' H' aK s1 s2 q'
def Zcu{r:List V->Hp->VK->Prop}{f:List PV->Option RV}(hf:Dq (kk X cm) r f){σ:L2.St}{H:Hp}{Q:VK}(h:tO (kk X cm) E (jl f mr) σ H Q):tCB r (Jr (kk X cm) E mr) σ H Q:=by
 obtain⟨c,F,ρ,rel,h⟩:=h
 refine⟨c,F,ρ,rel,h.bind λp ρ1 v F1 H1 ĕ _ _ r1 h1=>?_⟩
 cases e:f p with
 |none=>rw[e] at h1;exact h1.elim
 |some pv=>rw[e] at h1;exact hf ĕ r1 e λz F' H' aK s1 s2 q'=>h1 z F' H' aK s1 s2 q'
end
end P
namespace P
open PySem PySem.Spec PyProof.Rows L2 M2 M3
def dD:M Fl:=λρ=>.ok .nx ρ
def Ė(a b:M Fl):M Fl:=λρ=>(a ρ).bind λf ρ1=>match f with
 | .nx=>b ρ1
 |f=>.ok f ρ1
def ġ(i:Nat)(m:M RV):M Fl:=λρ=>(m ρ).bind λr ρ1=>.ok .nx (ρ1.set i r.slot)
def Ĥ(m:M RV):M Fl:=λρ=>(m ρ).bind λr ρ1=>.ok (.rt r) ρ1
def um(m:M PV):M Fl:=λρ=>(m ρ).bind λ_ ρ1=>.ok .nx ρ1
section
variable{X:Cx}{cm:String->Addr}{E:L2.St->XK}{a b e:Expr}{st:Stmt}{rest:List Stmt}{es:List Expr}{pos:Pos}{m1 m2:M Fl}{mo:M RV}{mv:M PV}
def İ:gZ X [] (tS (kk X cm) E dD):=gZ.wk Ig λD σ H ⟨c,F,ρ,rel,h⟩=>h σ F H rel (Same.refl F)
def Ĩ(h:PS X st (tS (kk X cm) E m1)):gZ X [st] (tS (kk X cm) E m1):=Ih h
def Jv{c:Ctx}{F:Hp}{D:Ends}{r:Res Fl}(h:Ů (kk X cm) E c F D (r.bind λf ρ1=>match f with| .nx=>m2 ρ1|f=>.ok f ρ1)):Ů (kk X cm) E c F {D with nx:=tS (kk X cm) E m2 D} r:=by
 cases r with
 |ok f ρ1=>
  cases f with
  |nx=>exact λσ' F' H' aK s=>⟨c,F',ρ1,aK,Ů.mono h s⟩
  |bk=>exact h
  |ct=>exact h
  |rt v=>exact h
 |exc x ρ1=>exact h
 |bad=>exact h
def ē(h1:PS X st (tS (kk X cm) E m1))(h2:gZ X rest (tS (kk X cm) E m2)):gZ X (st::rest) (tS (kk X cm) E (Ė m1 m2)):=gZ.wk (BJ h1 h2) λD σ H ⟨c,F,ρ,rel,h⟩=>⟨c,F,ρ,rel,Jv h⟩
def Zab{i:Nat}{x:Str}{pos':Pos}(hN:X.N.Nodup)(hi:X.N[i]?=some x)(hx:Loc X.env.scope x)(he:PE X e (tO (kk X cm) E mo))(hs:swapsWith e (some (.Name x pos')) pos.line X.env=pure false:=by rfl)(hf:X.fn x=true\/X.env.scope.names.lookup x=some .local:=by first|exact .inl rfl|exact .inr rfl|assumption) :
 PS X (.Assign [.Name x pos'] e pos) (tS (kk X cm) E (ġ i mo)):=PS.wk (SQ hN hi hx he hs hf) λD σ H ⟨c,F,ρ,rel,h⟩=>⟨c,F,ρ,rel,Ů.bind h λr ρ1 v F1 H1 ĕ s1 q h1=>by
 cases r with
 |sh p=>exact h1 _ F1 H1 (ĕ.put rfl ⟨v,rfl,q⟩) (Same.refl _)
 |ow ps=>
  obtain⟨a,vs,rfl,q1,q2,q3,q4,q5⟩:=q
  exact h1 _ F1 H1 (ĕ.Jp ⟨a,vs,rfl,q1,q2,q3,q5⟩ λ_ z=>V.ref.inj z▸q4) (Same.refl _)
 |ot ps qs=>
  obtain⟨p,a,xs,vs,rfl,q0,qx,q1,q2,q3,q4,q5⟩:=q
  exact h1 _ F1 H1 (ĕ.Jp (s:=.ot ps qs) ⟨p,a,xs,vs,rfl,q0,qx,q1,q2,q3,q5⟩ λ_ z=>lV (ps:=ps) (qs:=qs) z ⟨p,xs,rfl,q0⟩▸q4) (Same.refl _)⟩
def Zac(he:PE X e (tO (kk X cm) E mo)):PS X (.Return (some e) pos) (tS (kk X cm) E (Ĥ mo)):=PS.wk (SJ he) λD σ H ⟨c,F,ρ,rel,h⟩=>⟨c,F,ρ,rel,Ů.bind h λr ρ1 v F1 H1 ĕ s1 q h1=>h1 v σ F1 H1 ĕ (Same.refl _) q⟩
def wC(he:PE X e (tV (kk X cm) E mv))(hs:swapsWith e none pos.line X.env=pure false:=by rfl):PS X (.Expr e pos) (tS (kk X cm) E (um mv)):=PS.wk (Ż he hs) λD σ H ⟨c,F,ρ,rel,h⟩=>⟨c,F,ρ,rel,Ů.bind h λr ρ1 v F1 H1 ĕ s1 q h1=>h1 σ F1 H1 ĕ (Same.refl _)⟩
def ŝ{t:M Bool}{ss ss':List Stmt}(hc:PT X a (tB (kk X cm) E t))(ha:gZ X ss (tS (kk X cm) E m1))(hb:gZ X ss' (tS (kk X cm) E m2)):PS X (.If a ss ss' pos) (tS (kk X cm) E (bJ t m1 m2)):=PS.wk (Yj hc ha hb) λD σ H ⟨c,F,ρ,rel,h⟩=>⟨c,F,ρ,rel,Ů.bind h λr ρ1 v F1 H1 ĕ s1 q h1=>by
 have e:r=v:=q
 subst e
 cases r with
 |true=>exact⟨c,F1,ρ1,ĕ,h1⟩
 |false=>exact⟨c,F1,ρ1,ĕ,h1⟩⟩
def Dr{α:Type}:M α:= λ_=>.bad
def qO:PS X st (tS (kk X cm) E Dr):=PS.wk BK λD σ H ⟨c,F,ρ,rel,h⟩=>h
abbrev Tg:=PV->ľ->Option ľ
abbrev Bq:=List PV->ľ->Option ľ
def Zad(K:KK)(c:Ctx)(F H:Hp)(Q:L2.St->Hp->Prop):Option ľ->Prop
 |some ρ'=>∀σ',Rel K c F H σ' ρ'->Q σ' H
 |none=>False
def tT(K:KK)(g:Tg):TG:=λv σ H Q=>∃c F ρ p,Rel K c F H σ ρ/\Rep K F p v/\Zad K c F H Q (g p ρ)
def tTs(K:KK)(g:Bq):BL:=λv σ H Q=>∃c F ρ p,Rel K c F H σ ρ/\ę K F p v/\Zad K c F H Q (g p ρ)
def gN(i:Nat):Tg:=λp ρ=>some (ρ.set i (.sh p))
def š:Bq:=λps ρ=>match ps with
 | []=>some ρ
 |_=>none
def Ğ(g:Tg)(gs:Bq):Bq:=λps ρ=>match ps with
 |p::ps=>(g p ρ).bind λρ1=>gs ps ρ1
 | []=>none
def gT(n:Nat)(gs:Bq):Tg:=λp ρ=>match p with
 | .tup ps=>if ps.length=n then gs ps ρ else none
 |_=>none
def PG.wk'{tg:Expr}{t t':TG}(h:PG X tg t)(i:∀v σ H Q,t' v σ H Q->t v σ H Q):PG X tg t':=λpins s σ H v u Q I r q=>h pins s σ H v u Q I r (i v σ H Q q)
def vG.wk{tg:List Expr}{t t':BL}(h:vG X tg t)(i:∀v σ H Q,t' v σ H Q->t v σ H Q):vG X tg t':=λpins s σ H v u Q I r q=>h pins s σ H v u Q I r (i v σ H Q q)
def Dt{i:Nat}{x:Str}(hN:X.N.Nodup)(hi:X.N[i]?=some x)(hx:Loc X.env.scope x)(hf:X.fn x=true\/X.env.scope.names.lookup x=some .local:=by first|exact .inl rfl|exact .inr rfl|assumption):PG X (.Name x pos) (tT (kk X cm) (gN i)):=
 PG.wk' (Ii hN hi hx hf) λv σ H Q ⟨c,F,ρ,p,rel,rp,h⟩=>h _ (rel.put rfl ⟨v,rfl,rp⟩)
def dF:vG X [] (tTs (kk X cm) š):=vG.wk Ij λv σ H Q ⟨c,F,ρ,p,rel,rp,h⟩=>by
 cases p with
 |nil=>
  have e:v=[]:=by have:=rp;unfold ę at this;exact this
  exact⟨e,h σ rel⟩
 |cons _ _=>exact h.elim
def Ļ{es:List Expr}{g:Tg}{gs:Bq}(h1:PG X e (tT (kk X cm) g))(h2:vG X es (tTs (kk X cm) gs))(hs:(assignEach (e::es) X.env).map (·.2)=assign e X.env::(assignEach es X.env).map (·.2):=by rfl):vG X (e::es) (tTs (kk X cm) (Ğ g gs)):=
 vG.wk (BP h1 h2 hs) λv σ H Q ⟨c,F,ρ,p,rel,rp,h⟩=>by
  cases p with
  |nil=>exact h.elim
  |cons p ps=>
   unfold ę at rp
   obtain⟨x,r,rfl,r1,r2⟩:=rp
   refine⟨x,r,rfl,c,F,ρ,p,rel,r1,?_⟩
   unfold Ğ at h
   dsimp only at h
   cases eg:g p ρ with
   |none=>rw[eg] at h;exact h.elim
   |some ρ1=>rw[eg] at h;exact λσ' aK=>⟨c,F,ρ1,ps,aK,r2,h⟩
def uo{es:List Expr}{k:Nat}{gs:Bq}{n:Nat}(hc:X.calm=true)(h:vG X es (tTs (kk X cm) gs))(hn:(assignEach es X.env).length=n:=by rfl)(hst:(assignEach es X.env).findIdx? (·.1)=none:=by rfl):PG X (.Tuple es k pos) (tT (kk X cm) (gT n gs)):=
 PG.wk' (BR hc h hn hst) fun v σ H Q ⟨c,F,ρ,p,rel,rp,h⟩=>by
   cases p with
   |tup ps=>
    unfold Rep at rp
    obtain⟨a,xs,h1,h2,h3⟩:=rp
    unfold gT at h
    dsimp only at h
    split at h
    ·rename_i hl
     exact⟨a,xs,h1,Same.tup rel.sub h2,by rw[<-h3.length];exact hl,c,F,ρ,ps,rel,h3,h⟩
    ·exact h.elim
   |_=>exact h.elim
def wD(g:Tg)(m:M PV):M Fl:=λρ=>(m ρ).bind λp ρ1=>match g p ρ1 with
 |some ρ2=>.ok .nx ρ2
 |none=>.bad
def zj{tg:Expr}{g:Tg}(he:PE X e (tV (kk X cm) E mv))(hg:PG X tg (tT (kk X cm) g))(hs:swapsWithSole [tg] e pos.line X.env=pure false:=by rfl)(hw:swappedStores [tg] e X.env=pure none:=by rfl)
 (h1:(assignEach [tg] X.env).map (·.2)=[assign tg X.env]:=by rfl):PS X (.Assign [tg] e pos) (tS (kk X cm) E (wD g mv)):=PS.wk (SN he hg hs hw h1) λD σ H ⟨c,F,ρ,rel,h⟩=>⟨c,F,ρ,rel,Ů.bind h λr ρ1 v F1 H1 ĕ s1 q h1=>by
 refine⟨c,F1,ρ1,r,ĕ,q,?_⟩
 cases eg:g r ρ1 with
 |none=>rw[eg] at h1;exact h1.elim
 |some ρ2=>rw[eg] at h1;exact λσ' aK=>h1 σ' F1 H1 aK (Same.refl _)⟩
def iT(i:Nat)(m:M PV):M Fl:=λρ=>match ρ[i]? with
 |some (.ow _)=>(m ρ).bind λp ρ1=>match ρ1[i]? with
  |some (.ow ps)=>if ps.length<16777216 then .ok .nx (ρ1.set i (.ow (ps ++ [p]))) else .bad
  |_=>.bad
 |_=>.bad
def aF{i:Nat}{D:Ends}{σ:L2.St}{H:Hp}(h:tS (kk X cm) E (iT i mv) D σ H):KZ (tBM X.K "list" yP (Bw i) (tL (kk X cm) E (Ă mv Ĕ))) D σ H:=by
 obtain⟨c,F,ρ,rel,h⟩:=h
 unfold iT at h
 cases e1:ρ[i]? with
 |none=>rw[e1] at h;exact h.elim
 |some sl=>
  rw[e1] at h
  cases sl with
  |ow ps0=>
   obtain⟨a,vs0,z1,z2,z3,z4,z5,z6⟩:=rel.ow e1
   refine⟨.ref a,z1,.inl ⟨rfl,_,Ÿ.of z2⟩,c,F,ρ,rel,?_⟩
   dsimp only at h
   unfold Ă
   cases em:mv ρ with
   |bad=>rw[em] at h;exact h
   |exc x ρ1=>rw[em] at h;exact λC d F' H' aK s1 q=>h σ C d F' H' aK s1 q
   |ok p ρ1=>
    rw[em] at h
    intro us F1 H1 ĕ s1 s2 r1
    have r1':ę (kk X cm) F1 [p] us:=r1
    cases r1'.pr with
    |cons rp t=>
     rename_i v vs'
     cases t
     cases e2:ρ1[i]? with
     |none=>simp only[Res.aD,e2] at h;exact h.elim
     |some sl2=>
      simp only[Res.aD,e2] at h
      cases sl2 with
      |ow ps=>
       obtain⟨a2,vs,w1,w2,w3,w4,w5,w6⟩:=ĕ.ow e2
       rw[z1] at w1
       cases w1
       dsimp only at h
       split at h
       ·rename_i hz
        refine⟨a,vs,v,rfl,rfl,w2,by rw[<-w5.length,ĺ];exact hz,h σ F1 _ (ĕ.write w6 z1 ⟨a,vs ++ [v],rfl,Ħ,w3,w4,ę.append w5 (ę.cons rp ę.nil)⟩ λ_ z=>(V.ref.inj z).symm) s1⟩
       ·exact h.elim
      |_=>exact h.elim
  |_=>exact h.elim
def Ĭ(mc:M Bool)(mb:M Fl):Nat->ľ->Res Fl
 |0,_=>.bad
 |n+1,ρ=>(mc ρ).bind λb ρ1=>if b=true then(mb ρ1).bind λf ρ2=>match f with
  | .nx=>Ĭ mc mb n ρ2
  | .ct=>Ĭ mc mb n ρ2
  | .bk=>.ok .nx ρ2
  | .rt r=>.ok (.rt r) ρ2 else .ok .nx ρ1
theorem Ţ{mc:M Bool}{mb:M Fl}(n:Nat)(ρ:ľ):Ĭ mc mb (n+1) ρ=(mc ρ).bind λb ρ1=>if b=true then(mb ρ1).bind λf ρ2=>match f with
 | .nx=>Ĭ mc mb n ρ2
 | .ct=>Ĭ mc mb n ρ2
 | .bk=>.ok .nx ρ2
 | .rt r=>.ok (.rt r) ρ2 else .ok .nx ρ1:=rfl
open Classical in
noncomputable def ţ(mc:M Bool)(mb:M Fl):M Fl:=λρ=>if h:∃n,Ĭ mc mb n ρ≠ .bad then Ĭ mc mb (Classical.choose h) ρ else .bad
theorem fP{mc:M Bool}{mb:M Fl}:∀(n:Nat) (ρ:ľ),Ĭ mc mb n ρ≠ .bad->Ĭ mc mb (n+1) ρ=Ĭ mc mb n ρ
 |0,ρ,h=>absurd rfl h
 |n+1,ρ,h=>by
  rw[Ţ] at h
  rw[Ţ (n+1),Ţ n]
  cases e:mc ρ with
  |bad=>rfl
  |exc x ρ1=>rfl
  |ok b ρ1=>
   rw[e] at h
   simp only[Res.aD] at h ⊢
   cases b with
   |false=>rfl
   |true=>
    simp only[if_true] at h ⊢
    cases e2:mb ρ1 with
    |bad=>rfl
    |exc x ρ2=>rfl
    |ok f ρ2=>
     rw[e2] at h
     simp only[Res.aD] at h ⊢
     cases f with
     |nx=>exact fP n ρ2 h
     |ct=>exact fP n ρ2 h
     |bk=>rfl
     |rt r=>rfl
def pL{mc:M Bool}{mb:M Fl}{n m:Nat}{ρ:ľ}(h:Ĭ mc mb n ρ≠ .bad)(hm:n<=m):Ĭ mc mb m ρ=Ĭ mc mb n ρ:= by
 induction hm with
 |refl=>rfl
 |step _ ih=>rw[fP _ _ (by rw[ih];exact h),ih]
def Ŧ{mc:M Bool}{mb:M Fl}{ρ:ľ}(n:Nat)(h:Ĭ mc mb n ρ≠ .bad):ţ mc mb ρ=Ĭ mc mb n ρ:= by
 unfold ţ
 have hx:∃n,Ĭ mc mb n ρ≠ .bad:=⟨n,h⟩
 rw[dif_pos hx]
 have hc:=Classical.choose_spec hx
 rcases Nat.le_total n (Classical.choose hx) with hle|hle
 ·exact pL h hle
 ·exact(pL hc hle).symm
theorem fQ{mc:M Bool}{mb:M Fl}{ρ:ľ}:ţ mc mb ρ=(mc ρ).bind λb ρ1=>if b=true then(mb ρ1).bind λf ρ2=>match f with
 | .nx=>ţ mc mb ρ2
 | .ct=>ţ mc mb ρ2
 | .bk=>.ok .nx ρ2
 | .rt r=>.ok (.rt r) ρ2 else .ok .nx ρ1:=by
 have go:∀ρ2,ţ mc mb ρ2=.bad\/∃n,ţ mc mb ρ2=Ĭ mc mb n ρ2/\Ĭ mc mb n ρ2≠ .bad:=λρ2=>by
  by_cases hx:∃n,Ĭ mc mb n ρ2≠ .bad
  ·obtain⟨n,h⟩:=hx
   exact .inr ⟨n,Ŧ n h,h⟩
  ·left;unfold ţ;rw[dif_neg hx]
 have Zcv:∀ρ2,ţ mc mb ρ2=.bad->∀n,Ĭ mc mb n ρ2=.bad:=λρ2 h n=>by
  refine Classical.byContradiction λz=>?_
  rw[Ŧ n z] at h
  exact z h
 have fin:∀n,Ĭ mc mb (n+1) ρ≠ .bad->ţ mc mb ρ=Ĭ mc mb (n+1) ρ:= λn h=>Ŧ _ h
 cases e:mc ρ with
 |bad=>rcases go ρ with h|⟨n,h1,h2⟩
       ·rw[h];rfl
       ·cases n with
        |zero=>exact absurd rfl h2
        |succ n=>rw[Ţ,e] at h2;exact absurd rfl h2
 |exc x ρ1=>
  have h:Ĭ mc mb 1 ρ=.exc x ρ1:=by rw[Ţ,e];rfl
  rw[Ŧ 1 (by rw[h];intro z;cases z),h];rfl
 |ok b ρ1=>
  simp only[Res.aD]
  cases b with
  |false=>
   have h:Ĭ mc mb 1 ρ=.ok .nx ρ1:=by rw[Ţ,e];rfl
   rw[Ŧ 1 (by rw[h];intro z;cases z),h];rfl
  |true=>
   simp only[if_true]
   have one:∀n,Ĭ mc mb (n+1) ρ=(mb ρ1).bind λf ρ2=>match f with
    | .nx=>Ĭ mc mb n ρ2
    | .ct=>Ĭ mc mb n ρ2
    | .bk=>.ok .nx ρ2
    | .rt r=>.ok (.rt r) ρ2:=λn=>by rw[Ţ,e];rfl
   cases e2:mb ρ1 with
   |bad=>
    rcases go ρ with h|⟨n,h1,h2⟩
    ·rw[h];rfl
    ·cases n with
     |zero=>exact absurd rfl h2
     |succ n=>rw[one,e2] at h2;exact absurd rfl h2
   |exc x ρ2=>
    have h:Ĭ mc mb 1 ρ=.exc x ρ2:=by rw[one,e2];rfl
    rw[Ŧ 1 (by rw[h];intro z;cases z),h];rfl
   |ok f ρ2=>
    have turn:(∀n,Ĭ mc mb (n+1) ρ=Ĭ mc mb n ρ2)->ţ mc mb ρ=ţ mc mb ρ2:=λhn=>by
     rcases go ρ2 with h|⟨n,h1,h2⟩
     ·rcases go ρ with h'|⟨n,h1,h2⟩
      ·rw[h,h']
      ·cases n with
       |zero=>exact absurd rfl h2
       |succ n=>rw[hn,Zcv ρ2 h n] at h2;exact absurd rfl h2
     ·rw[h1,<-hn n]
      exact fin n (by rw[hn n];exact h2)
    cases f with
    |nx=>exact turn λn=>by rw[one,e2];rfl
    |ct=>exact turn λn=>by rw[one,e2];rfl
    |bk=>
     have h:Ĭ mc mb 1 ρ=.ok .nx ρ2:=by rw[one,e2];rfl
     rw[Ŧ 1 (by rw[h];intro z;cases z),h];rfl
    |rt r=>
     have h:Ĭ mc mb 1 ρ=.ok (.rt r) ρ2:=by rw[one,e2];rfl
     rw[Ŧ 1 (by rw[h];intro z;cases z),h];rfl
def Jw{c:Expr}{body:List Stmt}{mc:M Bool}{mb:M Fl}(hp:PassesOwn (model X.prog X.w) X.A X.env X.xe)(hc:PT X c (tB (kk X cm) E mc))(hb:gZ X body (tS (kk X cm) E mb)):PS X (.While c body [] pos) (tS (kk X cm) E (ţ mc mb)):=PS.wk (BW hp hc hb) λD σ H ⟨c,F,ρ,rel,h⟩=>by
 obtain⟨n,hn⟩:∃n,Ů (kk X cm) E c F D (Ĭ mc mb n ρ):=by
  by_cases hx:∃n,Ĭ mc mb n ρ≠ .bad
  ·obtain⟨n,hn⟩:=hx
   rw[Ŧ n hn] at h
   exact⟨n,h⟩
  ·unfold ţ at h
   rw[dif_neg hx] at h
   exact h.elim
 refine⟨λm σ' H'=>∃F2 ρ2,Rel (kk X cm) c F2 H' σ' ρ2/\Same F F2/\Ů (kk X cm) E c F2 D (Ĭ mc mb m ρ2),⟨n,F,ρ,rel,Same.refl _,hn⟩,?_⟩
 rintro m σ1 H1 ⟨F1,ρ1,ĕ,s1,h1⟩
 cases m with
 |zero=>exact h1.elim
 |succ m=>
  rw[Ţ] at h1
  refine⟨c,F1,ρ1,ĕ,Ů.bind h1 λk ρ2 v F2 H2 ķ s2 q h2=>?_⟩
  have e:k=v:=q
  subst e
  cases k with
  |false=>
   rw[if_neg Bool.false_ne_true]
   rw[if_neg Bool.false_ne_true] at h2
   exact h2 σ1 F2 H2 ķ (Same.refl _)
  |true=>
   rw[if_pos rfl]
   rw[if_pos rfl] at h2
   refine⟨_,λσ' H' z=>z,c,F2,ρ2,ķ,?_⟩
   have nxt:∀{ρ3:ľ},Ů (kk X cm) E c F2 D (Ĭ mc mb m ρ3)->∀σ' F' H',Rel (kk X cm) c F' H' σ' ρ3->Same F2 F'->∃m',m'<m+1/\∃F2 ρ2,Rel (kk X cm) c F2 H' σ' ρ2/\Same F F2/\Ů (kk X cm) E c F2 D (Ĭ mc mb m' ρ2):=
    fun{ρ3} h3 σ' F' H' aK s'=>⟨m,Nat.lt_succ_self m,F',ρ3,aK,(s1.trans s2).trans s',Ů.mono h3 s'⟩
   cases e2:mb ρ2 with
   |bad=>rw[e2] at h2;exact h2
   |exc x ρ3=>rw[e2] at h2;exact h2
   |ok f ρ3=>
    rw[e2] at h2
    cases f with
    |nx=>exact nxt h2
    |ct=>exact nxt h2
    |bk=>exact h2
    |rt r=>exact h2
def Du(K:KK)(Lh F:Hp)(J:It)(items:List PV):Prop:=∀(c:Ctx) (i:Nat) (F2 H:Hp) (σ:L2.St) (ρ:ľ),Rel K c F2 H σ ρ->Same F F2->Same Lh H->
 (∀p,items[i]?=some p->J.go i H/\∀x H',J.yld i H x H'->∃F3,Rel K c F3 H' σ ρ/\Same F2 F3/\Same H H'/\Rep K F3 p x)/\(i=items.length->J.stop i H)
def rIt(K:KK):RR (List PV) It:=λc _ _ F _ items J=>Du K c.L F J items
abbrev tI(K:KK)(E:L2.St->XK)(m:M (List PV)):TI:=tG K E (rIt K) m
def forL(g:Tg)(mb:M Fl):List PV->M Fl
 | [],ρ=>.ok .nx ρ
 |p::ps,ρ=>match g p ρ with
  |none=>.bad
  |some ρ1=>(mb ρ1).bind λf ρ2=>match f with
   | .nx=>forL g mb ps ρ2
   | .ct=>forL g mb ps ρ2
   | .bk=>.ok .nx ρ2
   | .rt r=>.ok (.rt r) ρ2
def dG(mi:M (List PV))(g:Tg)(mb:M Fl):M Fl:=λρ=>(mi ρ).bind λitems ρ1=>forL g mb items ρ1
def bD{iter tg:Expr}{body:List Stmt}{mi:M (List PV)}{g:Tg}{mb:M Fl}(hp:PassesOwn (model X.prog X.w) X.A X.env X.xe)(hc:X.calm=true)(hi:PI X tg iter (tI (kk X cm) E mi))(hg:PG X tg (tT (kk X cm) g))(hb:gZ X body (tS (kk X cm) E mb))
 (hs:∀x,foldedSetIterable iter X.env x=pure x:=by intro _;rfl):PS X (.For tg iter body [] pos) (tS (kk X cm) E (dG mi g mb)):=PS.wk (Tc hp hc hi hg hb hs) λD σ H ⟨c,F,ρ,rel,h⟩=>⟨c,F,ρ,rel,Ů.bind h λitems ρ1 J F1 H1 ĕ s1 ito h1=>by
 refine⟨λi m σ' H'=>∃F2 ρ2,i<=items.length/\m=items.length-i/\Rel (kk X cm) c F2 H' σ' ρ2/\Same F1 F2/\Ů (kk X cm) E c F2 D (forL g mb (items.drop i) ρ2),⟨_,F1,ρ1,Nat.zero_le _,rfl,ĕ,Same.refl _,h1⟩,?_⟩
 rintro i m σ2 H2 ⟨F2,ρ2,hle,rfl,ķ,s2,h2⟩
 obtain⟨go,stop⟩:=ito c i F2 H2 σ2 ρ2 ķ s2 λb u e=>(ķ.lent b u e).1
 by_cases hlt:i<items.length
 ·obtain⟨g1,g2⟩:=go items[i] (List.getElem?_eq_getElem hlt)
  rw[List.drop_eq_getElem_cons hlt] at h2
  unfold forL at h2
  refine .inr ⟨g1,_,λσ' H' z=>z,λx H3 hy=>?_⟩
  obtain⟨F3,qP,s3,_,rp⟩:=g2 x H3 hy
  refine⟨c,F3,ρ2,items[i],qP,rp,?_⟩
  cases eg:g items[i] ρ2 with
  |none=>rw[eg] at h2;exact h2.elim
  |some ρ3=>
   rw[eg] at h2
   dsimp only at h2
   intro σ4 Dp
   refine⟨c,F3,ρ3,Dp,?_⟩
   have nxt:∀{ρ4:ľ},Ů (kk X cm) E c F2 D (forL g mb (items.drop (i+1)) ρ4)->∀σ' F' H',Rel (kk X cm) c F' H' σ' ρ4->Same F3 F'->∃m',m'<items.length-i/\∃F2 ρ2,i+1<=items.length/\m'=items.length-(i+1)/\Rel (kk X cm) c F2 H' σ' ρ2/\Same F1 F2/\Ů (kk X cm) E c F2 D (forL g mb (items.drop (i+1)) ρ2):=
    fun{ρ4} h3 σ' F' H' aK s'=>⟨items.length-(i+1),by omega,F',ρ4,hlt,rfl,aK,(s2.trans s3).trans s',Ů.mono h3 (s3.trans s')⟩
   have h2':=Ů.mono h2 s3
   cases e2:mb ρ3 with
   |bad=>rw[e2] at h2;exact h2
   |exc x ρ4=>rw[e2] at h2';exact h2'
   |ok f ρ4=>
    rw[e2] at h2 h2'
    cases f with
    |nx=>exact nxt h2
    |ct=>exact nxt h2
    |bk=>exact h2'
    |rt r=>exact h2'
 ·have e:i=items.length:=by omega
  refine .inl ⟨stop e,?_⟩
  rw[List.drop_eq_nil_of_le (by omega)] at h2
  unfold forL at h2
  exact h2 σ2 F2 H2 ķ (Same.refl _)⟩
end
end P
namespace P
open PySem PySem.Spec PyProof.Rows L2 M2 M3
inductive FR where
 |ret (r:RV)|exc (x:PX)|bad
abbrev MF:=List Slot->FR
def FR.of:Res Fl->FR
 | .ok (.rt r) _=>.ret r
 | .ok .nx _=>.ret (.sh .non)
 | .exc x _=>.exc x
 |_=>.bad
def ı(n k:Nat)(mb:M Fl):MF:=λas=>if as.length=n then FR.of (mb (startP k as)) else .bad
def rF(K:KK)(H F' H':Hp):RV->V->Prop
 | .sh p,v=>Rep K F' p v
 | .ow ps,v=>∃a vs,v=.ref a/\H' a=some (.lst vs)/\F' a=none/\H a=none/\ę K F' ps vs
 | .ot ps qs,v=>∃p a xs vs,v=.ref p/\F' p=some (.tup (xs ++ [.ref a]))/\ę K F' ps xs/\H' a=some (.lst vs)/\F' a=none/\H a=none/\ę K F' qs vs
def Zcw(K:KK)(E:XK)(F H:Hp)(Q:VK):FR->Prop
 | .ret r=>∀v F' H',Gr F H F' H'->rF K H F' H' r v->Q v H'
 | .exc x=>∀C d F' H',Gr F H F' H'->Jq K F' x C d->E C d H'
 | .bad=>False
def ş(K:KK)(n:Nat)(mf:MF):Sp:=λvs H Q E=>∃F as,as.length=n/\Same F H/\Paired (bB K F H) as vs/\Zcw K E F H Q (mf as)
def dH(CX:jF)(X:Cx)(E:L2.St->XK):Prop:=∀(pins:List (Addr×Obj)) (σ:L2.St) (H:Hp) (s:Shared) (e:Value) (s':Shared),Inv X pins σ H s->CX X.stack H s (E σ) e s'->X.xe e s'
def Ď{X:Cx}{E:L2.St->XK}:dH Ũ X E:=λ_ _ _ _ _ _ _ h=>h.elim
section
variable{P:Program}{w:World}{K:PySem.W.Frag}{cm:String->Addr}{mg:Str->Option Value}{base:Heap}{CX:jF}
def fnP{x qual:Str}{st:Stmt}{f:Addr}{fd:FuncData}{N ps:List Str}{k:Nat}{mb:M Fl}(F:Cq K x qual st f fd)(S:Ē N ps (Ĉ st))
 (hbody:∀(cdv:Value) (A:Around) (outer:List Env) (s:Shared) (H:Hp) (E:XK),Ś k (A.deeper (envOfC qual (Ĉ st) s.heap.objs.size f cdv))→
   gZ (oJ CX P w K mg base N qual (Ĉ st) f cdv A outer s H E) (Ŕ st) (tS ⟨K,cm⟩ (λ_=>E) mb)):ģ P w K mg base CX (k+1) f fd ps (ş ⟨K,cm⟩ ps.length (ı ps.length N.length mb)):=by
 obtain⟨oc,od,kV,doc,pm,an,cdv,ct,osl,rfl,lk,hcd⟩:=F.ex
 refine Ci lk hcd S (λvs H Q E ⟨F,ps',h1,_,h2,_⟩=>by rw[<-Paired.length h2];exact h1) λA outer s H vs Q E hr hsp=>?_
 obtain⟨F,ps',h1,h2,h3,h4⟩:=hsp
 refine⟨_,hbody cdv A outer s H E hr,ctx0 F H,F,startP N.length ps',Rel.start h2 h3,?_⟩
 unfold ı at h4
 rw[if_pos h1] at h4
 cases e:mb (startP N.length ps') with
 |bad=>rw[e] at h4;exact h4
 |exc x ρ'=>rw[e] at h4;exact λσ' C d F' H' rel s1 q=>h4 C d F' H' rel.gr q
 |ok fl ρ'=>
  rw[e] at h4
  cases fl with
  |nx=>exact λσ' F' H' rel s1=>h4 .non F' H' rel.gr (Rep.non (K:=⟨K,cm⟩) (F:=F'))
  |bk=>exact h4.elim
  |ct=>exact h4.elim
  |rt r=>
   intro v σ' F' H' rel s1 q
   refine h4 v F' H' rel.gr ?_
   cases r with
   |sh p=>exact q
   |ow qs=>
    obtain⟨a,vs',e1,e2,e3,e4,_,e5⟩:=q
    exact⟨a,vs',e1,e2,e3,e4,e5⟩
   |ot qs ts=>
    obtain⟨p,a,xs,vs',e1,e0,ex,e2,e3,e4,_,e5⟩:=q
    exact⟨p,a,xs,vs',e1,e0,ex,e2,e3,e4,e5⟩
def fnQ{x qual:Str}{st:Stmt}{f:Addr}{fd:FuncData}{N ps:List Str}{k n j:Nat}{mb:M Fl}{mf:MF}(F:Cq K x qual st f fd)(S:Ē N ps (Ĉ st))(hn:ps.length=n)(hj:N.length=j)(hf:mf=ı n j mb)
 (hbody:∀(cdv:Value) (A:Around) (outer:List Env) (s:Shared) (H:Hp) (E:XK),Ś k (A.deeper (envOfC qual (Ĉ st) s.heap.objs.size f cdv))→
   gZ (oJ CX P w K mg base N qual (Ĉ st) f cdv A outer s H E) (Ŕ st) (tS ⟨K,cm⟩ (λ_=>E) mb)):ģ P w K mg base CX (k+1) f fd ps (ş ⟨K,cm⟩ n mf):=by
 subst hn hj hf
 exact fnP F S hbody
end
def Č(mf:MF)(mr:M (List Slot)):M RV:=λρ=>(mr ρ).bind λps ρ1=>match mf ps with
 | .ret r=>.ok r ρ1
 | .exc x=>.exc x ρ1
 | .bad=>.bad
section
variable{X:Cx}{cm:String->Addr}{E:L2.St->XK}{CX:jF}{k n:Nat}{f:Addr}{fd:FuncData}{ps:List Str}{mf:MF}{mr:M (List Slot)}{x:Str}{p pos:Pos}{e:Expr}{es:List Expr}
def zm{sp:Sp}{pins:List (Addr×Obj)}{σ:L2.St}{H:Hp}{s:Shared}{Q:VK}{us:List Value}{vs:List V}(F:ģ X.prog X.w X.K X.mg X.base CX k f fd ps sp)(hr:Ś k X.A)(hb:Binds X.K fd ps [])(hx:dH CX X E)
 (I:Inv X pins σ H s)(r:Vals vs us)(h:sp vs H Q (E σ)):wpAny (model X.prog X.w) X.A (call (.ref f) us) (EP X pins σ Q) X.xe s:=by
 have hl:(us ++ []).length=ps.length:=by rw[List.append_nil,<-r.length];exact F.len _ _ _ _ h
 have hbd:=hb s us I.Aa hl
 rw[List.append_nil] at hbd
 refine wpAny_call (codeAny_mono (F.run X.A X.stack s H ⟨us,[]⟩ us vs Q (E σ) hr I.env0 hbd r h) λr s' hq=>?_)
 cases r with
 |error e=>exact hx pins σ H s e s' I hq
 |ok fl=>
  cases fl with
  |ret u=>exact I.after hq
  |next=>exact False.elim hq
  |brk=>exact False.elim hq
  |cont=>exact False.elim hq
def uq{c:Ctx}{F1 H1:Hp}{σ:L2.St}{ρ1:ľ}{Q:VK}{ps:List Slot}{vs:List V}(hlen:(∃r,mf ps=r/\∀z,r=z->z≠ .bad)->ps.length=n)(ĕ:Rel (kk X cm) c F1 H1 σ ρ1)(r1:Paired (bB (kk X cm) F1 H1) ps vs)
 (h:aJ (kk X cm) E (rO (kk X cm)) c F1 H1 σ Q (match mf ps with| .ret r=>.ok r ρ1| .exc x=>.exc x ρ1| .bad=>.bad)):ş (kk X cm) n mf vs H1 Q (E σ):=by
 refine⟨F1,ps,?_,ĕ.sub,r1,?_⟩
 ·refine hlen ⟨_,rfl,λz hz hb=>?_⟩
  rw[hz,hb] at h
  exact h
 ·cases em:mf ps with
  |bad=>rw[em] at h;exact h
  |exc x=>rw[em] at h;exact λC d F' H' g rx=>h C d F' H' (ĕ.call g) g.f rx
  |ret r=>
   rw[em] at h
   intro v F' H' g rf
   refine h v F' H' (ĕ.call g) g.f g.h ?_
   cases r with
   |sh p=>exact rf
   |ow qs=>
    obtain⟨a,vs',e1,e2,e3,e4,e5⟩:=rf
    exact⟨a,vs',e1,e2,e3,ĕ.base.free e4,ĕ.qN g.f (ĕ.fresh e4),e5⟩
   |ot qs ts=>
    obtain⟨p,a,xs,vs',e1,e0,ex,e2,e3,e4,e5⟩:=rf
    exact⟨p,a,xs,vs',e1,e0,ex,e2,e3,ĕ.base.free e4,ĕ.qN g.f (ĕ.fresh e4),e5⟩
def cP{n k:Nat}{mb:M Fl}{ps:List Slot}(h:∃r,ı n k mb ps=r/\∀z,r=z->z≠ .bad):ps.length=n:=by
 obtain⟨r,h1,h2⟩:=h
 unfold ı at h1
 by_cases hl:ps.length=n
 ·exact hl
 ·rw[if_neg hl] at h1
  exact absurd h1.symm (λz=>h2 .bad (by rw[<-h1]) rfl)
def UW(F:ģ X.prog X.w X.K X.mg X.base CX k f fd ps (ş (kk X cm) n mf))(hlen:∀{ps:List Slot},(∃r,mf ps=r/\∀z,r=z->z≠ .bad)->ps.length=n)(hr:Ś k X.A)(hg:Gl X x)(hm:X.mg x=some (.ref f))(hk:PySem.W.keepIn X.K (.ref f)=true)(hb:Binds X.K fd ps [])(hx:dH CX X E)
 (ha:PA X (e::es) (tA (kk X cm) E mr))(hdb:(x== ("__debug__" :Str))=false:=by decide)(he:starEach (e::es) X.env=(false,eval e X.env)::starEach es X.env:=by exact ſ rfl)(hpl:(backTo pos (starEach es X.env)).any (·.1)=false:=by rfl) :
 PE X (.Call (.Name x p) (e::es) [] pos) (tO (kk X cm) E (Č mf mr)):=by
 intro pins s σ H Q I h
 obtain⟨c,F,ρ,rel,h⟩:=h
 refine wpAny_Call_Name_kw (qF I hg hm ?_ hdb)
 refine PySem.W.callWith_K (h₀:= X.base) I.ok.mod.kin hk (ŏ (ha pos pins s σ H (λvs H1=>ş (kk X cm) n mf vs H1 Q (E σ)) I ⟨c,F,ρ,rel,h.bind λps' ρ1 vs F1 H1 ĕ _ _ r1 h1=>uq hlen ĕ r1 h1⟩) λus s1 ⟨vs,H1,I1,r,q⟩=>⟨I1.Aa,?_⟩) he hpl
 exact zm (by assumption) hr hb hx I1 r q
end
def ŕ(m:M PV):M (List PV):=λρ=>(m ρ).bind λp ρ1=>match p with
 | .lst ps=>.ok ps ρ1
 | .tup ps=>.ok ps ρ1
 | .str z=>.ok (z.cps.toList.map λc=>.str ⟨#[c]⟩) ρ1
 |_=>.bad
section
variable{X:Cx}{cm:String->Addr}{E:L2.St->XK}{tg:Expr}
def Zcx(K:PySem.W.Frag)(tl:TE):TI:=λσ H R=>tl σ H λx H1=>(∃a,x=.ref a/\(∃xs,Ÿ K H1 a xs)/\R (Itl K a) H1)\/(∃a,x=.ref a/\(∃xs,fH K H1 a xs)/\R (Itt K a) H1)\/∃z,x=.str z/\R (Its z) H1
def Dv{l:Expr}{tl:TE}(hl:PE X l tl):PI X tg l (Zcx X.K tl):=by
 intro pins s σ H R I h
 refine ŏ (hl pins s σ H _ I h) λv s1 ⟨x,H1,I1,r1,q1⟩=>?_
 rcases q1 with⟨a,e,⟨xs,hq⟩,q⟩|⟨a,e,⟨xs,hq⟩,q⟩|⟨z,e,q⟩
 ·subst e
  cases r1
  obtain⟨its,rv,p,hz⟩:=I1.list hq
  refine wpAny_pyIter_list p.isList ?_
  refine⟨s1.heap.objs.size,[s1.heap.objs.size],_,_,H1,rfl,I1.kept (t':=s1.toks) λb o e=>Heap.get?_push_of_some _ e,Ac a _,⟨_,Heap.get?_push_size _ rfl,rfl,rfl⟩,λb hb=>?_,q⟩
  have e:b=s1.heap.objs.size:=by simpa using hb
  subst e
  exact I1.oH (Nat.le_refl _) (I1.hok.fresh (Nat.le_refl _))
 ·subst e
  cases r1
  obtain⟨its,rv,p,hz⟩:=I1.tuple hq
  refine wpAny_pyIter_tuple (show s1.heap.IsTuple a its.toArray from p) ?_
  refine⟨s1.heap.objs.size,[s1.heap.objs.size],_,_,H1,rfl,I1.kept (t':=s1.toks) λb o e=>Heap.get?_push_of_some _ e,vK a _,⟨_,Heap.get?_push_size _ rfl,rfl,rfl⟩,λb hb=>?_,q⟩
  have e:b=s1.heap.objs.size:=by simpa using hb
  subst e
  exact I1.oH (Nat.le_refl _) (I1.hok.fresh (Nat.le_refl _))
 ·subst e
  obtain⟨t,rfl⟩:=r1
  have fin:∀ty,(∀A:Around,A.handled=none->Walks X.prog X.w A s1.heap.objs.size [s1.heap.objs.size] [s1.heap.objs.size] z.cps.size (SignAt z) (λi h=>h.IsStrIter s1.heap.objs.size ty z t i))->
   (∀(A:Around) (i:Nat) (s:Shared) (Q:Value->Shared->Prop) (E:Value->Shared->Prop),s.heap.IsStrIter s1.heap.objs.size ty z t i->Q (.ref s1.heap.objs.size) s->wpAny (model X.prog X.w) A (pyIter (.ref s1.heap.objs.size)) Q E s)->
   (["enumerate","zip","dict_itemiterator","dict_reverseitemiterator","odict_iterator","itertools.zip_longest","itertools.pairwise"].contains ty=false)->
   PIE X pins σ tg R (.ref s1.heap.objs.size) {s1 with heap:=s1.heap.push {cls:=.type ty,data:=.fields #[.str z t,.int 0 0]}}:=λty hW hS hty=>by
   refine⟨s1.heap.objs.size,[s1.heap.objs.size],_,_,H1,rfl,I1.kept (t':=s1.toks) λb o e=>Heap.get?_push_of_some _ e,Ar _ z t ty hW hS hty,⟨_,Heap.get?_push_size _ rfl,rfl,rfl⟩,λb hb=>?_,q⟩
   have e:b=s1.heap.objs.size:=by simpa using hb
   subst e
   exact I1.oH (Nat.le_refl _) (I1.hok.fresh (Nat.le_refl _))
  cases ha:z.cps.all (·< 128) with
  |true=>exact wpAny_pyIter_ascii ha (fin _ (λA hA=>Walks.strAscii hA _ z t) (λA i s Q E st q=>wpAny_pyIter_striter_ascii st q) (by decide))
  |false=>exact wpAny_pyIter_wide ha (fin _ (λA hA=>Walks.strWide hA _ z t) (λA i s Q E st q=>wpAny_pyIter_striter_wide st q) (by decide))
def fU{l:Expr}{m:M PV}(hl:PE X l (tV (kk X cm) E m)):PI X tg l (tI (kk X cm) E (ŕ m)):=λpins s σ H R I h=>Dv hl pins s σ H R I (by
 obtain⟨c,F,ρ,rel,h⟩:=h
 refine⟨c,F,ρ,rel,h.bind λp ρ1 v F1 H1 ĕ s1 s2 q h1=>?_⟩
 cases p with
 |lst ps=>
  have q':Rep (kk X cm) F1 (.lst ps) v:=q
  unfold Rep at q'
  obtain⟨a,vs,rfl,e1,e2⟩:=q'
  refine .inl ⟨a,rfl,⟨vs,ĕ.sub.seq e1⟩,h1 _ F1 H1 ĕ (Same.refl _) (Same.refl _) ?_⟩
  intro c' i F2 H2 σ2 ρ2 ķ sF _
  have hq:Ÿ X.K H2 a vs:=(sF.trans ķ.sub).seq e1
  refine⟨λp hp=>?_,λhi=>⟨vs,hq,by rw[hi,e2.length];exact Nat.le_refl _⟩⟩
  obtain⟨u,hu,ru⟩:=bA e2.pr hp
  refine⟨⟨vs,u,hq,hu⟩,λx H' ⟨hH,hx⟩=>?_⟩
  subst hH
  have:vs[i]?=some x:=hx vs hq
  rw[hu] at this
  cases this
  exact⟨F2,ķ,Same.refl _,Same.refl _,Rep.same sF p u ru⟩
 |tup ps=>
  have q':Rep (kk X cm) F1 (.tup ps) v:=q
  unfold Rep at q'
  obtain⟨a,vs,rfl,e1,e2⟩:=q'
  refine .inr (.inl ⟨a,rfl,⟨vs,Same.tup ĕ.sub e1⟩,h1 _ F1 H1 ĕ (Same.refl _) (Same.refl _) ?_⟩)
  intro c' i F2 H2 σ2 ρ2 ķ sF _
  have hq:fH X.K H2 a vs:=Same.tup (sF.trans ķ.sub) e1
  refine⟨λp hp=>?_,λhi=>⟨vs,hq,by rw[hi,e2.length];exact Nat.le_refl _⟩⟩
  obtain⟨u,hu,ru⟩:=bA e2.pr hp
  refine⟨⟨vs,u,hq,hu⟩,λx H' ⟨hH,hx⟩=>?_⟩
  subst hH
  have:vs[i]?=some x:=hx vs hq
  rw[hu] at this
  cases this
  exact⟨F2,ķ,Same.refl _,Same.refl _,Rep.same sF p u ru⟩
 |str z=>
  have q':v=.str z:=by have q':Rep (kk X cm) F1 (.str z) v:=q;unfold Rep at q';exact q'
  subst q'
  refine .inr (.inr ⟨z,rfl,h1 _ F1 H1 ĕ (Same.refl _) (Same.refl _) ?_⟩)
  intro c' i F2 H2 σ2 ρ2 ķ sF _
  refine⟨λp hp=>?_,λhi=>by rw[hi,List.length_map];show _=_;simp⟩
  rw[List.getElem?_map] at hp
  cases ez:z.cps.toList[i]? with
  |none=>rw[ez] at hp;cases hp
  |some cc=>
   rw[ez] at hp
   cases hp
   refine⟨by have:=(List.getElem?_eq_some_iff.mp ez).1;show i<z.cps.size;simpa using this,λx H' ⟨hH,c2,hc,hx⟩=>?_⟩
   subst hH hx
   rw[ez] at hc
   cases hc
   exact⟨F2,ķ,Same.refl _,Same.refl _,Rep.str⟩
 |_=>exact h1.elim)
def Ŋ(i:Nat):M (List PV):=λρ=>match ρ[i]? with
 |some (.bw ps)=>.ok ps ρ
 |some (.sh (.lst ps))=>.ok ps ρ
 |some (.sh (.tup ps))=>.ok ps ρ
 |some (.sh (.str z))=>.ok (z.cps.toList.map λc=>.str ⟨#[c]⟩) ρ
 |some (.ow ps)=>.ok ps (ρ.set i (.sh (.lst ps)))
 |_=>.bad
def aq(i:Nat){x:Str}{px:Pos}(hN:X.N[i]?=some x:=by rfl)(hv:z_ X.env.scope x:=by first|exact Or.inl rfl|exact Or.inr (Or.inl rfl)|exact Or.inr (Or.inr rfl))(hd:(x== ("__debug__" :Str))=false:=by decide)
 (hcd:(x== ("__classdict__" :Str))=false:=by decide):PI X tg (.Name x px) (tI (kk X cm) E (Ŋ i)):=λpins s σ H R I h=>by
 obtain⟨c,F,ρ,rel,h⟩:=h
 cases e:ρ[i]? with
 |none=>unfold Ŋ at h;rw[e] at h;exact h.elim
 |some sl=>
  have Jx:aJ (kk X cm) E (rIt (kk X cm)) c F H σ R (ŕ (ě i) ρ)->wpAny (model X.prog X.w) X.A (eval (.Name x px) X.env) (λv s1=>wpAny (model X.prog X.w) X.A (pyIter v) (PIE X pins σ tg R) X.xe s1) X.xe s:=λh'=>
   fU (v_var i hN hv hd hcd) pins s σ H R I ⟨c,F,ρ,rel,h'⟩
  unfold Ŋ at h
  rw[e] at h
  cases sl with
  |no=>exact h.elim
  |rc C ns ps=>exact h.elim
  |ot ps qs=>exact h.elim
  |ol Bp=>exact h.elim
  |ow ps=>exact Jx (by unfold ŕ ě;rw[e];exact h)
  |sh p=>
   cases p with
   |lst ps=>exact Jx (by unfold ŕ ě;rw[e];exact h)
   |tup ps=>exact Jx (by unfold ŕ ě;rw[e];exact h)
   |str z=>exact Jx (by unfold ŕ ě;rw[e];exact h)
   |_=>exact h.elim
  |bw ps=>
   obtain⟨a,vs,h1,h2,h3⟩:=rel.slot i _ e
   refine Dv (iM hN hv hd hcd) pins s σ H R I ⟨.ref a,at_of h1,.inl ⟨a,rfl,⟨vs,Ÿ.of (rel.lent a _ h2).1⟩,h _ F H rel (Same.refl _) (Same.refl _) ?_⟩⟩
   intro c' j F2 H2 σ2 ρ2 ķ sF sL
   have hq:Ÿ X.K H2 a vs:=Ÿ.of (sL a _ h2)
   refine⟨λp hp=>?_,λhi=>⟨vs,hq,by rw[hi,h3.length];exact Nat.le_refl _⟩⟩
   obtain⟨u,hu,ru⟩:=bA h3.pr hp
   refine⟨⟨vs,u,hq,hu⟩,λx H' ⟨hH,hx⟩=>?_⟩
   subst hH
   have:vs[j]?=some x:=hx vs hq
   rw[hu] at this
   cases this
   exact⟨F2,ķ,Same.refl _,Same.refl _,Rep.same sF p u ru⟩
def bF(lo:Int)(n:Nat)(c:Int):List PV:=(List.range n).map λ(i:Nat)=>.int (lo+i*c)
def cg(i:Int):Bool:=decide (i.natAbs<1152921504606846976)
def aV:List PV->Option (List PV)
 | [.int j]=>if cg j=true then some (bF 0 j.toNat 1) else none
 |_=>none
def ų(f:List PV->Option (List PV))(mr:M (List PV)):M (List PV):=λρ=>(mr ρ).bind λps ρ1=>Res.lW (f ps) ρ1
def mJ{lo c:Int}{n i:Nat}{p:PV}(h:(bF lo n c)[i]?=some p):i<n/\p=.int (lo+i*c):=by
 unfold bF at h
 by_cases hn:i<n
 ·rw[List.getElem?_map,List.getElem?_range hn] at h
  exact⟨hn,(Option.some.inj h).symm⟩
 ·rw[List.getElem?_eq_none (by simpa using hn)] at h
  cases h
def mK{lo c:Int}{n:Nat}:(bF lo n c).length=n:=by simp[bF]
def U_{K:KK}{Lh F:Hp}(lo:Int)(n:Nat):Du K Lh F (Itr lo n) (bF lo n 1):=λc i F2 H σ ρ rel sF _=>
 ⟨fun p hp=>by
   obtain⟨h1,rfl⟩:=mJ hp
   refine⟨h1,λx H' ⟨e1,e2⟩=>?_⟩
   subst e1 e2
   exact⟨F2,rel,Same.refl _,Same.refl _,by rw[Int.mul_one];exact Rep.int⟩,λhi=>by rw[mK] at hi;subst hi;exact Nat.le_refl _⟩
def Va{K:KK}{Lh F:Hp}(lo c':Int)(n:Nat):Du K Lh F (Itc lo c' n) (bF lo n c'):=λc i F2 H σ ρ rel sF _=>
 ⟨fun p hp=>by
   obtain⟨h1,rfl⟩:=mJ hp
   refine⟨h1,λx H' ⟨e1,e2⟩=>?_⟩
   subst e1 e2
   exact⟨F2,rel,Same.refl _,Same.refl _,Rep.int⟩,λhi=>by rw[mK] at hi;subst hi;exact Nat.le_refl _⟩
def jL{i:Int}(h:cg i=true): -(2 ^ 60)<=i/\i<2 ^ 60:=by
 unfold cg at h
 rw[decide_eq_true_eq] at h
 omega
variable{a b d:Expr}{p pos:Pos}{mr:M (List PV)}
def jM{K:KK}{F:Hp}{ps:List PV}{vs:List V}(h:ę K F ps vs):(∀i r,ps=.int i::r->∃r',vs=.int i::r'/\ę K F r r')/\(ps=[]->vs=[]):=by
 refine⟨λi r e=>?_,λe=>?_⟩
 ·subst e
  unfold ę at h
  obtain⟨x,r',h1,h2,h3⟩:=h
  unfold Rep at h2
  exact⟨r',by rw[h1,h2],h3⟩
 ·subst e
  unfold ę at h
  exact h
def ż(hg:Gl X "range")(hm:X.mg "range" =none)(ha:PA X [a] (tL (kk X cm) E mr))(hs:starEach [a] X.env=[(false,eval a X.env)]:=by exact ſ rfl):PI X tg (.Call (.Name "range" p) [a] [] pos) (tI (kk X cm) E (ų aV mr)):=
 λpins s σ H R I h=>Ad hg hm ha hs pins s σ H R I (by
  obtain⟨c,F,ρ,rel,h⟩:=h
  refine⟨c,F,ρ,rel,h.bind λps ρ1 vs F1 H1 ĕ s1 s2 q h1=>?_⟩
  have q':ę (kk X cm) F1 ps vs:=q
  unfold aV at h1
  split at h1
  ·rename_i j
   split at h1
   ·rename_i hj
    obtain⟨r',e1,e2⟩:=(jM q').1 _ _ rfl
    cases(jM e2).2 rfl
    obtain⟨k1,k2⟩:=jL hj
    exact⟨j,e1,by omega,by omega,h1 _ F1 H1 ĕ (Same.refl _) (Same.refl _) (U_ 0 j.toNat)⟩
   ·exact h1.elim
  ·exact h1.elim)
end
def Ŵ:Slot->Slot
 | .sh p=>.sh p
 | .ow ps=>.bw ps
 | .bw ps=>.bw ps
 |_=>.no
def fV(js:List Nat)(nl:Nat)(ρ:ľ):ľ:=js.map (λ(j:Nat)=>Ŵ ((ρ[j]?).getD .no))++List.replicate nl .no
def ļ(g:Tg)(mt:M Bool)(me:M PV):List PV->ľ->List PV->Option (List PV)
 | [],_,acc=>some acc
 |p::ps,ρ,acc=>match g p ρ with
  |none=>none
  |some ρ1=>match mt ρ1 with
   | .ok true ρ2=>match me ρ2 with
     | .ok q ρ3=>if acc.length<16777216 then ļ g mt me ps ρ3 (acc ++ [q]) else none
     |_=>none
   | .ok false ρ2=>ļ g mt me ps ρ2 acc
   |_=>none
def Ń(js:List Nat)(nl:Nat)(mi:M (List PV))(g:Tg)(mt:M Bool)(me:M PV):M RV:=λρ=>(mi ρ).bind λitems ρ1=>match ļ g mt me items (fV js nl ρ1) [] with
 |some ps=>.ok (.ow ps) ρ1
 |none=>.bad
abbrev EF:L2.St->XK:=λ_ _ _ _=>False
def ł:M Bool:=λρ=>.ok true ρ
section
variable{K:KK}{c:Ctx}{F H:Hp}{σ:L2.St}{ρ:ľ}
def qQ(F H H1:Hp):Ctx:=⟨H1,F,(ctx0 F H).L,λ_ _ _=>True⟩
def Rel.cap(js:List Nat)(nl:Nat)(rel:Rel K c F H σ ρ){D:Addr}{o:HO}(hD:H D=none):Rel K (qQ F H (upd H D o)) F (upd H D o) (cJ js nl σ) (fV js nl ρ) where
 sub:=rel.sub.trans (Same.upd hD)
 base:=Same.refl _
 f0:=Same.refl _
 fB:=λ_ _ z=>z
 lent:=λa u e=>⟨Same.upd hD a u (bZ e).1,(bZ e).2⟩
 lb:=fun a e=>by
   cases q:(qQ F H (upd H D o)).L a with
   |none=>rfl
   |some u=>
    have e':upd H D o a=none:=e
    rw[Same.upd hD a u (bZ q).1] at e'
    cases e'
 len:=by simp[cJ,fV]
 slot:= λi s e=>by
  unfold fV at e
  by_cases hi:i<js.length
  ·rw[List.getElem?_append_left (by simpa using hi),List.getElem?_map] at e
   cases ej:js[i]? with
   |none=>rw[ej] at e;cases e
   |some j=>
    rw[ej] at e
    have e':Ŵ ((ρ[j]?).getD .no)=s:=Option.some.inj e
    subst e'
    have hx:((cJ js nl σ)[i]?).getD none=(σ[j]?).getD none:=by
     unfold cJ
     rw[List.getElem?_append_left (by simpa using hi),List.getElem?_map,ej]
     rfl
    rw[hx]
    cases er:ρ[j]? with
    |none=>trivial
    |some sl=>
     have q:=rel.slot j sl er
     cases sl with
     |no=>trivial
     |sh p=>exact q
     |ow ps=>
      obtain⟨a,vs,h1,h2,h3,h4,h5⟩:=q
      refine⟨a,vs,h1,?_,h5⟩
      show(match F a with|none=>H a|some _=>none)=_
      rw[h3]
      exact h2
     |bw ps=>
      obtain⟨a,vs,h1,h2,h3⟩:=q
      obtain⟨l1,l2⟩:=rel.lent a _ h2
      refine⟨a,vs,h1,?_,h3⟩
      show(match F a with|none=>H a|some _=>none)=_
      rw[l2]
      exact l1
     |rc C ns ps=>trivial
     |ot ps qs=>trivial
     |ol Bp=>trivial
  ·rw[List.getElem?_append_right (by simpa using hi),List.getElem?_replicate] at e
   split at e
   ·cases e;trivial
   ·cases e
 sep:=λi j a h1 _=>by
  exfalso
  obtain⟨s,y,h1,_,h2⟩:=h1
  have h2:=jK h2
  unfold fV at h1
  by_cases hi:i<js.length
  ·rw[List.getElem?_append_left (by simpa using hi),List.getElem?_map] at h1
   cases ej:js[i]? with
   |none=>rw[ej] at h1;cases h1
   |some j=>
    rw[ej] at h1
    have e':Ŵ ((ρ[j]?).getD .no)=s:=Option.some.inj h1
    subst e'
    cases q:(ρ[j]?).getD .no<;>rw[q] at h2<;>cases h2
  ·rw[List.getElem?_append_right (by simpa using hi),List.getElem?_replicate] at h1
   split at h1
   ·cases h1;cases h2
   ·cases h1
def Rel.rebase{H1 F1:Hp}{D:Addr}{ys zs:List V}(hD:H1 D=none)(hF:F1 D=none)(rel:Rel K (qQ F1 H1 (upd H1 D (.lst ys))) F H σ ρ):Rel K (qQ F1 H1 (upd H1 D (.lst zs))) F (upd H D (.lst zs)) σ ρ:= by
 have fD:F D=none:=rel.fB D (by show upd H1 D _ D≠none;rw[Ħ];intro z;cases z) hF
 have lD:∀b u,(qQ F1 H1 (upd H1 D (.lst ys))).L b=some u->b≠D:=λb u e z=>by
  have q:=(bZ (F:=F1) (H:=H1) (a:=b) (u:=u) e).1
  rw[z,hD] at q
  cases q
 have ne:∀b,(qQ F1 H1 (upd H1 D (.lst ys))).B b=none->b≠D:=λb z q=>by
  subst q
  have z':upd H1 b (.lst ys) b=none:=z
  rw[Ħ] at z';cases z'
 have back:∀b,b≠D->(qQ F1 H1 (upd H1 D (.lst ys))).B b=none->(qQ F1 H1 (upd H1 D (.lst zs))).B b=none:=λb hb z=>by
  have z':upd H1 D (.lst ys) b=none:=z
  show upd H1 D (.lst zs) b=none
  rw[Ę hb] at z' ⊢;exact z'
 refine⟨λb u e=>?_,λb u e=>?_,rel.f0,λb h1 h2=>?_,λb u e=>?_,λb e=>?_,rel.len,λi s e=>?_,rel.sep⟩
 ·have hb:b≠D:=λz=>by rw[z,fD] at e;cases e
  rw[Ę hb];exact rel.sub b u e
 ·by_cases hb:b=D
  ·subst hb
   have e':upd H1 b (.lst zs) b=some u:=e
   rw[Ħ] at e' ⊢;exact e'
  ·have e':upd H1 D (.lst zs) b=some u:=e
   rw[Ę hb] at e' ⊢
   exact rel.base b u (by show upd H1 D _ b=some u;rw[Ę hb];exact e')
 ·refine rel.fB b (λz=>h1 ?_) h2
  exact back b (ne b z) z
 ·rw[Ę (lD b u e)]
  exact rel.lent b u e
 ·refine rel.lb b ?_
  have z':upd H1 D (.lst zs) b=none:=e
  have hb:b≠D:=λq=>by rw[q,Ħ] at z';cases z'
  show upd H1 D (.lst ys) b=none
  rw[Ę hb] at z' ⊢;exact z'
 ·have q:=rel.slot i s e
  cases s with
  |no=>trivial
  |sh p=>exact q
  |bw ps=>exact q
  |ow ps=>
   obtain⟨a,vs,q1,q2,q3,q4,q5⟩:=q
   have hb:=ne a q4
   exact⟨a,vs,q1,by rw[Ę hb];exact q2,q3,back a hb q4,q5⟩
  |rc C ns ps=>
   obtain⟨a,dx,fs,q1,q2,q3,q4,q5⟩:=q
   have hb:=ne a q4
   exact⟨a,dx,fs,q1,by rw[Ę hb];exact q2,q3,back a hb q4,q5⟩
  |ot ps qs=>
   obtain⟨p,a,xs,vs,q1,q0,qx,q2,q3,q4,q5⟩:=q
   have hb:=ne a q4
   exact⟨p,a,xs,vs,q1,q0,qx,by rw[Ę hb];exact q2,q3,back a hb q4,q5⟩
  |ol Bp=>
   obtain⟨p,as,q1,q0,qn,qp⟩:=q
   refine⟨p,as,q1,q0,qn,Di qp λa ps _ ⟨vs,q2,q3,q4,q5⟩=>?_⟩
   have hb:=ne a q4
   exact⟨vs,by rw[Ę hb];exact q2,q3,back a hb q4,q5⟩
end
section
variable{X:Cx}{cm:String->Addr}{E:L2.St->XK}{elt tg iter:Expr}{ifs:List Expr}{scope:Scope}{pos:Pos}{mi:M (List PV)}{g:Tg}{mt:M Bool}{me:M PV}
def Ť:Bm X [] (tB (kk X cm) E ł):=λpins s σ H Q I h=>Je pins s σ H Q I (by
 obtain⟨c,F,ρ,rel,h⟩:=h
 exact h true F H rel (Same.refl _) (Same.refl _) rfl)
def Dw{a:Expr}(h:PT X a (tB (kk X cm) E mt)):Bm X [a] (tB (kk X cm) E mt):=Jf h
def Dz(K:KK):RR (List PV) It:=λ_ _ _ F H items J=>Du K (ctx0 F H).L F J items
def Zae{K:KK}{c:Ctx}{F H:Hp}{σ:L2.St}{ρ:ľ}(rel:Rel K c F H σ ρ){b:Addr}{u:HO}(e:c.L b=some u):(ctx0 F H).L b=some u:=by
 obtain⟨l1,l2⟩:=rel.lent b u e
 show(match F b with|none=>H b|some _=>none)=some u
 rw[l2]
 exact l1
def Li(h:PI X tg iter (tI (kk X cm) E mi)):PI X tg iter (tG (kk X cm) E (Dz (kk X cm)) mi):=λpins s σ H R I ⟨c,F,ρ,rel,q⟩=>h pins s σ H R I ⟨c,F,ρ,rel,aJ.bind (R':=Dz (kk X cm)) (f:=λp ρ=>.ok p ρ) (by revert q;cases mi ρ <;> exact id) λp ρ1 v F1 H1 ĕ s1 s2 q h1=>h1 v F1 H1 ĕ (Same.refl _) (Same.refl _) λc' i F2 H2 σ2 ρ2 ķ sF sL=>q c' i F2 H2 σ2 ρ2 ķ sF λb u e=>sL b u (Zae ĕ e)⟩
def ur{js:List Nat}{nl:Nat}{σ:L2.St}{H:Hp}{Q:VK}(h:tO (kk X cm) E (Ń js nl mi g mt me) σ H Q):CQ js nl (tG (kk X cm) E (Dz (kk X cm)) mi) (tT (kk X cm) g) (tB (kk X cm) EF mt) (tV (kk X cm) EF me) σ H Q:=by
 obtain⟨c,F,ρ,rel,h⟩:=h
 refine⟨c,F,ρ,rel,h.bind λitems ρ1 J F1 H1 ĕ s1 s2 ito h1=>?_⟩
 intro D hD
 have hF:F1 D=none:=ĕ.sub.free hD
 cases ec:ļ g mt me items (fV js nl ρ1) [] with
 |none=>rw[ec] at h1;exact h1.elim
 |some res=>
  rw[ec] at h1
  refine⟨λi m σ' H'=>∃F' ρ' ys acc,i<=items.length/\m=items.length-i/\Rel (kk X cm) (qQ F1 H1 (upd H1 D (.lst ys))) F' H' σ' ρ'/\ę (kk X cm) F' acc ys/\ļ g mt me (items.drop i) ρ' acc=some res,
   ⟨_,F1,_,[],[],Nat.zero_le _,rfl,?_,ę.nil,ec⟩,?_⟩
  ·exact ĕ.cap js nl hD
  ·rintro i m σ2 H2 ⟨F2,ρ2,ys,acc,hle,rfl,ķ,ra,h2⟩
   have s12:Same F1 F2:=ķ.f0
   obtain⟨go,stop⟩:=ito _ i F2 H2 σ2 ρ2 ķ s12 λb u e=>(ķ.lent b u e).1
   have hH2:H2 D=some (.lst ys):=ķ.base D _ (show upd H1 D _ D=_ from Ħ)
   have fD:F2 D=none:=ķ.fB D (by show upd H1 D _ D≠none;rw[Ħ];intro z;cases z) hF
   by_cases hlt:i<items.length
   ·obtain⟨g1,g2⟩:=go items[i] (List.getElem?_eq_getElem hlt)
    rw[List.drop_eq_getElem_cons hlt] at h2
    unfold ļ at h2
    refine .inr ⟨g1,_,λσ' H' z=>z,λx H3 hy=>?_⟩
    obtain⟨F3,qP,s3,sH3,rp⟩:=g2 x H3 hy
    refine⟨_,F3,ρ2,items[i],qP,rp,?_⟩
    cases eg:g items[i] ρ2 with
    |none=>rw[eg] at h2;cases h2
    |some ρ3=>
     rw[eg] at h2
     dsimp only at h2
     intro σ4 Dp
     refine⟨_,F3,ρ3,Dp,?_⟩
     cases em:mt ρ3 with
     |bad=>rw[em] at h2;cases h2
     |exc x ρ4=>rw[em] at h2;cases h2
     |ok b ρ4=>
      rw[em] at h2
      intro b' F5 H5 Zaf s5 wF eb
      have eb':b=b':=eb
      subst eb'
      cases b with
      |false=>
       rw[if_neg Bool.false_ne_true]
       dsimp only at h2
       exact⟨items.length-(i+1),by omega,F5,ρ4,ys,acc,hlt,rfl,Zaf,ę.same (s3.trans s5) acc ys ra,h2⟩
      |true=>
       rw[if_pos rfl]
       dsimp only at h2
       refine⟨_,F5,ρ4,Zaf,?_⟩
       cases ee:me ρ4 with
       |bad=>rw[ee] at h2;cases h2
       |exc x ρ5=>rw[ee] at h2;cases h2
       |ok q ρ5=>
        rw[ee] at h2
        dsimp only at h2
        intro y F6 H6 Zag s6 Jy rq
        split at h2
        ·rename_i hz
         have ra6:=ę.same ((s3.trans s5).trans s6) acc ys ra
         refine⟨ys,Zag.base D _ (show upd H1 D _ D=_ from Ħ),by rw[<-ra6.length,ĺ];exact hz,?_⟩
         exact⟨items.length-(i+1),by omega,F6,ρ5,ys ++ [y],acc ++ [q],hlt,rfl,Zag.rebase hD hF,ę.append ra6 (ę.cons rq ę.nil),h2⟩
        ·cases h2
   ·have e:i=items.length:=by omega
    refine .inl ⟨stop e,?_⟩
    rw[List.drop_eq_nil_of_le (by omega)] at h2
    unfold ļ at h2
    cases h2
    have gr:Gr F1 H1 F2 H2:=⟨λb u e=>ķ.base b u (by show upd H1 D _ b=_;rw[Ę (Ģ e hD)];exact e),s12,ķ.sub,λb hb hf=>ķ.fB b (by
     show upd H1 D _ b≠none
     by_cases hbD:b=D
     ·rw[hbD,Ħ];intro z;cases z
     ·rw[Ę hbD];exact hb) hf⟩
    have Zcy:=ĕ.call gr
    exact h1 _ F2 H2 Zcy s12 gr.h ⟨D,ys,rfl,hH2,fD,ĕ.base.free hD,ĕ.qN gr.f (ĕ.fresh hD),ra⟩
def Jz(N':List Str)(js:List Nat)(nl:Nat)(sc:Scope)(hsc:X.env.scope=sc)(hcalm:X.calm=true)
 (hi:PI X.Œ tg iter (tG (kk X cm) E (Dz (kk X cm)) mi))(hg:∀cl C s H fp,PG (bY X.Œ N' scope cl C s H fp) tg (tT (kk X cm) g))(ht:∀cl C s H fp,Bm (bY X.Œ N' scope cl C s H fp) ifs (tB (kk X cm) EF mt))(he:∀cl C s H fp,PE (bY X.Œ N' scope cl C s H fp) elt (tV (kk X cm) EF me))
 (hcap:cI X.Œ sc scope N' js)(hlen:js.length+nl=N'.length:=by rfl)
 (hk:scope.kind=.function:=by rfl)(hcell:∀y∈scope.names,y.2=.cell->scope.names.lookup y.1=some .cell:=by decide +kernel)(hnames:∀y∈scope.names,y.2=.local->scope.names.lookup y.1=some .local:=by decide +kernel)
 (hfree:∀y∈scope.names,y.2=.free->(sc.names.lookup y.1=some .cell\/sc.names.lookup y.1=some .free):=by decide +kernel)
 (hs:∀x,foldedSetIterable iter X.env x=pure x:=by intro _;rfl) :
 PE X (.ListComp elt [⟨tg,iter,ifs,0⟩] scope pos) (tO (kk X cm) E (Ń js nl mi g mt me)):=
 PE.wk (PE.Œ (Jg N' js nl sc hsc hcalm hi hg ht he hcap hlen hk hcell hnames hfree hs)) λ_ _ _ h=>ur h
end
end P
namespace P
open PySem PySem.Spec PyProof.Rows L2 M2 M3 M4
abbrev bits(x:Int):Nat:=Builtin.Int.intBits x
section
variable{X:Cx}{cm:String->Addr}{K:KK}
def Lj(K:PySem.W.Frag):R2:=λx y H Q=>∃l b xs zs,x=.ref l/\y=.ref b/\Ÿ K H l xs/\Ÿ K H b zs/\xs.length+zs.length<=sizeLine/\∀p,H p=none->Q (.ref p) (upd H p (.lst (xs++zs)))
def JB:Ş X (binaryOp .Add) (Lj X.K):=by
 intro pins s σ H x y v u Q I rx ry h
 obtain⟨l,b,xs,zs,rfl,rfl,hH,hB,hz,q⟩:=h
 cases rx
 cases ry
 obtain⟨its,r,pl,z⟩:=I.list hH
 obtain⟨its2,r2,pl2,z2⟩:=I.list hB
 obtain⟨⟨c1,d1,t1,sl1⟩,n,e,hc,hd,hs⟩:=pl
 obtain⟨⟨c2,d2,t2,sl2⟩,n2,e2,hc2,hd2,hs2⟩:=pl2
 simp only at hc hd hs hc2 hd2 hs2
 subst hc hd hs hc2 hd2 hs2
 have hl:=r.length
 have hl2:=r2.length
 have ea:its.toArray++its2.toArray=(its++its2).toArray:=by simp
 refine concat_meets ⟨_,e,rfl⟩ ⟨_,e2,rfl⟩ noFill_list_add seq_list_add PySem.F.slot_list_add PySem.F.entry_list_add (PySem.F.args_list_add_2 _ _) (list_addW l b its.toArray its2.toArray n n2 none none sl1 sl2 (by simp only[List.size_toArray];omega)) ⟨e,e2,?_⟩
 rw[ea]
 exact⟨.ref _,_,I.Zcm (t':=s.toks) (r.append r2) (by rw[List.length_append];omega),rfl,q _ I.fresh⟩
def Lk(K:PySem.W.Frag):R2:=λx y H Q=>∃l b xs zs,x=.ref l/\y=.ref b/\fH K H l xs/\fH K H b zs/\xs≠[]/\zs≠[]/\xs.length+zs.length<=sizeLine/\∀p,H p=none->Q (.ref p) (upd H p (.tup (xs++zs)))
def JC:Ş X (binaryOp .Add) (Lk X.K):=by
 intro pins s σ H x y v u Q I rx ry h
 obtain⟨l,b,xs,zs,rfl,rfl,hH,hB,nx,nz,hz,q⟩:=h
 cases rx
 cases ry
 obtain⟨its,r,pl,z⟩:=I.tuple hH
 obtain⟨its2,r2,pl2,z2⟩:=I.tuple hB
 obtain⟨⟨c1,d1,t1,sl1⟩,e,hc,n,hd⟩:=pl
 obtain⟨⟨c2,d2,t2,sl2⟩,e2,hc2,n2,hd2⟩:=pl2
 simp only at hc hd hc2 hd2
 subst hc hd hc2 hd2
 have hl:=r.length
 have hl2:=r2.length
 have ne1:its≠[]:=λz=>by rw[z] at hl;exact nx (List.length_eq_zero_iff.mp hl)
 have ne2:its2≠[]:=λz=>by rw[z] at hl2;exact nz (List.length_eq_zero_iff.mp hl2)
 have ea:its.toArray++its2.toArray=(its++its2).toArray:=by simp
 refine concat_meets ⟨_,e,rfl⟩ ⟨_,e2,rfl⟩ noFill_tuple_add seq_tuple_add PySem.F.slot_tuple_add PySem.F.entry_tuple_add (PySem.F.args_tuple_add_2 _ _) (tuple_addW2 l b its.toArray its2.toArray n n2 d1 d2 sl1 sl2 (by simpa using ne1) (by simpa using ne2) (by simp only[List.size_toArray];omega)) ⟨e,e2,?_⟩
 rw[ea]
 exact⟨.ref _,_,I.laid (o:=.tup (xs++zs)) (t':=s.toks) (λ_ _ q=>Heap.get?_push_of_some _ q) (Nat.le_refl _) ⟨by rw[List.length_append];omega,(its++its2),r.append r2,⟨_,Heap.get?_push_size _ rfl,rfl,_,rfl⟩⟩,rfl,q _ I.fresh⟩
def ĝ:PV->PV->Option RV
 | .int i,.int j=>some (.sh (.int (i+j)))
 | .str i,.str j=>if i.length+j.length<=16777216 then some (.sh (.str (i++j))) else none
 | .lst ps,.lst qs=>if ps.length+qs.length<=16777216 then some (.ow (ps++qs)) else none
 | .tup (p::ps),.tup (q::qs)=>if(p::ps).length+(q::qs).length<=16777216 then some (.sh (.tup ((p::ps)++(q::qs)))) else none
 |_,_=>none
def Lp(K:PySem.W.Frag):R2:=λx y H Q=>YD x y H Q\/(Lj K x y H Q\/Lk K x y H Q)
def Vb:Ş X (binaryOp .Add) (Lp X.K):=Ui.or (JB.or JC)
def Vc:OpO K (Lp K.K) ĝ:=by
 intro c F H σ ρ p q pv v u Q rel r1 r2 e k
 unfold ĝ at e
 split at e
 ·cases e
  cases r1.int
  cases r2.int
  exact .inl (k _ F H rel (Same.refl _) (Same.refl _) (Rep.int (K:=K) (F:=F)))
 ·split at e
  ·rename_i hz
   cases e
   cases r1.str
   cases r2.str
   exact .inl ⟨by rw[ĺ];exact hz,k _ F H rel (Same.refl _) (Same.refl _) (Rep.str (K:=K) (F:=F))⟩
  ·cases e
 ·split at e
  ·rename_i hz
   cases e
   obtain⟨a,xs,rfl,h1,h2⟩:=r1.lst rel.sub
   obtain⟨b,ys,rfl,h3,h4⟩:=r2.lst rel.sub
   refine .inr (.inl ⟨a,b,xs,ys,rfl,rfl,h1,h3,by rw[<-h2.length,<-h4.length,ĺ];exact hz,λd hd=>?_⟩)
   obtain⟨q1,q2⟩:=cO rel hd (ę.append h2 h4)
   exact k _ F _ q1 (Same.refl _) (Same.upd hd) q2
  ·cases e
 ·split at e
  ·rename_i hz
   cases e
   obtain⟨a,xs,rfl,h1,h2⟩:=r1.tup rel.sub
   obtain⟨b,ys,rfl,h3,h4⟩:=r2.tup rel.sub
   have l1:=h2.length
   have l2:=h4.length
   refine .inr (.inr ⟨a,b,xs,ys,rfl,rfl,h1,h3,(λz=>by rw[z] at l1;cases l1),(λz=>by rw[z] at l2;cases l2),by rw[<-l1,<-l2,ĺ];exact hz,λl hl=>k _ _ _ (rel.alloc hl) (Same.upd (rel.sub.free hl)) (Same.upd hl) ?_⟩)
   show Rep K _ _ _
   unfold Rep
   exact⟨l,xs++ys,rfl,fH.of Ħ,ę.same (Same.upd (rel.sub.free hl)) _ _ (ę.append h2 h4)⟩
  ·cases e
 ·cases e
def tU(g:Int->Int->Int):PV->PV->Option PV
 | .int i,.int j=>some (.int (g i j))
 |_,_=>none
def yL(C:Int->Int->Bool)(g:Int->Int->Int):PV->PV->Option PV
 | .int i,.int j=>if C i j=true then some (.int (g i j)) else none
 |_,_=>none
def XM(g:Int->Int->Bool):PV->PV->Option PV
 | .int i,.int j=>some (.bl (g i j))
 |_,_=>none
def Lq{g:Int->Int->Int}:ig K (wg λi j=>.int (g i j)) (tU g):=by
 intro c F H σ ρ p q pv v u Q rel r1 r2 e k
 unfold tU at e
 split at e
 ·cases e
  cases r1.int
  cases r2.int
  exact k _ F H rel (Same.refl _) (Same.refl _) Rep.int
 ·cases e
def JD{g:Int->Int->Bool}:ig K (wg λi j=>.bl (g i j)) (XM g):=by
 intro c F H σ ρ p q pv v u Q rel r1 r2 e k
 unfold XM at e
 split at e
 ·cases e
  cases r1.int
  cases r2.int
  exact k _ F H rel (Same.refl _) (Same.refl _) Rep.bl
 ·cases e
def DG{C:Int->Int->Bool}{C':Int->Int->Prop}{g:Int->Int->Int}(hC:∀i j,C i j=true->C' i j):ig K (mI C' λi j=>.int (g i j)) (yL C g):=by
 intro c F H σ ρ p q pv v u Q rel r1 r2 e k
 unfold yL at e
 split at e
 ·split at e
  ·rename_i hc
   cases e
   cases r1.int
   cases r2.int
   exact⟨hC _ _ hc,k _ F H rel (Same.refl _) (Same.refl _) Rep.int⟩
  ·cases e
 ·cases e
def Ŏ:=tU λi j=>i-j
def Vd:ig K (wg λi j=>.int (i-j)) Ŏ:=Lq
def fW(_ j:Int):Bool:=decide (j≠0) && decide (bits j<=8000)
def Ő:=yL fW λi j=>i.fdiv j
def Ve:ig K (mI Aq λi j=>.int (i.fdiv j)) Ő:=DG λi j h=>by unfold fW at h;simpa[Aq] using h
def zp(_ j:Int):Bool:=decide (j≠0)
def į:=yL zp λi j=>i.fmod j
def Vf:ig K (mI (λ_ j=>j≠0) λi j=>.int (i.fmod j)) į:=DG λi j h=>by unfold zp at h;simpa using h
def uw(i j:Int):Bool:=decide (0<=j) && decide (j.natAbs<=1000000) && decide (i.natAbs<18446744073709551616)
def pN:=yL uw λi j=>i ^ j.toNat
def qR:ig K (mI Af λi j=>.int (i ^ j.toNat)) pN:=DG λi j h=>by
 unfold uw at h
 simp only[Bool.and_eq_true,decide_eq_true_eq] at h
 exact⟨h.1.1,by omega,by have:=h.2;simpa using this⟩
def mL(i j:Int):Bool:=decide (0<=j) && decide (j.natAbs<=1000000) && decide (i.natAbs<18446744073709551616)
def ux:=yL mL λi j=>i*2 ^ j.toNat
def wG:ig K (mI Af λi j=>.int (i*2 ^ j.toNat)) ux:=DG λi j h=>by
 unfold mL at h
 simp only[Bool.and_eq_true,decide_eq_true_eq] at h
 exact⟨h.1.1,by omega,by have:=h.2;simpa using this⟩
def uy(_ j:Int):Bool:=decide (0<=j)
def uz:=yL uy λi j=>i / 2 ^ j.toNat
def wH:ig K (mI (λ_ j=>0<=j) λi j=>.int (i / 2 ^ j.toNat)) uz:=DG λi j h=>by unfold uy at h;simpa using h
def wI:=tU λi j=>Builtin.bitAnd i j
def JF:ig K (wg λi j=>.int (Builtin.bitAnd i j)) wI:=Lq
def wJ:Ş X (binaryOp .LShift) (mI Af λi j=>.int (i*2 ^ j.toNat)):=Ş.wk Tp pF
def wK:Ş X (binaryOp .RShift) (mI (λ_ j=>0<=j) λi j=>.int (i / 2 ^ j.toNat)):=Ş.wk Tq pF
def JG:Ş X (binaryOp .BitAnd) (wg λi j=>.int (Builtin.bitAnd i j)):=Ş.wk Tr jG
def jm:=XM λi j=>decide (i<j)
def eZ:=XM λi j=>decide (i<=j)
def uD:=XM λi j=>decide (j<i)
def Vg:=XM λi j=>decide (j<=i)
def eG:ig K (wg λi j=>.bl (decide (i<j))) jm:=JD
def bM:ig K (wg λi j=>.bl (decide (i<=j))) eZ:=JD
def uE:ig K (wg λi j=>.bl (decide (j<i))) uD:=JD
def Zah:ig K (wg λi j=>.bl (decide (j<=i))) Vg:=JD
def Ł(i j:Int):Bool:=decide (i.natAbs<18446744073709551616) || decide (j.natAbs<18446744073709551616) || (decide (bits i<=1048576) && decide (bits j<=1048576))
def DK{i j:Int}(h:Ł i j=true):pG i j:=by
 unfold Ł at h
 simp only[Bool.or_eq_true,Bool.and_eq_true,decide_eq_true_eq] at h
 rcases h with(h|h)|h
 ·exact .inl (.inl ⟨by omega,by omega⟩)
 ·exact .inl (.inr ⟨by omega,by omega⟩)
 ·exact .inr h
def ĭ:PV->PV->Option PV
 | .int i,.int j=>if Ł i j=true then some (.int (i*j)) else none
 | .str z,.int n=>if 0<=n/\n<=1000/\z.length<=1000 then some (.str (S (List.replicate n.toNat z.cps.toList).flatten)) else none
 |_,_=>none
def Vh:ig K C_ ĭ:=by
 intro c F H σ ρ p q pv v u Q rel r1 r2 e k
 unfold ĭ at e
 split at e
 ·split at e
  ·rename_i hc
   cases e
   cases r1.int
   cases r2.int
   exact⟨DK hc,k _ F H rel (Same.refl _) (Same.refl _) Rep.int⟩
  ·cases e
 ·split at e
  ·rename_i hc
   cases e
   cases r1.str
   cases r2.int
   exact⟨hc,k _ F H rel (Same.refl _) (Same.refl _) Rep.str⟩
  ·cases e
 ·cases e
variable{E:L2.St->XK}{a b e:Expr}{es:List Expr}{pos:Pos}{ma mb:M PV}{mr:M (List PV)}
def Ŗ:PV->Option PV
 | .int i=>some (.int (-i))
 |_=>none
def ŭ:UnV K (mU λi=>.int (-i)) Ŗ:=by
 intro c F H σ ρ p pv v Q rel r1 e k
 unfold Ŗ at e
 split at e
 ·cases e
  cases r1.int
  exact k _ F H rel (Same.refl _) (Same.refl _) Rep.int
 ·cases e
mutual
def eqB:PV->PV->Bool
 | .non,.non=>true
 | .bl a,.bl b=>a== b
 | .bl a,.int j=>(if a then 1 else 0)== j
 | .int i,.bl b=>i== (if b then 1 else 0)
 | .int i,.int j=>i== j
 | .str x,.str y=>x== y
 | .lst xs,.lst ys=>dJ xs ys
 | .tup xs,.tup ys=>dJ xs ys
 |_,_=>false
def dJ:List PV->List PV->Bool
 | [],[]=>true
 |x::xs,y::ys=>eqB x y && dJ xs ys
 |_,_=>false
end
mutual
def Ź:PV->Bool
 | .non| .bl _| .int _=>true
 | .str x=>PyData.strOk x
 | .lst xs=>cj xs
 | .tup xs=>cj xs
 |_=>false
def cj:List PV->Bool
 | []=>true
 |x::xs=>Ź x && cj xs
end
mutual
def dep:PV->Nat
 | .lst xs=>wL xs+1
 | .tup xs=>wL xs+1
 |_=>0
def wL:List PV->Nat
 | []=>0
 |x::xs=>max (dep x) (wL xs)
end
mutual
def toD:PV->PyData
 | .non=>.none
 | .bl b=>.bool b
 | .int i=>.int i
 | .str x=>.str x
 | .lst xs=>.list (cQ xs)
 | .tup xs=>.tuple (cQ xs)
 |_=>.none
def cQ:List PV->List PyData
 | []=>[]
 |x::xs=>toD x::cQ xs
end
mutual
theorem dM:∀p:PV,Ź p=true->(toD p).canLay0=true
 | .non,_=>rfl
 | .bl _,_=>rfl
 | .int _,_=>rfl
 | .str x,h=>by unfold Ź at h;unfold toD PyData.canLay0;exact h
 | .lst xs,h=>by unfold Ź at h;unfold toD PyData.canLay0;exact fX xs h
 | .tup xs,h=>by unfold Ź at h;unfold toD PyData.canLay0;exact fX xs h
 | .ins _ _ _,h=>by simp[Ź] at h
 | .xc _ _ _,h=>by simp[Ź] at h
 | .ty _,h=>by simp[Ź] at h
 | .cls _,h=>by simp[Ź] at h
theorem fX:∀ps:List PV,cj ps=true->PyData.canLayAll0 (cQ ps)=true
 | [],_=>rfl
 |p::ps,h=>by
  unfold cj at h
  rw[Bool.and_eq_true] at h
  unfold cQ PyData.canLayAll0
  rw[dM p h.1,fX ps h.2]
  rfl
end
mutual
theorem dN:∀p:PV,(toD p).depth=dep p
 | .non=>rfl
 | .bl _=>rfl
 | .int _=>rfl
 | .str x=>rfl
 | .lst xs=>by unfold toD PyData.depth dep;rw[mO xs]
 | .tup xs=>by unfold toD PyData.depth dep;rw[mO xs]
 | .ins _ _ _=>rfl
 | .xc _ _ _=>rfl
 | .ty _=>rfl
 | .cls _=>rfl
theorem mO:∀ps:List PV,PyData.depthAll (cQ ps)=wL ps
 | []=>rfl
 |p::ps=>by unfold cQ PyData.depthAll wL;rw[dN p,mO ps]
end
mutual
theorem qT:∀p q:PV,Ź p=true->Ź q=true->PyData.eqv (toD p) (toD q)=eqB p q
 | .lst xs,.lst ys,h1,h2=>by
   unfold Ź at h1 h2
   unfold toD eqB PyData.eqv
   exact qU xs ys h1 h2
 | .tup xs,.tup ys,h1,h2=>by
   unfold Ź at h1 h2
   unfold toD eqB PyData.eqv
   exact qU xs ys h1 h2
 | .ins _ _ _,_,h,_=>by simp[Ź] at h
 | .xc _ _ _,_,h,_=>by simp[Ź] at h
 | .ty _,_,h,_=>by simp[Ź] at h
 | .cls _,_,h,_=>by simp[Ź] at h
 | .non,q,_,h=>by cases q<;>first|rfl|(simp[Ź] at h)|(simp[toD,eqB,PyData.eqv])
 | .bl _,q,_,h=>by cases q<;>first|rfl|(simp[Ź] at h)|(simp[toD,eqB,PyData.eqv])
 | .int _,q,_,h=>by cases q<;>first|rfl|(simp[Ź] at h)|(simp[toD,eqB,PyData.eqv])
 | .str _,q,_,h=>by cases q<;>first|rfl|(simp[Ź] at h;done)|(simp[toD,eqB,PyData.eqv])
 | .lst _,.non,_,_=>by simp[toD,eqB,PyData.eqv]
 | .lst _,.bl _,_,_=>by simp[toD,eqB,PyData.eqv]
 | .lst _,.int _,_,_=>by simp[toD,eqB,PyData.eqv]
 | .lst _,.str _,_,_=>by simp[toD,eqB,PyData.eqv]
 | .lst _,.tup _,_,_=>by simp[toD,eqB,PyData.eqv]
 | .lst _,.ins _ _ _,_,h=>by simp[Ź] at h
 | .lst _,.xc _ _ _,_,h=>by simp[Ź] at h
 | .lst _,.ty _,_,h=>by simp[Ź] at h
 | .lst _,.cls _,_,h=>by simp[Ź] at h
 | .tup _,.non,_,_=>by simp[toD,eqB,PyData.eqv]
 | .tup _,.bl _,_,_=>by simp[toD,eqB,PyData.eqv]
 | .tup _,.int _,_,_=>by simp[toD,eqB,PyData.eqv]
 | .tup _,.str _,_,_=>by simp[toD,eqB,PyData.eqv]
 | .tup _,.lst _,_,_=>by simp[toD,eqB,PyData.eqv]
 | .tup _,.ins _ _ _,_,h=>by simp[Ź] at h
 | .tup _,.xc _ _ _,_,h=>by simp[Ź] at h
 | .tup _,.ty _,_,h=>by simp[Ź] at h
 | .tup _,.cls _,_,h=>by simp[Ź] at h
theorem qU:∀ps qs:List PV,cj ps=true->cj qs=true->PyData.eqvAll (cQ ps) (cQ qs)=dJ ps qs
 | [],[],_,_=>by simp[cQ,dJ,PyData.eqvAll]
 | [],_::_,_,_=>by simp[cQ,dJ,PyData.eqvAll]
 |_::_,[],_,_=>by simp[cQ,dJ,PyData.eqvAll]
 |p::ps,q::qs,h1,h2=>by
  unfold cj at h1 h2
  rw[Bool.and_eq_true] at h1 h2
  unfold cQ dJ PyData.eqvAll
  rw[qT p q h1.1 h2.1,qU ps qs h1.2 h2.2]
end
mutual
theorem DN{F:Hp}:∀(p:PV) (v:V),Ź p=true->Rep K F p v->Rp K.K F (toD p) v
 | .non,_,_,r=>by unfold Rep at r;unfold toD Rp;exact r
 | .bl _,_,_,r=>by unfold Rep at r;unfold toD Rp;exact r
 | .int _,_,_,r=>by unfold Rep at r;unfold toD Rp;exact r
 | .str _,_,_,r=>by unfold Rep at r;unfold toD Rp;exact r
 | .lst xs,_,h,r=>by
   unfold Ź at h
   unfold Rep at r
   unfold toD Rp
   obtain⟨a,vs,h1,h2,h3⟩:=r
   exact⟨a,vs,h1,h2,gM xs vs h h3⟩
 | .tup xs,_,h,r=>by
   unfold Ź at h
   unfold Rep at r
   unfold toD Rp
   obtain⟨a,vs,h1,h2,h3⟩:=r
   exact⟨a,vs,h1,h2,gM xs vs h h3⟩
 | .ins _ _ _,_,h,_=>by simp[Ź] at h
 | .xc _ _ _,_,h,_=>by simp[Ź] at h
 | .ty _,_,h,_=>by simp[Ź] at h
 | .cls _,_,h,_=>by simp[Ź] at h
theorem gM{F:Hp}:∀(ps:List PV) (vs:List V),cj ps=true->ę K F ps vs->jH K.K F (cQ ps) vs
 | [],_,_,r=>by unfold ę at r;unfold cQ jH;exact r
 |p::ps,_,h,r=>by
  unfold cj at h
  rw[Bool.and_eq_true] at h
  unfold ę at r
  unfold cQ jH
  obtain⟨x,t,h1,h2,h3⟩:=r
  exact⟨x,t,h1,DN p x h.1 h2,gM ps t h.2 h3⟩
end
def gO{c:Ctx}{F H:Hp}{σ:L2.St}{ρ:ľ}{p:PV}{v:V}(s:Same F H)(h:Ź p=true)(r:rR K c σ ρ F H p v):Rp K.K H (toD p) v:=by
 rcases r with r|r
 ·exact Rp.same s _ _ (DN p v h r)
 ·cases p with
  |lst ps=>
   obtain⟨a,vs,rfl,h3,h4⟩:=r
   unfold Ź at h
   unfold toD Rp
   exact⟨a,vs,rfl,Ÿ.of h3,jH.same s _ _ (gM ps vs h h4)⟩
  |ins C ns ps=>simp[Ź] at h
  |_=>exact r.elim
def qW(p q:PV):Bool:=Ź p && Ź q && decide (min (dep p) (dep q)<=60)
def ŋ(p q:PV):Option PV:=if qW p q=true then some (.bl (eqB p q)) else none
def fj(p q:PV):Option PV:=if qW p q=true then some (.bl (!eqB p q)) else none
def Lr:ig K (Jd K.K false) ŋ:=by
 intro c F H σ ρ p q pv v u Q rel r1 r2 e k
 unfold ŋ at e
 split at e
 ·rename_i hz
  cases e
  unfold qW at hz
  simp only[Bool.and_eq_true,decide_eq_true_eq] at hz
  refine⟨toD p,toD q,gO rel.sub hz.1.1 r1,gO rel.sub hz.1.2 r2,dM p hz.1.1,dM q hz.1.2,by rw[dN,dN];exact hz.2,?_⟩
  rw[qT p q hz.1.1 hz.1.2]
  exact k _ F H rel (Same.refl _) (Same.refl _) Rep.bl
 ·cases e
def Ls:ig K (Jd K.K true) fj:=by
 intro c F H σ ρ p q pv v u Q rel r1 r2 e k
 unfold fj at e
 split at e
 ·rename_i hz
  cases e
  unfold qW at hz
  simp only[Bool.and_eq_true,decide_eq_true_eq] at hz
  refine⟨toD p,toD q,gO rel.sub hz.1.1 r1,gO rel.sub hz.1.2 r2,dM p hz.1.1,dM q hz.1.2,by rw[dN,dN];exact hz.2,?_⟩
  rw[qT p q hz.1.1 hz.1.2]
  exact k _ F H rel (Same.refl _) (Same.refl _) Rep.bl
 ·cases e
def lX:PV->Bool
 | .non=>true
 |_=>false
def mQ(p q:PV):Option PV:=match q with
 | .non=>some (.bl (lX p))
 |_=>none
def gP(p q:PV):Option PV:=match q with
 | .non=>some (.bl (!lX p))
 |_=>none
def zq{c:Ctx}{F H:Hp}{σ:L2.St}{ρ:ľ}{p:PV}{v:V}(r:rR K c σ ρ F H p v):decide (v=.non)=lX p:=by
 rcases r with r|r
 ·cases p<;>unfold Rep at r<;>first
   |(subst r;rfl)
   |(obtain⟨a,xs,rfl,_⟩:=r;rfl)
   |(obtain⟨a,xs,ys,rfl,_⟩:=r;rfl)
 ·cases p with
  |lst ps=>obtain⟨a,vs,rfl,_⟩:=r;rfl
  |ins C ns ps=>obtain⟨a,dx,fs,rfl,_⟩:=r;rfl
  |_=>exact r.elim
def mR:ig K (λx y H Q=>y=.non/\Q (.bl (decide (x=.non))) H) mQ:=by
 intro c F H σ ρ p q pv v u Q rel r1 r2 e k
 unfold mQ at e
 split at e
 ·cases e
  refine⟨r2.non,?_⟩
  rw[zq r1]
  exact k _ F H rel (Same.refl _) (Same.refl _) Rep.bl
 ·cases e
def uF:ig K (λx y H Q=>y=.non/\Q (.bl (!decide (x=.non))) H) gP:=by
 intro c F H σ ρ p q pv v u Q rel r1 r2 e k
 unfold gP at e
 split at e
 ·cases e
  refine⟨r2.non,?_⟩
  rw[zq r1]
  exact k _ F H rel (Same.refl _) (Same.refl _) Rep.bl
 ·cases e
def đ:PV->PV->Option PV
 | .lst ps,.int i=>mD ps i
 | .tup ps,.int i=>mD ps i
 | .str z,.int i=>if z.length<=16777216 then(mD z.cps.toList i).map λc=>.str ⟨#[c]⟩ else none
 |_,_=>none
def zu{F:Hp}{ps:List PV}{vs:List V}{i:Int}{p:PV}(r:ę K F ps vs)(h:mD ps i=some p):∃v,mD vs i=some v/\Rep K F p v:=by
 unfold mD at h ⊢
 rw[r.length] at h
 cases e:HD vs.length i with
 |none=>rw[e] at h;cases h
 |some j=>
  rw[e] at h
  obtain⟨v,h1,h2⟩:=bA r.pr h
  exact⟨v,h1,h2⟩
def Zai:ig K (mIx K.K) đ:=by
 intro c F H σ ρ p q pv v u Q rel r1 r2 e k
 unfold đ at e
 split at e
 ·obtain⟨a,vs,rfl,h1,h2⟩:=r1.lst rel.sub
  cases r2.int
  obtain⟨x,h3,h4⟩:=zu h2 e
  exact⟨vs,x,.inl h1,h3,k _ F H rel (Same.refl _) (Same.refl _) h4⟩
 ·obtain⟨a,vs,rfl,h1,h2⟩:=r1.tup rel.sub
  cases r2.int
  obtain⟨x,h3,h4⟩:=zu h2 e
  exact⟨vs,x,.inr h1,h3,k _ F H rel (Same.refl _) (Same.refl _) h4⟩
 ·split at e
  ·rename_i z i hz
   cases r1.str
   cases r2.int
   cases ea:mD z.cps.toList i with
   |none=>rw[ea] at e;cases e
   |some cc=>
    rw[ea] at e
    cases e
    exact⟨cc,by rw[ĺ];exact hz,ea,k _ F H rel (Same.refl _) (Same.refl _) Rep.str⟩
  ·cases e
 ·cases e
def JH:M (Option Int):=λρ=>.ok none ρ
def mP(m:M PV):M (Option Int):=λρ=>(m ρ).bind λp ρ1=>match p with
 | .int i=>.ok (some i) ρ1
 |_=>.bad
abbrev tP(K:KK)(E:L2.St->XK)(m:M (Option Int)):TO:=tG K E rI m
def DP:PO X none (tP (kk X cm) E JH):=λpins s σ H Q I h=>Iw pins s σ H Q I (by
 obtain⟨c,F,ρ,rel,h⟩:=h
 exact h none F H rel (Same.refl _) (Same.refl _) rfl)
def aQ(ha:PE X e (tV (kk X cm) E ma)):PO X (some e) (tP (kk X cm) E (mP ma)):=λpins s σ H Q I h=>CJ ha pins s σ H Q I (by
 obtain⟨c,F,ρ,rel,h⟩:=h
 refine⟨c,F,ρ,rel,h.bind λp ρ1 v F1 H1 ĕ _ _ r1 h1=>?_⟩
 cases p with
 |int i=>
  have e:v=.int i:=by have r1':Rep (kk X cm) F1 (.int i) v:=r1;unfold Rep at r1';exact r1'
  subst e
  exact h1 (some i) F1 H1 ĕ (Same.refl _) (Same.refl _) rfl
 |_=>exact h1.elim)
def iU{α:Type}(xs:List α)(lo hi:Option Int):List α:= (xs.drop (HT.fJ xs.length 0 lo)).take (HT.fJ xs.length xs.length hi-HT.fJ xs.length 0 lo)
def Vi(p:PV)(lo hi:Option Int):Option RV:=match p with
 | .lst ps=>some (.ow (iU ps lo hi))
 | .str z=>if z.length<=16777216 then some (.sh (.str (S (iU z.cps.toList lo hi)))) else none
 |_=>none
def DQ(ma:M PV)(ml mh:M (Option Int)):M RV:=λρ=>(ma ρ).bind λp ρ1=>(ml ρ1).bind λlo ρ2=>(mh ρ2).bind λhi ρ3=>Res.lW (Vi p lo hi) ρ3
def dO{ml mh:M (Option Int)}{lo hi:Option Expr}{p2:Pos}(ha:PE X a (tR (kk X cm) E ma))(hl:PO X lo (tP (kk X cm) E ml))(hh:PO X hi (tP (kk X cm) E mh)):PE X (.Subscript a (.Slice lo hi none p2) pos) (tO (kk X cm) E (DQ ma ml mh)):=
 PE.wk (Cm slm ha hl hh) fun σ H Q ⟨c,F,ρ,rel,h⟩=>⟨c,F,ρ,rel,h.bind fun p ρ1 v F1 H1 ĕ _ _ r1 h1=>⟨c,F1,ρ1,ĕ,h1.bind fun lo ρ2 lo' F2 H2 ķ sF sH r2 h2=>⟨c,F2,ρ2,ķ,h2.bind fun hi ρ3 hi' F3 H3 qP sF3 sH3 r3 h3=>by
   have e2:lo=lo':=r2
   have e3:hi=hi':=r3
   subst e2 e3
   have r1':rR (kk X cm) c σ ρ3 F3 H3 p v:=r1.mono (sF.trans sF3) (sH.trans sH3)
   cases p with
   |lst ps=>
    obtain⟨a,vs,rfl,q1,q2⟩:=r1'.lst qP.sub
    refine⟨vs,q1,λd hd=>?_⟩
    have e:ę (kk X cm) F3 (iU ps lo hi) (tW vs lo hi):=by
     unfold iU tW
     rw[q2.length]
     exact ę.of (yU _ (yV _ q2.pr))
    obtain⟨z1,z2⟩:=cO qP hd e
    exact h3 _ F3 _ z1 (Same.refl _) (Same.upd hd) z2
   |str z=>
    cases r1'.str
    unfold Vi at h3
    dsimp only at h3
    split at h3
    ·rename_i hz
     exact⟨by rw[ĺ];exact hz,h3 _ F3 H3 qP (Same.refl _) (Same.refl _) (Rep.str (K:=kk X cm) (F:=F3))⟩
    ·exact h3.elim
   |_=>exact h3.elim⟩⟩⟩
def zx{c:Ctx}{F H:Hp}{σ:L2.St}{ρ:ľ}{p:PV}{vs:List V}(h:YW K c σ ρ F H [p] vs):∃v,vs=[v]/\rR K c σ ρ F H p v:=by
 cases h with
 |cons r t=>cases t;exact⟨_,rfl,r⟩
def rl2{c:Ctx}{F H:Hp}{σ:L2.St}{ρ:ľ}{p q:PV}{vs:List V}(h:YW K c σ ρ F H [p,q] vs):∃v u,vs=[v,u]/\rR K c σ ρ F H p v/\rR K c σ ρ F H q u:=by
 cases h with
 |cons r t=>
  cases t with
  |cons r' t=>cases t;exact⟨_,_,rfl,r,r'⟩
def cR:List PV->Option PV
 | [.lst ps]=>some (.int ps.length)
 | [.tup ps]=>some (.int ps.length)
 | [.str z]=>if z.length<=16777216 then some (.int z.length) else none
 |_=>none
def au:eE K (Um K.K) cR:=by
 intro c F H σ ρ ps pv vs Q rel r e k
 unfold cR at e
 split at e
 ·cases e
  obtain⟨v,rfl,r1⟩:=zx r
  obtain⟨a,xs,rfl,h1,h2⟩:=r1.lst rel.sub
  refine⟨xs,.inl h1,?_⟩
  rw[<-h2.length]
  exact k _ F H rel (Same.refl _) (Same.refl _) Rep.int
 ·cases e
  obtain⟨v,rfl,r1⟩:=zx r
  obtain⟨a,xs,rfl,h1,h2⟩:=r1.tup rel.sub
  refine⟨xs,.inr h1,?_⟩
  rw[<-h2.length]
  exact k _ F H rel (Same.refl _) (Same.refl _) Rep.int
 ·split at e
  ·rename_i hz
   cases e
   obtain⟨v,rfl,r1⟩:=zx r
   cases r1.str
   exact⟨by rw[ĺ];exact hz,k _ F H rel (Same.refl _) (Same.refl _) Rep.int⟩
  ·cases e
 ·cases e
def DR:List PV->Option PV
 | [.int i]=>some (.int (if i<0 then -i else i))
 |_=>none
def DW:eE K mAbs DR:=by
 intro c F H σ ρ ps pv vs Q rel r e k
 unfold DR at e
 split at e
 ·cases e
  obtain⟨v,rfl,r1⟩:=zx r
  cases r1.int
  exact k _ F H rel (Same.refl _) (Same.refl _) Rep.int
 ·cases e
def pO:List PV->Option PV
 | [.int i,.int j]=>some (.int (if j<i then j else i))
 |_=>none
def zy:List PV->Option PV
 | [.int i,.int j]=>some (.int (if j>i then j else i))
 |_=>none
def qX:eE K Cz pO:=by
 intro c F H σ ρ ps pv vs Q rel r e k
 unfold pO at e
 split at e
 ·cases e
  obtain⟨v,u,rfl,r1,r2⟩:=rl2 r
  cases r1.int
  cases r2.int
  exact k _ F H rel (Same.refl _) (Same.refl _) Rep.int
 ·cases e
def JK:eE K CG zy:=by
 intro c F H σ ρ ps pv vs Q rel r e k
 unfold zy at e
 split at e
 ·cases e
  obtain⟨v,u,rfl,r1,r2⟩:=rl2 r
  cases r1.int
  cases r2.int
  exact k _ F H rel (Same.refl _) (Same.refl _) Rep.int
 ·cases e
def bG:List PV->Option RV
 | [.lst ps]=>some (.ow ps)
 | [.tup ps]=>some (.ow ps)
 |_=>none
def zA(K:PySem.W.Frag):List V->Hp->VK->Prop:=λxs H Q=>∃p ys,xs=[.ref p]/\(Ÿ K H p ys\/fH K H p ys)/\∀l,H l=none->Q (.ref l) (upd H l (.lst ys))
def aY:ň X (.type "list") (zA X.K):=qJ
def aZ:Dq K (zA K.K) bG:=by
 intro c F H σ ρ ps pv vs Q rel r e k
 unfold bG at e
 split at e
 ·cases e
  obtain⟨v,rfl,r1⟩:=zx r
  obtain⟨a,xs,rfl,h1,h2⟩:=r1.lst rel.sub
  refine⟨a,xs,rfl,.inl h1,λl hl=>?_⟩
  obtain⟨q1,q2⟩:=cO rel hl h2
  exact k _ F _ q1 (Same.refl _) (Same.upd hl) q2
 ·cases e
  obtain⟨v,rfl,r1⟩:=zx r
  obtain⟨a,xs,rfl,h1,h2⟩:=r1.tup rel.sub
  refine⟨a,xs,rfl,.inr h1,λl hl=>?_⟩
  obtain⟨q1,q2⟩:=cO rel hl h2
  exact k _ F _ q1 (Same.refl _) (Same.upd hl) q2
 ·cases e
end
theorem uG{K:KK}{F:Hp}:∀ns:List Int,ę K F (ns.map .int) (ns.map V.int)
 | []=>ę.nil
 |n::ns=>ę.cons Rep.int (uG ns)
def Zaj(K:PySem.W.Frag):Sp:=λvs H Q _=>∃(sa:Addr) (ns:List Int),vs=[.ref sa]/\Ÿ K H sa (ns.map V.int)/\ns.length<=63/\∀v H',v=.bl true->Q v H'
def DX{l:PySem.W.OpenLaw}{k:Nat}{x:Str}{CX:jF}{m:MF}{q:Program}{loose:List Str}{XP:(Str->Option Value)->Heap->Prop}{YP:World->Heap->Prop}{d:DefRec}{K:Params->PySem.W.Frag}(hn:l.most=some 63)(hdf:d.params.defaults=[])(hr:Ś k callerA)
 (hY:∀(w:World) (h:Heap),YP w h->(K w.params).In h)
 (F:∀(w:World) (mg:Str→Option Value) (fa:Addr) (h:Heap),(K w.params).In h→h.Ns mainGlobals mg→mg d.name=some (.ref fa)→
   ∃fd:FuncData,(∀(s:Shared) (u:Value),BindsTo s fd ⟨[u],[]⟩ [(x,u)])/\∀base:Heap,(K w.params).In base->base.Ns mainGlobals mg->∃cm,ģ l.prog w (K w.params) mg base CX k fa fd [x] (ş ⟨K w.params,cm⟩ 1 m))
 (ht:∀ns:List Int,ns.length<=63->m [.sh (.lst (ns.map .int))]=.ret (.sh (.bl true)))
 (YB:∀(H:Hp) (s:Shared) (e:Value) (s':Shared),CX [] H s (λ_ _ _=>False) e s'->False)
 (hnt:lams≠[]->∀w:World,PySem.W.noTabs (K w.params)=true:=by intro z;exact absurd rfl z)(hone:∀y z,y∈lams->z∈lams->y=z:=by simp[lams])(hrec:∀y,y∈lams->∃d,(recsOf q).find? (λe=>e.name== y)=some d:=by simp[lams]) :
 PySem.W.WalkO q loose XP YP l.row.toRowW d [] (λf vs=>PySem.call f vs):=by
 refine L2.I_ (n:=63) (k:=k) (x:=x) (CX:=λ_=>CX) (sp:=λw=>Zaj (K w.params)) hn (by decide) hdf hr hY (λw mg fa h h1 h2 h3=>?_) (λw H a ns hl _ hS=>⟨a,ns,rfl,hS,hl,λ_ _ z=>z⟩) (λw H s e s' z=>YB H s e s' z) hnt hone hrec
 obtain⟨fd,hb,hF⟩:=F w mg fa h h1 h2 h3
 refine⟨fd,hb,λbase k1 k2=>?_⟩
 obtain⟨cm,G⟩:=hF base k1 k2
 refine G.imp λvs H Q E hs=>?_
 obtain⟨sa,ns,rfl,hS,hl,hq⟩:=hs
 refine⟨H,[.sh (.lst (ns.map .int))],rfl,Same.refl _,.cons ?_ .nil,?_⟩
 ·show Rep _ _ _ _
  unfold Rep
  exact⟨sa,_,rfl,hS,uG ns⟩
 ·rw[ht ns hl]
  intro v F' H' g rf
  have e:v=.bl true:=wB (K:=⟨K w.params,cm⟩) (F:=F') rf
  exact hq v H' e
end P
namespace P
open PySem PySem.Spec PyProof.Rows L2 M2 M3 M4
section
variable{X:Cx}{cm:String->Addr}{K:KK}
def mV:List PV->Option PV
 | [.lst ps]=>some (.tup ps)
 | [.tup ps]=>some (.tup ps)
 |_=>none
def DY(K:PySem.W.Frag):List V->Hp->VK->Prop:=λxs H Q=>∃p ys,xs=[.ref p]/\((Ÿ K H p ys/\∀l,H l=none->Q (.ref l) (upd H l (.tup ys)))\/(fH K H p ys/\Q (.ref p) H))
def D_:ň X (.type "tuple") (DY X.K):=oM
def Ea:eE K (DY K.K) mV:=by
 intro c F H σ ρ ps pv vs Q rel r e k
 unfold mV at e
 split at e
 ·cases e
  obtain⟨v,rfl,r1⟩:=zx r
  obtain⟨a,xs,rfl,h1,h2⟩:=r1.lst rel.sub
  refine⟨a,xs,rfl,.inl ⟨h1,λl hl=>k _ _ _ (rel.alloc hl) (Same.upd (rel.sub.free hl)) (Same.upd hl) ?_⟩⟩
  unfold Rep
  exact⟨l,xs,rfl,fH.of Ħ,ę.same (Same.upd (rel.sub.free hl)) _ _ h2⟩
 ·cases e
  obtain⟨v,rfl,r1⟩:=zx r
  have r1':=r1
  obtain⟨a,xs,rfl,h1,h2⟩:=r1.tup rel.sub
  refine⟨a,xs,rfl,.inr ⟨h1,k _ F H rel (Same.refl _) (Same.refl _) ?_⟩⟩
  rcases r1' with q|q
  ·exact q
  ·exact q.elim
 ·cases e
def boolsOf:List PV->Option (List Bool)
 | []=>some []
 | .bl b::ps=>(boolsOf ps).map (b:: ·)
 |_::_=>none
theorem pP{F:Hp}:∀{ps:List PV} {vs:List V} {bs:List Bool},ę K F ps vs->boolsOf ps=some bs->vs=bs.map V.bl
 | [],vs,bs,r,h=>by
   cases h
   have r':=r.pr
   cases r'
   rfl
 |p::ps,vs,bs,r,h=>by
  cases p with
  |bl b=>
   unfold boolsOf at h
   cases eb:boolsOf ps with
   |none=>rw[eb] at h;cases h
   |some cs=>
    rw[eb] at h
    cases h
    have r':=r.pr
    cases r' with
    |cons r1 t=>
     rw[wB r1,pP (ę.of t) eb]
     rfl
  |_=>simp[boolsOf] at h
def uH:List PV->Option PV
 | [.lst ps]=>(boolsOf ps).map λbs=>.bl (bs.all id)
 |_=>none
def wM:eE K (Uv K.K) uH:=by
 intro c F H σ ρ ps pv vs Q rel r e k
 unfold uH at e
 split at e
 ·rename_i ps
  obtain⟨v,rfl,r1⟩:=zx r
  obtain⟨a,xs,rfl,h1,h2⟩:=r1.lst rel.sub
  cases eb:boolsOf ps with
  |none=>rw[eb] at e;cases e
  |some bs=>
   rw[eb] at e
   cases e
   refine⟨bs,by rw[<-pP h2 eb];exact h1,k _ F H rel (Same.refl _) (Same.refl _) Rep.bl⟩
 ·cases e
end
end P
namespace P
open PySem PySem.Spec PyProof.Rows L2 M2 M3 M4
section
variable{α β:Type}{ρ:ľ}{i j n k:Nat}{p q:PV}{ps:List PV}{m ma mb mc:M PV}{mo:M RV}{a b:M Fl}{ta tb:M Bool}{mr:M (List PV)}{f:PV->PV->Option PV}{fo:PV->PV->Option RV}{fl:List PV->Option PV}{flo:List PV->Option RV}{g:Tg}{gs:Bq}
@[simp] theorem ZdC:dD ρ=.ok .nx ρ:= rfl
@[simp] theorem Zcz:(Dr:M α) ρ=.bad:=rfl
@[simp] theorem ZcA:Ė a b ρ=(a ρ).bind λf ρ1=>match f with| .nx=>b ρ1|f=>.ok f ρ1:=rfl
@[simp] theorem ZcB:ġ i mo ρ=(mo ρ).bind λr ρ1=>.ok .nx (ρ1.set i r.slot):=rfl
@[simp] theorem ZcC:Ĥ mo ρ=(mo ρ).bind λr ρ1=>.ok (.rt r) ρ1:=rfl
@[simp] theorem Zbl:um m ρ=(m ρ).bind λ_ ρ1=>.ok .nx ρ1:=rfl
@[simp] theorem ZdP:mC p ρ=.ok p ρ:= rfl
@[simp] theorem ZdD:ŀ m ρ=(m ρ).bind λp ρ1=>.ok (.sh p) ρ1:=rfl
@[simp] theorem ZcD:č mo ρ=(mo ρ).bind λr ρ1=>.ok r.val ρ1:=rfl
@[simp] theorem ZcE:(RV.sh p).val=p:=rfl
@[simp] theorem ZcF:(RV.ow ps).val=.lst ps:=rfl
@[simp] theorem ZcG:(RV.sh p).slot=.sh p:=rfl
@[simp] theorem ZcH:(RV.ow ps).slot=.ow ps:=rfl
@[simp] theorem ZcI:ă f ma mb ρ=(ma ρ).bind λp ρ1=>(mb ρ1).bind λq ρ2=>Res.lW (f p q) ρ2:=rfl
@[simp] theorem Zbm:Ġ fo ma mb ρ=(ma ρ).bind λp ρ1=>(mb ρ1).bind λq ρ2=>Res.lW (fo p q) ρ2:=rfl
@[simp] theorem ZdE{u:PV->Option PV}:aL u ma ρ=(ma ρ).bind λp ρ1=>Res.lW (u p) ρ1:=rfl
@[simp] theorem ZcJ:gR m ρ=(m ρ).bind λp ρ1=>Res.lW (UL p) ρ1:=rfl
@[simp] theorem ZdF:aM m ρ=(m ρ).bind λp ρ1=>match p with| .bl b=>.ok b ρ1|_=>.bad:=rfl
@[simp] theorem Zbn:kh ta ρ=(ta ρ).bind λb ρ1=>.ok (!b) ρ1:=rfl
@[simp] theorem Zbo:dZ ta tb ρ=(ta ρ).bind λb ρ1=>if b=true then tb ρ1 else .ok false ρ1:=rfl
@[simp] theorem ZcK:Jt ta tb ρ=(ta ρ).bind λb ρ1=>if b=true then .ok true ρ1 else tb ρ1:=rfl
@[simp] theorem ZcL:fO ma mb ρ=(ma ρ).bind fun p ρ1=>match p with| .bl b=>if b=true then mb ρ1 else .ok (.bl false) ρ1|_=>.bad:=by
  unfold fO
  congr
  funext p ρ1
  cases p with
  |bl b=>cases b<;>rfl
  |_=>rfl
@[simp] theorem ZdG{x y:M α}:bJ ta x y ρ=(ta ρ).bind λb ρ1=>if b=true then x ρ1 else y ρ1:=rfl
@[simp] theorem ZcM{f g:PV→PV→Option PV}:lF f g ma mb mc ρ=(ma ρ).bind fun p ρ1=>(mb ρ1).bind fun q ρ2=>(Res.lW (f p q) ρ2).bind fun z ρ3=>match z with
  | .bl true=>(mc ρ3).bind λw ρ4=>Res.lW (g q w) ρ4
  | .bl false=>.ok (.bl false) ρ3
  |_=>.bad:=rfl
@[simp] theorem ZcN:Ĕ ρ=.ok [] ρ:= rfl
@[simp] theorem Zbp:Ă ma mr ρ=(ma ρ).bind λp ρ1=>(mr ρ1).bind λps ρ2=>.ok (p::ps) ρ2:=rfl
@[simp] theorem ZcO:Ĺ mr ρ=(mr ρ).bind λps ρ1=>if ps.length<=16777216 then .ok (.tup ps) ρ1 else .bad:=rfl
@[simp] theorem ZcP:ś mr ρ=(mr ρ).bind λps ρ1=>if ps.length<=16777216 then .ok (.ow ps) ρ1 else .bad:=rfl
@[simp] theorem ZdH:cZ fl mr ρ=(mr ρ).bind λps ρ1=>Res.lW (fl ps) ρ1:=rfl
@[simp] theorem ZcQ:jl flo mr ρ=(mr ρ).bind λps ρ1=>Res.lW (flo ps) ρ1:=rfl
@[simp] theorem Zbq{mf:MF}{ms:M (List Slot)}:Č mf ms ρ=(ms ρ).bind λps ρ1=>match mf ps with| .ret r=>.ok r ρ1| .exc x=>.exc x ρ1| .bad=>.bad:=rfl
@[simp] theorem ZdI:ě i ρ=(match ρ[i]? with|some (.sh p)=>.ok p ρ|some (.ow ps)=>.ok (.lst ps) (ρ.set i (.sh (.lst ps)))|_=>.bad):=rfl
@[simp] theorem ZdJ:Ā i ρ=(match ρ[i]? with|some (.sh p)=>.ok p ρ|some (.ow ps)=>.ok (.lst ps) ρ|some (.bw ps)=>.ok (.lst ps) ρ|some (.rc C ns ps)=>.ok (.ins C ns ps) ρ|_=>.bad):=rfl
@[simp] theorem ZdK:jj i ρ=(match ρ[i]? with|some (.sh p)=>.ok (.sh p) ρ|some (.ow ps)=>.ok (.ow ps) (ρ.set i .no)|_=>.bad):=rfl
@[simp] theorem ZcR:wD g m ρ=(m ρ).bind λp ρ1=>match g p ρ1 with|some ρ2=>.ok .nx ρ2|none=>.bad:=rfl
@[simp] theorem Eb:gN i p ρ=some (ρ.set i (.sh p)):=rfl
@[simp] theorem Zak:š [] ρ=some ρ:= rfl
@[simp] theorem XQ:Ğ g gs (p::ps) ρ=(g p ρ).bind λρ1=>gs ps ρ1:=rfl
@[simp] theorem ZdL:gT n gs (.tup ps) ρ=if ps.length=n then gs ps ρ else none:=rfl
@[simp] theorem ZcS:iT i m ρ=(match ρ[i]? with
  |some (.ow _)=>(m ρ).bind λp ρ1=>match ρ1[i]? with
   |some (.ow ps)=>if ps.length<16777216 then .ok .nx (ρ1.set i (.ow (ps ++ [p]))) else .bad
   |_=>.bad
  |_=>.bad):=rfl
@[simp] theorem ZcT:JH ρ=.ok none ρ:= rfl
@[simp] theorem ZdQ:mP m ρ=(m ρ).bind λp ρ1=>match p with| .int i=>.ok (some i) ρ1|_=>.bad:=rfl
@[simp] theorem ZdM{ml mh:M (Option Int)}:DQ ma ml mh ρ=(ma ρ).bind λp ρ1=>(ml ρ1).bind λlo ρ2=>(mh ρ2).bind λhi ρ3=>Res.lW (Vi p lo hi) ρ3:=rfl
@[simp] theorem ZcU{lo hi:Option Int}:Vi (.lst ps) lo hi=some (.ow (iU ps lo hi)):=rfl
@[simp] theorem Zal:ŕ m ρ=(m ρ).bind fun p ρ1=>match p with
  | .lst ps=>.ok ps ρ1
  | .tup ps=>.ok ps ρ1
  | .str z=>.ok (z.cps.toList.map λc=>.str ⟨#[c]⟩) ρ1
  |_=>.bad:=rfl
@[simp] theorem Zam{h:List PV->Option (List PV)}:ų h mr ρ=(mr ρ).bind λps ρ1=>Res.lW (h ps) ρ1:=rfl
@[simp] theorem Vj{mi:M (List PV)}:dG mi g b ρ=(mi ρ).bind λitems ρ1=>forL g b items ρ1:=rfl
@[simp] theorem Zbr{js:List Nat}{nl:Nat}{mi:M (List PV)}{mt:M Bool}{me:M PV}:Ń js nl mi g mt me ρ=(mi ρ).bind fun items ρ1=>match ļ g mt me items (fV js nl ρ1) [] with
  |some ps=>.ok (.ow ps) ρ1
  |none=>.bad:=rfl
@[simp] theorem ZcV:ł ρ=.ok true ρ:= rfl
@[simp] theorem ZcW{mbd:M Fl}{as:List Slot}:ı n k mbd as=if as.length=n then FR.of (mbd (startP k as)) else .bad:=rfl
@[simp] theorem ZcX{r:RV}:FR.of (.ok (.rt r) ρ)=.ret r:=rfl
@[simp] theorem ZcY:FR.of (.ok .nx ρ)=.ret (.sh .non):=rfl
@[simp] theorem ZcZ{x:PX}:FR.of (.exc x ρ)=.exc x:=rfl
@[simp] theorem Zc0:FR.of .bad=.bad:=rfl
@[simp] theorem Zan{as:List Slot}:startP k as=as++List.replicate (k-as.length) .no:=rfl
@[simp] theorem Zbs:Ċ ρ=.ok [] ρ:= rfl
@[simp] theorem Zao{ms:M (List Slot)}:ć ma ms ρ=(ma ρ).bind λp ρ1=>(ms ρ1).bind λas ρ2=>.ok (.sh p::as) ρ2:=rfl
@[simp] theorem Zap{ms:M (List Slot)}:Ą i ms ρ=(match(ρ[i]?).bind cM with
  |none=>.bad
  |some _=>(ms ρ).bind λas ρ2=>match(ρ2[i]?).bind cM with
   |some s=>.ok (s::as) ρ2
   |none=>.bad):=rfl
@[simp] theorem Zc1:cM (.sh p)=some (.sh p):=rfl
@[simp] theorem Zc2:cM (.ow ps)=some (.bw ps):=rfl
@[simp] theorem Zc3:cM (.bw ps)=some (.bw ps):=rfl
@[simp] theorem Zc4:Ŵ (.sh p)=.sh p:=rfl
@[simp] theorem Zc5:Ŵ (.ow ps)=.bw ps:=rfl
@[simp] theorem Zc6:Ŵ (.bw ps)=.bw ps:=rfl
@[simp] theorem Zc7{js:List Nat}{nl:Nat}:fV js nl ρ=js.map (λ(j:Nat)=>Ŵ ((ρ[j]?).getD .no))++List.replicate nl .no:=rfl
@[simp] theorem wN:Ŋ i ρ=(match ρ[i]? with
  |some (.bw ps)=>.ok ps ρ
  |some (.sh (.lst ps))=>.ok ps ρ
  |some (.sh (.tup ps))=>.ok ps ρ
  |some (.sh (.str z))=>.ok (z.cps.toList.map λc=>.str ⟨#[c]⟩) ρ
  |some (.ow ps)=>.ok ps (ρ.set i (.sh (.lst ps)))
  |_=>.bad):=rfl
@[simp] theorem Zbt{x y:Int}:ĝ (.int x) (.int y)=some (.sh (.int (x+y))):=rfl
@[simp] theorem Zbu{x y:Int}:Ŏ (.int x) (.int y)=some (.int (x-y)):=rfl
@[simp] theorem Zbv{x y:Int}:ĭ (.int x) (.int y)=if Ł x y=true then some (.int (x*y)) else none:=rfl
@[simp] theorem Zbw{x y:Int}:Ő (.int x) (.int y)=if fW x y=true then some (.int (x.fdiv y)) else none:=rfl
@[simp] theorem Zbx{x y:Int}:į (.int x) (.int y)=if zp x y=true then some (.int (x.fmod y)) else none:=rfl
@[simp] theorem Zby{x y:Int}:pN (.int x) (.int y)=if uw x y=true then some (.int (x ^ y.toNat)) else none:=rfl
@[simp] theorem Zbz{x y:Int}:ux (.int x) (.int y)=if mL x y=true then some (.int (x*2 ^ y.toNat)) else none:=rfl
@[simp] theorem ZbA{x y:Int}:uz (.int x) (.int y)=if uy x y=true then some (.int (x / 2 ^ y.toNat)) else none:=rfl
@[simp] theorem ZbB{x:Int}:Ŗ (.int x)=some (.int (-x)):=rfl
@[simp] theorem Zc8{x y:Int}:jm (.int x) (.int y)=some (.bl (decide (x<y))):=rfl
@[simp] theorem Zc9{x y:Int}:eZ (.int x) (.int y)=some (.bl (decide (x<=y))):=rfl
@[simp] theorem Zc_{x y:Int}:uD (.int x) (.int y)=some (.bl (decide (y<x))):=rfl
@[simp] theorem Zda{x y:Int}:Vg (.int x) (.int y)=some (.bl (decide (y<=x))):=rfl
@[simp] theorem Zdb{x y:Int}:ŋ (.int x) (.int y)=some (.bl (decide (x=y))):=by
  have h:eqB (.int x) (.int y)=decide (x=y):=by rw[eqB.eq_def];rfl
  rw[<-h];rfl
@[simp] theorem Zdc{x y:Int}:fj (.int x) (.int y)=some (.bl (!decide (x=y))):=by
  have h:eqB (.int x) (.int y)=decide (x=y):=by rw[eqB.eq_def];rfl
  rw[<-h];rfl
@[simp] theorem Zdd{x y:Bool}:ŋ (.bl x) (.bl y)=some (.bl (x== y)):=rfl
@[simp] theorem Zde{x y:Bool}:fj (.bl x) (.bl y)=some (.bl (!(x== y))):=rfl
@[simp] theorem Zdf{p:PV}:mQ p .non=some (.bl (lX p)):=rfl
@[simp] theorem ZbC{p:PV}:gP p .non=some (.bl (!lX p)):=rfl
@[simp] theorem Zdg{x:Int}:đ (.lst ps) (.int x)=mD ps x:=rfl
@[simp] theorem Zdh{x:Int}:đ (.tup ps) (.int x)=mD ps x:=rfl
@[simp] theorem ZbD:cR [.lst ps]=some (.int ps.length):=rfl
@[simp] theorem ZbE:cR [.tup ps]=some (.int ps.length):=rfl
@[simp] theorem Zdi{x:Int}:DR [.int x]=some (.int (if x<0 then -x else x)):=rfl
@[simp] theorem Zdj{x y:Int}:pO [.int x,.int y]=some (.int (if y<x then y else x)):=rfl
@[simp] theorem Zdk{x y:Int}:zy [.int x,.int y]=some (.int (if y>x then y else x)):=rfl
@[simp] theorem Zaq:bG [.lst ps]=some (.ow ps):=rfl
@[simp] theorem Zar:bG [.tup ps]=some (.ow ps):=rfl
@[simp] theorem ZbF:mV [.lst ps]=some (.tup ps):=rfl
@[simp] theorem ZbG:mV [.tup ps]=some (.tup ps):=rfl
@[simp] theorem ZbH{x:Bool}:UL (.bl x)=some x:=rfl
@[simp] theorem ZbI{x:Int}:UL (.int x)=some (x != 0):=rfl
@[simp] theorem ZbJ:UL (.lst ps)=some (!ps.isEmpty):=rfl
@[simp] theorem Ec(xs:List α)(n:Nat):mD xs (n:Int)=xs[n]?:= by
  unfold mD HD
  rw[if_pos (by omega)]
  by_cases h:n<xs.length
  ·rw[if_pos (by omega)]
   simp
  ·rw[if_neg (by omega)]
   simp
   omega
@[simp] theorem ZbK(xs:List α)(n:Nat):mD xs (no_index (OfNat.ofNat n):Int)=xs[(no_index (OfNat.ofNat n):Nat)]?:= Ec xs n
@[simp] theorem XR{x y:Int}:zp x y=decide (y≠0):=rfl
end
def aj{x y:Int}(h1: -(2 ^ 64)<x)(h2:x<2 ^ 64):Ł x y=true:=by unfold Ł;rw[decide_eq_true (by omega:x.natAbs<18446744073709551616)];rfl
def mul_r{x y:Int}(h1: -(2 ^ 64)<y)(h2:y<2 ^ 64):Ł x y=true:=by unfold Ł;rw[decide_eq_true (by omega:y.natAbs<18446744073709551616)];simp
def uI{x y:Int}(h1:y≠0)(h2:bits y<=8000):fW x y=true:=by unfold fW;simp[h1,h2]
section
variable{g:Tg}{mb:M Fl}{mc mt:M Bool}{me:M PV}{items:List PV}{ρ:ľ}
theorem ņ{α:Type}(c f:α->PV)(I:ľ->Prop):∀(xs:List α) (ρ:ľ) (acc:List PV),I ρ->acc.length+xs.length<=16777216->
 (∀x∈xs,∀ρ,I ρ->∃ρ1 ρ2 ρ3,g (c x) ρ=some ρ1/\mt ρ1=.ok true ρ2/\me ρ2=.ok (f x) ρ3/\I ρ3)->ļ g mt me (xs.map c) ρ acc=some (acc++xs.map f)
 | [],ρ,acc,_,_,_=>by simp[ļ]
 |x::xs,ρ,acc,h,hz,hs=>by
  obtain⟨ρ1,ρ2,ρ3,h1,h2,h3,h4⟩:=hs x List.mem_cons_self ρ h
  rw[List.map_cons,ļ,h1]
  dsimp only
  rw[h2]
  dsimp only
  rw[h3]
  dsimp only
  rw[if_pos (by simp at hz;omega),ņ c f I xs ρ3 (acc ++ [f x]) h4 (by simp at hz ⊢;omega) λy hy=>hs y (List.mem_cons_of_mem _ hy)]
  simp
def wO{β:Type}(st:β->ľ)(I:β->Prop)(μ:β->Nat)(hs:∀b,I b->mc (st b)=.ok false (st b)\/(mc (st b)=.ok true (st b)/\∃b',mb (st b)=.ok .nx (st b')/\I b'/\μ b' < μ b)){b:β}(h0:I b) :
 ∃b',ţ mc mb (st b)=.ok .nx (st b')/\I b'/\mc (st b')=.ok false (st b'):=by
 have go:∀n b,μ b<=n->I b->∃b',ţ mc mb (st b)=.ok .nx (st b')/\I b'/\mc (st b')=.ok false (st b'):=by
  intro n
  induction n with
  |zero=>
   intro b hn hi
   rcases hs b hi with e|⟨e,b',_,_,hl⟩
   ·exact⟨b,by rw[fQ,e];rfl,hi,e⟩
   ·omega
  |succ n ih=>
   intro b hn hi
   rcases hs b hi with e|⟨e,b',e2,hi',hl⟩
   ·exact⟨b,by rw[fQ,e];rfl,hi,e⟩
   ·obtain⟨b2,q1,q2⟩:=ih b' (by omega) hi'
    refine⟨b2,?_,q2⟩
    rw[fQ,e]
    simp only[Res.aD,if_true,e2]
    exact q1
 exact go (μ b) b (Nat.le_refl _) h0
end
end P
namespace P
open PySem PySem.Spec PyProof.Rows L2 M2 M3 M4
def mW(Q:String->Prop):List String->Prop
 | []=>True
 |c::cs=>Q c/\mW Q cs
theorem mW.get{Q:String->Prop}:∀{cs:List String} {C:String},mW Q cs->cs.contains C=true->Q C
 | [],_,_,h=>by simp at h
 |c::cs,C,⟨h1,h2⟩,h=>by
  by_cases e:C=c
  ·rw[e];exact h1
  ·refine h2.get ?_
   rw[List.contains_cons] at h
   have:(C== c)=false:=by simpa using e
   rw[this,Bool.false_or] at h
   exact h
section
variable{X:Cx}{cm:String->Addr}{K:KK}{E:L2.St->XK}{a b e o:Expr}{es:List Expr}{pos apos:Pos}{m ma mb:M PV}{f:Str}
theorem mX{F:Hp}:∀{fs:List (Str×V)} {ps:List PV} {p:PV},ę K F ps (fs.map (·.2))->((fs.map (·.1)).zip ps).lookup f=some p->∃v,fs.lookup f=some v/\Rep K F p v
 | [],ps,p,_,h=>by simp at h
 |(g,v)::fs,ps,p,r,h=>by
  have r':=r.pr
  rw[List.map_cons] at r'
  cases r' with
  |cons r1 t=>
   rename_i q qs
   rw[List.map_cons,List.zip_cons_cons,List.lookup_cons] at h
   rw[List.lookup_cons]
   cases hg:f== g with
   |true=>
    simp only[hg] at h
    cases h
    exact⟨v,rfl,r1⟩
   |false=>
    simp only[hg] at h
    exact mX (ę.of t) h
theorem rR.ins{c:Ctx}{F H:Hp}{σ:L2.St}{ρ:ľ}{C:String}{ns:List Str}{ps:List PV}{v:V}(s:Same F H)(h:rR K c σ ρ F H (.ins C ns ps) v):∃a dx fs,v=.ref a/\H a=some (.ins (K.cm C) dx fs)/\fs.map (·.1)=ns/\ę K F ps (fs.map (·.2)):=by
 rcases h with h|h
 ·unfold Rep at h
  obtain⟨a,dx,fs,h1,h2,h3,h4⟩:=h
  exact⟨a,dx,fs,h1,s _ _ h2,h3,h4⟩
 ·exact h
def ő(cs:List String)(f:Str):PV->Option PV
 | .ins C ns ps=>if cs.contains C=true then(ns.zip ps).lookup f else none
 |_=>none
def œ(cs:List String)(hcs:mW (λC=>Cls X.K (cm C)/\ĳ X.K (cm C) f) cs)(he:PE X e (tR (kk X cm) E m))(hb:attributeBase e f X.env (eval e X.env)=eval e X.env:=by rfl):PE X (.Attribute e f pos) (tV (kk X cm) E (aL (ő cs f) m)):=
 PE.wk (TF he hb) fun σ H Q ⟨c,F,ρ,rel,h⟩=>⟨c,F,ρ,rel,h.bind fun p ρ1 v F1 H1 ĕ _ _ r1 h1=>by
   cases p with
   |ins C ns ps=>
    unfold ő at h1
    dsimp only at h1
    split at h1
    ·rename_i hc
     obtain⟨a,dx,fs,rfl,q2,q3,q4⟩:=r1.ins ĕ.sub
     cases el:(ns.zip ps).lookup f with
     |none=>rw[el] at h1;exact h1.elim
     |some q=>
      rw[el] at h1
      subst q3
      obtain⟨v,e1,e2⟩:=mX q4 el
      obtain⟨k1,k2⟩:=hcs.get hc
      exact⟨a,_,dx,fs,v,rfl,q2,k1,k2,e1,h1 v F1 H1 ĕ (Same.refl _) (Same.refl _) e2⟩
    ·exact h1.elim
   |_=>exact h1.elim⟩
def Ed(X:Cx)(cm:String->Addr)(CX:jF)(k n:Nat)(m:Str)(C:String)(mf:MF):Prop:=Cls X.K (cm C)/\∃f fd ps,Meth X.K (cm C) m f/\ģ X.prog X.w X.K X.mg X.base CX k f fd ps (ş (kk X cm) n mf)/\Binds X.K fd ps []/\
 ∀{ps:List Slot},(∃r,mf ps=r/\∀z,r=z->z≠ .bad)->ps.length=n
def Ef(Q:String->MF->Prop):List (String×MF)->Prop
 | []=>True
 |(c,mf)::cs=>Q c mf/\Ef Q cs
theorem Ef.get{Q:String->MF->Prop}:∀{cs:List (String×MF)} {C:String} {mf:MF},Ef Q cs->cs.lookup C=some mf->Q C mf
 | [],_,_,_,h=>by simp at h
 |(c,g)::cs,C,mf,⟨h1,h2⟩,h=>by
  rw[List.lookup_cons] at h
  cases hc:C== c with
  |true=>
   rw[hc] at h
   cases h
   have:C=c:=by simpa using hc
   rw[this];exact h1
  |false=>
   rw[hc] at h
   exact h2.get h
def mY(m:Str)(gW:List (String×MF))(mo:M PV)(ms:M (List Slot)):M RV:=λρ=>(mo ρ).bind λp ρ1=>match p with
 | .ins C ns ps=>match gW.lookup C with
   |some mf=>if ns.contains m=true then .bad else(ms ρ1).bind λas ρ2=>match mf (.sh (.ins C ns ps)::as) with
    | .ret r=>.ok r ρ2
    | .exc x=>.exc x ρ2
    | .bad=>.bad
   |none=>.bad
 |_=>.bad
theorem pQ{m:Str}:∀{fs:List (Str×V)},(fs.map (·.1)).contains m=false->fs.lookup m=none
 | [],_=>rfl
 |(g,v)::fs,h=>by
  rw[List.map_cons,List.contains_cons,Bool.or_eq_false_iff] at h
  rw[List.lookup_cons,h.1]
  exact pQ h.2
variable{CX:jF}{k n:Nat}{HF:Str}{gW:List (String×MF)}{ms:M (List Slot)}
def Eh{c:Ctx}{F H:Hp}{σ:L2.St}{ρ:ľ}{Q:VK}(rel:Rel (kk X cm) c F H σ ρ)(h:aJ (kk X cm) E (rO (kk X cm)) c F H σ Q (mY HF gW m ms ρ))(Vk:Ef (λC mf=>Ed X cm CX k n HF C mf) gW) :
 aJ (kk X cm) E (rV (kk X cm)) c F H σ (λx H1=>∃a C dx fs g fd ps mf,x=.ref a/\H1 a=some (.ins C dx fs)/\Cls X.K C/\Meth X.K C HF g/\fs.lookup HF=none/\ģ X.prog X.w X.K X.mg X.base CX k g fd ps (ş (kk X cm) n mf)/\Binds X.K fd ps []/\
  tA (kk X cm) E ms σ H1 λvs H2=>ş (kk X cm) n mf (.ref a::vs) H2 Q (E σ)) (m ρ):=
 aJ.bind h λp ρ1 v F1 H1 ĕ _ _ r1 h1=>by
  cases p with
  |ins C ns ps=>
   dsimp only at h1
   cases el:gW.lookup C with
   |none=>rw[el] at h1;exact h1.elim
   |some mf=>
    rw[el] at h1
    dsimp only at h1
    split at h1
    ·exact h1.elim
    ·rename_i hn
     obtain⟨k1,f,fd,qs,k2,k3,k4,k5⟩:=Vk.get el
     have r1':Rep (kk X cm) F1 (.ins C ns ps) v:=r1
     have r2:=r1'
     unfold Rep at r2
     obtain⟨a,dx,fs,rfl,q2,q3,q4⟩:=r2
     refine⟨a,_,dx,fs,f,fd,qs,mf,rfl,ĕ.sub _ _ q2,k1,k2,pQ (by rw[q3];simpa using hn),k3,k4,c,F1,ρ1,ĕ,aJ.bind h1 λas ρ2 vs F2 H2 ķ sF sH r3 h3=>?_⟩
     exact uq (vs:=.ref a::vs) k5 ķ (.cons (show bB _ _ _ (.sh _) _ from Rep.same sF _ _ r1') r3) h3
  |_=>exact h1.elim
def JL{pl:Sem Bool}(Vk:Ef (λC mf=>Ed X cm CX k n HF C mf) gW)(hr:Ś k X.A)(hx:dH CX X E)(he:PE X o (tV (kk X cm) E m))
 (ht:eval (.Call (.Attribute o HF apos) [] [] pos) X.env=(do
   let ov <-eval o X.env
   standAt apos.atName
   let (f,first) <-holding [ov] (getMethod ov HF pl)
   callWith pos f first (backTo pos (starEach [] X.env)) (backToKw pos (keywordEach [] X.env))):=by rfl) :
 PE X (.Call (.Attribute o HF apos) [] [] pos) (tO (kk X cm) E (mY HF gW m Ċ)):=by
 intro pins s σ H Q I ⟨c,F,ρ,rel,h⟩
 refine PySem.W.methodCall_KW (pl:=pl) (ŏ (he pins s σ H _ I ⟨c,F,ρ,rel,Eh rel h Vk⟩) λu s1 ⟨x,H1,I1,rx,a,C,dx,fs,g,fd,ps,mf,ex,ea,cl,k2,l,k3,k4,q⟩=>?_) ht
 subst ex
 obtain rfl:u=Value.ref a:=rx
 refine vR I1 ea cl k2 l ?_
 obtain⟨c1,F1,ρ1,ĕ,q⟩:=q
 exact PySem.W.callWith_K0 (first:=[.ref a]) I1.Aa k2.kp (zm (us:=[.ref a]) (vs:=[.ref a]) k3 hr k4 hx I1 (.cons rfl .nil) (q [] F1 H1 ĕ (Same.refl _) (Same.refl _) .nil))
def putN(f:Str):List Str->List Str
 | []=>[f]
 |g::r=>if g=f then g::r else g::putN f r
def wQ(f:Str)(p:PV):List Str->List PV->List PV
 | [],_=>[p]
 |g::r,q::qs=>if g=f then p::qs else q::wQ f p r qs
 |_::_,[]=>[]
theorem zB{F:Hp}{p:PV}{y:V}(ry:Rep K F p y):∀{fs:List (Str×V)} {ps:List PV},ę K F ps (fs.map (·.2))->(dh f y fs).map (·.1)=putN f (fs.map (·.1))/\ę K F (wQ f p (fs.map (·.1)) ps) ((dh f y fs).map (·.2))
 | [],ps,r=>⟨rfl,ę.cons ry ę.nil⟩
 |(g,v)::fs,ps,r=>by
  have r':=r.pr
  rw[List.map_cons] at r'
  cases r' with
  |cons r1 t=>
   rename_i q qs
   unfold dh
   rw[List.map_cons]
   unfold putN wQ
   by_cases hg:g=f
   ·rw[if_pos hg,if_pos hg,if_pos hg]
    exact⟨rfl,ę.cons ry (ę.of t)⟩
   ·rw[if_neg hg,if_neg hg,if_neg hg]
    obtain⟨h1,h2⟩:=zB ry (ę.of t)
    exact⟨by rw[List.map_cons,h1],ę.cons r1 h2⟩
def iu(i:Nat)(cs:List String)(f:Str)(mv:M PV):M Fl:=λρ=>(mv ρ).bind λp ρ1=>match ρ1[i]? with
 |some (.rc C ns ps)=>if cs.contains C=true/\ns.length<1000 then .ok .nx (ρ1.set i (.rc C (putN f ns) (wQ f p ns ps))) else .bad
 |_=>.bad
def Ž{i:Nat}{x:Str}{px pos':Pos}(cs:List String)(hcs:mW (λC=>Cls X.K (cm C)/\ĳ X.K (cm C) f) cs)(ho:PE X (.Name x px) (Bw i))(he:PE X e (tV (kk X cm) E m))(hs:swapsWith e (some (.Attribute (.Name x px) f pos')) pos.line X.env=pure false:=by rfl) :
 PS X (.Assign [.Attribute (.Name x px) f pos'] e pos) (tS (kk X cm) E (iu i cs f m)):=PS.wk (TJ ho he hs) λD σ H ⟨c,F,ρ,rel,h⟩=>⟨c,F,ρ,rel,Ů.bind h λp ρ1 y F1 H1 ĕ s1 ry h1=>by
 cases e1:ρ1[i]? with
 |none=>rw[e1] at h1;exact h1.elim
 |some sl=>
  rw[e1] at h1
  cases sl with
  |rc C ns ps=>
   dsimp only at h1
   split at h1
   ·rename_i hc
    obtain⟨a,dx,fs,q1,q2,q3,q4,q5,q6,q7⟩:=ĕ.slot i _ e1
    subst q5
    obtain⟨k1,k2⟩:=hcs.get hc.1
    refine⟨.ref a,at_of q1,a,_,dx,fs,rfl,q2,k1,k2,by simpa using hc.2,?_⟩
    obtain⟨z1,z2⟩:=zB (f:=f) (p:=p) ry q6
    exact h1 σ F1 _ (ĕ.write ⟨_,_,e1,at_of q1,rfl⟩ (at_of q1) ⟨a,dx,_,rfl,Ħ,q3,q4,z1,z2,q7⟩ λ_ z=>(V.ref.inj z).symm) (Same.refl _)
   ·exact h1.elim
  |_=>exact h1.elim⟩
inductive IR where
 |ok (ns:List Str) (ps:List PV)|exc (x:PX)|bad
abbrev MI:=List Slot->IR
def IR.of:Res Fl->IR
 | .ok .nx (.rc _ ns ps::_)=>.ok ns ps
 | .exc x _=>.exc x
 |_=>.bad
def bN(n k:Nat)(C:String)(mb:M Fl):MI:=λas=>if as.length+1=n then IR.of (mb (.rc C [] []::startP (k-1) as)) else .bad
structure GrB(a:Addr)(F H F' H':Hp):Prop where
 h:∀b u,b≠a->H b=some u->H' b=some u
 f:Same F F'
 sub:Same F' H'
 out:∀b,b≠a->H b≠none->F b=none->F' b=none
def Zdl(K:KK)(E:XK)(F H:Hp)(Q:VK)(a dx:Addr)(C:String):IR->Prop
 | .ok ns ps=>∀F' H' fs,GrB a F H F' H'->H' a=some (.ins (K.cm C) dx fs)->F' a=none->fs.map (·.1)=ns->ę K F' ps (fs.map (·.2))->Q .non H'
 | .exc x=>∀C' d F' H',GrB a F H F' H'->Jq K F' x C' d->E C' d H'
 | .bad=>False
def HJ(K:KK)(n:Nat)(C:String)(mi:MI):Sp:=λvs H Q E=>∃F a dx vs' as,vs=.ref a::vs'/\as.length+1=n/\H a=some (.ins (K.cm C) dx [])/\F a=none/\Same F H/\Paired (bB K F H) as vs'/\Zdl K E F H Q a dx C (mi as)
def JM(a dx:Addr)(C:String)(F H:Hp):Ctx:=⟨λb=>if b=a then none else H b,F,λb=>if b=a then none else(ctx0 F H).L b,λa' dx' C'=>a'=a/\dx'=dx/\C'=C⟩
def Rel.gri{σ:L2.St}{ρ:ľ}{a dx:Addr}{C:String}{F H F' H':Hp}(r:Rel K (JM a dx C F H) F' H' σ ρ):GrB a F H F' H':=
 ⟨λb u hb e=>r.base b u (by show(if b=a then none else H b)=_;rw[if_neg hb];exact e),r.f0,r.sub,λb hb h1 h2=>r.fB b (by show(if b=a then none else H b)≠none;rw[if_neg hb];exact h1) h2⟩
def Rel.Vl{F H:Hp}{N:List Str}{as:List Slot}{vs:List V}{a dx:Addr}{C:String}(s:Same F H)(ha:H a=some (.ins (K.cm C) dx []))(hF:F a=none)(h:Paired (bB K F H) as vs) :
 Rel K (JM a dx C F H) F H (L2.start N (.ref a::vs)) (.rc C [] []::startP (N.length-1) as):=by
 have r0:=Rel.start (N:=N) (K:=K) s (as:=.sh (.int 0)::as) (vs:=.int 0::vs) (.cons (Rep.int (K:=K) (F:=F) (i:=0)) h)
 have est:L2.start N (.ref a::vs)=some (.ref a)::(L2.start N (.int 0::vs)).tail:=by unfold L2.start;simp
 have Zdm:(L2.start N (V.int 0::vs)).tail.length=(startP (N.length-1) as).length:=by
  unfold L2.start startP
  simp[Paired.length h]
  omega
 have tl:∀i:Nat,(L2.start N (.int 0::vs)).tail[i]?=(L2.start N (.int 0::vs))[i+1]?:= λi=>by simp
 have sp:∀i:Nat,(startP (N.length-1) as)[i]?=(startP N.length (.sh (.int 0)::as))[i+1]?:= λi=>by
  unfold startP
  simp only[List.cons_append,List.getElem?_cons_succ,List.length_cons]
  rw[show N.length-1-as.length=N.length-(as.length+1) by omega]
 have uJ:∀(i:Nat) (s':Slot),(startP (N.length-1) as)[i]?=some s'->s'.own=false:=λi s' e=>by
  unfold startP at e
  by_cases hi:i<as.length
  ·rw[List.getElem?_append_left hi] at e
   obtain⟨v,_,h3⟩:=bA h e
   exact(bB.slot h3).2
  ·rw[List.getElem?_append_right (by omega),List.getElem?_replicate] at e
   split at e
   ·cases e;rfl
   ·cases e
 rw[est]
 refine⟨s,λb u e=>?_,Same.refl _,λ_ _ z=>z,λb u e=>?_,λb e=>?_,?_,λi s' e=>?_,λi j b h1 h2=>?_⟩
 ·have e':(if b=a then none else H b)=some u:=e
  split at e'
  ·cases e'
  ·exact e'
 ·have e':(if b=a then none else(ctx0 F H).L b)=some u:=e
  split at e'
  ·cases e'
  ·exact bZ e'
 ·show(if b=a then none else(ctx0 F H).L b)=none
  have e':(if b=a then none else H b)=none:=e
  split
  ·rfl
  ·rename_i hb
   rw[if_neg hb] at e'
   exact r0.lb b e'
 ·simp[Zdm]
 ·cases i with
  |zero=>
   cases e
   exact⟨a,dx,[],rfl,ha,hF,by show(if a=a then none else H a)=none;rw[if_pos rfl],rfl,ę.nil,rfl,rfl,rfl⟩
  |succ i=>
   have e':(startP (N.length-1) as)[i]?=some s':=by simpa using e
   have q:=r0.slot (i+1) s' (by rw[<-sp];exact e')
   rw[<-tl] at q
   show Ŭ K (JM a dx C F H) F H (((some (V.ref a)::(L2.start N (.int 0::vs)).tail)[i+1]?).getD none) s'
   rw[List.getElem?_cons_succ]
   cases s' with
   |no=>trivial
   |sh p=>exact q
   |bw ps=>
    obtain⟨b,ws,q1,q2,q3⟩:=q
    refine⟨b,ws,q1,?_,q3⟩
    show(if b=a then none else(ctx0 F H).L b)=_
    rw[if_neg (λz=>by
     have:=(bZ q2).1
     rw[z,ha] at this
     cases this)]
    exact q2
   |ow ps=>have:=uJ i _ e';cases this
   |rc C ns ps=>have:=uJ i _ e';cases this
   |ot ps qs=>have:=uJ i _ e';cases this
   |ol Bp=>have:=uJ i _ e';cases this
 ·have at0:∀{i},Ŀ F (some (.ref a)::(L2.start N (.int 0::vs)).tail) (Slot.rc C [] []::startP (N.length-1) as) i b→i=0:=fun{i} ⟨s',y,q1,_,q2⟩=>by
   have q2:=jK q2
   cases i with
   |zero=>rfl
   |succ i=>
    have:=uJ i s' (by simpa using q1)
    rw[this] at q2
    cases q2
  rw[at0 h1,at0 h2]
end
section
variable{P:Program}{w:World}{K:PySem.W.Frag}{cm:String->Addr}{mg:Str->Option Value}{base:Heap}{CX:jF}
def XS{x qual:Str}{st:Stmt}{f:Addr}{fd:FuncData}{N ps:List Str}{k n j:Nat}{C:String}{mb:M Fl}{mi:MI}(F:Cq K x qual st f fd)(S:Ē N ps (Ĉ st))(hn:ps.length=n)(hj:N.length=j)(hf:mi=bN n j C mb)
 (hbody:∀(cdv:Value) (A:Around) (outer:List Env) (s:Shared) (H:Hp) (E:XK),Ś k (A.deeper (envOfC qual (Ĉ st) s.heap.objs.size f cdv))→
   gZ (oJ CX P w K mg base N qual (Ĉ st) f cdv A outer s H E) (Ŕ st) (tS ⟨K,cm⟩ (λ_=>E) mb)):ģ P w K mg base CX (k+1) f fd ps (HJ ⟨K,cm⟩ n C mi):=by
 subst hn hj hf
 obtain⟨oc,od,kV,doc,pm,an,cdv,ct,osl,rfl,lk,hcd⟩:=F.ex
 refine Ci lk hcd S (λvs H Q E ⟨F,a,dx,vs',as,h1,h2,_,_,_,h3,_⟩=>by rw[h1,List.length_cons,<-Paired.length h3];exact h2) λA outer s H vs Q E hr hsp=>?_
 obtain⟨F,a,dx,vs',as,rfl,h2,h3,h4,h5,h6,h7⟩:=hsp
 refine⟨_,hbody cdv A outer s H E hr,JM a dx C F H,F,_,Rel.Vl h5 h3 h4 h6,?_⟩
 unfold bN at h7
 rw[if_pos h2] at h7
 cases e:mb (.rc C [] []::startP (N.length-1) as) with
 |bad=>rw[e] at h7;exact h7
 |exc x ρ'=>rw[e] at h7;exact λσ' C' d F' H' rel s1 q=>h7 C' d F' H' rel.gri q
 |ok fl ρ'=>
  rw[e] at h7
  cases fl with
  |nx=>
   cases ρ' with
   |nil=>exact h7.elim
   |cons sl ρ'=>
    cases sl with
    |rc C' ns qs=>
     intro σ' F' H' rel s1
     obtain⟨b,dy,fs,q1,q2,q3,q4,q5,q6,rfl,rfl,rfl⟩:=rel.slot 0 _ rfl
     exact h7 F' H' fs rel.gri q2 q3 q5 q6
    |_=>exact h7.elim
  |bk=>exact h7.elim
  |ct=>exact h7.elim
  |rt r=>exact h7.elim
end
def ũ(C:String)(mi:MI)(ms:M (List Slot)):M PV:=λρ=>(ms ρ).bind λas ρ1=>match mi as with
 | .ok ns ps=>.ok (.ins C ns ps) ρ1
 | .exc x=>.exc x ρ1
 | .bad=>.bad
section
variable{X:Cx}{cm:String->Addr}{E:L2.St->XK}{e:Expr}{es:List Expr}{pos p:Pos}{CX:jF}{k n:Nat}{f:Addr}{fd:FuncData}{ps:List Str}{C:String}{mi:MI}{ms:M (List Slot)}{x:Str}
def Ei{c:Ctx}{F1 H1:Hp}{σ:L2.St}{ρ1:ľ}{Q:VK}{as:List Slot}{vs:List V}(hlen:(∃r,mi as=r/\∀z,r=z->z≠ .bad)->as.length+1=n)(ĕ:Rel (kk X cm) c F1 H1 σ ρ1)(r1:Paired (bB (kk X cm) F1 H1) as vs)
 (h:aJ (kk X cm) E (rV (kk X cm)) c F1 H1 σ Q (match mi as with| .ok ns ps=>.ok (.ins C ns ps) ρ1| .exc x=>.exc x ρ1| .bad=>.bad)) :
 ∀x dx,H1 x=none->H1 dx=none->dx≠x->HJ (kk X cm) n C mi (.ref x::vs) (upd (upd H1 dx (.own x)) x (.ins (cm C) dx [])) (λv H2=>v=.non/\Q (.ref x) H2) (E σ):=by
 intro x dx hx hdx hne
 have up:∀b u,H1 b=some u->upd (upd H1 dx (.own x)) x (.ins (cm C) dx []) b=some u:=λb u e=>by
  rw[Ę (Ģ e hx),Ę (Ģ e hdx)];exact e
 have JN:∀{F' H':Hp},GrB x F1 (upd (upd H1 dx (.own x)) x (.ins (cm C) dx [])) F' H'->Gr F1 H1 F' H':=fun{F' H'} g=>
  ⟨fun b u e=>g.h b u (Ģ e hx) (up b u e),g.f,g.sub,fun b hb hf=>by
    obtain⟨u,hu⟩:∃u,H1 b=some u:=by
     cases q:H1 b with
     |none=>exact absurd q hb
     |some u=>exact⟨u,rfl⟩
    exact g.out b (Ģ hu hx) (by rw[up b u hu];intro z;cases z) hf⟩
 refine⟨F1,x,dx,vs,as,rfl,?_,Ħ,ĕ.sub.free hx,λb u e=>up b u (ĕ.sub b u e),?_,?_⟩
 ·refine hlen ⟨_,rfl,λz hz hb=>?_⟩
  rw[hz,hb] at h
  exact h
 ·refine Paired.mono (λs v hs=>?_) r1
  cases s with
  |sh p=>exact hs
  |bw qs=>
   obtain⟨b,ws,q1,q2,q3,q4⟩:=hs
   exact⟨b,ws,q1,up b _ q2,q3,q4⟩
  |_=>exact hs.elim
 ·cases em:mi as with
  |bad=>rw[em] at h;exact h
  |exc y=>rw[em] at h;exact λC' d F' H' g rx=>h C' d F' H' (ĕ.call (JN g)) g.f rx
  |ok ns qs=>
   rw[em] at h
   intro F' H' fs g hx' hF' hn hr
   have r2:=ĕ.call (JN g)
   have r3:=r2.freeze hx' (ĕ.base.free hx) hF' (ĕ.qN (JN g).f (ĕ.fresh hx))
   refine⟨rfl,h _ _ H' r3 (g.f.trans (Same.upd hF')) (JN g).h ?_⟩
   show Rep _ _ _ _
   unfold Rep
   exact⟨x,dx,fs,rfl,Ħ,hn,ę.same (Same.upd hF') qs _ hr⟩
def Aw{pins:List (Addr×Obj)}{σ:L2.St}{H:Hp}{s:Shared}{Q:VK}{us:List Value}{vs:List V}{sp:Sp}{C:Addr}(M:Mk X.K C f)(F:ģ X.prog X.w X.K X.mg X.base CX k f fd ps sp)(hr:Ś (k+1) X.A)(hb:Binds X.K fd ps [])
 (hx:dH CX X E)(I:Inv X pins σ H s)(r:Vals vs us)
 (h:∀x dx,H x=none->H dx=none->dx≠x->sp (.ref x::vs) (upd (upd H dx (.own x)) x (.ins C dx [])) (λv H2=>v=.non/\Q (.ref x) H2) (E σ)) :
 wpAny (model X.prog X.w) X.A (call (.ref C) us) (EP X pins σ Q) X.xe s:=by
 have hq:=h (s.heap.objs.size+1) s.heap.objs.size (I.hok.fresh (Nat.le_succ _)) (I.hok.fresh (Nat.le_refl _)) (Nat.ne_of_lt (Nat.lt_succ_self _))
 have I2:=Inv.made (C:=C) I
 have r2:Vals (V.ref (s.heap.objs.size+1)::vs) (Value.ref (s.heap.objs.size+1)::us):=.cons rfl r
 have hl:(Value.ref (s.heap.objs.size+1)::us ++ []).length=ps.length:=by
  have e:=r2.length
  rw[F.len _ _ _ _ hq] at e
  rw[List.append_nil]
  exact e.symm
 have hbd:=hb {s with heap:=(s.heap.push PySem.W.emptyDict).push (PySem.W.instObj C s.heap.objs.size)} (Value.ref (s.heap.objs.size+1)::us) I2.Aa hl
 rw[List.append_nil] at hbd
 refine wpAny_call (Cg (f:=f) I.Aa M.makes M.init (beq_iff_eq.mp M.fn) (codeAny_mono (F.run _ X.stack _ _ ⟨Value.ref (s.heap.objs.size+1)::us,[]⟩ _ _ _ (E σ) (hr.make C us []) (I2.env0.make C us []) hbd r2 hq) λr s' hq'=>?_))
 cases r with
 |error e=>exact hx pins σ _ _ e s' I2 hq'
 |ok fl=>
  cases fl with
  |ret u=>
   obtain⟨v,H',I3,rv,ev,q3⟩:=I2.after hq'
   subst ev
   exact⟨rv,⟨V.ref (s.heap.objs.size+1),H',I3,rfl,q3⟩⟩
  |next=>exact False.elim hq'
  |brk=>exact False.elim hq'
  |cont=>exact False.elim hq'
def ŵ{n k:Nat}{C:String}{mb:M Fl}{as:List Slot}(h:∃r,bN n k C mb as=r/\∀z,r=z->z≠ .bad):as.length+1=n:=by
 obtain⟨r,h1,h2⟩:=h
 unfold bN at h1
 by_cases hl:as.length+1=n
 ·exact hl
 ·rw[if_neg hl] at h1
  exact absurd h1.symm (λz=>h2 .bad (by rw[<-h1]) rfl)
def fY(M:Mk X.K (cm C) f)(F:ģ X.prog X.w X.K X.mg X.base CX k f fd ps (HJ (kk X cm) n C mi))(hlen:∀{as:List Slot},(∃r,mi as=r/\∀z,r=z->z≠ .bad)->as.length+1=n)(hr:Ś (k+1) X.A)(hg:Gl X x)(hm:X.mg x=some (.ref (cm C)))(hb:Binds X.K fd ps [])(hx:dH CX X E)
 (ha:PA X (e::es) (tA (kk X cm) E ms))(hdb:(x== ("__debug__" :Str))=false:=by decide)(he:starEach (e::es) X.env=(false,eval e X.env)::starEach es X.env:=by exact ſ rfl)(hpl:(backTo pos (starEach es X.env)).any (·.1)=false:=by rfl) :
 PE X (.Call (.Name x p) (e::es) [] pos) (tV (kk X cm) E (ũ C mi ms)):=by
 intro pins s σ H Q I ⟨c,F',ρ,rel,h⟩
 refine wpAny_Call_Name_kw (qF I hg hm ?_ hdb)
 refine PySem.W.callWith_K (h₀:= X.base) I.ok.mod.kin M.kp (ŏ (ha pos pins s σ H (λvs H1=>∀x dx,H1 x=none->H1 dx=none->dx≠x->HJ (kk X cm) n C mi (.ref x::vs) (upd (upd H1 dx (.own x)) x (.ins (cm C) dx [])) (λv H2=>v=.non/\Q (.ref x) H2) (E σ)) I
  ⟨c,F',ρ,rel,aJ.bind h λas ρ1 vs F1 H1 ĕ _ _ r1 h1=>Ei hlen ĕ r1 h1⟩) λus s1 ⟨vs,H1,I1,r,q⟩=>⟨I1.Aa,?_⟩) he hpl
 exact Aw M F hr hb hx I1 r q
end
end P
namespace P
open PySem PySem.Spec PyProof.Rows L2 M2 M3 M4
section
variable{M:Model}{A:Around}{E:Value->Shared->Prop}{s:Shared}{B:Heap}{env:Env}{outer:List Env}{L e:Addr}{Q:Unit->Shared->Prop}
end
def je.sub{P:Program}{w:World}{H:Hp}{h B:Heap}(x:je P w H h)(k:∀b o u,H b=some u->h.get? b=some o->B.get? b=some o):je P w H B:=λa o e=>
 (x a o e).stay (fun b u hb q=>by
   rcases hb with rfl|hb
   ·exact k _ _ _ e q
   ·exact k _ _ _ hb q) (λ_ q=>q) λ_ _ q=>q
section
variable{P:Program}{w:World}{K:PySem.W.Frag}{mg:Str->Option Value}{base:Heap}{N:List Str}{qual:Str}{scope:Scope}{f:Addr}{cdv:Value}{A:Around}{outer:List Env}{s₀:Shared}{H₀:Hp}{E:XK}
end
end P
namespace P
open PySem PySem.Spec PyProof.Rows L2 M2 M3 M4
section
variable{K:PySem.W.Frag}{h:Heap}{C:Addr}{bmB:List Value}{newId:String}
end
section
variable{X:Cx}{cm:String->Addr}{E:L2.St->XK}{x:Str}{C:String}{np cpos pos:Pos}
end
section
variable{M:Model}{A:Around}{E:Value->Shared->Prop}{s:Shared}{K:PySem.W.Frag}{e C D:Addr}{oe:Obj}{b:Bool}{Q:Bool->Shared->Prop}
end
section
variable{X:Cx}{pins:List (Addr×Obj)}{σ:L2.St}{H:Hp}{s:Shared}{xe:Value->Shared->Prop}
end
end P
namespace P
open PySem PySem.Spec PyProof.Rows L2 M2 M3 M4
abbrev MH:=PX->ľ->Res Fl
section
variable{X:Cx}{cm:String->Addr}{E:L2.St->XK}{pins:List (Addr×Obj)}{σ:L2.St}{H Hc:Hp}{s sc:Shared}{ea:Addr}{C:Value}{d:Option Addr}{B:Heap}
variable{y n:Str}{Dn:String}{i:Nat}{yp hpos:Pos}{b₀:Stmt}{suite:List Stmt}{rest:List ExceptHandler}{yes no:List String}{mh:M Fl}{mr:MH}
end
end P
namespace P
open PySem PySem.Spec PyProof.Rows L2 M2 M3 M4 Builtin Builtin.ObjectAttr
section
variable{K:PySem.W.Frag}{h:Heap}{C:Addr}{cd:ClassData}{bm:List Value}
end
section
variable{prog:Program}{w:World}{A:Around}{E:Value->Shared->Prop}{h:Heap}{g:Array GenState}{d:Drawn}{t:Nat}{os:OsState}
variable{nm q:Str}{C N:Addr}{bs bm bmB:List Value}{hdct:Bool}{sn:List Str}{sub:List Value}{ab:Bool}{col:Option Bool}{dd:Option Addr}{k0 k1 k2 k3 k5:Option Value}{B newId initId:String}
end
section
variable{prog:Program}{w:World}{A:Around}{E:Value->Shared->Prop}{s:Shared}{K:PySem.W.Frag}{x C:Addr}{cd:ClassData}{bm:List Value}{ox:Obj}{od:Option Obj}{name:Str}{v:Value}
end
end P
namespace P
open PySem PySem.Spec PyProof.Rows L2 M2 M3 M4
section
variable{X:Cx}{pins:List (Addr×Obj)}{σ:L2.St}{H:Hp}{s:Shared}{a C:Addr}{cd:ClassData}{bm:List Value}{d:Option Addr}{fs:List (Str×V)}{f:Str}{y:V}{u:Value}{A:Around}{E:Value->Shared->Prop}
variable{o value:Expr}{pos pos':Pos}{j:Nat}{ss:List Stmt}{r:List (Str×Nat)}
end
section
variable{P:Program}{w:World}{K:PySem.W.Frag}{mg:Str->Option Value}{base:Heap}{CX:jF}
end
section
variable{X:Cx}{cm:String->Addr}{E:L2.St->XK}{e:Expr}{es:List Expr}{pos p:Pos}{CX:jF}{k n:Nat}{f:Addr}{fd:FuncData}{ps:List Str}{C:String}{fl:List (Str×Nat)}{ms:M (List PV)}{x:Str}
end
section
variable{M:Model}{A:Around}{E:Value->Shared->Prop}{s:Shared}{K:PySem.W.Frag}{env:Env}
end
section
variable{X:Cx}{cm:String->Addr}{E:L2.St->XK}{e:Expr}{es:List Expr}{pos cpos np:Pos}{CX:jF}{k n:Nat}{f:Addr}{fd:FuncData}{ps:List Str}{C:String}{fl:List (Str×Nat)}{ms:M (List PV)}{x:Str}
end
end P
namespace P
open PySem PySem.Spec PyProof.Rows L2 M2 M3 M4 Builtin Builtin.ObjectAttr
section
variable{prog:Program}{w:World}{A:Around}{E:Value->Shared->Prop}{s:Shared}{K:PySem.W.Frag}{x C:Addr}{ox:Obj}{od:Option Obj}
end
section
variable{X:Cx}{cm:String->Addr}{K:KK}
end
section
variable{ρ:ľ}{C:String}{n i:Nat}{fl:List (Str×Nat)}{ms:M (List PV)}{mb mh:M Fl}{mr:MH}{yes no:List String}{x:PX}
end
end P
namespace P
open PySem PySem.Spec PyProof.Rows L2 M2 M3 M4
section
variable{X:Cx}{cm:String->Addr}{E:L2.St->XK}{y:Str}{Dn:String}{yp hpos:Pos}{b₀:Stmt}{suite:List Stmt}{rest:List ExceptHandler}{yes no:List String}{mh:M Fl}{mr:MH}
end
end P
namespace P
open PySem PySem.Spec PyProof.Rows L2 M2 M3 M4
section
variable{X:Cx}{cm:String->Addr}{K:KK}
def Lw:List V->Hp->VK->Prop:=λxs H Q=>(∃i,xs=[.int i]/\Q (.int i) H)\/∃k,xs=[.bl k]/\Q (.int (if k then 1 else 0)) H
def Vm:ň X (.type "int") Lw:=Ai
def Ej:List PV->Option PV
 | [.int i]=>some (.int i)
 | [.bl k]=>some (.int (if k then 1 else 0))
 |_=>none
def Vn:eE K Lw Ej:=by
 intro c F H σ ρ ps pv vs Q rel r e k
 unfold Ej at e
 split at e
 ·cases e
  obtain⟨v,rfl,r1⟩:=zx r
  cases r1.int
  exact .inl ⟨_,rfl,k _ F H rel (Same.refl _) (Same.refl _) Rep.int⟩
 ·cases e
  obtain⟨v,rfl,r1⟩:=zx r
  cases r1.bl
  exact .inr ⟨_,rfl,k _ F H rel (Same.refl _) (Same.refl _) Rep.int⟩
 ·cases e
theorem ak:∀{ns:List Int} {its:List Value},Vals (ns.map V.int) its->IntsAre its ns
 | [],its,h=>by cases h;exact .nil
 |n::ns,its,h=>by
  cases h with
  |cons r t=>
   obtain⟨k,e⟩:=(show ∃k,_=Value.int n k from r)
   subst e
   exact .cons n k (ak t)
section
variable{prog:Program}{w:World}{A:Around}{E:Value->Shared->Prop}{s:Shared}{l:Addr}{xs:Array (Int×Tok)}
def uK{Q:Value->Shared->Prop}(hl:s.heap.IsTuple l (intItems xs))
 (h:∀s₂:Shared,s₂= {s with heap:=s.heap.push {cls:=.type "tuple_iterator",data:=.fields #[.ref l,.int 0 0]}}→
   (s₂.heap.IsTupleIter s.heap.objs.size l 0/\s₂.heap.IsTuple l (intItems xs))->(∀b∈[s.heap.objs.size,l],b<s₂.heap.objs.size)->l≠s.heap.objs.size->(∀h':Heap,(∀b o,b∉[s.heap.objs.size]->s₂.heap.get? b=some o->h'.get? b=some o)->∀b o,s.heap.get? b=some o->h'.get? b=some o)->Q (.ref s.heap.objs.size) s₂) :
 wpAny (model prog w) A (pyIter (.ref l)) Q E s:=by
 have hlt:l<s.heap.objs.size:=by obtain⟨_,e,_⟩:=hl;exact Heap.lt_size e
 refine wpAny_pyIter_tuple hl (h _ rfl ⟨⟨_,Heap.get?_push_size _ rfl,rfl,rfl⟩,hl.push _⟩ (λb hb=>?_) (Nat.ne_of_lt hlt) λh' hk b o e=>?_)
 ·show b<(s.heap.push _).objs.size
  rw[Heap.size_push]
  rcases List.mem_cons.mp hb with rfl|hb
  ·exact Nat.lt_succ_self _
  ·rcases List.mem_cons.mp hb with rfl|hb
   ·exact Nat.lt_succ_of_lt hlt
   ·cases hb
 ·refine hk b o (λhm=>?_) (Heap.get?_push_of_some _ e)
  rcases List.mem_cons.mp hm with e1|hm
  ·exact absurd (e1▸Heap.lt_size e) (Nat.lt_irrefl _)
  ·cases hm
def wR{Q:Value->Shared->Prop}(hh:A.handled=none)(hl:s.heap.IsTuple l (intItems xs))(hne:0<xs.size)
 (h:∀v h' tk,(intItems xs)[argBest (λi j=>decide (numAt xs i>numAt xs j)) (xs.size-1)]?=some v->(∀b o,s.heap.get? b=some o->h'.get? b=some o)->Q v {s with heap:=h',toks:=tk}) :
 wpAny (model prog w) A (call (.builtin "max") [.ref l]) Q E s:=by
 refine call_max_walk (uK hl λs₂ e st hfp hlI hk0=>?_)
 subst e
 refine⟨_,_,_,_,_,_,_,rfl,Walks.tuple (A:=A.in1) hh _ l hlI (intItems xs),st,hfp,by simpa[intItems] using hne,CmpOf.ints_gt (numAt xs) (λ_ _=>intItems_at),λv h' tk hP hk=>?_⟩
 exact h v h' tk (by simpa[intItems] using hP) (hk0 h' hk)
end
def Zas(K:PySem.W.Frag):List V->Hp->VK->Prop:=λxs H Q=>∃(p:Addr) (ns:List Int),xs=[.ref p]/\(Ÿ K H p (ns.map V.int)\/fH K H p (ns.map V.int))/\0<ns.length/\∀M,M∈ns->(∀a∈ns,a<=M)->Q (.int M) H
def qY(hc:X.calm=true):ň X (.builtin "max") (Zas X.K):=by
 intro pins s σ H xs us Q I r h
 obtain⟨p,ns,rfl,hS,hne,q⟩:=h
 obtain⟨u,rfl,ru⟩:=vals1 r
 cases ru
 have fin:∀(ys:Array (Int×Tok)),ns=ys.toList.map (·.1)->0<ys.size->∀v h' tk,(intItems ys)[argBest (λi j=>decide (numAt ys i>numAt ys j)) (ys.size-1)]?=some v->(∀b o,s.heap.get? b=some o->h'.get? b=some o)->EP X pins σ Q v {s with heap:=h',toks:=tk}:=by
  intro ys hns hsz v h' tk hv hk
  obtain⟨t,rfl⟩:=intItems_at hv
  obtain⟨h1,h2⟩:=argBest_gt (numAt ys) (ys.size-1)
  refine⟨.int _,H,I.kept hk,⟨t,rfl⟩,q _ ?_ λa ha=>?_⟩
  ·rw[hns,numAt_eq]
   have hj:argBest (λi j=>decide (numAt ys i>numAt ys j)) (ys.size-1)<(ys.toList.map (·.1)).length:=by rw[List.length_map,Array.length_toList];omega
   rw[List.getD_eq_getElem?_getD,List.getElem?_eq_getElem hj]
   exact List.getElem_mem _
  ·rw[hns] at ha
   obtain⟨j,hj,rfl⟩:=List.mem_iff_getElem.mp ha
   rw[List.length_map,Array.length_toList] at hj
   have:=h2 j (by omega)
   rw[numAt_eq ys j,List.getD_eq_getElem?_getD,List.getElem?_eq_getElem (by rw[List.length_map,Array.length_toList];exact hj)] at this
   exact this
 rcases hS with hS|hS
 ·obtain⟨its,rv,pl,hz⟩:=I.list hS
  have hi:=ak rv
  obtain⟨ys,e⟩:=hi.allInts.items
  have hns:ns=ys.toList.map (·.1):=by rw[<-hi.numsOf,<-nums_intItems,<-e]
  have hl:=pl.isList
  rw[e] at hl
  have hsz:0<ys.size:=by rw[hns,List.length_map,Array.length_toList] at hne;exact hne
  exact max_intList (show X.A.handled=none from I.ok.hd hc) hl hsz (fin ys hns hsz)
 ·obtain⟨its,rv,pl,hz⟩:=I.tuple hS
  have hi:=ak rv
  obtain⟨ys,e⟩:=hi.allInts.items
  have hns:ns=ys.toList.map (·.1):=by rw[<-hi.numsOf,<-nums_intItems,<-e]
  have hl:s.heap.IsTuple p its.toArray:=pl
  rw[e] at hl
  have hsz:0<ys.size:=by rw[hns,List.length_map,Array.length_toList] at hne;exact hne
  exact wR (show X.A.handled=none from I.ok.hd hc) hl hsz (fin ys hns hsz)
def Zat(K:PySem.W.Frag):List V->Hp->VK->Prop:=λxs H Q=>∃(p:Addr) (ns:List Int),xs=[.ref p]/\Ÿ K H p (ns.map V.int)/\0<ns.length/\∀M,M∈ns->(∀a∈ns,M<=a)->Q (.int M) H
def Ek(hc:X.calm=true):ň X (.builtin "min") (Zat X.K):=by
 intro pins s σ H xs us Q I r h
 obtain⟨p,ns,rfl,hS,hne,q⟩:=h
 obtain⟨u,rfl,ru⟩:=vals1 r
 cases ru
 obtain⟨its,rv,pl,hz⟩:=I.list hS
 have hi:=ak rv
 obtain⟨ys,e⟩:=hi.allInts.items
 have hns:ns=ys.toList.map (·.1):=by rw[<-hi.numsOf,<-nums_intItems,<-e]
 have hl:=pl.isList
 rw[e] at hl
 have hsz:0<ys.size:=by rw[hns,List.length_map,Array.length_toList] at hne;exact hne
 refine min_intList (show X.A.handled=none from I.ok.hd hc) hl hsz λv h' tk hv hk=>?_
 obtain⟨t,rfl⟩:=intItems_at hv
 obtain⟨h1,h2⟩:=argBest_lt (numAt ys) (ys.size-1)
 refine⟨.int _,H,I.kept hk,⟨t,rfl⟩,q _ ?_ λa ha=>?_⟩
 ·rw[hns,numAt_eq]
  have hj:argBest (λi j=>decide (numAt ys i<numAt ys j)) (ys.size-1)<(ys.toList.map (·.1)).length:=by rw[List.length_map,Array.length_toList];omega
  rw[List.getD_eq_getElem?_getD,List.getElem?_eq_getElem hj]
  exact List.getElem_mem _
 ·rw[hns] at ha
  obtain⟨j,hj,rfl⟩:=List.mem_iff_getElem.mp ha
  rw[List.length_map,Array.length_toList] at hj
  have:=h2 j (by omega)
  rw[numAt_eq ys j,List.getD_eq_getElem?_getD,List.getElem?_eq_getElem (by rw[List.length_map,Array.length_toList];exact hj)] at this
  exact this
def intsOf:List PV->Option (List Int)
 | []=>some []
 | .int b::ps=>(intsOf ps).map (b:: ·)
 |_::_=>none
@[simp] theorem iV:∀ns:List Int,intsOf (ns.map PV.int)=some ns
  | []=>rfl
  |n::ns=>by rw[List.map_cons,intsOf,iV ns];rfl
theorem ints_rep{F:Hp}:∀{ps:List PV} {vs:List V} {bs:List Int},ę K F ps vs->intsOf ps=some bs->vs=bs.map V.int
 | [],vs,bs,r,h=>by
   cases h
   cases r.pr
   rfl
 |p::ps,vs,bs,r,h=>by
  cases r.pr with
  |cons r1 t=>
   cases p with
   |int b=>
    unfold intsOf at h
    obtain⟨cs,e,rfl⟩:=Option.map_eq_some_iff.mp h
    rw[ints_rep (ę.of t) e,show _=V.int b from r1]
    rfl
   |_=>cases h
def best(f:Int->Int->Int):List Int->Option Int
 | []=>none
 |n::ns=>some (ns.foldl f n)
theorem foldl_max:∀(ns:List Int) (n:Int),ns.foldl max n∈n::ns/\∀a∈n::ns,a<=ns.foldl max n
 | [],n=>by simp
 |m::ns,n=>by
  obtain⟨h1,h2⟩:=foldl_max ns (max n m)
  rw[List.foldl_cons]
  refine⟨?_,λa ha=>?_⟩
  ·rcases List.mem_cons.mp h1 with e|e
   ·rw[e]
    by_cases h:n<=m
    ·rw[Int.max_eq_right h];simp
    ·rw[Int.max_eq_left (by omega)];simp
   ·simp[e]
  ·have hm:=h2 (max n m) List.mem_cons_self
   rcases List.mem_cons.mp ha with rfl|ha
   ·omega
   ·rcases List.mem_cons.mp ha with rfl|ha
    ·omega
    ·exact h2 a (List.mem_cons_of_mem _ ha)
theorem foldl_min:∀(ns:List Int) (n:Int),ns.foldl min n∈n::ns/\∀a∈n::ns,ns.foldl min n<=a
 | [],n=>by simp
 |m::ns,n=>by
  obtain⟨h1,h2⟩:=foldl_min ns (min n m)
  rw[List.foldl_cons]
  refine⟨?_,λa ha=>?_⟩
  ·rcases List.mem_cons.mp h1 with e|e
   ·rw[e]
    by_cases h:n<=m
    ·rw[Int.min_eq_left h];simp
    ·rw[Int.min_eq_right (by omega)];simp
   ·simp[e]
  ·have hm:=h2 (min n m) List.mem_cons_self
   rcases List.mem_cons.mp ha with rfl|ha
   ·omega
   ·rcases List.mem_cons.mp ha with rfl|ha
    ·omega
    ·exact h2 a (List.mem_cons_of_mem _ ha)
def eN:List PV->Option PV
 | [.lst ps]=>((intsOf ps).bind (best max)).map .int
 | [.tup ps]=>((intsOf ps).bind (best max)).map .int
 |_=>none
def pR:List PV->Option PV
 | [.lst ps]=>((intsOf ps).bind (best min)).map .int
 |_=>none
def qZ:eE K (Zas K.K) eN:=by
 intro c F H σ ρ ps pv vs Q rel r e k
 have fin:∀(ps:List PV) (xs:List V),ę K F ps xs->((intsOf ps).bind (best max)).map PV.int=some pv->∃ns:List Int,xs=ns.map V.int/\0<ns.length/\∀M,M∈ns->(∀a∈ns,a<=M)->Q (.int M) H:=by
  intro ps xs h2 e
  obtain⟨m,em,rfl⟩:=Option.map_eq_some_iff.mp e
  obtain⟨ns,eb,hb⟩:=Option.bind_eq_some_iff.mp em
  cases ns with
  |nil=>cases hb
  |cons n ns=>
   cases hb
   obtain⟨z1,z2⟩:=foldl_max ns n
   refine⟨n::ns,ints_rep h2 eb,by simp,λM m1 m2=>?_⟩
   have:M=ns.foldl max n:=Int.le_antisymm (z2 M m1) (m2 _ z1)
   rw[this]
   exact k _ F H rel (Same.refl _) (Same.refl _) Rep.int
 unfold eN at e
 split at e
 ·rename_i ps
  obtain⟨v,rfl,r1⟩:=zx r
  obtain⟨a,xs,rfl,h1,h2⟩:=r1.lst rel.sub
  obtain⟨ns,rfl,hl,hq⟩:=fin ps xs h2 e
  exact⟨a,ns,rfl,.inl h1,hl,hq⟩
 ·rename_i ps
  obtain⟨v,rfl,r1⟩:=zx r
  obtain⟨a,xs,rfl,h1,h2⟩:=r1.tup rel.sub
  obtain⟨ns,rfl,hl,hq⟩:=fin ps xs h2 e
  exact⟨a,ns,rfl,.inr h1,hl,hq⟩
 ·cases e
def El:eE K (Zat K.K) pR:=by
 intro c F H σ ρ ps pv vs Q rel r e k
 unfold pR at e
 split at e
 ·rename_i ps
  obtain⟨v,rfl,r1⟩:=zx r
  obtain⟨a,xs,rfl,h1,h2⟩:=r1.lst rel.sub
  obtain⟨m,em,rfl⟩:=Option.map_eq_some_iff.mp e
  obtain⟨ns,eb,hb⟩:=Option.bind_eq_some_iff.mp em
  cases ns with
  |nil=>cases hb
  |cons n ns=>
   cases hb
   obtain⟨z1,z2⟩:=foldl_min ns n
   refine⟨a,n::ns,rfl,by rw[<-ints_rep h2 eb];exact h1,by simp,λM m1 m2=>?_⟩
   have:M=ns.foldl min n:=Int.le_antisymm (m2 _ z1) (z2 M m1)
   rw[this]
   exact k _ F H rel (Same.refl _) (Same.refl _) Rep.int
 ·cases e
@[simp] theorem ZbL{i:Int}:Ej [.int i]=some (.int i):=rfl
@[simp] theorem ZbM{b:Bool}:Ej [.bl b]=some (.int (if b then 1 else 0)):=rfl
@[simp] theorem JQ{ps:List PV}:eN [.lst ps]=((intsOf ps).bind (best max)).map .int:=rfl
@[simp] theorem JR{ps:List PV}:pR [.lst ps]=((intsOf ps).bind (best min)).map .int:=rfl
@[simp] theorem ZbN{f:Int->Int->Int}{n:Int}{ns:List Int}:best f (n::ns)=some (ns.foldl f n):=rfl
end
end P
namespace P
open PySem PySem.Spec PyProof.Rows L2 M2 M3 M4
def Zau(K:PySem.W.Frag)(C:Addr):Bool:=PySem.W.plainGet K C Str.empty && PySem.W.hasDictIn K C && PySem.W.plainOver K C && PySem.W.findIn K (.ref C) "__setattr__" == some (some (.builtin "object.__setattr__"))
def iW{K:PySem.W.Frag}{C:Addr}(h:Zau K C=true):Cls K C:=by
 unfold Zau at h
 simp only[Bool.and_eq_true,beq_iff_eq] at h
 exact⟨h.1.1.1,h.1.1.2,h.1.2,h.2⟩
def Lx(K:PySem.W.Frag)(C:Addr)(m:Str)(f:Addr):Bool:=PySem.W.findIn K (.ref C) m== some (some (.ref f)) && PySem.W.isFn K (.ref f) && PySem.W.keepIn K (.ref f)
def jo{K:PySem.W.Frag}{C f:Addr}{m:Str}(h:Lx K C m f=true):Meth K C m f:=by
 unfold Lx at h
 simp only[Bool.and_eq_true,beq_iff_eq] at h
 exact⟨h.1.1,h.1.2,h.2⟩
def mkB(K:PySem.W.Frag)(C f:Addr):Bool:=PySem.W.makesIn K C && PySem.W.findIn K (.ref C) "__init__" == some (some (.ref f)) && PySem.W.isFn K (.ref f) && PySem.W.keepIn K (.ref C)
def mZ{K:PySem.W.Frag}{C f:Addr}(h:mkB K C f=true):Mk K C f:=by
 unfold mkB at h
 simp only[Bool.and_eq_true,beq_iff_eq] at h
 exact⟨h.1.1.1,h.1.1.2,h.1.2,h.2⟩
section
variable{ρ:ľ}{i n k:Nat}{C:String}{cs:List String}{f m:Str}{mv mo:M PV}{mi:MI}{ms:M (List Slot)}{mb:M Fl}{gW:List (String×MF)}{as:List Slot}{ns:List Str}{ps:List PV}
@[simp] theorem ZbO:iu i cs f mv ρ=(mv ρ).bind fun p ρ1=>match ρ1[i]? with
  |some (.rc C ns ps)=>if cs.contains C=true/\ns.length<1000 then .ok .nx (ρ1.set i (.rc C (putN f ns) (wQ f p ns ps))) else .bad
  |_=>.bad:=rfl
@[simp] theorem ZbP:bN n k C mb as=if as.length+1=n then IR.of (mb (.rc C [] []::startP (k-1) as)) else .bad:=rfl
@[simp] theorem Zdn{C:String}:IR.of (.ok .nx (.rc C ns ps::ρ))=.ok ns ps:=rfl
@[simp] theorem ZbQ:ũ C mi ms ρ=(ms ρ).bind fun as ρ1=>match mi as with
  | .ok ns ps=>.ok (.ins C ns ps) ρ1
  | .exc x=>.exc x ρ1
  | .bad=>.bad:=rfl
@[simp] theorem Zdo:ő cs f (.ins C ns ps)=if cs.contains C=true then(ns.zip ps).lookup f else none:=rfl
@[simp] theorem JT:mY m gW mo ms ρ=(mo ρ).bind fun p ρ1=>match p with
  | .ins C ns ps=>match gW.lookup C with
    |some mf=>if ns.contains m=true then .bad else(ms ρ1).bind λas ρ2=>match mf (.sh (.ins C ns ps)::as) with
     | .ret r=>.ok r ρ2
     | .exc x=>.exc x ρ2
     | .bad=>.bad
    |none=>.bad
  |_=>.bad:=rfl
end
end P
namespace M3
open PySem PySem.Spec PyProof.Rows L2 M2
section
variable{X:Cx}{elt tg iter:Expr}{ifs:List Expr}{scope:Scope}{pos:Pos}{wi:TI}{g:TG}{tt:TT}{te:TE}
def JV{iv:Nat}{y:Str}{py spos:Pos}(hN:X.N.Nodup)(hiN:X.N[iv]?=some y)(hy:X.env.scope.names.lookup y=some .local)(hsw:swapsWith (.ListComp elt [⟨tg,iter,ifs,0⟩] scope pos) (some (.Name y py)) spos.line X.env=pure true)(N':List Str)(js:List Nat)(nl:Nat)(sc:Scope)(hsc:X.env.scope=sc)(hcalm:X.calm=true)
 (hi:PI X.Œ tg iter wi)(hg:∀cl C s H fp,PG (bY X.Œ N' scope cl C s H fp) tg g)(ht:∀cl C s H fp,Bm (bY X.Œ N' scope cl C s H fp) ifs tt)(he:∀cl C s H fp,PE (bY X.Œ N' scope cl C s H fp) elt te)
 (hcap:cI X.Œ sc scope N' js)(hlen:js.length+nl=N'.length:=by rfl)
 (hk:scope.kind=.function:=by rfl)(hcell:∀y∈scope.names,y.2=.cell->scope.names.lookup y.1=some .cell:=by decide +kernel)(hnames:∀y∈scope.names,y.2=.local->scope.names.lookup y.1=some .local:=by decide +kernel)
 (hfree:∀y∈scope.names,y.2=.free->(sc.names.lookup y.1=some .cell\/sc.names.lookup y.1=some .free):=by decide +kernel)
 (hs:∀x,foldedSetIterable iter X.env x=pure x:=by intro _;rfl) :
 PS X.Œ (.Assign [.Name y py] (.ListComp elt [⟨tg,iter,ifs,0⟩] scope pos) spos) (λD σ H=>CQ js nl wi g tt te σ H λv H'=>D.nx (σ.set iv (some v)) H'):=by
 intro pins s σ H D I h
 obtain⟨YJ,c1,c2,c3⟩:=dw (scope:=scope) (env:=X.Œ.env) λy hy hf=>I.ok.has y.1 (by
  have:=hfree y hy hf
  rw[<-hsc] at this
  exact this)
 rw[exec_Assign_Name_used _ _ _ _ (show swapsWith _ _ _ X.Œ.env=pure true from hsw)]
 refine wpAny_bind (wpAny_standAt (wpAny_bind ?_))
 show wpAny _ X.A (do let _ <-comprehension (.ListComp elt [⟨tg,iter,ifs,0⟩] scope pos) scope X.Œ.env _ (newList []) false (eval iter X.Œ.env) (some (assign (.Name y py) X.Œ.env))) _ _ s
 refine wpAny_bind (wpAny_mono (wpAny_comprehension_free (Q:=λ_ s'=>SP X.Œ pins D .next s') (use:=some (assign (.Name y py) X.Œ.env)) rfl hs c1 hk hnames (ŏ (hi pins s σ H _ I h) λv s1 h1=>ŏ h1 λitv s2 h2=>?_)) (λ_ s' hq=>wpAny_pure (wpAny_pure hq)) λ_ _ e=>e)
 obtain⟨it,fp,tn,J,H2,e,I2,T,st2,f2,q2⟩:=h2
 subst e
 refine wpAny_newObj_type (h_ (λh₁ hns₁ old Uq=>?_))
 dsimp only at hns₁ old Uq ⊢
 generalize Ur:s2.heap.push {cls:=.type "list",dict:=none,data:=.seq ([]:List Value).toArray}=aX at hns₁ old Uq ⊢
 have hD:H2 s2.heap.objs.size=none:=I2.hok.fresh (Nat.le_refl _)
 have I3:Inv X.Œ pins σ (upd H2 s2.heap.objs.size (.lst [])) {s2 with heap:=aX}:=by
  rw[<-Ur]
  exact I2.laid (t':=s2.toks) (λb u e=>Heap.get?_push_of_some _ e) (Nat.le_refl _) ⟨Nat.zero_le _,[],0,.nil,Heap.get?_push_size _ rfl⟩
 have Jh:∀b∈fp,b<s2.heap.objs.size:=λb hb=>by
  obtain⟨o,ho,_⟩:=T.obj 0 _ st2 b hb
  exact Heap.lt_size ho
 have Us:aX.objs.size=s2.heap.objs.size+1:=by rw[<-Ur,Heap.size_push]
 have f3:∀b∈fp,bW X.Œ pins (upd H2 s2.heap.objs.size (.lst [])) b:=λb hb=>by
  obtain⟨g0,g1⟩:=f2 b hb
  exact⟨by rw[Ę (Nat.ne_of_lt (Jh b hb))];exact g0,g1⟩
 have B:=CT (X:=X.Œ) (cl:=YJ) hcell c2 c3 (λx c e=>by
  obtain⟨v,o,ho,_⟩:=I3.cell x c e
  exact Heap.lt_size ho) Uq
 generalize cellsFrom (aX.objs.size+1) scope.names YJ=cl at B ⊢
 obtain⟨W,⟨m0,w0⟩,turn⟩:=q2 s2.heap.objs.size hD
 have I4:=pH (X:=X.Œ) (N':=N') (js:=js) (nl:=nl) (sc:=sc) (scope:=scope) (cl:=cl) (fp:=fp) (h':=h₁) (tk:=s2.toks) hsc hk hcap hlen B I3 f3 (λb hb=>by show b<aX.objs.size;rw[Us];exact Nat.lt_succ_of_lt (Jh b hb)) hns₁ old
 have YK:tn 0 h₁:= T.keep 0 _ _ st2 λb hb o e=>old b o (by rw[<-Ur];exact Heap.get?_push_of_some _ e)
 have fr4:∀b∈fp,(upd H2 s2.heap.objs.size (.lst [])) b=none:=λb hb=>(f3 b hb).1
 have stat:∀{H':Hp},(∀b∈fp,H' b=none)->∀b∈fp,bW (bY X.Œ N' scope cl aX.objs.size {s2 with heap:=aX} (upd H2 s2.heap.objs.size (.lst [])) fp) [] H' b:=fun{H'} hn b hb=>by
  obtain⟨g0,g1,g2,g3,g4,g5⟩:=f3 b hb
  refine⟨hn b hb,Nat.ne_of_lt (by show b<aX.objs.size;rw[Us];exact Nat.lt_succ_of_lt (Jh b hb)),λz=>?_,.inl hb,λx c e=>by
   rcases B.at_ x c e with⟨q,_⟩|⟨q,_⟩
   ·exact g4 x c q
   ·exact Nat.ne_of_gt (Nat.lt_trans (by show b<aX.objs.size;rw[Us];exact Nat.lt_succ_of_lt (Jh b hb)) q),λp hp=>absurd hp (by simp[bY])⟩
  rcases List.mem_cons.mp (I3.lY b z) with z|z
  ·exact g1 z
  ·exact g2 z
 have loop:∀s₃:Shared,s₃= {s2 with heap:=h₁}->
  codeAny (model X.prog X.w) X.A (.compLoop (.ListComp elt [⟨tg,iter,ifs,0⟩] scope pos) 0 (.ref it) (.ref s2.heap.objs.size) (compEnvC scope cl aX.objs.size X.Œ.env))
   (compPost (model X.prog X.w) X.A X.Œ.xe (some (assign (.Name y py) X.Œ.env)) (λ_ s'=>SP X.Œ pins D .next s') (.ref s2.heap.objs.size) aX.objs.size) s₃:= by
  rintro s₃ rfl
  refine jh (λn s'=>∃i σ' H',Inv (bY X.Œ N' scope cl aX.objs.size {s2 with heap:=aX} (upd H2 s2.heap.objs.size (.lst [])) fp) [] σ' H' s'/\tn i s'.heap/\(∀b∈fp,H' b=none)/\W i n σ' H') ?_ m0 ⟨0,_,_,I4,YK,fr4,w0⟩
  rintro n s5 ⟨i,σ5,H5,I5,Ik,Td,w5⟩
  rcases turn i n σ5 H5 w5 with⟨stop,qn⟩|⟨go,N,hN,step⟩
  ·refine ŏ (T.done (bY X.Œ N' scope cl aX.objs.size {s2 with heap:=aX} (upd H2 s2.heap.objs.size (.lst [])) fp) rfl rfl rfl hcalm i [] s5 σ5 H5 (λ_ _=>False) I5 (stat Td) Ik stop) λr s6 ⟨hr,I6⟩=>?_
   subst hr
   obtain⟨m,hm,_⟩:=I6.loc
   have I7:Inv X.Œ pins σ H5 s6:=mG (h':=s6.heap) I3 f3 I6 (λb u hb e=>e)
   have hCL:aX.objs.size≠X.Œ.env.locals:=Nat.ne_of_gt I3.lt
   have hcC:∀x c,X.Œ.env.cells.lookup x=some c->c≠aX.objs.size:=λx c e z=>by
    obtain⟨v,o,ho,_⟩:=I3.cell x c e
    exact absurd (Heap.lt_size ho) (by rw[z];exact Nat.lt_irrefl _)
   have hpC:∀p∈X.Œ.pn++pins,p.1≠aX.objs.size:=λp hp z=>by
    have:=Heap.lt_size (I3.pin p hp).1
    rw[z] at this
    exact Nat.lt_irrefl _ this
   have hnC:H5 aX.objs.size=none:=I6.free
   refine wpAny_assign_Name (oZ (X:=X.Œ) (i:=iv) I7 hN hiN (.inl hy) (v:=.ref s2.heap.objs.size) rfl (λs8 I8 ⟨a8,sb8,ha8⟩=>?_) (.inr hy))
   have ne8:aX.objs.size≠a8:=by
    rcases ha8 with rfl|ha8
    ·exact hCL
    ·exact λz=>hcC _ _ ha8 z.symm
   refine⟨m,hm.sameBut sb8 ne8,λh' hs'=>⟨_,H5,?_,qn⟩⟩
   have kp:∀b o,b≠aX.objs.size->s8.heap.get? b=some o->h'.get? b=some o:=λb o hb e=>hs'.extBut b o hb e
   have kp':∀b o,b∉[aX.objs.size]->s8.heap.get? b=some o->h'.get? b=some o:=λb o hb e=>kp b o (λz=>hb (by rw[z];exact List.mem_cons_self)) e
   refine I8.call' (ch:=[aX.objs.size]) (s':={s8 with heap:=h'}) rfl ⟨λb o e _ _ hx=>kp' b o hx e,λb o e _ _ hx=>⟨o.slots,kp' b o hx e⟩,λb o _ n _=>n,λb o e hx=>⟨o,kp' b o hx e⟩,λ_ _ q=>q,λ_ _ _ q=>q,λ_ ps q=>q⟩ (yR I8.hok hnC kp) I8.bare λb hb=>?_
   cases List.mem_singleton.mp hb
   exact⟨.inr I3.sz,hCL,hcC,hpC⟩
  ·refine ŏ (T.item (bY X.Œ N' scope cl aX.objs.size {s2 with heap:=aX} (upd H2 s2.heap.objs.size (.lst [])) fp) rfl rfl rfl hcalm i [] s5 σ5 H5 (λ_ _=>False) I5 (stat Td) Ik go) λr s6 ⟨u,hr,h6⟩=>?_
   subst hr
   refine ŏ h6 λ_ s7 ⟨x,H7,I7,r7,y7,Ut,fr7⟩=>?_
   have I7':=I7.pinned (stat fr7) (T.obj _ _ Ut)
   have again:∀{s8:Shared} {σ8:L2.St} {H8:Hp},Inv (bY X.Œ N' scope cl aX.objs.size {s2 with heap:=aX} (upd H2 s2.heap.objs.size (.lst [])) fp) ([]++jD fp s7.heap) σ8 H8 s8->
    Inv (bY X.Œ N' scope cl aX.objs.size {s2 with heap:=aX} (upd H2 s2.heap.objs.size (.lst [])) fp) [] σ8 H8 s8/\tn (i+1) s8.heap/\∀b∈fp,H8 b=none:=fun{s8 σ8 H8} I8=>by
    refine⟨I8.cH,T.keep _ _ _ Ut λb hb o e=>(I8.pin (b,o) (List.mem_append_right _ (List.mem_append_right _ (Š hb e)))).1,λb hb=>?_⟩
    obtain⟨o,e,d⟩:=T.obj _ _ Ut b hb
    exact(I8.pin (b,o) (List.mem_append_right _ (List.mem_append_right _ (Š hb e)))).2.1
   refine ŏ (hg cl _ _ _ fp _ s7 σ5 H7 x u _ I7' r7 (step x H7 y7)) λ_ s8 ⟨σ8,H8,I8,q8⟩=>?_
   refine ŏ (ht cl _ _ _ fp _ s8 σ8 H8 _ I8 q8) λc s9 ⟨H9,I9,q9⟩=>?_
   cases c with
   |false=>
    rw[if_neg Bool.false_ne_true] at q9 ⊢
    obtain⟨m',hm',w9⟩:=hN _ _ q9
    obtain⟨a1,a2,a3⟩:=again I9
    exact⟨m',hm',i+1,σ8,H9,a1,a2,a3,w9⟩
   |true=>
    rw[if_pos rfl] at q9 ⊢
    refine ŏ (he cl _ _ _ fp _ s9 σ8 H9 _ I9 q9) λyv vH ⟨y,H10,I10,r10,ys,e10,l10,w10⟩=>?_
    refine ŏ (Ņ _ vH σ8 H10 (.ref s2.heap.objs.size) [y] (.ref s2.heap.objs.size) [yv] (λ_ Uu=>N σ8 Uu) I10 rfl (.cons r10 .nil) ⟨_,ys,y,rfl,rfl,e10,l10,w10⟩) λ_ s11 ⟨v11,Uu,I11,_,w11⟩=>?_
    obtain⟨a1,a2,a3⟩:=again I11
    obtain⟨m',hm',w11⟩:=hN _ _ w11
    exact⟨m',hm',i+1,σ8,Uu,a1,a2,a3,w11⟩
 exact codeAny_compStart_list (loop _ rfl) (T.self _ 0 _ _ _ YK (loop _ rfl))
end
end M3
namespace P
open PySem PySem.Spec PyProof.Rows L2 M2 M3 M4
section
variable{X:Cx}{cm:String->Addr}{E:L2.St->XK}{elt tg iter:Expr}{ifs:List Expr}{scope:Scope}{pos:Pos}{mi:M (List PV)}{g:Tg}{mt:M Bool}{me:M PV}
theorem PS.Œ{st:Stmt}{t:TS}(h:PS X.Œ st t):PS X st t:=λpins s σ H D I hw=>
 wpAny_mono (h pins s σ H D (I.wish _) hw) (λ_ _ q=>q.dg) λ_ _ z=>False.elim z
def Vo{i:Nat}{y:Str}{py spos:Pos}(hN:X.N.Nodup)(hi0:X.N[i]?=some y)(hy:X.env.scope.names.lookup y=some .local)(N':List Str)(js:List Nat)(nl:Nat)(sc:Scope)(hsc:X.env.scope=sc)(hcalm:X.calm=true)
 (hi:PI X.Œ tg iter (tI (kk X cm) E mi))(hg:∀cl C s H fp,PG (bY X.Œ N' scope cl C s H fp) tg (tT (kk X cm) g))(ht:∀cl C s H fp,Bm (bY X.Œ N' scope cl C s H fp) ifs (tB (kk X cm) EF mt))(he:∀cl C s H fp,PE (bY X.Œ N' scope cl C s H fp) elt (tV (kk X cm) EF me))
 (hcap:cI X.Œ sc scope N' js)(hlen:js.length+nl=N'.length:=by rfl)
 (hk:scope.kind=.function:=by rfl)(hcell:∀y∈scope.names,y.2=.cell->scope.names.lookup y.1=some .cell:=by decide +kernel)(hnames:∀y∈scope.names,y.2=.local->scope.names.lookup y.1=some .local:=by decide +kernel)
 (hfree:∀y∈scope.names,y.2=.free->(sc.names.lookup y.1=some .cell\/sc.names.lookup y.1=some .free):=by decide +kernel)
 (hs:∀x,foldedSetIterable iter X.env x=pure x:=by intro _;rfl)(hsw:swapsWith (.ListComp elt [⟨tg,iter,ifs,0⟩] scope pos) (some (.Name y py)) spos.line X.env=pure true:=by rfl) :
 PS X (.Assign [.Name y py] (.ListComp elt [⟨tg,iter,ifs,0⟩] scope pos) spos) (tS (kk X cm) E (ġ i (Ń js nl mi g mt me))):=
 PS.wk (PS.Œ (JV hN hi0 hy hsw N' js nl sc hsc hcalm (Li hi) hg ht he hcap hlen hk hcell hnames hfree hs)) fun D σ H ⟨c,F,ρ,rel,h⟩=>ur ⟨c,F,ρ,rel,Ů.bind h fun r ρ1 v F1 H1 ĕ s1 q h1=>by
   cases r with
   |sh p=>exact h1 _ F1 H1 (ĕ.put rfl ⟨v,rfl,q⟩) (Same.refl _)
   |ow ps=>
    obtain⟨a,vs,rfl,q1,q2,q3,q4,q5⟩:=q
    exact h1 _ F1 H1 (ĕ.Jp ⟨a,vs,rfl,q1,q2,q3,q5⟩ λ_ z=>V.ref.inj z▸q4) (Same.refl _)
   |ot ps qs=>
    obtain⟨p,a,xs,vs,rfl,q0,qx,q1,q2,q3,q4,q5⟩:=q
    exact h1 _ F1 H1 (ĕ.Jp (s:=.ot ps qs) ⟨p,a,xs,vs,rfl,q0,qx,q1,q2,q3,q5⟩ λ_ z=>lV (ps:=ps) (qs:=qs) z ⟨p,xs,rfl,q0⟩▸q4) (Same.refl _)⟩
end
end P
namespace P
open PySem PySem.Spec PyProof.Rows L2 M2 M3 M4
section
variable{X:Cx}{cm:String->Addr}{K:KK}{E:L2.St->XK}{o e:Expr}{es:List Expr}{name:Str}{apos cpos:Pos}{id:String}{r:V->List V->Hp->VK->Prop}{f:PV->List PV->Option PV}{mo:M PV}{ms:M (List PV)}
end
end P
namespace P
open PySem PySem.Spec PyProof.Rows L2 M2 M3 M4
section
variable{X:Cx}{pins:List (Addr×Obj)}{σ:L2.St}{H:Hp}{s:Shared}{h':Heap}
end
section
variable{X:Cx}{elts:List Expr}{k:Nat}{tp:Pos}
end
def mLs(m:M PV):M (List PV):=λρ=>(m ρ).bind λp ρ1=>match p with
 | .lst ps=>.ok ps ρ1
 |_=>.bad
section
variable{X:Cx}{cm:String->Addr}{E:L2.St->XK}{e:Expr}{m:M PV}
@[simp] theorem ZdN{ρ:ľ}:mLs m ρ=(m ρ).bind fun p ρ1=>match p with
  | .lst ps=>.ok ps ρ1
  |_=>.bad:=rfl
end
end P
namespace P
open PySem PySem.Spec PyProof.Rows L2 M2 M3 M4
def Zav{X:Cx}:PIp X .BitOr (ipI λi j=>Builtin.bitOr i j):=by
 intro pins s σ H x y v u Q I r1 r2 h
 obtain⟨i,j,e1,e2,q⟩:=h
 subst e1;subst e2
 obtain⟨t,rfl⟩:=r1
 obtain⟨t',rfl⟩:=r2
 exact ior_int ⟨.int _,H,I.tok _,⟨_,rfl⟩,q⟩
def uL(i:Nat)(m:M PV):M Fl:=λρ=>match ρ[i]? with
 |some (.sh (.int _))=>(m ρ).bind λq ρ1=>match ρ1[i]?,q with
  |some (.sh (.int k)),.int j=>.ok .nx (ρ1.set i (.sh (.int (Builtin.bitOr k j))))
  |_,_=>.bad
 |_=>.bad
@[simp] theorem ZbR{i:Nat}{m:M PV}{ρ:ľ}:uL i m ρ=(match ρ[i]? with
  |some (.sh (.int _))=>(m ρ).bind λq ρ1=>match ρ1[i]?,q with
   |some (.sh (.int k)),.int j=>.ok .nx (ρ1.set i (.sh (.int (Builtin.bitOr k j))))
   |_,_=>.bad
  |_=>.bad):=rfl
section
variable{X:Cx}{cm:String->Addr}{E:L2.St->XK}{e a b:Expr}{m ma mb:M PV}{pos:Pos}
def q_{K:KK}{F:Hp}{i:Int}{v:V}(h:Rep K F (.int i) v):v=.int i:=by unfold Rep at h;exact h
def Em{i:Nat}{x:Str}{pos':Pos}(hN:X.N.Nodup)(hi:X.N[i]?=some x)(hx:Loc X.env.scope x)(he:PE X e (tV (kk X cm) E m))(hf:X.fn x=true\/X.env.scope.names.lookup x=some .local:=by first|exact .inl rfl|exact .inr rfl|assumption) :
 PS X (.AugAssign (.Name x pos') .BitOr e pos) (tS (kk X cm) E (uL i m)):=PS.wk (SX hN hi hx he Zav hf) λD σ H ⟨c,F,ρ,rel,h⟩=>by
 unfold uL at h
 cases e1:ρ[i]? with
 |none=>rw[e1] at h;exact h.elim
 |some sl=>
  rw[e1] at h
  cases sl with
  |sh p=>
   cases p with
   |int k0=>
    obtain⟨v,h1,h2⟩:=rel.slot i _ e1
    cases q_ h2
    refine⟨.int k0,at_of h1,c,F,ρ,rel,Ů.bind h λq ρ1 u F1 H1 ĕ s1 rq h1'=>?_⟩
    cases e2:ρ1[i]? with
    |none=>simp only[e2] at h1';exact h1'.elim
    |some sl2=>
     simp only[e2] at h1'
     cases sl2 with
     |sh p2=>
      cases p2 with
      |int k=>
       cases q with
       |int j=>
        obtain⟨v2,w1,w2⟩:=ĕ.slot i _ e2
        cases q_ w2
        rw[h1] at w1
        cases w1
        cases q_ rq
        exact⟨k0,j,rfl,rfl,h1' _ F1 H1 (ĕ.put rfl ⟨_,rfl,Rep.int⟩) (Same.refl _)⟩
       |_=>exact h1'.elim
      |_=>exact h1'.elim
     |_=>exact h1'.elim
   |_=>exact h.elim
  |_=>exact h.elim
end
section
variable{X:Cx}{K:KK}
end
end P
namespace P
open PySem PySem.Spec PyProof.Rows L2 M2 M3 M4
section
variable{prog:Program}{w:World}{A:Around}{E:Value->Shared->Prop}{s:Shared}
end
section
variable{prog:Program}{w:World}{A:Around}{E:Value->Shared->Prop}{s:Shared}
end
section
variable{prog:Program}{w:World}{A:Around}{E:Value->Shared->Prop}{s:Shared}
end
def Ly(b:Bool)(h:Heap)(it l:Addr)(i:Nat):Prop:=if b=true then h.IsTupleIter it l i else h.IsListIter it l i
def nmB(b:Bool):String:=if b=true then "tuple_iterator" else "list_iterator"
def Ly.ex{b:Bool}{h:Heap}{it l:Addr}{i:Nat}(x:Ly b h it l i):∃o,h.get? it=some o/\o.cls=.type (nmB b)/\o.data=.fields #[.ref l,.int i 0]:=by
 cases b with
 |true=>exact x
 |false=>exact x
section
variable{X:Cx}{pins:List (Addr×Obj)}{σ:L2.St}{H:Hp}{s:Shared}
end
section
variable{prog:Program}{w:World}{A:Around}{E:Value->Shared->Prop}{s:Shared}
end
section
variable{X:Cx}{elts:List Expr}{k:Nat}{tp:Pos}
end
section
variable{X:Cx}{cm:String->Addr}{E:L2.St->XK}{e e2:Expr}
end
end P
namespace P
open PySem PySem.Spec PyProof.Rows L2 M2 M3 M4
def Zaw(K:PySem.W.Frag)(neg:Bool):R2:=λx y H Q=>∃d es a xs,Rp K H d x/\y=.ref a/\(Ÿ K H a xs\/fH K H a xs)/\jH K H es xs/\d.canLay0=true/\PyData.canLayAll0 es=true/\d.depth<=60/\Q (.bl (if neg then !(es.any λe=>PyData.eqv e d) else es.any λe=>PyData.eqv e d)) H
open Classical in
noncomputable def HN(h:Heap)(d:PyData)(y:Value):Bool:=if ∃e as,Reads h y e as/\e.canLay0=true/\PyData.eqv e d=true then true else false
def En{h:Heap}{d e:PyData}{y:Value}{as:List Addr}(r:Reads h y e as)(hc:e.canLay0=true):HN h d y=PyData.eqv e d:=by
 unfold HN
 cases q:PyData.eqv e d with
 |true=>rw[if_pos ⟨e,as,r,hc,q⟩]
 |false=>
  rw[if_neg]
  rintro ⟨e',as',r',hc',q'⟩
  have:=SeqAt.Reads.unique e e' y as as' hc r r'
  subst this
  rw[q] at q'
  cases q'
theorem rm{h:Heap}{d:PyData}:∀{us:List Value} {es:List PyData} {as:List Addr},ReadsAll h us es as->PyData.canLayAll0 es=true->us.any (HN h d)=es.any λe=>PyData.eqv e d
 |_,_,_,.nil,_=>rfl
 |_,_,_,.cons r rs,hc=>by
  unfold PyData.canLayAll0 at hc
  rw[Bool.and_eq_true] at hc
  rw[List.any_cons,List.any_cons,En r hc.1,rm rs hc.2]
theorem rz{A:Around}{s:Shared}{d:PyData}{v:Value}{bs:List Addr}(rv:Reads s.heap v d bs)(hd:d.canLay0=true)(hu:A.units+d.depth<cLine):∀{us:List Value} {es:List PyData} {as:List Addr},ReadsAll s.heap us es as->PyData.canLayAll0 es=true->∀u∈us,SeqAt.EqAt A s u v (HN s.heap d u)
 |_,_,_,.nil,_=>λu hu=>by cases hu
 |_,_,_,.cons r rs,hc=>λu hm=>by
  unfold PyData.canLayAll0 at hc
  rw[Bool.and_eq_true] at hc
  rcases List.mem_cons.mp hm with rfl|hm
  ·rw[En r hc.1]
   exact SeqAt.eqAt_reads _ _ A s _ _ _ _ r rv hc.1 hd (by omega)
  ·exact rz rv hd hu rs hc.2 u hm
section
variable{X:Cx}
def Ax(hu:X.A.units+64<cLine):Ş X (compareOp .NotIn) (Zaw X.K true):=by
 intro pins s σ H x y v u Q I rx ry h
 obtain⟨d,es,a,xs,h1,rfl,hq,h3,h4,h5,h6,q⟩:=h
 cases ry
 obtain⟨as,ra⟩:=Rp.reads I d x v h1 rx
 have hu1:X.A.in1.units+d.depth<cLine:=by
  have:X.A.in1.units=X.A.units+1:=rfl
  omega
 rcases hq with hq|hq
 ·obtain⟨its,r,pl,hz⟩:=I.list hq
  obtain⟨bs,rb⟩:=jH.reads I es xs its h3 r
  refine SeqAt.notIn_listAt (HN s.heap d) pl.isList (λw hw=>rz ra h4 hu1 rb h5 w (by simpa using hw)) ⟨.bl _,H,I,rfl,?_⟩
  rw[show its.toArray.any (HN s.heap d)=its.any (HN s.heap d) by simp,rm rb h5]
  exact q
 ·obtain⟨its,r,pl,hz⟩:=I.tuple hq
  obtain⟨bs,rb⟩:=jH.reads I es xs its h3 r
  refine SeqAt.notIn_tupleAt (HN s.heap d) pl (λw hw=>rz ra h4 hu1 rb h5 w (by simpa using hw)) ⟨.bl _,H,I,rfl,?_⟩
  rw[show its.toArray.any (HN s.heap d)=its.any (HN s.heap d) by simp,rm rb h5]
  exact q
end
def inD(neg:Bool)(p q:PV):Option PV:=match q with
 | .lst ps=>if Ź p && cj ps && decide (dep p<=60) then some (.bl (if neg then !(ps.any λy=>eqB y p) else ps.any λy=>eqB y p)) else none
 | .tup ps=>if Ź p && cj ps && decide (dep p<=60) then some (.bl (if neg then !(ps.any λy=>eqB y p) else ps.any λy=>eqB y p)) else none
 |_=>none
theorem rC{p:PV}(h:Ź p=true):∀{ps:List PV},cj ps=true->(cQ ps).any (λe=>PyData.eqv e (toD p))=ps.any λy=>eqB y p
 | [],_=>rfl
 |y::ps,hp=>by
  unfold cj at hp
  rw[Bool.and_eq_true] at hp
  unfold cQ
  rw[List.any_cons,List.any_cons,qT y p hp.1 h,rC h hp.2]
def Vp{K:KK}{neg:Bool}:ig K (Zaw K.K neg) (inD neg):=by
 intro c F H σ ρ p q pv v u Q rel r1 r2 e k
 unfold inD at e
 split at e
 ·rename_i ps
  split at e
  ·rename_i hc
   rw[Bool.and_eq_true,Bool.and_eq_true,decide_eq_true_eq] at hc
   cases e
   obtain⟨a,xs,rfl,h1,h2⟩:=r2.lst rel.sub
   refine⟨toD p,cQ ps,a,xs,gO rel.sub hc.1.1 r1,rfl,.inl h1,jH.same rel.sub _ _ (gM ps xs hc.1.2 h2),dM p hc.1.1,fX ps hc.1.2,by rw[dN];exact hc.2,?_⟩
   rw[rC hc.1.1 hc.1.2]
   exact k _ F H rel (Same.refl _) (Same.refl _) Rep.bl
  ·cases e
 ·rename_i ps
  split at e
  ·rename_i hc
   rw[Bool.and_eq_true,Bool.and_eq_true,decide_eq_true_eq] at hc
   cases e
   obtain⟨a,xs,rfl,h1,h2⟩:=r2.tup rel.sub
   refine⟨toD p,cQ ps,a,xs,gO rel.sub hc.1.1 r1,rfl,.inr h1,jH.same rel.sub _ _ (gM ps xs hc.1.2 h2),dM p hc.1.1,fX ps hc.1.2,by rw[dN];exact hc.2,?_⟩
   rw[rC hc.1.1 hc.1.2]
   exact k _ F H rel (Same.refl _) (Same.refl _) Rep.bl
  ·cases e
 ·cases e
end P
namespace P
open PySem PySem.Spec PyProof.Rows L2 M2 M3 M4
def jq{x:Int}{n:Nat}(h1: -(2 ^ n:Int)<x)(h2:x<2 ^ n):bits x<=n:=by
 refine intBits_le_iff.mpr ?_
 have e:((2 ^ n:Nat):Int)=(2:Int) ^ n:=by simp
 have:((x.natAbs:Nat):Int)<((2 ^ n:Nat):Int):=by rw[e];omega
 omega
def Zax{x y:Int}(h:y≠0)(h1: -18446744073709551616<y)(h2:y<18446744073709551616):fW x y=true:=uI h (Nat.le_trans (jq (n:=64) (by omega) (by omega)) (by decide))
@[simp] theorem ZbS{x:Int}{n:Nat}(h:n≠0)(h2:n<18446744073709551616):fW x (no_index (OfNat.ofNat n):Int)=true:=by
  have e:(no_index (OfNat.ofNat n):Int)=(n:Int):=rfl
  rw[e]
  exact Zax (by omega) (by omega) (by omega)
@[simp] theorem Zay{x:Int}{n:Nat}(h:n<18446744073709551616):Ł x (no_index (OfNat.ofNat n):Int)=true:=by
  have e:(no_index (OfNat.ofNat n):Int)=(n:Int):=rfl
  rw[e]
  exact mul_r (by omega) (by omega)
@[simp] theorem Zaz{x:Int}{n:Nat}(h:n<18446744073709551616):Ł (no_index (OfNat.ofNat n):Int) x=true:=by
  have e:(no_index (OfNat.ofNat n):Int)=(n:Int):=rfl
  rw[e]
  exact aj (by omega) (by omega)
@[simp] theorem ZbT{m n:Nat}(h:m<18446744073709551616)(h2:n≤1000000):uw (no_index (OfNat.ofNat m):Int) (no_index (OfNat.ofNat n):Int)=true:=by
  have e:(no_index (OfNat.ofNat m):Int)=(m:Int):=rfl
  have e2:(no_index (OfNat.ofNat n):Int)=(n:Int):=rfl
  rw[e,e2]
  unfold uw
  simp
  omega
@[simp] theorem ZaA{x:Int}{n:Nat}:x.fdiv (no_index (OfNat.ofNat n):Int)=x / (no_index (OfNat.ofNat n):Int):=Int.fdiv_eq_ediv_of_nonneg x (Int.natCast_nonneg n)
@[simp] theorem ZaB{x:Int}{n:Nat}:x.fmod (no_index (OfNat.ofNat n):Int)=x % (no_index (OfNat.ofNat n):Int):=Int.fmod_eq_emod_of_nonneg x (Int.natCast_nonneg n)
end P
namespace P
open PySem PySem.Spec PyProof.Rows L2 M2 M3 M4
def add_l{xs ys:List PV}(h:xs.length+ys.length<=16777216):ĝ (.lst xs) (.lst ys)=some (.ow (xs++ys)):=by
 unfold ĝ
 simp[h]
def Vq{x y z w:Int}:eqB (.tup [.int x,.int y]) (.tup [.int z,.int w])=(decide (x=z) && decide (y=w)):=by
 rw[eqB.eq_def]
 show dJ [.int x,.int y] [.int z,.int w]=_
 rw[dJ.eq_def]
 show(eqB (.int x) (.int z) && dJ [.int y] [.int w])=_
 rw[dJ.eq_def]
 show(eqB (.int x) (.int z) && (eqB (.int y) (.int w) && dJ [] []))=_
 have h1:eqB (.int x) (.int z)=decide (x=z):=by rw[eqB.eq_def];rfl
 have h2:eqB (.int y) (.int w)=decide (y=w):=by rw[eqB.eq_def];rfl
 have h3:dJ [] []=true:=by rw[dJ.eq_def]
 rw[h1,h2,h3,Bool.and_true]
mutual
theorem uM:∀p:PV,Ź p=true->eqB p p=true
 | .non,_=>by unfold eqB;rfl
 | .bl b,_=>by unfold eqB;simp
 | .int i,_=>by unfold eqB;simp
 | .str x,_=>by unfold eqB;simp
 | .lst xs,h=>by unfold Ź at h;unfold eqB;exact jN xs h
 | .tup xs,h=>by unfold Ź at h;unfold eqB;exact jN xs h
 | .ins _ _ _,h=>by simp[Ź] at h
 | .xc _ _ _,h=>by simp[Ź] at h
 | .ty _,h=>by simp[Ź] at h
 | .cls _,h=>by simp[Ź] at h
theorem jN:∀ps:List PV,cj ps=true->dJ ps ps=true
 | [],_=>by unfold dJ;rfl
 |p::ps,h=>by
  unfold cj at h
  rw[Bool.and_eq_true] at h
  unfold dJ
  rw[uM p h.1,jN ps h.2]
  rfl
end
def Ay{p:PV}(h:Ź p=true)(hd:dep p<=60):fj p p=some (.bl false):=by
 unfold fj qW
 rw[h,uM p h,decide_eq_true (by omega:min (dep p) (dep p)<=60)]
 rfl
def cT{a b:Str}(ha:PyData.strOk a=true)(hb:PyData.strOk b=true):ŋ (.str a) (.str b)=some (.bl (decide (a=b))):=by
 have h:eqB (.str a) (.str b)=decide (a=b):=by unfold eqB;rfl
 unfold ŋ qW
 rw[show Ź (.str a)=true by unfold Ź;exact ha,show Ź (.str b)=true by unfold Ź;exact hb,h]
 rfl
end P
namespace P
open PySem PySem.Spec PyProof.Rows L2 M2 M3 M4
section
variable{g:Tg}{mb:M Fl}{mt:M Bool}{me:M PV}
theorem cU{α β:Type}(c:α->PV)(step:β->α->β)(J:β->ľ->Prop):∀(xs:List α),(∀x∈xs,∀b ρ,J b ρ->∃ρ1 ρ2,g (c x) ρ=some ρ1/\mb ρ1=.ok .nx ρ2/\J (step b x) ρ2)->∀b ρ,J b ρ->∃ρ',forL g mb (xs.map c) ρ=.ok .nx ρ'/\J (xs.foldl step b) ρ'
 | [],_,b,ρ,h=>⟨ρ,rfl,h⟩
 |x::xs,hs,b,ρ,h=>by
  obtain⟨ρ1,ρ2,h1,h2,h3⟩:=hs x (by simp) b ρ h
  obtain⟨ρ',e,h4⟩:=cU c step J xs (λy hy=>hs y (List.mem_cons_of_mem _ hy)) (step b x) ρ2 h3
  refine⟨ρ',?_,h4⟩
  rw[List.map_cons,forL,h1]
  dsimp only
  rw[h2]
  exact e
theorem bf{α:Type}(c f:α->PV)(q:α->Bool)(I:ľ->Prop):∀(xs:List α) (ρ:ľ) (acc:List PV),I ρ->acc.length+xs.length<=16777216->
 (∀x∈xs,∀ρ,I ρ->∃ρ1 ρ2,g (c x) ρ=some ρ1/\mt ρ1=.ok (q x) ρ2/\(q x=false->I ρ2)/\(q x=true->∃ρ3,me ρ2=.ok (f x) ρ3/\I ρ3))->ļ g mt me (xs.map c) ρ acc=some (acc++(xs.filter q).map f)
 | [],ρ,acc,_,_,_=>by simp[ļ]
 |x::xs,ρ,acc,h,hz,hs=>by
  obtain⟨ρ1,ρ2,h1,h2,h3,h4⟩:=hs x List.mem_cons_self ρ h
  cases e:q x with
  |true=>
   obtain⟨ρ3,h5,h6⟩:=h4 e
   rw[e] at h2
   rw[List.map_cons,ļ,h1]
   dsimp only
   rw[h2]
   dsimp only
   rw[h5]
   dsimp only
   rw[if_pos (by simp at hz;omega),bf c f q I xs ρ3 (acc ++ [f x]) h6 (by simp at hz ⊢;omega) λy hy=>hs y (List.mem_cons_of_mem _ hy)]
   simp[e]
  |false=>
   rw[e] at h2
   rw[List.map_cons,ļ,h1]
   dsimp only
   rw[h2]
   dsimp only
   rw[bf c f q I xs ρ2 acc (h3 e) (by simp at hz ⊢;omega) λy hy=>hs y (List.mem_cons_of_mem _ hy)]
   simp[e]
end
end P
namespace P
open PySem PySem.Spec PyProof.Rows L2 M2 M3 M4
def Zdp(K:PySem.W.Frag)(n:Nat)(t:BL):TG:=λv σ H Q=>∃a xs,v=.ref a/\Ÿ K H a xs/\xs.length=n/\t xs σ H Q
section
variable{X:Cx}{cm:String->Addr}{pos:Pos}
def Vr{es:List Expr}{k:Nat}{t:BL}{n:Nat}(hc:X.calm=true)(h:vG X es t)
 (hn:(assignEach es X.env).length=n:=by rfl)(hst:(assignEach es X.env).findIdx? (·.1)=none:=by rfl):PG X (.Tuple es k pos) (Zdp X.K n t):=by
 intro pins s σ H v u Q I r hw
 obtain⟨a,xs,e1,hq,hl,hw⟩:=hw
 subst e1
 cases r
 obtain⟨its,rv,ht,hz⟩:=I.list hq
 rw[assign_Tuple]
 refine wpAny_bind (wpAny_standAt ?_)
 unfold unpack
 rw[show(assignEach es X.env).length=its.toArray.size by simp[hn,<-hl,rv.length],hst]
 refine wpAny_bind (wpAny_holding (PySem.W.kun_itemsOf (I.ok.hd hc) ht.isList λh' hx=>?_))
 have I1:Inv X pins σ H {s with heap:=h'}:=I.kept (t':=s.toks) λb o e=>hx b o (Nat.ne_of_lt (Heap.lt_size e)) e
 exact h pins _ σ H xs _ Q I1 (by simpa using rv) hw
def gS(n:Nat)(gs:Bq):Tg:=λp ρ=>match p with
 | .tup ps=>if ps.length=n then gs ps ρ else none
 | .lst ps=>if ps.length=n then gs ps ρ else none
 |_=>none
@[simp] theorem Zdq{n:Nat}{gs:Bq}{ps:List PV}{ρ:ľ}:gS n gs (.tup ps) ρ=if ps.length=n then gs ps ρ else none:=rfl
@[simp] theorem Zdr{n:Nat}{gs:Bq}{ps:List PV}{ρ:ľ}:gS n gs (.lst ps) ρ=if ps.length=n then gs ps ρ else none:=rfl
def zE{es:List Expr}{k:Nat}{gs:Bq}{n:Nat}(hc:X.calm=true)(h:vG X es (tTs (kk X cm) gs))(hn:(assignEach es X.env).length=n:=by rfl)(hst:(assignEach es X.env).findIdx? (·.1)=none:=by rfl):PG X (.Tuple es k pos) (tT (kk X cm) (gS n gs)):=by
 intro pins s σ H v u Q I r hw
 obtain⟨c,F,ρ,p,rel,rp,hw⟩:=hw
 cases p with
 |tup ps=>
  unfold Rep at rp
  obtain⟨a,xs,h1,h2,h3⟩:=rp
  unfold gS at hw
  dsimp only at hw
  split at hw
  ·rename_i hl
   exact BR hc h hn hst pins s σ H v u Q I r ⟨a,xs,h1,Same.tup rel.sub h2,by rw[<-h3.length];exact hl,c,F,ρ,ps,rel,h3,hw⟩
  ·exact hw.elim
 |lst ps=>
  unfold Rep at rp
  obtain⟨a,xs,h1,h2,h3⟩:=rp
  unfold gS at hw
  dsimp only at hw
  split at hw
  ·rename_i hl
   exact Vr hc h hn hst pins s σ H v u Q I r ⟨a,xs,h1,rel.sub.seq h2,by rw[<-h3.length];exact hl,c,F,ρ,ps,rel,h3,hw⟩
  ·exact hw.elim
 |_=>exact hw.elim
end
end P
namespace P
open PySem PySem.Spec PyProof.Rows L2 M2 M3 M4
def Res.Az{α β γ:Type}(r:Res α)(f:α->ľ->Res β)(g:β->ľ->Res γ):(r.bind f).bind g=r.bind λa ρ=>(f a ρ).bind g:=by cases r<;>rfl
section
variable{X:Cx}{cm:String->Addr}{E:L2.St->XK}{a:Expr}{p p1 pos pos1:Pos}{mr:M (List PV)}
end
end P
namespace P
open PySem PySem.Spec PyProof.Rows L2 M2 M3 M4
section
variable{X:Cx}{cm:String->Addr}{E:L2.St->XK}{e o:Expr}{es:List Expr}{pos:Pos}{m:M Bool}{mo:M RV}{ma:M PV}
@[simp] theorem Zds{ps qs:List PV}:(RV.ot ps qs).val=.tup (ps ++ [.lst qs]):=rfl
@[simp] theorem Zdt{ps qs:List PV}:(RV.ot ps qs).slot=.ot ps qs:=rfl
end
end P
namespace P
open PySem PySem.Spec PyProof.Rows L2 M2 M3 M4
section
variable{X:Cx}{K:KK}
end
end P
namespace P
open PySem PySem.Spec PyProof.Rows L2 M2 M3 M4
section
variable{K:KK}{c c':Ctx}{F F' H H':Hp}{σ:L2.St}{ρ:ľ}
end
section
variable{X:Cx}{cm:String->Addr}{E:L2.St->XK}{elt tg iter:Expr}{ifs:List Expr}{scope:Scope}{pos:Pos}{mi:M (List PV)}{g:Tg}{mt:M Bool}{me:M RV}
end
section
variable{K:KK}{c:Ctx}{F H:Hp}{σ:L2.St}{ρ:ľ}
end
section
variable{X:Cx}{cm:String->Addr}{E:L2.St->XK}{e:Expr}{es:List Expr}{m:M Bool}{mv:M PV}{ms:M (List Slot)}
end
end P
namespace P
open PySem PySem.Spec PyProof.Rows L2 M2 M3 M4
section
variable{X:Cx}{K:KK}
end
section
variable{ρ:ľ}{i x j:Nat}{m:M Bool}{mv:M PV}{ms:M (List Slot)}{mp:M (List (List PV))}{g:Tg}{mt:M Bool}{me:M RV}{mi:M (List PV)}{js:List Nat}{nl:Nat}
end
end P
namespace P
open PySem PySem.Spec PyProof.Rows L2 M2 M3 M5
def lamP(js:List Nat)(ρ:ľ)(p:PV):ľ:=js.map (λ(j:Nat)=>Ŵ ((ρ[j]?).getD .no)) ++ [.sh p]
def uN(js:List Nat)(me:M PV)(ρ:ľ):List PV->Option (List Int)
 | []=>some []
 |p::ps=>match me (lamP js ρ p) with
  | .ok (.int k) _=>(uN js me ρ ps).map (k:: ·)
  |_=>none
def cu(p:PV)(k:Int):List PV->List Int->PV
 |q::qs,m::ms=>if m<k then cu q m qs ms else cu p k qs ms
 |_,_=>p
def rD:List PV->List Int->Option PV
 |p::ps,k::ks=>some (cu p k ps ks)
 |_,_=>none
theorem pU{js:List Nat}{me:M PV}{ρ:ľ}:∀{items:List PV} {ks:List Int},uN js me ρ items=some ks->ks.length=items.length/\∀(k:Nat) (p:PV),items[k]?=some p->∃ρ',me (lamP js ρ p)=.ok (.int (ks.getD k 0)) ρ'
 | [],ks,h=>by
   cases(show some []=some ks from h)
   exact⟨rfl,λk p z=>by simp at z⟩
 |q::r,ks,h=>by
  have h':(match me (lamP js ρ q) with
   | .ok (.int k) _=>(uN js me ρ r).map (k:: ·)
   |_=>none)=some ks:=h
  split at h'
  ·rename_i k ρ' e
   cases e2:uN js me ρ r with
   |none=>rw[e2] at h';cases h'
   |some ks'=>
    rw[e2] at h'
    cases(show some (k::ks')=some ks from h')
    obtain⟨h1,h2⟩:=pU e2
    refine⟨by simp[h1],λn p hp=>?_⟩
    cases n with
    |zero=>
     simp at hp
     subst hp
     exact⟨ρ',e⟩
    |succ n=>
     simp at hp
     simpa using h2 n p hp
  ·cases h'
theorem bO:∀{qs:List PV} {ms:List Int} {p:PV} {k:Int} {i:Nat} {x:PV},ms.length=qs.length->(p::qs)[i]?=some x->(∀j,j<(p::qs).length->(k::ms).getD i 0<=(k::ms).getD j 0/\(j<i->(k::ms).getD i 0<(k::ms).getD j 0))->cu p k qs ms=x
 | [],[],p,k,i,x,_,hx,_=>by
   cases i with
   |zero=>simpa[cu] using hx
   |succ i=>simp at hx
 | [],_::_,_,_,_,_,h,_,_=>by simp at h
 |_::_,[],_,_,_,_,h,_,_=>by simp at h
 |q::qs,m::ms,p,k,i,x,hl,hx,hb=>by
  have hl':ms.length=qs.length:=by simpa using hl
  unfold cu
  by_cases hm:m<k
  ·rw[if_pos hm]
   cases i with
   |zero=>
    have:=(hb 1 (by simp)).1
    simp at this
    omega
   |succ i=>
    refine bO (i:=i) hl' (by simpa using hx) λj hj=>?_
    have:=hb (j+1) (by simpa using hj)
    refine⟨by simpa using this.1,λhji=>by simpa using this.2 (by omega)⟩
  ·rw[if_neg hm]
   cases i with
   |zero=>
    refine bO (i:=0) hl' (by simpa using hx) λj hj=>?_
    cases j with
    |zero=>exact⟨Int.le_refl _,λz=>absurd z (Nat.lt_irrefl _)⟩
    |succ j=>
     have:=hb (j+1+1) (by simpa using hj)
     exact⟨by simpa using this.1,λz=>absurd z (by omega)⟩
   |succ i=>
    cases i with
    |zero=>
     have:=(hb 0 (by simp)).2 (by omega)
     simp at this
     omega
    |succ i=>
     refine bO (i:=i+1) hl' (by simpa using hx) λj hj=>?_
     cases j with
     |zero=>
      have:=hb 0 (by simp)
      exact⟨by simpa using this.1,λ_=>by simpa using this.2 (by omega)⟩
     |succ j=>
      have:=hb (j+1+1) (by simpa using hj)
      exact⟨by simpa using this.1,λz=>by simpa using this.2 (by omega)⟩
def rE{items:List PV}{ks:List Int}{i:Nat}{x b:PV}(hl:ks.length=items.length)(h:rD items ks=some b)(hx:items[i]?=some x)(hb:∀j,j<items.length->ks.getD i 0<=ks.getD j 0/\(j<i->ks.getD i 0<ks.getD j 0)):b=x:=by
 cases items with
 |nil=>simp at hx
 |cons p ps=>
  cases ks with
  |nil=>simp at hl
  |cons k ks=>
   have h':cu p k ps ks=b:=Option.some.inj h
   rw[<-h']
   exact bO (by simpa using hl) hx hb
section
variable{K:KK}{c:Ctx}{F H:Hp}{σ:L2.St}{ρ:ľ}
theorem Gr.refl(s:Same F H):Gr F H F H:=⟨Same.refl _,Same.refl _,s,λ_ _ z=>z⟩
theorem Gr.trans{F1 H1 F2 H2:Hp}(a:Gr F H F1 H1)(b:Gr F1 H1 F2 H2):Gr F H F2 H2:=
 ⟨a.h.trans b.h,a.f.trans b.f,b.sub,fun x hx hf=>b.out x (fun z=>by
   cases q:H x with
   |none=>exact hx q
   |some u=>rw[a.h x u q] at z;cases z) (a.out x hx hf)⟩
def Rel.lam(js:List Nat)(rel:Rel K c F H σ ρ){p:PV}{v:V}(hp:Rep K F p v):Rel K (ctx0 F H) F H (cL js σ v) (lamP js ρ p) where
 sub:=rel.sub
 base:=Same.refl _
 f0:=Same.refl _
 fB:=λ_ _ z=>z
 lent:=λa u e=>bZ e
 lb:=fun a e=>by
   cases q:(ctx0 F H).L a with
   |none=>rfl
   |some u=>
    have e':H a=none:=e
    rw[(bZ q).1] at e'
    cases e'
 len:=by simp[cL,lamP]
 slot:= λi s e=>by
  unfold lamP at e
  by_cases hi:i<js.length
  ·rw[List.getElem?_append_left (by simpa using hi),List.getElem?_map] at e
   cases ej:js[i]? with
   |none=>rw[ej] at e;cases e
   |some j=>
    rw[ej] at e
    have e':Ŵ ((ρ[j]?).getD .no)=s:=Option.some.inj e
    subst e'
    have hx:((cL js σ v)[i]?).getD none=(σ[j]?).getD none:=by
     unfold cL
     rw[List.getElem?_append_left (by simpa using hi),List.getElem?_map,ej]
     rfl
    rw[hx]
    cases er:ρ[j]? with
    |none=>trivial
    |some sl=>
     have q:=rel.slot j sl er
     cases sl with
     |no=>trivial
     |sh p=>exact q
     |ow ps=>
      obtain⟨a,vs,h1,h2,h3,h4,h5⟩:=q
      refine⟨a,vs,h1,?_,h5⟩
      show(match F a with|none=>H a|some _=>none)=_
      rw[h3]
      exact h2
     |bw ps=>
      obtain⟨a,vs,h1,h2,h3⟩:=q
      obtain⟨l1,l2⟩:=rel.lent a _ h2
      refine⟨a,vs,h1,?_,h3⟩
      show(match F a with|none=>H a|some _=>none)=_
      rw[l2]
      exact l1
     |rc C ns ps=>trivial
     |ot ps qs=>trivial
     |ol Bp=>trivial
  ·have hi2:i=js.length:=by
    have l2:=(List.getElem?_eq_some_iff.mp e).1
    simp at l2
    omega
   subst hi2
   rw[List.getElem?_append_right (by simp)] at e
   have e':Slot.sh p=s:=by simpa using e
   subst e'
   have hx:((cL js σ v)[js.length]?).getD none=some v:=by
    unfold cL
    rw[List.getElem?_append_right (by simp)]
    simp
   rw[hx]
   exact⟨v,rfl,hp⟩
 sep:=λi j a h1 _=>by
  exfalso
  obtain⟨s,y,h1,_,h2⟩:=h1
  have h2:=jK h2
  unfold lamP at h1
  by_cases hi:i<js.length
  ·rw[List.getElem?_append_left (by simpa using hi),List.getElem?_map] at h1
   cases ej:js[i]? with
   |none=>rw[ej] at h1;cases h1
   |some j=>
    rw[ej] at h1
    have e':Ŵ ((ρ[j]?).getD .no)=s:=Option.some.inj h1
    subst e'
    cases er:ρ[j]? with
    |none=>rw[er] at h2;cases h2
    |some sl=>rw[er] at h2;cases sl<;>cases h2
  ·have hi2:i=js.length:=by
    have l2:=(List.getElem?_eq_some_iff.mp h1).1
    simp at l2
    omega
   subst hi2
   rw[List.getElem?_append_right (by simp)] at h1
   have e':Slot.sh p=s:=by simpa using h1
   subst e'
   cases h2
end
section
variable{X:Cx}{cm:String->Addr}{E:L2.St->XK}{x px:Str}{c Pt:Addr}{params:Arguments}{body e:Expr}{scope:Scope}{p pos Av kpos:Pos}{mr:M (List PV)}{me:M PV}
end
def Vs(K:PySem.W.Frag)(x:Str)(f:Addr):Bool:=PySem.W.nsIn K mainGlobals x== some (some (.ref f)) && (PySem.W.tabIn K x).isSome
section
variable{P:Program}{w:World}{K:PySem.W.Frag}{cm:String->Addr}{mg:Str->Option Value}{base:Heap}{CX:jF}
def JW{x qual:Str}{st:Stmt}{f:Addr}{fd:FuncData}(F:Cq K x qual st f fd){c Pt:Addr}(h:PySem.W.nsIn K mainGlobals x=some (some (.ref f)))(ht:PySem.W.tabIn K x=some (c,Pt)):fd.code=.ref c:=by
 obtain⟨oc,od,kV,doc,pm,an,cdv,ct,osl,rfl,lk,hcd⟩:=F.ex
 unfold PySem.W.tabIn at ht
 split at ht
 ·rename_i f2 hf
  rw[h] at hf
  cases hf
  split at ht
  ·rename_i hfo
   rw[lk] at hfo
   cases hfo
   split at ht
   ·rename_i c2 hc
    split at ht
    ·split at ht
     ·cases ht
      exact hc
     ·cases ht
    ·cases ht
   ·cases ht
  ·cases ht
 ·cases ht
def Zdu{x qual:Str}{st:Stmt}{f:Addr}{fd:FuncData}{N ps:List Str}{k n j:Nat}{mb:M Fl}{mf:MF}(F:Cq K x qual st f fd)(S:Ē N ps (Ĉ st))(hn:ps.length=n)(hj:N.length=j)(hf:mf=ı n j mb)(htb:Vs K x f=true)
 (hbody:∀(c Pt:Addr),PySem.W.tabIn K x=some (c,Pt)→∀(A:Around) (outer:List Env) (s:Shared) (H:Hp) (E:XK),Ś k (A.deeper (envOfC qual (Ĉ st) s.heap.objs.size f (.ref c)))→
   gZ (oJ CX P w K mg base N qual (Ĉ st) f (.ref c) A outer s H E) (Ŕ st) (tS ⟨K,cm⟩ (λ_=>E) mb)):ģ P w K mg base CX (k+1) f fd ps (ş ⟨K,cm⟩ n mf):=by
 subst hn hj hf
 unfold Vs at htb
 simp only[Bool.and_eq_true,beq_iff_eq] at htb
 obtain⟨h1,h2⟩:=htb
 obtain⟨⟨c,Pt⟩,ht⟩:=Option.isSome_iff_exists.mp h2
 have hc:=JW F h1 ht
 obtain⟨oc,od,kV,doc,pm,an,cdv,ct,osl,rfl,lk,hcd⟩:=id F.ex
 have hc':cdv=.ref c:=hc
 subst hc'
 refine Ci lk hcd S (λvs H Q E ⟨F,ps',h1,_,h2,_⟩=>by rw[<-Paired.length h2];exact h1) λA outer s H vs Q E hr hsp=>?_
 obtain⟨F,ps',h1,h2,h3,h4⟩:=hsp
 refine⟨_,hbody c Pt ht A outer s H E hr,ctx0 F H,F,startP N.length ps',Rel.start h2 h3,?_⟩
 unfold ı at h4
 rw[if_pos h1] at h4
 cases e:mb (startP N.length ps') with
 |bad=>rw[e] at h4;exact h4
 |exc x ρ'=>rw[e] at h4;exact λσ' C d F' H' rel s1 q=>h4 C d F' H' rel.gr q
 |ok fl ρ'=>
  rw[e] at h4
  cases fl with
  |nx=>exact λσ' F' H' rel s1=>h4 .non F' H' rel.gr (Rep.non (K:=⟨K,cm⟩) (F:=F'))
  |bk=>exact h4.elim
  |ct=>exact h4.elim
  |rt r=>
   intro v σ' F' H' rel s1 q
   refine h4 v F' H' rel.gr ?_
   cases r with
   |sh p=>exact q
   |ow qs=>
    obtain⟨a,vs',e1,e2,e3,e4,_,e5⟩:=q
    exact⟨a,vs',e1,e2,e3,e4,e5⟩
   |ot qs ts=>
    obtain⟨p,a,xs,vs',e1,e0,ex,e2,e3,e4,_,e5⟩:=q
    exact⟨p,a,xs,vs',e1,e0,ex,e2,e3,e4,e5⟩
end
section
variable{js:List Nat}{me:M PV}{mr:M (List PV)}{ρ:ľ}
end
end P
namespace P
open PySem PySem.Spec PyProof.Rows L2 M2 M3 M5
end P
namespace P
open PySem PySem.Spec PyProof.Rows L2 M2 M3 M5
section
variable{X:Cx}{cm:String->Addr}{E:L2.St->XK}{CX:jF}{k n:Nat}{f:Addr}{fd:FuncData}{ps:List Str}{mf:MF}{mr:M (List Slot)}{x:Str}{p pos:Pos}{e:Expr}{es:List Expr}{ds:List Value}{dvs:List V}{dps:List Slot}
end
end P
namespace P
open PySem PySem.Spec PyProof.Rows L2 M2 M3 M5
def BN:Nat->(List Value->Prop)->Prop
 |0,p=>p []
 |n+1,p=>∀u,BN n λus=>p (u::us)
theorem rG:∀{n:Nat} {p:List Value->Prop},BN n p->∀us,us.length=n->p us
 |0,p,h,[],_=>h
 |0,p,h,_::_,e=>by cases e
 |n+1,p,h,[],e=>by cases e
 |n+1,p,h,u::us,e=>rG (h u) us (Nat.succ.inj e)
structure Df(K:PySem.W.Frag)(mg:Str->Option Value)(x:Str)(st:Stmt)(ps:List Str)(f:Addr)(fd:FuncData):Prop where
 F:Cq K x x st f fd
 m:mg x=some (.ref f)
 b:Binds K fd ps []
 bb:∀(s:Shared) (us:List Value),us.length=ps.length->BindsTo s fd ⟨us,[]⟩ (ps.zip us)
structure Dm(K:PySem.W.Frag)(C:Addr)(x q:Str)(st:Stmt)(ps:List Str)(f:Addr)(fd:FuncData):Prop where
 F:Cq K x q st f fd
 b:Binds K fd ps []
section
variable{K:PySem.W.Frag}{h:Heap}{mg:Str->Option Value}{x q:Str}{st:Stmt}{ps:List Str}{f C:Addr}{oc kV dc pm cd ct:Value}{od an:Option Addr}{sl:Array (Option Value)}
def ĩ(X:K.In h)(G:h.Ns mainGlobals mg)(hb:∀(kV dc pm:Value) (an:Option Addr) (cd ct:Value),BN ps.length λus=>bindArgs (PySem.W.fnOf x x (aB st) (Ŕ st) (Ĉ st) .none kV dc pm an cd ct) ⟨us,[]⟩=pure (ps.zip us))
 (a:PySem.W.nsIn K mainGlobals x=some (some (.ref f)))(l:K.lookup f=some ⟨oc,od,.func (PySem.W.fnOf x x (aB st) (Ŕ st) (Ĉ st) .none kV dc pm an cd ct),sl⟩)(c:PySem.W.codeIn K cd x=true)(k:PySem.W.keepIn K (.ref f)=true) :
 Df K mg x st ps f (PySem.W.fnOf x x (aB st) (Ŕ st) (Ĉ st) .none kV dc pm an cd ct):=
 have F:=Cr (st:=st) l c k
 ⟨F,PySem.W.mg_of X G a,F.binds λkV dc pm an cd ct us hl=>rG (hb kV dc pm an cd ct) us hl,λs us hl=>.of_eq (rG (hb kV dc pm an cd ct) us hl)⟩
def m_(hb:∀(kV dc pm:Value) (an:Option Addr) (cd ct:Value),BN ps.length λus=>bindArgs (PySem.W.fnOf x q (aB st) (Ŕ st) (Ĉ st) .none kV dc pm an cd ct) ⟨us,[]⟩=pure (ps.zip us))
 (a:PySem.W.findIn K (.ref C) x=some (some (.ref f)))(l:K.lookup f=some ⟨oc,od,.func (PySem.W.fnOf x q (aB st) (Ŕ st) (Ĉ st) .none kV dc pm an cd ct),sl⟩)(c:PySem.W.codeIn K cd q=true)(k:PySem.W.keepIn K (.ref f)=true) :
 Dm K C x q st ps f (PySem.W.fnOf x q (aB st) (Ŕ st) (Ĉ st) .none kV dc pm an cd ct):=
 have F:=Cr (st:=st) l c k
 ⟨F,F.binds λkV dc pm an cd ct us hl=>rG (hb kV dc pm an cd ct) us hl⟩
end
end P
namespace P
open PySem PySem.Spec PyProof.Rows L2 M2 M3 M5
def ź{N ps:List Str}{sc:Scope}(h1:sc.kind=.function:=by rfl)(h2:sc.isCoroutine=false:=by rfl)(h3:sc.isGenerator=false:=by rfl)(h4:N.Nodup:=by decide +kernel)(h5:N.take ps.length=ps:=by rfl)(h6:∀x∈ps,sc.names.lookup x=some .local\/sc.names.lookup x=some .cell:=by decide +kernel)
 (h7:∀y∈sc.names,y.2≠ .free:=by decide +kernel):Ē N ps sc:=⟨h1,h2,h3,h4,h5,h6,h7⟩
section
variable{X:Cx}{cm:String->Addr}{E:L2.St->XK}{CX:jF}{k j n:Nat}{f:Addr}{fd:FuncData}{ps:List Str}{mf:MF}{mr:M (List Slot)}{x:Str}{st:Stmt}{p pos:Pos}{e:Expr}{es:List Expr}
def ĉ(F:ģ X.prog X.w X.K X.mg X.base CX k f fd ps (ş (kk X cm) n mf))(D:Df X.K X.mg x st ps f fd)(hr:Ś j X.A)(hx:dH CX X E)
 (ha:PA X (e::es) (tA (kk X cm) E mr))(hlen:∀{ps:List Slot},(∃r,mf ps=r/\∀z,r=z->z≠ .bad)->ps.length=n:=by exact cP)(hg:Gl X x:=by rfl)(hkj:k<=j:=by decide)(hdb:(x== ("__debug__" :Str))=false:=by decide)(he:starEach (e::es) X.env=(false,eval e X.env)::starEach es X.env:=by exact ſ rfl)(hpl:(backTo pos (starEach es X.env)).any (·.1)=false:=by rfl) :
 PE X (.Call (.Name x p) (e::es) [] pos) (tO (kk X cm) E (Č mf mr)):=UW F hlen (hr.mono hkj) hg D.m D.F.kp D.b hx ha hdb he hpl
end
section
variable{Pg:Program}{w:World}{K:PySem.W.Frag}{mg:Str->Option Value}{base:Heap}{CX:jF}{cm:String->Addr}
def ĸ{x qual:Str}{st:Stmt}{f:Addr}{fd:FuncData}{N ps:List Str}{k n j:Nat}{mb:M Fl}{mf:MF}(F:Cq K x qual st f fd)(S:Ē N ps (Ĉ st))
 (hbody:∀(cdv:Value) (A:Around) (outer:List Env) (s:Shared) (H:Hp) (E:XK),Ś k (A.deeper (envOfC qual (Ĉ st) s.heap.objs.size f cdv))→(A.deeper (envOfC qual (Ĉ st) s.heap.objs.size f cdv)).units+64<cLine→
   gZ (oJ CX Pg w K mg base N qual (Ĉ st) f cdv A outer s H E) (Ŕ st) (tS ⟨K,cm⟩ (λ_=>E) mb))(hn:ps.length=n:=by rfl)(hj:N.length=j:=by rfl)(hf:mf=ı n j mb:=by rfl):ģ Pg w K mg base CX (k+1) f fd ps (ş ⟨K,cm⟩ n mf):=
 fnQ F S hn hj hf λcdv A outer s H E hr=>hbody cdv A outer s H E hr hr.units
end
end P
namespace P
open PySem PySem.Spec PyProof.Rows L2 M2 M3 M4
section
variable{X:Cx}{cm:String->Addr}{E:L2.St->XK}{e:Expr}{m:M PV}
end
end P
namespace P
open PySem PySem.Spec PyProof.Rows L2 M2 M3 M4
def tgN:Expr->List Str
 | .Name x _=>[x]
 | .Tuple es _ _=>es.flatMap fun e=>match e with
   | .Name x _=>[x]
   |_=>[]
 |_=>[]
def cN(X:Cx)(js:List Nat)(tg:Expr):List Str:=js.map (λ(j:Nat)=>(X.N[j]?).getD "")++tgN tg
def ndB{l:List Str}(h:decide l.Nodup=true):l.Nodup:=of_decide_eq_true h
def frB{a b:Scope}(h:(a.names.all λy=>decide (y.2=.free->(b.names.lookup y.1=some .cell\/b.names.lookup y.1=some .free)))=true):∀y∈a.names,y.2=.free->(b.names.lookup y.1=some .cell\/b.names.lookup y.1=some .free):=λy hy=>of_decide_eq_true (List.all_eq_true.mp h y hy)
section
variable{X:Cx}{cm:String->Addr}{E:L2.St->XK}{elt tg iter:Expr}{ifs:List Expr}{scope:Scope}{pos:Pos}{mi:M (List PV)}{g:Tg}{mt:M Bool}{me:M PV}{js:List Nat}{nl:Nat}
end
end P
namespace P
open PySem PySem.Spec PyProof.Rows L2 M2 M3 M4
section
variable{X:Cx}
end
section
variable{X:Cx}{cm:String->Addr}{K:KK}{E:L2.St->XK}{o e:Expr}{es:List Expr}{name:Str}{apos cpos:Pos}{id:String}{r:V->List V->Hp->VK->Prop}{f:PV->List PV->Option PV}{mo:M PV}{ms:M (List PV)}
end
end P
namespace P
open PySem PySem.Spec PyProof.Rows L2 M2 M3 M4
section
variable{X:Cx}{cm:String->Addr}{E:L2.St->XK}{a b e:Expr}{es:List Expr}{ma mb m:M PV}{mo:M RV}{pos p:Pos}
def Ć{i j pos}:PE X (.Constant (.int i) j pos) (tR (kk X cm) E (mC (.int i))):=Ě ĥ
def jr{j pos}:PE X (.Constant .none j pos) (tR (kk X cm) E (mC .non)):=Ě uh
def pW{x j pos}:PE X (.Constant (.str x) j pos) (tR (kk X cm) E (mC (.str x))):=Ě fL
def Ĳ(ha:PE X a (tR (kk X cm) E ma))(hb:PE X b (tR (kk X cm) E mb))(hs:lR b:=by exact λ_ _=>rfl):PE X (.Subscript a b pos) (tV (kk X cm) E (ă đ ma mb)):=Zct Zai YG ha hb hs
def Ī(ha:PE X a (tR (kk X cm) E ma))(hb:PE X b (tR (kk X cm) E mb))(hs:lR b:=by exact λ_ _=>rfl):PE X (.Subscript a b pos) (tR (kk X cm) E (ă đ ma mb)):=Ě (Ĳ ha hb hs)
def v_mod(ha:PE X a (tR (kk X cm) E ma))(hb:PE X b (tR (kk X cm) E mb)):PE X (.BinOp a .Mod b pos) (tV (kk X cm) E (ă į ma mb)):=bC Vf Ul ha hb
def ŗ(ha:PE X a (tR (kk X cm) E ma))(hb:PE X b (tR (kk X cm) E mb)):PE X (.BinOp a .Mod b pos) (tR (kk X cm) E (ă į ma mb)):=Ě (v_mod ha hb)
def v_mul(ha:PE X a (tR (kk X cm) E ma))(hb:PE X b (tR (kk X cm) E mb)):PE X (.BinOp a .Mult b pos) (tV (kk X cm) E (ă ĭ ma mb)):=bC Vh Jm ha hb
def Ŷ(ha:PE X a (tR (kk X cm) E ma))(hb:PE X b (tR (kk X cm) E mb)):PE X (.BinOp a .Mult b pos) (tR (kk X cm) E (ă ĭ ma mb)):=Ě (v_mul ha hb)
def v_sub(ha:PE X a (tR (kk X cm) E ma))(hb:PE X b (tR (kk X cm) E mb)):PE X (.BinOp a .Sub b pos) (tV (kk X cm) E (ă Ŏ ma mb)):=bC Vd Uj ha hb
def ni(ha:PE X a (tR (kk X cm) E ma))(hb:PE X b (tR (kk X cm) E mb)):PE X (.BinOp a .Sub b pos) (tR (kk X cm) E (ă Ŏ ma mb)):=Ě (v_sub ha hb)
def iw(ha:PE X a (tR (kk X cm) E ma))(hb:PE X b (tR (kk X cm) E mb)):PE X (.BinOp a .FloorDiv b pos) (tV (kk X cm) E (ă Ő ma mb)):=bC Ve Jb ha hb
def iy(ha:PE X a (tR (kk X cm) E ma))(hb:PE X b (tR (kk X cm) E mb)):PE X (.BinOp a .FloorDiv b pos) (tR (kk X cm) E (ă Ő ma mb)):=Ě (iw ha hb)
def cV(ha:PE X a (tR (kk X cm) E ma))(hb:PE X b (tR (kk X cm) E mb)):PE X (.BinOp a .Add b pos) (tO (kk X cm) E (Ġ ĝ ma mb)):=YZ Vc Vb ha hb
def v_add(ha:PE X a (tR (kk X cm) E ma))(hb:PE X b (tR (kk X cm) E mb)):PE X (.BinOp a .Add b pos) (tV (kk X cm) E (č (Ġ ĝ ma mb))):=ğ (cV ha hb)
def aN(ha:PE X a (tR (kk X cm) E ma))(hb:PE X b (tR (kk X cm) E mb)):PE X (.BinOp a .Add b pos) (tR (kk X cm) E (č (Ġ ĝ ma mb))):=Ě (v_add ha hb)
def t_eq(hu:X.A.units+64<cLine)(ha:PE X a (tR (kk X cm) E ma))(hb:PE X b (tR (kk X cm) E mb)):PT X (.Compare a [.Eq] [b] pos) (tB (kk X cm) E (aM (ă ŋ ma mb))):=ů Lr (CN hu) ha hb (Ķ _)
def Vt(hu:X.A.units+64<cLine)(ha:PE X a (tR (kk X cm) E ma))(hb:PE X b (tR (kk X cm) E mb)):PT X (.Compare a [.NotEq] [b] pos) (tB (kk X cm) E (aM (ă fj ma mb))):=ů Ls (CP hu) ha hb (Ķ _)
def v_eq(hu:X.A.units+64<cLine)(ha:PE X a (tR (kk X cm) E ma))(hb:PE X b (tR (kk X cm) E mb)):PE X (.Compare a [.Eq] [b] pos) (tV (kk X cm) E (ă ŋ ma mb)):=jk Lr (CN hu) ha hb (Ķ _)
def ń(he:PE X e (tO (kk X cm) E mo)):gZ X [.Return (some e) pos] (tS (kk X cm) E (Ĥ mo)):=Ĩ (Zac he)
def Ľ(he:PE X e (tV (kk X cm) E m)):gZ X [.Return (some e) pos] (tS (kk X cm) E (Ĥ (ŀ m))):=ń (ť he)
def A_{N ps:List Str}{sc:Scope}{i:Nat}{x:Str}{pos':Pos}(S:Ē N ps sc)(he:PE X e (tO (kk X cm) E mo))(hN:X.N=N:=by rfl)(hi:X.N[i]?=some x:=by rfl)(hx:Loc X.env.scope x:=by first|exact Or.inl rfl|exact Or.inr rfl)(hs:swapsWith e (some (.Name x pos')) pos.line X.env=pure false:=by rfl)(hf:X.fn x=true\/X.env.scope.names.lookup x=some .local:=by first|exact .inl rfl|exact .inr rfl|assumption) :
 PS X (.Assign [.Name x pos'] e pos) (tS (kk X cm) E (ġ i mo)):=Zab (hN▸S.nd) hi hx he hs hf
def Ĵ{N ps:List Str}{sc:Scope}{i:Nat}{x:Str}{pos':Pos}{rest:List Stmt}{m2:M Fl}(S:Ē N ps sc)(he:PE X e (tO (kk X cm) E mo))(h2:gZ X rest (tS (kk X cm) E m2))(hN:X.N=N:=by rfl)(hi:X.N[i]?=some x:=by rfl)(hx:Loc X.env.scope x:=by first|exact Or.inl rfl|exact Or.inr rfl)(hs:swapsWith e (some (.Name x pos')) pos.line X.env=pure false:=by rfl)(hf:X.fn x=true\/X.env.scope.names.lookup x=some .local:=by first|exact .inl rfl|exact .inr rfl|assumption) :
 gZ X (.Assign [.Name x pos'] e pos::rest) (tS (kk X cm) E (Ė (ġ i mo) m2)):=ē (A_ S he hN hi hx hs hf) h2
def aO{N ps:List Str}{sc:Scope}{i:Nat}{x:Str}(S:Ē N ps sc)(hN:X.N=N:=by rfl)(hi:X.N[i]?=some x:=by rfl)(hx:Loc X.env.scope x:=by first|exact Or.inl rfl|exact Or.inr rfl)(hf:X.fn x=true\/X.env.scope.names.lookup x=some .local:=by first|exact .inl rfl|exact .inr rfl|assumption):PG X (.Name x pos) (tT (kk X cm) (gN i)):=Dt (hN▸S.nd) hi hx hf
def bH{i:Nat}{x:Str}(hN:X.N.Nodup:=by exact ndB (by kernel_rfl))(hi:X.N[i]?=some x:=by rfl)(hx:Loc X.env.scope x:=by first|exact Or.inl rfl|exact Or.inr rfl)(hf:X.fn x=true\/X.env.scope.names.lookup x=some .local:=by first|exact .inl rfl|exact .inr rfl):PG X (.Name x pos) (tT (kk X cm) (gN i)):=Dt hN hi hx hf
def Đ(i:Nat){x:Str}{px:Pos}{ms:M (List Slot)}(hr:PA X es (tA (kk X cm) E ms))(hN:X.N[i]?=some x:=by rfl)(hv:z_ X.env.scope x:=by first|exact Or.inl rfl|exact Or.inr (Or.inl rfl)|exact Or.inr (Or.inr rfl))(hd:(x== ("__debug__" :Str))=false:=by decide)
 (hcd:(x== ("__classdict__" :Str))=false:=by decide)(hs:starEach (.Name x px::es) X.env=(false,eval (.Name x px) X.env)::starEach es X.env:=by exact ſ rfl):PA X (.Name x px::es) (tA (kk X cm) E (Ą i ms)):=Ju i hN hv hd hcd hr hs
def ž{id:String}{x:Str}{r:List V->Hp->VK->Prop}{f:List PV->Option PV}{mr:M (List PV)}(hc:ň X (.builtin id) r)(hf:eE (kk X cm) r f)(hm:X.mg x=none)(hv:bootBuiltins x=some (.builtin id))(ha:PA X (e::es) (Jr (kk X cm) E mr))(hg:Gl X x:=by rfl)(hn:x≠ "__name__" := by decide)(hdb:(x== ("__debug__" :Str))=false:=by decide)
 (he:starEach (e::es) X.env=(false,eval e X.env)::starEach es X.env:=by rfl)(hpl:(backTo pos (starEach es X.env)).any (·.1)=false:=by rfl):PE X (.Call (.Name x p) (e::es) [] pos) (tV (kk X cm) E (cZ f mr)):=PE.wk (Cj hc hg hm hv ha hn hdb he hpl) λ_ _ _ h=>Zaa hf h
def ZaC{T:String}{x:Str}{r:List V->Hp->VK->Prop}{f:List PV->Option PV}{mr:M (List PV)}(hc:ň X (.type T) r)(hf:eE (kk X cm) r f)(hm:X.mg x=none)(hv:bootBuiltins x=some (.type T))(ha:PA X (e::es) (Jr (kk X cm) E mr))(hg:Gl X x:=by rfl)(hn:x≠ "__name__" := by decide)(hdb:(x== ("__debug__" :Str))=false:=by decide)
 (he:starEach (e::es) X.env=(false,eval e X.env)::starEach es X.env:=by rfl)(hpl:(backTo pos (starEach es X.env)).any (·.1)=false:=by rfl):PE X (.Call (.Name x p) (e::es) [] pos) (tV (kk X cm) E (cZ f mr)):=PE.wk (pD hc hg hm hv ha hn hdb he hpl) λ_ _ _ h=>Zaa hf h
def rH{T:String}{x:Str}{r:List V->Hp->VK->Prop}{f:List PV->Option RV}{mr:M (List PV)}(hc:ň X (.type T) r)(hf:Dq (kk X cm) r f)(hm:X.mg x=none)(hv:bootBuiltins x=some (.type T))(ha:PA X (e::es) (Jr (kk X cm) E mr))(hg:Gl X x:=by rfl)(hn:x≠ "__name__" := by decide)(hdb:(x== ("__debug__" :Str))=false:=by decide)
 (he:starEach (e::es) X.env=(false,eval e X.env)::starEach es X.env:=by rfl)(hpl:(backTo pos (starEach es X.env)).any (·.1)=false:=by rfl):PE X (.Call (.Name x p) (e::es) [] pos) (tO (kk X cm) E (jl f mr)):=PE.wk (pD hc hg hm hv ha hn hdb he hpl) λ_ _ _ h=>Zcu hf h
end
section
variable{X:Cx}{cm:String->Addr}{E:L2.St->XK}{elt tg iter t:Expr}{ifs:List Expr}{scope:Scope}{pos:Pos}{mi:M (List PV)}{g:Tg}{mt:M Bool}{me:M PV}{js:List Nat}{nl:Nat}
structure CF(X:Cx)(js:List Nat)(nl:Nat)(tg iter:Expr)(scope:Scope):Prop where
 hcap:cI X.Œ X.env.scope scope (cN X js tg) js
 hcalm:X.calm=true
 hlen:js.length+nl=(cN X js tg).length
 hk:scope.kind=.function
 hcell:∀y∈scope.names,y.2=.cell->scope.names.lookup y.1=some .cell
 hnames:∀y∈scope.names,y.2=.local->scope.names.lookup y.1=some .local
 hfree:∀y∈scope.names,y.2=.free->(X.env.scope.names.lookup y.1=some .cell\/X.env.scope.names.lookup y.1=some .free)
 hs:∀x,foldedSetIterable iter X.env x=pure x
def cf(hcap:cI X.Œ X.env.scope scope (cN X js tg) js:=by repeat' first|exact True.intro|refine⟨rfl,⟨rfl,by first|exact Or.inl rfl|exact Or.inr rfl⟩,?_⟩)(hcalm:X.calm=true:=by rfl)(hlen:js.length+nl=(cN X js tg).length:=by rfl)
 (hk:scope.kind=.function:=by rfl)(hcell:∀y∈scope.names,y.2=.cell->scope.names.lookup y.1=some .cell:=by decide +kernel)(hnames:∀y∈scope.names,y.2=.local->scope.names.lookup y.1=some .local:=by decide +kernel)
 (hfree:∀y∈scope.names,y.2=.free->(X.env.scope.names.lookup y.1=some .cell\/X.env.scope.names.lookup y.1=some .free):=by exact frB (by kernel_rfl))(hs:∀x,foldedSetIterable iter X.env x=pure x:=by intro _;rfl):CF X js nl tg iter scope:=⟨hcap,hcalm,hlen,hk,hcell,hnames,hfree,hs⟩
def Zdv(hi:PI X.Œ tg iter (tG (kk X cm) E (Dz (kk X cm)) mi))(hg:∀{cl C s H fp},PG (bY X.Œ (cN X js tg) scope cl C s H fp) tg (tT (kk X cm) g))(ht:∀{cl C s H fp},Bm (bY X.Œ (cN X js tg) scope cl C s H fp) ifs (tB (kk X cm) EF mt))(he:∀{cl C s H fp},PE (bY X.Œ (cN X js tg) scope cl C s H fp) elt (tV (kk X cm) EF me))(h:CF X js nl tg iter scope:=by exact cf) :
 PE X (.ListComp elt [⟨tg,iter,ifs,0⟩] scope pos) (tO (kk X cm) E (Ń js nl mi g mt me)):=Jz (cN X js tg) js nl X.env.scope rfl h.hcalm hi (λ_ _ _ _ _=>hg) (λ_ _ _ _ _=>ht) (λ_ _ _ _ _=>he) h.hcap h.hlen h.hk h.hcell h.hnames h.hfree h.hs
def oO(hi:PI X.Œ tg iter (tI (kk X cm) E mi))(hg:∀{cl C s H fp},PG (bY X.Œ (cN X js tg) scope cl C s H fp) tg (tT (kk X cm) g))(ht:∀{cl C s H fp},Bm (bY X.Œ (cN X js tg) scope cl C s H fp) ifs (tB (kk X cm) EF mt))(he:∀{cl C s H fp},PE (bY X.Œ (cN X js tg) scope cl C s H fp) elt (tV (kk X cm) EF me))(h:CF X js nl tg iter scope:=by exact cf) :
 PE X (.ListComp elt [⟨tg,iter,ifs,0⟩] scope pos) (tO (kk X cm) E (Ń js nl mi g mt me)):=Zdv (Li hi) hg ht he h
def rJ{N ps:List Str}{sc:Scope}{i:Nat}{y:Str}{py spos:Pos}(S:Ē N ps sc)(hi:PI X.Œ tg iter (tI (kk X cm) E mi))(hg:∀{cl C s H fp},PG (bY X.Œ (cN X js tg) scope cl C s H fp) tg (tT (kk X cm) g))(ht:∀{cl C s H fp},Bm (bY X.Œ (cN X js tg) scope cl C s H fp) ifs (tB (kk X cm) EF mt))(he:∀{cl C s H fp},PE (bY X.Œ (cN X js tg) scope cl C s H fp) elt (tV (kk X cm) EF me))
 (h:CF X js nl tg iter scope:=by exact cf)(hN:X.N=N:=by rfl)(hi0:X.N[i]?=some y:=by rfl)(hy:X.env.scope.names.lookup y=some .local:=by rfl)(hsw:swapsWith (.ListComp elt [⟨tg,iter,ifs,0⟩] scope pos) (some (.Name y py)) spos.line X.env=pure true:=by rfl) :
 PS X (.Assign [.Name y py] (.ListComp elt [⟨tg,iter,ifs,0⟩] scope pos) spos) (tS (kk X cm) E (ġ i (Ń js nl mi g mt me))):=Vo (hN▸S.nd) hi0 hy (cN X js tg) js nl X.env.scope rfl h.hcalm hi (λ_ _ _ _ _=>hg) (λ_ _ _ _ _=>ht) (λ_ _ _ _ _=>he) h.hcap h.hlen h.hk h.hcell h.hnames h.hfree h.hs hsw
end
end P
namespace M5
open PySem PySem.Spec PyProof.Rows L2 M2 M3
def Eo(a v:Value):argsOk "min" ⟨[a],[(Str.ofString "key",v),(Str.ofString "default",.none)]⟩:=by unfold argsOk;kernel_rfl
section
variable{X:Cx}{pins:List (Addr×Obj)}{σ:L2.St}{H:Hp}{s:Shared}
variable{R:Result->Shared->Prop}{f l S It:Addr}{oF:Obj}{xs:List V}(ks:Nat->Int)(W:Nat->Hp->Prop)
def wU(hh:X.A.handled=none)(hl:∀k H,W k H->Ÿ X.K H l xs)(hdF:∀v,oF.data≠ .cell v)(hFS:f≠S)(hFI:f≠It)
 (turn:∀k v,xs[k]?=some v->∀pins H s u,Inv X pins σ H s->W k H->RelV v u->s.heap.get? f=some oF->wpAny (model X.prog X.w) X.A.in1 (call (.ref f) [u]) (EP X pins σ λy H'=>y=.int (ks k)/\W (k+1) H') (λ_ _=>False) s)
 (hR:∀i v u H s,xs[i]?=some v->RelV v u->(∀j,j<xs.length->ks i<=ks j/\(j<i->ks i<ks j))->Inv X pins σ H s->W xs.length H->R (.ok (.ret u)) s) :
 ∀(r j i:Nat) (H:Hp) (s:Shared) (vb:Value) (tb:Tok) (c:Nat) (v:V),xs.length-(j+1)=r->j+1<=xs.length->Inv X pins σ H s->W (j+1) H->
  s.heap.get? S=some (seqObj "list" #[vb,.int (ks i) tb] c)->s.heap.IsListIter It l (j+1)->s.heap.get? f=some oF->(∀b∈[S,It,f],bW X pins H b)->xs[i]?=some v->RelV v vb->i<=j->(∀j',j'<=j->ks i<=ks j'/\(j'<i->ks i<ks j'))->
  codeAny (model X.prog X.w) X.A (.builtin "min.loop" ⟨[.ref It,.ref f,.ref S],[(Str.ofString "default",.none)]⟩) R s:=by
 have hname:(toString "min" ++ toString ".loop" :String)= "min.loop" := by decide
 intro r
 induction r with
 |zero=>
  intro j i H s vb tb c v hr hj I w hS hit hF Vu hv rv hij hbest
  have hin:j+1=xs.length:=by omega
  obtain⟨its,ri,pl,_⟩:=I.list (hl _ _ w)
  have hsz:its.toArray.size=xs.length:=by rw[List.size_toArray,ri.length]
  have W':=Walks.list (prog:=X.prog) (w:=X.w) (A:=X.A.in1) hh It l (yS pl.isList hit) its.toArray
  refine codeAny_builtin PySem.F.entry_min_loop ?_
  rw[Around.under_plainId PySem.F.plain_min_loop _]
  show wpAny _ X.A.in1 (seqItems? (.ref S) >>= _) _ _ _
  refine wpAny_bind (wpAny_seqItems hS rfl ?_)
  show wpAny _ X.A.in1 (tryCatch (pyNext (.ref It)) _ >>= _) _ _ _
  refine wpAny_bind (wpAny_tryCatch (W'.done _ _ _ ⟨by rw[hsz,<-hin];exact hit,pl.isList⟩ λh' tk' hk'=>?_))
  have I1:=Ų (h':=h') (t':=tk') I (Vu It (by simp)) λb o hb e=>hk' b o (by simpa using hb) e
  have hS':=hk' S _ (by simpa using wz hS hit) hS
  have s1:=Heap.SameBut.update h' S (Obj.mapSeq λ_=>(#[]:Array Value))
  show wpAny _ X.A.in1 (updateSeq S (λ_=> #[]) >>= _) _ _ _
  refine wpAny_bind ?_
  refine wpAny_updateSeq hS' rfl (wpAny_bind (wpAny_letGo (wpAny_pure ?_)))
  exact hR i v vb H _ hv rv (λj' hj'=>hbest j' (by omega)) (Ų (t':=tk') I1 (Vu S (by simp)) λb o hb e=>(s1.2 b hb).trans e) (hin▸w)
 |succ r ih=>
  intro j i H s vb tb c v hr hj I w hS hit hF Vu hv rv hij hbest
  have hlt:j+1<xs.length:=by omega
  obtain⟨its,ri,pl,_⟩:=I.list (hl _ _ w)
  have hsz:its.toArray.size=xs.length:=by rw[List.size_toArray,ri.length]
  have W':=Walks.list (prog:=X.prog) (w:=X.w) (A:=X.A.in1) hh It l (yS pl.isList hit) its.toArray
  refine codeAny_builtin PySem.F.entry_min_loop ?_
  rw[Around.under_plainId PySem.F.plain_min_loop _]
  show wpAny _ X.A.in1 (seqItems? (.ref S) >>= _) _ _ _
  refine wpAny_bind (wpAny_seqItems hS rfl ?_)
  show wpAny _ X.A.in1 (tryCatch (pyNext (.ref It)) _ >>= _) _ _ _
  refine wpAny_bind (wpAny_tryCatch (W'.item (j+1) _ _ _ (by rw[hsz];exact hlt) ⟨hit,pl.isList⟩ λu h' tk' hP hst' hk'=>?_))
  have hu:its[j+1]?=some u:=by simpa using hP
  have hx2:xs[j+1]?=some xs[j+1]:=List.getElem?_eq_getElem hlt
  have ru:RelV xs[j+1] u:=by
   obtain⟨u2,h2,r2⟩:=ri.get hx2
   rw[hu] at h2
   cases h2
   exact r2
  obtain⟨oI',hoI',hoc,hod⟩:=id hst'.1
  have I1:=Ų (h':=h') (t':=tk') I (Vu It (by simp)) λb o hb e=>hk' b o (by simpa using hb) e
  have hS1:=hk' S _ (by simpa using wz hS hit) hS
  have Vv:=hk' f _ (by simpa using hFI) hF
  show wpAny _ X.A.in1 (tryCatch (holding [u] (call (.ref f) [u])) _ >>= _) _ _ _
  refine wpAny_bind (wpAny_tryCatch (wpAny_holding (wpAny_mono (pI (fp:=[S,It,f]) I1 Vu (λb hb=>?_) (λgY I'=>turn (j+1) _ hx2 gY H _ u I' w ru Vv) λy u2 H2 s2 I2 ry ⟨ey,w2⟩ Ba Vw=>?_) (λ_ _ z=>z) λ_ _ hF=>hF.elim)))
  ·rcases List.mem_cons.mp hb with rfl|hb
   ·exact⟨_,hS1,λv z=>by cases z⟩
   ·rcases List.mem_cons.mp hb with rfl|hb
    ·exact⟨oI',hoI',λv z=>by rw[hod] at z;cases z⟩
    ·rw[List.mem_singleton.mp hb]
     exact⟨oF,Vv,hdF⟩
  ·subst ey
   obtain⟨t2,rfl⟩:=ry
   have hS2:=Vw S (by simp) _ hS1
   have hI2:=Vw It (by simp) _ hoI'
   have hF2:=Vw f (by simp) _ Vv
   have hit2:s2.heap.IsListIter It l (j+1+1):=⟨oI',hI2,hoc,hod⟩
   show wpAny _ X.A.in1 (tryCatch (holding [u,.int (ks (j+1)) t2] (richCompare .Lt (.int (ks (j+1)) t2) (.int (ks i) tb) >>= _)) _ >>= _) _ _ _
   refine wpAny_bind (wpAny_tryCatch (wpAny_holding (wpAny_bind (CmpOf.ints_lt (prog:=X.prog) (w:=X.w) (A:=X.A.in1) (P:=λi v=>∃t,v=.int (ks i) t) ks (λi v h=>h) (j+1) i _ _ _ _ _ ⟨t2,rfl⟩ ⟨tb,rfl⟩ ?_))))
   refine wpAny_bind (wpAny_holding (wpAny_truthy_bool ?_))
   refine wpAny_bind (wpAny_letGo (wpAny_pure ?_))
   by_cases hb':ks (j+1)<ks i
   ·have s1:=Heap.SameBut.update s2.heap S (Obj.mapSeq λ_=> #[u,.int (ks (j+1)) t2])
    obtain⟨cc,hc2⟩:∃cc,(s2.heap.update S (Obj.mapSeq λ_=> #[u,.int (ks (j+1)) t2])).get? S=some (seqObj "list" #[u,.int (ks (j+1)) t2] cc):=⟨_,get?_update_seq hS2 λ_=> #[u,.int (ks (j+1)) t2]⟩
    simp only[hb',decide_true,if_true]
    refine wpAny_bind ?_
    refine wpAny_updateSeq hS2 rfl (wpAny_bind (wpAny_letGo ?_))
    rw[hname]
    have nIS:=wz hS2 hit2
    refine wpAny_pure ⟨plainId_quiet PySem.F.plain_min_loop _,ih (j+1) (j+1) H2 _ u t2 cc _ (by omega) hlt (Ų (t':=s2.toks) I2 (Ba S (by simp)) λb o hb e=>(s1.2 b hb).trans e) w2 hc2 ⟨oI',(s1.2 It nIS.symm).trans hI2,hoc,hod⟩ ((s1.2 f hFS).trans hF2) Ba hx2 ru (Nat.le_refl _) λj' hj'=>?_⟩
    by_cases e:j'=j+1
    ·subst e
     exact⟨by omega,λ_=>by omega⟩
    ·have hb1:=hbest j' (by omega)
     have hb2:=hb1.1
     exact⟨by omega,λ_=>by omega⟩
   ·simp only[hb',decide_false,Bool.false_eq_true,if_false]
    refine wpAny_bind (wpAny_letGo ?_)
    rw[hname]
    refine wpAny_pure ⟨plainId_quiet PySem.F.plain_min_loop _,ih (j+1) i H2 s2 vb tb c v (by omega) hlt I2 w2 hS2 hit2 hF2 Ba hv rv (by omega) λj' hj'=>?_⟩
    by_cases e:j'=j+1
    ·subst e
     exact⟨by omega,λ_=>by omega⟩
    ·exact hbest j' (by omega)
def wV{Q:Value->Shared->Prop}{E:Value->Shared->Prop}(hh:X.A.handled=none)(hl:∀k H,W k H->Ÿ X.K H l xs)(hdF:∀v,oF.data≠ .cell v)
 (turn:∀k v,xs[k]?=some v->∀pins H s u,Inv X pins σ H s->W k H->RelV v u->s.heap.get? f=some oF->wpAny (model X.prog X.w) X.A.in1 (call (.ref f) [u]) (EP X pins σ λy H'=>y=.int (ks k)/\W (k+1) H') (λ_ _=>False) s)
 (hQ:∀i v u H s,xs[i]?=some v->RelV v u->(∀j,j<xs.length->ks i<=ks j/\(j<i->ks i<ks j))->Inv X pins σ H s->W xs.length H->Q u s)
 (hQ0:∀H s,xs=[]->Inv X pins σ H s->W 0 H->Q .none s)
 (I:Inv X pins σ H s)(w0:W 0 H)(hF:s.heap.get? f=some oF)(hfo:bW X pins H f) :
 wpAny (model X.prog X.w) X.A (call (.builtin "min") [.ref l] [(Str.ofString "key",.ref f),(Str.ofString "default",.none)]) Q E s:=by
 have hname:(toString "min" ++ toString ".loop" :String)= "min.loop" := by decide
 obtain⟨its,ri,pl,_⟩:=I.list (hl _ _ w0)
 have hls:=pl.isList
 obtain⟨ol,hol,_⟩:=id hls
 have hll:l<s.heap.objs.size:=Heap.lt_size hol
 refine kmk_tree PySem.F.kind_min PySem.F.plain_min PySem.F.entry_min (Eo _ _) ?_
 show wpAny _ X.A.in1 (Builtin.Builtins.bindParams "min" ["key","default"] 0 ⟨[],[(Str.ofString "key",.ref f),(Str.ofString "default",.none)]⟩ >>= _) _ _ s
 refine wpAny_bind (wpAny_of_eq (show Builtin.Builtins.bindParams "min" ["key","default"] 0 ⟨[],[(Str.ofString "key",.ref f),(Str.ofString "default",.none)]⟩=pure [some (.ref f),some .none] from rfl) ?_)
 refine wpAny_bind (wpAny_pure ?_)
 refine wpAny_bind (wpAny_pyIter_list hls ?_)
 refine wpAny_bind (wpAny_newList ?_ (Nat.zero_le _))
 rw[hname]
 have hS:(s.heap.push {cls:=.type "list_iterator",data:=.fields #[.ref l,.int 0 0]}).objs.size=s.heap.objs.size+1:=size_push' ..
 generalize hSd:(s.heap.push {cls:=.type "list_iterator",data:=.fields #[.ref l,.int 0 0]}).objs.size=S at hS ⊢
 refine wpAny_pure ⟨plainId_quiet PySem.F.plain_min_loop _,?_⟩
 have k0:∀b o,s.heap.get? b=some o->((s.heap.push {cls:=.type "list_iterator",data:=.fields #[.ref l,.int 0 0]}).push (seqObj "list" #[] 0)).get? b=some o:=λb o e=>Heap.get?_push_of_some _ (Heap.get?_push_of_some _ e)
 have gI:((s.heap.push {cls:=.type "list_iterator",data:=.fields #[.ref l,.int 0 0]}).push (seqObj "list" #[] 0)).get? s.heap.objs.size=some {cls:=.type "list_iterator",data:=.fields #[.ref l,.int 0 0]}:=
  Heap.get?_push_of_some _ (Heap.get?_push_size _ rfl)
 have gS:((s.heap.push {cls:=.type "list_iterator",data:=.fields #[.ref l,.int 0 0]}).push (seqObj "list" #[] 0)).get? S=some (seqObj "list" #[] 0):=by rw[<-hSd];exact Heap.get?_push_size _ rfl
 have I0:Inv X pins σ H {s with heap:=(s.heap.push {cls:=.type "list_iterator",data:=.fields #[.ref l,.int 0 0]}).push (seqObj "list" #[] 0)}:=I.kept (t':=s.toks) k0
 have fI:bW X pins H s.heap.objs.size:=I.oH (Nat.le_refl _) (I.hok.fresh (Nat.le_refl _))
 have fS:bW X pins H S:=I.oH (by omega) (I.hok.fresh (by omega))
 have hlf:f<s.heap.objs.size:=Heap.lt_size hF
 have hFI:f≠s.heap.objs.size:=Nat.ne_of_lt hlf
 have hFS:f≠S:=Nat.ne_of_lt (by rw[hS];exact Nat.lt_succ_of_lt hlf)
 have hSI:S≠s.heap.objs.size:=by omega
 have Vu:∀b∈[S,s.heap.objs.size,f],bW X pins H b:=λb hb=>by
  rcases List.mem_cons.mp hb with rfl|hb
  ·exact fS
  ·rcases List.mem_cons.mp hb with rfl|hb
   ·exact fI
   ·rw[List.mem_singleton.mp hb];exact hfo
 obtain⟨Vx,ri0,pl0,_⟩:=I0.list (hl _ _ w0)
 have hsz:Vx.toArray.size=xs.length:=by rw[List.size_toArray,ri0.length]
 have W':=Walks.list (prog:=X.prog) (w:=X.w) (A:=X.A.in1) hh s.heap.objs.size l (Nat.ne_of_lt hll) Vx.toArray
 refine codeAny_builtin PySem.F.entry_min_loop ?_
 rw[Around.under_plainId PySem.F.plain_min_loop _]
 show wpAny _ X.A.in1 (seqItems? (.ref _) >>= _) _ _ _
 refine wpAny_bind (wpAny_seqItems gS rfl ?_)
 show wpAny _ X.A.in1 (tryCatch (pyNext (.ref s.heap.objs.size)) _ >>= _) _ _ _
 by_cases hne:0<xs.length
 case neg=>
  have hxe:xs=[]:=List.length_eq_zero_iff.mp (by omega)
  refine wpAny_bind (wpAny_tryCatch (W'.done _ _ _ ⟨by rw[hsz,hxe];exact⟨_,gI,rfl,rfl⟩,pl0.isList⟩ λh' tk' hk'=>?_))
  have I1:=Ų (h':=h') (t':=tk') I0 fI λb o hb e=>hk' b o (by simpa using hb) e
  exact wpAny_bind (wpAny_rule (wpAny_pure (hQ0 _ _ hxe I1 w0)))
 refine wpAny_bind (wpAny_tryCatch (W'.item 0 _ _ _ (by rw[hsz];exact hne) ⟨⟨_,gI,rfl,rfl⟩,pl0.isList⟩ λu h' tk' hP hst' hk'=>?_))
 have hu:Vx[0]?=some u:=by simpa using hP
 have hx0:xs[0]?=some xs[0]:=List.getElem?_eq_getElem hne
 have ru:RelV xs[0] u:=by
  obtain⟨u2,h2,r2⟩:=ri0.get hx0
  rw[hu] at h2
  cases h2
  exact r2
 obtain⟨oI',hoI',hoc,hod⟩:=id hst'.1
 have I1:=Ų (h':=h') (t':=tk') I0 fI λb o hb e=>hk' b o (by simpa using hb) e
 have hS1:=hk' S _ (by simpa using hSI) gS
 have Vv:=hk' f _ (by simpa using hFI) (k0 _ _ hF)
 show wpAny _ X.A.in1 (tryCatch (holding [u] (call (.ref f) [u])) _ >>= _) _ _ _
 refine wpAny_bind (wpAny_tryCatch (wpAny_holding (wpAny_mono (pI (fp:=[S,s.heap.objs.size,f]) I1 Vu (λb hb=>?_) (λgY I'=>turn 0 _ hx0 gY H _ u I' w0 ru Vv) λy u2 H2 s2 I2 ry ⟨ey,w2⟩ Ba Vw=>?_) (λ_ _ z=>z) λ_ _ hF=>hF.elim)))
 ·rcases List.mem_cons.mp hb with rfl|hb
  ·exact⟨_,hS1,λv z=>by cases z⟩
  ·rcases List.mem_cons.mp hb with rfl|hb
   ·exact⟨oI',hoI',λv z=>by rw[hod] at z;cases z⟩
   ·rw[List.mem_singleton.mp hb]
    exact⟨oF,Vv,hdF⟩
 ·subst ey
  obtain⟨t2,rfl⟩:=ry
  have hS2:=Vw S (by simp) _ hS1
  have hI2:=Vw s.heap.objs.size (by simp) _ hoI'
  have hF2:=Vw f (by simp) _ Vv
  have s1:=Heap.SameBut.update s2.heap S (Obj.mapSeq λ_=> #[u,.int (ks 0) t2])
  obtain⟨cc,hc2⟩:∃cc,(s2.heap.update S (Obj.mapSeq λ_=> #[u,.int (ks 0) t2])).get? S=some (seqObj "list" #[u,.int (ks 0) t2] cc):=⟨_,get?_update_seq hS2 λ_=> #[u,.int (ks 0) t2]⟩
  show wpAny _ X.A.in1 (updateSeq S (λ_=> #[u,.int (ks 0) t2]) >>= _) _ _ _
  refine wpAny_bind ?_
  refine wpAny_updateSeq hS2 rfl ?_
  rw[hname]
  refine wpAny_pure ⟨plainId_quiet PySem.F.plain_min_loop _,wU ks W hh hl hdF hFS hFI turn (λi v u' H' s' a1 a2 a3 a4 a5=>hQ i v u' H' s' a1 a2 a3 a4 a5) _ 0 0 H2 _ u t2 cc _ rfl hne (Ų (t':=s2.toks) I2 (Ba S (by simp)) λb o hb e=>(s1.2 b hb).trans e) w2 hc2 ⟨oI',(s1.2 _ hSI.symm).trans hI2,hoc,hod⟩ ((s1.2 f hFS).trans hF2) Ba hx0 ru (Nat.le_refl _) λj' hj'=>?_⟩
  have e:j'=0:=by omega
  subst e
  exact⟨by omega,λh=>absurd h (Nat.lt_irrefl _)⟩
end
def Vy(K:PySem.W.Frag)(ta:TA)(js:List Nat)(te:TE):TE:=λσ H Q=>ta σ H λvs H1=>∃l xs,vs=[.ref l]/\Ÿ K H1 l xs/\∀c q H2,Same H1 H2->H2 c=some (.zY q)->(∀a,H1 a=none->H2 a=none\/a=c)->
 ∃(ks:Nat->Int) (W:Nat->Hp->Prop),W 0 H2/\(∀k H,W k H->Same H2 H)/\(∀k v H,xs[k]?=some v->W k H->te (cL js σ v) H λy H'=>y=.int (ks k)/\W (k+1) H')/\
  (∀i v H,xs[i]?=some v->(∀j,j<xs.length->ks i<=ks j/\(j<i->ks i<ks j))->W xs.length H->Q v H)/\(xs=[]->∀H,W 0 H->Q .non H)
section
variable{X:Cx}{x px:Str}{c P:Addr}{params:Arguments}{body e:Expr}{scope:Scope}{p pos Av kpos dpos Ep:Pos}{dj:Nat}{ta:TA}{te:TE}
def Er(N0:List Str)(js:List Nat)(sc:Scope)(hsc:X.env.scope=sc)(hcalm:X.calm=true)(Uw:X.A.depth<recursionLimit)(hx:x∈lams)(ht:PySem.W.tabIn X.K x=some (c,P))(hcode:X.env.code=.ref c)(hq:X.env.qual=x ++ ".<locals>.")
 (hg:Gl X "min")(hm:X.mg "min" =none)(ha:PA X [e] ta)(he:∀cl f c' s H,PE (Bo X (N0 ++ [px]) (bx x) scope cl f c' X.A.in1 s H) body te)(hcap:cI X sc scope N0 js)(hlen:js.length=N0.length:=by rfl)
 (hbind:∀(cl:List (Str×Addr)) (pm ctv:Value) (c':Addr) (u:Value),bindArgs (PySem.W.kla_fn "<lambda>" (bx x) params body scope cl pm (.ref c') ctv) ⟨[u],[]⟩=pure [(px,u)]:=by intros;rfl)
 (hk:scope.kind=.function:=by rfl)(hcell:∀y∈scope.names,y.2≠ .cell:=by decide +kernel)(hpx:scope.names.lookup px=some .local:=by rfl)(hco:scope.isCoroutine=false:=by rfl)(hgen:scope.isGenerator=false:=by rfl)
 (hfree:∀y∈scope.names,y.2=.free->(sc.names.lookup y.1=some .cell\/sc.names.lookup y.1=some .free):=by decide +kernel)(hdef:defaultsOf params X.env=([],[]):=by rfl)
 (hst:starEach [e] X.env=[(false,eval e X.env)]:=by rfl)(hpl:(backTo pos (starEach [e] X.env)).any (·.1)=false:=by rfl) :
 PE X (.Call (.Name "min" p) [e] [⟨some "key",.Lambda params body scope Av,kpos⟩,⟨some "default",.Constant .none dj dpos,Ep⟩] pos) (Vy X.K ta js te):=by
 intro pins s σ H Q I h
 obtain⟨cl,c1,c2,c3⟩:=dw (scope:=scope) (env:=X.env) λy hy hf=>I.ok.has y.1 (by
  have:=hfree y hy hf
  rw[<-hsc] at this
  exact this)
 have hh:=I.ok.hd hcalm
 refine wpAny_Call_Name_kw (fG I hg hm (show bootBuiltins "min" =some (.builtin "min") by kernel_rfl) ?_ (by decide) (by decide))
 refine callWith_kw (ŏ (ha pos pins s σ H _ I h) λus s1 ⟨vs,H1,I1,r1,q1⟩=>?_) (by rw[hst];rfl) hpl rfl rfl
 obtain⟨l,xs,rfl,hs1,q1⟩:=q1
 have eus:us=[.ref l]:=by
  cases r1 with
  |cons a b=>
   cases b
   exact congrArg (λz=>[z]) (show _=Value.ref l from a)
 subst eus
 show wpAny _ _ (evalAll ((do let v <-eval (.Lambda params body scope Av) X.env;standAt pos;pure v)::(do let v <-eval (.Constant .none dj dpos) X.env;standAt pos;pure v)::[])) _ _ s1
 refine wpAny_evalAll_cons (wpAny_bind (Dc I1 hx ht hcode hq hdef c1 λf c' pm ctv H2 s2 I2 nw sm hc hf fo=>wpAny_bind (wpAny_standAt (wpAny_pure ?_))))
 refine wpAny_evalAll_cons (wpAny_bind ?_)
 refine Constant_none ?_
 refine wpAny_bind (wpAny_standAt (wpAny_pure ?_))
 refine wpAny_evalAll_nil ?_
 obtain⟨ks,W,w0,wm,wt,wq,wq0⟩:=q1 c' _ H2 sm hc nw
 refine wV (xs:=xs) ks W hh (λk H w=>(wm k H w).seq (sm.seq hs1)) (λv z=>by cases z) (λk v hv gY H' s' u I' w ru hf'=>?_) (λi v u H' s' hv ru hb I' w=>⟨v,H',I',ru,wq i v H' hv hb w⟩) (λH' s' hx I' w=>⟨.non,H',I',rfl,wq0 hx H' w⟩) I2 w0 hf fo
 exact Dd (A:=X.A.in1) (te:=te) (N0:=N0) (js:=js) hsc hk hcap hlen hcell hpx hco hgen I.ok.frames hh Uw c2 c3 (hbind cl pm ctv c') (λs H=>he cl f c' s H) I' hf' (wm k H' w c' _ hc) ru (wt k v H' hv w)
end
end M5
namespace P
open PySem PySem.Spec PyProof.Rows L2 M2 M3 M5
def fZ:List PV->List Int->Option PV
 | [],_=>some .non
 |p::ps,ks=>rD (p::ps) ks
def Es{items:List PV}{ks:List Int}{b:PV}(h:0<items.length)(e:fZ items ks=some b):rD items ks=some b:=by
 cases items with
 |nil=>simp at h
 |cons p ps=>exact e
def wW(js:List Nat)(me:M PV)(mr:M (List PV)):M PV:=λρ=>(mr ρ).bind λps ρ1=>match ps with
 | [.lst items]=>match uN js me ρ1 items with
   |some ks=>Res.lW (fZ items ks) ρ1
   |none=>.bad
 |_=>.bad
@[simp] theorem ZaD{js:List Nat}{me:M PV}{mr:M (List PV)}{ρ:ľ}:wW js me mr ρ=(mr ρ).bind fun ps ρ1=>match ps with
  | [.lst items]=>match uN js me ρ1 items with
    |some ks=>Res.lW (fZ items ks) ρ1
    |none=>.bad
  |_=>.bad:=rfl
section
variable{X:Cx}{cm:String->Addr}{E:L2.St->XK}{x px:Str}{c Pt:Addr}{params:Arguments}{body e:Expr}{scope:Scope}{p pos Av kpos dpos Ep:Pos}{dj:Nat}{mr:M (List PV)}{me:M PV}
def JX{k:Nat}(N0:List Str)(js:List Nat)(sc:Scope)(hr:Ś (k+2) X.A)(hsc:X.env.scope=sc)(hcalm:X.calm=true)(hx:x∈lams)(ht:PySem.W.tabIn X.K x=some (c,Pt))(hcode:X.env.code=.ref c)(hq:X.env.qual=x ++ ".<locals>.")
 (hg:Gl X "min")(hm:X.mg "min" =none)(ha:PA X [e] (Jr (kk X cm) E mr))(he:∀cl f c' s H,Ś k (Bo X (N0 ++ [px]) (bx x) scope cl f c' X.A.in1 s H).A->(Bo X (N0 ++ [px]) (bx x) scope cl f c' X.A.in1 s H).A.units+64<cLine->PE (Bo X (N0 ++ [px]) (bx x) scope cl f c' X.A.in1 s H) body (tV (kk X cm) EF me))(hcap:cI X sc scope N0 js)(hlen:js.length=N0.length:=by rfl)
 (hbind:∀(cl:List (Str×Addr)) (pm ctv:Value) (c':Addr) (u:Value),bindArgs (PySem.W.kla_fn "<lambda>" (bx x) params body scope cl pm (.ref c') ctv) ⟨[u],[]⟩=pure [(px,u)]:=by intros;rfl)
 (hk:scope.kind=.function:=by rfl)(hcell:∀y∈scope.names,y.2≠ .cell:=by decide +kernel)(hpx:scope.names.lookup px=some .local:=by rfl)(hco:scope.isCoroutine=false:=by rfl)(hgen:scope.isGenerator=false:=by rfl)
 (hfree:∀y∈scope.names,y.2=.free->(sc.names.lookup y.1=some .cell\/sc.names.lookup y.1=some .free):=by decide +kernel)(hdef:defaultsOf params X.env=([],[]):=by rfl)
 (hst:starEach [e] X.env=[(false,eval e X.env)]:=by exact ſ rfl)(hpl:(backTo pos (starEach [e] X.env)).any (·.1)=false:=by rfl) :
 PE X (.Call (.Name "min" p) [e] [⟨some "key",.Lambda params body scope Av,kpos⟩,⟨some "default",.Constant .none dj dpos,Ep⟩] pos) (tV (kk X cm) E (wW js me mr)):=λpins s σ H Q I h=>
 Er N0 js sc hsc hcalm hr.depth hx ht hcode hq hg hm ha (λcl f c' s H=>he cl f c' s H (hr.in1.deeper _) (hr.in1.deeper _).units) hcap hlen hbind hk hcell hpx hco hgen hfree hdef hst hpl pins s σ H Q I (by
  obtain⟨cc,F,ρ,rel,h⟩:=h
  refine⟨cc,F,ρ,rel,h.bind λps ρ1 vs F1 H1 ĕ s1 s2 q h1=>?_⟩
  split at h1
  rotate_left
  ·exact h1.elim
  rename_i items
  split at h1
  rotate_left
  ·exact h1.elim
  rename_i kl hk'
  obtain⟨kl1,kl2⟩:=pU hk'
  cases hb:fZ items kl with
  |none=>rw[hb] at h1;exact h1.elim
  |some b=>
   rw[hb] at h1
   have q':Paired (rR (kk X cm) cc σ ρ1 F1 H1) [.lst items] vs:=q
   obtain⟨l,xs,rfl,hs,hr⟩:∃l xs,vs=[.ref l]/\Ÿ X.K H1 l xs/\ę (kk X cm) F1 items xs:=by
    cases q' with
    |cons a b=>
     cases b
     rcases a with a|a
     ·unfold Rep at a
      obtain⟨l,xs,rfl,e1,e2⟩:=a
      exact⟨l,xs,rfl,ĕ.sub.seq e1,e2⟩
     ·obtain⟨l,xs,rfl,e1,e2⟩:=a
      exact⟨l,xs,rfl,Ÿ.of e1,e2⟩
   have len:items.length=xs.length:=hr.length
   refine⟨l,xs,rfl,hs,λc q H2 sm hc nw=>⟨λk=>kl.getD k 0,λ_ H=>∃F',Gr F1 H2 F' H,⟨F1,Gr.refl (ĕ.sub.trans sm)⟩,λk H ⟨F',g⟩=>g.h,λk v H hv ⟨F',g⟩=>?_,λi v H hv hbest ⟨F',g⟩=>?_,λhx H ⟨F',g⟩=>?_⟩⟩
   ·have ķ:Rel (kk X cm) cc F1 H2 σ ρ1:=ĕ.call ⟨sm,Same.refl _,ĕ.sub.trans sm,λ_ _ z=>z⟩
    have hki:k<items.length:=by rw[len];exact(List.getElem?_eq_some_iff.mp hv).1
    obtain⟨ρ',hme⟩:=kl2 k items[k] (List.getElem?_eq_getElem hki)
    obtain⟨v',hv',rv⟩:=bA hr.pr (List.getElem?_eq_getElem hki)
    rw[hv] at hv'
    cases hv'
    refine⟨ctx0 F' H,F',lamP js ρ1 items[k],(ķ.call g).lam js (Rep.same g.f _ _ rv),?_⟩
    rw[hme]
    intro y F2 H3 qP _ _ ry
    have ry':Rep (kk X cm) F2 (.int (kl.getD k 0)) y:=ry
    unfold Rep at ry'
    exact⟨ry',F2,g.trans qP.gr⟩
   ·have ķ:Rel (kk X cm) cc F1 H2 σ ρ1:=ĕ.call ⟨sm,Same.refl _,ĕ.sub.trans sm,λ_ _ z=>z⟩
    have hii:i<items.length:=by rw[len];exact(List.getElem?_eq_some_iff.mp hv).1
    obtain⟨v',hv',rv⟩:=bA hr.pr (List.getElem?_eq_getElem hii)
    rw[hv] at hv'
    cases hv'
    have eb:=rE kl1 (Es (by omega) hb) (List.getElem?_eq_getElem hii) (λj hj=>hbest j (by rw[<-len];exact hj))
    subst eb
    exact h1 v F' H (ķ.call g) g.f (sm.trans g.h) (Rep.same g.f _ _ rv)
   ·have ķ:Rel (kk X cm) cc F1 H2 σ ρ1:=ĕ.call ⟨sm,Same.refl _,ĕ.sub.trans sm,λ_ _ z=>z⟩
    have hi0:items=[]:=List.length_eq_zero_iff.mp (by rw[len,hx];rfl)
    subst hi0
    cases(show some PV.non=some b from hb)
    exact h1 .non F' H (ķ.call g) g.f (sm.trans g.h) (show Rep (kk X cm) F' .non .non by unfold Rep;rfl))
end
end P
namespace PySem
namespace F
def Et:typeLookup (.type "list_reverseiterator") "__len__" =pure none:=by rw[typeLookup_type,builtinLookup_eq_fast];kernel_rfl
def JZ:typeLookup (.type "list_reverseiterator") "__length_hint__" =pure (some (.builtin "list_reverseiterator.__length_hint__")):=by rw[typeLookup_type,builtinLookup_eq_fast];kernel_rfl
end F
section
variable{prog:Program}{w:World}{A:Around}{E:Value->Shared->Prop}{s:Shared}
def oR{Q:Value->Shared->Prop}{I l:Addr}{items:Array Value}(hh:A.handled=none)(hit:s.heap.IsRevIter I l ((items.size:Int)-1))(hl:s.heap.IsList l items)(hne:l≠I)(hn:items.size<=sizeLine)
 (hQ:∀h' tk acc' c',(∀b o,b≠I→s.heap.get? b=some o→h'.get? b=some o)→
   h'.get? s.heap.objs.size=some {cls:=.type "list",dict:=none,data:=.seq acc' c',slots:=#[]}->ItemsOf (λi v=>items[items.size-1-i]?=some v) acc' items.size->Q (.ref s.heap.objs.size) {s with heap:=h',toks:=tk}) :
 wpAny (model prog w) A (call (.type "list") [.ref I]) Q E s:=by
 refine callType_codes (Q₁:= λobj s₁=>obj=.ref s.heap.objs.size/\s₁= {s with heap:=s.heap.push {cls:=.type "list",data:=.seq #[]}}) F.called_list (F.typeCall_list_1 _) F.entry_list_init
  (code_list_new _ ⟨rfl,rfl⟩) λobj s₁ h₁=>?_
 obtain⟨rfl,rfl⟩:=h₁
 generalize hSd:s.heap.objs.size=S at hQ ⊢
 have hS:(s.heap.push {cls:=.type "list",data:=.seq #[]}).get? S=some {cls:=.type "list",data:=.seq #[]}:=by rw[<-hSd];exact Heap.get?_push_size _ rfl
 have hIlt:I<S:=by obtain⟨_,e,_⟩:=hit;rw[<-hSd];exact Heap.lt_size e
 have Zdw:l<S:=by obtain⟨_,e,_⟩:=hl;rw[<-hSd];exact Heap.lt_size e
 refine⟨⟨_,hS,rfl⟩,F.args_list_init_2 _ _,?_⟩
 show wpAny _ _ (do let old <-Builtin.List.listItems (.ref S);Builtin.List.listUpdate (.ref S) (λ_=> #[]);letGo old.toList.reverse;Builtin.List.listExtendWith (.ref S) (.ref I) .none) _ _ _
 refine wpAny_bind ?_
 unfold Builtin.List.listItems
 refine wpAny_bind (wpAny_seqItems hS rfl (wpAny_pure ?_))
 show wpAny _ _ (updateSeq S (λ_=> #[]) >>= λ_=>letGo (#[]:Array Value).toList.reverse >>= λ_=>Builtin.List.listExtendWith (.ref S) (.ref I) .none) _ _ _
 refine wpAny_bind (wpAny_updateSeq hS rfl ?_)
 have hS₂:= Heap.get?_update_self (Obj.mapSeq (λ_=>(#[]:Array Value))) hS rfl
 have oth:∀b o,s.heap.get? b=some o->((s.heap.push {cls:=.type "list",data:=.seq #[]}).update S (Obj.mapSeq (λ_=>(#[]:Array Value)))).get? b=some o:=
  λb o e=>(Heap.get?_update_other _ _ (by rw[<-hSd];exact(Nat.ne_of_lt (Heap.lt_size e)).symm)).trans (Heap.get?_push_of_some _ e)
 refine wpAny_bind (wpAny_letGo ?_)
 have W:=(Walks.listRev (prog:=prog) (w:=w) (A:=A.in1.in1) hh I l hne items).toS
 have e0:(items.size:Int)-1-((0:Nat):Int)=(items.size:Int)-1:=by omega
 have hit₁:= hit.at λo e=>oth I o e
 have hl₁:= hl.at λo e=>oth l o e
 have h1:Builtin.List.listSameRef (.ref S) (.ref I)=false:=by simp[Builtin.List.listSameRef,(Nat.ne_of_lt hIlt).symm]
 unfold Builtin.List.listExtendWith
 refine wpAny_bind (wpAny_typeOf (T:= "list_reverseiterator") hit₁.typeIs ?_)
 rw[if_neg (by rw[h1];decide)]
 refine wpAny_bind (wpAny_pyIter_revIter hit₁ ?_)
 refine wpAny_bind (wpAny_holding ?_)
 unfold Builtin.List.listLengthHint
 refine wpAny_bind (wpAny_specialOf hit₁.typeIs F.Et ?_)
 show wpAny _ _ (specialOf (Value.ref I) (Str.ofString "__length_hint__") >>= _) _ _ _
 refine wpAny_bind (wpAny_specialOf hit₁.typeIs F.JZ ?_)
 (generalize hid:("list_reverseiterator.__length_hint__" :String)=id0;(fail_if_success (clear hid id0));wp_delta;rw[show splitId id0=some ("list_reverseiterator","__length_hint__") from by subst hid;decide +kernel];subst hid)
 refine wpAny_bind (wpAny_isInstance (T:= "list_reverseiterator") (b:=true) hit₁.typeIs (by rw[isSubtype_type];kernel_rfl) ?_)
 refine wpAny_pure ?_
 rw[if_neg (by decide)]
 refine wpAny_pure ⟨plainId_quiet F.plain_extend_loop _,codeAny_extend_loopS W hn S (by simp[(Nat.ne_of_lt hIlt).symm,(Nat.ne_of_lt Zdw).symm]) .none items.size 0 _ #[] _ rfl (Nat.zero_le _) ⟨Nat.zero_le _,by rw[e0];exact hit₁,hl₁⟩ hS₂ (ItemsOf.nil _) λs' acc' c' hm hS' hacc=>?_⟩
 rw[Moved.eq_with hm]
 refine⟨rfl,hQ s'.heap s'.toks acc' c' (λb o hb e=>hm.heap b o (λhmem=>?_) (oth b o e)) hS' hacc⟩
 rcases List.mem_cons.mp hmem with e'|hmem
 ·exact absurd (e'.trans hSd.symm) (Nat.ne_of_lt (Heap.lt_size e))
 ·exact hb (by simpa using hmem)
end
end PySem
namespace P
open PySem PySem.Spec PyProof.Rows L2 M2 M3 M4
def Itv(K:PySem.W.Frag)(a:Addr)(n:Nat):It:=
 ⟨λi H=>∃xs x,Ÿ K H a xs/\xs.length=n/\i<n/\xs[n-1-i]?=some x,λi H x H'=>H'=H/\∀xs,Ÿ K H a xs->xs[n-1-i]?=some x,λi H=>i=n/\∃xs,Ÿ K H a xs⟩
def Eu{P:Program}{w:World}{K:PySem.W.Frag}{tg:Expr}(a it:Addr)(n:Nat):Turn P w K tg (Itv K a n) [it] it (λi h=>h.IsRevIter it a ((n:Int)-1-(i:Int))) where
 mem:=by simp
 obj:=λi h st b hb=>by
  have e:b=it:=by simpa using hb
  subst e
  obtain⟨o,e,c,d⟩:=st
  exact⟨o,e,λv z=>by rw[d] at z;cases z⟩
 keep:=λi h h' st k=>st.at λo e=>k it (by simp) o e
 item:=by
  intro X hP hw hK hc i pins s σ H E I hf st hg
  subst hP hw hK
  obtain⟨xs,x,hq,hn,hi,hx⟩:=hg
  obtain⟨its,rv,p,hz⟩:=I.list hq
  obtain⟨u,hu,ru⟩:=rv.get hx
  obtain⟨f0,f1,f2,f3,f4,f5⟩:=hf it (by simp)
  have e1:(n:Int)-1-(i:Int)=((n-1-i:Nat):Int):=by omega
  have st0:=st
  rw[e1] at st0
  refine wpAny_pyNext_rev_item st0 p.isList (x:=u) (by simpa using hu) λh' st' sb=>?_
  have e2:((n-1-i:Nat):Int)-1=(n:Int)-1-((i+1:Nat):Int):=by omega
  rw[e2] at st'
  have I1:Inv X pins σ H {s with heap:=h'}:=I.turned (t':=s.toks) (λb o hb e=>(sb.2 b hb).trans e) f0 f1 f3 f4 f5
  obtain⟨o,e,c,d⟩:=id st'
  exact⟨u,rfl,o_ (s:={s with heap:=h'}) e c d (by decide) ⟨x,H,I1,ru,⟨rfl,λys hy=>by rw[I.tQ hy hq];exact hx⟩,st',λb hb=>(hf b hb).1⟩⟩
 done:=by
  intro X hP hw hK hc i pins s σ H E I hf st hg
  subst hP hw hK
  obtain⟨hi,xs,hq⟩:=hg
  obtain⟨f0,f1,f2,f3,f4,f5⟩:=hf it (by simp)
  have e1:(n:Int)-1-(i:Int)= -1:=by omega
  have st0:=st
  rw[e1] at st0
  exact wpAny_pyNext_rev_end (I.ok.hd hc) st0 λh' eb=>⟨rfl,I.turned (t':=s.toks) (λb o hb e=>eb b o hb e) f0 f1 f3 f4 f5⟩
 self:=λ_ _ _ _ _ st h=>wpAny_pyIter_revIter st h
section
variable{X:Cx}{cm:String->Addr}{E:L2.St->XK}{tg e l:Expr}{p pos p1 pos1:Pos}{mi:M (List PV)}
def Zdx(K:PySem.W.Frag)(ta:TA):TI:=λσ H R=>ta σ H λvs H1=>∃a xs,vs=[.ref a]/\Ÿ K H1 a xs/\R (Itv K a xs.length) H1
def Vz{ta:TA}(hg:Gl X "reversed")(hm:X.mg "reversed" =none)(ha:PA X [l] ta)(hs:starEach [l] X.env=[(false,eval l X.env)]:=by exact ſ rfl):PI X tg (.Call (.Name "reversed" p) [l] [] pos) (Zdx X.K ta):=by
 intro pins s σ H R I h
 refine Call_ (fG I hg hm boot_reversed (PyProof.Rows.callWith_type1 (ŏ (ha pos pins s σ H _ I h) λus s1 ⟨vs,H1,I1,r1,q1⟩=>?_) hs rfl))
 obtain⟨a,xs,e,hq,q⟩:=q1
 subst e
 obtain⟨u,rfl,ru⟩:=r1.one
 cases ru
 obtain⟨its,rv,pl,hz⟩:=I1.list hq
 have hlen:its.toArray.size=xs.length:=by rw[List.size_toArray,<-rv.length]
 refine call_reversed_list pl.isList ?_
 have I2:Inv X pins σ H1 {s1 with heap:=s1.heap.push (revObj a ((its.toArray.size:Int)-1))}:=I1.kept (t':=s1.toks) λb o e=>Heap.get?_push_of_some _ e
 have st:(s1.heap.push (revObj a ((its.toArray.size:Int)-1))).IsRevIter s1.heap.objs.size a ((xs.length:Int)-1-((0:Nat):Int)):=⟨_,Heap.get?_push_size _ rfl,rfl,by rw[hlen];simp[revObj]⟩
 refine wpAny_pyIter_revIter (s:={s1 with heap:=s1.heap.push (revObj a ((its.toArray.size:Int)-1))}) st ⟨s1.heap.objs.size,[s1.heap.objs.size],_,_,H1,rfl,I2,Eu a _ xs.length,st,λb hb=>?_,q⟩
 have e:b=s1.heap.objs.size:=by simpa using hb
 subst e
 exact I1.oH (Nat.le_refl _) (I1.hok.fresh (Nat.le_refl _))
def zF(m:M (List PV)):M (List PV):=λρ=>(m ρ).bind λps ρ1=>.ok ps.reverse ρ1
@[simp] theorem ZbU{m:M (List PV)}{ρ:ľ}:zF m ρ=(m ρ).bind λps ρ1=>.ok ps.reverse ρ1:=rfl
def Ew{K:KK}{L F H:Hp}{a:Addr}{ps:List PV}{xs:List V}(hn:ps.length=xs.length)(hq:∀(c:Ctx) (F2 H2:Hp) (σ:L2.St) (ρ:ľ),Rel K c F2 H2 σ ρ->Same F F2->Same L H2->Ÿ K.K H2 a xs/\ę K F2 ps xs):Du K L F (Itv K.K a xs.length) ps.reverse:=by
 intro c i F2 H2 σ ρ rel sF sL
 obtain⟨h1,h2⟩:=hq c F2 H2 σ ρ rel sF sL
 refine⟨λp hp=>?_,λhi=>⟨by rw[hi,List.length_reverse,hn],xs,h1⟩⟩
 have hi:i<ps.length:=by have:=(List.getElem?_eq_some_iff.mp hp).1;simpa using this
 rw[List.getElem?_reverse hi] at hp
 obtain⟨u,hu,ru⟩:=bA h2.pr hp
 rw[hn] at hu
 refine⟨⟨xs,u,h1,rfl,by omega,hu⟩,λx H' ⟨hH,hx⟩=>?_⟩
 subst hH
 have:=hx xs h1
 rw[hu] at this
 cases this
 exact⟨F2,rel,Same.refl _,Same.refl _,ru⟩
def ZaE{m:M PV}(hg:Gl X "reversed")(hm:X.mg "reversed" =none)(hl:PE X l (tV (kk X cm) E m))(hs:starEach [l] X.env=[(false,eval l X.env)]:=by exact ſ rfl):PI X tg (.Call (.Name "reversed" p) [l] [] pos) (tI (kk X cm) E (zF (mLs m))):=
 λpins s σ H R I h=>Vz hg hm (gK hl mz hs) hs pins s σ H R I (by
  obtain⟨c,F,ρ,rel,h⟩:=h
  unfold zF mLs at h
  rw[Res.Az] at h
  refine⟨c,F,ρ,rel,h.bind λq ρ1 v F1 H1 ĕ s1 s2 r1 h1=>?_⟩
  cases q with
  |lst ps=>
   have r1':Rep (kk X cm) F1 (.lst ps) v:=r1
   unfold Rep at r1'
   obtain⟨a,xs,rfl,e1,e2⟩:=r1'
   exact⟨a,xs,rfl,ĕ.sub.seq e1,h1 _ F1 H1 ĕ (Same.refl _) (Same.refl _) (Ew (H:=H1) e2.length λc' F2 H2 σ2 ρ2 ķ sF _=>⟨(sF.trans ķ.sub).seq e1,ę.same sF _ _ e2⟩)⟩
  |_=>exact h1.elim)
def Ey(m:M PV):M RV:=λρ=>(m ρ).bind λp ρ1=>match p with
 | .lst ps=>.ok (.ow ps.reverse) ρ1
 |_=>.bad
@[simp] theorem ZbV{m:M PV}{ρ:ľ}:Ey m ρ=(m ρ).bind fun p ρ1=>match p with
  | .lst ps=>.ok (.ow ps.reverse) ρ1
  |_=>.bad:=rfl
theorem uO:∀{xs:List V} {us:List Value},Vals xs us->Vals xs.reverse us.reverse
 |_,_,.nil=>.nil
 |_,_,.cons r t=>by
  rw[List.reverse_cons,List.reverse_cons]
  exact(uO t).append (.cons r .nil)
def ZaF(K:PySem.W.Frag)(ta:TA):TE:=λσ H Q=>ta σ H λvs H1=>∃a xs,vs=[.ref a]/\Ÿ K H1 a xs/\∀l,H1 l=none->Q (.ref l) (upd H1 l (.lst xs.reverse))
def J_{ta:TA}(hc:X.calm=true)(hg1:Gl X "list")(hm1:X.mg "list" =none)(hg:Gl X "reversed")(hm:X.mg "reversed" =none)(ha:PA X [l] ta)(hs:starEach [l] X.env=[(false,eval l X.env)]) :
 PE X (.Call (.Name "list" p1) [.Call (.Name "reversed" p) [l] [] pos] [] pos1) (ZaF X.K ta):=by
 intro pins s σ H Q I h
 refine Call_ (fG I hg1 hm1 PySem.Pv.boot_list (PyProof.Rows.callWith_type1 ?_ rfl rfl))
 refine Calls.spliced_cons ?_
 refine Call_ (fG I hg hm boot_reversed (PyProof.Rows.callWith_type1 (ŏ (ha pos pins s σ H _ I h) λus s1 ⟨vs,H1,I1,r1,q1⟩=>?_) hs rfl))
 obtain⟨a,xs,e,hq,q⟩:=q1
 subst e
 obtain⟨u,rfl,ru⟩:=r1.one
 cases ru
 obtain⟨its,rv,pl,hz⟩:=I1.list hq
 obtain⟨oa,hoa,_⟩:=id pl.isList
 refine call_reversed_list pl.isList (Calls.spliced_nil ?_)
 have hsz:its.toArray.size<=sizeLine:=by rw[List.size_toArray,<-rv.length];exact hz
 have hS:(s1.heap.push (revObj a ((its.toArray.size:Int)-1))).objs.size=s1.heap.objs.size+1:=size_push' ..
 refine oR (I:=s1.heap.objs.size) (l:=a) (items:=its.toArray) (I1.ok.hd hc) ⟨_,Heap.get?_push_size _ rfl,rfl,rfl⟩ (pl.isList.at λo e=>Heap.get?_push_of_some _ e) (Nat.ne_of_lt (Heap.lt_size hoa)) hsz λh' tk acc' c' hk hD hI=>?_
 have ea:acc'.toList=its.reverse:=by
  refine List.ext_getElem? λi=>?_
  by_cases hi:i<its.length
  ·have hi2:i<acc'.size:=by rw[hI.1];simpa using hi
   have e1:=hI.2 i acc'[i] (Array.getElem?_eq_getElem hi2)
   rw[List.getElem?_reverse hi]
   have e2:its[its.length-1-i]?=some acc'[i]:=by simpa using e1
   rw[e2]
   simp[hi2]
  ·rw[List.getElem?_eq_none (by have:=hI.1;simp at this ⊢;omega),List.getElem?_eq_none (by simp;omega)]
 refine⟨.ref _,_,I1.laid (a:=(s1.heap.push (revObj a ((its.toArray.size:Int)-1))).objs.size) (t':=tk) (λb o e=>hk b o (Nat.ne_of_lt (Heap.lt_size e)) (Heap.get?_push_of_some _ e)) (by rw[hS];exact Nat.le_succ _) (show aU X.prog X.w _ h' _ (.lst xs.reverse) from⟨by rw[List.length_reverse];exact hz,acc'.toList,c',?_,by simpa using hD⟩),rfl,q _ (I1.hok.fresh (by rw[hS];exact Nat.le_succ _))⟩
 rw[ea]
 exact uO rv
def VB{m:M PV}(hc:X.calm=true)(hg1:Gl X "list")(hm1:X.mg "list" =none)(hg:Gl X "reversed")(hm:X.mg "reversed" =none)(hl:PE X l (tR (kk X cm) E m))(hs:starEach [l] X.env=[(false,eval l X.env)]:=by exact ſ rfl) :
 PE X (.Call (.Name "list" p1) [.Call (.Name "reversed" p) [l] [] pos] [] pos1) (tO (kk X cm) E (Ey m)):=
 PE.wk (J_ hc hg1 hm1 hg hm (gK hl mz hs) hs) fun σ H Q ⟨c,F,ρ,rel,h⟩=>⟨c,F,ρ,rel,h.bind fun q ρ1 v F1 H1 ĕ s1 s2 r1 h1=>by
   cases q with
   |lst ps=>
    have r0:rR (kk X cm) c σ ρ1 F1 H1 (.lst ps) v:=r1
    obtain⟨a,xs,rfl,q1,q2⟩:=r0.lst ĕ.sub
    refine⟨a,xs,rfl,q1,λl hl=>?_⟩
    obtain⟨k1,k2⟩:=cO ĕ hl (ę.of (Dg q2.pr))
    exact h1 _ _ _ k1 (Same.refl _) (Same.upd hl) k2
   |_=>exact h1.elim⟩
end
end P
namespace P
open PySem PySem.Spec PyProof.Rows L2 M2 M3 M4
mutual
def jt(K:PySem.W.Frag):PV->Value->Bool
 | .int i,v=>match v with
   | .int j _=>decide (i=j)
   |_=>false
 | .tup ps,v=>match v with
   | .ref a=>match K.lookup a with
     |some o=>(match o.cls with
      | .type t=>decide (t= "tuple")
      |_=>false) && match o.data with
      | .seq its _=>decide (its.size<=16777216) && Ez K ps its.toList
      |_=>false
     |none=>false
   |_=>false
 |_,_=>false
def Ez(K:PySem.W.Frag):List PV->List Value->Bool
 | [],vs=>vs.isEmpty
 |p::ps,vs=>match vs with
  |v::r=>jt K p v && Ez K ps r
  | []=>false
end
mutual
theorem zG{K:KK}:∀(p:PV) (v:Value),jt K.K p v=true->∃x,RelV x v/\∀F,Rep K F p x
 | .int i,v,h=>by
   unfold jt at h
   split at h
   ·rename_i j t
    have:=of_decide_eq_true h
    subst this
    exact⟨.int i,⟨t,rfl⟩,λF=>by unfold Rep;rfl⟩
   ·cases h
 | .tup ps,v,h=>by
   unfold jt at h
   split at h
   ·rename_i a
    split at h
    ·rename_i o ho
     rw[Bool.and_eq_true] at h
     obtain⟨h1,h2⟩:=h
     split at h1
     ·rename_i t ht
      have et:=of_decide_eq_true h1
      subst et
      split at h2
      ·rename_i its n hd
       rw[Bool.and_eq_true] at h2
       obtain⟨xs,h3,h4⟩:=uP ps its.toList h2.2
       refine⟨.ref a,rfl,λF=>?_⟩
       unfold Rep
       exact⟨a,xs,rfl,.inr ⟨o,its,n,ho,ht,hd,by rw[ĺ];exact of_decide_eq_true h2.1,h3⟩,h4 F⟩
      ·cases h2
     ·cases h1
    ·cases h
   ·cases h
 | .non,_,h=>by unfold jt at h;cases h
 | .bl _,_,h=>by unfold jt at h;cases h
 | .str _,_,h=>by unfold jt at h;cases h
 | .lst _,_,h=>by unfold jt at h;cases h
 | .ins _ _ _,_,h=>by unfold jt at h;cases h
 | .xc _ _ _,_,h=>by unfold jt at h;cases h
 | .ty _,_,h=>by unfold jt at h;cases h
 | .cls _,_,h=>by unfold jt at h;cases h
theorem uP{K:KK}:∀(ps:List PV) (vs:List Value),Ez K.K ps vs=true->∃xs,Vals xs vs/\∀F,ę K F ps xs
 | [],vs,h=>by
   unfold Ez at h
   cases vs with
   |nil=>exact⟨[],.nil,λF=>ę.nil⟩
   |cons _ _=>cases h
 |p::ps,vs,h=>by
  unfold Ez at h
  cases vs with
  |nil=>cases h
  |cons v r=>
   rw[Bool.and_eq_true] at h
   obtain⟨x,h1,h2⟩:=zG p v h.1
   obtain⟨xs,h3,h4⟩:=uP ps r h.2
   exact⟨x::xs,.cons h1 h3,λF=>ę.cons (h2 F) (h4 F)⟩
end
def Ka{K:KK}{p:PV}{a:Addr}(h:jt K.K p (.ref a)=true)(F:Hp):Rep K F p (.ref a):=by
 obtain⟨x,h1,h2⟩:=zG p _ h
 cases x with
 |ref b=>
  have e:Value.ref a=Value.ref b:=h1
  cases e
  exact h2 F
 |non=>cases(show Value.ref a=Value.none from h1)
 |bl b=>cases(show Value.ref a=Value.bool b from h1)
 |int i=>obtain⟨t,e⟩:=(show ∃t,Value.ref a=Value.int i t from h1);cases e
 |str i=>obtain⟨t,e⟩:=(show ∃t,Value.ref a=Value.str i t from h1);cases e
 |ty n=>cases(show Value.ref a=Value.type n from h1)
 |HY i=>obtain⟨t,e⟩:=(show ∃t,Value.ref a=Value.bytes i t from h1);cases e
 |flt i=>obtain⟨t,e⟩:=(show ∃t,Value.ref a=Value.float i t from h1);cases e
end P
namespace P
open PySem PySem.Spec PyProof.Rows L2 M2 M3 M4
def Kc{a b:Int}(ha: -(2 ^ 60)<=a)(ha':a<2 ^ 60)(hb: -(2 ^ 60)<=b)(hb':b<2 ^ 60):Builtin.Range.small a b (-1)=true:=by
 unfold Builtin.Range.small
 simp only[Builtin.Range.rangeFitsLong,Builtin.Range.rangeSize,Bool.and_eq_true,Bool.or_eq_true,decide_eq_true_eq,beq_iff_eq,show ¬((-1:Int)>0) from by omega,if_false,Int.neg_neg,Int.ediv_one]
 split<;>omega
def Kd(a b:Int):Builtin.Range.rangeSize a b (-1)=((a-b).toNat:Nat):=by
 unfold Builtin.Range.rangeSize
 rw[if_neg (by omega)]
 split
 ·rw[Int.neg_neg,Int.ediv_one];omega
 ·omega
section
variable{X:Cx}{cm:String->Addr}{E:L2.St->XK}{tg:Expr}{a b d:Expr}{p pos:Pos}{mr:M (List PV)}
def Bb{pins:List (Addr×Obj)}{σ:L2.St}{H:Hp}{s:Shared}{R:It->Hp->Prop}{E:Value->Shared->Prop}{lo hi:Int}{t u v:Tok}{tk:Nat}(I:Inv X pins σ H s)(h1: -(2 ^ 60)<=lo)(h2:lo<2 ^ 60)(h3: -(2 ^ 60)<=hi)(h4:hi<2 ^ 60)
 (q:R (Itc lo (-1) (lo-hi).toNat) H):wpAny (model X.prog X.w) X.A (pyIter (.ref s.heap.objs.size)) (PIE X pins σ tg R) E {s with heap:=s.heap.push {cls:=.type "range",data:=.fields #[.int lo t,.int hi u,.int (-1) v]},toks:=tk}:=by
 refine wpAny_pyIter_range (IsRange.new ..) (Kc h1 h2 h3 h4) ?_
 have I1:Inv X pins σ H {s with heap:=s.heap.push {cls:=.type "range",data:=.fields #[.int lo t,.int hi u,.int (-1) v]},toks:=tk}:=I.kept λb o e=>Heap.get?_push_of_some _ e
 refine⟨(s.heap.push {cls:=.type "range",data:=.fields #[.int lo t,.int hi u,.int (-1) v]}).objs.size,[(s.heap.push {cls:=.type "range",data:=.fields #[.int lo t,.int hi u,.int (-1) v]}).objs.size],_,_,H,rfl,
  I1.kept (t':=tk) λb o e=>Heap.get?_push_of_some _ e,t_ _ lo (-1) (lo-hi).toNat,?_,λb hb=>?_,q⟩
 ·have e1:lo+((0:Nat):Int)*(-1)=lo:=by simp
  have e2:(((lo-hi).toNat:Nat):Int)-((0:Nat):Int)=Builtin.Range.rangeSize lo hi (-1):=by rw[Kd];omega
  show IsRangeIter _ _ (lo+((0:Nat):Int)*(-1)) ((((lo-hi).toNat:Nat):Int)-((0:Nat):Int)) (-1)
  rw[e1,e2]
  exact Heap.get?_push_size _ rfl
 ·have e:b=(s.heap.push {cls:=.type "range",data:=.fields #[.int lo t,.int hi u,.int (-1) v]}).objs.size:=by simpa using hb
  subst e
  exact I1.oH (Nat.le_refl _) (I1.hok.fresh (Nat.le_refl _))
def ZaG(ta:TA):TI:=λσ H R=>ta σ H λvs H1=>match vs with
 | [.int i,.int j,.int c]=>(-(2 ^ 60)<=i/\i<2 ^ 60/\ -(2 ^ 60)<=j/\j<2 ^ 60/\c= -1)/\R (Itc i (-1) (i-j).toNat) H1
 |_=>False
def Bc{ta:TA}(hg:Gl X "range")(hm:X.mg "range" =none)(ha:PA X [a,b,d] ta)(hs:starEach [a,b,d] X.env=[(false,eval a X.env),(false,eval b X.env),(false,eval d X.env)])
 (hs2:starEach [b,d] X.env=[(false,eval b X.env),(false,eval d X.env)]) :
 PI X tg (.Call (.Name "range" p) [a,b,d] [] pos) (ZaG ta):=by
 intro pins s σ H R I h
 refine Call_ (fG I hg hm boot_range (PyProof.Rows.callWith_type1 (ŏ (ha pos pins s σ H _ I h) λus s1 ⟨vs,H1,I1,r1,q1⟩=>?_) (by rw[hs,hs2]) (by rw[hs2];rfl)))
 dsimp only at q1
 split at q1
 ·obtain⟨⟨q1,q2,q3,q4,q5⟩,q⟩:=q1
  subst q5
  cases r1 with
  |cons r rr=>
   cases rr with
   |cons r' rr=>
    cases rr with
    |cons r'' rr=>
     cases rr
     obtain⟨t,rfl⟩:=r
     obtain⟨t',rfl⟩:=r'
     obtain⟨t'',rfl⟩:=r''
     exact call_range_3 (by omega) (Bb I1 q1 q2 q3 q4 q) (.inl (PyProof.noPylong_small (by omega)))
 ·exact q1.elim
def uQ:List PV->Option (List PV)
 | [.int i,.int j,.int c]=>if(cg i=true/\cg j=true)/\c= -1 then some (bF i (i-j).toNat (-1)) else none
 |_=>none
def EY(hg:Gl X "range")(hm:X.mg "range" =none)(ha:PA X [a,b,d] (tL (kk X cm) E mr))(hs:starEach [a,b,d] X.env=[(false,eval a X.env),(false,eval b X.env),(false,eval d X.env)]:=by exact Uy rfl rfl rfl)
 (hs2:starEach [b,d] X.env=[(false,eval b X.env),(false,eval d X.env)]:=by exact Ux rfl rfl):PI X tg (.Call (.Name "range" p) [a,b,d] [] pos) (tI (kk X cm) E (ų uQ mr)):=
 λpins s σ H R I h=>Bc hg hm ha hs hs2 pins s σ H R I (by
  obtain⟨c,F,ρ,rel,h⟩:=h
  refine⟨c,F,ρ,rel,h.bind λps ρ1 vs F1 H1 ĕ s1 s2 q h1=>?_⟩
  have q':ę (kk X cm) F1 ps vs:=q
  unfold uQ at h1
  split at h1
  ·rename_i i j k
   split at h1
   ·rename_i hj
    obtain⟨r',e1,e2⟩:=(jM q').1 _ _ rfl
    obtain⟨r2,e3,e4⟩:=(jM e2).1 _ _ rfl
    obtain⟨r3,e5,e6⟩:=(jM e4).1 _ _ rfl
    cases(jM e6).2 rfl
    subst e3
    subst e5
    subst e1
    obtain⟨k1,k2⟩:=jL hj.1.1
    obtain⟨k3,k4⟩:=jL hj.1.2
    exact⟨⟨k1,k2,k3,k4,hj.2⟩,h1 _ F1 H1 ĕ (Same.refl _) (Same.refl _) (Va i (-1) _)⟩
   ·exact h1.elim
  ·exact h1.elim)
end
end P
namespace My
end My
namespace Hu
abbrev Pt:=Int×Int
def tn(a b c:Pt):Int:=(b.1-a.1)*(c.2-a.2)-(b.2-a.2)*(c.1-a.1)
section
variable{S:List Pt}{p:Pt}
end
abbrev Ln:=Int×Int×Int
def hd(l:Ln)(p:Pt):Bool:=decide (l.1*p.1+l.2.1*p.2<=l.2.2)
def Z4(a b:Pt):Ln:=(b.2-a.2,a.1-b.1,(b.2-a.2)*a.1+(a.1-b.1)*a.2)
def Z2s{a b s:Pt}:hd (Z4 a b) s=true↔0<=tn a b s:=by
 unfold hd Z4
 rw[decide_eq_true_iff]
 have e:tn a b s=((b.2-a.2)*a.1+(a.1-b.1)*a.2)-((b.2-a.2)*s.1+(a.1-b.1)*s.2):=by simp only[tn];grind
 dsimp only
 omega
def Z3(S:List Pt):List Pt:=S.foldl (λk x=>if x∈k then k else k ++ [x]) []
theorem Z0s(x:Pt):∀(S k:List Pt),x∈S.foldl (λk x=>if x∈k then k else k ++ [x]) k↔x∈k\/x∈S
 | [],k=>by simp
 |y::S,k=>by
  rw[List.foldl_cons,Z0s x S]
  by_cases h:y∈k
  ·rw[if_pos h]
   constructor
   ·rintro (q|q)
    ·exact .inl q
    ·exact .inr (List.mem_cons_of_mem _ q)
   ·rintro (q|q)
    ·exact .inl q
    ·rcases List.mem_cons.mp q with e|e
     ·exact .inl (e▸h)
     ·exact .inr e
  ·rw[if_neg h]
   simp only[List.mem_append,List.mem_cons,List.not_mem_nil,or_false]
   constructor
   ·rintro ((q|q)|q)
    ·exact .inl q
    ·exact .inr (.inl q)
    ·exact .inr (.inr q)
   ·rintro (q|q|q)
    ·exact .inl (.inl q)
    ·exact .inl (.inr q)
    ·exact .inr q
def Zo{x:Pt}{S:List Pt}:x∈Z3 S↔x∈S:=by unfold Z3;rw[Z0s];simp
def ZF(S:List Pt):List Ln:=(Z3 S).flatMap λa=>(Z3 S).filterMap λb=>if a≠b/\(Z3 S).all (hd (Z4 a b)) then some (Z4 a b) else none
def Z1C{S:List Pt}{l:Ln}:l∈ZF S↔∃a∈S,∃b∈S,a≠b/\(∀s∈S,0<=tn a b s)/\l=Z4 a b:=by
 unfold ZF
 simp only[List.mem_flatMap,List.mem_filterMap]
 constructor
 ·rintro ⟨a,ha,b,hb,h⟩
  split at h
  ·rename_i hc
   refine⟨a,Zo.mp ha,b,Zo.mp hb,hc.1,λs hs=>?_,(Option.some.inj h).symm⟩
   exact Z2s.mp (List.all_eq_true.mp hc.2 s (Zo.mpr hs))
  ·cases h
 ·rintro ⟨a,ha,b,hb,h1,h2,rfl⟩
  refine⟨a,Zo.mpr ha,b,Zo.mpr hb,?_⟩
  rw[if_pos ⟨h1,List.all_eq_true.mpr λs hs=>Z2s.mpr (h2 s (Zo.mp hs))⟩]
def mx(l:List Int):Int:=l.tail.foldl max (l.headD 0)
def mn(l:List Int):Int:=l.tail.foldl min (l.headD 0)
def box(S:List Pt):List Ln:=[(1,0,mx (S.map (·.1))),(-1,0,- mn (S.map (·.1))),(0,1,mx (S.map (·.2))),(0,-1,- mn (S.map (·.2)))]
def Zp(S:List Pt):List Ln:=box S++ZF S
def Z1g(S:List Pt)(p:Pt):Option Ln:=(Zp S).find? λl=>!hd l p
def at_(S:List Pt)(i:Nat):Pt:=S.getD i (0,0)
structure Z3e(S:List Pt)(p:Pt)(w:List Int)(q:List Nat):Prop where
 len:w.length=q.length
 sum:w.sum≠0
 sign:∀s∈w,0<=s*w.sum
 nd:q.Nodup
 lt:∀i∈q,i<S.length
 x:((w.zip q).map λa=>a.1*(at_ S a.2).1).sum=w.sum*p.1
 y:((w.zip q).map λa=>a.1*(at_ S a.2).2).sum=w.sum*p.2
end Hu
namespace Fr
end Fr
namespace T
open PySem L2 M2 M3 M4 P
noncomputable section
def top(i:Nat):Stmt:=PySem.Challenge.pw_shadowpost_k64_whole_no_walk_costs_less.main.body.getD i (.Pass ⟨0,0,0,0⟩)
abbrev Lz:Stmt:=top 69
abbrev ZaH:Stmt:=inClass (top 26) 0
abbrev LC:Stmt:=top 27
abbrev LQ:Stmt:=top 30
abbrev LR:Stmt:=top 29
abbrev L_:Stmt:=top 31
abbrev Ma:Stmt:=top 14
abbrev Mf:Stmt:=top 28
abbrev Mg:Stmt:=top 8
abbrev Mh:Stmt:=top 10
abbrev Mi:Stmt:=top 9
abbrev Mj:Stmt:=top 7
abbrev Ml:Stmt:=top 11
abbrev Mp:Stmt:=top 12
abbrev Mq:Stmt:=top 16
abbrev ZaI:Stmt:=top 52
abbrev ZaJ:Stmt:=top 53
abbrev Mr:Stmt:=inClass (top 55) 0
abbrev ZaK:Stmt:=inClass (top 56) 0
abbrev Ms:Stmt:=inClass (top 57) 0
abbrev ZaL:Stmt:=inClass (top 58) 0
abbrev Mt:Stmt:=inClass (top 59) 0
abbrev Mu:Stmt:=top 18
abbrev Mv:Stmt:=top 20
abbrev Mw:Stmt:=top 21
abbrev Mx:Stmt:=top 22
abbrev ZaM:Stmt:=top 23
abbrev Mz:Stmt:=top 24
abbrev MJ:Stmt:=top 15
abbrev ZaN:Stmt:=top 34
abbrev E_:Stmt:=top 35
abbrev MK:Stmt:=top 36
abbrev MN:Stmt:=top 37
abbrev MP:Stmt:=top 38
abbrev M_:Stmt:=top 39
abbrev Nb:Stmt:=top 40
abbrev Nf:Stmt:=top 75
abbrev Ng:Stmt:=top 63
abbrev Nh:Stmt:=top 65
abbrev Ni:Stmt:=top 64
abbrev Nj:Stmt:=top 66
abbrev Nk:Stmt:=top 62
abbrev Nm:Stmt:=top 44
abbrev Np:Stmt:=top 45
abbrev Nq:Stmt:=top 47
abbrev ZaO:Stmt:=inClass (top 54) 0
abbrev Nr:Stmt:=top 48
abbrev Nt:Stmt:=top 49
abbrev ZaP:Stmt:=top 50
abbrev ZaQ:Stmt:=top 46
abbrev Nu:Stmt:=top 51
abbrev Nv:Stmt:=top 60
abbrev Nx:Stmt:=top 67
abbrev Ny:Stmt:=top 68
abbrev Nz:Stmt:=top 70
abbrev NK:Stmt:=top 73
abbrev NP:Stmt:=top 72
abbrev NQ:Stmt:=top 74
abbrev NT:Stmt:=top 71
abbrev NZ:Stmt:=top 76
def cmB(c0:Addr)(c1:Addr)(c2:Addr)(c3:Addr)(c4:Addr)(c5:Addr)(c6:Addr):String->Addr:=λs=>match s with
 | "Yard" =>c0
 | "Thing" =>c1
 | "Post" =>c2
 | "Fence" =>c3
 | "Sail" =>c4
 | "Cloth" =>c5
 | "House" =>c6
 |_=>0
def jO:M Fl:=(Ė (bJ (dZ (aM (ă ŋ (ă į (ă Ő (Ā 0) (mC (.int 7))) (mC (.int 16))) (mC (.int 11)))) (aM (ă uD (Ā 1) (mC (.int 6)))))
 (Ĥ (ŀ (ă đ (č (ś (Ă (Ĺ (Ă (mC (.int 1)) (Ă (mC (.int 20)) Ĕ))) (Ă (Ĺ (Ă (mC (.int 20)) (Ă (mC (.int 1)) Ĕ))) Ĕ)))) (ă į (Ā 0) (mC (.int 2))))))
 dD)
 (Ė (ġ 2 (Ġ ĝ (mC (.int 1)) (ă į (Ā 0) (cZ pO (Ă (mC (.int 5)) (Ă (Ā 1) Ĕ))))))
 (Ĥ (ŀ (Ĺ (Ă (ě 2) (Ă (č (Ġ ĝ (mC (.int 1)) (ă į (ă Ő (Ā 0) (mC (.int 5))) (cZ pO (Ă (mC (.int 4)) (Ă (ă Ő (Ā 1) (Ā 2)) Ĕ)))))) Ĕ)))))))
def ju:MF:=ı 2 3 jO
def Fb:M Fl:=(Ė (iu 0 ["Yard"] "width" (ě 1))
 (Ė (iu 0 ["Yard"] "height" (ě 2))
 (Ė (iu 0 ["Yard"] "things" (č (jl bG (Ă (Ā 3) Ĕ))))
 (iu 0 ["Yard"] "days" (č (Ń [] 3 (Ŋ 4) (gT 3 (Ğ (gN 0) (Ğ (gN 1) (Ğ (gN 2) š)))) ł (Ĺ (Ă (ě 0) (Ă (ě 1) (Ă (č (jl bG (Ă (Ā 2) Ĕ))) Ĕ))))))))))
def bh:MI:=bN 5 5 "Yard" Fb
def jP:M Fl:=(Ĥ (ŀ (fO (lF eZ jm (mC (.int 0)) (ă đ (Ā 1) (mC (.int 0))) (aL (ő ["Yard"] "width") (Ā 0))) (lF eZ jm (mC (.int 0)) (ă đ (Ā 1) (mC (.int 1))) (aL (ő ["Yard"] "height") (Ā 0))))))
def eO:MF:=ı 2 2 jP
def Fd:M Fl:=(bJ (kh (gR (č (Č eO (Ą 0 (Ą 1 Ċ))))))
 Dr
 dD)
def uR:MF:=ı 2 2 Fd
def rK:M Fl:=(Ĥ (ŀ (lF eZ jm (mC (.int 0)) (Ā 1) (cZ cR (Ă (aL (ő ["Yard"] "days") (Ā 0)) Ĕ)))))
def pX:MF:=ı 2 2 rK
def Fe:M Fl:=(bJ (kh (gR (č (Č pX (Ą 0 (Ą 1 Ċ))))))
 Dr
 dD)
def zH:MF:=ı 2 2 Fe
def Fg:M Fl:=(Ĥ (Ġ ĝ (ă ĭ (ă đ (Ā 0) (mC (.int 1))) (Ā 1)) (ă đ (Ā 0) (mC (.int 0)))))
def kE:MF:=ı 2 2 Fg
def Fi:M Fl:=(Ĥ (ŀ (ă đ (ă đ (aL (ő ["Yard"] "days") (Ā 0)) (Ā 1)) (mC (.int 2)))))
def zJ:MF:=ı 2 2 Fi
def Fj:M Fl:=(Ė (ġ 1 (Ń [] 1 (Ŋ 0) (gN 0) ł (ă đ (Ā 0) (mC (.int 0)))))
 (Ė (ġ 2 (Ń [] 1 (Ŋ 0) (gN 0) ł (ă đ (Ā 0) (mC (.int 1)))))
 (Ĥ (ś (Ă (Ĺ (Ă (mC (.int 1)) (Ă (mC (.int 0)) (Ă (cZ eN (Ă (Ā 1) Ĕ)) Ĕ)))) (Ă (Ĺ (Ă (aL Ŗ (mC (.int 1))) (Ă (mC (.int 0)) (Ă (aL Ŗ (cZ pR (Ă (Ā 1) Ĕ))) Ĕ)))) (Ă (Ĺ (Ă (mC (.int 0)) (Ă (mC (.int 1)) (Ă (cZ eN (Ă (Ā 2) Ĕ)) Ĕ)))) (Ă (Ĺ (Ă (mC (.int 0)) (Ă (aL Ŗ (mC (.int 1))) (Ă (aL Ŗ (cZ pR (Ă (Ā 2) Ĕ))) Ĕ)))) Ĕ))))))))
def zK:MF:=ı 1 3 Fj
def jQ:M Fl:=(bJ (aM (ă (inD true) (Ā 2) (Ā 1)))
 (iT 1 (ě 2))
 dD)
def Fo:M Fl:=(Ė (ġ 1 (ś Ĕ))
 (Ė (dG (Ŋ 0) (gN 2) jQ)
 (Ĥ (jj 1))))
def zL:MF:=ı 1 3 Fo
def Fp:M Fl:=(Ė (ġ 2 (ŀ (ă Ŏ (ă đ (Ā 1) (mC (.int 1))) (ă đ (Ā 0) (mC (.int 1))))))
 (Ė (ġ 3 (ŀ (ă Ŏ (ă đ (Ā 0) (mC (.int 0))) (ă đ (Ā 1) (mC (.int 0))))))
 (Ĥ (ŀ (Ĺ (Ă (ě 2) (Ă (ě 3) (Ă (č (Ġ ĝ (ă ĭ (Ā 2) (ă đ (Ā 0) (mC (.int 0)))) (ă ĭ (Ā 3) (ă đ (Ā 0) (mC (.int 1)))))) Ĕ))))))))
def zM:MF:=ı 2 4 Fp
def Fq:M Fl:=(Ĥ (ŀ (ă eZ (č (Ġ ĝ (ă ĭ (ă đ (Ā 0) (mC (.int 0))) (ă đ (Ā 1) (mC (.int 0)))) (ă ĭ (ă đ (Ā 0) (mC (.int 1))) (ă đ (Ā 1) (mC (.int 1)))))) (ă đ (Ā 0) (mC (.int 2))))))
def pY:MF:=ı 2 2 Fq
def jR:M Fl:=(Ė (ġ 5 (Č zM (Ą 3 (Ą 4 Ċ))))
 (bJ (dZ (aM (ă fj (Ā 3) (Ā 4))) (gR (cZ uH (Ă (č (Ń [5] 1 (Ŋ 2) (gN 1) ł (č (Č pY (Ą 0 (Ą 1 Ċ)))))) Ĕ))))
 (iT 1 (ě 5))
 dD))
def rM:M Fl:=(dG (Ŋ 2) (gN 4) jR)
def Ft:M Fl:=(Ė (ġ 1 (ś Ĕ))
 (Ė (ġ 2 (Č zL (Ą 0 Ċ)))
 (Ė (dG (Ŋ 2) (gN 3) rM)
 (Ĥ (jj 1)))))
def zN:MF:=ı 1 6 Ft
def Fv:M Fl:=(Ĥ (Ġ ĝ (č (Č zK (Ą 0 Ċ))) (č (Č zN (Ą 0 Ċ)))))
def zO:MF:=ı 1 1 Fv
def Fw:M Fl:=(Ĥ (ŀ (Ĺ (Ă (č (Ġ ĝ (ă ĭ (ă đ (Ā 1) (mC (.int 2))) (ă đ (Ā 0) (mC (.int 0)))) (ă ĭ (ă đ (Ā 1) (mC (.int 0))) (ă đ (Ā 0) (mC (.int 2)))))) (Ă (č (Ġ ĝ (ă ĭ (ă đ (Ā 1) (mC (.int 2))) (ă đ (Ā 0) (mC (.int 1)))) (ă ĭ (ă đ (Ā 1) (mC (.int 1))) (ă đ (Ā 0) (mC (.int 2)))))) Ĕ)))))
def pZ:MF:=ı 2 2 Fw
def N_:M Fl:=(Ĥ (ś (Ă (Ĺ (Ă (ě 0) (Ă (ě 1) (Ă (ě 4) Ĕ)))) (Ă (Ĺ (Ă (ě 2) (Ă (ě 1) (Ă (ě 4) Ĕ)))) (Ă (Ĺ (Ă (ě 2) (Ă (ě 3) (Ă (ě 4) Ĕ)))) (Ă (Ĺ (Ă (ě 0) (Ă (ě 3) (Ă (ě 4) Ĕ)))) Ĕ))))))
def Bd:MF:=ı 5 5 N_
def Oa:M Fl:=(Ĥ (Ġ ĝ (č (Č Bd (Ą 0 (Ą 1 (Ą 2 (Ą 3 (ć (mC (.int 0)) Ċ))))))) (č (Č Bd (Ą 0 (Ą 1 (Ą 2 (Ą 3 (Ą 4 Ċ)))))))))
def Fx:MF:=ı 5 5 Oa
def Fy:M Fl:=(Ė (ġ 1 (ŀ (ă ĭ (mC (.int 2)) (ă đ (aL (ő ["Thing","Post","Fence","Sail","Cloth","House"] "numbers") (Ā 0)) (mC (.int 0))))))
 (Ė (ġ 2 (ŀ (ă ĭ (mC (.int 2)) (ă đ (aL (ő ["Thing","Post","Fence","Sail","Cloth","House"] "numbers") (Ā 0)) (mC (.int 1))))))
 (Ĥ (Č Fx (ć (ă Ŏ (Ā 1) (mC (.int 1))) (ć (ă Ŏ (Ā 2) (mC (.int 1))) (ć (č (Ġ ĝ (Ā 1) (mC (.int 1)))) (ć (č (Ġ ĝ (Ā 2) (mC (.int 1)))) (ć (ă đ (aL (ő ["Thing","Post","Fence","Sail","Cloth","House"] "numbers") (Ā 0)) (mC (.int 2))) Ċ)))))))))
def kI:MF:=ı 1 3 Fy
def Ob:M Fl:=(Ė (ġ 1 (ŀ (aL (ő ["Thing","Post","Fence","Sail","Cloth","House"] "numbers") (Ā 0))))
 (Ė (ġ 2 (ŀ (Ĺ (Ă (ă đ (Ā 1) (mC (.int 0))) (Ă (ă đ (Ā 1) (mC (.int 1))) Ĕ)))))
 (Ė (ġ 3 (ŀ (Ĺ (Ă (ă đ (Ā 1) (mC (.int 2))) (Ă (ă đ (Ā 1) (mC (.int 3))) Ĕ)))))
 (Ĥ (ś (Ă (č (Ġ ĝ (Ā 2) (Ĺ (Ă (mC (.int 0)) Ĕ)))) (Ă (č (Ġ ĝ (Ā 3) (Ĺ (Ă (mC (.int 0)) Ĕ)))) (Ă (č (Ġ ĝ (Ā 3) (Ĺ (Ă (ă đ (Ā 1) (mC (.int 4))) Ĕ)))) (Ă (č (Ġ ĝ (Ā 2) (Ĺ (Ă (ă đ (Ā 1) (mC (.int 4))) Ĕ)))) Ĕ)))))))))
def uT:MF:=ı 1 4 Ob
def Fz:M Fl:=(Ė (ġ 1 (ŀ (aL (ő ["Thing","Post","Fence","Sail","Cloth","House"] "numbers") (Ā 0))))
 (Ĥ (Č Bd (ć (ă đ (Ā 1) (mC (.int 0))) (ć (ă đ (Ā 1) (mC (.int 1))) (ć (ă đ (Ā 1) (mC (.int 2))) (ć (ă đ (Ā 1) (mC (.int 3))) (ć (ă đ (Ā 1) (mC (.int 4))) Ċ))))))))
def kJ:MF:=ı 1 2 Fz
def Oc:M Fl:=(Ĥ (Ń [0] 1 (ŕ (Ĺ (Ă (mC (.int 0)) (Ă (mC (.int 3)) (Ă (mC (.int 6)) Ĕ))))) (gN 1) ł (cZ mV (Ă (č (DQ (aL (ő ["Thing","Post","Fence","Sail","Cloth","House"] "numbers") (Ā 0)) (mP (ě 1)) (mP (č (Ġ ĝ (Ā 1) (mC (.int 3))))))) Ĕ))))
def uU:MF:=ı 1 1 Oc
def FJ:M Fl:=(Ė (ġ 1 (ŀ (aL (ő ["Thing","Post","Fence","Sail","Cloth","House"] "numbers") (Ā 0))))
 (Ĥ (Č Fx (ć (ă đ (Ā 1) (mC (.int 0))) (ć (ă đ (Ā 1) (mC (.int 1))) (ć (ă đ (Ā 1) (mC (.int 2))) (ć (ă đ (Ā 1) (mC (.int 3))) (ć (ă đ (Ā 1) (mC (.int 4))) Ċ))))))))
def kO:MF:=ı 1 2 FJ
def FN:M Fl:=(Ĥ (Ń [1] 1 (ŕ (č (mY "corners" [("Post",kI),("Fence",uT),("Sail",kJ),("Cloth",uU),("House",kO)] (ě 0) Ċ))) (gN 1) ł (č (Č pZ (Ą 1 (Ą 0 Ċ))))))
def uV:MF:=ı 2 2 FN
def wX:M Fl:=(Ė (bJ (aM (ă jm (Ā 1) (Ā 0)))
 (Ĥ (ŀ (mC (.int 0))))
 dD)
 (Ĥ (ŀ (ă Ŏ (ă ux (mC (.int 1)) (č (Ġ ĝ (Ā 1) (mC (.int 1))))) (ă ux (mC (.int 1)) (Ā 0))))))
def qb:MF:=ı 2 2 wX
def cA:M Fl:=(Ė (ġ 9 (ŀ (ă ĭ (Ā 6) (Ā 1))))
 (Ė (ġ 10 (ŀ (ă Ŏ (Ā 8) (ă ĭ (ă ĭ (Ā 7) (Ā 1)) (Ā 2)))))
 (bJ (aM (ă uD (Ā 9) (mC (.int 0))))
 (ġ 5 (ŀ (cZ pO (Ă (Ā 5) (Ă (ă Ő (Ā 10) (Ā 9)) Ĕ)))))
 (bJ (aM (ă jm (Ā 9) (mC (.int 0))))
 (ġ 4 (ŀ (cZ zy (Ă (Ā 4) (Ă (aL Ŗ (ă Ő (Ā 10) (aL Ŗ (Ā 9)))) Ĕ)))))
 (bJ (aM (ă jm (Ā 10) (mC (.int 0))))
 (Ĥ (ŀ (mC (.int 0))))
 dD)))))
def wY:M Fl:=(Ė (ġ 4 (ŀ (mC (.int 0))))
 (Ė (ġ 5 (ŀ (ă Ŏ (Ā 3) (mC (.int 1)))))
 (Ė (dG (Ŋ 0) (gT 3 (Ğ (gN 6) (Ğ (gN 7) (Ğ (gN 8) š)))) cA)
 (Ĥ (Č qb (Ą 4 (Ą 5 Ċ)))))))
def uW:MF:=ı 4 11 wY
def rN:M Fl:=(uL 4 (ă ux (č (Č uW (Ą 3 (ć (ă ĭ (mC (.int 2)) (ă đ (Ā 2) (mC (.int 2)))) (Ą 5 (ć (aL (ő ["Yard"] "width") (Ā 0)) Ċ)))))) (ă ĭ (Ā 5) (aL (ő ["Yard"] "width") (Ā 0)))))
def FP:M Fl:=(Ė (ġ 3 (Č zO (ć (č (Č uV (Ą 1 (Ą 2 Ċ)))) Ċ)))
 (Ė (ġ 4 (ŀ (mC (.int 0))))
 (Ė (dG (ų aV (Ă (aL (ő ["Yard"] "height") (Ā 0)) Ĕ)) (gN 5) rN)
 (Ĥ (jj 4)))))
def qd:MF:=ı 3 6 FP
def Od:M Fl:=(Ĥ (Ń [0,1] 1 (ŕ (aL (ő ["Yard"] "things") (Ā 0))) (gN 2) ł (č (Č qd (Ą 0 (Ą 2 (Ą 1 Ċ)))))))
def Ke:MF:=ı 2 2 Od
def wZ:M Fl:=(uL 2 (ě 3))
def xg:M Fl:=(Ė (bJ (aM (ă mQ (Ā 1) (mC .non)))
 (Ĥ (Č qb (ć (mC (.int 0)) (ć (ă Ŏ (ă ĭ (aL (ő ["Yard"] "width") (Ā 0)) (aL (ő ["Yard"] "height") (Ā 0))) (mC (.int 1))) Ċ))))
 dD)
 (Ė (ġ 2 (ŀ (mC (.int 0))))
 (Ė (dG (ŕ (č (Č Ke (Ą 0 (Ą 1 Ċ))))) (gN 3) wZ)
 (Ĥ (jj 2)))))
def iz:MF:=ı 2 4 xg
def FQ:M Fl:=(Ĥ (ŀ (Ĺ (Ă (ă į (Ā 0) (Ā 1)) (Ă (ă Ő (Ā 0) (Ā 1)) Ĕ)))))
def qe:MF:=ı 2 2 FQ
def Oe:M Fl:=(Ė (ġ 2 (Č qe (Ą 1 (ć (aL (ő ["Yard"] "width") (Ā 0)) Ċ))))
 (Ė (ġ 3 (Ń [2] 2 (ŕ (mC (.tup [.tup [.int (-1),.int 0],.tup [.int 1,.int 0],.tup [.int 0,.int (-1)],.tup [.int 0,.int 1],.tup [.int 0,.int 0]]))) (gT 2 (Ğ (gN 1) (Ğ (gN 2) š))) ł (Ĺ (Ă (č (Ġ ĝ (ă đ (Ā 0) (mC (.int 0))) (Ā 1))) (Ă (č (Ġ ĝ (ă đ (Ā 0) (mC (.int 1))) (Ā 2))) Ĕ)))))
 (Ĥ (Ń [0] 1 (Ŋ 3) (gN 1) (gR (č (Č eO (Ą 0 (Ą 1 Ċ))))) (č (Č kE (Ą 1 (ć (aL (ő ["Yard"] "width") (Ā 0)) Ċ))))))))
def Kf:MF:=ı 2 4 Oe
def rP:M Fl:=(Ė (ġ 3 (Ń [2] 1 (ŕ (č (Č Kf (Ą 0 (Ą 1 Ċ))))) (gN 1) (aM (ă gP (ă đ (Ā 0) (Ā 1)) (mC .non))) (ě 1)))
 (Ĥ (ŀ (wW [2] (ă đ (Ā 0) (Ā 1)) (Ă (Ā 3) Ĕ)))))
def nj:MF:=ı 3 4 rP
def rQ:M Fl:=(Ė (bJ (aM (ă ŋ (Ā 1) (Ā 2)))
 (Ĥ (ŀ (mC (.int 0))))
 dD)
 (Ė (ġ 4 (Č nj (Ą 0 (Ą 1 (Ą 3 Ċ)))))
 (Ĥ (ŀ (bJ (aM (ă mQ (Ā 4) (mC .non))) (mC .non) (ă đ (Ā 3) (Ā 4)))))))
def qg:MF:=ı 4 5 rQ
def nq:M Fl:=(Ė (ġ 7 (Č qg (Ą 0 (Ą 6 (Ą 2 (Ą 3 Ċ))))))
 (Ė (ġ 8 (ŀ (ă Ŏ (mC (.int 1)) (ă wI (ă uz (Ā 4) (Ā 6)) (mC (.int 1))))))
 (iT 5 (bJ (aM (ă mQ (Ā 7) (mC .non))) (mC .non) (č (Ġ ĝ (Ā 8) (Ā 7)))))))
def FT:M Fl:=(Ė (ġ 4 (Č iz (Ą 0 (Ą 1 Ċ))))
 (Ė (ġ 5 (ś Ĕ))
 (Ė (dG (ų aV (Ă (ă ĭ (aL (ő ["Yard"] "width") (Ā 0)) (aL (ő ["Yard"] "height") (Ā 0))) Ĕ)) (gN 6) nq)
 (Ĥ (jj 5)))))
def zP:MF:=ı 4 9 FT
def nu:M Fl:=(Ė (ġ 4 (Č zP (Ą 0 (Ą 5 (Ą 2 (Ą 4 Ċ))))))
 (iT 3 (ě 4)))
def FW:M Fl:=(Ė (ġ 3 (ś Ĕ))
 (Ė (ġ 4 (Ń [] 1 (ų aV (Ă (ă ĭ (aL (ő ["Yard"] "width") (Ā 0)) (aL (ő ["Yard"] "height") (Ā 0))) Ĕ)) (gN 0) ł (mC .non)))
 (Ė (dG (zF (mLs (č (Č zJ (Ą 0 (Ą 1 Ċ)))))) (gN 5) nu)
 (Ĥ (Ey (Ā 3))))))
def zQ:MF:=ı 3 6 FW
def FZ:M Fl:=(ţ (aM (ă fj (ă đ (Ā 4) (aL Ŗ (mC (.int 1)))) (Ā 2)))
 (iT 4 (č (Č nj (Ą 0 (ć (ă đ (Ā 4) (aL Ŗ (mC (.int 1)))) (ć (ă đ (Ā 3) (cZ cR (Ă (Ā 4) Ĕ))) Ċ)))))))
def Ga:M Fl:=(Ė (ġ 4 (ś (Ă (ě 1) Ĕ)))
 (Ė FZ
 (Ĥ (Ń [0] 1 (Ŋ 4) (gN 1) ł (č (Č qe (Ą 1 (ć (aL (ő ["Yard"] "width") (Ā 0)) Ċ))))))))
def uX:MF:=ı 4 5 Ga
def xq:M Fl:=(Ė (um (č (Č uR (Ą 0 (Ą 2 Ċ)))))
 (Ė (um (č (Č uR (Ą 0 (Ą 3 Ċ)))))
 (Ė (um (č (Č zH (Ą 0 (Ą 1 Ċ)))))
 (Ė (ġ 4 (Č kE (Ą 2 (ć (aL (ő ["Yard"] "width") (Ā 0)) Ċ))))
 (Ė (ġ 5 (Č kE (Ą 3 (ć (aL (ő ["Yard"] "width") (Ā 0)) Ċ))))
 (Ė (ġ 6 (Č zQ (Ą 0 (Ą 1 (Ą 5 Ċ)))))
 (Ė (bJ (aM (ă mQ (ă đ (ă đ (Ā 6) (mC (.int 0))) (Ā 4)) (mC .non)))
 (Ĥ (ŀ (Ĺ (Ă (mC (.str "none")) (Ă (ě 6) Ĕ)))))
 dD)
 (Ĥ (ŀ (Ĺ (Ă (mC (.str "walk")) (Ă (ă đ (ă đ (Ā 6) (mC (.int 0))) (Ā 4)) (Ă (č (Č uX (Ą 0 (Ą 4 (Ą 5 (Ą 6 Ċ)))))) (Ă (ě 6) Ĕ))))))))))))))
def jw:MF:=ı 4 7 xq
def xr:M Fl:=(Ė (ġ 2 (Č jw (Ą 0 (ć (mC (.int 0)) (ć (ă đ (Ā 1) (mC (.int 0))) (ć (ă đ (Ā 1) (mC (.int 1))) Ċ))))))
 (Ė (bJ (aM (ă ŋ (ă đ (Ā 2) (mC (.int 0))) (mC (.str "none"))))
 (Ĥ (ŀ (mC (.int 1000))))
 dD)
 (Ĥ (ŀ (ă đ (Ā 2) (mC (.int 1)))))))
def iB:MF:=ı 2 3 xr
def jT:M Fl:=(bJ (aM (ă ŋ (ă į (Ā 0) (mC (.int 2))) (mC (.int 0))))
 (Ė (iT 2 (ă į (Ā 3) (mC (.int 524287))))
 (ġ 3 (ŀ (ă Ő (Ā 3) (mC (.int 524287))))))
 (Ė (ġ 3 (ŀ (ă į (č (Ġ ĝ (č (Ġ ĝ (ă ĭ (Ā 3) (mC (.int 49157))) (mC (.int 24593)))) (ă ĭ (mC (.int 2)) (Ā 4)))) (mC (.int 8388593)))))
 (iT 2 (ă Ő (Ā 3) (mC (.int 16))))))
def xu:M Fl:=(Ė (ġ 2 (ś Ĕ))
 (Ė (ġ 3 (ŀ (ă Ő (Ā 0) (mC (.int 2)))))
 (Ė (bJ (aM (ă ŋ (ă į (Ā 0) (mC (.int 2))) (mC (.int 1))))
 (ġ 3 (ŀ (ă į (Ā 3) (mC (.int 8388593)))))
 dD)
 (Ė (dG (ų aV (Ă (ě 1) Ĕ)) (gN 4) jT)
 (Ĥ (jj 2))))))
def kW:MF:=ı 2 5 xu
def xG:M Fl:=(Ė (bJ (aM (ă ŋ (ă į (ă Ő (Ā 0) (mC (.int 512))) (mC (.int 12))) (mC (.int 7))))
 (Ĥ (Ġ ĝ (mC (.int 1)) (ă į (ă ĭ (Ā 0) (mC (.int 1907))) (ă pN (mC (.int 10)) (mC (.int 9))))))
 dD)
 (Ĥ (Ġ ĝ (mC (.int 1)) (ă į (Ā 0) (mC (.int 9))))))
def qj:MF:=ı 1 1 xG
def xH:M Fl:=(Ė (bJ (aM (ă ŋ (ă į (ă Ő (Ā 0) (mC (.int 512))) (mC (.int 16))) (mC (.int 5))))
 (Ĥ (Ġ ĝ (ă Ŏ (ă į (ă ĭ (Ā 0) (mC (.int 3813))) (ă Ŏ (ă ĭ (mC (.int 2)) (ă pN (mC (.int 10)) (mC (.int 9)))) (mC (.int 99)))) (ă pN (mC (.int 10)) (mC (.int 9)))) (mC (.int 50))))
 dD)
 (Ĥ (ŀ (ă Ŏ (ă į (Ā 0) (č (Ġ ĝ (ă ĭ (mC (.int 2)) (Ā 1)) (mC (.int 9))))) (mC (.int 4))))))
def iC:MF:=ı 2 2 xH
def jU:M Fl:=(Ė (ġ 2 (Č kW (Ą 0 (ć (mC (.int 14)) Ċ))))
 (Ė (wD (gS 2 (Ğ (gN 5) (Ğ (gN 6) š))) (č (Ń [1,2] 1 (ų aV (Ă (mC (.int 2)) Ĕ)) (gN 2) ł (č (Č iC (ć (ă đ (Ā 1) (Ā 2)) (Ą 0 Ċ)))))))
 (Ė (ġ 3 (Č qj (ć (ă đ (Ā 2) (mC (.int 2))) Ċ)))
 (Ė (ġ 4 (ŀ (ă į (ă đ (Ā 2) (mC (.int 3))) (mC (.int 5)))))
 (Ė (bJ (aM (ă ŋ (Ā 4) (mC (.int 0))))
 (Ĥ (ŀ (Ĺ (Ă (mC (.str "post")) (Ă (č (ś (Ă (ă Ő (Ā 5) (mC (.int 2))) (Ă (ă Ő (Ā 6) (mC (.int 2))) (Ă (ě 3) Ĕ))))) Ĕ)))))
 dD)
 (Ė (bJ (aM (ă ŋ (Ā 4) (mC (.int 1))))
 (Ė (wD (gS 2 (Ğ (gN 7) (Ğ (gN 8) š))) (č (ś (Ă (ă Ŏ (č (Ġ ĝ (Ā 5) (ă į (ă đ (Ā 2) (mC (.int 4))) (mC (.int 9))))) (mC (.int 4))) (Ă (ă Ŏ (č (Ġ ĝ (Ā 6) (ă į (ă đ (Ā 2) (mC (.int 5))) (mC (.int 9))))) (mC (.int 4))) Ĕ)))))
 (Ĥ (ŀ (Ĺ (Ă (mC (.str "fence")) (Ă (č (ś (Ă (ě 5) (Ă (ě 6) (Ă (č (Ġ ĝ (Ā 7) (cZ Ej (Ă (ă ŋ (Ĺ (Ă (ě 5) (Ă (ě 6) Ĕ))) (Ĺ (Ă (ě 7) (Ă (ě 8) Ĕ)))) Ĕ)))) (Ă (ě 8) (Ă (ě 3) Ĕ))))))) Ĕ))))))
 dD)
 (Ė (bJ (aM (ă ŋ (Ā 4) (mC (.int 2))))
 (Ĥ (ŀ (Ĺ (Ă (mC (.str "cloth")) (Ă (č (Ġ ĝ (č (Ġ ĝ (č (ś (Ă (ě 5) (Ă (ě 6) (Ă (ă į (ă đ (Ā 2) (mC (.int 6))) (mC (.int 10))) Ĕ))))) (č (ś (Ă (č (Č iC (ć (ă đ (Ā 2) (mC (.int 7))) (Ą 1 Ċ)))) (Ă (č (Č iC (ć (ă đ (Ā 2) (mC (.int 8))) (Ą 1 Ċ)))) (Ă (ě 3) Ĕ))))))) (č (ś (Ă (č (Č iC (ć (ă đ (Ā 2) (mC (.int 9))) (Ą 1 Ċ)))) (Ă (č (Č iC (ć (ă đ (Ā 2) (mC (.int 10))) (Ą 1 Ċ)))) (Ă (č (Č qj (ć (ă đ (Ā 2) (mC (.int 11))) Ċ))) Ĕ))))))) Ĕ)))))
 dD)
 (Ĥ (ŀ (Ĺ (Ă (ă đ (č (ś (Ă (mC (.str "sail")) (Ă (mC (.str "house")) Ĕ)))) (ă Ŏ (Ā 4) (mC (.int 3)))) (Ă (č (ś (Ă (ě 5) (Ă (ě 6) (Ă (č (Ġ ĝ (č (Ġ ĝ (Ā 5) (mC (.int 1)))) (ă į (ă đ (Ā 2) (mC (.int 4))) (mC (.int 8))))) (Ă (č (Ġ ĝ (č (Ġ ĝ (Ā 6) (mC (.int 1)))) (ă į (ă đ (Ā 2) (mC (.int 5))) (mC (.int 8))))) (Ă (ě 3) Ĕ))))))) Ĕ))))))))))))
def cW:MF:=ı 2 9 jU
def xJ:M Fl:=(Ė (bJ (aM (ă jm (Ā 1) (cZ cR (Ă (Ā 0) Ĕ))))
 (Ĥ (ŀ (ă đ (Ā 0) (Ā 1))))
 dD)
 (Ĥ (ŀ (mC (.int 0)))))
def ŉ:MF:=ı 2 2 xJ
def Gb:M Fl:=(Ĥ (ŀ (lF eZ eZ (aL Ŗ (mC (.int (1000000000)))) (Ā 0) (mC (.int (1000000000))))))
def kY:MF:=ı 1 1 Gb
def Gd:M Fl:=(Ĥ (ŀ (lF eZ eZ (mC (.int 1)) (Ā 0) (mC (.int (1000000000))))))
def uY:MF:=ı 1 1 Gd
def xK:M Fl:=(Ĥ (ŀ (fO (ă ŋ (cZ cR (Ă (Ā 0) Ĕ)) (mC (.int 3))) (fO (č (Č kY (ć (ă đ (Ā 0) (mC (.int 0))) Ċ))) (fO (č (Č kY (ć (ă đ (Ā 0) (mC (.int 1))) Ċ))) (č (Č uY (ć (ă đ (Ā 0) (mC (.int 2))) Ċ))))))))
def uZ:MF:=ı 1 1 xK
def eU:M Fl:=(Ė (iu 0 ["Thing","Post","Fence","Sail","Cloth","House"] "word" (ě 1))
 (iu 0 ["Thing","Post","Fence","Sail","Cloth","House"] "numbers" (č (jl bG (Ă (Ā 2) Ĕ)))))
def rT:MI:=bN 3 3 "Post" eU
def nA:MI:=bN 3 3 "Fence" eU
def rW:MI:=bN 3 3 "Sail" eU
def nC:MI:=bN 3 3 "Cloth" eU
def nD:MI:=bN 3 3 "House" eU
def xM:M Fl:=(Ĥ (ŀ (fO (ă ŋ (cZ cR (Ă (Ā 0) Ĕ)) (mC (.int 5))) (fO (cZ uH (Ă (č (Ń [] 1 (ŕ (č (DQ (Ā 0) JH (mP (mC (.int 4)))))) (gN 0) ł (č (Č kY (Ą 0 Ċ))))) Ĕ)) (č (Č uY (ć (ă đ (Ā 0) (mC (.int 4))) Ċ)))))))
def ql:MF:=ı 1 1 xM
def xO:M Fl:=(Ĥ (ŀ (fO (č (Č ql (Ą 0 Ċ))) (ă fj (č (DQ (Ā 0) JH (mP (mC (.int 2))))) (č (DQ (Ā 0) (mP (mC (.int 2))) (mP (mC (.int 4)))))))))
def u_:MF:=ı 1 1 xO
def Ge:M Fl:=(Ĥ (ŀ (fO (č (Č ql (Ą 0 Ċ))) (fO (ă jm (ă đ (Ā 0) (mC (.int 0))) (ă đ (Ā 0) (mC (.int 2)))) (ă jm (ă đ (Ā 0) (mC (.int 1))) (ă đ (Ā 0) (mC (.int 3))))))))
def Bf:MF:=ı 1 1 Ge
def Og:M Fl:=(Ĥ (ŀ (fO (č (Č kY (ć (ă đ (Ā 0) (mC (.int 0))) Ċ))) (fO (č (Č kY (ć (ă đ (Ā 0) (mC (.int 1))) Ċ))) (lF eZ eZ (mC (.int 0)) (ă đ (Ā 0) (mC (.int 2))) (mC (.int (1000000000))))))))
def Kg:MF:=ı 1 1 Og
def xP:M Fl:=(Ĥ (ŀ (fO (ă ŋ (cZ cR (Ă (Ā 0) Ĕ)) (mC (.int 9))) (cZ uH (Ă (č (Ń [0] 1 (ŕ (Ĺ (Ă (mC (.int 0)) (Ă (mC (.int 3)) (Ă (mC (.int 6)) Ĕ))))) (gN 1) ł (č (Č Kg (ć (č (DQ (Ā 0) (mP (ě 1)) (mP (č (Ġ ĝ (Ā 1) (mC (.int 3))))))) Ċ))))) Ĕ)))))
def vd:MF:=ı 1 1 xP
def iY:M Fl:=(Ė (bJ (dZ (aM (ă ŋ (Ā 0) (mC (.str "post")))) (gR (č (Č uZ (Ą 1 Ċ)))))
 (Ĥ (ŀ (ũ "Post" rT (Ą 0 (Ą 1 Ċ)))))
 dD)
 (Ė (bJ (dZ (aM (ă ŋ (Ā 0) (mC (.str "fence")))) (gR (č (Č u_ (Ą 1 Ċ)))))
 (Ĥ (ŀ (ũ "Fence" nA (Ą 0 (Ą 1 Ċ)))))
 dD)
 (Ė (bJ (dZ (aM (ă ŋ (Ā 0) (mC (.str "sail")))) (gR (č (Č Bf (Ą 1 Ċ)))))
 (Ĥ (ŀ (ũ "Sail" rW (Ą 0 (Ą 1 Ċ)))))
 dD)
 (Ė (bJ (dZ (aM (ă ŋ (Ā 0) (mC (.str "cloth")))) (gR (č (Č vd (Ą 1 Ċ)))))
 (Ĥ (ŀ (ũ "Cloth" nC (Ą 0 (Ą 1 Ċ)))))
 dD)
 (Ė (bJ (dZ (aM (ă ŋ (Ā 0) (mC (.str "house")))) (gR (č (Č Bf (Ą 1 Ċ)))))
 (Ĥ (ŀ (ũ "House" nD (Ą 0 (Ą 1 Ċ)))))
 dD)
 Dr)))))
def aW:MF:=ı 2 2 iY
def Gf:M Fl:=(Ė (ġ 1 (Č kW (Ą 0 (ć (mC (.int 4)) Ċ))))
 (Ė (ġ 2 (ŀ (ă đ (č (ś (Ă (mC (.int 1)) (Ă (mC (.int 1)) (Ă (mC (.int 3)) (Ă (ă pN (mC (.int 10)) (mC (.int 5))) Ĕ)))))) (ă į (ă đ (Ā 1) (mC (.int 3))) (mC (.int 4))))))
 (Ĥ (ŀ (Ĺ (Ă (ă ĭ (ă Ŏ (ă į (ă đ (Ā 1) (mC (.int 0))) (mC (.int 13))) (mC (.int 6))) (Ā 2)) (Ă (ă ĭ (ă Ŏ (ă į (ă đ (Ā 1) (mC (.int 1))) (mC (.int 13))) (mC (.int 6))) (Ā 2)) (Ă (ă ĭ (č (Ġ ĝ (mC (.int 1)) (ă į (ă đ (Ā 1) (mC (.int 2))) (mC (.int 5))))) (Ā 2)) Ĕ))))))))
def vf:MF:=ı 1 3 Gf
def xQ:M Fl:=(Ė (bJ (aM (ă ŋ (ă į (ă Ő (Ā 0) (mC (.int 3))) (mC (.int 6))) (mC (.int 4))))
 (Ĥ (ŀ (mC .non)))
 dD)
 (Ĥ (Č vf (Ą 0 Ċ))))
def iD:MF:=ı 1 1 xQ
def Gg:M Fl:=(Ĥ (Ġ ĝ (cZ DR (Ă (ă Ŏ (ă đ (Ā 0) (mC (.int 0))) (ă đ (Ā 1) (mC (.int 0)))) Ĕ)) (cZ DR (Ă (ă Ŏ (ă đ (Ā 0) (mC (.int 1))) (ă đ (Ā 1) (mC (.int 1)))) Ĕ))))
def zR:MF:=ı 2 2 Gg
def rY:M Fl:=(Ė (ġ 5 (Č zR (ć (Ĺ (Ă (ă į (Ā 4) (ă đ (Ā 1) (mC (.int 0)))) (Ă (ă Ő (Ā 4) (ă đ (Ā 1) (mC (.int 0)))) Ĕ))) (Ą 2 Ċ))))
 (bJ (aM (ă fj (ă mQ (ă đ (ă đ (Ā 0) (Ā 3)) (Ā 4)) (mC .non)) (ă Vg (č (Ġ ĝ (Ā 5) (Ā 3))) (cZ cR (Ă (Ā 0) Ĕ)))))
 (Ĥ (ŀ (mC (.bl false))))
 dD))
def xR:M Fl:=(dG (ų aV (Ă (ă ĭ (ă đ (Ā 1) (mC (.int 0))) (ă đ (Ā 1) (mC (.int 1)))) Ĕ)) (gN 4) rY)
def Gh:M Fl:=(Ė (dG (ų aV (Ă (cZ cR (Ă (Ā 0) Ĕ)) Ĕ)) (gN 3) xR)
 (Ĥ (ŀ (mC (.bl true)))))
def vg:MF:=ı 3 6 Gh
def Gi:M Fl:=(Ĥ (Ġ ĝ (ă ĭ (ă đ (Ā 1) (mC (.int 1))) (ă đ (Ā 0) (mC (.int 0)))) (ă đ (Ā 1) (mC (.int 0)))))
def qm:MF:=ı 2 2 Gi
def dR:M Fl:=(Ė (ġ 7 (Č qm (Ą 1 (ć (ă đ (Ā 3) (Ā 6)) Ċ))))
 (Ė (ġ 8 (ŀ (ă Ŏ (mC (.int 1)) (ă į (ă uz (ă đ (Ā 2) (Ā 6)) (Ā 7)) (mC (.int 2))))))
 (Ė (ġ 5 (Ġ ĝ (Ā 5) (Ā 8)))
 (Ė (ġ 9 (ŀ (ă đ (ă đ (Ā 0) (Ā 6)) (Ā 7))))
 (Ė (bJ (dZ (aM (ă ŋ (ă đ (Ā 3) (aL Ŗ (mC (.int 1)))) (Ā 4))) (Jt (aM (ă mQ (Ā 9) (mC .non))) (aM (ă uD (Ā 9) (Ā 5)))))
 (Ĥ (ŀ (mC (.bl false))))
 dD)
 (bJ (aM (ă jm (č (Ġ ĝ (Ā 6) (mC (.int 1)))) (cZ cR (Ă (Ā 3) Ĕ))))
 (Ė (ġ 10 (ŀ (ă đ (ă đ (Ā 0) (č (Ġ ĝ (Ā 6) (mC (.int 1))))) (č (Č qm (Ą 1 (ć (ă đ (Ā 3) (č (Ġ ĝ (Ā 6) (mC (.int 1))))) Ċ)))))))
 (bJ (dZ (aM (ă gP (Ā 10) (mC .non))) (Jt (aM (ă mQ (Ā 9) (mC .non))) (aM (ă uD (Ā 9) (č (Ġ ĝ (Ā 8) (Ā 10)))))))
 (Ĥ (ŀ (mC (.bl false))))
 dD))
 dD))))))
def Gj:M Fl:=(Ė (ġ 5 (ŀ (mC (.int 0))))
 (Ė (dG (ų uQ (Ă (ă Ŏ (cZ cR (Ă (Ā 3) Ĕ)) (mC (.int 1))) (Ă (aL Ŗ (mC (.int 1))) (Ă (aL Ŗ (mC (.int 1))) Ĕ)))) (gN 6) dR)
 (Ĥ (ŀ (mC (.bl true))))))
def vh:MF:=ı 5 11 Gj
def gb:M Fl:=(bJ (dZ (aM (lF eZ jm (mC (.int 0)) (Ā 7) (ă đ (Ā 2) (mC (.int 0))))) (aM (lF eZ jm (mC (.int 0)) (Ā 8) (ă đ (Ā 2) (mC (.int 1))))))
 (iT 4 (Ĺ (Ă (ě 7) (Ă (ě 8) Ĕ))))
 dD)
def Gk:M Fl:=(Ė (wD (gS 2 (Ğ (gN 5) (Ğ (gN 6) š))) (ě 0))
 (Ė (ġ 3 (ś (Ă (Ĺ (Ă (ě 5) (Ă (ě 6) Ĕ))) (Ă (Ĺ (Ă (ă Ŏ (Ā 5) (mC (.int 1))) (Ă (ě 6) Ĕ))) (Ă (Ĺ (Ă (č (Ġ ĝ (Ā 5) (mC (.int 1)))) (Ă (ě 6) Ĕ))) (Ă (Ĺ (Ă (ě 5) (Ă (ă Ŏ (Ā 6) (mC (.int 1))) Ĕ))) (Ă (Ĺ (Ă (ě 5) (Ă (č (Ġ ĝ (Ā 6) (mC (.int 1)))) Ĕ))) Ĕ)))))))
 (Ė (ġ 4 (ś Ĕ))
 (Ė (dG (Ŋ 3) (gT 2 (Ğ (gN 7) (Ğ (gN 8) š))) gb)
 (Ĥ (ŀ (ă đ (Ā 4) (ă į (Ā 1) (cZ cR (Ă (Ā 4) Ĕ))))))))))
def zT:MF:=ı 3 9 Gk
def nF:M Fl:=(ġ 14 (ŀ (ă Ŏ (č (Ġ ĝ (Ā 14) (mC (.int 1)))) (ă į (ă uz (ă đ (Ā 9) (Ā 15)) (č (Č qm (Ą 1 (ć (ă đ (Ā 7) (Ā 15)) Ċ))))) (mC (.int 2))))))
def jV:M Fl:=(iT 7 (č (Č zT (ć (ă đ (Ā 7) (aL Ŗ (mC (.int 1)))) (Ą 8 (Ą 1 Ċ))))))
def xT:M Fl:=(Ė (ġ 1 (Č ju (ć (č (Č ŉ (Ą 0 (ć (mC (.int 0)) Ċ)))) (ć (mC (.int 6)) Ċ))))
 (Ė (ġ 2 (Ń [1] 1 (ŕ (č (DQ (Ā 0) (mP (mC (.int 4))) (mP (mC (.int 8)))))) (gN 1) ł (č (Č cW (Ą 1 (ć (cZ eN (Ă (Ā 0) Ĕ)) Ċ))))))
 (Ė (ġ 3 (Ń [] 2 (Ŋ 2) (gT 2 (Ğ (gN 0) (Ğ (gN 1) š))) ł (č (Č aW (Ą 0 (ć (č (jl bG (Ă (Ā 1) Ĕ))) Ċ))))))
 (Ė (ġ 4 (Ń [0] 1 (ų aV (Ă (č (Ġ ĝ (mC (.int 1)) (ă į (č (Č ŉ (Ą 0 (ć (mC (.int 1)) Ċ)))) (mC (.int 6))))) Ĕ)) (gN 1) ł (č (Č iD (ć (č (Č ŉ (Ą 0 (ć (č (Ġ ĝ (mC (.int 8)) (Ā 1))) Ċ)))) Ċ)))))
 (Ė (ġ 5 (ŀ (ũ "Yard" bh (ć (ă đ (Ā 1) (mC (.int 0))) (ć (ă đ (Ā 1) (mC (.int 1))) (Ą 3 (ć (č (ś (Ă (Ĺ (Ă (mC (.str "d")) (Ă (mC (.int 1)) (Ă (ě 4) Ĕ)))) Ĕ))) Ċ)))))))
 (Ė (ġ 6 (ś (Ă (Ĺ (Ă (ă į (č (Č ŉ (Ą 0 (ć (mC (.int 2)) Ċ)))) (ă đ (Ā 1) (mC (.int 0)))) (Ă (ă į (ă Ő (č (Č ŉ (Ą 0 (ć (mC (.int 2)) Ċ)))) (mC (.int 7))) (ă đ (Ā 1) (mC (.int 1)))) Ĕ))) Ĕ)))
 (Ė (iT 6 (Ĺ (Ă (ă į (č (Č ŉ (Ą 0 (ć (mC (.int 3)) Ċ)))) (ă đ (Ā 1) (mC (.int 0)))) (Ă (ă į (ă Ő (č (Č ŉ (Ą 0 (ć (mC (.int 3)) Ċ)))) (mC (.int 7))) (ă đ (Ā 1) (mC (.int 1)))) Ĕ))))
 (Ė (ġ 7 (ś (Ă (ă đ (Ā 6) (mC (.int 0))) Ĕ)))
 (Ė (dG (ŕ (č (DQ (Ā 0) (mP (mC (.int 14))) (mP (č (Ġ ĝ (mC (.int 13)) (cZ cR (Ă (Ā 4) Ĕ)))))))) (gN 8) jV)
 (Ė (ġ 9 (Ń [5] 1 (Ŋ 4) (gN 1) ł (č (Č iz (Ą 0 (Ą 1 Ċ))))))
 (Ė (ġ 10 (Č jw (Ą 5 (ć (mC (.int 0)) (ć (ă đ (Ā 6) (mC (.int 0))) (ć (ă đ (Ā 6) (mC (.int 1))) Ċ))))))
 (Ė (bJ (kh (gR (č (Č vg (ć (ă đ (Ā 10) (aL Ŗ (mC (.int 1)))) (Ą 1 (ć (ă đ (Ā 6) (mC (.int 1))) Ċ)))))))
 (Ĥ (ŀ (mC (.bl false))))
 dD)
 (Ė (bJ (kh (gR (č (Č vh (ć (ă đ (Ā 10) (aL Ŗ (mC (.int 1)))) (Ą 1 (Ą 9 (Ą 7 (ć (ă đ (Ā 6) (mC (.int 1))) Ċ)))))))))
 (Ĥ (ŀ (mC (.bl false))))
 dD)
 (Ė (ġ 11 (Č iB (Ą 5 (Ą 6 Ċ))))
 (Ė (bJ (aM (ă ŋ (ă đ (Ā 7) (aL Ŗ (mC (.int 1)))) (ă đ (Ā 6) (mC (.int 1)))))
 (Ė (ġ 14 (ŀ (mC (.int 0))))
 (Ė (dG (ų aV (Ă (cZ cR (Ă (Ā 7) Ĕ)) Ĕ)) (gN 15) nF)
 (bJ (aM (ă uD (Ā 11) (Ā 14)))
 (Ĥ (ŀ (mC (.bl false))))
 dD)))
 dD)
 (Ė (wD (gS 2 (Ğ (gN 16) (Ğ (gN 17) š))) (č (Č cW (ć (ă Ő (č (Č ŉ (Ą 0 (ć (mC (.int 1)) Ċ)))) (mC (.int 6))) (ć (cZ eN (Ă (Ā 1) Ĕ)) Ċ)))))
 (Ė (ġ 12 (Ġ ĝ (Ā 3) (č (ś (Ă (č (Č aW (Ą 16 (ć (č (jl bG (Ă (Ā 17) Ĕ))) Ċ)))) Ĕ)))))
 (Ė (ġ 12 (ŀ (ũ "Yard" bh (ć (ă đ (Ā 1) (mC (.int 0))) (ć (ă đ (Ā 1) (mC (.int 1))) (Ą 12 (ć (č (ś (Ă (Ĺ (Ă (mC (.str "d")) (Ă (mC (.int 1)) (Ă (ě 4) Ĕ)))) Ĕ))) Ċ)))))))
 (Ė (ġ 4 (Ġ ĝ (Ā 4) (č (ś (Ă (č (Č iD (ć (ă Ő (č (Č ŉ (Ą 0 (ć (mC (.int 1)) Ċ)))) (mC (.int 20))) Ċ))) Ĕ)))))
 (Ė (ġ 13 (ŀ (ũ "Yard" bh (ć (ă đ (Ā 1) (mC (.int 0))) (ć (ă đ (Ā 1) (mC (.int 1))) (Ą 3 (ć (č (ś (Ă (Ĺ (Ă (mC (.str "d")) (Ă (mC (.int 1)) (Ă (ě 4) Ĕ)))) Ĕ))) Ċ)))))))
 (Ĥ (ŀ (fO (ă eZ (č (Č iB (Ą 12 (Ą 6 Ċ)))) (Ā 11)) (ă eZ (č (Č iB (Ą 13 (Ą 6 Ċ)))) (Ā 11)))))))))))))))))))))))))
def qt:MF:=ı 1 18 xT
set_option genInjectivity false
set_option genSizeOf false
structure Gm where
 {Oh VD Oi Oj Ol Om Oo Oq Ot Ou Ov Ow Ox Oz OD ZaR ZaS Gn VF Gp VG Gq OJ O_ Pa Pb ZaT Ph Pj ZaU Gs Pk Pn Pq Pr Pu Px Py Pz PJ PK PL PN P_ Qa lG Qc Qd ZaV ZaW Qe Qf Qg Qh Qi Qj Qk Ql Qm Qn xU rZ xV su xW sy sE:Addr}
 {Qo ZaX Qp Qq Qs Qt Qu Qw Qx Qy Qz QB QC QD QF ZaY ZaZ QG Za0 QH Za1 QJ QK QL QM QS Za2 QT QV Za3 QW QX QZ Q_ Ra Rb Rf Rg Rh Ri Rj Rk Rm Rn Ro Bg Rq Rr Za4 Za5 Rt Ru Rv Rw Rx Ry Rz RD RG Gu:FuncData}
 {oU sG:Tok}
 {sI:Addr}
def ĵ(a:Gm):String->Addr:=cmB a.xU a.rZ a.xV a.su a.xW a.sy a.sE
structure Tx(K:PySem.W.Frag)(mg:Str->Option Value)(a:Gm):Prop where
 VH:mg "Yard" =some (.ref a.xU)
 ZbW:mg "Thing" =some (.ref a.rZ)
 VJ:mg "Post" =some (.ref a.xV)
 Kh:mg "Fence" =some (.ref a.su)
 VL:mg "Sail" =some (.ref a.xW)
 Kl:mg "Cloth" =some (.ref a.sy)
 Km:mg "House" =some (.ref a.sE)
 kZ:Df K mg "_law_size" Lz ["_law_cell","_law_most"] a.Oh a.Qo
 Ű:Dm K a.xU "__init__" "Yard.__init__" ZaH ["self","width","height","things","days"] a.VD a.ZaX
 gj:Df K mg "has_stone" LC ["yard","stone"] a.Oi a.Qp
 cB:Df K mg "check_stone" LQ ["yard","stone"] a.Oj a.Qq
 qu:Df K mg "has_day" LR ["yard","day"] a.Ol a.Qs
 k_:Df K mg "check_day" L_ ["yard","day"] a.Om a.Qt
 bQ:Df K mg "number_of" Ma ["stone","width"] a.Oo a.Qu
 nG:Df K mg "turns_of" Mf ["yard","day"] a.Oq a.Qw
 lg:Df K mg "box_lines" Mg ["points"] a.Ot a.Qx
 lq:Df K mg "each_once" Mh ["points"] a.Ou a.Qy
 gn:Df K mg "line_through" Mi ["one","other"] a.Ov a.Qz
 zU:Df K mg "holds" Mj ["line","pair"] a.Ow a.QB
 jx:Df K mg "edge_lines" Ml ["points"] a.Ox a.QC
 iG:Df K mg "lines_about" Mp ["points"] a.Oz a.QD
 Gv:Df K mg "cast" Mq ["point","ray"] a.OD a.QF
 ű:Df K mg "level_corners" ZaI ["x","y","u","v","z"] a.ZaR a.ZaY
 aR:Df K mg "block_corners" ZaJ ["x","y","u","v","h"] a.ZaS a.ZaZ
 gq:Dm K a.xV "corners" "Post.corners" Mr ["self"] a.Gn a.QG
 eV:Dm K a.su "corners" "Fence.corners" ZaK ["self"] a.VF a.Za0
 gw:Dm K a.xW "corners" "Sail.corners" Ms ["self"] a.Gp a.QH
 eX:Dm K a.sy "corners" "Cloth.corners" ZaL ["self"] a.VG a.Za1
 eY:Dm K a.sE "corners" "House.corners" Mt ["self"] a.Gq a.QJ
 gA:Df K mg "corner_casts" Mu ["thing","ray"] a.OJ a.QK
 gB:Df K mg "span_bits" Mv ["first","last"] a.O_ a.QL
 nH:Df K mg "row_bits" Mw ["lines","unit","q","width"] a.Pa a.QM
 qw:Df K mg "dark_of" Mx ["yard","thing","ray"] a.Pb a.QS
 bR:Df K mg "darks_of_things" ZaM ["yard","ray"] a.ZaT a.Za2
 xX:Df K mg "dark" Mz ["yard","turn"] a.Ph a.QT
 iZ:Df K mg "stone_at" MJ ["number","width"] a.Pj a.QV
 cX:Df K mg "numbers_beside" ZaN ["yard","number"] a.ZaU a.Za3
 gC:Df K mg "best_step" E_ ["yard","number","costs"] a.Gs a.QW
 iH:Df K mg "cost_behind" MK ["yard","number","goal","costs"] a.Pk a.QX
 nJ:Df K mg "costs_at" MN ["yard","turn","goal","later"] a.Pn a.QZ
 nM:Df K mg "paper_of" MP ["yard","day","goal"] a.Pq a.Q_
 vm:Df K mg "walked" M_ ["yard","start","goal","paper"] a.Pr a.Ra
 dU:Df K mg "shady_walk" Nb ["yard","day","start","goal"] a.Pu a.Rb
 bT:Df K mg "_law_cost" Nf ["_law_yard","_law_ends"] a.Px a.Rf
 cC:Df K mg "_law_grains" Ng ["_law_cell","_law_many"] a.Py a.Rg
 cD:Df K mg "_law_height" Nh ["_law_number_here"] a.Pz a.Rh
 ŧ:Df K mg "_law_place" Ni ["_law_number_here","_law_wide"] a.PJ a.Ri
 dW:Df K mg "_law_thing" Nj ["_law_cell","_law_wide"] a.PK a.Rj
 ř:Df K mg "_law_at" Nk ["_law_script","_law_k"] a.PL a.Rk
 aA:Df K mg "is_place" Nm ["number"] a.PN a.Rm
 gD:Df K mg "is_height" Np ["number"] a.P_ a.Rn
 jy:Df K mg "makes_post" Nq ["numbers"] a.Qa a.Ro
 ī:Dm K a.rZ "__init__" "Thing.__init__" ZaO ["self","word","numbers"] a.lG a.Bg
 bI:Df K mg "has_two_ends" Nr ["numbers"] a.Qc a.Rq
 iI:Df K mg "makes_fence" Nt ["numbers"] a.Qd a.Rr
 Ŝ:Df K mg "makes_sail_or_house" ZaP ["numbers"] a.ZaV a.Za4
 bU:Df K mg "is_cloth_corner" ZaQ ["numbers"] a.ZaW a.Za5
 iJ:Df K mg "makes_cloth" Nu ["numbers"] a.Qe a.Rt
 i_:Df K mg "thing_of" Nv ["word","numbers"] a.Qf a.Ru
 nO:Df K mg "_law_ray" Nx ["_law_cell"] a.Qg a.Rv
 gF:Df K mg "_law_turn" Ny ["_law_cell"] a.Qh a.Rw
 jz:Df K mg "_law_apart" Nz ["_law_one","_law_other"] a.Qi a.Rx
 jA:Df K mg "_law_nones" NK ["_law_paper","_law_size_here","_law_goal"] a.Qj a.Ry
 aG:Df K mg "_law_number" NP ["_law_size_here","_law_stone"] a.Qk a.Rz
 jB:Df K mg "_law_along" NQ ["_law_paper","_law_size_here","_law_sets","_law_stones","_law_goal"] a.Ql a.RD
 lu:Df K mg "_law_step" NT ["_law_stone","_law_cell","_law_size_here"] a.Qm a.RG
 Gw:Df K mg "law" NZ ["_law_script"] a.Qn a.Gu
 iK:mg "MOST_HEIGHT" =some (.int (1000000000) a.oU)
 jC:mg "MOST_PLACE" =some (.int (1000000000) a.sG)
 Ko:mg "STEPS" =some (.ref a.sI)
 RJ:mg "abs" =none
 Gx:mg "all" =none
 Za6:mg "int" =none
 cY:mg "len" =none
 cF:mg "list" =none
 vo:mg "max" =none
 qy:mg "min" =none
 aH:mg "range" =none
 nP:mg "reversed" =none
 Kp:mg "tuple" =none
 sJ:Cls K (ĵ a "Yard")
 xY:Mk K (ĵ a "Yard") a.VD
 sO:ĳ K (ĵ a "Yard") "width"
 oW:ĳ K (ĵ a "Yard") "height"
 oX:ĳ K (ĵ a "Yard") "things"
 vp:ĳ K (ĵ a "Yard") "days"
 zV:Cls K (ĵ a "Thing")
 ZbX:Mk K (ĵ a "Thing") a.lG
 sS:ĳ K (ĵ a "Thing") "word"
 lH:ĳ K (ĵ a "Thing") "numbers"
 xZ:Cls K (ĵ a "Post")
 VN:Mk K (ĵ a "Post") a.lG
 vq:ĳ K (ĵ a "Post") "word"
 nQ:ĳ K (ĵ a "Post") "numbers"
 nR:Meth K (ĵ a "Post") "corners" a.Gn
 sU:Cls K (ĵ a "Fence")
 Kq:Mk K (ĵ a "Fence") a.lG
 sV:ĳ K (ĵ a "Fence") "word"
 lJ:ĳ K (ĵ a "Fence") "numbers"
 lK:Meth K (ĵ a "Fence") "corners" a.VF
 yc:Cls K (ĵ a "Sail")
 VP:Mk K (ĵ a "Sail") a.lG
 vA:ĳ K (ĵ a "Sail") "word"
 nT:ĳ K (ĵ a "Sail") "numbers"
 nU:Meth K (ĵ a "Sail") "corners" a.Gp
 sW:Cls K (ĵ a "Cloth")
 Kr:Mk K (ĵ a "Cloth") a.lG
 sX:ĳ K (ĵ a "Cloth") "word"
 lM:ĳ K (ĵ a "Cloth") "numbers"
 lN:Meth K (ĵ a "Cloth") "corners" a.VG
 sY:Cls K (ĵ a "House")
 Ks:Mk K (ĵ a "House") a.lG
 sZ:ĳ K (ĵ a "House") "word"
 lO:ĳ K (ĵ a "House") "numbers"
 lQ:Meth K (ĵ a "House") "corners" a.Gq
 vB:Vs K "best_step" a.Gs=true
 Ku:jt K (.tup [.tup [.int (-1),.int 0],.tup [.int 1,.int 0],.tup [.int 0,.int (-1)],.tup [.int 0,.int 1],.tup [.int 0,.int 0]]) (.ref a.sI)=true
def Z0j{K:PySem.W.Frag}{mg:Str->Option Value}{a:Gm}(T:Tx K mg a):mg "Yard" =some (.ref (ĵ a "Yard")):=T.VH
def Z2y{K:PySem.W.Frag}{mg:Str->Option Value}{a:Gm}(T:Tx K mg a):mg "Post" =some (.ref (ĵ a "Post")):=T.VJ
def Z21{K:PySem.W.Frag}{mg:Str->Option Value}{a:Gm}(T:Tx K mg a):mg "Fence" =some (.ref (ĵ a "Fence")):=T.Kh
def Z2z{K:PySem.W.Frag}{mg:Str->Option Value}{a:Gm}(T:Tx K mg a):mg "Sail" =some (.ref (ĵ a "Sail")):=T.VL
def Z22{K:PySem.W.Frag}{mg:Str->Option Value}{a:Gm}(T:Tx K mg a):mg "Cloth" =some (.ref (ĵ a "Cloth")):=T.Kl
def Z23{K:PySem.W.Frag}{mg:Str->Option Value}{a:Gm}(T:Tx K mg a):mg "House" =some (.ref (ĵ a "House")):=T.Km
def Gy:Ē ["_law_cell","_law_most","_law_width"] ["_law_cell","_law_most"] (Ĉ Lz):=ź
def Za7:Ē ["self","width","height","things","days"] ["self","width","height","things","days"] (Ĉ ZaH):=ź
def VR:Ē ["yard","stone"] ["yard","stone"] (Ĉ LC):=ź
def V_:Ē ["yard","stone"] ["yard","stone"] (Ĉ LQ):=ź
def Wa:Ē ["yard","day"] ["yard","day"] (Ĉ LR):=ź
def Wb:Ē ["yard","day"] ["yard","day"] (Ĉ L_):=ź
def Wc:Ē ["stone","width"] ["stone","width"] (Ĉ Ma):=ź
def Wd:Ē ["yard","day"] ["yard","day"] (Ĉ Mf):=ź
def yg:Ē ["points","rights","downs"] ["points"] (Ĉ Mg):=ź
def yj:Ē ["points","kept","point"] ["points"] (Ĉ Mh):=ź
def yq:Ē ["one","other","l","m"] ["one","other"] (Ĉ Mi):=ź
def Wf:Ē ["line","pair"] ["line","pair"] (Ĉ Mj):=ź
def jW:Ē ["points","lines","apart","one","other","line"] ["points"] (Ĉ Ml):=ź
def Wg:Ē ["points"] ["points"] (Ĉ Mp):=ź
def Wh:Ē ["point","ray"] ["point","ray"] (Ĉ Mq):=ź
def Za8:Ē ["x","y","u","v","z"] ["x","y","u","v","z"] (Ĉ ZaI):=ź
def Za9:Ē ["x","y","u","v","h"] ["x","y","u","v","h"] (Ĉ ZaJ):=ź
def yr:Ē ["self","right","down"] ["self"] (Ĉ Mr):=ź
def zW:Ē ["self","given","one","other"] ["self"] (Ĉ ZaK):=ź
def Gz:Ē ["self","given"] ["self"] (Ĉ Ms):=ź
def Za_:Ē ["self"] ["self"] (Ĉ ZaL):=ź
def GC:Ē ["self","given"] ["self"] (Ĉ Mt):=ź
def Wi:Ē ["thing","ray"] ["thing","ray"] (Ĉ Mu):=ź
def Wj:Ē ["first","last"] ["first","last"] (Ĉ Mv):=ź
def cG:Ē ["lines","unit","q","width","first","last","l","m","n","step","room"] ["lines","unit","q","width"] (Ĉ Mw):=ź
def nW:Ē ["yard","thing","ray","lines","bits","q"] ["yard","thing","ray"] (Ĉ Mx):=ź
def Zba:Ē ["yard","ray"] ["yard","ray"] (Ĉ ZaM):=ź
def tu:Ē ["yard","turn","bits","some"] ["yard","turn"] (Ĉ Mz):=ź
def Wk:Ē ["number","width"] ["number","width"] (Ĉ MJ):=ź
def GD:Ē ["yard","number","stone","around"] ["yard","number"] (Ĉ ZaN):=ź
def GF:Ē ["yard","number","costs","leading"] ["yard","number","costs"] (Ĉ E_):=ź
def GJ:Ē ["yard","number","goal","costs","step"] ["yard","number","goal","costs"] (Ĉ MK):=ź
def jX:Ē ["yard","turn","goal","later","bits","costs","number","behind","lit"] ["yard","turn","goal","later"] (Ĉ MN):=ź
def nY:Ē ["yard","day","goal","rising","costs","turn"] ["yard","day","goal"] (Ĉ MP):=ź
def GK:Ē ["yard","start","goal","paper","numbers"] ["yard","start","goal","paper"] (Ĉ M_):=ź
def tD:Ē ["yard","day","start","goal","first","last","paper"] ["yard","day","start","goal"] (Ĉ Nb):=ź
def GP:Ē ["_law_yard","_law_ends","_law_told"] ["_law_yard","_law_ends"] (Ĉ Nf):=ź
def jc:Ē ["_law_cell","_law_many","_law_found","_law_number_here","_law_k"] ["_law_cell","_law_many"] (Ĉ Ng):=ź
def Wm:Ē ["_law_number_here"] ["_law_number_here"] (Ĉ Nh):=ź
def Wn:Ē ["_law_number_here","_law_wide"] ["_law_number_here","_law_wide"] (Ĉ Ni):=ź
def gG:Ē ["_law_cell","_law_wide","_law_xs","_law_h","_law_kind","_law_x","_law_y","_law_u","_law_v"] ["_law_cell","_law_wide"] (Ĉ Nj):=ź
def Wo:Ē ["_law_script","_law_k"] ["_law_script","_law_k"] (Ĉ Nk):=ź
def Wq:Ē ["number"] ["number"] (Ĉ Nm):=ź
def Wr:Ē ["number"] ["number"] (Ĉ Np):=ź
def Ws:Ē ["numbers"] ["numbers"] (Ĉ Nq):=ź
def vC:Ē ["self","word","numbers"] ["self","word","numbers"] (Ĉ ZaO):=ź
def Wt:Ē ["numbers"] ["numbers"] (Ĉ Nr):=ź
def Wu:Ē ["numbers"] ["numbers"] (Ĉ Nt):=ź
def Zbb:Ē ["numbers"] ["numbers"] (Ĉ ZaP):=ź
def Zbc:Ē ["numbers"] ["numbers"] (Ĉ ZaQ):=ź
def Wv:Ē ["numbers"] ["numbers"] (Ĉ Nu):=ź
def Ww:Ē ["word","numbers"] ["word","numbers"] (Ĉ Nv):=ź
def yu:Ē ["_law_cell","_law_xs","_law_scale"] ["_law_cell"] (Ĉ Nx):=ź
def Wx:Ē ["_law_cell"] ["_law_cell"] (Ĉ Ny):=ź
def Wy:Ē ["_law_one","_law_other"] ["_law_one","_law_other"] (Ĉ Nz):=ź
def tE:Ē ["_law_paper","_law_size_here","_law_goal","_law_turn_here","_law_number_here","_law_far"] ["_law_paper","_law_size_here","_law_goal"] (Ĉ NK):=ź
def Wz:Ē ["_law_size_here","_law_stone"] ["_law_size_here","_law_stone"] (Ĉ NP):=ź
def gH:Ē ["_law_paper","_law_size_here","_law_sets","_law_stones","_law_goal","_law_rest","_law_k","_law_at_here","_law_lit","_law_here","_law_there"] ["_law_paper","_law_size_here","_law_sets","_law_stones","_law_goal"] (Ĉ NQ):=ź
def jd:Ē ["_law_stone","_law_cell","_law_size_here","_law_some","_law_found","_law_p","_law_q","_law_a","_law_b"] ["_law_stone","_law_cell","_law_size_here"] (Ĉ NT):=ź
def Ō:Ē ["_law_script","_law_size_here","_law_drawn","_law_things","_law_turns","_law_yard","_law_ends","_law_stones","_law_cell","_law_sets","_law_told","_law_cost_here","_law_more","_law_longer","_law_lit","_law_k","_law_word","_law_some"] ["_law_script"] (Ĉ NZ):=ź
section
variable{P:Program}{w:World}{K:PySem.W.Frag}{mg:Str->Option Value}{base:Heap}{a:Gm}
seal PE PT PW PA PS gZ PG vG PI Bm
def Zb(T:Tx K mg a):mW (λC=>Cls K (ĵ a C)/\ĳ K (ĵ a C) "width") ["Yard"]:=⟨⟨T.sJ,T.sO⟩,trivial⟩
def Zl(T:Tx K mg a):mW (λC=>Cls K (ĵ a C)/\ĳ K (ĵ a C) "height") ["Yard"]:=⟨⟨T.sJ,T.oW⟩,trivial⟩
def Z01(T:Tx K mg a):mW (λC=>Cls K (ĵ a C)/\ĳ K (ĵ a C) "things") ["Yard"]:=⟨⟨T.sJ,T.oX⟩,trivial⟩
def ZT(T:Tx K mg a):mW (λC=>Cls K (ĵ a C)/\ĳ K (ĵ a C) "days") ["Yard"]:=⟨⟨T.sJ,T.vp⟩,trivial⟩
def Z7(T:Tx K mg a):mW (λC=>Cls K (ĵ a C)/\ĳ K (ĵ a C) "numbers") ["Thing","Post","Fence","Sail","Cloth","House"]:=⟨⟨T.zV,T.lH⟩,⟨⟨T.xZ,T.nQ⟩,⟨⟨T.sU,T.lJ⟩,⟨⟨T.yc,T.nT⟩,⟨⟨T.sW,T.lM⟩,⟨⟨T.sY,T.lO⟩,trivial⟩⟩⟩⟩⟩⟩
def Zy(T:Tx K mg a):mW (λC=>Cls K (ĵ a C)/\ĳ K (ĵ a C) "word") ["Thing","Post","Fence","Sail","Cloth","House"]:=⟨⟨T.zV,T.sS⟩,⟨⟨T.xZ,T.vq⟩,⟨⟨T.sU,T.sV⟩,⟨⟨T.yc,T.vA⟩,⟨⟨T.sW,T.sX⟩,⟨⟨T.sY,T.sZ⟩,trivial⟩⟩⟩⟩⟩⟩
def WD(T:Tx K mg a):ģ P w K mg base Ũ 1 a.Oh a.Qo ["_law_cell","_law_most"] (ş ⟨K,ĵ a⟩ 2 ju):=by
 refine ĸ T.kZ.F Gy λ_ _ _ _ _ _ _ hu=>?_
 exact ē (ŝ (PW.pt (w_and (t_eq hu (ŗ (iy (ā 0) Ć) Ć) Ć) (b_ (ů uE tZ (ā 1) Ć (Ķ _))))) (Ľ (Ĳ (Ě (ğ (ō (ą (Į (ą ĥ (ą ĥ ė))) (ą (Į (ą ĥ (ą ĥ ė))) ė))))) (ŗ (ā 0) Ć))) İ) (Ĵ Gy (cV Ć (ŗ (ā 0) (Ě (ž (qL rfl) qX T.qy PyProof.Rows.boot_min (Ĝ Ć (Ĝ (ā 1) ħ)))))) (Ľ (Į (ą (v_var 2) (ą (v_add Ć (ŗ (iy (ā 0) Ć) (Ě (ž (qL rfl) qX T.qy PyProof.Rows.boot_min (Ĝ Ć (Ĝ (iy (ā 1) (ā 2)) ħ)))))) ė)))))
def nZ(T:Tx K mg a):ģ P w K mg base Ũ 1 a.VD a.ZaX ["self","width","height","things","days"] (HJ ⟨K,ĵ a⟩ 5 "Yard" bh):=by
 refine XS (cm:=ĵ a) (mb:=Fb) T.Ű.F Za7 rfl rfl rfl λcdv A outer s H E hr=>?_
 have hu:=hr.units
 exact ē (Ž ["Yard"] (Zb T) (pv 0) (v_var 1)) (ē (Ž ["Yard"] (Zl T) (pv 0) (v_var 2)) (ē (Ž ["Yard"] (Z01 T) (pv 0) (ğ (rH aY aZ T.cF PyProof.Rows.boot_list (Ĝ (ā 3) ħ)))) (Ĩ (Ž ["Yard"] (ZT T) (pv 0) (ğ (oO (aq 4) (uo rfl (Ļ bH (Ļ bH (Ļ bH dF)))) Ť (Į (ą (v_var 0) (ą (v_var 1) (ą (ğ (rH aY aZ T.cF PyProof.Rows.boot_list (Ĝ (ā 2) ħ))) ė))))))))))
def GQ(T:Tx K mg a):ģ P w K mg base Ũ 1 a.Oi a.Qp ["yard","stone"] (ş ⟨K,ĵ a⟩ 2 eO):=by
 refine ĸ T.gj.F VR λ_ _ _ _ _ _ _ _=>?_
 exact Ľ (v_and (pK bM eG bL dY Ć (Ī (ā 1) Ć) (Ě (œ ["Yard"] (Zb T) (ā 0)))) (kj (pK bM eG bL dY Ć (Ī (ā 1) Ć) (Ě (œ ["Yard"] (Zl T) (ā 0))))))
def GR(T:Tx K mg a):ģ P w K mg base Ũ 2 a.Oj a.Qq ["yard","stone"] (ş ⟨K,ĵ a⟩ 2 uR):=by
 refine ĸ T.cB.F V_ λ_ _ _ _ _ _ hr _=>?_
 exact Ĩ (ŝ (zc (fM (Ě (ğ (ĉ (GQ T) T.gj hr Ď (Đ 0 (Đ 1 ď))))))) (Ĩ qO) İ)
def WK(T:Tx K mg a):ģ P w K mg base Ũ 1 a.Ol a.Qs ["yard","day"] (ş ⟨K,ĵ a⟩ 2 pX):=by
 refine ĸ T.qu.F Wa λ_ _ _ _ _ _ _ _=>?_
 exact Ľ (pK bM eG bL dY Ć (ā 1) (Ě (ž ao au T.cY PySem.boot_len (Ĝ (Ě (œ ["Yard"] (ZT T) (ā 0))) ħ))))
def WL(T:Tx K mg a):ģ P w K mg base Ũ 2 a.Om a.Qt ["yard","day"] (ş ⟨K,ĵ a⟩ 2 zH):=by
 refine ĸ T.k_.F Wb λ_ _ _ _ _ _ hr _=>?_
 exact Ĩ (ŝ (zc (fM (Ě (ğ (ĉ (WK T) T.qu hr Ď (Đ 0 (Đ 1 ď))))))) (Ĩ qO) İ)
def yx(T:Tx K mg a):ģ P w K mg base Ũ 1 a.Oo a.Qu ["stone","width"] (ş ⟨K,ĵ a⟩ 2 kE):=by
 refine ĸ T.bQ.F Wc λ_ _ _ _ _ _ _ _=>?_
 exact ń (cV (Ŷ (Ī (ā 0) Ć) (ā 1)) (Ī (ā 0) Ć))
def WM(T:Tx K mg a):ģ P w K mg base Ũ 1 a.Oq a.Qw ["yard","day"] (ş ⟨K,ĵ a⟩ 2 zJ):=by
 refine ĸ T.nG.F Wd λ_ _ _ _ _ _ _ _=>?_
 exact Ľ (Ĳ (Ī (Ě (œ ["Yard"] (ZT T) (ā 0))) (ā 1)) Ć)
def WQ(T:Tx K mg a):ģ P w K mg base Ũ 1 a.Ot a.Qx ["points"] (ş ⟨K,ĵ a⟩ 1 zK):=by
 refine ĸ T.lg.F yg λ_ _ _ _ _ _ _ _=>?_
 exact ē (rJ yg (aq 0) bH Ť (Ĳ (ā 0) Ć)) (ē (rJ yg (aq 0) bH Ť (Ĳ (ā 0) Ć)) (ń (ō (ą (Į (ą ĥ (ą ĥ (ą (ž (qY rfl) qZ T.vo PyProof.Rows.boot_max (Ĝ (ā 1) ħ)) ė)))) (ą (Į (ą (gQ ŭ ū Ć) (ą ĥ (ą (gQ ŭ ū (Ě (ž (Ek rfl) El T.qy PyProof.Rows.boot_min (Ĝ (ā 1) ħ)))) ė)))) (ą (Į (ą ĥ (ą ĥ (ą (ž (qY rfl) qZ T.vo PyProof.Rows.boot_max (Ĝ (ā 2) ħ)) ė)))) (ą (Į (ą ĥ (ą (gQ ŭ ū Ć) (ą (gQ ŭ ū (Ě (ž (Ek rfl) El T.qy PyProof.Rows.boot_min (Ĝ (ā 2) ħ)))) ė)))) ė)))))))
def WR(T:Tx K mg a):ģ P w K mg base Ũ 1 a.Ou a.Qy ["points"] (ş ⟨K,ĵ a⟩ 1 zL):=by
 refine ĸ T.lq.F yj λ_ _ _ _ _ _ _ hu=>?_
 exact Ĵ yj (ō ė) (ē (bD PassesOwn.leaving rfl (aq 0) (aO yj) (Ĩ (ŝ (ů Vp (Ax hu) (ā 2) (ā 1) (by with_unfolding_all rfl)) (Ĩ (PS.wk (Ż (g_ PySem.F.plainAttrs_list PySem.F.slot_list_append PySem.F.type_list_append Ņ (pv 1) (ą (v_var 2) ė))) λ_ _ _ h=>aF h)) İ))) (ń (pJ 1)))
def WT(T:Tx K mg a):ģ P w K mg base Ũ 1 a.Ov a.Qz ["one","other"] (ş ⟨K,ĵ a⟩ 2 zM):=by
 refine ĸ T.gn.F yq λ_ _ _ _ _ _ _ _=>?_
 exact Ĵ yq (ť (v_sub (Ī (ā 1) Ć) (Ī (ā 0) Ć))) (Ĵ yq (ť (v_sub (Ī (ā 0) Ć) (Ī (ā 1) Ć))) (Ľ (Į (ą (v_var 2) (ą (v_var 3) (ą (v_add (Ŷ (ā 2) (Ī (ā 0) Ć)) (Ŷ (ā 3) (Ī (ā 0) Ć))) ė))))))
def WW(T:Tx K mg a):ģ P w K mg base Ũ 1 a.Ow a.QB ["line","pair"] (ş ⟨K,ĵ a⟩ 2 pY):=by
 refine ĸ T.zU.F Wf λ_ _ _ _ _ _ _ _=>?_
 exact Ľ (jk bM bL (aN (Ŷ (Ī (ā 0) Ć) (Ī (ā 1) Ć)) (Ŷ (Ī (ā 0) Ć) (Ī (ā 1) Ć))) (Ī (ā 0) Ć) (Ķ _))
def WX(T:Tx K mg a):ģ P w K mg base Ũ 2 a.Ox a.QC ["points"] (ş ⟨K,ĵ a⟩ 1 zN):=by
 refine ĸ T.jx.F jW λ_ _ _ _ _ _ hr hu=>?_
 exact Ĵ jW (ō ė) (Ĵ jW (ĉ (WR T) T.lq hr Ď (Đ 0 ď)) (ē (bD PassesOwn.leaving rfl (aq 2) (aO jW) (Ĩ (bD PassesOwn.leaving rfl (aq 2) (aO jW) (Ĵ jW (ĉ (WT T) T.gn hr Ď (Đ 3 (Đ 4 ď))) (Ĩ (ŝ (PW.pt (w_and (Vt hu (ā 3) (ā 4)) (b_ (fM (Ě (ž (wj rfl) wM T.Gx PyProof.Rows.boot_all (Ĝ (Ě (ğ (oO (aq 2) bH Ť (ğ (ĉ (WW T) T.zU hr Ď (Đ 0 (Đ 1 ď))))))) ħ))))))) (Ĩ (PS.wk (Ż (g_ PySem.F.plainAttrs_list PySem.F.slot_list_append PySem.F.type_list_append Ņ (pv 1) (ą (v_var 5) ė))) λ_ _ _ h=>aF h)) İ)))))) (ń (pJ 1))))
def WY(T:Tx K mg a):ģ P w K mg base Ũ 3 a.Oz a.QD ["points"] (ş ⟨K,ĵ a⟩ 1 zO):=by
 refine ĸ T.iG.F Wg λ_ _ _ _ _ _ hr _=>?_
 exact ń (cV (Ě (ğ (ĉ (WQ T) T.lg hr Ď (Đ 0 ď)))) (Ě (ğ (ĉ (WX T) T.jx hr Ď (Đ 0 ď)))))
def W_(T:Tx K mg a):ģ P w K mg base Ũ 1 a.OD a.QF ["point","ray"] (ş ⟨K,ĵ a⟩ 2 pZ):=by
 refine ĸ T.Gv.F Wh λ_ _ _ _ _ _ _ _=>?_
 exact Ľ (Į (ą (v_add (Ŷ (Ī (ā 1) Ć) (Ī (ā 0) Ć)) (Ŷ (Ī (ā 1) Ć) (Ī (ā 0) Ć))) (ą (v_add (Ŷ (Ī (ā 1) Ć) (Ī (ā 0) Ć)) (Ŷ (Ī (ā 1) Ć) (Ī (ā 0) Ć))) ė)))
def GX(T:Tx K mg a):ģ P w K mg base Ũ 1 a.ZaR a.ZaY ["x","y","u","v","z"] (ş ⟨K,ĵ a⟩ 5 Bd):=by
 refine ĸ T.ű.F Za8 λ_ _ _ _ _ _ _ _=>?_
 exact ń (ō (ą (Į (ą (v_var 0) (ą (v_var 1) (ą (v_var 4) ė)))) (ą (Į (ą (v_var 2) (ą (v_var 1) (ą (v_var 4) ė)))) (ą (Į (ą (v_var 2) (ą (v_var 3) (ą (v_var 4) ė)))) (ą (Į (ą (v_var 0) (ą (v_var 3) (ą (v_var 4) ė)))) ė)))))
def RK(T:Tx K mg a):ģ P w K mg base Ũ 2 a.ZaS a.ZaZ ["x","y","u","v","h"] (ş ⟨K,ĵ a⟩ 5 Fx):=by
 refine ĸ T.aR.F Za9 λ_ _ _ _ _ _ hr _=>?_
 exact ń (cV (Ě (ğ (ĉ (GX T) T.ű hr Ď (Đ 0 (Đ 1 (Đ 2 (Đ 3 (ċ ĥ ď)))))))) (Ě (ğ (ĉ (GX T) T.ű hr Ď (Đ 0 (Đ 1 (Đ 2 (Đ 3 (Đ 4 ď)))))))))
def Xa(T:Tx K mg a):ģ P w K mg base Ũ 3 a.Gn a.QG ["self"] (ş ⟨K,ĵ a⟩ 1 kI):=by
 refine ĸ T.gq.F yr λ_ _ _ _ _ _ hr _=>?_
 exact Ĵ yr (ť (v_mul Ć (Ī (Ě (œ ["Thing","Post","Fence","Sail","Cloth","House"] (Z7 T) (ā 0))) Ć))) (Ĵ yr (ť (v_mul Ć (Ī (Ě (œ ["Thing","Post","Fence","Sail","Cloth","House"] (Z7 T) (ā 0))) Ć))) (ń (ĉ (RK T) T.aR hr Ď (ċ (v_sub (ā 1) Ć) (ċ (v_sub (ā 2) Ć) (ċ (v_add (ā 1) Ć) (ċ (v_add (ā 2) Ć) (ċ (Ĳ (Ě (œ ["Thing","Post","Fence","Sail","Cloth","House"] (Z7 T) (ā 0))) Ć) ď))))))))
def Zbd(T:Tx K mg a):ģ P w K mg base Ũ 1 a.VF a.Za0 ["self"] (ş ⟨K,ĵ a⟩ 1 uT):=by
 refine ĸ T.eV.F zW λ_ _ _ _ _ _ _ _=>?_
 exact Ĵ zW (ť (œ ["Thing","Post","Fence","Sail","Cloth","House"] (Z7 T) (ā 0))) (Ĵ zW (ť (Į (ą (Ĳ (ā 1) Ć) (ą (Ĳ (ā 1) Ć) ė)))) (Ĵ zW (ť (Į (ą (Ĳ (ā 1) Ć) (ą (Ĳ (ā 1) Ć) ė)))) (ń (ō (ą (v_add (ā 2) (Ě (Į (ą ĥ ė)))) (ą (v_add (ā 3) (Ě (Į (ą ĥ ė)))) (ą (v_add (ā 3) (Ě (Į (ą (Ĳ (ā 1) Ć) ė)))) (ą (v_add (ā 2) (Ě (Į (ą (Ĳ (ā 1) Ć) ė)))) ė))))))))
def Xb(T:Tx K mg a):ģ P w K mg base Ũ 2 a.Gp a.QH ["self"] (ş ⟨K,ĵ a⟩ 1 kJ):=by
 refine ĸ T.gw.F Gz λ_ _ _ _ _ _ hr _=>?_
 exact Ĵ Gz (ť (œ ["Thing","Post","Fence","Sail","Cloth","House"] (Z7 T) (ā 0))) (ń (ĉ (GX T) T.ű hr Ď (ċ (Ĳ (ā 1) Ć) (ċ (Ĳ (ā 1) Ć) (ċ (Ĳ (ā 1) Ć) (ċ (Ĳ (ā 1) Ć) (ċ (Ĳ (ā 1) Ć) ď)))))))
def Zbe(T:Tx K mg a):ģ P w K mg base Ũ 1 a.VG a.Za1 ["self"] (ş ⟨K,ĵ a⟩ 1 uU):=by
 refine ĸ T.eX.F Za_ λ_ _ _ _ _ _ _ _=>?_
 exact ń (oO (fU (Į (ą ĥ (ą ĥ (ą ĥ ė))))) bH Ť (ZaC D_ Ea T.Kp PyProof.Rows.boot_tuple (Ĝ (Ě (ğ (dO (Ě (œ ["Thing","Post","Fence","Sail","Cloth","House"] (Z7 T) (ā 0))) (aQ (v_var 1)) (aQ (v_add (ā 1) Ć))))) ħ)))
def Xc(T:Tx K mg a):ģ P w K mg base Ũ 3 a.Gq a.QJ ["self"] (ş ⟨K,ĵ a⟩ 1 kO):=by
 refine ĸ T.eY.F GC λ_ _ _ _ _ _ hr _=>?_
 exact Ĵ GC (ť (œ ["Thing","Post","Fence","Sail","Cloth","House"] (Z7 T) (ā 0))) (ń (ĉ (RK T) T.aR hr Ď (ċ (Ĳ (ā 1) Ć) (ċ (Ĳ (ā 1) Ć) (ċ (Ĳ (ā 1) Ć) (ċ (Ĳ (ā 1) Ć) (ċ (Ĳ (ā 1) Ć) ď)))))))
def Xd(T:Tx K mg a):ģ P w K mg base Ũ 4 a.OJ a.QK ["thing","ray"] (ş ⟨K,ĵ a⟩ 2 uV):=by
 refine ĸ T.gA.F Wi λ_ _ _ _ _ _ hr _=>?_
 exact ń (oO (fU (ğ (JL (HF:= "corners") (k:=3) (n:=1) (gW:=[("Post",kI),("Fence",uT),("Sail",kJ),("Cloth",uU),("House",kO)]) ⟨⟨T.xZ,_,_,_,T.nR,(Xa T).mono (by decide),T.gq.b,cP⟩,⟨⟨T.sU,_,_,_,T.lK,(Zbd T).mono (by decide),T.eV.b,cP⟩,⟨⟨T.yc,_,_,_,T.nU,(Xb T).mono (by decide),T.gw.b,cP⟩,⟨⟨T.sW,_,_,_,T.lN,(Zbe T).mono (by decide),T.eX.b,cP⟩,⟨⟨T.sY,_,_,_,T.lQ,(Xc T).mono (by decide),T.eY.b,cP⟩,trivial⟩⟩⟩⟩⟩ hr.mo Ď (v_var 0)))) bH Ť (ğ (ĉ (W_ T) T.Gv hr Ď (Đ 1 (Đ 0 ď)))))
def GZ(T:Tx K mg a):ģ P w K mg base Ũ 1 a.O_ a.QL ["first","last"] (ş ⟨K,ĵ a⟩ 2 qb):=by
 refine ĸ T.gB.F Wj λ_ _ _ _ _ _ _ _=>?_
 exact ē (ŝ (ů eG dY (ā 1) (ā 0) (Ķ _)) (Ľ ĥ) İ) (Ľ (v_sub (Ě (bC wG wJ Ć (aN (ā 1) Ć))) (Ě (bC wG wJ Ć (ā 0)))))
def Xe(T:Tx K mg a):ģ P w K mg base Ũ 2 a.Pa a.QM ["lines","unit","q","width"] (ş ⟨K,ĵ a⟩ 4 uW):=by
 refine ĸ T.nH.F cG λ_ _ _ _ _ _ hr _=>?_
 exact Ĵ cG (ť ĥ) (Ĵ cG (ť (v_sub (ā 3) Ć)) (ē (bD PassesOwn.leaving rfl (aq 0) (uo rfl (Ļ (aO cG) (Ļ (aO cG) (Ļ (aO cG) dF)))) (Ĵ cG (ť (v_mul (ā 6) (ā 1))) (Ĵ cG (ť (v_sub (ā 8) (Ŷ (Ŷ (ā 7) (ā 1)) (ā 2)))) (Ĩ (ŝ (ů uE tZ (ā 9) Ć (Ķ _)) (Ĩ (A_ cG (ť (ž (qL rfl) qX T.qy PyProof.Rows.boot_min (Ĝ (ā 5) (Ĝ (iy (ā 10) (ā 9)) ħ)))))) (Ĩ (ŝ (ů eG dY (ā 9) Ć (Ķ _)) (Ĩ (A_ cG (ť (ž (Jc rfl) JK T.vo PyProof.Rows.boot_max (Ĝ (ā 4) (Ĝ (Ě (gQ ŭ ū (iy (ā 10) (Ě (gQ ŭ ū (ā 9)))))) ħ)))))) (Ĩ (ŝ (ů eG dY (ā 10) Ć (Ķ _)) (Ľ ĥ) İ))))))))) (ń (ĉ (GZ T) T.gB hr Ď (Đ 4 (Đ 5 ď))))))
def Xf(T:Tx K mg a):ģ P w K mg base Ũ 5 a.Pb a.QS ["yard","thing","ray"] (ş ⟨K,ĵ a⟩ 3 qd):=by
 refine ĸ T.qw.F nW λ_ _ _ _ _ _ hr _=>?_
 exact Ĵ nW (ĉ (WY T) T.iG hr Ď (ċ (ğ (ĉ (Xd T) T.gA hr Ď (Đ 1 (Đ 2 ď)))) ď)) (Ĵ nW (ť ĥ) (ē (bD PassesOwn.leaving rfl (ż rfl T.aH (ą (œ ["Yard"] (Zl T) (ā 0)) ė)) (aO nW) (Ĩ (Em (i:=4) nW.nd rfl (Or.inl rfl) (bC wG wJ (Ě (ğ (ĉ (Xe T) T.nH hr Ď (Đ 3 (ċ (v_mul Ć (Ī (ā 2) Ć)) (Đ 5 (ċ (œ ["Yard"] (Zb T) (ā 0)) ď))))))) (Ŷ (ā 5) (Ě (œ ["Yard"] (Zb T) (ā 0)))))))) (ń (pJ 4))))
def Zbf(T:Tx K mg a):ģ P w K mg base Ũ 6 a.ZaT a.Za2 ["yard","ray"] (ş ⟨K,ĵ a⟩ 2 Ke):=by
 refine ĸ T.bR.F Zba λ_ _ _ _ _ _ hr _=>?_
 exact ń (oO (fU (œ ["Yard"] (Z01 T) (ā 0))) bH Ť (ğ (ĉ (Xf T) T.qw hr Ď (Đ 0 (Đ 2 (Đ 1 ď))))))
def G_(T:Tx K mg a):ģ P w K mg base Ũ 7 a.Ph a.QT ["yard","turn"] (ş ⟨K,ĵ a⟩ 2 iz):=by
 refine ĸ T.xX.F tu λ_ _ _ _ _ _ hr _=>?_
 exact ē (ŝ (ů mR iQ (ā 1) jr (Ķ _)) (ń (ĉ (GZ T) T.gB hr Ď (ċ ĥ (ċ (v_sub (Ŷ (Ě (œ ["Yard"] (Zb T) (ā 0))) (Ě (œ ["Yard"] (Zl T) (ā 0)))) Ć) ď)))) İ) (Ĵ tu (ť ĥ) (ē (bD PassesOwn.leaving rfl (fU (ğ (ĉ (Zbf T) T.bR hr Ď (Đ 0 (Đ 1 ď))))) (aO tu) (Ĩ (Em (i:=2) tu.nd rfl (Or.inl rfl) (v_var 3)))) (ń (pJ 2))))
def Hf(T:Tx K mg a):ģ P w K mg base Ũ 1 a.Pj a.QV ["number","width"] (ş ⟨K,ĵ a⟩ 2 qe):=by
 refine ĸ T.iZ.F Wk λ_ _ _ _ _ _ _ _=>?_
 exact Ľ (Į (ą (v_mod (ā 0) (ā 1)) (ą (iw (ā 0) (ā 1)) ė)))
def Zbg(T:Tx K mg a):ģ P w K mg base Ũ 2 a.ZaU a.Za3 ["yard","number"] (ş ⟨K,ĵ a⟩ 2 Kf):=by
 refine ĸ T.cX.F GD λ_ _ _ _ _ _ hr _=>?_
 exact Ĵ GD (ĉ (Hf T) T.iZ hr Ď (Đ 1 (ċ (œ ["Yard"] (Zb T) (ā 0)) ď))) (ē (rJ GD (fU (Js (.tup [.tup [.int (-1),.int 0],.tup [.int 1,.int 0],.tup [.int 0,.int (-1)],.tup [.int 0,.int 1],.tup [.int 0,.int 0]]) (jf (v:=.ref a.sI) rfl T.Ko rfl) (λF=>Ka T.Ku F))) (uo rfl (Ļ bH (Ļ bH dF))) Ť (Į (ą (v_add (Ī (ā 0) Ć) (ā 1)) (ą (v_add (Ī (ā 0) Ć) (ā 2)) ė)))) (ń (oO (aq 3) bH (Dw (fM (Ě (ğ (ĉ (GQ T) T.gj hr Ď (Đ 0 (Đ 1 ď))))))) (ğ (ĉ (yx T) T.bQ hr Ď (Đ 1 (ċ (œ ["Yard"] (Zb T) (ā 0)) ď)))))))
def Hg(T:Tx K mg a):ģ P w K mg base Ũ 5 a.Gs a.QW ["yard","number","costs"] (ş ⟨K,ĵ a⟩ 3 nj):=by
 refine Zdu (cm:=ĵ a) (mb:=rP) T.gC.F GF rfl rfl rfl T.vB λcc Pt htb A outer s H E hr=>?_
 have hu:=hr.units
 exact ē (rJ GF (fU (ğ (ĉ (Zbg T) T.cX hr Ď (Đ 0 (Đ 1 ď))))) bH (Dw (ů uF yM (Ī (ā 0) (ā 1)) jr (Ķ _))) (v_var 1)) (Ľ (JX (k:=2) ["costs"] [2] (Ĉ E_) hr.mo rfl rfl (by simp[lams]) htb rfl rfl rfl T.qy (Ĝ (ā 3) ħ) (λ_ _ _ _ _ hr hu=>(Ĳ (ā 0) (ā 1))) ⟨rfl,⟨rfl,Or.inl rfl⟩,trivial⟩))
def Xg(T:Tx K mg a):ģ P w K mg base Ũ 6 a.Pk a.QX ["yard","number","goal","costs"] (ş ⟨K,ĵ a⟩ 4 qg):=by
 refine ĸ T.iH.F GJ λ_ _ _ _ _ _ hr hu=>?_
 exact ē (ŝ (t_eq hu (ā 1) (ā 2)) (Ľ ĥ) İ) (Ĵ GJ (ĉ (Hg T) T.gC hr Ď (Đ 0 (Đ 1 (Đ 3 ď)))) (Ľ (Z_ (ů mR iQ (ā 4) jr (Ķ _)) uh (Ĳ (ā 3) (ā 4)))))
def Xh(T:Tx K mg a):ģ P w K mg base Ũ 8 a.Pn a.QZ ["yard","turn","goal","later"] (ş ⟨K,ĵ a⟩ 4 zP):=by
 refine ĸ T.nJ.F jX λ_ _ _ _ _ _ hr _=>?_
 exact Ĵ jX (ĉ (G_ T) T.xX hr Ď (Đ 0 (Đ 1 ď))) (Ĵ jX (ō ė) (ē (bD PassesOwn.leaving rfl (ż rfl T.aH (ą (v_mul (Ě (œ ["Yard"] (Zb T) (ā 0))) (Ě (œ ["Yard"] (Zl T) (ā 0)))) ė)) (aO jX) (Ĵ jX (ĉ (Xg T) T.iH hr Ď (Đ 0 (Đ 6 (Đ 2 (Đ 3 ď))))) (Ĵ jX (ť (v_sub Ć (Ě (bC JF JG (Ě (bC wH wK (ā 4) (ā 6))) Ć)))) (Ĩ (PS.wk (Ż (g_ PySem.F.plainAttrs_list PySem.F.slot_list_append PySem.F.type_list_append Ņ (pv 5) (ą (Z_ (ů mR iQ (ā 7) jr (Ķ _)) uh (v_add (ā 8) (ā 7))) ė))) λ_ _ _ h=>aF h))))) (ń (pJ 5))))
def Xi(T:Tx K mg a):ģ P w K mg base Ũ 9 a.Pq a.Q_ ["yard","day","goal"] (ş ⟨K,ĵ a⟩ 3 zQ):=by
 refine ĸ T.nM.F nY λ_ _ _ _ _ _ hr _=>?_
 exact Ĵ nY (ō ė) (ē (rJ nY (ż rfl T.aH (ą (v_mul (Ě (œ ["Yard"] (Zb T) (ā 0))) (Ě (œ ["Yard"] (Zl T) (ā 0)))) ė)) bH Ť uh) (ē (bD PassesOwn.leaving rfl (ZaE rfl T.nP (ğ (ĉ (WM T) T.nG hr Ď (Đ 0 (Đ 1 ď))))) (aO nY) (Ĵ nY (ĉ (Xh T) T.nJ hr Ď (Đ 0 (Đ 5 (Đ 2 (Đ 4 ď))))) (Ĩ (PS.wk (Ż (g_ PySem.F.plainAttrs_list PySem.F.slot_list_append PySem.F.type_list_append Ņ (pv 3) (ą (v_var 4) ė))) λ_ _ _ h=>aF h)))) (ń (VB rfl rfl T.cF rfl T.nP (ā 3)))))
def Xj(T:Tx K mg a):ģ P w K mg base Ũ 6 a.Pr a.Ra ["yard","start","goal","paper"] (ş ⟨K,ĵ a⟩ 4 uX):=by
 refine ĸ T.vm.F GK λ_ _ _ _ _ _ hr hu=>?_
 exact Ĵ GK (ō (ą (v_var 1) ė)) (ē (Jw PassesOwn.leaving (Vt hu (Ī (ā 4) (Ě (gQ ŭ ū Ć))) (ā 2)) (Ĩ (PS.wk (Ż (g_ PySem.F.plainAttrs_list PySem.F.slot_list_append PySem.F.type_list_append Ņ (pv 4) (ą (ğ (ĉ (Hg T) T.gC hr Ď (Đ 0 (ċ (Ĳ (ā 4) (Ě (gQ ŭ ū Ć))) (ċ (Ĳ (ā 3) (Ě (ž ao au T.cY PySem.boot_len (Ĝ (ā 4) ħ)))) ď))))) ė))) λ_ _ _ h=>aF h))) (ń (oO (aq 4) bH Ť (ğ (ĉ (Hf T) T.iZ hr Ď (Đ 1 (ċ (œ ["Yard"] (Zb T) (ā 0)) ď)))))))
def Hh(T:Tx K mg a):ģ P w K mg base Ũ 10 a.Pu a.Rb ["yard","day","start","goal"] (ş ⟨K,ĵ a⟩ 4 jw):=by
 refine ĸ T.dU.F tD λ_ _ _ _ _ _ hr _=>?_
 exact ē (wC (ğ (ĉ (GR T) T.cB hr Ď (Đ 0 (Đ 2 ď))))) (ē (wC (ğ (ĉ (GR T) T.cB hr Ď (Đ 0 (Đ 3 ď))))) (ē (wC (ğ (ĉ (WL T) T.k_ hr Ď (Đ 0 (Đ 1 ď))))) (Ĵ tD (ĉ (yx T) T.bQ hr Ď (Đ 2 (ċ (œ ["Yard"] (Zb T) (ā 0)) ď))) (Ĵ tD (ĉ (yx T) T.bQ hr Ď (Đ 3 (ċ (œ ["Yard"] (Zb T) (ā 0)) ď))) (Ĵ tD (ĉ (Xi T) T.nM hr Ď (Đ 0 (Đ 1 (Đ 5 ď)))) (ē (ŝ (ů mR iQ (Ī (Ī (ā 6) Ć) (ā 4)) jr (Ķ _)) (Ľ (Į (ą fL (ą (v_var 6) ė)))) İ) (Ľ (Į (ą fL (ą (Ĳ (Ī (ā 6) Ć) (ā 4)) (ą (ğ (ĉ (Xj T) T.vm hr Ď (Đ 0 (Đ 4 (Đ 5 (Đ 6 ď)))))) (ą (v_var 6) ė))))))))))))
def yC(T:Tx K mg a):ģ P w K mg base Ũ 11 a.Px a.Rf ["_law_yard","_law_ends"] (ş ⟨K,ĵ a⟩ 2 iB):=by
 refine ĸ T.bT.F GP λ_ _ _ _ _ _ hr hu=>?_
 exact Ĵ GP (ĉ (Hh T) T.dU hr Ď (Đ 0 (ċ ĥ (ċ (Ĳ (ā 1) Ć) (ċ (Ĳ (ā 1) Ć) ď))))) (ē (ŝ (t_eq hu (Ī (ā 2) Ć) pW) (Ľ ĥ) İ) (Ľ (Ĳ (ā 2) Ć)))
def Hi(T:Tx K mg a):ģ P w K mg base Ũ 1 a.Py a.Rg ["_law_cell","_law_many"] (ş ⟨K,ĵ a⟩ 2 kW):=by
 refine ĸ T.cC.F jc λ_ _ _ _ _ _ _ hu=>?_
 exact Ĵ jc (ō ė) (Ĵ jc (ť (iw (ā 0) Ć)) (ē (ŝ (t_eq hu (ŗ (ā 0) Ć) Ć) (Ĩ (A_ jc (ť (v_mod (ā 3) Ć)))) İ) (ē (bD PassesOwn.leaving rfl (ż rfl T.aH (ą (v_var 1) ė)) (aO jc) (Ĩ (ŝ (t_eq hu (ŗ (ā 0) Ć) Ć) (ē (PS.wk (Ż (g_ PySem.F.plainAttrs_list PySem.F.slot_list_append PySem.F.type_list_append Ņ (pv 2) (ą (v_mod (ā 3) Ć) ė))) λ_ _ _ h=>aF h) (Ĩ (A_ jc (ť (iw (ā 3) Ć))))) (Ĵ jc (ť (v_mod (aN (aN (Ŷ (ā 3) Ć) Ć) (Ŷ Ć (ā 4))) Ć)) (Ĩ (PS.wk (Ż (g_ PySem.F.plainAttrs_list PySem.F.slot_list_append PySem.F.type_list_append Ņ (pv 2) (ą (iw (ā 3) Ć) ė))) λ_ _ _ h=>aF h)))))) (ń (pJ 2)))))
def Hj(T:Tx K mg a):ģ P w K mg base Ũ 1 a.Pz a.Rh ["_law_number_here"] (ş ⟨K,ĵ a⟩ 1 qj):=by
 refine ĸ T.cD.F Wm λ_ _ _ _ _ _ _ hu=>?_
 exact ē (ŝ (t_eq hu (ŗ (iy (ā 0) Ć) Ć) Ć) (ń (cV Ć (ŗ (Ŷ (ā 0) Ć) (Ě (bC qR qK Ć Ć))))) İ) (ń (cV Ć (ŗ (ā 0) Ć)))
def n_(T:Tx K mg a):ģ P w K mg base Ũ 1 a.PJ a.Ri ["_law_number_here","_law_wide"] (ş ⟨K,ĵ a⟩ 2 iC):=by
 refine ĸ T.ŧ.F Wn λ_ _ _ _ _ _ _ hu=>?_
 exact ē (ŝ (t_eq hu (ŗ (iy (ā 0) Ć) Ć) Ć) (ń (cV (ni (ŗ (Ŷ (ā 0) Ć) (ni (Ŷ Ć (Ě (bC qR qK Ć Ć))) Ć)) (Ě (bC qR qK Ć Ć))) Ć)) İ) (Ľ (v_sub (ŗ (ā 0) (aN (Ŷ Ć (ā 1)) Ć)) Ć))
def Hl(T:Tx K mg a):ģ P w K mg base Ũ 2 a.PK a.Rj ["_law_cell","_law_wide"] (ş ⟨K,ĵ a⟩ 2 cW):=by
 refine ĸ T.dW.F gG λ_ _ _ _ _ _ hr hu=>?_
 exact Ĵ gG (ĉ (Hi T) T.cC hr Ď (Đ 0 (ċ ĥ ď))) (ē (zj (ğ (oO (ż rfl T.aH (ą ĥ ė)) bH Ť (ğ (ĉ (n_ T) T.ŧ hr Ď (ċ (Ĳ (ā 1) (ā 2)) (Đ 0 ď)))))) (zE rfl (Ļ (aO gG) (Ļ (aO gG) dF)))) (Ĵ gG (ĉ (Hj T) T.cD hr Ď (ċ (Ĳ (ā 2) Ć) ď)) (Ĵ gG (ť (v_mod (Ī (ā 2) Ć) Ć)) (ē (ŝ (t_eq hu (ā 4) Ć) (Ľ (Į (ą fL (ą (ğ (ō (ą (iw (ā 5) Ć) (ą (iw (ā 6) Ć) (ą (v_var 3) ė))))) ė)))) İ) (ē (ŝ (t_eq hu (ā 4) Ć) (ē (zj (ğ (ō (ą (v_sub (aN (ā 5) (ŗ (Ī (ā 2) Ć) Ć)) Ć) (ą (v_sub (aN (ā 6) (ŗ (Ī (ā 2) Ć) Ć)) Ć) ė)))) (zE rfl (Ļ (aO gG) (Ļ (aO gG) dF)))) (Ľ (Į (ą fL (ą (ğ (ō (ą (v_var 5) (ą (v_var 6) (ą (v_add (ā 7) (Ě (ZaC Vm Vn T.Za6 PyProof.Rows.boot_int (Ĝ (Ě (v_eq hu (Ě (Į (ą (v_var 5) (ą (v_var 6) ė)))) (Ě (Į (ą (v_var 7) (ą (v_var 8) ė)))))) ħ)))) (ą (v_var 8) (ą (v_var 3) ė))))))) ė))))) İ) (ē (ŝ (t_eq hu (ā 4) Ć) (Ľ (Į (ą fL (ą (v_add (aN (Ě (ğ (ō (ą (v_var 5) (ą (v_var 6) (ą (v_mod (Ī (ā 2) Ć) Ć) ė)))))) (Ě (ğ (ō (ą (ğ (ĉ (n_ T) T.ŧ hr Ď (ċ (Ĳ (ā 2) Ć) (Đ 1 ď)))) (ą (ğ (ĉ (n_ T) T.ŧ hr Ď (ċ (Ĳ (ā 2) Ć) (Đ 1 ď)))) (ą (v_var 3) ė))))))) (Ě (ğ (ō (ą (ğ (ĉ (n_ T) T.ŧ hr Ď (ċ (Ĳ (ā 2) Ć) (Đ 1 ď)))) (ą (ğ (ĉ (n_ T) T.ŧ hr Ď (ċ (Ĳ (ā 2) Ć) (Đ 1 ď)))) (ą (ğ (ĉ (Hj T) T.cD hr Ď (ċ (Ĳ (ā 2) Ć) ď))) ė))))))) ė)))) İ) (Ľ (Į (ą (Ĳ (Ě (ğ (ō (ą fL (ą fL ė))))) (ni (ā 4) Ć)) (ą (ğ (ō (ą (v_var 5) (ą (v_var 6) (ą (v_add (aN (ā 5) Ć) (ŗ (Ī (ā 2) Ć) Ć)) (ą (v_add (aN (ā 6) Ć) (ŗ (Ī (ā 2) Ć) Ć)) (ą (v_var 3) ė))))))) ė))))))))))
def dX(T:Tx K mg a):ģ P w K mg base Ũ 1 a.PL a.Rk ["_law_script","_law_k"] (ş ⟨K,ĵ a⟩ 2 ŉ):=by
 refine ĸ T.ř.F Wo λ_ _ _ _ _ _ _ _=>?_
 exact ē (ŝ (ů eG dY (ā 1) (Ě (ž ao au T.cY PySem.boot_len (Ĝ (ā 0) ħ))) (Ķ _)) (Ľ (Ĳ (ā 0) (ā 1))) İ) (Ľ ĥ)
def oh(T:Tx K mg a):ģ P w K mg base Ũ 1 a.PN a.Rm ["number"] (ş ⟨K,ĵ a⟩ 1 kY):=by
 refine ĸ T.aA.F Wq λ_ _ _ _ _ _ _ _=>?_
 exact Ľ (pK bM bM bL bL (Ě (gQ ŭ ū (Ě (Js (.int 1000000000) (jf (v:=.int 1000000000) rfl T.jC ⟨_,rfl⟩))))) (ā 0) (Ě (Js (.int 1000000000) (jf (v:=.int 1000000000) rfl T.jC ⟨_,rfl⟩))))
def Ho(T:Tx K mg a):ģ P w K mg base Ũ 1 a.P_ a.Rn ["number"] (ş ⟨K,ĵ a⟩ 1 uY):=by
 refine ĸ T.gD.F Wr λ_ _ _ _ _ _ _ _=>?_
 exact Ľ (pK bM bM bL bL Ć (ā 0) (Ě (Js (.int 1000000000) (jf (v:=.int 1000000000) rfl T.iK ⟨_,rfl⟩))))
def Xk(T:Tx K mg a):ģ P w K mg base Ũ 2 a.Qa a.Ro ["numbers"] (ş ⟨K,ĵ a⟩ 1 uZ):=by
 refine ĸ T.jy.F Ws λ_ _ _ _ _ _ hr hu=>?_
 exact Ľ (v_and (v_eq hu (Ě (ž ao au T.cY PySem.boot_len (Ĝ (ā 0) ħ))) Ć) (v_and (ğ (ĉ (oh T) T.aA hr Ď (ċ (Ĳ (ā 0) Ć) ď))) (v_and (ğ (ĉ (oh T) T.aA hr Ď (ċ (Ĳ (ā 0) Ć) ď))) (kj (ğ (ĉ (Ho T) T.gD hr Ď (ċ (Ĳ (ā 0) Ć) ď)))))))
def Hq(T:Tx K mg a):ģ P w K mg base Ũ 1 a.lG a.Bg ["self","word","numbers"] (HJ ⟨K,ĵ a⟩ 3 "Post" rT):=by
 refine XS (cm:=ĵ a) (mb:=eU) T.ī.F vC rfl rfl rfl λcdv A outer s H E hr=>?_
 have hu:=hr.units
 exact ē (Ž ["Thing","Post","Fence","Sail","Cloth","House"] (Zy T) (pv 0) (v_var 1)) (Ĩ (Ž ["Thing","Post","Fence","Sail","Cloth","House"] (Z7 T) (pv 0) (ğ (rH aY aZ T.cF PyProof.Rows.boot_list (Ĝ (ā 2) ħ)))))
def Bh(T:Tx K mg a):ģ P w K mg base Ũ 1 a.lG a.Bg ["self","word","numbers"] (HJ ⟨K,ĵ a⟩ 3 "Fence" nA):=by
 refine XS (cm:=ĵ a) (mb:=eU) T.ī.F vC rfl rfl rfl λcdv A outer s H E hr=>?_
 have hu:=hr.units
 exact ē (Ž ["Thing","Post","Fence","Sail","Cloth","House"] (Zy T) (pv 0) (v_var 1)) (Ĩ (Ž ["Thing","Post","Fence","Sail","Cloth","House"] (Z7 T) (pv 0) (ğ (rH aY aZ T.cF PyProof.Rows.boot_list (Ĝ (ā 2) ħ)))))
def Hr(T:Tx K mg a):ģ P w K mg base Ũ 1 a.lG a.Bg ["self","word","numbers"] (HJ ⟨K,ĵ a⟩ 3 "Sail" rW):=by
 refine XS (cm:=ĵ a) (mb:=eU) T.ī.F vC rfl rfl rfl λcdv A outer s H E hr=>?_
 have hu:=hr.units
 exact ē (Ž ["Thing","Post","Fence","Sail","Cloth","House"] (Zy T) (pv 0) (v_var 1)) (Ĩ (Ž ["Thing","Post","Fence","Sail","Cloth","House"] (Z7 T) (pv 0) (ğ (rH aY aZ T.cF PyProof.Rows.boot_list (Ĝ (ā 2) ħ)))))
def Bj(T:Tx K mg a):ģ P w K mg base Ũ 1 a.lG a.Bg ["self","word","numbers"] (HJ ⟨K,ĵ a⟩ 3 "Cloth" nC):=by
 refine XS (cm:=ĵ a) (mb:=eU) T.ī.F vC rfl rfl rfl λcdv A outer s H E hr=>?_
 have hu:=hr.units
 exact ē (Ž ["Thing","Post","Fence","Sail","Cloth","House"] (Zy T) (pv 0) (v_var 1)) (Ĩ (Ž ["Thing","Post","Fence","Sail","Cloth","House"] (Z7 T) (pv 0) (ğ (rH aY aZ T.cF PyProof.Rows.boot_list (Ĝ (ā 2) ħ)))))
def Bk(T:Tx K mg a):ģ P w K mg base Ũ 1 a.lG a.Bg ["self","word","numbers"] (HJ ⟨K,ĵ a⟩ 3 "House" nD):=by
 refine XS (cm:=ĵ a) (mb:=eU) T.ī.F vC rfl rfl rfl λcdv A outer s H E hr=>?_
 have hu:=hr.units
 exact ē (Ž ["Thing","Post","Fence","Sail","Cloth","House"] (Zy T) (pv 0) (v_var 1)) (Ĩ (Ž ["Thing","Post","Fence","Sail","Cloth","House"] (Z7 T) (pv 0) (ğ (rH aY aZ T.cF PyProof.Rows.boot_list (Ĝ (ā 2) ħ)))))
def Hs(T:Tx K mg a):ģ P w K mg base Ũ 2 a.Qc a.Rq ["numbers"] (ş ⟨K,ĵ a⟩ 1 ql):=by
 refine ĸ T.bI.F Wt λ_ _ _ _ _ _ hr hu=>?_
 exact Ľ (v_and (v_eq hu (Ě (ž ao au T.cY PySem.boot_len (Ĝ (ā 0) ħ))) Ć) (v_and (ž (wj rfl) wM T.Gx PyProof.Rows.boot_all (Ĝ (Ě (ğ (oO (fU (ğ (dO (ā 0) DP (aQ ĥ)))) bH Ť (ğ (ĉ (oh T) T.aA hr Ď (Đ 0 ď)))))) ħ)) (kj (ğ (ĉ (Ho T) T.gD hr Ď (ċ (Ĳ (ā 0) Ć) ď))))))
def Xl(T:Tx K mg a):ģ P w K mg base Ũ 3 a.Qd a.Rr ["numbers"] (ş ⟨K,ĵ a⟩ 1 u_):=by
 refine ĸ T.iI.F Wu λ_ _ _ _ _ _ hr hu=>?_
 exact Ľ (v_and (ğ (ĉ (Hs T) T.bI hr Ď (Đ 0 ď))) (kj (jk Ls (CP hu) (Ě (ğ (dO (ā 0) DP (aQ ĥ)))) (Ě (ğ (dO (ā 0) (aQ ĥ) (aQ ĥ)))) (Ķ _))))
def RL(T:Tx K mg a):ģ P w K mg base Ũ 3 a.ZaV a.Za4 ["numbers"] (ş ⟨K,ĵ a⟩ 1 Bf):=by
 refine ĸ T.Ŝ.F Zbb λ_ _ _ _ _ _ hr _=>?_
 exact Ľ (v_and (ğ (ĉ (Hs T) T.bI hr Ď (Đ 0 ď))) (v_and (jk eG dY (Ī (ā 0) Ć) (Ī (ā 0) Ć) (Ķ _)) (kj (jk eG dY (Ī (ā 0) Ć) (Ī (ā 0) Ć) (Ķ _)))))
def Zbh(T:Tx K mg a):ģ P w K mg base Ũ 2 a.ZaW a.Za5 ["numbers"] (ş ⟨K,ĵ a⟩ 1 Kg):=by
 refine ĸ T.bU.F Zbc λ_ _ _ _ _ _ hr _=>?_
 exact Ľ (v_and (ğ (ĉ (oh T) T.aA hr Ď (ċ (Ĳ (ā 0) Ć) ď))) (v_and (ğ (ĉ (oh T) T.aA hr Ď (ċ (Ĳ (ā 0) Ć) ď))) (kj (pK bM bM bL bL Ć (Ī (ā 0) Ć) (Ě (Js (.int 1000000000) (jf (v:=.int 1000000000) rfl T.iK ⟨_,rfl⟩)))))))
def Xm(T:Tx K mg a):ģ P w K mg base Ũ 3 a.Qe a.Rt ["numbers"] (ş ⟨K,ĵ a⟩ 1 vd):=by
 refine ĸ T.iJ.F Wv λ_ _ _ _ _ _ hr hu=>?_
 exact Ľ (v_and (v_eq hu (Ě (ž ao au T.cY PySem.boot_len (Ĝ (ā 0) ħ))) Ć) (kj (ž (wj rfl) wM T.Gx PyProof.Rows.boot_all (Ĝ (Ě (ğ (oO (fU (Į (ą ĥ (ą ĥ (ą ĥ ė))))) bH Ť (ğ (ĉ (Zbh T) T.bU hr Ď (ċ (ğ (dO (ā 0) (aQ (v_var 1)) (aQ (v_add (ā 1) Ć)))) ď)))))) ħ))))
def Ht(T:Tx K mg a):ģ P w K mg base Ũ 4 a.Qf a.Ru ["word","numbers"] (ş ⟨K,ĵ a⟩ 2 aW):=by
 refine ĸ T.i_.F Ww λ_ _ _ _ _ _ hr hu=>?_
 exact ē (ŝ (PW.pt (w_and (t_eq hu (ā 0) pW) (b_ (fM (Ě (ğ (ĉ (Xk T) T.jy hr Ď (Đ 1 ď)))))))) (Ľ (fY T.VN (Hq T) ŵ hr.mo rfl (Z2y T) T.ī.b Ď (Đ 0 (Đ 1 ď)))) İ) (ē (ŝ (PW.pt (w_and (t_eq hu (ā 0) pW) (b_ (fM (Ě (ğ (ĉ (Xl T) T.iI hr Ď (Đ 1 ď)))))))) (Ľ (fY T.Kq (Bh T) ŵ hr.mo rfl (Z21 T) T.ī.b Ď (Đ 0 (Đ 1 ď)))) İ) (ē (ŝ (PW.pt (w_and (t_eq hu (ā 0) pW) (b_ (fM (Ě (ğ (ĉ (RL T) T.Ŝ hr Ď (Đ 1 ď)))))))) (Ľ (fY T.VP (Hr T) ŵ hr.mo rfl (Z2z T) T.ī.b Ď (Đ 0 (Đ 1 ď)))) İ) (ē (ŝ (PW.pt (w_and (t_eq hu (ā 0) pW) (b_ (fM (Ě (ğ (ĉ (Xm T) T.iJ hr Ď (Đ 1 ď)))))))) (Ľ (fY T.Kr (Bj T) ŵ hr.mo rfl (Z22 T) T.ī.b Ď (Đ 0 (Đ 1 ď)))) İ) (ē (ŝ (PW.pt (w_and (t_eq hu (ā 0) pW) (b_ (fM (Ě (ğ (ĉ (RL T) T.Ŝ hr Ď (Đ 1 ď)))))))) (Ľ (fY T.Ks (Bk T) ŵ hr.mo rfl (Z23 T) T.ī.b Ď (Đ 0 (Đ 1 ď)))) İ) (Ĩ qO)))))
def Xn(T:Tx K mg a):ģ P w K mg base Ũ 2 a.Qg a.Rv ["_law_cell"] (ş ⟨K,ĵ a⟩ 1 vf):=by
 refine ĸ T.nO.F yu λ_ _ _ _ _ _ hr _=>?_
 exact Ĵ yu (ĉ (Hi T) T.cC hr Ď (Đ 0 (ċ ĥ ď))) (Ĵ yu (ť (Ĳ (Ě (ğ (ō (ą ĥ (ą ĥ (ą ĥ (ą (bC qR qK Ć Ć) ė))))))) (ŗ (Ī (ā 1) Ć) Ć))) (Ľ (Į (ą (v_mul (ni (ŗ (Ī (ā 1) Ć) Ć) Ć) (ā 2)) (ą (v_mul (ni (ŗ (Ī (ā 1) Ć) Ć) Ć) (ā 2)) (ą (v_mul (aN Ć (ŗ (Ī (ā 1) Ć) Ć)) (ā 2)) ė))))))
def Hv(T:Tx K mg a):ģ P w K mg base Ũ 3 a.Qh a.Rw ["_law_cell"] (ş ⟨K,ĵ a⟩ 1 iD):=by
 refine ĸ T.gF.F Wx λ_ _ _ _ _ _ hr hu=>?_
 exact ē (ŝ (t_eq hu (ŗ (iy (ā 0) Ć) Ć) Ć) (Ľ uh) İ) (ń (ĉ (Xn T) T.nO hr Ď (Đ 0 ď)))
def Xo(T:Tx K mg a):ģ P w K mg base Ũ 1 a.Qi a.Rx ["_law_one","_law_other"] (ş ⟨K,ĵ a⟩ 2 zR):=by
 refine ĸ T.jz.F Wy λ_ _ _ _ _ _ _ _=>?_
 exact ń (cV (Ě (ž Cy DW T.RJ PyProof.Rows.boot_abs (Ĝ (ni (Ī (ā 0) Ć) (Ī (ā 1) Ć)) ħ))) (Ě (ž Cy DW T.RJ PyProof.Rows.boot_abs (Ĝ (ni (Ī (ā 0) Ć) (Ī (ā 1) Ć)) ħ))))
def Xp(T:Tx K mg a):ģ P w K mg base Ũ 2 a.Qj a.Ry ["_law_paper","_law_size_here","_law_goal"] (ş ⟨K,ĵ a⟩ 3 vg):=by
 refine ĸ T.jA.F tE λ_ _ _ _ _ _ hr hu=>?_
 exact ē (bD PassesOwn.leaving rfl (ż rfl T.aH (ą (ž ao au T.cY PySem.boot_len (Ĝ (ā 0) ħ)) ė)) (aO tE) (Ĩ (bD PassesOwn.leaving rfl (ż rfl T.aH (ą (v_mul (Ī (ā 1) Ć) (Ī (ā 1) Ć)) ė)) (aO tE) (Ĵ tE (ĉ (Xo T) T.jz hr Ď (ċ (Į (ą (v_mod (ā 4) (Ī (ā 1) Ć)) (ą (iw (ā 4) (Ī (ā 1) Ć)) ė))) (Đ 2 ď))) (Ĩ (ŝ (Vt hu (Ě (jk mR iQ (Ī (Ī (ā 0) (ā 3)) (ā 4)) jr (Ķ _))) (Ě (jk Zah YF (aN (ā 5) (ā 3)) (Ě (ž ao au T.cY PySem.boot_len (Ĝ (ā 0) ħ))) (Ķ _)))) (Ľ ug) İ)))))) (Ľ ug)
def yD(T:Tx K mg a):ģ P w K mg base Ũ 1 a.Qk a.Rz ["_law_size_here","_law_stone"] (ş ⟨K,ĵ a⟩ 2 qm):=by
 refine ĸ T.aG.F Wz λ_ _ _ _ _ _ _ _=>?_
 exact ń (cV (Ŷ (Ī (ā 1) Ć) (Ī (ā 0) Ć)) (Ī (ā 1) Ć))
def Xq(T:Tx K mg a):ģ P w K mg base Ũ 2 a.Ql a.RD ["_law_paper","_law_size_here","_law_sets","_law_stones","_law_goal"] (ş ⟨K,ĵ a⟩ 5 vh):=by
 refine ĸ T.jB.F gH λ_ _ _ _ _ _ hr hu=>?_
 exact Ĵ gH (ť ĥ) (ē (bD PassesOwn.leaving rfl (EY rfl T.aH (ą (v_sub (Ě (ž ao au T.cY PySem.boot_len (Ĝ (ā 3) ħ))) Ć) (ą (gQ ŭ ū Ć) (ą (gQ ŭ ū Ć) ė)))) (aO gH) (Ĵ gH (ĉ (yD T) T.aG hr Ď (Đ 1 (ċ (Ĳ (ā 3) (ā 6)) ď))) (Ĵ gH (ť (v_sub Ć (ŗ (Ě (bC wH wK (Ī (ā 2) (ā 6)) (ā 7))) Ć))) (Ĵ gH (cV (ā 5) (ā 8)) (Ĵ gH (ť (Ĳ (Ī (ā 0) (ā 6)) (ā 7))) (ē (ŝ (PW.pt (w_and (t_eq hu (Ī (ā 3) (Ě (gQ ŭ ū Ć))) (ā 4)) (b_ (PW.pt (w_or (ů mR iQ (ā 9) jr (Ķ _)) (Lg (ů uE tZ (ā 9) (ā 5) (Ķ _)))))))) (Ľ ug) İ) (Ĩ (ŝ (ů eG dY (aN (ā 6) Ć) (Ě (ž ao au T.cY PySem.boot_len (Ĝ (ā 3) ħ))) (Ķ _)) (Ĵ gH (ť (Ĳ (Ī (ā 0) (aN (ā 6) Ć)) (Ě (ğ (ĉ (yD T) T.aG hr Ď (Đ 1 (ċ (Ĳ (ā 3) (aN (ā 6) Ć)) ď))))))) (Ĩ (ŝ (PW.pt (w_and (ů uF yM (ā 10) jr (Ķ _)) (b_ (PW.pt (w_or (ů mR iQ (ā 9) jr (Ķ _)) (Lg (ů uE tZ (ā 9) (aN (ā 8) (ā 10)) (Ķ _)))))))) (Ľ ug) İ))) İ)))))))) (Ľ ug))
def Xr(T:Tx K mg a):ģ P w K mg base Ũ 1 a.Qm a.RG ["_law_stone","_law_cell","_law_size_here"] (ş ⟨K,ĵ a⟩ 3 zT):=by
 refine ĸ T.lu.F jd λ_ _ _ _ _ _ _ _=>?_
 exact ē (zj (v_var 0) (zE rfl (Ļ (aO jd) (Ļ (aO jd) dF)))) (Ĵ jd (ō (ą (Į (ą (v_var 5) (ą (v_var 6) ė))) (ą (Į (ą (v_sub (ā 5) Ć) (ą (v_var 6) ė))) (ą (Į (ą (v_add (ā 5) Ć) (ą (v_var 6) ė))) (ą (Į (ą (v_var 5) (ą (v_sub (ā 6) Ć) ė))) (ą (Į (ą (v_var 5) (ą (v_add (ā 6) Ć) ė))) ė)))))) (Ĵ jd (ō ė) (ē (bD PassesOwn.leaving rfl (aq 3) (uo rfl (Ļ (aO jd) (Ļ (aO jd) dF))) (Ĩ (ŝ (PW.pt (w_and (Lf bM eG bL dY Ć (ā 7) (Ī (ā 2) Ć)) (b_ (Lf bM eG bL dY Ć (ā 8) (Ī (ā 2) Ć))))) (Ĩ (PS.wk (Ż (g_ PySem.F.plainAttrs_list PySem.F.slot_list_append PySem.F.type_list_append Ņ (pv 4) (ą (Į (ą (v_var 7) (ą (v_var 8) ė))) ė))) λ_ _ _ h=>aF h)) İ))) (Ľ (Ĳ (ā 4) (ŗ (ā 1) (Ě (ž ao au T.cY PySem.boot_len (Ĝ (ā 4) ħ)))))))))
def Xu(T:Tx K mg a):ģ P w K mg base Ũ 12 a.Qn a.Gu ["_law_script"] (ş ⟨K,ĵ a⟩ 1 qt):=by
 refine ĸ T.Gw.F Ō λ_ _ _ _ _ _ hr hu=>?_
 exact Ĵ Ō (ĉ (WD T) T.kZ hr Ď (ċ (ğ (ĉ (dX T) T.ř hr Ď (Đ 0 (ċ ĥ ď)))) (ċ ĥ ď))) (ē (rJ Ō (fU (ğ (dO (ā 0) (aQ ĥ) (aQ ĥ)))) bH Ť (ğ (ĉ (Hl T) T.dW hr Ď (Đ 1 (ċ (ž (qY rfl) qZ T.vo PyProof.Rows.boot_max (Ĝ (ā 0) ħ)) ď))))) (ē (rJ Ō (aq 2) (uo rfl (Ļ bH (Ļ bH dF))) Ť (ğ (ĉ (Ht T) T.i_ hr Ď (Đ 0 (ċ (ğ (rH aY aZ T.cF PyProof.Rows.boot_list (Ĝ (ā 1) ħ))) ď))))) (ē (rJ Ō (ż rfl T.aH (ą (v_add Ć (ŗ (Ě (ğ (ĉ (dX T) T.ř hr Ď (Đ 0 (ċ ĥ ď))))) Ć)) ė)) bH Ť (ğ (ĉ (Hv T) T.gF hr Ď (ċ (ğ (ĉ (dX T) T.ř hr Ď (Đ 0 (ċ (v_add Ć (ā 1)) ď)))) ď)))) (Ĵ Ō (ť (fY T.xY (nZ T) ŵ hr.mo rfl (Z0j T) T.Ű.b Ď (ċ (Ĳ (ā 1) Ć) (ċ (Ĳ (ā 1) Ć) (Đ 3 (ċ (ğ (ō (ą (Į (ą fL (ą ĥ (ą (v_var 4) ė)))) ė))) ď)))))) (Ĵ Ō (ō (ą (Į (ą (v_mod (Ě (ğ (ĉ (dX T) T.ř hr Ď (Đ 0 (ċ ĥ ď))))) (Ī (ā 1) Ć)) (ą (v_mod (iy (Ě (ğ (ĉ (dX T) T.ř hr Ď (Đ 0 (ċ ĥ ď))))) Ć) (Ī (ā 1) Ć)) ė))) ė)) (ē (PS.wk (Ż (g_ PySem.F.plainAttrs_list PySem.F.slot_list_append PySem.F.type_list_append Ņ (pv 6) (ą (Į (ą (v_mod (Ě (ğ (ĉ (dX T) T.ř hr Ď (Đ 0 (ċ ĥ ď))))) (Ī (ā 1) Ć)) (ą (v_mod (iy (Ě (ğ (ĉ (dX T) T.ř hr Ď (Đ 0 (ċ ĥ ď))))) Ć) (Ī (ā 1) Ć)) ė))) ė))) λ_ _ _ h=>aF h) (Ĵ Ō (ō (ą (Ĳ (ā 6) Ć) ė)) (ē (bD PassesOwn.leaving rfl (fU (ğ (dO (ā 0) (aQ ĥ) (aQ (v_add Ć (Ě (ž ao au T.cY PySem.boot_len (Ĝ (ā 4) ħ)))))))) (aO Ō) (Ĩ (PS.wk (Ż (g_ PySem.F.plainAttrs_list PySem.F.slot_list_append PySem.F.type_list_append Ņ (pv 7) (ą (ğ (ĉ (Xr T) T.lu hr Ď (ċ (Ĳ (ā 7) (Ě (gQ ŭ ū Ć))) (Đ 8 (Đ 1 ď))))) ė))) λ_ _ _ h=>aF h))) (ē (rJ Ō (aq 4) bH Ť (ğ (ĉ (G_ T) T.xX hr Ď (Đ 0 (Đ 1 ď))))) (Ĵ Ō (ĉ (Hh T) T.dU hr Ď (Đ 5 (ċ ĥ (ċ (Ĳ (ā 6) Ć) (ċ (Ĳ (ā 6) Ć) ď))))) (ē (ŝ (zc (fM (Ě (ğ (ĉ (Xp T) T.jA hr Ď (ċ (Ĳ (ā 10) (Ě (gQ ŭ ū Ć))) (Đ 1 (ċ (Ĳ (ā 6) Ć) ď)))))))) (Ľ ug) İ) (ē (ŝ (zc (fM (Ě (ğ (ĉ (Xq T) T.jB hr Ď (ċ (Ĳ (ā 10) (Ě (gQ ŭ ū Ć))) (Đ 1 (Đ 9 (Đ 7 (ċ (Ĳ (ā 6) Ć) ď)))))))))) (Ľ ug) İ) (Ĵ Ō (ĉ (yC T) T.bT hr Ď (Đ 5 (Đ 6 ď))) (ē (ŝ (t_eq hu (Ī (ā 7) (Ě (gQ ŭ ū Ć))) (Ī (ā 6) Ć)) (Ĵ Ō (ť ĥ) (ē (bD PassesOwn.leaving rfl (ż rfl T.aH (ą (ž ao au T.cY PySem.boot_len (Ĝ (ā 7) ħ)) ė)) (aO Ō) (Ĩ (A_ Ō (ť (v_sub (aN (ā 14) Ć) (ŗ (Ě (bC wH wK (Ī (ā 9) (ā 15)) (Ě (ğ (ĉ (yD T) T.aG hr Ď (Đ 1 (ċ (Ĳ (ā 7) (ā 15)) ď))))))) Ć)))))) (Ĩ (ŝ (ů uE tZ (ā 11) (ā 14) (Ķ _)) (Ľ ug) İ)))) İ) (ē (zj (ğ (ĉ (Hl T) T.dW hr Ď (ċ (iw (Ě (ğ (ĉ (dX T) T.ř hr Ď (Đ 0 (ċ ĥ ď))))) Ć) (ċ (ž (qY rfl) qZ T.vo PyProof.Rows.boot_max (Ĝ (ā 1) ħ)) ď)))) (zE rfl (Ļ (aO Ō) (Ļ (aO Ō) dF)))) (Ĵ Ō (cV (ā 3) (Ě (ğ (ō (ą (ğ (ĉ (Ht T) T.i_ hr Ď (Đ 16 (ċ (ğ (rH aY aZ T.cF PyProof.Rows.boot_list (Ĝ (ā 17) ħ))) ď)))) ė))))) (Ĵ Ō (ť (fY T.xY (nZ T) ŵ hr.mo rfl (Z0j T) T.Ű.b Ď (ċ (Ĳ (ā 1) Ć) (ċ (Ĳ (ā 1) Ć) (Đ 12 (ċ (ğ (ō (ą (Į (ą fL (ą ĥ (ą (v_var 4) ė)))) ė))) ď)))))) (Ĵ Ō (cV (ā 4) (Ě (ğ (ō (ą (ğ (ĉ (Hv T) T.gF hr Ď (ċ (iw (Ě (ğ (ĉ (dX T) T.ř hr Ď (Đ 0 (ċ ĥ ď))))) Ć) ď))) ė))))) (Ĵ Ō (ť (fY T.xY (nZ T) ŵ hr.mo rfl (Z0j T) T.Ű.b Ď (ċ (Ĳ (ā 1) Ć) (ċ (Ĳ (ā 1) Ć) (Đ 3 (ċ (ğ (ō (ą (Į (ą fL (ą ĥ (ą (v_var 4) ė)))) ė))) ď)))))) (Ľ (v_and (jk bM bL (Ě (ğ (ĉ (yC T) T.bT hr Ď (Đ 12 (Đ 6 ď))))) (ā 11) (Ķ _)) (kj (jk bM bL (Ě (ğ (ĉ (yC T) T.bT hr Ď (Đ 13 (Đ 6 ď))))) (ā 11) (Ķ _))))))))))))))))))))))))
end
def pt(p:Hu.Pt):PV:=.tup [.int p.1,.int p.2]
def fu(l:Hu.Ln):PV:=.tup [.int l.1,.int l.2.1,.int l.2.2]
def Sm(p:Hu.Pt):Prop:=-100000000000000000<=p.1/\p.1<=100000000000000000/\ -100000000000000000<=p.2/\p.2<=100000000000000000
def RM(l:Hu.Ln):Prop:=-1000000000000000000<=l.1/\l.1<=1000000000000000000/\ -1000000000000000000<=l.2.1/\l.2.1<=1000000000000000000
def Z0z{x y:Hu.Pt}:eqB (pt y) (pt x)=decide (y=x):=by
 obtain⟨a,b⟩:=x
 obtain⟨c,d⟩:=y
 unfold pt
 rw[Vq,Bool.eq_iff_iff]
 simp
def ZY(x:Hu.Pt):Ź (pt x)=true:=by simp[pt,Ź,cj]
def ZU(x:Hu.Pt):dep (pt x)=1:=by simp[pt,dep,wL]
def Z2P(S:List Hu.Pt):cj (S.map pt)=true:=by
 induction S with
 |nil=>simp[cj]
 |cons p S ih=>simp[cj,ZY,ih]
theorem Z1D(x:Hu.Pt):∀k:List Hu.Pt,(k.map pt).any (λy=>eqB y (pt x))=decide (x∈k)
 | []=>by simp
 |y::k=>by
  rw[List.map_cons,List.any_cons,Z1D x k,Z0z,Bool.eq_iff_iff]
  simp
  constructor
  ·rintro (e|e)
   ·exact .inl e.symm
   ·exact .inr e
  ·rintro (e|e)
   ·exact .inl e.symm
   ·exact .inr e
def Z0A(x:Hu.Pt)(k:List Hu.Pt):inD true (pt x) (.lst (k.map pt))=some (.bl (!decide (x∈k))):=by
 unfold inD
 simp only[ZY,Z2P,ZU,Z1D]
 rfl
def Z1h(x y:Hu.Pt):fj (pt x) (pt y)=some (.bl (!decide (x=y))):=by
 unfold fj qW
 rw[ZY,ZY,ZU,ZU,Z0z]
 rfl
def Z2A{a b:Hu.Pt}(ha:Sm a)(hb:Sm b):zM [.sh (pt a),.sh (pt b)]=.ret (.sh (fu (Hu.Z4 a b))):=by
 obtain⟨a1,a2,a3,a4⟩:=ha
 obtain⟨b1,b2,b3,b4⟩:=hb
 have m1:Ł (b.2-a.2) a.1=true:=aj (by omega) (by omega)
 have m2:Ł (a.1-b.1) a.2=true:=aj (by omega) (by omega)
 simp[zM,Fp,List.replicate,pt,fu,Hu.Z4,m1,m2]
def Z24{l:Hu.Ln}(hl:RM l)(p:Hu.Pt):pY [.sh (fu l),.sh (pt p)]=.ret (.sh (.bl (Hu.hd l p))):=by
 obtain⟨a1,a2,a3,a4⟩:=hl
 have m1:Ł l.1 p.1=true:=aj (by omega) (by omega)
 have m2:Ł l.2.1 p.2=true:=aj (by omega) (by omega)
 simp[pY,Fq,List.replicate,pt,fu,Hu.hd,m1,m2]
def Z16{a b:Hu.Pt}(ha:Sm a)(hb:Sm b):RM (Hu.Z4 a b):=by
 obtain⟨a1,a2,a3,a4⟩:=ha
 obtain⟨b1,b2,b3,b4⟩:=hb
 simp only[RM,Hu.Z4]
 omega
def Sl(s:P.Slot)(ps:List PV):Prop:=s=.sh (.lst ps)\/s=.bw ps
def Sl.lend{s:P.Slot}{ps:List PV}(h:Sl s ps):cM s=some s:=by rcases h with rfl|rfl<;>rfl
def Sl.it{s:P.Slot}{ps:List PV}(h:Sl s ps){i:Nat}{ρ:ľ}(e:ρ[i]?=some s):Ŋ i ρ=.ok ps ρ:= by
 rcases h with rfl|rfl<;>simp[e]
def Z2B{S:List Hu.Pt}{sl:P.Slot}(hs:Sl sl (S.map pt))(hl:S.length<=1000):zL [sl]=.ret (.ow ((Hu.Z3 S).map pt)):=by
 have hlen:∀(xs k:List Hu.Pt),(xs.foldl (λk x=>if x∈k then k else k ++ [x]) k).length<=k.length+xs.length:=by
  intro xs
  induction xs with
  |nil=>intro k;simp
  |cons x xs ih=>
   intro k
   rw[List.foldl_cons]
   refine Nat.le_trans (ih _) ?_
   split
   ·simp
   ·simp;omega
 have key:∀(xs:List Hu.Pt) (k:List Hu.Pt) (s2:P.Slot),k.length+xs.length<=1000->∃s2',forL (gN 2) jQ (xs.map pt) [sl,.ow (k.map pt),s2]=.ok .nx [sl,.ow ((xs.foldl (λk x=>if x∈k then k else k ++ [x]) k).map pt),s2']:=by
  intro xs
  induction xs with
  |nil=>intro k s2 _;exact⟨s2,rfl⟩
  |cons x xs ih=>
   intro k s2 hk
   rw[List.length_cons] at hk
   by_cases hx:x∈k
   ·obtain⟨s2',e⟩:=ih k (.sh (pt x)) (by omega)
    refine⟨s2',?_⟩
    have hb:jQ [sl,.ow (k.map pt),.sh (pt x)]=.ok .nx [sl,.ow (k.map pt),.sh (pt x)]:=by simp[jQ,Z0A,hx]
    rw[List.map_cons,List.foldl_cons,if_pos hx,forL]
    simp[hb,e]
   ·obtain⟨s2',e⟩:=ih (k ++ [x]) (.sh (pt x)) (by simp;omega)
    refine⟨s2',?_⟩
    have h3:k.length<16777216:=by omega
    have hb:jQ [sl,.ow (k.map pt),.sh (pt x)]=.ok .nx [sl,.ow ((k ++ [x]).map pt),.sh (pt x)]:=by simp[jQ,Z0A,hx,h3]
    rw[List.map_cons,List.foldl_cons,if_neg hx,forL]
    simp only[Eb,List.set_cons_succ,List.set_cons_zero,hb,Res.aD]
    exact e
 obtain⟨s2,e⟩:=key S [] .no (by simpa using hl)
 have hit:=hs.it (i:=0) (ρ:= [sl,.ow [],.no]) rfl
 simp only[List.map_nil] at e
 simp[zL,Fo,List.replicate,-wN,hit,e]
 rfl
def Z1E(x:Int)(l:List Int):eN [.lst ((x::l).map .int)]=some (.int (Hu.mx (x::l))):=by
 show((intsOf ((x::l).map .int)).bind (best max)).map PV.int=_
 rw[iV]
 rfl
def Z1F(x:Int)(l:List Int):pR [.lst ((x::l).map .int)]=some (.int (Hu.mn (x::l))):=by
 show((intsOf ((x::l).map .int)).bind (best min)).map PV.int=_
 rw[iV]
 rfl
def Z2Q{S:List Hu.Pt}{sl:P.Slot}(hs:Sl sl (S.map pt))(h0:S≠[])(hl:S.length<=1000):zK [sl]=.ret (.ow ((Hu.box S).map fu)):=by
 have c1:ļ (gN 0) ł (ă đ (Ā 0) (mC (.int 0))) (S.map pt) [.no] []=some ((S.map (·.1)).map .int):=by
  have:=ņ (g:=gN 0) (mt:=ł) (me:=ă đ (Ā 0) (mC (.int 0))) pt (λp=>.int p.1) (λρ=>∃s,ρ=[s]) S [.no] [] ⟨_,rfl⟩ (by simp;omega) (by
   rintro x hx ρ ⟨s,rfl⟩
   exact⟨[.sh (pt x)],[.sh (pt x)],[.sh (pt x)],by simp,by simp,by simp[pt],_,rfl⟩)
  rw[this]
  simp
 have c2:ļ (gN 0) ł (ă đ (Ā 0) (mC (.int 1))) (S.map pt) [.no] []=some ((S.map (·.2)).map .int):=by
  have:=ņ (g:=gN 0) (mt:=ł) (me:=ă đ (Ā 0) (mC (.int 1))) pt (λp=>.int p.2) (λρ=>∃s,ρ=[s]) S [.no] [] ⟨_,rfl⟩ (by simp;omega) (by
   rintro x hx ρ ⟨s,rfl⟩
   exact⟨[.sh (pt x)],[.sh (pt x)],[.sh (pt x)],by simp,by simp,by simp[pt],_,rfl⟩)
  rw[this]
  simp
 obtain⟨p,R,rfl⟩:=List.exists_cons_of_ne_nil h0
 have x1:=Z1E p.1 (R.map (·.1))
 have x2:=Z1F p.1 (R.map (·.1))
 have x3:=Z1E p.2 (R.map (·.2))
 have x4:=Z1F p.2 (R.map (·.2))
 have hit:∀s1 s2,Ŋ 0 [sl,s1,s2]=.ok ((p::R).map pt) [sl,s1,s2]:=λs1 s2=>hs.it rfl
 have b:(Hu.box (p::R)).map fu=[.tup [.int 1,.int 0,.int (Hu.mx (p.1::R.map (·.1)))],.tup [.int (-1),.int 0,.int (- Hu.mn (p.1::R.map (·.1)))],.tup [.int 0,.int 1,.int (Hu.mx (p.2::R.map (·.2)))],.tup [.int 0,.int (-1),.int (- Hu.mn (p.2::R.map (·.2)))]]:=rfl
 rw[b]
 generalize (p::R).map pt=ps at hit c1 c2
 rw[List.map_cons] at c1 c2
 generalize (p.1::R.map (·.1)).map PV.int=us at c1 x1 x2
 generalize (p.2::R.map (·.2)).map PV.int=vs at c2 x3 x4
 simp[zK,Fj,List.replicate,-wN,-JQ,-JR,hit,c1,c2,x1,x2,x3,x4]
theorem Z0t:∀l:List Bool,boolsOf (l.map .bl)=some l
 | []=>rfl
 |x::l=>by rw[List.map_cons,boolsOf,Z0t l];rfl
def Z2R(l:List Bool):uH [.lst (l.map .bl)]=some (.bl (l.all id)):=by
 show(boolsOf (l.map .bl)).map (λbs=>PV.bl (bs.all id))=_
 rw[Z0t]
 rfl
def ZL(S:List Hu.Pt):(Hu.Z3 S).length<=S.length:=by
 have:∀(xs k:List Hu.Pt),(xs.foldl (λk x=>if x∈k then k else k ++ [x]) k).length<=k.length+xs.length:=by
  intro xs
  induction xs with
  |nil=>intro k;simp
  |cons x xs ih=>
   intro k
   rw[List.foldl_cons]
   refine Nat.le_trans (ih _) ?_
   split
   ·simp
   ·simp;omega
 have h:=this S []
 rw[List.length_nil,Nat.zero_add] at h
 exact h
def Z1G{S:List Hu.Pt}(hS:∀p∈S,Sm p)(hl:S.length<=1000){a b:Hu.Pt}(ha:a∈S)(hb:b∈S)(s0 s5:P.Slot)(L:List Hu.Ln)(hL:L.length<16777216) :
 jR [s0,.ow (L.map fu),.sh (.lst ((Hu.Z3 S).map pt)),.sh (pt a),.sh (pt b),s5]=.ok .nx [s0,.ow ((L++(if a≠b/\(Hu.Z3 S).all (Hu.hd (Hu.Z4 a b)) then[Hu.Z4 a b] else[])).map fu),.sh (.lst ((Hu.Z3 S).map pt)),.sh (pt a),.sh (pt b),.sh (fu (Hu.Z4 a b))]:=by
 have hsm:=Z16 (hS a ha) (hS b hb)
 have c1:ļ (gN 1) ł (č (Č pY (Ą 0 (Ą 1 Ċ)))) ((Hu.Z3 S).map pt) [.sh (fu (Hu.Z4 a b)),.no] []=some (((Hu.Z3 S).map (Hu.hd (Hu.Z4 a b))).map .bl):=by
  have hlen:(Hu.Z3 S).length<=16777216:=by have:=ZL S;omega
  have:=ņ (g:=gN 1) (mt:=ł) (me:=č (Č pY (Ą 0 (Ą 1 Ċ)))) pt (λp=>.bl (Hu.hd (Hu.Z4 a b) p)) (λρ=>∃s,ρ=[.sh (fu (Hu.Z4 a b)),s]) (Hu.Z3 S) [.sh (fu (Hu.Z4 a b)),.no] [] ⟨_,rfl⟩ (by simpa using hlen) (by
   rintro x hx ρ ⟨s,rfl⟩
   exact⟨[.sh (fu (Hu.Z4 a b)),.sh (pt x)],[.sh (fu (Hu.Z4 a b)),.sh (pt x)],[.sh (fu (Hu.Z4 a b)),.sh (pt x)],by simp,by simp,by simp[Z24 hsm],_,rfl⟩)
  rw[this]
  simp
 have c2:=Z2R ((Hu.Z3 S).map (Hu.hd (Hu.Z4 a b)))
 have e1:=Z2A (hS a ha) (hS b hb)
 have e3:((Hu.Z3 S).map (Hu.hd (Hu.Z4 a b))).all id=(Hu.Z3 S).all (Hu.hd (Hu.Z4 a b)):=by simp
 rw[e3] at c2
 generalize ((Hu.Z3 S).map (Hu.hd (Hu.Z4 a b))).map PV.bl=bs at c1 c2
 by_cases h1:a=b
 ·subst h1
  simp[jR,e1,Z1h]
 ·by_cases h2:(Hu.Z3 S).all (Hu.hd (Hu.Z4 a b))=true
  ·rw[h2] at c2
   simp[jR,e1,Z1h,h1,c1,c2,h2,hL,-List.all_eq_true]
  ·rw[Bool.not_eq_true] at h2
   rw[h2] at c2
   simp[jR,e1,Z1h,h1,c1,c2,h2,hL,-List.all_eq_true,-List.all_eq_false]
def Z25{S:List Hu.Pt}(hS:∀p∈S,Sm p)(hl:S.length<=1000){a:Hu.Pt}(ha:a∈S)(s0:P.Slot):∀(xs:List Hu.Pt) (L:List Hu.Ln) (s4 s5:P.Slot),(∀x∈xs,x∈S)->L.length+xs.length<16777216->
 ∃tK wF,forL (gN 4) jR (xs.map pt) [s0,.ow (L.map fu),.sh (.lst ((Hu.Z3 S).map pt)),.sh (pt a),s4,s5]=.ok .nx [s0,.ow ((L++xs.filterMap λb=>if a≠b/\(Hu.Z3 S).all (Hu.hd (Hu.Z4 a b)) then some (Hu.Z4 a b) else none).map fu),.sh (.lst ((Hu.Z3 S).map pt)),.sh (pt a),tK,wF]:=by
 intro xs
 induction xs with
 |nil=>intro L s4 s5 _ _;exact⟨s4,s5,by simp[forL]⟩
 |cons b xs ih=>
  intro L s4 s5 hx hL
  rw[List.length_cons] at hL
  have hb:=Z1G hS hl ha (hx b (by simp)) s0 s5 L (by omega)
  obtain⟨tK,wF,e⟩:=ih (L++(if a≠b/\(Hu.Z3 S).all (Hu.hd (Hu.Z4 a b)) then[Hu.Z4 a b] else[])) (.sh (pt b)) (.sh (fu (Hu.Z4 a b))) (λx h=>hx x (List.mem_cons_of_mem _ h)) (by
   rw[List.length_append]
   split
   ·simp;omega
   ·simp;omega)
  refine⟨tK,wF,?_⟩
  rw[List.map_cons,forL]
  simp only[Eb,List.set_cons_succ,List.set_cons_zero,hb,Res.aD]
  rw[e,List.filterMap_cons]
  by_cases hc:a≠b/\(Hu.Z3 S).all (Hu.hd (Hu.Z4 a b))=true
  ·rw[if_pos hc,if_pos hc]
   simp only[List.append_assoc,List.cons_append,List.nil_append]
  ·rw[if_neg hc,if_neg hc]
   simp only[List.append_nil]
def ZR{α β:Type}(f:α->Option β)(l:List α):(l.filterMap f).length<=l.length:=List.length_filterMap_le ..
def Z26{S:List Hu.Pt}(hS:∀p∈S,Sm p)(hl:S.length<=1000)(s0:P.Slot):∀(xs:List Hu.Pt) (L:List Hu.Ln) (s3 s4 s5:P.Slot),(∀x∈xs,x∈S)->L.length+xs.length*1000<10000000->
 ∃s3' tK wF,forL (gN 3) rM (xs.map pt) [s0,.ow (L.map fu),.sh (.lst ((Hu.Z3 S).map pt)),s3,s4,s5]=.ok .nx [s0,.ow ((L++xs.flatMap λa=>(Hu.Z3 S).filterMap λb=>if a≠b/\(Hu.Z3 S).all (Hu.hd (Hu.Z4 a b)) then some (Hu.Z4 a b) else none).map fu),.sh (.lst ((Hu.Z3 S).map pt)),s3',tK,wF]:=by
 intro xs
 induction xs with
 |nil=>intro L s3 s4 s5 _ _;exact⟨s3,s4,s5,by simp[forL]⟩
 |cons a xs ih=>
  intro L s3 s4 s5 hx hL
  rw[List.length_cons] at hL
  have ho:=ZL S
  obtain⟨a4,a5,e1⟩:=Z25 hS hl (hx a (by simp)) s0 (Hu.Z3 S) L s4 s5 (λx h=>Hu.Zo.mp h) (by omega)
  have hf:=ZR (λb=>if a≠b/\(Hu.Z3 S).all (Hu.hd (Hu.Z4 a b))=true then some (Hu.Z4 a b) else none) (Hu.Z3 S)
  obtain⟨s3',tK,wF,e2⟩:=ih (L++(Hu.Z3 S).filterMap λb=>if a≠b/\(Hu.Z3 S).all (Hu.hd (Hu.Z4 a b))=true then some (Hu.Z4 a b) else none) (.sh (pt a)) a4 a5 (λx h=>hx x (List.mem_cons_of_mem _ h)) (by rw[List.length_append];omega)
  refine⟨s3',tK,wF,?_⟩
  have hb:rM [s0,.ow (L.map fu),.sh (.lst ((Hu.Z3 S).map pt)),.sh (pt a),s4,s5]=.ok .nx [s0,.ow ((L++(Hu.Z3 S).filterMap λb=>if a≠b/\(Hu.Z3 S).all (Hu.hd (Hu.Z4 a b))=true then some (Hu.Z4 a b) else none).map fu),.sh (.lst ((Hu.Z3 S).map pt)),.sh (pt a),a4,a5]:=by
   unfold rM
   simp only[Vj,wN,List.getElem?_cons_succ,List.getElem?_cons_zero,Res.aD]
   exact e1
  rw[List.map_cons,forL]
  simp only[Eb,List.set_cons_succ,List.set_cons_zero,hb,Res.aD]
  rw[e2,List.flatMap_cons,List.append_assoc]
def Z27{S:List Hu.Pt}{sl:P.Slot}(hs:Sl sl (S.map pt))(hS:∀p∈S,Sm p)(hl:S.length<=1000):zN [sl]=.ret (.ow ((Hu.ZF S).map fu)):=by
 have h1:=Z2B hs hl
 have ho:=ZL S
 obtain⟨s3,s4,s5,e⟩:=Z26 hS hl sl (Hu.Z3 S) [] .no .no .no (λx h=>Hu.Zo.mp h) (by simp;omega)
 have he:[]++((Hu.Z3 S).flatMap λa=>(Hu.Z3 S).filterMap λb=>if a≠b/\(Hu.Z3 S).all (Hu.hd (Hu.Z4 a b))=true then some (Hu.Z4 a b) else none)=Hu.ZF S:=rfl
 rw[he] at e
 generalize Hu.ZF S=ed at e
 generalize (Hu.Z3 S).map pt=os at e h1
 simp only[List.map_nil] at e
 simp[zN,Ft,List.replicate,hs.lend,h1,e]
def Z1H(S:List Hu.Pt)(hl:S.length<=1000):(Hu.ZF S).length<=1000000:=by
 have ho:=ZL S
 have:∀(xs:List Hu.Pt) (f:Hu.Pt->List Hu.Ln),(∀x,(f x).length<=1000)->(xs.flatMap f).length<=xs.length*1000:=by
  intro xs f hf
  induction xs with
  |nil=>simp
  |cons x xs ih=>rw[List.flatMap_cons,List.length_append,List.length_cons];have:=hf x;omega
 refine Nat.le_trans (this (Hu.Z3 S) _ λx=>Nat.le_trans (ZR _ _) (by omega)) (by omega)
def Z28{S:List Hu.Pt}{sl:P.Slot}(hs:Sl sl (S.map pt))(hS:∀p∈S,Sm p)(h0:S≠[])(hl:S.length<=1000):zO [sl]=.ret (.ow ((Hu.Zp S).map fu)):=by
 have h1:=Z2Q hs h0 hl
 have h2:=Z27 hs hS hl
 have h3:ĝ (.lst ((Hu.box S).map fu)) (.lst ((Hu.ZF S).map fu))=some (.ow ((Hu.Zp S).map fu)):=by
  rw[add_l (by have:=Z1H S hl;simp[Hu.box];omega),<-List.map_append]
  rfl
 simp[zO,Fv,List.replicate,hs.lend,h1,h2,h3]
def Z2S{S:List Hu.Pt}{l:Hu.Ln}(h:l∈Hu.Zp S)(hS:∀p∈S,Sm p):RM l:=by
 rcases List.mem_append.mp h with h|h
 ·unfold Hu.box at h
  simp only[List.mem_cons,List.not_mem_nil,or_false] at h
  rcases h with e|e|e|e<;>subst e<;>simp only[RM]<;>omega
 ·obtain⟨a,ha,b,hb,_,_,rfl⟩:=Hu.Z1C.mp h
  exact Z16 (hS a ha) (hS b hb)
def Z1i(n:Nat):bF 0 n 1=(List.range n).map λ(i:Nat)=>PV.int (i:Int):=by
 unfold bF
 refine List.map_congr_left λi _=>?_
 simp
def ZV{n:Nat}(h:n<=1000):aV [.int (n:Int)]=some ((List.range n).map λ(i:Nat)=>PV.int (i:Int)):=by
 have hs:cg (n:Int)=true:=by unfold cg;simp;omega
 unfold aV
 simp[hs,Z1i]
def RN(s:P.Slot)(ps:List PV):Prop:=s=.sh (.lst ps)\/s=.bw ps
def ŷ(x:Int):Bool:=decide (-1000000000<=x/\x<=1000000000)
def vI(x:Int):Bool:=decide (1<=x/\x<=1000000000)
def vJ(x:Int):Bool:=decide (0<=x/\x<=1000000000)
def Z03(x:Int):kY [.sh (.int x)]=.ret (.sh (.bl (ŷ x))):=by
 unfold ŷ
 by_cases h1: -1000000000<=x<;>by_cases h2:x<=1000000000<;>simp[kY,Gb,List.replicate,h1,h2]
def Z0u(x:Int):uY [.sh (.int x)]=.ret (.sh (.bl (vI x))):=by
 unfold vI
 by_cases h1:1<=x<;>by_cases h2:x<=1000000000<;>simp[uY,Gd,List.replicate,h1,h2]
def Zi:List Int->Bool
 | [p,q,h]=>ŷ p && ŷ q && vI h
 |_=>false
def Zj:List Int->Bool
 | [x,y,u,v,h]=>ŷ x && ŷ y && ŷ u && ŷ v && vI h
 |_=>false
def Zg:List Int->Bool
 | [x,y,u,v,h]=>Zj [x,y,u,v,h] && !(decide (x=u) && decide (y=v))
 |_=>false
def Zd:List Int->Bool
 | [x,y,u,v,h]=>Zj [x,y,u,v,h] && decide (x<u) && decide (y<v)
 |_=>false
def Zh:List Int->Bool
 | [a,b,c,d,e,f,g,h,i]=>ŷ a && ŷ b && vJ c && (ŷ d && ŷ e && vJ f) && (ŷ g && ŷ h && vJ i)
 |_=>false
def Z2T(a b c:Bool):uH [.lst [.bl a,.bl b,.bl c]]=some (.bl (a && b && c)):=by cases a<;>cases b<;>cases c<;>rfl
def Z2U(a b c d:Bool):uH [.lst [.bl a,.bl b,.bl c,.bl d]]=some (.bl (a && b && c && d)):=by cases a<;>cases b<;>cases c<;>cases d<;>rfl
def Z0y{xs:List Int}{sl:P.Slot}(hs:RN sl (xs.map .int)):uZ [sl]=.ret (.sh (.bl (Zi xs))):=by
 by_cases hl:xs.length=3
 ·match xs,hl with
  | [a,b,c],_=>
    have h:Zi [a,b,c]=(ŷ a && ŷ b && vI c):=rfl
    rw[h]
    rcases hs with rfl|rfl<;>cases ea:ŷ a<;>cases eb:ŷ b<;>cases ec:vI c<;>simp[uZ,xK,List.replicate,Z03,Z0u,ea,eb,ec]
 ·have h:Zi xs=false:=by
   unfold Zi
   split
   ·simp at hl
   ·rfl
  rw[h]
  have hl':¬((xs.length:Nat):Int)=3:=by omega
  rcases hs with rfl|rfl<;>simp[uZ,xK,List.replicate,hl']
def Z17{xs:List Int}{sl:P.Slot}(hs:RN sl (xs.map .int)):ql [sl]=.ret (.sh (.bl (Zj xs))):=by
 by_cases hl:xs.length=5
 ·match xs,hl with
  | [a,b,c,d,e],_=>
    have h:Zj [a,b,c,d,e]=(ŷ a && ŷ b && ŷ c && ŷ d && vI e):=rfl
    rw[h]
    have hc:iU ([.int a,.int b,.int c,.int d,.int e]:List PV) none (some 4)=[.int a,.int b,.int c,.int d]:=rfl
    have hb:=Z2U (ŷ a) (ŷ b) (ŷ c) (ŷ d)
    rcases hs with rfl|rfl<;>cases ea:(ŷ a && ŷ b && ŷ c && ŷ d)<;>cases ec:vI e<;>rw[ea] at hb<;>simp[ql,xM,List.replicate,Z03,Z0u,hc,ļ,hb,ec]
 ·have h:Zj xs=false:=by
   unfold Zj
   split
   ·simp at hl
   ·rfl
  rw[h]
  have hl':¬((xs.length:Nat):Int)=5:=by omega
  rcases hs with rfl|rfl<;>simp[ql,xM,List.replicate,hl']
def Z2V(a b c d:Int):fj (.lst [.int a,.int b]) (.lst [.int c,.int d])=some (.bl (!(decide (a=c) && decide (b=d)))):=by
 have h:eqB (.lst [.int a,.int b]) (.lst [.int c,.int d])=(decide (a=c) && decide (b=d)):=by
  simp[eqB,dJ]
  rw[Bool.eq_iff_iff]
  simp
 unfold fj qW
 rw[h]
 simp[Ź,cj,dep,wL]
def Z2t{xs:List Int}(hl:¬xs.length=5):Zj xs=false:=by
 unfold Zj
 split
 ·simp at hl
 ·rfl
def Z1j{s:P.Slot}{ps:List PV}(h:RN s ps):cM s=some s:=by rcases h with rfl|rfl<;>rfl
def Z29{xs:List Int}{sl:P.Slot}(hs:RN sl (xs.map .int)):u_ [sl]=.ret (.sh (.bl (Zg xs))):=by
 have he:=Z17 hs
 by_cases hl:xs.length=5
 ·match xs,hl with
  | [a,b,c,d,e],_=>
    have h:Zg [a,b,c,d,e]=(Zj [a,b,c,d,e] && !(decide (a=c) && decide (b=d))):=rfl
    rw[h]
    have h1:iU ([.int a,.int b,.int c,.int d,.int e]:List PV) none (some 2)=[.int a,.int b]:=rfl
    have h2:iU ([.int a,.int b,.int c,.int d,.int e]:List PV) (some 2) (some 4)=[.int c,.int d]:=rfl
    have h3:=Z2V a b c d
    generalize Zj [a,b,c,d,e]=q at *
    generalize (!(decide (a=c) && decide (b=d)))=r at *
    rcases hs with rfl|rfl<;>cases q<;>simp_all [u_,xO,List.replicate]
 ·have h:Zg xs=false:=by
   unfold Zg
   split
   ·simp at hl
   ·rfl
  rw[h]
  rw[Z2t hl] at he
  simp[u_,xO,List.replicate,Z1j hs,he]
def Z2C{xs:List Int}{sl:P.Slot}(hs:RN sl (xs.map .int)):Bf [sl]=.ret (.sh (.bl (Zd xs))):=by
 have he:=Z17 hs
 by_cases hl:xs.length=5
 ·match xs,hl with
  | [a,b,c,d,e],_=>
    have h:Zd [a,b,c,d,e]=(Zj [a,b,c,d,e] && decide (a<c) && decide (b<d)):=rfl
    rw[h]
    generalize Zj [a,b,c,d,e]=q at *
    rcases hs with rfl|rfl<;>simp only[List.map_cons,List.map_nil] at he<;>cases q<;>by_cases h1:a<c<;>by_cases h2:b<d<;>simp[Bf,Ge,List.replicate,he,h1,h2]
 ·have h:Zd xs=false:=by
   unfold Zd
   split
   ·simp at hl
   ·rfl
  rw[h]
  rw[Z2t hl] at he
  simp[Bf,Ge,List.replicate,Z1j hs,he]
def ZW(a b c:Int):Kg [.sh (.lst [.int a,.int b,.int c])]=.ret (.sh (.bl (ŷ a && ŷ b && vJ c))):=by
 unfold vJ
 cases ea:ŷ a<;>cases eb:ŷ b<;>by_cases h1:0<=c<;>by_cases h2:c<=1000000000<;>simp[Kg,Og,List.replicate,Z03,ea,eb,h1,h2]
def Z2a{xs:List Int}{sl:P.Slot}(hs:RN sl (xs.map .int)):vd [sl]=.ret (.sh (.bl (Zh xs))):=by
 by_cases hl:xs.length=9
 ·match xs,hl with
  | [a,b,c,d,e,f,g,h,i],_=>
    have hc:Zh [a,b,c,d,e,f,g,h,i]=((ŷ a && ŷ b && vJ c) && (ŷ d && ŷ e && vJ f) && (ŷ g && ŷ h && vJ i)):=rfl
    rw[hc]
    have h1:iU ([.int a,.int b,.int c,.int d,.int e,.int f,.int g,.int h,.int i]:List PV) (some 0) (some 3)=[.int a,.int b,.int c]:=rfl
    have h2:iU ([.int a,.int b,.int c,.int d,.int e,.int f,.int g,.int h,.int i]:List PV) (some 3) (some 6)=[.int d,.int e,.int f]:=rfl
    have h3:iU ([.int a,.int b,.int c,.int d,.int e,.int f,.int g,.int h,.int i]:List PV) (some 6) (some 9)=[.int g,.int h,.int i]:=rfl
    have hb:=Z2T (ŷ a && ŷ b && vJ c) (ŷ d && ŷ e && vJ f) (ŷ g && ŷ h && vJ i)
    have k1:=ZW a b c
    have k2:=ZW d e f
    have k3:=ZW g h i
    generalize (ŷ a && ŷ b && vJ c)=q1 at *
    generalize (ŷ d && ŷ e && vJ f)=q2 at *
    generalize (ŷ g && ŷ h && vJ i)=q3 at *
    rcases hs with rfl|rfl<;>simp[vd,xP,List.replicate,ļ,h1,h2,h3,k1,k2,k3,hb]
 ·have h:Zh xs=false:=by
   unfold Zh
   split
   ·simp at hl
   ·rfl
  rw[h]
  have hl':¬((xs.length:Nat):Int)=9:=by omega
  rcases hs with rfl|rfl<;>simp[vd,xP,List.replicate,hl']
def Zk(w:Str):String:=if w= "post" then "Post" else if w= "fence" then "Fence" else if w= "sail" then "Sail" else if w= "cloth" then "Cloth" else "House"
def Z8(C:String)(w:Str)(xs:List Int):PV:=.ins C ["word","numbers"] [.str w,.lst (xs.map .int)]
def Z6(w:Str)(xs:List Int):Bool:=if w= "post" then Zi xs else if w= "fence" then Zg xs else if w= "sail" then Zd xs else if w= "cloth" then Zh xs else if w= "house" then Zd xs else false
def wn:((Str.ofString "word")=(Str.ofString "numbers"))=False:=eq_false (by decide +kernel)
def ZH{C:String}(hC:(["Thing","Post","Fence","Sail","Cloth","House"]:List String).contains C=true)(w:Str){xs:List Int}{sl:P.Slot}(hs:RN sl (xs.map .int)):bN 3 3 C eU [.sh (.str w),sl]=.ok ["word","numbers"] [.str w,.lst (xs.map .int)]:=by
 rcases hs with rfl|rfl<;>simp[bN,eU,iu,IR.of,List.replicate,putN,wQ,hC,wn,-List.contains_eq_mem,-List.contains_cons]
def s1:PyData.strOk (Str.ofString "post")=true:=by decide +kernel
def s2:PyData.strOk (Str.ofString "fence")=true:=by decide +kernel
def s3:PyData.strOk (Str.ofString "sail")=true:=by decide +kernel
def s4:PyData.strOk (Str.ofString "cloth")=true:=by decide +kernel
def s5:PyData.strOk (Str.ofString "house")=true:=by decide +kernel
def d12:(Str.ofString "post" =Str.ofString "fence")=False:=eq_false (by decide +kernel)
def d13:(Str.ofString "post" =Str.ofString "sail")=False:=eq_false (by decide +kernel)
def d14:(Str.ofString "post" =Str.ofString "cloth")=False:=eq_false (by decide +kernel)
def d15:(Str.ofString "post" =Str.ofString "house")=False:=eq_false (by decide +kernel)
def d23:(Str.ofString "fence" =Str.ofString "sail")=False:=eq_false (by decide +kernel)
def d24:(Str.ofString "fence" =Str.ofString "cloth")=False:=eq_false (by decide +kernel)
def d25:(Str.ofString "fence" =Str.ofString "house")=False:=eq_false (by decide +kernel)
def d34:(Str.ofString "sail" =Str.ofString "cloth")=False:=eq_false (by decide +kernel)
def d35:(Str.ofString "sail" =Str.ofString "house")=False:=eq_false (by decide +kernel)
def d45:(Str.ofString "cloth" =Str.ofString "house")=False:=eq_false (by decide +kernel)
def Z0B{w:Str}(hw:PyData.strOk w=true){xs:List Int}{sl:P.Slot}(hs:RN sl (xs.map .int)):aW [.sh (.str w),sl]=if Z6 w xs=true then .ret (.sh (Z8 (Zk w) w xs)) else .bad:=by
 have e1:=cT hw s1
 have e2:=cT hw s2
 have e3:=cT hw s3
 have e4:=cT hw s4
 have e5:=cT hw s5
 have p1:=Z0y hs
 have p2:=Z29 hs
 have p3:=Z2C hs
 have p4:=Z2a hs
 have i1:rT [.sh (.str w),sl]=_:=ZH (by decide) w hs
 have i2:nA [.sh (.str w),sl]=_:=ZH (by decide) w hs
 have i3:rW [.sh (.str w),sl]=_:=ZH (by decide) w hs
 have i4:nC [.sh (.str w),sl]=_:=ZH (by decide) w hs
 have i5:nD [.sh (.str w),sl]=_:=ZH (by decide) w hs
 have hle:=Z1j hs
 unfold Z6 Zk Z8
 by_cases h1:w=Str.ofString "post"
 ·have n2:¬w=Str.ofString "fence" := λz=>(d12▸(h1.symm.trans z):False)
  have n3:¬w=Str.ofString "sail" := λz=>(d13▸(h1.symm.trans z):False)
  have n4:¬w=Str.ofString "cloth" := λz=>(d14▸(h1.symm.trans z):False)
  have n5:¬w=Str.ofString "house" := λz=>(d15▸(h1.symm.trans z):False)
  rw[decide_eq_true h1] at e1
  rw[decide_eq_false n2] at e2
  rw[decide_eq_false n3] at e3
  rw[decide_eq_false n4] at e4
  rw[decide_eq_false n5] at e5
  have hg:(if w=Str.ofString "post" then Zi xs else if w=Str.ofString "fence" then Zg xs else if w=Str.ofString "sail" then Zd xs else if w=Str.ofString "cloth" then Zh xs else if w=Str.ofString "house" then Zd xs else false)=Zi xs:=by rw[if_pos h1]
  have hc:(if w=Str.ofString "post" then "Post" else if w=Str.ofString "fence" then "Fence" else if w=Str.ofString "sail" then "Sail" else if w=Str.ofString "cloth" then "Cloth" else "House")= "Post" := by rw[if_pos h1]
  rw[hg,hc]
  cases q:Zi xs<;>rw[q] at p1<;>simp[aW,iY,ũ,List.replicate,e1,e2,e3,e4,e5,hle,p1,i1]
 ·skip
  by_cases h2:w=Str.ofString "fence"
  ·have n1:=h1
   have n3:¬w=Str.ofString "sail" := λz=>(d23▸(h2.symm.trans z):False)
   have n4:¬w=Str.ofString "cloth" := λz=>(d24▸(h2.symm.trans z):False)
   have n5:¬w=Str.ofString "house" := λz=>(d25▸(h2.symm.trans z):False)
   rw[decide_eq_true h2] at e2
   rw[decide_eq_false n1] at e1
   rw[decide_eq_false n3] at e3
   rw[decide_eq_false n4] at e4
   rw[decide_eq_false n5] at e5
   have hg:(if w=Str.ofString "post" then Zi xs else if w=Str.ofString "fence" then Zg xs else if w=Str.ofString "sail" then Zd xs else if w=Str.ofString "cloth" then Zh xs else if w=Str.ofString "house" then Zd xs else false)=Zg xs:=by rw[if_neg n1,if_pos h2]
   have hc:(if w=Str.ofString "post" then "Post" else if w=Str.ofString "fence" then "Fence" else if w=Str.ofString "sail" then "Sail" else if w=Str.ofString "cloth" then "Cloth" else "House")= "Fence" := by rw[if_neg n1,if_pos h2]
   rw[hg,hc]
   cases q:Zg xs<;>rw[q] at p2<;>simp[aW,iY,ũ,List.replicate,e1,e2,e3,e4,e5,hle,p2,i2]
  ·skip
   by_cases h3:w=Str.ofString "sail"
   ·have n1:=h1
    have n2:=h2
    have n4:¬w=Str.ofString "cloth" := λz=>(d34▸(h3.symm.trans z):False)
    have n5:¬w=Str.ofString "house" := λz=>(d35▸(h3.symm.trans z):False)
    rw[decide_eq_true h3] at e3
    rw[decide_eq_false n1] at e1
    rw[decide_eq_false n2] at e2
    rw[decide_eq_false n4] at e4
    rw[decide_eq_false n5] at e5
    have hg:(if w=Str.ofString "post" then Zi xs else if w=Str.ofString "fence" then Zg xs else if w=Str.ofString "sail" then Zd xs else if w=Str.ofString "cloth" then Zh xs else if w=Str.ofString "house" then Zd xs else false)=Zd xs:=by rw[if_neg n1,if_neg n2,if_pos h3]
    have hc:(if w=Str.ofString "post" then "Post" else if w=Str.ofString "fence" then "Fence" else if w=Str.ofString "sail" then "Sail" else if w=Str.ofString "cloth" then "Cloth" else "House")= "Sail" := by rw[if_neg n1,if_neg n2,if_pos h3]
    rw[hg,hc]
    cases q:Zd xs<;>rw[q] at p3<;>simp[aW,iY,ũ,List.replicate,e1,e2,e3,e4,e5,hle,p3,i3]
   ·skip
    by_cases h4:w=Str.ofString "cloth"
    ·have n1:=h1
     have n2:=h2
     have n3:=h3
     have n5:¬w=Str.ofString "house" := λz=>(d45▸(h4.symm.trans z):False)
     rw[decide_eq_true h4] at e4
     rw[decide_eq_false n1] at e1
     rw[decide_eq_false n2] at e2
     rw[decide_eq_false n3] at e3
     rw[decide_eq_false n5] at e5
     have hg:(if w=Str.ofString "post" then Zi xs else if w=Str.ofString "fence" then Zg xs else if w=Str.ofString "sail" then Zd xs else if w=Str.ofString "cloth" then Zh xs else if w=Str.ofString "house" then Zd xs else false)=Zh xs:=by rw[if_neg n1,if_neg n2,if_neg n3,if_pos h4]
     have hc:(if w=Str.ofString "post" then "Post" else if w=Str.ofString "fence" then "Fence" else if w=Str.ofString "sail" then "Sail" else if w=Str.ofString "cloth" then "Cloth" else "House")= "Cloth" := by rw[if_neg n1,if_neg n2,if_neg n3,if_pos h4]
     rw[hg,hc]
     cases q:Zh xs<;>rw[q] at p4<;>simp[aW,iY,ũ,List.replicate,e1,e2,e3,e4,e5,hle,p4,i4]
    ·skip
     by_cases h5:w=Str.ofString "house"
     ·have n1:=h1
      have n2:=h2
      have n3:=h3
      have n4:=h4
      rw[decide_eq_true h5] at e5
      rw[decide_eq_false n1] at e1
      rw[decide_eq_false n2] at e2
      rw[decide_eq_false n3] at e3
      rw[decide_eq_false n4] at e4
      have hg:(if w=Str.ofString "post" then Zi xs else if w=Str.ofString "fence" then Zg xs else if w=Str.ofString "sail" then Zd xs else if w=Str.ofString "cloth" then Zh xs else if w=Str.ofString "house" then Zd xs else false)=Zd xs:=by rw[if_neg n1,if_neg n2,if_neg n3,if_neg n4,if_pos h5]
      have hc:(if w=Str.ofString "post" then "Post" else if w=Str.ofString "fence" then "Fence" else if w=Str.ofString "sail" then "Sail" else if w=Str.ofString "cloth" then "Cloth" else "House")= "House" := by rw[if_neg n1,if_neg n2,if_neg n3,if_neg n4]
      rw[hg,hc]
      cases q:Zd xs<;>rw[q] at p3<;>simp[aW,iY,ũ,List.replicate,e1,e2,e3,e4,e5,hle,p3,i5]
     ·skip
      rw[decide_eq_false h1] at e1
      rw[decide_eq_false h2] at e2
      rw[decide_eq_false h3] at e3
      rw[decide_eq_false h4] at e4
      rw[decide_eq_false h5] at e5
      rw[if_neg h1,if_neg h2,if_neg h3,if_neg h4,if_neg h5]
      simp[aW,iY,ũ,List.replicate,e1,e2,e3,e4,e5]
abbrev P3:=Int×Int×Int
def c3(p:P3):PV:=.tup [.int p.1,.int p.2.1,.int p.2.2]
def ZC(x y u v z:Int):List P3:=[(x,y,z),(u,y,z),(u,v,z),(x,v,z)]
def ZZ(x y u v h:Int):List P3:=ZC x y u v 0++ZC x y u v h
def Z5(C:String)(xs:List Int):List P3:=
 if C= "Post" then(match xs with
  | [p,q,h]=>ZZ (2*p-1) (2*q-1) (2*p+1) (2*q+1) h
  |_=>[])
 else if C= "Fence" then(match xs with
  | [x,y,u,v,h]=>[(x,y,0),(u,v,0),(u,v,h),(x,y,h)]
  |_=>[])
 else if C= "Sail" then(match xs with
  | [x,y,u,v,h]=>ZC x y u v h
  |_=>[])
 else if C= "Cloth" then(match xs with
  | [a,b,c,d,e,f,g,h,i]=>[(a,b,c),(d,e,f),(g,h,i)]
  |_=>[])
 else(match xs with
  | [x,y,u,v,h]=>ZZ x y u v h
  |_=>[])
def Zm(w:Str)(xs:List Int):List P3:=Z5 (Zk w) xs
def ZX{C:String}(hC:(["Thing","Post","Fence","Sail","Cloth","House"]:List String).contains C=true)(w:Str)(xs:List Int):ő ["Thing","Post","Fence","Sail","Cloth","House"] (Str.ofString "numbers") (Z8 C w xs)=some (.lst (xs.map .int)):=by
 unfold ő Z8
 dsimp only
 rw[if_pos hC]
 have:(Str.ofString "numbers" == Str.ofString "word")=false:=by decide +kernel
 show List.lookup _ [(_,_),(_,_)]=_
 rw[List.lookup_cons,this]
 simp
def Z0C(x y u v z:Int):Bd [.sh (.int x),.sh (.int y),.sh (.int u),.sh (.int v),.sh (.int z)]=.ret (.ow ((ZC x y u v z).map c3)):=by
 simp[Bd,N_,List.replicate,ZC,c3]
def Z0D(x y u v h:Int):Fx [.sh (.int x),.sh (.int y),.sh (.int u),.sh (.int v),.sh (.int h)]=.ret (.ow ((ZZ x y u v h).map c3)):=by
 simp[Fx,Oa,List.replicate,Z0C,ZZ,ZC,add_l]
def Z2W{xs:List Int}(h:Zi xs=true)(w:Str):kI [.sh (Z8 "Post" w xs)]=.ret (.ow ((Z5 "Post" xs).map c3)):=by
 match xs,h with
 | [p,q,h],hh=>
   simp[Zi,ŷ,vI] at hh
   have hf:=ZX (C:= "Post") (by decide) w [p,q,h]
   generalize Z8 "Post" w [p,q,h]=v at *
   have e:=Z0D (2*p-1) (2*q-1) (2*p+1) (2*q+1) h
   simp[kI,Fy,List.replicate,hf,e,Z5]
def Z2D{xs:List Int}(h:Zg xs=true)(w:Str):uT [.sh (Z8 "Fence" w xs)]=.ret (.ow ((Z5 "Fence" xs).map c3)):=by
 match xs,h with
 | [x,y,u,v,h],hh=>
   have hf:=ZX (C:= "Fence") (by decide) w [x,y,u,v,h]
   generalize Z8 "Fence" w [x,y,u,v,h]=t at *
   simp[uT,Ob,List.replicate,hf,Z5,c3,ĝ]
def Z2X{xs:List Int}(h:Zd xs=true)(w:Str):kJ [.sh (Z8 "Sail" w xs)]=.ret (.ow ((Z5 "Sail" xs).map c3)):=by
 match xs,h with
 | [x,y,u,v,h],hh=>
   have hf:=ZX (C:= "Sail") (by decide) w [x,y,u,v,h]
   generalize Z8 "Sail" w [x,y,u,v,h]=t at *
   have e:=Z0C x y u v h
   simp[kJ,Fz,List.replicate,hf,e,Z5]
def Z2E{xs:List Int}(h:Zd xs=true)(w:Str):kO [.sh (Z8 "House" w xs)]=.ret (.ow ((Z5 "House" xs).map c3)):=by
 match xs,h with
 | [x,y,u,v,h],hh=>
   have hf:=ZX (C:= "House") (by decide) w [x,y,u,v,h]
   generalize Z8 "House" w [x,y,u,v,h]=t at *
   have e:=Z0D x y u v h
   simp[kO,FJ,List.replicate,hf,e,Z5]
def Z2F{xs:List Int}(h:Zh xs=true)(w:Str):uU [.sh (Z8 "Cloth" w xs)]=.ret (.ow ((Z5 "Cloth" xs).map c3)):=by
 match xs,h with
 | [a,b,c,d,e,f,g,i,j],hh=>
   have hf:=ZX (C:= "Cloth") (by decide) w [a,b,c,d,e,f,g,i,j]
   generalize Z8 "Cloth" w [a,b,c,d,e,f,g,i,j]=t at *
   simp[uU,Oc,List.replicate,hf,Z5,c3,ļ,Vi,iU]
   exact⟨rfl,rfl,rfl⟩
def cst(r p:P3):Hu.Pt:=(r.2.2*p.1+r.1*p.2.2,r.2.2*p.2.1+r.2.1*p.2.2)
def RB(r:P3):Prop:=-1000000<=r.1/\r.1<=1000000/\ -1000000<=r.2.1/\r.2.1<=1000000/\ -1000000<=r.2.2/\r.2.2<=1000000
def PB(p:P3):Prop:=-10000000000<=p.1/\p.1<=10000000000/\ -10000000000<=p.2.1/\p.2.1<=10000000000/\ -10000000000<=p.2.2/\p.2.2<=10000000000
def Z2G{r:P3}(hr:RB r)(p:P3):pZ [.sh (c3 p),.sh (c3 r)]=.ret (.sh (pt (cst r p))):=by
 obtain⟨a1,a2,a3,a4,a5,a6⟩:=hr
 have m1:Ł r.2.2 p.1=true:=aj (by omega) (by omega)
 have m2:Ł r.2.2 p.2.1=true:=aj (by omega) (by omega)
 have m3:Ł r.1 p.2.2=true:=aj (by omega) (by omega)
 have m4:Ł r.2.1 p.2.2=true:=aj (by omega) (by omega)
 simp[pZ,Fw,List.replicate,pt,c3,cst,m1,m2,m3,m4]
def Z0b{x y A B:Int}(h1: -A<=x)(h2:x<=A)(h3: -B<=y)(h4:y<=B): -(A*B)<=x*y/\x*y<=A*B:=by
 have hA:0<=A:=by omega
 have hB:0<=B:=by omega
 have e:(x*y).natAbs<=A.natAbs*B.natAbs:=by
  rw[Int.natAbs_mul]
  exact Nat.mul_le_mul (by omega) (by omega)
 have e2:((A*B).natAbs)=A.natAbs*B.natAbs:=Int.natAbs_mul A B
 have e3:0<=A*B:=Int.mul_nonneg hA hB
 omega
def Z2Y{r p:P3}(hr:RB r)(hp:PB p):Sm (cst r p):=by
 obtain⟨a1,a2,a3,a4,a5,a6⟩:=hr
 obtain⟨b1,b2,b3,b4,b5,b6⟩:=hp
 have q1:=Z0b a5 a6 b1 b2
 have q2:=Z0b a5 a6 b3 b4
 have q3:=Z0b a1 a2 b5 b6
 have q4:=Z0b a3 a4 b5 b6
 simp only[Sm,cst]
 omega
def Z1I{w:Str}{xs:List Int}(hg:Z6 w xs=true){mo:M PV}{ρ ρ1:List P.Slot}(ho:mo ρ=.ok (Z8 (Zk w) w xs) ρ1):mY (Str.ofString "corners") [("Post",kI),("Fence",uT),("Sail",kJ),("Cloth",uU),("House",kO)] mo Ċ ρ=.ok (.ow ((Zm w xs).map c3)) ρ1:=by
 have hn:(["word","numbers"]:List Str).contains (Str.ofString "corners")=false:=by decide +kernel
 have key:∀(C:String) (mf:MF),Zk w=C->List.lookup C [("Post",kI),("Fence",uT),("Sail",kJ),("Cloth",uU),("House",kO)]=some mf->mf [.sh (Z8 C w xs)]=.ret (.ow ((Z5 C xs).map c3))->mY (Str.ofString "corners") [("Post",kI),("Fence",uT),("Sail",kJ),("Cloth",uU),("House",kO)] mo Ċ ρ=.ok (.ow ((Zm w xs).map c3)) ρ1:=by
  intro C mf hC hl hf
  unfold Zm
  rw[hC] at ho ⊢
  unfold mY
  rw[ho]
  unfold Z8 at *
  simp only[Res.bind]
  rw[hl]
  dsimp only
  rw[if_neg (by rw[hn];decide)]
  simp only[Ċ,Res.bind]
  rw[hf]
 unfold Z6 at hg
 by_cases e1:w= "post"
 ·rw[if_pos e1] at hg
  exact key "Post" _ (by unfold Zk;rw[if_pos e1]) rfl (Z2W hg w)
 rw[if_neg e1] at hg
 by_cases e2:w= "fence"
 ·rw[if_pos e2] at hg
  exact key "Fence" _ (by unfold Zk;rw[if_neg e1,if_pos e2]) rfl (Z2D hg w)
 rw[if_neg e2] at hg
 by_cases e3:w= "sail"
 ·rw[if_pos e3] at hg
  exact key "Sail" _ (by unfold Zk;rw[if_neg e1,if_neg e2,if_pos e3]) rfl (Z2X hg w)
 rw[if_neg e3] at hg
 by_cases e4:w= "cloth"
 ·rw[if_pos e4] at hg
  exact key "Cloth" _ (by unfold Zk;rw[if_neg e1,if_neg e2,if_neg e3,if_pos e4]) rfl (Z2F hg w)
 rw[if_neg e4] at hg
 by_cases e5:w= "house"
 ·rw[if_pos e5] at hg
  exact key "House" _ (by unfold Zk;rw[if_neg e1,if_neg e2,if_neg e3,if_neg e4]) rfl (Z2E hg w)
 ·rw[if_neg e5] at hg
  cases hg
def Z1k{r:P3}(hr:RB r){L:List P3}(hl:L.length<=100)(s1:P.Slot):ļ (gN 1) ł (č (Č pZ (Ą 1 (Ą 0 Ċ)))) (L.map c3) [.sh (c3 r),s1] []=some ((L.map (cst r)).map pt):=by
 have:=ņ (g:=gN 1) (mt:=ł) (me:=č (Č pZ (Ą 1 (Ą 0 Ċ)))) c3 (λp=>pt (cst r p)) (λρ=>∃s,ρ=[.sh (c3 r),s]) L [.sh (c3 r),s1] [] ⟨_,rfl⟩ (by simp;omega) (by
  rintro p hp ρ ⟨s,rfl⟩
  have e:=Z2G hr p
  generalize c3 r=R at *
  generalize c3 p=Q at *
  exact⟨[R |> .sh,.sh Q],[.sh R,.sh Q],[.sh R,.sh Q],by simp,by simp,by simp[e],_,rfl⟩)
 rw[this]
 simp
def Z2b{w:Str}{xs:List Int}(hg:Z6 w xs=true)(hl:(Zm w xs).length<=100){r:P3}(hr:RB r):uV [.sh (Z8 (Zk w) w xs),.sh (c3 r)]=.ret (.ow (((Zm w xs).map (cst r)).map pt)):=by
 have h1:=Z1I hg (mo:=ě 0) (ρ:= [.sh (Z8 (Zk w) w xs),.sh (c3 r)]) (ρ1:=[.sh (Z8 (Zk w) w xs),.sh (c3 r)]) (by simp)
 have h2:=Z1k hr hl
 generalize ((Zm w xs).map (cst r)).map pt=Y at *
 generalize (Zm w xs).map c3=Z at *
 generalize Z8 (Zk w) w xs=v at *
 generalize c3 r=R at *
 simp[uV,FN,List.replicate,h1,h2,-JT]
def sto(s:Hu.Pt):P3:=(2*s.1,2*s.2,0)
def Z2c{w:Str}{xs:List Int}(hg:Z6 w xs=true):(Zm w xs).length<=8/\Zm w xs≠[]/\∀p∈Zm w xs,PB p:=by
 have hp:Zi xs=true->(Z5 "Post" xs).length<=8/\Z5 "Post" xs≠[]/\∀p∈Z5 "Post" xs,PB p:=by
  intro h
  match xs,h with
  | [a,b,c],h=>
    simp[Zi,ŷ,vI] at h
    simp[Z5,ZZ,ZC,PB]
    omega
 have hf:Zg xs=true->(Z5 "Fence" xs).length<=8/\Z5 "Fence" xs≠[]/\∀p∈Z5 "Fence" xs,PB p:=by
  intro h
  match xs,h with
  | [a,b,c,d,e],h=>
    simp[Zg,Zj,ŷ,vI] at h
    simp[Z5,PB]
    omega
 have hs:Zd xs=true->(Z5 "Sail" xs).length<=8/\Z5 "Sail" xs≠[]/\∀p∈Z5 "Sail" xs,PB p:=by
  intro h
  match xs,h with
  | [a,b,c,d,e],h=>
    simp[Zd,Zj,ŷ,vI] at h
    simp[Z5,ZC,PB]
    omega
 have hh:Zd xs=true->(Z5 "House" xs).length<=8/\Z5 "House" xs≠[]/\∀p∈Z5 "House" xs,PB p:=by
  intro h
  match xs,h with
  | [a,b,c,d,e],h=>
    simp[Zd,Zj,ŷ,vI] at h
    simp[Z5,ZZ,ZC,PB]
    omega
 have hc:Zh xs=true->(Z5 "Cloth" xs).length<=8/\Z5 "Cloth" xs≠[]/\∀p∈Z5 "Cloth" xs,PB p:=by
  intro h
  match xs,h with
  | [a,b,c,d,e,f,g,i,j],h=>
    simp[Zh,ŷ,vJ] at h
    simp[Z5,PB]
    omega
 unfold Z6 at hg
 unfold Zm Zk
 by_cases e1:w= "post"
 ·rw[if_pos e1] at hg ⊢;exact hp hg
 rw[if_neg e1] at hg ⊢
 by_cases e2:w= "fence"
 ·rw[if_pos e2] at hg ⊢;exact hf hg
 rw[if_neg e2] at hg ⊢
 by_cases e3:w= "sail"
 ·rw[if_pos e3] at hg ⊢;exact hs hg
 rw[if_neg e3] at hg ⊢
 by_cases e4:w= "cloth"
 ·rw[if_pos e4] at hg ⊢;exact hc hg
 rw[if_neg e4] at hg ⊢
 by_cases e5:w= "house"
 ·rw[if_pos e5] at hg;exact hh hg
 ·rw[if_neg e5] at hg;cases hg
def shB(w:Str)(xs:List Int)(s:Hu.Pt)(r:P3):Bool:=(Hu.Z1g ((Zm w xs).map (cst r)) (cst r (sto s))).isNone
def Z1J(b:Nat):Builtin.bitNot (b:Int)= -(b:Int)-1:=rfl
def Z1K(a b:Nat):Builtin.bitOr a b=((a ||| b:Nat):Int):=by
 unfold Builtin.bitOr Builtin.bitAnd
 rw[Z1J,Z1J]
 have h1:decide (0<= -(a:Int)-1)=false:=by simp;omega
 have h2:decide (0<= -(b:Int)-1)=false:=by simp;omega
 rw[h1,h2]
 have e1:(Builtin.bitNot (-(a:Int)-1)).toNat=a:=by unfold Builtin.bitNot;omega
 have e2:(Builtin.bitNot (-(b:Int)-1)).toNat=b:=by unfold Builtin.bitNot;omega
 simp only[e1,e2]
 unfold Builtin.bitNot
 omega
def Z2H(a k:Nat):(a:Int) / 2 ^ k=((a >>> k:Nat):Int):=by
 rw[Nat.shiftRight_eq_div_pow]
 simp
def Z2I(a k:Nat):(a:Int) / 2 ^ k % 2=if a.testBit k then 1 else 0:=by
 rw[Z2H]
 have:(a >>> k) % 2=if a.testBit k then 1 else 0:=by
  rw[Nat.testBit]
  have h:1 &&& (a >>> k)=(a >>> k) % 2:=by rw[Nat.and_comm];exact Nat.and_one_is_mod _
  rw[h]
  have:(a >>> k) % 2=0\/(a >>> k) % 2=1:=by omega
  rcases this with e|e<;>simp[e]
 by_cases q:a.testBit k=true
 ·rw[if_pos q] at this ⊢;omega
 ·rw[if_neg q] at this ⊢;omega
def Z37(a:Int):Builtin.bitAnd a 1=a % 2:=PyProof.Rows.bitAnd_m1 a
def Z2d(f l k:Nat)(h:f<=l):(2 ^ (l+1)-2 ^ f).testBit k=(decide (f<=k) && decide (k<=l)):=by
 have e:2 ^ (l+1)-2 ^ f=(2 ^ (l+1-f)-1)*2 ^ f:=by
  rw[Nat.sub_mul,<-Nat.pow_add,Nat.one_mul]
  congr 2
  omega
 rw[e,Nat.testBit_mul_two_pow,Nat.testBit_two_pow_sub_one]
 by_cases h1:f<=k
 ·simp[h1]
  by_cases h2:k<=l
  ·simp[h2];omega
  ·simp[h2];omega
 ·simp[h1]
def Z1l{a n:Nat}(h:∀k,n<=k->a.testBit k=false):a<2 ^ n:=Nat.lt_pow_two_of_testBit a h
def Z2Z{k:Nat}(h:k<=1000000):mL 1 (k:Int)=true:=by unfold mL;simp;omega
def Z18{f l:Int}{w:Nat}(hf:0<=f)(hl:l<w)(hw:w<=1000):∃B:Nat,qb [.sh (.int f),.sh (.int l)]=.ret (.sh (.int B))/\∀k:Nat,B.testBit k=(decide (f<=k) && decide ((k:Int)<=l)):=by
 by_cases h:l<f
 ·refine⟨0,by simp[qb,wX,List.replicate,h],λk=>?_⟩
  by_cases h1:f<=k
  ·have h2:¬(k:Int)<=l:=by omega
   simp[h2]
  ·simp[h1]
 ·obtain⟨F,rfl⟩:=Int.eq_ofNat_of_zero_le hf
  obtain⟨L,rfl⟩:=Int.eq_ofNat_of_zero_le (by omega:0<=l)
  have e1:=Z2Z (k:=L+1) (by omega)
  have e2:=Z2Z (k:=F) (by omega)
  have hp:2 ^ F<=2 ^ (L+1):=Nat.pow_le_pow_right (by omega) (by omega)
  refine⟨2 ^ (L+1)-2 ^ F,?_,λk=>?_⟩
  ·have t1:((L:Int)+1).toNat=L+1:=by omega
   have t2:((L:Int)+1)=((L+1:Nat):Int):=by omega
   simp only[Int.natCast_add,Int.cast_ofNat_Int] at e1
   have h':¬(L:Int)<F:=h
   simp[qb,wX,List.replicate,h',e1,e2,t1]
   rw[Int.natCast_sub hp]
   simp
  ·rw[Z2d F L k (by omega)]
   simp
def inR(L:List Hu.Ln)(u q k:Int):Prop:=∀l∈L,l.1*(u*k)+l.2.1*(u*q)<=l.2.2
def Z19{a b k:Int}(hb:0<b):k<=a.fdiv b↔k*b<=a:=by
 rw[Int.fdiv_eq_ediv_of_nonneg _ (Int.le_of_lt hb)]
 exact Int.le_ediv_iff_mul_le hb
theorem Z0E{u q:Int}{w:Nat}(hu:0<u)(hu2:u<=10000000)(hq:0<=q)(hq2:q<=1000)(s0:P.Slot):∀(L:List Hu.Ln),(∀l∈L,RM l)->∀(f la:Int) (s6 s7 s8 s9 vH:P.Slot),0<=f->la<w->
 (∃f' Hw Jy HS zX RP vD,forL (gT 3 (Ğ (gN 6) (Ğ (gN 7) (Ğ (gN 8) š)))) cA (L.map fu) [s0,.sh (.int u),.sh (.int q),.sh (.int w),.sh (.int f),.sh (.int la),s6,s7,s8,s9,vH]=.ok .nx [s0,.sh (.int u),.sh (.int q),.sh (.int w),.sh (.int f'),.sh (.int Hw),Jy,HS,zX,RP,vD]/\0<=f'/\Hw<w/\∀k:Int,(f'<=k/\k<=Hw)↔(f<=k/\k<=la/\inR L u q k))\/
 (∃ρ',forL (gT 3 (Ğ (gN 6) (Ğ (gN 7) (Ğ (gN 8) š)))) cA (L.map fu) [s0,.sh (.int u),.sh (.int q),.sh (.int w),.sh (.int f),.sh (.int la),s6,s7,s8,s9,vH]=.ok (.rt (.sh (.int 0))) ρ'/\∀k:Int,¬inR L u q k)
 | [],_,f,la,s6,s7,s8,s9,vH,h1,h2=>.inl ⟨f,la,s6,s7,s8,s9,vH,rfl,h1,h2,λk=>by simp[inR]⟩
 |l::L,hS,f,la,s6,s7,s8,s9,vH,h1,h2=>by
  have hl:=hS l List.mem_cons_self
  have ih:=λ(f la:Int) (s6 s7 s8 s9 vH:P.Slot)=>Z0E (w:=w) hu hu2 hq hq2 s0 L (λx hx=>hS x (List.mem_cons_of_mem _ hx)) f la s6 s7 s8 s9 vH
  have m1:Ł l.1 u=true:=aj (by have:=hl.1;omega) (by have:=hl.2.1;omega)
  have m2:Ł l.2.1 u=true:=aj (by have:=hl.2.2.1;omega) (by have:=hl.2.2.2;omega)
  have m3:Ł (l.2.1*u) q=true:=mul_r (by omega) (by omega)
  have bs:=Z0b hl.1 hl.2.1 (show -10000000<=u by omega) hu2
  obtain⟨st,hst⟩:∃st,l.1*u=st:=⟨_,rfl⟩
  obtain⟨ro,hro⟩:∃ro,l.2.2-l.2.1*u*q=ro:=⟨_,rfl⟩
  rw[hst] at bs
  have hin:∀k:Int,inR (l::L) u q k↔(k*st<=ro/\inR L u q k):=λk=>by
   unfold inR
   rw[List.forall_mem_cons]
   have e:l.1*(u*k)=k*st:=by rw[<-hst,<-Int.mul_assoc,Int.mul_comm]
   have e2:l.2.1*(u*q)=l.2.1*u*q:=by rw[Int.mul_assoc]
   rw[e,e2]
   constructor
   ·rintro ⟨a,b⟩;exact⟨by omega,b⟩
   ·rintro ⟨a,b⟩;exact⟨by omega,b⟩
  have gg:gT 3 (Ğ (gN 6) (Ğ (gN 7) (Ğ (gN 8) š))) (fu l) [s0,.sh (.int u),.sh (.int q),.sh (.int w),.sh (.int f),.sh (.int la),s6,s7,s8,s9,vH]=some [s0,.sh (.int u),.sh (.int q),.sh (.int w),.sh (.int f),.sh (.int la),.sh (.int l.1),.sh (.int l.2.1),.sh (.int l.2.2),s9,vH]:=by simp[fu]
  rw[List.map_cons,forL,gg]
  dsimp only
  by_cases c1:0<st
  ·have d1:fW ro st=true:=uI (by omega) (Nat.le_trans (jq (n:=200) (by omega) (by omega)) (by decide))
   have e:cA [s0,.sh (.int u),.sh (.int q),.sh (.int w),.sh (.int f),.sh (.int la),.sh (.int l.1),.sh (.int l.2.1),.sh (.int l.2.2),s9,vH]=.ok .nx [s0,.sh (.int u),.sh (.int q),.sh (.int w),.sh (.int f),.sh (.int (min la (ro.fdiv st))),.sh (.int l.1),.sh (.int l.2.1),.sh (.int l.2.2),.sh (.int st),.sh (.int ro)]:=by
    simp[cA,m1,m2,m3,hst,hro,c1,d1]
    split<;>omega
   rw[e]
   rcases ih f (min la (ro.fdiv st)) (.sh (.int l.1)) (.sh (.int l.2.1)) (.sh (.int l.2.2)) (.sh (.int st)) (.sh (.int ro)) h1 (by omega) with⟨f',Hw,Jy,HS,zX,RP,vD,q1,q2,q3,q4⟩|⟨ρ',q1,q2⟩
   ·refine .inl ⟨f',Hw,Jy,HS,zX,RP,vD,q1,q2,q3,λk=>?_⟩
    rw[q4,hin]
    have:=Z19 (a:=ro) (k:=k) c1
    constructor
    ·rintro ⟨a,b,c⟩;exact⟨a,by omega,this.mp (by omega),c⟩
    ·rintro ⟨a,b,c,d⟩;exact⟨a,by have:=this.mpr c;omega,d⟩
   ·exact .inr ⟨ρ',q1,λk=>by rw[hin];exact λh=>q2 k h.2⟩
  ·by_cases c2:st<0
   ·have d1:fW ro (-st)=true:=uI (by omega) (Nat.le_trans (jq (n:=200) (by omega) (by omega)) (by decide))
    have e:cA [s0,.sh (.int u),.sh (.int q),.sh (.int w),.sh (.int f),.sh (.int la),.sh (.int l.1),.sh (.int l.2.1),.sh (.int l.2.2),s9,vH]=.ok .nx [s0,.sh (.int u),.sh (.int q),.sh (.int w),.sh (.int (max f (-(ro.fdiv (-st))))),.sh (.int la),.sh (.int l.1),.sh (.int l.2.1),.sh (.int l.2.2),.sh (.int st),.sh (.int ro)]:=by
     simp[cA,m1,m2,m3,hst,hro,c1,c2,d1]
     split<;>omega
    rw[e]
    rcases ih (max f (-(ro.fdiv (-st)))) la (.sh (.int l.1)) (.sh (.int l.2.1)) (.sh (.int l.2.2)) (.sh (.int st)) (.sh (.int ro)) (by omega) h2 with⟨f',Hw,Jy,HS,zX,RP,vD,q1,q2,q3,q4⟩|⟨ρ',q1,q2⟩
    ·refine .inl ⟨f',Hw,Jy,HS,zX,RP,vD,q1,q2,q3,λk=>?_⟩
     rw[q4,hin]
     have:=Z19 (a:=ro) (b:=-st) (k:=-k) (by omega)
     rw[Int.neg_mul_neg] at this
     constructor
     ·rintro ⟨a,b,c⟩;exact⟨by omega,b,this.mp (by omega),c⟩
     ·rintro ⟨a,b,c,d⟩;exact⟨by have:=this.mpr c;omega,b,d⟩
    ·exact .inr ⟨ρ',q1,λk=>by rw[hin];exact λh=>q2 k h.2⟩
   ·have c0:st=0:=by omega
    subst c0
    by_cases c3:ro<0
    ·refine .inr ⟨_,by simp[cA,m1,m2,m3,hst,hro,c3];rfl,λk=>?_⟩
     rw[hin]
     rintro ⟨a,_⟩
     omega
    ·have e:cA [s0,.sh (.int u),.sh (.int q),.sh (.int w),.sh (.int f),.sh (.int la),.sh (.int l.1),.sh (.int l.2.1),.sh (.int l.2.2),s9,vH]=.ok .nx [s0,.sh (.int u),.sh (.int q),.sh (.int w),.sh (.int f),.sh (.int la),.sh (.int l.1),.sh (.int l.2.1),.sh (.int l.2.2),.sh (.int 0),.sh (.int ro)]:=by
      simp[cA,m1,m2,m3,hst,hro,c3]
     rw[e]
     rcases ih f la (.sh (.int l.1)) (.sh (.int l.2.1)) (.sh (.int l.2.2)) (.sh (.int 0)) (.sh (.int ro)) h1 h2 with⟨f',Hw,Jy,HS,zX,RP,vD,q1,q2,q3,q4⟩|⟨ρ',q1,q2⟩
     ·refine .inl ⟨f',Hw,Jy,HS,zX,RP,vD,q1,q2,q3,λk=>?_⟩
      rw[q4,hin]
      constructor
      ·rintro ⟨a,b,c⟩;exact⟨a,b,by omega,c⟩
      ·rintro ⟨a,b,c,d⟩;exact⟨a,b,d⟩
     ·exact .inr ⟨ρ',q1,λk=>by rw[hin];exact λh=>q2 k h.2⟩
def Z30{u q:Int}{w:Nat}(hu:0<u)(hu2:u<=10000000)(hq:0<=q)(hq2:q<=1000)(hw:w<=1000){L:List Hu.Ln}(hS:∀l∈L,RM l){sl:P.Slot}(hs:Sl sl (L.map fu)) :
 ∃B:Nat,uW [sl,.sh (.int u),.sh (.int q),.sh (.int w)]=.ret (.sh (.int B))/\∀k:Nat,B.testBit k=true↔(k<w/\inR L u q k):=by
 rcases Z0E (w:=w) hu hu2 hq hq2 sl L hS 0 (w-1) .no .no .no .no .no (by omega) (by omega) with⟨f',Hw,Jy,HS,zX,RP,vD,q1,q2,q3,q4⟩|⟨ρ',q1,q2⟩
 ·obtain⟨B,b1,b2⟩:=Z18 (f:=f') (l:=Hw) q2 q3 hw
  refine⟨B,by rcases hs with rfl|rfl<;>simp[uW,wY,List.replicate,q1,b1],λk=>?_⟩
  rw[b2,Bool.and_eq_true,decide_eq_true_eq,decide_eq_true_eq,q4 k]
  constructor
  ·rintro ⟨a,b,c⟩;exact⟨by omega,c⟩
  ·rintro ⟨a,b⟩;exact⟨by omega,by omega,b⟩
 ·refine⟨0,by rcases hs with rfl|rfl<;>simp[uW,wY,List.replicate,q1],λk=>?_⟩
  simp
  exact λ_=>q2 k
abbrev Th:=Str×List Int
def gU(t:Th):PV:=Z8 (Zk t.1) t.1 t.2
def bV:Option P3->PV
 |none=>.non
 |some r=>c3 r
abbrev Dy:=Str×Int×List (Option P3)
def ou(d:Dy):PV:=.tup [.str d.1,.int d.2.1,.lst (d.2.2.map bV)]
def Z0(w h:Int)(T:List Th)(D:List Dy):PV:=.ins "Yard" ["width","height","things","days"] [.int w,.int h,.lst (T.map gU),.lst (D.map ou)]
def ywh:(Str.ofString "width" =Str.ofString "height")=False:=eq_false (by decide +kernel)
def ywt:(Str.ofString "width" =Str.ofString "things")=False:=eq_false (by decide +kernel)
def ywd:(Str.ofString "width" =Str.ofString "days")=False:=eq_false (by decide +kernel)
def yht:(Str.ofString "height" =Str.ofString "things")=False:=eq_false (by decide +kernel)
def yhd:(Str.ofString "height" =Str.ofString "days")=False:=eq_false (by decide +kernel)
def ytd:(Str.ofString "things" =Str.ofString "days")=False:=eq_false (by decide +kernel)
def Kv(w h:Int)(T:List Th)(D:List Dy):ő ["Yard"] (Str.ofString "width") (Z0 w h T D)=some (.int w):=by
 unfold ő Z0
 simp
def X_(w h:Int)(T:List Th)(D:List Dy):ő ["Yard"] (Str.ofString "height") (Z0 w h T D)=some (.int h):=by
 have:(Str.ofString "height" == Str.ofString "width")=false:=by decide +kernel
 unfold ő Z0
 simp[List.lookup_cons,this]
def y_t(w h:Int)(T:List Th)(D:List Dy):ő ["Yard"] (Str.ofString "things") (Z0 w h T D)=some (.lst (T.map gU)):=by
 have e1:(Str.ofString "things" == Str.ofString "width")=false:=by decide +kernel
 have e2:(Str.ofString "things" == Str.ofString "height")=false:=by decide +kernel
 unfold ő Z0
 simp[List.lookup_cons,e1,e2]
def y_d(w h:Int)(T:List Th)(D:List Dy):ő ["Yard"] (Str.ofString "days") (Z0 w h T D)=some (.lst (D.map ou)):=by
 have e1:(Str.ofString "days" == Str.ofString "width")=false:=by decide +kernel
 have e2:(Str.ofString "days" == Str.ofString "height")=false:=by decide +kernel
 have e3:(Str.ofString "days" == Str.ofString "things")=false:=by decide +kernel
 unfold ő Z0
 simp[List.lookup_cons,e1,e2,e3]
def Z1L(D:List Dy)(hD:D.length<=100000)(s0 s1 s2:P.Slot):ļ (gT 3 (Ğ (gN 0) (Ğ (gN 1) (Ğ (gN 2) š)))) ł (Ĺ (Ă (ě 0) (Ă (ě 1) (Ă (č (jl bG (Ă (Ā 2) Ĕ))) Ĕ)))) (D.map ou) [s0,s1,s2] []=some (D.map ou):=by
 have h:=ņ (g:=gT 3 (Ğ (gN 0) (Ğ (gN 1) (Ğ (gN 2) š)))) (mt:=ł) (me:=Ĺ (Ă (ě 0) (Ă (ě 1) (Ă (č (jl bG (Ă (Ā 2) Ĕ))) Ĕ)))) ou ou (λρ=>∃a b c,ρ=[a,b,c]) D [s0,s1,s2] [] ⟨_,_,_,rfl⟩ (by simp;omega) (by
  rintro d _ ρ ⟨a,b,c,rfl⟩
  refine⟨[.sh (.str d.1),.sh (.int d.2.1),.sh (.lst (d.2.2.map bV))],[.sh (.str d.1),.sh (.int d.2.1),.sh (.lst (d.2.2.map bV))],[.sh (.str d.1),.sh (.int d.2.1),.sh (.lst (d.2.2.map bV))],by simp[ou],rfl,by simp[ou],_,_,_,rfl⟩)
 simpa using h
def Z0k(w h:Int){T:List Th}{D:List Dy}(hT:T.length<=100000)(hD:D.length<=100000){s3 s4:P.Slot}(h3:Sl s3 (T.map gU))(h4:Sl s4 (D.map ou)):bh [.sh (.int w),.sh (.int h),s3,s4]=.ok ["width","height","things","days"] [.int w,.int h,.lst (T.map gU),.lst (D.map ou)]:=by
 have c:=Z1L D hD .no .no .no
 generalize hx:T.map gU=tx at *
 generalize hy:D.map ou=dx at *
 rcases h3 with rfl|rfl<;>rcases h4 with rfl|rfl<;>simp[bh,bN,Fb,iu,IR.of,List.replicate,putN,wQ,ywh,ywt,ywd,yht,yhd,ytd,c]
def Z31{k q w:Nat}(hw:0<w):(q*w<=k/\k-q*w<w)↔k / w=q:=by
 constructor
 ·rintro ⟨a,b⟩
  exact Nat.div_eq_of_lt_le a (by rw[Nat.add_mul];omega)
 ·rintro rfl
  have h1:=Nat.div_mul_le_self k w
  have h2:=Nat.mod_lt k hw
  have h3:=Nat.mod_eq_sub_div_mul (x:=k) (k:=w)
  omega
def Z32{k q w:Nat}(h:k / w=q):k-q*w=k % w:=by
 subst h
 exact(Nat.mod_eq_sub_div_mul).symm
def ZM{k w h:Nat}(hw:0<w):k / w<h↔k<w*h:=by
 rw[Nat.div_lt_iff_lt_mul hw,Nat.mul_comm]
def Kw(w k:Nat):Hu.Pt:=(((k % w:Nat):Int),((k / w:Nat):Int))
def Z2J{S:List Hu.Pt}{r:P3}{p q:Int}:inR (Hu.Zp S) (2*r.2.2) q p↔(Hu.Z1g S (cst r (sto (p,q)))).isNone=true:=by
 have e:cst r (sto (p,q))=(2*r.2.2*p,2*r.2.2*q):=by
  unfold cst sto
  simp only[Int.mul_zero,Int.add_zero,Prod.mk.injEq]
  constructor<;>grind
 rw[e]
 unfold Hu.Z1g inR Hu.hd
 rw[Option.isNone_iff_eq_none,List.find?_eq_none]
 simp
theorem Z04{α:Type}(y:α):∀(xs b:List α),y∈xs.foldl (λb x=>x::b) b↔(y∈xs\/y∈b)
 | [],b=>by simp
 |x::xs,b=>by rw[List.foldl_cons,Z04 y xs (x::b)];simp;grind
def Ky(t:Th)(s:Hu.Pt)(r:P3):Bool:=shB t.1 t.2 s r
def Z1M{w h:Nat}(hw:0<w)(hw2:w<=60)(hh:h<=1000)(T:List Th)(Ds:List Dy){t:Th}(hg:Z6 t.1 t.2=true){r:P3}(hr:RB r)(hz:0<r.2.2) :
 ∃D:Nat,qd [.sh (Z0 w h T Ds),.sh (gU t),.sh (c3 r)]=.ret (.sh (.int D))/\∀k,D.testBit k=(decide (k<w*h) && Ky t (Kw w k) r):=by
 obtain⟨g1,g2,g3⟩:=Z2c hg
 have hc:=Z2b hg (by omega) hr
 have hS:∀p∈(Zm t.1 t.2).map (cst r),Sm p:=by
  intro p hp
  obtain⟨q,hq,rfl⟩:=List.mem_map.mp hp
  exact Z2Y hr (g3 q hq)
 have hl:=Z28 (sl:=.sh (.lst (((Zm t.1 t.2).map (cst r)).map pt))) (.inl rfl) hS (by simpa using g2) (by simp;omega)
 have hls:∀l∈Hu.Zp ((Zm t.1 t.2).map (cst r)),RM l:=λl h=>Z2S h hS
 have yw:=Kv w h T Ds
 have yh:=X_ w h T Ds
 have hv:(2:Int)*r.2.2<=10000000:=by have:=hr.2.2.2.2.2;omega
 generalize hX:Hu.Zp ((Zm t.1 t.2).map (cst r))=X at *
 generalize hY:Z0 w h T Ds=Y at *
 have hr2:đ (c3 r) (.int 2)=some (.int r.2.2):=by simp[c3]
 obtain⟨ρ',e1,D,s5,rfl,hD⟩:=cU (g:=gN 5) (mb:=rN) (λ(q:Nat)=>PV.int q) (λ(b:List Nat) (x:Nat)=>x::b) (λb ρ=>∃(D:Nat) (s5:P.Slot),ρ=[.sh Y,.sh (gU t),.sh (c3 r),.ow (X.map fu),.sh (.int D),s5]/\∀k,D.testBit k=true↔(k / w∈b/\Ky t (Kw w k) r=true)) (List.range h) (by
  rintro q hq b ρ ⟨D,s5,rfl,hD⟩
  have hq:=List.mem_range.mp hq
  obtain⟨B,b1,b2⟩:=Z30 (u:=2*r.2.2) (q:=q) (w:=w) (by omega) hv (by omega) (by omega) (by omega) hls (sl:=.bw (X.map fu)) (.inr rfl)
  have hB:B<2 ^ w:=Z1l λk hk=>by
   have:=b2 k
   cases e:B.testBit k with
   |false=>rfl
   |true=>have:=(this.mp e).1;omega
  have hB2:B<2 ^ 60:=Nat.lt_of_lt_of_le hB (Nat.pow_le_pow_right (by omega) hw2)
  have hqw:q*w<=1000*60:=Nat.mul_le_mul (by omega) hw2
  have so:mL (B:Int) ((q:Int)*(w:Int))=true:=by
   have:((q:Int)*(w:Int))=((q*w:Nat):Int):=by simp
   rw[this]
   unfold mL
   simp
   omega
  have mo:Ł (q:Int) (w:Int)=true:=aj (by omega) (by omega)
  have tn:((q:Int)*(w:Int)).toNat=q*w:=by
   have:((q:Int)*(w:Int))=((q*w:Nat):Int):=by simp
   rw[this];rfl
  obtain⟨Z,hZ⟩:∃Z:Nat,Z=D ||| B*2 ^ (q*w):=⟨_,rfl⟩
  have oe:Builtin.bitOr (D:Int) ((B:Int)*2 ^ (q*w))=(Z:Int):=by
   have ee:(B:Int)*2 ^ (q*w)=((B*2 ^ (q*w):Nat):Int):=by simp
   rw[ee,Z1K,hZ]
  have m2:Ł 2 r.2.2=true:=aj (by omega) (by omega)
  generalize c3 r=R at *
  have st:rN [.sh Y,.sh (gU t),.sh R,.ow (X.map fu),.sh (.int D),.sh (.int q)]=.ok .nx [.sh Y,.sh (gU t),.sh R,.ow (X.map fu),.sh (.int Z),.sh (.int q)]:=by
   simp[rN,hr2,yw,m2,b1,mo,so,tn,oe]
  refine⟨_,_,rfl,st,_,_,rfl,λk=>?_⟩
  rw[hZ,Nat.testBit_or,Bool.or_eq_true,hD,Nat.testBit_mul_two_pow,Bool.and_eq_true,decide_eq_true_eq,b2,List.mem_cons,<-hX,Z2J]
  have key:∀(_:k / w=q),((Hu.Z1g ((Zm t.1 t.2).map (cst r)) (cst r (sto (((k-q*w:Nat):Int),(q:Int))))).isNone=true↔Ky t (Kw w k) r=true):=by
   intro hk
   unfold Ky shB Kw
   rw[Z32 hk,hk]
  have d:=Z31 (k:=k) (q:=q) hw
  constructor
  ·rintro (⟨a,b⟩|⟨a,b,c⟩)
   ·exact⟨.inr a,b⟩
   ·have:=d.mp ⟨a,b⟩
    exact⟨.inl this,(key this).mp c⟩
  ·rintro ⟨a|a,b⟩
   ·have:=d.mpr a
    exact .inr ⟨this.1,this.2,(key a).mpr b⟩
   ·exact .inl ⟨a,b⟩) [] [.sh Y,.sh (gU t),.sh (c3 r),.ow (X.map fu),.sh (.int ((0:Nat):Int)),.no] ⟨0,.no,rfl,by simp⟩
 refine⟨D,?_,λk=>?_⟩
 ·have rr:=ZV hh
  have hc':uV [.sh (gU t),.sh (c3 r)]=.ret (.ow (((Zm t.1 t.2).map (cst r)).map pt)):=hc
  generalize c3 r=R at *
  generalize gU t=Tv at *
  simp[qd,FP,List.replicate,hc',hl,yh,rr,-List.map_map] at e1 ⊢
  simp[e1]
 ·have:=hD k
  rw[Z04,List.mem_range,ZM hw] at this
  rw[Bool.eq_iff_iff,this,Bool.and_eq_true,decide_eq_true_eq]
  simp
def Zt:Nat->(Nat->Bool)->Nat
 |0,_=>0
 |n+1,p=>Zt n p+if p n then 2 ^ n else 0
theorem Z05(p:Nat->Bool):∀n,Zt n p<2 ^ n
 |0=>by simp[Zt]
 |n+1=>by
  have:=Z05 p n
  unfold Zt
  rw[Nat.pow_succ]
  split<;>omega
theorem Zz(p:Nat->Bool):∀n k,(Zt n p).testBit k=(decide (k<n) && p k)
 |0,k=>by simp[Zt]
 |n+1,k=>by
  have hl:=Z05 p n
  unfold Zt
  by_cases h:k<n
  ·have ih:=Zz p n k
   have h1:k<n+1:=by omega
   split
   ·rw[Nat.add_comm,Nat.testBit_two_pow_add_gt h,ih];simp[h,h1]
   ·rw[Nat.add_zero,ih];simp[h,h1]
  ·by_cases h2:k=n
   ·subst h2
    split
    ·rename_i q
     rw[Nat.add_comm,Nat.testBit_two_pow_add_eq,Nat.testBit_lt_two_pow hl];simp[q]
    ·rename_i q
     rw[Nat.add_zero,Nat.testBit_lt_two_pow hl];simp[q]
   ·have h3:¬k<n+1:=by omega
    have:Zt n p+(if p n=true then 2 ^ n else 0)<2 ^ k:=by
     refine Nat.lt_of_lt_of_le (Z05 p (n+1)) (Nat.pow_le_pow_right (by omega) (by omega))
    rw[Nat.testBit_lt_two_pow this]
    simp[h3]
def Z06{n:Nat}{p:Nat->Bool}{D:Nat}(h:∀k,D.testBit k=(decide (k<n) && p k)):D=Zt n p:=Nat.eq_of_testBit_eq λk=>by rw[h,Zz]
def dk1(w h:Nat)(r:P3)(t:Th):Nat:=Zt (w*h) λk=>Ky t (Kw w k) r
def RQ(w:Nat)(T:List Th):Option P3->Nat->Bool
 |none,_=>true
 |some r,k=>T.any λt=>Ky t (Kw w k) r
def Ū(w h:Nat)(T:List Th)(o:Option P3):Nat:=Zt (w*h) (RQ w T o)
def Kz(o:Option P3):Prop:=match o with|none=>True|some r=>RB r/\0<r.2.2
def Z1m{w h:Nat}(hw:0<w)(hw2:w<=60)(hh:h<=1000)(T:List Th)(Ds:List Dy){t:Th}(hg:Z6 t.1 t.2=true){r:P3}(hr:RB r)(hz:0<r.2.2) :
 qd [.sh (Z0 w h T Ds),.sh (gU t),.sh (c3 r)]=.ret (.sh (.int (dk1 w h r t))):=by
 obtain⟨D,h1,h2⟩:=Z1M hw hw2 hh T Ds hg hr hz
 rw[h1,Z06 h2]
 rfl
def Z2e{w h:Nat}(hw:0<w)(hw2:w<=60)(hh:h<=1000){T:List Th}(hT:T.length<=1000)(Ds:List Dy)(hg:∀t∈T,Z6 t.1 t.2=true){r:P3}(hr:RB r)(hz:0<r.2.2) :
 Ke [.sh (Z0 w h T Ds),.sh (c3 r)]=.ret (.ow (T.map λt=>.int (dk1 w h r t))):=by
 have yt:=y_t w h T Ds
 have hc:=ņ (g:=gN 2) (mt:=ł) (me:=č (Č qd (Ą 0 (Ą 2 (Ą 1 Ċ))))) gU (λt=>.int (dk1 w h r t)) (λρ=>∃s,ρ=[.sh (Z0 w h T Ds),.sh (c3 r),s]) T [.sh (Z0 w h T Ds),.sh (c3 r),.no] [] ⟨_,rfl⟩ (by simp;omega) (by
  rintro t ht ρ ⟨s,rfl⟩
  have e:=Z1m hw hw2 hh T Ds (hg t ht) hr hz
  generalize Z0 w h T Ds=Y at *
  generalize c3 r=R at *
  generalize gU t=Tv at *
  refine⟨_,_,_,rfl,rfl,by simp[e];rfl,_,rfl⟩)
 generalize Z0 w h T Ds=Y at *
 generalize c3 r=R at *
 simp[Ke,Od,List.replicate,yt]
 simp at hc
 simp[hc]
def Z1a{w h:Nat}(hw:0<w)(hw2:w<=60)(hh:h<=1000)(tH:w*h<=1000){T:List Th}(hT:T.length<=1000)(Ds:List Dy)(hg:∀t∈T,Z6 t.1 t.2=true){o:Option P3}(ho:Kz o) :
 iz [.sh (Z0 w h T Ds),.sh (bV o)]=.ret (.sh (.int (Ū w h T o))):=by
 have yw:=Kv w h T Ds
 have yh:=X_ w h T Ds
 have mo:Ł (w:Int) (h:Int)=true:=aj (by omega) (by omega)
 cases o with
 |none=>
  obtain⟨B,b1,b2⟩:=Z18 (f:=0) (l:=(w:Int)*h-1) (w:=w*h) (by omega) (by rw[Int.natCast_mul];omega) tH
  have:B=Ū w h T none:=Z06 λk=>by
   rw[b2]
   simp[RQ]
   have:((w*h:Nat):Int)=(w:Int)*h:=by simp
   omega
  subst this
  generalize Z0 w h T Ds=Y at *
  simp[iz,xg,List.replicate,bV,yw,yh,mo,b1,lX]
 |some r=>
  have ho:RB r/\0<r.2.2:=ho
  have hd:=Z2e hw hw2 hh hT Ds hg ho.1 ho.2
  obtain⟨ρ',e1,D,s3,rfl,hD⟩:=cU (g:=gN 3) (mb:=wZ) (λ(t:Th)=>PV.int (dk1 w h r t)) (λ(b:List Th) (x:Th)=>x::b) (λb ρ=>∃(D:Nat) (s3:P.Slot),ρ=[.sh (Z0 w h T Ds),.sh (c3 r),.sh (.int D),s3]/\∀k,D.testBit k=true↔(k<w*h/\∃t∈b,Ky t (Kw w k) r=true)) T (by
   rintro t ht b ρ ⟨D,s3,rfl,hD⟩
   refine⟨_,_,rfl,by simp[wZ,Z1K];exact⟨rfl,rfl⟩,_,_,rfl,λk=>?_⟩
   rw[Nat.testBit_or,Bool.or_eq_true,hD,dk1,Zz,Bool.and_eq_true,decide_eq_true_eq]
   simp
   grind) [] [.sh (Z0 w h T Ds),.sh (c3 r),.sh (.int ((0:Nat):Int)),.no] ⟨0,.no,rfl,by simp⟩
  have:D=Ū w h T (some r):=Z06 λk=>by
   have:=hD k
   rw[Bool.eq_iff_iff,this]
   simp only[Z04,RQ,List.not_mem_nil,or_false,Bool.and_eq_true,decide_eq_true_eq,List.any_eq_true]
  subst this
  have hn:mQ (c3 r) .non=some (.bl false):=by simp[c3,lX]
  generalize Z0 w h T Ds=Y at *
  show iz [.sh Y,.sh (c3 r)]=_
  simp at e1
  generalize c3 r=R at *
  have hn:lX R=false:=by simpa using hn
  simp[iz,xg,List.replicate,hd,hn,e1]
def ZI(ns:List Int)(k:Nat):ŉ [.sh (.lst (ns.map .int)),.sh (.int k)]=.ret (.sh (.int (ns.getD k 0))):=by
 by_cases h:k<ns.length
 ·have h':(k:Int)<(ns.length:Int):=by omega
  simp[ŉ,xJ,List.replicate,h',List.getElem?_eq_getElem h]
 ·have h':¬(k:Int)<(ns.length:Int):=by omega
  simp[ŉ,xJ,List.replicate,h',List.getElem?_eq_none (Nat.le_of_not_lt h)]
@[simp] theorem ZD(ns:List Int)(k:Nat):ŉ [.sh (.lst (ns.map .int)),.sh (.int (no_index (OfNat.ofNat k)))]=.ret (.sh (.int (ns.getD k 0))):=ZI ns k
def Gr(x:Int):Prop:=0<=x/\x<524288
theorem Zx(c:Int)(s1:P.Slot):∀(ks:List Nat) (acc:List Int) (n:Int) (s4:P.Slot),acc.length+ks.length<=100000->(∀k∈ks,k<=100000)->(∀x∈acc,Gr x)->∃(acc':List Int) (n':Int) (tK:P.Slot),forL (gN 4) jT (ks.map λ(i:Nat)=>PV.int (i:Int)) [.sh (.int c),s1,.ow (acc.map .int),.sh (.int n),s4]=.ok .nx [.sh (.int c),s1,.ow (acc'.map .int),.sh (.int n'),tK]/\acc'.length=acc.length+ks.length/\∀x∈acc',Gr x
 | [],acc,n,s4,_,_,h=>⟨acc,n,s4,rfl,rfl,h⟩
 |k::ks,acc,n,s4,hl,hk,h=>by
  have hk0:=hk k List.mem_cons_self
  have hl0:acc.length<16777216:=by simp at hl;omega
  rw[List.map_cons,forL]
  have hg:gN 4 (PV.int (k:Int)) [.sh (.int c),s1,.ow (acc.map .int),.sh (.int n),s4]=some [.sh (.int c),s1,.ow (acc.map .int),.sh (.int n),.sh (.int k)]:=rfl
  rw[hg]
  dsimp only
  by_cases h0:c % 2=0
  ·have e:jT [.sh (.int c),s1,.ow (acc.map .int),.sh (.int n),.sh (.int k)]=.ok .nx [.sh (.int c),s1,.ow ((acc ++ [n % 524287]).map .int),.sh (.int (n / 524287)),.sh (.int k)]:=by
    simp[jT,h0,hl0]
   rw[e]
   obtain⟨a,b,d,q1,q2,q3⟩:=Zx c s1 ks (acc ++ [n % 524287]) (n / 524287) (.sh (.int k)) (by simp at hl ⊢;omega) (λx hx=>hk x (List.mem_cons_of_mem _ hx)) (by
    intro x hx
    rcases List.mem_append.mp hx with hx|hx
    ·exact h x hx
    ·rw[List.mem_singleton.mp hx];unfold Gr;omega)
   exact⟨a,b,d,q1,by simp at q2 ⊢;omega,q3⟩
  ·obtain⟨m,hm⟩:∃m,(n*49157+24593+2*(k:Int)) % 8388593=m:=⟨_,rfl⟩
   have e:jT [.sh (.int c),s1,.ow (acc.map .int),.sh (.int n),.sh (.int k)]=.ok .nx [.sh (.int c),s1,.ow ((acc ++ [m / 16]).map .int),.sh (.int m),.sh (.int k)]:=by
    simp[jT,h0,hl0,hm]
   rw[e]
   obtain⟨a,b,d,q1,q2,q3⟩:=Zx c s1 ks (acc ++ [m / 16]) m (.sh (.int k)) (by simp at hl ⊢;omega) (λx hx=>hk x (List.mem_cons_of_mem _ hx)) (by
    intro x hx
    rcases List.mem_append.mp hx with hx|hx
    ·exact h x hx
    ·rw[List.mem_singleton.mp hx];unfold Gr;omega)
   exact⟨a,b,d,q1,by simp at q2 ⊢;omega,q3⟩
def Z0v(c:Int){n:Nat}(hn:n<=1000):∃xs:List Int,kW [.sh (.int c),.sh (.int n)]=.ret (.ow (xs.map .int))/\xs.length=n/\∀x∈xs,Gr x:=by
 have rr:=ZV hn
 by_cases h:c % 2=1
 ·obtain⟨a,b,d,q1,q2,q3⟩:=Zx c (.sh (.int n)) (List.range n) [] (c / 2 % 8388593) .no (by simp;omega) (λk hk=>by have:=List.mem_range.mp hk;omega) (by simp)
  refine⟨a,?_,by simpa using q2,q3⟩
  simp at q1
  simp[kW,xu,List.replicate,h,rr,q1]
 ·obtain⟨a,b,d,q1,q2,q3⟩:=Zx c (.sh (.int n)) (List.range n) [] (c / 2) .no (by simp;omega) (λk hk=>by have:=List.mem_range.mp hk;omega) (by simp)
  refine⟨a,?_,by simpa using q2,q3⟩
  simp at q1
  simp[kW,xu,List.replicate,h,rr,q1]
def Pl(x:Int):Prop:=-1000000000+50<=x/\x<=1000000000-50
def Zs(n:Int){w:Int}(h1:1<=w)(h2:w<=1000):∃x:Int,iC [.sh (.int n),.sh (.int w)]=.ret (.sh (.int x))/\Pl x:=by
 by_cases h:n / 512 % 16=5
 ·exact⟨n*3813 % 1999999901-1000000000+50,by simp[iC,xH,List.replicate,h],by unfold Pl;omega⟩
 ·have m0:¬(2*w+9=0):=by omega
  have p:=Int.emod_nonneg n (show(2*w+9)≠0 by omega)
  have q:=Int.emod_lt_of_pos n (show 0<(2*w+9) by omega)
  have e:n.fmod (2*w+9)=n % (2*w+9):=Int.fmod_eq_emod_of_nonneg n (by omega)
  exact⟨n % (2*w+9)-4,by simp[iC,xH,List.replicate,h,m0,e],by unfold Pl;omega⟩
def Z0c(n:Int):∃x:Int,qj [.sh (.int n)]=.ret (.sh (.int x))/\1<=x/\x<=1000000000:=by
 by_cases h:n / 512 % 12=7
 ·exact⟨1+n*1907 % 1000000000,by simp[qj,xG,List.replicate,h],by omega,by omega⟩
 ·exact⟨1+n % 9,by simp[qj,xG,List.replicate,h],by omega,by omega⟩
def Z1N{x y h:Int}(a:Pl x)(b:Pl y)(c:1<=h/\h<=1000000000):Z6 "post" [x / 2,y / 2,h]=true:=by
 unfold Pl at a b
 unfold Z6 Zi ŷ vI
 simp
 omega
def HW{a b:String}(h:decide (Str.ofString a=Str.ofString b)=false):¬(Str.ofString a=Str.ofString b):=of_decide_eq_false h
def Z1n{x y u v h:Int}(a:Pl x)(b:Pl y)(hu: -4<=u/\u<=4)(hv: -4<=v/\v<=4)(c:1<=h/\h<=1000000000)(e:Int)(he:e=if u=0/\v=0 then 1 else 0):Z6 "fence" [x,y,x+u+e,y+v,h]=true:=by
 have h1:¬(Str.ofString "fence" =Str.ofString "post"):=HW (by decide +kernel)
 unfold Pl at a b
 unfold Z6
 rw[if_neg h1,if_pos rfl]
 unfold Zg Zj ŷ vI
 simp
 split at he<;>omega
def Z0F{w:Str}(hw:w= "sail" \/w= "house"){x y u v h:Int}(a:Pl x)(b:Pl y)(hu:0<=u/\u<=8)(hv:0<=v/\v<=8)(c:1<=h/\h<=1000000000):Z6 w [x,y,x+1+u,y+1+v,h]=true:=by
 have hb:Zd [x,y,x+1+u,y+1+v,h]=true:=by
  unfold Pl at a b
  unfold Zd Zj ŷ vI
  simp
  omega
 unfold Z6
 rcases hw with rfl|rfl
 ·rw[if_neg (HW (by decide +kernel)),if_neg (HW (by decide +kernel)),if_pos rfl]
  exact hb
 ·rw[if_neg (HW (by decide +kernel)),if_neg (HW (by decide +kernel)),if_neg (HW (by decide +kernel)),if_neg (HW (by decide +kernel)),if_pos rfl]
  exact hb
def Z1o{x y z a b c d e f:Int}(h1:Pl x)(h2:Pl y)(h3:0<=z/\z<=1000000000)(h4:Pl a)(h5:Pl b)(h6:1<=c/\c<=1000000000)(h7:Pl d)(h8:Pl e)(h9:1<=f/\f<=1000000000):Z6 "cloth" [x,y,z,a,b,c,d,e,f]=true:=by
 unfold Z6
 rw[if_neg (HW (by decide +kernel)),if_neg (HW (by decide +kernel)),if_neg (HW (by decide +kernel)),if_pos rfl]
 unfold Pl at *
 unfold Zh ŷ vJ
 simp
 omega
theorem Z38:∀(xs:List Int),xs.length=14->∃a b c d e f g h i j k l m n,xs=[a,b,c,d,e,f,g,h,i,j,k,l,m,n]
 | [a,b,c,d,e,f,g,h,i,j,k,l,m,n],_=>⟨a,b,c,d,e,f,g,h,i,j,k,l,m,n,rfl⟩
def Z2u(x y:Hu.Pt):ŋ (pt x) (pt y)=some (.bl (decide (x=y))):=by
 unfold ŋ qW
 rw[ZY,ZY,ZU,ZU,Z0z]
 rfl
def Z0G:aV [.int 2]=some [.int 0,.int 1]:=by rfl
def Z0w(c:Int){w:Int}(hw1:1<=w)(hw2:w<=1000):∃t:Th,cW [.sh (.int c),.sh (.int w)]=.ret (.sh (.tup [.str t.1,.lst (t.2.map .int)]))/\Z6 t.1 t.2=true:=by
 obtain⟨xs,eg,hl,hx⟩:=Z0v c (n:=14) (by omega)
 obtain⟨x0,x1,x2,x3,x4,x5,x6,x7,x8,x9,x10,x11,x12,x13,rfl⟩:=Z38 xs hl
 clear hl hx
 obtain⟨p0,e0,q0⟩:=Zs x0 hw1 hw2
 obtain⟨p1,e1,q1⟩:=Zs x1 hw1 hw2
 obtain⟨z,ez,qz⟩:=Z0c x2
 have Xv:kW [.sh (.int c),.sh (.int 14)]=.ret (.ow [.int x0,.int x1,.int x2,.int x3,.int x4,.int x5,.int x6,.int x7,.int x8,.int x9,.int x10,.int x11,.int x12,.int x13]):=eg
 clear eg
 have hc:ļ (gN 2) ł (č (Č iC (ć (ă đ (Ā 1) (Ā 2)) (Ą 0 Ċ)))) [PV.int 0,PV.int 1] [.sh (.int w),.bw [.int x0,.int x1,.int x2,.int x3,.int x4,.int x5,.int x6,.int x7,.int x8,.int x9,.int x10,.int x11,.int x12,.int x13],.no] []=some [.int p0,.int p1]:=by
  simp[ļ,e0,e1]
 have k:0<=x3 % 5/\x3 % 5<5:=by omega
 obtain⟨kd,hkd⟩:∃kd,x3 % 5=kd:=⟨_,rfl⟩
 rw[hkd] at k
 by_cases k0:kd=0
 ·refine⟨("post",[p0 / 2,p1 / 2,z]),?_,Z1N q0 q1 qz⟩
  simp[cW,jU,List.replicate,Xv,Z0G,hc,ez,hkd,k0]
 ·by_cases k1:kd=1
  ·refine⟨("fence",[p0,p1,p0+(x4 % 9-4)+(if x4 % 9-4=0/\x5 % 9-4=0 then 1 else 0),p1+(x5 % 9-4),z]),?_,Z1n q0 q1 (by omega) (by omega) qz _ rfl⟩
   have hq:=Z2u (p0,p1) (p0+x4 % 9-4,p1+x5 % 9-4)
   unfold pt at hq
   dsimp only at hq
   have hi:(if x4 % 9-4=0/\x5 % 9-4=0 then(1:Int) else 0)=if decide ((p0,p1)=(p0+x4 % 9-4,p1+x5 % 9-4))=true then 1 else 0:=by
    simp only[decide_eq_true_eq,Prod.mk.injEq]
    split<;>split<;>omega
   generalize decide ((p0,p1)=(p0+x4 % 9-4,p1+x5 % 9-4))=bb at *
   have a1:p0+(x4 % 9-4)=p0+x4 % 9-4:=by omega
   have a2:p1+(x5 % 9-4)=p1+x5 % 9-4:=by omega
   rw[a1,a2,hi]
   cases bb<;>simp[cW,jU,List.replicate,Xv,Z0G,hc,ez,hkd,k1,hq]
  ·by_cases k2:kd=2
   ·obtain⟨p7,e7,q7⟩:=Zs x7 hw1 hw2
    obtain⟨p8,e8,q8⟩:=Zs x8 hw1 hw2
    obtain⟨p9,e9,q9⟩:=Zs x9 hw1 hw2
    obtain⟨p10,e10,q10⟩:=Zs x10 hw1 hw2
    obtain⟨z2,ez2,qz2⟩:=Z0c x11
    refine⟨("cloth",[p0,p1,x6 % 10,p7,p8,z,p9,p10,z2]),?_,Z1o q0 q1 (by omega) q7 q8 qz q9 q10 qz2⟩
    simp[cW,jU,List.replicate,Xv,Z0G,hc,ez,hkd,k2,e7,e8,e9,e10,ez2,add_l]
   ·by_cases k3:kd=3
    ·refine⟨("sail",[p0,p1,p0+1+x4 % 8,p1+1+x5 % 8,z]),?_,Z0F (.inl rfl) q0 q1 (by omega) (by omega) qz⟩
     simp[cW,jU,List.replicate,Xv,Z0G,hc,ez,hkd,k3]
    ·have k4:kd=4:=by omega
     refine⟨("house",[p0,p1,p0+1+x4 % 8,p1+1+x5 % 8,z]),?_,Z0F (.inr rfl) q0 q1 (by omega) (by omega) qz⟩
     simp[cW,jU,List.replicate,Xv,Z0G,hc,ez,hkd,k4]
def oV:Option Int->PV
 |none=>.non
 |some c=>.int c
def Z2(N:Nat)(f:Nat->Option Int):List PV:=(List.range N).map λn=>oV (f n)
def ZJ{N n:Nat}{f:Nat->Option Int}(h:n<N):đ (.lst (Z2 N f)) (.int n)=some (oV (f n)):=by
 unfold Z2
 simp[h]
def Z0H(x y w:Int)(h:Ł y w=true):kE [.sh (.tup [.int x,.int y]),.sh (.int w)]=.ret (.sh (.int (y*w+x))):=by
 simp[kE,Fg,List.replicate,h]
def Z1b{n w:Nat}(hw:0<w)(hw2:w<=1000):qe [.sh (.int n),.sh (.int w)]=.ret (.sh (.tup [.int (n % w:Nat),.int (n / w:Nat)])):=by
 have h0:¬(w:Int)=0:=by omega
 have e1:Int.fmod (n:Int) (w:Int)=((n % w:Nat):Int):=by
  rw[Int.fmod_eq_emod_of_nonneg _ (by omega)];simp
 have e2:Int.fdiv (n:Int) (w:Int)=((n / w:Nat):Int):=by
  rw[Int.fdiv_eq_ediv_of_nonneg _ (by omega)];simp
 have e3:fW (n:Int) (w:Int)=true:=uI (by omega) (Nat.le_trans (jq (n:=200) (by omega) (by omega)) (by decide))
 have h1:¬w=0:=by omega
 simp[qe,FQ,List.replicate,h0,h1,e1,e2,e3]
def Z1O{w h:Nat}{T:List Th}(D:List Dy){x y:Int}(hx:¬((0<=x/\x<w)/\(0<=y/\y<h))):eO [.sh (Z0 w h T D),.sh (.tup [.int x,.int y])]=.ret (.sh (.bl false)):=by
 have yw:=Kv w h T D
 have yh:=X_ w h T D
 generalize Z0 w h T D=Yv at *
 by_cases a1:0<=x
 ·by_cases a2:x<(w:Int)
  ·by_cases a3:0<=y
   ·have a4:¬y<(h:Int):=λa4=>hx ⟨⟨a1,a2⟩,a3,a4⟩
    simp[eO,jP,List.replicate,yw,yh,a1,a2,a3,a4]
   ·simp[eO,jP,List.replicate,yw,yh,a1,a2,a3]
  ·simp[eO,jP,List.replicate,yw,yh,a1,a2]
 ·simp[eO,jP,List.replicate,yw,yh,a1]
def Z0d{w h:Nat}{T:List Th}(D:List Dy){x y:Int}(hx:(0<=x/\x<w)/\(0<=y/\y<h)):eO [.sh (Z0 w h T D),.sh (.tup [.int x,.int y])]=.ret (.sh (.bl true)):=by
 have yw:=Kv w h T D
 have yh:=X_ w h T D
 generalize Z0 w h T D=Yv at *
 obtain⟨⟨a1,a2⟩,a3,a4⟩:=hx
 simp[eO,jP,List.replicate,yw,yh,a1,a2,a3,a4]
def Z1p{w h:Nat}{T:List Th}{D:List Dy}{i:Nat}(hi:i<D.length):zJ [.sh (Z0 w h T D),.sh (.int i)]=.ret (.sh (.lst (D[i].2.2.map bV))):=by
 have yd:=y_d w h T D
 have hx:(D.map ou)[i]?=some (ou D[i]):=by simp[hi]
 generalize Z0 w h T D=Yv at *
 generalize D.map ou=DV at *
 simp[zJ,Fi,List.replicate,yd,hx]
 simp[ou]
def Z2K{w h:Nat}{T:List Th}{D:List Dy}(d:Int):pX [.sh (Z0 w h T D),.sh (.int d)]=.ret (.sh (.bl (decide (0<=d/\d<D.length)))):=by
 have yd:=y_d w h T D
 have hl:(D.map ou).length=D.length:=by simp
 rw[<-hl]
 generalize Z0 w h T D=Yv at *
 generalize D.map ou=DV at *
 by_cases a1:0<=d
 ·by_cases a2:d<(DV.length:Int)
  ·simp[pX,rK,List.replicate,yd,a1,a2]
  ·simp[pX,rK,List.replicate,yd,a1,a2]
 ·simp[pX,rK,List.replicate,yd,a1]
def Z9:List (Int×Int):=[(-1,0),(1,0),(0,-1),(0,1),(0,0)]
def inB(w h:Nat)(p:Int×Int):Bool:=decide ((0<=p.1/\p.1<w)/\(0<=p.2/\p.2<h))
def gJ(w h n:Nat):List Nat:=((Z9.map λd=>(((n % w:Nat):Int)+d.1,((n / w:Nat):Int)+d.2)).filter (inB w h)).map λp:Int×Int=>(p.2*(w:Int)+p.1).toNat
def ZA{w h n m:Nat}(hm:m∈gJ w h n):m<w*h:=by
 unfold gJ at hm
 obtain⟨p,hp,rfl⟩:=List.mem_map.mp hm
 obtain⟨_,hp⟩:=List.mem_filter.mp hp
 have hp:=of_decide_eq_true hp
 obtain⟨⟨h1,h2⟩,h3,h4⟩:=hp
 have h5:p.2*(w:Int)+p.1<h*w:=by
  have:(p.2+1)*(w:Int)<=h*w:=Int.mul_le_mul_of_nonneg_right (by omega) (by omega)
  rw[Int.add_mul] at this
  omega
 have h6:0<=p.2*(w:Int):=Int.mul_nonneg h3 (by omega)
 have h7:((w*h:Nat):Int)=(h:Int)*w:=by rw[Int.natCast_mul,Int.mul_comm]
 omega
def Z1P{w h:Nat}{T:List Th}(D:List Dy)(x y:Int):eO [.sh (Z0 w h T D),.sh (.tup [.int x,.int y])]=.ret (.sh (.bl (inB w h (x,y)))):=by
 by_cases hx:(0<=x/\x<w)/\(0<=y/\y<h)
 ·rw[Z0d D hx,show inB w h (x,y)=true from decide_eq_true hx]
 ·rw[Z1O D hx,show inB w h (x,y)=false from decide_eq_false hx]
def aro(w n:Nat):List (Int×Int):=Z9.map λd=>(((n % w:Nat):Int)+d.1,((n / w:Nat):Int)+d.2)
def Z33(x y:Int):ļ (gT 2 (Ğ (gN 1) (Ğ (gN 2) š))) ł (Ĺ (Ă (č (Ġ ĝ (ă đ (Ā 0) (mC (.int 0))) (Ā 1))) (Ă (č (Ġ ĝ (ă đ (Ā 0) (mC (.int 1))) (Ā 2))) Ĕ))) [.tup [.int (-1),.int 0],.tup [.int 1,.int 0],.tup [.int 0,.int (-1)],.tup [.int 0,.int 1],.tup [.int 0,.int 0]] [.sh (.tup [.int x,.int y]),.no,.no] []=some ((Z9.map λd=>(x+d.1,y+d.2)).map λp:Int×Int=>PV.tup [.int p.1,.int p.2]):=by
 simp[ļ,Z9]
def Z0I{a b:Int}(h1: -(2 ^ 60)<a)(h2:a<2 ^ 60)(h3: -(2 ^ 60)<b)(h4:b<2 ^ 60):Ł a b=true:=aj (by omega) (by omega)
def Z1Q{w h:Nat}(hw:0<w)(hw2:w<=1000)(hh:h<=1000)(T:List Th)(D:List Dy){n:Nat}(hn:n<w*h):Kf [.sh (Z0 w h T D),.sh (.int n)]=.ret (.ow ((gJ w h n).map λ(m:Nat)=>PV.int m)):=by
 have yw:=Kv w h T D
 have e1:=Z1b (n:=n) hw hw2
 have e2:=Z33 ((n % w:Nat):Int) ((n / w:Nat):Int)
 have hnw:n / w<h:=(ZM hw).mpr hn
 have e3:=bf (g:=gN 1) (mt:=gR (č (Č eO (Ą 0 (Ą 1 Ċ))))) (me:=č (Č kE (Ą 1 (ć (aL (ő ["Yard"] "width") (Ā 0)) Ċ)))) (λp:Int×Int=>PV.tup [.int p.1,.int p.2]) (λp:Int×Int=>PV.int (p.2*(w:Int)+p.1)) (inB w h) (λρ=>∃a,ρ=[.sh (Z0 w h T D),a]) (aro w n) [.sh (Z0 w h T D),.no] [] ⟨_,rfl⟩ (by simp[aro,Z9]) (by
  rintro p _ ρ ⟨a,rfl⟩
  have hs:=Z1P (w:=w) (h:=h) (T:=T) D p.1 p.2
  refine⟨[.sh (Z0 w h T D),.sh (.tup [.int p.1,.int p.2])],[.sh (Z0 w h T D),.sh (.tup [.int p.1,.int p.2])],by simp,by simp[hs],λ_=>⟨_,rfl⟩,λhq=>⟨[.sh (Z0 w h T D),.sh (.tup [.int p.1,.int p.2])],?_,_,rfl⟩⟩
  obtain⟨⟨h1,h2⟩,h3,h4⟩:=of_decide_eq_true hq
  have en:=Z0H p.1 p.2 w (Z0I (by omega) (by omega) (by omega) (by omega))
  simp[yw,en])
 have e4:((aro w n).filter (inB w h)).map (λp:Int×Int=>PV.int (p.2*(w:Int)+p.1))=(gJ w h n).map λ(m:Nat)=>PV.int m:=by
  unfold gJ
  rw[List.map_map]
  refine List.map_congr_left λp hp=>?_
  obtain⟨_,hp⟩:=List.mem_filter.mp hp
  obtain⟨⟨h1,h2⟩,h3,h4⟩:=of_decide_eq_true hp
  have h6:0<=p.2*(w:Int):=Int.mul_nonneg h3 (by omega)
  show PV.int _=PV.int _
  congr 1
  show p.2*(w:Int)+p.1=(((p.2*(w:Int)+p.1).toNat:Nat):Int)
  omega
 rw[List.nil_append,e4] at e3
 have e5:(aro w n).map (λp:Int×Int=>PV.tup [.int p.1,.int p.2])=(Z9.map λd=>(((n % w:Nat):Int)+d.1,((n / w:Nat):Int)+d.2)).map λp:Int×Int=>PV.tup [.int p.1,.int p.2]:=rfl
 rw[<-e5] at e2
 generalize (gJ w h n).map (λ(m:Nat)=>PV.int m)=B at *
 generalize (aro w n).map (λp:Int×Int=>PV.tup [.int p.1,.int p.2])=A at *
 generalize ((n % w:Nat):Int)=x at *
 generalize ((n / w:Nat):Int)=y at *
 generalize Z0 w h T D=Yv at *
 simp[Kf,Oe,List.replicate,fV,Ŵ,yw,e1,e2,e3]
def Hx(k:Nat->Int):Nat->List Nat->Nat
 |m,[]=>m
 |m,q::qs=>if k q<k m then Hx k q qs else Hx k m qs
def Z1q(k:Nat->Int):List Nat->Option Nat
 | []=>none
 |m::ms=>some (Hx k m ms)
def oN:Option Nat->PV
 |none=>.non
 |some m=>.int (m:Nat)
theorem Z07(k:Nat->Int):∀(ms:List Nat) (m:Nat),cu (.int m) (k m) (ms.map λ(m:Nat)=>PV.int m) (ms.map k)=.int (Hx k m ms)
 | [],m=>rfl
 |q::qs,m=>by
  rw[List.map_cons,List.map_cons,cu,Hx]
  split
  ·exact Z07 k qs q
  ·exact Z07 k qs m
def Z2L(k:Nat->Int)(l:List Nat):fZ (l.map λ(m:Nat)=>PV.int m) (l.map k)=some (oN (Z1q k l)):=by
 cases l with
 |nil=>rfl
 |cons m ms=>
  show some (cu _ _ _ _)=_
  rw[Z07]
  rfl
theorem Z00(k:Nat->Int):∀(ms:List Nat) (m:Nat),Hx k m ms∈m::ms
 | [],m=>by simp[Hx]
 |q::qs,m=>by
  rw[Hx]
  split
  ·exact List.mem_cons_of_mem _ (Z00 k qs q)
  ·have:=Z00 k qs m
   rcases List.mem_cons.mp this with e|e
   ·rw[e];exact List.mem_cons_self
   ·exact List.mem_cons_of_mem _ (List.mem_cons_of_mem _ e)
def Z08{k:Nat->Int}{l:List Nat}{m:Nat}(h:Z1q k l=some m):m∈l:=by
 cases l with
 |nil=>cases h
 |cons a as=>cases h;exact Z00 k as a
def ZN(f:Nat->Option Int)(l:List Nat):List Nat:=l.filter λm=>(f m).isSome
def Zu(w h:Nat)(f:Nat->Option Int)(n:Nat):Option Nat:=Z1q (λm=>(f m).getD 0) (ZN f (gJ w h n))
theorem Z1R{N:Nat}{f:Nat->Option Int}{s2:P.Slot}(h2:Sl s2 (Z2 N f))(z0 z1 z3:P.Slot):∀l:List Nat,(∀m∈l,m<N/\(f m).isSome=true)->uN [2] (ă đ (Ā 0) (Ā 1)) [z0,z1,s2,z3] (l.map λ(m:Nat)=>PV.int m)=some (l.map λm=>(f m).getD 0)
 | [],_=>rfl
 |m::l,h=>by
  obtain⟨h3,h4⟩:=h m List.mem_cons_self
  have ih:=Z1R h2 z0 z1 z3 l λq hq=>h q (List.mem_cons_of_mem _ hq)
  have rg:=ZJ (f:=f) h3
  obtain⟨c,hc⟩:=Option.isSome_iff_exists.mp h4
  rw[hc] at rg
  rw[List.map_cons,List.map_cons,uN]
  have e3:(ă đ (Ā 0) (Ā 1)) (lamP [2] [z0,z1,s2,z3] (.int m))=.ok (.int c) [s2,.sh (.int m)]:=by
   generalize Z2 N f=R at *
   rcases h2 with rfl|rfl<;>simp[lamP,Ŵ,rg,oV]
  rw[e3]
  dsimp only
  rw[ih,hc]
  rfl
def Z1c{w h:Nat}(hw:0<w)(hw2:w<=1000)(hh:h<=1000)(T:List Th)(D:List Dy){n:Nat}(hn:n<w*h){f:Nat->Option Int}{s2:P.Slot}(h2:Sl s2 (Z2 (w*h) f)):nj [.sh (Z0 w h T D),.sh (.int n),s2]=.ret (.sh (oN (Zu w h f n))):=by
 have e1:=Z1Q hw hw2 hh T D hn
 have e2:=bf (g:=gN 1) (mt:=aM (ă gP (ă đ (Ā 0) (Ā 1)) (mC .non))) (me:=ě 1) (λ(m:Nat)=>PV.int m) (λ(m:Nat)=>PV.int m) (λm=>(f m).isSome) (λρ=>∃a,ρ=[Ŵ s2,a]) (gJ w h n) [Ŵ s2,.no] [] ⟨_,rfl⟩ (by simp[gJ];have:=List.length_filter_le (inB w h) (Z9.map λd=>(((n % w:Nat):Int)+d.1,((n / w:Nat):Int)+d.2));simp[Z9] at this;simp[Z9];omega) (by
  rintro m hm ρ ⟨a,rfl⟩
  have rg:=ZJ (f:=f) (ZA hm)
  generalize Z2 (w*h) f=R at *
  refine⟨[Ŵ s2,.sh (.int m)],[Ŵ s2,.sh (.int m)],by rcases h2 with rfl|rfl<;>simp[Ŵ],?_,λ_=>⟨_,rfl⟩,λ_=>⟨[Ŵ s2,.sh (.int m)],by rcases h2 with rfl|rfl<;>simp[Ŵ],_,rfl⟩⟩
  cases hc:f m with
  |none=>rw[hc] at rg;rcases h2 with rfl|rfl<;>simp[Ŵ,rg,oV,lX]
  |some c=>rw[hc] at rg;rcases h2 with rfl|rfl<;>simp[Ŵ,rg,oV,lX])
 rw[List.nil_append] at e2
 have e3:=Z1R h2 (.sh (Z0 w h T D)) (.sh (.int n)) (.ow ((ZN f (gJ w h n)).map λ(m:Nat)=>PV.int m)) (ZN f (gJ w h n)) (λm hm=>by
  obtain⟨h3,h4⟩:=List.mem_filter.mp hm
  exact⟨ZA h3,h4⟩)
 have e4:=Z2L (λm=>(f m).getD 0) (ZN f (gJ w h n))
 have hl:ZN f (gJ w h n)=(gJ w h n).filter λm=>(f m).isSome:=rfl
 rw[<-hl] at e2
 unfold Zu
 generalize ZN f (gJ w h n)=L at *
 generalize L.map (λ(m:Nat)=>PV.int m)=LV at *
 generalize L.map (λm=>(f m).getD 0)=LK at *
 generalize (gJ w h n).map (λ(m:Nat)=>PV.int m)=B at *
 generalize Z1q (λm=>(f m).getD 0) L=r at *
 generalize Z0 w h T D=Yv at *
 generalize Z2 (w*h) f=R at *
 rcases h2 with rfl|rfl
 ·simp[Ŵ] at e2
  simp[nj,rP,List.replicate,fV,Ŵ,e1,e2,e3,e4]
 ·simp[Ŵ] at e2
  simp[nj,rP,List.replicate,fV,Ŵ,e1,e2,e3,e4]
def ZE(w h goal:Nat)(f:Nat->Option Int)(n:Nat):Option Int:=if n=goal then some 0 else(Zu w h f n).bind f
def Z34{w h:Nat}(hw:0<w)(hw2:w<=1000)(hh:h<=1000)(T:List Th)(D:List Dy){n goal:Nat}(hn:n<w*h){f:Nat->Option Int}{s3:P.Slot}(h3:Sl s3 (Z2 (w*h) f)):qg [.sh (Z0 w h T D),.sh (.int n),.sh (.int goal),s3]=.ret (.sh (oV (ZE w h goal f n))):=by
 by_cases hg:n=goal
 ·subst hg
  have e:ZE w h n f n=some 0:=by simp[ZE]
  rw[e]
  generalize Z0 w h T D=Yv at *
  simp[qg,rQ,List.replicate,oV]
 ·have hg':¬(n:Int)=(goal:Int):=by omega
  have e1:=Z1c hw hw2 hh T D hn h3
  have e:ZE w h goal f n=(Zu w h f n).bind f:=by simp[ZE,hg]
  rw[e]
  have hle:=h3.lend
  cases hb:Zu w h f n with
  |none=>
   rw[hb] at e1
   generalize Z0 w h T D=Yv at *
   generalize Z2 (w*h) f=R at *
   rcases h3 with rfl|rfl<;>simp[qg,rQ,List.replicate,hg',e1,oN,oV,lX]
  |some m=>
   rw[hb] at e1
   have hm:m<w*h:=ZA (List.mem_filter.mp (Z08 hb)).1
   have rg:=ZJ (f:=f) hm
   show _=FR.ret (.sh (oV (f m)))
   generalize oV (f m)=V at *
   generalize Z0 w h T D=Yv at *
   generalize Z2 (w*h) f=R at *
   rcases h3 with rfl|rfl<;>simp[qg,rQ,List.replicate,hg',e1,oN,oV,lX,rg]
def Za(B:Int)(n:Nat):Int:=1-B / 2 ^ n % 2
def Ze(w h goal:Nat)(B:Int)(f:Nat->Option Int)(n:Nat):Option Int:=(ZE w h goal f n).map λb=>Za B n+b
def Z0l(c k:Nat):uy (c:Int) (k:Int)=true:=by simp[uy]
theorem Z0x{w h:Nat}(hw:0<w)(hw2:w<=60)(hh:h<=1000)(T:List Th)(D:List Dy)(s1:P.Slot)(goal B:Nat){f:Nat->Option Int}{s3:P.Slot}(h3:Sl s3 (Z2 (w*h) f)):∀(ks:List Nat) (acc:List PV) (a6 a7 a8:P.Slot),(∀k∈ks,k<w*h)->acc.length+ks.length<=1000000->
 ∃a6' KC KD:P.Slot,forL (gN 6) nq (ks.map λ(k:Nat)=>PV.int k) [.sh (Z0 w h T D),s1,.sh (.int goal),s3,.sh (.int B),.ow acc,a6,a7,a8]=.ok .nx [.sh (Z0 w h T D),s1,.sh (.int goal),s3,.sh (.int B),.ow (acc++ks.map λk=>oV (Ze w h goal B f k)),a6',KC,KD]
 | [],acc,a6,a7,a8,_,_=>⟨a6,a7,a8,by simp[forL]⟩
 |k::ks,acc,a6,a7,a8,hk,hl=>by
  have hk':=hk k List.mem_cons_self
  have eb:=Z34 hw (by omega) hh T D (goal:=goal) hk' h3
  have hl0:acc.length<16777216:=by simp at hl;omega
  have hb:wI (.int ((B:Int) / 2 ^ k)) (.int 1)=some (.int ((B:Int) / 2 ^ k % 2)):=by
   show some (PV.int (Builtin.bitAnd _ _))=_
   rw[Z37]
  have hle:=h3.lend
  have sk:=Z0l B k
  have e:∃KC KD:P.Slot,nq [.sh (Z0 w h T D),s1,.sh (.int goal),s3,.sh (.int B),.ow acc,.sh (.int k),a7,a8]=.ok .nx [.sh (Z0 w h T D),s1,.sh (.int goal),s3,.sh (.int B),.ow (acc ++ [oV (Ze w h goal B f k)]),.sh (.int k),KC,KD]:=by
   unfold Ze Za
   cases hv:ZE w h goal f k with
   |none=>
    rw[hv] at eb
    generalize Z0 w h T D=Yv at *
    generalize Z2 (w*h) f=R at *
    refine⟨.sh .non,.sh (.int (1-(B:Int) / 2 ^ k % 2)),?_⟩
    rcases h3 with rfl|rfl<;>simp[nq,eb,oV,lX,hl0,sk,hb]
   |some c=>
    rw[hv] at eb
    generalize Z0 w h T D=Yv at *
    generalize Z2 (w*h) f=R at *
    refine⟨.sh (.int c),.sh (.int (1-(B:Int) / 2 ^ k % 2)),?_⟩
    rcases h3 with rfl|rfl<;>simp[nq,eb,oV,lX,hl0,sk,hb]
  obtain⟨KC,KD,e⟩:=e
  obtain⟨b6,b7,b8,ih⟩:=Z0x hw hw2 hh T D s1 goal B h3 ks (acc ++ [oV (Ze w h goal B f k)]) (.sh (.int k)) KC KD (λq hq=>hk q (List.mem_cons_of_mem _ hq)) (by simp at hl ⊢;omega)
  refine⟨b6,b7,b8,?_⟩
  rw[List.map_cons,forL]
  have hg:gN 6 (PV.int (k:Int)) [.sh (Z0 w h T D),s1,.sh (.int goal),s3,.sh (.int B),.ow acc,a6,a7,a8]=some [.sh (Z0 w h T D),s1,.sh (.int goal),s3,.sh (.int B),.ow acc,.sh (.int k),a7,a8]:=rfl
  rw[hg]
  dsimp only
  rw[e]
  show forL _ _ _ _=_
  rw[ih]
  simp
def Z1d{w h:Nat}(hw:0<w)(hw2:w<=60)(hh:h<=1000)(tH:w*h<=1000){T:List Th}(hT:T.length<=1000)(D:List Dy)(hg:∀t∈T,Z6 t.1 t.2=true){o:Option P3}(ho:Kz o)(goal:Nat){f:Nat->Option Int}{s3:P.Slot}(h3:Sl s3 (Z2 (w*h) f)) :
 zP [.sh (Z0 w h T D),.sh (bV o),.sh (.int goal),s3]=.ret (.ow (Z2 (w*h) (Ze w h goal (Ū w h T o) f))):=by
 have ed:=Z1a hw hw2 hh tH hT D hg ho
 have yw:=Kv w h T D
 have yh:=X_ w h T D
 have mo:Ł (w:Int) (h:Int)=true:=aj (by omega) (by omega)
 have rr:=ZV (n:=w*h) tH
 have em:((w*h:Nat):Int)=(w:Int)*(h:Int):=Int.natCast_mul w h
 rw[em] at rr
 obtain⟨b6,b7,b8,el⟩:=Z0x hw hw2 hh T D (.sh (bV o)) goal (Ū w h T o) h3 (List.range (w*h)) [] .no .no .no (λk hk=>List.mem_range.mp hk) (by simp;omega)
 rw[List.nil_append] at el
 generalize Ū w h T o=B at *
 have er:(List.range (w*h)).map (λk=>oV (Ze w h goal B f k))=Z2 (w*h) (Ze w h goal B f):=rfl
 rw[er] at el
 generalize Z2 (w*h) (Ze w h goal B f)=R2 at *
 generalize (List.range (w*h)).map (λ(k:Nat)=>PV.int k)=K at *
 generalize Z0 w h T D=Yv at *
 generalize Z2 (w*h) f=R at *
 generalize bV o=ov at *
 rcases h3 with rfl|rfl<;>simp[zP,FT,List.replicate,ed,yw,yh,mo,rr,el]
def Zf(rs:List (Nat->Option Int)):Nat->Option Int:=rs.getLast?.getD λ_=>none
def aP:List (Nat->Option Int)->Nat->Option Int
 | []=>λ_=>none
 |f::_=>f
def Z1(w h goal:Nat):List Nat->List (Nat->Option Int)
 | []=>[]
 |B::Bs=>Ze w h goal B (aP (Z1 w h goal Bs))::Z1 w h goal Bs
def Xw(w h goal:Nat):List (Nat->Option Int)->List Nat->List (Nat->Option Int)
 |rs,[]=>rs
 |rs,B::l=>Xw w h goal (rs ++ [Ze w h goal B (Zf rs)]) l
theorem Z0J(w h goal:Nat)(B:Nat):∀(l:List Nat) (rs:List (Nat->Option Int)),Xw w h goal rs (l ++ [B])=Xw w h goal rs l ++ [Ze w h goal B (Zf (Xw w h goal rs l))]
 | [],rs=>rfl
 |C::l,rs=>by
  show Xw w h goal _ (l ++ [B])=_
  rw[Z0J w h goal B l]
  rfl
def Z2f(rs:List (Nat->Option Int)):Zf rs.reverse=aP rs:=by
 cases rs with
 |nil=>rfl
 |cons f r=>simp[Zf,aP]
theorem Z0K(w h goal:Nat):∀Bs:List Nat,Xw w h goal [] Bs.reverse=(Z1 w h goal Bs).reverse
 | []=>rfl
 |B::Bs=>by
  rw[List.reverse_cons,Z0J,Z0K w h goal Bs,Z2f,Z1,List.reverse_cons]
theorem Zw(w h goal:Nat):∀Bs:List Nat,(Z1 w h goal Bs).length=Bs.length
 | []=>rfl
 |B::Bs=>congrArg (·+ 1) (Zw w h goal Bs)
def rV(N:Nat)(f:Nat->Option Int):PV:=.lst (Z2 N f)
theorem Z0L{w h:Nat}(hw:0<w)(hw2:w<=60)(hh:h<=1000)(tH:w*h<=1000){T:List Th}(hT:T.length<=1000)(D:List Dy)(hg:∀t∈T,Z6 t.1 t.2=true)(goal:Nat)(s1:P.Slot):∀(l:List (Option P3)) (rs:List (Nat->Option Int)) (s4 s5:P.Slot),(s4=.ow (Z2 (w*h) (Zf rs))\/s4=.sh (.lst (Z2 (w*h) (Zf rs))))->(∀o∈l,Kz o)->rs.length+l.length<=1000->
 ∃tK wF:P.Slot,forL (gN 5) nu (l.map bV) [.sh (Z0 w h T D),s1,.sh (.int goal),.ow (rs.map (rV (w*h))),s4,s5]=.ok .nx [.sh (Z0 w h T D),s1,.sh (.int goal),.ow ((Xw w h goal rs (l.map (Ū w h T))).map (rV (w*h))),tK,wF]
 | [],rs,s4,s5,_,_,_=>⟨s4,s5,rfl⟩
 |o::l,rs,s4,s5,h4,ho,hl=>by
  have hl0:rs.length<16777216:=by simp at hl;omega
  have e:∃tK:P.Slot,tK=.sh (.lst (Z2 (w*h) (Ze w h goal (Ū w h T o) (Zf rs))))/\nu [.sh (Z0 w h T D),s1,.sh (.int goal),.ow (rs.map (rV (w*h))),s4,.sh (bV o)]=.ok .nx [.sh (Z0 w h T D),s1,.sh (.int goal),.ow ((rs ++ [Ze w h goal (Ū w h T o) (Zf rs)]).map (rV (w*h))),tK,.sh (bV o)]:=by
   refine⟨_,rfl,?_⟩
   have e1:=Z1d hw hw2 hh tH hT D hg (ho o List.mem_cons_self) goal (f:=Zf rs) (s3:=.bw (Z2 (w*h) (Zf rs))) (.inr rfl)
   have e2:=Z1d hw hw2 hh tH hT D hg (ho o List.mem_cons_self) goal (f:=Zf rs) (s3:=.sh (.lst (Z2 (w*h) (Zf rs)))) (.inl rfl)
   rw[List.map_append,List.map_cons,List.map_nil]
   have hl1:(rs.map (rV (w*h))).length<16777216:=by rw[List.length_map];exact hl0
   unfold rV at *
   generalize Z2 (w*h) (Ze w h goal (Ū w h T o) (Zf rs))=R2 at *
   generalize Z2 (w*h) (Zf rs)=R at *
   generalize Z0 w h T D=Yv at *
   generalize bV o=ov at *
   generalize rs.map (λf=>PV.lst (Z2 (w*h) f))=RS at *
   rcases h4 with rfl|rfl
   ·simp[nu,e1,hl1]
   ·simp[nu,e2,hl1]
  obtain⟨tK,hs4,e⟩:=e
  obtain⟨b4,b5,ih⟩:=Z0L hw hw2 hh tH hT D hg goal s1 l (rs ++ [Ze w h goal (Ū w h T o) (Zf rs)]) tK (.sh (bV o)) (.inr (by rw[hs4];simp[Zf])) (λq hq=>ho q (List.mem_cons_of_mem _ hq)) (by simp at hl ⊢;omega)
  refine⟨b4,b5,?_⟩
  rw[List.map_cons,forL]
  have hgn:gN 5 (bV o) [.sh (Z0 w h T D),s1,.sh (.int goal),.ow (rs.map (rV (w*h))),s4,s5]=some [.sh (Z0 w h T D),s1,.sh (.int goal),.ow (rs.map (rV (w*h))),s4,.sh (bV o)]:=rfl
  rw[hgn]
  dsimp only
  rw[e]
  exact ih
def Z2g{N:Nat}(hN:N<=1000):ļ (gN 0) ł (mC .non) ((List.range N).map λ(k:Nat)=>PV.int k) [.no] []=some ((List.range N).map λ_=>PV.non):=by
 have c1:=ņ (g:=gN 0) (mt:=ł) (me:=mC .non) (λ(k:Nat)=>PV.int k) (λ_=>PV.non) (λρ=>∃a,ρ=[a]) (List.range N) [.no] [] ⟨_,rfl⟩ (by simp;omega) (by
  rintro k _ ρ ⟨a,rfl⟩
  exact⟨[.sh (.int k)],[.sh (.int k)],[.sh (.int k)],by simp,by simp,by simp,_,rfl⟩)
 rw[List.nil_append] at c1
 exact c1
def Z2h{w h:Nat}(hw:0<w)(hw2:w<=60)(hh:h<=1000)(tH:w*h<=1000){T:List Th}(hT:T.length<=1000){D:List Dy}(hg:∀t∈T,Z6 t.1 t.2=true)(goal:Nat){i:Nat}(hi:i<D.length)(ho:∀o∈D[i].2.2,Kz o)(hl:D[i].2.2.length<=1000) :
 zQ [.sh (Z0 w h T D),.sh (.int i),.sh (.int goal)]=.ret (.ow ((Z1 w h goal (D[i].2.2.map (Ū w h T))).map (rV (w*h)))):=by
 have et:=Z1p (w:=w) (h:=h) (T:=T) hi
 have yw:=Kv w h T D
 have yh:=X_ w h T D
 have mo:Ł (w:Int) (h:Int)=true:=aj (by omega) (by omega)
 have rr:=ZV (n:=w*h) tH
 have em:((w*h:Nat):Int)=(w:Int)*(h:Int):=Int.natCast_mul w h
 rw[em] at rr
 have en:=Z2g tH
 have e0:(List.range (w*h)).map (λ_=>PV.non)=Z2 (w*h) (Zf []):=by simp[Z2,Zf,oV]
 rw[e0] at en
 generalize D[i].2.2=os at *
 obtain⟨b4,b5,el⟩:=Z0L hw hw2 hh tH hT D hg goal (.sh (.int i)) os.reverse [] (.ow (Z2 (w*h) (Zf []))) .no (.inl rfl) (λo h=>ho o (List.mem_reverse.mp h)) (by simp;omega)
 rw[List.map_reverse,List.map_reverse,Z0K,List.map_reverse,List.map_nil] at el
 generalize hP:(Z1 w h goal (os.map (Ū w h T))).map (rV (w*h))=P at *
 generalize os.map bV=TV at *
 generalize Z2 (w*h) (Zf [])=R0 at *
 generalize (List.range (w*h)).map (λ(k:Nat)=>PV.int k)=K at *
 generalize Z0 w h T D=Yv at *
 simp[zQ,FW,List.replicate,fV,Ŵ,et,yw,yh,mo,rr,en,el]
def Z2v(pre:List Nat)(l:Nat):đ (.lst ((pre ++ [l]).map λ(m:Nat)=>PV.int m)) (.int (-1))=some (.int l):=by
 show mD _ _=_
 unfold mD HD
 simp
 rw[if_pos (by omega)]
 have e:(-1+((pre.length:Int)+1)).toNat=pre.length:=by omega
 simp[e]
theorem Z0M{w h goal:Nat}:∀{Bs:List Nat} {i n:Nat} {f:Nat->Option Int},(Z1 w h goal Bs)[i]?=some f->n≠goal->(f n).isSome=true->∃m f',(Z1 w h goal Bs)[i+1]?=some f'/\Zu w h f' n=some m/\(f' m).isSome=true
 | [],i,n,f,h1,_,_=>by simp[Z1] at h1
 |B::Bs,0,n,f,h1,hn,hs=>by
  have h1':Ze w h goal B (aP (Z1 w h goal Bs))=f:=by simpa[Z1] using h1
  rw[<-h1'] at hs
  unfold Ze ZE at hs
  rw[if_neg hn] at hs
  cases hb:Zu w h (aP (Z1 w h goal Bs)) n with
  |none=>rw[hb] at hs;simp at hs
  |some m=>
   rw[hb] at hs
   have hm:(aP (Z1 w h goal Bs) m).isSome=true:=by
    cases hc:aP (Z1 w h goal Bs) m with
    |none=>rw[show(some m).bind (aP (Z1 w h goal Bs))=aP (Z1 w h goal Bs) m from rfl,hc] at hs;simp at hs
    |some c=>rfl
   cases hp:Z1 w h goal Bs with
   |nil=>rw[hp] at hm;simp[aP] at hm
   |cons f' r=>
    rw[hp] at hb hm
    exact⟨m,f',by simp[Z1,hp],hb,hm⟩
 |B::Bs,i+1,n,f,h1,hn,hs=>by
  obtain⟨m,f',q1,q2,q3⟩:=Z0M (Bs:=Bs) (i:=i) (by simpa[Z1] using h1) hn hs
  exact⟨m,f',by simpa[Z1] using q1,q2,q3⟩
def Z1S{w h:Nat}(hw:0<w)(hw2:w<=1000)(hh:h<=1000)(T:List Th)(D:List Dy){goal start:Nat}(hs:start<w*h){Bs:List Nat}(hl:Bs.length<=1000){f0:Nat->Option Int}(h0:(Z1 w h goal Bs)[0]?=some f0)(hs0:(f0 start).isSome=true) :
 ∃ms:List Nat,uX [.sh (Z0 w h T D),.sh (.int start),.sh (.int goal),.bw ((Z1 w h goal Bs).map (rV (w*h)))]=.ret (.ow (ms.map λ(m:Nat)=>PV.tup [.int (m % w:Nat),.int (m / w:Nat)])):=by
 have yw:=Kv w h T D
 obtain⟨PV',hPV⟩:∃P:List PV,(Z1 w h goal Bs).map (rV (w*h))=P:=⟨_,rfl⟩
 rw[hPV]
 have hstep:∀b:List Nat×Nat,(b.2<w*h/\∃f,(Z1 w h goal Bs)[b.1.length]?=some f/\(f b.2).isSome=true)->
  (aM (ă fj (ă đ (Ā 4) (aL Ŗ (mC (.int 1)))) (Ā 2))) [.sh (Z0 w h T D),.sh (.int start),.sh (.int goal),.bw PV',.ow ((b.1 ++ [b.2]).map λ(m:Nat)=>PV.int m)]=.ok (decide (b.2≠goal)) [.sh (Z0 w h T D),.sh (.int start),.sh (.int goal),.bw PV',.ow ((b.1 ++ [b.2]).map λ(m:Nat)=>PV.int m)]:=by
  rintro ⟨pre,l⟩ _
  have e1:=Z2v pre l
  have e2:decide (l≠goal)=decide ((l:Int)≠(goal:Int)):=by
   by_cases hq:l=goal
   ·simp[hq]
   ·simp[hq];omega
  dsimp only
  generalize (pre ++ [l]).map (λ(m:Nat)=>PV.int m)=LV at *
  rw[e2]
  simp[e1]
 obtain⟨⟨pre,l⟩,e1,⟨hl1,f,hf,hfs⟩,e2⟩:=wO (mc:=aM (ă fj (ă đ (Ā 4) (aL Ŗ (mC (.int 1)))) (Ā 2))) (mb:=iT 4 (č (Č nj (Ą 0 (ć (ă đ (Ā 4) (aL Ŗ (mC (.int 1)))) (ć (ă đ (Ā 3) (cZ cR (Ă (Ā 4) Ĕ))) Ċ)))))) (λb:List Nat×Nat=>[.sh (Z0 w h T D),.sh (.int start),.sh (.int goal),.bw PV',.ow ((b.1 ++ [b.2]).map λ(m:Nat)=>PV.int m)]) (λb=>b.2<w*h/\∃f,(Z1 w h goal Bs)[b.1.length]?=some f/\(f b.2).isSome=true) (λb=>1001-b.1.length) (by
  rintro ⟨pre,l⟩ hb
  have e0:=hstep ⟨pre,l⟩ hb
  obtain⟨hl1,f,hf,hfs⟩:=hb
  dsimp only at hl1 hf hfs e0 ⊢
  by_cases hg:l=goal
  ·left
   rw[e0,hg]
   simp
  ·right
   refine⟨by rw[e0];simp[hg],?_⟩
   obtain⟨m,f',q1,q2,q3⟩:=Z0M hf hg hfs
   have hlen:pre.length+1<Bs.length:=by
    have:=(List.getElem?_eq_some_iff.mp q1).1
    rw[Zw] at this
    exact this
   have hm:m<w*h:=ZA (List.mem_filter.mp (Z08 q2)).1
   refine⟨(pre ++ [l],m),?_,⟨hm,f',by simpa using q1,q3⟩,by simp;omega⟩
   have eb:=Z1c hw hw2 hh T D hl1 (f:=f') (s2:=.sh (.lst (Z2 (w*h) f'))) (.inl rfl)
   rw[q2] at eb
   have ei:=Z2v pre l
   have ep:đ (.lst PV') (.int ((pre.length:Int)+1))=some (.lst (Z2 (w*h) f')):=by
    rw[<-hPV]
    have e7:((pre.length:Int)+1)=((pre.length+1:Nat):Int):=by omega
    rw[e7]
    have:((Z1 w h goal Bs).map (rV (w*h)))[pre.length+1]?=some (.lst (Z2 (w*h) f')):=by
     rw[List.getElem?_map,q1];rfl
    generalize pre.length+1=q at *
    simp[this]
   have hll:(((pre ++ [l]).map λ(m:Nat)=>PV.int m).length:Int)=(pre.length:Int)+1:=by simp
   have hl2:((pre ++ [l]).map λ(m:Nat)=>PV.int m).length<16777216:=by simp;omega
   have ea:(((pre ++ [l]) ++ [m]).map λ(m:Nat)=>PV.int m)=((pre ++ [l]).map λ(m:Nat)=>PV.int m) ++ [PV.int m]:=by simp
   dsimp only
   rw[ea]
   generalize (pre ++ [l]).map (λ(m:Nat)=>PV.int m)=LV at *
   generalize Z2 (w*h) f'=R at *
   generalize Z0 w h T D=Yv at *
   simp[ei,hll,ep,eb,oN,hl2]) (b:=([],start)) ⟨hs,f0,h0,hs0⟩
 refine⟨pre ++ [l],?_⟩
 have hpl:pre.length<Bs.length:=by
  have:=(List.getElem?_eq_some_iff.mp hf).1
  rw[Zw] at this
  exact this
 have c1:=ņ (g:=gN 1) (mt:=ł) (me:=č (Č qe (Ą 1 (ć (aL (ő ["Yard"] "width") (Ā 0)) Ċ)))) (λ(m:Nat)=>PV.int m) (λ(m:Nat)=>PV.tup [.int (m % w:Nat),.int (m / w:Nat)]) (λρ=>∃a,ρ=[.sh (Z0 w h T D),a]) (pre ++ [l]) [.sh (Z0 w h T D),.no] [] ⟨_,rfl⟩ (by simp;omega) (by
  rintro m _ ρ ⟨a,rfl⟩
  have es:=Z1b (n:=m) hw hw2
  refine⟨[.sh (Z0 w h T D),.sh (.int m)],[.sh (Z0 w h T D),.sh (.int m)],[.sh (Z0 w h T D),.sh (.int m)],by simp,by simp,?_,_,rfl⟩
  generalize Z0 w h T D=Yv at *
  simp[yw,es])
 rw[List.nil_append] at c1
 have ew:FZ [.sh (Z0 w h T D),.sh (.int start),.sh (.int goal),.bw PV',.ow [.int start]]=_:=e1
 dsimp only at ew
 generalize (pre ++ [l]).map (λ(m:Nat)=>PV.tup [.int (m % w:Nat),.int (m / w:Nat)])=OUT at *
 generalize (pre ++ [l]).map (λ(m:Nat)=>PV.int m)=LV at *
 generalize Z0 w h T D=Yv at *
 simp[uX,Ga,List.replicate,fV,Ŵ,ew,c1]
def dI(w a b:Nat):Nat:=(((a % w:Nat):Int)-((b % w:Nat):Int)).natAbs+(((a / w:Nat):Int)-((b / w:Nat):Int)).natAbs
def crd{w:Nat}(hw:0<w){x y:Int}(hx:0<=x/\x<w)(hy:0<=y):(((y*(w:Int)+x).toNat % w:Nat):Int)=x/\(((y*(w:Int)+x).toNat / w:Nat):Int)=y:=by
 obtain⟨a,rfl⟩:=Int.eq_ofNat_of_zero_le hx.1
 obtain⟨b,rfl⟩:=Int.eq_ofNat_of_zero_le hy
 have e:((b:Int)*(w:Int)+(a:Int)).toNat=b*w+a:=by
  have:((b:Int)*(w:Int)+(a:Int))=((b*w+a:Nat):Int):=by simp
  rw[this];rfl
 have ha:a<w:=by omega
 rw[e]
 refine⟨?_,?_⟩
 ·rw[Nat.mul_comm,Nat.mul_add_mod,Nat.mod_eq_of_lt ha]
 ·rw[Nat.mul_comm,Nat.mul_add_div hw,Nat.div_eq_of_lt ha];simp
def Z0m{w h:Nat}(hw:0<w){n m:Nat}:m∈gJ w h n↔∃d∈Z9,inB w h (((n % w:Nat):Int)+d.1,((n / w:Nat):Int)+d.2)=true/\((m % w:Nat):Int)=((n % w:Nat):Int)+d.1/\((m / w:Nat):Int)=((n / w:Nat):Int)+d.2:=by
 unfold gJ
 constructor
 ·intro hm
  obtain⟨p,hp,rfl⟩:=List.mem_map.mp hm
  obtain⟨hp1,hp2⟩:=List.mem_filter.mp hp
  obtain⟨d,hd,rfl⟩:=List.mem_map.mp hp1
  have hb:=of_decide_eq_true hp2
  obtain⟨c1,c2⟩:=crd hw hb.1 hb.2.1
  exact⟨d,hd,hp2,c1,c2⟩
 ·rintro ⟨d,hd,hi,h1,h2⟩
  refine List.mem_map.mpr ⟨_,List.mem_filter.mpr ⟨List.mem_map.mpr ⟨d,hd,rfl⟩,hi⟩,?_⟩
  dsimp only
  rw[<-h1,<-h2]
  have:=Nat.div_add_mod m w
  have e:((m / w:Nat):Int)*(w:Int)+((m % w:Nat):Int)=(m:Int):=by
   have:((w*(m / w)+m % w:Nat):Int)=(m:Int):=by rw[this]
   rw[Int.natCast_add,Int.natCast_mul,Int.mul_comm] at this
   exact this
  rw[e]
  rfl
def Z2M{w h n m g:Nat}(hw:0<w)(hm:m∈gJ w h n):dI w n g<=dI w m g+1:=by
 obtain⟨d,hd,_,h1,h2⟩:=(Z0m hw).mp hm
 unfold dI
 rw[h1,h2]
 simp[Z9] at hd
 rcases hd with rfl|rfl|rfl|rfl|rfl<;>dsimp only<;>omega
def Z39{w a b:Nat}(hw:0<w)(h:dI w a b=0):a=b:=by
 unfold dI at h
 have h1:a % w=b % w:=by omega
 have h2:a / w=b / w:=by omega
 rw[<-Nat.div_add_mod a w,<-Nat.div_add_mod b w,h1,h2]
def Z2i{w h n g:Nat}(hw:0<w)(hn:n<w*h)(hg:g<w*h)(hng:n≠g):∃m∈gJ w h n,dI w m g+1=dI w n g:=by
 have hd:dI w n g≠0:=λz=>hng (Z39 hw z)
 have n1:=Nat.mod_lt n hw
 have g1:=Nat.mod_lt g hw
 have n2:n / w<h:=(ZM hw).mpr hn
 have g2:g / w<h:=(ZM hw).mpr hg
 have p1:(0:Int)<=((n / w:Nat):Int):=Int.natCast_nonneg _
 have p2:(0:Int)<=((n % w:Nat):Int):=Int.natCast_nonneg _
 have p3:(0:Int)<=((g / w:Nat):Int):=Int.natCast_nonneg _
 have p4:(0:Int)<=((g % w:Nat):Int):=Int.natCast_nonneg _
 have go:∀d∈Z9,inB w h (((n % w:Nat):Int)+d.1,((n / w:Nat):Int)+d.2)=true->((((n % w:Nat):Int)+d.1-((g % w:Nat):Int)).natAbs+(((n / w:Nat):Int)+d.2-((g / w:Nat):Int)).natAbs+1=dI w n g)->∃m∈gJ w h n,dI w m g+1=dI w n g:=by
  intro d hd hi he
  have hb:=of_decide_eq_true hi
  obtain⟨c1,c2⟩:=crd hw hb.1 hb.2.1
  dsimp only at c1 c2
  refine⟨_,(Z0m hw).mpr ⟨d,hd,hi,c1,c2⟩,?_⟩
  show dI w ((((n / w:Nat):Int)+d.2)*(w:Int)+(((n % w:Nat):Int)+d.1)).toNat g+1=_
  have e:dI w ((((n / w:Nat):Int)+d.2)*(w:Int)+(((n % w:Nat):Int)+d.1)).toNat g=(((n % w:Nat):Int)+d.1-((g % w:Nat):Int)).natAbs+(((n / w:Nat):Int)+d.2-((g / w:Nat):Int)).natAbs:=by
   unfold dI
   rw[c1,c2]
  rw[e]
  exact he
 unfold dI at hd
 by_cases x1:n % w<g % w
 ·exact go (1,0) (by simp[Z9]) (decide_eq_true ⟨⟨by dsimp only;omega,by dsimp only;omega⟩,by dsimp only;omega,by dsimp only;omega⟩) (by unfold dI;dsimp only;omega)
 ·by_cases x2:g % w<n % w
  ·exact go (-1,0) (by simp[Z9]) (decide_eq_true ⟨⟨by dsimp only;omega,by dsimp only;omega⟩,by dsimp only;omega,by dsimp only;omega⟩) (by unfold dI;dsimp only;omega)
  ·by_cases y1:n / w<g / w
   ·exact go (0,1) (by simp[Z9]) (decide_eq_true ⟨⟨by dsimp only;omega,by dsimp only;omega⟩,by dsimp only;omega,by dsimp only;omega⟩) (by unfold dI;dsimp only;omega)
   ·exact go (0,-1) (by simp[Z9]) (decide_eq_true ⟨⟨by dsimp only;omega,by dsimp only;omega⟩,by dsimp only;omega,by dsimp only;omega⟩) (by unfold dI;dsimp only;omega)
theorem ZK(k:Nat->Int):∀(ms:List Nat) (m:Nat),∀q∈m::ms,k (Hx k m ms)<=k q
 | [],m,q,hq=>by
   have:q=m:=by simpa using hq
   rw[this];exact Int.le_refl _
 |a::as,m,q,hq=>by
  rw[Hx]
  split
  ·rename_i hlt
   rcases List.mem_cons.mp hq with rfl|hq
   ·have:=ZK k as a a List.mem_cons_self
    omega
   ·exact ZK k as a q hq
  ·rename_i hlt
   rcases List.mem_cons.mp hq with rfl|hq
   ·exact ZK k as q q List.mem_cons_self
   ·rcases List.mem_cons.mp hq with rfl|hq
    ·have:=ZK k as m m List.mem_cons_self
     omega
    ·exact ZK k as m q (List.mem_cons_of_mem _ hq)
def Z1T{w h n m:Nat}{f:Nat->Option Int}{c:Int}(hm:m∈gJ w h n)(hc:f m=some c):∃q c',Zu w h f n=some q/\f q=some c'/\c'<=c:=by
 have hl:m∈ZN f (gJ w h n):=List.mem_filter.mpr ⟨hm,by rw[hc];rfl⟩
 unfold Zu
 cases hL:ZN f (gJ w h n) with
 |nil=>rw[hL] at hl;simp at hl
 |cons a as=>
  rw[hL] at hl
  have h1:=ZK (λm=>(f m).getD 0) as a m hl
  have h2:Hx (λm=>(f m).getD 0) a as∈ZN f (gJ w h n):=by rw[hL];exact Z00 _ as a
  obtain⟨_,h3⟩:=List.mem_filter.mp h2
  obtain⟨c',h4⟩:=Option.isSome_iff_exists.mp h3
  refine⟨_,c',rfl,h4,?_⟩
  rw[h4,hc] at h1
  exact h1
def Z2N{w h n q:Nat}{f:Nat->Option Int}(hq:Zu w h f n=some q):q∈gJ w h n/\∃c,f q=some c:=by
 obtain⟨h1,h2⟩:=List.mem_filter.mp (Z08 hq)
 exact⟨h1,Option.isSome_iff_exists.mp h2⟩
def Z3a(B n:Nat):0<=Za B n/\Za B n<=1:=by
 unfold Za
 have:=Int.emod_two_eq ((B:Int) / 2 ^ n)
 omega
def ZO{w h g:Nat}(B:Nat)(f:Nat->Option Int):Ze w h g B f g=some (Za B g):=by
 unfold Ze ZE
 simp
def Z0e{w h g n m:Nat}(B:Nat){f:Nat->Option Int}{c:Int}(hm:m∈gJ w h n)(hc:f m=some c)(h0:0<=c):∃r,Ze w h g B f n=some r/\r<=Za B n+c:=by
 by_cases hn:n=g
 ·subst hn
  exact⟨_,ZO B f,by omega⟩
 ·obtain⟨q,c',h1,h2,h3⟩:=Z1T hm hc
  refine⟨Za B n+c',?_,by omega⟩
  unfold Ze ZE
  rw[if_neg hn,h1]
  simp[h2]
def Z0N{w h g n:Nat}{B:Nat}{f:Nat->Option Int}{r:Int}(hr:Ze w h g B f n=some r):(n=g/\r=Za B n)\/(n≠g/\∃q c,q∈gJ w h n/\f q=some c/\r=Za B n+c):=by
 unfold Ze ZE at hr
 by_cases hn:n=g
 ·rw[if_pos hn] at hr
  simp at hr
  exact .inl ⟨hn,hr.symm⟩
 ·rw[if_neg hn] at hr
  cases hb:Zu w h f n with
  |none=>rw[hb] at hr;simp at hr
  |some q=>
   rw[hb] at hr
   obtain⟨h1,c,h2⟩:=Z2N hb
   simp[h2] at hr
   exact .inr ⟨hn,q,c,h1,h2,hr.symm⟩
theorem ZB{w h g:Nat}:∀(Bs:List Nat) {n:Nat} {c:Int},aP (Z1 w h g Bs) n=some c->0<=c/\c<=Bs.length
 | [],n,c,hc=>by simp[Z1,aP] at hc
 |B::Bs,n,c,hc=>by
  have l:=Z3a B n
  rcases Z0N (show Ze w h g B (aP (Z1 w h g Bs)) n=some c from hc) with⟨_,e⟩|⟨_,q,c',_,h2,e⟩
  ·simp;omega
  ·have:=ZB Bs h2
   simp;omega
theorem Z0a{w h g:Nat}(hw:0<w)(hg:g<w*h):∀(Bs:List Nat) {n:Nat},n<w*h->((aP (Z1 w h g Bs) n).isSome=true↔dI w n g<Bs.length)
 | [],n,_=>by simp[Z1,aP]
 |B::Bs,n,hn=>by
  show(Ze w h g B (aP (Z1 w h g Bs)) n).isSome=true↔dI w n g<Bs.length+1
  constructor
  ·intro hs
   obtain⟨r,hr⟩:=Option.isSome_iff_exists.mp hs
   rcases Z0N hr with⟨e,_⟩|⟨_,q,c',hq,h2,_⟩
   ·subst e
    have:dI w n n=0:=by unfold dI;omega
    omega
   ·have h3:=(Z0a hw hg Bs (ZA hq)).mp (by rw[h2];rfl)
    have:=Z2M (g:=g) hw hq
    omega
  ·intro hd
   by_cases e:n=g
   ·subst e
    rw[ZO];rfl
   ·obtain⟨m,hm,he⟩:=Z2i hw hn hg e
    have h3:=(Z0a hw hg Bs (ZA hm)).mpr (by omega)
    obtain⟨c,hc⟩:=Option.isSome_iff_exists.mp h3
    obtain⟨r,hr,_⟩:=Z0e (g:=g) B hm hc (ZB Bs hc).1
    rw[hr];rfl
theorem Z1U{w h g:Nat}:∀(Bs:List Nat) {t:Nat},t<Bs.length->(Z1 w h g Bs)[t]?=some (aP (Z1 w h g (Bs.drop t)))
 | [],t,ht=>by simp at ht
 |B::Bs,0,_=>rfl
 |B::Bs,t+1,ht=>by
  rw[List.drop_succ_cons]
  exact Z1U Bs (by simpa using ht)
def Z0O{w h g n:Nat}{B B':Nat}{f f':Nat->Option Int}(hl:Za B' n<=Za B n)(hf:∀m c,m<w*h->f m=some c->∃c',f' m=some c'/\0<=c'/\c'<=c){r:Int}(hr:Ze w h g B f n=some r):∃r',Ze w h g B' f' n=some r'/\r'<=r:=by
 rcases Z0N hr with⟨e,e2⟩|⟨_,q,c,hq,h2,e⟩
 ·subst e
  exact⟨_,ZO B' f',by omega⟩
 ·obtain⟨c',h3,h4,h5⟩:=hf q c (ZA hq) h2
  obtain⟨r',h6,h7⟩:=Z0e (g:=g) B' hq h3 h4
  exact⟨r',h6,by omega⟩
theorem Z0P{w h g:Nat}:∀(Bs Cs:List Nat),Bs.length=Cs.length->(∀i n,n<w*h->Za (Cs.getD i 0) n<=Za (Bs.getD i 0) n)->∀{n:Nat} {c:Int},n<w*h->aP (Z1 w h g Bs) n=some c->∃c',aP (Z1 w h g Cs) n=some c'/\c'<=c
 | [],_,_,_,n,c,_,hc=>by simp[Z1,aP] at hc
 |B::Bs,[],hl,_,n,c,_,hc=>by simp at hl
 |B::Bs,C::Cs,hl,hi,n,c,hn,hc=>by
  refine Z0O (B:=B) (B':=C) (hi 0 n hn) (λm c hm h=>?_) hc
  obtain⟨c',h1,h2⟩:=Z0P Bs Cs (by simpa using hl) (λi n hn=>hi (i+1) n hn) hm h
  exact⟨c',h1,(ZB Cs h1).1,h2⟩
theorem Z0Q{w h g:Nat}(X:Nat):∀(Bs:List Nat) {n:Nat} {c:Int},n<w*h->aP (Z1 w h g Bs) n=some c->∃c',aP (Z1 w h g (Bs ++ [X])) n=some c'/\c'<=c
 | [],n,c,_,hc=>by simp[Z1,aP] at hc
 |B::Bs,n,c,hn,hc=>by
  refine Z0O (B:=B) (B':=B) (Int.le_refl _) (λm c hm h=>?_) hc
  obtain⟨c',h1,h2⟩:=Z0Q X Bs hm h
  exact⟨c',h1,(ZB (Bs ++ [X]) h1).1,h2⟩
theorem Z3c:∀(xs:List Int),xs.length=4->∃a b c d,xs=[a,b,c,d]
 | [a,b,c,d],_=>⟨a,b,c,d,rfl⟩
def Z35(c0:Int):∃r:P3,vf [.sh (.int c0)]=.ret (.sh (c3 r))/\RB r/\0<r.2.2:=by
 obtain⟨xs,eg,hl,hx⟩:=Z0v c0 (n:=4) (by omega)
 obtain⟨a,b,c,d,rfl⟩:=Z3c xs hl
 have Xv:kW [.sh (.int c0),.sh (.int 4)]=.ret (.ow [.int a,.int b,.int c,.int d]):=eg
 have a1:0<=a % 13/\a % 13<13:=by omega
 have b1:0<=b % 13/\b % 13<13:=by omega
 have c1:0<=c % 5/\c % 5<5:=by omega
 have go:∀s:Int,(s=1\/s=3\/s=100000)->đ (.lst [.int 1,.int 1,.int 3,.int 100000]) (.int (d % 4))=some (.int s)->∃r:P3,vf [.sh (.int c0)]=.ret (.sh (c3 r))/\RB r/\0<r.2.2:=by
  intro s hs hx
  have m1:∀x:Int,Ł x s=true:=λx=>mul_r (by omega) (by omega)
  refine⟨((a % 13-6)*s,(b % 13-6)*s,(1+c % 5)*s),?_,?_⟩
  ·simp[vf,Gf,List.replicate,Xv,hx,m1,c3]
  ·rcases hs with rfl|rfl|rfl<;>refine⟨⟨?_,?_,?_,?_,?_,?_⟩,?_⟩<;>dsimp only<;>omega
 have hd:d % 4=0\/d % 4=1\/d % 4=2\/d % 4=3:=by omega
 rcases hd with hd|hd|hd|hd
 ·exact go 1 (by omega) (by rw[hd];rfl)
 ·exact go 1 (by omega) (by rw[hd];rfl)
 ·exact go 3 (by omega) (by rw[hd];rfl)
 ·exact go 100000 (by omega) (by rw[hd];rfl)
def Zn:HD 2 0=some 0:=rfl
def Zq:HD 2 1=some 1:=rfl
def tp(p:Int×Int):PV:=.tup [.int p.1,.int p.2]
def Z2j(c:Int):∃w h:Nat,ju [.sh (.int c),.sh (.int 6)]=.ret (.sh (.tup [.int w,.int h]))/\1<=w/\w<=5/\1<=h/\h<=4:=by
 have hd:c % 5=0\/c % 5=1\/c % 5=2\/c % 5=3\/c % 5=4:=by omega
 rcases hd with hd|hd|hd|hd|hd
 ·obtain⟨h,hh⟩:∃h:Nat,1+c / 5 % 4=(h:Int):=⟨(1+c / 5 % 4).toNat,by omega⟩
  exact⟨1,h,by simp[ju,jO,List.replicate,hd,hh],by omega,by omega,by omega,by omega⟩
 ·obtain⟨h,hh⟩:∃h:Nat,1+c / 5 % 3=(h:Int):=⟨(1+c / 5 % 3).toNat,by omega⟩
  exact⟨2,h,by simp[ju,jO,List.replicate,hd,hh],by omega,by omega,by omega,by omega⟩
 ·obtain⟨h,hh⟩:∃h:Nat,1+c / 5 % 2=(h:Int):=⟨(1+c / 5 % 2).toNat,by omega⟩
  exact⟨3,h,by simp[ju,jO,List.replicate,hd,hh],by omega,by omega,by omega,by omega⟩
 ·exact⟨4,1,by simp[ju,jO,List.replicate,hd],by omega,by omega,by omega,by omega⟩
 ·exact⟨5,1,by simp[ju,jO,List.replicate,hd],by omega,by omega,by omega,by omega⟩
def Z0R(c:Int):∃o:Option P3,iD [.sh (.int c)]=.ret (.sh (bV o))/\Kz o:=by
 by_cases h:c / 3 % 6=4
 ·exact⟨none,by simp[iD,xQ,List.replicate,h,bV],trivial⟩
 ·obtain⟨r,e,h1,h2⟩:=Z35 c
  exact⟨some r,by simp[iD,xQ,List.replicate,h,e,bV],h1,h2⟩
def Z1V(ns:List Int){n:Nat}(hn:n<=1000):∃os:List (Option P3),ļ (gN 1) ł (č (Č iD (ć (č (Č ŉ (Ą 0 (ć (č (Ġ ĝ (mC (.int 8)) (Ā 1))) Ċ)))) Ċ))) ((List.range n).map λ(i:Nat)=>PV.int (i:Int)) [.sh (.lst (ns.map .int)),.no] []=some (os.map bV)/\os.length=n/\∀o∈os,Kz o:=by
 obtain⟨F,hF⟩:=Classical.axiomOfChoice Z0R
 have c1:=ņ (g:=gN 1) (mt:=ł) (me:=č (Č iD (ć (č (Č ŉ (Ą 0 (ć (č (Ġ ĝ (mC (.int 8)) (Ā 1))) Ċ)))) Ċ))) (λ(i:Nat)=>PV.int (i:Int)) (λk=>bV (F (ns.getD (8+k) 0))) (λρ=>∃a,ρ=[.sh (.lst (ns.map .int)),a]) (List.range n) [.sh (.lst (ns.map .int)),.no] [] ⟨_,rfl⟩ (by simp;omega) (by
  rintro k _ ρ ⟨a,rfl⟩
  have e1:=ZI ns (8+k)
  have e7:((8+k:Nat):Int)=8+(k:Int):=by omega
  rw[e7] at e1
  obtain⟨e2,_⟩:=hF (ns.getD (8+k) 0)
  generalize F (ns.getD (8+k) 0)=q at *
  generalize ns.getD (8+k) 0=v at *
  generalize bV q=V at *
  generalize ns.map PV.int=NS at *
  exact⟨[.sh (.lst NS),.sh (.int k)],[.sh (.lst NS),.sh (.int k)],[.sh (.lst NS),.sh (.int k)],by simp,by simp,by simp[e1,e2,-ZD],_,rfl⟩)
 refine⟨(List.range n).map λk=>F (ns.getD (8+k) 0),?_,by simp,λo ho=>?_⟩
 ·rw[List.nil_append] at c1
  rw[c1,List.map_map]
  rfl
 ·obtain⟨k,_,rfl⟩:=List.mem_map.mp ho
  exact(hF _).2
def Z2k(p q:Int×Int):zR [.sh (tp p),.sh (tp q)]=.ret (.sh (.int (((p.1-q.1).natAbs:Int)+((p.2-q.2).natAbs:Int)))):=by
 simp[zR,Gg,List.replicate,tp,Zn,Zq]
 split<;>split<;>omega
def sn(w n:Nat):Int×Int:=(((n % w:Nat):Int),((n / w:Nat):Int))
def Z0n{w h:Nat}(hw2:w<=1000)(hh:h<=1000)(hw:0<w){n:Nat}(hn:n<w*h):qm [.sh (.tup [.int w,.int h]),.sh (tp (sn w n))]=.ret (.sh (.int n)):=by
 have n2:n / w<h:=(ZM hw).mpr hn
 have p1:(0:Int)<=((n / w:Nat):Int):=Int.natCast_nonneg _
 have m1:Ł ((n / w:Nat):Int) (w:Int)=true:=Z0I (by omega) (by omega) (by omega) (by omega)
 have e:((n / w:Nat):Int)*(w:Int)+((n % w:Nat):Int)=(n:Int):=by
  have:=Nat.div_add_mod n w
  have:((w*(n / w)+n % w:Nat):Int)=(n:Int):=by rw[this]
  rw[Int.natCast_add,Int.natCast_mul,Int.mul_comm] at this
  exact this
 unfold tp sn
 dsimp only
 generalize ((n / w:Nat):Int)=y at *
 generalize ((n % w:Nat):Int)=x at *
 simp[qm,Gi,List.replicate,Zn,Zq,m1,e]
def Zr(p:Int×Int):List (Int×Int):=[(p.1,p.2),(p.1-1,p.2),(p.1+1,p.2),(p.1,p.2-1),(p.1,p.2+1)]
theorem Z0f{w h:Nat}(z0 z1 z3 z5 z6:P.Slot):∀(l:List (Int×Int)) (acc:List (Int×Int)) (s7 s8:P.Slot),acc.length+l.length<=1000->∃HS zX:P.Slot,forL (gT 2 (Ğ (gN 7) (Ğ (gN 8) š))) gb (l.map tp) [z0,z1,.sh (.tup [.int w,.int h]),z3,.ow (acc.map tp),z5,z6,s7,s8]=.ok .nx [z0,z1,.sh (.tup [.int w,.int h]),z3,.ow ((acc++l.filter (inB w h)).map tp),z5,z6,HS,zX]
 | [],acc,s7,s8,_=>⟨s7,s8,by simp[forL]⟩
 |p::l,acc,s7,s8,hl=>by
  have hl0:acc.length<16777216:=by simp at hl;omega
  have e:gb [z0,z1,.sh (.tup [.int w,.int h]),z3,.ow (acc.map tp),z5,z6,.sh (.int p.1),.sh (.int p.2)]=.ok .nx [z0,z1,.sh (.tup [.int w,.int h]),z3,.ow ((if inB w h p then acc ++ [p] else acc).map tp),z5,z6,.sh (.int p.1),.sh (.int p.2)]:=by
   have hl1:(acc.map tp).length<16777216:=by rw[List.length_map];exact hl0
   have ea:(acc ++ [p]).map tp=acc.map tp ++ [.tup [.int p.1,.int p.2]]:=by simp[tp]
   unfold inB
   by_cases a1:0<=p.1
   ·by_cases a2:p.1<(w:Int)
    ·by_cases a3:0<=p.2
     ·by_cases a4:p.2<(h:Int)
      ·simp only[a1,a2,a3,a4,and_self,decide_true,if_true]
       rw[ea]
       generalize acc.map tp=A at *
       simp[gb,Zn,Zq,a1,a2,a3,a4,hl1]
      ·simp only[a1,a2,a3,a4,and_self,and_false,decide_false,Bool.false_eq_true,if_false]
       generalize acc.map tp=A at *
       simp[gb,Zn,Zq,a1,a2,a3,a4]
     ·simp only[a1,a2,a3,and_self,and_false,false_and,decide_false,Bool.false_eq_true,if_false]
      generalize acc.map tp=A at *
      simp[gb,Zn,Zq,a1,a2,a3]
    ·simp only[a1,a2,and_self,and_false,false_and,decide_false,Bool.false_eq_true,if_false]
     generalize acc.map tp=A at *
     simp[gb,Zn,Zq,a1,a2]
   ·simp only[a1,false_and,decide_false,Bool.false_eq_true,if_false]
    generalize acc.map tp=A at *
    simp[gb,Zn,Zq,a1]
  obtain⟨b7,b8,ih⟩:=Z0f (w:=w) (h:=h) z0 z1 z3 z5 z6 l (if inB w h p then acc ++ [p] else acc) (.sh (.int p.1)) (.sh (.int p.2)) (by split<;>simp at hl ⊢ <;> omega)
  refine⟨b7,b8,?_⟩
  rw[List.map_cons,forL]
  have hg:gT 2 (Ğ (gN 7) (Ğ (gN 8) š)) (tp p) [z0,z1,.sh (.tup [.int w,.int h]),z3,.ow (acc.map tp),z5,z6,s7,s8]=some [z0,z1,.sh (.tup [.int w,.int h]),z3,.ow (acc.map tp),z5,z6,.sh (.int p.1),.sh (.int p.2)]:=rfl
  rw[hg]
  dsimp only
  rw[e]
  show forL _ _ _ _=_
  rw[ih,List.filter_cons]
  by_cases hi:inB w h p=true
  ·simp[hi]
  ·simp[hi]
def Z2l{w h:Nat}(hw:0<w)(hw2:w<=1000)(hh:h<=1000)(c:Int){n:Nat}(hn:n<w*h):∃m∈gJ w h n,zT [.sh (tp (sn w n)),.sh (.int c),.sh (.tup [.int w,.int h])]=.ret (.sh (tp (sn w m))):=by
 have n1:=Nat.mod_lt n hw
 have n2:n / w<h:=(ZM hw).mpr hn
 have p1:(0:Int)<=((n / w:Nat):Int):=Int.natCast_nonneg _
 have p2:(0:Int)<=((n % w:Nat):Int):=Int.natCast_nonneg _
 obtain⟨b7,b8,el⟩:=Z0f (w:=w) (h:=h) (.sh (tp (sn w n))) (.sh (.int c)) (.sh (.lst ((Zr (sn w n)).map tp))) (.sh (.int (sn w n).1)) (.sh (.int (sn w n).2)) (Zr (sn w n)) [] .no .no (by simp[Zr])
 rw[List.nil_append] at el
 have hF:inB w h (sn w n)=true:=decide_eq_true ⟨⟨by show 0<=((n % w:Nat):Int);omega,by show((n % w:Nat):Int)<w;omega⟩,by show 0<=((n / w:Nat):Int);omega,by show((n / w:Nat):Int)<h;omega⟩
 obtain⟨FL,hFL⟩:∃FL,(Zr (sn w n)).filter (inB w h)=FL:=⟨_,rfl⟩
 have h0:0<FL.length:=by
  rw[<-hFL]
  have:sn w n∈(Zr (sn w n)).filter (inB w h):=List.mem_filter.mpr ⟨by simp[Zr],hF⟩
  exact List.length_pos_of_mem this
 have hlz:¬(FL.length:Int)=0:=by omega
 have Zbi:¬FL.length=0:=by omega
 have fm:c.fmod (FL.length:Int)=c % FL.length:=Int.fmod_eq_emod_of_nonneg _ (by omega)
 have c0:=Int.emod_nonneg c hlz
 have c1:=Int.emod_lt_of_pos c (show(0:Int)<FL.length by omega)
 obtain⟨i,hi⟩:∃i:Nat,c % (FL.length:Int)=(i:Int):=⟨(c % (FL.length:Int)).toNat,by omega⟩
 have hil:i<FL.length:=by omega
 have hq:FL[i]∈(Zr (sn w n)).filter (inB w h):=by rw[hFL];exact List.getElem_mem hil
 obtain⟨hq1,hq2⟩:=List.mem_filter.mp hq
 have hb:=of_decide_eq_true hq2
 obtain⟨d1,d2⟩:=crd hw hb.1 hb.2.1
 refine⟨(FL[i].2*(w:Int)+FL[i].1).toNat,?_,?_⟩
 ·refine(Z0m hw).mpr ?_
  simp[Zr,sn] at hq1
  rcases hq1 with q|q|q|q|q
  ·exact⟨(0,0),by simp[Z9],by rw[q] at hq2;simpa using hq2,by rw[d1,q];simp,by rw[d2,q];simp⟩
  ·exact⟨(-1,0),by simp[Z9],by rw[q] at hq2;simpa[Int.sub_eq_add_neg] using hq2,by rw[d1,q];rfl,by rw[d2,q];simp⟩
  ·exact⟨(1,0),by simp[Z9],by rw[q] at hq2;simpa using hq2,by rw[d1,q];simp,by rw[d2,q];simp⟩
  ·exact⟨(0,-1),by simp[Z9],by rw[q] at hq2;simpa[Int.sub_eq_add_neg] using hq2,by rw[d1,q];simp,by rw[d2,q];rfl⟩
  ·exact⟨(0,1),by simp[Z9],by rw[q] at hq2;simpa using hq2,by rw[d1,q];simp,by rw[d2,q];simp⟩
 ·have e1:sn w (FL[i].2*(w:Int)+FL[i].1).toNat=FL[i]:=by
   show((((FL[i].2*(w:Int)+FL[i].1).toNat % w:Nat):Int),(((FL[i].2*(w:Int)+FL[i].1).toNat / w:Nat):Int))=_
   rw[d1,d2]
  rw[e1]
  rw[hFL] at el
  have hx:(FL.map tp)[i]?=some (tp FL[i]):=by simp[hil]
  have hfl:(FL.map tp).length=FL.length:=by simp
  rw[<-hfl] at fm hi hlz Zbi
  have ea:(Zr (sn w n)).map tp=[.tup [.int (sn w n).1,.int (sn w n).2],.tup [.int ((sn w n).1-1),.int (sn w n).2],.tup [.int ((sn w n).1+1),.int (sn w n).2],.tup [.int (sn w n).1,.int ((sn w n).2-1)],.tup [.int (sn w n).1,.int ((sn w n).2+1)]]:=rfl
  rw[ea] at el
  rw[List.map_nil] at el
  generalize tp FL[i]=out at *
  generalize FL.map tp=FV at *
  unfold tp at el ⊢
  generalize (sn w n).1=x at *
  generalize (sn w n).2=y at *
  simp[zT,Gk,List.replicate,el,fm,hi,hx,hlz,Zbi]
def Z0g{w h:Nat}{T:List Th}(D:List Dy){x y:Int}(hx:(0<=x/\x<w)/\(0<=y/\y<h)):uR [.sh (Z0 w h T D),.sh (.tup [.int x,.int y])]=.ret (.sh .non):=by
 have hs:=Z0d (T:=T) D hx
 generalize Z0 w h T D=Yv at *
 simp[uR,Fd,List.replicate,hs]
def Z2m{w h:Nat}{T:List Th}{D:List Dy}{d:Int}(hd:0<=d/\d<D.length):zH [.sh (Z0 w h T D),.sh (.int d)]=.ret (.sh .non):=by
 have hs:=Z2K (w:=w) (h:=h) (T:=T) (D:=D) d
 rw[decide_eq_true hd] at hs
 generalize Z0 w h T D=Yv at *
 simp[zH,Fe,List.replicate,hs]
def Z2w{a b:Str}{v:Bool}(ha:PyData.strOk a=true)(hb:PyData.strOk b=true)(h:decide (a=b)=v):ŋ (.str a) (.str b)=some (.bl v):=by rw[cT ha hb,h]
def Z2n{w h:Nat}(hw:0<w)(hw2:w<=60)(hh:h<=1000)(tH:w*h<=1000){T:List Th}(hT:T.length<=1000){D:List Dy}(hg:∀t∈T,Z6 t.1 t.2=true){n1 n2:Nat}(l1:n1<w*h)(l2:n2<w*h){i:Nat}(hi:i<D.length)(hd:1<=D[i].2.2.length/\D[i].2.2.length<=1000)(ho:∀o∈D[i].2.2,Kz o){Bs:List Nat}(KH:D[i].2.2.map (Ū w h T)=Bs) :
 ∃v,jw [.sh (Z0 w h T D),.sh (.int i),.sh (tp (sn w n1)),.sh (tp (sn w n2))]=.ret (.sh v)/\((aP (Z1 w h n2 Bs) n1=none/\v=.tup [.str "none",.lst ((Z1 w h n2 Bs).map (rV (w*h)))])\/∃c WV,aP (Z1 w h n2 Bs) n1=some c/\v=.tup [.str "walk",.int c,.lst WV,.lst ((Z1 w h n2 Bs).map (rV (w*h)))]):=by
 have inn:∀{n:Nat},n<w*h->(0<=(sn w n).1/\(sn w n).1<w)/\(0<=(sn w n).2/\(sn w n).2<h):=fun{n} hn=>by
  have a1:=Nat.mod_lt n hw
  have a2:n / w<h:=(ZM hw).mpr hn
  have p1:(0:Int)<=((n / w:Nat):Int):=Int.natCast_nonneg _
  have p2:(0:Int)<=((n % w:Nat):Int):=Int.natCast_nonneg _
  refine⟨⟨p2,?_⟩,p1,?_⟩
  ·show((n % w:Nat):Int)<w;omega
  ·show((n / w:Nat):Int)<h;omega
 have c1:=Z0g (T:=T) D (inn l1)
 have c2:=Z0g (T:=T) D (inn l2)
 have c3:=Z2m (w:=w) (h:=h) (T:=T) (D:=D) (d:=i) (by omega)
 have yw:=Kv w h T D
 have num:∀{n:Nat},n<w*h->kE [.sh (.tup [.int (sn w n).1,.int (sn w n).2]),.sh (.int w)]=.ret (.sh (.int n)):=fun{n} hn=>by
  have:=inn hn
  rw[Z0H _ _ w (Z0I (by omega) (by omega) (by omega) (by omega))]
  have e:(sn w n).2*(w:Int)+(sn w n).1=(n:Int):=by
   have:=Nat.div_add_mod n w
   have:((w*(n / w)+n % w:Nat):Int)=(n:Int):=by rw[this]
   rw[Int.natCast_add,Int.natCast_mul,Int.mul_comm] at this
   exact this
  rw[e]
 have m1:=num l1
 have m2:=num l2
 have ep:=Z2h hw hw2 hh tH hT hg n2 hi ho hd.2
 rw[KH] at ep
 have hbl:Bs.length=D[i].2.2.length:=by rw[<-KH];simp
 cases hp:Z1 w h n2 Bs with
 |nil=>
  have:=Zw w h n2 Bs
  rw[hp] at this
  simp at this
  omega
 |cons f0 rest=>
  rw[<-hp]
  have hh0:aP (Z1 w h n2 Bs)=f0:=by rw[hp];rfl
  rw[hh0]
  have h0:(Z1 w h n2 Bs)[0]?=some f0:=by rw[hp];rfl
  have rg:=ZJ (f:=f0) l1
  have ew:∀(hs:(f0 n1).isSome=true),∃ms:List Nat,uX [.sh (Z0 w h T D),.sh (.int n1),.sh (.int n2),.bw ((Z1 w h n2 Bs).map (rV (w*h)))]=.ret (.ow (ms.map λ(m:Nat)=>PV.tup [.int (m % w:Nat),.int (m / w:Nat)])):=λhs=>Z1S hw (by omega) hh T D l1 (by omega) h0 hs
  have hP0:((Z1 w h n2 Bs).map (rV (w*h)))[0]?=some (.lst (Z2 (w*h) f0)):=by rw[hp];rfl
  unfold tp
  generalize (sn w n1).1=x1 at *
  generalize (sn w n1).2=y1 at *
  generalize (sn w n2).1=x2 at *
  generalize (sn w n2).2=y2 at *
  generalize (Z1 w h n2 Bs).map (rV (w*h))=PP at *
  generalize Z2 (w*h) f0=R at *
  cases hc:f0 n1 with
  |none=>
   rw[hc] at rg
   generalize Z0 w h T D=Yv at *
   exact⟨_,by simp[jw,xq,List.replicate,c1,c2,c3,yw,m1,m2,ep,hP0,rg,oV,lX],.inl ⟨rfl,rfl⟩⟩
  |some c=>
   obtain⟨ms,ew⟩:=ew (by rw[hc];rfl)
   rw[hc] at rg
   generalize ms.map (λ(m:Nat)=>PV.tup [.int (m % w:Nat),.int (m / w:Nat)])=WV at *
   generalize Z0 w h T D=Yv at *
   exact⟨_,by simp[jw,xq,List.replicate,c1,c2,c3,yw,m1,m2,ep,hP0,rg,oV,lX,ew],.inr ⟨c,WV,rfl,rfl⟩⟩
def ZG:Option Int->Int
 |none=>1000
 |some c=>c
def Z0o{Yv p q v:PV}{o:Option Int}{P:PV}(h:jw [.sh Yv,.sh (.int 0),.sh p,.sh q]=.ret (.sh v))(hv:(o=none/\v=.tup [.str "none",P])\/∃c WV,o=some c/\v=.tup [.str "walk",.int c,.lst WV,P]):iB [.sh Yv,.bw [p,q]]=.ret (.sh (.int (ZG o))):=by
 have t1:ŋ (.str "none") (.str "none")=some (.bl true):=Z2w (by decide +kernel) (by decide +kernel) (by decide +kernel)
 have t2:ŋ (.str "walk") (.str "none")=some (.bl false):=Z2w (by decide +kernel) (by decide +kernel) (by decide +kernel)
 rcases hv with⟨rfl,rfl⟩|⟨c,WV,rfl,rfl⟩
 ·simp[iB,xr,List.replicate,h,t1,ZG]
 ·simp[iB,xr,List.replicate,h,t2,ZG]
def Z3b(a:Bool):fj (.bl a) (.bl a)=some (.bl false):=Ay (by simp[Ź]) (by simp[dep])
def pix{w h g:Nat}{Bs:List Nat}{t n:Nat}(ht:t<Bs.length)(hn:n<w*h):đ (.lst ((Z1 w h g Bs).map (rV (w*h)))) (.int t)=some (.lst (Z2 (w*h) (aP (Z1 w h g (Bs.drop t)))))/\đ (.lst (Z2 (w*h) (aP (Z1 w h g (Bs.drop t))))) (.int n)=some (oV (aP (Z1 w h g (Bs.drop t)) n)):=by
 refine⟨?_,ZJ hn⟩
 have:((Z1 w h g Bs).map (rV (w*h)))[t]?=some (.lst (Z2 (w*h) (aP (Z1 w h g (Bs.drop t))))):=by
  rw[List.getElem?_map,Z1U Bs ht];rfl
 simp[this]
def Z1r{w h g:Nat}(hw:0<w)(hw2:w<=60)(hg:g<w*h){Bs:List Nat}{t n:Nat}(ht:t<Bs.length)(hn:n<w*h)(s5:P.Slot):∃wF:P.Slot,rY [.sh (.lst ((Z1 w h g Bs).map (rV (w*h)))),.sh (.tup [.int w,.int h]),.sh (tp (sn w g)),.sh (.int t),.sh (.int n),s5]=.ok .nx [.sh (.lst ((Z1 w h g Bs).map (rV (w*h)))),.sh (.tup [.int w,.int h]),.sh (tp (sn w g)),.sh (.int t),.sh (.int n),wF]:=by
 have ea:=Z2k (sn w n) (sn w g)
 have ed:((((sn w n).1-(sn w g).1).natAbs:Int)+(((sn w n).2-(sn w g).2).natAbs:Int))=((dI w n g:Nat):Int):=by
  unfold dI sn;simp
 rw[ed] at ea
 obtain⟨x1,x2⟩:=pix (g:=g) (Bs:=Bs) ht hn
 have hl:((Z1 w h g Bs).map (rV (w*h))).length=Bs.length:=by rw[List.length_map,Zw]
 have hs:=Z0a hw hg (Bs.drop t) hn
 rw[List.length_drop] at hs
 have h0:¬w=0:=by omega
 have e1:Int.fmod (n:Int) (w:Int)=((n % w:Nat):Int):=by rw[Int.fmod_eq_emod_of_nonneg _ (by omega)];simp
 have e2:Int.fdiv (n:Int) (w:Int)=((n / w:Nat):Int):=by rw[Int.fdiv_eq_ediv_of_nonneg _ (by omega)];simp
 have e3:fW (n:Int) (w:Int)=true:=uI (by omega) (Nat.le_trans (jq (n:=200) (by omega) (by omega)) (by decide))
 refine⟨.sh (.int (dI w n g:Nat)),?_⟩
 have key:lX (oV (aP (Z1 w h g (Bs.drop t)) n))=decide ((((Z1 w h g Bs).map (rV (w*h))).length:Int)<=((dI w n g:Nat):Int)+(t:Int)):=by
  rw[hl]
  cases hc:aP (Z1 w h g (Bs.drop t)) n with
  |none=>
   rw[hc] at hs
   have:¬dI w n g<Bs.length-t:=λz=>by have:=hs.mpr z;cases this
   simp[oV,lX];omega
  |some c=>
   rw[hc] at hs
   have:=hs.mp rfl
   simp[oV,lX];omega
 unfold tp sn at *
 dsimp only at *
 generalize oV (aP (Z1 w h g (Bs.drop t)) n)=ov at *
 generalize Z2 (w*h) (aP (Z1 w h g (Bs.drop t)))=R at *
 generalize (Z1 w h g Bs).map (rV (w*h))=PP at *
 generalize dI w n g=dd at *
 generalize ((n % w:Nat):Int)=nx at *
 generalize ((n / w:Nat):Int)=ny at *
 generalize ((g % w:Nat):Int)=gx at *
 generalize ((g / w:Nat):Int)=gy at *
 have nb:=Z3b (decide ((PP.length:Int)<=(dd:Int)+(t:Int)))
 simp[rY,Zn,h0,e1,e2,e3,ea,x1,x2,key,nb]
def Z2o{w h g:Nat}(hw:0<w)(hw2:w<=60)(hh:h<=1000)(tH:w*h<=1000)(hg:g<w*h){Bs:List Nat}(hB:Bs.length<=1000):vg [.sh (.lst ((Z1 w h g Bs).map (rV (w*h)))),.sh (.tup [.int w,.int h]),.sh (tp (sn w g))]=.ret (.sh (.bl true)):=by
 have hl:((Z1 w h g Bs).map (rV (w*h))).length=Bs.length:=by rw[List.length_map,Zw]
 have mo:Ł (w:Int) (h:Int)=true:=aj (by omega) (by omega)
 have rr:=ZV (n:=w*h) tH
 have em:((w*h:Nat):Int)=(w:Int)*(h:Int):=Int.natCast_mul w h
 rw[em] at rr
 have r2:=ZV (n:=Bs.length) hB
 rw[<-hl] at r2
 have st:=fun{t n:Nat} (ht:t<Bs.length) (hn:n<w*h) (s5:P.Slot)=>Z1r hw hw2 hg (Bs:=Bs) ht hn s5
 rw[hl] at r2
 obtain⟨ρ',e,s3,s4,s5,rfl⟩:=cU (g:=gN 3) (mb:=xR) (λ(k:Nat)=>PV.int k) (λ(_:Unit) (_:Nat)=>()) (λ_ ρ=>∃s3 s4 s5,ρ=[.sh (.lst ((Z1 w h g Bs).map (rV (w*h)))),.sh (.tup [.int w,.int h]),.sh (tp (sn w g)),s3,s4,s5]) (List.range Bs.length) (by
  rintro t ht _ ρ ⟨s3,s4,s5,rfl⟩
  have ht':=List.mem_range.mp ht
  obtain⟨ρ',e,tK,wF,rfl⟩:=cU (g:=gN 4) (mb:=rY) (λ(k:Nat)=>PV.int k) (λ(_:Unit) (_:Nat)=>()) (λ_ ρ=>∃s4 s5,ρ=[.sh (.lst ((Z1 w h g Bs).map (rV (w*h)))),.sh (.tup [.int w,.int h]),.sh (tp (sn w g)),.sh (.int t),s4,s5]) (List.range (w*h)) (by
   rintro n hn _ ρ ⟨s4,s5,rfl⟩
   obtain⟨wF,e⟩:=st ht' (List.mem_range.mp hn) s5
   exact⟨_,_,rfl,e,_,_,rfl⟩) () [.sh (.lst ((Z1 w h g Bs).map (rV (w*h)))),.sh (.tup [.int w,.int h]),.sh (tp (sn w g)),.sh (.int t),s4,s5] ⟨_,_,rfl⟩
  refine⟨[.sh (.lst ((Z1 w h g Bs).map (rV (w*h)))),.sh (.tup [.int w,.int h]),.sh (tp (sn w g)),.sh (.int t),s4,s5],[.sh (.lst ((Z1 w h g Bs).map (rV (w*h)))),.sh (.tup [.int w,.int h]),.sh (tp (sn w g)),.sh (.int t),tK,wF],rfl,?_,_,_,_,rfl⟩
  ·generalize (Z1 w h g Bs).map (rV (w*h))=PP at *
   generalize tp (sn w g)=gv at *
   generalize (List.range (w*h)).map (λ(k:Nat)=>PV.int k)=KN at *
   simp[xR,Zn,Zq,mo,rr,e]) () [.sh (.lst ((Z1 w h g Bs).map (rV (w*h)))),.sh (.tup [.int w,.int h]),.sh (tp (sn w g)),.no,.no,.no] ⟨_,_,_,rfl⟩
 rw[<-hl] at r2
 generalize (Z1 w h g Bs).map (rV (w*h))=PP at *
 generalize tp (sn w g)=gv at *
 rw[hl] at r2
 generalize (List.range Bs.length).map (λ(k:Nat)=>PV.int k)=KT at *
 simp[vg,Gh,List.replicate,hl,r2,e]
def Z2x(p q:Int×Int):ŋ (tp p) (tp q)=some (.bl (decide (p=q))):=Z2u p q
def Z0p{w h g:Nat}{Bs:List Nat}{k:Nat}(hk:k<Bs.length):aP (Z1 w h g (Bs.drop k))=Ze w h g (Bs.getD k 0) (aP (Z1 w h g (Bs.drop (k+1)))):=by
 rw[List.drop_eq_getElem_cons hk]
 have:Bs.getD k 0=Bs[k]:=by simp[hk]
 rw[this]
 rfl
def Z1s{w h g:Nat}(hw:0<w)(hw2:w<=60)(hh:h<=1000){Bs st:List Nat}(hL:st.length<=Bs.length)(hN:∀n∈st,n<w*h)(ch:∀k,k+1<st.length->st.getD (k+1) 0∈gJ w h (st.getD k 0)){l:Nat}(hl:đ (.lst (st.map λn=>tp (sn w n))) (.int (-1))=some (tp (sn w l))){k:Nat}(hk:k<st.length)(rest:Int)
 (hr:sn w l=sn w g->∃c,aP (Z1 w h g (Bs.drop k)) (st.getD k 0)=some c/\c<=rest+Za (Bs.getD k 0) (st.getD k 0))(a7 a8 a9 a10:P.Slot) :
 ∃KC KD a9' Xx:P.Slot,dR [.sh (.lst ((Z1 w h g Bs).map (rV (w*h)))),.sh (.tup [.int w,.int h]),.bw (Bs.map λ(B:Nat)=>PV.int B),.bw (st.map λn=>tp (sn w n)),.sh (tp (sn w g)),.sh (.int rest),.sh (.int k),a7,a8,a9,a10]=.ok .nx [.sh (.lst ((Z1 w h g Bs).map (rV (w*h)))),.sh (.tup [.int w,.int h]),.bw (Bs.map λ(B:Nat)=>PV.int B),.bw (st.map λn=>tp (sn w n)),.sh (tp (sn w g)),.sh (.int (rest+Za (Bs.getD k 0) (st.getD k 0))),.sh (.int k),KC,KD,a9',Xx]:=by
 have Xy:k<Bs.length:=by omega
 have hn:st.getD k 0<w*h:=by
  have gk:st.getD k 0=st[k]:=by simp[hk]
  rw[gk];exact hN _ (List.getElem_mem hk)
 obtain⟨x1,x2⟩:=pix (g:=g) (Bs:=Bs) Xy hn
 have i1:(st.map λn=>tp (sn w n))[k]?=some (tp (sn w (st.getD k 0))):=by simp[hk]
 have i2:(Bs.map λ(B:Nat)=>PV.int B)[k]?=some (.int (Bs.getD k 0:Nat)):=by simp[Xy]
 have e1:=Z0n (w:=w) (h:=h) (by omega) hh hw hn
 have sk:=Z0l (Bs.getD k 0) (st.getD k 0)
 have ee:=Z2x (sn w l) (sn w g)
 have hll:(st.map λn=>tp (sn w n)).length=st.length:=by simp
 have hd:=Z0p (w:=w) (h:=h) (g:=g) Xy
 have lt:(1:Int)-((Bs.getD k 0:Nat):Int) / 2 ^ (st.getD k 0) % 2=Za (Bs.getD k 0) (st.getD k 0):=rfl
 by_cases hk1:k+1<st.length
 ·have gk1:st.getD (k+1) 0=st[k+1]:=by simp[hk1]
  have hn1:st.getD (k+1) 0<w*h:=by rw[gk1];exact hN _ (List.getElem_mem hk1)
  obtain⟨y1,y2⟩:=pix (g:=g) (Bs:=Bs) (show k+1<Bs.length by omega) hn1
  have j1:(st.map λn=>tp (sn w n))[k+1]?=some (tp (sn w (st.getD (k+1) 0))):=by simp[hk1]
  have e2:=Z0n (w:=w) (h:=h) (by omega) hh hw hn1
  have j1':đ (.lst (st.map λn=>tp (sn w n))) (.int ((k:Int)+1))=some (tp (sn w (st.getD (k+1) 0))):=by
   have e7:((k:Int)+1)=((k+1:Nat):Int):=by omega
   rw[e7]
   generalize k+1=q at *
   simp[j1]
  have y1':đ (.lst ((Z1 w h g Bs).map (rV (w*h)))) (.int ((k:Int)+1))=some (.lst (Z2 (w*h) (aP (Z1 w h g (Bs.drop (k+1)))))):=by
   have e7:((k:Int)+1)=((k+1:Nat):Int):=by omega
   rw[e7]
   exact y1
  have bel:∀c',aP (Z1 w h g (Bs.drop (k+1))) (st.getD (k+1) 0)=some c'->∃r,aP (Z1 w h g (Bs.drop k)) (st.getD k 0)=some r/\r<=Za (Bs.getD k 0) (st.getD k 0)+c':=λc' hc=>by
   rw[hd]
   exact Z0e _ (ch k hk1) hc (ZB _ hc).1
  have hk1':(k:Int)+1<((st.map λn=>tp (sn w n)).length:Int):=by rw[hll];omega
  clear gk1 hn1 y1 j1 hk1
  generalize aP (Z1 w h g (Bs.drop (k+1)))=f1 at *
  generalize Z2 (w*h) f1=R1 at *
  generalize f1 (st.getD (k+1) 0)=tv at *
  generalize tp (sn w (st.getD (k+1) 0))=pm at *
  generalize st.getD (k+1) 0=m at *
  clear hd hN ch hL Xy hn hll
  generalize hlit:Za (Bs.getD k 0) (st.getD k 0)=lit at *
  generalize aP (Z1 w h g (Bs.drop k))=fk at *
  generalize Z2 (w*h) fk=R at *
  generalize fk (st.getD k 0)=hv at *
  generalize (Z1 w h g Bs).map (rV (w*h))=PP at *
  generalize (st.map λn=>tp (sn w n))=ST at *
  generalize (Bs.map λ(B:Nat)=>PV.int B)=SB at *
  generalize tp (sn w (st.getD k 0))=pn at *
  generalize Bs.getD k 0=B at *
  generalize st.getD k 0=n at *
  by_cases E:sn w l=sn w g
  ·obtain⟨c,rfl,hc⟩:=hr E
   have KJ:ŋ (tp (sn w l)) (tp (sn w g))=some (.bl true):=by rw[ee];simp[E]
   generalize tp (sn w l)=pl at *
   generalize tp (sn w g)=pg at *
   have hc':¬rest+lit<c:=by omega
   cases tv with
   |none=>exact⟨.sh (.int n),.sh (.int lit),.sh (.int c),.sh .non,by simp[dR,i1,i2,e1,e2,sk,x1,x2,y1',y2,j1',hl,KJ,hk1',lt,oV,lX,hc']⟩
   |some t=>
    obtain⟨r,hr1,hr2⟩:=bel t rfl
    cases hr1
    have hr3:¬lit+t<c:=by omega
    exact⟨.sh (.int n),.sh (.int lit),.sh (.int c),.sh (.int t),by simp[dR,i1,i2,e1,e2,sk,x1,x2,y1',y2,j1',hl,KJ,hk1',lt,oV,lX,hc',hr3]⟩
  ·have KJ:ŋ (tp (sn w l)) (tp (sn w g))=some (.bl false):=by rw[ee];simp[E]
   generalize tp (sn w l)=pl at *
   generalize tp (sn w g)=pg at *
   cases tv with
   |none=>exact⟨.sh (.int n),.sh (.int lit),.sh (oV hv),.sh .non,by simp[dR,i1,i2,e1,e2,sk,x1,x2,y1',y2,j1',hl,KJ,hk1',lt,oV,lX]⟩
   |some t=>
    obtain⟨r,hr1,hr2⟩:=bel t rfl
    subst hr1
    have hr3:¬lit+t<r:=by omega
    exact⟨.sh (.int n),.sh (.int lit),.sh (.int r),.sh (.int t),by simp[dR,i1,i2,e1,e2,sk,x1,x2,y1',y2,j1',hl,KJ,hk1',lt,oV,lX,hr3]⟩
 ·have hk1':¬(k:Int)+1<((st.map λn=>tp (sn w n)).length:Int):=by rw[hll];omega
  clear hd hN ch hL Xy hn hll
  generalize hlit:Za (Bs.getD k 0) (st.getD k 0)=lit at *
  generalize aP (Z1 w h g (Bs.drop k))=fk at *
  generalize Z2 (w*h) fk=R at *
  generalize fk (st.getD k 0)=hv at *
  generalize (Z1 w h g Bs).map (rV (w*h))=PP at *
  generalize (st.map λn=>tp (sn w n))=ST at *
  generalize (Bs.map λ(B:Nat)=>PV.int B)=SB at *
  generalize tp (sn w (st.getD k 0))=pn at *
  generalize Bs.getD k 0=B at *
  generalize st.getD k 0=n at *
  by_cases E:sn w l=sn w g
  ·obtain⟨c,rfl,hc⟩:=hr E
   have KJ:ŋ (tp (sn w l)) (tp (sn w g))=some (.bl true):=by rw[ee];simp[E]
   generalize tp (sn w l)=pl at *
   generalize tp (sn w g)=pg at *
   have hc':¬rest+lit<c:=by omega
   exact⟨.sh (.int n),.sh (.int lit),.sh (.int c),a10,by simp[dR,i1,i2,e1,sk,x1,x2,hl,KJ,hk1',lt,oV,lX,hc']⟩
  ·have KJ:ŋ (tp (sn w l)) (tp (sn w g))=some (.bl false):=by rw[ee];simp[E]
   generalize tp (sn w l)=pl at *
   generalize tp (sn w g)=pg at *
   exact⟨.sh (.int n),.sh (.int lit),.sh (oV hv),a10,by simp[dR,i1,i2,e1,sk,x1,x2,hl,KJ,hk1',lt]⟩
def Zv(Bs st:List Nat):Nat->Int
 |0=>0
 |d+1=>Zv Bs st d+Za (Bs.getD (st.length-1-d) 0) (st.getD (st.length-1-d) 0)
theorem ZP{w h g:Nat}{Bs st:List Nat}(hL:st.length<=Bs.length)(ch:∀k,k+1<st.length->st.getD (k+1) 0∈gJ w h (st.getD k 0))(hg:st.getD (st.length-1) 0=g):∀d,d<st.length->∃c,aP (Z1 w h g (Bs.drop (st.length-1-d))) (st.getD (st.length-1-d) 0)=some c/\c<=Zv Bs st (d+1)
 |0,hd=>by
  refine⟨Za (Bs.getD (st.length-1) 0) g,?_,?_⟩
  ·rw[Nat.sub_zero,Z0p (by omega),hg]
   exact ZO _ _
  ·show _<=Zv Bs st 0+Za (Bs.getD (st.length-1-0) 0) (st.getD (st.length-1-0) 0)
   rw[Nat.sub_zero,hg]
   simp[Zv]
 |d+1,hd=>by
  obtain⟨c,h1,h2⟩:=ZP hL ch hg d (by omega)
  have e:st.length-1-d=st.length-1-(d+1)+1:=by omega
  rw[e] at h1
  obtain⟨r,h3,h4⟩:=Z0e (g:=g) (Bs.getD (st.length-1-(d+1)) 0) (ch (st.length-1-(d+1)) (by omega)) h1 (ZB _ h1).1
  refine⟨r,by rw[Z0p (by omega)];exact h3,?_⟩
  show r<=Zv Bs st (d+1)+_
  omega
def Z1W{w a b:Nat}(hw:0<w)(h:sn w a=sn w b):a=b:=by
 unfold sn at h
 injection h with h1 h2
 have h1':a % w=b % w:=by omega
 have h2':a / w=b / w:=by omega
 rw[<-Nat.div_add_mod a w,<-Nat.div_add_mod b w,h1',h2']
def Z0q{w:Nat}{st:List Nat}(h:0<st.length):đ (.lst (st.map λn=>tp (sn w n))) (.int (-1))=some (tp (sn w (st.getD (st.length-1) 0))):=by
 show mD _ _=_
 unfold mD HD
 simp
 rw[if_pos (by omega)]
 have e:(-1+(st.length:Int)).toNat=st.length-1:=by omega
 simp[e]
 exact⟨st[st.length-1],by simp[h],by rw[List.getElem?_eq_getElem (by omega)];rfl⟩
theorem Z0h{w h g:Nat}(hw:0<w)(hw2:w<=60)(hh:h<=1000){Bs st:List Nat}(h0:0<st.length)(hL:st.length<=Bs.length)(hN:∀n∈st,n<w*h)(ch:∀k,k+1<st.length->st.getD (k+1) 0∈gJ w h (st.getD k 0)):∀(m d:Nat),d+m=st.length->∀a6 a7 a8 a9 a10:P.Slot,∃a6' KC KD a9' Xx:P.Slot,
 forL (gN 6) dR ((List.range' d m).map λi=>PV.int ((st.length-1-i:Nat):Int)) [.sh (.lst ((Z1 w h g Bs).map (rV (w*h)))),.sh (.tup [.int w,.int h]),.bw (Bs.map λ(B:Nat)=>PV.int B),.bw (st.map λn=>tp (sn w n)),.sh (tp (sn w g)),.sh (.int (Zv Bs st d)),a6,a7,a8,a9,a10]=.ok .nx [.sh (.lst ((Z1 w h g Bs).map (rV (w*h)))),.sh (.tup [.int w,.int h]),.bw (Bs.map λ(B:Nat)=>PV.int B),.bw (st.map λn=>tp (sn w n)),.sh (tp (sn w g)),.sh (.int (Zv Bs st st.length)),a6',KC,KD,a9',Xx]
 |0,d,hd,a6,a7,a8,a9,a10=>⟨a6,a7,a8,a9,a10,by rw[show d=st.length by omega];rfl⟩
 |m+1,d,hd,a6,a7,a8,a9,a10=>by
  obtain⟨b7,b8,b9,b10,e⟩:=Z1s (g:=g) hw hw2 hh hL hN ch (Z0q h0) (k:=st.length-1-d) (by omega) (Zv Bs st d) (λE=>by
   have:=Z1W hw E
   exact ZP hL ch this d (by omega)) a7 a8 a9 a10
  obtain⟨c6,c7,c8,c9,c10,ih⟩:=Z0h hw hw2 hh h0 hL hN ch m (d+1) (by omega) (.sh (.int ((st.length-1-d:Nat):Int))) b7 b8 b9 b10
  refine⟨c6,c7,c8,c9,c10,?_⟩
  rw[List.range'_succ,List.map_cons,forL]
  have hgn:gN 6 (PV.int ((st.length-1-d:Nat):Int)) [.sh (.lst ((Z1 w h g Bs).map (rV (w*h)))),.sh (.tup [.int w,.int h]),.bw (Bs.map λ(B:Nat)=>PV.int B),.bw (st.map λn=>tp (sn w n)),.sh (tp (sn w g)),.sh (.int (Zv Bs st d)),a6,a7,a8,a9,a10]=some [.sh (.lst ((Z1 w h g Bs).map (rV (w*h)))),.sh (.tup [.int w,.int h]),.bw (Bs.map λ(B:Nat)=>PV.int B),.bw (st.map λn=>tp (sn w n)),.sh (tp (sn w g)),.sh (.int (Zv Bs st d)),.sh (.int ((st.length-1-d:Nat):Int)),a7,a8,a9,a10]:=rfl
  rw[hgn]
  dsimp only
  rw[e]
  exact ih
def Z2p{w h g:Nat}(hw:0<w)(hw2:w<=60)(hh:h<=1000){Bs st:List Nat}(h0:0<st.length)(hs:st.length<=1000)(hL:st.length<=Bs.length)(hN:∀n∈st,n<w*h)(ch:∀k,k+1<st.length->st.getD (k+1) 0∈gJ w h (st.getD k 0)):vh [.sh (.lst ((Z1 w h g Bs).map (rV (w*h)))),.sh (.tup [.int w,.int h]),.bw (Bs.map λ(B:Nat)=>PV.int B),.bw (st.map λn=>tp (sn w n)),.sh (tp (sn w g))]=.ret (.sh (.bl true)):=by
 obtain⟨c6,c7,c8,c9,c10,el⟩:=Z0h (g:=g) hw hw2 hh h0 hL hN ch st.length 0 (by omega) .no .no .no .no .no
 have hll:(st.map λn=>tp (sn w n)).length=st.length:=by simp
 have rr:uQ [.int ((st.length:Int)-1),.int (-1),.int (-1)]=some ((List.range' 0 st.length).map λi=>PV.int ((st.length-1-i:Nat):Int)):=by
  have s1:cg ((st.length:Int)-1)=true:=by unfold cg;simp;omega
  have s2:cg (-1)=true:=by decide
  unfold uQ
  simp only[s1,s2,and_self,if_true]
  congr 1
  unfold bF
  have:((st.length:Int)-1 - -1).toNat=st.length:=by omega
  rw[this,List.range_eq_range']
  refine List.map_congr_left λi hi=>?_
  have:=List.mem_range'_1.mp hi
  congr 1
  omega
 have r0:Zv Bs st 0=0:=rfl
 rw[r0] at el
 generalize (List.range' 0 st.length).map (λi=>PV.int ((st.length-1-i:Nat):Int))=KS at *
 generalize (Z1 w h g Bs).map (rV (w*h))=PP at *
 generalize (Bs.map λ(B:Nat)=>PV.int B)=SB at *
 rw[<-hll] at rr
 generalize (st.map λn=>tp (sn w n))=ST at *
 generalize tp (sn w g)=gv at *
 simp[vh,Gj,List.replicate,rr,el]
theorem Z02{w h:Nat}(hw:0<w)(hw2:w<=1000)(hh:h<=1000)(z0 z2 z3 z4 z5 z6 z9 yE yF yG yH Xz XC yI yJ:P.Slot):∀(zs:List Int) (st:List Nat) (s8:P.Slot),0<st.length->st.length+zs.length<=1000->(∀n∈st,n<w*h)->(∀k,k+1<st.length->st.getD (k+1) 0∈gJ w h (st.getD k 0))->
 ∃(st':List Nat) (zX:P.Slot),forL (gN 8) jV (zs.map .int) [z0,.sh (.tup [.int w,.int h]),z2,z3,z4,z5,z6,.ow (st.map λn=>tp (sn w n)),s8,z9,yE,yF,yG,yH,Xz,XC,yI,yJ]=.ok .nx [z0,.sh (.tup [.int w,.int h]),z2,z3,z4,z5,z6,.ow (st'.map λn=>tp (sn w n)),zX,z9,yE,yF,yG,yH,Xz,XC,yI,yJ]/\st'.length=st.length+zs.length/\st'.getD 0 0=st.getD 0 0/\(∀n∈st',n<w*h)/\∀k,k+1<st'.length->st'.getD (k+1) 0∈gJ w h (st'.getD k 0)
 | [],st,s8,_,_,hN,ch=>⟨st,s8,rfl,rfl,rfl,hN,ch⟩
 |z::zs,st,s8,h0,hl,hN,ch=>by
  have Zbj:st.getD (st.length-1) 0<w*h:=by
   have e:st.getD (st.length-1) 0=st[st.length-1]:=by rw[List.getD_eq_getElem?_getD,List.getElem?_eq_getElem (by omega)];rfl
   rw[e];exact hN _ (List.getElem_mem _)
  obtain⟨m,hm,em⟩:=Z2l hw hw2 hh z Zbj
  have il:=Z0q (w:=w) h0
  have hl1:(st.map λn=>tp (sn w n)).length<16777216:=by simp at hl ⊢;omega
  have e:jV [z0,.sh (.tup [.int w,.int h]),z2,z3,z4,z5,z6,.ow (st.map λn=>tp (sn w n)),.sh (.int z),z9,yE,yF,yG,yH,Xz,XC,yI,yJ]=.ok .nx [z0,.sh (.tup [.int w,.int h]),z2,z3,z4,z5,z6,.ow ((st ++ [m]).map λn=>tp (sn w n)),.sh (.int z),z9,yE,yF,yG,yH,Xz,XC,yI,yJ]:=by
   rw[List.map_append,List.map_cons,List.map_nil]
   generalize (st.map λn=>tp (sn w n))=ST at *
   generalize tp (sn w m)=pm at *
   generalize tp (sn w (st.getD (st.length-1) 0))=pl at *
   simp[jV,il,em,hl1]
  obtain⟨st',zX,q1,q2,q3,q4,q5⟩:=Z02 hw hw2 hh z0 z2 z3 z4 z5 z6 z9 yE yF yG yH Xz XC yI yJ zs (st ++ [m]) (.sh (.int z)) (by simp) (by simp at hl ⊢;omega) (λn hn=>by
   rcases List.mem_append.mp hn with hn|hn
   ·exact hN n hn
   ·rw[List.mem_singleton.mp hn];exact ZA hm) (λk hk=>by
   simp at hk
   by_cases e:k+1<st.length
   ·have a1:(st ++ [m]).getD (k+1) 0=st.getD (k+1) 0:=by simp[List.getD_eq_getElem?_getD,List.getElem?_append_left e]
    have a2:(st ++ [m]).getD k 0=st.getD k 0:=by simp[List.getD_eq_getElem?_getD,List.getElem?_append_left (show k<st.length by omega)]
    rw[a1,a2]
    exact ch k e
   ·have ek:k=st.length-1:=by omega
    have a1:(st ++ [m]).getD (k+1) 0=m:=by
     have:k+1=st.length:=by omega
     rw[this]
     simp[List.getD_eq_getElem?_getD]
    have a2:(st ++ [m]).getD k 0=st.getD k 0:=by simp[List.getD_eq_getElem?_getD,List.getElem?_append_left (show k<st.length by omega)]
    rw[a1,a2,ek]
    exact hm)
  refine⟨st',zX,?_,by simp at q2 ⊢;omega,?_,q4,q5⟩
  ·rw[List.map_cons,forL]
   have hg:gN 8 (PV.int z) [z0,.sh (.tup [.int w,.int h]),z2,z3,z4,z5,z6,.ow (st.map λn=>tp (sn w n)),s8,z9,yE,yF,yG,yH,Xz,XC,yI,yJ]=some [z0,.sh (.tup [.int w,.int h]),z2,z3,z4,z5,z6,.ow (st.map λn=>tp (sn w n)),.sh (.int z),z9,yE,yF,yG,yH,Xz,XC,yI,yJ]:=rfl
   rw[hg]
   dsimp only
   rw[e]
   exact q1
  ·rw[q3]
   cases st with
   |nil=>simp at h0
   |cons a as=>rfl
def Z1e(B n:Nat):Za B n=if B.testBit n then 0 else 1:=by
 unfold Za
 rw[Z2I]
 split<;>rfl
def fwd(Bs st:List Nat):Nat->Int
 |0=>0
 |k+1=>fwd Bs st k+Za (Bs.getD k 0) (st.getD k 0)
theorem Z1f(Bs st:List Nat):∀d,d<=st.length->fwd Bs st (st.length-d)+Zv Bs st d=fwd Bs st st.length
 |0,_=>by simp[Zv]
 |d+1,hd=>by
  have ih:=Z1f Bs st d (by omega)
  have e:st.length-d=st.length-(d+1)+1:=by omega
  rw[e] at ih
  have e2:fwd Bs st (st.length-(d+1)+1)=fwd Bs st (st.length-(d+1))+Za (Bs.getD (st.length-(d+1)) 0) (st.getD (st.length-(d+1)) 0):=rfl
  have e3:st.length-1-d=st.length-(d+1):=by omega
  show _+(Zv Bs st d+Za (Bs.getD (st.length-1-d) 0) (st.getD (st.length-1-d) 0))=_
  rw[e3]
  omega
theorem Z0S{w h:Nat}(hw:0<w)(hw2:w<=60)(hh:h<=1000){Bs st:List Nat}(hL:st.length<=Bs.length)(hN:∀n∈st,n<w*h)(z0 z2 z3 z4 z5 z6 z8 yE yF yG yH yI yJ:P.Slot):∀(m k:Nat),k+m=st.length->∀oY:P.Slot,∃XD:P.Slot,
 forL (gN 15) nF ((List.range' k m).map λ(i:Nat)=>PV.int i) [z0,.sh (.tup [.int w,.int h]),z2,z3,z4,z5,z6,.ow (st.map λn=>tp (sn w n)),z8,.ow (Bs.map λ(B:Nat)=>PV.int B),yE,yF,yG,yH,.sh (.int (fwd Bs st k)),oY,yI,yJ]=.ok .nx [z0,.sh (.tup [.int w,.int h]),z2,z3,z4,z5,z6,.ow (st.map λn=>tp (sn w n)),z8,.ow (Bs.map λ(B:Nat)=>PV.int B),yE,yF,yG,yH,.sh (.int (fwd Bs st st.length)),XD,yI,yJ]
 |0,k,hk,oY=>⟨oY,by rw[show k=st.length by omega];rfl⟩
 |m+1,k,hk,oY=>by
  have hks:k<st.length:=by omega
  have Xy:k<Bs.length:=by omega
  have gk:st.getD k 0=st[k]:=by simp[hks]
  have hn:st.getD k 0<w*h:=by rw[gk];exact hN _ (List.getElem_mem hks)
  have i1:(st.map λn=>tp (sn w n))[k]?=some (tp (sn w (st.getD k 0))):=by simp[hks]
  have i2:(Bs.map λ(B:Nat)=>PV.int B)[k]?=some (.int (Bs.getD k 0:Nat)):=by simp[Xy]
  have e1:=Z0n (w:=w) (h:=h) (by omega) hh hw hn
  have sk:=Z0l (Bs.getD k 0) (st.getD k 0)
  have e:nF [z0,.sh (.tup [.int w,.int h]),z2,z3,z4,z5,z6,.ow (st.map λn=>tp (sn w n)),z8,.ow (Bs.map λ(B:Nat)=>PV.int B),yE,yF,yG,yH,.sh (.int (fwd Bs st k)),.sh (.int k),yI,yJ]=.ok .nx [z0,.sh (.tup [.int w,.int h]),z2,z3,z4,z5,z6,.ow (st.map λn=>tp (sn w n)),z8,.ow (Bs.map λ(B:Nat)=>PV.int B),yE,yF,yG,yH,.sh (.int (fwd Bs st (k+1))),.sh (.int k),yI,yJ]:=by
   have lt:fwd Bs st (k+1)=fwd Bs st k+1-((Bs.getD k 0:Nat):Int) / 2 ^ (st.getD k 0) % 2:=by
    show fwd Bs st k+Za (Bs.getD k 0) (st.getD k 0)=_
    unfold Za
    omega
   rw[lt]
   generalize (st.map λn=>tp (sn w n))=ST at *
   generalize (Bs.map λ(B:Nat)=>PV.int B)=SB at *
   generalize tp (sn w (st.getD k 0))=pn at *
   generalize fwd Bs st k=fk at *
   generalize Bs.getD k 0=B at *
   generalize st.getD k 0=n at *
   simp[nF,i1,i2,e1,sk]
  obtain⟨XD,ih⟩:=Z0S hw hw2 hh hL hN z0 z2 z3 z4 z5 z6 z8 yE yF yG yH yI yJ m (k+1) (by omega) (.sh (.int k))
  refine⟨XD,?_⟩
  rw[List.range'_succ,List.map_cons,forL]
  have hg:gN 15 (PV.int (k:Int)) [z0,.sh (.tup [.int w,.int h]),z2,z3,z4,z5,z6,.ow (st.map λn=>tp (sn w n)),z8,.ow (Bs.map λ(B:Nat)=>PV.int B),yE,yF,yG,yH,.sh (.int (fwd Bs st k)),oY,yI,yJ]=some [z0,.sh (.tup [.int w,.int h]),z2,z3,z4,z5,z6,.ow (st.map λn=>tp (sn w n)),z8,.ow (Bs.map λ(B:Nat)=>PV.int B),yE,yF,yG,yH,.sh (.int (fwd Bs st k)),.sh (.int k),yI,yJ]:=rfl
  rw[hg]
  dsimp only
  rw[e]
  exact ih
def Z2q{w h:Nat}(T:List Th)(t:Th)(o:Option P3){n:Nat}(hn:n<w*h):Za (Ū w h (T ++ [t]) o) n<=Za (Ū w h T o) n:=by
 rw[Z1e,Z1e]
 unfold Ū
 rw[Zz,Zz,decide_eq_true hn,Bool.true_and,Bool.true_and]
 cases o with
 |none=>simp[RQ]
 |some r=>
  have e:RQ w (T ++ [t]) (some r) n=(RQ w T (some r) n || Ky t (Kw w n) r):=by simp[RQ]
  rw[e]
  cases RQ w T (some r) n<;>cases Ky t (Kw w n) r<;>simp
def Z1X{o o':Option Int}(h:∀c,o=some c->∃c',o'=some c'/\c'<=c)(hb:∀c',o'=some c'->c'<=1000):ZG o'<=ZG o:=by
 cases o with
 |none=>
  cases o' with
  |none=>exact Int.le_refl _
  |some c'=>exact hb c' rfl
 |some c=>
  obtain⟨c',rfl,h2⟩:=h c rfl
  exact h2
def Z2O{w h:Nat}(hw:0<w)(hw2:w<=60)(hh:h<=1000)(tH:w*h<=1000){T:List Th}(hT:T.length<=1000)(D:List Dy)(hg:∀t∈T,Z6 t.1 t.2=true){os:List (Option P3)}(ho:∀o∈os,Kz o)(hl:os.length<=1000):ļ (gN 1) ł (č (Č iz (Ą 0 (Ą 1 Ċ)))) (os.map bV) [.sh (Z0 w h T D),.no] []=some ((os.map (Ū w h T)).map λ(B:Nat)=>PV.int B):=by
 have c1:=ņ (g:=gN 1) (mt:=ł) (me:=č (Č iz (Ą 0 (Ą 1 Ċ)))) bV (λo=>PV.int (Ū w h T o:Nat)) (λρ=>∃a,ρ=[.sh (Z0 w h T D),a]) os [.sh (Z0 w h T D),.no] [] ⟨_,rfl⟩ (by simp;omega) (by
  rintro o hm ρ ⟨a,rfl⟩
  have ed:=Z1a hw hw2 hh tH hT D hg (ho o hm)
  generalize Z0 w h T D=Yv at *
  generalize bV o=ov at *
  exact⟨[.sh Yv,.sh ov],[.sh Yv,.sh ov],[.sh Yv,.sh ov],by simp,by simp,by simp[ed],_,rfl⟩)
 rw[List.nil_append] at c1
 rw[c1,List.map_map]
 rfl
def Z1t:M Fl:=(ġ 1 (Č ju (ć (č (Č ŉ (Ą 0 (ć (mC (.int 0)) Ċ)))) (ć (mC (.int 6)) Ċ))))
def Z1u:M Fl:=(ġ 2 (Ń [1] 1 (ŕ (č (DQ (Ā 0) (mP (mC (.int 4))) (mP (mC (.int 8)))))) (gN 1) ł (č (Č cW (Ą 1 (ć (cZ eN (Ă (Ā 0) Ĕ)) Ċ))))))
def Z1v:M Fl:=(ġ 3 (Ń [] 2 (Ŋ 2) (gT 2 (Ğ (gN 0) (Ğ (gN 1) š))) ł (č (Č aW (Ą 0 (ć (č (jl bG (Ă (Ā 1) Ĕ))) Ċ))))))
def Z1w:M Fl:=(ġ 4 (Ń [0] 1 (ų aV (Ă (č (Ġ ĝ (mC (.int 1)) (ă į (č (Č ŉ (Ą 0 (ć (mC (.int 1)) Ċ)))) (mC (.int 6))))) Ĕ)) (gN 1) ł (č (Č iD (ć (č (Č ŉ (Ą 0 (ć (č (Ġ ĝ (mC (.int 8)) (Ā 1))) Ċ)))) Ċ)))))
def Z1x:M Fl:=(ġ 5 (ŀ (ũ "Yard" bh (ć (ă đ (Ā 1) (mC (.int 0))) (ć (ă đ (Ā 1) (mC (.int 1))) (Ą 3 (ć (č (ś (Ă (Ĺ (Ă (mC (.str "d")) (Ă (mC (.int 1)) (Ă (ě 4) Ĕ)))) Ĕ))) Ċ)))))))
def Z1y:M Fl:=(ġ 6 (ś (Ă (Ĺ (Ă (ă į (č (Č ŉ (Ą 0 (ć (mC (.int 2)) Ċ)))) (ă đ (Ā 1) (mC (.int 0)))) (Ă (ă į (ă Ő (č (Č ŉ (Ą 0 (ć (mC (.int 2)) Ċ)))) (mC (.int 7))) (ă đ (Ā 1) (mC (.int 1)))) Ĕ))) Ĕ)))
def Z1z:M Fl:=(iT 6 (Ĺ (Ă (ă į (č (Č ŉ (Ą 0 (ć (mC (.int 3)) Ċ)))) (ă đ (Ā 1) (mC (.int 0)))) (Ă (ă į (ă Ő (č (Č ŉ (Ą 0 (ć (mC (.int 3)) Ċ)))) (mC (.int 7))) (ă đ (Ā 1) (mC (.int 1)))) Ĕ))))
def Z1A:M Fl:=(ġ 7 (ś (Ă (ă đ (Ā 6) (mC (.int 0))) Ĕ)))
def Z1B:M Fl:=(dG (ŕ (č (DQ (Ā 0) (mP (mC (.int 14))) (mP (č (Ġ ĝ (mC (.int 13)) (cZ cR (Ă (Ā 4) Ĕ)))))))) (gN 8) jV)
def Z0T:M Fl:=(ġ 9 (Ń [5] 1 (Ŋ 4) (gN 1) ł (č (Č iz (Ą 0 (Ą 1 Ċ))))))
def Z0U:M Fl:=(ġ 10 (Č jw (Ą 5 (ć (mC (.int 0)) (ć (ă đ (Ā 6) (mC (.int 0))) (ć (ă đ (Ā 6) (mC (.int 1))) Ċ))))))
def Z0V:M Fl:=(bJ (kh (gR (č (Č vg (ć (ă đ (Ā 10) (aL Ŗ (mC (.int 1)))) (Ą 1 (ć (ă đ (Ā 6) (mC (.int 1))) Ċ)))))))
 (Ĥ (ŀ (mC (.bl false))))
 dD)
def Z0W:M Fl:=(bJ (kh (gR (č (Č vh (ć (ă đ (Ā 10) (aL Ŗ (mC (.int 1)))) (Ą 1 (Ą 9 (Ą 7 (ć (ă đ (Ā 6) (mC (.int 1))) Ċ)))))))))
 (Ĥ (ŀ (mC (.bl false))))
 dD)
def Z0X:M Fl:=(ġ 11 (Č iB (Ą 5 (Ą 6 Ċ))))
def Z0i:M Fl:=(bJ (aM (ă ŋ (ă đ (Ā 7) (aL Ŗ (mC (.int 1)))) (ă đ (Ā 6) (mC (.int 1)))))
 (Ė (ġ 14 (ŀ (mC (.int 0))))
 (Ė (dG (ų aV (Ă (cZ cR (Ă (Ā 7) Ĕ)) Ĕ)) (gN 15) nF)
 (bJ (aM (ă uD (Ā 11) (Ā 14)))
 (Ĥ (ŀ (mC (.bl false))))
 dD)))
 dD)
def Z0Y:M Fl:=(wD (gS 2 (Ğ (gN 16) (Ğ (gN 17) š))) (č (Č cW (ć (ă Ő (č (Č ŉ (Ą 0 (ć (mC (.int 1)) Ċ)))) (mC (.int 6))) (ć (cZ eN (Ă (Ā 1) Ĕ)) Ċ)))))
def Z0Z:M Fl:=(ġ 12 (Ġ ĝ (Ā 3) (č (ś (Ă (č (Č aW (Ą 16 (ć (č (jl bG (Ă (Ā 17) Ĕ))) Ċ)))) Ĕ)))))
def Z10:M Fl:=(ġ 12 (ŀ (ũ "Yard" bh (ć (ă đ (Ā 1) (mC (.int 0))) (ć (ă đ (Ā 1) (mC (.int 1))) (Ą 12 (ć (č (ś (Ă (Ĺ (Ă (mC (.str "d")) (Ă (mC (.int 1)) (Ă (ě 4) Ĕ)))) Ĕ))) Ċ)))))))
def Z11:M Fl:=(ġ 4 (Ġ ĝ (Ā 4) (č (ś (Ă (č (Č iD (ć (ă Ő (č (Č ŉ (Ą 0 (ć (mC (.int 1)) Ċ)))) (mC (.int 20))) Ċ))) Ĕ)))))
def Z12:M Fl:=(ġ 13 (ŀ (ũ "Yard" bh (ć (ă đ (Ā 1) (mC (.int 0))) (ć (ă đ (Ā 1) (mC (.int 1))) (Ą 3 (ć (č (ś (Ă (Ĺ (Ă (mC (.str "d")) (Ă (mC (.int 1)) (Ă (ě 4) Ĕ)))) Ĕ))) Ċ)))))))
def Z13:M Fl:=(Ĥ (ŀ (fO (ă eZ (č (Č iB (Ą 12 (Ą 6 Ċ)))) (Ā 11)) (ă eZ (č (Č iB (Ą 13 (Ą 6 Ċ)))) (Ā 11)))))
def Z3d:xT=(Ė Z1t (Ė Z1u (Ė Z1v (Ė Z1w (Ė Z1x (Ė Z1y (Ė Z1z (Ė Z1A (Ė Z1B (Ė Z0T (Ė Z0U (Ė Z0V (Ė Z0W (Ė Z0X (Ė Z0i (Ė Z0Y (Ė Z0Z (Ė Z10 (Ė Z11 (Ė Z12 Z13)))))))))))))))))))):=rfl
def Zc{a b:M Fl}{ρ ρ1:ľ}(h:a ρ=.ok .nx ρ1):Ė a b ρ=b ρ1:=by simp[h]
def ZQ(t:Th):PV:=.tup [.str t.1,.lst (t.2.map .int)]
def Z1Y(w h:Nat):eN [.tup [.int w,.int h]]=some (.int ((max w h:Nat):Int)):=by
 show some (PV.int (max (w:Int) h))=_
 congr 2
 omega
theorem Z14{w h:Nat}(hw:1<=w/\w<=20)(hh:1<=h/\h<=20):∀(cs:List Int) (acc:List PV) (s1:P.Slot),acc.length+cs.length<=1000->∃T:List Th,ļ (gN 1) ł (č (Č cW (Ą 1 (ć (cZ eN (Ă (Ā 0) Ĕ)) Ċ)))) (cs.map .int) [.sh (.tup [.int w,.int h]),s1] acc=some (acc++T.map ZQ)/\T.length=cs.length/\∀t∈T,Z6 t.1 t.2=true
 | [],acc,s1,_=>⟨[],by simp[ļ],rfl,by simp⟩
 |c::cs,acc,s1,ha=>by
  obtain⟨t,e1,e2⟩:=Z0w c (w:=((max w h:Nat):Int)) (by omega) (by omega)
  obtain⟨T,q1,q2,q3⟩:=Z14 hw hh cs (acc ++ [ZQ t]) (.sh (.int c)) (by simp at ha ⊢;omega)
  refine⟨t::T,?_,by simp[q2],?_⟩
  ·have hz:acc.length<16777216:=by simp at ha;omega
   have mx:=Z1Y w h
   change cW _=.ret (.sh (ZQ t)) at e1
   generalize hR:ZQ t=R at *
   generalize ((max w h:Nat):Int)=m at *
   rw[List.map_cons,ļ]
   simp[mx,e1,hz,hR]
   simpa using q1
  ·intro x hx
   rcases List.mem_cons.mp hx with rfl|hx
   ·exact e2
   ·exact q3 x hx
def Z15{w:Str}{xs:List Int}(h:Z6 w xs=true):PyData.strOk w=true:=by
 unfold Z6 at h
 by_cases e1:w= "post"
 ·rw[e1];exact s1
 rw[if_neg e1] at h
 by_cases e2:w= "fence"
 ·rw[e2];exact s2
 rw[if_neg e2] at h
 by_cases e3:w= "sail"
 ·rw[e3];exact s3
 rw[if_neg e3] at h
 by_cases e4:w= "cloth"
 ·rw[e4];exact s4
 rw[if_neg e4] at h
 by_cases e5:w= "house"
 ·rw[e5];exact s5
 rw[if_neg e5] at h
 cases h
def Z1Z{T:List Th}(hl:T.length<=1000)(hg:∀t∈T,Z6 t.1 t.2=true)(s0 s1:P.Slot):ļ (gT 2 (Ğ (gN 0) (Ğ (gN 1) š))) ł (č (Č aW (Ą 0 (ć (č (jl bG (Ă (Ā 1) Ĕ))) Ċ)))) (T.map ZQ) [s0,s1] []=some (T.map gU):=by
 have hc:=ņ (g:=gT 2 (Ğ (gN 0) (Ğ (gN 1) š))) (mt:=ł) (me:=č (Č aW (Ą 0 (ć (č (jl bG (Ă (Ā 1) Ĕ))) Ċ)))) ZQ gU (λρ=>∃a b,ρ=[a,b]) T [s0,s1] [] ⟨_,_,rfl⟩ (by simp;omega) (by
  rintro t ht ρ ⟨a,b,rfl⟩
  have e:=Z0B (Z15 (hg t ht)) (xs:=t.2) (sl:=.sh (.lst (t.2.map .int))) (.inl rfl)
  rw[if_pos (hg t ht)] at e
  change aW _=.ret (.sh (gU t)) at e
  refine⟨[.sh (.str t.1),.sh (.lst (t.2.map .int))],_,[.sh (.str t.1),.sh (.lst (t.2.map .int))],by simp[ZQ],rfl,?_,_,_,rfl⟩
  generalize t.2.map PV.int=X at *
  generalize gU t=V at *
  simp[e])
 simpa using hc
def slI(xs:List Int)(lo hi:Option Int):∃ys:List Int,iU (xs.map PV.int) lo hi=ys.map PV.int/\ys.length<=xs.length:=by
 refine⟨(xs.drop (HT.fJ xs.length 0 lo)).take (HT.fJ xs.length xs.length hi-HT.fJ xs.length 0 lo),?_,by simp;omega⟩
 unfold iU
 rw[List.length_map,List.map_take,List.map_drop]
def Z36{l:PySem.W.OpenLaw}{w:World}{K:PySem.W.Frag}{mg:Str->Option Value}{fa:Addr}{a:Gm}(T:Tx K mg a)(hfa:mg "law" =some (.ref fa)):∃fd:FuncData,(∀(s:Shared) (v:Value),BindsTo s fd ⟨[v],[]⟩ [("_law_script",v)])/\∀base:Heap,K.In base->base.Ns mainGlobals mg->∃cm,ģ l.prog w K mg base Ũ 12 fa fd ["_law_script"] (ş ⟨K,cm⟩ 1 qt):=by
 have e:=hfa.symm.trans T.Gw.m
 cases e
 exact⟨a.Gu,λs v=>T.Gw.bb s [v] rfl,λbase _ _=>⟨_,Xu T⟩⟩
def Z20(c4 c5:Int){w h:Nat}(hw:0<w)(hh:0<h):∃k,k<w*h/\c4.fmod w=(sn w k).1/\c5.fmod h=(sn w k).2:=by
 have a1:c4.fmod (w:Int)=c4 % (w:Int):=Int.fmod_eq_emod_of_nonneg _ (by omega)
 have a2:c5.fmod (h:Int)=c5 % (h:Int):=Int.fmod_eq_emod_of_nonneg _ (by omega)
 have b1:=Int.emod_nonneg c4 (show(w:Int)≠0 by omega)
 have b2:=Int.emod_lt_of_pos c4 (show(0:Int)<w by omega)
 have b3:=Int.emod_nonneg c5 (show(h:Int)≠0 by omega)
 have b4:=Int.emod_lt_of_pos c5 (show(0:Int)<h by omega)
 rw[a1,a2]
 obtain⟨a,ha⟩:∃a:Nat,c4 % (w:Int)=(a:Int):=⟨(c4 % (w:Int)).toNat,by omega⟩
 obtain⟨b,hb⟩:∃b:Nat,c5 % (h:Int)=(b:Int):=⟨(c5 % (h:Int)).toNat,by omega⟩
 rw[ha] at b1 b2 ⊢
 rw[hb] at b3 b4 ⊢
 have ha':a<w:=by omega
 have hb':b<h:=by omega
 refine⟨a+w*b,?_,?_⟩
 ·have:w*(b+1)<=w*h:=Nat.mul_le_mul_left w (by omega)
  rw[Nat.mul_add] at this
  omega
 ·have e1:(a+w*b) % w=a:=by rw[Nat.add_mul_mod_self_left,Nat.mod_eq_of_lt ha']
  have e2:(a+w*b) / w=b:=by rw[Nat.add_mul_div_left _ _ hw,Nat.div_eq_of_lt ha',Nat.zero_add]
  unfold sn
  dsimp only
  rw[e1,e2]
  exact⟨rfl,rfl⟩
def Z2r(ns:List Int)(hn:ns.length<=63):qt [.sh (.lst (ns.map .int))]=.ret (.sh (.bl true)):=by
 have k0:ŉ [.sh (.lst (ns.map .int)),.sh (.int 0)]=.ret (.sh (.int (ns.getD 0 0))):=ZI ns 0
 have k1:ŉ [.sh (.lst (ns.map .int)),.sh (.int 1)]=.ret (.sh (.int (ns.getD 1 0))):=ZI ns 1
 have k2:ŉ [.sh (.lst (ns.map .int)),.sh (.int 2)]=.ret (.sh (.int (ns.getD 2 0))):=ZI ns 2
 have k3:ŉ [.sh (.lst (ns.map .int)),.sh (.int 3)]=.ret (.sh (.int (ns.getD 3 0))):=ZI ns 3
 obtain⟨c0,e0⟩:∃c,ns.getD 0 0=c:=⟨_,rfl⟩
 obtain⟨c1,e1⟩:∃c,ns.getD 1 0=c:=⟨_,rfl⟩
 obtain⟨c2,e2⟩:∃c,ns.getD 2 0=c:=⟨_,rfl⟩
 obtain⟨c3',e3⟩:∃c,ns.getD 3 0=c:=⟨_,rfl⟩
 rw[e0] at k0
 rw[e1] at k1
 rw[e2] at k2
 rw[e3] at k3
 obtain⟨w,h,hs,w1,w2,h1,h2⟩:=Z2j c0
 have tH:w*h<=20:=Nat.mul_le_mul w2 h2
 obtain⟨ys,hy,hyl⟩:=slI ns (some 4) (some 8)
 obtain⟨T,hT,hTl,hTg⟩:=Z14 (w:=w) (h:=h) ⟨w1,by omega⟩ ⟨h1,by omega⟩ ys [] .no (by simp;omega)
 rw[List.nil_append] at hT
 obtain⟨m,hm⟩:∃m:Nat,1+c1 % 6=(m:Int):=⟨(1+c1 % 6).toNat,by omega⟩
 obtain⟨os,ho1,ho2,ho3⟩:=Z1V ns (n:=m) (by omega)
 have rr:=ZV (n:=m) (by omega)
 have q1:=Z1Z (T:=T) (by omega) hTg .no .no
 obtain⟨a,ha,fa1,fa2⟩:=Z20 c2 (c2 / 7) (w:=w) (h:=h) (by omega) (by omega)
 obtain⟨b,hb,fb1,fb2⟩:=Z20 c3' (c3' / 7) (w:=w) (h:=h) (by omega) (by omega)
 obtain⟨D,hDd⟩:∃D:List Dy,D=[(Str.ofString "d",1,os)]:=⟨_,rfl⟩
 have hDV:D.map ou=[.tup [.str (Str.ofString "d"),.int 1,.lst (os.map bV)]]:=by rw[hDd];rfl
 have q2:=Z0k (w:Int) (h:Int) (T:=T) (D:=D) (by omega) (by rw[hDd];simp) (s3:=.bw (T.map gU)) (s4:=.sh (.lst (D.map ou))) (.inr rfl) (.inl rfl)
 rw[hDV] at q2
 have hY:PV.ins "Yard" ["width","height","things","days"] [.int w,.int h,.lst (T.map gU),.lst [.tup [.str (Str.ofString "d"),.int 1,.lst (os.map bV)]]]=Z0 w h T D:=by rw[<-hDV];rfl
 have hol:(os.map bV).length=os.length:=by simp
 obtain⟨zs,hz,hzl⟩:=slI ns (some 14) (some (13+((os.map bV).length:Int)))
 have hzs:zs.length<=os.length-1:=by
  have e:=congrArg List.length hz
  unfold iU at e
  simp at e
  have s1:HT.fJ ns.length ns.length (some (13+(os.length:Int)))=min (13+os.length) ns.length:=by
   have:=HT.yN ns.length ns.length (13+os.length)
   rw[show((13+os.length:Nat):Int)=13+(os.length:Int) by omega] at this
   exact this
  have s2:HT.fJ ns.length 0 (some (14:Int))=min 14 ns.length:=HT.yN _ _ 14
  rw[s1,s2] at e
  omega
 obtain⟨st,s8,el,sl,s0,sN,sc⟩:=Z02 (w:=w) (h:=h) (by omega) (by omega) (by omega) (.sh (.lst (ns.map .int))) (.sh (.lst (T.map ZQ))) (.ow (T.map gU)) (.sh (.lst (os.map bV))) (.sh (Z0 w h T D)) (.ow [tp (sn w a),tp (sn w b)]) .no .no .no .no .no .no .no .no .no zs [a] .no (by simp) (by simp;omega) (by simp;exact ha) (by simp)
 have z1:¬w=0:=by omega
 have z2:¬h=0:=by omega
 obtain⟨NS,hNS⟩:∃x,ns.map PV.int=x:=⟨_,rfl⟩
 obtain⟨TR,hTR⟩:∃x,T.map ZQ=x:=⟨_,rfl⟩
 obtain⟨TV,XF⟩:∃x,T.map gU=x:=⟨_,rfl⟩
 obtain⟨OV,Yb⟩:∃x,os.map bV=x:=⟨_,rfl⟩
 rw[hNS] at k0 k1 k2 k3 ho1 el hz
 rw[hNS] at hy
 rw[hTR] at hT q1 el
 rw[XF] at q1 q2 hY el
 rw[Yb] at ho1 q2 hY el hz hol
 rw[hNS]
 have g1:Z1t [.sh (.lst NS),.no,.no,.no,.no,.no,.no,.no,.no,.no,.no,.no,.no,.no,.no,.no,.no,.no]=.ok .nx [.sh (.lst NS),.sh (.tup [.int w,.int h]),.no,.no,.no,.no,.no,.no,.no,.no,.no,.no,.no,.no,.no,.no,.no,.no]:=by
  simp[Z1t,k0,hs,-ZD]
 have g2:Z1u [.sh (.lst NS),.sh (.tup [.int w,.int h]),.no,.no,.no,.no,.no,.no,.no,.no,.no,.no,.no,.no,.no,.no,.no,.no]=.ok .nx [.sh (.lst NS),.sh (.tup [.int w,.int h]),.ow TR,.no,.no,.no,.no,.no,.no,.no,.no,.no,.no,.no,.no,.no,.no,.no]:=by
  simp[Z1u,fV,Ŵ,Vi,hy,hT,List.replicate]
 have g3:Z1v [.sh (.lst NS),.sh (.tup [.int w,.int h]),.ow TR,.no,.no,.no,.no,.no,.no,.no,.no,.no,.no,.no,.no,.no,.no,.no]=.ok .nx [.sh (.lst NS),.sh (.tup [.int w,.int h]),.sh (.lst TR),.ow TV,.no,.no,.no,.no,.no,.no,.no,.no,.no,.no,.no,.no,.no,.no]:=by
  simp[Z1v,fV,Ŵ,q1,List.replicate]
 have g4:Z1w [.sh (.lst NS),.sh (.tup [.int w,.int h]),.sh (.lst TR),.ow TV,.no,.no,.no,.no,.no,.no,.no,.no,.no,.no,.no,.no,.no,.no]=.ok .nx [.sh (.lst NS),.sh (.tup [.int w,.int h]),.sh (.lst TR),.ow TV,.ow OV,.no,.no,.no,.no,.no,.no,.no,.no,.no,.no,.no,.no,.no]:=by
  simp[Z1w,fV,Ŵ,k1,hm,rr,ho1,List.replicate,-ZD]
 have g5:Z1x [.sh (.lst NS),.sh (.tup [.int w,.int h]),.sh (.lst TR),.ow TV,.ow OV,.no,.no,.no,.no,.no,.no,.no,.no,.no,.no,.no,.no,.no]=.ok .nx [.sh (.lst NS),.sh (.tup [.int w,.int h]),.sh (.lst TR),.ow TV,.sh (.lst OV),.sh (Z0 w h T D),.no,.no,.no,.no,.no,.no,.no,.no,.no,.no,.no,.no]:=by
  generalize Z0 w h T D=Yv at *
  simp[Z1x,ũ,q2,hY,Zn,Zq]
 have g6:Z1y [.sh (.lst NS),.sh (.tup [.int w,.int h]),.sh (.lst TR),.ow TV,.sh (.lst OV),.sh (Z0 w h T D),.no,.no,.no,.no,.no,.no,.no,.no,.no,.no,.no,.no]=.ok .nx [.sh (.lst NS),.sh (.tup [.int w,.int h]),.sh (.lst TR),.ow TV,.sh (.lst OV),.sh (Z0 w h T D),.ow [tp (sn w a)],.no,.no,.no,.no,.no,.no,.no,.no,.no,.no,.no]:=by
  unfold tp
  rw[<-fa1,<-fa2]
  generalize Z0 w h T D=Yv at *
  simp[Z1y,k2,Zn,Zq,z1,z2,-ZD]
 have g7:Z1z [.sh (.lst NS),.sh (.tup [.int w,.int h]),.sh (.lst TR),.ow TV,.sh (.lst OV),.sh (Z0 w h T D),.ow [tp (sn w a)],.no,.no,.no,.no,.no,.no,.no,.no,.no,.no,.no]=.ok .nx [.sh (.lst NS),.sh (.tup [.int w,.int h]),.sh (.lst TR),.ow TV,.sh (.lst OV),.sh (Z0 w h T D),.ow [tp (sn w a),tp (sn w b)],.no,.no,.no,.no,.no,.no,.no,.no,.no,.no,.no]:=by
  rw[show tp (sn w b)=.tup [.int (c3'.fmod w),.int ((c3' / 7).fmod h)] by rw[fb1,fb2];rfl]
  generalize tp (sn w a)=pa at *
  generalize Z0 w h T D=Yv at *
  simp[Z1z,k3,Zn,Zq,z1,z2,-ZD]
 have g8:Z1A [.sh (.lst NS),.sh (.tup [.int w,.int h]),.sh (.lst TR),.ow TV,.sh (.lst OV),.sh (Z0 w h T D),.ow [tp (sn w a),tp (sn w b)],.no,.no,.no,.no,.no,.no,.no,.no,.no,.no,.no]=.ok .nx [.sh (.lst NS),.sh (.tup [.int w,.int h]),.sh (.lst TR),.ow TV,.sh (.lst OV),.sh (Z0 w h T D),.ow [tp (sn w a),tp (sn w b)],.ow [tp (sn w a)],.no,.no,.no,.no,.no,.no,.no,.no,.no,.no]:=by
  generalize tp (sn w a)=pa at *
  generalize tp (sn w b)=pb at *
  generalize Z0 w h T D=Yv at *
  simp[Z1A]
 have el':forL (gN 8) jV (zs.map .int) [.sh (.lst NS),.sh (.tup [.int w,.int h]),.sh (.lst TR),.ow TV,.sh (.lst OV),.sh (Z0 w h T D),.ow [tp (sn w a),tp (sn w b)],.ow [tp (sn w a)],.no,.no,.no,.no,.no,.no,.no,.no,.no,.no]=_:=el
 have g9:Z1B [.sh (.lst NS),.sh (.tup [.int w,.int h]),.sh (.lst TR),.ow TV,.sh (.lst OV),.sh (Z0 w h T D),.ow [tp (sn w a),tp (sn w b)],.ow [tp (sn w a)],.no,.no,.no,.no,.no,.no,.no,.no,.no,.no]=.ok .nx [.sh (.lst NS),.sh (.tup [.int w,.int h]),.sh (.lst TR),.ow TV,.sh (.lst OV),.sh (Z0 w h T D),.ow [tp (sn w a),tp (sn w b)],.ow (st.map λn=>tp (sn w n)),s8,.no,.no,.no,.no,.no,.no,.no,.no,.no]:=by
  clear el
  generalize tp (sn w a)=pa at *
  generalize tp (sn w b)=pb at *
  generalize (st.map λn=>tp (sn w n))=ST at *
  generalize zs.map PV.int=ZS at *
  generalize Z0 w h T D=Yv at *
  simp[Z1B,Vi,hz,el']
 have hos:1<=os.length/\os.length<=6:=by omega
 have r10:=Z2O (w:=w) (h:=h) (by omega) (by omega) (by omega) (by omega) (T:=T) (by omega) D hTg ho3 (by omega)
 rw[Yb] at r10
 have Br:Z0T [.sh (.lst NS),.sh (.tup [.int w,.int h]),.sh (.lst TR),.ow TV,.sh (.lst OV),.sh (Z0 w h T D),.ow [tp (sn w a),tp (sn w b)],.ow (st.map λn=>tp (sn w n)),s8,.no,.no,.no,.no,.no,.no,.no,.no,.no]=.ok .nx [.sh (.lst NS),.sh (.tup [.int w,.int h]),.sh (.lst TR),.ow TV,.sh (.lst OV),.sh (Z0 w h T D),.ow [tp (sn w a),tp (sn w b)],.ow (st.map λn=>tp (sn w n)),s8,.ow ((os.map (Ū w h T)).map λ(B:Nat)=>PV.int B),.no,.no,.no,.no,.no,.no,.no,.no]:=by
  generalize tp (sn w a)=pa at *
  generalize tp (sn w b)=pb at *
  generalize (st.map λn=>tp (sn w n))=ST at *
  generalize ((os.map (Ū w h T)).map λ(B:Nat)=>PV.int B)=Bt at *
  generalize Z0 w h T D=Yv at *
  simp[Z0T,fV,Ŵ,List.replicate,r10]
 obtain⟨Bs,KH⟩:∃Bs,os.map (Ū w h T)=Bs:=⟨_,rfl⟩
 have hBl:Bs.length=os.length:=by rw[<-KH];simp
 have sh:∀{T':List Th} {os':List (Option P3)} {Bs':List Nat},T'.length<=1000->(∀t∈T',Z6 t.1 t.2=true)->(1<=os'.length/\os'.length<=1000)->(∀o∈os',Kz o)->os'.map (Ū w h T')=Bs'->∃v,jw [.sh (Z0 w h T' [(Str.ofString "d",1,os')]),.sh (.int 0),.sh (tp (sn w a)),.sh (tp (sn w b))]=.ret (.sh v)/\((aP (Z1 w h b Bs') a=none/\v=.tup [.str "none",.lst ((Z1 w h b Bs').map (rV (w*h)))])\/∃c WV,aP (Z1 w h b Bs') a=some c/\v=.tup [.str "walk",.int c,.lst WV,.lst ((Z1 w h b Bs').map (rV (w*h)))]):=λh1 h2 h3 h4 h5=>
  Z2n (D:=[(Str.ofString "d",1,_)]) (by omega) (by omega) (by omega) (by omega) h1 h2 ha hb (i:=0) (by simp) h3 h4 h5
 obtain⟨v,ev,hv⟩:=sh (T':=T) (os':=os) (by omega) hTg ⟨hos.1,by omega⟩ ho3 KH
 rw[<-hDd] at ev
 obtain⟨PP,hPP⟩:∃PP,(Z1 w h b Bs).map (rV (w*h))=PP:=⟨_,rfl⟩
 have nn:=Z2o (w:=w) (h:=h) (g:=b) (by omega) (by omega) (by omega) (by omega) hb (Bs:=Bs) (by omega)
 have al:=Z2p (w:=w) (h:=h) (g:=b) (by omega) (by omega) (by omega) (Bs:=Bs) (st:=st) (by simp at sl;omega) (by simp at sl;omega) (by simp at sl;omega) sN sc
 have co:=Z0o ev hv
 rw[hPP] at nn al hv
 have vl:đ v (.int (-1))=some (.lst PP):=by
  rcases hv with⟨_,rfl⟩|⟨c,WV,_,rfl⟩<;>rfl
 obtain⟨K,hK⟩:∃K,ZG (aP (Z1 w h b Bs) a)=K:=⟨_,rfl⟩
 rw[hK] at co
 rw[<-KH] at al
 have Hy:Z0U [.sh (.lst NS),.sh (.tup [.int w,.int h]),.sh (.lst TR),.ow TV,.sh (.lst OV),.sh (Z0 w h T D),.ow [tp (sn w a),tp (sn w b)],.ow (st.map λn=>tp (sn w n)),s8,.ow ((os.map (Ū w h T)).map λ(B:Nat)=>PV.int B),.no,.no,.no,.no,.no,.no,.no,.no]=.ok .nx [.sh (.lst NS),.sh (.tup [.int w,.int h]),.sh (.lst TR),.ow TV,.sh (.lst OV),.sh (Z0 w h T D),.ow [tp (sn w a),tp (sn w b)],.ow (st.map λn=>tp (sn w n)),s8,.ow ((os.map (Ū w h T)).map λ(B:Nat)=>PV.int B),.sh v,.no,.no,.no,.no,.no,.no,.no]:=by
  clear al nn Br sh
  generalize tp (sn w a)=pa at *
  generalize tp (sn w b)=pb at *
  generalize (st.map λn=>tp (sn w n))=ST at *
  generalize ((os.map (Ū w h T)).map λ(B:Nat)=>PV.int B)=Bt at *
  generalize Z0 w h T D=Yv at *
  simp[Z0U,ev]
 have HX:Z0V [.sh (.lst NS),.sh (.tup [.int w,.int h]),.sh (.lst TR),.ow TV,.sh (.lst OV),.sh (Z0 w h T D),.ow [tp (sn w a),tp (sn w b)],.ow (st.map λn=>tp (sn w n)),s8,.ow ((os.map (Ū w h T)).map λ(B:Nat)=>PV.int B),.sh v,.no,.no,.no,.no,.no,.no,.no]=.ok .nx [.sh (.lst NS),.sh (.tup [.int w,.int h]),.sh (.lst TR),.ow TV,.sh (.lst OV),.sh (Z0 w h T D),.ow [tp (sn w a),tp (sn w b)],.ow (st.map λn=>tp (sn w n)),s8,.ow ((os.map (Ū w h T)).map λ(B:Nat)=>PV.int B),.sh v,.no,.no,.no,.no,.no,.no,.no]:=by
  clear al Br sh Hy
  generalize tp (sn w a)=pa at *
  generalize tp (sn w b)=pb at *
  generalize (st.map λn=>tp (sn w n))=ST at *
  generalize ((os.map (Ū w h T)).map λ(B:Nat)=>PV.int B)=Bt at *
  generalize Z0 w h T D=Yv at *
  simp[Z0V,vl,nn]
 have KQ:Z0W [.sh (.lst NS),.sh (.tup [.int w,.int h]),.sh (.lst TR),.ow TV,.sh (.lst OV),.sh (Z0 w h T D),.ow [tp (sn w a),tp (sn w b)],.ow (st.map λn=>tp (sn w n)),s8,.ow ((os.map (Ū w h T)).map λ(B:Nat)=>PV.int B),.sh v,.no,.no,.no,.no,.no,.no,.no]=.ok .nx [.sh (.lst NS),.sh (.tup [.int w,.int h]),.sh (.lst TR),.ow TV,.sh (.lst OV),.sh (Z0 w h T D),.ow [tp (sn w a),tp (sn w b)],.ow (st.map λn=>tp (sn w n)),s8,.ow ((os.map (Ū w h T)).map λ(B:Nat)=>PV.int B),.sh v,.no,.no,.no,.no,.no,.no,.no]:=by
  clear nn Br sh Hy HX
  generalize tp (sn w a)=pa at *
  generalize tp (sn w b)=pb at *
  generalize (st.map λn=>tp (sn w n))=ST at *
  generalize ((os.map (Ū w h T)).map λ(B:Nat)=>PV.int B)=Bt at *
  generalize Z0 w h T D=Yv at *
  simp[Z0W,vl,al]
 have RT:Z0X [.sh (.lst NS),.sh (.tup [.int w,.int h]),.sh (.lst TR),.ow TV,.sh (.lst OV),.sh (Z0 w h T D),.ow [tp (sn w a),tp (sn w b)],.ow (st.map λn=>tp (sn w n)),s8,.ow ((os.map (Ū w h T)).map λ(B:Nat)=>PV.int B),.sh v,.no,.no,.no,.no,.no,.no,.no]=.ok .nx [.sh (.lst NS),.sh (.tup [.int w,.int h]),.sh (.lst TR),.ow TV,.sh (.lst OV),.sh (Z0 w h T D),.ow [tp (sn w a),tp (sn w b)],.ow (st.map λn=>tp (sn w n)),s8,.ow ((os.map (Ū w h T)).map λ(B:Nat)=>PV.int B),.sh v,.sh (.int K),.no,.no,.no,.no,.no,.no]:=by
  clear nn al Br sh Hy HX KQ
  generalize tp (sn w a)=pa at *
  generalize tp (sn w b)=pb at *
  generalize (st.map λn=>tp (sn w n))=ST at *
  generalize ((os.map (Ū w h T)).map λ(B:Nat)=>PV.int B)=Bt at *
  generalize Z0 w h T D=Yv at *
  simp[Z0X,co]
 have hsl:0<st.length/\st.length<=Bs.length:=by simp at sl;omega
 have lA:=Z2x (sn w (st.getD (st.length-1) 0)) (sn w b)
 have il:=Z0q (w:=w) hsl.1
 have KR:∃Bl oY:P.Slot,Z0i [.sh (.lst NS),.sh (.tup [.int w,.int h]),.sh (.lst TR),.ow TV,.sh (.lst OV),.sh (Z0 w h T D),.ow [tp (sn w a),tp (sn w b)],.ow (st.map λn=>tp (sn w n)),s8,.ow ((os.map (Ū w h T)).map λ(B:Nat)=>PV.int B),.sh v,.sh (.int K),.no,.no,.no,.no,.no,.no]=.ok .nx [.sh (.lst NS),.sh (.tup [.int w,.int h]),.sh (.lst TR),.ow TV,.sh (.lst OV),.sh (Z0 w h T D),.ow [tp (sn w a),tp (sn w b)],.ow (st.map λn=>tp (sn w n)),s8,.ow ((os.map (Ū w h T)).map λ(B:Nat)=>PV.int B),.sh v,.sh (.int K),.no,.no,Bl,oY,.no,.no]:=by
  clear nn al Br sh Hy HX KQ RT
  by_cases E:st.getD (st.length-1) 0=b
  ·obtain⟨oY,e15⟩:=Z0S (w:=w) (h:=h) (by omega) (by omega) (by omega) hsl.2 sN (.sh (.lst NS)) (.sh (.lst TR)) (.ow TV) (.sh (.lst OV)) (.sh (Z0 w h T D)) (.ow [tp (sn w a),tp (sn w b)]) s8 (.sh v) (.sh (.int K)) .no .no .no .no st.length 0 (by omega) .no
   obtain⟨c,hc1,hc2⟩:=ZP (w:=w) (h:=h) (g:=b) hsl.2 sc E (st.length-1) (by omega)
   have i0:st.length-1-(st.length-1)=0:=by omega
   rw[i0,s0] at hc1
   have i1:st.length-1+1=st.length:=by omega
   rw[i1] at hc2
   have fr:=Z1f Bs st st.length (Nat.le_refl _)
   rw[Nat.sub_self] at fr
   have f0:fwd Bs st 0=0:=rfl
   have hcK:K=c:=by
    rw[<-hK]
    have:aP (Z1 w h b Bs) a=some c:=hc1
    rw[this];rfl
   have hle:¬fwd Bs st st.length<K:=by rw[hcK];omega
   have lt:ŋ (tp (sn w (st.getD (st.length-1) 0))) (tp (sn w b))=some (.bl true):=by rw[lA,E];simp
   have rs:=ZV (n:=st.length) (by omega)
   have Zdz:(st.map λn=>tp (sn w n)).length=st.length:=by simp
   rw[f0,<-List.range_eq_range'] at e15
   rw[<-KH] at e15 hle
   refine⟨.sh (.int (fwd (os.map (Ū w h T)) st st.length)),oY,?_⟩
   generalize fwd (os.map (Ū w h T)) st st.length=FL at *
   generalize (List.range st.length).map (λ(i:Nat)=>PV.int i)=KL at *
   generalize tp (sn w (st.getD (st.length-1) 0))=pl at *
   generalize tp (sn w a)=pa at *
   generalize tp (sn w b)=pb at *
   generalize ((os.map (Ū w h T)).map λ(B:Nat)=>PV.int B)=Bt at *
   generalize (st.map λn=>tp (sn w n))=ST at *
   generalize Z0 w h T D=Yv at *
   simp[Z0i,il,lt,Zdz,rs,e15,hle]
  ·have lt:ŋ (tp (sn w (st.getD (st.length-1) 0))) (tp (sn w b))=some (.bl false):=by
    rw[lA]
    simp
    exact λz=>E (Z1W (by omega) z)
   refine⟨.no,.no,?_⟩
   generalize tp (sn w (st.getD (st.length-1) 0))=pl at *
   generalize tp (sn w a)=pa at *
   generalize tp (sn w b)=pb at *
   generalize ((os.map (Ū w h T)).map λ(B:Nat)=>PV.int B)=Bt at *
   generalize (st.map λn=>tp (sn w n))=ST at *
   generalize Z0 w h T D=Yv at *
   simp[Z0i,il,lt]
 obtain⟨Bl,oY,KR⟩:=KR
 obtain⟨t,et,tg⟩:=Z0w (c1 / 6) (w:=((max w h:Nat):Int)) (by omega) (by omega)
 have mx:=Z1Y w h
 have g16:Z0Y [.sh (.lst NS),.sh (.tup [.int w,.int h]),.sh (.lst TR),.ow TV,.sh (.lst OV),.sh (Z0 w h T D),.ow [tp (sn w a),tp (sn w b)],.ow (st.map λn=>tp (sn w n)),s8,.ow ((os.map (Ū w h T)).map λ(B:Nat)=>PV.int B),.sh v,.sh (.int K),.no,.no,Bl,oY,.no,.no]=.ok .nx [.sh (.lst NS),.sh (.tup [.int w,.int h]),.sh (.lst TR),.ow TV,.sh (.lst OV),.sh (Z0 w h T D),.ow [tp (sn w a),tp (sn w b)],.ow (st.map λn=>tp (sn w n)),s8,.ow ((os.map (Ū w h T)).map λ(B:Nat)=>PV.int B),.sh v,.sh (.int K),.no,.no,Bl,oY,.sh (.str t.1),.sh (.lst (t.2.map .int))]:=by
  clear il lA KR nn al Br sh Hy HX KQ RT
  generalize tp (sn w a)=pa at *
  generalize tp (sn w b)=pb at *
  generalize (st.map λn=>tp (sn w n))=ST at *
  generalize ((os.map (Ū w h T)).map λ(B:Nat)=>PV.int B)=Bt at *
  generalize Z0 w h T D=Yv at *
  generalize t.2.map PV.int=TX at *
  simp[Z0Y,k1,mx,et,-ZD]
 have eth:=Z0B (Z15 tg) (xs:=t.2) (sl:=.sh (.lst (t.2.map .int))) (.inl rfl)
 rw[if_pos tg] at eth
 change aW _=.ret (.sh (gU t)) at eth
 have ZdR:TV.length=T.length:=by rw[<-XF];simp
 have ad:=add_l (xs:=TV) (ys:=[gU t]) (by simp;omega)
 have g17:Z0Z [.sh (.lst NS),.sh (.tup [.int w,.int h]),.sh (.lst TR),.ow TV,.sh (.lst OV),.sh (Z0 w h T D),.ow [tp (sn w a),tp (sn w b)],.ow (st.map λn=>tp (sn w n)),s8,.ow ((os.map (Ū w h T)).map λ(B:Nat)=>PV.int B),.sh v,.sh (.int K),.no,.no,Bl,oY,.sh (.str t.1),.sh (.lst (t.2.map .int))]=.ok .nx [.sh (.lst NS),.sh (.tup [.int w,.int h]),.sh (.lst TR),.ow TV,.sh (.lst OV),.sh (Z0 w h T D),.ow [tp (sn w a),tp (sn w b)],.ow (st.map λn=>tp (sn w n)),s8,.ow ((os.map (Ū w h T)).map λ(B:Nat)=>PV.int B),.sh v,.sh (.int K),.ow (TV ++ [gU t]),.no,Bl,oY,.sh (.str t.1),.sh (.lst (t.2.map .int))]:=by
  clear il lA KR nn al Br sh Hy HX KQ RT
  generalize tp (sn w a)=pa at *
  generalize tp (sn w b)=pb at *
  generalize (st.map λn=>tp (sn w n))=ST at *
  generalize ((os.map (Ū w h T)).map λ(B:Nat)=>PV.int B)=Bt at *
  generalize Z0 w h T D=Yv at *
  generalize t.2.map PV.int=TX at *
  generalize gU t=tv at *
  simp[Z0Z,eth,ad]
 have T2g:∀q∈T ++ [t],Z6 q.1 q.2=true:=λq hq=>by
  rcases List.mem_append.mp hq with hq|hq
  ·exact hTg q hq
  ·rw[List.mem_singleton.mp hq];exact tg
 have y2:=Z0k (w:Int) (h:Int) (T:=T ++ [t]) (D:=D) (by simp;omega) (by rw[hDd];simp) (s3:=.bw (TV ++ [gU t])) (s4:=.sh (.lst (D.map ou))) (.inr (by rw[<-XF];simp)) (.inl rfl)
 rw[hDV,Yb] at y2
 have Zbk:(T ++ [t]).map gU=TV ++ [gU t]:=by rw[<-XF];simp
 rw[Zbk] at y2
 have hY2:PV.ins "Yard" ["width","height","things","days"] [.int w,.int h,.lst (TV ++ [gU t]),.lst [.tup [.str (Str.ofString "d"),.int 1,.lst OV]]]=Z0 w h (T ++ [t]) D:=by rw[<-Zbk,<-Yb,<-hDV];rfl
 have g18:Z10 [.sh (.lst NS),.sh (.tup [.int w,.int h]),.sh (.lst TR),.ow TV,.sh (.lst OV),.sh (Z0 w h T D),.ow [tp (sn w a),tp (sn w b)],.ow (st.map λn=>tp (sn w n)),s8,.ow ((os.map (Ū w h T)).map λ(B:Nat)=>PV.int B),.sh v,.sh (.int K),.ow (TV ++ [gU t]),.no,Bl,oY,.sh (.str t.1),.sh (.lst (t.2.map .int))]=.ok .nx [.sh (.lst NS),.sh (.tup [.int w,.int h]),.sh (.lst TR),.ow TV,.sh (.lst OV),.sh (Z0 w h T D),.ow [tp (sn w a),tp (sn w b)],.ow (st.map λn=>tp (sn w n)),s8,.ow ((os.map (Ū w h T)).map λ(B:Nat)=>PV.int B),.sh v,.sh (.int K),.sh (Z0 w h (T ++ [t]) D),.no,Bl,oY,.sh (.str t.1),.sh (.lst (t.2.map .int))]:=by
  clear il lA KR nn al Br sh Hy HX KQ RT
  generalize tp (sn w a)=pa at *
  generalize tp (sn w b)=pb at *
  generalize (st.map λn=>tp (sn w n))=ST at *
  generalize ((os.map (Ū w h T)).map λ(B:Nat)=>PV.int B)=Bt at *
  generalize Z0 w h T D=Yv at *
  generalize Z0 w h (T ++ [t]) D=Y2 at *
  generalize t.2.map PV.int=TX at *
  generalize gU t=tv at *
  generalize TV ++ [tv]=TV2 at *
  simp[Z10,ũ,y2,hY2,Zn,Zq]
 obtain⟨o2,eo2,ro2⟩:=Z0R (c1 / 20)
 have ZdS:OV.length=os.length:=by rw[<-Yb];simp
 have ad2:=add_l (xs:=OV) (ys:=[bV o2]) (by simp;omega)
 have g19:Z11 [.sh (.lst NS),.sh (.tup [.int w,.int h]),.sh (.lst TR),.ow TV,.sh (.lst OV),.sh (Z0 w h T D),.ow [tp (sn w a),tp (sn w b)],.ow (st.map λn=>tp (sn w n)),s8,.ow ((os.map (Ū w h T)).map λ(B:Nat)=>PV.int B),.sh v,.sh (.int K),.sh (Z0 w h (T ++ [t]) D),.no,Bl,oY,.sh (.str t.1),.sh (.lst (t.2.map .int))]=.ok .nx [.sh (.lst NS),.sh (.tup [.int w,.int h]),.sh (.lst TR),.ow TV,.ow (OV ++ [bV o2]),.sh (Z0 w h T D),.ow [tp (sn w a),tp (sn w b)],.ow (st.map λn=>tp (sn w n)),s8,.ow ((os.map (Ū w h T)).map λ(B:Nat)=>PV.int B),.sh v,.sh (.int K),.sh (Z0 w h (T ++ [t]) D),.no,Bl,oY,.sh (.str t.1),.sh (.lst (t.2.map .int))]:=by
  clear il lA KR nn al Br sh Hy HX KQ RT
  generalize tp (sn w a)=pa at *
  generalize tp (sn w b)=pb at *
  generalize (st.map λn=>tp (sn w n))=ST at *
  generalize ((os.map (Ū w h T)).map λ(B:Nat)=>PV.int B)=Bt at *
  generalize Z0 w h T D=Yv at *
  generalize Z0 w h (T ++ [t]) D=Y2 at *
  generalize t.2.map PV.int=TX at *
  generalize bV o2=ov at *
  simp[Z11,k1,eo2,ad2,-ZD]
 have ZdA:(os ++ [o2]).map bV=OV ++ [bV o2]:=by rw[<-Yb];simp
 have y3:=Z0k (w:Int) (h:Int) (T:=T) (D:=[(Str.ofString "d",1,os ++ [o2])]) (by omega) (by simp) (s3:=.bw TV) (s4:=.sh (.lst ([(Str.ofString "d",1,os ++ [o2])].map ou))) (.inr (by rw[<-XF])) (.inl rfl)
 have hD3:([(Str.ofString "d",1,os ++ [o2])]:List Dy).map ou=[.tup [.str (Str.ofString "d"),.int 1,.lst (OV ++ [bV o2])]]:=by rw[<-ZdA];rfl
 rw[hD3,XF] at y3
 have hY3:PV.ins "Yard" ["width","height","things","days"] [.int w,.int h,.lst TV,.lst [.tup [.str (Str.ofString "d"),.int 1,.lst (OV ++ [bV o2])]]]=Z0 w h T [(Str.ofString "d",1,os ++ [o2])]:=by rw[<-hD3,<-XF];rfl
 have g20:Z12 [.sh (.lst NS),.sh (.tup [.int w,.int h]),.sh (.lst TR),.ow TV,.ow (OV ++ [bV o2]),.sh (Z0 w h T D),.ow [tp (sn w a),tp (sn w b)],.ow (st.map λn=>tp (sn w n)),s8,.ow ((os.map (Ū w h T)).map λ(B:Nat)=>PV.int B),.sh v,.sh (.int K),.sh (Z0 w h (T ++ [t]) D),.no,Bl,oY,.sh (.str t.1),.sh (.lst (t.2.map .int))]=.ok .nx [.sh (.lst NS),.sh (.tup [.int w,.int h]),.sh (.lst TR),.ow TV,.sh (.lst (OV ++ [bV o2])),.sh (Z0 w h T D),.ow [tp (sn w a),tp (sn w b)],.ow (st.map λn=>tp (sn w n)),s8,.ow ((os.map (Ū w h T)).map λ(B:Nat)=>PV.int B),.sh v,.sh (.int K),.sh (Z0 w h (T ++ [t]) D),.sh (Z0 w h T [(Str.ofString "d",1,os ++ [o2])]),Bl,oY,.sh (.str t.1),.sh (.lst (t.2.map .int))]:=by
  clear il lA KR nn al Br sh Hy HX KQ RT
  generalize tp (sn w a)=pa at *
  generalize tp (sn w b)=pb at *
  generalize (st.map λn=>tp (sn w n))=ST at *
  generalize ((os.map (Ū w h T)).map λ(B:Nat)=>PV.int B)=Bt at *
  generalize Z0 w h T D=Yv at *
  generalize Z0 w h (T ++ [t]) D=Y2 at *
  generalize Z0 w h T [(Str.ofString "d",1,os ++ [o2])]=Y3 at *
  generalize t.2.map PV.int=TX at *
  generalize bV o2=ov at *
  generalize OV ++ [ov]=OV2 at *
  simp[Z12,ũ,y3,hY3,Zn,Zq]
 obtain⟨v2,ev2,hv2⟩:=sh (T':=T ++ [t]) (os':=os) (by simp;omega) T2g ⟨hos.1,by omega⟩ ho3 rfl
 rw[<-hDd] at ev2
 have co2:=Z0o ev2 hv2
 obtain⟨v3,ev3,hv3⟩:=sh (T':=T) (os':=os ++ [o2]) (by omega) hTg ⟨by simp,by simp;omega⟩ (λo hq=>by
  rcases List.mem_append.mp hq with hq|hq
  ·exact ho3 o hq
  ·rw[List.mem_singleton.mp hq];exact ro2) rfl
 have co3:=Z0o ev3 hv3
 have le2:ZG (aP (Z1 w h b (os.map (Ū w h (T ++ [t])))) a)<=K:=by
  rw[<-hK]
  refine Z1X (λc hc=>?_) λc hc=>by have:=(ZB _ hc).2;simp at this;omega
  refine Z0P Bs _ (by rw[hBl];simp) (λi n hn=>?_) ha hc
  rw[<-KH]
  by_cases hi:i<os.length
  ·have e1:(os.map (Ū w h (T ++ [t]))).getD i 0=Ū w h (T ++ [t]) os[i]:=by simp[hi]
   have e2:(os.map (Ū w h T)).getD i 0=Ū w h T os[i]:=by simp[hi]
   rw[e1,e2]
   exact Z2q T t _ hn
  ·have e1:(os.map (Ū w h (T ++ [t]))).getD i 0=0:=by rw[List.getD_eq_getElem?_getD,List.getElem?_eq_none (by simpa using hi)];rfl
   have e2:(os.map (Ū w h T)).getD i 0=0:=by rw[List.getD_eq_getElem?_getD,List.getElem?_eq_none (by simpa using hi)];rfl
   rw[e1,e2]
   exact Int.le_refl _
 have le3:ZG (aP (Z1 w h b ((os ++ [o2]).map (Ū w h T))) a)<=K:=by
  rw[<-hK]
  refine Z1X (λc hc=>?_) λc hc=>by have:=(ZB _ hc).2;simp at this;omega
  rw[List.map_append,KH]
  exact Z0Q _ Bs ha hc
 have g21:∃ρ,Z13 [.sh (.lst NS),.sh (.tup [.int w,.int h]),.sh (.lst TR),.ow TV,.sh (.lst (OV ++ [bV o2])),.sh (Z0 w h T D),.ow [tp (sn w a),tp (sn w b)],.ow (st.map λn=>tp (sn w n)),s8,.ow ((os.map (Ū w h T)).map λ(B:Nat)=>PV.int B),.sh v,.sh (.int K),.sh (Z0 w h (T ++ [t]) D),.sh (Z0 w h T [(Str.ofString "d",1,os ++ [o2])]),Bl,oY,.sh (.str t.1),.sh (.lst (t.2.map .int))]=.ok (.rt (.sh (.bl true))) ρ:= by
  clear il lA KR nn al Br sh Hy HX KQ RT
  generalize ZG (aP (Z1 w h b (os.map (Ū w h (T ++ [t])))) a)=K2 at *
  generalize ZG (aP (Z1 w h b ((os ++ [o2]).map (Ū w h T))) a)=K3 at *
  generalize tp (sn w a)=pa at *
  generalize tp (sn w b)=pb at *
  generalize (st.map λn=>tp (sn w n))=ST at *
  generalize ((os.map (Ū w h T)).map λ(B:Nat)=>PV.int B)=Bt at *
  generalize Z0 w h (T ++ [t]) D=Y2 at *
  generalize Z0 w h T [(Str.ofString "d",1,os ++ [o2])]=Y3 at *
  generalize Z0 w h T D=Yv at *
  generalize t.2.map PV.int=TX at *
  exact⟨_,by simp[Z13,co2,co3,le2,le3];rfl⟩
 obtain⟨ρe,g21⟩:=g21
 have st0:qt [.sh (.lst NS)]=FR.of (xT [.sh (.lst NS),.no,.no,.no,.no,.no,.no,.no,.no,.no,.no,.no,.no,.no,.no,.no,.no,.no]):=rfl
 rw[st0,Z3d,Zc g1,Zc g2,Zc g3,Zc g4,Zc g5,Zc g6,Zc g7,Zc g8,Zc g9,Zc Br,Zc Hy,Zc HX,Zc KQ,Zc RT,Zc KR,Zc g16,Zc g17,Zc g18,Zc g19,Zc g20,g21]
 rfl
def Z0r{l:PySem.W.OpenLaw}{q:Program}{loose:List Str}{XP:(Str->Option Value)->Heap->Prop}{YP:World->Heap->Prop}{d:DefRec}{K:Params->PySem.W.Frag}(hn:l.most=some 63)(hdf:d.params.defaults=[])
 (hY:∀(w:World) (h:Heap),YP w h->(K w.params).In h)
 (F:∀(w:World) (mg:Str→Option Value) (fa:Addr) (h:Heap),(K w.params).In h→h.Ns mainGlobals mg→mg d.name=some (.ref fa)→
   ∃fd:FuncData,(∀(s:Shared) (u:Value),BindsTo s fd ⟨[u],[]⟩ [("_law_script",u)])/\∀base:Heap,(K w.params).In base->base.Ns mainGlobals mg->∃cm,ģ l.prog w (K w.params) mg base Ũ 12 fa fd ["_law_script"] (ş ⟨K w.params,cm⟩ 1 qt))
 (hnt:∀w:World,PySem.W.noTabs (K w.params)=true)(hrec:∀y,y∈lams->∃d,(PyProof.Rows.recsOf q).find? (λe=>e.name== y)=some d) :
 PySem.W.WalkO q loose XP YP l.row.toRowW d [] (λf vs=>PySem.call f vs):=
 P.DX (k:=12) (x:= "_law_script") (CX:=Ũ) (m:=qt) hn hdf ⟨rfl,by decide,by decide⟩ hY F Z2r (λ_ _ _ _ z=>z) (hnt:=λ_=>hnt) (hrec:=hrec)
end
end T
namespace PySem.W.Fast
def tw10601517671794323024:=0
def tw10469475527947709802:=0
def tw12768188708628799900:=0
def tw16566488107750755838:=0
def tw11734360754803471081:=0
def tw16347954556305055045:=0
def tw6082723789902343151:=0
def tw11287500279413066091:=0
def tw18371240453647972767:=0
def tw12989104427968206079:=0
def tw2631889542724450036:=0
def tw3064673164009379822:=0
def tw1888914918424106021:=0
def tw13285458941468456968:=0
def tw13215416075342619709:=0
def tw3630300706727584552:=0
def tw5390527232573793723:=0
def tw6166904525257809271:=0
def tw16969349107367675927:=0
def tw12956076842954225528:=0
def tw6350114066557307307:=0
def tw7890611636725243575:=0
def tw12704697799079160024:=0
def tw7871708850567244501:=0
def tw17814748140563572:=0
def tw1373826737800996826:=0
def tw7128456859510700488:=0
def tw14030056917872710152:=0
def tw10572861371131609825:=0
def tw17546304008781564633:=0
def tw18330043270119869611:=0
def tw14891127902164101436:=0
def tw15817483796553423917:=0
def tw9328877258513715191:=0
def tw9092615677514973428:=0
def tw18142857591062867495:=0
def tw11575885002618136442:=0
def tw12660161065791670185:=0
def tw14122602706149013485:=0
def tw14250998943051102103:=0
def tw16734926867066809246:=0
def tw13480087727721524205:=0
def tw17516817261963223116:=0
def tw17870672912000488606:=0
def tw15620897398375781950:=0
def tw7427811983439065486:=0
def tw15809375610883941206:=0
def tw2774364753164488979:=0
def tw17871715831704251849:=0
def tw13691729628555873073:=0
def tw15134061549035186356:=0
def tw10226075270643548745:=0
def tw15379514062032734744:=0
def tw15322432700261582130:=0
def tw8294571085065713247:=0
def tw9253645765285223278:=0
def tw11286472975172915541:=0
def tw8467523262940913870:=0
def tw5369902298194682562:=0
def tw14693354009795130125:=0
def tw5531766437308585977:=0
def tw8666098404688127360:=0
def tw11646798567381567202:=0
def tw9157674245161850328:=0
def tw11684670294087638559:=0
def tw2743200704932703642:=0
def tw11414902918483068297:=0
def tw13104640171521681166:=0
def tw13759847736530778387:=0
def tw6707098958070650405:=0
def tw18111323019126377072:=0
def tw7948658631307132726:=0
def tw15014653514270127176:=0
def tw2103643216173462413:=0
def tw12717769826095975284:=0
def tw18121871027701663811:=0
def tw624295493767996779:=0
def tw9312913978974985982:=0
def tw14057882252917869754:=0
def tw3355592621968477737:=0
def tw9014277043830897101:=0
def tw11754506318305429779:=0
def tw3019066436128411464:=0
def tw17867493498668707960:=0
def tw3422535070598616575:=0
def tw6982467944735635695:=0
def tw6277094549953230218:=0
def tw10913271714551070719:=0
def tw17214222356274375582:=0
def tw7574000883360161905:=0
def tw10967950458365188528:=0
def tw230856180705135051:=0
def tw10875142921533678917:=0
def tw5203875307436809151:=0
def tw3776299385622366188:=0
def tw768885021433251470:=0
def tw13093673002161777429:=0
def tw14755933391422816012:=0
def tw11768901570578009838:=0
def tw12480702598886552452:=0
def tw2731745067084150998:=0
def tw14861161046125993821:=0
def tw7754941469715338990:=0
def tw10586439588826381662:=0
def tw17707713344340214710:=0
def tw1729814438755193257:=0
def tw12763095302924757068:=0
def tw1527806269797035921:=0
def tw4795521661133376803:=0
def tw11092124608666262786:=0
def tw2544814421282102510:=0
def tw1262334705915639669:=0
def tw10608801645385993499:=0
def tw2911039877088334029:=0
def tw1100387801283941534:=0
def tw15179945552278415613:=0
def tw3266034961417049207:=0
def tw14505170630425761661:=0
def tw13596411883466785113:=0
def tw12719908329313226260:=0
def tw4283137525782010837:=0
def tw14347516383862245554:=0
def tw15265034416746774222:=0
def tw8296248375864518220:=0
def tw11234489220091528863:=0
def tw693862742030088844:=0
def tw7183591897520948569:=0
def tw13096989364567540477:=0
def tw9235675994154785956:=0
def tw13873489821231717879:=0
def tw1551069934446202988:=0
def tw10916861007819621086:=0
def tw5258233579535761121:=0
def tw5932953509146773964:=0
def tw15575635265226167169:=0
def tw8301879552376850134:=0
def tw7654036373649305951:=0
def tw4390022647503226546:=0
def tw17860905690741509767:=0
def tw15073516001952094812:=0
def tw10045404403225700839:=0
def tw10230007676939716128:=0
def tw4397656289367795444:=0
def tw16585286146987887627:=0
def tw16024881294610481971:=0
def tw14215762850179153808:=0
def tw4300056007288264926:=0
def tw2831640928481923661:=0
def tw61389138837687987:=0
def tw5659613063664579475:=0
def tw4913870853039111302:=0
def tw10993531903688501502:=0
def tw1339201985543940704:=0
def tw7948146588065749254:=0
def tw5180870934090616419:=0
def tw8253837376040996675:=0
def tw2363385719480035344:=0
def tw17754845022080142187:=0
def tw4261341202945166558:=0
def tw4685513719495466374:=0
def tw14135532224188094374:=0
def tw8646609046857759166:=0
def tw10393315093051524102:=0
def tw10504021236980564277:=0
def tw7241237367414635288:=0
def tw10114497094805382819:=0
def tw8753427998966255345:=0
def tw8707473236150282575:=0
def tw13892476124748609893:=0
def tw4940442435984354263:=0
def tw12586670568211441555:=0
def tw14716954741488297185:=0
def tw8405786408536496527:=0
def tw10854842124544123987:=0
def tw12832190884757782607:=0
def tw15638262491207461159:=0
def tw7167888489939677091:=0
def tw9116439899024725406:=0
def tw11224067423238144058:=0
def tw8007325014108488663:=0
def tw4950256851887566313:=0
def tw11279375819268983458:=0
def tw12563586967849978511:=0
def tw15882393368940861447:=0
def tw5953492466066057785:=0
def tw5703072501650119640:=0
def tw17928220031181907601:=0
def tw700959082886477806:=0
def tw4745444106956217375:=0
def tw2684295166178831312:=0
def tw7437315150174017587:=0
def tw17269144835288994461:=0
def tw16785327568344017875:=0
def tw5005319693686770121:=0
def tw11367092669814874384:=0
def tw7581554475845347685:=0
def tw5964176015086969868:=0
def tw4796535255988669180:=0
def tw9158468726760342826:=0
def tw4100668711428658534:=0
def tw17938349889092685363:=0
def tw89552427418447222:=0
def tw16718602997568607940:=0
def tw3712537025048778431:=0
def tw12233525377964814073:=0
def tw2049469159349138600:=0
def tw7719838222516639079:=0
def tw14822529179140720286:=0
def tw1118758195497185015:=0
def tw107384981293414240:=0
def tw4800992554240158155:=0
def tw2894499626566474295:=0
def tw11463334750543843876:=0
def tw18154759253294178812:=0
def tw7982951458682217031:=0
def tw1929902391075081274:=0
def tw18074335998331030535:=0
def tw8893496321628962574:=0
def tw13039752232046519370:=0
def tw15136778289775663241:=0
def tw11488152478260463524:=0
def tw18213263963012560703:=0
def tw7271647051245027030:=0
def tw3092178798015666837:=0
def tw15520167822838366762:=0
def tw4458138451420627853:=0
def tw12473743080493769285:=0
def tw10269016503353312112:=0
def tw6448664538862644071:=0
def tw15732049959394221277:=0
def tw13555686927001971330:=0
def tw15764630556380537406:=0
def tw3592555841259234275:=0
def tw6088388015901706010:=0
def tw5687276210822494297:=0
def tw18393331171993505611:=0
def tw9319261753321805889:=0
def tw2180427246785536893:=0
def tw3999456098738655119:=0
def tw2011633443074614961:=0
def tw1656259128354050975:=0
def tw1353144794772032586:=0
def tw2594457762862556081:=0
def tw7339978544732322640:=0
def tw17189116083699492366:=0
def tw7549740994230129900:=0
def tw8093830947324417185:=0
def tw2097504009558844366:=0
def tw8051284102521283863:=0
def tw10309046903581657209:=0
def tw2193726860389439736:=0
def tw17906259456853662986:=0
def tw4473422265140009640:=0
def tw6212412410297159047:=0
def tw7530045819179691449:=0
def tw12498665419994748648:=0
def tw5788906975011803779:=0
def tw14226535488628689143:=0
def tw3510117698772308251:=0
def tw8037430001365764987:=0
def tw1816831444860848056:=0
def tw344075210693790886:=0
def tw7486625932783413609:=0
def tw18050259505841471307:=0
def tw13655250828013521898:=0
def tw8982957268513901046:=0
def tw6192831467058926709:=0
def tw15255179365975839834:=0
def tw143284923571423311:=0
def tw3948037414384798329:=0
def tw6998173077893749945:=0
def tw7093262950181439090:=0
def tw17754893291038224229:=0
def tw14264353826844203486:=0
def tw5845739333910098421:=0
def tw12141684166912116357:=0
def tw4282167826182213022:=0
def tw13790778301025936893:=0
def tw9562539152087585609:=0
def tw7907093055799156956:=0
def tw1708553402496460525:=0
def tw4413954268632489959:=0
def tw3220571576334774329:=0
def tw8223215530514425552:=0
def tw14420909803260650221:=0
def tw13754840793959060775:=0
def tw15051512388832800647:=0
def tw17374900028712088237:=0
def tw11361014601027528202:=0
def tw8207178107155573567:=0
def tw9231920787183479239:=0
def tw8052959323631419472:=0
def tw4659050035528354786:=0
def tw516848368717520746:=0
def tw4526749454650956689:=0
def tw7003191101467471963:=0
def tw18097092070081999508:=0
def tw4218208316356302093:=0
def tw4918533184437834250:=0
def tw17966188509685086146:=0
def tw3739303311182059821:=0
def tw5392590732324175192:=0
def tw7578421052216705096:=0
def tw12380889676054629872:=0
def tw3634003081918385064:=0
def tw13530535673149249088:=0
def tw1665781842711566143:=0
def tw1576931669812105823:=0
def tw11731871421448774006:=0
def tw10364115146404292018:=0
def tw9887218070207023058:=0
def tw15592250066024178248:=0
def tw1884506744441655980:=0
def tw10301270552481462694:=0
def tw11770983859518007279:=0
def tw1311179928797520715:=0
def tw2258041802375075537:=0
def tw2689297416459531116:=0
def tw7837703992830841890:=0
def tw13625404851745011655:=0
def tw17694643734766547812:=0
def tw17270375804050517830:=0
def tw14607646833357350962:=0
def tw1144482173907568371:=0
def tw18200497235692868880:=0
def tw10674895751845094765:=0
def tw16344898883756153589:=0
def tw4115052400547112024:=0
def tw17312537461381294479:=0
def tw3751055268622858103:=0
def tw14421855766656204971:=0
def tw7777510759339134623:=0
def tw18046931715566246566:=0
def tw14782108939629426716:=0
def tw10807040698722438073:=0
def tw3033831801553212281:=0
def tw10103718313333003324:=0
def tw15997497677867631779:=0
def tw3773033326759345804:=0
def tw14820786649676519494:=0
def tw14976076381812353961:=0
def tw7763369611107589366:=0
def tw15491041229811763840:=0
def tw5951311177727564318:=0
def tw8544219593743113533:=0
def tw17726716556644093976:=0
def tw10680933141872780220:=0
def tw9960422244509422522:=0
def tw9508945289782410114:=0
def tw5654537081342835745:=0
def tw14060242747286480526:=0
def tw8390840769942810056:=0
def tw14127283645936712444:=0
def tw1273970990288344038:=0
def tw6022468222540249516:=0
def tw6106080317886428010:=0
def tw882171291341944352:=0
def tw9863965879522497062:=0
def tw18298113085137511050:=0
def tw16908030161214973326:=0
def tw17177208240492054960:=0
def tw15801094215899889302:=0
def tw6686129924560630180:=0
def tw5573102773596514909:=0
def tw8338402036893457456:=0
def tw6701821433068145185:=0
def tw16175824815749294418:=0
def tw2352390714251501374:=0
def tw18412578513653363932:=0
def tw6680217340977978345:=0
def tw16595962954157790350:=0
def tw15445977813187554617:=0
def tw9669623014965908735:=0
def tw4502853653689002127:=0
def tw7100880293047501152:=0
def tw17097207253666686150:=0
def tw15574891604273760486:=0
def tw18155668910687353105:=0
def tw14805970128878205415:=0
def tw3622692957401161435:=0
def tw11953114570295324886:=0
def tw9159415969361138470:=0
def tw507967915205942740:=0
def tw14393154149994798422:=0
def tw10538176333806063414:=0
def tw17423347054139156659:=0
def tw14083901589421870242:=0
def tw17555361052877589153:=0
def tw11753501416077187952:=0
def tw9369123823528393891:=0
def tw15603770508691155977:=0
def tw6348753299805704880:=0
def tw4798682969957325907:=0
def tw2687275484377862474:=0
def tw8942381223266084586:=0
def tw8693045213901916164:=0
def tw7977296224075872190:=0
def tw3727628625595886731:=0
def tw14327510795093357049:=0
def tw2177784353068313544:=0
def tw70203456843647178:=0
def tw2692976203182538071:=0
def tw3366504018910217732:=0
def tw14059076205433091961:=0
def tw15325016183015621028:=0
def tw17232222217154609076:=0
def tw15048843664758795775:=0
def tw4505439055155723498:=0
def tw7135736631106536132:=0
def tw14892600017224550639:=0
def tw12217232428104675386:=0
def tw2333172026270593100:=0
def tw2976018909230527913:=0
def tw15636355915876979282:=0
def tw4076224153912951596:=0
def tw1951130754237504830:=0
def tw4088447819796714312:=0
def tw4275753678818907769:=0
def tw7130840476604942324:=0
def tw4851483905876048088:=0
def tw6830295709969467220:=0
def tw2604920214274451140:=0
def tw4825878528200558554:=0
def tw13718891245295154082:=0
def tw9150835991830148859:=0
def tw11376488662279930904:=0
def tw2288750129890501874:=0
def tw1859385087542336565:=0
def tw4936744338092477823:=0
def tw12465529114781426746:=0
def tw13792317582994437288:=0
def tw16909177685817011347:=0
def tw17680997105011832723:=0
def tw863823567599944578:=0
def tw3654736339078760991:=0
def tw7247195849502962260:=0
def tw12224080503135382650:=0
def tw17774687495578911286:=0
def tw1333231413146427223:=0
def tw16493890774146670649:=0
def tw11457841503867778164:=0
def tw3453603738481358867:=0
def tw11524653929696349228:=0
def tw3388162089794561812:=0
def tw15892003021417281165:=0
def tw11069544294182041047:=0
def tw5046290001266946003:=0
def tw3490580448894356852:=0
def tw8521266866469100799:=0
def tw16242800186634668036:=0
def tw3074070626613974490:=0
def tw241291799450832874:=0
def tw1217285853111030740:=0
def tw17555849009023781921:=0
def tw8913859409206640210:=0
def tw2454274330468748283:=0
def tw5295828316749385240:=0
def tw1209111551467242323:=0
def tw505091101564070555:=0
def tw9141799801876516322:=0
def tw11574090905775297878:=0
def tw5682043826645604123:=0
def tw8343544800564972255:=0
def tw537191390683797288:=0
def tw13353082217620792261:=0
def tw10701725012181344303:=0
def tw18346292962901897194:=0
def tw14396817191751697279:=0
def tw5978277926912492488:=0
def tw9848841814453010056:=0
def tw17144588738787231797:=0
def tw17719926840250426397:=0
def tw12314804615316623373:=0
def tw5399554525106428148:=0
def tw5157271811786317514:=0
def tw9859963160525033489:=0
def tw15575923862336828042:=0
def tw16004078375553390071:=0
def tw2092368519514064423:=0
def tw13819213708679124398:=0
def tw9626876924624162578:=0
def tw41751203857261217:=0
def tw10738620482475784401:=0
def tw7146014370261328290:=0
def tw12327385141134591290:=0
def tw14153705453301998492:=0
def tw1394319726485918915:=0
def tw526293828210653540:=0
def tw9706999373307267840:=0
def tw12660002980267250443:=0
def tw34659149869082097:=0
def tw18045847437897929598:=0
def tw8178686045324323283:=0
def tw17620979756639056585:=0
def tw18419972876238354875:=0
def tw8039196895630852056:=0
def tw3632152591463141572:=0
def tw13240937614143820019:=0
def tw10258063784608589414:=0
def tw10188104894290770034:=0
def tw13346094705366415562:=0
def tw18144841321121949176:=0
def tw6453604280640777616:=0
def tw11892311546150964586:=0
def tw5282217430969160330:=0
def tw12158531448548037472:=0
def tw609370459881126805:=0
def tw4497814340668837025:=0
def tw9976122878866666836:=0
def tw4664002742714693338:=0
def tw275929853804234425:=0
def tw8067717584821680400:=0
def tw3130568507022758123:=0
def tw14322950128673979428:=0
def tw16478253944429940298:=0
def tw10477458859883326404:=0
def tw4183066553771132698:=0
def tw3808062360000198244:=0
def tw14315113130796192185:=0
def tw259191830314886075:=0
def tw1174448123562470480:=0
def tw7933022048400143603:=0
def tw5585914483162189097:=0
def tw10298961483610402939:=0
def tw15172388538068620967:=0
def tw3456134460211548782:=0
def tw6982479527502485970:=0
def tw16132306185860654441:=0
def tw2043314314757158775:=0
def tw1505258021281845383:=0
def tw8025581978104615594:=0
def tw10742935890767205524:=0
def tw11789948464555037347:=0
def tw625798127845348491:=0
def tw3954354192019314477:=0
def tw1133262199476227335:=0
def tw7147327349471894705:=0
def tw2258637623737666098:=0
def tw12717295424210674090:=0
def tw2540989413580010399:=0
def tw8501012547035469782:=0
def tw4631638540143541116:=0
def tw7331880683599900220:=0
def tw6537630231449921921:=0
def tw17805951309762373049:=0
def tw17216046075445175986:=0
def tw9139893311540498769:=0
def tw2235944080977547908:=0
def tw16497036087996912915:=0
def tw2405499593369046529:=0
def tw16541883165417661130:=0
def tw5963517905092160961:=0
end PySem.W.Fast
open PySem PySem.W PyProof.Rows
set_option maxRecDepth 100000 in
set_option maxHeartbeats 0 in
theorem PySem.Challenge.cw_shadowpost_k64_whole_no_walk_costs_less_holds : PySem.Challenge.rw_shadowpost_k64_whole_no_walk_costs_less.Holds := by
 w_on;o_law;k_head;(case hw=>w_witness2)
 k_fill
 refine T.Z0r (l:=PySem.Challenge.rw_shadowpost_k64_whole_no_walk_costs_less) rfl rfl (λw h Y=>by first|exact PySem.W.kIn_of Y|exact PySem.W.km_in_of Y) ?F ?hnt ?hrec
 case hnt=>intro w;kernel_rfl
 case hrec=>
  intro y hy
  have e:y=PySem.Str.ofString "best_step" := by simpa[L2.lams] using hy
  subst e
  exact⟨_,rfl⟩
 case F=>
  intro w mg fa h KX G hmg
  refine' T.Z36 (a:=T.Gm.mk) (T.Tx.mk (mg_of KX G ?_) (mg_of KX G ?_) (mg_of KX G ?_) (mg_of KX G ?_) (mg_of KX G ?_) (mg_of KX G ?_) (mg_of KX G ?_) (P.ĩ KX G (λ_ _ _ _ _ _ _ _=>rfl) ?_ ?_ ?_ ?_) (P.m_ (λ_ _ _ _ _ _ _ _ _ _ _=>rfl) ?_ ?_ ?_ ?_) (P.ĩ KX G (λ_ _ _ _ _ _ _ _=>rfl) ?_ ?_ ?_ ?_) (P.ĩ KX G (λ_ _ _ _ _ _ _ _=>rfl) ?_ ?_ ?_ ?_) (P.ĩ KX G (λ_ _ _ _ _ _ _ _=>rfl) ?_ ?_ ?_ ?_) (P.ĩ KX G (λ_ _ _ _ _ _ _ _=>rfl) ?_ ?_ ?_ ?_) (P.ĩ KX G (λ_ _ _ _ _ _ _ _=>rfl) ?_ ?_ ?_ ?_) (P.ĩ KX G (λ_ _ _ _ _ _ _ _=>rfl) ?_ ?_ ?_ ?_) (P.ĩ KX G (λ_ _ _ _ _ _ _=>rfl) ?_ ?_ ?_ ?_) (P.ĩ KX G (λ_ _ _ _ _ _ _=>rfl) ?_ ?_ ?_ ?_) (P.ĩ KX G (λ_ _ _ _ _ _ _ _=>rfl) ?_ ?_ ?_ ?_) (P.ĩ KX G (λ_ _ _ _ _ _ _ _=>rfl) ?_ ?_ ?_ ?_) (P.ĩ KX G (λ_ _ _ _ _ _ _=>rfl) ?_ ?_ ?_ ?_) (P.ĩ KX G (λ_ _ _ _ _ _ _=>rfl) ?_ ?_ ?_ ?_) (P.ĩ KX G (λ_ _ _ _ _ _ _ _=>rfl) ?_ ?_ ?_ ?_) (P.ĩ KX G (λ_ _ _ _ _ _ _ _ _ _ _=>rfl) ?_ ?_ ?_ ?_) (P.ĩ KX G (λ_ _ _ _ _ _ _ _ _ _ _=>rfl) ?_ ?_ ?_ ?_) (P.m_ (λ_ _ _ _ _ _ _=>rfl) ?_ ?_ ?_ ?_) (P.m_ (λ_ _ _ _ _ _ _=>rfl) ?_ ?_ ?_ ?_) (P.m_ (λ_ _ _ _ _ _ _=>rfl) ?_ ?_ ?_ ?_) (P.m_ (λ_ _ _ _ _ _ _=>rfl) ?_ ?_ ?_ ?_) (P.m_ (λ_ _ _ _ _ _ _=>rfl) ?_ ?_ ?_ ?_) (P.ĩ KX G (λ_ _ _ _ _ _ _ _=>rfl) ?_ ?_ ?_ ?_) (P.ĩ KX G (λ_ _ _ _ _ _ _ _=>rfl) ?_ ?_ ?_ ?_) (P.ĩ KX G (λ_ _ _ _ _ _ _ _ _ _=>rfl) ?_ ?_ ?_ ?_) (P.ĩ KX G (λ_ _ _ _ _ _ _ _ _=>rfl) ?_ ?_ ?_ ?_) (P.ĩ KX G (λ_ _ _ _ _ _ _ _=>rfl) ?_ ?_ ?_ ?_) (P.ĩ KX G (λ_ _ _ _ _ _ _ _=>rfl) ?_ ?_ ?_ ?_) (P.ĩ KX G (λ_ _ _ _ _ _ _ _=>rfl) ?_ ?_ ?_ ?_) (P.ĩ KX G (λ_ _ _ _ _ _ _ _=>rfl) ?_ ?_ ?_ ?_) (P.ĩ KX G (λ_ _ _ _ _ _ _ _ _=>rfl) ?_ ?_ ?_ ?_) (P.ĩ KX G (λ_ _ _ _ _ _ _ _ _ _=>rfl) ?_ ?_ ?_ ?_) (P.ĩ KX G (λ_ _ _ _ _ _ _ _ _ _=>rfl) ?_ ?_ ?_ ?_) (P.ĩ KX G (λ_ _ _ _ _ _ _ _ _=>rfl) ?_ ?_ ?_ ?_) (P.ĩ KX G (λ_ _ _ _ _ _ _ _ _ _=>rfl) ?_ ?_ ?_ ?_) (P.ĩ KX G (λ_ _ _ _ _ _ _ _ _ _=>rfl) ?_ ?_ ?_ ?_) (P.ĩ KX G (λ_ _ _ _ _ _ _ _=>rfl) ?_ ?_ ?_ ?_) (P.ĩ KX G (λ_ _ _ _ _ _ _ _=>rfl) ?_ ?_ ?_ ?_) (P.ĩ KX G (λ_ _ _ _ _ _ _=>rfl) ?_ ?_ ?_ ?_) (P.ĩ KX G (λ_ _ _ _ _ _ _ _=>rfl) ?_ ?_ ?_ ?_) (P.ĩ KX G (λ_ _ _ _ _ _ _ _=>rfl) ?_ ?_ ?_ ?_) (P.ĩ KX G (λ_ _ _ _ _ _ _ _=>rfl) ?_ ?_ ?_ ?_) (P.ĩ KX G (λ_ _ _ _ _ _ _=>rfl) ?_ ?_ ?_ ?_) (P.ĩ KX G (λ_ _ _ _ _ _ _=>rfl) ?_ ?_ ?_ ?_) (P.ĩ KX G (λ_ _ _ _ _ _ _=>rfl) ?_ ?_ ?_ ?_) (P.m_ (λ_ _ _ _ _ _ _ _ _=>rfl) ?_ ?_ ?_ ?_) (P.ĩ KX G (λ_ _ _ _ _ _ _=>rfl) ?_ ?_ ?_ ?_) (P.ĩ KX G (λ_ _ _ _ _ _ _=>rfl) ?_ ?_ ?_ ?_) (P.ĩ KX G (λ_ _ _ _ _ _ _=>rfl) ?_ ?_ ?_ ?_) (P.ĩ KX G (λ_ _ _ _ _ _ _=>rfl) ?_ ?_ ?_ ?_) (P.ĩ KX G (λ_ _ _ _ _ _ _=>rfl) ?_ ?_ ?_ ?_) (P.ĩ KX G (λ_ _ _ _ _ _ _ _=>rfl) ?_ ?_ ?_ ?_) (P.ĩ KX G (λ_ _ _ _ _ _ _=>rfl) ?_ ?_ ?_ ?_) (P.ĩ KX G (λ_ _ _ _ _ _ _=>rfl) ?_ ?_ ?_ ?_) (P.ĩ KX G (λ_ _ _ _ _ _ _ _=>rfl) ?_ ?_ ?_ ?_) (P.ĩ KX G (λ_ _ _ _ _ _ _ _ _=>rfl) ?_ ?_ ?_ ?_) (P.ĩ KX G (λ_ _ _ _ _ _ _ _=>rfl) ?_ ?_ ?_ ?_) (P.ĩ KX G (λ_ _ _ _ _ _ _ _ _ _ _=>rfl) ?_ ?_ ?_ ?_) (P.ĩ KX G (λ_ _ _ _ _ _ _ _ _=>rfl) ?_ ?_ ?_ ?_) (P.ĩ KX G (λ_ _ _ _ _ _ _=>rfl) ?_ ?_ ?_ ?_) (mg_of KX G ?_) (mg_of KX G ?_) (mg_of KX G ?_) (mg_none_of KX G ?_) (mg_none_of KX G ?_) (mg_none_of KX G ?_) (mg_none_of KX G ?_) (mg_none_of KX G ?_) (mg_none_of KX G ?_) (mg_none_of KX G ?_) (mg_none_of KX G ?_) (mg_none_of KX G ?_) (mg_none_of KX G ?_) (P.iW ?_) (P.mZ ?_) ?_ ?_ ?_ ?_ (P.iW ?_) (P.mZ ?_) ?_ ?_ (P.iW ?_) (P.mZ ?_) ?_ ?_ (P.jo ?_) (P.iW ?_) (P.mZ ?_) ?_ ?_ (P.jo ?_) (P.iW ?_) (P.mZ ?_) ?_ ?_ (P.jo ?_) (P.iW ?_) (P.mZ ?_) ?_ ?_ (P.jo ?_) (P.iW ?_) (P.mZ ?_) ?_ ?_ (P.jo ?_) ?_ ?_) hmg
  any_goals (dsimp only;k_is)
  any_goals first|kernel_rfl|(unfold L2.ĳ;kernel_rfl)
  all_goals skip
