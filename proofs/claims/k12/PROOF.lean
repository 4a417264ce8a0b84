import PyProof.Rows.All
import Wide.All
import OpenK.AllK
import Wide.FinOn
import Lean
import PyProof.EqAt
import PyProof.EqKinds
import PyProof.TupleCall
import PySem.Challenge.RW_shadowpost_k12_sets_of_stones
set_option Elab.async false
set_option linter.all false
set_option maxRecDepth 100000
set_option maxHeartbeats 4000000
namespace L2
open PySem PySem.Spec PyProof.Rows
abbrev Key:=Sum Int Str
def ur:Key->Value->Bool
 | .inl k,v=>Value.isInt k v
 | .inr x,v=>Value.isStrOf x v
def DR(w:World):Key->Int
 | .inl k=>hashInt k
 | .inr x=>hashStr w x
theorem đ:∀{k:Key} {v:Value},ur k v=true->(∃i t,k=Sum.inl i/\v=Value.int i t)\/(∃x t,k=Sum.inr x/\v=Value.str x t)
 | .inl i,v,h=>by
   obtain⟨t,e⟩:=Value.isInt_shape (k:=i) (v:=v) h
   exact .inl ⟨i,t,rfl,e⟩
 | .inr x,v,h=>by
   obtain⟨t,e⟩:=Value.isStrOf_shape (x:=x) (v:=v) h
   exact .inr ⟨x,t,rfl,e⟩
def vg(a b:Int):decide ((Sum.inl a:Key)=Sum.inl b)=(a== b):=by
 by_cases e:a=b
 ·subst e;simp
 ·have h:¬(Sum.inl a:Key)=Sum.inl b:=λq=>e (Sum.inl.inj q)
  rw[decide_eq_false h]
  exact(beq_eq_false_iff_ne.mpr e).symm
def vh(a b:Str):decide ((Sum.inr a:Key)=Sum.inr b)=decide (a=b):=by
 by_cases e:a=b
 ·subst e;simp
 ·have h:¬(Sum.inr a:Key)=Sum.inr b:=λq=>e (Sum.inr.inj q)
  rw[decide_eq_false h,decide_eq_false e]
def vm(a:Int)(b:Str):decide ((Sum.inl a:Key)=Sum.inr b)=false:=decide_eq_false (λq=>nomatch q)
def vo(a:Str)(b:Int):decide ((Sum.inr a:Key)=Sum.inl b)=false:=decide_eq_false (λq=>nomatch q)
def dO(prog:Program)(w:World):PySem.KeyKind prog w Key where
 is:=ur
 hash:=DR w
 inj:=λv a b ha hb=>by
  rcases đ ha with⟨i,t,rfl,rfl⟩|⟨x,t,rfl,rfl⟩
  ·rcases đ hb with⟨j,u,rfl,e⟩|⟨y,u,rfl,e⟩
   ·injection e with e1 _;rw[e1]
   ·exact nomatch e
  ·rcases đ hb with⟨j,u,rfl,e⟩|⟨y,u,rfl,e⟩
   ·exact nomatch e
   ·injection e with e1 _;rw[e1]
 byValue:=λk v h=>by
  rcases đ h with⟨i,t,rfl,rfl⟩|⟨x,t,rfl,rfl⟩<;>rfl
 pyHash:=λhv h=>by
  rcases đ hv with⟨i,t,rfl,rfl⟩|⟨x,t,rfl,rfl⟩
  ·exact wpAny_pyHash_int h
  ·exact wpAny_pyHash_str h
 eqBool:=λhu hv h=>by
  rcases đ hu with⟨i,t,rfl,rfl⟩|⟨x,t,rfl,rfl⟩
  ·rcases đ hv with⟨j,u,rfl,rfl⟩|⟨y,u,rfl,rfl⟩
   ·rw[vg] at h;exact wpAny_eqBool_int h
   ·rw[vm] at h;exact SeqAt.EqAt.int_str i t y u _ _ _ _ h
  ·rcases đ hv with⟨j,u,rfl,rfl⟩|⟨y,u,rfl,rfl⟩
   ·rw[vo] at h;exact SeqAt.EqAt.str_int x t j u _ _ _ _ h
   ·rw[vh] at h;exact wpAny_eqBool_str h
 «strs» := fun k x t v h=>by
   rcases đ h with⟨i,u,rfl,e⟩|⟨y,u,rfl,e⟩
   ·exact nomatch e
   ·injection e with e1 _
    subst e1
    cases v<;>rfl
end L2
namespace L2
open PySem PySem.Spec PyProof.Rows
inductive V where
 |non|bl (b:Bool)|int (i:Int)|str (x:Str)|vp (b:Array UInt8)|flt (b:UInt64)|ref (a:Addr)|ty (n:String)
 deriving DecidableEq
def RelV:V->Value->Prop
 | .non,u=>u=Value.none
 | .bl b,u=>u=Value.bool b
 | .int i,u=>∃t,u=Value.int i t
 | .str x,u=>∃t,u=Value.str x t
 | .vp b,u=>∃t,u=Value.bytes b t
 | .flt b,u=>∃t,u=Value.float b t
 | .ref a,u=>u=Value.ref a
 | .ty n,u=>u=Value.type n
abbrev Vals:List V->List Value->Prop:=Paired RelV
theorem Vals.length{xs:List V}{us:List Value}(r:Vals xs us):xs.length=us.length:=Paired.length r
theorem Vals.get:∀{xs:List V} {us:List Value} {i:Nat} {x:V},Vals xs us->xs[i]?=some x->∃u,us[i]?=some u/\RelV x u
 |_,_,_,_,.nil,e=>by simp at e
 |_,_,0,_,.cons r _,e=>by simp at e;subst e;exact⟨_,rfl,r⟩
 |_,_,i+1,x,.cons _ t,e=>by
  obtain⟨u,h1,h2⟩:=Vals.get (i:=i) (x:=x) t (by simpa using e)
  exact⟨u,by simpa using h1,h2⟩
theorem Vals.append:∀{xs ys:List V} {us ws:List Value},Vals xs us->Vals ys ws->Vals (xs++ys) (us++ws)
 |_,_,_,_,.nil,s=>s
 |_,_,_,_,.cons r t,s=>.cons r (Vals.append t s)
theorem Vals.take:∀{xs:List V} {us:List Value} (n:Nat),Vals xs us->Vals (xs.take n) (us.take n)
 |_,_,0,_=>.nil
 |_,_,_+1,.nil=>.nil
 |_,_,n+1,.cons r t=>.cons r (Vals.take n t)
theorem Vals.drop:∀{xs:List V} {us:List Value} (n:Nat),Vals xs us->Vals (xs.drop n) (us.drop n)
 |_,_,0,r=>r
 |_,_,_+1,.nil=>.nil
 |_,_,n+1,.cons _ t=>Vals.drop n t
def vq:Option V->Option Value->Prop
 |some v,some u=>RelV v u
 |none,none=>True
 |_,_=>False
def KV{κ:Type}:List (κ×V)->List (κ×Value)->Prop:=Paired λ(p:κ×V) (q:κ×Value)=>p.1=q.1/\RelV p.2 q.2
def kV:Key->V
 | .inl i=>.int i
 | .inr x=>.str x
inductive HO where
 /-- a list -/
 |lst (xs:List V)
 /-- a tuple (never changes) -/
 |tup (xs:List V)
 /-- a dict whose keys are ints and texts;one whose keys are tuples of ints and texts (the empty one is both) -/
 |dK (kvs:List (Key×V))|dT (kvs:List (List Key×V))
 /-- a set of ints:its members,its size -/
 |set (S:Int->Bool) (n:Nat)
 /-- an instance of the class at C,its dict at dx,its attributes -/
 |ins (C dx:Addr) (fs:List (Str×V))
 /-- the dict of the instance at x -/
 |own (x:Addr)
 /-- the dict of an exception -/
 |xd (fs:List (Str×V))
 /-- a bound method,f of x -/
 |met (f x:Addr)
 /-- a range object lo,lo+1,.. below hi -/
 |rng (lo hi:Int)
 /-- a thing that is known to the object (the script;a dict while a loop walks it):read,never written while it is so -/
 |ŉ (o:Obj) (u:HO)
 /-- a code object's table -/
 |cI (q:Str)
 /-- a code made of such a table,by its name -/
 |vA (q:Str)
 /-- any other thing,by what is true of its one object (a def of one's own:Jt a S n:=HO.ext λh=>..) -/
 |ext (φ:Heap->Prop)
abbrev Hp:=Addr->Option HO
def upd(H:Hp)(a:Addr)(o:HO):Hp:=λb=>if b=a then some o else H b
def ĉ{H:Hp}{a:Addr}{o:HO}:upd H a o a=some o:=by unfold upd;rw[if_pos rfl]
def Ą{H:Hp}{a b:Addr}{o:HO}(h:b≠a):upd H a o b=H b:=by unfold upd;rw[if_neg h]
def Ē{H:Hp}{a b:Addr}{o:HO}(h:H a=some o)(h':H b=none):a≠b:=by
 intro e;subst e;rw[h] at h';cases h'
section
variable(P:Program)(w:World)
def Ĥ(H:Hp)(h:Heap)(a:Addr):HO->Prop
 | .lst xs=>xs.length<=sizeLine/\∃(its:List Value) (n:Nat),Vals xs its/\h.get? a=some {cls:=.type "list",data:=.seq its.toArray n}
 | .tup xs=>xs.length<=sizeLine/\∃its:List Value,Vals xs its/\IsTup h a its.toArray
 | .dK kvs=>kvs.length<=sizeLine/\(a== sysModules)=false/\∃vs,KV kvs vs/\h.DictOf (dO P w) a vs
 | .dT kvs=>kvs.length≤sizeLine∧(a== sysModules)=false∧∃xs:List (List Key×Addr×Value),
     Paired (λ(p:List Key×V) (q:List Key×Addr×Value)=>p.1=q.1/\H q.2.1=some (.tup (p.1.map kV))/\RelV p.2 q.2.2) kvs xs/\
     ∃o es ep,h.get? a=some o/\o.ExactDict/\o.data=.dict es ep/\es.toList=xs.map (entryOfKey (tupleKind (dO P w)))/\(xs.map (·.1)).Nodup
 | .set S n=>h.SetOf (intKind P w) a S n
 | .ins C dx fs=>H dx=some (.own a)∧fs.length≤1000∧dx≠a∧h.get? a=some (PySem.W.instObj C dx)∧
     ∃mA,h.Ns1 dx mA/\(∀f,vq (fs.lookup f) (mA f))/\PySem.Within mA (fs.map (·.1))
 | .own _=>∃o,h.get? a=some o
 | .xd fs=>∃mA,h.Ns1 a mA/\∀f,vq (fs.lookup f) (mA f)
 | .rng lo hi=>∃t u v,h.get? a=some {cls:=.type "range",data:=.fields #[.int lo t,.int hi u,.int 1 v]}
 | .ŉ o u=>h.get? a=some o/\Ĥ H h a u
 | .cI q=>∃ps:Array Value,h.get? a=some {cls:=.none,data:=.fields ps}/\TriplesOk ps.toList/\∀pos cv,codeAmong pos ps.toList=some cv->∃c,cv=.ref c/\H c=some (.vA q)
 | .vA q=>h.CodeRec (.ref a) q
 | .met f x=>h.get? a=some (PySem.W.methodObj (.ref f) (.ref x))
 | .ext φ=>φ h/\(∃o,h.get? a=some o)/\∀h1 h2:Heap,φ h1->(∀o,h1.get? a=some o->h2.get? a=some o)->φ h2
def Ż(H:Hp)(h:Heap):Prop:=∀a o,H a=some o->Ĥ P w H h a o
end
section
variable{P:Program}{w:World}{H H':Hp}{h h':Heap}{a:Addr}{o:HO}
theorem Ĥ.lt(x:Ĥ P w H h a o):a<h.objs.size:=by
 cases o with
 |lst xs=>obtain⟨_,_,_,_,e⟩:=x;exact Heap.lt_size e
 |tup xs=>obtain⟨_,_,_,p⟩:=x;exact p.lt
 |dK kvs=>obtain⟨_,_,_,_,o,_,_,e,_⟩:=x;exact Heap.lt_size e
 |dT kvs=>obtain⟨_,_,_,_,o,_,_,e,_⟩:=x;exact Heap.lt_size e
 |set S n=>obtain⟨o,_,_,_,e,_⟩:=x;exact Heap.lt_size e
 |ins C dx fs=>obtain⟨_,_,_,e,_⟩:=x;exact Heap.lt_size e
 |own y=>obtain⟨_,e⟩:=x;exact Heap.lt_size e
 |xd fs=>obtain⟨_,⟨_,_,_,e,_⟩,_⟩:=x;exact Heap.lt_size e
 |rng lo hi=>obtain⟨_,_,_,e⟩:=x;exact Heap.lt_size e
 |ŉ ob u=>obtain⟨e,_⟩:=x;exact Heap.lt_size e
 |cI q=>obtain⟨_,e,_⟩:=x;exact Heap.lt_size e
 |vA q=>obtain⟨c,o,_,_,z,e,_⟩:=x;cases z;exact Heap.lt_size e
 |met f y=>exact Heap.lt_size (show h.get? a=some _ from x)
 |ext φ=>obtain⟨_,⟨_,e⟩,_⟩:=x;exact Heap.lt_size e
theorem Paired.yF{α β:Type}{F G:α->β->Prop}:∀{l₁:List α} {l₂:List β},Paired F l₁ l₂->(∀a b,F a b->G a b)->Paired G l₁ l₂
 |_,_,.nil,_=>.nil
 |_,_,.cons r t,f=>.cons (f _ _ r) (Paired.yF t f)
def Ĥ.stay(x:Ĥ P w H h a o)(k:∀b u,(b=a\/H b=some (.own a))->h.get? b=some u->h'.get? b=some u)
 (ho:∀b,H b=some (.own a)->H' b=some (.own a))(ht:∀b xs,H b=some (.tup xs)->H' b=some (.tup xs))(hc:∀b q,H b=some (.vA q)->H' b=some (.vA q):=by exact λ_ _ z=>z):Ĥ P w H' h' a o:=by
 induction o with
 |lst xs=>obtain⟨z,its,n,r,e⟩:=x;exact⟨z,its,n,r,k _ _ (.inl rfl) e⟩
 |tup xs=>obtain⟨z,its,r,ob,e,c⟩:=x;exact⟨z,its,r,ob,k _ _ (.inl rfl) e,c⟩
 |dK kvs=>obtain⟨z,y,vs,r,ob,es,ep,e,c⟩:=x;exact⟨z,y,vs,r,ob,es,ep,k _ _ (.inl rfl) e,c⟩
 |dT kvs=>
  obtain⟨z,y,xs,r,ob,es,ep,e,c⟩:=x
  exact⟨z,y,xs,Paired.yF r λp q z=>⟨z.1,ht _ _ z.2.1,z.2.2⟩,ob,es,ep,k _ _ (.inl rfl) e,c⟩
 |set S n=>obtain⟨ob,es,ep,t,e,c⟩:=x;exact⟨ob,es,ep,t,k _ _ (.inl rfl) e,c⟩
 |ins C dx fs=>
  obtain⟨d,z,ne,e,mA,⟨od,es,ep,e2,c⟩,r⟩:=x
  exact⟨ho _ d,z,ne,k _ _ (.inl rfl) e,mA,⟨od,es,ep,k _ _ (.inr d) e2,c⟩,r⟩
 |own y=>obtain⟨ob,e⟩:=x;exact⟨ob,k _ _ (.inl rfl) e⟩
 |xd fs=>obtain⟨mA,⟨od,es,ep,e,c⟩,r⟩:=x;exact⟨mA,⟨od,es,ep,k _ _ (.inl rfl) e,c⟩,r⟩
 |rng lo hi=>obtain⟨t,u,v,e⟩:=x;exact⟨t,u,v,k _ _ (.inl rfl) e⟩
 |ŉ ob u ih=>obtain⟨e,q⟩:=x;exact⟨k _ _ (.inl rfl) e,ih q⟩
 |cI q=>
  obtain⟨ps,e,t,r⟩:=x
  exact⟨ps,k a _ (.inl rfl) e,t,λpos cv z=>let ⟨c,z1,z2⟩:=r pos cv z;⟨c,z1,hc c q z2⟩⟩
 |vA q=>
  obtain⟨c,o,vs,t,z,e,r⟩:=x
  cases z
  exact⟨a,o,vs,t,rfl,k a _ (.inl rfl) e,r⟩
 |met f y=>
  have e:h.get? a=some (PySem.W.methodObj (.ref f) (.ref y)):=x
  show h'.get? a=some (PySem.W.methodObj (.ref f) (.ref y))
  exact k a _ (.inl rfl) e
 |ext φ=>obtain⟨p,⟨o,e⟩,st⟩:=x;exact⟨st _ _ p λo q=>k _ _ (.inl rfl) q,⟨o,k _ _ (.inl rfl) e⟩,st⟩
theorem Ż.lt(x:Ż P w H h)(e:H a=some o):a<h.objs.size:=(x a o e).lt
def Ż.fresh(x:Ż P w H h)(e:h.objs.size<=a):H a=none:=by
 cases q:H a with
 |none=>rfl
 |some u=>exact absurd (Nat.lt_of_lt_of_le (x.lt q) e) (Nat.lt_irrefl _)
def Ż.kept(x:Ż P w H h)(k:∀b u,h.get? b=some u->h'.get? b=some u):Ż P w H h':=λa o e=>
 (x a o e).stay (λb u _ q=>k b u q) (λ_ q=>q) λ_ _ q=>q
def Ż.laid(x:Ż P w H h)(k:∀b u,h.get? b=some u->h'.get? b=some u)(hp:h.objs.size<=a)(new:Ĥ P w (upd H a o) h' a o):Ż P w (upd H a o) h':=λb u e=>by
 have hn:=x.fresh hp
 by_cases hb:b=a
 ·subst hb;rw[ĉ] at e;cases e;exact new
 ·rw[Ą hb] at e
  exact(x b u e).stay (λc v _ q=>k c v q) (λc q=>by rw[Ą (Ē q hn)];exact q) (λc xs q=>by rw[Ą (Ē q hn)];exact q) λc xs q=>by rw[Ą (Ē q hn)];exact q
end
def Rd(H:Hp)(a:Addr)(u:HO):Prop:=H a=some u\/∃o,H a=some (.ŉ o u)
def Rd.ok{P:Program}{w:World}{H:Hp}{h:Heap}{a:Addr}{u:HO}(r:Rd H a u)(x:Ż P w H h):Ĥ P w H h a u:=by
 rcases r with r|⟨o,r⟩
 ·exact x a u r
 ·obtain⟨_,q⟩:=x a _ r
  exact q
def Cw:Option HO->Prop
 |some (.lst _)=>True
 |some (.dK _)=>True
 |some (.dT _)=>True
 |some (.set _ _)=>True
 |some (.ins _ _ _)=>True
 |some (.ext _)=>True
 |some (.xd _)=>True
 |_=>False
section
variable{P:Program}{w:World}{H:Hp}{h h':Heap}{x e:Addr}{o':HO}
def Ż.write(ok:Ż P w H h)(mu:Cw (H x))(he:e=x\/H e=some (.own x))(k:∀b u,b≠e->h.get? b=some u->h'.get? b=some u)(heo:∃u,h'.get? e=some u)
 (new:Ĥ P w (upd H x o') h' x o'):Ż P w (upd H x o') h':=λb u q=>by
 have yG:∀c y,H c=some (.own y)->c≠x:=λc y r z=>by subst z;rw[r] at mu;exact mu
 have DW:∀c xs,H c=some (.tup xs)->c≠x:=λc xs r z=>by subst z;rw[r] at mu;exact mu
 have DX:∀c q,H c=some (.vA q)->c≠x:=λc xs r z=>by subst z;rw[r] at mu;exact mu
 by_cases hb:b=x
 ·subst hb;rw[ĉ] at q;cases q;exact new
 ·rw[Ą hb] at q
  by_cases hbe:b=e
  ·have q':H b=some (.own x):=by
    rcases he with z|z
    ·exact absurd (hbe.trans z) hb
    ·rw[hbe];exact z
   rw[q] at q';cases q'
   obtain⟨v,hv⟩:=heo
   exact⟨v,by rw[hbe];exact hv⟩
  ·refine(ok b u q).stay (λc v hc r=>k c v ?_ r) (λc r=>by rw[Ą (yG c b r)];exact r) (λc xs r=>by rw[Ą (DW c xs r)];exact r) λc xs r=>by rw[Ą (DX c xs r)];exact r
   rcases hc with rfl|hc
   ·exact hbe
   ·rintro rfl
    rcases he with z|z
    ·exact yG c b hc z
    ·rw[hc] at z;cases z;exact hb rfl
end
structure Un(fs ex:List Addr)(H H':Hp)(h h':Heap):Prop where
 keep:∀b o,h.get? b=some o->H b=none->b∉fs->b∉ex->h'.get? b=some o
 slot:∀b o,h.get? b=some o->H b=none->b∈fs->b∉ex->∃sl,h'.get? b=some {o with slots:=sl}
 free:∀b o,h.get? b=some o->H b=none->b∉ex->H' b=none
 there:∀b o,h.get? b=some o->b∉ex->∃o',h'.get? b=some o'
 tups:∀b xs,H b=some (.tup xs)->H' b=some (.tup xs)
 cM:∀b o u,H b=some (.ŉ o u)->H' b=some (.ŉ o u)
 aW:∀b q,H b=some (.cI q)->H' b=some (.cI q)
section
variable{fs fs' ex ex':List Addr}{H H1 H2:Hp}{h h1 h2 h':Heap}{a x e:Addr}{o:HO}
def Un.any(u:Un fs ex H H1 h h1){b:Addr}{ob:Obj}(q:h.get? b=some ob)(n:H b=none)(hx:b∉ex):∃sl,h1.get? b=some {ob with slots:=sl}:=by
 by_cases hb:b∈fs
 ·exact u.slot b ob q n hb hx
 ·exact⟨ob.slots,u.keep b ob q n hb hx⟩
def Un.kept(k:∀b u,h.get? b=some u->h'.get? b=some u):Un fs ex H H h h':=
 ⟨λb ob q _ _ _=>k b ob q,λb ob q _ _ _=>⟨ob.slots,k b ob q⟩,λ_ _ _ n _=>n,λb ob q _=>⟨ob,k b ob q⟩,λ_ _ q=>q,λ_ _ _ q=>q,λ_ _ q=>q⟩
def Un.refl:Un fs ex H H h h:=Un.kept λ_ _ q=>q
def Un.laid(k:∀b u,h.get? b=some u->h'.get? b=some u)(hp:h.objs.size<=a)(hn:H a=none):Un fs ex H (upd H a o) h h' where
 keep:=λb u q _ _ _=>k b u q
 slot:=λb u q _ _ _=>⟨u.slots,k b u q⟩
 free:=λb u q n _=>by rw[Ą (Nat.ne_of_lt (Nat.lt_of_lt_of_le (Heap.lt_size q) hp))];exact n
 there:=λb u q _=>⟨u,k b u q⟩
 tups:=λb xs q=>by rw[Ą (Ē q hn)];exact q
 cM:=λb u xs q=>by rw[Ą (Ē q hn)];exact q
 aW:=λb ps q=>by rw[Ą (Ē q hn)];exact q
def Un.write(mu:Cw (H x))(he:e=x\/H e=some (.own x))(k:∀b u,b≠e->h.get? b=some u->h'.get? b=some u)(heo:∃u,h'.get? e=some u):Un fs ex H (upd H x o) h h':=by
 have hx:∀b,H b=none->b≠x:=λb n z=>by subst z;rw[n] at mu;exact mu
 have hb:∀b,H b=none->b≠e:=λb n z=>by
  subst z
  rcases he with r|r
  ·exact hx b n r
  ·rw[n] at r;cases r
 have hm:∀b u,H b=some u->¬Cw (some u)->b≠x:=λb u q nm z=>by subst z;rw[q] at mu;exact nm mu
 refine⟨λb u q n _ _=>k b u (hb b n) q,λb u q n _ _=>⟨u.slots,k b u (hb b n) q⟩,λb u q n _=>by rw[Ą (hx b n)];exact n,λb u q _=>?_,
  λb xs q=>by rw[Ą (hm b _ q λz=>z)];exact q,λb u xs q=>by rw[Ą (hm b _ q λz=>z)];exact q,λb ps q=>by rw[Ą (hm b _ q λz=>z)];exact q⟩
 by_cases hbe:b=e
 ·subst hbe;exact heo
 ·exact⟨u,k b u hbe q⟩
end
def Cy(h:Heap)(H:Hp):List Addr:=(List.range h.objs.size).filter λa=>(H a).isSome
def cO(h:Heap)(H:Hp):Heap:=PySem.W.hideAll h (Cy h H)
def kY(h:Heap)(H:Hp):(cO h H).objs.size=h.objs.size:=PySem.W.hideAll_size _ _
def mF{h:Heap}{H:Hp}{b:Addr}{o:Obj}(e:h.get? b=some o)(n:H b=none):(cO h H).get? b=some o:=
 PySem.W.hideAll_get _ e λhm=>by
  have q:(H b).isSome=true:=(List.mem_filter.mp hm).2
  rw[n] at q;simp at q
def qI{h:Heap}{H:Hp}{b:Addr}{o:Obj}(e:(cO h H).get? b=some o):h.get? b=some o/\H b=none:=by
 have e':h.get? b=some o:=PySem.W.of_hideAll (Cy h H) e
 refine⟨e',?_⟩
 cases q:H b with
 |none=>rfl
 |some x=>
  have hm:b∈Cy h H:=List.mem_filter.mpr ⟨List.mem_range.mpr (Heap.lt_size e'),by simp[q]⟩
  have z:(cO h H).get? b=none:=PySem.W.hideAll_none (Cy h H) hm
  rw[z] at e;cases e
def qJ(g h:Heap)(L:Addr):List (Addr×Obj):=(List.range h.objs.size).filterMap λa=>if a=L\/(g.get? a).isSome=true then none else(h.get? a).map λo=>(a,o)
def rest(g h:Heap)(L d:Addr):List (Addr×Obj):=(qJ g h L).filter λp=>decide (p.1≠d)
end L2
namespace L2
open PySem PySem.Spec PyProof.Rows
structure Mod(K:PySem.W.Frag)(mg:Str->Option Value)(base:Heap):Prop where
 DY:K.In base
 glob:base.Ns mainGlobals mg
 blt:∃mb,base.Ns builtinsNs mb/\∀x:Str,x≠ "__name__" ->mb x=bootBuiltins x
 nolimit:base.NoLimit
def lams:List Str:=[]
abbrev dR(x:Str):Str:=(x ++ ".<locals>.") ++ "<lambda>"
def TabsOk(K:PySem.W.Frag)(mg:Str->Option Value)(base:Heap)(H:Hp):Prop:=∀x c P,x∈lams->PySem.W.tabIn K x=some (c,P)->PySem.W.CodeHd base c P/\H P=some (.cI (dR x))/\base.BuiltinsAt mg P
structure Cx where
 prog:Program
 w:World
 K:PySem.W.Frag
 mg:Str->Option Value
 base:Heap
 A:Around
 N:List Str
 s₀:Shared
 H₀:Hp
 env:Env
 outer:List Env
 stack:List Env
 ex:List Addr
 fn:Str->Bool
 calm:Bool
 pn:List (Addr×Obj)
 xe:Value->Shared->Prop
def frs(l:List Env):List Addr:=l.filterMap (·.frame)
abbrev Cx.fs(X:Cx):List Addr:=frs X.outer
def mq(sc:Scope)(x:Str):Prop:=sc.names.lookup x=some .local\/sc.names.lookup x=some .cell\/sc.names.lookup x=some .free
def Loc(sc:Scope)(x:Str):Prop:=sc.names.lookup x=some .local\/sc.names.lookup x=some .cell
def Look(env:Env)(h:Heap)(m:Str->Option Value)(x:Str)(u:Value):Prop:=
 (env.kindOf x=some .local/\m x=some u)\/((env.kindOf x=some .cell\/env.kindOf x=some .free)/\∃c,env.cells.lookup x=some c/\h.IsCell c (some u))
structure Cx.Ok(X:Cx):Prop where
 mod:Mod X.K X.mg X.base
 kind:X.env.scope.kind=.function
 glob:X.env.globals=mainGlobals
 blt:X.env.builtins=builtinsNs
 above:X.s₀.heap.objs.size<=X.env.locals
 inj:∀x y c,X.env.cells.lookup x=some c->X.env.cells.lookup y=some c->x=y
 has:∀x,(X.env.kindOf x=some .cell\/X.env.kindOf x=some .free)->∃c,X.env.cells.lookup x=some c
 cab:∀x c,X.fn x=true->X.env.cells.lookup x=some c->X.s₀.heap.objs.size<=c
 hd:X.calm=true->X.A.handled=none
 frames:X.A.frames=some X.stack
 stk:X.stack=X.outer\/(X.stack=X.env::X.outer/\X.env.frame=some X.env.locals)
 H_:∀b∈X.ex,b≠X.env.locals/\∀x c,X.env.cells.lookup x=some c->c≠b
 bs:∀b o,X.base.get? b=some o->X.s₀.heap.get? b=some o/\X.H₀ b=none
 uw:X.base.objs.size<=X.s₀.heap.objs.size
 mG:∀b o,X.base.get? b=some o->b∉X.ex
 qK:∀b∈X.ex,b∉X.fs
 bD:X.s₀.heap.FunFrames X.base X.outer
 yr:∀b∈X.fs,X.H₀ b=none
 tb:TabsOk X.K X.mg X.base X.H₀
structure Inv(X:Cx)(pins:List (Addr×Obj))(σ:List (Option V))(H:Hp)(s:Shared):Prop where
 ok:X.Ok
 os:s.os=X.s₀.os
 bare:AllBare s.gens
 base:Un X.fs X.ex X.H₀ H X.s₀.heap s.heap
 loc:∃m,s.heap.Ns X.env.locals m/\∀(i:Nat) (x:Str) (v:V),X.N[i]?=some x->σ[i]?=some (some v)->mq X.env.scope x->∃u,RelV v u/\Look X.env s.heap m x u
 cell:∀x c,X.env.cells.lookup x=some c->∃v,s.heap.IsCell c v
 free:H X.env.locals=none
 ŗ:∀x c,X.env.cells.lookup x=some c->H c=none
 pin:∀p∈X.pn++pins,s.heap.get? p.1=some p.2/\H p.1=none/\p.1≠X.env.locals/\p.1∉X.fs/\∀v,p.2.data≠ .cell v
 hok:Ż X.prog X.w H s.heap
 len:σ.length=X.N.length
section
variable{X:Cx}{pins:List (Addr×Obj)}{σ:List (Option V)}{H H':Hp}{s:Shared}{h':Heap}
def Cx.Ok.D_(ok:X.Ok){b:Addr}{o:Obj}(e:X.base.get? b=some o):b∉X.fs:=λhb=>by
 have:=(ok.bD.mem hb).1
 rw[e] at this;cases this
theorem Inv.bs(I:Inv X pins σ H s):∀b o,X.base.get? b=some o->s.heap.get? b=some o/\H b=none:=λb o e=>
 ⟨I.base.keep b o (I.ok.bs b o e).1 (I.ok.bs b o e).2 (I.ok.D_ e) (I.ok.mG b o e),I.base.free b o (I.ok.bs b o e).1 (I.ok.bs b o e).2 (I.ok.mG b o e)⟩
def Inv.bk(I:Inv X pins σ H s):∀b o,X.base.get? b=some o->s.heap.get? b=some o:=λb o e=>(I.bs b o e).1
theorem Inv.tb(I:Inv X pins σ H s):TabsOk X.K X.mg X.base H:=λx c P hx e=>⟨(I.ok.tb x c P hx e).1,I.base.aW _ _ (I.ok.tb x c P hx e).2.1,(I.ok.tb x c P hx e).2.2⟩
theorem Inv.mod(I:Inv X pins σ H s):Mod X.K X.mg X.base:=I.ok.mod
def Inv.dU(I:Inv X pins σ H s):X.K.In s.heap:=I.ok.mod.DY.keeps I.bk
theorem Inv.lt(I:Inv X pins σ H s):X.env.locals<s.heap.objs.size:=let ⟨_,hn,_⟩:=I.loc;hn.lt
def Inv.sz(I:Inv X pins σ H s):X.s₀.heap.objs.size<=s.heap.objs.size:=Nat.le_trans I.ok.above (Nat.le_of_lt I.lt)
def Inv.Ea(I:Inv X pins σ H s){a:Addr}(h:s.heap.objs.size<=a):a∉X.fs:=λhb=>by
 obtain⟨_,o,ho,_⟩:=I.ok.bD.mem hb
 exact absurd (Nat.lt_of_lt_of_le (Heap.lt_size ho) (Nat.le_trans I.sz h)) (Nat.lt_irrefl _)
def Inv.vB(I:Inv X pins σ H s):∀x c,X.env.cells.lookup x=some c->c≠X.env.locals:=λx c e z=>by
 obtain⟨v,o,ho,hd⟩:=I.cell x c e
 obtain⟨m,⟨o',es,ep,ho',hd',_⟩,_⟩:=I.loc
 rw[z,ho'] at ho;cases ho;rw[hd'] at hd;cases hd
theorem Inv.bD(I:Inv X pins σ H s):s.heap.FunFrames X.base X.outer:=by
 have all:∀(l:List Env),(∀b∈frs l,b∈X.fs)->X.s₀.heap.FunFrames X.base l->s.heap.FunFrames X.base l:=by
  intro l
  induction l with
  |nil=>intro _ _;trivial
  |cons env r ih=>
   intro hs hl
   obtain⟨hk,⟨L,o,hf,hn,ho,hd⟩,hr⟩:=hl
   have hL:L∈X.fs:=hs L (by unfold frs;rw[List.filterMap_cons,hf];exact List.mem_cons_self)
   obtain⟨sl,e⟩:=I.base.slot L o ho (I.ok.yr L hL) hL λz=>I.ok.qK L z hL
   exact⟨hk,⟨L,_,hf,hn,e,hd⟩,ih (λb hb=>hs b (by unfold frs;rw[List.filterMap_cons,hf];exact List.mem_cons_of_mem _ hb)) hr⟩
 exact all X.outer (λ_ hb=>hb) I.ok.bD
theorem Inv.stack(I:Inv X pins σ H s):s.heap.FunFrames X.base X.stack:=by
 rcases I.ok.stk with e|⟨e,hf⟩
 ·rw[e];exact I.bD
 ·rw[e]
  obtain⟨m,hn,_⟩:=I.loc
  refine .cons (by rw[I.ok.kind];decide) hf hn ?_ I.bD
  exact Heap.get?_none_of_le (Nat.le_trans I.ok.uw I.ok.above)
def Inv.dW(I:Inv X pins σ H s):∀b∈frs X.stack,b∈X.env.locals::X.fs:=λb hb=>by
 rcases I.ok.stk with e|⟨e,hf⟩
 ·rw[e] at hb;exact List.mem_cons_of_mem _ hb
 ·rw[e] at hb
  unfold frs at hb
  rw[List.filterMap_cons,hf] at hb
  exact hb
def Inv.jm(I:Inv X pins σ H s):∀b∈frs X.stack,H b=none:=λb hb=>by
 rcases List.mem_cons.mp (I.dW b hb) with e|hb
 ·rw[e];exact I.free
 ·obtain⟨_,o,ho,_⟩:=I.ok.bD.mem hb
  exact I.base.free b o ho (I.ok.yr b hb) λz=>I.ok.qK b z hb
def Inv.step{g':Array GenState}{t':Nat}{d':Drawn}{ch:List Addr}(I:Inv X pins σ H s)
 (hch:∀b∈ch,(b∈X.ex\/X.s₀.heap.objs.size<=b)/\b≠X.env.locals/\(∀x c,X.env.cells.lookup x=some c->c≠b)/\∀p∈X.pn++pins,p.1≠b)
 (keep:∀b o,b≠X.env.locals->b∉X.fs->b∉ch->s.heap.get? b=some o->H b=none->h'.get? b=some o)
 (slot:∀b o,b≠X.env.locals->b∈X.fs->b∉ch->s.heap.get? b=some o->H b=none->∃sl,h'.get? b=some {o with slots:=sl})(free:∀b o,b∉ch->s.heap.get? b=some o->H b=none->H' b=none)
 (there:∀b o,b∉ch->s.heap.get? b=some o->∃o',h'.get? b=some o')
 (tups:∀b xs,H b=some (.tup xs)->H' b=some (.tup xs))(cM:∀b o u,H b=some (.ŉ o u)->H' b=some (.ŉ o u))(aW:∀b q,H b=some (.cI q)->H' b=some (.cI q))
 (ns:∀m,s.heap.Ns X.env.locals m->h'.Ns X.env.locals m)(hok:Ż X.prog X.w H' h')(hg:AllBare g') :
 Inv X pins σ H' {s with heap:=h',gens:=g',drawn:=d',toks:=t'}:=by
 have Ia:∀b o,X.s₀.heap.get? b=some o->b≠X.env.locals:=λb o e=>Nat.ne_of_lt (Nat.lt_of_lt_of_le (Heap.lt_size e) I.ok.above)
 have Cz:∀b o,X.s₀.heap.get? b=some o->b∉X.ex->b∉ch:=λb o e hx hb=>by
  rcases(hch b hb).1 with z|z
  ·exact hx z
  ·exact absurd (Nat.lt_of_lt_of_le (Heap.lt_size e) z) (Nat.lt_irrefl _)
 have cellK:∀x c,X.env.cells.lookup x=some c->∀v,s.heap.IsCell c v->h'.IsCell c v:=λx c e v ⟨o,ho,hd⟩=>by
  have yH:c∉ch:=λz=>(hch c z).2.2.1 x c e rfl
  by_cases hc:c∈X.fs
  ·obtain⟨sl,q⟩:=slot c o (I.vB x c e) hc yH ho (I.ŗ x c e)
   exact⟨_,q,hd⟩
  ·exact⟨o,keep c o (I.vB x c e) hc yH ho (I.ŗ x c e),hd⟩
 refine⟨I.ok,I.os,hg,⟨λb o e n hb hx=>?_,λb o e n hb hx=>?_,λb o e n hx=>?_,λb o e hx=>?_,λb xs e=>tups b xs (I.base.tups b xs e),λb o xs e=>cM b o xs (I.base.cM b o xs e),λb ps e=>?_⟩,?_,λx c e=>?_,?_,λx c e=>?_,λp hp=>?_,hok,I.len⟩
 ·exact keep b o (Ia b o e) hb (Cz b o e hx) (I.base.keep b o e n hb hx) (I.base.free b o e n hx)
 ·obtain⟨sl,e1⟩:=I.base.slot b o e n hb hx
  obtain⟨sl',e2⟩:=slot b _ (Ia b o e) hb (Cz b o e hx) e1 (I.base.free b o e n hx)
  exact⟨sl',e2⟩
 ·obtain⟨o',e1⟩:=I.base.there b o e hx
  exact free b o' (Cz b o e hx) e1 (I.base.free b o e n hx)
 ·obtain⟨o',e1⟩:=I.base.there b o e hx
  exact there b o' (Cz b o e hx) e1
 ·exact aW b ps (I.base.aW b ps e)
 ·obtain⟨m,hn,hl⟩:=I.loc
  refine⟨m,ns m hn,λi x v e1 e2 e3=>?_⟩
  obtain⟨u,r,l⟩:=hl i x v e1 e2 e3
  refine⟨u,r,?_⟩
  rcases l with l|⟨k,c,e,z⟩
  ·exact .inl l
  ·exact .inr ⟨k,c,e,cellK x c e _ z⟩
 ·obtain⟨v,z⟩:=I.cell x c e
  exact⟨v,cellK x c e v z⟩
 ·obtain⟨m,⟨o,_,_,ho,_⟩,_⟩:=I.loc
  exact free _ o (λz=>(hch _ z).2.1 rfl) ho I.free
 ·obtain⟨v,o,ho,hd⟩:=I.cell x c e
  exact free c o (λz=>(hch c z).2.2.1 x c e rfl) ho (I.ŗ x c e)
 ·obtain⟨e,n,ne,nf,d⟩:=I.pin p hp
  have yH:p.1∉ch:=λz=>(hch p.1 z).2.2.2 p hp rfl
  exact⟨keep p.1 p.2 ne nf yH e n,free p.1 p.2 yH e n,ne,nf,d⟩
def Inv.un{t':Nat}(I:Inv X pins σ H s)(u:Un X.fs [] H H' s.heap h')(hok:Ż X.prog X.w H' h'):Inv X pins σ H' {s with heap:=h',toks:=t'}:=by
 obtain⟨m,⟨o,es,ep,ho,r⟩,_⟩:=id I.loc
 obtain⟨sl,hL⟩:=u.any ho I.free (by simp)
 exact I.step (g':=s.gens) (d':=s.drawn) (ch:=[]) (λ_ z=>nomatch z) (λb o _ hb _ e n=>u.keep b o e n hb (by simp)) (λb o _ hb _ e n=>u.slot b o e n hb (by simp)) (λb o _ e n=>u.free b o e n (by simp)) (λb o _ e=>u.there b o e (by simp)) u.tups u.cM u.aW (λm' hm=>by
  obtain⟨o',es',ep',ho',r'⟩:=hm
  rw[ho] at ho';cases ho'
  exact⟨_,es',ep',hL,r'⟩) hok I.bare
def Inv.call{g':Array GenState}{t':Nat}{d':Drawn}{ch:List Addr}(I:Inv X pins σ H s)(u:Un (frs X.stack) ch H H' s.heap h')(hok:Ż X.prog X.w H' h')(hg:AllBare g')
 (hch:∀b∈ch,(b∈X.ex\/X.s₀.heap.objs.size<=b)/\b≠X.env.locals/\(∀x c,X.env.cells.lookup x=some c->c≠b)/\∀p∈X.pn++pins,p.1≠b) :
 Inv X pins σ H' {s with heap:=h',gens:=g',drawn:=d',toks:=t'}:=by
 obtain⟨m,⟨o,es,ep,ho,r⟩,_⟩:=id I.loc
 obtain⟨sl,hL⟩:=u.any ho I.free λz=>(hch _ z).2.1 rfl
 exact I.step (ch:=ch) hch (λb o hL hb hc e n=>u.keep b o e n (λz=>(List.mem_cons.mp (I.dW b z)).elim hL hb) hc) (λb o _ _ hc e n=>u.any e n hc) (λb o hc e n=>u.free b o e n hc) (λb o hc e=>u.there b o e hc) u.tups u.cM u.aW (λm' hm=>by
  obtain⟨o',es',ep',ho',r'⟩:=hm
  rw[ho] at ho';cases ho'
  exact⟨_,es',ep',hL,r'⟩) hok hg
def Inv.turned{t':Nat}{it:Addr}(I:Inv X pins σ H s)(k:∀b o,b≠it->s.heap.get? b=some o->h'.get? b=some o)(hn:H it=none)(hL:it≠X.env.locals)
 (h1:it∈X.ex\/X.s₀.heap.objs.size<=it)(h2:∀x c,X.env.cells.lookup x=some c->c≠it)(h3:∀p∈X.pn++pins,p.1≠it):Inv X pins σ H {s with heap:=h',toks:=t'}:=by
 have Ib:∀b u,H b=some u->b≠it:=λb u e z=>by rw[z,hn] at e;cases e
 refine I.step (g':=s.gens) (d':=s.drawn) (ch:=[it]) (λb hb=>?_) (λb o _ _ hc e _=>k b o (λz=>hc (by simp[z])) e) (λb o _ _ hc e _=>⟨o.slots,k b o (λz=>hc (by simp[z])) e⟩) (λ_ _ _ _ n=>n)
  (λb o hc e=>⟨o,k b o (λz=>hc (by simp[z])) e⟩) (λ_ _ e=>e) (λ_ _ _ e=>e) (λ_ _ e=>e) (λm hm=>?_) (λb u e=>?_) I.bare
 ·have e:b=it:=by simpa using hb
  subst e
  exact⟨h1,hL,h2,h3⟩
 ·obtain⟨o,es,ep,ho,r⟩:=hm
  exact⟨o,es,ep,k _ o (Ne.symm hL) ho,r⟩
 ·refine(I.hok b u e).stay (λc v hc q=>k c v ?_ q) (λ_ q=>q) λ_ _ q=>q
  rcases hc with z|z
  ·rw[z];exact Ib b u e
  ·exact Ib c _ z
def Inv.tok(I:Inv X pins σ H s)(t:Nat):Inv X pins σ H {s with toks:=t}:=I.un (h':=s.heap) (t':=t) Un.refl I.hok
theorem Inv.kept{t':Nat}(I:Inv X pins σ H s)(k:∀b u,s.heap.get? b=some u->h'.get? b=some u):Inv X pins σ H {s with heap:=h',toks:=t'}:=I.un (Un.kept k) (I.hok.kept k)
theorem Inv.laid{a:Addr}{o:HO}{t':Nat}(I:Inv X pins σ H s)(k:∀b u,s.heap.get? b=some u->h'.get? b=some u)(hp:s.heap.objs.size<=a)(new:Ĥ X.prog X.w (upd H a o) h' a o) :
 Inv X pins σ (upd H a o) {s with heap:=h',toks:=t'}:=I.un (Un.laid k hp (I.hok.fresh hp)) (I.hok.laid k hp new)
theorem Inv.write{x e:Addr}{o:HO}{t':Nat}(I:Inv X pins σ H s)(mu:Cw (H x))(he:e=x\/H e=some (.own x))(k:∀b u,b≠e->s.heap.get? b=some u->h'.get? b=some u)(heo:∃u,h'.get? e=some u)
 (new:Ĥ X.prog X.w (upd H x o) h' x o):Inv X pins σ (upd H x o) {s with heap:=h',toks:=t'}:=I.un (Un.write mu he k heo) (I.hok.write mu he k heo new)
def Inv.jo{ux:List (Addr×Obj)}(I:Inv X pins σ H s)(h:∀p∈ux,s.heap.get? p.1=some p.2/\H p.1=none/\p.1≠X.env.locals/\p.1∉X.fs/\∀v,p.2.data≠ .cell v):Inv X ux σ H s:=
 ⟨I.ok,I.os,I.bare,I.base,I.loc,I.cell,I.free,I.ŗ,λp hp=>(List.mem_append.mp hp).elim (λz=>I.pin p (List.mem_append_left _ z)) (h p),I.hok,I.len⟩
def fZ{N:List Str}(hN:N.Nodup){i j:Nat}{x:Str}(a:N[i]?=some x)(b:N[j]?=some x):i=j:=by
 obtain⟨h1,e1⟩:=List.getElem?_eq_some_iff.mp a
 obtain⟨h2,e2⟩:=List.getElem?_eq_some_iff.mp b
 exact(List.getElem_inj hN).mp (e1.trans e2.symm)
def kZ{M:Model}{A:Around}{E:Value->Shared->Prop}{i:Nat}{x:Str}{v:V}{u:Value}{Q:Unit->Shared->Prop}(I:Inv X pins σ H s)(hN:X.N.Nodup)(hi:X.N[i]?=some x)(hx:Loc X.env.scope x)(r:RelV v u)
 (h:∀s',Inv X pins (σ.set i (some v)) H s'->(∃a,Heap.SameBut a s.heap s'.heap/\(a=X.env.locals\/X.env.cells.lookup x=some a))->Q () s')(hf:X.fn x=true\/X.env.scope.names.lookup x=some .local:=by first|exact .inl rfl|exact .inr rfl|assumption):wpAny M A (storeName X.env x u) Q E s:=by
 obtain⟨m,hn,hl⟩:=id I.loc
 have hcls:(X.env.scope.kind== .class || (X.env.scope.kind== .module && X.env.locals != X.env.globals))=false:=by rw[I.ok.kind];rfl
 have Ie:i < σ.length:=by rw[I.len];exact(List.getElem?_eq_some_iff.mp hi).1
 have vB:=I.vB
 have tracked:∀{a:Addr} {h':Heap},(∃o,s.heap.get? a=some o/\H a=none)->Heap.SameBut a s.heap h'->Ż X.prog X.w H h':=fun{a h'} ha hs b ob e=>by
  obtain⟨_,_,hfree⟩:=ha
  refine(I.hok b ob e).stay (λc w' hc q=>(hs.2 c ?_).trans q) (λ_ q=>q) λ_ _ q=>q
  rintro rfl
  rcases hc with rfl|hc
  ·rw[hfree] at e;cases e
  ·rw[hfree] at hc;cases hc
 rcases hx with hk|hk
 ·refine wpAny_storeName_local hk hn (λh' hn' hs=>?_) hcls
  obtain⟨oL,_,_,hoL,_⟩:=id hn
  refine h _ ⟨I.ok,I.os,I.bare,⟨λb o e n hb hx=>?_,λb o e n hb hx=>?_,I.base.free,λb o e hx=>?_,I.base.tups,I.base.cM,I.base.aW⟩,⟨_,hn',λj y v' e1 e2 e3=>?_⟩,λy c e=>?_,I.free,I.ŗ,λp hp=>?_,tracked ⟨oL,hoL,I.free⟩ hs,by simpa using I.len⟩ ⟨_,hs,.inl rfl⟩
  ·exact(hs.2 b (Nat.ne_of_lt (Nat.lt_of_lt_of_le (Heap.lt_size e) I.ok.above))).trans (I.base.keep b o e n hb hx)
  ·obtain⟨sl,e1⟩:=I.base.slot b o e n hb hx
   exact⟨sl,(hs.2 b (Nat.ne_of_lt (Nat.lt_of_lt_of_le (Heap.lt_size e) I.ok.above))).trans e1⟩
  ·obtain⟨o',e1⟩:=I.base.there b o e hx
   exact⟨o',(hs.2 b (Nat.ne_of_lt (Nat.lt_of_lt_of_le (Heap.lt_size e) I.ok.above))).trans e1⟩
  ·by_cases hj:j=i
   ·subst hj
    rw[hi] at e1;cases e1
    rw[List.getElem?_set_self Ie] at e2
    cases e2
    exact⟨u,r,.inl ⟨hk,by simp⟩⟩
   ·rw[List.getElem?_set_ne (Ne.symm hj)] at e2
    obtain⟨u',r',q⟩:=hl j y v' e1 e2 e3
    refine⟨u',r',?_⟩
    rcases q with⟨k,e⟩|⟨k,c,e,z⟩
    ·refine .inl ⟨k,?_⟩
     have:y≠x:=λe=>hj (fZ hN e1 (e▸hi))
     simp[this,e]
    ·exact .inr ⟨k,c,e,z.sameBut hs (vB y c e)⟩
  ·obtain⟨w',z⟩:=I.cell y c e
   exact⟨w',z.sameBut hs (vB y c e)⟩
  ·obtain⟨e,n,ne,nf,d⟩:=I.pin p hp
   exact⟨(hs.2 p.1 ne).trans e,n,ne,nf,d⟩
 ·have hfn:X.fn x=true:=by
   rcases hf with z|z
   ·exact z
   ·rw[z] at hk;cases hk
  obtain⟨c,hc⟩:=I.ok.has x (.inl hk)
  obtain⟨w',z⟩:=I.cell x c hc
  refine wpAny_storeName_cell I.ok.kind hk hc z (λh' hc' hs=>?_)
  obtain⟨oc,hoc,Eb⟩:=id z
  refine h {s with heap:=h'} ⟨I.ok,I.os,I.bare,⟨λb o e n hb hx=>?_,λb o e n hb hx=>?_,I.base.free,λb o e hx=>?_,I.base.tups,I.base.cM,I.base.aW⟩,⟨m,hn.sameBut hs (Ne.symm (vB x c hc)),λj y v' e1 e2 e3=>?_⟩,λy c' e=>?_,I.free,I.ŗ,λp hp=>?_,tracked ⟨oc,hoc,I.ŗ x c hc⟩ hs,by simpa using I.len⟩ ⟨c,hs,.inr hc⟩
  ·exact(hs.2 b (Nat.ne_of_lt (Nat.lt_of_lt_of_le (Heap.lt_size e) (I.ok.cab x c hfn hc)))).trans (I.base.keep b o e n hb hx)
  ·obtain⟨sl,e1⟩:=I.base.slot b o e n hb hx
   exact⟨sl,(hs.2 b (Nat.ne_of_lt (Nat.lt_of_lt_of_le (Heap.lt_size e) (I.ok.cab x c hfn hc)))).trans e1⟩
  ·obtain⟨o',e1⟩:=I.base.there b o e hx
   exact⟨o',(hs.2 b (Nat.ne_of_lt (Nat.lt_of_lt_of_le (Heap.lt_size e) (I.ok.cab x c hfn hc)))).trans e1⟩
  ·by_cases hj:j=i
   ·subst hj
    rw[hi] at e1;cases e1
    rw[List.getElem?_set_self Ie] at e2
    cases e2
    exact⟨u,r,.inr ⟨.inl hk,c,hc,hc'⟩⟩
   ·rw[List.getElem?_set_ne (Ne.symm hj)] at e2
    obtain⟨u',r',q⟩:=hl j y v' e1 e2 e3
    refine⟨u',r',?_⟩
    rcases q with q|⟨k,c',e,z'⟩
    ·exact .inl q
    ·refine .inr ⟨k,c',e,z'.sameBut hs ?_⟩
     rintro rfl
     exact hj (fZ hN e1 (I.ok.inj _ _ _ e hc▸hi))
  ·by_cases hcc:c'=c
   ·subst hcc;exact⟨_,hc'⟩
   ·obtain⟨w2,z2⟩:=I.cell y c' e
    exact⟨w2,z2.sameBut hs hcc⟩
  ·obtain⟨e,n,ne,nf,d⟩:=I.pin p hp
   refine⟨(hs.2 p.1 ?_).trans e,n,ne,nf,d⟩
   intro q
   rw[q,hoc] at e
   have q':oc=p.2:=Option.some.inj e
   exact d w' (by rw[<-q'];exact Eb)
def bF{M:Model}{A:Around}{E:Value->Shared->Prop}{i:Nat}{x:Str}{v:V}{u:Value}{Q:Unit->Shared->Prop}(I:Inv X pins σ H s)(hN:X.N.Nodup)(hi:X.N[i]?=some x)(hx:Loc X.env.scope x)(r:RelV v u)
 (h:∀s',Inv X pins (σ.set i (some v)) H s'->Q () s')(hf:X.fn x=true\/X.env.scope.names.lookup x=some .local:=by first|exact .inl rfl|exact .inr rfl|assumption):wpAny M A (storeName X.env x u) Q E s:=
 kZ I hN hi hx r (λs' I' _=>h s' I') hf
def Inv.call'{s':Shared}{ch:List Addr}(I:Inv X pins σ H s)(ho:s'.os=s.os)(u:Un (frs X.stack) ch H H' s.heap s'.heap)(hok:Ż X.prog X.w H' s'.heap)(hg:AllBare s'.gens)
 (hch:∀b∈ch,(b∈X.ex\/X.s₀.heap.objs.size<=b)/\b≠X.env.locals/\(∀x c,X.env.cells.lookup x=some c->c≠b)/\∀p∈X.pn++pins,p.1≠b):Inv X pins σ H' s':=by
 obtain⟨h',g',d',t',o'⟩:=s'
 have e:o'=s.os:=ho
 subst e
 exact I.call (g':=g') (t':=t') (d':=d') u hok hg hch
end
abbrev XK:=Value->Option Addr->Hp->Prop
abbrev St:=List (Option V)
abbrev VK:=V->Hp->Prop
abbrev TE:=St->Hp->VK->Prop
abbrev TT:=St->Hp->(Bool->Hp->Prop)->Prop
abbrev TA:=St->Hp->(List V->Hp->Prop)->Prop
structure Ends where
 nx:St->Hp->Prop
 rt:VK
 bk:St->Hp->Prop:=λ_ _=>False
 ct:St->Hp->Prop:=λ_ _=>False
abbrev TS:=Ends->St->Hp->Prop
def EP(X:Cx)(pins:List (Addr×Obj))(σ:St)(Q:VK)(u:Value)(s':Shared):Prop:=∃v H',Inv X pins σ H' s'/\RelV v u/\Q v H'
def TP(X:Cx)(pins:List (Addr×Obj))(σ:St)(Q:Bool->Hp->Prop)(b:Bool)(s':Shared):Prop:=∃H',Inv X pins σ H' s'/\Q b H'
def AP(X:Cx)(pins:List (Addr×Obj))(σ:St)(Q:List V->Hp->Prop)(us:List Value)(s':Shared):Prop:=∃vs H',Inv X pins σ H' s'/\Vals vs us/\Q vs H'
def SP(X:Cx)(pins:List (Addr×Obj))(D:Ends)(f:Flow)(s':Shared):Prop:=
 match f with
 | .next=>∃σ' H',Inv X pins σ' H' s'/\D.nx σ' H'
 | .brk=>∃σ' H',Inv X pins σ' H' s'/\D.bk σ' H'
 | .cont=>∃σ' H',Inv X pins σ' H' s'/\D.ct σ' H'
 | .ret u=>∃v σ' H',Inv X pins σ' H' s'/\RelV v u/\D.rt v H'
def PE(X:Cx)(e:Expr)(t:TE):Prop:=
 ∀(pins:List (Addr×Obj)) (s:Shared) (σ:St) (H:Hp) (Q:VK),Inv X pins σ H s->t σ H Q->wpAny (model X.prog X.w) X.A (eval e X.env) (EP X pins σ Q) X.xe s
def PT(X:Cx)(e:Expr)(t:TT):Prop:=
 ∀(pins:List (Addr×Obj)) (s:Shared) (σ:St) (H:Hp) (Q:Bool->Hp->Prop),Inv X pins σ H s->t σ H Q->wpAny (model X.prog X.w) X.A (isTrue e X.env (eval e X.env)) (TP X pins σ Q) X.xe s
def PW(X:Cx)(e:Expr)(t:TT):Prop:=
 ∀(whole:Sem Value) (pins:List (Addr×Obj)) (s:Shared) (σ:St) (H:Hp) (Q:Bool->Hp->Prop),Inv X pins σ H s->t σ H Q->wpAny (model X.prog X.w) X.A (isTrue e X.env whole) (TP X pins σ Q) X.xe s
def PW.pt{X:Cx}{e:Expr}{t:TT}(h:PW X e t):PT X e t:=h _
def PA(X:Cx)(es:List Expr)(t:TA):Prop:=
 ∀(pos:Pos) (pins:List (Addr×Obj)) (s:Shared) (σ:St) (H:Hp) (Q:List V->Hp->Prop),Inv X pins σ H s->t σ H Q->wpAny (model X.prog X.w) X.A (spliced (backTo pos (starEach es X.env))) (AP X pins σ Q) X.xe s
def PS(X:Cx)(st:Stmt)(t:TS):Prop:=
 ∀(pins:List (Addr×Obj)) (s:Shared) (σ:St) (H:Hp) (D:Ends),Inv X pins σ H s->t D σ H->wpAny (model X.prog X.w) X.A (exec st X.env) (SP X pins D) X.xe s
def ź(X:Cx)(st:List Stmt)(t:TS):Prop:=
 ∀(pins:List (Addr×Obj)) (s:Shared) (σ:St) (H:Hp) (D:Ends),Inv X pins σ H s->t D σ H->wpAny (model X.prog X.w) X.A (execs st X.env) (SP X pins D) X.xe s
def ĩ{α:Type}{t:Sem α}{Q Q':α->Shared->Prop}{M:Model}{A:Around}{E:Value->Shared->Prop}{s:Shared}(h:wpAny M A t Q E s)(hQ:∀a s,Q a s->Q' a s):wpAny M A t Q' E s:=wpAny_mono h hQ λ_ _ x=>x
end L2
namespace L2
open PySem PySem.Spec PyProof.Rows
section
variable{X:Cx}
def qL(i:Nat):TE:=λσ H Q=>∃v,σ[i]?=some (some v)/\Q v H
def tC(v:V):TE:=λ_ H Q=>Q v H
def ų{i:Nat}{x:Str}{pos:Pos}(hN:X.N[i]?=some x)(hv:mq X.env.scope x)(hd:(x== ("__debug__" :Str))=false:=by decide)(hcd:(x== ("__classdict__" :Str))=false:=by decide):PE X (.Name x pos) (qL i):=by
 intro pins s σ H Q I h
 obtain⟨v,e,h⟩:=h
 obtain⟨m,hn,hl⟩:=I.loc
 obtain⟨u,r,l⟩:=hl i x v hN e hv
 have fin:EP X pins σ Q u s:=⟨v,H,I,r,h⟩
 rcases l with⟨hk,hm⟩|⟨hk,c,hc,hcell⟩
 ·exact wpAny_Name (wpAny_loadName_local I.ok.kind hk hn hm fin) hd
 ·rcases hk with hk|hk
  ·exact wpAny_Name (wpAny_loadName_cell I.ok.kind hk hc hcell fin) hd
  ·exact wpAny_Name (wpAny_loadName_free I.ok.kind hk hc hcell fin hcd) hd
def vC{i j pos}:PE X (.Constant (.int i) j pos) (tC (.int i)):=λ_ _ _ H _ I h=>wpAny_Constant_int ⟨.int i,H,I.tok _,⟨_,rfl⟩,h⟩
def yI{b j pos}:PE X (.Constant (.bool b) j pos) (tC (.bl b)):=λ_ _ _ H _ I h=>Constant_bool ⟨.bl b,H,I,rfl,h⟩
def Gl(X:Cx)(x:Str):Prop:=X.env.kindOf x=some .globalImplicit
def qM{E:Value->Shared->Prop}{pins:List (Addr×Obj)}{s:Shared}{σ:St}{H:Hp}{x:Str}{u:Value}{pos:Pos}{Q:Value->Shared->Prop}(I:Inv X pins σ H s)(hg:Gl X x)(hm:X.mg x=some u)(h:Q u s)
 (hd:(x== ("__debug__" :Str))=false:=by decide):wpAny (model X.prog X.w) X.A (eval (.Name x pos) X.env) Q E s:=
 Calls.Name_function_global I.ok.kind hg (Calls.loadGlobal_global (by rw[I.ok.glob];exact I.mod.glob.keeps I.bk) hm h) hd
def aA{E:Value->Shared->Prop}{pins:List (Addr×Obj)}{s:Shared}{σ:St}{H:Hp}{x:Str}{u:Value}{pos:Pos}{Q:Value->Shared->Prop}(I:Inv X pins σ H s)(hg:Gl X x)(hm:X.mg x=none)(hv:bootBuiltins x=some u)(h:Q u s)
 (hn:x≠ "__name__" := by decide)(hd:(x== ("__debug__" :Str))=false:=by decide):wpAny (model X.prog X.w) X.A (eval (.Name x pos) X.env) Q E s:=by
 obtain⟨mb,h1,h2⟩:=I.mod.blt
 exact Calls.Name_function_global I.ok.kind hg (Calls.loadGlobal_builtin (by rw[I.ok.glob];exact I.mod.glob.keeps I.bk) hm (by rw[I.ok.blt];exact h1.keeps I.bk) ((h2 x hn).trans hv) h) hd
def ť{x:Str}{v:V}{u:Value}{pos:Pos}(hg:Gl X x)(hm:X.mg x=none)(hv:bootBuiltins x=some u)(r:RelV v u)(hn:x≠ "__name__" := by decide)(hd:(x== ("__debug__" :Str))=false:=by decide):PE X (.Name x pos) (tC v):=
 λ_ _ _ H _ I h=>aA I hg hm hv ⟨v,H,I,r,h⟩ hn hd
variable{a b:Expr}{ta tb:TE}{pos:Pos}
variable{tA Ec:TT}{rest:List Expr}
def Ju(t u:TT):TT:=λσ H Q=>t σ H λc H1=>if c=true then Q true H1 else u σ H1 Q
def Ed(t:TT):TT:=λσ H Q=>t σ H λc H1=>Q (!c) H1
def vD(ha:PT X a tA):PW X (.BoolOp .Or [a] pos) tA:=by
 intro wh pins s σ H Q I h
 refine isTrue_or (ĩ (ha pins s σ H Q I h) λc s1 e=>?_)
 cases c with
 |false=>exact isTrue_or_nil e
 |true=>exact e
def yJ(ha:PT X a tA)(hb:PW X (.BoolOp .Or (b::rest) pos) Ec):PW X (.BoolOp .Or (a::b::rest) pos) (Ju tA Ec):=by
 intro wh pins s σ H Q I h
 refine isTrue_or (ĩ (ha pins s σ H _ I h) λc s1 ⟨H1,I1,q1⟩=>?_)
 cases c with
 |true=>exact⟨H1,I1,q1⟩
 |false=>exact hb wh pins s1 σ H1 Q I1 q1
def vG(ha:PT X a tA):PT X (.UnaryOp .Not a pos) (Ed tA):=by
 intro pins s σ H Q I h
 exact isTrue_not (ha pins s σ H (λc H1=>Q (!c) H1) I h)
def vH{op}{t:TE}(h:PE X a t):PE X (.BoolOp op [a] pos) t:=λpins s σ H Q I hw=>BoolOp_one (h pins s σ H Q I hw)
end
end L2
namespace L2
open PySem PySem.Spec PyProof.Rows
def Ľ(K:PySem.W.Frag)(H:Hp)(a:Addr)(xs:List V):Prop:=
 Rd H a (.lst xs)\/
  ∃(o:Obj) (its:Array Value) (n:Nat),K.lookup a=some o/\o.cls=.type "list" /\o.dict=none/\o.data=.seq its n/\its.size<=sizeLine/\Vals xs its.toList
def Ŭ(K:PySem.W.Frag)(H:Hp)(a:Addr)(xs:List V):Prop:=
 Rd H a (.tup xs)\/
  ∃(o:Obj) (its:Array Value) (n:Nat),K.lookup a=some o/\o.cls=.type "tuple" /\o.data=.seq its n/\its.size<=sizeLine/\Vals xs its.toList
def Ef:Value->Option V
 | .none=>some .non
 | .bool b=>some (.bl b)
 | .int i _=>some (.int i)
 | .str x _=>some (.str x)
 | .bytes b _=>some (.vp b)
 | .float b _=>some (.flt b)
 | .ref a=>some (.ref a)
 | .type n=>some (.ty n)
 |_=>none
def RelV.abs{x:V}{u:Value}(r:RelV x u):Ef u=some x:=by
 cases x with
 |non=>cases r;rfl
 |bl _=>cases r;rfl
 |int _=>obtain⟨t,rfl⟩:=r;rfl
 |str _=>obtain⟨t,rfl⟩:=r;rfl
 |vp _=>obtain⟨t,rfl⟩:=r;rfl
 |flt _=>obtain⟨t,rfl⟩:=r;rfl
 |ref _=>cases r;rfl
 |ty _=>cases r;rfl
theorem RelV.inj{x y:V}{u:Value}(r:RelV x u)(q:RelV y u):x=y:=Option.some.inj (r.abs.symm.trans q.abs)
theorem Vals.inj:∀{xs ys:List V} {us:List Value},Vals xs us->Vals ys us->xs=ys
 |_,_,_,.nil,.nil=>rfl
 |_,_,_,.cons r t,.cons r' t'=>by rw[r.inj r',Vals.inj t t']
section
variable{X:Cx}{pins:List (Addr×Obj)}{σ:St}{H:Hp}{s:Shared}{a:Addr}{xs ys:List V}
def Ľ.of{K:PySem.W.Frag}(h:H a=some (.lst xs)):Ľ K H a xs:=.inl (.inl h)
def Ŭ.of{K:PySem.W.Frag}(h:H a=some (.tup xs)):Ŭ K H a xs:=.inl (.inl h)
def Inv.list(I:Inv X pins σ H s)(h:Ľ X.K H a xs):∃its:List Value,Vals xs its/\PlainL s.heap a its.toArray/\xs.length<=sizeLine:=by
 rcases h with h|⟨o,its,n,hk,hc,hd,hs,hz,r⟩
 ·obtain⟨z,its,n,r,e⟩:=h.ok I.hok
  exact⟨its,r,⟨_,n,e,rfl,rfl,rfl⟩,z⟩
 ·refine⟨its.toList,r,⟨o,n,I.dU a o hk,hc,hd,by simpa using hs⟩,?_⟩
  have e:=r.length
  simp only[Array.length_toList] at e
  omega
def Inv.tuple(I:Inv X pins σ H s)(h:Ŭ X.K H a xs):∃its:List Value,Vals xs its/\IsTup s.heap a its.toArray/\xs.length<=sizeLine:=by
 rcases h with h|⟨o,its,n,hk,hc,hs,hz,r⟩
 ·obtain⟨z,its,r,p⟩:=h.ok I.hok
  exact⟨its,r,p,z⟩
 ·refine⟨its.toList,r,⟨o,I.dU a o hk,hc,n,by simpa using hs⟩,?_⟩
  have e:=r.length
  simp only[Array.length_toList] at e
  omega
def Inv.mH(I:Inv X pins σ H s)(h:Ľ X.K H a xs)(h':Ľ X.K H a ys):xs=ys:=by
 obtain⟨its,r,⟨o,n,e,_,_,d⟩,_⟩:=I.list h
 obtain⟨its',r',⟨o',n',e',_,_,d'⟩,_⟩:=I.list h'
 rw[e] at e';cases e'
 rw[d] at d'
 injection d' with d1 _
 have:its=its':=by simpa using congrArg Array.toList d1
 subst this
 exact r.inj r'
def Inv.k_(I:Inv X pins σ H s)(h:Ŭ X.K H a xs)(h':Ŭ X.K H a ys):xs=ys:=by
 obtain⟨its,r,⟨o,e,_,n,d⟩,_⟩:=I.tuple h
 obtain⟨its',r',⟨o',e',_,n',d'⟩,_⟩:=I.tuple h'
 rw[e] at e';cases e'
 rw[d] at d'
 injection d' with d1 _
 have:its=its':=by simpa using congrArg Array.toList d1
 subst this
 exact r.inj r'
end
abbrev Cx.wish(X:Cx)(E:Value->Shared->Prop):Cx:={X with xe:=E}
abbrev Cx.Ŕ(X:Cx):Cx:=X.wish λ_ _=>False
theorem Cx.Ok.wish{X:Cx}(ok:X.Ok)(E:Value->Shared->Prop):(X.wish E).Ok:=
 ⟨ok.mod,ok.kind,ok.glob,ok.blt,ok.above,ok.inj,ok.has,ok.cab,ok.hd,ok.frames,ok.stk,ok.H_,ok.bs,ok.uw,ok.mG,ok.qK,ok.bD,ok.yr,ok.tb⟩
def Cx.Ok.iD{X:Cx}{E:Value->Shared->Prop}(ok:(X.wish E).Ok):X.Ok:=
 ⟨ok.mod,ok.kind,ok.glob,ok.blt,ok.above,ok.inj,ok.has,ok.cab,ok.hd,ok.frames,ok.stk,ok.H_,ok.bs,ok.uw,ok.mG,ok.qK,ok.bD,ok.yr,ok.tb⟩
section
variable{X:Cx}{pins:List (Addr×Obj)}{σ:St}{H:Hp}{s:Shared}{E:Value->Shared->Prop}
theorem Inv.wish(I:Inv X pins σ H s)(E:Value->Shared->Prop):Inv (X.wish E) pins σ H s:=⟨I.ok.wish E,I.os,I.bare,I.base,I.loc,I.cell,I.free,I.ŗ,I.pin,I.hok,I.len⟩
theorem Inv.iD(I:Inv (X.wish E) pins σ H s):Inv X pins σ H s:=⟨I.ok.iD,I.os,I.bare,I.base,I.loc,I.cell,I.free,I.ŗ,I.pin,I.hok,I.len⟩
theorem PE.Ŕ{e:Expr}{t:TE}(h:PE X.Ŕ e t):PE X e t:=λpins s σ H Q I hw=>
 wpAny_mono (h pins s σ H Q (I.wish _) hw) (λ_ _ ⟨v,H',I',r,q⟩=>⟨v,H',I'.iD,r,q⟩) λ_ _ z=>False.elim z
end
section
variable{X:Cx}{st:Stmt}{rest:List Stmt}{t u:TS}{e:Expr}{te:TE}{pos:Pos}
def yK:TS:=λD σ H=>D.nx σ H
def Eh(t u:TS):TS:=λD σ H=>t {D with nx:=u D} σ H
def qN:ź X [] yK:=λ_ _ σ H _ I h=>wpAny_execs_nil ⟨σ,H,I,h⟩
def mJ(h1:PS X st t)(h2:ź X rest u):ź X (st::rest) (Eh t u):=by
 intro pins s σ H D I h
 refine wpAny_execs_cons (ĩ (h1 pins s σ H {D with nx:=u D} I h) λf s1 q=>?_)
 cases f with
 |next=>
  obtain⟨σ',H',I',q⟩:=q
  exact h2 pins s1 σ' H' D I' q
 |ret v=>exact q
 |brk=>exact q
 |cont=>exact q
def qO(h1:PS X st t):ź X [st] t:=by
 intro pins s σ H D I h
 refine wpAny_execs_cons (ĩ (h1 pins s σ H D I h) λf s1 q=>?_)
 cases f with
 |next=>exact wpAny_execs_nil q
 |ret v=>exact q
 |brk=>exact q
 |cont=>exact q
def Inv.quiet{pins:List (Addr×Obj)}{σ:St}{H:Hp}{s:Shared}(I:Inv X pins σ H s):interactive X.env=false:=by simp[interactive,I.ok.kind]
def uy(te:TE):TS:=λD σ H=>te σ H λ_ H1=>D.nx σ H1
def qP(he:PE X e te)(hs:swapsWith e none pos.line X.env=pure false:=by rfl):PS X (.Expr e pos) (uy te):=by
 intro pins s σ H D I h
 exact wpAny_Expr_any (ĩ (he pins s σ H _ I h) λv s1 ⟨x,H1,I1,r1,q1⟩=>⟨σ,H1,I1,q1⟩) I.quiet hs
def Ei(te:TE):TS:=λD σ H=>te σ H D.rt
def vI(he:PE X e te):PS X (.Return (some e) pos) (Ei te):=by
 intro pins s σ H D I h
 exact wpAny_Return_some (ĩ (he pins s σ H _ I h) λv s1 ⟨x,H1,I1,r1,q1⟩=>⟨x,σ,H1,I1,r1,q1⟩)
def Ej(c:TT)(t u:TS):TS:=λD σ H=>c σ H λb H1=>if b=true then t D σ H1 else u D σ H1
def yL{c:Expr}{a b:List Stmt}{tc:TT}(hc:PT X c tc)(ha:ź X a t)(hb:ź X b u):PS X (.If c a b pos) (Ej tc t u):=by
 intro pins s σ H D I h
 refine wpAny_If (ĩ (hc pins s σ H _ I h) λd s1 ⟨H1,I1,q1⟩=>?_)
 cases d with
 |true=>exact ha pins s1 σ H1 D I1 q1
 |false=>exact hb pins s1 σ H1 D I1 q1
end
abbrev TG:=V->St->Hp->(St->Hp->Prop)->Prop
abbrev mK:=List V->St->Hp->(St->Hp->Prop)->Prop
def PG(X:Cx)(target:Expr)(t:TG):Prop:=
 ∀(pins:List (Addr×Obj)) (s:Shared) (σ:St) (H:Hp) (v:V) (u:Value) (Q:St->Hp->Prop),Inv X pins σ H s->RelV v u->t v σ H Q->
  wpAny (model X.prog X.w) X.A (assign target X.env u) (λ_ s'=>∃σ' H',Inv X pins σ' H' s'/\Q σ' H') X.xe s
def iB(X:Cx)(ts:List Expr)(t:mK):Prop:=
 ∀(pins:List (Addr×Obj)) (s:Shared) (σ:St) (H:Hp) (vs:List V) (us:List Value) (Q:St->Hp->Prop),Inv X pins σ H s->Vals vs us->t vs σ H Q->
  wpAny (model X.prog X.w) X.A (assignInOrder ((assignEach ts X.env).map (·.2)) us) (λ_ s'=>∃σ' H',Inv X pins σ' H' s'/\Q σ' H') X.xe s
abbrev CG:=V->V->Hp->VK->Prop
def Ig(X:Cx)(op:Operator)(t:CG):Prop:=
 ∀(pins:List (Addr×Obj)) (s:Shared) (σ:St) (H:Hp) (x y:V) (v u:Value) (Q:VK),Inv X pins σ H s->RelV x v->RelV y u->t x y H Q->
  wpAny (model X.prog X.w) X.A (inplaceOp op v u) (EP X pins σ Q) X.xe s
section
variable{X:Cx}{pos:Pos}
def uz(i:Nat):TG:=λv σ H Q=>Q (σ.set i (some v)) H
def qQ{i:Nat}{x:Str}(hN:X.N.Nodup)(hi:X.N[i]?=some x)(hx:Loc X.env.scope x)(hf:X.fn x=true\/X.env.scope.names.lookup x=some .local:=by first|exact .inl rfl|exact .inr rfl|assumption):PG X (.Name x pos) (uz i):=by
 intro pins s σ H v u Q I r h
 exact wpAny_assign_Name (bF I hN hi hx r (λs' I'=>⟨_,H,I',h⟩) hf)
def Ek:mK:=λvs σ H Q=>vs=[]/\Q σ H
def yM(t:TG)(u:mK):mK:=λvs σ H Q=>∃v r,vs=v::r/\t v σ H λσ' H'=>u r σ' H' Q
def qR:iB X [] Ek:=by
 intro pins s σ H vs us Q I r h
 obtain⟨e,h⟩:=h
 subst e
 cases r
 exact assignInOrder_nil ⟨σ,H,I,h⟩
def mL{e:Expr}{es:List Expr}{t:TG}{u:mK}(h1:PG X e t)(h2:iB X es u)
 (hs:(assignEach (e::es) X.env).map (·.2)=assign e X.env::(assignEach es X.env).map (·.2):=by rfl):iB X (e::es) (yM t u):=by
 intro pins s σ H vs us Q I r h
 obtain⟨v,vr,e1,h⟩:=h
 subst e1
 cases r with
 |cons r rr=>
  rw[hs]
  refine assignInOrder_cons (ĩ (h1 pins s σ H _ _ _ I r h) λ_ s1 ⟨σ1,H1,I1,q1⟩=>?_)
  exact h2 pins s1 σ1 H1 _ _ Q I1 rr q1
def El(K:PySem.W.Frag)(n:Nat)(t:mK):TG:=λv σ H Q=>∃a xs,v=.ref a/\Ŭ K H a xs/\xs.length=n/\t xs σ H Q
def mO{es:List Expr}{k:Nat}{t:mK}{n:Nat}(hc:X.calm=true)(h:iB X es t)
 (hn:(assignEach es X.env).length=n:=by rfl)(hst:(assignEach es X.env).findIdx? (·.1)=none:=by rfl):PG X (.Tuple es k pos) (El X.K n t):=by
 intro pins s σ H v u Q I r hw
 obtain⟨a,xs,e1,hq,hl,hw⟩:=hw
 subst e1
 cases r
 obtain⟨its,rv,ht,hz⟩:=I.tuple hq
 refine assign_Tuple_tuple (I.ok.hd hc) ht (by simp[hn,<-hl,rv.length]) hst λh' hx=>?_
 have I1:Inv X pins σ H {s with heap:=h'}:=I.kept (t':=s.toks) λb o e=>hx b o (Nat.ne_of_lt (Heap.lt_size e)) e
 exact h pins _ σ H xs _ Q I1 (by simpa using rv) hw
def yN(te:TE)(g:TG):TS:=λD σ H=>te σ H λx H1=>g x σ H1 D.nx
def vJ{tg e:Expr}{te:TE}{g:TG}(he:PE X e te)(hg:PG X tg g)(hs:swapsWithSole [tg] e pos.line X.env=pure false:=by rfl)(hw:swappedStores [tg] e X.env=pure none:=by rfl)
 (h1:(assignEach [tg] X.env).map (·.2)=[assign tg X.env]:=by rfl):PS X (.Assign [tg] e pos) (yN te g):=by
 intro pins s σ H D I h
 refine wpAny_Assign_stores (ĩ (he pins s σ H _ I h) λv s1 ⟨x,H1,I1,r1,q1⟩=>?_) hs hw
 rw[h1]
 exact ĩ (hg pins s1 σ H1 x v _ I1 r1 q1) λ_ s2 q=>q
def vK{i:Nat}{x:Str}{e:Expr}{te:TE}{pos':Pos}(hN:X.N.Nodup)(hi:X.N[i]?=some x)(hx:Loc X.env.scope x)(he:PE X e te)(hs:swapsWith e (some (.Name x pos')) pos.line X.env=pure false:=by rfl)(hf:X.fn x=true\/X.env.scope.names.lookup x=some .local:=by first|exact .inl rfl|exact .inr rfl|assumption) :
 PS X (.Assign [.Name x pos'] e pos) (yN te (uz i)):=by
 intro pins s σ H D I h
 refine wpAny_Assign_Name (ĩ (he pins s σ H _ I h) λv s1 ⟨y,H1,I1,r1,q1⟩=>?_) hs
 exact bF I1 hN hi hx r1 (λs2 I2=>⟨_,H1,I2,q1⟩) hf
def Em(i:Nat)(te:TE)(ti:CG):TS:=λD σ H=>∃x,σ[i]?=some (some x)/\te σ H λy H1=>ti x y H1 λz H2=>D.nx (σ.set i (some z)) H2
def vL{i:Nat}{x:Str}{e:Expr}{te:TE}{op:Operator}{ti:CG}{pos':Pos}(hN:X.N.Nodup)(hi:X.N[i]?=some x)(hx:Loc X.env.scope x)(he:PE X e te)(ho:Ig X op ti)(hf:X.fn x=true\/X.env.scope.names.lookup x=some .local:=by first|exact .inl rfl|exact .inr rfl|assumption) :
 PS X (.AugAssign (.Name x pos') op e pos) (Em i te ti):=by
 intro pins s σ H D I h
 obtain⟨v,e1,h⟩:=h
 obtain⟨m,hn,hl⟩:=I.loc
 have vis:mq X.env.scope x:=by rcases hx with k|k;exact .inl k;exact .inr (.inl k)
 obtain⟨u,r,l⟩:=hl i x v hi e1 vis
 refine wpAny_AugAssign_Name ?_
 have go:wpAny (model X.prog X.w) X.A (eval e X.env) (λw s₂=>wpAny (model X.prog X.w) X.A (inplaceOp op u w) (λr s₃=>wpAny (model X.prog X.w) X.A (storeName X.env x r) (λ_=>SP X pins D .next) X.xe s₃) X.xe s₂) X.xe s:=by
  refine ĩ (he pins s σ H _ I h) λw s1 ⟨y,H1,I1,r1,q1⟩=>?_
  refine ĩ (ho pins s1 σ H1 v y u w _ I1 r r1 q1) λz s2 ⟨zv,H2,I2,r2,q2⟩=>?_
  exact bF I2 hN hi hx r2 (λs3 I3=>⟨_,H2,I3,q2⟩) hf
 rcases l with⟨hk,hm⟩|⟨hk,c,hc,hcell⟩
 ·exact wpAny_loadName_local I.ok.kind hk hn hm go
 ·rcases hk with hk|hk
  ·exact wpAny_loadName_cell I.ok.kind hk hc hcell go
  ·rcases hx with k|k
   ·have:X.env.scope.names.lookup x=some .free:=hk
    rw[k] at this;cases this
   ·have:X.env.scope.names.lookup x=some .free:=hk
    rw[k] at this;cases this
def Jv(f:Int->Int->Int):CG:=λx y H Q=>∃i j,x=.int i/\y=.int j/\Q (.int (f i j)) H
end
section
variable{X:Cx}{pos:Pos}
def vM(c:TT)(tb:TS):TS:=λD σ H=>∃W:Nat->St->Hp->Prop,(∃m,W m σ H)/\∀m σ H,W m σ H->
 c σ H λb H1=>if b=true then ∃N:St->Hp->Prop,(∀σ' H',N σ' H'->∃m',m'<m/\W m' σ' H')/\tb {D with nx:=N,ct:=N,bk:=D.nx} σ H1 else D.nx σ H1
def mQ{c:Expr}{body:List Stmt}{tc:TT}{tb:TS}(hp:PassesOwn (model X.prog X.w) X.A X.env X.xe)(hc:PT X c tc)(hb:ź X body tb):PS X (.While c body [] pos) (vM tc tb):=by
 intro pins s σ H D I h
 obtain⟨W,⟨m0,w0⟩,turn⟩:=h
 refine wpAny_While (codeAny_whileLoop (λn s'=>∃σ' H',Inv X pins σ' H' s'/\W n σ' H') ?_ m0 ⟨σ,H,I,w0⟩)
 rintro n s1 ⟨σ1,H1,I1,w1⟩
 refine wpAny_passesOwn hp (ĩ (hc pins s1 σ1 H1 _ I1 (turn n σ1 H1 w1)) λb s2 ⟨H2,I2,q2⟩=>?_)
 cases b with
 |true=>
  obtain⟨N,hN,q2⟩:=q2
  rw[if_pos rfl]
  refine wpAny_passesOwn hp (ĩ (hb pins s2 σ1 H2 _ I2 q2) λf s3 q3=>?_)
  cases f with
  |next=>
   obtain⟨σ3,H3,I3,n3⟩:=q3
   obtain⟨m',hm,w3⟩:=hN σ3 H3 n3
   exact⟨m',hm,σ3,H3,I3,w3⟩
  |cont=>
   obtain⟨σ3,H3,I3,n3⟩:=q3
   obtain⟨m',hm,w3⟩:=hN σ3 H3 n3
   exact⟨m',hm,σ3,H3,I3,w3⟩
  |brk=>exact q3
  |ret v=>exact q3
 |false=>
  rw[if_neg Bool.false_ne_true]
  exact wpAny_execs_nil ⟨σ1,H2,I2,q2⟩
end
structure It where
 go:Nat->Hp->Prop
 CJ:Nat->Hp->V->Hp->Prop
 stop:Nat->Hp->Prop
def cP(X:Cx)(pins:List (Addr×Obj))(H:Hp)(b:Addr):Prop:=
 H b=none/\b≠X.env.locals/\b∉X.fs/\(b∈X.ex\/X.s₀.heap.objs.size<=b)/\(∀x c,X.env.cells.lookup x=some c->c≠b)/\∀p∈X.pn++pins,p.1≠b
def Inv.qT{X:Cx}{pins:List (Addr×Obj)}{σ:St}{H H':Hp}{s:Shared}{b:Addr}(I:Inv X pins σ H s)(hb:s.heap.objs.size<=b)(hn:H' b=none):cP X pins H' b:=by
 refine⟨hn,Nat.ne_of_gt (Nat.lt_of_lt_of_le I.lt hb),I.Ea hb,.inr (Nat.le_trans I.sz hb),λx c e z=>?_,λp hp z=>?_⟩
 ·obtain⟨v,q⟩:=I.cell x c e
  exact absurd (Nat.lt_of_lt_of_le q.lt (by rw[z];exact hb)) (Nat.lt_irrefl _)
 ·exact absurd (Nat.lt_of_lt_of_le (Heap.lt_size (I.pin p hp).1) (by rw[z];exact hb)) (Nat.lt_irrefl _)
structure Turn(P:Program)(w:World)(K:PySem.W.Frag)(tg:Expr)(J:It)(fp:List Addr)(it:Addr)(tn:Nat->Heap->Prop):Prop where
 mem:it∈fp
 obj:∀i h,tn i h->∀b∈fp,∃o,h.get? b=some o/\∀v,o.data≠ .cell v
 keep:∀i h h',tn i h->(∀b∈fp,∀o,h.get? b=some o->h'.get? b=some o)->tn i h'
 item:∀(X:Cx),X.prog=P->X.w=w->X.K=K->X.calm=true->∀(i:Nat) (pins:List (Addr×Obj)) (s:Shared) (σ:St) (H:Hp) (E:Value->Shared->Prop),Inv X pins σ H s->(∀b∈fp,cP X pins H b)->tn i s.heap->J.go i H->
  wpAny (model P w) X.A (pyNext (.ref it)) (λr s1=>∃u,r=some u/\
   wpAny (model P w) X.A (letOwnedTupleGo tg (.ref it) u) (λ_ s2=>∃x H',Inv X pins σ H' s2/\RelV x u/\J.CJ i H x H'/\tn (i+1) s2.heap/\∀b∈fp,H' b=none) E s1) E s
 done:∀(X:Cx),X.prog=P->X.w=w->X.K=K->X.calm=true->∀(i:Nat) (pins:List (Addr×Obj)) (s:Shared) (σ:St) (H:Hp) (E:Value->Shared->Prop),Inv X pins σ H s->(∀b∈fp,cP X pins H b)->tn i s.heap->J.stop i H->
  wpAny (model P w) X.A (pyNext (.ref it)) (λr s1=>r=none/\Inv X pins σ H s1) E s
 self:∀(A:Around) (i:Nat) (s:Shared) (Q:Value->Shared->Prop) (E:Value->Shared->Prop),tn i s.heap->Q (.ref it) s->wpAny (model P w) A (pyIter (.ref it)) Q E s
abbrev TI:=St->Hp->(It->Hp->Prop)->Prop
def PIE(X:Cx)(pins:List (Addr×Obj))(σ:St)(tg:Expr)(R:It->Hp->Prop)(itv:Value)(s2:Shared):Prop:=
 ∃(it:Addr) (fp:List Addr) (tn:Nat->Heap->Prop) (J:It) (H':Hp),itv=.ref it/\Inv X pins σ H' s2/\Turn X.prog X.w X.K tg J fp it tn/\tn 0 s2.heap/\(∀b∈fp,cP X pins H' b)/\R J H'
def PI(X:Cx)(tg iter:Expr)(wi:TI):Prop:=
 ∀(pins:List (Addr×Obj)) (s:Shared) (σ:St) (H:Hp) (R:It->Hp->Prop),Inv X pins σ H s->wi σ H R->
  wpAny (model X.prog X.w) X.A (eval iter X.env) (λv s1=>wpAny (model X.prog X.w) X.A (pyIter v) (PIE X pins σ tg R) X.xe s1) X.xe s
def jq{M:Model}{A:Around}{E:Value->Shared->Prop}{s:Shared}{tg:Expr}{it:Addr}{u:Value}{o:Obj}{n:String}{vs:Array Value}{Q:Unit->Shared->Prop}(ho:s.heap.get? it=some o)(hc:o.cls=.type n)(hd:o.data=.fields vs)
 (hn:["enumerate","zip","dict_itemiterator","dict_reverseitemiterator","odict_iterator","itertools.zip_longest","itertools.pairwise"].contains n=false)(hQ:Q () s):wpAny M A (letOwnedTupleGo tg (.ref it) u) Q E s:=by
 unfold letOwnedTupleGo
 cases tg<;>first
  |exact wpAny_pure hQ
  |(cases u<;>first
     |exact wpAny_pure hQ
     |(refine wpAny_bind (wpAny_load ho ?_)
       rw[hc,hd]
       show wpAny M A (if(["enumerate","zip","dict_itemiterator","dict_reverseitemiterator","odict_iterator","itertools.zip_longest","itertools.pairwise"].contains n && vs[0]?== some (rawInt _))=true then _ else _) Q E s
       rw[if_neg (by intro h;rw[hn,Bool.false_and] at h;cases h)]
       exact wpAny_pure hQ))
def Ih(K:PySem.W.Frag)(a:Addr):It:=
 ⟨λi H=>∃xs x,Ľ K H a xs/\xs[i]?=some x,λi H x H'=>H'=H/\∀xs,Ľ K H a xs->xs[i]?=some x,λi H=>∃xs,Ľ K H a xs/\xs.length<=i⟩
def Ii(K:PySem.W.Frag)(a:Addr):It:=
 ⟨λi H=>∃xs x,Ŭ K H a xs/\xs[i]?=some x,λi H x H'=>H'=H/\∀xs,Ŭ K H a xs->xs[i]?=some x,λi H=>∃xs,Ŭ K H a xs/\xs.length<=i⟩
def CK(lo:Int)(n:Nat):It:=⟨λi _=>i<n,λi H x H'=>H'=H/\x=.int (lo+i),λi _=>n<=i⟩
def lg{P:Program}{w:World}{K:PySem.W.Frag}{tg:Expr}(a it:Addr):Turn P w K tg (Ih K a) [it] it (λi h=>h.IsListIter it a i) where
 mem:=by simp
 obj:=λi h st b hb=>by
  have e:b=it:=by simpa using hb
  subst e
  obtain⟨o,e,c,d⟩:=st
  exact⟨o,e,λv z=>by rw[d] at z;cases z⟩
 keep:=λi h h' st k=>st.at λo e=>k it (by simp) o e
 item:=by
  intro X hP hw hK hc i pins s σ H E I hf st hg
  subst hP hw hK
  obtain⟨xs,x,hq,hx⟩:=hg
  obtain⟨its,rv,p,hz⟩:=I.list hq
  obtain⟨u,hu,ru⟩:=rv.get hx
  obtain⟨f0,f1,f2,f3,f4,f5⟩:=hf it (by simp)
  refine wpAny_pyNext_list_item st p.isList (x:=u) (by simpa using hu) λh' st' sb=>?_
  have I1:Inv X pins σ H {s with heap:=h'}:=I.turned (t':=s.toks) (λb o hb e=>(sb.2 b hb).trans e) f0 f1 f3 f4 f5
  obtain⟨o,e,c,d⟩:=id st'
  exact⟨u,rfl,jq (s:={s with heap:=h'}) e c d (by decide) ⟨x,H,I1,ru,⟨rfl,λys hy=>by rw[I.mH hy hq];exact hx⟩,st',λb hb=>(hf b hb).1⟩⟩
 done:=by
  intro X hP hw hK hc i pins s σ H E I hf st hg
  subst hP hw hK
  obtain⟨xs,hq,hx⟩:=hg
  obtain⟨its,rv,p,hz⟩:=I.list hq
  obtain⟨f0,f1,f2,f3,f4,f5⟩:=hf it (by simp)
  have hl:=rv.length
  exact wpAny_pyNext_list_end (I.ok.hd hc) st p.isList (by simp;omega) λh' eb=>⟨rfl,I.turned (t':=s.toks) (λb o hb e=>eb b o hb e) f0 f1 f3 f4 f5⟩
 self:=λ_ _ _ _ _ st h=>wpAny_pyIter_listiter st h
def iG{P:Program}{w:World}{K:PySem.W.Frag}{tg:Expr}(a it:Addr):Turn P w K tg (Ii K a) [it] it (λi h=>h.IsTupleIter it a i) where
 mem:=by simp
 obj:=λi h st b hb=>by
  have e:b=it:=by simpa using hb
  subst e
  obtain⟨o,e,c,d⟩:=st
  exact⟨o,e,λv z=>by rw[d] at z;cases z⟩
 keep:=λi h h' st k=>st.at λo e=>k it (by simp) o e
 item:=by
  intro X hP hw hK hc i pins s σ H E I hf st hg
  subst hP hw hK
  obtain⟨xs,x,hq,hx⟩:=hg
  obtain⟨its,rv,p,hz⟩:=I.tuple hq
  obtain⟨u,hu,ru⟩:=rv.get hx
  obtain⟨f0,f1,f2,f3,f4,f5⟩:=hf it (by simp)
  refine wpAny_pyNext_tuple_item st (show s.heap.IsTuple a its.toArray from p) (x:=u) (by simpa using hu) λh' st' sb=>?_
  have I1:Inv X pins σ H {s with heap:=h'}:=I.turned (t':=s.toks) (λb o hb e=>(sb.2 b hb).trans e) f0 f1 f3 f4 f5
  obtain⟨o,e,c,d⟩:=id st'
  exact⟨u,rfl,jq (s:={s with heap:=h'}) e c d (by decide) ⟨x,H,I1,ru,⟨rfl,λys hy=>by rw[I.k_ hy hq];exact hx⟩,st',λb hb=>(hf b hb).1⟩⟩
 done:=by
  intro X hP hw hK hc i pins s σ H E I hf st hg
  subst hP hw hK
  obtain⟨xs,hq,hx⟩:=hg
  obtain⟨its,rv,p,hz⟩:=I.tuple hq
  obtain⟨f0,f1,f2,f3,f4,f5⟩:=hf it (by simp)
  have hl:=rv.length
  exact wpAny_pyNext_tuple_end (I.ok.hd hc) st (show s.heap.IsTuple a its.toArray from p) (by simp;omega) λh' eb=>⟨rfl,I.turned (t':=s.toks) (λb o hb e=>eb b o hb e) f0 f1 f3 f4 f5⟩
 self:=λ_ _ _ _ _ st h=>wpAny_pyIter_tupleiter st h
def iH{P:Program}{w:World}{K:PySem.W.Frag}{tg:Expr}(it:Addr)(lo:Int)(n:Nat):Turn P w K tg (CK lo n) [it] it (λi h=>IsRangeIter h it (lo+(i:Nat)*1) ((n:Int)-(i:Nat)) 1) where
 mem:=by simp
 obj:=λi h st b hb=>by
  have e:b=it:=by simpa using hb
  subst e
  exact⟨_,st,λv z=>by
   have z':Data.fields _=Data.cell v:=z
   cases z'⟩
 keep:=λi h h' st k=>k it (by simp) _ st
 item:=by
  intro X hP hw hK hc i pins s σ H E I hf st hg
  subst hP hw hK
  obtain⟨f0,f1,f2,f3,f4,f5⟩:=hf it (by simp)
  have W:=Walks.range (prog:=X.prog) (w:=X.w) (I.ok.hd hc) it lo 1 n
  refine W.item i s _ _ hg st λv h' tk hv st' kk=>?_
  obtain⟨t,rfl⟩:=hv
  have I1:Inv X pins σ H {s with heap:=h',toks:=tk}:=I.turned (λb o hb e=>kk b o (by simpa using hb) e) f0 f1 f3 f4 f5
  refine⟨_,rfl,jq (s:={s with heap:=h',toks:=tk}) (n:= "range_iterator") st' rfl rfl (by decide) ⟨.int (lo+i),H,I1,⟨t,?_⟩,⟨rfl,rfl⟩,st',λb hb=>(hf b hb).1⟩⟩
  rw[Int.mul_one]
 done:=by
  intro X hP hw hK hc i pins s σ H E I hf st hg
  subst hP hw hK
  obtain⟨f0,f1,f2,f3,f4,f5⟩:=hf it (by simp)
  exact wpAny_pyNext_range_end (I.ok.hd hc) st (by have:n<=i:=hg;omega) λh' eb=>⟨rfl,I.turned (t':=s.toks) (λb o hb e=>eb b o hb e) f0 f1 f3 f4 f5⟩
 self:=λ_ _ _ _ _ st h=>wpAny_pyIter_rangeiter st h
end L2
namespace L2
open PySem PySem.Spec PyProof.Rows
section
variable{X:Cx}{tg:Expr}
def mR{pins:List (Addr×Obj)}{σ:St}{H:Hp}{s:Shared}{R:It->Hp->Prop}{E:Value->Shared->Prop}{lo hi:Int}{t u v:Tok}{tk:Nat}(I:Inv X pins σ H s)(h1: -(2 ^ 62)<=lo)(h2:lo<2 ^ 62)(h3: -(2 ^ 62)<=hi)(h4:hi<2 ^ 62)
 (q:R (CK lo (hi-lo).toNat) H):wpAny (model X.prog X.w) X.A (pyIter (.ref s.heap.objs.size)) (PIE X pins σ tg R) E {s with heap:=s.heap.push {cls:=.type "range",data:=.fields #[.int lo t,.int hi u,.int 1 v]},toks:=tk}:=by
 refine wpAny_pyIter_range (IsRange.new ..) (small_one h1 h2 h3 h4) ?_
 have I1:Inv X pins σ H {s with heap:=s.heap.push {cls:=.type "range",data:=.fields #[.int lo t,.int hi u,.int 1 v]},toks:=tk}:=I.kept λb o e=>Heap.get?_push_of_some _ e
 refine⟨(s.heap.push {cls:=.type "range",data:=.fields #[.int lo t,.int hi u,.int 1 v]}).objs.size,[(s.heap.push {cls:=.type "range",data:=.fields #[.int lo t,.int hi u,.int 1 v]}).objs.size],_,_,H,rfl,
  I1.kept (t':=tk) λb o e=>Heap.get?_push_of_some _ e,iH _ lo (hi-lo).toNat,?_,λb hb=>?_,q⟩
 ·have e1:lo+((0:Nat):Int)*1=lo:=by simp
  have e2:(((hi-lo).toNat:Nat):Int)-((0:Nat):Int)=Builtin.Range.rangeSize lo hi 1:=by rw[rangeSize_one];split<;>omega
  show IsRangeIter _ _ (lo+((0:Nat):Int)*1) ((((hi-lo).toNat:Nat):Int)-((0:Nat):Int)) 1
  rw[e1,e2]
  exact Heap.get?_push_size _ rfl
 ·have e:b=(s.heap.push {cls:=.type "range",data:=.fields #[.int lo t,.int hi u,.int 1 v]}).objs.size:=by simpa using hb
  subst e
  exact I1.qT (Nat.le_refl _) (I1.hok.fresh (Nat.le_refl _))
def yO(ta:TA):TI:=λσ H R=>ta σ H λvs H1=>∃j:Int,vs=[.int j]/\ -(2 ^ 62)<=j/\j<2 ^ 62/\R (CK 0 j.toNat) H1
def lq{a:Expr}{ta:TA}{p pos:Pos}(hg:Gl X "range")(hm:X.mg "range" =none)(ha:PA X [a] ta)(hs:starEach [a] X.env=[(false,eval a X.env)]:=by rfl):PI X tg (.Call (.Name "range" p) [a] [] pos) (yO ta):=by
 intro pins s σ H R I h
 refine Call_ (aA I hg hm boot_range (PyProof.Rows.callWith_type1 (ĩ (ha pos pins s σ H _ I h) λus s1 ⟨vs,H1,I1,r1,q1⟩=>?_) hs rfl))
 obtain⟨j,e,q1,q2,q⟩:=q1
 subst e
 cases r1 with
 |cons r rr=>
  cases rr
  obtain⟨t,rfl⟩:=r
  exact call_range_1 (mR I1 (by omega) (by omega) q1 q2 (by simpa using q))
def yP(wi:TI)(g:TG)(tb:TS):TS:=λD σ H=>wi σ H λJ H1=>∃W:Nat->Nat->St->Hp->Prop,(∃m,W 0 m σ H1)/\∀i m σ H,W i m σ H->
 (J.stop i H/\D.nx σ H)\/(J.go i H/\∃N:St->Hp->Prop,(∀σ' H',N σ' H'->∃m',m'<m/\W (i+1) m' σ' H')/\∀x H',J.CJ i H x H'->g x σ H' λσ2 H2=>tb {D with nx:=N,ct:=N,bk:=D.nx} σ2 H2)
def bG(fp:List Addr)(h:Heap):List (Addr×Obj):=fp.filterMap λb=>(h.get? b).map λo=>(b,o)
def Ŋ{fp:List Addr}{h:Heap}{b:Addr}{o:Obj}(hb:b∈fp)(e:h.get? b=some o):(b,o)∈bG fp h:=List.mem_filterMap.mpr ⟨b,hb,by rw[e];rfl⟩
def lu{fp:List Addr}{h:Heap}{p:Addr×Obj}(hp:p∈bG fp h):p.1∈fp/\h.get? p.1=some p.2:=by
 obtain⟨b,hb,e⟩:=List.mem_filterMap.mp hp
 cases q:h.get? b with
 |none=>rw[q] at e;cases e
 |some o=>
  rw[q] at e
  have e':(b,o)=p:=Option.some.inj e
  subst e'
  exact⟨hb,q⟩
def Inv.pinned{pins:List (Addr×Obj)}{σ:St}{H:Hp}{s:Shared}{fp:List Addr}(I:Inv X pins σ H s)(hf:∀b∈fp,cP X pins H b)(ho:∀b∈fp,∃o,s.heap.get? b=some o/\∀v,o.data≠ .cell v):Inv X (pins++bG fp s.heap) σ H s:=
 I.jo fun p hp=>(List.mem_append.mp hp).elim (fun z=>I.pin p (List.mem_append_right _ z)) fun z=>by
   obtain⟨hb,e⟩:=lu z
   obtain⟨f0,f1,f2,_⟩:=hf p.1 hb
   obtain⟨o,e',d⟩:=ho p.1 hb
   rw[e] at e';cases e'
   exact⟨e,f0,f1,f2,d⟩
def Inv.ż{pins pl:List (Addr×Obj)}{σ:St}{H:Hp}{s:Shared}(I:Inv X (pins++pl) σ H s):Inv X pins σ H s:=I.jo λp hp=>I.pin p (List.mem_append_right _ (List.mem_append_left _ hp))
def vN{iter:Expr}{body:List Stmt}{wi:TI}{g:TG}{tb:TS}{pos:Pos}(hp:PassesOwn (model X.prog X.w) X.A X.env X.xe)(hc:X.calm=true)(hi:PI X tg iter wi)(hg:PG X tg g)(hb:ź X body tb)
 (hs:∀x,foldedSetIterable iter X.env x=pure x:=by intro _;rfl):PS X (.For tg iter body [] pos) (yP wi g tb):=by
 intro pins s σ H D I h
 refine wpAny_For (ĩ (hi pins s σ H _ I h) λv s1 h1=>ĩ h1 λitv s2 h2=>?_) hs
 obtain⟨it,fp,tn,J,H2,e,I2,T,st2,f2,W,⟨m0,w0⟩,turn⟩:=h2
 subst e
 -- what stays true of the iterator's objects through the loop
 have stat:∀{H':Hp},(∀b∈fp,H' b=none)->∀b∈fp,cP X pins H' b:=λhn b hb=>⟨hn b hb,(f2 b hb).2⟩
 refine codeAny_forLoop_any (λn s'=>∃i σ' H',Inv X pins σ' H' s'/\tn i s'.heap/\(∀b∈fp,H' b=none)/\W i n σ' H') ?_ m0 ⟨0,σ,H2,I2,st2,λb hb=>(f2 b hb).1,w0⟩
 rintro n s3 ⟨i,σ3,H3,I3,st3,Ij,w3⟩
 rcases turn i n σ3 H3 w3 with⟨stop,qn⟩|⟨go,N,hN,step⟩
 ·refine wpAny_passesOwn hp (ĩ (T.done X rfl rfl rfl hc i pins s3 σ3 H3 X.xe I3 (stat Ij) st3 stop) λr s4 ⟨hr,I4⟩=>?_)
  subst hr
  exact wpAny_execs_nil ⟨σ3,H3,I4,qn⟩
 ·refine wpAny_passesOwn hp (ĩ (T.item X rfl rfl rfl hc i pins s3 σ3 H3 X.xe I3 (stat Ij) st3 go) λr s4 ⟨u,hr,h4⟩=>?_)
  subst hr
  refine wpAny_passesOwn hp (ĩ h4 λ_ s5 ⟨x,H5,I5,r5,y5,yt,CN⟩=>?_)
  have Jw:=I5.pinned (stat CN) (T.obj _ _ yt)
  refine wpAny_passesOwn hp (ĩ (hg _ s5 σ3 H5 x u _ Jw r5 (step x H5 y5)) λ_ s6 ⟨σ6,H6,I6,q6⟩=>?_)
  refine wpAny_passesOwn hp (ĩ (hb _ s6 σ6 H6 _ I6 q6) λf s7 q7=>?_)
  have again:∀{σ7:St} {H7:Hp},Inv X (pins++bG fp s5.heap) σ7 H7 s7->N σ7 H7->∃m,m<n/\∃i σ' H',Inv X pins σ' H' s7/\tn i s7.heap/\(∀b∈fp,H' b=none)/\W i m σ' H':=fun{σ7 H7} I7 n7=>by
   obtain⟨m',hm,w7⟩:=hN σ7 H7 n7
   refine⟨m',hm,i+1,σ7,H7,I7.ż,T.keep _ _ _ yt λb hb o e=>(I7.pin (b,o) (List.mem_append_right _ (List.mem_append_right _ (Ŋ hb e)))).1,λb hb=>?_,w7⟩
   obtain⟨o,e,d⟩:=T.obj _ _ yt b hb
   exact(I7.pin (b,o) (List.mem_append_right _ (List.mem_append_right _ (Ŋ hb e)))).2.1
  cases f with
  |next=>obtain⟨σ7,H7,I7,n7⟩:=q7;exact again I7 n7
  |cont=>obtain⟨σ7,H7,I7,n7⟩:=q7;exact again I7 n7
  |brk=>obtain⟨σ7,H7,I7,q7⟩:=q7;exact⟨σ7,H7,I7.ż,q7⟩
  |ret v=>obtain⟨x7,σ7,H7,I7,r7,q7⟩:=q7;exact⟨x7,σ7,H7,I7.ż,r7,q7⟩
end
end L2
namespace L2
open PySem PySem.Spec PyProof.Rows
abbrev R2:=V->V->Hp->VK->Prop
def ķ(X:Cx)(f:Value->Value->Sem Value)(r:R2):Prop:=
 ∀(pins:List (Addr×Obj)) (s:Shared) (σ:St) (H:Hp) (x y:V) (v u:Value) (Q:VK),Inv X pins σ H s->RelV x v->RelV y u->r x y H Q->
  wpAny (model X.prog X.w) X.A (f v u) (EP X pins σ Q) X.xe s
def ĺ(X:Cx)(f:Value)(r:List V->Hp->VK->Prop):Prop:=
 ∀(pins:List (Addr×Obj)) (s:Shared) (σ:St) (H:Hp) (xs:List V) (us:List Value) (Q:VK),Inv X pins σ H s->Vals xs us->r xs H Q->
  wpAny (model X.prog X.w) X.A (call f us) (EP X pins σ Q) X.xe s
def En(X:Cx)(r:V->Hp->(Bool->Hp->Prop)->Prop):Prop:=
 ∀(pins:List (Addr×Obj)) (s:Shared) (σ:St) (H:Hp) (x:V) (v:Value) (Q:Bool->Hp->Prop),Inv X pins σ H s->RelV x v->r x H Q->
  wpAny (model X.prog X.w) X.A (truthy v) (TP X pins σ Q) X.xe s
def yu(r:R2)(ta tb:TE):TE:=λσ H Q=>ta σ H λx H1=>tb σ H1 λy H2=>r x y H2 Q
def rI(C:Int->Int->Prop)(g:Int->Int->V):R2:=λx y H Q=>∃i j,x=.int i/\y=.int j/\C i j/\Q (g i j) H
def yw(g:Int->Int->V):R2:=λx y H Q=>∃i j,x=.int i/\y=.int j/\Q (g i j) H
section
variable{X:Cx}{a b c:Expr}{ta tb tc:TE}{pos:Pos}
def vO(ha:PE X a ta)(hb:PE X b tb){pins:List (Addr×Obj)}{s:Shared}{σ:St}{H:Hp}{R:V->V->Hp->Prop}(I:Inv X pins σ H s)
 (h:ta σ H λx H1=>tb σ H1 λy H2=>R x y H2){Q:Value->Shared->Prop}{f:Value->Value->Sem Value}
 (hf:∀v u s2 x y H2,Inv X pins σ H2 s2->RelV x v->RelV y u->R x y H2->wpAny (model X.prog X.w) X.A (f v u) Q X.xe s2) :
 wpAny (model X.prog X.w) X.A (eval a X.env) (λv s₁=>wpAny (model X.prog X.w) X.A (eval b X.env) (λu s₂=>wpAny (model X.prog X.w) X.A (f v u) Q X.xe s₂) X.xe s₁) X.xe s:=by
 refine ĩ (ha pins s σ H _ I h) λv s1 ⟨x,H1,I1,r1,q1⟩=>?_
 refine ĩ (hb pins s1 σ H1 _ I1 q1) λu s2 ⟨y,H2,I2,r2,q2⟩=>?_
 exact hf v u s2 x y H2 I2 r1 r2 q2
def uD{op:Operator}{r:R2}(ho:ķ X (binaryOp op) r)(ha:PE X a ta)(hb:PE X b tb):PE X (.BinOp a op b pos) (yu r ta tb):=by
 intro pins s σ H Q I h
 exact wpAny_BinOp (vO ha hb I h λv u s2 x y H2 I2 rx ry q=>ho pins s2 σ H2 x y v u Q I2 rx ry q)
def jr{f:Value->Value->Sem Value}{C:Int->Int->Prop}{g:Int->Int->Int}
 (rule:∀(i j:Int) (t u:Tok) (s:Shared) (Q:Value->Shared->Prop) (E:Value->Shared->Prop),C i j->Q (.int (g i j) s.toks) {s with toks:=s.toks+1}->wpAny (model X.prog X.w) X.A (f (.int i t) (.int j u)) Q E s) :
 ķ X f (rI C λi j=>.int (g i j)):=by
 intro pins s σ H x y v u Q I rx ry h
 obtain⟨i,j,rfl,rfl,hc,q⟩:=h
 obtain⟨t,rfl⟩:=rx
 obtain⟨t',rfl⟩:=ry
 exact rule i j t t' s _ _ hc ⟨.int (g i j),H,I.tok _,⟨_,rfl⟩,q⟩
def gb{f:Value->Value->Sem Value}{g:Int->Int->Int}
 (rule:∀(i j:Int) (t u:Tok) (s:Shared) (Q:Value->Shared->Prop) (E:Value->Shared->Prop),Q (.int (g i j) s.toks) {s with toks:=s.toks+1}->wpAny (model X.prog X.w) X.A (f (.int i t) (.int j u)) Q E s) :
 ķ X f (yw λi j=>.int (g i j)):=by
 intro pins s σ H x y v u Q I rx ry h
 obtain⟨i,j,rfl,rfl,q⟩:=h
 obtain⟨t,rfl⟩:=rx
 obtain⟨t',rfl⟩:=ry
 exact rule i j t t' s _ _ ⟨.int (g i j),H,I.tok _,⟨_,rfl⟩,q⟩
def Eo{f:Value->Value->Sem Value}{g:Int->Int->Bool}
 (rule:∀(i j:Int) (t u:Tok) (s:Shared) (Q:Value->Shared->Prop) (E:Value->Shared->Prop),Q (.bool (g i j)) s->wpAny (model X.prog X.w) X.A (f (.int i t) (.int j u)) Q E s) :
 ķ X f (yw λi j=>.bl (g i j)):=by
 intro pins s σ H x y v u Q I rx ry h
 obtain⟨i,j,rfl,rfl,q⟩:=h
 obtain⟨t,rfl⟩:=rx
 obtain⟨t',rfl⟩:=ry
 exact rule i j t t' s _ _ ⟨.bl (g i j),H,I,rfl,q⟩
def yQ(i j:Int):Prop:=0<j/\j<1073741824
def lA(i j:Int):Prop:=0<=j/\j<=1000000/\i.natAbs<2 ^ 64
def vP(i j:Int):Prop:=(-(2 ^ 64)<i/\i<2 ^ 64)\/(-(2 ^ 64)<j/\j<2 ^ 64)
def vP.ok{i j:Int}(h:vP i j):IntMulOk i j:=by
 rcases h with⟨h1,h2⟩|⟨h1,h2⟩
 ·exact .of_left (intBits_le_64 h1 h2)
 ·exact .of_right (intBits_le_64 h1 h2)
def iI(k:Nat):(0:Int)<=2 ^ k:=by
 rw[two_pow_cast]
 exact Int.natCast_nonneg _
def vQ:ķ X (binaryOp .Add) (yw λi j=>.int (i+j)):=gb λ_ _ _ _ _ _ _ q=>add_int q
def qU:ķ X (binaryOp .Mod) (rI (λ_ j=>j≠0) λi j=>.int (i.fmod j)):=jr λ_ _ _ _ _ _ _ hc q=>mod_int' hc q
def vR:ķ X (binaryOp .Pow) (rI lA λi j=>.int (i ^ j.toNat)):=jr λ_ _ _ _ _ _ _ hc q=>pow_int_small hc.1 hc.2.1 hc.2.2 q
def vU:ķ X (binaryOp .LShift) (rI lA λi j=>.int (i*2 ^ j.toNat)):=jr λ_ _ _ _ _ _ _ hc q=>lshift_int_small hc.1 hc.2.1 hc.2.2 q
def vV:ķ X (binaryOp .RShift) (rI (λ_ j=>0<=j) λi j=>.int (i / 2 ^ j.toNat)):=jr λi j _ _ _ _ _ hc q=>
 rshift_int hc (by rw[Int.fdiv_eq_ediv_of_nonneg i (iI _)];exact q)
def vW:ķ X (binaryOp .BitAnd) (yw λi j=>.int (Builtin.bitAnd i j)):=gb λ_ _ _ _ _ _ _ q=>and_int q
end
section
variable{X:Cx}{a b c:Expr}{ta tb tc:TE}{pos:Pos}
def yR:ķ X (compareOp .Gt) (yw λi j=>.bl (decide (j<i))):=Eo λ_ _ _ _ _ _ _ q=>gt_int q
def ķ.or{f:Value->Value->Sem Value}{r r':R2}(h:ķ X f r)(h':ķ X f r'):ķ X f (λx y H Q=>r x y H Q\/r' x y H Q):=by
 intro pins s σ H x y v u Q I rx ry q
 rcases q with q|q
 ·exact h pins s σ H x y v u Q I rx ry q
 ·exact h' pins s σ H x y v u Q I rx ry q
def dX(b:Expr){op:CmpOp}(h:op≠ .In:=by decide)(h2:op≠ .NotIn:=by decide):behindInMarks op b=false:=by
 have e1:(op== CmpOp.In)=false:=by cases op<;>first|rfl|exact absurd rfl h
 have e2:(op== CmpOp.NotIn)=false:=by cases op<;>first|rfl|exact absurd rfl h2
 cases b<;>simp[behindInMarks,e1,e2]
def qW{op:CmpOp}{r:R2}(ho:ķ X (compareOp op) r)(ha:PE X a ta)(hb:PE X b tb)(hm:behindInMarks op b=false):PE X (.Compare a [op] [b] pos) (yu r ta tb):=by
 intro pins s σ H Q I h
 exact wpAny_Compare1 (vO ha hb I h λv u s2 x y H2 I2 rx ry q=>ho pins s2 σ H2 x y v u Q I2 rx ry q) hm
def vX(K:PySem.W.Frag)(x:V)(H:Hp)(k:Bool):Prop:=
 match x with
 | .non=>k=false
 | .bl b=>k=b
 | .int i=>k=(i != 0)
 | .str y=>y.length<=sizeLine/\k=((y.length:Int) != 0)
 | .vp y=>y.size<=sizeLine/\k=((y.size:Int) != 0)
 | .ref p=>(∃xs,Ľ K H p xs/\k=!xs.isEmpty)\/(∃xs,Ŭ K H p xs/\k=!xs.isEmpty)\/∃kvs,H p=some (.dK kvs)/\k=!kvs.isEmpty
 |_=>False
def iJ{κ:Type}{kvs:List (κ×V)}{vs:List (κ×Value)}(r:KV kvs vs):(!vs.isEmpty)=!kvs.isEmpty:=by
 cases r<;>rfl
def bH{xs:List V}{its:List Value}(r:Vals xs its):(!its.toArray.isEmpty)=!xs.isEmpty:=by
 cases r<;>simp
def bI:(sizeLine:Nat)<2 ^ 63:=by rw[sizeLine_eq];decide
def vY:En X (λx H Q=>∃k,vX X.K x H k/\Q k H):=by
 intro pins s σ H x v Q I rx h
 obtain⟨k,e,q⟩:=h
 have hl:=bI
 have hs:sizeLine=16777216:=sizeLine_eq
 cases x with
 |non=>
  cases rx
  have e':k=false:=e
  subst e'
  exact truthy_none ⟨H,I,q⟩
 |bl b=>
  cases rx
  have e':k=b:=e
  subst e'
  exact wpAny_truthy_bool ⟨H,I,q⟩
 |int i=>
  obtain⟨t,rfl⟩:=rx
  have e':k=(i != 0):=e
  subst e'
  exact PySem.P.truthy_int ⟨H,I,q⟩
 |str y=>
  obtain⟨t,rfl⟩:=rx
  obtain⟨hy,e'⟩:y.length<=sizeLine/\k=((y.length:Int) != 0):=e
  subst e'
  exact PySem.P.truthy_str (by omega) ⟨H,I.tok _,q⟩
 |vp y=>
  obtain⟨t,rfl⟩:=rx
  obtain⟨hy,e'⟩:y.size<=sizeLine/\k=((y.size:Int) != 0):=e
  subst e'
  exact PySem.W.truthy_bytes (by omega) ⟨H,I.tok _,q⟩
 |ref p=>
  cases rx
  have e':(∃xs,Ľ X.K H p xs/\k=!xs.isEmpty)\/(∃xs,Ŭ X.K H p xs/\k=!xs.isEmpty)\/∃kvs,H p=some (.dK kvs)/\k=!kvs.isEmpty:=e
  rcases e' with⟨xs,hx,e'⟩|⟨xs,hx,e'⟩|⟨kvs,hx,e'⟩
  ·subst e'
   obtain⟨its,r,pl,hz⟩:=I.list hx
   have hlen:=r.length
   exact wpAny_truthy_list pl.isList (by simp only[List.size_toArray];omega) ⟨H,I.tok _,by rw[bH r];exact q⟩
  ·subst e'
   obtain⟨its,r,pl,hz⟩:=I.tuple hx
   have hlen:=r.length
   exact truthy_tuple pl (by simp only[List.size_toArray];omega) ⟨H,I.tok _,by rw[bH r];exact q⟩
  ·subst e'
   obtain⟨hz,hS,vs,r,m⟩:kvs.length<=sizeLine/\(p== sysModules)=false/\∃vs,KV kvs vs/\s.heap.DictOf (dO X.prog X.w) p vs:=I.hok p _ hx
   have hlen:kvs.length=vs.length:=Paired.length r
   exact wpAny_truthy_dict hS m (by omega) ⟨H,I.tok _,by rw[iJ r];exact q⟩
 |_=>exact(show False from e).elim
def mU(ha:PE X a ta)(he:∀whole,isTrue a X.env whole=(do let v <-whole;standAt a.pos;holding [v] (truthy v))) :
 PT X a (λσ H Q=>ta σ H λx H'=>∃k,vX X.K x H' k/\Q k H'):=by
 intro pins s σ H Q I h
 exact isTrue_plain (ĩ (ha pins s σ H _ I h) λv s1 ⟨x,H1,I1,r1,q1⟩=>vY pins s1 σ H1 x v Q I1 r1 q1) (he _)
def iK:ķ X (binaryOp .Add) (λx y H Q=>∃i j,x=.str i/\y=.str j/\i.length+j.length<=sizeLine/\Q (.str (i++j)) H):=by
 intro pins s σ H x y v u Q I rx ry h
 obtain⟨i,j,rfl,rfl,hz,q⟩:=h
 obtain⟨t,rfl⟩:=rx
 obtain⟨t',rfl⟩:=ry
 exact add_str (λt' tk=>⟨.str (i++j),H,I.tok _,⟨_,rfl⟩,q⟩) hz
def vals1{x:V}{us:List Value}(r:Vals [x] us):∃u,us=[u]/\RelV x u:=by
 cases r with
 |cons r1 r2=>cases r2;exact⟨_,rfl,r1⟩
def vals2{x y:V}{us:List Value}(r:Vals [x,y] us):∃u w',us=[u,w']/\RelV x u/\RelV y w':=by
 cases r with
 |cons r1 r2=>
  cases r2 with
  |cons r3 r4=>cases r4;exact⟨_,_,rfl,r1,r3⟩
def Ep(K:PySem.W.Frag)(x:V)(H:Hp)(n:Nat):Prop:=
 match x with
 | .str y=>y.length<=sizeLine/\n=y.length
 | .vp y=>y.size<=sizeLine/\n=y.size
 | .ref p=>(∃xs,Ľ K H p xs/\n=xs.length)\/∃xs,Ŭ K H p xs/\n=xs.length
 |_=>False
def mV:ĺ X (.builtin "len") (λxs H Q=>∃x n,xs=[x]/\Ep X.K x H n/\Q (.int n) H):=by
 intro pins s σ H xs us Q I r h
 obtain⟨x,n,rfl,e,q⟩:=h
 obtain⟨u,rfl,rx⟩:=vals1 r
 have hl:=bI
 have hs:sizeLine=16777216:=sizeLine_eq
 cases x with
 |str y=>
  obtain⟨t,rfl⟩:=rx
  obtain⟨hy,e'⟩:y.length<=sizeLine/\n=y.length:=e
  subst e'
  exact len_str (by omega) ⟨.int _,H,I.tok _,⟨_,rfl⟩,q⟩
 |vp y=>
  obtain⟨t,rfl⟩:=rx
  obtain⟨hy,e'⟩:y.size<=sizeLine/\n=y.size:=e
  subst e'
  exact PySem.W.len_bytes (by omega) ⟨.int _,H,I.tok _,⟨_,rfl⟩,q⟩
 |ref p=>
  cases rx
  have e':(∃xs,Ľ X.K H p xs/\n=xs.length)\/∃xs,Ŭ X.K H p xs/\n=xs.length:=e
  rcases e' with⟨xs,hx,e'⟩|⟨xs,hx,e'⟩
  ·subst e'
   obtain⟨its,r',pl,hz⟩:=I.list hx
   have hlen:=r'.length
   exact Calls.call_len_list pl.isList (by simp only[List.size_toArray];omega) ⟨.int xs.length,H,I.tok _,⟨_,by simp only[List.size_toArray];rw[hlen]⟩,q⟩
  ·subst e'
   obtain⟨its,r',pl,hz⟩:=I.tuple hx
   have hlen:=r'.length
   exact len_tuple pl (by simp only[List.size_toArray];omega) ⟨.int xs.length,H,I.tok _,⟨_,by simp only[List.size_toArray];rw[hlen]⟩,q⟩
 |_=>exact(show False from e).elim
def gj:ĺ X (.builtin "divmod") (λxs H Q=>∃i j,xs=[.int i,.int j]/\yQ i j/\∀p,H p=none->Q (.ref p) (upd H p (.tup [.int (i / j),.int (i % j)]))):=by
 intro pins s σ H xs us Q I r h
 obtain⟨i,j,rfl,⟨h1,h2⟩,q⟩:=h
 obtain⟨u,w',rfl,⟨t,rfl⟩,⟨t',rfl⟩⟩:=vals2 r
 refine divmod_int (by omega) ?_ (.inl (PyProof.noPylong_small (by omega)))
 rw[Int.fdiv_eq_ediv_of_nonneg i (by omega),Int.fmod_eq_emod_of_nonneg i (by omega)]
 have hn:H s.heap.objs.size=none:=I.hok.fresh (Nat.le_refl _)
 refine⟨.ref s.heap.objs.size,_,?_,rfl,q _ hn⟩
 refine I.laid (λb o e=>Heap.get?_push_of_some _ e) (Nat.le_refl _) ⟨by simp only[List.length_cons,List.length_nil];rw[sizeLine_eq];decide,[.int (i / j) s.toks,.int (i % j) (s.toks+1)],.cons ⟨_,rfl⟩ (.cons ⟨_,rfl⟩ .nil),?_⟩
 exact⟨_,Heap.get?_push_size s.heap rfl,rfl,0,rfl⟩
end
end L2
namespace L2
open PySem PySem.Spec PyProof.Rows
structure vZ(h:Heap)(x dx C:Addr)(mA:Str->Option Value):Prop where
 obj:h.get? x=some (PySem.W.instObj C dx)
 ns:h.Ns1 dx mA
 ne:dx≠x
def lB{h:Heap}{dx:Addr}{mA:Str->Option Value}(n:h.Ns1 dx mA):∃od,h.get? dx=some od/\∀name,PySem.W.lookIn name od=some (mA name):=by
 obtain⟨o,es,ep,ho,hd,hk,_,hm⟩:=n
 refine⟨o,ho,λname=>?_⟩
 have e:=hm name
 unfold nsFind findBy at e
 rw[<-Array.find?_toList] at e
 unfold PySem.W.lookIn
 rw[hd]
 dsimp only
 split
 ·rename_i y q
  rw[q] at e
  exact congrArg some e
 ·rename_i q
  rw[q] at e
  have a:es.toList.any (·.refKey)=false:=by
   rw[List.any_eq_false]
   intro y hy
   obtain⟨z,t,hkey⟩:=hk y (Array.mem_toList_iff.mp hy)
   simp[DictEntry.refKey,hkey]
  have a':¬es.toList.any (·.refKey)=true:=by rw[a];exact Bool.false_ne_true
  rw[if_neg a']
  exact congrArg some e
def vZ.look{h:Heap}{x dx C:Addr}{mA:Str->Option Value}(I:vZ h x dx C mA):∃od,PySem.W.InstAt h x (PySem.W.instObj C dx) C (some od)/\∀name,PySem.W.lookIn name od=some (mA name):=
 let ⟨od,ho,hl⟩:=lB I.ns
 ⟨od,⟨I.obj,rfl,rfl,ho⟩,hl⟩
section
variable{prog:Program}{w:World}{A:Around}{E:Value->Shared->Prop}{s:Shared}{K:PySem.W.Frag}{x dx C f:Addr}{mA:Str->Option Value}{name:Str}{v:Value}
end
section
variable{P:Program}{w:World}{H H':Hp}{h h':Heap}{a C dx:Addr}{fs fs':List (Str×V)}
def qX(hok:Ż P w H h)(e:H a=some (.ins C dx fs)):∃mA,vZ h a dx C mA/\(∀f,vq (fs.lookup f) (mA f))/\PySem.Within mA (fs.map (·.1))/\fs.length<=1000/\H dx=some (.own a):=by
 obtain⟨d,z,ne,ob,mA,n,r,q⟩:=(show Ĥ P w H h a (.ins C dx fs) from hok a _ e)
 exact⟨mA,⟨ob,n,ne⟩,r,q,z,d⟩
end
structure Cls(K:PySem.W.Frag)(C:Addr):Prop where
 pg:PySem.W.plainGet K C Str.empty=true
 hd:PySem.W.hasDictIn K C=true
 po:PySem.W.plainOver K C=true
 sa:PySem.W.findIn K (.ref C) "__setattr__" =some (some (.builtin "object.__setattr__"))
def Cls.get{K:PySem.W.Frag}{C:Addr}(c:Cls K C)(f:Str):PySem.W.plainGet K C f=true:=c.pg
section
variable{X:Cx}{pins:List (Addr×Obj)}{σ:St}{H:Hp}{s:Shared}{a C dx:Addr}{fs:List (Str×V)}{f:Str}{v:V}{A:Around}{E:Value->Shared->Prop}
end
section
variable{X:Cx}{o e value:Expr}{f:Str}{pos pos' tpos:Pos}{ta tv:TE}
end
section
variable{X:Cx}{pins:List (Addr×Obj)}{σ:St}{H:Hp}{s:Shared}{A:Around}{E:Value->Shared->Prop}{Q:Value->Shared->Prop}{c:Value}{b:Bool}
inductive aB(K:PySem.W.Frag)(H:Hp):V->Value->Prop where
 |non:aB K H .non (.type "NoneType")
 |bl (x:Bool):aB K H (.bl x) (.type "bool")
 |int (i:Int):aB K H (.int i) (.type "int")
 |str (x:Str):aB K H (.str x) (.type "str")
 |flt (x:UInt64):aB K H (.flt x) (.type "float")
 |lst {a:Addr} {xs:List V} (e:H a=some (.lst xs)):aB K H (.ref a) (.type "list")
 |ŉ {a:Addr} {o:Obj} {xs:List V} (e:H a=some (.ŉ o (.lst xs))):aB K H (.ref a) (.type "list")
 |tup {a:Addr} {xs:List V} (e:H a=some (.tup xs)):aB K H (.ref a) (.type "tuple")
 |dK {a:Addr} {kvs:List (Key×V)} (e:H a=some (.dK kvs)):aB K H (.ref a) (.type "dict")
 |dT {a:Addr} {kvs:List (List Key×V)} (e:H a=some (.dT kvs)):aB K H (.ref a) (.type "dict")
 |ins {a C dx:Addr} {fs:List (Str×V)} (e:H a=some (.ins C dx fs)) (cl:Cls K C) (ha:PySem.W.findIn K (.ref C) "__class__" =some (some (.builtin "object.__class__")))
   (hn:PySem.W.specialIn K (.builtin "object.__class__") "__get__" =some (some (.builtin "getset_descriptor.__get__"))) (htk:PySem.W.takesIn K (.builtin "object.__class__")=some true)
   (hm:PySem.W.mroIn K C (.type "object")=some true):aB K H (.ref a) (.ref C)
def Ņ{x:V}{u t:Value}(I:Inv X pins σ H s)(rx:RelV x u)(ty:aB X.K H x t)(e:PySem.W.kitOne X.K t c=some b)(h:∀tk,Q (.bool b) {s with toks:=tk}) :
 wpAny (model X.prog X.w) A (call (.builtin "isinstance") [u,c]) Q E s:=by
 cases ty with
 |non=>cases(show u=Value.none from rx);exact PySem.W.kia_one PySem.W.kitx_none I.dU True.intro e (λz=>nomatch z) h
 |bl y=>cases(show u=Value.bool y from rx);exact PySem.W.kia_one PySem.W.kitx_bool I.dU True.intro e (λz=>nomatch z) h
 |int i=>obtain⟨t,q⟩:=(show ∃t,u=Value.int i t from rx);cases q;exact PySem.W.kia_one PySem.W.kitx_int I.dU True.intro e (λz=>nomatch z) h
 |str y=>obtain⟨t,q⟩:=(show ∃t,u=Value.str y t from rx);cases q;exact PySem.W.kia_one PySem.W.kitx_str I.dU True.intro e (λz=>nomatch z) h
 |flt y=>obtain⟨t,q⟩:=(show ∃t,u=Value.float y t from rx);cases q;exact PySem.W.kia_one PySem.W.kitx_float I.dU True.intro e (λz=>nomatch z) h
 |@lst a xs ea=>
  cases(show u=Value.ref a from rx)
  obtain⟨_,_,n,_,h1⟩:=(show Ĥ X.prog X.w H s.heap a (.lst xs) from I.hok a _ ea)
  exact PySem.W.kia_one PySem.W.kitx_list I.dU ⟨_,h1,rfl⟩ e (λz=>nomatch z) h
 |@ŉ a ob xs ea=>
  cases(show u=Value.ref a from rx)
  obtain⟨_,_,_,n,_,h1⟩:=(show Ĥ X.prog X.w H s.heap a (.ŉ ob (.lst xs)) from I.hok a _ ea)
  exact PySem.W.kia_one PySem.W.kitx_list I.dU ⟨_,h1,rfl⟩ e (λz=>nomatch z) h
 |@tup a xs ea=>
  cases(show u=Value.ref a from rx)
  obtain⟨_,_,_,p⟩:=(show Ĥ X.prog X.w H s.heap a (.tup xs) from I.hok a _ ea)
  obtain⟨o,h1,h2,_⟩:=p
  exact PySem.W.kia_one PySem.W.kitx_tuple I.dU ⟨o,h1,h2⟩ e (λz=>nomatch z) h
 |@dK a kvs ea=>
  cases(show u=Value.ref a from rx)
  obtain⟨_,_,vs,_,p⟩:=(show Ĥ X.prog X.w H s.heap a (.dK kvs) from I.hok a _ ea)
  obtain⟨o,es,ep,h1,h2,_⟩:=p
  exact PySem.W.kia_one PySem.W.kitx_dict I.dU ⟨o,h1,h2.1⟩ e (λz=>nomatch z) h
 |@dT a kvs ea=>
  cases(show u=Value.ref a from rx)
  obtain⟨_,_,xs,_,o,es,ep,h1,h2,_⟩:=(show Ĥ X.prog X.w H s.heap a (.dT kvs) from I.hok a _ ea)
  exact PySem.W.kia_one PySem.W.kitx_dict I.dU ⟨o,h1,h2.1⟩ e (λz=>nomatch z) h
 |@ins a C dx fs ea cl ha hn htk hm=>
  cases(show u=Value.ref a from rx)
  obtain⟨mA,O,_⟩:=qX I.hok ea
  obtain⟨od,J,_⟩:=O.look
  exact PySem.W.kia_one (PySem.W.kitx_own (cl.get _) cl.hd ha hn htk hm) I.dU J e (λz=>nomatch z) h
end
end L2
namespace L2
open PySem PySem.Spec PyProof.Rows
structure ł(k:Nat)(A:Around):Prop where
 hd:A.handled=none
 dp:A.depth+3*k+5<recursionLimit
 un:A.units+16*k+200<cLine
def ł.mono{j k:Nat}{A:Around}(r:ł k A)(h:j<=k):ł j A:=⟨r.hd,by have:=r.dp;omega,by have:=r.un;omega⟩
theorem ł.deeper{k:Nat}{A:Around}(r:ł (k+1) A)(env:Env):ł k (A.deeper env):=
 ⟨r.hd,by have:=r.dp;show A.depth+1+3*k+5<_;omega,by have:=r.un;show A.units+3+16*k+200<_;omega⟩
theorem ł.depth{k:Nat}{A:Around}(r:ł k A):A.depth<recursionLimit:=by have:=r.dp;omega
theorem ł.units{k:Nat}{A:Around}(r:ł k A):A.units+64<cLine:=by have:=r.un;omega
def Er:TA:=λ_ H Q=>Q [] H
def yS(ta:TE)(tr:TA):TA:=λσ H Q=>ta σ H λx H1=>tr σ H1 λxs H2=>Q (x::xs) H2
section
variable{X:Cx}{e:Expr}{es:List Expr}{te:TE}{t:TA}{pos:Pos}
def dY:PA X [] Er:=λ_ _ _ _ H Q I h=>Calls.spliced_nil ⟨[],H,I,.nil,h⟩
def Ž(ha:PE X e te)(hr:PA X es t)(hs:starEach (e::es) X.env=(false,eval e X.env)::starEach es X.env:=by rfl):PA X (e::es) (yS te t):=by
 intro pos pins s σ H Q I h
 rw[hs]
 show wpAny _ _ (spliced ((false,eval e X.env)::backTo pos (starEach es X.env))) _ _ s
 refine Calls.spliced_cons (ĩ (ha pins s σ H _ I h) λu s1 ⟨x,H1,I1,r1,q1⟩=>?_)
 exact ĩ (hr pos pins s1 σ H1 _ I1 q1) λus s2 ⟨xs,H2,I2,r2,q2⟩=>⟨x::xs,H2,I2,.cons r1 r2,q2⟩
def Es(t:TA):TE:=λσ H Q=>t σ H λxs H1=>xs.length<=sizeLine/\∀p,H1 p=none->Q (.ref p) (upd H1 p (.tup xs))
def Et(t:TA):TE:=λσ H Q=>t σ H λxs H1=>xs.length<=sizeLine/\∀p,H1 p=none->Q (.ref p) (upd H1 p (.lst xs))
def wg{x1}(h:PA X es t):PE X (.Tuple es x1 pos) (Es t):=by
 intro pins s σ H Q I hq
 refine wpAny_Tuple_spliced (ĩ (h pos pins s σ H _ I hq) λus s1 ⟨xs,H1,I1,r,z,q⟩=>⟨by rw[<-r.length];exact z,?_⟩)
 have hf:H1 s1.heap.objs.size=none:=I1.hok.fresh (Nat.le_refl _)
 refine⟨.ref s1.heap.objs.size,upd H1 s1.heap.objs.size (.tup xs),I1.laid (t':=s1.toks) (λb u e=>Heap.get?_push_of_some _ e) (Nat.le_refl _) ?_,rfl,q _ hf⟩
 exact⟨z,us,r,⟨_,Heap.get?_push_size _ rfl,rfl,_,rfl⟩⟩
def wj(h:PA X es t):PE X (.List es pos) (Et t):=by
 intro pins s σ H Q I hq
 refine wpAny_List_spliced (ĩ (h pos pins s σ H _ I hq) λus s1 ⟨xs,H1,I1,r,z,q⟩=>⟨by rw[<-r.length];exact z,?_⟩)
 have hf:H1 s1.heap.objs.size=none:=I1.hok.fresh (Nat.le_refl _)
 refine⟨.ref s1.heap.objs.size,upd H1 s1.heap.objs.size (.lst xs),I1.laid (t':=s1.toks) (λb u e=>Heap.get?_push_of_some _ e) (Nat.le_refl _) ?_,rfl,q _ hf⟩
 exact⟨z,us,0,r,Heap.get?_push_size _ rfl⟩
end
abbrev Sp:=List V->Hp->VK->XK->Prop
abbrev aC:=List Env->Hp->Shared->XK->Value->Shared->Prop
structure qY(P:Program)(w:World)(K:PySem.W.Frag)(mg:Str->Option Value)(base:Heap)(A:Around)(outer:List Env)(s:Shared)(H:Hp):Prop where
 frames:A.frames=some outer
 mod:Mod K mg base
 bs:∀b o,base.get? b=some o->s.heap.get? b=some o/\H b=none
 uw:base.objs.size<=s.heap.objs.size
 bD:s.heap.FunFrames base outer
 yr:∀b∈frs outer,H b=none
 hok:Ż P w H s.heap
 bare:AllBare s.gens
 tb:TabsOk K mg base H
def CE(outer:List Env)(P:Program)(w:World)(H:Hp)(s:Shared)(Q:VK)(u:Value)(s':Shared):Prop:=
 ∃v H',s'.os=s.os/\AllBare s'.gens/\Un (frs outer) [] H H' s.heap s'.heap/\Ż P w H' s'.heap/\RelV v u/\Q v H'
def CR(CX:aC)(outer:List Env)(P:Program)(w:World)(H:Hp)(s:Shared)(Q:VK)(E:XK)(r:Result)(s':Shared):Prop:=
 match r with
 | .ok (.ret u)=>CE outer P w H s Q u s'
 | .ok _=>False
 | .error e=>CX outer H s E e s'
structure į(P:Program)(w:World)(K:PySem.W.Frag)(mg:Str->Option Value)(base:Heap)(CX:aC)(k:Nat)(f:Addr)(fd:FuncData)(ps:List Str)(sp:Sp):Prop where
 len:∀vs H Q E,sp vs H Q E->vs.length=ps.length
 run:∀(A:Around) (outer:List Env) (s:Shared) (H:Hp) (args:Args) (us:List Value) (vs:List V) (Q:VK) (E:XK),ł k A->qY P w K mg base A outer s H->BindsTo s fd args (ps.zip us)->Vals vs us->sp vs H Q E->
  codeAny (model P w) A (.call (.ref f) args) (CR CX outer P w H s Q E) s
def į.imp{P:Program}{w:World}{K:PySem.W.Frag}{mg:Str->Option Value}{base:Heap}{CX:aC}{k:Nat}{f:Addr}{fd:FuncData}{ps:List Str}{sp Ik:Sp}(F:į P w K mg base CX k f fd ps sp)
 (h:∀vs H Q E,Ik vs H Q E->sp vs H Q E):į P w K mg base CX k f fd ps Ik:=
 ⟨λvs H Q E q=>F.len vs H Q E (h _ _ _ _ q),λA outer s H args us vs Q E hr he hb hv hs=>F.run A outer s H args us vs Q E hr he hb hv (h _ _ _ _ hs)⟩
section
variable{X:Cx}{pins:List (Addr×Obj)}{σ:St}{H:Hp}{s s':Shared}
def Inv.env0(I:Inv X pins σ H s):qY X.prog X.w X.K X.mg X.base X.A X.stack s H:=
 ⟨I.ok.frames,I.ok.mod,I.bs,Nat.le_trans I.ok.uw I.sz,I.stack,I.jm,I.hok,I.bare,I.tb⟩
def Inv.after{Q:VK}{u:Value}(I:Inv X pins σ H s)(h:CE X.stack X.prog X.w H s Q u s'):EP X pins σ Q u s':=by
 obtain⟨v,H',os,bare,un,hok,r,q⟩:=h
 obtain⟨hh,g,d,t,os'⟩:=s'
 obtain rfl:os'=s.os:=os
 exact⟨v,H',I.call (h':=hh) (g':=g) (d':=d) (t':=t) (ch:=[]) un hok bare (λb z=>absurd z (by simp)),r,q⟩
end
def Binds(K:PySem.W.Frag)(fd:FuncData)(ps:List Str)(ds:List Value):Prop:=
 ∀(s:Shared) (us:List Value),K.In s.heap->(us++ds).length=ps.length->BindsTo s fd ⟨us,[]⟩ (ps.zip (us++ds))
def Binds.all{K:PySem.W.Frag}{fd:FuncData}{ps:List Str}(h:∀us:List Value,us.length=ps.length->bindArgs fd ⟨us,[]⟩=pure (ps.zip us)):Binds K fd ps []:=λs us _ hl=>by
 rw[List.append_nil] at hl ⊢
 exact .of_eq (h us hl)
section
variable{X:Cx}{CX:aC}{k:Nat}{f C:Addr}{fd:FuncData}{ps:List Str}{sp:Sp}{Il:List V}{ds:List Value}{E:XK}{x m:Str}{p pos apos:Pos}{e o:Expr}{es:List Expr}{ta:TE}{t:TA}
end
section
variable{X:Cx}{CX:aC}{k:Nat}{f C:Addr}{fd:FuncData}{ps ks:List Str}{sp:Sp}{E:XK}{x m:Str}{p pos apos kpos:Pos}{e o:Expr}{es:List Expr}{kws:List Keyword}{te ta:TE}{t tk:TA}{nm:Option Str}
variable{g:List Value->List Value->List Value}{gV:List V->List V->List V}
end
structure Č(N P:List Str)(sc:Scope):Prop where
 kind:sc.kind=.function
 co:sc.isCoroutine=false
 gen:sc.isGenerator=false
 nd:N.Nodup
 pre:N.take P.length=P
 par:∀x∈P,sc.names.lookup x=some .local\/sc.names.lookup x=some .cell
 wu:∀y∈sc.names,y.2≠ .free
theorem cW{kindOf:Str->Option NameKind}{x:Str}:∀{binds:List (Str×Value)} {m:Str->Option Value},(∀v,(x,v)∉binds)->bindL kindOf binds m x=m x
 | [],_,_=>rfl
 |(n,v)::r,m,h=>by
  unfold bindL
  rw[cW λw hw=>h w (List.mem_cons_of_mem _ hw)]
  split
  ·have:x≠n:=by rintro rfl;exact h v List.mem_cons_self
   simp[this]
  ·rfl
theorem cX{kindOf:Str->Option NameKind}{x:Str}:∀{binds:List (Str×Value)} {m:Str->Option Value},(∀v,(x,v)∉binds)->bindC kindOf binds m x=m x
 | [],_,_=>rfl
 |(n,v)::r,m,h=>by
  unfold bindC
  rw[cX λw hw=>h w (List.mem_cons_of_mem _ hw)]
  split
  ·rfl
  ·have:x≠n:=by rintro rfl;exact h v List.mem_cons_self
   simp[this]
theorem cY{kindOf:Str->Option NameKind}{x:Str}{v:Value}:∀{P:List Str} {vs:List Value} {i:Nat} {m:Str->Option Value},P.Nodup->P[i]?=some x->vs[i]?=some v->kindOf x=some .local->
 bindL kindOf (P.zip vs) m x=some v
 | [],_,_,_,_,h,_,_=>by simp at h
 |_::_,[],_,_,_,_,h,_=>by simp at h
 |p::P,w::vs,0,m,nd,h1,h2,hk=>by
  simp at h1 h2;subst h1;subst h2
  show bindL kindOf ((p,w)::P.zip vs) m p=_
  unfold bindL
  rw[cW λv hv=>(List.nodup_cons.mp nd).1 (List.of_mem_zip hv).1,if_pos hk]
  simp
 |p::P,w::vs,i+1,m,nd,h1,h2,hk=>by
  show bindL kindOf ((p,w)::P.zip vs) m x=_
  unfold bindL
  exact cY (i:=i) (List.nodup_cons.mp nd).2 (by simpa using h1) (by simpa using h2) hk
theorem cZ{kindOf:Str->Option NameKind}{x:Str}{v:Value}:∀{P:List Str} {vs:List Value} {i:Nat} {m:Str->Option Value},P.Nodup->P[i]?=some x->vs[i]?=some v->kindOf x≠some .local->
 bindC kindOf (P.zip vs) m x=some v
 | [],_,_,_,_,h,_,_=>by simp at h
 |_::_,[],_,_,_,_,h,_=>by simp at h
 |p::P,w::vs,0,m,nd,h1,h2,hk=>by
  simp at h1 h2;subst h1;subst h2
  show bindC kindOf ((p,w)::P.zip vs) m p=_
  unfold bindC
  rw[cX λv hv=>(List.nodup_cons.mp nd).1 (List.of_mem_zip hv).1,if_neg hk]
  simp
 |p::P,w::vs,i+1,m,nd,h1,h2,hk=>by
  show bindC kindOf ((p,w)::P.zip vs) m x=_
  unfold bindC
  exact cZ (i:=i) (List.nodup_cons.mp nd).2 (by simpa using h1) (by simpa using h2) hk
def start(N:List Str)(vs:List V):St:=vs.map some++List.replicate (N.length-vs.length) none
def gk(CX:aC)(P:Program)(w:World)(K:PySem.W.Frag)(mg:Str->Option Value)(base:Heap)(N:List Str)(qual:Str)(scope:Scope)(f:Addr)(cd:Value)(A:Around)(outer:List Env)(s:Shared)(H:Hp)(E:XK):Cx where
 prog:=P
 w:=w
 K:=K
 mg:=mg
 base:=base
 A:=A.deeper (envOfC qual scope s.heap.objs.size f cd)
 N:=N
 s₀:= s
 H₀:= H
 env:=envOfC qual scope s.heap.objs.size f cd
 outer:=outer
 stack:=envOfC qual scope s.heap.objs.size f cd::outer
 ex:=[]
 calm:=true
 fn:=λ_=>true
 pn:=[]
 xe:=λe s'=>wpAny (model P w) (A.deeper (envOfC qual scope s.heap.objs.size f cd)) (leaving (envOfC qual scope s.heap.objs.size f cd) e) (λ_ s''=>CX outer H s E e s'') (λe' s''=>CX outer H s E e' s'') s'
def ž{sc:Scope}{n:Nat}{x:Str}(h:sc.names.lookup x=some .cell):∃c,(cellsFrom n sc.names []).lookup x=some c:=by
 have q:=PySem.W.cellsFrom_some sc.names n [] (.inl h)
 exact Option.isSome_iff_exists.mp q
def lC{CX:aC}{P:Program}{w:World}{K:PySem.W.Frag}{mg:Str->Option Value}{base:Heap}{N ps:List Str}{qual:Str}{scope:Scope}{f:Addr}{cd:Value}{A:Around}{outer:List Env}{s s1:Shared}{H:Hp}{E:XK}{us:List Value}{vs:List V}
 (S:Č N ps scope)(hd:A.handled=none)(e0:qY P w K mg base A outer s H)(hl:vs.length=ps.length)(r:Vals vs us)
 (x:InCallC s s.heap.objs.size (bindL (envOfC qual scope s.heap.objs.size f cd).kindOf (ps.zip us) λ_=>none) (cellsFrom (s.heap.objs.size+1) scope.names []) (bindC (envOfC qual scope s.heap.objs.size f cd).kindOf (ps.zip us) λ_=>none) s1) :
 Inv (gk CX P w K mg base N qual scope f cd A outer s H E) [] (start N vs) H s1:=by
 have hpl:ps.length<=N.length:=by have:=congrArg List.length S.pre;rw[List.length_take] at this;omega
 obtain⟨h1,tk,rfl,hk⟩:=x.done
 have yU:∀b:Addr,b∉(gk CX P w K mg base N qual scope f cd A outer s H E).ex:=λb z=>absurd (show b∈([]:List Addr) from z) (by simp)
 refine⟨⟨e0.mod,S.kind,rfl,rfl,Nat.le_refl _,λy z c h1 h2=>?_,λy hy=>?_,λy c _ h=>?_,λ_=>hd,Around.frames_deeper e0.frames,.inr ⟨rfl,rfl⟩,λb z=>absurd z (yU b),e0.bs,e0.uw,λb _ _=>yU b,λb z=>absurd z (yU b),e0.bD,e0.yr,e0.tb⟩,
  rfl,e0.bare,Un.kept hk,⟨_,x.toInCall.ns,λi y v h1 h2 h3=>?_⟩,λy c h=>⟨_,x.cell y c h⟩,e0.hok.fresh (Nat.le_refl _),λy c h=>?_,λp hp=>absurd (show p∈([]:List (Addr×Obj)) from hp) (by simp),e0.hok.kept hk,?_⟩
 ·exact name_of_addr x.apart (PySem.mem_of_lookup h1) (PySem.mem_of_lookup h2)
 ·have hy:scope.names.lookup y=some .cell\/scope.names.lookup y=some .free:=hy
  rcases hy with hy|hy
  ·exact ž hy
  ·exact absurd rfl (S.wu _ (PySem.mem_of_lookup hy))
 ·exact Nat.le_of_lt (x.above y c (PySem.mem_of_lookup h))
 ·have hi:i<vs.length:=by
   unfold start at h2
   by_cases hi:i<vs.length
   ·exact hi
   ·rw[List.getElem?_append_right (by simpa using hi)] at h2
    rw[List.getElem?_replicate] at h2
    split at h2<;>cases h2
  have ha:vs[i]?=some v:=by
   unfold start at h2
   rw[List.getElem?_append_left (by simpa using hi),List.getElem?_map] at h2
   cases e:vs[i]? with
   |none=>rw[e] at h2;cases h2
   |some a=>rw[e] at h2;cases h2;rfl
  obtain⟨u,hu,rv⟩:=r.get ha
  have hp:ps[i]?=some y:=by
   rw[<-S.pre,List.getElem?_take_of_lt (by omega)];exact h1
  have Im:ps.Nodup:=by rw[<-S.pre];exact S.nd.sublist (List.take_sublist _ _)
  refine⟨u,rv,?_⟩
  rcases S.par y (List.mem_of_getElem? hp) with k|k
  ·exact .inl ⟨k,cY Im hp hu k⟩
  ·obtain⟨c,e⟩:=ž (n:=s.heap.objs.size+1) k
   refine .inr ⟨.inl k,c,e,?_⟩
   have q:=x.cell y c e
   rw[cZ Im hp hu (by show scope.names.lookup y≠_;rw[k];decide)] at q
   exact q
 ·exact e0.hok.fresh (Nat.le_of_lt (x.above y c (PySem.mem_of_lookup h)))
 ·unfold start
  show _=N.length
  rw[List.length_append,List.length_map,List.length_replicate]
  omega
def yV{CX:aC}{P:Program}{w:World}{K:PySem.W.Frag}{mg:Str->Option Value}{base:Heap}{k:Nat}{f:Addr}{name qual:Str}{params:Arguments}{body:List Stmt}{scope:Scope}{dV kV doc pm cdv ct oc:Value}{an od:Option Addr}
 {osl:Array (Option Value)}{N ps:List Str}{sp:Sp}(lk:K.lookup f=some ⟨oc,od,.func (PySem.W.fnOf name qual params body scope dV kV doc pm an cdv ct),osl⟩)(hcd:PySem.W.codeIn K cdv qual=true)(S:Č N ps scope)
 (len:∀vs H Q E,sp vs H Q E->vs.length=ps.length)
 (hbody:∀(A:Around) (outer:List Env) (s:Shared) (H:Hp) (vs:List V) (Q:VK) (E:XK),ł k (A.deeper (envOfC qual scope s.heap.objs.size f cdv))→sp vs H Q E→
   ∃t,ź (gk CX P w K mg base N qual scope f cdv A outer s H E) body t/\t {nx:=λ_ H'=>Q .non H',rt:=Q} (start N vs) H) :
 į P w K mg base CX (k+1) f (PySem.W.fnOf name qual params body scope dV kV doc pm an cdv ct) ps sp:=by
 refine⟨len,λA outer s H args us vs Q E hr e0 hb r hsp=>?_⟩
 have hl:=len _ _ _ _ hsp
 have KX:K.In s.heap:=e0.mod.DY.keeps λb o e=>(e0.bs b o e).1
 have lim:s.heap.NoLimit:=e0.mod.nolimit.keeps λb o e=>(e0.bs b o e).1
 have hkind:∀y∈ps.zip us,scope.names.lookup y.1=some .local\/(scope.names.lookup y.1=some .cell/\((cellsFrom (s.heap.objs.size+1) scope.names []).lookup y.1).isSome=true):=λ⟨n,v⟩ hy=>by
  rcases S.par n (List.of_mem_zip hy).1 with q|q
  ·exact .inl q
  ·exact .inr ⟨q,PySem.W.cellsFrom_some _ _ _ (.inl q)⟩
 refine codeAny_call_function hr.depth (KX _ _ lk) rfl S.co S.gen rfl (PySem.W.codeRec_of KX hcd) (hb _ _ _ _ ?_)
 refine wpAny_newFunctionEnv_cells S.kind hkind λenv he s1 x=>?_
 subst he
 refine⟨lim.keeps x.toInCall.keep,codeAny_func ?_⟩
 obtain⟨t,ht,hq⟩:=hbody A outer s H vs Q E (hr.deeper _) hsp
 have I:Inv (gk CX P w K mg base N qual scope f cdv A outer s H E) [] (start N vs) H s1:=lC S hr.hd e0 hl r x
 refine wpAny_mono (ht [] s1 (start N vs) H _ I hq) (λfl s' hs=>?_) λe s' hs=>hs
 have fin:∀{σ':St} {H':Hp} {v:V} {u:Value},Inv (gk CX P w K mg base N qual scope f cdv A outer s H E) [] σ' H' s'->RelV v u->Q v H'->CE outer P w H s Q u s':=
  fun{σ' H' v u} J rv q=>⟨v,H',J.os,J.bare,J.base,J.hok,rv,q⟩
 cases fl with
 |ret u=>
  obtain⟨v,σ',H',J,rv,q⟩:=hs
  exact fin J rv q
 |next=>
  obtain⟨σ',H',J,q⟩:=hs
  exact fin (v:=V.non) (u:=Value.none) J rfl q
 |brk=>
  obtain⟨_,_,_,q⟩:=hs
  exact False.elim q
 |cont=>
  obtain⟨_,_,_,q⟩:=hs
  exact False.elim q
end L2
namespace L2
open PySem PySem.Spec PyProof.Rows
section
variable{X:Cx}{x:Str}{p pos:Pos}{e:Expr}{es:List Expr}{t:TA}{id T:String}{r:List V->Hp->VK->Prop}
def CP(r:List V->Hp->VK->Prop)(t:TA):TE:=λσ H Q=>t σ H λvs H1=>r vs H1 Q
def mW(hc:ĺ X (.builtin id) r)(hg:Gl X x)(hm:X.mg x=none)(hv:bootBuiltins x=some (.builtin id))(ha:PA X (e::es) t)(hn:x≠ "__name__" := by decide)(hdb:(x== ("__debug__" :Str))=false:=by decide)
 (he:starEach (e::es) X.env=(false,eval e X.env)::starEach es X.env:=by rfl)(hpl:(backTo pos (starEach es X.env)).any (·.1)=false:=by rfl):PE X (.Call (.Name x p) (e::es) [] pos) (CP r t):=by
 intro pins s σ H Q I h
 refine wpAny_Call_Name_kw (aA I hg hm hv ?_ hn hdb)
 exact PyProof.Rows.callWith_builtin1 (ĩ (ha pos pins s σ H _ I h) λus s1 ⟨vs,H1,I1,r1,q1⟩=>hc pins s1 σ H1 vs us Q I1 r1 q1) he hpl
def lE(hc:ĺ X (.type T) r)(hg:Gl X x)(hm:X.mg x=none)(hv:bootBuiltins x=some (.type T))(ha:PA X (e::es) t)(hn:x≠ "__name__" := by decide)(hdb:(x== ("__debug__" :Str))=false:=by decide)
 (he:starEach (e::es) X.env=(false,eval e X.env)::starEach es X.env:=by rfl)(hpl:(backTo pos (starEach es X.env)).any (·.1)=false:=by rfl):PE X (.Call (.Name x p) (e::es) [] pos) (CP r t):=by
 intro pins s σ H Q I h
 refine wpAny_Call_Name_kw (aA I hg hm hv ?_ hn hdb)
 exact PyProof.Rows.callWith_type1 (ĩ (ha pos pins s σ H _ I h) λus s1 ⟨vs,H1,I1,r1,q1⟩=>hc pins s1 σ H1 vs us Q I1 r1 q1) he hpl
end
end L2
namespace HT
open PySem PyProof.Rows
section
open PySem.SeqAt
open PySem.AutoSeq1 (wpAny_loadPart')
open PySem.MeetsSeq PySem.MeetsSeq2 PySem.MeetsSeq3
end
section
variable{prog:Program}{w:World}{A:Around}{E:Value->Shared->Prop}{s:Shared}
def ľ(n d:Nat):Option Int->Nat
 |none=>d
 |some v=>if v<0 then(v+(n:Int)).toNat else min v.toNat n
def dZ(n d k:Nat):ľ n d (some (k:Int))=min k n:=by
 show(if(k:Int)<0 then((k:Int)+(n:Int)).toNat else min (k:Int).toNat n)=min k n
 rw[if_neg (by omega),Int.toNat_natCast]
def mX(n d:Nat)(hd:d<=n)(o:Option Int):ľ n d o<=n:=by
 cases o with
 |none=>exact hd
 |some v=>
  show(if v<0 then(v+(n:Int)).toNat else min v.toNat n)<=n
  by_cases hv:v<0
  ·rw[if_pos hv];omega
  ·rw[if_neg hv];exact Nat.min_le_right _ _
end
end HT
namespace L2
open PySem PySem.Spec PyProof.Rows
abbrev TO:=St->Hp->(Option Int->Hp->Prop)->Prop
def PO(X:Cx)(e:Option Expr)(t:TO):Prop:=
 ∀(pins:List (Addr×Obj)) (s:Shared) (σ:St) (H:Hp) (Q:Option Int->Hp->Prop),Inv X pins σ H s->t σ H Q->
  wpAny (model X.prog X.w) X.A (evalPart e X.env) (λu s'=>∃o H',Inv X pins σ H' s'/\IsPart u o/\Q o H') X.xe s
def qZ:TO:=λ_ H Q=>Q none H
section
variable{X:Cx}{e:Expr}{te:TE}{lo hi:Option Expr}{tl th:TO}{pos p2:Pos}
def q_:PO X none qZ:=by
 intro pins s σ H Q I h
 rw[evalPart_none]
 exact wpAny_pure ⟨none,H,I,.none,h⟩
def jt(X:Cx)(r:V->Option Int->Option Int->Hp->VK->Prop):Prop:=
 ∀(pins:List (Addr×Obj)) (s:Shared) (σ:St) (H:Hp) (x:V) (v vl vu:Value) (lo hi:Option Int) (sl:Addr) (Q:VK),Inv X pins σ H s->RelV x v->s.heap.IsSliceOf sl vl vu .none->IsPart vl lo->IsPart vu hi->r x lo hi H Q->
  ∃T id,typeLookup (.type T) "__getitem__" =pure (some (.builtin id))/\s.TypeIs v T/\wpAny (model X.prog X.w) X.A (getItem v (.ref sl)) (EP X pins σ Q) X.xe s
def jt.or{r r':V->Option Int->Option Int->Hp->VK->Prop}(h:jt X r)(h':jt X r'):jt X (λx lo hi H Q=>r x lo hi H Q\/r' x lo hi H Q):=by
 intro pins s σ H x v vl vu lo hi sl Q I rx hs pl pu q
 rcases q with q|q
 ·exact h pins s σ H x v vl vu lo hi sl Q I rx hs pl pu q
 ·exact h' pins s σ H x v vl vu lo hi sl Q I rx hs pl pu q
def Jx(r:V->Option Int->Option Int->Hp->VK->Prop)(te:TE)(tl th:TO):TE:=λσ H Q=>te σ H λx H1=>tl σ H1 λl H2=>th σ H2 λu H3=>r x l u H3 Q
def mY{r:V->Option Int->Option Int->Hp->VK->Prop}(hr:jt X r)(he:PE X e te)(hl:PO X lo tl)(hu:PO X hi th):PE X (.Subscript e (.Slice lo hi none p2) pos) (Jx r te tl th):=by
 intro pins s σ H Q I h
 refine Subscript_ (ĩ (he pins s σ H _ I h) λv s1 ⟨x,H1,I1,r1,q1⟩=>?_)
 refine wpAny_Slice (ĩ (hl pins s1 σ H1 _ I1 q1) λvl s2 ⟨l,H2,I2,pl,q2⟩=>ĩ (hu pins s2 σ H2 _ I2 q2) λvu s3 ⟨u,H3,I3,pu,q3⟩=>?_)
 rw[evalPart_none]
 refine wpAny_pure ?_
 have I4:Inv X pins σ H3 {s3 with heap:=s3.heap.push {cls:=.type "slice",data:=.fields #[vl,vu,.none]}}:=I3.kept (t':=s3.toks) λb ob q=>Heap.get?_push_of_some _ q
 obtain⟨T,id,hT,ht,hg⟩:=hr pins {s3 with heap:=s3.heap.push {cls:=.type "slice",data:=.fields #[vl,vu,.none]}} σ H3 x v vl vu l u s3.heap.objs.size Q I4 r1 (Heap.IsSliceOf.new ..) pl pu q3
 show wpAny (model X.prog X.w) X.A (subscriptTail e (.Slice lo hi none p2) v (.ref s3.heap.objs.size)) (EP X pins σ Q) X.xe {s3 with heap:=s3.heap.push {cls:=.type "slice",data:=.fields #[vl,vu,.none]}}
 exact tail_any (ops:=[.ref s3.heap.objs.size,v]) ht hT hg (by with_unfolding_all rfl)
def gn(xs:List V)(lo hi:Option Int):List V:=(xs.drop (HT.ľ xs.length 0 lo)).take (HT.ľ xs.length xs.length hi-HT.ľ xs.length 0 lo)
def gq(xs:List V)(lo hi:Option Int):(gn xs lo hi).length<=xs.length:=by
 unfold gn
 rw[List.length_take,List.length_drop]
 omega
end
end L2
namespace L2
open PySem PySem.Spec PyProof.Rows
def yx(n:Nat)(i:Int):Option Nat:=if 0<=i then(if i<n then some i.toNat else none) else if -(n:Int)<=i then some (i+n).toNat else none
def eE{α:Type}(xs:List α)(i:Int):Option α:= (yx xs.length i).bind λj=>xs[j]?
def rm{n:Nat}{i:Int}{j:Nat}(h:yx n i=some j):seqIndex? i n=some j/\j<n/\ -(n:Int)<=i/\i<n:=by
 unfold yx at h
 by_cases h0:0<=i
 ·rw[if_pos h0] at h
  by_cases h1:i<n
  ·rw[if_pos h1] at h
   have e:i.toNat=j:=Option.some.inj h
   exact⟨by rw[seqIndex_of h0 h1,e],by omega,by omega,h1⟩
  ·rw[if_neg h1] at h;cases h
 ·rw[if_neg h0] at h
  by_cases h1: -(n:Int)<=i
  ·rw[if_pos h1] at h
   have e:(i+n).toNat=j:=Option.some.inj h
   exact⟨by rw[seqIndex_neg (by omega) h1,e],by omega,h1,by omega⟩
  ·rw[if_neg h1] at h;cases h
def eG{α:Type}{xs:List α}{i:Int}{v:α}(h:eE xs i=some v):∃j,seqIndex? i xs.length=some j/\xs[j]?=some v/\j<xs.length/\ -(xs.length:Int)<=i/\i<xs.length:=by
 unfold eE at h
 cases e:yx xs.length i with
 |none=>rw[e] at h;cases h
 |some j=>
  rw[e] at h
  obtain⟨h1,h2,h3,h4⟩:=rm e
  exact⟨j,h1,h,h2,h3,h4⟩
def aZ(b:Expr):Prop:=∀o i,subscripted b false o i=operate [o,i] (getItem o i)
def iM(X:Cx)(r:R2):Prop:=
 ∀(value slice:Expr) (pins:List (Addr×Obj)) (s:Shared) (σ:St) (H:Hp) (x y:V) (v u:Value) (Q:VK),Inv X pins σ H s->RelV x v->RelV y u->r x y H Q->
  subscripted slice false v u=operate [v,u] (getItem v u)->wpAny (model X.prog X.w) X.A (subscriptTail value slice v u) (EP X pins σ Q) X.xe s
def Eu(X:Cx)(id:String)(r:V->List V->Hp->VK->Prop):Prop:=
 ∀(pins:List (Addr×Obj)) (s:Shared) (σ:St) (H:Hp) (x:V) (xs:List V) (v:Value) (us:List Value) (Q:VK),Inv X pins σ H s->RelV x v->Vals xs us->r x xs H Q->
  wpAny (model X.prog X.w) X.A (call (.builtin id) (v::us)) (EP X pins σ Q) X.xe s
section
variable{X:Cx}{a b:Expr}{ta tb:TE}{pos:Pos}
def iM.or{r r':R2}(h:iM X r)(h':iM X r'):iM X (λx y H Q=>r x y H Q\/r' x y H Q):=by
 intro value slice pins s σ H x y v u Q I rx ry q hs
 rcases q with q|q
 ·exact h value slice pins s σ H x y v u Q I rx ry q hs
 ·exact h' value slice pins s σ H x y v u Q I rx ry q hs
def yW{r:R2}(hr:iM X r)(ha:PE X a ta)(hb:PE X b tb)(hs:aZ b):PE X (.Subscript a b pos) (yu r ta tb):=by
 intro pins s σ H Q I h
 exact Subscript_ (vO ha hb I h λv u s2 x y H2 I2 rx ry q=>hr a b pins s2 σ H2 x y v u Q I2 rx ry q (hs _ _))
def yX(K:PySem.W.Frag):R2:=λx y H Q=>∃p xs i v,x=.ref p/\y=.int i/\Ľ K H p xs/\eE xs i=some v/\Q v H
def yZ(K:PySem.W.Frag):R2:=λx y H Q=>∃p xs i v,x=.ref p/\y=.int i/\Ŭ K H p xs/\eE xs i=some v/\Q v H
def za:R2:=λx y H Q=>∃z i c,x=.str z/\y=.int i/\z.length<=sizeLine/\eE z.cps.toList i=some c/\Q (.str ⟨#[c]⟩) H
def rz:iM X (yX X.K):=by
 intro value slice pins s σ H x y v u Q I rx ry h hs
 obtain⟨p,xs,i,z,rfl,rfl,hq,he,q⟩:=h
 cases rx
 obtain⟨t,rfl⟩:=ry
 obtain⟨its,r,pl,hz⟩:=I.list hq
 obtain⟨j,h1,h2,h3,h4,h5⟩:=eG he
 obtain⟨w,ew,Ew⟩:=r.get h2
 have hl:=r.length
 have hn:=bI
 have fin:EP X pins σ Q w s:=⟨z,H,I,Ew,q⟩
 by_cases h0:0<=i
 ·have hj:i.toNat=j:=by
   rw[seqIndex_of h0 h5] at h1
   exact Option.some.inj h1
  exact item_listR pl.isList h0 (by omega) (by rw[hj];simpa using ew) fin hs
 ·have hj:(i+(its.toArray.size:Int)).toNat=j:=by
   rw[seqIndex_neg (by omega) h4] at h1
   rw[List.size_toArray,<-hl]
   exact Option.some.inj h1
  exact subscriptTail_builtinR (x:=w) pl.isList.typeIs slot_list_getitem.lookup
   (wpAny_getItem_list_neg (Q:=λr s'=>r=w/\EP X pins σ Q r s') pl.isList (by omega) (by rw[List.size_toArray]<;>omega) (by omega) (by rw[hj];simpa using ew) ⟨rfl,fin⟩) hs
def wz:iM X (yZ X.K):=by
 intro value slice pins s σ H x y v u Q I rx ry h hs
 obtain⟨p,xs,i,z,rfl,rfl,hq,he,q⟩:=h
 cases rx
 obtain⟨t,rfl⟩:=ry
 obtain⟨its,r,pl,hz⟩:=I.tuple hq
 obtain⟨j,h1,h2,h3,h4,h5⟩:=eG he
 obtain⟨w,ew,Ew⟩:=r.get h2
 have hl:=r.length
 have hn:=bI
 have fin:EP X pins σ Q w s:=⟨z,H,I,Ew,q⟩
 exact subscriptTail_builtinR (x:=w) pl.typeIs slot_tuple_getitem.lookup
  (getItem_tuple (j:=j) (Q:=λr s'=>r=w/\EP X pins σ Q r s') pl (by omega) (by omega) (by rw[List.size_toArray,<-hl];exact h1) (by simpa using ew) ⟨rfl,fin⟩) hs
def wA:iM X za:=by
 intro value slice pins s σ H x y v u Q I rx ry h hs
 obtain⟨z,i,c,rfl,rfl,hz,he,q⟩:=h
 obtain⟨t,rfl⟩:=rx
 obtain⟨t',rfl⟩:=ry
 obtain⟨j,h1,h2,h3,h4,h5⟩:=eG he
 have hl:z.cps.toList.length=z.length:=by simp[Str.length]
 rw[hl] at h1 h4 h5
 have hn:=bI
 exact tail_any (typeIs_str s z t) slot_str_getitem.lookup (getItem_str (c:=c) (by
  have e1:decide (i < -(2 ^ 63:Int))=false:=decide_eq_false (by omega)
  have e2:decide (i >= 2 ^ 63)=false:=decide_eq_false (by omega)
  rw[e1,e2,Bool.or_false]) (by rw[h1];simpa using h2) ⟨.str ⟨#[c]⟩,H,I.tok _,⟨_,rfl⟩,q⟩) hs
def Jy(K:PySem.W.Frag):R2:=λx y H Q=>yX K x y H Q\/yZ K x y H Q\/za x y H Q
def wB:iM X (Jy X.K):=rz.or (wz.or wA)
def eN(lo hi:Option Int)(n:Nat):(sliceBounds lo hi none n).1=((HT.ľ n 0 lo:Nat):Int)/\(sliceBounds lo hi none n).2.1=((HT.ľ n n hi:Nat):Int)/\(sliceBounds lo hi none n).2.2=1:=by
 refine⟨?_,?_,rfl⟩
 ·cases lo with
  |none=>simp[sliceBounds,HT.ľ]
  |some i=>
   simp only[sliceBounds,HT.ľ,Option.getD_none,show(1:Int)>0 by decide,if_true]
   by_cases h:i<0
   ·simp only[h,if_true]<;>omega
   ·simp only[h,if_false]<;>omega
 ·cases hi with
  |none=>simp[sliceBounds,HT.ľ]
  |some i=>
   simp only[sliceBounds,HT.ľ,Option.getD_none,show(1:Int)>0 by decide,if_true]
   by_cases h:i<0
   ·simp only[h,if_true]<;>omega
   ·simp only[h,if_false]<;>omega
def cQ(its:List Value)(lo hi:Option Int):slicePick its.toArray lo hi none=((its.drop (HT.ľ its.length 0 lo)).take (HT.ľ its.length its.length hi-HT.ľ its.length 0 lo)).toArray:=by
 obtain⟨h1,h2,h3⟩:=eN lo hi its.toArray.size
 unfold slicePick
 rw[h1,h2,h3]
 simp only[sliceRange_one,pick_run,List.size_toArray]<;>rfl
def Ey(K:PySem.W.Frag):V->Option Int->Option Int->Hp->VK->Prop:=λx lo hi H Q=>∃a xs,x=.ref a/\Ľ K H a xs/\∀p,H p=none->Q (.ref p) (upd H p (.lst (gn xs lo hi)))
def rC:jt X (Ey X.K):=by
 intro pins s σ H x v vl vu lo hi sl Q I rx hs pl pu h
 obtain⟨a,xs,rfl,hx,q⟩:=h
 cases rx
 obtain⟨its,r,ht,hz⟩:=I.list hx
 have hlen:=r.length
 refine⟨"list",_,slot_list_getitem.lookup,ht.isList.typeIs,?_⟩
 refine wpAny_getItem_list_slice ht.isList hs pl pu .none (by simp) ?_ (by rw[List.size_toArray]<;>omega)
 rw[cQ,<-hlen]
 refine⟨.ref s.heap.objs.size,_,I.laid (t':=s.toks) (o:=.lst (gn xs lo hi)) (λb ob q=>Heap.get?_push_of_some _ q) (Nat.le_refl _) ?_,rfl,q _ (I.hok.fresh (Nat.le_refl _))⟩
 exact⟨Nat.le_trans (gq xs lo hi) hz,_,0,(r.drop (HT.ľ xs.length 0 lo)).take (HT.ľ xs.length xs.length hi-HT.ľ xs.length 0 lo),Heap.get?_push_size _ rfl⟩
def eO:ĺ X (.type "list") (λxs H Q=>∃p ys,xs=[.ref p]/\(Ľ X.K H p ys\/Ŭ X.K H p ys)/\∀l,H l=none->Q (.ref l) (upd H l (.lst ys))):=by
 intro pins s σ H xs us Q I r h
 obtain⟨p,ys,rfl,hq,q⟩:=h
 obtain⟨u,rfl,rx⟩:=vals1 r
 cases rx
 have fin:∀(its:List Value),Vals ys its->ys.length<=sizeLine->∀(h':Heap) (c':Nat),(∀b o',s.heap.get? b=some o'->h'.get? b=some o')->
  h'.get? s.heap.objs.size=some {cls:=.type "list",dict:=none,data:=.seq its.toArray c',slots:=#[]}->EP X pins σ Q (.ref s.heap.objs.size) {s with heap:=h'}:=λits r' hz h' c' kp e=>
  ⟨.ref s.heap.objs.size,_,I.laid (t':=s.toks) kp (Nat.le_refl _) (show Ĥ X.prog X.w _ h' _ (.lst ys) from⟨hz,its,c',r',e⟩),rfl,q _ (I.hok.fresh (Nat.le_refl _))⟩
 rcases hq with hq|hq
 ·obtain⟨its,r',pl,hz⟩:=I.list hq
  have hlen:=r'.length
  obtain⟨o,ho,hc,n,hd⟩:=pl.isList
  exact call_list_seq p (.inl rfl) ho hc hd (λh' c' kp e=>fin its r' hz h' c' kp e) (by simp only[List.size_toArray]<;>omega)
 ·obtain⟨its,r',pl,hz⟩:=I.tuple hq
  have hlen:=r'.length
  obtain⟨o,ho,hc,n,hd⟩:=pl
  exact call_list_seq p (.inr rfl) ho hc hd (λh' c' kp e=>fin its r' hz h' c' kp e) (by simp only[List.size_toArray]<;>omega)
def Ez(K:PySem.W.Frag)(T:String)(x:V)(H:Hp):Prop:=match x with
 | .str _=>T= "str"
 | .int _=>T= "int"
 | .ref p=>(T= "list" ∧∃xs,Ľ K H p xs)∨(T= "tuple" ∧∃o,K.lookup p=some o∧o.cls=.type "tuple" ∧o.dict=none)∨
     (T= "dict" /\((∃kvs,H p=some (.dK kvs))\/∃kvs,H p=some (.dT kvs)))\/(T= "set" /\∃S n,H p=some (.set S n))
 |_=>False
def mZ{pins:List (Addr×Obj)}{σ:St}{H:Hp}{s:Shared}{T:String}{x:V}{v:Value}(I:Inv X pins σ H s)(r:RelV x v)(ty:Ez X.K T x H) :
 s.TypeIs v T/\∀a,v=.ref a->∃ob,s.heap.get? a=some ob/\ob.dict=none:=by
 cases x with
 |str z=>
  obtain⟨t,rfl⟩:=r
  cases(show T= "str" from ty)
  exact⟨typeIs_str s z t,λ_ e=>nomatch e⟩
 |int i=>
  obtain⟨t,rfl⟩:=r
  cases(show T= "int" from ty)
  exact⟨typeIs_int s i t,λ_ e=>nomatch e⟩
 |ref p=>
  cases r
  rcases ty with⟨rfl,xs,hq⟩|⟨rfl,o,hk,hc,hd⟩|⟨rfl,hk⟩|⟨rfl,S,n,hk⟩
  ·obtain⟨its,_,pl,_⟩:=I.list hq
   refine⟨pl.isList.typeIs,λa e=>?_⟩
   cases e
   obtain⟨o,n,e,c,hd,_⟩:=pl
   exact⟨o,e,hd⟩
  ·refine⟨⟨o,I.dU p o hk,hc⟩,λa e=>?_⟩
   cases e
   exact⟨o,I.dU _ o hk,hd⟩
  ·have z:∃o,s.heap.get? p=some o∧o.ExactDict:=by
    rcases hk with⟨kvs,hk⟩|⟨kvs,hk⟩
    ·obtain⟨_,_,_,_,o,_,_,e,ex,_⟩:=I.hok p _ hk
     exact⟨o,e,ex⟩
    ·obtain⟨_,_,_,_,o,_,_,e,ex,_⟩:=I.hok p _ hk
     exact⟨o,e,ex⟩
   obtain⟨o,e,ex⟩:=z
   refine⟨⟨o,e,ex.1⟩,λa e2=>?_⟩
   cases e2
   exact⟨o,e,ex.2.1⟩
  ·obtain⟨o,_,_,_,e,ex,_⟩:=I.hok p _ hk
   refine⟨⟨o,e,ex.1⟩,λa e2=>?_⟩
   cases e2
   exact⟨o,e,ex.2.1⟩
 |_=>exact False.elim ty
def EY(K:PySem.W.Frag)(T:String)(r:V->List V->Hp->VK->Prop)(to:TE):TE:=λσ H Q=>to σ H λx H1=>Ez K T x H1/\r x [] H1 Q
def Io(K:PySem.W.Frag)(T:String)(r:V->List V->Hp->VK->Prop)(to:TE)(t:TA):TE:=λσ H Q=>to σ H λx H1=>Ez K T x H1/\t σ H1 λxs H2=>r x xs H2 Q
variable{o e:Expr}{es:List Expr}{to:TE}{t:TA}{name:Str}{apos cpos:Pos}{T id:String}{r:V->List V->Hp->VK->Prop}
def wC(pa:PlainAttrs T)(slot:Slot T name id)(hty:typeOf (.builtin id)=pure (.type "method_descriptor"))(hm:Eu X id r)(ho:PE X o to)
 (hbase:attributeBase o name X.env (eval o X.env)=eval o X.env:=by rfl)(hline:(apos.endLine== cpos.line)=true:=by rfl):PE X (.Call (.Attribute o name apos) [] [] cpos) (EY X.K T r to):=by
 intro pins s σ H Q I h
 refine wpAny_Call_method0_late hbase hline (ĩ (ho pins s σ H _ I h) λv s1 ⟨x,H1,I1,r1,ty,q1⟩=>?_)
 obtain⟨h1,h2⟩:=mZ I1 r1 ty
 exact⟨T,id,pa,slot,hty,h1,h2,Calls.callWith_builtin rfl (PySem.evalArgs_none (hm pins s1 σ H1 x [] v [] Q I1 r1 .nil q1))⟩
def zc(pa:PlainAttrs T)(slot:Slot T name id)(hty:typeOf (.builtin id)=pure (.type "method_descriptor"))(hm:Eu X id r)(ho:PE X o to)(ha:PA X (e::es) t)
 (hbase:attributeBase o name X.env (eval o X.env)=eval o X.env:=by rfl)
 (hfew:((backTo cpos (starEach (e::es) X.env)).all (fun x=>!x.1) && (backToKw cpos (keywordEach [] X.env)).all (fun x=>x.1.isSome)
   && decide ((e::es).length+([]:List Keyword).length+(if([]:List Keyword).isEmpty then 0 else 1)<30))=true:=by rfl)
 (hline:(apos.endLine== cpos.line)=true:=by rfl)(hs:starEach (e::es) X.env=(false,eval e X.env)::starEach es X.env:=by rfl)(hplain:(backTo cpos (starEach es X.env)).any (·.1)=false:=by rfl) :
 PE X (.Call (.Attribute o name apos) (e::es) [] cpos) (Io X.K T r to t):=by
 intro pins s σ H Q I h
 refine wpAny_Call_method_late hbase hfew hline rfl (ĩ (ho pins s σ H _ I h) λv s1 ⟨x,H1,I1,r1,ty,q1⟩=>?_)
 obtain⟨h1,h2⟩:=mZ I1 r1 ty
 refine⟨T,id,pa,slot,hty,h1,h2,?_⟩
 have hA:=ha cpos pins s1 σ H1 _ I1 q1
 rw[hs] at hA ⊢
 refine Calls.callWith_builtin (by show(false || (backTo cpos (starEach es X.env)).any (·.1))=false;rw[hplain]<;>rfl) (Calls.evalArgs_plain ?_)
 exact ĩ hA λus s2 ⟨vs,H2,I2,r2,q2⟩=>hm pins s2 σ H2 x vs v us Q I2 r1 r2 q2
end
end L2
namespace L2
open PySem PySem.Spec PyProof.Rows
def Jz(X:Cx)(id:String)(r:V->List V->Hp->VK->Prop):Prop:=
 ∀(pins:List (Addr×Obj)) (s:Shared) (σ:St) (H:Hp) (x:V) (xs:List V) (v:Value) (us:List Value) (Q:VK),Inv X pins σ H s->RelV x v->Vals xs us->r x xs H Q->
  wpAny (model X.prog X.w) X.A (call (.builtin id) (v::us)) (EP X pins σ Q) X.xe s
theorem Vals.one:∀{x:V} {us:List Value},Vals [x] us->∃u,us=[u]/\RelV x u
 |_,_,.cons r .nil=>⟨_,rfl,r⟩
section
variable{X:Cx}{pins:List (Addr×Obj)}{σ:St}{H:Hp}{s:Shared}{l b:Addr}{xs ys zs:List V}
def Inv.E_{its its':List Value}{n:Nat}{f:Array Value->Array Value}{t':Nat}(I:Inv X pins σ H s)(hH:H l=some (.lst xs))
 (e:s.heap.get? l=some {cls:=.type "list",data:=.seq its.toArray n})(hf:f its.toArray=its'.toArray)(hv:Vals ys its')(hz:ys.length<=sizeLine) :
 Inv X pins σ (upd H l (.lst ys)) {s with heap:=s.heap.update l (Obj.mapSeq f),toks:=t'}:=by
 have q:=PySem.IsL.update e f
 rw[hf] at q
 refine I.write (x:=l) (e:=l) (by rw[hH];exact trivial) (.inl rfl) (λb' u hb hu=>(Heap.get?_update_other s.heap (Obj.mapSeq f) (Ne.symm hb)).trans hu) ⟨_,q⟩ ?_
 exact⟨hz,its',_,hv,q⟩
def Inv.Fb{its:List Value}{t':Nat}(I:Inv X pins σ H s)(hv:Vals ys its)(hz:ys.length<=sizeLine) :
 Inv X pins σ (upd H s.heap.objs.size (.lst ys)) {s with heap:=s.heap.push {cls:=.type "list",data:=.seq its.toArray},toks:=t'}:=
 I.laid (λ_ _ q=>Heap.get?_push_of_some _ q) (Nat.le_refl _) ⟨hz,its,0,hv,Heap.get?_push_size _ rfl⟩
theorem Inv.fresh(I:Inv X pins σ H s):H s.heap.objs.size=none:=I.hok.fresh (Nat.le_refl _)
def Inv.Fd(I:Inv X pins σ H s)(hH:H l=some (.lst xs)):xs.length<=sizeLine/\∃(its:List Value) (n:Nat),Vals xs its/\xs.length=its.length/\s.heap.get? l=some {cls:=.type "list",data:=.seq its.toArray n}:=by
 obtain⟨z,its,n,r,e⟩:=I.hok l _ hH
 exact⟨z,its,n,r,r.length,e⟩
end
section
variable{X:Cx}
def ju:V->List V->Hp->VK->Prop:=λx vs H Q=>∃l xs y,x=.ref l/\vs=[y]/\H l=some (.lst xs)/\xs.length<sizeLine/\Q .non (upd H l (.lst (xs ++ [y])))
def dg:Jz X "list.append" ju:=by
 intro pins s σ H x vs v us Q I rx rv h
 obtain⟨l,xs,y,rfl,rfl,hH,hz,q⟩:=h
 cases rx
 obtain⟨u,rfl,ru⟩:=rv.one
 obtain⟨z,its,n,r,hl,e⟩:=I.Fd hH
 refine call_meets F.slot_list_append ⟨_,e,rfl⟩ F.entry_list_append (F.args_list_append_2 _ _) (PySem.list_append l its.toArray n u (by rw[List.size_toArray];omega)) ⟨e,?_⟩
 refine⟨.non,_,I.E_ (its':=its ++ [u]) hH e (by simp) (r.append (.cons ru .nil)) ?_,rfl,q⟩
 rw[List.length_append,List.length_singleton]
 omega
end
section
variable{prog:Program}{w:World}{A:Around}{E:Value->Shared->Prop}{s:Shared}
end
section
variable{X:Cx}
end
end L2
namespace CQ
open PySem PySem.W PySem.Calls PyProof.Rows
def aX{P:Params}{h:Heap}:∀(ns:List Int) (vs:List Value),WellAll P h vs (ns.map WData.int)->IntsAre vs ns:=by
 intro ns
 induction ns with
 |nil=>
  intro vs w
  rw[List.map_nil] at w
  cases w
  exact .nil
 |cons n ns ih=>
  intro vs w
  rw[List.map_cons] at w
  cases w with
  |cons a b=>
   cases a
   exact .cons _ _ (ih _ b)
def lF{l:OpenLaw}{n:Nat}(hn:l.most=some n){P:Params}{h:Heap}{args:List WData}{vals:List Value}
 (hpre:l.row.toRowW.claim.pre args=true)(hwl:WellAll P h vals args) :
 ∃a vs ns,vals=[Value.ref a]/\args=[WData.list (ns.map WData.int)]/\h.get? a=some {cls:=.type "list",data:=.seq vs.toArray}/\IntsAre vs ns/\ns.length<=n:=by
 have hsh:WShape.hasAll [] args [.list .int]=true:=(pre_splitW hpre).1
 have hc:l.pre.holds [] {args:=args}=true:=(pre_splitW hpre).2
 obtain⟨d,r,rfl,h1,h2⟩:=hasAllW_cons hsh
 obtain rfl:=hasAllW_nil h2
 obtain⟨xs,rfl,h3⟩:=hasW_list h1
 obtain⟨ns,rfl⟩:=items_int h3
 have hlen:ns.length<=n:=by
  unfold OpenLaw.pre at hc
  have h4:(WTm.not (.lt (.lit (.int (n:Int))) (.len (.arg 0)))).holds [] {args:=[.list (ns.map .int)]}=true:=by
   have h4:=(holds_andW hc).1
   rw[hn] at h4
   exact h4
  have h5:=condW_of h4 (w_not (w_lt w_lit (w_len_list (w_arg rfl))))
  rw[List.length_map] at h5
  refine Nat.le_of_not_lt λq=>?_
  have q':(n:Int)<((ns.length:Nat):Int):=by omega
  first
   |(rw[decide_eq_true q'] at h5;exact absurd h5 (by decide))
   |(simp at h5;omega)
 cases hwl with
 |cons w1 w2=>
  cases w2
  cases w1 with
  |list ho hall=>exact⟨_,_,ns,rfl,rfl,ho,aX ns _ hall,hlen⟩
def lG(l:OpenLaw)(args:List WData):l.row.toRowW.claim.post args (.bool true) args=true:=
 postW_of (r:=l.row.toRowW) (X:=(true== true))
  (show WShape.has [] (.bool true) .bool=true by first|rfl|decide|simp[WShape.has,WShape.arms,WShape.armsAll])
  (show(WTm.eq .res (.lit (.bool true))).value [] {args:=args,res:=some (.bool true),after:=args}=some (.bool (true== true)) from w_eq_bool (w_res rfl) w_lit) rfl
def gw{l:OpenLaw}{n:Nat}{q:Program}{loose:List Str}{XP:(Str->Option Value)->Heap->Prop}{YP:World->Heap->Prop}{d:DefRec}
 (hn:l.most=some n)(hdf:d.params.defaults=[])
 (call:∀(w:World) (s₀ s₁:Shared) (mg mb:Str→Option Value) (fa:Addr) (o:Obj) (pm cd doc:Value) (a:Addr) (vs:List Value) (ns:List Int),
   Ground q loose [] XP w s₀ mg mb s₁.heap->YP w s₁.heap->
   s₁.heap.get? fa=some o->o.data=.func (docDef d.name d.params d.body d.scope pm cd doc)->s₁.heap.CodeRec cd d.name->mg d.name=some (.ref fa)->
   s₁.heap.get? a=some {cls:=.type "list",data:=.seq vs.toArray}->IntsAre vs ns->ns.length<=n->s₁.gens= #[]->
   codeAny (model l.prog w) callerA (.call (.ref fa) ⟨[.ref a],[]⟩) (λr s'=>r=.ok (.ret (.bool true))/\OldK s₁.heap s'.heap/\s'.os=s₁.os/\AllBare s'.gens) s₁) :
 WalkO q loose XP YP l.row.toRowW d [] (λf vs=>PySem.call f vs):=by
 intro w s₀ s₁ mg mb G Y fa o pm cd doc dV kV ho hd hcd hD hmg hg args vals as hpre hlay hrd hwl hlo
 obtain rfl:dV=.none:=Dflts.none hD hdf
 obtain rfl:kV=.none:=Dflts.noKw hD
 obtain⟨a,vs,ns,rfl,rfl,hobj,hints,hlen⟩:=lF hn hpre hwl
 refine enter_call (codeAny_mono (call w s₀ s₁ mg mb fa o pm cd doc a vs ns G Y ho (fd_plain hd) hcd hmg hobj hints hlen hg) λr s' hq=>?_)
 obtain⟨rfl,h2,h3,h4⟩:=hq
 exact⟨.inl ⟨.bool true,.bool true,[],rfl,λ_=>rfl,.bool true,lG l _,λ_=>⟨List.Pairwise.nil,λ_ hm=>(nomatch hm)⟩⟩,h2,h3,h4⟩
section
variable{prog:Program}{w:World}{A:Around}{E:Value->Shared->Prop}{s:Shared}{K:Frag}
end
end CQ
namespace L2
open PySem PySem.Spec PyProof.Rows
theorem Ĺ:∀{vs:List Value} {ns:List Int},IntsAre vs ns->Vals (ns.map V.int) vs
 |_,_,.nil=>.nil
 |_,_,.cons n t h=>.cons ⟨t,rfl⟩ (Ĺ h)
def Only(H:Hp):Prop:=∀b,H b=none\/(∃o xs,H b=some (.ŉ o (.lst xs)))\/∃q,H b=some (.cI q)
def Ř(K:PySem.W.Frag):List Str->Hp
 | []=>λ_=>none
 |y::r=>λb=>match PySem.W.tabIn K y with
  |some (_,P)=>if b=P then some (.cI (dR y)) else Ř K r b
  |none=>Ř K r b
theorem Ŀ{K:PySem.W.Frag}:∀{l:List Str} {b:Addr} {u:HO},Ř K l b=some u->∃y c,y∈l/\PySem.W.tabIn K y=some (c,b)/\u=.cI (dR y)
 | [],_,_,h=>by cases(show(none:Option HO)=some _ from h)
 |y::r,b,u,h=>by
  have h':(match PySem.W.tabIn K y with
   |some (_,P)=>if b=P then some (.cI (dR y)) else Ř K r b
   |none=>Ř K r b)=some u:=h
  have rc:Ř K r b=some u->∃z c,z∈y::r/\PySem.W.tabIn K z=some (c,b)/\u=.cI (dR z):=λq=>
   let ⟨z,c,h1,h2,h3⟩:=Ŀ q
   ⟨z,c,List.mem_cons_of_mem _ h1,h2,h3⟩
  cases e:PySem.W.tabIn K y with
  |none=>rw[e] at h';exact rc h'
  |some p=>
   obtain⟨c,P⟩:=p
   rw[e] at h'
   have h2:(if b=P then some (HO.cI (dR y)) else Ř K r b)=some u:=h'
   by_cases hb:b=P
   ·rw[if_pos hb] at h2
    cases h2
    exact⟨y,c,List.mem_cons_self,by rw[hb];exact e,rfl⟩
   ·rw[if_neg hb] at h2
    exact rc h2
theorem jw{K:PySem.W.Frag}{y:Str}{c P:Addr}(e:PySem.W.tabIn K y=some (c,P)):∀{l:List Str},(∀z∈l,z=y)->y∈l->Ř K l P=some (.cI (dR y))
 | [],_,h=>by cases h
 |z::r,h1,_=>by
  have hz:=h1 z List.mem_cons_self
  subst hz
  show(match PySem.W.tabIn K z with
   |some (_,Q)=>if P=Q then some (HO.cI (dR z)) else Ř K r P
   |none=>Ř K r P)=_
  rw[e]
  exact if_pos rfl
def m_{P:Program}{w:World}{K:PySem.W.Frag}{mg mb:Str->Option Value}{CX:aC}{k:Nat}{fa a:Addr}{fd:FuncData}{x:Str}{sp:Sp}{s₁:Shared}{vs:List Value}{ns:List Int}
 (KX:K.In s₁.heap)(hns:s₁.heap.Ns mainGlobals mg)(hb:s₁.heap.Ns builtinsNs mb)(hbb:∀x:Str,x≠ "__name__" ->mb x=bootBuiltins x)(hlim:s₁.heap.NoLimit)(hg:s₁.gens= #[])
 (ha:s₁.heap.get? a=some {cls:=.type "list",data:=.seq vs.toArray})(hi:IntsAre vs ns)(hl:ns.length<=sizeLine)(hr:ł k callerA)
 (F:∀base:Heap,K.In base->base.Ns mainGlobals mg->į P w K mg base CX k fa fd [x] sp)(hbind:∀(s:Shared) (u:Value),BindsTo s fd ⟨[u],[]⟩ [(x,u)])
 (hsp:∀H:Hp,Only H->Ľ K H a (ns.map V.int)->sp [.ref a] H (λv _=>v=.bl true) λ_ _ _=>False)
 (zf:∀H e s',CX [] H s₁ (λ_ _ _=>False) e s'->False)
 (hnt:lams≠[]->PySem.W.noTabs K=true)(hone:∀y z,y∈lams->z∈lams->y=z)(htb:∀y c Pt,y∈lams->PySem.W.tabIn K y=some (c,Pt)->PySem.W.CodeHd s₁.heap c Pt/\s₁.heap.get? Pt=some (PySem.W.tabObj #[])/\s₁.heap.BuiltinsAt mg Pt) :
 codeAny (model P w) callerA (.call (.ref fa) ⟨[.ref a],[]⟩) (λr s'=>r=.ok (.ret (.bool true))/\OldK s₁.heap s'.heap/\s'.os=s₁.os/\AllBare s'.gens) s₁:= by
 have rv:=Ĺ hi
 have lenV:=hi.length
 -- from an abstract heap in which nothing but the script may be tracked
 have core:∀H:Hp,Only H->Ľ K H a (ns.map V.int)->Ż P w H s₁.heap->(∀b,H b≠none->b=a\/∃y c,y∈lams/\PySem.W.tabIn K y=some (c,b))->(H a≠none->K.lookup a=none)->(∀y c Pt,y∈lams->PySem.W.tabIn K y=some (c,Pt)->H Pt=some (.cI (dR y)))->
  codeAny (model P w) callerA (.call (.ref fa) ⟨[.ref a],[]⟩) (λr s'=>r=.ok (.ret (.bool true))/\OldK s₁.heap s'.heap/\s'.os=s₁.os/\AllBare s'.gens) s₁:= by
  intro H hO hS hok hA hK hT
  have bf:∀{b:Addr} {o:Obj},s₁.heap.get? b=some o->H b=none->(cO s₁.heap H).get? b=some o:=λe n=>mF e n
  have yU:∀{b:Addr} {o:Obj} {es:Array DictEntry} {ep:Nat},s₁.heap.get? b=some o->o.data=.dict es ep->H b=none:=fun{b o es ep} e d=>by
   cases q:H b with
   |none=>rfl
   |some u=>
    rcases hA b (by rw[q];simp) with e'|⟨y,c,hy,hty⟩
    ·subst e'
     rw[ha] at e;cases e
     have d':Data.seq vs.toArray _=Data.dict es ep:=d
     cases d'
    ·have e2:=(htb y c b hy hty).2.1
     rw[e] at e2;cases e2;cases d
  have CT:∀{b:Addr} {m:Str->Option Value},s₁.heap.Ns b m->(cO s₁.heap H).Ns b m:=fun{b m} ⟨o,es,ep,e,d,r⟩=>⟨o,es,ep,bf e (yU e d),d,r⟩
  have Ip:K.In (cO s₁.heap H):=λb o e=>bf (KX b o e) (by
   cases q:H b with
   |none=>rfl
   |some u=>
    rcases hA b (by rw[q];simp) with e'|⟨y,c,hy,hty⟩
    ·subst e'
     rw[hK (by rw[q];simp)] at e;cases e
    ·have e2:=(htb y c b hy hty).2.1
     rw[KX b o e] at e2
     cases e2
     have h2:=List.all_eq_true.mp (hnt (λz=>by rw[z] at hy;cases hy)) (b,_) (PySem.W.mem_of_lookupK e)
     exact absurd (show false=true from h2) Bool.false_ne_true)
  have hM:Mod K mg (cO s₁.heap H):=⟨Ip,CT hns,⟨mb,CT hb,hbb⟩,let ⟨mc,h1,h2⟩:=hlim;⟨mc,CT h1,h2⟩⟩
  have JB:TabsOk K mg (cO s₁.heap H) H:=λy c Pt hy hty=>by
   obtain⟨⟨o,us,file,tf,flags,tg,inF,text,tt,e1,r1,r2⟩,_,bm,ob,b1,b2,b3,b4,b5,b6,b7⟩:=htb y c Pt hy hty
   refine⟨⟨o,us,file,tf,flags,tg,inF,text,tt,bf e1 ?_,r1,r2⟩,hT y c Pt hy hty,bm,ob,b1,b2,b3,b4,bf b5 ?_,b6,b7⟩
   rotate_left
   ·cases q:H bm with
    |none=>rfl
    |some u=>
     rcases hA bm (by rw[q];simp) with e'|⟨z,c2,hz,Fe⟩
     ·rw[e',ha] at b5;cases b5;exact absurd (Value.type.inj b6) (by decide)
     ·have e2:=(htb z c2 bm hz Fe).2.1
      rw[b5] at e2;cases e2;cases b6
   cases q:H c with
   |none=>rfl
   |some u=>
    rcases hA c (by rw[q];simp) with e'|⟨z,c2,hz,Fe⟩
    ·rw[e',ha] at e1;cases e1;exact absurd (Value.type.inj r1) (by decide)
    ·have e2:=(htb z c2 c hz Fe).2.1
     rw[e1] at e2;cases e2;cases r1
  have e0:qY P w K mg (cO s₁.heap H) callerA [] s₁ H:=⟨rfl,hM,λb o e=>qI e,Nat.le_of_eq (kY _ _),trivial,λb hb=>absurd (show b∈([]:List Addr) from hb) (by simp),hok,.of_eq hg,JB⟩
  refine codeAny_mono ((F _ Ip (CT hns)).run callerA [] s₁ H ⟨[.ref a],[]⟩ [.ref a] [.ref a] _ _ hr e0 (hbind s₁ (.ref a)) (.cons rfl .nil) (hsp H hO hS)) λr s' h=>?_
  cases r with
  |error e=>exact(zf H e s' h).elim
  |ok fl=>
   cases fl with
   |next=>exact False.elim h
   |brk=>exact False.elim h
   |cont=>exact False.elim h
   |ret u=>
    obtain⟨v,H',os,bare,un,hok',r',q⟩:=h
    have q':v=.bl true:=q
    subst q'
    obtain rfl:u=Value.bool true:=r'
    have old:∀b o,s₁.heap.get? b=some o->(∀t,H b≠some (.cI t))->s'.heap.get? b=some o:=?_
    ·refine⟨rfl,⟨λb o e=>?_,λb o e=>?_⟩,os,bare⟩
     ·by_cases ht:∃t,H b=some (.cI t)
      ·obtain⟨t,ht⟩:=ht
       obtain⟨ps,e1,_⟩:=hok' b _ (un.aW b t ht)
       rcases hA b (by rw[ht];simp) with e'|⟨y,c,hy,hty⟩
       ·subst e'
        obtain⟨ps2,e3,_⟩:=hok b _ ht
        rw[ha] at e3;cases e3
       ·obtain⟨⟨o2,us,file,tf,flags,tg,inF,text,tt,f1,f2,f3,f4,_⟩,e2,_⟩:=htb y c b hy hty
        rw[e] at e2;cases e2
        exact .inr (.inl ⟨⟨c,o2,us,f1,f2,f3,f4⟩,rfl,#[],ps,rfl,by rw[e1];simp⟩)
      ·exact .inl (old b o e λt z=>ht ⟨t,z⟩)
     ·by_cases ht:∃t,H b=some (.cI t)
      ·obtain⟨t,ht⟩:=ht
       obtain⟨ps,e1,_⟩:=hok' b _ (un.aW b t ht)
       exact⟨_,e1⟩
      ·exact⟨o,old b o e λt z=>ht ⟨t,z⟩⟩
    intro b o e nt
    cases q:H b with
    |none=>exact un.keep b o e q (by intro z;exact absurd (show b∈([]:List Addr) from z) (by simp)) (by simp)
    |some u=>
     rcases hO b with z|⟨ob,xs,z⟩|⟨t,z⟩
     ·rw[q] at z;cases z
     rotate_left
     ·exact absurd z (nt t)
     ·have z2:=un.cM b ob _ z
      obtain⟨e1,_⟩:=hok b _ z
      obtain⟨e2,_⟩:=hok' b _ z2
      rw[e] at e1;cases e1
      exact e2
 cases hk:K.lookup a with
 |some o=>
  -- the script is one of the module's own objects
  have e:=KX a o hk
  rw[ha] at e
  cases e
  refine core (Ř K lams) (λb=>?_) (.inr ⟨_,vs.toArray,_,hk,rfl,rfl,rfl,by rw[List.size_toArray,lenV];exact hl,by simpa using rv⟩) (λb u z=>?_) (λb z=>?_) (λz=>?_) λy c Pt hy hty=>jw hty (λz hz=>hone z y hz hy) hy
  ·cases q:Ř K lams b with
   |none=>exact .inl rfl
   |some u=>obtain⟨y,c,_,_,rfl⟩:=Ŀ q;exact .inr (.inr ⟨_,rfl⟩)
  ·obtain⟨y,c,hy,hty,rfl⟩:=Ŀ z
   exact⟨#[],(htb y c b hy hty).2.1,trivial,λpos cv z=>by cases z⟩
  ·cases q:Ř K lams b with
   |none=>exact absurd q z
   |some u=>obtain⟨y,c,hy,hty,_⟩:=Ŀ q;exact .inr ⟨y,c,hy,hty⟩
  ·cases q:Ř K lams a with
   |none=>exact absurd q z
   |some u=>
    obtain⟨y,c,hy,hty,_⟩:=Ŀ q
    have e2:=(htb y c a hy hty).2.1
    rw[ha] at e2;cases e2
 |none=>
  refine core (λb=>if b=a then some (.ŉ {cls:=.type "list",data:=.seq vs.toArray} (.lst (ns.map V.int))) else Ř K lams b) (λb=>?_) (.inl (.inr ⟨{cls:=.type "list",data:=.seq vs.toArray},if_pos rfl⟩)) (λb u z=>?_) (λb z=>?_) (λ_=>hk) λy c Pt hy hty=>?_
  ·by_cases hb:b=a
   ·exact .inr (.inl ⟨_,_,if_pos hb⟩)
   ·cases q:Ř K lams b with
    |none=>exact .inl ((if_neg hb).trans q)
    |some u=>obtain⟨y,c,_,_,rfl⟩:=Ŀ q;exact .inr (.inr ⟨_,(if_neg hb).trans q⟩)
  ·by_cases hb:b=a
   ·have z':=(if_pos hb).symm.trans z
    cases z'
    subst hb
    exact⟨ha,by rw[List.length_map];exact hl,vs,_,rv,ha⟩
   ·have z':=(if_neg hb).symm.trans z
    obtain⟨y,c,hy,hty,rfl⟩:=Ŀ z'
    exact⟨#[],(htb y c b hy hty).2.1,trivial,λpos cv z=>by cases z⟩
  ·by_cases hb:b=a
   ·exact .inl hb
   ·cases q:Ř K lams b with
    |none=>exact absurd ((if_neg hb).trans q) z
    |some u=>obtain⟨y,c,hy,hty,_⟩:=Ŀ q;exact .inr ⟨y,c,hy,hty⟩
  ·have ne:Pt≠a:=fun z=>by
    subst z
    have e2:=(htb y c _ hy hty).2.1
    rw[ha] at e2;cases e2
   exact(if_neg ne).trans (jw hty (λz hz=>hone z y hz hy) hy)
end L2
namespace L2
open PySem PySem.Spec PyProof.Rows
def rD{p:Program}{loose:List Str}{mean:ExcName->Option Value}{mg mb:Str->Option Value}{h:Heap}{K:PySem.W.Frag}{d:DefRec}{x:Str}{c P:Addr}(T:Top p loose mean mg mb h)(X:K.In h)(hr:(recsOf p).find? (λe=>e.name== x)=some d)(ht:PySem.W.tabIn K x=some (c,P)) :
 PySem.W.CodeHd h c P/\h.get? P=some (PySem.W.tabObj #[])/\h.BuiltinsAt mg P:=by
 obtain⟨h1,h2⟩:=PySem.W.tab_of T X hr ht
 obtain⟨bm,ob,b1,b2,b3,b4,b5,b6⟩:=T.bmain
 have hbP:bm≠P:=λq=>by rw[q,h2] at b3;cases b3;cases b4
 have hbG:bm≠mainGlobals:=λq=>by
  obtain⟨o,es,ep,e,hd,_⟩:=T.g
  rw[q,e] at b3;cases b3;rw[hd] at b6;cases b6
 exact⟨h1,h2,bm,ob,b1,b2,hbG,hbP,b3,b4,b5,b6⟩
def rE{l:PySem.W.OpenLaw}{n k:Nat}{q:Program}{loose:List Str}{XP:(Str->Option Value)->Heap->Prop}{YP:World->Heap->Prop}{d:DefRec}{K:Params->PySem.W.Frag}{CX:World->aC}{sp:World->Sp}{x:Str}
 (hn:l.most=some n)(hn2:n<=sizeLine)(hdf:d.params.defaults=[])(hr:ł k callerA)
 (hY:∀(w:World) (h:Heap),YP w h->(K w.params).In h)
 (F:∀(w:World) (mg:Str→Option Value) (fa:Addr) (h:Heap),(K w.params).In h→h.Ns mainGlobals mg→mg d.name=some (.ref fa)→
   ∃fd:FuncData,(∀(s:Shared) (u:Value),BindsTo s fd ⟨[u],[]⟩ [(x,u)])/\
    ∀base:Heap,(K w.params).In base->base.Ns mainGlobals mg->į l.prog w (K w.params) mg base (CX w) k fa fd [x] (sp w))
 (hsp:∀(w:World) (H:Hp) (a:Addr) (ns:List Int),ns.length<=n->Only H->Ľ (K w.params) H a (ns.map V.int)->sp w [.ref a] H (λv _=>v=.bl true) λ_ _ _=>False)
 (zf:∀(w:World) (H:Hp) (s:Shared) (e:Value) (s':Shared),CX w [] H s (λ_ _ _=>False) e s'->False)
 (hnt:lams≠[]->∀w:World,PySem.W.noTabs (K w.params)=true:=by intro z;exact absurd rfl z)(hone:∀y z,y∈lams->z∈lams->y=z:=by simp[lams])(hrec:∀y,y∈lams->∃d,(recsOf q).find? (λe=>e.name== y)=some d:=by simp[lams]) :
 PySem.W.WalkO q loose XP YP l.row.toRowW d [] (λf vs=>PySem.call f vs):=by
 refine CQ.gw hn hdf λw s₀ s₁ mg mb fa o pm cd doc a vs ns G Y ho hd hcd hmg hobj hints hlen hg=>?_
 have KX:=hY w _ Y
 obtain⟨fd,hb,hF⟩:=F w mg fa _ KX G.T.g hmg
 exact m_ KX G.T.g G.T.b G.T.builtins G.T.nolimit hg hobj hints (Nat.le_trans hlen hn2) hr hF hb (λH hO hS=>hsp w H a ns hlen hO hS) (λH e s'=>zf w H s₁ e s') (λz=>hnt z w) hone λy c Pt hy hty=>let ⟨_,hr'⟩:=hrec y hy;rD G.T KX hr' hty
end L2
namespace L2
open PySem PySem.Spec PyProof.Rows
def ŋ(s:Stmt):Arguments:=match s with
 | .FunctionDef _ a _ _ _ _ _ _ _ _=>a
 |_=> {posonlyargs:=[],args:=[],vararg:=none,kwonlyargs:=[],kw_defaults:=[],kwarg:=none,defaults:=[]}
def Ĭ(s:Stmt):List Stmt:=match s with
 | .FunctionDef _ _ b _ _ _ _ _ _ _=>b
 |_=>[]
def ą(s:Stmt):Scope:=match s with
 | .FunctionDef _ _ _ _ _ _ sc _ _ _=>sc
 |_=> {kind:=.function,names:=[],isGenerator:=false,isCoroutine:=false}
abbrev jx:aC:=λ_ _ _ _ _ _=>False
structure wD(K:PySem.W.Frag)(x qual:Str)(st:Stmt)(f:Addr)(fd:FuncData):Prop where
 ex:∃(oc:Value) (od:Option Addr) (kV doc pm:Value) (an:Option Addr) (cdv ct:Value) (osl:Array (Option Value)),
   fd=PySem.W.fnOf x qual (ŋ st) (Ĭ st) (ą st) .none kV doc pm an cdv ct/\K.lookup f=some ⟨oc,od,.func fd,osl⟩/\PySem.W.codeIn K cdv qual=true
 kp:PySem.W.keepIn K (.ref f)=true
section
variable{P:Program}{w:World}{K:PySem.W.Frag}{mg:Str->Option Value}{base:Heap}
def wD.binds{x qual:Str}{st:Stmt}{f:Addr}{fd:FuncData}{ps:List Str}(F:wD K x qual st f fd)
 (h:∀(kV doc pm:Value) (an:Option Addr) (cdv ct:Value) (us:List Value),us.length=ps.length->bindArgs (PySem.W.fnOf x qual (ŋ st) (Ĭ st) (ą st) .none kV doc pm an cdv ct) ⟨us,[]⟩=pure (ps.zip us)):Binds K fd ps []:=by
 obtain⟨oc,od,kV,doc,pm,an,cdv,ct,osl,rfl,lk,hcd⟩:=F.ex
 exact .all (h kV doc pm an cdv ct)
def wF{x qual:Str}{st:Stmt}{f:Addr}{oc:Value}{od an:Option Addr}{osl:Array (Option Value)}{kV doc pm cdv ct:Value}(l:K.lookup f=some ⟨oc,od,.func (PySem.W.fnOf x qual (ŋ st) (Ĭ st) (ą st) .none kV doc pm an cdv ct),osl⟩)
 (c:PySem.W.codeIn K cdv qual=true)(k:PySem.W.keepIn K (.ref f)=true):wD K x qual st f (PySem.W.fnOf x qual (ŋ st) (Ĭ st) (ą st) .none kV doc pm an cdv ct):=⟨⟨oc,od,kV,doc,pm,an,cdv,ct,osl,rfl,l,c⟩,k⟩
end
section
variable{X:Cx}
def pv(i:Nat){x:Str}{pos:Pos}(hN:X.N[i]?=some x:=by rfl)(hv:mq X.env.scope x:=by first|exact Or.inl rfl|exact Or.inr (Or.inl rfl)|exact Or.inr (Or.inr rfl))(hd:(x== ("__debug__" :Str))=false:=by decide)
 (hcd:(x== ("__classdict__" :Str))=false:=by decide):PE X (.Name x pos) (qL i):=ų hN hv hd hcd
end
def Same(H H':Hp):Prop:=∀b o,H b=some o->H' b=some o
def Same.refl(H:Hp):Same H H:=λ_ _ h=>h
def Same.trans{H H1 H2:Hp}(a:Same H H1)(b:Same H1 H2):Same H H2:=λc o h=>b c o (a c o h)
def Same.free{H H':Hp}(e:Same H H'){l:Addr}(h:H' l=Option.none):H l=Option.none:=by
 cases q:H l with
 |none=>rfl
 |some o=>
  rw[e l o q] at h
  cases h
def Same.seq{K:PySem.W.Frag}{H H':Hp}{a:Addr}{xs:List V}(e:Same H H')(h:Ľ K H a xs):Ľ K H' a xs:=by
 rcases h with(h|⟨o,h⟩)|h
 ·exact .inl (.inl (e _ _ h))
 ·exact .inl (.inr ⟨o,e _ _ h⟩)
 ·exact .inr h
end L2
namespace M2
open PySem PySem.Spec PyProof.Rows L2
section
variable{X:Cx}{a b c e:Expr}{ta tb tc te:TE}{pos:Pos}
def PE.wk{t t':TE}(h:PE X e t)(i:∀σ H Q,t' σ H Q->t σ H Q):PE X e t':=λpins s σ H Q I q=>h pins s σ H Q I (i σ H Q q)
def PS.wk{st:Stmt}{t t':TS}(h:PS X st t)(i:∀D σ H,t' D σ H->t D σ H):PS X st t':=λpins s σ H D I q=>h pins s σ H D I (i D σ H q)
def ķ.wk{f:Value->Value->Sem Value}{r r':R2}(h:ķ X f r)(i:∀x y H Q,r' x y H Q->r x y H Q):ķ X f r':=λpins s σ H x y v u Q I rx ry q=>h pins s σ H x y v u Q I rx ry (i x y H Q q)
def ĺ.wk{f:Value}{r r':List V->Hp->VK->Prop}(h:ĺ X f r)(i:∀xs H Q,r' xs H Q->r xs H Q):ĺ X f r':=λpins s σ H xs us Q I r q=>h pins s σ H xs us Q I r (i xs H Q q)
def iM.wk{r r':R2}(h:iM X r)(i:∀x y H Q,r' x y H Q->r x y H Q):iM X r':=λva sl pins s σ H x y v u Q I rx ry q=>h va sl pins s σ H x y v u Q I rx ry (i x y H Q q)
def jt.wk{r r':V->Option Int->Option Int->Hp->VK->Prop}(h:jt X r)(i:∀x lo hi H Q,r' x lo hi H Q->r x lo hi H Q):jt X r':=λpins s σ H x v vl vu lo hi sl Q I rx hs pl pu q=>h pins s σ H x v vl vu lo hi sl Q I rx hs pl pu (i x lo hi H Q q)
def wG(i:Nat):TE:=λσ H Q=>match σ[i]? with
 |some (some v)=>Q v H
 |_=>False
def rG{i:Nat}{σ:L2.St}{H:Hp}{Q:VK}(h:wG i σ H Q):qL i σ H Q:=by
 unfold wG at h
 split at h
 ·exact⟨_,by assumption,h⟩
 ·exact h.elim
def mv(i:Nat){x:Str}{pos:Pos}(hN:X.N[i]?=some x:=by rfl)(hv:mq X.env.scope x:=by first|exact Or.inl rfl|exact Or.inr (Or.inl rfl)|exact Or.inr (Or.inr rfl))(hd:(x== ("__debug__" :Str))=false:=by decide)
 (hcd:(x== ("__classdict__" :Str))=false:=by decide):PE X (.Name x pos) (wG i):=PE.wk (ų hN hv hd hcd) λ_ _ _ h=>rG h
def Fg(x:V)(k:Bool->Prop):Prop:=match x with
 | .bl c=>k c
 |_=>False
def ni{x:V}{k:Bool->Prop}(h:Fg x k):∃c,x=.bl c/\k c:=by
 cases x with
 |bl c=>exact⟨c,rfl,h⟩
 |_=>exact h.elim
def uE(t:TE):TT:=λσ H Q=>t σ H λx H1=>Fg x λc=>Q c H1
def wH{op:CmpOp}{r:R2}(ho:ķ X (compareOp op) r)(ha:PE X a ta)(hb:PE X b tb)(hm:behindInMarks op b=false):PT X (.Compare a [op] [b] pos) (uE (yu r ta tb)):=by
 intro pins s σ H Q I h
 refine wpAny_isTrue_Compare1 (ĩ (ha pins s σ H _ I h) λv s1 ⟨x,H1,I1,r1,q1⟩=>ĩ (hb pins s1 σ H1 _ I1 q1) λu s2 ⟨y,H2,I2,r2,q2⟩=>
  ĩ (ho pins s2 σ H2 x y v u _ I2 r1 r2 q2) λc s3 ⟨z,H3,I3,r3,q3⟩=>?_) hm
 obtain⟨k,e,q3⟩:=ni q3
 subst e
 cases r3
 exact wpAny_truthy_bool ⟨H3,I3,q3⟩
def zj(ta tb:TE):TE:=λσ H Q=>ta σ H λx H1=>Fg x λc=>if c=true then tb σ H1 Q else Q (.bl false) H1
variable{rest:List Expr}
def wI(ha:PE X a ta)(hb:PE X (.BoolOp .And (b::rest) pos) tb):PE X (.BoolOp .And (a::b::rest) pos) (zj ta tb):=by
 intro pins s σ H Q I h
 refine BoolOp_and (ĩ (ha pins s σ H _ I h) λv s1 ⟨x,H1,I1,r1,q1⟩=>?_)
 obtain⟨c,rfl,q1⟩:=ni q1
 cases r1
 refine wpAny_truthy_bool ?_
 cases c with
 |true=>exact hb pins s1 σ H1 Q I1 q1
 |false=>exact⟨.bl false,H1,I1,rfl,q1⟩
def mI(C:Int->Int->Prop)(g:Int->Int->V):R2:=λx y H Q=>match x,y with
 | .int i,.int j=>C i j/\Q (g i j) H
 |_,_=>False
def wJ(g:Int->Int->V):R2:=λx y H Q=>match x,y with
 | .int i,.int j=>Q (g i j) H
 |_,_=>False
def dh{C:Int->Int->Prop}{g:Int->Int->V}(x y:V)(H:Hp)(Q:VK)(h:mI C g x y H Q):rI C g x y H Q:=by
 cases x with
 |int i=>
  cases y with
  |int j=>exact⟨i,j,rfl,rfl,h.1,h.2⟩
  |_=>exact h.elim
 |_=>exact h.elim
def nj{g:Int->Int->V}(x y:V)(H:Hp)(Q:VK)(h:wJ g x y H Q):yw g x y H Q:=by
 cases x with
 |int i=>
  cases y with
  |int j=>exact⟨i,j,rfl,rfl,h⟩
  |_=>exact h.elim
 |_=>exact h.elim
def zm:R2:=λx y H Q=>match x,y with
 | .int i,.int j=>Q (.int (i+j)) H
 | .str i,.str j=>i.length+j.length<=sizeLine/\Q (.str (i++j)) H
 |_,_=>False
def wK:ķ X (binaryOp .Add) zm:=ķ.wk (vQ.or iK) λx y H Q h=>by
 cases x with
 |int i=>
  cases y with
  |int j=>exact .inl ⟨i,j,rfl,rfl,h⟩
  |_=>exact h.elim
 |str i=>
  cases y with
  |str j=>exact .inr ⟨i,j,rfl,rfl,h.1,h.2⟩
  |_=>exact h.elim
 |_=>exact h.elim
def dw(i j:Int):Prop:=vP i j\/(Builtin.Int.intBits i<=1048576/\Builtin.Int.intBits j<=1048576)
theorem dw.ok{i j:Int}(h:dw i j):IntMulOk i j:=by
 rcases h with h|⟨h1,h2⟩
 ·exact h.ok
 ·exact IntMulOk.of_le h1 h2 (by decide)
def wL:ķ X (binaryOp .Mult) (mI dw λi j=>.int (i*j)):=ķ.wk (jr (C:=dw) (g:=λi j=>i*j) λ_ _ _ _ _ _ _ hc q=>mul_int q hc.ok) dh
def lH(_ j:Int):Prop:=j≠0/\Builtin.Int.intBits j<=8000
def lH.py{i j:Int}(h:lH i j):Builtin.divisionGoesByPylong i j=false:=by
 refine PyProof.noPylong_of_log2 ?_
 have hb:=intBits_le_iff.mp h.2
 have h0:j.natAbs≠0:=by have:=h.1;omega
 exact Nat.lt_of_lt_of_le ((Nat.log2_lt h0).mpr hb) (by decide)
def rH:ķ X (binaryOp .FloorDiv) (mI lH λi j=>.int (i.fdiv j)):=ķ.wk (jr (C:=lH) (g:=λi j=>i.fdiv j) λ_ _ _ _ _ _ _ hc q=>floordiv_int hc.1 q (.inl hc.py)) dh
def wM:ķ X (binaryOp .Mod) (mI (λ_ j=>j≠0) λi j=>.int (i.fmod j)):=ķ.wk qU dh
def wN:ķ X (binaryOp .Pow) (mI lA λi j=>.int (i ^ j.toNat)):=ķ.wk vR dh
def zp:ķ X (compareOp .Gt) (wJ λi j=>.bl (decide (j<i))):=ķ.wk yR nj
def wO(K:PySem.W.Frag):List V->Hp->VK->Prop:=λxs H Q=>match xs with
 | [.str y]=>y.length<=sizeLine/\Q (.int (y.length:Int)) H
 | [.ref p]=>∃ys,(Ľ K H p ys\/Ŭ K H p ys)/\Q (.int (ys.length:Int)) H
 |_=>False
def eU:ĺ X (.builtin "len") (wO X.K):=ĺ.wk mV λxs H Q h=>by
 unfold wO at h
 split at h
 ·exact⟨_,_,rfl,⟨h.1,rfl⟩,h.2⟩
 ·obtain⟨ys,h1,h2⟩:=h
  refine⟨_,ys.length,rfl,?_,h2⟩
  rcases h1 with h1|h1
  ·exact .inl ⟨ys,h1,rfl⟩
  ·exact .inr ⟨ys,h1,rfl⟩
 ·exact h.elim
def Ir(K:PySem.W.Frag):R2:=λx y H Q=>match x,y with
 | .ref p,.int i=>∃xs v,(Ľ K H p xs\/Ŭ K H p xs)/\eE xs i=some v/\Q v H
 | .str z,.int i=>∃c,z.length<=sizeLine/\eE z.cps.toList i=some c/\Q (.str ⟨#[c]⟩) H
 |_,_=>False
def zq:iM X (Ir X.K):=iM.wk wB λx y H Q h=>by
 cases x with
 |ref p=>
  cases y with
  |int i=>
   obtain⟨xs,v,h1,h2,h3⟩:=h
   rcases h1 with h1|h1
   ·exact .inl ⟨p,xs,i,v,rfl,rfl,h1,h2,h3⟩
   ·exact .inr (.inl ⟨p,xs,i,v,rfl,rfl,h1,h2,h3⟩)
  |_=>exact h.elim
 |str z=>
  cases y with
  |int i=>
   obtain⟨c,h1,h2,h3⟩:=h
   exact .inr (.inr ⟨z,i,c,rfl,rfl,h1,h2,h3⟩)
  |_=>exact h.elim
 |_=>exact h.elim
def JC(x:V)(k:Int->Prop):Prop:=match x with
 | .int i=>k i
 |_=>False
def zu(t:TE):TO:=λσ H Q=>t σ H λx H1=>JC x λi=>Q (some i) H1
def nq(h:PE X e te):PO X (some e) (zu te):=by
 intro pins s σ H Q I hw
 rw[evalPart_some]
 refine ĩ (h pins s σ H _ I hw) λu s1 ⟨x,H1,I1,r1,q1⟩=>?_
 cases x with
 |int i=>
  obtain⟨t,rfl⟩:=r1
  exact⟨some i,H1,I1,.int i t,q1⟩
 |_=>exact q1.elim
def Fi(K:PySem.W.Frag):V->Option Int->Option Int->Hp->VK->Prop:=λx lo hi H Q=>match x with
 | .ref a=>∃xs,Ľ K H a xs/\∀p,H p=none->Q (.ref p) (upd H p (.lst (gn xs lo hi)))
 |_=>False
def nu:jt X (Fi X.K):=jt.wk rC λx lo hi H Q h=>by
 cases x with
 |ref a=>
  obtain⟨xs,h1,h2⟩:=h
  exact⟨a,xs,rfl,h1,h2⟩
 |_=>exact h.elim
end
end M2
namespace M2
open PySem PySem.Spec PyProof.Rows L2
section
variable{X:Cx}{tg:Expr}
end
mutual
def Rp(K:PySem.W.Frag)(H:Hp):PyData->V->Prop
 | .none,v=>v=.non
 | .bool b,v=>v=.bl b
 | .int i,v=>v=.int i
 | .str x,v=>v=.str x
 | .tuple ds,v=>∃a xs,v=.ref a/\Ŭ K H a xs/\cJ K H ds xs
 | .list ds,v=>∃a xs,v=.ref a/\Ľ K H a xs/\cJ K H ds xs
 | .dict _,_=>False
def cJ(K:PySem.W.Frag)(H:Hp):List PyData->List V->Prop
 | [],xs=>xs=[]
 |d::ds,xs=>∃x r,xs=x::r/\Rp K H d x/\cJ K H ds r
end
def Same.tup{K:PySem.W.Frag}{H H':Hp}{a:Addr}{xs:List V}(e:Same H H')(h:Ŭ K H a xs):Ŭ K H' a xs:=by
 rcases h with(h|⟨o,h⟩)|h
 ·exact .inl (.inl (e _ _ h))
 ·exact .inl (.inr ⟨o,e _ _ h⟩)
 ·exact .inr h
theorem Same.upd{H:Hp}{p:Addr}{o:HO}(h:H p=none):Same H (upd H p o):=λb u e=>by
 rw[Ą (Ē e h)]
 exact e
mutual
theorem Rp.same{K:PySem.W.Frag}{H H':Hp}(e:Same H H'):∀(d:PyData) (v:V),Rp K H d v->Rp K H' d v
 | .none,_,h=>by unfold Rp at h ⊢;exact h
 | .bool _,_,h=>by unfold Rp at h ⊢;exact h
 | .int _,_,h=>by unfold Rp at h ⊢;exact h
 | .str _,_,h=>by unfold Rp at h ⊢;exact h
 | .tuple ds,_,h=>by
   unfold Rp at h ⊢
   obtain⟨a,xs,h1,h2,h3⟩:=h
   exact⟨a,xs,h1,Same.tup e h2,cJ.same e ds xs h3⟩
 | .list ds,_,h=>by
   unfold Rp at h ⊢
   obtain⟨a,xs,h1,h2,h3⟩:=h
   exact⟨a,xs,h1,e.seq h2,cJ.same e ds xs h3⟩
 | .dict _,_,h=>by unfold Rp at h;exact h.elim
theorem cJ.same{K:PySem.W.Frag}{H H':Hp}(e:Same H H'):∀(ds:List PyData) (xs:List V),cJ K H ds xs->cJ K H' ds xs
 | [],_,h=>by unfold cJ at h ⊢;exact h
 |d::ds,_,h=>by
  unfold cJ at h ⊢
  obtain⟨x,r,h1,h2,h3⟩:=h
  exact⟨x,r,h1,Rp.same e d x h2,cJ.same e ds r h3⟩
end
section
variable{X:Cx}{pins:List (Addr×Obj)}{σ:L2.St}{H:Hp}{s:Shared}
mutual
theorem Rp.reads(I:Inv X pins σ H s):∀(d:PyData) (v:V) (u:Value),Rp X.K H d v->RelV v u->∃as,Reads s.heap u d as
 | .none,v,u,h,r=>by
   unfold Rp at h;subst h;cases r;exact⟨_,.none⟩
 | .bool b,v,u,h,r=>by
   unfold Rp at h;subst h;cases r;exact⟨_,.bool b⟩
 | .int i,v,u,h,r=>by
   unfold Rp at h;subst h;obtain⟨t,rfl⟩:=r;exact⟨_,.int i t⟩
 | .str x,v,u,h,r=>by
   unfold Rp at h;subst h;obtain⟨t,rfl⟩:=r;exact⟨_,.str x t⟩
 | .tuple ds,v,u,h,r=>by
   unfold Rp at h
   obtain⟨a,xs,h1,h2,h3⟩:=h
   subst h1
   cases r
   obtain⟨its,rv,⟨o,e,hc,n,hd⟩,hz⟩:=I.tuple h2
   obtain⟨as,ra⟩:=cJ.reads I ds xs its h3 rv
   exact⟨_,.tuple e hc hd (by simpa using ra)⟩
 | .list ds,v,u,h,r=>by
   unfold Rp at h
   obtain⟨a,xs,h1,h2,h3⟩:=h
   subst h1
   cases r
   obtain⟨its,rv,⟨o,n,e,hc,hdd,hd⟩,hz⟩:=I.list h2
   obtain⟨as,ra⟩:=cJ.reads I ds xs its h3 rv
   exact⟨_,.list e hc hd (by simpa using ra)⟩
 | .dict _,_,_,h,_=>by unfold Rp at h;exact h.elim
theorem cJ.reads(I:Inv X pins σ H s):∀(ds:List PyData) (xs:List V) (us:List Value),cJ X.K H ds xs->Vals xs us->∃as,ReadsAll s.heap us ds as
 | [],xs,us,h,r=>by
   unfold cJ at h;subst h;cases r;exact⟨_,.nil⟩
 |d::ds,xs,us,h,r=>by
  unfold cJ at h
  obtain⟨x,q,h1,h2,h3⟩:=h
  subst h1
  cases r with
  |cons r1 r2=>
   obtain⟨as,ra⟩:=Rp.reads I d x _ h2 r1
   obtain⟨bs,rb⟩:=cJ.reads I ds q _ h3 r2
   exact⟨_,.cons ra rb⟩
end
end
def rJ(K:PySem.W.Frag)(neg:Bool):R2:=λx y H Q=>∃d e,Rp K H d x/\Rp K H e y/\d.canLay0=true/\e.canLay0=true/\min d.depth e.depth<=60/\Q (.bl (if neg then !PyData.eqv d e else PyData.eqv d e)) H
section
variable{X:Cx}
def nA(hu:X.A.units+64<cLine):ķ X (compareOp .Eq) (rJ X.K false):=by
 intro pins s σ H x y v u Q I rx ry h
 obtain⟨d,e,h1,h2,h3,h4,h5,q⟩:=h
 obtain⟨as,ra⟩:=Rp.reads I d x v h1 rx
 obtain⟨bs,rb⟩:=Rp.reads I e y u h2 ry
 exact SeqAt.compareEq_reads ra rb h3 h4 (by omega) ⟨.bl _,H,I,rfl,q⟩
def wQ(hu:X.A.units+64<cLine):ķ X (compareOp .NotEq) (rJ X.K true):=by
 intro pins s σ H x y v u Q I rx ry h
 obtain⟨d,e,h1,h2,h3,h4,h5,q⟩:=h
 obtain⟨as,ra⟩:=Rp.reads I d x v h1 rx
 obtain⟨bs,rb⟩:=Rp.reads I e y u h2 ry
 exact SeqAt.compareNe_reads ra rb h3 h4 (by omega) ⟨.bl _,H,I,rfl,q⟩
end
section
variable{K:PySem.W.Frag}
end
end M2
namespace M3
open PySem PySem.Spec PyProof.Rows L2 M2
def rK{P:Program}{w:World}{H:Hp}{h h':Heap}{C:Addr}(x:Ż P w H h)(hC:H C=none)(k:∀b u,b≠C->h.get? b=some u->h'.get? b=some u):Ż P w H h':=λa o e=>
 (x a o e).stay (fun b u hb q=>k b u (by
   rcases hb with hb|hb
   ·rw[hb];exact Ē e hC
   ·exact Ē hb hC) q) (λ_ q=>q) λ_ _ q=>q
theorem Ŵ{env:Env}:∀(ns:List (Str×NameKind)) (cs:List (Str×Addr)),(∀y∈ns,y.2=.free->∃c,env.cells.lookup y.1=some c)->(∀x c,cs.lookup x=some c->env.cells.lookup x=some c)->
 ∃cl,(forIn ns cs (λ(x:Str×NameKind) r=>if(x.2== .free)=true then(do let c <-cellOf env x.1;pure (ForInStep.yield ((x.1,c)::r))) else pure (ForInStep.yield r)):Sem (List (Str×Addr)))=pure cl/\
  (∀x c,cl.lookup x=some c->env.cells.lookup x=some c)/\(∀x,(∃c,cs.lookup x=some c)->∃c,cl.lookup x=some c)/\∀y∈ns,y.2=.free->∃c,cl.lookup y.1=some c
 | [],cs,_,h2=>⟨cs,rfl,h2,λ_ z=>z,λ_ z=>nomatch z⟩
 |(n,k)::ns,cs,h1,h2=>by
  by_cases hk:k=.free
  ·subst hk
   obtain⟨c,hc⟩:=h1 (n,.free) List.mem_cons_self rfl
   have e:cellOf env n=pure c:=by unfold cellOf;rw[hc]
   have h2':∀x d,((n,c)::cs).lookup x=some d->env.cells.lookup x=some d:=λx d q=>by
    rw[List.lookup_cons] at q
    cases hx:x== n with
    |true=>
     rw[hx] at q
     have:x=n:=eq_of_beq hx
     subst this
     cases q
     exact hc
    |false=>
     rw[hx] at q
     exact h2 x d q
   obtain⟨cl,q1,q2,q3,q4⟩:=Ŵ ns ((n,c)::cs) (λy hy=>h1 y (List.mem_cons_of_mem _ hy)) h2'
   refine⟨cl,?_,q2,λx ⟨d,hd⟩=>q3 x ?_,λy hy hf=>?_⟩
   ·rw[List.forIn_cons]
    simp only[beq_self_eq_true,if_true,e,pure_bind]
    exact q1
   ·rw[List.lookup_cons]
    cases hx:x== n with
    |true=>exact⟨c,rfl⟩
    |false=>exact⟨d,hd⟩
   ·rcases List.mem_cons.mp hy with rfl|hy
    ·exact q3 n ⟨c,by rw[List.lookup_cons,beq_self_eq_true]⟩
    ·exact q4 y hy hf
  ·have hb:(k== NameKind.free)=false:=by simpa using hk
   obtain⟨cl,q1,q2,q3,q4⟩:=Ŵ ns cs (λy hy=>h1 y (List.mem_cons_of_mem _ hy)) h2
   refine⟨cl,?_,q2,q3,λy hy hf=>?_⟩
   ·rw[List.forIn_cons]
    simp only[hb,Bool.false_eq_true,if_false,pure_bind]
    exact q1
   ·rcases List.mem_cons.mp hy with rfl|hy
    ·exact absurd hf hk
    ·exact q4 y hy hf
def eV{scope:Scope}{env:Env}(h:∀y∈scope.names,y.2=.free->∃c,env.cells.lookup y.1=some c) :
 ∃cl,closureFor scope env=pure cl/\(∀x c,cl.lookup x=some c->env.cells.lookup x=some c)/\∀y∈scope.names,y.2=.free->∃c,cl.lookup y.1=some c:=by
 obtain⟨cl,q1,q2,_,q4⟩:=Ŵ (env:=env) scope.names [] h (λx c z=>by simp at z)
 refine⟨cl,?_,q2,q4⟩
 unfold closureFor
 have e:(forIn scope.names [] (λ(x:Str×NameKind) (r:List (Str×Addr))=>match x with
  |(name,kind)=>if(kind== .free)=true then(do let a <-cellOf env name;pure (ForInStep.yield ((name,a)::r))) else pure (ForInStep.yield r)):Sem (List (Str×Addr)))=pure cl:=q1
 first
  |(simp only[bind_pure];exact q1)
  |(rw[show ∀(t:Sem (List (Str×Addr))),(do let r <-t;pure r)=t from λt=>by simp];exact q1)
  |(simp only[q1,pure_bind])
def aD(X:Cx)(N':List Str)(scope:Scope)(cl:List (Str×Addr))(C:Addr)(s:Shared)(H:Hp)(fp:List Addr):Cx where
 prog:=X.prog
 w:=X.w
 K:=X.K
 mg:=X.mg
 base:=X.base
 A:=X.A
 N:=N'
 s₀:= s
 H₀:= H
 env:=compEnvC scope cl C X.env
 outer:=X.stack
 stack:=X.stack
 ex:=fp
 fn:=λx=>scope.names.lookup x== some .cell
 calm:=X.calm
 pn:=[]
 xe:=λ_ _=>False
def bJ(X:Cx)(sc scope:Scope):List Str->List Nat->Prop
 |x::xs,j::js=>X.N[j]?=some x/\(scope.names.lookup x=some .free/\(sc.names.lookup x=some .cell\/sc.names.lookup x=some .free))/\bJ X sc scope xs js
 |_,[]=>True
 | [],_::_=>False
def ř(js:List Nat)(nl:Nat)(σ:L2.St):L2.St:=js.map (λj:Nat=>(σ[j]?).getD none)++List.replicate nl none
theorem dz{X:Cx}{sc scope:Scope}{σ:L2.St}{nl:Nat}:∀{N':List Str} {js:List Nat} {i:Nat} {x:Str} {v:V},bJ X sc scope N' js->N'[i]?=some x->(ř js nl σ)[i]?=some (some v)->
 ∃j:Nat,X.N[j]?=some x/\σ[j]?=some (some v)/\scope.names.lookup x=some .free/\(sc.names.lookup x=some .cell\/sc.names.lookup x=some .free)
 |N',[],i,x,v,_,_,h=>by
  unfold ř at h
  rw[List.map_nil,List.nil_append,List.getElem?_replicate] at h
  split at h<;>cases h
 | [],_::_,_,_,_,c,_,_=>c.elim
 |y::N',j::js,0,x,v,c,h1,h2=>by
  obtain⟨c1,c2,_⟩:=c
  simp at h1
  subst h1
  have e:(σ[j]?).getD none=some v:=by simpa[ř] using h2
  refine⟨j,c1,?_,c2⟩
  cases q:σ[j]? with
  |none=>rw[q] at e;cases e
  |some o=>rw[q] at e;exact congrArg some e
 |y::N',j::js,i+1,x,v,c,h1,h2=>by
  exact dz (N':=N') (js:=js) (i:=i) c.2.2 (by simpa using h1) (by simpa[ř] using h2)
section
variable{prog:Program}{w:World}{A:Around}{R:Result->Shared->Prop}{s:Shared}
def eX{elt target iter:Expr}{ifs:List Expr}{scope:Scope}{pos:Pos}{it acc:Value}{env:Env}(I:Nat->Shared->Prop)
 (turn:∀n s,I n s→wpAny (model prog w) A (pyNext it) (fun r s₁=>match r with
   |none=>R (.ok .next) s₁
   |some v=>wpAny (model prog w) A (letOwnedTupleGo target it v) (fun _ s₁'=>wpAny (model prog w) A (assign target env v) (fun _ s₂=>
     wpAny (model prog w) A (forIn ifs true λc r=>if r=true then do let ok <-isTrue c env (eval c env);pure (ForInStep.yield ok) else pure (ForInStep.yield r)) (λok s₃=>
      if ok=true then wpAny (model prog w) A (eval elt env) (λx s₄=>
       wpAny (model prog w) A (call (.builtin "list.append") [acc,x]) (λ_ s₅=>∃m,m<n/\I m s₅) (λ_ _=>False) s₄) (λ_ _=>False) s₃
      else ∃m,m<n/\I m s₃) (λ_ _=>False) s₂) (λ_ _=>False) s₁') (λ_ _=>False) s₁) (λ_ _=>False) s)
 (n:Nat)(h:I n s) :
 codeAny (model prog w) A (.compLoop (.ListComp elt [⟨target,iter,ifs,0⟩] scope pos) 0 it acc env) R s:=by
 refine codeAny_loop rfl I (λn s hI=>?_) n h
 show wpAny _ A ((compTurn (.ListComp elt [⟨target,iter,ifs,0⟩] scope pos) 0 it acc env).onRaise (λx=>do noteFrame x env;theTreesLotGoes x)) _ _ s
 refine wpAny_noted (wpAny_noRaise ?_)
 rw[compTurn_list]
 refine wpAny_bind (wpAny_standAt (wpAny_bind (wpAny_mono (turn n s hI) (λr s₁ h₁=>?_) λ_ _ h'=>h')))
 cases r with
 |none=>exact wpAny_pure h₁
 |some v=>
  refine wpAny_bind (wpAny_mono h₁ (λ_ s₁' h₁'=>?_) λ_ _ h'=>h')
  refine wpAny_bind (wpAny_mono h₁' (λ_ s₂ h₂=>wpAny_bind (wpAny_mono h₂ (λok s₃ h₃=>?_) λ_ _ h'=>h')) λ_ _ h'=>h')
  cases ok with
  |false=>exact wpAny_pure ⟨rfl,h₃⟩
  |true=>
   exact wpAny_bind (wpAny_bind (wpAny_mono h₃ (λx s₄ h₄=>wpAny_bind (wpAny_mono h₄ (λ_ s₅ h₅=>wpAny_pure (wpAny_pure ⟨rfl,h₅⟩)) λ_ _ h'=>h')) λ_ _ h'=>h'))
end
def rM(X:Cx)(ifs:List Expr)(t:TT):Prop:=
 ∀(pins:List (Addr×Obj)) (s:Shared) (σ:L2.St) (H:Hp) (Q:Bool->Hp->Prop),Inv X pins σ H s->t σ H Q->
  wpAny (model X.prog X.w) X.A (forIn ifs true λc r=>if r=true then do let ok <-isTrue c X.env (eval c X.env);pure (ForInStep.yield ok) else pure (ForInStep.yield r)) (TP X pins σ Q) X.xe s
def Fj:TT:=λ_ H Q=>Q true H
def rN{X:Cx}:rM X [] Fj:=λ_ _ _ H _ I h=>wpAny_tests_nil ⟨H,I,h⟩
def rP{X:Cx}{c:Expr}{t:TT}(h:PT X c t):rM X [c] t:=λpins s σ H Q I hw=>wpAny_tests_one (h pins s σ H Q I hw)
def uF(js:List Nat)(nl:Nat)(wi:TI)(g:TG)(tt:TT)(te:TE):TE:=λσ H Q=>wi σ H λJ H1=>∀D,H1 D=none->
 ∃W:Nat->Nat->L2.St->Hp->Prop,(∃m,W 0 m (ř js nl σ) (upd H1 D (.lst [])))/\∀i m σ' H',W i m σ' H'->
  (J.stop i H'∧Q (.ref D) H')∨(J.go i H'∧∃N:L2.St→Hp→Prop,(∀σ2 H2,N σ2 H2→∃m',m'<m∧W (i+1) m' σ2 H2)∧∀x H2,J.CJ i H' x H2→g x σ' H2 fun σ2 H3=>tt σ2 H3 fun c H4=>
    if c=true then te σ2 H4 λy H5=>∃ys,H5 D=some (.lst ys)/\ys.length<sizeLine/\N σ2 (upd H5 D (.lst (ys ++ [y]))) else N σ2 H4)
section
variable{X:Cx}{elt tg iter:Expr}{ifs:List Expr}{scope:Scope}{pos:Pos}{wi:TI}{g:TG}{tt:TT}{te:TE}
theorem Ō{env:Env}:∀{names:List (Str×NameKind)} {x:Str} {k:NameKind},(k=.cell\/k=.free)->
 (names.map λ(n,k)=>if(k== NameKind.free && env.scope.kind== .function && env.kindOf n== some .cell) then(n,NameKind.cell) else(n,k)).lookup x=some k->(x,NameKind.free)∈names\/(x,NameKind.cell)∈names
 | [],x,k,_,h=>by simp at h
 |(n,q)::r,x,k,hk,h=>by
  have ih:=@Ō env r x k hk
  rw[List.map_cons] at h
  by_cases hx:x=n
  ·subst hx
   by_cases hf:q=.free
   ·subst hf
    exact .inl List.mem_cons_self
   ·have hb:(q== NameKind.free)=false:=by simpa using hf
    have e:(if(q== NameKind.free && env.scope.kind== .function && env.kindOf x== some .cell)=true then(x,NameKind.cell) else(x,q))=(x,q):=by
     rw[hb];rfl
    have h2:=h
    simp only[e,List.lookup_cons,beq_self_eq_true] at h2
    have:q=k:=Option.some.inj h2
    rcases hk with hk|hk
    ·rw[this,hk]
     exact .inr List.mem_cons_self
    ·exact absurd (this.trans hk) hf
  ·have hn:(x== n)=false:=by simpa using hx
   have h3:(x,NameKind.free)∈r\/(x,NameKind.cell)∈r:=ih (by
    by_cases c:(q== NameKind.free && env.scope.kind== .function && env.kindOf n== some .cell)=true
    ·simp only[c,if_true,List.lookup_cons,hn] at h
     exact h
    ·simp only[c,if_false,Bool.false_eq_true,List.lookup_cons,hn] at h
     exact h)
   rcases h3 with h3|h3
   ·exact .inl (List.mem_cons_of_mem _ h3)
   ·exact .inr (List.mem_cons_of_mem _ h3)
theorem ĕ:∀(names:List (Str×NameKind)) (n:Nat) (acc:List (Str×Addr)),cellsFrom n names acc=cellsFrom n names []++acc
 | [],_,_=>rfl
 |(x,k)::r,n,acc=>by
  unfold cellsFrom
  split
  ·rw[ĕ r (n+1) ((x,n)::acc),ĕ r (n+1) [(x,n)],List.append_assoc]
   rfl
  ·exact ĕ r n acc
theorem ō:∀(names:List (Str×NameKind)) (n:Nat) {x:Str} {c:Addr},(x,c)∈cellsFrom n names []->(x,NameKind.cell)∈names
 | [],_,_,_,h=>by simp[cellsFrom] at h
 |(y,k)::r,n,x,c,h=>by
  unfold cellsFrom at h
  split at h
  ·rename_i hk
   rw[ĕ r (n+1) [(y,n)]] at h
   rcases List.mem_append.mp h with h|h
   ·exact List.mem_cons_of_mem _ (ō r _ h)
   ·have e:(x,c)=(y,n):=by simpa using h
    cases e
    rw[beq_iff_eq.mp hk]
    exact List.mem_cons_self
  ·exact List.mem_cons_of_mem _ (ō r _ h)
structure Blk(X:Cx)(scope:Scope)(n:Nat)(h:Heap)(cl:List (Str×Addr)):Prop where
 at_:∀x c,cl.lookup x=some c->(X.env.cells.lookup x=some c/\scope.names.lookup x≠some .cell)\/(n<c/\h.IsCell c none/\scope.names.lookup x=some .cell)
 inj:∀x y c,cl.lookup x=some c->cl.lookup y=some c->n<c->x=y
 has:∀x,((x,NameKind.free)∈scope.names\/(x,NameKind.cell)∈scope.names)->∃c,cl.lookup x=some c
def wR{X:Cx}{scope:Scope}{n:Nat}{h:Heap}{cl:List (Str×Addr)}(hcell:∀y∈scope.names,y.2=.cell->scope.names.lookup y.1=some .cell)
 (h1:∀x c,cl.lookup x=some c->X.env.cells.lookup x=some c)(h2:∀y∈scope.names,y.2=.free->∃c,cl.lookup y.1=some c)(hlt:∀x c,X.env.cells.lookup x=some c->c<n)
 (ok:CellsOk h (n+1) (cellsFrom (n+1) scope.names [])):Blk X scope n h (cellsFrom (n+1) scope.names cl):=by
 have sp:∀x c,(cellsFrom (n+1) scope.names cl).lookup x=some c->(cl.lookup x=some c/\(cellsFrom (n+1) scope.names []).lookup x=none)\/(cellsFrom (n+1) scope.names []).lookup x=some c:=λx c e=>by
  rw[ĕ,List.lookup_append] at e
  cases q:(cellsFrom (n+1) scope.names []).lookup x with
  |none=>rw[q] at e;exact .inl ⟨by simpa using e,rfl⟩
  |some d=>rw[q] at e;exact .inr (by simpa using e)
 refine⟨λx c e=>?_,λx y c e1 e2 hc=>?_,λx hx=>?_⟩
 ·rcases sp x c e with⟨e,q⟩|e
  ·refine .inl ⟨h1 x c e,λz=>?_⟩
   obtain⟨d,hd⟩:=ž (sc:=scope) (n:=n+1) z
   rw[hd] at q
   cases q
  ·have m:=mem_of_lookup e
   exact .inr ⟨(ok.empty x c m).2,(ok.empty x c m).1,hcell _ (ō _ _ m) rfl⟩
 ·have nw:∀z,(cellsFrom (n+1) scope.names cl).lookup z=some c→(cellsFrom (n+1) scope.names []).lookup z=some c:=fun z e=>by
   rcases sp z c e with⟨e,q⟩|e
   ·exact absurd (hlt z c (h1 z c e)) (Nat.lt_asymm hc)
   ·exact e
  exact name_of_addr ok.apart (mem_of_lookup (nw x e1)) (mem_of_lookup (nw y e2))
 ·rw[ĕ,List.lookup_append]
  rcases hx with hx|hx
  ·obtain⟨c,hc⟩:=h2 _ hx rfl
   cases q:(cellsFrom (n+1) scope.names []).lookup x with
   |none=>exact⟨c,by simpa using hc⟩
   |some d=>exact⟨d,rfl⟩
  ·obtain⟨d,hd⟩:=ž (sc:=scope) (n:=n+1) (hcell _ hx rfl)
   rw[hd]
   exact⟨d,rfl⟩
def cR{M:Model}{A:Around}{E:Value->Shared->Prop}{s:Shared}{scope:Scope}{globals:Addr}{closure:List (Str×Addr)}{qual:Str}
 {func:Option Addr}{code:Value}{env0:Env}{builtins:Addr}{Q:Env->Shared->Prop}
 (hQ:∀h',h'.Ns s.heap.objs.size (fun _=>none)→(∀b o,s.heap.get? b=some o→h'.get? b=some o)→CellsOk h' (s.heap.objs.size+1) (cellsFrom (s.heap.objs.size+1) scope.names [])→
   Q (newEnv scope s.heap.objs.size globals (cellsFrom (s.heap.objs.size+1) scope.names closure) qual func code (some env0) builtins) {s with heap:=h'}) :
 wpAny M A (newFunctionEnv scope globals closure [] qual func code (some env0) builtins) Q E s:=by
 simp only[newFunctionEnv,Option.isSome_some,if_true]
 refine wpAny_bind (wpAny_alloc ?_)
 refine wpAny_bind (wpAny_layCells _ (λname kind cells=>by cases hkc:kind== NameKind.cell<;>simp[hkc]) _ _ _ _ ?_)
 have ok:=cellsFrom_ok scope.names (s.heap.push {cls:=.type "dict",data:=.dict #[]}) (s.heap.objs.size+1) [] ⟨λ_ _ hm=>(nomatch hm),List.Pairwise.nil⟩ (by rw[Heap.size_push];exact Nat.le_refl _)
 rw[Heap.size_push] at ok
 rw[show({s with heap:=s.heap.push {cls:=.type "dict",data:=.dict #[]}}:Shared).heap.objs.size=s.heap.objs.size+1 from Heap.size_push ..]
 refine wpAny_bind ?_
 rw[List.forIn_nil]
 exact wpAny_pure (wpAny_pure (hQ _ ((Heap.Ns.new s.heap (.type "dict")).keeps (pushCells_keeps _ _)) (λb o e=>pushCells_keeps _ _ b o (Heap.get?_push_of_some _ e)) ok))
theorem ſ{env:Env}:∀{names:List (Str×NameKind)} {x:Str},names.lookup x=some .free->
 ¬(names.map λ(n,k)=>if(k== NameKind.free && env.scope.kind== .function && env.kindOf n== some .cell) then(n,NameKind.cell) else(n,k)).lookup x=some .local
 | [],x,h=>by simp at h
 |(n,q)::r,x,h=>by
  intro h2
  rw[List.map_cons] at h2
  rw[List.lookup_cons] at h
  cases hx:x== n with
  |true=>
   rw[hx] at h
   cases h
   by_cases c:(NameKind.free== NameKind.free && env.scope.kind== .function && env.kindOf n== some .cell)=true
   ·simp only[c,if_true,List.lookup_cons,hx] at h2
    cases h2
   ·simp only[c,if_false,Bool.false_eq_true,List.lookup_cons,hx] at h2
    cases h2
  |false=>
   rw[hx] at h
   have ih:=ſ (env:=env) h
   by_cases c:(q== NameKind.free && env.scope.kind== .function && env.kindOf n== some .cell)=true
   ·simp only[c,if_true,List.lookup_cons,hx] at h2
    exact ih h2
   ·simp only[c,if_false,Bool.false_eq_true,List.lookup_cons,hx] at h2
    exact ih h2
def lJ{pins:List (Addr×Obj)}{σ:L2.St}{H:Hp}{s:Shared}{N':List Str}{js:List Nat}{nl:Nat}{sc:Scope}{cl:List (Str×Addr)}{fp:List Addr}{h':Heap}{tk:Nat}
 (hsc:X.env.scope=sc)(hk:scope.kind=.function)(hcap:bJ X sc scope N' js)(hlen:js.length+nl=N'.length)(B:Blk X scope s.heap.objs.size h' cl)
 (I:Inv X pins σ H s)(hf:∀b∈fp,cP X pins H b)(hlt:∀b∈fp,b<s.heap.objs.size)
 (hn:h'.Ns s.heap.objs.size (λ_=>none))(kp:∀b o,s.heap.get? b=some o->h'.get? b=some o) :
 Inv (aD X N' scope cl s.heap.objs.size s H fp) [] (ř js nl σ) H {s with heap:=h',toks:=tk}:=by
 have nC:∀x,((aD X N' scope cl s.heap.objs.size s H fp).env.kindOf x=some .cell\/(aD X N' scope cl s.heap.objs.size s H fp).env.kindOf x=some .free)->∃c,cl.lookup x=some c:=λx hx=>by
  rcases hx with hx|hx
  ·exact B.has x (Ō (.inl rfl) hx)
  ·exact B.has x (Ō (.inr rfl) hx)
 have lt:∀x c,X.env.cells.lookup x=some c->c<s.heap.objs.size:=λx c e=>by
  obtain⟨v,o,ho,_⟩:=I.cell x c e
  exact Heap.lt_size ho
 have inj:∀x y c,cl.lookup x=some c->cl.lookup y=some c->x=y:=λx y c e1 e2=>by
  rcases B.at_ x c e1 with⟨q1,_⟩|⟨q1,_⟩
  ·rcases B.at_ y c e2 with⟨q2,_⟩|⟨q2,_⟩
   ·exact I.ok.inj x y c q1 q2
   ·exact absurd (lt x c q1) (Nat.lt_asymm q2)
  ·exact B.inj x y c e1 e2 q1
 refine⟨⟨I.ok.mod,hk,I.ok.glob,I.ok.blt,Nat.le_refl _,inj,nC,λx c z e=>by
  rcases B.at_ x c e with⟨_,q⟩|⟨q,_⟩
  ·exact absurd (beq_iff_eq.mp z) q
  ·exact Nat.le_of_lt q,I.ok.hd,I.ok.frames,.inl rfl,λb hb=>⟨Nat.ne_of_lt (hlt b hb),λx c e=>by
  rcases B.at_ x c e with⟨q,_⟩|⟨q,_⟩
  ·exact(hf b hb).2.2.2.2.1 x c q
  ·exact Nat.ne_of_gt (Nat.lt_trans (hlt b hb) q)⟩,
  I.bs,Nat.le_trans I.ok.uw I.sz,fun b o e hb=>?_,fun b hb hz=>?_,I.stack,I.jm,I.tb⟩,rfl,I.bare,Un.kept kp,⟨_,hn,fun i x v e1 e2 e3=>?_⟩,fun x c e=>?_,I.hok.fresh (Nat.le_refl _),fun x c e=>by
    rcases B.at_ x c e with⟨q,_⟩|⟨q,_⟩
    ·exact I.ŗ x c q
    ·exact I.hok.fresh (Nat.le_of_lt q),λp hp=>?_,I.hok.kept kp,?_⟩
 ·rcases(hf b hb).2.2.2.1 with z|z
  ·exact I.ok.mG b o e z
  ·exact absurd (Nat.lt_of_lt_of_le (Heap.lt_size e) (Nat.le_trans I.ok.uw z)) (Nat.lt_irrefl _)
 ·rcases List.mem_cons.mp (I.dW b hz) with z|z
  ·exact(hf b hb).2.1 z
  ·exact(hf b hb).2.2.1 z
 ·obtain⟨j,q1,q2,q0,q3⟩:=dz hcap e1 e2
  obtain⟨m,hm,hl⟩:=I.loc
  have Fo:mq X.env.scope x:=by
   rw[hsc]
   rcases q3 with q3|q3
   ·exact .inr (.inl q3)
   ·exact .inr (.inr q3)
  obtain⟨u,ru,lk⟩:=hl j x v q1 q2 Fo
  refine⟨u,ru,?_⟩
  rcases lk with⟨k1,_⟩|⟨k1,c,hc,ic⟩
  ·exfalso
   have k1':sc.names.lookup x=some .local:=by rw[<-hsc];exact k1
   rcases q3 with q3|q3<;>(rw[k1'] at q3;cases q3)
  ·have e3':(aD X N' scope cl s.heap.objs.size s H fp).env.kindOf x=some .local\/(aD X N' scope cl s.heap.objs.size s H fp).env.kindOf x=some .cell\/(aD X N' scope cl s.heap.objs.size s H fp).env.kindOf x=some .free:=e3
   rcases e3' with z|z
   ·exact absurd z (ſ (env:=X.env) q0)
   ·obtain⟨d,hd⟩:=nC x z
    have:d=c:=by
     rcases B.at_ x d hd with⟨q,_⟩|⟨_,_,q⟩
     ·rw[hc] at q
      exact(Option.some.inj q).symm
     ·rw[q0] at q
      cases q
    subst this
    exact .inr ⟨z,d,hd,by
     obtain⟨o,ho,hd'⟩:=ic
     exact⟨o,kp _ _ ho,hd'⟩⟩
 ·rcases B.at_ x c e with⟨q,_⟩|⟨_,q,_⟩
  ·obtain⟨v,o,ho,hd⟩:=I.cell x c q
   exact⟨v,o,kp _ _ ho,hd⟩
  ·exact⟨none,q⟩
 ·exact absurd hp (by simp[aD])
 ·show _=N'.length
  rw[<-hlen]
  simp[ř]
def iQ{pins:List (Addr×Obj)}{σ σ':L2.St}{H H':Hp}{s s':Shared}{N':List Str}{cl:List (Str×Addr)}{fp:List Addr}{h':Heap}(I:Inv X pins σ H s)(hf:∀b∈fp,cP X pins H b)
 (J:Inv (aD X N' scope cl s.heap.objs.size s H fp) [] σ' H' s')(kp:∀b u,b≠s.heap.objs.size->s'.heap.get? b=some u->h'.get? b=some u):Inv X pins σ H' {s' with heap:=h'}:=by
 have ne:∀{b:Addr} {o:Obj},s.heap.get? b=some o->b≠s.heap.objs.size:=λe=>Nat.ne_of_lt (Heap.lt_size e)
 have u:=J.base
 refine I.call' (ch:=fp) J.os ⟨λb o e n hb hx=>kp b o (ne e) (u.keep b o e n hb hx),λb o e n hb hx=>?_,λb o e n hx=>u.free b o e n hx,λb o e hx=>?_,u.tups,u.cM,u.aW⟩ (rK J.hok J.free kp) J.bare λb hb=>?_
 ·obtain⟨sl,q⟩:=u.slot b o e n hb hx
  exact⟨sl,kp b _ (ne e) q⟩
 ·obtain⟨o',q⟩:=u.there b o e hx
  exact⟨o',kp b _ (ne e) q⟩
 ·exact⟨(hf b hb).2.2.2.1,(hf b hb).2.1,(hf b hb).2.2.2.2.1,(hf b hb).2.2.2.2.2⟩
def rQ(N':List Str)(js:List Nat)(nl:Nat)(sc:Scope)(hsc:X.env.scope=sc)(hcalm:X.calm=true)
 (hi:PI X.Ŕ tg iter wi)(hg:∀cl C s H fp,PG (aD X.Ŕ N' scope cl C s H fp) tg g)(ht:∀cl C s H fp,rM (aD X.Ŕ N' scope cl C s H fp) ifs tt)(he:∀cl C s H fp,PE (aD X.Ŕ N' scope cl C s H fp) elt te)
 (hcap:bJ X.Ŕ sc scope N' js)(hlen:js.length+nl=N'.length:=by rfl)
 (hk:scope.kind=.function:=by rfl)(hcell:∀y∈scope.names,y.2=.cell->scope.names.lookup y.1=some .cell:=by decide +kernel)(hnames:∀y∈scope.names,y.2=.local->scope.names.lookup y.1=some .local:=by decide +kernel)
 (hfree:∀y∈scope.names,y.2=.free->(sc.names.lookup y.1=some .cell\/sc.names.lookup y.1=some .free):=by decide +kernel)
 (hs:∀x,foldedSetIterable iter X.env x=pure x:=by intro _;rfl) :
 PE X.Ŕ (.ListComp elt [⟨tg,iter,ifs,0⟩] scope pos) (uF js nl wi g tt te):=by
 intro pins s σ H Q I h
 obtain⟨Iu,c1,c2,c3⟩:=eV (scope:=scope) (env:=X.Ŕ.env) λy hy hf=>I.ok.has y.1 (by
  have:=hfree y hy hf
  rw[<-hsc] at this
  exact this)
 rw[eval_ListComp]
 refine wpAny_comprehension_free (use:=none) rfl hs c1 hk hnames (ĩ (hi pins s σ H _ I h) λv s1 h1=>ĩ h1 λitv s2 h2=>?_)
 obtain⟨it,fp,tn,J,H2,e,I2,T,st2,f2,q2⟩:=h2
 subst e
 refine wpAny_newObj_type (cR (λh₁ hns₁ old Fp=>?_))
 dsimp only at hns₁ old Fp ⊢
 generalize Fq:s2.heap.push {cls:=.type "list",dict:=none,data:=.seq ([]:List Value).toArray}=dB at hns₁ old Fp ⊢
 have hD:H2 s2.heap.objs.size=none:=I2.hok.fresh (Nat.le_refl _)
 have I3:Inv X.Ŕ pins σ (upd H2 s2.heap.objs.size (.lst [])) {s2 with heap:=dB}:=by
  rw[<-Fq]
  exact I2.laid (t':=s2.toks) (λb u e=>Heap.get?_push_of_some _ e) (Nat.le_refl _) ⟨Nat.zero_le _,[],0,.nil,Heap.get?_push_size _ rfl⟩
 have CV:∀b∈fp,b<s2.heap.objs.size:=λb hb=>by
  obtain⟨o,ho,_⟩:=T.obj 0 _ st2 b hb
  exact Heap.lt_size ho
 have Ft:dB.objs.size=s2.heap.objs.size+1:=by rw[<-Fq,Heap.size_push]
 have f3:∀b∈fp,cP X.Ŕ pins (upd H2 s2.heap.objs.size (.lst [])) b:=λb hb=>by
  obtain⟨g0,g1⟩:=f2 b hb
  exact⟨by rw[Ą (Nat.ne_of_lt (CV b hb))];exact g0,g1⟩
 have B:=wR (X:=X.Ŕ) (cl:=Iu) hcell c2 c3 (λx c e=>by
  obtain⟨v,o,ho,_⟩:=I3.cell x c e
  exact Heap.lt_size ho) Fp
 generalize cellsFrom (dB.objs.size+1) scope.names Iu=cl at B ⊢
 obtain⟨W,⟨m0,w0⟩,turn⟩:=q2 s2.heap.objs.size hD
 have I4:=lJ (X:=X.Ŕ) (N':=N') (js:=js) (nl:=nl) (sc:=sc) (scope:=scope) (cl:=cl) (fp:=fp) (h':=h₁) (tk:=s2.toks) hsc hk hcap hlen B I3 f3 (λb hb=>by show b<dB.objs.size;rw[Ft];exact Nat.lt_succ_of_lt (CV b hb)) hns₁ old
 have Iv:tn 0 h₁:= T.keep 0 _ _ st2 λb hb o e=>old b o (by rw[<-Fq];exact Heap.get?_push_of_some _ e)
 have JD:∀b∈fp,(upd H2 s2.heap.objs.size (.lst [])) b=none:=λb hb=>(f3 b hb).1
 have stat:∀{H':Hp},(∀b∈fp,H' b=none)->∀b∈fp,cP (aD X.Ŕ N' scope cl dB.objs.size {s2 with heap:=dB} (upd H2 s2.heap.objs.size (.lst [])) fp) [] H' b:=fun{H'} hn b hb=>by
  obtain⟨g0,g1,g2,g3,g4,g5⟩:=f3 b hb
  refine⟨hn b hb,Nat.ne_of_lt (by show b<dB.objs.size;rw[Ft];exact Nat.lt_succ_of_lt (CV b hb)),λz=>?_,.inl hb,λx c e=>by
   rcases B.at_ x c e with⟨q,_⟩|⟨q,_⟩
   ·exact g4 x c q
   ·exact Nat.ne_of_gt (Nat.lt_trans (by show b<dB.objs.size;rw[Ft];exact Nat.lt_succ_of_lt (CV b hb)) q),λp hp=>absurd hp (by simp[aD])⟩
  rcases List.mem_cons.mp (I3.dW b z) with z|z
  ·exact g1 z
  ·exact g2 z
 have loop:∀s₃:Shared,s₃= {s2 with heap:=h₁}->
  codeAny (model X.prog X.w) X.A (.compLoop (.ListComp elt [⟨tg,iter,ifs,0⟩] scope pos) 0 (.ref it) (.ref s2.heap.objs.size) (compEnvC scope cl dB.objs.size X.Ŕ.env))
   (compPost (model X.prog X.w) X.A X.Ŕ.xe none (EP X.Ŕ pins σ Q) (.ref s2.heap.objs.size) dB.objs.size) s₃:= by
  rintro s₃ rfl
  refine eX (λn s'=>∃i σ' H',Inv (aD X.Ŕ N' scope cl dB.objs.size {s2 with heap:=dB} (upd H2 s2.heap.objs.size (.lst [])) fp) [] σ' H' s'/\tn i s'.heap/\(∀b∈fp,H' b=none)/\W i n σ' H') ?_ m0 ⟨0,_,_,I4,Iv,JD,w0⟩
  rintro n s5 ⟨i,σ5,H5,I5,yt,CN,w5⟩
  rcases turn i n σ5 H5 w5 with⟨stop,qn⟩|⟨go,N,hN,step⟩
  ·refine ĩ (T.done (aD X.Ŕ N' scope cl dB.objs.size {s2 with heap:=dB} (upd H2 s2.heap.objs.size (.lst [])) fp) rfl rfl rfl hcalm i [] s5 σ5 H5 (λ_ _=>False) I5 (stat CN) yt stop) λr s6 ⟨hr,I6⟩=>?_
   subst hr
   obtain⟨m,hm,_⟩:=I6.loc
   refine⟨m,hm,λh' hs'=>⟨.ref s2.heap.objs.size,H5,iQ I3 f3 I6 (λb u hb e=>hs'.extBut b u hb e),rfl,qn⟩⟩
  ·refine ĩ (T.item (aD X.Ŕ N' scope cl dB.objs.size {s2 with heap:=dB} (upd H2 s2.heap.objs.size (.lst [])) fp) rfl rfl rfl hcalm i [] s5 σ5 H5 (λ_ _=>False) I5 (stat CN) yt go) λr s6 ⟨u,hr,h6⟩=>?_
   subst hr
   refine ĩ h6 λ_ s7 ⟨x,H7,I7,r7,y7,Fv,JF⟩=>?_
   have JG:=I7.pinned (stat JF) (T.obj _ _ Fv)
   have again:∀{s8:Shared} {σ8:L2.St} {H8:Hp},Inv (aD X.Ŕ N' scope cl dB.objs.size {s2 with heap:=dB} (upd H2 s2.heap.objs.size (.lst [])) fp) ([]++bG fp s7.heap) σ8 H8 s8->
    Inv (aD X.Ŕ N' scope cl dB.objs.size {s2 with heap:=dB} (upd H2 s2.heap.objs.size (.lst [])) fp) [] σ8 H8 s8/\tn (i+1) s8.heap/\∀b∈fp,H8 b=none:=fun{s8 σ8 H8} I8=>by
    refine⟨I8.ż,T.keep _ _ _ Fv λb hb o e=>(I8.pin (b,o) (List.mem_append_right _ (List.mem_append_right _ (Ŋ hb e)))).1,λb hb=>?_⟩
    obtain⟨o,e,d⟩:=T.obj _ _ Fv b hb
    exact(I8.pin (b,o) (List.mem_append_right _ (List.mem_append_right _ (Ŋ hb e)))).2.1
   refine ĩ (hg cl _ _ _ fp _ s7 σ5 H7 x u _ JG r7 (step x H7 y7)) λ_ s8 ⟨σ8,H8,I8,q8⟩=>?_
   refine ĩ (ht cl _ _ _ fp _ s8 σ8 H8 _ I8 q8) λc s9 ⟨H9,I9,q9⟩=>?_
   cases c with
   |false=>
    rw[if_neg Bool.false_ne_true] at q9 ⊢
    obtain⟨m',hm',w9⟩:=hN _ _ q9
    obtain⟨a1,a2,a3⟩:=again I9
    exact⟨m',hm',i+1,σ8,H9,a1,a2,a3,w9⟩
   |true=>
    rw[if_pos rfl] at q9 ⊢
    refine ĩ (he cl _ _ _ fp _ s9 σ8 H9 _ I9 q9) λyv JH ⟨y,JK,JL,r10,ys,e10,l10,w10⟩=>?_
    refine ĩ (dg _ JH σ8 JK (.ref s2.heap.objs.size) [y] (.ref s2.heap.objs.size) [yv] (λ_ Fw=>N σ8 Fw) JL rfl (.cons r10 .nil) ⟨_,ys,y,rfl,rfl,e10,l10,w10⟩) λ_ Ko ⟨v11,Fw,JM,_,w11⟩=>?_
    obtain⟨a1,a2,a3⟩:=again JM
    obtain⟨m',hm',w11⟩:=hN _ _ w11
    exact⟨m',hm',i+1,σ8,Fw,a1,a2,a3,w11⟩
 exact codeAny_compStart_list (loop _ rfl) (T.self _ 0 _ _ _ Iv (loop _ rfl))
end
def Its(z:Str):It:=⟨λi _=>i<z.cps.size,λi H x H'=>H'=H/\∃c,z.cps.toList[i]?=some c/\x=.str ⟨#[c]⟩,λi _=>i=z.cps.size⟩
def lK{P:Program}{w:World}{K:PySem.W.Frag}{tg:Expr}(it:Addr)(z:Str)(t:Tok)(ty:String)
 (hW:∀A:Around,A.handled=none->Walks P w A it [it] [it] z.cps.size (SignAt z) (λi h=>h.IsStrIter it ty z t i))
 (hS:∀(A:Around) (i:Nat) (s:Shared) (Q:Value->Shared->Prop) (E:Value->Shared->Prop),s.heap.IsStrIter it ty z t i->Q (.ref it) s->wpAny (model P w) A (pyIter (.ref it)) Q E s)
 (hty:["enumerate","zip","dict_itemiterator","dict_reverseitemiterator","odict_iterator","itertools.zip_longest","itertools.pairwise"].contains ty=false):Turn P w K tg (Its z) [it] it (λi h=>h.IsStrIter it ty z t i) where
 mem:=by simp
 obj:=λi h st b hb=>by
  have e:b=it:=by simpa using hb
  subst e
  obtain⟨o,e,c,d⟩:=st
  exact⟨o,e,λv z=>by rw[d] at z;cases z⟩
 keep:=λi h h' st k=>by
  obtain⟨o,e,c,d⟩:=st
  exact⟨o,k it (by simp) o e,c,d⟩
 item:=by
  intro X hP hw hK hc i pins s σ H E I hf st hg
  subst hP hw hK
  obtain⟨f0,f1,f2,f3,f4,f5⟩:=hf it (by simp)
  refine(hW X.A (I.ok.hd hc)).item i s _ _ hg st λv h' tk hv st' kk=>?_
  obtain⟨c,u,hcu,rfl⟩:=hv
  have I1:Inv X pins σ H {s with heap:=h',toks:=tk}:=I.turned (λb o hb e=>kk b o (by simpa using hb) e) f0 f1 f3 f4 f5
  obtain⟨o,e,cl,d⟩:=id st'
  exact⟨_,rfl,jq (s:={s with heap:=h',toks:=tk}) e cl d hty ⟨.str ⟨#[c]⟩,H,I1,⟨u,rfl⟩,⟨rfl,c,by simpa using hcu,rfl⟩,st',λb hb=>(hf b hb).1⟩⟩
 done:=by
  intro X hP hw hK hc i pins s σ H E I hf st hg
  subst hP hw hK
  obtain⟨f0,f1,f2,f3,f4,f5⟩:=hf it (by simp)
  have e:i=z.cps.size:=hg
  subst e
  exact(hW X.A (I.ok.hd hc)).done s _ _ st λh' tk kk=>⟨rfl,I.turned (λb o hb e=>kk b o (by simpa using hb) e) f0 f1 f3 f4 f5⟩
 self:=hS
section
variable{X:Cx}{tg:Expr}
end
end M3
namespace M4
open PySem PySem.Spec PyProof.Rows L2 M2 M3
section
variable{X:Cx}
end
abbrev S(l:List Nat):Str:=⟨l.toArray⟩
def Fx(z:Str):S z.cps.toList=z:=by
 cases z
 simp
def zx(l:List Nat):(S l).length=l.length:=by simp[Str.length]
def gA(z:Str):z.cps.toList.length=z.length:=by simp[Str.length]
def eY(xs:List Nat)(lo hi:Option Int):List Nat:=(xs.drop (HT.ľ xs.length 0 lo)).take (HT.ľ xs.length xs.length hi-HT.ľ xs.length 0 lo)
def idx_eq(z:Str)(lo hi:Option Int):Builtin.Str.strSliceIndices lo hi 1 z.length=(List.range (HT.ľ z.length z.length hi-HT.ľ z.length 0 lo)).map (HT.ľ z.length 0 lo + ·):=by
 have hc:∀(o:Option Int) (d:Nat),d<=z.length->(match o with|none=>((d:Nat):Int)|some i=>max 0 (min (if i<0 then i+(z.length:Int) else i) (z.length:Int)))=((HT.ľ z.length d o:Nat):Int):=by
  intro o d hd
  cases o with
  |none=>rfl
  |some i=>
   show max 0 (min (if i<0 then i+(z.length:Int) else i) (z.length:Int))=((if i<0 then(i+(z.length:Int)).toNat else min i.toNat z.length:Nat):Int)
   by_cases h:i<0
   ·rw[if_pos h,if_pos h];omega
   ·rw[if_neg h,if_neg h];omega
 have e:Builtin.Str.strSliceIndices lo hi 1 z.length=sliceRange ((HT.ľ z.length 0 lo:Nat):Int) ((HT.ľ z.length z.length hi:Nat):Int) 1:=by
  have h1:=hc lo 0 (Nat.zero_le _)
  have h2:=hc hi z.length (Nat.le_refl _)
  unfold Builtin.Str.strSliceIndices
  simp only[show(1:Int)>0 by decide,if_true]
  rw[<-h1,<-h2]
  cases lo<;>cases hi<;>rfl
 rw[e,sliceRange_one]
def rT(z:Str)(lo hi:Option Int):(Builtin.Str.strSliceIndices lo hi 1 z.length).filterMap (z.cps[·]?)=eY z.cps.toList lo hi:=by
 rw[idx_eq,pick_run]
 unfold eY
 rw[gA]
def rU(xs:List Nat)(lo hi:Option Int):(eY xs lo hi).length<=xs.length:=by
 unfold eY
 rw[List.length_take,List.length_drop]
 omega
def nD{z:Str}{t:Tok}{l u:Option (Int×Tok)}{Q:Value->Shared->Prop}{s:Shared}(hz:z.length<=sizeLine)
 (h:∀t' k,Q (.str (S (eY z.cps.toList (l.map (·.1)) (u.map (·.1)))) t') {s with toks:=k}):(sliceMade z t l u none).post Q s:=by
 have e:=rT z (l.map (·.1)) (u.map (·.1))
 unfold sliceMade
 have ep:slicePicked z l u none=Builtin.Str.strSliceIndices (l.map (·.1)) (u.map (·.1)) 1 z.length:=rfl
 rw[ep]
 split
 ·rename_i hc
  have hl:(Builtin.Str.strSliceIndices (l.map (·.1)) (u.map (·.1)) 1 z.length).length=z.length:=by simpa using hc
  have hz2:eY z.cps.toList (l.map (·.1)) (u.map (·.1))=z.cps.toList:=by
   rw[idx_eq,List.length_map,List.length_range] at hl
   have hi:=HT.mX z.length 0 (Nat.zero_le _) (l.map (·.1))
   have hj:=HT.mX z.length z.length (Nat.le_refl _) (u.map (·.1))
   unfold eY
   rw[gA]
   have hl2:=gA z
   have a0:HT.ľ z.length 0 (l.map (·.1))=0\/z.length=0:=by omega
   rcases a0 with a0|a0
   ·rw[a0] at hl ⊢
    rw[List.drop_zero]
    exact List.take_of_length_le (by omega)
   ·have:z.cps.toList=[]:=List.eq_nil_of_length_eq_zero (by omega)
    rw[this]
    simp
  have:=h t s.toks
  rw[hz2,Fx] at this
  exact this
 ·rw[e]
  exact⟨by rw[zx];have:=rU z.cps.toList (l.map (·.1)) (u.map (·.1));rw[gA] at this;omega,h _ _⟩
section
variable{X:Cx}
def Fy:V->Option Int->Option Int->Hp->VK->Prop:=λx lo hi H Q=>match x with
 | .str z=>z.length<=sizeLine/\Q (.str (S (eY z.cps.toList lo hi))) H
 |_=>False
def rW:jt X Fy:=by
 intro pins s σ H x v vl vu lo hi sl Q I rx hs pl pu h
 cases x with
 |str z=>
  obtain⟨t,rfl⟩:=rx
  obtain⟨hz,q⟩:=h
  obtain⟨l,el,el2⟩:∃l:Option (Int×Tok),partValue l=vl/\l.map (·.1)=lo:=by
   cases pl with
   |none=>exact⟨none,rfl,rfl⟩
   |int i t=>exact⟨some (i,t),rfl,rfl⟩
  obtain⟨u,eu,JN⟩:∃u:Option (Int×Tok),partValue u=vu/\u.map (·.1)=hi:=by
   cases pu with
   |none=>exact⟨none,rfl,rfl⟩
   |int i t=>exact⟨some (i,t),rfl,rfl⟩
  subst el el2 eu JN
  exact⟨"str",_,F.slot_str_getitem.lookup,typeIs_str s z t,wpAny_getItem_str_slice (l:=l) (u:=u) (st:=none) hs rfl (nD hz λt' k=>⟨.str _,H,I.tok _,⟨_,rfl⟩,q⟩)⟩
 |_=>exact h.elim
def Fz(K:PySem.W.Frag):V->Option Int->Option Int->Hp->VK->Prop:=λx lo hi H Q=>match x with
 | .ref a=>∃xs,Ľ K H a xs/\∀p,H p=none->Q (.ref p) (upd H p (.lst (gn xs lo hi)))
 | .str z=>z.length<=sizeLine/\Q (.str (S (eY z.cps.toList lo hi))) H
 |_=>False
def JQ:jt X (Fz X.K):=jt.wk (nu.or rW) λx lo hi H Q h=>by
 cases x with
 |ref a=>exact .inl h
 |str z=>exact .inr h
 |_=>exact h.elim
def mul_eq(z:Str){n:Int}(h:0<=n):Txt.mul z n=S (List.replicate n.toNat z.cps.toList).flatten:=by
 have key:∀(k:Nat) (acc:Array Nat),((List.replicate k z.cps).foldl (·++ ·) acc).toList=acc.toList++(List.replicate k z.cps.toList).flatten:=by
  intro k
  induction k with
  |zero=>intro acc;simp
  |succ k ih=>
   intro acc
   rw[List.replicate_succ,List.foldl_cons,ih,List.replicate_succ,List.flatten_cons]
   simp
 unfold Txt.mul
 refine PyProof.Rows.ext_toList ?_
 by_cases h1:n<1
 ·rw[if_pos h1]
  have:n.toNat=0:=by omega
  rw[this]
  simp[Str.empty]
 ·rw[if_neg h1]
  split
  ·rename_i hc
   rw[Bool.or_eq_true] at hc
   rcases hc with hc|hc
   ·have:n=1:=by simpa using hc
    subst this
    simp
   ·have h0:z.cps.toList=[]:=List.eq_nil_of_length_eq_zero (by rw[gA];simpa using hc)
    rw[h0]
    simp
  ·rw[key]
   simp
def nF(z:Str)(n:Int):Prop:=0<=n/\n<=1000/\z.length<=1000
def nF.ok{z:Str}{n:Int}(h:nF z n):MulOk z n:=by
 obtain⟨h0,h1,h2⟩:=h
 refine⟨?_,λhn _=>?_,λhn _=>?_⟩
 ·rw[decide_eq_false (by omega),decide_eq_false (by omega)]
  rfl
 ·have:(9000000000000000:Int)≤(2 ^ 63-1) / n:=by
   rw[Int.le_ediv_iff_mul_le (by omega)]
   omega
  omega
 ·have:z.length*n.toNat<=1000*1000:=Nat.mul_le_mul h2 (by omega)
  unfold Builtin.Str.tooLong
  simp
  rw[sizeLine_eq]
  omega
def nG:R2:=λx y H Q=>match x,y with
 | .int i,.int j=>dw i j/\Q (.int (i*j)) H
 | .str z,.int n=>nF z n/\Q (.str (S (List.replicate n.toNat z.cps.toList).flatten)) H
 |_,_=>False
def rY:ķ X (binaryOp .Mult) nG:=by
 intro pins s σ H x y v u Q I rx ry h
 unfold nG at h
 split at h
 ·exact wL pins s σ H _ _ v u Q I rx ry h
 ·obtain⟨t,rfl⟩:=rx
  obtain⟨t',rfl⟩:=ry
  exact SB.mul h.1.ok λt' k=>⟨.str _,H,I.tok _,⟨_,by rw[mul_eq _ h.1.1]⟩,h.2⟩
 ·exact h.elim
end
end M4
namespace M5
open PySem PySem.Spec PyProof.Rows L2 M2 M3
section
variable{X:Cx}{pins:List (Addr×Obj)}{σ:L2.St}{H:Hp}{s:Shared}{x:Str}{c P:Addr}{params:Arguments}{body:Expr}{scope:Scope}{pos:Pos}{cl:List (Str×Addr)}
end
section
variable{X:Cx}{pins:List (Addr×Obj)}{σ:L2.St}{H:Hp}{s:Shared}{params:Arguments}{body:Expr}{scope sc:Scope}{cl:List (Str×Addr)}{N0:List Str}{js:List Nat}{qual px:Str}{f c':Addr}{A:Around}
end
section
variable{X:Cx}{pins:List (Addr×Obj)}{σ:L2.St}{H:Hp}{s:Shared}
variable{R:Result->Shared->Prop}{f l S It:Addr}{oF:Obj}{xs:List V}(ks:Nat->Int)(W:Nat->Hp->Prop)
end
section
variable{X:Cx}{x px:Str}{c P:Addr}{params:Arguments}{body e:Expr}{scope:Scope}{p pos wU kpos:Pos}{ta:TA}{te:TE}
end
end M5
namespace P
def JR:PySem.Expr->Bool
 | .Starred .. =>false
 |_=>true
def aj{e:PySem.Expr}{es:List PySem.Expr}{env:PySem.Env}(h:JR e=true):PySem.starEach (e::es) env=(false,PySem.eval e env)::PySem.starEach es env:=by
 cases e<;>first|rfl|cases h
open PySem PySem.Spec PyProof.Rows L2 M2
structure KK where
 K:PySem.W.Frag
 cm:String->Addr
abbrev kk(X:Cx)(cm:String->Addr):KK:=⟨X.K,cm⟩
inductive PV where
 |non|bl (b:Bool)|int (i:Int)|str (x:Str)|tup (xs:List PV)|lst (xs:List PV)
 |ins (C:String) (ns:List Str) (xs:List PV)|xc (C:String) (ns:List Str) (xs:List PV)|ty (n:String)|cls (C:String)
def xo(a C:Addr)(d:Option Addr):HO:=.ext λh=>∃o vs,h.get? a=some o/\o.cls=.ref C/\o.dict=d/\o.data=.fields vs
def gB(F:Hp)(d:Option Addr)(fs:List (Str×V)):Prop:=(d=none/\fs=[])\/∃a,d=some a/\F a=some (.xd fs)
mutual
def Rep(K:KK)(F:Hp):PV->V->Prop
 | .non,v=>v=.non
 | .bl b,v=>v=.bl b
 | .int i,v=>v=.int i
 | .str x,v=>v=.str x
 | .tup ps,v=>∃a xs,v=.ref a/\Ŭ K.K F a xs/\ā K F ps xs
 | .lst ps,v=>∃a xs,v=.ref a/\Ľ K.K F a xs/\ā K F ps xs
 | .ins C ns ps,v=>∃a dx fs,v=.ref a/\F a=some (.ins (K.cm C) dx fs)/\fs.map (·.1)=ns/\ā K F ps (fs.map (·.2))
 | .xc C ns ps,v=>∃a d fs,v=.ref a/\F a=some (xo a (K.cm C) d)/\gB F d fs/\fs.map (·.1)=ns/\ā K F ps (fs.map (·.2))
 | .ty n,v=>v=.ty n
 | .cls C,v=>v=.ref (K.cm C)
def ā(K:KK)(F:Hp):List PV->List V->Prop
 | [],xs=>xs=[]
 |p::ps,xs=>∃x r,xs=x::r/\Rep K F p x/\ā K F ps r
end
section
variable{K:KK}{F F' H H':Hp}
def gB.same{d:Option Addr}{fs:List (Str×V)}(e:Same F F')(h:gB F d fs):gB F' d fs:=by
 rcases h with h|⟨a,h1,h2⟩
 ·exact .inl h
 ·exact .inr ⟨a,h1,e _ _ h2⟩
mutual
theorem Rep.same(e:Same F F'):∀(p:PV) (v:V),Rep K F p v->Rep K F' p v
 | .non,_,h=>by unfold Rep at h ⊢;exact h
 | .bl _,_,h=>by unfold Rep at h ⊢;exact h
 | .int _,_,h=>by unfold Rep at h ⊢;exact h
 | .str _,_,h=>by unfold Rep at h ⊢;exact h
 | .ty _,_,h=>by unfold Rep at h ⊢;exact h
 | .cls _,_,h=>by unfold Rep at h ⊢;exact h
 | .tup ps,_,h=>by
   unfold Rep at h ⊢
   obtain⟨a,xs,h1,h2,h3⟩:=h
   exact⟨a,xs,h1,Same.tup e h2,ā.same e ps xs h3⟩
 | .lst ps,_,h=>by
   unfold Rep at h ⊢
   obtain⟨a,xs,h1,h2,h3⟩:=h
   exact⟨a,xs,h1,e.seq h2,ā.same e ps xs h3⟩
 | .ins C ns ps,_,h=>by
   unfold Rep at h ⊢
   obtain⟨a,dx,fs,h1,h2,h3,h4⟩:=h
   exact⟨a,dx,fs,h1,e _ _ h2,h3,ā.same e ps _ h4⟩
 | .xc C ns ps,_,h=>by
   unfold Rep at h ⊢
   obtain⟨a,d,fs,h1,h2,hd,h3,h4⟩:=h
   exact⟨a,d,fs,h1,e _ _ h2,hd.same e,h3,ā.same e ps _ h4⟩
theorem ā.same(e:Same F F'):∀(ps:List PV) (xs:List V),ā K F ps xs->ā K F' ps xs
 | [],_,h=>by unfold ā at h ⊢;exact h
 |p::ps,_,h=>by
  unfold ā at h ⊢
  obtain⟨x,r,h1,h2,h3⟩:=h
  exact⟨x,r,h1,Rep.same e p x h2,ā.same e ps r h3⟩
end
theorem ā.pr:∀{ps:List PV} {vs:List V},ā K F ps vs->Paired (Rep K F) ps vs
 | [],_,h=>by unfold ā at h;subst h;exact .nil
 |p::ps,_,h=>by
  unfold ā at h
  obtain⟨x,r,rfl,h2,h3⟩:=h
  exact .cons h2 (ā.pr h3)
theorem ā.of:∀{ps:List PV} {vs:List V},Paired (Rep K F) ps vs->ā K F ps vs
 | [],_,.nil=>by unfold ā;rfl
 |p::ps,_,.cons h t=>by unfold ā;exact⟨_,_,rfl,h,ā.of t⟩
theorem ā.nil:ā K F [] []:=ā.of .nil
theorem ā.cons{p:PV}{v:V}{ps:List PV}{vs:List V}(h:Rep K F p v)(t:ā K F ps vs):ā K F (p::ps) (v::vs):=ā.of (.cons h t.pr)
theorem ā.length{ps:List PV}{vs:List V}(h:ā K F ps vs):ps.length=vs.length:=Paired.length h.pr
theorem ŵ{α β:Type}{G:α->β->Prop}:∀{l:List α} {m:List β} {i:Nat} {x:α},Paired G l m->l[i]?=some x->∃y,m[i]?=some y/\G x y
 |_,_,_,_,.nil,e=>by simp at e
 |_,_,0,_,.cons r _,e=>by simp at e;subst e;exact⟨_,rfl,r⟩
 |_,_,i+1,x,.cons _ t,e=>by
  obtain⟨y,h1,h2⟩:=ŵ (i:=i) (x:=x) t (by simpa using e)
  exact⟨y,by simpa using h1,h2⟩
theorem nH{α β:Type}{G:α->β->Prop}:∀{l l2:List α} {m m2:List β},Paired G l m->Paired G l2 m2->Paired G (l++l2) (m++m2)
 |_,_,_,_,.nil,t=>t
 |_,_,_,_,.cons r s,t=>.cons r (nH s t)
theorem jy{α β:Type}{G:α->β->Prop}:∀{l:List α} {m:List β} (n:Nat),Paired G l m->Paired G (l.take n) (m.take n)
 |_,_,0,_=>.nil
 |_,_,_+1,.nil=>.nil
 |_,_,n+1,.cons r t=>.cons r (jy n t)
theorem jz{α β:Type}{G:α->β->Prop}:∀{l:List α} {m:List β} (n:Nat),Paired G l m->Paired G (l.drop n) (m.drop n)
 |_,_,0,h=>h
 |_,_,_+1,.nil=>.nil
 |_,_,n+1,.cons _ t=>jz n t
def ā.append{ps qs:List PV}{vs us:List V}(h:ā K F ps vs)(t:ā K F qs us):ā K F (ps++qs) (vs++us):=ā.of (nH h.pr t.pr)
end
abbrev DK:=Sum Int (List Int)
inductive Slot where
 |no|sh (p:PV)|ow (ps:List PV)|bw (ps:List PV)|rc (C:String) (ns:List Str) (ps:List PV)|ot (ps qs rs:List PV)|ol (qD:List (List PV))|od (t:Bool) (kvs:List (DK×PV))|bd (t:Bool) (kvs:List (DK×PV))
abbrev Đ:=List Slot
def Slot.own:Slot->Bool
 | .ow _=>true
 | .rc _ _ _=>true
 | .ot _ _ _=>true
 | .ol _=>true
 | .od _ _=>true
 |_=>false
structure Ctx where
 B:Hp
 F₀:Hp
 /-- what is lent here:read,never changed,never kept -/
 L:Hp
 /-- which objects may be held as one's own:address,dict,class -/
 S:Addr->Addr->String->Prop
def nJ(K:KK)(F:Hp)(t:Bool)(kvs:List (DK×PV))(u:HO):Prop:=
 (t=false/\∃ks:List (Key×V),u=.dK ks/\Paired (λ(p:DK×PV) (q:Key×V)=>(∃i:Int,p.1=.inl i/\q.1=.inl i)/\Rep K F p.2 q.2) kvs ks)\/
 t=true/\∃ks:List (List Key×V),u=.dT ks/\Paired (λ(p:DK×PV) (q:List Key×V)=>(∃is:List Int,p.1=.inr is/\q.1=is.map .inl)/\Rep K F p.2 q.2) kvs ks
def ğ(K:KK)(c:Ctx)(F H:Hp)(o:Option V):Slot->Prop
 | .no=>True
 | .sh p=>∃v,o=some v/\Rep K F p v
 | .ow ps=>∃a vs,o=some (.ref a)/\H a=some (.lst vs)/\F a=none/\c.B a=none/\ā K F ps vs
 | .bw ps=>∃a vs,o=some (.ref a)/\c.L a=some (.lst vs)/\ā K F ps vs
 | .rc C ns ps=>∃a dx fs,o=some (.ref a)/\H a=some (.ins (K.cm C) dx fs)/\F a=none/\c.B a=none/\fs.map (·.1)=ns/\ā K F ps (fs.map (·.2))/\c.S a dx C
 | .ot ps qs rs=>∃p a xs vs ys,o=some (.ref p)/\F p=some (.tup (xs ++ .ref a::ys))/\ā K F ps xs/\H a=some (.lst vs)/\F a=none/\c.B a=none/\ā K F qs vs/\ā K F rs ys
 | .ol qD=>∃(p:Addr) (as:List Addr),o=some (.ref p)/\F p=some (.lst (as.map V.ref))/\as.Nodup/\Paired (λ(a:Addr) (ps:List PV)=>∃vs,H a=some (.lst vs)/\F a=none/\c.B a=none/\ā K F ps vs) as qD
 | .od t kvs=>∃a u,o=some (.ref a)/\H a=some u/\F a=none/\c.B a=none/\nJ K F t kvs u
 | .bd t kvs=>∃a u,o=some (.ref a)/\(c.L a=some u\/∃ob,F a=some (.ŉ ob u))/\nJ K F t kvs u
def Slot.at_(F:Hp)(x:V)(a:Addr):Slot->Prop
 | .ot ps _ _=>∃p xs ys,x=.ref p/\F p=some (.tup (xs ++ .ref a::ys))/\xs.length=ps.length
 | .ol _=>∃(p:Addr) (as:List Addr),x=.ref p/\F p=some (.lst (as.map V.ref))/\a∈as
 | .ow _=>x=.ref a
 | .od _ _=>x=.ref a
 | .rc _ _ _=>x=.ref a
 |_=>False
def Ď(F:Hp)(σ:L2.St)(ρ:Đ)(i:Nat)(a:Addr):Prop:=∃s x,ρ[i]?=some s/\σ[i]?=some (some x)/\s.at_ F x a
structure Rel(K:KK)(c:Ctx)(F H:Hp)(σ:L2.St)(ρ:Đ):Prop where
 sub:Same F H
 base:Same c.B H
 f0:Same c.F₀ F
 ŉ:∀a,c.B a≠none->c.F₀ a=none->F a=none
 lent:∀a u,c.L a=some u->H a=some u/\F a=none
 lb:∀a,c.B a=none->c.L a=none
 len:σ.length=ρ.length
 slot:∀(i:Nat) s,ρ[i]?=some s->ğ K c F H ((σ[i]?).getD none) s
 sep:∀i j a,Ď F σ ρ i a->Ď F σ ρ j a->i=j
def aP(F:Hp)(σ:L2.St)(ρ:Đ)(a:Addr):Prop:=∀i,¬Ď F σ ρ i a
section
variable{K:KK}{c:Ctx}{F F' H H':Hp}{σ:L2.St}{ρ:Đ}{a:Addr}{o:HO}
def eZ{s:Slot}{x:V}(h:s.at_ F x a):s.own=true:=by
 cases s<;>first|rfl|exact h.elim
theorem bK:∀{as bs:List Addr},as.map V.ref=bs.map V.ref->as=bs
 | [],[],_=>rfl
 | [],_::_,h=>by cases h
 |_::_,[],h=>by cases h
 |a::as,b::bs,h=>by
  injection h with h1 h2
  injection h1 with h1
  rw[h1,bK h2]
def fj{ps qs rs:List PV}{x:V}{b:Addr}(h:(Slot.ot ps qs rs).at_ F x a)(h':(Slot.ot ps qs rs).at_ F x b):a=b:=by
 obtain⟨p,xs,us,h1,h2,l1⟩:=h
 obtain⟨q,ys,ws,h3,h4,l2⟩:=h'
 rw[h1] at h3
 cases h3
 rw[h2] at h4
 have e:xs++V.ref a::us=ys++V.ref b::ws:=by
  injection h4 with h4
  injection h4
 have e2:=(List.append_inj e (by omega)).2
 injection e2 with e2
 injection e2
theorem nM{α β:Type}{G:α->β->Prop}:∀{l:List α} {m:List β} {x:α},Paired G l m->x∈l->∃y,y∈m/\G x y
 |_,_,_,.nil,h=>by simp at h
 |_,_,x,.cons r t,h=>by
  rcases List.mem_cons.mp h with rfl|h
  ·exact⟨_,List.mem_cons_self,r⟩
  ·obtain⟨y,h1,h2⟩:=nM t h
   exact⟨y,List.mem_cons_of_mem _ h1,h2⟩
theorem gC{α β:Type}{G G':α->β->Prop}:∀{l:List α} {m:List β},Paired G l m->(∀x y,x∈l->G x y->G' x y)->Paired G' l m
 |_,_,.nil,_=>.nil
 |_,_,.cons r t,h=>.cons (h _ _ List.mem_cons_self r) (gC t λx y hx=>h x y (List.mem_cons_of_mem _ hx))
theorem nJ.same{t:Bool}{kvs:List (DK×PV)}{u:HO}(h:nJ K F t kvs u)(e:Same F F'):nJ K F' t kvs u:=by
 rcases h with⟨ht,ks,h1,h2⟩|⟨ht,ks,h1,h2⟩
 ·exact .inl ⟨ht,ks,h1,gC h2 λp q _ ⟨r1,r2⟩=>⟨r1,r2.same e p.2 q.2⟩⟩
 ·exact .inr ⟨ht,ks,h1,gC h2 λp q _ ⟨r1,r2⟩=>⟨r1,r2.same e p.2 q.2⟩⟩
def ğ.grow{s:Slot}{x:Option V}(h:ğ K c F H x s)(eF:Same F F')(eH:∀b vs,(∃y,x=some y/\s.at_ F y b)->H b=some vs->F b=none->c.B b=none->H' b=some vs/\F' b=none):ğ K c F' H' x s:=by
 cases s with
 |no=>trivial
 |sh p=>obtain⟨v,h1,h2⟩:=h;exact⟨v,h1,h2.same eF p v⟩
 |ow ps=>
  obtain⟨b,vs,h1,h2,h3,h4,h5⟩:=h
  obtain⟨e1,e2⟩:=eH b _ ⟨_,h1,rfl⟩ h2 h3 h4
  exact⟨b,vs,h1,e1,e2,h4,h5.same eF ps vs⟩
 |bw ps=>obtain⟨b,vs,h1,h2,h3⟩:=h;exact⟨b,vs,h1,h2,h3.same eF ps vs⟩
 |bd t kvs=>obtain⟨b,u,h1,h2,h3⟩:=h;exact⟨b,u,h1,h2.imp id λ⟨ob,e⟩=>⟨ob,eF _ _ e⟩,h3.same eF⟩
 |od t kvs=>
  obtain⟨b,u,h1,h2,h3,h4,h5⟩:=h
  obtain⟨e1,e2⟩:=eH b _ ⟨_,h1,rfl⟩ h2 h3 h4
  exact⟨b,u,h1,e1,e2,h4,h5.same eF⟩
 |rc C ns ps=>
  obtain⟨b,dx,fs,h1,h2,h3,h4,h5,h6⟩:=h
  obtain⟨e1,e2⟩:=eH b _ ⟨_,h1,rfl⟩ h2 h3 h4
  exact⟨b,dx,fs,h1,e1,e2,h4,h5,h6.1.same eF ps _,h6.2⟩
 |ot ps qs rs=>
  obtain⟨p,b,xs,vs,ys,h1,h2,h3,h4,h5,h6,h7,h8⟩:=h
  obtain⟨e1,e2⟩:=eH b _ ⟨_,h1,p,xs,ys,rfl,h2,h3.length.symm⟩ h4 h5 h6
  exact⟨p,b,xs,vs,ys,h1,eF _ _ h2,h3.same eF ps xs,e1,e2,h6,h7.same eF qs vs,h8.same eF rs ys⟩
 |ol qD=>
  obtain⟨p,as,h1,h2,h3,h4⟩:=h
  refine⟨p,as,h1,eF _ _ h2,h3,gC h4 λb ps hb ⟨vs,k1,k2,k3,k4⟩=>?_⟩
  obtain⟨e1,e2⟩:=eH b _ ⟨_,h1,p,as,rfl,h2,hb⟩ k1 k2 k3
  exact⟨vs,e1,e2,k3,k4.same eF ps vs⟩
def ğ.owned{s:Slot}{y:V}(h:ğ K c F H (some y) s)(ha:s.at_ F y a):∃u,H a=some u/\F a=none/\c.B a=none:=by
 cases s with
 |no=>exact ha.elim
 |sh p=>exact ha.elim
 |bw ps=>exact ha.elim
 |bd t kvs=>exact ha.elim
 |od t kvs=>
  obtain⟨b,u,h1,h2,h3,h4,h5⟩:=h
  rw[show y=.ref a from ha] at h1
  cases h1
  exact⟨_,h2,h3,h4⟩
 |ow ps=>
  obtain⟨b,vs,h1,h2,h3,h4,h5⟩:=h
  rw[show y=.ref a from ha] at h1
  cases h1
  exact⟨_,h2,h3,h4⟩
 |rc C ns ps=>
  obtain⟨b,dx,fs,h1,h2,h3,h4,h5,h6⟩:=h
  rw[show y=.ref a from ha] at h1
  cases h1
  exact⟨_,h2,h3,h4⟩
 |ot ps qs rs=>
  obtain⟨p,b,xs,vs,ys,h1,h2,h3,h4,h5,h6,h7,h8⟩:=h
  cases h1
  cases fj (ps:=ps) (qs:=qs) (rs:=rs) ha ⟨p,xs,ys,rfl,h2,h3.length.symm⟩
  exact⟨_,h4,h5,h6⟩
 |ol qD=>
  obtain⟨p,as,h1,h2,h3,h4⟩:=h
  cases h1
  obtain⟨q,bs,e1,e2,e3⟩:=ha
  cases e1
  rw[h2] at e2
  have e:as=bs:=bK (by injection e2 with e2;injection e2)
  subst e
  obtain⟨ps,_,vs,k1,k2,k3,_⟩:=nM h4 e3
  exact⟨_,k1,k2,k3⟩
def ğ.back{s:Slot}{y:V}(h:ğ K c F H (some y) s)(e:Same F F')(ha:s.at_ F' y a):s.at_ F y a:=by
 cases s with
 |ot ps qs rs=>
  obtain⟨p,b,xs,vs,ys,h1,h2,h3,h4,h5,h6,h7,h8⟩:=h
  cases h1
  cases fj (ps:=ps) (qs:=qs) (rs:=rs) ha ⟨p,xs,ys,rfl,e _ _ h2,h3.length.symm⟩
  exact⟨p,xs,ys,rfl,h2,h3.length.symm⟩
 |ol qD=>
  obtain⟨p,as,h1,h2,h3,h4⟩:=h
  cases h1
  obtain⟨q,bs,e1,e2,e3⟩:=ha
  cases e1
  rw[e _ _ h2] at e2
  have z:as=bs:=bK (by injection e2 with e2;injection e2)
  subst z
  exact⟨p,as,rfl,h2,e3⟩
 |_=>exact ha
def nO{i:Nat}{x:V}(e:σ[i]?=some (some x)):(σ[i]?).getD none=some x:=by rw[e];rfl
def nP{i:Nat}{x:V}(e:(σ[i]?).getD none=some x):σ[i]?=some (some x):=by
 cases q:σ[i]? with
 |none=>rw[q] at e;cases e
 |some y=>rw[q] at e;exact congrArg some e
theorem Rel.owned(r:Rel K c F H σ ρ){i:Nat}(h:Ď F σ ρ i a):(∃u,H a=some u)/\F a=none/\c.B a=none:=by
 obtain⟨s,x,h1,h2,h3⟩:=h
 have q:=r.slot i s h1
 rw[nO h2] at q
 obtain⟨u,q⟩:=q.owned h3
 exact⟨⟨u,q.1⟩,q.2⟩
theorem Rel.back(r:Rel K c F H σ ρ)(e:Same F F'){i:Nat}(h:Ď F' σ ρ i a):Ď F σ ρ i a:=by
 obtain⟨s,x,h1,h2,h3⟩:=h
 have q:=r.slot i s h1
 rw[nO h2] at q
 exact⟨s,x,h1,h2,q.back e h3⟩
def Rel.wV(r:Rel K c F H σ ρ)(e:Same F F'):∀i j a,Ď F' σ ρ i a->Ď F' σ ρ j a->i=j:=λi j a h1 h2=>r.sep i j a (r.back e h1) (r.back e h2)
def Rel.iR(r:Rel K c F H σ ρ)(e:Same F F')(h:aP F σ ρ a):aP F' σ ρ a:=λi q=>h i (r.back e q)
def Rel.fresh(r:Rel K c F H σ ρ)(h:H a=none):aP F σ ρ a:=λi q=>by
 obtain⟨⟨u,e⟩,_⟩:=r.owned q
 rw[h] at e;cases e
def Rel.alloc(r:Rel K c F H σ ρ)(h:H a=none):Rel K c (upd F a o) (upd H a o) σ ρ where
 sub:=λb u e=>by
  by_cases hb:b=a
  ·subst hb;rw[ĉ] at e ⊢;exact e
  ·rw[Ą hb] at e ⊢;exact r.sub b u e
 base:=λb u e=>by
  have hb:b≠a:=λz=>by rw[z] at e;rw[r.base _ _ e] at h;cases h
  rw[Ą hb];exact r.base b u e
 f0:=fun b u e=>by
   have hb:b≠a:=λz=>by rw[z] at e;rw[r.sub _ _ (r.f0 _ _ e)] at h;cases h
   rw[Ą hb];exact r.f0 b u e
 ŉ:=λb h1 h2=>by
  have hb:b≠a:=λz=>by
   subst z
   cases q:c.B b with
   |none=>exact h1 q
   |some u=>rw[r.base _ _ q] at h;cases h
  rw[Ą hb];exact r.ŉ b h1 h2
 lent:=λb u e=>by
  obtain⟨h1,h2⟩:=r.lent b u e
  have hb:b≠a:=λz=>by rw[z,h] at h1;cases h1
  rw[Ą hb,Ą hb];exact⟨h1,h2⟩
 lb:=r.lb
 len:=r.len
 slot:=λi s e=>by
  have hF:F a=none:=r.sub.free h
  refine(r.slot i s e).grow (Same.upd hF) λb u _ h1 h2 h3=>?_
  have hb:b≠a:=λz=>by rw[z,h] at h1;cases h1
  rw[Ą hb,Ą hb];exact⟨h1,h2⟩
 sep:=r.wV (Same.upd (r.sub.free h))
def Rel.made(r:Rel K c F H σ ρ)(h:H a=none):Rel K c F (upd H a o) σ ρ where
 sub:=r.sub.trans (Same.upd h)
 base:=r.base.trans (Same.upd h)
 f0:=r.f0
 ŉ:=r.ŉ
 lent:=λb u e=>⟨Same.upd h b u (r.lent b u e).1,(r.lent b u e).2⟩
 lb:=r.lb
 len:=r.len
 slot:=λi s e=>(r.slot i s e).grow (Same.refl F) λb u _ h1 h2 h3=>⟨Same.upd h b u h1,h2⟩
 sep:=r.sep
def Rel.freeze(r:Rel K c F H σ ρ)(h:H a=some o)(hB:c.B a=none)(hF:F a=none)(hf:aP F σ ρ a):Rel K c (upd F a o) H σ ρ where
 sub:=λb u e=>by
  by_cases hb:b=a
  ·subst hb;rw[ĉ] at e;rw[h];exact e
  ·rw[Ą hb] at e;exact r.sub b u e
 base:=r.base
 f0:=r.f0.trans (Same.upd hF)
 ŉ:=λb h1 h2=>by
  have hb:b≠a:=λz=>h1 (by rw[z];exact hB)
  rw[Ą hb];exact r.ŉ b h1 h2
 lent:=λb u e=>by
  have hb:b≠a:=λz=>by rw[z,r.lb a hB] at e;cases e
  rw[Ą hb];exact r.lent b u e
 lb:=r.lb
 len:=r.len
 slot:=λi s e=>(r.slot i s e).grow (Same.upd hF) λb' u' ⟨y,e1',ha⟩ h1 h2 h3=>by
  have hb:b'≠a:=λz=>by
   subst z
   exact hf i ⟨s,y,e,nP e1',ha⟩
  rw[Ą hb];exact⟨h1,h2⟩
 sep:=r.wV (Same.upd hF)
def ĭ{α:Type}{l:List α}{i j:Nat}{x y:α}(h:(l.set i x)[j]?=some y):(j=i/\y=x/\i<l.length)\/(j≠i/\l[j]?=some y):=by
 by_cases hj:j=i
 ·subst hj
  have hl:j<l.length:=by
   have:=(List.getElem?_eq_some_iff.mp h).1
   simpa using this
  rw[List.getElem?_set_self hl] at h
  exact .inl ⟨rfl,(Option.some.inj h).symm,hl⟩
 ·rw[List.getElem?_set_ne (Ne.symm hj)] at h
  exact .inr ⟨hj,h⟩
def nQ{l:L2.St}{i:Nat}{x:Option V}(h:i<l.length):((l.set i x)[i]?).getD none=x:=by rw[List.getElem?_set_self h];rfl
def jA{l:L2.St}{i j:Nat}{x:Option V}(h:j≠i):((l.set i x)[j]?).getD none=(l[j]?).getD none:=by rw[List.getElem?_set_ne (Ne.symm h)]
def Ď.off{i j:Nat}{x:Option V}{s:Slot}(h:Ď F (σ.set i x) (ρ.set i s) j a)(hj:j≠i):Ď F σ ρ j a:=by
 obtain⟨s',y,h1,h2,h3⟩:=h
 rw[List.getElem?_set_ne (Ne.symm hj)] at h1 h2
 exact⟨s',y,h1,h2,h3⟩
def Rel.put(r:Rel K c F H σ ρ){i:Nat}{x:Option V}{s:Slot}(hs:s.own=false)(h:ğ K c F H x s):Rel K c F H (σ.set i x) (ρ.set i s) where
 sub:=r.sub
 base:=r.base
 f0:=r.f0
 ŉ:=r.ŉ
 lent:=r.lent
 lb:=r.lb
 len:=by simpa using r.len
 slot:=λj s' e=>by
  rcases ĭ e with⟨rfl,rfl,hl⟩|⟨hj,e⟩
  ·rw[nQ (by rw[r.len];exact hl)];exact h
  ·rw[jA hj];exact r.slot j s' e
 sep:=λj k b h1 h2=>by
  have off:∀{j},Ď F (σ.set i x) (ρ.set i s) j b->j≠i:=fun{j} q z=>by
   subst z
   obtain⟨s',y,q1,_,q2⟩:=q
   rcases ĭ q1 with⟨_,rfl,_⟩|⟨q,_⟩
   ·have:=eZ q2;rw[hs] at this;cases this
   ·exact q rfl
  exact r.sep j k b (h1.off (off h1)) (h2.off (off h2))
def Rel.uG(r:Rel K c F H σ ρ){i:Nat}{s:Slot}(hs:s.own=false)(h:ğ K c F H ((σ[i]?).getD none) s):Rel K c F H σ (ρ.set i s) where
 sub:=r.sub
 base:=r.base
 f0:=r.f0
 ŉ:=r.ŉ
 lent:=r.lent
 lb:=r.lb
 len:=by simpa using r.len
 slot:=λj s' e=>by
  rcases ĭ e with⟨rfl,rfl,hl⟩|⟨hj,e⟩
  ·exact h
  ·exact r.slot j s' e
 sep:=λj k b h1 h2=>by
  have off:∀{j},Ď F σ (ρ.set i s) j b->Ď F σ ρ j b:=fun{j} ⟨s',y,q1,q3,q2⟩=>by
   rcases ĭ q1 with⟨_,rfl,_⟩|⟨_,q⟩
   ·have:=eZ q2;rw[hs] at this;cases this
   ·exact⟨s',y,q,q3,q2⟩
  exact r.sep j k b (off h1) (off h2)
def Rel.zy(r:Rel K c F H σ ρ){i:Nat}{x:V}{s:Slot}(h:ğ K c F H (some x) s)(hf:∀a,s.at_ F x a->aP F σ ρ a):Rel K c F H (σ.set i (some x)) (ρ.set i s) where
 sub:=r.sub
 base:=r.base
 f0:=r.f0
 ŉ:=r.ŉ
 lent:=r.lent
 lb:=r.lb
 len:=by simpa using r.len
 slot:=λj s' e=>by
  rcases ĭ e with⟨rfl,rfl,hl⟩|⟨hj,e⟩
  ·rw[nQ (by rw[r.len];exact hl)];exact h
  ·rw[jA hj];exact r.slot j s' e
 sep:=λj k b h1 h2=>by
  have wW:∀{j},Ď F (σ.set i (some x)) (ρ.set i s) j b->(j=i/\s.at_ F x b)\/(j≠i/\Ď F σ ρ j b):=fun{j} q=>by
   by_cases hj:j=i
   ·subst hj
    obtain⟨s',y,q1,q2,q3⟩:=q
    rcases ĭ q2 with⟨_,e,_⟩|⟨z,_⟩
    ·cases e
     rcases ĭ q1 with⟨_,e,_⟩|⟨z,_⟩
     ·cases e
      exact .inl ⟨rfl,q3⟩
     ·exact absurd rfl z
    ·exact absurd rfl z
   ·exact .inr ⟨hj,q.off hj⟩
  rcases wW h1 with⟨e1,z1⟩|⟨e1,o1⟩
  ·rcases wW h2 with⟨e2,z2⟩|⟨e2,o2⟩
   ·rw[e1,e2]
   ·exact absurd o2 (hf b z1 k)
  ·rcases wW h2 with⟨e2,z2⟩|⟨e2,o2⟩
   ·exact absurd o1 (hf b z2 j)
   ·exact r.sep j k b o1 o2
def Rel.wX(r:Rel K c F H σ ρ){i:Nat}{s:Slot}(ho:Ď F σ ρ i a)(h:ğ K c F (upd H a o) ((σ[i]?).getD none) s)(hs:∀x b,σ[i]?=some (some x)->s.at_ F x b->Ď F σ ρ i b):Rel K c F (upd H a o) σ (ρ.set i s) where
 sub:=λb u e=>by
  have hb:b≠a:=λz=>by rw[z,(r.owned ho).2.1] at e;cases e
  rw[Ą hb];exact r.sub b u e
 base:=λb u e=>by
  have hb:b≠a:=λz=>by rw[z,(r.owned ho).2.2] at e;cases e
  rw[Ą hb];exact r.base b u e
 f0:=r.f0
 ŉ:=r.ŉ
 lent:=λb u e=>by
  have hb:b≠a:=λz=>by rw[z,r.lb a (r.owned ho).2.2] at e;cases e
  rw[Ą hb];exact r.lent b u e
 lb:=r.lb
 len:=by simpa using r.len
 slot:=λj s' e=>by
  rcases ĭ e with⟨rfl,rfl,hl⟩|⟨hj,e⟩
  ·exact h
  ·refine(r.slot j s' e).grow (Same.refl F) λb u ⟨y,e1,e2⟩ h1 h2 h3=>?_
   have hb:b≠a:=λz=>by
    subst z
    exact hj (r.sep j i b ⟨s',y,e,nP e1,e2⟩ ho)
   exact⟨by rw[Ą hb];exact h1,h2⟩
 sep:=λj k b h1 h2=>by
  have off:∀{j},Ď F σ (ρ.set i s) j b->Ď F σ ρ j b:=fun{j} ⟨s',y,q1,q3,q2⟩=>by
   rcases ĭ q1 with⟨e,rfl,_⟩|⟨_,q⟩
   ·subst e
    exact hs y b q3 q2
   ·exact⟨s',y,q,q3,q2⟩
  exact r.sep j k b (off h1) (off h2)
def Rel.write(r:Rel K c F H σ ρ){i:Nat}{s:Slot}(ho:Ď F σ ρ i a)(hx:σ[i]?=some (some (.ref a)))(h:ğ K c F (upd H a o) (some (.ref a)) s)(hs:∀b,s.at_ F (.ref a) b->b=a):Rel K c F (upd H a o) σ (ρ.set i s):=
 r.wX ho (by rw[hx];exact h) λx b e q=>by rw[hx] at e;cases e;rw[hs b q];exact ho
structure Gr(F H F' H':Hp):Prop where
 h:Same H H'
 f:Same F F'
 sub:Same F' H'
 out:∀a,H a≠none->F a=none->F' a=none
def Rel.call(r:Rel K c F H σ ρ)(g:Gr F H F' H'):Rel K c F' H' σ ρ where
 sub:=g.sub
 base:=r.base.trans g.h
 f0:=r.f0.trans g.f
 ŉ:=λb h1 h2=>by
  refine g.out b (λz=>h1 ?_) (r.ŉ b h1 h2)
  cases q:c.B b with
  |none=>rfl
  |some u=>rw[r.base _ _ q] at z;cases z
 lent:=λb u e=>⟨g.h b u (r.lent b u e).1,g.out b (by rw[(r.lent b u e).1];intro z;cases z) (r.lent b u e).2⟩
 lb:=r.lb
 len:=r.len
 slot:=λi s e=>(r.slot i s e).grow g.f λb u _ h1 h2 h3=>⟨g.h b u h1,g.out b (by rw[h1];intro z;cases z) h2⟩
 sep:=r.wV g.f
def ctx0(F H:Hp):Ctx:=⟨H,F,λa=>match F a with
 |none=>H a
 |some _=>none,λ_ _ _=>True⟩
def aF{a:Addr}{u:HO}(h:(ctx0 F H).L a=some u):H a=some u/\F a=none:=by
 unfold ctx0 at h
 dsimp only at h
 cases q:F a with
 |none=>rw[q] at h;exact⟨h,rfl⟩
 |some o=>rw[q] at h;cases h
def Rel.gr(r:Rel K (ctx0 F H) F' H' σ ρ):Gr F H F' H':=⟨r.base,r.f0,r.sub,r.ŉ⟩
def ŭ(K:KK)(F H:Hp):Slot->V->Prop
 | .sh p,v=>Rep K F p v
 | .bw ps,v=>∃a vs,v=.ref a/\H a=some (.lst vs)/\F a=none/\ā K F ps vs
 |_,_=>False
def ŭ.slot{s:Slot}{v:V}(h:ŭ K F H s v):ğ K (ctx0 F H) F H (some v) s/\s.own=false:=by
 cases s with
 |sh p=>exact⟨⟨v,rfl,h⟩,rfl⟩
 |bw ps=>
  obtain⟨a,vs,rfl,h1,h2,h3⟩:=h
  refine⟨⟨a,vs,rfl,?_,h3⟩,rfl⟩
  show(match F a with|none=>H a|some _=>none)=_
  rw[h2]
  exact h1
 |no=>exact h.elim
 |ow ps=>exact h.elim
 |rc C ns ps=>exact h.elim
 |ot ps qs rs=>exact h.elim
 |ol qD=>exact h.elim
 |od t kvs=>exact h.elim
 |bd t kvs=>exact h.elim
def startP(n:Nat)(as:List Slot):Đ:=as++List.replicate (n-as.length) .no
theorem Rel.start{N:List Str}{as:List Slot}{vs:List V}(s:Same F H)(h:Paired (ŭ K F H) as vs):Rel K (ctx0 F H) F H (L2.start N vs) (startP N.length as) where
 sub:=s
 base:=Same.refl H
 f0:=Same.refl F
 ŉ:=λ_ _ h=>h
 lent:=λ_ _ e=>aF e
 lb:=fun a e=>by
   cases q:(ctx0 F H).L a with
   |none=>rfl
   |some u=>
    have e':H a=none:=e
    rw[(aF q).1] at e'
    cases e'
 len:=by unfold L2.start startP;simp[Paired.length h]
 slot:=λi s' e=>by
  unfold startP at e
  by_cases hi:i<as.length
  ·rw[List.getElem?_append_left hi] at e
   obtain⟨v,h1,h2⟩:=ŵ h e
   have hv:((L2.start N vs)[i]?).getD none=some v:=by
    unfold L2.start
    rw[List.getElem?_append_left (by simpa[<-Paired.length h] using hi),List.getElem?_map,h1];rfl
   rw[hv]
   exact(ŭ.slot h2).1
  ·rw[List.getElem?_append_right (by omega),List.getElem?_replicate] at e
   split at e
   ·cases e;trivial
   ·cases e
 sep:=λi j a h1 _=>by
  obtain⟨s',y,h1,_,h2⟩:=h1
  have h2:=eZ h2
  exfalso
  unfold startP at h1
  by_cases hi:i<as.length
  ·rw[List.getElem?_append_left hi] at h1
   obtain⟨v,_,h3⟩:=ŵ h h1
   rw[(ŭ.slot h3).2] at h2
   cases h2
  ·rw[List.getElem?_append_right (by omega),List.getElem?_replicate] at h1
   split at h1
   ·cases h1;cases h2
   ·cases h1
end
structure PX where
 C:String
 ns:List Str
 ps:List PV
def wY(K:KK)(F:Hp)(x:PX)(C:Value)(d:Option Addr):Prop:=C=.ref (K.cm x.C)/\∃fs,gB F d fs/\fs.map (·.1)=x.ns/\ā K F x.ps (fs.map (·.2))
inductive Res(α:Type) where
 |ok (a:α) (ρ:Đ)|exc (x:PX) (ρ:Đ)|bad
def Res.bind{α β:Type}(r:Res α)(f:α->Đ->Res β):Res β:= match r with
 | .ok a ρ=>f a ρ
 | .exc x ρ=>.exc x ρ
 | .bad=>.bad
@[simp] theorem Res.Ŧ{α β:Type}{a:α}{ρ:Đ}{f:α->Đ->Res β}:(Res.ok a ρ).bind f=f a ρ:= rfl
@[simp] theorem Res.zA{α β:Type}{x:PX}{ρ:Đ}{f:α->Đ->Res β}:(Res.exc x ρ:Res α).bind f=.exc x ρ:= rfl
@[simp] theorem Res.zB{α β:Type}{f:α->Đ->Res β}:(Res.bad:Res α).bind f=.bad:=rfl
def Res.iC{α:Type}(o:Option α)(ρ:Đ):Res α:= match o with
 |some a=>.ok a ρ
 |none=>.bad
@[simp] theorem Res.zE{α:Type}{a:α}{ρ:Đ}:Res.iC (some a) ρ=.ok a ρ:= rfl
@[simp] theorem Res.zF{α:Type}{ρ:Đ}:Res.iC (none:Option α) ρ=.bad:=rfl
abbrev M(α:Type):=Đ->Res α
inductive RV where
 |sh (p:PV)|ow (ps:List PV)|ot (ps qs rs:List PV)
def RV.val:RV->PV
 | .sh p=>p
 | .ow ps=>.lst ps
 | .ot ps qs rs=>.tup (ps ++ .lst qs::rs)
def RV.slot:RV->Slot
 | .sh p=>.sh p
 | .ow ps=>.ow ps
 | .ot ps qs rs=>.ot ps qs rs
abbrev RR(α β:Type):=Ctx->L2.St->Đ->Hp->Hp->α->β->Prop
def rV(K:KK):RR PV V:=λ_ _ _ F _ p v=>Rep K F p v
def jB(K:KK)(F H:Hp)(p:PV)(v:V):Prop:=match p with
 | .lst ps=>∃a vs,v=.ref a/\H a=some (.lst vs)/\ā K F ps vs
 | .ins C ns ps=>∃a dx fs,v=.ref a/\H a=some (.ins (K.cm C) dx fs)/\fs.map (·.1)=ns/\ā K F ps (fs.map (·.2))
 |_=>False
def rR(K:KK):RR PV V:=λ_ _ _ F H p v=>Rep K F p v\/jB K F H p v
def rA(K:KK):RR (List Slot) (List V):=λ_ _ _ F H as vs=>Paired (ŭ K F H) as vs
def Held(K:KK)(c:Ctx)(σ:L2.St)(ρ:Đ)(F H:Hp)(ps:List PV)(v:V):Prop:=∃a vs,v=.ref a/\H a=some (.lst vs)/\F a=none/\c.B a=none/\aP F σ ρ a/\ā K F ps vs
def jC(K:KK)(c:Ctx)(σ:L2.St)(ρ:Đ)(F H:Hp)(ps qs rs:List PV)(v:V):Prop:=∃p a xs vs ys,v=.ref p/\F p=some (.tup (xs ++ .ref a::ys))/\ā K F ps xs/\H a=some (.lst vs)/\F a=none/\c.B a=none/\aP F σ ρ a/\ā K F qs vs/\ā K F rs ys
def rO(K:KK):RR RV V:=λc σ ρ F H r v=>match r with
 | .sh p=>Rep K F p v
 | .ow ps=>Held K c σ ρ F H ps v
 | .ot ps qs rs=>jC K c σ ρ F H ps qs rs v
def rL(K:KK):RR (List PV) (List V):=λ_ _ _ F _ p v=>ā K F p v
def zG(K:KK):RR (List PV) (List V):=λc σ ρ F H p v=>Paired (rR K c σ ρ F H) p v
def rB:RR Bool Bool:=λ_ _ _ _ _ p v=>p=v
def rI:RR (Option Int) (Option Int):=λ_ _ _ _ _ p v=>p=v
def Ŏ{α β:Type}(K:KK)(E:L2.St->XK)(R:RR α β)(c:Ctx)(F H:Hp)(σ:L2.St)(Q:β->Hp->Prop):Res α->Prop
 | .ok p ρ'=>∀v F' H',Rel K c F' H' σ ρ'->Same F F'->Same H H'->R c σ ρ' F' H' p v->Q v H'
 | .exc x ρ'=>∀C d F' H',Rel K c F' H' σ ρ'->Same F F'->wY K F' x C d->E σ C d H'
 | .bad=>False
def tG{α β:Type}(K:KK)(E:L2.St->XK)(R:RR α β)(m:M α):L2.St->Hp->(β->Hp->Prop)->Prop:=λσ H Q=>∃c F ρ,Rel K c F H σ ρ/\Ŏ K E R c F H σ Q (m ρ)
section
variable{α β α' β':Type}{K:KK}{E:L2.St->XK}{R:RR α β}{R':RR α' β'}{c:Ctx}{F F1 H H1:Hp}{σ:L2.St}
def Ŏ.mono{Q:β->Hp->Prop}{r:Res α}(h:Ŏ K E R c F H σ Q r)(sF:Same F F1)(sH:Same H H1):Ŏ K E R c F1 H1 σ Q r:=by
 cases r with
 |ok p ρ'=>exact λv F' H' rel s1 s2 q=>h v F' H' rel (sF.trans s1) (sH.trans s2) q
 |exc x ρ'=>exact λC d F' H' rel s1 q=>h C d F' H' rel (sF.trans s1) q
 |bad=>exact h
theorem Ŏ.bind{Q:β->Hp->Prop}{Q':β'->Hp->Prop}{r:Res α}{f:α->Đ->Res α'}(h:Ŏ K E R' c F H σ Q' (r.bind f))
 (k:∀p ρ1 v F1 H1,Rel K c F1 H1 σ ρ1->Same F F1->Same H H1->R c σ ρ1 F1 H1 p v->Ŏ K E R' c F1 H1 σ Q' (f p ρ1)->Q v H1):Ŏ K E R c F H σ Q r:=by
 cases r with
 |ok p ρ'=>exact λv F' H' rel s1 s2 q=>k p ρ' v F' H' rel s1 s2 q (Ŏ.mono (show Ŏ K E R' c F H σ Q' (f p ρ') from h) s1 s2)
 |exc x ρ'=>exact h
 |bad=>exact h
theorem Ŏ.rel{R2:RR α β}{Q:β->Hp->Prop}{r:Res α}(h:Ŏ K E R c F H σ Q r)(k:∀p ρ' v F' H',Rel K c F' H' σ ρ'->R2 c σ ρ' F' H' p v->R c σ ρ' F' H' p v):Ŏ K E R2 c F H σ Q r:=by
 cases r with
 |ok p ρ'=>exact λv F' H' rel s1 s2 q=>h v F' H' rel s1 s2 (k p ρ' v F' H' rel q)
 |exc x ρ'=>exact h
 |bad=>exact h
end
abbrev tV(K:KK)(E:L2.St->XK)(m:M PV):TE:=tG K E (rV K) m
abbrev tR(K:KK)(E:L2.St->XK)(m:M PV):TE:=tG K E (rR K) m
abbrev tO(K:KK)(E:L2.St->XK)(m:M RV):TE:=tG K E (rO K) m
abbrev tL(K:KK)(E:L2.St->XK)(m:M (List PV)):TA:=tG K E (rL K) m
abbrev tA(K:KK)(E:L2.St->XK)(m:M (List Slot)):TA:=tG K E (rA K) m
abbrev wZ(K:KK)(E:L2.St->XK)(m:M (List PV)):TA:=tG K E (zG K) m
abbrev tB(K:KK)(E:L2.St->XK)(m:M Bool):TT:=tG K E rB m
inductive Fl where
 |nx|bk|ct|rt (r:RV)
def ģ(K:KK)(E:L2.St->XK)(c:Ctx)(F:Hp)(D:Ends):Res Fl->Prop
 | .ok .nx ρ'=>∀σ' F' H',Rel K c F' H' σ' ρ'->Same F F'->D.nx σ' H'
 | .ok .bk ρ'=>∀σ' F' H',Rel K c F' H' σ' ρ'->Same F F'->D.bk σ' H'
 | .ok .ct ρ'=>∀σ' F' H',Rel K c F' H' σ' ρ'->Same F F'->D.ct σ' H'
 | .ok (.rt r) ρ'=>∀v σ' F' H',Rel K c F' H' σ' ρ'->Same F F'->rO K c σ' ρ' F' H' r v->D.rt v H'
 | .exc x ρ'=>∀σ' C d F' H',Rel K c F' H' σ' ρ'->Same F F'->wY K F' x C d->E σ' C d H'
 | .bad=>False
def tS(K:KK)(E:L2.St->XK)(m:M Fl):TS:=λD σ H=>∃c F ρ,Rel K c F H σ ρ/\ģ K E c F D (m ρ)
section
variable{K:KK}{E:L2.St->XK}{c:Ctx}{F F1:Hp}{D:Ends}
def ģ.mono{r:Res Fl}(h:ģ K E c F D r)(sF:Same F F1):ģ K E c F1 D r:=by
 cases r with
 |ok f ρ'=>
  cases f with
  |rt v=>exact λv σ' F' H' rel s1 q=>h v σ' F' H' rel (sF.trans s1) q
  |nx=>exact λσ' F' H' rel s1=>h σ' F' H' rel (sF.trans s1)
  |bk=>exact λσ' F' H' rel s1=>h σ' F' H' rel (sF.trans s1)
  |ct=>exact λσ' F' H' rel s1=>h σ' F' H' rel (sF.trans s1)
 |exc x ρ'=>exact λσ' C d F' H' rel s1 q=>h σ' C d F' H' rel (sF.trans s1) q
 |bad=>exact h
theorem ģ.bind{α β:Type}{R:RR α β}{σ:L2.St}{H:Hp}{Q:β->Hp->Prop}{r:Res α}{f:α->Đ->Res Fl}(h:ģ K E c F D (r.bind f))
 (k:∀p ρ1 v F1 H1,Rel K c F1 H1 σ ρ1->Same F F1->R c σ ρ1 F1 H1 p v->ģ K E c F1 D (f p ρ1)->Q v H1):Ŏ K E R c F H σ Q r:=by
 cases r with
 |ok p ρ'=>exact λv F' H' rel s1 s2 q=>k p ρ' v F' H' rel s1 q (ģ.mono (show ģ K E c F D (f p ρ') from h) s1)
 |exc x ρ'=>exact λC d F' H' rel s1 q=>h σ C d F' H' rel s1 q
 |bad=>exact h
end
end P
namespace P
open PySem PySem.Spec PyProof.Rows L2 M2
def Ů(i:Nat):M PV:=λρ=>match ρ[i]? with
 |some (.sh p)=>.ok p ρ
 |some (.ow ps)=>.ok (.lst ps) (ρ.set i (.sh (.lst ps)))
 |_=>.bad
def Ā(i:Nat):M PV:=λρ=>match ρ[i]? with
 |some (.sh p)=>.ok p ρ
 |some (.ow ps)=>.ok (.lst ps) ρ
 |some (.bw ps)=>.ok (.lst ps) ρ
 |some (.rc C ns ps)=>.ok (.ins C ns ps) ρ
 |_=>.bad
def dD(i:Nat):M RV:=λρ=>match ρ[i]? with
 |some (.sh p)=>.ok (.sh p) ρ
 |some (.ow ps)=>.ok (.ow ps) (ρ.set i .no)
 |_=>.bad
def mC(p:PV):M PV:=λρ=>.ok p ρ
def dF(m:M PV):M RV:=λρ=>(m ρ).bind λp ρ1=>.ok (.sh p) ρ1
def Ī(m:M RV):M PV:=λρ=>(m ρ).bind λr ρ1=>.ok r.val ρ1
section
variable{K:KK}{c:Ctx}{F H:Hp}{σ:L2.St}{ρ:Đ}
def at_of{i:Nat}{x:V}(h:(σ[i]?).getD none=some x):σ[i]?=some (some x):=by
 cases q:σ[i]? with
 |none=>rw[q] at h;cases h
 |some y=>rw[q] at h;exact congrArg some h
theorem Rel.ow(r:Rel K c F H σ ρ){i:Nat}{ps:List PV}(e:ρ[i]?=some (.ow ps)):∃a vs,σ[i]?=some (some (.ref a))/\H a=some (.lst vs)/\F a=none/\c.B a=none/\ā K F ps vs/\Ď F σ ρ i a:=by
 obtain⟨a,vs,h1,h2,h3,h4,h5⟩:=r.slot i _ e
 exact⟨a,vs,at_of h1,h2,h3,h4,h5,⟨_,_,e,at_of h1,rfl⟩⟩
def Rel.move(r:Rel K c F H σ ρ){i:Nat}{a:Addr}(h:Ď F σ ρ i a):Rel K c F H σ (ρ.set i .no)/\aP F σ (ρ.set i .no) a:=by
 refine⟨r.uG rfl trivial,λj ⟨s,y,q1,q3,q2⟩=>?_⟩
 rcases ĭ q1 with⟨_,rfl,_⟩|⟨hj,q⟩
 ·exact q2.elim
 ·exact hj (r.sep j i a ⟨s,y,q,q3,q2⟩ h)
def Rel.share(r:Rel K c F H σ ρ){i:Nat}{ps:List PV}(e:ρ[i]?=some (.ow ps)):∃a vs,σ[i]?=some (some (.ref a))/\F a=none/\Rep K (upd F a (.lst vs)) (.lst ps) (.ref a)/\Rel K c (upd F a (.lst vs)) H σ (ρ.set i (.sh (.lst ps))):=by
 obtain⟨a,vs,h1,h2,h3,h4,h5,ho⟩:=r.ow e
 obtain⟨m1,m2⟩:=r.move ho
 have rp:Rep K (upd F a (.lst vs)) (.lst ps) (.ref a):=by
  unfold Rep
  exact⟨a,vs,rfl,Ľ.of ĉ,h5.same (Same.upd h3) ps vs⟩
 have q:=(m1.freeze h2 h4 h3 m2).uG (i:=i) (s:=.sh (.lst ps)) rfl (show ğ K c _ H _ (.sh (.lst ps)) from⟨.ref a,by rw[h1];rfl,rp⟩)
 rw[List.set_set] at q
 exact⟨a,vs,h1,h3,rp,q⟩
def jB.mono{F1 H1:Hp}{p:PV}{v:V}(h:jB K F H p v)(sF:Same F F1)(sH:Same H H1):jB K F1 H1 p v:=by
 cases p with
 |lst ps=>
  obtain⟨a,vs,h2,h3,h4⟩:=h
  exact⟨a,vs,h2,sH _ _ h3,h4.same sF ps vs⟩
 |ins C ns ps=>
  obtain⟨a,dx,fs,h2,h3,h4,h5⟩:=h
  exact⟨a,dx,fs,h2,sH _ _ h3,h4,h5.same sF ps _⟩
 |_=>exact h.elim
theorem rR.mono{c:Ctx}{σ:L2.St}{ρ ρ':Đ}{F1 H1:Hp}{p:PV}{v:V}(h:rR K c σ ρ F H p v)(sF:Same F F1)(sH:Same H H1):rR K c σ ρ' F1 H1 p v:=by
 rcases h with h|h
 ·exact .inl (h.same sF p v)
 ·exact .inr (h.mono sF sH)
theorem rR.lst{c:Ctx}{σ:L2.St}{ρ:Đ}{ps:List PV}{v:V}(s:Same F H)(h:rR K c σ ρ F H (.lst ps) v):∃a vs,v=.ref a/\Ľ K.K H a vs/\ā K F ps vs:=by
 rcases h with h|⟨a,vs,h2,h3,h4⟩
 ·unfold Rep at h
  obtain⟨a,xs,h1,h2,h3⟩:=h
  exact⟨a,xs,h1,s.seq h2,h3⟩
 ·exact⟨a,vs,h2,Ľ.of h3,h4⟩
theorem rR.tup{c:Ctx}{σ:L2.St}{ρ:Đ}{ps:List PV}{v:V}(s:Same F H)(h:rR K c σ ρ F H (.tup ps) v):∃a vs,v=.ref a/\Ŭ K.K H a vs/\ā K F ps vs:=by
 rcases h with h|h
 ·unfold Rep at h
  obtain⟨a,xs,h1,h2,h3⟩:=h
  exact⟨a,xs,h1,Same.tup s h2,h3⟩
 ·exact h.elim
theorem rR.int{c:Ctx}{σ:L2.St}{ρ:Đ}{i:Int}{v:V}(h:rR K c σ ρ F H (.int i) v):v=.int i:=by
 rcases h with h|h
 ·unfold Rep at h;exact h
 ·exact h.elim
theorem rR.str{c:Ctx}{σ:L2.St}{ρ:Đ}{i:Str}{v:V}(h:rR K c σ ρ F H (.str i) v):v=.str i:=by
 rcases h with h|h
 ·unfold Rep at h;exact h
 ·exact h.elim
theorem rR.bl{c:Ctx}{σ:L2.St}{ρ:Đ}{i:Bool}{v:V}(h:rR K c σ ρ F H (.bl i) v):v=.bl i:=by
 rcases h with h|h
 ·unfold Rep at h;exact h
 ·exact h.elim
theorem rR.non{c:Ctx}{σ:L2.St}{ρ:Đ}{v:V}(h:rR K c σ ρ F H .non v):v=.non:=by
 rcases h with h|h
 ·unfold Rep at h;exact h
 ·exact h.elim
theorem rR.ty{c:Ctx}{σ:L2.St}{ρ:Đ}{n:String}{v:V}(h:rR K c σ ρ F H (.ty n) v):v=.ty n:=by
 rcases h with h|h
 ·unfold Rep at h;exact h
 ·exact h.elim
theorem Rep.int{i:Int}:Rep K F (.int i) (.int i):=by unfold Rep;rfl
theorem Rep.str{i:Str}:Rep K F (.str i) (.str i):=by unfold Rep;rfl
theorem Rep.bl{i:Bool}:Rep K F (.bl i) (.bl i):=by unfold Rep;rfl
theorem Rep.non:Rep K F .non .non:=by unfold Rep;rfl
end
section
variable{X:Cx}{cm:String->Addr}{E:L2.St->XK}{a b e:Expr}{es:List Expr}{pos:Pos}{m ma mb mc:M PV}{mo:M RV}
def PT.wk{t t':TT}(h:PT X e t)(i:∀σ H Q,t' σ H Q->t σ H Q):PT X e t':=λpins s σ H Q I q=>h pins s σ H Q I (i σ H Q q)
def PA.wk{t t':TA}(h:PA X es t)(i:∀σ H Q,t' σ H Q->t σ H Q):PA X es t':=λpos pins s σ H Q I q=>h pos pins s σ H Q I (i σ H Q q)
def PW.wk{t t':TT}(h:PW X e t)(i:∀σ H Q,t' σ H Q->t σ H Q):PW X e t':=λwh pins s σ H Q I q=>h wh pins s σ H Q I (i σ H Q q)
def ź.wk{st:List Stmt}{t t':TS}(h:ź X st t)(i:∀D σ H,t' D σ H->t D σ H):ź X st t':=λpins s σ H D I q=>h pins s σ H D I (i D σ H q)
def v_var(i:Nat){x:Str}{pos:Pos}(hN:X.N[i]?=some x:=by rfl)(hv:mq X.env.scope x:=by first|exact Or.inl rfl|exact Or.inr (Or.inl rfl)|exact Or.inr (Or.inr rfl))(hd:(x== ("__debug__" :Str))=false:=by decide)
 (hcd:(x== ("__classdict__" :Str))=false:=by decide):PE X (.Name x pos) (tV (kk X cm) E (Ů i)):=PE.wk (ų hN hv hd hcd) λσ H Q ⟨c,F,ρ,rel,h⟩=>by
 unfold Ů at h
 split at h
 ·rename_i p e
  obtain⟨v,h1,h2⟩:=rel.slot i _ e
  exact⟨v,at_of h1,h v F H rel (Same.refl F) (Same.refl H) h2⟩
 ·rename_i ps e
  obtain⟨a,vs,h1,h2,h3,h4⟩:=rel.share e
  exact⟨.ref a,h1,h _ _ H h4 (Same.upd h2) (Same.refl H) h3⟩
 ·exact h.elim
def ă(i:Nat){x:Str}{pos:Pos}(hN:X.N[i]?=some x:=by rfl)(hv:mq X.env.scope x:=by first|exact Or.inl rfl|exact Or.inr (Or.inl rfl)|exact Or.inr (Or.inr rfl))(hd:(x== ("__debug__" :Str))=false:=by decide)
 (hcd:(x== ("__classdict__" :Str))=false:=by decide):PE X (.Name x pos) (tR (kk X cm) E (Ā i)):=PE.wk (ų hN hv hd hcd) λσ H Q ⟨c,F,ρ,rel,h⟩=>by
 unfold Ā at h
 split at h
 ·rename_i p e
  obtain⟨v,h1,h2⟩:=rel.slot i _ e
  exact⟨v,at_of h1,h v F H rel (Same.refl F) (Same.refl H) (.inl h2)⟩
 ·rename_i ps e
  obtain⟨a,vs,h1,h2,h3,h4,h5,_⟩:=rel.ow e
  exact⟨.ref a,h1,h _ F H rel (Same.refl F) (Same.refl H) (.inr ⟨a,vs,rfl,h2,h5⟩)⟩
 ·rename_i ps e
  obtain⟨a,vs,h1,h2,h3⟩:=rel.slot i _ e
  exact⟨.ref a,at_of h1,h _ F H rel (Same.refl F) (Same.refl H) (.inr ⟨a,vs,rfl,(rel.lent a _ h2).1,h3⟩)⟩
 ·rename_i C ns ps e
  obtain⟨a,dx,fs,h1,h2,h3,h4,h5,h6⟩:=rel.slot i _ e
  exact⟨.ref a,at_of h1,h _ F H rel (Same.refl F) (Same.refl H) (.inr ⟨a,dx,fs,rfl,h2,h5,h6.1⟩)⟩
 ·exact h.elim
def nR(i:Nat){x:Str}{pos:Pos}(hN:X.N[i]?=some x:=by rfl)(hv:mq X.env.scope x:=by first|exact Or.inl rfl|exact Or.inr (Or.inl rfl)|exact Or.inr (Or.inr rfl))(hd:(x== ("__debug__" :Str))=false:=by decide)
 (hcd:(x== ("__classdict__" :Str))=false:=by decide):PE X (.Name x pos) (tO (kk X cm) E (dD i)):=PE.wk (ų hN hv hd hcd) λσ H Q ⟨c,F,ρ,rel,h⟩=>by
 unfold dD at h
 split at h
 ·rename_i p e
  obtain⟨v,h1,h2⟩:=rel.slot i _ e
  exact⟨v,at_of h1,h v F H rel (Same.refl F) (Same.refl H) h2⟩
 ·rename_i ps e
  obtain⟨a,vs,h1,h2,h3,h4,h5,h6⟩:=rel.ow e
  obtain⟨m1,m2⟩:=rel.move h6
  exact⟨.ref a,h1,h _ F H m1 (Same.refl F) (Same.refl H) ⟨a,vs,rfl,h2,h3,h4,m2,h5⟩⟩
 ·exact h.elim
def uH{v:V}(p:PV)(h:PE X e (tC v))(hr:∀F,Rep (kk X cm) F p v:=by intro _;unfold Rep;rfl):PE X e (tV (kk X cm) E (mC p)):=PE.wk h λσ H Q ⟨c,F,ρ,rel,h⟩=>h v F H rel (Same.refl F) (Same.refl H) (hr F)
def ŕ{i j pos}:PE X (.Constant (.int i) j pos) (tV (kk X cm) E (mC (.int i))):=uH _ vC
def gD{i j pos}:PE X (.Constant (.bool i) j pos) (tV (kk X cm) E (mC (.bl i))):=uH _ yI
def ĝ(h:PE X e (tV (kk X cm) E m)):PE X e (tR (kk X cm) E m):=PE.wk h λσ H Q ⟨c,F,ρ,rel,h⟩=>⟨c,F,ρ,rel,h.rel λ_ _ _ _ _ _ q=>.inl q⟩
def iT(h:PE X e (tV (kk X cm) E m)):PE X e (tO (kk X cm) E (dF m)):=PE.wk h λσ H Q ⟨c,F,ρ,rel,h⟩=>⟨c,F,ρ,rel,h.bind λp ρ1 v F1 H1 Ă s1 s2 q h1=>h1 v F1 H1 Ă (Same.refl _) (Same.refl _) q⟩
def Held.share{K:KK}{c:Ctx}{F H:Hp}{σ:L2.St}{ρ:Đ}{ps:List PV}{v:V}(rel:Rel K c F H σ ρ)(h:Held K c σ ρ F H ps v):∃F1,Same F F1/\Rel K c F1 H σ ρ/\Rep K F1 (.lst ps) v:=by
 obtain⟨a,vs,rfl,h1,h2,h3,h4,h5⟩:=h
 refine⟨_,Same.upd h2,rel.freeze h1 h3 h2 h4,?_⟩
 unfold Rep
 exact⟨a,vs,rfl,Ľ.of ĉ,h5.same (Same.upd h2) ps vs⟩
def jC.share{K:KK}{c:Ctx}{F H:Hp}{σ:L2.St}{ρ:Đ}{ps qs rs:List PV}{v:V}(rel:Rel K c F H σ ρ)(h:jC K c σ ρ F H ps qs rs v):∃F1,Same F F1/\Rel K c F1 H σ ρ/\Rep K F1 (.tup (ps ++ .lst qs::rs)) v:=by
 obtain⟨p,a,xs,vs,ys,rfl,h0,hx,h1,h2,h3,h4,h5,h6⟩:=h
 refine⟨_,Same.upd h2,rel.freeze h1 h3 h2 h4,?_⟩
 have ra:Rep K (upd F a (.lst vs)) (.lst qs) (.ref a):=by
  unfold Rep
  exact⟨a,vs,rfl,Ľ.of ĉ,h5.same (Same.upd h2) qs vs⟩
 unfold Rep
 exact⟨p,_,rfl,Ŭ.of (Same.upd h2 _ _ h0),ā.append (hx.same (Same.upd h2) ps xs) (ā.cons ra (h6.same (Same.upd h2) rs ys))⟩
def ŏ(h:PE X e (tO (kk X cm) E mo)):PE X e (tV (kk X cm) E (Ī mo)):=PE.wk h λσ H Q ⟨c,F,ρ,rel,h⟩=>⟨c,F,ρ,rel,h.bind λr ρ1 v F1 H1 Ă s1 s2 q h1=>by
 cases r with
 |sh p=>exact h1 v F1 H1 Ă (Same.refl _) (Same.refl _) q
 |ow ps=>
  obtain⟨F2,s3,ď,rp⟩:=Held.share Ă q
  exact h1 v F2 H1 ď s3 (Same.refl _) rp
 |ot ps qs rs=>
  obtain⟨F2,s3,ď,rp⟩:=jC.share Ă q
  exact h1 v F2 H1 ď s3 (Same.refl _) rp⟩
def Ć(f:PV->PV->Option PV)(ma mb:M PV):M PV:=λρ=>(ma ρ).bind λp ρ1=>(mb ρ1).bind λq ρ2=>Res.iC (f p q) ρ2
def ĵ(f:PV->PV->Option RV)(ma mb:M PV):M RV:=λρ=>(ma ρ).bind λp ρ1=>(mb ρ1).bind λq ρ2=>Res.iC (f p q) ρ2
def fu(K:KK)(r:R2)(f:PV->PV->Option PV):Prop:=∀{c:Ctx} {F H:Hp} {σ:L2.St} {ρ:Đ} {p q pv:PV} {v u:V} {Q:VK},Rel K c F H σ ρ->rR K c σ ρ F H p v->rR K c σ ρ F H q u->f p q=some pv->
 (∀z F' H',Rel K c F' H' σ ρ->Same F F'->Same H H'->Rep K F' pv z->Q z H')->r v u H Q
def FJ(K:KK)(r:R2)(f:PV->PV->Option RV):Prop:=∀{c:Ctx} {F H:Hp} {σ:L2.St} {ρ:Đ} {p q:PV} {pv:RV} {v u:V} {Q:VK},Rel K c F H σ ρ->rR K c σ ρ F H p v->rR K c σ ρ F H q u->f p q=some pv->
 (∀z F' H',Rel K c F' H' σ ρ->Same F F'->Same H H'->rO K c σ ρ F' H' pv z->Q z H')->r v u H Q
def jD{r:R2}{f:PV->PV->Option PV}(hf:fu (kk X cm) r f){σ:L2.St}{H:Hp}{Q:VK}(h:tV (kk X cm) E (Ć f ma mb) σ H Q):yu r (tR (kk X cm) E ma) (tR (kk X cm) E mb) σ H Q:=by
 obtain⟨c,F,ρ,rel,h⟩:=h
 refine⟨c,F,ρ,rel,h.bind λp ρ1 v F1 H1 Ă _ _ r1 h1=>⟨c,F1,ρ1,Ă,h1.bind λq ρ2 u F2 H2 ď sF sH r2 h2=>?_⟩⟩
 cases e:f p q with
 |none=>rw[e] at h2;exact h2.elim
 |some pv=>rw[e] at h2;exact hf ď (r1.mono sF sH) r2 e λz F' H' Ő s1 s2 q'=>h2 z F' H' Ő s1 s2 q'
def zH{r:R2}{f:PV->PV->Option RV}(hf:FJ (kk X cm) r f){σ:L2.St}{H:Hp}{Q:VK}(h:tO (kk X cm) E (ĵ f ma mb) σ H Q):yu r (tR (kk X cm) E ma) (tR (kk X cm) E mb) σ H Q:=by
 obtain⟨c,F,ρ,rel,h⟩:=h
 refine⟨c,F,ρ,rel,h.bind λp ρ1 v F1 H1 Ă _ _ r1 h1=>⟨c,F1,ρ1,Ă,h1.bind λq ρ2 u F2 H2 ď sF sH r2 h2=>?_⟩⟩
 cases e:f p q with
 |none=>rw[e] at h2;exact h2.elim
 |some pv=>rw[e] at h2;exact hf ď (r1.mono sF sH) r2 e λz F' H' Ő s1 s2 q'=>h2 z F' H' Ő s1 s2 q'
def bL{op:Operator}{r:R2}{f:PV->PV->Option PV}(hf:fu (kk X cm) r f)(ho:ķ X (binaryOp op) r)(ha:PE X a (tR (kk X cm) E ma))(hb:PE X b (tR (kk X cm) E mb)):PE X (.BinOp a op b pos) (tV (kk X cm) E (Ć f ma mb)):=PE.wk (uD ho ha hb) λ_ _ _ h=>jD hf h
def zJ{op:Operator}{r:R2}{f:PV->PV->Option RV}(hf:FJ (kk X cm) r f)(ho:ķ X (binaryOp op) r)(ha:PE X a (tR (kk X cm) E ma))(hb:PE X b (tR (kk X cm) E mb)):PE X (.BinOp a op b pos) (tO (kk X cm) E (ĵ f ma mb)):=PE.wk (uD ho ha hb) λ_ _ _ h=>zH hf h
def zK{op:CmpOp}{r:R2}{f:PV->PV->Option PV}(hf:fu (kk X cm) r f)(ho:ķ X (compareOp op) r)(ha:PE X a (tR (kk X cm) E ma))(hb:PE X b (tR (kk X cm) E mb))(hm:behindInMarks op b=false):PE X (.Compare a [op] [b] pos) (tV (kk X cm) E (Ć f ma mb)):=
 PE.wk (qW ho ha hb hm) λ_ _ _ h=>jD hf h
def FN{r:R2}{f:PV->PV->Option PV}(hf:fu (kk X cm) r f)(hr:iM X r)(ha:PE X a (tR (kk X cm) E ma))(hb:PE X b (tR (kk X cm) E mb))(hs:aZ b):PE X (.Subscript a b pos) (tV (kk X cm) E (Ć f ma mb)):=
 PE.wk (yW hr ha hb hs) λ_ _ _ h=>jD hf h
def xg:PV->Option Bool
 | .bl b=>some b
 | .int i=>some (i != 0)
 | .non=>some false
 | .str y=>if y.length<=sizeLine then some ((y.length:Int) != 0) else none
 | .lst ps=>some (!ps.isEmpty)
 | .tup ps=>some (!ps.isEmpty)
 |_=>none
def aY(m:M PV):M Bool:=λρ=>(m ρ).bind λp ρ1=>Res.iC (xg p) ρ1
def zL{K:KK}{c:Ctx}{F H:Hp}{σ:L2.St}{ρ:Đ}{p:PV}{v:V}{k:Bool}(s:Same F H)(r:rR K c σ ρ F H p v)(h:xg p=some k):vX K.K v H k:=by
 cases p with
 |bl b=>cases r.bl;cases h;rfl
 |int i=>cases r.int;cases h;rfl
 |non=>cases r.non;cases h;rfl
 |str y=>
  cases r.str
  have h':(if y.length<=sizeLine then some ((y.length:Int) != 0) else none)=some k:=h
  split at h'
  ·rename_i hy;cases h';exact⟨hy,rfl⟩
  ·cases h'
 |lst ps=>
  obtain⟨a,vs,rfl,h1,h2⟩:=r.lst s
  cases h
  have e:ps.isEmpty=vs.isEmpty:=by cases h2.pr<;>rfl
  exact .inl ⟨vs,h1,by rw[e]⟩
 |tup ps=>
  obtain⟨a,vs,rfl,h1,h2⟩:=r.tup s
  cases h
  have e:ps.isEmpty=vs.isEmpty:=by cases h2.pr<;>rfl
  exact .inr (.inl ⟨vs,h1,by rw[e]⟩)
 |ins C ns ps=>cases h
 |xc C ns ps=>cases h
 |ty n=>cases h
 |cls C=>cases h
def ak(ha:PE X a (tR (kk X cm) E ma))(he:∀whole,isTrue a X.env whole=(do let v <-whole;standAt a.pos;holding [v] (truthy v)):=by intro _;rfl):PT X a (tB (kk X cm) E (aY ma)):=PT.wk (mU ha he) λσ H Q ⟨c,F,ρ,rel,h⟩=>
 ⟨c,F,ρ,rel,h.bind fun p ρ1 v F1 H1 Ă _ _ r1 h1=>by
   cases e:xg p with
   |none=>rw[e] at h1;exact h1.elim
   |some k=>rw[e] at h1;exact⟨k,zL Ă.sub r1 e,h1 k F1 H1 Ă (Same.refl _) (Same.refl _) rfl⟩⟩
def iU(m:M PV):M Bool:=λρ=>(m ρ).bind λp ρ1=>match p with
 | .bl b=>.ok b ρ1
 |_=>.bad
def zM{σ:L2.St}{H:Hp}{Q:Bool->Hp->Prop}(h:tB (kk X cm) E (iU m) σ H Q):M2.uE (tV (kk X cm) E m) σ H Q:=by
 obtain⟨c,F,ρ,rel,h⟩:=h
 refine⟨c,F,ρ,rel,h.bind λp ρ1 v F1 H1 Ă _ _ r1 h1=>?_⟩
 cases p with
 |bl b=>
  have e:v=.bl b:=by have r1':Rep (kk X cm) F1 (.bl b) v:=r1;unfold Rep at r1';exact r1'
  subst e
  exact h1 b F1 H1 Ă (Same.refl _) (Same.refl _) rfl
 |_=>exact h1.elim
def nT{op:CmpOp}{r:R2}{f:PV->PV->Option PV}(hf:fu (kk X cm) r f)(ho:ķ X (compareOp op) r)(ha:PE X a (tR (kk X cm) E ma))(hb:PE X b (tR (kk X cm) E mb))(hm:behindInMarks op b=false):PT X (.Compare a [op] [b] pos) (tB (kk X cm) E (iU (Ć f ma mb))):=
 PT.wk (wH ho ha hb hm) fun σ H Q h=>by
   obtain⟨c,F,ρ,rel,h⟩:=zM h
   exact jD hf ⟨c,F,ρ,rel,h⟩
def aQ(m:M Bool):M Bool:=λρ=>(m ρ).bind λb ρ1=>.ok (!b) ρ1
def dG{m:M Bool}(h:PT X a (tB (kk X cm) E m)):PT X (.UnaryOp .Not a pos) (tB (kk X cm) E (aQ m)):=PT.wk (vG h) λσ H Q ⟨c,F,ρ,rel,h⟩=>
 ⟨c,F,ρ,rel,h.bind λp ρ1 v F1 H1 Ă _ _ r1 h1=>h1 _ F1 H1 Ă (Same.refl _) (Same.refl _) (by have e:p=v:=r1;rw[e];rfl)⟩
def gF(ma mb:M Bool):M Bool:=λρ=>(ma ρ).bind λb ρ1=>if b=true then .ok true ρ1 else mb ρ1
variable{ta tb:M Bool}{rest:List Expr}
def jE(h:PT X a (tB (kk X cm) E ta)):PW X (.BoolOp .Or [a] pos) (tB (kk X cm) E ta):=vD h
def w_or(ha:PT X a (tB (kk X cm) E ta))(hb:PW X (.BoolOp .Or (b::rest) pos) (tB (kk X cm) E tb)):PW X (.BoolOp .Or (a::b::rest) pos) (tB (kk X cm) E (gF ta tb)):=PW.wk (yJ ha hb) λσ H Q ⟨c,F,ρ,rel,h⟩=>
 ⟨c,F,ρ,rel,h.bind fun p ρ1 v F1 H1 Ă _ _ r1 h1=>by
   have e:p=v:=r1
   subst e
   cases p with
   |false=>exact⟨c,F1,ρ1,Ă,h1⟩
   |true=>exact h1 true F1 H1 Ă (Same.refl _) (Same.refl _) rfl⟩
def nU(ma mb:M PV):M PV:=λρ=>(ma ρ).bind λp ρ1=>match p with
 | .bl true=>mb ρ1
 | .bl false=>.ok (.bl false) ρ1
 |_=>.bad
def nW{K:KK}{F:Hp}{b:Bool}{v:V}(h:Rep K F (.bl b) v):v=.bl b:=by unfold Rep at h;exact h
def zN{op}(h:PE X a (tV (kk X cm) E ma)):PE X (.BoolOp op [a] pos) (tV (kk X cm) E ma):=vH h
def v_and(ha:PE X a (tV (kk X cm) E ma))(hb:PE X (.BoolOp .And (b::rest) pos) (tV (kk X cm) E mb)):PE X (.BoolOp .And (a::b::rest) pos) (tV (kk X cm) E (nU ma mb)):=PE.wk (wI ha hb) λσ H Q ⟨c,F,ρ,rel,h⟩=>
 ⟨c,F,ρ,rel,h.bind fun p ρ1 v F1 H1 Ă _ _ r1 h1=>by
   cases p with
   |bl k=>
    cases nW r1
    cases k with
    |true=>exact⟨c,F1,ρ1,Ă,h1⟩
    |false=>exact h1 _ F1 H1 Ă (Same.refl _) (Same.refl _) r1
   |_=>exact h1.elim⟩
def mz{α:Type}(t:M Bool)(ma mb:M α):M α:= λρ=>(t ρ).bind λb ρ1=>if b=true then ma ρ1 else mb ρ1
def Ġ:M (List PV):=λρ=>.ok [] ρ
def Ĉ(ma:M PV)(mr:M (List PV)):M (List PV):=λρ=>(ma ρ).bind λp ρ1=>(mr ρ1).bind λps ρ2=>.ok (p::ps) ρ2
variable{mr:M (List PV)}
def Ś:PA X [] (tL (kk X cm) E Ġ):=PA.wk dY λσ H Q ⟨c,F,ρ,rel,h⟩=>h [] F H rel (Same.refl _) (Same.refl _) ā.nil
def İ(ha:PE X e (tV (kk X cm) E ma))(hr:PA X es (tL (kk X cm) E mr))(hs:starEach (e::es) X.env=(false,eval e X.env)::starEach es X.env:=by exact aj rfl):PA X (e::es) (tL (kk X cm) E (Ĉ ma mr)):=PA.wk (Ž ha hr hs) λσ H Q ⟨c,F,ρ,rel,h⟩=>
 ⟨c,F,ρ,rel,h.bind λp ρ1 v F1 H1 Ă _ _ r1 h1=>⟨c,F1,ρ1,Ă,h1.bind λps ρ2 vs F2 H2 ď sF sH r2 h2=>h2 _ F2 H2 ď (Same.refl _) (Same.refl _) (ā.cons (Rep.same sF p v r1) r2)⟩⟩
def ı:PA X [] (wZ (kk X cm) E Ġ):=PA.wk dY λσ H Q ⟨c,F,ρ,rel,h⟩=>h [] F H rel (Same.refl _) (Same.refl _) .nil
def č(ha:PE X e (tR (kk X cm) E ma))(hr:PA X es (wZ (kk X cm) E mr))(hs:starEach (e::es) X.env=(false,eval e X.env)::starEach es X.env:=by exact aj rfl):PA X (e::es) (wZ (kk X cm) E (Ĉ ma mr)):=PA.wk (Ž ha hr hs) λσ H Q ⟨c,F,ρ,rel,h⟩=>
 ⟨c,F,ρ,rel,h.bind λp ρ1 v F1 H1 Ă _ _ r1 h1=>⟨c,F1,ρ1,Ă,h1.bind λps ρ2 vs F2 H2 ď sF sH r2 h2=>h2 _ F2 H2 ď (Same.refl _) (Same.refl _) (.cons (rR.mono r1 sF sH) r2)⟩⟩
def ħ:M (List Slot):=λρ=>.ok [] ρ
def ś(ma:M PV)(mr:M (List Slot)):M (List Slot):=λρ=>(ma ρ).bind λp ρ1=>(mr ρ1).bind λas ρ2=>.ok (.sh p::as) ρ2
def Ŝ:Slot->Option Slot
 | .sh p=>some (.sh p)
 | .ow ps=>some (.bw ps)
 | .bw ps=>some (.bw ps)
 |_=>none
def ċ(i:Nat)(mr:M (List Slot)):M (List Slot):=λρ=>match(ρ[i]?).bind Ŝ with
 |none=>.bad
 |some _=>(mr ρ).bind λas ρ2=>match(ρ2[i]?).bind Ŝ with
  |some s=>.ok (s::as) ρ2
  |none=>.bad
variable{ms:M (List Slot)}
def ġ:PA X [] (tA (kk X cm) E ħ):=PA.wk dY λσ H Q ⟨c,F,ρ,rel,h⟩=>h [] F H rel (Same.refl _) (Same.refl _) .nil
def ŧ(ha:PE X e (tV (kk X cm) E ma))(hr:PA X es (tA (kk X cm) E ms))(hs:starEach (e::es) X.env=(false,eval e X.env)::starEach es X.env:=by exact aj rfl):PA X (e::es) (tA (kk X cm) E (ś ma ms)):=PA.wk (Ž ha hr hs) λσ H Q ⟨c,F,ρ,rel,h⟩=>
 ⟨c,F,ρ,rel,h.bind λp ρ1 v F1 H1 Ă _ _ r1 h1=>⟨c,F1,ρ1,Ă,h1.bind λas ρ2 vs F2 H2 ď sF sH r2 h2=>h2 _ F2 H2 ď (Same.refl _) (Same.refl _) (.cons (show ŭ _ _ _ (.sh p) v from Rep.same sF p v r1) r2)⟩⟩
def jF{K:KK}{c:Ctx}{F H:Hp}{σ:L2.St}{ρ:Đ}{i:Nat}{s:Slot}(rel:Rel K c F H σ ρ)(h:(ρ[i]?).bind Ŝ=some s):∃v,σ[i]?=some (some v)/\ŭ K F H s v:=by
 cases e:ρ[i]? with
 |none=>rw[e] at h;cases h
 |some sl=>
  rw[e] at h
  have h':Ŝ sl=some s:=h
  cases sl with
  |sh p=>
   cases h'
   obtain⟨v,h1,h2⟩:=rel.slot i _ e
   exact⟨v,at_of h1,h2⟩
  |ow ps=>
   cases h'
   obtain⟨a,vs,h1,h2,h3,h4,h5,_⟩:=rel.ow e
   exact⟨.ref a,h1,a,vs,rfl,h2,h3,h5⟩
  |bw ps=>
   cases h'
   obtain⟨a,vs,h1,h2,h3⟩:=rel.slot i _ e
   exact⟨.ref a,at_of h1,a,vs,rfl,(rel.lent a _ h2).1,(rel.lent a _ h2).2,h3⟩
  |no=>cases h'
  |rc C ns ps=>cases h'
  |ot ps qs rs=>cases h'
  |ol qD=>cases h'
  |od _ _=>cases h'
  |bd _ _=>cases h'
def rZ(i:Nat){x:Str}{px:Pos}(hN:X.N[i]?=some x:=by rfl)(hv:mq X.env.scope x:=by first|exact Or.inl rfl|exact Or.inr (Or.inl rfl)|exact Or.inr (Or.inr rfl))(hd:(x== ("__debug__" :Str))=false:=by decide)
 (hcd:(x== ("__classdict__" :Str))=false:=by decide)(hr:PA X es (tA (kk X cm) E ms))(hs:starEach (.Name x px::es) X.env=(false,eval (.Name x px) X.env)::starEach es X.env:=by exact aj rfl):PA X (.Name x px::es) (tA (kk X cm) E (ċ i ms)):=
 PA.wk (Ž (ų hN hv hd hcd) hr hs) fun σ H Q ⟨c,F,ρ,rel,h⟩=>by
   unfold ċ at h
   cases e:(ρ[i]?).bind Ŝ with
   |none=>rw[e] at h;exact h.elim
   |some s0=>
    rw[e] at h
    obtain⟨v,hv,_⟩:=jF rel e
    refine⟨v,hv,c,F,ρ,rel,Ŏ.bind h λas ρ2 vs F2 H2 ď sF sH r2 h2=>?_⟩
    cases e2:(ρ2[i]?).bind Ŝ with
    |none=>simp only[e2] at h2;exact h2.elim
    |some s=>
     simp only[e2] at h2
     obtain⟨v',hv',r1⟩:=jF ď e2
     rw[hv] at hv'
     cases hv'
     exact h2 _ F2 H2 ď (Same.refl _) (Same.refl _) (.cons r1 r2)
def cT(mr:M (List PV)):M PV:=λρ=>(mr ρ).bind λps ρ1=>if ps.length<=16777216 then .ok (.tup ps) ρ1 else .bad
def nY(mr:M (List PV)):M RV:=λρ=>(mr ρ).bind λps ρ1=>if ps.length<=16777216 then .ok (.ow ps) ρ1 else .bad
def Ċ:sizeLine=16777216:=sizeLine_eq
def jG{x1}(h:PA X es (tL (kk X cm) E mr)):PE X (.Tuple es x1 pos) (tV (kk X cm) E (cT mr)):=PE.wk (wg h) λσ H Q ⟨c,F,ρ,rel,h⟩=>
 ⟨c,F,ρ,rel,h.bind fun ps ρ1 vs F1 H1 Ă _ _ r1 h1=>by
   split at h1
   ·rename_i hz
    refine⟨by rw[<-ā.length r1,Ċ];exact hz,λp hp=>h1 _ _ _ (Ă.alloc hp) (Same.upd (Ă.sub.free hp)) (Same.upd hp) ?_⟩
    show Rep _ _ _ _
    unfold Rep
    exact⟨p,vs,rfl,Ŭ.of ĉ,ā.same (Same.upd (Ă.sub.free hp)) ps vs r1⟩
   ·exact h1.elim⟩
def ņ{K:KK}{c:Ctx}{F H:Hp}{σ:L2.St}{ρ:Đ}{ps:List PV}{vs:List V}{a:Addr}(rel:Rel K c F H σ ρ)(ha:H a=none)(r:ā K F ps vs):Rel K c F (upd H a (.lst vs)) σ ρ/\Held K c σ ρ F (upd H a (.lst vs)) ps (.ref a):=
 ⟨rel.made ha,a,vs,rfl,ĉ,rel.sub.free ha,rel.base.free ha,rel.fresh ha,r⟩
def nZ(h:PA X es (tL (kk X cm) E mr)):PE X (.List es pos) (tO (kk X cm) E (nY mr)):=PE.wk (wj h) λσ H Q ⟨c,F,ρ,rel,h⟩=>
 ⟨c,F,ρ,rel,h.bind fun ps ρ1 vs F1 H1 Ă _ _ r1 h1=>by
   split at h1
   ·rename_i hz
    refine⟨by rw[<-ā.length r1,Ċ];exact hz,λp hp=>?_⟩
    obtain⟨q1,q2⟩:=ņ Ă hp r1
    exact h1 _ _ _ q1 (Same.refl _) (Same.upd hp) q2
   ·exact h1.elim⟩
def iV(f:List PV->Option PV)(mr:M (List PV)):M PV:=λρ=>(mr ρ).bind λps ρ1=>Res.iC (f ps) ρ1
def su(f:List PV->Option RV)(mr:M (List PV)):M RV:=λρ=>(mr ρ).bind λps ρ1=>Res.iC (f ps) ρ1
def gG(K:KK)(r:List V->Hp->VK->Prop)(f:List PV->Option PV):Prop:=∀{c:Ctx} {F H:Hp} {σ:L2.St} {ρ:Đ} {ps:List PV} {pv:PV} {vs:List V} {Q:VK},Rel K c F H σ ρ->zG K c σ ρ F H ps vs->f ps=some pv->
 (∀z F' H',Rel K c F' H' σ ρ->Same F F'->Same H H'->Rep K F' pv z->Q z H')->r vs H Q
def n_(K:KK)(r:List V->Hp->VK->Prop)(f:List PV->Option RV):Prop:=∀{c:Ctx} {F H:Hp} {σ:L2.St} {ρ:Đ} {ps:List PV} {pv:RV} {vs:List V} {Q:VK},Rel K c F H σ ρ->zG K c σ ρ F H ps vs->f ps=some pv->
 (∀z F' H',Rel K c F' H' σ ρ->Same F F'->Same H H'->rO K c σ ρ F' H' pv z->Q z H')->r vs H Q
def FP{r:List V->Hp->VK->Prop}{f:List PV->Option PV}(hf:gG (kk X cm) r f){σ:L2.St}{H:Hp}{Q:VK}(h:tV (kk X cm) E (iV f mr) σ H Q):CP r (wZ (kk X cm) E mr) σ H Q:=by
 obtain⟨c,F,ρ,rel,h⟩:=h
 refine⟨c,F,ρ,rel,h.bind λp ρ1 v F1 H1 Ă _ _ r1 h1=>?_⟩
 cases e:f p with
 |none=>rw[e] at h1;exact h1.elim
 |some pv=>rw[e] at h1;exact hf Ă r1 e λz F' H' Ő s1 s2 q'=>h1 z F' H' Ő s1 s2 q'
def FQ{r:List V->Hp->VK->Prop}{f:List PV->Option RV}(hf:n_ (kk X cm) r f){σ:L2.St}{H:Hp}{Q:VK}(h:tO (kk X cm) E (su f mr) σ H Q):CP r (wZ (kk X cm) E mr) σ H Q:=by
 obtain⟨c,F,ρ,rel,h⟩:=h
 refine⟨c,F,ρ,rel,h.bind λp ρ1 v F1 H1 Ă _ _ r1 h1=>?_⟩
 cases e:f p with
 |none=>rw[e] at h1;exact h1.elim
 |some pv=>rw[e] at h1;exact hf Ă r1 e λz F' H' Ő s1 s2 q'=>h1 z F' H' Ő s1 s2 q'
end
end P
namespace P
open PySem PySem.Spec PyProof.Rows L2 M2 M3
def oh:M Fl:=λρ=>.ok .nx ρ
def Ğ(a b:M Fl):M Fl:=λρ=>(a ρ).bind λf ρ1=>match f with
 | .nx=>b ρ1
 |f=>.ok f ρ1
def ĸ(i:Nat)(m:M RV):M Fl:=λρ=>(m ρ).bind λr ρ1=>.ok .nx (ρ1.set i r.slot)
def Ń(m:M RV):M Fl:=λρ=>(m ρ).bind λr ρ1=>.ok (.rt r) ρ1
section
variable{X:Cx}{cm:String->Addr}{E:L2.St->XK}{a b e:Expr}{st:Stmt}{rest:List Stmt}{es:List Expr}{pos:Pos}{m1 m2:M Fl}{mo:M RV}{mv:M PV}
def ŝ:ź X [] (tS (kk X cm) E oh):=ź.wk qN λD σ H ⟨c,F,ρ,rel,h⟩=>h σ F H rel (Same.refl F)
def Ĳ(h:PS X st (tS (kk X cm) E m1)):ź X [st] (tS (kk X cm) E m1):=qO h
def sy{c:Ctx}{F:Hp}{D:Ends}{r:Res Fl}(h:ģ (kk X cm) E c F D (r.bind λf ρ1=>match f with| .nx=>m2 ρ1|f=>.ok f ρ1)):ģ (kk X cm) E c F {D with nx:=tS (kk X cm) E m2 D} r:=by
 cases r with
 |ok f ρ1=>
  cases f with
  |nx=>exact λσ' F' H' Ő s=>⟨c,F',ρ1,Ő,ģ.mono h s⟩
  |bk=>exact h
  |ct=>exact h
  |rt v=>exact h
 |exc x ρ1=>exact h
 |bad=>exact h
def ē(h1:PS X st (tS (kk X cm) E m1))(h2:ź X rest (tS (kk X cm) E m2)):ź X (st::rest) (tS (kk X cm) E (Ğ m1 m2)):=ź.wk (mJ h1 h2) λD σ H ⟨c,F,ρ,rel,h⟩=>⟨c,F,ρ,rel,sy h⟩
def zO{i:Nat}{x:Str}{pos':Pos}(hN:X.N.Nodup)(hi:X.N[i]?=some x)(hx:Loc X.env.scope x)(he:PE X e (tO (kk X cm) E mo))(hs:swapsWith e (some (.Name x pos')) pos.line X.env=pure false:=by rfl)(hf:X.fn x=true\/X.env.scope.names.lookup x=some .local:=by first|exact .inl rfl|exact .inr rfl|assumption) :
 PS X (.Assign [.Name x pos'] e pos) (tS (kk X cm) E (ĸ i mo)):=PS.wk (vK hN hi hx he hs hf) λD σ H ⟨c,F,ρ,rel,h⟩=>⟨c,F,ρ,rel,ģ.bind h λr ρ1 v F1 H1 Ă s1 q h1=>by
 cases r with
 |sh p=>exact h1 _ F1 H1 (Ă.put rfl ⟨v,rfl,q⟩) (Same.refl _)
 |ow ps=>
  obtain⟨a,vs,rfl,q1,q2,q3,q4,q5⟩:=q
  exact h1 _ F1 H1 (Ă.zy ⟨a,vs,rfl,q1,q2,q3,q5⟩ λ_ z=>V.ref.inj z▸q4) (Same.refl _)
 |ot ps qs rs=>
  obtain⟨p,a,xs,vs,ys,rfl,q0,qx,q1,q2,q3,q4,q5,q6⟩:=q
  exact h1 _ F1 H1 (Ă.zy (s:=.ot ps qs rs) ⟨p,a,xs,vs,ys,rfl,q0,qx,q1,q2,q3,q5,q6⟩ λ_ z=>fj (ps:=ps) (qs:=qs) (rs:=rs) z ⟨p,xs,ys,rfl,q0,qx.length.symm⟩▸q4) (Same.refl _)⟩
def zP(he:PE X e (tO (kk X cm) E mo)):PS X (.Return (some e) pos) (tS (kk X cm) E (Ń mo)):=PS.wk (vI he) λD σ H ⟨c,F,ρ,rel,h⟩=>⟨c,F,ρ,rel,ģ.bind h λr ρ1 v F1 H1 Ă s1 q h1=>h1 v σ F1 H1 Ă (Same.refl _) q⟩
def fB{t:M Bool}{ss ss':List Stmt}(hc:PT X a (tB (kk X cm) E t))(ha:ź X ss (tS (kk X cm) E m1))(hb:ź X ss' (tS (kk X cm) E m2)):PS X (.If a ss ss' pos) (tS (kk X cm) E (mz t m1 m2)):=PS.wk (yL hc ha hb) λD σ H ⟨c,F,ρ,rel,h⟩=>⟨c,F,ρ,rel,ģ.bind h λr ρ1 v F1 H1 Ă s1 q h1=>by
 have e:r=v:=q
 subst e
 cases r with
 |true=>exact⟨c,F1,ρ1,Ă,h1⟩
 |false=>exact⟨c,F1,ρ1,Ă,h1⟩⟩
abbrev Tg:=PV->Đ->Option Đ
abbrev mD:=List PV->Đ->Option Đ
def zQ(K:KK)(c:Ctx)(F H:Hp)(Q:L2.St->Hp->Prop):Option Đ->Prop
 |some ρ'=>∀σ',Rel K c F H σ' ρ'->Q σ' H
 |none=>False
def tT(K:KK)(g:Tg):TG:=λv σ H Q=>∃c F ρ p,Rel K c F H σ ρ/\Rep K F p v/\zQ K c F H Q (g p ρ)
def zR(K:KK)(g:mD):mK:=λv σ H Q=>∃c F ρ p,Rel K c F H σ ρ/\ā K F p v/\zQ K c F H Q (g p ρ)
def gN(i:Nat):Tg:=λp ρ=>some (ρ.set i (.sh p))
def bM:mD:=λps ρ=>match ps with
 | []=>some ρ
 |_=>none
def ī(g:Tg)(gs:mD):mD:=λps ρ=>match ps with
 |p::ps=>(g p ρ).bind λρ1=>gs ps ρ1
 | []=>none
def gT(n:Nat)(gs:mD):Tg:=λp ρ=>match p with
 | .tup ps=>if ps.length=n then gs ps ρ else none
 |_=>none
def PG.Iw{tg:Expr}{t t':TG}(h:PG X tg t)(i:∀v σ H Q,t' v σ H Q->t v σ H Q):PG X tg t':=λpins s σ H v u Q I r q=>h pins s σ H v u Q I r (i v σ H Q q)
def iB.wk{tg:List Expr}{t t':mK}(h:iB X tg t)(i:∀v σ H Q,t' v σ H Q->t v σ H Q):iB X tg t':=λpins s σ H v u Q I r q=>h pins s σ H v u Q I r (i v σ H Q q)
def ou{i:Nat}{x:Str}(hN:X.N.Nodup)(hi:X.N[i]?=some x)(hx:Loc X.env.scope x)(hf:X.fn x=true\/X.env.scope.names.lookup x=some .local:=by first|exact .inl rfl|exact .inr rfl|assumption):PG X (.Name x pos) (tT (kk X cm) (gN i)):=
 PG.Iw (qQ hN hi hx hf) λv σ H Q ⟨c,F,ρ,p,rel,rp,h⟩=>h _ (rel.put rfl ⟨v,rfl,rp⟩)
def oA:iB X [] (zR (kk X cm) bM):=iB.wk qR λv σ H Q ⟨c,F,ρ,p,rel,rp,h⟩=>by
 cases p with
 |nil=>
  have e:v=[]:=by have:=rp;unfold ā at this;exact this
  exact⟨e,h σ rel⟩
 |cons _ _=>exact h.elim
def bh{es:List Expr}{g:Tg}{gs:mD}(h1:PG X e (tT (kk X cm) g))(h2:iB X es (zR (kk X cm) gs))(hs:(assignEach (e::es) X.env).map (·.2)=assign e X.env::(assignEach es X.env).map (·.2):=by rfl):iB X (e::es) (zR (kk X cm) (ī g gs)):=
 iB.wk (mL h1 h2 hs) λv σ H Q ⟨c,F,ρ,p,rel,rp,h⟩=>by
  cases p with
  |nil=>exact h.elim
  |cons p ps=>
   unfold ā at rp
   obtain⟨x,r,rfl,r1,r2⟩:=rp
   refine⟨x,r,rfl,c,F,ρ,p,rel,r1,?_⟩
   unfold ī at h
   dsimp only at h
   cases eg:g p ρ with
   |none=>rw[eg] at h;exact h.elim
   |some ρ1=>rw[eg] at h;exact λσ' Ő=>⟨c,F,ρ1,ps,Ő,r2,h⟩
def zT{es:List Expr}{k:Nat}{gs:mD}{n:Nat}(hc:X.calm=true)(h:iB X es (zR (kk X cm) gs))(hn:(assignEach es X.env).length=n:=by rfl)(hst:(assignEach es X.env).findIdx? (·.1)=none:=by rfl):PG X (.Tuple es k pos) (tT (kk X cm) (gT n gs)):=
 PG.Iw (mO hc h hn hst) fun v σ H Q ⟨c,F,ρ,p,rel,rp,h⟩=>by
   cases p with
   |tup ps=>
    unfold Rep at rp
    obtain⟨a,xs,h1,h2,h3⟩:=rp
    unfold gT at h
    dsimp only at h
    split at h
    ·rename_i hl
     exact⟨a,xs,h1,Same.tup rel.sub h2,by rw[<-h3.length];exact hl,c,F,ρ,ps,rel,h3,h⟩
    ·exact h.elim
   |_=>exact h.elim
def sE(g:Tg)(m:M PV):M Fl:=λρ=>(m ρ).bind λp ρ1=>match g p ρ1 with
 |some ρ2=>.ok .nx ρ2
 |none=>.bad
def zU{tg:Expr}{g:Tg}(he:PE X e (tV (kk X cm) E mv))(hg:PG X tg (tT (kk X cm) g))(hs:swapsWithSole [tg] e pos.line X.env=pure false:=by rfl)(hw:swappedStores [tg] e X.env=pure none:=by rfl)
 (h1:(assignEach [tg] X.env).map (·.2)=[assign tg X.env]:=by rfl):PS X (.Assign [tg] e pos) (tS (kk X cm) E (sE g mv)):=PS.wk (vJ he hg hs hw h1) λD σ H ⟨c,F,ρ,rel,h⟩=>⟨c,F,ρ,rel,ģ.bind h λr ρ1 v F1 H1 Ă s1 q h1=>by
 refine⟨c,F1,ρ1,r,Ă,q,?_⟩
 cases eg:g r ρ1 with
 |none=>rw[eg] at h1;exact h1.elim
 |some ρ2=>rw[eg] at h1;exact λσ' Ő=>h1 σ' F1 H1 Ő (Same.refl _)⟩
def oE(i:Nat)(m:M PV):M Fl:=λρ=>match ρ[i]? with
 |some (.ow _)=>(m ρ).bind λp ρ1=>match ρ1[i]? with
  |some (.ow ps)=>if ps.length<16777216 then .ok .nx (ρ1.set i (.ow (ps ++ [p]))) else .bad
  |_=>.bad
 |_=>.bad
def sG{i:Nat}{D:Ends}{σ:L2.St}{H:Hp}(h:tS (kk X cm) E (oE i mv) D σ H):uy (Io X.K "list" ju (qL i) (tL (kk X cm) E (Ĉ mv Ġ))) D σ H:=by
 obtain⟨c,F,ρ,rel,h⟩:=h
 unfold oE at h
 cases e1:ρ[i]? with
 |none=>rw[e1] at h;exact h.elim
 |some sl=>
  rw[e1] at h
  cases sl with
  |ow Kp=>
   obtain⟨a,Kq,z1,z2,z3,z4,z5,z6⟩:=rel.ow e1
   refine⟨.ref a,z1,.inl ⟨rfl,_,Ľ.of z2⟩,c,F,ρ,rel,?_⟩
   dsimp only at h
   unfold Ĉ
   cases em:mv ρ with
   |bad=>rw[em] at h;exact h
   |exc x ρ1=>rw[em] at h;exact λC d F' H' Ő s1 q=>h σ C d F' H' Ő s1 q
   |ok p ρ1=>
    rw[em] at h
    intro us F1 H1 Ă s1 s2 r1
    have r1':ā (kk X cm) F1 [p] us:=r1
    cases r1'.pr with
    |cons rp t=>
     rename_i v vs'
     cases t
     cases e2:ρ1[i]? with
     |none=>simp only[Res.Ŧ,e2] at h;exact h.elim
     |some sl2=>
      simp only[Res.Ŧ,e2] at h
      cases sl2 with
      |ow ps=>
       obtain⟨a2,vs,w1,w2,w3,w4,w5,w6⟩:=Ă.ow e2
       rw[z1] at w1
       cases w1
       dsimp only at h
       split at h
       ·rename_i hz
        refine⟨a,vs,v,rfl,rfl,w2,by rw[<-w5.length,Ċ];exact hz,h σ F1 _ (Ă.write w6 z1 ⟨a,vs ++ [v],rfl,ĉ,w3,w4,ā.append w5 (ā.cons rp ā.nil)⟩ λ_ z=>(V.ref.inj z).symm) s1⟩
       ·exact h.elim
      |_=>exact h.elim
  |_=>exact h.elim
def ć(mc:M Bool)(mb:M Fl):Nat->Đ->Res Fl
 |0,_=>.bad
 |n+1,ρ=>(mc ρ).bind λb ρ1=>if b=true then(mb ρ1).bind λf ρ2=>match f with
  | .nx=>ć mc mb n ρ2
  | .ct=>ć mc mb n ρ2
  | .bk=>.ok .nx ρ2
  | .rt r=>.ok (.rt r) ρ2 else .ok .nx ρ1
theorem Ė{mc:M Bool}{mb:M Fl}(n:Nat)(ρ:Đ):ć mc mb (n+1) ρ=(mc ρ).bind λb ρ1=>if b=true then(mb ρ1).bind λf ρ2=>match f with
 | .nx=>ć mc mb n ρ2
 | .ct=>ć mc mb n ρ2
 | .bk=>.ok .nx ρ2
 | .rt r=>.ok (.rt r) ρ2 else .ok .nx ρ1:=rfl
open Classical in
noncomputable def ė(mc:M Bool)(mb:M Fl):M Fl:=λρ=>if h:∃n,ć mc mb n ρ≠ .bad then ć mc mb (Classical.choose h) ρ else .bad
theorem Ş{mc:M Bool}{mb:M Fl}:∀(n:Nat) (ρ:Đ),ć mc mb n ρ≠ .bad->ć mc mb (n+1) ρ=ć mc mb n ρ
 |0,ρ,h=>absurd rfl h
 |n+1,ρ,h=>by
  rw[Ė] at h
  rw[Ė (n+1),Ė n]
  cases e:mc ρ with
  |bad=>rfl
  |exc x ρ1=>rfl
  |ok b ρ1=>
   rw[e] at h
   simp only[Res.Ŧ] at h ⊢
   cases b with
   |false=>rfl
   |true=>
    simp only[if_true] at h ⊢
    cases e2:mb ρ1 with
    |bad=>rfl
    |exc x ρ2=>rfl
    |ok f ρ2=>
     rw[e2] at h
     simp only[Res.Ŧ] at h ⊢
     cases f with
     |nx=>exact Ş n ρ2 h
     |ct=>exact Ş n ρ2 h
     |bk=>rfl
     |rt r=>rfl
def dH{mc:M Bool}{mb:M Fl}{n m:Nat}{ρ:Đ}(h:ć mc mb n ρ≠ .bad)(hm:n<=m):ć mc mb m ρ=ć mc mb n ρ:= by
 induction hm with
 |refl=>rfl
 |step _ ih=>rw[Ş _ _ (by rw[ih];exact h),ih]
def ę{mc:M Bool}{mb:M Fl}{ρ:Đ}(n:Nat)(h:ć mc mb n ρ≠ .bad):ė mc mb ρ=ć mc mb n ρ:= by
 unfold ė
 have hx:∃n,ć mc mb n ρ≠ .bad:=⟨n,h⟩
 rw[dif_pos hx]
 have hc:=Classical.choose_spec hx
 rcases Nat.le_total n (Classical.choose hx) with hle|hle
 ·exact dH h hle
 ·exact(dH hc hle).symm
theorem ş{mc:M Bool}{mb:M Fl}{ρ:Đ}:ė mc mb ρ=(mc ρ).bind λb ρ1=>if b=true then(mb ρ1).bind λf ρ2=>match f with
 | .nx=>ė mc mb ρ2
 | .ct=>ė mc mb ρ2
 | .bk=>.ok .nx ρ2
 | .rt r=>.ok (.rt r) ρ2 else .ok .nx ρ1:=by
 have go:∀ρ2,ė mc mb ρ2=.bad\/∃n,ė mc mb ρ2=ć mc mb n ρ2/\ć mc mb n ρ2≠ .bad:=λρ2=>by
  by_cases hx:∃n,ć mc mb n ρ2≠ .bad
  ·obtain⟨n,h⟩:=hx
   exact .inr ⟨n,ę n h,h⟩
  ·left;unfold ė;rw[dif_neg hx]
 have FT:∀ρ2,ė mc mb ρ2=.bad->∀n,ć mc mb n ρ2=.bad:=λρ2 h n=>by
  refine Classical.byContradiction λz=>?_
  rw[ę n z] at h
  exact z h
 have fin:∀n,ć mc mb (n+1) ρ≠ .bad->ė mc mb ρ=ć mc mb (n+1) ρ:= λn h=>ę _ h
 cases e:mc ρ with
 |bad=>rcases go ρ with h|⟨n,h1,h2⟩
       ·rw[h];rfl
       ·cases n with
        |zero=>exact absurd rfl h2
        |succ n=>rw[Ė,e] at h2;exact absurd rfl h2
 |exc x ρ1=>
  have h:ć mc mb 1 ρ=.exc x ρ1:=by rw[Ė,e];rfl
  rw[ę 1 (by rw[h];intro z;cases z),h];rfl
 |ok b ρ1=>
  simp only[Res.Ŧ]
  cases b with
  |false=>
   have h:ć mc mb 1 ρ=.ok .nx ρ1:=by rw[Ė,e];rfl
   rw[ę 1 (by rw[h];intro z;cases z),h];rfl
  |true=>
   simp only[if_true]
   have one:∀n,ć mc mb (n+1) ρ=(mb ρ1).bind λf ρ2=>match f with
    | .nx=>ć mc mb n ρ2
    | .ct=>ć mc mb n ρ2
    | .bk=>.ok .nx ρ2
    | .rt r=>.ok (.rt r) ρ2:=λn=>by rw[Ė,e];rfl
   cases e2:mb ρ1 with
   |bad=>
    rcases go ρ with h|⟨n,h1,h2⟩
    ·rw[h];rfl
    ·cases n with
     |zero=>exact absurd rfl h2
     |succ n=>rw[one,e2] at h2;exact absurd rfl h2
   |exc x ρ2=>
    have h:ć mc mb 1 ρ=.exc x ρ2:=by rw[one,e2];rfl
    rw[ę 1 (by rw[h];intro z;cases z),h];rfl
   |ok f ρ2=>
    have turn:(∀n,ć mc mb (n+1) ρ=ć mc mb n ρ2)->ė mc mb ρ=ė mc mb ρ2:=λhn=>by
     rcases go ρ2 with h|⟨n,h1,h2⟩
     ·rcases go ρ with h'|⟨n,h1,h2⟩
      ·rw[h,h']
      ·cases n with
       |zero=>exact absurd rfl h2
       |succ n=>rw[hn,FT ρ2 h n] at h2;exact absurd rfl h2
     ·rw[h1,<-hn n]
      exact fin n (by rw[hn n];exact h2)
    cases f with
    |nx=>exact turn λn=>by rw[one,e2];rfl
    |ct=>exact turn λn=>by rw[one,e2];rfl
    |bk=>
     have h:ć mc mb 1 ρ=.ok .nx ρ2:=by rw[one,e2];rfl
     rw[ę 1 (by rw[h];intro z;cases z),h];rfl
    |rt r=>
     have h:ć mc mb 1 ρ=.ok (.rt r) ρ2:=by rw[one,e2];rfl
     rw[ę 1 (by rw[h];intro z;cases z),h];rfl
def sI{c:Expr}{body:List Stmt}{mc:M Bool}{mb:M Fl}(hp:PassesOwn (model X.prog X.w) X.A X.env X.xe)(hc:PT X c (tB (kk X cm) E mc))(hb:ź X body (tS (kk X cm) E mb)):PS X (.While c body [] pos) (tS (kk X cm) E (ė mc mb)):=PS.wk (mQ hp hc hb) λD σ H ⟨c,F,ρ,rel,h⟩=>by
 obtain⟨n,hn⟩:∃n,ģ (kk X cm) E c F D (ć mc mb n ρ):=by
  by_cases hx:∃n,ć mc mb n ρ≠ .bad
  ·obtain⟨n,hn⟩:=hx
   rw[ę n hn] at h
   exact⟨n,h⟩
  ·unfold ė at h
   rw[dif_neg hx] at h
   exact h.elim
 refine⟨λm σ' H'=>∃F2 ρ2,Rel (kk X cm) c F2 H' σ' ρ2/\Same F F2/\ģ (kk X cm) E c F2 D (ć mc mb m ρ2),⟨n,F,ρ,rel,Same.refl _,hn⟩,?_⟩
 rintro m σ1 H1 ⟨F1,ρ1,Ă,s1,h1⟩
 cases m with
 |zero=>exact h1.elim
 |succ m=>
  rw[Ė] at h1
  refine⟨c,F1,ρ1,Ă,ģ.bind h1 λk ρ2 v F2 H2 ď s2 q h2=>?_⟩
  have e:k=v:=q
  subst e
  cases k with
  |false=>
   rw[if_neg Bool.false_ne_true]
   rw[if_neg Bool.false_ne_true] at h2
   exact h2 σ1 F2 H2 ď (Same.refl _)
  |true=>
   rw[if_pos rfl]
   rw[if_pos rfl] at h2
   refine⟨_,λσ' H' z=>z,c,F2,ρ2,ď,?_⟩
   have nxt:∀{ρ3:Đ},ģ (kk X cm) E c F2 D (ć mc mb m ρ3)->∀σ' F' H',Rel (kk X cm) c F' H' σ' ρ3->Same F2 F'->∃m',m'<m+1/\∃F2 ρ2,Rel (kk X cm) c F2 H' σ' ρ2/\Same F F2/\ģ (kk X cm) E c F2 D (ć mc mb m' ρ2):=
    fun{ρ3} h3 σ' F' H' Ő s'=>⟨m,Nat.lt_succ_self m,F',ρ3,Ő,(s1.trans s2).trans s',ģ.mono h3 s'⟩
   cases e2:mb ρ2 with
   |bad=>rw[e2] at h2;exact h2
   |exc x ρ3=>rw[e2] at h2;exact h2
   |ok f ρ3=>
    rw[e2] at h2
    cases f with
    |nx=>exact nxt h2
    |ct=>exact nxt h2
    |bk=>exact h2
    |rt r=>exact h2
def sJ(K:KK)(Lh F:Hp)(J:It)(items:List PV):Prop:=∀(c:Ctx) (i:Nat) (F2 H:Hp) (σ:L2.St) (ρ:Đ),Rel K c F2 H σ ρ->Same F F2->Same Lh H->
 (∀p,items[i]?=some p->J.go i H/\∀x H',J.CJ i H x H'->∃F3,Rel K c F3 H' σ ρ/\Same F2 F3/\Same H H'/\Rep K F3 p x)/\(i=items.length->J.stop i H)
def Iz(K:KK):RR (List PV) It:=λc _ _ F _ items J=>sJ K c.L F J items
abbrev tI(K:KK)(E:L2.St->XK)(m:M (List PV)):TI:=tG K E (Iz K) m
def forL(g:Tg)(mb:M Fl):List PV->M Fl
 | [],ρ=>.ok .nx ρ
 |p::ps,ρ=>match g p ρ with
  |none=>.bad
  |some ρ1=>(mb ρ1).bind λf ρ2=>match f with
   | .nx=>forL g mb ps ρ2
   | .ct=>forL g mb ps ρ2
   | .bk=>.ok .nx ρ2
   | .rt r=>.ok (.rt r) ρ2
def bN(mi:M (List PV))(g:Tg)(mb:M Fl):M Fl:=λρ=>(mi ρ).bind λitems ρ1=>forL g mb items ρ1
def xq{c:Ctx}{F1 H1:Hp}{σ:L2.St}{ρ1:Đ}{D:Ends}{J:It}{items:List PV}{g:Tg}{mb:M Fl}(Ă:Rel (kk X cm) c F1 H1 σ ρ1)(ito:sJ (kk X cm) c.L F1 J items)(h1:ģ (kk X cm) E c F1 D (forL g mb items ρ1)):yP (λ_ H' R=>R J H') (tT (kk X cm) g) (tS (kk X cm) E mb) D σ H1:=by
 refine⟨λi m σ' H'=>∃F2 ρ2,i<=items.length/\m=items.length-i/\Rel (kk X cm) c F2 H' σ' ρ2/\Same F1 F2/\ģ (kk X cm) E c F2 D (forL g mb (items.drop i) ρ2),⟨_,F1,ρ1,Nat.zero_le _,rfl,Ă,Same.refl _,h1⟩,?_⟩
 rintro i m σ2 H2 ⟨F2,ρ2,hle,rfl,ď,s2,h2⟩
 obtain⟨go,stop⟩:=ito c i F2 H2 σ2 ρ2 ď s2 λb u e=>(ď.lent b u e).1
 by_cases hlt:i<items.length
 ·obtain⟨g1,g2⟩:=go items[i] (List.getElem?_eq_getElem hlt)
  rw[List.drop_eq_getElem_cons hlt] at h2
  unfold forL at h2
  refine .inr ⟨g1,_,λσ' H' z=>z,λx H3 hy=>?_⟩
  obtain⟨F3,iW,s3,_,rp⟩:=g2 x H3 hy
  refine⟨c,F3,ρ2,items[i],iW,rp,?_⟩
  cases eg:g items[i] ρ2 with
  |none=>rw[eg] at h2;exact h2.elim
  |some ρ3=>
   rw[eg] at h2
   dsimp only at h2
   intro σ4 xr
   refine⟨c,F3,ρ3,xr,?_⟩
   have nxt:∀{ρ4:Đ},ģ (kk X cm) E c F2 D (forL g mb (items.drop (i+1)) ρ4)->∀σ' F' H',Rel (kk X cm) c F' H' σ' ρ4->Same F3 F'->∃m',m'<items.length-i/\∃F2 ρ2,i+1<=items.length/\m'=items.length-(i+1)/\Rel (kk X cm) c F2 H' σ' ρ2/\Same F1 F2/\ģ (kk X cm) E c F2 D (forL g mb (items.drop (i+1)) ρ2):=
    fun{ρ4} h3 σ' F' H' Ő s'=>⟨items.length-(i+1),by omega,F',ρ4,hlt,rfl,Ő,(s2.trans s3).trans s',ģ.mono h3 (s3.trans s')⟩
   have h2':=ģ.mono h2 s3
   cases e2:mb ρ3 with
   |bad=>rw[e2] at h2;exact h2
   |exc x ρ4=>rw[e2] at h2';exact h2'
   |ok f ρ4=>
    rw[e2] at h2 h2'
    cases f with
    |nx=>exact nxt h2
    |ct=>exact nxt h2
    |bk=>exact h2'
    |rt r=>exact h2'
 ·have e:i=items.length:=by omega
  refine .inl ⟨stop e,?_⟩
  rw[List.drop_eq_nil_of_le (by omega)] at h2
  unfold forL at h2
  exact h2 σ2 F2 H2 ď (Same.refl _)
def bO{iter tg:Expr}{body:List Stmt}{mi:M (List PV)}{g:Tg}{mb:M Fl}(hp:PassesOwn (model X.prog X.w) X.A X.env X.xe)(hc:X.calm=true)(hi:PI X tg iter (tI (kk X cm) E mi))(hg:PG X tg (tT (kk X cm) g))(hb:ź X body (tS (kk X cm) E mb))
 (hs:∀x,foldedSetIterable iter X.env x=pure x:=by intro _;rfl):PS X (.For tg iter body [] pos) (tS (kk X cm) E (bN mi g mb)):=PS.wk (vN hp hc hi hg hb hs) λD σ H ⟨c,F,ρ,rel,h⟩=>⟨c,F,ρ,rel,ģ.bind h λitems ρ1 J F1 H1 Ă s1 ito h1=>xq Ă ito h1⟩
end
end P
namespace P
open PySem PySem.Spec PyProof.Rows L2 M2 M3
inductive FR where
 |ret (r:RV)|exc (x:PX)|bad
abbrev MF:=List Slot->FR
def FR.of:Res Fl->FR
 | .ok (.rt r) _=>.ret r
 | .ok .nx _=>.ret (.sh .non)
 | .exc x _=>.exc x
 |_=>.bad
def Š(n k:Nat)(mb:M Fl):MF:=λas=>if as.length=n then FR.of (mb (startP k as)) else .bad
def rF(K:KK)(H F' H':Hp):RV->V->Prop
 | .sh p,v=>Rep K F' p v
 | .ow ps,v=>∃a vs,v=.ref a/\H' a=some (.lst vs)/\F' a=none/\H a=none/\ā K F' ps vs
 | .ot ps qs rs,v=>∃p a xs vs ys,v=.ref p/\F' p=some (.tup (xs ++ .ref a::ys))/\ā K F' ps xs/\H' a=some (.lst vs)/\F' a=none/\H a=none/\ā K F' qs vs/\ā K F' rs ys
def FW(K:KK)(E:XK)(F H:Hp)(Q:VK):FR->Prop
 | .ret r=>∀v F' H',Gr F H F' H'->rF K H F' H' r v->Q v H'
 | .exc x=>∀C d F' H',Gr F H F' H'->wY K F' x C d->E C d H'
 | .bad=>False
def dI(K:KK)(n:Nat)(mf:MF):Sp:=λvs H Q E=>∃F as,as.length=n/\Same F H/\Paired (ŭ K F H) as vs/\FW K E F H Q (mf as)
def bx(CX:aC)(X:Cx)(E:L2.St->XK):Prop:=∀(pins:List (Addr×Obj)) (σ:L2.St) (H:Hp) (s:Shared) (e:Value) (s':Shared),Inv X pins σ H s->CX X.stack H s (E σ) e s'->X.xe e s'
def Ģ{X:Cx}{E:L2.St->XK}:bx jx X E:=λ_ _ _ _ _ _ _ h=>h.elim
section
variable{P:Program}{w:World}{K:PySem.W.Frag}{cm:String->Addr}{mg:Str->Option Value}{base:Heap}{CX:aC}
def JT{x qual:Str}{st:Stmt}{f:Addr}{fd:FuncData}{N ps:List Str}{k:Nat}{mb:M Fl}(F:wD K x qual st f fd)(S:Č N ps (ą st))
 (hbody:∀(cdv:Value) (A:Around) (outer:List Env) (s:Shared) (H:Hp) (E:XK),ł k (A.deeper (envOfC qual (ą st) s.heap.objs.size f cdv))→
   ź (gk CX P w K mg base N qual (ą st) f cdv A outer s H E) (Ĭ st) (tS ⟨K,cm⟩ (λ_=>E) mb)):į P w K mg base CX (k+1) f fd ps (dI ⟨K,cm⟩ ps.length (Š ps.length N.length mb)):=by
 obtain⟨oc,od,kV,doc,pm,an,cdv,ct,osl,rfl,lk,hcd⟩:=F.ex
 refine yV lk hcd S (λvs H Q E ⟨F,ps',h1,_,h2,_⟩=>by rw[<-Paired.length h2];exact h1) λA outer s H vs Q E hr hsp=>?_
 obtain⟨F,ps',h1,h2,h3,h4⟩:=hsp
 refine⟨_,hbody cdv A outer s H E hr,ctx0 F H,F,startP N.length ps',Rel.start h2 h3,?_⟩
 unfold Š at h4
 rw[if_pos h1] at h4
 cases e:mb (startP N.length ps') with
 |bad=>rw[e] at h4;exact h4
 |exc x ρ'=>rw[e] at h4;exact λσ' C d F' H' rel s1 q=>h4 C d F' H' rel.gr q
 |ok fl ρ'=>
  rw[e] at h4
  cases fl with
  |nx=>exact λσ' F' H' rel s1=>h4 .non F' H' rel.gr (Rep.non (K:=⟨K,cm⟩) (F:=F'))
  |bk=>exact h4.elim
  |ct=>exact h4.elim
  |rt r=>
   intro v σ' F' H' rel s1 q
   refine h4 v F' H' rel.gr ?_
   cases r with
   |sh p=>exact q
   |ow qs=>
    obtain⟨a,vs',e1,e2,e3,e4,_,e5⟩:=q
    exact⟨a,vs',e1,e2,e3,e4,e5⟩
   |ot qs ts rs=>
    obtain⟨p,a,xs,vs',ys,e1,e0,ex,e2,e3,e4,_,e5⟩:=q
    exact⟨p,a,xs,vs',ys,e1,e0,ex,e2,e3,e4,e5⟩
def JV{x qual:Str}{st:Stmt}{f:Addr}{fd:FuncData}{N ps:List Str}{k n j:Nat}{mb:M Fl}{mf:MF}(F:wD K x qual st f fd)(S:Č N ps (ą st))(hn:ps.length=n)(hj:N.length=j)(hf:mf=Š n j mb)
 (hbody:∀(cdv:Value) (A:Around) (outer:List Env) (s:Shared) (H:Hp) (E:XK),ł k (A.deeper (envOfC qual (ą st) s.heap.objs.size f cdv))→
   ź (gk CX P w K mg base N qual (ą st) f cdv A outer s H E) (Ĭ st) (tS ⟨K,cm⟩ (λ_=>E) mb)):į P w K mg base CX (k+1) f fd ps (dI ⟨K,cm⟩ n mf):=by
 subst hn hj hf
 exact JT F S hbody
end
def ĥ(mf:MF)(mr:M (List Slot)):M RV:=λρ=>(mr ρ).bind λps ρ1=>match mf ps with
 | .ret r=>.ok r ρ1
 | .exc x=>.exc x ρ1
 | .bad=>.bad
section
variable{X:Cx}{cm:String->Addr}{E:L2.St->XK}{CX:aC}{k n:Nat}{f:Addr}{fd:FuncData}{ps:List Str}{mf:MF}{mr:M (List Slot)}{x:Str}{p pos:Pos}{e:Expr}{es:List Expr}
def sO{sp:Sp}{pins:List (Addr×Obj)}{σ:L2.St}{H:Hp}{s:Shared}{Q:VK}{us:List Value}{vs:List V}(F:į X.prog X.w X.K X.mg X.base CX k f fd ps sp)(hr:ł k X.A)(hb:Binds X.K fd ps [])(hx:bx CX X E)
 (I:Inv X pins σ H s)(r:Vals vs us)(h:sp vs H Q (E σ)):wpAny (model X.prog X.w) X.A (call (.ref f) us) (EP X pins σ Q) X.xe s:=by
 have hl:(us ++ []).length=ps.length:=by rw[List.append_nil,<-r.length];exact F.len _ _ _ _ h
 have hbd:=hb s us I.dU hl
 rw[List.append_nil] at hbd
 refine wpAny_call (codeAny_mono (F.run X.A X.stack s H ⟨us,[]⟩ us vs Q (E σ) hr I.env0 hbd r h) λr s' hq=>?_)
 cases r with
 |error e=>exact hx pins σ H s e s' I hq
 |ok fl=>
  cases fl with
  |ret u=>exact I.after hq
  |next=>exact False.elim hq
  |brk=>exact False.elim hq
  |cont=>exact False.elim hq
def oG{c:Ctx}{F1 H1:Hp}{σ:L2.St}{ρ1:Đ}{Q:VK}{ps:List Slot}{vs:List V}(hlen:(∃r,mf ps=r/\∀z,r=z->z≠ .bad)->ps.length=n)(Ă:Rel (kk X cm) c F1 H1 σ ρ1)(r1:Paired (ŭ (kk X cm) F1 H1) ps vs)
 (h:Ŏ (kk X cm) E (rO (kk X cm)) c F1 H1 σ Q (match mf ps with| .ret r=>.ok r ρ1| .exc x=>.exc x ρ1| .bad=>.bad)):dI (kk X cm) n mf vs H1 Q (E σ):=by
 refine⟨F1,ps,?_,Ă.sub,r1,?_⟩
 ·refine hlen ⟨_,rfl,λz hz hb=>?_⟩
  rw[hz,hb] at h
  exact h
 ·cases em:mf ps with
  |bad=>rw[em] at h;exact h
  |exc x=>rw[em] at h;exact λC d F' H' g rx=>h C d F' H' (Ă.call g) g.f rx
  |ret r=>
   rw[em] at h
   intro v F' H' g rf
   refine h v F' H' (Ă.call g) g.f g.h ?_
   cases r with
   |sh p=>exact rf
   |ow qs=>
    obtain⟨a,vs',e1,e2,e3,e4,e5⟩:=rf
    exact⟨a,vs',e1,e2,e3,Ă.base.free e4,Ă.iR g.f (Ă.fresh e4),e5⟩
   |ot qs ts rs=>
    obtain⟨p,a,xs,vs',ys,e1,e0,ex,e2,e3,e4,e5⟩:=rf
    exact⟨p,a,xs,vs',ys,e1,e0,ex,e2,e3,Ă.base.free e4,Ă.iR g.f (Ă.fresh e4),e5⟩
def oH{n k:Nat}{mb:M Fl}{ps:List Slot}(h:∃r,Š n k mb ps=r/\∀z,r=z->z≠ .bad):ps.length=n:=by
 obtain⟨r,h1,h2⟩:=h
 unfold Š at h1
 by_cases hl:ps.length=n
 ·exact hl
 ·rw[if_neg hl] at h1
  exact absurd h1.symm (λz=>h2 .bad (by rw[<-h1]) rfl)
def xu(F:į X.prog X.w X.K X.mg X.base CX k f fd ps (dI (kk X cm) n mf))(hlen:∀{ps:List Slot},(∃r,mf ps=r/\∀z,r=z->z≠ .bad)->ps.length=n)(hr:ł k X.A)(hg:Gl X x)(hm:X.mg x=some (.ref f))(hk:PySem.W.keepIn X.K (.ref f)=true)(hb:Binds X.K fd ps [])(hx:bx CX X E)
 (ha:PA X (e::es) (tA (kk X cm) E mr))(hdb:(x== ("__debug__" :Str))=false:=by decide)(he:starEach (e::es) X.env=(false,eval e X.env)::starEach es X.env:=by exact aj rfl)(hpl:(backTo pos (starEach es X.env)).any (·.1)=false:=by rfl) :
 PE X (.Call (.Name x p) (e::es) [] pos) (tO (kk X cm) E (ĥ mf mr)):=by
 intro pins s σ H Q I h
 obtain⟨c,F,ρ,rel,h⟩:=h
 refine wpAny_Call_Name_kw (qM I hg hm ?_ hdb)
 refine PySem.W.callWith_K (h₀:= X.base) I.ok.mod.DY hk (ĩ (ha pos pins s σ H (λvs H1=>dI (kk X cm) n mf vs H1 Q (E σ)) I ⟨c,F,ρ,rel,h.bind λps' ρ1 vs F1 H1 Ă _ _ r1 h1=>oG hlen Ă r1 h1⟩) λus s1 ⟨vs,H1,I1,r,q⟩=>⟨I1.dU,?_⟩) he hpl
 exact sO (by assumption) hr hb hx I1 r q
end
def ĳ(m:M PV):M (List PV):=λρ=>(m ρ).bind λp ρ1=>match p with
 | .lst ps=>.ok ps ρ1
 | .tup ps=>.ok ps ρ1
 | .str z=>.ok (z.cps.toList.map λc=>.str ⟨#[c]⟩) ρ1
 |_=>.bad
section
variable{X:Cx}{cm:String->Addr}{E:L2.St->XK}{tg:Expr}
def FZ(K:PySem.W.Frag)(tl:TE):TI:=λσ H R=>tl σ H λx H1=>(∃a,x=.ref a/\(∃xs,Ľ K H1 a xs)/\R (Ih K a) H1)\/(∃a,x=.ref a/\(∃xs,Ŭ K H1 a xs)/\R (Ii K a) H1)\/∃z,x=.str z/\R (Its z) H1
def oJ{l:Expr}{tl:TE}(hl:PE X l tl):PI X tg l (FZ X.K tl):=by
 intro pins s σ H R I h
 refine ĩ (hl pins s σ H _ I h) λv s1 ⟨x,H1,I1,r1,q1⟩=>?_
 rcases q1 with⟨a,e,⟨xs,hq⟩,q⟩|⟨a,e,⟨xs,hq⟩,q⟩|⟨z,e,q⟩
 ·subst e
  cases r1
  obtain⟨its,rv,p,hz⟩:=I1.list hq
  refine wpAny_pyIter_list p.isList ?_
  refine⟨s1.heap.objs.size,[s1.heap.objs.size],_,_,H1,rfl,I1.kept (t':=s1.toks) λb o e=>Heap.get?_push_of_some _ e,lg a _,⟨_,Heap.get?_push_size _ rfl,rfl,rfl⟩,λb hb=>?_,q⟩
  have e:b=s1.heap.objs.size:=by simpa using hb
  subst e
  exact I1.qT (Nat.le_refl _) (I1.hok.fresh (Nat.le_refl _))
 ·subst e
  cases r1
  obtain⟨its,rv,p,hz⟩:=I1.tuple hq
  refine wpAny_pyIter_tuple (show s1.heap.IsTuple a its.toArray from p) ?_
  refine⟨s1.heap.objs.size,[s1.heap.objs.size],_,_,H1,rfl,I1.kept (t':=s1.toks) λb o e=>Heap.get?_push_of_some _ e,iG a _,⟨_,Heap.get?_push_size _ rfl,rfl,rfl⟩,λb hb=>?_,q⟩
  have e:b=s1.heap.objs.size:=by simpa using hb
  subst e
  exact I1.qT (Nat.le_refl _) (I1.hok.fresh (Nat.le_refl _))
 ·subst e
  obtain⟨t,rfl⟩:=r1
  have fin:∀ty,(∀A:Around,A.handled=none->Walks X.prog X.w A s1.heap.objs.size [s1.heap.objs.size] [s1.heap.objs.size] z.cps.size (SignAt z) (λi h=>h.IsStrIter s1.heap.objs.size ty z t i))->
   (∀(A:Around) (i:Nat) (s:Shared) (Q:Value->Shared->Prop) (E:Value->Shared->Prop),s.heap.IsStrIter s1.heap.objs.size ty z t i->Q (.ref s1.heap.objs.size) s->wpAny (model X.prog X.w) A (pyIter (.ref s1.heap.objs.size)) Q E s)->
   (["enumerate","zip","dict_itemiterator","dict_reverseitemiterator","odict_iterator","itertools.zip_longest","itertools.pairwise"].contains ty=false)->
   PIE X pins σ tg R (.ref s1.heap.objs.size) {s1 with heap:=s1.heap.push {cls:=.type ty,data:=.fields #[.str z t,.int 0 0]}}:=λty hW hS hty=>by
   refine⟨s1.heap.objs.size,[s1.heap.objs.size],_,_,H1,rfl,I1.kept (t':=s1.toks) λb o e=>Heap.get?_push_of_some _ e,lK _ z t ty hW hS hty,⟨_,Heap.get?_push_size _ rfl,rfl,rfl⟩,λb hb=>?_,q⟩
   have e:b=s1.heap.objs.size:=by simpa using hb
   subst e
   exact I1.qT (Nat.le_refl _) (I1.hok.fresh (Nat.le_refl _))
  cases ha:z.cps.all (·< 128) with
  |true=>exact wpAny_pyIter_ascii ha (fin _ (λA hA=>Walks.strAscii hA _ z t) (λA i s Q E st q=>wpAny_pyIter_striter_ascii st q) (by decide))
  |false=>exact wpAny_pyIter_wide ha (fin _ (λA hA=>Walks.strWide hA _ z t) (λA i s Q E st q=>wpAny_pyIter_striter_wide st q) (by decide))
def gH{l:Expr}{m:M PV}(hl:PE X l (tV (kk X cm) E m)):PI X tg l (tI (kk X cm) E (ĳ m)):=λpins s σ H R I h=>oJ hl pins s σ H R I (by
 obtain⟨c,F,ρ,rel,h⟩:=h
 refine⟨c,F,ρ,rel,h.bind λp ρ1 v F1 H1 Ă s1 s2 q h1=>?_⟩
 cases p with
 |lst ps=>
  have q':Rep (kk X cm) F1 (.lst ps) v:=q
  unfold Rep at q'
  obtain⟨a,vs,rfl,e1,e2⟩:=q'
  refine .inl ⟨a,rfl,⟨vs,Ă.sub.seq e1⟩,h1 _ F1 H1 Ă (Same.refl _) (Same.refl _) ?_⟩
  intro c' i F2 H2 σ2 ρ2 ď sF _
  have hq:Ľ X.K H2 a vs:=(sF.trans ď.sub).seq e1
  refine⟨λp hp=>?_,λhi=>⟨vs,hq,by rw[hi,e2.length];exact Nat.le_refl _⟩⟩
  obtain⟨u,hu,ru⟩:=ŵ e2.pr hp
  refine⟨⟨vs,u,hq,hu⟩,λx H' ⟨hH,hx⟩=>?_⟩
  subst hH
  have:vs[i]?=some x:=hx vs hq
  rw[hu] at this
  cases this
  exact⟨F2,ď,Same.refl _,Same.refl _,Rep.same sF p u ru⟩
 |tup ps=>
  have q':Rep (kk X cm) F1 (.tup ps) v:=q
  unfold Rep at q'
  obtain⟨a,vs,rfl,e1,e2⟩:=q'
  refine .inr (.inl ⟨a,rfl,⟨vs,Same.tup Ă.sub e1⟩,h1 _ F1 H1 Ă (Same.refl _) (Same.refl _) ?_⟩)
  intro c' i F2 H2 σ2 ρ2 ď sF _
  have hq:Ŭ X.K H2 a vs:=Same.tup (sF.trans ď.sub) e1
  refine⟨λp hp=>?_,λhi=>⟨vs,hq,by rw[hi,e2.length];exact Nat.le_refl _⟩⟩
  obtain⟨u,hu,ru⟩:=ŵ e2.pr hp
  refine⟨⟨vs,u,hq,hu⟩,λx H' ⟨hH,hx⟩=>?_⟩
  subst hH
  have:vs[i]?=some x:=hx vs hq
  rw[hu] at this
  cases this
  exact⟨F2,ď,Same.refl _,Same.refl _,Rep.same sF p u ru⟩
 |str z=>
  have q':v=.str z:=by have q':Rep (kk X cm) F1 (.str z) v:=q;unfold Rep at q';exact q'
  subst q'
  refine .inr (.inr ⟨z,rfl,h1 _ F1 H1 Ă (Same.refl _) (Same.refl _) ?_⟩)
  intro c' i F2 H2 σ2 ρ2 ď sF _
  refine⟨λp hp=>?_,λhi=>by rw[hi,List.length_map];show _=_;simp⟩
  rw[List.getElem?_map] at hp
  cases ez:z.cps.toList[i]? with
  |none=>rw[ez] at hp;cases hp
  |some cc=>
   rw[ez] at hp
   cases hp
   refine⟨by have:=(List.getElem?_eq_some_iff.mp ez).1;show i<z.cps.size;simpa using this,λx H' ⟨hH,c2,hc,hx⟩=>?_⟩
   subst hH hx
   rw[ez] at hc
   cases hc
   exact⟨F2,ď,Same.refl _,Same.refl _,Rep.str⟩
 |_=>exact h1.elim)
def Ļ(i:Nat):M (List PV):=λρ=>match ρ[i]? with
 |some (.bw ps)=>.ok ps ρ
 |some (.sh (.lst ps))=>.ok ps ρ
 |some (.sh (.tup ps))=>.ok ps ρ
 |some (.sh (.str z))=>.ok (z.cps.toList.map λc=>.str ⟨#[c]⟩) ρ
 |some (.ow ps)=>.ok ps (ρ.set i (.sh (.lst ps)))
 |_=>.bad
def fC(i:Nat){x:Str}{px:Pos}(hN:X.N[i]?=some x:=by rfl)(hv:mq X.env.scope x:=by first|exact Or.inl rfl|exact Or.inr (Or.inl rfl)|exact Or.inr (Or.inr rfl))(hd:(x== ("__debug__" :Str))=false:=by decide)
 (hcd:(x== ("__classdict__" :Str))=false:=by decide):PI X tg (.Name x px) (tI (kk X cm) E (Ļ i)):=λpins s σ H R I h=>by
 obtain⟨c,F,ρ,rel,h⟩:=h
 cases e:ρ[i]? with
 |none=>unfold Ļ at h;rw[e] at h;exact h.elim
 |some sl=>
  have sS:Ŏ (kk X cm) E (Iz (kk X cm)) c F H σ R (ĳ (Ů i) ρ)->wpAny (model X.prog X.w) X.A (eval (.Name x px) X.env) (λv s1=>wpAny (model X.prog X.w) X.A (pyIter v) (PIE X pins σ tg R) X.xe s1) X.xe s:=λh'=>
   gH (v_var i hN hv hd hcd) pins s σ H R I ⟨c,F,ρ,rel,h'⟩
  unfold Ļ at h
  rw[e] at h
  cases sl with
  |no=>exact h.elim
  |rc C ns ps=>exact h.elim
  |ot ps qs rs=>exact h.elim
  |ol qD=>exact h.elim
  |od _ _=>exact h.elim
  |bd _ _=>exact h.elim
  |ow ps=>exact sS (by unfold ĳ Ů;rw[e];exact h)
  |sh p=>
   cases p with
   |lst ps=>exact sS (by unfold ĳ Ů;rw[e];exact h)
   |tup ps=>exact sS (by unfold ĳ Ů;rw[e];exact h)
   |str z=>exact sS (by unfold ĳ Ů;rw[e];exact h)
   |_=>exact h.elim
  |bw ps=>
   obtain⟨a,vs,h1,h2,h3⟩:=rel.slot i _ e
   refine oJ (ų hN hv hd hcd) pins s σ H R I ⟨.ref a,at_of h1,.inl ⟨a,rfl,⟨vs,Ľ.of (rel.lent a _ h2).1⟩,h _ F H rel (Same.refl _) (Same.refl _) ?_⟩⟩
   intro c' j F2 H2 σ2 ρ2 ď sF sL
   have hq:Ľ X.K H2 a vs:=Ľ.of (sL a _ h2)
   refine⟨λp hp=>?_,λhi=>⟨vs,hq,by rw[hi,h3.length];exact Nat.le_refl _⟩⟩
   obtain⟨u,hu,ru⟩:=ŵ h3.pr hp
   refine⟨⟨vs,u,hq,hu⟩,λx H' ⟨hH,hx⟩=>?_⟩
   subst hH
   have:vs[j]?=some x:=hx vs hq
   rw[hu] at this
   cases this
   exact⟨F2,ď,Same.refl _,Same.refl _,Rep.same sF p u ru⟩
def š(lo:Int)(n:Nat)(c:Int):List PV:=(List.range n).map λ(i:Nat)=>.int (lo+i*c)
def bQ(i:Int):Bool:=decide (i.natAbs<1152921504606846976)
def bR:List PV->Option (List PV)
 | [.int j]=>if bQ j=true then some (š 0 j.toNat 1) else none
 |_=>none
def bT(f:List PV->Option (List PV))(mr:M (List PV)):M (List PV):=λρ=>(mr ρ).bind λps ρ1=>Res.iC (f ps) ρ1
def iY{lo c:Int}{n i:Nat}{p:PV}(h:(š lo n c)[i]?=some p):i<n/\p=.int (lo+i*c):=by
 unfold š at h
 by_cases hn:i<n
 ·rw[List.getElem?_map,List.getElem?_range hn] at h
  exact⟨hn,(Option.some.inj h).symm⟩
 ·rw[List.getElem?_eq_none (by simpa using hn)] at h
  cases h
def iZ{lo c:Int}{n:Nat}:(š lo n c).length=n:=by simp[š]
def xG{K:KK}{Lh F:Hp}(lo:Int)(n:Nat):sJ K Lh F (CK lo n) (š lo n 1):=λc i F2 H σ ρ rel sF _=>
 ⟨fun p hp=>by
   obtain⟨h1,rfl⟩:=iY hp
   refine⟨h1,λx H' ⟨e1,e2⟩=>?_⟩
   subst e1 e2
   exact⟨F2,rel,Same.refl _,Same.refl _,by rw[Int.mul_one];exact Rep.int⟩,λhi=>by rw[iZ] at hi;subst hi;exact Nat.le_refl _⟩
def lM{i:Int}(h:bQ i=true): -(2 ^ 60)<=i/\i<2 ^ 60:=by
 unfold bQ at h
 rw[decide_eq_true_eq] at h
 omega
variable{a b d:Expr}{p pos:Pos}{mr:M (List PV)}
def oK{K:KK}{F:Hp}{ps:List PV}{vs:List V}(h:ā K F ps vs):(∀i r,ps=.int i::r->∃r',vs=.int i::r'/\ā K F r r')/\(ps=[]->vs=[]):=by
 refine⟨λi r e=>?_,λe=>?_⟩
 ·subst e
  unfold ā at h
  obtain⟨x,r',h1,h2,h3⟩:=h
  unfold Rep at h2
  exact⟨r',by rw[h1,h2],h3⟩
 ·subst e
  unfold ā at h
  exact h
def bU(hg:Gl X "range")(hm:X.mg "range" =none)(ha:PA X [a] (tL (kk X cm) E mr))(hs:starEach [a] X.env=[(false,eval a X.env)]:=by exact aj rfl):PI X tg (.Call (.Name "range" p) [a] [] pos) (tI (kk X cm) E (bT bR mr)):=
 λpins s σ H R I h=>lq hg hm ha hs pins s σ H R I (by
  obtain⟨c,F,ρ,rel,h⟩:=h
  refine⟨c,F,ρ,rel,h.bind λps ρ1 vs F1 H1 Ă s1 s2 q h1=>?_⟩
  have q':ā (kk X cm) F1 ps vs:=q
  unfold bR at h1
  split at h1
  ·rename_i j
   split at h1
   ·rename_i hj
    obtain⟨r',e1,e2⟩:=(oK q').1 _ _ rfl
    cases(oK e2).2 rfl
    obtain⟨k1,k2⟩:=lM hj
    exact⟨j,e1,by omega,by omega,h1 _ F1 H1 Ă (Same.refl _) (Same.refl _) (xG 0 j.toNat)⟩
   ·exact h1.elim
  ·exact h1.elim)
end
def fG:Slot->Slot
 | .sh p=>.sh p
 | .ow ps=>.bw ps
 | .bw ps=>.bw ps
 | .od t kvs=>.bd t kvs
 | .bd t kvs=>.bd t kvs
 |_=>.no
def gJ(js:List Nat)(nl:Nat)(ρ:Đ):Đ:=js.map (λ(j:Nat)=>fG ((ρ[j]?).getD .no))++List.replicate nl .no
def ļ(g:Tg)(mt:M Bool)(me:M PV):List PV->Đ->List PV->Option (List PV)
 | [],_,acc=>some acc
 |p::ps,ρ,acc=>match g p ρ with
  |none=>none
  |some ρ1=>match mt ρ1 with
   | .ok true ρ2=>match me ρ2 with
     | .ok q ρ3=>if acc.length<16777216 then ļ g mt me ps ρ3 (acc ++ [q]) else none
     |_=>none
   | .ok false ρ2=>ļ g mt me ps ρ2 acc
   |_=>none
def Ţ(js:List Nat)(nl:Nat)(mi:M (List PV))(g:Tg)(mt:M Bool)(me:M PV):M RV:=λρ=>(mi ρ).bind λitems ρ1=>match ļ g mt me items (gJ js nl ρ1) [] with
 |some ps=>.ok (.ow ps) ρ1
 |none=>.bad
abbrev EF:L2.St->XK:=λ_ _ _ _=>False
def cU:M Bool:=λρ=>.ok true ρ
section
variable{K:KK}{c:Ctx}{F H:Hp}{σ:L2.St}{ρ:Đ}
def fH(F H H1:Hp):Ctx:=⟨H1,F,(ctx0 F H).L,λ_ _ _=>True⟩
def Rel.cap(js:List Nat)(nl:Nat)(rel:Rel K c F H σ ρ){D:Addr}{o:HO}(hD:H D=none):Rel K (fH F H (upd H D o)) F (upd H D o) (ř js nl σ) (gJ js nl ρ) where
 sub:=rel.sub.trans (Same.upd hD)
 base:=Same.refl _
 f0:=Same.refl _
 ŉ:=λ_ _ z=>z
 lent:=λa u e=>⟨Same.upd hD a u (aF e).1,(aF e).2⟩
 lb:=fun a e=>by
   cases q:(fH F H (upd H D o)).L a with
   |none=>rfl
   |some u=>
    have e':upd H D o a=none:=e
    rw[Same.upd hD a u (aF q).1] at e'
    cases e'
 len:=by simp[ř,gJ]
 slot:= λi s e=>by
  unfold gJ at e
  by_cases hi:i<js.length
  ·rw[List.getElem?_append_left (by simpa using hi),List.getElem?_map] at e
   cases ej:js[i]? with
   |none=>rw[ej] at e;cases e
   |some j=>
    rw[ej] at e
    have e':fG ((ρ[j]?).getD .no)=s:=Option.some.inj e
    subst e'
    have hx:((ř js nl σ)[i]?).getD none=(σ[j]?).getD none:=by
     unfold ř
     rw[List.getElem?_append_left (by simpa using hi),List.getElem?_map,ej]
     rfl
    rw[hx]
    cases er:ρ[j]? with
    |none=>trivial
    |some sl=>
     have q:=rel.slot j sl er
     cases sl with
     |no=>trivial
     |sh p=>exact q
     |ow ps=>
      obtain⟨a,vs,h1,h2,h3,h4,h5⟩:=q
      refine⟨a,vs,h1,?_,h5⟩
      show(match F a with|none=>H a|some _=>none)=_
      rw[h3]
      exact h2
     |bw ps=>
      obtain⟨a,vs,h1,h2,h3⟩:=q
      obtain⟨l1,l2⟩:=rel.lent a _ h2
      refine⟨a,vs,h1,?_,h3⟩
      show(match F a with|none=>H a|some _=>none)=_
      rw[l2]
      exact l1
     |rc C ns ps=>trivial
     |ot ps qs rs=>trivial
     |ol qD=>trivial
     |od t kvs=>
      obtain⟨a,u,h1,h2,h3,h4,h5⟩:=q
      refine⟨a,u,h1,.inl ?_,h5⟩
      show(match F a with|none=>H a|some _=>none)=_
      rw[h3]
      exact h2
     |bd t kvs=>
      obtain⟨a,u,h1,h2,h3⟩:=q
      refine⟨a,u,h1,h2.imp (λh2=>?_) id,h3⟩
      obtain⟨l1,l2⟩:=rel.lent a _ h2
      show(match F a with|none=>H a|some _=>none)=_
      rw[l2]
      exact l1
  ·rw[List.getElem?_append_right (by simpa using hi),List.getElem?_replicate] at e
   split at e
   ·cases e;trivial
   ·cases e
 sep:=λi j a h1 _=>by
  exfalso
  obtain⟨s,y,h1,_,h2⟩:=h1
  have h2:=eZ h2
  unfold gJ at h1
  by_cases hi:i<js.length
  ·rw[List.getElem?_append_left (by simpa using hi),List.getElem?_map] at h1
   cases ej:js[i]? with
   |none=>rw[ej] at h1;cases h1
   |some j=>
    rw[ej] at h1
    have e':fG ((ρ[j]?).getD .no)=s:=Option.some.inj h1
    subst e'
    cases q:(ρ[j]?).getD .no<;>rw[q] at h2<;>cases h2
  ·rw[List.getElem?_append_right (by simpa using hi),List.getElem?_replicate] at h1
   split at h1
   ·cases h1;cases h2
   ·cases h1
def Rel.rebase{H1 F1:Hp}{D:Addr}{ys zs:List V}(hD:H1 D=none)(hF:F1 D=none)(rel:Rel K (fH F1 H1 (upd H1 D (.lst ys))) F H σ ρ):Rel K (fH F1 H1 (upd H1 D (.lst zs))) F (upd H D (.lst zs)) σ ρ:= by
 have fD:F D=none:=rel.ŉ D (by show upd H1 D _ D≠none;rw[ĉ];intro z;cases z) hF
 have lD:∀b u,(fH F1 H1 (upd H1 D (.lst ys))).L b=some u->b≠D:=λb u e z=>by
  have q:=(aF (F:=F1) (H:=H1) (a:=b) (u:=u) e).1
  rw[z,hD] at q
  cases q
 have ne:∀b,(fH F1 H1 (upd H1 D (.lst ys))).B b=none->b≠D:=λb z q=>by
  subst q
  have z':upd H1 b (.lst ys) b=none:=z
  rw[ĉ] at z';cases z'
 have back:∀b,b≠D->(fH F1 H1 (upd H1 D (.lst ys))).B b=none->(fH F1 H1 (upd H1 D (.lst zs))).B b=none:=λb hb z=>by
  have z':upd H1 D (.lst ys) b=none:=z
  show upd H1 D (.lst zs) b=none
  rw[Ą hb] at z' ⊢;exact z'
 refine⟨λb u e=>?_,λb u e=>?_,rel.f0,λb h1 h2=>?_,λb u e=>?_,λb e=>?_,rel.len,λi s e=>?_,rel.sep⟩
 ·have hb:b≠D:=λz=>by rw[z,fD] at e;cases e
  rw[Ą hb];exact rel.sub b u e
 ·by_cases hb:b=D
  ·subst hb
   have e':upd H1 b (.lst zs) b=some u:=e
   rw[ĉ] at e' ⊢;exact e'
  ·have e':upd H1 D (.lst zs) b=some u:=e
   rw[Ą hb] at e' ⊢
   exact rel.base b u (by show upd H1 D _ b=some u;rw[Ą hb];exact e')
 ·refine rel.ŉ b (λz=>h1 ?_) h2
  exact back b (ne b z) z
 ·rw[Ą (lD b u e)]
  exact rel.lent b u e
 ·refine rel.lb b ?_
  have z':upd H1 D (.lst zs) b=none:=e
  have hb:b≠D:=λq=>by rw[q,ĉ] at z';cases z'
  show upd H1 D (.lst ys) b=none
  rw[Ą hb] at z' ⊢;exact z'
 ·have q:=rel.slot i s e
  cases s with
  |no=>trivial
  |sh p=>exact q
  |bw ps=>exact q
  |ow ps=>
   obtain⟨a,vs,q1,q2,q3,q4,q5⟩:=q
   have hb:=ne a q4
   exact⟨a,vs,q1,by rw[Ą hb];exact q2,q3,back a hb q4,q5⟩
  |bd t kvs=>exact q
  |od t kvs=>
   obtain⟨a,u,q1,q2,q3,q4,q5⟩:=q
   have hb:=ne a q4
   exact⟨a,u,q1,by rw[Ą hb];exact q2,q3,back a hb q4,q5⟩
  |rc C ns ps=>
   obtain⟨a,dx,fs,q1,q2,q3,q4,q5⟩:=q
   have hb:=ne a q4
   exact⟨a,dx,fs,q1,by rw[Ą hb];exact q2,q3,back a hb q4,q5⟩
  |ot ps qs rs=>
   obtain⟨p,a,xs,vs,ys,q1,q0,qx,q2,q3,q4,q5⟩:=q
   have hb:=ne a q4
   exact⟨p,a,xs,vs,ys,q1,q0,qx,by rw[Ą hb];exact q2,q3,back a hb q4,q5⟩
  |ol qD=>
   obtain⟨p,as,q1,q0,qn,qp⟩:=q
   refine⟨p,as,q1,q0,qn,gC qp λa ps _ ⟨vs,q2,q3,q4,q5⟩=>?_⟩
   have hb:=ne a q4
   exact⟨vs,by rw[Ą hb];exact q2,q3,back a hb q4,q5⟩
end
section
variable{X:Cx}{cm:String->Addr}{E:L2.St->XK}{elt tg iter:Expr}{ifs:List Expr}{scope:Scope}{pos:Pos}{mi:M (List PV)}{g:Tg}{mt:M Bool}{me:M PV}
def i_:rM X [] (tB (kk X cm) E cU):=λpins s σ H Q I h=>rN pins s σ H Q I (by
 obtain⟨c,F,ρ,rel,h⟩:=h
 exact h true F H rel (Same.refl _) (Same.refl _) rfl)
def xH{a:Expr}(h:PT X a (tB (kk X cm) E mt)):rM X [a] (tB (kk X cm) E mt):=rP h
def oM(K:KK):RR (List PV) It:=λ_ _ _ F H items J=>sJ K (ctx0 F H).L F J items
def zV{K:KK}{c:Ctx}{F H:Hp}{σ:L2.St}{ρ:Đ}(rel:Rel K c F H σ ρ){b:Addr}{u:HO}(e:c.L b=some u):(ctx0 F H).L b=some u:=by
 obtain⟨l1,l2⟩:=rel.lent b u e
 show(match F b with|none=>H b|some _=>none)=some u
 rw[l2]
 exact l1
def zW(h:PI X tg iter (tI (kk X cm) E mi)):PI X tg iter (tG (kk X cm) E (oM (kk X cm)) mi):=λpins s σ H R I ⟨c,F,ρ,rel,q⟩=>h pins s σ H R I ⟨c,F,ρ,rel,Ŏ.bind (R':=oM (kk X cm)) (f:=λp ρ=>.ok p ρ) (by revert q;cases mi ρ <;> exact id) λp ρ1 v F1 H1 Ă s1 s2 q h1=>h1 v F1 H1 Ă (Same.refl _) (Same.refl _) λc' i F2 H2 σ2 ρ2 ď sF sL=>q c' i F2 H2 σ2 ρ2 ď sF λb u e=>sL b u (zV Ă e)⟩
def oN{js:List Nat}{nl:Nat}{σ:L2.St}{H:Hp}{Q:VK}(h:tO (kk X cm) E (Ţ js nl mi g mt me) σ H Q):uF js nl (tG (kk X cm) E (oM (kk X cm)) mi) (tT (kk X cm) g) (tB (kk X cm) EF mt) (tV (kk X cm) EF me) σ H Q:=by
 obtain⟨c,F,ρ,rel,h⟩:=h
 refine⟨c,F,ρ,rel,h.bind λitems ρ1 J F1 H1 Ă s1 s2 ito h1=>?_⟩
 intro D hD
 have hF:F1 D=none:=Ă.sub.free hD
 cases ec:ļ g mt me items (gJ js nl ρ1) [] with
 |none=>rw[ec] at h1;exact h1.elim
 |some res=>
  rw[ec] at h1
  refine⟨λi m σ' H'=>∃F' ρ' ys acc,i<=items.length/\m=items.length-i/\Rel (kk X cm) (fH F1 H1 (upd H1 D (.lst ys))) F' H' σ' ρ'/\ā (kk X cm) F' acc ys/\ļ g mt me (items.drop i) ρ' acc=some res,
   ⟨_,F1,_,[],[],Nat.zero_le _,rfl,?_,ā.nil,ec⟩,?_⟩
  ·exact Ă.cap js nl hD
  ·rintro i m σ2 H2 ⟨F2,ρ2,ys,acc,hle,rfl,ď,ra,h2⟩
   have s12:Same F1 F2:=ď.f0
   obtain⟨go,stop⟩:=ito _ i F2 H2 σ2 ρ2 ď s12 λb u e=>(ď.lent b u e).1
   have hH2:H2 D=some (.lst ys):=ď.base D _ (show upd H1 D _ D=_ from ĉ)
   have fD:F2 D=none:=ď.ŉ D (by show upd H1 D _ D≠none;rw[ĉ];intro z;cases z) hF
   by_cases hlt:i<items.length
   ·obtain⟨g1,g2⟩:=go items[i] (List.getElem?_eq_getElem hlt)
    rw[List.drop_eq_getElem_cons hlt] at h2
    unfold ļ at h2
    refine .inr ⟨g1,_,λσ' H' z=>z,λx H3 hy=>?_⟩
    obtain⟨F3,iW,s3,IK,rp⟩:=g2 x H3 hy
    refine⟨_,F3,ρ2,items[i],iW,rp,?_⟩
    cases eg:g items[i] ρ2 with
    |none=>rw[eg] at h2;cases h2
    |some ρ3=>
     rw[eg] at h2
     dsimp only at h2
     intro σ4 xr
     refine⟨_,F3,ρ3,xr,?_⟩
     cases em:mt ρ3 with
     |bad=>rw[em] at h2;cases h2
     |exc x ρ4=>rw[em] at h2;cases h2
     |ok b ρ4=>
      rw[em] at h2
      intro b' F5 H5 zX s5 Kr eb
      have eb':b=b':=eb
      subst eb'
      cases b with
      |false=>
       rw[if_neg Bool.false_ne_true]
       dsimp only at h2
       exact⟨items.length-(i+1),by omega,F5,ρ4,ys,acc,hlt,rfl,zX,ā.same (s3.trans s5) acc ys ra,h2⟩
      |true=>
       rw[if_pos rfl]
       dsimp only at h2
       refine⟨_,F5,ρ4,zX,?_⟩
       cases ee:me ρ4 with
       |bad=>rw[ee] at h2;cases h2
       |exc x ρ5=>rw[ee] at h2;cases h2
       |ok q ρ5=>
        rw[ee] at h2
        dsimp only at h2
        intro y F6 H6 zY s6 Ks rq
        split at h2
        ·rename_i hz
         have IV:=ā.same ((s3.trans s5).trans s6) acc ys ra
         refine⟨ys,zY.base D _ (show upd H1 D _ D=_ from ĉ),by rw[<-IV.length,Ċ];exact hz,?_⟩
         exact⟨items.length-(i+1),by omega,F6,ρ5,ys ++ [y],acc ++ [q],hlt,rfl,zY.rebase hD hF,ā.append IV (ā.cons rq ā.nil),h2⟩
        ·cases h2
   ·have e:i=items.length:=by omega
    refine .inl ⟨stop e,?_⟩
    rw[List.drop_eq_nil_of_le (by omega)] at h2
    unfold ļ at h2
    cases h2
    have gr:Gr F1 H1 F2 H2:=⟨λb u e=>ď.base b u (by show upd H1 D _ b=_;rw[Ą (Ē e hD)];exact e),s12,ď.sub,λb hb hf=>ď.ŉ b (by
     show upd H1 D _ b≠none
     by_cases hbD:b=D
     ·rw[hbD,ĉ];intro z;cases z
     ·rw[Ą hbD];exact hb) hf⟩
    have Ga:=Ă.call gr
    exact h1 _ F2 H2 Ga s12 gr.h ⟨D,ys,rfl,hH2,fD,Ă.base.free hD,Ă.iR gr.f (Ă.fresh hD),ra⟩
def sU(N':List Str)(js:List Nat)(nl:Nat)(sc:Scope)(hsc:X.env.scope=sc)(hcalm:X.calm=true)
 (hi:PI X.Ŕ tg iter (tG (kk X cm) E (oM (kk X cm)) mi))(hg:∀cl C s H fp,PG (aD X.Ŕ N' scope cl C s H fp) tg (tT (kk X cm) g))(ht:∀cl C s H fp,rM (aD X.Ŕ N' scope cl C s H fp) ifs (tB (kk X cm) EF mt))(he:∀cl C s H fp,PE (aD X.Ŕ N' scope cl C s H fp) elt (tV (kk X cm) EF me))
 (hcap:bJ X.Ŕ sc scope N' js)(hlen:js.length+nl=N'.length:=by rfl)
 (hk:scope.kind=.function:=by rfl)(hcell:∀y∈scope.names,y.2=.cell->scope.names.lookup y.1=some .cell:=by decide +kernel)(hnames:∀y∈scope.names,y.2=.local->scope.names.lookup y.1=some .local:=by decide +kernel)
 (hfree:∀y∈scope.names,y.2=.free->(sc.names.lookup y.1=some .cell\/sc.names.lookup y.1=some .free):=by decide +kernel)
 (hs:∀x,foldedSetIterable iter X.env x=pure x:=by intro _;rfl) :
 PE X (.ListComp elt [⟨tg,iter,ifs,0⟩] scope pos) (tO (kk X cm) E (Ţ js nl mi g mt me)):=
 PE.wk (PE.Ŕ (rQ N' js nl sc hsc hcalm hi hg ht he hcap hlen hk hcell hnames hfree hs)) λ_ _ _ h=>oN h
end
end P
namespace P
open PySem PySem.Spec PyProof.Rows L2 M2 M3 M4
abbrev bits(x:Int):Nat:=Builtin.Int.intBits x
section
variable{X:Cx}{cm:String->Addr}{K:KK}
def uI(K:PySem.W.Frag):R2:=λx y H Q=>∃l b xs zs,x=.ref l/\y=.ref b/\Ľ K H l xs/\Ľ K H b zs/\xs.length+zs.length<=sizeLine/\∀p,H p=none->Q (.ref p) (upd H p (.lst (xs++zs)))
def sV:ķ X (binaryOp .Add) (uI X.K):=by
 intro pins s σ H x y v u Q I rx ry h
 obtain⟨l,b,xs,zs,rfl,rfl,hH,hB,hz,q⟩:=h
 cases rx
 cases ry
 obtain⟨its,r,pl,z⟩:=I.list hH
 obtain⟨its2,r2,Gb,z2⟩:=I.list hB
 obtain⟨⟨c1,d1,t1,Gd⟩,n,e,hc,hd,hs⟩:=pl
 obtain⟨⟨c2,d2,t2,sl2⟩,n2,e2,hc2,hd2,hs2⟩:=Gb
 simp only at hc hd hs hc2 hd2 hs2
 subst hc hd hs hc2 hd2 hs2
 have hl:=r.length
 have hl2:=r2.length
 have ea:its.toArray++its2.toArray=(its++its2).toArray:=by simp
 refine concat_meets ⟨_,e,rfl⟩ ⟨_,e2,rfl⟩ noFill_list_add seq_list_add PySem.F.slot_list_add PySem.F.entry_list_add (PySem.F.args_list_add_2 _ _) (list_addW l b its.toArray its2.toArray n n2 none none Gd sl2 (by simp only[List.size_toArray];omega)) ⟨e,e2,?_⟩
 rw[ea]
 exact⟨.ref _,_,I.Fb (t':=s.toks) (r.append r2) (by rw[List.length_append];omega),rfl,q _ I.fresh⟩
def uJ(K:PySem.W.Frag):R2:=λx y H Q=>∃l b xs zs,x=.ref l/\y=.ref b/\Ŭ K H l xs/\Ŭ K H b zs/\xs≠[]/\zs≠[]/\xs.length+zs.length<=sizeLine/\∀p,H p=none->Q (.ref p) (upd H p (.tup (xs++zs)))
def sW:ķ X (binaryOp .Add) (uJ X.K):=by
 intro pins s σ H x y v u Q I rx ry h
 obtain⟨l,b,xs,zs,rfl,rfl,hH,hB,nx,nz,hz,q⟩:=h
 cases rx
 cases ry
 obtain⟨its,r,pl,z⟩:=I.tuple hH
 obtain⟨its2,r2,Gb,z2⟩:=I.tuple hB
 obtain⟨⟨c1,d1,t1,Gd⟩,e,hc,n,hd⟩:=pl
 obtain⟨⟨c2,d2,t2,sl2⟩,e2,hc2,n2,hd2⟩:=Gb
 simp only at hc hd hc2 hd2
 subst hc hd hc2 hd2
 have hl:=r.length
 have hl2:=r2.length
 have ne1:its≠[]:=λz=>by rw[z] at hl;exact nx (List.length_eq_zero_iff.mp hl)
 have ne2:its2≠[]:=λz=>by rw[z] at hl2;exact nz (List.length_eq_zero_iff.mp hl2)
 have ea:its.toArray++its2.toArray=(its++its2).toArray:=by simp
 refine concat_meets ⟨_,e,rfl⟩ ⟨_,e2,rfl⟩ noFill_tuple_add seq_tuple_add PySem.F.slot_tuple_add PySem.F.entry_tuple_add (PySem.F.args_tuple_add_2 _ _) (tuple_addW2 l b its.toArray its2.toArray n n2 d1 d2 Gd sl2 (by simpa using ne1) (by simpa using ne2) (by simp only[List.size_toArray];omega)) ⟨e,e2,?_⟩
 rw[ea]
 exact⟨.ref _,_,I.laid (o:=.tup (xs++zs)) (t':=s.toks) (λ_ _ q=>Heap.get?_push_of_some _ q) (Nat.le_refl _) ⟨by rw[List.length_append];omega,(its++its2),r.append r2,⟨_,Heap.get?_push_size _ rfl,rfl,_,rfl⟩⟩,rfl,q _ I.fresh⟩
def Ķ:PV->PV->Option RV
 | .int i,.int j=>some (.sh (.int (i+j)))
 | .str i,.str j=>if i.length+j.length<=16777216 then some (.sh (.str (i++j))) else none
 | .lst ps,.lst qs=>if ps.length+qs.length<=16777216 then some (.ow (ps++qs)) else none
 | .tup (p::ps),.tup (q::qs)=>if(p::ps).length+(q::qs).length<=16777216 then some (.sh (.tup ((p::ps)++(q::qs)))) else none
 |_,_=>none
def uK(K:PySem.W.Frag):R2:=λx y H Q=>zm x y H Q\/(uI K x y H Q\/uJ K x y H Q)
def jc:ķ X (binaryOp .Add) (uK X.K):=wK.or (sV.or sW)
def xJ:FJ K (uK K.K) Ķ:=by
 intro c F H σ ρ p q pv v u Q rel r1 r2 e k
 unfold Ķ at e
 split at e
 ·cases e
  cases r1.int
  cases r2.int
  exact .inl (k _ F H rel (Same.refl _) (Same.refl _) (Rep.int (K:=K) (F:=F)))
 ·split at e
  ·rename_i hz
   cases e
   cases r1.str
   cases r2.str
   exact .inl ⟨by rw[Ċ];exact hz,k _ F H rel (Same.refl _) (Same.refl _) (Rep.str (K:=K) (F:=F))⟩
  ·cases e
 ·split at e
  ·rename_i hz
   cases e
   obtain⟨a,xs,rfl,h1,h2⟩:=r1.lst rel.sub
   obtain⟨b,ys,rfl,h3,h4⟩:=r2.lst rel.sub
   refine .inr (.inl ⟨a,b,xs,ys,rfl,rfl,h1,h3,by rw[<-h2.length,<-h4.length,Ċ];exact hz,λd hd=>?_⟩)
   obtain⟨q1,q2⟩:=ņ rel hd (ā.append h2 h4)
   exact k _ F _ q1 (Same.refl _) (Same.upd hd) q2
  ·cases e
 ·split at e
  ·rename_i hz
   cases e
   obtain⟨a,xs,rfl,h1,h2⟩:=r1.tup rel.sub
   obtain⟨b,ys,rfl,h3,h4⟩:=r2.tup rel.sub
   have l1:=h2.length
   have l2:=h4.length
   refine .inr (.inr ⟨a,b,xs,ys,rfl,rfl,h1,h3,(λz=>by rw[z] at l1;cases l1),(λz=>by rw[z] at l2;cases l2),by rw[<-l1,<-l2,Ċ];exact hz,λl hl=>k _ _ _ (rel.alloc hl) (Same.upd (rel.sub.free hl)) (Same.upd hl) ?_⟩)
   show Rep K _ _ _
   unfold Rep
   exact⟨l,xs++ys,rfl,Ŭ.of ĉ,ā.same (Same.upd (rel.sub.free hl)) _ _ (ā.append h2 h4)⟩
  ·cases e
 ·cases e
def gb(g:Int->Int->Int):PV->PV->Option PV
 | .int i,.int j=>some (.int (g i j))
 |_,_=>none
def jr(C:Int->Int->Bool)(g:Int->Int->Int):PV->PV->Option PV
 | .int i,.int j=>if C i j=true then some (.int (g i j)) else none
 |_,_=>none
def Ge(g:Int->Int->Bool):PV->PV->Option PV
 | .int i,.int j=>some (.bl (g i j))
 |_,_=>none
def zZ{g:Int->Int->Int}:fu K (wJ λi j=>.int (g i j)) (gb g):=by
 intro c F H σ ρ p q pv v u Q rel r1 r2 e k
 unfold gb at e
 split at e
 ·cases e
  cases r1.int
  cases r2.int
  exact k _ F H rel (Same.refl _) (Same.refl _) Rep.int
 ·cases e
def Gf{g:Int->Int->Bool}:fu K (wJ λi j=>.bl (g i j)) (Ge g):=by
 intro c F H σ ρ p q pv v u Q rel r1 r2 e k
 unfold Ge at e
 split at e
 ·cases e
  cases r1.int
  cases r2.int
  exact k _ F H rel (Same.refl _) (Same.refl _) Rep.bl
 ·cases e
def oO{C:Int->Int->Bool}{C':Int->Int->Prop}{g:Int->Int->Int}(hC:∀i j,C i j=true->C' i j):fu K (mI C' λi j=>.int (g i j)) (jr C g):=by
 intro c F H σ ρ p q pv v u Q rel r1 r2 e k
 unfold jr at e
 split at e
 ·split at e
  ·rename_i hc
   cases e
   cases r1.int
   cases r2.int
   exact⟨hC _ _ hc,k _ F H rel (Same.refl _) (Same.refl _) Rep.int⟩
  ·cases e
 ·cases e
def ţ(_ j:Int):Bool:=decide (j≠0) && decide (bits j<=8000)
def ŀ:=jr ţ λi j=>i.fdiv j
def xK:fu K (mI lH λi j=>.int (i.fdiv j)) ŀ:=oO λi j h=>by unfold ţ at h;simpa[lH] using h
def jH(_ j:Int):Bool:=decide (j≠0)
def Ħ:=jr jH λi j=>i.fmod j
def xM:fu K (mI (λ_ j=>j≠0) λi j=>.int (i.fmod j)) Ħ:=oO λi j h=>by unfold jH at h;simpa using h
def gK(i j:Int):Bool:=decide (0<=j) && decide (j.natAbs<=1000000) && decide (i.natAbs<18446744073709551616)
def oR:=jr gK λi j=>i ^ j.toNat
def xO:fu K (mI lA λi j=>.int (i ^ j.toNat)) oR:=oO λi j h=>by
 unfold gK at h
 simp only[Bool.and_eq_true,decide_eq_true_eq] at h
 exact⟨h.1.1,by omega,by have:=h.2;simpa using this⟩
def gM(i j:Int):Bool:=decide (0<=j) && decide (j.natAbs<=1000000) && decide (i.natAbs<18446744073709551616)
def oU:=jr gM λi j=>i*2 ^ j.toNat
def xP:fu K (mI lA λi j=>.int (i*2 ^ j.toNat)) oU:=oO λi j h=>by
 unfold gM at h
 simp only[Bool.and_eq_true,decide_eq_true_eq] at h
 exact⟨h.1.1,by omega,by have:=h.2;simpa using this⟩
def gO(_ j:Int):Bool:=decide (0<=j)
def jJ:=jr gO λi j=>i / 2 ^ j.toNat
def xQ:fu K (mI (λ_ j=>0<=j) λi j=>.int (i / 2 ^ j.toNat)) jJ:=oO λi j h=>by unfold gO at h;simpa using h
def bV:=gb λi j=>Builtin.bitAnd i j
def sX:fu K (wJ λi j=>.int (Builtin.bitAnd i j)) bV:=zZ
def xR:ķ X (binaryOp .LShift) (mI lA λi j=>.int (i*2 ^ j.toNat)):=ķ.wk vU dh
def xT:ķ X (binaryOp .RShift) (mI (λ_ j=>0<=j) λi j=>.int (i / 2 ^ j.toNat)):=ķ.wk vV dh
def sY:ķ X (binaryOp .BitAnd) (wJ λi j=>.int (Builtin.bitAnd i j)):=ķ.wk vW nj
def sZ:=Ge λi j=>decide (j<i)
def z_:fu K (wJ λi j=>.bl (decide (j<i))) sZ:=Gf
def Ň(i j:Int):Bool:=decide (i.natAbs<18446744073709551616) || decide (j.natAbs<18446744073709551616) || (decide (bits i<=1048576) && decide (bits j<=1048576))
def oV{i j:Int}(h:Ň i j=true):dw i j:=by
 unfold Ň at h
 simp only[Bool.or_eq_true,Bool.and_eq_true,decide_eq_true_eq] at h
 rcases h with(h|h)|h
 ·exact .inl (.inl ⟨by omega,by omega⟩)
 ·exact .inl (.inr ⟨by omega,by omega⟩)
 ·exact .inr h
def Ĵ:PV->PV->Option PV
 | .int i,.int j=>if Ň i j=true then some (.int (i*j)) else none
 | .str z,.int n=>if 0<=n/\n<=1000/\z.length<=1000 then some (.str (S (List.replicate n.toNat z.cps.toList).flatten)) else none
 |_,_=>none
def xU:fu K nG Ĵ:=by
 intro c F H σ ρ p q pv v u Q rel r1 r2 e k
 unfold Ĵ at e
 split at e
 ·split at e
  ·rename_i hc
   cases e
   cases r1.int
   cases r2.int
   exact⟨oV hc,k _ F H rel (Same.refl _) (Same.refl _) Rep.int⟩
  ·cases e
 ·split at e
  ·rename_i hc
   cases e
   cases r1.str
   cases r2.int
   exact⟨hc,k _ F H rel (Same.refl _) (Same.refl _) Rep.str⟩
  ·cases e
 ·cases e
variable{E:L2.St->XK}{a b e:Expr}{es:List Expr}{pos:Pos}{ma mb:M PV}{mr:M (List PV)}
mutual
def eqB:PV->PV->Bool
 | .non,.non=>true
 | .bl a,.bl b=>a== b
 | .bl a,.int j=>(if a then 1 else 0)== j
 | .int i,.bl b=>i== (if b then 1 else 0)
 | .int i,.int j=>i== j
 | .str x,.str y=>x== y
 | .lst xs,.lst ys=>Ŗ xs ys
 | .tup xs,.tup ys=>Ŗ xs ys
 |_,_=>false
def Ŗ:List PV->List PV->Bool
 | [],[]=>true
 |x::xs,y::ys=>eqB x y && Ŗ xs ys
 |_,_=>false
end
mutual
def Į:PV->Bool
 | .non| .bl _| .int _=>true
 | .str x=>PyData.strOk x
 | .lst xs=>Ŷ xs
 | .tup xs=>Ŷ xs
 |_=>false
def Ŷ:List PV->Bool
 | []=>true
 |x::xs=>Į x && Ŷ xs
end
mutual
def dep:PV->Nat
 | .lst xs=>fJ xs+1
 | .tup xs=>fJ xs+1
 |_=>0
def fJ:List PV->Nat
 | []=>0
 |x::xs=>max (dep x) (fJ xs)
end
mutual
def toD:PV->PyData
 | .non=>.none
 | .bl b=>.bool b
 | .int i=>.int i
 | .str x=>.str x
 | .lst xs=>.list (ū xs)
 | .tup xs=>.tuple (ū xs)
 |_=>.none
def ū:List PV->List PyData
 | []=>[]
 |x::xs=>toD x::ū xs
end
mutual
theorem ao:∀p:PV,Į p=true->(toD p).canLay0=true
 | .non,_=>rfl
 | .bl _,_=>rfl
 | .int _,_=>rfl
 | .str x,h=>by unfold Į at h;unfold toD PyData.canLay0;exact h
 | .lst xs,h=>by unfold Į at h;unfold toD PyData.canLay0;exact bW xs h
 | .tup xs,h=>by unfold Į at h;unfold toD PyData.canLay0;exact bW xs h
 | .ins _ _ _,h=>by simp[Į] at h
 | .xc _ _ _,h=>by simp[Į] at h
 | .ty _,h=>by simp[Į] at h
 | .cls _,h=>by simp[Į] at h
theorem bW:∀ps:List PV,Ŷ ps=true->PyData.canLayAll0 (ū ps)=true
 | [],_=>rfl
 |p::ps,h=>by
  unfold Ŷ at h
  rw[Bool.and_eq_true] at h
  unfold ū PyData.canLayAll0
  rw[ao p h.1,bW ps h.2]
  rfl
end
mutual
theorem aq:∀p:PV,(toD p).depth=dep p
 | .non=>rfl
 | .bl _=>rfl
 | .int _=>rfl
 | .str x=>rfl
 | .lst xs=>by unfold toD PyData.depth dep;rw[bY xs]
 | .tup xs=>by unfold toD PyData.depth dep;rw[bY xs]
 | .ins _ _ _=>rfl
 | .xc _ _ _=>rfl
 | .ty _=>rfl
 | .cls _=>rfl
theorem bY:∀ps:List PV,PyData.depthAll (ū ps)=fJ ps
 | []=>rfl
 |p::ps=>by unfold ū PyData.depthAll fJ;rw[aq p,bY ps]
end
mutual
theorem jd:∀p q:PV,Į p=true->Į q=true->PyData.eqv (toD p) (toD q)=eqB p q
 | .lst xs,.lst ys,h1,h2=>by
   unfold Į at h1 h2
   unfold toD eqB PyData.eqv
   exact fK xs ys h1 h2
 | .tup xs,.tup ys,h1,h2=>by
   unfold Į at h1 h2
   unfold toD eqB PyData.eqv
   exact fK xs ys h1 h2
 | .ins _ _ _,_,h,_=>by simp[Į] at h
 | .xc _ _ _,_,h,_=>by simp[Į] at h
 | .ty _,_,h,_=>by simp[Į] at h
 | .cls _,_,h,_=>by simp[Į] at h
 | .non,q,_,h=>by cases q<;>first|rfl|(simp[Į] at h)|(simp[toD,eqB,PyData.eqv])
 | .bl _,q,_,h=>by cases q<;>first|rfl|(simp[Į] at h)|(simp[toD,eqB,PyData.eqv])
 | .int _,q,_,h=>by cases q<;>first|rfl|(simp[Į] at h)|(simp[toD,eqB,PyData.eqv])
 | .str _,q,_,h=>by cases q<;>first|rfl|(simp[Į] at h;done)|(simp[toD,eqB,PyData.eqv])
 | .lst _,.non,_,_=>by simp[toD,eqB,PyData.eqv]
 | .lst _,.bl _,_,_=>by simp[toD,eqB,PyData.eqv]
 | .lst _,.int _,_,_=>by simp[toD,eqB,PyData.eqv]
 | .lst _,.str _,_,_=>by simp[toD,eqB,PyData.eqv]
 | .lst _,.tup _,_,_=>by simp[toD,eqB,PyData.eqv]
 | .lst _,.ins _ _ _,_,h=>by simp[Į] at h
 | .lst _,.xc _ _ _,_,h=>by simp[Į] at h
 | .lst _,.ty _,_,h=>by simp[Į] at h
 | .lst _,.cls _,_,h=>by simp[Į] at h
 | .tup _,.non,_,_=>by simp[toD,eqB,PyData.eqv]
 | .tup _,.bl _,_,_=>by simp[toD,eqB,PyData.eqv]
 | .tup _,.int _,_,_=>by simp[toD,eqB,PyData.eqv]
 | .tup _,.str _,_,_=>by simp[toD,eqB,PyData.eqv]
 | .tup _,.lst _,_,_=>by simp[toD,eqB,PyData.eqv]
 | .tup _,.ins _ _ _,_,h=>by simp[Į] at h
 | .tup _,.xc _ _ _,_,h=>by simp[Į] at h
 | .tup _,.ty _,_,h=>by simp[Į] at h
 | .tup _,.cls _,_,h=>by simp[Į] at h
theorem fK:∀ps qs:List PV,Ŷ ps=true->Ŷ qs=true->PyData.eqvAll (ū ps) (ū qs)=Ŗ ps qs
 | [],[],_,_=>by simp[ū,Ŗ,PyData.eqvAll]
 | [],_::_,_,_=>by simp[ū,Ŗ,PyData.eqvAll]
 |_::_,[],_,_=>by simp[ū,Ŗ,PyData.eqvAll]
 |p::ps,q::qs,h1,h2=>by
  unfold Ŷ at h1 h2
  rw[Bool.and_eq_true] at h1 h2
  unfold ū Ŗ PyData.eqvAll
  rw[jd p q h1.1 h2.1,fK ps qs h1.2 h2.2]
end
mutual
theorem oW{F:Hp}:∀(p:PV) (v:V),Į p=true->Rep K F p v->Rp K.K F (toD p) v
 | .non,_,_,r=>by unfold Rep at r;unfold toD Rp;exact r
 | .bl _,_,_,r=>by unfold Rep at r;unfold toD Rp;exact r
 | .int _,_,_,r=>by unfold Rep at r;unfold toD Rp;exact r
 | .str _,_,_,r=>by unfold Rep at r;unfold toD Rp;exact r
 | .lst xs,_,h,r=>by
   unfold Į at h
   unfold Rep at r
   unfold toD Rp
   obtain⟨a,vs,h1,h2,h3⟩:=r
   exact⟨a,vs,h1,h2,bA xs vs h h3⟩
 | .tup xs,_,h,r=>by
   unfold Į at h
   unfold Rep at r
   unfold toD Rp
   obtain⟨a,vs,h1,h2,h3⟩:=r
   exact⟨a,vs,h1,h2,bA xs vs h h3⟩
 | .ins _ _ _,_,h,_=>by simp[Į] at h
 | .xc _ _ _,_,h,_=>by simp[Į] at h
 | .ty _,_,h,_=>by simp[Į] at h
 | .cls _,_,h,_=>by simp[Į] at h
theorem bA{F:Hp}:∀(ps:List PV) (vs:List V),Ŷ ps=true->ā K F ps vs->cJ K.K F (ū ps) vs
 | [],_,_,r=>by unfold ā at r;unfold ū cJ;exact r
 |p::ps,_,h,r=>by
  unfold Ŷ at h
  rw[Bool.and_eq_true] at h
  unfold ā at r
  unfold ū cJ
  obtain⟨x,t,h1,h2,h3⟩:=r
  exact⟨x,t,h1,oW p x h.1 h2,bA ps t h.2 h3⟩
end
def bB{c:Ctx}{F H:Hp}{σ:L2.St}{ρ:Đ}{p:PV}{v:V}(s:Same F H)(h:Į p=true)(r:rR K c σ ρ F H p v):Rp K.K H (toD p) v:=by
 rcases r with r|r
 ·exact Rp.same s _ _ (oW p v h r)
 ·cases p with
  |lst ps=>
   obtain⟨a,vs,rfl,h3,h4⟩:=r
   unfold Į at h
   unfold toD Rp
   exact⟨a,vs,rfl,Ľ.of h3,cJ.same s _ _ (bA ps vs h h4)⟩
  |ins C ns ps=>simp[Į] at h
  |_=>exact r.elim
def gP(p q:PV):Bool:=Į p && Į q && decide (min (dep p) (dep q)<=60)
def ŷ(p q:PV):Option PV:=if gP p q=true then some (.bl (eqB p q)) else none
def Ÿ(p q:PV):Option PV:=if gP p q=true then some (.bl (!eqB p q)) else none
def uL:fu K (rJ K.K false) ŷ:=by
 intro c F H σ ρ p q pv v u Q rel r1 r2 e k
 unfold ŷ at e
 split at e
 ·rename_i hz
  cases e
  unfold gP at hz
  simp only[Bool.and_eq_true,decide_eq_true_eq] at hz
  refine⟨toD p,toD q,bB rel.sub hz.1.1 r1,bB rel.sub hz.1.2 r2,ao p hz.1.1,ao q hz.1.2,by rw[aq,aq];exact hz.2,?_⟩
  rw[jd p q hz.1.1 hz.1.2]
  exact k _ F H rel (Same.refl _) (Same.refl _) Rep.bl
 ·cases e
def Aa:fu K (rJ K.K true) Ÿ:=by
 intro c F H σ ρ p q pv v u Q rel r1 r2 e k
 unfold Ÿ at e
 split at e
 ·rename_i hz
  cases e
  unfold gP at hz
  simp only[Bool.and_eq_true,decide_eq_true_eq] at hz
  refine⟨toD p,toD q,bB rel.sub hz.1.1 r1,bB rel.sub hz.1.2 r2,ao p hz.1.1,ao q hz.1.2,by rw[aq,aq];exact hz.2,?_⟩
  rw[jd p q hz.1.1 hz.1.2]
  exact k _ F H rel (Same.refl _) (Same.refl _) Rep.bl
 ·cases e
def aG:PV->PV->Option PV
 | .lst ps,.int i=>eE ps i
 | .tup ps,.int i=>eE ps i
 | .str z,.int i=>if z.length<=16777216 then(eE z.cps.toList i).map λc=>.str ⟨#[c]⟩ else none
 |_,_=>none
def jK{F:Hp}{ps:List PV}{vs:List V}{i:Int}{p:PV}(r:ā K F ps vs)(h:eE ps i=some p):∃v,eE vs i=some v/\Rep K F p v:=by
 unfold eE at h ⊢
 rw[r.length] at h
 cases e:yx vs.length i with
 |none=>rw[e] at h;cases h
 |some j=>
  rw[e] at h
  obtain⟨v,h1,h2⟩:=ŵ r.pr h
  exact⟨v,h1,h2⟩
def Ab:fu K (Ir K.K) aG:=by
 intro c F H σ ρ p q pv v u Q rel r1 r2 e k
 unfold aG at e
 split at e
 ·obtain⟨a,vs,rfl,h1,h2⟩:=r1.lst rel.sub
  cases r2.int
  obtain⟨x,h3,h4⟩:=jK h2 e
  exact⟨vs,x,.inl h1,h3,k _ F H rel (Same.refl _) (Same.refl _) h4⟩
 ·obtain⟨a,vs,rfl,h1,h2⟩:=r1.tup rel.sub
  cases r2.int
  obtain⟨x,h3,h4⟩:=jK h2 e
  exact⟨vs,x,.inr h1,h3,k _ F H rel (Same.refl _) (Same.refl _) h4⟩
 ·split at e
  ·rename_i z i hz
   cases r1.str
   cases r2.int
   cases ea:eE z.cps.toList i with
   |none=>rw[ea] at e;cases e
   |some cc=>
    rw[ea] at e
    cases e
    exact⟨cc,by rw[Ċ];exact hz,ea,k _ F H rel (Same.refl _) (Same.refl _) Rep.str⟩
  ·cases e
 ·cases e
def oX:M (Option Int):=λρ=>.ok none ρ
def mP(m:M PV):M (Option Int):=λρ=>(m ρ).bind λp ρ1=>match p with
 | .int i=>.ok (some i) ρ1
 |_=>.bad
abbrev tP(K:KK)(E:L2.St->XK)(m:M (Option Int)):TO:=tG K E rI m
def oY:PO X none (tP (kk X cm) E oX):=λpins s σ H Q I h=>q_ pins s σ H Q I (by
 obtain⟨c,F,ρ,rel,h⟩:=h
 exact h none F H rel (Same.refl _) (Same.refl _) rfl)
def fL(ha:PE X e (tV (kk X cm) E ma)):PO X (some e) (tP (kk X cm) E (mP ma)):=λpins s σ H Q I h=>nq ha pins s σ H Q I (by
 obtain⟨c,F,ρ,rel,h⟩:=h
 refine⟨c,F,ρ,rel,h.bind λp ρ1 v F1 H1 Ă _ _ r1 h1=>?_⟩
 cases p with
 |int i=>
  have e:v=.int i:=by have r1':Rep (kk X cm) F1 (.int i) v:=r1;unfold Rep at r1';exact r1'
  subst e
  exact h1 (some i) F1 H1 Ă (Same.refl _) (Same.refl _) rfl
 |_=>exact h1.elim)
def je{α:Type}(xs:List α)(lo hi:Option Int):List α:= (xs.drop (HT.ľ xs.length 0 lo)).take (HT.ľ xs.length xs.length hi-HT.ľ xs.length 0 lo)
def tu(p:PV)(lo hi:Option Int):Option RV:=match p with
 | .lst ps=>some (.ow (je ps lo hi))
 | .str z=>if z.length<=16777216 then some (.sh (.str (S (je z.cps.toList lo hi)))) else none
 |_=>none
def yC(ma:M PV)(ml mh:M (Option Int)):M RV:=λρ=>(ma ρ).bind λp ρ1=>(ml ρ1).bind λlo ρ2=>(mh ρ2).bind λhi ρ3=>Res.iC (tu p lo hi) ρ3
def fM{ml mh:M (Option Int)}{lo hi:Option Expr}{p2:Pos}(ha:PE X a (tR (kk X cm) E ma))(hl:PO X lo (tP (kk X cm) E ml))(hh:PO X hi (tP (kk X cm) E mh)):PE X (.Subscript a (.Slice lo hi none p2) pos) (tO (kk X cm) E (yC ma ml mh)):=
 PE.wk (mY JQ ha hl hh) fun σ H Q ⟨c,F,ρ,rel,h⟩=>⟨c,F,ρ,rel,h.bind fun p ρ1 v F1 H1 Ă _ _ r1 h1=>⟨c,F1,ρ1,Ă,h1.bind fun lo ρ2 lo' F2 H2 ď sF sH r2 h2=>⟨c,F2,ρ2,ď,h2.bind fun hi ρ3 hi' F3 H3 iW JW IK r3 h3=>by
   have e2:lo=lo':=r2
   have e3:hi=hi':=r3
   subst e2 e3
   have r1':rR (kk X cm) c σ ρ3 F3 H3 p v:=r1.mono (sF.trans JW) (sH.trans IK)
   cases p with
   |lst ps=>
    obtain⟨a,vs,rfl,q1,q2⟩:=r1'.lst iW.sub
    refine⟨vs,q1,λd hd=>?_⟩
    have e:ā (kk X cm) F3 (je ps lo hi) (gn vs lo hi):=by
     unfold je gn
     rw[q2.length]
     exact ā.of (jy _ (jz _ q2.pr))
    obtain⟨z1,z2⟩:=ņ iW hd e
    exact h3 _ F3 _ z1 (Same.refl _) (Same.upd hd) z2
   |str z=>
    cases r1'.str
    unfold tu at h3
    dsimp only at h3
    split at h3
    ·rename_i hz
     exact⟨by rw[Ċ];exact hz,h3 _ F3 H3 iW (Same.refl _) (Same.refl _) (Rep.str (K:=kk X cm) (F:=F3))⟩
    ·exact h3.elim
   |_=>exact h3.elim⟩⟩⟩
def Ac{c:Ctx}{F H:Hp}{σ:L2.St}{ρ:Đ}{p:PV}{vs:List V}(h:zG K c σ ρ F H [p] vs):∃v,vs=[v]/\rR K c σ ρ F H p v:=by
 cases h with
 |cons r t=>cases t;exact⟨_,rfl,r⟩
def IW{c:Ctx}{F H:Hp}{σ:L2.St}{ρ:Đ}{p q:PV}{vs:List V}(h:zG K c σ ρ F H [p,q] vs):∃v u,vs=[v,u]/\rR K c σ ρ F H p v/\rR K c σ ρ F H q u:=by
 cases h with
 |cons r t=>
  cases t with
  |cons r' t=>cases t;exact⟨_,_,rfl,r,r'⟩
def gQ:List PV->Option PV
 | [.lst ps]=>some (.int ps.length)
 | [.tup ps]=>some (.int ps.length)
 | [.str z]=>if z.length<=16777216 then some (.int z.length) else none
 |_=>none
def fO:gG K (wO K.K) gQ:=by
 intro c F H σ ρ ps pv vs Q rel r e k
 unfold gQ at e
 split at e
 ·cases e
  obtain⟨v,rfl,r1⟩:=Ac r
  obtain⟨a,xs,rfl,h1,h2⟩:=r1.lst rel.sub
  refine⟨xs,.inl h1,?_⟩
  rw[<-h2.length]
  exact k _ F H rel (Same.refl _) (Same.refl _) Rep.int
 ·cases e
  obtain⟨v,rfl,r1⟩:=Ac r
  obtain⟨a,xs,rfl,h1,h2⟩:=r1.tup rel.sub
  refine⟨xs,.inr h1,?_⟩
  rw[<-h2.length]
  exact k _ F H rel (Same.refl _) (Same.refl _) Rep.int
 ·split at e
  ·rename_i hz
   cases e
   obtain⟨v,rfl,r1⟩:=Ac r
   cases r1.str
   exact⟨by rw[Ċ];exact hz,k _ F H rel (Same.refl _) (Same.refl _) Rep.int⟩
  ·cases e
 ·cases e
def gR:List PV->Option RV
 | [.lst ps]=>some (.ow ps)
 | [.tup ps]=>some (.ow ps)
 |_=>none
def jL(K:PySem.W.Frag):List V->Hp->VK->Prop:=λxs H Q=>∃p ys,xs=[.ref p]/\(Ľ K H p ys\/Ŭ K H p ys)/\∀l,H l=none->Q (.ref l) (upd H l (.lst ys))
def tD:ĺ X (.type "list") (jL X.K):=eO
def tE:n_ K (jL K.K) gR:=by
 intro c F H σ ρ ps pv vs Q rel r e k
 unfold gR at e
 split at e
 ·cases e
  obtain⟨v,rfl,r1⟩:=Ac r
  obtain⟨a,xs,rfl,h1,h2⟩:=r1.lst rel.sub
  refine⟨a,xs,rfl,.inl h1,λl hl=>?_⟩
  obtain⟨q1,q2⟩:=ņ rel hl h2
  exact k _ F _ q1 (Same.refl _) (Same.upd hl) q2
 ·cases e
  obtain⟨v,rfl,r1⟩:=Ac r
  obtain⟨a,xs,rfl,h1,h2⟩:=r1.tup rel.sub
  refine⟨a,xs,rfl,.inr h1,λl hl=>?_⟩
  obtain⟨q1,q2⟩:=ņ rel hl h2
  exact k _ F _ q1 (Same.refl _) (Same.upd hl) q2
 ·cases e
def aH:PV->String->Option Bool
 | .int _,"int" =>some true
 | .int _,"bool" =>some false
 | .int _,"str" =>some false
 | .int _,"tuple" =>some false
 | .int _,"list" =>some false
 | .bl _,"int" =>some true
 | .bl _,"bool" =>some true
 | .lst _,"list" =>some true
 | .lst _,"tuple" =>some false
 | .lst _,"int" =>some false
 | .lst _,"str" =>some false
 | .tup _,"tuple" =>some true
 | .tup _,"list" =>some false
 | .tup _,"int" =>some false
 | .tup _,"str" =>some false
 | .str _,"str" =>some true
 | .str _,"int" =>some false
 | .str _,"list" =>some false
 | .str _,"tuple" =>some false
 | .non,"int" =>some false
 | .non,"str" =>some false
 | .non,"tuple" =>some false
 | .non,"list" =>some false
 |_,_=>none
end
theorem gU{K:KK}{F:Hp}:∀ns:List Int,ā K F (ns.map .int) (ns.map V.int)
 | []=>ā.nil
 |n::ns=>ā.cons Rep.int (gU ns)
def Ad(K:PySem.W.Frag):Sp:=λvs H Q _=>∃(sa:Addr) (ns:List Int),vs=[.ref sa]/\Ľ K H sa (ns.map V.int)/\ns.length<=63/\∀v H',v=.bl true->Q v H'
def oZ{l:PySem.W.OpenLaw}{k:Nat}{x:Str}{CX:aC}{m:MF}{q:Program}{loose:List Str}{XP:(Str->Option Value)->Heap->Prop}{YP:World->Heap->Prop}{d:DefRec}{K:Params->PySem.W.Frag}(hn:l.most=some 63)(hdf:d.params.defaults=[])(hr:ł k callerA)
 (hY:∀(w:World) (h:Heap),YP w h->(K w.params).In h)
 (F:∀(w:World) (mg:Str→Option Value) (fa:Addr) (h:Heap),(K w.params).In h→h.Ns mainGlobals mg→mg d.name=some (.ref fa)→
   ∃fd:FuncData,(∀(s:Shared) (u:Value),BindsTo s fd ⟨[u],[]⟩ [(x,u)])/\∀base:Heap,(K w.params).In base->base.Ns mainGlobals mg->∃cm,į l.prog w (K w.params) mg base CX k fa fd [x] (dI ⟨K w.params,cm⟩ 1 m))
 (ht:∀ns:List Int,ns.length<=63->m [.sh (.lst (ns.map .int))]=.ret (.sh (.bl true)))
 (zf:∀(H:Hp) (s:Shared) (e:Value) (s':Shared),CX [] H s (λ_ _ _=>False) e s'->False)
 (hnt:lams≠[]->∀w:World,PySem.W.noTabs (K w.params)=true:=by intro z;exact absurd rfl z)(hone:∀y z,y∈lams->z∈lams->y=z:=by simp[lams])(hrec:∀y,y∈lams->∃d,(recsOf q).find? (λe=>e.name== y)=some d:=by simp[lams]) :
 PySem.W.WalkO q loose XP YP l.row.toRowW d [] (λf vs=>PySem.call f vs):=by
 refine L2.rE (n:=63) (k:=k) (x:=x) (CX:=λ_=>CX) (sp:=λw=>Ad (K w.params)) hn (by decide) hdf hr hY (λw mg fa h h1 h2 h3=>?_) (λw H a ns hl _ hS=>⟨a,ns,rfl,hS,hl,λ_ _ z=>z⟩) (λw H s e s' z=>zf H s e s' z) hnt hone hrec
 obtain⟨fd,hb,hF⟩:=F w mg fa h h1 h2 h3
 refine⟨fd,hb,λbase k1 k2=>?_⟩
 obtain⟨cm,G⟩:=hF base k1 k2
 refine G.imp λvs H Q E hs=>?_
 obtain⟨sa,ns,rfl,hS,hl,hq⟩:=hs
 refine⟨H,[.sh (.lst (ns.map .int))],rfl,Same.refl _,.cons ?_ .nil,?_⟩
 ·show Rep _ _ _ _
  unfold Rep
  exact⟨sa,_,rfl,hS,gU ns⟩
 ·rw[ht ns hl]
  intro v F' H' g rf
  have e:v=.bl true:=nW (K:=⟨K w.params,cm⟩) (F:=F') rf
  exact hq v H' e
end P
namespace P
open PySem PySem.Spec PyProof.Rows L2 M2 M3 M4
section
variable{X:Cx}{cm:String->Addr}{K:KK}
def CW(K:PySem.W.Frag)(H:Hp)(x:V)(t:Value):Prop:=match x with
 | .non=>t=.type "NoneType"
 | .bl _=>t=.type "bool"
 | .int _=>t=.type "int"
 | .str _=>t=.type "str"
 | .ref a=>(t=.type "list" /\∃xs,Ľ K H a xs)\/(t=.type "tuple" /\∃xs,Ŭ K H a xs)\/aB K H (.ref a) t
 |_=>False
def o_(K:PySem.W.Frag):List V->Hp->VK->Prop:=λxs H Q=>match xs with
 | [x,.ty n]=>∃t b,CW K H x t/\PySem.W.kitOne K t (.type n)=some b/\Q (.bl b) H
 | [x,.ref C]=>∃t b,CW K H x t/\PySem.W.kitOne K t (.ref C)=some b/\Q (.bl b) H
 |_=>False
def jM{pins:List (Addr×Obj)}{σ:L2.St}{H:Hp}{s:Shared}{A:Around}{E:Value->Shared->Prop}{Q:Value->Shared->Prop}{c:Value}{b:Bool}{x:V}{u t:Value}(I:Inv X pins σ H s)(rx:RelV x u)(ty:CW X.K H x t)(e:PySem.W.kitOne X.K t c=some b)(h:∀tk,Q (.bool b) {s with toks:=tk}) :
 wpAny (model X.prog X.w) A (call (.builtin "isinstance") [u,c]) Q E s:=by
 cases x with
 |non=>cases(show t=_ from ty);exact Ņ I rx .non e h
 |bl y=>cases(show t=_ from ty);exact Ņ I rx (.bl y) e h
 |int y=>cases(show t=_ from ty);exact Ņ I rx (.int y) e h
 |str y=>cases(show t=_ from ty);exact Ņ I rx (.str y) e h
 |ref a=>
  cases(show u=Value.ref a from rx)
  rcases ty with⟨rfl,xs,hS⟩|⟨rfl,xs,hS⟩|ty
  ·obtain⟨its,r,⟨o,n,h1,h2,_⟩,_⟩:=I.list hS
   exact PySem.W.kia_one PySem.W.kitx_list I.dU ⟨o,h1,h2⟩ e (λz=>nomatch z) h
  ·obtain⟨its,r,⟨o,h1,h2,_⟩,_⟩:=I.tuple hS
   exact PySem.W.kia_one PySem.W.kitx_tuple I.dU ⟨o,h1,h2⟩ e (λz=>nomatch z) h
  ·exact Ņ I rx ty e h
 |_=>exact ty.elim
def aJ:ĺ X (.builtin "isinstance") (o_ X.K):=by
 intro pins s σ H xs us Q I r h
 unfold o_ at h
 split at h
 ·obtain⟨t,b,h1,h2,h3⟩:=h
  obtain⟨u,w',rfl,r1,r2⟩:=vals2 r
  cases r2
  exact jM I r1 h1 h2 λtk=>⟨.bl b,H,I.tok _,rfl,h3⟩
 ·obtain⟨t,b,h1,h2,h3⟩:=h
  obtain⟨u,w',rfl,r1,r2⟩:=vals2 r
  cases r2
  exact jM I r1 h1 h2 λtk=>⟨.bl b,H,I.tok _,rfl,h3⟩
 ·exact h.elim
def I_:PV->String
 | .non=> "NoneType"
 | .bl _=> "bool"
 | .int _=> "int"
 | .str _=> "str"
 | .lst _=> "list"
 | .tup _=> "tuple"
 |_=> ""
def pq{F:PySem.W.Frag}{p:PV}{n:String}{b:Bool}(h:aH p n=some b):PySem.W.kitOne F (.type (I_ p)) (.type n)=some b:=by
 unfold aH at h
 split at h<;>first
  |(cases h;first|rfl|decide +kernel|kernel_rfl)
  |cases h
def tH{c:Ctx}{F H:Hp}{σ:L2.St}{ρ:Đ}{p:PV}{v:V}(s:Same F H)(r:rR K c σ ρ F H p v)(h:∃n b,aH p n=some b):CW K.K H v (.type (I_ p)):=by
 obtain⟨n,b,h⟩:=h
 cases p with
 |non=>cases r.non;rfl
 |bl _=>cases r.bl;rfl
 |int _=>cases r.int;rfl
 |str _=>cases r.str;rfl
 |lst ps=>
  obtain⟨a,vs,rfl,h1,h2⟩:=r.lst s
  exact .inl ⟨rfl,vs,h1⟩
 |tup ps=>
  obtain⟨a,vs,rfl,h1,h2⟩:=r.tup s
  exact .inr (.inl ⟨rfl,vs,h1⟩)
 |ins _ _ _=>simp[aH] at h
 |xc _ _ _=>simp[aH] at h
 |ty _=>simp[aH] at h
 |cls _=>simp[aH] at h
def fP:List PV->Option PV
 | [p,.ty n]=>(aH p n).map .bl
 |_=>none
def aK:gG K (o_ K.K) fP:=by
 intro c F H σ ρ ps pv vs Q rel r e k
 unfold fP at e
 split at e
 ·rename_i p n
  obtain⟨v,u,rfl,r1,r2⟩:=IW r
  cases r2.ty
  cases eb:aH p n with
  |none=>rw[eb] at e;cases e
  |some b=>
   rw[eb] at e
   cases e
   exact⟨_,b,tH rel.sub r1 ⟨n,b,eb⟩,pq eb,k _ F H rel (Same.refl _) (Same.refl _) Rep.bl⟩
 ·cases e
def jN(_ j:Int):Bool:=decide (0<j) && decide (j.natAbs<1073741824)
def Ũ:List PV->Option PV
 | [.int i,.int j]=>if jN i j=true then some (.tup [.int (i / j),.int (i % j)]) else none
 |_=>none
def jO:List V->Hp->VK->Prop:=λxs H Q=>∃i j,xs=[.int i,.int j]/\yQ i j/\∀p,H p=none->Q (.ref p) (upd H p (.tup [.int (i / j),.int (i % j)]))
def lN:ĺ X (.builtin "divmod") jO:=gj
def lO:gG K jO Ũ:=by
 intro c F H σ ρ ps pv vs Q rel r e k
 unfold Ũ at e
 split at e
 ·split at e
  ·rename_i i j hd
   cases e
   obtain⟨v,u,rfl,r1,r2⟩:=IW r
   cases r1.int
   cases r2.int
   unfold jN at hd
   simp only[Bool.and_eq_true,decide_eq_true_eq] at hd
   refine⟨i,j,rfl,⟨hd.1,by omega⟩,λl hl=>k _ _ _ (rel.alloc hl) (Same.upd (rel.sub.free hl)) (Same.upd hl) ?_⟩
   unfold Rep
   exact⟨l,_,rfl,Ŭ.of ĉ,ā.cons Rep.int (ā.cons Rep.int ā.nil)⟩
  ·cases e
 ·cases e
end
end P
namespace P
open PySem PySem.Spec PyProof.Rows L2 M2 M3 M4
section
variable{α β:Type}{ρ:Đ}{i j n k:Nat}{p q:PV}{ps:List PV}{m ma mb mc:M PV}{mo:M RV}{a b:M Fl}{ta tb:M Bool}{mr:M (List PV)}{f:PV->PV->Option PV}{fo:PV->PV->Option RV}{fl:List PV->Option PV}{Ja:List PV->Option RV}{g:Tg}{gs:mD}
@[simp] theorem Jb:oh ρ=.ok .nx ρ:= rfl
@[simp] theorem Gg:Ğ a b ρ=(a ρ).bind λf ρ1=>match f with| .nx=>b ρ1|f=>.ok f ρ1:=rfl
@[simp] theorem Gh:ĸ i mo ρ=(mo ρ).bind λr ρ1=>.ok .nx (ρ1.set i r.slot):=rfl
@[simp] theorem Gi:Ń mo ρ=(mo ρ).bind λr ρ1=>.ok (.rt r) ρ1:=rfl
@[simp] theorem JX:mC p ρ=.ok p ρ:= rfl
@[simp] theorem Jc:dF m ρ=(m ρ).bind λp ρ1=>.ok (.sh p) ρ1:=rfl
@[simp] theorem Gj:Ī mo ρ=(mo ρ).bind λr ρ1=>.ok r.val ρ1:=rfl
@[simp] theorem Gk:(RV.sh p).val=p:=rfl
@[simp] theorem Gm:(RV.ow ps).val=.lst ps:=rfl
@[simp] theorem Gn:(RV.sh p).slot=.sh p:=rfl
@[simp] theorem Gp:(RV.ow ps).slot=.ow ps:=rfl
@[simp] theorem Gq:Ć f ma mb ρ=(ma ρ).bind λp ρ1=>(mb ρ1).bind λq ρ2=>Res.iC (f p q) ρ2:=rfl
@[simp] theorem CZ:ĵ fo ma mb ρ=(ma ρ).bind λp ρ1=>(mb ρ1).bind λq ρ2=>Res.iC (fo p q) ρ2:=rfl
@[simp] theorem Gs:aY m ρ=(m ρ).bind λp ρ1=>Res.iC (xg p) ρ1:=rfl
@[simp] theorem Jd:iU m ρ=(m ρ).bind λp ρ1=>match p with| .bl b=>.ok b ρ1|_=>.bad:=rfl
@[simp] theorem C_:aQ ta ρ=(ta ρ).bind λb ρ1=>.ok (!b) ρ1:=rfl
@[simp] theorem Gu:gF ta tb ρ=(ta ρ).bind λb ρ1=>if b=true then .ok true ρ1 else tb ρ1:=rfl
@[simp] theorem Gv:nU ma mb ρ=(ma ρ).bind fun p ρ1=>match p with| .bl b=>if b=true then mb ρ1 else .ok (.bl false) ρ1|_=>.bad:=by
  unfold nU
  congr
  funext p ρ1
  cases p with
  |bl b=>cases b<;>rfl
  |_=>rfl
@[simp] theorem Je{x y:M α}:mz ta x y ρ=(ta ρ).bind λb ρ1=>if b=true then x ρ1 else y ρ1:=rfl
@[simp] theorem Gw:Ġ ρ=.ok [] ρ:= rfl
@[simp] theorem Dc:Ĉ ma mr ρ=(ma ρ).bind λp ρ1=>(mr ρ1).bind λps ρ2=>.ok (p::ps) ρ2:=rfl
@[simp] theorem Gx:cT mr ρ=(mr ρ).bind λps ρ1=>if ps.length<=16777216 then .ok (.tup ps) ρ1 else .bad:=rfl
@[simp] theorem Gy:nY mr ρ=(mr ρ).bind λps ρ1=>if ps.length<=16777216 then .ok (.ow ps) ρ1 else .bad:=rfl
@[simp] theorem Jf:iV fl mr ρ=(mr ρ).bind λps ρ1=>Res.iC (fl ps) ρ1:=rfl
@[simp] theorem Gz:su Ja mr ρ=(mr ρ).bind λps ρ1=>Res.iC (Ja ps) ρ1:=rfl
@[simp] theorem Dd{mf:MF}{ms:M (List Slot)}:ĥ mf ms ρ=(ms ρ).bind λps ρ1=>match mf ps with| .ret r=>.ok r ρ1| .exc x=>.exc x ρ1| .bad=>.bad:=rfl
@[simp] theorem Jg:Ů i ρ=(match ρ[i]? with|some (.sh p)=>.ok p ρ|some (.ow ps)=>.ok (.lst ps) (ρ.set i (.sh (.lst ps)))|_=>.bad):=rfl
@[simp] theorem Jh:Ā i ρ=(match ρ[i]? with|some (.sh p)=>.ok p ρ|some (.ow ps)=>.ok (.lst ps) ρ|some (.bw ps)=>.ok (.lst ps) ρ|some (.rc C ns ps)=>.ok (.ins C ns ps) ρ|_=>.bad):=rfl
@[simp] theorem Ji:dD i ρ=(match ρ[i]? with|some (.sh p)=>.ok (.sh p) ρ|some (.ow ps)=>.ok (.ow ps) (ρ.set i .no)|_=>.bad):=rfl
@[simp] theorem GC:sE g m ρ=(m ρ).bind λp ρ1=>match g p ρ1 with|some ρ2=>.ok .nx ρ2|none=>.bad:=rfl
@[simp] theorem Jj:gN i p ρ=some (ρ.set i (.sh p)):=rfl
@[simp] theorem Ae:bM [] ρ=some ρ:= rfl
@[simp] theorem yD:ī g gs (p::ps) ρ=(g p ρ).bind λρ1=>gs ps ρ1:=rfl
@[simp] theorem Jk:gT n gs (.tup ps) ρ=if ps.length=n then gs ps ρ else none:=rfl
@[simp] theorem GD:oE i m ρ=(match ρ[i]? with
  |some (.ow _)=>(m ρ).bind λp ρ1=>match ρ1[i]? with
   |some (.ow ps)=>if ps.length<16777216 then .ok .nx (ρ1.set i (.ow (ps ++ [p]))) else .bad
   |_=>.bad
  |_=>.bad):=rfl
@[simp] theorem GF:oX ρ=.ok none ρ:= rfl
@[simp] theorem JZ:mP m ρ=(m ρ).bind λp ρ1=>match p with| .int i=>.ok (some i) ρ1|_=>.bad:=rfl
@[simp] theorem Jl{ml mh:M (Option Int)}:yC ma ml mh ρ=(ma ρ).bind λp ρ1=>(ml ρ1).bind λlo ρ2=>(mh ρ2).bind λhi ρ3=>Res.iC (tu p lo hi) ρ3:=rfl
@[simp] theorem fQ{lo hi:Option Int}:tu (.lst ps) lo hi=some (.ow (je ps lo hi)):=rfl
@[simp] theorem Af:ĳ m ρ=(m ρ).bind fun p ρ1=>match p with
  | .lst ps=>.ok ps ρ1
  | .tup ps=>.ok ps ρ1
  | .str z=>.ok (z.cps.toList.map λc=>.str ⟨#[c]⟩) ρ1
  |_=>.bad:=rfl
@[simp] theorem Ag{h:List PV->Option (List PV)}:bT h mr ρ=(mr ρ).bind λps ρ1=>Res.iC (h ps) ρ1:=rfl
@[simp] theorem xV{mi:M (List PV)}:bN mi g b ρ=(mi ρ).bind λitems ρ1=>forL g b items ρ1:=rfl
@[simp] theorem tK{js:List Nat}{nl:Nat}{mi:M (List PV)}{mt:M Bool}{me:M PV}:Ţ js nl mi g mt me ρ=(mi ρ).bind fun items ρ1=>match ļ g mt me items (gJ js nl ρ1) [] with
  |some ps=>.ok (.ow ps) ρ1
  |none=>.bad:=rfl
@[simp] theorem GJ:cU ρ=.ok true ρ:= rfl
@[simp] theorem GK{Jm:M Fl}{as:List Slot}:Š n k Jm as=if as.length=n then FR.of (Jm (startP k as)) else .bad:=rfl
@[simp] theorem GP{r:RV}:FR.of (.ok (.rt r) ρ)=.ret r:=rfl
@[simp] theorem GQ:FR.of (.ok .nx ρ)=.ret (.sh .non):=rfl
@[simp] theorem GR{x:PX}:FR.of (.exc x ρ)=.exc x:=rfl
@[simp] theorem GX:FR.of .bad=.bad:=rfl
@[simp] theorem Ah{as:List Slot}:startP k as=as++List.replicate (k-as.length) .no:=rfl
@[simp] theorem Dg:ħ ρ=.ok [] ρ:= rfl
@[simp] theorem Ai{ms:M (List Slot)}:ś ma ms ρ=(ma ρ).bind λp ρ1=>(ms ρ1).bind λas ρ2=>.ok (.sh p::as) ρ2:=rfl
@[simp] theorem Aj{ms:M (List Slot)}:ċ i ms ρ=(match(ρ[i]?).bind Ŝ with
  |none=>.bad
  |some _=>(ms ρ).bind λas ρ2=>match(ρ2[i]?).bind Ŝ with
   |some s=>.ok (s::as) ρ2
   |none=>.bad):=rfl
@[simp] theorem GZ:Ŝ (.sh p)=some (.sh p):=rfl
@[simp] theorem G_:Ŝ (.ow ps)=some (.bw ps):=rfl
@[simp] theorem Hf:Ŝ (.bw ps)=some (.bw ps):=rfl
@[simp] theorem Hg:fG (.sh p)=.sh p:=rfl
@[simp] theorem Hh:fG (.ow ps)=.bw ps:=rfl
@[simp] theorem Hi:fG (.bw ps)=.bw ps:=rfl
@[simp] theorem Hj{t:Bool}{kvs:List (DK×PV)}:fG (.od t kvs)=.bd t kvs:=rfl
@[simp] theorem Hl{t:Bool}{kvs:List (DK×PV)}:fG (.bd t kvs)=.bd t kvs:=rfl
@[simp] theorem Ho{js:List Nat}{nl:Nat}:gJ js nl ρ=js.map (λ(j:Nat)=>fG ((ρ[j]?).getD .no))++List.replicate nl .no:=rfl
@[simp] theorem Hq:Ļ i ρ=(match ρ[i]? with
  |some (.bw ps)=>.ok ps ρ
  |some (.sh (.lst ps))=>.ok ps ρ
  |some (.sh (.tup ps))=>.ok ps ρ
  |some (.sh (.str z))=>.ok (z.cps.toList.map λc=>.str ⟨#[c]⟩) ρ
  |some (.ow ps)=>.ok ps (ρ.set i (.sh (.lst ps)))
  |_=>.bad):=rfl
@[simp] theorem Dh{x y:Int}:Ķ (.int x) (.int y)=some (.sh (.int (x+y))):=rfl
@[simp] theorem Di{x y:Int}:Ĵ (.int x) (.int y)=if Ň x y=true then some (.int (x*y)) else none:=rfl
@[simp] theorem Dj{x y:Int}:ŀ (.int x) (.int y)=if ţ x y=true then some (.int (x.fdiv y)) else none:=rfl
@[simp] theorem Dk{x y:Int}:Ħ (.int x) (.int y)=if jH x y=true then some (.int (x.fmod y)) else none:=rfl
@[simp] theorem Dl{x y:Int}:oR (.int x) (.int y)=if gK x y=true then some (.int (x ^ y.toNat)) else none:=rfl
@[simp] theorem Dm{x y:Int}:oU (.int x) (.int y)=if gM x y=true then some (.int (x*2 ^ y.toNat)) else none:=rfl
@[simp] theorem Dp{x y:Int}:jJ (.int x) (.int y)=if gO x y=true then some (.int (x / 2 ^ y.toNat)) else none:=rfl
@[simp] theorem Hr{x y:Int}:sZ (.int x) (.int y)=some (.bl (decide (y<x))):=rfl
@[simp] theorem Hs{x y:Int}:ŷ (.int x) (.int y)=some (.bl (decide (x=y))):=by
  have h:eqB (.int x) (.int y)=decide (x=y):=by rw[eqB.eq_def];rfl
  rw[<-h];rfl
@[simp] theorem Ht{x y:Int}:Ÿ (.int x) (.int y)=some (.bl (!decide (x=y))):=by
  have h:eqB (.int x) (.int y)=decide (x=y):=by rw[eqB.eq_def];rfl
  rw[<-h];rfl
@[simp] theorem Hu{x y:Bool}:ŷ (.bl x) (.bl y)=some (.bl (x== y)):=rfl
@[simp] theorem Hv{x y:Bool}:Ÿ (.bl x) (.bl y)=some (.bl (!(x== y))):=rfl
@[simp] theorem Hw{x:Int}:aG (.lst ps) (.int x)=eE ps x:=rfl
@[simp] theorem Hx{x:Int}:aG (.tup ps) (.int x)=eE ps x:=rfl
@[simp] theorem Dq:gQ [.lst ps]=some (.int ps.length):=rfl
@[simp] theorem Dr:gQ [.tup ps]=some (.int ps.length):=rfl
@[simp] theorem Ak:gR [.lst ps]=some (.ow ps):=rfl
@[simp] theorem Al:gR [.tup ps]=some (.ow ps):=rfl
@[simp] theorem Hy{t:String}:fP [p,.ty t]=(aH p t).map .bl:=rfl
@[simp] theorem Ds{x:Bool}:xg (.bl x)=some x:=rfl
@[simp] theorem Dt{x:Int}:xg (.int x)=some (x != 0):=rfl
@[simp] theorem Du:xg (.lst ps)=some (!ps.isEmpty):=rfl
@[simp] theorem pA(xs:List α)(n:Nat):eE xs (n:Int)=xs[n]?:= by
  unfold eE yx
  rw[if_pos (by omega)]
  by_cases h:n<xs.length
  ·rw[if_pos (by omega)]
   simp
  ·rw[if_neg (by omega)]
   simp
   omega
@[simp] theorem Dv(xs:List α)(n:Nat):eE xs (no_index (OfNat.ofNat n):Int)=xs[(no_index (OfNat.ofNat n):Nat)]?:= pA xs n
@[simp] theorem yE{x y:Int}:jH x y=decide (y≠0):=rfl
end
def Am{x y:Int}(h1: -(2 ^ 64)<x)(h2:x<2 ^ 64):Ň x y=true:=by unfold Ň;rw[decide_eq_true (by omega:x.natAbs<18446744073709551616)];rfl
def mul_r{x y:Int}(h1: -(2 ^ 64)<y)(h2:y<2 ^ 64):Ň x y=true:=by unfold Ň;rw[decide_eq_true (by omega:y.natAbs<18446744073709551616)];simp
def Ao{x y:Int}(h1:y≠0)(h2:bits y<=8000):ţ x y=true:=by unfold ţ;simp[h1,h2]
section
variable{g:Tg}{mb:M Fl}{mc mt:M Bool}{me:M PV}{items:List PV}{ρ:Đ}
def pB(I:Nat->Đ->Prop)(R:Res Fl->Prop)(h0:I 0 ρ)
 (hs:∀i p ρ,items[i]?=some p->I i ρ->∃ρ1,g p ρ=some ρ1/\((∃ρ2,(mb ρ1=.ok .nx ρ2\/mb ρ1=.ok .ct ρ2)/\I (i+1) ρ2)\/(∃r ρ2,mb ρ1=.ok (.rt r) ρ2/\R (.ok (.rt r) ρ2))\/(∃ρ2,mb ρ1=.ok .bk ρ2/\R (.ok .nx ρ2))\/∃x ρ2,mb ρ1=.exc x ρ2/\R (.exc x ρ2)))
 (hd:∀ρ,I items.length ρ->R (.ok .nx ρ)):R (forL g mb items ρ):=by
 induction items generalizing ρ I with
 |nil=>exact hd ρ h0
 |cons p ps ih=>
  obtain⟨ρ1,e1,h⟩:=hs 0 p ρ rfl h0
  unfold forL
  rw[e1]
  dsimp only
  rcases h with⟨ρ2,e2,h2⟩|⟨r,ρ2,e2,h2⟩|⟨ρ2,e2,h2⟩|⟨x,ρ2,e2,h2⟩
  ·have go:R (forL g mb ps ρ2):=ih (λi=>I (i+1)) h2 (λi q ρ e hi=>hs (i+1) q ρ (by simpa using e) hi) (λρ h=>hd ρ (by simpa using h))
   rcases e2 with e2|e2
   ·rw[e2];exact go
   ·rw[e2];exact go
  ·rw[e2];exact h2
  ·rw[e2];exact h2
  ·rw[e2];exact h2
def bZ(I:Nat->Đ->Prop)(h0:I 0 ρ)(hs:∀i p ρ,items[i]?=some p->I i ρ->∃ρ1 ρ2,g p ρ=some ρ1/\mb ρ1=.ok .nx ρ2/\I (i+1) ρ2):∃ρ',forL g mb items ρ=.ok .nx ρ'/\I items.length ρ':=
 pB I (λr=>∃ρ',r=.ok .nx ρ'/\I items.length ρ') h0 (λi p ρ e hi=>by
  obtain⟨ρ1,ρ2,h1,h2,h3⟩:=hs i p ρ e hi
  exact⟨ρ1,h1,.inl ⟨ρ2,.inl h2,h3⟩⟩) λρ h=>⟨ρ,rfl,h⟩
theorem ũ{α:Type}(c f:α->PV)(I:Đ->Prop):∀(xs:List α) (ρ:Đ) (acc:List PV),I ρ->acc.length+xs.length<=16777216->
 (∀x∈xs,∀ρ,I ρ->∃ρ1 ρ2 ρ3,g (c x) ρ=some ρ1/\mt ρ1=.ok true ρ2/\me ρ2=.ok (f x) ρ3/\I ρ3)->ļ g mt me (xs.map c) ρ acc=some (acc++xs.map f)
 | [],ρ,acc,_,_,_=>by simp[ļ]
 |x::xs,ρ,acc,h,hz,hs=>by
  obtain⟨ρ1,ρ2,ρ3,h1,h2,h3,h4⟩:=hs x List.mem_cons_self ρ h
  rw[List.map_cons,ļ,h1]
  dsimp only
  rw[h2]
  dsimp only
  rw[h3]
  dsimp only
  rw[if_pos (by simp at hz;omega),ũ c f I xs ρ3 (acc ++ [f x]) h4 (by simp at hz ⊢;omega) λy hy=>hs y (List.mem_cons_of_mem _ hy)]
  simp
def jf{β:Type}(st:β->Đ)(I:β->Prop)(μ:β->Nat)(hs:∀b,I b->mc (st b)=.ok false (st b)\/(mc (st b)=.ok true (st b)/\∃b',mb (st b)=.ok .nx (st b')/\I b'/\μ b' < μ b)){b:β}(h0:I b) :
 ∃b',ė mc mb (st b)=.ok .nx (st b')/\I b'/\mc (st b')=.ok false (st b'):=by
 have go:∀n b,μ b<=n->I b->∃b',ė mc mb (st b)=.ok .nx (st b')/\I b'/\mc (st b')=.ok false (st b'):=by
  intro n
  induction n with
  |zero=>
   intro b hn hi
   rcases hs b hi with e|⟨e,b',_,_,hl⟩
   ·exact⟨b,by rw[ş,e];rfl,hi,e⟩
   ·omega
  |succ n ih=>
   intro b hn hi
   rcases hs b hi with e|⟨e,b',e2,hi',hl⟩
   ·exact⟨b,by rw[ş,e];rfl,hi,e⟩
   ·obtain⟨b2,q1,q2⟩:=ih b' (by omega) hi'
    refine⟨b2,?_,q2⟩
    rw[ş,e]
    simp only[Res.Ŧ,if_true,e2]
    exact q1
 exact go (μ b) b (Nat.le_refl _) h0
def pC{β:Type}(st:β->Đ)(I:Nat->β->Prop){b:β}(h0:I 0 b)(hs:∀i p b,items[i]?=some p->I i b->∃ρ1 b',g p (st b)=some ρ1/\mb ρ1=.ok .nx (st b')/\I (i+1) b') :
 ∃b',forL g mb items (st b)=.ok .nx (st b')/\I items.length b':=by
 obtain⟨ρ',e,b',rfl,h⟩:=bZ (g:=g) (mb:=mb) (items:=items) (ρ:= st b) (λi ρ=>∃b,ρ=st b/\I i b) ⟨b,rfl,h0⟩ (by
  rintro i p ρ e ⟨b,rfl,hi⟩
  obtain⟨ρ1,b',h1,h2,h3⟩:=hs i p b e hi
  exact⟨ρ1,_,h1,h2,b',rfl,h3⟩)
 exact⟨b',e,h⟩
end
end P
namespace P
open PySem PySem.Spec PyProof.Rows L2 M2 M3 M4
section
variable{X:Cx}{cm:String->Addr}{K:KK}{E:L2.St->XK}{a b e o:Expr}{es:List Expr}{pos apos:Pos}{m ma mb:M PV}{f:Str}
variable{CX:aC}{k n:Nat}{Ku:Str}{cI:List (String×MF)}{ms:M (List Slot)}
inductive IR where
 |ok (ns:List Str) (ps:List PV)|exc (x:PX)|bad
abbrev MI:=List Slot->IR
end
section
variable{P:Program}{w:World}{K:PySem.W.Frag}{cm:String->Addr}{mg:Str->Option Value}{base:Heap}{CX:aC}
end
section
variable{X:Cx}{cm:String->Addr}{E:L2.St->XK}{e:Expr}{es:List Expr}{pos p:Pos}{CX:aC}{k n:Nat}{f:Addr}{fd:FuncData}{ps:List Str}{C:String}{mi:MI}{ms:M (List Slot)}{x:Str}
end
end P
namespace P
open PySem PySem.Spec PyProof.Rows L2 M2 M3 M4
section
variable{M:Model}{A:Around}{E:Value->Shared->Prop}{s:Shared}{B:Heap}{env:Env}{outer:List Env}{L e:Addr}{Q:Unit->Shared->Prop}
end
def Ż.sub{P:Program}{w:World}{H:Hp}{h B:Heap}(x:Ż P w H h)(k:∀b o u,H b=some u->h.get? b=some o->B.get? b=some o):Ż P w H B:=λa o e=>
 (x a o e).stay (fun b u hb q=>by
   rcases hb with rfl|hb
   ·exact k _ _ _ e q
   ·exact k _ _ _ hb q) (λ_ q=>q) λ_ _ q=>q
section
variable{P:Program}{w:World}{K:PySem.W.Frag}{mg:Str->Option Value}{base:Heap}{N:List Str}{qual:Str}{scope:Scope}{f:Addr}{cdv:Value}{A:Around}{outer:List Env}{s₀:Shared}{H₀:Hp}{E:XK}
end
end P
namespace P
open PySem PySem.Spec PyProof.Rows L2 M2 M3 M4
section
variable{K:PySem.W.Frag}{h:Heap}{C:Addr}{bmB:List Value}{newId:String}
end
section
variable{X:Cx}{cm:String->Addr}{E:L2.St->XK}{x:Str}{C:String}{np cpos pos:Pos}
end
section
variable{M:Model}{A:Around}{E:Value->Shared->Prop}{s:Shared}{K:PySem.W.Frag}{e C D:Addr}{oe:Obj}{b:Bool}{Q:Bool->Shared->Prop}
end
section
variable{X:Cx}{pins:List (Addr×Obj)}{σ:L2.St}{H:Hp}{s:Shared}{xe:Value->Shared->Prop}
end
end P
namespace P
open PySem PySem.Spec PyProof.Rows L2 M2 M3 M4
abbrev MH:=PX->Đ->Res Fl
section
variable{X:Cx}{cm:String->Addr}{E:L2.St->XK}{pins:List (Addr×Obj)}{σ:L2.St}{H Hc:Hp}{s sc:Shared}{ea:Addr}{C:Value}{d:Option Addr}{B:Heap}
variable{y n:Str}{Dn:String}{i:Nat}{yp hpos:Pos}{b₀:Stmt}{suite:List Stmt}{rest:List ExceptHandler}{yes no:List String}{mh:M Fl}{mr:MH}
end
end P
namespace P
open PySem PySem.Spec PyProof.Rows L2 M2 M3 M4 Builtin Builtin.ObjectAttr
section
variable{K:PySem.W.Frag}{h:Heap}{C:Addr}{cd:ClassData}{bm:List Value}
end
section
variable{prog:Program}{w:World}{A:Around}{E:Value->Shared->Prop}{h:Heap}{g:Array GenState}{d:Drawn}{t:Nat}{os:OsState}
variable{nm q:Str}{C N:Addr}{bs bm bmB:List Value}{hdct:Bool}{sn:List Str}{sub:List Value}{ab:Bool}{col:Option Bool}{dd:Option Addr}{k0 k1 k2 k3 k5:Option Value}{B newId initId:String}
end
section
variable{prog:Program}{w:World}{A:Around}{E:Value->Shared->Prop}{s:Shared}{K:PySem.W.Frag}{x C:Addr}{cd:ClassData}{bm:List Value}{ox:Obj}{od:Option Obj}{name:Str}{v:Value}
end
end P
namespace P
open PySem PySem.Spec PyProof.Rows L2 M2 M3 M4
section
variable{X:Cx}{pins:List (Addr×Obj)}{σ:L2.St}{H:Hp}{s:Shared}{a C:Addr}{cd:ClassData}{bm:List Value}{d:Option Addr}{fs:List (Str×V)}{f:Str}{y:V}{u:Value}{A:Around}{E:Value->Shared->Prop}
variable{o value:Expr}{pos pos':Pos}{j:Nat}{ss:List Stmt}{r:List (Str×Nat)}
end
section
variable{P:Program}{w:World}{K:PySem.W.Frag}{mg:Str->Option Value}{base:Heap}{CX:aC}
end
section
variable{X:Cx}{cm:String->Addr}{E:L2.St->XK}{e:Expr}{es:List Expr}{pos p:Pos}{CX:aC}{k n:Nat}{f:Addr}{fd:FuncData}{ps:List Str}{C:String}{fl:List (Str×Nat)}{ms:M (List PV)}{x:Str}
end
section
variable{M:Model}{A:Around}{E:Value->Shared->Prop}{s:Shared}{K:PySem.W.Frag}{env:Env}
end
section
variable{X:Cx}{cm:String->Addr}{E:L2.St->XK}{e:Expr}{es:List Expr}{pos cpos np:Pos}{CX:aC}{k n:Nat}{f:Addr}{fd:FuncData}{ps:List Str}{C:String}{fl:List (Str×Nat)}{ms:M (List PV)}{x:Str}
end
end P
namespace P
open PySem PySem.Spec PyProof.Rows L2 M2 M3 M4 Builtin Builtin.ObjectAttr
section
variable{prog:Program}{w:World}{A:Around}{E:Value->Shared->Prop}{s:Shared}{K:PySem.W.Frag}{x C:Addr}{ox:Obj}{od:Option Obj}
end
section
variable{X:Cx}{cm:String->Addr}{K:KK}
end
section
variable{ρ:Đ}{C:String}{n i:Nat}{fl:List (Str×Nat)}{ms:M (List PV)}{mb mh:M Fl}{mr:MH}{yes no:List String}{x:PX}
end
end P
namespace P
open PySem PySem.Spec PyProof.Rows L2 M2 M3 M4
section
variable{X:Cx}{cm:String->Addr}{E:L2.St->XK}{y:Str}{Dn:String}{yp hpos:Pos}{b₀:Stmt}{suite:List Stmt}{rest:List ExceptHandler}{yes no:List String}{mh:M Fl}{mr:MH}
end
end P
namespace P
open PySem PySem.Spec PyProof.Rows L2 M2 M3 M4
section
variable{X:Cx}{cm:String->Addr}{K:KK}
theorem Ĺ:∀{ns:List Int} {its:List Value},Vals (ns.map V.int) its->IntsAre its ns
 | [],its,h=>by cases h;exact .nil
 |n::ns,its,h=>by
  cases h with
  |cons r t=>
   obtain⟨k,e⟩:=(show ∃k,_=Value.int n k from r)
   subst e
   exact .cons n k (Ĺ t)
section
variable{prog:Program}{w:World}{A:Around}{E:Value->Shared->Prop}{s:Shared}{l:Addr}{xs:Array (Int×Tok)}
end
def intsOf:List PV->Option (List Int)
 | []=>some []
 | .int b::ps=>(intsOf ps).map (b:: ·)
 |_::_=>none
@[simp] theorem b_:∀ns:List Int,intsOf (ns.map PV.int)=some ns
  | []=>rfl
  |n::ns=>by rw[List.map_cons,intsOf,b_ ns];rfl
theorem ints_rep{F:Hp}:∀{ps:List PV} {vs:List V} {bs:List Int},ā K F ps vs->intsOf ps=some bs->vs=bs.map V.int
 | [],vs,bs,r,h=>by
   cases h
   cases r.pr
   rfl
 |p::ps,vs,bs,r,h=>by
  cases r.pr with
  |cons r1 t=>
   cases p with
   |int b=>
    unfold intsOf at h
    obtain⟨cs,e,rfl⟩:=Option.map_eq_some_iff.mp h
    rw[ints_rep (ā.of t) e,show _=V.int b from r1]
    rfl
   |_=>cases h
end
end P
namespace P
open PySem PySem.Spec PyProof.Rows L2 M2 M3 M4
section
variable{ρ:Đ}{i n k:Nat}{C:String}{cs:List String}{f m:Str}{mv mo:M PV}{mi:MI}{ms:M (List Slot)}{mb:M Fl}{cI:List (String×MF)}{as:List Slot}{ns:List Str}{ps:List PV}
end
end P
namespace M3
open PySem PySem.Spec PyProof.Rows L2 M2
section
variable{X:Cx}{elt tg iter:Expr}{ifs:List Expr}{scope:Scope}{pos:Pos}{wi:TI}{g:TG}{tt:TT}{te:TE}
end
end M3
namespace P
open PySem PySem.Spec PyProof.Rows L2 M2 M3 M4
section
variable{X:Cx}{cm:String->Addr}{E:L2.St->XK}{elt tg iter:Expr}{ifs:List Expr}{scope:Scope}{pos:Pos}{mi:M (List PV)}{g:Tg}{mt:M Bool}{me:M PV}
end
end P
namespace P
open PySem PySem.Spec PyProof.Rows L2 M2 M3 M4
section
variable{X:Cx}{cm:String->Addr}{K:KK}{E:L2.St->XK}{o e:Expr}{es:List Expr}{name:Str}{apos cpos:Pos}{id:String}{r:V->List V->Hp->VK->Prop}{f:PV->List PV->Option PV}{mo:M PV}{ms:M (List PV)}
end
end P
namespace P
open PySem PySem.Spec PyProof.Rows L2 M2 M3 M4
section
variable{X:Cx}{pins:List (Addr×Obj)}{σ:L2.St}{H:Hp}{s:Shared}{h':Heap}
end
section
variable{X:Cx}{elts:List Expr}{k:Nat}{tp:Pos}
end
section
variable{X:Cx}{cm:String->Addr}{E:L2.St->XK}{e:Expr}{m:M PV}
end
end P
namespace P
open PySem PySem.Spec PyProof.Rows L2 M2 M3 M4
def Aq{X:Cx}:Ig X .BitOr (Jv λi j=>Builtin.bitOr i j):=by
 intro pins s σ H x y v u Q I r1 r2 h
 obtain⟨i,j,e1,e2,q⟩:=h
 subst e1;subst e2
 obtain⟨t,rfl⟩:=r1
 obtain⟨t',rfl⟩:=r2
 exact ior_int ⟨.int _,H,I.tok _,⟨_,rfl⟩,q⟩
def jP(i:Nat)(m:M PV):M Fl:=λρ=>match ρ[i]? with
 |some (.sh (.int _))=>(m ρ).bind λq ρ1=>match ρ1[i]?,q with
  |some (.sh (.int k)),.int j=>.ok .nx (ρ1.set i (.sh (.int (Builtin.bitOr k j))))
  |_,_=>.bad
 |_=>.bad
@[simp] theorem Dw{i:Nat}{m:M PV}{ρ:Đ}:jP i m ρ=(match ρ[i]? with
  |some (.sh (.int _))=>(m ρ).bind λq ρ1=>match ρ1[i]?,q with
   |some (.sh (.int k)),.int j=>.ok .nx (ρ1.set i (.sh (.int (Builtin.bitOr k j))))
   |_,_=>.bad
  |_=>.bad):=rfl
section
variable{X:Cx}{cm:String->Addr}{E:L2.St->XK}{e a b:Expr}{m ma mb:M PV}{pos:Pos}
def bC{K:KK}{F:Hp}{i:Int}{v:V}(h:Rep K F (.int i) v):v=.int i:=by unfold Rep at h;exact h
def xW{i:Nat}{x:Str}{pos':Pos}(hN:X.N.Nodup)(hi:X.N[i]?=some x)(hx:Loc X.env.scope x)(he:PE X e (tV (kk X cm) E m))(hf:X.fn x=true\/X.env.scope.names.lookup x=some .local:=by first|exact .inl rfl|exact .inr rfl|assumption) :
 PS X (.AugAssign (.Name x pos') .BitOr e pos) (tS (kk X cm) E (jP i m)):=PS.wk (vL hN hi hx he Aq hf) λD σ H ⟨c,F,ρ,rel,h⟩=>by
 unfold jP at h
 cases e1:ρ[i]? with
 |none=>rw[e1] at h;exact h.elim
 |some sl=>
  rw[e1] at h
  cases sl with
  |sh p=>
   cases p with
   |int k0=>
    obtain⟨v,h1,h2⟩:=rel.slot i _ e1
    cases bC h2
    refine⟨.int k0,at_of h1,c,F,ρ,rel,ģ.bind h λq ρ1 u F1 H1 Ă s1 rq h1'=>?_⟩
    cases e2:ρ1[i]? with
    |none=>simp only[e2] at h1';exact h1'.elim
    |some sl2=>
     simp only[e2] at h1'
     cases sl2 with
     |sh p2=>
      cases p2 with
      |int k=>
       cases q with
       |int j=>
        obtain⟨v2,w1,w2⟩:=Ă.slot i _ e2
        cases bC w2
        rw[h1] at w1
        cases w1
        cases bC rq
        exact⟨k0,j,rfl,rfl,h1' _ F1 H1 (Ă.put rfl ⟨_,rfl,Rep.int⟩) (Same.refl _)⟩
       |_=>exact h1'.elim
      |_=>exact h1'.elim
     |_=>exact h1'.elim
   |_=>exact h.elim
  |_=>exact h.elim
def jQ:V->List V->Hp->VK->Prop:=λx vs H Q=>match x,vs with
 | .int i,[]=>Q (.int ((Builtin.Int.intBits i:Nat):Int)) H
 |_,_=>False
def lQ:Eu X "int.bit_length" jQ:=by
 intro pins s σ H x xs v us Q I rx rs h
 unfold jQ at h
 split at h
 ·obtain⟨t,rfl⟩:=rx
  cases rs
  exact call_gives F.slot_int_bit_length (typeIs_int s _ t) F.entry_int_bit_length (F.args_int_bit_length_1 _) (AutoIntG2.int_bit_length_int_0 _ t) ⟨.int _,H,I.tok _,⟨_,rfl⟩,h⟩
 ·exact h.elim
def pD(m:M PV):M PV:=λρ=>(m ρ).bind λp ρ1=>match p with
 | .int i=>.ok (.int ((Builtin.Int.intBits i:Nat):Int)) ρ1
 |_=>.bad
@[simp] theorem Dy{ρ:Đ}:pD m ρ=(m ρ).bind fun p ρ1=>match p with
  | .int i=>.ok (.int ((Builtin.Int.intBits i:Nat):Int)) ρ1
  |_=>.bad:=rfl
def xX{apos cpos:Pos}(ho:PE X e (tV (kk X cm) E m))(hbase:attributeBase e "bit_length" X.env (eval e X.env)=eval e X.env:=by rfl)(hline:(apos.endLine== cpos.line)=true:=by rfl) :
 PE X (.Call (.Attribute e "bit_length" apos) [] [] cpos) (tV (kk X cm) E (pD m)):=PE.wk (wC F.plainAttrs_int F.slot_int_bit_length F.type_int_bit_length lQ ho hbase hline) λσ H Q ⟨c,F,ρ,rel,h⟩=>
 ⟨c,F,ρ,rel,Ŏ.bind h fun p ρ1 v F1 H1 Ă _ _ r1 h1=>by
   cases p with
   |int i=>
    cases bC r1
    exact⟨rfl,h1 _ F1 H1 Ă (Same.refl _) (Same.refl _) Rep.int⟩
   |_=>exact h1.elim⟩
end
section
variable{X:Cx}{K:KK}
end
end P
namespace P
open PySem PySem.Spec PyProof.Rows L2 M2 M3 M4
section
variable{prog:Program}{w:World}{A:Around}{E:Value->Shared->Prop}{s:Shared}
end
section
variable{prog:Program}{w:World}{A:Around}{E:Value->Shared->Prop}{s:Shared}
end
section
variable{prog:Program}{w:World}{A:Around}{E:Value->Shared->Prop}{s:Shared}
end
def uM(b:Bool)(h:Heap)(it l:Addr)(i:Nat):Prop:=if b=true then h.IsTupleIter it l i else h.IsListIter it l i
def J_(b:Bool):String:=if b=true then "tuple_iterator" else "list_iterator"
def uM.ex{b:Bool}{h:Heap}{it l:Addr}{i:Nat}(x:uM b h it l i):∃o,h.get? it=some o/\o.cls=.type (J_ b)/\o.data=.fields #[.ref l,.int i 0]:=by
 cases b with
 |true=>exact x
 |false=>exact x
section
variable{X:Cx}{pins:List (Addr×Obj)}{σ:L2.St}{H:Hp}{s:Shared}
end
section
variable{prog:Program}{w:World}{A:Around}{E:Value->Shared->Prop}{s:Shared}
end
section
variable{X:Cx}{elts:List Expr}{k:Nat}{tp:Pos}
end
section
variable{X:Cx}{cm:String->Addr}{E:L2.St->XK}{e e2:Expr}
end
end P
namespace P
open PySem PySem.Spec PyProof.Rows L2 M2 M3 M4
section
variable{X:Cx}
end
end P
namespace P
open PySem PySem.Spec PyProof.Rows L2 M2 M3 M4
def tM{x:Int}{n:Nat}(h1: -(2 ^ n:Int)<x)(h2:x<2 ^ n):bits x<=n:=by
 refine intBits_le_iff.mpr ?_
 have e:((2 ^ n:Nat):Int)=(2:Int) ^ n:=by simp
 have:((x.natAbs:Nat):Int)<((2 ^ n:Nat):Int):=by rw[e];omega
 omega
def gW{x y:Int}(h:y≠0)(h1: -18446744073709551616<y)(h2:y<18446744073709551616):ţ x y=true:=Ao h (Nat.le_trans (tM (n:=64) (by omega) (by omega)) (by decide))
@[simp] theorem Dz{x:Int}{n:Nat}(h:n≠0)(h2:n<18446744073709551616):ţ x (no_index (OfNat.ofNat n):Int)=true:=by
  have e:(no_index (OfNat.ofNat n):Int)=(n:Int):=rfl
  rw[e]
  exact gW (by omega) (by omega) (by omega)
@[simp] theorem Ar{x:Int}{n:Nat}(h:n<18446744073709551616):Ň x (no_index (OfNat.ofNat n):Int)=true:=by
  have e:(no_index (OfNat.ofNat n):Int)=(n:Int):=rfl
  rw[e]
  exact mul_r (by omega) (by omega)
@[simp] theorem Av{x:Int}{n:Nat}(h:n<18446744073709551616):Ň (no_index (OfNat.ofNat n):Int) x=true:=by
  have e:(no_index (OfNat.ofNat n):Int)=(n:Int):=rfl
  rw[e]
  exact Am (by omega) (by omega)
@[simp] theorem DG{m n:Nat}(h:m<18446744073709551616)(h2:n≤1000000):gK (no_index (OfNat.ofNat m):Int) (no_index (OfNat.ofNat n):Int)=true:=by
  have e:(no_index (OfNat.ofNat m):Int)=(m:Int):=rfl
  have e2:(no_index (OfNat.ofNat n):Int)=(n:Int):=rfl
  rw[e,e2]
  unfold gK
  simp
  omega
@[simp] theorem Aw{x:Int}{n:Nat}:x.fdiv (no_index (OfNat.ofNat n):Int)=x / (no_index (OfNat.ofNat n):Int):=Int.fdiv_eq_ediv_of_nonneg x (Int.natCast_nonneg n)
@[simp] theorem Ax{x:Int}{n:Nat}:x.fmod (no_index (OfNat.ofNat n):Int)=x % (no_index (OfNat.ofNat n):Int):=Int.fmod_eq_emod_of_nonneg x (Int.natCast_nonneg n)
end P
namespace P
open PySem PySem.Spec PyProof.Rows L2 M2 M3 M4
def xY{x y z w:Int}:eqB (.tup [.int x,.int y]) (.tup [.int z,.int w])=(decide (x=z) && decide (y=w)):=by
 rw[eqB.eq_def]
 show Ŗ [.int x,.int y] [.int z,.int w]=_
 rw[Ŗ.eq_def]
 show(eqB (.int x) (.int z) && Ŗ [.int y] [.int w])=_
 rw[Ŗ.eq_def]
 show(eqB (.int x) (.int z) && (eqB (.int y) (.int w) && Ŗ [] []))=_
 have h1:eqB (.int x) (.int z)=decide (x=z):=by rw[eqB.eq_def];rfl
 have h2:eqB (.int y) (.int w)=decide (y=w):=by rw[eqB.eq_def];rfl
 have h3:Ŗ [] []=true:=by rw[Ŗ.eq_def]
 rw[h1,h2,h3,Bool.and_true]
def xZ{x y z w:Int}:gP (.tup [.int x,.int y]) (.tup [.int z,.int w])=true:=by
 simp[gP,Į,Ŷ,dep,fJ]
def yc{x y z w:Int}:Ÿ (.tup [.int x,.int y]) (.tup [.int z,.int w])=some (.bl (!(decide (x=z) && decide (y=w)))):=by
 unfold Ÿ
 rw[if_pos xZ,xY]
def fU(ns:List Int)(lo hi:Option Int):je (ns.map PV.int) lo hi=((ns.drop (HT.ľ ns.length 0 lo)).take (HT.ľ ns.length ns.length hi-HT.ľ ns.length 0 lo)).map PV.int:=by
 unfold je
 rw[List.length_map,<-List.map_drop,<-List.map_take]
mutual
theorem cg:∀p:PV,Į p=true->eqB p p=true
 | .non,_=>by unfold eqB;rfl
 | .bl b,_=>by unfold eqB;simp
 | .int i,_=>by unfold eqB;simp
 | .str x,_=>by unfold eqB;simp
 | .lst xs,h=>by unfold Į at h;unfold eqB;exact aL xs h
 | .tup xs,h=>by unfold Į at h;unfold eqB;exact aL xs h
 | .ins _ _ _,h=>by simp[Į] at h
 | .xc _ _ _,h=>by simp[Į] at h
 | .ty _,h=>by simp[Į] at h
 | .cls _,h=>by simp[Į] at h
theorem aL:∀ps:List PV,Ŷ ps=true->Ŗ ps ps=true
 | [],_=>by unfold Ŗ;rfl
 |p::ps,h=>by
  unfold Ŷ at h
  rw[Bool.and_eq_true] at h
  unfold Ŗ
  rw[cg p h.1,aL ps h.2]
  rfl
end
def lR{p:PV}(h:Į p=true)(hd:dep p<=60):ŷ p p=some (.bl true):=by
 unfold ŷ gP
 rw[h,cg p h,decide_eq_true (by omega:min (dep p) (dep p)<=60)]
 rfl
def lU{p:PV}(h:Į p=true)(hd:dep p<=60):Ÿ p p=some (.bl false):=by
 unfold Ÿ gP
 rw[h,cg p h,decide_eq_true (by omega:min (dep p) (dep p)<=60)]
 rfl
end P
namespace P
open PySem PySem.Spec PyProof.Rows L2 M2 M3 M4
section
variable{g:Tg}{mb:M Fl}{mt:M Bool}{me:M PV}
theorem aM{α β:Type}(c:α->PV)(step:β->α->β)(J:β->Đ->Prop):∀(xs:List α),(∀x∈xs,∀b ρ,J b ρ->∃ρ1 ρ2,g (c x) ρ=some ρ1/\mb ρ1=.ok .nx ρ2/\J (step b x) ρ2)->∀b ρ,J b ρ->∃ρ',forL g mb (xs.map c) ρ=.ok .nx ρ'/\J (xs.foldl step b) ρ'
 | [],_,b,ρ,h=>⟨ρ,rfl,h⟩
 |x::xs,hs,b,ρ,h=>by
  obtain⟨ρ1,ρ2,h1,h2,h3⟩:=hs x (by simp) b ρ h
  obtain⟨ρ',e,h4⟩:=aM c step J xs (λy hy=>hs y (List.mem_cons_of_mem _ hy)) (step b x) ρ2 h3
  refine⟨ρ',?_,h4⟩
  rw[List.map_cons,forL,h1]
  dsimp only
  rw[h2]
  exact e
theorem ő{α:Type}(c f:α->PV)(q:α->Bool)(I:Đ->Prop):∀(xs:List α) (ρ:Đ) (acc:List PV),I ρ->acc.length+xs.length<=16777216->
 (∀x∈xs,∀ρ,I ρ->∃ρ1 ρ2,g (c x) ρ=some ρ1/\mt ρ1=.ok (q x) ρ2/\(q x=false->I ρ2)/\(q x=true->∃ρ3,me ρ2=.ok (f x) ρ3/\I ρ3))->ļ g mt me (xs.map c) ρ acc=some (acc++(xs.filter q).map f)
 | [],ρ,acc,_,_,_=>by simp[ļ]
 |x::xs,ρ,acc,h,hz,hs=>by
  obtain⟨ρ1,ρ2,h1,h2,h3,h4⟩:=hs x List.mem_cons_self ρ h
  cases e:q x with
  |true=>
   obtain⟨ρ3,h5,h6⟩:=h4 e
   rw[e] at h2
   rw[List.map_cons,ļ,h1]
   dsimp only
   rw[h2]
   dsimp only
   rw[h5]
   dsimp only
   rw[if_pos (by simp at hz;omega),ő c f q I xs ρ3 (acc ++ [f x]) h6 (by simp at hz ⊢;omega) λy hy=>hs y (List.mem_cons_of_mem _ hy)]
   simp[e]
  |false=>
   rw[e] at h2
   rw[List.map_cons,ļ,h1]
   dsimp only
   rw[h2]
   dsimp only
   rw[ő c f q I xs ρ2 acc (h3 e) (by simp at hz ⊢;omega) λy hy=>hs y (List.mem_cons_of_mem _ hy)]
   simp[e]
end
end P
namespace P
open PySem PySem.Spec PyProof.Rows L2 M2 M3 M4
def Hz(K:PySem.W.Frag)(n:Nat)(t:mK):TG:=λv σ H Q=>∃a xs,v=.ref a/\Ľ K H a xs/\xs.length=n/\t xs σ H Q
section
variable{X:Cx}{cm:String->Addr}{pos:Pos}
def yd{es:List Expr}{k:Nat}{t:mK}{n:Nat}(hc:X.calm=true)(h:iB X es t)
 (hn:(assignEach es X.env).length=n:=by rfl)(hst:(assignEach es X.env).findIdx? (·.1)=none:=by rfl):PG X (.Tuple es k pos) (Hz X.K n t):=by
 intro pins s σ H v u Q I r hw
 obtain⟨a,xs,e1,hq,hl,hw⟩:=hw
 subst e1
 cases r
 obtain⟨its,rv,ht,hz⟩:=I.list hq
 rw[assign_Tuple]
 refine wpAny_bind (wpAny_standAt ?_)
 unfold unpack
 rw[show(assignEach es X.env).length=its.toArray.size by simp[hn,<-hl,rv.length],hst]
 refine wpAny_bind (wpAny_holding (PySem.W.kun_itemsOf (I.ok.hd hc) ht.isList λh' hx=>?_))
 have I1:Inv X pins σ H {s with heap:=h'}:=I.kept (t':=s.toks) λb o e=>hx b o (Nat.ne_of_lt (Heap.lt_size e)) e
 exact h pins _ σ H xs _ Q I1 (by simpa using rv) hw
def gS(n:Nat)(gs:mD):Tg:=λp ρ=>match p with
 | .tup ps=>if ps.length=n then gs ps ρ else none
 | .lst ps=>if ps.length=n then gs ps ρ else none
 |_=>none
@[simp] theorem HB{n:Nat}{gs:mD}{ps:List PV}{ρ:Đ}:gS n gs (.tup ps) ρ=if ps.length=n then gs ps ρ else none:=rfl
@[simp] theorem HD{n:Nat}{gs:mD}{ps:List PV}{ρ:Đ}:gS n gs (.lst ps) ρ=if ps.length=n then gs ps ρ else none:=rfl
def Ay{es:List Expr}{k:Nat}{gs:mD}{n:Nat}(hc:X.calm=true)(h:iB X es (zR (kk X cm) gs))(hn:(assignEach es X.env).length=n:=by rfl)(hst:(assignEach es X.env).findIdx? (·.1)=none:=by rfl):PG X (.Tuple es k pos) (tT (kk X cm) (gS n gs)):=by
 intro pins s σ H v u Q I r hw
 obtain⟨c,F,ρ,p,rel,rp,hw⟩:=hw
 cases p with
 |tup ps=>
  unfold Rep at rp
  obtain⟨a,xs,h1,h2,h3⟩:=rp
  unfold gS at hw
  dsimp only at hw
  split at hw
  ·rename_i hl
   exact mO hc h hn hst pins s σ H v u Q I r ⟨a,xs,h1,Same.tup rel.sub h2,by rw[<-h3.length];exact hl,c,F,ρ,ps,rel,h3,hw⟩
  ·exact hw.elim
 |lst ps=>
  unfold Rep at rp
  obtain⟨a,xs,h1,h2,h3⟩:=rp
  unfold gS at hw
  dsimp only at hw
  split at hw
  ·rename_i hl
   exact yd hc h hn hst pins s σ H v u Q I r ⟨a,xs,h1,rel.sub.seq h2,by rw[<-h3.length];exact hl,c,F,ρ,ps,rel,h3,hw⟩
  ·exact hw.elim
 |_=>exact hw.elim
end
end P
namespace P
open PySem PySem.Spec PyProof.Rows L2 M2 M3 M4
section
variable{X:Cx}{cm:String->Addr}{E:L2.St->XK}{a:Expr}{p p1 pos pos1:Pos}{mr:M (List PV)}
end
end P
namespace P
open PySem PySem.Spec PyProof.Rows L2 M2 M3 M4
section
variable{X:Cx}{cm:String->Addr}{E:L2.St->XK}{e o:Expr}{es:List Expr}{pos:Pos}{m:M Bool}{mo:M RV}{ma:M PV}
@[simp] theorem HF{ps qs rs:List PV}:(RV.ot ps qs rs).val=.tup (ps ++ .lst qs::rs):=rfl
@[simp] theorem HJ{ps qs rs:List PV}:(RV.ot ps qs rs).slot=.ot ps qs rs:=rfl
end
end P
namespace P
open PySem PySem.Spec PyProof.Rows L2 M2 M3 M4
section
variable{X:Cx}{K:KK}
end
end P
namespace P
open PySem PySem.Spec PyProof.Rows L2 M2 M3 M4
section
variable{K:KK}{c c':Ctx}{F F' H H':Hp}{σ:L2.St}{ρ:Đ}
end
section
variable{X:Cx}{cm:String->Addr}{E:L2.St->XK}{elt tg iter:Expr}{ifs:List Expr}{scope:Scope}{pos:Pos}{mi:M (List PV)}{g:Tg}{mt:M Bool}{me:M RV}
end
section
variable{K:KK}{c:Ctx}{F H:Hp}{σ:L2.St}{ρ:Đ}
end
section
variable{X:Cx}{cm:String->Addr}{E:L2.St->XK}{e:Expr}{es:List Expr}{m:M Bool}{mv:M PV}{ms:M (List Slot)}
end
end P
namespace P
open PySem PySem.Spec PyProof.Rows L2 M2 M3 M4
section
variable{X:Cx}{K:KK}
end
section
variable{ρ:Đ}{i x j:Nat}{m:M Bool}{mv:M PV}{ms:M (List Slot)}{mp:M (List (List PV))}{g:Tg}{mt:M Bool}{me:M RV}{mi:M (List PV)}{js:List Nat}{nl:Nat}
end
end P
namespace P
open PySem PySem.Spec PyProof.Rows L2 M2 M3 M5
section
variable{K:KK}{c:Ctx}{F H:Hp}{σ:L2.St}{ρ:Đ}
end
section
variable{X:Cx}{cm:String->Addr}{E:L2.St->XK}{x px:Str}{c Pt:Addr}{params:Arguments}{body e:Expr}{scope:Scope}{p pos wU kpos:Pos}{mr:M (List PV)}{me:M PV}
end
section
variable{P:Program}{w:World}{K:PySem.W.Frag}{cm:String->Addr}{mg:Str->Option Value}{base:Heap}{CX:aC}
end
section
variable{js:List Nat}{me:M PV}{mr:M (List PV)}{ρ:Đ}
end
end P
namespace P
open PySem PySem.Spec PyProof.Rows L2 M2 M3 M5
end P
namespace P
open PySem PySem.Spec PyProof.Rows L2 M2 M3 M5
section
variable{X:Cx}{cm:String->Addr}{E:L2.St->XK}{CX:aC}{k n:Nat}{f:Addr}{fd:FuncData}{ps:List Str}{mf:MF}{mr:M (List Slot)}{x:Str}{p pos:Pos}{e:Expr}{es:List Expr}{ds:List Value}{Il:List V}{Kv:List Slot}
end
end P
namespace P
open PySem PySem.Spec PyProof.Rows L2 M2 M3 M5
def BN:Nat->(List Value->Prop)->Prop
 |0,p=>p []
 |n+1,p=>∀u,BN n λus=>p (u::us)
theorem jg:∀{n:Nat} {p:List Value->Prop},BN n p->∀us,us.length=n->p us
 |0,p,h,[],_=>h
 |0,p,h,_::_,e=>by cases e
 |n+1,p,h,[],e=>by cases e
 |n+1,p,h,u::us,e=>jg (h u) us (Nat.succ.inj e)
structure Df(K:PySem.W.Frag)(mg:Str->Option Value)(x:Str)(st:Stmt)(ps:List Str)(f:Addr)(fd:FuncData):Prop where
 F:wD K x x st f fd
 m:mg x=some (.ref f)
 b:Binds K fd ps []
 bb:∀(s:Shared) (us:List Value),us.length=ps.length->BindsTo s fd ⟨us,[]⟩ (ps.zip us)
section
variable{K:PySem.W.Frag}{h:Heap}{mg:Str->Option Value}{x q:Str}{st:Stmt}{ps:List Str}{f C:Addr}{oc kV dc pm cd ct:Value}{od an:Option Addr}{sl:Array (Option Value)}
def ů(X:K.In h)(G:h.Ns mainGlobals mg)(hb:∀(kV dc pm:Value) (an:Option Addr) (cd ct:Value),BN ps.length λus=>bindArgs (PySem.W.fnOf x x (ŋ st) (Ĭ st) (ą st) .none kV dc pm an cd ct) ⟨us,[]⟩=pure (ps.zip us))
 (a:PySem.W.nsIn K mainGlobals x=some (some (.ref f)))(l:K.lookup f=some ⟨oc,od,.func (PySem.W.fnOf x x (ŋ st) (Ĭ st) (ą st) .none kV dc pm an cd ct),sl⟩)(c:PySem.W.codeIn K cd x=true)(k:PySem.W.keepIn K (.ref f)=true) :
 Df K mg x st ps f (PySem.W.fnOf x x (ŋ st) (Ĭ st) (ą st) .none kV dc pm an cd ct):=
 have F:=wF (st:=st) l c k
 ⟨F,PySem.W.mg_of X G a,F.binds λkV dc pm an cd ct us hl=>jg (hb kV dc pm an cd ct) us hl,λs us hl=>.of_eq (jg (hb kV dc pm an cd ct) us hl)⟩
end
end P
namespace P
open PySem PySem.Spec PyProof.Rows L2 M2 M3 M5
def qF{N ps:List Str}{sc:Scope}(h1:sc.kind=.function:=by rfl)(h2:sc.isCoroutine=false:=by rfl)(h3:sc.isGenerator=false:=by rfl)(h4:N.Nodup:=by decide +kernel)(h5:N.take ps.length=ps:=by rfl)(h6:∀x∈ps,sc.names.lookup x=some .local\/sc.names.lookup x=some .cell:=by decide +kernel)
 (h7:∀y∈sc.names,y.2≠ .free:=by decide +kernel):Č N ps sc:=⟨h1,h2,h3,h4,h5,h6,h7⟩
section
variable{X:Cx}{cm:String->Addr}{E:L2.St->XK}{CX:aC}{k j n:Nat}{f:Addr}{fd:FuncData}{ps:List Str}{mf:MF}{mr:M (List Slot)}{x:Str}{st:Stmt}{p pos:Pos}{e:Expr}{es:List Expr}
def Ĕ(F:į X.prog X.w X.K X.mg X.base CX k f fd ps (dI (kk X cm) n mf))(D:Df X.K X.mg x st ps f fd)(hr:ł j X.A)(hx:bx CX X E)
 (ha:PA X (e::es) (tA (kk X cm) E mr))(hlen:∀{ps:List Slot},(∃r,mf ps=r/\∀z,r=z->z≠ .bad)->ps.length=n:=by exact oH)(hg:Gl X x:=by rfl)(hkj:k<=j:=by decide)(hdb:(x== ("__debug__" :Str))=false:=by decide)(he:starEach (e::es) X.env=(false,eval e X.env)::starEach es X.env:=by exact aj rfl)(hpl:(backTo pos (starEach es X.env)).any (·.1)=false:=by rfl) :
 PE X (.Call (.Name x p) (e::es) [] pos) (tO (kk X cm) E (ĥ mf mr)):=xu F hlen (hr.mono hkj) hg D.m D.F.kp D.b hx ha hdb he hpl
end
section
variable{Pg:Program}{w:World}{K:PySem.W.Frag}{mg:Str->Option Value}{base:Heap}{CX:aC}{cm:String->Addr}
def cV{x qual:Str}{st:Stmt}{f:Addr}{fd:FuncData}{N ps:List Str}{k n j:Nat}{mb:M Fl}{mf:MF}(F:wD K x qual st f fd)(S:Č N ps (ą st))
 (hbody:∀(cdv:Value) (A:Around) (outer:List Env) (s:Shared) (H:Hp) (E:XK),ł k (A.deeper (envOfC qual (ą st) s.heap.objs.size f cdv))→(A.deeper (envOfC qual (ą st) s.heap.objs.size f cdv)).units+64<cLine→
   ź (gk CX Pg w K mg base N qual (ą st) f cdv A outer s H E) (Ĭ st) (tS ⟨K,cm⟩ (λ_=>E) mb))(hn:ps.length=n:=by rfl)(hj:N.length=j:=by rfl)(hf:mf=Š n j mb:=by rfl):į Pg w K mg base CX (k+1) f fd ps (dI ⟨K,cm⟩ n mf):=
 JV F S hn hj hf λcdv A outer s H E hr=>hbody cdv A outer s H E hr hr.units
end
end P
namespace P
open PySem PySem.Spec PyProof.Rows L2 M2 M3 M4
section
variable{X:Cx}{cm:String->Addr}{E:L2.St->XK}{e:Expr}{m:M PV}
end
end P
namespace P
open PySem PySem.Spec PyProof.Rows L2 M2 M3 M4
def Ka:Expr->List Str
 | .Name x _=>[x]
 | .Tuple es _ _=>es.flatMap fun e=>match e with
   | .Name x _=>[x]
   |_=>[]
 |_=>[]
def cN(X:Cx)(js:List Nat)(tg:Expr):List Str:=js.map (λ(j:Nat)=>(X.N[j]?).getD "")++Ka tg
def Kc{l:List Str}(h:decide l.Nodup=true):l.Nodup:=of_decide_eq_true h
def frB{a b:Scope}(h:(a.names.all λy=>decide (y.2=.free->(b.names.lookup y.1=some .cell\/b.names.lookup y.1=some .free)))=true):∀y∈a.names,y.2=.free->(b.names.lookup y.1=some .cell\/b.names.lookup y.1=some .free):=λy hy=>of_decide_eq_true (List.all_eq_true.mp h y hy)
section
variable{X:Cx}{cm:String->Addr}{E:L2.St->XK}{elt tg iter:Expr}{ifs:List Expr}{scope:Scope}{pos:Pos}{mi:M (List PV)}{g:Tg}{mt:M Bool}{me:M PV}{js:List Nat}{nl:Nat}
end
end P
namespace P
open PySem PySem.Spec PyProof.Rows L2 M2 M3 M4
section
variable{X:Cx}
end
section
variable{X:Cx}{cm:String->Addr}{K:KK}{E:L2.St->XK}{o e:Expr}{es:List Expr}{name:Str}{apos cpos:Pos}{id:String}{r:V->List V->Hp->VK->Prop}{f:PV->List PV->Option PV}{mo:M PV}{ms:M (List PV)}
end
end P
namespace P
open PySem PySem.Spec PyProof.Rows L2 M2 M3 M4
section
variable{X:Cx}{cm:String->Addr}{E:L2.St->XK}{a b e:Expr}{es:List Expr}{ma mb m:M PV}{mo:M RV}{pos p:Pos}
def Ę{i j pos}:PE X (.Constant (.int i) j pos) (tR (kk X cm) E (mC (.int i))):=ĝ ŕ
def Az(ha:PE X a (tR (kk X cm) E ma))(hb:PE X b (tR (kk X cm) E mb))(hs:aZ b:=by exact λ_ _=>rfl):PE X (.Subscript a b pos) (tV (kk X cm) E (Ć aG ma mb)):=FN Ab zq ha hb hs
def lV(ha:PE X a (tR (kk X cm) E ma))(hb:PE X b (tR (kk X cm) E mb))(hs:aZ b:=by exact λ_ _=>rfl):PE X (.Subscript a b pos) (tR (kk X cm) E (Ć aG ma mb)):=ĝ (Az ha hb hs)
def v_mod(ha:PE X a (tR (kk X cm) E ma))(hb:PE X b (tR (kk X cm) E mb)):PE X (.BinOp a .Mod b pos) (tV (kk X cm) E (Ć Ħ ma mb)):=bL xM wM ha hb
def jR(ha:PE X a (tR (kk X cm) E ma))(hb:PE X b (tR (kk X cm) E mb)):PE X (.BinOp a .Mod b pos) (tR (kk X cm) E (Ć Ħ ma mb)):=ĝ (v_mod ha hb)
def v_mul(ha:PE X a (tR (kk X cm) E ma))(hb:PE X b (tR (kk X cm) E mb)):PE X (.BinOp a .Mult b pos) (tV (kk X cm) E (Ć Ĵ ma mb)):=bL xU rY ha hb
def jT(ha:PE X a (tR (kk X cm) E ma))(hb:PE X b (tR (kk X cm) E mb)):PE X (.BinOp a .Mult b pos) (tR (kk X cm) E (Ć Ĵ ma mb)):=ĝ (v_mul ha hb)
def jU(ha:PE X a (tR (kk X cm) E ma))(hb:PE X b (tR (kk X cm) E mb)):PE X (.BinOp a .FloorDiv b pos) (tV (kk X cm) E (Ć ŀ ma mb)):=bL xK rH ha hb
def pF(ha:PE X a (tR (kk X cm) E ma))(hb:PE X b (tR (kk X cm) E mb)):PE X (.BinOp a .FloorDiv b pos) (tR (kk X cm) E (Ć ŀ ma mb)):=ĝ (jU ha hb)
def aR(ha:PE X a (tR (kk X cm) E ma))(hb:PE X b (tR (kk X cm) E mb)):PE X (.BinOp a .Add b pos) (tO (kk X cm) E (ĵ Ķ ma mb)):=zJ xJ jc ha hb
def v_add(ha:PE X a (tR (kk X cm) E ma))(hb:PE X b (tR (kk X cm) E mb)):PE X (.BinOp a .Add b pos) (tV (kk X cm) E (Ī (ĵ Ķ ma mb))):=ŏ (aR ha hb)
def t_eq(hu:X.A.units+64<cLine)(ha:PE X a (tR (kk X cm) E ma))(hb:PE X b (tR (kk X cm) E mb)):PT X (.Compare a [.Eq] [b] pos) (tB (kk X cm) E (iU (Ć ŷ ma mb))):=nT uL (nA hu) ha hb (dX _)
def pG(hu:X.A.units+64<cLine)(ha:PE X a (tR (kk X cm) E ma))(hb:PE X b (tR (kk X cm) E mb)):PT X (.Compare a [.NotEq] [b] pos) (tB (kk X cm) E (iU (Ć Ÿ ma mb))):=nT Aa (wQ hu) ha hb (dX _)
def v_eq(hu:X.A.units+64<cLine)(ha:PE X a (tR (kk X cm) E ma))(hb:PE X b (tR (kk X cm) E mb)):PE X (.Compare a [.Eq] [b] pos) (tV (kk X cm) E (Ć ŷ ma mb)):=zK uL (nA hu) ha hb (dX _)
def cj(he:PE X e (tO (kk X cm) E mo)):ź X [.Return (some e) pos] (tS (kk X cm) E (Ń mo)):=Ĳ (zP he)
def cu(he:PE X e (tV (kk X cm) E m)):ź X [.Return (some e) pos] (tS (kk X cm) E (Ń (dF m))):=cj (iT he)
def jh{N ps:List Str}{sc:Scope}{i:Nat}{x:Str}{pos':Pos}(S:Č N ps sc)(he:PE X e (tO (kk X cm) E mo))(hN:X.N=N:=by rfl)(hi:X.N[i]?=some x:=by rfl)(hx:Loc X.env.scope x:=by first|exact Or.inl rfl|exact Or.inr rfl)(hs:swapsWith e (some (.Name x pos')) pos.line X.env=pure false:=by rfl)(hf:X.fn x=true\/X.env.scope.names.lookup x=some .local:=by first|exact .inl rfl|exact .inr rfl|assumption) :
 PS X (.Assign [.Name x pos'] e pos) (tS (kk X cm) E (ĸ i mo)):=zO (hN▸S.nd) hi hx he hs hf
def aN{N ps:List Str}{sc:Scope}{i:Nat}{x:Str}{pos':Pos}{rest:List Stmt}{m2:M Fl}(S:Č N ps sc)(he:PE X e (tO (kk X cm) E mo))(h2:ź X rest (tS (kk X cm) E m2))(hN:X.N=N:=by rfl)(hi:X.N[i]?=some x:=by rfl)(hx:Loc X.env.scope x:=by first|exact Or.inl rfl|exact Or.inr rfl)(hs:swapsWith e (some (.Name x pos')) pos.line X.env=pure false:=by rfl)(hf:X.fn x=true\/X.env.scope.names.lookup x=some .local:=by first|exact .inl rfl|exact .inr rfl|assumption) :
 ź X (.Assign [.Name x pos'] e pos::rest) (tS (kk X cm) E (Ğ (ĸ i mo) m2)):=ē (jh S he hN hi hx hs hf) h2
def fV{N ps:List Str}{sc:Scope}{i:Nat}{x:Str}(S:Č N ps sc)(hN:X.N=N:=by rfl)(hi:X.N[i]?=some x:=by rfl)(hx:Loc X.env.scope x:=by first|exact Or.inl rfl|exact Or.inr rfl)(hf:X.fn x=true\/X.env.scope.names.lookup x=some .local:=by first|exact .inl rfl|exact .inr rfl|assumption):PG X (.Name x pos) (tT (kk X cm) (gN i)):=ou (hN▸S.nd) hi hx hf
def pH{i:Nat}{x:Str}(hN:X.N.Nodup:=by exact Kc (by kernel_rfl))(hi:X.N[i]?=some x:=by rfl)(hx:Loc X.env.scope x:=by first|exact Or.inl rfl|exact Or.inr rfl)(hf:X.fn x=true\/X.env.scope.names.lookup x=some .local:=by first|exact .inl rfl|exact .inr rfl):PG X (.Name x pos) (tT (kk X cm) (gN i)):=ou hN hi hx hf
def Ĝ(i:Nat){x:Str}{px:Pos}{ms:M (List Slot)}(hr:PA X es (tA (kk X cm) E ms))(hN:X.N[i]?=some x:=by rfl)(hv:mq X.env.scope x:=by first|exact Or.inl rfl|exact Or.inr (Or.inl rfl)|exact Or.inr (Or.inr rfl))(hd:(x== ("__debug__" :Str))=false:=by decide)
 (hcd:(x== ("__classdict__" :Str))=false:=by decide)(hs:starEach (.Name x px::es) X.env=(false,eval (.Name x px) X.env)::starEach es X.env:=by exact aj rfl):PA X (.Name x px::es) (tA (kk X cm) E (ċ i ms)):=rZ i hN hv hd hcd hr hs
def cA{id:String}{x:Str}{r:List V->Hp->VK->Prop}{f:List PV->Option PV}{mr:M (List PV)}(hc:ĺ X (.builtin id) r)(hf:gG (kk X cm) r f)(hm:X.mg x=none)(hv:bootBuiltins x=some (.builtin id))(ha:PA X (e::es) (wZ (kk X cm) E mr))(hg:Gl X x:=by rfl)(hn:x≠ "__name__" := by decide)(hdb:(x== ("__debug__" :Str))=false:=by decide)
 (he:starEach (e::es) X.env=(false,eval e X.env)::starEach es X.env:=by rfl)(hpl:(backTo pos (starEach es X.env)).any (·.1)=false:=by rfl):PE X (.Call (.Name x p) (e::es) [] pos) (tV (kk X cm) E (iV f mr)):=PE.wk (mW hc hg hm hv ha hn hdb he hpl) λ_ _ _ h=>FP hf h
def HN{T:String}{x:Str}{r:List V->Hp->VK->Prop}{f:List PV->Option RV}{mr:M (List PV)}(hc:ĺ X (.type T) r)(hf:n_ (kk X cm) r f)(hm:X.mg x=none)(hv:bootBuiltins x=some (.type T))(ha:PA X (e::es) (wZ (kk X cm) E mr))(hg:Gl X x:=by rfl)(hn:x≠ "__name__" := by decide)(hdb:(x== ("__debug__" :Str))=false:=by decide)
 (he:starEach (e::es) X.env=(false,eval e X.env)::starEach es X.env:=by rfl)(hpl:(backTo pos (starEach es X.env)).any (·.1)=false:=by rfl):PE X (.Call (.Name x p) (e::es) [] pos) (tO (kk X cm) E (su f mr)):=PE.wk (lE hc hg hm hv ha hn hdb he hpl) λ_ _ _ h=>FQ hf h
end
section
variable{X:Cx}{cm:String->Addr}{E:L2.St->XK}{elt tg iter t:Expr}{ifs:List Expr}{scope:Scope}{pos:Pos}{mi:M (List PV)}{g:Tg}{mt:M Bool}{me:M PV}{js:List Nat}{nl:Nat}
structure CF(X:Cx)(js:List Nat)(nl:Nat)(tg iter:Expr)(scope:Scope):Prop where
 hcap:bJ X.Ŕ X.env.scope scope (cN X js tg) js
 hcalm:X.calm=true
 hlen:js.length+nl=(cN X js tg).length
 hk:scope.kind=.function
 hcell:∀y∈scope.names,y.2=.cell->scope.names.lookup y.1=some .cell
 hnames:∀y∈scope.names,y.2=.local->scope.names.lookup y.1=some .local
 hfree:∀y∈scope.names,y.2=.free->(X.env.scope.names.lookup y.1=some .cell\/X.env.scope.names.lookup y.1=some .free)
 hs:∀x,foldedSetIterable iter X.env x=pure x
def cf(hcap:bJ X.Ŕ X.env.scope scope (cN X js tg) js:=by repeat' first|exact True.intro|refine⟨rfl,⟨rfl,by first|exact Or.inl rfl|exact Or.inr rfl⟩,?_⟩)(hcalm:X.calm=true:=by rfl)(hlen:js.length+nl=(cN X js tg).length:=by rfl)
 (hk:scope.kind=.function:=by rfl)(hcell:∀y∈scope.names,y.2=.cell->scope.names.lookup y.1=some .cell:=by decide +kernel)(hnames:∀y∈scope.names,y.2=.local->scope.names.lookup y.1=some .local:=by decide +kernel)
 (hfree:∀y∈scope.names,y.2=.free->(X.env.scope.names.lookup y.1=some .cell\/X.env.scope.names.lookup y.1=some .free):=by exact frB (by kernel_rfl))(hs:∀x,foldedSetIterable iter X.env x=pure x:=by intro _;rfl):CF X js nl tg iter scope:=⟨hcap,hcalm,hlen,hk,hcell,hnames,hfree,hs⟩
def HS(hi:PI X.Ŕ tg iter (tG (kk X cm) E (oM (kk X cm)) mi))(hg:∀{cl C s H fp},PG (aD X.Ŕ (cN X js tg) scope cl C s H fp) tg (tT (kk X cm) g))(ht:∀{cl C s H fp},rM (aD X.Ŕ (cN X js tg) scope cl C s H fp) ifs (tB (kk X cm) EF mt))(he:∀{cl C s H fp},PE (aD X.Ŕ (cN X js tg) scope cl C s H fp) elt (tV (kk X cm) EF me))(h:CF X js nl tg iter scope:=by exact cf) :
 PE X (.ListComp elt [⟨tg,iter,ifs,0⟩] scope pos) (tO (kk X cm) E (Ţ js nl mi g mt me)):=sU (cN X js tg) js nl X.env.scope rfl h.hcalm hi (λ_ _ _ _ _=>hg) (λ_ _ _ _ _=>ht) (λ_ _ _ _ _=>he) h.hcap h.hlen h.hk h.hcell h.hnames h.hfree h.hs
def tQ(hi:PI X.Ŕ tg iter (tI (kk X cm) E mi))(hg:∀{cl C s H fp},PG (aD X.Ŕ (cN X js tg) scope cl C s H fp) tg (tT (kk X cm) g))(ht:∀{cl C s H fp},rM (aD X.Ŕ (cN X js tg) scope cl C s H fp) ifs (tB (kk X cm) EF mt))(he:∀{cl C s H fp},PE (aD X.Ŕ (cN X js tg) scope cl C s H fp) elt (tV (kk X cm) EF me))(h:CF X js nl tg iter scope:=by exact cf) :
 PE X (.ListComp elt [⟨tg,iter,ifs,0⟩] scope pos) (tO (kk X cm) E (Ţ js nl mi g mt me)):=HS (zW hi) hg ht he h
end
end P
namespace P
open PySem PySem.Spec PyProof.Rows L2 M2 M3 M5
end P
namespace P
open PySem PySem.Spec PyProof.Rows L2 M2 M3 M4 M5
variable{X:Cx}{cm:String->Addr}{E:L2.St->XK}{a:Expr}{pos:Pos}{ma:M PV}
end P
namespace M5
open PySem PySem.Spec PyProof.Rows L2 M2 M3
section
variable{X:Cx}{pins:List (Addr×Obj)}{σ:L2.St}{H:Hp}{s:Shared}
variable{R:Result->Shared->Prop}{f l S It:Addr}{oF:Obj}{xs:List V}(ks:Nat->Int)(W:Nat->Hp->Prop)
end
section
variable{X:Cx}{x px:Str}{c P:Addr}{params:Arguments}{body e:Expr}{scope:Scope}{p pos wU kpos dpos A_:Pos}{dj:Nat}{ta:TA}{te:TE}
end
end M5
namespace P
open PySem PySem.Spec PyProof.Rows L2 M2 M3 M5
section
variable{X:Cx}{cm:String->Addr}{E:L2.St->XK}{x px:Str}{c Pt:Addr}{params:Arguments}{body e:Expr}{scope:Scope}{p pos wU kpos dpos A_:Pos}{dj:Nat}{mr:M (List PV)}{me:M PV}
end
end P
namespace PySem
namespace F
end F
section
variable{prog:Program}{w:World}{A:Around}{E:Value->Shared->Prop}{s:Shared}
end
end PySem
namespace P
open PySem PySem.Spec PyProof.Rows L2 M2 M3 M4
section
variable{X:Cx}{cm:String->Addr}{E:L2.St->XK}{tg e l:Expr}{p pos p1 pos1:Pos}{mi:M (List PV)}
end
end P
namespace P
open PySem PySem.Spec PyProof.Rows L2 M2 M3 M4
end P
namespace P
open PySem PySem.Spec PyProof.Rows L2 M2 M3 M4
section
variable{X:Cx}{cm:String->Addr}{E:L2.St->XK}{tg:Expr}{a b d:Expr}{p pos:Pos}{mr:M (List PV)}
end
end P
namespace P
open PySem PySem.Spec PyProof.Rows L2 M2 M3 M4
section
variable{X:Cx}{cm:String->Addr}{E:L2.St->XK}
end
end P
namespace L2
open PySem PySem.Spec PyProof.Rows
end L2
namespace L2
open PySem PySem.Spec PyProof.Rows
section
variable(P:Program)(w:World)
end
section
variable{P:Program}{w:World}{H H':Hp}{h h':Heap}{a:Addr}{o:HO}
end
section
variable{P:Program}{w:World}{H:Hp}{h h':Heap}{x e:Addr}{o':HO}
end
section
variable{fs fs' ex ex':List Addr}{H H1 H2:Hp}{h h1 h2 h':Heap}{a x e:Addr}{o:HO}
end
end L2
namespace L2
open PySem PySem.Spec PyProof.Rows
section
variable{X:Cx}{pins:List (Addr×Obj)}{σ:List (Option V)}{H H':Hp}{s:Shared}{h':Heap}
end
end L2
namespace L2
open PySem PySem.Spec PyProof.Rows
section
variable{X:Cx}
variable{a b:Expr}{ta tb:TE}{pos:Pos}
variable{tA Ec:TT}{rest:List Expr}
end
end L2
namespace L2
open PySem PySem.Spec PyProof.Rows
section
variable{X:Cx}{pins:List (Addr×Obj)}{σ:St}{H:Hp}{s:Shared}{a:Addr}{xs ys:List V}
end
section
variable{X:Cx}{pins:List (Addr×Obj)}{σ:St}{H:Hp}{s:Shared}{E:Value->Shared->Prop}
end
section
variable{X:Cx}{st:Stmt}{rest:List Stmt}{t u:TS}{e:Expr}{te:TE}{pos:Pos}
end
section
variable{X:Cx}{pos:Pos}
end
section
variable{X:Cx}{pos:Pos}
end
end L2
namespace L2
open PySem PySem.Spec PyProof.Rows
section
variable{X:Cx}{tg:Expr}
end
end L2
namespace L2
open PySem PySem.Spec PyProof.Rows
section
variable{X:Cx}{a b c:Expr}{ta tb tc:TE}{pos:Pos}
end
section
variable{X:Cx}{a b c:Expr}{ta tb tc:TE}{pos:Pos}
end
end L2
namespace L2
open PySem PySem.Spec PyProof.Rows
section
variable{prog:Program}{w:World}{A:Around}{E:Value->Shared->Prop}{s:Shared}{K:PySem.W.Frag}{x dx C f:Addr}{mA:Str->Option Value}{name:Str}{v:Value}
end
section
variable{P:Program}{w:World}{H H':Hp}{h h':Heap}{a C dx:Addr}{fs fs':List (Str×V)}
end
section
variable{X:Cx}{pins:List (Addr×Obj)}{σ:St}{H:Hp}{s:Shared}{a C dx:Addr}{fs:List (Str×V)}{f:Str}{v:V}{A:Around}{E:Value->Shared->Prop}
end
section
variable{X:Cx}{o e value:Expr}{f:Str}{pos pos' tpos:Pos}{ta tv:TE}
end
section
variable{X:Cx}{pins:List (Addr×Obj)}{σ:St}{H:Hp}{s:Shared}{A:Around}{E:Value->Shared->Prop}{Q:Value->Shared->Prop}{c:Value}{b:Bool}
end
end L2
namespace L2
open PySem PySem.Spec PyProof.Rows
section
variable{X:Cx}{e:Expr}{es:List Expr}{te:TE}{t:TA}{pos:Pos}
end
section
variable{X:Cx}{pins:List (Addr×Obj)}{σ:St}{H:Hp}{s s':Shared}
end
section
variable{X:Cx}{CX:aC}{k:Nat}{f C:Addr}{fd:FuncData}{ps:List Str}{sp:Sp}{Il:List V}{ds:List Value}{E:XK}{x m:Str}{p pos apos:Pos}{e o:Expr}{es:List Expr}{ta:TE}{t:TA}
end
section
variable{X:Cx}{CX:aC}{k:Nat}{f C:Addr}{fd:FuncData}{ps ks:List Str}{sp:Sp}{E:XK}{x m:Str}{p pos apos kpos:Pos}{e o:Expr}{es:List Expr}{kws:List Keyword}{te ta:TE}{t tk:TA}{nm:Option Str}
variable{g:List Value->List Value->List Value}{gV:List V->List V->List V}
end
end L2
namespace L2
open PySem PySem.Spec PyProof.Rows
section
variable{X:Cx}{x:Str}{p pos:Pos}{e:Expr}{es:List Expr}{t:TA}{id T:String}{r:List V->Hp->VK->Prop}
end
end L2
namespace L2
open PySem PySem.Spec PyProof.Rows
section
variable{κ:Type}[DecidableEq κ]
def tU(kvs:List (κ×V))(k:κ):Option V:=(kvs.find? λkv=>decide (kv.1=k)).map (·.2)
def putK(kvs:List (κ×V))(k:κ)(v:V):List (κ×V):=
 if(kvs.any λkv=>decide (kv.1=k))=true then kvs.map (λkv=>if kv.1=k then(kv.1,v) else kv) else kvs ++ [(k,v)]
end
section
variable{P:Program}{w:World}{H:Hp}{h:Heap}{a:Addr}
end
def tW(H:Hp)(a:Addr)(y:V)(r:Option V):Prop:=
 (∃kvs k,Rd H a (.dK kvs)/\y=kV k/\r=tU kvs k)\/∃kvs k b,Rd H a (.dT kvs)/\y=.ref b/\H b=some (.tup (k.map kV))/\r=tU kvs k
def tX(H:Hp)(a:Addr)(y v:V)(H':Hp):Prop:=
 (∃kvs k,H a=some (.dK kvs)/\y=kV k/\kvs.length<sizeLine/\H'=upd H a (.dK (putK kvs k v)))\/
 ∃kvs k b,H a=some (.dT kvs)/\y=.ref b/\H b=some (.tup (k.map kV))/\kvs.length<sizeLine/\H'=upd H a (.dT (putK kvs k v))
theorem tW.k{H:Hp}{a:Addr}{kvs:List (Key×V)}{k:Key}(e:H a=some (.dK kvs)):tW H a (kV k) (tU kvs k):=.inl ⟨kvs,k,.inl e,rfl,rfl⟩
def tW.t{H:Hp}{a b:Addr}{kvs:List (List Key×V)}{k:List Key}(e:H a=some (.dT kvs))(eb:H b=some (.tup (k.map kV))):tW H a (.ref b) (tU kvs k):=.inr ⟨kvs,k,b,.inl e,rfl,eb,rfl⟩
theorem tX.k{H:Hp}{a:Addr}{kvs:List (Key×V)}{k:Key}{v:V}(e:H a=some (.dK kvs))(hl:kvs.length<sizeLine):tX H a (kV k) v (upd H a (.dK (putK kvs k v))):=.inl ⟨kvs,k,e,rfl,hl,rfl⟩
def tX.t{H:Hp}{a b:Addr}{kvs:List (List Key×V)}{k:List Key}{v:V}(e:H a=some (.dT kvs))(eb:H b=some (.tup (k.map kV)))(hl:kvs.length<sizeLine) :
 tX H a (.ref b) v (upd H a (.dT (putK kvs k v))):=.inr ⟨kvs,k,b,e,rfl,eb,hl,rfl⟩
section
variable{X:Cx}{pins:List (Addr×Obj)}{σ:St}{H:Hp}{s:Shared}{a:Addr}{y v:V}{u r:Value}{o:Option V}{A:Around}{E:Value->Shared->Prop}
end
section
variable{X:Cx}{pins:List (Addr×Obj)}{σ:St}{H:Hp}{s:Shared}{a:Addr}{kvs:List (Key×V)}{k:Key}{u:Value}{A:Around}{E:Value->Shared->Prop}
end
section
variable{X:Cx}{o i e value:Expr}{pos pos' tpos:Pos}{td ty tv:TE}
end
section
variable{X:Cx}{pos:Pos}
end
section
variable{X:Cx}{pins:List (Addr×Obj)}{σ:St}{H:Hp}{s:Shared}{a:Addr}{y d:V}{u r:Value}{o:Option V}{A:Around}{E:Value->Shared->Prop}
end
section
variable{X:Cx}{o e f:Expr}{apos cpos:Pos}{td ty tx:TE}
end
section
variable{X:Cx}{pins:List (Addr×Obj)}{σ:St}{H:Hp}{s:Shared}{a:Addr}{kvs:List (Key×V)}{A:Around}{E:Value->Shared->Prop}
end
section
variable{X:Cx}{pins:List (Addr×Obj)}{σ:St}{H:Hp}{s:Shared}{a:Addr}{y:V}{u:Value}{A:Around}{E:Value->Shared->Prop}
end
end L2
namespace CQ
open PySem PySem.W PySem.Calls PyProof.Rows
section
variable{prog:Program}{w:World}{A:Around}{E:Value->Shared->Prop}{s:Shared}{K:Frag}
end
end CQ
namespace L2
open PySem PySem.Spec PyProof.Rows
end L2
namespace L2
open PySem PySem.Spec PyProof.Rows
end L2
namespace L2
open PySem PySem.Spec PyProof.Rows
section
variable{P:Program}{w:World}{K:PySem.W.Frag}{mg:Str->Option Value}{base:Heap}
end
section
variable{X:Cx}
end
section
variable{κ:Type}[DecidableEq κ]
end
end L2
namespace P
open PySem PySem.Spec PyProof.Rows L2 M2 M3 M4
section
variable{K:KK}{F:Hp}{α κ:Type}[DecidableEq κ]{c:α->DK}{kf:α->κ}(hc:∀{x y},c x=c y->x=y)(hk:∀{x y},kf x=kf y->x=y)
end
section
variable{X:Cx}{cm:String->Addr}{E:L2.St->XK}{e o:Expr}{pos:Pos}{ma mk mv:M PV}
end
end P
namespace P
open PySem PySem.Spec PyProof.Rows L2 M2 M3 M4
section
variable{X:Cx}{cm:String->Addr}{E:L2.St->XK}{e:Expr}{pos:Pos}
end
end P
namespace P
open PySem PySem.Spec PyProof.Rows L2 M2 M3 M4
def insI(n:Int):List Int->List Int
 | []=>[n]
 |m::ms=>if n<=m then n::m::ms else m::insI n ms
def cB:List Int->List Int
 | []=>[]
 |n::ns=>insI n (cB ns)
theorem insI_perm(n:Int):∀ms,(insI n ms).Perm (n::ms)
 | []=>.refl _
 |m::ms=>by
  unfold insI
  split
  ·exact .refl _
  ·exact((insI_perm n ms).cons m).trans (.swap n m ms)
theorem aO:∀ns,(cB ns).Perm ns
 | []=>.refl _
 |n::ns=>(insI_perm n _).trans ((aO ns).cons n)
theorem aU(n:Int):∀{ms:List Int},ms.Pairwise (·<= ·)->(insI n ms).Pairwise (·<= ·)
 | [],_=>by simp[insI]
 |m::ms,h=>by
  obtain⟨h1,h2⟩:=List.pairwise_cons.mp h
  unfold insI
  split
  ·rename_i hn
   refine List.pairwise_cons.mpr ⟨λx hx=>?_,h⟩
   rcases List.mem_cons.mp hx with rfl|hx
   ·exact hn
   ·exact Int.le_trans hn (h1 x hx)
  ·rename_i hn
   refine List.pairwise_cons.mpr ⟨λx hx=>?_,aU n h2⟩
   rcases List.mem_cons.mp ((insI_perm n ms).mem_iff.mp hx) with rfl|hx
   ·omega
   ·exact h1 x hx
theorem Ť:∀ns,(cB ns).Pairwise (·<= ·)
 | []=>.nil
 |n::ns=>aU n (Ť ns)
theorem dJ:∀{l m:List Int},l.Pairwise (·<= ·)->m.Pairwise (·<= ·)->l.Perm m->l=m
 | [],m,_,_,h=>(List.nil_perm.mp h).symm
 |a::l,[],_,_,h=>by simpa using h.length_eq
 |a::l,b::m,h1,h2,h=>by
  obtain⟨p1,p2⟩:=List.pairwise_cons.mp h1
  obtain⟨q1,q2⟩:=List.pairwise_cons.mp h2
  have ab:a=b:=by
   have m1:a∈b::m:=h.mem_iff.mp List.mem_cons_self
   have m2:b∈a::l:=h.mem_iff.mpr List.mem_cons_self
   rcases List.mem_cons.mp m1 with e|m1
   ·exact e
   ·rcases List.mem_cons.mp m2 with e|m2
    ·exact e.symm
    ·have:=p1 b m2
     have:=q1 a m1
     omega
  subst ab
  rw[dJ p2 q2 (h.cons_inv)]
section
variable{X:Cx}{cm:String->Addr}{E:L2.St->XK}{pos:Pos}
theorem dM{K:KK}{F:Hp}:∀ms:List Int,ā K F (ms.map .int) (ms.map V.int)
 | []=>ā.nil
 |m::ms=>ā.cons (by unfold Rep;rfl) (dM ms)
end
end P
namespace P
open PySem PySem.Spec PyProof.Rows L2 M2 M3 M4
section
variable{X:Cx}{cm:String->Addr}{E:L2.St->XK}{tg:Expr}{pos:Pos}
end
end P
namespace P
open PySem PySem.Spec PyProof.Rows L2 M2 M3 M4
abbrev qG(xs:Array Nat):Prop:=xs.toList.Pairwise (·< ·)
def cC{xs:Array Nat}(h:qG xs){i j x y:Nat}(hi:xs[i]?=some x)(hj:xs[j]?=some y)(hij:i<j):x<y:=by
 rw[<-Array.getElem?_toList] at hi hj
 obtain⟨i1,i2⟩:=List.getElem?_eq_some_iff.mp hi
 obtain⟨j1,j2⟩:=List.getElem?_eq_some_iff.mp hj
 have:=List.pairwise_iff_getElem.mp h i j i1 j1 hij
 rw[i2,j2] at this
 exact this
theorem cD{xs:Array Nat}(h:qG xs)(j:Nat):∀(f lo hi:Nat),hi-lo<=f->lo<=hi->hi<=xs.size->(∀k x,xs[k]?=some x->k<lo->x<j)->(∀k x,xs[k]?=some x->hi<=k->j<=x)->
 SetTable.below.go xs j f lo hi<=xs.size/\∀k x,xs[k]?=some x->(k<SetTable.below.go xs j f lo hi↔x<j)
 |0,lo,hi,h1,h2,h3,h4,h5=>by
  have e:lo=hi:=by omega
  unfold SetTable.below.go
  subst e
  refine⟨h3,λk x hx=>⟨h4 k x hx,λhl=>?_⟩⟩
  have:=h5 k x hx
  omega
 |f+1,lo,hi,h1,h2,h3,h4,h5=>by
  unfold SetTable.below.go
  split
  ·rename_i hl
   have hm:(lo+hi) / 2<xs.size:=by omega
   have hg:xs[(lo+hi) / 2]?=some (xs.getD ((lo+hi) / 2) j):=by simp[Array.getD,hm]
   by_cases hx:xs.getD ((lo+hi) / 2) j<j
   ·rw[if_pos hx]
    refine cD h j f ((lo+hi) / 2+1) hi (by omega) (by omega) h3 (λk x hk hkl=>?_) h5
    by_cases e:k=(lo+hi) / 2
    ·subst e;rw[hg] at hk;cases hk;exact hx
    ·exact Nat.lt_trans (cC h hk hg (by omega)) hx
   ·rw[if_neg hx]
    refine cD h j f lo ((lo+hi) / 2) (by omega) (by omega) (by omega) h4 (λk x hk hkl=>?_)
    by_cases e:k=(lo+hi) / 2
    ·subst e;rw[hg] at hk;cases hk;omega
    ·have:=cC h hg hk (by omega);omega
  ·have e:lo=hi:=by omega
   subst e
   refine⟨h3,λk x hx=>⟨h4 k x hx,λhl=>?_⟩⟩
   have:=h5 k x hx
   omega
def gY{xs:Array Nat}(h:qG xs)(j:Nat):SetTable.below xs j<=xs.size/\∀k x,xs[k]?=some x->(k<SetTable.below xs j↔x<j):=by
 unfold SetTable.below
 refine cD h j _ _ _ (by omega) (by omega) (Nat.le_refl _) (λk x _ hk=>by omega) λk x hx hk=>?_
 have:=(Array.getElem?_eq_some_iff.mp hx).1
 omega
def below_at{xs:Array Nat}(h:qG xs){i x:Nat}(hx:xs[i]?=some x):SetTable.below xs (x+1)=i+1:=by
 obtain⟨h1,h2⟩:=gY h (x+1)
 have a:=(h2 i x hx).mpr (Nat.lt_succ_self _)
 refine Nat.le_antisymm (Nat.le_of_not_lt λhn=>?_) a
 have hl:i+1<xs.size:=by omega
 have hy:xs[i+1]?=some xs[i+1]:=Array.getElem?_eq_getElem hl
 have:=cC h hx hy (Nat.lt_succ_self _)
 have:=(h2 (i+1) _ hy).mp hn
 omega
def ji(xs:Array Nat):SetTable.below xs 0=0:=by
 have:∀f hi,SetTable.below.go xs 0 f 0 hi=0:=by
  intro f
  induction f with
  |zero=>intro hi;rfl
  |succ f ih=>intro hi;unfold SetTable.below.go;simp[ih]
 exact this _ _
structure Tb(b:Bool)(t:SetTable):Prop where
 Jo:qG t.place
 Jp:t.dummies= #[]
 led:t.led=b
def pI(b:Bool):Tb b (.fresh 0 0 b):=⟨.nil,rfl,rfl⟩
def tY{xs:Array Nat}(h:qG xs){j:Nat}(hj:xs[SetTable.below xs j]?≠some j):qG (SetTable.insertAt xs (SetTable.below xs j) j):=by
 obtain⟨h1,h2⟩:=gY h j
 unfold qG
 rw[SetTable.toList_insertAt]
 refine List.pairwise_append.mpr ⟨h.sublist (List.take_sublist _ _),List.pairwise_cons.mpr ⟨λy hy=>?_,h.sublist (List.drop_sublist _ _)⟩,λx hx y hy=>?_⟩
 ·obtain⟨k,hk,e⟩:=List.getElem_of_mem hy
  have hk':xs[SetTable.below xs j+k]?=some y:=by
   rw[<-Array.getElem?_toList,<-List.getElem?_drop,List.getElem?_eq_getElem hk,e]
  have n1:¬y<j:=λhl=>by have:=(h2 _ _ hk').mpr hl;omega
  by_cases e0:y=j
  ·subst e0
   exfalso
   by_cases k0:k=0
   ·subst k0;exact hj hk'
   ·have hb:SetTable.below xs y<xs.size:=by
     have:=(Array.getElem?_eq_some_iff.mp hk').1
     omega
    have hz:xs[SetTable.below xs y]?=some xs[SetTable.below xs y]:=Array.getElem?_eq_getElem hb
    have l1:=cC h hz hk' (by omega)
    have:=(h2 _ _ hz).mpr l1
    omega
  ·omega
 ·obtain⟨k,hk,e⟩:=List.getElem_of_mem hx
  have hkl:k<SetTable.below xs j:=by rw[List.length_take] at hk;omega
  have hk':xs[k]?=some x:=by
   rw[<-Array.getElem?_toList,List.getElem?_eq_some_iff]
   rw[List.getElem_take] at e
   exact⟨by rw[List.length_take] at hk;omega,e⟩
  have xj:=(h2 _ _ hk').mp hkl
  rcases List.mem_cons.mp hy with rfl|hy
  ·exact xj
  ·obtain⟨m,hm,e2⟩:=List.getElem_of_mem hy
   have hm':xs[SetTable.below xs j+m]?=some y:=by
    rw[<-Array.getElem?_toList,<-List.getElem?_drop,List.getElem?_eq_getElem hm,e2]
   exact cC h hk' hm' (by omega)
def lW(n:Nat):qG (Array.range n):=by
 unfold qG
 rw[Array.toList_range]
 exact List.pairwise_lt_range
def au{b:Bool}{t:SetTable}(h:Tb b t)(n:Nat):Tb b (t.standIn n):=⟨lW n,rfl,h.led⟩
def has_none(j:Nat):SetTable.has #[] j=false:=by simp[SetTable.has]
theorem cF{t:SetTable}(hd:t.dummies= #[])(h:Int):∀(f:Nat) (p:SetTable.Probe) (j:Nat) (d:Option Nat),p.dummy=none->SetTable.probe.go t (λ_=>h+1) h f p=some (.empty j d)->d=none/\t.place[SetTable.below t.place j]?≠some j
 |0,p,j,d,_,e=>by cases e
 |f+1,p,j,d,hp,e=>by
  unfold SetTable.probe.go at e
  unfold SetTable.slot at e
  dsimp only at e
  by_cases hx:t.place[SetTable.below t.place p.j]?=some p.j
  ·have hne:(h+1== h)=false:=by simp;omega
   have hxb:(t.place[SetTable.below t.place p.j]?== some p.j)=true:=by rw[hx];simp
   simp only[hxb,if_true,hne,Bool.false_eq_true,if_false] at e
   refine cF hd h f _ j d ?_ e
   unfold SetTable.advance
   split
   ·exact hp
   ·exact hp
  ·have hxb:(t.place[SetTable.below t.place p.j]?== some p.j)=false:=by simpa using hx
   rw[hd,has_none] at e
   simp only[hxb,Bool.false_eq_true,if_false] at e
   injection e with e
   injection e with e1 e2
   subst e1
   exact⟨by rw[<-e2,hp],hx⟩
def yg{b:Bool}{t:SetTable}(h:Tb b t)(es:Array (Int×Value))(k:Int)(x:Value):Tb b (layNew t es k x).2.1:=by
 unfold layNew
 cases e:t.freeSlot k with
 |none=>exact au h _
 |some q=>
  obtain⟨j,wd⟩:=q
  have hj:t.place[SetTable.below t.place j]?≠some j:=by
   unfold SetTable.freeSlot SetTable.probe at e
   split at e
   ·rename_i j0 d0 e0
    obtain⟨rfl,hn⟩:=cF h.Jp k _ _ _ _ rfl e0
    injection e with e
    injection e with e1 _
    rw[<-e1]
    exact hn
   ·cases e
  have ht:Tb b (t.put j).1:=by
   unfold SetTable.put
   refine⟨tY h.Jo hj,?_,h.led⟩
   show(if SetTable.has t.dummies j then _ else t.dummies)= #[]
   rw[h.Jp,has_none]
   rfl
  dsimp only
  unfold SetTable.orStandIn
  split
  ·exact ht
  ·exact au ht _
def jj(g:Nat->Option Nat)(n:Nat):(((List.range n).filterMap λj=>(g j).map (j,·)).map (·.1)).Pairwise (·< ·):=by
 rw[List.pairwise_map,List.pairwise_filterMap]
 refine List.pairwise_lt_range.imp fun{a c} hac x hx y hy=>?_
 simp only[Option.map_eq_some_iff] at hx hy
 obtain⟨_,_,rfl⟩:=hx
 obtain⟨_,_,rfl⟩:=hy
 exact hac
def pJ{b:Bool}{t:SetTable}(h:Tb b t)(es:Array (Int×Value))(n:Nat):Tb b (relayAll t es n).2.1:=by
 unfold relayAll
 cases e:t.relaid (es.map (·.1)) n with
 |none=>exact au h _
 |some q=>
  obtain⟨t',order⟩:=q
  dsimp only
  split
  ·unfold SetTable.relaid SetTable.laid at e
   obtain⟨ow,e1,e2⟩:=Option.bind_eq_some_iff.mp e
   injection e2 with e2
   injection e2 with e2 _
   subst e2
   refine⟨?_,rfl,h.led⟩
   exact jj (λj=>ow.getD j none) _
  ·exact au h _
def keyV:Value->Int
 | .int n _=>n
 |_=>0
section
variable{prog:Program}{w:World}{A:Around}{E:Value->Shared->Prop}{s:Shared}
def gZ(prog:Program)(w:World)(b:Bool)(o:Obj)(ks:List Int):Prop:=
 o.ExactSet/\∃es ep t,o.data=.set es ep t/\ElemsOf (intKind prog w) es.toList/\(es.toList.map λe=>keyV e.2).Perm ks/\es.size<scanBound/\t.fits es.size=true/\Tb b t
def g_{es:List (Int×Value)}(h:ElemsOf (intKind prog w) es){e:Int×Value}(he:e∈es):∃n t,e.2=.int n t:=by
 obtain⟨⟨k,hk,_⟩,_⟩:=h e he
 obtain⟨x,v⟩:=e
 have hk:Value.isInt k v=true:=hk
 cases v<;>simp[Value.isInt] at hk
 exact⟨_,_,rfl⟩
def find_key{es:List (Int×Value)}(h:ElemsOf (intKind prog w) es)(k:Int):(es.findIdx? λe=>(intKind prog w).is k e.2).isSome=(es.map λe=>keyV e.2).any (·== k):=by
 rw[List.findIdx?_isSome,List.any_map]
 induction es with
 |nil=>rfl
 |cons e es ih=>
  rw[List.any_cons,List.any_cons,ih h.tail]
  congr 1
  obtain⟨n,t,hn⟩:=g_ h (.head _)
  show Value.isInt k e.2=(keyV e.2== k)
  rw[hn]
  simp[Value.isInt,keyV,Bool.beq_comm]
def jV{a:Addr}{o:Obj}{es:Array (Int×Value)}{ep:Nat}{t:SetTable}{b:Bool}{ks:List Int}{g:Bool->Sem Unit}(hg:∀(c:Bool) (s1:Shared) (Q:Unit->Shared->Prop),Q () s1->wpAny (model prog w) A (g c) Q E s1)
 (ho:s.heap.get? a=some o)(hx:o.ExactSet)(hd:o.data=.set es ep t){es1:Array (Int×Value)}{t1:SetTable}{wd:Bool}{R:Option Bool->Shared->Prop}
 (he:ElemsOf (intKind prog w) es1.toList)(hk:(es1.toList.map λe=>keyV e.2).Perm ks)(hb:es1.size<scanBound)(hf:t1.fits es1.size=true)(ht:Tb b t1)
 (h:∀h' o',Heap.SameBut a s.heap h'->h'.get? a=some o'->gZ prog w b o' ks->R (some true) {s with heap:=h'}) :
 wpAny (model prog w) A (do
  storeSet a es1 t1
  if(!wd && t1.tooFull)=true then do
     g (relayAll t1 es1 (SetTable.grown es1.size)).2.2
     storeSet a (relayAll t1 es1 (SetTable.grown es1.size)).1 (relayAll t1 es1 (SetTable.grown es1.size)).2.1
     pure (some true)
   else pure (some true)) R E s:=by
 have up:∀{h:Heap} {o:Obj} {es:Array (Int×Value)} {ep:Nat} {t:SetTable} (es':Array (Int×Value)) (t':SetTable),h.get? a=some o->o.data=.set es ep t->(h.update a (Obj.putSet es' t')).get? a=some {o with data:=.set es' (ep+1) t'}:=by
  intro h o es ep t es' t' ho hd
  have:=Heap.get?_update_self (Obj.putSet es' t') ho (by rw[putSet_of es' t' hd];rfl)
  rw[putSet_of es' t' hd] at this
  exact this
 refine wpAny_bind (wpAny_storeSet_of ho hd ?_ (fits_of_scanBound hb))
 have g1:=up es1 t1 ho hd
 have Jq:=Heap.SameBut.update s.heap a (Obj.putSet es1 t1)
 split
 ·have p2:=relayAll_perm t1 es1 (SetTable.grown es1.size)
  have f2:=relayAll_fits t1 es1 (SetTable.grown es1.size)
  have b2:=pJ ht es1 (SetTable.grown es1.size)
  generalize relayAll t1 es1 (SetTable.grown es1.size)=r at p2 f2 b2 ⊢
  have sz:r.1.size=es1.size:=by rw[<-Array.length_toList,p2.length_eq,Array.length_toList]
  refine wpAny_bind (hg _ _ _ ?_)
  refine wpAny_bind (wpAny_storeSet_of g1 rfl ?_ (fits_of_scanBound (by rw[sz];exact hb)))
  exact wpAny_pure (h _ _ (Jq.trans (Heap.SameBut.update _ a _)) (up _ _ g1 rfl) ⟨hx,_,_,_,rfl,he.perm p2,(p2.map _).trans hk,by rw[sz];exact hb,f2,b2⟩)
 ·exact wpAny_pure (h _ _ Jq g1 ⟨hx,_,_,_,rfl,he,hk,hb,hf,ht⟩)
def tZ{a:Addr}{o:Obj}{b:Bool}{ks:List Int}{k:Int}{tk:Tok}{Q:Bool->Shared->Prop}(ho:s.heap.get? a=some o)(hS:gZ prog w b o ks)(hr:ks.length+1<scanBound)
 (h:∀(c:Bool) h' o',Heap.SameBut a s.heap h'->h'.get? a=some o'->gZ prog w b o' (step_dedup ks k)->Q c {s with heap:=h'}) :
 wpAny (model prog w) A (setAddHashed a (.int k tk) ((intKind prog w).hash k)) Q E s:=by
 obtain⟨hx,es,ep,t,hd,he,hk,hb,hf,ht⟩:=hS
 have hsc:(Value.int k tk).scannable=true:=rfl
 have hkey:(intKind prog w).is k (.int k tk)=true:=intKind_is _ _ _ _
 have hn:es.size=ks.length:=by have:=hk.length_eq;simpa using this
 unfold setAddHashed setAddHashedIn
 refine wpAny_holding (wpAny_bind (wpAny_setState_of ho hd hf ?_))
 dsimp only
 rw[byScan_of hsc hb he]
 simp only[↓reduceIte]
 unfold setAddByScan
 refine wpAny_bind ?_
 refine wpAny_bind (wpAny_rule ?_)
 refine wpAny_bind (wpAny_setScan_of hkey ho hd hf he ?_)
 have fk:=find_key he k
 have fa:(es.toList.map λe=>keyV e.2).any (·== k)=ks.any (·== k):=by
  rw[Bool.eq_iff_iff,List.any_eq_true,List.any_eq_true]
  exact⟨λ⟨x,h1,h2⟩=>⟨x,hk.mem_iff.mp h1,h2⟩,λ⟨x,h1,h2⟩=>⟨x,hk.mem_iff.mpr h1,h2⟩⟩
 rw[fa] at fk
 cases hq:List.findIdx? (λe=>(intKind prog w).is k e.2) es.toList with
 |some j=>
  rw[hq] at fk
  dsimp only
  refine wpAny_pure (wpAny_pure ?_)
  have e1:step_dedup ks k=ks:=by unfold step_dedup;rw[<-fk];rfl
  have:=h false s.heap o (Heap.SameBut.refl a s.heap) ho (by rw[e1];exact⟨hx,es,ep,t,hd,he,hk,hb,hf,ht⟩)
  cases s
  exact this
 |none=>
  rw[hq] at fk
  dsimp only
  have e1:step_dedup ks k=ks ++ [k]:=by unfold step_dedup;rw[<-fk];rfl
  rw[e1] at h
  have hgw:∀(c:Bool) {s1:Shared} {Q':Unit->Shared->Prop},Q' () s1->wpAny (model prog w) A (match c with|true=>rule "set.scan.the-table-gave-way" |false=>pure ()) Q' E s1:=
   λc s1 Q' z=>by cases c<;>first|exact wpAny_pure z|exact wpAny_rule z
  have hp:=layNew_perm t es ((intKind prog w).hash k) (.int k tk)
  have hfi:=layNew_fits t es ((intKind prog w).hash k) (.int k tk)
  have htb:=yg ht es ((intKind prog w).hash k) (.int k tk)
  generalize layNew t es ((intKind prog w).hash k) (.int k tk)=L at hp hfi htb ⊢
  obtain⟨es1,t1,wd,gave⟩:=L
  dsimp only at hp hfi htb ⊢
  rw[Array.toList_push] at hp
  have Jr:ElemsOf (intKind prog w) es1.toList:=(he.push hkey hsc).perm hp
  have hk1:(es1.toList.map λe=>keyV e.2).Perm (ks ++ [k]):=by
   refine(hp.map _).trans ?_
   rw[List.map_append]
   exact hk.append_right _
  have hz1:es1.size=es.size+1:=by rw[<-Array.length_toList,hp.length_eq];simp
  have hb1:es1.size<scanBound:=by rw[hz1,hn];exact hr
  refine wpAny_bind (hgw _ ?_)
  split
  ·refine wpAny_bind ?_
   rw[hashByValue_scannable 8 hsc]
   refine wpAny_pure ?_
   refine jV ?_ ho hx hd Jr hk1 hb1 (t1:=t1) hfi htb ?_
   ·intro c s1 Q' z;cases c<;>first|exact wpAny_pure z|exact wpAny_rule z
   ·intro h' o' sb g1 S1;exact wpAny_pure (h _ h' o' sb g1 S1)
  ·refine wpAny_bind (wpAny_pure ?_)
   simp only[↓reduceIte]
   refine jV ?_ ho hx hd Jr hk1 hb1 hfi htb ?_
   ·intro c s1 Q' z;cases c<;>first|exact wpAny_pure z|exact wpAny_rule z
   ·intro h' o' sb g1 S1;exact wpAny_pure (h _ h' o' sb g1 S1)
end
end P
namespace P
open PySem PySem.Spec PyProof.Rows L2 M2 M3 M4
def Œ:PySem.Slot "set_iterator" "__next__" "set_iterator.__next__" :=
 .of (owner:= "set_iterator") (n:= "__next__") (by rw[typeLookup_type,builtinLookup_eq_fast];kernel_rfl) (by decide +kernel) (by decide +kernel) (by decide +kernel) (.inl (by decide +kernel)) (by rw[isSubtype_type];kernel_rfl)
def jW:PySem.Slot "set_iterator" "__iter__" "set_iterator.__iter__" :=
 .of (owner:= "set_iterator") (n:= "__iter__") (by rw[typeLookup_type,builtinLookup_eq_fast];kernel_rfl) (by decide +kernel) (by decide +kernel) (by decide +kernel) (.inl (by decide +kernel)) (by rw[isSubtype_type];kernel_rfl)
def jX:entryFor table "set_iterator.__next__" =some Builtin.«set_iterator.__next__» := entryFor_of_tree (by kernel_rfl)
def t_:entryFor table "set_iterator.__iter__" =some Builtin.«dict_keyiterator.__iter__» := entryFor_alias (id':= "dict_keyiterator.__iter__") (by kernel_rfl) rfl (by decide +kernel) (by kernel_rfl)
def pK:entryFor table "set.__iter__" =some Builtin.«frozenset.__iter__» := entryFor_alias (id':= "frozenset.__iter__") (by kernel_rfl) rfl (by decide +kernel) (by kernel_rfl)
def pL:Manifest.owners.lookup (String.ofList ['r','o','t','a','r','e','t','i','_','t','e','s'].reverse)=some Manifest.sig_set_iterator:=by kernel_rfl
def jY(a:Value):argsOk "set_iterator.__next__" ⟨[a],[]⟩:=by
 unfold argsOk;rw[signature?_of (id:= "set_iterator.__next__") (n:=['_','_','t','x','e','n','_','_']) (o:=['r','o','t','a','r','e','t','i','_','t','e','s']) (by kernel_rfl) pL];kernel_rfl
def uc(a:Value):argsOk "set_iterator.__iter__" ⟨[a],[]⟩:=by
 unfold argsOk;rw[signature?_of (id:= "set_iterator.__iter__") (n:=['_','_','r','e','t','i','_','_']) (o:=['r','o','t','a','r','e','t','i','_','t','e','s']) (by kernel_rfl) pL];kernel_rfl
def pN(a:Value):argsOk "set.__iter__" ⟨[a],[]⟩:=by
 unfold argsOk;rw[signature?_of (id:= "set.__iter__") (n:=['_','_','r','e','t','i','_','_']) (o:=['t','e','s']) (by kernel_rfl) PySem.F.owner_set];kernel_rfl
def jZ(h:Heap)(it a:Addr)(f:Value)(i n ep:Nat):Prop:=∃o,h.get? it=some o/\o.cls=.type "set_iterator" /\o.data=.fields #[f,rawInt i,.ref a,rawInt n,rawInt ep]
def jZ.typeIs{s:Shared}{it a:Addr}{f:Value}{i n ep:Nat}(x:jZ s.heap it a f i n ep):s.TypeIs (.ref it) "set_iterator" := let ⟨o,ho,hc,_⟩:=x;⟨o,ho,hc⟩
def jZ.at{h h':Heap}{it a:Addr}{f:Value}{i n ep:Nat}(x:jZ h it a f i n ep)(e:∀o,h.get? it=some o->h'.get? it=some o):jZ h' it a f i n ep:=let ⟨o,ho,r⟩:=x;⟨o,e _ ho,r⟩
def pO(h:Heap)(a:Addr)(es:Array (Int×Value))(ep:Nat)(t:SetTable):Prop:=∃o,h.get? a=some o/\o.ExactSet/\o.data=.set es ep t
def pO.at{h h':Heap}{a:Addr}{es:Array (Int×Value)}{ep:Nat}{t:SetTable}(x:pO h a es ep t)(e:∀o,h.get? a=some o->h'.get? a=some o):pO h' a es ep t:=let ⟨o,ho,r⟩:=x;⟨o,e _ ho,r⟩
section
variable{prog:Program}{w:World}{A:Around}{E:Value->Shared->Prop}{s:Shared}{it a:Addr}{es:Array (Int×Value)}{ep:Nat}{t:SetTable}
def ud{f:Value}{i n:Nat}{Q:Value->Shared->Prop}(hi:jZ s.heap it a f i n ep)(h:Q (.ref it) s):wpAny (model prog w) A (pyIter (.ref it)) Q E s:=by
 refine wpAny_pyIter_slot hi.typeIs jW (wpAny_call_entry jW hi.typeIs t_ ?_ (uc _))
 show wpAny _ _ (ret (.ref it)) _ _ s
 exact wpAny_pure ⟨_,rfl,"set_iterator",_,hi.typeIs,Œ.lookup,h⟩
def j_{hp:Heap}{Q:Option Value->Shared->Prop}{g d:Nat}(hh:A.handled=none)(hx:Heap.ExtBut it s.heap hp)(hQ:∀h',Heap.ExtBut it s.heap h'->Q none {s with heap:=h'}) :
 wpAny (model prog w) A.in1 (newExc (.type "StopIteration") [] >>= λe=>raiseNew (α:= Final) e) (λ_ _=>False) (λe s'=>wpAny (model prog w) A (do if <-isInstance e (.type "StopIteration") then pure none else throw e) Q E s') {s with heap:=hp}:=by
 refine wpAny_bind ?_
 simp only[newExc,newTuple]
 refine wpAny_bind (wpAny_newObj_type ?_ (by size_fits))
 refine wpAny_bind (m:=firstArgMember _ _) (wpAny_of_eq (a:=Value.none) (by first|rfl|(simp only[firstArgMember];rfl)) ?_)
 refine wpAny_newObj_type ?_ (by size_fits)
 simp only[raiseNew]
 refine wpAny_bind (wpAny_handled ?_)
 rw[show A.in1.handled=none from hh]
 refine wpAny_bind (wpAny_pure (wpAny_throw ?_))
 refine wpAny_bind (wpAny_isInstance (T:= "StopIteration") (b:=true) ⟨_,Heap.get?_push_size _ rfl,rfl⟩ isSubtype_stop ?_)
 exact wpAny_pure (hQ _ ((hx.push _).push _))
end
end P
namespace P
open PySem PySem.Spec PyProof.Rows L2 M2 M3 M4
section
variable{prog:Program}{w:World}{A:Around}{E:Value->Shared->Prop}{s:Shared}{it a:Addr}{es:Array (Int×Value)}{ep:Nat}{t:SetTable}
def h_{sl i:Nat}{r:Option (Value×Nat)}{Q:Option Value->Shared->Prop}(hh:A.handled=none)(hi:jZ s.heap it a (rawInt sl) i es.size ep)(hs:pO s.heap a es ep t)(hf:t.fits es.size=true)
 (hn:∀(Q:Option (Value×Nat)->Shared->Prop) (E:Value->Shared->Prop),Q r s->wpAny (model prog w) A.in1 (setNext a sl i ep) Q E s)
 (h1:∀x nx h',r=some (x,nx)->jZ h' it a (rawInt nx) (i+1) es.size ep->Heap.ExtBut it s.heap h'->Q (some x) {s with heap:=h'})
 (h2:∀h',r=none->Heap.ExtBut it s.heap h'->Q none {s with heap:=h'}):wpAny (model prog w) A (pyNext (.ref it)) Q E s:=by
 obtain⟨o,ho,hc,hd⟩:=id hi
 obtain⟨oa,hoa,hx,hda⟩:=hs
 unfold pyNext
 refine wpAny_bind (wpAny_attempt (wpAny_callSpecial?_slot (name:=Str.ofString "__next__") hi.typeIs Œ (wpAny_call_entry Œ hi.typeIs jX ?_ (jY _))))
 unfold Builtin.«set_iterator.__next__»
 refine wpAny_bind (m:=slotArgs _ _ _) (wpAny_pure ?_)
 refine wpAny_bind (wpAny_fieldsOf ho hd ?_)
 show wpAny _ _ (setEntries a >>= _) _ _ s
 refine wpAny_bind (wpAny_setEntries_of hoa hda hf ?_)
 rw[if_neg (by simp)]
 show wpAny _ _ (setNext a sl i ep >>= _) _ _ s
 refine wpAny_bind (hn _ _ ?_)
 cases r with
 |none=>
  dsimp only
  refine wpAny_bind (wpAny_setField ho hd (by simp) ?_)
  exact wpAny_mono (j_ (g:=0) (d:=0) hh (Heap.SameBut.update ..).extBut λh' hb=>h2 h' rfl hb) (λ_ _ z=>z.elim) λ_ _ z=>z
 |some q=>
  obtain⟨x,nx⟩:=q
  dsimp only
  have k1:∀(f:Obj->Obj) (u:Obj),s.heap.get? it=some u->(f u).isFreed=false->(s.heap.update it f).get? it=some (f u):=λf u e1 e2=>Heap.get?_update_self _ e1 e2
  refine wpAny_bind (wpAny_setField ho hd (by simp) ?_)
  have g1:=Heap.get?_update_self (Obj.mapFields (·.setIfInBounds 0 (rawInt nx))) ho (Obj.isFreed_of_fields (Obj.data_mapFields hd _))
  have d1:=Obj.data_mapFields hd (·.setIfInBounds 0 (rawInt nx))
  refine wpAny_bind (wpAny_setField (s:={s with heap:=_}) g1 d1 (by simp) ?_)
  have g2:=Heap.get?_update_self (Obj.mapFields (·.setIfInBounds 1 (rawInt ((i:Int)+1)))) g1 (Obj.isFreed_of_fields (Obj.data_mapFields d1 _))
  have d2:=Obj.data_mapFields d1 (·.setIfInBounds 1 (rawInt ((i:Int)+1)))
  show wpAny _ _ (ret x) _ _ _
  refine wpAny_pure ⟨_,rfl,wpAny_pure (h1 x nx _ rfl ⟨_,g2,((Obj.cls_mapFields ..).trans (Obj.cls_mapFields ..)).trans hc,by rw[d2];simp[rawInt]⟩ ?_)⟩
  exact((Heap.SameBut.update _ it _).trans (Heap.SameBut.update _ it _)).extBut
def pP{tp:Addr}{i:Nat}{ys:List Nat}{Q:Option Value->Shared->Prop}(hh:A.handled=none)(hi:jZ s.heap it a (.ref tp) i es.size ep)(hs:pO s.heap a es ep t)(hf:t.fits es.size=true)
 (ht:s.heap.IsTuple tp (ys.map λ(y:Nat)=>rawInt y).toArray)(hl:∀y∈ys,y<es.size)
 (h1:∀y x h',ys[i]?=some y->es[y]?=some x->jZ h' it a (.ref tp) (i+1) es.size ep->Heap.ExtBut it s.heap h'->Q (some x.2) {s with heap:=h'})
 (h2:∀h',ys[i]?=none->Heap.ExtBut it s.heap h'->Q none {s with heap:=h'}):wpAny (model prog w) A (pyNext (.ref it)) Q E s:=by
 obtain⟨o,ho,hc,hd⟩:=id hi
 obtain⟨oa,hoa,hx,hda⟩:=hs
 unfold pyNext
 refine wpAny_bind (wpAny_attempt (wpAny_callSpecial?_slot (name:=Str.ofString "__next__") hi.typeIs Œ (wpAny_call_entry Œ hi.typeIs jX ?_ (jY _))))
 unfold Builtin.«set_iterator.__next__»
 refine wpAny_bind (m:=slotArgs _ _ _) (wpAny_pure ?_)
 refine wpAny_bind (wpAny_fieldsOf ho hd ?_)
 show wpAny _ _ (setEntries a >>= _) _ _ s
 refine wpAny_bind (wpAny_setEntries_of hoa hda hf ?_)
 rw[if_neg (by simp)]
 show wpAny _ _ (seqItems? (.ref tp) >>= _) _ _ s
 obtain⟨ot,hot,hct,nt,hdt⟩:=id ht
 refine wpAny_bind (wpAny_seqItems hot hdt ?_)
 dsimp only
 have e0:(ys.map λ(y:Nat)=>rawInt y).toArray[((i:Nat):Int).toNat]?=ys[i]?.map λ(y:Nat)=>rawInt y:=by simp
 rw[e0]
 cases hy:ys[i]? with
 |none=>
  dsimp only[Option.map]
  refine wpAny_bind (wpAny_setField ho hd (by simp) ?_)
  have g1:=Heap.get?_update_self (Obj.mapFields (·.setIfInBounds 0 (rawInt 0))) ho (Obj.isFreed_of_fields (Obj.data_mapFields hd _))
  have d1:=Obj.data_mapFields hd (·.setIfInBounds 0 (rawInt 0))
  have e1:Heap.ExtBut it s.heap (s.heap.update it (Obj.mapFields (·.setIfInBounds 0 (rawInt 0)))):=(Heap.SameBut.update _ it _).extBut
  generalize s.heap.update it (Obj.mapFields (·.setIfInBounds 0 (rawInt 0)))=hp at g1 e1 ⊢
  refine wpAny_bind (wpAny_setField (s:={s with heap:=hp}) g1 d1 (by simp) ?_)
  have e2:Heap.ExtBut it s.heap (hp.update it (Obj.mapFields (·.setIfInBounds 2 Value.none))):=e1.trans (Heap.SameBut.update _ it _).extBut
  generalize hp.update it (Obj.mapFields (·.setIfInBounds 2 Value.none))=hp2 at e2 ⊢
  exact wpAny_mono (j_ (s:=s) (g:=0) (d:=0) hh e2 λh' hb=>h2 h' hy hb) (λ_ _ z=>z.elim) λ_ _ z=>z
 |some y=>
  dsimp only[Option.map]
  have hyl:y<es.size:=hl y (List.mem_of_getElem? hy)
  have hg:es[y]?=some es[y]:=Array.getElem?_eq_getElem hyl
  show wpAny _ _ (setNextDrawn a y ep >>= _) _ _ s
  unfold setNextDrawn
  refine wpAny_bind (wpAny_bind (wpAny_setState_of hoa hda hf ?_))
  dsimp only
  rw[if_neg (by simp),hg]
  refine wpAny_pure ?_
  refine wpAny_bind (wpAny_setField ho hd (by simp) ?_)
  have g1:=Heap.get?_update_self (Obj.mapFields (·.setIfInBounds 1 (rawInt ((i:Int)+1)))) ho (Obj.isFreed_of_fields (Obj.data_mapFields hd _))
  have d1:=Obj.data_mapFields hd (·.setIfInBounds 1 (rawInt ((i:Int)+1)))
  show wpAny _ _ (ret _) _ _ _
  exact wpAny_pure ⟨_,rfl,wpAny_pure (h1 y _ _ hy hg ⟨_,g1,(Obj.cls_mapFields ..).trans hc,by rw[d1];simp[rawInt]⟩ (Heap.SameBut.update _ it _).extBut)⟩
theorem Ź{α:Type}:∀(l:List α) (i:Nat) (h:i<l.length),(l[i]::l.eraseIdx i).Perm l
 |a::l,0,_=>.refl _
 |a::l,i+1,h=>(List.Perm.swap _ _ _).trans ((Ź l i (by simpa using h)).cons a)
def wp_choose{src:Source}{n:Nat}{Q:Nat->Shared->Prop}(h:n≠0)(hQ:∀i,i<n->Q i {s with drawn:=s.drawn.bump src}):wpAny (model prog w) A (choose src n) Q E s:=
 λ_ _ _=>⟨h,hQ _ (Nat.mod_lt _ (Nat.pos_of_ne_zero h))⟩
theorem kh{α:Type}(nx:Nat->Nat):∀(f k:Nat) (left:List α) (out:Array α),f=left.length->(pickOrder.go nx f k left out).toList.Perm (out.toList++left)
 |0,k,left,out,h=>by
  have:left=[]:=List.length_eq_zero_iff.mp h.symm
  subst this
  unfold pickOrder.go
  simp
 |f+1,k,left,out,h=>by
  unfold pickOrder.go
  have hl:nx k % left.length<left.length:=Nat.mod_lt _ (by omega)
  rw[List.getElem?_eq_getElem hl]
  dsimp only
  refine(kh nx f _ _ _ (by rw[List.length_eraseIdx_of_lt hl];omega)).trans ?_
  rw[Array.toList_push,List.append_assoc]
  refine List.Perm.append_left _ ?_
  exact Ź left _ hl
def lX{α:Type}(nx:Nat->Nat)(xs:Array α):(pickOrder nx xs).toList.Perm xs.toList:=by
 have:=kh nx xs.size 0 xs.toList #[] (by simp)
 simpa[pickOrder] using this
theorem kj{α:Type}:∀(n:Nat) (xs:List α) (s:Shared) (Q:List α->Shared->Prop),n=xs.length->(∀ys d,ys.Perm xs->Q ys {s with drawn:=d})->wpAny (model prog w) A (drawOrder n xs) Q E s
 |0,xs,s,Q,h,hq=>by
  have:xs=[]:=List.length_eq_zero_iff.mp h.symm
  subst this
  exact wpAny_pure (hq [] s.drawn (.refl _))
 |n+1,[],s,Q,h,hq=>by simp at h
 |n+1,x::xs,s,Q,h,hq=>by
  unfold drawOrder
  refine wpAny_bind (wp_choose (by simp) λi hi=>?_)
  rw[List.getElem?_eq_getElem hi]
  dsimp only
  refine wpAny_bind (kj n _ _ _ (by rw[List.length_eraseIdx_of_lt hi];simp at h ⊢;omega) λys d hp=>wpAny_pure ?_)
  exact hq _ d ((hp.cons _).trans (Ź _ i hi))
end
end P
namespace P
open PySem PySem.Spec PyProof.Rows L2 M2 M3 M4
section
variable{prog:Program}{w:World}{A:Around}{E:Value->Shared->Prop}{s:Shared}{it a:Addr}{es:Array (Int×Value)}{ep:Nat}{t:SetTable}
def slotAt(t:SetTable):Nat->Nat
 |0=>0
 |i+1=>t.place.getD i 0+1
def kE(prog:Program)(w:World)(A:Around)(a:Addr)(es:Array (Int×Value))(I:Addr)(h:Heap)(N:Nat):Prop:=
 ∃(ws:List Value) (fp:List Addr) (St:Nat->Heap->Prop),ws.Perm (es.toList.map (·.2))/\Walks prog w A I fp [I] es.size (λi v=>ws[i]?=some v) St/\St 0 h/\∀b∈fp,b=a\/N<=b
def fW{I:Addr}{hp:Heap}{F:Nat->Value}{ws:List Value}{fx:List Addr}{X:Heap->Prop}(hI:I≠a)(hx:∀b∈fx,b≠I)(hl:ws.length=es.size)(hf:∀h h',X h->(∀b∈fx,∀o,h.get? b=some o->h'.get? b=some o)->X h')
 (hw:ws.Perm (es.toList.map (·.2)))(h0:jZ hp I a (F 0) 0 es.size ep/\pO hp a es ep t/\X hp){N:Nat}(hb:N<=I/\∀b∈fx,N<=b)
 (step:∀i (s:Shared) (Q:Option Value→Shared→Prop) (E:Value→Shared→Prop),i≤es.size→jZ s.heap I a (F i) i es.size ep→pO s.heap a es ep t→X s.heap→
   (∀v h',ws[i]?=some v->jZ h' I a (F (i+1)) (i+1) es.size ep->Heap.ExtBut I s.heap h'->Q (some v) {s with heap:=h'})->(∀h',ws[i]?=none->Heap.ExtBut I s.heap h'->Q none {s with heap:=h'})->wpAny (model prog w) A (pyNext (.ref I)) Q E s) :
 kE prog w A a es I hp N:=by
 refine⟨ws,I::a::fx,λi h=>jZ h I a (F i) i es.size ep/\pO h a es ep t/\X h,hw,⟨?_,?_,?_,?_,?_⟩,h0,?_⟩
 ·intro b hb'
  rw[List.mem_singleton] at hb'
  subst hb'
  exact .head _
 ·intro i h h' st hk
  exact⟨st.1.at λo e=>hk I (.head _) o e,st.2.1.at λo e=>hk a (.tail _ (.head _)) o e,hf h h' st.2.2 λb hb' o e=>hk b (.tail _ (.tail _ hb')) o e⟩
 ·intro i s Q E hi st hQ
  refine step i s Q E (Nat.le_of_lt hi) st.1 st.2.1 st.2.2 (λv h' hv hs he=>?_) (λh' hv he=>?_)
  ·exact hQ v h' s.toks hv ⟨hs,st.2.1.at λo e=>he a o hI.symm e,hf _ _ st.2.2 λb hb' o e=>he b o (hx b hb') e⟩ λb o hb' e=>he b o (λz=>hb' (by simp[z])) e
  ·rw[List.getElem?_eq_none_iff] at hv
   omega
 ·intro s Q E st hQ
  refine step _ s Q E (Nat.le_refl _) st.1 st.2.1 st.2.2 (λv h' hv hs he=>?_) (λh' hv he=>?_)
  ·rw[List.getElem?_eq_none (by omega)] at hv;cases hv
  ·exact hQ h' s.toks λb o hb' e=>he b o (λz=>hb' (by simp[z])) e
 ·exact λi s Q E st hQ=>ud st.1 hQ
 ·intro b hb'
  rcases List.mem_cons.mp hb' with rfl|hb'
  ·exact .inr hb.1
  ·rcases List.mem_cons.mp hb' with rfl|hb'
   ·exact .inl rfl
   ·exact .inr (hb.2 b hb')
def pQ{Q:Value->Shared->Prop}(hh:A.handled=none)(hs:pO s.heap a es ep t)(hf:t.fits es.size=true)(ht:Tb (!w.params.followText "set-order") t)(hz:es.size<=sizeLine)
 (h:∀I h' d,(∀b o,s.heap.get? b=some o->h'.get? b=some o)->s.heap.objs.size<=I->kE prog w A a es I h' s.heap.objs.size->Q (.ref I) {s with heap:=h',drawn:=d}) :
 wpAny (model prog w) A (pyIter (.ref a)) Q E s:=by
 obtain⟨o,ho,hx,hd⟩:=id hs
 have hT:s.TypeIs (.ref a) "set" := ⟨o,ho,hx.1⟩
 have hps:t.place.size=es.size:=by
  simp only[SetTable.fits,Bool.and_eq_true,beq_iff_eq] at hf
  exact hf.1
 have ha:a<s.heap.objs.size:=Heap.lt_size ho
 refine wpAny_pyIter_slot hT PySem.F.slot_set_iter (wpAny_call_entry PySem.F.slot_set_iter hT pK ?_ (pN _))
 unfold Builtin.«frozenset.__iter__»
 refine wpAny_bind (m:=Builtin.Frozenset.slot0 _ _) (wpAny_pure ?_)
 refine wpAny_bind (m:=Builtin.Frozenset.sizeOf a) (wpAny_bind (wpAny_setEntries_of ho hd hf (wpAny_pure ?_)))
 refine wpAny_bind (m:=setDrawn a) ?_
 unfold setDrawn
 refine wpAny_bind (wpAny_setState_of ho hd hf ?_)
 dsimp only
 unfold setsByText
 refine wpAny_bind (wpAny_bind (wpAny_askSetting (wpAny_pure ?_)))
 refine wpAny_pure ?_
 refine wpAny_ite_split (λhc=>?_) (λhc=>?_)
 ·have hc':(!w.params.followText "set-order" && (!t.plain && decide (es.size>1)))=true:=hc
  refine wpAny_bind (kj es.size (List.range es.size) _ _ (by simp) λys d hp=>?_)
  have hyl:ys.length=es.size:=by rw[hp.length_eq];simp
  refine wpAny_bind (wpAny_newTuple ?_ (by rw[List.length_map,hyl];exact hz))
  refine wpAny_bind (wpAny_setEpoch_of (Heap.get?_push_of_some _ ho) hd hf ?_)
  refine wpAny_bind (wpAny_newObj_type ?_)
  refine wpAny_pure ⟨_,rfl,"set_iterator",_,⟨_,Heap.get?_push_size _ rfl,rfl⟩,Œ.lookup,?_⟩
  refine h _ _ _ (λb o e=>Heap.get?_push_of_some _ (Heap.get?_push_of_some _ e)) (by rw[Heap.size_push];exact Nat.le_succ _) ?_
  have hT1:(s.heap.push {cls:=.type "tuple",data:=.seq (ys.map λ(i:Nat)=>rawInt i).toArray}).IsTuple s.heap.objs.size (ys.map λ(i:Nat)=>rawInt i).toArray:=⟨_,Heap.get?_push_size _ rfl,rfl,_,rfl⟩
  have hy:∀y∈ys,y<es.size:=λy m=>by simpa using hp.mem_iff.mp m
  refine fW (ep:=ep) (t:=t) (F:=λ_=>.ref s.heap.objs.size) (ws:=ys.map λy=>(es.getD y default).2) (fx:=[s.heap.objs.size]) (X:=λh=>h.IsTuple s.heap.objs.size (ys.map λ(i:Nat)=>rawInt i).toArray) ?_ ?_ (by simpa using hyl) ?_ ?_ ⟨⟨_,Heap.get?_push_size _ rfl,rfl,rfl⟩,⟨o,Heap.get?_push_of_some _ (Heap.get?_push_of_some _ ho),hx,hd⟩,hT1.push _⟩ ?_ ?_
  ·rw[Heap.size_push];exact Nat.ne_of_gt (Nat.lt_succ_of_lt ha)
  ·intro b hb;rw[List.mem_singleton] at hb;subst hb;rw[Heap.size_push];exact Nat.ne_of_lt (Nat.lt_succ_self _)
  ·intro h h' x k;exact x.at λo e=>k _ (.head _) o e
  ·have e1:(es.toList.map (·.2))=(List.range es.size).map fun y=>(es.getD y default).2:=by
    refine List.ext_getElem? λi=>?_
    rw[List.getElem?_map,List.getElem?_map,Array.getElem?_toList]
    by_cases hi:i<es.size
    ·simp[hi]
    ·simp[hi]
   rw[e1]
   exact hp.map _
  ·simp only[Heap.size_push]
   refine⟨Nat.le_succ _,λb hb=>?_⟩
   rw[List.mem_singleton] at hb
   subst hb
   exact Nat.le_refl _
  ·intro i s' Q' E' hi k1 k2 k3 q1 q2
   refine pP hh k1 k2 hf k3 hy (λy x h' z1 z2 z3 z4=>?_) (λh' z1 z2=>q2 h' (by rw[List.getElem?_map,z1];rfl) z2)
   refine q1 x.2 h' ?_ z3 z4
   rw[List.getElem?_map,z1,Option.map_some,Array.getD_eq_getD_getElem?,z2]
   rfl
 ·have hc':(!w.params.followText "set-order" && (!t.plain && decide (es.size>1)))=false:=by rw[<-Bool.not_eq_true];exact hc
  refine wpAny_bind (wpAny_pure ?_)
  refine wpAny_bind (wpAny_setEpoch_of ho hd hf ?_)
  refine wpAny_bind (wpAny_newObj_type ?_)
  refine wpAny_pure ⟨_,rfl,"set_iterator",_,⟨_,Heap.get?_push_size _ rfl,rfl⟩,Œ.lookup,?_⟩
  refine h _ _ s.drawn (λb o e=>Heap.get?_push_of_some _ e) (Nat.le_refl _) ?_
  cases hb:w.params.followText "set-order" with
  |true=>
   have hp:=lX (w.params.setOrder a ep) es
   refine fW (ep:=ep) (t:=t) (F:=λ_=>rawInt 0) (ws:=(pickOrder (w.params.setOrder a ep) es).toList.map (·.2)) (fx:=[]) (X:=λ_=>True) (Nat.ne_of_gt ha) (λb hb=>by cases hb) (by simpa using hp.length_eq) (λ_ _ _ _=>trivial) (hp.map _) ⟨⟨_,Heap.get?_push_size _ rfl,rfl,rfl⟩,⟨o,Heap.get?_push_of_some _ ho,hx,hd⟩,trivial⟩ ⟨Nat.le_refl _,λb hb=>by cases hb⟩ ?_
   intro i s' Q' E' hi k1 k2 _ q1 q2
   obtain⟨o',ho',hx',hd'⟩:=id k2
   refine h_ (sl:=0) (r:=((pickOrder (w.params.setOrder a ep) es)[i]?).map λe=>(e.2,0)) hh k1 k2 hf (λQ2 E2 q=>?_) (λx nx h' z1 z2 z3=>?_) (λh' z1 z2=>?_)
   ·unfold setNext
    refine wpAny_bind (wpAny_setState_of ho' hd' hf ?_)
    dsimp only
    unfold setsByText
    refine wpAny_bind (wpAny_bind (wpAny_askSetting (wpAny_pure ?_)))
    refine wpAny_ite_split (λ_=>?_) (λz=>absurd hb z)
    rw[if_neg (by simp)]
    unfold setWalk
    refine wpAny_bind (wpAny_bind (wpAny_setState_of ho' hd' hf ?_))
    dsimp only
    unfold setsByText
    refine wpAny_bind (wpAny_bind (wpAny_askSetting (wpAny_pure ?_)))
    refine wpAny_ite_split (λ_=>?_) (λz=>absurd hb z)
    refine wpAny_bind (wpAny_askSetting (wpAny_pure ?_))
    exact wpAny_pure q
   ·obtain⟨e,e1,e2⟩:=Option.map_eq_some_iff.mp z1
    injection e2 with e2 e3
    subst e2 e3
    exact q1 _ h' (by rw[List.getElem?_map,Array.getElem?_toList,e1];rfl) z2 z3
   ·have:=Option.map_eq_none_iff.mp z1
    exact q2 h' (by rw[List.getElem?_map,Array.getElem?_toList,this];rfl) z2
  |false=>
   rw[hb] at hc'
   refine fW (ep:=ep) (t:=t) (F:=λi=>rawInt (slotAt t i)) (ws:=es.toList.map (·.2)) (fx:=[]) (X:=λ_=>True) (Nat.ne_of_gt ha) (λb hb=>by cases hb) (by simp) (λ_ _ _ _=>trivial) (.refl _) ⟨⟨_,Heap.get?_push_size _ rfl,rfl,rfl⟩,⟨o,Heap.get?_push_of_some _ ho,hx,hd⟩,trivial⟩ ⟨Nat.le_refl _,λb hb=>by cases hb⟩ ?_
   intro i s' Q' E' hi k1 k2 _ q1 q2
   obtain⟨o',ho',hx',hd'⟩:=id k2
   have eb:SetTable.below t.place (slotAt t i)=i:=by
    cases i with
    |zero=>exact ji _
    |succ i=>
     have hl:i<t.place.size:=by omega
     have e1:t.place[i]?=some (t.place.getD i 0):=by simp[hl]
     exact below_at ht.Jo e1
   refine h_ (sl:=slotAt t i) (r:=(es[i]?).map λe=>(e.2,slotAt t (i+1))) hh k1 k2 hf (λQ2 E2 q=>?_) (λx nx h' z1 z2 z3=>?_) (λh' z1 z2=>?_)
   ·unfold setNext
    refine wpAny_bind (wpAny_setState_of ho' hd' hf ?_)
    dsimp only
    unfold setsByText
    refine wpAny_bind (wpAny_bind (wpAny_askSetting (wpAny_pure ?_)))
    refine wpAny_ite_split (λz=>absurd (hb.symm.trans z) Bool.false_ne_true) (λ_=>?_)
    refine wpAny_ite_split (λz=>absurd (show(!t.plain && decide (es.size>1))=true from z) (by simpa using hc')) (λ_=>?_)
    refine wpAny_bind ?_
    show wpAny _ _ (if(!t.led && !es.isEmpty)=true then(unsupported "set:maker-not-led" :Sem Unit) else pure ()) _ _ _
    have Kd:t.led=true:=by rw[ht.led,hb];rfl
    rw[if_neg (by rw[Kd];exact Bool.false_ne_true)]
    refine wpAny_pure (wpAny_pure ?_)
    rw[eb]
    by_cases hl:i<es.size
    ·have e1:es[i]?=some es[i]:=Array.getElem?_eq_getElem hl
     have e2:t.place[i]?=some (t.place.getD i 0):=by simp[hps,hl]
     rw[e1] at q ⊢
     rw[e2]
     exact q
    ·have e1:es[i]?=none:=Array.getElem?_eq_none (by omega)
     rw[e1] at q ⊢
     exact q
   ·obtain⟨e,e1,e2⟩:=Option.map_eq_some_iff.mp z1
    injection e2 with e2 e3
    subst e2 e3
    exact q1 _ h' (by rw[List.getElem?_map,Array.getElem?_toList,e1];rfl) z2 z3
   ·have:=Option.map_eq_none_iff.mp z1
    exact q2 h' (by rw[List.getElem?_map,Array.getElem?_toList,this];rfl) z2
end
end P
namespace P
open PySem PySem.Spec PyProof.Rows L2 M2 M3 M4
section
variable{prog:Program}{w:World}{A:Around}{E:Value->Shared->Prop}{s:Shared}{a:Addr}{es:Array (Int×Value)}{ep:Nat}{t:SetTable}
abbrev ig(w:World):Bool:=!w.params.followText "set-order"
abbrev Ě(b:Bool):Obj:={cls:=.type "set",dict:=none,data:=.set #[] 0 (.fresh 0 0 b)}
def pR(b:Bool):gZ prog w b (Ě b) []:=⟨⟨rfl,rfl,rfl⟩,#[],0,_,rfl,λe he=>by simp at he,.refl _,by decide,by rfl,pI b⟩
def pU(v:Value){Q:Value->Shared->Prop}(h:Q (.ref s.heap.objs.size) {s with heap:=s.heap.push (Ě (ig w))}) :
 codeAny (model prog w) A (.call (.builtin "set.__new__") ⟨[.type "set",v],[]⟩) (wants Q E) s:=by
 refine codeAny_of_tree ?_
 show wpAny _ A.in1 (checkBuiltinCall "set.__new__" ⟨[.type "set",v],[]⟩ >>= λ_=>again (.builtin "set.__new__" ⟨[.type "set",v],[]⟩)) _ _ s
 refine wpAny_bind (wpAny_of_eq (PySem.F.newCall_set_1 v) (wpAny_pure ⟨plainId_quiet PySem.F.plain_set_new _,codeAny_builtin PySem.F.entry_set_new ?_⟩))
 rw[Around.under_plainId PySem.F.plain_set_new _]
 unfold Builtin.«set.__new__» Builtin.Frozenset.newClass
 have hsub:=sub_set_self
 obtain⟨hp,g,d,tk,os⟩:=s
 dsimp only
 wp_walk
 refine wpAny_askSetting (wpAny_pure ?_)
 dsimp only
 simp only[newObj]
 exact wpAny_bind (wpAny_alloc (wpAny_pure (wpAny_pure h)))
theorem iu{R:Result->Shared->Prop}{I S:Addr}{fp wr:List Addr}{n:Nat}{P:Nat->Value->Prop}{St:Nat->Heap->Prop}{b:Bool}(W:Walks prog w A.in1 I fp wr n P St)(hS:S∉fp)(ns:List Int)(hn:ns.length=n)(hv:∀(i:Nat) v,P i v->∃t,v=.int (ns.getD i 0) t)(hb:n+1<scanBound) :
 ∀(k i:Nat) (s:Shared) (o:Obj),n-i=k->i<=n->St i s.heap->s.heap.get? S=some o->gZ prog w b o ((ns.take i).foldl step_dedup [])->
  (∀h' tk o',(∀c u,c∉wr->c≠S->s.heap.get? c=some u->h'.get? c=some u)->h'.get? S=some o'->gZ prog w b o' (ns.foldl step_dedup [])->R (.ok (.ret .none)) {s with heap:=h',toks:=tk})->
  codeAny (model prog w) A (.builtin "set.update.loop" ⟨[.ref S,.ref I],[]⟩) R s
 |0,i,s,o,hk,hi,st,ho,hI,hR=>by
  have e:i=n:=by omega
  subst e
  refine codeAny_builtin PyProof.Rows.F.entry_set_update_loop ?_
  rw[Around.under_plainId PyProof.Rows.F.plain_set_update_loop _]
  show wpAny _ A.in1 (pyNext (.ref I) >>= _) _ _ s
  refine wpAny_bind (W.done s _ _ st λh' tk hm=>?_)
  show wpAny _ A.in1 (ret Value.none) _ _ _
  refine wpAny_pure (hR h' tk o (λc u hc _ e=>hm c u hc e) (hm S o (λz=>hS (W.sub _ z)) ho) ?_)
  rw[<-hn,List.take_length] at hI
  exact hI
 |k+1,i,s,o,hk,hi,st,ho,hI,hR=>by
  have hlt:i<n:=by omega
  refine codeAny_builtin PyProof.Rows.F.entry_set_update_loop ?_
  rw[Around.under_plainId PyProof.Rows.F.plain_set_update_loop _]
  show wpAny _ A.in1 (pyNext (.ref I) >>= _) _ _ s
  refine wpAny_bind (W.item i s _ _ hlt st λv h1 tk1 hP st1 hm=>?_)
  obtain⟨tv,rfl⟩:=hv i v hP
  have ho1:h1.get? S=some o:=hm S o (λz=>hS (W.sub _ z)) ho
  show wpAny _ A.in1 (holding [Value.int (ns.getD i 0) tv] (setAdd S (.int (ns.getD i 0) tv)) >>= _) _ _ _
  refine wpAny_bind (wpAny_holding ?_)
  unfold setAdd
  refine wpAny_holding ?_
  refine wpAny_bind ((intKind prog w).pyHash (k:=ns.getD i 0) (intKind_is _ _ _ _) ?_)
  have Ke:((ns.take i).foldl step_dedup ([]:List Int)).length+1<scanBound:=by
   have:=foldl_step_dedup_nil_length_le (ns.take i)
   have:=List.length_take_le i ns
   omega
  refine tZ (s:={s with heap:=h1,toks:=tk1+1}) ho1 hI Ke λc h2 o2 sb g2 I2=>?_
  have et:(ns.take (i+1)).foldl step_dedup []=step_dedup ((ns.take i).foldl step_dedup []) (ns.getD i 0):=by
   have hl:i<ns.length:=by omega
   rw[List.take_add_one,List.foldl_append,List.getElem?_eq_getElem hl]
   simp[List.getD,hl]
  rw[<-et] at I2
  refine wpAny_pure ⟨plainId_quiet PyProof.Rows.F.plain_set_update_loop _,iu W hS ns hn hv hb k (i+1) _ o2 (by omega) hlt (W.frame _ _ _ st1 λc hc u e=>?_) g2 I2 λh' tk o' hk' hg hI'=>hR h' tk o' (λc u c1 c2 e=>hk' c u c1 c2 ?_) hg hI'⟩
  ·exact(sb.2 c (λz=>hS (z▸hc))).trans e
  ·exact(sb.2 c c2).trans (hm c u c1 e)
def lY{l:Addr}{items:Array Value}{ns:List Int}{Q:Value->Shared->Prop}(hh:A.handled=none)(hl:s.heap.IsList l items)(hi:IntsAre items.toList ns)(hb:items.size+1<scanBound)
 (h:∀(h':Heap) (tk:Nat) (o:Obj),h'.get? s.heap.objs.size=some o->gZ prog w (ig w) o (ns.foldl step_dedup [])->(∀c u,s.heap.get? c=some u->h'.get? c=some u)->Q (.ref s.heap.objs.size) {s with heap:=h',toks:=tk}) :
 wpAny (model prog w) A (call (.type "set") [.ref l]) Q E s:=by
 obtain⟨c,tl,hmro⟩:=PySem.F.called_set.mro
 have hmade:=PySem.F.called_set.made
 have hsub:=PySem.F.called_set.sub
 refine wpAny_call (codeAny_of_tree ?_)
 show wpAny _ _ (callAny (.type "set") _) _ _ _
 refine wpAny_pure ⟨Code.quiet_builtin _ (by decide +kernel),codeAny_builtin PySem.F.entry_type_call ?_⟩
 rw[Around.under_plain (weight_type_call_type "set" [.ref l] []) rfl]
 have h1:=PySem.F.called_set.notType
 have h2:=PySem.F.called_set.canCreate
 have hct:=PySem.F.typeCall_set_1 (.ref l)
 repeat (any_goals (first|assumption|wp_step))
 refine codeAny_mono (pU (.ref l) (E:=E) (Q:=λobj s1=>obj=.ref s.heap.objs.size/\s1= {s with heap:=s.heap.push (Ě (ig w))}) ⟨rfl,rfl⟩) λr s1 hr=>?_
 cases r with
 |error e=>exact hr
 |ok fl=>
  cases fl with
  |ret obj=>
   obtain⟨rfl,rfl⟩:=hr
   have hS:(s.heap.push (Ě (ig w))).get? s.heap.objs.size=some (Ě (ig w)):=Heap.get?_push_size _ rfl
   have hT:Shared.TypeIs {s with heap:=s.heap.push (Ě (ig w))} (.ref s.heap.objs.size) "set" := ⟨_,hS,rfl⟩
   have hli:=PySem.F.called_set.init.lookup
   have hbi:=PySem.F.called_set.init.bind (.ref s.heap.objs.size)
   repeat (any_goals (first|assumption|wp_step))
   refine codeAny_mono (codeAny_call_builtin (R:=wants (λr s2=>r=.none/\∃h' tk o,s2= {s with heap:=h',toks:=tk}/\h'.get? s.heap.objs.size=some o/\gZ prog w (ig w) o (ns.foldl step_dedup [])/\(∀c u,s.heap.get? c=some u->h'.get? c=some u)) E) PySem.F.called_set.init.plain PySem.F.entry_set_init (check_set_init_1 hT ?_)) λr2 s2 hr2=>?_
   ·obtain⟨ol,hol,hcl,nl,hdl⟩:=hl
    obtain⟨ocls,odict,odata,oslots⟩:=ol
    simp only at hcl hdl
    subst hcl;subst hdl
    have hol':(s.heap.push (Ě (ig w))).get? l=some {cls:=.type "list",dict:=odict,data:=.seq items nl,slots:=oslots}:=Heap.get?_push_of_some _ hol
    have hsls:=PySem.F.sub_list_set
    have hslf:=PySem.F.sub_list_frozenset
    have hne:(Value.type "list" == Value.type "dict")=false:=by decide
    have hl1:(s.heap.push (Ě (ig w))).IsList l items:=⟨_,hol',rfl,nl,rfl⟩
    unfold Builtin.«set.__init__» noKeywords Builtin.Frozenset.updateFrom
    generalize hPI:pyIter=PI
    wp_walk
    subst hPI
    refine wpAny_pyIter_list hl1 ?_
    refine wpAny_bind (wpAny_runValue ?_)
    have hlS:l<s.heap.objs.size:=Heap.lt_size hol
    have hh3:A.in1.in1.in1.handled=none:=by simp[hh]
    have hneI:l≠(s.heap.push (Ě (ig w))).objs.size:=by
     rw[Heap.size_push];exact Nat.ne_of_lt (Nat.lt_succ_of_lt hlS)
    have hSf:s.heap.objs.size∉[(s.heap.push (Ě (ig w))).objs.size,l]:=by
     rw[Heap.size_push];simp only[List.mem_cons,List.not_mem_nil,or_false,not_or]
     exact⟨Nat.ne_of_lt (Nat.lt_succ_self _),Nat.ne_of_gt hlS⟩
    have hnl:ns.length=items.size:=by rw[<-IntsAre.length hi,Array.length_toList]
    have hget:((s.heap.push (Ě (ig w))).push {cls:=.type "list_iterator",data:=.fields #[.ref l,.int 0 0]}).get? s.heap.objs.size=some (Ě (ig w)):=Heap.get?_push_of_some _ hS
    refine iu (b:=ig w) (Walks.list hh3 _ l hneI items) hSf ns hnl (λi v hv=>PyProof.Rows.IntsAre.int_at hi i v (by rw[Array.getElem?_toList];exact hv)) hb (items.size-0) 0 _ (Ě (ig w)) (by omega) (Nat.zero_le _) ⟨⟨_,Heap.get?_push_size _ rfl,rfl,rfl⟩,(hl1.push _)⟩ hget (pR _) λh' tk o' k1 k2 k3=>?_
    show wpAny _ _ _ _ _ _
    refine wpAny_pure ?_
    show wpAny _ _ (ret Value.none) _ _ _
    refine wpAny_pure ⟨rfl,h',tk,o',rfl,k2,k3,λc u e=>?_⟩
    have hc:=Heap.lt_size e
    refine k1 c u ?_ (Nat.ne_of_lt hc) (Heap.get?_push_of_some _ (Heap.get?_push_of_some _ e))
    simp only[List.mem_singleton]
    rw[Heap.size_push]
    exact Nat.ne_of_lt (Nat.lt_succ_of_lt hc)
   ·cases r2 with
    |error e=>exact hr2
    |ok Kf=>
     cases Kf with
     |ret r=>
      obtain⟨rfl,h',tk,o',rfl,hg,hI,hk'⟩:=hr2
      repeat (any_goals (first|assumption|wp_step))
      exact h _ _ _ hg hI hk'
     |_=>exact hr2.elim
  |_=>exact hr.elim
def pW{r:Addr}{Q:Bool->Shared->Prop}(hT:s.TypeIs (.ref r) "set")(h:Q false s):wpAny (model prog w) A (Builtin.List.listLengthHint (.ref r)) Q E s:=by
 unfold Builtin.List.listLengthHint
 refine wpAny_bind (wpAny_specialOf hT PySem.F.slot_set_len.lookup ?_)
 generalize hid:("set.__len__" :String)=id0
 wp_delta
 rw[show splitId id0=some ("set","__len__") from by subst hid;decide +kernel]
 subst hid
 refine wpAny_bind (wpAny_isInstance (T:= "set") (b:=true) hT (by rw[isSubtype_type];kernel_rfl) ?_)
 refine wpAny_ite_split (λz=>absurd z (by decide)) (λ_=>?_)
 refine wpAny_ite_split (λ_=>?_) (λz=>absurd (by decide +kernel) z)
 exact wpAny_bind (wpAny_typeOf hT (wpAny_pure h))
end
end P
namespace P
open PySem PySem.Spec PyProof.Rows L2 M2 M3 M4
section
variable{prog:Program}{w:World}{A:Around}{E:Value->Shared->Prop}{s:Shared}{a:Addr}{es:Array (Int×Value)}{ep:Nat}{t:SetTable}
def uf{R:Result->Shared->Prop}(hh:A.handled=none)(hs:pO s.heap a es ep t)(hf:t.fits es.size=true)(ht:Tb (ig w) t)(hz:es.size<=sizeLine)(S:Addr)(Js:S≠a)(res:Value)(c0:Nat)(hS:s.heap.get? S=some {cls:=.type "list",data:=.seq #[] c0})
 (hR:∀h' tk d acc c' (ws:List Value),(∀b o,b≠S->s.heap.get? b=some o->h'.get? b=some o)->h'.get? S=some {cls:=.type "list",dict:=none,data:=.seq acc c',slots:=#[]}->acc.toList=ws->ws.Perm (es.toList.map (·.2))->R (.ok (.ret res)) {s with heap:=h',toks:=tk,drawn:=d}) :
 wpAny (model prog w) A.in1 (Builtin.List.listExtendWith (.ref S) (.ref a) res)
  (λfin s'=>match fin with| .done f=>R (.ok f) s'| .again c'=>c'.quiet=true/\codeAny (model prog w) A c' R s') (λe s'=>R (.error e) s') s:=by
 obtain⟨o,ho,hx,hd⟩:=id hs
 have hT:s.TypeIs (.ref a) "set" := ⟨o,ho,hx.1⟩
 unfold Builtin.List.listExtendWith
 refine wpAny_bind (wpAny_typeOf (T:= "set") hT ?_)
 have h1:Builtin.List.listSameRef (.ref S) (.ref a)=false:=by simp[Builtin.List.listSameRef,Js]
 have n1:(Value.type "set" == Value.type "list")=false:=by decide
 have n2:(Value.type "set" == Value.type "tuple")=false:=by decide
 simp only[h1,n1,n2,Bool.or_false,Bool.false_eq_true,if_false]
 refine wpAny_bind (pQ (A:=A.in1) hh hs hf ht hz λI h1 d k1 hI W=>?_)
 obtain⟨ws,fp,St,p1,W,st,hfp⟩:=W
 have hSI:S≠I:=Nat.ne_of_lt (Nat.lt_of_lt_of_le (Heap.lt_size hS) hI)
 have hSf:S∉fp:=λz=>by
  rcases hfp S z with e|e
  ·exact Js e
  ·exact absurd (Heap.lt_size hS) (Nat.not_lt_of_le e)
 have key:∀(h:Heap) (c1 tk:Nat),St 0 h->(∀b o,b≠S->s.heap.get? b=some o->h.get? b=some o)->h.get? S=some {cls:=.type "list",data:=.seq #[] c1}->codeAny (model prog w) A (.builtin "list.extend.loop" ⟨[.ref S,.ref I,res],[]⟩) R {s with heap:=h,toks:=tk,drawn:=d}:=by
  intro h c1 tk hst hk hS1
  refine codeAny_extend_loopS W.toS hz S hSf res es.size 0 _ #[] c1 rfl (Nat.zero_le _) hst hS1 (ItemsOf.nil _) λs' acc' c' hm hS' hacc=>?_
  rw[Moved.eq_with hm]
  have hwl:ws.length=es.size:=by rw[p1.length_eq];simp
  refine hR s'.heap s'.toks d acc' c' ws (λb o hb e=>hm.heap b o (λhmem=>?_) (hk b o hb e)) hS' ?_ p1
  ·rcases List.mem_cons.mp hmem with e'|hmem
   ·exact hb e'
   ·exact absurd (Heap.lt_size e) (Nat.not_lt_of_le (by rw[List.mem_singleton.mp hmem];exact hI))
  ·refine List.ext_getElem? λi=>?_
   by_cases hi:i<es.size
   ·have hi2:i<acc'.size:=by rw[hacc.1];exact hi
    have:=hacc.2 i acc'[i] (Array.getElem?_eq_getElem hi2)
    rw[this,Array.getElem?_toList,Array.getElem?_eq_getElem hi2]
   ·rw[List.getElem?_eq_none (by rw[Array.length_toList,hacc.1];omega),List.getElem?_eq_none (by omega)]
 have hS1:=k1 S _ hS
 refine wpAny_bind (wpAny_holding (pW (s:={s with heap:=h1,drawn:=d}) (r:=a) ⟨o,k1 a o ho,hx.1⟩ ?_))
 refine wpAny_ite_split (λ_=>?_) (λ_=>wpAny_pure ⟨plainId_quiet PySem.F.plain_extend_loop _,key _ c0 _ st (λb o _ e=>k1 b o e) hS1⟩)
 refine wpAny_bind (wpAny_rule ?_)
 refine wpAny_bind ?_
 show wpAny _ _ (updateSeq S (·.push .none) >>= λ_=>updateSeq S (·.pop)) _ _ _
 refine wpAny_bind (wpAny_updateSeq hS1 rfl ?_)
 have hS2:=Heap.get?_update_self (Obj.mapSeq (·.push Value.none)) hS1 rfl
 refine wpAny_updateSeq (hz:=by seq_fits) hS2 rfl ?_
 have Kg:=Heap.get?_update_self (Obj.mapSeq (·.pop)) hS2 rfl
 refine wpAny_pure ⟨plainId_quiet PySem.F.plain_extend_loop _,key _ _ _ ?_ (λb o hb e=>?_) Kg⟩
 ·refine W.frame 0 _ _ st λb hb o e=>?_
  have hbS:S≠b:=λh=>hSf (h▸hb)
  exact(Heap.get?_update_other _ _ hbS).trans ((Heap.get?_update_other _ _ hbS).trans e)
 ·exact(Heap.get?_update_other _ _ (Ne.symm hb)).trans ((Heap.get?_update_other _ _ (Ne.symm hb)).trans (k1 b o e))
def iw{R:List Value->Shared->Prop}(hh:A.handled=none)(hs:pO s.heap a es ep t)(hf:t.fits es.size=true)(ht:Tb (ig w) t)(hz:es.size<=sizeLine)
 (h:∀(h':Heap) (tk:Nat) (d:Drawn) (ws:List Value),(∀b o,s.heap.get? b=some o->h'.get? b=some o)->ws.Perm (es.toList.map (·.2))->R ws {s with heap:=h',toks:=tk,drawn:=d}) :
 wpAny (model prog w) A (collect (.ref a)) R E s:=by
 obtain⟨o,ho,hx,hd⟩:=id hs
 unfold collect
 refine wpAny_bind (wpAny_runValue (codeAny_builtin PyProof.Rows.entry_proto_collect' ?_))
 rw[Around.under_plainId PySem.F.plain_proto_collect _]
 show wpAny _ A.in1 (newList [] >>= λl=>again (.builtin "list.__iadd__" ⟨[l,.ref a],[]⟩)) _ _ s
 refine wpAny_bind (wpAny_newObj_type ?_)
 refine wpAny_pure ⟨plainId_quiet PySem.F.plain_list_iadd _,codeAny_builtin PyProof.Rows.entry_list_iadd' ?_⟩
 rw[Around.under_plainId PySem.F.plain_list_iadd _]
 have hS:(s.heap.push {cls:=.type "list",data:=.seq ([]:List Value).toArray}).get? s.heap.objs.size=some {cls:=.type "list",data:=.seq #[]}:=Heap.get?_push_size _ rfl
 show wpAny _ A.in1 (Builtin.List.listExtendWith (.ref s.heap.objs.size) (.ref a) (.ref s.heap.objs.size)) _ _ _
 have key:=uf (prog:=prog) (A:=A) (s:={s with heap:=s.heap.push {cls:=.type "list",data:=.seq ([]:List Value).toArray}})
  (R:=fun(q:Result) (s':Shared)=>∃(h':Heap) (tk:Nat) (d:Drawn) (acc:Array Value) (c':Nat),q=.ok (.ret (.ref s.heap.objs.size))∧s'= {s with heap:=h',toks:=tk,drawn:=d}∧
    (∀b o,s.heap.get? b=some o->h'.get? b=some o)/\h'.get? s.heap.objs.size=some {cls:=.type "list",dict:=none,data:=.seq acc c',slots:=#[]}/\acc.toList.Perm (es.toList.map (·.2)))
  hh (hs.at λo e=>Heap.get?_push_of_some _ e) hf ht hz s.heap.objs.size (Nat.ne_of_gt (Heap.lt_size ho)) (.ref s.heap.objs.size) 0 hS
  (λh' tk d acc c' ws z1 z2 z3 z4=>⟨h',tk,d,acc,c',rfl,rfl,λb o e=>z1 b o (Nat.ne_of_lt (Heap.lt_size e)) (Heap.get?_push_of_some _ e),z2,z3▸z4⟩)
 refine wpAny_mono key (λfin s' x=>?_) λe s' x=>?_
 ·cases fin with
  |done f=>
   obtain⟨h',tk,d,acc',c',e,rfl,hk,hS',hp⟩:=x
   cases e
   show wpAny _ A (load s.heap.objs.size >>= _) _ _ _
   refine wpAny_bind (wpAny_load hS' ?_)
   exact wpAny_pure (h h' tk d _ hk hp)
  |again c1=>
   refine⟨x.1,codeAny_mono x.2 λq s2 y=>?_⟩
   obtain⟨h',tk,d,acc',c',rfl,rfl,hk,hS',hp⟩:=y
   show wpAny _ A (load s.heap.objs.size >>= _) _ _ _
   refine wpAny_bind (wpAny_load hS' ?_)
   exact wpAny_pure (h h' tk d _ hk hp)
 ·obtain⟨_,_,_,_,_,e',_⟩:=x
  cases e'
end
end P
namespace P
open PySem PySem.Spec PyProof.Rows L2 M2 M3 M4
section
variable{X:Cx}{cm:String->Addr}{E:L2.St->XK}{l:Expr}{p pos p1 pos1:Pos}
def Inv.draw{pins:List (Addr×Obj)}{σ:List (Option V)}{H:Hp}{s:Shared}{d:Drawn}(I:Inv X pins σ H s):Inv X pins σ H {s with drawn:=d}:=
 ⟨I.ok,I.os,I.bare,I.base,I.loc,I.cell,I.free,I.ŗ,I.pin,I.hok,I.len⟩
def fX:∀{ws vs:List Value} {ns:List Int},ws.Perm vs->IntsAre vs ns->∃ms,IntsAre ws ms/\ms.Perm ns:=by
 intro ws vs ns h
 induction h generalizing ns with
 |nil=>intro hi;exact⟨ns,hi,.refl _⟩
 |cons x _ ih=>
  intro hi
  cases hi with
  |cons n t r=>obtain⟨ms,m1,m2⟩:=ih r;exact⟨n::ms,.cons n t m1,m2.cons n⟩
 |swap x y _=>
  intro hi
  cases hi with
  |cons n t r=>
   cases r with
   |cons m t2 r=>exact⟨m::n::_,.cons m t2 (.cons n t r),.swap _ _ _⟩
 |trans _ _ ih1 ih2=>
  intro hi
  obtain⟨ms,m1,m2⟩:=ih2 hi
  obtain⟨ks,k1,k2⟩:=ih1 m1
  exact⟨ks,k1,k2.trans m2⟩
theorem cG{prog:Program}{w:World}:∀{es:List (Int×Value)},ElemsOf (intKind prog w) es->IntsAre (es.map (·.2)) (es.map λe=>keyV e.2)
 | [],_=>.nil
 |e::es,h=>by
  obtain⟨n,t,hn⟩:=g_ h (.head _)
  rw[List.map_cons,List.map_cons,hn]
  exact .cons n t (cG h.tail)
def Kh(K:PySem.W.Frag)(ta:TA):TE:=λσ H Q=>ta σ H λvs H1=>∃a,∃ns:List Int,vs=[.ref a]/\Ľ K H1 a (ns.map .int)/\ns.length<64/\∀q (ms:List Int),ms.Perm (ns.foldl step_dedup [])->ms.Pairwise (·<= ·)->H1 q=none->Q (.ref q) (upd H1 q (.lst (ms.map .int)))
def Ba{ta:TA}(hc:X.calm=true)(hg1:Gl X "sorted")(hm1:X.mg "sorted" =none)(hg:Gl X "set")(hm:X.mg "set" =none)(ha:PA X [l] ta)(hs:starEach [l] X.env=[(false,eval l X.env)]) :
 PE X (.Call (.Name "sorted" p1) [.Call (.Name "set" p) [l] [] pos] [] pos1) (Kh X.K ta):=by
 intro pins s σ H Q I h
 refine Call_ (aA I hg1 hm1 PyProof.Rows.boot_sorted (PyProof.Rows.callWith_builtin1 ?_ rfl rfl))
 refine Calls.spliced_cons ?_
 refine Call_ (aA I hg hm PySem.Pv.boot_set (PyProof.Rows.callWith_type1 (ĩ (ha pos pins s σ H _ I h) λus s1 ⟨vs,H1,I1,r1,q1⟩=>?_) hs rfl))
 obtain⟨a,ns,e,hq,h64,q⟩:=q1
 subst e
 obtain⟨u,rfl,ru⟩:=r1.one
 cases ru
 obtain⟨its,rv,pl,hz⟩:=I1.list hq
 have hin:IntsAre its ns:=Ĺ rv
 have hil:its.length=ns.length:=IntsAre.length hin
 refine lY (I1.ok.hd hc) pl.isList (by simpa using hin) (by simp[scanBound];omega) λh1 tk o ho hS k1=>?_
 refine Calls.spliced_nil ?_
 obtain⟨hx,es,ep,t,hd,he,hk,hb,hf,ht⟩:=hS
 have hel:es.toList.length=(ns.foldl step_dedup ([]:List Int)).length:=by have:=hk.length_eq;simpa using this
 have hdl:=foldl_step_dedup_nil_length_le ns
 have hz2:es.size<=sizeLine:=fits_of_scanBound hb
 refine Calls.call_function_entry kind_sorted plain_sorted entry_sorted (args_sorted1 _) ?_
 unfold Builtin.«sorted»
 refine wpAny_bind (m:=checkCount "sorted" 1 1 _) (wpAny_pure ?_)
 refine wpAny_bind (iw (A:=X.A.in1) (s:={s1 with heap:=h1,toks:=tk}) (I1.ok.hd hc) ⟨o,ho,hx,hd⟩ hf ht hz2 λh2 tk2 d ws k2 pw=>?_)
 obtain⟨ms,m1,m2⟩:=fX pw (cG he)
 have hwl:ws.length<64:=by
  rw[pw.length_eq,List.length_map]
  simp at hel ⊢
  omega
 refine wpAny_bind (wpAny_newList ?_ (by rw[Ċ];omega))
 have hoL:(h2.push (seqObj "list" ws.toArray 0)).get? h2.objs.size=some (seqObj "list" ws.toArray 0):=Heap.get?_push_size _ rfl
 refine wpAny_bind (wpAny_holding (wpAny_call_entry slot_list_sort ⟨_,hoL,rfl⟩ entry_list_sort (list_sort_tree hoL m1 hwl λout ns' a1 a2 a3=>⟨_,rfl,?_⟩) (args_list_sort _)))
 refine wpAny_pure ⟨_,rfl,?_⟩
 have I2:Inv X pins σ H1 {s1 with heap:=h2,toks:=tk2,drawn:=d}:=Inv.draw (I1.kept (t':=tk2) λb u e=>k2 b u (k1 b u e))
 have kp:∀b u,h2.get? b=some u->(sortedHeap (h2.push (seqObj "list" ws.toArray 0)) h2.objs.size ws out).get? b=some u:=λb u e=>by
  have hlt:=Heap.lt_size e
  rw[sortedHeap_old (Nat.ne_of_lt hlt) (by rw[size_push'];exact Nat.lt_succ_of_lt hlt)]
  exact Heap.get?_push_of_some _ e
 obtain⟨ec,hse⟩:=sortedHeap_at (out:=out) hoL
 refine⟨.ref h2.objs.size,_,I2.laid (o:=.lst (ns'.map .int)) (t':=tk2) kp (Nat.le_refl _) ⟨?_,out.toList,ec,L2.Ĺ a1,?_⟩,rfl,q _ ns' ((a2.trans m2).trans hk) a3 (I2.hok.fresh (Nat.le_refl _))⟩
 ·have:=a2.length_eq
  have:=IntsAre.length m1
  simp
  rw[Ċ]
  omega
 ·rw[hse]
def pX(ns:List Int):List Int:=ns.foldl step_dedup []
def DN(m:M PV):M RV:=λρ=>(m ρ).bind λq ρ1=>match q with
 | .lst ps=>match intsOf ps with
   |some ns=>if ns.length<64 then .ok (.ow ((cB (pX ns)).map .int)) ρ1 else .bad
   |none=>.bad
 |_=>.bad
@[simp] theorem Bb{m:M PV}{ρ:Đ}:DN m ρ=(m ρ).bind fun q ρ1=>match q with
  | .lst ps=>match intsOf ps with
    |some ns=>if ns.length<64 then .ok (.ow ((cB (pX ns)).map .int)) ρ1 else .bad
    |none=>.bad
  |_=>.bad:=rfl
def HW{m:M PV}(hc:X.calm=true)(hg1:Gl X "sorted")(hm1:X.mg "sorted" =none)(hg:Gl X "set")(hm:X.mg "set" =none)(hl:PE X l (tR (kk X cm) E m))(hs:starEach [l] X.env=[(false,eval l X.env)]:=by exact aj rfl) :
 PE X (.Call (.Name "sorted" p1) [.Call (.Name "set" p) [l] [] pos] [] pos1) (tO (kk X cm) E (DN m)):=
 PE.wk (Ba hc hg1 hm1 hg hm (Ž hl dY hs) hs) fun σ H Q ⟨c,F,ρ,rel,h⟩=>⟨c,F,ρ,rel,h.bind fun q ρ1 v F1 H1 Ă s1 s2 r1 h1=>by
   cases q with
   |lst ps=>
    dsimp only at h1
    cases e1:intsOf ps with
    |none=>rw[e1] at h1;exact h1.elim
    |some ns=>
     rw[e1] at h1
     dsimp only at h1
     split at h1
     ·rename_i h64
      have r0:rR (kk X cm) c σ ρ1 F1 H1 (.lst ps) v:=r1
      obtain⟨a,xs,rfl,q1,q2⟩:=r0.lst Ă.sub
      rw[ints_rep q2 e1] at q1
      refine⟨a,ns,rfl,q1,h64,λy ms m1 m2 hy=>?_⟩
      have em:ms=cB (pX ns):=dJ m2 (Ť _) (m1.trans (aO _).symm)
      subst em
      obtain⟨k1,k2⟩:=ņ Ă hy (dM (K:=kk X cm) (F:=F1) (cB (pX ns)))
      exact h1 _ _ _ k1 (Same.refl _) (Same.upd hy) k2
     ·exact h1.elim
   |_=>exact h1.elim⟩
end
end P
namespace My
end My
namespace T
open PySem L2 M2 M3 M4 P
noncomputable section
def top(i:Nat):Stmt:=PySem.Challenge.pw_shadowpost_k12_sets_of_stones.main.body.getD i (.Pass ⟨0,0,0,0⟩)
abbrev Bc:Stmt:=top 7
abbrev Bd:Stmt:=top 1
abbrev Bf:Stmt:=top 4
abbrev Bg:Stmt:=top 6
abbrev Bh:Stmt:=top 9
abbrev Bj:Stmt:=top 2
abbrev Bk:Stmt:=top 3
abbrev Bl:Stmt:=top 8
abbrev Bm:Stmt:=top 10
abbrev Bo:Stmt:=top 11
def uN:M Fl:=(Ń (Ţ [1] 1 (ĳ (Ī (yC (Ā 0) (mP (mC (.int 1))) (mP (mC (.int 61)))))) (gN 1) cU (cT (Ĉ (Ć Ħ (Ā 1) (Ā 0)) (Ĉ (Ć Ħ (Ć ŀ (Ā 1) (Ā 0)) (mC (.int 20))) Ġ)))))
def ug:MF:=Š 2 2 uN
def uO:M Fl:=(Ń (ĵ Ķ (Ć Ĵ (Ć aG (Ā 0) (mC (.int 1))) (Ā 1)) (Ć aG (Ā 0) (mC (.int 0)))))
def uh:MF:=Š 2 2 uO
def pY:M Fl:=(jP 2 (Ć oU (mC (.int 1)) (Ī (ĥ uh (ċ 3 (ċ 1 ħ))))))
def uP:M Fl:=(Ğ (ĸ 2 (dF (mC (.int 0))))
 (Ğ (bN (Ļ 0) (gN 3) pY)
 (Ń (dD 2))))
def jk:MF:=Š 2 4 uP
def pZ:M Fl:=(ĸ 1 (ĵ Ķ (Ā 1) (Ā 1)))
def uQ:M Fl:=(Ğ (ĸ 1 (dF (mC (.int 1))))
 (Ğ (bN (bT bR (Ĉ (Ů 0) Ġ)) (gN 2) pZ)
 (Ń (dD 1))))
def lZ:MF:=Š 1 3 uQ
def kI:M Fl:=(mz (iU (Ć ŷ (Ć Ħ (Ā 3) (mC (.int 3))) (mC (.int 0))))
 (ĸ 2 (ĵ Ķ (Ć Ĵ (Ā 2) (mC (.int 2))) (Ć Ħ (Ć ŀ (Ā 3) (mC (.int 3))) (mC (.int 2)))))
 (ĸ 2 (ĵ Ķ (Ć Ĵ (Ā 2) (mC (.int 8191))) (Ć Ħ (Ć ŀ (Ā 3) (mC (.int 3))) (Ć oR (mC (.int 10)) (mC (.int 12)))))))
def uR:M Fl:=(Ğ (ĸ 2 (dF (mC (.int 0))))
 (Ğ (bN (ĳ (Ī (yC (Ā 0) oX (mP (mC (.int 60)))))) (gN 3) kI)
 (Ń (dF (Ć Ħ (Ā 2) (Ī (ĥ lZ (ś (Ć Ĵ (mC (.int 20)) (Ā 1)) ħ))))))))
def um:MF:=Š 2 4 uR
def uT:M Fl:=(Ń (dF (cT (Ĉ (Ć Ħ (Ā 0) (Ā 1)) (Ĉ (Ć ŀ (Ā 0) (Ā 1)) Ġ)))))
def qb:MF:=Š 2 2 uT
def uU:M Fl:=(Ń (Ţ [1,0] 1 (bT bR (Ĉ (pD (Ů 0)) Ġ)) (gN 2) (aY (Ć bV (Ć jJ (Ā 1) (Ā 2)) (mC (.int 1)))) (Ī (ĥ qb (ċ 2 (ċ 0 ħ))))))
def jl:MF:=Š 2 2 uU
def uV:M Fl:=(mz (gF (aQ (aY (iV fP (Ĉ (Ā 3) (Ĉ (mC (.ty "int")) Ġ))))) (aY (iV fP (Ĉ (Ā 3) (Ĉ (mC (.ty "bool")) Ġ)))))
 (Ń (dF (mC (.bl false))))
 oh)
def qd:M Fl:=(Ğ (mz (gF (aQ (aY (iV fP (Ĉ (Ć aG (Ā 0) (Ā 2)) (Ĉ (mC (.ty "tuple")) Ġ))))) (iU (Ć Ÿ (iV gQ (Ĉ (Ć aG (Ā 0) (Ā 2)) Ġ)) (mC (.int 2)))))
 (Ń (dF (mC (.bl false))))
 oh)
 (Ğ (bN (ĳ (Ć aG (Ā 0) (Ā 2))) (gN 3) uV)
 (mz (iU (Ć Ÿ (Ć aG (Ā 0) (Ā 2)) (Ć aG (Ā 1) (Ā 2))))
 (Ń (dF (mC (.bl false))))
 oh)))
def uW:M Fl:=(Ğ (mz (gF (aQ (aY (iV fP (Ĉ (Ā 0) (Ĉ (mC (.ty "list")) Ġ))))) (iU (Ć Ÿ (iV gQ (Ĉ (Ā 0) Ġ)) (iV gQ (Ĉ (Ā 1) Ġ)))))
 (Ń (dF (mC (.bl false))))
 oh)
 (Ğ (bN (bT bR (Ĉ (iV gQ (Ĉ (Ā 1) Ġ)) Ġ)) (gN 2) qd)
 (Ń (dF (mC (.bl true))))))
def qe:MF:=Š 2 4 uW
def qg:M Fl:=(ė (iU (Ć sZ (Ā 0) (mC (.int 0))))
 (Ğ (sE (gS 2 (ī (gN 0) (ī (gN 4) bM))) (iV Ũ (Ĉ (Ā 0) (Ĉ (mC (.int 2)) Ġ))))
 (Ğ (mz (iU (Ć ŷ (Ā 4) (mC (.int 1))))
 (oE 2 (cT (Ĉ (Ć Ħ (Ā 3) (Ā 1)) (Ĉ (Ć ŀ (Ā 3) (Ā 1)) Ġ))))
 oh)
 (ĸ 3 (ĵ Ķ (Ā 3) (mC (.int 1)))))))
def uX:M Fl:=(Ğ (ĸ 2 (nY Ġ))
 (Ğ (ĸ 3 (dF (mC (.int 0))))
 (Ğ qg
 (Ń (dD 2)))))
def uo:MF:=Š 2 5 uX
def iy:M Fl:=(ĸ 5 (ĵ Ķ (Ā 5) (Ī (ĥ lZ (ċ 7 ħ)))))
def qj:M Fl:=(ĸ 1 (ĵ Ķ (mC (.int 1)) (Ć Ħ (Ā 2) (mC (.int 20)))))
def uY:M Fl:=(Ğ (ĸ 1 (dF (mC (.int 1))))
 (Ğ (bN (ĳ (Ī (yC (Ā 0) oX (mP (mC (.int 1)))))) (gN 2) qj)
 (Ğ (ĸ 3 (ĥ ug (ċ 0 (ċ 1 ħ))))
 (Ğ (ĸ 4 (su gR (Ĉ (Ā 3) Ġ)))
 (Ğ (ĸ 5 (dF (mC (.int 0))))
 (Ğ (ĸ 6 (DN (Ī (Ţ [1] 2 (Ļ 3) (gT 2 (ī (gN 1) (ī (gN 2) bM))) cU (Ī (ĵ Ķ (Ć Ĵ (Ā 2) (Ā 0)) (Ā 1)))))))
 (Ğ (bN (Ļ 6) (gN 7) iy)
 (Ğ (ĸ 8 (ĥ jk (ċ 4 (ċ 1 ħ))))
 (Ğ (mz (gF (aQ (aY (iV fP (Ĉ (Ā 8) (Ĉ (mC (.ty "int")) Ġ))))) (gF (aY (iV fP (Ĉ (Ā 8) (Ĉ (mC (.ty "bool")) Ġ)))) (gF (iU (Ć Ÿ (Ā 8) (Ā 5))) (iU (Ć Ÿ (Ā 4) (Ā 3))))))
 (Ń (dF (mC (.bl false))))
 oh)
 (Ğ (mz (aQ (aY (Ī (ĥ qe (ś (Ī (ĥ jl (ċ 8 (ċ 1 ħ)))) (ś (Ī (Ţ [1] 1 (Ļ 6) (gN 1) cU (cT (Ĉ (Ć Ħ (Ā 1) (Ā 0)) (Ĉ (Ć ŀ (Ā 1) (Ā 0)) Ġ))))) ħ))))))
 (Ń (dF (mC (.bl false))))
 oh)
 (Ğ (ĸ 9 (ĥ um (ċ 0 (ċ 1 ħ))))
 (Ğ (ĸ 10 (ĥ jl (ċ 9 (ċ 1 ħ))))
 (Ğ (mz (aQ (aY (Ī (ĥ qe (ċ 10 (ś (Ī (ĥ uo (ċ 9 (ċ 1 ħ)))) ħ))))))
 (Ń (dF (mC (.bl false))))
 oh)
 (Ń (dF (nU (Ć ŷ (Ī (ĥ jk (ċ 10 (ċ 1 ħ)))) (Ā 9)) (nU (Ć ŷ (Ī (ĥ jl (ś (mC (.int 0)) (ċ 1 ħ)))) (Ī (nY Ġ))) (Ć ŷ (Ī (ĥ jk (ś (Ī (nY Ġ)) (ċ 1 ħ)))) (mC (.int 0))))))))))))))))))))
def mj:MF:=Š 1 11 uY
set_option genInjectivity false
set_option genSizeOf false
structure Bp where
 {Bq Br Bs Bt Bu Bv Bw Bx BJ BK:Addr}
 {BL BP BR BW BX BZ B_ Ca Cd yh:FuncData}
def qH(_:Bp):String->Addr:=λ_=>0
structure Tx(K:PySem.W.Frag)(mg:Str->Option Value)(a:Bp):Prop where
 Ű:Df K mg "_law_stones" Bc ["_law_script","_law_width"] a.Bq a.BL
 aV:Df K mg "number_of" Bd ["stone","width"] a.Br a.BP
 Ū:Df K mg "bits_of" Bf ["stones","width"] a.Bs a.BR
 œ:Df K mg "_law_power" Bg ["_law_many"] a.Bt a.BW
 ű:Df K mg "_law_number" Bh ["_law_script","_law_width"] a.Bu a.BX
 cH:Df K mg "stone_at" Bj ["number","width"] a.Bv a.BZ
 Ł:Df K mg "stones_of" Bk ["bits","width"] a.Bw a.B_
 ń:Df K mg "_law_listed" Bl ["_law_found","_law_due"] a.Bx a.Ca
 Ų:Df K mg "_law_halved" Bm ["_law_number_here","_law_width"] a.BJ a.Cd
 ql:Df K mg "law" Bo ["_law_script"] a.BK a.yh
 qm:mg "bool" =none
 qt:mg "divmod" =none
 uZ:mg "int" =none
 ě:mg "isinstance" =none
 kJ:mg "len" =none
 qu:mg "list" =none
 fY:mg "range" =none
 Ce:mg "set" =none
 qw:mg "sorted" =none
 uq:mg "tuple" =none
def Cg:Č ["_law_script","_law_width"] ["_law_script","_law_width"] (ą Bc):=qF
def Ci:Č ["stone","width"] ["stone","width"] (ą Bd):=qF
def kO:Č ["stones","width","bits","stone"] ["stones","width"] (ą Bf):=qF
def kW:Č ["_law_many","_law_found","_law_k"] ["_law_many"] (ą Bg):=qF
def iz:Č ["_law_script","_law_width","_law_number_here","_law_cell"] ["_law_script","_law_width"] (ą Bh):=qF
def Cj:Č ["number","width"] ["number","width"] (ą Bj):=qF
def Ck:Č ["bits","width"] ["bits","width"] (ą Bk):=qF
def qy:Č ["_law_found","_law_due","_law_k","_law_part"] ["_law_found","_law_due"] (ą Bl):=qF
def dN:Č ["_law_number_here","_law_width","_law_found","_law_k","_law_rest"] ["_law_number_here","_law_width"] (ą Bm):=qF
def ň:Č ["_law_script","_law_width","_law_cell","_law_stones_here","_law_handed","_law_due","_law_known","_law_k","_law_bits","_law_number_here","_law_found"] ["_law_script"] (ą Bo):=qF
section
variable{P:Program}{w:World}{K:PySem.W.Frag}{mg:Str->Option Value}{base:Heap}{a:Bp}
seal PE PT PW PA PS ź PG iB PI rM
def Cm(T:Tx K mg a):į P w K mg base jx 1 a.Bq a.BL ["_law_script","_law_width"] (dI ⟨K,qH a⟩ 2 ug):=by
 refine cV T.Ű.F Cg λ_ _ _ _ _ _ _ _=>?_
 exact cj (tQ (gH (ŏ (fM (ă 0) (fL ŕ) (fL ŕ)))) pH i_ (jG (İ (v_mod (ă 1) (ă 0)) (İ (v_mod (pF (ă 1) (ă 0)) Ę) Ś))))
def Cp(T:Tx K mg a):į P w K mg base jx 1 a.Br a.BP ["stone","width"] (dI ⟨K,qH a⟩ 2 uh):=by
 refine cV T.aV.F Ci λ_ _ _ _ _ _ _ _=>?_
 exact cj (aR (jT (lV (ă 0) Ę) (ă 1)) (lV (ă 0) Ę))
def qz(T:Tx K mg a):į P w K mg base jx 2 a.Bs a.BR ["stones","width"] (dI ⟨K,qH a⟩ 2 jk):=by
 refine cV T.Ū.F kO λ_ _ _ _ _ _ hr _=>?_
 exact aN kO (iT ŕ) (ē (bO PassesOwn.leaving rfl (fC 0) (fV kO) (Ĳ (xW (i:=2) kO.nd rfl (Or.inl rfl) (bL xP xR Ę (ĝ (ŏ (Ĕ (Cp T) T.aV hr Ģ (Ĝ 3 (Ĝ 1 ġ))))))))) (cj (nR 2)))
def u_(T:Tx K mg a):į P w K mg base jx 1 a.Bt a.BW ["_law_many"] (dI ⟨K,qH a⟩ 1 lZ):=by
 refine cV T.œ.F kW λ_ _ _ _ _ _ _ _=>?_
 exact aN kW (iT ŕ) (ē (bO PassesOwn.leaving rfl (bU rfl T.fY (İ (v_var 0) Ś)) (fV kW) (Ĳ (jh kW (aR (ă 1) (ă 1))))) (cj (nR 1)))
def Cq(T:Tx K mg a):į P w K mg base jx 2 a.Bu a.BX ["_law_script","_law_width"] (dI ⟨K,qH a⟩ 2 um):=by
 refine cV T.ű.F iz λ_ _ _ _ _ _ hr hu=>?_
 exact aN iz (iT ŕ) (ē (bO PassesOwn.leaving rfl (gH (ŏ (fM (ă 0) oY (fL ŕ)))) (fV iz) (Ĳ (fB (t_eq hu (jR (ă 3) Ę) Ę) (Ĳ (jh iz (aR (jT (ă 2) Ę) (jR (pF (ă 3) Ę) Ę)))) (Ĳ (jh iz (aR (jT (ă 2) Ę) (jR (pF (ă 3) Ę) (ĝ (bL xO wN Ę Ę))))))))) (cu (v_mod (ă 2) (ĝ (ŏ (Ĕ (u_ T) T.œ hr Ģ (ŧ (v_mul Ę (ă 1)) ġ)))))))
def Cr(T:Tx K mg a):į P w K mg base jx 1 a.Bv a.BZ ["number","width"] (dI ⟨K,qH a⟩ 2 qb):=by
 refine cV T.cH.F Cj λ_ _ _ _ _ _ _ _=>?_
 exact cu (jG (İ (v_mod (ă 0) (ă 1)) (İ (jU (ă 0) (ă 1)) Ś)))
def qC(T:Tx K mg a):į P w K mg base jx 2 a.Bw a.B_ ["bits","width"] (dI ⟨K,qH a⟩ 2 jl):=by
 refine cV T.Ł.F Ck λ_ _ _ _ _ _ hr _=>?_
 exact cj (tQ (bU rfl T.fY (İ (xX (v_var 0)) Ś)) pH (xH (ak (ĝ (bL sX sY (ĝ (bL xQ xT (ă 1) (ă 2))) Ę)))) (ŏ (Ĕ (Cr T) T.cH hr Ģ (Ĝ 2 (Ĝ 0 ġ)))))
def vd(T:Tx K mg a):į P w K mg base jx 1 a.Bx a.Ca ["_law_found","_law_due"] (dI ⟨K,qH a⟩ 2 qe):=by
 refine cV T.ń.F qy λ_ _ _ _ _ _ _ hu=>?_
 exact ē (fB (PW.pt (w_or (dG (ak (ĝ (cA aJ aK T.ě PyProof.Rows.boot_isinstance (č (ă 0) (č (ĝ (uH (.ty "list") (ť (v:=.ty "list") rfl T.qu PyProof.Rows.boot_list rfl))) ı)))))) (jE (pG hu (ĝ (cA eU fO T.kJ PySem.boot_len (č (ă 0) ı))) (ĝ (cA eU fO T.kJ PySem.boot_len (č (ă 1) ı))))))) (cu gD) ŝ) (ē (bO PassesOwn.leaving rfl (bU rfl T.fY (İ (cA eU fO T.kJ PySem.boot_len (č (ă 1) ı)) Ś)) (fV qy) (ē (fB (PW.pt (w_or (dG (ak (ĝ (cA aJ aK T.ě PyProof.Rows.boot_isinstance (č (lV (ă 0) (ă 2)) (č (ĝ (uH (.ty "tuple") (ť (v:=.ty "tuple") rfl T.uq PyProof.Rows.boot_tuple rfl))) ı)))))) (jE (pG hu (ĝ (cA eU fO T.kJ PySem.boot_len (č (lV (ă 0) (ă 2)) ı))) Ę)))) (cu gD) ŝ) (ē (bO PassesOwn.leaving rfl (gH (Az (ă 0) (ă 2))) (fV qy) (Ĳ (fB (PW.pt (w_or (dG (ak (ĝ (cA aJ aK T.ě PyProof.Rows.boot_isinstance (č (ă 3) (č (ĝ (uH (.ty "int") (ť (v:=.ty "int") rfl T.uZ PyProof.Rows.boot_int rfl))) ı)))))) (jE (ak (ĝ (cA aJ aK T.ě PyProof.Rows.boot_isinstance (č (ă 3) (č (ĝ (uH (.ty "bool") (ť (v:=.ty "bool") rfl T.qm PyProof.Rows.boot_bool rfl))) ı)))))))) (cu gD) ŝ))) (Ĳ (fB (pG hu (lV (ă 0) (ă 2)) (lV (ă 1) (ă 2))) (cu gD) ŝ))))) (cu gD))
def Cu(T:Tx K mg a):į P w K mg base jx 1 a.BJ a.Cd ["_law_number_here","_law_width"] (dI ⟨K,qH a⟩ 2 uo):=by
 refine cV T.Ų.F dN λ_ _ _ _ _ _ _ hu=>?_
 exact aN dN (nZ Ś) (aN dN (iT ŕ) (ē (sI PassesOwn.leaving (nT z_ zp (ă 0) Ę (dX _)) (ē (zU (cA lN lO T.qt PyProof.Rows.boot_divmod (č (ă 0) (č Ę ı))) (Ay rfl (bh (fV dN) (bh (fV dN) oA)))) (ē (fB (t_eq hu (ă 4) Ę) (Ĳ (PS.wk (qP (zc PySem.F.plainAttrs_list PySem.F.slot_list_append PySem.F.type_list_append dg (pv 2) (İ (jG (İ (v_mod (ă 3) (ă 1)) (İ (jU (ă 3) (ă 1)) Ś))) Ś))) λ_ _ _ h=>sG h)) ŝ) (Ĳ (jh dN (aR (ă 3) Ę)))))) (cj (nR 2))))
def Cv(T:Tx K mg a):į P w K mg base jx 3 a.BK a.yh ["_law_script"] (dI ⟨K,qH a⟩ 1 mj):=by
 refine cV T.ql.F ň λ_ _ _ _ _ _ hr hu=>?_
 exact aN ň (iT ŕ) (ē (bO PassesOwn.leaving rfl (gH (ŏ (fM (ă 0) oY (fL ŕ)))) (fV ň) (Ĳ (jh ň (aR Ę (jR (ă 2) Ę))))) (aN ň (Ĕ (Cm T) T.Ű hr Ģ (Ĝ 0 (Ĝ 1 ġ))) (aN ň (HN tD tE T.qu PyProof.Rows.boot_list (č (ă 3) ı)) (aN ň (iT ŕ) (aN ň (HW rfl rfl T.qw rfl T.Ce (ĝ (ŏ (tQ (fC 3) (zT rfl (bh pH (bh pH oA))) i_ (v_add (jT (ă 2) (ă 0)) (ă 1)))))) (ē (bO PassesOwn.leaving rfl (fC 6) (fV ň) (Ĳ (jh ň (aR (ă 5) (ĝ (ŏ (Ĕ (u_ T) T.œ hr Ģ (Ĝ 7 ġ)))))))) (aN ň (Ĕ (qz T) T.Ū hr Ģ (Ĝ 4 (Ĝ 1 ġ))) (ē (fB (PW.pt (w_or (dG (ak (ĝ (cA aJ aK T.ě PyProof.Rows.boot_isinstance (č (ă 8) (č (ĝ (uH (.ty "int") (ť (v:=.ty "int") rfl T.uZ PyProof.Rows.boot_int rfl))) ı)))))) (w_or (ak (ĝ (cA aJ aK T.ě PyProof.Rows.boot_isinstance (č (ă 8) (č (ĝ (uH (.ty "bool") (ť (v:=.ty "bool") rfl T.qm PyProof.Rows.boot_bool rfl))) ı))))) (w_or (pG hu (ă 8) (ă 5)) (jE (pG hu (ă 4) (ă 3))))))) (cu gD) ŝ) (ē (fB (dG (ak (ĝ (ŏ (Ĕ (vd T) T.ń hr Ģ (ŧ (ŏ (Ĕ (qC T) T.Ł hr Ģ (Ĝ 8 (Ĝ 1 ġ)))) (ŧ (ŏ (tQ (fC 6) pH i_ (jG (İ (v_mod (ă 1) (ă 0)) (İ (jU (ă 1) (ă 0)) Ś))))) ġ))))))) (cu gD) ŝ) (aN ň (Ĕ (Cq T) T.ű hr Ģ (Ĝ 0 (Ĝ 1 ġ))) (aN ň (Ĕ (qC T) T.Ł hr Ģ (Ĝ 9 (Ĝ 1 ġ))) (ē (fB (dG (ak (ĝ (ŏ (Ĕ (vd T) T.ń hr Ģ (Ĝ 10 (ŧ (ŏ (Ĕ (Cu T) T.Ų hr Ģ (Ĝ 9 (Ĝ 1 ġ)))) ġ))))))) (cu gD) ŝ) (cu (v_and (v_eq hu (ĝ (ŏ (Ĕ (qz T) T.Ū hr Ģ (Ĝ 10 (Ĝ 1 ġ))))) (ă 9)) (v_and (v_eq hu (ĝ (ŏ (Ĕ (qC T) T.Ł hr Ģ (ŧ ŕ (Ĝ 1 ġ))))) (ĝ (ŏ (nZ Ś)))) (zN (v_eq hu (ĝ (ŏ (Ĕ (qz T) T.Ū hr Ģ (ŧ (ŏ (nZ Ś)) (Ĝ 1 ġ))))) Ę)))))))))))))))))
end
def Zf(b:Nat):Builtin.bitNot (b:Int)= -(b:Int)-1:=rfl
def Zy(a b:Nat):Builtin.bitOr a b=((a ||| b:Nat):Int):=by
 unfold Builtin.bitOr Builtin.bitAnd
 rw[Zf,Zf]
 have h1:decide (0<= -(a:Int)-1)=false:=by simp;omega
 have h2:decide (0<= -(b:Int)-1)=false:=by simp;omega
 rw[h1,h2]
 have e1:(Builtin.bitNot (-(a:Int)-1)).toNat=a:=by unfold Builtin.bitNot;omega
 have e2:(Builtin.bitNot (-(b:Int)-1)).toNat=b:=by unfold Builtin.bitNot;omega
 simp only[e1,e2]
 unfold Builtin.bitNot
 omega
def Zv(a k:Nat):(a:Int) / 2 ^ k=((a >>> k:Nat):Int):=by
 rw[Nat.shiftRight_eq_div_pow]
 simp
def Zc(a k:Nat):(a:Int) / 2 ^ k % 2=if a.testBit k then 1 else 0:=by
 rw[Zv]
 have:(a >>> k) % 2=if a.testBit k then 1 else 0:=by
  rw[Nat.testBit]
  have h:1 &&& (a >>> k)=(a >>> k) % 2:=by rw[Nat.and_comm];exact Nat.and_one_is_mod _
  rw[h]
  have:(a >>> k) % 2=0\/(a >>> k) % 2=1:=by omega
  rcases this with e|e<;>simp[e]
 by_cases q:a.testBit k=true
 ·rw[if_pos q] at this ⊢;omega
 ·rw[if_neg q] at this ⊢;omega
def Zt(a:Int):Builtin.bitAnd a 1=a % 2:=PyProof.Rows.bitAnd_m1 a
def Zd{a n:Nat}(h:∀k,n<=k->a.testBit k=false):a<2 ^ n:=Nat.lt_pow_two_of_testBit a h
def Ze(n:Nat):š 0 n 1=(List.range n).map λ(i:Nat)=>PV.int (i:Int):=by
 unfold š
 refine List.map_congr_left λi _=>?_
 simp
def Zm{n:Nat}(h:n<=1000):bR [.int (n:Int)]=some ((List.range n).map λ(i:Nat)=>PV.int (i:Int)):=by
 have hs:bQ (n:Int)=true:=by unfold bQ;simp;omega
 unfold bR
 simp[hs,Ze]
def Zw:∀(a b:Nat),a &&& b=0->a ||| b=a+b:=by
 intro a
 induction a using Nat.strongRecOn with
 |_ a ih=>
  intro b h
  by_cases h0:a=0
  ·subst h0;simp
  ·have h1:a / 2 &&& b / 2=0:=by rw[<-Nat.and_div_two,h]
   have hd:=ih (a / 2) (by omega) (b / 2) h1
   have e2:(a % 2) &&& (b % 2)=0:=by
    have:=@Nat.and_mod_two_pow a b 1
    simp only[Nat.pow_one] at this
    rw[<-this,h]
   have e3:(a ||| b) / 2=a / 2 ||| b / 2:=Nat.or_div_two
   have e4:(a ||| b) % 2=(a % 2) ||| (b % 2):=by
    have:=@Nat.or_mod_two_pow a b 1
    simpa only[Nat.pow_one] using this
   have ha:a % 2=0\/a % 2=1:=by omega
   have hb:b % 2=0\/b % 2=1:=by omega
   generalize (a ||| b)=x at *
   rw[hd] at e3
   rcases ha with ha|ha<;>rcases hb with hb|hb<;>rw[ha,hb] at e2 e4<;>simp at e2 e4<;>omega
def cL(ks:List Nat):Nat:=ks.foldl (λb k=>b ||| 2 ^ k) 0
theorem Zg(i:Nat):∀(ks:List Nat) (b:Nat),(ks.foldl (λb k=>b ||| 2 ^ k) b).testBit i=(b.testBit i || decide (i∈ks))
 | [],b=>by simp
 |k::ks,b=>by
  rw[List.foldl_cons,Zg i ks,Nat.testBit_or,Nat.testBit_two_pow,Bool.or_assoc]
  congr 1
  by_cases e:k=i
  ·simp[e]
  ·have:¬i=k:=λz=>e z.symm
   simp[e,this]
def Z5(ks:List Nat)(i:Nat):(cL ks).testBit i=decide (i∈ks):=by
 unfold cL
 rw[Zg]
 simp
def jc{x k:Nat}(h:x.testBit k=false):x ||| 2 ^ k=x+2 ^ k:=by
 have h1:x &&& 2 ^ k=0:=by
  refine Nat.eq_of_testBit_eq λi=>?_
  rw[Nat.testBit_and,Nat.testBit_two_pow]
  by_cases e:k=i
  ·subst e;simp[h]
  ·simp[e]
 exact Zw x _ h1
theorem Z6:∀{l m:List Nat},l.Pairwise (·< ·)->m.Pairwise (·< ·)->(∀x,x∈l↔x∈m)->l=m
 | [],[],_,_,_=>rfl
 | [],b::m,_,_,h=>absurd ((h b).mpr (.head _)) (by simp)
 |a::l,[],_,_,h=>absurd ((h a).mp (.head _)) (by simp)
 |a::l,b::m,h1,h2,h=>by
  obtain⟨p1,p2⟩:=List.pairwise_cons.mp h1
  obtain⟨q1,q2⟩:=List.pairwise_cons.mp h2
  have ab:a=b:=by
   rcases List.mem_cons.mp ((h a).mp (.head _)) with e|m1
   ·exact e
   ·rcases List.mem_cons.mp ((h b).mpr (.head _)) with e|m2
    ·exact e.symm
    ·have:=p1 b m2
     have:=q1 a m1
     omega
  subst ab
  congr 1
  refine Z6 p2 q2 λx=>⟨λhx=>?_,λhx=>?_⟩
  ·rcases List.mem_cons.mp ((h x).mp (.tail _ hx)) with e|z
   ·subst e;have:=p1 _ hx;omega
   ·exact z
  ·rcases List.mem_cons.mp ((h x).mpr (.tail _ hx)) with e|z
   ·subst e;have:=q1 _ hx;omega
   ·exact z
def sb(n:Nat):List Nat:=(List.range (Builtin.Int.intBits n)).filter n.testBit
def Z2(m n:Nat):((List.range m).filter n.testBit).Pairwise (·< ·):=List.pairwise_lt_range.sublist List.filter_sublist
def Z9(n:Nat):n<2 ^ Builtin.Int.intBits n:=by
 unfold Builtin.Int.intBits
 by_cases h:n=0
 ·subst h;simp
 ·have:((n:Int)== 0)=false:=by simp[h]
  rw[this]
  simp only[Bool.false_eq_true,if_false,Int.natAbs_natCast]
  exact Nat.lt_log2_self
def ZF{m n:Nat}(h:n<2 ^ m):(List.range m).filter n.testBit=sb n:=by
 refine Z6 (Z2 m n) (Z2 _ n) λx=>?_
 have lt:∀{j},n<2 ^ j->n.testBit x=true->x<j:=fun{j} hj hx=>by
  by_cases hl:x<j
  ·exact hl
  ·rw[Nat.testBit_lt_two_pow (Nat.lt_of_lt_of_le hj (Nat.pow_le_pow_right (by omega) (by omega)))] at hx
   cases hx
 unfold sb
 rw[List.mem_filter,List.mem_filter,List.mem_range,List.mem_range]
 exact⟨λz=>⟨lt (Z9 n) z.2,z.2⟩,λz=>⟨lt h z.2,z.2⟩⟩
def Za(n x:Nat):x∈sb n↔n.testBit x=true:=by
 unfold sb
 rw[List.mem_filter,List.mem_range]
 refine⟨λz=>z.2,λhx=>⟨?_,hx⟩⟩
 by_cases hl:x<Builtin.Int.intBits n
 ·exact hl
 ·rw[Nat.testBit_lt_two_pow (Nat.lt_of_lt_of_le (Z9 n) (Nat.pow_le_pow_right (by omega) (by omega)))] at hx
  cases hx
def Zh(n:Nat):cL (sb n)=n:=Nat.eq_of_testBit_eq λi=>by
 rw[Z5]
 by_cases h:n.testBit i=true
 ·rw[h];simp[Za,h]
 ·simp[Za,h]
def Zn(L:List Nat):Nat:=L.foldl (λb k=>b+2 ^ k) 0
theorem Zi:∀(L:List Nat) (b:Nat),L.Nodup->(∀k∈L,b.testBit k=false)->L.foldl (λb k=>b+2 ^ k) b=L.foldl (λb k=>b ||| 2 ^ k) b
 | [],b,_,_=>rfl
 |k::L,b,h,hb=>by
  obtain⟨h1,h2⟩:=List.nodup_cons.mp h
  rw[List.foldl_cons,List.foldl_cons,<-jc (hb k (.head _))]
  refine Zi L _ h2 λj hj=>?_
  rw[Nat.testBit_or,hb j (.tail _ hj),Nat.testBit_two_pow]
  have:¬k=j:=λe=>h1 (e▸hj)
  simp[this]
def Zz{L:List Nat}(h:L.Nodup):Zn L=cL L:=Zi L 0 h λk _=>by simp
def Ĩ(W k:Nat):PV:=.tup [.int ((k % W:Nat):Int),.int ((k / W:Nat):Int)]
def Zb{k:Nat}(h:k<=1000):lZ [.sh (.int (k:Int))]=.ret (.sh (.int ((2 ^ k:Nat):Int))):=by
 obtain⟨⟨b,s⟩,e1,e2⟩:=pC (g:=gN 2) (mb:=pZ) (items:=(List.range k).map λ(i:Nat)=>PV.int (i:Int)) (λb:Nat×Slot=>[.sh (.int (k:Int)),.sh (.int ((2 ^ b.1:Nat):Int)),b.2]) (λi b=>b.1=i) (b:=(0,.no)) rfl (by
  rintro i p ⟨b,s⟩ hp rfl
  refine⟨_,(b+1,.sh p),rfl,?_,rfl⟩
  simp[pZ,Nat.pow_succ]
  omega)
 have e3:b=k:=by simpa using e2
 subst e3
 simp at e1
 simp[lZ,uQ,List.replicate,Zm h,e1]
def ZA{W k:Nat}(hW:0<W)(hW2:W<=20):uh [.sh (Ĩ W k),.sh (.int (W:Int))]=.ret (.sh (.int (k:Int))):=by
 have hm:∀x:Int,Ň x (W:Int)=true:=λx=>mul_r (by omega) (by omega)
 have e:((k / W:Nat):Int)*(W:Int)+((k % W:Nat):Int)=(k:Int):=by
  have:=Nat.div_add_mod k W
  rw[Nat.mul_comm] at this
  exact_mod_cast this
 simp[uh,uO,Ĩ,List.replicate,hm]
 simpa using e
def Z7{W:Nat}(hW:0<W)(hW2:W<=20)(ks:List Nat)(hk:∀k∈ks,k<1000)(s:P.Slot)(hs:s=.bw (ks.map (Ĩ W))\/s=.sh (.lst (ks.map (Ĩ W)))):jk [s,.sh (.int (W:Int))]=.ret (.sh (.int ((cL ks:Nat):Int))):=by
 obtain⟨ρ',e1,s3,rfl⟩:=aM (g:=gN 3) (mb:=pY) (Ĩ W) (λ(b k:Nat)=>b ||| 2 ^ k) (λb ρ=>∃s3,ρ=[s,.sh (.int (W:Int)),.sh (.int (b:Int)),s3]) ks (by
  rintro k hk1 b ρ ⟨s3,rfl⟩
  have hsh:gM 1 (k:Int)=true:=by
   have:=hk k hk1
   unfold gM
   simp
   omega
  have e0:(1:Int)*2 ^ (k:Int).toNat=((2 ^ k:Nat):Int):=by simp
  refine⟨_,[s,.sh (.int (W:Int)),.sh (.int ((b ||| 2 ^ k:Nat):Int)),.sh (Ĩ W k)],rfl,?_,_,rfl⟩
  have e2:Builtin.bitOr (b:Int) (2 ^ k)=((b ||| 2 ^ k:Nat):Int):=by
   rw[show((2:Int) ^ k)=((2 ^ k:Nat):Int) from by simp]
   exact Zy b (2 ^ k)
  simp[pY,ZA hW hW2,hsh,e2]) 0 [s,.sh (.int (W:Int)),.sh (.int 0),.no] ⟨_,rfl⟩
 rcases hs with rfl|rfl<;>simp[jk,uP,List.replicate,e1,cL]
def Zo{W k:Nat}(hW:0<W)(hW2:W<=20):qb [.sh (.int (k:Int)),.sh (.int (W:Int))]=.ret (.sh (Ĩ W k)):=by
 have h0:(W:Int)≠0:=by omega
 have yj:¬W=0:=by omega
 have hf:ţ (k:Int) (W:Int)=true:=gW h0 (by omega) (by omega)
 have e1:(k:Int).fmod (W:Int)=((k % W:Nat):Int):=by rw[Int.fmod_eq_emod_of_nonneg _ (by omega)];simp
 have e2:(k:Int).fdiv (W:Int)=((k / W:Nat):Int):=by rw[Int.fdiv_eq_ediv_of_nonneg _ (by omega)];simp
 simp[qb,uT,List.replicate,yj,hf,e1,e2,Ĩ]
def Z3{n m:Nat}(h:n<2 ^ m):Builtin.Int.intBits n<=m:=by
 unfold Builtin.Int.intBits
 by_cases e:n=0
 ·subst e;simp
 ·have:((n:Int)== 0)=false:=by simp[e]
  rw[this]
  simp only[Bool.false_eq_true,if_false,Int.natAbs_natCast]
  exact(Nat.log2_lt e).mpr h
def Z0{W n B:Nat}(hW:0<W)(hW2:W<=20)(hB:B<=1000)(hn:n<2 ^ B):jl [.sh (.int (n:Int)),.sh (.int (W:Int))]=.ret (.ow ((sb n).map (Ĩ W))):=by
 have hb:=Nat.le_trans (Z3 hn) hB
 have hc:=ő (g:=gN 2) (mt:=aY (Ć bV (Ć jJ (Ā 1) (Ā 2)) (mC (.int 1)))) (me:=Ī (ĥ qb (ċ 2 (ċ 0 ħ)))) (λ(i:Nat)=>PV.int (i:Int)) (Ĩ W) n.testBit (λρ=>∃s,ρ=[.sh (.int (W:Int)),.sh (.int (n:Int)),s]) (List.range (Builtin.Int.intBits n)) [.sh (.int (W:Int)),.sh (.int (n:Int)),.no] [] ⟨_,rfl⟩ (by simp;omega) (by
  rintro k hk ρ ⟨s,rfl⟩
  have hs:gO (n:Int) (k:Int)=true:=by unfold gO;simp
  have e1:=Zc n k
  refine⟨_,[.sh (.int (W:Int)),.sh (.int (n:Int)),.sh (.int (k:Int))],rfl,?_,λ_=>⟨_,rfl⟩,λ_=>⟨[.sh (.int (W:Int)),.sh (.int (n:Int)),.sh (.int (k:Int))],?_,_,rfl⟩⟩
  ·by_cases q:n.testBit k=true
   ·rw[if_pos q] at e1
    simp[hs,bV,P.gb,Zt,e1,q]
   ·rw[if_neg q] at e1
    simp[hs,bV,P.gb,Zt,e1,q]
  ·simp[Zo hW hW2])
 have hr:=Zm hb
 simp[jl,uU,List.replicate,hr,hc,sb]
theorem Zu(W:Nat):∀L:List Nat,Ŷ (L.map (Ĩ W))=true/\fJ (L.map (Ĩ W))<=1
 | []=>⟨rfl,by simp[fJ]⟩
 |n::L=>by
  obtain⟨h1,h2⟩:=Zu W L
  refine⟨by simp[Ĩ,Ŷ,Į,h1],?_⟩
  simp[Ĩ,fJ,dep]
  omega
def ZG(W:Nat)(L:List Nat):Ÿ (.lst (L.map (Ĩ W))) (.lst (L.map (Ĩ W)))=some (.bl false):=by
 obtain⟨h1,h2⟩:=Zu W L
 refine lU (by rw[Į];exact h1) ?_
 rw[dep]
 omega
def Z8(W:Nat)(L:List Nat)(hL:L.length<=1000)(s:P.Slot)(hs:s=.bw (L.map (Ĩ W))\/s=.sh (.lst (L.map (Ĩ W)))):qe [s,.sh (.lst (L.map (Ĩ W)))]=.ret (.sh (.bl true)):=by
 obtain⟨ρ',e1,s2,s3,rfl⟩:=bZ (g:=gN 2) (mb:=qd) (items:=(List.range L.length).map λ(i:Nat)=>PV.int (i:Int)) (ρ:= [s,.sh (.lst (L.map (Ĩ W))),.no,.no]) (λi ρ=>∃s2 s3,ρ=[s,.sh (.lst (L.map (Ĩ W))),s2,s3]) ⟨_,_,rfl⟩ (by
  rintro i p ρ hp ⟨s2,s3,rfl⟩
  obtain⟨j,hj,rfl⟩:=List.mem_map.mp (List.mem_of_getElem? hp)
  have hjl:j<L.length:=by simpa using hj
  have hx:(L.map (Ĩ W))[j]?=some (Ĩ W L[j]):=by simp[hjl]
  refine⟨_,[s,.sh (.lst (L.map (Ĩ W))),.sh (.int (j:Int)),.sh (.int ((L[j] / W:Nat):Int))],rfl,?_,_,_,rfl⟩
  generalize L.map (Ĩ W)=R at *
  rcases hs with rfl|rfl<;>simp[qd,hx,aH,forL,uV,Ĩ,yc])
 have hr:=Zm hL
 have hlen:(L.map (Ĩ W)).length=L.length:=by simp
 generalize L.map (Ĩ W)=R at *
 rcases hs with rfl|rfl<;>simp[qe,uW,List.replicate,hlen,hr,e1,aH]
def Zj{W:Nat}(hW:0<W)(hW2:W<=20)(ns:List Int):∃n:Nat,n<2 ^ (20*W)/\um [.sh (.lst (ns.map .int)),.sh (.int (W:Int))]=.ret (.sh (.int (n:Int))):=by
 have hc:=fU ns none (some 60)
 generalize (ns.drop (HT.ľ ns.length 0 none)).take (HT.ľ ns.length ns.length (some 60)-HT.ľ ns.length 0 none)=d at hc
 have hsl:tu (.lst (ns.map .int)) none (some 60)=some (.ow (d.map .int)):=by rw[<-hc];rfl
 obtain⟨ρ',e1,a,s3,rfl⟩:=bZ (g:=gN 3) (mb:=kI) (items:=d.map PV.int) (ρ:= [.sh (.lst (ns.map .int)),.sh (.int (W:Int)),.sh (.int 0),.no]) (λi ρ=>∃a s3,ρ=[.sh (.lst (ns.map .int)),.sh (.int (W:Int)),.sh (.int a),s3]) ⟨_,_,rfl⟩ (by
  rintro i p ρ hp ⟨a,s3,rfl⟩
  obtain⟨c,_,rfl⟩:=List.mem_map.mp (List.mem_of_getElem? hp)
  by_cases h3:c % 3=0
  ·exact⟨_,[.sh (.lst (ns.map .int)),.sh (.int (W:Int)),.sh (.int (a*2+c / 3 % 2)),.sh (.int c)],rfl,by simp[kI,h3],_,_,rfl⟩
  ·exact⟨_,[.sh (.lst (ns.map .int)),.sh (.int (W:Int)),.sh (.int (a*8191+c / 3 % 1000000000000)),.sh (.int c)],rfl,by simp[kI,h3],_,_,rfl⟩)
 have hp:lZ [.sh (.int (20*(W:Int)))]=.ret (.sh (.int ((2 ^ (20*W):Nat):Int))):=by
  have:=Zb (k:=20*W) (by omega)
  rw[<-this]
  simp
 have hm:Ň 20 (W:Int)=true:=mul_r (by omega) (by omega)
 have hpos:0<2 ^ (20*W):=Nat.two_pow_pos _
 have hpi:(0:Int)<((2 ^ (20*W):Nat):Int):=by exact_mod_cast hpos
 refine⟨(a % ((2 ^ (20*W):Nat):Int)).toNat,?_,?_⟩
 ·have h1:=Int.emod_lt_of_pos a hpi
  have h2:=Int.emod_nonneg a (Int.ne_of_gt hpi)
  omega
 ·have h2:=Int.emod_nonneg a (Int.ne_of_gt hpi)
  have e2:((a % ((2 ^ (20*W):Nat):Int)).toNat:Int)=a.fmod ((2 ^ (20*W):Nat):Int):=by
   rw[Int.fmod_eq_emod_of_nonneg _ (by omega)]
   omega
  rw[e2]
  have hne:((2 ^ (20*W):Nat):Int)≠0:=by omega
  generalize ((2 ^ (20*W):Nat):Int)=P2 at *
  simp[um,uR,List.replicate,hsl,e1,hm,hp,hne,-fQ]
def Zk{W n B:Nat}(hW:0<W)(hW2:W<=20)(hB:B<=1000)(hn:n<2 ^ B):uo [.sh (.int (n:Int)),.sh (.int (W:Int))]=.ret (.ow ((sb n).map (Ĩ W))):=by
 have yj:¬W=0:=by omega
 have h0:(W:Int)≠0:=by omega
 have hf:∀k:Nat,ţ (k:Int) (W:Int)=true:=λk=>gW h0 (by omega) (by omega)
 have e1:∀k:Nat,(k:Int).fmod (W:Int)=((k % W:Nat):Int):=λk=>by rw[Int.fmod_eq_emod_of_nonneg _ (by omega)];simp
 have e2:∀k:Nat,(k:Int).fdiv (W:Int)=((k / W:Nat):Int):=λk=>by rw[Int.fdiv_eq_ediv_of_nonneg _ (by omega)];simp
 obtain⟨⟨k,s4⟩,h1,h2,h3⟩:=jf (mc:=(iU (Ć sZ (Ā 0) (mC (.int 0))))) (mb:=(Ğ (sE (gS 2 (ī (gN 0) (ī (gN 4) bM))) (iV Ũ (Ĉ (Ā 0) (Ĉ (mC (.int 2)) Ġ))))
  (Ğ (mz (iU (Ć ŷ (Ā 4) (mC (.int 1))))
  (oE 2 (cT (Ĉ (Ć Ħ (Ā 3) (Ā 1)) (Ĉ (Ć ŀ (Ā 3) (Ā 1)) Ġ))))
  oh)
  (ĸ 3 (ĵ Ķ (Ā 3) (mC (.int 1)))))))
  (fun b:Nat×P.Slot=>[.sh (.int ((n / 2 ^ b.1:Nat):Int)),.sh (.int (W:Int)),.ow (((List.range b.1).filter n.testBit).map (Ĩ W)),.sh (.int (b.1:Int)),b.2]) (fun b=>b.1≤B) (fun b=>B-b.1) (b:=(0,.no)) (by
    rintro ⟨k,s4⟩ hk
    dsimp only at hk ⊢
    by_cases hz:n / 2 ^ k=0
    ·left
     rw[hz]
     simp
    ·right
     have hp:(0:Int)<((n / 2 ^ k:Nat):Int):=by exact_mod_cast Nat.pos_of_ne_zero hz
     have hk2:k<B:=by
      refine Nat.lt_of_not_le λhle=>hz (Nat.div_eq_of_lt (Nat.lt_of_lt_of_le hn (Nat.pow_le_pow_right (by omega) hle)))
     have hd:((n / 2 ^ (k+1):Nat):Int)=((n / 2 ^ k:Nat):Int) / 2:=by
      rw[Nat.pow_succ,<-Nat.div_div_eq_div_mul]
      simp
     have hb:((n / 2 ^ k:Nat):Int) % 2=if n.testBit k then 1 else 0:=by
      have:=Zc n k
      rw[<-this]
      simp
     have hdv:jN ((n / 2 ^ k:Nat):Int) 2=true:=by simp[jN]
     have HX:(List.range (k+1)).filter n.testBit=(List.range k).filter n.testBit++if n.testBit k then[k] else[]:=by
      rw[List.range_succ,List.filter_append]
      congr 1
      by_cases q:n.testBit k=true<;>simp[q]
     have hlen:(((List.range k).filter n.testBit).map (Ĩ W)).length+1<=16777216:=by
      have:=List.length_filter_le n.testBit (List.range k)
      simp at this ⊢
      omega
     refine⟨by generalize ((n / 2 ^ k:Nat):Int)=q at hp;simp[hp],(k+1,.sh (.int (((n / 2 ^ k:Nat):Int) % 2))),?_,hk2,by omega⟩
     dsimp only
     rw[HX,hd]
     generalize ((n / 2 ^ k:Nat):Int)=q at *
     generalize (List.range k).filter n.testBit=R at *
     by_cases t:n.testBit k=true
     ·rw[if_pos t] at hb
      have hl2:R.length<16777216:=by simp at hlen;omega
      simp[Ũ,hdv,hb,t,yj,hf,e1,e2,Ĩ,hl2]
     ·rw[if_neg t] at hb
      simp[Ũ,hdv,hb,t]) (by simp)
 dsimp only at h1 h2 h3
 have hz:n / 2 ^ k=0:=by
  generalize n / 2 ^ k=q at *
  simp at h3
  omega
 have hlt:n<2 ^ k:=(Nat.div_eq_zero_iff_lt (Nat.two_pow_pos k)).mp hz
 have hs:=ZF hlt
 rw[hs] at h1
 have h1':qg [.sh (.int (n:Int)),.sh (.int (W:Int)),.ow [],.sh (.int 0),.no]=.ok .nx [.sh (.int ((n / 2 ^ k:Nat):Int)),.sh (.int (W:Int)),.ow ((sb n).map (Ĩ W)),.sh (.int (k:Int)),s4]:=by
  rw[<-h1]
  simp[qg]
 simp[uo,uX,List.replicate,h1']
def vf(W:Nat)(c:Int):Nat:=(c / W % 20).toNat*W+(c % W).toNat
def ZB{W:Nat}(hW:0<W)(c:Int):vf W c % W=(c % W).toNat/\vf W c / W=(c / W % 20).toNat:=by
 have h1:(c % (W:Int)).toNat<W:=by
  have:=Int.emod_lt_of_pos c (b:=(W:Int)) (by omega)
  have:=Int.emod_nonneg c (b:=(W:Int)) (by omega)
  omega
 unfold vf
 rw[Nat.mul_comm]
 refine⟨?_,?_⟩
 ·rw[Nat.mul_add_mod,Nat.mod_eq_of_lt h1]
 ·rw[Nat.mul_add_div hW,Nat.div_eq_of_lt h1,Nat.add_zero]
def ZC{W:Nat}(hW:0<W)(hW2:W<=20)(c:Int):vf W c<400:=by
 have h1:(c % (W:Int)).toNat<W:=by
  have:=Int.emod_lt_of_pos c (b:=(W:Int)) (by omega)
  have:=Int.emod_nonneg c (b:=(W:Int)) (by omega)
  omega
 have h2:(c / (W:Int) % 20).toNat<=19:=by omega
 unfold vf
 have:=Nat.mul_le_mul h2 hW2
 omega
def Z4{W:Nat}(hW:0<W)(hW2:W<=20)(ns:List Int):∃d:List Int,d.length<=60/\ug [.sh (.lst (ns.map .int)),.sh (.int (W:Int))]=.ret (.ow ((d.map (vf W)).map (Ĩ W))):=by
 have hc:=fU ns (some 1) (some 61)
 generalize hd:(ns.drop (HT.ľ ns.length 0 (some 1))).take (HT.ľ ns.length ns.length (some 61)-HT.ľ ns.length 0 (some 1))=d at hc
 have hdl:d.length<=60:=by
  have e1:HT.ľ ns.length 0 (some 1)=min 1 ns.length:=HT.dZ ..
  have e2:HT.ľ ns.length ns.length (some 61)=min 61 ns.length:=HT.dZ ..
  rw[<-hd,List.length_take,List.length_drop,e1,e2]
  omega
 have hsl:tu (.lst (ns.map .int)) (some 1) (some 61)=some (.ow (d.map .int)):=by rw[<-hc];rfl
 refine⟨d,hdl,?_⟩
 have yj:¬W=0:=by omega
 have h0:(W:Int)≠0:=by omega
 have hcm:=ũ (g:=gN 1) (mt:=cU) (me:=cT (Ĉ (Ć Ħ (Ā 1) (Ā 0)) (Ĉ (Ć Ħ (Ć ŀ (Ā 1) (Ā 0)) (mC (.int 20))) Ġ))) PV.int (λc=>Ĩ W (vf W c)) (λρ=>∃s,ρ=[.sh (.int (W:Int)),s]) d [.sh (.int (W:Int)),.no] [] ⟨_,rfl⟩ (by simp;omega) (by
  rintro c _ ρ ⟨s,rfl⟩
  obtain⟨k1,k2⟩:=ZB hW c
  have hf:ţ c (W:Int)=true:=gW h0 (by omega) (by omega)
  have e1:c.fmod (W:Int)=c % W:=Int.fmod_eq_emod_of_nonneg _ (by omega)
  have e2:c.fdiv (W:Int)=c / W:=Int.fdiv_eq_ediv_of_nonneg _ (by omega)
  have z1:((c % (W:Int)).toNat:Int)=c % W:=by have:=Int.emod_nonneg c h0;omega
  have z2:((c / (W:Int) % 20).toNat:Int)=c / W % 20:=by omega
  refine⟨_,_,[.sh (.int (W:Int)),.sh (.int c)],rfl,rfl,?_,_,rfl⟩
  unfold Ĩ
  rw[k1,k2,z1,z2]
  simp[yj,hf,e1,e2])
 simp[ug,uN,List.replicate,hsl,hcm,-fQ]
theorem Z1:∀(l σ:List Int),σ.Nodup->(l.foldl PyProof.Rows.step_dedup σ).Nodup/\∀x,x∈l.foldl PyProof.Rows.step_dedup σ↔x∈σ\/x∈l
 | [],σ,h=>⟨h,λx=>by simp⟩
 |k::l,σ,h=>by
  rw[List.foldl_cons]
  by_cases hk:k∈σ
  ·have e:PyProof.Rows.step_dedup σ k=σ:= by
    unfold PyProof.Rows.step_dedup
    rw[if_pos (by simpa using hk)]
   rw[e]
   obtain⟨h1,h2⟩:=Z1 l σ h
   refine⟨h1,λx=>?_⟩
   rw[h2,List.mem_cons]
   constructor
   ·rintro (z|z)
    ·exact .inl z
    ·exact .inr (.inr z)
   ·rintro (z|rfl|z)
    ·exact .inl z
    ·exact .inl hk
    ·exact .inr z
  ·have e:PyProof.Rows.step_dedup σ k=σ ++ [k]:=by
    unfold PyProof.Rows.step_dedup
    rw[if_neg (by simpa using hk)]
   rw[e]
   obtain⟨h1,h2⟩:=Z1 l (σ ++ [k]) (List.nodup_append.mpr ⟨h,by simp,λa ha b hb=>by rw[List.mem_singleton] at hb;subst hb;exact λz=>hk (z▸ha)⟩)
   refine⟨h1,λx=>?_⟩
   rw[h2,List.mem_append,List.mem_singleton,List.mem_cons,or_assoc]
def Zp(ks:List Nat):cB (pX (ks.map λ(k:Nat)=>(k:Int)))=(sb (cL ks)).map λ(k:Nat)=>(k:Int):=by
 obtain⟨h1,h2⟩:=Z1 (ks.map λ(k:Nat)=>(k:Int)) [] .nil
 have hp:=aO (pX (ks.map λ(k:Nat)=>(k:Int)))
 have hs:=Ť (pX (ks.map λ(k:Nat)=>(k:Int)))
 have hm:∀x,x∈cB (pX (ks.map λ(k:Nat)=>(k:Int)))↔∃k∈ks,(k:Int)=x:=λx=>by
  rw[hp.mem_iff]
  unfold pX
  rw[h2]
  simp
 have hnd:(cB (pX (ks.map λ(k:Nat)=>(k:Int)))).Nodup:=hp.nodup_iff.mpr h1
 generalize cB (pX (ks.map λ(k:Nat)=>(k:Int)))=L at *
 have e:L=(L.map Int.toNat).map λ(k:Nat)=>(k:Int):=by
  rw[List.map_map]
  conv=>lhs;rw[<-List.map_id L]
  refine List.map_congr_left λx hx=>?_
  obtain⟨k,_,rfl⟩:=(hm x).mp hx
  simp
 rw[e]
 congr 1
 refine Z6 ?_ (Z2 _ _) λx=>?_
 ·rw[List.pairwise_map]
  refine(hs.and hnd).imp_of_mem fun{a b} ha hb ⟨z1,z2⟩=>?_
  obtain⟨k,_,rfl⟩:=(hm a).mp ha
  obtain⟨j,_,rfl⟩:=(hm b).mp hb
  simp
  omega
 ·rw[Za,Z5,List.mem_map,decide_eq_true_eq]
  constructor
  ·rintro ⟨y,hy,rfl⟩
   obtain⟨k,hk,rfl⟩:=(hm y).mp hy
   simpa using hk
  ·intro hx
   exact⟨(x:Int),(hm _).mpr ⟨x,hx,rfl⟩,by simp⟩
def Zq(ns:List Int):∃(W:Nat) (s2:P.Slot),0<W/\W<=20/\bN (ĳ (Ī (yC (Ā 0) oX (mP (mC (.int 1)))))) (gN 2) qj [.sh (.lst (ns.map .int)),.sh (.int 1),.no,.no,.no,.no,.no,.no,.no,.no,.no]=.ok .nx [.sh (.lst (ns.map .int)),.sh (.int (W:Int)),s2,.no,.no,.no,.no,.no,.no,.no,.no]:=by
 have hc:=fU ns none (some 1)
 have hsl:tu (.lst (ns.map .int)) none (some 1)=some (.ow (((ns.drop (HT.ľ ns.length 0 none)).take (HT.ľ ns.length ns.length (some 1)-HT.ľ ns.length 0 none)).map .int)):=by rw[<-hc];rfl
 have e1:HT.ľ ns.length 0 none=0:=rfl
 have e2:HT.ľ ns.length ns.length (some 1)=min 1 ns.length:=HT.dZ ..
 rw[e1,e2] at hsl
 cases ns with
 |nil=>
  have yq:tu (.lst (([]:List Int).map .int)) none (some 1)=some (.ow []):=hsl
  refine⟨1,.no,by omega,by omega,?_⟩
  generalize ([]:List Int).map PV.int=L at *
  simp[yq,forL,-fQ]
 |cons c ns=>
  have yq:tu (.lst ((c::ns).map .int)) none (some 1)=some (.ow [.int c]):=by
   rw[hsl]
   have:min 1 (c::ns).length-0=1:=by simp
   rw[this]
   rfl
  refine⟨1+(c % 20).toNat,.sh (.int c),by omega,by omega,?_⟩
  have ew:((1+(c % 20).toNat:Nat):Int)=1+c % 20:=by omega
  rw[ew]
  generalize (c::ns).map PV.int=L at *
  simp[yq,forL,qj,-fQ]
def Zl(n B:Nat)(h:n<2 ^ B):(sb n).length<=B:=by
 unfold sb
 have:=List.length_filter_le n.testBit (List.range (Builtin.Int.intBits n))
 have:=Z3 h
 simp at *
 omega
def Zx{W:Nat}(hW:0<W)(hW2:W<=20)(ks:List Nat)(hk:ks.length<=60)(s0 s2 s4 s5:P.Slot)(ρ:Đ):DN (Ī (Ţ [1] 2 (Ļ 3) (gT 2 (ī (gN 1) (ī (gN 2) bM))) cU (Ī (ĵ Ķ (Ć Ĵ (Ā 2) (Ā 0)) (Ā 1))))) (s0:: .sh (.int (W:Int))::s2:: .ow (ks.map (Ĩ W))::s4::s5::ρ)=.ok (.ow ((sb (cL ks)).map λ(k:Nat)=>PV.int (k:Int))) (s0:: .sh (.int (W:Int))::s2:: .sh (.lst (ks.map (Ĩ W)))::s4::s5::ρ):=by
 have hm:∀x:Int,Ň x (W:Int)=true:=λx=>mul_r (by omega) (by omega)
 have hc:=ũ (g:=gT 2 (ī (gN 1) (ī (gN 2) bM))) (mt:=cU) (me:=Ī (ĵ Ķ (Ć Ĵ (Ā 2) (Ā 0)) (Ā 1))) (Ĩ W) (λ(k:Nat)=>PV.int (k:Int)) (λρ=>∃s t,ρ=[.sh (.int (W:Int)),s,t]) ks [.sh (.int (W:Int)),.no,.no] [] ⟨_,_,rfl⟩ (by simp;omega) (by
  rintro k _ ρ ⟨s,t,rfl⟩
  have e:((k / W:Nat):Int)*(W:Int)+((k % W:Nat):Int)=(k:Int):=by
   have:=Nat.div_add_mod k W
   rw[Nat.mul_comm] at this
   exact_mod_cast this
  refine⟨[.sh (.int (W:Int)),.sh (.int ((k % W:Nat):Int)),.sh (.int ((k / W:Nat):Int))],_,[.sh (.int (W:Int)),.sh (.int ((k % W:Nat):Int)),.sh (.int ((k / W:Nat):Int))],rfl,rfl,?_,_,_,rfl⟩
  generalize ((k / W:Nat):Int)=x at *
  generalize ((k % W:Nat):Int)=y at *
  simp[hm,e])
 have hi:intsOf (ks.map λ(k:Nat)=>PV.int (k:Int))=some (ks.map λ(k:Nat)=>(k:Int)):=by
  have:=b_ (ks.map λ(k:Nat)=>(k:Int))
  rw[List.map_map] at this
  exact this
 have hkn:=Zp ks
 have hl:(ks.map λ(k:Nat)=>(k:Int)).length<64:=by simp;omega
 generalize ks.map (Ĩ W)=R at *
 generalize (ks.map λ(k:Nat)=>PV.int (k:Int))=I at *
 generalize (ks.map λ(k:Nat)=>(k:Int))=J at *
 simp[hc,hi,hl,hkn,List.replicate]
def ZD{l:PySem.W.OpenLaw}{w:World}{K:PySem.W.Frag}{mg:Str->Option Value}{fa:Addr}{a:Bp}(T:Tx K mg a)(hfa:mg "law" =some (.ref fa)):∃fd:FuncData,(∀(s:Shared) (v:Value),BindsTo s fd ⟨[v],[]⟩ [("_law_script",v)])/\∀base:Heap,K.In base->base.Ns mainGlobals mg->∃cm,į l.prog w K mg base jx 3 fa fd ["_law_script"] (dI ⟨K,cm⟩ 1 mj):=by
 have e:=hfa.symm.trans T.ql.m
 cases e
 exact⟨a.yh,λs v=>T.ql.bb s [v] rfl,λbase _ _=>⟨_,Cv T⟩⟩
def ZE(L:List Nat)(hL:∀k∈L,k<1000)(s0 s1 s2 s3 s4 s6:P.Slot)(ρ:Đ):∃s7,forL (gN 7) iy (L.map λ(k:Nat)=>PV.int (k:Int)) (s0::s1::s2::s3::s4:: .sh (.int 0)::s6:: .no::ρ)=.ok .nx (s0::s1::s2::s3::s4:: .sh (.int ((Zn L:Nat):Int))::s6::s7::ρ):=by
 obtain⟨ρ',e1,s7,rfl⟩:=aM (g:=gN 7) (mb:=iy) (λ(k:Nat)=>PV.int (k:Int)) (λ(b k:Nat)=>b+2 ^ k) (λb r=>∃s7,r=(s0::s1::s2::s3::s4:: .sh (.int (b:Int))::s6::s7::ρ)) L (by
  rintro k hk b r ⟨s7,rfl⟩
  have hp:=Zb (k:=k) (by have:=hL k hk;omega)
  refine⟨_,(s0::s1::s2::s3::s4:: .sh (.int ((b+2 ^ k:Nat):Int))::s6:: .sh (.int (k:Int))::ρ),rfl,?_,_,rfl⟩
  have e:((b+2 ^ k:Nat):Int)=(b:Int)+((2 ^ k:Nat):Int):=by simp
  rw[e]
  generalize ((2 ^ k:Nat):Int)=q at *
  simp[iy,hp]) 0 (s0::s1::s2::s3::s4:: .sh (.int 0)::s6:: .no::ρ) ⟨_,rfl⟩
 exact⟨s7,e1⟩
def Zr{W:Nat}(hW:0<W)(hW2:W<=20)(L:List Nat)(hL:L.length<=1000)(s0 s2 s3 s4 s5:P.Slot)(ρ:Đ):Ţ [1] 1 (Ļ 6) (gN 1) cU (cT (Ĉ (Ć Ħ (Ā 1) (Ā 0)) (Ĉ (Ć ŀ (Ā 1) (Ā 0)) Ġ))) (s0:: .sh (.int (W:Int))::s2::s3::s4::s5:: .sh (.lst (L.map λ(k:Nat)=>PV.int (k:Int)))::ρ)=.ok (.ow (L.map (Ĩ W))) (s0:: .sh (.int (W:Int))::s2::s3::s4::s5:: .sh (.lst (L.map λ(k:Nat)=>PV.int (k:Int)))::ρ):=by
 have yj:¬W=0:=by omega
 have h0:(W:Int)≠0:=by omega
 have hf:∀k:Nat,ţ (k:Int) (W:Int)=true:=λk=>gW h0 (by omega) (by omega)
 have e1:∀k:Nat,(k:Int).fmod (W:Int)=((k % W:Nat):Int):=λk=>by rw[Int.fmod_eq_emod_of_nonneg _ (by omega)];simp
 have e2:∀k:Nat,(k:Int).fdiv (W:Int)=((k / W:Nat):Int):=λk=>by rw[Int.fdiv_eq_ediv_of_nonneg _ (by omega)];simp
 have hc:=ũ (g:=gN 1) (mt:=cU) (me:=cT (Ĉ (Ć Ħ (Ā 1) (Ā 0)) (Ĉ (Ć ŀ (Ā 1) (Ā 0)) Ġ))) (λ(k:Nat)=>PV.int (k:Int)) (Ĩ W) (λρ=>∃s,ρ=[.sh (.int (W:Int)),s]) L [.sh (.int (W:Int)),.no] [] ⟨_,rfl⟩ (by simp;omega) (by
  rintro k _ ρ ⟨s,rfl⟩
  refine⟨_,_,[.sh (.int (W:Int)),.sh (.int (k:Int))],rfl,rfl,?_,_,rfl⟩
  simp[yj,hf,e1,e2,Ĩ])
 generalize (L.map λ(k:Nat)=>PV.int (k:Int))=I at *
 simp[hc,List.replicate]
def Zs(ns:List Int)(hn:ns.length<=63):mj [.sh (.lst (ns.map .int))]=.ret (.sh (.bl true)):=by
 obtain⟨W,s2,hW,hW2,h1⟩:=Zq ns
 obtain⟨d,hd,h2⟩:=Z4 hW hW2 ns
 generalize hks:d.map (vf W)=ks at h2
 have hkl:ks.length<=60:=by rw[<-hks];simpa using hd
 have hkb:∀k∈ks,k<400:=by
  intro k hk
  rw[<-hks] at hk
  obtain⟨c,_,rfl⟩:=List.mem_map.mp hk
  exact ZC hW hW2 c
 obtain⟨B,hB,DP⟩:∃B:Nat,B=400/\B<=1000:=⟨400,rfl,by omega⟩
 have hN:cL ks<2 ^ B:=Zd λk hk=>by
  rw[Z5]
  simp
  intro hm
  have:=hkb k hm
  omega
 obtain⟨n,hnn,h9⟩:=Zj hW hW2 ns
 have DQ:n<2 ^ B:=Nat.lt_of_lt_of_le hnn (Nat.pow_le_pow_right (by omega) (by omega))
 have hsl:=Zl _ B hN
 have hsn:=Zl _ B DQ
 have hsb:∀(m:Nat),m<2 ^ B->∀k∈sb m,k<1000:=λm hm k hk=>by
  have:=Z3 hm
  unfold sb at hk
  have:=(List.mem_filter.mp hk).1
  simp at this
  omega
 have h3:=Zx hW hW2 ks hkl (.sh (.lst (ns.map .int))) s2 (.ow (ks.map (Ĩ W))) (.sh (.int 0)) [.no,.no,.no,.no,.no]
 obtain⟨s7,h4⟩:=ZE (sb (cL ks)) (hsb _ hN) (.sh (.lst (ns.map .int))) (.sh (.int (W:Int))) s2 (.sh (.lst (ks.map (Ĩ W)))) (.ow (ks.map (Ĩ W))) (.sh (.lst ((sb (cL ks)).map λ(k:Nat)=>PV.int (k:Int)))) [.no,.no,.no]
 have hsum:Zn (sb (cL ks))=cL ks:=(Zz (L:=sb (cL ks)) ((Z2 _ _).imp Nat.ne_of_lt)).trans (Zh _)
 rw[hsum] at h4
 have h5:=Z7 hW hW2 ks (λk hk=>by have:=hkb k hk;omega) (.bw (ks.map (Ĩ W))) (.inl rfl)
 have h6:=ZG W ks
 have h7:=Z0 hW hW2 DP hN
 have h8:=Zr hW hW2 (sb (cL ks)) (by omega) (.sh (.lst (ns.map .int))) s2 (.sh (.lst (ks.map (Ĩ W)))) (.ow (ks.map (Ĩ W))) (.sh (.int ((cL ks:Nat):Int))) [s7,.sh (.int ((cL ks:Nat):Int)),.no,.no]
 have h10:=Z8 W (sb (cL ks)) (by omega) (.sh (.lst ((sb (cL ks)).map (Ĩ W)))) (.inr rfl)
 have h11:=Z0 hW hW2 DP DQ
 have h12:=Z8 W (sb n) (by omega) (.bw ((sb n).map (Ĩ W))) (.inl rfl)
 have h13:=Zk hW hW2 DP DQ
 have h14:=Z7 hW hW2 (sb n) (hsb n DQ) (.bw ((sb n).map (Ĩ W))) (.inl rfl)
 rw[Zh] at h14
 have h15:jl [.sh (.int 0),.sh (.int (W:Int))]=.ret (.ow []):=Z0 (n:=0) hW hW2 DP (Nat.two_pow_pos _)
 have Kl:jk [.sh (.lst []),.sh (.int (W:Int))]=.ret (.sh (.int 0)):=Z7 hW hW2 [] (λk hk=>by cases hk) (.sh (.lst [])) (.inr rfl)
 have Km:ŷ (.lst []) (.lst [])=some (.bl true):=lR rfl (by decide)
 have ek:(ks.map (Ĩ W)).length<=16777216:=by simp;omega
 generalize ks.map (Ĩ W)=R at *
 generalize (sb (cL ks)).map (Ĩ W)=R1 at *
 generalize (sb n).map (Ĩ W)=R2 at *
 generalize ((sb (cL ks)).map λ(k:Nat)=>PV.int (k:Int))=I at *
 generalize ((cL ks:Nat):Int)=N at *
 generalize ns.map PV.int=S at *
 have h4':bN (Ļ 6) (gN 7) iy [.sh (.lst S),.sh (.int (W:Int)),s2,.sh (.lst R),.ow R,.sh (.int 0),.ow I,.no,.no,.no,.no]=.ok .nx [.sh (.lst S),.sh (.int (W:Int)),s2,.sh (.lst R),.ow R,.sh (.int N),.sh (.lst I),s7,.no,.no,.no]:=by simp[h4]
 clear h4
 simp[mj,uY,List.replicate,h1,h2,h3,h4',h5,h6,h7,h8,h9,h10,h11,h12,h13,h14,h15,Kl,Km,aH,-xV,-Bb,-tK]
def ZH{l:PySem.W.OpenLaw}{q:Program}{loose:List Str}{XP:(Str->Option Value)->Heap->Prop}{YP:World->Heap->Prop}{d:DefRec}{K:Params->PySem.W.Frag}(hn:l.most=some 63)(hdf:d.params.defaults=[])
 (hY:∀(w:World) (h:Heap),YP w h->(K w.params).In h)
 (F:∀(w:World) (mg:Str→Option Value) (fa:Addr) (h:Heap),(K w.params).In h→h.Ns mainGlobals mg→mg d.name=some (.ref fa)→
   ∃fd:FuncData,(∀(s:Shared) (u:Value),BindsTo s fd ⟨[u],[]⟩ [("_law_script",u)])/\∀base:Heap,(K w.params).In base->base.Ns mainGlobals mg->∃cm,į l.prog w (K w.params) mg base jx 3 fa fd ["_law_script"] (dI ⟨K w.params,cm⟩ 1 mj)) :
 PySem.W.WalkO q loose XP YP l.row.toRowW d [] (λf vs=>PySem.call f vs):=
 P.oZ (k:=3) (x:= "_law_script") (CX:=jx) (m:=mj) hn hdf ⟨rfl,by decide,by decide⟩ hY F Zs (λ_ _ _ _ z=>z)
end
end T
namespace PySem.W.Fast
def tw15965943979622441236:=0
def tw15175629909933133758:=0
def tw5086111616295199641:=0
def tw17908130386057958229:=0
def tw11054249588426772663:=0
def tw5082614705051996336:=0
def tw16682997241143790951:=0
def tw9966016674778195605:=0
def tw2122481000284340431:=0
def tw15274238399949518368:=0
def tw14649714854663934096:=0
def tw15817183613221998795:=0
def tw4835846097573908184:=0
def tw5834932837835978146:=0
def tw10578230518207377288:=0
def tw9369580189918001312:=0
def tw17113291846659818549:=0
def tw10645671854871664233:=0
def tw17026777964385024677:=0
def tw10116855615654061312:=0
def tw7693034612068817690:=0
def tw18377488109861937409:=0
def tw1693013376053929485:=0
def tw3823749708457543905:=0
def tw17206562316051633167:=0
def tw15170040100785875836:=0
def tw5117855367870074438:=0
def tw15459160472461097807:=0
def tw1018356929856185632:=0
def tw14422742498962032040:=0
def tw3327071289938061513:=0
def tw11045041771991104338:=0
def tw15062459166449368017:=0
def tw1582148075633709855:=0
def tw2504615072297413611:=0
def tw1301651777503252430:=0
def tw13097582184187015823:=0
def tw2565365675476210113:=0
def tw15531230090713826322:=0
def tw17849229462958571355:=0
def tw9219477261075410923:=0
def tw11804707438826214592:=0
def tw17740540369596864911:=0
def tw11823391732101790668:=0
def tw9323632961203978047:=0
def tw5634176763790427456:=0
def tw6336606465694912906:=0
def tw5162355512143485716:=0
def tw3494343462561264414:=0
def tw6431655138841062962:=0
def tw11758001343727971012:=0
def tw10098914839179611789:=0
def tw13959760054098817482:=0
def tw4586376580211401591:=0
def tw4616223544549877340:=0
def tw11703173737006981372:=0
def tw1522274616423889687:=0
def tw17867556952971800602:=0
def tw5549084981574295864:=0
def tw987617113896091302:=0
def tw16836336831533533821:=0
def tw13250774327549392980:=0
def tw4169851986866960504:=0
def tw18190733378718633487:=0
def tw11442419177353863759:=0
def tw3716784281562807700:=0
def tw15861772749238933672:=0
def tw10964962227770992356:=0
end PySem.W.Fast
open PySem PySem.W PyProof.Rows
set_option maxRecDepth 100000 in
set_option maxHeartbeats 0 in
theorem PySem.Challenge.cw_shadowpost_k12_sets_of_stones_holds : PySem.Challenge.rw_shadowpost_k12_sets_of_stones.Holds := by
 w_on;o_law;k_head;(case hw=>w_witness2)
 k_fill
 refine T.ZH (l:=PySem.Challenge.rw_shadowpost_k12_sets_of_stones) rfl rfl (λw h Y=>by first|exact PySem.W.kIn_of Y|exact PySem.W.km_in_of Y) ?F
 case F=>
  intro w mg fa h KX G hmg
  refine' T.ZD (a:=T.Bp.mk) (T.Tx.mk (P.ů KX G (λ_ _ _ _ _ _ _ _=>rfl) ?_ ?_ ?_ ?_) (P.ů KX G (λ_ _ _ _ _ _ _ _=>rfl) ?_ ?_ ?_ ?_) (P.ů KX G (λ_ _ _ _ _ _ _ _=>rfl) ?_ ?_ ?_ ?_) (P.ů KX G (λ_ _ _ _ _ _ _=>rfl) ?_ ?_ ?_ ?_) (P.ů KX G (λ_ _ _ _ _ _ _ _=>rfl) ?_ ?_ ?_ ?_) (P.ů KX G (λ_ _ _ _ _ _ _ _=>rfl) ?_ ?_ ?_ ?_) (P.ů KX G (λ_ _ _ _ _ _ _ _=>rfl) ?_ ?_ ?_ ?_) (P.ů KX G (λ_ _ _ _ _ _ _ _=>rfl) ?_ ?_ ?_ ?_) (P.ů KX G (λ_ _ _ _ _ _ _ _=>rfl) ?_ ?_ ?_ ?_) (P.ů KX G (λ_ _ _ _ _ _ _=>rfl) ?_ ?_ ?_ ?_) (mg_none_of KX G ?_) (mg_none_of KX G ?_) (mg_none_of KX G ?_) (mg_none_of KX G ?_) (mg_none_of KX G ?_) (mg_none_of KX G ?_) (mg_none_of KX G ?_) (mg_none_of KX G ?_) (mg_none_of KX G ?_) (mg_none_of KX G ?_)) hmg
  any_goals (dsimp only;k_is)
  any_goals first|kernel_rfl|(unfold L2.HY;kernel_rfl)
  all_goals skip
