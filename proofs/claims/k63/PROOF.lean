import PyProof.Rows.All
import Wide.All
import OpenK.AllK
import Wide.FinOn
import Lean
import PyProof.EqAt
import PyProof.EqKinds
import PyProof.TupleCall
import PySem.Challenge.RW_shadowpost_k63_walks_refused
set_option Elab.async false
set_option linter.all false
set_option maxRecDepth 100000
set_option maxHeartbeats 4000000
namespace L2
open PySem PySem.Spec PyProof.Rows
abbrev Key:=Sum Int Str
def Oo:Key->Value->Bool
 | .inl k,v=>Value.isInt k v
 | .inr x,v=>Value.isStrOf x v
def ZdC(w:World):Key->Int
 | .inl k=>hashInt k
 | .inr x=>hashStr w x
theorem ŀ:∀{k:Key} {v:Value},Oo k v=true->(∃i t,k=Sum.inl i/\v=Value.int i t)\/(∃x t,k=Sum.inr x/\v=Value.str x t)
 | .inl i,v,h=>by
   obtain⟨t,e⟩:=Value.isInt_shape (k:=i) (v:=v) h
   exact .inl ⟨i,t,rfl,e⟩
 | .inr x,v,h=>by
   obtain⟨t,e⟩:=Value.isStrOf_shape (x:=x) (v:=v) h
   exact .inr ⟨x,t,rfl,e⟩
def VB(a b:Int):decide ((Sum.inl a:Key)=Sum.inl b)=(a== b):=by
 by_cases e:a=b
 ·subst e;simp
 ·have h:¬(Sum.inl a:Key)=Sum.inl b:=λq=>e (Sum.inl.inj q)
  rw[decide_eq_false h]
  exact(beq_eq_false_iff_ne.mpr e).symm
def VD(a b:Str):decide ((Sum.inr a:Key)=Sum.inr b)=decide (a=b):=by
 by_cases e:a=b
 ·subst e;simp
 ·have h:¬(Sum.inr a:Key)=Sum.inr b:=λq=>e (Sum.inr.inj q)
  rw[decide_eq_false h,decide_eq_false e]
def VF(a:Int)(b:Str):decide ((Sum.inl a:Key)=Sum.inr b)=false:=decide_eq_false (λq=>nomatch q)
def VG(a:Str)(b:Int):decide ((Sum.inr a:Key)=Sum.inl b)=false:=decide_eq_false (λq=>nomatch q)
def tE(prog:Program)(w:World):PySem.KeyKind prog w Key where
 is:=Oo
 hash:=ZdC w
 inj:=λv a b ha hb=>by
  rcases ŀ ha with⟨i,t,rfl,rfl⟩|⟨x,t,rfl,rfl⟩
  ·rcases ŀ hb with⟨j,u,rfl,e⟩|⟨y,u,rfl,e⟩
   ·injection e with e1 _;rw[e1]
   ·exact nomatch e
  ·rcases ŀ hb with⟨j,u,rfl,e⟩|⟨y,u,rfl,e⟩
   ·exact nomatch e
   ·injection e with e1 _;rw[e1]
 byValue:=λk v h=>by
  rcases ŀ h with⟨i,t,rfl,rfl⟩|⟨x,t,rfl,rfl⟩<;>rfl
 pyHash:=λhv h=>by
  rcases ŀ hv with⟨i,t,rfl,rfl⟩|⟨x,t,rfl,rfl⟩
  ·exact wpAny_pyHash_int h
  ·exact wpAny_pyHash_str h
 eqBool:=λhu hv h=>by
  rcases ŀ hu with⟨i,t,rfl,rfl⟩|⟨x,t,rfl,rfl⟩
  ·rcases ŀ hv with⟨j,u,rfl,rfl⟩|⟨y,u,rfl,rfl⟩
   ·rw[VB] at h;exact wpAny_eqBool_int h
   ·rw[VF] at h;exact SeqAt.EqAt.int_str i t y u _ _ _ _ h
  ·rcases ŀ hv with⟨j,u,rfl,rfl⟩|⟨y,u,rfl,rfl⟩
   ·rw[VG] at h;exact SeqAt.EqAt.str_int x t j u _ _ _ _ h
   ·rw[VD] at h;exact wpAny_eqBool_str h
 «strs» := fun k x t v h=>by
   rcases ŀ h with⟨i,u,rfl,e⟩|⟨y,u,rfl,e⟩
   ·exact nomatch e
   ·injection e with e1 _
    subst e1
    cases v<;>rfl
end L2
namespace L2
open PySem PySem.Spec PyProof.Rows
inductive V where
 |non|bl (b:Bool)|int (i:Int)|str (x:Str)|Km (b:Array UInt8)|flt (b:UInt64)|ref (a:Addr)|ty (n:String)
 deriving DecidableEq
def RelV:V->Value->Prop
 | .non,u=>u=Value.none
 | .bl b,u=>u=Value.bool b
 | .int i,u=>∃t,u=Value.int i t
 | .str x,u=>∃t,u=Value.str x t
 | .Km b,u=>∃t,u=Value.bytes b t
 | .flt b,u=>∃t,u=Value.float b t
 | .ref a,u=>u=Value.ref a
 | .ty n,u=>u=Value.type n
abbrev Vals:List V->List Value->Prop:=Paired RelV
theorem Vals.length{xs:List V}{us:List Value}(r:Vals xs us):xs.length=us.length:=Paired.length r
theorem Vals.get:∀{xs:List V} {us:List Value} {i:Nat} {x:V},Vals xs us->xs[i]?=some x->∃u,us[i]?=some u/\RelV x u
 |_,_,_,_,.nil,e=>by simp at e
 |_,_,0,_,.cons r _,e=>by simp at e;subst e;exact⟨_,rfl,r⟩
 |_,_,i+1,x,.cons _ t,e=>by
  obtain⟨u,h1,h2⟩:=Vals.get (i:=i) (x:=x) t (by simpa using e)
  exact⟨u,by simpa using h1,h2⟩
theorem Vals.append:∀{xs ys:List V} {us ws:List Value},Vals xs us->Vals ys ws->Vals (xs++ys) (us++ws)
 |_,_,_,_,.nil,s=>s
 |_,_,_,_,.cons r t,s=>.cons r (Vals.append t s)
theorem Vals.take:∀{xs:List V} {us:List Value} (n:Nat),Vals xs us->Vals (xs.take n) (us.take n)
 |_,_,0,_=>.nil
 |_,_,_+1,.nil=>.nil
 |_,_,n+1,.cons r t=>.cons r (Vals.take n t)
theorem Vals.drop:∀{xs:List V} {us:List Value} (n:Nat),Vals xs us->Vals (xs.drop n) (us.drop n)
 |_,_,0,r=>r
 |_,_,_+1,.nil=>.nil
 |_,_,n+1,.cons _ t=>Vals.drop n t
def jz:Option V->Option Value->Prop
 |some v,some u=>RelV v u
 |none,none=>True
 |_,_=>False
def KV{κ:Type}:List (κ×V)->List (κ×Value)->Prop:=Paired λ(p:κ×V) (q:κ×Value)=>p.1=q.1/\RelV p.2 q.2
def kV:Key->V
 | .inl i=>.int i
 | .inr x=>.str x
inductive HO where
 /-- a list -/
 |lst (xs:List V)
 /-- a tuple (never changes) -/
 |tup (xs:List V)
 /-- a dict whose keys are ints and texts;one whose keys are tuples of ints and texts (the empty one is both) -/
 |dK (kvs:List (Key×V))|dT (kvs:List (List Key×V))
 /-- a set of ints:its members,its size -/
 |set (S:Int->Bool) (n:Nat)
 /-- an instance of the class at C,its dict at dx,its attributes -/
 |ins (C dx:Addr) (fs:List (Str×V))
 /-- the dict of the instance at x -/
 |own (x:Addr)
 /-- the dict of an exception -/
 |xd (fs:List (Str×V))
 /-- a bound method,f of x -/
 |met (f x:Addr)
 /-- a range object lo,lo+1,.. below hi -/
 |rng (lo hi:Int)
 /-- a thing that is known to the object (the script;a dict while a loop walks it):read,never written while it is so -/
 |bY (o:Obj) (u:HO)
 /-- a code object's table -/
 |fL (q:Str)
 /-- a code made of such a table,by its name -/
 |Aw (q:Str)
 /-- any other thing,by what is true of its one object (a def of one's own:Zfz a S n:=HO.ext λh=>..) -/
 |ext (φ:Heap->Prop)
abbrev Hp:=Addr->Option HO
def upd(H:Hp)(a:Addr)(o:HO):Hp:=λb=>if b=a then some o else H b
def Ğ{H:Hp}{a:Addr}{o:HO}:upd H a o a=some o:=by unfold upd;rw[if_pos rfl]
def ċ{H:Hp}{a b:Addr}{o:HO}(h:b≠a):upd H a o b=H b:=by unfold upd;rw[if_neg h]
def ē{H:Hp}{a b:Addr}{o:HO}(h:H a=some o)(h':H b=none):a≠b:=by
 intro e;subst e;rw[h] at h';cases h'
section
variable(P:Program)(w:World)
def Ł(H:Hp)(h:Heap)(a:Addr):HO->Prop
 | .lst xs=>xs.length<=sizeLine/\∃(its:List Value) (n:Nat),Vals xs its/\h.get? a=some {cls:=.type "list",data:=.seq its.toArray n}
 | .tup xs=>xs.length<=sizeLine/\∃its:List Value,Vals xs its/\IsTup h a its.toArray
 | .dK kvs=>kvs.length<=sizeLine/\(a== sysModules)=false/\∃vs,KV kvs vs/\h.DictOf (tE P w) a vs
 | .dT kvs=>kvs.length≤sizeLine∧(a== sysModules)=false∧∃xs:List (List Key×Addr×Value),
     Paired (λ(p:List Key×V) (q:List Key×Addr×Value)=>p.1=q.1/\H q.2.1=some (.tup (p.1.map kV))/\RelV p.2 q.2.2) kvs xs/\
     ∃o es ep,h.get? a=some o/\o.ExactDict/\o.data=.dict es ep/\es.toList=xs.map (entryOfKey (tupleKind (tE P w)))/\(xs.map (·.1)).Nodup
 | .set S n=>h.SetOf (intKind P w) a S n
 | .ins C dx fs=>H dx=some (.own a)∧fs.length≤1000∧dx≠a∧h.get? a=some (PySem.W.instObj C dx)∧
     ∃mA,h.Ns1 dx mA/\(∀f,jz (fs.lookup f) (mA f))/\PySem.Within mA (fs.map (·.1))
 | .own _=>∃o,h.get? a=some o
 | .xd fs=>∃mA,h.Ns1 a mA/\∀f,jz (fs.lookup f) (mA f)
 | .rng lo hi=>∃t u v,h.get? a=some {cls:=.type "range",data:=.fields #[.int lo t,.int hi u,.int 1 v]}
 | .bY o u=>h.get? a=some o/\Ł H h a u
 | .fL q=>∃ps:Array Value,h.get? a=some {cls:=.none,data:=.fields ps}/\TriplesOk ps.toList/\∀pos cv,codeAmong pos ps.toList=some cv->∃c,cv=.ref c/\H c=some (.Aw q)
 | .Aw q=>h.CodeRec (.ref a) q
 | .met f x=>h.get? a=some (PySem.W.methodObj (.ref f) (.ref x))
 | .ext φ=>φ h/\(∃o,h.get? a=some o)/\∀h1 h2:Heap,φ h1->(∀o,h1.get? a=some o->h2.get? a=some o)->φ h2
def cL(H:Hp)(h:Heap):Prop:=∀a o,H a=some o->Ł P w H h a o
end
section
variable{P:Program}{w:World}{H H':Hp}{h h':Heap}{a:Addr}{o:HO}
theorem Ł.lt(x:Ł P w H h a o):a<h.objs.size:=by
 cases o with
 |lst xs=>obtain⟨_,_,_,_,e⟩:=x;exact Heap.lt_size e
 |tup xs=>obtain⟨_,_,_,p⟩:=x;exact p.lt
 |dK kvs=>obtain⟨_,_,_,_,o,_,_,e,_⟩:=x;exact Heap.lt_size e
 |dT kvs=>obtain⟨_,_,_,_,o,_,_,e,_⟩:=x;exact Heap.lt_size e
 |set S n=>obtain⟨o,_,_,_,e,_⟩:=x;exact Heap.lt_size e
 |ins C dx fs=>obtain⟨_,_,_,e,_⟩:=x;exact Heap.lt_size e
 |own y=>obtain⟨_,e⟩:=x;exact Heap.lt_size e
 |xd fs=>obtain⟨_,⟨_,_,_,e,_⟩,_⟩:=x;exact Heap.lt_size e
 |rng lo hi=>obtain⟨_,_,_,e⟩:=x;exact Heap.lt_size e
 |bY ob u=>obtain⟨e,_⟩:=x;exact Heap.lt_size e
 |fL q=>obtain⟨_,e,_⟩:=x;exact Heap.lt_size e
 |Aw q=>obtain⟨c,o,_,_,z,e,_⟩:=x;cases z;exact Heap.lt_size e
 |met f y=>exact Heap.lt_size (show h.get? a=some _ from x)
 |ext φ=>obtain⟨_,⟨_,e⟩,_⟩:=x;exact Heap.lt_size e
theorem Paired.Za_{α β:Type}{F G:α->β->Prop}:∀{l₁:List α} {l₂:List β},Paired F l₁ l₂->(∀a b,F a b->G a b)->Paired G l₁ l₂
 |_,_,.nil,_=>.nil
 |_,_,.cons r t,f=>.cons (f _ _ r) (Paired.Za_ t f)
def Ł.stay(x:Ł P w H h a o)(k:∀b u,(b=a\/H b=some (.own a))->h.get? b=some u->h'.get? b=some u)
 (ho:∀b,H b=some (.own a)->H' b=some (.own a))(ht:∀b xs,H b=some (.tup xs)->H' b=some (.tup xs))(hc:∀b q,H b=some (.Aw q)->H' b=some (.Aw q):=by exact λ_ _ z=>z):Ł P w H' h' a o:=by
 induction o with
 |lst xs=>obtain⟨z,its,n,r,e⟩:=x;exact⟨z,its,n,r,k _ _ (.inl rfl) e⟩
 |tup xs=>obtain⟨z,its,r,ob,e,c⟩:=x;exact⟨z,its,r,ob,k _ _ (.inl rfl) e,c⟩
 |dK kvs=>obtain⟨z,y,vs,r,ob,es,ep,e,c⟩:=x;exact⟨z,y,vs,r,ob,es,ep,k _ _ (.inl rfl) e,c⟩
 |dT kvs=>
  obtain⟨z,y,xs,r,ob,es,ep,e,c⟩:=x
  exact⟨z,y,xs,Paired.Za_ r λp q z=>⟨z.1,ht _ _ z.2.1,z.2.2⟩,ob,es,ep,k _ _ (.inl rfl) e,c⟩
 |set S n=>obtain⟨ob,es,ep,t,e,c⟩:=x;exact⟨ob,es,ep,t,k _ _ (.inl rfl) e,c⟩
 |ins C dx fs=>
  obtain⟨d,z,ne,e,mA,⟨od,es,ep,e2,c⟩,r⟩:=x
  exact⟨ho _ d,z,ne,k _ _ (.inl rfl) e,mA,⟨od,es,ep,k _ _ (.inr d) e2,c⟩,r⟩
 |own y=>obtain⟨ob,e⟩:=x;exact⟨ob,k _ _ (.inl rfl) e⟩
 |xd fs=>obtain⟨mA,⟨od,es,ep,e,c⟩,r⟩:=x;exact⟨mA,⟨od,es,ep,k _ _ (.inl rfl) e,c⟩,r⟩
 |rng lo hi=>obtain⟨t,u,v,e⟩:=x;exact⟨t,u,v,k _ _ (.inl rfl) e⟩
 |bY ob u ih=>obtain⟨e,q⟩:=x;exact⟨k _ _ (.inl rfl) e,ih q⟩
 |fL q=>
  obtain⟨ps,e,t,r⟩:=x
  exact⟨ps,k a _ (.inl rfl) e,t,λpos cv z=>let ⟨c,z1,z2⟩:=r pos cv z;⟨c,z1,hc c q z2⟩⟩
 |Aw q=>
  obtain⟨c,o,vs,t,z,e,r⟩:=x
  cases z
  exact⟨a,o,vs,t,rfl,k a _ (.inl rfl) e,r⟩
 |met f y=>
  have e:h.get? a=some (PySem.W.methodObj (.ref f) (.ref y)):=x
  show h'.get? a=some (PySem.W.methodObj (.ref f) (.ref y))
  exact k a _ (.inl rfl) e
 |ext φ=>obtain⟨p,⟨o,e⟩,st⟩:=x;exact⟨st _ _ p λo q=>k _ _ (.inl rfl) q,⟨o,k _ _ (.inl rfl) e⟩,st⟩
theorem cL.lt(x:cL P w H h)(e:H a=some o):a<h.objs.size:=(x a o e).lt
def cL.fresh(x:cL P w H h)(e:h.objs.size<=a):H a=none:=by
 cases q:H a with
 |none=>rfl
 |some u=>exact absurd (Nat.lt_of_lt_of_le (x.lt q) e) (Nat.lt_irrefl _)
def cL.kept(x:cL P w H h)(k:∀b u,h.get? b=some u->h'.get? b=some u):cL P w H h':=λa o e=>
 (x a o e).stay (λb u _ q=>k b u q) (λ_ q=>q) λ_ _ q=>q
def cL.laid(x:cL P w H h)(k:∀b u,h.get? b=some u->h'.get? b=some u)(hp:h.objs.size<=a)(new:Ł P w (upd H a o) h' a o):cL P w (upd H a o) h':=λb u e=>by
 have hn:=x.fresh hp
 by_cases hb:b=a
 ·subst hb;rw[Ğ] at e;cases e;exact new
 ·rw[ċ hb] at e
  exact(x b u e).stay (λc v _ q=>k c v q) (λc q=>by rw[ċ (ē q hn)];exact q) (λc xs q=>by rw[ċ (ē q hn)];exact q) λc xs q=>by rw[ċ (ē q hn)];exact q
end
def Rd(H:Hp)(a:Addr)(u:HO):Prop:=H a=some u\/∃o,H a=some (.bY o u)
def Rd.ok{P:Program}{w:World}{H:Hp}{h:Heap}{a:Addr}{u:HO}(r:Rd H a u)(x:cL P w H h):Ł P w H h a u:=by
 rcases r with r|⟨o,r⟩
 ·exact x a u r
 ·obtain⟨_,q⟩:=x a _ r
  exact q
def Mut:Option HO->Prop
 |some (.lst _)=>True
 |some (.dK _)=>True
 |some (.dT _)=>True
 |some (.set _ _)=>True
 |some (.ins _ _ _)=>True
 |some (.ext _)=>True
 |some (.xd _)=>True
 |_=>False
section
variable{P:Program}{w:World}{H:Hp}{h h':Heap}{x e:Addr}{o':HO}
def cL.write(ok:cL P w H h)(mu:Mut (H x))(he:e=x\/H e=some (.own x))(k:∀b u,b≠e->h.get? b=some u->h'.get? b=some u)(heo:∃u,h'.get? e=some u)
 (new:Ł P w (upd H x o') h' x o'):cL P w (upd H x o') h':=λb u q=>by
 have Zba:∀c y,H c=some (.own y)->c≠x:=λc y r z=>by subst z;rw[r] at mu;exact mu
 have ZdD:∀c xs,H c=some (.tup xs)->c≠x:=λc xs r z=>by subst z;rw[r] at mu;exact mu
 have ZdE:∀c q,H c=some (.Aw q)->c≠x:=λc xs r z=>by subst z;rw[r] at mu;exact mu
 by_cases hb:b=x
 ·subst hb;rw[Ğ] at q;cases q;exact new
 ·rw[ċ hb] at q
  by_cases hbe:b=e
  ·have q':H b=some (.own x):=by
    rcases he with z|z
    ·exact absurd (hbe.trans z) hb
    ·rw[hbe];exact z
   rw[q] at q';cases q'
   obtain⟨v,hv⟩:=heo
   exact⟨v,by rw[hbe];exact hv⟩
  ·refine(ok b u q).stay (λc v hc r=>k c v ?_ r) (λc r=>by rw[ċ (Zba c b r)];exact r) (λc xs r=>by rw[ċ (ZdD c xs r)];exact r) λc xs r=>by rw[ċ (ZdE c xs r)];exact r
   rcases hc with rfl|hc
   ·exact hbe
   ·rintro rfl
    rcases he with z|z
    ·exact Zba c b hc z
    ·rw[hc] at z;cases z;exact hb rfl
end
structure Un(fs ex:List Addr)(H H':Hp)(h h':Heap):Prop where
 keep:∀b o,h.get? b=some o->H b=none->b∉fs->b∉ex->h'.get? b=some o
 slot:∀b o,h.get? b=some o->H b=none->b∈fs->b∉ex->∃sl,h'.get? b=some {o with slots:=sl}
 free:∀b o,h.get? b=some o->H b=none->b∉ex->H' b=none
 there:∀b o,h.get? b=some o->b∉ex->∃o',h'.get? b=some o'
 tups:∀b xs,H b=some (.tup xs)->H' b=some (.tup xs)
 dw:∀b o u,H b=some (.bY o u)->H' b=some (.bY o u)
 bZ:∀b q,H b=some (.fL q)->H' b=some (.fL q)
section
variable{fs fs' ex ex':List Addr}{H H1 H2:Hp}{h h1 h2 h':Heap}{a x e:Addr}{o:HO}
def Un.any(u:Un fs ex H H1 h h1){b:Addr}{ob:Obj}(q:h.get? b=some ob)(n:H b=none)(hx:b∉ex):∃sl,h1.get? b=some {ob with slots:=sl}:=by
 by_cases hb:b∈fs
 ·exact u.slot b ob q n hb hx
 ·exact⟨ob.slots,u.keep b ob q n hb hx⟩
def Un.kept(k:∀b u,h.get? b=some u->h'.get? b=some u):Un fs ex H H h h':=
 ⟨λb ob q _ _ _=>k b ob q,λb ob q _ _ _=>⟨ob.slots,k b ob q⟩,λ_ _ _ n _=>n,λb ob q _=>⟨ob,k b ob q⟩,λ_ _ q=>q,λ_ _ _ q=>q,λ_ _ q=>q⟩
def Un.refl:Un fs ex H H h h:=Un.kept λ_ _ q=>q
def Un.laid(k:∀b u,h.get? b=some u->h'.get? b=some u)(hp:h.objs.size<=a)(hn:H a=none):Un fs ex H (upd H a o) h h' where
 keep:=λb u q _ _ _=>k b u q
 slot:=λb u q _ _ _=>⟨u.slots,k b u q⟩
 free:=λb u q n _=>by rw[ċ (Nat.ne_of_lt (Nat.lt_of_lt_of_le (Heap.lt_size q) hp))];exact n
 there:=λb u q _=>⟨u,k b u q⟩
 tups:=λb xs q=>by rw[ċ (ē q hn)];exact q
 dw:=λb u xs q=>by rw[ċ (ē q hn)];exact q
 bZ:=λb ps q=>by rw[ċ (ē q hn)];exact q
def Un.write(mu:Mut (H x))(he:e=x\/H e=some (.own x))(k:∀b u,b≠e->h.get? b=some u->h'.get? b=some u)(heo:∃u,h'.get? e=some u):Un fs ex H (upd H x o) h h':=by
 have hx:∀b,H b=none->b≠x:=λb n z=>by subst z;rw[n] at mu;exact mu
 have hb:∀b,H b=none->b≠e:=λb n z=>by
  subst z
  rcases he with r|r
  ·exact hx b n r
  ·rw[n] at r;cases r
 have hm:∀b u,H b=some u->¬Mut (some u)->b≠x:=λb u q nm z=>by subst z;rw[q] at mu;exact nm mu
 refine⟨λb u q n _ _=>k b u (hb b n) q,λb u q n _ _=>⟨u.slots,k b u (hb b n) q⟩,λb u q n _=>by rw[ċ (hx b n)];exact n,λb u q _=>?_,
  λb xs q=>by rw[ċ (hm b _ q λz=>z)];exact q,λb u xs q=>by rw[ċ (hm b _ q λz=>z)];exact q,λb ps q=>by rw[ċ (hm b _ q λz=>z)];exact q⟩
 by_cases hbe:b=e
 ·subst hbe;exact heo
 ·exact⟨u,k b u hbe q⟩
end
def trk(h:Heap)(H:Hp):List Addr:=(List.range h.objs.size).filter λa=>(H a).isSome
def qJ(h:Heap)(H:Hp):Heap:=PySem.W.hideAll h (trk h H)
def CJ(h:Heap)(H:Hp):(qJ h H).objs.size=h.objs.size:=PySem.W.hideAll_size _ _
def En{h:Heap}{H:Hp}{b:Addr}{o:Obj}(e:h.get? b=some o)(n:H b=none):(qJ h H).get? b=some o:=
 PySem.W.hideAll_get _ e λhm=>by
  have q:(H b).isSome=true:=(List.mem_filter.mp hm).2
  rw[n] at q;simp at q
def Ko{h:Heap}{H:Hp}{b:Addr}{o:Obj}(e:(qJ h H).get? b=some o):h.get? b=some o/\H b=none:=by
 have e':h.get? b=some o:=PySem.W.of_hideAll (trk h H) e
 refine⟨e',?_⟩
 cases q:H b with
 |none=>rfl
 |some x=>
  have hm:b∈trk h H:=List.mem_filter.mpr ⟨List.mem_range.mpr (Heap.lt_size e'),by simp[q]⟩
  have z:(qJ h H).get? b=none:=PySem.W.hideAll_none (trk h H) hm
  rw[z] at e;cases e
def Kp(g h:Heap)(L:Addr):List (Addr×Obj):=(List.range h.objs.size).filterMap λa=>if a=L\/(g.get? a).isSome=true then none else(h.get? a).map λo=>(a,o)
def rest(g h:Heap)(L d:Addr):List (Addr×Obj):=(Kp g h L).filter λp=>decide (p.1≠d)
end L2
namespace L2
open PySem PySem.Spec PyProof.Rows
structure Mod(K:PySem.W.Frag)(mg:Str->Option Value)(base:Heap):Prop where
 kin:K.In base
 glob:base.Ns mainGlobals mg
 blt:∃mb,base.Ns builtinsNs mb/\∀x:Str,x≠ "__name__" ->mb x=bootBuiltins x
 nolimit:base.NoLimit
def lams:List Str:=["best_step"]
abbrev aR(x:Str):Str:=(x ++ ".<locals>.") ++ "<lambda>"
def TabsOk(K:PySem.W.Frag)(mg:Str->Option Value)(base:Heap)(H:Hp):Prop:=∀x c P,x∈lams->PySem.W.tabIn K x=some (c,P)->PySem.W.CodeHd base c P/\H P=some (.fL (aR x))/\base.BuiltinsAt mg P
structure Cx where
 prog:Program
 w:World
 K:PySem.W.Frag
 mg:Str->Option Value
 base:Heap
 A:Around
 N:List Str
 s₀:Shared
 H₀:Hp
 env:Env
 outer:List Env
 stack:List Env
 ex:List Addr
 fn:Str->Bool
 calm:Bool
 pn:List (Addr×Obj)
 xe:Value->Shared->Prop
def frs(l:List Env):List Addr:=l.filterMap (·.frame)
abbrev Cx.fs(X:Cx):List Addr:=frs X.outer
def Ax(sc:Scope)(x:Str):Prop:=sc.names.lookup x=some .local\/sc.names.lookup x=some .cell\/sc.names.lookup x=some .free
def Loc(sc:Scope)(x:Str):Prop:=sc.names.lookup x=some .local\/sc.names.lookup x=some .cell
def Look(env:Env)(h:Heap)(m:Str->Option Value)(x:Str)(u:Value):Prop:=
 (env.kindOf x=some .local/\m x=some u)\/((env.kindOf x=some .cell\/env.kindOf x=some .free)/\∃c,env.cells.lookup x=some c/\h.IsCell c (some u))
structure Cx.Ok(X:Cx):Prop where
 mod:Mod X.K X.mg X.base
 kind:X.env.scope.kind=.function
 glob:X.env.globals=mainGlobals
 blt:X.env.builtins=builtinsNs
 above:X.s₀.heap.objs.size<=X.env.locals
 inj:∀x y c,X.env.cells.lookup x=some c->X.env.cells.lookup y=some c->x=y
 has:∀x,(X.env.kindOf x=some .cell\/X.env.kindOf x=some .free)->∃c,X.env.cells.lookup x=some c
 cab:∀x c,X.fn x=true->X.env.cells.lookup x=some c->X.s₀.heap.objs.size<=c
 hd:X.calm=true->X.A.handled=none
 frames:X.A.frames=some X.stack
 stk:X.stack=X.outer\/(X.stack=X.env::X.outer/\X.env.frame=some X.env.locals)
 exf:∀b∈X.ex,b≠X.env.locals/\∀x c,X.env.cells.lookup x=some c->c≠b
 bs:∀b o,X.base.get? b=some o->X.s₀.heap.get? b=some o/\X.H₀ b=none
 Ay:X.base.objs.size<=X.s₀.heap.objs.size
 tH:∀b o,X.base.get? b=some o->b∉X.ex
 vN:∀b∈X.ex,b∉X.fs
 iz:X.s₀.heap.FunFrames X.base X.outer
 Eo:∀b∈X.fs,X.H₀ b=none
 tb:TabsOk X.K X.mg X.base X.H₀
structure Inv(X:Cx)(pins:List (Addr×Obj))(σ:List (Option V))(H:Hp)(s:Shared):Prop where
 ok:X.Ok
 os:s.os=X.s₀.os
 bare:AllBare s.gens
 base:Un X.fs X.ex X.H₀ H X.s₀.heap s.heap
 loc:∃m,s.heap.Ns X.env.locals m/\∀(i:Nat) (x:Str) (v:V),X.N[i]?=some x->σ[i]?=some (some v)->Ax X.env.scope x->∃u,RelV v u/\Look X.env s.heap m x u
 cell:∀x c,X.env.cells.lookup x=some c->∃v,s.heap.IsCell c v
 free:H X.env.locals=none
 au:∀x c,X.env.cells.lookup x=some c->H c=none
 pin:∀p∈X.pn++pins,s.heap.get? p.1=some p.2/\H p.1=none/\p.1≠X.env.locals/\p.1∉X.fs/\∀v,p.2.data≠ .cell v
 hok:cL X.prog X.w H s.heap
 len:σ.length=X.N.length
section
variable{X:Cx}{pins:List (Addr×Obj)}{σ:List (Option V)}{H H':Hp}{s:Shared}{h':Heap}
def Cx.Ok.ZdF(ok:X.Ok){b:Addr}{o:Obj}(e:X.base.get? b=some o):b∉X.fs:=λhb=>by
 have:=(ok.iz.mem hb).1
 rw[e] at this;cases this
theorem Inv.bs(I:Inv X pins σ H s):∀b o,X.base.get? b=some o->s.heap.get? b=some o/\H b=none:=λb o e=>
 ⟨I.base.keep b o (I.ok.bs b o e).1 (I.ok.bs b o e).2 (I.ok.ZdF e) (I.ok.tH b o e),I.base.free b o (I.ok.bs b o e).1 (I.ok.bs b o e).2 (I.ok.tH b o e)⟩
def Inv.bk(I:Inv X pins σ H s):∀b o,X.base.get? b=some o->s.heap.get? b=some o:=λb o e=>(I.bs b o e).1
theorem Inv.tb(I:Inv X pins σ H s):TabsOk X.K X.mg X.base H:=λx c P hx e=>⟨(I.ok.tb x c P hx e).1,I.base.bZ _ _ (I.ok.tb x c P hx e).2.1,(I.ok.tb x c P hx e).2.2⟩
theorem Inv.mod(I:Inv X pins σ H s):Mod X.K X.mg X.base:=I.ok.mod
def Inv.dz(I:Inv X pins σ H s):X.K.In s.heap:=I.ok.mod.kin.keeps I.bk
theorem Inv.nolimit(I:Inv X pins σ H s):s.heap.NoLimit:=I.ok.mod.nolimit.keeps I.bk
theorem Inv.lt(I:Inv X pins σ H s):X.env.locals<s.heap.objs.size:=let ⟨_,hn,_⟩:=I.loc;hn.lt
def Inv.sz(I:Inv X pins σ H s):X.s₀.heap.objs.size<=s.heap.objs.size:=Nat.le_trans I.ok.above (Nat.le_of_lt I.lt)
def Inv.ZdG(I:Inv X pins σ H s){a:Addr}(h:s.heap.objs.size<=a):a∉X.fs:=λhb=>by
 obtain⟨_,o,ho,_⟩:=I.ok.iz.mem hb
 exact absurd (Nat.lt_of_lt_of_le (Heap.lt_size ho) (Nat.le_trans I.sz h)) (Nat.lt_irrefl _)
def Inv.Kq(I:Inv X pins σ H s):∀x c,X.env.cells.lookup x=some c->c≠X.env.locals:=λx c e z=>by
 obtain⟨v,o,ho,hd⟩:=I.cell x c e
 obtain⟨m,⟨o',es,ep,ho',hd',_⟩,_⟩:=I.loc
 rw[z,ho'] at ho;cases ho;rw[hd'] at hd;cases hd
theorem Inv.iz(I:Inv X pins σ H s):s.heap.FunFrames X.base X.outer:=by
 have all:∀(l:List Env),(∀b∈frs l,b∈X.fs)->X.s₀.heap.FunFrames X.base l->s.heap.FunFrames X.base l:=by
  intro l
  induction l with
  |nil=>intro _ _;trivial
  |cons env r ih=>
   intro hs hl
   obtain⟨hk,⟨L,o,hf,hn,ho,hd⟩,hr⟩:=hl
   have hL:L∈X.fs:=hs L (by unfold frs;rw[List.filterMap_cons,hf];exact List.mem_cons_self)
   obtain⟨sl,e⟩:=I.base.slot L o ho (I.ok.Eo L hL) hL λz=>I.ok.vN L z hL
   exact⟨hk,⟨L,_,hf,hn,e,hd⟩,ih (λb hb=>hs b (by unfold frs;rw[List.filterMap_cons,hf];exact List.mem_cons_of_mem _ hb)) hr⟩
 exact all X.outer (λ_ hb=>hb) I.ok.iz
theorem Inv.stack(I:Inv X pins σ H s):s.heap.FunFrames X.base X.stack:=by
 rcases I.ok.stk with e|⟨e,hf⟩
 ·rw[e];exact I.iz
 ·rw[e]
  obtain⟨m,hn,_⟩:=I.loc
  refine .cons (by rw[I.ok.kind];decide) hf hn ?_ I.iz
  exact Heap.get?_none_of_le (Nat.le_trans I.ok.Ay I.ok.above)
def Inv.nY(I:Inv X pins σ H s):∀b∈frs X.stack,b∈X.env.locals::X.fs:=λb hb=>by
 rcases I.ok.stk with e|⟨e,hf⟩
 ·rw[e] at hb;exact List.mem_cons_of_mem _ hb
 ·rw[e] at hb
  unfold frs at hb
  rw[List.filterMap_cons,hf] at hb
  exact hb
def Inv.nC(I:Inv X pins σ H s):∀b∈frs X.stack,H b=none:=λb hb=>by
 rcases List.mem_cons.mp (I.nY b hb) with e|hb
 ·rw[e];exact I.free
 ·obtain⟨_,o,ho,_⟩:=I.ok.iz.mem hb
  exact I.base.free b o ho (I.ok.Eo b hb) λz=>I.ok.vN b z hb
def Inv.step{g':Array GenState}{t':Nat}{d':Drawn}{ch:List Addr}(I:Inv X pins σ H s)
 (hch:∀b∈ch,(b∈X.ex\/X.s₀.heap.objs.size<=b)/\b≠X.env.locals/\(∀x c,X.env.cells.lookup x=some c->c≠b)/\∀p∈X.pn++pins,p.1≠b)
 (keep:∀b o,b≠X.env.locals->b∉X.fs->b∉ch->s.heap.get? b=some o->H b=none->h'.get? b=some o)
 (slot:∀b o,b≠X.env.locals->b∈X.fs->b∉ch->s.heap.get? b=some o->H b=none->∃sl,h'.get? b=some {o with slots:=sl})(free:∀b o,b∉ch->s.heap.get? b=some o->H b=none->H' b=none)
 (there:∀b o,b∉ch->s.heap.get? b=some o->∃o',h'.get? b=some o')
 (tups:∀b xs,H b=some (.tup xs)->H' b=some (.tup xs))(dw:∀b o u,H b=some (.bY o u)->H' b=some (.bY o u))(bZ:∀b q,H b=some (.fL q)->H' b=some (.fL q))
 (ns:∀m,s.heap.Ns X.env.locals m->h'.Ns X.env.locals m)(hok:cL X.prog X.w H' h')(hg:AllBare g') :
 Inv X pins σ H' {s with heap:=h',gens:=g',drawn:=d',toks:=t'}:=by
 have Kc:∀b o,X.s₀.heap.get? b=some o->b≠X.env.locals:=λb o e=>Nat.ne_of_lt (Nat.lt_of_lt_of_le (Heap.lt_size e) I.ok.above)
 have neC:∀b o,X.s₀.heap.get? b=some o->b∉X.ex->b∉ch:=λb o e hx hb=>by
  rcases(hch b hb).1 with z|z
  ·exact hx z
  ·exact absurd (Nat.lt_of_lt_of_le (Heap.lt_size e) z) (Nat.lt_irrefl _)
 have cellK:∀x c,X.env.cells.lookup x=some c->∀v,s.heap.IsCell c v->h'.IsCell c v:=λx c e v ⟨o,ho,hd⟩=>by
  have nch:c∉ch:=λz=>(hch c z).2.2.1 x c e rfl
  by_cases hc:c∈X.fs
  ·obtain⟨sl,q⟩:=slot c o (I.Kq x c e) hc nch ho (I.au x c e)
   exact⟨_,q,hd⟩
  ·exact⟨o,keep c o (I.Kq x c e) hc nch ho (I.au x c e),hd⟩
 refine⟨I.ok,I.os,hg,⟨λb o e n hb hx=>?_,λb o e n hb hx=>?_,λb o e n hx=>?_,λb o e hx=>?_,λb xs e=>tups b xs (I.base.tups b xs e),λb o xs e=>dw b o xs (I.base.dw b o xs e),λb ps e=>?_⟩,?_,λx c e=>?_,?_,λx c e=>?_,λp hp=>?_,hok,I.len⟩
 ·exact keep b o (Kc b o e) hb (neC b o e hx) (I.base.keep b o e n hb hx) (I.base.free b o e n hx)
 ·obtain⟨sl,e1⟩:=I.base.slot b o e n hb hx
  obtain⟨sl',e2⟩:=slot b _ (Kc b o e) hb (neC b o e hx) e1 (I.base.free b o e n hx)
  exact⟨sl',e2⟩
 ·obtain⟨o',e1⟩:=I.base.there b o e hx
  exact free b o' (neC b o e hx) e1 (I.base.free b o e n hx)
 ·obtain⟨o',e1⟩:=I.base.there b o e hx
  exact there b o' (neC b o e hx) e1
 ·exact bZ b ps (I.base.bZ b ps e)
 ·obtain⟨m,hn,hl⟩:=I.loc
  refine⟨m,ns m hn,λi x v e1 e2 e3=>?_⟩
  obtain⟨u,r,l⟩:=hl i x v e1 e2 e3
  refine⟨u,r,?_⟩
  rcases l with l|⟨k,c,e,z⟩
  ·exact .inl l
  ·exact .inr ⟨k,c,e,cellK x c e _ z⟩
 ·obtain⟨v,z⟩:=I.cell x c e
  exact⟨v,cellK x c e v z⟩
 ·obtain⟨m,⟨o,_,_,ho,_⟩,_⟩:=I.loc
  exact free _ o (λz=>(hch _ z).2.1 rfl) ho I.free
 ·obtain⟨v,o,ho,hd⟩:=I.cell x c e
  exact free c o (λz=>(hch c z).2.2.1 x c e rfl) ho (I.au x c e)
 ·obtain⟨e,n,ne,nf,d⟩:=I.pin p hp
  have nch:p.1∉ch:=λz=>(hch p.1 z).2.2.2 p hp rfl
  exact⟨keep p.1 p.2 ne nf nch e n,free p.1 p.2 nch e n,ne,nf,d⟩
def Inv.un{t':Nat}(I:Inv X pins σ H s)(u:Un X.fs [] H H' s.heap h')(hok:cL X.prog X.w H' h'):Inv X pins σ H' {s with heap:=h',toks:=t'}:=by
 obtain⟨m,⟨o,es,ep,ho,r⟩,_⟩:=id I.loc
 obtain⟨sl,hL⟩:=u.any ho I.free (by simp)
 exact I.step (g':=s.gens) (d':=s.drawn) (ch:=[]) (λ_ z=>nomatch z) (λb o _ hb _ e n=>u.keep b o e n hb (by simp)) (λb o _ hb _ e n=>u.slot b o e n hb (by simp)) (λb o _ e n=>u.free b o e n (by simp)) (λb o _ e=>u.there b o e (by simp)) u.tups u.dw u.bZ (λm' hm=>by
  obtain⟨o',es',ep',ho',r'⟩:=hm
  rw[ho] at ho';cases ho'
  exact⟨_,es',ep',hL,r'⟩) hok I.bare
def Inv.call{g':Array GenState}{t':Nat}{d':Drawn}{ch:List Addr}(I:Inv X pins σ H s)(u:Un (frs X.stack) ch H H' s.heap h')(hok:cL X.prog X.w H' h')(hg:AllBare g')
 (hch:∀b∈ch,(b∈X.ex\/X.s₀.heap.objs.size<=b)/\b≠X.env.locals/\(∀x c,X.env.cells.lookup x=some c->c≠b)/\∀p∈X.pn++pins,p.1≠b) :
 Inv X pins σ H' {s with heap:=h',gens:=g',drawn:=d',toks:=t'}:=by
 obtain⟨m,⟨o,es,ep,ho,r⟩,_⟩:=id I.loc
 obtain⟨sl,hL⟩:=u.any ho I.free λz=>(hch _ z).2.1 rfl
 exact I.step (ch:=ch) hch (λb o hL hb hc e n=>u.keep b o e n (λz=>(List.mem_cons.mp (I.nY b z)).elim hL hb) hc) (λb o _ _ hc e n=>u.any e n hc) (λb o hc e n=>u.free b o e n hc) (λb o hc e=>u.there b o e hc) u.tups u.dw u.bZ (λm' hm=>by
  obtain⟨o',es',ep',ho',r'⟩:=hm
  rw[ho] at ho';cases ho'
  exact⟨_,es',ep',hL,r'⟩) hok hg
def Inv.turned{t':Nat}{it:Addr}(I:Inv X pins σ H s)(k:∀b o,b≠it->s.heap.get? b=some o->h'.get? b=some o)(hn:H it=none)(hL:it≠X.env.locals)
 (h1:it∈X.ex\/X.s₀.heap.objs.size<=it)(h2:∀x c,X.env.cells.lookup x=some c->c≠it)(h3:∀p∈X.pn++pins,p.1≠it):Inv X pins σ H {s with heap:=h',toks:=t'}:=by
 have nit:∀b u,H b=some u->b≠it:=λb u e z=>by rw[z,hn] at e;cases e
 refine I.step (g':=s.gens) (d':=s.drawn) (ch:=[it]) (λb hb=>?_) (λb o _ _ hc e _=>k b o (λz=>hc (by simp[z])) e) (λb o _ _ hc e _=>⟨o.slots,k b o (λz=>hc (by simp[z])) e⟩) (λ_ _ _ _ n=>n)
  (λb o hc e=>⟨o,k b o (λz=>hc (by simp[z])) e⟩) (λ_ _ e=>e) (λ_ _ _ e=>e) (λ_ _ e=>e) (λm hm=>?_) (λb u e=>?_) I.bare
 ·have e:b=it:=by simpa using hb
  subst e
  exact⟨h1,hL,h2,h3⟩
 ·obtain⟨o,es,ep,ho,r⟩:=hm
  exact⟨o,es,ep,k _ o (Ne.symm hL) ho,r⟩
 ·refine(I.hok b u e).stay (λc v hc q=>k c v ?_ q) (λ_ q=>q) λ_ _ q=>q
  rcases hc with z|z
  ·rw[z];exact nit b u e
  ·exact nit c _ z
def Inv.tok(I:Inv X pins σ H s)(t:Nat):Inv X pins σ H {s with toks:=t}:=I.un (h':=s.heap) (t':=t) Un.refl I.hok
theorem Inv.kept{t':Nat}(I:Inv X pins σ H s)(k:∀b u,s.heap.get? b=some u->h'.get? b=some u):Inv X pins σ H {s with heap:=h',toks:=t'}:=I.un (Un.kept k) (I.hok.kept k)
theorem Inv.laid{a:Addr}{o:HO}{t':Nat}(I:Inv X pins σ H s)(k:∀b u,s.heap.get? b=some u->h'.get? b=some u)(hp:s.heap.objs.size<=a)(new:Ł X.prog X.w (upd H a o) h' a o) :
 Inv X pins σ (upd H a o) {s with heap:=h',toks:=t'}:=I.un (Un.laid k hp (I.hok.fresh hp)) (I.hok.laid k hp new)
theorem Inv.write{x e:Addr}{o:HO}{t':Nat}(I:Inv X pins σ H s)(mu:Mut (H x))(he:e=x\/H e=some (.own x))(k:∀b u,b≠e->s.heap.get? b=some u->h'.get? b=some u)(heo:∃u,h'.get? e=some u)
 (new:Ł X.prog X.w (upd H x o) h' x o):Inv X pins σ (upd H x o) {s with heap:=h',toks:=t'}:=I.un (Un.write mu he k heo) (I.hok.write mu he k heo new)
def Inv.Az{aU:List (Addr×Obj)}(I:Inv X pins σ H s)(h:∀p∈aU,s.heap.get? p.1=some p.2/\H p.1=none/\p.1≠X.env.locals/\p.1∉X.fs/\∀v,p.2.data≠ .cell v):Inv X aU σ H s:=
 ⟨I.ok,I.os,I.bare,I.base,I.loc,I.cell,I.free,I.au,λp hp=>(List.mem_append.mp hp).elim (λz=>I.pin p (List.mem_append_left _ z)) (h p),I.hok,I.len⟩
def nZ{N:List Str}(hN:N.Nodup){i j:Nat}{x:Str}(a:N[i]?=some x)(b:N[j]?=some x):i=j:=by
 obtain⟨h1,e1⟩:=List.getElem?_eq_some_iff.mp a
 obtain⟨h2,e2⟩:=List.getElem?_eq_some_iff.mp b
 exact(List.getElem_inj hN).mp (e1.trans e2.symm)
def qX{M:Model}{A:Around}{E:Value->Shared->Prop}{i:Nat}{x:Str}{v:V}{u:Value}{Q:Unit->Shared->Prop}(I:Inv X pins σ H s)(hN:X.N.Nodup)(hi:X.N[i]?=some x)(hx:Loc X.env.scope x)(r:RelV v u)
 (h:∀s',Inv X pins (σ.set i (some v)) H s'->(∃a,Heap.SameBut a s.heap s'.heap/\(a=X.env.locals\/X.env.cells.lookup x=some a))->Q () s')(hf:X.fn x=true\/X.env.scope.names.lookup x=some .local:=by first|exact .inl rfl|exact .inr rfl|assumption):wpAny M A (storeName X.env x u) Q E s:=by
 obtain⟨m,hn,hl⟩:=id I.loc
 have hcls:(X.env.scope.kind== .class || (X.env.scope.kind== .module && X.env.locals != X.env.globals))=false:=by rw[I.ok.kind];rfl
 have Zfm:i < σ.length:=by rw[I.len];exact(List.getElem?_eq_some_iff.mp hi).1
 have Kq:=I.Kq
 have tracked:∀{a:Addr} {h':Heap},(∃o,s.heap.get? a=some o/\H a=none)->Heap.SameBut a s.heap h'->cL X.prog X.w H h':=fun{a h'} ha hs b ob e=>by
  obtain⟨_,_,hfree⟩:=ha
  refine(I.hok b ob e).stay (λc w' hc q=>(hs.2 c ?_).trans q) (λ_ q=>q) λ_ _ q=>q
  rintro rfl
  rcases hc with rfl|hc
  ·rw[hfree] at e;cases e
  ·rw[hfree] at hc;cases hc
 rcases hx with hk|hk
 ·refine wpAny_storeName_local hk hn (λh' hn' hs=>?_) hcls
  obtain⟨oL,_,_,hoL,_⟩:=id hn
  refine h _ ⟨I.ok,I.os,I.bare,⟨λb o e n hb hx=>?_,λb o e n hb hx=>?_,I.base.free,λb o e hx=>?_,I.base.tups,I.base.dw,I.base.bZ⟩,⟨_,hn',λj y v' e1 e2 e3=>?_⟩,λy c e=>?_,I.free,I.au,λp hp=>?_,tracked ⟨oL,hoL,I.free⟩ hs,by simpa using I.len⟩ ⟨_,hs,.inl rfl⟩
  ·exact(hs.2 b (Nat.ne_of_lt (Nat.lt_of_lt_of_le (Heap.lt_size e) I.ok.above))).trans (I.base.keep b o e n hb hx)
  ·obtain⟨sl,e1⟩:=I.base.slot b o e n hb hx
   exact⟨sl,(hs.2 b (Nat.ne_of_lt (Nat.lt_of_lt_of_le (Heap.lt_size e) I.ok.above))).trans e1⟩
  ·obtain⟨o',e1⟩:=I.base.there b o e hx
   exact⟨o',(hs.2 b (Nat.ne_of_lt (Nat.lt_of_lt_of_le (Heap.lt_size e) I.ok.above))).trans e1⟩
  ·by_cases hj:j=i
   ·subst hj
    rw[hi] at e1;cases e1
    rw[List.getElem?_set_self Zfm] at e2
    cases e2
    exact⟨u,r,.inl ⟨hk,by simp⟩⟩
   ·rw[List.getElem?_set_ne (Ne.symm hj)] at e2
    obtain⟨u',r',q⟩:=hl j y v' e1 e2 e3
    refine⟨u',r',?_⟩
    rcases q with⟨k,e⟩|⟨k,c,e,z⟩
    ·refine .inl ⟨k,?_⟩
     have:y≠x:=λe=>hj (nZ hN e1 (e▸hi))
     simp[this,e]
    ·exact .inr ⟨k,c,e,z.sameBut hs (Kq y c e)⟩
  ·obtain⟨w',z⟩:=I.cell y c e
   exact⟨w',z.sameBut hs (Kq y c e)⟩
  ·obtain⟨e,n,ne,nf,d⟩:=I.pin p hp
   exact⟨(hs.2 p.1 ne).trans e,n,ne,nf,d⟩
 ·have hfn:X.fn x=true:=by
   rcases hf with z|z
   ·exact z
   ·rw[z] at hk;cases hk
  obtain⟨c,hc⟩:=I.ok.has x (.inl hk)
  obtain⟨w',z⟩:=I.cell x c hc
  refine wpAny_storeName_cell I.ok.kind hk hc z (λh' hc' hs=>?_)
  obtain⟨oc,hoc,ZdH⟩:=id z
  refine h {s with heap:=h'} ⟨I.ok,I.os,I.bare,⟨λb o e n hb hx=>?_,λb o e n hb hx=>?_,I.base.free,λb o e hx=>?_,I.base.tups,I.base.dw,I.base.bZ⟩,⟨m,hn.sameBut hs (Ne.symm (Kq x c hc)),λj y v' e1 e2 e3=>?_⟩,λy c' e=>?_,I.free,I.au,λp hp=>?_,tracked ⟨oc,hoc,I.au x c hc⟩ hs,by simpa using I.len⟩ ⟨c,hs,.inr hc⟩
  ·exact(hs.2 b (Nat.ne_of_lt (Nat.lt_of_lt_of_le (Heap.lt_size e) (I.ok.cab x c hfn hc)))).trans (I.base.keep b o e n hb hx)
  ·obtain⟨sl,e1⟩:=I.base.slot b o e n hb hx
   exact⟨sl,(hs.2 b (Nat.ne_of_lt (Nat.lt_of_lt_of_le (Heap.lt_size e) (I.ok.cab x c hfn hc)))).trans e1⟩
  ·obtain⟨o',e1⟩:=I.base.there b o e hx
   exact⟨o',(hs.2 b (Nat.ne_of_lt (Nat.lt_of_lt_of_le (Heap.lt_size e) (I.ok.cab x c hfn hc)))).trans e1⟩
  ·by_cases hj:j=i
   ·subst hj
    rw[hi] at e1;cases e1
    rw[List.getElem?_set_self Zfm] at e2
    cases e2
    exact⟨u,r,.inr ⟨.inl hk,c,hc,hc'⟩⟩
   ·rw[List.getElem?_set_ne (Ne.symm hj)] at e2
    obtain⟨u',r',q⟩:=hl j y v' e1 e2 e3
    refine⟨u',r',?_⟩
    rcases q with q|⟨k,c',e,z'⟩
    ·exact .inl q
    ·refine .inr ⟨k,c',e,z'.sameBut hs ?_⟩
     rintro rfl
     exact hj (nZ hN e1 (I.ok.inj _ _ _ e hc▸hi))
  ·by_cases hcc:c'=c
   ·subst hcc;exact⟨_,hc'⟩
   ·obtain⟨w2,z2⟩:=I.cell y c' e
    exact⟨w2,z2.sameBut hs hcc⟩
  ·obtain⟨e,n,ne,nf,d⟩:=I.pin p hp
   refine⟨(hs.2 p.1 ?_).trans e,n,ne,nf,d⟩
   intro q
   rw[q,hoc] at e
   have q':oc=p.2:=Option.some.inj e
   exact d w' (by rw[<-q'];exact ZdH)
def jA{M:Model}{A:Around}{E:Value->Shared->Prop}{i:Nat}{x:Str}{v:V}{u:Value}{Q:Unit->Shared->Prop}(I:Inv X pins σ H s)(hN:X.N.Nodup)(hi:X.N[i]?=some x)(hx:Loc X.env.scope x)(r:RelV v u)
 (h:∀s',Inv X pins (σ.set i (some v)) H s'->Q () s')(hf:X.fn x=true\/X.env.scope.names.lookup x=some .local:=by first|exact .inl rfl|exact .inr rfl|assumption):wpAny M A (storeName X.env x u) Q E s:=
 qX I hN hi hx r (λs' I' _=>h s' I') hf
def Inv.call'{s':Shared}{ch:List Addr}(I:Inv X pins σ H s)(ho:s'.os=s.os)(u:Un (frs X.stack) ch H H' s.heap s'.heap)(hok:cL X.prog X.w H' s'.heap)(hg:AllBare s'.gens)
 (hch:∀b∈ch,(b∈X.ex\/X.s₀.heap.objs.size<=b)/\b≠X.env.locals/\(∀x c,X.env.cells.lookup x=some c->c≠b)/\∀p∈X.pn++pins,p.1≠b):Inv X pins σ H' s':=by
 obtain⟨h',g',d',t',o'⟩:=s'
 have e:o'=s.os:=ho
 subst e
 exact I.call (g':=g') (t':=t') (d':=d') u hok hg hch
end
abbrev XK:=Value->Option Addr->Hp->Prop
abbrev St:=List (Option V)
abbrev VK:=V->Hp->Prop
abbrev TE:=St->Hp->VK->Prop
abbrev TT:=St->Hp->(Bool->Hp->Prop)->Prop
abbrev TA:=St->Hp->(List V->Hp->Prop)->Prop
structure Ends where
 nx:St->Hp->Prop
 rt:VK
 bk:St->Hp->Prop:=λ_ _=>False
 ct:St->Hp->Prop:=λ_ _=>False
abbrev TS:=Ends->St->Hp->Prop
def EP(X:Cx)(pins:List (Addr×Obj))(σ:St)(Q:VK)(u:Value)(s':Shared):Prop:=∃v H',Inv X pins σ H' s'/\RelV v u/\Q v H'
def TP(X:Cx)(pins:List (Addr×Obj))(σ:St)(Q:Bool->Hp->Prop)(b:Bool)(s':Shared):Prop:=∃H',Inv X pins σ H' s'/\Q b H'
def AP(X:Cx)(pins:List (Addr×Obj))(σ:St)(Q:List V->Hp->Prop)(us:List Value)(s':Shared):Prop:=∃vs H',Inv X pins σ H' s'/\Vals vs us/\Q vs H'
def SP(X:Cx)(pins:List (Addr×Obj))(D:Ends)(f:Flow)(s':Shared):Prop:=
 match f with
 | .next=>∃σ' H',Inv X pins σ' H' s'/\D.nx σ' H'
 | .brk=>∃σ' H',Inv X pins σ' H' s'/\D.bk σ' H'
 | .cont=>∃σ' H',Inv X pins σ' H' s'/\D.ct σ' H'
 | .ret u=>∃v σ' H',Inv X pins σ' H' s'/\RelV v u/\D.rt v H'
def PE(X:Cx)(e:Expr)(t:TE):Prop:=
 ∀(pins:List (Addr×Obj)) (s:Shared) (σ:St) (H:Hp) (Q:VK),Inv X pins σ H s->t σ H Q->wpAny (model X.prog X.w) X.A (eval e X.env) (EP X pins σ Q) X.xe s
def PT(X:Cx)(e:Expr)(t:TT):Prop:=
 ∀(pins:List (Addr×Obj)) (s:Shared) (σ:St) (H:Hp) (Q:Bool->Hp->Prop),Inv X pins σ H s->t σ H Q->wpAny (model X.prog X.w) X.A (isTrue e X.env (eval e X.env)) (TP X pins σ Q) X.xe s
def PW(X:Cx)(e:Expr)(t:TT):Prop:=
 ∀(whole:Sem Value) (pins:List (Addr×Obj)) (s:Shared) (σ:St) (H:Hp) (Q:Bool->Hp->Prop),Inv X pins σ H s->t σ H Q->wpAny (model X.prog X.w) X.A (isTrue e X.env whole) (TP X pins σ Q) X.xe s
def PW.pt{X:Cx}{e:Expr}{t:TT}(h:PW X e t):PT X e t:=h _
def PA(X:Cx)(es:List Expr)(t:TA):Prop:=
 ∀(pos:Pos) (pins:List (Addr×Obj)) (s:Shared) (σ:St) (H:Hp) (Q:List V->Hp->Prop),Inv X pins σ H s->t σ H Q->wpAny (model X.prog X.w) X.A (spliced (backTo pos (starEach es X.env))) (AP X pins σ Q) X.xe s
def PS(X:Cx)(st:Stmt)(t:TS):Prop:=
 ∀(pins:List (Addr×Obj)) (s:Shared) (σ:St) (H:Hp) (D:Ends),Inv X pins σ H s->t D σ H->wpAny (model X.prog X.w) X.A (exec st X.env) (SP X pins D) X.xe s
def dY(X:Cx)(st:List Stmt)(t:TS):Prop:=
 ∀(pins:List (Addr×Obj)) (s:Shared) (σ:St) (H:Hp) (D:Ends),Inv X pins σ H s->t D σ H->wpAny (model X.prog X.w) X.A (execs st X.env) (SP X pins D) X.xe s
def ł{α:Type}{t:Sem α}{Q Q':α->Shared->Prop}{M:Model}{A:Around}{E:Value->Shared->Prop}{s:Shared}(h:wpAny M A t Q E s)(hQ:∀a s,Q a s->Q' a s):wpAny M A t Q' E s:=wpAny_mono h hQ λ_ _ x=>x
end L2
namespace L2
open PySem PySem.Spec PyProof.Rows
section
variable{X:Cx}
def yD(i:Nat):TE:=λσ H Q=>∃v,σ[i]?=some (some v)/\Q v H
def tC(v:V):TE:=λ_ H Q=>Q v H
def jk{i:Nat}{x:Str}{pos:Pos}(hN:X.N[i]?=some x)(hv:Ax X.env.scope x)(hd:(x== ("__debug__" :Str))=false:=by decide)(hcd:(x== ("__classdict__" :Str))=false:=by decide):PE X (.Name x pos) (yD i):=by
 intro pins s σ H Q I h
 obtain⟨v,e,h⟩:=h
 obtain⟨m,hn,hl⟩:=I.loc
 obtain⟨u,r,l⟩:=hl i x v hN e hv
 have fin:EP X pins σ Q u s:=⟨v,H,I,r,h⟩
 rcases l with⟨hk,hm⟩|⟨hk,c,hc,hcell⟩
 ·exact wpAny_Name (wpAny_loadName_local I.ok.kind hk hn hm fin) hd
 ·rcases hk with hk|hk
  ·exact wpAny_Name (wpAny_loadName_cell I.ok.kind hk hc hcell fin) hd
  ·exact wpAny_Name (wpAny_loadName_free I.ok.kind hk hc hcell fin hcd) hd
def VH{i j pos}:PE X (.Constant (.int i) j pos) (tC (.int i)):=λ_ _ _ H _ I h=>wpAny_Constant_int ⟨.int i,H,I.tok _,⟨_,rfl⟩,h⟩
def Zbb{b j pos}:PE X (.Constant (.bool b) j pos) (tC (.bl b)):=λ_ _ _ H _ I h=>Constant_bool ⟨.bl b,H,I,rfl,h⟩
def VJ{j pos}:PE X (.Constant .none j pos) (tC .non):=λ_ _ _ H _ I h=>Constant_none ⟨.non,H,I,rfl,h⟩
def VL{x j pos}:PE X (.Constant (.str x) j pos) (tC (.str x)):=λ_ _ _ H _ I h=>Calls.Constant_str ⟨.str x,H,I.tok _,⟨_,rfl⟩,h⟩
def Gl(X:Cx)(x:Str):Prop:=X.env.kindOf x=some .globalImplicit
def gZ{E:Value->Shared->Prop}{pins:List (Addr×Obj)}{s:Shared}{σ:St}{H:Hp}{x:Str}{u:Value}{pos:Pos}{Q:Value->Shared->Prop}(I:Inv X pins σ H s)(hg:Gl X x)(hm:X.mg x=some u)(h:Q u s)
 (hd:(x== ("__debug__" :Str))=false:=by decide):wpAny (model X.prog X.w) X.A (eval (.Name x pos) X.env) Q E s:=
 Calls.Name_function_global I.ok.kind hg (Calls.loadGlobal_global (by rw[I.ok.glob];exact I.mod.glob.keeps I.bk) hm h) hd
def fM{E:Value->Shared->Prop}{pins:List (Addr×Obj)}{s:Shared}{σ:St}{H:Hp}{x:Str}{u:Value}{pos:Pos}{Q:Value->Shared->Prop}(I:Inv X pins σ H s)(hg:Gl X x)(hm:X.mg x=none)(hv:bootBuiltins x=some u)(h:Q u s)
 (hn:x≠ "__name__" := by decide)(hd:(x== ("__debug__" :Str))=false:=by decide):wpAny (model X.prog X.w) X.A (eval (.Name x pos) X.env) Q E s:=by
 obtain⟨mb,h1,h2⟩:=I.mod.blt
 exact Calls.Name_function_global I.ok.kind hg (Calls.loadGlobal_builtin (by rw[I.ok.glob];exact I.mod.glob.keeps I.bk) hm (by rw[I.ok.blt];exact h1.keeps I.bk) ((h2 x hn).trans hv) h) hd
def ř{x:Str}{v:V}{u:Value}{pos:Pos}(hg:Gl X x)(hm:X.mg x=some u)(r:RelV v u)(hd:(x== ("__debug__" :Str))=false:=by decide):PE X (.Name x pos) (tC v):=
 λ_ _ _ H _ I h=>gZ I hg hm ⟨v,H,I,r,h⟩ hd
def Kr{x:Str}{v:V}{u:Value}{pos:Pos}(hg:Gl X x)(hm:X.mg x=none)(hv:bootBuiltins x=some u)(r:RelV v u)(hn:x≠ "__name__" := by decide)(hd:(x== ("__debug__" :Str))=false:=by decide):PE X (.Name x pos) (tC v):=
 λ_ _ _ H _ I h=>fM I hg hm hv ⟨v,H,I,r,h⟩ hn hd
variable{a b:Expr}{ta tb:TE}{pos:Pos}
variable{tA tB':TT}{rest:List Expr}
def ZdI(t u:TT):TT:=λσ H Q=>t σ H λc H1=>if c=true then u σ H1 Q else Q false H1
def tOr(t u:TT):TT:=λσ H Q=>t σ H λc H1=>if c=true then Q true H1 else u σ H1 Q
def ZdJ(t:TT):TT:=λσ H Q=>t σ H λc H1=>Q (!c) H1
def Ks(ha:PT X a tA):PW X (.BoolOp .And [a] pos) tA:=by
 intro wh pins s σ H Q I h
 refine isTrue_and (ł (ha pins s σ H Q I h) λc s1 e=>?_)
 cases c with
 |true=>exact isTrue_and_nil e
 |false=>exact e
def VN(ha:PT X a tA):PW X (.BoolOp .Or [a] pos) tA:=by
 intro wh pins s σ H Q I h
 refine isTrue_or (ł (ha pins s σ H Q I h) λc s1 e=>?_)
 cases c with
 |false=>exact isTrue_or_nil e
 |true=>exact e
def VP(ha:PT X a tA)(hb:PW X (.BoolOp .And (b::rest) pos) tB'):PW X (.BoolOp .And (a::b::rest) pos) (ZdI tA tB'):=by
 intro wh pins s σ H Q I h
 refine isTrue_and (ł (ha pins s σ H _ I h) λc s1 ⟨H1,I1,q1⟩=>?_)
 cases c with
 |true=>exact hb wh pins s1 σ H1 Q I1 q1
 |false=>exact⟨H1,I1,q1⟩
def Zbc(ha:PT X a tA)(hb:PW X (.BoolOp .Or (b::rest) pos) tB'):PW X (.BoolOp .Or (a::b::rest) pos) (tOr tA tB'):=by
 intro wh pins s σ H Q I h
 refine isTrue_or (ł (ha pins s σ H _ I h) λc s1 ⟨H1,I1,q1⟩=>?_)
 cases c with
 |true=>exact⟨H1,I1,q1⟩
 |false=>exact hb wh pins s1 σ H1 Q I1 q1
def VR(ha:PT X a tA):PT X (.UnaryOp .Not a pos) (ZdJ tA):=by
 intro pins s σ H Q I h
 exact isTrue_not (ha pins s σ H (λc H1=>Q (!c) H1) I h)
def V_{op}{t:TE}(h:PE X a t):PE X (.BoolOp op [a] pos) t:=λpins s σ H Q I hw=>BoolOp_one (h pins s σ H Q I hw)
def tIf(t:TT)(ta tb:TE):TE:=λσ H Q=>t σ H λc H1=>if c=true then ta σ H1 Q else tb σ H1 Q
def Ep{c:Expr}(hc:PT X c tA)(ha:PE X a ta)(hb:PE X b tb):PE X (.IfExp c a b pos) (tIf tA ta tb):=by
 intro pins s σ H Q I h
 refine wpAny_IfExp (ł (hc pins s σ H _ I h) λd s1 ⟨H1,I1,q1⟩=>?_)
 cases d with
 |true=>exact ha pins s1 σ H1 Q I1 q1
 |false=>exact hb pins s1 σ H1 Q I1 q1
end
end L2
namespace L2
open PySem PySem.Spec PyProof.Rows
def ū(K:PySem.W.Frag)(H:Hp)(a:Addr)(xs:List V):Prop:=
 Rd H a (.lst xs)\/
  ∃(o:Obj) (its:Array Value) (n:Nat),K.lookup a=some o/\o.cls=.type "list" /\o.dict=none/\o.data=.seq its n/\its.size<=sizeLine/\Vals xs its.toList
def fC(K:PySem.W.Frag)(H:Hp)(a:Addr)(xs:List V):Prop:=
 Rd H a (.tup xs)\/
  ∃(o:Obj) (its:Array Value) (n:Nat),K.lookup a=some o/\o.cls=.type "tuple" /\o.data=.seq its n/\its.size<=sizeLine/\Vals xs its.toList
def ZdK:Value->Option V
 | .none=>some .non
 | .bool b=>some (.bl b)
 | .int i _=>some (.int i)
 | .str x _=>some (.str x)
 | .bytes b _=>some (.Km b)
 | .float b _=>some (.flt b)
 | .ref a=>some (.ref a)
 | .type n=>some (.ty n)
 |_=>none
def RelV.abs{x:V}{u:Value}(r:RelV x u):ZdK u=some x:=by
 cases x with
 |non=>cases r;rfl
 |bl _=>cases r;rfl
 |int _=>obtain⟨t,rfl⟩:=r;rfl
 |str _=>obtain⟨t,rfl⟩:=r;rfl
 |Km _=>obtain⟨t,rfl⟩:=r;rfl
 |flt _=>obtain⟨t,rfl⟩:=r;rfl
 |ref _=>cases r;rfl
 |ty _=>cases r;rfl
theorem RelV.inj{x y:V}{u:Value}(r:RelV x u)(q:RelV y u):x=y:=Option.some.inj (r.abs.symm.trans q.abs)
theorem Vals.inj:∀{xs ys:List V} {us:List Value},Vals xs us->Vals ys us->xs=ys
 |_,_,_,.nil,.nil=>rfl
 |_,_,_,.cons r t,.cons r' t'=>by rw[r.inj r',Vals.inj t t']
section
variable{X:Cx}{pins:List (Addr×Obj)}{σ:St}{H:Hp}{s:Shared}{a:Addr}{xs ys:List V}
def ū.of{K:PySem.W.Frag}(h:H a=some (.lst xs)):ū K H a xs:=.inl (.inl h)
def fC.of{K:PySem.W.Frag}(h:H a=some (.tup xs)):fC K H a xs:=.inl (.inl h)
def Inv.list(I:Inv X pins σ H s)(h:ū X.K H a xs):∃its:List Value,Vals xs its/\PlainL s.heap a its.toArray/\xs.length<=sizeLine:=by
 rcases h with h|⟨o,its,n,hk,hc,hd,hs,hz,r⟩
 ·obtain⟨z,its,n,r,e⟩:=h.ok I.hok
  exact⟨its,r,⟨_,n,e,rfl,rfl,rfl⟩,z⟩
 ·refine⟨its.toList,r,⟨o,n,I.dz a o hk,hc,hd,by simpa using hs⟩,?_⟩
  have e:=r.length
  simp only[Array.length_toList] at e
  omega
def Inv.tuple(I:Inv X pins σ H s)(h:fC X.K H a xs):∃its:List Value,Vals xs its/\IsTup s.heap a its.toArray/\xs.length<=sizeLine:=by
 rcases h with h|⟨o,its,n,hk,hc,hs,hz,r⟩
 ·obtain⟨z,its,r,p⟩:=h.ok I.hok
  exact⟨its,r,p,z⟩
 ·refine⟨its.toList,r,⟨o,I.dz a o hk,hc,n,by simpa using hs⟩,?_⟩
  have e:=r.length
  simp only[Array.length_toList] at e
  omega
def Inv.vO(I:Inv X pins σ H s)(h:ū X.K H a xs)(h':ū X.K H a ys):xs=ys:=by
 obtain⟨its,r,⟨o,n,e,_,_,d⟩,_⟩:=I.list h
 obtain⟨its',r',⟨o',n',e',_,_,d'⟩,_⟩:=I.list h'
 rw[e] at e';cases e'
 rw[d] at d'
 injection d' with d1 _
 have:its=its':=by simpa using congrArg Array.toList d1
 subst this
 exact r.inj r'
def Inv.CK(I:Inv X pins σ H s)(h:fC X.K H a xs)(h':fC X.K H a ys):xs=ys:=by
 obtain⟨its,r,⟨o,e,_,n,d⟩,_⟩:=I.tuple h
 obtain⟨its',r',⟨o',e',_,n',d'⟩,_⟩:=I.tuple h'
 rw[e] at e';cases e'
 rw[d] at d'
 injection d' with d1 _
 have:its=its':=by simpa using congrArg Array.toList d1
 subst this
 exact r.inj r'
end
abbrev Cx.wish(X:Cx)(E:Value->Shared->Prop):Cx:={X with xe:=E}
abbrev Cx.ō(X:Cx):Cx:=X.wish λ_ _=>False
theorem Cx.Ok.wish{X:Cx}(ok:X.Ok)(E:Value->Shared->Prop):(X.wish E).Ok:=
 ⟨ok.mod,ok.kind,ok.glob,ok.blt,ok.above,ok.inj,ok.has,ok.cab,ok.hd,ok.frames,ok.stk,ok.exf,ok.bs,ok.Ay,ok.tH,ok.vN,ok.iz,ok.Eo,ok.tb⟩
def Cx.Ok.dB{X:Cx}{E:Value->Shared->Prop}(ok:(X.wish E).Ok):X.Ok:=
 ⟨ok.mod,ok.kind,ok.glob,ok.blt,ok.above,ok.inj,ok.has,ok.cab,ok.hd,ok.frames,ok.stk,ok.exf,ok.bs,ok.Ay,ok.tH,ok.vN,ok.iz,ok.Eo,ok.tb⟩
section
variable{X:Cx}{pins:List (Addr×Obj)}{σ:St}{H:Hp}{s:Shared}{E:Value->Shared->Prop}
theorem Inv.wish(I:Inv X pins σ H s)(E:Value->Shared->Prop):Inv (X.wish E) pins σ H s:=⟨I.ok.wish E,I.os,I.bare,I.base,I.loc,I.cell,I.free,I.au,I.pin,I.hok,I.len⟩
theorem Inv.dB(I:Inv (X.wish E) pins σ H s):Inv X pins σ H s:=⟨I.ok.dB,I.os,I.bare,I.base,I.loc,I.cell,I.free,I.au,I.pin,I.hok,I.len⟩
theorem SP.dB{D:Ends}{f:Flow}{s':Shared}(h:SP (X.wish E) pins D f s'):SP X pins D f s':=by
 cases f with
 |next=>obtain⟨σ',H',I,q⟩:=h;exact⟨σ',H',I.dB,q⟩
 |brk=>obtain⟨σ',H',I,q⟩:=h;exact⟨σ',H',I.dB,q⟩
 |cont=>obtain⟨σ',H',I,q⟩:=h;exact⟨σ',H',I.dB,q⟩
 |ret u=>obtain⟨v,σ',H',I,r,q⟩:=h;exact⟨v,σ',H',I.dB,r,q⟩
theorem PE.ō{e:Expr}{t:TE}(h:PE X.ō e t):PE X e t:=λpins s σ H Q I hw=>
 wpAny_mono (h pins s σ H Q (I.wish _) hw) (λ_ _ ⟨v,H',I',r,q⟩=>⟨v,H',I'.dB,r,q⟩) λ_ _ z=>False.elim z
end
section
variable{X:Cx}{st:Stmt}{rest:List Stmt}{t u:TS}{e:Expr}{te:TE}{pos:Pos}
def Oq:TS:=λD σ H=>D.nx σ H
def Zbd(t u:TS):TS:=λD σ H=>t {D with nx:=u D} σ H
def A_:dY X [] Oq:=λ_ _ σ H _ I h=>wpAny_execs_nil ⟨σ,H,I,h⟩
def vP(h1:PS X st t)(h2:dY X rest u):dY X (st::rest) (Zbd t u):=by
 intro pins s σ H D I h
 refine wpAny_execs_cons (ł (h1 pins s σ H {D with nx:=u D} I h) λf s1 q=>?_)
 cases f with
 |next=>
  obtain⟨σ',H',I',q⟩:=q
  exact h2 pins s1 σ' H' D I' q
 |ret v=>exact q
 |brk=>exact q
 |cont=>exact q
def Ku(h1:PS X st t):dY X [st] t:=by
 intro pins s σ H D I h
 refine wpAny_execs_cons (ł (h1 pins s σ H D I h) λf s1 q=>?_)
 cases f with
 |next=>exact wpAny_execs_nil q
 |ret v=>exact q
 |brk=>exact q
 |cont=>exact q
def Inv.quiet{pins:List (Addr×Obj)}{σ:St}{H:Hp}{s:Shared}(I:Inv X pins σ H s):interactive X.env=false:=by simp[interactive,I.ok.kind]
def Ot(te:TE):TS:=λD σ H=>te σ H λ_ H1=>D.nx σ H1
def aN(he:PE X e te)(hs:swapsWith e none pos.line X.env=pure false:=by rfl):PS X (.Expr e pos) (Ot te):=by
 intro pins s σ H D I h
 exact wpAny_Expr_any (ł (he pins s σ H _ I h) λv s1 ⟨x,H1,I1,r1,q1⟩=>⟨σ,H1,I1,q1⟩) I.quiet hs
def ZdL(te:TE):TS:=λD σ H=>te σ H D.rt
def Wa(he:PE X e te):PS X (.Return (some e) pos) (ZdL te):=by
 intro pins s σ H D I h
 exact wpAny_Return_some (ł (he pins s σ H _ I h) λv s1 ⟨x,H1,I1,r1,q1⟩=>⟨x,σ,H1,I1,r1,q1⟩)
def ZdM(c:TT)(t u:TS):TS:=λD σ H=>c σ H λb H1=>if b=true then t D σ H1 else u D σ H1
def Zbe{c:Expr}{a b:List Stmt}{tc:TT}(hc:PT X c tc)(ha:dY X a t)(hb:dY X b u):PS X (.If c a b pos) (ZdM tc t u):=by
 intro pins s σ H D I h
 refine wpAny_If (ł (hc pins s σ H _ I h) λd s1 ⟨H1,I1,q1⟩=>?_)
 cases d with
 |true=>exact ha pins s1 σ H1 D I1 q1
 |false=>exact hb pins s1 σ H1 D I1 q1
end
abbrev TG:=V->St->Hp->(St->Hp->Prop)->Prop
abbrev Er:=List V->St->Hp->(St->Hp->Prop)->Prop
def PG(X:Cx)(target:Expr)(t:TG):Prop:=
 ∀(pins:List (Addr×Obj)) (s:Shared) (σ:St) (H:Hp) (v:V) (u:Value) (Q:St->Hp->Prop),Inv X pins σ H s->RelV v u->t v σ H Q->
  wpAny (model X.prog X.w) X.A (assign target X.env u) (λ_ s'=>∃σ' H',Inv X pins σ' H' s'/\Q σ' H') X.xe s
def yj(X:Cx)(ts:List Expr)(t:Er):Prop:=
 ∀(pins:List (Addr×Obj)) (s:Shared) (σ:St) (H:Hp) (vs:List V) (us:List Value) (Q:St->Hp->Prop),Inv X pins σ H s->Vals vs us->t vs σ H Q->
  wpAny (model X.prog X.w) X.A (assignInOrder ((assignEach ts X.env).map (·.2)) us) (λ_ s'=>∃σ' H',Inv X pins σ' H' s'/\Q σ' H') X.xe s
abbrev TIp:=V->V->Hp->VK->Prop
def PIp(X:Cx)(op:Operator)(t:TIp):Prop:=
 ∀(pins:List (Addr×Obj)) (s:Shared) (σ:St) (H:Hp) (x y:V) (v u:Value) (Q:VK),Inv X pins σ H s->RelV x v->RelV y u->t x y H Q->
  wpAny (model X.prog X.w) X.A (inplaceOp op v u) (EP X pins σ Q) X.xe s
section
variable{X:Cx}{pos:Pos}
def Ou(i:Nat):TG:=λv σ H Q=>Q (σ.set i (some v)) H
def Kv{i:Nat}{x:Str}(hN:X.N.Nodup)(hi:X.N[i]?=some x)(hx:Loc X.env.scope x)(hf:X.fn x=true\/X.env.scope.names.lookup x=some .local:=by first|exact .inl rfl|exact .inr rfl|assumption):PG X (.Name x pos) (Ou i):=by
 intro pins s σ H v u Q I r h
 exact wpAny_assign_Name (jA I hN hi hx r (λs' I'=>⟨_,H,I',h⟩) hf)
def ZdN:Er:=λvs σ H Q=>vs=[]/\Q σ H
def Zbf(t:TG)(u:Er):Er:=λvs σ H Q=>∃v r,vs=v::r/\t v σ H λσ' H'=>u r σ' H' Q
def Kw:yj X [] ZdN:=by
 intro pins s σ H vs us Q I r h
 obtain⟨e,h⟩:=h
 subst e
 cases r
 exact assignInOrder_nil ⟨σ,H,I,h⟩
def Es{e:Expr}{es:List Expr}{t:TG}{u:Er}(h1:PG X e t)(h2:yj X es u)
 (hs:(assignEach (e::es) X.env).map (·.2)=assign e X.env::(assignEach es X.env).map (·.2):=by rfl):yj X (e::es) (Zbf t u):=by
 intro pins s σ H vs us Q I r h
 obtain⟨v,vr,e1,h⟩:=h
 subst e1
 cases r with
 |cons r rr=>
  rw[hs]
  refine assignInOrder_cons (ł (h1 pins s σ H _ _ _ I r h) λ_ s1 ⟨σ1,H1,I1,q1⟩=>?_)
  exact h2 pins s1 σ1 H1 _ _ Q I1 rr q1
def ZdO(K:PySem.W.Frag)(n:Nat)(t:Er):TG:=λv σ H Q=>∃a xs,v=.ref a/\fC K H a xs/\xs.length=n/\t xs σ H Q
def Eu{es:List Expr}{k:Nat}{t:Er}{n:Nat}(hc:X.calm=true)(h:yj X es t)
 (hn:(assignEach es X.env).length=n:=by rfl)(hst:(assignEach es X.env).findIdx? (·.1)=none:=by rfl):PG X (.Tuple es k pos) (ZdO X.K n t):=by
 intro pins s σ H v u Q I r hw
 obtain⟨a,xs,e1,hq,hl,hw⟩:=hw
 subst e1
 cases r
 obtain⟨its,rv,ht,hz⟩:=I.tuple hq
 refine assign_Tuple_tuple (I.ok.hd hc) ht (by simp[hn,<-hl,rv.length]) hst λh' hx=>?_
 have I1:Inv X pins σ H {s with heap:=h'}:=I.kept (t':=s.toks) λb o e=>hx b o (Nat.ne_of_lt (Heap.lt_size e)) e
 exact h pins _ σ H xs _ Q I1 (by simpa using rv) hw
def Zbg(te:TE)(g:TG):TS:=λD σ H=>te σ H λx H1=>g x σ H1 D.nx
def Wb{tg e:Expr}{te:TE}{g:TG}(he:PE X e te)(hg:PG X tg g)(hs:swapsWithSole [tg] e pos.line X.env=pure false:=by rfl)(hw:swappedStores [tg] e X.env=pure none:=by rfl)
 (h1:(assignEach [tg] X.env).map (·.2)=[assign tg X.env]:=by rfl):PS X (.Assign [tg] e pos) (Zbg te g):=by
 intro pins s σ H D I h
 refine wpAny_Assign_stores (ł (he pins s σ H _ I h) λv s1 ⟨x,H1,I1,r1,q1⟩=>?_) hs hw
 rw[h1]
 exact ł (hg pins s1 σ H1 x v _ I1 r1 q1) λ_ s2 q=>q
def Wc{i:Nat}{x:Str}{e:Expr}{te:TE}{pos':Pos}(hN:X.N.Nodup)(hi:X.N[i]?=some x)(hx:Loc X.env.scope x)(he:PE X e te)(hs:swapsWith e (some (.Name x pos')) pos.line X.env=pure false:=by rfl)(hf:X.fn x=true\/X.env.scope.names.lookup x=some .local:=by first|exact .inl rfl|exact .inr rfl|assumption) :
 PS X (.Assign [.Name x pos'] e pos) (Zbg te (Ou i)):=by
 intro pins s σ H D I h
 refine wpAny_Assign_Name (ł (he pins s σ H _ I h) λv s1 ⟨y,H1,I1,r1,q1⟩=>?_) hs
 exact jA I1 hN hi hx r1 (λs2 I2=>⟨_,H1,I2,q1⟩) hf
def ZdP(i:Nat)(te:TE)(ti:TIp):TS:=λD σ H=>∃x,σ[i]?=some (some x)/\te σ H λy H1=>ti x y H1 λz H2=>D.nx (σ.set i (some z)) H2
def Wd{i:Nat}{x:Str}{e:Expr}{te:TE}{op:Operator}{ti:TIp}{pos':Pos}(hN:X.N.Nodup)(hi:X.N[i]?=some x)(hx:Loc X.env.scope x)(he:PE X e te)(ho:PIp X op ti)(hf:X.fn x=true\/X.env.scope.names.lookup x=some .local:=by first|exact .inl rfl|exact .inr rfl|assumption) :
 PS X (.AugAssign (.Name x pos') op e pos) (ZdP i te ti):=by
 intro pins s σ H D I h
 obtain⟨v,e1,h⟩:=h
 obtain⟨m,hn,hl⟩:=I.loc
 have vis:Ax X.env.scope x:=by rcases hx with k|k;exact .inl k;exact .inr (.inl k)
 obtain⟨u,r,l⟩:=hl i x v hi e1 vis
 refine wpAny_AugAssign_Name ?_
 have go:wpAny (model X.prog X.w) X.A (eval e X.env) (λw s₂=>wpAny (model X.prog X.w) X.A (inplaceOp op u w) (λr s₃=>wpAny (model X.prog X.w) X.A (storeName X.env x r) (λ_=>SP X pins D .next) X.xe s₃) X.xe s₂) X.xe s:=by
  refine ł (he pins s σ H _ I h) λw s1 ⟨y,H1,I1,r1,q1⟩=>?_
  refine ł (ho pins s1 σ H1 v y u w _ I1 r r1 q1) λz s2 ⟨zv,H2,I2,r2,q2⟩=>?_
  exact jA I2 hN hi hx r2 (λs3 I3=>⟨_,H2,I3,q2⟩) hf
 rcases l with⟨hk,hm⟩|⟨hk,c,hc,hcell⟩
 ·exact wpAny_loadName_local I.ok.kind hk hn hm go
 ·rcases hk with hk|hk
  ·exact wpAny_loadName_cell I.ok.kind hk hc hcell go
  ·rcases hx with k|k
   ·have:X.env.scope.names.lookup x=some .free:=hk
    rw[k] at this;cases this
   ·have:X.env.scope.names.lookup x=some .free:=hk
    rw[k] at this;cases this
def ipI(f:Int->Int->Int):TIp:=λx y H Q=>∃i j,x=.int i/\y=.int j/\Q (.int (f i j)) H
end
section
variable{X:Cx}{pos:Pos}
def Wf(c:TT)(tb:TS):TS:=λD σ H=>∃W:Nat->St->Hp->Prop,(∃m,W m σ H)/\∀m σ H,W m σ H->
 c σ H λb H1=>if b=true then ∃N:St->Hp->Prop,(∀σ' H',N σ' H'->∃m',m'<m/\W m' σ' H')/\tb {D with nx:=N,ct:=N,bk:=D.nx} σ H1 else D.nx σ H1
def Ew{c:Expr}{body:List Stmt}{tc:TT}{tb:TS}(hp:PassesOwn (model X.prog X.w) X.A X.env X.xe)(hc:PT X c tc)(hb:dY X body tb):PS X (.While c body [] pos) (Wf tc tb):=by
 intro pins s σ H D I h
 obtain⟨W,⟨m0,w0⟩,turn⟩:=h
 refine wpAny_While (codeAny_whileLoop (λn s'=>∃σ' H',Inv X pins σ' H' s'/\W n σ' H') ?_ m0 ⟨σ,H,I,w0⟩)
 rintro n s1 ⟨σ1,H1,I1,w1⟩
 refine wpAny_passesOwn hp (ł (hc pins s1 σ1 H1 _ I1 (turn n σ1 H1 w1)) λb s2 ⟨H2,I2,q2⟩=>?_)
 cases b with
 |true=>
  obtain⟨N,hN,q2⟩:=q2
  rw[if_pos rfl]
  refine wpAny_passesOwn hp (ł (hb pins s2 σ1 H2 _ I2 q2) λf s3 q3=>?_)
  cases f with
  |next=>
   obtain⟨σ3,H3,I3,n3⟩:=q3
   obtain⟨m',hm,w3⟩:=hN σ3 H3 n3
   exact⟨m',hm,σ3,H3,I3,w3⟩
  |cont=>
   obtain⟨σ3,H3,I3,n3⟩:=q3
   obtain⟨m',hm,w3⟩:=hN σ3 H3 n3
   exact⟨m',hm,σ3,H3,I3,w3⟩
  |brk=>exact q3
  |ret v=>exact q3
 |false=>
  rw[if_neg Bool.false_ne_true]
  exact wpAny_execs_nil ⟨σ1,H2,I2,q2⟩
end
structure It where
 go:Nat->Hp->Prop
 yld:Nat->Hp->V->Hp->Prop
 stop:Nat->Hp->Prop
def b_(X:Cx)(pins:List (Addr×Obj))(H:Hp)(b:Addr):Prop:=
 H b=none/\b≠X.env.locals/\b∉X.fs/\(b∈X.ex\/X.s₀.heap.objs.size<=b)/\(∀x c,X.env.cells.lookup x=some c->c≠b)/\∀p∈X.pn++pins,p.1≠b
def Inv.tK{X:Cx}{pins:List (Addr×Obj)}{σ:St}{H H':Hp}{s:Shared}{b:Addr}(I:Inv X pins σ H s)(hb:s.heap.objs.size<=b)(hn:H' b=none):b_ X pins H' b:=by
 refine⟨hn,Nat.ne_of_gt (Nat.lt_of_lt_of_le I.lt hb),I.ZdG hb,.inr (Nat.le_trans I.sz hb),λx c e z=>?_,λp hp z=>?_⟩
 ·obtain⟨v,q⟩:=I.cell x c e
  exact absurd (Nat.lt_of_lt_of_le q.lt (by rw[z];exact hb)) (Nat.lt_irrefl _)
 ·exact absurd (Nat.lt_of_lt_of_le (Heap.lt_size (I.pin p hp).1) (by rw[z];exact hb)) (Nat.lt_irrefl _)
structure Turn(P:Program)(w:World)(K:PySem.W.Frag)(tg:Expr)(J:It)(fp:List Addr)(it:Addr)(tn:Nat->Heap->Prop):Prop where
 mem:it∈fp
 obj:∀i h,tn i h->∀b∈fp,∃o,h.get? b=some o/\∀v,o.data≠ .cell v
 keep:∀i h h',tn i h->(∀b∈fp,∀o,h.get? b=some o->h'.get? b=some o)->tn i h'
 item:∀(X:Cx),X.prog=P->X.w=w->X.K=K->X.calm=true->∀(i:Nat) (pins:List (Addr×Obj)) (s:Shared) (σ:St) (H:Hp) (E:Value->Shared->Prop),Inv X pins σ H s->(∀b∈fp,b_ X pins H b)->tn i s.heap->J.go i H->
  wpAny (model P w) X.A (pyNext (.ref it)) (λr s1=>∃u,r=some u/\
   wpAny (model P w) X.A (letOwnedTupleGo tg (.ref it) u) (λ_ s2=>∃x H',Inv X pins σ H' s2/\RelV x u/\J.yld i H x H'/\tn (i+1) s2.heap/\∀b∈fp,H' b=none) E s1) E s
 done:∀(X:Cx),X.prog=P->X.w=w->X.K=K->X.calm=true->∀(i:Nat) (pins:List (Addr×Obj)) (s:Shared) (σ:St) (H:Hp) (E:Value->Shared->Prop),Inv X pins σ H s->(∀b∈fp,b_ X pins H b)->tn i s.heap->J.stop i H->
  wpAny (model P w) X.A (pyNext (.ref it)) (λr s1=>r=none/\Inv X pins σ H s1) E s
 self:∀(A:Around) (i:Nat) (s:Shared) (Q:Value->Shared->Prop) (E:Value->Shared->Prop),tn i s.heap->Q (.ref it) s->wpAny (model P w) A (pyIter (.ref it)) Q E s
abbrev TI:=St->Hp->(It->Hp->Prop)->Prop
def PIE(X:Cx)(pins:List (Addr×Obj))(σ:St)(tg:Expr)(R:It->Hp->Prop)(itv:Value)(s2:Shared):Prop:=
 ∃(it:Addr) (fp:List Addr) (tn:Nat->Heap->Prop) (J:It) (H':Hp),itv=.ref it/\Inv X pins σ H' s2/\Turn X.prog X.w X.K tg J fp it tn/\tn 0 s2.heap/\(∀b∈fp,b_ X pins H' b)/\R J H'
def PI(X:Cx)(tg iter:Expr)(wi:TI):Prop:=
 ∀(pins:List (Addr×Obj)) (s:Shared) (σ:St) (H:Hp) (R:It->Hp->Prop),Inv X pins σ H s->wi σ H R->
  wpAny (model X.prog X.w) X.A (eval iter X.env) (λv s1=>wpAny (model X.prog X.w) X.A (pyIter v) (PIE X pins σ tg R) X.xe s1) X.xe s
def vQ{M:Model}{A:Around}{E:Value->Shared->Prop}{s:Shared}{tg:Expr}{it:Addr}{u:Value}{o:Obj}{n:String}{vs:Array Value}{Q:Unit->Shared->Prop}(ho:s.heap.get? it=some o)(hc:o.cls=.type n)(hd:o.data=.fields vs)
 (hn:["enumerate","zip","dict_itemiterator","dict_reverseitemiterator","odict_iterator","itertools.zip_longest","itertools.pairwise"].contains n=false)(hQ:Q () s):wpAny M A (letOwnedTupleGo tg (.ref it) u) Q E s:=by
 unfold letOwnedTupleGo
 cases tg<;>first
  |exact wpAny_pure hQ
  |(cases u<;>first
     |exact wpAny_pure hQ
     |(refine wpAny_bind (wpAny_load ho ?_)
       rw[hc,hd]
       show wpAny M A (if(["enumerate","zip","dict_itemiterator","dict_reverseitemiterator","odict_iterator","itertools.zip_longest","itertools.pairwise"].contains n && vs[0]?== some (rawInt _))=true then _ else _) Q E s
       rw[if_neg (by intro h;rw[hn,Bool.false_and] at h;cases h)]
       exact wpAny_pure hQ))
def Itl(K:PySem.W.Frag)(a:Addr):It:=
 ⟨λi H=>∃xs x,ū K H a xs/\xs[i]?=some x,λi H x H'=>H'=H/\∀xs,ū K H a xs->xs[i]?=some x,λi H=>∃xs,ū K H a xs/\xs.length<=i⟩
def Itt(K:PySem.W.Frag)(a:Addr):It:=
 ⟨λi H=>∃xs x,fC K H a xs/\xs[i]?=some x,λi H x H'=>H'=H/\∀xs,fC K H a xs->xs[i]?=some x,λi H=>∃xs,fC K H a xs/\xs.length<=i⟩
def Itr(lo:Int)(n:Nat):It:=⟨λi _=>i<n,λi H x H'=>H'=H/\x=.int (lo+i),λi _=>n<=i⟩
def CN{P:Program}{w:World}{K:PySem.W.Frag}{tg:Expr}(a it:Addr):Turn P w K tg (Itl K a) [it] it (λi h=>h.IsListIter it a i) where
 mem:=by simp
 obj:=λi h st b hb=>by
  have e:b=it:=by simpa using hb
  subst e
  obtain⟨o,e,c,d⟩:=st
  exact⟨o,e,λv z=>by rw[d] at z;cases z⟩
 keep:=λi h h' st k=>st.at λo e=>k it (by simp) o e
 item:=by
  intro X hP hw hK hc i pins s σ H E I hf st hg
  subst hP hw hK
  obtain⟨xs,x,hq,hx⟩:=hg
  obtain⟨its,rv,p,hz⟩:=I.list hq
  obtain⟨u,hu,ru⟩:=rv.get hx
  obtain⟨f0,f1,f2,f3,f4,f5⟩:=hf it (by simp)
  refine wpAny_pyNext_list_item st p.isList (x:=u) (by simpa using hu) λh' st' sb=>?_
  have I1:Inv X pins σ H {s with heap:=h'}:=I.turned (t':=s.toks) (λb o hb e=>(sb.2 b hb).trans e) f0 f1 f3 f4 f5
  obtain⟨o,e,c,d⟩:=id st'
  exact⟨u,rfl,vQ (s:={s with heap:=h'}) e c d (by decide) ⟨x,H,I1,ru,⟨rfl,λys hy=>by rw[I.vO hy hq];exact hx⟩,st',λb hb=>(hf b hb).1⟩⟩
 done:=by
  intro X hP hw hK hc i pins s σ H E I hf st hg
  subst hP hw hK
  obtain⟨xs,hq,hx⟩:=hg
  obtain⟨its,rv,p,hz⟩:=I.list hq
  obtain⟨f0,f1,f2,f3,f4,f5⟩:=hf it (by simp)
  have hl:=rv.length
  exact wpAny_pyNext_list_end (I.ok.hd hc) st p.isList (by simp;omega) λh' eb=>⟨rfl,I.turned (t':=s.toks) (λb o hb e=>eb b o hb e) f0 f1 f3 f4 f5⟩
 self:=λ_ _ _ _ _ st h=>wpAny_pyIter_listiter st h
def yE{P:Program}{w:World}{K:PySem.W.Frag}{tg:Expr}(a it:Addr):Turn P w K tg (Itt K a) [it] it (λi h=>h.IsTupleIter it a i) where
 mem:=by simp
 obj:=λi h st b hb=>by
  have e:b=it:=by simpa using hb
  subst e
  obtain⟨o,e,c,d⟩:=st
  exact⟨o,e,λv z=>by rw[d] at z;cases z⟩
 keep:=λi h h' st k=>st.at λo e=>k it (by simp) o e
 item:=by
  intro X hP hw hK hc i pins s σ H E I hf st hg
  subst hP hw hK
  obtain⟨xs,x,hq,hx⟩:=hg
  obtain⟨its,rv,p,hz⟩:=I.tuple hq
  obtain⟨u,hu,ru⟩:=rv.get hx
  obtain⟨f0,f1,f2,f3,f4,f5⟩:=hf it (by simp)
  refine wpAny_pyNext_tuple_item st (show s.heap.IsTuple a its.toArray from p) (x:=u) (by simpa using hu) λh' st' sb=>?_
  have I1:Inv X pins σ H {s with heap:=h'}:=I.turned (t':=s.toks) (λb o hb e=>(sb.2 b hb).trans e) f0 f1 f3 f4 f5
  obtain⟨o,e,c,d⟩:=id st'
  exact⟨u,rfl,vQ (s:={s with heap:=h'}) e c d (by decide) ⟨x,H,I1,ru,⟨rfl,λys hy=>by rw[I.CK hy hq];exact hx⟩,st',λb hb=>(hf b hb).1⟩⟩
 done:=by
  intro X hP hw hK hc i pins s σ H E I hf st hg
  subst hP hw hK
  obtain⟨xs,hq,hx⟩:=hg
  obtain⟨its,rv,p,hz⟩:=I.tuple hq
  obtain⟨f0,f1,f2,f3,f4,f5⟩:=hf it (by simp)
  have hl:=rv.length
  exact wpAny_pyNext_tuple_end (I.ok.hd hc) st (show s.heap.IsTuple a its.toArray from p) (by simp;omega) λh' eb=>⟨rfl,I.turned (t':=s.toks) (λb o hb e=>eb b o hb e) f0 f1 f3 f4 f5⟩
 self:=λ_ _ _ _ _ st h=>wpAny_pyIter_tupleiter st h
def yF{P:Program}{w:World}{K:PySem.W.Frag}{tg:Expr}(it:Addr)(lo:Int)(n:Nat):Turn P w K tg (Itr lo n) [it] it (λi h=>IsRangeIter h it (lo+(i:Nat)*1) ((n:Int)-(i:Nat)) 1) where
 mem:=by simp
 obj:=λi h st b hb=>by
  have e:b=it:=by simpa using hb
  subst e
  exact⟨_,st,λv z=>by
   have z':Data.fields _=Data.cell v:=z
   cases z'⟩
 keep:=λi h h' st k=>k it (by simp) _ st
 item:=by
  intro X hP hw hK hc i pins s σ H E I hf st hg
  subst hP hw hK
  obtain⟨f0,f1,f2,f3,f4,f5⟩:=hf it (by simp)
  have W:=Walks.range (prog:=X.prog) (w:=X.w) (I.ok.hd hc) it lo 1 n
  refine W.item i s _ _ hg st λv h' tk hv st' kk=>?_
  obtain⟨t,rfl⟩:=hv
  have I1:Inv X pins σ H {s with heap:=h',toks:=tk}:=I.turned (λb o hb e=>kk b o (by simpa using hb) e) f0 f1 f3 f4 f5
  refine⟨_,rfl,vQ (s:={s with heap:=h',toks:=tk}) (n:= "range_iterator") st' rfl rfl (by decide) ⟨.int (lo+i),H,I1,⟨t,?_⟩,⟨rfl,rfl⟩,st',λb hb=>(hf b hb).1⟩⟩
  rw[Int.mul_one]
 done:=by
  intro X hP hw hK hc i pins s σ H E I hf st hg
  subst hP hw hK
  obtain⟨f0,f1,f2,f3,f4,f5⟩:=hf it (by simp)
  exact wpAny_pyNext_range_end (I.ok.hd hc) st (by have:n<=i:=hg;omega) λh' eb=>⟨rfl,I.turned (t':=s.toks) (λb o hb e=>eb b o hb e) f0 f1 f3 f4 f5⟩
 self:=λ_ _ _ _ _ st h=>wpAny_pyIter_rangeiter st h
end L2
namespace L2
open PySem PySem.Spec PyProof.Rows
section
variable{X:Cx}{tg:Expr}
def Ey{pins:List (Addr×Obj)}{σ:St}{H:Hp}{s:Shared}{R:It->Hp->Prop}{E:Value->Shared->Prop}{lo hi:Int}{t u v:Tok}{tk:Nat}(I:Inv X pins σ H s)(h1: -(2 ^ 62)<=lo)(h2:lo<2 ^ 62)(h3: -(2 ^ 62)<=hi)(h4:hi<2 ^ 62)
 (q:R (Itr lo (hi-lo).toNat) H):wpAny (model X.prog X.w) X.A (pyIter (.ref s.heap.objs.size)) (PIE X pins σ tg R) E {s with heap:=s.heap.push {cls:=.type "range",data:=.fields #[.int lo t,.int hi u,.int 1 v]},toks:=tk}:=by
 refine wpAny_pyIter_range (IsRange.new ..) (small_one h1 h2 h3 h4) ?_
 have I1:Inv X pins σ H {s with heap:=s.heap.push {cls:=.type "range",data:=.fields #[.int lo t,.int hi u,.int 1 v]},toks:=tk}:=I.kept λb o e=>Heap.get?_push_of_some _ e
 refine⟨(s.heap.push {cls:=.type "range",data:=.fields #[.int lo t,.int hi u,.int 1 v]}).objs.size,[(s.heap.push {cls:=.type "range",data:=.fields #[.int lo t,.int hi u,.int 1 v]}).objs.size],_,_,H,rfl,
  I1.kept (t':=tk) λb o e=>Heap.get?_push_of_some _ e,yF _ lo (hi-lo).toNat,?_,λb hb=>?_,q⟩
 ·have e1:lo+((0:Nat):Int)*1=lo:=by simp
  have e2:(((hi-lo).toNat:Nat):Int)-((0:Nat):Int)=Builtin.Range.rangeSize lo hi 1:=by rw[rangeSize_one];split<;>omega
  show IsRangeIter _ _ (lo+((0:Nat):Int)*1) ((((hi-lo).toNat:Nat):Int)-((0:Nat):Int)) 1
  rw[e1,e2]
  exact Heap.get?_push_size _ rfl
 ·have e:b=(s.heap.push {cls:=.type "range",data:=.fields #[.int lo t,.int hi u,.int 1 v]}).objs.size:=by simpa using hb
  subst e
  exact I1.tK (Nat.le_refl _) (I1.hok.fresh (Nat.le_refl _))
def Zbh(ta:TA):TI:=λσ H R=>ta σ H λvs H1=>∃j:Int,vs=[.int j]/\ -(2 ^ 62)<=j/\j<2 ^ 62/\R (Itr 0 j.toNat) H1
def CP{a:Expr}{ta:TA}{p pos:Pos}(hg:Gl X "range")(hm:X.mg "range" =none)(ha:PA X [a] ta)(hs:starEach [a] X.env=[(false,eval a X.env)]:=by rfl):PI X tg (.Call (.Name "range" p) [a] [] pos) (Zbh ta):=by
 intro pins s σ H R I h
 refine Call_ (fM I hg hm boot_range (PyProof.Rows.callWith_type1 (ł (ha pos pins s σ H _ I h) λus s1 ⟨vs,H1,I1,r1,q1⟩=>?_) hs rfl))
 obtain⟨j,e,q1,q2,q⟩:=q1
 subst e
 cases r1 with
 |cons r rr=>
  cases rr
  obtain⟨t,rfl⟩:=r
  exact call_range_1 (Ey I1 (by omega) (by omega) q1 q2 (by simpa using q))
def ZdQ(wi:TI)(g:TG)(tb:TS):TS:=λD σ H=>wi σ H λJ H1=>∃W:Nat->Nat->St->Hp->Prop,(∃m,W 0 m σ H1)/\∀i m σ H,W i m σ H->
 (J.stop i H/\D.nx σ H)\/(J.go i H/\∃N:St->Hp->Prop,(∀σ' H',N σ' H'->∃m',m'<m/\W (i+1) m' σ' H')/\∀x H',J.yld i H x H'->g x σ H' λσ2 H2=>tb {D with nx:=N,ct:=N,bk:=D.nx} σ2 H2)
def jX(fp:List Addr)(h:Heap):List (Addr×Obj):=fp.filterMap λb=>(h.get? b).map λo=>(b,o)
def Ŝ{fp:List Addr}{h:Heap}{b:Addr}{o:Obj}(hb:b∈fp)(e:h.get? b=some o):(b,o)∈jX fp h:=List.mem_filterMap.mpr ⟨b,hb,by rw[e];rfl⟩
def CQ{fp:List Addr}{h:Heap}{p:Addr×Obj}(hp:p∈jX fp h):p.1∈fp/\h.get? p.1=some p.2:=by
 obtain⟨b,hb,e⟩:=List.mem_filterMap.mp hp
 cases q:h.get? b with
 |none=>rw[q] at e;cases e
 |some o=>
  rw[q] at e
  have e':(b,o)=p:=Option.some.inj e
  subst e'
  exact⟨hb,q⟩
def Inv.pinned{pins:List (Addr×Obj)}{σ:St}{H:Hp}{s:Shared}{fp:List Addr}(I:Inv X pins σ H s)(hf:∀b∈fp,b_ X pins H b)(ho:∀b∈fp,∃o,s.heap.get? b=some o/\∀v,o.data≠ .cell v):Inv X (pins++jX fp s.heap) σ H s:=
 I.Az fun p hp=>(List.mem_append.mp hp).elim (fun z=>I.pin p (List.mem_append_right _ z)) fun z=>by
   obtain⟨hb,e⟩:=CQ z
   obtain⟨f0,f1,f2,_⟩:=hf p.1 hb
   obtain⟨o,e',d⟩:=ho p.1 hb
   rw[e] at e';cases e'
   exact⟨e,f0,f1,f2,d⟩
def Inv.cM{pins pl:List (Addr×Obj)}{σ:St}{H:Hp}{s:Shared}(I:Inv X (pins++pl) σ H s):Inv X pins σ H s:=I.Az λp hp=>I.pin p (List.mem_append_right _ (List.mem_append_left _ hp))
def Wg{iter:Expr}{body:List Stmt}{wi:TI}{g:TG}{tb:TS}{pos:Pos}(hp:PassesOwn (model X.prog X.w) X.A X.env X.xe)(hc:X.calm=true)(hi:PI X tg iter wi)(hg:PG X tg g)(hb:dY X body tb)
 (hs:∀x,foldedSetIterable iter X.env x=pure x:=by intro _;rfl):PS X (.For tg iter body [] pos) (ZdQ wi g tb):=by
 intro pins s σ H D I h
 refine wpAny_For (ł (hi pins s σ H _ I h) λv s1 h1=>ł h1 λitv s2 h2=>?_) hs
 obtain⟨it,fp,tn,J,H2,e,I2,T,st2,f2,W,⟨m0,w0⟩,turn⟩:=h2
 subst e
 -- what stays true of the iterator's objects through the loop
 have stat:∀{H':Hp},(∀b∈fp,H' b=none)->∀b∈fp,b_ X pins H' b:=λhn b hb=>⟨hn b hb,(f2 b hb).2⟩
 refine codeAny_forLoop_any (λn s'=>∃i σ' H',Inv X pins σ' H' s'/\tn i s'.heap/\(∀b∈fp,H' b=none)/\W i n σ' H') ?_ m0 ⟨0,σ,H2,I2,st2,λb hb=>(f2 b hb).1,w0⟩
 rintro n s3 ⟨i,σ3,H3,I3,st3,fr3,w3⟩
 rcases turn i n σ3 H3 w3 with⟨stop,qn⟩|⟨go,N,hN,step⟩
 ·refine wpAny_passesOwn hp (ł (T.done X rfl rfl rfl hc i pins s3 σ3 H3 X.xe I3 (stat fr3) st3 stop) λr s4 ⟨hr,I4⟩=>?_)
  subst hr
  exact wpAny_execs_nil ⟨σ3,H3,I4,qn⟩
 ·refine wpAny_passesOwn hp (ł (T.item X rfl rfl rfl hc i pins s3 σ3 H3 X.xe I3 (stat fr3) st3 go) λr s4 ⟨u,hr,h4⟩=>?_)
  subst hr
  refine wpAny_passesOwn hp (ł h4 λ_ s5 ⟨x,H5,I5,r5,y5,Ky,Wh⟩=>?_)
  have I5':=I5.pinned (stat Wh) (T.obj _ _ Ky)
  refine wpAny_passesOwn hp (ł (hg _ s5 σ3 H5 x u _ I5' r5 (step x H5 y5)) λ_ s6 ⟨σ6,H6,I6,q6⟩=>?_)
  refine wpAny_passesOwn hp (ł (hb _ s6 σ6 H6 _ I6 q6) λf s7 q7=>?_)
  have again:∀{σ7:St} {H7:Hp},Inv X (pins++jX fp s5.heap) σ7 H7 s7->N σ7 H7->∃m,m<n/\∃i σ' H',Inv X pins σ' H' s7/\tn i s7.heap/\(∀b∈fp,H' b=none)/\W i m σ' H':=fun{σ7 H7} I7 n7=>by
   obtain⟨m',hm,w7⟩:=hN σ7 H7 n7
   refine⟨m',hm,i+1,σ7,H7,I7.cM,T.keep _ _ _ Ky λb hb o e=>(I7.pin (b,o) (List.mem_append_right _ (List.mem_append_right _ (Ŝ hb e)))).1,λb hb=>?_,w7⟩
   obtain⟨o,e,d⟩:=T.obj _ _ Ky b hb
   exact(I7.pin (b,o) (List.mem_append_right _ (List.mem_append_right _ (Ŝ hb e)))).2.1
  cases f with
  |next=>obtain⟨σ7,H7,I7,n7⟩:=q7;exact again I7 n7
  |cont=>obtain⟨σ7,H7,I7,n7⟩:=q7;exact again I7 n7
  |brk=>obtain⟨σ7,H7,I7,q7⟩:=q7;exact⟨σ7,H7,I7.cM,q7⟩
  |ret v=>obtain⟨x7,σ7,H7,I7,r7,q7⟩:=q7;exact⟨x7,σ7,H7,I7.cM,r7,q7⟩
end
end L2
namespace L2
open PySem PySem.Spec PyProof.Rows
abbrev R2:=V->V->Hp->VK->Prop
def Š(X:Cx)(f:Value->Value->Sem Value)(r:R2):Prop:=
 ∀(pins:List (Addr×Obj)) (s:Shared) (σ:St) (H:Hp) (x y:V) (v u:Value) (Q:VK),Inv X pins σ H s->RelV x v->RelV y u->r x y H Q->
  wpAny (model X.prog X.w) X.A (f v u) (EP X pins σ Q) X.xe s
def Kz(X:Cx)(f:Value->Sem Value)(r:V->Hp->VK->Prop):Prop:=
 ∀(pins:List (Addr×Obj)) (s:Shared) (σ:St) (H:Hp) (x:V) (v:Value) (Q:VK),Inv X pins σ H s->RelV x v->r x H Q->
  wpAny (model X.prog X.w) X.A (f v) (EP X pins σ Q) X.xe s
def Ń(X:Cx)(f:Value)(r:List V->Hp->VK->Prop):Prop:=
 ∀(pins:List (Addr×Obj)) (s:Shared) (σ:St) (H:Hp) (xs:List V) (us:List Value) (Q:VK),Inv X pins σ H s->Vals xs us->r xs H Q->
  wpAny (model X.prog X.w) X.A (call f us) (EP X pins σ Q) X.xe s
def ZdR(X:Cx)(r:V->Hp->(Bool->Hp->Prop)->Prop):Prop:=
 ∀(pins:List (Addr×Obj)) (s:Shared) (σ:St) (H:Hp) (x:V) (v:Value) (Q:Bool->Hp->Prop),Inv X pins σ H s->RelV x v->r x H Q->
  wpAny (model X.prog X.w) X.A (truthy v) (TP X pins σ Q) X.xe s
def tOp(r:R2)(ta tb:TE):TE:=λσ H Q=>ta σ H λx H1=>tb σ H1 λy H2=>r x y H2 Q
def tUn(r:V->Hp->VK->Prop)(ta:TE):TE:=λσ H Q=>ta σ H λx H1=>r x H1 Q
def rI(C:Int->Int->Prop)(g:Int->Int->V):R2:=λx y H Q=>∃i j,x=.int i/\y=.int j/\C i j/\Q (g i j) H
def KC(g:Int->Int->V):R2:=λx y H Q=>∃i j,x=.int i/\y=.int j/\Q (g i j) H
def rU(g:Int->V):V->Hp->VK->Prop:=λx H Q=>∃i,x=.int i/\Q (g i) H
section
variable{X:Cx}{a b c:Expr}{ta tb tc:TE}{pos:Pos}
def Wi(ha:PE X a ta)(hb:PE X b tb){pins:List (Addr×Obj)}{s:Shared}{σ:St}{H:Hp}{R:V->V->Hp->Prop}(I:Inv X pins σ H s)
 (h:ta σ H λx H1=>tb σ H1 λy H2=>R x y H2){Q:Value->Shared->Prop}{f:Value->Value->Sem Value}
 (hf:∀v u s2 x y H2,Inv X pins σ H2 s2->RelV x v->RelV y u->R x y H2->wpAny (model X.prog X.w) X.A (f v u) Q X.xe s2) :
 wpAny (model X.prog X.w) X.A (eval a X.env) (λv s₁=>wpAny (model X.prog X.w) X.A (eval b X.env) (λu s₂=>wpAny (model X.prog X.w) X.A (f v u) Q X.xe s₂) X.xe s₁) X.xe s:=by
 refine ł (ha pins s σ H _ I h) λv s1 ⟨x,H1,I1,r1,q1⟩=>?_
 refine ł (hb pins s1 σ H1 _ I1 q1) λu s2 ⟨y,H2,I2,r2,q2⟩=>?_
 exact hf v u s2 x y H2 I2 r1 r2 q2
def Ov{op:Operator}{r:R2}(ho:Š X (binaryOp op) r)(ha:PE X a ta)(hb:PE X b tb):PE X (.BinOp a op b pos) (tOp r ta tb):=by
 intro pins s σ H Q I h
 exact wpAny_BinOp (Wi ha hb I h λv u s2 x y H2 I2 rx ry q=>ho pins s2 σ H2 x y v u Q I2 rx ry q)
def Zbi{op:UnaryOp}{r:V->Hp->VK->Prop}(ho:Kz X (unaryOp op) r)(ha:PE X a ta):PE X (.UnaryOp op a pos) (tUn r ta):=by
 intro pins s σ H Q I h
 exact UnaryOp_ (ł (ha pins s σ H _ I h) λv s1 ⟨x,H1,I1,r1,q1⟩=>ho pins s1 σ H1 x v Q I1 r1 q1)
def Ba{f:Value->Value->Sem Value}{C:Int->Int->Prop}{g:Int->Int->Int}
 (rule:∀(i j:Int) (t u:Tok) (s:Shared) (Q:Value->Shared->Prop) (E:Value->Shared->Prop),C i j->Q (.int (g i j) s.toks) {s with toks:=s.toks+1}->wpAny (model X.prog X.w) X.A (f (.int i t) (.int j u)) Q E s) :
 Š X f (rI C λi j=>.int (g i j)):=by
 intro pins s σ H x y v u Q I rx ry h
 obtain⟨i,j,rfl,rfl,hc,q⟩:=h
 obtain⟨t,rfl⟩:=rx
 obtain⟨t',rfl⟩:=ry
 exact rule i j t t' s _ _ hc ⟨.int (g i j),H,I.tok _,⟨_,rfl⟩,q⟩
def vR{f:Value->Value->Sem Value}{g:Int->Int->Int}
 (rule:∀(i j:Int) (t u:Tok) (s:Shared) (Q:Value->Shared->Prop) (E:Value->Shared->Prop),Q (.int (g i j) s.toks) {s with toks:=s.toks+1}->wpAny (model X.prog X.w) X.A (f (.int i t) (.int j u)) Q E s) :
 Š X f (KC λi j=>.int (g i j)):=by
 intro pins s σ H x y v u Q I rx ry h
 obtain⟨i,j,rfl,rfl,q⟩:=h
 obtain⟨t,rfl⟩:=rx
 obtain⟨t',rfl⟩:=ry
 exact rule i j t t' s _ _ ⟨.int (g i j),H,I.tok _,⟨_,rfl⟩,q⟩
def Wj{f:Value->Value->Sem Value}{g:Int->Int->Bool}
 (rule:∀(i j:Int) (t u:Tok) (s:Shared) (Q:Value->Shared->Prop) (E:Value->Shared->Prop),Q (.bool (g i j)) s->wpAny (model X.prog X.w) X.A (f (.int i t) (.int j u)) Q E s) :
 Š X f (KC λi j=>.bl (g i j)):=by
 intro pins s σ H x y v u Q I rx ry h
 obtain⟨i,j,rfl,rfl,q⟩:=h
 obtain⟨t,rfl⟩:=rx
 obtain⟨t',rfl⟩:=ry
 exact rule i j t t' s _ _ ⟨.bl (g i j),H,I,rfl,q⟩
def CT(i j:Int):Prop:=0<=j/\j<=1000000/\i.natAbs<2 ^ 64
def Wk(i j:Int):Prop:=(-(2 ^ 64)<i/\i<2 ^ 64)\/(-(2 ^ 64)<j/\j<2 ^ 64)
def Wk.ok{i j:Int}(h:Wk i j):IntMulOk i j:=by
 rcases h with⟨h1,h2⟩|⟨h1,h2⟩
 ·exact .of_left (intBits_le_64 h1 h2)
 ·exact .of_right (intBits_le_64 h1 h2)
def yG(k:Nat):(0:Int)<=2 ^ k:=by
 rw[two_pow_cast]
 exact Int.natCast_nonneg _
def Wm:Š X (binaryOp .Add) (KC λi j=>.int (i+j)):=vR λ_ _ _ _ _ _ _ q=>add_int q
def Wn:Š X (binaryOp .Sub) (KC λi j=>.int (i-j)):=vR λ_ _ _ _ _ _ _ q=>sub_int q
def KD:Š X (binaryOp .Mod) (rI (λ_ j=>j≠0) λi j=>.int (i.fmod j)):=Ba λ_ _ _ _ _ _ _ hc q=>mod_int' hc q
def Wo:Š X (binaryOp .Pow) (rI CT λi j=>.int (i ^ j.toNat)):=Ba λ_ _ _ _ _ _ _ hc q=>pow_int_small hc.1 hc.2.1 hc.2.2 q
def Wq:Š X (binaryOp .LShift) (rI CT λi j=>.int (i*2 ^ j.toNat)):=Ba λ_ _ _ _ _ _ _ hc q=>lshift_int_small hc.1 hc.2.1 hc.2.2 q
def Wr:Š X (binaryOp .RShift) (rI (λ_ j=>0<=j) λi j=>.int (i / 2 ^ j.toNat)):=Ba λi j _ _ _ _ _ hc q=>
 rshift_int hc (by rw[Int.fdiv_eq_ediv_of_nonneg i (yG _)];exact q)
def Ws:Š X (binaryOp .BitAnd) (KC λi j=>.int (Builtin.bitAnd i j)):=vR λ_ _ _ _ _ _ _ q=>and_int q
def unI{f:Value->Sem Value}{g:Int->Int}
 (rule:∀(i:Int) (t:Tok) (s:Shared) (Q:Value->Shared->Prop) (E:Value->Shared->Prop),Q (.int (g i) s.toks) {s with toks:=s.toks+1}->wpAny (model X.prog X.w) X.A (f (.int i t)) Q E s) :
 Kz X f (rU λi=>.int (g i)):=by
 intro pins s σ H x v Q I rx h
 obtain⟨i,rfl,q⟩:=h
 obtain⟨t,rfl⟩:=rx
 exact rule i t s _ _ ⟨.int (g i),H,I.tok _,⟨_,rfl⟩,q⟩
def Wt:Kz X (unaryOp .USub) (rU λi=>.int (-i)):=unI λ_ _ _ _ _ q=>neg_int q
end
section
variable{X:Cx}{a b c:Expr}{ta tb tc:TE}{pos:Pos}
def Ez{pins:List (Addr×Obj)}{σ:St}{H:Hp}{s:Shared}{Q:VK}{k k':Bool}(I:Inv X pins σ H s)(q:Q (.bl k) H)(e:k=k'):EP X pins σ Q (.bool k') s:=by
 subst e
 exact⟨.bl k,H,I,rfl,q⟩
def Zbj:Š X (compareOp .Lt) (KC λi j=>.bl (decide (i<j))):=Wj λ_ _ _ _ _ _ _ q=>lt_int q
def Zbk:Š X (compareOp .LtE) (KC λi j=>.bl (decide (i<=j))):=Wj λ_ _ _ _ _ _ _ q=>le_int q
def Zbl:Š X (compareOp .Gt) (KC λi j=>.bl (decide (j<i))):=Wj λ_ _ _ _ _ _ _ q=>gt_int q
def jY:Š X (compareOp .Is) (λx y H Q=>y=.non/\Q (.bl (decide (x=.non))) H):=by
 intro pins s σ H x y v u Q I rx ry h
 obtain⟨rfl,q⟩:=h
 cases ry
 refine is_none_gen (Ez I q ?_)
 cases x<;>first
  |(cases rx;rfl)
  |(obtain⟨t,rfl⟩:=rx;rfl)
def KH:Š X (compareOp .IsNot) (λx y H Q=>y=.non/\Q (.bl (!decide (x=.non))) H):=by
 intro pins s σ H x y v u Q I rx ry h
 obtain⟨rfl,q⟩:=h
 cases ry
 refine isnot_none_gen (Ez I q ?_)
 cases x<;>first
  |(cases rx;rfl)
  |(obtain⟨t,rfl⟩:=rx;rfl)
def Š.or{f:Value->Value->Sem Value}{r r':R2}(h:Š X f r)(h':Š X f r'):Š X f (λx y H Q=>r x y H Q\/r' x y H Q):=by
 intro pins s σ H x y v u Q I rx ry q
 rcases q with q|q
 ·exact h pins s σ H x y v u Q I rx ry q
 ·exact h' pins s σ H x y v u Q I rx ry q
def Ň(b:Expr){op:CmpOp}(h:op≠ .In:=by decide)(h2:op≠ .NotIn:=by decide):behindInMarks op b=false:=by
 have e1:(op== CmpOp.In)=false:=by cases op<;>first|rfl|exact absurd rfl h
 have e2:(op== CmpOp.NotIn)=false:=by cases op<;>first|rfl|exact absurd rfl h2
 cases b<;>simp[behindInMarks,e1,e2]
def KJ{op:CmpOp}{r:R2}(ho:Š X (compareOp op) r)(ha:PE X a ta)(hb:PE X b tb)(hm:behindInMarks op b=false):PE X (.Compare a [op] [b] pos) (tOp r ta tb):=by
 intro pins s σ H Q I h
 exact wpAny_Compare1 (Wi ha hb I h λv u s2 x y H2 I2 rx ry q=>ho pins s2 σ H2 x y v u Q I2 rx ry q) hm
def Wu(K:PySem.W.Frag)(x:V)(H:Hp)(k:Bool):Prop:=
 match x with
 | .non=>k=false
 | .bl b=>k=b
 | .int i=>k=(i != 0)
 | .str y=>y.length<=sizeLine/\k=((y.length:Int) != 0)
 | .Km y=>y.size<=sizeLine/\k=((y.size:Int) != 0)
 | .ref p=>(∃xs,ū K H p xs/\k=!xs.isEmpty)\/(∃xs,fC K H p xs/\k=!xs.isEmpty)\/∃kvs,H p=some (.dK kvs)/\k=!kvs.isEmpty
 |_=>False
def yH{κ:Type}{kvs:List (κ×V)}{vs:List (κ×Value)}(r:KV kvs vs):(!vs.isEmpty)=!kvs.isEmpty:=by
 cases r<;>rfl
def n_{xs:List V}{its:List Value}(r:Vals xs its):(!its.toArray.isEmpty)=!xs.isEmpty:=by
 cases r<;>simp
def oh:(sizeLine:Nat)<2 ^ 63:=by rw[sizeLine_eq];decide
def Wv:ZdR X (λx H Q=>∃k,Wu X.K x H k/\Q k H):=by
 intro pins s σ H x v Q I rx h
 obtain⟨k,e,q⟩:=h
 have hl:=oh
 have hs:sizeLine=16777216:=sizeLine_eq
 cases x with
 |non=>
  cases rx
  have e':k=false:=e
  subst e'
  exact truthy_none ⟨H,I,q⟩
 |bl b=>
  cases rx
  have e':k=b:=e
  subst e'
  exact wpAny_truthy_bool ⟨H,I,q⟩
 |int i=>
  obtain⟨t,rfl⟩:=rx
  have e':k=(i != 0):=e
  subst e'
  exact PySem.P.truthy_int ⟨H,I,q⟩
 |str y=>
  obtain⟨t,rfl⟩:=rx
  obtain⟨hy,e'⟩:y.length<=sizeLine/\k=((y.length:Int) != 0):=e
  subst e'
  exact PySem.P.truthy_str (by omega) ⟨H,I.tok _,q⟩
 |Km y=>
  obtain⟨t,rfl⟩:=rx
  obtain⟨hy,e'⟩:y.size<=sizeLine/\k=((y.size:Int) != 0):=e
  subst e'
  exact PySem.W.truthy_bytes (by omega) ⟨H,I.tok _,q⟩
 |ref p=>
  cases rx
  have e':(∃xs,ū X.K H p xs/\k=!xs.isEmpty)\/(∃xs,fC X.K H p xs/\k=!xs.isEmpty)\/∃kvs,H p=some (.dK kvs)/\k=!kvs.isEmpty:=e
  rcases e' with⟨xs,hx,e'⟩|⟨xs,hx,e'⟩|⟨kvs,hx,e'⟩
  ·subst e'
   obtain⟨its,r,pl,hz⟩:=I.list hx
   have hlen:=r.length
   exact wpAny_truthy_list pl.isList (by simp only[List.size_toArray];omega) ⟨H,I.tok _,by rw[n_ r];exact q⟩
  ·subst e'
   obtain⟨its,r,pl,hz⟩:=I.tuple hx
   have hlen:=r.length
   exact truthy_tuple pl (by simp only[List.size_toArray];omega) ⟨H,I.tok _,by rw[n_ r];exact q⟩
  ·subst e'
   obtain⟨hz,hS,vs,r,m⟩:kvs.length<=sizeLine/\(p== sysModules)=false/\∃vs,KV kvs vs/\s.heap.DictOf (tE X.prog X.w) p vs:=I.hok p _ hx
   have hlen:kvs.length=vs.length:=Paired.length r
   exact wpAny_truthy_dict hS m (by omega) ⟨H,I.tok _,by rw[yH r];exact q⟩
 |_=>exact(show False from e).elim
def EY(ha:PE X a ta)(he:∀whole,isTrue a X.env whole=(do let v <-whole;standAt a.pos;holding [v] (truthy v))) :
 PT X a (λσ H Q=>ta σ H λx H'=>∃k,Wu X.K x H' k/\Q k H'):=by
 intro pins s σ H Q I h
 exact isTrue_plain (ł (ha pins s σ H _ I h) λv s1 ⟨x,H1,I1,r1,q1⟩=>Wv pins s1 σ H1 x v Q I1 r1 q1) (he _)
def yI:Š X (binaryOp .Add) (λx y H Q=>∃i j,x=.str i/\y=.str j/\i.length+j.length<=sizeLine/\Q (.str (i++j)) H):=by
 intro pins s σ H x y v u Q I rx ry h
 obtain⟨i,j,rfl,rfl,hz,q⟩:=h
 obtain⟨t,rfl⟩:=rx
 obtain⟨t',rfl⟩:=ry
 exact add_str (λt' tk=>⟨.str (i++j),H,I.tok _,⟨_,rfl⟩,q⟩) hz
def vals1{x:V}{us:List Value}(r:Vals [x] us):∃u,us=[u]/\RelV x u:=by
 cases r with
 |cons r1 r2=>cases r2;exact⟨_,rfl,r1⟩
def vals2{x y:V}{us:List Value}(r:Vals [x,y] us):∃u w',us=[u,w']/\RelV x u/\RelV y w':=by
 cases r with
 |cons r1 r2=>
  cases r2 with
  |cons r3 r4=>cases r4;exact⟨_,_,rfl,r1,r3⟩
def CV(hc:X.calm=true):Ń X (.builtin "max") (λxs H Q=>∃i j,xs=[.int i,.int j]/\Q (.int (if j>i then j else i)) H):=by
 intro pins s σ H xs us Q I r h
 obtain⟨i,j,rfl,q⟩:=h
 obtain⟨u,w',rfl,⟨t,rfl⟩,⟨t',rfl⟩⟩:=vals2 r
 refine max_two_ints (I.ok.hd hc) λh' tk k=>⟨_,H,I.kept k,?_,q⟩
 by_cases hj:j>i
 ·rw[if_pos hj,if_pos hj];exact⟨_,rfl⟩
 ·rw[if_neg hj,if_neg hj];exact⟨_,rfl⟩
def CW(hc:X.calm=true):Ń X (.builtin "min") (λxs H Q=>∃i j,xs=[.int i,.int j]/\Q (.int (if j<i then j else i)) H):=by
 intro pins s σ H xs us Q I r h
 obtain⟨i,j,rfl,q⟩:=h
 obtain⟨u,w',rfl,⟨t,rfl⟩,⟨t',rfl⟩⟩:=vals2 r
 refine min_two_ints (I.ok.hd hc) λh' tk k=>⟨_,H,I.kept k,?_,q⟩
 by_cases hj:j<i
 ·rw[if_pos hj,if_pos hj];exact⟨_,rfl⟩
 ·rw[if_neg hj,if_neg hj];exact⟨_,rfl⟩
def CZ:Ń X (.type "int") (λxs H Q=>(∃i,xs=[.int i]/\Q (.int i) H)\/∃k,xs=[.bl k]/\Q (.int (if k then 1 else 0)) H):=by
 intro pins s σ H xs us Q I r h
 rcases h with⟨i,rfl,q⟩|⟨k,rfl,q⟩
 ·obtain⟨u,rfl,t,rfl⟩:=vals1 r
  exact call_int_int ⟨.int i,H,I,⟨_,rfl⟩,q⟩
 ·obtain⟨u,rfl,r1⟩:=vals1 r
  cases r1
  exact call_int_bool ⟨.int (if k then 1 else 0),H,I.tok _,⟨_,rfl⟩,q⟩
def ZdS(K:PySem.W.Frag)(x:V)(H:Hp)(n:Nat):Prop:=
 match x with
 | .str y=>y.length<=sizeLine/\n=y.length
 | .Km y=>y.size<=sizeLine/\n=y.size
 | .ref p=>(∃xs,ū K H p xs/\n=xs.length)\/∃xs,fC K H p xs/\n=xs.length
 |_=>False
def E_:Ń X (.builtin "len") (λxs H Q=>∃x n,xs=[x]/\ZdS X.K x H n/\Q (.int n) H):=by
 intro pins s σ H xs us Q I r h
 obtain⟨x,n,rfl,e,q⟩:=h
 obtain⟨u,rfl,rx⟩:=vals1 r
 have hl:=oh
 have hs:sizeLine=16777216:=sizeLine_eq
 cases x with
 |str y=>
  obtain⟨t,rfl⟩:=rx
  obtain⟨hy,e'⟩:y.length<=sizeLine/\n=y.length:=e
  subst e'
  exact len_str (by omega) ⟨.int _,H,I.tok _,⟨_,rfl⟩,q⟩
 |Km y=>
  obtain⟨t,rfl⟩:=rx
  obtain⟨hy,e'⟩:y.size<=sizeLine/\n=y.size:=e
  subst e'
  exact PySem.W.len_bytes (by omega) ⟨.int _,H,I.tok _,⟨_,rfl⟩,q⟩
 |ref p=>
  cases rx
  have e':(∃xs,ū X.K H p xs/\n=xs.length)\/∃xs,fC X.K H p xs/\n=xs.length:=e
  rcases e' with⟨xs,hx,e'⟩|⟨xs,hx,e'⟩
  ·subst e'
   obtain⟨its,r',pl,hz⟩:=I.list hx
   have hlen:=r'.length
   exact Calls.call_len_list pl.isList (by simp only[List.size_toArray];omega) ⟨.int xs.length,H,I.tok _,⟨_,by simp only[List.size_toArray];rw[hlen]⟩,q⟩
  ·subst e'
   obtain⟨its,r',pl,hz⟩:=I.tuple hx
   have hlen:=r'.length
   exact len_tuple pl (by simp only[List.size_toArray];omega) ⟨.int xs.length,H,I.tok _,⟨_,by simp only[List.size_toArray];rw[hlen]⟩,q⟩
 |_=>exact(show False from e).elim
end
end L2
namespace L2
open PySem PySem.Spec PyProof.Rows
structure yJ(h:Heap)(x dx C:Addr)(mA:Str->Option Value):Prop where
 obj:h.get? x=some (PySem.W.instObj C dx)
 ns:h.Ns1 dx mA
 ne:dx≠x
def jZ{h:Heap}{dx:Addr}{mA:Str->Option Value}(n:h.Ns1 dx mA):∃od,h.get? dx=some od/\∀name,PySem.W.lookIn name od=some (mA name):=by
 obtain⟨o,es,ep,ho,hd,hk,_,hm⟩:=n
 refine⟨o,ho,λname=>?_⟩
 have e:=hm name
 unfold nsFind findBy at e
 rw[<-Array.find?_toList] at e
 unfold PySem.W.lookIn
 rw[hd]
 dsimp only
 split
 ·rename_i y q
  rw[q] at e
  exact congrArg some e
 ·rename_i q
  rw[q] at e
  have a:es.toList.any (·.refKey)=false:=by
   rw[List.any_eq_false]
   intro y hy
   obtain⟨z,t,hkey⟩:=hk y (Array.mem_toList_iff.mp hy)
   simp[DictEntry.refKey,hkey]
  have a':¬es.toList.any (·.refKey)=true:=by rw[a];exact Bool.false_ne_true
  rw[if_neg a']
  exact congrArg some e
def yJ.look{h:Heap}{x dx C:Addr}{mA:Str->Option Value}(I:yJ h x dx C mA):∃od,PySem.W.InstAt h x (PySem.W.instObj C dx) C (some od)/\∀name,PySem.W.lookIn name od=some (mA name):=
 let ⟨od,ho,hl⟩:=jZ I.ns
 ⟨od,⟨I.obj,rfl,rfl,ho⟩,hl⟩
section
variable{prog:Program}{w:World}{A:Around}{E:Value->Shared->Prop}{s:Shared}{K:PySem.W.Frag}{x dx C f:Addr}{mA:Str->Option Value}{name:Str}{v:Value}
def get_map{expr:Bool}{Q:Value->Shared->Prop}(X:K.In s.heap)(I:yJ s.heap x dx C mA)(hg:PySem.W.plainGet K C name=true)(hh:PySem.W.hasDictIn K C=true)
 (ha:PySem.W.findIn K (.ref C) name=some none)(hv:mA name=some v)(hv':PySem.W.handedIn v=true)(h:Q v {s with toks:=s.toks+1}) :
 wpAny (model prog w) A (getAttr (.ref x) name expr) Q E s:=by
 obtain⟨od,J,hl⟩:=I.look
 exact PySem.W.get_value X J (PySem.W.plainGet_of hg).1 (PySem.W.findObj_own hh ha rfl (by rw[hl,hv])) hv' h
def Fb{pl:Sem Bool}{Q:Value×List Value->Shared->Prop}(X:K.In s.heap)(I:yJ s.heap x dx C mA)(hg:PySem.W.plainGet K C name=true)
 (hf:PySem.W.findIn K (.ref C) name=some (some (.ref f)))(ht:PySem.W.isFn K (.ref f)=true)(hv:mA name=none)(h:Q (.ref f,[.ref x]) s) :
 wpAny (model prog w) A (getMethod (.ref x) name pl) Q E s:=by
 obtain⟨od,J,hl⟩:=I.look
 exact PySem.W.method_fn X J (PySem.W.plainGet_of hg).1 (PySem.W.plainGet_of hg).2 hf (beq_iff_eq.mp ht) (by show(PySem.W.lookIn name od).map (·.isSome)=some false;rw[hl,hv];rfl) h
def KN{ns:List Str}{Q:Unit->Shared->Prop}(X:K.In s.heap)(I:yJ s.heap x dx C mA)
 (hs:PySem.W.findIn K (.ref C) "__setattr__" =some (some (.builtin "object.__setattr__")))(hp:PySem.W.plainOver K C=true)(ht:PySem.W.takerIn K C name=some none)(hh:PySem.W.hasDictIn K C=true)
 (hw:PySem.Within mA ns)(hsz:ns.length<=sizeLine)
 (h:∀h',yJ h' x dx C (λy=>if y=name then some v else mA y)->Heap.SameBut dx s.heap h'->Q () {s with heap:=h',toks:=s.toks+2}) :
 wpAny (model prog w) A (setAttr (.ref x) name v) Q E s:=by
 obtain⟨od,J,hl⟩:=I.look
 refine PySem.W.set_plain X J hs (PySem.W.osa_open (s:={s with toks:=s.toks+1}) (r:=none) X J hp ht λb=>?_)
 obtain⟨cd,hc,hd'⟩:=PySem.W.any_some hh
 have hx:s.heap.get? x=some ⟨.ref C,some dx,.plain,#[]⟩:=I.obj
 refine wpAny_bind (wpAny_pure (wpAny_bind (wpAny_bind (wpAny_loadPart hx (wpAny_bind (PySem.W.Looks.here (s:={s with toks:=s.toks+1}) (PySem.W.looks_clsIn X hc) ?_))))))
 rw[hd']
 refine wpAny_pure (a:=some dx) (wpAny_bind (wpAny_pure (wpAny_bind ?_)))
 refine wpAny_nsSet1 (s:={s with toks:=s.toks+1}) I.ns λh' hn2 hs2=>?_
 obtain⟨oD,esD,epD,hoD,hdD,hcD⟩:=hn2.count (PySem.Within.cons name v hw)
 refine wpAny_bind (wpAny_lookBehind hoD (by rw[hdD];exact pastItsLine_dict (Nat.le_trans hcD (by rw[List.length_cons];omega))) ?_)
 exact wpAny_pure (h _ ⟨(hs2.2 _ (Ne.symm I.ne)).trans I.obj,hn2,I.ne⟩ hs2)
def Fd{R:Result->Shared->Prop}{vs:List Value}{kw:List (Str×Value)}(X:K.In s.heap)(hm:PySem.W.makesIn K C=true)
 (hi:PySem.W.findIn K (.ref C) "__init__" =some (some (.ref f)))(hf:PySem.W.typeIn K (.ref f)=some (.type "function"))
 (h:codeAny (model prog w) (A.under (.builtin "type.__call__" ⟨.ref C::vs,kw⟩)) (.call (.ref f) ⟨.ref (s.heap.objs.size+1)::vs,kw⟩) (PySem.W.InitBack (s.heap.objs.size+1) R)
   {s with heap:=(s.heap.push PySem.W.emptyDict).push (PySem.W.instObj C s.heap.objs.size)}) :
 codeAny (model prog w) A (.call (.ref C) ⟨vs,kw⟩) R s:=by
 obtain⟨hh,g,d,t,os⟩:=s
 exact PySem.W.make_core (PySem.W.makes_of X hm) (PySem.W.looks_findIn X hi) (λself=>PySem.W.bind_fn X self hf) (.inl rfl) h
end
def ŵ(f:Str)(v:V):List (Str×V)->List (Str×V)
 | []=>[(f,v)]
 |(g,x)::r=>if g=f then(g,v)::r else(g,x)::ŵ f v r
theorem fO(f g:Str)(v:V):∀fs:List (Str×V),(ŵ f v fs).lookup g=if g=f then some v else fs.lookup g
 | []=>by
   show List.lookup g [(f,v)]=_
   by_cases h:g=f
   ·have hb:(g== f)=true:=beq_iff_eq.mpr h
    simp only[List.lookup,hb,if_pos h]
   ·have hb:(g== f)=false:=beq_eq_false_iff_ne.mpr h
    simp only[List.lookup,hb,if_neg h]
 |(k,x)::r=>by
  have ih:=fO f g v r
  rw[show ŵ f v ((k,x)::r)=(if k=f then(k,v)::r else(k,x)::ŵ f v r) from rfl]
  by_cases hk:k=f
  ·rw[if_pos hk]
   by_cases h:g=k
   ·have hb:(g== k)=true:=beq_iff_eq.mpr h
    simp only[List.lookup,hb,if_pos (h.trans hk)]
   ·have hb:(g== k)=false:=beq_eq_false_iff_ne.mpr h
    simp only[List.lookup,hb,if_neg (λe:g=f=>h (e.trans hk.symm))]
  ·rw[if_neg hk]
   by_cases h:g=k
   ·have hb:(g== k)=true:=beq_iff_eq.mpr h
    simp only[List.lookup,hb,if_neg (λe:g=f=>hk (h.symm.trans e))]
   ·have hb:(g== k)=false:=beq_eq_false_iff_ne.mpr h
    simp only[List.lookup,hb]
    exact ih
theorem j_(f:Str)(v:V):∀fs:List (Str×V),f∈(ŵ f v fs).map (·.1)/\∀g,g∈fs.map (·.1)->g∈(ŵ f v fs).map (·.1)
 | []=>⟨by simp[ŵ],λg h=>by simp at h⟩
 |(k,x)::r=>by
  obtain⟨i1,i2⟩:=j_ f v r
  rw[show ŵ f v ((k,x)::r)=(if k=f then(k,v)::r else(k,x)::ŵ f v r) from rfl]
  by_cases hk:k=f
  ·rw[if_pos hk]
   subst hk
   exact⟨by simp,λg h=>by simpa using h⟩
  ·rw[if_neg hk]
   refine⟨?_,λg h=>?_⟩
   ·rw[List.map_cons]
    exact List.mem_cons_of_mem _ i1
   ·rw[List.map_cons] at h ⊢
    rcases List.mem_cons.mp h with e|e
    ·exact List.mem_cons.mpr (.inl e)
    ·exact List.mem_cons_of_mem _ (i2 g e)
theorem fP(f:Str)(v:V):∀fs:List (Str×V),(ŵ f v fs).length<=fs.length+1
 | []=>by simp[ŵ]
 |(k,x)::r=>by
  have ih:=fP f v r
  rw[show ŵ f v ((k,x)::r)=(if k=f then(k,v)::r else(k,x)::ŵ f v r) from rfl]
  by_cases hk:k=f
  ·rw[if_pos hk,List.length_cons,List.length_cons];omega
  ·rw[if_neg hk,List.length_cons,List.length_cons];omega
def jz.some_of{v:V}{o:Option Value}(r:jz (some v) o):∃u,o=some u/\RelV v u:=by
 cases o with
 |none=>exact(show False from r).elim
 |some u=>exact⟨u,rfl,r⟩
def jz.none_of{o:Option Value}(r:jz none o):o=none:=by
 cases o with
 |none=>rfl
 |some u=>exact(show False from r).elim
def qY{v:V}{u:Value}(r:RelV v u):PySem.W.handedIn u=true:=by
 cases v with
 |non=>cases(show u=Value.none from r);rfl
 |bl b=>cases(show u=Value.bool b from r);rfl
 |int i=>obtain⟨t,e⟩:=(show ∃t,u=Value.int i t from r);cases e;rfl
 |str x=>obtain⟨t,e⟩:=(show ∃t,u=Value.str x t from r);cases e;rfl
 |Km b=>obtain⟨t,e⟩:=(show ∃t,u=Value.bytes b t from r);cases e;rfl
 |flt b=>obtain⟨t,e⟩:=(show ∃t,u=Value.float b t from r);cases e;rfl
 |ref a=>cases(show u=Value.ref a from r);rfl
 |ty n=>cases(show u=Value.type n from r);rfl
section
variable{P:Program}{w:World}{H H':Hp}{h h':Heap}{a C dx:Addr}{fs fs':List (Str×V)}
def nD(hok:cL P w H h)(e:H a=some (.ins C dx fs)):∃mA,yJ h a dx C mA/\(∀f,jz (fs.lookup f) (mA f))/\PySem.Within mA (fs.map (·.1))/\fs.length<=1000/\H dx=some (.own a):=by
 obtain⟨d,z,ne,ob,mA,n,r,q⟩:=(show Ł P w H h a (.ins C dx fs) from hok a _ e)
 exact⟨mA,⟨ob,n,ne⟩,r,q,z,d⟩
end
structure Cls(K:PySem.W.Frag)(C:Addr):Prop where
 pg:PySem.W.plainGet K C Str.empty=true
 hd:PySem.W.hasDictIn K C=true
 po:PySem.W.plainOver K C=true
 sa:PySem.W.findIn K (.ref C) "__setattr__" =some (some (.builtin "object.__setattr__"))
def Cls.get{K:PySem.W.Frag}{C:Addr}(c:Cls K C)(f:Str):PySem.W.plainGet K C f=true:=c.pg
def Ģ(K:PySem.W.Frag)(C:Addr)(f:Str):Prop:=PySem.W.findIn K (.ref C) f=some none
def Ģ.taker{K:PySem.W.Frag}{C:Addr}{f:Str}(n:Ģ K C f):PySem.W.takerIn K C f=some none:=by
 unfold PySem.W.takerIn
 rw[show PySem.W.findIn K (.ref C) f=some none from n]
 rfl
structure Meth(K:PySem.W.Frag)(C:Addr)(m:Str)(f:Addr):Prop where
 at_:PySem.W.findIn K (.ref C) m=some (some (.ref f))
 fn:PySem.W.isFn K (.ref f)=true
 kp:PySem.W.keepIn K (.ref f)=true
section
variable{X:Cx}{pins:List (Addr×Obj)}{σ:St}{H:Hp}{s:Shared}{a C dx:Addr}{fs:List (Str×V)}{f:Str}{v:V}{A:Around}{E:Value->Shared->Prop}
def yK{b:Bool}{Q:Value->Shared->Prop}(I:Inv X pins σ H s)(e:H a=some (.ins C dx fs))(c:Cls X.K C)(n:Ģ X.K C f)(l:fs.lookup f=some v)
 (h:∀u s',Inv X pins σ H s'->RelV v u->Q u s'):wpAny (model X.prog X.w) A (getAttr (.ref a) f b) Q E s:=by
 obtain⟨mA,O,r,_,_,_⟩:=nD I.hok e
 obtain⟨u,hu,ru⟩:=jz.some_of (v:=v) (o:=mA f) (by rw[<-l];exact r f)
 exact get_map I.dz O (c.get f) c.hd n hu (qY ru) (h u _ (I.tok _) ru)
def yL{m:Str}{g:Addr}{pl:Sem Bool}{Q:Value×List Value->Shared->Prop}(I:Inv X pins σ H s)(e:H a=some (.ins C dx fs))(c:Cls X.K C)(k:Meth X.K C m g)(l:fs.lookup m=none)
 (h:Q (.ref g,[.ref a]) s):wpAny (model X.prog X.w) A (getMethod (.ref a) m pl) Q E s:=by
 obtain⟨mA,O,r,_,_,_⟩:=nD I.hok e
 have hn:mA m=none:=jz.none_of (by rw[<-l];exact r m)
 exact Fb I.dz O (c.get m) k.at_ k.fn hn h
def yM{y:V}{u:Value}{Q:Unit->Shared->Prop}(I:Inv X pins σ H s)(e:H a=some (.ins C dx fs))(c:Cls X.K C)(n:Ģ X.K C f)(hl:fs.length<1000)(ry:RelV y u)
 (h:∀s',Inv X pins σ (upd H a (.ins C dx (ŵ f y fs))) s'->Q () s'):wpAny (model X.prog X.w) A (setAttr (.ref a) f u) Q E s:=by
 obtain⟨mA,O,r,wi,_,ho⟩:=nD I.hok e
 have hz:(fs.map (·.1)).length<=sizeLine:=by rw[List.length_map,sizeLine_eq];omega
 refine KN I.dz O c.sa c.po n.taker c.hd wi hz λh' O' sb=>h _ ?_
 have hd:∃o,h'.get? dx=some o:=let ⟨o,_,_,e',_⟩:=O'.ns;⟨o,e'⟩
 refine I.write (x:=a) (e:=dx) (by rw[e];exact True.intro) (.inr ho) (λb q hb z=>(sb.2 b hb).trans z) hd ?_
 refine⟨by rw[ċ O.ne];exact ho,?_,O.ne,O'.obj,_,O'.ns,λg=>?_,λg hg=>?_⟩
 ·have:=fP f y fs;omega
 ·show jz ((ŵ f y fs).lookup g) (if g=f then some u else mA g)
  rw[fO]
  by_cases q:g=f
  ·rw[if_pos q,if_pos q];exact ry
  ·rw[if_neg q,if_neg q];exact r g
 ·by_cases q:g=f
  ·rw[q];exact(j_ f y fs).1
  ·refine(j_ f y fs).2 g (wi g λz=>hg ?_)
   show(if g=f then some u else mA g)=none
   rw[if_neg q];exact z
def Inv.made(I:Inv X pins σ H s):Inv X pins σ (upd (upd H s.heap.objs.size (.own (s.heap.objs.size+1))) (s.heap.objs.size+1) (.ins C s.heap.objs.size []))
 {s with heap:=(s.heap.push PySem.W.emptyDict).push (PySem.W.instObj C s.heap.objs.size)}:=by
 have e1:(s.heap.push PySem.W.emptyDict).get? s.heap.objs.size=some PySem.W.emptyDict:=Heap.get?_push_size s.heap rfl
 have e2:((s.heap.push PySem.W.emptyDict).push (PySem.W.instObj C s.heap.objs.size)).get? (s.heap.objs.size+1)=some (PySem.W.instObj C s.heap.objs.size):=by
  have:=Heap.get?_push_size (s.heap.push PySem.W.emptyDict) (o:=PySem.W.instObj C s.heap.objs.size) rfl
  rwa [Heap.size_push] at this
 have e3:(s.heap.push PySem.W.emptyDict).Ns s.heap.objs.size (λ_=>none):=⟨PySem.W.emptyDict,#[],_,e1,rfl,(λe he=>absurd he (by simp)),λ_=>rfl⟩
 have I1:=I.laid (a:=s.heap.objs.size) (o:=.own (s.heap.objs.size+1)) (h':=s.heap.push PySem.W.emptyDict) (t':=s.toks) (λb u q=>Heap.get?_push_of_some _ q) (Nat.le_refl _) ⟨_,e1⟩
 refine I1.laid (a:=s.heap.objs.size+1) (o:=.ins C s.heap.objs.size []) (t':=s.toks) (λb u q=>Heap.get?_push_of_some _ q) (Nat.le_of_eq (Heap.size_push _ _)) ?_
 have ne:s.heap.objs.size≠s.heap.objs.size+1:=Nat.ne_of_lt (Nat.lt_succ_self _)
 refine⟨by rw[ċ ne,Ğ],Nat.zero_le _,ne,e2,λ_=>none,(Heap.Ns1.of_empty e3).at λo q=>Heap.get?_push_of_some _ q,λ_=>True.intro,λy hy=>absurd rfl hy⟩
def Bb{prog:Program}{w:World}{env:Env}{e:Expr}{f:Str}{pos:Pos}{s:Shared}{Q:Value->Shared->Prop}(hb:attributeBase e f env (eval e env)=eval e env)
 (h:wpAny (model prog w) A (eval e env) (λo s₁=>wpAny (model prog w) A (getAttr o f true) Q E s₁) E s):wpAny (model prog w) A (eval (.Attribute e f pos) env) Q E s:=
 Attribute_any_ h (by rw[arm_eval_Attribute,hb])
end
def ZdT(K:PySem.W.Frag)(ta:TE)(f:Str):TE:=λσ H Q=>ta σ H λx H1=>∃a C dx fs v,x=.ref a/\H1 a=some (.ins C dx fs)/\Cls K C/\Ģ K C f/\fs.lookup f=some v/\Q v H1
def ZdU(K:PySem.W.Frag)(ta tv:TE)(f:Str):TS:=λD σ H=>tv σ H λy H1=>ta σ H1 λx H2=>∃a C dx fs,x=.ref a/\H2 a=some (.ins C dx fs)/\Cls K C/\Ģ K C f/\fs.length<1000/\
 D.nx σ (upd H2 a (.ins C dx (ŵ f y fs)))
section
variable{X:Cx}{o e value:Expr}{f:Str}{pos pos' tpos:Pos}{ta tv:TE}
def Ww(he:PE X e ta)(hb:attributeBase e f X.env (eval e X.env)=eval e X.env):PE X (.Attribute e f pos) (ZdT X.K ta f):=by
 intro pins s σ H Q I h
 refine Bb hb (ł (he pins s σ H _ I h) λu s1 ⟨x,H1,I1,rx,a,C,dx,fs,v,ex,ea,c,n,l,q⟩=>?_)
 subst ex
 obtain rfl:u=Value.ref a:=rx
 exact yK I1 ea c n l λu' s2 I2 ru=>⟨v,H1,I2,ru,q⟩
def Wx(ha:PE X o ta)(hv:PE X value tv)(hs:swapsWith value (some (.Attribute o f pos')) pos.line X.env=pure false):PS X (.Assign [.Attribute o f pos'] value pos) (ZdU X.K ta tv f):=by
 intro pins s σ H D I h
 refine plainObj_wpAny_Assign_Attribute (ł (hv pins s σ H _ I h) λu s1 ⟨y,H1,I1,ry,q⟩=>ł (ha pins s1 σ H1 _ I1 q) λov s2 ⟨x,H2,I2,rx,a,C,dx,fs,ex,ea,c,n,l,q2⟩=>?_) hs
 subst ex
 obtain rfl:ov=Value.ref a:=rx
 exact yM I2 ea c n l ry λs3 I3=>⟨σ,_,I3,q2⟩
end
section
variable{X:Cx}{pins:List (Addr×Obj)}{σ:St}{H:Hp}{s:Shared}{A:Around}{E:Value->Shared->Prop}{Q:Value->Shared->Prop}{c:Value}{b:Bool}
inductive kh(K:PySem.W.Frag)(H:Hp):V->Value->Prop where
 |non:kh K H .non (.type "NoneType")
 |bl (x:Bool):kh K H (.bl x) (.type "bool")
 |int (i:Int):kh K H (.int i) (.type "int")
 |str (x:Str):kh K H (.str x) (.type "str")
 |flt (x:UInt64):kh K H (.flt x) (.type "float")
 |lst {a:Addr} {xs:List V} (e:H a=some (.lst xs)):kh K H (.ref a) (.type "list")
 |bY {a:Addr} {o:Obj} {xs:List V} (e:H a=some (.bY o (.lst xs))):kh K H (.ref a) (.type "list")
 |tup {a:Addr} {xs:List V} (e:H a=some (.tup xs)):kh K H (.ref a) (.type "tuple")
 |dK {a:Addr} {kvs:List (Key×V)} (e:H a=some (.dK kvs)):kh K H (.ref a) (.type "dict")
 |dT {a:Addr} {kvs:List (List Key×V)} (e:H a=some (.dT kvs)):kh K H (.ref a) (.type "dict")
 |ins {a C dx:Addr} {fs:List (Str×V)} (e:H a=some (.ins C dx fs)) (cl:Cls K C) (ha:PySem.W.findIn K (.ref C) "__class__" =some (some (.builtin "object.__class__")))
   (hn:PySem.W.specialIn K (.builtin "object.__class__") "__get__" =some (some (.builtin "getset_descriptor.__get__"))) (htk:PySem.W.takesIn K (.builtin "object.__class__")=some true)
   (hm:PySem.W.mroIn K C (.type "object")=some true):kh K H (.ref a) (.ref C)
def cO{x:V}{u t:Value}(I:Inv X pins σ H s)(rx:RelV x u)(ty:kh X.K H x t)(e:PySem.W.kitOne X.K t c=some b)(h:∀tk,Q (.bool b) {s with toks:=tk}) :
 wpAny (model X.prog X.w) A (call (.builtin "isinstance") [u,c]) Q E s:=by
 cases ty with
 |non=>cases(show u=Value.none from rx);exact PySem.W.kia_one PySem.W.kitx_none I.dz True.intro e (λz=>nomatch z) h
 |bl y=>cases(show u=Value.bool y from rx);exact PySem.W.kia_one PySem.W.kitx_bool I.dz True.intro e (λz=>nomatch z) h
 |int i=>obtain⟨t,q⟩:=(show ∃t,u=Value.int i t from rx);cases q;exact PySem.W.kia_one PySem.W.kitx_int I.dz True.intro e (λz=>nomatch z) h
 |str y=>obtain⟨t,q⟩:=(show ∃t,u=Value.str y t from rx);cases q;exact PySem.W.kia_one PySem.W.kitx_str I.dz True.intro e (λz=>nomatch z) h
 |flt y=>obtain⟨t,q⟩:=(show ∃t,u=Value.float y t from rx);cases q;exact PySem.W.kia_one PySem.W.kitx_float I.dz True.intro e (λz=>nomatch z) h
 |@lst a xs ea=>
  cases(show u=Value.ref a from rx)
  obtain⟨_,_,n,_,h1⟩:=(show Ł X.prog X.w H s.heap a (.lst xs) from I.hok a _ ea)
  exact PySem.W.kia_one PySem.W.kitx_list I.dz ⟨_,h1,rfl⟩ e (λz=>nomatch z) h
 |@bY a ob xs ea=>
  cases(show u=Value.ref a from rx)
  obtain⟨_,_,_,n,_,h1⟩:=(show Ł X.prog X.w H s.heap a (.bY ob (.lst xs)) from I.hok a _ ea)
  exact PySem.W.kia_one PySem.W.kitx_list I.dz ⟨_,h1,rfl⟩ e (λz=>nomatch z) h
 |@tup a xs ea=>
  cases(show u=Value.ref a from rx)
  obtain⟨_,_,_,p⟩:=(show Ł X.prog X.w H s.heap a (.tup xs) from I.hok a _ ea)
  obtain⟨o,h1,h2,_⟩:=p
  exact PySem.W.kia_one PySem.W.kitx_tuple I.dz ⟨o,h1,h2⟩ e (λz=>nomatch z) h
 |@dK a kvs ea=>
  cases(show u=Value.ref a from rx)
  obtain⟨_,_,vs,_,p⟩:=(show Ł X.prog X.w H s.heap a (.dK kvs) from I.hok a _ ea)
  obtain⟨o,es,ep,h1,h2,_⟩:=p
  exact PySem.W.kia_one PySem.W.kitx_dict I.dz ⟨o,h1,h2.1⟩ e (λz=>nomatch z) h
 |@dT a kvs ea=>
  cases(show u=Value.ref a from rx)
  obtain⟨_,_,xs,_,o,es,ep,h1,h2,_⟩:=(show Ł X.prog X.w H s.heap a (.dT kvs) from I.hok a _ ea)
  exact PySem.W.kia_one PySem.W.kitx_dict I.dz ⟨o,h1,h2.1⟩ e (λz=>nomatch z) h
 |@ins a C dx fs ea cl ha hn htk hm=>
  cases(show u=Value.ref a from rx)
  obtain⟨mA,O,_⟩:=nD I.hok ea
  obtain⟨od,J,_⟩:=O.look
  exact PySem.W.kia_one (PySem.W.kitx_own (cl.get _) cl.hd ha hn htk hm) I.dz J e (λz=>nomatch z) h
end
end L2
namespace L2
open PySem PySem.Spec PyProof.Rows
structure Ő(k:Nat)(A:Around):Prop where
 hd:A.handled=none
 dp:A.depth+3*k+5<recursionLimit
 un:A.units+16*k+200<cLine
def Ő.mono{j k:Nat}{A:Around}(r:Ő k A)(h:j<=k):Ő j A:=⟨r.hd,by have:=r.dp;omega,by have:=r.un;omega⟩
def Ő.mo{j k:Nat}{A:Around}(r:Ő k A)(h:j<=k:= by decide):Ő j A:= r.mono h
theorem Ő.deeper{k:Nat}{A:Around}(r:Ő (k+1) A)(env:Env):Ő k (A.deeper env):=
 ⟨r.hd,by have:=r.dp;show A.depth+1+3*k+5<_;omega,by have:=r.un;show A.units+3+16*k+200<_;omega⟩
theorem Ő.in1{k:Nat}{A:Around}(r:Ő (k+1) A):Ő k A.in1:=
 ⟨r.hd,by have:=r.dp;show A.depth+3*k+5<_;omega,by have:=r.un;show A.units+1+16*k+200<_;omega⟩
def yN{A:Around}{C:Addr}{us:List Value}{kw:List (Str×Value)}:(A.under (.builtin "type.__call__" ⟨.ref C::us,kw⟩)).depth=A.depth+1:=by
 first|rfl|simp[Around.under,Code.weight,Code.isCreation,Code.isGuard,Code.isCaller,Code.frames,Code.isFrame,guardIds]
def yO{A:Around}{C:Addr}{us:List Value}{kw:List (Str×Value)}:(A.under (.builtin "type.__call__" ⟨.ref C::us,kw⟩)).units=A.units+1:=by
 first|rfl|simp[Around.under,Code.cUnits,Code.frames,Code.isFrame]
def Ő.make{k:Nat}{A:Around}(r:Ő (k+1) A)(C:Addr)(us:List Value)(kw:List (Str×Value)):Ő k (A.under (.builtin "type.__call__" ⟨.ref C::us,kw⟩)):=
 ⟨r.hd,by have:=r.dp;rw[yN];omega,by have:=r.un;rw[yO];omega⟩
theorem Ő.depth{k:Nat}{A:Around}(r:Ő k A):A.depth<recursionLimit:=by have:=r.dp;omega
theorem Ő.units{k:Nat}{A:Around}(r:Ő k A):A.units+64<cLine:=by have:=r.un;omega
def ZdV:TA:=λ_ H Q=>Q [] H
def Zbm(ta:TE)(tr:TA):TA:=λσ H Q=>ta σ H λx H1=>tr σ H1 λxs H2=>Q (x::xs) H2
section
variable{X:Cx}{e:Expr}{es:List Expr}{te:TE}{t:TA}{pos:Pos}
def ou:PA X [] ZdV:=λ_ _ _ _ H Q I h=>Calls.spliced_nil ⟨[],H,I,.nil,h⟩
def g_(ha:PE X e te)(hr:PA X es t)(hs:starEach (e::es) X.env=(false,eval e X.env)::starEach es X.env:=by rfl):PA X (e::es) (Zbm te t):=by
 intro pos pins s σ H Q I h
 rw[hs]
 show wpAny _ _ (spliced ((false,eval e X.env)::backTo pos (starEach es X.env))) _ _ s
 refine Calls.spliced_cons (ł (ha pins s σ H _ I h) λu s1 ⟨x,H1,I1,r1,q1⟩=>?_)
 exact ł (hr pos pins s1 σ H1 _ I1 q1) λus s2 ⟨xs,H2,I2,r2,q2⟩=>⟨x::xs,H2,I2,.cons r1 r2,q2⟩
def ZdW(t:TA):TE:=λσ H Q=>t σ H λxs H1=>xs.length<=sizeLine/\∀p,H1 p=none->Q (.ref p) (upd H1 p (.tup xs))
def ZdX(t:TA):TE:=λσ H Q=>t σ H λxs H1=>xs.length<=sizeLine/\∀p,H1 p=none->Q (.ref p) (upd H1 p (.lst xs))
def Wy{x1}(h:PA X es t):PE X (.Tuple es x1 pos) (ZdW t):=by
 intro pins s σ H Q I hq
 refine wpAny_Tuple_spliced (ł (h pos pins s σ H _ I hq) λus s1 ⟨xs,H1,I1,r,z,q⟩=>⟨by rw[<-r.length];exact z,?_⟩)
 have hf:H1 s1.heap.objs.size=none:=I1.hok.fresh (Nat.le_refl _)
 refine⟨.ref s1.heap.objs.size,upd H1 s1.heap.objs.size (.tup xs),I1.laid (t':=s1.toks) (λb u e=>Heap.get?_push_of_some _ e) (Nat.le_refl _) ?_,rfl,q _ hf⟩
 exact⟨z,us,r,⟨_,Heap.get?_push_size _ rfl,rfl,_,rfl⟩⟩
def Wz(h:PA X es t):PE X (.List es pos) (ZdX t):=by
 intro pins s σ H Q I hq
 refine wpAny_List_spliced (ł (h pos pins s σ H _ I hq) λus s1 ⟨xs,H1,I1,r,z,q⟩=>⟨by rw[<-r.length];exact z,?_⟩)
 have hf:H1 s1.heap.objs.size=none:=I1.hok.fresh (Nat.le_refl _)
 refine⟨.ref s1.heap.objs.size,upd H1 s1.heap.objs.size (.lst xs),I1.laid (t':=s1.toks) (λb u e=>Heap.get?_push_of_some _ e) (Nat.le_refl _) ?_,rfl,q _ hf⟩
 exact⟨z,us,0,r,Heap.get?_push_size _ rfl⟩
end
abbrev Sp:=List V->Hp->VK->XK->Prop
abbrev lO:=List Env->Hp->Shared->XK->Value->Shared->Prop
structure yP(P:Program)(w:World)(K:PySem.W.Frag)(mg:Str->Option Value)(base:Heap)(A:Around)(outer:List Env)(s:Shared)(H:Hp):Prop where
 frames:A.frames=some outer
 mod:Mod K mg base
 bs:∀b o,base.get? b=some o->s.heap.get? b=some o/\H b=none
 Ay:base.objs.size<=s.heap.objs.size
 iz:s.heap.FunFrames base outer
 Eo:∀b∈frs outer,H b=none
 hok:cL P w H s.heap
 bare:AllBare s.gens
 tb:TabsOk K mg base H
def CE(outer:List Env)(P:Program)(w:World)(H:Hp)(s:Shared)(Q:VK)(u:Value)(s':Shared):Prop:=
 ∃v H',s'.os=s.os/\AllBare s'.gens/\Un (frs outer) [] H H' s.heap s'.heap/\cL P w H' s'.heap/\RelV v u/\Q v H'
def CR(CX:lO)(outer:List Env)(P:Program)(w:World)(H:Hp)(s:Shared)(Q:VK)(E:XK)(r:Result)(s':Shared):Prop:=
 match r with
 | .ok (.ret u)=>CE outer P w H s Q u s'
 | .ok _=>False
 | .error e=>CX outer H s E e s'
structure ģ(P:Program)(w:World)(K:PySem.W.Frag)(mg:Str->Option Value)(base:Heap)(CX:lO)(k:Nat)(f:Addr)(fd:FuncData)(ps:List Str)(sp:Sp):Prop where
 len:∀vs H Q E,sp vs H Q E->vs.length=ps.length
 run:∀(A:Around) (outer:List Env) (s:Shared) (H:Hp) (args:Args) (us:List Value) (vs:List V) (Q:VK) (E:XK),Ő k A->yP P w K mg base A outer s H->BindsTo s fd args (ps.zip us)->Vals vs us->sp vs H Q E->
  codeAny (model P w) A (.call (.ref f) args) (CR CX outer P w H s Q E) s
theorem ģ.mono{P:Program}{w:World}{K:PySem.W.Frag}{mg:Str->Option Value}{base:Heap}{CX:lO}{j k:Nat}{f:Addr}{fd:FuncData}{ps:List Str}{sp:Sp}(F:ģ P w K mg base CX j f fd ps sp)(h:j<=k) :
 ģ P w K mg base CX k f fd ps sp:=⟨F.len,λA outer s H args us vs Q E hr=>F.run A outer s H args us vs Q E (hr.mono h)⟩
def ģ.imp{P:Program}{w:World}{K:PySem.W.Frag}{mg:Str->Option Value}{base:Heap}{CX:lO}{k:Nat}{f:Addr}{fd:FuncData}{ps:List Str}{sp sp':Sp}(F:ģ P w K mg base CX k f fd ps sp)
 (h:∀vs H Q E,sp' vs H Q E->sp vs H Q E):ģ P w K mg base CX k f fd ps sp':=
 ⟨λvs H Q E q=>F.len vs H Q E (h _ _ _ _ q),λA outer s H args us vs Q E hr he hb hv hs=>F.run A outer s H args us vs Q E hr he hb hv (h _ _ _ _ hs)⟩
def yP.make{P:Program}{w:World}{K:PySem.W.Frag}{mg:Str->Option Value}{base:Heap}{A:Around}{outer:List Env}{s:Shared}{H:Hp}(e:yP P w K mg base A outer s H)(C:Addr)(us:List Value)(kw:List (Str×Value)) :
 yP P w K mg base (A.under (.builtin "type.__call__" ⟨.ref C::us,kw⟩)) outer s H:=⟨by first|exact e.frames|(simpa[Around.under,Code.envs,Code.isFrame,pushEnvs] using e.frames),e.mod,e.bs,e.Ay,e.iz,e.Eo,e.hok,e.bare,e.tb⟩
section
variable{X:Cx}{pins:List (Addr×Obj)}{σ:St}{H:Hp}{s s':Shared}
def Inv.env0(I:Inv X pins σ H s):yP X.prog X.w X.K X.mg X.base X.A X.stack s H:=
 ⟨I.ok.frames,I.ok.mod,I.bs,Nat.le_trans I.ok.Ay I.sz,I.stack,I.nC,I.hok,I.bare,I.tb⟩
def Inv.after{Q:VK}{u:Value}(I:Inv X pins σ H s)(h:CE X.stack X.prog X.w H s Q u s'):EP X pins σ Q u s':=by
 obtain⟨v,H',os,bare,un,hok,r,q⟩:=h
 obtain⟨hh,g,d,t,os'⟩:=s'
 obtain rfl:os'=s.os:=os
 exact⟨v,H',I.call (h':=hh) (g':=g) (d':=d) (t':=t) (ch:=[]) un hok bare (λb z=>absurd z (by simp)),r,q⟩
end
def Binds(K:PySem.W.Frag)(fd:FuncData)(ps:List Str)(ds:List Value):Prop:=
 ∀(s:Shared) (us:List Value),K.In s.heap->(us++ds).length=ps.length->BindsTo s fd ⟨us,[]⟩ (ps.zip (us++ds))
def Binds.all{K:PySem.W.Frag}{fd:FuncData}{ps:List Str}(h:∀us:List Value,us.length=ps.length->bindArgs fd ⟨us,[]⟩=pure (ps.zip us)):Binds K fd ps []:=λs us _ hl=>by
 rw[List.append_nil] at hl ⊢
 exact .of_eq (h us hl)
section
variable{X:Cx}{CX:lO}{k:Nat}{f C:Addr}{fd:FuncData}{ps:List Str}{sp:Sp}{dvs:List V}{ds:List Value}{E:XK}{x m:Str}{p pos apos:Pos}{e o:Expr}{es:List Expr}{ta:TE}{t:TA}
structure Mk(K:PySem.W.Frag)(C f:Addr):Prop where
 makes:PySem.W.makesIn K C=true
 init:PySem.W.findIn K (.ref C) "__init__" =some (some (.ref f))
 fn:PySem.W.isFn K (.ref f)=true
 kp:PySem.W.keepIn K (.ref C)=true
end
section
variable{X:Cx}{CX:lO}{k:Nat}{f C:Addr}{fd:FuncData}{ps ks:List Str}{sp:Sp}{E:XK}{x m:Str}{p pos apos kpos:Pos}{e o:Expr}{es:List Expr}{kws:List Keyword}{te ta:TE}{t tk:TA}{nm:Option Str}
variable{g:List Value->List Value->List Value}{gV:List V->List V->List V}
end
structure ĉ(N P:List Str)(sc:Scope):Prop where
 kind:sc.kind=.function
 co:sc.isCoroutine=false
 gen:sc.isGenerator=false
 nd:N.Nodup
 pre:N.take P.length=P
 par:∀x∈P,sc.names.lookup x=some .local\/sc.names.lookup x=some .cell
 WD:∀y∈sc.names,y.2≠ .free
theorem qZ{kindOf:Str->Option NameKind}{x:Str}:∀{binds:List (Str×Value)} {m:Str->Option Value},(∀v,(x,v)∉binds)->bindL kindOf binds m x=m x
 | [],_,_=>rfl
 |(n,v)::r,m,h=>by
  unfold bindL
  rw[qZ λw hw=>h w (List.mem_cons_of_mem _ hw)]
  split
  ·have:x≠n:=by rintro rfl;exact h v List.mem_cons_self
   simp[this]
  ·rfl
theorem q_{kindOf:Str->Option NameKind}{x:Str}:∀{binds:List (Str×Value)} {m:Str->Option Value},(∀v,(x,v)∉binds)->bindC kindOf binds m x=m x
 | [],_,_=>rfl
 |(n,v)::r,m,h=>by
  unfold bindC
  rw[q_ λw hw=>h w (List.mem_cons_of_mem _ hw)]
  split
  ·rfl
  ·have:x≠n:=by rintro rfl;exact h v List.mem_cons_self
   simp[this]
theorem rm{kindOf:Str->Option NameKind}{x:Str}{v:Value}:∀{P:List Str} {vs:List Value} {i:Nat} {m:Str->Option Value},P.Nodup->P[i]?=some x->vs[i]?=some v->kindOf x=some .local->
 bindL kindOf (P.zip vs) m x=some v
 | [],_,_,_,_,h,_,_=>by simp at h
 |_::_,[],_,_,_,_,h,_=>by simp at h
 |p::P,w::vs,0,m,nd,h1,h2,hk=>by
  simp at h1 h2;subst h1;subst h2
  show bindL kindOf ((p,w)::P.zip vs) m p=_
  unfold bindL
  rw[qZ λv hv=>(List.nodup_cons.mp nd).1 (List.of_mem_zip hv).1,if_pos hk]
  simp
 |p::P,w::vs,i+1,m,nd,h1,h2,hk=>by
  show bindL kindOf ((p,w)::P.zip vs) m x=_
  unfold bindL
  exact rm (i:=i) (List.nodup_cons.mp nd).2 (by simpa using h1) (by simpa using h2) hk
theorem rz{kindOf:Str->Option NameKind}{x:Str}{v:Value}:∀{P:List Str} {vs:List Value} {i:Nat} {m:Str->Option Value},P.Nodup->P[i]?=some x->vs[i]?=some v->kindOf x≠some .local->
 bindC kindOf (P.zip vs) m x=some v
 | [],_,_,_,_,h,_,_=>by simp at h
 |_::_,[],_,_,_,_,h,_=>by simp at h
 |p::P,w::vs,0,m,nd,h1,h2,hk=>by
  simp at h1 h2;subst h1;subst h2
  show bindC kindOf ((p,w)::P.zip vs) m p=_
  unfold bindC
  rw[q_ λv hv=>(List.nodup_cons.mp nd).1 (List.of_mem_zip hv).1,if_neg hk]
  simp
 |p::P,w::vs,i+1,m,nd,h1,h2,hk=>by
  show bindC kindOf ((p,w)::P.zip vs) m x=_
  unfold bindC
  exact rz (i:=i) (List.nodup_cons.mp nd).2 (by simpa using h1) (by simpa using h2) hk
def start(N:List Str)(vs:List V):St:=vs.map some++List.replicate (N.length-vs.length) none
def ž(CX:lO)(P:Program)(w:World)(K:PySem.W.Frag)(mg:Str->Option Value)(base:Heap)(N:List Str)(qual:Str)(scope:Scope)(f:Addr)(cd:Value)(A:Around)(outer:List Env)(s:Shared)(H:Hp)(E:XK):Cx where
 prog:=P
 w:=w
 K:=K
 mg:=mg
 base:=base
 A:=A.deeper (envOfC qual scope s.heap.objs.size f cd)
 N:=N
 s₀:= s
 H₀:= H
 env:=envOfC qual scope s.heap.objs.size f cd
 outer:=outer
 stack:=envOfC qual scope s.heap.objs.size f cd::outer
 ex:=[]
 calm:=true
 fn:=λ_=>true
 pn:=[]
 xe:=λe s'=>wpAny (model P w) (A.deeper (envOfC qual scope s.heap.objs.size f cd)) (leaving (envOfC qual scope s.heap.objs.size f cd) e) (λ_ s''=>CX outer H s E e s'') (λe' s''=>CX outer H s E e' s'') s'
def jB{sc:Scope}{n:Nat}{x:Str}(h:sc.names.lookup x=some .cell):∃c,(cellsFrom n sc.names []).lookup x=some c:=by
 have q:=PySem.W.cellsFrom_some sc.names n [] (.inl h)
 exact Option.isSome_iff_exists.mp q
def C_{CX:lO}{P:Program}{w:World}{K:PySem.W.Frag}{mg:Str->Option Value}{base:Heap}{N ps:List Str}{qual:Str}{scope:Scope}{f:Addr}{cd:Value}{A:Around}{outer:List Env}{s s1:Shared}{H:Hp}{E:XK}{us:List Value}{vs:List V}
 (S:ĉ N ps scope)(hd:A.handled=none)(e0:yP P w K mg base A outer s H)(hl:vs.length=ps.length)(r:Vals vs us)
 (x:InCallC s s.heap.objs.size (bindL (envOfC qual scope s.heap.objs.size f cd).kindOf (ps.zip us) λ_=>none) (cellsFrom (s.heap.objs.size+1) scope.names []) (bindC (envOfC qual scope s.heap.objs.size f cd).kindOf (ps.zip us) λ_=>none) s1) :
 Inv (ž CX P w K mg base N qual scope f cd A outer s H E) [] (start N vs) H s1:=by
 have hpl:ps.length<=N.length:=by have:=congrArg List.length S.pre;rw[List.length_take] at this;omega
 obtain⟨h1,tk,rfl,hk⟩:=x.done
 have noA:∀b:Addr,b∉(ž CX P w K mg base N qual scope f cd A outer s H E).ex:=λb z=>absurd (show b∈([]:List Addr) from z) (by simp)
 refine⟨⟨e0.mod,S.kind,rfl,rfl,Nat.le_refl _,λy z c h1 h2=>?_,λy hy=>?_,λy c _ h=>?_,λ_=>hd,Around.frames_deeper e0.frames,.inr ⟨rfl,rfl⟩,λb z=>absurd z (noA b),e0.bs,e0.Ay,λb _ _=>noA b,λb z=>absurd z (noA b),e0.iz,e0.Eo,e0.tb⟩,
  rfl,e0.bare,Un.kept hk,⟨_,x.toInCall.ns,λi y v h1 h2 h3=>?_⟩,λy c h=>⟨_,x.cell y c h⟩,e0.hok.fresh (Nat.le_refl _),λy c h=>?_,λp hp=>absurd (show p∈([]:List (Addr×Obj)) from hp) (by simp),e0.hok.kept hk,?_⟩
 ·exact name_of_addr x.apart (PySem.mem_of_lookup h1) (PySem.mem_of_lookup h2)
 ·have hy:scope.names.lookup y=some .cell\/scope.names.lookup y=some .free:=hy
  rcases hy with hy|hy
  ·exact jB hy
  ·exact absurd rfl (S.WD _ (PySem.mem_of_lookup hy))
 ·exact Nat.le_of_lt (x.above y c (PySem.mem_of_lookup h))
 ·have hi:i<vs.length:=by
   unfold start at h2
   by_cases hi:i<vs.length
   ·exact hi
   ·rw[List.getElem?_append_right (by simpa using hi)] at h2
    rw[List.getElem?_replicate] at h2
    split at h2<;>cases h2
  have ha:vs[i]?=some v:=by
   unfold start at h2
   rw[List.getElem?_append_left (by simpa using hi),List.getElem?_map] at h2
   cases e:vs[i]? with
   |none=>rw[e] at h2;cases h2
   |some a=>rw[e] at h2;cases h2;rfl
  obtain⟨u,hu,rv⟩:=r.get ha
  have hp:ps[i]?=some y:=by
   rw[<-S.pre,List.getElem?_take_of_lt (by omega)];exact h1
  have ndP:ps.Nodup:=by rw[<-S.pre];exact S.nd.sublist (List.take_sublist _ _)
  refine⟨u,rv,?_⟩
  rcases S.par y (List.mem_of_getElem? hp) with k|k
  ·exact .inl ⟨k,rm ndP hp hu k⟩
  ·obtain⟨c,e⟩:=jB (n:=s.heap.objs.size+1) k
   refine .inr ⟨.inl k,c,e,?_⟩
   have q:=x.cell y c e
   rw[rz ndP hp hu (by show scope.names.lookup y≠_;rw[k];decide)] at q
   exact q
 ·exact e0.hok.fresh (Nat.le_of_lt (x.above y c (PySem.mem_of_lookup h)))
 ·unfold start
  show _=N.length
  rw[List.length_append,List.length_map,List.length_replicate]
  omega
def Bc{CX:lO}{P:Program}{w:World}{K:PySem.W.Frag}{mg:Str->Option Value}{base:Heap}{k:Nat}{f:Addr}{name qual:Str}{params:Arguments}{body:List Stmt}{scope:Scope}{dV kV doc pm cdv ct oc:Value}{an od:Option Addr}
 {osl:Array (Option Value)}{N ps:List Str}{sp:Sp}(lk:K.lookup f=some ⟨oc,od,.func (PySem.W.fnOf name qual params body scope dV kV doc pm an cdv ct),osl⟩)(hcd:PySem.W.codeIn K cdv qual=true)(S:ĉ N ps scope)
 (len:∀vs H Q E,sp vs H Q E->vs.length=ps.length)
 (hbody:∀(A:Around) (outer:List Env) (s:Shared) (H:Hp) (vs:List V) (Q:VK) (E:XK),Ő k (A.deeper (envOfC qual scope s.heap.objs.size f cdv))→sp vs H Q E→
   ∃t,dY (ž CX P w K mg base N qual scope f cdv A outer s H E) body t/\t {nx:=λ_ H'=>Q .non H',rt:=Q} (start N vs) H) :
 ģ P w K mg base CX (k+1) f (PySem.W.fnOf name qual params body scope dV kV doc pm an cdv ct) ps sp:=by
 refine⟨len,λA outer s H args us vs Q E hr e0 hb r hsp=>?_⟩
 have hl:=len _ _ _ _ hsp
 have KX:K.In s.heap:=e0.mod.kin.keeps λb o e=>(e0.bs b o e).1
 have lim:s.heap.NoLimit:=e0.mod.nolimit.keeps λb o e=>(e0.bs b o e).1
 have hkind:∀y∈ps.zip us,scope.names.lookup y.1=some .local\/(scope.names.lookup y.1=some .cell/\((cellsFrom (s.heap.objs.size+1) scope.names []).lookup y.1).isSome=true):=λ⟨n,v⟩ hy=>by
  rcases S.par n (List.of_mem_zip hy).1 with q|q
  ·exact .inl q
  ·exact .inr ⟨q,PySem.W.cellsFrom_some _ _ _ (.inl q)⟩
 refine codeAny_call_function hr.depth (KX _ _ lk) rfl S.co S.gen rfl (PySem.W.codeRec_of KX hcd) (hb _ _ _ _ ?_)
 refine wpAny_newFunctionEnv_cells S.kind hkind λenv he s1 x=>?_
 subst he
 refine⟨lim.keeps x.toInCall.keep,codeAny_func ?_⟩
 obtain⟨t,ht,hq⟩:=hbody A outer s H vs Q E (hr.deeper _) hsp
 have I:Inv (ž CX P w K mg base N qual scope f cdv A outer s H E) [] (start N vs) H s1:=C_ S hr.hd e0 hl r x
 refine wpAny_mono (ht [] s1 (start N vs) H _ I hq) (λfl s' hs=>?_) λe s' hs=>hs
 have fin:∀{σ':St} {H':Hp} {v:V} {u:Value},Inv (ž CX P w K mg base N qual scope f cdv A outer s H E) [] σ' H' s'->RelV v u->Q v H'->CE outer P w H s Q u s':=
  fun{σ' H' v u} J rv q=>⟨v,H',J.os,J.bare,J.base,J.hok,rv,q⟩
 cases fl with
 |ret u=>
  obtain⟨v,σ',H',J,rv,q⟩:=hs
  exact fin J rv q
 |next=>
  obtain⟨σ',H',J,q⟩:=hs
  exact fin (v:=V.non) (u:=Value.none) J rfl q
 |brk=>
  obtain⟨_,_,_,q⟩:=hs
  exact False.elim q
 |cont=>
  obtain⟨_,_,_,q⟩:=hs
  exact False.elim q
end L2
namespace L2
open PySem PySem.Spec PyProof.Rows
section
variable{X:Cx}{x:Str}{p pos:Pos}{e:Expr}{es:List Expr}{t:TA}{id T:String}{r:List V->Hp->VK->Prop}
def tCB(r:List V->Hp->VK->Prop)(t:TA):TE:=λσ H Q=>t σ H λvs H1=>r vs H1 Q
def Fe(hc:Ń X (.builtin id) r)(hg:Gl X x)(hm:X.mg x=none)(hv:bootBuiltins x=some (.builtin id))(ha:PA X (e::es) t)(hn:x≠ "__name__" := by decide)(hdb:(x== ("__debug__" :Str))=false:=by decide)
 (he:starEach (e::es) X.env=(false,eval e X.env)::starEach es X.env:=by rfl)(hpl:(backTo pos (starEach es X.env)).any (·.1)=false:=by rfl):PE X (.Call (.Name x p) (e::es) [] pos) (tCB r t):=by
 intro pins s σ H Q I h
 refine wpAny_Call_Name_kw (fM I hg hm hv ?_ hn hdb)
 exact PyProof.Rows.callWith_builtin1 (ł (ha pos pins s σ H _ I h) λus s1 ⟨vs,H1,I1,r1,q1⟩=>hc pins s1 σ H1 vs us Q I1 r1 q1) he hpl
def rC(hc:Ń X (.type T) r)(hg:Gl X x)(hm:X.mg x=none)(hv:bootBuiltins x=some (.type T))(ha:PA X (e::es) t)(hn:x≠ "__name__" := by decide)(hdb:(x== ("__debug__" :Str))=false:=by decide)
 (he:starEach (e::es) X.env=(false,eval e X.env)::starEach es X.env:=by rfl)(hpl:(backTo pos (starEach es X.env)).any (·.1)=false:=by rfl):PE X (.Call (.Name x p) (e::es) [] pos) (tCB r t):=by
 intro pins s σ H Q I h
 refine wpAny_Call_Name_kw (fM I hg hm hv ?_ hn hdb)
 exact PyProof.Rows.callWith_type1 (ł (ha pos pins s σ H _ I h) λus s1 ⟨vs,H1,I1,r1,q1⟩=>hc pins s1 σ H1 vs us Q I1 r1 q1) he hpl
end
end L2
namespace HT
open PySem PyProof.Rows
section
open PySem.SeqAt
open PySem.AutoSeq1 (wpAny_loadPart')
open PySem.MeetsSeq PySem.MeetsSeq2 PySem.MeetsSeq3
end
section
variable{prog:Program}{w:World}{A:Around}{E:Value->Shared->Prop}{s:Shared}
def iB(n d:Nat):Option Int->Nat
 |none=>d
 |some v=>if v<0 then(v+(n:Int)).toNat else min v.toNat n
def nF(n d k:Nat):iB n d (some (k:Int))=min k n:=by
 show(if(k:Int)<0 then((k:Int)+(n:Int)).toNat else min (k:Int).toNat n)=min k n
 rw[if_neg (by omega),Int.toNat_natCast]
def Fg(n d:Nat)(hd:d<=n)(o:Option Int):iB n d o<=n:=by
 cases o with
 |none=>exact hd
 |some v=>
  show(if v<0 then(v+(n:Int)).toNat else min v.toNat n)<=n
  by_cases hv:v<0
  ·rw[if_pos hv];omega
  ·rw[if_neg hv];exact Nat.min_le_right _ _
end
end HT
namespace L2
open PySem PySem.Spec PyProof.Rows
abbrev TO:=St->Hp->(Option Int->Hp->Prop)->Prop
def PO(X:Cx)(e:Option Expr)(t:TO):Prop:=
 ∀(pins:List (Addr×Obj)) (s:Shared) (σ:St) (H:Hp) (Q:Option Int->Hp->Prop),Inv X pins σ H s->t σ H Q->
  wpAny (model X.prog X.w) X.A (evalPart e X.env) (λu s'=>∃o H',Inv X pins σ H' s'/\IsPart u o/\Q o H') X.xe s
def KQ:TO:=λ_ H Q=>Q none H
section
variable{X:Cx}{e:Expr}{te:TE}{lo hi:Option Expr}{tl th:TO}{pos p2:Pos}
def KR:PO X none KQ:=by
 intro pins s σ H Q I h
 rw[evalPart_none]
 exact wpAny_pure ⟨none,H,I,.none,h⟩
def Bd(X:Cx)(r:V->Option Int->Option Int->Hp->VK->Prop):Prop:=
 ∀(pins:List (Addr×Obj)) (s:Shared) (σ:St) (H:Hp) (x:V) (v vl vu:Value) (lo hi:Option Int) (sl:Addr) (Q:VK),Inv X pins σ H s->RelV x v->s.heap.IsSliceOf sl vl vu .none->IsPart vl lo->IsPart vu hi->r x lo hi H Q->
  ∃T id,typeLookup (.type T) "__getitem__" =pure (some (.builtin id))/\s.TypeIs v T/\wpAny (model X.prog X.w) X.A (getItem v (.ref sl)) (EP X pins σ Q) X.xe s
def Bd.or{r r':V->Option Int->Option Int->Hp->VK->Prop}(h:Bd X r)(h':Bd X r'):Bd X (λx lo hi H Q=>r x lo hi H Q\/r' x lo hi H Q):=by
 intro pins s σ H x v vl vu lo hi sl Q I rx hs pl pu q
 rcases q with q|q
 ·exact h pins s σ H x v vl vu lo hi sl Q I rx hs pl pu q
 ·exact h' pins s σ H x v vl vu lo hi sl Q I rx hs pl pu q
def tSl(r:V->Option Int->Option Int->Hp->VK->Prop)(te:TE)(tl th:TO):TE:=λσ H Q=>te σ H λx H1=>tl σ H1 λl H2=>th σ H2 λu H3=>r x l u H3 Q
def Fi{r:V->Option Int->Option Int->Hp->VK->Prop}(hr:Bd X r)(he:PE X e te)(hl:PO X lo tl)(hu:PO X hi th):PE X (.Subscript e (.Slice lo hi none p2) pos) (tSl r te tl th):=by
 intro pins s σ H Q I h
 refine Subscript_ (ł (he pins s σ H _ I h) λv s1 ⟨x,H1,I1,r1,q1⟩=>?_)
 refine wpAny_Slice (ł (hl pins s1 σ H1 _ I1 q1) λvl s2 ⟨l,H2,I2,pl,q2⟩=>ł (hu pins s2 σ H2 _ I2 q2) λvu s3 ⟨u,H3,I3,pu,q3⟩=>?_)
 rw[evalPart_none]
 refine wpAny_pure ?_
 have I4:Inv X pins σ H3 {s3 with heap:=s3.heap.push {cls:=.type "slice",data:=.fields #[vl,vu,.none]}}:=I3.kept (t':=s3.toks) λb ob q=>Heap.get?_push_of_some _ q
 obtain⟨T,id,hT,ht,hg⟩:=hr pins {s3 with heap:=s3.heap.push {cls:=.type "slice",data:=.fields #[vl,vu,.none]}} σ H3 x v vl vu l u s3.heap.objs.size Q I4 r1 (Heap.IsSliceOf.new ..) pl pu q3
 show wpAny (model X.prog X.w) X.A (subscriptTail e (.Slice lo hi none p2) v (.ref s3.heap.objs.size)) (EP X pins σ Q) X.xe {s3 with heap:=s3.heap.push {cls:=.type "slice",data:=.fields #[vl,vu,.none]}}
 exact tail_any (ops:=[.ref s3.heap.objs.size,v]) ht hT hg (by with_unfolding_all rfl)
def vU(xs:List V)(lo hi:Option Int):List V:=(xs.drop (HT.iB xs.length 0 lo)).take (HT.iB xs.length xs.length hi-HT.iB xs.length 0 lo)
def vV(xs:List V)(lo hi:Option Int):(vU xs lo hi).length<=xs.length:=by
 unfold vU
 rw[List.length_take,List.length_drop]
 omega
end
end L2
namespace L2
open PySem PySem.Spec PyProof.Rows
def KY(n:Nat)(i:Int):Option Nat:=if 0<=i then(if i<n then some i.toNat else none) else if -(n:Int)<=i then some (i+n).toNat else none
def qK{α:Type}(xs:List α)(i:Int):Option α:= (KY xs.length i).bind λj=>xs[j]?
def KZ{n:Nat}{i:Int}{j:Nat}(h:KY n i=some j):seqIndex? i n=some j/\j<n/\ -(n:Int)<=i/\i<n:=by
 unfold KY at h
 by_cases h0:0<=i
 ·rw[if_pos h0] at h
  by_cases h1:i<n
  ·rw[if_pos h1] at h
   have e:i.toNat=j:=Option.some.inj h
   exact⟨by rw[seqIndex_of h0 h1,e],by omega,by omega,h1⟩
  ·rw[if_neg h1] at h;cases h
 ·rw[if_neg h0] at h
  by_cases h1: -(n:Int)<=i
  ·rw[if_pos h1] at h
   have e:(i+n).toNat=j:=Option.some.inj h
   exact⟨by rw[seqIndex_neg (by omega) h1,e],by omega,h1,by omega⟩
  ·rw[if_neg h1] at h;cases h
def tM{α:Type}{xs:List α}{i:Int}{v:α}(h:qK xs i=some v):∃j,seqIndex? i xs.length=some j/\xs[j]?=some v/\j<xs.length/\ -(xs.length:Int)<=i/\i<xs.length:=by
 unfold qK at h
 cases e:KY xs.length i with
 |none=>rw[e] at h;cases h
 |some j=>
  rw[e] at h
  obtain⟨h1,h2,h3,h4⟩:=KZ e
  exact⟨j,h1,h,h2,h3,h4⟩
def nG(b:Expr):Prop:=∀o i,subscripted b false o i=operate [o,i] (getItem o i)
def yQ(X:Cx)(r:R2):Prop:=
 ∀(value slice:Expr) (pins:List (Addr×Obj)) (s:Shared) (σ:St) (H:Hp) (x y:V) (v u:Value) (Q:VK),Inv X pins σ H s->RelV x v->RelV y u->r x y H Q->
  subscripted slice false v u=operate [v,u] (getItem v u)->wpAny (model X.prog X.w) X.A (subscriptTail value slice v u) (EP X pins σ Q) X.xe s
def MtR(X:Cx)(id:String)(r:V->List V->Hp->VK->Prop):Prop:=
 ∀(pins:List (Addr×Obj)) (s:Shared) (σ:St) (H:Hp) (x:V) (xs:List V) (v:Value) (us:List Value) (Q:VK),Inv X pins σ H s->RelV x v->Vals xs us->r x xs H Q->
  wpAny (model X.prog X.w) X.A (call (.builtin id) (v::us)) (EP X pins σ Q) X.xe s
section
variable{X:Cx}{a b:Expr}{ta tb:TE}{pos:Pos}
def yQ.or{r r':R2}(h:yQ X r)(h':yQ X r'):yQ X (λx y H Q=>r x y H Q\/r' x y H Q):=by
 intro value slice pins s σ H x y v u Q I rx ry q hs
 rcases q with q|q
 ·exact h value slice pins s σ H x y v u Q I rx ry q hs
 ·exact h' value slice pins s σ H x y v u Q I rx ry q hs
def Zbn{r:R2}(hr:yQ X r)(ha:PE X a ta)(hb:PE X b tb)(hs:nG b):PE X (.Subscript a b pos) (tOp r ta tb):=by
 intro pins s σ H Q I h
 exact Subscript_ (Wi ha hb I h λv u s2 x y H2 I2 rx ry q=>hr a b pins s2 σ H2 x y v u Q I2 rx ry q (hs _ _))
def Zbo(K:PySem.W.Frag):R2:=λx y H Q=>∃p xs i v,x=.ref p/\y=.int i/\ū K H p xs/\qK xs i=some v/\Q v H
def Zbp(K:PySem.W.Frag):R2:=λx y H Q=>∃p xs i v,x=.ref p/\y=.int i/\fC K H p xs/\qK xs i=some v/\Q v H
def Zbq:R2:=λx y H Q=>∃z i c,x=.str z/\y=.int i/\z.length<=sizeLine/\qK z.cps.toList i=some c/\Q (.str ⟨#[c]⟩) H
def K_:yQ X (Zbo X.K):=by
 intro value slice pins s σ H x y v u Q I rx ry h hs
 obtain⟨p,xs,i,z,rfl,rfl,hq,he,q⟩:=h
 cases rx
 obtain⟨t,rfl⟩:=ry
 obtain⟨its,r,pl,hz⟩:=I.list hq
 obtain⟨j,h1,h2,h3,h4,h5⟩:=tM he
 obtain⟨w,ew,rw'⟩:=r.get h2
 have hl:=r.length
 have hn:=oh
 have fin:EP X pins σ Q w s:=⟨z,H,I,rw',q⟩
 by_cases h0:0<=i
 ·have hj:i.toNat=j:=by
   rw[seqIndex_of h0 h5] at h1
   exact Option.some.inj h1
  exact item_listR pl.isList h0 (by omega) (by rw[hj];simpa using ew) fin hs
 ·have hj:(i+(its.toArray.size:Int)).toNat=j:=by
   rw[seqIndex_neg (by omega) h4] at h1
   rw[List.size_toArray,<-hl]
   exact Option.some.inj h1
  exact subscriptTail_builtinR (x:=w) pl.isList.typeIs slot_list_getitem.lookup
   (wpAny_getItem_list_neg (Q:=λr s'=>r=w/\EP X pins σ Q r s') pl.isList (by omega) (by rw[List.size_toArray]<;>omega) (by omega) (by rw[hj];simpa using ew) ⟨rfl,fin⟩) hs
def WK:yQ X (Zbp X.K):=by
 intro value slice pins s σ H x y v u Q I rx ry h hs
 obtain⟨p,xs,i,z,rfl,rfl,hq,he,q⟩:=h
 cases rx
 obtain⟨t,rfl⟩:=ry
 obtain⟨its,r,pl,hz⟩:=I.tuple hq
 obtain⟨j,h1,h2,h3,h4,h5⟩:=tM he
 obtain⟨w,ew,rw'⟩:=r.get h2
 have hl:=r.length
 have hn:=oh
 have fin:EP X pins σ Q w s:=⟨z,H,I,rw',q⟩
 exact subscriptTail_builtinR (x:=w) pl.typeIs slot_tuple_getitem.lookup
  (getItem_tuple (j:=j) (Q:=λr s'=>r=w/\EP X pins σ Q r s') pl (by omega) (by omega) (by rw[List.size_toArray,<-hl];exact h1) (by simpa using ew) ⟨rfl,fin⟩) hs
def WL:yQ X Zbq:=by
 intro value slice pins s σ H x y v u Q I rx ry h hs
 obtain⟨z,i,c,rfl,rfl,hz,he,q⟩:=h
 obtain⟨t,rfl⟩:=rx
 obtain⟨t',rfl⟩:=ry
 obtain⟨j,h1,h2,h3,h4,h5⟩:=tM he
 have hl:z.cps.toList.length=z.length:=by simp[Str.length]
 rw[hl] at h1 h4 h5
 have hn:=oh
 exact tail_any (typeIs_str s z t) slot_str_getitem.lookup (getItem_str (c:=c) (by
  have e1:decide (i < -(2 ^ 63:Int))=false:=decide_eq_false (by omega)
  have e2:decide (i >= 2 ^ 63)=false:=decide_eq_false (by omega)
  rw[e1,e2,Bool.or_false]) (by rw[h1];simpa using h2) ⟨.str ⟨#[c]⟩,H,I.tok _,⟨_,rfl⟩,q⟩) hs
def rIx(K:PySem.W.Frag):R2:=λx y H Q=>Zbo K x y H Q\/Zbp K x y H Q\/Zbq x y H Q
def WM:yQ X (rIx X.K):=K_.or (WK.or WL)
def tQ(lo hi:Option Int)(n:Nat):(sliceBounds lo hi none n).1=((HT.iB n 0 lo:Nat):Int)/\(sliceBounds lo hi none n).2.1=((HT.iB n n hi:Nat):Int)/\(sliceBounds lo hi none n).2.2=1:=by
 refine⟨?_,?_,rfl⟩
 ·cases lo with
  |none=>simp[sliceBounds,HT.iB]
  |some i=>
   simp only[sliceBounds,HT.iB,Option.getD_none,show(1:Int)>0 by decide,if_true]
   by_cases h:i<0
   ·simp only[h,if_true]<;>omega
   ·simp only[h,if_false]<;>omega
 ·cases hi with
  |none=>simp[sliceBounds,HT.iB]
  |some i=>
   simp only[sliceBounds,HT.iB,Option.getD_none,show(1:Int)>0 by decide,if_true]
   by_cases h:i<0
   ·simp only[h,if_true]<;>omega
   ·simp only[h,if_false]<;>omega
def qL(its:List Value)(lo hi:Option Int):slicePick its.toArray lo hi none=((its.drop (HT.iB its.length 0 lo)).take (HT.iB its.length its.length hi-HT.iB its.length 0 lo)).toArray:=by
 obtain⟨h1,h2,h3⟩:=tQ lo hi its.toArray.size
 unfold slicePick
 rw[h1,h2,h3]
 simp only[sliceRange_one,pick_run,List.size_toArray]<;>rfl
def ZdY(K:PySem.W.Frag):V->Option Int->Option Int->Hp->VK->Prop:=λx lo hi H Q=>∃a xs,x=.ref a/\ū K H a xs/\∀p,H p=none->Q (.ref p) (upd H p (.lst (vU xs lo hi)))
def La:Bd X (ZdY X.K):=by
 intro pins s σ H x v vl vu lo hi sl Q I rx hs pl pu h
 obtain⟨a,xs,rfl,hx,q⟩:=h
 cases rx
 obtain⟨its,r,ht,hz⟩:=I.list hx
 have hlen:=r.length
 refine⟨"list",_,slot_list_getitem.lookup,ht.isList.typeIs,?_⟩
 refine wpAny_getItem_list_slice ht.isList hs pl pu .none (by simp) ?_ (by rw[List.size_toArray]<;>omega)
 rw[qL,<-hlen]
 refine⟨.ref s.heap.objs.size,_,I.laid (t':=s.toks) (o:=.lst (vU xs lo hi)) (λb ob q=>Heap.get?_push_of_some _ q) (Nat.le_refl _) ?_,rfl,q _ (I.hok.fresh (Nat.le_refl _))⟩
 exact⟨Nat.le_trans (vV xs lo hi) hz,_,0,(r.drop (HT.iB xs.length 0 lo)).take (HT.iB xs.length xs.length hi-HT.iB xs.length 0 lo),Heap.get?_push_size _ rfl⟩
def tU:Ń X (.type "list") (λxs H Q=>∃p ys,xs=[.ref p]/\(ū X.K H p ys\/fC X.K H p ys)/\∀l,H l=none->Q (.ref l) (upd H l (.lst ys))):=by
 intro pins s σ H xs us Q I r h
 obtain⟨p,ys,rfl,hq,q⟩:=h
 obtain⟨u,rfl,rx⟩:=vals1 r
 cases rx
 have fin:∀(its:List Value),Vals ys its->ys.length<=sizeLine->∀(h':Heap) (c':Nat),(∀b o',s.heap.get? b=some o'->h'.get? b=some o')->
  h'.get? s.heap.objs.size=some {cls:=.type "list",dict:=none,data:=.seq its.toArray c',slots:=#[]}->EP X pins σ Q (.ref s.heap.objs.size) {s with heap:=h'}:=λits r' hz h' c' kp e=>
  ⟨.ref s.heap.objs.size,_,I.laid (t':=s.toks) kp (Nat.le_refl _) (show Ł X.prog X.w _ h' _ (.lst ys) from⟨hz,its,c',r',e⟩),rfl,q _ (I.hok.fresh (Nat.le_refl _))⟩
 rcases hq with hq|hq
 ·obtain⟨its,r',pl,hz⟩:=I.list hq
  have hlen:=r'.length
  obtain⟨o,ho,hc,n,hd⟩:=pl.isList
  exact call_list_seq p (.inl rfl) ho hc hd (λh' c' kp e=>fin its r' hz h' c' kp e) (by simp only[List.size_toArray]<;>omega)
 ·obtain⟨its,r',pl,hz⟩:=I.tuple hq
  have hlen:=r'.length
  obtain⟨o,ho,hc,n,hd⟩:=pl
  exact call_list_seq p (.inr rfl) ho hc hd (λh' c' kp e=>fin its r' hz h' c' kp e) (by simp only[List.size_toArray]<;>omega)
def qM:Ń X (.type "tuple") (λxs H Q=>∃p ys,xs=[.ref p]/\((ū X.K H p ys/\∀l,H l=none->Q (.ref l) (upd H l (.tup ys)))\/(fC X.K H p ys/\Q (.ref p) H))):=by
 intro pins s σ H xs us Q I r h
 obtain⟨p,ys,rfl,h⟩:=h
 obtain⟨u,rfl,rx⟩:=vals1 r
 cases rx
 rcases h with⟨hq,q⟩|⟨hq,q⟩
 ·obtain⟨its,r',pl,hz⟩:=I.list hq
  have hlen:=r'.length
  refine call_tuple_list pl.isList (λh' kp=>?_) (by simp only[List.size_toArray]<;>omega)
  have I1:Inv X pins σ H {s with heap:=h'}:=I.kept (t':=s.toks) kp
  have I2:Inv X pins σ (upd H h'.objs.size (.tup ys)) {s with heap:=h'.push {cls:=.type "tuple",data:=.seq its.toArray}}:=
   I1.laid (t':=s.toks) (λb o e=>Heap.get?_push_of_some _ e) (Nat.le_refl _) (show Ł X.prog X.w _ _ _ (.tup ys) from⟨hz,its,r',IsTup.new _ _⟩)
  exact⟨.ref h'.objs.size,_,I2,rfl,q _ (I1.hok.fresh (Nat.le_refl _))⟩
 ·obtain⟨its,r',pl,hz⟩:=I.tuple hq
  exact call_tuple_same pl ⟨.ref p,H,I,rfl,q⟩
def tyV(K:PySem.W.Frag)(T:String)(x:V)(H:Hp):Prop:=match x with
 | .str _=>T= "str"
 | .int _=>T= "int"
 | .ref p=>(T= "list" ∧∃xs,ū K H p xs)∨(T= "tuple" ∧∃o,K.lookup p=some o∧o.cls=.type "tuple" ∧o.dict=none)∨
     (T= "dict" /\((∃kvs,H p=some (.dK kvs))\/∃kvs,H p=some (.dT kvs)))\/(T= "set" /\∃S n,H p=some (.set S n))
 |_=>False
def WQ{pins:List (Addr×Obj)}{σ:St}{H:Hp}{s:Shared}{T:String}{x:V}{v:Value}(I:Inv X pins σ H s)(r:RelV x v)(ty:tyV X.K T x H) :
 s.TypeIs v T/\∀a,v=.ref a->∃ob,s.heap.get? a=some ob/\ob.dict=none:=by
 cases x with
 |str z=>
  obtain⟨t,rfl⟩:=r
  cases(show T= "str" from ty)
  exact⟨typeIs_str s z t,λ_ e=>nomatch e⟩
 |int i=>
  obtain⟨t,rfl⟩:=r
  cases(show T= "int" from ty)
  exact⟨typeIs_int s i t,λ_ e=>nomatch e⟩
 |ref p=>
  cases r
  rcases ty with⟨rfl,xs,hq⟩|⟨rfl,o,hk,hc,hd⟩|⟨rfl,hk⟩|⟨rfl,S,n,hk⟩
  ·obtain⟨its,_,pl,_⟩:=I.list hq
   refine⟨pl.isList.typeIs,λa e=>?_⟩
   cases e
   obtain⟨o,n,e,c,hd,_⟩:=pl
   exact⟨o,e,hd⟩
  ·refine⟨⟨o,I.dz p o hk,hc⟩,λa e=>?_⟩
   cases e
   exact⟨o,I.dz _ o hk,hd⟩
  ·have z:∃o,s.heap.get? p=some o∧o.ExactDict:=by
    rcases hk with⟨kvs,hk⟩|⟨kvs,hk⟩
    ·obtain⟨_,_,_,_,o,_,_,e,ex,_⟩:=I.hok p _ hk
     exact⟨o,e,ex⟩
    ·obtain⟨_,_,_,_,o,_,_,e,ex,_⟩:=I.hok p _ hk
     exact⟨o,e,ex⟩
   obtain⟨o,e,ex⟩:=z
   refine⟨⟨o,e,ex.1⟩,λa e2=>?_⟩
   cases e2
   exact⟨o,e,ex.2.1⟩
  ·obtain⟨o,_,_,_,e,ex,_⟩:=I.hok p _ hk
   refine⟨⟨o,e,ex.1⟩,λa e2=>?_⟩
   cases e2
   exact⟨o,e,ex.2.1⟩
 |_=>exact False.elim ty
def tBM(K:PySem.W.Frag)(T:String)(r:V->List V->Hp->VK->Prop)(to:TE)(t:TA):TE:=λσ H Q=>to σ H λx H1=>tyV K T x H1/\t σ H1 λxs H2=>r x xs H2 Q
variable{o e:Expr}{es:List Expr}{to:TE}{t:TA}{name:Str}{apos cpos:Pos}{T id:String}{r:V->List V->Hp->VK->Prop}
def lQ(pa:PlainAttrs T)(slot:Slot T name id)(hty:typeOf (.builtin id)=pure (.type "method_descriptor"))(hm:MtR X id r)(ho:PE X o to)(ha:PA X (e::es) t)
 (hbase:attributeBase o name X.env (eval o X.env)=eval o X.env:=by rfl)
 (hfew:((backTo cpos (starEach (e::es) X.env)).all (fun x=>!x.1) && (backToKw cpos (keywordEach [] X.env)).all (fun x=>x.1.isSome)
   && decide ((e::es).length+([]:List Keyword).length+(if([]:List Keyword).isEmpty then 0 else 1)<30))=true:=by rfl)
 (hline:(apos.endLine== cpos.line)=true:=by rfl)(hs:starEach (e::es) X.env=(false,eval e X.env)::starEach es X.env:=by rfl)(hplain:(backTo cpos (starEach es X.env)).any (·.1)=false:=by rfl) :
 PE X (.Call (.Attribute o name apos) (e::es) [] cpos) (tBM X.K T r to t):=by
 intro pins s σ H Q I h
 refine wpAny_Call_method_late hbase hfew hline rfl (ł (ho pins s σ H _ I h) λv s1 ⟨x,H1,I1,r1,ty,q1⟩=>?_)
 obtain⟨h1,h2⟩:=WQ I1 r1 ty
 refine⟨T,id,pa,slot,hty,h1,h2,?_⟩
 have hA:=ha cpos pins s1 σ H1 _ I1 q1
 rw[hs] at hA ⊢
 refine Calls.callWith_builtin (by show(false || (backTo cpos (starEach es X.env)).any (·.1))=false;rw[hplain]<;>rfl) (Calls.evalArgs_plain ?_)
 exact ł hA λus s2 ⟨vs,H2,I2,r2,q2⟩=>hm pins s2 σ H2 x vs v us Q I2 r1 r2 q2
end
end L2
namespace L2
open PySem PySem.Spec PyProof.Rows
def MtM(X:Cx)(id:String)(r:V->List V->Hp->VK->Prop):Prop:=
 ∀(pins:List (Addr×Obj)) (s:Shared) (σ:St) (H:Hp) (x:V) (xs:List V) (v:Value) (us:List Value) (Q:VK),Inv X pins σ H s->RelV x v->Vals xs us->r x xs H Q->
  wpAny (model X.prog X.w) X.A (call (.builtin id) (v::us)) (EP X pins σ Q) X.xe s
theorem Vals.one:∀{x:V} {us:List Value},Vals [x] us->∃u,us=[u]/\RelV x u
 |_,_,.cons r .nil=>⟨_,rfl,r⟩
section
variable{X:Cx}{pins:List (Addr×Obj)}{σ:St}{H:Hp}{s:Shared}{l b:Addr}{xs ys zs:List V}
def Inv.ZdZ{its its':List Value}{n:Nat}{f:Array Value->Array Value}{t':Nat}(I:Inv X pins σ H s)(hH:H l=some (.lst xs))
 (e:s.heap.get? l=some {cls:=.type "list",data:=.seq its.toArray n})(hf:f its.toArray=its'.toArray)(hv:Vals ys its')(hz:ys.length<=sizeLine) :
 Inv X pins σ (upd H l (.lst ys)) {s with heap:=s.heap.update l (Obj.mapSeq f),toks:=t'}:=by
 have q:=PySem.IsL.update e f
 rw[hf] at q
 refine I.write (x:=l) (e:=l) (by rw[hH];exact trivial) (.inl rfl) (λb' u hb hu=>(Heap.get?_update_other s.heap (Obj.mapSeq f) (Ne.symm hb)).trans hu) ⟨_,q⟩ ?_
 exact⟨hz,its',_,hv,q⟩
def Inv.Zd0{its:List Value}{t':Nat}(I:Inv X pins σ H s)(hv:Vals ys its)(hz:ys.length<=sizeLine) :
 Inv X pins σ (upd H s.heap.objs.size (.lst ys)) {s with heap:=s.heap.push {cls:=.type "list",data:=.seq its.toArray},toks:=t'}:=
 I.laid (λ_ _ q=>Heap.get?_push_of_some _ q) (Nat.le_refl _) ⟨hz,its,0,hv,Heap.get?_push_size _ rfl⟩
theorem Inv.fresh(I:Inv X pins σ H s):H s.heap.objs.size=none:=I.hok.fresh (Nat.le_refl _)
def Inv.Zd1(I:Inv X pins σ H s)(hH:H l=some (.lst xs)):xs.length<=sizeLine/\∃(its:List Value) (n:Nat),Vals xs its/\xs.length=its.length/\s.heap.get? l=some {cls:=.type "list",data:=.seq its.toArray n}:=by
 obtain⟨z,its,n,r,e⟩:=I.hok l _ hH
 exact⟨z,its,n,r,r.length,e⟩
end
section
variable{X:Cx}
def Bf:V->List V->Hp->VK->Prop:=λx vs H Q=>∃l xs y,x=.ref l/\vs=[y]/\H l=some (.lst xs)/\xs.length<sizeLine/\Q .non (upd H l (.lst (xs ++ [y])))
def œ:MtM X "list.append" Bf:=by
 intro pins s σ H x vs v us Q I rx rv h
 obtain⟨l,xs,y,rfl,rfl,hH,hz,q⟩:=h
 cases rx
 obtain⟨u,rfl,ru⟩:=rv.one
 obtain⟨z,its,n,r,hl,e⟩:=I.Zd1 hH
 refine call_meets F.slot_list_append ⟨_,e,rfl⟩ F.entry_list_append (F.args_list_append_2 _ _) (PySem.list_append l its.toArray n u (by rw[List.size_toArray];omega)) ⟨e,?_⟩
 refine⟨.non,_,I.ZdZ (its':=its ++ [u]) hH e (by simp) (r.append (.cons ru .nil)) ?_,rfl,q⟩
 rw[List.length_append,List.length_singleton]
 omega
end
section
variable{prog:Program}{w:World}{A:Around}{E:Value->Shared->Prop}{s:Shared}
end
section
variable{X:Cx}
end
end L2
namespace Att
open PySem PySem.W PySem.Calls PyProof.Rows
def mO{P:Params}{h:Heap}:∀(ns:List Int) (vs:List Value),WellAll P h vs (ns.map WData.int)->IntsAre vs ns:=by
 intro ns
 induction ns with
 |nil=>
  intro vs w
  rw[List.map_nil] at w
  cases w
  exact .nil
 |cons n ns ih=>
  intro vs w
  rw[List.map_cons] at w
  cases w with
  |cons a b=>
   cases a
   exact .cons _ _ (ih _ b)
def Dc{l:OpenLaw}{n:Nat}(hn:l.most=some n){P:Params}{h:Heap}{args:List WData}{vals:List Value}
 (hpre:l.row.toRowW.claim.pre args=true)(hwl:WellAll P h vals args) :
 ∃a vs ns,vals=[Value.ref a]/\args=[WData.list (ns.map WData.int)]/\h.get? a=some {cls:=.type "list",data:=.seq vs.toArray}/\IntsAre vs ns/\ns.length<=n:=by
 have hsh:WShape.hasAll [] args [.list .int]=true:=(pre_splitW hpre).1
 have hc:l.pre.holds [] {args:=args}=true:=(pre_splitW hpre).2
 obtain⟨d,r,rfl,h1,h2⟩:=hasAllW_cons hsh
 obtain rfl:=hasAllW_nil h2
 obtain⟨xs,rfl,h3⟩:=hasW_list h1
 obtain⟨ns,rfl⟩:=items_int h3
 have hlen:ns.length<=n:=by
  unfold OpenLaw.pre at hc
  have h4:(WTm.not (.lt (.lit (.int (n:Int))) (.len (.arg 0)))).holds [] {args:=[.list (ns.map .int)]}=true:=by
   have h4:=(holds_andW hc).1
   rw[hn] at h4
   exact h4
  have h5:=condW_of h4 (w_not (w_lt w_lit (w_len_list (w_arg rfl))))
  rw[List.length_map] at h5
  refine Nat.le_of_not_lt λq=>?_
  have q':(n:Int)<((ns.length:Nat):Int):=by omega
  first
   |(rw[decide_eq_true q'] at h5;exact absurd h5 (by decide))
   |(simp at h5;omega)
 cases hwl with
 |cons w1 w2=>
  cases w2
  cases w1 with
  |list ho hall=>exact⟨_,_,ns,rfl,rfl,ho,mO ns _ hall,hlen⟩
def Dd(l:OpenLaw)(args:List WData):l.row.toRowW.claim.post args (.bool true) args=true:=
 postW_of (r:=l.row.toRowW) (X:=(true== true))
  (show WShape.has [] (.bool true) .bool=true by first|rfl|decide|simp[WShape.has,WShape.arms,WShape.armsAll])
  (show(WTm.eq .res (.lit (.bool true))).value [] {args:=args,res:=some (.bool true),after:=args}=some (.bool (true== true)) from w_eq_bool (w_res rfl) w_lit) rfl
def vW{l:OpenLaw}{n:Nat}{q:Program}{loose:List Str}{XP:(Str->Option Value)->Heap->Prop}{YP:World->Heap->Prop}{d:DefRec}
 (hn:l.most=some n)(hdf:d.params.defaults=[])
 (call:∀(w:World) (s₀ s₁:Shared) (mg mb:Str→Option Value) (fa:Addr) (o:Obj) (pm cd doc:Value) (a:Addr) (vs:List Value) (ns:List Int),
   Ground q loose [] XP w s₀ mg mb s₁.heap->YP w s₁.heap->
   s₁.heap.get? fa=some o->o.data=.func (docDef d.name d.params d.body d.scope pm cd doc)->s₁.heap.CodeRec cd d.name->mg d.name=some (.ref fa)->
   s₁.heap.get? a=some {cls:=.type "list",data:=.seq vs.toArray}->IntsAre vs ns->ns.length<=n->s₁.gens= #[]->
   codeAny (model l.prog w) callerA (.call (.ref fa) ⟨[.ref a],[]⟩) (λr s'=>r=.ok (.ret (.bool true))/\OldK s₁.heap s'.heap/\s'.os=s₁.os/\AllBare s'.gens) s₁) :
 WalkO q loose XP YP l.row.toRowW d [] (λf vs=>PySem.call f vs):=by
 intro w s₀ s₁ mg mb G Y fa o pm cd doc dV kV ho hd hcd hD hmg hg args vals as hpre hlay hrd hwl hlo
 obtain rfl:dV=.none:=Dflts.none hD hdf
 obtain rfl:kV=.none:=Dflts.noKw hD
 obtain⟨a,vs,ns,rfl,rfl,hobj,hints,hlen⟩:=Dc hn hpre hwl
 refine enter_call (codeAny_mono (call w s₀ s₁ mg mb fa o pm cd doc a vs ns G Y ho (fd_plain hd) hcd hmg hobj hints hlen hg) λr s' hq=>?_)
 obtain⟨rfl,h2,h3,h4⟩:=hq
 exact⟨.inl ⟨.bool true,.bool true,[],rfl,λ_=>rfl,.bool true,Dd l _,λ_=>⟨List.Pairwise.nil,λ_ hm=>(nomatch hm)⟩⟩,h2,h3,h4⟩
section
variable{prog:Program}{w:World}{A:Around}{E:Value->Shared->Prop}{s:Shared}{K:Frag}
end
end Att
namespace L2
open PySem PySem.Spec PyProof.Rows
theorem ſ:∀{vs:List Value} {ns:List Int},IntsAre vs ns->Vals (ns.map V.int) vs
 |_,_,.nil=>.nil
 |_,_,.cons n t h=>.cons ⟨t,rfl⟩ (ſ h)
def Only(H:Hp):Prop:=∀b,H b=none\/(∃o xs,H b=some (.bY o (.lst xs)))\/∃q,H b=some (.fL q)
def fQ(K:PySem.W.Frag):List Str->Hp
 | []=>λ_=>none
 |y::r=>λb=>match PySem.W.tabIn K y with
  |some (_,P)=>if b=P then some (.fL (aR y)) else fQ K r b
  |none=>fQ K r b
theorem bD{K:PySem.W.Frag}:∀{l:List Str} {b:Addr} {u:HO},fQ K l b=some u->∃y c,y∈l/\PySem.W.tabIn K y=some (c,b)/\u=.fL (aR y)
 | [],_,_,h=>by cases(show(none:Option HO)=some _ from h)
 |y::r,b,u,h=>by
  have h':(match PySem.W.tabIn K y with
   |some (_,P)=>if b=P then some (.fL (aR y)) else fQ K r b
   |none=>fQ K r b)=some u:=h
  have rc:fQ K r b=some u->∃z c,z∈y::r/\PySem.W.tabIn K z=some (c,b)/\u=.fL (aR z):=λq=>
   let ⟨z,c,h1,h2,h3⟩:=bD q
   ⟨z,c,List.mem_cons_of_mem _ h1,h2,h3⟩
  cases e:PySem.W.tabIn K y with
  |none=>rw[e] at h';exact rc h'
  |some p=>
   obtain⟨c,P⟩:=p
   rw[e] at h'
   have h2:(if b=P then some (HO.fL (aR y)) else fQ K r b)=some u:=h'
   by_cases hb:b=P
   ·rw[if_pos hb] at h2
    cases h2
    exact⟨y,c,List.mem_cons_self,by rw[hb];exact e,rfl⟩
   ·rw[if_neg hb] at h2
    exact rc h2
theorem Bg{K:PySem.W.Frag}{y:Str}{c P:Addr}(e:PySem.W.tabIn K y=some (c,P)):∀{l:List Str},(∀z∈l,z=y)->y∈l->fQ K l P=some (.fL (aR y))
 | [],_,h=>by cases h
 |z::r,h1,_=>by
  have hz:=h1 z List.mem_cons_self
  subst hz
  show(match PySem.W.tabIn K z with
   |some (_,Q)=>if P=Q then some (HO.fL (aR z)) else fQ K r P
   |none=>fQ K r P)=_
  rw[e]
  exact if_pos rfl
def Fj{P:Program}{w:World}{K:PySem.W.Frag}{mg mb:Str->Option Value}{CX:lO}{k:Nat}{fa a:Addr}{fd:FuncData}{x:Str}{sp:Sp}{s₁:Shared}{vs:List Value}{ns:List Int}
 (KX:K.In s₁.heap)(hns:s₁.heap.Ns mainGlobals mg)(hb:s₁.heap.Ns builtinsNs mb)(hbb:∀x:Str,x≠ "__name__" ->mb x=bootBuiltins x)(hlim:s₁.heap.NoLimit)(hg:s₁.gens= #[])
 (ha:s₁.heap.get? a=some {cls:=.type "list",data:=.seq vs.toArray})(hi:IntsAre vs ns)(hl:ns.length<=sizeLine)(hr:Ő k callerA)
 (F:∀base:Heap,K.In base->base.Ns mainGlobals mg->ģ P w K mg base CX k fa fd [x] sp)(hbind:∀(s:Shared) (u:Value),BindsTo s fd ⟨[u],[]⟩ [(x,u)])
 (hsp:∀H:Hp,Only H->ū K H a (ns.map V.int)->sp [.ref a] H (λv _=>v=.bl true) λ_ _ _=>False)
 (hCX:∀H e s',CX [] H s₁ (λ_ _ _=>False) e s'->False)
 (hnt:lams≠[]->PySem.W.noTabs K=true)(hone:∀y z,y∈lams->z∈lams->y=z)(htb:∀y c Pt,y∈lams->PySem.W.tabIn K y=some (c,Pt)->PySem.W.CodeHd s₁.heap c Pt/\s₁.heap.get? Pt=some (PySem.W.tabObj #[])/\s₁.heap.BuiltinsAt mg Pt) :
 codeAny (model P w) callerA (.call (.ref fa) ⟨[.ref a],[]⟩) (λr s'=>r=.ok (.ret (.bool true))/\OldK s₁.heap s'.heap/\s'.os=s₁.os/\AllBare s'.gens) s₁:= by
 have rv:=ſ hi
 have lenV:=hi.length
 -- from an abstract heap in which nothing but the script may be tracked
 have core:∀H:Hp,Only H->ū K H a (ns.map V.int)->cL P w H s₁.heap->(∀b,H b≠none->b=a\/∃y c,y∈lams/\PySem.W.tabIn K y=some (c,b))->(H a≠none->K.lookup a=none)->(∀y c Pt,y∈lams->PySem.W.tabIn K y=some (c,Pt)->H Pt=some (.fL (aR y)))->
  codeAny (model P w) callerA (.call (.ref fa) ⟨[.ref a],[]⟩) (λr s'=>r=.ok (.ret (.bool true))/\OldK s₁.heap s'.heap/\s'.os=s₁.os/\AllBare s'.gens) s₁:= by
  intro H hO hS hok hA hK hT
  have nH:∀{b:Addr} {o:Obj},s₁.heap.get? b=some o->H b=none->(qJ s₁.heap H).get? b=some o:=λe n=>En e n
  have noA:∀{b:Addr} {o:Obj} {es:Array DictEntry} {ep:Nat},s₁.heap.get? b=some o->o.data=.dict es ep->H b=none:=fun{b o es ep} e d=>by
   cases q:H b with
   |none=>rfl
   |some u=>
    rcases hA b (by rw[q];simp) with e'|⟨y,c,hy,hty⟩
    ·subst e'
     rw[ha] at e;cases e
     have d':Data.seq vs.toArray _=Data.dict es ep:=d
     cases d'
    ·have e2:=(htb y c b hy hty).2.1
     rw[e] at e2;cases e2;cases d
  have nsK:∀{b:Addr} {m:Str->Option Value},s₁.heap.Ns b m->(qJ s₁.heap H).Ns b m:=fun{b m} ⟨o,es,ep,e,d,r⟩=>⟨o,es,ep,nH e (noA e d),d,r⟩
  have hKb:K.In (qJ s₁.heap H):=λb o e=>nH (KX b o e) (by
   cases q:H b with
   |none=>rfl
   |some u=>
    rcases hA b (by rw[q];simp) with e'|⟨y,c,hy,hty⟩
    ·subst e'
     rw[hK (by rw[q];simp)] at e;cases e
    ·have e2:=(htb y c b hy hty).2.1
     rw[KX b o e] at e2
     cases e2
     have h2:=List.all_eq_true.mp (hnt (λz=>by rw[z] at hy;cases hy)) (b,_) (PySem.W.mem_of_lookupK e)
     exact absurd (show false=true from h2) Bool.false_ne_true)
  have hM:Mod K mg (qJ s₁.heap H):=⟨hKb,nsK hns,⟨mb,nsK hb,hbb⟩,let ⟨mc,h1,h2⟩:=hlim;⟨mc,nsK h1,h2⟩⟩
  have hTB:TabsOk K mg (qJ s₁.heap H) H:=λy c Pt hy hty=>by
   obtain⟨⟨o,us,file,tf,flags,tg,inF,text,tt,e1,r1,r2⟩,_,bm,ob,b1,b2,b3,b4,b5,b6,b7⟩:=htb y c Pt hy hty
   refine⟨⟨o,us,file,tf,flags,tg,inF,text,tt,nH e1 ?_,r1,r2⟩,hT y c Pt hy hty,bm,ob,b1,b2,b3,b4,nH b5 ?_,b6,b7⟩
   rotate_left
   ·cases q:H bm with
    |none=>rfl
    |some u=>
     rcases hA bm (by rw[q];simp) with e'|⟨z,c2,hz,htz⟩
     ·rw[e',ha] at b5;cases b5;exact absurd (Value.type.inj b6) (by decide)
     ·have e2:=(htb z c2 bm hz htz).2.1
      rw[b5] at e2;cases e2;cases b6
   cases q:H c with
   |none=>rfl
   |some u=>
    rcases hA c (by rw[q];simp) with e'|⟨z,c2,hz,htz⟩
    ·rw[e',ha] at e1;cases e1;exact absurd (Value.type.inj r1) (by decide)
    ·have e2:=(htb z c2 c hz htz).2.1
     rw[e1] at e2;cases e2;cases r1
  have e0:yP P w K mg (qJ s₁.heap H) callerA [] s₁ H:=⟨rfl,hM,λb o e=>Ko e,Nat.le_of_eq (CJ _ _),trivial,λb hb=>absurd (show b∈([]:List Addr) from hb) (by simp),hok,.of_eq hg,hTB⟩
  refine codeAny_mono ((F _ hKb (nsK hns)).run callerA [] s₁ H ⟨[.ref a],[]⟩ [.ref a] [.ref a] _ _ hr e0 (hbind s₁ (.ref a)) (.cons rfl .nil) (hsp H hO hS)) λr s' h=>?_
  cases r with
  |error e=>exact(hCX H e s' h).elim
  |ok fl=>
   cases fl with
   |next=>exact False.elim h
   |brk=>exact False.elim h
   |cont=>exact False.elim h
   |ret u=>
    obtain⟨v,H',os,bare,un,hok',r',q⟩:=h
    have q':v=.bl true:=q
    subst q'
    obtain rfl:u=Value.bool true:=r'
    have old:∀b o,s₁.heap.get? b=some o->(∀t,H b≠some (.fL t))->s'.heap.get? b=some o:=?_
    ·refine⟨rfl,⟨λb o e=>?_,λb o e=>?_⟩,os,bare⟩
     ·by_cases ht:∃t,H b=some (.fL t)
      ·obtain⟨t,ht⟩:=ht
       obtain⟨ps,e1,_⟩:=hok' b _ (un.bZ b t ht)
       rcases hA b (by rw[ht];simp) with e'|⟨y,c,hy,hty⟩
       ·subst e'
        obtain⟨ps2,e3,_⟩:=hok b _ ht
        rw[ha] at e3;cases e3
       ·obtain⟨⟨o2,us,file,tf,flags,tg,inF,text,tt,f1,f2,f3,f4,_⟩,e2,_⟩:=htb y c b hy hty
        rw[e] at e2;cases e2
        exact .inr (.inl ⟨⟨c,o2,us,f1,f2,f3,f4⟩,rfl,#[],ps,rfl,by rw[e1];simp⟩)
      ·exact .inl (old b o e λt z=>ht ⟨t,z⟩)
     ·by_cases ht:∃t,H b=some (.fL t)
      ·obtain⟨t,ht⟩:=ht
       obtain⟨ps,e1,_⟩:=hok' b _ (un.bZ b t ht)
       exact⟨_,e1⟩
      ·exact⟨o,old b o e λt z=>ht ⟨t,z⟩⟩
    intro b o e nt
    cases q:H b with
    |none=>exact un.keep b o e q (by intro z;exact absurd (show b∈([]:List Addr) from z) (by simp)) (by simp)
    |some u=>
     rcases hO b with z|⟨ob,xs,z⟩|⟨t,z⟩
     ·rw[q] at z;cases z
     rotate_left
     ·exact absurd z (nt t)
     ·have z2:=un.dw b ob _ z
      obtain⟨e1,_⟩:=hok b _ z
      obtain⟨e2,_⟩:=hok' b _ z2
      rw[e] at e1;cases e1
      exact e2
 cases hk:K.lookup a with
 |some o=>
  -- the script is one of the module's own objects
  have e:=KX a o hk
  rw[ha] at e
  cases e
  refine core (fQ K lams) (λb=>?_) (.inr ⟨_,vs.toArray,_,hk,rfl,rfl,rfl,by rw[List.size_toArray,lenV];exact hl,by simpa using rv⟩) (λb u z=>?_) (λb z=>?_) (λz=>?_) λy c Pt hy hty=>Bg hty (λz hz=>hone z y hz hy) hy
  ·cases q:fQ K lams b with
   |none=>exact .inl rfl
   |some u=>obtain⟨y,c,_,_,rfl⟩:=bD q;exact .inr (.inr ⟨_,rfl⟩)
  ·obtain⟨y,c,hy,hty,rfl⟩:=bD z
   exact⟨#[],(htb y c b hy hty).2.1,trivial,λpos cv z=>by cases z⟩
  ·cases q:fQ K lams b with
   |none=>exact absurd q z
   |some u=>obtain⟨y,c,hy,hty,_⟩:=bD q;exact .inr ⟨y,c,hy,hty⟩
  ·cases q:fQ K lams a with
   |none=>exact absurd q z
   |some u=>
    obtain⟨y,c,hy,hty,_⟩:=bD q
    have e2:=(htb y c a hy hty).2.1
    rw[ha] at e2;cases e2
 |none=>
  refine core (λb=>if b=a then some (.bY {cls:=.type "list",data:=.seq vs.toArray} (.lst (ns.map V.int))) else fQ K lams b) (λb=>?_) (.inl (.inr ⟨{cls:=.type "list",data:=.seq vs.toArray},if_pos rfl⟩)) (λb u z=>?_) (λb z=>?_) (λ_=>hk) λy c Pt hy hty=>?_
  ·by_cases hb:b=a
   ·exact .inr (.inl ⟨_,_,if_pos hb⟩)
   ·cases q:fQ K lams b with
    |none=>exact .inl ((if_neg hb).trans q)
    |some u=>obtain⟨y,c,_,_,rfl⟩:=bD q;exact .inr (.inr ⟨_,(if_neg hb).trans q⟩)
  ·by_cases hb:b=a
   ·have z':=(if_pos hb).symm.trans z
    cases z'
    subst hb
    exact⟨ha,by rw[List.length_map];exact hl,vs,_,rv,ha⟩
   ·have z':=(if_neg hb).symm.trans z
    obtain⟨y,c,hy,hty,rfl⟩:=bD z'
    exact⟨#[],(htb y c b hy hty).2.1,trivial,λpos cv z=>by cases z⟩
  ·by_cases hb:b=a
   ·exact .inl hb
   ·cases q:fQ K lams b with
    |none=>exact absurd ((if_neg hb).trans q) z
    |some u=>obtain⟨y,c,hy,hty,_⟩:=bD q;exact .inr ⟨y,c,hy,hty⟩
  ·have ne:Pt≠a:=fun z=>by
    subst z
    have e2:=(htb y c _ hy hty).2.1
    rw[ha] at e2;cases e2
   exact(if_neg ne).trans (Bg hty (λz hz=>hone z y hz hy) hy)
end L2
namespace L2
open PySem PySem.Spec PyProof.Rows
def Lb{p:Program}{loose:List Str}{mean:ExcName->Option Value}{mg mb:Str->Option Value}{h:Heap}{K:PySem.W.Frag}{d:DefRec}{x:Str}{c P:Addr}(T:Top p loose mean mg mb h)(X:K.In h)(hr:(recsOf p).find? (λe=>e.name== x)=some d)(ht:PySem.W.tabIn K x=some (c,P)) :
 PySem.W.CodeHd h c P/\h.get? P=some (PySem.W.tabObj #[])/\h.BuiltinsAt mg P:=by
 obtain⟨h1,h2⟩:=PySem.W.tab_of T X hr ht
 obtain⟨bm,ob,b1,b2,b3,b4,b5,b6⟩:=T.bmain
 have hbP:bm≠P:=λq=>by rw[q,h2] at b3;cases b3;cases b4
 have hbG:bm≠mainGlobals:=λq=>by
  obtain⟨o,es,ep,e,hd,_⟩:=T.g
  rw[q,e] at b3;cases b3;rw[hd] at b6;cases b6
 exact⟨h1,h2,bm,ob,b1,b2,hbG,hbP,b3,b4,b5,b6⟩
def Ld{l:PySem.W.OpenLaw}{n k:Nat}{q:Program}{loose:List Str}{XP:(Str->Option Value)->Heap->Prop}{YP:World->Heap->Prop}{d:DefRec}{K:Params->PySem.W.Frag}{CX:World->lO}{sp:World->Sp}{x:Str}
 (hn:l.most=some n)(hn2:n<=sizeLine)(hdf:d.params.defaults=[])(hr:Ő k callerA)
 (hY:∀(w:World) (h:Heap),YP w h->(K w.params).In h)
 (F:∀(w:World) (mg:Str→Option Value) (fa:Addr) (h:Heap),(K w.params).In h→h.Ns mainGlobals mg→mg d.name=some (.ref fa)→
   ∃fd:FuncData,(∀(s:Shared) (u:Value),BindsTo s fd ⟨[u],[]⟩ [(x,u)])/\
    ∀base:Heap,(K w.params).In base->base.Ns mainGlobals mg->ģ l.prog w (K w.params) mg base (CX w) k fa fd [x] (sp w))
 (hsp:∀(w:World) (H:Hp) (a:Addr) (ns:List Int),ns.length<=n->Only H->ū (K w.params) H a (ns.map V.int)->sp w [.ref a] H (λv _=>v=.bl true) λ_ _ _=>False)
 (hCX:∀(w:World) (H:Hp) (s:Shared) (e:Value) (s':Shared),CX w [] H s (λ_ _ _=>False) e s'->False)
 (hnt:lams≠[]->∀w:World,PySem.W.noTabs (K w.params)=true:=by intro z;exact absurd rfl z)(hone:∀y z,y∈lams->z∈lams->y=z:=by simp[lams])(hrec:∀y,y∈lams->∃d,(recsOf q).find? (λe=>e.name== y)=some d:=by simp[lams]) :
 PySem.W.WalkO q loose XP YP l.row.toRowW d [] (λf vs=>PySem.call f vs):=by
 refine Att.vW hn hdf λw s₀ s₁ mg mb fa o pm cd doc a vs ns G Y ho hd hcd hmg hobj hints hlen hg=>?_
 have KX:=hY w _ Y
 obtain⟨fd,hb,hF⟩:=F w mg fa _ KX G.T.g hmg
 exact Fj KX G.T.g G.T.b G.T.builtins G.T.nolimit hg hobj hints (Nat.le_trans hlen hn2) hr hF hb (λH hO hS=>hsp w H a ns hlen hO hS) (λH e s'=>hCX w H s₁ e s') (λz=>hnt z w) hone λy c Pt hy hty=>let ⟨_,hr'⟩:=hrec y hy;Lb G.T KX hr' hty
end L2
namespace L2
open PySem PySem.Spec PyProof.Rows
def inClass(s:Stmt)(j:Nat):Stmt:=match s with
 | .ClassDef _ _ _ body _ _ _ _ _ _ _=>body.getD j (.Pass ⟨0,0,0,0⟩)
 |_=>.Pass ⟨0,0,0,0⟩
def ao(s:Stmt):Arguments:=match s with
 | .FunctionDef _ a _ _ _ _ _ _ _ _=>a
 |_=> {posonlyargs:=[],args:=[],vararg:=none,kwonlyargs:=[],kw_defaults:=[],kwarg:=none,defaults:=[]}
def ň(s:Stmt):List Stmt:=match s with
 | .FunctionDef _ _ b _ _ _ _ _ _ _=>b
 |_=>[]
def ć(s:Stmt):Scope:=match s with
 | .FunctionDef _ _ _ _ _ _ sc _ _ _=>sc
 |_=> {kind:=.function,names:=[],isGenerator:=false,isCoroutine:=false}
structure Ec(K:PySem.W.Frag)(x qual:Str)(st:Stmt)(f:Addr)(fd:FuncData):Prop where
 ex:∃(oc:Value) (od:Option Addr) (kV doc pm:Value) (an:Option Addr) (cdv ct:Value) (osl:Array (Option Value)),
   fd=PySem.W.fnOf x qual (ao st) (ň st) (ć st) .none kV doc pm an cdv ct/\K.lookup f=some ⟨oc,od,.func fd,osl⟩/\PySem.W.codeIn K cdv qual=true
 kp:PySem.W.keepIn K (.ref f)=true
section
variable{P:Program}{w:World}{K:PySem.W.Frag}{mg:Str->Option Value}{base:Heap}
def Ec.binds{x qual:Str}{st:Stmt}{f:Addr}{fd:FuncData}{ps:List Str}(F:Ec K x qual st f fd)
 (h:∀(kV doc pm:Value) (an:Option Addr) (cdv ct:Value) (us:List Value),us.length=ps.length->bindArgs (PySem.W.fnOf x qual (ao st) (ň st) (ć st) .none kV doc pm an cdv ct) ⟨us,[]⟩=pure (ps.zip us)):Binds K fd ps []:=by
 obtain⟨oc,od,kV,doc,pm,an,cdv,ct,osl,rfl,lk,hcd⟩:=F.ex
 exact .all (h kV doc pm an cdv ct)
def Fo{x qual:Str}{st:Stmt}{f:Addr}{oc:Value}{od an:Option Addr}{osl:Array (Option Value)}{kV doc pm cdv ct:Value}(l:K.lookup f=some ⟨oc,od,.func (PySem.W.fnOf x qual (ao st) (ň st) (ć st) .none kV doc pm an cdv ct),osl⟩)
 (c:PySem.W.codeIn K cdv qual=true)(k:PySem.W.keepIn K (.ref f)=true):Ec K x qual st f (PySem.W.fnOf x qual (ao st) (ň st) (ć st) .none kV doc pm an cdv ct):=⟨⟨oc,od,kV,doc,pm,an,cdv,ct,osl,rfl,l,c⟩,k⟩
end
section
variable{X:Cx}
def pv(i:Nat){x:Str}{pos:Pos}(hN:X.N[i]?=some x:=by rfl)(hv:Ax X.env.scope x:=by first|exact Or.inl rfl|exact Or.inr (Or.inl rfl)|exact Or.inr (Or.inr rfl))(hd:(x== ("__debug__" :Str))=false:=by decide)
 (hcd:(x== ("__classdict__" :Str))=false:=by decide):PE X (.Name x pos) (yD i):=jk hN hv hd hcd
end
def Same(H H':Hp):Prop:=∀b o,H b=some o->H' b=some o
def Same.refl(H:Hp):Same H H:=λ_ _ h=>h
def Same.trans{H H1 H2:Hp}(a:Same H H1)(b:Same H1 H2):Same H H2:=λc o h=>b c o (a c o h)
def Same.free{H H':Hp}(e:Same H H'){l:Addr}(h:H' l=Option.none):H l=Option.none:=by
 cases q:H l with
 |none=>rfl
 |some o=>
  rw[e l o q] at h
  cases h
def Same.seq{K:PySem.W.Frag}{H H':Hp}{a:Addr}{xs:List V}(e:Same H H')(h:ū K H a xs):ū K H' a xs:=by
 rcases h with(h|⟨o,h⟩)|h
 ·exact .inl (.inl (e _ _ h))
 ·exact .inl (.inr ⟨o,e _ _ h⟩)
 ·exact .inr h
end L2
namespace M2
open PySem PySem.Spec PyProof.Rows L2
section
variable{X:Cx}{a b c e:Expr}{ta tb tc te:TE}{pos:Pos}
def PE.wk{t t':TE}(h:PE X e t)(i:∀σ H Q,t' σ H Q->t σ H Q):PE X e t':=λpins s σ H Q I q=>h pins s σ H Q I (i σ H Q q)
def PS.wk{st:Stmt}{t t':TS}(h:PS X st t)(i:∀D σ H,t' D σ H->t D σ H):PS X st t':=λpins s σ H D I q=>h pins s σ H D I (i D σ H q)
def Š.wk{f:Value->Value->Sem Value}{r r':R2}(h:Š X f r)(i:∀x y H Q,r' x y H Q->r x y H Q):Š X f r':=λpins s σ H x y v u Q I rx ry q=>h pins s σ H x y v u Q I rx ry (i x y H Q q)
def Kz.wk{f:Value->Sem Value}{r r':V->Hp->VK->Prop}(h:Kz X f r)(i:∀x H Q,r' x H Q->r x H Q):Kz X f r':=λpins s σ H x v Q I rx q=>h pins s σ H x v Q I rx (i x H Q q)
def Ń.wk{f:Value}{r r':List V->Hp->VK->Prop}(h:Ń X f r)(i:∀xs H Q,r' xs H Q->r xs H Q):Ń X f r':=λpins s σ H xs us Q I r q=>h pins s σ H xs us Q I r (i xs H Q q)
def yQ.wk{r r':R2}(h:yQ X r)(i:∀x y H Q,r' x y H Q->r x y H Q):yQ X r':=λva sl pins s σ H x y v u Q I rx ry q=>h va sl pins s σ H x y v u Q I rx ry (i x y H Q q)
def Bd.wk{r r':V->Option Int->Option Int->Hp->VK->Prop}(h:Bd X r)(i:∀x lo hi H Q,r' x lo hi H Q->r x lo hi H Q):Bd X r':=λpins s σ H x v vl vu lo hi sl Q I rx hs pl pu q=>h pins s σ H x v vl vu lo hi sl Q I rx hs pl pu (i x lo hi H Q q)
def WR(i:Nat):TE:=λσ H Q=>match σ[i]? with
 |some (some v)=>Q v H
 |_=>False
def Le{i:Nat}{σ:L2.St}{H:Hp}{Q:VK}(h:WR i σ H Q):yD i σ H Q:=by
 unfold WR at h
 split at h
 ·exact⟨_,by assumption,h⟩
 ·exact h.elim
def mv(i:Nat){x:Str}{pos:Pos}(hN:X.N[i]?=some x:=by rfl)(hv:Ax X.env.scope x:=by first|exact Or.inl rfl|exact Or.inr (Or.inl rfl)|exact Or.inr (Or.inr rfl))(hd:(x== ("__debug__" :Str))=false:=by decide)
 (hcd:(x== ("__classdict__" :Str))=false:=by decide):PE X (.Name x pos) (WR i):=PE.wk (jk hN hv hd hcd) λ_ _ _ h=>Le h
def bOf(x:V)(k:Bool->Prop):Prop:=match x with
 | .bl c=>k c
 |_=>False
def kj{x:V}{k:Bool->Prop}(h:bOf x k):∃c,x=.bl c/\k c:=by
 cases x with
 |bl c=>exact⟨c,rfl,h⟩
 |_=>exact h.elim
def Fp(t:TE):TT:=λσ H Q=>t σ H λx H1=>bOf x λc=>Q c H1
def WT{op:CmpOp}{r:R2}(ho:Š X (compareOp op) r)(ha:PE X a ta)(hb:PE X b tb)(hm:behindInMarks op b=false):PT X (.Compare a [op] [b] pos) (Fp (tOp r ta tb)):=by
 intro pins s σ H Q I h
 refine wpAny_isTrue_Compare1 (ł (ha pins s σ H _ I h) λv s1 ⟨x,H1,I1,r1,q1⟩=>ł (hb pins s1 σ H1 _ I1 q1) λu s2 ⟨y,H2,I2,r2,q2⟩=>
  ł (ho pins s2 σ H2 x y v u _ I2 r1 r2 q2) λc s3 ⟨z,H3,I3,r3,q3⟩=>?_) hm
 obtain⟨k,e,q3⟩:=kj q3
 subst e
 cases r3
 exact wpAny_truthy_bool ⟨H3,I3,q3⟩
def yR(r r':R2)(ta tb tc:TE):TE:=λσ H Q=>ta σ H λx H1=>tb σ H1 λy H2=>r x y H2 λz H3=>bOf z λk=>
 (if k=true then tc σ H3 λw' H4=>r' y w' H4 Q else Q (.bl false) H3)
def Fq{op op':CmpOp}{r r':R2}(ho:Š X (compareOp op) r)(ho':Š X (compareOp op') r')(ha:PE X a ta)(hb:PE X b tb)(hc:PE X c tc)
 (hm:lastMarks [op,op'] [b,c]=false:=by with_unfolding_all rfl):PE X (.Compare a [op,op'] [b,c] pos) (yR r r' ta tb tc):=by
 intro pins s σ H Q I h
 refine Compare_chain (ł (ha pins s σ H _ I h) λv s1 ⟨x,H1,I1,r1,q1⟩=>chain_link (ł (hb pins s1 σ H1 _ I1 q1) λu s2 ⟨y,H2,I2,r2,q2⟩=>
  ł (ho pins s2 σ H2 x y v u _ I2 r1 r2 q2) λd s3 ⟨z,H3,I3,r3,q3⟩=>?_)) hm
 obtain⟨k,e,q3⟩:=kj q3
 subst e
 cases r3
 refine wpAny_truthy_bool ?_
 cases k with
 |false=>exact ite_ff ⟨.bl false,H3,I3,rfl,q3⟩
 |true=>exact ite_tt (chain_last (ł (hc pins s3 σ H3 _ I3 q3) λw' s4 ⟨z',H4,I4,r4,q4⟩=>ho' pins s4 σ H4 y z' u w' Q I4 r2 r4 q4))
def Ft{op op':CmpOp}{r r':R2}(ho:Š X (compareOp op) r)(ho':Š X (compareOp op') r')(ha:PE X a ta)(hb:PE X b tb)(hc:PE X c tc)
 (hm:lastMarks [op,op'] [b,c]=false:=by with_unfolding_all rfl):PT X (.Compare a [op,op'] [b,c] pos) (Fp (yR r r' ta tb tc)):=by
 intro pins s σ H Q I h
 refine isTrue_chain (ł (ha pins s σ H _ I h) λv s1 ⟨x,H1,I1,r1,q1⟩=>test_link (ł (hb pins s1 σ H1 _ I1 q1) λu s2 ⟨y,H2,I2,r2,q2⟩=>
  ł (ho pins s2 σ H2 x y v u _ I2 r1 r2 q2) λd s3 ⟨z,H3,I3,r3,q3⟩=>?_)) hm
 obtain⟨k,e,q3⟩:=kj q3
 subst e
 cases r3
 refine wpAny_truthy_bool ?_
 cases k with
 |false=>exact ite_ff ⟨H3,I3,q3⟩
 |true=>
  refine ite_tt (test_last (ł (hc pins s3 σ H3 _ I3 q3) λw' s4 ⟨z',H4,I4,r4,q4⟩=>ł (ho' pins s4 σ H4 y z' u w' _ I4 r2 r4 q4) λd' s5 ⟨z2,H5,I5,r5,q5⟩=>?_))
  obtain⟨k2,e2,q5⟩:=kj q5
  subst e2
  cases r5
  exact wpAny_truthy_bool ⟨H5,I5,q5⟩
def Zbr(ta tb:TE):TE:=λσ H Q=>ta σ H λx H1=>bOf x λc=>if c=true then tb σ H1 Q else Q (.bl false) H1
def Zbs(ta:TE):TE:=λσ H Q=>ta σ H λx H1=>bOf x λc=>Q (.bl (!c)) H1
variable{rest:List Expr}
def WW(ha:PE X a ta)(hb:PE X (.BoolOp .And (b::rest) pos) tb):PE X (.BoolOp .And (a::b::rest) pos) (Zbr ta tb):=by
 intro pins s σ H Q I h
 refine BoolOp_and (ł (ha pins s σ H _ I h) λv s1 ⟨x,H1,I1,r1,q1⟩=>?_)
 obtain⟨c,rfl,q1⟩:=kj q1
 cases r1
 refine wpAny_truthy_bool ?_
 cases c with
 |true=>exact hb pins s1 σ H1 Q I1 q1
 |false=>exact⟨.bl false,H1,I1,rfl,q1⟩
def WX(ha:PE X a ta):PE X (.UnaryOp .Not a pos) (Zbs ta):=by
 intro pins s σ H Q I h
 refine UnaryOp_ (ł (ha pins s σ H _ I h) λv s1 ⟨x,H1,I1,r1,q1⟩=>?_)
 obtain⟨c,rfl,q1⟩:=kj q1
 cases r1
 exact not_of (wpAny_truthy_bool ⟨.bl (!c),H1,I1,rfl,q1⟩)
def mI(C:Int->Int->Prop)(g:Int->Int->V):R2:=λx y H Q=>match x,y with
 | .int i,.int j=>C i j/\Q (g i j) H
 |_,_=>False
def Dg(g:Int->Int->V):R2:=λx y H Q=>match x,y with
 | .int i,.int j=>Q (g i j) H
 |_,_=>False
def rD{C:Int->Int->Prop}{g:Int->Int->V}(x y:V)(H:Hp)(Q:VK)(h:mI C g x y H Q):rI C g x y H Q:=by
 cases x with
 |int i=>
  cases y with
  |int j=>exact⟨i,j,rfl,rfl,h.1,h.2⟩
  |_=>exact h.elim
 |_=>exact h.elim
def oA{g:Int->Int->V}(x y:V)(H:Hp)(Q:VK)(h:Dg g x y H Q):KC g x y H Q:=by
 cases x with
 |int i=>
  cases y with
  |int j=>exact⟨i,j,rfl,rfl,h⟩
  |_=>exact h.elim
 |_=>exact h.elim
def Zbt:R2:=λx y H Q=>match x,y with
 | .int i,.int j=>Q (.int (i+j)) H
 | .str i,.str j=>i.length+j.length<=sizeLine/\Q (.str (i++j)) H
 |_,_=>False
def WY:Š X (binaryOp .Add) Zbt:=Š.wk (Wm.or yI) λx y H Q h=>by
 cases x with
 |int i=>
  cases y with
  |int j=>exact .inl ⟨i,j,rfl,rfl,h⟩
  |_=>exact h.elim
 |str i=>
  cases y with
  |str j=>exact .inr ⟨i,j,rfl,rfl,h.1,h.2⟩
  |_=>exact h.elim
 |_=>exact h.elim
def W_:Š X (binaryOp .Sub) (Dg λi j=>.int (i-j)):=Š.wk Wn oA
def rE(i j:Int):Prop:=Wk i j\/(Builtin.Int.intBits i<=1048576/\Builtin.Int.intBits j<=1048576)
theorem rE.ok{i j:Int}(h:rE i j):IntMulOk i j:=by
 rcases h with h|⟨h1,h2⟩
 ·exact h.ok
 ·exact IntMulOk.of_le h1 h2 (by decide)
def Xa:Š X (binaryOp .Mult) (mI rE λi j=>.int (i*j)):=Š.wk (Ba (C:=rE) (g:=λi j=>i*j) λ_ _ _ _ _ _ _ hc q=>mul_int q hc.ok) rD
def Dh(_ j:Int):Prop:=j≠0/\Builtin.Int.intBits j<=8000
def Dh.py{i j:Int}(h:Dh i j):Builtin.divisionGoesByPylong i j=false:=by
 refine PyProof.noPylong_of_log2 ?_
 have hb:=intBits_le_iff.mp h.2
 have h0:j.natAbs≠0:=by have:=h.1;omega
 exact Nat.lt_of_lt_of_le ((Nat.log2_lt h0).mpr hb) (by decide)
def Lf:Š X (binaryOp .FloorDiv) (mI Dh λi j=>.int (i.fdiv j)):=Š.wk (Ba (C:=Dh) (g:=λi j=>i.fdiv j) λ_ _ _ _ _ _ _ hc q=>floordiv_int hc.1 q (.inl hc.py)) rD
def Xb:Š X (binaryOp .Mod) (mI (λ_ j=>j≠0) λi j=>.int (i.fmod j)):=Š.wk KD rD
def fU:Š X (binaryOp .Pow) (mI CT λi j=>.int (i ^ j.toNat)):=Š.wk Wo rD
def dZ:Š X (compareOp .Lt) (Dg λi j=>.bl (decide (i<j))):=Š.wk Zbj oA
def cP:Š X (compareOp .LtE) (Dg λi j=>.bl (decide (i<=j))):=Š.wk Zbk oA
def Ow:Š X (compareOp .Gt) (Dg λi j=>.bl (decide (j<i))):=Š.wk Zbl oA
def mU(g:Int->V):V->Hp->VK->Prop:=λx H Q=>match x with
 | .int i=>Q (g i) H
 |_=>False
def dD:Kz X (unaryOp .USub) (mU λi=>.int (-i)):=Kz.wk Wt λx H Q h=>by
 cases x with
 |int i=>exact⟨i,rfl,h⟩
 |_=>exact h.elim
def Fv:List V->Hp->VK->Prop:=λxs H Q=>match xs with
 | [.int i,.int j]=>Q (.int (if j<i then j else i)) H
 |_=>False
def nJ(hc:X.calm=true):Ń X (.builtin "min") Fv:=Ń.wk (CW hc) λxs H Q h=>by
 unfold Fv at h
 split at h
 ·exact⟨_,_,rfl,h⟩
 ·exact h.elim
def Fw:List V->Hp->VK->Prop:=λxs H Q=>match xs with
 | [.int i,.int j]=>Q (.int (if j>i then j else i)) H
 |_=>False
def Lg(hc:X.calm=true):Ń X (.builtin "max") Fw:=Ń.wk (CV hc) λxs H Q h=>by
 unfold Fw at h
 split at h
 ·exact⟨_,_,rfl,h⟩
 ·exact h.elim
def Xc(K:PySem.W.Frag):List V->Hp->VK->Prop:=λxs H Q=>match xs with
 | [.str y]=>y.length<=sizeLine/\Q (.int (y.length:Int)) H
 | [.ref p]=>∃ys,(ū K H p ys\/fC K H p ys)/\Q (.int (ys.length:Int)) H
 |_=>False
def cg:Ń X (.builtin "len") (Xc X.K):=Ń.wk E_ λxs H Q h=>by
 unfold Xc at h
 split at h
 ·exact⟨_,_,rfl,⟨h.1,rfl⟩,h.2⟩
 ·obtain⟨ys,h1,h2⟩:=h
  refine⟨_,ys.length,rfl,?_,h2⟩
  rcases h1 with h1|h1
  ·exact .inl ⟨ys,h1,rfl⟩
  ·exact .inr ⟨ys,h1,rfl⟩
 ·exact h.elim
def mIx(K:PySem.W.Frag):R2:=λx y H Q=>match x,y with
 | .ref p,.int i=>∃xs v,(ū K H p xs\/fC K H p xs)/\qK xs i=some v/\Q v H
 | .str z,.int i=>∃c,z.length<=sizeLine/\qK z.cps.toList i=some c/\Q (.str ⟨#[c]⟩) H
 |_,_=>False
def Zbu:yQ X (mIx X.K):=yQ.wk WM λx y H Q h=>by
 cases x with
 |ref p=>
  cases y with
  |int i=>
   obtain⟨xs,v,h1,h2,h3⟩:=h
   rcases h1 with h1|h1
   ·exact .inl ⟨p,xs,i,v,rfl,rfl,h1,h2,h3⟩
   ·exact .inr (.inl ⟨p,xs,i,v,rfl,rfl,h1,h2,h3⟩)
  |_=>exact h.elim
 |str z=>
  cases y with
  |int i=>
   obtain⟨c,h1,h2,h3⟩:=h
   exact .inr (.inr ⟨z,i,c,rfl,rfl,h1,h2,h3⟩)
  |_=>exact h.elim
 |_=>exact h.elim
def iOf(x:V)(k:Int->Prop):Prop:=match x with
 | .int i=>k i
 |_=>False
def Zbv(t:TE):TO:=λσ H Q=>t σ H λx H1=>iOf x λi=>Q (some i) H1
def Fx(h:PE X e te):PO X (some e) (Zbv te):=by
 intro pins s σ H Q I hw
 rw[evalPart_some]
 refine ł (h pins s σ H _ I hw) λu s1 ⟨x,H1,I1,r1,q1⟩=>?_
 cases x with
 |int i=>
  obtain⟨t,rfl⟩:=r1
  exact⟨some i,H1,I1,.int i t,q1⟩
 |_=>exact q1.elim
def Zd2(K:PySem.W.Frag):V->Option Int->Option Int->Hp->VK->Prop:=λx lo hi H Q=>match x with
 | .ref a=>∃xs,ū K H a xs/\∀p,H p=none->Q (.ref p) (upd H p (.lst (vU xs lo hi)))
 |_=>False
def Fy:Bd X (Zd2 X.K):=Bd.wk La λx lo hi H Q h=>by
 cases x with
 |ref a=>
  obtain⟨xs,h1,h2⟩:=h
  exact⟨a,xs,rfl,h1,h2⟩
 |_=>exact h.elim
end
end M2
namespace M2
open PySem PySem.Spec PyProof.Rows L2
section
variable{X:Cx}{tg:Expr}
end
mutual
def Rp(K:PySem.W.Frag)(H:Hp):PyData->V->Prop
 | .none,v=>v=.non
 | .bool b,v=>v=.bl b
 | .int i,v=>v=.int i
 | .str x,v=>v=.str x
 | .tuple ds,v=>∃a xs,v=.ref a/\fC K H a xs/\kE K H ds xs
 | .list ds,v=>∃a xs,v=.ref a/\ū K H a xs/\kE K H ds xs
 | .dict _,_=>False
def kE(K:PySem.W.Frag)(H:Hp):List PyData->List V->Prop
 | [],xs=>xs=[]
 |d::ds,xs=>∃x r,xs=x::r/\Rp K H d x/\kE K H ds r
end
def Same.tup{K:PySem.W.Frag}{H H':Hp}{a:Addr}{xs:List V}(e:Same H H')(h:fC K H a xs):fC K H' a xs:=by
 rcases h with(h|⟨o,h⟩)|h
 ·exact .inl (.inl (e _ _ h))
 ·exact .inl (.inr ⟨o,e _ _ h⟩)
 ·exact .inr h
theorem Same.upd{H:Hp}{p:Addr}{o:HO}(h:H p=none):Same H (upd H p o):=λb u e=>by
 rw[ċ (ē e h)]
 exact e
mutual
theorem Rp.same{K:PySem.W.Frag}{H H':Hp}(e:Same H H'):∀(d:PyData) (v:V),Rp K H d v->Rp K H' d v
 | .none,_,h=>by unfold Rp at h ⊢;exact h
 | .bool _,_,h=>by unfold Rp at h ⊢;exact h
 | .int _,_,h=>by unfold Rp at h ⊢;exact h
 | .str _,_,h=>by unfold Rp at h ⊢;exact h
 | .tuple ds,_,h=>by
   unfold Rp at h ⊢
   obtain⟨a,xs,h1,h2,h3⟩:=h
   exact⟨a,xs,h1,Same.tup e h2,kE.same e ds xs h3⟩
 | .list ds,_,h=>by
   unfold Rp at h ⊢
   obtain⟨a,xs,h1,h2,h3⟩:=h
   exact⟨a,xs,h1,e.seq h2,kE.same e ds xs h3⟩
 | .dict _,_,h=>by unfold Rp at h;exact h.elim
theorem kE.same{K:PySem.W.Frag}{H H':Hp}(e:Same H H'):∀(ds:List PyData) (xs:List V),kE K H ds xs->kE K H' ds xs
 | [],_,h=>by unfold kE at h ⊢;exact h
 |d::ds,_,h=>by
  unfold kE at h ⊢
  obtain⟨x,r,h1,h2,h3⟩:=h
  exact⟨x,r,h1,Rp.same e d x h2,kE.same e ds r h3⟩
end
section
variable{X:Cx}{pins:List (Addr×Obj)}{σ:L2.St}{H:Hp}{s:Shared}
mutual
theorem Rp.reads(I:Inv X pins σ H s):∀(d:PyData) (v:V) (u:Value),Rp X.K H d v->RelV v u->∃as,Reads s.heap u d as
 | .none,v,u,h,r=>by
   unfold Rp at h;subst h;cases r;exact⟨_,.none⟩
 | .bool b,v,u,h,r=>by
   unfold Rp at h;subst h;cases r;exact⟨_,.bool b⟩
 | .int i,v,u,h,r=>by
   unfold Rp at h;subst h;obtain⟨t,rfl⟩:=r;exact⟨_,.int i t⟩
 | .str x,v,u,h,r=>by
   unfold Rp at h;subst h;obtain⟨t,rfl⟩:=r;exact⟨_,.str x t⟩
 | .tuple ds,v,u,h,r=>by
   unfold Rp at h
   obtain⟨a,xs,h1,h2,h3⟩:=h
   subst h1
   cases r
   obtain⟨its,rv,⟨o,e,hc,n,hd⟩,hz⟩:=I.tuple h2
   obtain⟨as,ra⟩:=kE.reads I ds xs its h3 rv
   exact⟨_,.tuple e hc hd (by simpa using ra)⟩
 | .list ds,v,u,h,r=>by
   unfold Rp at h
   obtain⟨a,xs,h1,h2,h3⟩:=h
   subst h1
   cases r
   obtain⟨its,rv,⟨o,n,e,hc,hdd,hd⟩,hz⟩:=I.list h2
   obtain⟨as,ra⟩:=kE.reads I ds xs its h3 rv
   exact⟨_,.list e hc hd (by simpa using ra)⟩
 | .dict _,_,_,h,_=>by unfold Rp at h;exact h.elim
theorem kE.reads(I:Inv X pins σ H s):∀(ds:List PyData) (xs:List V) (us:List Value),kE X.K H ds xs->Vals xs us->∃as,ReadsAll s.heap us ds as
 | [],xs,us,h,r=>by
   unfold kE at h;subst h;cases r;exact⟨_,.nil⟩
 |d::ds,xs,us,h,r=>by
  unfold kE at h
  obtain⟨x,q,h1,h2,h3⟩:=h
  subst h1
  cases r with
  |cons r1 r2=>
   obtain⟨as,ra⟩:=Rp.reads I d x _ h2 r1
   obtain⟨bs,rb⟩:=kE.reads I ds q _ h3 r2
   exact⟨_,.cons ra rb⟩
end
end
def Li(K:PySem.W.Frag)(neg:Bool):R2:=λx y H Q=>∃d e,Rp K H d x/\Rp K H e y/\d.canLay0=true/\e.canLay0=true/\min d.depth e.depth<=60/\Q (.bl (if neg then !PyData.eqv d e else PyData.eqv d e)) H
section
variable{X:Cx}
def Fz(hu:X.A.units+64<cLine):Š X (compareOp .Eq) (Li X.K false):=by
 intro pins s σ H x y v u Q I rx ry h
 obtain⟨d,e,h1,h2,h3,h4,h5,q⟩:=h
 obtain⟨as,ra⟩:=Rp.reads I d x v h1 rx
 obtain⟨bs,rb⟩:=Rp.reads I e y u h2 ry
 exact SeqAt.compareEq_reads ra rb h3 h4 (by omega) ⟨.bl _,H,I,rfl,q⟩
def FJ(hu:X.A.units+64<cLine):Š X (compareOp .NotEq) (Li X.K true):=by
 intro pins s σ H x y v u Q I rx ry h
 obtain⟨d,e,h1,h2,h3,h4,h5,q⟩:=h
 obtain⟨as,ra⟩:=Rp.reads I d x v h1 rx
 obtain⟨bs,rb⟩:=Rp.reads I e y u h2 ry
 exact SeqAt.compareNe_reads ra rb h3 h4 (by omega) ⟨.bl _,H,I,rfl,q⟩
end
section
variable{K:PySem.W.Frag}
end
end M2
namespace M3
open PySem PySem.Spec PyProof.Rows L2 M2
def Bh{P:Program}{w:World}{H:Hp}{h h':Heap}{C:Addr}(x:cL P w H h)(hC:H C=none)(k:∀b u,b≠C->h.get? b=some u->h'.get? b=some u):cL P w H h':=λa o e=>
 (x a o e).stay (fun b u hb q=>k b u (by
   rcases hb with hb|hb
   ·rw[hb];exact ē e hC
   ·exact ē hb hC) q) (λ_ q=>q) λ_ _ q=>q
theorem jl{env:Env}:∀(ns:List (Str×NameKind)) (cs:List (Str×Addr)),(∀y∈ns,y.2=.free->∃c,env.cells.lookup y.1=some c)->(∀x c,cs.lookup x=some c->env.cells.lookup x=some c)->
 ∃cl,(forIn ns cs (λ(x:Str×NameKind) r=>if(x.2== .free)=true then(do let c <-cellOf env x.1;pure (ForInStep.yield ((x.1,c)::r))) else pure (ForInStep.yield r)):Sem (List (Str×Addr)))=pure cl/\
  (∀x c,cl.lookup x=some c->env.cells.lookup x=some c)/\(∀x,(∃c,cs.lookup x=some c)->∃c,cl.lookup x=some c)/\∀y∈ns,y.2=.free->∃c,cl.lookup y.1=some c
 | [],cs,_,h2=>⟨cs,rfl,h2,λ_ z=>z,λ_ z=>nomatch z⟩
 |(n,k)::ns,cs,h1,h2=>by
  by_cases hk:k=.free
  ·subst hk
   obtain⟨c,hc⟩:=h1 (n,.free) List.mem_cons_self rfl
   have e:cellOf env n=pure c:=by unfold cellOf;rw[hc]
   have h2':∀x d,((n,c)::cs).lookup x=some d->env.cells.lookup x=some d:=λx d q=>by
    rw[List.lookup_cons] at q
    cases hx:x== n with
    |true=>
     rw[hx] at q
     have:x=n:=eq_of_beq hx
     subst this
     cases q
     exact hc
    |false=>
     rw[hx] at q
     exact h2 x d q
   obtain⟨cl,q1,q2,q3,q4⟩:=jl ns ((n,c)::cs) (λy hy=>h1 y (List.mem_cons_of_mem _ hy)) h2'
   refine⟨cl,?_,q2,λx ⟨d,hd⟩=>q3 x ?_,λy hy hf=>?_⟩
   ·rw[List.forIn_cons]
    simp only[beq_self_eq_true,if_true,e,pure_bind]
    exact q1
   ·rw[List.lookup_cons]
    cases hx:x== n with
    |true=>exact⟨c,rfl⟩
    |false=>exact⟨d,hd⟩
   ·rcases List.mem_cons.mp hy with rfl|hy
    ·exact q3 n ⟨c,by rw[List.lookup_cons,beq_self_eq_true]⟩
    ·exact q4 y hy hf
  ·have hb:(k== NameKind.free)=false:=by simpa using hk
   obtain⟨cl,q1,q2,q3,q4⟩:=jl ns cs (λy hy=>h1 y (List.mem_cons_of_mem _ hy)) h2
   refine⟨cl,?_,q2,q3,λy hy hf=>?_⟩
   ·rw[List.forIn_cons]
    simp only[hb,Bool.false_eq_true,if_false,pure_bind]
    exact q1
   ·rcases List.mem_cons.mp hy with rfl|hy
    ·exact absurd hf hk
    ·exact q4 y hy hf
def dF{scope:Scope}{env:Env}(h:∀y∈scope.names,y.2=.free->∃c,env.cells.lookup y.1=some c) :
 ∃cl,closureFor scope env=pure cl/\(∀x c,cl.lookup x=some c->env.cells.lookup x=some c)/\∀y∈scope.names,y.2=.free->∃c,cl.lookup y.1=some c:=by
 obtain⟨cl,q1,q2,_,q4⟩:=jl (env:=env) scope.names [] h (λx c z=>by simp at z)
 refine⟨cl,?_,q2,q4⟩
 unfold closureFor
 have e:(forIn scope.names [] (λ(x:Str×NameKind) (r:List (Str×Addr))=>match x with
  |(name,kind)=>if(kind== .free)=true then(do let a <-cellOf env name;pure (ForInStep.yield ((name,a)::r))) else pure (ForInStep.yield r)):Sem (List (Str×Addr)))=pure cl:=q1
 first
  |(simp only[bind_pure];exact q1)
  |(rw[show ∀(t:Sem (List (Str×Addr))),(do let r <-t;pure r)=t from λt=>by simp];exact q1)
  |(simp only[q1,pure_bind])
def cj(X:Cx)(N':List Str)(scope:Scope)(cl:List (Str×Addr))(C:Addr)(s:Shared)(H:Hp)(fp:List Addr):Cx where
 prog:=X.prog
 w:=X.w
 K:=X.K
 mg:=X.mg
 base:=X.base
 A:=X.A
 N:=N'
 s₀:= s
 H₀:= H
 env:=compEnvC scope cl C X.env
 outer:=X.stack
 stack:=X.stack
 ex:=fp
 fn:=λx=>scope.names.lookup x== some .cell
 calm:=X.calm
 pn:=[]
 xe:=λ_ _=>False
def cQ(X:Cx)(sc scope:Scope):List Str->List Nat->Prop
 |x::xs,j::js=>X.N[j]?=some x/\(scope.names.lookup x=some .free/\(sc.names.lookup x=some .cell\/sc.names.lookup x=some .free))/\cQ X sc scope xs js
 |_,[]=>True
 | [],_::_=>False
def cR(js:List Nat)(nl:Nat)(σ:L2.St):L2.St:=js.map (λj:Nat=>(σ[j]?).getD none)++List.replicate nl none
theorem kI{X:Cx}{sc scope:Scope}{σ:L2.St}{nl:Nat}:∀{N':List Str} {js:List Nat} {i:Nat} {x:Str} {v:V},cQ X sc scope N' js->N'[i]?=some x->(cR js nl σ)[i]?=some (some v)->
 ∃j:Nat,X.N[j]?=some x/\σ[j]?=some (some v)/\scope.names.lookup x=some .free/\(sc.names.lookup x=some .cell\/sc.names.lookup x=some .free)
 |N',[],i,x,v,_,_,h=>by
  unfold cR at h
  rw[List.map_nil,List.nil_append,List.getElem?_replicate] at h
  split at h<;>cases h
 | [],_::_,_,_,_,c,_,_=>c.elim
 |y::N',j::js,0,x,v,c,h1,h2=>by
  obtain⟨c1,c2,_⟩:=c
  simp at h1
  subst h1
  have e:(σ[j]?).getD none=some v:=by simpa[cR] using h2
  refine⟨j,c1,?_,c2⟩
  cases q:σ[j]? with
  |none=>rw[q] at e;cases e
  |some o=>rw[q] at e;exact congrArg some e
 |y::N',j::js,i+1,x,v,c,h1,h2=>by
  exact kI (N':=N') (js:=js) (i:=i) c.2.2 (by simpa using h1) (by simpa[cR] using h2)
section
variable{prog:Program}{w:World}{A:Around}{R:Result->Shared->Prop}{s:Shared}
def jC{elt target iter:Expr}{ifs:List Expr}{scope:Scope}{pos:Pos}{it acc:Value}{env:Env}(I:Nat->Shared->Prop)
 (turn:∀n s,I n s→wpAny (model prog w) A (pyNext it) (fun r s₁=>match r with
   |none=>R (.ok .next) s₁
   |some v=>wpAny (model prog w) A (letOwnedTupleGo target it v) (fun _ s₁'=>wpAny (model prog w) A (assign target env v) (fun _ s₂=>
     wpAny (model prog w) A (forIn ifs true λc r=>if r=true then do let ok <-isTrue c env (eval c env);pure (ForInStep.yield ok) else pure (ForInStep.yield r)) (λok s₃=>
      if ok=true then wpAny (model prog w) A (eval elt env) (λx s₄=>
       wpAny (model prog w) A (call (.builtin "list.append") [acc,x]) (λ_ s₅=>∃m,m<n/\I m s₅) (λ_ _=>False) s₄) (λ_ _=>False) s₃
      else ∃m,m<n/\I m s₃) (λ_ _=>False) s₂) (λ_ _=>False) s₁') (λ_ _=>False) s₁) (λ_ _=>False) s)
 (n:Nat)(h:I n s) :
 codeAny (model prog w) A (.compLoop (.ListComp elt [⟨target,iter,ifs,0⟩] scope pos) 0 it acc env) R s:=by
 refine codeAny_loop rfl I (λn s hI=>?_) n h
 show wpAny _ A ((compTurn (.ListComp elt [⟨target,iter,ifs,0⟩] scope pos) 0 it acc env).onRaise (λx=>do noteFrame x env;theTreesLotGoes x)) _ _ s
 refine wpAny_noted (wpAny_noRaise ?_)
 rw[compTurn_list]
 refine wpAny_bind (wpAny_standAt (wpAny_bind (wpAny_mono (turn n s hI) (λr s₁ h₁=>?_) λ_ _ h'=>h')))
 cases r with
 |none=>exact wpAny_pure h₁
 |some v=>
  refine wpAny_bind (wpAny_mono h₁ (λ_ s₁' h₁'=>?_) λ_ _ h'=>h')
  refine wpAny_bind (wpAny_mono h₁' (λ_ s₂ h₂=>wpAny_bind (wpAny_mono h₂ (λok s₃ h₃=>?_) λ_ _ h'=>h')) λ_ _ h'=>h')
  cases ok with
  |false=>exact wpAny_pure ⟨rfl,h₃⟩
  |true=>
   exact wpAny_bind (wpAny_bind (wpAny_mono h₃ (λx s₄ h₄=>wpAny_bind (wpAny_mono h₄ (λ_ s₅ h₅=>wpAny_pure (wpAny_pure ⟨rfl,h₅⟩)) λ_ _ h'=>h')) λ_ _ h'=>h'))
end
def Ed(X:Cx)(ifs:List Expr)(t:TT):Prop:=
 ∀(pins:List (Addr×Obj)) (s:Shared) (σ:L2.St) (H:Hp) (Q:Bool->Hp->Prop),Inv X pins σ H s->t σ H Q->
  wpAny (model X.prog X.w) X.A (forIn ifs true λc r=>if r=true then do let ok <-isTrue c X.env (eval c X.env);pure (ForInStep.yield ok) else pure (ForInStep.yield r)) (TP X pins σ Q) X.xe s
def Zd3:TT:=λ_ H Q=>Q true H
def Lj{X:Cx}:Ed X [] Zd3:=λ_ _ _ H _ I h=>wpAny_tests_nil ⟨H,I,h⟩
def Lk{X:Cx}{c:Expr}{t:TT}(h:PT X c t):Ed X [c] t:=λpins s σ H Q I hw=>wpAny_tests_one (h pins s σ H Q I hw)
def FN(js:List Nat)(nl:Nat)(wi:TI)(g:TG)(tt:TT)(te:TE):TE:=λσ H Q=>wi σ H λJ H1=>∀D,H1 D=none->
 ∃W:Nat->Nat->L2.St->Hp->Prop,(∃m,W 0 m (cR js nl σ) (upd H1 D (.lst [])))/\∀i m σ' H',W i m σ' H'->
  (J.stop i H'∧Q (.ref D) H')∨(J.go i H'∧∃N:L2.St→Hp→Prop,(∀σ2 H2,N σ2 H2→∃m',m'<m∧W (i+1) m' σ2 H2)∧∀x H2,J.yld i H' x H2→g x σ' H2 fun σ2 H3=>tt σ2 H3 fun c H4=>
    if c=true then te σ2 H4 λy H5=>∃ys,H5 D=some (.lst ys)/\ys.length<sizeLine/\N σ2 (upd H5 D (.lst (ys ++ [y]))) else N σ2 H4)
section
variable{X:Cx}{elt tg iter:Expr}{ifs:List Expr}{scope:Scope}{pos:Pos}{wi:TI}{g:TG}{tt:TT}{te:TE}
theorem dG{env:Env}:∀{names:List (Str×NameKind)} {x:Str} {k:NameKind},(k=.cell\/k=.free)->
 (names.map λ(n,k)=>if(k== NameKind.free && env.scope.kind== .function && env.kindOf n== some .cell) then(n,NameKind.cell) else(n,k)).lookup x=some k->(x,NameKind.free)∈names\/(x,NameKind.cell)∈names
 | [],x,k,_,h=>by simp at h
 |(n,q)::r,x,k,hk,h=>by
  have ih:=@dG env r x k hk
  rw[List.map_cons] at h
  by_cases hx:x=n
  ·subst hx
   by_cases hf:q=.free
   ·subst hf
    exact .inl List.mem_cons_self
   ·have hb:(q== NameKind.free)=false:=by simpa using hf
    have e:(if(q== NameKind.free && env.scope.kind== .function && env.kindOf x== some .cell)=true then(x,NameKind.cell) else(x,q))=(x,q):=by
     rw[hb];rfl
    have h2:=h
    simp only[e,List.lookup_cons,beq_self_eq_true] at h2
    have:q=k:=Option.some.inj h2
    rcases hk with hk|hk
    ·rw[this,hk]
     exact .inr List.mem_cons_self
    ·exact absurd (this.trans hk) hf
  ·have hn:(x== n)=false:=by simpa using hx
   have h3:(x,NameKind.free)∈r\/(x,NameKind.cell)∈r:=ih (by
    by_cases c:(q== NameKind.free && env.scope.kind== .function && env.kindOf n== some .cell)=true
    ·simp only[c,if_true,List.lookup_cons,hn] at h
     exact h
    ·simp only[c,if_false,Bool.false_eq_true,List.lookup_cons,hn] at h
     exact h)
   rcases h3 with h3|h3
   ·exact .inl (List.mem_cons_of_mem _ h3)
   ·exact .inr (List.mem_cons_of_mem _ h3)
theorem Ŕ:∀(names:List (Str×NameKind)) (n:Nat) (acc:List (Str×Addr)),cellsFrom n names acc=cellsFrom n names []++acc
 | [],_,_=>rfl
 |(x,k)::r,n,acc=>by
  unfold cellsFrom
  split
  ·rw[Ŕ r (n+1) ((x,n)::acc),Ŕ r (n+1) [(x,n)],List.append_assoc]
   rfl
  ·exact Ŕ r n acc
theorem dH:∀(names:List (Str×NameKind)) (n:Nat) {x:Str} {c:Addr},(x,c)∈cellsFrom n names []->(x,NameKind.cell)∈names
 | [],_,_,_,h=>by simp[cellsFrom] at h
 |(y,k)::r,n,x,c,h=>by
  unfold cellsFrom at h
  split at h
  ·rename_i hk
   rw[Ŕ r (n+1) [(y,n)]] at h
   rcases List.mem_append.mp h with h|h
   ·exact List.mem_cons_of_mem _ (dH r _ h)
   ·have e:(x,c)=(y,n):=by simpa using h
    cases e
    rw[beq_iff_eq.mp hk]
    exact List.mem_cons_self
  ·exact List.mem_cons_of_mem _ (dH r _ h)
structure Blk(X:Cx)(scope:Scope)(n:Nat)(h:Heap)(cl:List (Str×Addr)):Prop where
 at_:∀x c,cl.lookup x=some c->(X.env.cells.lookup x=some c/\scope.names.lookup x≠some .cell)\/(n<c/\h.IsCell c none/\scope.names.lookup x=some .cell)
 inj:∀x y c,cl.lookup x=some c->cl.lookup y=some c->n<c->x=y
 has:∀x,((x,NameKind.free)∈scope.names\/(x,NameKind.cell)∈scope.names)->∃c,cl.lookup x=some c
def FP{X:Cx}{scope:Scope}{n:Nat}{h:Heap}{cl:List (Str×Addr)}(hcell:∀y∈scope.names,y.2=.cell->scope.names.lookup y.1=some .cell)
 (h1:∀x c,cl.lookup x=some c->X.env.cells.lookup x=some c)(h2:∀y∈scope.names,y.2=.free->∃c,cl.lookup y.1=some c)(hlt:∀x c,X.env.cells.lookup x=some c->c<n)
 (ok:CellsOk h (n+1) (cellsFrom (n+1) scope.names [])):Blk X scope n h (cellsFrom (n+1) scope.names cl):=by
 have sp:∀x c,(cellsFrom (n+1) scope.names cl).lookup x=some c->(cl.lookup x=some c/\(cellsFrom (n+1) scope.names []).lookup x=none)\/(cellsFrom (n+1) scope.names []).lookup x=some c:=λx c e=>by
  rw[Ŕ,List.lookup_append] at e
  cases q:(cellsFrom (n+1) scope.names []).lookup x with
  |none=>rw[q] at e;exact .inl ⟨by simpa using e,rfl⟩
  |some d=>rw[q] at e;exact .inr (by simpa using e)
 refine⟨λx c e=>?_,λx y c e1 e2 hc=>?_,λx hx=>?_⟩
 ·rcases sp x c e with⟨e,q⟩|e
  ·refine .inl ⟨h1 x c e,λz=>?_⟩
   obtain⟨d,hd⟩:=jB (sc:=scope) (n:=n+1) z
   rw[hd] at q
   cases q
  ·have m:=mem_of_lookup e
   exact .inr ⟨(ok.empty x c m).2,(ok.empty x c m).1,hcell _ (dH _ _ m) rfl⟩
 ·have nw:∀z,(cellsFrom (n+1) scope.names cl).lookup z=some c→(cellsFrom (n+1) scope.names []).lookup z=some c:=fun z e=>by
   rcases sp z c e with⟨e,q⟩|e
   ·exact absurd (hlt z c (h1 z c e)) (Nat.lt_asymm hc)
   ·exact e
  exact name_of_addr ok.apart (mem_of_lookup (nw x e1)) (mem_of_lookup (nw y e2))
 ·rw[Ŕ,List.lookup_append]
  rcases hx with hx|hx
  ·obtain⟨c,hc⟩:=h2 _ hx rfl
   cases q:(cellsFrom (n+1) scope.names []).lookup x with
   |none=>exact⟨c,by simpa using hc⟩
   |some d=>exact⟨d,rfl⟩
  ·obtain⟨d,hd⟩:=jB (sc:=scope) (n:=n+1) (hcell _ hx rfl)
   rw[hd]
   exact⟨d,rfl⟩
def iH{M:Model}{A:Around}{E:Value->Shared->Prop}{s:Shared}{scope:Scope}{globals:Addr}{closure:List (Str×Addr)}{qual:Str}
 {func:Option Addr}{code:Value}{env0:Env}{builtins:Addr}{Q:Env->Shared->Prop}
 (hQ:∀h',h'.Ns s.heap.objs.size (fun _=>none)→(∀b o,s.heap.get? b=some o→h'.get? b=some o)→CellsOk h' (s.heap.objs.size+1) (cellsFrom (s.heap.objs.size+1) scope.names [])→
   Q (newEnv scope s.heap.objs.size globals (cellsFrom (s.heap.objs.size+1) scope.names closure) qual func code (some env0) builtins) {s with heap:=h'}) :
 wpAny M A (newFunctionEnv scope globals closure [] qual func code (some env0) builtins) Q E s:=by
 simp only[newFunctionEnv,Option.isSome_some,if_true]
 refine wpAny_bind (wpAny_alloc ?_)
 refine wpAny_bind (wpAny_layCells _ (λname kind cells=>by cases hkc:kind== NameKind.cell<;>simp[hkc]) _ _ _ _ ?_)
 have ok:=cellsFrom_ok scope.names (s.heap.push {cls:=.type "dict",data:=.dict #[]}) (s.heap.objs.size+1) [] ⟨λ_ _ hm=>(nomatch hm),List.Pairwise.nil⟩ (by rw[Heap.size_push];exact Nat.le_refl _)
 rw[Heap.size_push] at ok
 rw[show({s with heap:=s.heap.push {cls:=.type "dict",data:=.dict #[]}}:Shared).heap.objs.size=s.heap.objs.size+1 from Heap.size_push ..]
 refine wpAny_bind ?_
 rw[List.forIn_nil]
 exact wpAny_pure (wpAny_pure (hQ _ ((Heap.Ns.new s.heap (.type "dict")).keeps (pushCells_keeps _ _)) (λb o e=>pushCells_keeps _ _ b o (Heap.get?_push_of_some _ e)) ok))
theorem jD{env:Env}:∀{names:List (Str×NameKind)} {x:Str},names.lookup x=some .free->
 ¬(names.map λ(n,k)=>if(k== NameKind.free && env.scope.kind== .function && env.kindOf n== some .cell) then(n,NameKind.cell) else(n,k)).lookup x=some .local
 | [],x,h=>by simp at h
 |(n,q)::r,x,h=>by
  intro h2
  rw[List.map_cons] at h2
  rw[List.lookup_cons] at h
  cases hx:x== n with
  |true=>
   rw[hx] at h
   cases h
   by_cases c:(NameKind.free== NameKind.free && env.scope.kind== .function && env.kindOf n== some .cell)=true
   ·simp only[c,if_true,List.lookup_cons,hx] at h2
    cases h2
   ·simp only[c,if_false,Bool.false_eq_true,List.lookup_cons,hx] at h2
    cases h2
  |false=>
   rw[hx] at h
   have ih:=jD (env:=env) h
   by_cases c:(q== NameKind.free && env.scope.kind== .function && env.kindOf n== some .cell)=true
   ·simp only[c,if_true,List.lookup_cons,hx] at h2
    exact ih h2
   ·simp only[c,if_false,Bool.false_eq_true,List.lookup_cons,hx] at h2
    exact ih h2
def rG{pins:List (Addr×Obj)}{σ:L2.St}{H:Hp}{s:Shared}{N':List Str}{js:List Nat}{nl:Nat}{sc:Scope}{cl:List (Str×Addr)}{fp:List Addr}{h':Heap}{tk:Nat}
 (hsc:X.env.scope=sc)(hk:scope.kind=.function)(hcap:cQ X sc scope N' js)(hlen:js.length+nl=N'.length)(B:Blk X scope s.heap.objs.size h' cl)
 (I:Inv X pins σ H s)(hf:∀b∈fp,b_ X pins H b)(hlt:∀b∈fp,b<s.heap.objs.size)
 (hn:h'.Ns s.heap.objs.size (λ_=>none))(kp:∀b o,s.heap.get? b=some o->h'.get? b=some o) :
 Inv (cj X N' scope cl s.heap.objs.size s H fp) [] (cR js nl σ) H {s with heap:=h',toks:=tk}:=by
 have FQ:∀x,((cj X N' scope cl s.heap.objs.size s H fp).env.kindOf x=some .cell\/(cj X N' scope cl s.heap.objs.size s H fp).env.kindOf x=some .free)->∃c,cl.lookup x=some c:=λx hx=>by
  rcases hx with hx|hx
  ·exact B.has x (dG (.inl rfl) hx)
  ·exact B.has x (dG (.inr rfl) hx)
 have lt:∀x c,X.env.cells.lookup x=some c->c<s.heap.objs.size:=λx c e=>by
  obtain⟨v,o,ho,_⟩:=I.cell x c e
  exact Heap.lt_size ho
 have inj:∀x y c,cl.lookup x=some c->cl.lookup y=some c->x=y:=λx y c e1 e2=>by
  rcases B.at_ x c e1 with⟨q1,_⟩|⟨q1,_⟩
  ·rcases B.at_ y c e2 with⟨q2,_⟩|⟨q2,_⟩
   ·exact I.ok.inj x y c q1 q2
   ·exact absurd (lt x c q1) (Nat.lt_asymm q2)
  ·exact B.inj x y c e1 e2 q1
 refine⟨⟨I.ok.mod,hk,I.ok.glob,I.ok.blt,Nat.le_refl _,inj,FQ,λx c z e=>by
  rcases B.at_ x c e with⟨_,q⟩|⟨q,_⟩
  ·exact absurd (beq_iff_eq.mp z) q
  ·exact Nat.le_of_lt q,I.ok.hd,I.ok.frames,.inl rfl,λb hb=>⟨Nat.ne_of_lt (hlt b hb),λx c e=>by
  rcases B.at_ x c e with⟨q,_⟩|⟨q,_⟩
  ·exact(hf b hb).2.2.2.2.1 x c q
  ·exact Nat.ne_of_gt (Nat.lt_trans (hlt b hb) q)⟩,
  I.bs,Nat.le_trans I.ok.Ay I.sz,fun b o e hb=>?_,fun b hb hz=>?_,I.stack,I.nC,I.tb⟩,rfl,I.bare,Un.kept kp,⟨_,hn,fun i x v e1 e2 e3=>?_⟩,fun x c e=>?_,I.hok.fresh (Nat.le_refl _),fun x c e=>by
    rcases B.at_ x c e with⟨q,_⟩|⟨q,_⟩
    ·exact I.au x c q
    ·exact I.hok.fresh (Nat.le_of_lt q),λp hp=>?_,I.hok.kept kp,?_⟩
 ·rcases(hf b hb).2.2.2.1 with z|z
  ·exact I.ok.tH b o e z
  ·exact absurd (Nat.lt_of_lt_of_le (Heap.lt_size e) (Nat.le_trans I.ok.Ay z)) (Nat.lt_irrefl _)
 ·rcases List.mem_cons.mp (I.nY b hz) with z|z
  ·exact(hf b hb).2.1 z
  ·exact(hf b hb).2.2.1 z
 ·obtain⟨j,q1,q2,q0,q3⟩:=kI hcap e1 e2
  obtain⟨m,hm,hl⟩:=I.loc
  have Xd:Ax X.env.scope x:=by
   rw[hsc]
   rcases q3 with q3|q3
   ·exact .inr (.inl q3)
   ·exact .inr (.inr q3)
  obtain⟨u,ru,lk⟩:=hl j x v q1 q2 Xd
  refine⟨u,ru,?_⟩
  rcases lk with⟨k1,_⟩|⟨k1,c,hc,ic⟩
  ·exfalso
   have k1':sc.names.lookup x=some .local:=by rw[<-hsc];exact k1
   rcases q3 with q3|q3<;>(rw[k1'] at q3;cases q3)
  ·have e3':(cj X N' scope cl s.heap.objs.size s H fp).env.kindOf x=some .local\/(cj X N' scope cl s.heap.objs.size s H fp).env.kindOf x=some .cell\/(cj X N' scope cl s.heap.objs.size s H fp).env.kindOf x=some .free:=e3
   rcases e3' with z|z
   ·exact absurd z (jD (env:=X.env) q0)
   ·obtain⟨d,hd⟩:=FQ x z
    have:d=c:=by
     rcases B.at_ x d hd with⟨q,_⟩|⟨_,_,q⟩
     ·rw[hc] at q
      exact(Option.some.inj q).symm
     ·rw[q0] at q
      cases q
    subst this
    exact .inr ⟨z,d,hd,by
     obtain⟨o,ho,hd'⟩:=ic
     exact⟨o,kp _ _ ho,hd'⟩⟩
 ·rcases B.at_ x c e with⟨q,_⟩|⟨_,q,_⟩
  ·obtain⟨v,o,ho,hd⟩:=I.cell x c q
   exact⟨v,o,kp _ _ ho,hd⟩
  ·exact⟨none,q⟩
 ·exact absurd hp (by simp[cj])
 ·show _=N'.length
  rw[<-hlen]
  simp[cR]
def oE{pins:List (Addr×Obj)}{σ σ':L2.St}{H H':Hp}{s s':Shared}{N':List Str}{cl:List (Str×Addr)}{fp:List Addr}{h':Heap}(I:Inv X pins σ H s)(hf:∀b∈fp,b_ X pins H b)
 (J:Inv (cj X N' scope cl s.heap.objs.size s H fp) [] σ' H' s')(kp:∀b u,b≠s.heap.objs.size->s'.heap.get? b=some u->h'.get? b=some u):Inv X pins σ H' {s' with heap:=h'}:=by
 have ne:∀{b:Addr} {o:Obj},s.heap.get? b=some o->b≠s.heap.objs.size:=λe=>Nat.ne_of_lt (Heap.lt_size e)
 have u:=J.base
 refine I.call' (ch:=fp) J.os ⟨λb o e n hb hx=>kp b o (ne e) (u.keep b o e n hb hx),λb o e n hb hx=>?_,λb o e n hx=>u.free b o e n hx,λb o e hx=>?_,u.tups,u.dw,u.bZ⟩ (Bh J.hok J.free kp) J.bare λb hb=>?_
 ·obtain⟨sl,q⟩:=u.slot b o e n hb hx
  exact⟨sl,kp b _ (ne e) q⟩
 ·obtain⟨o',q⟩:=u.there b o e hx
  exact⟨o',kp b _ (ne e) q⟩
 ·exact⟨(hf b hb).2.2.2.1,(hf b hb).2.1,(hf b hb).2.2.2.2.1,(hf b hb).2.2.2.2.2⟩
def Lp(N':List Str)(js:List Nat)(nl:Nat)(sc:Scope)(hsc:X.env.scope=sc)(hcalm:X.calm=true)
 (hi:PI X.ō tg iter wi)(hg:∀cl C s H fp,PG (cj X.ō N' scope cl C s H fp) tg g)(ht:∀cl C s H fp,Ed (cj X.ō N' scope cl C s H fp) ifs tt)(he:∀cl C s H fp,PE (cj X.ō N' scope cl C s H fp) elt te)
 (hcap:cQ X.ō sc scope N' js)(hlen:js.length+nl=N'.length:=by rfl)
 (hk:scope.kind=.function:=by rfl)(hcell:∀y∈scope.names,y.2=.cell->scope.names.lookup y.1=some .cell:=by decide +kernel)(hnames:∀y∈scope.names,y.2=.local->scope.names.lookup y.1=some .local:=by decide +kernel)
 (hfree:∀y∈scope.names,y.2=.free->(sc.names.lookup y.1=some .cell\/sc.names.lookup y.1=some .free):=by decide +kernel)
 (hs:∀x,foldedSetIterable iter X.env x=pure x:=by intro _;rfl) :
 PE X.ō (.ListComp elt [⟨tg,iter,ifs,0⟩] scope pos) (FN js nl wi g tt te):=by
 intro pins s σ H Q I h
 obtain⟨cl0,c1,c2,c3⟩:=dF (scope:=scope) (env:=X.ō.env) λy hy hf=>I.ok.has y.1 (by
  have:=hfree y hy hf
  rw[<-hsc] at this
  exact this)
 rw[eval_ListComp]
 refine wpAny_comprehension_free (use:=none) rfl hs c1 hk hnames (ł (hi pins s σ H _ I h) λv s1 h1=>ł h1 λitv s2 h2=>?_)
 obtain⟨it,fp,tn,J,H2,e,I2,T,st2,f2,q2⟩:=h2
 subst e
 refine wpAny_newObj_type (iH (λh₁ hns₁ old Xe=>?_))
 dsimp only at hns₁ old Xe ⊢
 generalize Xf:s2.heap.push {cls:=.type "list",dict:=none,data:=.seq ([]:List Value).toArray}=aO at hns₁ old Xe ⊢
 have hD:H2 s2.heap.objs.size=none:=I2.hok.fresh (Nat.le_refl _)
 have I3:Inv X.ō pins σ (upd H2 s2.heap.objs.size (.lst [])) {s2 with heap:=aO}:=by
  rw[<-Xf]
  exact I2.laid (t':=s2.toks) (λb u e=>Heap.get?_push_of_some _ e) (Nat.le_refl _) ⟨Nat.zero_le _,[],0,.nil,Heap.get?_push_size _ rfl⟩
 have Lq:∀b∈fp,b<s2.heap.objs.size:=λb hb=>by
  obtain⟨o,ho,_⟩:=T.obj 0 _ st2 b hb
  exact Heap.lt_size ho
 have Xg:aO.objs.size=s2.heap.objs.size+1:=by rw[<-Xf,Heap.size_push]
 have f3:∀b∈fp,b_ X.ō pins (upd H2 s2.heap.objs.size (.lst [])) b:=λb hb=>by
  obtain⟨g0,g1⟩:=f2 b hb
  exact⟨by rw[ċ (Nat.ne_of_lt (Lq b hb))];exact g0,g1⟩
 have B:=FP (X:=X.ō) (cl:=cl0) hcell c2 c3 (λx c e=>by
  obtain⟨v,o,ho,_⟩:=I3.cell x c e
  exact Heap.lt_size ho) Xe
 generalize cellsFrom (aO.objs.size+1) scope.names cl0=cl at B ⊢
 obtain⟨W,⟨m0,w0⟩,turn⟩:=q2 s2.heap.objs.size hD
 have I4:=rG (X:=X.ō) (N':=N') (js:=js) (nl:=nl) (sc:=sc) (scope:=scope) (cl:=cl) (fp:=fp) (h':=h₁) (tk:=s2.toks) hsc hk hcap hlen B I3 f3 (λb hb=>by show b<aO.objs.size;rw[Xg];exact Nat.lt_succ_of_lt (Lq b hb)) hns₁ old
 have st4:tn 0 h₁:= T.keep 0 _ _ st2 λb hb o e=>old b o (by rw[<-Xf];exact Heap.get?_push_of_some _ e)
 have fr4:∀b∈fp,(upd H2 s2.heap.objs.size (.lst [])) b=none:=λb hb=>(f3 b hb).1
 have stat:∀{H':Hp},(∀b∈fp,H' b=none)->∀b∈fp,b_ (cj X.ō N' scope cl aO.objs.size {s2 with heap:=aO} (upd H2 s2.heap.objs.size (.lst [])) fp) [] H' b:=fun{H'} hn b hb=>by
  obtain⟨g0,g1,g2,g3,g4,g5⟩:=f3 b hb
  refine⟨hn b hb,Nat.ne_of_lt (by show b<aO.objs.size;rw[Xg];exact Nat.lt_succ_of_lt (Lq b hb)),λz=>?_,.inl hb,λx c e=>by
   rcases B.at_ x c e with⟨q,_⟩|⟨q,_⟩
   ·exact g4 x c q
   ·exact Nat.ne_of_gt (Nat.lt_trans (by show b<aO.objs.size;rw[Xg];exact Nat.lt_succ_of_lt (Lq b hb)) q),λp hp=>absurd hp (by simp[cj])⟩
  rcases List.mem_cons.mp (I3.nY b z) with z|z
  ·exact g1 z
  ·exact g2 z
 have loop:∀s₃:Shared,s₃= {s2 with heap:=h₁}->
  codeAny (model X.prog X.w) X.A (.compLoop (.ListComp elt [⟨tg,iter,ifs,0⟩] scope pos) 0 (.ref it) (.ref s2.heap.objs.size) (compEnvC scope cl aO.objs.size X.ō.env))
   (compPost (model X.prog X.w) X.A X.ō.xe none (EP X.ō pins σ Q) (.ref s2.heap.objs.size) aO.objs.size) s₃:= by
  rintro s₃ rfl
  refine jC (λn s'=>∃i σ' H',Inv (cj X.ō N' scope cl aO.objs.size {s2 with heap:=aO} (upd H2 s2.heap.objs.size (.lst [])) fp) [] σ' H' s'/\tn i s'.heap/\(∀b∈fp,H' b=none)/\W i n σ' H') ?_ m0 ⟨0,_,_,I4,st4,fr4,w0⟩
  rintro n s5 ⟨i,σ5,H5,I5,Ky,Wh,w5⟩
  rcases turn i n σ5 H5 w5 with⟨stop,qn⟩|⟨go,N,hN,step⟩
  ·refine ł (T.done (cj X.ō N' scope cl aO.objs.size {s2 with heap:=aO} (upd H2 s2.heap.objs.size (.lst [])) fp) rfl rfl rfl hcalm i [] s5 σ5 H5 (λ_ _=>False) I5 (stat Wh) Ky stop) λr s6 ⟨hr,I6⟩=>?_
   subst hr
   obtain⟨m,hm,_⟩:=I6.loc
   refine⟨m,hm,λh' hs'=>⟨.ref s2.heap.objs.size,H5,oE I3 f3 I6 (λb u hb e=>hs'.extBut b u hb e),rfl,qn⟩⟩
  ·refine ł (T.item (cj X.ō N' scope cl aO.objs.size {s2 with heap:=aO} (upd H2 s2.heap.objs.size (.lst [])) fp) rfl rfl rfl hcalm i [] s5 σ5 H5 (λ_ _=>False) I5 (stat Wh) Ky go) λr s6 ⟨u,hr,h6⟩=>?_
   subst hr
   refine ł h6 λ_ s7 ⟨x,H7,I7,r7,y7,Xh,fr7⟩=>?_
   have I7':=I7.pinned (stat fr7) (T.obj _ _ Xh)
   have again:∀{s8:Shared} {σ8:L2.St} {H8:Hp},Inv (cj X.ō N' scope cl aO.objs.size {s2 with heap:=aO} (upd H2 s2.heap.objs.size (.lst [])) fp) ([]++jX fp s7.heap) σ8 H8 s8->
    Inv (cj X.ō N' scope cl aO.objs.size {s2 with heap:=aO} (upd H2 s2.heap.objs.size (.lst [])) fp) [] σ8 H8 s8/\tn (i+1) s8.heap/\∀b∈fp,H8 b=none:=fun{s8 σ8 H8} I8=>by
    refine⟨I8.cM,T.keep _ _ _ Xh λb hb o e=>(I8.pin (b,o) (List.mem_append_right _ (List.mem_append_right _ (Ŝ hb e)))).1,λb hb=>?_⟩
    obtain⟨o,e,d⟩:=T.obj _ _ Xh b hb
    exact(I8.pin (b,o) (List.mem_append_right _ (List.mem_append_right _ (Ŝ hb e)))).2.1
   refine ł (hg cl _ _ _ fp _ s7 σ5 H7 x u _ I7' r7 (step x H7 y7)) λ_ s8 ⟨σ8,H8,I8,q8⟩=>?_
   refine ł (ht cl _ _ _ fp _ s8 σ8 H8 _ I8 q8) λc s9 ⟨H9,I9,q9⟩=>?_
   cases c with
   |false=>
    rw[if_neg Bool.false_ne_true] at q9 ⊢
    obtain⟨m',hm',w9⟩:=hN _ _ q9
    obtain⟨a1,a2,a3⟩:=again I9
    exact⟨m',hm',i+1,σ8,H9,a1,a2,a3,w9⟩
   |true=>
    rw[if_pos rfl] at q9 ⊢
    refine ł (he cl _ _ _ fp _ s9 σ8 H9 _ I9 q9) λyv yq ⟨y,H10,I10,r10,ys,e10,l10,w10⟩=>?_
    refine ł (œ _ yq σ8 H10 (.ref s2.heap.objs.size) [y] (.ref s2.heap.objs.size) [yv] (λ_ Xi=>N σ8 Xi) I10 rfl (.cons r10 .nil) ⟨_,ys,y,rfl,rfl,e10,l10,w10⟩) λ_ s11 ⟨v11,Xi,I11,_,w11⟩=>?_
    obtain⟨a1,a2,a3⟩:=again I11
    obtain⟨m',hm',w11⟩:=hN _ _ w11
    exact⟨m',hm',i+1,σ8,Xi,a1,a2,a3,w11⟩
 exact codeAny_compStart_list (loop _ rfl) (T.self _ 0 _ _ _ st4 (loop _ rfl))
end
def Its(z:Str):It:=⟨λi _=>i<z.cps.size,λi H x H'=>H'=H/\∃c,z.cps.toList[i]?=some c/\x=.str ⟨#[c]⟩,λi _=>i=z.cps.size⟩
def Di{P:Program}{w:World}{K:PySem.W.Frag}{tg:Expr}(it:Addr)(z:Str)(t:Tok)(ty:String)
 (hW:∀A:Around,A.handled=none->Walks P w A it [it] [it] z.cps.size (SignAt z) (λi h=>h.IsStrIter it ty z t i))
 (hS:∀(A:Around) (i:Nat) (s:Shared) (Q:Value->Shared->Prop) (E:Value->Shared->Prop),s.heap.IsStrIter it ty z t i->Q (.ref it) s->wpAny (model P w) A (pyIter (.ref it)) Q E s)
 (hty:["enumerate","zip","dict_itemiterator","dict_reverseitemiterator","odict_iterator","itertools.zip_longest","itertools.pairwise"].contains ty=false):Turn P w K tg (Its z) [it] it (λi h=>h.IsStrIter it ty z t i) where
 mem:=by simp
 obj:=λi h st b hb=>by
  have e:b=it:=by simpa using hb
  subst e
  obtain⟨o,e,c,d⟩:=st
  exact⟨o,e,λv z=>by rw[d] at z;cases z⟩
 keep:=λi h h' st k=>by
  obtain⟨o,e,c,d⟩:=st
  exact⟨o,k it (by simp) o e,c,d⟩
 item:=by
  intro X hP hw hK hc i pins s σ H E I hf st hg
  subst hP hw hK
  obtain⟨f0,f1,f2,f3,f4,f5⟩:=hf it (by simp)
  refine(hW X.A (I.ok.hd hc)).item i s _ _ hg st λv h' tk hv st' kk=>?_
  obtain⟨c,u,hcu,rfl⟩:=hv
  have I1:Inv X pins σ H {s with heap:=h',toks:=tk}:=I.turned (λb o hb e=>kk b o (by simpa using hb) e) f0 f1 f3 f4 f5
  obtain⟨o,e,cl,d⟩:=id st'
  exact⟨_,rfl,vQ (s:={s with heap:=h',toks:=tk}) e cl d hty ⟨.str ⟨#[c]⟩,H,I1,⟨u,rfl⟩,⟨rfl,c,by simpa using hcu,rfl⟩,st',λb hb=>(hf b hb).1⟩⟩
 done:=by
  intro X hP hw hK hc i pins s σ H E I hf st hg
  subst hP hw hK
  obtain⟨f0,f1,f2,f3,f4,f5⟩:=hf it (by simp)
  have e:i=z.cps.size:=hg
  subst e
  exact(hW X.A (I.ok.hd hc)).done s _ _ st λh' tk kk=>⟨rfl,I.turned (λb o hb e=>kk b o (by simpa using hb) e) f0 f1 f3 f4 f5⟩
 self:=hS
section
variable{X:Cx}{tg:Expr}
end
end M3
namespace M4
open PySem PySem.Spec PyProof.Rows L2 M2 M3
section
variable{X:Cx}
def Lr{bs:List Bool}:∀{us:List Value},Vals (bs.map V.bl) us->us=bs.map Value.bool:=by
 induction bs with
 |nil=>intro us r;rw[List.map_nil] at r;cases r;rfl
 |cons b bs ih=>
  intro us r
  rw[List.map_cons] at r
  cases r with
  |cons r1 r2=>
   cases r1
   rw[ih r2]
   rfl
def all_range(bs:List Bool):(List.range (bs.map Value.bool).toArray.size).all (λi=>bs.getD i false)=bs.all id:=by
 have e:(bs.map Value.bool).toArray.size=bs.length:=by simp
 rw[e,Bool.eq_iff_iff]
 simp only[List.all_eq_true,List.mem_range,id]
 constructor
 ·intro h b hb
  obtain⟨i,hi,rfl⟩:=List.mem_iff_getElem.mp hb
  have:=h i hi
  rw[List.getD_eq_getElem?_getD,List.getElem?_eq_getElem hi] at this
  exact this
 ·intro h i hi
  rw[List.getD_eq_getElem?_getD,List.getElem?_eq_getElem hi]
  exact h _ (List.getElem_mem hi)
def vX{prog:Program}{w:World}{A:Around}(bs:List Bool):TruthOf prog w A (λi v=>(bs.map Value.bool).toArray[i]?=some v) (λi=>bs.getD i false):=by
 intro i v s Q E hv hq
 have hv':bs[i]?.map Value.bool=some v:=by
  rw[<-List.getElem?_map]
  simpa using hv
 cases hb:bs[i]? with
 |none=>rw[hb] at hv';cases hv'
 |some b=>
  rw[hb] at hv'
  cases hv'
  dsimp only at hq
  rw[List.getD_eq_getElem?_getD,hb] at hq
  exact wpAny_truthy_bool hq
def Xj(K:PySem.W.Frag):List V->Hp->VK->Prop:=λxs H Q=>match xs with
 | [.ref p]=>∃bs:List Bool,ū K H p (bs.map V.bl)/\Q (.bl (bs.all id)) H
 |_=>False
def yS(hc:X.calm=true):Ń X (.builtin "all") (Xj X.K):=by
 intro pins s σ H xs us Q I r h
 unfold Xj at h
 split at h
 ·rename_i p
  obtain⟨bs,hS,q⟩:=h
  obtain⟨u,rfl,ru⟩:=vals1 r
  cases ru
  obtain⟨its,rv,pl,hz⟩:=I.list hS
  have e:=Lr rv
  subst e
  have hp:p≠s.heap.objs.size:=by
   obtain⟨o,n,e,_⟩:=pl
   exact Nat.ne_of_lt (Heap.lt_size e)
  refine call_all_walk (wpAny_pyIter_list pl.isList ?_)
  refine⟨s.heap.objs.size,_,_,_,_,_,_,rfl,Walks.list (A:=X.A.in1) (show X.A.in1.handled=none from I.ok.hd hc) s.heap.objs.size p hp (bs.map Value.bool).toArray,⟨⟨_,Heap.get?_push_size _ rfl,rfl,rfl⟩,pl.isList.at λo e=>Heap.get?_push_of_some _ e⟩,vX bs,λh' tk k=>?_⟩
  rw[all_range]
  exact⟨.bl _,H,I.kept λb o e=>k b o (by simpa using Nat.ne_of_lt (Heap.lt_size e)) (Heap.get?_push_of_some _ e),rfl,q⟩
 ·exact h.elim
end
abbrev S(l:List Nat):Str:=⟨l.toArray⟩
def Zd4(z:Str):S z.cps.toList=z:=by
 cases z
 simp
def Zbw(l:List Nat):(S l).length=l.length:=by simp[Str.length]
def vY(z:Str):z.cps.toList.length=z.length:=by simp[Str.length]
def tW(xs:List Nat)(lo hi:Option Int):List Nat:=(xs.drop (HT.iB xs.length 0 lo)).take (HT.iB xs.length xs.length hi-HT.iB xs.length 0 lo)
def idx_eq(z:Str)(lo hi:Option Int):Builtin.Str.strSliceIndices lo hi 1 z.length=(List.range (HT.iB z.length z.length hi-HT.iB z.length 0 lo)).map (HT.iB z.length 0 lo + ·):=by
 have hc:∀(o:Option Int) (d:Nat),d<=z.length->(match o with|none=>((d:Nat):Int)|some i=>max 0 (min (if i<0 then i+(z.length:Int) else i) (z.length:Int)))=((HT.iB z.length d o:Nat):Int):=by
  intro o d hd
  cases o with
  |none=>rfl
  |some i=>
   show max 0 (min (if i<0 then i+(z.length:Int) else i) (z.length:Int))=((if i<0 then(i+(z.length:Int)).toNat else min i.toNat z.length:Nat):Int)
   by_cases h:i<0
   ·rw[if_pos h,if_pos h];omega
   ·rw[if_neg h,if_neg h];omega
 have e:Builtin.Str.strSliceIndices lo hi 1 z.length=sliceRange ((HT.iB z.length 0 lo:Nat):Int) ((HT.iB z.length z.length hi:Nat):Int) 1:=by
  have h1:=hc lo 0 (Nat.zero_le _)
  have h2:=hc hi z.length (Nat.le_refl _)
  unfold Builtin.Str.strSliceIndices
  simp only[show(1:Int)>0 by decide,if_true]
  rw[<-h1,<-h2]
  cases lo<;>cases hi<;>rfl
 rw[e,sliceRange_one]
def Ls(z:Str)(lo hi:Option Int):(Builtin.Str.strSliceIndices lo hi 1 z.length).filterMap (z.cps[·]?)=tW z.cps.toList lo hi:=by
 rw[idx_eq,pick_run]
 unfold tW
 rw[vY]
def Lw(xs:List Nat)(lo hi:Option Int):(tW xs lo hi).length<=xs.length:=by
 unfold tW
 rw[List.length_take,List.length_drop]
 omega
def FT{z:Str}{t:Tok}{l u:Option (Int×Tok)}{Q:Value->Shared->Prop}{s:Shared}(hz:z.length<=sizeLine)
 (h:∀t' k,Q (.str (S (tW z.cps.toList (l.map (·.1)) (u.map (·.1)))) t') {s with toks:=k}):(sliceMade z t l u none).post Q s:=by
 have e:=Ls z (l.map (·.1)) (u.map (·.1))
 unfold sliceMade
 have ep:slicePicked z l u none=Builtin.Str.strSliceIndices (l.map (·.1)) (u.map (·.1)) 1 z.length:=rfl
 rw[ep]
 split
 ·rename_i hc
  have hl:(Builtin.Str.strSliceIndices (l.map (·.1)) (u.map (·.1)) 1 z.length).length=z.length:=by simpa using hc
  have hz2:tW z.cps.toList (l.map (·.1)) (u.map (·.1))=z.cps.toList:=by
   rw[idx_eq,List.length_map,List.length_range] at hl
   have hi:=HT.Fg z.length 0 (Nat.zero_le _) (l.map (·.1))
   have hj:=HT.Fg z.length z.length (Nat.le_refl _) (u.map (·.1))
   unfold tW
   rw[vY]
   have hl2:=vY z
   have a0:HT.iB z.length 0 (l.map (·.1))=0\/z.length=0:=by omega
   rcases a0 with a0|a0
   ·rw[a0] at hl ⊢
    rw[List.drop_zero]
    exact List.take_of_length_le (by omega)
   ·have:z.cps.toList=[]:=List.eq_nil_of_length_eq_zero (by omega)
    rw[this]
    simp
  have:=h t s.toks
  rw[hz2,Zd4] at this
  exact this
 ·rw[e]
  exact⟨by rw[Zbw];have:=Lw z.cps.toList (l.map (·.1)) (u.map (·.1));rw[vY] at this;omega,h _ _⟩
section
variable{X:Cx}
def Zd5:V->Option Int->Option Int->Hp->VK->Prop:=λx lo hi H Q=>match x with
 | .str z=>z.length<=sizeLine/\Q (.str (S (tW z.cps.toList lo hi))) H
 |_=>False
def Lx:Bd X Zd5:=by
 intro pins s σ H x v vl vu lo hi sl Q I rx hs pl pu h
 cases x with
 |str z=>
  obtain⟨t,rfl⟩:=rx
  obtain⟨hz,q⟩:=h
  obtain⟨l,el,el2⟩:∃l:Option (Int×Tok),partValue l=vl/\l.map (·.1)=lo:=by
   cases pl with
   |none=>exact⟨none,rfl,rfl⟩
   |int i t=>exact⟨some (i,t),rfl,rfl⟩
  obtain⟨u,eu,eu2⟩:∃u:Option (Int×Tok),partValue u=vu/\u.map (·.1)=hi:=by
   cases pu with
   |none=>exact⟨none,rfl,rfl⟩
   |int i t=>exact⟨some (i,t),rfl,rfl⟩
  subst el el2 eu eu2
  exact⟨"str",_,F.slot_str_getitem.lookup,typeIs_str s z t,wpAny_getItem_str_slice (l:=l) (u:=u) (st:=none) hs rfl (FT hz λt' k=>⟨.str _,H,I.tok _,⟨_,rfl⟩,q⟩)⟩
 |_=>exact h.elim
def Zd6(K:PySem.W.Frag):V->Option Int->Option Int->Hp->VK->Prop:=λx lo hi H Q=>match x with
 | .ref a=>∃xs,ū K H a xs/\∀p,H p=none->Q (.ref p) (upd H p (.lst (vU xs lo hi)))
 | .str z=>z.length<=sizeLine/\Q (.str (S (tW z.cps.toList lo hi))) H
 |_=>False
def slm:Bd X (Zd6 X.K):=Bd.wk (Fy.or Lx) λx lo hi H Q h=>by
 cases x with
 |ref a=>exact .inl h
 |str z=>exact .inr h
 |_=>exact h.elim
def mul_eq(z:Str){n:Int}(h:0<=n):Txt.mul z n=S (List.replicate n.toNat z.cps.toList).flatten:=by
 have key:∀(k:Nat) (acc:Array Nat),((List.replicate k z.cps).foldl (·++ ·) acc).toList=acc.toList++(List.replicate k z.cps.toList).flatten:=by
  intro k
  induction k with
  |zero=>intro acc;simp
  |succ k ih=>
   intro acc
   rw[List.replicate_succ,List.foldl_cons,ih,List.replicate_succ,List.flatten_cons]
   simp
 unfold Txt.mul
 refine PyProof.Rows.ext_toList ?_
 by_cases h1:n<1
 ·rw[if_pos h1]
  have:n.toNat=0:=by omega
  rw[this]
  simp[Str.empty]
 ·rw[if_neg h1]
  split
  ·rename_i hc
   rw[Bool.or_eq_true] at hc
   rcases hc with hc|hc
   ·have:n=1:=by simpa using hc
    subst this
    simp
   ·have h0:z.cps.toList=[]:=List.eq_nil_of_length_eq_zero (by rw[vY];simpa using hc)
    rw[h0]
    simp
  ·rw[key]
   simp
def FW(z:Str)(n:Int):Prop:=0<=n/\n<=1000/\z.length<=1000
def FW.ok{z:Str}{n:Int}(h:FW z n):MulOk z n:=by
 obtain⟨h0,h1,h2⟩:=h
 refine⟨?_,λhn _=>?_,λhn _=>?_⟩
 ·rw[decide_eq_false (by omega),decide_eq_false (by omega)]
  rfl
 ·have:(9000000000000000:Int)≤(2 ^ 63-1) / n:=by
   rw[Int.le_ediv_iff_mul_le (by omega)]
   omega
  omega
 ·have:z.length*n.toNat<=1000*1000:=Nat.mul_le_mul h2 (by omega)
  unfold Builtin.Str.tooLong
  simp
  rw[sizeLine_eq]
  omega
def FZ:R2:=λx y H Q=>match x,y with
 | .int i,.int j=>rE i j/\Q (.int (i*j)) H
 | .str z,.int n=>FW z n/\Q (.str (S (List.replicate n.toNat z.cps.toList).flatten)) H
 |_,_=>False
def Ly:Š X (binaryOp .Mult) FZ:=by
 intro pins s σ H x y v u Q I rx ry h
 unfold FZ at h
 split at h
 ·exact Xa pins s σ H _ _ v u Q I rx ry h
 ·obtain⟨t,rfl⟩:=rx
  obtain⟨t',rfl⟩:=ry
  exact SB.mul h.1.ok λt' k=>⟨.str _,H,I.tok _,⟨_,by rw[mul_eq _ h.1.1]⟩,h.2⟩
 ·exact h.elim
end
end M4
namespace M5
open PySem PySem.Spec PyProof.Rows L2 M2 M3
def yU{p2:Pos}{c:Value}{a b:Int}{cv:Value}(l:List Value)(h:TriplesOk l)(e:codeAmong p2 (l ++ [rawInt a,rawInt b,c])=some cv):codeAmong p2 l=some cv\/cv=c:=by
 fun_induction TriplesOk l with
 |case1=>
  right
  simp only[List.nil_append,codeAmong,rawInt] at e
  split at e
  ·exact(Option.some.inj e).symm
  ·cases e
 |case2 a' t b' u x rest ih=>
  simp only[List.cons_append,codeAmong] at e ⊢
  split at e
  ·rename_i hc;rw[if_pos hc];exact .inl e
  ·rename_i hc;rw[if_neg hc];exact ih h e
 |case3 l h1 h2=>exact h.elim
section
variable{X:Cx}{pins:List (Addr×Obj)}{σ:L2.St}{H:Hp}{s:Shared}{x:Str}{c P:Addr}{params:Arguments}{body:Expr}{scope:Scope}{pos:Pos}{cl:List (Str×Addr)}
def Ga{Q:Value->Shared->Prop}{E:Value->Shared->Prop}(I:Inv X pins σ H s)(hx:x∈lams)(ht:PySem.W.tabIn X.K x=some (c,P))(hcode:X.env.code=.ref c)(hq:X.env.qual=x ++ ".<locals>.")(hdef:defaultsOf params X.env=([],[]))(hcl:closureFor scope X.env=pure cl)
 (h:∀f c' pm ctv H' s',Inv X pins σ H' s'->(∀a,H a=none->H' a=none\/a=c')->Same H H'->H' c'=some (.Aw (aR x))->s'.heap.get? f=some (PySem.W.kla_obj "<lambda>" (aR x) params body scope cl pm c' ctv)->b_ X pins H' f->Q (.ref f) s') :
 wpAny (model X.prog X.w) X.A (eval (.Lambda params body scope pos) X.env) Q E s:=by
 obtain⟨C,hT,hB⟩:=I.tb x c P hx ht
 obtain⟨ps,hP,tr,ent⟩:=I.hok P _ hT
 have hg:=I.ok.mod.glob.keeps I.bk
 have hgP:mainGlobals≠P:=λq=>by
  obtain⟨o,es,ep,e,hd,_⟩:=hg
  rw[q,hP] at e;cases e;cases hd
 have hB':s.heap.BuiltinsAt X.mg P:=by
  obtain⟨bm,ob,b1,b2,b3,b4,b5,b6⟩:=hB
  exact⟨bm,ob,b1,b2,b3,b4,I.bk _ _ b5,b6⟩
 refine PySem.W.kla_eval hdef ?_
 rw[hq]
 cases hf:codeAmong pos ps.toList with
 |none=>
  refine PySem.W.kla_makeFunction (mg:=X.mg) hcl I.ok.glob hg hcode (C.keeps I.bk) hP tr hf hgP hB' λc' ctv h' tk hxb hge hlt hrec htb=>?_
  have hc':H c'=none:=I.hok.fresh hge
  have hcP:c'≠P:=λz=>by rw[z,hT] at hc';cases hc'
  have neP:∀b,H b=none->b≠P:=λb n z=>by rw[z,hT] at n;cases n
  have old:∀b o,b≠P->s.heap.get? b=some o->(h'.push (PySem.W.kla_obj "<lambda>" (aR x) params body scope cl ((X.mg "__name__").getD .none) c' ctv)).get? b=some o:=λb o hb e=>Heap.get?_push_of_some _ (hxb b o hb e)
  have u:Un X.fs [] H (upd H c' (.Aw (aR x))) s.heap (h'.push (PySem.W.kla_obj "<lambda>" (aR x) params body scope cl ((X.mg "__name__").getD .none) c' ctv)):=by
   refine⟨λb o e n _ _=>old b o (neP b n) e,λb o e n _ _=>⟨o.slots,old b o (neP b n) e⟩,λb o e n _=>?_,λb o e _=>?_,λb xs e=>by rw[ċ (ē e hc')];exact e,λb o u e=>by rw[ċ (ē e hc')];exact e,λb q e=>by rw[ċ (ē e hc')];exact e⟩
   ·rw[ċ (Nat.ne_of_lt (Nat.lt_of_lt_of_le (Heap.lt_size e) hge))];exact n
   ·by_cases hb:b=P
    ·exact⟨_,by rw[hb];exact Heap.get?_push_of_some _ htb⟩
    ·exact⟨o,old b o hb e⟩
  have hok:cL X.prog X.w (upd H c' (.Aw (aR x))) (h'.push (PySem.W.kla_obj "<lambda>" (aR x) params body scope cl ((X.mg "__name__").getD .none) c' ctv)):=λb v e=>by
   by_cases hb:b=c'
   ·subst hb
    rw[Ğ] at e;cases e
    obtain⟨c2,o,vs,t,z,e1,r⟩:=hrec
    exact⟨c2,o,vs,t,z,Heap.get?_push_of_some _ e1,r⟩
   ·rw[ċ hb] at e
    by_cases hbP:b=P
    ·subst hbP
     rw[hT] at e;cases e
     refine⟨_,Heap.get?_push_of_some _ htb,?_,λp2 cv z=>?_⟩
     ·have:=TriplesOk_snoc pos.line pos.col (.ref c') ps.toList tr
      simpa using this
     ·rcases yU (a:=pos.line) (b:=pos.col) (c:=.ref c') ps.toList tr (by simpa using z) with z|z
      ·obtain⟨d,z1,z2⟩:=ent p2 cv z
       exact⟨d,z1,by rw[ċ (ē z2 hc')];exact z2⟩
      ·exact⟨c',z,Ğ⟩
    ·exact(I.hok b v e).stay (fun b2 o hb2 q=>old b2 o (by
      rcases hb2 with z|z
      ·rw[z];exact hbP
      ·intro z2;rw[z2,hT] at z;cases z) q) (λd q=>by rw[ċ (ē q hc')];exact q) (λd xs q=>by rw[ċ (ē q hc')];exact q) λd xs q=>by rw[ċ (ē q hc')];exact q
  have hfz:s.heap.objs.size<=h'.objs.size:=Nat.le_of_lt (Nat.lt_of_le_of_lt hge hlt)
  refine h h'.objs.size c' _ ctv (upd H c' (.Aw (aR x))) _ (I.un (t':=tk) u hok) (λa n=>?_) (λb v e=>by rw[ċ (ē e hc')];exact e) Ğ (Heap.get?_push_size _ rfl) (I.tK hfz (by rw[ċ (Nat.ne_of_gt hlt)];exact I.hok.fresh hfz))
  by_cases ha:a=c'
  ·exact .inr ha
  ·exact .inl (by rw[ċ ha];exact n)
 |some cv=>
  obtain⟨c',rfl,hcc⟩:=ent pos cv hf
  refine PySem.W.kla_makeFunctionHit (mg:=X.mg) hcl I.ok.glob hg hcode (C.keeps I.bk) hP tr hf hB' λctv h' tk hk hsz=>?_
  exact h h'.objs.size c' _ ctv H _ (I.kept (t':=tk) λb o e=>Heap.get?_push_of_some _ (hk b o e)) (λ_ n=>.inl n) (Same.refl H) hcc (Heap.get?_push_size _ rfl) (I.tK hsz (I.hok.fresh hsz))
end
def Ef(X:Cx)(N':List Str)(qual:Str)(scope:Scope)(cl:List (Str×Addr))(f:Addr)(c':Addr)(A:Around)(s:Shared)(H:Hp):Cx where
 prog:=X.prog
 w:=X.w
 K:=X.K
 mg:=X.mg
 base:=X.base
 A:=A.deeper (PySem.W.envX qual scope s.heap.objs.size f (.ref c') cl)
 N:=N'
 s₀:= s
 H₀:= H
 env:=PySem.W.envX qual scope s.heap.objs.size f (.ref c') cl
 outer:=X.stack
 stack:=PySem.W.envX qual scope s.heap.objs.size f (.ref c') cl::X.stack
 ex:=[]
 fn:=λ_=>false
 calm:=true
 pn:=[]
 xe:=λ_ _=>False
def cT(js:List Nat)(σ:L2.St)(v:V):L2.St:=js.map (λj:Nat=>(σ[j]?).getD none) ++ [some v]
section
variable{X:Cx}{pins:List (Addr×Obj)}{σ:L2.St}{H:Hp}{s:Shared}{params:Arguments}{body:Expr}{scope sc:Scope}{cl:List (Str×Addr)}{N0:List Str}{js:List Nat}{qual px:Str}{f c':Addr}{A:Around}
def Lz(hsc:X.env.scope=sc)(hk:scope.kind=.function)(hcap:cQ X sc scope N0 js)(hlen:js.length=N0.length)(hcell:∀y∈scope.names,y.2≠ .cell)(hpx:scope.names.lookup px=some .local)
 (hA:A.frames=some X.stack)(hhd:A.handled=none)(c2:∀x c,cl.lookup x=some c->X.env.cells.lookup x=some c)(c3:∀y∈scope.names,y.2=.free->∃c,cl.lookup y.1=some c)
 (I:Inv X pins σ H s){v:V}{u:Value}(r:RelV v u){h':Heap}{tk:Nat}(hn:h'.Ns s.heap.objs.size (λy=>[(px,u)].reverse.lookup y))(kp:∀b o,s.heap.get? b=some o->h'.get? b=some o) :
 Inv (Ef X (N0 ++ [px]) qual scope cl f c' A s H) [] (cT js σ v) H {s with heap:=h',toks:=tk}:=by
 have has:∀y,(scope.names.lookup y=some .cell\/scope.names.lookup y=some .free)->∃c,cl.lookup y=some c:=λy hy=>by
  rcases hy with hy|hy
  ·exact absurd rfl (hcell _ (PySem.mem_of_lookup hy))
  ·exact c3 _ (PySem.mem_of_lookup hy) rfl
 refine⟨⟨I.ok.mod,hk,rfl,rfl,Nat.le_refl _,λx y c e1 e2=>I.ok.inj x y c (c2 x c e1) (c2 y c e2),has,(λ_ _ z _=>absurd (show false=true from z) Bool.false_ne_true),λ_=>hhd,Around.frames_deeper hA,.inr ⟨rfl,rfl⟩,λb hb=>absurd hb (by simp[Ef]),
  I.bs,Nat.le_trans I.ok.Ay I.sz,λb _ _ hb=>absurd hb (by simp[Ef]),λb hb=>absurd hb (by simp[Ef]),I.stack,I.nC,I.tb⟩,rfl,I.bare,Un.kept kp,⟨_,hn,λi x w e1 e2 e3=>?_⟩,λx c e=>?_,I.hok.fresh (Nat.le_refl _),λx c e=>I.au x c (c2 x c e),λp hp=>absurd hp (by simp[Ef]),I.hok.kept kp,?_⟩
 ·by_cases hi:i<js.length
  ·have e1':N0[i]?=some x:=by
    have:=e1
    rwa [show(Ef X (N0 ++ [px]) qual scope cl f c' A s H).N=N0 ++ [px] from rfl,List.getElem?_append_left (by omega)] at this
   have e2':(cR js 0 σ)[i]?=some (some w):=by
    unfold cR
    unfold cT at e2
    rw[List.getElem?_append_left (by simpa using hi)] at e2 ⊢
    exact e2
   obtain⟨j,q1,q2,q0,q3⟩:=kI hcap e1' e2'
   obtain⟨m,hm,hl⟩:=I.loc
   have Xd:Ax X.env.scope x:=by
    rw[hsc]
    rcases q3 with q3|q3
    ·exact .inr (.inl q3)
    ·exact .inr (.inr q3)
   obtain⟨u',ru,lk⟩:=hl j x w q1 q2 Xd
   refine⟨u',ru,?_⟩
   rcases lk with⟨k1,_⟩|⟨k1,c,hc,ic⟩
   ·exfalso
    have k1':sc.names.lookup x=some .local:=by rw[<-hsc];exact k1
    rcases q3 with q3|q3<;>(rw[k1'] at q3;cases q3)
   ·obtain⟨d,hd⟩:=has x (.inr q0)
    have:d=c:=by
     have:=c2 x d hd
     rw[hc] at this
     exact(Option.some.inj this).symm
    subst this
    exact .inr ⟨.inr q0,d,hd,by
     obtain⟨o,ho,hd'⟩:=ic
     exact⟨o,kp _ _ ho,hd'⟩⟩
  ·have hi2:i=js.length:=by
    have l2:=(List.getElem?_eq_some_iff.mp e2).1
    unfold cT at l2
    simp at l2
    omega
   subst hi2
   unfold cT at e2
   rw[List.getElem?_append_right (by simp)] at e2
   have ev:v=w:=by simpa using e2
   subst ev
   have ex:px=x:=by
    have:=e1
    rw[show(Ef X (N0 ++ [px]) qual scope cl f c' A s H).N=N0 ++ [px] from rfl,List.getElem?_append_right (by omega),hlen] at this
    simpa using this
   subst ex
   exact⟨u,r,.inl ⟨hpx,by simp[List.lookup]⟩⟩
 ·obtain⟨w,o,ho,hd⟩:=I.cell x c (c2 x c e)
  exact⟨w,o,kp _ _ ho,hd⟩
 ·show _=(N0 ++ [px]).length
  unfold cT
  simp[hlen]
def Gb{te:TE}{pm ctv:Value}(hsc:X.env.scope=sc)(hk:scope.kind=.function)(hcap:cQ X sc scope N0 js)(hlen:js.length=N0.length)(hcell:∀y∈scope.names,y.2≠ .cell)(hpx:scope.names.lookup px=some .local)(hco:scope.isCoroutine=false)(hgen:scope.isGenerator=false)
 (hA:A.frames=some X.stack)(hhd:A.handled=none)(Xk:A.depth<recursionLimit)(c2:∀x c,cl.lookup x=some c->X.env.cells.lookup x=some c)(c3:∀y∈scope.names,y.2=.free->∃c,cl.lookup y.1=some c)
 (hbind:∀u:Value,bindArgs (PySem.W.kla_fn "<lambda>" qual params body scope cl pm (.ref c') ctv) ⟨[u],[]⟩=pure [(px,u)])
 (he:∀s H,PE (Ef X (N0 ++ [px]) qual scope cl f c' A s H) body te)
 (I:Inv X pins σ H s)(hf:s.heap.get? f=some (PySem.W.kla_obj "<lambda>" qual params body scope cl pm c' ctv))(hc:H c'=some (.Aw qual)){v:V}{u:Value}(r:RelV v u){Q:VK}{E:Value->Shared->Prop}(h:te (cT js σ v) H Q) :
 wpAny (model X.prog X.w) A (call (.ref f) [u]) (EP X pins σ Q) E s:=by
 refine wpAny_call (PySem.W.kla_callFunE Xk hf rfl hco hgen rfl (I.hok c' _ hc) ?_)
 rw[hbind u]
 refine wpAny_pure (wpAny_newFunctionEnv hcell (λy hy=>by rw[List.mem_singleton.mp hy];exact hpx) (λh₁ hns hsb=>⟨(I.nolimit).fresh _ hsb,?_⟩) hk)
 have kp:∀b o,s.heap.get? b=some o->h₁.get? b=some o:=λb o e=>hsb.extBut b o (Nat.ne_of_lt (Heap.lt_size e)) (Heap.get?_push_of_some _ e)
 have J:=Lz (qual:=qual) (f:=f) (c':=c') (tk:=s.toks + [(px,u)].length) hsc hk hcap hlen hcell hpx hA hhd c2 c3 I r hns kp
 show codeAny _ _ (.expr body (PySem.W.envX qual scope s.heap.objs.size f (.ref c') cl)) _ _
 refine PySem.W.kla_codeExpr (wpAny_mono (he s H [] _ _ H Q J h) (λy s' hy=>?_) λ_ _ z=>z.elim)
 obtain⟨w,H',J',rw',q⟩:=hy
 exact I.after ⟨w,H',J'.os,J'.bare,J'.base,J'.hok,rw',q⟩
end
section
variable{X:Cx}{pins:List (Addr×Obj)}{σ:L2.St}{H:Hp}{s:Shared}
def rH{fp:List Addr}{t:Sem Value}{A:Around}{Qv:V->Hp->Prop}{R:Value->Shared->Prop}(I:Inv X pins σ H s)(hf:∀b∈fp,b_ X pins H b)(ho:∀b∈fp,∃o,s.heap.get? b=some o/\∀v,o.data≠ .cell v)
 (run:∀aU,Inv X aU σ H s->wpAny (model X.prog X.w) A t (EP X aU σ Qv) (λ_ _=>False) s)
 (k:∀y u H2 s2,Inv X pins σ H2 s2->RelV y u->Qv y H2->(∀b∈fp,b_ X pins H2 b)->(∀b∈fp,∀o,s.heap.get? b=some o->s2.heap.get? b=some o)->R u s2):wpAny (model X.prog X.w) A t R (λ_ _=>False) s:=by
 refine wpAny_mono (run _ (I.pinned hf ho)) (λu s2 ⟨y,H2,I2,r,q⟩=>?_) λ_ _ z=>z
 refine k y u H2 s2 I2.cM r q (λb hb=>?_) λb hb o e=>(I2.pin (b,o) (List.mem_append_right _ (List.mem_append_right _ (Ŝ hb e)))).1
 obtain⟨o,e,_⟩:=ho b hb
 exact⟨(I2.pin (b,o) (List.mem_append_right _ (List.mem_append_right _ (Ŝ hb e)))).2.1,(hf b hb).2⟩
def ů{h':Heap}{t':Nat}{b:Addr}(I:Inv X pins σ H s)(hf:b_ X pins H b)(k:∀c o,c≠b->s.heap.get? c=some o->h'.get? c=some o):Inv X pins σ H {s with heap:=h',toks:=t'}:=
 let ⟨f0,f1,_,f3,f4,f5⟩:=hf
 I.turned k f0 f1 f3 f4 f5
variable{R:Result->Shared->Prop}{f l S It:Addr}{oF:Obj}{xs:List V}(ks:Nat->Int)(W:Nat->Hp->Prop)
def Bj{h:Heap}{l It:Addr}{its:Array Value}{i:Nat}(hl:h.IsList l its)(hit:h.IsListIter It l i):l≠It:=λz=>by
 obtain⟨o,e,c,_⟩:=hl
 obtain⟨o',e',c',_⟩:=hit
 rw[z,e'] at e
 cases e
 rw[c] at c'
 exact absurd (Value.type.inj c') (by decide)
def yV{h:Heap}{S It l:Addr}{vs:Array Value}{n i:Nat}(hS:h.get? S=some (seqObj "list" vs n))(hit:h.IsListIter It l i):S≠It:=λz=>by
 obtain⟨o',e',c',_⟩:=hit
 rw[z,e'] at hS
 cases hS
 exact absurd (Value.type.inj c') (by decide)
end
section
variable{X:Cx}{x px:Str}{c P:Addr}{params:Arguments}{body e:Expr}{scope:Scope}{p pos Dj kpos:Pos}{ta:TA}{te:TE}
end
end M5
namespace P
def nst:PySem.Expr->Bool
 | .Starred .. =>false
 |_=>true
def bF{e:PySem.Expr}{es:List PySem.Expr}{env:PySem.Env}(h:nst e=true):PySem.starEach (e::es) env=(false,PySem.eval e env)::PySem.starEach es env:=by
 cases e<;>first|rfl|cases h
open PySem PySem.Spec PyProof.Rows L2 M2
structure KK where
 K:PySem.W.Frag
 cm:String->Addr
abbrev kk(X:Cx)(cm:String->Addr):KK:=⟨X.K,cm⟩
inductive PV where
 |non|bl (b:Bool)|int (i:Int)|str (x:Str)|tup (xs:List PV)|lst (xs:List PV)
 |ins (C:String) (ns:List Str) (xs:List PV)|xc (C:String) (ns:List Str) (xs:List PV)|ty (n:String)|cls (C:String)
def xo(a C:Addr)(d:Option Addr):HO:=.ext λh=>∃o vs,h.get? a=some o/\o.cls=.ref C/\o.dict=d/\o.data=.fields vs
def lR(F:Hp)(d:Option Addr)(fs:List (Str×V)):Prop:=(d=none/\fs=[])\/∃a,d=some a/\F a=some (.xd fs)
mutual
def Rep(K:KK)(F:Hp):PV->V->Prop
 | .non,v=>v=.non
 | .bl b,v=>v=.bl b
 | .int i,v=>v=.int i
 | .str x,v=>v=.str x
 | .tup ps,v=>∃a xs,v=.ref a/\fC K.K F a xs/\Ĕ K F ps xs
 | .lst ps,v=>∃a xs,v=.ref a/\ū K.K F a xs/\Ĕ K F ps xs
 | .ins C ns ps,v=>∃a dx fs,v=.ref a/\F a=some (.ins (K.cm C) dx fs)/\fs.map (·.1)=ns/\Ĕ K F ps (fs.map (·.2))
 | .xc C ns ps,v=>∃a d fs,v=.ref a/\F a=some (xo a (K.cm C) d)/\lR F d fs/\fs.map (·.1)=ns/\Ĕ K F ps (fs.map (·.2))
 | .ty n,v=>v=.ty n
 | .cls C,v=>v=.ref (K.cm C)
def Ĕ(K:KK)(F:Hp):List PV->List V->Prop
 | [],xs=>xs=[]
 |p::ps,xs=>∃x r,xs=x::r/\Rep K F p x/\Ĕ K F ps r
end
section
variable{K:KK}{F F' H H':Hp}
def lR.same{d:Option Addr}{fs:List (Str×V)}(e:Same F F')(h:lR F d fs):lR F' d fs:=by
 rcases h with h|⟨a,h1,h2⟩
 ·exact .inl h
 ·exact .inr ⟨a,h1,e _ _ h2⟩
mutual
theorem Rep.same(e:Same F F'):∀(p:PV) (v:V),Rep K F p v->Rep K F' p v
 | .non,_,h=>by unfold Rep at h ⊢;exact h
 | .bl _,_,h=>by unfold Rep at h ⊢;exact h
 | .int _,_,h=>by unfold Rep at h ⊢;exact h
 | .str _,_,h=>by unfold Rep at h ⊢;exact h
 | .ty _,_,h=>by unfold Rep at h ⊢;exact h
 | .cls _,_,h=>by unfold Rep at h ⊢;exact h
 | .tup ps,_,h=>by
   unfold Rep at h ⊢
   obtain⟨a,xs,h1,h2,h3⟩:=h
   exact⟨a,xs,h1,Same.tup e h2,Ĕ.same e ps xs h3⟩
 | .lst ps,_,h=>by
   unfold Rep at h ⊢
   obtain⟨a,xs,h1,h2,h3⟩:=h
   exact⟨a,xs,h1,e.seq h2,Ĕ.same e ps xs h3⟩
 | .ins C ns ps,_,h=>by
   unfold Rep at h ⊢
   obtain⟨a,dx,fs,h1,h2,h3,h4⟩:=h
   exact⟨a,dx,fs,h1,e _ _ h2,h3,Ĕ.same e ps _ h4⟩
 | .xc C ns ps,_,h=>by
   unfold Rep at h ⊢
   obtain⟨a,d,fs,h1,h2,hd,h3,h4⟩:=h
   exact⟨a,d,fs,h1,e _ _ h2,hd.same e,h3,Ĕ.same e ps _ h4⟩
theorem Ĕ.same(e:Same F F'):∀(ps:List PV) (xs:List V),Ĕ K F ps xs->Ĕ K F' ps xs
 | [],_,h=>by unfold Ĕ at h ⊢;exact h
 |p::ps,_,h=>by
  unfold Ĕ at h ⊢
  obtain⟨x,r,h1,h2,h3⟩:=h
  exact⟨x,r,h1,Rep.same e p x h2,Ĕ.same e ps r h3⟩
end
theorem Ĕ.pr:∀{ps:List PV} {vs:List V},Ĕ K F ps vs->Paired (Rep K F) ps vs
 | [],_,h=>by unfold Ĕ at h;subst h;exact .nil
 |p::ps,_,h=>by
  unfold Ĕ at h
  obtain⟨x,r,rfl,h2,h3⟩:=h
  exact .cons h2 (Ĕ.pr h3)
theorem Ĕ.of:∀{ps:List PV} {vs:List V},Paired (Rep K F) ps vs->Ĕ K F ps vs
 | [],_,.nil=>by unfold Ĕ;rfl
 |p::ps,_,.cons h t=>by unfold Ĕ;exact⟨_,_,rfl,h,Ĕ.of t⟩
theorem Ĕ.nil:Ĕ K F [] []:=Ĕ.of .nil
theorem Ĕ.cons{p:PV}{v:V}{ps:List PV}{vs:List V}(h:Rep K F p v)(t:Ĕ K F ps vs):Ĕ K F (p::ps) (v::vs):=Ĕ.of (.cons h t.pr)
theorem Ĕ.length{ps:List PV}{vs:List V}(h:Ĕ K F ps vs):ps.length=vs.length:=Paired.length h.pr
theorem aV{α β:Type}{G:α->β->Prop}:∀{l:List α} {m:List β} {i:Nat} {x:α},Paired G l m->l[i]?=some x->∃y,m[i]?=some y/\G x y
 |_,_,_,_,.nil,e=>by simp at e
 |_,_,0,_,.cons r _,e=>by simp at e;subst e;exact⟨_,rfl,r⟩
 |_,_,i+1,x,.cons _ t,e=>by
  obtain⟨y,h1,h2⟩:=aV (i:=i) (x:=x) t (by simpa using e)
  exact⟨y,by simpa using h1,h2⟩
theorem yW{α β:Type}{G:α->β->Prop}:∀{l l2:List α} {m m2:List β},Paired G l m->Paired G l2 m2->Paired G (l++l2) (m++m2)
 |_,_,_,_,.nil,t=>t
 |_,_,_,_,.cons r s,t=>.cons r (yW s t)
theorem Bk{α β:Type}{G:α->β->Prop}:∀{l:List α} {m:List β} (n:Nat),Paired G l m->Paired G (l.take n) (m.take n)
 |_,_,0,_=>.nil
 |_,_,_+1,.nil=>.nil
 |_,_,n+1,.cons r t=>.cons r (Bk n t)
theorem Bl{α β:Type}{G:α->β->Prop}:∀{l:List α} {m:List β} (n:Nat),Paired G l m->Paired G (l.drop n) (m.drop n)
 |_,_,0,h=>h
 |_,_,_+1,.nil=>.nil
 |_,_,n+1,.cons _ t=>Bl n t
theorem Gd{α β:Type}{G:α->β->Prop}:∀{l:List α} {m:List β},Paired G l m->Paired G l.reverse m.reverse
 |_,_,.nil=>.nil
 |_,_,.cons r t=>by
  rw[List.reverse_cons,List.reverse_cons]
  exact yW (Gd t) (.cons r .nil)
def Ĕ.append{ps qs:List PV}{vs us:List V}(h:Ĕ K F ps vs)(t:Ĕ K F qs us):Ĕ K F (ps++qs) (vs++us):=Ĕ.of (yW h.pr t.pr)
end
inductive Slot where
 |no|sh (p:PV)|ow (ps:List PV)|bw (ps:List PV)|rc (C:String) (ns:List Str) (ps:List PV)|ot (ps qs:List PV)|ol (Eh:List (List PV))
abbrev Ĺ:=List Slot
def Slot.own:Slot->Bool
 | .ow _=>true
 | .rc _ _ _=>true
 | .ot _ _=>true
 | .ol _=>true
 |_=>false
structure Ctx where
 B:Hp
 F₀:Hp
 /-- what is lent here:read,never changed,never kept -/
 L:Hp
 /-- which objects may be held as one's own:address,dict,class -/
 S:Addr->Addr->String->Prop
def Ũ(K:KK)(c:Ctx)(F H:Hp)(o:Option V):Slot->Prop
 | .no=>True
 | .sh p=>∃v,o=some v/\Rep K F p v
 | .ow ps=>∃a vs,o=some (.ref a)/\H a=some (.lst vs)/\F a=none/\c.B a=none/\Ĕ K F ps vs
 | .bw ps=>∃a vs,o=some (.ref a)/\c.L a=some (.lst vs)/\Ĕ K F ps vs
 | .rc C ns ps=>∃a dx fs,o=some (.ref a)/\H a=some (.ins (K.cm C) dx fs)/\F a=none/\c.B a=none/\fs.map (·.1)=ns/\Ĕ K F ps (fs.map (·.2))/\c.S a dx C
 | .ot ps qs=>∃p a xs vs,o=some (.ref p)/\F p=some (.tup (xs ++ [.ref a]))/\Ĕ K F ps xs/\H a=some (.lst vs)/\F a=none/\c.B a=none/\Ĕ K F qs vs
 | .ol Eh=>∃(p:Addr) (as:List Addr),o=some (.ref p)/\F p=some (.lst (as.map V.ref))/\as.Nodup/\Paired (λ(a:Addr) (ps:List PV)=>∃vs,H a=some (.lst vs)/\F a=none/\c.B a=none/\Ĕ K F ps vs) as Eh
def Slot.at_(F:Hp)(x:V)(a:Addr):Slot->Prop
 | .ot _ _=>∃p xs,x=.ref p/\F p=some (.tup (xs ++ [.ref a]))
 | .ol _=>∃(p:Addr) (as:List Addr),x=.ref p/\F p=some (.lst (as.map V.ref))/\a∈as
 | .ow _=>x=.ref a
 | .rc _ _ _=>x=.ref a
 |_=>False
def ļ(F:Hp)(σ:L2.St)(ρ:Ĺ)(i:Nat)(a:Addr):Prop:=∃s x,ρ[i]?=some s/\σ[i]?=some (some x)/\s.at_ F x a
structure Rel(K:KK)(c:Ctx)(F H:Hp)(σ:L2.St)(ρ:Ĺ):Prop where
 sub:Same F H
 base:Same c.B H
 f0:Same c.F₀ F
 bY:∀a,c.B a≠none->c.F₀ a=none->F a=none
 lent:∀a u,c.L a=some u->H a=some u/\F a=none
 lb:∀a,c.B a=none->c.L a=none
 len:σ.length=ρ.length
 slot:∀(i:Nat) s,ρ[i]?=some s->Ũ K c F H ((σ[i]?).getD none) s
 sep:∀i j a,ļ F σ ρ i a->ļ F σ ρ j a->i=j
def lU(F:Hp)(σ:L2.St)(ρ:Ĺ)(a:Addr):Prop:=∀i,¬ļ F σ ρ i a
section
variable{K:KK}{c:Ctx}{F F' H H':Hp}{σ:L2.St}{ρ:Ĺ}{a:Addr}{o:HO}
def fV{s:Slot}{x:V}(h:s.at_ F x a):s.own=true:=by
 cases s<;>first|rfl|exact h.elim
theorem oG:∀{as bs:List Addr},as.map V.ref=bs.map V.ref->as=bs
 | [],[],_=>rfl
 | [],_::_,h=>by cases h
 |_::_,[],h=>by cases h
 |a::as,b::bs,h=>by
  injection h with h1 h2
  injection h1 with h1
  rw[h1,oG h2]
def nM{ps qs:List PV}{x:V}{b:Addr}(h:(Slot.ot ps qs).at_ F x a)(h':(Slot.ot ps qs).at_ F x b):a=b:=by
 obtain⟨p,xs,h1,h2⟩:=h
 obtain⟨q,ys,h3,h4⟩:=h'
 rw[h1] at h3
 cases h3
 rw[h2] at h4
 have e:xs ++ [V.ref a]=ys ++ [V.ref b]:=by
  injection h4 with h4
  injection h4
 have e2:=congrArg List.getLast? e
 simp at e2
 exact e2
theorem Ge{α β:Type}{G:α->β->Prop}:∀{l:List α} {m:List β} {x:α},Paired G l m->x∈l->∃y,y∈m/\G x y
 |_,_,_,.nil,h=>by simp at h
 |_,_,x,.cons r t,h=>by
  rcases List.mem_cons.mp h with rfl|h
  ·exact⟨_,List.mem_cons_self,r⟩
  ·obtain⟨y,h1,h2⟩:=Ge t h
   exact⟨y,List.mem_cons_of_mem _ h1,h2⟩
theorem Gf{α β:Type}{G G':α->β->Prop}:∀{l:List α} {m:List β},Paired G l m->(∀x y,x∈l->G x y->G' x y)->Paired G' l m
 |_,_,.nil,_=>.nil
 |_,_,.cons r t,h=>.cons (h _ _ List.mem_cons_self r) (Gf t λx y hx=>h x y (List.mem_cons_of_mem _ hx))
def Ũ.grow{s:Slot}{x:Option V}(h:Ũ K c F H x s)(eF:Same F F')(eH:∀b vs,(∃y,x=some y/\s.at_ F y b)->H b=some vs->F b=none->c.B b=none->H' b=some vs/\F' b=none):Ũ K c F' H' x s:=by
 cases s with
 |no=>trivial
 |sh p=>obtain⟨v,h1,h2⟩:=h;exact⟨v,h1,h2.same eF p v⟩
 |ow ps=>
  obtain⟨b,vs,h1,h2,h3,h4,h5⟩:=h
  obtain⟨e1,e2⟩:=eH b _ ⟨_,h1,rfl⟩ h2 h3 h4
  exact⟨b,vs,h1,e1,e2,h4,h5.same eF ps vs⟩
 |bw ps=>obtain⟨b,vs,h1,h2,h3⟩:=h;exact⟨b,vs,h1,h2,h3.same eF ps vs⟩
 |rc C ns ps=>
  obtain⟨b,dx,fs,h1,h2,h3,h4,h5,h6⟩:=h
  obtain⟨e1,e2⟩:=eH b _ ⟨_,h1,rfl⟩ h2 h3 h4
  exact⟨b,dx,fs,h1,e1,e2,h4,h5,h6.1.same eF ps _,h6.2⟩
 |ot ps qs=>
  obtain⟨p,b,xs,vs,h1,h2,h3,h4,h5,h6,h7⟩:=h
  obtain⟨e1,e2⟩:=eH b _ ⟨_,h1,p,xs,rfl,h2⟩ h4 h5 h6
  exact⟨p,b,xs,vs,h1,eF _ _ h2,h3.same eF ps xs,e1,e2,h6,h7.same eF qs vs⟩
 |ol Eh=>
  obtain⟨p,as,h1,h2,h3,h4⟩:=h
  refine⟨p,as,h1,eF _ _ h2,h3,Gf h4 λb ps hb ⟨vs,k1,k2,k3,k4⟩=>?_⟩
  obtain⟨e1,e2⟩:=eH b _ ⟨_,h1,p,as,rfl,h2,hb⟩ k1 k2 k3
  exact⟨vs,e1,e2,k3,k4.same eF ps vs⟩
def Ũ.owned{s:Slot}{y:V}(h:Ũ K c F H (some y) s)(ha:s.at_ F y a):∃u,H a=some u/\F a=none/\c.B a=none:=by
 cases s with
 |no=>exact ha.elim
 |sh p=>exact ha.elim
 |bw ps=>exact ha.elim
 |ow ps=>
  obtain⟨b,vs,h1,h2,h3,h4,h5⟩:=h
  rw[show y=.ref a from ha] at h1
  cases h1
  exact⟨_,h2,h3,h4⟩
 |rc C ns ps=>
  obtain⟨b,dx,fs,h1,h2,h3,h4,h5,h6⟩:=h
  rw[show y=.ref a from ha] at h1
  cases h1
  exact⟨_,h2,h3,h4⟩
 |ot ps qs=>
  obtain⟨p,b,xs,vs,h1,h2,h3,h4,h5,h6,h7⟩:=h
  cases h1
  cases nM (ps:=ps) (qs:=qs) ha ⟨p,xs,rfl,h2⟩
  exact⟨_,h4,h5,h6⟩
 |ol Eh=>
  obtain⟨p,as,h1,h2,h3,h4⟩:=h
  cases h1
  obtain⟨q,bs,e1,e2,e3⟩:=ha
  cases e1
  rw[h2] at e2
  have e:as=bs:=oG (by injection e2 with e2;injection e2)
  subst e
  obtain⟨ps,_,vs,k1,k2,k3,_⟩:=Ge h4 e3
  exact⟨_,k1,k2,k3⟩
def Ũ.back{s:Slot}{y:V}(h:Ũ K c F H (some y) s)(e:Same F F')(ha:s.at_ F' y a):s.at_ F y a:=by
 cases s with
 |ot ps qs=>
  obtain⟨p,b,xs,vs,h1,h2,h3,h4,h5,h6,h7⟩:=h
  cases h1
  cases nM (ps:=ps) (qs:=qs) ha ⟨p,xs,rfl,e _ _ h2⟩
  exact⟨p,xs,rfl,h2⟩
 |ol Eh=>
  obtain⟨p,as,h1,h2,h3,h4⟩:=h
  cases h1
  obtain⟨q,bs,e1,e2,e3⟩:=ha
  cases e1
  rw[e _ _ h2] at e2
  have z:as=bs:=oG (by injection e2 with e2;injection e2)
  subst z
  exact⟨p,as,rfl,h2,e3⟩
 |_=>exact ha
def Gg{i:Nat}{x:V}(e:σ[i]?=some (some x)):(σ[i]?).getD none=some x:=by rw[e];rfl
def Gh{i:Nat}{x:V}(e:(σ[i]?).getD none=some x):σ[i]?=some (some x):=by
 cases q:σ[i]? with
 |none=>rw[q] at e;cases e
 |some y=>rw[q] at e;exact congrArg some e
theorem Rel.owned(r:Rel K c F H σ ρ){i:Nat}(h:ļ F σ ρ i a):(∃u,H a=some u)/\F a=none/\c.B a=none:=by
 obtain⟨s,x,h1,h2,h3⟩:=h
 have q:=r.slot i s h1
 rw[Gg h2] at q
 obtain⟨u,q⟩:=q.owned h3
 exact⟨⟨u,q.1⟩,q.2⟩
theorem Rel.back(r:Rel K c F H σ ρ)(e:Same F F'){i:Nat}(h:ļ F' σ ρ i a):ļ F σ ρ i a:=by
 obtain⟨s,x,h1,h2,h3⟩:=h
 have q:=r.slot i s h1
 rw[Gg h2] at q
 exact⟨s,x,h1,h2,q.back e h3⟩
def Rel.Xl(r:Rel K c F H σ ρ)(e:Same F F'):∀i j a,ļ F' σ ρ i a->ļ F' σ ρ j a->i=j:=λi j a h1 h2=>r.sep i j a (r.back e h1) (r.back e h2)
def Rel.tX(r:Rel K c F H σ ρ)(e:Same F F')(h:lU F σ ρ a):lU F' σ ρ a:=λi q=>h i (r.back e q)
def Rel.fresh(r:Rel K c F H σ ρ)(h:H a=none):lU F σ ρ a:=λi q=>by
 obtain⟨⟨u,e⟩,_⟩:=r.owned q
 rw[h] at e;cases e
def Rel.alloc(r:Rel K c F H σ ρ)(h:H a=none):Rel K c (upd F a o) (upd H a o) σ ρ where
 sub:=λb u e=>by
  by_cases hb:b=a
  ·subst hb;rw[Ğ] at e ⊢;exact e
  ·rw[ċ hb] at e ⊢;exact r.sub b u e
 base:=λb u e=>by
  have hb:b≠a:=λz=>by rw[z] at e;rw[r.base _ _ e] at h;cases h
  rw[ċ hb];exact r.base b u e
 f0:=fun b u e=>by
   have hb:b≠a:=λz=>by rw[z] at e;rw[r.sub _ _ (r.f0 _ _ e)] at h;cases h
   rw[ċ hb];exact r.f0 b u e
 bY:=λb h1 h2=>by
  have hb:b≠a:=λz=>by
   subst z
   cases q:c.B b with
   |none=>exact h1 q
   |some u=>rw[r.base _ _ q] at h;cases h
  rw[ċ hb];exact r.bY b h1 h2
 lent:=λb u e=>by
  obtain⟨h1,h2⟩:=r.lent b u e
  have hb:b≠a:=λz=>by rw[z,h] at h1;cases h1
  rw[ċ hb,ċ hb];exact⟨h1,h2⟩
 lb:=r.lb
 len:=r.len
 slot:=λi s e=>by
  have hF:F a=none:=r.sub.free h
  refine(r.slot i s e).grow (Same.upd hF) λb u _ h1 h2 h3=>?_
  have hb:b≠a:=λz=>by rw[z,h] at h1;cases h1
  rw[ċ hb,ċ hb];exact⟨h1,h2⟩
 sep:=r.Xl (Same.upd (r.sub.free h))
def Rel.made(r:Rel K c F H σ ρ)(h:H a=none):Rel K c F (upd H a o) σ ρ where
 sub:=r.sub.trans (Same.upd h)
 base:=r.base.trans (Same.upd h)
 f0:=r.f0
 bY:=r.bY
 lent:=λb u e=>⟨Same.upd h b u (r.lent b u e).1,(r.lent b u e).2⟩
 lb:=r.lb
 len:=r.len
 slot:=λi s e=>(r.slot i s e).grow (Same.refl F) λb u _ h1 h2 h3=>⟨Same.upd h b u h1,h2⟩
 sep:=r.sep
def Rel.freeze(r:Rel K c F H σ ρ)(h:H a=some o)(hB:c.B a=none)(hF:F a=none)(hf:lU F σ ρ a):Rel K c (upd F a o) H σ ρ where
 sub:=λb u e=>by
  by_cases hb:b=a
  ·subst hb;rw[Ğ] at e;rw[h];exact e
  ·rw[ċ hb] at e;exact r.sub b u e
 base:=r.base
 f0:=r.f0.trans (Same.upd hF)
 bY:=λb h1 h2=>by
  have hb:b≠a:=λz=>h1 (by rw[z];exact hB)
  rw[ċ hb];exact r.bY b h1 h2
 lent:=λb u e=>by
  have hb:b≠a:=λz=>by rw[z,r.lb a hB] at e;cases e
  rw[ċ hb];exact r.lent b u e
 lb:=r.lb
 len:=r.len
 slot:=λi s e=>(r.slot i s e).grow (Same.upd hF) λb' u' ⟨y,e1',ha⟩ h1 h2 h3=>by
  have hb:b'≠a:=λz=>by
   subst z
   exact hf i ⟨s,y,e,Gh e1',ha⟩
  rw[ċ hb];exact⟨h1,h2⟩
 sep:=r.Xl (Same.upd hF)
def Ţ{α:Type}{l:List α}{i j:Nat}{x y:α}(h:(l.set i x)[j]?=some y):(j=i/\y=x/\i<l.length)\/(j≠i/\l[j]?=some y):=by
 by_cases hj:j=i
 ·subst hj
  have hl:j<l.length:=by
   have:=(List.getElem?_eq_some_iff.mp h).1
   simpa using this
  rw[List.getElem?_set_self hl] at h
  exact .inl ⟨rfl,(Option.some.inj h).symm,hl⟩
 ·rw[List.getElem?_set_ne (Ne.symm hj)] at h
  exact .inr ⟨hj,h⟩
def Gi{l:L2.St}{i:Nat}{x:Option V}(h:i<l.length):((l.set i x)[i]?).getD none=x:=by rw[List.getElem?_set_self h];rfl
def Bm{l:L2.St}{i j:Nat}{x:Option V}(h:j≠i):((l.set i x)[j]?).getD none=(l[j]?).getD none:=by rw[List.getElem?_set_ne (Ne.symm h)]
def ļ.off{i j:Nat}{x:Option V}{s:Slot}(h:ļ F (σ.set i x) (ρ.set i s) j a)(hj:j≠i):ļ F σ ρ j a:=by
 obtain⟨s',y,h1,h2,h3⟩:=h
 rw[List.getElem?_set_ne (Ne.symm hj)] at h1 h2
 exact⟨s',y,h1,h2,h3⟩
def Rel.put(r:Rel K c F H σ ρ){i:Nat}{x:Option V}{s:Slot}(hs:s.own=false)(h:Ũ K c F H x s):Rel K c F H (σ.set i x) (ρ.set i s) where
 sub:=r.sub
 base:=r.base
 f0:=r.f0
 bY:=r.bY
 lent:=r.lent
 lb:=r.lb
 len:=by simpa using r.len
 slot:=λj s' e=>by
  rcases Ţ e with⟨rfl,rfl,hl⟩|⟨hj,e⟩
  ·rw[Gi (by rw[r.len];exact hl)];exact h
  ·rw[Bm hj];exact r.slot j s' e
 sep:=λj k b h1 h2=>by
  have off:∀{j},ļ F (σ.set i x) (ρ.set i s) j b->j≠i:=fun{j} q z=>by
   subst z
   obtain⟨s',y,q1,_,q2⟩:=q
   rcases Ţ q1 with⟨_,rfl,_⟩|⟨q,_⟩
   ·have:=fV q2;rw[hs] at this;cases this
   ·exact q rfl
  exact r.sep j k b (h1.off (off h1)) (h2.off (off h2))
def Rel.Ox(r:Rel K c F H σ ρ){i:Nat}{s:Slot}(hs:s.own=false)(h:Ũ K c F H ((σ[i]?).getD none) s):Rel K c F H σ (ρ.set i s) where
 sub:=r.sub
 base:=r.base
 f0:=r.f0
 bY:=r.bY
 lent:=r.lent
 lb:=r.lb
 len:=by simpa using r.len
 slot:=λj s' e=>by
  rcases Ţ e with⟨rfl,rfl,hl⟩|⟨hj,e⟩
  ·exact h
  ·exact r.slot j s' e
 sep:=λj k b h1 h2=>by
  have off:∀{j},ļ F σ (ρ.set i s) j b->ļ F σ ρ j b:=fun{j} ⟨s',y,q1,q3,q2⟩=>by
   rcases Ţ q1 with⟨_,rfl,_⟩|⟨_,q⟩
   ·have:=fV q2;rw[hs] at this;cases this
   ·exact⟨s',y,q,q3,q2⟩
  exact r.sep j k b (off h1) (off h2)
def Rel.LC(r:Rel K c F H σ ρ){i:Nat}{x:V}{s:Slot}(h:Ũ K c F H (some x) s)(hf:∀a,s.at_ F x a->lU F σ ρ a):Rel K c F H (σ.set i (some x)) (ρ.set i s) where
 sub:=r.sub
 base:=r.base
 f0:=r.f0
 bY:=r.bY
 lent:=r.lent
 lb:=r.lb
 len:=by simpa using r.len
 slot:=λj s' e=>by
  rcases Ţ e with⟨rfl,rfl,hl⟩|⟨hj,e⟩
  ·rw[Gi (by rw[r.len];exact hl)];exact h
  ·rw[Bm hj];exact r.slot j s' e
 sep:=λj k b h1 h2=>by
  have Xm:∀{j},ļ F (σ.set i (some x)) (ρ.set i s) j b->(j=i/\s.at_ F x b)\/(j≠i/\ļ F σ ρ j b):=fun{j} q=>by
   by_cases hj:j=i
   ·subst hj
    obtain⟨s',y,q1,q2,q3⟩:=q
    rcases Ţ q2 with⟨_,e,_⟩|⟨z,_⟩
    ·cases e
     rcases Ţ q1 with⟨_,e,_⟩|⟨z,_⟩
     ·cases e
      exact .inl ⟨rfl,q3⟩
     ·exact absurd rfl z
    ·exact absurd rfl z
   ·exact .inr ⟨hj,q.off hj⟩
  rcases Xm h1 with⟨e1,z1⟩|⟨e1,o1⟩
  ·rcases Xm h2 with⟨e2,z2⟩|⟨e2,o2⟩
   ·rw[e1,e2]
   ·exact absurd o2 (hf b z1 k)
  ·rcases Xm h2 with⟨e2,z2⟩|⟨e2,o2⟩
   ·exact absurd o1 (hf b z2 j)
   ·exact r.sep j k b o1 o2
def Rel.Xn(r:Rel K c F H σ ρ){i:Nat}{s:Slot}(ho:ļ F σ ρ i a)(h:Ũ K c F (upd H a o) ((σ[i]?).getD none) s)(hs:∀x b,σ[i]?=some (some x)->s.at_ F x b->ļ F σ ρ i b):Rel K c F (upd H a o) σ (ρ.set i s) where
 sub:=λb u e=>by
  have hb:b≠a:=λz=>by rw[z,(r.owned ho).2.1] at e;cases e
  rw[ċ hb];exact r.sub b u e
 base:=λb u e=>by
  have hb:b≠a:=λz=>by rw[z,(r.owned ho).2.2] at e;cases e
  rw[ċ hb];exact r.base b u e
 f0:=r.f0
 bY:=r.bY
 lent:=λb u e=>by
  have hb:b≠a:=λz=>by rw[z,r.lb a (r.owned ho).2.2] at e;cases e
  rw[ċ hb];exact r.lent b u e
 lb:=r.lb
 len:=by simpa using r.len
 slot:=λj s' e=>by
  rcases Ţ e with⟨rfl,rfl,hl⟩|⟨hj,e⟩
  ·exact h
  ·refine(r.slot j s' e).grow (Same.refl F) λb u ⟨y,e1,e2⟩ h1 h2 h3=>?_
   have hb:b≠a:=λz=>by
    subst z
    exact hj (r.sep j i b ⟨s',y,e,Gh e1,e2⟩ ho)
   exact⟨by rw[ċ hb];exact h1,h2⟩
 sep:=λj k b h1 h2=>by
  have off:∀{j},ļ F σ (ρ.set i s) j b->ļ F σ ρ j b:=fun{j} ⟨s',y,q1,q3,q2⟩=>by
   rcases Ţ q1 with⟨e,rfl,_⟩|⟨_,q⟩
   ·subst e
    exact hs y b q3 q2
   ·exact⟨s',y,q,q3,q2⟩
  exact r.sep j k b (off h1) (off h2)
def Rel.write(r:Rel K c F H σ ρ){i:Nat}{s:Slot}(ho:ļ F σ ρ i a)(hx:σ[i]?=some (some (.ref a)))(h:Ũ K c F (upd H a o) (some (.ref a)) s)(hs:∀b,s.at_ F (.ref a) b->b=a):Rel K c F (upd H a o) σ (ρ.set i s):=
 r.Xn ho (by rw[hx];exact h) λx b e q=>by rw[hx] at e;cases e;rw[hs b q];exact ho
structure Gr(F H F' H':Hp):Prop where
 h:Same H H'
 f:Same F F'
 sub:Same F' H'
 out:∀a,H a≠none->F a=none->F' a=none
def Rel.call(r:Rel K c F H σ ρ)(g:Gr F H F' H'):Rel K c F' H' σ ρ where
 sub:=g.sub
 base:=r.base.trans g.h
 f0:=r.f0.trans g.f
 bY:=λb h1 h2=>by
  refine g.out b (λz=>h1 ?_) (r.bY b h1 h2)
  cases q:c.B b with
  |none=>rfl
  |some u=>rw[r.base _ _ q] at z;cases z
 lent:=λb u e=>⟨g.h b u (r.lent b u e).1,g.out b (by rw[(r.lent b u e).1];intro z;cases z) (r.lent b u e).2⟩
 lb:=r.lb
 len:=r.len
 slot:=λi s e=>(r.slot i s e).grow g.f λb u _ h1 h2 h3=>⟨g.h b u h1,g.out b (by rw[h1];intro z;cases z) h2⟩
 sep:=r.Xl g.f
def ctx0(F H:Hp):Ctx:=⟨H,F,λa=>match F a with
 |none=>H a
 |some _=>none,λ_ _ _=>True⟩
def cu{a:Addr}{u:HO}(h:(ctx0 F H).L a=some u):H a=some u/\F a=none:=by
 unfold ctx0 at h
 dsimp only at h
 cases q:F a with
 |none=>rw[q] at h;exact⟨h,rfl⟩
 |some o=>rw[q] at h;cases h
def Rel.gr(r:Rel K (ctx0 F H) F' H' σ ρ):Gr F H F' H':=⟨r.base,r.f0,r.sub,r.bY⟩
def aW(K:KK)(F H:Hp):Slot->V->Prop
 | .sh p,v=>Rep K F p v
 | .bw ps,v=>∃a vs,v=.ref a/\H a=some (.lst vs)/\F a=none/\Ĕ K F ps vs
 |_,_=>False
def aW.slot{s:Slot}{v:V}(h:aW K F H s v):Ũ K (ctx0 F H) F H (some v) s/\s.own=false:=by
 cases s with
 |sh p=>exact⟨⟨v,rfl,h⟩,rfl⟩
 |bw ps=>
  obtain⟨a,vs,rfl,h1,h2,h3⟩:=h
  refine⟨⟨a,vs,rfl,?_,h3⟩,rfl⟩
  show(match F a with|none=>H a|some _=>none)=_
  rw[h2]
  exact h1
 |no=>exact h.elim
 |ow ps=>exact h.elim
 |rc C ns ps=>exact h.elim
 |ot ps qs=>exact h.elim
 |ol Eh=>exact h.elim
def startP(n:Nat)(as:List Slot):Ĺ:=as++List.replicate (n-as.length) .no
theorem Rel.start{N:List Str}{as:List Slot}{vs:List V}(s:Same F H)(h:Paired (aW K F H) as vs):Rel K (ctx0 F H) F H (L2.start N vs) (startP N.length as) where
 sub:=s
 base:=Same.refl H
 f0:=Same.refl F
 bY:=λ_ _ h=>h
 lent:=λ_ _ e=>cu e
 lb:=fun a e=>by
   cases q:(ctx0 F H).L a with
   |none=>rfl
   |some u=>
    have e':H a=none:=e
    rw[(cu q).1] at e'
    cases e'
 len:=by unfold L2.start startP;simp[Paired.length h]
 slot:=λi s' e=>by
  unfold startP at e
  by_cases hi:i<as.length
  ·rw[List.getElem?_append_left hi] at e
   obtain⟨v,h1,h2⟩:=aV h e
   have hv:((L2.start N vs)[i]?).getD none=some v:=by
    unfold L2.start
    rw[List.getElem?_append_left (by simpa[<-Paired.length h] using hi),List.getElem?_map,h1];rfl
   rw[hv]
   exact(aW.slot h2).1
  ·rw[List.getElem?_append_right (by omega),List.getElem?_replicate] at e
   split at e
   ·cases e;trivial
   ·cases e
 sep:=λi j a h1 _=>by
  obtain⟨s',y,h1,_,h2⟩:=h1
  have h2:=fV h2
  exfalso
  unfold startP at h1
  by_cases hi:i<as.length
  ·rw[List.getElem?_append_left hi] at h1
   obtain⟨v,_,h3⟩:=aV h h1
   rw[(aW.slot h3).2] at h2
   cases h2
  ·rw[List.getElem?_append_right (by omega),List.getElem?_replicate] at h1
   split at h1
   ·cases h1;cases h2
   ·cases h1
end
structure PX where
 C:String
 ns:List Str
 ps:List PV
def Dk(K:KK)(F:Hp)(x:PX)(C:Value)(d:Option Addr):Prop:=C=.ref (K.cm x.C)/\∃fs,lR F d fs/\fs.map (·.1)=x.ns/\Ĕ K F x.ps (fs.map (·.2))
inductive Res(α:Type) where
 |ok (a:α) (ρ:Ĺ)|exc (x:PX) (ρ:Ĺ)|bad
def Res.bind{α β:Type}(r:Res α)(f:α->Ĺ->Res β):Res β:= match r with
 | .ok a ρ=>f a ρ
 | .exc x ρ=>.exc x ρ
 | .bad=>.bad
@[simp] theorem Res.aq{α β:Type}{a:α}{ρ:Ĺ}{f:α->Ĺ->Res β}:(Res.ok a ρ).bind f=f a ρ:= rfl
@[simp] theorem Res.Zbx{α β:Type}{x:PX}{ρ:Ĺ}{f:α->Ĺ->Res β}:(Res.exc x ρ:Res α).bind f=.exc x ρ:= rfl
@[simp] theorem Res.Zby{α β:Type}{f:α->Ĺ->Res β}:(Res.bad:Res α).bind f=.bad:=rfl
def Res.nO{α:Type}(o:Option α)(ρ:Ĺ):Res α:= match o with
 |some a=>.ok a ρ
 |none=>.bad
@[simp] theorem Res.Zbz{α:Type}{a:α}{ρ:Ĺ}:Res.nO (some a) ρ=.ok a ρ:= rfl
@[simp] theorem Res.ZbA{α:Type}{ρ:Ĺ}:Res.nO (none:Option α) ρ=.bad:=rfl
abbrev M(α:Type):=Ĺ->Res α
inductive RV where
 |sh (p:PV)|ow (ps:List PV)|ot (ps qs:List PV)
def RV.val:RV->PV
 | .sh p=>p
 | .ow ps=>.lst ps
 | .ot ps qs=>.tup (ps ++ [.lst qs])
def RV.slot:RV->Slot
 | .sh p=>.sh p
 | .ow ps=>.ow ps
 | .ot ps qs=>.ot ps qs
abbrev RR(α β:Type):=Ctx->L2.St->Ĺ->Hp->Hp->α->β->Prop
def rV(K:KK):RR PV V:=λ_ _ _ F _ p v=>Rep K F p v
def Bo(K:KK)(F H:Hp)(p:PV)(v:V):Prop:=match p with
 | .lst ps=>∃a vs,v=.ref a/\H a=some (.lst vs)/\Ĕ K F ps vs
 | .ins C ns ps=>∃a dx fs,v=.ref a/\H a=some (.ins (K.cm C) dx fs)/\fs.map (·.1)=ns/\Ĕ K F ps (fs.map (·.2))
 |_=>False
def rR(K:KK):RR PV V:=λ_ _ _ F H p v=>Rep K F p v\/Bo K F H p v
def rA(K:KK):RR (List Slot) (List V):=λ_ _ _ F H as vs=>Paired (aW K F H) as vs
def Held(K:KK)(c:Ctx)(σ:L2.St)(ρ:Ĺ)(F H:Hp)(ps:List PV)(v:V):Prop:=∃a vs,v=.ref a/\H a=some (.lst vs)/\F a=none/\c.B a=none/\lU F σ ρ a/\Ĕ K F ps vs
def Bp(K:KK)(c:Ctx)(σ:L2.St)(ρ:Ĺ)(F H:Hp)(ps qs:List PV)(v:V):Prop:=∃p a xs vs,v=.ref p/\F p=some (.tup (xs ++ [.ref a]))/\Ĕ K F ps xs/\H a=some (.lst vs)/\F a=none/\c.B a=none/\lU F σ ρ a/\Ĕ K F qs vs
def rO(K:KK):RR RV V:=λc σ ρ F H r v=>match r with
 | .sh p=>Rep K F p v
 | .ow ps=>Held K c σ ρ F H ps v
 | .ot ps qs=>Bp K c σ ρ F H ps qs v
def rL(K:KK):RR (List PV) (List V):=λ_ _ _ F _ p v=>Ĕ K F p v
def rRL(K:KK):RR (List PV) (List V):=λc σ ρ F H p v=>Paired (rR K c σ ρ F H) p v
def rB:RR Bool Bool:=λ_ _ _ _ _ p v=>p=v
def rI:RR (Option Int) (Option Int):=λ_ _ _ _ _ p v=>p=v
def aj{α β:Type}(K:KK)(E:L2.St->XK)(R:RR α β)(c:Ctx)(F H:Hp)(σ:L2.St)(Q:β->Hp->Prop):Res α->Prop
 | .ok p ρ'=>∀v F' H',Rel K c F' H' σ ρ'->Same F F'->Same H H'->R c σ ρ' F' H' p v->Q v H'
 | .exc x ρ'=>∀C d F' H',Rel K c F' H' σ ρ'->Same F F'->Dk K F' x C d->E σ C d H'
 | .bad=>False
def tG{α β:Type}(K:KK)(E:L2.St->XK)(R:RR α β)(m:M α):L2.St->Hp->(β->Hp->Prop)->Prop:=λσ H Q=>∃c F ρ,Rel K c F H σ ρ/\aj K E R c F H σ Q (m ρ)
section
variable{α β α' β':Type}{K:KK}{E:L2.St->XK}{R:RR α β}{R':RR α' β'}{c:Ctx}{F F1 H H1:Hp}{σ:L2.St}
def aj.mono{Q:β->Hp->Prop}{r:Res α}(h:aj K E R c F H σ Q r)(sF:Same F F1)(sH:Same H H1):aj K E R c F1 H1 σ Q r:=by
 cases r with
 |ok p ρ'=>exact λv F' H' rel s1 s2 q=>h v F' H' rel (sF.trans s1) (sH.trans s2) q
 |exc x ρ'=>exact λC d F' H' rel s1 q=>h C d F' H' rel (sF.trans s1) q
 |bad=>exact h
theorem aj.bind{Q:β->Hp->Prop}{Q':β'->Hp->Prop}{r:Res α}{f:α->Ĺ->Res α'}(h:aj K E R' c F H σ Q' (r.bind f))
 (k:∀p ρ1 v F1 H1,Rel K c F1 H1 σ ρ1->Same F F1->Same H H1->R c σ ρ1 F1 H1 p v->aj K E R' c F1 H1 σ Q' (f p ρ1)->Q v H1):aj K E R c F H σ Q r:=by
 cases r with
 |ok p ρ'=>exact λv F' H' rel s1 s2 q=>k p ρ' v F' H' rel s1 s2 q (aj.mono (show aj K E R' c F H σ Q' (f p ρ') from h) s1 s2)
 |exc x ρ'=>exact h
 |bad=>exact h
theorem aj.rel{R2:RR α β}{Q:β->Hp->Prop}{r:Res α}(h:aj K E R c F H σ Q r)(k:∀p ρ' v F' H',Rel K c F' H' σ ρ'->R2 c σ ρ' F' H' p v->R c σ ρ' F' H' p v):aj K E R2 c F H σ Q r:=by
 cases r with
 |ok p ρ'=>exact λv F' H' rel s1 s2 q=>h v F' H' rel s1 s2 (k p ρ' v F' H' rel q)
 |exc x ρ'=>exact h
 |bad=>exact h
end
abbrev tV(K:KK)(E:L2.St->XK)(m:M PV):TE:=tG K E (rV K) m
abbrev tR(K:KK)(E:L2.St->XK)(m:M PV):TE:=tG K E (rR K) m
abbrev tO(K:KK)(E:L2.St->XK)(m:M RV):TE:=tG K E (rO K) m
abbrev tL(K:KK)(E:L2.St->XK)(m:M (List PV)):TA:=tG K E (rL K) m
abbrev tA(K:KK)(E:L2.St->XK)(m:M (List Slot)):TA:=tG K E (rA K) m
abbrev LQ(K:KK)(E:L2.St->XK)(m:M (List PV)):TA:=tG K E (rRL K) m
abbrev tB(K:KK)(E:L2.St->XK)(m:M Bool):TT:=tG K E rB m
inductive Fl where
 |nx|bk|ct|rt (r:RV)
def Ŋ(K:KK)(E:L2.St->XK)(c:Ctx)(F:Hp)(D:Ends):Res Fl->Prop
 | .ok .nx ρ'=>∀σ' F' H',Rel K c F' H' σ' ρ'->Same F F'->D.nx σ' H'
 | .ok .bk ρ'=>∀σ' F' H',Rel K c F' H' σ' ρ'->Same F F'->D.bk σ' H'
 | .ok .ct ρ'=>∀σ' F' H',Rel K c F' H' σ' ρ'->Same F F'->D.ct σ' H'
 | .ok (.rt r) ρ'=>∀v σ' F' H',Rel K c F' H' σ' ρ'->Same F F'->rO K c σ' ρ' F' H' r v->D.rt v H'
 | .exc x ρ'=>∀σ' C d F' H',Rel K c F' H' σ' ρ'->Same F F'->Dk K F' x C d->E σ' C d H'
 | .bad=>False
def tS(K:KK)(E:L2.St->XK)(m:M Fl):TS:=λD σ H=>∃c F ρ,Rel K c F H σ ρ/\Ŋ K E c F D (m ρ)
section
variable{K:KK}{E:L2.St->XK}{c:Ctx}{F F1:Hp}{D:Ends}
def Ŋ.mono{r:Res Fl}(h:Ŋ K E c F D r)(sF:Same F F1):Ŋ K E c F1 D r:=by
 cases r with
 |ok f ρ'=>
  cases f with
  |rt v=>exact λv σ' F' H' rel s1 q=>h v σ' F' H' rel (sF.trans s1) q
  |nx=>exact λσ' F' H' rel s1=>h σ' F' H' rel (sF.trans s1)
  |bk=>exact λσ' F' H' rel s1=>h σ' F' H' rel (sF.trans s1)
  |ct=>exact λσ' F' H' rel s1=>h σ' F' H' rel (sF.trans s1)
 |exc x ρ'=>exact λσ' C d F' H' rel s1 q=>h σ' C d F' H' rel (sF.trans s1) q
 |bad=>exact h
theorem Ŋ.bind{α β:Type}{R:RR α β}{σ:L2.St}{H:Hp}{Q:β->Hp->Prop}{r:Res α}{f:α->Ĺ->Res Fl}(h:Ŋ K E c F D (r.bind f))
 (k:∀p ρ1 v F1 H1,Rel K c F1 H1 σ ρ1->Same F F1->R c σ ρ1 F1 H1 p v->Ŋ K E c F1 D (f p ρ1)->Q v H1):aj K E R c F H σ Q r:=by
 cases r with
 |ok p ρ'=>exact λv F' H' rel s1 s2 q=>k p ρ' v F' H' rel s1 q (Ŋ.mono (show Ŋ K E c F D (f p ρ') from h) s1)
 |exc x ρ'=>exact λC d F' H' rel s1 q=>h σ C d F' H' rel s1 q
 |bad=>exact h
end
end P
namespace P
open PySem PySem.Spec PyProof.Rows L2 M2
def ě(i:Nat):M PV:=λρ=>match ρ[i]? with
 |some (.sh p)=>.ok p ρ
 |some (.ow ps)=>.ok (.lst ps) (ρ.set i (.sh (.lst ps)))
 |_=>.bad
def Ā(i:Nat):M PV:=λρ=>match ρ[i]? with
 |some (.sh p)=>.ok p ρ
 |some (.ow ps)=>.ok (.lst ps) ρ
 |some (.bw ps)=>.ok (.lst ps) ρ
 |some (.rc C ns ps)=>.ok (.ins C ns ps) ρ
 |_=>.bad
def fW(i:Nat):M RV:=λρ=>match ρ[i]? with
 |some (.sh p)=>.ok (.sh p) ρ
 |some (.ow ps)=>.ok (.ow ps) (ρ.set i .no)
 |_=>.bad
def mC(p:PV):M PV:=λρ=>.ok p ρ
def ŉ(m:M PV):M RV:=λρ=>(m ρ).bind λp ρ1=>.ok (.sh p) ρ1
def Đ(m:M RV):M PV:=λρ=>(m ρ).bind λr ρ1=>.ok r.val ρ1
section
variable{K:KK}{c:Ctx}{F H:Hp}{σ:L2.St}{ρ:Ĺ}
def at_of{i:Nat}{x:V}(h:(σ[i]?).getD none=some x):σ[i]?=some (some x):=by
 cases q:σ[i]? with
 |none=>rw[q] at h;cases h
 |some y=>rw[q] at h;exact congrArg some h
theorem Rel.ow(r:Rel K c F H σ ρ){i:Nat}{ps:List PV}(e:ρ[i]?=some (.ow ps)):∃a vs,σ[i]?=some (some (.ref a))/\H a=some (.lst vs)/\F a=none/\c.B a=none/\Ĕ K F ps vs/\ļ F σ ρ i a:=by
 obtain⟨a,vs,h1,h2,h3,h4,h5⟩:=r.slot i _ e
 exact⟨a,vs,at_of h1,h2,h3,h4,h5,⟨_,_,e,at_of h1,rfl⟩⟩
def Rel.move(r:Rel K c F H σ ρ){i:Nat}{a:Addr}(h:ļ F σ ρ i a):Rel K c F H σ (ρ.set i .no)/\lU F σ (ρ.set i .no) a:=by
 refine⟨r.Ox rfl trivial,λj ⟨s,y,q1,q3,q2⟩=>?_⟩
 rcases Ţ q1 with⟨_,rfl,_⟩|⟨hj,q⟩
 ·exact q2.elim
 ·exact hj (r.sep j i a ⟨s,y,q,q3,q2⟩ h)
def Rel.share(r:Rel K c F H σ ρ){i:Nat}{ps:List PV}(e:ρ[i]?=some (.ow ps)):∃a vs,σ[i]?=some (some (.ref a))/\F a=none/\Rep K (upd F a (.lst vs)) (.lst ps) (.ref a)/\Rel K c (upd F a (.lst vs)) H σ (ρ.set i (.sh (.lst ps))):=by
 obtain⟨a,vs,h1,h2,h3,h4,h5,ho⟩:=r.ow e
 obtain⟨m1,m2⟩:=r.move ho
 have rp:Rep K (upd F a (.lst vs)) (.lst ps) (.ref a):=by
  unfold Rep
  exact⟨a,vs,rfl,ū.of Ğ,h5.same (Same.upd h3) ps vs⟩
 have q:=(m1.freeze h2 h4 h3 m2).Ox (i:=i) (s:=.sh (.lst ps)) rfl (show Ũ K c _ H _ (.sh (.lst ps)) from⟨.ref a,by rw[h1];rfl,rp⟩)
 rw[List.set_set] at q
 exact⟨a,vs,h1,h3,rp,q⟩
def Bo.mono{F1 H1:Hp}{p:PV}{v:V}(h:Bo K F H p v)(sF:Same F F1)(sH:Same H H1):Bo K F1 H1 p v:=by
 cases p with
 |lst ps=>
  obtain⟨a,vs,h2,h3,h4⟩:=h
  exact⟨a,vs,h2,sH _ _ h3,h4.same sF ps vs⟩
 |ins C ns ps=>
  obtain⟨a,dx,fs,h2,h3,h4,h5⟩:=h
  exact⟨a,dx,fs,h2,sH _ _ h3,h4,h5.same sF ps _⟩
 |_=>exact h.elim
theorem rR.mono{c:Ctx}{σ:L2.St}{ρ ρ':Ĺ}{F1 H1:Hp}{p:PV}{v:V}(h:rR K c σ ρ F H p v)(sF:Same F F1)(sH:Same H H1):rR K c σ ρ' F1 H1 p v:=by
 rcases h with h|h
 ·exact .inl (h.same sF p v)
 ·exact .inr (h.mono sF sH)
theorem rR.lst{c:Ctx}{σ:L2.St}{ρ:Ĺ}{ps:List PV}{v:V}(s:Same F H)(h:rR K c σ ρ F H (.lst ps) v):∃a vs,v=.ref a/\ū K.K H a vs/\Ĕ K F ps vs:=by
 rcases h with h|⟨a,vs,h2,h3,h4⟩
 ·unfold Rep at h
  obtain⟨a,xs,h1,h2,h3⟩:=h
  exact⟨a,xs,h1,s.seq h2,h3⟩
 ·exact⟨a,vs,h2,ū.of h3,h4⟩
theorem rR.tup{c:Ctx}{σ:L2.St}{ρ:Ĺ}{ps:List PV}{v:V}(s:Same F H)(h:rR K c σ ρ F H (.tup ps) v):∃a vs,v=.ref a/\fC K.K H a vs/\Ĕ K F ps vs:=by
 rcases h with h|h
 ·unfold Rep at h
  obtain⟨a,xs,h1,h2,h3⟩:=h
  exact⟨a,xs,h1,Same.tup s h2,h3⟩
 ·exact h.elim
theorem rR.int{c:Ctx}{σ:L2.St}{ρ:Ĺ}{i:Int}{v:V}(h:rR K c σ ρ F H (.int i) v):v=.int i:=by
 rcases h with h|h
 ·unfold Rep at h;exact h
 ·exact h.elim
theorem rR.str{c:Ctx}{σ:L2.St}{ρ:Ĺ}{i:Str}{v:V}(h:rR K c σ ρ F H (.str i) v):v=.str i:=by
 rcases h with h|h
 ·unfold Rep at h;exact h
 ·exact h.elim
theorem rR.bl{c:Ctx}{σ:L2.St}{ρ:Ĺ}{i:Bool}{v:V}(h:rR K c σ ρ F H (.bl i) v):v=.bl i:=by
 rcases h with h|h
 ·unfold Rep at h;exact h
 ·exact h.elim
theorem rR.non{c:Ctx}{σ:L2.St}{ρ:Ĺ}{v:V}(h:rR K c σ ρ F H .non v):v=.non:=by
 rcases h with h|h
 ·unfold Rep at h;exact h
 ·exact h.elim
theorem rR.ty{c:Ctx}{σ:L2.St}{ρ:Ĺ}{n:String}{v:V}(h:rR K c σ ρ F H (.ty n) v):v=.ty n:=by
 rcases h with h|h
 ·unfold Rep at h;exact h
 ·exact h.elim
theorem Rep.int{i:Int}:Rep K F (.int i) (.int i):=by unfold Rep;rfl
theorem Rep.str{i:Str}:Rep K F (.str i) (.str i):=by unfold Rep;rfl
theorem Rep.bl{i:Bool}:Rep K F (.bl i) (.bl i):=by unfold Rep;rfl
theorem Rep.non:Rep K F .non .non:=by unfold Rep;rfl
end
section
variable{X:Cx}{cm:String->Addr}{E:L2.St->XK}{a b e:Expr}{es:List Expr}{pos:Pos}{m ma mb mc:M PV}{mo:M RV}
def PT.wk{t t':TT}(h:PT X e t)(i:∀σ H Q,t' σ H Q->t σ H Q):PT X e t':=λpins s σ H Q I q=>h pins s σ H Q I (i σ H Q q)
def PA.wk{t t':TA}(h:PA X es t)(i:∀σ H Q,t' σ H Q->t σ H Q):PA X es t':=λpos pins s σ H Q I q=>h pos pins s σ H Q I (i σ H Q q)
def PW.wk{t t':TT}(h:PW X e t)(i:∀σ H Q,t' σ H Q->t σ H Q):PW X e t':=λwh pins s σ H Q I q=>h wh pins s σ H Q I (i σ H Q q)
def dY.wk{st:List Stmt}{t t':TS}(h:dY X st t)(i:∀D σ H,t' D σ H->t D σ H):dY X st t':=λpins s σ H D I q=>h pins s σ H D I (i D σ H q)
def v_var(i:Nat){x:Str}{pos:Pos}(hN:X.N[i]?=some x:=by rfl)(hv:Ax X.env.scope x:=by first|exact Or.inl rfl|exact Or.inr (Or.inl rfl)|exact Or.inr (Or.inr rfl))(hd:(x== ("__debug__" :Str))=false:=by decide)
 (hcd:(x== ("__classdict__" :Str))=false:=by decide):PE X (.Name x pos) (tV (kk X cm) E (ě i)):=PE.wk (jk hN hv hd hcd) λσ H Q ⟨c,F,ρ,rel,h⟩=>by
 unfold ě at h
 split at h
 ·rename_i p e
  obtain⟨v,h1,h2⟩:=rel.slot i _ e
  exact⟨v,at_of h1,h v F H rel (Same.refl F) (Same.refl H) h2⟩
 ·rename_i ps e
  obtain⟨a,vs,h1,h2,h3,h4⟩:=rel.share e
  exact⟨.ref a,h1,h _ _ H h4 (Same.upd h2) (Same.refl H) h3⟩
 ·exact h.elim
def ā(i:Nat){x:Str}{pos:Pos}(hN:X.N[i]?=some x:=by rfl)(hv:Ax X.env.scope x:=by first|exact Or.inl rfl|exact Or.inr (Or.inl rfl)|exact Or.inr (Or.inr rfl))(hd:(x== ("__debug__" :Str))=false:=by decide)
 (hcd:(x== ("__classdict__" :Str))=false:=by decide):PE X (.Name x pos) (tR (kk X cm) E (Ā i)):=PE.wk (jk hN hv hd hcd) λσ H Q ⟨c,F,ρ,rel,h⟩=>by
 unfold Ā at h
 split at h
 ·rename_i p e
  obtain⟨v,h1,h2⟩:=rel.slot i _ e
  exact⟨v,at_of h1,h v F H rel (Same.refl F) (Same.refl H) (.inl h2)⟩
 ·rename_i ps e
  obtain⟨a,vs,h1,h2,h3,h4,h5,_⟩:=rel.ow e
  exact⟨.ref a,h1,h _ F H rel (Same.refl F) (Same.refl H) (.inr ⟨a,vs,rfl,h2,h5⟩)⟩
 ·rename_i ps e
  obtain⟨a,vs,h1,h2,h3⟩:=rel.slot i _ e
  exact⟨.ref a,at_of h1,h _ F H rel (Same.refl F) (Same.refl H) (.inr ⟨a,vs,rfl,(rel.lent a _ h2).1,h3⟩)⟩
 ·rename_i C ns ps e
  obtain⟨a,dx,fs,h1,h2,h3,h4,h5,h6⟩:=rel.slot i _ e
  exact⟨.ref a,at_of h1,h _ F H rel (Same.refl F) (Same.refl H) (.inr ⟨a,dx,fs,rfl,h2,h5,h6.1⟩)⟩
 ·exact h.elim
def lV(i:Nat){x:Str}{pos:Pos}(hN:X.N[i]?=some x:=by rfl)(hv:Ax X.env.scope x:=by first|exact Or.inl rfl|exact Or.inr (Or.inl rfl)|exact Or.inr (Or.inr rfl))(hd:(x== ("__debug__" :Str))=false:=by decide)
 (hcd:(x== ("__classdict__" :Str))=false:=by decide):PE X (.Name x pos) (tO (kk X cm) E (fW i)):=PE.wk (jk hN hv hd hcd) λσ H Q ⟨c,F,ρ,rel,h⟩=>by
 unfold fW at h
 split at h
 ·rename_i p e
  obtain⟨v,h1,h2⟩:=rel.slot i _ e
  exact⟨v,at_of h1,h v F H rel (Same.refl F) (Same.refl H) h2⟩
 ·rename_i ps e
  obtain⟨a,vs,h1,h2,h3,h4,h5,h6⟩:=rel.ow e
  obtain⟨m1,m2⟩:=rel.move h6
  exact⟨.ref a,h1,h _ F H m1 (Same.refl F) (Same.refl H) ⟨a,vs,rfl,h2,h3,h4,m2,h5⟩⟩
 ·exact h.elim
def tY{v:V}(p:PV)(h:PE X e (tC v))(hr:∀F,Rep (kk X cm) F p v:=by intro _;unfold Rep;rfl):PE X e (tV (kk X cm) E (mC p)):=PE.wk h λσ H Q ⟨c,F,ρ,rel,h⟩=>h v F H rel (Same.refl F) (Same.refl H) (hr F)
def Ĭ{i j pos}:PE X (.Constant (.int i) j pos) (tV (kk X cm) E (mC (.int i))):=tY _ VH
def LR{i j pos}:PE X (.Constant (.bool i) j pos) (tV (kk X cm) E (mC (.bl i))):=tY _ Zbb
def oH{j pos}:PE X (.Constant .none j pos) (tV (kk X cm) E (mC .non)):=tY _ VJ
def Ų{x j pos}:PE X (.Constant (.str x) j pos) (tV (kk X cm) E (mC (.str x))):=tY _ VL
def Ě(h:PE X e (tV (kk X cm) E m)):PE X e (tR (kk X cm) E m):=PE.wk h λσ H Q ⟨c,F,ρ,rel,h⟩=>⟨c,F,ρ,rel,h.rel λ_ _ _ _ _ _ q=>.inl q⟩
def ţ(h:PE X e (tV (kk X cm) E m)):PE X e (tO (kk X cm) E (ŉ m)):=PE.wk h λσ H Q ⟨c,F,ρ,rel,h⟩=>⟨c,F,ρ,rel,h.bind λp ρ1 v F1 H1 Ď s1 s2 q h1=>h1 v F1 H1 Ď (Same.refl _) (Same.refl _) q⟩
def Held.share{K:KK}{c:Ctx}{F H:Hp}{σ:L2.St}{ρ:Ĺ}{ps:List PV}{v:V}(rel:Rel K c F H σ ρ)(h:Held K c σ ρ F H ps v):∃F1,Same F F1/\Rel K c F1 H σ ρ/\Rep K F1 (.lst ps) v:=by
 obtain⟨a,vs,rfl,h1,h2,h3,h4,h5⟩:=h
 refine⟨_,Same.upd h2,rel.freeze h1 h3 h2 h4,?_⟩
 unfold Rep
 exact⟨a,vs,rfl,ū.of Ğ,h5.same (Same.upd h2) ps vs⟩
def Bp.share{K:KK}{c:Ctx}{F H:Hp}{σ:L2.St}{ρ:Ĺ}{ps qs:List PV}{v:V}(rel:Rel K c F H σ ρ)(h:Bp K c σ ρ F H ps qs v):∃F1,Same F F1/\Rel K c F1 H σ ρ/\Rep K F1 (.tup (ps ++ [.lst qs])) v:=by
 obtain⟨p,a,xs,vs,rfl,h0,hx,h1,h2,h3,h4,h5⟩:=h
 refine⟨_,Same.upd h2,rel.freeze h1 h3 h2 h4,?_⟩
 have ra:Rep K (upd F a (.lst vs)) (.lst qs) (.ref a):=by
  unfold Rep
  exact⟨a,vs,rfl,ū.of Ğ,h5.same (Same.upd h2) qs vs⟩
 unfold Rep
 exact⟨p,_,rfl,fC.of (Same.upd h2 _ _ h0),Ĕ.append (hx.same (Same.upd h2) ps xs) (Ĕ.cons ra Ĕ.nil)⟩
def Ġ(h:PE X e (tO (kk X cm) E mo)):PE X e (tV (kk X cm) E (Đ mo)):=PE.wk h λσ H Q ⟨c,F,ρ,rel,h⟩=>⟨c,F,ρ,rel,h.bind λr ρ1 v F1 H1 Ď s1 s2 q h1=>by
 cases r with
 |sh p=>exact h1 v F1 H1 Ď (Same.refl _) (Same.refl _) q
 |ow ps=>
  obtain⟨F2,s3,ĳ,rp⟩:=Held.share Ď q
  exact h1 v F2 H1 ĳ s3 (Same.refl _) rp
 |ot ps qs=>
  obtain⟨F2,s3,ĳ,rp⟩:=Bp.share Ď q
  exact h1 v F2 H1 ĳ s3 (Same.refl _) rp⟩
def ą(f:PV->PV->Option PV)(ma mb:M PV):M PV:=λρ=>(ma ρ).bind λp ρ1=>(mb ρ1).bind λq ρ2=>Res.nO (f p q) ρ2
def ġ(f:PV->PV->Option RV)(ma mb:M PV):M RV:=λρ=>(ma ρ).bind λp ρ1=>(mb ρ1).bind λq ρ2=>Res.nO (f p q) ρ2
def iI(K:KK)(r:R2)(f:PV->PV->Option PV):Prop:=∀{c:Ctx} {F H:Hp} {σ:L2.St} {ρ:Ĺ} {p q pv:PV} {v u:V} {Q:VK},Rel K c F H σ ρ->rR K c σ ρ F H p v->rR K c σ ρ F H q u->f p q=some pv->
 (∀z F' H',Rel K c F' H' σ ρ->Same F F'->Same H H'->Rep K F' pv z->Q z H')->r v u H Q
def OpO(K:KK)(r:R2)(f:PV->PV->Option RV):Prop:=∀{c:Ctx} {F H:Hp} {σ:L2.St} {ρ:Ĺ} {p q:PV} {pv:RV} {v u:V} {Q:VK},Rel K c F H σ ρ->rR K c σ ρ F H p v->rR K c σ ρ F H q u->f p q=some pv->
 (∀z F' H',Rel K c F' H' σ ρ->Same F F'->Same H H'->rO K c σ ρ F' H' pv z->Q z H')->r v u H Q
def Bq{r:R2}{f:PV->PV->Option PV}(hf:iI (kk X cm) r f){σ:L2.St}{H:Hp}{Q:VK}(h:tV (kk X cm) E (ą f ma mb) σ H Q):tOp r (tR (kk X cm) E ma) (tR (kk X cm) E mb) σ H Q:=by
 obtain⟨c,F,ρ,rel,h⟩:=h
 refine⟨c,F,ρ,rel,h.bind λp ρ1 v F1 H1 Ď _ _ r1 h1=>⟨c,F1,ρ1,Ď,h1.bind λq ρ2 u F2 H2 ĳ sF sH r2 h2=>?_⟩⟩
 cases e:f p q with
 |none=>rw[e] at h2;exact h2.elim
 |some pv=>rw[e] at h2;exact hf ĳ (r1.mono sF sH) r2 e λz F' H' aA s1 s2 q'=>h2 z F' H' aA s1 s2 q'
def ZbB{r:R2}{f:PV->PV->Option RV}(hf:OpO (kk X cm) r f){σ:L2.St}{H:Hp}{Q:VK}(h:tO (kk X cm) E (ġ f ma mb) σ H Q):tOp r (tR (kk X cm) E ma) (tR (kk X cm) E mb) σ H Q:=by
 obtain⟨c,F,ρ,rel,h⟩:=h
 refine⟨c,F,ρ,rel,h.bind λp ρ1 v F1 H1 Ď _ _ r1 h1=>⟨c,F1,ρ1,Ď,h1.bind λq ρ2 u F2 H2 ĳ sF sH r2 h2=>?_⟩⟩
 cases e:f p q with
 |none=>rw[e] at h2;exact h2.elim
 |some pv=>rw[e] at h2;exact hf ĳ (r1.mono sF sH) r2 e λz F' H' aA s1 s2 q'=>h2 z F' H' aA s1 s2 q'
def aB{op:Operator}{r:R2}{f:PV->PV->Option PV}(hf:iI (kk X cm) r f)(ho:Š X (binaryOp op) r)(ha:PE X a (tR (kk X cm) E ma))(hb:PE X b (tR (kk X cm) E mb)):PE X (.BinOp a op b pos) (tV (kk X cm) E (ą f ma mb)):=PE.wk (Ov ho ha hb) λ_ _ _ h=>Bq hf h
def ZbC{op:Operator}{r:R2}{f:PV->PV->Option RV}(hf:OpO (kk X cm) r f)(ho:Š X (binaryOp op) r)(ha:PE X a (tR (kk X cm) E ma))(hb:PE X b (tR (kk X cm) E mb)):PE X (.BinOp a op b pos) (tO (kk X cm) E (ġ f ma mb)):=PE.wk (Ov ho ha hb) λ_ _ _ h=>ZbB hf h
def oJ{op:CmpOp}{r:R2}{f:PV->PV->Option PV}(hf:iI (kk X cm) r f)(ho:Š X (compareOp op) r)(ha:PE X a (tR (kk X cm) E ma))(hb:PE X b (tR (kk X cm) E mb))(hm:behindInMarks op b=false):PE X (.Compare a [op] [b] pos) (tV (kk X cm) E (ą f ma mb)):=
 PE.wk (KJ ho ha hb hm) λ_ _ _ h=>Bq hf h
def Zd7{r:R2}{f:PV->PV->Option PV}(hf:iI (kk X cm) r f)(hr:yQ X r)(ha:PE X a (tR (kk X cm) E ma))(hb:PE X b (tR (kk X cm) E mb))(hs:nG b):PE X (.Subscript a b pos) (tV (kk X cm) E (ą f ma mb)):=
 PE.wk (Zbn hr ha hb hs) λ_ _ _ h=>Bq hf h
def aK(f:PV->Option PV)(ma:M PV):M PV:=λρ=>(ma ρ).bind λp ρ1=>Res.nO (f p) ρ1
def UnV(K:KK)(r:V->Hp->VK->Prop)(f:PV->Option PV):Prop:=∀{c:Ctx} {F H:Hp} {σ:L2.St} {ρ:Ĺ} {p pv:PV} {v:V} {Q:VK},Rel K c F H σ ρ->rR K c σ ρ F H p v->f p=some pv->
 (∀z F' H',Rel K c F' H' σ ρ->Same F F'->Same H H'->Rep K F' pv z->Q z H')->r v H Q
def tZ{op:UnaryOp}{r:V->Hp->VK->Prop}{f:PV->Option PV}(hf:UnV (kk X cm) r f)(ho:Kz X (unaryOp op) r)(ha:PE X a (tR (kk X cm) E ma)):PE X (.UnaryOp op a pos) (tV (kk X cm) E (aK f ma)):=PE.wk (Zbi ho ha) λσ H Q ⟨c,F,ρ,rel,h⟩=>
 ⟨c,F,ρ,rel,h.bind fun p ρ1 v F1 H1 Ď _ _ r1 h1=>by
   cases e:f p with
   |none=>rw[e] at h1;exact h1.elim
   |some pv=>rw[e] at h1;exact hf Ď r1 e λz F' H' aA s1 s2 q'=>h1 z F' H' aA s1 s2 q'⟩
def Xo:PV->Option Bool
 | .bl b=>some b
 | .int i=>some (i != 0)
 | .non=>some false
 | .str y=>if y.length<=sizeLine then some ((y.length:Int) != 0) else none
 | .lst ps=>some (!ps.isEmpty)
 | .tup ps=>some (!ps.isEmpty)
 |_=>none
def cU(m:M PV):M Bool:=λρ=>(m ρ).bind λp ρ1=>Res.nO (Xo p) ρ1
def ZbD{K:KK}{c:Ctx}{F H:Hp}{σ:L2.St}{ρ:Ĺ}{p:PV}{v:V}{k:Bool}(s:Same F H)(r:rR K c σ ρ F H p v)(h:Xo p=some k):Wu K.K v H k:=by
 cases p with
 |bl b=>cases r.bl;cases h;rfl
 |int i=>cases r.int;cases h;rfl
 |non=>cases r.non;cases h;rfl
 |str y=>
  cases r.str
  have h':(if y.length<=sizeLine then some ((y.length:Int) != 0) else none)=some k:=h
  split at h'
  ·rename_i hy;cases h';exact⟨hy,rfl⟩
  ·cases h'
 |lst ps=>
  obtain⟨a,vs,rfl,h1,h2⟩:=r.lst s
  cases h
  have e:ps.isEmpty=vs.isEmpty:=by cases h2.pr<;>rfl
  exact .inl ⟨vs,h1,by rw[e]⟩
 |tup ps=>
  obtain⟨a,vs,rfl,h1,h2⟩:=r.tup s
  cases h
  have e:ps.isEmpty=vs.isEmpty:=by cases h2.pr<;>rfl
  exact .inr (.inl ⟨vs,h1,by rw[e]⟩)
 |ins C ns ps=>cases h
 |xc C ns ps=>cases h
 |ty n=>cases h
 |cls C=>cases h
def aX(ha:PE X a (tR (kk X cm) E ma))(he:∀whole,isTrue a X.env whole=(do let v <-whole;standAt a.pos;holding [v] (truthy v)):=by intro _;rfl):PT X a (tB (kk X cm) E (cU ma)):=PT.wk (EY ha he) λσ H Q ⟨c,F,ρ,rel,h⟩=>
 ⟨c,F,ρ,rel,h.bind fun p ρ1 v F1 H1 Ď _ _ r1 h1=>by
   cases e:Xo p with
   |none=>rw[e] at h1;exact h1.elim
   |some k=>rw[e] at h1;exact⟨k,ZbD Ď.sub r1 e,h1 k F1 H1 Ď (Same.refl _) (Same.refl _) rfl⟩⟩
def cV(m:M PV):M Bool:=λρ=>(m ρ).bind λp ρ1=>match p with
 | .bl b=>.ok b ρ1
 |_=>.bad
def Oz{σ:L2.St}{H:Hp}{Q:Bool->Hp->Prop}(h:tB (kk X cm) E (cV m) σ H Q):M2.Fp (tV (kk X cm) E m) σ H Q:=by
 obtain⟨c,F,ρ,rel,h⟩:=h
 refine⟨c,F,ρ,rel,h.bind λp ρ1 v F1 H1 Ď _ _ r1 h1=>?_⟩
 cases p with
 |bl b=>
  have e:v=.bl b:=by have r1':Rep (kk X cm) F1 (.bl b) v:=r1;unfold Rep at r1';exact r1'
  subst e
  exact h1 b F1 H1 Ď (Same.refl _) (Same.refl _) rfl
 |_=>exact h1.elim
def aY{op:CmpOp}{r:R2}{f:PV->PV->Option PV}(hf:iI (kk X cm) r f)(ho:Š X (compareOp op) r)(ha:PE X a (tR (kk X cm) E ma))(hb:PE X b (tR (kk X cm) E mb))(hm:behindInMarks op b=false):PT X (.Compare a [op] [b] pos) (tB (kk X cm) E (cV (ą f ma mb))):=
 PT.wk (WT ho ha hb hm) fun σ H Q h=>by
   obtain⟨c,F,ρ,rel,h⟩:=Oz h
   exact Bq hf ⟨c,F,ρ,rel,h⟩
def kJ(f g:PV->PV->Option PV)(ma mb mc:M PV):M PV:=λρ=>(ma ρ).bind λp ρ1=>(mb ρ1).bind λq ρ2=>(Res.nO (f p q) ρ2).bind λz ρ3=>match z with
 | .bl true=>(mc ρ3).bind λw ρ4=>Res.nO (g q w) ρ4
 | .bl false=>.ok (.bl false) ρ3
 |_=>.bad
def OD{r r':R2}{f g:PV->PV->Option PV}(hf:iI (kk X cm) r f)(hg:iI (kk X cm) r' g){σ:L2.St}{H:Hp}{Q:VK}(h:tV (kk X cm) E (kJ f g ma mb mc) σ H Q):M2.yR r r' (tR (kk X cm) E ma) (tR (kk X cm) E mb) (tR (kk X cm) E mc) σ H Q:=by
 obtain⟨c,F,ρ,rel,h⟩:=h
 refine⟨c,F,ρ,rel,h.bind λp ρ1 v F1 H1 Ď _ _ r1 h1=>⟨c,F1,ρ1,Ď,h1.bind λq ρ2 u F2 H2 ĳ sF sH r2 h2=>?_⟩⟩
 cases e:f p q with
 |none=>rw[e] at h2;exact h2.elim
 |some pv=>
  rw[e] at h2
  refine hf ĳ (r1.mono sF sH) r2 e λz F' H' aA s1 s2 q'=>?_
  cases pv with
  |bl k=>
   have ez:z=.bl k:=by unfold Rep at q';exact q'
   subst ez
   cases k with
   |false=>exact h2 _ F' H' aA s1 s2 q'
   |true=>
    refine⟨c,F',ρ2,aA,aj.bind (aj.mono h2 s1 s2) λw ρ4 x F4 H4 Gj s3 s4 r4 h4=>?_⟩
    cases e':g q w with
    |none=>rw[e'] at h4;exact h4.elim
    |some pv'=>rw[e'] at h4;exact hg Gj (r2.mono (s1.trans s3) (s2.trans s4)) r4 e' λz F' H' aA s1 s2 q'=>h4 z F' H' aA s1 s2 q'
  |_=>exact h2.elim
def lW{op op':CmpOp}{r r':R2}{f g:PV->PV->Option PV}{c:Expr}(hf:iI (kk X cm) r f)(hg:iI (kk X cm) r' g)(ho:Š X (compareOp op) r)(ho':Š X (compareOp op') r')(ha:PE X a (tR (kk X cm) E ma))(hb:PE X b (tR (kk X cm) E mb))(hc:PE X c (tR (kk X cm) E mc))
 (hm:lastMarks [op,op'] [b,c]=false:=by with_unfolding_all rfl):PE X (.Compare a [op,op'] [b,c] pos) (tV (kk X cm) E (kJ f g ma mb mc)):=PE.wk (Fq ho ho' ha hb hc hm) λ_ _ _ h=>OD hf hg h
def ZbE{op op':CmpOp}{r r':R2}{f g:PV->PV->Option PV}{c:Expr}(hf:iI (kk X cm) r f)(hg:iI (kk X cm) r' g)(ho:Š X (compareOp op) r)(ho':Š X (compareOp op') r')(ha:PE X a (tR (kk X cm) E ma))(hb:PE X b (tR (kk X cm) E mb))(hc:PE X c (tR (kk X cm) E mc))
 (hm:lastMarks [op,op'] [b,c]=false:=by with_unfolding_all rfl):PT X (.Compare a [op,op'] [b,c] pos) (tB (kk X cm) E (cV (kJ f g ma mb mc))):=PT.wk (Ft ho ho' ha hb hc hm) λσ H Q h=>by
 obtain⟨c,F,ρ,rel,h⟩:=Oz h
 exact OD hf hg ⟨c,F,ρ,rel,h⟩
def iJ(m:M Bool):M Bool:=λρ=>(m ρ).bind λb ρ1=>.ok (!b) ρ1
def rJ{m:M Bool}(h:PT X a (tB (kk X cm) E m)):PT X (.UnaryOp .Not a pos) (tB (kk X cm) E (iJ m)):=PT.wk (VR h) λσ H Q ⟨c,F,ρ,rel,h⟩=>
 ⟨c,F,ρ,rel,h.bind λp ρ1 v F1 H1 Ď _ _ r1 h1=>h1 _ F1 H1 Ď (Same.refl _) (Same.refl _) (by have e:p=v:=r1;rw[e];rfl)⟩
def iK(ma mb:M Bool):M Bool:=λρ=>(ma ρ).bind λb ρ1=>if b=true then mb ρ1 else .ok false ρ1
def L_(ma mb:M Bool):M Bool:=λρ=>(ma ρ).bind λb ρ1=>if b=true then .ok true ρ1 else mb ρ1
variable{ta tb:M Bool}{rest:List Expr}
def fX(h:PT X a (tB (kk X cm) E ta)):PW X (.BoolOp .And [a] pos) (tB (kk X cm) E ta):=Ks h
def OJ(h:PT X a (tB (kk X cm) E ta)):PW X (.BoolOp .Or [a] pos) (tB (kk X cm) E ta):=VN h
def w_and(ha:PT X a (tB (kk X cm) E ta))(hb:PW X (.BoolOp .And (b::rest) pos) (tB (kk X cm) E tb)):PW X (.BoolOp .And (a::b::rest) pos) (tB (kk X cm) E (iK ta tb)):=PW.wk (VP ha hb) λσ H Q ⟨c,F,ρ,rel,h⟩=>
 ⟨c,F,ρ,rel,h.bind fun p ρ1 v F1 H1 Ď _ _ r1 h1=>by
   have e:p=v:=r1
   subst e
   cases p with
   |true=>exact⟨c,F1,ρ1,Ď,h1⟩
   |false=>exact h1 false F1 H1 Ď (Same.refl _) (Same.refl _) rfl⟩
def w_or(ha:PT X a (tB (kk X cm) E ta))(hb:PW X (.BoolOp .Or (b::rest) pos) (tB (kk X cm) E tb)):PW X (.BoolOp .Or (a::b::rest) pos) (tB (kk X cm) E (L_ ta tb)):=PW.wk (Zbc ha hb) λσ H Q ⟨c,F,ρ,rel,h⟩=>
 ⟨c,F,ρ,rel,h.bind fun p ρ1 v F1 H1 Ď _ _ r1 h1=>by
   have e:p=v:=r1
   subst e
   cases p with
   |false=>exact⟨c,F1,ρ1,Ď,h1⟩
   |true=>exact h1 true F1 H1 Ď (Same.refl _) (Same.refl _) rfl⟩
def dI(ma mb:M PV):M PV:=λρ=>(ma ρ).bind λp ρ1=>match p with
 | .bl true=>mb ρ1
 | .bl false=>.ok (.bl false) ρ1
 |_=>.bad
def Xp(ma:M PV):M PV:=λρ=>(ma ρ).bind λp ρ1=>match p with
 | .bl b=>.ok (.bl (!b)) ρ1
 |_=>.bad
def t_{K:KK}{F:Hp}{b:Bool}{v:V}(h:Rep K F (.bl b) v):v=.bl b:=by unfold Rep at h;exact h
def iM{op}(h:PE X a (tV (kk X cm) E ma)):PE X (.BoolOp op [a] pos) (tV (kk X cm) E ma):=V_ h
def v_and(ha:PE X a (tV (kk X cm) E ma))(hb:PE X (.BoolOp .And (b::rest) pos) (tV (kk X cm) E mb)):PE X (.BoolOp .And (a::b::rest) pos) (tV (kk X cm) E (dI ma mb)):=PE.wk (WW ha hb) λσ H Q ⟨c,F,ρ,rel,h⟩=>
 ⟨c,F,ρ,rel,h.bind fun p ρ1 v F1 H1 Ď _ _ r1 h1=>by
   cases p with
   |bl k=>
    cases t_ r1
    cases k with
    |true=>exact⟨c,F1,ρ1,Ď,h1⟩
    |false=>exact h1 _ F1 H1 Ď (Same.refl _) (Same.refl _) r1
   |_=>exact h1.elim⟩
def v_not(ha:PE X a (tV (kk X cm) E ma)):PE X (.UnaryOp .Not a pos) (tV (kk X cm) E (Xp ma)):=PE.wk (WX ha) λσ H Q ⟨c,F,ρ,rel,h⟩=>
 ⟨c,F,ρ,rel,h.bind fun p ρ1 v F1 H1 Ď _ _ r1 h1=>by
   cases p with
   |bl k=>
    cases t_ r1
    exact h1 _ F1 H1 Ď (Same.refl _) (Same.refl _) Rep.bl
   |_=>exact h1.elim⟩
def fK{α:Type}(t:M Bool)(ma mb:M α):M α:= λρ=>(t ρ).bind λb ρ1=>if b=true then ma ρ1 else mb ρ1
def ZbF{α:Type}{R:RR α V}{c':Expr}{ma mb:M α}(hc:PT X c' (tB (kk X cm) E ta))(ha:PE X a (tG (kk X cm) E R ma))(hb:PE X b (tG (kk X cm) E R mb)):PE X (.IfExp c' a b pos) (tG (kk X cm) E R (fK ta ma mb)):=PE.wk (Ep hc ha hb) λσ H Q ⟨c,F,ρ,rel,h⟩=>
 ⟨c,F,ρ,rel,h.bind fun p ρ1 v F1 H1 Ď _ _ r1 h1=>by
   have e:p=v:=r1
   subst e
   cases p with
   |true=>exact⟨c,F1,ρ1,Ď,h1⟩
   |false=>exact⟨c,F1,ρ1,Ď,h1⟩⟩
def ę:M (List PV):=λρ=>.ok [] ρ
def Ą(ma:M PV)(mr:M (List PV)):M (List PV):=λρ=>(ma ρ).bind λp ρ1=>(mr ρ1).bind λps ρ2=>.ok (p::ps) ρ2
variable{mr:M (List PV)}
def Ę:PA X [] (tL (kk X cm) E ę):=PA.wk ou λσ H Q ⟨c,F,ρ,rel,h⟩=>h [] F H rel (Same.refl _) (Same.refl _) Ĕ.nil
def Ă(ha:PE X e (tV (kk X cm) E ma))(hr:PA X es (tL (kk X cm) E mr))(hs:starEach (e::es) X.env=(false,eval e X.env)::starEach es X.env:=by exact bF rfl):PA X (e::es) (tL (kk X cm) E (Ą ma mr)):=PA.wk (g_ ha hr hs) λσ H Q ⟨c,F,ρ,rel,h⟩=>
 ⟨c,F,ρ,rel,h.bind λp ρ1 v F1 H1 Ď _ _ r1 h1=>⟨c,F1,ρ1,Ď,h1.bind λps ρ2 vs F2 H2 ĳ sF sH r2 h2=>h2 _ F2 H2 ĳ (Same.refl _) (Same.refl _) (Ĕ.cons (Rep.same sF p v r1) r2)⟩⟩
def Ħ:PA X [] (LQ (kk X cm) E ę):=PA.wk ou λσ H Q ⟨c,F,ρ,rel,h⟩=>h [] F H rel (Same.refl _) (Same.refl _) .nil
def ė(ha:PE X e (tR (kk X cm) E ma))(hr:PA X es (LQ (kk X cm) E mr))(hs:starEach (e::es) X.env=(false,eval e X.env)::starEach es X.env:=by exact bF rfl):PA X (e::es) (LQ (kk X cm) E (Ą ma mr)):=PA.wk (g_ ha hr hs) λσ H Q ⟨c,F,ρ,rel,h⟩=>
 ⟨c,F,ρ,rel,h.bind λp ρ1 v F1 H1 Ď _ _ r1 h1=>⟨c,F1,ρ1,Ď,h1.bind λps ρ2 vs F2 H2 ĳ sF sH r2 h2=>h2 _ F2 H2 ĳ (Same.refl _) (Same.refl _) (.cons (rR.mono r1 sF sH) r2)⟩⟩
def ď:M (List Slot):=λρ=>.ok [] ρ
def đ(ma:M PV)(mr:M (List Slot)):M (List Slot):=λρ=>(ma ρ).bind λp ρ1=>(mr ρ1).bind λas ρ2=>.ok (.sh p::as) ρ2
def cW:Slot->Option Slot
 | .sh p=>some (.sh p)
 | .ow ps=>some (.bw ps)
 | .bw ps=>some (.bw ps)
 |_=>none
def Ć(i:Nat)(mr:M (List Slot)):M (List Slot):=λρ=>match(ρ[i]?).bind cW with
 |none=>.bad
 |some _=>(mr ρ).bind λas ρ2=>match(ρ2[i]?).bind cW with
  |some s=>.ok (s::as) ρ2
  |none=>.bad
variable{ms:M (List Slot)}
def Č:PA X [] (tA (kk X cm) E ď):=PA.wk ou λσ H Q ⟨c,F,ρ,rel,h⟩=>h [] F H rel (Same.refl _) (Same.refl _) .nil
def č(ha:PE X e (tV (kk X cm) E ma))(hr:PA X es (tA (kk X cm) E ms))(hs:starEach (e::es) X.env=(false,eval e X.env)::starEach es X.env:=by exact bF rfl):PA X (e::es) (tA (kk X cm) E (đ ma ms)):=PA.wk (g_ ha hr hs) λσ H Q ⟨c,F,ρ,rel,h⟩=>
 ⟨c,F,ρ,rel,h.bind λp ρ1 v F1 H1 Ď _ _ r1 h1=>⟨c,F1,ρ1,Ď,h1.bind λas ρ2 vs F2 H2 ĳ sF sH r2 h2=>h2 _ F2 H2 ĳ (Same.refl _) (Same.refl _) (.cons (show aW _ _ _ (.sh p) v from Rep.same sF p v r1) r2)⟩⟩
def Br{K:KK}{c:Ctx}{F H:Hp}{σ:L2.St}{ρ:Ĺ}{i:Nat}{s:Slot}(rel:Rel K c F H σ ρ)(h:(ρ[i]?).bind cW=some s):∃v,σ[i]?=some (some v)/\aW K F H s v:=by
 cases e:ρ[i]? with
 |none=>rw[e] at h;cases h
 |some sl=>
  rw[e] at h
  have h':cW sl=some s:=h
  cases sl with
  |sh p=>
   cases h'
   obtain⟨v,h1,h2⟩:=rel.slot i _ e
   exact⟨v,at_of h1,h2⟩
  |ow ps=>
   cases h'
   obtain⟨a,vs,h1,h2,h3,h4,h5,_⟩:=rel.ow e
   exact⟨.ref a,h1,a,vs,rfl,h2,h3,h5⟩
  |bw ps=>
   cases h'
   obtain⟨a,vs,h1,h2,h3⟩:=rel.slot i _ e
   exact⟨.ref a,at_of h1,a,vs,rfl,(rel.lent a _ h2).1,(rel.lent a _ h2).2,h3⟩
  |no=>cases h'
  |rc C ns ps=>cases h'
  |ot ps qs=>cases h'
  |ol Eh=>cases h'
def Ma(i:Nat){x:Str}{px:Pos}(hN:X.N[i]?=some x:=by rfl)(hv:Ax X.env.scope x:=by first|exact Or.inl rfl|exact Or.inr (Or.inl rfl)|exact Or.inr (Or.inr rfl))(hd:(x== ("__debug__" :Str))=false:=by decide)
 (hcd:(x== ("__classdict__" :Str))=false:=by decide)(hr:PA X es (tA (kk X cm) E ms))(hs:starEach (.Name x px::es) X.env=(false,eval (.Name x px) X.env)::starEach es X.env:=by exact bF rfl):PA X (.Name x px::es) (tA (kk X cm) E (Ć i ms)):=
 PA.wk (g_ (jk hN hv hd hcd) hr hs) fun σ H Q ⟨c,F,ρ,rel,h⟩=>by
   unfold Ć at h
   cases e:(ρ[i]?).bind cW with
   |none=>rw[e] at h;exact h.elim
   |some s0=>
    rw[e] at h
    obtain⟨v,hv,_⟩:=Br rel e
    refine⟨v,hv,c,F,ρ,rel,aj.bind h λas ρ2 vs F2 H2 ĳ sF sH r2 h2=>?_⟩
    cases e2:(ρ2[i]?).bind cW with
    |none=>simp only[e2] at h2;exact h2.elim
    |some s=>
     simp only[e2] at h2
     obtain⟨v',hv',r1⟩:=Br ĳ e2
     rw[hv] at hv'
     cases hv'
     exact h2 _ F2 H2 ĳ (Same.refl _) (Same.refl _) (.cons r1 r2)
def Ŀ(mr:M (List PV)):M PV:=λρ=>(mr ρ).bind λps ρ1=>if ps.length<=16777216 then .ok (.tup ps) ρ1 else .bad
def Ž(mr:M (List PV)):M RV:=λρ=>(mr ρ).bind λps ρ1=>if ps.length<=16777216 then .ok (.ow ps) ρ1 else .bad
def Ĵ:sizeLine=16777216:=sizeLine_eq
def Ĳ{x1}(h:PA X es (tL (kk X cm) E mr)):PE X (.Tuple es x1 pos) (tV (kk X cm) E (Ŀ mr)):=PE.wk (Wy h) λσ H Q ⟨c,F,ρ,rel,h⟩=>
 ⟨c,F,ρ,rel,h.bind fun ps ρ1 vs F1 H1 Ď _ _ r1 h1=>by
   split at h1
   ·rename_i hz
    refine⟨by rw[<-Ĕ.length r1,Ĵ];exact hz,λp hp=>h1 _ _ _ (Ď.alloc hp) (Same.upd (Ď.sub.free hp)) (Same.upd hp) ?_⟩
    show Rep _ _ _ _
    unfold Rep
    exact⟨p,vs,rfl,fC.of Ğ,Ĕ.same (Same.upd (Ď.sub.free hp)) ps vs r1⟩
   ·exact h1.elim⟩
def cX{K:KK}{c:Ctx}{F H:Hp}{σ:L2.St}{ρ:Ĺ}{ps:List PV}{vs:List V}{a:Addr}(rel:Rel K c F H σ ρ)(ha:H a=none)(r:Ĕ K F ps vs):Rel K c F (upd H a (.lst vs)) σ ρ/\Held K c σ ρ F (upd H a (.lst vs)) ps (.ref a):=
 ⟨rel.made ha,a,vs,rfl,Ğ,rel.sub.free ha,rel.base.free ha,rel.fresh ha,r⟩
def Ŏ(h:PA X es (tL (kk X cm) E mr)):PE X (.List es pos) (tO (kk X cm) E (Ž mr)):=PE.wk (Wz h) λσ H Q ⟨c,F,ρ,rel,h⟩=>
 ⟨c,F,ρ,rel,h.bind fun ps ρ1 vs F1 H1 Ď _ _ r1 h1=>by
   split at h1
   ·rename_i hz
    refine⟨by rw[<-Ĕ.length r1,Ĵ];exact hz,λp hp=>?_⟩
    obtain⟨q1,q2⟩:=cX Ď hp r1
    exact h1 _ _ _ q1 (Same.refl _) (Same.upd hp) q2
   ·exact h1.elim⟩
def fG(f:List PV->Option PV)(mr:M (List PV)):M PV:=λρ=>(mr ρ).bind λps ρ1=>Res.nO (f ps) ρ1
def oK(f:List PV->Option RV)(mr:M (List PV)):M RV:=λρ=>(mr ρ).bind λps ρ1=>Res.nO (f ps) ρ1
def bG(K:KK)(r:List V->Hp->VK->Prop)(f:List PV->Option PV):Prop:=∀{c:Ctx} {F H:Hp} {σ:L2.St} {ρ:Ĺ} {ps:List PV} {pv:PV} {vs:List V} {Q:VK},Rel K c F H σ ρ->rRL K c σ ρ F H ps vs->f ps=some pv->
 (∀z F' H',Rel K c F' H' σ ρ->Same F F'->Same H H'->Rep K F' pv z->Q z H')->r vs H Q
def Gk(K:KK)(r:List V->Hp->VK->Prop)(f:List PV->Option RV):Prop:=∀{c:Ctx} {F H:Hp} {σ:L2.St} {ρ:Ĺ} {ps:List PV} {pv:RV} {vs:List V} {Q:VK},Rel K c F H σ ρ->rRL K c σ ρ F H ps vs->f ps=some pv->
 (∀z F' H',Rel K c F' H' σ ρ->Same F F'->Same H H'->rO K c σ ρ F' H' pv z->Q z H')->r vs H Q
def ZbG{r:List V->Hp->VK->Prop}{f:List PV->Option PV}(hf:bG (kk X cm) r f){σ:L2.St}{H:Hp}{Q:VK}(h:tV (kk X cm) E (fG f mr) σ H Q):tCB r (LQ (kk X cm) E mr) σ H Q:=by
 obtain⟨c,F,ρ,rel,h⟩:=h
 refine⟨c,F,ρ,rel,h.bind λp ρ1 v F1 H1 Ď _ _ r1 h1=>?_⟩
 cases e:f p with
 |none=>rw[e] at h1;exact h1.elim
 |some pv=>rw[e] at h1;exact hf Ď r1 e λz F' H' aA s1 s2 q'=>h1 z F' H' aA s1 s2 q'
def Zd8{r:List V->Hp->VK->Prop}{f:List PV->Option RV}(hf:Gk (kk X cm) r f){σ:L2.St}{H:Hp}{Q:VK}(h:tO (kk X cm) E (oK f mr) σ H Q):tCB r (LQ (kk X cm) E mr) σ H Q:=by
 obtain⟨c,F,ρ,rel,h⟩:=h
 refine⟨c,F,ρ,rel,h.bind λp ρ1 v F1 H1 Ď _ _ r1 h1=>?_⟩
 cases e:f p with
 |none=>rw[e] at h1;exact h1.elim
 |some pv=>rw[e] at h1;exact hf Ď r1 e λz F' H' aA s1 s2 q'=>h1 z F' H' aA s1 s2 q'
end
end P
namespace P
open PySem PySem.Spec PyProof.Rows L2 M2 M3
def jy:M Fl:=λρ=>.ok .nx ρ
def Ĝ(a b:M Fl):M Fl:=λρ=>(a ρ).bind λf ρ1=>match f with
 | .nx=>b ρ1
 |f=>.ok f ρ1
def Ī(i:Nat)(m:M RV):M Fl:=λρ=>(m ρ).bind λr ρ1=>.ok .nx (ρ1.set i r.slot)
def ħ(m:M RV):M Fl:=λρ=>(m ρ).bind λr ρ1=>.ok (.rt r) ρ1
def rK(m:M PV):M Fl:=λρ=>(m ρ).bind λ_ ρ1=>.ok .nx ρ1
section
variable{X:Cx}{cm:String->Addr}{E:L2.St->XK}{a b e:Expr}{st:Stmt}{rest:List Stmt}{es:List Expr}{pos:Pos}{m1 m2:M Fl}{mo:M RV}{mv:M PV}
def ĵ:dY X [] (tS (kk X cm) E jy):=dY.wk A_ λD σ H ⟨c,F,ρ,rel,h⟩=>h σ F H rel (Same.refl F)
def Į(h:PS X st (tS (kk X cm) E m1)):dY X [st] (tS (kk X cm) E m1):=Ku h
def Mf{c:Ctx}{F:Hp}{D:Ends}{r:Res Fl}(h:Ŋ (kk X cm) E c F D (r.bind λf ρ1=>match f with| .nx=>m2 ρ1|f=>.ok f ρ1)):Ŋ (kk X cm) E c F {D with nx:=tS (kk X cm) E m2 D} r:=by
 cases r with
 |ok f ρ1=>
  cases f with
  |nx=>exact λσ' F' H' aA s=>⟨c,F',ρ1,aA,Ŋ.mono h s⟩
  |bk=>exact h
  |ct=>exact h
  |rt v=>exact h
 |exc x ρ1=>exact h
 |bad=>exact h
def ĕ(h1:PS X st (tS (kk X cm) E m1))(h2:dY X rest (tS (kk X cm) E m2)):dY X (st::rest) (tS (kk X cm) E (Ĝ m1 m2)):=dY.wk (vP h1 h2) λD σ H ⟨c,F,ρ,rel,h⟩=>⟨c,F,ρ,rel,Mf h⟩
def ZbH{i:Nat}{x:Str}{pos':Pos}(hN:X.N.Nodup)(hi:X.N[i]?=some x)(hx:Loc X.env.scope x)(he:PE X e (tO (kk X cm) E mo))(hs:swapsWith e (some (.Name x pos')) pos.line X.env=pure false:=by rfl)(hf:X.fn x=true\/X.env.scope.names.lookup x=some .local:=by first|exact .inl rfl|exact .inr rfl|assumption) :
 PS X (.Assign [.Name x pos'] e pos) (tS (kk X cm) E (Ī i mo)):=PS.wk (Wc hN hi hx he hs hf) λD σ H ⟨c,F,ρ,rel,h⟩=>⟨c,F,ρ,rel,Ŋ.bind h λr ρ1 v F1 H1 Ď s1 q h1=>by
 cases r with
 |sh p=>exact h1 _ F1 H1 (Ď.put rfl ⟨v,rfl,q⟩) (Same.refl _)
 |ow ps=>
  obtain⟨a,vs,rfl,q1,q2,q3,q4,q5⟩:=q
  exact h1 _ F1 H1 (Ď.LC ⟨a,vs,rfl,q1,q2,q3,q5⟩ λ_ z=>V.ref.inj z▸q4) (Same.refl _)
 |ot ps qs=>
  obtain⟨p,a,xs,vs,rfl,q0,qx,q1,q2,q3,q4,q5⟩:=q
  exact h1 _ F1 H1 (Ď.LC (s:=.ot ps qs) ⟨p,a,xs,vs,rfl,q0,qx,q1,q2,q3,q5⟩ λ_ z=>nM (ps:=ps) (qs:=qs) z ⟨p,xs,rfl,q0⟩▸q4) (Same.refl _)⟩
def ZbI(he:PE X e (tO (kk X cm) E mo)):PS X (.Return (some e) pos) (tS (kk X cm) E (ħ mo)):=PS.wk (Wa he) λD σ H ⟨c,F,ρ,rel,h⟩=>⟨c,F,ρ,rel,Ŋ.bind h λr ρ1 v F1 H1 Ď s1 q h1=>h1 v σ F1 H1 Ď (Same.refl _) q⟩
def uc(he:PE X e (tV (kk X cm) E mv))(hs:swapsWith e none pos.line X.env=pure false:=by rfl):PS X (.Expr e pos) (tS (kk X cm) E (rK mv)):=PS.wk (aN he hs) λD σ H ⟨c,F,ρ,rel,h⟩=>⟨c,F,ρ,rel,Ŋ.bind h λr ρ1 v F1 H1 Ď s1 q h1=>h1 σ F1 H1 Ď (Same.refl _)⟩
def Ű{t:M Bool}{ss ss':List Stmt}(hc:PT X a (tB (kk X cm) E t))(ha:dY X ss (tS (kk X cm) E m1))(hb:dY X ss' (tS (kk X cm) E m2)):PS X (.If a ss ss' pos) (tS (kk X cm) E (fK t m1 m2)):=PS.wk (Zbe hc ha hb) λD σ H ⟨c,F,ρ,rel,h⟩=>⟨c,F,ρ,rel,Ŋ.bind h λr ρ1 v F1 H1 Ď s1 q h1=>by
 have e:r=v:=q
 subst e
 cases r with
 |true=>exact⟨c,F1,ρ1,Ď,h1⟩
 |false=>exact⟨c,F1,ρ1,Ď,h1⟩⟩
abbrev Tg:=PV->Ĺ->Option Ĺ
abbrev Ei:=List PV->Ĺ->Option Ĺ
def ZbJ(K:KK)(c:Ctx)(F H:Hp)(Q:L2.St->Hp->Prop):Option Ĺ->Prop
 |some ρ'=>∀σ',Rel K c F H σ' ρ'->Q σ' H
 |none=>False
def tT(K:KK)(g:Tg):TG:=λv σ H Q=>∃c F ρ p,Rel K c F H σ ρ/\Rep K F p v/\ZbJ K c F H Q (g p ρ)
def tTs(K:KK)(g:Ei):Er:=λv σ H Q=>∃c F ρ p,Rel K c F H σ ρ/\Ĕ K F p v/\ZbJ K c F H Q (g p ρ)
def gN(i:Nat):Tg:=λp ρ=>some (ρ.set i (.sh p))
def aL:Ei:=λps ρ=>match ps with
 | []=>some ρ
 |_=>none
def Ĩ(g:Tg)(gs:Ei):Ei:=λps ρ=>match ps with
 |p::ps=>(g p ρ).bind λρ1=>gs ps ρ1
 | []=>none
def gT(n:Nat)(gs:Ei):Tg:=λp ρ=>match p with
 | .tup ps=>if ps.length=n then gs ps ρ else none
 |_=>none
def PG.wk'{tg:Expr}{t t':TG}(h:PG X tg t)(i:∀v σ H Q,t' v σ H Q->t v σ H Q):PG X tg t':=λpins s σ H v u Q I r q=>h pins s σ H v u Q I r (i v σ H Q q)
def yj.wk{tg:List Expr}{t t':Er}(h:yj X tg t)(i:∀v σ H Q,t' v σ H Q->t v σ H Q):yj X tg t':=λpins s σ H v u Q I r q=>h pins s σ H v u Q I r (i v σ H Q q)
def Gm{i:Nat}{x:Str}(hN:X.N.Nodup)(hi:X.N[i]?=some x)(hx:Loc X.env.scope x)(hf:X.fn x=true\/X.env.scope.names.lookup x=some .local:=by first|exact .inl rfl|exact .inr rfl|assumption):PG X (.Name x pos) (tT (kk X cm) (gN i)):=
 PG.wk' (Kv hN hi hx hf) λv σ H Q ⟨c,F,ρ,p,rel,rp,h⟩=>h _ (rel.put rfl ⟨v,rfl,rp⟩)
def kO:yj X [] (tTs (kk X cm) aL):=yj.wk Kw λv σ H Q ⟨c,F,ρ,p,rel,rp,h⟩=>by
 cases p with
 |nil=>
  have e:v=[]:=by have:=rp;unfold Ĕ at this;exact this
  exact⟨e,h σ rel⟩
 |cons _ _=>exact h.elim
def Ś{es:List Expr}{g:Tg}{gs:Ei}(h1:PG X e (tT (kk X cm) g))(h2:yj X es (tTs (kk X cm) gs))(hs:(assignEach (e::es) X.env).map (·.2)=assign e X.env::(assignEach es X.env).map (·.2):=by rfl):yj X (e::es) (tTs (kk X cm) (Ĩ g gs)):=
 yj.wk (Es h1 h2 hs) λv σ H Q ⟨c,F,ρ,p,rel,rp,h⟩=>by
  cases p with
  |nil=>exact h.elim
  |cons p ps=>
   unfold Ĕ at rp
   obtain⟨x,r,rfl,r1,r2⟩:=rp
   refine⟨x,r,rfl,c,F,ρ,p,rel,r1,?_⟩
   unfold Ĩ at h
   dsimp only at h
   cases eg:g p ρ with
   |none=>rw[eg] at h;exact h.elim
   |some ρ1=>rw[eg] at h;exact λσ' aA=>⟨c,F,ρ1,ps,aA,r2,h⟩
def Bt{es:List Expr}{k:Nat}{gs:Ei}{n:Nat}(hc:X.calm=true)(h:yj X es (tTs (kk X cm) gs))(hn:(assignEach es X.env).length=n:=by rfl)(hst:(assignEach es X.env).findIdx? (·.1)=none:=by rfl):PG X (.Tuple es k pos) (tT (kk X cm) (gT n gs)):=
 PG.wk' (Eu hc h hn hst) fun v σ H Q ⟨c,F,ρ,p,rel,rp,h⟩=>by
   cases p with
   |tup ps=>
    unfold Rep at rp
    obtain⟨a,xs,h1,h2,h3⟩:=rp
    unfold gT at h
    dsimp only at h
    split at h
    ·rename_i hl
     exact⟨a,xs,h1,Same.tup rel.sub h2,by rw[<-h3.length];exact hl,c,F,ρ,ps,rel,h3,h⟩
    ·exact h.elim
   |_=>exact h.elim
def Mg(g:Tg)(m:M PV):M Fl:=λρ=>(m ρ).bind λp ρ1=>match g p ρ1 with
 |some ρ2=>.ok .nx ρ2
 |none=>.bad
def O_{tg:Expr}{g:Tg}(he:PE X e (tV (kk X cm) E mv))(hg:PG X tg (tT (kk X cm) g))(hs:swapsWithSole [tg] e pos.line X.env=pure false:=by rfl)(hw:swappedStores [tg] e X.env=pure none:=by rfl)
 (h1:(assignEach [tg] X.env).map (·.2)=[assign tg X.env]:=by rfl):PS X (.Assign [tg] e pos) (tS (kk X cm) E (Mg g mv)):=PS.wk (Wb he hg hs hw h1) λD σ H ⟨c,F,ρ,rel,h⟩=>⟨c,F,ρ,rel,Ŋ.bind h λr ρ1 v F1 H1 Ď s1 q h1=>by
 refine⟨c,F1,ρ1,r,Ď,q,?_⟩
 cases eg:g r ρ1 with
 |none=>rw[eg] at h1;exact h1.elim
 |some ρ2=>rw[eg] at h1;exact λσ' aA=>h1 σ' F1 H1 aA (Same.refl _)⟩
def mQ(i:Nat)(m:M PV):M Fl:=λρ=>match ρ[i]? with
 |some (.ow _)=>(m ρ).bind λp ρ1=>match ρ1[i]? with
  |some (.ow ps)=>if ps.length<16777216 then .ok .nx (ρ1.set i (.ow (ps ++ [p]))) else .bad
  |_=>.bad
 |_=>.bad
def bH{i:Nat}{D:Ends}{σ:L2.St}{H:Hp}(h:tS (kk X cm) E (mQ i mv) D σ H):Ot (tBM X.K "list" Bf (yD i) (tL (kk X cm) E (Ą mv ę))) D σ H:=by
 obtain⟨c,F,ρ,rel,h⟩:=h
 unfold mQ at h
 cases e1:ρ[i]? with
 |none=>rw[e1] at h;exact h.elim
 |some sl=>
  rw[e1] at h
  cases sl with
  |ow ps0=>
   obtain⟨a,vs0,z1,z2,z3,z4,z5,z6⟩:=rel.ow e1
   refine⟨.ref a,z1,.inl ⟨rfl,_,ū.of z2⟩,c,F,ρ,rel,?_⟩
   dsimp only at h
   unfold Ą
   cases em:mv ρ with
   |bad=>rw[em] at h;exact h
   |exc x ρ1=>rw[em] at h;exact λC d F' H' aA s1 q=>h σ C d F' H' aA s1 q
   |ok p ρ1=>
    rw[em] at h
    intro us F1 H1 Ď s1 s2 r1
    have r1':Ĕ (kk X cm) F1 [p] us:=r1
    cases r1'.pr with
    |cons rp t=>
     rename_i v vs'
     cases t
     cases e2:ρ1[i]? with
     |none=>simp only[Res.aq,e2] at h;exact h.elim
     |some sl2=>
      simp only[Res.aq,e2] at h
      cases sl2 with
      |ow ps=>
       obtain⟨a2,vs,w1,w2,w3,w4,w5,w6⟩:=Ď.ow e2
       rw[z1] at w1
       cases w1
       dsimp only at h
       split at h
       ·rename_i hz
        refine⟨a,vs,v,rfl,rfl,w2,by rw[<-w5.length,Ĵ];exact hz,h σ F1 _ (Ď.write w6 z1 ⟨a,vs ++ [v],rfl,Ğ,w3,w4,Ĕ.append w5 (Ĕ.cons rp Ĕ.nil)⟩ λ_ z=>(V.ref.inj z).symm) s1⟩
       ·exact h.elim
      |_=>exact h.elim
  |_=>exact h.elim
def ĭ(mc:M Bool)(mb:M Fl):Nat->Ĺ->Res Fl
 |0,_=>.bad
 |n+1,ρ=>(mc ρ).bind λb ρ1=>if b=true then(mb ρ1).bind λf ρ2=>match f with
  | .nx=>ĭ mc mb n ρ2
  | .ct=>ĭ mc mb n ρ2
  | .bk=>.ok .nx ρ2
  | .rt r=>.ok (.rt r) ρ2 else .ok .nx ρ1
theorem ŝ{mc:M Bool}{mb:M Fl}(n:Nat)(ρ:Ĺ):ĭ mc mb (n+1) ρ=(mc ρ).bind λb ρ1=>if b=true then(mb ρ1).bind λf ρ2=>match f with
 | .nx=>ĭ mc mb n ρ2
 | .ct=>ĭ mc mb n ρ2
 | .bk=>.ok .nx ρ2
 | .rt r=>.ok (.rt r) ρ2 else .ok .nx ρ1:=rfl
open Classical in
noncomputable def Ş(mc:M Bool)(mb:M Fl):M Fl:=λρ=>if h:∃n,ĭ mc mb n ρ≠ .bad then ĭ mc mb (Classical.choose h) ρ else .bad
theorem fY{mc:M Bool}{mb:M Fl}:∀(n:Nat) (ρ:Ĺ),ĭ mc mb n ρ≠ .bad->ĭ mc mb (n+1) ρ=ĭ mc mb n ρ
 |0,ρ,h=>absurd rfl h
 |n+1,ρ,h=>by
  rw[ŝ] at h
  rw[ŝ (n+1),ŝ n]
  cases e:mc ρ with
  |bad=>rfl
  |exc x ρ1=>rfl
  |ok b ρ1=>
   rw[e] at h
   simp only[Res.aq] at h ⊢
   cases b with
   |false=>rfl
   |true=>
    simp only[if_true] at h ⊢
    cases e2:mb ρ1 with
    |bad=>rfl
    |exc x ρ2=>rfl
    |ok f ρ2=>
     rw[e2] at h
     simp only[Res.aq] at h ⊢
     cases f with
     |nx=>exact fY n ρ2 h
     |ct=>exact fY n ρ2 h
     |bk=>rfl
     |rt r=>rfl
def rM{mc:M Bool}{mb:M Fl}{n m:Nat}{ρ:Ĺ}(h:ĭ mc mb n ρ≠ .bad)(hm:n<=m):ĭ mc mb m ρ=ĭ mc mb n ρ:= by
 induction hm with
 |refl=>rfl
 |step _ ih=>rw[fY _ _ (by rw[ih];exact h),ih]
def Ť{mc:M Bool}{mb:M Fl}{ρ:Ĺ}(n:Nat)(h:ĭ mc mb n ρ≠ .bad):Ş mc mb ρ=ĭ mc mb n ρ:= by
 unfold Ş
 have hx:∃n,ĭ mc mb n ρ≠ .bad:=⟨n,h⟩
 rw[dif_pos hx]
 have hc:=Classical.choose_spec hx
 rcases Nat.le_total n (Classical.choose hx) with hle|hle
 ·exact rM h hle
 ·exact(rM hc hle).symm
theorem fZ{mc:M Bool}{mb:M Fl}{ρ:Ĺ}:Ş mc mb ρ=(mc ρ).bind λb ρ1=>if b=true then(mb ρ1).bind λf ρ2=>match f with
 | .nx=>Ş mc mb ρ2
 | .ct=>Ş mc mb ρ2
 | .bk=>.ok .nx ρ2
 | .rt r=>.ok (.rt r) ρ2 else .ok .nx ρ1:=by
 have go:∀ρ2,Ş mc mb ρ2=.bad\/∃n,Ş mc mb ρ2=ĭ mc mb n ρ2/\ĭ mc mb n ρ2≠ .bad:=λρ2=>by
  by_cases hx:∃n,ĭ mc mb n ρ2≠ .bad
  ·obtain⟨n,h⟩:=hx
   exact .inr ⟨n,Ť n h,h⟩
  ·left;unfold Ş;rw[dif_neg hx]
 have Zd9:∀ρ2,Ş mc mb ρ2=.bad->∀n,ĭ mc mb n ρ2=.bad:=λρ2 h n=>by
  refine Classical.byContradiction λz=>?_
  rw[Ť n z] at h
  exact z h
 have fin:∀n,ĭ mc mb (n+1) ρ≠ .bad->Ş mc mb ρ=ĭ mc mb (n+1) ρ:= λn h=>Ť _ h
 cases e:mc ρ with
 |bad=>rcases go ρ with h|⟨n,h1,h2⟩
       ·rw[h];rfl
       ·cases n with
        |zero=>exact absurd rfl h2
        |succ n=>rw[ŝ,e] at h2;exact absurd rfl h2
 |exc x ρ1=>
  have h:ĭ mc mb 1 ρ=.exc x ρ1:=by rw[ŝ,e];rfl
  rw[Ť 1 (by rw[h];intro z;cases z),h];rfl
 |ok b ρ1=>
  simp only[Res.aq]
  cases b with
  |false=>
   have h:ĭ mc mb 1 ρ=.ok .nx ρ1:=by rw[ŝ,e];rfl
   rw[Ť 1 (by rw[h];intro z;cases z),h];rfl
  |true=>
   simp only[if_true]
   have one:∀n,ĭ mc mb (n+1) ρ=(mb ρ1).bind λf ρ2=>match f with
    | .nx=>ĭ mc mb n ρ2
    | .ct=>ĭ mc mb n ρ2
    | .bk=>.ok .nx ρ2
    | .rt r=>.ok (.rt r) ρ2:=λn=>by rw[ŝ,e];rfl
   cases e2:mb ρ1 with
   |bad=>
    rcases go ρ with h|⟨n,h1,h2⟩
    ·rw[h];rfl
    ·cases n with
     |zero=>exact absurd rfl h2
     |succ n=>rw[one,e2] at h2;exact absurd rfl h2
   |exc x ρ2=>
    have h:ĭ mc mb 1 ρ=.exc x ρ2:=by rw[one,e2];rfl
    rw[Ť 1 (by rw[h];intro z;cases z),h];rfl
   |ok f ρ2=>
    have turn:(∀n,ĭ mc mb (n+1) ρ=ĭ mc mb n ρ2)->Ş mc mb ρ=Ş mc mb ρ2:=λhn=>by
     rcases go ρ2 with h|⟨n,h1,h2⟩
     ·rcases go ρ with h'|⟨n,h1,h2⟩
      ·rw[h,h']
      ·cases n with
       |zero=>exact absurd rfl h2
       |succ n=>rw[hn,Zd9 ρ2 h n] at h2;exact absurd rfl h2
     ·rw[h1,<-hn n]
      exact fin n (by rw[hn n];exact h2)
    cases f with
    |nx=>exact turn λn=>by rw[one,e2];rfl
    |ct=>exact turn λn=>by rw[one,e2];rfl
    |bk=>
     have h:ĭ mc mb 1 ρ=.ok .nx ρ2:=by rw[one,e2];rfl
     rw[Ť 1 (by rw[h];intro z;cases z),h];rfl
    |rt r=>
     have h:ĭ mc mb 1 ρ=.ok (.rt r) ρ2:=by rw[one,e2];rfl
     rw[Ť 1 (by rw[h];intro z;cases z),h];rfl
def Mh{c:Expr}{body:List Stmt}{mc:M Bool}{mb:M Fl}(hp:PassesOwn (model X.prog X.w) X.A X.env X.xe)(hc:PT X c (tB (kk X cm) E mc))(hb:dY X body (tS (kk X cm) E mb)):PS X (.While c body [] pos) (tS (kk X cm) E (Ş mc mb)):=PS.wk (Ew hp hc hb) λD σ H ⟨c,F,ρ,rel,h⟩=>by
 obtain⟨n,hn⟩:∃n,Ŋ (kk X cm) E c F D (ĭ mc mb n ρ):=by
  by_cases hx:∃n,ĭ mc mb n ρ≠ .bad
  ·obtain⟨n,hn⟩:=hx
   rw[Ť n hn] at h
   exact⟨n,h⟩
  ·unfold Ş at h
   rw[dif_neg hx] at h
   exact h.elim
 refine⟨λm σ' H'=>∃F2 ρ2,Rel (kk X cm) c F2 H' σ' ρ2/\Same F F2/\Ŋ (kk X cm) E c F2 D (ĭ mc mb m ρ2),⟨n,F,ρ,rel,Same.refl _,hn⟩,?_⟩
 rintro m σ1 H1 ⟨F1,ρ1,Ď,s1,h1⟩
 cases m with
 |zero=>exact h1.elim
 |succ m=>
  rw[ŝ] at h1
  refine⟨c,F1,ρ1,Ď,Ŋ.bind h1 λk ρ2 v F2 H2 ĳ s2 q h2=>?_⟩
  have e:k=v:=q
  subst e
  cases k with
  |false=>
   rw[if_neg Bool.false_ne_true]
   rw[if_neg Bool.false_ne_true] at h2
   exact h2 σ1 F2 H2 ĳ (Same.refl _)
  |true=>
   rw[if_pos rfl]
   rw[if_pos rfl] at h2
   refine⟨_,λσ' H' z=>z,c,F2,ρ2,ĳ,?_⟩
   have nxt:∀{ρ3:Ĺ},Ŋ (kk X cm) E c F2 D (ĭ mc mb m ρ3)->∀σ' F' H',Rel (kk X cm) c F' H' σ' ρ3->Same F2 F'->∃m',m'<m+1/\∃F2 ρ2,Rel (kk X cm) c F2 H' σ' ρ2/\Same F F2/\Ŋ (kk X cm) E c F2 D (ĭ mc mb m' ρ2):=
    fun{ρ3} h3 σ' F' H' aA s'=>⟨m,Nat.lt_succ_self m,F',ρ3,aA,(s1.trans s2).trans s',Ŋ.mono h3 s'⟩
   cases e2:mb ρ2 with
   |bad=>rw[e2] at h2;exact h2
   |exc x ρ3=>rw[e2] at h2;exact h2
   |ok f ρ3=>
    rw[e2] at h2
    cases f with
    |nx=>exact nxt h2
    |ct=>exact nxt h2
    |bk=>exact h2
    |rt r=>exact h2
def Mi(K:KK)(Lh F:Hp)(J:It)(items:List PV):Prop:=∀(c:Ctx) (i:Nat) (F2 H:Hp) (σ:L2.St) (ρ:Ĺ),Rel K c F2 H σ ρ->Same F F2->Same Lh H->
 (∀p,items[i]?=some p->J.go i H/\∀x H',J.yld i H x H'->∃F3,Rel K c F3 H' σ ρ/\Same F2 F3/\Same H H'/\Rep K F3 p x)/\(i=items.length->J.stop i H)
def rIt(K:KK):RR (List PV) It:=λc _ _ F _ items J=>Mi K c.L F J items
abbrev tI(K:KK)(E:L2.St->XK)(m:M (List PV)):TI:=tG K E (rIt K) m
def forL(g:Tg)(mb:M Fl):List PV->M Fl
 | [],ρ=>.ok .nx ρ
 |p::ps,ρ=>match g p ρ with
  |none=>.bad
  |some ρ1=>(mb ρ1).bind λf ρ2=>match f with
   | .nx=>forL g mb ps ρ2
   | .ct=>forL g mb ps ρ2
   | .bk=>.ok .nx ρ2
   | .rt r=>.ok (.rt r) ρ2
def kW(mi:M (List PV))(g:Tg)(mb:M Fl):M Fl:=λρ=>(mi ρ).bind λitems ρ1=>forL g mb items ρ1
def gb{iter tg:Expr}{body:List Stmt}{mi:M (List PV)}{g:Tg}{mb:M Fl}(hp:PassesOwn (model X.prog X.w) X.A X.env X.xe)(hc:X.calm=true)(hi:PI X tg iter (tI (kk X cm) E mi))(hg:PG X tg (tT (kk X cm) g))(hb:dY X body (tS (kk X cm) E mb))
 (hs:∀x,foldedSetIterable iter X.env x=pure x:=by intro _;rfl):PS X (.For tg iter body [] pos) (tS (kk X cm) E (kW mi g mb)):=PS.wk (Wg hp hc hi hg hb hs) λD σ H ⟨c,F,ρ,rel,h⟩=>⟨c,F,ρ,rel,Ŋ.bind h λitems ρ1 J F1 H1 Ď s1 ito h1=>by
 refine⟨λi m σ' H'=>∃F2 ρ2,i<=items.length/\m=items.length-i/\Rel (kk X cm) c F2 H' σ' ρ2/\Same F1 F2/\Ŋ (kk X cm) E c F2 D (forL g mb (items.drop i) ρ2),⟨_,F1,ρ1,Nat.zero_le _,rfl,Ď,Same.refl _,h1⟩,?_⟩
 rintro i m σ2 H2 ⟨F2,ρ2,hle,rfl,ĳ,s2,h2⟩
 obtain⟨go,stop⟩:=ito c i F2 H2 σ2 ρ2 ĳ s2 λb u e=>(ĳ.lent b u e).1
 by_cases hlt:i<items.length
 ·obtain⟨g1,g2⟩:=go items[i] (List.getElem?_eq_getElem hlt)
  rw[List.drop_eq_getElem_cons hlt] at h2
  unfold forL at h2
  refine .inr ⟨g1,_,λσ' H' z=>z,λx H3 hy=>?_⟩
  obtain⟨F3,oM,s3,_,rp⟩:=g2 x H3 hy
  refine⟨c,F3,ρ2,items[i],oM,rp,?_⟩
  cases eg:g items[i] ρ2 with
  |none=>rw[eg] at h2;exact h2.elim
  |some ρ3=>
   rw[eg] at h2
   dsimp only at h2
   intro σ4 Gj
   refine⟨c,F3,ρ3,Gj,?_⟩
   have nxt:∀{ρ4:Ĺ},Ŋ (kk X cm) E c F2 D (forL g mb (items.drop (i+1)) ρ4)->∀σ' F' H',Rel (kk X cm) c F' H' σ' ρ4->Same F3 F'->∃m',m'<items.length-i/\∃F2 ρ2,i+1<=items.length/\m'=items.length-(i+1)/\Rel (kk X cm) c F2 H' σ' ρ2/\Same F1 F2/\Ŋ (kk X cm) E c F2 D (forL g mb (items.drop (i+1)) ρ2):=
    fun{ρ4} h3 σ' F' H' aA s'=>⟨items.length-(i+1),by omega,F',ρ4,hlt,rfl,aA,(s2.trans s3).trans s',Ŋ.mono h3 (s3.trans s')⟩
   have h2':=Ŋ.mono h2 s3
   cases e2:mb ρ3 with
   |bad=>rw[e2] at h2;exact h2
   |exc x ρ4=>rw[e2] at h2';exact h2'
   |ok f ρ4=>
    rw[e2] at h2 h2'
    cases f with
    |nx=>exact nxt h2
    |ct=>exact nxt h2
    |bk=>exact h2'
    |rt r=>exact h2'
 ·have e:i=items.length:=by omega
  refine .inl ⟨stop e,?_⟩
  rw[List.drop_eq_nil_of_le (by omega)] at h2
  unfold forL at h2
  exact h2 σ2 F2 H2 ĳ (Same.refl _)⟩
end
end P
namespace P
open PySem PySem.Spec PyProof.Rows L2 M2 M3
inductive FR where
 |ret (r:RV)|exc (x:PX)|bad
abbrev MF:=List Slot->FR
def FR.of:Res Fl->FR
 | .ok (.rt r) _=>.ret r
 | .ok .nx _=>.ret (.sh .non)
 | .exc x _=>.exc x
 |_=>.bad
def į(n k:Nat)(mb:M Fl):MF:=λas=>if as.length=n then FR.of (mb (startP k as)) else .bad
def rF(K:KK)(H F' H':Hp):RV->V->Prop
 | .sh p,v=>Rep K F' p v
 | .ow ps,v=>∃a vs,v=.ref a/\H' a=some (.lst vs)/\F' a=none/\H a=none/\Ĕ K F' ps vs
 | .ot ps qs,v=>∃p a xs vs,v=.ref p/\F' p=some (.tup (xs ++ [.ref a]))/\Ĕ K F' ps xs/\H' a=some (.lst vs)/\F' a=none/\H a=none/\Ĕ K F' qs vs
def Zd_(K:KK)(E:XK)(F H:Hp)(Q:VK):FR->Prop
 | .ret r=>∀v F' H',Gr F H F' H'->rF K H F' H' r v->Q v H'
 | .exc x=>∀C d F' H',Gr F H F' H'->Dk K F' x C d->E C d H'
 | .bad=>False
def š(K:KK)(n:Nat)(mf:MF):Sp:=λvs H Q E=>∃F as,as.length=n/\Same F H/\Paired (aW K F H) as vs/\Zd_ K E F H Q (mf as)
def ŷ(CX:lO)(X:Cx)(E:L2.St->XK):Prop:=∀(pins:List (Addr×Obj)) (σ:L2.St) (H:Hp) (s:Shared) (e:Value) (s':Shared),Inv X pins σ H s->CX X.stack H s (E σ) e s'->X.xe e s'
section
variable{P:Program}{w:World}{K:PySem.W.Frag}{cm:String->Addr}{mg:Str->Option Value}{base:Heap}{CX:lO}
def fnP{x qual:Str}{st:Stmt}{f:Addr}{fd:FuncData}{N ps:List Str}{k:Nat}{mb:M Fl}(F:Ec K x qual st f fd)(S:ĉ N ps (ć st))
 (hbody:∀(cdv:Value) (A:Around) (outer:List Env) (s:Shared) (H:Hp) (E:XK),Ő k (A.deeper (envOfC qual (ć st) s.heap.objs.size f cdv))→
   dY (ž CX P w K mg base N qual (ć st) f cdv A outer s H E) (ň st) (tS ⟨K,cm⟩ (λ_=>E) mb)):ģ P w K mg base CX (k+1) f fd ps (š ⟨K,cm⟩ ps.length (į ps.length N.length mb)):=by
 obtain⟨oc,od,kV,doc,pm,an,cdv,ct,osl,rfl,lk,hcd⟩:=F.ex
 refine Bc lk hcd S (λvs H Q E ⟨F,ps',h1,_,h2,_⟩=>by rw[<-Paired.length h2];exact h1) λA outer s H vs Q E hr hsp=>?_
 obtain⟨F,ps',h1,h2,h3,h4⟩:=hsp
 refine⟨_,hbody cdv A outer s H E hr,ctx0 F H,F,startP N.length ps',Rel.start h2 h3,?_⟩
 unfold į at h4
 rw[if_pos h1] at h4
 cases e:mb (startP N.length ps') with
 |bad=>rw[e] at h4;exact h4
 |exc x ρ'=>rw[e] at h4;exact λσ' C d F' H' rel s1 q=>h4 C d F' H' rel.gr q
 |ok fl ρ'=>
  rw[e] at h4
  cases fl with
  |nx=>exact λσ' F' H' rel s1=>h4 .non F' H' rel.gr (Rep.non (K:=⟨K,cm⟩) (F:=F'))
  |bk=>exact h4.elim
  |ct=>exact h4.elim
  |rt r=>
   intro v σ' F' H' rel s1 q
   refine h4 v F' H' rel.gr ?_
   cases r with
   |sh p=>exact q
   |ow qs=>
    obtain⟨a,vs',e1,e2,e3,e4,_,e5⟩:=q
    exact⟨a,vs',e1,e2,e3,e4,e5⟩
   |ot qs ts=>
    obtain⟨p,a,xs,vs',e1,e0,ex,e2,e3,e4,_,e5⟩:=q
    exact⟨p,a,xs,vs',e1,e0,ex,e2,e3,e4,e5⟩
def fnQ{x qual:Str}{st:Stmt}{f:Addr}{fd:FuncData}{N ps:List Str}{k n j:Nat}{mb:M Fl}{mf:MF}(F:Ec K x qual st f fd)(S:ĉ N ps (ć st))(hn:ps.length=n)(hj:N.length=j)(hf:mf=į n j mb)
 (hbody:∀(cdv:Value) (A:Around) (outer:List Env) (s:Shared) (H:Hp) (E:XK),Ő k (A.deeper (envOfC qual (ć st) s.heap.objs.size f cdv))→
   dY (ž CX P w K mg base N qual (ć st) f cdv A outer s H E) (ň st) (tS ⟨K,cm⟩ (λ_=>E) mb)):ģ P w K mg base CX (k+1) f fd ps (š ⟨K,cm⟩ n mf):=by
 subst hn hj hf
 exact fnP F S hbody
end
def Ē(mf:MF)(mr:M (List Slot)):M RV:=λρ=>(mr ρ).bind λps ρ1=>match mf ps with
 | .ret r=>.ok r ρ1
 | .exc x=>.exc x ρ1
 | .bad=>.bad
section
variable{X:Cx}{cm:String->Addr}{E:L2.St->XK}{CX:lO}{k n:Nat}{f:Addr}{fd:FuncData}{ps:List Str}{mf:MF}{mr:M (List Slot)}{x:Str}{p pos:Pos}{e:Expr}{es:List Expr}
def Bu{sp:Sp}{pins:List (Addr×Obj)}{σ:L2.St}{H:Hp}{s:Shared}{Q:VK}{us:List Value}{vs:List V}(F:ģ X.prog X.w X.K X.mg X.base CX k f fd ps sp)(hr:Ő k X.A)(hb:Binds X.K fd ps [])(hx:ŷ CX X E)
 (I:Inv X pins σ H s)(r:Vals vs us)(h:sp vs H Q (E σ)):wpAny (model X.prog X.w) X.A (call (.ref f) us) (EP X pins σ Q) X.xe s:=by
 have hl:(us ++ []).length=ps.length:=by rw[List.append_nil,<-r.length];exact F.len _ _ _ _ h
 have hbd:=hb s us I.dz hl
 rw[List.append_nil] at hbd
 refine wpAny_call (codeAny_mono (F.run X.A X.stack s H ⟨us,[]⟩ us vs Q (E σ) hr I.env0 hbd r h) λr s' hq=>?_)
 cases r with
 |error e=>exact hx pins σ H s e s' I hq
 |ok fl=>
  cases fl with
  |ret u=>exact I.after hq
  |next=>exact False.elim hq
  |brk=>exact False.elim hq
  |cont=>exact False.elim hq
def vZ{c:Ctx}{F1 H1:Hp}{σ:L2.St}{ρ1:Ĺ}{Q:VK}{ps:List Slot}{vs:List V}(hlen:(∃r,mf ps=r/\∀z,r=z->z≠ .bad)->ps.length=n)(Ď:Rel (kk X cm) c F1 H1 σ ρ1)(r1:Paired (aW (kk X cm) F1 H1) ps vs)
 (h:aj (kk X cm) E (rO (kk X cm)) c F1 H1 σ Q (match mf ps with| .ret r=>.ok r ρ1| .exc x=>.exc x ρ1| .bad=>.bad)):š (kk X cm) n mf vs H1 Q (E σ):=by
 refine⟨F1,ps,?_,Ď.sub,r1,?_⟩
 ·refine hlen ⟨_,rfl,λz hz hb=>?_⟩
  rw[hz,hb] at h
  exact h
 ·cases em:mf ps with
  |bad=>rw[em] at h;exact h
  |exc x=>rw[em] at h;exact λC d F' H' g rx=>h C d F' H' (Ď.call g) g.f rx
  |ret r=>
   rw[em] at h
   intro v F' H' g rf
   refine h v F' H' (Ď.call g) g.f g.h ?_
   cases r with
   |sh p=>exact rf
   |ow qs=>
    obtain⟨a,vs',e1,e2,e3,e4,e5⟩:=rf
    exact⟨a,vs',e1,e2,e3,Ď.base.free e4,Ď.tX g.f (Ď.fresh e4),e5⟩
   |ot qs ts=>
    obtain⟨p,a,xs,vs',e1,e0,ex,e2,e3,e4,e5⟩:=rf
    exact⟨p,a,xs,vs',e1,e0,ex,e2,e3,Ď.base.free e4,Ď.tX g.f (Ď.fresh e4),e5⟩
def cY{n k:Nat}{mb:M Fl}{ps:List Slot}(h:∃r,į n k mb ps=r/\∀z,r=z->z≠ .bad):ps.length=n:=by
 obtain⟨r,h1,h2⟩:=h
 unfold į at h1
 by_cases hl:ps.length=n
 ·exact hl
 ·rw[if_neg hl] at h1
  exact absurd h1.symm (λz=>h2 .bad (by rw[<-h1]) rfl)
def Xq(F:ģ X.prog X.w X.K X.mg X.base CX k f fd ps (š (kk X cm) n mf))(hlen:∀{ps:List Slot},(∃r,mf ps=r/\∀z,r=z->z≠ .bad)->ps.length=n)(hr:Ő k X.A)(hg:Gl X x)(hm:X.mg x=some (.ref f))(hk:PySem.W.keepIn X.K (.ref f)=true)(hb:Binds X.K fd ps [])(hx:ŷ CX X E)
 (ha:PA X (e::es) (tA (kk X cm) E mr))(hdb:(x== ("__debug__" :Str))=false:=by decide)(he:starEach (e::es) X.env=(false,eval e X.env)::starEach es X.env:=by exact bF rfl)(hpl:(backTo pos (starEach es X.env)).any (·.1)=false:=by rfl) :
 PE X (.Call (.Name x p) (e::es) [] pos) (tO (kk X cm) E (Ē mf mr)):=by
 intro pins s σ H Q I h
 obtain⟨c,F,ρ,rel,h⟩:=h
 refine wpAny_Call_Name_kw (gZ I hg hm ?_ hdb)
 refine PySem.W.callWith_K (h₀:= X.base) I.ok.mod.kin hk (ł (ha pos pins s σ H (λvs H1=>š (kk X cm) n mf vs H1 Q (E σ)) I ⟨c,F,ρ,rel,h.bind λps' ρ1 vs F1 H1 Ď _ _ r1 h1=>vZ hlen Ď r1 h1⟩) λus s1 ⟨vs,H1,I1,r,q⟩=>⟨I1.dz,?_⟩) he hpl
 exact Bu (by assumption) hr hb hx I1 r q
end
def ũ(m:M PV):M (List PV):=λρ=>(m ρ).bind λp ρ1=>match p with
 | .lst ps=>.ok ps ρ1
 | .tup ps=>.ok ps ρ1
 | .str z=>.ok (z.cps.toList.map λc=>.str ⟨#[c]⟩) ρ1
 |_=>.bad
section
variable{X:Cx}{cm:String->Addr}{E:L2.St->XK}{tg:Expr}
def Zea(K:PySem.W.Frag)(tl:TE):TI:=λσ H R=>tl σ H λx H1=>(∃a,x=.ref a/\(∃xs,ū K H1 a xs)/\R (Itl K a) H1)\/(∃a,x=.ref a/\(∃xs,fC K H1 a xs)/\R (Itt K a) H1)\/∃z,x=.str z/\R (Its z) H1
def Gn{l:Expr}{tl:TE}(hl:PE X l tl):PI X tg l (Zea X.K tl):=by
 intro pins s σ H R I h
 refine ł (hl pins s σ H _ I h) λv s1 ⟨x,H1,I1,r1,q1⟩=>?_
 rcases q1 with⟨a,e,⟨xs,hq⟩,q⟩|⟨a,e,⟨xs,hq⟩,q⟩|⟨z,e,q⟩
 ·subst e
  cases r1
  obtain⟨its,rv,p,hz⟩:=I1.list hq
  refine wpAny_pyIter_list p.isList ?_
  refine⟨s1.heap.objs.size,[s1.heap.objs.size],_,_,H1,rfl,I1.kept (t':=s1.toks) λb o e=>Heap.get?_push_of_some _ e,CN a _,⟨_,Heap.get?_push_size _ rfl,rfl,rfl⟩,λb hb=>?_,q⟩
  have e:b=s1.heap.objs.size:=by simpa using hb
  subst e
  exact I1.tK (Nat.le_refl _) (I1.hok.fresh (Nat.le_refl _))
 ·subst e
  cases r1
  obtain⟨its,rv,p,hz⟩:=I1.tuple hq
  refine wpAny_pyIter_tuple (show s1.heap.IsTuple a its.toArray from p) ?_
  refine⟨s1.heap.objs.size,[s1.heap.objs.size],_,_,H1,rfl,I1.kept (t':=s1.toks) λb o e=>Heap.get?_push_of_some _ e,yE a _,⟨_,Heap.get?_push_size _ rfl,rfl,rfl⟩,λb hb=>?_,q⟩
  have e:b=s1.heap.objs.size:=by simpa using hb
  subst e
  exact I1.tK (Nat.le_refl _) (I1.hok.fresh (Nat.le_refl _))
 ·subst e
  obtain⟨t,rfl⟩:=r1
  have fin:∀ty,(∀A:Around,A.handled=none->Walks X.prog X.w A s1.heap.objs.size [s1.heap.objs.size] [s1.heap.objs.size] z.cps.size (SignAt z) (λi h=>h.IsStrIter s1.heap.objs.size ty z t i))->
   (∀(A:Around) (i:Nat) (s:Shared) (Q:Value->Shared->Prop) (E:Value->Shared->Prop),s.heap.IsStrIter s1.heap.objs.size ty z t i->Q (.ref s1.heap.objs.size) s->wpAny (model X.prog X.w) A (pyIter (.ref s1.heap.objs.size)) Q E s)->
   (["enumerate","zip","dict_itemiterator","dict_reverseitemiterator","odict_iterator","itertools.zip_longest","itertools.pairwise"].contains ty=false)->
   PIE X pins σ tg R (.ref s1.heap.objs.size) {s1 with heap:=s1.heap.push {cls:=.type ty,data:=.fields #[.str z t,.int 0 0]}}:=λty hW hS hty=>by
   refine⟨s1.heap.objs.size,[s1.heap.objs.size],_,_,H1,rfl,I1.kept (t':=s1.toks) λb o e=>Heap.get?_push_of_some _ e,Di _ z t ty hW hS hty,⟨_,Heap.get?_push_size _ rfl,rfl,rfl⟩,λb hb=>?_,q⟩
   have e:b=s1.heap.objs.size:=by simpa using hb
   subst e
   exact I1.tK (Nat.le_refl _) (I1.hok.fresh (Nat.le_refl _))
  cases ha:z.cps.all (·< 128) with
  |true=>exact wpAny_pyIter_ascii ha (fin _ (λA hA=>Walks.strAscii hA _ z t) (λA i s Q E st q=>wpAny_pyIter_striter_ascii st q) (by decide))
  |false=>exact wpAny_pyIter_wide ha (fin _ (λA hA=>Walks.strWide hA _ z t) (λA i s Q E st q=>wpAny_pyIter_striter_wide st q) (by decide))
def iQ{l:Expr}{m:M PV}(hl:PE X l (tV (kk X cm) E m)):PI X tg l (tI (kk X cm) E (ũ m)):=λpins s σ H R I h=>Gn hl pins s σ H R I (by
 obtain⟨c,F,ρ,rel,h⟩:=h
 refine⟨c,F,ρ,rel,h.bind λp ρ1 v F1 H1 Ď s1 s2 q h1=>?_⟩
 cases p with
 |lst ps=>
  have q':Rep (kk X cm) F1 (.lst ps) v:=q
  unfold Rep at q'
  obtain⟨a,vs,rfl,e1,e2⟩:=q'
  refine .inl ⟨a,rfl,⟨vs,Ď.sub.seq e1⟩,h1 _ F1 H1 Ď (Same.refl _) (Same.refl _) ?_⟩
  intro c' i F2 H2 σ2 ρ2 ĳ sF _
  have hq:ū X.K H2 a vs:=(sF.trans ĳ.sub).seq e1
  refine⟨λp hp=>?_,λhi=>⟨vs,hq,by rw[hi,e2.length];exact Nat.le_refl _⟩⟩
  obtain⟨u,hu,ru⟩:=aV e2.pr hp
  refine⟨⟨vs,u,hq,hu⟩,λx H' ⟨hH,hx⟩=>?_⟩
  subst hH
  have:vs[i]?=some x:=hx vs hq
  rw[hu] at this
  cases this
  exact⟨F2,ĳ,Same.refl _,Same.refl _,Rep.same sF p u ru⟩
 |tup ps=>
  have q':Rep (kk X cm) F1 (.tup ps) v:=q
  unfold Rep at q'
  obtain⟨a,vs,rfl,e1,e2⟩:=q'
  refine .inr (.inl ⟨a,rfl,⟨vs,Same.tup Ď.sub e1⟩,h1 _ F1 H1 Ď (Same.refl _) (Same.refl _) ?_⟩)
  intro c' i F2 H2 σ2 ρ2 ĳ sF _
  have hq:fC X.K H2 a vs:=Same.tup (sF.trans ĳ.sub) e1
  refine⟨λp hp=>?_,λhi=>⟨vs,hq,by rw[hi,e2.length];exact Nat.le_refl _⟩⟩
  obtain⟨u,hu,ru⟩:=aV e2.pr hp
  refine⟨⟨vs,u,hq,hu⟩,λx H' ⟨hH,hx⟩=>?_⟩
  subst hH
  have:vs[i]?=some x:=hx vs hq
  rw[hu] at this
  cases this
  exact⟨F2,ĳ,Same.refl _,Same.refl _,Rep.same sF p u ru⟩
 |str z=>
  have q':v=.str z:=by have q':Rep (kk X cm) F1 (.str z) v:=q;unfold Rep at q';exact q'
  subst q'
  refine .inr (.inr ⟨z,rfl,h1 _ F1 H1 Ď (Same.refl _) (Same.refl _) ?_⟩)
  intro c' i F2 H2 σ2 ρ2 ĳ sF _
  refine⟨λp hp=>?_,λhi=>by rw[hi,List.length_map];show _=_;simp⟩
  rw[List.getElem?_map] at hp
  cases ez:z.cps.toList[i]? with
  |none=>rw[ez] at hp;cases hp
  |some cc=>
   rw[ez] at hp
   cases hp
   refine⟨by have:=(List.getElem?_eq_some_iff.mp ez).1;show i<z.cps.size;simpa using this,λx H' ⟨hH,c2,hc,hx⟩=>?_⟩
   subst hH hx
   rw[ez] at hc
   cases hc
   exact⟨F2,ĳ,Same.refl _,Same.refl _,Rep.str⟩
 |_=>exact h1.elim)
def ŗ(i:Nat):M (List PV):=λρ=>match ρ[i]? with
 |some (.bw ps)=>.ok ps ρ
 |some (.sh (.lst ps))=>.ok ps ρ
 |some (.sh (.tup ps))=>.ok ps ρ
 |some (.sh (.str z))=>.ok (z.cps.toList.map λc=>.str ⟨#[c]⟩) ρ
 |some (.ow ps)=>.ok ps (ρ.set i (.sh (.lst ps)))
 |_=>.bad
def aG(i:Nat){x:Str}{px:Pos}(hN:X.N[i]?=some x:=by rfl)(hv:Ax X.env.scope x:=by first|exact Or.inl rfl|exact Or.inr (Or.inl rfl)|exact Or.inr (Or.inr rfl))(hd:(x== ("__debug__" :Str))=false:=by decide)
 (hcd:(x== ("__classdict__" :Str))=false:=by decide):PI X tg (.Name x px) (tI (kk X cm) E (ŗ i)):=λpins s σ H R I h=>by
 obtain⟨c,F,ρ,rel,h⟩:=h
 cases e:ρ[i]? with
 |none=>unfold ŗ at h;rw[e] at h;exact h.elim
 |some sl=>
  have Mj:aj (kk X cm) E (rIt (kk X cm)) c F H σ R (ũ (ě i) ρ)->wpAny (model X.prog X.w) X.A (eval (.Name x px) X.env) (λv s1=>wpAny (model X.prog X.w) X.A (pyIter v) (PIE X pins σ tg R) X.xe s1) X.xe s:=λh'=>
   iQ (v_var i hN hv hd hcd) pins s σ H R I ⟨c,F,ρ,rel,h'⟩
  unfold ŗ at h
  rw[e] at h
  cases sl with
  |no=>exact h.elim
  |rc C ns ps=>exact h.elim
  |ot ps qs=>exact h.elim
  |ol Eh=>exact h.elim
  |ow ps=>exact Mj (by unfold ũ ě;rw[e];exact h)
  |sh p=>
   cases p with
   |lst ps=>exact Mj (by unfold ũ ě;rw[e];exact h)
   |tup ps=>exact Mj (by unfold ũ ě;rw[e];exact h)
   |str z=>exact Mj (by unfold ũ ě;rw[e];exact h)
   |_=>exact h.elim
  |bw ps=>
   obtain⟨a,vs,h1,h2,h3⟩:=rel.slot i _ e
   refine Gn (jk hN hv hd hcd) pins s σ H R I ⟨.ref a,at_of h1,.inl ⟨a,rfl,⟨vs,ū.of (rel.lent a _ h2).1⟩,h _ F H rel (Same.refl _) (Same.refl _) ?_⟩⟩
   intro c' j F2 H2 σ2 ρ2 ĳ sF sL
   have hq:ū X.K H2 a vs:=ū.of (sL a _ h2)
   refine⟨λp hp=>?_,λhi=>⟨vs,hq,by rw[hi,h3.length];exact Nat.le_refl _⟩⟩
   obtain⟨u,hu,ru⟩:=aV h3.pr hp
   refine⟨⟨vs,u,hq,hu⟩,λx H' ⟨hH,hx⟩=>?_⟩
   subst hH
   have:vs[j]?=some x:=hx vs hq
   rw[hu] at this
   cases this
   exact⟨F2,ĳ,Same.refl _,Same.refl _,Rep.same sF p u ru⟩
def gj(lo:Int)(n:Nat)(c:Int):List PV:=(List.range n).map λ(i:Nat)=>.int (lo+i*c)
def oO(i:Int):Bool:=decide (i.natAbs<1152921504606846976)
def bI:List PV->Option (List PV)
 | [.int j]=>if oO j=true then some (gj 0 j.toNat 1) else none
 |_=>none
def cA(f:List PV->Option (List PV))(mr:M (List PV)):M (List PV):=λρ=>(mr ρ).bind λps ρ1=>Res.nO (f ps) ρ1
def yX{lo c:Int}{n i:Nat}{p:PV}(h:(gj lo n c)[i]?=some p):i<n/\p=.int (lo+i*c):=by
 unfold gj at h
 by_cases hn:i<n
 ·rw[List.getElem?_map,List.getElem?_range hn] at h
  exact⟨hn,(Option.some.inj h).symm⟩
 ·rw[List.getElem?_eq_none (by simpa using hn)] at h
  cases h
def yZ{lo c:Int}{n:Nat}:(gj lo n c).length=n:=by simp[gj]
def Xr{K:KK}{Lh F:Hp}(lo:Int)(n:Nat):Mi K Lh F (Itr lo n) (gj lo n 1):=λc i F2 H σ ρ rel sF _=>
 ⟨fun p hp=>by
   obtain⟨h1,rfl⟩:=yX hp
   refine⟨h1,λx H' ⟨e1,e2⟩=>?_⟩
   subst e1 e2
   exact⟨F2,rel,Same.refl _,Same.refl _,by rw[Int.mul_one];exact Rep.int⟩,λhi=>by rw[yZ] at hi;subst hi;exact Nat.le_refl _⟩
def Dl{i:Int}(h:oO i=true): -(2 ^ 60)<=i/\i<2 ^ 60:=by
 unfold oO at h
 rw[decide_eq_true_eq] at h
 omega
variable{a b d:Expr}{p pos:Pos}{mr:M (List PV)}
def Gp{K:KK}{F:Hp}{ps:List PV}{vs:List V}(h:Ĕ K F ps vs):(∀i r,ps=.int i::r->∃r',vs=.int i::r'/\Ĕ K F r r')/\(ps=[]->vs=[]):=by
 refine⟨λi r e=>?_,λe=>?_⟩
 ·subst e
  unfold Ĕ at h
  obtain⟨x,r',h1,h2,h3⟩:=h
  unfold Rep at h2
  exact⟨r',by rw[h1,h2],h3⟩
 ·subst e
  unfold Ĕ at h
  exact h
def aC(hg:Gl X "range")(hm:X.mg "range" =none)(ha:PA X [a] (tL (kk X cm) E mr))(hs:starEach [a] X.env=[(false,eval a X.env)]:=by exact bF rfl):PI X tg (.Call (.Name "range" p) [a] [] pos) (tI (kk X cm) E (cA bI mr)):=
 λpins s σ H R I h=>CP hg hm ha hs pins s σ H R I (by
  obtain⟨c,F,ρ,rel,h⟩:=h
  refine⟨c,F,ρ,rel,h.bind λps ρ1 vs F1 H1 Ď s1 s2 q h1=>?_⟩
  have q':Ĕ (kk X cm) F1 ps vs:=q
  unfold bI at h1
  split at h1
  ·rename_i j
   split at h1
   ·rename_i hj
    obtain⟨r',e1,e2⟩:=(Gp q').1 _ _ rfl
    cases(Gp e2).2 rfl
    obtain⟨k1,k2⟩:=Dl hj
    exact⟨j,e1,by omega,by omega,h1 _ F1 H1 Ď (Same.refl _) (Same.refl _) (Xr 0 j.toNat)⟩
   ·exact h1.elim
  ·exact h1.elim)
end
def Ŭ:Slot->Slot
 | .sh p=>.sh p
 | .ow ps=>.bw ps
 | .bw ps=>.bw ps
 |_=>.no
def fH(js:List Nat)(nl:Nat)(ρ:Ĺ):Ĺ:=js.map (λ(j:Nat)=>Ŭ ((ρ[j]?).getD .no))++List.replicate nl .no
def ĸ(g:Tg)(mt:M Bool)(me:M PV):List PV->Ĺ->List PV->Option (List PV)
 | [],_,acc=>some acc
 |p::ps,ρ,acc=>match g p ρ with
  |none=>none
  |some ρ1=>match mt ρ1 with
   | .ok true ρ2=>match me ρ2 with
     | .ok q ρ3=>if acc.length<16777216 then ĸ g mt me ps ρ3 (acc ++ [q]) else none
     |_=>none
   | .ok false ρ2=>ĸ g mt me ps ρ2 acc
   |_=>none
def ŏ(js:List Nat)(nl:Nat)(mi:M (List PV))(g:Tg)(mt:M Bool)(me:M PV):M RV:=λρ=>(mi ρ).bind λitems ρ1=>match ĸ g mt me items (fH js nl ρ1) [] with
 |some ps=>.ok (.ow ps) ρ1
 |none=>.bad
abbrev EF:L2.St->XK:=λ_ _ _ _=>False
def ő:M Bool:=λρ=>.ok true ρ
section
variable{K:KK}{c:Ctx}{F H:Hp}{σ:L2.St}{ρ:Ĺ}
def ud(F H H1:Hp):Ctx:=⟨H1,F,(ctx0 F H).L,λ_ _ _=>True⟩
def Rel.cap(js:List Nat)(nl:Nat)(rel:Rel K c F H σ ρ){D:Addr}{o:HO}(hD:H D=none):Rel K (ud F H (upd H D o)) F (upd H D o) (cR js nl σ) (fH js nl ρ) where
 sub:=rel.sub.trans (Same.upd hD)
 base:=Same.refl _
 f0:=Same.refl _
 bY:=λ_ _ z=>z
 lent:=λa u e=>⟨Same.upd hD a u (cu e).1,(cu e).2⟩
 lb:=fun a e=>by
   cases q:(ud F H (upd H D o)).L a with
   |none=>rfl
   |some u=>
    have e':upd H D o a=none:=e
    rw[Same.upd hD a u (cu q).1] at e'
    cases e'
 len:=by simp[cR,fH]
 slot:= λi s e=>by
  unfold fH at e
  by_cases hi:i<js.length
  ·rw[List.getElem?_append_left (by simpa using hi),List.getElem?_map] at e
   cases ej:js[i]? with
   |none=>rw[ej] at e;cases e
   |some j=>
    rw[ej] at e
    have e':Ŭ ((ρ[j]?).getD .no)=s:=Option.some.inj e
    subst e'
    have hx:((cR js nl σ)[i]?).getD none=(σ[j]?).getD none:=by
     unfold cR
     rw[List.getElem?_append_left (by simpa using hi),List.getElem?_map,ej]
     rfl
    rw[hx]
    cases er:ρ[j]? with
    |none=>trivial
    |some sl=>
     have q:=rel.slot j sl er
     cases sl with
     |no=>trivial
     |sh p=>exact q
     |ow ps=>
      obtain⟨a,vs,h1,h2,h3,h4,h5⟩:=q
      refine⟨a,vs,h1,?_,h5⟩
      show(match F a with|none=>H a|some _=>none)=_
      rw[h3]
      exact h2
     |bw ps=>
      obtain⟨a,vs,h1,h2,h3⟩:=q
      obtain⟨l1,l2⟩:=rel.lent a _ h2
      refine⟨a,vs,h1,?_,h3⟩
      show(match F a with|none=>H a|some _=>none)=_
      rw[l2]
      exact l1
     |rc C ns ps=>trivial
     |ot ps qs=>trivial
     |ol Eh=>trivial
  ·rw[List.getElem?_append_right (by simpa using hi),List.getElem?_replicate] at e
   split at e
   ·cases e;trivial
   ·cases e
 sep:=λi j a h1 _=>by
  exfalso
  obtain⟨s,y,h1,_,h2⟩:=h1
  have h2:=fV h2
  unfold fH at h1
  by_cases hi:i<js.length
  ·rw[List.getElem?_append_left (by simpa using hi),List.getElem?_map] at h1
   cases ej:js[i]? with
   |none=>rw[ej] at h1;cases h1
   |some j=>
    rw[ej] at h1
    have e':Ŭ ((ρ[j]?).getD .no)=s:=Option.some.inj h1
    subst e'
    cases q:(ρ[j]?).getD .no<;>rw[q] at h2<;>cases h2
  ·rw[List.getElem?_append_right (by simpa using hi),List.getElem?_replicate] at h1
   split at h1
   ·cases h1;cases h2
   ·cases h1
def Rel.rebase{H1 F1:Hp}{D:Addr}{ys zs:List V}(hD:H1 D=none)(hF:F1 D=none)(rel:Rel K (ud F1 H1 (upd H1 D (.lst ys))) F H σ ρ):Rel K (ud F1 H1 (upd H1 D (.lst zs))) F (upd H D (.lst zs)) σ ρ:= by
 have fD:F D=none:=rel.bY D (by show upd H1 D _ D≠none;rw[Ğ];intro z;cases z) hF
 have lD:∀b u,(ud F1 H1 (upd H1 D (.lst ys))).L b=some u->b≠D:=λb u e z=>by
  have q:=(cu (F:=F1) (H:=H1) (a:=b) (u:=u) e).1
  rw[z,hD] at q
  cases q
 have ne:∀b,(ud F1 H1 (upd H1 D (.lst ys))).B b=none->b≠D:=λb z q=>by
  subst q
  have z':upd H1 b (.lst ys) b=none:=z
  rw[Ğ] at z';cases z'
 have back:∀b,b≠D->(ud F1 H1 (upd H1 D (.lst ys))).B b=none->(ud F1 H1 (upd H1 D (.lst zs))).B b=none:=λb hb z=>by
  have z':upd H1 D (.lst ys) b=none:=z
  show upd H1 D (.lst zs) b=none
  rw[ċ hb] at z' ⊢;exact z'
 refine⟨λb u e=>?_,λb u e=>?_,rel.f0,λb h1 h2=>?_,λb u e=>?_,λb e=>?_,rel.len,λi s e=>?_,rel.sep⟩
 ·have hb:b≠D:=λz=>by rw[z,fD] at e;cases e
  rw[ċ hb];exact rel.sub b u e
 ·by_cases hb:b=D
  ·subst hb
   have e':upd H1 b (.lst zs) b=some u:=e
   rw[Ğ] at e' ⊢;exact e'
  ·have e':upd H1 D (.lst zs) b=some u:=e
   rw[ċ hb] at e' ⊢
   exact rel.base b u (by show upd H1 D _ b=some u;rw[ċ hb];exact e')
 ·refine rel.bY b (λz=>h1 ?_) h2
  exact back b (ne b z) z
 ·rw[ċ (lD b u e)]
  exact rel.lent b u e
 ·refine rel.lb b ?_
  have z':upd H1 D (.lst zs) b=none:=e
  have hb:b≠D:=λq=>by rw[q,Ğ] at z';cases z'
  show upd H1 D (.lst ys) b=none
  rw[ċ hb] at z' ⊢;exact z'
 ·have q:=rel.slot i s e
  cases s with
  |no=>trivial
  |sh p=>exact q
  |bw ps=>exact q
  |ow ps=>
   obtain⟨a,vs,q1,q2,q3,q4,q5⟩:=q
   have hb:=ne a q4
   exact⟨a,vs,q1,by rw[ċ hb];exact q2,q3,back a hb q4,q5⟩
  |rc C ns ps=>
   obtain⟨a,dx,fs,q1,q2,q3,q4,q5⟩:=q
   have hb:=ne a q4
   exact⟨a,dx,fs,q1,by rw[ċ hb];exact q2,q3,back a hb q4,q5⟩
  |ot ps qs=>
   obtain⟨p,a,xs,vs,q1,q0,qx,q2,q3,q4,q5⟩:=q
   have hb:=ne a q4
   exact⟨p,a,xs,vs,q1,q0,qx,by rw[ċ hb];exact q2,q3,back a hb q4,q5⟩
  |ol Eh=>
   obtain⟨p,as,q1,q0,qn,qp⟩:=q
   refine⟨p,as,q1,q0,qn,Gf qp λa ps _ ⟨vs,q2,q3,q4,q5⟩=>?_⟩
   have hb:=ne a q4
   exact⟨vs,by rw[ċ hb];exact q2,q3,back a hb q4,q5⟩
end
section
variable{X:Cx}{cm:String->Addr}{E:L2.St->XK}{elt tg iter:Expr}{ifs:List Expr}{scope:Scope}{pos:Pos}{mi:M (List PV)}{g:Tg}{mt:M Bool}{me:M PV}
def Ū:Ed X [] (tB (kk X cm) E ő):=λpins s σ H Q I h=>Lj pins s σ H Q I (by
 obtain⟨c,F,ρ,rel,h⟩:=h
 exact h true F H rel (Same.refl _) (Same.refl _) rfl)
def za{a:Expr}(h:PT X a (tB (kk X cm) E mt)):Ed X [a] (tB (kk X cm) E mt):=Lk h
def Gq(K:KK):RR (List PV) It:=λ_ _ _ F H items J=>Mi K (ctx0 F H).L F J items
def ZbK{K:KK}{c:Ctx}{F H:Hp}{σ:L2.St}{ρ:Ĺ}(rel:Rel K c F H σ ρ){b:Addr}{u:HO}(e:c.L b=some u):(ctx0 F H).L b=some u:=by
 obtain⟨l1,l2⟩:=rel.lent b u e
 show(match F b with|none=>H b|some _=>none)=some u
 rw[l2]
 exact l1
def Pa(h:PI X tg iter (tI (kk X cm) E mi)):PI X tg iter (tG (kk X cm) E (Gq (kk X cm)) mi):=λpins s σ H R I ⟨c,F,ρ,rel,q⟩=>h pins s σ H R I ⟨c,F,ρ,rel,aj.bind (R':=Gq (kk X cm)) (f:=λp ρ=>.ok p ρ) (by revert q;cases mi ρ <;> exact id) λp ρ1 v F1 H1 Ď s1 s2 q h1=>h1 v F1 H1 Ď (Same.refl _) (Same.refl _) λc' i F2 H2 σ2 ρ2 ĳ sF sL=>q c' i F2 H2 σ2 ρ2 ĳ sF λb u e=>sL b u (ZbK Ď e)⟩
def wg{js:List Nat}{nl:Nat}{σ:L2.St}{H:Hp}{Q:VK}(h:tO (kk X cm) E (ŏ js nl mi g mt me) σ H Q):FN js nl (tG (kk X cm) E (Gq (kk X cm)) mi) (tT (kk X cm) g) (tB (kk X cm) EF mt) (tV (kk X cm) EF me) σ H Q:=by
 obtain⟨c,F,ρ,rel,h⟩:=h
 refine⟨c,F,ρ,rel,h.bind λitems ρ1 J F1 H1 Ď s1 s2 ito h1=>?_⟩
 intro D hD
 have hF:F1 D=none:=Ď.sub.free hD
 cases ec:ĸ g mt me items (fH js nl ρ1) [] with
 |none=>rw[ec] at h1;exact h1.elim
 |some res=>
  rw[ec] at h1
  refine⟨λi m σ' H'=>∃F' ρ' ys acc,i<=items.length/\m=items.length-i/\Rel (kk X cm) (ud F1 H1 (upd H1 D (.lst ys))) F' H' σ' ρ'/\Ĕ (kk X cm) F' acc ys/\ĸ g mt me (items.drop i) ρ' acc=some res,
   ⟨_,F1,_,[],[],Nat.zero_le _,rfl,?_,Ĕ.nil,ec⟩,?_⟩
  ·exact Ď.cap js nl hD
  ·rintro i m σ2 H2 ⟨F2,ρ2,ys,acc,hle,rfl,ĳ,ra,h2⟩
   have s12:Same F1 F2:=ĳ.f0
   obtain⟨go,stop⟩:=ito _ i F2 H2 σ2 ρ2 ĳ s12 λb u e=>(ĳ.lent b u e).1
   have hH2:H2 D=some (.lst ys):=ĳ.base D _ (show upd H1 D _ D=_ from Ğ)
   have fD:F2 D=none:=ĳ.bY D (by show upd H1 D _ D≠none;rw[Ğ];intro z;cases z) hF
   by_cases hlt:i<items.length
   ·obtain⟨g1,g2⟩:=go items[i] (List.getElem?_eq_getElem hlt)
    rw[List.drop_eq_getElem_cons hlt] at h2
    unfold ĸ at h2
    refine .inr ⟨g1,_,λσ' H' z=>z,λx H3 hy=>?_⟩
    obtain⟨F3,oM,s3,sH3,rp⟩:=g2 x H3 hy
    refine⟨_,F3,ρ2,items[i],oM,rp,?_⟩
    cases eg:g items[i] ρ2 with
    |none=>rw[eg] at h2;cases h2
    |some ρ3=>
     rw[eg] at h2
     dsimp only at h2
     intro σ4 Gj
     refine⟨_,F3,ρ3,Gj,?_⟩
     cases em:mt ρ3 with
     |bad=>rw[em] at h2;cases h2
     |exc x ρ4=>rw[em] at h2;cases h2
     |ok b ρ4=>
      rw[em] at h2
      intro b' F5 H5 ZbL s5 Kd eb
      have eb':b=b':=eb
      subst eb'
      cases b with
      |false=>
       rw[if_neg Bool.false_ne_true]
       dsimp only at h2
       exact⟨items.length-(i+1),by omega,F5,ρ4,ys,acc,hlt,rfl,ZbL,Ĕ.same (s3.trans s5) acc ys ra,h2⟩
      |true=>
       rw[if_pos rfl]
       dsimp only at h2
       refine⟨_,F5,ρ4,ZbL,?_⟩
       cases ee:me ρ4 with
       |bad=>rw[ee] at h2;cases h2
       |exc x ρ5=>rw[ee] at h2;cases h2
       |ok q ρ5=>
        rw[ee] at h2
        dsimp only at h2
        intro y F6 H6 ZbM s6 Ml rq
        split at h2
        ·rename_i hz
         have ra6:=Ĕ.same ((s3.trans s5).trans s6) acc ys ra
         refine⟨ys,ZbM.base D _ (show upd H1 D _ D=_ from Ğ),by rw[<-ra6.length,Ĵ];exact hz,?_⟩
         exact⟨items.length-(i+1),by omega,F6,ρ5,ys ++ [y],acc ++ [q],hlt,rfl,ZbM.rebase hD hF,Ĕ.append ra6 (Ĕ.cons rq Ĕ.nil),h2⟩
        ·cases h2
   ·have e:i=items.length:=by omega
    refine .inl ⟨stop e,?_⟩
    rw[List.drop_eq_nil_of_le (by omega)] at h2
    unfold ĸ at h2
    cases h2
    have gr:Gr F1 H1 F2 H2:=⟨λb u e=>ĳ.base b u (by show upd H1 D _ b=_;rw[ċ (ē e hD)];exact e),s12,ĳ.sub,λb hb hf=>ĳ.bY b (by
     show upd H1 D _ b≠none
     by_cases hbD:b=D
     ·rw[hbD,Ğ];intro z;cases z
     ·rw[ċ hbD];exact hb) hf⟩
    have Zeb:=Ď.call gr
    exact h1 _ F2 H2 Zeb s12 gr.h ⟨D,ys,rfl,hH2,fD,Ď.base.free hD,Ď.tX gr.f (Ď.fresh hD),ra⟩
def Mp(N':List Str)(js:List Nat)(nl:Nat)(sc:Scope)(hsc:X.env.scope=sc)(hcalm:X.calm=true)
 (hi:PI X.ō tg iter (tG (kk X cm) E (Gq (kk X cm)) mi))(hg:∀cl C s H fp,PG (cj X.ō N' scope cl C s H fp) tg (tT (kk X cm) g))(ht:∀cl C s H fp,Ed (cj X.ō N' scope cl C s H fp) ifs (tB (kk X cm) EF mt))(he:∀cl C s H fp,PE (cj X.ō N' scope cl C s H fp) elt (tV (kk X cm) EF me))
 (hcap:cQ X.ō sc scope N' js)(hlen:js.length+nl=N'.length:=by rfl)
 (hk:scope.kind=.function:=by rfl)(hcell:∀y∈scope.names,y.2=.cell->scope.names.lookup y.1=some .cell:=by decide +kernel)(hnames:∀y∈scope.names,y.2=.local->scope.names.lookup y.1=some .local:=by decide +kernel)
 (hfree:∀y∈scope.names,y.2=.free->(sc.names.lookup y.1=some .cell\/sc.names.lookup y.1=some .free):=by decide +kernel)
 (hs:∀x,foldedSetIterable iter X.env x=pure x:=by intro _;rfl) :
 PE X (.ListComp elt [⟨tg,iter,ifs,0⟩] scope pos) (tO (kk X cm) E (ŏ js nl mi g mt me)):=
 PE.wk (PE.ō (Lp N' js nl sc hsc hcalm hi hg ht he hcap hlen hk hcell hnames hfree hs)) λ_ _ _ h=>wg h
end
end P
namespace P
open PySem PySem.Spec PyProof.Rows L2 M2 M3 M4
abbrev bits(x:Int):Nat:=Builtin.Int.intBits x
section
variable{X:Cx}{cm:String->Addr}{K:KK}
def Pb(K:PySem.W.Frag):R2:=λx y H Q=>∃l b xs zs,x=.ref l/\y=.ref b/\ū K H l xs/\ū K H b zs/\xs.length+zs.length<=sizeLine/\∀p,H p=none->Q (.ref p) (upd H p (.lst (xs++zs)))
def Mq:Š X (binaryOp .Add) (Pb X.K):=by
 intro pins s σ H x y v u Q I rx ry h
 obtain⟨l,b,xs,zs,rfl,rfl,hH,hB,hz,q⟩:=h
 cases rx
 cases ry
 obtain⟨its,r,pl,z⟩:=I.list hH
 obtain⟨its2,r2,pl2,z2⟩:=I.list hB
 obtain⟨⟨c1,d1,t1,sl1⟩,n,e,hc,hd,hs⟩:=pl
 obtain⟨⟨c2,d2,t2,sl2⟩,n2,e2,hc2,hd2,hs2⟩:=pl2
 simp only at hc hd hs hc2 hd2 hs2
 subst hc hd hs hc2 hd2 hs2
 have hl:=r.length
 have hl2:=r2.length
 have ea:its.toArray++its2.toArray=(its++its2).toArray:=by simp
 refine concat_meets ⟨_,e,rfl⟩ ⟨_,e2,rfl⟩ noFill_list_add seq_list_add PySem.F.slot_list_add PySem.F.entry_list_add (PySem.F.args_list_add_2 _ _) (list_addW l b its.toArray its2.toArray n n2 none none sl1 sl2 (by simp only[List.size_toArray];omega)) ⟨e,e2,?_⟩
 rw[ea]
 exact⟨.ref _,_,I.Zd0 (t':=s.toks) (r.append r2) (by rw[List.length_append];omega),rfl,q _ I.fresh⟩
def Ph(K:PySem.W.Frag):R2:=λx y H Q=>∃l b xs zs,x=.ref l/\y=.ref b/\fC K H l xs/\fC K H b zs/\xs≠[]/\zs≠[]/\xs.length+zs.length<=sizeLine/\∀p,H p=none->Q (.ref p) (upd H p (.tup (xs++zs)))
def Mr:Š X (binaryOp .Add) (Ph X.K):=by
 intro pins s σ H x y v u Q I rx ry h
 obtain⟨l,b,xs,zs,rfl,rfl,hH,hB,nx,nz,hz,q⟩:=h
 cases rx
 cases ry
 obtain⟨its,r,pl,z⟩:=I.tuple hH
 obtain⟨its2,r2,pl2,z2⟩:=I.tuple hB
 obtain⟨⟨c1,d1,t1,sl1⟩,e,hc,n,hd⟩:=pl
 obtain⟨⟨c2,d2,t2,sl2⟩,e2,hc2,n2,hd2⟩:=pl2
 simp only at hc hd hc2 hd2
 subst hc hd hc2 hd2
 have hl:=r.length
 have hl2:=r2.length
 have ne1:its≠[]:=λz=>by rw[z] at hl;exact nx (List.length_eq_zero_iff.mp hl)
 have ne2:its2≠[]:=λz=>by rw[z] at hl2;exact nz (List.length_eq_zero_iff.mp hl2)
 have ea:its.toArray++its2.toArray=(its++its2).toArray:=by simp
 refine concat_meets ⟨_,e,rfl⟩ ⟨_,e2,rfl⟩ noFill_tuple_add seq_tuple_add PySem.F.slot_tuple_add PySem.F.entry_tuple_add (PySem.F.args_tuple_add_2 _ _) (tuple_addW2 l b its.toArray its2.toArray n n2 d1 d2 sl1 sl2 (by simpa using ne1) (by simpa using ne2) (by simp only[List.size_toArray];omega)) ⟨e,e2,?_⟩
 rw[ea]
 exact⟨.ref _,_,I.laid (o:=.tup (xs++zs)) (t':=s.toks) (λ_ _ q=>Heap.get?_push_of_some _ q) (Nat.le_refl _) ⟨by rw[List.length_append];omega,(its++its2),r.append r2,⟨_,Heap.get?_push_size _ rfl,rfl,_,rfl⟩⟩,rfl,q _ I.fresh⟩
def ğ:PV->PV->Option RV
 | .int i,.int j=>some (.sh (.int (i+j)))
 | .str i,.str j=>if i.length+j.length<=16777216 then some (.sh (.str (i++j))) else none
 | .lst ps,.lst qs=>if ps.length+qs.length<=16777216 then some (.ow (ps++qs)) else none
 | .tup (p::ps),.tup (q::qs)=>if(p::ps).length+(q::qs).length<=16777216 then some (.sh (.tup ((p::ps)++(q::qs)))) else none
 |_,_=>none
def Pj(K:PySem.W.Frag):R2:=λx y H Q=>Zbt x y H Q\/(Pb K x y H Q\/Ph K x y H Q)
def Xu:Š X (binaryOp .Add) (Pj X.K):=WY.or (Mq.or Mr)
def Xw:OpO K (Pj K.K) ğ:=by
 intro c F H σ ρ p q pv v u Q rel r1 r2 e k
 unfold ğ at e
 split at e
 ·cases e
  cases r1.int
  cases r2.int
  exact .inl (k _ F H rel (Same.refl _) (Same.refl _) (Rep.int (K:=K) (F:=F)))
 ·split at e
  ·rename_i hz
   cases e
   cases r1.str
   cases r2.str
   exact .inl ⟨by rw[Ĵ];exact hz,k _ F H rel (Same.refl _) (Same.refl _) (Rep.str (K:=K) (F:=F))⟩
  ·cases e
 ·split at e
  ·rename_i hz
   cases e
   obtain⟨a,xs,rfl,h1,h2⟩:=r1.lst rel.sub
   obtain⟨b,ys,rfl,h3,h4⟩:=r2.lst rel.sub
   refine .inr (.inl ⟨a,b,xs,ys,rfl,rfl,h1,h3,by rw[<-h2.length,<-h4.length,Ĵ];exact hz,λd hd=>?_⟩)
   obtain⟨q1,q2⟩:=cX rel hd (Ĕ.append h2 h4)
   exact k _ F _ q1 (Same.refl _) (Same.upd hd) q2
  ·cases e
 ·split at e
  ·rename_i hz
   cases e
   obtain⟨a,xs,rfl,h1,h2⟩:=r1.tup rel.sub
   obtain⟨b,ys,rfl,h3,h4⟩:=r2.tup rel.sub
   have l1:=h2.length
   have l2:=h4.length
   refine .inr (.inr ⟨a,b,xs,ys,rfl,rfl,h1,h3,(λz=>by rw[z] at l1;cases l1),(λz=>by rw[z] at l2;cases l2),by rw[<-l1,<-l2,Ĵ];exact hz,λl hl=>k _ _ _ (rel.alloc hl) (Same.upd (rel.sub.free hl)) (Same.upd hl) ?_⟩)
   show Rep K _ _ _
   unfold Rep
   exact⟨l,xs++ys,rfl,fC.of Ğ,Ĕ.same (Same.upd (rel.sub.free hl)) _ _ (Ĕ.append h2 h4)⟩
  ·cases e
 ·cases e
def vR(g:Int->Int->Int):PV->PV->Option PV
 | .int i,.int j=>some (.int (g i j))
 |_,_=>none
def Ba(C:Int->Int->Bool)(g:Int->Int->Int):PV->PV->Option PV
 | .int i,.int j=>if C i j=true then some (.int (g i j)) else none
 |_,_=>none
def opC(g:Int->Int->Bool):PV->PV->Option PV
 | .int i,.int j=>some (.bl (g i j))
 |_,_=>none
def Pk{g:Int->Int->Int}:iI K (Dg λi j=>.int (g i j)) (vR g):=by
 intro c F H σ ρ p q pv v u Q rel r1 r2 e k
 unfold vR at e
 split at e
 ·cases e
  cases r1.int
  cases r2.int
  exact k _ F H rel (Same.refl _) (Same.refl _) Rep.int
 ·cases e
def Xx{g:Int->Int->Bool}:iI K (Dg λi j=>.bl (g i j)) (opC g):=by
 intro c F H σ ρ p q pv v u Q rel r1 r2 e k
 unfold opC at e
 split at e
 ·cases e
  cases r1.int
  cases r2.int
  exact k _ F H rel (Same.refl _) (Same.refl _) Rep.bl
 ·cases e
def Gs{C:Int->Int->Bool}{C':Int->Int->Prop}{g:Int->Int->Int}(hC:∀i j,C i j=true->C' i j):iI K (mI C' λi j=>.int (g i j)) (Ba C g):=by
 intro c F H σ ρ p q pv v u Q rel r1 r2 e k
 unfold Ba at e
 split at e
 ·split at e
  ·rename_i hc
   cases e
   cases r1.int
   cases r2.int
   exact⟨hC _ _ hc,k _ F H rel (Same.refl _) (Same.refl _) Rep.int⟩
  ·cases e
 ·cases e
def ľ:=vR λi j=>i-j
def Xy:iI K (Dg λi j=>.int (i-j)) ľ:=Pk
def iR(_ j:Int):Bool:=decide (j≠0) && decide (bits j<=8000)
def ś:=Ba iR λi j=>i.fdiv j
def Xz:iI K (mI Dh λi j=>.int (i.fdiv j)) ś:=Gs λi j h=>by unfold iR at h;simpa[Dh] using h
def Bv(_ j:Int):Bool:=decide (j≠0)
def İ:=Ba Bv λi j=>i.fmod j
def XC:iI K (mI (λ_ j=>j≠0) λi j=>.int (i.fmod j)) İ:=Gs λi j h=>by unfold Bv at h;simpa using h
def oR(i j:Int):Bool:=decide (0<=j) && decide (j.natAbs<=1000000) && decide (i.natAbs<18446744073709551616)
def iU:=Ba oR λi j=>i ^ j.toNat
def gk:iI K (mI CT λi j=>.int (i ^ j.toNat)) iU:=Gs λi j h=>by
 unfold oR at h
 simp only[Bool.and_eq_true,decide_eq_true_eq] at h
 exact⟨h.1.1,by omega,by have:=h.2;simpa using this⟩
def oU(i j:Int):Bool:=decide (0<=j) && decide (j.natAbs<=1000000) && decide (i.natAbs<18446744073709551616)
def wj:=Ba oU λi j=>i*2 ^ j.toNat
def zc:iI K (mI CT λi j=>.int (i*2 ^ j.toNat)) wj:=Gs λi j h=>by
 unfold oU at h
 simp only[Bool.and_eq_true,decide_eq_true_eq] at h
 exact⟨h.1.1,by omega,by have:=h.2;simpa using this⟩
def wu(_ j:Int):Bool:=decide (0<=j)
def Gu:=Ba wu λi j=>i / 2 ^ j.toNat
def XD:iI K (mI (λ_ j=>0<=j) λi j=>.int (i / 2 ^ j.toNat)) Gu:=Gs λi j h=>by unfold wu at h;simpa using h
def zf:=vR λi j=>Builtin.bitAnd i j
def Ms:iI K (Dg λi j=>.int (Builtin.bitAnd i j)) zf:=Pk
def zj:Š X (binaryOp .LShift) (mI CT λi j=>.int (i*2 ^ j.toNat)):=Š.wk Wq rD
def XF:Š X (binaryOp .RShift) (mI (λ_ j=>0<=j) λi j=>.int (i / 2 ^ j.toNat)):=Š.wk Wr rD
def Mt:Š X (binaryOp .BitAnd) (Dg λi j=>.int (Builtin.bitAnd i j)):=Š.wk Ws oA
def jE:=opC λi j=>decide (i<j)
def jm:=opC λi j=>decide (i<=j)
def Mu:=opC λi j=>decide (j<i)
def eE:iI K (Dg λi j=>.bl (decide (i<j))) jE:=Xx
def cZ:iI K (Dg λi j=>.bl (decide (i<=j))) jm:=Xx
def Pn:iI K (Dg λi j=>.bl (decide (j<i))) Mu:=Xx
def ĺ(i j:Int):Bool:=decide (i.natAbs<18446744073709551616) || decide (j.natAbs<18446744073709551616) || (decide (bits i<=1048576) && decide (bits j<=1048576))
def Gv{i j:Int}(h:ĺ i j=true):rE i j:=by
 unfold ĺ at h
 simp only[Bool.or_eq_true,Bool.and_eq_true,decide_eq_true_eq] at h
 rcases h with(h|h)|h
 ·exact .inl (.inl ⟨by omega,by omega⟩)
 ·exact .inl (.inr ⟨by omega,by omega⟩)
 ·exact .inr h
def Ĥ:PV->PV->Option PV
 | .int i,.int j=>if ĺ i j=true then some (.int (i*j)) else none
 | .str z,.int n=>if 0<=n/\n<=1000/\z.length<=1000 then some (.str (S (List.replicate n.toNat z.cps.toList).flatten)) else none
 |_,_=>none
def XH:iI K FZ Ĥ:=by
 intro c F H σ ρ p q pv v u Q rel r1 r2 e k
 unfold Ĥ at e
 split at e
 ·split at e
  ·rename_i hc
   cases e
   cases r1.int
   cases r2.int
   exact⟨Gv hc,k _ F H rel (Same.refl _) (Same.refl _) Rep.int⟩
  ·cases e
 ·split at e
  ·rename_i hc
   cases e
   cases r1.str
   cases r2.int
   exact⟨hc,k _ F H rel (Same.refl _) (Same.refl _) Rep.str⟩
  ·cases e
 ·cases e
variable{E:L2.St->XK}{a b e:Expr}{es:List Expr}{pos:Pos}{ma mb:M PV}{mr:M (List PV)}
def aZ:PV->Option PV
 | .int i=>some (.int (-i))
 |_=>none
def dJ:UnV K (mU λi=>.int (-i)) aZ:=by
 intro c F H σ ρ p pv v Q rel r1 e k
 unfold aZ at e
 split at e
 ·cases e
  cases r1.int
  exact k _ F H rel (Same.refl _) (Same.refl _) Rep.int
 ·cases e
mutual
def eqB:PV->PV->Bool
 | .non,.non=>true
 | .bl a,.bl b=>a== b
 | .bl a,.int j=>(if a then 1 else 0)== j
 | .int i,.bl b=>i== (if b then 1 else 0)
 | .int i,.int j=>i== j
 | .str x,.str y=>x== y
 | .lst xs,.lst ys=>dM xs ys
 | .tup xs,.tup ys=>dM xs ys
 |_,_=>false
def dM:List PV->List PV->Bool
 | [],[]=>true
 |x::xs,y::ys=>eqB x y && dM xs ys
 |_,_=>false
end
mutual
def ŭ:PV->Bool
 | .non| .bl _| .int _=>true
 | .str x=>PyData.strOk x
 | .lst xs=>aD xs
 | .tup xs=>aD xs
 |_=>false
def aD:List PV->Bool
 | []=>true
 |x::xs=>ŭ x && aD xs
end
mutual
def dep:PV->Nat
 | .lst xs=>mR xs+1
 | .tup xs=>mR xs+1
 |_=>0
def mR:List PV->Nat
 | []=>0
 |x::xs=>max (dep x) (mR xs)
end
mutual
def toD:PV->PyData
 | .non=>.none
 | .bl b=>.bool b
 | .int i=>.int i
 | .str x=>.str x
 | .lst xs=>.list (dg xs)
 | .tup xs=>.tuple (dg xs)
 |_=>.none
def dg:List PV->List PyData
 | []=>[]
 |x::xs=>toD x::dg xs
end
mutual
theorem dN:∀p:PV,ŭ p=true->(toD p).canLay0=true
 | .non,_=>rfl
 | .bl _,_=>rfl
 | .int _,_=>rfl
 | .str x,h=>by unfold ŭ at h;unfold toD PyData.canLay0;exact h
 | .lst xs,h=>by unfold ŭ at h;unfold toD PyData.canLay0;exact gn xs h
 | .tup xs,h=>by unfold ŭ at h;unfold toD PyData.canLay0;exact gn xs h
 | .ins _ _ _,h=>by simp[ŭ] at h
 | .xc _ _ _,h=>by simp[ŭ] at h
 | .ty _,h=>by simp[ŭ] at h
 | .cls _,h=>by simp[ŭ] at h
theorem gn:∀ps:List PV,aD ps=true->PyData.canLayAll0 (dg ps)=true
 | [],_=>rfl
 |p::ps,h=>by
  unfold aD at h
  rw[Bool.and_eq_true] at h
  unfold dg PyData.canLayAll0
  rw[dN p h.1,gn ps h.2]
  rfl
end
mutual
theorem dO:∀p:PV,(toD p).depth=dep p
 | .non=>rfl
 | .bl _=>rfl
 | .int _=>rfl
 | .str x=>rfl
 | .lst xs=>by unfold toD PyData.depth dep;rw[oW xs]
 | .tup xs=>by unfold toD PyData.depth dep;rw[oW xs]
 | .ins _ _ _=>rfl
 | .xc _ _ _=>rfl
 | .ty _=>rfl
 | .cls _=>rfl
theorem oW:∀ps:List PV,PyData.depthAll (dg ps)=mR ps
 | []=>rfl
 |p::ps=>by unfold dg PyData.depthAll mR;rw[dO p,oW ps]
end
mutual
theorem uf:∀p q:PV,ŭ p=true->ŭ q=true->PyData.eqv (toD p) (toD q)=eqB p q
 | .lst xs,.lst ys,h1,h2=>by
   unfold ŭ at h1 h2
   unfold toD eqB PyData.eqv
   exact ug xs ys h1 h2
 | .tup xs,.tup ys,h1,h2=>by
   unfold ŭ at h1 h2
   unfold toD eqB PyData.eqv
   exact ug xs ys h1 h2
 | .ins _ _ _,_,h,_=>by simp[ŭ] at h
 | .xc _ _ _,_,h,_=>by simp[ŭ] at h
 | .ty _,_,h,_=>by simp[ŭ] at h
 | .cls _,_,h,_=>by simp[ŭ] at h
 | .non,q,_,h=>by cases q<;>first|rfl|(simp[ŭ] at h)|(simp[toD,eqB,PyData.eqv])
 | .bl _,q,_,h=>by cases q<;>first|rfl|(simp[ŭ] at h)|(simp[toD,eqB,PyData.eqv])
 | .int _,q,_,h=>by cases q<;>first|rfl|(simp[ŭ] at h)|(simp[toD,eqB,PyData.eqv])
 | .str _,q,_,h=>by cases q<;>first|rfl|(simp[ŭ] at h;done)|(simp[toD,eqB,PyData.eqv])
 | .lst _,.non,_,_=>by simp[toD,eqB,PyData.eqv]
 | .lst _,.bl _,_,_=>by simp[toD,eqB,PyData.eqv]
 | .lst _,.int _,_,_=>by simp[toD,eqB,PyData.eqv]
 | .lst _,.str _,_,_=>by simp[toD,eqB,PyData.eqv]
 | .lst _,.tup _,_,_=>by simp[toD,eqB,PyData.eqv]
 | .lst _,.ins _ _ _,_,h=>by simp[ŭ] at h
 | .lst _,.xc _ _ _,_,h=>by simp[ŭ] at h
 | .lst _,.ty _,_,h=>by simp[ŭ] at h
 | .lst _,.cls _,_,h=>by simp[ŭ] at h
 | .tup _,.non,_,_=>by simp[toD,eqB,PyData.eqv]
 | .tup _,.bl _,_,_=>by simp[toD,eqB,PyData.eqv]
 | .tup _,.int _,_,_=>by simp[toD,eqB,PyData.eqv]
 | .tup _,.str _,_,_=>by simp[toD,eqB,PyData.eqv]
 | .tup _,.lst _,_,_=>by simp[toD,eqB,PyData.eqv]
 | .tup _,.ins _ _ _,_,h=>by simp[ŭ] at h
 | .tup _,.xc _ _ _,_,h=>by simp[ŭ] at h
 | .tup _,.ty _,_,h=>by simp[ŭ] at h
 | .tup _,.cls _,_,h=>by simp[ŭ] at h
theorem ug:∀ps qs:List PV,aD ps=true->aD qs=true->PyData.eqvAll (dg ps) (dg qs)=dM ps qs
 | [],[],_,_=>by simp[dg,dM,PyData.eqvAll]
 | [],_::_,_,_=>by simp[dg,dM,PyData.eqvAll]
 |_::_,[],_,_=>by simp[dg,dM,PyData.eqvAll]
 |p::ps,q::qs,h1,h2=>by
  unfold aD at h1 h2
  rw[Bool.and_eq_true] at h1 h2
  unfold dg dM PyData.eqvAll
  rw[uf p q h1.1 h2.1,ug ps qs h1.2 h2.2]
end
mutual
theorem Gw{F:Hp}:∀(p:PV) (v:V),ŭ p=true->Rep K F p v->Rp K.K F (toD p) v
 | .non,_,_,r=>by unfold Rep at r;unfold toD Rp;exact r
 | .bl _,_,_,r=>by unfold Rep at r;unfold toD Rp;exact r
 | .int _,_,_,r=>by unfold Rep at r;unfold toD Rp;exact r
 | .str _,_,_,r=>by unfold Rep at r;unfold toD Rp;exact r
 | .lst xs,_,h,r=>by
   unfold ŭ at h
   unfold Rep at r
   unfold toD Rp
   obtain⟨a,vs,h1,h2,h3⟩:=r
   exact⟨a,vs,h1,h2,h_ xs vs h h3⟩
 | .tup xs,_,h,r=>by
   unfold ŭ at h
   unfold Rep at r
   unfold toD Rp
   obtain⟨a,vs,h1,h2,h3⟩:=r
   exact⟨a,vs,h1,h2,h_ xs vs h h3⟩
 | .ins _ _ _,_,h,_=>by simp[ŭ] at h
 | .xc _ _ _,_,h,_=>by simp[ŭ] at h
 | .ty _,_,h,_=>by simp[ŭ] at h
 | .cls _,_,h,_=>by simp[ŭ] at h
theorem h_{F:Hp}:∀(ps:List PV) (vs:List V),aD ps=true->Ĕ K F ps vs->kE K.K F (dg ps) vs
 | [],_,_,r=>by unfold Ĕ at r;unfold dg kE;exact r
 |p::ps,_,h,r=>by
  unfold aD at h
  rw[Bool.and_eq_true] at h
  unfold Ĕ at r
  unfold dg kE
  obtain⟨x,t,h1,h2,h3⟩:=r
  exact⟨x,t,h1,Gw p x h.1 h2,h_ ps t h.2 h3⟩
end
def ig{c:Ctx}{F H:Hp}{σ:L2.St}{ρ:Ĺ}{p:PV}{v:V}(s:Same F H)(h:ŭ p=true)(r:rR K c σ ρ F H p v):Rp K.K H (toD p) v:=by
 rcases r with r|r
 ·exact Rp.same s _ _ (Gw p v h r)
 ·cases p with
  |lst ps=>
   obtain⟨a,vs,rfl,h3,h4⟩:=r
   unfold ŭ at h
   unfold toD Rp
   exact⟨a,vs,rfl,ū.of h3,kE.same s _ _ (h_ ps vs h h4)⟩
  |ins C ns ps=>simp[ŭ] at h
  |_=>exact r.elim
def qN(p q:PV):Bool:=ŭ p && ŭ q && decide (min (dep p) (dep q)<=60)
def Œ(p q:PV):Option PV:=if qN p q=true then some (.bl (eqB p q)) else none
def jF(p q:PV):Option PV:=if qN p q=true then some (.bl (!eqB p q)) else none
def Pq:iI K (Li K.K false) Œ:=by
 intro c F H σ ρ p q pv v u Q rel r1 r2 e k
 unfold Œ at e
 split at e
 ·rename_i hz
  cases e
  unfold qN at hz
  simp only[Bool.and_eq_true,decide_eq_true_eq] at hz
  refine⟨toD p,toD q,ig rel.sub hz.1.1 r1,ig rel.sub hz.1.2 r2,dN p hz.1.1,dN q hz.1.2,by rw[dO,dO];exact hz.2,?_⟩
  rw[uf p q hz.1.1 hz.1.2]
  exact k _ F H rel (Same.refl _) (Same.refl _) Rep.bl
 ·cases e
def Pr:iI K (Li K.K true) jF:=by
 intro c F H σ ρ p q pv v u Q rel r1 r2 e k
 unfold jF at e
 split at e
 ·rename_i hz
  cases e
  unfold qN at hz
  simp only[Bool.and_eq_true,decide_eq_true_eq] at hz
  refine⟨toD p,toD q,ig rel.sub hz.1.1 r1,ig rel.sub hz.1.2 r2,dN p hz.1.1,dN q hz.1.2,by rw[dO,dO];exact hz.2,?_⟩
  rw[uf p q hz.1.1 hz.1.2]
  exact k _ F H rel (Same.refl _) (Same.refl _) Rep.bl
 ·cases e
def uh:PV->Bool
 | .non=>true
 |_=>false
def qO(p q:PV):Option PV:=match q with
 | .non=>some (.bl (uh p))
 |_=>none
def jG(p q:PV):Option PV:=match q with
 | .non=>some (.bl (!uh p))
 |_=>none
def Bw{c:Ctx}{F H:Hp}{σ:L2.St}{ρ:Ĺ}{p:PV}{v:V}(r:rR K c σ ρ F H p v):decide (v=.non)=uh p:=by
 rcases r with r|r
 ·cases p<;>unfold Rep at r<;>first
   |(subst r;rfl)
   |(obtain⟨a,xs,rfl,_⟩:=r;rfl)
   |(obtain⟨a,xs,ys,rfl,_⟩:=r;rfl)
 ·cases p with
  |lst ps=>obtain⟨a,vs,rfl,_⟩:=r;rfl
  |ins C ns ps=>obtain⟨a,dx,fs,rfl,_⟩:=r;rfl
  |_=>exact r.elim
def rN:iI K (λx y H Q=>y=.non/\Q (.bl (decide (x=.non))) H) qO:=by
 intro c F H σ ρ p q pv v u Q rel r1 r2 e k
 unfold qO at e
 split at e
 ·cases e
  refine⟨r2.non,?_⟩
  rw[Bw r1]
  exact k _ F H rel (Same.refl _) (Same.refl _) Rep.bl
 ·cases e
def Gx:iI K (λx y H Q=>y=.non/\Q (.bl (!decide (x=.non))) H) jG:=by
 intro c F H σ ρ p q pv v u Q rel r1 r2 e k
 unfold jG at e
 split at e
 ·cases e
  refine⟨r2.non,?_⟩
  rw[Bw r1]
  exact k _ F H rel (Same.refl _) (Same.refl _) Rep.bl
 ·cases e
def Ė:PV->PV->Option PV
 | .lst ps,.int i=>qK ps i
 | .tup ps,.int i=>qK ps i
 | .str z,.int i=>if z.length<=16777216 then(qK z.cps.toList i).map λc=>.str ⟨#[c]⟩ else none
 |_,_=>none
def Bx{F:Hp}{ps:List PV}{vs:List V}{i:Int}{p:PV}(r:Ĕ K F ps vs)(h:qK ps i=some p):∃v,qK vs i=some v/\Rep K F p v:=by
 unfold qK at h ⊢
 rw[r.length] at h
 cases e:KY vs.length i with
 |none=>rw[e] at h;cases h
 |some j=>
  rw[e] at h
  obtain⟨v,h1,h2⟩:=aV r.pr h
  exact⟨v,h1,h2⟩
def ZbN:iI K (mIx K.K) Ė:=by
 intro c F H σ ρ p q pv v u Q rel r1 r2 e k
 unfold Ė at e
 split at e
 ·obtain⟨a,vs,rfl,h1,h2⟩:=r1.lst rel.sub
  cases r2.int
  obtain⟨x,h3,h4⟩:=Bx h2 e
  exact⟨vs,x,.inl h1,h3,k _ F H rel (Same.refl _) (Same.refl _) h4⟩
 ·obtain⟨a,vs,rfl,h1,h2⟩:=r1.tup rel.sub
  cases r2.int
  obtain⟨x,h3,h4⟩:=Bx h2 e
  exact⟨vs,x,.inr h1,h3,k _ F H rel (Same.refl _) (Same.refl _) h4⟩
 ·split at e
  ·rename_i z i hz
   cases r1.str
   cases r2.int
   cases ea:qK z.cps.toList i with
   |none=>rw[ea] at e;cases e
   |some cc=>
    rw[ea] at e
    cases e
    exact⟨cc,by rw[Ĵ];exact hz,ea,k _ F H rel (Same.refl _) (Same.refl _) Rep.str⟩
  ·cases e
 ·cases e
def Dp:M (Option Int):=λρ=>.ok none ρ
def mP(m:M PV):M (Option Int):=λρ=>(m ρ).bind λp ρ1=>match p with
 | .int i=>.ok (some i) ρ1
 |_=>.bad
abbrev tP(K:KK)(E:L2.St->XK)(m:M (Option Int)):TO:=tG K E rI m
def um:PO X none (tP (kk X cm) E Dp):=λpins s σ H Q I h=>KR pins s σ H Q I (by
 obtain⟨c,F,ρ,rel,h⟩:=h
 exact h none F H rel (Same.refl _) (Same.refl _) rfl)
def Ÿ(ha:PE X e (tV (kk X cm) E ma)):PO X (some e) (tP (kk X cm) E (mP ma)):=λpins s σ H Q I h=>Fx ha pins s σ H Q I (by
 obtain⟨c,F,ρ,rel,h⟩:=h
 refine⟨c,F,ρ,rel,h.bind λp ρ1 v F1 H1 Ď _ _ r1 h1=>?_⟩
 cases p with
 |int i=>
  have e:v=.int i:=by have r1':Rep (kk X cm) F1 (.int i) v:=r1;unfold Rep at r1';exact r1'
  subst e
  exact h1 (some i) F1 H1 Ď (Same.refl _) (Same.refl _) rfl
 |_=>exact h1.elim)
def bf{α:Type}(xs:List α)(lo hi:Option Int):List α:= (xs.drop (HT.iB xs.length 0 lo)).take (HT.iB xs.length xs.length hi-HT.iB xs.length 0 lo)
def Pu(p:PV)(lo hi:Option Int):Option RV:=match p with
 | .lst ps=>some (.ow (bf ps lo hi))
 | .str z=>if z.length<=16777216 then some (.sh (.str (S (bf z.cps.toList lo hi)))) else none
 |_=>none
def Ej(ma:M PV)(ml mh:M (Option Int)):M RV:=λρ=>(ma ρ).bind λp ρ1=>(ml ρ1).bind λlo ρ2=>(mh ρ2).bind λhi ρ3=>Res.nO (Pu p lo hi) ρ3
def aP{ml mh:M (Option Int)}{lo hi:Option Expr}{p2:Pos}(ha:PE X a (tR (kk X cm) E ma))(hl:PO X lo (tP (kk X cm) E ml))(hh:PO X hi (tP (kk X cm) E mh)):PE X (.Subscript a (.Slice lo hi none p2) pos) (tO (kk X cm) E (Ej ma ml mh)):=
 PE.wk (Fi slm ha hl hh) fun σ H Q ⟨c,F,ρ,rel,h⟩=>⟨c,F,ρ,rel,h.bind fun p ρ1 v F1 H1 Ď _ _ r1 h1=>⟨c,F1,ρ1,Ď,h1.bind fun lo ρ2 lo' F2 H2 ĳ sF sH r2 h2=>⟨c,F2,ρ2,ĳ,h2.bind fun hi ρ3 hi' F3 H3 oM sF3 sH3 r3 h3=>by
   have e2:lo=lo':=r2
   have e3:hi=hi':=r3
   subst e2 e3
   have r1':rR (kk X cm) c σ ρ3 F3 H3 p v:=r1.mono (sF.trans sF3) (sH.trans sH3)
   cases p with
   |lst ps=>
    obtain⟨a,vs,rfl,q1,q2⟩:=r1'.lst oM.sub
    refine⟨vs,q1,λd hd=>?_⟩
    have e:Ĕ (kk X cm) F3 (bf ps lo hi) (vU vs lo hi):=by
     unfold bf vU
     rw[q2.length]
     exact Ĕ.of (Bk _ (Bl _ q2.pr))
    obtain⟨z1,z2⟩:=cX oM hd e
    exact h3 _ F3 _ z1 (Same.refl _) (Same.upd hd) z2
   |str z=>
    cases r1'.str
    unfold Pu at h3
    dsimp only at h3
    split at h3
    ·rename_i hz
     exact⟨by rw[Ĵ];exact hz,h3 _ F3 H3 oM (Same.refl _) (Same.refl _) (Rep.str (K:=kk X cm) (F:=F3))⟩
    ·exact h3.elim
   |_=>exact h3.elim⟩⟩⟩
def Dq{c:Ctx}{F H:Hp}{σ:L2.St}{ρ:Ĺ}{p:PV}{vs:List V}(h:rRL K c σ ρ F H [p] vs):∃v,vs=[v]/\rR K c σ ρ F H p v:=by
 cases h with
 |cons r t=>cases t;exact⟨_,rfl,r⟩
def Px{c:Ctx}{F H:Hp}{σ:L2.St}{ρ:Ĺ}{p q:PV}{vs:List V}(h:rRL K c σ ρ F H [p,q] vs):∃v u,vs=[v,u]/\rR K c σ ρ F H p v/\rR K c σ ρ F H q u:=by
 cases h with
 |cons r t=>
  cases t with
  |cons r' t=>cases t;exact⟨_,_,rfl,r,r'⟩
def jo:List PV->Option PV
 | [.lst ps]=>some (.int ps.length)
 | [.tup ps]=>some (.int ps.length)
 | [.str z]=>if z.length<=16777216 then some (.int z.length) else none
 |_=>none
def cB:bG K (Xc K.K) jo:=by
 intro c F H σ ρ ps pv vs Q rel r e k
 unfold jo at e
 split at e
 ·cases e
  obtain⟨v,rfl,r1⟩:=Dq r
  obtain⟨a,xs,rfl,h1,h2⟩:=r1.lst rel.sub
  refine⟨xs,.inl h1,?_⟩
  rw[<-h2.length]
  exact k _ F H rel (Same.refl _) (Same.refl _) Rep.int
 ·cases e
  obtain⟨v,rfl,r1⟩:=Dq r
  obtain⟨a,xs,rfl,h1,h2⟩:=r1.tup rel.sub
  refine⟨xs,.inr h1,?_⟩
  rw[<-h2.length]
  exact k _ F H rel (Same.refl _) (Same.refl _) Rep.int
 ·split at e
  ·rename_i hz
   cases e
   obtain⟨v,rfl,r1⟩:=Dq r
   cases r1.str
   exact⟨by rw[Ĵ];exact hz,k _ F H rel (Same.refl _) (Same.refl _) Rep.int⟩
  ·cases e
 ·cases e
def oX:List PV->Option PV
 | [.int i,.int j]=>some (.int (if j<i then j else i))
 |_=>none
def BJ:List PV->Option PV
 | [.int i,.int j]=>some (.int (if j>i then j else i))
 |_=>none
def nP:bG K Fv oX:=by
 intro c F H σ ρ ps pv vs Q rel r e k
 unfold oX at e
 split at e
 ·cases e
  obtain⟨v,u,rfl,r1,r2⟩:=Px r
  cases r1.int
  cases r2.int
  exact k _ F H rel (Same.refl _) (Same.refl _) Rep.int
 ·cases e
def Mv:bG K Fw BJ:=by
 intro c F H σ ρ ps pv vs Q rel r e k
 unfold BJ at e
 split at e
 ·cases e
  obtain⟨v,u,rfl,r1,r2⟩:=Px r
  cases r1.int
  cases r2.int
  exact k _ F H rel (Same.refl _) (Same.refl _) Rep.int
 ·cases e
def eG:List PV->Option RV
 | [.lst ps]=>some (.ow ps)
 | [.tup ps]=>some (.ow ps)
 |_=>none
def BK(K:PySem.W.Frag):List V->Hp->VK->Prop:=λxs H Q=>∃p ys,xs=[.ref p]/\(ū K H p ys\/fC K H p ys)/\∀l,H l=none->Q (.ref l) (upd H l (.lst ys))
def bJ:Ń X (.type "list") (BK X.K):=tU
def bK:Gk K (BK K.K) eG:=by
 intro c F H σ ρ ps pv vs Q rel r e k
 unfold eG at e
 split at e
 ·cases e
  obtain⟨v,rfl,r1⟩:=Dq r
  obtain⟨a,xs,rfl,h1,h2⟩:=r1.lst rel.sub
  refine⟨a,xs,rfl,.inl h1,λl hl=>?_⟩
  obtain⟨q1,q2⟩:=cX rel hl h2
  exact k _ F _ q1 (Same.refl _) (Same.upd hl) q2
 ·cases e
  obtain⟨v,rfl,r1⟩:=Dq r
  obtain⟨a,xs,rfl,h1,h2⟩:=r1.tup rel.sub
  refine⟨a,xs,rfl,.inr h1,λl hl=>?_⟩
  obtain⟨q1,q2⟩:=cX rel hl h2
  exact k _ F _ q1 (Same.refl _) (Same.upd hl) q2
 ·cases e
def qP:PV->String->Option Bool
 | .int _,"int" =>some true
 | .int _,"bool" =>some false
 | .int _,"str" =>some false
 | .int _,"tuple" =>some false
 | .int _,"list" =>some false
 | .bl _,"int" =>some true
 | .bl _,"bool" =>some true
 | .lst _,"list" =>some true
 | .lst _,"tuple" =>some false
 | .lst _,"int" =>some false
 | .lst _,"str" =>some false
 | .tup _,"tuple" =>some true
 | .tup _,"list" =>some false
 | .tup _,"int" =>some false
 | .tup _,"str" =>some false
 | .str _,"str" =>some true
 | .str _,"int" =>some false
 | .str _,"list" =>some false
 | .str _,"tuple" =>some false
 | .non,"int" =>some false
 | .non,"str" =>some false
 | .non,"tuple" =>some false
 | .non,"list" =>some false
 |_,_=>none
end
theorem wz{K:KK}{F:Hp}:∀ns:List Int,Ĕ K F (ns.map .int) (ns.map V.int)
 | []=>Ĕ.nil
 |n::ns=>Ĕ.cons Rep.int (wz ns)
def ZbO(K:PySem.W.Frag):Sp:=λvs H Q _=>∃(sa:Addr) (ns:List Int),vs=[.ref sa]/\ū K H sa (ns.map V.int)/\ns.length<=63/\∀v H',v=.bl true->Q v H'
end P
namespace P
open PySem PySem.Spec PyProof.Rows L2 M2 M3 M4
section
variable{X:Cx}{cm:String->Addr}{K:KK}
def TyP(K:PySem.W.Frag)(H:Hp)(x:V)(t:Value):Prop:=match x with
 | .non=>t=.type "NoneType"
 | .bl _=>t=.type "bool"
 | .int _=>t=.type "int"
 | .str _=>t=.type "str"
 | .ref a=>(t=.type "list" /\∃xs,ū K H a xs)\/(t=.type "tuple" /\∃xs,fC K H a xs)\/kh K H (.ref a) t
 |_=>False
def BL(K:PySem.W.Frag):List V->Hp->VK->Prop:=λxs H Q=>match xs with
 | [x,.ty n]=>∃t b,TyP K H x t/\PySem.W.kitOne K t (.type n)=some b/\Q (.bl b) H
 | [x,.ref C]=>∃t b,TyP K H x t/\PySem.W.kitOne K t (.ref C)=some b/\Q (.bl b) H
 |_=>False
def BP{pins:List (Addr×Obj)}{σ:L2.St}{H:Hp}{s:Shared}{A:Around}{E:Value->Shared->Prop}{Q:Value->Shared->Prop}{c:Value}{b:Bool}{x:V}{u t:Value}(I:Inv X pins σ H s)(rx:RelV x u)(ty:TyP X.K H x t)(e:PySem.W.kitOne X.K t c=some b)(h:∀tk,Q (.bool b) {s with toks:=tk}) :
 wpAny (model X.prog X.w) A (call (.builtin "isinstance") [u,c]) Q E s:=by
 cases x with
 |non=>cases(show t=_ from ty);exact cO I rx .non e h
 |bl y=>cases(show t=_ from ty);exact cO I rx (.bl y) e h
 |int y=>cases(show t=_ from ty);exact cO I rx (.int y) e h
 |str y=>cases(show t=_ from ty);exact cO I rx (.str y) e h
 |ref a=>
  cases(show u=Value.ref a from rx)
  rcases ty with⟨rfl,xs,hS⟩|⟨rfl,xs,hS⟩|ty
  ·obtain⟨its,r,⟨o,n,h1,h2,_⟩,_⟩:=I.list hS
   exact PySem.W.kia_one PySem.W.kitx_list I.dz ⟨o,h1,h2⟩ e (λz=>nomatch z) h
  ·obtain⟨its,r,⟨o,h1,h2,_⟩,_⟩:=I.tuple hS
   exact PySem.W.kia_one PySem.W.kitx_tuple I.dz ⟨o,h1,h2⟩ e (λz=>nomatch z) h
  ·exact cO I rx ty e h
 |_=>exact ty.elim
def XJ:Ń X (.builtin "isinstance") (BL X.K):=by
 intro pins s σ H xs us Q I r h
 unfold BL at h
 split at h
 ·obtain⟨t,b,h1,h2,h3⟩:=h
  obtain⟨u,w',rfl,r1,r2⟩:=vals2 r
  cases r2
  exact BP I r1 h1 h2 λtk=>⟨.bl b,H,I.tok _,rfl,h3⟩
 ·obtain⟨t,b,h1,h2,h3⟩:=h
  obtain⟨u,w',rfl,r1,r2⟩:=vals2 r
  cases r2
  exact BP I r1 h1 h2 λtk=>⟨.bl b,H,I.tok _,rfl,h3⟩
 ·exact h.elim
def tyN:PV->String
 | .non=> "NoneType"
 | .bl _=> "bool"
 | .int _=> "int"
 | .str _=> "str"
 | .lst _=> "list"
 | .tup _=> "tuple"
 |_=> ""
def Gy{F:PySem.W.Frag}{p:PV}{n:String}{b:Bool}(h:qP p n=some b):PySem.W.kitOne F (.type (tyN p)) (.type n)=some b:=by
 unfold qP at h
 split at h<;>first
  |(cases h;first|rfl|decide +kernel|kernel_rfl)
  |cases h
def Mw{c:Ctx}{F H:Hp}{σ:L2.St}{ρ:Ĺ}{p:PV}{v:V}(s:Same F H)(r:rR K c σ ρ F H p v)(h:∃n b,qP p n=some b):TyP K.K H v (.type (tyN p)):=by
 obtain⟨n,b,h⟩:=h
 cases p with
 |non=>cases r.non;rfl
 |bl _=>cases r.bl;rfl
 |int _=>cases r.int;rfl
 |str _=>cases r.str;rfl
 |lst ps=>
  obtain⟨a,vs,rfl,h1,h2⟩:=r.lst s
  exact .inl ⟨rfl,vs,h1⟩
 |tup ps=>
  obtain⟨a,vs,rfl,h1,h2⟩:=r.tup s
  exact .inr (.inl ⟨rfl,vs,h1⟩)
 |ins _ _ _=>simp[qP] at h
 |xc _ _ _=>simp[qP] at h
 |ty _=>simp[qP] at h
 |cls _=>simp[qP] at h
def Gz:List PV->Option PV
 | [p,.ty n]=>(qP p n).map .bl
 |_=>none
def GC:bG K (BL K.K) Gz:=by
 intro c F H σ ρ ps pv vs Q rel r e k
 unfold Gz at e
 split at e
 ·rename_i p n
  obtain⟨v,u,rfl,r1,r2⟩:=Px r
  cases r2.ty
  cases eb:qP p n with
  |none=>rw[eb] at e;cases e
  |some b=>
   rw[eb] at e
   cases e
   exact⟨_,b,Mw rel.sub r1 ⟨n,b,eb⟩,Gy eb,k _ F H rel (Same.refl _) (Same.refl _) Rep.bl⟩
 ·cases e
def oY:List PV->Option PV
 | [.lst ps]=>some (.tup ps)
 | [.tup ps]=>some (.tup ps)
 |_=>none
def GD(K:PySem.W.Frag):List V->Hp->VK->Prop:=λxs H Q=>∃p ys,xs=[.ref p]/\((ū K H p ys/\∀l,H l=none->Q (.ref l) (upd H l (.tup ys)))\/(fC K H p ys/\Q (.ref p) H))
def GF:Ń X (.type "tuple") (GD X.K):=qM
def GJ:bG K (GD K.K) oY:=by
 intro c F H σ ρ ps pv vs Q rel r e k
 unfold oY at e
 split at e
 ·cases e
  obtain⟨v,rfl,r1⟩:=Dq r
  obtain⟨a,xs,rfl,h1,h2⟩:=r1.lst rel.sub
  refine⟨a,xs,rfl,.inl ⟨h1,λl hl=>k _ _ _ (rel.alloc hl) (Same.upd (rel.sub.free hl)) (Same.upd hl) ?_⟩⟩
  unfold Rep
  exact⟨l,xs,rfl,fC.of Ğ,Ĕ.same (Same.upd (rel.sub.free hl)) _ _ h2⟩
 ·cases e
  obtain⟨v,rfl,r1⟩:=Dq r
  have r1':=r1
  obtain⟨a,xs,rfl,h1,h2⟩:=r1.tup rel.sub
  refine⟨a,xs,rfl,.inr ⟨h1,k _ F H rel (Same.refl _) (Same.refl _) ?_⟩⟩
  rcases r1' with q|q
  ·exact q
  ·exact q.elim
 ·cases e
def boolsOf:List PV->Option (List Bool)
 | []=>some []
 | .bl b::ps=>(boolsOf ps).map (b:: ·)
 |_::_=>none
theorem rP{F:Hp}:∀{ps:List PV} {vs:List V} {bs:List Bool},Ĕ K F ps vs->boolsOf ps=some bs->vs=bs.map V.bl
 | [],vs,bs,r,h=>by
   cases h
   have r':=r.pr
   cases r'
   rfl
 |p::ps,vs,bs,r,h=>by
  cases p with
  |bl b=>
   unfold boolsOf at h
   cases eb:boolsOf ps with
   |none=>rw[eb] at h;cases h
   |some cs=>
    rw[eb] at h
    cases h
    have r':=r.pr
    cases r' with
    |cons r1 t=>
     rw[t_ r1,rP (Ĕ.of t) eb]
     rfl
  |_=>simp[boolsOf] at h
def wA:List PV->Option PV
 | [.lst ps]=>(boolsOf ps).map λbs=>.bl (bs.all id)
 |_=>none
def zm:bG K (Xj K.K) wA:=by
 intro c F H σ ρ ps pv vs Q rel r e k
 unfold wA at e
 split at e
 ·rename_i ps
  obtain⟨v,rfl,r1⟩:=Dq r
  obtain⟨a,xs,rfl,h1,h2⟩:=r1.lst rel.sub
  cases eb:boolsOf ps with
  |none=>rw[eb] at e;cases e
  |some bs=>
   rw[eb] at e
   cases e
   refine⟨bs,by rw[<-rP h2 eb];exact h1,k _ F H rel (Same.refl _) (Same.refl _) Rep.bl⟩
 ·cases e
end
end P
namespace P
open PySem PySem.Spec PyProof.Rows L2 M2 M3 M4
section
variable{α β:Type}{ρ:Ĺ}{i j n k:Nat}{p q:PV}{ps:List PV}{m ma mb mc:M PV}{mo:M RV}{a b:M Fl}{ta tb:M Bool}{mr:M (List PV)}{f:PV->PV->Option PV}{fo:PV->PV->Option RV}{fl:List PV->Option PV}{flo:List PV->Option RV}{g:Tg}{gs:Ei}
@[simp] theorem Zfn:jy ρ=.ok .nx ρ:= rfl
@[simp] theorem Zec:Ĝ a b ρ=(a ρ).bind λf ρ1=>match f with| .nx=>b ρ1|f=>.ok f ρ1:=rfl
@[simp] theorem Zed:Ī i mo ρ=(mo ρ).bind λr ρ1=>.ok .nx (ρ1.set i r.slot):=rfl
@[simp] theorem Zee:ħ mo ρ=(mo ρ).bind λr ρ1=>.ok (.rt r) ρ1:=rfl
@[simp] theorem ZcV:rK m ρ=(m ρ).bind λ_ ρ1=>.ok .nx ρ1:=rfl
@[simp] theorem ZfA:mC p ρ=.ok p ρ:= rfl
@[simp] theorem Zfo:ŉ m ρ=(m ρ).bind λp ρ1=>.ok (.sh p) ρ1:=rfl
@[simp] theorem Zef:Đ mo ρ=(mo ρ).bind λr ρ1=>.ok r.val ρ1:=rfl
@[simp] theorem Zeg:(RV.sh p).val=p:=rfl
@[simp] theorem Zeh:(RV.ow ps).val=.lst ps:=rfl
@[simp] theorem Zei:(RV.sh p).slot=.sh p:=rfl
@[simp] theorem Zej:(RV.ow ps).slot=.ow ps:=rfl
@[simp] theorem Zek:ą f ma mb ρ=(ma ρ).bind λp ρ1=>(mb ρ1).bind λq ρ2=>Res.nO (f p q) ρ2:=rfl
@[simp] theorem ZcW:ġ fo ma mb ρ=(ma ρ).bind λp ρ1=>(mb ρ1).bind λq ρ2=>Res.nO (fo p q) ρ2:=rfl
@[simp] theorem Zfp{u:PV->Option PV}:aK u ma ρ=(ma ρ).bind λp ρ1=>Res.nO (u p) ρ1:=rfl
@[simp] theorem Zel:cU m ρ=(m ρ).bind λp ρ1=>Res.nO (Xo p) ρ1:=rfl
@[simp] theorem Zfq:cV m ρ=(m ρ).bind λp ρ1=>match p with| .bl b=>.ok b ρ1|_=>.bad:=rfl
@[simp] theorem ZcX:iJ ta ρ=(ta ρ).bind λb ρ1=>.ok (!b) ρ1:=rfl
@[simp] theorem ZcY:iK ta tb ρ=(ta ρ).bind λb ρ1=>if b=true then tb ρ1 else .ok false ρ1:=rfl
@[simp] theorem Zem:L_ ta tb ρ=(ta ρ).bind λb ρ1=>if b=true then .ok true ρ1 else tb ρ1:=rfl
@[simp] theorem Zen:dI ma mb ρ=(ma ρ).bind fun p ρ1=>match p with| .bl b=>if b=true then mb ρ1 else .ok (.bl false) ρ1|_=>.bad:=by
  unfold dI
  congr
  funext p ρ1
  cases p with
  |bl b=>cases b<;>rfl
  |_=>rfl
@[simp] theorem Zeo:Xp ma ρ=(ma ρ).bind λp ρ1=>match p with| .bl b=>.ok (.bl (!b)) ρ1|_=>.bad:=rfl
@[simp] theorem Zfr{x y:M α}:fK ta x y ρ=(ta ρ).bind λb ρ1=>if b=true then x ρ1 else y ρ1:=rfl
@[simp] theorem Zep{f g:PV→PV→Option PV}:kJ f g ma mb mc ρ=(ma ρ).bind fun p ρ1=>(mb ρ1).bind fun q ρ2=>(Res.nO (f p q) ρ2).bind fun z ρ3=>match z with
  | .bl true=>(mc ρ3).bind λw ρ4=>Res.nO (g q w) ρ4
  | .bl false=>.ok (.bl false) ρ3
  |_=>.bad:=rfl
@[simp] theorem Zeq:ę ρ=.ok [] ρ:= rfl
@[simp] theorem ZcZ:Ą ma mr ρ=(ma ρ).bind λp ρ1=>(mr ρ1).bind λps ρ2=>.ok (p::ps) ρ2:=rfl
@[simp] theorem Zer:Ŀ mr ρ=(mr ρ).bind λps ρ1=>if ps.length<=16777216 then .ok (.tup ps) ρ1 else .bad:=rfl
@[simp] theorem Zes:Ž mr ρ=(mr ρ).bind λps ρ1=>if ps.length<=16777216 then .ok (.ow ps) ρ1 else .bad:=rfl
@[simp] theorem Zfs:fG fl mr ρ=(mr ρ).bind λps ρ1=>Res.nO (fl ps) ρ1:=rfl
@[simp] theorem Zet:oK flo mr ρ=(mr ρ).bind λps ρ1=>Res.nO (flo ps) ρ1:=rfl
@[simp] theorem Zc0{mf:MF}{ms:M (List Slot)}:Ē mf ms ρ=(ms ρ).bind λps ρ1=>match mf ps with| .ret r=>.ok r ρ1| .exc x=>.exc x ρ1| .bad=>.bad:=rfl
@[simp] theorem Zft:ě i ρ=(match ρ[i]? with|some (.sh p)=>.ok p ρ|some (.ow ps)=>.ok (.lst ps) (ρ.set i (.sh (.lst ps)))|_=>.bad):=rfl
@[simp] theorem Zfu:Ā i ρ=(match ρ[i]? with|some (.sh p)=>.ok p ρ|some (.ow ps)=>.ok (.lst ps) ρ|some (.bw ps)=>.ok (.lst ps) ρ|some (.rc C ns ps)=>.ok (.ins C ns ps) ρ|_=>.bad):=rfl
@[simp] theorem Zfv:fW i ρ=(match ρ[i]? with|some (.sh p)=>.ok (.sh p) ρ|some (.ow ps)=>.ok (.ow ps) (ρ.set i .no)|_=>.bad):=rfl
@[simp] theorem Zeu:Mg g m ρ=(m ρ).bind λp ρ1=>match g p ρ1 with|some ρ2=>.ok .nx ρ2|none=>.bad:=rfl
@[simp] theorem GK:gN i p ρ=some (ρ.set i (.sh p)):=rfl
@[simp] theorem ZbP:aL [] ρ=some ρ:= rfl
@[simp] theorem Za7:Ĩ g gs (p::ps) ρ=(g p ρ).bind λρ1=>gs ps ρ1:=rfl
@[simp] theorem Zfw:gT n gs (.tup ps) ρ=if ps.length=n then gs ps ρ else none:=rfl
@[simp] theorem Zev:mQ i m ρ=(match ρ[i]? with
  |some (.ow _)=>(m ρ).bind λp ρ1=>match ρ1[i]? with
   |some (.ow ps)=>if ps.length<16777216 then .ok .nx (ρ1.set i (.ow (ps ++ [p]))) else .bad
   |_=>.bad
  |_=>.bad):=rfl
@[simp] theorem Zew:Dp ρ=.ok none ρ:= rfl
@[simp] theorem ZfB:mP m ρ=(m ρ).bind λp ρ1=>match p with| .int i=>.ok (some i) ρ1|_=>.bad:=rfl
@[simp] theorem Zfx{ml mh:M (Option Int)}:Ej ma ml mh ρ=(ma ρ).bind λp ρ1=>(ml ρ1).bind λlo ρ2=>(mh ρ2).bind λhi ρ3=>Res.nO (Pu p lo hi) ρ3:=rfl
@[simp] theorem Zex{lo hi:Option Int}:Pu (.lst ps) lo hi=some (.ow (bf ps lo hi)):=rfl
@[simp] theorem ZbQ:ũ m ρ=(m ρ).bind fun p ρ1=>match p with
  | .lst ps=>.ok ps ρ1
  | .tup ps=>.ok ps ρ1
  | .str z=>.ok (z.cps.toList.map λc=>.str ⟨#[c]⟩) ρ1
  |_=>.bad:=rfl
@[simp] theorem ZbR{h:List PV->Option (List PV)}:cA h mr ρ=(mr ρ).bind λps ρ1=>Res.nO (h ps) ρ1:=rfl
@[simp] theorem XM{mi:M (List PV)}:kW mi g b ρ=(mi ρ).bind λitems ρ1=>forL g b items ρ1:=rfl
@[simp] theorem Zc1{js:List Nat}{nl:Nat}{mi:M (List PV)}{mt:M Bool}{me:M PV}:ŏ js nl mi g mt me ρ=(mi ρ).bind fun items ρ1=>match ĸ g mt me items (fH js nl ρ1) [] with
  |some ps=>.ok (.ow ps) ρ1
  |none=>.bad:=rfl
@[simp] theorem Zey:ő ρ=.ok true ρ:= rfl
@[simp] theorem Zez{mbd:M Fl}{as:List Slot}:į n k mbd as=if as.length=n then FR.of (mbd (startP k as)) else .bad:=rfl
@[simp] theorem ZeA{r:RV}:FR.of (.ok (.rt r) ρ)=.ret r:=rfl
@[simp] theorem ZeB:FR.of (.ok .nx ρ)=.ret (.sh .non):=rfl
@[simp] theorem ZeC{x:PX}:FR.of (.exc x ρ)=.exc x:=rfl
@[simp] theorem ZeD:FR.of .bad=.bad:=rfl
@[simp] theorem ZbS{as:List Slot}:startP k as=as++List.replicate (k-as.length) .no:=rfl
@[simp] theorem Zc2:ď ρ=.ok [] ρ:= rfl
@[simp] theorem ZbT{ms:M (List Slot)}:đ ma ms ρ=(ma ρ).bind λp ρ1=>(ms ρ1).bind λas ρ2=>.ok (.sh p::as) ρ2:=rfl
@[simp] theorem ZbU{ms:M (List Slot)}:Ć i ms ρ=(match(ρ[i]?).bind cW with
  |none=>.bad
  |some _=>(ms ρ).bind λas ρ2=>match(ρ2[i]?).bind cW with
   |some s=>.ok (s::as) ρ2
   |none=>.bad):=rfl
@[simp] theorem ZeE:cW (.sh p)=some (.sh p):=rfl
@[simp] theorem ZeF:cW (.ow ps)=some (.bw ps):=rfl
@[simp] theorem ZeG:cW (.bw ps)=some (.bw ps):=rfl
@[simp] theorem ZeH:Ŭ (.sh p)=.sh p:=rfl
@[simp] theorem ZeI:Ŭ (.ow ps)=.bw ps:=rfl
@[simp] theorem ZeJ:Ŭ (.bw ps)=.bw ps:=rfl
@[simp] theorem ZeK{js:List Nat}{nl:Nat}:fH js nl ρ=js.map (λ(j:Nat)=>Ŭ ((ρ[j]?).getD .no))++List.replicate nl .no:=rfl
@[simp] theorem zp:ŗ i ρ=(match ρ[i]? with
  |some (.bw ps)=>.ok ps ρ
  |some (.sh (.lst ps))=>.ok ps ρ
  |some (.sh (.tup ps))=>.ok ps ρ
  |some (.sh (.str z))=>.ok (z.cps.toList.map λc=>.str ⟨#[c]⟩) ρ
  |some (.ow ps)=>.ok ps (ρ.set i (.sh (.lst ps)))
  |_=>.bad):=rfl
@[simp] theorem Zc3{x y:Int}:ğ (.int x) (.int y)=some (.sh (.int (x+y))):=rfl
@[simp] theorem Zc4{x y:Int}:ľ (.int x) (.int y)=some (.int (x-y)):=rfl
@[simp] theorem Zc5{x y:Int}:Ĥ (.int x) (.int y)=if ĺ x y=true then some (.int (x*y)) else none:=rfl
@[simp] theorem Zc6{x y:Int}:ś (.int x) (.int y)=if iR x y=true then some (.int (x.fdiv y)) else none:=rfl
@[simp] theorem Zc7{x y:Int}:İ (.int x) (.int y)=if Bv x y=true then some (.int (x.fmod y)) else none:=rfl
@[simp] theorem Zc8{x y:Int}:iU (.int x) (.int y)=if oR x y=true then some (.int (x ^ y.toNat)) else none:=rfl
@[simp] theorem Zc9{x y:Int}:wj (.int x) (.int y)=if oU x y=true then some (.int (x*2 ^ y.toNat)) else none:=rfl
@[simp] theorem Zc_{x y:Int}:Gu (.int x) (.int y)=if wu x y=true then some (.int (x / 2 ^ y.toNat)) else none:=rfl
@[simp] theorem Zda{x:Int}:aZ (.int x)=some (.int (-x)):=rfl
@[simp] theorem ZeL{x y:Int}:jE (.int x) (.int y)=some (.bl (decide (x<y))):=rfl
@[simp] theorem ZeM{x y:Int}:jm (.int x) (.int y)=some (.bl (decide (x<=y))):=rfl
@[simp] theorem ZeN{x y:Int}:Mu (.int x) (.int y)=some (.bl (decide (y<x))):=rfl
@[simp] theorem ZeO{x y:Int}:Œ (.int x) (.int y)=some (.bl (decide (x=y))):=by
  have h:eqB (.int x) (.int y)=decide (x=y):=by rw[eqB.eq_def];rfl
  rw[<-h];rfl
@[simp] theorem ZeP{x y:Int}:jF (.int x) (.int y)=some (.bl (!decide (x=y))):=by
  have h:eqB (.int x) (.int y)=decide (x=y):=by rw[eqB.eq_def];rfl
  rw[<-h];rfl
@[simp] theorem ZeQ{x y:Bool}:Œ (.bl x) (.bl y)=some (.bl (x== y)):=rfl
@[simp] theorem ZeR{x y:Bool}:jF (.bl x) (.bl y)=some (.bl (!(x== y))):=rfl
@[simp] theorem ZeS{p:PV}:qO p .non=some (.bl (uh p)):=rfl
@[simp] theorem Zdb{p:PV}:jG p .non=some (.bl (!uh p)):=rfl
@[simp] theorem ZeT{x:Int}:Ė (.lst ps) (.int x)=qK ps x:=rfl
@[simp] theorem ZeU{x:Int}:Ė (.tup ps) (.int x)=qK ps x:=rfl
@[simp] theorem Zdc:jo [.lst ps]=some (.int ps.length):=rfl
@[simp] theorem Zdd:jo [.tup ps]=some (.int ps.length):=rfl
@[simp] theorem ZeV{x y:Int}:oX [.int x,.int y]=some (.int (if y<x then y else x)):=rfl
@[simp] theorem ZeW{x y:Int}:BJ [.int x,.int y]=some (.int (if y>x then y else x)):=rfl
@[simp] theorem ZbV:eG [.lst ps]=some (.ow ps):=rfl
@[simp] theorem ZbW:eG [.tup ps]=some (.ow ps):=rfl
@[simp] theorem Zde:oY [.lst ps]=some (.tup ps):=rfl
@[simp] theorem Zdf:oY [.tup ps]=some (.tup ps):=rfl
@[simp] theorem ZeX{t:String}:Gz [p,.ty t]=(qP p t).map .bl:=rfl
@[simp] theorem Zdg{x:Bool}:Xo (.bl x)=some x:=rfl
@[simp] theorem Zdh{x:Int}:Xo (.int x)=some (x != 0):=rfl
@[simp] theorem Zdi:Xo (.lst ps)=some (!ps.isEmpty):=rfl
@[simp] theorem GP(xs:List α)(n:Nat):qK xs (n:Int)=xs[n]?:= by
  unfold qK KY
  rw[if_pos (by omega)]
  by_cases h:n<xs.length
  ·rw[if_pos (by omega)]
   simp
  ·rw[if_neg (by omega)]
   simp
   omega
@[simp] theorem Zdj(xs:List α)(n:Nat):qK xs (no_index (OfNat.ofNat n):Int)=xs[(no_index (OfNat.ofNat n):Nat)]?:= GP xs n
@[simp] theorem Za8{x y:Int}:Bv x y=decide (y≠0):=rfl
end
def aF{x y:Int}(h1: -(2 ^ 64)<x)(h2:x<2 ^ 64):ĺ x y=true:=by unfold ĺ;rw[decide_eq_true (by omega:x.natAbs<18446744073709551616)];rfl
def mul_r{x y:Int}(h1: -(2 ^ 64)<y)(h2:y<2 ^ 64):ĺ x y=true:=by unfold ĺ;rw[decide_eq_true (by omega:y.natAbs<18446744073709551616)];simp
def BR{x y:Int}(h1:y≠0)(h2:bits y<=8000):iR x y=true:=by unfold iR;simp[h1,h2]
section
variable{g:Tg}{mb:M Fl}{mc mt:M Bool}{me:M PV}{items:List PV}{ρ:Ĺ}
theorem ŕ{α:Type}(c f:α->PV)(I:Ĺ->Prop):∀(xs:List α) (ρ:Ĺ) (acc:List PV),I ρ->acc.length+xs.length<=16777216->
 (∀x∈xs,∀ρ,I ρ->∃ρ1 ρ2 ρ3,g (c x) ρ=some ρ1/\mt ρ1=.ok true ρ2/\me ρ2=.ok (f x) ρ3/\I ρ3)->ĸ g mt me (xs.map c) ρ acc=some (acc++xs.map f)
 | [],ρ,acc,_,_,_=>by simp[ĸ]
 |x::xs,ρ,acc,h,hz,hs=>by
  obtain⟨ρ1,ρ2,ρ3,h1,h2,h3,h4⟩:=hs x List.mem_cons_self ρ h
  rw[List.map_cons,ĸ,h1]
  dsimp only
  rw[h2]
  dsimp only
  rw[h3]
  dsimp only
  rw[if_pos (by simp at hz;omega),ŕ c f I xs ρ3 (acc ++ [f x]) h4 (by simp at hz ⊢;omega) λy hy=>hs y (List.mem_cons_of_mem _ hy)]
  simp
def zq{β:Type}(st:β->Ĺ)(I:β->Prop)(μ:β->Nat)(hs:∀b,I b->mc (st b)=.ok false (st b)\/(mc (st b)=.ok true (st b)/\∃b',mb (st b)=.ok .nx (st b')/\I b'/\μ b' < μ b)){b:β}(h0:I b) :
 ∃b',Ş mc mb (st b)=.ok .nx (st b')/\I b'/\mc (st b')=.ok false (st b'):=by
 have go:∀n b,μ b<=n->I b->∃b',Ş mc mb (st b)=.ok .nx (st b')/\I b'/\mc (st b')=.ok false (st b'):=by
  intro n
  induction n with
  |zero=>
   intro b hn hi
   rcases hs b hi with e|⟨e,b',_,_,hl⟩
   ·exact⟨b,by rw[fZ,e];rfl,hi,e⟩
   ·omega
  |succ n ih=>
   intro b hn hi
   rcases hs b hi with e|⟨e,b',e2,hi',hl⟩
   ·exact⟨b,by rw[fZ,e];rfl,hi,e⟩
   ·obtain⟨b2,q1,q2⟩:=ih b' (by omega) hi'
    refine⟨b2,?_,q2⟩
    rw[fZ,e]
    simp only[Res.aq,if_true,e2]
    exact q1
 exact go (μ b) b (Nat.le_refl _) h0
end
end P
namespace P
open PySem PySem.Spec PyProof.Rows L2 M2 M3 M4
def aH(Q:String->Prop):List String->Prop
 | []=>True
 |c::cs=>Q c/\aH Q cs
theorem aH.get{Q:String->Prop}:∀{cs:List String} {C:String},aH Q cs->cs.contains C=true->Q C
 | [],_,_,h=>by simp at h
 |c::cs,C,⟨h1,h2⟩,h=>by
  by_cases e:C=c
  ·rw[e];exact h1
  ·refine h2.get ?_
   rw[List.contains_cons] at h
   have:(C== c)=false:=by simpa using e
   rw[this,Bool.false_or] at h
   exact h
section
variable{X:Cx}{cm:String->Addr}{K:KK}{E:L2.St->XK}{a b e o:Expr}{es:List Expr}{pos apos:Pos}{m ma mb:M PV}{f:Str}
theorem jq{F:Hp}:∀{fs:List (Str×V)} {ps:List PV} {p:PV},Ĕ K F ps (fs.map (·.2))->((fs.map (·.1)).zip ps).lookup f=some p->∃v,fs.lookup f=some v/\Rep K F p v
 | [],ps,p,_,h=>by simp at h
 |(g,v)::fs,ps,p,r,h=>by
  have r':=r.pr
  rw[List.map_cons] at r'
  cases r' with
  |cons r1 t=>
   rename_i q qs
   rw[List.map_cons,List.zip_cons_cons,List.lookup_cons] at h
   rw[List.lookup_cons]
   cases hg:f== g with
   |true=>
    simp only[hg] at h
    cases h
    exact⟨v,rfl,r1⟩
   |false=>
    simp only[hg] at h
    exact jq (Ĕ.of t) h
theorem rR.ins{c:Ctx}{F H:Hp}{σ:L2.St}{ρ:Ĺ}{C:String}{ns:List Str}{ps:List PV}{v:V}(s:Same F H)(h:rR K c σ ρ F H (.ins C ns ps) v):∃a dx fs,v=.ref a/\H a=some (.ins (K.cm C) dx fs)/\fs.map (·.1)=ns/\Ĕ K F ps (fs.map (·.2)):=by
 rcases h with h|h
 ·unfold Rep at h
  obtain⟨a,dx,fs,h1,h2,h3,h4⟩:=h
  exact⟨a,dx,fs,h1,s _ _ h2,h3,h4⟩
 ·exact h
def ń(cs:List String)(f:Str):PV->Option PV
 | .ins C ns ps=>if cs.contains C=true then(ns.zip ps).lookup f else none
 |_=>none
def Ņ(cs:List String)(hcs:aH (λC=>Cls X.K (cm C)/\Ģ X.K (cm C) f) cs)(he:PE X e (tR (kk X cm) E m))(hb:attributeBase e f X.env (eval e X.env)=eval e X.env:=by rfl):PE X (.Attribute e f pos) (tV (kk X cm) E (aK (ń cs f) m)):=
 PE.wk (Ww he hb) fun σ H Q ⟨c,F,ρ,rel,h⟩=>⟨c,F,ρ,rel,h.bind fun p ρ1 v F1 H1 Ď _ _ r1 h1=>by
   cases p with
   |ins C ns ps=>
    unfold ń at h1
    dsimp only at h1
    split at h1
    ·rename_i hc
     obtain⟨a,dx,fs,rfl,q2,q3,q4⟩:=r1.ins Ď.sub
     cases el:(ns.zip ps).lookup f with
     |none=>rw[el] at h1;exact h1.elim
     |some q=>
      rw[el] at h1
      subst q3
      obtain⟨v,e1,e2⟩:=jq q4 el
      obtain⟨k1,k2⟩:=hcs.get hc
      exact⟨a,_,dx,fs,v,rfl,q2,k1,k2,e1,h1 v F1 H1 Ď (Same.refl _) (Same.refl _) e2⟩
    ·exact h1.elim
   |_=>exact h1.elim⟩
def GQ(X:Cx)(cm:String->Addr)(CX:lO)(k n:Nat)(m:Str)(C:String)(mf:MF):Prop:=Cls X.K (cm C)/\∃f fd ps,Meth X.K (cm C) m f/\ģ X.prog X.w X.K X.mg X.base CX k f fd ps (š (kk X cm) n mf)/\Binds X.K fd ps []/\
 ∀{ps:List Slot},(∃r,mf ps=r/\∀z,r=z->z≠ .bad)->ps.length=n
def GR(Q:String->MF->Prop):List (String×MF)->Prop
 | []=>True
 |(c,mf)::cs=>Q c mf/\GR Q cs
theorem GR.get{Q:String->MF->Prop}:∀{cs:List (String×MF)} {C:String} {mf:MF},GR Q cs->cs.lookup C=some mf->Q C mf
 | [],_,_,_,h=>by simp at h
 |(c,g)::cs,C,mf,⟨h1,h2⟩,h=>by
  rw[List.lookup_cons] at h
  cases hc:C== c with
  |true=>
   rw[hc] at h
   cases h
   have:C=c:=by simpa using hc
   rw[this];exact h1
  |false=>
   rw[hc] at h
   exact h2.get h
def oZ(m:Str)(fL:List (String×MF))(mo:M PV)(ms:M (List Slot)):M RV:=λρ=>(mo ρ).bind λp ρ1=>match p with
 | .ins C ns ps=>match fL.lookup C with
   |some mf=>if ns.contains m=true then .bad else(ms ρ1).bind λas ρ2=>match mf (.sh (.ins C ns ps)::as) with
    | .ret r=>.ok r ρ2
    | .exc x=>.exc x ρ2
    | .bad=>.bad
   |none=>.bad
 |_=>.bad
theorem kY{m:Str}:∀{fs:List (Str×V)},(fs.map (·.1)).contains m=false->fs.lookup m=none
 | [],_=>rfl
 |(g,v)::fs,h=>by
  rw[List.map_cons,List.contains_cons,Bool.or_eq_false_iff] at h
  rw[List.lookup_cons,h.1]
  exact kY h.2
variable{CX:lO}{k n:Nat}{Ke:Str}{fL:List (String×MF)}{ms:M (List Slot)}
def GX{c:Ctx}{F H:Hp}{σ:L2.St}{ρ:Ĺ}{Q:VK}(rel:Rel (kk X cm) c F H σ ρ)(h:aj (kk X cm) E (rO (kk X cm)) c F H σ Q (oZ Ke fL m ms ρ))(XQ:GR (λC mf=>GQ X cm CX k n Ke C mf) fL) :
 aj (kk X cm) E (rV (kk X cm)) c F H σ (λx H1=>∃a C dx fs g fd ps mf,x=.ref a/\H1 a=some (.ins C dx fs)/\Cls X.K C/\Meth X.K C Ke g/\fs.lookup Ke=none/\ģ X.prog X.w X.K X.mg X.base CX k g fd ps (š (kk X cm) n mf)/\Binds X.K fd ps []/\
  tA (kk X cm) E ms σ H1 λvs H2=>š (kk X cm) n mf (.ref a::vs) H2 Q (E σ)) (m ρ):=
 aj.bind h λp ρ1 v F1 H1 Ď _ _ r1 h1=>by
  cases p with
  |ins C ns ps=>
   dsimp only at h1
   cases el:fL.lookup C with
   |none=>rw[el] at h1;exact h1.elim
   |some mf=>
    rw[el] at h1
    dsimp only at h1
    split at h1
    ·exact h1.elim
    ·rename_i hn
     obtain⟨k1,f,fd,qs,k2,k3,k4,k5⟩:=XQ.get el
     have r1':Rep (kk X cm) F1 (.ins C ns ps) v:=r1
     have r2:=r1'
     unfold Rep at r2
     obtain⟨a,dx,fs,rfl,q2,q3,q4⟩:=r2
     refine⟨a,_,dx,fs,f,fd,qs,mf,rfl,Ď.sub _ _ q2,k1,k2,kY (by rw[q3];simpa using hn),k3,k4,c,F1,ρ1,Ď,aj.bind h1 λas ρ2 vs F2 H2 ĳ sF sH r3 h3=>?_⟩
     exact vZ (vs:=.ref a::vs) k5 ĳ (.cons (show aW _ _ _ (.sh _) _ from Rep.same sF _ _ r1') r3) h3
  |_=>exact h1.elim
def Mx{pl:Sem Bool}(XQ:GR (λC mf=>GQ X cm CX k n Ke C mf) fL)(hr:Ő k X.A)(hx:ŷ CX X E)(he:PE X o (tV (kk X cm) E m))
 (ht:eval (.Call (.Attribute o Ke apos) [] [] pos) X.env=(do
   let ov <-eval o X.env
   standAt apos.atName
   let (f,first) <-holding [ov] (getMethod ov Ke pl)
   callWith pos f first (backTo pos (starEach [] X.env)) (backToKw pos (keywordEach [] X.env))):=by rfl) :
 PE X (.Call (.Attribute o Ke apos) [] [] pos) (tO (kk X cm) E (oZ Ke fL m ď)):=by
 intro pins s σ H Q I ⟨c,F,ρ,rel,h⟩
 refine PySem.W.methodCall_KW (pl:=pl) (ł (he pins s σ H _ I ⟨c,F,ρ,rel,GX rel h XQ⟩) λu s1 ⟨x,H1,I1,rx,a,C,dx,fs,g,fd,ps,mf,ex,ea,cl,k2,l,k3,k4,q⟩=>?_) ht
 subst ex
 obtain rfl:u=Value.ref a:=rx
 refine yL I1 ea cl k2 l ?_
 obtain⟨c1,F1,ρ1,Ď,q⟩:=q
 exact PySem.W.callWith_K0 (first:=[.ref a]) I1.dz k2.kp (Bu (us:=[.ref a]) (vs:=[.ref a]) k3 hr k4 hx I1 (.cons rfl .nil) (q [] F1 H1 Ď (Same.refl _) (Same.refl _) .nil))
def putN(f:Str):List Str->List Str
 | []=>[f]
 |g::r=>if g=f then g::r else g::putN f r
def qQ(f:Str)(p:PV):List Str->List PV->List PV
 | [],_=>[p]
 |g::r,q::qs=>if g=f then p::qs else q::qQ f p r qs
 |_::_,[]=>[]
theorem uo{F:Hp}{p:PV}{y:V}(ry:Rep K F p y):∀{fs:List (Str×V)} {ps:List PV},Ĕ K F ps (fs.map (·.2))->(ŵ f y fs).map (·.1)=putN f (fs.map (·.1))/\Ĕ K F (qQ f p (fs.map (·.1)) ps) ((ŵ f y fs).map (·.2))
 | [],ps,r=>⟨rfl,Ĕ.cons ry Ĕ.nil⟩
 |(g,v)::fs,ps,r=>by
  have r':=r.pr
  rw[List.map_cons] at r'
  cases r' with
  |cons r1 t=>
   rename_i q qs
   unfold ŵ
   rw[List.map_cons]
   unfold putN qQ
   by_cases hg:g=f
   ·rw[if_pos hg,if_pos hg,if_pos hg]
    exact⟨rfl,Ĕ.cons ry (Ĕ.of t)⟩
   ·rw[if_neg hg,if_neg hg,if_neg hg]
    obtain⟨h1,h2⟩:=uo ry (Ĕ.of t)
    exact⟨by rw[List.map_cons,h1],Ĕ.cons r1 h2⟩
def iV(i:Nat)(cs:List String)(f:Str)(mv:M PV):M Fl:=λρ=>(mv ρ).bind λp ρ1=>match ρ1[i]? with
 |some (.rc C ns ps)=>if cs.contains C=true/\ns.length<1000 then .ok .nx (ρ1.set i (.rc C (putN f ns) (qQ f p ns ps))) else .bad
 |_=>.bad
def Ź{i:Nat}{x:Str}{px pos':Pos}(cs:List String)(hcs:aH (λC=>Cls X.K (cm C)/\Ģ X.K (cm C) f) cs)(ho:PE X (.Name x px) (yD i))(he:PE X e (tV (kk X cm) E m))(hs:swapsWith e (some (.Attribute (.Name x px) f pos')) pos.line X.env=pure false:=by rfl) :
 PS X (.Assign [.Attribute (.Name x px) f pos'] e pos) (tS (kk X cm) E (iV i cs f m)):=PS.wk (Wx ho he hs) λD σ H ⟨c,F,ρ,rel,h⟩=>⟨c,F,ρ,rel,Ŋ.bind h λp ρ1 y F1 H1 Ď s1 ry h1=>by
 cases e1:ρ1[i]? with
 |none=>rw[e1] at h1;exact h1.elim
 |some sl=>
  rw[e1] at h1
  cases sl with
  |rc C ns ps=>
   dsimp only at h1
   split at h1
   ·rename_i hc
    obtain⟨a,dx,fs,q1,q2,q3,q4,q5,q6,q7⟩:=Ď.slot i _ e1
    subst q5
    obtain⟨k1,k2⟩:=hcs.get hc.1
    refine⟨.ref a,at_of q1,a,_,dx,fs,rfl,q2,k1,k2,by simpa using hc.2,?_⟩
    obtain⟨z1,z2⟩:=uo (f:=f) (p:=p) ry q6
    exact h1 σ F1 _ (Ď.write ⟨_,_,e1,at_of q1,rfl⟩ (at_of q1) ⟨a,dx,_,rfl,Ğ,q3,q4,z1,z2,q7⟩ λ_ z=>(V.ref.inj z).symm) (Same.refl _)
   ·exact h1.elim
  |_=>exact h1.elim⟩
inductive IR where
 |ok (ns:List Str) (ps:List PV)|exc (x:PX)|bad
abbrev MI:=List Slot->IR
def IR.of:Res Fl->IR
 | .ok .nx (.rc _ ns ps::_)=>.ok ns ps
 | .exc x _=>.exc x
 |_=>.bad
def bL(n k:Nat)(C:String)(mb:M Fl):MI:=λas=>if as.length+1=n then IR.of (mb (.rc C [] []::startP (k-1) as)) else .bad
structure GrB(a:Addr)(F H F' H':Hp):Prop where
 h:∀b u,b≠a->H b=some u->H' b=some u
 f:Same F F'
 sub:Same F' H'
 out:∀b,b≠a->H b≠none->F b=none->F' b=none
def ZeY(K:KK)(E:XK)(F H:Hp)(Q:VK)(a dx:Addr)(C:String):IR->Prop
 | .ok ns ps=>∀F' H' fs,GrB a F H F' H'->H' a=some (.ins (K.cm C) dx fs)->F' a=none->fs.map (·.1)=ns->Ĕ K F' ps (fs.map (·.2))->Q .non H'
 | .exc x=>∀C' d F' H',GrB a F H F' H'->Dk K F' x C' d->E C' d H'
 | .bad=>False
def Kf(K:KK)(n:Nat)(C:String)(mi:MI):Sp:=λvs H Q E=>∃F a dx vs' as,vs=.ref a::vs'/\as.length+1=n/\H a=some (.ins (K.cm C) dx [])/\F a=none/\Same F H/\Paired (aW K F H) as vs'/\ZeY K E F H Q a dx C (mi as)
def Mz(a dx:Addr)(C:String)(F H:Hp):Ctx:=⟨λb=>if b=a then none else H b,F,λb=>if b=a then none else(ctx0 F H).L b,λa' dx' C'=>a'=a/\dx'=dx/\C'=C⟩
def Rel.gri{σ:L2.St}{ρ:Ĺ}{a dx:Addr}{C:String}{F H F' H':Hp}(r:Rel K (Mz a dx C F H) F' H' σ ρ):GrB a F H F' H':=
 ⟨λb u hb e=>r.base b u (by show(if b=a then none else H b)=_;rw[if_neg hb];exact e),r.f0,r.sub,λb hb h1 h2=>r.bY b (by show(if b=a then none else H b)≠none;rw[if_neg hb];exact h1) h2⟩
def Rel.XR{F H:Hp}{N:List Str}{as:List Slot}{vs:List V}{a dx:Addr}{C:String}(s:Same F H)(ha:H a=some (.ins (K.cm C) dx []))(hF:F a=none)(h:Paired (aW K F H) as vs) :
 Rel K (Mz a dx C F H) F H (L2.start N (.ref a::vs)) (.rc C [] []::startP (N.length-1) as):=by
 have r0:=Rel.start (N:=N) (K:=K) s (as:=.sh (.int 0)::as) (vs:=.int 0::vs) (.cons (Rep.int (K:=K) (F:=F) (i:=0)) h)
 have est:L2.start N (.ref a::vs)=some (.ref a)::(L2.start N (.int 0::vs)).tail:=by unfold L2.start;simp
 have ZeZ:(L2.start N (V.int 0::vs)).tail.length=(startP (N.length-1) as).length:=by
  unfold L2.start startP
  simp[Paired.length h]
  omega
 have tl:∀i:Nat,(L2.start N (.int 0::vs)).tail[i]?=(L2.start N (.int 0::vs))[i+1]?:= λi=>by simp
 have sp:∀i:Nat,(startP (N.length-1) as)[i]?=(startP N.length (.sh (.int 0)::as))[i+1]?:= λi=>by
  unfold startP
  simp only[List.cons_append,List.getElem?_cons_succ,List.length_cons]
  rw[show N.length-1-as.length=N.length-(as.length+1) by omega]
 have wB:∀(i:Nat) (s':Slot),(startP (N.length-1) as)[i]?=some s'->s'.own=false:=λi s' e=>by
  unfold startP at e
  by_cases hi:i<as.length
  ·rw[List.getElem?_append_left hi] at e
   obtain⟨v,_,h3⟩:=aV h e
   exact(aW.slot h3).2
  ·rw[List.getElem?_append_right (by omega),List.getElem?_replicate] at e
   split at e
   ·cases e;rfl
   ·cases e
 rw[est]
 refine⟨s,λb u e=>?_,Same.refl _,λ_ _ z=>z,λb u e=>?_,λb e=>?_,?_,λi s' e=>?_,λi j b h1 h2=>?_⟩
 ·have e':(if b=a then none else H b)=some u:=e
  split at e'
  ·cases e'
  ·exact e'
 ·have e':(if b=a then none else(ctx0 F H).L b)=some u:=e
  split at e'
  ·cases e'
  ·exact cu e'
 ·show(if b=a then none else(ctx0 F H).L b)=none
  have e':(if b=a then none else H b)=none:=e
  split
  ·rfl
  ·rename_i hb
   rw[if_neg hb] at e'
   exact r0.lb b e'
 ·simp[ZeZ]
 ·cases i with
  |zero=>
   cases e
   exact⟨a,dx,[],rfl,ha,hF,by show(if a=a then none else H a)=none;rw[if_pos rfl],rfl,Ĕ.nil,rfl,rfl,rfl⟩
  |succ i=>
   have e':(startP (N.length-1) as)[i]?=some s':=by simpa using e
   have q:=r0.slot (i+1) s' (by rw[<-sp];exact e')
   rw[<-tl] at q
   show Ũ K (Mz a dx C F H) F H (((some (V.ref a)::(L2.start N (.int 0::vs)).tail)[i+1]?).getD none) s'
   rw[List.getElem?_cons_succ]
   cases s' with
   |no=>trivial
   |sh p=>exact q
   |bw ps=>
    obtain⟨b,ws,q1,q2,q3⟩:=q
    refine⟨b,ws,q1,?_,q3⟩
    show(if b=a then none else(ctx0 F H).L b)=_
    rw[if_neg (λz=>by
     have:=(cu q2).1
     rw[z,ha] at this
     cases this)]
    exact q2
   |ow ps=>have:=wB i _ e';cases this
   |rc C ns ps=>have:=wB i _ e';cases this
   |ot ps qs=>have:=wB i _ e';cases this
   |ol Eh=>have:=wB i _ e';cases this
 ·have at0:∀{i},ļ F (some (.ref a)::(L2.start N (.int 0::vs)).tail) (Slot.rc C [] []::startP (N.length-1) as) i b→i=0:=fun{i} ⟨s',y,q1,_,q2⟩=>by
   have q2:=fV q2
   cases i with
   |zero=>rfl
   |succ i=>
    have:=wB i s' (by simpa using q1)
    rw[this] at q2
    cases q2
  rw[at0 h1,at0 h2]
end
section
variable{P:Program}{w:World}{K:PySem.W.Frag}{cm:String->Addr}{mg:Str->Option Value}{base:Heap}{CX:lO}
def fnI{x qual:Str}{st:Stmt}{f:Addr}{fd:FuncData}{N ps:List Str}{k n j:Nat}{C:String}{mb:M Fl}{mi:MI}(F:Ec K x qual st f fd)(S:ĉ N ps (ć st))(hn:ps.length=n)(hj:N.length=j)(hf:mi=bL n j C mb)
 (hbody:∀(cdv:Value) (A:Around) (outer:List Env) (s:Shared) (H:Hp) (E:XK),Ő k (A.deeper (envOfC qual (ć st) s.heap.objs.size f cdv))→
   dY (ž CX P w K mg base N qual (ć st) f cdv A outer s H E) (ň st) (tS ⟨K,cm⟩ (λ_=>E) mb)):ģ P w K mg base CX (k+1) f fd ps (Kf ⟨K,cm⟩ n C mi):=by
 subst hn hj hf
 obtain⟨oc,od,kV,doc,pm,an,cdv,ct,osl,rfl,lk,hcd⟩:=F.ex
 refine Bc lk hcd S (λvs H Q E ⟨F,a,dx,vs',as,h1,h2,_,_,_,h3,_⟩=>by rw[h1,List.length_cons,<-Paired.length h3];exact h2) λA outer s H vs Q E hr hsp=>?_
 obtain⟨F,a,dx,vs',as,rfl,h2,h3,h4,h5,h6,h7⟩:=hsp
 refine⟨_,hbody cdv A outer s H E hr,Mz a dx C F H,F,_,Rel.XR h5 h3 h4 h6,?_⟩
 unfold bL at h7
 rw[if_pos h2] at h7
 cases e:mb (.rc C [] []::startP (N.length-1) as) with
 |bad=>rw[e] at h7;exact h7
 |exc x ρ'=>rw[e] at h7;exact λσ' C' d F' H' rel s1 q=>h7 C' d F' H' rel.gri q
 |ok fl ρ'=>
  rw[e] at h7
  cases fl with
  |nx=>
   cases ρ' with
   |nil=>exact h7.elim
   |cons sl ρ'=>
    cases sl with
    |rc C' ns qs=>
     intro σ' F' H' rel s1
     obtain⟨b,dy,fs,q1,q2,q3,q4,q5,q6,rfl,rfl,rfl⟩:=rel.slot 0 _ rfl
     exact h7 F' H' fs rel.gri q2 q3 q5 q6
    |_=>exact h7.elim
  |bk=>exact h7.elim
  |ct=>exact h7.elim
  |rt r=>exact h7.elim
end
def bh(C:String)(mi:MI)(ms:M (List Slot)):M PV:=λρ=>(ms ρ).bind λas ρ1=>match mi as with
 | .ok ns ps=>.ok (.ins C ns ps) ρ1
 | .exc x=>.exc x ρ1
 | .bad=>.bad
section
variable{X:Cx}{cm:String->Addr}{E:L2.St->XK}{e:Expr}{es:List Expr}{pos p:Pos}{CX:lO}{k n:Nat}{f:Addr}{fd:FuncData}{ps:List Str}{C:String}{mi:MI}{ms:M (List Slot)}{x:Str}
def GZ{c:Ctx}{F1 H1:Hp}{σ:L2.St}{ρ1:Ĺ}{Q:VK}{as:List Slot}{vs:List V}(hlen:(∃r,mi as=r/\∀z,r=z->z≠ .bad)->as.length+1=n)(Ď:Rel (kk X cm) c F1 H1 σ ρ1)(r1:Paired (aW (kk X cm) F1 H1) as vs)
 (h:aj (kk X cm) E (rV (kk X cm)) c F1 H1 σ Q (match mi as with| .ok ns ps=>.ok (.ins C ns ps) ρ1| .exc x=>.exc x ρ1| .bad=>.bad)) :
 ∀x dx,H1 x=none->H1 dx=none->dx≠x->Kf (kk X cm) n C mi (.ref x::vs) (upd (upd H1 dx (.own x)) x (.ins (cm C) dx [])) (λv H2=>v=.non/\Q (.ref x) H2) (E σ):=by
 intro x dx hx hdx hne
 have up:∀b u,H1 b=some u->upd (upd H1 dx (.own x)) x (.ins (cm C) dx []) b=some u:=λb u e=>by
  rw[ċ (ē e hx),ċ (ē e hdx)];exact e
 have MJ:∀{F' H':Hp},GrB x F1 (upd (upd H1 dx (.own x)) x (.ins (cm C) dx [])) F' H'->Gr F1 H1 F' H':=fun{F' H'} g=>
  ⟨fun b u e=>g.h b u (ē e hx) (up b u e),g.f,g.sub,fun b hb hf=>by
    obtain⟨u,hu⟩:∃u,H1 b=some u:=by
     cases q:H1 b with
     |none=>exact absurd q hb
     |some u=>exact⟨u,rfl⟩
    exact g.out b (ē hu hx) (by rw[up b u hu];intro z;cases z) hf⟩
 refine⟨F1,x,dx,vs,as,rfl,?_,Ğ,Ď.sub.free hx,λb u e=>up b u (Ď.sub b u e),?_,?_⟩
 ·refine hlen ⟨_,rfl,λz hz hb=>?_⟩
  rw[hz,hb] at h
  exact h
 ·refine Paired.mono (λs v hs=>?_) r1
  cases s with
  |sh p=>exact hs
  |bw qs=>
   obtain⟨b,ws,q1,q2,q3,q4⟩:=hs
   exact⟨b,ws,q1,up b _ q2,q3,q4⟩
  |_=>exact hs.elim
 ·cases em:mi as with
  |bad=>rw[em] at h;exact h
  |exc y=>rw[em] at h;exact λC' d F' H' g rx=>h C' d F' H' (Ď.call (MJ g)) g.f rx
  |ok ns qs=>
   rw[em] at h
   intro F' H' fs g hx' hF' hn hr
   have r2:=Ď.call (MJ g)
   have r3:=r2.freeze hx' (Ď.base.free hx) hF' (Ď.tX (MJ g).f (Ď.fresh hx))
   refine⟨rfl,h _ _ H' r3 (g.f.trans (Same.upd hF')) (MJ g).h ?_⟩
   show Rep _ _ _ _
   unfold Rep
   exact⟨x,dx,fs,rfl,Ğ,hn,Ĕ.same (Same.upd hF') qs _ hr⟩
def Dr{pins:List (Addr×Obj)}{σ:L2.St}{H:Hp}{s:Shared}{Q:VK}{us:List Value}{vs:List V}{sp:Sp}{C:Addr}(M:Mk X.K C f)(F:ģ X.prog X.w X.K X.mg X.base CX k f fd ps sp)(hr:Ő (k+1) X.A)(hb:Binds X.K fd ps [])
 (hx:ŷ CX X E)(I:Inv X pins σ H s)(r:Vals vs us)
 (h:∀x dx,H x=none->H dx=none->dx≠x->sp (.ref x::vs) (upd (upd H dx (.own x)) x (.ins C dx [])) (λv H2=>v=.non/\Q (.ref x) H2) (E σ)) :
 wpAny (model X.prog X.w) X.A (call (.ref C) us) (EP X pins σ Q) X.xe s:=by
 have hq:=h (s.heap.objs.size+1) s.heap.objs.size (I.hok.fresh (Nat.le_succ _)) (I.hok.fresh (Nat.le_refl _)) (Nat.ne_of_lt (Nat.lt_succ_self _))
 have I2:=Inv.made (C:=C) I
 have r2:Vals (V.ref (s.heap.objs.size+1)::vs) (Value.ref (s.heap.objs.size+1)::us):=.cons rfl r
 have hl:(Value.ref (s.heap.objs.size+1)::us ++ []).length=ps.length:=by
  have e:=r2.length
  rw[F.len _ _ _ _ hq] at e
  rw[List.append_nil]
  exact e.symm
 have hbd:=hb {s with heap:=(s.heap.push PySem.W.emptyDict).push (PySem.W.instObj C s.heap.objs.size)} (Value.ref (s.heap.objs.size+1)::us) I2.dz hl
 rw[List.append_nil] at hbd
 refine wpAny_call (Fd (f:=f) I.dz M.makes M.init (beq_iff_eq.mp M.fn) (codeAny_mono (F.run _ X.stack _ _ ⟨Value.ref (s.heap.objs.size+1)::us,[]⟩ _ _ _ (E σ) (hr.make C us []) (I2.env0.make C us []) hbd r2 hq) λr s' hq'=>?_))
 cases r with
 |error e=>exact hx pins σ _ _ e s' I2 hq'
 |ok fl=>
  cases fl with
  |ret u=>
   obtain⟨v,H',I3,rv,ev,q3⟩:=I2.after hq'
   subst ev
   exact⟨rv,⟨V.ref (s.heap.objs.size+1),H',I3,rfl,q3⟩⟩
  |next=>exact False.elim hq'
  |brk=>exact False.elim hq'
  |cont=>exact False.elim hq'
def aQ{n k:Nat}{C:String}{mb:M Fl}{as:List Slot}(h:∃r,bL n k C mb as=r/\∀z,r=z->z≠ .bad):as.length+1=n:=by
 obtain⟨r,h1,h2⟩:=h
 unfold bL at h1
 by_cases hl:as.length+1=n
 ·exact hl
 ·rw[if_neg hl] at h1
  exact absurd h1.symm (λz=>h2 .bad (by rw[<-h1]) rfl)
def kZ(M:Mk X.K (cm C) f)(F:ģ X.prog X.w X.K X.mg X.base CX k f fd ps (Kf (kk X cm) n C mi))(hlen:∀{as:List Slot},(∃r,mi as=r/\∀z,r=z->z≠ .bad)->as.length+1=n)(hr:Ő (k+1) X.A)(hg:Gl X x)(hm:X.mg x=some (.ref (cm C)))(hb:Binds X.K fd ps [])(hx:ŷ CX X E)
 (ha:PA X (e::es) (tA (kk X cm) E ms))(hdb:(x== ("__debug__" :Str))=false:=by decide)(he:starEach (e::es) X.env=(false,eval e X.env)::starEach es X.env:=by exact bF rfl)(hpl:(backTo pos (starEach es X.env)).any (·.1)=false:=by rfl) :
 PE X (.Call (.Name x p) (e::es) [] pos) (tV (kk X cm) E (bh C mi ms)):=by
 intro pins s σ H Q I ⟨c,F',ρ,rel,h⟩
 refine wpAny_Call_Name_kw (gZ I hg hm ?_ hdb)
 refine PySem.W.callWith_K (h₀:= X.base) I.ok.mod.kin M.kp (ł (ha pos pins s σ H (λvs H1=>∀x dx,H1 x=none->H1 dx=none->dx≠x->Kf (kk X cm) n C mi (.ref x::vs) (upd (upd H1 dx (.own x)) x (.ins (cm C) dx [])) (λv H2=>v=.non/\Q (.ref x) H2) (E σ)) I
  ⟨c,F',ρ,rel,aj.bind h λas ρ1 vs F1 H1 Ď _ _ r1 h1=>GZ hlen Ď r1 h1⟩) λus s1 ⟨vs,H1,I1,r,q⟩=>⟨I1.dz,?_⟩) he hpl
 exact Dr M F hr hb hx I1 r q
end
end P
namespace P
open PySem PySem.Spec PyProof.Rows L2 M2 M3 M4
def Py(B:Heap)(e:Addr)(C:Value)(d:Option Addr)(fl:Value)(h:Heap):Prop:=
 ∃oe vs T oT ts,h.get? e=some oe/\(oe.cls=C/\oe.dict=d)/\oe.data=.fields vs/\vs[1]?=some (.ref T)/\B.get? T=none/\T≠e/\h.get? T=some oT/\oT.data=.fields ts/\ts[3]?=some fl
structure Moved(h h':Heap):Prop where
 up:h.UpToSlots h'
 there:∀b o,h.get? b=some o->∃o',h'.get? b=some o'
theorem Moved.trans{h h1 h2:Heap}(a:Moved h h1)(b:Moved h1 h2):Moved h h2:=⟨a.up.trans b.up,λc o e=>let ⟨o1,e1⟩:=a.there c o e;b.there c o1 e1⟩
def Dt(o:Obj)(f:Array Value->Array Value):(o.mapFields f).dict=o.dict:=by
 obtain⟨c,d,dt,sl⟩:=o
 cases dt<;>rfl
section
variable{M:Model}{A:Around}{E:Value->Shared->Prop}{s:Shared}{B:Heap}{env:Env}{outer:List Env}{L e:Addr}{Q:Unit->Shared->Prop}
def ZbX{oe:Obj}{vs:Array Value}{head:Value}{nxt:Bool}(hfr:A.frames=some (env::outer))(hl:s.heap.FunFrames B (env::outer))(hf:env.frame=some L)
 (he:s.heap.get? e=some oe)(hkb:B.StaysIn s.heap)(hen:B.get? e=none)(hd:oe.data=.fields vs)(hsz:1<vs.size)
 (k:∀h',B.StaysIn h'->h'.FunFrames B (env::outer)->Py B e oe.cls oe.dict (rawInt L) h'->Moved s.heap h'->Q () {s with heap:=h'}) :
 wpAny M A (do
  let a <-frameOf env
  let pl <-entryPlaceOf L nxt
  let b <-EntryCells.newEntry head a .none (rawInt L) .none pl
  setField (.ref e) 1 b) Q E s:=by
 have out:e∉(env::outer).filterMap (·.frame):=λz=>by
  obtain⟨_,o,ho,hn⟩:=hl.mem z
  rw[he] at ho
  cases ho
  exact hn vs hd
 refine wpAny_bind (wpAny_frameOf_fun hfr hl hf λg1 so=>?_)
 refine wpAny_bind (wpAny_entryPlaceOf λpl hpl=>?_)
 unfold EntryCells.newEntry newFields
 refine wpAny_bind (wpAny_newObj_type ?_ (hpl.sizeOk5 _ _ _ _ _))
 have e1:g1.get? e=some oe:=(so.2.1 e out).trans he
 have b1:B.StaysIn g1:=λb o q=>(so.2.1 b λz=>by
  rw[(hl.mem z).1] at q
  cases q).trans (hkb b o q)
 generalize hnw:([head,Value.ref L,.none,rawInt L,.none]++(if pl.isEmpty then List.replicate 6 Value.none else pl))=nw
 have n3:nw.toArray[3]?=some (rawInt L):=by rw[<-hnw];simp
 dsimp only
 have e2:=Heap.get?_push_of_some (h:=g1) {cls:=.type "traceback",dict:=none,data:=.fields nw.toArray} e1
 refine wpAny_setField e2 hd hsz ?_
 have ne:g1.objs.size≠e:=Nat.ne_of_gt (Heap.lt_size e1)
 have d3:=Obj.data_mapFields hd (·.setIfInBounds 1 (Value.ref g1.objs.size))
 have e3:=Heap.get?_update_self (Obj.mapFields (·.setIfInBounds 1 (Value.ref g1.objs.size))) e2 (Obj.isFreed_of_fields d3)
 have kp:∀b o,b≠e->g1.get? b=some o->((g1.push {cls:=.type "traceback",dict:=none,data:=.fields nw.toArray}).update e (Obj.mapFields (·.setIfInBounds 1 (Value.ref g1.objs.size)))).get? b=some o:=λb o hb q=>by
  rw[Heap.get?_update_other _ _ (Ne.symm hb)]
  exact Heap.get?_push_of_some _ q
 have t3:((g1.push {cls:=.type "traceback",dict:=none,data:=.fields nw.toArray}).update e (Obj.mapFields (·.setIfInBounds 1 (Value.ref g1.objs.size)))).get? g1.objs.size=some {cls:=.type "traceback",dict:=none,data:=.fields nw.toArray}:=by
  rw[Heap.get?_update_other _ _ (Ne.symm ne)]
  exact Heap.get?_push_size g1 rfl
 have nr:∀b o,s.heap.get? b=some o->(∀ws,o.data≠ .fields ws)->b≠e:=λb o q hn z=>by
  rw[z,he] at q
  cases q
  exact hn vs hd
 refine k _ (λb o q=>kp b o (λz=>by rw[z,hen] at q;cases q) (b1 b o q)) (hl.of_keeps λb o q hn=>?_) ?_ ⟨λb o q hn=>?_,λb o q=>?_⟩
 ·obtain⟨sl,z⟩:=so.2.2 b o q
  exact⟨_,kp b _ (nr b o q hn) z,rfl⟩
 ·exact⟨_,_,g1.objs.size,_,_,e3,⟨Obj.cls_mapFields _ _,Dt _ _⟩,d3,by simp[hsz],b1.fresh,ne,t3,rfl,n3⟩
 ·obtain⟨sl,z⟩:=so.2.2 b o q
  exact⟨sl,kp b _ (nr b o q hn) z⟩
 ·obtain⟨sl,z⟩:=so.2.2 b o q
  by_cases hb:b=e
  ·rw[hb];exact⟨_,e3⟩
  ·exact⟨_,kp b _ hb z⟩
def MK{oe:Obj}{vs:Array Value}(hfr:A.frames=some (env::outer))(hl:s.heap.FunFrames B (env::outer))(hf:env.frame=some L)(he:s.heap.get? e=some oe)(hkb:B.StaysIn s.heap)(hen:B.get? e=none)
 (hd:oe.data=.fields vs)(h1:vs[1]?=some .none)(k:∀h',B.StaysIn h'->h'.FunFrames B (env::outer)->Py B e oe.cls oe.dict (rawInt L) h'->Moved s.heap h'->Q () {s with heap:=h'}) :
 wpAny M A (noteFrame (.ref e) env) Q E s:=by
 unfold noteFrame
 simp only[hf]
 refine wpAny_bind (wpAny_field he hd h1 ?_)
 rw[if_neg (by decide)]
 exact ZbX hfr hl hf he hkb hen hd (Array.getElem?_eq_some_iff.mp h1).1 k
def G_{C:Value}{d:Option Addr}(hfr:A.frames=some (env::outer))(hl:s.heap.FunFrames B (env::outer))(hf:env.frame=some L)(ht:Py B e C d .none s.heap)(hkb:B.StaysIn s.heap)(hen:B.get? e=none)
 (k:∀h',B.StaysIn h'->h'.FunFrames B (env::outer)->Py B e C d (rawInt L) h'->Moved s.heap h'->Q () {s with heap:=h'}):wpAny M A (noteFrame (.ref e) env) Q E s:=by
 obtain⟨oe,vs,T,oT,ts,he,⟨rfl,rfl⟩,hd,h1,hT,hTe,hT2,hdT,h3⟩:=ht
 unfold noteFrame
 simp only[hf]
 refine wpAny_bind (wpAny_field he hd h1 ?_)
 rw[if_pos (show(Value.ref T != Value.none)=true by simp)]
 refine wpAny_bind (wpAny_field hT2 hdT h3 ?_)
 rw[if_neg (show ¬((Value.none== rawInt L)=true) by simp[rawInt])]
 refine wpAny_bind (wpAny_setField hT2 hdT (Array.getElem?_eq_some_iff.mp h3).1 ?_)
 have oth:∀b,b≠T->(s.heap.update T (Obj.mapFields (·.setIfInBounds 3 Value.none))).get? b=s.heap.get? b:=λb hb=>Heap.get?_update_other _ _ (Ne.symm hb)
 have nr:∀b o,s.heap.get? b=some o->(∀ws,o.data≠ .fields ws)->b≠T:=λb o q hn z=>by
  rw[z,hT2] at q
  cases q
  exact hn ts hdT
 refine ZbX hfr (hl.of_keeps λb o q hn=>⟨o,(oth b (nr b o q hn)).trans q,rfl⟩) hf ((oth e (Ne.symm hTe)).trans he) (λb o q=>(oth b λz=>by rw[z,hT] at q;cases q).trans (hkb b o q)) hen hd (Array.getElem?_eq_some_iff.mp h1).1
  λh' x1 x2 x3 x4=>k h' x1 x2 x3 (Moved.trans ⟨λb o q hn=>⟨o.slots,(oth b (nr b o q hn)).trans q⟩,λb o q=>?_⟩ x4)
 by_cases hb:b=T
 ·rw[hb];exact⟨_,Heap.get?_update_self _ hT2 (Obj.isFreed_of_fields (Obj.data_mapFields hdT _))⟩
 ·exact⟨o,(oth b hb).trans q⟩
def nQ{C fl:Value}{d:Option Addr}{l:List Env}(hkb:B.StaysIn s.heap)(hl:s.heap.FunFrames B l)(ht:Py B e C d fl s.heap)
 (k:∀h',B.StaysIn h'->h'.FunFrames B l->Py B e C d .none h'->Moved s.heap h'->Q () {s with heap:=h'}):wpAny M A (setFlight (.ref e) none) Q E s:=by
 obtain⟨oe,vs,T,oT,ts,he,hc,hd,h1,hT,hTe,hT2,hdT,h3⟩:=ht
 have z3:3<ts.size:=(Array.getElem?_eq_some_iff.mp h3).1
 have oth:∀b,b≠T->(s.heap.update T (Obj.mapFields (·.setIfInBounds 3 ((none:Option Addr).elim Value.none λf=>rawInt f)))).get? b=s.heap.get? b:=λb hb=>Heap.get?_update_other _ _ (Ne.symm hb)
 have nr:∀b o,s.heap.get? b=some o->(∀ws,o.data≠ .fields ws)->b≠T:=λb o q hn z=>by
  rw[z,hT2] at q
  cases q
  exact hn ts hdT
 unfold setFlight
 refine wpAny_bind (wpAny_field he hd h1 ?_)
 rw[if_pos (show(Value.ref T != Value.none)=true by simp)]
 refine wpAny_setField hT2 hdT z3 (k _ (λb o q=>(oth b λz=>by rw[z,hT] at q;cases q).trans (hkb b o q)) (hl.of_keeps λb o q hn=>⟨o,(oth b (nr b o q hn)).trans q,rfl⟩) ?_ ⟨λb o q hn=>⟨o.slots,(oth b (nr b o q hn)).trans q⟩,λb o q=>?_⟩)
 rotate_left
 ·by_cases hb:b=T
  ·rw[hb];exact⟨_,Heap.get?_update_self _ hT2 (Obj.isFreed_of_fields (Obj.data_mapFields hdT _))⟩
  ·exact⟨o,(oth b hb).trans q⟩
 exact⟨oe,vs,T,_,_,(oth e (Ne.symm hTe)).trans he,hc,hd,h1,hT,hTe,Heap.get?_update_self _ hT2 (Obj.isFreed_of_fields (Obj.data_mapFields hdT _)),Obj.data_mapFields hdT _,by simp[z3]⟩
end
def o_{P:Program}{w:World}{H:Hp}{h:Heap}{a:Addr}{o:HO}(x:Ł P w H h a o):∃ob,h.get? a=some ob:=by
 cases o with
 |lst xs=>obtain⟨_,_,_,_,e⟩:=x;exact⟨_,e⟩
 |tup xs=>obtain⟨_,_,_,ob,e,_⟩:=x;exact⟨_,e⟩
 |dK kvs=>obtain⟨_,_,_,_,ob,_,_,e,_⟩:=x;exact⟨_,e⟩
 |dT kvs=>obtain⟨_,_,_,_,ob,_,_,e,_⟩:=x;exact⟨_,e⟩
 |set S n=>obtain⟨ob,_,_,_,e,_⟩:=x;exact⟨_,e⟩
 |ins C dx fs=>obtain⟨_,_,_,e,_⟩:=x;exact⟨_,e⟩
 |own y=>exact x
 |xd fs=>obtain⟨_,⟨ob,_,_,e,_⟩,_⟩:=x;exact⟨_,e⟩
 |rng lo hi=>obtain⟨_,_,_,e⟩:=x;exact⟨_,e⟩
 |bY ob u=>obtain⟨e,_⟩:=x;exact⟨_,e⟩
 |fL q=>obtain⟨_,e,_⟩:=x;exact⟨_,e⟩
 |Aw q=>obtain⟨c,o,_,_,z,e,_⟩:=x;cases z;exact⟨_,e⟩
 |met f y=>exact⟨_,(show h.get? a=some _ from x)⟩
 |ext φ=>obtain⟨_,e,_⟩:=x;exact e
def cL.sub{P:Program}{w:World}{H:Hp}{h B:Heap}(x:cL P w H h)(k:∀b o u,H b=some u->h.get? b=some o->B.get? b=some o):cL P w H B:=λa o e=>
 (x a o e).stay (fun b u hb q=>by
   rcases hb with rfl|hb
   ·exact k _ _ _ e q
   ·exact k _ _ _ hb q) (λ_ q=>q) λ_ _ q=>q
structure UnX(fs:List Addr)(H H':Hp)(h B h':Heap):Prop where
 keep:∀b o,h.get? b=some o->H b=none->b∉fs->B.get? b=some o
 slot:∀b o,h.get? b=some o->H b=none->b∈fs->∃sl,h'.get? b=some {o with slots:=sl}
 free:∀b o,h.get? b=some o->H b=none->H' b=none
 there:∀b o,h.get? b=some o->∃o',h'.get? b=some o'
 tups:∀b xs,H b=some (.tup xs)->H' b=some (.tup xs)
 dw:∀b o u,H b=some (.bY o u)->H' b=some (.bY o u)
 bZ:∀b q,H b=some (.fL q)->H' b=some (.fL q)
def UnX.un{fs:List Addr}{H H':Hp}{h B h':Heap}(u:UnX fs H H' h B h')(k:B.StaysIn h'):Un fs [] H H' h h':=
 ⟨λb o e n hb _=>k b o (u.keep b o e n hb),λb o e n hb _=>u.slot b o e n hb,λb o e n _=>u.free b o e n,λb o e _=>u.there b o e,u.tups,u.dw,u.bZ⟩
structure Lies(P:Program)(w:World)(outer:List Env)(H:Hp)(s:Shared)(ea:Addr)(C:Value)(d:Option Addr)(fl:Value)(H':Hp)(B:Heap)(s':Shared):Prop where
 os:s'.os=s.os
 bare:AllBare s'.gens
 st:B.StaysIn s'.heap
 en:B.get? ea=none
 fr:s'.heap.FunFrames B outer
 tr:Py B ea C d fl s'.heap
 hok:cL P w H' B
 un:UnX (frs outer) H H' s.heap B s'.heap
 no:H' ea=none
 new:s.heap.get? ea=none
def Lies.move{P:Program}{w:World}{outer:List Env}{H:Hp}{s s':Shared}{ea:Addr}{C fl fl':Value}{d:Option Addr}{H':Hp}{B h':Heap}(l:Lies P w outer H s ea C d fl H' B s')(st:B.StaysIn h')(fr:h'.FunFrames B outer)(tr:Py B ea C d fl' h')(mv:Moved s'.heap h') :
 Lies P w outer H s ea C d fl' H' B {s' with heap:=h'}:=
 ⟨l.os,l.bare,st,l.en,fr,tr,l.hok,⟨l.un.keep,fun b o q n hb=>by
   obtain⟨sl,q2⟩:=l.un.slot b o q n hb
   obtain⟨_,o',q3,hn⟩:=l.fr.mem hb
   rw[q2] at q3
   cases q3
   obtain⟨sl3,q3⟩:=mv.up b _ q2 hn
   exact⟨sl3,q3⟩,l.un.free,λb o q=>by
   obtain⟨o2,q2⟩:=l.un.there b o q
   exact mv.there b o2 q2,l.un.tups,l.un.dw,l.un.bZ⟩,l.no,l.new⟩
def Ŗ(P:Program)(w:World):lO:=λouter H s E e s'=>∃ea C d H' B,e=.ref ea/\Lies P w outer H s ea C d .none H' B s'/\E C d H'
def rQ{P:Program}{w:World}{outer:List Env}{H:Hp}{s s':Shared}{e:Value}(h:Ŗ P w outer H s (λ_ _ _=>False) e s'):False:=by
 obtain⟨_,_,_,_,_,_,_,h⟩:=h
 exact h
def ű{P:Program}{w:World}{X:Cx}:ŷ (Ŗ P w) X EF:=λ_ _ _ _ _ _ _ h=>(rQ h).elim
section
variable{P:Program}{w:World}{K:PySem.W.Frag}{mg:Str->Option Value}{base:Heap}{N:List Str}{qual:Str}{scope:Scope}{f:Addr}{cdv:Value}{A:Around}{outer:List Env}{s₀:Shared}{H₀:Hp}{E:XK}
def ĝ:ŷ (Ŗ P w) (ž (Ŗ P w) P w K mg base N qual scope f cdv A outer s₀ H₀ E) (λ_=>E):=by
 intro pins σ H s e s' I h
 obtain⟨ea,C,d,H',B,rfl,l,hE⟩:=h
 have hfr:(A.deeper (envOfC qual scope s₀.heap.objs.size f cdv)).frames=some (envOfC qual scope s₀.heap.objs.size f cdv::outer):=I.ok.frames
 show wpAny _ _ (leaving _ _) _ _ s'
 unfold leaving
 refine wpAny_bind (G_ hfr l.fr rfl l.tr l.st l.en λh1 x1 x2 x3 x4=>?_)
 refine nQ (s:={s' with heap:=h1}) x1 x2 x3 λh2 y1 y2 y3 y4=>?_
 obtain⟨_,_,y2'⟩:=y2
 have mv:=x4.trans y4
 have Kc:∀b o,s₀.heap.get? b=some o->b∉frs outer->b∉frs (envOfC qual scope s₀.heap.objs.size f cdv::outer):=λb o q hb z=>by
  rcases List.mem_cons.mp (show b∈s₀.heap.objs.size::frs outer from z) with z|z
  ·exact absurd (Heap.lt_size q) (by rw[z];exact Nat.lt_irrefl _)
  ·exact hb z
 have inL:∀b,b∈frs outer->b∈frs (envOfC qual scope s₀.heap.objs.size f cdv::outer):=λb z=>List.mem_cons_of_mem _ z
 refine⟨ea,C,d,H',B,rfl,⟨l.os.trans I.os,l.bare,y1,l.en,y2',y3,l.hok,⟨λb o q n hb=>?_,λb o q n hb=>?_,λb o q n=>?_,λb o q=>?_,λb xs q=>l.un.tups b xs (I.base.tups b xs q),λb o u q=>l.un.dw b o u (I.base.dw b o u q),λb ps q=>?_⟩,l.no,?_⟩,hE⟩
 ·exact l.un.keep b o (I.base.keep b o q n hb (by simp[ž])) (I.base.free b o q n (by simp[ž])) (Kc b o q hb)
 ·obtain⟨sl,q1⟩:=I.base.slot b o q n hb (by simp[ž])
  obtain⟨sl2,q2⟩:=l.un.slot b _ q1 (I.base.free b o q n (by simp[ž])) (inL b hb)
  have nf:∀vs,o.data≠ .fields vs:=by
   obtain⟨_,o',q3,hn⟩:=l.fr.mem (inL b hb)
   rw[q2] at q3
   cases q3
   exact hn
  obtain⟨sl3,q3⟩:=mv.up b _ q2 nf
  exact⟨sl3,q3⟩
 ·obtain⟨o1,q1⟩:=I.base.there b o q (by simp[ž])
  exact l.un.free b o1 q1 (I.base.free b o q n (by simp[ž]))
 ·obtain⟨o1,q1⟩:=I.base.there b o q (by simp[ž])
  obtain⟨o2,q2⟩:=l.un.there b o1 q1
  exact mv.there b o2 q2
 ·exact l.un.bZ b ps (I.base.bZ b ps q)
 ·cases q:s₀.heap.get? ea with
  |none=>rfl
  |some o=>
   obtain⟨o1,q1⟩:=I.base.there ea o q (by simp[ž])
   rw[l.new] at q1
   cases q1
def X_{pins:List (Addr×Obj)}{σ:L2.St}{H:Hp}{s:Shared}{e:Addr}{oe:Obj}{vs:Array Value}(I:Inv (ž (Ŗ P w) P w K mg base N qual scope f cdv A outer s₀ H₀ E) pins σ H s)
 (he:s.heap.get? e=some oe)(hd:oe.data=.fields vs)(h1:vs[1]?=some .none)(hn:H e=none)(hnew:s₀.heap.get? e=none)(hE:E oe.cls oe.dict H) :
 (ž (Ŗ P w) P w K mg base N qual scope f cdv A outer s₀ H₀ E).xe (.ref e) s:=by
 have hfr:(A.deeper (envOfC qual scope s₀.heap.objs.size f cdv)).frames=some (envOfC qual scope s₀.heap.objs.size f cdv::outer):=I.ok.frames
 have st:s.heap.FunFrames base (envOfC qual scope s₀.heap.objs.size f cdv::outer):=I.stack
 have nof:e∉frs (envOfC qual scope s₀.heap.objs.size f cdv::outer):=λz=>by
  obtain⟨_,o,q,hn⟩:=st.mem z
  rw[he] at q
  cases q
  exact hn vs hd
 have hin:∀env∈(envOfC qual scope s₀.heap.objs.size f cdv::outer),∀a,env.frame=some a->a∈e::frs (envOfC qual scope s₀.heap.objs.size f cdv::outer):=λenv h1 a h2=>List.mem_cons_of_mem _ (List.mem_filterMap.mpr ⟨env,h1,h2⟩)
 have hl:s.heap.FunFrames (PySem.W.hideAll s.heap (e::frs (envOfC qual scope s₀.heap.objs.size f cdv::outer))) (envOfC qual scope s₀.heap.objs.size f cdv::outer):=PySem.W.funFrames_hide st hin
 have hB:∀b o,s.heap.get? b=some o->b≠e->b∉frs (envOfC qual scope s₀.heap.objs.size f cdv::outer)->(PySem.W.hideAll s.heap (e::frs (envOfC qual scope s₀.heap.objs.size f cdv::outer))).get? b=some o:=λb o q h1 h2=>
  PySem.W.hideAll_get _ q λz=>(List.mem_cons.mp z).elim h1 h2
 have Kc:∀b o,s₀.heap.get? b=some o->b∉frs outer->b∉frs (envOfC qual scope s₀.heap.objs.size f cdv::outer):=λb o q hb z=>by
  rcases List.mem_cons.mp (show b∈s₀.heap.objs.size::frs outer from z) with z|z
  ·exact absurd (Heap.lt_size q) (by rw[z];exact Nat.lt_irrefl _)
  ·exact hb z
 have ne0:∀b o,s₀.heap.get? b=some o->b≠e:=λb o q z=>by rw[z,hnew] at q;cases q
 have kb:(PySem.W.hideAll s.heap (e::frs (envOfC qual scope s₀.heap.objs.size f cdv::outer))).StaysIn s.heap:=λb o q=>PySem.W.of_hideAll _ q
 have en:(PySem.W.hideAll s.heap (e::frs (envOfC qual scope s₀.heap.objs.size f cdv::outer))).get? e=none:=PySem.W.hideAll_none _ List.mem_cons_self
 show wpAny _ _ (leaving _ _) _ _ s
 unfold leaving
 refine wpAny_bind (MK hfr hl rfl he kb en hd h1 λg1 x1 x2 x3 x4=>?_)
 refine nQ (s:={s with heap:=g1}) x1 x2 x3 λg2 y1 y2 y3 y4=>?_
 obtain⟨_,_,y2'⟩:=y2
 have mv:=x4.trans y4
 refine⟨e,oe.cls,oe.dict,H,_,rfl,⟨I.os,I.bare,y1,en,y2',y3,?_,⟨λb o q n hb=>?_,λb o q n hb=>?_,λb o q n=>?_,λb o q=>?_,I.base.tups,I.base.dw,I.base.bZ⟩,hn,hnew⟩,hE⟩
 ·refine cL.sub I.hok λb o u hu q=>hB b o q (λz=>by rw[z,hn] at hu;cases hu) λz=>?_
  have:=I.nC b z
  rw[hu] at this
  cases this
 ·exact hB b o (I.base.keep b o q n hb (by simp[ž])) (ne0 b o q) (Kc b o q hb)
 ·obtain⟨sl,q1⟩:=I.base.slot b o q n hb (by simp[ž])
  have nf:∀vs,o.data≠ .fields vs:=by
   obtain⟨_,o',q3,hn⟩:=st.mem (List.mem_cons_of_mem _ hb)
   rw[q1] at q3
   cases q3
   exact hn
  obtain⟨sl3,q3⟩:=mv.up b _ q1 nf
  exact⟨sl3,q3⟩
 ·exact I.base.free b o q n (by simp[ž])
 ·obtain⟨o1,q1⟩:=I.base.there b o q (by simp[ž])
  exact mv.there b o1 q1
end
end P
namespace P
open PySem PySem.Spec PyProof.Rows L2 M2 M3 M4
abbrev BW:List Value:=[.type "ValueError",.type "Exception",.type "BaseException",.type "object"]
abbrev Yb:String:= "ValueError.__new__"
section
variable{K:PySem.W.Frag}{h:Heap}{C:Addr}{bmB:List Value}{newId:String}
def Yc(X:K.In h)(q:PySem.W.excIn K C bmB newId=true) :
 ∃bm N nm qn bs hd sn sub ab col dd k0 k1 k2 k3 k5 mN,h.get? C=some (excClassObj nm qn C N bs bm hd sn sub ab col dd k0 k1 k2 k3 k5 newId)/\h.Ns N mN/\mN "__init__" =none/\OwnTail h bmB bm:=by
 unfold PySem.W.excIn at q
 split at q
 case h_2=>cases q
 rename_i dd cd sl ho
 split at q
 case h_2=>cases q
 rename_i C1 bm k0 k1 k2 k3 n1 k5 e1 e2
 simp only[Bool.and_eq_true,beq_iff_eq,Bool.not_eq_true'] at q
 obtain⟨⟨⟨⟨⟨z1,z2⟩,z3⟩,z4⟩,z5⟩,z6⟩:=q
 subst z1 z2
 obtain⟨nm,bs,mro,ns,qn,hd,sn,sub,ab,col,del⟩:=cd
 dsimp only at e1 z3 z5 z6
 subst e1 z3
 obtain⟨sll⟩:=sl
 dsimp only at e2
 subst e2
 exact⟨bm,ns,nm,qn,bs,hd,sn,sub,ab,col,dd,k0,k1,k2,k3,k5,_,X _ _ ho,.of_isNs (PySem.W.isNs_of_in X z5),PySem.W.nsMap_none_of_in X z5 z6,PySem.W.tail_of_in X z4⟩
end
def ur(X:Cx)(E:L2.St->XK):Prop:=∀(pins:List (Addr×Obj)) (σ:L2.St) (H:Hp) (s:Shared) (e:Addr) (oe:Obj) (vs:Array Value),Inv X pins σ H s->s.heap.get? e=some oe->oe.data=.fields vs->vs[1]?=some .none->H e=none->
 X.s₀.heap.get? e=none->E σ oe.cls oe.dict H->X.xe (.ref e) s
def uw{P:Program}{w:World}{K:PySem.W.Frag}{mg:Str->Option Value}{base:Heap}{N:List Str}{qual:Str}{scope:Scope}{f:Addr}{cdv:Value}{A:Around}{outer:List Env}{s₀:Shared}{H₀:Hp}{E:XK} :
 ur (ž (Ŗ P w) P w K mg base N qual scope f cdv A outer s₀ H₀ E) (λ_=>E):=λ_ _ _ _ _ _ _ I he hd h1 hn hnew hE=>X_ I he hd h1 hn hnew hE
def zu(C:String):M Fl:=λρ=>.exc ⟨C,[],[]⟩ ρ
section
variable{X:Cx}{cm:String->Addr}{E:L2.St->XK}{x:Str}{C:String}{np cpos pos:Pos}
def ux{P:Program}{w:World}{H:Hp}{h:Heap}{e:Addr}(k:cL P w H h)(q:h.get? e=none):H e=none:=by
 cases z:H e with
 |none=>rfl
 |some u=>
  obtain⟨o,ho⟩:=o_ (k e u z)
  rw[q] at ho
  cases ho
def Inv.ZbY{pins:List (Addr×Obj)}{σ:L2.St}{H:Hp}{s:Shared}{e:Addr}(I:Inv X pins σ H s)(hex:X.ex=[])(q:s.heap.get? e=none):X.s₀.heap.get? e=none:=by
 cases z:X.s₀.heap.get? e with
 |none=>rfl
 |some o=>
  obtain⟨o1,q1⟩:=I.base.there e o z (by rw[hex];simp)
  rw[q] at q1
  cases q1
def Hf(hc:X.calm=true)(hex:X.ex=[])(hr:ur X E)(hg:Gl X x)(hm:X.mg x=some (.ref (cm C)))(q:PySem.W.excIn X.K (cm C) BW Yb=true)(hdb:(x== ("__debug__" :Str))=false:=by decide) :
 PS X (.Raise (some (.Call (.Name x np) [] [] cpos)) none pos) (tS (kk X cm) E (zu C)):=by
 intro pins s σ H D I ⟨c,F,ρ,rel,h⟩
 obtain⟨bm,N,nm,qn,bs,hd,sn,sub,ab,col,dd,k0,k1,k2,k3,k5,mN,hC,hN,hni,T⟩:=Yc I.dz q
 refine wpAny_Raise_call_subT (C:=cm C) (nm:=nm) (q:=qn) (N:=N) (bs:=bs) (bm:=bm) (hdct:=hd) (sn:=sn) (sub:=sub) (ab:=ab) (col:=col) (dd:=dd) (k0:=k0) (k1:=k1) (k2:=k2) (k3:=k3) (k5:=k5)
  PySem.F.excBase_ValueError (mN:=mN) (T.hasType (by decide)) (I.ok.hd hc) rfl hni (gZ I hg hm ⟨rfl,?_⟩ hdb)
 refine evalArgs_empty ⟨rfl,Nat.zero_le _,hC,hN,T,λh' e hx=>?_⟩
 obtain⟨t,he,_,_⟩:=hx.there
 have I2:Inv X pins σ H {s with heap:=h'}:=I.kept (t':=s.toks) hx.keeps
 exact hr pins σ H _ e _ _ I2 he rfl rfl (ux I.hok hx.new) (Inv.ZbY I hex hx.new) (h σ _ _ F H rel (Same.refl _) ⟨rfl,[],.inl ⟨rfl,rfl⟩,rfl,Ĕ.nil⟩)
end
section
variable{M:Model}{A:Around}{E:Value->Shared->Prop}{s:Shared}{K:PySem.W.Frag}{e C D:Addr}{oe:Obj}{b:Bool}{Q:Bool->Shared->Prop}
def rT(X:K.In s.heap)(hk:PySem.W.kitCls K (.ref C) (.ref D)=some b)(hx:PySem.W.mroIn K D (.type "BaseException")=some true)(he:s.heap.get? e=some oe)(hc:oe.cls=.ref C)(hq:Q b s):wpAny M A (excMatches (.ref e) (.ref D)) Q E s:=by
 obtain⟨l1,l2,l3⟩:=PySem.W.kit_cls (M:=M) X hk
 have l4:=PySem.W.looks_mroIn (M:=M) X hx
 have f:=tc_notTuple
 unfold excMatches isInstance
 refine wpAny_bind (wpAny_bind (l1.here ?_))
 rw[f]
 refine wpAny_pure ?_
 simp only[Bool.false_eq_true,if_false]
 refine wpAny_bind (wpAny_pure ?_)
 simp only[List.forIn_cons,List.forIn_nil]
 unfold isExcClass
 refine wpAny_bind (wpAny_bind (wpAny_bind (wpAny_bind (l2.here ?_))))
 rw[if_pos rfl]
 refine l4.here ?_
 rw[if_neg (by decide)]
 refine wpAny_pure (wpAny_pure ?_)
 refine wpAny_bind (wpAny_typeOf_ref he ?_)
 rw[hc]
 refine wpAny_bind (wpAny_bind (wpAny_bind (l3.here ?_)))
 cases b with
 |true=>exact wpAny_pure (wpAny_pure (wpAny_pure hq))
 |false=>exact wpAny_pure (wpAny_pure (wpAny_pure hq))
end
def wC(X:Cx)(xe:Value->Shared->Prop)(pins:List (Addr×Obj)):Cx:={X with xe:=xe,pn:=X.pn++pins}
def markX(X:Cx)(e:Value):Cx:={X with A:=X.A.mark (some e),calm:=false,xe:=λ_ _=>False}
section
variable{X:Cx}{pins:List (Addr×Obj)}{σ:L2.St}{H:Hp}{s:Shared}{xe:Value->Shared->Prop}
def Inv.ZbZ(I:Inv X pins σ H s):Inv (wC X xe pins) [] σ H s:=
 ⟨⟨I.ok.mod,I.ok.kind,I.ok.glob,I.ok.blt,I.ok.above,I.ok.inj,I.ok.has,I.ok.cab,I.ok.hd,I.ok.frames,I.ok.stk,I.ok.exf,I.ok.bs,I.ok.Ay,I.ok.tH,I.ok.vN,I.ok.iz,I.ok.Eo,I.ok.tb⟩,
   I.os,I.bare,I.base,I.loc,I.cell,I.free,I.au,λp hp=>I.pin p (by simpa[wC] using hp),I.hok,I.len⟩
def Inv.pq{aU:List (Addr×Obj)}(I:Inv (wC X xe pins) aU σ H s):Inv X pins σ H s:=
 ⟨⟨I.ok.mod,I.ok.kind,I.ok.glob,I.ok.blt,I.ok.above,I.ok.inj,I.ok.has,I.ok.cab,I.ok.hd,I.ok.frames,I.ok.stk,I.ok.exf,I.ok.bs,I.ok.Ay,I.ok.tH,I.ok.vN,I.ok.iz,I.ok.Eo,I.ok.tb⟩,
   I.os,I.bare,I.base,I.loc,I.cell,I.free,I.au,λp hp=>I.pin p (List.mem_append_left _ hp),I.hok,I.len⟩
theorem SP.pq{aU:List (Addr×Obj)}{D:Ends}{f:Flow}(h:SP (wC X xe pins) aU D f s):SP X pins D f s:=by
 cases f with
 |next=>obtain⟨σ',H',I,q⟩:=h;exact⟨σ',H',Inv.pq I,q⟩
 |brk=>obtain⟨σ',H',I,q⟩:=h;exact⟨σ',H',Inv.pq I,q⟩
 |cont=>obtain⟨σ',H',I,q⟩:=h;exact⟨σ',H',Inv.pq I,q⟩
 |ret u=>obtain⟨v,σ',H',I,r,q⟩:=h;exact⟨v,σ',H',Inv.pq I,r,q⟩
def Inv.mark(I:Inv X pins σ H s)(e:Value):Inv (markX X e) pins σ H s:=
 ⟨⟨I.ok.mod,I.ok.kind,I.ok.glob,I.ok.blt,I.ok.above,I.ok.inj,I.ok.has,I.ok.cab,(fun z=>nomatch z),I.ok.frames,I.ok.stk,I.ok.exf,I.ok.bs,I.ok.Ay,I.ok.tH,I.ok.vN,I.ok.iz,I.ok.Eo,I.ok.tb⟩,
   I.os,I.bare,I.base,I.loc,I.cell,I.free,I.au,I.pin,I.hok,I.len⟩
def Inv.unmark{e:Value}(I:Inv (markX X e) pins σ H s)(hd:X.calm=true->X.A.handled=none):Inv X pins σ H s:=
 ⟨⟨I.ok.mod,I.ok.kind,I.ok.glob,I.ok.blt,I.ok.above,I.ok.inj,I.ok.has,I.ok.cab,hd,I.ok.frames,I.ok.stk,I.ok.exf,I.ok.bs,I.ok.Ay,I.ok.tH,I.ok.vN,I.ok.iz,I.ok.Eo,I.ok.tb⟩,
   I.os,I.bare,I.base,I.loc,I.cell,I.free,I.au,I.pin,I.hok,I.len⟩
def Inv.gone{i:Nat}{n:Str}{m:Str->Option Value}{v:Option Value}{h':Heap}{tk:Nat}(I:Inv X pins σ H s)(hN:X.N.Nodup)(hi:X.N[i]?=some n)(hx:X.env.scope.names.lookup n=some .local)
 (hn:s.heap.Ns X.env.locals m)(hm:∀(j:Nat) (x:Str) (v:V),X.N[j]?=some x->σ[j]?=some (some v)->Ax X.env.scope x->∃u,RelV v u/\Look X.env s.heap m x u)
 (hn':h'.Ns X.env.locals (λx=>if x=n then v else m x))(hs:Heap.SameBut X.env.locals s.heap h'):Inv X pins (σ.set i none) H {s with heap:=h',toks:=tk}:=by
 have Kc:∀b o,X.s₀.heap.get? b=some o->b≠X.env.locals:=λb o q=>Nat.ne_of_lt (Nat.lt_of_lt_of_le (Heap.lt_size q) I.ok.above)
 refine⟨I.ok,I.os,I.bare,⟨λb o q z hb hx=>(hs.2 b (Kc b o q)).trans (I.base.keep b o q z hb hx),λb o q z hb hx=>?_,I.base.free,λb o q hx=>?_,I.base.tups,I.base.dw,I.base.bZ⟩,⟨_,hn',λj x v e1 e2 e3=>?_⟩,λx c e=>?_,I.free,I.au,λp hp=>?_,λb o e=>?_,by simpa using I.len⟩
 ·obtain⟨sl,q1⟩:=I.base.slot b o q z hb hx
  exact⟨sl,(hs.2 b (Kc b o q)).trans q1⟩
 ·obtain⟨o1,q1⟩:=I.base.there b o q hx
  exact⟨o1,(hs.2 b (Kc b o q)).trans q1⟩
 ·have hj:j≠i:=fun z=>by
   subst z
   rcases Ţ e2 with⟨_,q,_⟩|⟨q,_⟩
   ·cases q
   ·exact q rfl
  rw[List.getElem?_set_ne (Ne.symm hj)] at e2
  obtain⟨u,r,q⟩:=hm j x v e1 e2 e3
  refine⟨u,r,?_⟩
  have hxn:x≠n:=λz=>hj (nZ hN e1 (z▸hi))
  rcases q with⟨k,e⟩|⟨k,c,e,z⟩
  ·exact .inl ⟨k,by simp[hxn,e]⟩
  ·exact .inr ⟨k,c,e,z.sameBut hs (I.Kq x c e)⟩
 ·obtain⟨w',z⟩:=I.cell x c e
  exact⟨w',z.sameBut hs (I.Kq x c e)⟩
 ·obtain⟨e,z,ne,nf,d⟩:=I.pin p hp
  exact⟨(hs.2 p.1 ne).trans e,z,ne,nf,d⟩
 ·refine(I.hok b o e).stay (λc u hc q=>(hs.2 c ?_).trans q) (λ_ q=>q) λ_ _ q=>q
  rintro rfl
  rcases hc with hc|hc
  ·rw[<-hc,I.free] at e;cases e
  ·rw[I.free] at hc;cases hc
end
end P
namespace P
open PySem PySem.Spec PyProof.Rows L2 M2 M3 M4
abbrev MH:=PX->Ĺ->Res Fl
def wD:MH:=λ_ _=>.bad
def nR(i:Nat)(yes no:List String)(mh:M Fl)(rest:MH):MH:=λx ρ=>if yes.contains x.C=true then(match mh (ρ.set i (.sh (.xc x.C x.ns x.ps))) with
 | .ok f ρ2=>.ok f (ρ2.set i .no)
 |_=>.bad) else if no.contains x.C=true then rest x ρ else .bad
def MN(mb:M Fl)(mh:MH):M Fl:=λρ=>match mb ρ with
 | .exc x ρ1=>mh x ρ1
 |r=>r
def PH(X:Cx)(cm:String->Addr)(E:L2.St->XK)(hs:List ExceptHandler)(mh:MH):Prop:=∀(pins:List (Addr×Obj)) (σ:L2.St) (H Hc:Hp) (s sc:Shared) (ea:Addr) (C:Value) (d:Option Addr) (B:Heap) (D:Ends) (c:Ctx) (F:Hp) (ρ:Ĺ) (x:PX),
 Inv X pins σ Hc sc->Lies X.prog X.w X.stack Hc sc ea C d .none H B s->Rel (kk X cm) c F H σ ρ->Dk (kk X cm) F x C d->Ŋ (kk X cm) E c F D (mh x ρ)->wpAny (model X.prog X.w) X.A (handleBy (.ref ea) X.env hs) (SP X pins D) X.xe s
section
variable{X:Cx}{cm:String->Addr}{E:L2.St->XK}{pins:List (Addr×Obj)}{σ:L2.St}{H Hc:Hp}{s sc:Shared}{ea:Addr}{C:Value}{d:Option Addr}{B:Heap}
def MP(I:Inv X pins σ Hc sc){fl:Value}(l:Lies X.prog X.w X.stack Hc sc ea C d fl H B s):Inv X pins σ H s:=I.call' l.os (l.un.un l.st) (l.hok.kept l.st) l.bare λb z=>absurd z (by simp)
def cL.exc{P:Program}{w:World}{H:Hp}{h:Heap}{ea Ca:Addr}{d:Option Addr}{oe:Obj}{vs:Array Value}(k:cL P w H h)(hn:H ea=none)(he:h.get? ea=some oe)(hc:oe.cls=.ref Ca)(hdi:oe.dict=d)(hd:oe.data=.fields vs):cL P w (upd H ea (xo ea Ca d)) h:=λb u e=>by
 by_cases hb:b=ea
 ·subst hb
  rw[Ğ] at e
  cases e
  refine⟨⟨oe,vs,he,hc,hdi,hd⟩,⟨oe,he⟩,?_⟩
  rintro h1 h2 ⟨o,ws,q1,q2⟩ kk
  exact⟨o,ws,kk o q1,q2⟩
 ·rw[ċ hb] at e
  exact(k b u e).stay (λ_ _ _ q=>q) (λc q=>by rw[ċ (ē q hn)];exact q) (λc xs q=>by rw[ċ (ē q hn)];exact q) λc xs q=>by rw[ċ (ē q hn)];exact q
def M_(I:Inv X pins σ Hc sc){fl:Value}{Ca:Addr}(l:Lies X.prog X.w X.stack Hc sc ea (.ref Ca) d fl H B s):Inv X pins σ (upd H ea (xo ea Ca d)) s:=by
 obtain⟨oe,vs,T,oT,ts,he,⟨hc,hdi⟩,hd,_⟩:=l.tr
 have hw:cL X.prog X.w (upd H ea (xo ea Ca d)) s.heap:=cL.exc (l.hok.kept l.st) l.no he hc hdi hd
 have u:=l.un.un l.st
 refine I.call' l.os ⟨u.keep,u.slot,λb o q n hx=>?_,u.there,λb xs q=>?_,λb o v q=>?_,λb ps q=>?_⟩ hw l.bare λb z=>absurd z (by simp)
 ·have hb:b≠ea:=λz=>by rw[z,l.new] at q;cases q
  rw[ċ hb]
  exact u.free b o q n hx
 ·have q':=u.tups b xs q
  rw[ċ (ē q' l.no)];exact q'
 ·have q':=u.dw b o v q
  rw[ċ (ē q' l.no)];exact q'
 ·have q':=u.bZ b ps q
  rw[ċ (ē q' l.no)];exact q'
def Zb0:PH X cm E [] wD:=λ_ _ _ _ _ _ _ _ _ _ _ _ _ _ _ _ _ _ _ h=>h.elim
variable{y n:Str}{Dn:String}{i:Nat}{yp hpos:Pos}{b₀:Stmt}{suite:List Stmt}{rest:List ExceptHandler}{yes no:List String}{mh:M Fl}{mr:MH}
def Nb{K:KK}{c:Ctx}{F' H':Hp}{σ':L2.St}{ρ2:Ĺ}{r:RV}{v:V}(h:rO K c σ' ρ2 F' H' r v):rO K c (σ'.set i none) (ρ2.set i .no) F' H' r v:=by
 cases r with
 |sh p=>exact h
 |ow ps=>
  obtain⟨a,vs,h1,h2,h3,h4,h5,h6⟩:=h
  refine⟨a,vs,h1,h2,h3,h4,λj q=>?_,h6⟩
  have hj:j≠i:=λz=>by
   subst z
   obtain⟨s',y,q1,_,q2⟩:=q
   have q2:=fV q2
   rcases Ţ q1 with⟨_,rfl,_⟩|⟨q,_⟩
   ·cases q2
   ·exact q rfl
  exact h5 j (q.off hj)
 |ot ps qs=>
  obtain⟨p,a,xs,vs,h1,h0,hx,h2,h3,h4,h5,h6⟩:=h
  refine⟨p,a,xs,vs,h1,h0,hx,h2,h3,h4,λj q=>?_,h6⟩
  have hj:j≠i:=λz=>by
   subst z
   obtain⟨s',y,q1,_,q2⟩:=q
   have q2:=fV q2
   rcases Ţ q1 with⟨_,rfl,_⟩|⟨q,_⟩
   ·cases q2
   ·exact q rfl
  exact h5 j (q.off hj)
def Ze0(hN:X.N.Nodup)(hi:X.N[i]?=some n)(hx:X.env.scope.names.lookup n=some .local)(hg:Gl X y)(hm:X.mg y=some (.ref (cm Dn)))(hex:PySem.W.mroIn X.K (cm Dn) (.type "BaseException")=some true)
 (hyes:aH (λc=>PySem.W.kitCls X.K (.ref (cm c)) (.ref (cm Dn))=some true) yes)(hno:aH (λc=>PySem.W.kitCls X.K (.ref (cm c)) (.ref (cm Dn))=some false) no)
 (hb:∀e:Value,dY (markX X e) (b₀::suite) (tS (kk X cm) EF mh))(hr:PH X cm E rest mr)(hdb:(y== ("__debug__" :Str))=false:=by decide) :
 PH X cm E (.ExceptHandler (some (.Name y yp)) (some n) (b₀::suite) hpos::rest) (nR i yes no mh mr):=by
 intro pins σ H Hc s sc ea C d B D c F ρ x I l rel rx h
 have I1:=MP I l
 obtain⟨oe,vs,T,oT,ts,he,⟨hc,hdi⟩,hd,_⟩:=id l.tr
 obtain⟨eC,fs,hfd,hns,hps⟩:=rx
 have hcx:oe.cls=.ref (cm x.C):=hc.trans eC
 refine wpAny_handleBy_cons (codeAny_handlers_test (gZ (X:=markX X (.ref ea)) (Inv.mark I1 (.ref ea)) hg hm ?_ hdb)) (by intro q;cases q)
 unfold nR at h
 split at h
 ·rename_i hy
  refine rT I1.dz (hyes.get hy) hex he hcx (codeAny_handlers_suite_as ?_)
  refine nQ l.st l.fr l.tr λh1 x1 x2 x3 x4=>?_
  have l2:=l.move x1 x2 x3 x4
  subst eC
  have I2:=Inv.mark (M_ I l2) (.ref ea)
  have ĳ:=rel.alloc (o:=xo ea (cm x.C) d) l.no
  have hF:F ea=none:=rel.sub.free l.no
  have rp:Rep (kk X cm) (upd F ea (xo ea (cm x.C) d)) (.xc x.C x.ns x.ps) (.ref ea):=by
   unfold Rep
   exact⟨ea,d,fs,rfl,Ğ,hfd.same (Same.upd hF),hns,Ĕ.same (Same.upd hF) _ _ hps⟩
  refine jA (X:=markX X (.ref ea)) I2 hN hi (.inl hx) (v:=.ref ea) rfl (λs6 I6=>?_) (.inr hx)
  have oM:=ĳ.put (i:=i) (x:=some (.ref ea)) (s:=.sh (.xc x.C x.ns x.ps)) rfl ⟨_,rfl,rp⟩
  refine wpAny_mono (hb (.ref ea) pins s6 _ _ {nx:=λσ' H'=>D.nx (σ'.set i none) H',rt:=D.rt,bk:=λσ' H'=>D.bk (σ'.set i none) H',ct:=λσ' H'=>D.ct (σ'.set i none) H'} I6 ⟨c,_,_,oM,?_⟩) (λf s7 q=>?_) λ_ _ z=>z.elim
  ·have sF:Same F (upd F ea (xo ea (cm x.C) d)):=Same.upd hF
   cases em:mh (ρ.set i (.sh (.xc x.C x.ns x.ps))) with
   |bad=>rw[em] at h;exact h
   |exc z ρ2=>rw[em] at h;exact h.elim
   |ok f ρ2=>
    rw[em] at h
    cases f with
    |nx=>exact λσ' F' H' r s1=>h _ F' H' (r.put (s:=.no) rfl trivial) (sF.trans s1)
    |bk=>exact λσ' F' H' r s1=>h _ F' H' (r.put (s:=.no) rfl trivial) (sF.trans s1)
    |ct=>exact λσ' F' H' r s1=>h _ F' H' (r.put (s:=.no) rfl trivial) (sF.trans s1)
    |rt r0=>exact λv σ' F' H' r s1 q=>h v _ F' H' (r.put (s:=.no) rfl trivial) (sF.trans s1) (Nb q)
  ·have fin:∀{σ7:L2.St} {H7:Hp},Inv (markX X (.ref ea)) pins σ7 H7 s7→(∀s8,Inv X pins (σ7.set i none) H7 s8→SP X pins D f s8)→
    wpAny (model X.prog X.w) X.A (do bindName X.env n .none;unbindBehindTheSuite X.env n hpos) (λ_ s8=>SP X pins D f s8) X.xe s7:=fun{σ7 H7} I7 k=>by
    have I8:=Inv.unmark I7 I.ok.hd
    obtain⟨m,hn,hl⟩:=id I8.loc
    refine wpAny_nameGoes_keeps hx hn (by rw[I.ok.kind];rfl) λh' v hn' hs=>k _ ?_
    exact Inv.gone I8 hN hi hx hn hl hn' hs
   cases f with
   |next=>obtain⟨σ7,H7,I7,q7⟩:=q;exact fin I7 λs8 I8=>⟨_,_,I8,q7⟩
   |brk=>obtain⟨σ7,H7,I7,q7⟩:=q;exact fin I7 λs8 I8=>⟨_,_,I8,q7⟩
   |cont=>obtain⟨σ7,H7,I7,q7⟩:=q;exact fin I7 λs8 I8=>⟨_,_,I8,q7⟩
   |ret u=>obtain⟨v,σ7,H7,I7,rv,q7⟩:=q;exact fin I7 λs8 I8=>⟨_,_,_,I8,rv,q7⟩
 ·split at h
  ·rename_i hn
   refine rT I1.dz (hno.get hn) hex he hcx ?_
   exact hr pins σ H Hc s sc ea C d B D c F ρ x I l rel ⟨eC,fs,hfd,hns,hps⟩ h
  ·exact h.elim
def Zb1{body:List Stmt}{h0:ExceptHandler}{hs:List ExceptHandler}{pos:Pos}{mb:M Fl}{mh:MH}(hst:∃env outer,X.stack=env::outer/\X.env=env/\env.frame=some env.locals)
 (hb:∀(xe:Value->Shared->Prop) (pins:List (Addr×Obj)) (Et:L2.St->XK),ŷ (Ŗ X.prog X.w) (wC X xe pins) Et->dY (wC X xe pins) body (tS (kk X cm) Et mb))
 (hh:PH X cm E (h0::hs) mh):PS X (.Try body (h0::hs) [] [] pos) (tS (kk X cm) E (MN mb mh)):=by
 intro pins s σ H D I ⟨c,F,ρ,rel,h⟩
 refine wpAny_Try_except ?_
 obtain⟨env,outer,Yd,rfl,hfr⟩:=hst
 have hframes:X.A.frames=some (X.env::outer):=by rw[<-Yd];exact I.ok.frames
 have J:Inv (wC X (λe s₁=>wpAny (model X.prog X.w) X.A (noteFrame e X.env) (λ_ s₂=>wpAny (model X.prog X.w) X.A (setFlight e none) (λ_ s₃=>wpAny (model X.prog X.w) X.A (handleBy e X.env (h0::hs)) (SP X pins D) X.xe s₃) X.xe s₂) X.xe s₁) pins) [] σ H s:=Inv.ZbZ I
 refine ł (hb _ pins (λσ1 C d H'=>∃c F ρ x,Rel (kk X cm) c F H' σ1 ρ/\Dk (kk X cm) F x C d/\Ŋ (kk X cm) E c F D (mh x ρ)) ?_ [] s σ H D J ⟨c,F,ρ,rel,?_⟩) λf s1 q=>?_
 ·intro aU σ1 H1 s1 e s2 I1 hx
  obtain⟨ea,C,d,H',B,rfl,l,c1,F1,ρ1,x,Ď,rx,h1⟩:=hx
  have I2:=Inv.pq I1
  have lfr:s2.heap.FunFrames B (X.env::outer):=by
   have:=l.fr
   rw[show(wC X _ pins).stack=X.env::outer from Yd] at this
   exact this
  show wpAny (model X.prog X.w) X.A (noteFrame (.ref ea) X.env) _ X.xe s2
  refine G_ hframes lfr hfr l.tr l.st l.en λg1 x1 x2 x3 x4=>?_
  refine nQ (s:={s2 with heap:=g1}) x1 x2 x3 λg2 y1 y2 y3 y4=>?_
  have l':Lies X.prog X.w X.stack H1 s1 ea C d .none H' B s2:=l
  have l2:=l'.move y1 (by rw[Yd];exact y2) y3 (x4.trans y4)
  exact hh pins σ1 H' H1 _ s1 ea C d B D c1 F1 ρ1 x I2 l2 Ď rx h1
 ·unfold MN at h
  cases em:mb ρ with
  |bad=>rw[em] at h;exact h
  |ok f ρ1=>
   rw[em] at h
   cases f<;>exact h
  |exc x ρ1=>
   rw[em] at h
   exact λσ' C d F' H' r s1 rx=>⟨c,F',ρ1,x,r,rx,Ŋ.mono h s1⟩
 ·have q':=SP.pq q
  cases f with
  |next=>exact wpAny_execs_nil q'
  |brk=>exact q'
  |cont=>exact q'
  |ret u=>exact q'
end
end P
namespace P
open PySem PySem.Spec PyProof.Rows L2 M2 M3 M4 Builtin Builtin.ObjectAttr
def ş(K:PySem.W.Frag)(C:Addr):Bool:=match K.lookup C with
 |some ⟨.type "type",_,.cls cd,sl⟩=>(match cd.mro,sl.toList with
  | .ref C'::bm,[_,_,_,_,some (.builtin n),_]=>C'== C && n== Yb && !cd.hasDel && cd.hasDict && PySem.W.tailIn K BW bm && PySem.W.findIn K (.ref C) "__setattr__" == some (some (.builtin "object.__setattr__")) &&
      PySem.W.findIn K (.ref C) "__getattribute__" == some (some (.builtin "BaseException.__getattribute__")) && PySem.W.findIn K (.ref C) "__getattr__" == some none
  |_,_=>false)
 |_=>false
structure iG(K:PySem.W.Frag)(C:Addr)(cd:ClassData)(bm:List Value):Prop where
 at_:∃dd k0 k1 k2 k3 k5,K.lookup C=some ⟨.type "type",dd,.cls cd,#[k0,k1,k2,k3,some (.builtin Yb),k5]⟩
 mro:cd.mro=.ref C::bm
 del:cd.hasDel=false
 dict:cd.hasDict=true
 tail:PySem.W.tailIn K BW bm=true
 sa:PySem.W.findIn K (.ref C) "__setattr__" =some (some (.builtin "object.__setattr__"))
 ga:PySem.W.findIn K (.ref C) "__getattribute__" =some (some (.builtin "BaseException.__getattribute__"))
 gg:PySem.W.findIn K (.ref C) "__getattr__" =some none
def dR{K:PySem.W.Frag}{C:Addr}(q:ş K C=true):∃cd bm,iG K C cd bm:=by
 unfold ş at q
 split at q
 case h_2=>cases q
 rename_i dd cd sl ho
 split at q
 case h_2=>cases q
 rename_i C1 bm k0 k1 k2 k3 n1 k5 e1 e2
 simp only[Bool.and_eq_true,beq_iff_eq,Bool.not_eq_true'] at q
 obtain⟨⟨⟨⟨⟨⟨⟨z1,z2⟩,z3⟩,z4⟩,z5⟩,z6⟩,z7⟩,z8⟩:=q
 subst z1 z2
 obtain⟨sll⟩:=sl
 dsimp only at e2
 subst e2
 exact⟨cd,bm,⟨dd,k0,k1,k2,k3,k5,ho⟩,e1,z3,z4,z5,z6,z7,z8⟩
section
variable{K:PySem.W.Frag}{h:Heap}{C:Addr}{cd:ClassData}{bm:List Value}
def iG.own(x:iG K C cd bm)(X:K.In h):OwnTail h BW bm:=PySem.W.tail_of_in X x.tail
def iG.cls(x:iG K C cd bm):PySem.W.clsIn K C=some cd:=by
 obtain⟨_,_,_,_,_,_,e⟩:=x.at_
 unfold PySem.W.clsIn
 rw[e]
theorem wF{T:String}(hT:BW.contains (.type T)=true):∀{l:List Value},PySem.W.tailIn K BW l=true->l.contains (.type T)=true
 | [],e=>by cases(show(BW== [])=true from e)
 |v::r,e=>by
  unfold PySem.W.tailIn at e
  rcases Bool.or_eq_true_iff.mp e with q|q
  ·rw[beq_iff_eq.mp q];exact hT
  ·split at q
   ·split at q
    ·simp only[Bool.and_eq_true,beq_iff_eq] at q
     rw[List.contains_cons,wF hT q.2,Bool.or_true]
    ·cases q
   ·cases q
theorem lX(self:Value):∀{l:List Value},PySem.W.tailIn K BW l=true->refuseLoop self "__setattr__" l=pure ()
 | [],e=>by cases(show(BW== [])=true from e)
 |v::r,e=>by
  unfold PySem.W.tailIn at e
  rcases Bool.or_eq_true_iff.mp e with q|q
  ·rw[beq_iff_eq.mp q];exact PySem.F.store_ValueError.passes self
  ·split at q
   ·split at q
    ·simp only[Bool.and_eq_true,beq_iff_eq] at q
     rw[refuseLoop_ref]
     exact lX self q.2
    ·cases q
   ·cases q
def iG.mroIs(x:iG K C cd bm){T:String}(hT:BW.contains (.type T)=true):PySem.W.mroIn K C (.type T)=some true:=by
 unfold PySem.W.mroIn
 rw[x.cls,Option.bind_some,if_neg (by rw[x.mro];simp),x.mro,List.contains_cons,wF hT x.tail,Bool.or_true]
def iG.Zb2(x:iG K C cd bm):PySem.W.hasDictIn K C=true:=by
 unfold PySem.W.hasDictIn
 rw[x.cls]
 exact x.dict
end
section
variable{prog:Program}{w:World}{A:Around}{E:Value->Shared->Prop}{h:Heap}{g:Array GenState}{d:Drawn}{t:Nat}{os:OsState}
variable{nm q:Str}{C N:Addr}{bs bm bmB:List Value}{hdct:Bool}{sn:List Str}{sub:List Value}{ab:Bool}{col:Option Bool}{dd:Option Addr}{k0 k1 k2 k3 k5:Option Value}{B newId initId:String}
def mV(F:ExcBaseFacts B newId initId bmB)(T:OwnTail h bmB bm){rest:List Value}{fI:Addr}{oI:Obj}{Q:Fin->Shared->Prop}
 (hC:h.get? C=some (excClassObj nm q C N bs bm hdct sn sub ab col dd k0 k1 k2 k3 k5 newId))(hi:PySem.W.Looks (model prog w) h (typeLookup (.ref C) "__init__") (some (.ref fI)))
 (hfI:h.get? fI=some oI)(hfc:oI.cls=.type "function")
 (hq:∀h' e,Heap.MadeExcOf h h' e (.ref C) rest→
   wpAny (model prog w) A (call (.ref fI) (.ref e::rest)) (λr s'=>r=.none/\Q (.done (.ret (.ref e))) s') E ⟨h',g,d,t,os⟩)(hrest:rest.length<=sizeLine) :
 wpAny (model prog w) A (Builtin.«type.__call__» ⟨.ref C::rest,[]⟩) Q E ⟨h,g,d,t,os⟩:=by
 repeat (first|with_reducible refine wpAny_loadPart_at hC ?_|with_reducible refine wpAny_madeBy_exc hC ?_|wp_step)
 refine codeAny_call_builtin_code (Code.quiet_builtin _ F.quiet) (wpAny_check_new_subT F T hC ?_)
 refine codeAny_exc_new_subT F T hC ?_ hrest
 show wpAny _ _ _ _ _ _
 have hC₁:= Heap.get?_push_of_some {cls:=.ref C,data:=.fields #[.ref h.objs.size,.none,.none,.none,.bool false,.none]}
  (Heap.get?_push_of_some {cls:=.type "tuple",data:=.seq rest.toArray} hC)
 have hfI₁:= Heap.get?_push_of_some {cls:=.ref C,data:=.fields #[.ref h.objs.size,.none,.none,.none,.bool false,.none]}
  (Heap.get?_push_of_some {cls:=.type "tuple",data:=.seq rest.toArray} hfI)
 have hi₁:= hi.keeps (h':=(h.push {cls:=.type "tuple",data:=.seq rest.toArray}).push {cls:=.ref C,data:=.fields #[.ref h.objs.size,.none,.none,.none,.bool false,.none]}) λb o e=>Heap.get?_push_of_some _ (Heap.get?_push_of_some _ e)
 have hget:((h.push {cls:=.type "tuple",data:=.seq rest.toArray}).push
  {cls:=.ref C,data:=.fields #[.ref h.objs.size,.none,.none,.none,.bool false,.none]}).get? (h.objs.size+1)=some
  {cls:=.ref C,data:=.fields #[.ref h.objs.size,.none,.none,.none,.bool false,.none]}:=by heap_get
 have hcC:(Value.ref C::bm).contains (.ref C)=true:=by simp
 unfold isInstance
 repeat (first|with_reducible refine wpAny_loadPart_at hget ?_|(with_reducible refine wpAny_isSubtype_exc hC₁ ?_;rw[hcC])|wp_step)
 show wpAny _ _ (typeLookup (.ref C) _) _ _ _
 refine hi₁.at ?_
 refine wpAny_holding (wpAny_bind ?_)
 unfold bindSpecial
 refine wpAny_bind (wpAny_typeOf (T:= "function") ⟨_,hfI₁,hfc⟩ ?_)
 rw[if_pos (by decide)]
 refine wpAny_pure (wpAny_bind (wpAny_mono (hq _ (h.objs.size+1) ⟨λb o hb=>Heap.get?_push_of_some _ (Heap.get?_push_of_some _ hb),Heap.get?_none_of_le (Nat.le_succ _),h.objs.size,hget,Heap.get?_none_of_le (Nat.le_refl _),?_⟩) (λr s' hr=>?_) λ_ _ x=>x))
 ·exact Heap.get?_push_of_some _ (Heap.get?_push_at rfl rfl)
 ·obtain⟨rfl,hQ⟩:=hr
  wp_walk
  exact hQ
def zx(F:ExcBaseFacts B newId initId bmB)(T:OwnTail h bmB bm){rest:List Value}{fI:Addr}{oI:Obj}{Q:Value->Shared->Prop}
 (hC:h.get? C=some (excClassObj nm q C N bs bm hdct sn sub ab col dd k0 k1 k2 k3 k5 newId))(hi:PySem.W.Looks (model prog w) h (typeLookup (.ref C) "__init__") (some (.ref fI)))
 (hfI:h.get? fI=some oI)(hfc:oI.cls=.type "function")
 (hq:∀h' e,Heap.MadeExcOf h h' e (.ref C) rest→
   wpAny (model prog w) (A.under (.builtin "type.__call__" ⟨.ref C::rest,[]⟩)) (call (.ref fI) (.ref e::rest)) (λr s'=>r=.none/\Q (.ref e) s') E ⟨h',g,d,t,os⟩)(hrest:rest.length<=sizeLine) :
 wpAny (model prog w) A (call (.ref C) rest) Q E ⟨h,g,d,t,os⟩:=by
 have f1:=tc_lookup
 have f2:=tc_bind (.ref C)
 have hT:(⟨h,g,d,t,os⟩:Shared).TypeIs (.ref C) "type" := ⟨_,hC,rfl⟩
 refine wpAny_call (codeAny_of_tree ?_)
 show wpAny _ _ (callAny (.ref C) _) _ _ _
 repeat (any_goals (first|assumption|with_reducible refine wpAny_loadPart_at hC ?_|wp_step))
 refine⟨rfl,?_⟩
 refine codeAny_call_builtin_at (Code.quiet_builtin _ (by decide +kernel)) entry_typeCall (wpAny_check_type_call_sub hC (mV (hrest:=hrest) F T hC hi hfI hfc λh' e hm=>?_))
 exact hq h' e hm
end
section
variable{prog:Program}{w:World}{A:Around}{E:Value->Shared->Prop}{s:Shared}{K:PySem.W.Frag}{x C:Addr}{cd:ClassData}{bm:List Value}{ox:Obj}{od:Option Obj}{name:Str}{v:Value}
def Zb3{rest:List Value}{fI:Addr}{Q:Value->Shared->Prop}(X:K.In s.heap)(c:iG K C cd bm)(hi:PySem.W.findIn K (.ref C) "__init__" =some (some (.ref fI)))(hf:PySem.W.typeIn K (.ref fI)=some (.type "function"))(hrest:rest.length<=sizeLine)
 (hq:∀h' e,Heap.MadeExcOf s.heap h' e (.ref C) rest->wpAny (model prog w) (A.under (.builtin "type.__call__" ⟨.ref C::rest,[]⟩)) (call (.ref fI) (.ref e::rest)) (λr s'=>r=.none/\Q (.ref e) s') E {s with heap:=h'}) :
 wpAny (model prog w) A (call (.ref C) rest) Q E s:=by
 obtain⟨dd,k0,k1,k2,k3,k5,e⟩:=c.at_
 obtain⟨oI,hoI,hfc⟩:=Option.map_eq_some_iff.mp hf
 have hC:=X _ _ e
 have T:=c.own X
 obtain⟨nm,bs,mro,ns,qn,hd,sn,sub,ab,col,del⟩:=cd
 obtain rfl:mro=.ref C::bm:=c.mro
 obtain rfl:del=false:=c.del
 obtain⟨hh,g,d,t,os⟩:=s
 exact zx (C:=C) (nm:=nm) (q:=qn) (N:=ns) (bs:=bs) (bm:=bm) (hdct:=hd) (sn:=sn) (sub:=sub) (ab:=ab) (col:=col) (dd:=dd) (k0:=k0) (k1:=k1) (k2:=k2) (k3:=k3) (k5:=k5) PySem.F.excBase_ValueError T hC (PySem.W.looks_findIn X hi) (X _ _ hoI) hfc hq hrest
def wG{tk:Tok}{R:Result->Shared->Prop}(X:K.In s.heap)(I:PySem.W.InstAt s.heap x ox C od)(c:iG K C cd bm)(ht:Ģ K C name)
 (h:∀b,wpAny (model prog w) A.in1 (storeInOwnDict (.ref x) (.ref C) (.str name tk) name v b)
   (λfin s'=>match fin with| .done f=>R (.ok f) s'| .again c'=>c'.quiet=true/\codeAny (model prog w) A c' R s') (λe s'=>R (.error e) s') s) :
 codeAny (model prog w) A (.call (.builtin "object.__setattr__") ⟨[.ref x,.str name tk,v],[]⟩) R s:=by
 have SF:=PySem.F.store_object
 have sub:PySem.W.Looks (model prog w) s.heap (isInstance (.ref x) (.type "object")) true:=I.type.andThen (PySem.W.looks_mroIn X (c.mroIs (by decide)))
 refine codeAny_call_builtin SF.slot.plain SF.entry (@PySem.W.check_slot (model prog w) _ _ s "object.__setattr__" "object" "__setattr__" (.ref x) [.str name tk,v] [] _ SF.kind SF.split sub (SF.args (.ref x) (.str name tk) v) ?_)
 have hm:PySem.W.Looks (model prog w) s.heap (mroOf (.ref C)) cd.mro:=(PySem.W.looks_clsIn X c.cls).andThen .now
 have L3:PySem.W.Looks (model prog w) s.heap (typeLookup (.ref C) name) none:=PySem.W.looks_findIn X ht
 rw[PySem.W.osa_eq,refuse_eq]
 refine wpAny_bind (wpAny_bind (I.type.here (wpAny_bind (hm.here ?_))))
 rw[c.mro,refuseLoop_ref,lX _ c.tail]
 refine wpAny_pure (wpAny_bind (I.type.here (wpAny_bind (L3.here (wpAny_bind (wpAny_pure ?_))))))
 exact h _
def Hg{sl:Array (Option Value)}{vs:Array Value}{Q:Unit->Shared->Prop}(X:K.In s.heap)(hx:s.heap.get? x=some ⟨.ref C,none,.fields vs,sl⟩)(c:iG K C cd bm)(ht:Ģ K C name)
 (h:∀h',h'.get? x=some ⟨.ref C,some s.heap.objs.size,.fields vs,sl⟩->h'.Ns1 s.heap.objs.size (λy=>if y=name then some v else none)->(∀b o,b≠x->s.heap.get? b=some o->h'.get? b=some o)->Q () {s with heap:=h',toks:=s.toks+2}) :
 wpAny (model prog w) A (setAttr (.ref x) name v) Q E s:=by
 have J:PySem.W.InstAt s.heap x ⟨.ref C,none,.fields vs,sl⟩ C none:=⟨hx,rfl,rfl,trivial⟩
 refine PySem.W.set_plain X J c.sa (wG (s:={s with toks:=s.toks+1}) X J c ht λb=>?_)
 refine wpAny_bind (wpAny_pure (wpAny_bind (wpAny_bind (wpAny_loadPart hx (wpAny_bind (PySem.W.Looks.here (s:={s with toks:=s.toks+1}) (PySem.W.looks_clsIn X c.cls) ?_))))))
 rw[c.dict]
 have hxs:x≠s.heap.objs.size:=Nat.ne_of_lt (Heap.lt_size hx)
 have hx₁:(s.heap.push {cls:=.type "dict",data:=.dict #[]}).get? x=some ⟨.ref C,none,.fields vs,sl⟩:=Heap.get?_push_of_some _ hx
 refine wpAny_bind (wpAny_alloc ?_)
 refine wpAny_bind (wpAny_update hx₁ ?_)
 refine wpAny_pure (a:=some s.heap.objs.size) (wpAny_bind (wpAny_pure (wpAny_bind ?_)))
 have hgd:((s.heap.push {cls:=.type "dict",data:=.dict #[]}).update x λo=> {cls:=o.cls,dict:=some s.heap.objs.size,data:=o.data,slots:=o.slots}).get? s.heap.objs.size
  = some {cls:=.type "dict",data:=.dict #[]}:=(Heap.get?_update_ne _ _ _ _ hxs.symm).trans (Heap.get?_push_at rfl rfl)
 have hnd:((s.heap.push {cls:=.type "dict",data:=.dict #[]}).update x λo=> {cls:=o.cls,dict:=some s.heap.objs.size,data:=o.data,slots:=o.slots}).Ns s.heap.objs.size (λ_=>none):=
  ⟨_,#[],_,hgd,rfl,λe he=>absurd he (by simp),λ_=>rfl⟩
 refine wpAny_nsSet1 (Heap.Ns1.of_empty hnd) λh' hn' hs=>?_
 obtain⟨oD,esD,epD,hoD,hdD,hcD⟩:=hn'.count (PySem.Within.cons name v PySem.Within.nil)
 refine wpAny_bind (wpAny_lookBehind hoD (by rw[hdD];exact pastItsLine_dict (Nat.le_trans hcD (by rw[List.length_cons,List.length_nil,sizeLine_eq];omega))) ?_)
 refine wpAny_pure (h h' ?_ hn' λb o hb q=>?_)
 ·exact(hs.2 x hxs).trans (Heap.get?_update_self _ hx₁ rfl)
 ·exact(hs.2 b (Nat.ne_of_lt (Heap.lt_size q))).trans ((Heap.get?_update_ne _ _ _ _ hb).trans (Heap.get?_push_of_some _ q))
def Du{sl:Array (Option Value)}{vs:Array Value}{dx:Addr}{mA:Str->Option Value}{ns:List Str}{Q:Unit->Shared->Prop}(X:K.In s.heap)(hx:s.heap.get? x=some ⟨.ref C,some dx,.fields vs,sl⟩)(hn:s.heap.Ns1 dx mA)(hw:PySem.Within mA ns)(hsz:ns.length<sizeLine)(c:iG K C cd bm)(ht:Ģ K C name)
 (h:∀h',h'.Ns1 dx (λy=>if y=name then some v else mA y)->Heap.SameBut dx s.heap h'->Q () {s with heap:=h',toks:=s.toks+2}) :
 wpAny (model prog w) A (setAttr (.ref x) name v) Q E s:=by
 obtain⟨od,hod,_⟩:=jZ hn
 have J:PySem.W.InstAt s.heap x ⟨.ref C,some dx,.fields vs,sl⟩ C (some od):=⟨hx,rfl,rfl,hod⟩
 refine PySem.W.set_plain X J c.sa (wG (s:={s with toks:=s.toks+1}) X J c ht λb=>?_)
 refine wpAny_bind (wpAny_pure (wpAny_bind (wpAny_bind (wpAny_loadPart hx (wpAny_bind (PySem.W.Looks.here (s:={s with toks:=s.toks+1}) (PySem.W.looks_clsIn X c.cls) ?_))))))
 rw[c.dict]
 refine wpAny_pure (a:=some dx) (wpAny_bind (wpAny_pure (wpAny_bind ?_)))
 refine wpAny_nsSet1 (s:={s with toks:=s.toks+1}) hn λh' hn2 hs2=>?_
 obtain⟨oD,esD,epD,hoD,hdD,hcD⟩:=hn2.count (PySem.Within.cons name v hw)
 refine wpAny_bind (wpAny_lookBehind hoD (by rw[hdD];exact pastItsLine_dict (Nat.le_trans hcD (by rw[List.length_cons];omega))) ?_)
 exact wpAny_pure (h _ hn2 hs2)
def xga{R:Result->Shared->Prop}{u:Value}{od:Obj}{tk:Tok}(X:K.In s.heap)(I:PySem.W.InstAt s.heap x ox C (some od))(c:iG K C cd bm)(ht:Ģ K C name)(hl:PySem.W.lookIn name od=some (some u))
 (h:R (.ok (.ret u)) s):codeAny (model prog w) A (.call (.builtin "BaseException.__getattribute__") ⟨[.ref x,.str name tk],[]⟩) R s:=by
 have hk:builtinKind "BaseException.__getattribute__" =some .slot:=by decide +kernel
 have hsplit:splitId "BaseException.__getattribute__" =some ("BaseException","__getattribute__"):=by decide +kernel
 have L0:=I.type (M:=model prog w)
 have L3:=PySem.W.looks_find (M:=model prog w) X I (PySem.W.findObj_own c.Zb2 ht rfl hl)
 have hsub:PySem.W.Looks (model prog w) s.heap (isInstance (.ref x) (.type "BaseException")) true:=L0.andThen (PySem.W.looks_mroIn X (c.mroIs (by decide)))
 refine codeAny_call_builtin PySem.F.attrBase_ValueError.ga.plain PySem.F.entry_bexc_ga (@PySem.W.check_slot (model prog w) _ _ s "BaseException.__getattribute__" "BaseException" "__getattribute__" (.ref x) [.str name tk] [] _ hk hsplit hsub (PySem.F.args_bexc_ga (.ref x) (.str name tk)) ?_)
 unfold Builtin.«object.__getattribute__»
 refine wpAny_bind (wpAny_pure (wpAny_bind (wpAny_pure (wpAny_bind (L0.here (wpAny_bind (L3.here (wpAny_pure ?_))))))))
 exact h
def Ze1{expr:Bool}{u:Value}{od:Obj}{Q:Value->Shared->Prop}(X:K.In s.heap)(I:PySem.W.InstAt s.heap x ox C (some od))(c:iG K C cd bm)(ht:Ģ K C name)(hl:PySem.W.lookIn name od=some (some u))(hh:PySem.W.handedIn u=true)
 (h:Q u {s with toks:=s.toks+1}):wpAny (model prog w) A (getAttr (.ref x) name expr) Q E s:=by
 have FB:=PySem.F.attrBase_ValueError
 obtain⟨hp,g,d,t,os⟩:=s
 have L0:=I.type (M:=model prog w)
 have L1:=PySem.W.looks_findIn (M:=model prog w) X c.ga
 have L2:=PySem.W.looks_findIn (M:=model prog w) X c.gg
 have L3:=PySem.W.looks_find (M:=model prog w) X I (PySem.W.findObj_own c.Zb2 ht rfl hl)
 have hsub:PySem.W.Looks (model prog w) hp (isInstance (.ref x) (.type "BaseException")) true:=L0.andThen (PySem.W.looks_mroIn X (c.mroIs (by decide)))
 unfold getAttr getAttrBy
 refine wpAny_bind (wpAny_mkText (wpAny_holding (wpAny_bind (L0.at (wpAny_bind (L1.at ?_))))))
 show wpAny _ _ (getAttrByItsOwn _ _ _ _ _ _) _ _ _
 have f3:=FB.ga.bind (.ref x)
 have hx0:(expr && onTheHeap (Value.builtin "BaseException.__getattribute__"))=false:=by cases expr<;>rfl
 unfold getAttrByItsOwn hookBefore callGetattribute
 refine wpAny_bind (L2.at ?_)
 rw[hx0]
 have hk:builtinKind "BaseException.__getattribute__" =some .slot:=by decide +kernel
 have hsplit:splitId "BaseException.__getattribute__" =some ("BaseException","__getattribute__"):=by decide +kernel
 refine wpAny_bind (wpAny_attempt (wpAny_holding ?_))
 rw[if_neg (by decide)]
 unfold boundAndCalled
 rw[f3]
 refine wpAny_bind (wpAny_pure (wpAny_call ?_))
 exact xga X I c ht hl (show wpAny _ _ (handedOut u) _ _ _ by rw[PySem.W.handedOut_of hh];exact wpAny_pure h)
end
end P
namespace P
open PySem PySem.Spec PyProof.Rows L2 M2 M3 M4
def xn(a C:Addr)(d:Option Addr):HO:=.ext λh=>∃o vs,h.get? a=some o/\o.cls=.ref C/\o.dict=d/\o.data=.fields vs/\vs[1]?=some .none
def Ye(H:Hp)(a:Addr)(d:Option Addr)(fs:List (Str×V)):Prop:=(d=none/\fs=[])\/∃d0,d=some d0/\H d0=some (.xd fs)/\d0≠a
def XDn(H:Hp)(a:Addr)(d:Option Addr)(d':Addr):Prop:=d=some d'\/(d=none/\H d'=none/\d'≠a)
def wH(H:Hp)(a C:Addr)(d:Option Addr)(d':Addr)(fs:List (Str×V)):Hp:=match d with
 |some _=>upd H d' (.xd fs)
 |none=>upd (upd H d' (.xd fs)) a (xn a C (some d'))
def wI{f g:Str}{y:V}{u:Value}{fs:List (Str×V)}{mA:Str->Option Value}(ry:RelV y u)(r:∀g,jz (fs.lookup g) (mA g)):jz ((ŵ f y fs).lookup g) (if g=f then some u else mA g):=by
 rw[fO]
 split
 ·exact ry
 ·exact r g
section
variable{X:Cx}{pins:List (Addr×Obj)}{σ:L2.St}{H:Hp}{s:Shared}{a C:Addr}{cd:ClassData}{bm:List Value}{d:Option Addr}{fs:List (Str×V)}{f:Str}{y:V}{u:Value}{A:Around}{E:Value->Shared->Prop}
def Nf{Q:Unit->Shared->Prop}(I:Inv X pins σ H s)(c:iG X.K C cd bm)(ha:H a=some (xn a C d))(hD:Ye H a d fs)(n:Ģ X.K C f)(hl:fs.length<1000)(ry:RelV y u)
 (h:∀s' d',XDn H a d d'->Inv X pins σ (wH H a C d d' (ŵ f y fs)) s'->Q () s'):wpAny (model X.prog X.w) A (setAttr (.ref a) f u) Q E s:=by
 obtain⟨⟨o,vs,ho,hcl,hdi,hda,hv1⟩,_,_⟩:=(show Ł X.prog X.w H s.heap a (xn a C d) from I.hok a _ ha)
 obtain⟨ocls,odict,odata,osl⟩:=o
 dsimp only at hcl hdi hda
 subst hcl hdi hda
 rcases hD with⟨rfl,rfl⟩|⟨d0,rfl,hd0,hne⟩
 ·refine Hg I.dz ho c n λh' hx' hns k=>h _ s.heap.objs.size (.inr ⟨rfl,I.hok.fresh (Nat.le_refl _),λz=>?_⟩) ?_
  ·have:=Heap.lt_size ho
   rw[z] at this
   exact Nat.lt_irrefl _ this
  ·obtain⟨od,es,ep,e1,e2⟩:=id hns
   have hfr:=(Heap.get?_some_iff.mp e1).2
   have g1:(s.heap.push od).get? s.heap.objs.size=some od:=Heap.get?_push_at rfl hfr
   have ne:s.heap.objs.size≠a:=λz=>by
    have:=Heap.lt_size ho
    rw[<-z] at this
    exact Nat.lt_irrefl _ this
   have I1:Inv X pins σ (upd H s.heap.objs.size (.xd (ŵ f y []))) {s with heap:=s.heap.push od,toks:=s.toks}:=
    I.laid (λb o q=>Heap.get?_push_of_some _ q) (Nat.le_refl _) ⟨_,hns.at λo q=>by rw[e1] at q;cases q;exact g1,λg=>wI (fs:=[]) (mA:=λ_=>none) ry λ_=>trivial⟩
   refine I1.write (x:=a) (e:=a) (h':=h') (by rw[ċ (Ne.symm ne),ha];exact trivial) (.inl rfl) (λb o hb q=>?_) ⟨_,hx'⟩ ?_
   ·rcases Heap.get?_push_cases q with⟨rfl,rfl⟩|q
    ·exact e1
    ·exact k b o hb q
   ·refine⟨⟨_,vs,hx',rfl,rfl,rfl,hv1⟩,⟨_,hx'⟩,?_⟩
    rintro h1 h2 ⟨o,ws,q1,q2⟩ kk
    exact⟨o,ws,kk o q1,q2⟩
 ·obtain⟨mA,hns,r⟩:=(show Ł X.prog X.w H s.heap d0 (.xd fs) from I.hok d0 _ hd0)
  have wi:PySem.Within mA (fs.map (·.1)):=λg hg=>by
   refine Classical.byContradiction λhn=>hg (jz.none_of ?_)
   rw[<-kY (m:=g) (fs:=fs) (by simpa using hn)]
   exact r g
  refine Du I.dz ho hns wi (by rw[List.length_map,sizeLine_eq];omega) c n λh' hn2 sb=>h _ d0 (.inl rfl) ?_
  exact I.write (x:=d0) (e:=d0) (by rw[hd0];exact trivial) (.inl rfl) (λb o hb q=>(sb.2 b hb).trans q) (let ⟨o,_,_,e,_⟩:=hn2;⟨o,e⟩) ⟨_,hn2,λg=>wI ry r⟩
def tXF(C:Addr)(f:Str)(j:Nat):TS:=λD σ H=>∃a d fs y,σ[0]?=some (some (.ref a))/\σ[j]?=some (some y)/\H a=some (xn a C d)/\Ye H a d fs/\fs.length<1000/\∀d',XDn H a d d'->D.nx σ (wH H a C d d' (ŵ f y fs))
def Yg(C:Addr):List (Str×Nat)->TS
 | []=>Oq
 |(f,j)::r=>Zbd (tXF C f j) (Yg C r)
variable{o value:Expr}{pos pos':Pos}{j:Nat}{ss:List Stmt}{r:List (Str×Nat)}
def Hh(q:ş X.K C=true)(n:Ģ X.K C f)(ho:PE X o (yD 0))(hv:PE X value (yD j))(hs:swapsWith value (some (.Attribute o f pos')) pos.line X.env=pure false:=by rfl):PS X (.Assign [.Attribute o f pos'] value pos) (tXF C f j):=by
 intro pins s σ H D I ⟨a,d,fs,y,h0,hj,ha,hD,hl,h⟩
 obtain⟨cd,bm,c⟩:=dR q
 refine plainObj_wpAny_Assign_Attribute (ł (hv pins s σ H (λv H1=>v=y/\H1=H) I ⟨y,hj,rfl,rfl⟩) λu s1 ⟨y1,H1,I1,ry,e1,e2⟩=>?_) hs
 subst e1 e2
 refine ł (ho pins s1 σ _ (λv H2=>v=.ref a/\H2=H1) I1 ⟨_,h0,rfl,rfl⟩) λov s2 ⟨x,H2,I2,rx,e1,e2⟩=>?_
 subst e1 e2
 obtain rfl:ov=Value.ref a:=rx
 exact Nf I2 c ha hD n hl ry λs3 d' hn I3=>⟨σ,_,I3,h d' hn⟩
def Hi:dY X [] (Yg C []):=A_
def uy(h1:PS X (.Assign [.Attribute o f pos'] value pos) (tXF C f j))(h2:dY X ss (Yg C r)):dY X (.Assign [.Attribute o f pos'] value pos::ss) (Yg C ((f,j)::r)):=vP h1 h2
end
def xiV:List (Str×Nat)->List V->List (Str×V)->Option (List (Str×V))
 | [],_,fs=>some fs
 |(f,j)::r,vs,fs=>match vs[j]? with
  |some v=>xiV r vs (ŵ f v fs)
  |none=>none
theorem Hj{D:Ends}{σ:L2.St}{a C:Addr}{vs:List V}(h0:σ[0]?=some (some (.ref a)))(hσ:∀(j:Nat) v,vs[j]?=some v->σ[j]?=some (some v)):∀{fl:List (Str×Nat)} {d:Option Addr} {fs fs':List (Str×V)} {H:Hp},H a=some (xn a C d)->Ye H a d fs->fs.length+fl.length<1000->xiV fl vs fs=some fs'->
 (∀H' d',H' a=some (xn a C d')->Ye H' a d' fs'->(∀b u,b≠a->d≠some b->H b=some u->H' b=some u)->(∀d0,d'=some d0->d=some d0\/H d0=none)->D.nx σ H')->Yg C fl D σ H
 | [],d,fs,fs',H,ha,hD,hl,e,k=>by
   cases e
   exact k H d ha hD (λ_ _ _ _ q=>q) λd0 q=>.inl q
 |(f,j)::r,d,fs,fs',H,ha,hD,hl,e,k=>by
  unfold xiV at e
  cases ej:vs[j]? with
  |none=>rw[ej] at e;cases e
  |some y=>
   rw[ej] at e
   rw[List.length_cons] at hl
   refine⟨a,d,fs,y,h0,hσ j y ej,ha,hD,by omega,λd' hn=>?_⟩
   have hda:d'≠a:=by
    rcases hn with rfl|⟨_,_,q⟩
    ·rcases hD with⟨q,_⟩|⟨d0,q,_,z⟩
     ·cases q
     ·cases q;exact z
    ·exact q
   have e1:wH H a C d d' (ŵ f y fs) a=some (xn a C (some d')):=by
    unfold wH
    rcases hn with rfl|⟨rfl,_,_⟩
    ·dsimp only;rw[ċ (Ne.symm hda)];exact ha
    ·exact Ğ
   have e2:wH H a C d d' (ŵ f y fs) d'=some (.xd (ŵ f y fs)):=by
    unfold wH
    cases d with
    |some _=>exact Ğ
    |none=>dsimp only;rw[ċ hda];exact Ğ
   have e3:∀b,b≠a->b≠d'->wH H a C d d' (ŵ f y fs) b=H b:=λb h1 h2=>by
    unfold wH
    cases d with
    |some _=>exact ċ h2
    |none=>dsimp only;rw[ċ h1,ċ h2]
   have hlen:=fP f y fs
   show Yg C r _ σ _
   refine Hj (fl:=r) (d:=some d') (fs:=ŵ f y fs) (fs':=fs') h0 hσ e1 (.inr ⟨d',rfl,e2,hda⟩) (by omega) e λH' d'' q1 q2 q3 q4=>k H' d'' q1 q2 (λb u h1 h2 h3=>?_) λd0 z=>?_
   ·have hb:b≠d':=fun z=>by
     rcases hn with q|⟨_,q,_⟩
     ·exact h2 (by rw[q,z])
     ·rw[z,q] at h3;cases h3
    exact q3 b u h1 (λz=>hb (by cases z;rfl)) (by rw[e3 b h1 hb];exact h3)
   ·rcases q4 d0 z with q|q
    ·cases q
     rcases hn with q|⟨_,q,_⟩
     ·exact .inl q
     ·exact .inr q
    ·have n1:d0≠a:=λz=>by rw[z,e1] at q;cases q
     have n2:d0≠d':=λz=>by rw[z,e2] at q;cases q
     rw[e3 d0 n1 n2] at q
     exact .inr q
def spX(n:Nat)(C:Addr)(fl:List (Str×Nat)):Sp:=λvs H Q _=>∃a vs' fs,vs=.ref a::vs'/\vs'.length+1=n/\H a=some (xn a C none)/\fl.length<1000/\xiV fl vs []=some fs/\
 ∀H' d',H' a=some (xn a C d')->Ye H' a d' fs->(∀b u,b≠a->H b=some u->H' b=some u)->(∀d0,d'=some d0->H d0=none)->Q .non H'
def rW{N:List Str}{vs:List V}{j:Nat}{v:V}(e:vs[j]?=some v):(L2.start N vs)[j]?=some (some v):=by
 unfold L2.start
 obtain⟨hj,e'⟩:=List.getElem?_eq_some_iff.mp e
 rw[List.getElem?_append_left (by simpa using hj)]
 simp[e]
section
variable{P:Program}{w:World}{K:PySem.W.Frag}{mg:Str->Option Value}{base:Heap}{CX:lO}
def fnX{x qual:Str}{st:Stmt}{f:Addr}{fd:FuncData}{N ps:List Str}{k n:Nat}{C:Addr}{fl:List (Str×Nat)}(F:Ec K x qual st f fd)(S:ĉ N ps (ć st))(hn:ps.length=n)
 (hbody:∀(cdv:Value) (A:Around) (outer:List Env) (s:Shared) (H:Hp) (E:XK),dY (ž CX P w K mg base N qual (ć st) f cdv A outer s H E) (ň st) (Yg C fl)):ģ P w K mg base CX (k+1) f fd ps (spX n C fl):=by
 subst hn
 obtain⟨oc,od,kV,doc,pm,an,cdv,ct,osl,rfl,lk,hcd⟩:=F.ex
 refine Bc lk hcd S (λvs H Q E ⟨a,vs',fs,h1,h2,_⟩=>by rw[h1,List.length_cons];exact h2) λA outer s H vs Q E hr hsp=>?_
 obtain⟨a,vs',fs,rfl,h2,h3,h4,h5,h6⟩:=hsp
 refine⟨_,hbody cdv A outer s H E,Hj (vs:=.ref a::vs') (rW rfl) (λj v e=>rW e) h3 (.inl ⟨rfl,rfl⟩) (by simpa using h4) h5 λH' d' q1 q2 q3 q4=>h6 H' d' q1 q2 (λb u hb q=>q3 b u hb (by intro z;cases z) q) λd0 z=>?_⟩
 rcases q4 d0 z with q|q
 ·cases q
 ·exact q
end
def cL.Ze2{P:Program}{w:World}{H:Hp}{h:Heap}{ea Ca:Addr}{d:Option Addr}{oe:Obj}{vs:Array Value}(k:cL P w H h)(hn:H ea=none)(he:h.get? ea=some oe)(hc:oe.cls=.ref Ca)(hdi:oe.dict=d)(hd:oe.data=.fields vs)(h1:vs[1]?=some .none):cL P w (upd H ea (xn ea Ca d)) h:=λb u e=>by
 by_cases hb:b=ea
 ·subst hb
  rw[Ğ] at e
  cases e
  refine⟨⟨oe,vs,he,hc,hdi,hd,h1⟩,⟨oe,he⟩,?_⟩
  rintro h1 h2 ⟨o,ws,q1,q2⟩ kk
  exact⟨o,ws,kk o q1,q2⟩
 ·rw[ċ hb] at e
  exact(k b u e).stay (λ_ _ _ q=>q) (λc q=>by rw[ċ (ē q hn)];exact q) (λc xs q=>by rw[ċ (ē q hn)];exact q) λc xs q=>by rw[ċ (ē q hn)];exact q
def Inv.Ze3{X:Cx}{pins:List (Addr×Obj)}{σ:L2.St}{H:Hp}{s:Shared}{h':Heap}{e Ca:Addr}{d:Option Addr}{oe:Obj}{vs:Array Value}{t':Nat}(I:Inv X pins σ H s)(k:∀b o,s.heap.get? b=some o->h'.get? b=some o)(new:s.heap.get? e=none)
 (he:h'.get? e=some oe)(hc:oe.cls=.ref Ca)(hdi:oe.dict=d)(hd:oe.data=.fields vs)(h1:vs[1]?=some .none):Inv X pins σ (upd H e (xn e Ca d)) {s with heap:=h',toks:=t'}:=by
 have hn:H e=none:=ux I.hok new
 have u:Un X.fs [] H H s.heap h':=Un.kept k
 refine I.un ⟨u.keep,u.slot,λb o q n hx=>?_,u.there,λb xs q=>?_,λb o v q=>?_,λb ps q=>?_⟩ (cL.Ze2 (I.hok.kept k) hn he hc hdi hd h1)
 ·have hb:b≠e:=λz=>by rw[z,new] at q;cases q
  rw[ċ hb];exact n
 ·rw[ċ (ē q hn)];exact q
 ·rw[ċ (ē q hn)];exact q
 ·rw[ċ (ē q hn)];exact q
def Ng:List (Str×Nat)->List PV->List Str->List PV->Option (List Str×List PV)
 | [],_,ns,qs=>some (ns,qs)
 |(_,0)::_,_,_,_=>none
 |(f,j+1)::r,ps,ns,qs=>match ps[j]? with
  |some p=>Ng r ps (putN f ns) (qQ f p ns qs)
  |none=>none
theorem wJ{K:KK}{F:Hp}:∀{ps:List PV} {vs:List V} {j:Nat} {p:PV},Ĕ K F ps vs->ps[j]?=some p->∃v,vs[j]?=some v/\Rep K F p v
 | [],_,_,_,_,e=>by simp at e
 |q::ps,vs,j,p,h,e=>by
  unfold Ĕ at h
  obtain⟨x,r,rfl,h1,h2⟩:=h
  cases j with
  |zero=>cases e;exact⟨x,rfl,h1⟩
  |succ j=>rw[List.getElem?_cons_succ] at e ⊢;exact wJ h2 e
theorem Hl{K:KK}{F:Hp}{ps:List PV}{vs:List V}{e:V}(h:Ĕ K F ps vs):∀{fl:List (Str×Nat)} {ns ns':List Str} {qs qs':List PV} {fs:List (Str×V)},Ng fl ps ns qs=some (ns',qs')->fs.map (·.1)=ns->Ĕ K F qs (fs.map (·.2))->
 ∃fs',xiV fl (e::vs) fs=some fs'/\fs'.map (·.1)=ns'/\Ĕ K F qs' (fs'.map (·.2))
 | [],ns,ns',qs,qs',fs,z,hn,hq=>by cases z;exact⟨fs,rfl,hn,hq⟩
 |(f,0)::r,ns,ns',qs,qs',fs,z,hn,hq=>by cases z
 |(f,j+1)::r,ns,ns',qs,qs',fs,z,hn,hq=>by
  unfold Ng at z
  cases ej:ps[j]? with
  |none=>rw[ej] at z;cases z
  |some p=>
   rw[ej] at z
   obtain⟨v,ev,rv⟩:=wJ h ej
   unfold xiV
   rw[List.getElem?_cons_succ,ev]
   subst hn
   obtain⟨z1,z2⟩:=uo (f:=f) (p:=p) rv hq
   exact Hl h (fs:=ŵ f v fs) z z1 z2
def nT(C:String)(n:Nat)(fl:List (Str×Nat))(ms:M (List PV)):M Fl:=λρ=>(ms ρ).bind λps ρ1=>if ps.length+1=n/\ps.length<1000/\fl.length<1000 then(match Ng fl ps [] [] with
 |some (ns,qs)=>.exc ⟨C,ns,qs⟩ ρ1
 |none=>.bad) else .bad
section
variable{X:Cx}{cm:String->Addr}{E:L2.St->XK}{e:Expr}{es:List Expr}{pos p:Pos}{CX:lO}{k n:Nat}{f:Addr}{fd:FuncData}{ps:List Str}{C:String}{fl:List (Str×Nat)}{ms:M (List PV)}{x:Str}
structure Yh(K:PySem.W.Frag)(C f:Addr):Prop where
 x:ş K C=true
 kp:PySem.W.keepIn K (.ref C)=true
 init:PySem.W.findIn K (.ref C) "__init__" =some (some (.ref f))
 fn:PySem.W.typeIn K (.ref f)=some (.type "function")
def Dv{pins:List (Addr×Obj)}{σ:L2.St}{H:Hp}{s:Shared}{G:Value->Shared->Prop}{us:List Value}{vs:List V}{sp:Sp}{C:Addr}{T:Addr->Hp->Prop}(M:Yh X.K C f)(F:ģ X.prog X.w X.K X.mg X.base CX k f fd ps sp)(hr:Ő (k+1) X.A)(hb:Binds X.K fd ps [])
 (hx:ŷ CX X E)(I:Inv X pins σ H s)(r:Vals vs us)(hl:us.length<=sizeLine)
 (h:∀x,H x=none->sp (.ref x::vs) (upd H x (xn x C none)) (λv H2=>v=.non/\T x H2) (E σ))
 (k:∀x H2 s',H x=none->s.heap.get? x=none->Inv X pins σ H2 s'->T x H2->G (.ref x) s') :
 wpAny (model X.prog X.w) X.A (call (.ref C) us) G X.xe s:=by
 obtain⟨cd,bm,c⟩:=dR M.x
 refine Zb3 I.dz c M.init M.fn hl λh' e hm=>?_
 obtain⟨t,he,_,_⟩:=hm.there
 have hn:H e=none:=ux I.hok hm.new
 have I2:Inv X pins σ (upd H e (xn e C none)) {s with heap:=h',toks:=s.toks}:=Inv.Ze3 I hm.keeps hm.new he rfl rfl rfl rfl
 have hq:=h e hn
 have r2:Vals (V.ref e::vs) (Value.ref e::us):=.cons rfl r
 have hl:(Value.ref e::us ++ []).length=ps.length:=by
  have q:=r2.length
  rw[F.len _ _ _ _ hq] at q
  rw[List.append_nil]
  exact q.symm
 have hbd:=hb {s with heap:=h'} (Value.ref e::us) I2.dz hl
 rw[List.append_nil] at hbd
 refine wpAny_call (codeAny_mono (F.run _ X.stack _ _ ⟨Value.ref e::us,[]⟩ _ _ _ (E σ) (hr.make C us []) (I2.env0.make C us []) hbd r2 hq) λr s' hq'=>?_)
 cases r with
 |error e=>exact hx pins σ _ _ e s' I2 hq'
 |ok fl=>
  cases fl with
  |ret u=>
   obtain⟨v,H',I3,rv,ev,q3⟩:=I2.after hq'
   subst ev
   exact⟨rv,k e H' s' hn hm.new I3 q3⟩
  |next=>exact False.elim hq'
  |brk=>exact False.elim hq'
  |cont=>exact False.elim hq'
def rem(H:Hp)(a:Addr):Hp:=λb=>if b=a then none else H b
def dU{H:Hp}{a b:Addr}(h:b≠a):rem H a b=H b:=if_neg h
def wK{H:Hp}{a:Addr}:rem H a a=none:=if_pos rfl
def jH{H:Hp}{a b:Addr}(h:H b=none):rem H a b=none:=by
 unfold rem
 split
 ·rfl
 ·exact h
def Inv.drop{pins:List (Addr×Obj)}{σ:L2.St}{H:Hp}{s:Shared}{a:Addr}{φ:Heap->Prop}(I:Inv X pins σ H s)(ha:H a=some (.ext φ)):Inv X pins σ (rem H a) s:=by
 have ne:∀b u,H b=some u->(∀ψ,u≠ .ext ψ)->b≠a:=λb u q n z=>by rw[z,ha] at q;cases q;exact n _ rfl
 refine⟨I.ok,I.os,I.bare,⟨I.base.keep,I.base.slot,λb o q n hx=>jH (I.base.free b o q n hx),I.base.there,λb xs q=>?_,λb o u q=>?_,λb ps q=>?_⟩,I.loc,I.cell,jH I.free,λx c e=>jH (I.au x c e),λp hp=>?_,λb u e=>?_,I.len⟩
 ·have q':=I.base.tups b xs q
  rw[dU (ne b _ q' (by intro ψ z;cases z))];exact q'
 ·have q':=I.base.dw b o u q
  rw[dU (ne b _ q' (by intro ψ z;cases z))];exact q'
 ·have q':=I.base.bZ b ps q
  rw[dU (ne b _ q' (by intro ψ z;cases z))];exact q'
 ·obtain⟨h1,h2,h3⟩:=I.pin p hp
  exact⟨h1,jH h2,h3⟩
 ·have hb:b≠a:=λz=>by rw[z,wK] at e;cases e
  rw[dU hb] at e
  exact(I.hok b u e).stay (λ_ _ _ q=>q) (λc q=>by rw[dU (ne c _ q (by intro ψ z;cases z))];exact q) (λc xs q=>by rw[dU (ne c _ q (by intro ψ z;cases z))];exact q) λc xs q=>by rw[dU (ne c _ q (by intro ψ z;cases z))];exact q
def Zb4{K:KK}{c:Ctx}{F1 H1 H':Hp}{σ:L2.St}{ρ1:Ĺ}{x Ca:Addr}{d':Option Addr}{fs:List (Str×V)}(Ď:Rel K c F1 H1 σ ρ1)(hx:H1 x=none)(hD:Ye H' x d' fs)(hH:∀b u,b≠x->upd H1 x (xn x Ca none) b=some u->H' b=some u)
 (hd:∀d0,d'=some d0->upd H1 x (xn x Ca none) d0=none):∃F',Rel K c F' H' σ ρ1/\Same F1 F'/\Same H1 H'/\lR F' d' fs/\F' x=none:=by
 have sH:Same H1 H':=λb u e=>hH b u (ē e hx) (by rw[ċ (ē e hx)];exact e)
 have r2:Rel K c F1 H' σ ρ1:=Ď.call ⟨sH,Same.refl _,Ď.sub.trans sH,λ_ _ q=>q⟩
 rcases hD with⟨rfl,rfl⟩|⟨d0,rfl,h2,hne⟩
 ·exact⟨F1,r2,Same.refl _,sH,.inl ⟨rfl,rfl⟩,Ď.sub.free hx⟩
 ·have n0:H1 d0=none:=by
   have:=hd d0 rfl
   rw[ċ hne] at this
   exact this
  refine⟨upd F1 d0 (.xd fs),r2.freeze h2 (Ď.base.free n0) (Ď.sub.free n0) (Ď.fresh n0),Same.upd (Ď.sub.free n0),sH,.inr ⟨d0,rfl,Ğ⟩,?_⟩
  rw[ċ (Ne.symm hne)]
  exact Ď.sub.free hx
end
section
variable{M:Model}{A:Around}{E:Value->Shared->Prop}{s:Shared}{K:PySem.W.Frag}{env:Env}
def Nh{x:Sem Value}{Q:Flow->Shared->Prop}(hh:A.handled=none)
 (h:wpAny M A x (λv s₁=>∃e C oe vs oC,v=.ref e/\K.In s₁.heap/\s₁.heap.get? C=some oC/\oC.cls=.type "type" /\PySem.W.mroIn K C (.type "BaseException")=some true/\s₁.heap.get? e=some oe/\oe.cls=.ref C/\oe.data=.fields vs/\vs[1]?=some .none/\E (.ref e) s₁) E s) :
 wpAny M A (raiseStmt env (some x) none) Q E s:=by
 unfold raiseStmt
 refine wpAny_bind (wpAny_mono h (λv s₁ h₁=>?_) λ_ _ x=>x)
 obtain⟨e,C,oe,vs,oC,rfl,KX,hC,hCt,hm,he,hc,hd,h1,hE⟩:=h₁
 have L4:=PySem.W.looks_mroIn (M:=M) KX hm
 obtain⟨hp,g,d,tk,os⟩:=s₁
 obtain⟨ocls,odict,odata,osl⟩:=oe
 dsimp only at hc hd
 subst hc hd
 repeat (first|with_reducible refine wpAny_loadPart_at he ?_|(with_reducible refine wpAny_loadPart_at hC ?_;rw[hCt])|with_reducible refine PySem.W.Looks.at L4 ?_|with_reducible refine wpAny_field he rfl h1 ?_|wp_step)
 exact wpAny_raiseNew_none hh hE
end
section
variable{X:Cx}{cm:String->Addr}{E:L2.St->XK}{e:Expr}{es:List Expr}{pos cpos np:Pos}{CX:lO}{k n:Nat}{f:Addr}{fd:FuncData}{ps:List Str}{C:String}{fl:List (Str×Nat)}{ms:M (List PV)}{x:Str}
def Ŋ.bindL{K:KK}{c:Ctx}{F H:Hp}{σ:L2.St}{D:Ends}{Q':List V->Hp->Prop}{r:Res (List PV)}{g:List PV->Ĺ->Res Fl}(h:Ŋ K E c F D (r.bind g))
 (k:∀p ρ1 v F1 H1,Rel K c F1 H1 σ ρ1->Same F F1->Same H H1->Ĕ K F1 p v->Ŋ K E c F1 D (g p ρ1)->Q' v H1):aj K E (rL K) c F H σ Q' r:=by
 cases r with
 |bad=>exact h
 |exc x ρ'=>exact λC d F' H' rel s1 q=>h σ C d F' H' rel s1 q
 |ok p ρ1=>exact λv F' H' rel s1 s2 q=>k p ρ1 v F' H' rel s1 s2 q (Ŋ.mono h s1)
def zy{c:Ctx}{F1 H1:Hp}{σ:L2.St}{ρ1:Ĺ}{D:Ends}{qs:List PV}{vs:List V}(Ď:Rel (kk X cm) c F1 H1 σ ρ1)(r1:Ĕ (kk X cm) F1 qs vs)
 (h:Ŋ (kk X cm) E c F1 D (if qs.length+1=n/\qs.length<1000/\fl.length<1000 then(match Ng fl qs [] [] with|some (ns,qs)=>.exc ⟨C,ns,qs⟩ ρ1|none=>.bad) else .bad)) :
 vs.length<=sizeLine/\∀x,H1 x=none->spX n (cm C) fl (.ref x::vs) (upd H1 x (xn x (cm C) none)) (λv H2=>v=.non/\∃d',H2 x=some (xn x (cm C) d')/\E σ (.ref (cm C)) d' (rem H2 x)) (E σ):=by
 split at h
 case isFalse=>exact h.elim
 rename_i hz
 cases ex:Ng fl qs [] [] with
 |none=>rw[ex] at h;exact h.elim
 |some z=>
  obtain⟨ns,ws⟩:=z
  rw[ex] at h
  refine⟨by rw[<-Ĕ.length r1,Ĵ];omega,λx hx=>?_⟩
  obtain⟨fs,e1,e2,e3⟩:=Hl (e:=.ref x) r1 (fs:=[]) ex rfl Ĕ.nil
  refine⟨x,vs,fs,rfl,by rw[<-Ĕ.length r1];exact hz.1,Ğ,hz.2.2,e1,λH' d' q1 q2 q3 q4=>⟨rfl,d',q1,?_⟩⟩
  have q2':Ye (rem H' x) x d' fs:=by
   rcases q2 with q|⟨d0,z1,z2,z3⟩
   ·exact .inl q
   ·exact .inr ⟨d0,z1,by rw[dU z3];exact z2,z3⟩
  obtain⟨F',rl,sF,sH,xd,fx⟩:=Zb4 (Ca:=cm C) Ď hx q2' (λb u hb q=>by rw[dU hb];exact q3 b u hb q) q4
  exact h σ _ _ F' _ rl sF ⟨rfl,fs,xd,e2,Ĕ.same sF _ _ e3⟩
def wL(hc:X.calm=true)(hex:X.ex=[])(hrs:ur X E)(M:Yh X.K (cm C) f)(F:ģ X.prog X.w X.K X.mg X.base CX k f fd ps (spX n (cm C) fl))(hr:Ő (k+1) X.A)(hg:Gl X x)(hm:X.mg x=some (.ref (cm C)))(hb:Binds X.K fd ps [])(hx:ŷ CX X E)
 (ha:PA X (e::es) (tL (kk X cm) E ms))(hdb:(x== ("__debug__" :Str))=false:=by decide)(he:starEach (e::es) X.env=(false,eval e X.env)::starEach es X.env:=by exact bF rfl)(hpl:(backTo cpos (starEach es X.env)).any (·.1)=false:=by rfl) :
 PS X (.Raise (some (.Call (.Name x np) (e::es) [] cpos)) none pos) (tS (kk X cm) E (nT C n fl ms)):=by
 intro pins s σ H D I ⟨c,F',ρ,rel,h⟩
 rw[arm_exec_Raise]
 refine wpAny_bind (wpAny_standAt ?_)
 show wpAny _ _ (raiseStmt X.env (some (do let v <-eval (.Call (.Name x np) (e::es) [] cpos) X.env;standAt pos;pure v)) none) _ _ _
 refine Nh (K:=X.K) (I.ok.hd hc) (wpAny_bind ?_)
 obtain⟨cd,bm,xc⟩:=dR M.x
 obtain⟨dd,k0,k1,k2,k3,k5,lC⟩:=xc.at_
 refine wpAny_mono (wpAny_Call_Name_kw (gZ I hg hm (PySem.W.callWith_K (h₀:= X.base) I.ok.mod.kin M.kp (ł (ha cpos pins s σ H (λvs H1=>vs.length<=sizeLine/\∀x,H1 x=none->spX n (cm C) fl (.ref x::vs) (upd H1 x (xn x (cm C) none)) (λv H2=>v=.non/\∃d',H2 x=some (xn x (cm C) d')/\E σ (.ref (cm C)) d' (rem H2 x)) (E σ)) I
  ⟨c,F',ρ,rel,Ŋ.bindL h fun qs ρ1 vs F1 H1 Ď _ _ r1 h1=>zy Ď r1 h1⟩) fun us s1 ⟨vs,H1,I1,r,q0,q⟩=>⟨I1.dz,Dv (G:=fun v s₁=>∃e C oe vs oC,v=.ref e∧X.K.In s₁.heap∧s₁.heap.get? C=some oC∧oC.cls=.type "type" ∧PySem.W.mroIn X.K C (.type "BaseException")=some true∧s₁.heap.get? e=some oe∧oe.cls=.ref C∧oe.data=.fields vs∧vs[1]?=some .none∧X.xe (.ref e) s₁)
    M F hr hb hx I1 r (by rw[<-Vals.length r];exact q0) q λy H2 s' _ hnew I3 ⟨d',h1,h2⟩=>?_⟩) he hpl) hdb)) (λv s3 h3=>wpAny_bind (wpAny_standAt (wpAny_pure h3))) λ_ _ z=>z
 obtain⟨⟨oe,ws,ho,hcl,hdi,hda,hv1⟩,_,_⟩:=(show Ł X.prog X.w H2 s'.heap y (xn y (cm C) d') from I3.hok y _ h1)
 refine⟨y,cm C,oe,ws,_,rfl,I3.dz,I3.dz _ _ lC,rfl,xc.mroIs (by decide),ho,hcl,hda,hv1,?_⟩
 exact hrs pins σ (rem H2 y) s' y oe ws (Inv.drop I3 h1) ho hda hv1 wK (Inv.ZbY I1 hex hnew) (by rw[hcl,hdi];exact h2)
def gq(cs:List String)(f:Str):PV->Option PV
 | .xc C ns ps=>if cs.contains C=true then(ns.zip ps).lookup f else none
 |_=>none
def zA{fn:Str}{m:M PV}(cs:List String)(hcs:aH (λC=>ş X.K (cm C)=true/\Ģ X.K (cm C) fn) cs)(he:PE X e (tV (kk X cm) E m))(hb:attributeBase e fn X.env (eval e X.env)=eval e X.env:=by rfl):PE X (.Attribute e fn pos) (tV (kk X cm) E (aK (gq cs fn) m)):=by
 intro pins s σ H Q I ⟨c,F,ρ,rel,h⟩
 refine Bb hb (ł (he pins s σ H (λx H1=>∃a C d d0 fs v,x=.ref a/\H1 a=some (xo a C d)/\d=some d0/\H1 d0=some (.xd fs)/\ş X.K C=true/\Ģ X.K C fn/\fs.lookup fn=some v/\Q v H1) I ⟨c,F,ρ,rel,h.bind λp ρ1 v F1 H1 Ď _ _ r1 h1=>?_⟩) λu s1 ⟨x,H1,I1,rx,a,C,d,d0,fs,v,ex,e1,e2,e3,k1,k2,l,q⟩=>?_)
 ·cases p with
  |xc C ns ps=>
   unfold gq at h1
   dsimp only at h1
   split at h1
   ·rename_i hc
    have r2:Rep (kk X cm) F1 (.xc C ns ps) v:=r1
    unfold Rep at r2
    obtain⟨a,d,fs,rfl,q2,q3,q4,q5⟩:=r2
    cases el:(ns.zip ps).lookup fn with
    |none=>rw[el] at h1;exact h1.elim
    |some q=>
     rw[el] at h1
     subst q4
     obtain⟨v,e1,e2⟩:=jq q5 el
     obtain⟨k1,k2⟩:=hcs.get hc
     rcases q3 with⟨_,rfl⟩|⟨d0,z1,z2⟩
     ·cases e1
     ·exact⟨a,_,d,d0,fs,v,rfl,Ď.sub _ _ q2,z1,Ď.sub _ _ z2,k1,k2,e1,h1 v F1 H1 Ď (Same.refl _) (Same.refl _) e2⟩
   ·exact h1.elim
  |_=>exact h1.elim
 ·subst ex e2
  obtain rfl:u=Value.ref a:=rx
  obtain⟨cd,bm,xc⟩:=dR k1
  obtain⟨⟨o,ws,ho,hcl,hdi,hda⟩,_,_⟩:=(show Ł X.prog X.w H1 s1.heap a (xo a C (some d0)) from I1.hok a _ e1)
  obtain⟨mA,hns,r⟩:=(show Ł X.prog X.w H1 s1.heap d0 (.xd fs) from I1.hok d0 _ e3)
  obtain⟨od,hod,hlk⟩:=jZ hns
  obtain⟨u,hu,ru⟩:=jz.some_of (v:=v) (o:=mA fn) (by rw[<-l];exact r fn)
  obtain⟨ocls,odict,odata,osl⟩:=o
  dsimp only at hcl hdi hda
  subst hcl hdi hda
  exact Ze1 I1.dz (ox:=⟨.ref C,some d0,.fields ws,osl⟩) (od:=od) ⟨ho,rfl,rfl,hod⟩ xc k2 (by rw[hlk,hu]) (qY ru) ⟨v,H1,I1.tok _,ru,q⟩
end
end P
namespace P
open PySem PySem.Spec PyProof.Rows L2 M2 M3 M4 Builtin Builtin.ObjectAttr
def ź(K:PySem.W.Frag)(C:Addr):Bool:=ş K C && PySem.W.findIn K (.ref C) "__class__" == some (some (.builtin "object.__class__")) && PySem.W.specialIn K (.builtin "object.__class__") "__get__" == some (some (.builtin "getset_descriptor.__get__")) && PySem.W.takesIn K (.builtin "object.__class__")== some true
def pA{K:PySem.W.Frag}{C:Addr}(q:ź K C=true):ş K C=true/\PySem.W.findIn K (.ref C) "__class__" =some (some (.builtin "object.__class__"))/\PySem.W.specialIn K (.builtin "object.__class__") "__get__" =some (some (.builtin "getset_descriptor.__get__"))/\PySem.W.takesIn K (.builtin "object.__class__")=some true:=by
 unfold ź at q
 simp only[Bool.and_eq_true,beq_iff_eq] at q
 obtain⟨⟨⟨z1,z2⟩,z3⟩,z4⟩:=q
 exact⟨z1,z2,z3,z4⟩
section
variable{prog:Program}{w:World}{A:Around}{E:Value->Shared->Prop}{s:Shared}{K:PySem.W.Frag}{x C:Addr}{ox:Obj}{od:Option Obj}
def Ni{R:Result->Shared->Prop}{tk:Tok}(X:K.In s.heap)(I:PySem.W.InstAt s.heap x ox C od)(q:ź K C=true)
 (h:R (.ok (.ret (.ref C))) s):codeAny (model prog w) A (.call (.builtin "BaseException.__getattribute__") ⟨[.ref x,.str "__class__" tk],[]⟩) R s:=by
 obtain⟨q0,q1,q2,q3⟩:=pA q
 obtain⟨cd,bm,c⟩:=dR q0
 have hk:builtinKind "BaseException.__getattribute__" =some .slot:=by decide +kernel
 have hsplit:splitId "BaseException.__getattribute__" =some ("BaseException","__getattribute__"):=by decide +kernel
 have L0:=I.type (M:=model prog w)
 have hf:PySem.W.findObj K C od "__class__" =some (.bind (.builtin "getset_descriptor.__get__") (.builtin "object.__class__")):=by
  unfold PySem.W.findObj
  rw[c.cls,Option.bind_some,q1,Option.bind_some]
  simp[q2,q3]
 have L3:=PySem.W.looks_find (M:=model prog w) X I hf
 have hsub:PySem.W.Looks (model prog w) s.heap (isInstance (.ref x) (.type "BaseException")) true:=L0.andThen (PySem.W.looks_mroIn X (c.mroIs (by decide)))
 refine codeAny_call_builtin PySem.F.attrBase_ValueError.ga.plain PySem.F.entry_bexc_ga (@PySem.W.check_slot (model prog w) _ _ s "BaseException.__getattribute__" "BaseException" "__getattribute__" (.ref x) [.str "__class__" tk] [] _ hk hsplit hsub (PySem.F.args_bexc_ga (.ref x) (.str "__class__" tk)) ?_)
 unfold Builtin.«object.__getattribute__»
 refine wpAny_bind (wpAny_pure (wpAny_bind (wpAny_pure (wpAny_bind (L0.here (wpAny_bind (L3.here ?_)))))))
 refine wpAny_bind (wpAny_holding (wpAny_call (PySem.W.class_get X I (c.mroIs (by decide)) ?_)))
 exact wpAny_pure h
def Ho{Q:Option Value->Shared->Prop}(X:K.In s.heap)(I:PySem.W.InstAt s.heap x ox C od)(q:ź K C=true)
 (h:Q (some (.ref C)) {s with toks:=s.toks+1}):wpAny (model prog w) A (getAttr? (.ref x) "__class__") Q E s:=by
 obtain⟨q0,q1,q2,q3⟩:=pA q
 obtain⟨cd,bm,c⟩:=dR q0
 have FB:=PySem.F.attrBase_ValueError
 obtain⟨hp,g,d,t,os⟩:=s
 have L0:=I.type (M:=model prog w)
 have L1:=PySem.W.looks_findIn (M:=model prog w) X c.ga
 have L2:=PySem.W.looks_findIn (M:=model prog w) X c.gg
 unfold getAttr? getAttrBy? getAttrBy
 refine wpAny_bind (wpAny_mkText (wpAny_bind (wpAny_attempt (wpAny_holding (wpAny_bind (L0.at (wpAny_bind (L1.at ?_))))))))
 show wpAny _ _ (getAttrByItsOwn _ _ _ _ _ _) _ _ _
 have f3:=FB.ga.bind (.ref x)
 unfold getAttrByItsOwn hookBefore callGetattribute
 refine wpAny_bind (L2.at ?_)
 refine wpAny_bind (wpAny_attempt (wpAny_holding ?_))
 rw[if_neg (by decide)]
 unfold boundAndCalled
 rw[f3]
 refine wpAny_bind (wpAny_pure (wpAny_call ?_))
 exact Ni (s:=⟨hp,g,d,t+1,os⟩) X I q (show wpAny _ _ (handedOut (.ref C)) _ _ _ by rw[PySem.W.handedOut_of rfl];exact wpAny_pure (wpAny_pure h))
end
def wM{K:PySem.W.Frag}{x D:Addr}(q:ź K D=true):PySem.W.KitX K (.ref x) (.ref D) (λh=>∃ox od,PySem.W.InstAt h x ox D od):=by
 obtain⟨q0,q1,q2,q3⟩:=pA q
 obtain⟨cd,bm,c⟩:=dR q0
 obtain⟨dd,k0,k1,k2,k3,k5,lC⟩:=c.at_
 refine⟨λ_ _ _ ⟨ox,od,I⟩=>I.type,λ_ _ X _=>?_,λh tp dd its n sl X htp=>?_,λX ⟨ox,od,I⟩ k=>Ho X I q k⟩
 ·intro A' Q' E' s' k q
  unfold isType loadHead
  exact wpAny_bind (wpAny_loadPart (k _ _ (X _ _ lC)) (wpAny_pure q))
 ·refine Bool.eq_false_iff.mpr λq=>?_
  have e:D=tp:=Value.ref.inj (beq_iff_eq.mp q)
  subst e
  have z:=congrArg Obj.cls (Option.some.inj ((X _ _ lC).symm.trans htp))
  exact absurd (Value.type.inj z) (by decide)
section
variable{X:Cx}{cm:String->Addr}{K:KK}
def Hq(K:PySem.W.Frag):List V->Hp->VK->Prop:=λxs H Q=>BL K xs H Q\/∃a C d fs c cv b,xs=[.ref a,c]/\RelV c cv/\(∀u,RelV c u->u=cv)/\H a=some (xo a C d)/\lR H d fs/\ź K C=true/\PySem.W.kitOne K (.ref C) cv=some b/\Q (.bl b) H
def iu:Ń X (.builtin "isinstance") (Hq X.K):=by
 intro pins s σ H xs us Q I r h
 rcases h with h|⟨a,C,d,fs,c,cv,b,rfl,rc,uq,ha,hD,q,hk,hQ⟩
 ·exact XJ pins s σ H xs us Q I r h
 ·obtain⟨u,w',rfl,r1,r2⟩:=vals2 r
  cases(show u=Value.ref a from r1)
  rw[uq w' r2]
  obtain⟨⟨o,ws,ho,hcl,hdi,hda⟩,_,_⟩:=(show Ł X.prog X.w H s.heap a (xo a C d) from I.hok a _ ha)
  obtain⟨ocls,odict,odata,osl⟩:=o
  dsimp only at hcl hdi hda
  subst hcl hdi hda
  have J:∃ox od,PySem.W.InstAt s.heap a ox C od:=by
   rcases hD with⟨rfl,_⟩|⟨d0,rfl,z⟩
   ·exact⟨_,none,ho,rfl,rfl,trivial⟩
   ·obtain⟨od,z'⟩:=o_ (I.hok d0 _ z)
    exact⟨_,some od,ho,rfl,rfl,z'⟩
  exact PySem.W.kia_one (wM q) I.dz J hk (λz=>nomatch z) λtk=>⟨.bl b,H,I.tok _,rfl,hQ⟩
def mW(Q:String->String->Bool->Prop):List ((String×String)×Bool)->Prop
 | []=>True
 |((c,d),b)::r=>Q c d b/\mW Q r
theorem mW.get{Q:String->String->Bool->Prop}:∀{t:List ((String×String)×Bool)} {c d:String} {b:Bool},mW Q t->t.lookup (c,d)=some b->Q c d b
 | [],_,_,_,_,h=>by simp at h
 |((c',d'),b')::r,c,d,b,⟨h1,h2⟩,h=>by
  rw[List.lookup_cons] at h
  cases e:(c,d)== (c',d') with
  |true=>
   rw[e] at h
   cases h
   obtain⟨rfl,rfl⟩:=Prod.mk.inj (beq_iff_eq.mp e)
   exact h1
  |false=>
   rw[e] at h
   exact h2.get h
def aM(tc tt:List ((String×String)×Bool))(ds nt:List String):List PV->Option PV
 | [.xc C _ _,.cls D]=>(tc.lookup (C,D)).map .bl
 | [.xc C _ _,.ty D]=>(tt.lookup (C,D)).map .bl
 | [.non,.cls D]=>if ds.contains D=true then some (.bl false) else none
 | [.non,.ty D]=>if nt.contains D=true then some (.bl false) else Gz [.non,.ty D]
 |ps=>Gz ps
def iw{tc tt:List ((String×String)×Bool)}{ds nt:List String}(hc:mW (λC D b=>ź K.K (K.cm C)=true/\PySem.W.kitOne K.K (.ref (K.cm C)) (.ref (K.cm D))=some b) tc)
 (ht:mW (λC D b=>ź K.K (K.cm C)=true/\PySem.W.kitOne K.K (.ref (K.cm C)) (.type D)=some b) tt)(hd:aH (λD=>PySem.W.kitOne K.K (.type "NoneType") (.ref (K.cm D))=some false) ds)
 (hn:aH (λD=>PySem.W.kitOne K.K (.type "NoneType") (.type D)=some false) nt):bG K (Hq K.K) (aM tc tt ds nt):=by
 intro c F H σ ρ ps pv vs Q rel r e k
 unfold aM at e
 split at e
 ·rename_i C ns qs D
  obtain⟨v,u,rfl,r1,r2⟩:=Px r
  cases eb:tc.lookup (C,D) with
  |none=>rw[eb] at e;cases e
  |some b=>
   rw[eb] at e
   cases e
   obtain⟨k1,k2⟩:=hc.get eb
   have r1':Rep K F (.xc C ns qs) v:=by rcases r1 with q|q;exact q;exact q.elim
   have r2':Rep K F (.cls D) u:=by rcases r2 with q|q;exact q;exact q.elim
   unfold Rep at r1' r2'
   obtain⟨a,d,fs,rfl,q2,q3,q4,q5⟩:=r1'
   subst r2'
   exact .inr ⟨a,_,d,fs,_,.ref (K.cm D),b,rfl,rfl,λu z=>z,rel.sub _ _ q2,q3.same rel.sub,k1,k2,k _ F H rel (Same.refl _) (Same.refl _) Rep.bl⟩
 ·rename_i C ns qs D
  obtain⟨v,u,rfl,r1,r2⟩:=Px r
  cases eb:tt.lookup (C,D) with
  |none=>rw[eb] at e;cases e
  |some b=>
   rw[eb] at e
   cases e
   obtain⟨k1,k2⟩:=ht.get eb
   have r1':Rep K F (.xc C ns qs) v:=by rcases r1 with q|q;exact q;exact q.elim
   have r2':Rep K F (.ty D) u:=by rcases r2 with q|q;exact q;exact q.elim
   unfold Rep at r1' r2'
   obtain⟨a,d,fs,rfl,q2,q3,q4,q5⟩:=r1'
   subst r2'
   exact .inr ⟨a,_,d,fs,_,.type D,b,rfl,rfl,λu z=>z,rel.sub _ _ q2,q3.same rel.sub,k1,k2,k _ F H rel (Same.refl _) (Same.refl _) Rep.bl⟩
 ·rename_i D
  obtain⟨v,u,rfl,r1,r2⟩:=Px r
  split at e
  ·rename_i hD
   cases e
   cases r1.non
   have r2':Rep K F (.cls D) u:=by rcases r2 with q|q;exact q;exact q.elim
   unfold Rep at r2'
   subst r2'
   exact .inl ⟨_,false,rfl,hd.get hD,k _ F H rel (Same.refl _) (Same.refl _) Rep.bl⟩
  ·cases e
 ·rename_i D
  split at e
  ·rename_i hD
   obtain⟨v,u,rfl,r1,r2⟩:=Px r
   cases e
   cases r1.non
   cases r2.ty
   exact .inl ⟨_,false,rfl,hn.get hD,k _ F H rel (Same.refl _) (Same.refl _) Rep.bl⟩
  ·exact .inl (GC rel r e k)
 ·exact .inl (GC rel r e k)
end
def Yi(K:PySem.W.Frag)(cm:String->Addr)(cs:List String)(D:String)(b:Bool):Bool:=match cs with
 | []=>true
 |c::r=>PySem.W.kitCls K (.ref (cm c)) (.ref (cm D))== some b && Yi K cm r D b
theorem uz{K:PySem.W.Frag}{cm:String->Addr}{D:String}{b:Bool}:∀{cs:List String},Yi K cm cs D b=true->aH (λc=>PySem.W.kitCls K (.ref (cm c)) (.ref (cm D))=some b) cs
 | [],_=>trivial
 |c::r,h=>by
  unfold Yi at h
  rw[Bool.and_eq_true] at h
  exact⟨beq_iff_eq.mp h.1,uz h.2⟩
def isC(K:PySem.W.Frag)(cm:String->Addr):List ((String×String)×Bool)->Bool
 | []=>true
 |((c,d),b)::r=>ź K (cm c) && PySem.W.kitOne K (.ref (cm c)) (.ref (cm d))== some b && isC K cm r
theorem Hr{K:PySem.W.Frag}{cm:String->Addr}:∀{t:List ((String×String)×Bool)},isC K cm t=true->mW (λC D b=>ź K (cm C)=true/\PySem.W.kitOne K (.ref (cm C)) (.ref (cm D))=some b) t
 | [],_=>trivial
 |((c,d),b)::r,h=>by
  unfold isC at h
  rw[Bool.and_eq_true,Bool.and_eq_true] at h
  exact⟨⟨h.1.1,beq_iff_eq.mp h.1.2⟩,Hr h.2⟩
def isT(K:PySem.W.Frag)(cm:String->Addr):List ((String×String)×Bool)->Bool
 | []=>true
 |((c,d),b)::r=>ź K (cm c) && PySem.W.kitOne K (.ref (cm c)) (.type d)== some b && isT K cm r
theorem Hs{K:PySem.W.Frag}{cm:String->Addr}:∀{t:List ((String×String)×Bool)},isT K cm t=true->mW (λC D b=>ź K (cm C)=true/\PySem.W.kitOne K (.ref (cm C)) (.type D)=some b) t
 | [],_=>trivial
 |((c,d),b)::r,h=>by
  unfold isT at h
  rw[Bool.and_eq_true,Bool.and_eq_true] at h
  exact⟨⟨h.1.1,beq_iff_eq.mp h.1.2⟩,Hs h.2⟩
def isD(K:PySem.W.Frag)(cm:String->Addr):List String->Bool
 | []=>true
 |d::r=>PySem.W.kitOne K (.type "NoneType") (.ref (cm d))== some false && isD K cm r
theorem Ht{K:PySem.W.Frag}{cm:String->Addr}:∀{t:List String},isD K cm t=true->aH (λD=>PySem.W.kitOne K (.type "NoneType") (.ref (cm D))=some false) t
 | [],_=>trivial
 |d::r,h=>by
  unfold isD at h
  rw[Bool.and_eq_true] at h
  exact⟨beq_iff_eq.mp h.1,Ht h.2⟩
def Yj(K:PySem.W.Frag):List String->Bool
 | []=>true
 |d::r=>PySem.W.kitOne K (.type "NoneType") (.type d)== some false && Yj K r
theorem BX{K:PySem.W.Frag}:∀{t:List String},Yj K t=true->aH (λD=>PySem.W.kitOne K (.type "NoneType") (.type D)=some false) t
 | [],_=>trivial
 |d::r,h=>by
  unfold Yj at h
  rw[Bool.and_eq_true] at h
  exact⟨beq_iff_eq.mp h.1,BX h.2⟩
def Pz(K:PySem.W.Frag)(C f:Addr):Bool:=ş K C && PySem.W.keepIn K (.ref C) && PySem.W.findIn K (.ref C) "__init__" == some (some (.ref f)) && PySem.W.typeIn K (.ref f)== some (.type "function")
def uD{K:PySem.W.Frag}{C f:Addr}(h:Pz K C f=true):Yh K C f:=by
 unfold Pz at h
 simp only[Bool.and_eq_true,beq_iff_eq] at h
 exact⟨h.1.1.1,h.1.1.2,h.1.2,h.2⟩
def Dw{l:PySem.W.OpenLaw}{k:Nat}{x:Str}{m:MF}{q:Program}{loose:List Str}{XP:(Str->Option Value)->Heap->Prop}{YP:World->Heap->Prop}{d:DefRec}{K:Params->PySem.W.Frag}(hn:l.most=some 63)(hdf:d.params.defaults=[])(hr:Ő k callerA)
 (hY:∀(w:World) (h:Heap),YP w h->(K w.params).In h)
 (F:∀(w:World) (mg:Str→Option Value) (fa:Addr) (h:Heap),(K w.params).In h→h.Ns mainGlobals mg→mg d.name=some (.ref fa)→
   ∃fd:FuncData,(∀(s:Shared) (u:Value),BindsTo s fd ⟨[u],[]⟩ [(x,u)])/\∀base:Heap,(K w.params).In base->base.Ns mainGlobals mg->∃cm,ģ l.prog w (K w.params) mg base (Ŗ l.prog w) k fa fd [x] (š ⟨K w.params,cm⟩ 1 m))
 (ht:∀ns:List Int,ns.length<=63->m [.sh (.lst (ns.map .int))]=.ret (.sh (.bl true)))
 (hnt:lams≠[]->∀w:World,PySem.W.noTabs (K w.params)=true:=by intro z;exact absurd rfl z)(hone:∀y z,y∈lams->z∈lams->y=z:=by simp[lams])(hrec:∀y,y∈lams->∃d,(recsOf q).find? (λe=>e.name== y)=some d:=by simp[lams]) :
 PySem.W.WalkO q loose XP YP l.row.toRowW d [] (λf vs=>PySem.call f vs):=by
 refine L2.Ld (n:=63) (k:=k) (x:=x) (CX:=λw=>Ŗ l.prog w) (sp:=λw=>ZbO (K w.params)) hn (by decide) hdf hr hY (λw mg fa h h1 h2 h3=>?_) (λw H a ns hl _ hS=>⟨a,ns,rfl,hS,hl,λ_ _ z=>z⟩) (λw H s e s' z=>rQ z) hnt hone hrec
 obtain⟨fd,hb,hF⟩:=F w mg fa h h1 h2 h3
 refine⟨fd,hb,λbase k1 k2=>?_⟩
 obtain⟨cm,G⟩:=hF base k1 k2
 refine G.imp λvs H Q E hs=>?_
 obtain⟨sa,ns,rfl,hS,hl,hq⟩:=hs
 refine⟨H,[.sh (.lst (ns.map .int))],rfl,Same.refl _,.cons ?_ .nil,?_⟩
 ·show Rep _ _ _ _
  unfold Rep
  exact⟨sa,_,rfl,hS,wz ns⟩
 ·rw[ht ns hl]
  intro v F' H' g rf
  have e:v=.bl true:=t_ (K:=⟨K w.params,cm⟩) (F:=F') rf
  exact hq v H' e
section
variable{ρ:Ĺ}{C:String}{n i:Nat}{fl:List (Str×Nat)}{ms:M (List PV)}{mb mh:M Fl}{mr:MH}{yes no:List String}{x:PX}
@[simp] theorem Zb5:zu C ρ=.exc ⟨C,[],[]⟩ ρ:= rfl
@[simp] theorem Za9:nT C n fl ms ρ=(ms ρ).bind fun ps ρ1=>if ps.length+1=n∧ps.length<1000∧fl.length<1000 then(match Ng fl ps [] [] with
  |some (ns,qs)=>.exc ⟨C,ns,qs⟩ ρ1
  |none=>.bad) else .bad:=rfl
@[simp] theorem Ze4:MN mb mr ρ=(match mb ρ with
  | .exc x ρ1=>mr x ρ1
  |r=>r):=rfl
@[simp] theorem Ze5:nR i yes no mh mr x ρ=(if yes.contains x.C=true then(match mh (ρ.set i (.sh (.xc x.C x.ns x.ps))) with
  | .ok f ρ2=>.ok f (ρ2.set i .no)
  |_=>.bad) else if no.contains x.C=true then mr x ρ else .bad):=rfl
end
end P
namespace P
open PySem PySem.Spec PyProof.Rows L2 M2 M3 M4
section
variable{X:Cx}{cm:String->Addr}{E:L2.St->XK}{y:Str}{Dn:String}{yp hpos:Pos}{b₀:Stmt}{suite:List Stmt}{rest:List ExceptHandler}{yes no:List String}{mh:M Fl}{mr:MH}
end
end P
namespace P
open PySem PySem.Spec PyProof.Rows L2 M2 M3 M4
section
variable{X:Cx}{cm:String->Addr}{K:KK}
def PJ:List V->Hp->VK->Prop:=λxs H Q=>(∃i,xs=[.int i]/\Q (.int i) H)\/∃k,xs=[.bl k]/\Q (.int (if k then 1 else 0)) H
def Yk:Ń X (.type "int") PJ:=CZ
def Hv:List PV->Option PV
 | [.int i]=>some (.int i)
 | [.bl k]=>some (.int (if k then 1 else 0))
 |_=>none
def Yl:bG K PJ Hv:=by
 intro c F H σ ρ ps pv vs Q rel r e k
 unfold Hv at e
 split at e
 ·cases e
  obtain⟨v,rfl,r1⟩:=Dq r
  cases r1.int
  exact .inl ⟨_,rfl,k _ F H rel (Same.refl _) (Same.refl _) Rep.int⟩
 ·cases e
  obtain⟨v,rfl,r1⟩:=Dq r
  cases r1.bl
  exact .inr ⟨_,rfl,k _ F H rel (Same.refl _) (Same.refl _) Rep.int⟩
 ·cases e
theorem ſ:∀{ns:List Int} {its:List Value},Vals (ns.map V.int) its->IntsAre its ns
 | [],its,h=>by cases h;exact .nil
 |n::ns,its,h=>by
  cases h with
  |cons r t=>
   obtain⟨k,e⟩:=(show ∃k,_=Value.int n k from r)
   subst e
   exact .cons n k (ſ t)
section
variable{prog:Program}{w:World}{A:Around}{E:Value->Shared->Prop}{s:Shared}{l:Addr}{xs:Array (Int×Tok)}
def wN{Q:Value->Shared->Prop}(hl:s.heap.IsTuple l (intItems xs))
 (h:∀s₂:Shared,s₂= {s with heap:=s.heap.push {cls:=.type "tuple_iterator",data:=.fields #[.ref l,.int 0 0]}}→
   (s₂.heap.IsTupleIter s.heap.objs.size l 0/\s₂.heap.IsTuple l (intItems xs))->(∀b∈[s.heap.objs.size,l],b<s₂.heap.objs.size)->l≠s.heap.objs.size->(∀h':Heap,(∀b o,b∉[s.heap.objs.size]->s₂.heap.get? b=some o->h'.get? b=some o)->∀b o,s.heap.get? b=some o->h'.get? b=some o)->Q (.ref s.heap.objs.size) s₂) :
 wpAny (model prog w) A (pyIter (.ref l)) Q E s:=by
 have hlt:l<s.heap.objs.size:=by obtain⟨_,e,_⟩:=hl;exact Heap.lt_size e
 refine wpAny_pyIter_tuple hl (h _ rfl ⟨⟨_,Heap.get?_push_size _ rfl,rfl,rfl⟩,hl.push _⟩ (λb hb=>?_) (Nat.ne_of_lt hlt) λh' hk b o e=>?_)
 ·show b<(s.heap.push _).objs.size
  rw[Heap.size_push]
  rcases List.mem_cons.mp hb with rfl|hb
  ·exact Nat.lt_succ_self _
  ·rcases List.mem_cons.mp hb with rfl|hb
   ·exact Nat.lt_succ_of_lt hlt
   ·cases hb
 ·refine hk b o (λhm=>?_) (Heap.get?_push_of_some _ e)
  rcases List.mem_cons.mp hm with e1|hm
  ·exact absurd (e1▸Heap.lt_size e) (Nat.lt_irrefl _)
  ·cases hm
def zB{Q:Value->Shared->Prop}(hh:A.handled=none)(hl:s.heap.IsTuple l (intItems xs))(hne:0<xs.size)
 (h:∀v h' tk,(intItems xs)[argBest (λi j=>decide (numAt xs i>numAt xs j)) (xs.size-1)]?=some v->(∀b o,s.heap.get? b=some o->h'.get? b=some o)->Q v {s with heap:=h',toks:=tk}) :
 wpAny (model prog w) A (call (.builtin "max") [.ref l]) Q E s:=by
 refine call_max_walk (wN hl λs₂ e st hfp hlI hk0=>?_)
 subst e
 refine⟨_,_,_,_,_,_,_,rfl,Walks.tuple (A:=A.in1) hh _ l hlI (intItems xs),st,hfp,by simpa[intItems] using hne,CmpOf.ints_gt (numAt xs) (λ_ _=>intItems_at),λv h' tk hP hk=>?_⟩
 exact h v h' tk (by simpa[intItems] using hP) (hk0 h' hk)
end
def Zb6(K:PySem.W.Frag):List V->Hp->VK->Prop:=λxs H Q=>∃(p:Addr) (ns:List Int),xs=[.ref p]/\(ū K H p (ns.map V.int)\/fC K H p (ns.map V.int))/\0<ns.length/\∀M,M∈ns->(∀a∈ns,a<=M)->Q (.int M) H
def zE(hc:X.calm=true):Ń X (.builtin "max") (Zb6 X.K):=by
 intro pins s σ H xs us Q I r h
 obtain⟨p,ns,rfl,hS,hne,q⟩:=h
 obtain⟨u,rfl,ru⟩:=vals1 r
 cases ru
 have fin:∀(ys:Array (Int×Tok)),ns=ys.toList.map (·.1)->0<ys.size->∀v h' tk,(intItems ys)[argBest (λi j=>decide (numAt ys i>numAt ys j)) (ys.size-1)]?=some v->(∀b o,s.heap.get? b=some o->h'.get? b=some o)->EP X pins σ Q v {s with heap:=h',toks:=tk}:=by
  intro ys hns hsz v h' tk hv hk
  obtain⟨t,rfl⟩:=intItems_at hv
  obtain⟨h1,h2⟩:=argBest_gt (numAt ys) (ys.size-1)
  refine⟨.int _,H,I.kept hk,⟨t,rfl⟩,q _ ?_ λa ha=>?_⟩
  ·rw[hns,numAt_eq]
   have hj:argBest (λi j=>decide (numAt ys i>numAt ys j)) (ys.size-1)<(ys.toList.map (·.1)).length:=by rw[List.length_map,Array.length_toList];omega
   rw[List.getD_eq_getElem?_getD,List.getElem?_eq_getElem hj]
   exact List.getElem_mem _
  ·rw[hns] at ha
   obtain⟨j,hj,rfl⟩:=List.mem_iff_getElem.mp ha
   rw[List.length_map,Array.length_toList] at hj
   have:=h2 j (by omega)
   rw[numAt_eq ys j,List.getD_eq_getElem?_getD,List.getElem?_eq_getElem (by rw[List.length_map,Array.length_toList];exact hj)] at this
   exact this
 rcases hS with hS|hS
 ·obtain⟨its,rv,pl,hz⟩:=I.list hS
  have hi:=ſ rv
  obtain⟨ys,e⟩:=hi.allInts.items
  have hns:ns=ys.toList.map (·.1):=by rw[<-hi.numsOf,<-nums_intItems,<-e]
  have hl:=pl.isList
  rw[e] at hl
  have hsz:0<ys.size:=by rw[hns,List.length_map,Array.length_toList] at hne;exact hne
  exact max_intList (show X.A.handled=none from I.ok.hd hc) hl hsz (fin ys hns hsz)
 ·obtain⟨its,rv,pl,hz⟩:=I.tuple hS
  have hi:=ſ rv
  obtain⟨ys,e⟩:=hi.allInts.items
  have hns:ns=ys.toList.map (·.1):=by rw[<-hi.numsOf,<-nums_intItems,<-e]
  have hl:s.heap.IsTuple p its.toArray:=pl
  rw[e] at hl
  have hsz:0<ys.size:=by rw[hns,List.length_map,Array.length_toList] at hne;exact hne
  exact zB (show X.A.handled=none from I.ok.hd hc) hl hsz (fin ys hns hsz)
def Zb7(K:PySem.W.Frag):List V->Hp->VK->Prop:=λxs H Q=>∃(p:Addr) (ns:List Int),xs=[.ref p]/\ū K H p (ns.map V.int)/\0<ns.length/\∀M,M∈ns->(∀a∈ns,M<=a)->Q (.int M) H
def Hw(hc:X.calm=true):Ń X (.builtin "min") (Zb7 X.K):=by
 intro pins s σ H xs us Q I r h
 obtain⟨p,ns,rfl,hS,hne,q⟩:=h
 obtain⟨u,rfl,ru⟩:=vals1 r
 cases ru
 obtain⟨its,rv,pl,hz⟩:=I.list hS
 have hi:=ſ rv
 obtain⟨ys,e⟩:=hi.allInts.items
 have hns:ns=ys.toList.map (·.1):=by rw[<-hi.numsOf,<-nums_intItems,<-e]
 have hl:=pl.isList
 rw[e] at hl
 have hsz:0<ys.size:=by rw[hns,List.length_map,Array.length_toList] at hne;exact hne
 refine min_intList (show X.A.handled=none from I.ok.hd hc) hl hsz λv h' tk hv hk=>?_
 obtain⟨t,rfl⟩:=intItems_at hv
 obtain⟨h1,h2⟩:=argBest_lt (numAt ys) (ys.size-1)
 refine⟨.int _,H,I.kept hk,⟨t,rfl⟩,q _ ?_ λa ha=>?_⟩
 ·rw[hns,numAt_eq]
  have hj:argBest (λi j=>decide (numAt ys i<numAt ys j)) (ys.size-1)<(ys.toList.map (·.1)).length:=by rw[List.length_map,Array.length_toList];omega
  rw[List.getD_eq_getElem?_getD,List.getElem?_eq_getElem hj]
  exact List.getElem_mem _
 ·rw[hns] at ha
  obtain⟨j,hj,rfl⟩:=List.mem_iff_getElem.mp ha
  rw[List.length_map,Array.length_toList] at hj
  have:=h2 j (by omega)
  rw[numAt_eq ys j,List.getD_eq_getElem?_getD,List.getElem?_eq_getElem (by rw[List.length_map,Array.length_toList];exact hj)] at this
  exact this
def intsOf:List PV->Option (List Int)
 | []=>some []
 | .int b::ps=>(intsOf ps).map (b:: ·)
 |_::_=>none
@[simp] theorem jr:∀ns:List Int,intsOf (ns.map PV.int)=some ns
  | []=>rfl
  |n::ns=>by rw[List.map_cons,intsOf,jr ns];rfl
theorem ints_rep{F:Hp}:∀{ps:List PV} {vs:List V} {bs:List Int},Ĕ K F ps vs->intsOf ps=some bs->vs=bs.map V.int
 | [],vs,bs,r,h=>by
   cases h
   cases r.pr
   rfl
 |p::ps,vs,bs,r,h=>by
  cases r.pr with
  |cons r1 t=>
   cases p with
   |int b=>
    unfold intsOf at h
    obtain⟨cs,e,rfl⟩:=Option.map_eq_some_iff.mp h
    rw[ints_rep (Ĕ.of t) e,show _=V.int b from r1]
    rfl
   |_=>cases h
def best(f:Int->Int->Int):List Int->Option Int
 | []=>none
 |n::ns=>some (ns.foldl f n)
theorem foldl_max:∀(ns:List Int) (n:Int),ns.foldl max n∈n::ns/\∀a∈n::ns,a<=ns.foldl max n
 | [],n=>by simp
 |m::ns,n=>by
  obtain⟨h1,h2⟩:=foldl_max ns (max n m)
  rw[List.foldl_cons]
  refine⟨?_,λa ha=>?_⟩
  ·rcases List.mem_cons.mp h1 with e|e
   ·rw[e]
    by_cases h:n<=m
    ·rw[Int.max_eq_right h];simp
    ·rw[Int.max_eq_left (by omega)];simp
   ·simp[e]
  ·have hm:=h2 (max n m) List.mem_cons_self
   rcases List.mem_cons.mp ha with rfl|ha
   ·omega
   ·rcases List.mem_cons.mp ha with rfl|ha
    ·omega
    ·exact h2 a (List.mem_cons_of_mem _ ha)
theorem foldl_min:∀(ns:List Int) (n:Int),ns.foldl min n∈n::ns/\∀a∈n::ns,ns.foldl min n<=a
 | [],n=>by simp
 |m::ns,n=>by
  obtain⟨h1,h2⟩:=foldl_min ns (min n m)
  rw[List.foldl_cons]
  refine⟨?_,λa ha=>?_⟩
  ·rcases List.mem_cons.mp h1 with e|e
   ·rw[e]
    by_cases h:n<=m
    ·rw[Int.min_eq_left h];simp
    ·rw[Int.min_eq_right (by omega)];simp
   ·simp[e]
  ·have hm:=h2 (min n m) List.mem_cons_self
   rcases List.mem_cons.mp ha with rfl|ha
   ·omega
   ·rcases List.mem_cons.mp ha with rfl|ha
    ·omega
    ·exact h2 a (List.mem_cons_of_mem _ ha)
def jJ:List PV->Option PV
 | [.lst ps]=>((intsOf ps).bind (best max)).map .int
 | [.tup ps]=>((intsOf ps).bind (best max)).map .int
 |_=>none
def rY:List PV->Option PV
 | [.lst ps]=>((intsOf ps).bind (best min)).map .int
 |_=>none
def zF:bG K (Zb6 K.K) jJ:=by
 intro c F H σ ρ ps pv vs Q rel r e k
 have fin:∀(ps:List PV) (xs:List V),Ĕ K F ps xs->((intsOf ps).bind (best max)).map PV.int=some pv->∃ns:List Int,xs=ns.map V.int/\0<ns.length/\∀M,M∈ns->(∀a∈ns,a<=M)->Q (.int M) H:=by
  intro ps xs h2 e
  obtain⟨m,em,rfl⟩:=Option.map_eq_some_iff.mp e
  obtain⟨ns,eb,hb⟩:=Option.bind_eq_some_iff.mp em
  cases ns with
  |nil=>cases hb
  |cons n ns=>
   cases hb
   obtain⟨z1,z2⟩:=foldl_max ns n
   refine⟨n::ns,ints_rep h2 eb,by simp,λM m1 m2=>?_⟩
   have:M=ns.foldl max n:=Int.le_antisymm (z2 M m1) (m2 _ z1)
   rw[this]
   exact k _ F H rel (Same.refl _) (Same.refl _) Rep.int
 unfold jJ at e
 split at e
 ·rename_i ps
  obtain⟨v,rfl,r1⟩:=Dq r
  obtain⟨a,xs,rfl,h1,h2⟩:=r1.lst rel.sub
  obtain⟨ns,rfl,hl,hq⟩:=fin ps xs h2 e
  exact⟨a,ns,rfl,.inl h1,hl,hq⟩
 ·rename_i ps
  obtain⟨v,rfl,r1⟩:=Dq r
  obtain⟨a,xs,rfl,h1,h2⟩:=r1.tup rel.sub
  obtain⟨ns,rfl,hl,hq⟩:=fin ps xs h2 e
  exact⟨a,ns,rfl,.inr h1,hl,hq⟩
 ·cases e
def Hx:bG K (Zb7 K.K) rY:=by
 intro c F H σ ρ ps pv vs Q rel r e k
 unfold rY at e
 split at e
 ·rename_i ps
  obtain⟨v,rfl,r1⟩:=Dq r
  obtain⟨a,xs,rfl,h1,h2⟩:=r1.lst rel.sub
  obtain⟨m,em,rfl⟩:=Option.map_eq_some_iff.mp e
  obtain⟨ns,eb,hb⟩:=Option.bind_eq_some_iff.mp em
  cases ns with
  |nil=>cases hb
  |cons n ns=>
   cases hb
   obtain⟨z1,z2⟩:=foldl_min ns n
   refine⟨a,n::ns,rfl,by rw[<-ints_rep h2 eb];exact h1,by simp,λM m1 m2=>?_⟩
   have:M=ns.foldl min n:=Int.le_antisymm (m2 _ z1) (z2 M m1)
   rw[this]
   exact k _ F H rel (Same.refl _) (Same.refl _) Rep.int
 ·cases e
@[simp] theorem Zdk{i:Int}:Hv [.int i]=some (.int i):=rfl
@[simp] theorem Zdl{b:Bool}:Hv [.bl b]=some (.int (if b then 1 else 0)):=rfl
@[simp] theorem Nj{ps:List PV}:jJ [.lst ps]=((intsOf ps).bind (best max)).map .int:=rfl
@[simp] theorem Nk{ps:List PV}:rY [.lst ps]=((intsOf ps).bind (best min)).map .int:=rfl
@[simp] theorem Zdm{f:Int->Int->Int}{n:Int}{ns:List Int}:best f (n::ns)=some (ns.foldl f n):=rfl
end
end P
namespace P
open PySem PySem.Spec PyProof.Rows L2 M2 M3 M4
def Zb8(K:PySem.W.Frag)(C:Addr):Bool:=PySem.W.plainGet K C Str.empty && PySem.W.hasDictIn K C && PySem.W.plainOver K C && PySem.W.findIn K (.ref C) "__setattr__" == some (some (.builtin "object.__setattr__"))
def jt{K:PySem.W.Frag}{C:Addr}(h:Zb8 K C=true):Cls K C:=by
 unfold Zb8 at h
 simp only[Bool.and_eq_true,beq_iff_eq] at h
 exact⟨h.1.1.1,h.1.1.2,h.1.2,h.2⟩
def PK(K:PySem.W.Frag)(C:Addr)(m:Str)(f:Addr):Bool:=PySem.W.findIn K (.ref C) m== some (some (.ref f)) && PySem.W.isFn K (.ref f) && PySem.W.keepIn K (.ref f)
def jK{K:PySem.W.Frag}{C f:Addr}{m:Str}(h:PK K C m f=true):Meth K C m f:=by
 unfold PK at h
 simp only[Bool.and_eq_true,beq_iff_eq] at h
 exact⟨h.1.1,h.1.2,h.2⟩
def mkB(K:PySem.W.Frag)(C f:Addr):Bool:=PySem.W.makesIn K C && PySem.W.findIn K (.ref C) "__init__" == some (some (.ref f)) && PySem.W.isFn K (.ref f) && PySem.W.keepIn K (.ref C)
def pB{K:PySem.W.Frag}{C f:Addr}(h:mkB K C f=true):Mk K C f:=by
 unfold mkB at h
 simp only[Bool.and_eq_true,beq_iff_eq] at h
 exact⟨h.1.1.1,h.1.1.2,h.1.2,h.2⟩
section
variable{ρ:Ĺ}{i n k:Nat}{C:String}{cs:List String}{f m:Str}{mv mo:M PV}{mi:MI}{ms:M (List Slot)}{mb:M Fl}{fL:List (String×MF)}{as:List Slot}{ns:List Str}{ps:List PV}
@[simp] theorem Zdn:iV i cs f mv ρ=(mv ρ).bind fun p ρ1=>match ρ1[i]? with
  |some (.rc C ns ps)=>if cs.contains C=true/\ns.length<1000 then .ok .nx (ρ1.set i (.rc C (putN f ns) (qQ f p ns ps))) else .bad
  |_=>.bad:=rfl
@[simp] theorem Zdo:bL n k C mb as=if as.length+1=n then IR.of (mb (.rc C [] []::startP (k-1) as)) else .bad:=rfl
@[simp] theorem Ze6{C:String}:IR.of (.ok .nx (.rc C ns ps::ρ))=.ok ns ps:=rfl
@[simp] theorem Zdp:bh C mi ms ρ=(ms ρ).bind fun as ρ1=>match mi as with
  | .ok ns ps=>.ok (.ins C ns ps) ρ1
  | .exc x=>.exc x ρ1
  | .bad=>.bad:=rfl
@[simp] theorem Ze7:ń cs f (.ins C ns ps)=if cs.contains C=true then(ns.zip ps).lookup f else none:=rfl
@[simp] theorem Nm:oZ m fL mo ms ρ=(mo ρ).bind fun p ρ1=>match p with
  | .ins C ns ps=>match fL.lookup C with
    |some mf=>if ns.contains m=true then .bad else(ms ρ1).bind λas ρ2=>match mf (.sh (.ins C ns ps)::as) with
     | .ret r=>.ok r ρ2
     | .exc x=>.exc x ρ2
     | .bad=>.bad
    |none=>.bad
  |_=>.bad:=rfl
end
end P
namespace M3
open PySem PySem.Spec PyProof.Rows L2 M2
section
variable{X:Cx}{elt tg iter:Expr}{ifs:List Expr}{scope:Scope}{pos:Pos}{wi:TI}{g:TG}{tt:TT}{te:TE}
def Np{iv:Nat}{y:Str}{py spos:Pos}(hN:X.N.Nodup)(hiN:X.N[iv]?=some y)(hy:X.env.scope.names.lookup y=some .local)(hsw:swapsWith (.ListComp elt [⟨tg,iter,ifs,0⟩] scope pos) (some (.Name y py)) spos.line X.env=pure true)(N':List Str)(js:List Nat)(nl:Nat)(sc:Scope)(hsc:X.env.scope=sc)(hcalm:X.calm=true)
 (hi:PI X.ō tg iter wi)(hg:∀cl C s H fp,PG (cj X.ō N' scope cl C s H fp) tg g)(ht:∀cl C s H fp,Ed (cj X.ō N' scope cl C s H fp) ifs tt)(he:∀cl C s H fp,PE (cj X.ō N' scope cl C s H fp) elt te)
 (hcap:cQ X.ō sc scope N' js)(hlen:js.length+nl=N'.length:=by rfl)
 (hk:scope.kind=.function:=by rfl)(hcell:∀y∈scope.names,y.2=.cell->scope.names.lookup y.1=some .cell:=by decide +kernel)(hnames:∀y∈scope.names,y.2=.local->scope.names.lookup y.1=some .local:=by decide +kernel)
 (hfree:∀y∈scope.names,y.2=.free->(sc.names.lookup y.1=some .cell\/sc.names.lookup y.1=some .free):=by decide +kernel)
 (hs:∀x,foldedSetIterable iter X.env x=pure x:=by intro _;rfl) :
 PS X.ō (.Assign [.Name y py] (.ListComp elt [⟨tg,iter,ifs,0⟩] scope pos) spos) (λD σ H=>FN js nl wi g tt te σ H λv H'=>D.nx (σ.set iv (some v)) H'):=by
 intro pins s σ H D I h
 obtain⟨cl0,c1,c2,c3⟩:=dF (scope:=scope) (env:=X.ō.env) λy hy hf=>I.ok.has y.1 (by
  have:=hfree y hy hf
  rw[<-hsc] at this
  exact this)
 rw[exec_Assign_Name_used _ _ _ _ (show swapsWith _ _ _ X.ō.env=pure true from hsw)]
 refine wpAny_bind (wpAny_standAt (wpAny_bind ?_))
 show wpAny _ X.A (do let _ <-comprehension (.ListComp elt [⟨tg,iter,ifs,0⟩] scope pos) scope X.ō.env _ (newList []) false (eval iter X.ō.env) (some (assign (.Name y py) X.ō.env))) _ _ s
 refine wpAny_bind (wpAny_mono (wpAny_comprehension_free (Q:=λ_ s'=>SP X.ō pins D .next s') (use:=some (assign (.Name y py) X.ō.env)) rfl hs c1 hk hnames (ł (hi pins s σ H _ I h) λv s1 h1=>ł h1 λitv s2 h2=>?_)) (λ_ s' hq=>wpAny_pure (wpAny_pure hq)) λ_ _ e=>e)
 obtain⟨it,fp,tn,J,H2,e,I2,T,st2,f2,q2⟩:=h2
 subst e
 refine wpAny_newObj_type (iH (λh₁ hns₁ old Xe=>?_))
 dsimp only at hns₁ old Xe ⊢
 generalize Xf:s2.heap.push {cls:=.type "list",dict:=none,data:=.seq ([]:List Value).toArray}=aO at hns₁ old Xe ⊢
 have hD:H2 s2.heap.objs.size=none:=I2.hok.fresh (Nat.le_refl _)
 have I3:Inv X.ō pins σ (upd H2 s2.heap.objs.size (.lst [])) {s2 with heap:=aO}:=by
  rw[<-Xf]
  exact I2.laid (t':=s2.toks) (λb u e=>Heap.get?_push_of_some _ e) (Nat.le_refl _) ⟨Nat.zero_le _,[],0,.nil,Heap.get?_push_size _ rfl⟩
 have Lq:∀b∈fp,b<s2.heap.objs.size:=λb hb=>by
  obtain⟨o,ho,_⟩:=T.obj 0 _ st2 b hb
  exact Heap.lt_size ho
 have Xg:aO.objs.size=s2.heap.objs.size+1:=by rw[<-Xf,Heap.size_push]
 have f3:∀b∈fp,b_ X.ō pins (upd H2 s2.heap.objs.size (.lst [])) b:=λb hb=>by
  obtain⟨g0,g1⟩:=f2 b hb
  exact⟨by rw[ċ (Nat.ne_of_lt (Lq b hb))];exact g0,g1⟩
 have B:=FP (X:=X.ō) (cl:=cl0) hcell c2 c3 (λx c e=>by
  obtain⟨v,o,ho,_⟩:=I3.cell x c e
  exact Heap.lt_size ho) Xe
 generalize cellsFrom (aO.objs.size+1) scope.names cl0=cl at B ⊢
 obtain⟨W,⟨m0,w0⟩,turn⟩:=q2 s2.heap.objs.size hD
 have I4:=rG (X:=X.ō) (N':=N') (js:=js) (nl:=nl) (sc:=sc) (scope:=scope) (cl:=cl) (fp:=fp) (h':=h₁) (tk:=s2.toks) hsc hk hcap hlen B I3 f3 (λb hb=>by show b<aO.objs.size;rw[Xg];exact Nat.lt_succ_of_lt (Lq b hb)) hns₁ old
 have st4:tn 0 h₁:= T.keep 0 _ _ st2 λb hb o e=>old b o (by rw[<-Xf];exact Heap.get?_push_of_some _ e)
 have fr4:∀b∈fp,(upd H2 s2.heap.objs.size (.lst [])) b=none:=λb hb=>(f3 b hb).1
 have stat:∀{H':Hp},(∀b∈fp,H' b=none)->∀b∈fp,b_ (cj X.ō N' scope cl aO.objs.size {s2 with heap:=aO} (upd H2 s2.heap.objs.size (.lst [])) fp) [] H' b:=fun{H'} hn b hb=>by
  obtain⟨g0,g1,g2,g3,g4,g5⟩:=f3 b hb
  refine⟨hn b hb,Nat.ne_of_lt (by show b<aO.objs.size;rw[Xg];exact Nat.lt_succ_of_lt (Lq b hb)),λz=>?_,.inl hb,λx c e=>by
   rcases B.at_ x c e with⟨q,_⟩|⟨q,_⟩
   ·exact g4 x c q
   ·exact Nat.ne_of_gt (Nat.lt_trans (by show b<aO.objs.size;rw[Xg];exact Nat.lt_succ_of_lt (Lq b hb)) q),λp hp=>absurd hp (by simp[cj])⟩
  rcases List.mem_cons.mp (I3.nY b z) with z|z
  ·exact g1 z
  ·exact g2 z
 have loop:∀s₃:Shared,s₃= {s2 with heap:=h₁}->
  codeAny (model X.prog X.w) X.A (.compLoop (.ListComp elt [⟨tg,iter,ifs,0⟩] scope pos) 0 (.ref it) (.ref s2.heap.objs.size) (compEnvC scope cl aO.objs.size X.ō.env))
   (compPost (model X.prog X.w) X.A X.ō.xe (some (assign (.Name y py) X.ō.env)) (λ_ s'=>SP X.ō pins D .next s') (.ref s2.heap.objs.size) aO.objs.size) s₃:= by
  rintro s₃ rfl
  refine jC (λn s'=>∃i σ' H',Inv (cj X.ō N' scope cl aO.objs.size {s2 with heap:=aO} (upd H2 s2.heap.objs.size (.lst [])) fp) [] σ' H' s'/\tn i s'.heap/\(∀b∈fp,H' b=none)/\W i n σ' H') ?_ m0 ⟨0,_,_,I4,st4,fr4,w0⟩
  rintro n s5 ⟨i,σ5,H5,I5,Ky,Wh,w5⟩
  rcases turn i n σ5 H5 w5 with⟨stop,qn⟩|⟨go,N,hN,step⟩
  ·refine ł (T.done (cj X.ō N' scope cl aO.objs.size {s2 with heap:=aO} (upd H2 s2.heap.objs.size (.lst [])) fp) rfl rfl rfl hcalm i [] s5 σ5 H5 (λ_ _=>False) I5 (stat Wh) Ky stop) λr s6 ⟨hr,I6⟩=>?_
   subst hr
   obtain⟨m,hm,_⟩:=I6.loc
   have I7:Inv X.ō pins σ H5 s6:=oE (h':=s6.heap) I3 f3 I6 (λb u hb e=>e)
   have hCL:aO.objs.size≠X.ō.env.locals:=Nat.ne_of_gt I3.lt
   have hcC:∀x c,X.ō.env.cells.lookup x=some c->c≠aO.objs.size:=λx c e z=>by
    obtain⟨v,o,ho,_⟩:=I3.cell x c e
    exact absurd (Heap.lt_size ho) (by rw[z];exact Nat.lt_irrefl _)
   have hpC:∀p∈X.ō.pn++pins,p.1≠aO.objs.size:=λp hp z=>by
    have:=Heap.lt_size (I3.pin p hp).1
    rw[z] at this
    exact Nat.lt_irrefl _ this
   have hnC:H5 aO.objs.size=none:=I6.free
   refine wpAny_assign_Name (qX (X:=X.ō) (i:=iv) I7 hN hiN (.inl hy) (v:=.ref s2.heap.objs.size) rfl (λs8 I8 ⟨a8,sb8,ha8⟩=>?_) (.inr hy))
   have ne8:aO.objs.size≠a8:=by
    rcases ha8 with rfl|ha8
    ·exact hCL
    ·exact λz=>hcC _ _ ha8 z.symm
   refine⟨m,hm.sameBut sb8 ne8,λh' hs'=>⟨_,H5,?_,qn⟩⟩
   have kp:∀b o,b≠aO.objs.size->s8.heap.get? b=some o->h'.get? b=some o:=λb o hb e=>hs'.extBut b o hb e
   have kp':∀b o,b∉[aO.objs.size]->s8.heap.get? b=some o->h'.get? b=some o:=λb o hb e=>kp b o (λz=>hb (by rw[z];exact List.mem_cons_self)) e
   refine I8.call' (ch:=[aO.objs.size]) (s':={s8 with heap:=h'}) rfl ⟨λb o e _ _ hx=>kp' b o hx e,λb o e _ _ hx=>⟨o.slots,kp' b o hx e⟩,λb o _ n _=>n,λb o e hx=>⟨o,kp' b o hx e⟩,λ_ _ q=>q,λ_ _ _ q=>q,λ_ ps q=>q⟩ (Bh I8.hok hnC kp) I8.bare λb hb=>?_
   cases List.mem_singleton.mp hb
   exact⟨.inr I3.sz,hCL,hcC,hpC⟩
  ·refine ł (T.item (cj X.ō N' scope cl aO.objs.size {s2 with heap:=aO} (upd H2 s2.heap.objs.size (.lst [])) fp) rfl rfl rfl hcalm i [] s5 σ5 H5 (λ_ _=>False) I5 (stat Wh) Ky go) λr s6 ⟨u,hr,h6⟩=>?_
   subst hr
   refine ł h6 λ_ s7 ⟨x,H7,I7,r7,y7,Xh,fr7⟩=>?_
   have I7':=I7.pinned (stat fr7) (T.obj _ _ Xh)
   have again:∀{s8:Shared} {σ8:L2.St} {H8:Hp},Inv (cj X.ō N' scope cl aO.objs.size {s2 with heap:=aO} (upd H2 s2.heap.objs.size (.lst [])) fp) ([]++jX fp s7.heap) σ8 H8 s8->
    Inv (cj X.ō N' scope cl aO.objs.size {s2 with heap:=aO} (upd H2 s2.heap.objs.size (.lst [])) fp) [] σ8 H8 s8/\tn (i+1) s8.heap/\∀b∈fp,H8 b=none:=fun{s8 σ8 H8} I8=>by
    refine⟨I8.cM,T.keep _ _ _ Xh λb hb o e=>(I8.pin (b,o) (List.mem_append_right _ (List.mem_append_right _ (Ŝ hb e)))).1,λb hb=>?_⟩
    obtain⟨o,e,d⟩:=T.obj _ _ Xh b hb
    exact(I8.pin (b,o) (List.mem_append_right _ (List.mem_append_right _ (Ŝ hb e)))).2.1
   refine ł (hg cl _ _ _ fp _ s7 σ5 H7 x u _ I7' r7 (step x H7 y7)) λ_ s8 ⟨σ8,H8,I8,q8⟩=>?_
   refine ł (ht cl _ _ _ fp _ s8 σ8 H8 _ I8 q8) λc s9 ⟨H9,I9,q9⟩=>?_
   cases c with
   |false=>
    rw[if_neg Bool.false_ne_true] at q9 ⊢
    obtain⟨m',hm',w9⟩:=hN _ _ q9
    obtain⟨a1,a2,a3⟩:=again I9
    exact⟨m',hm',i+1,σ8,H9,a1,a2,a3,w9⟩
   |true=>
    rw[if_pos rfl] at q9 ⊢
    refine ł (he cl _ _ _ fp _ s9 σ8 H9 _ I9 q9) λyv yq ⟨y,H10,I10,r10,ys,e10,l10,w10⟩=>?_
    refine ł (œ _ yq σ8 H10 (.ref s2.heap.objs.size) [y] (.ref s2.heap.objs.size) [yv] (λ_ Xi=>N σ8 Xi) I10 rfl (.cons r10 .nil) ⟨_,ys,y,rfl,rfl,e10,l10,w10⟩) λ_ s11 ⟨v11,Xi,I11,_,w11⟩=>?_
    obtain⟨a1,a2,a3⟩:=again I11
    obtain⟨m',hm',w11⟩:=hN _ _ w11
    exact⟨m',hm',i+1,σ8,Xi,a1,a2,a3,w11⟩
 exact codeAny_compStart_list (loop _ rfl) (T.self _ 0 _ _ _ st4 (loop _ rfl))
end
end M3
namespace P
open PySem PySem.Spec PyProof.Rows L2 M2 M3 M4
section
variable{X:Cx}{cm:String->Addr}{E:L2.St->XK}{elt tg iter:Expr}{ifs:List Expr}{scope:Scope}{pos:Pos}{mi:M (List PV)}{g:Tg}{mt:M Bool}{me:M PV}
theorem PS.ō{st:Stmt}{t:TS}(h:PS X.ō st t):PS X st t:=λpins s σ H D I hw=>
 wpAny_mono (h pins s σ H D (I.wish _) hw) (λ_ _ q=>q.dB) λ_ _ z=>False.elim z
def Ym{i:Nat}{y:Str}{py spos:Pos}(hN:X.N.Nodup)(hi0:X.N[i]?=some y)(hy:X.env.scope.names.lookup y=some .local)(N':List Str)(js:List Nat)(nl:Nat)(sc:Scope)(hsc:X.env.scope=sc)(hcalm:X.calm=true)
 (hi:PI X.ō tg iter (tI (kk X cm) E mi))(hg:∀cl C s H fp,PG (cj X.ō N' scope cl C s H fp) tg (tT (kk X cm) g))(ht:∀cl C s H fp,Ed (cj X.ō N' scope cl C s H fp) ifs (tB (kk X cm) EF mt))(he:∀cl C s H fp,PE (cj X.ō N' scope cl C s H fp) elt (tV (kk X cm) EF me))
 (hcap:cQ X.ō sc scope N' js)(hlen:js.length+nl=N'.length:=by rfl)
 (hk:scope.kind=.function:=by rfl)(hcell:∀y∈scope.names,y.2=.cell->scope.names.lookup y.1=some .cell:=by decide +kernel)(hnames:∀y∈scope.names,y.2=.local->scope.names.lookup y.1=some .local:=by decide +kernel)
 (hfree:∀y∈scope.names,y.2=.free->(sc.names.lookup y.1=some .cell\/sc.names.lookup y.1=some .free):=by decide +kernel)
 (hs:∀x,foldedSetIterable iter X.env x=pure x:=by intro _;rfl)(hsw:swapsWith (.ListComp elt [⟨tg,iter,ifs,0⟩] scope pos) (some (.Name y py)) spos.line X.env=pure true:=by rfl) :
 PS X (.Assign [.Name y py] (.ListComp elt [⟨tg,iter,ifs,0⟩] scope pos) spos) (tS (kk X cm) E (Ī i (ŏ js nl mi g mt me))):=
 PS.wk (PS.ō (Np hN hi0 hy hsw N' js nl sc hsc hcalm (Pa hi) hg ht he hcap hlen hk hcell hnames hfree hs)) fun D σ H ⟨c,F,ρ,rel,h⟩=>wg ⟨c,F,ρ,rel,Ŋ.bind h fun r ρ1 v F1 H1 Ď s1 q h1=>by
   cases r with
   |sh p=>exact h1 _ F1 H1 (Ď.put rfl ⟨v,rfl,q⟩) (Same.refl _)
   |ow ps=>
    obtain⟨a,vs,rfl,q1,q2,q3,q4,q5⟩:=q
    exact h1 _ F1 H1 (Ď.LC ⟨a,vs,rfl,q1,q2,q3,q5⟩ λ_ z=>V.ref.inj z▸q4) (Same.refl _)
   |ot ps qs=>
    obtain⟨p,a,xs,vs,rfl,q0,qx,q1,q2,q3,q4,q5⟩:=q
    exact h1 _ F1 H1 (Ď.LC (s:=.ot ps qs) ⟨p,a,xs,vs,rfl,q0,qx,q1,q2,q3,q5⟩ λ_ z=>nM (ps:=ps) (qs:=qs) z ⟨p,xs,rfl,q0⟩▸q4) (Same.refl _)⟩
end
end P
namespace P
open PySem PySem.Spec PyProof.Rows L2 M2 M3 M4
section
variable{X:Cx}{cm:String->Addr}{K:KK}{E:L2.St->XK}{o e:Expr}{es:List Expr}{name:Str}{apos cpos:Pos}{id:String}{r:V->List V->Hp->VK->Prop}{f:PV->List PV->Option PV}{mo:M PV}{ms:M (List PV)}
end
end P
namespace P
open PySem PySem.Spec PyProof.Rows L2 M2 M3 M4
section
variable{X:Cx}{pins:List (Addr×Obj)}{σ:L2.St}{H:Hp}{s:Shared}{h':Heap}
end
section
variable{X:Cx}{elts:List Expr}{k:Nat}{tp:Pos}
end
def mLs(m:M PV):M (List PV):=λρ=>(m ρ).bind λp ρ1=>match p with
 | .lst ps=>.ok ps ρ1
 |_=>.bad
section
variable{X:Cx}{cm:String->Addr}{E:L2.St->XK}{e:Expr}{m:M PV}
@[simp] theorem Zfy{ρ:Ĺ}:mLs m ρ=(m ρ).bind fun p ρ1=>match p with
  | .lst ps=>.ok ps ρ1
  |_=>.bad:=rfl
end
end P
namespace P
open PySem PySem.Spec PyProof.Rows L2 M2 M3 M4
def Zb9{X:Cx}:PIp X .BitOr (ipI λi j=>Builtin.bitOr i j):=by
 intro pins s σ H x y v u Q I r1 r2 h
 obtain⟨i,j,e1,e2,q⟩:=h
 subst e1;subst e2
 obtain⟨t,rfl⟩:=r1
 obtain⟨t',rfl⟩:=r2
 exact ior_int ⟨.int _,H,I.tok _,⟨_,rfl⟩,q⟩
def wO(i:Nat)(m:M PV):M Fl:=λρ=>match ρ[i]? with
 |some (.sh (.int _))=>(m ρ).bind λq ρ1=>match ρ1[i]?,q with
  |some (.sh (.int k)),.int j=>.ok .nx (ρ1.set i (.sh (.int (Builtin.bitOr k j))))
  |_,_=>.bad
 |_=>.bad
@[simp] theorem Zdq{i:Nat}{m:M PV}{ρ:Ĺ}:wO i m ρ=(match ρ[i]? with
  |some (.sh (.int _))=>(m ρ).bind λq ρ1=>match ρ1[i]?,q with
   |some (.sh (.int k)),.int j=>.ok .nx (ρ1.set i (.sh (.int (Builtin.bitOr k j))))
   |_,_=>.bad
  |_=>.bad):=rfl
section
variable{X:Cx}{cm:String->Addr}{E:L2.St->XK}{e a b:Expr}{m ma mb:M PV}{pos:Pos}
def uE{K:KK}{F:Hp}{i:Int}{v:V}(h:Rep K F (.int i) v):v=.int i:=by unfold Rep at h;exact h
def Hy{i:Nat}{x:Str}{pos':Pos}(hN:X.N.Nodup)(hi:X.N[i]?=some x)(hx:Loc X.env.scope x)(he:PE X e (tV (kk X cm) E m))(hf:X.fn x=true\/X.env.scope.names.lookup x=some .local:=by first|exact .inl rfl|exact .inr rfl|assumption) :
 PS X (.AugAssign (.Name x pos') .BitOr e pos) (tS (kk X cm) E (wO i m)):=PS.wk (Wd hN hi hx he Zb9 hf) λD σ H ⟨c,F,ρ,rel,h⟩=>by
 unfold wO at h
 cases e1:ρ[i]? with
 |none=>rw[e1] at h;exact h.elim
 |some sl=>
  rw[e1] at h
  cases sl with
  |sh p=>
   cases p with
   |int k0=>
    obtain⟨v,h1,h2⟩:=rel.slot i _ e1
    cases uE h2
    refine⟨.int k0,at_of h1,c,F,ρ,rel,Ŋ.bind h λq ρ1 u F1 H1 Ď s1 rq h1'=>?_⟩
    cases e2:ρ1[i]? with
    |none=>simp only[e2] at h1';exact h1'.elim
    |some sl2=>
     simp only[e2] at h1'
     cases sl2 with
     |sh p2=>
      cases p2 with
      |int k=>
       cases q with
       |int j=>
        obtain⟨v2,w1,w2⟩:=Ď.slot i _ e2
        cases uE w2
        rw[h1] at w1
        cases w1
        cases uE rq
        exact⟨k0,j,rfl,rfl,h1' _ F1 H1 (Ď.put rfl ⟨_,rfl,Rep.int⟩) (Same.refl _)⟩
       |_=>exact h1'.elim
      |_=>exact h1'.elim
     |_=>exact h1'.elim
   |_=>exact h.elim
  |_=>exact h.elim
end
section
variable{X:Cx}{K:KK}
end
end P
namespace P
open PySem PySem.Spec PyProof.Rows L2 M2 M3 M4
section
variable{prog:Program}{w:World}{A:Around}{E:Value->Shared->Prop}{s:Shared}
end
section
variable{prog:Program}{w:World}{A:Around}{E:Value->Shared->Prop}{s:Shared}
end
section
variable{prog:Program}{w:World}{A:Around}{E:Value->Shared->Prop}{s:Shared}
end
def PL(b:Bool)(h:Heap)(it l:Addr)(i:Nat):Prop:=if b=true then h.IsTupleIter it l i else h.IsListIter it l i
def nmB(b:Bool):String:=if b=true then "tuple_iterator" else "list_iterator"
def PL.ex{b:Bool}{h:Heap}{it l:Addr}{i:Nat}(x:PL b h it l i):∃o,h.get? it=some o/\o.cls=.type (nmB b)/\o.data=.fields #[.ref l,.int i 0]:=by
 cases b with
 |true=>exact x
 |false=>exact x
section
variable{X:Cx}{pins:List (Addr×Obj)}{σ:L2.St}{H:Hp}{s:Shared}
end
section
variable{prog:Program}{w:World}{A:Around}{E:Value->Shared->Prop}{s:Shared}
end
section
variable{X:Cx}{elts:List Expr}{k:Nat}{tp:Pos}
end
section
variable{X:Cx}{cm:String->Addr}{E:L2.St->XK}{e e2:Expr}
end
end P
namespace P
open PySem PySem.Spec PyProof.Rows L2 M2 M3 M4
def Zb_(K:PySem.W.Frag)(neg:Bool):R2:=λx y H Q=>∃d es a xs,Rp K H d x/\y=.ref a/\(ū K H a xs\/fC K H a xs)/\kE K H es xs/\d.canLay0=true/\PyData.canLayAll0 es=true/\d.depth<=60/\Q (.bl (if neg then !(es.any λe=>PyData.eqv e d) else es.any λe=>PyData.eqv e d)) H
open Classical in
noncomputable def Kg(h:Heap)(d:PyData)(y:Value):Bool:=if ∃e as,Reads h y e as/\e.canLay0=true/\PyData.eqv e d=true then true else false
def Hz{h:Heap}{d e:PyData}{y:Value}{as:List Addr}(r:Reads h y e as)(hc:e.canLay0=true):Kg h d y=PyData.eqv e d:=by
 unfold Kg
 cases q:PyData.eqv e d with
 |true=>rw[if_pos ⟨e,as,r,hc,q⟩]
 |false=>
  rw[if_neg]
  rintro ⟨e',as',r',hc',q'⟩
  have:=SeqAt.Reads.unique e e' y as as' hc r r'
  subst this
  rw[q] at q'
  cases q'
theorem uF{h:Heap}{d:PyData}:∀{us:List Value} {es:List PyData} {as:List Addr},ReadsAll h us es as->PyData.canLayAll0 es=true->us.any (Kg h d)=es.any λe=>PyData.eqv e d
 |_,_,_,.nil,_=>rfl
 |_,_,_,.cons r rs,hc=>by
  unfold PyData.canLayAll0 at hc
  rw[Bool.and_eq_true] at hc
  rw[List.any_cons,List.any_cons,Hz r hc.1,uF rs hc.2]
theorem uG{A:Around}{s:Shared}{d:PyData}{v:Value}{bs:List Addr}(rv:Reads s.heap v d bs)(hd:d.canLay0=true)(hu:A.units+d.depth<cLine):∀{us:List Value} {es:List PyData} {as:List Addr},ReadsAll s.heap us es as->PyData.canLayAll0 es=true->∀u∈us,SeqAt.EqAt A s u v (Kg s.heap d u)
 |_,_,_,.nil,_=>λu hu=>by cases hu
 |_,_,_,.cons r rs,hc=>λu hm=>by
  unfold PyData.canLayAll0 at hc
  rw[Bool.and_eq_true] at hc
  rcases List.mem_cons.mp hm with rfl|hm
  ·rw[Hz r hc.1]
   exact SeqAt.eqAt_reads _ _ A s _ _ _ _ r rv hc.1 hd (by omega)
  ·exact uG rv hd hu rs hc.2 u hm
section
variable{X:Cx}
def Dz(hu:X.A.units+64<cLine):Š X (compareOp .NotIn) (Zb_ X.K true):=by
 intro pins s σ H x y v u Q I rx ry h
 obtain⟨d,es,a,xs,h1,rfl,hq,h3,h4,h5,h6,q⟩:=h
 cases ry
 obtain⟨as,ra⟩:=Rp.reads I d x v h1 rx
 have hu1:X.A.in1.units+d.depth<cLine:=by
  have:X.A.in1.units=X.A.units+1:=rfl
  omega
 rcases hq with hq|hq
 ·obtain⟨its,r,pl,hz⟩:=I.list hq
  obtain⟨bs,rb⟩:=kE.reads I es xs its h3 r
  refine SeqAt.notIn_listAt (Kg s.heap d) pl.isList (λw hw=>uG ra h4 hu1 rb h5 w (by simpa using hw)) ⟨.bl _,H,I,rfl,?_⟩
  rw[show its.toArray.any (Kg s.heap d)=its.any (Kg s.heap d) by simp,uF rb h5]
  exact q
 ·obtain⟨its,r,pl,hz⟩:=I.tuple hq
  obtain⟨bs,rb⟩:=kE.reads I es xs its h3 r
  refine SeqAt.notIn_tupleAt (Kg s.heap d) pl (λw hw=>uG ra h4 hu1 rb h5 w (by simpa using hw)) ⟨.bl _,H,I,rfl,?_⟩
  rw[show its.toArray.any (Kg s.heap d)=its.any (Kg s.heap d) by simp,uF rb h5]
  exact q
end
def inD(neg:Bool)(p q:PV):Option PV:=match q with
 | .lst ps=>if ŭ p && aD ps && decide (dep p<=60) then some (.bl (if neg then !(ps.any λy=>eqB y p) else ps.any λy=>eqB y p)) else none
 | .tup ps=>if ŭ p && aD ps && decide (dep p<=60) then some (.bl (if neg then !(ps.any λy=>eqB y p) else ps.any λy=>eqB y p)) else none
 |_=>none
theorem uH{p:PV}(h:ŭ p=true):∀{ps:List PV},aD ps=true->(dg ps).any (λe=>PyData.eqv e (toD p))=ps.any λy=>eqB y p
 | [],_=>rfl
 |y::ps,hp=>by
  unfold aD at hp
  rw[Bool.and_eq_true] at hp
  unfold dg
  rw[List.any_cons,List.any_cons,uf y p hp.1 h,uH h hp.2]
def Yn{K:KK}{neg:Bool}:iI K (Zb_ K.K neg) (inD neg):=by
 intro c F H σ ρ p q pv v u Q rel r1 r2 e k
 unfold inD at e
 split at e
 ·rename_i ps
  split at e
  ·rename_i hc
   rw[Bool.and_eq_true,Bool.and_eq_true,decide_eq_true_eq] at hc
   cases e
   obtain⟨a,xs,rfl,h1,h2⟩:=r2.lst rel.sub
   refine⟨toD p,dg ps,a,xs,ig rel.sub hc.1.1 r1,rfl,.inl h1,kE.same rel.sub _ _ (h_ ps xs hc.1.2 h2),dN p hc.1.1,gn ps hc.1.2,by rw[dO];exact hc.2,?_⟩
   rw[uH hc.1.1 hc.1.2]
   exact k _ F H rel (Same.refl _) (Same.refl _) Rep.bl
  ·cases e
 ·rename_i ps
  split at e
  ·rename_i hc
   rw[Bool.and_eq_true,Bool.and_eq_true,decide_eq_true_eq] at hc
   cases e
   obtain⟨a,xs,rfl,h1,h2⟩:=r2.tup rel.sub
   refine⟨toD p,dg ps,a,xs,ig rel.sub hc.1.1 r1,rfl,.inr h1,kE.same rel.sub _ _ (h_ ps xs hc.1.2 h2),dN p hc.1.1,gn ps hc.1.2,by rw[dO];exact hc.2,?_⟩
   rw[uH hc.1.1 hc.1.2]
   exact k _ F H rel (Same.refl _) (Same.refl _) Rep.bl
  ·cases e
 ·cases e
def zG{α:Type}(m:M α):M α:= λρ=>match m ρ with
 | .ok a ρ'=>.ok a ρ'
 |_=>.bad
@[simp] theorem Ze8{α:Type}{m:M α}{ρ:Ĺ}:zG m ρ=(match m ρ with
  | .ok a ρ'=>.ok a ρ'
  |_=>.bad):=rfl
def PN{X:Cx}{cm:String->Addr}{E:L2.St->XK}{tg l:Expr}{mi:M (List PV)}(h:PI X tg l (tI (kk X cm) EF mi)):PI X tg l (tI (kk X cm) E (zG mi)):=λpins s σ H R I hh=>h pins s σ H R I (by
 obtain⟨c,F,ρ,rel,h'⟩:=hh
 refine⟨c,F,ρ,rel,?_⟩
 unfold zG at h'
 cases e:mi ρ with
 |ok a ρ'=>rw[e] at h';exact h'
 |exc x ρ'=>rw[e] at h';exact h'.elim
 |bad=>rw[e] at h';exact h')
end P
namespace P
open PySem PySem.Spec PyProof.Rows L2 M2 M3 M4
def nU{x:Int}{n:Nat}(h1: -(2 ^ n:Int)<x)(h2:x<2 ^ n):bits x<=n:=by
 refine intBits_le_iff.mpr ?_
 have e:((2 ^ n:Nat):Int)=(2:Int) ^ n:=by simp
 have:((x.natAbs:Nat):Int)<((2 ^ n:Nat):Int):=by rw[e];omega
 omega
def Zca{x y:Int}(h:y≠0)(h1: -18446744073709551616<y)(h2:y<18446744073709551616):iR x y=true:=BR h (Nat.le_trans (nU (n:=64) (by omega) (by omega)) (by decide))
@[simp] theorem Zdr{x:Int}{n:Nat}(h:n≠0)(h2:n<18446744073709551616):iR x (no_index (OfNat.ofNat n):Int)=true:=by
  have e:(no_index (OfNat.ofNat n):Int)=(n:Int):=rfl
  rw[e]
  exact Zca (by omega) (by omega) (by omega)
@[simp] theorem Zcb{x:Int}{n:Nat}(h:n<18446744073709551616):ĺ x (no_index (OfNat.ofNat n):Int)=true:=by
  have e:(no_index (OfNat.ofNat n):Int)=(n:Int):=rfl
  rw[e]
  exact mul_r (by omega) (by omega)
@[simp] theorem Zcc{x:Int}{n:Nat}(h:n<18446744073709551616):ĺ (no_index (OfNat.ofNat n):Int) x=true:=by
  have e:(no_index (OfNat.ofNat n):Int)=(n:Int):=rfl
  rw[e]
  exact aF (by omega) (by omega)
@[simp] theorem Zds{m n:Nat}(h:m<18446744073709551616)(h2:n≤1000000):oR (no_index (OfNat.ofNat m):Int) (no_index (OfNat.ofNat n):Int)=true:=by
  have e:(no_index (OfNat.ofNat m):Int)=(m:Int):=rfl
  have e2:(no_index (OfNat.ofNat n):Int)=(n:Int):=rfl
  rw[e,e2]
  unfold oR
  simp
  omega
@[simp] theorem Zcd{x:Int}{n:Nat}:x.fdiv (no_index (OfNat.ofNat n):Int)=x / (no_index (OfNat.ofNat n):Int):=Int.fdiv_eq_ediv_of_nonneg x (Int.natCast_nonneg n)
@[simp] theorem Zce{x:Int}{n:Nat}:x.fmod (no_index (OfNat.ofNat n):Int)=x % (no_index (OfNat.ofNat n):Int):=Int.fmod_eq_emod_of_nonneg x (Int.natCast_nonneg n)
end P
namespace P
open PySem PySem.Spec PyProof.Rows L2 M2 M3 M4
def add_l{xs ys:List PV}(h:xs.length+ys.length<=16777216):ğ (.lst xs) (.lst ys)=some (.ow (xs++ys)):=by
 unfold ğ
 simp[h]
def Yo{x y z w:Int}:eqB (.tup [.int x,.int y]) (.tup [.int z,.int w])=(decide (x=z) && decide (y=w)):=by
 rw[eqB.eq_def]
 show dM [.int x,.int y] [.int z,.int w]=_
 rw[dM.eq_def]
 show(eqB (.int x) (.int z) && dM [.int y] [.int w])=_
 rw[dM.eq_def]
 show(eqB (.int x) (.int z) && (eqB (.int y) (.int w) && dM [] []))=_
 have h1:eqB (.int x) (.int z)=decide (x=z):=by rw[eqB.eq_def];rfl
 have h2:eqB (.int y) (.int w)=decide (y=w):=by rw[eqB.eq_def];rfl
 have h3:dM [] []=true:=by rw[dM.eq_def]
 rw[h1,h2,h3,Bool.and_true]
mutual
theorem wQ:∀p:PV,ŭ p=true->eqB p p=true
 | .non,_=>by unfold eqB;rfl
 | .bl b,_=>by unfold eqB;simp
 | .int i,_=>by unfold eqB;simp
 | .str x,_=>by unfold eqB;simp
 | .lst xs,h=>by unfold ŭ at h;unfold eqB;exact k_ xs h
 | .tup xs,h=>by unfold ŭ at h;unfold eqB;exact k_ xs h
 | .ins _ _ _,h=>by simp[ŭ] at h
 | .xc _ _ _,h=>by simp[ŭ] at h
 | .ty _,h=>by simp[ŭ] at h
 | .cls _,h=>by simp[ŭ] at h
theorem k_:∀ps:List PV,aD ps=true->dM ps ps=true
 | [],_=>by unfold dM;rfl
 |p::ps,h=>by
  unfold aD at h
  rw[Bool.and_eq_true] at h
  unfold dM
  rw[wQ p h.1,k_ ps h.2]
  rfl
end
def DG{p:PV}(h:ŭ p=true)(hd:dep p<=60):Œ p p=some (.bl true):=by
 unfold Œ qN
 rw[h,wQ p h,decide_eq_true (by omega:min (dep p) (dep p)<=60)]
 rfl
def gw{a b:Str}(ha:PyData.strOk a=true)(hb:PyData.strOk b=true):Œ (.str a) (.str b)=some (.bl (decide (a=b))):=by
 have h:eqB (.str a) (.str b)=decide (a=b):=by unfold eqB;rfl
 unfold Œ qN
 rw[show ŭ (.str a)=true by unfold ŭ;exact ha,show ŭ (.str b)=true by unfold ŭ;exact hb,h]
 rfl
end P
namespace P
open PySem PySem.Spec PyProof.Rows L2 M2 M3 M4
section
variable{g:Tg}{mb:M Fl}{mt:M Bool}{me:M PV}
theorem iy{α β:Type}(c:α->PV)(step:β->α->β)(J:β->Ĺ->Prop):∀(xs:List α),(∀x∈xs,∀b ρ,J b ρ->∃ρ1 ρ2,g (c x) ρ=some ρ1/\mb ρ1=.ok .nx ρ2/\J (step b x) ρ2)->∀b ρ,J b ρ->∃ρ',forL g mb (xs.map c) ρ=.ok .nx ρ'/\J (xs.foldl step b) ρ'
 | [],_,b,ρ,h=>⟨ρ,rfl,h⟩
 |x::xs,hs,b,ρ,h=>by
  obtain⟨ρ1,ρ2,h1,h2,h3⟩:=hs x (by simp) b ρ h
  obtain⟨ρ',e,h4⟩:=iy c step J xs (λy hy=>hs y (List.mem_cons_of_mem _ hy)) (step b x) ρ2 h3
  refine⟨ρ',?_,h4⟩
  rw[List.map_cons,forL,h1]
  dsimp only
  rw[h2]
  exact e
theorem Ż{α:Type}(c f:α->PV)(q:α->Bool)(I:Ĺ->Prop):∀(xs:List α) (ρ:Ĺ) (acc:List PV),I ρ->acc.length+xs.length<=16777216->
 (∀x∈xs,∀ρ,I ρ->∃ρ1 ρ2,g (c x) ρ=some ρ1/\mt ρ1=.ok (q x) ρ2/\(q x=false->I ρ2)/\(q x=true->∃ρ3,me ρ2=.ok (f x) ρ3/\I ρ3))->ĸ g mt me (xs.map c) ρ acc=some (acc++(xs.filter q).map f)
 | [],ρ,acc,_,_,_=>by simp[ĸ]
 |x::xs,ρ,acc,h,hz,hs=>by
  obtain⟨ρ1,ρ2,h1,h2,h3,h4⟩:=hs x List.mem_cons_self ρ h
  cases e:q x with
  |true=>
   obtain⟨ρ3,h5,h6⟩:=h4 e
   rw[e] at h2
   rw[List.map_cons,ĸ,h1]
   dsimp only
   rw[h2]
   dsimp only
   rw[h5]
   dsimp only
   rw[if_pos (by simp at hz;omega),Ż c f q I xs ρ3 (acc ++ [f x]) h6 (by simp at hz ⊢;omega) λy hy=>hs y (List.mem_cons_of_mem _ hy)]
   simp[e]
  |false=>
   rw[e] at h2
   rw[List.map_cons,ĸ,h1]
   dsimp only
   rw[h2]
   dsimp only
   rw[Ż c f q I xs ρ2 acc (h3 e) (by simp at hz ⊢;omega) λy hy=>hs y (List.mem_cons_of_mem _ hy)]
   simp[e]
end
end P
namespace P
open PySem PySem.Spec PyProof.Rows L2 M2 M3 M4
def Ze9(K:PySem.W.Frag)(n:Nat)(t:Er):TG:=λv σ H Q=>∃a xs,v=.ref a/\ū K H a xs/\xs.length=n/\t xs σ H Q
section
variable{X:Cx}{cm:String->Addr}{pos:Pos}
def Yp{es:List Expr}{k:Nat}{t:Er}{n:Nat}(hc:X.calm=true)(h:yj X es t)
 (hn:(assignEach es X.env).length=n:=by rfl)(hst:(assignEach es X.env).findIdx? (·.1)=none:=by rfl):PG X (.Tuple es k pos) (Ze9 X.K n t):=by
 intro pins s σ H v u Q I r hw
 obtain⟨a,xs,e1,hq,hl,hw⟩:=hw
 subst e1
 cases r
 obtain⟨its,rv,ht,hz⟩:=I.list hq
 rw[assign_Tuple]
 refine wpAny_bind (wpAny_standAt ?_)
 unfold unpack
 rw[show(assignEach es X.env).length=its.toArray.size by simp[hn,<-hl,rv.length],hst]
 refine wpAny_bind (wpAny_holding (PySem.W.kun_itemsOf (I.ok.hd hc) ht.isList λh' hx=>?_))
 have I1:Inv X pins σ H {s with heap:=h'}:=I.kept (t':=s.toks) λb o e=>hx b o (Nat.ne_of_lt (Heap.lt_size e)) e
 exact h pins _ σ H xs _ Q I1 (by simpa using rv) hw
def gS(n:Nat)(gs:Ei):Tg:=λp ρ=>match p with
 | .tup ps=>if ps.length=n then gs ps ρ else none
 | .lst ps=>if ps.length=n then gs ps ρ else none
 |_=>none
@[simp] theorem Ze_{n:Nat}{gs:Ei}{ps:List PV}{ρ:Ĺ}:gS n gs (.tup ps) ρ=if ps.length=n then gs ps ρ else none:=rfl
@[simp] theorem Zfa{n:Nat}{gs:Ei}{ps:List PV}{ρ:Ĺ}:gS n gs (.lst ps) ρ=if ps.length=n then gs ps ρ else none:=rfl
def P_{es:List Expr}{k:Nat}{gs:Ei}{n:Nat}(hc:X.calm=true)(h:yj X es (tTs (kk X cm) gs))(hn:(assignEach es X.env).length=n:=by rfl)(hst:(assignEach es X.env).findIdx? (·.1)=none:=by rfl):PG X (.Tuple es k pos) (tT (kk X cm) (gS n gs)):=by
 intro pins s σ H v u Q I r hw
 obtain⟨c,F,ρ,p,rel,rp,hw⟩:=hw
 cases p with
 |tup ps=>
  unfold Rep at rp
  obtain⟨a,xs,h1,h2,h3⟩:=rp
  unfold gS at hw
  dsimp only at hw
  split at hw
  ·rename_i hl
   exact Eu hc h hn hst pins s σ H v u Q I r ⟨a,xs,h1,Same.tup rel.sub h2,by rw[<-h3.length];exact hl,c,F,ρ,ps,rel,h3,hw⟩
  ·exact hw.elim
 |lst ps=>
  unfold Rep at rp
  obtain⟨a,xs,h1,h2,h3⟩:=rp
  unfold gS at hw
  dsimp only at hw
  split at hw
  ·rename_i hl
   exact Yp hc h hn hst pins s σ H v u Q I r ⟨a,xs,h1,rel.sub.seq h2,by rw[<-h3.length];exact hl,c,F,ρ,ps,rel,h3,hw⟩
  ·exact hw.elim
 |_=>exact hw.elim
end
end P
namespace P
open PySem PySem.Spec PyProof.Rows L2 M2 M3 M4
def Res.DK{α β γ:Type}(r:Res α)(f:α->Ĺ->Res β)(g:β->Ĺ->Res γ):(r.bind f).bind g=r.bind λa ρ=>(f a ρ).bind g:=by cases r<;>rfl
section
variable{X:Cx}{cm:String->Addr}{E:L2.St->XK}{a:Expr}{p p1 pos pos1:Pos}{mr:M (List PV)}
end
end P
namespace P
open PySem PySem.Spec PyProof.Rows L2 M2 M3 M4
section
variable{X:Cx}{cm:String->Addr}{E:L2.St->XK}{e o:Expr}{es:List Expr}{pos:Pos}{m:M Bool}{mo:M RV}{ma:M PV}
@[simp] theorem Zfb{ps qs:List PV}:(RV.ot ps qs).val=.tup (ps ++ [.lst qs]):=rfl
@[simp] theorem Zfc{ps qs:List PV}:(RV.ot ps qs).slot=.ot ps qs:=rfl
end
end P
namespace P
open PySem PySem.Spec PyProof.Rows L2 M2 M3 M4
section
variable{X:Cx}{K:KK}
def Qa(K:PySem.W.Frag):List V->Hp->VK->Prop:=λxs H Q=>Hq K xs H Q\/∃(a:Addr) (C:Addr) (d:Option Addr) (fs:List (Str×V)) (p:Addr) (cs:List Addr) (b:Bool),xs=[.ref a,.ref p]/\H a=some (xo a C d)/\lR H d fs/\ź K C=true/\fC K H p (cs.map V.ref)/\PySem.W.kitAny K (.ref C) (cs.map Value.ref)=some b/\Q (.bl b) H
theorem rZ:∀{cs:List Addr} {its:List Value},Vals (cs.map V.ref) its->its=cs.map Value.ref
 | [],_,.nil=>rfl
 |c::cs,_,.cons r t=>by
  rw[rZ t,show _=Value.ref c from r]
  rfl
def Nq:Ń X (.builtin "isinstance") (Qa X.K):=by
 intro pins s σ H xs us Q I r h
 rcases h with h|⟨a,C,d,fs,p,cs,b,rfl,ha,hD,q,hp,hk,hQ⟩
 ·exact iu pins s σ H xs us Q I r h
 ·obtain⟨u,w',rfl,r1,r2⟩:=vals2 r
  cases(show u=Value.ref a from r1)
  cases(show w'=Value.ref p from r2)
  obtain⟨⟨o,ws,ho,hcl,hdi,hda⟩,_,_⟩:=(show Ł X.prog X.w H s.heap a (xo a C d) from I.hok a _ ha)
  obtain⟨ocls,odict,odata,osl⟩:=o
  dsimp only at hcl hdi hda
  subst hcl hdi hda
  have J:∃ox od,PySem.W.InstAt s.heap a ox C od:=by
   rcases hD with⟨rfl,_⟩|⟨d0,rfl,z⟩
   ·exact⟨_,none,ho,rfl,rfl,trivial⟩
   ·obtain⟨od,z'⟩:=o_ (I.hok d0 _ z)
    exact⟨_,some od,ho,rfl,rfl,z'⟩
  obtain⟨its,rv,⟨⟨tc,td,tda,tsl⟩,ht,hc,n,hd⟩,_⟩:=I.tuple hp
  dsimp only at hc hd
  subst hc hd
  rw[rZ rv] at ht
  exact PySem.W.kia_tup (wM q) I.dz J ht hk (λz=>nomatch z) λtk=>⟨.bl b,H,I.tok _,rfl,hQ⟩
def mX(tc:List ((String×String)×Bool))(C:String):List PV->Option Bool
 | []=>some false
 | .cls D::r=>match tc.lookup (C,D),mX tc C r with
   |some b,some b'=>some (b || b')
   |_,_=>none
 |_=>none
def wR(tc tt:List ((String×String)×Bool))(ds nt:List String):List PV->Option PV
 | [.xc C _ _,.tup (q::qs)]=>(mX tc C (q::qs)).map .bl
 |ps=>aM tc tt ds nt ps
theorem BZ{tc:List ((String×String)×Bool)}{C:String}(hc:mW (λC D b=>ź K.K (K.cm C)=true/\PySem.W.kitOne K.K (.ref (K.cm C)) (.ref (K.cm D))=some b) tc){F:Hp}:∀{qs:List PV} {xs:List V} {b:Bool},Ĕ K F qs xs->mX tc C qs=some b->
 ∃cs:List Addr,xs=cs.map V.ref/\PySem.W.kitAny K.K (.ref (K.cm C)) (cs.map Value.ref)=some b/\(qs≠[]->ź K.K (K.cm C)=true)
 | [],xs,b,r,e=>by
   unfold Ĕ at r
   subst r
   unfold mX at e
   cases e
   exact⟨[],rfl,rfl,λz=>absurd rfl z⟩
 |q::qs,xs,b,r,e=>by
  unfold Ĕ at r
  obtain⟨x,xs',rfl,r1,r2⟩:=r
  cases q with
  |cls D=>
   unfold mX at e
   cases e1:tc.lookup (C,D) with
   |none=>rw[e1] at e;cases e
   |some b1=>
    cases e2:mX tc C qs with
    |none=>rw[e1,e2] at e;cases e
    |some b2=>
     rw[e1,e2] at e
     cases e
     obtain⟨k1,k2⟩:=hc.get e1
     obtain⟨cs,rfl,h2,_⟩:=BZ hc r2 e2
     unfold Rep at r1
     subst r1
     refine⟨K.cm D::cs,rfl,?_,λ_=>k1⟩
     show PySem.W.kitAny K.K (.ref (K.cm C)) (Value.ref (K.cm D)::cs.map Value.ref)=_
     unfold PySem.W.kitAny
     rw[k2]
     cases b1 with
     |true=>rfl
     |false=>exact h2
  |_=>unfold mX at e;cases e
def Nr{tc tt:List ((String×String)×Bool)}{ds nt:List String}(hc:mW (λC D b=>ź K.K (K.cm C)=true/\PySem.W.kitOne K.K (.ref (K.cm C)) (.ref (K.cm D))=some b) tc)
 (ht:mW (λC D b=>ź K.K (K.cm C)=true/\PySem.W.kitOne K.K (.ref (K.cm C)) (.type D)=some b) tt)(hd:aH (λD=>PySem.W.kitOne K.K (.type "NoneType") (.ref (K.cm D))=some false) ds)
 (hn:aH (λD=>PySem.W.kitOne K.K (.type "NoneType") (.type D)=some false) nt):bG K (Qa K.K) (wR tc tt ds nt):=by
 intro c F H σ ρ ps pv vs Q rel r e k
 unfold wR at e
 split at e
 ·rename_i C ns qs0 q qs
  obtain⟨v,u,rfl,r1,r2⟩:=Px r
  cases eb:mX tc C (q::qs) with
  |none=>rw[eb] at e;cases e
  |some b=>
   rw[eb] at e
   cases e
   have r1':Rep K F (.xc C ns qs0) v:=by rcases r1 with q|q;exact q;exact q.elim
   unfold Rep at r1'
   obtain⟨a,d,fs,rfl,h1,h2,h3,h4⟩:=r1'
   obtain⟨p,xs,rfl,h5,h6⟩:=r2.tup rel.sub
   obtain⟨cs,rfl,h7,h8⟩:=BZ hc h6 eb
   exact .inr ⟨a,_,d,fs,p,cs,b,rfl,rel.sub _ _ h1,h2.same rel.sub,h8 (by simp),h5,h7,k _ F H rel (Same.refl _) (Same.refl _) Rep.bl⟩
 ·exact .inl (iw hc ht hd hn rel r e k)
end
end P
namespace P
open PySem PySem.Spec PyProof.Rows L2 M2 M3 M4
section
variable{K:KK}{c c':Ctx}{F F' H H':Hp}{σ:L2.St}{ρ:Ĺ}
end
section
variable{X:Cx}{cm:String->Addr}{E:L2.St->XK}{elt tg iter:Expr}{ifs:List Expr}{scope:Scope}{pos:Pos}{mi:M (List PV)}{g:Tg}{mt:M Bool}{me:M RV}
end
section
variable{K:KK}{c:Ctx}{F H:Hp}{σ:L2.St}{ρ:Ĺ}
end
section
variable{X:Cx}{cm:String->Addr}{E:L2.St->XK}{e:Expr}{es:List Expr}{m:M Bool}{mv:M PV}{ms:M (List Slot)}
end
end P
namespace P
open PySem PySem.Spec PyProof.Rows L2 M2 M3 M4
section
variable{X:Cx}{K:KK}
end
section
variable{ρ:Ĺ}{i x j:Nat}{m:M Bool}{mv:M PV}{ms:M (List Slot)}{mp:M (List (List PV))}{g:Tg}{mt:M Bool}{me:M RV}{mi:M (List PV)}{js:List Nat}{nl:Nat}
end
end P
namespace P
open PySem PySem.Spec PyProof.Rows L2 M2 M3 M5
def lamP(js:List Nat)(ρ:Ĺ)(p:PV):Ĺ:=js.map (λ(j:Nat)=>Ŭ ((ρ[j]?).getD .no)) ++ [.sh p]
def wU(js:List Nat)(me:M PV)(ρ:Ĺ):List PV->Option (List Int)
 | []=>some []
 |p::ps=>match me (lamP js ρ p) with
  | .ok (.int k) _=>(wU js me ρ ps).map (k:: ·)
  |_=>none
def cC(p:PV)(k:Int):List PV->List Int->PV
 |q::qs,m::ms=>if m<k then cC q m qs ms else cC p k qs ms
 |_,_=>p
def uI:List PV->List Int->Option PV
 |p::ps,k::ks=>some (cC p k ps ks)
 |_,_=>none
theorem su{js:List Nat}{me:M PV}{ρ:Ĺ}:∀{items:List PV} {ks:List Int},wU js me ρ items=some ks->ks.length=items.length/\∀(k:Nat) (p:PV),items[k]?=some p->∃ρ',me (lamP js ρ p)=.ok (.int (ks.getD k 0)) ρ'
 | [],ks,h=>by
   cases(show some []=some ks from h)
   exact⟨rfl,λk p z=>by simp at z⟩
 |q::r,ks,h=>by
  have h':(match me (lamP js ρ q) with
   | .ok (.int k) _=>(wU js me ρ r).map (k:: ·)
   |_=>none)=some ks:=h
  split at h'
  ·rename_i k ρ' e
   cases e2:wU js me ρ r with
   |none=>rw[e2] at h';cases h'
   |some ks'=>
    rw[e2] at h'
    cases(show some (k::ks')=some ks from h')
    obtain⟨h1,h2⟩:=su e2
    refine⟨by simp[h1],λn p hp=>?_⟩
    cases n with
    |zero=>
     simp at hp
     subst hp
     exact⟨ρ',e⟩
    |succ n=>
     simp at hp
     simpa using h2 n p hp
  ·cases h'
theorem bM:∀{qs:List PV} {ms:List Int} {p:PV} {k:Int} {i:Nat} {x:PV},ms.length=qs.length->(p::qs)[i]?=some x->(∀j,j<(p::qs).length->(k::ms).getD i 0<=(k::ms).getD j 0/\(j<i->(k::ms).getD i 0<(k::ms).getD j 0))->cC p k qs ms=x
 | [],[],p,k,i,x,_,hx,_=>by
   cases i with
   |zero=>simpa[cC] using hx
   |succ i=>simp at hx
 | [],_::_,_,_,_,_,h,_,_=>by simp at h
 |_::_,[],_,_,_,_,h,_,_=>by simp at h
 |q::qs,m::ms,p,k,i,x,hl,hx,hb=>by
  have hl':ms.length=qs.length:=by simpa using hl
  unfold cC
  by_cases hm:m<k
  ·rw[if_pos hm]
   cases i with
   |zero=>
    have:=(hb 1 (by simp)).1
    simp at this
    omega
   |succ i=>
    refine bM (i:=i) hl' (by simpa using hx) λj hj=>?_
    have:=hb (j+1) (by simpa using hj)
    refine⟨by simpa using this.1,λhji=>by simpa using this.2 (by omega)⟩
  ·rw[if_neg hm]
   cases i with
   |zero=>
    refine bM (i:=0) hl' (by simpa using hx) λj hj=>?_
    cases j with
    |zero=>exact⟨Int.le_refl _,λz=>absurd z (Nat.lt_irrefl _)⟩
    |succ j=>
     have:=hb (j+1+1) (by simpa using hj)
     exact⟨by simpa using this.1,λz=>absurd z (by omega)⟩
   |succ i=>
    cases i with
    |zero=>
     have:=(hb 0 (by simp)).2 (by omega)
     simp at this
     omega
    |succ i=>
     refine bM (i:=i+1) hl' (by simpa using hx) λj hj=>?_
     cases j with
     |zero=>
      have:=hb 0 (by simp)
      exact⟨by simpa using this.1,λ_=>by simpa using this.2 (by omega)⟩
     |succ j=>
      have:=hb (j+1+1) (by simpa using hj)
      exact⟨by simpa using this.1,λz=>by simpa using this.2 (by omega)⟩
def uJ{items:List PV}{ks:List Int}{i:Nat}{x b:PV}(hl:ks.length=items.length)(h:uI items ks=some b)(hx:items[i]?=some x)(hb:∀j,j<items.length->ks.getD i 0<=ks.getD j 0/\(j<i->ks.getD i 0<ks.getD j 0)):b=x:=by
 cases items with
 |nil=>simp at hx
 |cons p ps=>
  cases ks with
  |nil=>simp at hl
  |cons k ks=>
   have h':cC p k ps ks=b:=Option.some.inj h
   rw[<-h']
   exact bM (by simpa using hl) hx hb
section
variable{K:KK}{c:Ctx}{F H:Hp}{σ:L2.St}{ρ:Ĺ}
theorem Gr.refl(s:Same F H):Gr F H F H:=⟨Same.refl _,Same.refl _,s,λ_ _ z=>z⟩
theorem Gr.trans{F1 H1 F2 H2:Hp}(a:Gr F H F1 H1)(b:Gr F1 H1 F2 H2):Gr F H F2 H2:=
 ⟨a.h.trans b.h,a.f.trans b.f,b.sub,fun x hx hf=>b.out x (fun z=>by
   cases q:H x with
   |none=>exact hx q
   |some u=>rw[a.h x u q] at z;cases z) (a.out x hx hf)⟩
def Rel.lam(js:List Nat)(rel:Rel K c F H σ ρ){p:PV}{v:V}(hp:Rep K F p v):Rel K (ctx0 F H) F H (cT js σ v) (lamP js ρ p) where
 sub:=rel.sub
 base:=Same.refl _
 f0:=Same.refl _
 bY:=λ_ _ z=>z
 lent:=λa u e=>cu e
 lb:=fun a e=>by
   cases q:(ctx0 F H).L a with
   |none=>rfl
   |some u=>
    have e':H a=none:=e
    rw[(cu q).1] at e'
    cases e'
 len:=by simp[cT,lamP]
 slot:= λi s e=>by
  unfold lamP at e
  by_cases hi:i<js.length
  ·rw[List.getElem?_append_left (by simpa using hi),List.getElem?_map] at e
   cases ej:js[i]? with
   |none=>rw[ej] at e;cases e
   |some j=>
    rw[ej] at e
    have e':Ŭ ((ρ[j]?).getD .no)=s:=Option.some.inj e
    subst e'
    have hx:((cT js σ v)[i]?).getD none=(σ[j]?).getD none:=by
     unfold cT
     rw[List.getElem?_append_left (by simpa using hi),List.getElem?_map,ej]
     rfl
    rw[hx]
    cases er:ρ[j]? with
    |none=>trivial
    |some sl=>
     have q:=rel.slot j sl er
     cases sl with
     |no=>trivial
     |sh p=>exact q
     |ow ps=>
      obtain⟨a,vs,h1,h2,h3,h4,h5⟩:=q
      refine⟨a,vs,h1,?_,h5⟩
      show(match F a with|none=>H a|some _=>none)=_
      rw[h3]
      exact h2
     |bw ps=>
      obtain⟨a,vs,h1,h2,h3⟩:=q
      obtain⟨l1,l2⟩:=rel.lent a _ h2
      refine⟨a,vs,h1,?_,h3⟩
      show(match F a with|none=>H a|some _=>none)=_
      rw[l2]
      exact l1
     |rc C ns ps=>trivial
     |ot ps qs=>trivial
     |ol Eh=>trivial
  ·have hi2:i=js.length:=by
    have l2:=(List.getElem?_eq_some_iff.mp e).1
    simp at l2
    omega
   subst hi2
   rw[List.getElem?_append_right (by simp)] at e
   have e':Slot.sh p=s:=by simpa using e
   subst e'
   have hx:((cT js σ v)[js.length]?).getD none=some v:=by
    unfold cT
    rw[List.getElem?_append_right (by simp)]
    simp
   rw[hx]
   exact⟨v,rfl,hp⟩
 sep:=λi j a h1 _=>by
  exfalso
  obtain⟨s,y,h1,_,h2⟩:=h1
  have h2:=fV h2
  unfold lamP at h1
  by_cases hi:i<js.length
  ·rw[List.getElem?_append_left (by simpa using hi),List.getElem?_map] at h1
   cases ej:js[i]? with
   |none=>rw[ej] at h1;cases h1
   |some j=>
    rw[ej] at h1
    have e':Ŭ ((ρ[j]?).getD .no)=s:=Option.some.inj h1
    subst e'
    cases er:ρ[j]? with
    |none=>rw[er] at h2;cases h2
    |some sl=>rw[er] at h2;cases sl<;>cases h2
  ·have hi2:i=js.length:=by
    have l2:=(List.getElem?_eq_some_iff.mp h1).1
    simp at l2
    omega
   subst hi2
   rw[List.getElem?_append_right (by simp)] at h1
   have e':Slot.sh p=s:=by simpa using h1
   subst e'
   cases h2
end
section
variable{X:Cx}{cm:String->Addr}{E:L2.St->XK}{x px:Str}{c Pt:Addr}{params:Arguments}{body e:Expr}{scope:Scope}{p pos Dj kpos:Pos}{mr:M (List PV)}{me:M PV}
end
def Yq(K:PySem.W.Frag)(x:Str)(f:Addr):Bool:=PySem.W.nsIn K mainGlobals x== some (some (.ref f)) && (PySem.W.tabIn K x).isSome
section
variable{P:Program}{w:World}{K:PySem.W.Frag}{cm:String->Addr}{mg:Str->Option Value}{base:Heap}{CX:lO}
def Nt{x qual:Str}{st:Stmt}{f:Addr}{fd:FuncData}(F:Ec K x qual st f fd){c Pt:Addr}(h:PySem.W.nsIn K mainGlobals x=some (some (.ref f)))(ht:PySem.W.tabIn K x=some (c,Pt)):fd.code=.ref c:=by
 obtain⟨oc,od,kV,doc,pm,an,cdv,ct,osl,rfl,lk,hcd⟩:=F.ex
 unfold PySem.W.tabIn at ht
 split at ht
 ·rename_i f2 hf
  rw[h] at hf
  cases hf
  split at ht
  ·rename_i hfo
   rw[lk] at hfo
   cases hfo
   split at ht
   ·rename_i c2 hc
    split at ht
    ·split at ht
     ·cases ht
      exact hc
     ·cases ht
    ·cases ht
   ·cases ht
  ·cases ht
 ·cases ht
def Zfd{x qual:Str}{st:Stmt}{f:Addr}{fd:FuncData}{N ps:List Str}{k n j:Nat}{mb:M Fl}{mf:MF}(F:Ec K x qual st f fd)(S:ĉ N ps (ć st))(hn:ps.length=n)(hj:N.length=j)(hf:mf=į n j mb)(htb:Yq K x f=true)
 (hbody:∀(c Pt:Addr),PySem.W.tabIn K x=some (c,Pt)→∀(A:Around) (outer:List Env) (s:Shared) (H:Hp) (E:XK),Ő k (A.deeper (envOfC qual (ć st) s.heap.objs.size f (.ref c)))→
   dY (ž CX P w K mg base N qual (ć st) f (.ref c) A outer s H E) (ň st) (tS ⟨K,cm⟩ (λ_=>E) mb)):ģ P w K mg base CX (k+1) f fd ps (š ⟨K,cm⟩ n mf):=by
 subst hn hj hf
 unfold Yq at htb
 simp only[Bool.and_eq_true,beq_iff_eq] at htb
 obtain⟨h1,h2⟩:=htb
 obtain⟨⟨c,Pt⟩,ht⟩:=Option.isSome_iff_exists.mp h2
 have hc:=Nt F h1 ht
 obtain⟨oc,od,kV,doc,pm,an,cdv,ct,osl,rfl,lk,hcd⟩:=id F.ex
 have hc':cdv=.ref c:=hc
 subst hc'
 refine Bc lk hcd S (λvs H Q E ⟨F,ps',h1,_,h2,_⟩=>by rw[<-Paired.length h2];exact h1) λA outer s H vs Q E hr hsp=>?_
 obtain⟨F,ps',h1,h2,h3,h4⟩:=hsp
 refine⟨_,hbody c Pt ht A outer s H E hr,ctx0 F H,F,startP N.length ps',Rel.start h2 h3,?_⟩
 unfold į at h4
 rw[if_pos h1] at h4
 cases e:mb (startP N.length ps') with
 |bad=>rw[e] at h4;exact h4
 |exc x ρ'=>rw[e] at h4;exact λσ' C d F' H' rel s1 q=>h4 C d F' H' rel.gr q
 |ok fl ρ'=>
  rw[e] at h4
  cases fl with
  |nx=>exact λσ' F' H' rel s1=>h4 .non F' H' rel.gr (Rep.non (K:=⟨K,cm⟩) (F:=F'))
  |bk=>exact h4.elim
  |ct=>exact h4.elim
  |rt r=>
   intro v σ' F' H' rel s1 q
   refine h4 v F' H' rel.gr ?_
   cases r with
   |sh p=>exact q
   |ow qs=>
    obtain⟨a,vs',e1,e2,e3,e4,_,e5⟩:=q
    exact⟨a,vs',e1,e2,e3,e4,e5⟩
   |ot qs ts=>
    obtain⟨p,a,xs,vs',e1,e0,ex,e2,e3,e4,_,e5⟩:=q
    exact⟨p,a,xs,vs',e1,e0,ex,e2,e3,e4,e5⟩
end
section
variable{js:List Nat}{me:M PV}{mr:M (List PV)}{ρ:Ĺ}
end
end P
namespace P
open PySem PySem.Spec PyProof.Rows L2 M2 M3 M5
def Zcf(K:PySem.W.Frag):R2:=λx y H Q=>∃a b xs,x=.ref a/\y=.ref b/\ū K H a xs/\ū K H b []/\Q (.bl (!xs.isEmpty)) H
def Yr{X:Cx}(hu:X.A.units+64<cLine):Š X (compareOp .NotEq) (Zcf X.K):=by
 intro pins s σ H x y v u Q I rx ry h
 obtain⟨a,b,xs,rfl,rfl,h1,h2,q⟩:=h
 cases rx
 cases ry
 obtain⟨its,rv,⟨o,n,e,hc,hdd,hd⟩,hz⟩:=I.list h1
 obtain⟨its',rv',⟨o',n',e',hc',ZfC,hd'⟩,hz'⟩:=I.list h2
 have l:=rv.length
 have l':=rv'.length
 cases xs with
 |nil=>
  cases rv
  cases rv'
  exact PySem.SeqAt.RcNeAt.lists (e:=λ_=>true) ⟨o,e,hc,n,hd⟩ ⟨o',e',hc',n',hd'⟩ rfl (by omega) (λj j1 _=>absurd j1 (Nat.not_lt_zero _)) _ _ _ _ ⟨.bl _,H,I,rfl,q⟩
 |cons x xs=>
  exact PySem.SeqAt.RcNeAt.lists_lengths ⟨o,e,hc,n,hd⟩ ⟨o',e',hc',n',hd'⟩ (by simp at l l' ⊢;omega) (by omega) _ _ _ _ ⟨.bl _,H,I,rfl,q⟩
def B_(p q:PV):Option PV:=match p,q with
 | .lst xs,.lst []=>some (.bl (!xs.isEmpty))
 |_,_=>none
theorem wV{K:KK}{F:Hp}:∀{ps:List PV} {vs:List V},Ĕ K F ps vs->vs.isEmpty=ps.isEmpty
 | [],vs,h=>by unfold Ĕ at h;rw[h];rfl
 |p::ps,vs,h=>by
  unfold Ĕ at h
  obtain⟨x,t,rfl,_,_⟩:=h
  rfl
def wW{K:KK}{c:Ctx}{F H:Hp}{σ:L2.St}{ρ:Ĺ}{ps:List PV}{v:V}(s:Same F H)(r:rR K c σ ρ F H (.lst ps) v):∃a vs,v=.ref a/\ū K.K H a vs/\vs.isEmpty=ps.isEmpty:=by
 rcases r with r|r
 ·unfold Rep at r
  obtain⟨a,vs,h1,h2,h3⟩:=r
  exact⟨a,vs,h1,s.seq h2,wV h3⟩
 ·obtain⟨a,vs,h1,h3,h4⟩:=r
  exact⟨a,vs,h1,ū.of h3,wV h4⟩
def Ys{K:KK}:iI K (Zcf K.K) B_:=by
 intro c F H σ ρ p q pv v u Q rel r1 r2 e k
 unfold B_ at e
 split at e
 ·cases e
  obtain⟨a,xs,h1,h2,h3⟩:=wW rel.sub r1
  obtain⟨b,ys,k1,k2,k3⟩:=wW rel.sub r2
  have:ys=[]:=by simpa using k3
  subst this
  refine⟨a,b,xs,h1,k1,h2,k2,?_⟩
  rw[h3]
  exact k _ F H rel (Same.refl _) (Same.refl _) Rep.bl
 ·cases e
@[simp] theorem Zfe{xs:List PV}:B_ (.lst xs) (.lst [])=some (.bl (!xs.isEmpty)):=rfl
end P
namespace P
open PySem PySem.Spec PyProof.Rows L2 M2 M3 M5
section
variable{X:Cx}{cm:String->Addr}{E:L2.St->XK}{CX:lO}{k n:Nat}{f:Addr}{fd:FuncData}{ps:List Str}{mf:MF}{mr:M (List Slot)}{x:Str}{p pos:Pos}{e:Expr}{es:List Expr}{ds:List Value}{dvs:List V}{dps:List Slot}
end
end P
namespace P
open PySem PySem.Spec PyProof.Rows L2 M2 M3 M5
def BN:Nat->(List Value->Prop)->Prop
 |0,p=>p []
 |n+1,p=>∀u,BN n λus=>p (u::us)
theorem uK:∀{n:Nat} {p:List Value->Prop},BN n p->∀us,us.length=n->p us
 |0,p,h,[],_=>h
 |0,p,h,_::_,e=>by cases e
 |n+1,p,h,[],e=>by cases e
 |n+1,p,h,u::us,e=>uK (h u) us (Nat.succ.inj e)
structure Df(K:PySem.W.Frag)(mg:Str->Option Value)(x:Str)(st:Stmt)(ps:List Str)(f:Addr)(fd:FuncData):Prop where
 F:Ec K x x st f fd
 m:mg x=some (.ref f)
 b:Binds K fd ps []
 bb:∀(s:Shared) (us:List Value),us.length=ps.length->BindsTo s fd ⟨us,[]⟩ (ps.zip us)
structure Dm(K:PySem.W.Frag)(C:Addr)(x q:Str)(st:Stmt)(ps:List Str)(f:Addr)(fd:FuncData):Prop where
 F:Ec K x q st f fd
 b:Binds K fd ps []
section
variable{K:PySem.W.Frag}{h:Heap}{mg:Str->Option Value}{x q:Str}{st:Stmt}{ps:List Str}{f C:Addr}{oc kV dc pm cd ct:Value}{od an:Option Addr}{sl:Array (Option Value)}
def ĩ(X:K.In h)(G:h.Ns mainGlobals mg)(hb:∀(kV dc pm:Value) (an:Option Addr) (cd ct:Value),BN ps.length λus=>bindArgs (PySem.W.fnOf x x (ao st) (ň st) (ć st) .none kV dc pm an cd ct) ⟨us,[]⟩=pure (ps.zip us))
 (a:PySem.W.nsIn K mainGlobals x=some (some (.ref f)))(l:K.lookup f=some ⟨oc,od,.func (PySem.W.fnOf x x (ao st) (ň st) (ć st) .none kV dc pm an cd ct),sl⟩)(c:PySem.W.codeIn K cd x=true)(k:PySem.W.keepIn K (.ref f)=true) :
 Df K mg x st ps f (PySem.W.fnOf x x (ao st) (ň st) (ć st) .none kV dc pm an cd ct):=
 have F:=Fo (st:=st) l c k
 ⟨F,PySem.W.mg_of X G a,F.binds λkV dc pm an cd ct us hl=>uK (hb kV dc pm an cd ct) us hl,λs us hl=>.of_eq (uK (hb kV dc pm an cd ct) us hl)⟩
def gA(hb:∀(kV dc pm:Value) (an:Option Addr) (cd ct:Value),BN ps.length λus=>bindArgs (PySem.W.fnOf x q (ao st) (ň st) (ć st) .none kV dc pm an cd ct) ⟨us,[]⟩=pure (ps.zip us))
 (a:PySem.W.findIn K (.ref C) x=some (some (.ref f)))(l:K.lookup f=some ⟨oc,od,.func (PySem.W.fnOf x q (ao st) (ň st) (ć st) .none kV dc pm an cd ct),sl⟩)(c:PySem.W.codeIn K cd q=true)(k:PySem.W.keepIn K (.ref f)=true) :
 Dm K C x q st ps f (PySem.W.fnOf x q (ao st) (ň st) (ć st) .none kV dc pm an cd ct):=
 have F:=Fo (st:=st) l c k
 ⟨F,F.binds λkV dc pm an cd ct us hl=>uK (hb kV dc pm an cd ct) us hl⟩
end
end P
namespace P
open PySem PySem.Spec PyProof.Rows L2 M2 M3 M5
def Ŷ{N ps:List Str}{sc:Scope}(h1:sc.kind=.function:=by rfl)(h2:sc.isCoroutine=false:=by rfl)(h3:sc.isGenerator=false:=by rfl)(h4:N.Nodup:=by decide +kernel)(h5:N.take ps.length=ps:=by rfl)(h6:∀x∈ps,sc.names.lookup x=some .local\/sc.names.lookup x=some .cell:=by decide +kernel)
 (h7:∀y∈sc.names,y.2≠ .free:=by decide +kernel):ĉ N ps sc:=⟨h1,h2,h3,h4,h5,h6,h7⟩
section
variable{X:Cx}{cm:String->Addr}{E:L2.St->XK}{CX:lO}{k j n:Nat}{f:Addr}{fd:FuncData}{ps:List Str}{mf:MF}{mr:M (List Slot)}{x:Str}{st:Stmt}{p pos:Pos}{e:Expr}{es:List Expr}
def Ĉ(F:ģ X.prog X.w X.K X.mg X.base CX k f fd ps (š (kk X cm) n mf))(D:Df X.K X.mg x st ps f fd)(hr:Ő j X.A)(hx:ŷ CX X E)
 (ha:PA X (e::es) (tA (kk X cm) E mr))(hlen:∀{ps:List Slot},(∃r,mf ps=r/\∀z,r=z->z≠ .bad)->ps.length=n:=by exact cY)(hg:Gl X x:=by rfl)(hkj:k<=j:=by decide)(hdb:(x== ("__debug__" :Str))=false:=by decide)(he:starEach (e::es) X.env=(false,eval e X.env)::starEach es X.env:=by exact bF rfl)(hpl:(backTo pos (starEach es X.env)).any (·.1)=false:=by rfl) :
 PE X (.Call (.Name x p) (e::es) [] pos) (tO (kk X cm) E (Ē mf mr)):=Xq F hlen (hr.mono hkj) hg D.m D.F.kp D.b hx ha hdb he hpl
end
section
variable{Pg:Program}{w:World}{K:PySem.W.Frag}{mg:Str->Option Value}{base:Heap}{CX:lO}{cm:String->Addr}
def ķ{x qual:Str}{st:Stmt}{f:Addr}{fd:FuncData}{N ps:List Str}{k n j:Nat}{mb:M Fl}{mf:MF}(F:Ec K x qual st f fd)(S:ĉ N ps (ć st))
 (hbody:∀(cdv:Value) (A:Around) (outer:List Env) (s:Shared) (H:Hp) (E:XK),Ő k (A.deeper (envOfC qual (ć st) s.heap.objs.size f cdv))→(A.deeper (envOfC qual (ć st) s.heap.objs.size f cdv)).units+64<cLine→
   dY (ž CX Pg w K mg base N qual (ć st) f cdv A outer s H E) (ň st) (tS ⟨K,cm⟩ (λ_=>E) mb))(hn:ps.length=n:=by rfl)(hj:N.length=j:=by rfl)(hf:mf=į n j mb:=by rfl):ģ Pg w K mg base CX (k+1) f fd ps (š ⟨K,cm⟩ n mf):=
 fnQ F S hn hj hf λcdv A outer s H E hr=>hbody cdv A outer s H E hr hr.units
end
end P
namespace P
open PySem PySem.Spec PyProof.Rows L2 M2 M3 M4
section
variable{X:Cx}{cm:String->Addr}{E:L2.St->XK}{e:Expr}{m:M PV}
end
end P
namespace P
open PySem PySem.Spec PyProof.Rows L2 M2 M3 M4
def tgN:Expr->List Str
 | .Name x _=>[x]
 | .Tuple es _ _=>es.flatMap fun e=>match e with
   | .Name x _=>[x]
   |_=>[]
 |_=>[]
def cN(X:Cx)(js:List Nat)(tg:Expr):List Str:=js.map (λ(j:Nat)=>(X.N[j]?).getD "")++tgN tg
def ndB{l:List Str}(h:decide l.Nodup=true):l.Nodup:=of_decide_eq_true h
def frB{a b:Scope}(h:(a.names.all λy=>decide (y.2=.free->(b.names.lookup y.1=some .cell\/b.names.lookup y.1=some .free)))=true):∀y∈a.names,y.2=.free->(b.names.lookup y.1=some .cell\/b.names.lookup y.1=some .free):=λy hy=>of_decide_eq_true (List.all_eq_true.mp h y hy)
section
variable{X:Cx}{cm:String->Addr}{E:L2.St->XK}{elt tg iter:Expr}{ifs:List Expr}{scope:Scope}{pos:Pos}{mi:M (List PV)}{g:Tg}{mt:M Bool}{me:M PV}{js:List Nat}{nl:Nat}
end
end P
namespace P
open PySem PySem.Spec PyProof.Rows L2 M2 M3 M4
section
variable{X:Cx}
end
section
variable{X:Cx}{cm:String->Addr}{K:KK}{E:L2.St->XK}{o e:Expr}{es:List Expr}{name:Str}{apos cpos:Pos}{id:String}{r:V->List V->Hp->VK->Prop}{f:PV->List PV->Option PV}{mo:M PV}{ms:M (List PV)}
end
end P
namespace P
open PySem PySem.Spec PyProof.Rows L2 M2 M3 M4
section
variable{X:Cx}{cm:String->Addr}{E:L2.St->XK}{a b e:Expr}{es:List Expr}{ma mb m:M PV}{mo:M RV}{pos p:Pos}
def ă{i j pos}:PE X (.Constant (.int i) j pos) (tR (kk X cm) E (mC (.int i))):=Ě Ĭ
def pC{j pos}:PE X (.Constant .none j pos) (tR (kk X cm) E (mC .non)):=Ě oH
def wX{x j pos}:PE X (.Constant (.str x) j pos) (tR (kk X cm) E (mC (.str x))):=Ě Ų
def Ļ(ha:PE X a (tR (kk X cm) E ma))(hb:PE X b (tR (kk X cm) E mb))(hs:nG b:=by exact λ_ _=>rfl):PE X (.Subscript a b pos) (tV (kk X cm) E (ą Ė ma mb)):=Zd7 ZbN Zbu ha hb hs
def ı(ha:PE X a (tR (kk X cm) E ma))(hb:PE X b (tR (kk X cm) E mb))(hs:nG b:=by exact λ_ _=>rfl):PE X (.Subscript a b pos) (tR (kk X cm) E (ą Ė ma mb)):=Ě (Ļ ha hb hs)
def v_mod(ha:PE X a (tR (kk X cm) E ma))(hb:PE X b (tR (kk X cm) E mb)):PE X (.BinOp a .Mod b pos) (tV (kk X cm) E (ą İ ma mb)):=aB XC Xb ha hb
def ŋ(ha:PE X a (tR (kk X cm) E ma))(hb:PE X b (tR (kk X cm) E mb)):PE X (.BinOp a .Mod b pos) (tR (kk X cm) E (ą İ ma mb)):=Ě (v_mod ha hb)
def v_mul(ha:PE X a (tR (kk X cm) E ma))(hb:PE X b (tR (kk X cm) E mb)):PE X (.BinOp a .Mult b pos) (tV (kk X cm) E (ą Ĥ ma mb)):=aB XH Ly ha hb
def Ō(ha:PE X a (tR (kk X cm) E ma))(hb:PE X b (tR (kk X cm) E mb)):PE X (.BinOp a .Mult b pos) (tR (kk X cm) E (ą Ĥ ma mb)):=Ě (v_mul ha hb)
def v_sub(ha:PE X a (tR (kk X cm) E ma))(hb:PE X b (tR (kk X cm) E mb)):PE X (.BinOp a .Sub b pos) (tV (kk X cm) E (ą ľ ma mb)):=aB Xy W_ ha hb
def jL(ha:PE X a (tR (kk X cm) E ma))(hb:PE X b (tR (kk X cm) E mb)):PE X (.BinOp a .Sub b pos) (tR (kk X cm) E (ą ľ ma mb)):=Ě (v_sub ha hb)
def pD(ha:PE X a (tR (kk X cm) E ma))(hb:PE X b (tR (kk X cm) E mb)):PE X (.BinOp a .FloorDiv b pos) (tV (kk X cm) E (ą ś ma mb)):=aB Xz Lf ha hb
def bN(ha:PE X a (tR (kk X cm) E ma))(hb:PE X b (tR (kk X cm) E mb)):PE X (.BinOp a .FloorDiv b pos) (tR (kk X cm) E (ą ś ma mb)):=Ě (pD ha hb)
def jM(ha:PE X a (tR (kk X cm) E ma))(hb:PE X b (tR (kk X cm) E mb)):PE X (.BinOp a .Add b pos) (tO (kk X cm) E (ġ ğ ma mb)):=ZbC Xw Xu ha hb
def v_add(ha:PE X a (tR (kk X cm) E ma))(hb:PE X b (tR (kk X cm) E mb)):PE X (.BinOp a .Add b pos) (tV (kk X cm) E (Đ (ġ ğ ma mb))):=Ġ (jM ha hb)
def eN(ha:PE X a (tR (kk X cm) E ma))(hb:PE X b (tR (kk X cm) E mb)):PE X (.BinOp a .Add b pos) (tR (kk X cm) E (Đ (ġ ğ ma mb))):=Ě (v_add ha hb)
def t_eq(hu:X.A.units+64<cLine)(ha:PE X a (tR (kk X cm) E ma))(hb:PE X b (tR (kk X cm) E mb)):PT X (.Compare a [.Eq] [b] pos) (tB (kk X cm) E (cV (ą Œ ma mb))):=aY Pq (Fz hu) ha hb (Ň _)
def Zcg(hu:X.A.units+64<cLine)(ha:PE X a (tR (kk X cm) E ma))(hb:PE X b (tR (kk X cm) E mb)):PT X (.Compare a [.NotEq] [b] pos) (tB (kk X cm) E (cV (ą jF ma mb))):=aY Pr (FJ hu) ha hb (Ň _)
def v_eq(hu:X.A.units+64<cLine)(ha:PE X a (tR (kk X cm) E ma))(hb:PE X b (tR (kk X cm) E mb)):PE X (.Compare a [.Eq] [b] pos) (tV (kk X cm) E (ą Œ ma mb)):=oJ Pq (Fz hu) ha hb (Ň _)
def ņ(he:PE X e (tO (kk X cm) E mo)):dY X [.Return (some e) pos] (tS (kk X cm) E (ħ mo)):=Į (ZbI he)
def Ľ(he:PE X e (tV (kk X cm) E m)):dY X [.Return (some e) pos] (tS (kk X cm) E (ħ (ŉ m))):=ņ (ţ he)
def DN{N ps:List Str}{sc:Scope}{i:Nat}{x:Str}{pos':Pos}(S:ĉ N ps sc)(he:PE X e (tO (kk X cm) E mo))(hN:X.N=N:=by rfl)(hi:X.N[i]?=some x:=by rfl)(hx:Loc X.env.scope x:=by first|exact Or.inl rfl|exact Or.inr rfl)(hs:swapsWith e (some (.Name x pos')) pos.line X.env=pure false:=by rfl)(hf:X.fn x=true\/X.env.scope.names.lookup x=some .local:=by first|exact .inl rfl|exact .inr rfl|assumption) :
 PS X (.Assign [.Name x pos'] e pos) (tS (kk X cm) E (Ī i mo)):=ZbH (hN▸S.nd) hi hx he hs hf
def Ķ{N ps:List Str}{sc:Scope}{i:Nat}{x:Str}{pos':Pos}{rest:List Stmt}{m2:M Fl}(S:ĉ N ps sc)(he:PE X e (tO (kk X cm) E mo))(h2:dY X rest (tS (kk X cm) E m2))(hN:X.N=N:=by rfl)(hi:X.N[i]?=some x:=by rfl)(hx:Loc X.env.scope x:=by first|exact Or.inl rfl|exact Or.inr rfl)(hs:swapsWith e (some (.Name x pos')) pos.line X.env=pure false:=by rfl)(hf:X.fn x=true\/X.env.scope.names.lookup x=some .local:=by first|exact .inl rfl|exact .inr rfl|assumption) :
 dY X (.Assign [.Name x pos'] e pos::rest) (tS (kk X cm) E (Ĝ (Ī i mo) m2)):=ĕ (DN S he hN hi hx hs hf) h2
def gB{N ps:List Str}{sc:Scope}{i:Nat}{x:Str}(S:ĉ N ps sc)(hN:X.N=N:=by rfl)(hi:X.N[i]?=some x:=by rfl)(hx:Loc X.env.scope x:=by first|exact Or.inl rfl|exact Or.inr rfl)(hf:X.fn x=true\/X.env.scope.names.lookup x=some .local:=by first|exact .inl rfl|exact .inr rfl|assumption):PG X (.Name x pos) (tT (kk X cm) (gN i)):=Gm (hN▸S.nd) hi hx hf
def bx{i:Nat}{x:Str}(hN:X.N.Nodup:=by exact ndB (by kernel_rfl))(hi:X.N[i]?=some x:=by rfl)(hx:Loc X.env.scope x:=by first|exact Or.inl rfl|exact Or.inr rfl)(hf:X.fn x=true\/X.env.scope.names.lookup x=some .local:=by first|exact .inl rfl|exact .inr rfl):PG X (.Name x pos) (tT (kk X cm) (gN i)):=Gm hN hi hx hf
def Ċ(i:Nat){x:Str}{px:Pos}{ms:M (List Slot)}(hr:PA X es (tA (kk X cm) E ms))(hN:X.N[i]?=some x:=by rfl)(hv:Ax X.env.scope x:=by first|exact Or.inl rfl|exact Or.inr (Or.inl rfl)|exact Or.inr (Or.inr rfl))(hd:(x== ("__debug__" :Str))=false:=by decide)
 (hcd:(x== ("__classdict__" :Str))=false:=by decide)(hs:starEach (.Name x px::es) X.env=(false,eval (.Name x px) X.env)::starEach es X.env:=by exact bF rfl):PA X (.Name x px::es) (tA (kk X cm) E (Ć i ms)):=Ma i hN hv hd hcd hr hs
def ż{id:String}{x:Str}{r:List V->Hp->VK->Prop}{f:List PV->Option PV}{mr:M (List PV)}(hc:Ń X (.builtin id) r)(hf:bG (kk X cm) r f)(hm:X.mg x=none)(hv:bootBuiltins x=some (.builtin id))(ha:PA X (e::es) (LQ (kk X cm) E mr))(hg:Gl X x:=by rfl)(hn:x≠ "__name__" := by decide)(hdb:(x== ("__debug__" :Str))=false:=by decide)
 (he:starEach (e::es) X.env=(false,eval e X.env)::starEach es X.env:=by rfl)(hpl:(backTo pos (starEach es X.env)).any (·.1)=false:=by rfl):PE X (.Call (.Name x p) (e::es) [] pos) (tV (kk X cm) E (fG f mr)):=PE.wk (Fe hc hg hm hv ha hn hdb he hpl) λ_ _ _ h=>ZbG hf h
def Zch{T:String}{x:Str}{r:List V->Hp->VK->Prop}{f:List PV->Option PV}{mr:M (List PV)}(hc:Ń X (.type T) r)(hf:bG (kk X cm) r f)(hm:X.mg x=none)(hv:bootBuiltins x=some (.type T))(ha:PA X (e::es) (LQ (kk X cm) E mr))(hg:Gl X x:=by rfl)(hn:x≠ "__name__" := by decide)(hdb:(x== ("__debug__" :Str))=false:=by decide)
 (he:starEach (e::es) X.env=(false,eval e X.env)::starEach es X.env:=by rfl)(hpl:(backTo pos (starEach es X.env)).any (·.1)=false:=by rfl):PE X (.Call (.Name x p) (e::es) [] pos) (tV (kk X cm) E (fG f mr)):=PE.wk (rC hc hg hm hv ha hn hdb he hpl) λ_ _ _ h=>ZbG hf h
def wY{T:String}{x:Str}{r:List V->Hp->VK->Prop}{f:List PV->Option RV}{mr:M (List PV)}(hc:Ń X (.type T) r)(hf:Gk (kk X cm) r f)(hm:X.mg x=none)(hv:bootBuiltins x=some (.type T))(ha:PA X (e::es) (LQ (kk X cm) E mr))(hg:Gl X x:=by rfl)(hn:x≠ "__name__" := by decide)(hdb:(x== ("__debug__" :Str))=false:=by decide)
 (he:starEach (e::es) X.env=(false,eval e X.env)::starEach es X.env:=by rfl)(hpl:(backTo pos (starEach es X.env)).any (·.1)=false:=by rfl):PE X (.Call (.Name x p) (e::es) [] pos) (tO (kk X cm) E (oK f mr)):=PE.wk (rC hc hg hm hv ha hn hdb he hpl) λ_ _ _ h=>Zd8 hf h
end
section
variable{X:Cx}{cm:String->Addr}{E:L2.St->XK}{elt tg iter t:Expr}{ifs:List Expr}{scope:Scope}{pos:Pos}{mi:M (List PV)}{g:Tg}{mt:M Bool}{me:M PV}{js:List Nat}{nl:Nat}
structure CF(X:Cx)(js:List Nat)(nl:Nat)(tg iter:Expr)(scope:Scope):Prop where
 hcap:cQ X.ō X.env.scope scope (cN X js tg) js
 hcalm:X.calm=true
 hlen:js.length+nl=(cN X js tg).length
 hk:scope.kind=.function
 hcell:∀y∈scope.names,y.2=.cell->scope.names.lookup y.1=some .cell
 hnames:∀y∈scope.names,y.2=.local->scope.names.lookup y.1=some .local
 hfree:∀y∈scope.names,y.2=.free->(X.env.scope.names.lookup y.1=some .cell\/X.env.scope.names.lookup y.1=some .free)
 hs:∀x,foldedSetIterable iter X.env x=pure x
def cf(hcap:cQ X.ō X.env.scope scope (cN X js tg) js:=by repeat' first|exact True.intro|refine⟨rfl,⟨rfl,by first|exact Or.inl rfl|exact Or.inr rfl⟩,?_⟩)(hcalm:X.calm=true:=by rfl)(hlen:js.length+nl=(cN X js tg).length:=by rfl)
 (hk:scope.kind=.function:=by rfl)(hcell:∀y∈scope.names,y.2=.cell->scope.names.lookup y.1=some .cell:=by decide +kernel)(hnames:∀y∈scope.names,y.2=.local->scope.names.lookup y.1=some .local:=by decide +kernel)
 (hfree:∀y∈scope.names,y.2=.free->(X.env.scope.names.lookup y.1=some .cell\/X.env.scope.names.lookup y.1=some .free):=by exact frB (by kernel_rfl))(hs:∀x,foldedSetIterable iter X.env x=pure x:=by intro _;rfl):CF X js nl tg iter scope:=⟨hcap,hcalm,hlen,hk,hcell,hnames,hfree,hs⟩
def Zff(hi:PI X.ō tg iter (tG (kk X cm) E (Gq (kk X cm)) mi))(hg:∀{cl C s H fp},PG (cj X.ō (cN X js tg) scope cl C s H fp) tg (tT (kk X cm) g))(ht:∀{cl C s H fp},Ed (cj X.ō (cN X js tg) scope cl C s H fp) ifs (tB (kk X cm) EF mt))(he:∀{cl C s H fp},PE (cj X.ō (cN X js tg) scope cl C s H fp) elt (tV (kk X cm) EF me))(h:CF X js nl tg iter scope:=by exact cf) :
 PE X (.ListComp elt [⟨tg,iter,ifs,0⟩] scope pos) (tO (kk X cm) E (ŏ js nl mi g mt me)):=Mp (cN X js tg) js nl X.env.scope rfl h.hcalm hi (λ_ _ _ _ _=>hg) (λ_ _ _ _ _=>ht) (λ_ _ _ _ _=>he) h.hcap h.hlen h.hk h.hcell h.hnames h.hfree h.hs
def pF(hi:PI X.ō tg iter (tI (kk X cm) E mi))(hg:∀{cl C s H fp},PG (cj X.ō (cN X js tg) scope cl C s H fp) tg (tT (kk X cm) g))(ht:∀{cl C s H fp},Ed (cj X.ō (cN X js tg) scope cl C s H fp) ifs (tB (kk X cm) EF mt))(he:∀{cl C s H fp},PE (cj X.ō (cN X js tg) scope cl C s H fp) elt (tV (kk X cm) EF me))(h:CF X js nl tg iter scope:=by exact cf) :
 PE X (.ListComp elt [⟨tg,iter,ifs,0⟩] scope pos) (tO (kk X cm) E (ŏ js nl mi g mt me)):=Zff (Pa hi) hg ht he h
def wZ{N ps:List Str}{sc:Scope}{i:Nat}{y:Str}{py spos:Pos}(S:ĉ N ps sc)(hi:PI X.ō tg iter (tI (kk X cm) E mi))(hg:∀{cl C s H fp},PG (cj X.ō (cN X js tg) scope cl C s H fp) tg (tT (kk X cm) g))(ht:∀{cl C s H fp},Ed (cj X.ō (cN X js tg) scope cl C s H fp) ifs (tB (kk X cm) EF mt))(he:∀{cl C s H fp},PE (cj X.ō (cN X js tg) scope cl C s H fp) elt (tV (kk X cm) EF me))
 (h:CF X js nl tg iter scope:=by exact cf)(hN:X.N=N:=by rfl)(hi0:X.N[i]?=some y:=by rfl)(hy:X.env.scope.names.lookup y=some .local:=by rfl)(hsw:swapsWith (.ListComp elt [⟨tg,iter,ifs,0⟩] scope pos) (some (.Name y py)) spos.line X.env=pure true:=by rfl) :
 PS X (.Assign [.Name y py] (.ListComp elt [⟨tg,iter,ifs,0⟩] scope pos) spos) (tS (kk X cm) E (Ī i (ŏ js nl mi g mt me))):=Ym (hN▸S.nd) hi0 hy (cN X js tg) js nl X.env.scope rfl h.hcalm hi (λ_ _ _ _ _=>hg) (λ_ _ _ _ _=>ht) (λ_ _ _ _ _=>he) h.hcap h.hlen h.hk h.hcell h.hnames h.hfree h.hs hsw
end
end P
namespace M5
open PySem PySem.Spec PyProof.Rows L2 M2 M3
def HB(a v:Value):argsOk "min" ⟨[a],[(Str.ofString "key",v),(Str.ofString "default",.none)]⟩:=by unfold argsOk;kernel_rfl
section
variable{X:Cx}{pins:List (Addr×Obj)}{σ:L2.St}{H:Hp}{s:Shared}
variable{R:Result->Shared->Prop}{f l S It:Addr}{oF:Obj}{xs:List V}(ks:Nat->Int)(W:Nat->Hp->Prop)
def zH(hh:X.A.handled=none)(hl:∀k H,W k H->ū X.K H l xs)(hdF:∀v,oF.data≠ .cell v)(hFS:f≠S)(hFI:f≠It)
 (turn:∀k v,xs[k]?=some v->∀pins H s u,Inv X pins σ H s->W k H->RelV v u->s.heap.get? f=some oF->wpAny (model X.prog X.w) X.A.in1 (call (.ref f) [u]) (EP X pins σ λy H'=>y=.int (ks k)/\W (k+1) H') (λ_ _=>False) s)
 (hR:∀i v u H s,xs[i]?=some v->RelV v u->(∀j,j<xs.length->ks i<=ks j/\(j<i->ks i<ks j))->Inv X pins σ H s->W xs.length H->R (.ok (.ret u)) s) :
 ∀(r j i:Nat) (H:Hp) (s:Shared) (vb:Value) (tb:Tok) (c:Nat) (v:V),xs.length-(j+1)=r->j+1<=xs.length->Inv X pins σ H s->W (j+1) H->
  s.heap.get? S=some (seqObj "list" #[vb,.int (ks i) tb] c)->s.heap.IsListIter It l (j+1)->s.heap.get? f=some oF->(∀b∈[S,It,f],b_ X pins H b)->xs[i]?=some v->RelV v vb->i<=j->(∀j',j'<=j->ks i<=ks j'/\(j'<i->ks i<ks j'))->
  codeAny (model X.prog X.w) X.A (.builtin "min.loop" ⟨[.ref It,.ref f,.ref S],[(Str.ofString "default",.none)]⟩) R s:=by
 have hname:(toString "min" ++ toString ".loop" :String)= "min.loop" := by decide
 intro r
 induction r with
 |zero=>
  intro j i H s vb tb c v hr hj I w hS hit hF Yt hv rv hij hbest
  have hin:j+1=xs.length:=by omega
  obtain⟨its,ri,pl,_⟩:=I.list (hl _ _ w)
  have hsz:its.toArray.size=xs.length:=by rw[List.size_toArray,ri.length]
  have W':=Walks.list (prog:=X.prog) (w:=X.w) (A:=X.A.in1) hh It l (Bj pl.isList hit) its.toArray
  refine codeAny_builtin PySem.F.entry_min_loop ?_
  rw[Around.under_plainId PySem.F.plain_min_loop _]
  show wpAny _ X.A.in1 (seqItems? (.ref S) >>= _) _ _ _
  refine wpAny_bind (wpAny_seqItems hS rfl ?_)
  show wpAny _ X.A.in1 (tryCatch (pyNext (.ref It)) _ >>= _) _ _ _
  refine wpAny_bind (wpAny_tryCatch (W'.done _ _ _ ⟨by rw[hsz,<-hin];exact hit,pl.isList⟩ λh' tk' hk'=>?_))
  have I1:=ů (h':=h') (t':=tk') I (Yt It (by simp)) λb o hb e=>hk' b o (by simpa using hb) e
  have hS':=hk' S _ (by simpa using yV hS hit) hS
  have s1:=Heap.SameBut.update h' S (Obj.mapSeq λ_=>(#[]:Array Value))
  show wpAny _ X.A.in1 (updateSeq S (λ_=> #[]) >>= _) _ _ _
  refine wpAny_bind ?_
  refine wpAny_updateSeq hS' rfl (wpAny_bind (wpAny_letGo (wpAny_pure ?_)))
  exact hR i v vb H _ hv rv (λj' hj'=>hbest j' (by omega)) (ů (t':=tk') I1 (Yt S (by simp)) λb o hb e=>(s1.2 b hb).trans e) (hin▸w)
 |succ r ih=>
  intro j i H s vb tb c v hr hj I w hS hit hF Yt hv rv hij hbest
  have hlt:j+1<xs.length:=by omega
  obtain⟨its,ri,pl,_⟩:=I.list (hl _ _ w)
  have hsz:its.toArray.size=xs.length:=by rw[List.size_toArray,ri.length]
  have W':=Walks.list (prog:=X.prog) (w:=X.w) (A:=X.A.in1) hh It l (Bj pl.isList hit) its.toArray
  refine codeAny_builtin PySem.F.entry_min_loop ?_
  rw[Around.under_plainId PySem.F.plain_min_loop _]
  show wpAny _ X.A.in1 (seqItems? (.ref S) >>= _) _ _ _
  refine wpAny_bind (wpAny_seqItems hS rfl ?_)
  show wpAny _ X.A.in1 (tryCatch (pyNext (.ref It)) _ >>= _) _ _ _
  refine wpAny_bind (wpAny_tryCatch (W'.item (j+1) _ _ _ (by rw[hsz];exact hlt) ⟨hit,pl.isList⟩ λu h' tk' hP hst' hk'=>?_))
  have hu:its[j+1]?=some u:=by simpa using hP
  have hx2:xs[j+1]?=some xs[j+1]:=List.getElem?_eq_getElem hlt
  have ru:RelV xs[j+1] u:=by
   obtain⟨u2,h2,r2⟩:=ri.get hx2
   rw[hu] at h2
   cases h2
   exact r2
  obtain⟨oI',hoI',hoc,hod⟩:=id hst'.1
  have I1:=ů (h':=h') (t':=tk') I (Yt It (by simp)) λb o hb e=>hk' b o (by simpa using hb) e
  have hS1:=hk' S _ (by simpa using yV hS hit) hS
  have Yu:=hk' f _ (by simpa using hFI) hF
  show wpAny _ X.A.in1 (tryCatch (holding [u] (call (.ref f) [u])) _ >>= _) _ _ _
  refine wpAny_bind (wpAny_tryCatch (wpAny_holding (wpAny_mono (rH (fp:=[S,It,f]) I1 Yt (λb hb=>?_) (λaU I'=>turn (j+1) _ hx2 aU H _ u I' w ru Yu) λy u2 H2 s2 I2 ry ⟨ey,w2⟩ DP Yw=>?_) (λ_ _ z=>z) λ_ _ hF=>hF.elim)))
  ·rcases List.mem_cons.mp hb with rfl|hb
   ·exact⟨_,hS1,λv z=>by cases z⟩
   ·rcases List.mem_cons.mp hb with rfl|hb
    ·exact⟨oI',hoI',λv z=>by rw[hod] at z;cases z⟩
    ·rw[List.mem_singleton.mp hb]
     exact⟨oF,Yu,hdF⟩
  ·subst ey
   obtain⟨t2,rfl⟩:=ry
   have hS2:=Yw S (by simp) _ hS1
   have hI2:=Yw It (by simp) _ hoI'
   have hF2:=Yw f (by simp) _ Yu
   have hit2:s2.heap.IsListIter It l (j+1+1):=⟨oI',hI2,hoc,hod⟩
   show wpAny _ X.A.in1 (tryCatch (holding [u,.int (ks (j+1)) t2] (richCompare .Lt (.int (ks (j+1)) t2) (.int (ks i) tb) >>= _)) _ >>= _) _ _ _
   refine wpAny_bind (wpAny_tryCatch (wpAny_holding (wpAny_bind (CmpOf.ints_lt (prog:=X.prog) (w:=X.w) (A:=X.A.in1) (P:=λi v=>∃t,v=.int (ks i) t) ks (λi v h=>h) (j+1) i _ _ _ _ _ ⟨t2,rfl⟩ ⟨tb,rfl⟩ ?_))))
   refine wpAny_bind (wpAny_holding (wpAny_truthy_bool ?_))
   refine wpAny_bind (wpAny_letGo (wpAny_pure ?_))
   by_cases hb':ks (j+1)<ks i
   ·have s1:=Heap.SameBut.update s2.heap S (Obj.mapSeq λ_=> #[u,.int (ks (j+1)) t2])
    obtain⟨cc,hc2⟩:∃cc,(s2.heap.update S (Obj.mapSeq λ_=> #[u,.int (ks (j+1)) t2])).get? S=some (seqObj "list" #[u,.int (ks (j+1)) t2] cc):=⟨_,get?_update_seq hS2 λ_=> #[u,.int (ks (j+1)) t2]⟩
    simp only[hb',decide_true,if_true]
    refine wpAny_bind ?_
    refine wpAny_updateSeq hS2 rfl (wpAny_bind (wpAny_letGo ?_))
    rw[hname]
    have nIS:=yV hS2 hit2
    refine wpAny_pure ⟨plainId_quiet PySem.F.plain_min_loop _,ih (j+1) (j+1) H2 _ u t2 cc _ (by omega) hlt (ů (t':=s2.toks) I2 (DP S (by simp)) λb o hb e=>(s1.2 b hb).trans e) w2 hc2 ⟨oI',(s1.2 It nIS.symm).trans hI2,hoc,hod⟩ ((s1.2 f hFS).trans hF2) DP hx2 ru (Nat.le_refl _) λj' hj'=>?_⟩
    by_cases e:j'=j+1
    ·subst e
     exact⟨by omega,λ_=>by omega⟩
    ·have hb1:=hbest j' (by omega)
     have hb2:=hb1.1
     exact⟨by omega,λ_=>by omega⟩
   ·simp only[hb',decide_false,Bool.false_eq_true,if_false]
    refine wpAny_bind (wpAny_letGo ?_)
    rw[hname]
    refine wpAny_pure ⟨plainId_quiet PySem.F.plain_min_loop _,ih (j+1) i H2 s2 vb tb c v (by omega) hlt I2 w2 hS2 hit2 hF2 DP hv rv (by omega) λj' hj'=>?_⟩
    by_cases e:j'=j+1
    ·subst e
     exact⟨by omega,λ_=>by omega⟩
    ·exact hbest j' (by omega)
def zJ{Q:Value->Shared->Prop}{E:Value->Shared->Prop}(hh:X.A.handled=none)(hl:∀k H,W k H->ū X.K H l xs)(hdF:∀v,oF.data≠ .cell v)
 (turn:∀k v,xs[k]?=some v->∀pins H s u,Inv X pins σ H s->W k H->RelV v u->s.heap.get? f=some oF->wpAny (model X.prog X.w) X.A.in1 (call (.ref f) [u]) (EP X pins σ λy H'=>y=.int (ks k)/\W (k+1) H') (λ_ _=>False) s)
 (hQ:∀i v u H s,xs[i]?=some v->RelV v u->(∀j,j<xs.length->ks i<=ks j/\(j<i->ks i<ks j))->Inv X pins σ H s->W xs.length H->Q u s)
 (hQ0:∀H s,xs=[]->Inv X pins σ H s->W 0 H->Q .none s)
 (I:Inv X pins σ H s)(w0:W 0 H)(hF:s.heap.get? f=some oF)(hfo:b_ X pins H f) :
 wpAny (model X.prog X.w) X.A (call (.builtin "min") [.ref l] [(Str.ofString "key",.ref f),(Str.ofString "default",.none)]) Q E s:=by
 have hname:(toString "min" ++ toString ".loop" :String)= "min.loop" := by decide
 obtain⟨its,ri,pl,_⟩:=I.list (hl _ _ w0)
 have hls:=pl.isList
 obtain⟨ol,hol,_⟩:=id hls
 have hll:l<s.heap.objs.size:=Heap.lt_size hol
 refine kmk_tree PySem.F.kind_min PySem.F.plain_min PySem.F.entry_min (HB _ _) ?_
 show wpAny _ X.A.in1 (Builtin.Builtins.bindParams "min" ["key","default"] 0 ⟨[],[(Str.ofString "key",.ref f),(Str.ofString "default",.none)]⟩ >>= _) _ _ s
 refine wpAny_bind (wpAny_of_eq (show Builtin.Builtins.bindParams "min" ["key","default"] 0 ⟨[],[(Str.ofString "key",.ref f),(Str.ofString "default",.none)]⟩=pure [some (.ref f),some .none] from rfl) ?_)
 refine wpAny_bind (wpAny_pure ?_)
 refine wpAny_bind (wpAny_pyIter_list hls ?_)
 refine wpAny_bind (wpAny_newList ?_ (Nat.zero_le _))
 rw[hname]
 have hS:(s.heap.push {cls:=.type "list_iterator",data:=.fields #[.ref l,.int 0 0]}).objs.size=s.heap.objs.size+1:=size_push' ..
 generalize hSd:(s.heap.push {cls:=.type "list_iterator",data:=.fields #[.ref l,.int 0 0]}).objs.size=S at hS ⊢
 refine wpAny_pure ⟨plainId_quiet PySem.F.plain_min_loop _,?_⟩
 have k0:∀b o,s.heap.get? b=some o->((s.heap.push {cls:=.type "list_iterator",data:=.fields #[.ref l,.int 0 0]}).push (seqObj "list" #[] 0)).get? b=some o:=λb o e=>Heap.get?_push_of_some _ (Heap.get?_push_of_some _ e)
 have gI:((s.heap.push {cls:=.type "list_iterator",data:=.fields #[.ref l,.int 0 0]}).push (seqObj "list" #[] 0)).get? s.heap.objs.size=some {cls:=.type "list_iterator",data:=.fields #[.ref l,.int 0 0]}:=
  Heap.get?_push_of_some _ (Heap.get?_push_size _ rfl)
 have gS:((s.heap.push {cls:=.type "list_iterator",data:=.fields #[.ref l,.int 0 0]}).push (seqObj "list" #[] 0)).get? S=some (seqObj "list" #[] 0):=by rw[<-hSd];exact Heap.get?_push_size _ rfl
 have I0:Inv X pins σ H {s with heap:=(s.heap.push {cls:=.type "list_iterator",data:=.fields #[.ref l,.int 0 0]}).push (seqObj "list" #[] 0)}:=I.kept (t':=s.toks) k0
 have fI:b_ X pins H s.heap.objs.size:=I.tK (Nat.le_refl _) (I.hok.fresh (Nat.le_refl _))
 have fS:b_ X pins H S:=I.tK (by omega) (I.hok.fresh (by omega))
 have hlf:f<s.heap.objs.size:=Heap.lt_size hF
 have hFI:f≠s.heap.objs.size:=Nat.ne_of_lt hlf
 have hFS:f≠S:=Nat.ne_of_lt (by rw[hS];exact Nat.lt_succ_of_lt hlf)
 have hSI:S≠s.heap.objs.size:=by omega
 have Yt:∀b∈[S,s.heap.objs.size,f],b_ X pins H b:=λb hb=>by
  rcases List.mem_cons.mp hb with rfl|hb
  ·exact fS
  ·rcases List.mem_cons.mp hb with rfl|hb
   ·exact fI
   ·rw[List.mem_singleton.mp hb];exact hfo
 obtain⟨Yx,ri0,pl0,_⟩:=I0.list (hl _ _ w0)
 have hsz:Yx.toArray.size=xs.length:=by rw[List.size_toArray,ri0.length]
 have W':=Walks.list (prog:=X.prog) (w:=X.w) (A:=X.A.in1) hh s.heap.objs.size l (Nat.ne_of_lt hll) Yx.toArray
 refine codeAny_builtin PySem.F.entry_min_loop ?_
 rw[Around.under_plainId PySem.F.plain_min_loop _]
 show wpAny _ X.A.in1 (seqItems? (.ref _) >>= _) _ _ _
 refine wpAny_bind (wpAny_seqItems gS rfl ?_)
 show wpAny _ X.A.in1 (tryCatch (pyNext (.ref s.heap.objs.size)) _ >>= _) _ _ _
 by_cases hne:0<xs.length
 case neg=>
  have hxe:xs=[]:=List.length_eq_zero_iff.mp (by omega)
  refine wpAny_bind (wpAny_tryCatch (W'.done _ _ _ ⟨by rw[hsz,hxe];exact⟨_,gI,rfl,rfl⟩,pl0.isList⟩ λh' tk' hk'=>?_))
  have I1:=ů (h':=h') (t':=tk') I0 fI λb o hb e=>hk' b o (by simpa using hb) e
  exact wpAny_bind (wpAny_rule (wpAny_pure (hQ0 _ _ hxe I1 w0)))
 refine wpAny_bind (wpAny_tryCatch (W'.item 0 _ _ _ (by rw[hsz];exact hne) ⟨⟨_,gI,rfl,rfl⟩,pl0.isList⟩ λu h' tk' hP hst' hk'=>?_))
 have hu:Yx[0]?=some u:=by simpa using hP
 have hx0:xs[0]?=some xs[0]:=List.getElem?_eq_getElem hne
 have ru:RelV xs[0] u:=by
  obtain⟨u2,h2,r2⟩:=ri0.get hx0
  rw[hu] at h2
  cases h2
  exact r2
 obtain⟨oI',hoI',hoc,hod⟩:=id hst'.1
 have I1:=ů (h':=h') (t':=tk') I0 fI λb o hb e=>hk' b o (by simpa using hb) e
 have hS1:=hk' S _ (by simpa using hSI) gS
 have Yu:=hk' f _ (by simpa using hFI) (k0 _ _ hF)
 show wpAny _ X.A.in1 (tryCatch (holding [u] (call (.ref f) [u])) _ >>= _) _ _ _
 refine wpAny_bind (wpAny_tryCatch (wpAny_holding (wpAny_mono (rH (fp:=[S,s.heap.objs.size,f]) I1 Yt (λb hb=>?_) (λaU I'=>turn 0 _ hx0 aU H _ u I' w0 ru Yu) λy u2 H2 s2 I2 ry ⟨ey,w2⟩ DP Yw=>?_) (λ_ _ z=>z) λ_ _ hF=>hF.elim)))
 ·rcases List.mem_cons.mp hb with rfl|hb
  ·exact⟨_,hS1,λv z=>by cases z⟩
  ·rcases List.mem_cons.mp hb with rfl|hb
   ·exact⟨oI',hoI',λv z=>by rw[hod] at z;cases z⟩
   ·rw[List.mem_singleton.mp hb]
    exact⟨oF,Yu,hdF⟩
 ·subst ey
  obtain⟨t2,rfl⟩:=ry
  have hS2:=Yw S (by simp) _ hS1
  have hI2:=Yw s.heap.objs.size (by simp) _ hoI'
  have hF2:=Yw f (by simp) _ Yu
  have s1:=Heap.SameBut.update s2.heap S (Obj.mapSeq λ_=> #[u,.int (ks 0) t2])
  obtain⟨cc,hc2⟩:∃cc,(s2.heap.update S (Obj.mapSeq λ_=> #[u,.int (ks 0) t2])).get? S=some (seqObj "list" #[u,.int (ks 0) t2] cc):=⟨_,get?_update_seq hS2 λ_=> #[u,.int (ks 0) t2]⟩
  show wpAny _ X.A.in1 (updateSeq S (λ_=> #[u,.int (ks 0) t2]) >>= _) _ _ _
  refine wpAny_bind ?_
  refine wpAny_updateSeq hS2 rfl ?_
  rw[hname]
  refine wpAny_pure ⟨plainId_quiet PySem.F.plain_min_loop _,zH ks W hh hl hdF hFS hFI turn (λi v u' H' s' a1 a2 a3 a4 a5=>hQ i v u' H' s' a1 a2 a3 a4 a5) _ 0 0 H2 _ u t2 cc _ rfl hne (ů (t':=s2.toks) I2 (DP S (by simp)) λb o hb e=>(s1.2 b hb).trans e) w2 hc2 ⟨oI',(s1.2 _ hSI.symm).trans hI2,hoc,hod⟩ ((s1.2 f hFS).trans hF2) DP hx0 ru (Nat.le_refl _) λj' hj'=>?_⟩
  have e:j'=0:=by omega
  subst e
  exact⟨by omega,λh=>absurd h (Nat.lt_irrefl _)⟩
end
def Yy(K:PySem.W.Frag)(ta:TA)(js:List Nat)(te:TE):TE:=λσ H Q=>ta σ H λvs H1=>∃l xs,vs=[.ref l]/\ū K H1 l xs/\∀c q H2,Same H1 H2->H2 c=some (.Aw q)->(∀a,H1 a=none->H2 a=none\/a=c)->
 ∃(ks:Nat->Int) (W:Nat->Hp->Prop),W 0 H2/\(∀k H,W k H->Same H2 H)/\(∀k v H,xs[k]?=some v->W k H->te (cT js σ v) H λy H'=>y=.int (ks k)/\W (k+1) H')/\
  (∀i v H,xs[i]?=some v->(∀j,j<xs.length->ks i<=ks j/\(j<i->ks i<ks j))->W xs.length H->Q v H)/\(xs=[]->∀H,W 0 H->Q .non H)
section
variable{X:Cx}{x px:Str}{c P:Addr}{params:Arguments}{body e:Expr}{scope:Scope}{p pos Dj kpos dpos HD:Pos}{dj:Nat}{ta:TA}{te:TE}
def HF(N0:List Str)(js:List Nat)(sc:Scope)(hsc:X.env.scope=sc)(hcalm:X.calm=true)(Xk:X.A.depth<recursionLimit)(hx:x∈lams)(ht:PySem.W.tabIn X.K x=some (c,P))(hcode:X.env.code=.ref c)(hq:X.env.qual=x ++ ".<locals>.")
 (hg:Gl X "min")(hm:X.mg "min" =none)(ha:PA X [e] ta)(he:∀cl f c' s H,PE (Ef X (N0 ++ [px]) (aR x) scope cl f c' X.A.in1 s H) body te)(hcap:cQ X sc scope N0 js)(hlen:js.length=N0.length:=by rfl)
 (hbind:∀(cl:List (Str×Addr)) (pm ctv:Value) (c':Addr) (u:Value),bindArgs (PySem.W.kla_fn "<lambda>" (aR x) params body scope cl pm (.ref c') ctv) ⟨[u],[]⟩=pure [(px,u)]:=by intros;rfl)
 (hk:scope.kind=.function:=by rfl)(hcell:∀y∈scope.names,y.2≠ .cell:=by decide +kernel)(hpx:scope.names.lookup px=some .local:=by rfl)(hco:scope.isCoroutine=false:=by rfl)(hgen:scope.isGenerator=false:=by rfl)
 (hfree:∀y∈scope.names,y.2=.free->(sc.names.lookup y.1=some .cell\/sc.names.lookup y.1=some .free):=by decide +kernel)(hdef:defaultsOf params X.env=([],[]):=by rfl)
 (hst:starEach [e] X.env=[(false,eval e X.env)]:=by rfl)(hpl:(backTo pos (starEach [e] X.env)).any (·.1)=false:=by rfl) :
 PE X (.Call (.Name "min" p) [e] [⟨some "key",.Lambda params body scope Dj,kpos⟩,⟨some "default",.Constant .none dj dpos,HD⟩] pos) (Yy X.K ta js te):=by
 intro pins s σ H Q I h
 obtain⟨cl,c1,c2,c3⟩:=dF (scope:=scope) (env:=X.env) λy hy hf=>I.ok.has y.1 (by
  have:=hfree y hy hf
  rw[<-hsc] at this
  exact this)
 have hh:=I.ok.hd hcalm
 refine wpAny_Call_Name_kw (fM I hg hm (show bootBuiltins "min" =some (.builtin "min") by kernel_rfl) ?_ (by decide) (by decide))
 refine callWith_kw (ł (ha pos pins s σ H _ I h) λus s1 ⟨vs,H1,I1,r1,q1⟩=>?_) (by rw[hst];rfl) hpl rfl rfl
 obtain⟨l,xs,rfl,hs1,q1⟩:=q1
 have eus:us=[.ref l]:=by
  cases r1 with
  |cons a b=>
   cases b
   exact congrArg (λz=>[z]) (show _=Value.ref l from a)
 subst eus
 show wpAny _ _ (evalAll ((do let v <-eval (.Lambda params body scope Dj) X.env;standAt pos;pure v)::(do let v <-eval (.Constant .none dj dpos) X.env;standAt pos;pure v)::[])) _ _ s1
 refine wpAny_evalAll_cons (wpAny_bind (Ga I1 hx ht hcode hq hdef c1 λf c' pm ctv H2 s2 I2 nw sm hc hf fo=>wpAny_bind (wpAny_standAt (wpAny_pure ?_))))
 refine wpAny_evalAll_cons (wpAny_bind ?_)
 refine Constant_none ?_
 refine wpAny_bind (wpAny_standAt (wpAny_pure ?_))
 refine wpAny_evalAll_nil ?_
 obtain⟨ks,W,w0,wm,wt,wq,wq0⟩:=q1 c' _ H2 sm hc nw
 refine zJ (xs:=xs) ks W hh (λk H w=>(wm k H w).seq (sm.seq hs1)) (λv z=>by cases z) (λk v hv aU H' s' u I' w ru hf'=>?_) (λi v u H' s' hv ru hb I' w=>⟨v,H',I',ru,wq i v H' hv hb w⟩) (λH' s' hx I' w=>⟨.non,H',I',rfl,wq0 hx H' w⟩) I2 w0 hf fo
 exact Gb (A:=X.A.in1) (te:=te) (N0:=N0) (js:=js) hsc hk hcap hlen hcell hpx hco hgen I.ok.frames hh Xk c2 c3 (hbind cl pm ctv c') (λs H=>he cl f c' s H) I' hf' (wm k H' w c' _ hc) ru (wt k v H' hv w)
end
end M5
namespace P
open PySem PySem.Spec PyProof.Rows L2 M2 M3 M5
def gC:List PV->List Int->Option PV
 | [],_=>some .non
 |p::ps,ks=>uI (p::ps) ks
def HJ{items:List PV}{ks:List Int}{b:PV}(h:0<items.length)(e:gC items ks=some b):uI items ks=some b:=by
 cases items with
 |nil=>simp at h
 |cons p ps=>exact e
def zK(js:List Nat)(me:M PV)(mr:M (List PV)):M PV:=λρ=>(mr ρ).bind λps ρ1=>match ps with
 | [.lst items]=>match wU js me ρ1 items with
   |some ks=>Res.nO (gC items ks) ρ1
   |none=>.bad
 |_=>.bad
@[simp] theorem Zci{js:List Nat}{me:M PV}{mr:M (List PV)}{ρ:Ĺ}:zK js me mr ρ=(mr ρ).bind fun ps ρ1=>match ps with
  | [.lst items]=>match wU js me ρ1 items with
    |some ks=>Res.nO (gC items ks) ρ1
    |none=>.bad
  |_=>.bad:=rfl
section
variable{X:Cx}{cm:String->Addr}{E:L2.St->XK}{x px:Str}{c Pt:Addr}{params:Arguments}{body e:Expr}{scope:Scope}{p pos Dj kpos dpos HD:Pos}{dj:Nat}{mr:M (List PV)}{me:M PV}
def Nu{k:Nat}(N0:List Str)(js:List Nat)(sc:Scope)(hr:Ő (k+2) X.A)(hsc:X.env.scope=sc)(hcalm:X.calm=true)(hx:x∈lams)(ht:PySem.W.tabIn X.K x=some (c,Pt))(hcode:X.env.code=.ref c)(hq:X.env.qual=x ++ ".<locals>.")
 (hg:Gl X "min")(hm:X.mg "min" =none)(ha:PA X [e] (LQ (kk X cm) E mr))(he:∀cl f c' s H,Ő k (Ef X (N0 ++ [px]) (aR x) scope cl f c' X.A.in1 s H).A->(Ef X (N0 ++ [px]) (aR x) scope cl f c' X.A.in1 s H).A.units+64<cLine->PE (Ef X (N0 ++ [px]) (aR x) scope cl f c' X.A.in1 s H) body (tV (kk X cm) EF me))(hcap:cQ X sc scope N0 js)(hlen:js.length=N0.length:=by rfl)
 (hbind:∀(cl:List (Str×Addr)) (pm ctv:Value) (c':Addr) (u:Value),bindArgs (PySem.W.kla_fn "<lambda>" (aR x) params body scope cl pm (.ref c') ctv) ⟨[u],[]⟩=pure [(px,u)]:=by intros;rfl)
 (hk:scope.kind=.function:=by rfl)(hcell:∀y∈scope.names,y.2≠ .cell:=by decide +kernel)(hpx:scope.names.lookup px=some .local:=by rfl)(hco:scope.isCoroutine=false:=by rfl)(hgen:scope.isGenerator=false:=by rfl)
 (hfree:∀y∈scope.names,y.2=.free->(sc.names.lookup y.1=some .cell\/sc.names.lookup y.1=some .free):=by decide +kernel)(hdef:defaultsOf params X.env=([],[]):=by rfl)
 (hst:starEach [e] X.env=[(false,eval e X.env)]:=by exact bF rfl)(hpl:(backTo pos (starEach [e] X.env)).any (·.1)=false:=by rfl) :
 PE X (.Call (.Name "min" p) [e] [⟨some "key",.Lambda params body scope Dj,kpos⟩,⟨some "default",.Constant .none dj dpos,HD⟩] pos) (tV (kk X cm) E (zK js me mr)):=λpins s σ H Q I h=>
 HF N0 js sc hsc hcalm hr.depth hx ht hcode hq hg hm ha (λcl f c' s H=>he cl f c' s H (hr.in1.deeper _) (hr.in1.deeper _).units) hcap hlen hbind hk hcell hpx hco hgen hfree hdef hst hpl pins s σ H Q I (by
  obtain⟨cc,F,ρ,rel,h⟩:=h
  refine⟨cc,F,ρ,rel,h.bind λps ρ1 vs F1 H1 Ď s1 s2 q h1=>?_⟩
  split at h1
  rotate_left
  ·exact h1.elim
  rename_i items
  split at h1
  rotate_left
  ·exact h1.elim
  rename_i kl hk'
  obtain⟨kl1,kl2⟩:=su hk'
  cases hb:gC items kl with
  |none=>rw[hb] at h1;exact h1.elim
  |some b=>
   rw[hb] at h1
   have q':Paired (rR (kk X cm) cc σ ρ1 F1 H1) [.lst items] vs:=q
   obtain⟨l,xs,rfl,hs,hr⟩:∃l xs,vs=[.ref l]/\ū X.K H1 l xs/\Ĕ (kk X cm) F1 items xs:=by
    cases q' with
    |cons a b=>
     cases b
     rcases a with a|a
     ·unfold Rep at a
      obtain⟨l,xs,rfl,e1,e2⟩:=a
      exact⟨l,xs,rfl,Ď.sub.seq e1,e2⟩
     ·obtain⟨l,xs,rfl,e1,e2⟩:=a
      exact⟨l,xs,rfl,ū.of e1,e2⟩
   have len:items.length=xs.length:=hr.length
   refine⟨l,xs,rfl,hs,λc q H2 sm hc nw=>⟨λk=>kl.getD k 0,λ_ H=>∃F',Gr F1 H2 F' H,⟨F1,Gr.refl (Ď.sub.trans sm)⟩,λk H ⟨F',g⟩=>g.h,λk v H hv ⟨F',g⟩=>?_,λi v H hv hbest ⟨F',g⟩=>?_,λhx H ⟨F',g⟩=>?_⟩⟩
   ·have ĳ:Rel (kk X cm) cc F1 H2 σ ρ1:=Ď.call ⟨sm,Same.refl _,Ď.sub.trans sm,λ_ _ z=>z⟩
    have hki:k<items.length:=by rw[len];exact(List.getElem?_eq_some_iff.mp hv).1
    obtain⟨ρ',hme⟩:=kl2 k items[k] (List.getElem?_eq_getElem hki)
    obtain⟨v',hv',rv⟩:=aV hr.pr (List.getElem?_eq_getElem hki)
    rw[hv] at hv'
    cases hv'
    refine⟨ctx0 F' H,F',lamP js ρ1 items[k],(ĳ.call g).lam js (Rep.same g.f _ _ rv),?_⟩
    rw[hme]
    intro y F2 H3 oM _ _ ry
    have ry':Rep (kk X cm) F2 (.int (kl.getD k 0)) y:=ry
    unfold Rep at ry'
    exact⟨ry',F2,g.trans oM.gr⟩
   ·have ĳ:Rel (kk X cm) cc F1 H2 σ ρ1:=Ď.call ⟨sm,Same.refl _,Ď.sub.trans sm,λ_ _ z=>z⟩
    have hii:i<items.length:=by rw[len];exact(List.getElem?_eq_some_iff.mp hv).1
    obtain⟨v',hv',rv⟩:=aV hr.pr (List.getElem?_eq_getElem hii)
    rw[hv] at hv'
    cases hv'
    have eb:=uJ kl1 (HJ (by omega) hb) (List.getElem?_eq_getElem hii) (λj hj=>hbest j (by rw[<-len];exact hj))
    subst eb
    exact h1 v F' H (ĳ.call g) g.f (sm.trans g.h) (Rep.same g.f _ _ rv)
   ·have ĳ:Rel (kk X cm) cc F1 H2 σ ρ1:=Ď.call ⟨sm,Same.refl _,Ď.sub.trans sm,λ_ _ z=>z⟩
    have hi0:items=[]:=List.length_eq_zero_iff.mp (by rw[len,hx];rfl)
    subst hi0
    cases(show some PV.non=some b from hb)
    exact h1 .non F' H (ĳ.call g) g.f (sm.trans g.h) (show Rep (kk X cm) F' .non .non by unfold Rep;rfl))
end
end P
namespace PySem
namespace F
def HN:typeLookup (.type "list_reverseiterator") "__len__" =pure none:=by rw[typeLookup_type,builtinLookup_eq_fast];kernel_rfl
def Nv:typeLookup (.type "list_reverseiterator") "__length_hint__" =pure (some (.builtin "list_reverseiterator.__length_hint__")):=by rw[typeLookup_type,builtinLookup_eq_fast];kernel_rfl
end F
section
variable{prog:Program}{w:World}{A:Around}{E:Value->Shared->Prop}{s:Shared}
def qR{Q:Value->Shared->Prop}{I l:Addr}{items:Array Value}(hh:A.handled=none)(hit:s.heap.IsRevIter I l ((items.size:Int)-1))(hl:s.heap.IsList l items)(hne:l≠I)(hn:items.size<=sizeLine)
 (hQ:∀h' tk acc' c',(∀b o,b≠I→s.heap.get? b=some o→h'.get? b=some o)→
   h'.get? s.heap.objs.size=some {cls:=.type "list",dict:=none,data:=.seq acc' c',slots:=#[]}->ItemsOf (λi v=>items[items.size-1-i]?=some v) acc' items.size->Q (.ref s.heap.objs.size) {s with heap:=h',toks:=tk}) :
 wpAny (model prog w) A (call (.type "list") [.ref I]) Q E s:=by
 refine callType_codes (Q₁:= λobj s₁=>obj=.ref s.heap.objs.size/\s₁= {s with heap:=s.heap.push {cls:=.type "list",data:=.seq #[]}}) F.called_list (F.typeCall_list_1 _) F.entry_list_init
  (code_list_new _ ⟨rfl,rfl⟩) λobj s₁ h₁=>?_
 obtain⟨rfl,rfl⟩:=h₁
 generalize hSd:s.heap.objs.size=S at hQ ⊢
 have hS:(s.heap.push {cls:=.type "list",data:=.seq #[]}).get? S=some {cls:=.type "list",data:=.seq #[]}:=by rw[<-hSd];exact Heap.get?_push_size _ rfl
 have hIlt:I<S:=by obtain⟨_,e,_⟩:=hit;rw[<-hSd];exact Heap.lt_size e
 have Zfg:l<S:=by obtain⟨_,e,_⟩:=hl;rw[<-hSd];exact Heap.lt_size e
 refine⟨⟨_,hS,rfl⟩,F.args_list_init_2 _ _,?_⟩
 show wpAny _ _ (do let old <-Builtin.List.listItems (.ref S);Builtin.List.listUpdate (.ref S) (λ_=> #[]);letGo old.toList.reverse;Builtin.List.listExtendWith (.ref S) (.ref I) .none) _ _ _
 refine wpAny_bind ?_
 unfold Builtin.List.listItems
 refine wpAny_bind (wpAny_seqItems hS rfl (wpAny_pure ?_))
 show wpAny _ _ (updateSeq S (λ_=> #[]) >>= λ_=>letGo (#[]:Array Value).toList.reverse >>= λ_=>Builtin.List.listExtendWith (.ref S) (.ref I) .none) _ _ _
 refine wpAny_bind (wpAny_updateSeq hS rfl ?_)
 have hS₂:= Heap.get?_update_self (Obj.mapSeq (λ_=>(#[]:Array Value))) hS rfl
 have oth:∀b o,s.heap.get? b=some o->((s.heap.push {cls:=.type "list",data:=.seq #[]}).update S (Obj.mapSeq (λ_=>(#[]:Array Value)))).get? b=some o:=
  λb o e=>(Heap.get?_update_other _ _ (by rw[<-hSd];exact(Nat.ne_of_lt (Heap.lt_size e)).symm)).trans (Heap.get?_push_of_some _ e)
 refine wpAny_bind (wpAny_letGo ?_)
 have W:=(Walks.listRev (prog:=prog) (w:=w) (A:=A.in1.in1) hh I l hne items).toS
 have e0:(items.size:Int)-1-((0:Nat):Int)=(items.size:Int)-1:=by omega
 have hit₁:= hit.at λo e=>oth I o e
 have hl₁:= hl.at λo e=>oth l o e
 have h1:Builtin.List.listSameRef (.ref S) (.ref I)=false:=by simp[Builtin.List.listSameRef,(Nat.ne_of_lt hIlt).symm]
 unfold Builtin.List.listExtendWith
 refine wpAny_bind (wpAny_typeOf (T:= "list_reverseiterator") hit₁.typeIs ?_)
 rw[if_neg (by rw[h1];decide)]
 refine wpAny_bind (wpAny_pyIter_revIter hit₁ ?_)
 refine wpAny_bind (wpAny_holding ?_)
 unfold Builtin.List.listLengthHint
 refine wpAny_bind (wpAny_specialOf hit₁.typeIs F.HN ?_)
 show wpAny _ _ (specialOf (Value.ref I) (Str.ofString "__length_hint__") >>= _) _ _ _
 refine wpAny_bind (wpAny_specialOf hit₁.typeIs F.Nv ?_)
 (generalize hid:("list_reverseiterator.__length_hint__" :String)=id0;(fail_if_success (clear hid id0));wp_delta;rw[show splitId id0=some ("list_reverseiterator","__length_hint__") from by subst hid;decide +kernel];subst hid)
 refine wpAny_bind (wpAny_isInstance (T:= "list_reverseiterator") (b:=true) hit₁.typeIs (by rw[isSubtype_type];kernel_rfl) ?_)
 refine wpAny_pure ?_
 rw[if_neg (by decide)]
 refine wpAny_pure ⟨plainId_quiet F.plain_extend_loop _,codeAny_extend_loopS W hn S (by simp[(Nat.ne_of_lt hIlt).symm,(Nat.ne_of_lt Zfg).symm]) .none items.size 0 _ #[] _ rfl (Nat.zero_le _) ⟨Nat.zero_le _,by rw[e0];exact hit₁,hl₁⟩ hS₂ (ItemsOf.nil _) λs' acc' c' hm hS' hacc=>?_⟩
 rw[Moved.eq_with hm]
 refine⟨rfl,hQ s'.heap s'.toks acc' c' (λb o hb e=>hm.heap b o (λhmem=>?_) (oth b o e)) hS' hacc⟩
 rcases List.mem_cons.mp hmem with e'|hmem
 ·exact absurd (e'.trans hSd.symm) (Nat.ne_of_lt (Heap.lt_size e))
 ·exact hb (by simpa using hmem)
end
end PySem
namespace P
open PySem PySem.Spec PyProof.Rows L2 M2 M3 M4
def Itv(K:PySem.W.Frag)(a:Addr)(n:Nat):It:=
 ⟨λi H=>∃xs x,ū K H a xs/\xs.length=n/\i<n/\xs[n-1-i]?=some x,λi H x H'=>H'=H/\∀xs,ū K H a xs->xs[n-1-i]?=some x,λi H=>i=n/\∃xs,ū K H a xs⟩
def HS{P:Program}{w:World}{K:PySem.W.Frag}{tg:Expr}(a it:Addr)(n:Nat):Turn P w K tg (Itv K a n) [it] it (λi h=>h.IsRevIter it a ((n:Int)-1-(i:Int))) where
 mem:=by simp
 obj:=λi h st b hb=>by
  have e:b=it:=by simpa using hb
  subst e
  obtain⟨o,e,c,d⟩:=st
  exact⟨o,e,λv z=>by rw[d] at z;cases z⟩
 keep:=λi h h' st k=>st.at λo e=>k it (by simp) o e
 item:=by
  intro X hP hw hK hc i pins s σ H E I hf st hg
  subst hP hw hK
  obtain⟨xs,x,hq,hn,hi,hx⟩:=hg
  obtain⟨its,rv,p,hz⟩:=I.list hq
  obtain⟨u,hu,ru⟩:=rv.get hx
  obtain⟨f0,f1,f2,f3,f4,f5⟩:=hf it (by simp)
  have e1:(n:Int)-1-(i:Int)=((n-1-i:Nat):Int):=by omega
  have st0:=st
  rw[e1] at st0
  refine wpAny_pyNext_rev_item st0 p.isList (x:=u) (by simpa using hu) λh' st' sb=>?_
  have e2:((n-1-i:Nat):Int)-1=(n:Int)-1-((i+1:Nat):Int):=by omega
  rw[e2] at st'
  have I1:Inv X pins σ H {s with heap:=h'}:=I.turned (t':=s.toks) (λb o hb e=>(sb.2 b hb).trans e) f0 f1 f3 f4 f5
  obtain⟨o,e,c,d⟩:=id st'
  exact⟨u,rfl,vQ (s:={s with heap:=h'}) e c d (by decide) ⟨x,H,I1,ru,⟨rfl,λys hy=>by rw[I.vO hy hq];exact hx⟩,st',λb hb=>(hf b hb).1⟩⟩
 done:=by
  intro X hP hw hK hc i pins s σ H E I hf st hg
  subst hP hw hK
  obtain⟨hi,xs,hq⟩:=hg
  obtain⟨f0,f1,f2,f3,f4,f5⟩:=hf it (by simp)
  have e1:(n:Int)-1-(i:Int)= -1:=by omega
  have st0:=st
  rw[e1] at st0
  exact wpAny_pyNext_rev_end (I.ok.hd hc) st0 λh' eb=>⟨rfl,I.turned (t':=s.toks) (λb o hb e=>eb b o hb e) f0 f1 f3 f4 f5⟩
 self:=λ_ _ _ _ _ st h=>wpAny_pyIter_revIter st h
section
variable{X:Cx}{cm:String->Addr}{E:L2.St->XK}{tg e l:Expr}{p pos p1 pos1:Pos}{mi:M (List PV)}
def Zfh(K:PySem.W.Frag)(ta:TA):TI:=λσ H R=>ta σ H λvs H1=>∃a xs,vs=[.ref a]/\ū K H1 a xs/\R (Itv K a xs.length) H1
def Yz{ta:TA}(hg:Gl X "reversed")(hm:X.mg "reversed" =none)(ha:PA X [l] ta)(hs:starEach [l] X.env=[(false,eval l X.env)]:=by exact bF rfl):PI X tg (.Call (.Name "reversed" p) [l] [] pos) (Zfh X.K ta):=by
 intro pins s σ H R I h
 refine Call_ (fM I hg hm boot_reversed (PyProof.Rows.callWith_type1 (ł (ha pos pins s σ H _ I h) λus s1 ⟨vs,H1,I1,r1,q1⟩=>?_) hs rfl))
 obtain⟨a,xs,e,hq,q⟩:=q1
 subst e
 obtain⟨u,rfl,ru⟩:=r1.one
 cases ru
 obtain⟨its,rv,pl,hz⟩:=I1.list hq
 have hlen:its.toArray.size=xs.length:=by rw[List.size_toArray,<-rv.length]
 refine call_reversed_list pl.isList ?_
 have I2:Inv X pins σ H1 {s1 with heap:=s1.heap.push (revObj a ((its.toArray.size:Int)-1))}:=I1.kept (t':=s1.toks) λb o e=>Heap.get?_push_of_some _ e
 have st:(s1.heap.push (revObj a ((its.toArray.size:Int)-1))).IsRevIter s1.heap.objs.size a ((xs.length:Int)-1-((0:Nat):Int)):=⟨_,Heap.get?_push_size _ rfl,rfl,by rw[hlen];simp[revObj]⟩
 refine wpAny_pyIter_revIter (s:={s1 with heap:=s1.heap.push (revObj a ((its.toArray.size:Int)-1))}) st ⟨s1.heap.objs.size,[s1.heap.objs.size],_,_,H1,rfl,I2,HS a _ xs.length,st,λb hb=>?_,q⟩
 have e:b=s1.heap.objs.size:=by simpa using hb
 subst e
 exact I1.tK (Nat.le_refl _) (I1.hok.fresh (Nat.le_refl _))
def Cd(m:M (List PV)):M (List PV):=λρ=>(m ρ).bind λps ρ1=>.ok ps.reverse ρ1
@[simp] theorem Zdt{m:M (List PV)}{ρ:Ĺ}:Cd m ρ=(m ρ).bind λps ρ1=>.ok ps.reverse ρ1:=rfl
def HW{K:KK}{L F H:Hp}{a:Addr}{ps:List PV}{xs:List V}(hn:ps.length=xs.length)(hq:∀(c:Ctx) (F2 H2:Hp) (σ:L2.St) (ρ:Ĺ),Rel K c F2 H2 σ ρ->Same F F2->Same L H2->ū K.K H2 a xs/\Ĕ K F2 ps xs):Mi K L F (Itv K.K a xs.length) ps.reverse:=by
 intro c i F2 H2 σ ρ rel sF sL
 obtain⟨h1,h2⟩:=hq c F2 H2 σ ρ rel sF sL
 refine⟨λp hp=>?_,λhi=>⟨by rw[hi,List.length_reverse,hn],xs,h1⟩⟩
 have hi:i<ps.length:=by have:=(List.getElem?_eq_some_iff.mp hp).1;simpa using this
 rw[List.getElem?_reverse hi] at hp
 obtain⟨u,hu,ru⟩:=aV h2.pr hp
 rw[hn] at hu
 refine⟨⟨xs,u,h1,rfl,by omega,hu⟩,λx H' ⟨hH,hx⟩=>?_⟩
 subst hH
 have:=hx xs h1
 rw[hu] at this
 cases this
 exact⟨F2,rel,Same.refl _,Same.refl _,ru⟩
def Zcj{m:M PV}(hg:Gl X "reversed")(hm:X.mg "reversed" =none)(hl:PE X l (tV (kk X cm) E m))(hs:starEach [l] X.env=[(false,eval l X.env)]:=by exact bF rfl):PI X tg (.Call (.Name "reversed" p) [l] [] pos) (tI (kk X cm) E (Cd (mLs m))):=
 λpins s σ H R I h=>Yz hg hm (g_ hl ou hs) hs pins s σ H R I (by
  obtain⟨c,F,ρ,rel,h⟩:=h
  unfold Cd mLs at h
  rw[Res.DK] at h
  refine⟨c,F,ρ,rel,h.bind λq ρ1 v F1 H1 Ď s1 s2 r1 h1=>?_⟩
  cases q with
  |lst ps=>
   have r1':Rep (kk X cm) F1 (.lst ps) v:=r1
   unfold Rep at r1'
   obtain⟨a,xs,rfl,e1,e2⟩:=r1'
   exact⟨a,xs,rfl,Ď.sub.seq e1,h1 _ F1 H1 Ď (Same.refl _) (Same.refl _) (HW (H:=H1) e2.length λc' F2 H2 σ2 ρ2 ĳ sF _=>⟨(sF.trans ĳ.sub).seq e1,Ĕ.same sF _ _ e2⟩)⟩
  |_=>exact h1.elim)
def HX(m:M PV):M RV:=λρ=>(m ρ).bind λp ρ1=>match p with
 | .lst ps=>.ok (.ow ps.reverse) ρ1
 |_=>.bad
@[simp] theorem Zdu{m:M PV}{ρ:Ĺ}:HX m ρ=(m ρ).bind fun p ρ1=>match p with
  | .lst ps=>.ok (.ow ps.reverse) ρ1
  |_=>.bad:=rfl
theorem xg:∀{xs:List V} {us:List Value},Vals xs us->Vals xs.reverse us.reverse
 |_,_,.nil=>.nil
 |_,_,.cons r t=>by
  rw[List.reverse_cons,List.reverse_cons]
  exact(xg t).append (.cons r .nil)
def Zck(K:PySem.W.Frag)(ta:TA):TE:=λσ H Q=>ta σ H λvs H1=>∃a xs,vs=[.ref a]/\ū K H1 a xs/\∀l,H1 l=none->Q (.ref l) (upd H1 l (.lst xs.reverse))
def Nx{ta:TA}(hc:X.calm=true)(hg1:Gl X "list")(hm1:X.mg "list" =none)(hg:Gl X "reversed")(hm:X.mg "reversed" =none)(ha:PA X [l] ta)(hs:starEach [l] X.env=[(false,eval l X.env)]) :
 PE X (.Call (.Name "list" p1) [.Call (.Name "reversed" p) [l] [] pos] [] pos1) (Zck X.K ta):=by
 intro pins s σ H Q I h
 refine Call_ (fM I hg1 hm1 PySem.Pv.boot_list (PyProof.Rows.callWith_type1 ?_ rfl rfl))
 refine Calls.spliced_cons ?_
 refine Call_ (fM I hg hm boot_reversed (PyProof.Rows.callWith_type1 (ł (ha pos pins s σ H _ I h) λus s1 ⟨vs,H1,I1,r1,q1⟩=>?_) hs rfl))
 obtain⟨a,xs,e,hq,q⟩:=q1
 subst e
 obtain⟨u,rfl,ru⟩:=r1.one
 cases ru
 obtain⟨its,rv,pl,hz⟩:=I1.list hq
 obtain⟨oa,hoa,_⟩:=id pl.isList
 refine call_reversed_list pl.isList (Calls.spliced_nil ?_)
 have hsz:its.toArray.size<=sizeLine:=by rw[List.size_toArray,<-rv.length];exact hz
 have hS:(s1.heap.push (revObj a ((its.toArray.size:Int)-1))).objs.size=s1.heap.objs.size+1:=size_push' ..
 refine qR (I:=s1.heap.objs.size) (l:=a) (items:=its.toArray) (I1.ok.hd hc) ⟨_,Heap.get?_push_size _ rfl,rfl,rfl⟩ (pl.isList.at λo e=>Heap.get?_push_of_some _ e) (Nat.ne_of_lt (Heap.lt_size hoa)) hsz λh' tk acc' c' hk hD hI=>?_
 have ea:acc'.toList=its.reverse:=by
  refine List.ext_getElem? λi=>?_
  by_cases hi:i<its.length
  ·have hi2:i<acc'.size:=by rw[hI.1];simpa using hi
   have e1:=hI.2 i acc'[i] (Array.getElem?_eq_getElem hi2)
   rw[List.getElem?_reverse hi]
   have e2:its[its.length-1-i]?=some acc'[i]:=by simpa using e1
   rw[e2]
   simp[hi2]
  ·rw[List.getElem?_eq_none (by have:=hI.1;simp at this ⊢;omega),List.getElem?_eq_none (by simp;omega)]
 refine⟨.ref _,_,I1.laid (a:=(s1.heap.push (revObj a ((its.toArray.size:Int)-1))).objs.size) (t':=tk) (λb o e=>hk b o (Nat.ne_of_lt (Heap.lt_size e)) (Heap.get?_push_of_some _ e)) (by rw[hS];exact Nat.le_succ _) (show Ł X.prog X.w _ h' _ (.lst xs.reverse) from⟨by rw[List.length_reverse];exact hz,acc'.toList,c',?_,by simpa using hD⟩),rfl,q _ (I1.hok.fresh (by rw[hS];exact Nat.le_succ _))⟩
 rw[ea]
 exact xg rv
def YB{m:M PV}(hc:X.calm=true)(hg1:Gl X "list")(hm1:X.mg "list" =none)(hg:Gl X "reversed")(hm:X.mg "reversed" =none)(hl:PE X l (tR (kk X cm) E m))(hs:starEach [l] X.env=[(false,eval l X.env)]:=by exact bF rfl) :
 PE X (.Call (.Name "list" p1) [.Call (.Name "reversed" p) [l] [] pos] [] pos1) (tO (kk X cm) E (HX m)):=
 PE.wk (Nx hc hg1 hm1 hg hm (g_ hl ou hs) hs) fun σ H Q ⟨c,F,ρ,rel,h⟩=>⟨c,F,ρ,rel,h.bind fun q ρ1 v F1 H1 Ď s1 s2 r1 h1=>by
   cases q with
   |lst ps=>
    have r0:rR (kk X cm) c σ ρ1 F1 H1 (.lst ps) v:=r1
    obtain⟨a,xs,rfl,q1,q2⟩:=r0.lst Ď.sub
    refine⟨a,xs,rfl,q1,λl hl=>?_⟩
    obtain⟨k1,k2⟩:=cX Ď hl (Ĕ.of (Gd q2.pr))
    exact h1 _ _ _ k1 (Same.refl _) (Same.upd hl) k2
   |_=>exact h1.elim⟩
end
end P
namespace P
open PySem PySem.Spec PyProof.Rows L2 M2 M3 M4
mutual
def jN(K:PySem.W.Frag):PV->Value->Bool
 | .int i,v=>match v with
   | .int j _=>decide (i=j)
   |_=>false
 | .tup ps,v=>match v with
   | .ref a=>match K.lookup a with
     |some o=>(match o.cls with
      | .type t=>decide (t= "tuple")
      |_=>false) && match o.data with
      | .seq its _=>decide (its.size<=16777216) && HY K ps its.toList
      |_=>false
     |none=>false
   |_=>false
 |_,_=>false
def HY(K:PySem.W.Frag):List PV->List Value->Bool
 | [],vs=>vs.isEmpty
 |p::ps,vs=>match vs with
  |v::r=>jN K p v && HY K ps r
  | []=>false
end
mutual
theorem Ce{K:KK}:∀(p:PV) (v:Value),jN K.K p v=true->∃x,RelV x v/\∀F,Rep K F p x
 | .int i,v,h=>by
   unfold jN at h
   split at h
   ·rename_i j t
    have:=of_decide_eq_true h
    subst this
    exact⟨.int i,⟨t,rfl⟩,λF=>by unfold Rep;rfl⟩
   ·cases h
 | .tup ps,v,h=>by
   unfold jN at h
   split at h
   ·rename_i a
    split at h
    ·rename_i o ho
     rw[Bool.and_eq_true] at h
     obtain⟨h1,h2⟩:=h
     split at h1
     ·rename_i t ht
      have et:=of_decide_eq_true h1
      subst et
      split at h2
      ·rename_i its n hd
       rw[Bool.and_eq_true] at h2
       obtain⟨xs,h3,h4⟩:=xq ps its.toList h2.2
       refine⟨.ref a,rfl,λF=>?_⟩
       unfold Rep
       exact⟨a,xs,rfl,.inr ⟨o,its,n,ho,ht,hd,by rw[Ĵ];exact of_decide_eq_true h2.1,h3⟩,h4 F⟩
      ·cases h2
     ·cases h1
    ·cases h
   ·cases h
 | .non,_,h=>by unfold jN at h;cases h
 | .bl _,_,h=>by unfold jN at h;cases h
 | .str _,_,h=>by unfold jN at h;cases h
 | .lst _,_,h=>by unfold jN at h;cases h
 | .ins _ _ _,_,h=>by unfold jN at h;cases h
 | .xc _ _ _,_,h=>by unfold jN at h;cases h
 | .ty _,_,h=>by unfold jN at h;cases h
 | .cls _,_,h=>by unfold jN at h;cases h
theorem xq{K:KK}:∀(ps:List PV) (vs:List Value),HY K.K ps vs=true->∃xs,Vals xs vs/\∀F,Ĕ K F ps xs
 | [],vs,h=>by
   unfold HY at h
   cases vs with
   |nil=>exact⟨[],.nil,λF=>Ĕ.nil⟩
   |cons _ _=>cases h
 |p::ps,vs,h=>by
  unfold HY at h
  cases vs with
  |nil=>cases h
  |cons v r=>
   rw[Bool.and_eq_true] at h
   obtain⟨x,h1,h2⟩:=Ce p v h.1
   obtain⟨xs,h3,h4⟩:=xq ps r h.2
   exact⟨x::xs,.cons h1 h3,λF=>Ĕ.cons (h2 F) (h4 F)⟩
end
def Ny{K:KK}{p:PV}{a:Addr}(h:jN K.K p (.ref a)=true)(F:Hp):Rep K F p (.ref a):=by
 obtain⟨x,h1,h2⟩:=Ce p _ h
 cases x with
 |ref b=>
  have e:Value.ref a=Value.ref b:=h1
  cases e
  exact h2 F
 |non=>cases(show Value.ref a=Value.none from h1)
 |bl b=>cases(show Value.ref a=Value.bool b from h1)
 |int i=>obtain⟨t,e⟩:=(show ∃t,Value.ref a=Value.int i t from h1);cases e
 |str i=>obtain⟨t,e⟩:=(show ∃t,Value.ref a=Value.str i t from h1);cases e
 |ty n=>cases(show Value.ref a=Value.type n from h1)
 |Km i=>obtain⟨t,e⟩:=(show ∃t,Value.ref a=Value.bytes i t from h1);cases e
 |flt i=>obtain⟨t,e⟩:=(show ∃t,Value.ref a=Value.float i t from h1);cases e
end P
namespace P
open PySem PySem.Spec PyProof.Rows L2 M2 M3 M4
section
variable{X:Cx}{cm:String->Addr}{E:L2.St->XK}{tg:Expr}{a b d:Expr}{p pos:Pos}{mr:M (List PV)}
end
end P
namespace My
end My
namespace Hu
abbrev Pt:=Int×Int
def tn(a b c:Pt):Int:=(b.1-a.1)*(c.2-a.2)-(b.2-a.2)*(c.1-a.1)
section
variable{S:List Pt}{p:Pt}
end
abbrev Ln:=Int×Int×Int
def hd(l:Ln)(p:Pt):Bool:=decide (l.1*p.1+l.2.1*p.2<=l.2.2)
def Z2(a b:Pt):Ln:=(b.2-a.2,a.1-b.1,(b.2-a.2)*a.1+(a.1-b.1)*a.2)
def Z1L{a b s:Pt}:hd (Z2 a b) s=true↔0<=tn a b s:=by
 unfold hd Z2
 rw[decide_eq_true_iff]
 have e:tn a b s=((b.2-a.2)*a.1+(a.1-b.1)*a.2)-((b.2-a.2)*s.1+(a.1-b.1)*s.2):=by simp only[tn];grind
 dsimp only
 omega
def Z1(S:List Pt):List Pt:=S.foldl (λk x=>if x∈k then k else k ++ [x]) []
theorem Z0c(x:Pt):∀(S k:List Pt),x∈S.foldl (λk x=>if x∈k then k else k ++ [x]) k↔x∈k\/x∈S
 | [],k=>by simp
 |y::S,k=>by
  rw[List.foldl_cons,Z0c x S]
  by_cases h:y∈k
  ·rw[if_pos h]
   constructor
   ·rintro (q|q)
    ·exact .inl q
    ·exact .inr (List.mem_cons_of_mem _ q)
   ·rintro (q|q)
    ·exact .inl q
    ·rcases List.mem_cons.mp q with e|e
     ·exact .inl (e▸h)
     ·exact .inr e
  ·rw[if_neg h]
   simp only[List.mem_append,List.mem_cons,List.not_mem_nil,or_false]
   constructor
   ·rintro ((q|q)|q)
    ·exact .inl q
    ·exact .inr (.inl q)
    ·exact .inr (.inr q)
   ·rintro (q|q|q)
    ·exact .inl (.inl q)
    ·exact .inl (.inr q)
    ·exact .inr q
def Zn{x:Pt}{S:List Pt}:x∈Z1 S↔x∈S:=by unfold Z1;rw[Z0c];simp
def ZB(S:List Pt):List Ln:=(Z1 S).flatMap λa=>(Z1 S).filterMap λb=>if a≠b/\(Z1 S).all (hd (Z2 a b)) then some (Z2 a b) else none
def Z0Y{S:List Pt}{l:Ln}:l∈ZB S↔∃a∈S,∃b∈S,a≠b/\(∀s∈S,0<=tn a b s)/\l=Z2 a b:=by
 unfold ZB
 simp only[List.mem_flatMap,List.mem_filterMap]
 constructor
 ·rintro ⟨a,ha,b,hb,h⟩
  split at h
  ·rename_i hc
   refine⟨a,Zn.mp ha,b,Zn.mp hb,hc.1,λs hs=>?_,(Option.some.inj h).symm⟩
   exact Z1L.mp (List.all_eq_true.mp hc.2 s (Zn.mpr hs))
  ·cases h
 ·rintro ⟨a,ha,b,hb,h1,h2,rfl⟩
  refine⟨a,Zn.mpr ha,b,Zn.mpr hb,?_⟩
  rw[if_pos ⟨h1,List.all_eq_true.mpr λs hs=>Z1L.mpr (h2 s (Zn.mp hs))⟩]
def mx(l:List Int):Int:=l.tail.foldl max (l.headD 0)
def mn(l:List Int):Int:=l.tail.foldl min (l.headD 0)
def box(S:List Pt):List Ln:=[(1,0,mx (S.map (·.1))),(-1,0,- mn (S.map (·.1))),(0,1,mx (S.map (·.2))),(0,-1,- mn (S.map (·.2)))]
def Zr(S:List Pt):List Ln:=box S++ZB S
def Z0M(S:List Pt)(p:Pt):Option Ln:=(Zr S).find? λl=>!hd l p
def at_(S:List Pt)(i:Nat):Pt:=S.getD i (0,0)
structure Z2D(S:List Pt)(p:Pt)(w:List Int)(q:List Nat):Prop where
 len:w.length=q.length
 sum:w.sum≠0
 sign:∀s∈w,0<=s*w.sum
 nd:q.Nodup
 lt:∀i∈q,i<S.length
 x:((w.zip q).map λa=>a.1*(at_ S a.2).1).sum=w.sum*p.1
 y:((w.zip q).map λa=>a.1*(at_ S a.2).2).sum=w.sum*p.2
end Hu
namespace Fr
end Fr
namespace T
open PySem L2 M2 M3 M4 P
noncomputable section
def top(i:Nat):Stmt:=PySem.Challenge.pw_shadowpost_k63_walks_refused.main.body.getD i (.Pass ⟨0,0,0,0⟩)
abbrev Qc:Stmt:=top 72
abbrev Qd:Stmt:=top 66
abbrev Qe:Stmt:=top 67
abbrev Qf:Stmt:=top 71
abbrev Qg:Stmt:=top 73
abbrev Qh:Stmt:=inClass (top 30) 0
abbrev Qi:Stmt:=top 69
abbrev Qj:Stmt:=top 68
abbrev Qk:Stmt:=top 70
abbrev Ql:Stmt:=top 48
abbrev Qm:Stmt:=top 49
abbrev Qn:Stmt:=top 51
abbrev Zcl:Stmt:=inClass (top 58) 0
abbrev Qo:Stmt:=top 52
abbrev Qp:Stmt:=top 53
abbrev Zcm:Stmt:=top 54
abbrev Zcn:Stmt:=top 50
abbrev Qq:Stmt:=top 55
abbrev Qs:Stmt:=top 64
abbrev Qt:Stmt:=top 74
abbrev Qu:Stmt:=top 75
abbrev Qw:Stmt:=top 77
abbrev Qx:Stmt:=top 31
abbrev Qy:Stmt:=top 34
abbrev Qz:Stmt:=top 33
abbrev QB:Stmt:=top 35
abbrev QC:Stmt:=top 18
abbrev QD:Stmt:=top 32
abbrev QF:Stmt:=top 12
abbrev QG:Stmt:=top 14
abbrev QH:Stmt:=top 13
abbrev QJ:Stmt:=top 11
abbrev QK:Stmt:=top 15
abbrev QL:Stmt:=top 16
abbrev QM:Stmt:=top 20
abbrev QS:Stmt:=top 56
abbrev QT:Stmt:=top 57
abbrev QV:Stmt:=inClass (top 59) 0
abbrev QW:Stmt:=inClass (top 60) 0
abbrev QX:Stmt:=inClass (top 61) 0
abbrev Zco:Stmt:=inClass (top 62) 0
abbrev QZ:Stmt:=inClass (top 63) 0
abbrev Q_:Stmt:=top 22
abbrev Ra:Stmt:=top 24
abbrev Rb:Stmt:=top 25
abbrev Rf:Stmt:=top 26
abbrev Zcp:Stmt:=top 27
abbrev Rg:Stmt:=top 28
abbrev Rh:Stmt:=top 19
abbrev Zcq:Stmt:=top 38
abbrev H_:Stmt:=top 39
abbrev Ri:Stmt:=top 40
abbrev Rj:Stmt:=top 41
abbrev Rk:Stmt:=top 42
abbrev Rm:Stmt:=top 43
abbrev Rn:Stmt:=top 44
abbrev Ro:Stmt:=top 76
abbrev Rq:Stmt:=top 78
abbrev Zcr:Stmt:=inClass (top 5) 0
abbrev Zcs:Stmt:=inClass (top 6) 0
abbrev Zfi:Stmt:=inClass (top 7) 0
abbrev Zfj:Stmt:=inClass (top 9) 0
def Zb:List ((String×String)×Bool):=[(("YardError","BadRow"),false),(("YardError","BadThing"),false),(("YardError","NoDay"),false),(("YardError","NoNumber"),false),(("YardError","NoRow"),false),(("YardError","NoStone"),false),(("YardError","NoTurn"),false),(("NoNumber","BadRow"),false),(("NoNumber","BadThing"),false),(("NoNumber","NoDay"),false),(("NoNumber","NoNumber"),true),(("NoNumber","NoRow"),false),(("NoNumber","NoStone"),false),(("NoNumber","NoTurn"),false),(("BadThing","BadRow"),false),(("BadThing","BadThing"),true),(("BadThing","NoDay"),false),(("BadThing","NoNumber"),false),(("BadThing","NoRow"),false),(("BadThing","NoStone"),false),(("BadThing","NoTurn"),false),(("NoStone","BadRow"),false),(("NoStone","BadThing"),false),(("NoStone","NoDay"),false),(("NoStone","NoNumber"),false),(("NoStone","NoRow"),false),(("NoStone","NoStone"),true),(("NoStone","NoTurn"),false),(("NoTurn","BadRow"),false),(("NoTurn","BadThing"),false),(("NoTurn","NoDay"),false),(("NoTurn","NoNumber"),false),(("NoTurn","NoRow"),false),(("NoTurn","NoStone"),false),(("NoTurn","NoTurn"),true),(("BadRow","BadRow"),true),(("BadRow","BadThing"),false),(("BadRow","NoDay"),false),(("BadRow","NoNumber"),false),(("BadRow","NoRow"),false),(("BadRow","NoStone"),false),(("BadRow","NoTurn"),false),(("NoRow","BadRow"),false),(("NoRow","BadThing"),false),(("NoRow","NoDay"),false),(("NoRow","NoNumber"),false),(("NoRow","NoRow"),true),(("NoRow","NoStone"),false),(("NoRow","NoTurn"),false),(("NoDay","BadRow"),false),(("NoDay","BadThing"),false),(("NoDay","NoDay"),true),(("NoDay","NoNumber"),false),(("NoDay","NoRow"),false),(("NoDay","NoStone"),false),(("NoDay","NoTurn"),false)]
def Zj:List ((String×String)×Bool):=[(("YardError","ValueError"),true),(("NoNumber","ValueError"),true),(("BadThing","ValueError"),true),(("NoStone","ValueError"),true),(("NoTurn","ValueError"),true),(("BadRow","ValueError"),true),(("NoRow","ValueError"),true),(("NoDay","ValueError"),true)]
def Zo:List String:=["BadRow","BadThing","NoDay","NoNumber","NoRow","NoStone","NoTurn"]
def Zp:List String:=["ValueError"]
def cmB(c0:Addr)(c1:Addr)(c2:Addr)(c3:Addr)(c4:Addr)(c5:Addr)(c6:Addr)(c7:Addr)(c8:Addr)(c9:Addr)(c10:Addr)(c11:Addr)(c12:Addr)(c13:Addr)(c14:Addr):String->Addr:=λs=>match s with
 | "YardError" =>c0
 | "NoNumber" =>c1
 | "BadThing" =>c2
 | "NoStone" =>c3
 | "NoTurn" =>c4
 | "BadRow" =>c5
 | "NoRow" =>c6
 | "NoDay" =>c7
 | "Yard" =>c8
 | "Thing" =>c9
 | "Post" =>c10
 | "Fence" =>c11
 | "Sail" =>c12
 | "Cloth" =>c13
 | "House" =>c14
 |_=>0
def gD:M Fl:=(Ĝ (fK (iK (cV (ą Œ (ą İ (ą ś (Ā 0) (mC (.int 7))) (mC (.int 16))) (mC (.int 11)))) (cV (ą Mu (Ā 1) (mC (.int 6)))))
 (ħ (ŉ (ą Ė (Đ (Ž (Ą (Ŀ (Ą (mC (.int 1)) (Ą (mC (.int 20)) ę))) (Ą (Ŀ (Ą (mC (.int 20)) (Ą (mC (.int 1)) ę))) ę)))) (ą İ (Ā 0) (mC (.int 2))))))
 jy)
 (Ĝ (Ī 2 (ġ ğ (mC (.int 1)) (ą İ (Ā 0) (fG oX (Ą (mC (.int 5)) (Ą (Ā 1) ę))))))
 (ħ (ŉ (Ŀ (Ą (ě 2) (Ą (Đ (ġ ğ (mC (.int 1)) (ą İ (ą ś (Ā 0) (mC (.int 5))) (fG oX (Ą (mC (.int 4)) (Ą (ą ś (Ā 1) (Ā 2)) ę)))))) ę)))))))
def iW:MF:=į 2 3 gD
def zL:M Fl:=(Ĝ (fK (cV (ą jE (Ā 1) (fG jo (Ą (Ā 0) ę))))
 (ħ (ŉ (ą Ė (Ā 0) (Ā 1))))
 jy)
 (ħ (ŉ (mC (.int 0)))))
def ų:MF:=į 2 2 zL
def lq:M Fl:=(fK (cV (ą Œ (ą İ (Ā 0) (mC (.int 2))) (mC (.int 0))))
 (Ĝ (mQ 2 (ą İ (Ā 3) (mC (.int 524287))))
 (Ī 3 (ŉ (ą ś (Ā 3) (mC (.int 524287))))))
 (Ĝ (Ī 3 (ŉ (ą İ (Đ (ġ ğ (Đ (ġ ğ (ą Ĥ (Ā 3) (mC (.int 49157))) (mC (.int 24593)))) (ą Ĥ (mC (.int 2)) (Ā 4)))) (mC (.int 8388593)))))
 (mQ 2 (ą ś (Ā 3) (mC (.int 16))))))
def zM:M Fl:=(Ĝ (Ī 2 (Ž ę))
 (Ĝ (Ī 3 (ŉ (ą ś (Ā 0) (mC (.int 2)))))
 (Ĝ (fK (cV (ą Œ (ą İ (Ā 0) (mC (.int 2))) (mC (.int 1))))
 (Ī 3 (ŉ (ą İ (Ā 3) (mC (.int 8388593)))))
 jy)
 (Ĝ (kW (cA bI (Ą (ě 1) ę)) (gN 4) lq)
 (ħ (fW 2))))))
def pG:MF:=į 2 5 zM
def zN:M Fl:=(Ĝ (fK (cV (ą Œ (ą İ (ą Ė (Ā 0) (mC (.int 4))) (mC (.int 6))) (mC (.int 4))))
 (ħ (ŉ (mC .non)))
 jy)
 (Ĝ (Ī 1 (ŉ (ą Ė (Đ (Ž (Ą (mC (.int 1)) (Ą (mC (.int 1)) (Ą (mC (.int 3)) (Ą (ą iU (mC (.int 10)) (mC (.int 5))) ę)))))) (ą İ (ą Ė (Ā 0) (mC (.int 3))) (mC (.int 4))))))
 (ħ (ŉ (Ŀ (Ą (ą Ĥ (ą ľ (ą İ (ą Ė (Ā 0) (mC (.int 0))) (mC (.int 13))) (mC (.int 6))) (Ā 1)) (Ą (ą Ĥ (ą ľ (ą İ (ą Ė (Ā 0) (mC (.int 1))) (mC (.int 13))) (mC (.int 6))) (Ā 1)) (Ą (ą Ĥ (Đ (ġ ğ (mC (.int 1)) (ą İ (ą Ė (Ā 0) (mC (.int 2))) (mC (.int 5))))) (Ā 1)) ę))))))))
def pH:MF:=į 1 2 zN
def uL:M Fl:=(Ĝ (Ī 8 (Ē pG (đ (Đ (ġ ğ (ą ś (Đ (Ē ų (Ć 0 (đ (Đ (ġ ğ (Ā 1) (Ā 7))) ď)))) (mC (.int 12))) (ą Ĥ (mC (.int 5)) (Ā 7)))) (đ (Đ (ġ ğ (ą Ĥ (mC (.int 5)) (Ā 3)) (mC (.int 2)))) ď))))
 (Ĝ (Ī 9 (ŏ [8] 1 (cA bI (Ą (Đ (ġ ğ (mC (.int 1)) (ą İ (ą Ė (Ā 8) (mC (.int 1))) (Ā 3)))) ę)) (gN 1) ő (Đ (Ē pH (đ (Đ (Ej (Ā 0) (mP (Đ (ġ ğ (mC (.int 2)) (ą Ĥ (mC (.int 5)) (Ā 1))))) (mP (Đ (ġ ğ (mC (.int 7)) (ą Ĥ (mC (.int 5)) (Ā 1))))))) ď)))))
 (mQ 6 (Ŀ (Ą (ą Ė (Ā 4) (Ā 7)) (Ą (Đ (ġ ğ (mC (.int 1)) (ą İ (ą Ĥ (ą Ė (Ā 8) (mC (.int 0))) (mC (.int 1907))) (ą iU (mC (.int 10)) (mC (.int 9)))))) (Ą (ě 9) ę)))))))
def Ia:M Fl:=(Ĝ (Ī 4 (Ž (Ą (mC (.str "ab")) (Ą (mC (.str "a")) (Ą (mC (.str "abc")) (Ą (mC (.str "b")) (Ą (mC (.str "ba")) (Ą (mC (.str "z")) (Ą (mC (.str "zz")) (Ą (mC (.str "zzz")) (Ą (mC (.str "abcdefgh")) (Ą (mC (.str "abcdefgi")) (Ą (mC (.str "aa")) (Ą (mC (.str "bb")) ę))))))))))))))
 (Ĝ (Ī 5 (ŉ (ą İ (Đ (Ē ų (Ć 0 (Ć 1 ď)))) (mC (.int 12)))))
 (Ĝ (Ī 4 (ġ ğ (Đ (Ej (Ā 4) (mP (ě 5)) Dp)) (Đ (Ej (Ā 4) Dp (mP (ě 5))))))
 (Ĝ (Ī 6 (Ž ę))
 (Ĝ (kW (cA bI (Ą (ě 2) ę)) (gN 7) uL)
 (ħ (fW 6)))))))
def xr:MF:=į 4 10 Ia
def zO:M Fl:=(Ĝ (iV 0 ["Yard"] "width" (ě 1))
 (Ĝ (iV 0 ["Yard"] "height" (ě 2))
 (Ĝ (iV 0 ["Yard"] "things" (Đ (oK eG (Ą (Ā 3) ę))))
 (iV 0 ["Yard"] "days" (Đ (ŏ [] 3 (ŗ 4) (gT 3 (Ĩ (gN 0) (Ĩ (gN 1) (Ĩ (gN 2) aL)))) ő (Ŀ (Ą (ě 0) (Ą (ě 1) (Ą (Đ (oK eG (Ą (Ā 2) ę))) ę))))))))))
def nW:MI:=bL 5 5 "Yard" zO
def zP:M Fl:=(Ĝ (fK (cV (ą Œ (ą İ (ą ś (Ā 0) (mC (.int 512))) (mC (.int 12))) (mC (.int 7))))
 (ħ (ġ ğ (mC (.int 1)) (ą İ (ą Ĥ (Ā 0) (mC (.int 1907))) (ą iU (mC (.int 10)) (mC (.int 9))))))
 jy)
 (ħ (ġ ğ (mC (.int 1)) (ą İ (Ā 0) (mC (.int 9))))))
def sy:MF:=į 1 1 zP
def zQ:M Fl:=(Ĝ (fK (cV (ą Œ (ą İ (ą ś (Ā 0) (mC (.int 512))) (mC (.int 16))) (mC (.int 5))))
 (ħ (ġ ğ (ą ľ (ą İ (ą Ĥ (Ā 0) (mC (.int 3813))) (ą ľ (ą Ĥ (mC (.int 2)) (ą iU (mC (.int 10)) (mC (.int 9)))) (mC (.int 99)))) (ą iU (mC (.int 10)) (mC (.int 9)))) (mC (.int 50))))
 jy)
 (ħ (ŉ (ą ľ (ą İ (Ā 0) (Đ (ġ ğ (ą Ĥ (mC (.int 2)) (Ā 1)) (mC (.int 9))))) (mC (.int 4))))))
def iY:MF:=į 2 2 zQ
def lu:M Fl:=(Ĝ (Ī 2 (Ē pG (Ć 0 (đ (mC (.int 14)) ď))))
 (Ĝ (Mg (gS 2 (Ĩ (gN 5) (Ĩ (gN 6) aL))) (Đ (ŏ [1,2] 1 (cA bI (Ą (mC (.int 2)) ę)) (gN 2) ő (Đ (Ē iY (đ (ą Ė (Ā 1) (Ā 2)) (Ć 0 ď)))))))
 (Ĝ (Ī 3 (Ē sy (đ (ą Ė (Ā 2) (mC (.int 2))) ď)))
 (Ĝ (Ī 4 (ŉ (ą İ (ą Ė (Ā 2) (mC (.int 3))) (mC (.int 5)))))
 (Ĝ (fK (cV (ą Œ (Ā 4) (mC (.int 0))))
 (ħ (ŉ (Ŀ (Ą (mC (.str "post")) (Ą (Đ (Ž (Ą (ą ś (Ā 5) (mC (.int 2))) (Ą (ą ś (Ā 6) (mC (.int 2))) (Ą (ě 3) ę))))) ę)))))
 jy)
 (Ĝ (fK (cV (ą Œ (Ā 4) (mC (.int 1))))
 (Ĝ (Mg (gS 2 (Ĩ (gN 7) (Ĩ (gN 8) aL))) (Đ (Ž (Ą (ą ľ (Đ (ġ ğ (Ā 5) (ą İ (ą Ė (Ā 2) (mC (.int 4))) (mC (.int 9))))) (mC (.int 4))) (Ą (ą ľ (Đ (ġ ğ (Ā 6) (ą İ (ą Ė (Ā 2) (mC (.int 5))) (mC (.int 9))))) (mC (.int 4))) ę)))))
 (ħ (ŉ (Ŀ (Ą (mC (.str "fence")) (Ą (Đ (Ž (Ą (ě 5) (Ą (ě 6) (Ą (Đ (ġ ğ (Ā 7) (fG Hv (Ą (ą Œ (Ŀ (Ą (ě 5) (Ą (ě 6) ę))) (Ŀ (Ą (ě 7) (Ą (ě 8) ę)))) ę)))) (Ą (ě 8) (Ą (ě 3) ę))))))) ę))))))
 jy)
 (Ĝ (fK (cV (ą Œ (Ā 4) (mC (.int 2))))
 (ħ (ŉ (Ŀ (Ą (mC (.str "cloth")) (Ą (Đ (ġ ğ (Đ (ġ ğ (Đ (Ž (Ą (ě 5) (Ą (ě 6) (Ą (ą İ (ą Ė (Ā 2) (mC (.int 6))) (mC (.int 10))) ę))))) (Đ (Ž (Ą (Đ (Ē iY (đ (ą Ė (Ā 2) (mC (.int 7))) (Ć 1 ď)))) (Ą (Đ (Ē iY (đ (ą Ė (Ā 2) (mC (.int 8))) (Ć 1 ď)))) (Ą (ě 3) ę))))))) (Đ (Ž (Ą (Đ (Ē iY (đ (ą Ė (Ā 2) (mC (.int 9))) (Ć 1 ď)))) (Ą (Đ (Ē iY (đ (ą Ė (Ā 2) (mC (.int 10))) (Ć 1 ď)))) (Ą (Đ (Ē sy (đ (ą Ė (Ā 2) (mC (.int 11))) ď))) ę))))))) ę)))))
 jy)
 (ħ (ŉ (Ŀ (Ą (ą Ė (Đ (Ž (Ą (mC (.str "sail")) (Ą (mC (.str "house")) ę)))) (ą ľ (Ā 4) (mC (.int 3)))) (Ą (Đ (Ž (Ą (ě 5) (Ą (ě 6) (Ą (Đ (ġ ğ (Đ (ġ ğ (Ā 5) (mC (.int 1)))) (ą İ (ą Ė (Ā 2) (mC (.int 4))) (mC (.int 8))))) (Ą (Đ (ġ ğ (Đ (ġ ğ (Ā 6) (mC (.int 1)))) (ą İ (ą Ė (Ā 2) (mC (.int 5))) (mC (.int 8))))) (Ą (ě 3) ę))))))) ę))))))))))))
def iZ:MF:=į 2 9 lu
def Ib:M Fl:=(ħ (ŉ (kJ jm jm (aK aZ (mC (.int (1000000000)))) (Ā 0) (mC (.int (1000000000))))))
def lY:MF:=į 1 1 Ib
def Ie:M Fl:=(ħ (ŉ (kJ jm jm (mC (.int 1)) (Ā 0) (mC (.int (1000000000))))))
def xu:MF:=į 1 1 Ie
def zR:M Fl:=(ħ (ŉ (dI (ą Œ (fG jo (Ą (Ā 0) ę)) (mC (.int 3))) (dI (Đ (Ē lY (đ (ą Ė (Ā 0) (mC (.int 0))) ď))) (dI (Đ (Ē lY (đ (ą Ė (Ā 0) (mC (.int 1))) ď))) (Đ (Ē xu (đ (ą Ė (Ā 0) (mC (.int 2))) ď))))))))
def xG:MF:=į 1 1 zR
def eO:M Fl:=(Ĝ (iV 0 ["Thing","Post","Fence","Sail","Cloth","House"] "word" (ě 1))
 (iV 0 ["Thing","Post","Fence","Sail","Cloth","House"] "numbers" (Đ (oK eG (Ą (Ā 2) ę)))))
def uM:MI:=bL 3 3 "Post" eO
def pI:MI:=bL 3 3 "Fence" eO
def uN:MI:=bL 3 3 "Sail" eO
def pJ:MI:=bL 3 3 "Cloth" eO
def pK:MI:=bL 3 3 "House" eO
def zT:M Fl:=(ħ (ŉ (dI (ą Œ (fG jo (Ą (Ā 0) ę)) (mC (.int 5))) (dI (fG wA (Ą (Đ (ŏ [] 1 (ũ (Đ (Ej (Ā 0) Dp (mP (mC (.int 4)))))) (gN 0) ő (Đ (Ē lY (Ć 0 ď))))) ę)) (Đ (Ē xu (đ (ą Ė (Ā 0) (mC (.int 4))) ď)))))))
def sE:MF:=į 1 1 zT
def zU:M Fl:=(ħ (ŉ (dI (Đ (Ē sE (Ć 0 ď))) (ą jF (Đ (Ej (Ā 0) Dp (mP (mC (.int 2))))) (Đ (Ej (Ā 0) (mP (mC (.int 2))) (mP (mC (.int 4)))))))))
def xH:MF:=į 1 1 zU
def Ig:M Fl:=(ħ (ŉ (dI (Đ (Ē sE (Ć 0 ď))) (dI (ą jE (ą Ė (Ā 0) (mC (.int 0))) (ą Ė (Ā 0) (mC (.int 2)))) (ą jE (ą Ė (Ā 0) (mC (.int 1))) (ą Ė (Ā 0) (mC (.int 3))))))))
def DQ:MF:=į 1 1 Ig
def Rr:M Fl:=(ħ (ŉ (dI (Đ (Ē lY (đ (ą Ė (Ā 0) (mC (.int 0))) ď))) (dI (Đ (Ē lY (đ (ą Ė (Ā 0) (mC (.int 1))) ď))) (kJ jm jm (mC (.int 0)) (ą Ė (Ā 0) (mC (.int 2))) (mC (.int (1000000000))))))))
def Nz:MF:=į 1 1 Rr
def zV:M Fl:=(ħ (ŉ (dI (ą Œ (fG jo (Ą (Ā 0) ę)) (mC (.int 9))) (fG wA (Ą (Đ (ŏ [0] 1 (ũ (Ŀ (Ą (mC (.int 0)) (Ą (mC (.int 3)) (Ą (mC (.int 6)) ę))))) (gN 1) ő (Đ (Ē Nz (đ (Đ (Ej (Ā 0) (mP (ě 1)) (mP (Đ (ġ ğ (Ā 1) (mC (.int 3))))))) ď))))) ę)))))
def xJ:MF:=į 1 1 zV
def ju:M Fl:=(Ĝ (fK (iK (cV (ą Œ (Ā 0) (mC (.str "post")))) (cU (Đ (Ē xG (Ć 1 ď)))))
 (ħ (ŉ (bh "Post" uM (Ć 0 (Ć 1 ď)))))
 jy)
 (Ĝ (fK (iK (cV (ą Œ (Ā 0) (mC (.str "fence")))) (cU (Đ (Ē xH (Ć 1 ď)))))
 (ħ (ŉ (bh "Fence" pI (Ć 0 (Ć 1 ď)))))
 jy)
 (Ĝ (fK (iK (cV (ą Œ (Ā 0) (mC (.str "sail")))) (cU (Đ (Ē DQ (Ć 1 ď)))))
 (ħ (ŉ (bh "Sail" uN (Ć 0 (Ć 1 ď)))))
 jy)
 (Ĝ (fK (iK (cV (ą Œ (Ā 0) (mC (.str "cloth")))) (cU (Đ (Ē xJ (Ć 1 ď)))))
 (ħ (ŉ (bh "Cloth" pJ (Ć 0 (Ć 1 ď)))))
 jy)
 (Ĝ (fK (iK (cV (ą Œ (Ā 0) (mC (.str "house")))) (cU (Đ (Ē DQ (Ć 1 ď)))))
 (ħ (ŉ (bh "House" pK (Ć 0 (Ć 1 ď)))))
 jy)
 (zu "BadThing"))))))
def eU:MF:=į 2 2 ju
def bA:M Fl:=(Ĝ (Ī 2 (ŉ (Ŀ (Ą (ą İ (ą ś (Ā 0) (mC (.int 5))) (ą Ė (Ā 1) (mC (.int 0)))) (Ą (ą İ (ą ś (Ā 0) (mC (.int 11))) (ą Ė (Ā 1) (mC (.int 1)))) ę)))))
 (Ĝ (Ī 3 (ŉ (ą Ĥ (fG oX (Ą (ą İ (ą ś (Ā 0) (mC (.int 40))) (ą iU (mC (.int 10)) (mC (.int 9)))) (Ą (ą ľ (ą iU (mC (.int 10)) (mC (.int 9))) (mC (.int 30))) ę))) (ą ś (ą İ (ą ś (Ā 0) (mC (.int 5))) (mC (.int 3))) (mC (.int 2))))))
 (Ĝ (Ī 4 (Ž (Ą (ě 2) (Ą (ě 2) (Ą (Ŀ (Ą (Đ (ġ ğ (ą Ė (Ā 1) (mC (.int 0))) (Ā 3))) (Ą (ą Ė (Ā 2) (mC (.int 1))) ę))) (Ą (Ŀ (Ą (ą Ė (Ā 2) (mC (.int 0))) (Ą (ą ľ (ą ľ (mC (.int 0)) (mC (.int 1))) (Ā 3)) ę))) (Ą (Ŀ (Ą (ą ľ (ą ľ (mC (.int 0)) (mC (.int 1))) (Ā 3)) (Ą (Đ (ġ ğ (ą Ė (Ā 1) (mC (.int 1))) (Ā 3))) ę))) ę)))))))
 (ħ (ŉ (ą Ė (Ā 4) (ą İ (Ā 0) (mC (.int 5)))))))))
def bO:MF:=į 2 5 bA
def lA:M Fl:=(ħ (ŉ (dI (kJ jm jE (mC (.int 0)) (ą Ė (Ā 0) (mC (.int 0))) (ą Ė (Ā 1) (mC (.int 0)))) (kJ jm jE (mC (.int 0)) (ą Ė (Ā 0) (mC (.int 1))) (ą Ė (Ā 1) (mC (.int 1)))))))
def i_:MF:=į 2 2 lA
def pL:M Fl:=(Ĝ (Ī 4 (ŉ (Ŀ (Ą (aK (ń ["Yard"] "width") (Ā 1)) (Ą (aK (ń ["Yard"] "height") (Ā 1)) ę)))))
 (Ĝ (Ī 5 (ŏ [4] 1 (ŗ 3) (gN 1) (iJ (cU (Đ (Ē i_ (Ć 1 (Ć 0 ď)))))) (ě 1)))
 (Ĝ (fK (iK (cV (ą Œ (Ā 5) (Đ (Ž ę)))) (cV (kJ jm jE (mC (.int 0)) (Ā 2) (fG jo (Ą (aK (ń ["Yard"] "days") (Ā 1)) ę)))))
 (ħ (ŉ (ą qO (Ā 0) (mC .non))))
 jy)
 (Ĝ (fK (L_ (cU (fG (wR Zb Zj Zo Zp) (Ą (Ā 0) (Ą (Ŀ (Ą (mC (.cls "BadRow")) (Ą (mC (.cls "BadThing")) (Ą (mC (.cls "NoDay")) (Ą (mC (.cls "NoNumber")) (Ą (mC (.cls "NoRow")) ę)))))) ę)))) (iJ (cU (fG (aM Zb Zj Zo Zp) (Ą (Ā 0) (Ą (mC (.ty "ValueError")) ę))))))
 (ħ (ŉ (mC (.bl false))))
 jy)
 (Ĝ (fK (cV (ą B_ (Ā 5) (Đ (Ž ę))))
 (ħ (ŉ (dI (fG (aM Zb Zj Zo Zp) (Ą (Ā 0) (Ą (mC (.cls "NoStone")) ę))) (dI (Xp (fG (aM Zb Zj Zo Zp) (Ą (Ā 0) (Ą (mC (.cls "NoTurn")) ę)))) (ą Œ (aK (gq ["NoStone"] "stone") (ě 0)) (ą Ė (Ā 5) (mC (.int 0))))))))
 jy)
 (Ĝ (fK (L_ (iJ (cU (fG (aM Zb Zj Zo Zp) (Ą (Ā 0) (Ą (mC (.cls "NoTurn")) ę))))) (cU (fG (aM Zb Zj Zo Zp) (Ą (Ā 0) (Ą (mC (.cls "NoStone")) ę)))))
 (ħ (ŉ (mC (.bl false))))
 jy)
 (ħ (ŉ (dI (ą Œ (aK (gq ["NoTurn"] "day") (ě 0)) (Ā 2)) (ą qO (aK (gq ["NoTurn"] "turn") (ě 0)) (mC .non)))))))))))
def eV:MF:=į 4 6 pL
def lB:M Fl:=(ħ (ŉ (dI (kJ jm jE (mC (.int 0)) (ą Ė (Ā 1) (mC (.int 0))) (aK (ń ["Yard"] "width") (Ā 0))) (kJ jm jE (mC (.int 0)) (ą Ė (Ā 1) (mC (.int 1))) (aK (ń ["Yard"] "height") (Ā 0))))))
def eX:MF:=į 2 2 lB
def zW:M Fl:=(fK (iJ (cU (Đ (Ē eX (Ć 0 (Ć 1 ď))))))
 (nT "NoStone" 2 [("stone",1)] (Ą (ě 1) ę))
 jy)
def pN:MF:=į 2 2 zW
def lE:M Fl:=(ħ (ŉ (kJ jm jE (mC (.int 0)) (Ā 1) (fG jo (Ą (aK (ń ["Yard"] "days") (Ā 0)) ę)))))
def jO:MF:=į 2 2 lE
def zX:M Fl:=(fK (iJ (cU (Đ (Ē jO (Ć 0 (Ć 1 ď))))))
 (nT "NoTurn" 3 [("day",1),("turn",2)] (Ą (ě 1) (Ą (mC .non) ę)))
 jy)
def sG:MF:=į 2 2 zX
def Ih:M Fl:=(ħ (ġ ğ (ą Ĥ (ą Ė (Ā 0) (mC (.int 1))) (Ā 1)) (ą Ė (Ā 0) (mC (.int 0)))))
def pO:MF:=į 2 2 Ih
def Ii:M Fl:=(ħ (ŉ (ą Ė (ą Ė (aK (ń ["Yard"] "days") (Ā 0)) (Ā 1)) (mC (.int 2)))))
def Cg:MF:=į 2 2 Ii
def Ij:M Fl:=(Ĝ (Ī 1 (ŏ [] 1 (ŗ 0) (gN 0) ő (ą Ė (Ā 0) (mC (.int 0)))))
 (Ĝ (Ī 2 (ŏ [] 1 (ŗ 0) (gN 0) ő (ą Ė (Ā 0) (mC (.int 1)))))
 (ħ (Ž (Ą (Ŀ (Ą (mC (.int 1)) (Ą (mC (.int 0)) (Ą (fG jJ (Ą (Ā 1) ę)) ę)))) (Ą (Ŀ (Ą (aK aZ (mC (.int 1))) (Ą (mC (.int 0)) (Ą (aK aZ (fG rY (Ą (Ā 1) ę))) ę)))) (Ą (Ŀ (Ą (mC (.int 0)) (Ą (mC (.int 1)) (Ą (fG jJ (Ą (Ā 2) ę)) ę)))) (Ą (Ŀ (Ą (mC (.int 0)) (Ą (aK aZ (mC (.int 1))) (Ą (aK aZ (fG rY (Ą (Ā 2) ę))) ę)))) ę))))))))
def Ci:MF:=į 1 3 Ij
def lF:M Fl:=(fK (cV (ą (inD true) (Ā 2) (Ā 1)))
 (mQ 1 (ě 2))
 jy)
def Ik:M Fl:=(Ĝ (Ī 1 (Ž ę))
 (Ĝ (kW (ŗ 0) (gN 2) lF)
 (ħ (fW 1))))
def Cj:MF:=į 1 3 Ik
def Il:M Fl:=(Ĝ (Ī 2 (ŉ (ą ľ (ą Ė (Ā 1) (mC (.int 1))) (ą Ė (Ā 0) (mC (.int 1))))))
 (Ĝ (Ī 3 (ŉ (ą ľ (ą Ė (Ā 0) (mC (.int 0))) (ą Ė (Ā 1) (mC (.int 0))))))
 (ħ (ŉ (Ŀ (Ą (ě 2) (Ą (ě 3) (Ą (Đ (ġ ğ (ą Ĥ (Ā 2) (ą Ė (Ā 0) (mC (.int 0)))) (ą Ĥ (Ā 3) (ą Ė (Ā 0) (mC (.int 1)))))) ę))))))))
def Ck:MF:=į 2 4 Il
def Im:M Fl:=(ħ (ŉ (ą jm (Đ (ġ ğ (ą Ĥ (ą Ė (Ā 0) (mC (.int 0))) (ą Ė (Ā 1) (mC (.int 0)))) (ą Ĥ (ą Ė (Ā 0) (mC (.int 1))) (ą Ė (Ā 1) (mC (.int 1)))))) (ą Ė (Ā 0) (mC (.int 2))))))
def sI:MF:=į 2 2 Im
def lG:M Fl:=(Ĝ (Ī 5 (Ē Ck (Ć 3 (Ć 4 ď))))
 (fK (iK (cV (ą jF (Ā 3) (Ā 4))) (cU (fG wA (Ą (Đ (ŏ [5] 1 (ŗ 2) (gN 1) ő (Đ (Ē sI (Ć 0 (Ć 1 ď)))))) ę))))
 (mQ 1 (ě 5))
 jy))
def uO:M Fl:=(kW (ŗ 2) (gN 4) lG)
def Io:M Fl:=(Ĝ (Ī 1 (Ž ę))
 (Ĝ (Ī 2 (Ē Cj (Ć 0 ď)))
 (Ĝ (kW (ŗ 2) (gN 3) uO)
 (ħ (fW 1)))))
def Cm:MF:=į 1 6 Io
def Ip:M Fl:=(ħ (ġ ğ (Đ (Ē Ci (Ć 0 ď))) (Đ (Ē Cm (Ć 0 ď)))))
def Cp:MF:=į 1 1 Ip
def Ir:M Fl:=(ħ (ŉ (Ŀ (Ą (Đ (ġ ğ (ą Ĥ (ą Ė (Ā 1) (mC (.int 2))) (ą Ė (Ā 0) (mC (.int 0)))) (ą Ĥ (ą Ė (Ā 1) (mC (.int 0))) (ą Ė (Ā 0) (mC (.int 2)))))) (Ą (Đ (ġ ğ (ą Ĥ (ą Ė (Ā 1) (mC (.int 2))) (ą Ė (Ā 0) (mC (.int 1)))) (ą Ĥ (ą Ė (Ā 1) (mC (.int 1))) (ą Ė (Ā 0) (mC (.int 2)))))) ę)))))
def sJ:MF:=į 2 2 Ir
def Iu:M Fl:=(ħ (Ž (Ą (Ŀ (Ą (ě 0) (Ą (ě 1) (Ą (ě 4) ę)))) (Ą (Ŀ (Ą (ě 2) (Ą (ě 1) (Ą (ě 4) ę)))) (Ą (Ŀ (Ą (ě 2) (Ą (ě 3) (Ą (ě 4) ę)))) (Ą (Ŀ (Ą (ě 0) (Ą (ě 3) (Ą (ě 4) ę)))) ę))))))
def sO:MF:=į 5 5 Iu
def Iv:M Fl:=(ħ (ġ ğ (Đ (Ē sO (Ć 0 (Ć 1 (Ć 2 (Ć 3 (đ (mC (.int 0)) ď))))))) (Đ (Ē sO (Ć 0 (Ć 1 (Ć 2 (Ć 3 (Ć 4 ď)))))))))
def xK:MF:=į 5 5 Iv
def Iw:M Fl:=(Ĝ (Ī 1 (ŉ (ą Ĥ (mC (.int 2)) (ą Ė (aK (ń ["Thing","Post","Fence","Sail","Cloth","House"] "numbers") (Ā 0)) (mC (.int 0))))))
 (Ĝ (Ī 2 (ŉ (ą Ĥ (mC (.int 2)) (ą Ė (aK (ń ["Thing","Post","Fence","Sail","Cloth","House"] "numbers") (Ā 0)) (mC (.int 1))))))
 (ħ (Ē xK (đ (ą ľ (Ā 1) (mC (.int 1))) (đ (ą ľ (Ā 2) (mC (.int 1))) (đ (Đ (ġ ğ (Ā 1) (mC (.int 1)))) (đ (Đ (ġ ğ (Ā 2) (mC (.int 1)))) (đ (ą Ė (aK (ń ["Thing","Post","Fence","Sail","Cloth","House"] "numbers") (Ā 0)) (mC (.int 2))) ď)))))))))
def lZ:MF:=į 1 3 Iw
def Iz:M Fl:=(Ĝ (Ī 1 (ŉ (aK (ń ["Thing","Post","Fence","Sail","Cloth","House"] "numbers") (Ā 0))))
 (Ĝ (Ī 2 (ŉ (Ŀ (Ą (ą Ė (Ā 1) (mC (.int 0))) (Ą (ą Ė (Ā 1) (mC (.int 1))) ę)))))
 (Ĝ (Ī 3 (ŉ (Ŀ (Ą (ą Ė (Ā 1) (mC (.int 2))) (Ą (ą Ė (Ā 1) (mC (.int 3))) ę)))))
 (ħ (Ž (Ą (Đ (ġ ğ (Ā 2) (Ŀ (Ą (mC (.int 0)) ę)))) (Ą (Đ (ġ ğ (Ā 3) (Ŀ (Ą (mC (.int 0)) ę)))) (Ą (Đ (ġ ğ (Ā 3) (Ŀ (Ą (ą Ė (Ā 1) (mC (.int 4))) ę)))) (Ą (Đ (ġ ğ (Ā 2) (Ŀ (Ą (ą Ė (Ā 1) (mC (.int 4))) ę)))) ę)))))))))
def mj:MF:=į 1 4 Iz
def IK:M Fl:=(Ĝ (Ī 1 (ŉ (aK (ń ["Thing","Post","Fence","Sail","Cloth","House"] "numbers") (Ā 0))))
 (ħ (Ē sO (đ (ą Ė (Ā 1) (mC (.int 0))) (đ (ą Ė (Ā 1) (mC (.int 1))) (đ (ą Ė (Ā 1) (mC (.int 2))) (đ (ą Ė (Ā 1) (mC (.int 3))) (đ (ą Ė (Ā 1) (mC (.int 4))) ď))))))))
def mq:MF:=į 1 2 IK
def Rt:M Fl:=(ħ (ŏ [0] 1 (ũ (Ŀ (Ą (mC (.int 0)) (Ą (mC (.int 3)) (Ą (mC (.int 6)) ę))))) (gN 1) ő (fG oY (Ą (Đ (Ej (aK (ń ["Thing","Post","Fence","Sail","Cloth","House"] "numbers") (Ā 0)) (mP (ě 1)) (mP (Đ (ġ ğ (Ā 1) (mC (.int 3))))))) ę))))
def xM:MF:=į 1 1 Rt
def IV:M Fl:=(Ĝ (Ī 1 (ŉ (aK (ń ["Thing","Post","Fence","Sail","Cloth","House"] "numbers") (Ā 0))))
 (ħ (Ē xK (đ (ą Ė (Ā 1) (mC (.int 0))) (đ (ą Ė (Ā 1) (mC (.int 1))) (đ (ą Ė (Ā 1) (mC (.int 2))) (đ (ą Ė (Ā 1) (mC (.int 3))) (đ (ą Ė (Ā 1) (mC (.int 4))) ď))))))))
def mz:MF:=į 1 2 IV
def IW:M Fl:=(ħ (ŏ [1] 1 (zG (ũ (Đ (oZ "corners" [("Post",lZ),("Fence",mj),("Sail",mq),("Cloth",xM),("House",mz)] (ě 0) ď)))) (gN 1) ő (Đ (Ē sJ (Ć 1 (Ć 0 ď))))))
def xO:MF:=į 2 2 IW
def zY:M Fl:=(Ĝ (fK (cV (ą jE (Ā 1) (Ā 0)))
 (ħ (ŉ (mC (.int 0))))
 jy)
 (ħ (ŉ (ą ľ (ą wj (mC (.int 1)) (Đ (ġ ğ (Ā 1) (mC (.int 1))))) (ą wj (mC (.int 1)) (Ā 0))))))
def sS:MF:=į 2 2 zY
def cD:M Fl:=(Ĝ (Ī 9 (ŉ (ą Ĥ (Ā 6) (Ā 1))))
 (Ĝ (Ī 10 (ŉ (ą ľ (Ā 8) (ą Ĥ (ą Ĥ (Ā 7) (Ā 1)) (Ā 2)))))
 (fK (cV (ą Mu (Ā 9) (mC (.int 0))))
 (Ī 5 (ŉ (fG oX (Ą (Ā 5) (Ą (ą ś (Ā 10) (Ā 9)) ę)))))
 (fK (cV (ą jE (Ā 9) (mC (.int 0))))
 (Ī 4 (ŉ (fG BJ (Ą (Ā 4) (Ą (aK aZ (ą ś (Ā 10) (aK aZ (Ā 9)))) ę)))))
 (fK (cV (ą jE (Ā 10) (mC (.int 0))))
 (ħ (ŉ (mC (.int 0))))
 jy)))))
def zZ:M Fl:=(Ĝ (Ī 4 (ŉ (mC (.int 0))))
 (Ĝ (Ī 5 (ŉ (ą ľ (Ā 3) (mC (.int 1)))))
 (Ĝ (kW (ŗ 0) (gT 3 (Ĩ (gN 6) (Ĩ (gN 7) (Ĩ (gN 8) aL)))) cD)
 (ħ (Ē sS (Ć 4 (Ć 5 ď)))))))
def xP:MF:=į 4 11 zZ
def uP:M Fl:=(wO 4 (ą wj (Đ (Ē xP (Ć 3 (đ (ą Ĥ (mC (.int 2)) (ą Ė (Ā 2) (mC (.int 2)))) (Ć 5 (đ (aK (ń ["Yard"] "width") (Ā 0)) ď)))))) (ą Ĥ (Ā 5) (aK (ń ["Yard"] "width") (Ā 0)))))
def I_:M Fl:=(Ĝ (Ī 3 (Ē Cp (đ (Đ (Ē xO (Ć 1 (Ć 2 ď)))) ď)))
 (Ĝ (Ī 4 (ŉ (mC (.int 0))))
 (Ĝ (kW (cA bI (Ą (aK (ń ["Yard"] "height") (Ā 0)) ę)) (gN 5) uP)
 (ħ (fW 4)))))
def sU:MF:=į 3 6 I_
def Ru:M Fl:=(ħ (ŏ [0,1] 1 (ũ (aK (ń ["Yard"] "things") (Ā 0))) (gN 2) ő (Đ (Ē sU (Ć 0 (Ć 2 (Ć 1 ď)))))))
def NK:MF:=į 2 2 Ru
def z_:M Fl:=(wO 2 (ě 3))
def Aa:M Fl:=(Ĝ (fK (cV (ą qO (Ā 1) (mC .non)))
 (ħ (Ē sS (đ (mC (.int 0)) (đ (ą ľ (ą Ĥ (aK (ń ["Yard"] "width") (Ā 0)) (aK (ń ["Yard"] "height") (Ā 0))) (mC (.int 1))) ď))))
 jy)
 (Ĝ (Ī 2 (ŉ (mC (.int 0))))
 (Ĝ (kW (ũ (Đ (Ē NK (Ć 0 (Ć 1 ď))))) (gN 3) z_)
 (ħ (fW 2)))))
def sV:MF:=į 2 4 Aa
def Ja:M Fl:=(ħ (ŉ (Ŀ (Ą (ą İ (Ā 0) (Ā 1)) (Ą (ą ś (Ā 0) (Ā 1)) ę)))))
def sW:MF:=į 2 2 Ja
def Rv:M Fl:=(Ĝ (Ī 2 (Ē sW (Ć 1 (đ (aK (ń ["Yard"] "width") (Ā 0)) ď))))
 (Ĝ (Ī 3 (ŏ [2] 2 (ũ (mC (.tup [.tup [.int (-1),.int 0],.tup [.int 1,.int 0],.tup [.int 0,.int (-1)],.tup [.int 0,.int 1],.tup [.int 0,.int 0]]))) (gT 2 (Ĩ (gN 1) (Ĩ (gN 2) aL))) ő (Ŀ (Ą (Đ (ġ ğ (ą Ė (Ā 0) (mC (.int 0))) (Ā 1))) (Ą (Đ (ġ ğ (ą Ė (Ā 0) (mC (.int 1))) (Ā 2))) ę)))))
 (ħ (ŏ [0] 1 (ŗ 3) (gN 1) (cU (Đ (Ē eX (Ć 0 (Ć 1 ď))))) (Đ (Ē pO (Ć 1 (đ (aK (ń ["Yard"] "width") (Ā 0)) ď))))))))
def NP:MF:=į 2 4 Rv
def uQ:M Fl:=(Ĝ (Ī 3 (ŏ [2] 1 (zG (ũ (Đ (Ē NP (Ć 0 (Ć 1 ď)))))) (gN 1) (cV (ą jG (ą Ė (Ā 0) (Ā 1)) (mC .non))) (ě 1)))
 (ħ (ŉ (zK [2] (ą Ė (Ā 0) (Ā 1)) (Ą (Ā 3) ę)))))
def pP:MF:=į 3 4 uQ
def uR:M Fl:=(Ĝ (fK (cV (ą Œ (Ā 1) (Ā 2)))
 (ħ (ŉ (mC (.int 0))))
 jy)
 (Ĝ (Ī 4 (Ē pP (Ć 0 (Ć 1 (Ć 3 ď)))))
 (ħ (ŉ (fK (cV (ą qO (Ā 4) (mC .non))) (mC .non) (ą Ė (Ā 3) (Ā 4)))))))
def sX:MF:=į 4 5 uR
def pQ:M Fl:=(Ĝ (Ī 7 (Ē sX (Ć 0 (Ć 6 (Ć 2 (Ć 3 ď))))))
 (Ĝ (Ī 8 (ŉ (ą ľ (mC (.int 1)) (ą zf (ą Gu (Ā 4) (Ā 6)) (mC (.int 1))))))
 (mQ 5 (fK (cV (ą qO (Ā 7) (mC .non))) (mC .non) (Đ (ġ ğ (Ā 8) (Ā 7)))))))
def Jb:M Fl:=(Ĝ (Ī 4 (Ē sV (Ć 0 (Ć 1 ď))))
 (Ĝ (Ī 5 (Ž ę))
 (Ĝ (kW (cA bI (Ą (ą Ĥ (aK (ń ["Yard"] "width") (Ā 0)) (aK (ń ["Yard"] "height") (Ā 0))) ę)) (gN 6) pQ)
 (ħ (fW 5)))))
def Cq:MF:=į 4 9 Jb
def pR:M Fl:=(Ĝ (Ī 4 (Ē Cq (Ć 0 (Ć 5 (Ć 2 (Ć 4 ď))))))
 (mQ 3 (ě 4)))
def Jc:M Fl:=(Ĝ (Ī 3 (Ž ę))
 (Ĝ (Ī 4 (ŏ [] 1 (cA bI (Ą (ą Ĥ (aK (ń ["Yard"] "width") (Ā 0)) (aK (ń ["Yard"] "height") (Ā 0))) ę)) (gN 0) ő (mC .non)))
 (Ĝ (kW (Cd (mLs (Đ (Ē Cg (Ć 0 (Ć 1 ď)))))) (gN 5) pR)
 (ħ (HX (Ā 3))))))
def Cr:MF:=į 3 6 Jc
def Jd:M Fl:=(Ş (cV (ą jF (ą Ė (Ā 4) (aK aZ (mC (.int 1)))) (Ā 2)))
 (mQ 4 (Đ (Ē pP (Ć 0 (đ (ą Ė (Ā 4) (aK aZ (mC (.int 1)))) (đ (ą Ė (Ā 3) (fG jo (Ą (Ā 4) ę))) ď)))))))
def Je:M Fl:=(Ĝ (Ī 4 (Ž (Ą (ě 1) ę)))
 (Ĝ Jd
 (ħ (ŏ [0] 1 (ŗ 4) (gN 1) ő (Đ (Ē sW (Ć 1 (đ (aK (ń ["Yard"] "width") (Ā 0)) ď))))))))
def xQ:MF:=į 4 5 Je
def lH:M Fl:=(Ĝ (rK (Đ (Ē pN (Ć 0 (Ć 2 ď)))))
 (Ĝ (rK (Đ (Ē pN (Ć 0 (Ć 3 ď)))))
 (Ĝ (rK (Đ (Ē sG (Ć 0 (Ć 1 ď)))))
 (Ĝ (Ī 4 (Ē pO (Ć 2 (đ (aK (ń ["Yard"] "width") (Ā 0)) ď))))
 (Ĝ (Ī 5 (Ē pO (Ć 3 (đ (aK (ń ["Yard"] "width") (Ā 0)) ď))))
 (Ĝ (Ī 6 (Ē Cr (Ć 0 (Ć 1 (Ć 5 ď)))))
 (Ĝ (fK (cV (ą qO (ą Ė (ą Ė (Ā 6) (mC (.int 0))) (Ā 4)) (mC .non)))
 (ħ (ŉ (Ŀ (Ą (mC (.str "none")) (Ą (ě 6) ę)))))
 jy)
 (ħ (ŉ (Ŀ (Ą (mC (.str "walk")) (Ą (ą Ė (ą Ė (Ā 6) (mC (.int 0))) (Ā 4)) (Ą (Đ (Ē xQ (Ć 0 (Ć 4 (Ć 5 (Ć 6 ď)))))) (Ą (ě 6) ę))))))))))))))
def gF:MF:=į 4 7 lH
def Ab:M Fl:=(Ĝ (Ī 4 (ŉ (mC .non)))
 (Ĝ (MN (rK (Đ (Ē gF (Ć 0 (Ć 1 (Ć 2 (Ć 3 ď))))))) (nR 5 ["YardError","NoNumber","BadThing","NoStone","NoTurn","BadRow","NoRow","NoDay"] [] (Ī 4 (ŉ (ě 5))) wD))
 (ħ (fW 4))))
def pU:MF:=į 4 6 Ab
def uT:M Fl:=(Ĝ (Ī 8 (ŉ (ą Ė (Ā 6) (ą İ (Đ (ġ ğ (Đ (Ē ų (Ć 0 (đ (mC (.int 6)) ď)))) (ą Ĥ (mC (.int 5)) (Ā 7)))) (mC (.int 6))))))
 (Ĝ (Ī 9 (Ž (Ą (Đ (Ē bO (đ (Đ (ġ ğ (Đ (Ē ų (Ć 0 (đ (mC (.int 2)) ď)))) (ą Ĥ (mC (.int 3)) (Ā 7)))) (Ć 1 ď)))) (Ą (Đ (Ē bO (đ (Đ (ġ ğ (Đ (Ē ų (Ć 0 (đ (mC (.int 3)) ď)))) (ą Ĥ (mC (.int 2)) (Ā 7)))) (Ć 1 ď)))) ę))))
 (fK (iJ (cU (Đ (Ē eV (đ (Đ (Ē pU (Ć 4 (Ć 8 (đ (ą Ė (Ā 9) (mC (.int 0))) (đ (ą Ė (Ā 9) (mC (.int 1))) ď)))))) (Ć 4 (Ć 8 (Ć 9 ď))))))))
 (ħ (ŉ (mC (.bl false))))
 jy)))
def Jf:M Fl:=(Ĝ (Ī 1 (Ē iW (đ (Đ (Ē ų (Ć 0 (đ (mC (.int 0)) ď)))) (đ (mC (.int 9)) ď))))
 (Ĝ (Ī 2 (ŏ [1] 1 (ũ (Đ (Ej (Ā 0) (mP (mC (.int 4))) (mP (mC (.int 6)))))) (gN 1) ő (Đ (Ē iZ (Ć 1 (đ (fG jJ (Ą (Ā 0) ę)) ď))))))
 (Ĝ (Ī 3 (Ē xr (Ć 0 (đ (mC (.int 7)) (đ (ą İ (Đ (Ē ų (Ć 0 (đ (mC (.int 1)) ď)))) (mC (.int 4))) (đ (mC (.int 4)) ď))))))
 (Ĝ (Ī 4 (ŉ (bh "Yard" nW (đ (ą Ė (Ā 1) (mC (.int 0))) (đ (ą Ė (Ā 1) (mC (.int 1))) (đ (Đ (ŏ [] 2 (ŗ 2) (gT 2 (Ĩ (gN 0) (Ĩ (gN 1) aL))) ő (Đ (Ē eU (Ć 0 (đ (Đ (oK eG (Ą (Ā 1) ę))) ď)))))) (Ć 3 ď)))))))
 (Ĝ (Ī 5 (ŉ (ą İ (ą ś (Đ (Ē ų (Ć 0 (đ (mC (.int 6)) ď)))) (mC (.int 4))) (ą iU (mC (.int 10)) (mC (.int 12))))))
 (Ĝ (Ī 6 (Ž (Ą (mC (.int 0)) (Ą (ą ľ (fG jo (Ą (Ā 3) ę)) (mC (.int 1))) (Ą (fG jo (Ą (Ā 3) ę)) (Ą (ą ľ (mC (.int 0)) (mC (.int 1))) (Ą (Đ (ġ ğ (fG jo (Ą (Ā 3) ę)) (Ā 5))) (Ą (ą ľ (ą ľ (mC (.int 0)) (mC (.int 1))) (Ā 5)) ę))))))))
 (Ĝ (kW (cA bI (Ą (mC (.int 3)) ę)) (gN 7) uT)
 (ħ (ŉ (mC (.bl true)))))))))))
def sY:MF:=į 1 10 Jf
set_option genInjectivity false
set_option genSizeOf false
structure uU where
 {Rw Rx Ry Rz RD Jg RG RJ RK RL RM RN mY RP RQ Zct Zcu RT RW RX RZ R_ Sd Sg Sh Sq Ss Sv Sw Sx Sy SJ SN SQ SX S_ Tc Jh Ji Jj YC Jk Td Te Tf Ti Zcv Tj Tn Zcw Jl Tp Tq Tr Tt Tw Tz TF YD YF Zcx Zcy mD pW pX lJ pY pZ Cu uV Ac uW Ad uX Ae uY uZ:Addr}
 {TJ TQ TX TY T_ Ua Ub Uc Ud Ue Ug Uh DR Ui Uj Zcz ZcA Uk Ul Um Uo Uq Ur Us Ut Uu Uv Uw Ux Uy Uz UG UJ UL UW U_ Va Vb Vc Vd ZcB Ve Vf Vg Vh Vi ZcC Vj Vk ZcD Vl Vm Vn Vo Vp Vq Vr Jm ZcE ZcF Zfk Zfl:FuncData}
 {qT u_:Tok}
 {vd:Addr}
def ĥ(a:uU):String->Addr:=cmB a.mD a.pW a.pX a.lJ a.pY a.pZ a.Cu a.uV a.Ac a.uW a.Ad a.uX a.Ae a.uY a.uZ
structure Tx(K:PySem.W.Frag)(mg:Str->Option Value)(a:uU):Prop where
 xR:mg "YardError" =some (.ref a.mD)
 Af:mg "NoNumber" =some (.ref a.pW)
 Ag:mg "BadThing" =some (.ref a.pX)
 DW:mg "NoStone" =some (.ref a.lJ)
 Jo:mg "NoTurn" =some (.ref a.pY)
 Jp:mg "BadRow" =some (.ref a.pZ)
 NQ:mg "NoRow" =some (.ref a.Cu)
 NT:mg "NoDay" =some (.ref a.uV)
 YG:mg "Yard" =some (.ref a.Ac)
 Zdv:mg "Thing" =some (.ref a.uW)
 YH:mg "Post" =some (.ref a.Ad)
 NZ:mg "Fence" =some (.ref a.uX)
 YJ:mg "Sail" =some (.ref a.Ae)
 N_:mg "Cloth" =some (.ref a.uY)
 Oa:mg "House" =some (.ref a.uZ)
 mF:Df K mg "_law_size" Qc ["_law_cell","_law_most"] a.Rw a.TJ
 ť:Df K mg "_law_at" Qd ["_law_script","_law_k"] a.Rx a.TQ
 cF:Df K mg "_law_grains" Qe ["_law_cell","_law_many"] a.Ry a.TX
 qb:Df K mg "_law_sky" Qf ["_law_xs"] a.Rz a.TY
 mG:Df K mg "_law_days" Qg ["_law_script","_law_start","_law_many","_law_long"] a.RD a.T_
 eY:Dm K a.Ac "__init__" "Yard.__init__" Qh ["self","width","height","things","days"] a.Jg a.Ua
 cG:Df K mg "_law_height" Qi ["_law_number"] a.RG a.Ub
 Ŧ:Df K mg "_law_place" Qj ["_law_number","_law_wide"] a.RJ a.Uc
 jP:Df K mg "_law_thing" Qk ["_law_cell","_law_wide"] a.RK a.Ud
 ak:Df K mg "is_place" Ql ["number"] a.RL a.Ue
 gG:Df K mg "is_height" Qm ["number"] a.RM a.Ug
 jQ:Df K mg "makes_post" Qn ["numbers"] a.RN a.Uh
 ī:Dm K a.uW "__init__" "Thing.__init__" Zcl ["self","word","numbers"] a.mY a.DR
 bB:Df K mg "has_two_ends" Qo ["numbers"] a.RP a.Ui
 jc:Df K mg "makes_fence" Qp ["numbers"] a.RQ a.Uj
 Ř:Df K mg "makes_sail_or_house" Zcm ["numbers"] a.Zct a.Zcz
 bQ:Df K mg "is_cloth_corner" Zcn ["numbers"] a.Zcu a.ZcA
 jd:Df K mg "makes_cloth" Qq ["numbers"] a.RT a.Uk
 qd:Df K mg "thing_of" Qs ["word","numbers"] a.RW a.Ul
 dW:Df K mg "_law_stone" Qt ["_law_cell","_law_size_here"] a.RX a.Um
 je:Df K mg "_law_within" Qu ["_law_stone_here","_law_size_here"] a.RZ a.Uo
 mH:Df K mg "_law_said" Qw ["_law_caught","_law_yard","_law_day","_law_ends"] a.R_ a.Uq
 gH:Df K mg "has_stone" Qx ["yard","stone"] a.Sd a.Ur
 cH:Df K mg "check_stone" Qy ["yard","stone"] a.Sg a.Us
 sZ:Df K mg "has_day" Qz ["yard","day"] a.Sh a.Ut
 mJ:Df K mg "check_day" QB ["yard","day"] a.Sq a.Uu
 bR:Df K mg "number_of" QC ["stone","width"] a.Ss a.Uv
 qe:Df K mg "turns_of" QD ["yard","day"] a.Sv a.Uw
 mK:Df K mg "box_lines" QF ["points"] a.Sw a.Ux
 mL:Df K mg "each_once" QG ["points"] a.Sx a.Uy
 gJ:Df K mg "line_through" QH ["one","other"] a.Sy a.Uz
 Cv:Df K mg "holds" QJ ["line","pair"] a.SJ a.UG
 jR:Df K mg "edge_lines" QK ["points"] a.SN a.UJ
 jf:Df K mg "lines_about" QL ["points"] a.SQ a.UL
 Jq:Df K mg "cast" QM ["point","ray"] a.SX a.UW
 Ů:Df K mg "level_corners" QS ["x","y","u","v","z"] a.S_ a.U_
 aJ:Df K mg "block_corners" QT ["x","y","u","v","h"] a.Tc a.Va
 gK:Dm K a.Ad "corners" "Post.corners" QV ["self"] a.Jh a.Vb
 eZ:Dm K a.uX "corners" "Fence.corners" QW ["self"] a.Ji a.Vc
 gM:Dm K a.Ae "corners" "Sail.corners" QX ["self"] a.Jj a.Vd
 fj:Dm K a.uY "corners" "Cloth.corners" Zco ["self"] a.YC a.ZcB
 fu:Dm K a.uZ "corners" "House.corners" QZ ["self"] a.Jk a.Ve
 gO:Df K mg "corner_casts" Q_ ["thing","ray"] a.Td a.Vf
 gP:Df K mg "span_bits" Ra ["first","last"] a.Te a.Vg
 qg:Df K mg "row_bits" Rb ["lines","unit","q","width"] a.Tf a.Vh
 tu:Df K mg "dark_of" Rf ["yard","thing","ray"] a.Ti a.Vi
 bT:Df K mg "darks_of_things" Zcp ["yard","ray"] a.Zcv a.ZcC
 Jr:Df K mg "dark" Rg ["yard","turn"] a.Tj a.Vj
 jw:Df K mg "stone_at" Rh ["number","width"] a.Tn a.Vk
 dh:Df K mg "numbers_beside" Zcq ["yard","number"] a.Zcw a.ZcD
 gQ:Df K mg "best_step" H_ ["yard","number","costs"] a.Jl a.Vl
 jg:Df K mg "cost_behind" Ri ["yard","number","goal","costs"] a.Tp a.Vm
 qj:Df K mg "costs_at" Rj ["yard","turn","goal","later"] a.Tq a.Vn
 ql:Df K mg "paper_of" Rk ["yard","day","goal"] a.Tr a.Vo
 xT:Df K mg "walked" Rm ["yard","start","goal","paper"] a.Tt a.Vp
 jT:Df K mg "shady_walk" Rn ["yard","day","start","goal"] a.Tw a.Vq
 gR:Df K mg "_law_refused" Ro ["_law_yard","_law_day","_law_start","_law_goal"] a.Tz a.Vr
 Js:Df K mg "law" Rq ["_law_script"] a.TF a.Jm
 bC:Dm K a.lJ "__init__" "NoStone.__init__" Zcr ["self","stone"] a.YD a.ZcE
 bU:Dm K a.pY "__init__" "NoTurn.__init__" Zcs ["self","day","turn"] a.YF a.ZcF
 Cw:Dm K a.pZ "__init__" "BadRow.__init__" Zfi ["self","row"] a.Zcx a.Zfk
 DX:Dm K a.uV "__init__" "NoDay.__init__" Zfj ["self","name"] a.Zcy a.Zfl
 jh:mg "MOST_HEIGHT" =some (.int (1000000000) a.qT)
 jU:mg "MOST_PLACE" =some (.int (1000000000) a.u_)
 Ob:mg "STEPS" =some (.ref a.vd)
 vf:mg "ValueError" =none
 Jt:mg "all" =none
 ZcG:mg "int" =none
 ŧ:mg "isinstance" =none
 ji:mg "len" =none
 dX:mg "list" =none
 Cy:mg "max" =none
 qm:mg "min" =none
 bV:mg "range" =none
 qt:mg "reversed" =none
 Oc:mg "tuple" =none
 Vs:PySem.W.excIn K (ĥ a "YardError") BW Yb=true
 Vt:PySem.W.keepIn K (.ref (ĥ a "YardError"))=true
 Vu:ş K (ĥ a "YardError")=true
 YK:PySem.W.excIn K (ĥ a "NoNumber") BW Yb=true
 YL:PySem.W.keepIn K (.ref (ĥ a "NoNumber"))=true
 YM:ş K (ĥ a "NoNumber")=true
 Ah:PySem.W.excIn K (ĥ a "BadThing") BW Yb=true
 YQ:PySem.W.keepIn K (.ref (ĥ a "BadThing"))=true
 YT:ş K (ĥ a "BadThing")=true
 DY:Yh K (ĥ a "NoStone") a.YD
 tD:ş K (ĥ a "NoStone")=true
 fB:Ģ K (ĥ a "NoStone") "stone"
 Ju:Yh K (ĥ a "NoTurn") a.YF
 jV:ş K (ĥ a "NoTurn")=true
 jW:Ģ K (ĥ a "NoTurn") "day"
 jj:Ģ K (ĥ a "NoTurn") "turn"
 ZcH:Yh K (ĥ a "BadRow") a.Zcx
 ZcI:ş K (ĥ a "BadRow")=true
 Od:Ģ K (ĥ a "BadRow") "row"
 Zdw:PySem.W.excIn K (ĥ a "NoRow") BW Yb=true
 Zdx:PySem.W.keepIn K (.ref (ĥ a "NoRow"))=true
 Zdy:ş K (ĥ a "NoRow")=true
 Zdz:Yh K (ĥ a "NoDay") a.Zcy
 ZdA:ş K (ĥ a "NoDay")=true
 Oe:Ģ K (ĥ a "NoDay") "name"
 vg:Cls K (ĥ a "Yard")
 YW:Mk K (ĥ a "Yard") a.Jg
 vh:Ģ K (ĥ a "Yard") "width"
 qU:Ģ K (ĥ a "Yard") "height"
 qW:Ģ K (ĥ a "Yard") "things"
 xU:Ģ K (ĥ a "Yard") "days"
 Cz:Cls K (ĥ a "Thing")
 ZdB:Mk K (ĥ a "Thing") a.mY
 vm:Ģ K (ĥ a "Thing") "word"
 mZ:Ģ K (ĥ a "Thing") "numbers"
 Ai:Cls K (ĥ a "Post")
 YX:Mk K (ĥ a "Post") a.mY
 xW:Ģ K (ĥ a "Post") "word"
 qu:Ģ K (ĥ a "Post") "numbers"
 qw:Meth K (ĥ a "Post") "corners" a.Jh
 vo:Cls K (ĥ a "Fence")
 Og:Mk K (ĥ a "Fence") a.mY
 vp:Ģ K (ĥ a "Fence") "word"
 m_:Ģ K (ĥ a "Fence") "numbers"
 ni:Meth K (ĥ a "Fence") "corners" a.Ji
 Aj:Cls K (ĥ a "Sail")
 YZ:Mk K (ĥ a "Sail") a.mY
 xX:Ģ K (ĥ a "Sail") "word"
 qy:Ģ K (ĥ a "Sail") "numbers"
 qC:Meth K (ĥ a "Sail") "corners" a.Jj
 vq:Cls K (ĥ a "Cloth")
 Oh:Mk K (ĥ a "Cloth") a.mY
 vA:Ģ K (ĥ a "Cloth") "word"
 nj:Ģ K (ĥ a "Cloth") "numbers"
 nq:Meth K (ĥ a "Cloth") "corners" a.YC
 vB:Cls K (ĥ a "House")
 Oi:Mk K (ĥ a "House") a.mY
 vC:Ģ K (ĥ a "House") "word"
 nu:Ģ K (ĥ a "House") "numbers"
 nA:Meth K (ĥ a "House") "corners" a.Jk
 xY:Yq K "best_step" a.Jl=true
 xZ:PySem.W.mroIn K (ĥ a "YardError") (.type "BaseException")=some true
 vD:aH (λc=>PySem.W.kitCls K (.ref (ĥ a c)) (.ref (ĥ a "YardError"))=some true) ["YardError","NoNumber","BadThing","NoStone","NoTurn","BadRow","NoRow","NoDay"]
 vG:aH (λc=>PySem.W.kitCls K (.ref (ĥ a c)) (.ref (ĥ a "YardError"))=some false) []
 iC:mW (λC D b=>ź K (ĥ a C)=true/\PySem.W.kitOne K (.ref (ĥ a C)) (.ref (ĥ a D))=some b) Zb
 iT:mW (λC D b=>ź K (ĥ a C)=true/\PySem.W.kitOne K (.ref (ĥ a C)) (.type D)=some b) Zj
 iD:aH (λD=>PySem.W.kitOne K (.type "NoneType") (.ref (ĥ a D))=some false) Zo
 iN:aH (λD=>PySem.W.kitOne K (.type "NoneType") (.type D)=some false) Zp
 Oj:jN K (.tup [.tup [.int (-1),.int 0],.tup [.int 1,.int 0],.tup [.int 0,.int (-1)],.tup [.int 0,.int 1],.tup [.int 0,.int 0]]) (.ref a.vd)=true
def Z0m{K:PySem.W.Frag}{mg:Str->Option Value}{a:uU}(T:Tx K mg a):mg "YardError" =some (.ref (ĥ a "YardError")):=T.xR
def Z0D{K:PySem.W.Frag}{mg:Str->Option Value}{a:uU}(T:Tx K mg a):mg "NoNumber" =some (.ref (ĥ a "NoNumber")):=T.Af
def ZT{K:PySem.W.Frag}{mg:Str->Option Value}{a:uU}(T:Tx K mg a):mg "BadThing" =some (.ref (ĥ a "BadThing")):=T.Ag
def ZE{K:PySem.W.Frag}{mg:Str->Option Value}{a:uU}(T:Tx K mg a):mg "NoStone" =some (.ref (ĥ a "NoStone")):=T.DW
def ZJ{K:PySem.W.Frag}{mg:Str->Option Value}{a:uU}(T:Tx K mg a):mg "NoTurn" =some (.ref (ĥ a "NoTurn")):=T.Jo
def Z0Z{K:PySem.W.Frag}{mg:Str->Option Value}{a:uU}(T:Tx K mg a):mg "BadRow" =some (.ref (ĥ a "BadRow")):=T.Jp
def Z1k{K:PySem.W.Frag}{mg:Str->Option Value}{a:uU}(T:Tx K mg a):mg "NoRow" =some (.ref (ĥ a "NoRow")):=T.NQ
def Z1l{K:PySem.W.Frag}{mg:Str->Option Value}{a:uU}(T:Tx K mg a):mg "NoDay" =some (.ref (ĥ a "NoDay")):=T.NT
def Z1P{K:PySem.W.Frag}{mg:Str->Option Value}{a:uU}(T:Tx K mg a):mg "Yard" =some (.ref (ĥ a "Yard")):=T.YG
def Z1Q{K:PySem.W.Frag}{mg:Str->Option Value}{a:uU}(T:Tx K mg a):mg "Post" =some (.ref (ĥ a "Post")):=T.YH
def Z1m{K:PySem.W.Frag}{mg:Str->Option Value}{a:uU}(T:Tx K mg a):mg "Fence" =some (.ref (ĥ a "Fence")):=T.NZ
def Z1R{K:PySem.W.Frag}{mg:Str->Option Value}{a:uU}(T:Tx K mg a):mg "Sail" =some (.ref (ĥ a "Sail")):=T.YJ
def Z1n{K:PySem.W.Frag}{mg:Str->Option Value}{a:uU}(T:Tx K mg a):mg "Cloth" =some (.ref (ĥ a "Cloth")):=T.N_
def Z1o{K:PySem.W.Frag}{mg:Str->Option Value}{a:uU}(T:Tx K mg a):mg "House" =some (.ref (ĥ a "House")):=T.Oa
def Jv:ĉ ["_law_cell","_law_most","_law_width"] ["_law_cell","_law_most"] (ć Qc):=Ŷ
def Y_:ĉ ["_law_script","_law_k"] ["_law_script","_law_k"] (ć Qd):=Ŷ
def jx:ĉ ["_law_cell","_law_many","_law_found","_law_number","_law_k"] ["_law_cell","_law_many"] (ć Qe):=Ŷ
def Jw:ĉ ["_law_xs","_law_scale"] ["_law_xs"] (ć Qf):=Ŷ
def gU:ĉ ["_law_script","_law_start","_law_many","_law_long","_law_names","_law_turned","_law_days_here","_law_k","_law_xs","_law_turns"] ["_law_script","_law_start","_law_many","_law_long"] (ć Qg):=Ŷ
def Z_:ĉ ["self","width","height","things","days"] ["self","width","height","things","days"] (ć Qh):=Ŷ
def Zaa:ĉ ["_law_number"] ["_law_number"] (ć Qi):=Ŷ
def Zab:ĉ ["_law_number","_law_wide"] ["_law_number","_law_wide"] (ć Qj):=Ŷ
def gW:ĉ ["_law_cell","_law_wide","_law_xs","_law_h","_law_kind","_law_x","_law_y","_law_u","_law_v"] ["_law_cell","_law_wide"] (ć Qk):=Ŷ
def Zac:ĉ ["number"] ["number"] (ć Ql):=Ŷ
def Zad:ĉ ["number"] ["number"] (ć Qm):=Ŷ
def Zae:ĉ ["numbers"] ["numbers"] (ć Qn):=Ŷ
def yc:ĉ ["self","word","numbers"] ["self","word","numbers"] (ć Zcl):=Ŷ
def Zaf:ĉ ["numbers"] ["numbers"] (ć Qo):=Ŷ
def Zag:ĉ ["numbers"] ["numbers"] (ć Qp):=Ŷ
def ZcJ:ĉ ["numbers"] ["numbers"] (ć Zcm):=Ŷ
def ZcK:ĉ ["numbers"] ["numbers"] (ć Zcn):=Ŷ
def Zah:ĉ ["numbers"] ["numbers"] (ć Qq):=Ŷ
def Zai:ĉ ["word","numbers"] ["word","numbers"] (ć Qs):=Ŷ
def vH:ĉ ["_law_cell","_law_size_here","_law_good","_law_far","_law_some"] ["_law_cell","_law_size_here"] (ć Qt):=Ŷ
def Zaj:ĉ ["_law_stone_here","_law_size_here"] ["_law_stone_here","_law_size_here"] (ć Qu):=Ŷ
def Ak:ĉ ["_law_caught","_law_yard","_law_day","_law_ends","_law_size_here","_law_bad"] ["_law_caught","_law_yard","_law_day","_law_ends"] (ć Qw):=Ŷ
def Zak:ĉ ["yard","stone"] ["yard","stone"] (ć Qx):=Ŷ
def Zal:ĉ ["yard","stone"] ["yard","stone"] (ć Qy):=Ŷ
def Zam:ĉ ["yard","day"] ["yard","day"] (ć Qz):=Ŷ
def Zan:ĉ ["yard","day"] ["yard","day"] (ć QB):=Ŷ
def Zao:ĉ ["stone","width"] ["stone","width"] (ć QC):=Ŷ
def Zap:ĉ ["yard","day"] ["yard","day"] (ć QD):=Ŷ
def Al:ĉ ["points","rights","downs"] ["points"] (ć QF):=Ŷ
def Am:ĉ ["points","kept","point"] ["points"] (ć QG):=Ŷ
def Ao:ĉ ["one","other","l","m"] ["one","other"] (ć QH):=Ŷ
def Zaq:ĉ ["line","pair"] ["line","pair"] (ć QJ):=Ŷ
def lK:ĉ ["points","lines","apart","one","other","line"] ["points"] (ć QK):=Ŷ
def Zar:ĉ ["points"] ["points"] (ć QL):=Ŷ
def Zas:ĉ ["point","ray"] ["point","ray"] (ć QM):=Ŷ
def Zat:ĉ ["x","y","u","v","z"] ["x","y","u","v","z"] (ć QS):=Ŷ
def Zau:ĉ ["x","y","u","v","h"] ["x","y","u","v","h"] (ć QT):=Ŷ
def Aq:ĉ ["self","right","down"] ["self"] (ć QV):=Ŷ
def vI:ĉ ["self","given","one","other"] ["self"] (ć QW):=Ŷ
def Jx:ĉ ["self","given"] ["self"] (ć QX):=Ŷ
def ZcL:ĉ ["self"] ["self"] (ć Zco):=Ŷ
def Jy:ĉ ["self","given"] ["self"] (ć QZ):=Ŷ
def Zav:ĉ ["thing","ray"] ["thing","ray"] (ć Q_):=Ŷ
def Zaw:ĉ ["first","last"] ["first","last"] (ć Ra):=Ŷ
def cI:ĉ ["lines","unit","q","width","first","last","l","m","n","step","room"] ["lines","unit","q","width"] (ć Rb):=Ŷ
def qD:ĉ ["yard","thing","ray","lines","bits","q"] ["yard","thing","ray"] (ć Rf):=Ŷ
def ZcM:ĉ ["yard","ray"] ["yard","ray"] (ć Zcp):=Ŷ
def vJ:ĉ ["yard","turn","bits","some"] ["yard","turn"] (ć Rg):=Ŷ
def Zax:ĉ ["number","width"] ["number","width"] (ć Rh):=Ŷ
def Jz:ĉ ["yard","number","stone","around"] ["yard","number"] (ć Zcq):=Ŷ
def JB:ĉ ["yard","number","costs","leading"] ["yard","number","costs"] (ć H_):=Ŷ
def JC:ĉ ["yard","number","goal","costs","step"] ["yard","number","goal","costs"] (ć Ri):=Ŷ
def lM:ĉ ["yard","turn","goal","later","bits","costs","number","behind","lit"] ["yard","turn","goal","later"] (ć Rj):=Ŷ
def qF:ĉ ["yard","day","goal","rising","costs","turn"] ["yard","day","goal"] (ć Rk):=Ŷ
def JD:ĉ ["yard","start","goal","paper","numbers"] ["yard","start","goal","paper"] (ć Rm):=Ŷ
def vK:ĉ ["yard","day","start","goal","first","last","paper"] ["yard","day","start","goal"] (ć Rn):=Ŷ
def vL:ĉ ["_law_yard","_law_day","_law_start","_law_goal","_law_caught","e"] ["_law_yard","_law_day","_law_start","_law_goal"] (ć Ro):=Ŷ
def cJ:ĉ ["_law_script","_law_size_here","_law_drawn","_law_days_here","_law_yard","_law_far","_law_some","_law_k","_law_day","_law_ends"] ["_law_script"] (ć Rq):=Ŷ
def ZcN:ĉ ["self","stone"] ["self","stone"] (ć Zcr):=Ŷ
def ZcO:ĉ ["self","day","turn"] ["self","day","turn"] (ć Zcs):=Ŷ
section
variable{P:Program}{w:World}{K:PySem.W.Frag}{mg:Str->Option Value}{base:Heap}{a:uU}
seal PE PT PW PA PS dY PG yj PI Ed
def Z7(T:Tx K mg a):aH (λC=>Cls K (ĥ a C)/\Ģ K (ĥ a C) "width") ["Yard"]:=⟨⟨T.vg,T.vh⟩,trivial⟩
def Zh(T:Tx K mg a):aH (λC=>Cls K (ĥ a C)/\Ģ K (ĥ a C) "height") ["Yard"]:=⟨⟨T.vg,T.qU⟩,trivial⟩
def ZU(T:Tx K mg a):aH (λC=>Cls K (ĥ a C)/\Ģ K (ĥ a C) "things") ["Yard"]:=⟨⟨T.vg,T.qW⟩,trivial⟩
def ZC(T:Tx K mg a):aH (λC=>Cls K (ĥ a C)/\Ģ K (ĥ a C) "days") ["Yard"]:=⟨⟨T.vg,T.xU⟩,trivial⟩
def Zy(T:Tx K mg a):aH (λC=>Cls K (ĥ a C)/\Ģ K (ĥ a C) "word") ["Thing","Post","Fence","Sail","Cloth","House"]:=⟨⟨T.Cz,T.vm⟩,⟨⟨T.Ai,T.xW⟩,⟨⟨T.vo,T.vp⟩,⟨⟨T.Aj,T.xX⟩,⟨⟨T.vq,T.vA⟩,⟨⟨T.vB,T.vC⟩,trivial⟩⟩⟩⟩⟩⟩
def Z4(T:Tx K mg a):aH (λC=>Cls K (ĥ a C)/\Ģ K (ĥ a C) "numbers") ["Thing","Post","Fence","Sail","Cloth","House"]:=⟨⟨T.Cz,T.mZ⟩,⟨⟨T.Ai,T.qu⟩,⟨⟨T.vo,T.m_⟩,⟨⟨T.Aj,T.qy⟩,⟨⟨T.vq,T.nj⟩,⟨⟨T.vB,T.nu⟩,trivial⟩⟩⟩⟩⟩⟩
def ZcP(T:Tx K mg a):ģ P w K mg base (Ŗ P w) 1 a.YD a.ZcE ["self","stone"] (spX 2 (ĥ a "NoStone") [("stone",1)]):=
 fnX T.bC.F ZcN rfl λcdv A outer s H E=>(uy (Hh T.tD T.fB (pv 0) (pv 1)) Hi)
def ZcQ(T:Tx K mg a):ģ P w K mg base (Ŗ P w) 1 a.YF a.ZcF ["self","day","turn"] (spX 3 (ĥ a "NoTurn") [("day",1),("turn",2)]):=
 fnX T.bU.F ZcO rfl λcdv A outer s H E=>(uy (Hh T.jV T.jW (pv 0) (pv 1)) (uy (Hh T.jV T.jj (pv 0) (pv 2)) Hi))
def Zay(T:Tx K mg a):ģ P w K mg base (Ŗ P w) 1 a.Rw a.TJ ["_law_cell","_law_most"] (š ⟨K,ĥ a⟩ 2 iW):=by
 refine ķ T.mF.F Jv λ_ _ _ _ _ _ _ hu=>?_
 exact ĕ (Ű (PW.pt (w_and (t_eq hu (ŋ (bN (ā 0) ă) ă) ă) (fX (aY Pn Ow (ā 1) ă (Ň _))))) (Ľ (Ļ (Ě (Ġ (Ŏ (Ă (Ĳ (Ă Ĭ (Ă Ĭ Ę))) (Ă (Ĳ (Ă Ĭ (Ă Ĭ Ę))) Ę))))) (ŋ (ā 0) ă))) ĵ) (Ķ Jv (jM ă (ŋ (ā 0) (Ě (ż (nJ rfl) nP T.qm PyProof.Rows.boot_min (ė ă (ė (ā 1) Ħ)))))) (Ľ (Ĳ (Ă (v_var 2) (Ă (v_add ă (ŋ (bN (ā 0) ă) (Ě (ż (nJ rfl) nP T.qm PyProof.Rows.boot_min (ė ă (ė (bN (ā 1) (ā 2)) Ħ)))))) Ę)))))
def gY(T:Tx K mg a):ģ P w K mg base (Ŗ P w) 1 a.Rx a.TQ ["_law_script","_law_k"] (š ⟨K,ĥ a⟩ 2 ų):=by
 refine ķ T.ť.F Y_ λ_ _ _ _ _ _ _ _=>?_
 exact ĕ (Ű (aY eE dZ (ā 1) (Ě (ż cg cB T.ji PySem.boot_len (ė (ā 0) Ħ))) (Ň _)) (Ľ (Ļ (ā 0) (ā 1))) ĵ) (Ľ Ĭ)
def JF(T:Tx K mg a):ģ P w K mg base (Ŗ P w) 1 a.Ry a.TX ["_law_cell","_law_many"] (š ⟨K,ĥ a⟩ 2 pG):=by
 refine ķ T.cF.F jx λ_ _ _ _ _ _ _ hu=>?_
 exact Ķ jx (Ŏ Ę) (Ķ jx (ţ (pD (ā 0) ă)) (ĕ (Ű (t_eq hu (ŋ (ā 0) ă) ă) (Į (DN jx (ţ (v_mod (ā 3) ă)))) ĵ) (ĕ (gb PassesOwn.leaving rfl (aC rfl T.bV (Ă (v_var 1) Ę)) (gB jx) (Į (Ű (t_eq hu (ŋ (ā 0) ă) ă) (ĕ (PS.wk (aN (lQ PySem.F.plainAttrs_list PySem.F.slot_list_append PySem.F.type_list_append œ (pv 2) (Ă (v_mod (ā 3) ă) Ę))) λ_ _ _ h=>bH h) (Į (DN jx (ţ (pD (ā 3) ă))))) (Ķ jx (ţ (v_mod (eN (eN (Ō (ā 3) ă) ă) (Ō ă (ā 4))) ă)) (Į (PS.wk (aN (lQ PySem.F.plainAttrs_list PySem.F.slot_list_append PySem.F.type_list_append œ (pv 2) (Ă (pD (ā 3) ă) Ę))) λ_ _ _ h=>bH h)))))) (ņ (lV 2)))))
def Zaz(T:Tx K mg a):ģ P w K mg base (Ŗ P w) 1 a.Rz a.TY ["_law_xs"] (š ⟨K,ĥ a⟩ 1 pH):=by
 refine ķ T.qb.F Jw λ_ _ _ _ _ _ _ hu=>?_
 exact ĕ (Ű (t_eq hu (ŋ (ı (ā 0) ă) ă) ă) (Ľ oH) ĵ) (Ķ Jw (ţ (Ļ (Ě (Ġ (Ŏ (Ă Ĭ (Ă Ĭ (Ă Ĭ (Ă (aB gk fU ă ă) Ę))))))) (ŋ (ı (ā 0) ă) ă))) (Ľ (Ĳ (Ă (v_mul (jL (ŋ (ı (ā 0) ă) ă) ă) (ā 1)) (Ă (v_mul (jL (ŋ (ı (ā 0) ă) ă) ă) (ā 1)) (Ă (v_mul (eN ă (ŋ (ı (ā 0) ă) ă)) (ā 1)) Ę))))))
def ZaA(T:Tx K mg a):ģ P w K mg base (Ŗ P w) 2 a.RD a.T_ ["_law_script","_law_start","_law_many","_law_long"] (š ⟨K,ĥ a⟩ 4 xr):=by
 refine ķ T.mG.F gU λ_ _ _ _ _ _ hr _=>?_
 exact Ķ gU (Ŏ (Ă Ų (Ă Ų (Ă Ų (Ă Ų (Ă Ų (Ă Ų (Ă Ų (Ă Ų (Ă Ų (Ă Ų (Ă Ų (Ă Ų Ę))))))))))))) (Ķ gU (ţ (v_mod (Ě (Ġ (Ĉ (gY T) T.ť hr ĝ (Ċ 0 (Ċ 1 Č))))) ă)) (Ķ gU (jM (Ě (Ġ (aP (ā 4) (Ÿ (v_var 5)) um))) (Ě (Ġ (aP (ā 4) um (Ÿ (v_var 5)))))) (Ķ gU (Ŏ Ę) (ĕ (gb PassesOwn.leaving rfl (aC rfl T.bV (Ă (v_var 2) Ę)) (gB gU) (Ķ gU (Ĉ (JF T) T.cF hr ĝ (č (v_add (bN (Ě (Ġ (Ĉ (gY T) T.ť hr ĝ (Ċ 0 (č (v_add (ā 1) (ā 7)) Č))))) ă) (Ō ă (ā 7))) (č (v_add (Ō ă (ā 3)) ă) Č))) (ĕ (wZ gU (aC rfl T.bV (Ă (v_add ă (ŋ (ı (ā 8) ă) (ā 3))) Ę)) bx Ū (Ġ (Ĉ (Zaz T) T.qb hr ű (č (Ġ (aP (ā 0) (Ÿ (v_add ă (Ō ă (ā 1)))) (Ÿ (v_add ă (Ō ă (ā 1)))))) Č)))) (Į (PS.wk (aN (lQ PySem.F.plainAttrs_list PySem.F.slot_list_append PySem.F.type_list_append œ (pv 6) (Ă (Ĳ (Ă (Ļ (ā 4) (ā 7)) (Ă (v_add ă (ŋ (Ō (ı (ā 8) ă) ă) (Ě (aB gk fU ă ă)))) (Ă (v_var 9) Ę)))) Ę))) λ_ _ _ h=>bH h))))) (ņ (lV 6))))))
def JG(T:Tx K mg a):ģ P w K mg base (Ŗ P w) 1 a.Jg a.Ua ["self","width","height","things","days"] (Kf ⟨K,ĥ a⟩ 5 "Yard" nW):=by
 refine fnI (cm:=ĥ a) (mb:=zO) T.eY.F Z_ rfl rfl rfl λcdv A outer s H E hr=>?_
 have hu:=hr.units
 exact ĕ (Ź ["Yard"] (Z7 T) (pv 0) (v_var 1)) (ĕ (Ź ["Yard"] (Zh T) (pv 0) (v_var 2)) (ĕ (Ź ["Yard"] (ZU T) (pv 0) (Ġ (wY bJ bK T.dX PyProof.Rows.boot_list (ė (ā 3) Ħ)))) (Į (Ź ["Yard"] (ZC T) (pv 0) (Ġ (pF (aG 4) (Bt rfl (Ś bx (Ś bx (Ś bx kO)))) Ū (Ĳ (Ă (v_var 0) (Ă (v_var 1) (Ă (Ġ (wY bJ bK T.dX PyProof.Rows.boot_list (ė (ā 2) Ħ))) Ę))))))))))
def JH(T:Tx K mg a):ģ P w K mg base (Ŗ P w) 1 a.RG a.Ub ["_law_number"] (š ⟨K,ĥ a⟩ 1 sy):=by
 refine ķ T.cG.F Zaa λ_ _ _ _ _ _ _ hu=>?_
 exact ĕ (Ű (t_eq hu (ŋ (bN (ā 0) ă) ă) ă) (ņ (jM ă (ŋ (Ō (ā 0) ă) (Ě (aB gk fU ă ă))))) ĵ) (ņ (jM ă (ŋ (ā 0) ă)))
def qG(T:Tx K mg a):ģ P w K mg base (Ŗ P w) 1 a.RJ a.Uc ["_law_number","_law_wide"] (š ⟨K,ĥ a⟩ 2 iY):=by
 refine ķ T.Ŧ.F Zab λ_ _ _ _ _ _ _ hu=>?_
 exact ĕ (Ű (t_eq hu (ŋ (bN (ā 0) ă) ă) ă) (ņ (jM (jL (ŋ (Ō (ā 0) ă) (jL (Ō ă (Ě (aB gk fU ă ă))) ă)) (Ě (aB gk fU ă ă))) ă)) ĵ) (Ľ (v_sub (ŋ (ā 0) (eN (Ō ă (ā 1)) ă)) ă))
def ZaB(T:Tx K mg a):ģ P w K mg base (Ŗ P w) 2 a.RK a.Ud ["_law_cell","_law_wide"] (š ⟨K,ĥ a⟩ 2 iZ):=by
 refine ķ T.jP.F gW λ_ _ _ _ _ _ hr hu=>?_
 exact Ķ gW (Ĉ (JF T) T.cF hr ĝ (Ċ 0 (č Ĭ Č))) (ĕ (O_ (Ġ (pF (aC rfl T.bV (Ă Ĭ Ę)) bx Ū (Ġ (Ĉ (qG T) T.Ŧ hr ű (č (Ļ (ā 1) (ā 2)) (Ċ 0 Č)))))) (P_ rfl (Ś (gB gW) (Ś (gB gW) kO)))) (Ķ gW (Ĉ (JH T) T.cG hr ĝ (č (Ļ (ā 2) ă) Č)) (Ķ gW (ţ (v_mod (ı (ā 2) ă) ă)) (ĕ (Ű (t_eq hu (ā 4) ă) (Ľ (Ĳ (Ă Ų (Ă (Ġ (Ŏ (Ă (pD (ā 5) ă) (Ă (pD (ā 6) ă) (Ă (v_var 3) Ę))))) Ę)))) ĵ) (ĕ (Ű (t_eq hu (ā 4) ă) (ĕ (O_ (Ġ (Ŏ (Ă (v_sub (eN (ā 5) (ŋ (ı (ā 2) ă) ă)) ă) (Ă (v_sub (eN (ā 6) (ŋ (ı (ā 2) ă) ă)) ă) Ę)))) (P_ rfl (Ś (gB gW) (Ś (gB gW) kO)))) (Ľ (Ĳ (Ă Ų (Ă (Ġ (Ŏ (Ă (v_var 5) (Ă (v_var 6) (Ă (v_add (ā 7) (Ě (Zch Yk Yl T.ZcG PyProof.Rows.boot_int (ė (Ě (v_eq hu (Ě (Ĳ (Ă (v_var 5) (Ă (v_var 6) Ę)))) (Ě (Ĳ (Ă (v_var 7) (Ă (v_var 8) Ę)))))) Ħ)))) (Ă (v_var 8) (Ă (v_var 3) Ę))))))) Ę))))) ĵ) (ĕ (Ű (t_eq hu (ā 4) ă) (Ľ (Ĳ (Ă Ų (Ă (v_add (eN (Ě (Ġ (Ŏ (Ă (v_var 5) (Ă (v_var 6) (Ă (v_mod (ı (ā 2) ă) ă) Ę)))))) (Ě (Ġ (Ŏ (Ă (Ġ (Ĉ (qG T) T.Ŧ hr ĝ (č (Ļ (ā 2) ă) (Ċ 1 Č)))) (Ă (Ġ (Ĉ (qG T) T.Ŧ hr ĝ (č (Ļ (ā 2) ă) (Ċ 1 Č)))) (Ă (v_var 3) Ę))))))) (Ě (Ġ (Ŏ (Ă (Ġ (Ĉ (qG T) T.Ŧ hr ĝ (č (Ļ (ā 2) ă) (Ċ 1 Č)))) (Ă (Ġ (Ĉ (qG T) T.Ŧ hr ĝ (č (Ļ (ā 2) ă) (Ċ 1 Č)))) (Ă (Ġ (Ĉ (JH T) T.cG hr ĝ (č (Ļ (ā 2) ă) Č))) Ę))))))) Ę)))) ĵ) (Ľ (Ĳ (Ă (Ļ (Ě (Ġ (Ŏ (Ă Ų (Ă Ų Ę))))) (jL (ā 4) ă)) (Ă (Ġ (Ŏ (Ă (v_var 5) (Ă (v_var 6) (Ă (v_add (eN (ā 5) ă) (ŋ (ı (ā 2) ă) ă)) (Ă (v_add (eN (ā 6) ă) (ŋ (ı (ā 2) ă) ă)) (Ă (v_var 3) Ę))))))) Ę))))))))))
def qH(T:Tx K mg a):ģ P w K mg base (Ŗ P w) 1 a.RL a.Ue ["number"] (š ⟨K,ĥ a⟩ 1 lY):=by
 refine ķ T.ak.F Zac λ_ _ _ _ _ _ _ _=>?_
 exact Ľ (lW cZ cZ cP cP (Ě (tZ dJ dD (Ě (tY (.int 1000000000) (ř (v:=.int 1000000000) rfl T.jU ⟨_,rfl⟩))))) (ā 0) (Ě (tY (.int 1000000000) (ř (v:=.int 1000000000) rfl T.jU ⟨_,rfl⟩))))
def JK(T:Tx K mg a):ģ P w K mg base (Ŗ P w) 1 a.RM a.Ug ["number"] (š ⟨K,ĥ a⟩ 1 xu):=by
 refine ķ T.gG.F Zad λ_ _ _ _ _ _ _ _=>?_
 exact Ľ (lW cZ cZ cP cP ă (ā 0) (Ě (tY (.int 1000000000) (ř (v:=.int 1000000000) rfl T.jh ⟨_,rfl⟩))))
def ZaC(T:Tx K mg a):ģ P w K mg base (Ŗ P w) 2 a.RN a.Uh ["numbers"] (š ⟨K,ĥ a⟩ 1 xG):=by
 refine ķ T.jQ.F Zae λ_ _ _ _ _ _ hr hu=>?_
 exact Ľ (v_and (v_eq hu (Ě (ż cg cB T.ji PySem.boot_len (ė (ā 0) Ħ))) ă) (v_and (Ġ (Ĉ (qH T) T.ak hr ĝ (č (Ļ (ā 0) ă) Č))) (v_and (Ġ (Ĉ (qH T) T.ak hr ĝ (č (Ļ (ā 0) ă) Č))) (iM (Ġ (Ĉ (JK T) T.gG hr ĝ (č (Ļ (ā 0) ă) Č)))))))
def JL(T:Tx K mg a):ģ P w K mg base (Ŗ P w) 1 a.mY a.DR ["self","word","numbers"] (Kf ⟨K,ĥ a⟩ 3 "Post" uM):=by
 refine fnI (cm:=ĥ a) (mb:=eO) T.ī.F yc rfl rfl rfl λcdv A outer s H E hr=>?_
 have hu:=hr.units
 exact ĕ (Ź ["Thing","Post","Fence","Sail","Cloth","House"] (Zy T) (pv 0) (v_var 1)) (Į (Ź ["Thing","Post","Fence","Sail","Cloth","House"] (Z4 T) (pv 0) (Ġ (wY bJ bK T.dX PyProof.Rows.boot_list (ė (ā 2) Ħ)))))
def D_(T:Tx K mg a):ģ P w K mg base (Ŗ P w) 1 a.mY a.DR ["self","word","numbers"] (Kf ⟨K,ĥ a⟩ 3 "Fence" pI):=by
 refine fnI (cm:=ĥ a) (mb:=eO) T.ī.F yc rfl rfl rfl λcdv A outer s H E hr=>?_
 have hu:=hr.units
 exact ĕ (Ź ["Thing","Post","Fence","Sail","Cloth","House"] (Zy T) (pv 0) (v_var 1)) (Į (Ź ["Thing","Post","Fence","Sail","Cloth","House"] (Z4 T) (pv 0) (Ġ (wY bJ bK T.dX PyProof.Rows.boot_list (ė (ā 2) Ħ)))))
def JM(T:Tx K mg a):ģ P w K mg base (Ŗ P w) 1 a.mY a.DR ["self","word","numbers"] (Kf ⟨K,ĥ a⟩ 3 "Sail" uN):=by
 refine fnI (cm:=ĥ a) (mb:=eO) T.ī.F yc rfl rfl rfl λcdv A outer s H E hr=>?_
 have hu:=hr.units
 exact ĕ (Ź ["Thing","Post","Fence","Sail","Cloth","House"] (Zy T) (pv 0) (v_var 1)) (Į (Ź ["Thing","Post","Fence","Sail","Cloth","House"] (Z4 T) (pv 0) (Ġ (wY bJ bK T.dX PyProof.Rows.boot_list (ė (ā 2) Ħ)))))
def Ea(T:Tx K mg a):ģ P w K mg base (Ŗ P w) 1 a.mY a.DR ["self","word","numbers"] (Kf ⟨K,ĥ a⟩ 3 "Cloth" pJ):=by
 refine fnI (cm:=ĥ a) (mb:=eO) T.ī.F yc rfl rfl rfl λcdv A outer s H E hr=>?_
 have hu:=hr.units
 exact ĕ (Ź ["Thing","Post","Fence","Sail","Cloth","House"] (Zy T) (pv 0) (v_var 1)) (Į (Ź ["Thing","Post","Fence","Sail","Cloth","House"] (Z4 T) (pv 0) (Ġ (wY bJ bK T.dX PyProof.Rows.boot_list (ė (ā 2) Ħ)))))
def Eb(T:Tx K mg a):ģ P w K mg base (Ŗ P w) 1 a.mY a.DR ["self","word","numbers"] (Kf ⟨K,ĥ a⟩ 3 "House" pK):=by
 refine fnI (cm:=ĥ a) (mb:=eO) T.ī.F yc rfl rfl rfl λcdv A outer s H E hr=>?_
 have hu:=hr.units
 exact ĕ (Ź ["Thing","Post","Fence","Sail","Cloth","House"] (Zy T) (pv 0) (v_var 1)) (Į (Ź ["Thing","Post","Fence","Sail","Cloth","House"] (Z4 T) (pv 0) (Ġ (wY bJ bK T.dX PyProof.Rows.boot_list (ė (ā 2) Ħ)))))
def JN(T:Tx K mg a):ģ P w K mg base (Ŗ P w) 2 a.RP a.Ui ["numbers"] (š ⟨K,ĥ a⟩ 1 sE):=by
 refine ķ T.bB.F Zaf λ_ _ _ _ _ _ hr hu=>?_
 exact Ľ (v_and (v_eq hu (Ě (ż cg cB T.ji PySem.boot_len (ė (ā 0) Ħ))) ă) (v_and (ż (yS rfl) zm T.Jt PyProof.Rows.boot_all (ė (Ě (Ġ (pF (iQ (Ġ (aP (ā 0) um (Ÿ Ĭ)))) bx Ū (Ġ (Ĉ (qH T) T.ak hr ű (Ċ 0 Č)))))) Ħ)) (iM (Ġ (Ĉ (JK T) T.gG hr ĝ (č (Ļ (ā 0) ă) Č))))))
def ZaD(T:Tx K mg a):ģ P w K mg base (Ŗ P w) 3 a.RQ a.Uj ["numbers"] (š ⟨K,ĥ a⟩ 1 xH):=by
 refine ķ T.jc.F Zag λ_ _ _ _ _ _ hr hu=>?_
 exact Ľ (v_and (Ġ (Ĉ (JN T) T.bB hr ĝ (Ċ 0 Č))) (iM (oJ Pr (FJ hu) (Ě (Ġ (aP (ā 0) um (Ÿ Ĭ)))) (Ě (Ġ (aP (ā 0) (Ÿ Ĭ) (Ÿ Ĭ)))) (Ň _))))
def Vv(T:Tx K mg a):ģ P w K mg base (Ŗ P w) 3 a.Zct a.Zcz ["numbers"] (š ⟨K,ĥ a⟩ 1 DQ):=by
 refine ķ T.Ř.F ZcJ λ_ _ _ _ _ _ hr _=>?_
 exact Ľ (v_and (Ġ (Ĉ (JN T) T.bB hr ĝ (Ċ 0 Č))) (v_and (oJ eE dZ (ı (ā 0) ă) (ı (ā 0) ă) (Ň _)) (iM (oJ eE dZ (ı (ā 0) ă) (ı (ā 0) ă) (Ň _)))))
def ZcR(T:Tx K mg a):ģ P w K mg base (Ŗ P w) 2 a.Zcu a.ZcA ["numbers"] (š ⟨K,ĥ a⟩ 1 Nz):=by
 refine ķ T.bQ.F ZcK λ_ _ _ _ _ _ hr _=>?_
 exact Ľ (v_and (Ġ (Ĉ (qH T) T.ak hr ĝ (č (Ļ (ā 0) ă) Č))) (v_and (Ġ (Ĉ (qH T) T.ak hr ĝ (č (Ļ (ā 0) ă) Č))) (iM (lW cZ cZ cP cP ă (ı (ā 0) ă) (Ě (tY (.int 1000000000) (ř (v:=.int 1000000000) rfl T.jh ⟨_,rfl⟩)))))))
def ZaE(T:Tx K mg a):ģ P w K mg base (Ŗ P w) 3 a.RT a.Uk ["numbers"] (š ⟨K,ĥ a⟩ 1 xJ):=by
 refine ķ T.jd.F Zah λ_ _ _ _ _ _ hr hu=>?_
 exact Ľ (v_and (v_eq hu (Ě (ż cg cB T.ji PySem.boot_len (ė (ā 0) Ħ))) ă) (iM (ż (yS rfl) zm T.Jt PyProof.Rows.boot_all (ė (Ě (Ġ (pF (iQ (Ĳ (Ă Ĭ (Ă Ĭ (Ă Ĭ Ę))))) bx Ū (Ġ (Ĉ (ZcR T) T.bQ hr ű (č (Ġ (aP (ā 0) (Ÿ (v_var 1)) (Ÿ (v_add (ā 1) ă)))) Č)))))) Ħ))))
def ZaF(T:Tx K mg a):ģ P w K mg base (Ŗ P w) 4 a.RW a.Ul ["word","numbers"] (š ⟨K,ĥ a⟩ 2 eU):=by
 refine ķ T.qd.F Zai λ_ _ _ _ _ _ hr hu=>?_
 exact ĕ (Ű (PW.pt (w_and (t_eq hu (ā 0) wX) (fX (aX (Ě (Ġ (Ĉ (ZaC T) T.jQ hr ĝ (Ċ 1 Č)))))))) (Ľ (kZ T.YX (JL T) aQ hr.mo rfl (Z1Q T) T.ī.b ĝ (Ċ 0 (Ċ 1 Č)))) ĵ) (ĕ (Ű (PW.pt (w_and (t_eq hu (ā 0) wX) (fX (aX (Ě (Ġ (Ĉ (ZaD T) T.jc hr ĝ (Ċ 1 Č)))))))) (Ľ (kZ T.Og (D_ T) aQ hr.mo rfl (Z1m T) T.ī.b ĝ (Ċ 0 (Ċ 1 Č)))) ĵ) (ĕ (Ű (PW.pt (w_and (t_eq hu (ā 0) wX) (fX (aX (Ě (Ġ (Ĉ (Vv T) T.Ř hr ĝ (Ċ 1 Č)))))))) (Ľ (kZ T.YZ (JM T) aQ hr.mo rfl (Z1R T) T.ī.b ĝ (Ċ 0 (Ċ 1 Č)))) ĵ) (ĕ (Ű (PW.pt (w_and (t_eq hu (ā 0) wX) (fX (aX (Ě (Ġ (Ĉ (ZaE T) T.jd hr ĝ (Ċ 1 Č)))))))) (Ľ (kZ T.Oh (Ea T) aQ hr.mo rfl (Z1n T) T.ī.b ĝ (Ċ 0 (Ċ 1 Č)))) ĵ) (ĕ (Ű (PW.pt (w_and (t_eq hu (ā 0) wX) (fX (aX (Ě (Ġ (Ĉ (Vv T) T.Ř hr ĝ (Ċ 1 Č)))))))) (Ľ (kZ T.Oi (Eb T) aQ hr.mo rfl (Z1o T) T.ī.b ĝ (Ċ 0 (Ċ 1 Č)))) ĵ) (Į (Hf (C:= "BadThing") rfl rfl uw rfl (ZT T) T.Ah))))))
def JQ(T:Tx K mg a):ģ P w K mg base (Ŗ P w) 1 a.RX a.Um ["_law_cell","_law_size_here"] (š ⟨K,ĥ a⟩ 2 bO):=by
 refine ķ T.dW.F vH λ_ _ _ _ _ _ _ _=>?_
 exact Ķ vH (ţ (Ĳ (Ă (v_mod (bN (ā 0) ă) (ı (ā 1) ă)) (Ă (v_mod (bN (ā 0) ă) (ı (ā 1) ă)) Ę)))) (Ķ vH (ţ (v_mul (Ě (ż (nJ rfl) nP T.qm PyProof.Rows.boot_min (ė (ŋ (bN (ā 0) ă) (Ě (aB gk fU ă ă))) (ė (jL (Ě (aB gk fU ă ă)) ă) Ħ)))) (bN (ŋ (bN (ā 0) ă) ă) ă))) (Ķ vH (Ŏ (Ă (v_var 2) (Ă (v_var 2) (Ă (Ĳ (Ă (v_add (ı (ā 1) ă) (ā 3)) (Ă (Ļ (ā 2) ă) Ę))) (Ă (Ĳ (Ă (Ļ (ā 2) ă) (Ă (v_sub (jL ă ă) (ā 3)) Ę))) (Ă (Ĳ (Ă (v_sub (jL ă ă) (ā 3)) (Ă (v_add (ı (ā 1) ă) (ā 3)) Ę))) Ę)))))) (Ľ (Ļ (ā 4) (ŋ (ā 0) ă)))))
def ZaG(T:Tx K mg a):ģ P w K mg base (Ŗ P w) 1 a.RZ a.Uo ["_law_stone_here","_law_size_here"] (š ⟨K,ĥ a⟩ 2 i_):=by
 refine ķ T.je.F Zaj λ_ _ _ _ _ _ _ _=>?_
 exact Ľ (v_and (lW cZ eE cP dZ ă (ı (ā 0) ă) (ı (ā 1) ă)) (iM (lW cZ eE cP dZ ă (ı (ā 0) ă) (ı (ā 1) ă))))
def ZaH(T:Tx K mg a):ģ P w K mg base (Ŗ P w) 2 a.R_ a.Uq ["_law_caught","_law_yard","_law_day","_law_ends"] (š ⟨K,ĥ a⟩ 4 eV):=by
 refine ķ T.mH.F Ak λ_ _ _ _ _ _ hr hu=>?_
 exact Ķ Ak (ţ (Ĳ (Ă (Ņ ["Yard"] (Z7 T) (ā 1)) (Ă (Ņ ["Yard"] (Zh T) (ā 1)) Ę)))) (ĕ (wZ Ak (aG 3) bx (za (rJ (aX (Ě (Ġ (Ĉ (ZaG T) T.je hr ű (Ċ 1 (Ċ 0 Č)))))))) (v_var 1)) (ĕ (Ű (PW.pt (w_and (t_eq hu (ā 5) (Ě (Ġ (Ŏ Ę)))) (fX (ZbE cZ eE cP dZ ă (ā 2) (Ě (ż cg cB T.ji PySem.boot_len (ė (Ě (Ņ ["Yard"] (ZC T) (ā 1))) Ħ))))))) (Ľ (oJ rN jY (ā 0) pC (Ň _))) ĵ) (ĕ (Ű (PW.pt (w_or (aX (Ě (ż Nq (Nr T.iC T.iT T.iD T.iN) T.ŧ PyProof.Rows.boot_isinstance (ė (ā 0) (ė (Ě (Ĳ (Ă (tY (.cls "BadRow") (ř (v:=.ref (ĥ a "BadRow")) rfl (Z0Z T) rfl)) (Ă (tY (.cls "BadThing") (ř (v:=.ref (ĥ a "BadThing")) rfl (ZT T) rfl)) (Ă (tY (.cls "NoDay") (ř (v:=.ref (ĥ a "NoDay")) rfl (Z1l T) rfl)) (Ă (tY (.cls "NoNumber") (ř (v:=.ref (ĥ a "NoNumber")) rfl (Z0D T) rfl)) (Ă (tY (.cls "NoRow") (ř (v:=.ref (ĥ a "NoRow")) rfl (Z1k T) rfl)) Ę))))))) Ħ))))) (OJ (rJ (aX (Ě (ż iu (iw T.iC T.iT T.iD T.iN) T.ŧ PyProof.Rows.boot_isinstance (ė (ā 0) (ė (Ě (tY (.ty "ValueError") (Kr (v:=.ty "ValueError") rfl T.vf (show bootBuiltins "ValueError" =some (.type "ValueError") by kernel_rfl) rfl))) Ħ))))))))) (Ľ LR) ĵ) (ĕ (Ű (aY Ys (Yr hu) (ā 5) (Ě (Ġ (Ŏ Ę))) (Ň _)) (Ľ (v_and (ż iu (iw T.iC T.iT T.iD T.iN) T.ŧ PyProof.Rows.boot_isinstance (ė (ā 0) (ė (Ě (tY (.cls "NoStone") (ř (v:=.ref (ĥ a "NoStone")) rfl (ZE T) rfl))) Ħ))) (v_and (v_not (ż iu (iw T.iC T.iT T.iD T.iN) T.ŧ PyProof.Rows.boot_isinstance (ė (ā 0) (ė (Ě (tY (.cls "NoTurn") (ř (v:=.ref (ĥ a "NoTurn")) rfl (ZJ T) rfl))) Ħ)))) (iM (v_eq hu (Ě (zA ["NoStone"] ⟨⟨T.tD,T.fB⟩,trivial⟩ (v_var 0))) (ı (ā 5) ă)))))) ĵ) (ĕ (Ű (PW.pt (w_or (rJ (aX (Ě (ż iu (iw T.iC T.iT T.iD T.iN) T.ŧ PyProof.Rows.boot_isinstance (ė (ā 0) (ė (Ě (tY (.cls "NoTurn") (ř (v:=.ref (ĥ a "NoTurn")) rfl (ZJ T) rfl))) Ħ)))))) (OJ (aX (Ě (ż iu (iw T.iC T.iT T.iD T.iN) T.ŧ PyProof.Rows.boot_isinstance (ė (ā 0) (ė (Ě (tY (.cls "NoStone") (ř (v:=.ref (ĥ a "NoStone")) rfl (ZE T) rfl))) Ħ)))))))) (Ľ LR) ĵ) (Ľ (v_and (v_eq hu (Ě (zA ["NoTurn"] ⟨⟨T.jV,T.jW⟩,trivial⟩ (v_var 0))) (ā 2)) (iM (oJ rN jY (Ě (zA ["NoTurn"] ⟨⟨T.jV,T.jj⟩,trivial⟩ (v_var 0))) pC (Ň _))))))))))
def JR(T:Tx K mg a):ģ P w K mg base (Ŗ P w) 1 a.Sd a.Ur ["yard","stone"] (š ⟨K,ĥ a⟩ 2 eX):=by
 refine ķ T.gH.F Zak λ_ _ _ _ _ _ _ _=>?_
 exact Ľ (v_and (lW cZ eE cP dZ ă (ı (ā 1) ă) (Ě (Ņ ["Yard"] (Z7 T) (ā 0)))) (iM (lW cZ eE cP dZ ă (ı (ā 1) ă) (Ě (Ņ ["Yard"] (Zh T) (ā 0))))))
def JT(T:Tx K mg a):ģ P w K mg base (Ŗ P w) 3 a.Sg a.Us ["yard","stone"] (š ⟨K,ĥ a⟩ 2 pN):=by
 refine ķ T.cH.F Zal λ_ _ _ _ _ _ hr _=>?_
 exact Į (Ű (rJ (aX (Ě (Ġ (Ĉ (JR T) T.gH hr ĝ (Ċ 0 (Ċ 1 Č))))))) (Į (wL (C:= "NoStone") rfl rfl uw T.DY (ZcP T) hr.mo rfl (ZE T) T.bC.b ĝ (Ă (v_var 1) Ę))) ĵ)
def ZaI(T:Tx K mg a):ģ P w K mg base (Ŗ P w) 1 a.Sh a.Ut ["yard","day"] (š ⟨K,ĥ a⟩ 2 jO):=by
 refine ķ T.sZ.F Zam λ_ _ _ _ _ _ _ _=>?_
 exact Ľ (lW cZ eE cP dZ ă (ā 1) (Ě (ż cg cB T.ji PySem.boot_len (ė (Ě (Ņ ["Yard"] (ZC T) (ā 0))) Ħ))))
def ZaJ(T:Tx K mg a):ģ P w K mg base (Ŗ P w) 3 a.Sq a.Uu ["yard","day"] (š ⟨K,ĥ a⟩ 2 sG):=by
 refine ķ T.mJ.F Zan λ_ _ _ _ _ _ hr _=>?_
 exact Į (Ű (rJ (aX (Ě (Ġ (Ĉ (ZaI T) T.sZ hr ĝ (Ċ 0 (Ċ 1 Č))))))) (Į (wL (C:= "NoTurn") rfl rfl uw T.Ju (ZcQ T) hr.mo rfl (ZJ T) T.bU.b ĝ (Ă (v_var 1) (Ă oH Ę)))) ĵ)
def Ar(T:Tx K mg a):ģ P w K mg base (Ŗ P w) 1 a.Ss a.Uv ["stone","width"] (š ⟨K,ĥ a⟩ 2 pO):=by
 refine ķ T.bR.F Zao λ_ _ _ _ _ _ _ _=>?_
 exact ņ (jM (Ō (ı (ā 0) ă) (ā 1)) (ı (ā 0) ă))
def ZaK(T:Tx K mg a):ģ P w K mg base (Ŗ P w) 1 a.Sv a.Uw ["yard","day"] (š ⟨K,ĥ a⟩ 2 Cg):=by
 refine ķ T.qe.F Zap λ_ _ _ _ _ _ _ _=>?_
 exact Ľ (Ļ (ı (Ě (Ņ ["Yard"] (ZC T) (ā 0))) (ā 1)) ă)
def ZaL(T:Tx K mg a):ģ P w K mg base (Ŗ P w) 1 a.Sw a.Ux ["points"] (š ⟨K,ĥ a⟩ 1 Ci):=by
 refine ķ T.mK.F Al λ_ _ _ _ _ _ _ _=>?_
 exact ĕ (wZ Al (aG 0) bx Ū (Ļ (ā 0) ă)) (ĕ (wZ Al (aG 0) bx Ū (Ļ (ā 0) ă)) (ņ (Ŏ (Ă (Ĳ (Ă Ĭ (Ă Ĭ (Ă (ż (zE rfl) zF T.Cy PyProof.Rows.boot_max (ė (ā 1) Ħ)) Ę)))) (Ă (Ĳ (Ă (tZ dJ dD ă) (Ă Ĭ (Ă (tZ dJ dD (Ě (ż (Hw rfl) Hx T.qm PyProof.Rows.boot_min (ė (ā 1) Ħ)))) Ę)))) (Ă (Ĳ (Ă Ĭ (Ă Ĭ (Ă (ż (zE rfl) zF T.Cy PyProof.Rows.boot_max (ė (ā 2) Ħ)) Ę)))) (Ă (Ĳ (Ă Ĭ (Ă (tZ dJ dD ă) (Ă (tZ dJ dD (Ě (ż (Hw rfl) Hx T.qm PyProof.Rows.boot_min (ė (ā 2) Ħ)))) Ę)))) Ę)))))))
def ZaM(T:Tx K mg a):ģ P w K mg base (Ŗ P w) 1 a.Sx a.Uy ["points"] (š ⟨K,ĥ a⟩ 1 Cj):=by
 refine ķ T.mL.F Am λ_ _ _ _ _ _ _ hu=>?_
 exact Ķ Am (Ŏ Ę) (ĕ (gb PassesOwn.leaving rfl (aG 0) (gB Am) (Į (Ű (aY Yn (Dz hu) (ā 2) (ā 1) (by with_unfolding_all rfl)) (Į (PS.wk (aN (lQ PySem.F.plainAttrs_list PySem.F.slot_list_append PySem.F.type_list_append œ (pv 1) (Ă (v_var 2) Ę))) λ_ _ _ h=>bH h)) ĵ))) (ņ (lV 1)))
def ZaN(T:Tx K mg a):ģ P w K mg base (Ŗ P w) 1 a.Sy a.Uz ["one","other"] (š ⟨K,ĥ a⟩ 2 Ck):=by
 refine ķ T.gJ.F Ao λ_ _ _ _ _ _ _ _=>?_
 exact Ķ Ao (ţ (v_sub (ı (ā 1) ă) (ı (ā 0) ă))) (Ķ Ao (ţ (v_sub (ı (ā 0) ă) (ı (ā 1) ă))) (Ľ (Ĳ (Ă (v_var 2) (Ă (v_var 3) (Ă (v_add (Ō (ā 2) (ı (ā 0) ă)) (Ō (ā 3) (ı (ā 0) ă))) Ę))))))
def ZaO(T:Tx K mg a):ģ P w K mg base (Ŗ P w) 1 a.SJ a.UG ["line","pair"] (š ⟨K,ĥ a⟩ 2 sI):=by
 refine ķ T.Cv.F Zaq λ_ _ _ _ _ _ _ _=>?_
 exact Ľ (oJ cZ cP (eN (Ō (ı (ā 0) ă) (ı (ā 1) ă)) (Ō (ı (ā 0) ă) (ı (ā 1) ă))) (ı (ā 0) ă) (Ň _))
def ZaP(T:Tx K mg a):ģ P w K mg base (Ŗ P w) 2 a.SN a.UJ ["points"] (š ⟨K,ĥ a⟩ 1 Cm):=by
 refine ķ T.jR.F lK λ_ _ _ _ _ _ hr hu=>?_
 exact Ķ lK (Ŏ Ę) (Ķ lK (Ĉ (ZaM T) T.mL hr ĝ (Ċ 0 Č)) (ĕ (gb PassesOwn.leaving rfl (aG 2) (gB lK) (Į (gb PassesOwn.leaving rfl (aG 2) (gB lK) (Ķ lK (Ĉ (ZaN T) T.gJ hr ĝ (Ċ 3 (Ċ 4 Č))) (Į (Ű (PW.pt (w_and (Zcg hu (ā 3) (ā 4)) (fX (aX (Ě (ż (yS rfl) zm T.Jt PyProof.Rows.boot_all (ė (Ě (Ġ (pF (aG 2) bx Ū (Ġ (Ĉ (ZaO T) T.Cv hr ű (Ċ 0 (Ċ 1 Č))))))) Ħ))))))) (Į (PS.wk (aN (lQ PySem.F.plainAttrs_list PySem.F.slot_list_append PySem.F.type_list_append œ (pv 1) (Ă (v_var 5) Ę))) λ_ _ _ h=>bH h)) ĵ)))))) (ņ (lV 1))))
def ZaQ(T:Tx K mg a):ģ P w K mg base (Ŗ P w) 3 a.SQ a.UL ["points"] (š ⟨K,ĥ a⟩ 1 Cp):=by
 refine ķ T.jf.F Zar λ_ _ _ _ _ _ hr _=>?_
 exact ņ (jM (Ě (Ġ (Ĉ (ZaL T) T.mK hr ĝ (Ċ 0 Č)))) (Ě (Ġ (Ĉ (ZaP T) T.jR hr ĝ (Ċ 0 Č)))))
def ZaR(T:Tx K mg a):ģ P w K mg base (Ŗ P w) 1 a.SX a.UW ["point","ray"] (š ⟨K,ĥ a⟩ 2 sJ):=by
 refine ķ T.Jq.F Zas λ_ _ _ _ _ _ _ _=>?_
 exact Ľ (Ĳ (Ă (v_add (Ō (ı (ā 1) ă) (ı (ā 0) ă)) (Ō (ı (ā 1) ă) (ı (ā 0) ă))) (Ă (v_add (Ō (ı (ā 1) ă) (ı (ā 0) ă)) (Ō (ı (ā 1) ă) (ı (ā 0) ă))) Ę)))
def Av(T:Tx K mg a):ģ P w K mg base (Ŗ P w) 1 a.S_ a.U_ ["x","y","u","v","z"] (š ⟨K,ĥ a⟩ 5 sO):=by
 refine ķ T.Ů.F Zat λ_ _ _ _ _ _ _ _=>?_
 exact ņ (Ŏ (Ă (Ĳ (Ă (v_var 0) (Ă (v_var 1) (Ă (v_var 4) Ę)))) (Ă (Ĳ (Ă (v_var 2) (Ă (v_var 1) (Ă (v_var 4) Ę)))) (Ă (Ĳ (Ă (v_var 2) (Ă (v_var 3) (Ă (v_var 4) Ę)))) (Ă (Ĳ (Ă (v_var 0) (Ă (v_var 3) (Ă (v_var 4) Ę)))) Ę)))))
def JV(T:Tx K mg a):ģ P w K mg base (Ŗ P w) 2 a.Tc a.Va ["x","y","u","v","h"] (š ⟨K,ĥ a⟩ 5 xK):=by
 refine ķ T.aJ.F Zau λ_ _ _ _ _ _ hr _=>?_
 exact ņ (jM (Ě (Ġ (Ĉ (Av T) T.Ů hr ĝ (Ċ 0 (Ċ 1 (Ċ 2 (Ċ 3 (č Ĭ Č)))))))) (Ě (Ġ (Ĉ (Av T) T.Ů hr ĝ (Ċ 0 (Ċ 1 (Ċ 2 (Ċ 3 (Ċ 4 Č)))))))))
def ZaS(T:Tx K mg a):ģ P w K mg base (Ŗ P w) 3 a.Jh a.Vb ["self"] (š ⟨K,ĥ a⟩ 1 lZ):=by
 refine ķ T.gK.F Aq λ_ _ _ _ _ _ hr _=>?_
 exact Ķ Aq (ţ (v_mul ă (ı (Ě (Ņ ["Thing","Post","Fence","Sail","Cloth","House"] (Z4 T) (ā 0))) ă))) (Ķ Aq (ţ (v_mul ă (ı (Ě (Ņ ["Thing","Post","Fence","Sail","Cloth","House"] (Z4 T) (ā 0))) ă))) (ņ (Ĉ (JV T) T.aJ hr ĝ (č (v_sub (ā 1) ă) (č (v_sub (ā 2) ă) (č (v_add (ā 1) ă) (č (v_add (ā 2) ă) (č (Ļ (Ě (Ņ ["Thing","Post","Fence","Sail","Cloth","House"] (Z4 T) (ā 0))) ă) Č))))))))
def ZaT(T:Tx K mg a):ģ P w K mg base (Ŗ P w) 1 a.Ji a.Vc ["self"] (š ⟨K,ĥ a⟩ 1 mj):=by
 refine ķ T.eZ.F vI λ_ _ _ _ _ _ _ _=>?_
 exact Ķ vI (ţ (Ņ ["Thing","Post","Fence","Sail","Cloth","House"] (Z4 T) (ā 0))) (Ķ vI (ţ (Ĳ (Ă (Ļ (ā 1) ă) (Ă (Ļ (ā 1) ă) Ę)))) (Ķ vI (ţ (Ĳ (Ă (Ļ (ā 1) ă) (Ă (Ļ (ā 1) ă) Ę)))) (ņ (Ŏ (Ă (v_add (ā 2) (Ě (Ĳ (Ă Ĭ Ę)))) (Ă (v_add (ā 3) (Ě (Ĳ (Ă Ĭ Ę)))) (Ă (v_add (ā 3) (Ě (Ĳ (Ă (Ļ (ā 1) ă) Ę)))) (Ă (v_add (ā 2) (Ě (Ĳ (Ă (Ļ (ā 1) ă) Ę)))) Ę))))))))
def ZaU(T:Tx K mg a):ģ P w K mg base (Ŗ P w) 2 a.Jj a.Vd ["self"] (š ⟨K,ĥ a⟩ 1 mq):=by
 refine ķ T.gM.F Jx λ_ _ _ _ _ _ hr _=>?_
 exact Ķ Jx (ţ (Ņ ["Thing","Post","Fence","Sail","Cloth","House"] (Z4 T) (ā 0))) (ņ (Ĉ (Av T) T.Ů hr ĝ (č (Ļ (ā 1) ă) (č (Ļ (ā 1) ă) (č (Ļ (ā 1) ă) (č (Ļ (ā 1) ă) (č (Ļ (ā 1) ă) Č)))))))
def ZcS(T:Tx K mg a):ģ P w K mg base (Ŗ P w) 1 a.YC a.ZcB ["self"] (š ⟨K,ĥ a⟩ 1 xM):=by
 refine ķ T.fj.F ZcL λ_ _ _ _ _ _ _ _=>?_
 exact ņ (pF (iQ (Ĳ (Ă Ĭ (Ă Ĭ (Ă Ĭ Ę))))) bx Ū (Zch GF GJ T.Oc PyProof.Rows.boot_tuple (ė (Ě (Ġ (aP (Ě (Ņ ["Thing","Post","Fence","Sail","Cloth","House"] (Z4 T) (ā 0))) (Ÿ (v_var 1)) (Ÿ (v_add (ā 1) ă))))) Ħ)))
def ZaV(T:Tx K mg a):ģ P w K mg base (Ŗ P w) 3 a.Jk a.Ve ["self"] (š ⟨K,ĥ a⟩ 1 mz):=by
 refine ķ T.fu.F Jy λ_ _ _ _ _ _ hr _=>?_
 exact Ķ Jy (ţ (Ņ ["Thing","Post","Fence","Sail","Cloth","House"] (Z4 T) (ā 0))) (ņ (Ĉ (JV T) T.aJ hr ĝ (č (Ļ (ā 1) ă) (č (Ļ (ā 1) ă) (č (Ļ (ā 1) ă) (č (Ļ (ā 1) ă) (č (Ļ (ā 1) ă) Č)))))))
def ZaW(T:Tx K mg a):ģ P w K mg base (Ŗ P w) 4 a.Td a.Vf ["thing","ray"] (š ⟨K,ĥ a⟩ 2 xO):=by
 refine ķ T.gO.F Zav λ_ _ _ _ _ _ hr _=>?_
 exact ņ (pF (PN (iQ (Ġ (Mx (Ke:= "corners") (k:=3) (n:=1) (fL:=[("Post",lZ),("Fence",mj),("Sail",mq),("Cloth",xM),("House",mz)]) ⟨⟨T.Ai,_,_,_,T.qw,(ZaS T).mono (by decide),T.gK.b,cY⟩,⟨⟨T.vo,_,_,_,T.ni,(ZaT T).mono (by decide),T.eZ.b,cY⟩,⟨⟨T.Aj,_,_,_,T.qC,(ZaU T).mono (by decide),T.gM.b,cY⟩,⟨⟨T.vq,_,_,_,T.nq,(ZcS T).mono (by decide),T.fj.b,cY⟩,⟨⟨T.vB,_,_,_,T.nA,(ZaV T).mono (by decide),T.fu.b,cY⟩,trivial⟩⟩⟩⟩⟩ hr.mo ű (v_var 0))))) bx Ū (Ġ (Ĉ (ZaR T) T.Jq hr ű (Ċ 1 (Ċ 0 Č)))))
def JW(T:Tx K mg a):ģ P w K mg base (Ŗ P w) 1 a.Te a.Vg ["first","last"] (š ⟨K,ĥ a⟩ 2 sS):=by
 refine ķ T.gP.F Zaw λ_ _ _ _ _ _ _ _=>?_
 exact ĕ (Ű (aY eE dZ (ā 1) (ā 0) (Ň _)) (Ľ Ĭ) ĵ) (Ľ (v_sub (Ě (aB zc zj ă (eN (ā 1) ă))) (Ě (aB zc zj ă (ā 0)))))
def ZaX(T:Tx K mg a):ģ P w K mg base (Ŗ P w) 2 a.Tf a.Vh ["lines","unit","q","width"] (š ⟨K,ĥ a⟩ 4 xP):=by
 refine ķ T.qg.F cI λ_ _ _ _ _ _ hr _=>?_
 exact Ķ cI (ţ Ĭ) (Ķ cI (ţ (v_sub (ā 3) ă)) (ĕ (gb PassesOwn.leaving rfl (aG 0) (Bt rfl (Ś (gB cI) (Ś (gB cI) (Ś (gB cI) kO)))) (Ķ cI (ţ (v_mul (ā 6) (ā 1))) (Ķ cI (ţ (v_sub (ā 8) (Ō (Ō (ā 7) (ā 1)) (ā 2)))) (Į (Ű (aY Pn Ow (ā 9) ă (Ň _)) (Į (DN cI (ţ (ż (nJ rfl) nP T.qm PyProof.Rows.boot_min (ė (ā 5) (ė (bN (ā 10) (ā 9)) Ħ)))))) (Į (Ű (aY eE dZ (ā 9) ă (Ň _)) (Į (DN cI (ţ (ż (Lg rfl) Mv T.Cy PyProof.Rows.boot_max (ė (ā 4) (ė (Ě (tZ dJ dD (bN (ā 10) (Ě (tZ dJ dD (ā 9)))))) Ħ)))))) (Į (Ű (aY eE dZ (ā 10) ă (Ň _)) (Ľ Ĭ) ĵ))))))))) (ņ (Ĉ (JW T) T.gP hr ĝ (Ċ 4 (Ċ 5 Č))))))
def ZaY(T:Tx K mg a):ģ P w K mg base (Ŗ P w) 5 a.Ti a.Vi ["yard","thing","ray"] (š ⟨K,ĥ a⟩ 3 sU):=by
 refine ķ T.tu.F qD λ_ _ _ _ _ _ hr _=>?_
 exact Ķ qD (Ĉ (ZaQ T) T.jf hr ĝ (č (Ġ (Ĉ (ZaW T) T.gO hr ĝ (Ċ 1 (Ċ 2 Č)))) Č)) (Ķ qD (ţ Ĭ) (ĕ (gb PassesOwn.leaving rfl (aC rfl T.bV (Ă (Ņ ["Yard"] (Zh T) (ā 0)) Ę)) (gB qD) (Į (Hy (i:=4) qD.nd rfl (Or.inl rfl) (aB zc zj (Ě (Ġ (Ĉ (ZaX T) T.qg hr ĝ (Ċ 3 (č (v_mul ă (ı (ā 2) ă)) (Ċ 5 (č (Ņ ["Yard"] (Z7 T) (ā 0)) Č))))))) (Ō (ā 5) (Ě (Ņ ["Yard"] (Z7 T) (ā 0)))))))) (ņ (lV 4))))
def ZcT(T:Tx K mg a):ģ P w K mg base (Ŗ P w) 6 a.Zcv a.ZcC ["yard","ray"] (š ⟨K,ĥ a⟩ 2 NK):=by
 refine ķ T.bT.F ZcM λ_ _ _ _ _ _ hr _=>?_
 exact ņ (pF (iQ (Ņ ["Yard"] (ZU T) (ā 0))) bx Ū (Ġ (Ĉ (ZaY T) T.tu hr ű (Ċ 0 (Ċ 2 (Ċ 1 Č))))))
def ZaZ(T:Tx K mg a):ģ P w K mg base (Ŗ P w) 7 a.Tj a.Vj ["yard","turn"] (š ⟨K,ĥ a⟩ 2 sV):=by
 refine ķ T.Jr.F vJ λ_ _ _ _ _ _ hr _=>?_
 exact ĕ (Ű (aY rN jY (ā 1) pC (Ň _)) (ņ (Ĉ (JW T) T.gP hr ĝ (č Ĭ (č (v_sub (Ō (Ě (Ņ ["Yard"] (Z7 T) (ā 0))) (Ě (Ņ ["Yard"] (Zh T) (ā 0)))) ă) Č)))) ĵ) (Ķ vJ (ţ Ĭ) (ĕ (gb PassesOwn.leaving rfl (iQ (Ġ (Ĉ (ZcT T) T.bT hr ĝ (Ċ 0 (Ċ 1 Č))))) (gB vJ) (Į (Hy (i:=2) vJ.nd rfl (Or.inl rfl) (v_var 3)))) (ņ (lV 2))))
def JX(T:Tx K mg a):ģ P w K mg base (Ŗ P w) 1 a.Tn a.Vk ["number","width"] (š ⟨K,ĥ a⟩ 2 sW):=by
 refine ķ T.jw.F Zax λ_ _ _ _ _ _ _ _=>?_
 exact Ľ (Ĳ (Ă (v_mod (ā 0) (ā 1)) (Ă (pD (ā 0) (ā 1)) Ę)))
def ZcU(T:Tx K mg a):ģ P w K mg base (Ŗ P w) 2 a.Zcw a.ZcD ["yard","number"] (š ⟨K,ĥ a⟩ 2 NP):=by
 refine ķ T.dh.F Jz λ_ _ _ _ _ _ hr _=>?_
 exact Ķ Jz (Ĉ (JX T) T.jw hr ĝ (Ċ 1 (č (Ņ ["Yard"] (Z7 T) (ā 0)) Č))) (ĕ (wZ Jz (iQ (tY (.tup [.tup [.int (-1),.int 0],.tup [.int 1,.int 0],.tup [.int 0,.int (-1)],.tup [.int 0,.int 1],.tup [.int 0,.int 0]]) (ř (v:=.ref a.vd) rfl T.Ob rfl) (λF=>Ny T.Oj F))) (Bt rfl (Ś bx (Ś bx kO))) Ū (Ĳ (Ă (v_add (ı (ā 0) ă) (ā 1)) (Ă (v_add (ı (ā 0) ă) (ā 2)) Ę)))) (ņ (pF (aG 3) bx (za (aX (Ě (Ġ (Ĉ (JR T) T.gH hr ű (Ċ 0 (Ċ 1 Č))))))) (Ġ (Ĉ (Ar T) T.bR hr ű (Ċ 1 (č (Ņ ["Yard"] (Z7 T) (ā 0)) Č)))))))
def JZ(T:Tx K mg a):ģ P w K mg base (Ŗ P w) 5 a.Jl a.Vl ["yard","number","costs"] (š ⟨K,ĥ a⟩ 3 pP):=by
 refine Zfd (cm:=ĥ a) (mb:=uQ) T.gQ.F JB rfl rfl rfl T.xY λcc Pt htb A outer s H E hr=>?_
 have hu:=hr.units
 exact ĕ (wZ JB (PN (iQ (Ġ (Ĉ (ZcU T) T.dh hr ű (Ċ 0 (Ċ 1 Č)))))) bx (za (aY Gx KH (ı (ā 0) (ā 1)) pC (Ň _))) (v_var 1)) (Ľ (Nu (k:=2) ["costs"] [2] (ć H_) hr.mo rfl rfl (by simp[lams]) htb rfl rfl rfl T.qm (ė (ā 3) Ħ) (λ_ _ _ _ _ hr hu=>(Ļ (ā 0) (ā 1))) ⟨rfl,⟨rfl,Or.inl rfl⟩,trivial⟩))
def Za0(T:Tx K mg a):ģ P w K mg base (Ŗ P w) 6 a.Tp a.Vm ["yard","number","goal","costs"] (š ⟨K,ĥ a⟩ 4 sX):=by
 refine ķ T.jg.F JC λ_ _ _ _ _ _ hr hu=>?_
 exact ĕ (Ű (t_eq hu (ā 1) (ā 2)) (Ľ Ĭ) ĵ) (Ķ JC (Ĉ (JZ T) T.gQ hr ĝ (Ċ 0 (Ċ 1 (Ċ 3 Č)))) (Ľ (ZbF (aY rN jY (ā 4) pC (Ň _)) oH (Ļ (ā 3) (ā 4)))))
def Za1(T:Tx K mg a):ģ P w K mg base (Ŗ P w) 8 a.Tq a.Vn ["yard","turn","goal","later"] (š ⟨K,ĥ a⟩ 4 Cq):=by
 refine ķ T.qj.F lM λ_ _ _ _ _ _ hr _=>?_
 exact Ķ lM (Ĉ (ZaZ T) T.Jr hr ĝ (Ċ 0 (Ċ 1 Č))) (Ķ lM (Ŏ Ę) (ĕ (gb PassesOwn.leaving rfl (aC rfl T.bV (Ă (v_mul (Ě (Ņ ["Yard"] (Z7 T) (ā 0))) (Ě (Ņ ["Yard"] (Zh T) (ā 0)))) Ę)) (gB lM) (Ķ lM (Ĉ (Za0 T) T.jg hr ĝ (Ċ 0 (Ċ 6 (Ċ 2 (Ċ 3 Č))))) (Ķ lM (ţ (v_sub ă (Ě (aB Ms Mt (Ě (aB XD XF (ā 4) (ā 6))) ă)))) (Į (PS.wk (aN (lQ PySem.F.plainAttrs_list PySem.F.slot_list_append PySem.F.type_list_append œ (pv 5) (Ă (ZbF (aY rN jY (ā 7) pC (Ň _)) oH (v_add (ā 8) (ā 7))) Ę))) λ_ _ _ h=>bH h))))) (ņ (lV 5))))
def Za2(T:Tx K mg a):ģ P w K mg base (Ŗ P w) 9 a.Tr a.Vo ["yard","day","goal"] (š ⟨K,ĥ a⟩ 3 Cr):=by
 refine ķ T.ql.F qF λ_ _ _ _ _ _ hr _=>?_
 exact Ķ qF (Ŏ Ę) (ĕ (wZ qF (aC rfl T.bV (Ă (v_mul (Ě (Ņ ["Yard"] (Z7 T) (ā 0))) (Ě (Ņ ["Yard"] (Zh T) (ā 0)))) Ę)) bx Ū oH) (ĕ (gb PassesOwn.leaving rfl (Zcj rfl T.qt (Ġ (Ĉ (ZaK T) T.qe hr ĝ (Ċ 0 (Ċ 1 Č))))) (gB qF) (Ķ qF (Ĉ (Za1 T) T.qj hr ĝ (Ċ 0 (Ċ 5 (Ċ 2 (Ċ 4 Č))))) (Į (PS.wk (aN (lQ PySem.F.plainAttrs_list PySem.F.slot_list_append PySem.F.type_list_append œ (pv 3) (Ă (v_var 4) Ę))) λ_ _ _ h=>bH h)))) (ņ (YB rfl rfl T.dX rfl T.qt (ā 3)))))
def Za3(T:Tx K mg a):ģ P w K mg base (Ŗ P w) 6 a.Tt a.Vp ["yard","start","goal","paper"] (š ⟨K,ĥ a⟩ 4 xQ):=by
 refine ķ T.xT.F JD λ_ _ _ _ _ _ hr hu=>?_
 exact Ķ JD (Ŏ (Ă (v_var 1) Ę)) (ĕ (Mh PassesOwn.leaving (Zcg hu (ı (ā 4) (Ě (tZ dJ dD ă))) (ā 2)) (Į (PS.wk (aN (lQ PySem.F.plainAttrs_list PySem.F.slot_list_append PySem.F.type_list_append œ (pv 4) (Ă (Ġ (Ĉ (JZ T) T.gQ hr ĝ (Ċ 0 (č (Ļ (ā 4) (Ě (tZ dJ dD ă))) (č (Ļ (ā 3) (Ě (ż cg cB T.ji PySem.boot_len (ė (ā 4) Ħ)))) Č))))) Ę))) λ_ _ _ h=>bH h))) (ņ (pF (aG 4) bx Ū (Ġ (Ĉ (JX T) T.jw hr ű (Ċ 1 (č (Ņ ["Yard"] (Z7 T) (ā 0)) Č)))))))
def Za4(T:Tx K mg a):ģ P w K mg base (Ŗ P w) 10 a.Tw a.Vq ["yard","day","start","goal"] (š ⟨K,ĥ a⟩ 4 gF):=by
 refine ķ T.jT.F vK λ_ _ _ _ _ _ hr _=>?_
 exact ĕ (uc (Ġ (Ĉ (JT T) T.cH hr ĝ (Ċ 0 (Ċ 2 Č))))) (ĕ (uc (Ġ (Ĉ (JT T) T.cH hr ĝ (Ċ 0 (Ċ 3 Č))))) (ĕ (uc (Ġ (Ĉ (ZaJ T) T.mJ hr ĝ (Ċ 0 (Ċ 1 Č))))) (Ķ vK (Ĉ (Ar T) T.bR hr ĝ (Ċ 2 (č (Ņ ["Yard"] (Z7 T) (ā 0)) Č))) (Ķ vK (Ĉ (Ar T) T.bR hr ĝ (Ċ 3 (č (Ņ ["Yard"] (Z7 T) (ā 0)) Č))) (Ķ vK (Ĉ (Za2 T) T.ql hr ĝ (Ċ 0 (Ċ 1 (Ċ 5 Č)))) (ĕ (Ű (aY rN jY (ı (ı (ā 6) ă) (ā 4)) pC (Ň _)) (Ľ (Ĳ (Ă Ų (Ă (v_var 6) Ę)))) ĵ) (Ľ (Ĳ (Ă Ų (Ă (Ļ (ı (ā 6) ă) (ā 4)) (Ă (Ġ (Ĉ (Za3 T) T.xT hr ĝ (Ċ 0 (Ċ 4 (Ċ 5 (Ċ 6 Č)))))) (Ă (v_var 6) Ę))))))))))))
def Za5(T:Tx K mg a):ģ P w K mg base (Ŗ P w) 11 a.Tz a.Vr ["_law_yard","_law_day","_law_start","_law_goal"] (š ⟨K,ĥ a⟩ 4 pU):=by
 refine ķ T.gR.F vL λ_ _ outer _ _ _ hr _=>?_
 exact Ķ vL (ţ oH) (ĕ (Zb1 ⟨_,outer,rfl,rfl,rfl⟩ (λ_ _ _ hpx=>(Į (uc (Ġ (Ĉ (Za4 T) T.jT hr hpx (Ċ 0 (Ċ 1 (Ċ 2 (Ċ 3 Č))))))))) (Ze0 (Dn:= "YardError") (i:=5) vL.nd rfl rfl rfl (Z0m T) T.xZ T.vD T.vG (λe=>(Į (DN vL (ţ (v_var 5))))) Zb0)) (ņ (lV 4)))
def Za6(T:Tx K mg a):ģ P w K mg base (Ŗ P w) 12 a.TF a.Jm ["_law_script"] (š ⟨K,ĥ a⟩ 1 sY):=by
 refine ķ T.Js.F cJ λ_ _ _ _ _ _ hr _=>?_
 exact Ķ cJ (Ĉ (Zay T) T.mF hr ĝ (č (Ġ (Ĉ (gY T) T.ť hr ĝ (Ċ 0 (č Ĭ Č)))) (č Ĭ Č))) (ĕ (wZ cJ (iQ (Ġ (aP (ā 0) (Ÿ Ĭ) (Ÿ Ĭ)))) bx Ū (Ġ (Ĉ (ZaB T) T.jP hr ű (Ċ 1 (č (ż (zE rfl) zF T.Cy PyProof.Rows.boot_max (ė (ā 0) Ħ)) Č))))) (Ķ cJ (Ĉ (ZaA T) T.mG hr ĝ (Ċ 0 (č Ĭ (č (v_mod (Ě (Ġ (Ĉ (gY T) T.ť hr ĝ (Ċ 0 (č Ĭ Č))))) ă) (č Ĭ Č))))) (Ķ cJ (ţ (kZ T.YW (JG T) aQ hr.mo rfl (Z1P T) T.eY.b ĝ (č (Ļ (ā 1) ă) (č (Ļ (ā 1) ă) (č (Ġ (pF (aG 2) (Bt rfl (Ś bx (Ś bx kO))) Ū (Ġ (Ĉ (ZaF T) T.qd hr ű (Ċ 0 (č (Ġ (wY bJ bK T.dX PyProof.Rows.boot_list (ė (ā 1) Ħ))) Č)))))) (Ċ 3 Č)))))) (Ķ cJ (ţ (v_mod (bN (Ě (Ġ (Ĉ (gY T) T.ť hr ĝ (Ċ 0 (č Ĭ Č))))) ă) (Ě (aB gk fU ă ă)))) (Ķ cJ (Ŏ (Ă Ĭ (Ă (v_sub (Ě (ż cg cB T.ji PySem.boot_len (ė (ā 3) Ħ))) ă) (Ă (ż cg cB T.ji PySem.boot_len (ė (ā 3) Ħ)) (Ă (v_sub ă ă) (Ă (v_add (Ě (ż cg cB T.ji PySem.boot_len (ė (ā 3) Ħ))) (ā 5)) (Ă (v_sub (jL ă ă) (ā 5)) Ę))))))) (ĕ (gb PassesOwn.leaving rfl (aC rfl T.bV (Ă Ĭ Ę)) (gB cJ) (Ķ cJ (ţ (Ļ (ā 6) (ŋ (eN (Ě (Ġ (Ĉ (gY T) T.ť hr ĝ (Ċ 0 (č Ĭ Č))))) (Ō ă (ā 7))) ă))) (Ķ cJ (Ŏ (Ă (Ġ (Ĉ (JQ T) T.dW hr ĝ (č (v_add (Ě (Ġ (Ĉ (gY T) T.ť hr ĝ (Ċ 0 (č Ĭ Č))))) (Ō ă (ā 7))) (Ċ 1 Č)))) (Ă (Ġ (Ĉ (JQ T) T.dW hr ĝ (č (v_add (Ě (Ġ (Ĉ (gY T) T.ť hr ĝ (Ċ 0 (č Ĭ Č))))) (Ō ă (ā 7))) (Ċ 1 Č)))) Ę))) (Į (Ű (rJ (aX (Ě (Ġ (Ĉ (ZaH T) T.mH hr ĝ (č (Ġ (Ĉ (Za5 T) T.gR hr ĝ (Ċ 4 (Ċ 8 (č (Ļ (ā 9) ă) (č (Ļ (ā 9) ă) Č)))))) (Ċ 4 (Ċ 8 (Ċ 9 Č))))))))) (Ľ LR) ĵ))))) (Ľ LR)))))))
end
def pt(p:Hu.Pt):PV:=.tup [.int p.1,.int p.2]
def fJ(l:Hu.Ln):PV:=.tup [.int l.1,.int l.2.1,.int l.2.2]
def Sm(p:Hu.Pt):Prop:=-100000000000000000<=p.1/\p.1<=100000000000000000/\ -100000000000000000<=p.2/\p.2<=100000000000000000
def Vw(l:Hu.Ln):Prop:=-1000000000000000000<=l.1/\l.1<=1000000000000000000/\ -1000000000000000000<=l.2.1/\l.2.1<=1000000000000000000
def Z0n{x y:Hu.Pt}:eqB (pt y) (pt x)=decide (y=x):=by
 obtain⟨a,b⟩:=x
 obtain⟨c,d⟩:=y
 unfold pt
 rw[Yo,Bool.eq_iff_iff]
 simp
def ZP(x:Hu.Pt):ŭ (pt x)=true:=by simp[pt,ŭ,aD]
def ZK(x:Hu.Pt):dep (pt x)=1:=by simp[pt,dep,mR]
def Z29(S:List Hu.Pt):aD (S.map pt)=true:=by
 induction S with
 |nil=>simp[aD]
 |cons p S ih=>simp[aD,ZP,ih]
theorem Z10(x:Hu.Pt):∀k:List Hu.Pt,(k.map pt).any (λy=>eqB y (pt x))=decide (x∈k)
 | []=>by simp
 |y::k=>by
  rw[List.map_cons,List.any_cons,Z10 x k,Z0n,Bool.eq_iff_iff]
  simp
  constructor
  ·rintro (e|e)
   ·exact .inl e.symm
   ·exact .inr e
  ·rintro (e|e)
   ·exact .inl e.symm
   ·exact .inr e
def Z0o(x:Hu.Pt)(k:List Hu.Pt):inD true (pt x) (.lst (k.map pt))=some (.bl (!decide (x∈k))):=by
 unfold inD
 simp only[ZP,Z29,ZK,Z10]
 rfl
def Z0N(x y:Hu.Pt):jF (pt x) (pt y)=some (.bl (!decide (x=y))):=by
 unfold jF qN
 rw[ZP,ZP,ZK,ZK,Z0n]
 rfl
def Z1S{a b:Hu.Pt}(ha:Sm a)(hb:Sm b):Ck [.sh (pt a),.sh (pt b)]=.ret (.sh (fJ (Hu.Z2 a b))):=by
 obtain⟨a1,a2,a3,a4⟩:=ha
 obtain⟨b1,b2,b3,b4⟩:=hb
 have m1:ĺ (b.2-a.2) a.1=true:=aF (by omega) (by omega)
 have m2:ĺ (a.1-b.1) a.2=true:=aF (by omega) (by omega)
 simp[Ck,Il,List.replicate,pt,fJ,Hu.Z2,m1,m2]
def Z1p{l:Hu.Ln}(hl:Vw l)(p:Hu.Pt):sI [.sh (fJ l),.sh (pt p)]=.ret (.sh (.bl (Hu.hd l p))):=by
 obtain⟨a1,a2,a3,a4⟩:=hl
 have m1:ĺ l.1 p.1=true:=aF (by omega) (by omega)
 have m2:ĺ l.2.1 p.2=true:=aF (by omega) (by omega)
 simp[sI,Im,List.replicate,pt,fJ,Hu.hd,m1,m2]
def Z0E{a b:Hu.Pt}(ha:Sm a)(hb:Sm b):Vw (Hu.Z2 a b):=by
 obtain⟨a1,a2,a3,a4⟩:=ha
 obtain⟨b1,b2,b3,b4⟩:=hb
 simp only[Vw,Hu.Z2]
 omega
def Sl(s:P.Slot)(ps:List PV):Prop:=s=.sh (.lst ps)\/s=.bw ps
def Sl.lend{s:P.Slot}{ps:List PV}(h:Sl s ps):cW s=some s:=by rcases h with rfl|rfl<;>rfl
def Sl.it{s:P.Slot}{ps:List PV}(h:Sl s ps){i:Nat}{ρ:Ĺ}(e:ρ[i]?=some s):ŗ i ρ=.ok ps ρ:= by
 rcases h with rfl|rfl<;>simp[e]
def Z1T{S:List Hu.Pt}{sl:P.Slot}(hs:Sl sl (S.map pt))(hl:S.length<=1000):Cj [sl]=.ret (.ow ((Hu.Z1 S).map pt)):=by
 have hlen:∀(xs k:List Hu.Pt),(xs.foldl (λk x=>if x∈k then k else k ++ [x]) k).length<=k.length+xs.length:=by
  intro xs
  induction xs with
  |nil=>intro k;simp
  |cons x xs ih=>
   intro k
   rw[List.foldl_cons]
   refine Nat.le_trans (ih _) ?_
   split
   ·simp
   ·simp;omega
 have key:∀(xs:List Hu.Pt) (k:List Hu.Pt) (s2:P.Slot),k.length+xs.length<=1000->∃s2',forL (gN 2) lF (xs.map pt) [sl,.ow (k.map pt),s2]=.ok .nx [sl,.ow ((xs.foldl (λk x=>if x∈k then k else k ++ [x]) k).map pt),s2']:=by
  intro xs
  induction xs with
  |nil=>intro k s2 _;exact⟨s2,rfl⟩
  |cons x xs ih=>
   intro k s2 hk
   rw[List.length_cons] at hk
   by_cases hx:x∈k
   ·obtain⟨s2',e⟩:=ih k (.sh (pt x)) (by omega)
    refine⟨s2',?_⟩
    have hb:lF [sl,.ow (k.map pt),.sh (pt x)]=.ok .nx [sl,.ow (k.map pt),.sh (pt x)]:=by simp[lF,Z0o,hx]
    rw[List.map_cons,List.foldl_cons,if_pos hx,forL]
    simp[hb,e]
   ·obtain⟨s2',e⟩:=ih (k ++ [x]) (.sh (pt x)) (by simp;omega)
    refine⟨s2',?_⟩
    have h3:k.length<16777216:=by omega
    have hb:lF [sl,.ow (k.map pt),.sh (pt x)]=.ok .nx [sl,.ow ((k ++ [x]).map pt),.sh (pt x)]:=by simp[lF,Z0o,hx,h3]
    rw[List.map_cons,List.foldl_cons,if_neg hx,forL]
    simp only[GK,List.set_cons_succ,List.set_cons_zero,hb,Res.aq]
    exact e
 obtain⟨s2,e⟩:=key S [] .no (by simpa using hl)
 have hit:=hs.it (i:=0) (ρ:= [sl,.ow [],.no]) rfl
 simp only[List.map_nil] at e
 simp[Cj,Ik,List.replicate,-zp,hit,e]
 rfl
def Z11(x:Int)(l:List Int):jJ [.lst ((x::l).map .int)]=some (.int (Hu.mx (x::l))):=by
 show((intsOf ((x::l).map .int)).bind (best max)).map PV.int=_
 rw[jr]
 rfl
def Z12(x:Int)(l:List Int):rY [.lst ((x::l).map .int)]=some (.int (Hu.mn (x::l))):=by
 show((intsOf ((x::l).map .int)).bind (best min)).map PV.int=_
 rw[jr]
 rfl
def Z2a{S:List Hu.Pt}{sl:P.Slot}(hs:Sl sl (S.map pt))(h0:S≠[])(hl:S.length<=1000):Ci [sl]=.ret (.ow ((Hu.box S).map fJ)):=by
 have c1:ĸ (gN 0) ő (ą Ė (Ā 0) (mC (.int 0))) (S.map pt) [.no] []=some ((S.map (·.1)).map .int):=by
  have:=ŕ (g:=gN 0) (mt:=ő) (me:=ą Ė (Ā 0) (mC (.int 0))) pt (λp=>.int p.1) (λρ=>∃s,ρ=[s]) S [.no] [] ⟨_,rfl⟩ (by simp;omega) (by
   rintro x hx ρ ⟨s,rfl⟩
   exact⟨[.sh (pt x)],[.sh (pt x)],[.sh (pt x)],by simp,by simp,by simp[pt],_,rfl⟩)
  rw[this]
  simp
 have c2:ĸ (gN 0) ő (ą Ė (Ā 0) (mC (.int 1))) (S.map pt) [.no] []=some ((S.map (·.2)).map .int):=by
  have:=ŕ (g:=gN 0) (mt:=ő) (me:=ą Ė (Ā 0) (mC (.int 1))) pt (λp=>.int p.2) (λρ=>∃s,ρ=[s]) S [.no] [] ⟨_,rfl⟩ (by simp;omega) (by
   rintro x hx ρ ⟨s,rfl⟩
   exact⟨[.sh (pt x)],[.sh (pt x)],[.sh (pt x)],by simp,by simp,by simp[pt],_,rfl⟩)
  rw[this]
  simp
 obtain⟨p,R,rfl⟩:=List.exists_cons_of_ne_nil h0
 have x1:=Z11 p.1 (R.map (·.1))
 have x2:=Z12 p.1 (R.map (·.1))
 have x3:=Z11 p.2 (R.map (·.2))
 have x4:=Z12 p.2 (R.map (·.2))
 have hit:∀s1 s2,ŗ 0 [sl,s1,s2]=.ok ((p::R).map pt) [sl,s1,s2]:=λs1 s2=>hs.it rfl
 have b:(Hu.box (p::R)).map fJ=[.tup [.int 1,.int 0,.int (Hu.mx (p.1::R.map (·.1)))],.tup [.int (-1),.int 0,.int (- Hu.mn (p.1::R.map (·.1)))],.tup [.int 0,.int 1,.int (Hu.mx (p.2::R.map (·.2)))],.tup [.int 0,.int (-1),.int (- Hu.mn (p.2::R.map (·.2)))]]:=rfl
 rw[b]
 generalize (p::R).map pt=ps at hit c1 c2
 rw[List.map_cons] at c1 c2
 generalize (p.1::R.map (·.1)).map PV.int=us at c1 x1 x2
 generalize (p.2::R.map (·.2)).map PV.int=vs at c2 x3 x4
 simp[Ci,Ij,List.replicate,-zp,-Nj,-Nk,hit,c1,c2,x1,x2,x3,x4]
theorem Z0d:∀l:List Bool,boolsOf (l.map .bl)=some l
 | []=>rfl
 |x::l=>by rw[List.map_cons,boolsOf,Z0d l];rfl
def Z2b(l:List Bool):wA [.lst (l.map .bl)]=some (.bl (l.all id)):=by
 show(boolsOf (l.map .bl)).map (λbs=>PV.bl (bs.all id))=_
 rw[Z0d]
 rfl
def ZF(S:List Hu.Pt):(Hu.Z1 S).length<=S.length:=by
 have:∀(xs k:List Hu.Pt),(xs.foldl (λk x=>if x∈k then k else k ++ [x]) k).length<=k.length+xs.length:=by
  intro xs
  induction xs with
  |nil=>intro k;simp
  |cons x xs ih=>
   intro k
   rw[List.foldl_cons]
   refine Nat.le_trans (ih _) ?_
   split
   ·simp
   ·simp;omega
 have h:=this S []
 rw[List.length_nil,Nat.zero_add] at h
 exact h
def Z13{S:List Hu.Pt}(hS:∀p∈S,Sm p)(hl:S.length<=1000){a b:Hu.Pt}(ha:a∈S)(hb:b∈S)(s0 s5:P.Slot)(L:List Hu.Ln)(hL:L.length<16777216) :
 lG [s0,.ow (L.map fJ),.sh (.lst ((Hu.Z1 S).map pt)),.sh (pt a),.sh (pt b),s5]=.ok .nx [s0,.ow ((L++(if a≠b/\(Hu.Z1 S).all (Hu.hd (Hu.Z2 a b)) then[Hu.Z2 a b] else[])).map fJ),.sh (.lst ((Hu.Z1 S).map pt)),.sh (pt a),.sh (pt b),.sh (fJ (Hu.Z2 a b))]:=by
 have hsm:=Z0E (hS a ha) (hS b hb)
 have c1:ĸ (gN 1) ő (Đ (Ē sI (Ć 0 (Ć 1 ď)))) ((Hu.Z1 S).map pt) [.sh (fJ (Hu.Z2 a b)),.no] []=some (((Hu.Z1 S).map (Hu.hd (Hu.Z2 a b))).map .bl):=by
  have hlen:(Hu.Z1 S).length<=16777216:=by have:=ZF S;omega
  have:=ŕ (g:=gN 1) (mt:=ő) (me:=Đ (Ē sI (Ć 0 (Ć 1 ď)))) pt (λp=>.bl (Hu.hd (Hu.Z2 a b) p)) (λρ=>∃s,ρ=[.sh (fJ (Hu.Z2 a b)),s]) (Hu.Z1 S) [.sh (fJ (Hu.Z2 a b)),.no] [] ⟨_,rfl⟩ (by simpa using hlen) (by
   rintro x hx ρ ⟨s,rfl⟩
   exact⟨[.sh (fJ (Hu.Z2 a b)),.sh (pt x)],[.sh (fJ (Hu.Z2 a b)),.sh (pt x)],[.sh (fJ (Hu.Z2 a b)),.sh (pt x)],by simp,by simp,by simp[Z1p hsm],_,rfl⟩)
  rw[this]
  simp
 have c2:=Z2b ((Hu.Z1 S).map (Hu.hd (Hu.Z2 a b)))
 have e1:=Z1S (hS a ha) (hS b hb)
 have e3:((Hu.Z1 S).map (Hu.hd (Hu.Z2 a b))).all id=(Hu.Z1 S).all (Hu.hd (Hu.Z2 a b)):=by simp
 rw[e3] at c2
 generalize ((Hu.Z1 S).map (Hu.hd (Hu.Z2 a b))).map PV.bl=bs at c1 c2
 by_cases h1:a=b
 ·subst h1
  simp[lG,e1,Z0N]
 ·by_cases h2:(Hu.Z1 S).all (Hu.hd (Hu.Z2 a b))=true
  ·rw[h2] at c2
   simp[lG,e1,Z0N,h1,c1,c2,h2,hL,-List.all_eq_true]
  ·rw[Bool.not_eq_true] at h2
   rw[h2] at c2
   simp[lG,e1,Z0N,h1,c1,c2,h2,hL,-List.all_eq_true,-List.all_eq_false]
def Z1q{S:List Hu.Pt}(hS:∀p∈S,Sm p)(hl:S.length<=1000){a:Hu.Pt}(ha:a∈S)(s0:P.Slot):∀(xs:List Hu.Pt) (L:List Hu.Ln) (s4 s5:P.Slot),(∀x∈xs,x∈S)->L.length+xs.length<16777216->
 ∃yr Kd,forL (gN 4) lG (xs.map pt) [s0,.ow (L.map fJ),.sh (.lst ((Hu.Z1 S).map pt)),.sh (pt a),s4,s5]=.ok .nx [s0,.ow ((L++xs.filterMap λb=>if a≠b/\(Hu.Z1 S).all (Hu.hd (Hu.Z2 a b)) then some (Hu.Z2 a b) else none).map fJ),.sh (.lst ((Hu.Z1 S).map pt)),.sh (pt a),yr,Kd]:=by
 intro xs
 induction xs with
 |nil=>intro L s4 s5 _ _;exact⟨s4,s5,by simp[forL]⟩
 |cons b xs ih=>
  intro L s4 s5 hx hL
  rw[List.length_cons] at hL
  have hb:=Z13 hS hl ha (hx b (by simp)) s0 s5 L (by omega)
  obtain⟨yr,Kd,e⟩:=ih (L++(if a≠b/\(Hu.Z1 S).all (Hu.hd (Hu.Z2 a b)) then[Hu.Z2 a b] else[])) (.sh (pt b)) (.sh (fJ (Hu.Z2 a b))) (λx h=>hx x (List.mem_cons_of_mem _ h)) (by
   rw[List.length_append]
   split
   ·simp;omega
   ·simp;omega)
  refine⟨yr,Kd,?_⟩
  rw[List.map_cons,forL]
  simp only[GK,List.set_cons_succ,List.set_cons_zero,hb,Res.aq]
  rw[e,List.filterMap_cons]
  by_cases hc:a≠b/\(Hu.Z1 S).all (Hu.hd (Hu.Z2 a b))=true
  ·rw[if_pos hc,if_pos hc]
   simp only[List.append_assoc,List.cons_append,List.nil_append]
  ·rw[if_neg hc,if_neg hc]
   simp only[List.append_nil]
def ZI{α β:Type}(f:α->Option β)(l:List α):(l.filterMap f).length<=l.length:=List.length_filterMap_le ..
def Z1r{S:List Hu.Pt}(hS:∀p∈S,Sm p)(hl:S.length<=1000)(s0:P.Slot):∀(xs:List Hu.Pt) (L:List Hu.Ln) (s3 s4 s5:P.Slot),(∀x∈xs,x∈S)->L.length+xs.length*1000<10000000->
 ∃s3' yr Kd,forL (gN 3) uO (xs.map pt) [s0,.ow (L.map fJ),.sh (.lst ((Hu.Z1 S).map pt)),s3,s4,s5]=.ok .nx [s0,.ow ((L++xs.flatMap λa=>(Hu.Z1 S).filterMap λb=>if a≠b/\(Hu.Z1 S).all (Hu.hd (Hu.Z2 a b)) then some (Hu.Z2 a b) else none).map fJ),.sh (.lst ((Hu.Z1 S).map pt)),s3',yr,Kd]:=by
 intro xs
 induction xs with
 |nil=>intro L s3 s4 s5 _ _;exact⟨s3,s4,s5,by simp[forL]⟩
 |cons a xs ih=>
  intro L s3 s4 s5 hx hL
  rw[List.length_cons] at hL
  have ho:=ZF S
  obtain⟨a4,a5,e1⟩:=Z1q hS hl (hx a (by simp)) s0 (Hu.Z1 S) L s4 s5 (λx h=>Hu.Zn.mp h) (by omega)
  have hf:=ZI (λb=>if a≠b/\(Hu.Z1 S).all (Hu.hd (Hu.Z2 a b))=true then some (Hu.Z2 a b) else none) (Hu.Z1 S)
  obtain⟨s3',yr,Kd,e2⟩:=ih (L++(Hu.Z1 S).filterMap λb=>if a≠b/\(Hu.Z1 S).all (Hu.hd (Hu.Z2 a b))=true then some (Hu.Z2 a b) else none) (.sh (pt a)) a4 a5 (λx h=>hx x (List.mem_cons_of_mem _ h)) (by rw[List.length_append];omega)
  refine⟨s3',yr,Kd,?_⟩
  have hb:uO [s0,.ow (L.map fJ),.sh (.lst ((Hu.Z1 S).map pt)),.sh (pt a),s4,s5]=.ok .nx [s0,.ow ((L++(Hu.Z1 S).filterMap λb=>if a≠b/\(Hu.Z1 S).all (Hu.hd (Hu.Z2 a b))=true then some (Hu.Z2 a b) else none).map fJ),.sh (.lst ((Hu.Z1 S).map pt)),.sh (pt a),a4,a5]:=by
   unfold uO
   simp only[XM,zp,List.getElem?_cons_succ,List.getElem?_cons_zero,Res.aq]
   exact e1
  rw[List.map_cons,forL]
  simp only[GK,List.set_cons_succ,List.set_cons_zero,hb,Res.aq]
  rw[e2,List.flatMap_cons,List.append_assoc]
def Z1s{S:List Hu.Pt}{sl:P.Slot}(hs:Sl sl (S.map pt))(hS:∀p∈S,Sm p)(hl:S.length<=1000):Cm [sl]=.ret (.ow ((Hu.ZB S).map fJ)):=by
 have h1:=Z1T hs hl
 have ho:=ZF S
 obtain⟨s3,s4,s5,e⟩:=Z1r hS hl sl (Hu.Z1 S) [] .no .no .no (λx h=>Hu.Zn.mp h) (by simp;omega)
 have he:[]++((Hu.Z1 S).flatMap λa=>(Hu.Z1 S).filterMap λb=>if a≠b/\(Hu.Z1 S).all (Hu.hd (Hu.Z2 a b))=true then some (Hu.Z2 a b) else none)=Hu.ZB S:=rfl
 rw[he] at e
 generalize Hu.ZB S=ed at e
 generalize (Hu.Z1 S).map pt=os at e h1
 simp only[List.map_nil] at e
 simp[Cm,Io,List.replicate,hs.lend,h1,e]
def Z14(S:List Hu.Pt)(hl:S.length<=1000):(Hu.ZB S).length<=1000000:=by
 have ho:=ZF S
 have:∀(xs:List Hu.Pt) (f:Hu.Pt->List Hu.Ln),(∀x,(f x).length<=1000)->(xs.flatMap f).length<=xs.length*1000:=by
  intro xs f hf
  induction xs with
  |nil=>simp
  |cons x xs ih=>rw[List.flatMap_cons,List.length_append,List.length_cons];have:=hf x;omega
 refine Nat.le_trans (this (Hu.Z1 S) _ λx=>Nat.le_trans (ZI _ _) (by omega)) (by omega)
def Z1t{S:List Hu.Pt}{sl:P.Slot}(hs:Sl sl (S.map pt))(hS:∀p∈S,Sm p)(h0:S≠[])(hl:S.length<=1000):Cp [sl]=.ret (.ow ((Hu.Zr S).map fJ)):=by
 have h1:=Z2a hs h0 hl
 have h2:=Z1s hs hS hl
 have h3:ğ (.lst ((Hu.box S).map fJ)) (.lst ((Hu.ZB S).map fJ))=some (.ow ((Hu.Zr S).map fJ)):=by
  rw[add_l (by have:=Z14 S hl;simp[Hu.box];omega),<-List.map_append]
  rfl
 simp[Cp,Ip,List.replicate,hs.lend,h1,h2,h3]
def Z2c{S:List Hu.Pt}{l:Hu.Ln}(h:l∈Hu.Zr S)(hS:∀p∈S,Sm p):Vw l:=by
 rcases List.mem_append.mp h with h|h
 ·unfold Hu.box at h
  simp only[List.mem_cons,List.not_mem_nil,or_false] at h
  rcases h with e|e|e|e<;>subst e<;>simp only[Vw]<;>omega
 ·obtain⟨a,ha,b,hb,_,_,rfl⟩:=Hu.Z0Y.mp h
  exact Z0E (hS a ha) (hS b hb)
def Z0O(n:Nat):gj 0 n 1=(List.range n).map λ(i:Nat)=>PV.int (i:Int):=by
 unfold gj
 refine List.map_congr_left λi _=>?_
 simp
def ZV{n:Nat}(h:n<=1000):bI [.int (n:Int)]=some ((List.range n).map λ(i:Nat)=>PV.int (i:Int)):=by
 have hs:oO (n:Int)=true:=by unfold oO;simp;omega
 unfold bI
 simp[hs,Z0O]
def Vx(s:P.Slot)(ps:List PV):Prop:=s=.sh (.lst ps)\/s=.bw ps
def Ŵ(x:Int):Bool:=decide (-1000000000<=x/\x<=1000000000)
def yu(x:Int):Bool:=decide (1<=x/\x<=1000000000)
def yx(x:Int):Bool:=decide (0<=x/\x<=1000000000)
def ZW(x:Int):lY [.sh (.int x)]=.ret (.sh (.bl (Ŵ x))):=by
 unfold Ŵ
 by_cases h1: -1000000000<=x<;>by_cases h2:x<=1000000000<;>simp[lY,Ib,List.replicate,h1,h2]
def Z0e(x:Int):xu [.sh (.int x)]=.ret (.sh (.bl (yu x))):=by
 unfold yu
 by_cases h1:1<=x<;>by_cases h2:x<=1000000000<;>simp[xu,Ie,List.replicate,h1,h2]
def Zf:List Int->Bool
 | [p,q,h]=>Ŵ p && Ŵ q && yu h
 |_=>false
def Zg:List Int->Bool
 | [x,y,u,v,h]=>Ŵ x && Ŵ y && Ŵ u && Ŵ v && yu h
 |_=>false
def Zd:List Int->Bool
 | [x,y,u,v,h]=>Zg [x,y,u,v,h] && !(decide (x=u) && decide (y=v))
 |_=>false
def Za:List Int->Bool
 | [x,y,u,v,h]=>Zg [x,y,u,v,h] && decide (x<u) && decide (y<v)
 |_=>false
def Ze:List Int->Bool
 | [a,b,c,d,e,f,g,h,i]=>Ŵ a && Ŵ b && yx c && (Ŵ d && Ŵ e && yx f) && (Ŵ g && Ŵ h && yx i)
 |_=>false
def Z2d(a b c:Bool):wA [.lst [.bl a,.bl b,.bl c]]=some (.bl (a && b && c)):=by cases a<;>cases b<;>cases c<;>rfl
def Z2e(a b c d:Bool):wA [.lst [.bl a,.bl b,.bl c,.bl d]]=some (.bl (a && b && c && d)):=by cases a<;>cases b<;>cases c<;>cases d<;>rfl
def Z0l{xs:List Int}{sl:P.Slot}(hs:Vx sl (xs.map .int)):xG [sl]=.ret (.sh (.bl (Zf xs))):=by
 by_cases hl:xs.length=3
 ·match xs,hl with
  | [a,b,c],_=>
    have h:Zf [a,b,c]=(Ŵ a && Ŵ b && yu c):=rfl
    rw[h]
    rcases hs with rfl|rfl<;>cases ea:Ŵ a<;>cases eb:Ŵ b<;>cases ec:yu c<;>simp[xG,zR,List.replicate,ZW,Z0e,ea,eb,ec]
 ·have h:Zf xs=false:=by
   unfold Zf
   split
   ·simp at hl
   ·rfl
  rw[h]
  have hl':¬((xs.length:Nat):Int)=3:=by omega
  rcases hs with rfl|rfl<;>simp[xG,zR,List.replicate,hl']
def Z0F{xs:List Int}{sl:P.Slot}(hs:Vx sl (xs.map .int)):sE [sl]=.ret (.sh (.bl (Zg xs))):=by
 by_cases hl:xs.length=5
 ·match xs,hl with
  | [a,b,c,d,e],_=>
    have h:Zg [a,b,c,d,e]=(Ŵ a && Ŵ b && Ŵ c && Ŵ d && yu e):=rfl
    rw[h]
    have hc:bf ([.int a,.int b,.int c,.int d,.int e]:List PV) none (some 4)=[.int a,.int b,.int c,.int d]:=rfl
    have hb:=Z2e (Ŵ a) (Ŵ b) (Ŵ c) (Ŵ d)
    rcases hs with rfl|rfl<;>cases ea:(Ŵ a && Ŵ b && Ŵ c && Ŵ d)<;>cases ec:yu e<;>rw[ea] at hb<;>simp[sE,zT,List.replicate,ZW,Z0e,hc,ĸ,hb,ec]
 ·have h:Zg xs=false:=by
   unfold Zg
   split
   ·simp at hl
   ·rfl
  rw[h]
  have hl':¬((xs.length:Nat):Int)=5:=by omega
  rcases hs with rfl|rfl<;>simp[sE,zT,List.replicate,hl']
def Z2f(a b c d:Int):jF (.lst [.int a,.int b]) (.lst [.int c,.int d])=some (.bl (!(decide (a=c) && decide (b=d)))):=by
 have h:eqB (.lst [.int a,.int b]) (.lst [.int c,.int d])=(decide (a=c) && decide (b=d)):=by
  simp[eqB,dM]
  rw[Bool.eq_iff_iff]
  simp
 unfold jF qN
 rw[h]
 simp[ŭ,aD,dep,mR]
def Z1M{xs:List Int}(hl:¬xs.length=5):Zg xs=false:=by
 unfold Zg
 split
 ·simp at hl
 ·rfl
def Z0P{s:P.Slot}{ps:List PV}(h:Vx s ps):cW s=some s:=by rcases h with rfl|rfl<;>rfl
def Z1u{xs:List Int}{sl:P.Slot}(hs:Vx sl (xs.map .int)):xH [sl]=.ret (.sh (.bl (Zd xs))):=by
 have he:=Z0F hs
 by_cases hl:xs.length=5
 ·match xs,hl with
  | [a,b,c,d,e],_=>
    have h:Zd [a,b,c,d,e]=(Zg [a,b,c,d,e] && !(decide (a=c) && decide (b=d))):=rfl
    rw[h]
    have h1:bf ([.int a,.int b,.int c,.int d,.int e]:List PV) none (some 2)=[.int a,.int b]:=rfl
    have h2:bf ([.int a,.int b,.int c,.int d,.int e]:List PV) (some 2) (some 4)=[.int c,.int d]:=rfl
    have h3:=Z2f a b c d
    generalize Zg [a,b,c,d,e]=q at *
    generalize (!(decide (a=c) && decide (b=d)))=r at *
    rcases hs with rfl|rfl<;>cases q<;>simp_all [xH,zU,List.replicate]
 ·have h:Zd xs=false:=by
   unfold Zd
   split
   ·simp at hl
   ·rfl
  rw[h]
  rw[Z1M hl] at he
  simp[xH,zU,List.replicate,Z0P hs,he]
def Z1U{xs:List Int}{sl:P.Slot}(hs:Vx sl (xs.map .int)):DQ [sl]=.ret (.sh (.bl (Za xs))):=by
 have he:=Z0F hs
 by_cases hl:xs.length=5
 ·match xs,hl with
  | [a,b,c,d,e],_=>
    have h:Za [a,b,c,d,e]=(Zg [a,b,c,d,e] && decide (a<c) && decide (b<d)):=rfl
    rw[h]
    generalize Zg [a,b,c,d,e]=q at *
    rcases hs with rfl|rfl<;>simp only[List.map_cons,List.map_nil] at he<;>cases q<;>by_cases h1:a<c<;>by_cases h2:b<d<;>simp[DQ,Ig,List.replicate,he,h1,h2]
 ·have h:Za xs=false:=by
   unfold Za
   split
   ·simp at hl
   ·rfl
  rw[h]
  rw[Z1M hl] at he
  simp[DQ,Ig,List.replicate,Z0P hs,he]
def ZL(a b c:Int):Nz [.sh (.lst [.int a,.int b,.int c])]=.ret (.sh (.bl (Ŵ a && Ŵ b && yx c))):=by
 unfold yx
 cases ea:Ŵ a<;>cases eb:Ŵ b<;>by_cases h1:0<=c<;>by_cases h2:c<=1000000000<;>simp[Nz,Rr,List.replicate,ZW,ea,eb,h1,h2]
def Z1v{xs:List Int}{sl:P.Slot}(hs:Vx sl (xs.map .int)):xJ [sl]=.ret (.sh (.bl (Ze xs))):=by
 by_cases hl:xs.length=9
 ·match xs,hl with
  | [a,b,c,d,e,f,g,h,i],_=>
    have hc:Ze [a,b,c,d,e,f,g,h,i]=((Ŵ a && Ŵ b && yx c) && (Ŵ d && Ŵ e && yx f) && (Ŵ g && Ŵ h && yx i)):=rfl
    rw[hc]
    have h1:bf ([.int a,.int b,.int c,.int d,.int e,.int f,.int g,.int h,.int i]:List PV) (some 0) (some 3)=[.int a,.int b,.int c]:=rfl
    have h2:bf ([.int a,.int b,.int c,.int d,.int e,.int f,.int g,.int h,.int i]:List PV) (some 3) (some 6)=[.int d,.int e,.int f]:=rfl
    have h3:bf ([.int a,.int b,.int c,.int d,.int e,.int f,.int g,.int h,.int i]:List PV) (some 6) (some 9)=[.int g,.int h,.int i]:=rfl
    have hb:=Z2d (Ŵ a && Ŵ b && yx c) (Ŵ d && Ŵ e && yx f) (Ŵ g && Ŵ h && yx i)
    have k1:=ZL a b c
    have k2:=ZL d e f
    have k3:=ZL g h i
    generalize (Ŵ a && Ŵ b && yx c)=q1 at *
    generalize (Ŵ d && Ŵ e && yx f)=q2 at *
    generalize (Ŵ g && Ŵ h && yx i)=q3 at *
    rcases hs with rfl|rfl<;>simp[xJ,zV,List.replicate,ĸ,h1,h2,h3,k1,k2,k3,hb]
 ·have h:Ze xs=false:=by
   unfold Ze
   split
   ·simp at hl
   ·rfl
  rw[h]
  have hl':¬((xs.length:Nat):Int)=9:=by omega
  rcases hs with rfl|rfl<;>simp[xJ,zV,List.replicate,hl']
def Zi(w:Str):String:=if w= "post" then "Post" else if w= "fence" then "Fence" else if w= "sail" then "Sail" else if w= "cloth" then "Cloth" else "House"
def Z8(C:String)(w:Str)(xs:List Int):PV:=.ins C ["word","numbers"] [.str w,.lst (xs.map .int)]
def Z5(w:Str)(xs:List Int):Bool:=if w= "post" then Zf xs else if w= "fence" then Zd xs else if w= "sail" then Za xs else if w= "cloth" then Ze xs else if w= "house" then Za xs else false
def wn:((Str.ofString "word")=(Str.ofString "numbers"))=False:=eq_false (by decide +kernel)
def ZD{C:String}(hC:(["Thing","Post","Fence","Sail","Cloth","House"]:List String).contains C=true)(w:Str){xs:List Int}{sl:P.Slot}(hs:Vx sl (xs.map .int)):bL 3 3 C eO [.sh (.str w),sl]=.ok ["word","numbers"] [.str w,.lst (xs.map .int)]:=by
 rcases hs with rfl|rfl<;>simp[bL,eO,iV,IR.of,List.replicate,putN,qQ,hC,wn,-List.contains_eq_mem,-List.contains_cons]
def s1:PyData.strOk (Str.ofString "post")=true:=by decide +kernel
def s2:PyData.strOk (Str.ofString "fence")=true:=by decide +kernel
def s3:PyData.strOk (Str.ofString "sail")=true:=by decide +kernel
def s4:PyData.strOk (Str.ofString "cloth")=true:=by decide +kernel
def s5:PyData.strOk (Str.ofString "house")=true:=by decide +kernel
def d12:(Str.ofString "post" =Str.ofString "fence")=False:=eq_false (by decide +kernel)
def d13:(Str.ofString "post" =Str.ofString "sail")=False:=eq_false (by decide +kernel)
def d14:(Str.ofString "post" =Str.ofString "cloth")=False:=eq_false (by decide +kernel)
def d15:(Str.ofString "post" =Str.ofString "house")=False:=eq_false (by decide +kernel)
def d23:(Str.ofString "fence" =Str.ofString "sail")=False:=eq_false (by decide +kernel)
def d24:(Str.ofString "fence" =Str.ofString "cloth")=False:=eq_false (by decide +kernel)
def d25:(Str.ofString "fence" =Str.ofString "house")=False:=eq_false (by decide +kernel)
def d34:(Str.ofString "sail" =Str.ofString "cloth")=False:=eq_false (by decide +kernel)
def d35:(Str.ofString "sail" =Str.ofString "house")=False:=eq_false (by decide +kernel)
def d45:(Str.ofString "cloth" =Str.ofString "house")=False:=eq_false (by decide +kernel)
def Z1w{w:Str}(hw:PyData.strOk w=true){xs:List Int}{sl:P.Slot}(hs:Vx sl (xs.map .int)):eU [.sh (.str w),sl]=if Z5 w xs=true then .ret (.sh (Z8 (Zi w) w xs)) else .exc ⟨"BadThing",[],[]⟩:=by
 have e1:=gw hw s1
 have e2:=gw hw s2
 have e3:=gw hw s3
 have e4:=gw hw s4
 have e5:=gw hw s5
 have p1:=Z0l hs
 have p2:=Z1u hs
 have p3:=Z1U hs
 have p4:=Z1v hs
 have i1:uM [.sh (.str w),sl]=_:=ZD (by decide) w hs
 have i2:pI [.sh (.str w),sl]=_:=ZD (by decide) w hs
 have i3:uN [.sh (.str w),sl]=_:=ZD (by decide) w hs
 have i4:pJ [.sh (.str w),sl]=_:=ZD (by decide) w hs
 have i5:pK [.sh (.str w),sl]=_:=ZD (by decide) w hs
 have hle:=Z0P hs
 unfold Z5 Zi Z8
 by_cases h1:w=Str.ofString "post"
 ·have n2:¬w=Str.ofString "fence" := λz=>(d12▸(h1.symm.trans z):False)
  have n3:¬w=Str.ofString "sail" := λz=>(d13▸(h1.symm.trans z):False)
  have n4:¬w=Str.ofString "cloth" := λz=>(d14▸(h1.symm.trans z):False)
  have n5:¬w=Str.ofString "house" := λz=>(d15▸(h1.symm.trans z):False)
  rw[decide_eq_true h1] at e1
  rw[decide_eq_false n2] at e2
  rw[decide_eq_false n3] at e3
  rw[decide_eq_false n4] at e4
  rw[decide_eq_false n5] at e5
  have hg:(if w=Str.ofString "post" then Zf xs else if w=Str.ofString "fence" then Zd xs else if w=Str.ofString "sail" then Za xs else if w=Str.ofString "cloth" then Ze xs else if w=Str.ofString "house" then Za xs else false)=Zf xs:=by rw[if_pos h1]
  have hc:(if w=Str.ofString "post" then "Post" else if w=Str.ofString "fence" then "Fence" else if w=Str.ofString "sail" then "Sail" else if w=Str.ofString "cloth" then "Cloth" else "House")= "Post" := by rw[if_pos h1]
  rw[hg,hc]
  cases q:Zf xs<;>rw[q] at p1<;>simp[eU,ju,bh,List.replicate,e1,e2,e3,e4,e5,hle,p1,i1]
 ·skip
  by_cases h2:w=Str.ofString "fence"
  ·have n1:=h1
   have n3:¬w=Str.ofString "sail" := λz=>(d23▸(h2.symm.trans z):False)
   have n4:¬w=Str.ofString "cloth" := λz=>(d24▸(h2.symm.trans z):False)
   have n5:¬w=Str.ofString "house" := λz=>(d25▸(h2.symm.trans z):False)
   rw[decide_eq_true h2] at e2
   rw[decide_eq_false n1] at e1
   rw[decide_eq_false n3] at e3
   rw[decide_eq_false n4] at e4
   rw[decide_eq_false n5] at e5
   have hg:(if w=Str.ofString "post" then Zf xs else if w=Str.ofString "fence" then Zd xs else if w=Str.ofString "sail" then Za xs else if w=Str.ofString "cloth" then Ze xs else if w=Str.ofString "house" then Za xs else false)=Zd xs:=by rw[if_neg n1,if_pos h2]
   have hc:(if w=Str.ofString "post" then "Post" else if w=Str.ofString "fence" then "Fence" else if w=Str.ofString "sail" then "Sail" else if w=Str.ofString "cloth" then "Cloth" else "House")= "Fence" := by rw[if_neg n1,if_pos h2]
   rw[hg,hc]
   cases q:Zd xs<;>rw[q] at p2<;>simp[eU,ju,bh,List.replicate,e1,e2,e3,e4,e5,hle,p2,i2]
  ·skip
   by_cases h3:w=Str.ofString "sail"
   ·have n1:=h1
    have n2:=h2
    have n4:¬w=Str.ofString "cloth" := λz=>(d34▸(h3.symm.trans z):False)
    have n5:¬w=Str.ofString "house" := λz=>(d35▸(h3.symm.trans z):False)
    rw[decide_eq_true h3] at e3
    rw[decide_eq_false n1] at e1
    rw[decide_eq_false n2] at e2
    rw[decide_eq_false n4] at e4
    rw[decide_eq_false n5] at e5
    have hg:(if w=Str.ofString "post" then Zf xs else if w=Str.ofString "fence" then Zd xs else if w=Str.ofString "sail" then Za xs else if w=Str.ofString "cloth" then Ze xs else if w=Str.ofString "house" then Za xs else false)=Za xs:=by rw[if_neg n1,if_neg n2,if_pos h3]
    have hc:(if w=Str.ofString "post" then "Post" else if w=Str.ofString "fence" then "Fence" else if w=Str.ofString "sail" then "Sail" else if w=Str.ofString "cloth" then "Cloth" else "House")= "Sail" := by rw[if_neg n1,if_neg n2,if_pos h3]
    rw[hg,hc]
    cases q:Za xs<;>rw[q] at p3<;>simp[eU,ju,bh,List.replicate,e1,e2,e3,e4,e5,hle,p3,i3]
   ·skip
    by_cases h4:w=Str.ofString "cloth"
    ·have n1:=h1
     have n2:=h2
     have n3:=h3
     have n5:¬w=Str.ofString "house" := λz=>(d45▸(h4.symm.trans z):False)
     rw[decide_eq_true h4] at e4
     rw[decide_eq_false n1] at e1
     rw[decide_eq_false n2] at e2
     rw[decide_eq_false n3] at e3
     rw[decide_eq_false n5] at e5
     have hg:(if w=Str.ofString "post" then Zf xs else if w=Str.ofString "fence" then Zd xs else if w=Str.ofString "sail" then Za xs else if w=Str.ofString "cloth" then Ze xs else if w=Str.ofString "house" then Za xs else false)=Ze xs:=by rw[if_neg n1,if_neg n2,if_neg n3,if_pos h4]
     have hc:(if w=Str.ofString "post" then "Post" else if w=Str.ofString "fence" then "Fence" else if w=Str.ofString "sail" then "Sail" else if w=Str.ofString "cloth" then "Cloth" else "House")= "Cloth" := by rw[if_neg n1,if_neg n2,if_neg n3,if_pos h4]
     rw[hg,hc]
     cases q:Ze xs<;>rw[q] at p4<;>simp[eU,ju,bh,List.replicate,e1,e2,e3,e4,e5,hle,p4,i4]
    ·skip
     by_cases h5:w=Str.ofString "house"
     ·have n1:=h1
      have n2:=h2
      have n3:=h3
      have n4:=h4
      rw[decide_eq_true h5] at e5
      rw[decide_eq_false n1] at e1
      rw[decide_eq_false n2] at e2
      rw[decide_eq_false n3] at e3
      rw[decide_eq_false n4] at e4
      have hg:(if w=Str.ofString "post" then Zf xs else if w=Str.ofString "fence" then Zd xs else if w=Str.ofString "sail" then Za xs else if w=Str.ofString "cloth" then Ze xs else if w=Str.ofString "house" then Za xs else false)=Za xs:=by rw[if_neg n1,if_neg n2,if_neg n3,if_neg n4,if_pos h5]
      have hc:(if w=Str.ofString "post" then "Post" else if w=Str.ofString "fence" then "Fence" else if w=Str.ofString "sail" then "Sail" else if w=Str.ofString "cloth" then "Cloth" else "House")= "House" := by rw[if_neg n1,if_neg n2,if_neg n3,if_neg n4]
      rw[hg,hc]
      cases q:Za xs<;>rw[q] at p3<;>simp[eU,ju,bh,List.replicate,e1,e2,e3,e4,e5,hle,p3,i5]
     ·skip
      rw[decide_eq_false h1] at e1
      rw[decide_eq_false h2] at e2
      rw[decide_eq_false h3] at e3
      rw[decide_eq_false h4] at e4
      rw[decide_eq_false h5] at e5
      rw[if_neg h1,if_neg h2,if_neg h3,if_neg h4,if_neg h5]
      simp[eU,ju,bh,List.replicate,e1,e2,e3,e4,e5]
abbrev P3:=Int×Int×Int
def c3(p:P3):PV:=.tup [.int p.1,.int p.2.1,.int p.2.2]
def Zz(x y u v z:Int):List P3:=[(x,y,z),(u,y,z),(u,v,z),(x,v,z)]
def ZQ(x y u v h:Int):List P3:=Zz x y u v 0++Zz x y u v h
def Z3(C:String)(xs:List Int):List P3:=
 if C= "Post" then(match xs with
  | [p,q,h]=>ZQ (2*p-1) (2*q-1) (2*p+1) (2*q+1) h
  |_=>[])
 else if C= "Fence" then(match xs with
  | [x,y,u,v,h]=>[(x,y,0),(u,v,0),(u,v,h),(x,y,h)]
  |_=>[])
 else if C= "Sail" then(match xs with
  | [x,y,u,v,h]=>Zz x y u v h
  |_=>[])
 else if C= "Cloth" then(match xs with
  | [a,b,c,d,e,f,g,h,i]=>[(a,b,c),(d,e,f),(g,h,i)]
  |_=>[])
 else(match xs with
  | [x,y,u,v,h]=>ZQ x y u v h
  |_=>[])
def Zm(w:Str)(xs:List Int):List P3:=Z3 (Zi w) xs
def ZM{C:String}(hC:(["Thing","Post","Fence","Sail","Cloth","House"]:List String).contains C=true)(w:Str)(xs:List Int):ń ["Thing","Post","Fence","Sail","Cloth","House"] (Str.ofString "numbers") (Z8 C w xs)=some (.lst (xs.map .int)):=by
 unfold ń Z8
 dsimp only
 rw[if_pos hC]
 have:(Str.ofString "numbers" == Str.ofString "word")=false:=by decide +kernel
 show List.lookup _ [(_,_),(_,_)]=_
 rw[List.lookup_cons,this]
 simp
def Z0p(x y u v z:Int):sO [.sh (.int x),.sh (.int y),.sh (.int u),.sh (.int v),.sh (.int z)]=.ret (.ow ((Zz x y u v z).map c3)):=by
 simp[sO,Iu,List.replicate,Zz,c3]
def Z0q(x y u v h:Int):xK [.sh (.int x),.sh (.int y),.sh (.int u),.sh (.int v),.sh (.int h)]=.ret (.ow ((ZQ x y u v h).map c3)):=by
 simp[xK,Iv,List.replicate,Z0p,ZQ,Zz,add_l]
def Z2g{xs:List Int}(h:Zf xs=true)(w:Str):lZ [.sh (Z8 "Post" w xs)]=.ret (.ow ((Z3 "Post" xs).map c3)):=by
 match xs,h with
 | [p,q,h],hh=>
   simp[Zf,Ŵ,yu] at hh
   have hf:=ZM (C:= "Post") (by decide) w [p,q,h]
   generalize Z8 "Post" w [p,q,h]=v at *
   have e:=Z0q (2*p-1) (2*q-1) (2*p+1) (2*q+1) h
   simp[lZ,Iw,List.replicate,hf,e,Z3]
def Z1V{xs:List Int}(h:Zd xs=true)(w:Str):mj [.sh (Z8 "Fence" w xs)]=.ret (.ow ((Z3 "Fence" xs).map c3)):=by
 match xs,h with
 | [x,y,u,v,h],hh=>
   have hf:=ZM (C:= "Fence") (by decide) w [x,y,u,v,h]
   generalize Z8 "Fence" w [x,y,u,v,h]=t at *
   simp[mj,Iz,List.replicate,hf,Z3,c3,ğ]
def Z2h{xs:List Int}(h:Za xs=true)(w:Str):mq [.sh (Z8 "Sail" w xs)]=.ret (.ow ((Z3 "Sail" xs).map c3)):=by
 match xs,h with
 | [x,y,u,v,h],hh=>
   have hf:=ZM (C:= "Sail") (by decide) w [x,y,u,v,h]
   generalize Z8 "Sail" w [x,y,u,v,h]=t at *
   have e:=Z0p x y u v h
   simp[mq,IK,List.replicate,hf,e,Z3]
def Z1W{xs:List Int}(h:Za xs=true)(w:Str):mz [.sh (Z8 "House" w xs)]=.ret (.ow ((Z3 "House" xs).map c3)):=by
 match xs,h with
 | [x,y,u,v,h],hh=>
   have hf:=ZM (C:= "House") (by decide) w [x,y,u,v,h]
   generalize Z8 "House" w [x,y,u,v,h]=t at *
   have e:=Z0q x y u v h
   simp[mz,IV,List.replicate,hf,e,Z3]
def Z1X{xs:List Int}(h:Ze xs=true)(w:Str):xM [.sh (Z8 "Cloth" w xs)]=.ret (.ow ((Z3 "Cloth" xs).map c3)):=by
 match xs,h with
 | [a,b,c,d,e,f,g,i,j],hh=>
   have hf:=ZM (C:= "Cloth") (by decide) w [a,b,c,d,e,f,g,i,j]
   generalize Z8 "Cloth" w [a,b,c,d,e,f,g,i,j]=t at *
   simp[xM,Rt,List.replicate,hf,Z3,c3,ĸ,Pu,bf]
   exact⟨rfl,rfl,rfl⟩
def cst(r p:P3):Hu.Pt:=(r.2.2*p.1+r.1*p.2.2,r.2.2*p.2.1+r.2.1*p.2.2)
def RB(r:P3):Prop:=-1000000<=r.1/\r.1<=1000000/\ -1000000<=r.2.1/\r.2.1<=1000000/\ -1000000<=r.2.2/\r.2.2<=1000000
def PB(p:P3):Prop:=-10000000000<=p.1/\p.1<=10000000000/\ -10000000000<=p.2.1/\p.2.1<=10000000000/\ -10000000000<=p.2.2/\p.2.2<=10000000000
def Z1Y{r:P3}(hr:RB r)(p:P3):sJ [.sh (c3 p),.sh (c3 r)]=.ret (.sh (pt (cst r p))):=by
 obtain⟨a1,a2,a3,a4,a5,a6⟩:=hr
 have m1:ĺ r.2.2 p.1=true:=aF (by omega) (by omega)
 have m2:ĺ r.2.2 p.2.1=true:=aF (by omega) (by omega)
 have m3:ĺ r.1 p.2.2=true:=aF (by omega) (by omega)
 have m4:ĺ r.2.1 p.2.2=true:=aF (by omega) (by omega)
 simp[sJ,Ir,List.replicate,pt,c3,cst,m1,m2,m3,m4]
def Z03{x y A B:Int}(h1: -A<=x)(h2:x<=A)(h3: -B<=y)(h4:y<=B): -(A*B)<=x*y/\x*y<=A*B:=by
 have hA:0<=A:=by omega
 have hB:0<=B:=by omega
 have e:(x*y).natAbs<=A.natAbs*B.natAbs:=by
  rw[Int.natAbs_mul]
  exact Nat.mul_le_mul (by omega) (by omega)
 have e2:((A*B).natAbs)=A.natAbs*B.natAbs:=Int.natAbs_mul A B
 have e3:0<=A*B:=Int.mul_nonneg hA hB
 omega
def Z2i{r p:P3}(hr:RB r)(hp:PB p):Sm (cst r p):=by
 obtain⟨a1,a2,a3,a4,a5,a6⟩:=hr
 obtain⟨b1,b2,b3,b4,b5,b6⟩:=hp
 have q1:=Z03 a5 a6 b1 b2
 have q2:=Z03 a5 a6 b3 b4
 have q3:=Z03 a1 a2 b5 b6
 have q4:=Z03 a3 a4 b5 b6
 simp only[Sm,cst]
 omega
def Z15{w:Str}{xs:List Int}(hg:Z5 w xs=true){mo:M PV}{ρ ρ1:List P.Slot}(ho:mo ρ=.ok (Z8 (Zi w) w xs) ρ1):oZ (Str.ofString "corners") [("Post",lZ),("Fence",mj),("Sail",mq),("Cloth",xM),("House",mz)] mo ď ρ=.ok (.ow ((Zm w xs).map c3)) ρ1:=by
 have hn:(["word","numbers"]:List Str).contains (Str.ofString "corners")=false:=by decide +kernel
 have key:∀(C:String) (mf:MF),Zi w=C->List.lookup C [("Post",lZ),("Fence",mj),("Sail",mq),("Cloth",xM),("House",mz)]=some mf->mf [.sh (Z8 C w xs)]=.ret (.ow ((Z3 C xs).map c3))->oZ (Str.ofString "corners") [("Post",lZ),("Fence",mj),("Sail",mq),("Cloth",xM),("House",mz)] mo ď ρ=.ok (.ow ((Zm w xs).map c3)) ρ1:=by
  intro C mf hC hl hf
  unfold Zm
  rw[hC] at ho ⊢
  unfold oZ
  rw[ho]
  unfold Z8 at *
  simp only[Res.bind]
  rw[hl]
  dsimp only
  rw[if_neg (by rw[hn];decide)]
  simp only[ď,Res.bind]
  rw[hf]
 unfold Z5 at hg
 by_cases e1:w= "post"
 ·rw[if_pos e1] at hg
  exact key "Post" _ (by unfold Zi;rw[if_pos e1]) rfl (Z2g hg w)
 rw[if_neg e1] at hg
 by_cases e2:w= "fence"
 ·rw[if_pos e2] at hg
  exact key "Fence" _ (by unfold Zi;rw[if_neg e1,if_pos e2]) rfl (Z1V hg w)
 rw[if_neg e2] at hg
 by_cases e3:w= "sail"
 ·rw[if_pos e3] at hg
  exact key "Sail" _ (by unfold Zi;rw[if_neg e1,if_neg e2,if_pos e3]) rfl (Z2h hg w)
 rw[if_neg e3] at hg
 by_cases e4:w= "cloth"
 ·rw[if_pos e4] at hg
  exact key "Cloth" _ (by unfold Zi;rw[if_neg e1,if_neg e2,if_neg e3,if_pos e4]) rfl (Z1X hg w)
 rw[if_neg e4] at hg
 by_cases e5:w= "house"
 ·rw[if_pos e5] at hg
  exact key "House" _ (by unfold Zi;rw[if_neg e1,if_neg e2,if_neg e3,if_neg e4]) rfl (Z1W hg w)
 ·rw[if_neg e5] at hg
  cases hg
def Z0Q{r:P3}(hr:RB r){L:List P3}(hl:L.length<=100)(s1:P.Slot):ĸ (gN 1) ő (Đ (Ē sJ (Ć 1 (Ć 0 ď)))) (L.map c3) [.sh (c3 r),s1] []=some ((L.map (cst r)).map pt):=by
 have:=ŕ (g:=gN 1) (mt:=ő) (me:=Đ (Ē sJ (Ć 1 (Ć 0 ď)))) c3 (λp=>pt (cst r p)) (λρ=>∃s,ρ=[.sh (c3 r),s]) L [.sh (c3 r),s1] [] ⟨_,rfl⟩ (by simp;omega) (by
  rintro p hp ρ ⟨s,rfl⟩
  have e:=Z1Y hr p
  generalize c3 r=R at *
  generalize c3 p=Q at *
  exact⟨[R |> .sh,.sh Q],[.sh R,.sh Q],[.sh R,.sh Q],by simp,by simp,by simp[e],_,rfl⟩)
 rw[this]
 simp
def Z1x{w:Str}{xs:List Int}(hg:Z5 w xs=true)(hl:(Zm w xs).length<=100){r:P3}(hr:RB r):xO [.sh (Z8 (Zi w) w xs),.sh (c3 r)]=.ret (.ow (((Zm w xs).map (cst r)).map pt)):=by
 have h1:=Z15 hg (mo:=ě 0) (ρ:= [.sh (Z8 (Zi w) w xs),.sh (c3 r)]) (ρ1:=[.sh (Z8 (Zi w) w xs),.sh (c3 r)]) (by simp)
 have h2:=Z0Q hr hl
 generalize ((Zm w xs).map (cst r)).map pt=Y at *
 generalize (Zm w xs).map c3=Z at *
 generalize Z8 (Zi w) w xs=v at *
 generalize c3 r=R at *
 simp[xO,IW,List.replicate,h1,h2,-Nm]
def sto(s:Hu.Pt):P3:=(2*s.1,2*s.2,0)
def Z1y{w:Str}{xs:List Int}(hg:Z5 w xs=true):(Zm w xs).length<=8/\Zm w xs≠[]/\∀p∈Zm w xs,PB p:=by
 have hp:Zf xs=true->(Z3 "Post" xs).length<=8/\Z3 "Post" xs≠[]/\∀p∈Z3 "Post" xs,PB p:=by
  intro h
  match xs,h with
  | [a,b,c],h=>
    simp[Zf,Ŵ,yu] at h
    simp[Z3,ZQ,Zz,PB]
    omega
 have hf:Zd xs=true->(Z3 "Fence" xs).length<=8/\Z3 "Fence" xs≠[]/\∀p∈Z3 "Fence" xs,PB p:=by
  intro h
  match xs,h with
  | [a,b,c,d,e],h=>
    simp[Zd,Zg,Ŵ,yu] at h
    simp[Z3,PB]
    omega
 have hs:Za xs=true->(Z3 "Sail" xs).length<=8/\Z3 "Sail" xs≠[]/\∀p∈Z3 "Sail" xs,PB p:=by
  intro h
  match xs,h with
  | [a,b,c,d,e],h=>
    simp[Za,Zg,Ŵ,yu] at h
    simp[Z3,Zz,PB]
    omega
 have hh:Za xs=true->(Z3 "House" xs).length<=8/\Z3 "House" xs≠[]/\∀p∈Z3 "House" xs,PB p:=by
  intro h
  match xs,h with
  | [a,b,c,d,e],h=>
    simp[Za,Zg,Ŵ,yu] at h
    simp[Z3,ZQ,Zz,PB]
    omega
 have hc:Ze xs=true->(Z3 "Cloth" xs).length<=8/\Z3 "Cloth" xs≠[]/\∀p∈Z3 "Cloth" xs,PB p:=by
  intro h
  match xs,h with
  | [a,b,c,d,e,f,g,i,j],h=>
    simp[Ze,Ŵ,yx] at h
    simp[Z3,PB]
    omega
 unfold Z5 at hg
 unfold Zm Zi
 by_cases e1:w= "post"
 ·rw[if_pos e1] at hg ⊢;exact hp hg
 rw[if_neg e1] at hg ⊢
 by_cases e2:w= "fence"
 ·rw[if_pos e2] at hg ⊢;exact hf hg
 rw[if_neg e2] at hg ⊢
 by_cases e3:w= "sail"
 ·rw[if_pos e3] at hg ⊢;exact hs hg
 rw[if_neg e3] at hg ⊢
 by_cases e4:w= "cloth"
 ·rw[if_pos e4] at hg ⊢;exact hc hg
 rw[if_neg e4] at hg ⊢
 by_cases e5:w= "house"
 ·rw[if_pos e5] at hg;exact hh hg
 ·rw[if_neg e5] at hg;cases hg
def shB(w:Str)(xs:List Int)(s:Hu.Pt)(r:P3):Bool:=(Hu.Z0M ((Zm w xs).map (cst r)) (cst r (sto s))).isNone
def Z16(b:Nat):Builtin.bitNot (b:Int)= -(b:Int)-1:=rfl
def Z17(a b:Nat):Builtin.bitOr a b=((a ||| b:Nat):Int):=by
 unfold Builtin.bitOr Builtin.bitAnd
 rw[Z16,Z16]
 have h1:decide (0<= -(a:Int)-1)=false:=by simp;omega
 have h2:decide (0<= -(b:Int)-1)=false:=by simp;omega
 rw[h1,h2]
 have e1:(Builtin.bitNot (-(a:Int)-1)).toNat=a:=by unfold Builtin.bitNot;omega
 have e2:(Builtin.bitNot (-(b:Int)-1)).toNat=b:=by unfold Builtin.bitNot;omega
 simp only[e1,e2]
 unfold Builtin.bitNot
 omega
def Z2y(a:Int):Builtin.bitAnd a 1=a % 2:=PyProof.Rows.bitAnd_m1 a
def Z1z(f l k:Nat)(h:f<=l):(2 ^ (l+1)-2 ^ f).testBit k=(decide (f<=k) && decide (k<=l)):=by
 have e:2 ^ (l+1)-2 ^ f=(2 ^ (l+1-f)-1)*2 ^ f:=by
  rw[Nat.sub_mul,<-Nat.pow_add,Nat.one_mul]
  congr 2
  omega
 rw[e,Nat.testBit_mul_two_pow,Nat.testBit_two_pow_sub_one]
 by_cases h1:f<=k
 ·simp[h1]
  by_cases h2:k<=l
  ·simp[h2];omega
  ·simp[h2];omega
 ·simp[h1]
def Z0R{a n:Nat}(h:∀k,n<=k->a.testBit k=false):a<2 ^ n:=Nat.lt_pow_two_of_testBit a h
def Z2j{k:Nat}(h:k<=1000000):oU 1 (k:Int)=true:=by unfold oU;simp;omega
def Z0G{f l:Int}{w:Nat}(hf:0<=f)(hl:l<w)(hw:w<=1000):∃B:Nat,sS [.sh (.int f),.sh (.int l)]=.ret (.sh (.int B))/\∀k:Nat,B.testBit k=(decide (f<=k) && decide ((k:Int)<=l)):=by
 by_cases h:l<f
 ·refine⟨0,by simp[sS,zY,List.replicate,h],λk=>?_⟩
  by_cases h1:f<=k
  ·have h2:¬(k:Int)<=l:=by omega
   simp[h2]
  ·simp[h1]
 ·obtain⟨F,rfl⟩:=Int.eq_ofNat_of_zero_le hf
  obtain⟨L,rfl⟩:=Int.eq_ofNat_of_zero_le (by omega:0<=l)
  have e1:=Z2j (k:=L+1) (by omega)
  have e2:=Z2j (k:=F) (by omega)
  have hp:2 ^ F<=2 ^ (L+1):=Nat.pow_le_pow_right (by omega) (by omega)
  refine⟨2 ^ (L+1)-2 ^ F,?_,λk=>?_⟩
  ·have t1:((L:Int)+1).toNat=L+1:=by omega
   have t2:((L:Int)+1)=((L+1:Nat):Int):=by omega
   simp only[Int.natCast_add,Int.cast_ofNat_Int] at e1
   have h':¬(L:Int)<F:=h
   simp[sS,zY,List.replicate,h',e1,e2,t1]
   rw[Int.natCast_sub hp]
   simp
  ·rw[Z1z F L k (by omega)]
   simp
def inR(L:List Hu.Ln)(u q k:Int):Prop:=∀l∈L,l.1*(u*k)+l.2.1*(u*q)<=l.2.2
def Z0H{a b k:Int}(hb:0<b):k<=a.fdiv b↔k*b<=a:=by
 rw[Int.fdiv_eq_ediv_of_nonneg _ (Int.le_of_lt hb)]
 exact Int.le_ediv_iff_mul_le hb
theorem Z0r{u q:Int}{w:Nat}(hu:0<u)(hu2:u<=10000000)(hq:0<=q)(hq2:q<=1000)(s0:P.Slot):∀(L:List Hu.Ln),(∀l∈L,Vw l)->∀(f la:Int) (s6 s7 s8 s9 yq:P.Slot),0<=f->la<w->
 (∃f' J_ Ml Vy Ek El yg,forL (gT 3 (Ĩ (gN 6) (Ĩ (gN 7) (Ĩ (gN 8) aL)))) cD (L.map fJ) [s0,.sh (.int u),.sh (.int q),.sh (.int w),.sh (.int f),.sh (.int la),s6,s7,s8,s9,yq]=.ok .nx [s0,.sh (.int u),.sh (.int q),.sh (.int w),.sh (.int f'),.sh (.int J_),Ml,Vy,Ek,El,yg]/\0<=f'/\J_<w/\∀k:Int,(f'<=k/\k<=J_)↔(f<=k/\k<=la/\inR L u q k))\/
 (∃ρ',forL (gT 3 (Ĩ (gN 6) (Ĩ (gN 7) (Ĩ (gN 8) aL)))) cD (L.map fJ) [s0,.sh (.int u),.sh (.int q),.sh (.int w),.sh (.int f),.sh (.int la),s6,s7,s8,s9,yq]=.ok (.rt (.sh (.int 0))) ρ'/\∀k:Int,¬inR L u q k)
 | [],_,f,la,s6,s7,s8,s9,yq,h1,h2=>.inl ⟨f,la,s6,s7,s8,s9,yq,rfl,h1,h2,λk=>by simp[inR]⟩
 |l::L,hS,f,la,s6,s7,s8,s9,yq,h1,h2=>by
  have hl:=hS l List.mem_cons_self
  have ih:=λ(f la:Int) (s6 s7 s8 s9 yq:P.Slot)=>Z0r (w:=w) hu hu2 hq hq2 s0 L (λx hx=>hS x (List.mem_cons_of_mem _ hx)) f la s6 s7 s8 s9 yq
  have m1:ĺ l.1 u=true:=aF (by have:=hl.1;omega) (by have:=hl.2.1;omega)
  have m2:ĺ l.2.1 u=true:=aF (by have:=hl.2.2.1;omega) (by have:=hl.2.2.2;omega)
  have m3:ĺ (l.2.1*u) q=true:=mul_r (by omega) (by omega)
  have bs:=Z03 hl.1 hl.2.1 (show -10000000<=u by omega) hu2
  obtain⟨st,hst⟩:∃st,l.1*u=st:=⟨_,rfl⟩
  obtain⟨ro,hro⟩:∃ro,l.2.2-l.2.1*u*q=ro:=⟨_,rfl⟩
  rw[hst] at bs
  have hin:∀k:Int,inR (l::L) u q k↔(k*st<=ro/\inR L u q k):=λk=>by
   unfold inR
   rw[List.forall_mem_cons]
   have e:l.1*(u*k)=k*st:=by rw[<-hst,<-Int.mul_assoc,Int.mul_comm]
   have e2:l.2.1*(u*q)=l.2.1*u*q:=by rw[Int.mul_assoc]
   rw[e,e2]
   constructor
   ·rintro ⟨a,b⟩;exact⟨by omega,b⟩
   ·rintro ⟨a,b⟩;exact⟨by omega,b⟩
  have gg:gT 3 (Ĩ (gN 6) (Ĩ (gN 7) (Ĩ (gN 8) aL))) (fJ l) [s0,.sh (.int u),.sh (.int q),.sh (.int w),.sh (.int f),.sh (.int la),s6,s7,s8,s9,yq]=some [s0,.sh (.int u),.sh (.int q),.sh (.int w),.sh (.int f),.sh (.int la),.sh (.int l.1),.sh (.int l.2.1),.sh (.int l.2.2),s9,yq]:=by simp[fJ]
  rw[List.map_cons,forL,gg]
  dsimp only
  by_cases c1:0<st
  ·have d1:iR ro st=true:=BR (by omega) (Nat.le_trans (nU (n:=200) (by omega) (by omega)) (by decide))
   have e:cD [s0,.sh (.int u),.sh (.int q),.sh (.int w),.sh (.int f),.sh (.int la),.sh (.int l.1),.sh (.int l.2.1),.sh (.int l.2.2),s9,yq]=.ok .nx [s0,.sh (.int u),.sh (.int q),.sh (.int w),.sh (.int f),.sh (.int (min la (ro.fdiv st))),.sh (.int l.1),.sh (.int l.2.1),.sh (.int l.2.2),.sh (.int st),.sh (.int ro)]:=by
    simp[cD,m1,m2,m3,hst,hro,c1,d1]
    split<;>omega
   rw[e]
   rcases ih f (min la (ro.fdiv st)) (.sh (.int l.1)) (.sh (.int l.2.1)) (.sh (.int l.2.2)) (.sh (.int st)) (.sh (.int ro)) h1 (by omega) with⟨f',J_,Ml,Vy,Ek,El,yg,q1,q2,q3,q4⟩|⟨ρ',q1,q2⟩
   ·refine .inl ⟨f',J_,Ml,Vy,Ek,El,yg,q1,q2,q3,λk=>?_⟩
    rw[q4,hin]
    have:=Z0H (a:=ro) (k:=k) c1
    constructor
    ·rintro ⟨a,b,c⟩;exact⟨a,by omega,this.mp (by omega),c⟩
    ·rintro ⟨a,b,c,d⟩;exact⟨a,by have:=this.mpr c;omega,d⟩
   ·exact .inr ⟨ρ',q1,λk=>by rw[hin];exact λh=>q2 k h.2⟩
  ·by_cases c2:st<0
   ·have d1:iR ro (-st)=true:=BR (by omega) (Nat.le_trans (nU (n:=200) (by omega) (by omega)) (by decide))
    have e:cD [s0,.sh (.int u),.sh (.int q),.sh (.int w),.sh (.int f),.sh (.int la),.sh (.int l.1),.sh (.int l.2.1),.sh (.int l.2.2),s9,yq]=.ok .nx [s0,.sh (.int u),.sh (.int q),.sh (.int w),.sh (.int (max f (-(ro.fdiv (-st))))),.sh (.int la),.sh (.int l.1),.sh (.int l.2.1),.sh (.int l.2.2),.sh (.int st),.sh (.int ro)]:=by
     simp[cD,m1,m2,m3,hst,hro,c1,c2,d1]
     split<;>omega
    rw[e]
    rcases ih (max f (-(ro.fdiv (-st)))) la (.sh (.int l.1)) (.sh (.int l.2.1)) (.sh (.int l.2.2)) (.sh (.int st)) (.sh (.int ro)) (by omega) h2 with⟨f',J_,Ml,Vy,Ek,El,yg,q1,q2,q3,q4⟩|⟨ρ',q1,q2⟩
    ·refine .inl ⟨f',J_,Ml,Vy,Ek,El,yg,q1,q2,q3,λk=>?_⟩
     rw[q4,hin]
     have:=Z0H (a:=ro) (b:=-st) (k:=-k) (by omega)
     rw[Int.neg_mul_neg] at this
     constructor
     ·rintro ⟨a,b,c⟩;exact⟨by omega,b,this.mp (by omega),c⟩
     ·rintro ⟨a,b,c,d⟩;exact⟨by have:=this.mpr c;omega,b,d⟩
    ·exact .inr ⟨ρ',q1,λk=>by rw[hin];exact λh=>q2 k h.2⟩
   ·have c0:st=0:=by omega
    subst c0
    by_cases c3:ro<0
    ·refine .inr ⟨_,by simp[cD,m1,m2,m3,hst,hro,c3];rfl,λk=>?_⟩
     rw[hin]
     rintro ⟨a,_⟩
     omega
    ·have e:cD [s0,.sh (.int u),.sh (.int q),.sh (.int w),.sh (.int f),.sh (.int la),.sh (.int l.1),.sh (.int l.2.1),.sh (.int l.2.2),s9,yq]=.ok .nx [s0,.sh (.int u),.sh (.int q),.sh (.int w),.sh (.int f),.sh (.int la),.sh (.int l.1),.sh (.int l.2.1),.sh (.int l.2.2),.sh (.int 0),.sh (.int ro)]:=by
      simp[cD,m1,m2,m3,hst,hro,c3]
     rw[e]
     rcases ih f la (.sh (.int l.1)) (.sh (.int l.2.1)) (.sh (.int l.2.2)) (.sh (.int 0)) (.sh (.int ro)) h1 h2 with⟨f',J_,Ml,Vy,Ek,El,yg,q1,q2,q3,q4⟩|⟨ρ',q1,q2⟩
     ·refine .inl ⟨f',J_,Ml,Vy,Ek,El,yg,q1,q2,q3,λk=>?_⟩
      rw[q4,hin]
      constructor
      ·rintro ⟨a,b,c⟩;exact⟨a,b,by omega,c⟩
      ·rintro ⟨a,b,c,d⟩;exact⟨a,b,d⟩
     ·exact .inr ⟨ρ',q1,λk=>by rw[hin];exact λh=>q2 k h.2⟩
def Z2k{u q:Int}{w:Nat}(hu:0<u)(hu2:u<=10000000)(hq:0<=q)(hq2:q<=1000)(hw:w<=1000){L:List Hu.Ln}(hS:∀l∈L,Vw l){sl:P.Slot}(hs:Sl sl (L.map fJ)) :
 ∃B:Nat,xP [sl,.sh (.int u),.sh (.int q),.sh (.int w)]=.ret (.sh (.int B))/\∀k:Nat,B.testBit k=true↔(k<w/\inR L u q k):=by
 rcases Z0r (w:=w) hu hu2 hq hq2 sl L hS 0 (w-1) .no .no .no .no .no (by omega) (by omega) with⟨f',J_,Ml,Vy,Ek,El,yg,q1,q2,q3,q4⟩|⟨ρ',q1,q2⟩
 ·obtain⟨B,b1,b2⟩:=Z0G (f:=f') (l:=J_) q2 q3 hw
  refine⟨B,by rcases hs with rfl|rfl<;>simp[xP,zZ,List.replicate,q1,b1],λk=>?_⟩
  rw[b2,Bool.and_eq_true,decide_eq_true_eq,decide_eq_true_eq,q4 k]
  constructor
  ·rintro ⟨a,b,c⟩;exact⟨by omega,c⟩
  ·rintro ⟨a,b⟩;exact⟨by omega,by omega,b⟩
 ·refine⟨0,by rcases hs with rfl|rfl<;>simp[xP,zZ,List.replicate,q1],λk=>?_⟩
  simp
  exact λ_=>q2 k
abbrev Th:=Str×List Int
def qI(t:Th):PV:=Z8 (Zi t.1) t.1 t.2
def lN:Option P3->PV
 |none=>.non
 |some r=>c3 r
abbrev Dy:=Str×Int×List (Option P3)
def bW(d:Dy):PV:=.tup [.str d.1,.int d.2.1,.lst (d.2.2.map lN)]
def Z0(w h:Int)(T:List Th)(D:List Dy):PV:=.ins "Yard" ["width","height","things","days"] [.int w,.int h,.lst (T.map qI),.lst (D.map bW)]
def ywh:(Str.ofString "width" =Str.ofString "height")=False:=eq_false (by decide +kernel)
def ywt:(Str.ofString "width" =Str.ofString "things")=False:=eq_false (by decide +kernel)
def ywd:(Str.ofString "width" =Str.ofString "days")=False:=eq_false (by decide +kernel)
def yht:(Str.ofString "height" =Str.ofString "things")=False:=eq_false (by decide +kernel)
def yhd:(Str.ofString "height" =Str.ofString "days")=False:=eq_false (by decide +kernel)
def ytd:(Str.ofString "things" =Str.ofString "days")=False:=eq_false (by decide +kernel)
def Em(w h:Int)(T:List Th)(D:List Dy):ń ["Yard"] (Str.ofString "width") (Z0 w h T D)=some (.int w):=by
 unfold ń Z0
 simp
def Ol(w h:Int)(T:List Th)(D:List Dy):ń ["Yard"] (Str.ofString "height") (Z0 w h T D)=some (.int h):=by
 have:(Str.ofString "height" == Str.ofString "width")=false:=by decide +kernel
 unfold ń Z0
 simp[List.lookup_cons,this]
def y_t(w h:Int)(T:List Th)(D:List Dy):ń ["Yard"] (Str.ofString "things") (Z0 w h T D)=some (.lst (T.map qI)):=by
 have e1:(Str.ofString "things" == Str.ofString "width")=false:=by decide +kernel
 have e2:(Str.ofString "things" == Str.ofString "height")=false:=by decide +kernel
 unfold ń Z0
 simp[List.lookup_cons,e1,e2]
def y_d(w h:Int)(T:List Th)(D:List Dy):ń ["Yard"] (Str.ofString "days") (Z0 w h T D)=some (.lst (D.map bW)):=by
 have e1:(Str.ofString "days" == Str.ofString "width")=false:=by decide +kernel
 have e2:(Str.ofString "days" == Str.ofString "height")=false:=by decide +kernel
 have e3:(Str.ofString "days" == Str.ofString "things")=false:=by decide +kernel
 unfold ń Z0
 simp[List.lookup_cons,e1,e2,e3]
def Z18(D:List Dy)(hD:D.length<=100000)(s0 s1 s2:P.Slot):ĸ (gT 3 (Ĩ (gN 0) (Ĩ (gN 1) (Ĩ (gN 2) aL)))) ő (Ŀ (Ą (ě 0) (Ą (ě 1) (Ą (Đ (oK eG (Ą (Ā 2) ę))) ę)))) (D.map bW) [s0,s1,s2] []=some (D.map bW):=by
 have h:=ŕ (g:=gT 3 (Ĩ (gN 0) (Ĩ (gN 1) (Ĩ (gN 2) aL)))) (mt:=ő) (me:=Ŀ (Ą (ě 0) (Ą (ě 1) (Ą (Đ (oK eG (Ą (Ā 2) ę))) ę)))) bW bW (λρ=>∃a b c,ρ=[a,b,c]) D [s0,s1,s2] [] ⟨_,_,_,rfl⟩ (by simp;omega) (by
  rintro d _ ρ ⟨a,b,c,rfl⟩
  refine⟨[.sh (.str d.1),.sh (.int d.2.1),.sh (.lst (d.2.2.map lN))],[.sh (.str d.1),.sh (.int d.2.1),.sh (.lst (d.2.2.map lN))],[.sh (.str d.1),.sh (.int d.2.1),.sh (.lst (d.2.2.map lN))],by simp[bW],rfl,by simp[bW],_,_,_,rfl⟩)
 simpa using h
def Z1Z(w h:Int){T:List Th}{D:List Dy}(hT:T.length<=100000)(hD:D.length<=100000){s3 s4:P.Slot}(h3:Sl s3 (T.map qI))(h4:Sl s4 (D.map bW)):nW [.sh (.int w),.sh (.int h),s3,s4]=.ok ["width","height","things","days"] [.int w,.int h,.lst (T.map qI),.lst (D.map bW)]:=by
 have c:=Z18 D hD .no .no .no
 generalize hx:T.map qI=tx at *
 generalize hy:D.map bW=dx at *
 rcases h3 with rfl|rfl<;>rcases h4 with rfl|rfl<;>simp[nW,bL,zO,iV,IR.of,List.replicate,putN,qQ,ywh,ywt,ywd,yht,yhd,ytd,c]
def Z2l{k q w:Nat}(hw:0<w):(q*w<=k/\k-q*w<w)↔k / w=q:=by
 constructor
 ·rintro ⟨a,b⟩
  exact Nat.div_eq_of_lt_le a (by rw[Nat.add_mul];omega)
 ·rintro rfl
  have h1:=Nat.div_mul_le_self k w
  have h2:=Nat.mod_lt k hw
  have h3:=Nat.mod_eq_sub_div_mul (x:=k) (k:=w)
  omega
def Z2m{k q w:Nat}(h:k / w=q):k-q*w=k % w:=by
 subst h
 exact(Nat.mod_eq_sub_div_mul).symm
def Z1N{k w h:Nat}(hw:0<w):k / w<h↔k<w*h:=by
 rw[Nat.div_lt_iff_lt_mul hw,Nat.mul_comm]
def stn(w k:Nat):Hu.Pt:=(((k % w:Nat):Int),((k / w:Nat):Int))
def Z20{S:List Hu.Pt}{r:P3}{p q:Int}:inR (Hu.Zr S) (2*r.2.2) q p↔(Hu.Z0M S (cst r (sto (p,q)))).isNone=true:=by
 have e:cst r (sto (p,q))=(2*r.2.2*p,2*r.2.2*q):=by
  unfold cst sto
  simp only[Int.mul_zero,Int.add_zero,Prod.mk.injEq]
  constructor<;>grind
 rw[e]
 unfold Hu.Z0M inR Hu.hd
 rw[Option.isNone_iff_eq_none,List.find?_eq_none]
 simp
theorem ZX{α:Type}(y:α):∀(xs b:List α),y∈xs.foldl (λb x=>x::b) b↔(y∈xs\/y∈b)
 | [],b=>by simp
 |x::xs,b=>by rw[List.foldl_cons,ZX y xs (x::b)];simp;grind
def shT(t:Th)(s:Hu.Pt)(r:P3):Bool:=shB t.1 t.2 s r
def Z19{w h:Nat}(hw:0<w)(hw2:w<=60)(hh:h<=1000)(T:List Th)(Ds:List Dy){t:Th}(hg:Z5 t.1 t.2=true){r:P3}(hr:RB r)(hz:0<r.2.2) :
 ∃D:Nat,sU [.sh (Z0 w h T Ds),.sh (qI t),.sh (c3 r)]=.ret (.sh (.int D))/\∀k,D.testBit k=(decide (k<w*h) && shT t (stn w k) r):=by
 obtain⟨g1,g2,g3⟩:=Z1y hg
 have hc:=Z1x hg (by omega) hr
 have hS:∀p∈(Zm t.1 t.2).map (cst r),Sm p:=by
  intro p hp
  obtain⟨q,hq,rfl⟩:=List.mem_map.mp hp
  exact Z2i hr (g3 q hq)
 have hl:=Z1t (sl:=.sh (.lst (((Zm t.1 t.2).map (cst r)).map pt))) (.inl rfl) hS (by simpa using g2) (by simp;omega)
 have hls:∀l∈Hu.Zr ((Zm t.1 t.2).map (cst r)),Vw l:=λl h=>Z2c h hS
 have yw:=Em w h T Ds
 have yh:=Ol w h T Ds
 have hv:(2:Int)*r.2.2<=10000000:=by have:=hr.2.2.2.2.2;omega
 generalize hX:Hu.Zr ((Zm t.1 t.2).map (cst r))=X at *
 generalize hY:Z0 w h T Ds=Y at *
 have hr2:Ė (c3 r) (.int 2)=some (.int r.2.2):=by simp[c3]
 obtain⟨ρ',e1,D,s5,rfl,hD⟩:=iy (g:=gN 5) (mb:=uP) (λ(q:Nat)=>PV.int q) (λ(b:List Nat) (x:Nat)=>x::b) (λb ρ=>∃(D:Nat) (s5:P.Slot),ρ=[.sh Y,.sh (qI t),.sh (c3 r),.ow (X.map fJ),.sh (.int D),s5]/\∀k,D.testBit k=true↔(k / w∈b/\shT t (stn w k) r=true)) (List.range h) (by
  rintro q hq b ρ ⟨D,s5,rfl,hD⟩
  have hq:=List.mem_range.mp hq
  obtain⟨B,b1,b2⟩:=Z2k (u:=2*r.2.2) (q:=q) (w:=w) (by omega) hv (by omega) (by omega) (by omega) hls (sl:=.bw (X.map fJ)) (.inr rfl)
  have hB:B<2 ^ w:=Z0R λk hk=>by
   have:=b2 k
   cases e:B.testBit k with
   |false=>rfl
   |true=>have:=(this.mp e).1;omega
  have hB2:B<2 ^ 60:=Nat.lt_of_lt_of_le hB (Nat.pow_le_pow_right (by omega) hw2)
  have hqw:q*w<=1000*60:=Nat.mul_le_mul (by omega) hw2
  have so:oU (B:Int) ((q:Int)*(w:Int))=true:=by
   have:((q:Int)*(w:Int))=((q*w:Nat):Int):=by simp
   rw[this]
   unfold oU
   simp
   omega
  have mo:ĺ (q:Int) (w:Int)=true:=aF (by omega) (by omega)
  have tn:((q:Int)*(w:Int)).toNat=q*w:=by
   have:((q:Int)*(w:Int))=((q*w:Nat):Int):=by simp
   rw[this];rfl
  obtain⟨Z,hZ⟩:∃Z:Nat,Z=D ||| B*2 ^ (q*w):=⟨_,rfl⟩
  have oe:Builtin.bitOr (D:Int) ((B:Int)*2 ^ (q*w))=(Z:Int):=by
   have ee:(B:Int)*2 ^ (q*w)=((B*2 ^ (q*w):Nat):Int):=by simp
   rw[ee,Z17,hZ]
  have m2:ĺ 2 r.2.2=true:=aF (by omega) (by omega)
  generalize c3 r=R at *
  have st:uP [.sh Y,.sh (qI t),.sh R,.ow (X.map fJ),.sh (.int D),.sh (.int q)]=.ok .nx [.sh Y,.sh (qI t),.sh R,.ow (X.map fJ),.sh (.int Z),.sh (.int q)]:=by
   simp[uP,hr2,yw,m2,b1,mo,so,tn,oe]
  refine⟨_,_,rfl,st,_,_,rfl,λk=>?_⟩
  rw[hZ,Nat.testBit_or,Bool.or_eq_true,hD,Nat.testBit_mul_two_pow,Bool.and_eq_true,decide_eq_true_eq,b2,List.mem_cons,<-hX,Z20]
  have key:∀(_:k / w=q),((Hu.Z0M ((Zm t.1 t.2).map (cst r)) (cst r (sto (((k-q*w:Nat):Int),(q:Int))))).isNone=true↔shT t (stn w k) r=true):=by
   intro hk
   unfold shT shB stn
   rw[Z2m hk,hk]
  have d:=Z2l (k:=k) (q:=q) hw
  constructor
  ·rintro (⟨a,b⟩|⟨a,b,c⟩)
   ·exact⟨.inr a,b⟩
   ·have:=d.mp ⟨a,b⟩
    exact⟨.inl this,(key this).mp c⟩
  ·rintro ⟨a|a,b⟩
   ·have:=d.mpr a
    exact .inr ⟨this.1,this.2,(key a).mpr b⟩
   ·exact .inl ⟨a,b⟩) [] [.sh Y,.sh (qI t),.sh (c3 r),.ow (X.map fJ),.sh (.int ((0:Nat):Int)),.no] ⟨0,.no,rfl,by simp⟩
 refine⟨D,?_,λk=>?_⟩
 ·have rr:=ZV hh
  have hc':xO [.sh (qI t),.sh (c3 r)]=.ret (.ow (((Zm t.1 t.2).map (cst r)).map pt)):=hc
  generalize c3 r=R at *
  generalize qI t=Tv at *
  simp[sU,I_,List.replicate,hc',hl,yh,rr,-List.map_map] at e1 ⊢
  simp[e1]
 ·have:=hD k
  rw[ZX,List.mem_range,Z1N hw] at this
  rw[Bool.eq_iff_iff,this,Bool.and_eq_true,decide_eq_true_eq]
  simp
def Zt:Nat->(Nat->Bool)->Nat
 |0,_=>0
 |n+1,p=>Zt n p+if p n then 2 ^ n else 0
theorem ZY(p:Nat->Bool):∀n,Zt n p<2 ^ n
 |0=>by simp[Zt]
 |n+1=>by
  have:=ZY p n
  unfold Zt
  rw[Nat.pow_succ]
  split<;>omega
theorem ZN(p:Nat->Bool):∀n k,(Zt n p).testBit k=(decide (k<n) && p k)
 |0,k=>by simp[Zt]
 |n+1,k=>by
  have hl:=ZY p n
  unfold Zt
  by_cases h:k<n
  ·have ih:=ZN p n k
   have h1:k<n+1:=by omega
   split
   ·rw[Nat.add_comm,Nat.testBit_two_pow_add_gt h,ih];simp[h,h1]
   ·rw[Nat.add_zero,ih];simp[h,h1]
  ·by_cases h2:k=n
   ·subst h2
    split
    ·rename_i q
     rw[Nat.add_comm,Nat.testBit_two_pow_add_eq,Nat.testBit_lt_two_pow hl];simp[q]
    ·rename_i q
     rw[Nat.add_zero,Nat.testBit_lt_two_pow hl];simp[q]
   ·have h3:¬k<n+1:=by omega
    have:Zt n p+(if p n=true then 2 ^ n else 0)<2 ^ k:=by
     refine Nat.lt_of_lt_of_le (ZY p (n+1)) (Nat.pow_le_pow_right (by omega) (by omega))
    rw[Nat.testBit_lt_two_pow this]
    simp[h3]
def ZZ{n:Nat}{p:Nat->Bool}{D:Nat}(h:∀k,D.testBit k=(decide (k<n) && p k)):D=Zt n p:=Nat.eq_of_testBit_eq λk=>by rw[h,ZN]
def dk1(w h:Nat)(r:P3)(t:Th):Nat:=Zt (w*h) λk=>shT t (stn w k) r
def dkp(w:Nat)(T:List Th):Option P3->Nat->Bool
 |none,_=>true
 |some r,k=>T.any λt=>shT t (stn w k) r
def CG(w h:Nat)(T:List Th)(o:Option P3):Nat:=Zt (w*h) (dkp w T o)
def Om(o:Option P3):Prop:=match o with|none=>True|some r=>RB r/\0<r.2.2
def Z0S{w h:Nat}(hw:0<w)(hw2:w<=60)(hh:h<=1000)(T:List Th)(Ds:List Dy){t:Th}(hg:Z5 t.1 t.2=true){r:P3}(hr:RB r)(hz:0<r.2.2) :
 sU [.sh (Z0 w h T Ds),.sh (qI t),.sh (c3 r)]=.ret (.sh (.int (dk1 w h r t))):=by
 obtain⟨D,h1,h2⟩:=Z19 hw hw2 hh T Ds hg hr hz
 rw[h1,ZZ h2]
 rfl
def Z1A{w h:Nat}(hw:0<w)(hw2:w<=60)(hh:h<=1000){T:List Th}(hT:T.length<=1000)(Ds:List Dy)(hg:∀t∈T,Z5 t.1 t.2=true){r:P3}(hr:RB r)(hz:0<r.2.2) :
 NK [.sh (Z0 w h T Ds),.sh (c3 r)]=.ret (.ow (T.map λt=>.int (dk1 w h r t))):=by
 have yt:=y_t w h T Ds
 have hc:=ŕ (g:=gN 2) (mt:=ő) (me:=Đ (Ē sU (Ć 0 (Ć 2 (Ć 1 ď))))) qI (λt=>.int (dk1 w h r t)) (λρ=>∃s,ρ=[.sh (Z0 w h T Ds),.sh (c3 r),s]) T [.sh (Z0 w h T Ds),.sh (c3 r),.no] [] ⟨_,rfl⟩ (by simp;omega) (by
  rintro t ht ρ ⟨s,rfl⟩
  have e:=Z0S hw hw2 hh T Ds (hg t ht) hr hz
  generalize Z0 w h T Ds=Y at *
  generalize c3 r=R at *
  generalize qI t=Tv at *
  refine⟨_,_,_,rfl,rfl,by simp[e];rfl,_,rfl⟩)
 generalize Z0 w h T Ds=Y at *
 generalize c3 r=R at *
 simp[NK,Ru,List.replicate,yt]
 simp at hc
 simp[hc]
def Z21{w h:Nat}(hw:0<w)(hw2:w<=60)(hh:h<=1000)(vM:w*h<=1000){T:List Th}(hT:T.length<=1000)(Ds:List Dy)(hg:∀t∈T,Z5 t.1 t.2=true){o:Option P3}(ho:Om o) :
 sV [.sh (Z0 w h T Ds),.sh (lN o)]=.ret (.sh (.int (CG w h T o))):=by
 have yw:=Em w h T Ds
 have yh:=Ol w h T Ds
 have mo:ĺ (w:Int) (h:Int)=true:=aF (by omega) (by omega)
 cases o with
 |none=>
  obtain⟨B,b1,b2⟩:=Z0G (f:=0) (l:=(w:Int)*h-1) (w:=w*h) (by omega) (by rw[Int.natCast_mul];omega) vM
  have:B=CG w h T none:=ZZ λk=>by
   rw[b2]
   simp[dkp]
   have:((w*h:Nat):Int)=(w:Int)*h:=by simp
   omega
  subst this
  generalize Z0 w h T Ds=Y at *
  simp[sV,Aa,List.replicate,lN,yw,yh,mo,b1,uh]
 |some r=>
  have ho:RB r/\0<r.2.2:=ho
  have hd:=Z1A hw hw2 hh hT Ds hg ho.1 ho.2
  obtain⟨ρ',e1,D,s3,rfl,hD⟩:=iy (g:=gN 3) (mb:=z_) (λ(t:Th)=>PV.int (dk1 w h r t)) (λ(b:List Th) (x:Th)=>x::b) (λb ρ=>∃(D:Nat) (s3:P.Slot),ρ=[.sh (Z0 w h T Ds),.sh (c3 r),.sh (.int D),s3]/\∀k,D.testBit k=true↔(k<w*h/\∃t∈b,shT t (stn w k) r=true)) T (by
   rintro t ht b ρ ⟨D,s3,rfl,hD⟩
   refine⟨_,_,rfl,by simp[z_,Z17];exact⟨rfl,rfl⟩,_,_,rfl,λk=>?_⟩
   rw[Nat.testBit_or,Bool.or_eq_true,hD,dk1,ZN,Bool.and_eq_true,decide_eq_true_eq]
   simp
   grind) [] [.sh (Z0 w h T Ds),.sh (c3 r),.sh (.int ((0:Nat):Int)),.no] ⟨0,.no,rfl,by simp⟩
  have:D=CG w h T (some r):=ZZ λk=>by
   have:=hD k
   rw[Bool.eq_iff_iff,this]
   simp only[ZX,dkp,List.not_mem_nil,or_false,Bool.and_eq_true,decide_eq_true_eq,List.any_eq_true]
  subst this
  have hn:qO (c3 r) .non=some (.bl false):=by simp[c3,uh]
  generalize Z0 w h T Ds=Y at *
  show sV [.sh Y,.sh (c3 r)]=_
  simp at e1
  generalize c3 r=R at *
  have hn:uh R=false:=by simpa using hn
  simp[sV,Aa,List.replicate,hd,hn,e1]
def Zu(ns:List Int)(k:Nat):ų [.sh (.lst (ns.map .int)),.sh (.int k)]=.ret (.sh (.int (ns.getD k 0))):=by
 by_cases h:k<ns.length
 ·have h':(k:Int)<(ns.length:Int):=by omega
  simp[ų,zL,List.replicate,h',List.getElem?_eq_getElem h]
 ·have h':¬(k:Int)<(ns.length:Int):=by omega
  simp[ų,zL,List.replicate,h',List.getElem?_eq_none (Nat.le_of_not_lt h)]
@[simp] theorem Z04(ns:List Int)(k:Nat):ų [.sh (.lst (ns.map .int)),.sh (.int (no_index (OfNat.ofNat k)))]=.ret (.sh (.int (ns.getD k 0))):=Zu ns k
def Gr(x:Int):Prop:=0<=x/\x<524288
theorem Zx(c:Int)(s1:P.Slot):∀(ks:List Nat) (acc:List Int) (n:Int) (s4:P.Slot),acc.length+ks.length<=100000->(∀k∈ks,k<=100000)->(∀x∈acc,Gr x)->∃(acc':List Int) (n':Int) (yr:P.Slot),forL (gN 4) lq (ks.map λ(i:Nat)=>PV.int (i:Int)) [.sh (.int c),s1,.ow (acc.map .int),.sh (.int n),s4]=.ok .nx [.sh (.int c),s1,.ow (acc'.map .int),.sh (.int n'),yr]/\acc'.length=acc.length+ks.length/\∀x∈acc',Gr x
 | [],acc,n,s4,_,_,h=>⟨acc,n,s4,rfl,rfl,h⟩
 |k::ks,acc,n,s4,hl,hk,h=>by
  have hk0:=hk k List.mem_cons_self
  have hl0:acc.length<16777216:=by simp at hl;omega
  rw[List.map_cons,forL]
  have hg:gN 4 (PV.int (k:Int)) [.sh (.int c),s1,.ow (acc.map .int),.sh (.int n),s4]=some [.sh (.int c),s1,.ow (acc.map .int),.sh (.int n),.sh (.int k)]:=rfl
  rw[hg]
  dsimp only
  by_cases h0:c % 2=0
  ·have e:lq [.sh (.int c),s1,.ow (acc.map .int),.sh (.int n),.sh (.int k)]=.ok .nx [.sh (.int c),s1,.ow ((acc ++ [n % 524287]).map .int),.sh (.int (n / 524287)),.sh (.int k)]:=by
    simp[lq,h0,hl0]
   rw[e]
   obtain⟨a,b,d,q1,q2,q3⟩:=Zx c s1 ks (acc ++ [n % 524287]) (n / 524287) (.sh (.int k)) (by simp at hl ⊢;omega) (λx hx=>hk x (List.mem_cons_of_mem _ hx)) (by
    intro x hx
    rcases List.mem_append.mp hx with hx|hx
    ·exact h x hx
    ·rw[List.mem_singleton.mp hx];unfold Gr;omega)
   exact⟨a,b,d,q1,by simp at q2 ⊢;omega,q3⟩
  ·obtain⟨m,hm⟩:∃m,(n*49157+24593+2*(k:Int)) % 8388593=m:=⟨_,rfl⟩
   have e:lq [.sh (.int c),s1,.ow (acc.map .int),.sh (.int n),.sh (.int k)]=.ok .nx [.sh (.int c),s1,.ow ((acc ++ [m / 16]).map .int),.sh (.int m),.sh (.int k)]:=by
    simp[lq,h0,hl0,hm]
   rw[e]
   obtain⟨a,b,d,q1,q2,q3⟩:=Zx c s1 ks (acc ++ [m / 16]) m (.sh (.int k)) (by simp at hl ⊢;omega) (λx hx=>hk x (List.mem_cons_of_mem _ hx)) (by
    intro x hx
    rcases List.mem_append.mp hx with hx|hx
    ·exact h x hx
    ·rw[List.mem_singleton.mp hx];unfold Gr;omega)
   exact⟨a,b,d,q1,by simp at q2 ⊢;omega,q3⟩
def Z0f(c:Int){n:Nat}(hn:n<=1000):∃xs:List Int,pG [.sh (.int c),.sh (.int n)]=.ret (.ow (xs.map .int))/\xs.length=n/\∀x∈xs,Gr x:=by
 have rr:=ZV hn
 by_cases h:c % 2=1
 ·obtain⟨a,b,d,q1,q2,q3⟩:=Zx c (.sh (.int n)) (List.range n) [] (c / 2 % 8388593) .no (by simp;omega) (λk hk=>by have:=List.mem_range.mp hk;omega) (by simp)
  refine⟨a,?_,by simpa using q2,q3⟩
  simp at q1
  simp[pG,zM,List.replicate,h,rr,q1]
 ·obtain⟨a,b,d,q1,q2,q3⟩:=Zx c (.sh (.int n)) (List.range n) [] (c / 2) .no (by simp;omega) (λk hk=>by have:=List.mem_range.mp hk;omega) (by simp)
  refine⟨a,?_,by simpa using q2,q3⟩
  simp at q1
  simp[pG,zM,List.replicate,h,rr,q1]
def Pl(x:Int):Prop:=-1000000000+50<=x/\x<=1000000000-50
def Zs(n:Int){w:Int}(h1:1<=w)(h2:w<=1000):∃x:Int,iY [.sh (.int n),.sh (.int w)]=.ret (.sh (.int x))/\Pl x:=by
 by_cases h:n / 512 % 16=5
 ·exact⟨n*3813 % 1999999901-1000000000+50,by simp[iY,zQ,List.replicate,h],by unfold Pl;omega⟩
 ·have m0:¬(2*w+9=0):=by omega
  have p:=Int.emod_nonneg n (show(2*w+9)≠0 by omega)
  have q:=Int.emod_lt_of_pos n (show 0<(2*w+9) by omega)
  have e:n.fmod (2*w+9)=n % (2*w+9):=Int.fmod_eq_emod_of_nonneg n (by omega)
  exact⟨n % (2*w+9)-4,by simp[iY,zQ,List.replicate,h,m0,e],by unfold Pl;omega⟩
def Z05(n:Int):∃x:Int,sy [.sh (.int n)]=.ret (.sh (.int x))/\1<=x/\x<=1000000000:=by
 by_cases h:n / 512 % 12=7
 ·exact⟨1+n*1907 % 1000000000,by simp[sy,zP,List.replicate,h],by omega,by omega⟩
 ·exact⟨1+n % 9,by simp[sy,zP,List.replicate,h],by omega,by omega⟩
def Z1a{x y h:Int}(a:Pl x)(b:Pl y)(c:1<=h/\h<=1000000000):Z5 "post" [x / 2,y / 2,h]=true:=by
 unfold Pl at a b
 unfold Z5 Zf Ŵ yu
 simp
 omega
def Kh{a b:String}(h:decide (Str.ofString a=Str.ofString b)=false):¬(Str.ofString a=Str.ofString b):=of_decide_eq_false h
def Z0T{x y u v h:Int}(a:Pl x)(b:Pl y)(hu: -4<=u/\u<=4)(hv: -4<=v/\v<=4)(c:1<=h/\h<=1000000000)(e:Int)(he:e=if u=0/\v=0 then 1 else 0):Z5 "fence" [x,y,x+u+e,y+v,h]=true:=by
 have h1:¬(Str.ofString "fence" =Str.ofString "post"):=Kh (by decide +kernel)
 unfold Pl at a b
 unfold Z5
 rw[if_neg h1,if_pos rfl]
 unfold Zd Zg Ŵ yu
 simp
 split at he<;>omega
def Z0s{w:Str}(hw:w= "sail" \/w= "house"){x y u v h:Int}(a:Pl x)(b:Pl y)(hu:0<=u/\u<=8)(hv:0<=v/\v<=8)(c:1<=h/\h<=1000000000):Z5 w [x,y,x+1+u,y+1+v,h]=true:=by
 have hb:Za [x,y,x+1+u,y+1+v,h]=true:=by
  unfold Pl at a b
  unfold Za Zg Ŵ yu
  simp
  omega
 unfold Z5
 rcases hw with rfl|rfl
 ·rw[if_neg (Kh (by decide +kernel)),if_neg (Kh (by decide +kernel)),if_pos rfl]
  exact hb
 ·rw[if_neg (Kh (by decide +kernel)),if_neg (Kh (by decide +kernel)),if_neg (Kh (by decide +kernel)),if_neg (Kh (by decide +kernel)),if_pos rfl]
  exact hb
def Z0U{x y z a b c d e f:Int}(h1:Pl x)(h2:Pl y)(h3:0<=z/\z<=1000000000)(h4:Pl a)(h5:Pl b)(h6:1<=c/\c<=1000000000)(h7:Pl d)(h8:Pl e)(h9:1<=f/\f<=1000000000):Z5 "cloth" [x,y,z,a,b,c,d,e,f]=true:=by
 unfold Z5
 rw[if_neg (Kh (by decide +kernel)),if_neg (Kh (by decide +kernel)),if_neg (Kh (by decide +kernel)),if_pos rfl]
 unfold Pl at *
 unfold Ze Ŵ yx
 simp
 omega
theorem Z2z:∀(xs:List Int),xs.length=14->∃a b c d e f g h i j k l m n,xs=[a,b,c,d,e,f,g,h,i,j,k,l,m,n]
 | [a,b,c,d,e,f,g,h,i,j,k,l,m,n],_=>⟨a,b,c,d,e,f,g,h,i,j,k,l,m,n,rfl⟩
def Z2A(x y:Hu.Pt):Œ (pt x) (pt y)=some (.bl (decide (x=y))):=by
 unfold Œ qN
 rw[ZP,ZP,ZK,ZK,Z0n]
 rfl
def Z0t:bI [.int 2]=some [.int 0,.int 1]:=by rfl
def Z1b(c:Int){w:Int}(hw1:1<=w)(hw2:w<=1000):∃t:Th,iZ [.sh (.int c),.sh (.int w)]=.ret (.sh (.tup [.str t.1,.lst (t.2.map .int)]))/\Z5 t.1 t.2=true:=by
 obtain⟨xs,eg,hl,hx⟩:=Z0f c (n:=14) (by omega)
 obtain⟨x0,x1,x2,x3,x4,x5,x6,x7,x8,x9,x10,x11,x12,x13,rfl⟩:=Z2z xs hl
 clear hl hx
 obtain⟨p0,e0,q0⟩:=Zs x0 hw1 hw2
 obtain⟨p1,e1,q1⟩:=Zs x1 hw1 hw2
 obtain⟨z,ez,qz⟩:=Z05 x2
 have eg':pG [.sh (.int c),.sh (.int 14)]=.ret (.ow [.int x0,.int x1,.int x2,.int x3,.int x4,.int x5,.int x6,.int x7,.int x8,.int x9,.int x10,.int x11,.int x12,.int x13]):=eg
 clear eg
 have hc:ĸ (gN 2) ő (Đ (Ē iY (đ (ą Ė (Ā 1) (Ā 2)) (Ć 0 ď)))) [PV.int 0,PV.int 1] [.sh (.int w),.bw [.int x0,.int x1,.int x2,.int x3,.int x4,.int x5,.int x6,.int x7,.int x8,.int x9,.int x10,.int x11,.int x12,.int x13],.no] []=some [.int p0,.int p1]:=by
  simp[ĸ,e0,e1]
 have k:0<=x3 % 5/\x3 % 5<5:=by omega
 obtain⟨kd,hkd⟩:∃kd,x3 % 5=kd:=⟨_,rfl⟩
 rw[hkd] at k
 by_cases k0:kd=0
 ·refine⟨("post",[p0 / 2,p1 / 2,z]),?_,Z1a q0 q1 qz⟩
  simp[iZ,lu,List.replicate,eg',Z0t,hc,ez,hkd,k0]
 ·by_cases k1:kd=1
  ·refine⟨("fence",[p0,p1,p0+(x4 % 9-4)+(if x4 % 9-4=0/\x5 % 9-4=0 then 1 else 0),p1+(x5 % 9-4),z]),?_,Z0T q0 q1 (by omega) (by omega) qz _ rfl⟩
   have hq:=Z2A (p0,p1) (p0+x4 % 9-4,p1+x5 % 9-4)
   unfold pt at hq
   dsimp only at hq
   have hi:(if x4 % 9-4=0/\x5 % 9-4=0 then(1:Int) else 0)=if decide ((p0,p1)=(p0+x4 % 9-4,p1+x5 % 9-4))=true then 1 else 0:=by
    simp only[decide_eq_true_eq,Prod.mk.injEq]
    split<;>split<;>omega
   generalize decide ((p0,p1)=(p0+x4 % 9-4,p1+x5 % 9-4))=bb at *
   have a1:p0+(x4 % 9-4)=p0+x4 % 9-4:=by omega
   have a2:p1+(x5 % 9-4)=p1+x5 % 9-4:=by omega
   rw[a1,a2,hi]
   cases bb<;>simp[iZ,lu,List.replicate,eg',Z0t,hc,ez,hkd,k1,hq]
  ·by_cases k2:kd=2
   ·obtain⟨p7,e7,q7⟩:=Zs x7 hw1 hw2
    obtain⟨p8,e8,q8⟩:=Zs x8 hw1 hw2
    obtain⟨p9,e9,q9⟩:=Zs x9 hw1 hw2
    obtain⟨p10,e10,q10⟩:=Zs x10 hw1 hw2
    obtain⟨z2,ez2,qz2⟩:=Z05 x11
    refine⟨("cloth",[p0,p1,x6 % 10,p7,p8,z,p9,p10,z2]),?_,Z0U q0 q1 (by omega) q7 q8 qz q9 q10 qz2⟩
    simp[iZ,lu,List.replicate,eg',Z0t,hc,ez,hkd,k2,e7,e8,e9,e10,ez2,add_l]
   ·by_cases k3:kd=3
    ·refine⟨("sail",[p0,p1,p0+1+x4 % 8,p1+1+x5 % 8,z]),?_,Z0s (.inl rfl) q0 q1 (by omega) (by omega) qz⟩
     simp[iZ,lu,List.replicate,eg',Z0t,hc,ez,hkd,k3]
    ·have k4:kd=4:=by omega
     refine⟨("house",[p0,p1,p0+1+x4 % 8,p1+1+x5 % 8,z]),?_,Z0s (.inr rfl) q0 q1 (by omega) (by omega) qz⟩
     simp[iZ,lu,List.replicate,eg',Z0t,hc,ez,hkd,k4]
def Z22{α:Type}(xs:List α)(a b:Nat)(h1:a<=b)(h2:b<=xs.length):bf xs (some (a:Int)) (some (b:Int))=(xs.drop a).take (b-a):=by
 unfold bf
 rw[HT.nF,HT.nF,Nat.min_eq_left h2,Nat.min_eq_left (Nat.le_trans h1 h2)]
theorem Z2C:∀(xs:List Int),xs.length=5->∃a b c d e,xs=[a,b,c,d,e]
 | [a,b,c,d,e],_=>⟨a,b,c,d,e,rfl⟩
def Z2n{xs:List Int}(h:xs.length=5):∃o:Option P3,pH [.sh (.lst (xs.map .int))]=.ret (.sh (lN o))/\Om o:=by
 obtain⟨a,b,c,d,e,rfl⟩:=Z2C xs h
 by_cases he:e % 6=4
 ·exact⟨none,by simp[pH,zN,List.replicate,he,lN],trivial⟩
 ·have a1:0<=a % 13/\a % 13<13:=by omega
  have b1:0<=b % 13/\b % 13<13:=by omega
  have c1:0<=c % 5/\c % 5<5:=by omega
  have go:∀s:Int,(s=1\/s=3\/s=100000)->Ė (.lst [.int 1,.int 1,.int 3,.int 100000]) (.int (d % 4))=some (.int s)->∃o:Option P3,pH [.sh (.lst ([a,b,c,d,e].map .int))]=.ret (.sh (lN o))/\Om o:=by
   intro s hs hx
   have m1:∀x:Int,ĺ x s=true:=λx=>mul_r (by omega) (by omega)
   refine⟨some ((a % 13-6)*s,(b % 13-6)*s,(1+c % 5)*s),?_,?_⟩
   ·simp[pH,zN,List.replicate,he,lN,hx,m1,c3]
   ·rcases hs with rfl|rfl|rfl<;>refine⟨⟨?_,?_,?_,?_,?_,?_⟩,?_⟩<;>dsimp only<;>omega
  have hd:d % 4=0\/d % 4=1\/d % 4=2\/d % 4=3:=by omega
  rcases hd with hd|hd|hd|hd
  ·exact go 1 (by omega) (by rw[hd];rfl)
  ·exact go 1 (by omega) (by rw[hd];rfl)
  ·exact go 3 (by omega) (by rw[hd];rfl)
  ·exact go 100000 (by omega) (by rw[hd];rfl)
def Z1B(t:Int)(h:0<=t)(h2:t<12)(N:List Str)(hN:N.length=12):∃L:List Str,ğ (.lst (bf (N.map PV.str) (some t) none)) (.lst (bf (N.map PV.str) none (some t)))=some (.ow (L.map .str))/\L.length=12:=by
 obtain⟨k,rfl⟩:=Int.eq_ofNat_of_zero_le h
 have e1:bf (N.map PV.str) (some (k:Int)) none=(N.drop k).map PV.str:=by
  unfold bf
  rw[HT.nF,List.length_map,Nat.min_eq_left (by omega)]
  show List.take (N.length-k) _=_
  rw[<-List.map_drop]
  exact List.take_of_length_le (by simp)
 have e2:bf (N.map PV.str) none (some (k:Int))=(N.take k).map PV.str:=by
  unfold bf
  rw[HT.nF,List.length_map,Nat.min_eq_left (by omega)]
  show List.take (k-0) (List.drop 0 _)=_
  simp[List.map_take]
 rw[e1,e2,add_l (by simp;omega)]
 exact⟨N.drop k++N.take k,by simp,by simp;omega⟩
def ZR(lg:Nat)(d:Dy):Prop:=(1<=d.2.1/\d.2.1<=1000000000)/\(1<=d.2.2.length/\d.2.2.length<=lg)/\∀o∈d.2.2,Om o
def sl5{xs:List Int}{n lg j:Nat}(hl:xs.length=5*lg+2)(hj:j<lg):∃ys:List Int,bf (xs.map PV.int) (some (2+5*(j:Int))) (some (7+5*(j:Int)))=ys.map .int/\ys.length=5:=by
 refine⟨(xs.drop (2+5*j)).take 5,?_,by simp;omega⟩
 have:=Z22 (xs.map PV.int) (2+5*j) (7+5*j) (by omega) (by simp;omega)
 have e1:((2+5*j:Nat):Int)=2+5*(j:Int):=by omega
 have e2:((7+5*j:Nat):Int)=7+5*(j:Int):=by omega
 rw[e1,e2] at this
 rw[this,List.map_take,List.map_drop]
 congr 1
 omega
theorem Z0u{xs:List Int}{lg:Nat}(hl:xs.length=5*lg+2)(Ka:lg<=100):∀(js:List Nat),(∀j∈js,j<lg)->∀(acc:List PV) (s1:P.Slot),acc.length+js.length<=1000->∃os:List (Option P3),ĸ (gN 1) ő (Đ (Ē pH (đ (Đ (Ej (Ā 0) (mP (Đ (ġ ğ (mC (.int 2)) (ą Ĥ (mC (.int 5)) (Ā 1))))) (mP (Đ (ġ ğ (mC (.int 7)) (ą Ĥ (mC (.int 5)) (Ā 1))))))) ď))) (js.map λ(i:Nat)=>PV.int (i:Int)) [.bw (xs.map .int),s1] acc=some (acc++os.map lN)/\os.length=js.length/\∀o∈os,Om o
 | [],_,acc,s1,_=>⟨[],by simp[ĸ],rfl,by simp⟩
 |j::js,hj,acc,s1,ha=>by
  obtain⟨ys,e1,e2⟩:=sl5 (n:=0) hl (hj j List.mem_cons_self)
  obtain⟨o,e3,e4⟩:=Z2n e2
  obtain⟨os,q1,q2,q3⟩:=Z0u hl Ka js (λx hx=>hj x (List.mem_cons_of_mem _ hx)) (acc ++ [lN o]) (.sh (.int j)) (by simp at ha ⊢;omega)
  refine⟨o::os,?_,by simp[q2],?_⟩
  ·have hz:acc.length<16777216:=by simp at ha;omega
   generalize xs.map PV.int=X at *
   generalize ys.map PV.int=Y at *
   rw[List.map_cons,ĸ]
   simp[Pu,e1,e3,hz]
   simpa using q1
  ·intro x hx
   rcases List.mem_cons.mp hx with rfl|hx
   ·exact e4
   ·exact q3 x hx
def Z1C(ns:List Int){k lg:Nat}(hk:k<12)(Ka:lg<=100)(hl0:0<lg){L:List Str}(hL:L.length=12)(s2 s5 s8 s9:P.Slot)(D:List Dy)(hD:D.length<=12) :
 ∃(d:Dy) (Ek El:P.Slot),uL [.sh (.lst (ns.map .int)),.sh (.int 7),s2,.sh (.int lg),.ow (L.map .str),s5,.ow (D.map bW),.sh (.int k),s8,s9]=.ok .nx [.sh (.lst (ns.map .int)),.sh (.int 7),s2,.sh (.int lg),.ow (L.map .str),s5,.ow ((D ++ [d]).map bW),.sh (.int k),Ek,El]/\ZR lg d:=by
 have ha:=Zu ns (7+k)
 have e6:((7+k:Nat):Int)=7+(k:Int):=by omega
 rw[e6] at ha
 obtain⟨v,hv⟩:∃v,ns.getD (7+k) 0=v:=⟨_,rfl⟩
 rw[hv] at ha
 obtain⟨xs,eg,hl,hx⟩:=Z0f (v / 12+5*k) (n:=5*lg+2) (by omega)
 have el:((5*lg+2:Nat):Int)=5*(lg:Int)+2:=by omega
 rw[el] at eg
 have x0:∃a,(xs.map PV.int)[0]?=some (.int a):=⟨xs[0],by simp⟩
 have x1:∃b,(xs.map PV.int)[1]?=some (.int b):=⟨xs[1],by simp⟩
 obtain⟨a,x0⟩:=x0
 obtain⟨b,x1⟩:=x1
 have hm:¬((lg:Int)=0):=by omega
 have hm2:¬lg=0:=by omega
 have hf:b.fmod (lg:Int)=b % lg:=Int.fmod_eq_emod_of_nonneg b (by omega)
 have b1:=Int.emod_nonneg b hm
 have b2:=Int.emod_lt_of_pos b (show 0<(lg:Int) by omega)
 obtain⟨m,hmm⟩:∃m:Nat,1+b % lg=(m:Int):=⟨(1+b % lg).toNat,by omega⟩
 have rr:=ZV (n:=m) (by omega)
 obtain⟨os,q1,q2,q3⟩:=Z0u hl Ka (List.range m) (λj hj=>by have:=List.mem_range.mp hj;omega) [] .no (by simp;omega)
 have hLk:(L.map PV.str)[k]?=some (.str L[k]):=by simp[hL,hk]
 refine⟨(L[k],1+a*1907 % 1000000000,os),.ow (xs.map .int),.sh (.lst (os.map lN)),?_,⟨by dsimp only;omega,by simp at q2;dsimp only;omega,q3⟩⟩
 have hz:D.length<16777216:=by omega
 rw[List.nil_append] at q1
 have hdl:(D.map bW).length=D.length:=by simp
 generalize ns.map PV.int=NS at *
 generalize xs.map PV.int=XS at *
 generalize L[k]=nm at *
 generalize hLL:L.map PV.str=LS at *
 have hmp:(D ++ [((nm,1+a*1907 % 1000000000,os):Dy)]).map bW=D.map bW ++ [.tup [.str nm,.int (1+a*1907 % 1000000000),.lst (os.map lN)]]:=by simp[bW]
 rw[hmp]
 generalize D.map bW=DS at *
 generalize hos:os.map lN=OS at *
 rw[<-hdl] at hz
 simp[uL,ha,eg,x0,x1,hm2,hf,hmm,rr,q1,hLk,hz,-Z04]
theorem Z0g(ns:List Int){n lg:Nat}(Ka:lg<=100)(hl0:0<lg){L:List Str}(hL:L.length=12){v:Int}:∀(ks:List Nat),(∀k∈ks,k<12)->∀(D:List Dy) (s7 s8 s9:P.Slot),D.length+ks.length<=12->(∀d∈D,ZR lg d)->∃ρ',forL (gN 7) uL (ks.map λ(i:Nat)=>PV.int (i:Int)) [.sh (.lst (ns.map .int)),.sh (.int 7),.sh (.int n),.sh (.int lg),.ow (L.map .str),.sh (.int v),.ow (D.map bW),s7,s8,s9]=.ok .nx ρ'/\∃(D':List Dy) (s7 s8 s9:P.Slot),ρ'=[.sh (.lst (ns.map .int)),.sh (.int 7),.sh (.int n),.sh (.int lg),.ow (L.map .str),.sh (.int v),.ow (D'.map bW),s7,s8,s9]/\D'.length=D.length+ks.length/\∀d∈D',ZR lg d
 | [],_,D,s7,s8,s9,_,h=>⟨_,rfl,D,s7,s8,s9,rfl,rfl,h⟩
 |k::ks,hk,D,s7,s8,s9,hl,h=>by
  obtain⟨d,Ek,El,e,hd⟩:=Z1C ns (hk k List.mem_cons_self) Ka hl0 hL (.sh (.int n)) (.sh (.int v)) s8 s9 D (by simp at hl;omega)
  obtain⟨ρ',q1,D',a,b,c,q2,q3,q4⟩:=Z0g ns (n:=n) Ka hl0 hL (v:=v) ks (λx hx=>hk x (List.mem_cons_of_mem _ hx)) (D ++ [d]) (.sh (.int k)) Ek El (by simp at hl ⊢;omega) (by
   intro x hx
   rcases List.mem_append.mp hx with hx|hx
   ·exact h x hx
   ·rw[List.mem_singleton.mp hx];exact hd)
  refine⟨ρ',?_,D',a,b,c,q2,by simp at q3 ⊢;omega,q4⟩
  rw[List.map_cons,forL]
  have hg:gN 7 (PV.int (k:Int)) [.sh (.lst (ns.map .int)),.sh (.int 7),.sh (.int n),.sh (.int lg),.ow (L.map .str),.sh (.int v),.ow (D.map bW),s7,s8,s9]=some [.sh (.lst (ns.map .int)),.sh (.int 7),.sh (.int n),.sh (.int lg),.ow (L.map .str),.sh (.int v),.ow (D.map bW),.sh (.int k),s8,s9]:=rfl
  rw[hg]
  dsimp only
  rw[e]
  exact q1
def Z23(ns:List Int){n lg:Nat}(hn:n<=12)(Ka:lg<=100)(hl0:0<lg):∃D:List Dy,xr [.sh (.lst (ns.map .int)),.sh (.int 7),.sh (.int n),.sh (.int lg)]=.ret (.ow (D.map bW))/\D.length=n/\∀d∈D,ZR lg d:=by
 have h6:ų [.sh (.lst (ns.map .int)),.sh (.int 7)]=.ret (.sh (.int (ns.getD 7 0))):=Zu ns 7
 obtain⟨v,hv⟩:∃v,ns.getD 7 0=v:=⟨_,rfl⟩
 rw[hv] at h6
 obtain⟨L,e1,hL⟩:=Z1B (v % 12) (by omega) (by omega) [Str.ofString "ab",Str.ofString "a",Str.ofString "abc",Str.ofString "b",Str.ofString "ba",Str.ofString "z",Str.ofString "zz",Str.ofString "zzz",Str.ofString "abcdefgh",Str.ofString "abcdefgi",Str.ofString "aa",Str.ofString "bb"] rfl
 obtain⟨ρ',q1,D,s7,s8,s9,rfl,q2,q3⟩:=Z0g ns (n:=n) Ka hl0 hL (v:=v % 12) (List.range n) (λk hk=>by have:=List.mem_range.mp hk;omega) [] .no .no .no (by simp;omega) (by simp)
 have rr:=ZV (n:=n) (by omega)
 refine⟨D,?_,by simpa using q2,q3⟩
 generalize ns.map PV.int=NS at *
 simp only[List.map_cons,List.map_nil] at e1
 simp only[List.map_nil] at q1
 generalize D.map bW=DS at *
 generalize L.map PV.str=LS at *
 simp[xr,Ia,List.replicate,Pu,h6,e1,rr,q1,-Z04]
def Z1D(c:Int):∃w h:Nat,iW [.sh (.int c),.sh (.int 9)]=.ret (.sh (.tup [.int w,.int h]))/\1<=w/\w<=20/\1<=h/\h<=20/\w*h<=20:=by
 by_cases h0:c / 7 % 16=11
 ·have hd:c % 2=0\/c % 2=1:=by omega
  rcases hd with hd|hd
  ·exact⟨1,20,by simp[iW,gD,List.replicate,h0,hd],by omega,by omega,by omega,by omega,by omega⟩
  ·exact⟨20,1,by simp[iW,gD,List.replicate,h0,hd],by omega,by omega,by omega,by omega,by omega⟩
 ·have hd:c % 5=0\/c % 5=1\/c % 5=2\/c % 5=3\/c % 5=4:=by omega
  rcases hd with hd|hd|hd|hd|hd
  ·obtain⟨h,hh⟩:∃h:Nat,1+c / 5 % 4=(h:Int):=⟨(1+c / 5 % 4).toNat,by omega⟩
   exact⟨1,h,by simp[iW,gD,List.replicate,h0,hd,hh],by omega,by omega,by omega,by omega,by omega⟩
  ·obtain⟨h,hh⟩:∃h:Nat,1+c / 5 % 4=(h:Int):=⟨(1+c / 5 % 4).toNat,by omega⟩
   exact⟨2,h,by simp[iW,gD,List.replicate,h0,hd,hh],by omega,by omega,by omega,by omega,by omega⟩
  ·obtain⟨h,hh⟩:∃h:Nat,1+c / 5 % 3=(h:Int):=⟨(1+c / 5 % 3).toNat,by omega⟩
   exact⟨3,h,by simp[iW,gD,List.replicate,h0,hd,hh],by omega,by omega,by omega,by omega,by omega⟩
  ·obtain⟨h,hh⟩:∃h:Nat,1+c / 5 % 2=(h:Int):=⟨(1+c / 5 % 2).toNat,by omega⟩
   exact⟨4,h,by simp[iW,gD,List.replicate,h0,hd,hh],by omega,by omega,by omega,by omega,by omega⟩
  ·exact⟨5,1,by simp[iW,gD,List.replicate,h0,hd],by omega,by omega,by omega,by omega,by omega⟩
def oV:Option Int->PV
 |none=>.non
 |some c=>.int c
def Z6(N:Nat)(f:Nat->Option Int):List PV:=(List.range N).map λn=>oV (f n)
def ZS{N n:Nat}{f:Nat->Option Int}(h:n<N):Ė (.lst (Z6 N f)) (.int n)=some (oV (f n)):=by
 unfold Z6
 simp[h]
def Z00(x y w:Int)(h:ĺ y w=true):pO [.sh (.tup [.int x,.int y]),.sh (.int w)]=.ret (.sh (.int (y*w+x))):=by
 simp[pO,Ih,List.replicate,h]
def Z0I{n w:Nat}(hw:0<w)(hw2:w<=1000):sW [.sh (.int n),.sh (.int w)]=.ret (.sh (.tup [.int (n % w:Nat),.int (n / w:Nat)])):=by
 have h0:¬(w:Int)=0:=by omega
 have e1:Int.fmod (n:Int) (w:Int)=((n % w:Nat):Int):=by
  rw[Int.fmod_eq_emod_of_nonneg _ (by omega)];simp
 have e2:Int.fdiv (n:Int) (w:Int)=((n / w:Nat):Int):=by
  rw[Int.fdiv_eq_ediv_of_nonneg _ (by omega)];simp
 have e3:iR (n:Int) (w:Int)=true:=BR (by omega) (Nat.le_trans (nU (n:=200) (by omega) (by omega)) (by decide))
 have h1:¬w=0:=by omega
 simp[sW,Ja,List.replicate,h0,h1,e1,e2,e3]
def Z0h{w h:Nat}{T:List Th}(D:List Dy){x y:Int}(hx:¬((0<=x/\x<w)/\(0<=y/\y<h))):eX [.sh (Z0 w h T D),.sh (.tup [.int x,.int y])]=.ret (.sh (.bl false)):=by
 have yw:=Em w h T D
 have yh:=Ol w h T D
 generalize Z0 w h T D=Yv at *
 by_cases a1:0<=x
 ·by_cases a2:x<(w:Int)
  ·by_cases a3:0<=y
   ·have a4:¬y<(h:Int):=λa4=>hx ⟨⟨a1,a2⟩,a3,a4⟩
    simp[eX,lB,List.replicate,yw,yh,a1,a2,a3,a4]
   ·simp[eX,lB,List.replicate,yw,yh,a1,a2,a3]
  ·simp[eX,lB,List.replicate,yw,yh,a1,a2]
 ·simp[eX,lB,List.replicate,yw,yh,a1]
def Z06{w h:Nat}{T:List Th}(D:List Dy){x y:Int}(hx:(0<=x/\x<w)/\(0<=y/\y<h)):eX [.sh (Z0 w h T D),.sh (.tup [.int x,.int y])]=.ret (.sh (.bl true)):=by
 have yw:=Em w h T D
 have yh:=Ol w h T D
 generalize Z0 w h T D=Yv at *
 obtain⟨⟨a1,a2⟩,a3,a4⟩:=hx
 simp[eX,lB,List.replicate,yw,yh,a1,a2,a3,a4]
def Z0V{w h:Nat}{T:List Th}{D:List Dy}{i:Nat}(hi:i<D.length):Cg [.sh (Z0 w h T D),.sh (.int i)]=.ret (.sh (.lst (D[i].2.2.map lN))):=by
 have yd:=y_d w h T D
 have hx:(D.map bW)[i]?=some (bW D[i]):=by simp[hi]
 generalize Z0 w h T D=Yv at *
 generalize D.map bW=DV at *
 simp[Cg,Ii,List.replicate,yd,hx]
 simp[bW]
def Z24{w h:Nat}{T:List Th}{D:List Dy}(d:Int):jO [.sh (Z0 w h T D),.sh (.int d)]=.ret (.sh (.bl (decide (0<=d/\d<D.length)))):=by
 have yd:=y_d w h T D
 have hl:(D.map bW).length=D.length:=by simp
 rw[<-hl]
 generalize Z0 w h T D=Yv at *
 generalize D.map bW=DV at *
 by_cases a1:0<=d
 ·by_cases a2:d<(DV.length:Int)
  ·simp[jO,lE,List.replicate,yd,a1,a2]
  ·simp[jO,lE,List.replicate,yd,a1,a2]
 ·simp[jO,lE,List.replicate,yd,a1]
def Zv:List (Int×Int):=[(-1,0),(1,0),(0,-1),(0,1),(0,0)]
def inB(w h:Nat)(p:Int×Int):Bool:=decide ((0<=p.1/\p.1<w)/\(0<=p.2/\p.2<h))
def yC(w h n:Nat):List Nat:=((Zv.map λd=>(((n % w:Nat):Int)+d.1,((n / w:Nat):Int)+d.2)).filter (inB w h)).map λp:Int×Int=>(p.2*(w:Int)+p.1).toNat
def Z07{w h n m:Nat}(hm:m∈yC w h n):m<w*h:=by
 unfold yC at hm
 obtain⟨p,hp,rfl⟩:=List.mem_map.mp hm
 obtain⟨_,hp⟩:=List.mem_filter.mp hp
 have hp:=of_decide_eq_true hp
 obtain⟨⟨h1,h2⟩,h3,h4⟩:=hp
 have h5:p.2*(w:Int)+p.1<h*w:=by
  have:(p.2+1)*(w:Int)<=h*w:=Int.mul_le_mul_of_nonneg_right (by omega) (by omega)
  rw[Int.add_mul] at this
  omega
 have h6:0<=p.2*(w:Int):=Int.mul_nonneg h3 (by omega)
 have h7:((w*h:Nat):Int)=(h:Int)*w:=by rw[Int.natCast_mul,Int.mul_comm]
 omega
def Z1c{w h:Nat}{T:List Th}(D:List Dy)(x y:Int):eX [.sh (Z0 w h T D),.sh (.tup [.int x,.int y])]=.ret (.sh (.bl (inB w h (x,y)))):=by
 by_cases hx:(0<=x/\x<w)/\(0<=y/\y<h)
 ·rw[Z06 D hx,show inB w h (x,y)=true from decide_eq_true hx]
 ·rw[Z0h D hx,show inB w h (x,y)=false from decide_eq_false hx]
def aro(w n:Nat):List (Int×Int):=Zv.map λd=>(((n % w:Nat):Int)+d.1,((n / w:Nat):Int)+d.2)
def Z2o(x y:Int):ĸ (gT 2 (Ĩ (gN 1) (Ĩ (gN 2) aL))) ő (Ŀ (Ą (Đ (ġ ğ (ą Ė (Ā 0) (mC (.int 0))) (Ā 1))) (Ą (Đ (ġ ğ (ą Ė (Ā 0) (mC (.int 1))) (Ā 2))) ę))) [.tup [.int (-1),.int 0],.tup [.int 1,.int 0],.tup [.int 0,.int (-1)],.tup [.int 0,.int 1],.tup [.int 0,.int 0]] [.sh (.tup [.int x,.int y]),.no,.no] []=some ((Zv.map λd=>(x+d.1,y+d.2)).map λp:Int×Int=>PV.tup [.int p.1,.int p.2]):=by
 simp[ĸ,Zv]
def Z0v{a b:Int}(h1: -(2 ^ 60)<a)(h2:a<2 ^ 60)(h3: -(2 ^ 60)<b)(h4:b<2 ^ 60):ĺ a b=true:=aF (by omega) (by omega)
def Z1d{w h:Nat}(hw:0<w)(hw2:w<=1000)(hh:h<=1000)(T:List Th)(D:List Dy){n:Nat}(hn:n<w*h):NP [.sh (Z0 w h T D),.sh (.int n)]=.ret (.ow ((yC w h n).map λ(m:Nat)=>PV.int m)):=by
 have yw:=Em w h T D
 have e1:=Z0I (n:=n) hw hw2
 have e2:=Z2o ((n % w:Nat):Int) ((n / w:Nat):Int)
 have hnw:n / w<h:=(Z1N hw).mpr hn
 have e3:=Ż (g:=gN 1) (mt:=cU (Đ (Ē eX (Ć 0 (Ć 1 ď))))) (me:=Đ (Ē pO (Ć 1 (đ (aK (ń ["Yard"] "width") (Ā 0)) ď)))) (λp:Int×Int=>PV.tup [.int p.1,.int p.2]) (λp:Int×Int=>PV.int (p.2*(w:Int)+p.1)) (inB w h) (λρ=>∃a,ρ=[.sh (Z0 w h T D),a]) (aro w n) [.sh (Z0 w h T D),.no] [] ⟨_,rfl⟩ (by simp[aro,Zv]) (by
  rintro p _ ρ ⟨a,rfl⟩
  have hs:=Z1c (w:=w) (h:=h) (T:=T) D p.1 p.2
  refine⟨[.sh (Z0 w h T D),.sh (.tup [.int p.1,.int p.2])],[.sh (Z0 w h T D),.sh (.tup [.int p.1,.int p.2])],by simp,by simp[hs],λ_=>⟨_,rfl⟩,λhq=>⟨[.sh (Z0 w h T D),.sh (.tup [.int p.1,.int p.2])],?_,_,rfl⟩⟩
  obtain⟨⟨h1,h2⟩,h3,h4⟩:=of_decide_eq_true hq
  have en:=Z00 p.1 p.2 w (Z0v (by omega) (by omega) (by omega) (by omega))
  simp[yw,en])
 have e4:((aro w n).filter (inB w h)).map (λp:Int×Int=>PV.int (p.2*(w:Int)+p.1))=(yC w h n).map λ(m:Nat)=>PV.int m:=by
  unfold yC
  rw[List.map_map]
  refine List.map_congr_left λp hp=>?_
  obtain⟨_,hp⟩:=List.mem_filter.mp hp
  obtain⟨⟨h1,h2⟩,h3,h4⟩:=of_decide_eq_true hp
  have h6:0<=p.2*(w:Int):=Int.mul_nonneg h3 (by omega)
  show PV.int _=PV.int _
  congr 1
  show p.2*(w:Int)+p.1=(((p.2*(w:Int)+p.1).toNat:Nat):Int)
  omega
 rw[List.nil_append,e4] at e3
 have e5:(aro w n).map (λp:Int×Int=>PV.tup [.int p.1,.int p.2])=(Zv.map λd=>(((n % w:Nat):Int)+d.1,((n / w:Nat):Int)+d.2)).map λp:Int×Int=>PV.tup [.int p.1,.int p.2]:=rfl
 rw[<-e5] at e2
 generalize (yC w h n).map (λ(m:Nat)=>PV.int m)=B at *
 generalize (aro w n).map (λp:Int×Int=>PV.tup [.int p.1,.int p.2])=A at *
 generalize ((n % w:Nat):Int)=x at *
 generalize ((n / w:Nat):Int)=y at *
 generalize Z0 w h T D=Yv at *
 simp[NP,Rv,List.replicate,fH,Ŭ,yw,e1,e2,e3]
def Vz(k:Nat->Int):Nat->List Nat->Nat
 |m,[]=>m
 |m,q::qs=>if k q<k m then Vz k q qs else Vz k m qs
def Z0W(k:Nat->Int):List Nat->Option Nat
 | []=>none
 |m::ms=>some (Vz k m ms)
def oN:Option Nat->PV
 |none=>.non
 |some m=>.int (m:Nat)
theorem Z01(k:Nat->Int):∀(ms:List Nat) (m:Nat),cC (.int m) (k m) (ms.map λ(m:Nat)=>PV.int m) (ms.map k)=.int (Vz k m ms)
 | [],m=>rfl
 |q::qs,m=>by
  rw[List.map_cons,List.map_cons,cC,Vz]
  split
  ·exact Z01 k qs q
  ·exact Z01 k qs m
def Z25(k:Nat->Int)(l:List Nat):gC (l.map λ(m:Nat)=>PV.int m) (l.map k)=some (oN (Z0W k l)):=by
 cases l with
 |nil=>rfl
 |cons m ms=>
  show some (cC _ _ _ _)=_
  rw[Z01]
  rfl
theorem Z08(k:Nat->Int):∀(ms:List Nat) (m:Nat),Vz k m ms∈m::ms
 | [],m=>by simp[Vz]
 |q::qs,m=>by
  rw[Vz]
  split
  ·exact List.mem_cons_of_mem _ (Z08 k qs q)
  ·have:=Z08 k qs m
   rcases List.mem_cons.mp this with e|e
   ·rw[e];exact List.mem_cons_self
   ·exact List.mem_cons_of_mem _ (List.mem_cons_of_mem _ e)
def Z0w{k:Nat->Int}{l:List Nat}{m:Nat}(h:Z0W k l=some m):m∈l:=by
 cases l with
 |nil=>cases h
 |cons a as=>cases h;exact Z08 k as a
def Z09(f:Nat->Option Int)(l:List Nat):List Nat:=l.filter λm=>(f m).isSome
def ZG(w h:Nat)(f:Nat->Option Int)(n:Nat):Option Nat:=Z0W (λm=>(f m).getD 0) (Z09 f (yC w h n))
theorem Z1e{N:Nat}{f:Nat->Option Int}{s2:P.Slot}(h2:Sl s2 (Z6 N f))(z0 z1 z3:P.Slot):∀l:List Nat,(∀m∈l,m<N/\(f m).isSome=true)->wU [2] (ą Ė (Ā 0) (Ā 1)) [z0,z1,s2,z3] (l.map λ(m:Nat)=>PV.int m)=some (l.map λm=>(f m).getD 0)
 | [],_=>rfl
 |m::l,h=>by
  obtain⟨h3,h4⟩:=h m List.mem_cons_self
  have ih:=Z1e h2 z0 z1 z3 l λq hq=>h q (List.mem_cons_of_mem _ hq)
  have rg:=ZS (f:=f) h3
  obtain⟨c,hc⟩:=Option.isSome_iff_exists.mp h4
  rw[hc] at rg
  rw[List.map_cons,List.map_cons,wU]
  have e3:(ą Ė (Ā 0) (Ā 1)) (lamP [2] [z0,z1,s2,z3] (.int m))=.ok (.int c) [s2,.sh (.int m)]:=by
   generalize Z6 N f=R at *
   rcases h2 with rfl|rfl<;>simp[lamP,Ŭ,rg,oV]
  rw[e3]
  dsimp only
  rw[ih,hc]
  rfl
def Z0J{w h:Nat}(hw:0<w)(hw2:w<=1000)(hh:h<=1000)(T:List Th)(D:List Dy){n:Nat}(hn:n<w*h){f:Nat->Option Int}{s2:P.Slot}(h2:Sl s2 (Z6 (w*h) f)):pP [.sh (Z0 w h T D),.sh (.int n),s2]=.ret (.sh (oN (ZG w h f n))):=by
 have e1:=Z1d hw hw2 hh T D hn
 have e2:=Ż (g:=gN 1) (mt:=cV (ą jG (ą Ė (Ā 0) (Ā 1)) (mC .non))) (me:=ě 1) (λ(m:Nat)=>PV.int m) (λ(m:Nat)=>PV.int m) (λm=>(f m).isSome) (λρ=>∃a,ρ=[Ŭ s2,a]) (yC w h n) [Ŭ s2,.no] [] ⟨_,rfl⟩ (by simp[yC];have:=List.length_filter_le (inB w h) (Zv.map λd=>(((n % w:Nat):Int)+d.1,((n / w:Nat):Int)+d.2));simp[Zv] at this;simp[Zv];omega) (by
  rintro m hm ρ ⟨a,rfl⟩
  have rg:=ZS (f:=f) (Z07 hm)
  generalize Z6 (w*h) f=R at *
  refine⟨[Ŭ s2,.sh (.int m)],[Ŭ s2,.sh (.int m)],by rcases h2 with rfl|rfl<;>simp[Ŭ],?_,λ_=>⟨_,rfl⟩,λ_=>⟨[Ŭ s2,.sh (.int m)],by rcases h2 with rfl|rfl<;>simp[Ŭ],_,rfl⟩⟩
  cases hc:f m with
  |none=>rw[hc] at rg;rcases h2 with rfl|rfl<;>simp[Ŭ,rg,oV,uh]
  |some c=>rw[hc] at rg;rcases h2 with rfl|rfl<;>simp[Ŭ,rg,oV,uh])
 rw[List.nil_append] at e2
 have e3:=Z1e h2 (.sh (Z0 w h T D)) (.sh (.int n)) (.ow ((Z09 f (yC w h n)).map λ(m:Nat)=>PV.int m)) (Z09 f (yC w h n)) (λm hm=>by
  obtain⟨h3,h4⟩:=List.mem_filter.mp hm
  exact⟨Z07 h3,h4⟩)
 have e4:=Z25 (λm=>(f m).getD 0) (Z09 f (yC w h n))
 have hl:Z09 f (yC w h n)=(yC w h n).filter λm=>(f m).isSome:=rfl
 rw[<-hl] at e2
 unfold ZG
 generalize Z09 f (yC w h n)=L at *
 generalize L.map (λ(m:Nat)=>PV.int m)=LV at *
 generalize L.map (λm=>(f m).getD 0)=LK at *
 generalize (yC w h n).map (λ(m:Nat)=>PV.int m)=B at *
 generalize Z0W (λm=>(f m).getD 0) L=r at *
 generalize Z0 w h T D=Yv at *
 generalize Z6 (w*h) f=R at *
 rcases h2 with rfl|rfl
 ·simp[Ŭ] at e2
  simp[pP,uQ,List.replicate,fH,Ŭ,e1,e2,e3,e4,zG]
 ·simp[Ŭ] at e2
  simp[pP,uQ,List.replicate,fH,Ŭ,e1,e2,e3,e4,zG]
def ZO(w h goal:Nat)(f:Nat->Option Int)(n:Nat):Option Int:=if n=goal then some 0 else(ZG w h f n).bind f
def Z2p{w h:Nat}(hw:0<w)(hw2:w<=1000)(hh:h<=1000)(T:List Th)(D:List Dy){n goal:Nat}(hn:n<w*h){f:Nat->Option Int}{s3:P.Slot}(h3:Sl s3 (Z6 (w*h) f)):sX [.sh (Z0 w h T D),.sh (.int n),.sh (.int goal),s3]=.ret (.sh (oV (ZO w h goal f n))):=by
 by_cases hg:n=goal
 ·subst hg
  have e:ZO w h n f n=some 0:=by simp[ZO]
  rw[e]
  generalize Z0 w h T D=Yv at *
  simp[sX,uR,List.replicate,oV]
 ·have hg':¬(n:Int)=(goal:Int):=by omega
  have e1:=Z0J hw hw2 hh T D hn h3
  have e:ZO w h goal f n=(ZG w h f n).bind f:=by simp[ZO,hg]
  rw[e]
  have hle:=h3.lend
  cases hb:ZG w h f n with
  |none=>
   rw[hb] at e1
   generalize Z0 w h T D=Yv at *
   generalize Z6 (w*h) f=R at *
   rcases h3 with rfl|rfl<;>simp[sX,uR,List.replicate,hg',e1,oN,oV,uh]
  |some m=>
   rw[hb] at e1
   have hm:m<w*h:=Z07 (List.mem_filter.mp (Z0w hb)).1
   have rg:=ZS (f:=f) hm
   show _=FR.ret (.sh (oV (f m)))
   generalize oV (f m)=V at *
   generalize Z0 w h T D=Yv at *
   generalize Z6 (w*h) f=R at *
   rcases h3 with rfl|rfl<;>simp[sX,uR,List.replicate,hg',e1,oN,oV,uh,rg]
def Z2q(B:Int)(n:Nat):Int:=1-B / 2 ^ n % 2
def Zq(w h goal:Nat)(B:Int)(f:Nat->Option Int)(n:Nat):Option Int:=(ZO w h goal f n).map λb=>Z2q B n+b
def Z26(c k:Nat):wu (c:Int) (k:Int)=true:=by simp[wu]
theorem Z0i{w h:Nat}(hw:0<w)(hw2:w<=60)(hh:h<=1000)(T:List Th)(D:List Dy)(s1:P.Slot)(goal B:Nat){f:Nat->Option Int}{s3:P.Slot}(h3:Sl s3 (Z6 (w*h) f)):∀(ks:List Nat) (acc:List PV) (a6 a7 a8:P.Slot),(∀k∈ks,k<w*h)->acc.length+ks.length<=1000000->
 ∃a6' a7' a8':P.Slot,forL (gN 6) pQ (ks.map λ(k:Nat)=>PV.int k) [.sh (Z0 w h T D),s1,.sh (.int goal),s3,.sh (.int B),.ow acc,a6,a7,a8]=.ok .nx [.sh (Z0 w h T D),s1,.sh (.int goal),s3,.sh (.int B),.ow (acc++ks.map λk=>oV (Zq w h goal B f k)),a6',a7',a8']
 | [],acc,a6,a7,a8,_,_=>⟨a6,a7,a8,by simp[forL]⟩
 |k::ks,acc,a6,a7,a8,hk,hl=>by
  have hk':=hk k List.mem_cons_self
  have eb:=Z2p hw (by omega) hh T D (goal:=goal) hk' h3
  have hl0:acc.length<16777216:=by simp at hl;omega
  have hb:zf (.int ((B:Int) / 2 ^ k)) (.int 1)=some (.int ((B:Int) / 2 ^ k % 2)):=by
   show some (PV.int (Builtin.bitAnd _ _))=_
   rw[Z2y]
  have hle:=h3.lend
  have sk:=Z26 B k
  have e:∃a7' a8':P.Slot,pQ [.sh (Z0 w h T D),s1,.sh (.int goal),s3,.sh (.int B),.ow acc,.sh (.int k),a7,a8]=.ok .nx [.sh (Z0 w h T D),s1,.sh (.int goal),s3,.sh (.int B),.ow (acc ++ [oV (Zq w h goal B f k)]),.sh (.int k),a7',a8']:=by
   unfold Zq Z2q
   cases hv:ZO w h goal f k with
   |none=>
    rw[hv] at eb
    generalize Z0 w h T D=Yv at *
    generalize Z6 (w*h) f=R at *
    refine⟨.sh .non,.sh (.int (1-(B:Int) / 2 ^ k % 2)),?_⟩
    rcases h3 with rfl|rfl<;>simp[pQ,eb,oV,uh,hl0,sk,hb]
   |some c=>
    rw[hv] at eb
    generalize Z0 w h T D=Yv at *
    generalize Z6 (w*h) f=R at *
    refine⟨.sh (.int c),.sh (.int (1-(B:Int) / 2 ^ k % 2)),?_⟩
    rcases h3 with rfl|rfl<;>simp[pQ,eb,oV,uh,hl0,sk,hb]
  obtain⟨a7',a8',e⟩:=e
  obtain⟨b6,b7,b8,ih⟩:=Z0i hw hw2 hh T D s1 goal B h3 ks (acc ++ [oV (Zq w h goal B f k)]) (.sh (.int k)) a7' a8' (λq hq=>hk q (List.mem_cons_of_mem _ hq)) (by simp at hl ⊢;omega)
  refine⟨b6,b7,b8,?_⟩
  rw[List.map_cons,forL]
  have hg:gN 6 (PV.int (k:Int)) [.sh (Z0 w h T D),s1,.sh (.int goal),s3,.sh (.int B),.ow acc,a6,a7,a8]=some [.sh (Z0 w h T D),s1,.sh (.int goal),s3,.sh (.int B),.ow acc,.sh (.int k),a7,a8]:=rfl
  rw[hg]
  dsimp only
  rw[e]
  show forL _ _ _ _=_
  rw[ih]
  simp
def Z0K{w h:Nat}(hw:0<w)(hw2:w<=60)(hh:h<=1000)(vM:w*h<=1000){T:List Th}(hT:T.length<=1000)(D:List Dy)(hg:∀t∈T,Z5 t.1 t.2=true){o:Option P3}(ho:Om o)(goal:Nat){f:Nat->Option Int}{s3:P.Slot}(h3:Sl s3 (Z6 (w*h) f)) :
 Cq [.sh (Z0 w h T D),.sh (lN o),.sh (.int goal),s3]=.ret (.ow (Z6 (w*h) (Zq w h goal (CG w h T o) f))):=by
 have ed:=Z21 hw hw2 hh vM hT D hg ho
 have yw:=Em w h T D
 have yh:=Ol w h T D
 have mo:ĺ (w:Int) (h:Int)=true:=aF (by omega) (by omega)
 have rr:=ZV (n:=w*h) vM
 have em:((w*h:Nat):Int)=(w:Int)*(h:Int):=Int.natCast_mul w h
 rw[em] at rr
 obtain⟨b6,b7,b8,el⟩:=Z0i hw hw2 hh T D (.sh (lN o)) goal (CG w h T o) h3 (List.range (w*h)) [] .no .no .no (λk hk=>List.mem_range.mp hk) (by simp;omega)
 rw[List.nil_append] at el
 generalize CG w h T o=B at *
 have er:(List.range (w*h)).map (λk=>oV (Zq w h goal B f k))=Z6 (w*h) (Zq w h goal B f):=rfl
 rw[er] at el
 generalize Z6 (w*h) (Zq w h goal B f)=R2 at *
 generalize (List.range (w*h)).map (λ(k:Nat)=>PV.int k)=K at *
 generalize Z0 w h T D=Yv at *
 generalize Z6 (w*h) f=R at *
 generalize lN o=ov at *
 rcases h3 with rfl|rfl<;>simp[Cq,Jb,List.replicate,ed,yw,yh,mo,rr,el]
def Zc(rs:List (Nat->Option Int)):Nat->Option Int:=rs.getLast?.getD λ_=>none
def Kl:List (Nat->Option Int)->Nat->Option Int
 | []=>λ_=>none
 |f::_=>f
def Z9(w h goal:Nat):List Nat->List (Nat->Option Int)
 | []=>[]
 |B::Bs=>Zq w h goal B (Kl (Z9 w h goal Bs))::Z9 w h goal Bs
def Z02(w h goal:Nat):List (Nat->Option Int)->List Nat->List (Nat->Option Int)
 |rs,[]=>rs
 |rs,B::l=>Z02 w h goal (rs ++ [Zq w h goal B (Zc rs)]) l
theorem Z0x(w h goal:Nat)(B:Nat):∀(l:List Nat) (rs:List (Nat->Option Int)),Z02 w h goal rs (l ++ [B])=Z02 w h goal rs l ++ [Zq w h goal B (Zc (Z02 w h goal rs l))]
 | [],rs=>rfl
 |C::l,rs=>by
  show Z02 w h goal _ (l ++ [B])=_
  rw[Z0x w h goal B l]
  rfl
def Z1E(rs:List (Nat->Option Int)):Zc rs.reverse=Kl rs:=by
 cases rs with
 |nil=>rfl
 |cons f r=>simp[Zc,Kl]
theorem Z0y(w h goal:Nat):∀Bs:List Nat,Z02 w h goal [] Bs.reverse=(Z9 w h goal Bs).reverse
 | []=>rfl
 |B::Bs=>by
  rw[List.reverse_cons,Z0x,Z0y w h goal Bs,Z1E,Z9,List.reverse_cons]
theorem ZH(w h goal:Nat):∀Bs:List Nat,(Z9 w h goal Bs).length=Bs.length
 | []=>rfl
 |B::Bs=>congrArg (·+ 1) (ZH w h goal Bs)
def rV(N:Nat)(f:Nat->Option Int):PV:=.lst (Z6 N f)
theorem Z0z{w h:Nat}(hw:0<w)(hw2:w<=60)(hh:h<=1000)(vM:w*h<=1000){T:List Th}(hT:T.length<=1000)(D:List Dy)(hg:∀t∈T,Z5 t.1 t.2=true)(goal:Nat)(s1:P.Slot):∀(l:List (Option P3)) (rs:List (Nat->Option Int)) (s4 s5:P.Slot),(s4=.ow (Z6 (w*h) (Zc rs))\/s4=.sh (.lst (Z6 (w*h) (Zc rs))))->(∀o∈l,Om o)->rs.length+l.length<=1000->
 ∃yr Kd:P.Slot,forL (gN 5) pR (l.map lN) [.sh (Z0 w h T D),s1,.sh (.int goal),.ow (rs.map (rV (w*h))),s4,s5]=.ok .nx [.sh (Z0 w h T D),s1,.sh (.int goal),.ow ((Z02 w h goal rs (l.map (CG w h T))).map (rV (w*h))),yr,Kd]
 | [],rs,s4,s5,_,_,_=>⟨s4,s5,rfl⟩
 |o::l,rs,s4,s5,h4,ho,hl=>by
  have hl0:rs.length<16777216:=by simp at hl;omega
  have e:∃yr:P.Slot,yr=.sh (.lst (Z6 (w*h) (Zq w h goal (CG w h T o) (Zc rs))))/\pR [.sh (Z0 w h T D),s1,.sh (.int goal),.ow (rs.map (rV (w*h))),s4,.sh (lN o)]=.ok .nx [.sh (Z0 w h T D),s1,.sh (.int goal),.ow ((rs ++ [Zq w h goal (CG w h T o) (Zc rs)]).map (rV (w*h))),yr,.sh (lN o)]:=by
   refine⟨_,rfl,?_⟩
   have e1:=Z0K hw hw2 hh vM hT D hg (ho o List.mem_cons_self) goal (f:=Zc rs) (s3:=.bw (Z6 (w*h) (Zc rs))) (.inr rfl)
   have e2:=Z0K hw hw2 hh vM hT D hg (ho o List.mem_cons_self) goal (f:=Zc rs) (s3:=.sh (.lst (Z6 (w*h) (Zc rs)))) (.inl rfl)
   rw[List.map_append,List.map_cons,List.map_nil]
   have hl1:(rs.map (rV (w*h))).length<16777216:=by rw[List.length_map];exact hl0
   unfold rV at *
   generalize Z6 (w*h) (Zq w h goal (CG w h T o) (Zc rs))=R2 at *
   generalize Z6 (w*h) (Zc rs)=R at *
   generalize Z0 w h T D=Yv at *
   generalize lN o=ov at *
   generalize rs.map (λf=>PV.lst (Z6 (w*h) f))=RS at *
   rcases h4 with rfl|rfl
   ·simp[pR,e1,hl1]
   ·simp[pR,e2,hl1]
  obtain⟨yr,hs4,e⟩:=e
  obtain⟨b4,b5,ih⟩:=Z0z hw hw2 hh vM hT D hg goal s1 l (rs ++ [Zq w h goal (CG w h T o) (Zc rs)]) yr (.sh (lN o)) (.inr (by rw[hs4];simp[Zc])) (λq hq=>ho q (List.mem_cons_of_mem _ hq)) (by simp at hl ⊢;omega)
  refine⟨b4,b5,?_⟩
  rw[List.map_cons,forL]
  have hgn:gN 5 (lN o) [.sh (Z0 w h T D),s1,.sh (.int goal),.ow (rs.map (rV (w*h))),s4,s5]=some [.sh (Z0 w h T D),s1,.sh (.int goal),.ow (rs.map (rV (w*h))),s4,.sh (lN o)]:=rfl
  rw[hgn]
  dsimp only
  rw[e]
  exact ih
def Z1F{N:Nat}(hN:N<=1000):ĸ (gN 0) ő (mC .non) ((List.range N).map λ(k:Nat)=>PV.int k) [.no] []=some ((List.range N).map λ_=>PV.non):=by
 have c1:=ŕ (g:=gN 0) (mt:=ő) (me:=mC .non) (λ(k:Nat)=>PV.int k) (λ_=>PV.non) (λρ=>∃a,ρ=[a]) (List.range N) [.no] [] ⟨_,rfl⟩ (by simp;omega) (by
  rintro k _ ρ ⟨a,rfl⟩
  exact⟨[.sh (.int k)],[.sh (.int k)],[.sh (.int k)],by simp,by simp,by simp,_,rfl⟩)
 rw[List.nil_append] at c1
 exact c1
def Z1G{w h:Nat}(hw:0<w)(hw2:w<=60)(hh:h<=1000)(vM:w*h<=1000){T:List Th}(hT:T.length<=1000){D:List Dy}(hg:∀t∈T,Z5 t.1 t.2=true)(goal:Nat){i:Nat}(hi:i<D.length)(ho:∀o∈D[i].2.2,Om o)(hl:D[i].2.2.length<=1000) :
 Cr [.sh (Z0 w h T D),.sh (.int i),.sh (.int goal)]=.ret (.ow ((Z9 w h goal (D[i].2.2.map (CG w h T))).map (rV (w*h)))):=by
 have et:=Z0V (w:=w) (h:=h) (T:=T) hi
 have yw:=Em w h T D
 have yh:=Ol w h T D
 have mo:ĺ (w:Int) (h:Int)=true:=aF (by omega) (by omega)
 have rr:=ZV (n:=w*h) vM
 have em:((w*h:Nat):Int)=(w:Int)*(h:Int):=Int.natCast_mul w h
 rw[em] at rr
 have en:=Z1F vM
 have e0:(List.range (w*h)).map (λ_=>PV.non)=Z6 (w*h) (Zc []):=by simp[Z6,Zc,oV]
 rw[e0] at en
 generalize D[i].2.2=os at *
 obtain⟨b4,b5,el⟩:=Z0z hw hw2 hh vM hT D hg goal (.sh (.int i)) os.reverse [] (.ow (Z6 (w*h) (Zc []))) .no (.inl rfl) (λo h=>ho o (List.mem_reverse.mp h)) (by simp;omega)
 rw[List.map_reverse,List.map_reverse,Z0y,List.map_reverse,List.map_nil] at el
 generalize hP:(Z9 w h goal (os.map (CG w h T))).map (rV (w*h))=P at *
 generalize os.map lN=TV at *
 generalize Z6 (w*h) (Zc [])=R0 at *
 generalize (List.range (w*h)).map (λ(k:Nat)=>PV.int k)=K at *
 generalize Z0 w h T D=Yv at *
 simp[Cr,Jc,List.replicate,fH,Ŭ,et,yw,yh,mo,rr,en,el]
def Z1O(pre:List Nat)(l:Nat):Ė (.lst ((pre ++ [l]).map λ(m:Nat)=>PV.int m)) (.int (-1))=some (.int l):=by
 show qK _ _=_
 unfold qK KY
 simp
 rw[if_pos (by omega)]
 have e:(-1+((pre.length:Int)+1)).toNat=pre.length:=by omega
 simp[e]
theorem Z0A{w h goal:Nat}:∀{Bs:List Nat} {i n:Nat} {f:Nat->Option Int},(Z9 w h goal Bs)[i]?=some f->n≠goal->(f n).isSome=true->∃m f',(Z9 w h goal Bs)[i+1]?=some f'/\ZG w h f' n=some m/\(f' m).isSome=true
 | [],i,n,f,h1,_,_=>by simp[Z9] at h1
 |B::Bs,0,n,f,h1,hn,hs=>by
  have h1':Zq w h goal B (Kl (Z9 w h goal Bs))=f:=by simpa[Z9] using h1
  rw[<-h1'] at hs
  unfold Zq ZO at hs
  rw[if_neg hn] at hs
  cases hb:ZG w h (Kl (Z9 w h goal Bs)) n with
  |none=>rw[hb] at hs;simp at hs
  |some m=>
   rw[hb] at hs
   have hm:(Kl (Z9 w h goal Bs) m).isSome=true:=by
    cases hc:Kl (Z9 w h goal Bs) m with
    |none=>rw[show(some m).bind (Kl (Z9 w h goal Bs))=Kl (Z9 w h goal Bs) m from rfl,hc] at hs;simp at hs
    |some c=>rfl
   cases hp:Z9 w h goal Bs with
   |nil=>rw[hp] at hm;simp[Kl] at hm
   |cons f' r=>
    rw[hp] at hb hm
    exact⟨m,f',by simp[Z9,hp],hb,hm⟩
 |B::Bs,i+1,n,f,h1,hn,hs=>by
  obtain⟨m,f',q1,q2,q3⟩:=Z0A (Bs:=Bs) (i:=i) (by simpa[Z9] using h1) hn hs
  exact⟨m,f',by simpa[Z9] using q1,q2,q3⟩
def Z1f{w h:Nat}(hw:0<w)(hw2:w<=1000)(hh:h<=1000)(T:List Th)(D:List Dy){goal start:Nat}(hs:start<w*h){Bs:List Nat}(hl:Bs.length<=1000){f0:Nat->Option Int}(h0:(Z9 w h goal Bs)[0]?=some f0)(hs0:(f0 start).isSome=true) :
 ∃ms:List Nat,xQ [.sh (Z0 w h T D),.sh (.int start),.sh (.int goal),.bw ((Z9 w h goal Bs).map (rV (w*h)))]=.ret (.ow (ms.map λ(m:Nat)=>PV.tup [.int (m % w:Nat),.int (m / w:Nat)])):=by
 have yw:=Em w h T D
 obtain⟨PV',hPV⟩:∃P:List PV,(Z9 w h goal Bs).map (rV (w*h))=P:=⟨_,rfl⟩
 rw[hPV]
 have hstep:∀b:List Nat×Nat,(b.2<w*h/\∃f,(Z9 w h goal Bs)[b.1.length]?=some f/\(f b.2).isSome=true)->
  (cV (ą jF (ą Ė (Ā 4) (aK aZ (mC (.int 1)))) (Ā 2))) [.sh (Z0 w h T D),.sh (.int start),.sh (.int goal),.bw PV',.ow ((b.1 ++ [b.2]).map λ(m:Nat)=>PV.int m)]=.ok (decide (b.2≠goal)) [.sh (Z0 w h T D),.sh (.int start),.sh (.int goal),.bw PV',.ow ((b.1 ++ [b.2]).map λ(m:Nat)=>PV.int m)]:=by
  rintro ⟨pre,l⟩ _
  have e1:=Z1O pre l
  have e2:decide (l≠goal)=decide ((l:Int)≠(goal:Int)):=by
   by_cases hq:l=goal
   ·simp[hq]
   ·simp[hq];omega
  dsimp only
  generalize (pre ++ [l]).map (λ(m:Nat)=>PV.int m)=LV at *
  rw[e2]
  simp[e1]
 obtain⟨⟨pre,l⟩,e1,⟨hl1,f,hf,hfs⟩,e2⟩:=zq (mc:=cV (ą jF (ą Ė (Ā 4) (aK aZ (mC (.int 1)))) (Ā 2))) (mb:=mQ 4 (Đ (Ē pP (Ć 0 (đ (ą Ė (Ā 4) (aK aZ (mC (.int 1)))) (đ (ą Ė (Ā 3) (fG jo (Ą (Ā 4) ę))) ď)))))) (λb:List Nat×Nat=>[.sh (Z0 w h T D),.sh (.int start),.sh (.int goal),.bw PV',.ow ((b.1 ++ [b.2]).map λ(m:Nat)=>PV.int m)]) (λb=>b.2<w*h/\∃f,(Z9 w h goal Bs)[b.1.length]?=some f/\(f b.2).isSome=true) (λb=>1001-b.1.length) (by
  rintro ⟨pre,l⟩ hb
  have e0:=hstep ⟨pre,l⟩ hb
  obtain⟨hl1,f,hf,hfs⟩:=hb
  dsimp only at hl1 hf hfs e0 ⊢
  by_cases hg:l=goal
  ·left
   rw[e0,hg]
   simp
  ·right
   refine⟨by rw[e0];simp[hg],?_⟩
   obtain⟨m,f',q1,q2,q3⟩:=Z0A hf hg hfs
   have hlen:pre.length+1<Bs.length:=by
    have:=(List.getElem?_eq_some_iff.mp q1).1
    rw[ZH] at this
    exact this
   have hm:m<w*h:=Z07 (List.mem_filter.mp (Z0w q2)).1
   refine⟨(pre ++ [l],m),?_,⟨hm,f',by simpa using q1,q3⟩,by simp;omega⟩
   have eb:=Z0J hw hw2 hh T D hl1 (f:=f') (s2:=.sh (.lst (Z6 (w*h) f'))) (.inl rfl)
   rw[q2] at eb
   have ei:=Z1O pre l
   have ep:Ė (.lst PV') (.int ((pre.length:Int)+1))=some (.lst (Z6 (w*h) f')):=by
    rw[<-hPV]
    have e7:((pre.length:Int)+1)=((pre.length+1:Nat):Int):=by omega
    rw[e7]
    have:((Z9 w h goal Bs).map (rV (w*h)))[pre.length+1]?=some (.lst (Z6 (w*h) f')):=by
     rw[List.getElem?_map,q1];rfl
    generalize pre.length+1=q at *
    simp[this]
   have hll:(((pre ++ [l]).map λ(m:Nat)=>PV.int m).length:Int)=(pre.length:Int)+1:=by simp
   have hl2:((pre ++ [l]).map λ(m:Nat)=>PV.int m).length<16777216:=by simp;omega
   have ea:(((pre ++ [l]) ++ [m]).map λ(m:Nat)=>PV.int m)=((pre ++ [l]).map λ(m:Nat)=>PV.int m) ++ [PV.int m]:=by simp
   dsimp only
   rw[ea]
   generalize (pre ++ [l]).map (λ(m:Nat)=>PV.int m)=LV at *
   generalize Z6 (w*h) f'=R at *
   generalize Z0 w h T D=Yv at *
   simp[ei,hll,ep,eb,oN,hl2]) (b:=([],start)) ⟨hs,f0,h0,hs0⟩
 refine⟨pre ++ [l],?_⟩
 have hpl:pre.length<Bs.length:=by
  have:=(List.getElem?_eq_some_iff.mp hf).1
  rw[ZH] at this
  exact this
 have c1:=ŕ (g:=gN 1) (mt:=ő) (me:=Đ (Ē sW (Ć 1 (đ (aK (ń ["Yard"] "width") (Ā 0)) ď)))) (λ(m:Nat)=>PV.int m) (λ(m:Nat)=>PV.tup [.int (m % w:Nat),.int (m / w:Nat)]) (λρ=>∃a,ρ=[.sh (Z0 w h T D),a]) (pre ++ [l]) [.sh (Z0 w h T D),.no] [] ⟨_,rfl⟩ (by simp;omega) (by
  rintro m _ ρ ⟨a,rfl⟩
  have es:=Z0I (n:=m) hw hw2
  refine⟨[.sh (Z0 w h T D),.sh (.int m)],[.sh (Z0 w h T D),.sh (.int m)],[.sh (Z0 w h T D),.sh (.int m)],by simp,by simp,?_,_,rfl⟩
  generalize Z0 w h T D=Yv at *
  simp[yw,es])
 rw[List.nil_append] at c1
 have ew:Jd [.sh (Z0 w h T D),.sh (.int start),.sh (.int goal),.bw PV',.ow [.int start]]=_:=e1
 dsimp only at ew
 generalize (pre ++ [l]).map (λ(m:Nat)=>PV.tup [.int (m % w:Nat),.int (m / w:Nat)])=OUT at *
 generalize (pre ++ [l]).map (λ(m:Nat)=>PV.int m)=LV at *
 generalize Z0 w h T D=Yv at *
 simp[xQ,Je,List.replicate,fH,Ŭ,ew,c1]
def xSt(x y:Int):PX:=⟨"NoStone",["stone"],[.tup [.int x,.int y]]⟩
def xTn(d:Int):PX:=⟨"NoTurn",["day","turn"],[.int d,.non]⟩
def Z0j{w h:Nat}{T:List Th}(D:List Dy){x y:Int}(hx:¬((0<=x/\x<w)/\(0<=y/\y<h))):pN [.sh (Z0 w h T D),.sh (.tup [.int x,.int y])]=.exc (xSt x y):=by
 have hs:=Z0h (T:=T) D hx
 generalize Z0 w h T D=Yv at *
 simp[pN,zW,List.replicate,hs,Ng,putN,qQ,xSt]
def Zw{w h:Nat}{T:List Th}(D:List Dy){x y:Int}(hx:(0<=x/\x<w)/\(0<=y/\y<h)):pN [.sh (Z0 w h T D),.sh (.tup [.int x,.int y])]=.ret (.sh .non):=by
 have hs:=Z06 (T:=T) D hx
 generalize Z0 w h T D=Yv at *
 simp[pN,zW,List.replicate,hs]
def y35:(Str.ofString "day" =Str.ofString "turn")=False:=eq_false (by decide +kernel)
def Z2r:(Str.ofString "turn" == Str.ofString "day")=false:=by decide +kernel
def Z27{w h:Nat}{T:List Th}{D:List Dy}{d:Int}(hd:¬(0<=d/\d<D.length)):sG [.sh (Z0 w h T D),.sh (.int d)]=.exc (xTn d):=by
 have yd:=y_d w h T D
 have hl:(D.map bW).length=D.length:=by simp
 rw[<-hl] at hd
 generalize Z0 w h T D=Yv at *
 generalize D.map bW=DV at *
 have hs:jO [.sh Yv,.sh (.int d)]=.ret (.sh (.bl false)):=by
  by_cases a1:0<=d
  ·have a2:¬d<(DV.length:Int):=λa2=>hd ⟨a1,a2⟩
   simp[jO,lE,List.replicate,yd,a1,a2]
  ·simp[jO,lE,List.replicate,yd,a1]
 simp[sG,zX,List.replicate,hs,Ng,putN,qQ,xTn,y35,Z2r]
def Z1H{w h:Nat}{T:List Th}{D:List Dy}{d:Int}(hd:0<=d/\d<D.length):sG [.sh (Z0 w h T D),.sh (.int d)]=.ret (.sh .non):=by
 have hs:=Z24 (w:=w) (h:=h) (T:=T) (D:=D) d
 rw[decide_eq_true hd] at hs
 generalize Z0 w h T D=Yv at *
 simp[sG,zX,List.replicate,hs]
def xV(x:PX):PV:=.xc x.C x.ns x.ps
def isx{C D:String}{ns:List Str}{ps:List PV}:aM Zb Zj Zo Zp [.xc C ns ps,.cls D]=(Zb.lookup (C,D)).map .bl:=rfl
def isv{C D:String}{ns:List Str}{ps:List PV}:aM Zb Zj Zo Zp [.xc C ns ps,.ty D]=(Zj.lookup (C,D)).map .bl:=rfl
def a1:Zb.lookup ("NoStone","NoStone")=some true:=by decide +kernel
def a2:Zj.lookup ("NoStone","ValueError")=some true:=by decide +kernel
def a3:Zb.lookup ("NoStone","NoTurn")=some false:=by decide +kernel
def a5:Zb.lookup ("NoTurn","NoTurn")=some true:=by decide +kernel
def a6:Zj.lookup ("NoTurn","ValueError")=some true:=by decide +kernel
def a7:Zb.lookup ("NoTurn","NoStone")=some false:=by decide +kernel
def z1:mX Zb "NoStone" [.cls "BadRow",.cls "BadThing",.cls "NoDay",.cls "NoNumber",.cls "NoRow"]=some false:=by decide +kernel
def z2:mX Zb "NoTurn" [.cls "BadRow",.cls "BadThing",.cls "NoDay",.cls "NoNumber",.cls "NoRow"]=some false:=by decide +kernel
def Z1I{w h:Nat}(hw:0<w)(hw2:w<=60)(hh:h<=1000)(vM:w*h<=1000){T:List Th}(hT:T.length<=1000){D:List Dy}(hg:∀t∈T,Z5 t.1 t.2=true){x y x2 y2:Int}(h1:(0<=x/\x<w)/\(0<=y/\y<h))(h2:(0<=x2/\x2<w)/\(0<=y2/\y2<h)){i:Nat}(hi:i<D.length)(hd:1<=D[i].2.2.length/\D[i].2.2.length<=1000)(ho:∀o∈D[i].2.2,Om o) :
 ∃v,gF [.sh (Z0 w h T D),.sh (.int i),.sh (.tup [.int x,.int y]),.sh (.tup [.int x2,.int y2])]=.ret (.sh v):=by
 have c1:=Zw (T:=T) D h1
 have c2:=Zw (T:=T) D h2
 have c3:=Z1H (w:=w) (h:=h) (T:=T) (D:=D) (d:=i) (by omega)
 have yw:=Em w h T D
 have m1:=Z00 x y w (Z0v (by omega) (by omega) (by omega) (by omega))
 have m2:=Z00 x2 y2 w (Z0v (by omega) (by omega) (by omega) (by omega))
 have nat:∀{x y:Int},(0<=x/\x<w)/\(0<=y/\y<h)->∃n:Nat,y*w+x=(n:Int)/\n<w*h:=fun{x y} hq=>by
  have h5:y*(w:Int)+x<h*w:=by
   have:(y+1)*(w:Int)<=h*w:=Int.mul_le_mul_of_nonneg_right (by omega) (by omega)
   rw[Int.add_mul] at this
   omega
  have h6:0<=y*(w:Int):=Int.mul_nonneg (by omega) (by omega)
  have h7:((w*h:Nat):Int)=(h:Int)*w:=by rw[Int.natCast_mul,Int.mul_comm]
  exact⟨(y*(w:Int)+x).toNat,by omega,by omega⟩
 obtain⟨n1,e1,l1⟩:=nat h1
 obtain⟨n2,e2,l2⟩:=nat h2
 rw[e1] at m1
 rw[e2] at m2
 have ep:=Z1G hw hw2 hh vM hT hg n2 hi ho hd.2
 generalize hBs:D[i].2.2.map (CG w h T)=Bs at *
 have hbl:Bs.length=D[i].2.2.length:=by rw[<-hBs];simp
 cases hp:Z9 w h n2 Bs with
 |nil=>
  have:=ZH w h n2 Bs
  rw[hp] at this
  simp at this
  omega
 |cons f0 rest=>
  have h0:(Z9 w h n2 Bs)[0]?=some f0:=by rw[hp];rfl
  have rg:=ZS (f:=f0) l1
  have ew:∀(hs:(f0 n1).isSome=true),∃ms:List Nat,xQ [.sh (Z0 w h T D),.sh (.int n1),.sh (.int n2),.bw ((Z9 w h n2 Bs).map (rV (w*h)))]=.ret (.ow (ms.map λ(m:Nat)=>PV.tup [.int (m % w:Nat),.int (m / w:Nat)])):=λhs=>Z1f hw (by omega) hh T D l1 (by omega) h0 hs
  have hP0:((Z9 w h n2 Bs).map (rV (w*h)))[0]?=some (.lst (Z6 (w*h) f0)):=by rw[hp];rfl
  generalize (Z9 w h n2 Bs).map (rV (w*h))=PP at *
  generalize Z6 (w*h) f0=R at *
  cases hc:f0 n1 with
  |none=>
   rw[hc] at rg
   generalize Z0 w h T D=Yv at *
   exact⟨_,by simp[gF,lH,List.replicate,c1,c2,c3,yw,m1,m2,ep,hP0,rg,oV,uh];rfl⟩
  |some c=>
   obtain⟨ms,ew⟩:=ew (by rw[hc];rfl)
   rw[hc] at rg
   generalize ms.map (λ(m:Nat)=>PV.tup [.int (m % w:Nat),.int (m / w:Nat)])=WV at *
   generalize Z0 w h T D=Yv at *
   exact⟨_,by simp[gF,lH,List.replicate,c1,c2,c3,yw,m1,m2,ep,hP0,rg,oV,uh,ew];rfl⟩
def Z0a{w h:Nat}{T:List Th}{D:List Dy}{x y x2 y2 d:Int}{X:PX}(hx:(¬((0<=x/\x<w)/\(0<=y/\y<h))/\X=xSt x y)\/(((0<=x/\x<w)/\(0<=y/\y<h))/\¬((0<=x2/\x2<w)/\(0<=y2/\y2<h))/\X=xSt x2 y2)\/(((0<=x/\x<w)/\(0<=y/\y<h))/\((0<=x2/\x2<w)/\(0<=y2/\y2<h))/\¬(0<=d/\d<D.length)/\X=xTn d)) :
 gF [.sh (Z0 w h T D),.sh (.int d),.sh (.tup [.int x,.int y]),.sh (.tup [.int x2,.int y2])]=.exc X:=by
 rcases hx with⟨h1,rfl⟩|⟨h1,h2,rfl⟩|⟨h1,h2,h3,rfl⟩
 ·have c1:=Z0j (T:=T) D h1
  generalize Z0 w h T D=Yv at *
  simp[gF,lH,List.replicate,c1]
 ·have c1:=Zw (T:=T) D h1
  have c2:=Z0j (T:=T) D h2
  generalize Z0 w h T D=Yv at *
  simp[gF,lH,List.replicate,c1,c2]
 ·have c1:=Zw (T:=T) D h1
  have c2:=Zw (T:=T) D h2
  have c3:=Z27 (w:=w) (h:=h) (T:=T) h3
  generalize Z0 w h T D=Yv at *
  simp[gF,lH,List.replicate,c1,c2,c3]
def Z0X{Yv d p q:PV}{x:PX}(h:gF [.sh Yv,.sh d,.sh p,.sh q]=.exc x)(hc:x.C= "NoStone" \/x.C= "NoTurn"):pU [.sh Yv,.sh d,.sh p,.sh q]=.ret (.sh (xV x)):=by
 have hy:x.C∈(["YardError","NoNumber","BadThing","NoStone","NoTurn","BadRow","NoRow","NoDay"]:List String):=by
  rcases hc with hc|hc<;>rw[hc]<;>decide
 generalize hL:(["YardError","NoNumber","BadThing","NoStone","NoTurn","BadRow","NoRow","NoDay"]:List String)=L at *
 simp[pU,Ab,List.replicate,h,hL,hy,xV]
def Z2B{Yv d p q v:PV}(h:gF [.sh Yv,.sh d,.sh p,.sh q]=.ret (.sh v)):pU [.sh Yv,.sh d,.sh p,.sh q]=.ret (.sh .non):=by
 generalize hL:(["YardError","NoNumber","BadThing","NoStone","NoTurn","BadRow","NoRow","NoDay"]:List String)=L at *
 simp[pU,Ab,List.replicate,h,hL]
def Zk:KY 2 0=some 0:=rfl
def Zl:KY 2 1=some 1:=rfl
def Z1g{w h:Nat}(x y:Int):i_ [.sh (.tup [.int x,.int y]),.sh (.tup [.int w,.int h])]=.ret (.sh (.bl (inB w h (x,y)))):=by
 unfold inB
 by_cases a1:0<=x
 ·by_cases a2:x<(w:Int)
  ·by_cases a3:0<=y
   ·by_cases a4:y<(h:Int)
    ·simp[i_,lA,List.replicate,a1,a2,a3,a4,Zk,Zl]
    ·simp[i_,lA,List.replicate,a1,a2,a3,a4,Zk,Zl]
   ·simp[i_,lA,List.replicate,a1,a2,a3,Zk,Zl]
  ·simp[i_,lA,List.replicate,a1,a2,Zk,Zl]
 ·simp[i_,lA,List.replicate,a1,Zk,Zl]
def tp(p:Int×Int):PV:=.tup [.int p.1,.int p.2]
theorem Z1h:∀l:List (Int×Int),aD (l.map tp)=true/\mR (l.map tp)<=1
 | []=>by simp[aD,mR]
 |p::l=>by
  obtain⟨h1,h2⟩:=Z1h l
  rw[List.map_cons]
  unfold aD mR
  rw[h1]
  refine⟨by simp[tp,ŭ,aD],?_⟩
  have:dep (tp p)<=1:=by simp[tp,dep,mR]
  omega
def Z0b(l:List (Int×Int)):Œ (.lst (l.map tp)) (.lst [])=some (.bl l.isEmpty):=by
 obtain⟨k1,k2⟩:=Z1h l
 have h1:ŭ (.lst (l.map tp))=true:=by unfold ŭ;exact k1
 have h3:ŭ (.lst [])=true:=rfl
 have h4:decide (min (dep (.lst (l.map tp))) (dep (.lst []))<=60)=true:=by
  rw[decide_eq_true_eq]
  have:dep (.lst [])<=60:=by decide
  omega
 unfold Œ qN
 rw[h1,h3,h4]
 cases l with
 |nil=>rfl
 |cons p l=>rfl
def Z0B{w h:Nat}(l:List (Int×Int))(hl:l.length<=1000):ĸ (gN 1) (iJ (cU (Đ (Ē i_ (Ć 1 (Ć 0 ď)))))) (ě 1) (l.map tp) [.sh (.tup [.int w,.int h]),.no] []=some ((l.filter λp=>!inB w h p).map tp):=by
 have e:=Ż (g:=gN 1) (mt:=iJ (cU (Đ (Ē i_ (Ć 1 (Ć 0 ď)))))) (me:=ě 1) tp tp (λp=>!inB w h p) (λρ=>∃a,ρ=[.sh (.tup [.int w,.int h]),a]) l [.sh (.tup [.int w,.int h]),.no] [] ⟨_,rfl⟩ (by simp;omega) (by
  rintro p _ ρ ⟨a,rfl⟩
  have e1:=Z1g (w:=w) (h:=h) p.1 p.2
  exact⟨[.sh (.tup [.int w,.int h]),.sh (tp p)],[.sh (.tup [.int w,.int h]),.sh (tp p)],by simp,by simp[tp,e1],λ_=>⟨_,rfl⟩,λ_=>⟨[.sh (.tup [.int w,.int h]),.sh (tp p)],by simp,_,rfl⟩⟩)
 rw[List.nil_append] at e
 exact e
def Z1i{w h:Nat}{T:List Th}{D:List Dy}{d:Int}{l:List (Int×Int)}(hl:l.length<=1000)(hb:l.filter (λp=>!inB w h p)=[])(hd:0<=d/\d<D.length):eV [.sh .non,.sh (Z0 w h T D),.sh (.int d),.bw (l.map tp)]=.ret (.sh (.bl true)):=by
 have e:=Z0B (w:=w) (h:=h) l hl
 rw[hb] at e
 have yw:=Em w h T D
 have yh:=Ol w h T D
 have yd:=y_d w h T D
 have hdl:(D.map bW).length=D.length:=by simp
 obtain⟨h1,h2⟩:=hd
 rw[<-hdl] at h2
 have en:=Z0b []
 simp at en e
 generalize Z0 w h T D=Yv at *
 generalize D.map bW=DV at *
 generalize l.map tp=LV at *
 simp[eV,pL,List.replicate,fH,Ŭ,yw,yh,yd,e,en,h1,h2,uh]
def Z0L{w h:Nat}{T:List Th}{D:List Dy}{d:Int}{l:List (Int×Int)}(hl:l.length<=1000){p:Int×Int}{r:List (Int×Int)}(hb:l.filter (λp=>!inB w h p)=p::r):eV [.sh (xV (xSt p.1 p.2)),.sh (Z0 w h T D),.sh (.int d),.bw (l.map tp)]=.ret (.sh (.bl true)):=by
 have e:=Z0B (w:=w) (h:=h) l hl
 rw[hb] at e
 have yw:=Em w h T D
 have yh:=Ol w h T D
 have en:=Z0b (p::r)
 have h1:wR Zb Zj Zo Zp [.xc "NoStone" ["stone"] [.tup [.int p.1,.int p.2]],.tup [.cls "BadRow",.cls "BadThing",.cls "NoDay",.cls "NoNumber",.cls "NoRow"]]=some (.bl false):=by
  show(mX Zb "NoStone" [.cls "BadRow",.cls "BadThing",.cls "NoDay",.cls "NoNumber",.cls "NoRow"]).map PV.bl=_
  rw[z1];rfl
 have h2:gq ["NoStone"] "stone" (.xc "NoStone" ["stone"] [.tup [.int p.1,.int p.2]])=some (tp p):=by
  simp[gq,List.lookup,tp]
 have h4:Œ (tp p) (tp p)=some (.bl true):=DG (by simp[tp,ŭ,aD]) (by simp[tp,dep,mR])
 have h5:aM Zb Zj Zo Zp [.xc "NoStone" ["stone"] [.tup [.int p.1,.int p.2]],.cls "NoStone"]=some (.bl true):=by rw[isx,a1];rfl
 have h6:aM Zb Zj Zo Zp [.xc "NoStone" ["stone"] [.tup [.int p.1,.int p.2]],.ty "ValueError"]=some (.bl true):=by rw[isv,a2];rfl
 have h7:aM Zb Zj Zo Zp [.xc "NoStone" ["stone"] [.tup [.int p.1,.int p.2]],.cls "NoTurn"]=some (.bl false):=by rw[isx,a3];rfl
 show eV [.sh (.xc "NoStone" ["stone"] [.tup [.int p.1,.int p.2]]),_,_,_]=_
 generalize PV.xc "NoStone" ["stone"] [.tup [.int p.1,.int p.2]]=Xv at *
 rw[List.map_cons] at e en
 have en':Œ (.lst (tp p::r.map tp)) (.lst [])=some (.bl false):=en
 generalize Z0 w h T D=Yv at *
 generalize l.map tp=LV at *
 generalize r.map tp=RV at *
 generalize tp p=pv at *
 simp[eV,pL,List.replicate,fH,Ŭ,yw,yh,e,en',h1,h2,h4,h5,h6,h7]
def Z28{w h:Nat}{T:List Th}{D:List Dy}{d:Int}{l:List (Int×Int)}(hl:l.length<=1000)(hb:l.filter (λp=>!inB w h p)=[])(hd:¬(0<=d/\d<D.length)):eV [.sh (xV (xTn d)),.sh (Z0 w h T D),.sh (.int d),.bw (l.map tp)]=.ret (.sh (.bl true)):=by
 have e:=Z0B (w:=w) (h:=h) l hl
 rw[hb] at e
 have yw:=Em w h T D
 have yh:=Ol w h T D
 have yd:=y_d w h T D
 have hdl:(D.map bW).length=D.length:=by simp
 rw[<-hdl] at hd
 have en:=Z0b []
 simp at en e
 have h1:wR Zb Zj Zo Zp [.xc "NoTurn" ["day","turn"] [.int d,.non],.tup [.cls "BadRow",.cls "BadThing",.cls "NoDay",.cls "NoNumber",.cls "NoRow"]]=some (.bl false):=by
  show(mX Zb "NoTurn" [.cls "BadRow",.cls "BadThing",.cls "NoDay",.cls "NoNumber",.cls "NoRow"]).map PV.bl=_
  rw[z2];rfl
 have h2:gq ["NoTurn"] "day" (.xc "NoTurn" ["day","turn"] [.int d,.non])=some (.int d):=by
  simp[gq,List.lookup]
 have h3:gq ["NoTurn"] "turn" (.xc "NoTurn" ["day","turn"] [.int d,.non])=some .non:=by
  simp[gq,List.lookup,Z2r]
 have h5:aM Zb Zj Zo Zp [.xc "NoTurn" ["day","turn"] [.int d,.non],.cls "NoTurn"]=some (.bl true):=by rw[isx,a5];rfl
 have h6:aM Zb Zj Zo Zp [.xc "NoTurn" ["day","turn"] [.int d,.non],.ty "ValueError"]=some (.bl true):=by rw[isv,a6];rfl
 have h7:aM Zb Zj Zo Zp [.xc "NoTurn" ["day","turn"] [.int d,.non],.cls "NoStone"]=some (.bl false):=by rw[isx,a7];rfl
 show eV [.sh (.xc "NoTurn" ["day","turn"] [.int d,.non]),_,_,_]=_
 generalize PV.xc "NoTurn" ["day","turn"] [.int d,.non]=Xv at *
 generalize Z0 w h T D=Yv at *
 generalize D.map bW=DV at *
 generalize l.map tp=LV at *
 by_cases b1:0<=d
 ·have b2:¬d<(DV.length:Int):=λb2=>hd ⟨b1,b2⟩
  simp[eV,pL,List.replicate,fH,Ŭ,yw,yh,yd,e,en,b1,b2,h1,h2,h3,h5,h6,h7,uh]
 ·simp[eV,pL,List.replicate,fH,Ŭ,yw,yh,yd,e,en,b1,h1,h2,h3,h5,h6,h7,uh]
def Z2s{w h:Nat}(hw:0<w)(hw2:w<=60)(hh:h<=1000)(vM:w*h<=1000){T:List Th}(hT:T.length<=1000){D:List Dy}(hg:∀t∈T,Z5 t.1 t.2=true){lg:Nat}(Ka:lg<=1000)(hD:∀d∈D,ZR lg d)(p q:Int×Int)(d:Int) :
 ∃r,pU [.sh (Z0 w h T D),.sh (.int d),.sh (tp p),.sh (tp q)]=.ret (.sh r)/\eV [.sh r,.sh (Z0 w h T D),.sh (.int d),.bw [tp p,tp q]]=.ret (.sh (.bl true)):=by
 by_cases hp:(0<=p.1/\p.1<w)/\(0<=p.2/\p.2<h)
 ·have ip:inB w h p=true:=decide_eq_true hp
  by_cases hq:(0<=q.1/\q.1<w)/\(0<=q.2/\q.2<h)
  ·have iq:inB w h q=true:=decide_eq_true hq
   have hb:[p,q].filter (λp=>!inB w h p)=[]:=by simp[ip,iq]
   by_cases hd:0<=d/\d<D.length
   ·obtain⟨i,rfl⟩:∃i:Nat,d=(i:Int):=⟨d.toNat,by omega⟩
    have hi:i<D.length:=by omega
    obtain⟨_,k2,k3⟩:=hD D[i] (List.getElem_mem hi)
    obtain⟨v,e⟩:=Z1I hw hw2 hh vM hT hg hp hq hi ⟨k2.1,by omega⟩ k3
    exact⟨_,Z2B e,Z1i (l:=[p,q]) (by simp) hb hd⟩
   ·exact⟨_,Z0X (Z0a (T:=T) (.inr (.inr ⟨hp,hq,hd,rfl⟩))) (.inr rfl),Z28 (l:=[p,q]) (by simp) hb hd⟩
  ·have iq:inB w h q=false:=decide_eq_false hq
   exact⟨_,Z0X (Z0a (T:=T) (.inr (.inl ⟨hp,hq,rfl⟩))) (.inl rfl),Z0L (l:=[p,q]) (by simp) (p:=q) (r:=[]) (by simp[ip,iq])⟩
 ·have ip:inB w h p=false:=decide_eq_false hp
  exact⟨_,Z0X (Z0a (T:=T) (.inl ⟨hp,rfl⟩)) (.inl rfl),Z0L (l:=[p,q]) (by simp) (p:=p) (r:=[q].filter λp=>!inB w h p) (by simp[ip,List.filter_cons])⟩
def Z0k(c:Int){w h:Nat}(hw:0<w)(hh:0<h)(hw2:w<=1000)(hh2:h<=1000):∃p:Int×Int,bO [.sh (.int c),.sh (.tup [.int w,.int h])]=.ret (.sh (tp p)):=by
 have hp:oR 10 9=true:=by decide
 have z1:¬w=0:=by omega
 have z2:¬h=0:=by omega
 have f1:(c / 5).fmod (w:Int)=c / 5 % w:=Int.fmod_eq_emod_of_nonneg _ (by omega)
 have f2:(c / 11).fmod (h:Int)=c / 11 % h:=Int.fmod_eq_emod_of_nonneg _ (by omega)
 have i2:c / 5 % 3 / 2=0\/c / 5 % 3 / 2=1:=by omega
 have i5:c % 5=0\/c % 5=1\/c % 5=2\/c % 5=3\/c % 5=4:=by omega
 generalize hx:c / 5 % (w:Int)=x at *
 generalize hy:c / 11 % (h:Int)=y at *
 obtain⟨F,hF⟩:∃F:Int,(if 999999970<c / 40 % 1000000000 then(999999970:Int) else c / 40 % 1000000000)=F:=⟨_,rfl⟩
 rcases i2 with i2|i2<;>rcases i5 with i5|i5|i5|i5|i5
 ·exact⟨(x,y),by simp[bO,bA,List.replicate,hp,z1,z2,f1,f2,i2,i5,Zk,Zl,hF,tp]⟩
 ·exact⟨(x,y),by simp[bO,bA,List.replicate,hp,z1,z2,f1,f2,i2,i5,Zk,Zl,hF,tp]⟩
 ·exact⟨((w:Int),y),by simp[bO,bA,List.replicate,hp,z1,z2,f1,f2,i2,i5,Zk,Zl,hF,tp]⟩
 ·exact⟨(x,-1),by simp[bO,bA,List.replicate,hp,z1,z2,f1,f2,i2,i5,Zk,Zl,hF,tp]⟩
 ·exact⟨(-1,(h:Int)),by simp[bO,bA,List.replicate,hp,z1,z2,f1,f2,i2,i5,Zk,Zl,hF,tp]⟩
 ·exact⟨(x,y),by simp[bO,bA,List.replicate,hp,z1,z2,f1,f2,i2,i5,Zk,Zl,hF,tp]⟩
 ·exact⟨(x,y),by simp[bO,bA,List.replicate,hp,z1,z2,f1,f2,i2,i5,Zk,Zl,hF,tp]⟩
 ·exact⟨((w:Int)+F,y),by simp[bO,bA,List.replicate,hp,z1,z2,f1,f2,i2,i5,Zk,Zl,hF,tp]⟩
 ·exact⟨(x,-1-F),by simp[bO,bA,List.replicate,hp,z1,z2,f1,f2,i2,i5,Zk,Zl,hF,tp]⟩
 ·exact⟨(-1-F,(h:Int)+F),by simp[bO,bA,List.replicate,hp,z1,z2,f1,f2,i2,i5,Zk,Zl,hF,tp]⟩
def ZA(t:Th):PV:=.tup [.str t.1,.lst (t.2.map .int)]
def Z2t(w h:Nat):jJ [.tup [.int w,.int h]]=some (.int ((max w h:Nat):Int)):=by
 show some (PV.int (max (w:Int) h))=_
 congr 2
 omega
theorem Z0C{w h:Nat}(hw:1<=w/\w<=20)(hh:1<=h/\h<=20):∀(cs:List Int) (acc:List PV) (s1:P.Slot),acc.length+cs.length<=1000->∃T:List Th,ĸ (gN 1) ő (Đ (Ē iZ (Ć 1 (đ (fG jJ (Ą (Ā 0) ę)) ď)))) (cs.map .int) [.sh (.tup [.int w,.int h]),s1] acc=some (acc++T.map ZA)/\T.length=cs.length/\∀t∈T,Z5 t.1 t.2=true
 | [],acc,s1,_=>⟨[],by simp[ĸ],rfl,by simp⟩
 |c::cs,acc,s1,ha=>by
  obtain⟨t,e1,e2⟩:=Z1b c (w:=((max w h:Nat):Int)) (by omega) (by omega)
  obtain⟨T,q1,q2,q3⟩:=Z0C hw hh cs (acc ++ [ZA t]) (.sh (.int c)) (by simp at ha ⊢;omega)
  refine⟨t::T,?_,by simp[q2],?_⟩
  ·have hz:acc.length<16777216:=by simp at ha;omega
   have mx:=Z2t w h
   change iZ _=.ret (.sh (ZA t)) at e1
   generalize hR:ZA t=R at *
   generalize ((max w h:Nat):Int)=m at *
   rw[List.map_cons,ĸ]
   simp[mx,e1,hz,hR]
   simpa using q1
  ·intro x hx
   rcases List.mem_cons.mp hx with rfl|hx
   ·exact e2
   ·exact q3 x hx
def Z1J{w:Str}{xs:List Int}(h:Z5 w xs=true):PyData.strOk w=true:=by
 unfold Z5 at h
 by_cases e1:w= "post"
 ·rw[e1];exact s1
 rw[if_neg e1] at h
 by_cases e2:w= "fence"
 ·rw[e2];exact s2
 rw[if_neg e2] at h
 by_cases e3:w= "sail"
 ·rw[e3];exact s3
 rw[if_neg e3] at h
 by_cases e4:w= "cloth"
 ·rw[e4];exact s4
 rw[if_neg e4] at h
 by_cases e5:w= "house"
 ·rw[e5];exact s5
 rw[if_neg e5] at h
 cases h
def Z1j{T:List Th}(hl:T.length<=1000)(hg:∀t∈T,Z5 t.1 t.2=true)(s0 s1:P.Slot):ĸ (gT 2 (Ĩ (gN 0) (Ĩ (gN 1) aL))) ő (Đ (Ē eU (Ć 0 (đ (Đ (oK eG (Ą (Ā 1) ę))) ď)))) (T.map ZA) [s0,s1] []=some (T.map qI):=by
 have hc:=ŕ (g:=gT 2 (Ĩ (gN 0) (Ĩ (gN 1) aL))) (mt:=ő) (me:=Đ (Ē eU (Ć 0 (đ (Đ (oK eG (Ą (Ā 1) ę))) ď)))) ZA qI (λρ=>∃a b,ρ=[a,b]) T [s0,s1] [] ⟨_,_,rfl⟩ (by simp;omega) (by
  rintro t ht ρ ⟨a,b,rfl⟩
  have e:=Z1w (Z1J (hg t ht)) (xs:=t.2) (sl:=.sh (.lst (t.2.map .int))) (.inl rfl)
  rw[if_pos (hg t ht)] at e
  change eU _=.ret (.sh (qI t)) at e
  refine⟨[.sh (.str t.1),.sh (.lst (t.2.map .int))],_,[.sh (.str t.1),.sh (.lst (t.2.map .int))],by simp[ZA],rfl,?_,_,_,rfl⟩
  generalize t.2.map PV.int=X at *
  generalize qI t=V at *
  simp[e])
 simpa using hc
def slI(xs:List Int)(lo hi:Option Int):∃ys:List Int,bf (xs.map PV.int) lo hi=ys.map PV.int/\ys.length<=xs.length:=by
 refine⟨(xs.drop (HT.iB xs.length 0 lo)).take (HT.iB xs.length xs.length hi-HT.iB xs.length 0 lo),?_,by simp;omega⟩
 unfold bf
 rw[List.length_map,List.map_take,List.map_drop]
def Z2u(a b c e f g v:Int):∃d:Int,Ė (.lst [.int a,.int b,.int c,.int e,.int f,.int g]) (.int (v % 6))=some (.int d):=by
 have i6:v % 6=0\/v % 6=1\/v % 6=2\/v % 6=3\/v % 6=4\/v % 6=5:=by omega
 rcases i6 with i|i|i|i|i|i<;>rw[i]<;>exact⟨_,rfl⟩
def Z2v{w h:Nat}(hw:0<w)(hw2:w<=60)(hh0:0<h)(hh:h<=1000)(vM:w*h<=1000){T:List Th}(hT:T.length<=1000){D:List Dy}(hg:∀t∈T,Z5 t.1 t.2=true){lg:Nat}(Ka:lg<=1000)(hD:∀d∈D,ZR lg d)(ns:List Int)(a b c e f g:Int)(z2 z3 z5 z8 z9:P.Slot)(k:Nat) :
 ∃s8 s9:P.Slot,uT [.sh (.lst (ns.map .int)),.sh (.tup [.int w,.int h]),z2,z3,.sh (Z0 w h T D),z5,.ow [.int a,.int b,.int c,.int e,.int f,.int g],.sh (.int k),z8,z9]=.ok .nx [.sh (.lst (ns.map .int)),.sh (.tup [.int w,.int h]),z2,z3,.sh (Z0 w h T D),z5,.ow [.int a,.int b,.int c,.int e,.int f,.int g],.sh (.int k),s8,s9]:=by
 have k6:ų [.sh (.lst (ns.map .int)),.sh (.int 6)]=.ret (.sh (.int (ns.getD 6 0))):=Zu ns 6
 have k2:ų [.sh (.lst (ns.map .int)),.sh (.int 2)]=.ret (.sh (.int (ns.getD 2 0))):=Zu ns 2
 have k3:ų [.sh (.lst (ns.map .int)),.sh (.int 3)]=.ret (.sh (.int (ns.getD 3 0))):=Zu ns 3
 generalize ns.getD 6 0=v6 at *
 generalize ns.getD 2 0=v2 at *
 generalize ns.getD 3 0=v3 at *
 obtain⟨d,hd⟩:=Z2u a b c e f g (v6+5*(k:Int))
 obtain⟨p,e1⟩:=Z0k (v2+3*(k:Int)) hw hh0 (by omega) (by omega)
 obtain⟨q,e2⟩:=Z0k (v3+2*(k:Int)) hw hh0 (by omega) (by omega)
 obtain⟨r,e3,e4⟩:=Z2s hw hw2 hh vM hT hg Ka hD p q d
 have m1:ĺ 5 (k:Int)=true:=by simp[ĺ]
 have m2:ĺ 3 (k:Int)=true:=by simp[ĺ]
 have m3:ĺ 2 (k:Int)=true:=by simp[ĺ]
 refine⟨.sh (.int d),.ow [tp p,tp q],?_⟩
 generalize Z0 w h T D=Yv at *
 generalize tp p=pv at *
 generalize tp q=qv at *
 generalize ([.int a,.int b,.int c,.int e,.int f,.int g]:List PV)=SM at *
 generalize ns.map PV.int=NS at *
 simp[uT,k6,k2,k3,m1,m2,m3,hd,e1,e2,e3,e4,-Z04]
def Z2w{l:PySem.W.OpenLaw}{w:World}{K:PySem.W.Frag}{mg:Str->Option Value}{fa:Addr}{a:uU}(T:Tx K mg a)(hfa:mg "law" =some (.ref fa)):∃fd:FuncData,(∀(s:Shared) (v:Value),BindsTo s fd ⟨[v],[]⟩ [("_law_script",v)])/\∀base:Heap,K.In base->base.Ns mainGlobals mg->∃cm,ģ l.prog w K mg base (Ŗ l.prog w) 12 fa fd ["_law_script"] (š ⟨K,cm⟩ 1 sY):=by
 have e:=hfa.symm.trans T.Js.m
 cases e
 exact⟨a.Jm,λs v=>T.Js.bb s [v] rfl,λbase _ _=>⟨_,Za6 T⟩⟩
def Z1K(ns:List Int)(hn:ns.length<=63):sY [.sh (.lst (ns.map .int))]=.ret (.sh (.bl true)):=by
 have k0:ų [.sh (.lst (ns.map .int)),.sh (.int 0)]=.ret (.sh (.int (ns.getD 0 0))):=Zu ns 0
 have k1:ų [.sh (.lst (ns.map .int)),.sh (.int 1)]=.ret (.sh (.int (ns.getD 1 0))):=Zu ns 1
 have k6:ų [.sh (.lst (ns.map .int)),.sh (.int 6)]=.ret (.sh (.int (ns.getD 6 0))):=Zu ns 6
 obtain⟨c0,e0⟩:∃c,ns.getD 0 0=c:=⟨_,rfl⟩
 obtain⟨c1,e1⟩:∃c,ns.getD 1 0=c:=⟨_,rfl⟩
 obtain⟨c6,e6⟩:∃c,ns.getD 6 0=c:=⟨_,rfl⟩
 rw[e0] at k0
 rw[e1] at k1
 rw[e6] at k6
 obtain⟨w,h,hs,w1,w2,h1,h2,wh⟩:=Z1D c0
 obtain⟨ys,hy,hyl⟩:=slI ns (some 4) (some 6)
 obtain⟨T,hT,hTl,hTg⟩:=Z0C ⟨w1,w2⟩ ⟨h1,h2⟩ ys [] .no (by simp;omega)
 rw[List.nil_append] at hT
 obtain⟨m,hm⟩:∃m:Nat,c1 % 4=(m:Int):=⟨(c1 % 4).toNat,by omega⟩
 obtain⟨D,hD,hDl,hDg⟩:=Z23 ns (n:=m) (lg:=4) (by omega) (by omega) (by omega)
 have hD':xr [.sh (.lst (ns.map .int)),.sh (.int 7),.sh (.int m),.sh (.int 4)]=.ret (.ow (D.map bW)):=hD
 have q1:=Z1j (T:=T) (by omega) hTg .no .no
 have q2:=Z1Z (w:Int) (h:Int) (T:=T) (D:=D) (by omega) (by omega) (s3:=.sh (.lst (T.map qI))) (s4:=.bw (D.map bW)) (.inl rfl) (.inr rfl)
 have rr:=ZV (n:=3) (by omega)
 have hp:oR 10 12=true:=by decide
 obtain⟨L,hL⟩:∃L:Int,((D.map bW).length:Int)=L:=⟨_,rfl⟩
 obtain⟨F,hF⟩:∃F:Int,c6 / 4 % 1000000000000=F:=⟨_,rfl⟩
 obtain⟨ρ',el,s7,s8,s9,rfl⟩:=iy (g:=gN 7) (mb:=uT) (λ(k:Nat)=>PV.int k) (λ(_:Unit) (_:Nat)=>()) (λ_ ρ=>∃s7 s8 s9,ρ=[.sh (.lst (ns.map .int)),.sh (.tup [.int w,.int h]),.sh (.lst (T.map ZA)),.ow (D.map bW),.sh (Z0 w h T D),.sh (.int F),.ow [.int 0,.int (L-1),.int L,.int (-1),.int (L+F),.int (-1-F)],s7,s8,s9]) (List.range 3) (by
  rintro k _ _ ρ ⟨s7,s8,s9,rfl⟩
  obtain⟨t8,t9,e⟩:=Z2v (w:=w) (h:=h) (by omega) (by omega) (by omega) (by omega) (by omega) (T:=T) (by omega) (D:=D) hTg (lg:=4) (by omega) hDg ns 0 (L-1) L (-1) (L+F) (-1-F) (.sh (.lst (T.map ZA))) (.ow (D.map bW)) (.sh (.int F)) s8 s9 k
  exact⟨_,_,rfl,e,_,_,_,rfl⟩) () [.sh (.lst (ns.map .int)),.sh (.tup [.int w,.int h]),.sh (.lst (T.map ZA)),.ow (D.map bW),.sh (Z0 w h T D),.sh (.int F),.ow [.int 0,.int (L-1),.int L,.int (-1),.int (L+F),.int (-1-F)],.no,.no,.no] ⟨_,_,_,rfl⟩
 have rr':bI [.int 3]=some ((List.range 3).map λ(k:Nat)=>PV.int k):=rr
 have hY:PV.ins "Yard" ["width","height","things","days"] [.int w,.int h,.lst (T.map qI),.lst (D.map bW)]=Z0 w h T D:=rfl
 generalize Z0 w h T D=Yv at *
 generalize ns.map PV.int=NS at *
 generalize ys.map PV.int=YS at *
 generalize T.map ZA=TR at *
 generalize T.map qI=TV at *
 generalize D.map bW=DV at *
 generalize (List.range 3).map (λ(k:Nat)=>PV.int k)=KK at *
 simp[sY,Jf,List.replicate,fH,Ŭ,k0,k1,k6,hs,Pu,hy,hT,hm,hD',q1,bh,q2,hY,hp,hL,hF,rr',el,-Z04]
def Z2x{l:PySem.W.OpenLaw}{q:Program}{loose:List Str}{XP:(Str->Option Value)->Heap->Prop}{YP:World->Heap->Prop}{d:DefRec}{K:Params->PySem.W.Frag}(hn:l.most=some 63)(hdf:d.params.defaults=[])
 (hY:∀(w:World) (h:Heap),YP w h->(K w.params).In h)
 (F:∀(w:World) (mg:Str→Option Value) (fa:Addr) (h:Heap),(K w.params).In h→h.Ns mainGlobals mg→mg d.name=some (.ref fa)→
   ∃fd:FuncData,(∀(s:Shared) (u:Value),BindsTo s fd ⟨[u],[]⟩ [("_law_script",u)])/\∀base:Heap,(K w.params).In base->base.Ns mainGlobals mg->∃cm,ģ l.prog w (K w.params) mg base (Ŗ l.prog w) 12 fa fd ["_law_script"] (š ⟨K w.params,cm⟩ 1 sY))
 (hnt:∀w:World,PySem.W.noTabs (K w.params)=true)(hrec:∀y,y∈lams->∃d,(PyProof.Rows.recsOf q).find? (λe=>e.name== y)=some d) :
 PySem.W.WalkO q loose XP YP l.row.toRowW d [] (λf vs=>PySem.call f vs):=
 P.Dw (k:=12) (x:= "_law_script") (m:=sY) hn hdf ⟨rfl,by decide,by decide⟩ hY F Z1K (hnt:=λ_=>hnt) (hrec:=hrec)
end
end T
namespace PySem.W.Fast
def tw12453088825070765615:=0
def tw3957192100783605636:=0
def tw774593151205958370:=0
def tw1916180662425422244:=0
def tw5732554414982235474:=0
def tw10614141425998840468:=0
def tw15074839137190790872:=0
def tw12984440882653409266:=0
def tw5533801236088556568:=0
def tw3758878274404112425:=0
def tw17809285136331073789:=0
def tw18062298331452046578:=0
def tw10462097136051837619:=0
def tw12816521088450039474:=0
def tw12140216744888136301:=0
def tw16734180788572730418:=0
def tw8719735640007866981:=0
def tw16518104720087831733:=0
def tw6836036585696446619:=0
def tw7393034173124376430:=0
def tw7510541304866024176:=0
def tw7019910873851065746:=0
def tw7462737377804228266:=0
def tw10670752645244069143:=0
def tw9637620743516419852:=0
def tw4088492525232435737:=0
def tw5757681869289306500:=0
def tw11235072226008569155:=0
def tw10801622745276247833:=0
def tw6673445156551979378:=0
def tw15572781296247640935:=0
def tw9545927408675718740:=0
def tw14680403778307889104:=0
def tw3390678795884462047:=0
def tw7643780944539590336:=0
def tw17947396175645642516:=0
def tw15472018905011648088:=0
def tw5006090834706930387:=0
def tw3529966763538452938:=0
def tw9707692964977243593:=0
def tw1541388031260198277:=0
def tw7872315552672798561:=0
def tw12723303337921539229:=0
def tw1211597415015712540:=0
def tw4262873784381259100:=0
def tw15615407003337620627:=0
def tw5265439612755839492:=0
def tw15960945811853850358:=0
def tw13263163740169302948:=0
def tw4318144058054064670:=0
def tw2944993863795797765:=0
def tw7015468447738319775:=0
def tw12273990969138433022:=0
def tw8960962093900945839:=0
def tw4734399247838649378:=0
def tw11364525134674566623:=0
def tw13249703754950421684:=0
def tw4649333983897429702:=0
def tw2439777027109633576:=0
def tw11229619015623186784:=0
def tw523162448855354095:=0
def tw1822103384751750212:=0
def tw15568099724324471313:=0
def tw4311135331338093495:=0
def tw5301032279076949613:=0
def tw3505537600579620330:=0
def tw1658332916385409849:=0
def tw14594511593719046954:=0
def tw14190066466174911269:=0
def tw16400262609770374448:=0
def tw11521908356622166262:=0
def tw3923626522262687877:=0
def tw9323981218383250519:=0
def tw2288170261124792198:=0
def tw14278774652750729136:=0
def tw9007676149183287741:=0
def tw9434397200346147348:=0
def tw5845581154868607341:=0
def tw8291999525890787659:=0
def tw1412520701320442127:=0
def tw2482755723589347847:=0
def tw2935553066875664852:=0
def tw17562023354714027458:=0
def tw6758228268511931684:=0
def tw5429116098057020208:=0
def tw7152508025101946247:=0
def tw12504239108872989808:=0
def tw6086725620753255282:=0
def tw11131347380837662465:=0
def tw18104931239921083021:=0
def tw15568362708434132222:=0
def tw18294027157256182926:=0
def tw5508544641153088744:=0
def tw2760829602536396344:=0
def tw837083948875143705:=0
def tw4729294105647734513:=0
def tw2438791096193811052:=0
def tw6678634879321049987:=0
def tw6231345157569199609:=0
def tw14726039264257432515:=0
def tw14646351732265485451:=0
def tw3214355952739667656:=0
def tw16933058388110290098:=0
def tw13915929901580059487:=0
def tw5966249377566960480:=0
def tw727447658287137046:=0
def tw18425002926775195171:=0
def tw12639590048202720257:=0
def tw1189588538556524240:=0
def tw4383799045440133891:=0
def tw12274265790410212348:=0
def tw15337076955857039248:=0
def tw14101341347145379681:=0
def tw16659063988487451608:=0
def tw10482802673890026636:=0
def tw6440325405486333883:=0
def tw9798553927096596639:=0
def tw9757716270618305261:=0
def tw8758001366759455053:=0
def tw9272248188052617570:=0
def tw2734273530097199372:=0
def tw14325359855540108277:=0
def tw10514862194789865566:=0
def tw11454962057653027620:=0
def tw7192888401849550604:=0
def tw14541738023822593780:=0
def tw13590256289628421620:=0
def tw17510826498709486110:=0
def tw14019077070369700699:=0
def tw12755484903814569721:=0
def tw15319933035514092310:=0
def tw13618654521462802399:=0
def tw18433742083785682538:=0
def tw3458737222395656074:=0
def tw7577486961160685412:=0
def tw13010105368183715636:=0
def tw13834991567371095926:=0
def tw5632597710530356321:=0
def tw5188775545680740767:=0
def tw13200382095817393892:=0
def tw1365882906722058305:=0
def tw10428867872068858890:=0
def tw14793023046957433313:=0
def tw15485643133480509393:=0
def tw16061903493080140439:=0
def tw12162560505768314675:=0
def tw11068065389877488722:=0
def tw9193100795608819647:=0
def tw6521826624170617779:=0
def tw11385219016760025611:=0
def tw1544195655638825263:=0
def tw16522980913771483322:=0
def tw3379490108066369643:=0
def tw16618892828542136589:=0
def tw1703473414646785577:=0
def tw17384784538465608992:=0
def tw3310316100124659837:=0
def tw2064379882820745938:=0
def tw13727056562971120146:=0
def tw6428152797073347387:=0
def tw15375510743360513829:=0
def tw11720308769130330874:=0
def tw6157187433802330566:=0
def tw15588366629878603079:=0
def tw10310661148652499106:=0
def tw13705283260811854260:=0
def tw6085869264155266181:=0
def tw7396750248224938102:=0
def tw1560901725352093187:=0
def tw4429205504321660729:=0
def tw1062254826032850851:=0
def tw10089406899135974113:=0
def tw11115820149014660120:=0
def tw15451500924801647922:=0
def tw13792801132806386378:=0
def tw15809563408021620593:=0
def tw13889337905134489192:=0
def tw13419132821633948442:=0
def tw6592011225920208281:=0
def tw6766805767113598997:=0
def tw14681162346648351078:=0
def tw11677176406779657693:=0
def tw12405981851518655429:=0
def tw4886888773531518921:=0
def tw9780961777280539703:=0
def tw1513130786769118488:=0
def tw17942908380417793659:=0
def tw1787103072445631407:=0
def tw5774691700259693809:=0
def tw6895593928004921831:=0
def tw4797609494719621019:=0
def tw6581779286787345491:=0
def tw11203861076295801312:=0
def tw12954764901624003617:=0
def tw17430205661702188531:=0
def tw11063386484371622501:=0
def tw7946771936798676085:=0
def tw7146722570398607178:=0
def tw3351601137941112478:=0
def tw26926448168825346:=0
def tw13934293057011020904:=0
def tw17449681332942693073:=0
def tw947468910415219333:=0
def tw20632850395506651:=0
def tw510957633398741732:=0
def tw4817869190018103601:=0
def tw9807694307949145895:=0
def tw1645952612475626063:=0
def tw7780676794527437337:=0
def tw10145729004792058107:=0
def tw18336620079162758981:=0
def tw6802399740073877531:=0
def tw12705671959005005945:=0
def tw12571016570502608913:=0
def tw14906749064430461263:=0
def tw1242897641735982268:=0
def tw4164279064139799123:=0
def tw15049275564915997204:=0
def tw799918041446524860:=0
def tw10587489964688678072:=0
def tw6607286180933908633:=0
def tw1319132136874912583:=0
def tw15585853924686466128:=0
def tw12904330681049119449:=0
def tw1674885955409231018:=0
def tw8517958904585445142:=0
def tw11085964197197809432:=0
def tw1746812249379488429:=0
def tw10363439350769537836:=0
def tw2745295161166575824:=0
def tw5600361120444452977:=0
def tw9044955282384772882:=0
def tw15781340710456801573:=0
def tw648085697682338283:=0
def tw10031441810649760757:=0
def tw2054197292227151100:=0
def tw17267147182310908337:=0
def tw13563400335988284680:=0
def tw1681043672127931707:=0
def tw10284902648417425932:=0
def tw727729988456072925:=0
def tw9483544615899627672:=0
def tw2329878816381063365:=0
def tw10630715469646417098:=0
def tw11360225708176140892:=0
def tw8099529967409503336:=0
def tw14330745657533881574:=0
def tw2151384524650836685:=0
def tw16369508972919653227:=0
def tw5015536265165822493:=0
def tw9723603179526630021:=0
def tw5844420814868512569:=0
def tw11908007910824033113:=0
def tw6472424804037561129:=0
def tw17232252367030334583:=0
def tw2479410817789853703:=0
def tw12064657729190112318:=0
def tw4366815353678210842:=0
def tw17252925006565367904:=0
def tw5506089527443010678:=0
def tw760236239711657418:=0
def tw2079613017391801342:=0
def tw16710952229943681243:=0
def tw4296962011892103163:=0
def tw13861626124309449135:=0
def tw12187328351468050149:=0
def tw9754264047612951847:=0
def tw13374184920374199622:=0
def tw984779253043859250:=0
def tw16598471154300054277:=0
def tw17685630377856760146:=0
def tw13804940652900748310:=0
def tw1241085088780641675:=0
def tw8344797670896782171:=0
def tw11197005131869273774:=0
def tw9587614699979522924:=0
def tw10879476429717302281:=0
def tw12794184816360256990:=0
def tw16575459880664213912:=0
def tw5347765028097170751:=0
def tw2074439194238422712:=0
def tw9384955824479510349:=0
def tw12185572971006686223:=0
def tw5922376880153306937:=0
def tw2959826775367001636:=0
def tw15252438444427694387:=0
def tw3004415662103572738:=0
def tw3789426360933773274:=0
def tw14088501820952566986:=0
def tw16960474712591187513:=0
def tw13510182437750807926:=0
def tw5265432372025338976:=0
def tw6533157885391201044:=0
def tw9628179498904355578:=0
def tw9006819808761247966:=0
def tw8147418918773996013:=0
def tw16753751010647021293:=0
def tw11459371165164400403:=0
def tw17721121134685262800:=0
def tw3689738424466771072:=0
def tw8135322747927113054:=0
def tw10603998239381007556:=0
def tw910813874381171566:=0
def tw2419392949241930678:=0
def tw11503899003822206862:=0
def tw2433411846637129595:=0
def tw4122763990018307926:=0
def tw14713528945412069697:=0
def tw7524125470195176606:=0
def tw11233919159824085343:=0
def tw12461471237203495803:=0
def tw7234197418568968859:=0
def tw1810574707077798213:=0
def tw14629351766471618571:=0
def tw700673864458079745:=0
def tw15839108125987654058:=0
def tw10739055004266921364:=0
def tw12741088462292133196:=0
def tw15161268223613793753:=0
def tw17611822988379487807:=0
def tw18123771038499372335:=0
def tw7437117583765573649:=0
def tw16967825576746270160:=0
def tw15202017355049286723:=0
def tw4590247390016485145:=0
def tw9354196771786484906:=0
def tw10789103794657419326:=0
def tw8025324042469124463:=0
def tw6378341417966824821:=0
def tw13060411878465539805:=0
def tw16124182593338248480:=0
def tw8650462292149627753:=0
def tw9227602665945573376:=0
def tw1270347233542530056:=0
def tw14267463037237385203:=0
def tw17821322373731376548:=0
def tw4443489195424228072:=0
def tw16294114597586258924:=0
def tw10162499877919411146:=0
def tw6182225212395663409:=0
def tw18405991836593627284:=0
def tw8333872401728712334:=0
def tw8587216037523543936:=0
def tw11670331059415650687:=0
def tw3483329424824269724:=0
def tw9657664535089053213:=0
def tw2649051847683614063:=0
def tw3101419076007943810:=0
def tw7952383478369594721:=0
def tw10192548895581673208:=0
def tw10343947118447307792:=0
def tw7672685710215915418:=0
def tw8436177486762072638:=0
def tw6146179312606569179:=0
def tw8445970612593646287:=0
def tw5192405778708225282:=0
def tw696811377436756724:=0
def tw9082761875474255703:=0
def tw9167714907811790517:=0
def tw3950228246801186942:=0
def tw3954310842870445511:=0
def tw2163366886387111647:=0
def tw12507895402380464949:=0
def tw1725392908778058911:=0
def tw13925357537409716808:=0
def tw6515468009240948762:=0
def tw1950203982534001972:=0
def tw10019060789279248920:=0
def tw18426006511132009750:=0
def tw760183901321552248:=0
def tw14860046815288127667:=0
def tw11882029209795231493:=0
def tw4264939441588902656:=0
def tw11563266613777111611:=0
def tw11421074583792042785:=0
def tw12634079716098230554:=0
def tw3392648609568245552:=0
def tw14100568704026510256:=0
def tw18025257103034793059:=0
def tw13616890289230198658:=0
def tw16167034584633284930:=0
def tw15099296342214507492:=0
def tw14154821987763309:=0
def tw6110615138417082977:=0
def tw1458564464488219246:=0
def tw1645654738777318570:=0
def tw1290663048346592976:=0
def tw1196866031662865097:=0
def tw4280564206862598635:=0
def tw14655224296582457871:=0
def tw12561379034064375172:=0
def tw10239614315197034830:=0
def tw5063617877192580550:=0
def tw12534709325759275273:=0
def tw14997862019180480682:=0
def tw5531496543779419164:=0
def tw6537289755674985969:=0
def tw546944824720855353:=0
def tw15907388721209617630:=0
def tw17377208017217519084:=0
def tw16685539236370175820:=0
def tw12603757978052751796:=0
def tw9175596148099802703:=0
def tw11549109822098699952:=0
def tw2652225807984225634:=0
def tw17849258944901060184:=0
def tw13037077517499589743:=0
def tw17238691399312025476:=0
def tw16601726258400934273:=0
def tw17560799730376636511:=0
def tw1575877921838071297:=0
def tw1571937159205159895:=0
def tw228253020152212458:=0
def tw1551561367119631708:=0
def tw17634228183021876462:=0
def tw4265189876165010716:=0
def tw15041536851357032767:=0
def tw3108914628137325426:=0
def tw4327676883658717727:=0
def tw11022582298048940786:=0
def tw13196466730678156556:=0
def tw9175660773598742722:=0
def tw2146257619083718592:=0
def tw5266078615506203689:=0
def tw16626579756379158545:=0
def tw7700921918268686437:=0
def tw1087788257665188457:=0
def tw8699279498549991285:=0
def tw12962655621893920317:=0
def tw4513678491532026351:=0
def tw2941719847477531656:=0
def tw16917906627422023011:=0
def tw4178208569413509563:=0
def tw12678421006151432036:=0
def tw15050568128866308319:=0
def tw7189423937385117345:=0
def tw8522506881782319093:=0
def tw2418527585696271108:=0
def tw13710012826103670992:=0
def tw13857675520386384844:=0
def tw640203613671826439:=0
def tw14879343069086346578:=0
def tw6985637738887674802:=0
def tw9742913802318632247:=0
def tw15617604234279448166:=0
def tw9626368229695146847:=0
def tw9899351531820261000:=0
def tw13998495612763863405:=0
def tw12460504698350736159:=0
def tw10911410525604438350:=0
def tw2396891471980306790:=0
def tw2638760195780405649:=0
def tw6399240210857989096:=0
def tw9603536761585120208:=0
def tw13933445586502116542:=0
def tw14756214636773985822:=0
def tw5147880329974497631:=0
def tw14156838024994416761:=0
def tw14890339634212970262:=0
def tw9824013768336414374:=0
def tw11460149690516655594:=0
def tw18311147192791553648:=0
def tw12194305277899163660:=0
def tw4055759882352020325:=0
def tw9154955701722575700:=0
def tw7293542086704183521:=0
def tw16990967495126439532:=0
def tw15311073094541190547:=0
def tw7623792154624965490:=0
def tw13550979983996816711:=0
def tw10505421722307753192:=0
def tw5875720002241554502:=0
def tw9531315306796090900:=0
def tw16097941159950086069:=0
def tw3084911111469526586:=0
def tw5005026547487372724:=0
def tw10267611870047110663:=0
def tw11321940334842211136:=0
def tw2945446877368443360:=0
def tw12979757084352040833:=0
def tw17529136089028923767:=0
def tw2217767842066792309:=0
def tw17924411813970406160:=0
def tw11900313011182455019:=0
def tw14162702451986807692:=0
def tw6597471014626055004:=0
def tw11694472552169837342:=0
def tw11508305658492250069:=0
def tw17471633894213005852:=0
def tw12186600068120930437:=0
def tw2687772117292837890:=0
def tw11659024726379549781:=0
def tw14597535698250854810:=0
def tw3023397321546235704:=0
def tw8142084112047285152:=0
def tw230197751885700523:=0
def tw4779058867980744651:=0
def tw12641202814567188797:=0
def tw15002409688623237976:=0
def tw360397760250016384:=0
def tw17136434597437790374:=0
def tw7235944393317401369:=0
def tw6052659030405579476:=0
def tw2053215195970275418:=0
def tw3971236424880131449:=0
def tw11095062758882065844:=0
def tw16483031520933566065:=0
def tw2268452512904029580:=0
def tw8204767570089376530:=0
def tw5809712516959096669:=0
def tw9729755235172033789:=0
def tw8883309616141168380:=0
def tw7550759774203890327:=0
def tw3519357002106661312:=0
def tw1525775394955472751:=0
def tw12224119069749700471:=0
def tw12324390996515559528:=0
def tw13061814828860915220:=0
def tw1249712211840620509:=0
def tw5782705940777287952:=0
def tw10034849316040831911:=0
def tw3882453762440753766:=0
def tw8556739658015740153:=0
def tw17354748375310026895:=0
def tw7760432749467867866:=0
def tw10531337653366926758:=0
def tw4872153365976976550:=0
def tw11039833456110560742:=0
def tw17177145170927075719:=0
def tw6663443372387521712:=0
def tw17615863495144419629:=0
def tw8583908789463687473:=0
def tw2597162960437557765:=0
def tw15883109912110415071:=0
def tw1311388113017739379:=0
def tw15701049827652519003:=0
def tw15292504199818239139:=0
def tw17090101654457676697:=0
def tw9423411538121379687:=0
def tw791305335801511766:=0
def tw12453221084395091686:=0
def tw16181823210132975673:=0
def tw8792119990366983995:=0
def tw105607306568042088:=0
def tw9455720251659927685:=0
def tw15553322876967487590:=0
def tw462923375190217669:=0
def tw1610904595474392925:=0
def tw7600110438189971400:=0
def tw18339401098853815248:=0
def tw17391963928860461380:=0
def tw2072211132133514791:=0
def tw1303200615210022867:=0
def tw6318228853306937172:=0
def tw8692219760718635058:=0
def tw9688616798909059017:=0
def tw14834942871950118301:=0
def tw6272447749627555772:=0
def tw4024399308939167345:=0
def tw11083103476768167613:=0
def tw11024453362889181547:=0
def tw15418314690155185658:=0
def tw2458933470202649281:=0
def tw10217602054957542141:=0
def tw17466991609910300918:=0
def tw8249926753641293294:=0
def tw2422180308314715770:=0
def tw6989185800185894665:=0
def tw14676842802163531505:=0
def tw2484021617209450230:=0
def tw18028936120021309668:=0
def tw17053921023832306543:=0
def tw17830633725686114422:=0
def tw590851474946181281:=0
def tw3533580261437816138:=0
def tw1979042004758720410:=0
def tw5894622376678884768:=0
def tw2647242371440563886:=0
def tw2216087626550738570:=0
def tw17635353330255574057:=0
def tw17459915823362723678:=0
def tw12387240264315558718:=0
def tw10864550931253470346:=0
def tw11415752938402467032:=0
def tw10176977367973122702:=0
def tw13549529567051519848:=0
def tw11907877135891375123:=0
def tw16781557345855930680:=0
def tw5539860382891974402:=0
def tw9218670458022647716:=0
def tw1579989198489928832:=0
def tw5438733530391546842:=0
def tw8305805550098800954:=0
def tw550505376532718703:=0
def tw14207513808603879444:=0
def tw1210001849362417092:=0
def tw14742811740837325116:=0
def tw17059212374269106086:=0
def tw8621145287216667657:=0
def tw8485703985372456093:=0
def tw1363487675460369901:=0
def tw6803346668731491705:=0
def tw16590991074050097272:=0
def tw12780411114613169036:=0
def tw16038325459023059231:=0
def tw1376496131883862242:=0
def tw10131179271470504028:=0
def tw12462933211300620202:=0
end PySem.W.Fast
open PySem PySem.W PyProof.Rows
set_option maxRecDepth 100000 in
set_option maxHeartbeats 0 in
theorem PySem.Challenge.cw_shadowpost_k63_walks_refused_holds : PySem.Challenge.rw_shadowpost_k63_walks_refused.Holds := by
 w_on;o_law;k_head;(case hw=>w_witness2)
 k_fill
 refine T.Z2x (l:=PySem.Challenge.rw_shadowpost_k63_walks_refused) rfl rfl (λw h Y=>by first|exact PySem.W.kIn_of Y|exact PySem.W.km_in_of Y) ?F ?hnt ?hrec
 case hnt=>intro w;kernel_rfl
 case hrec=>
  intro y hy
  have e:y=PySem.Str.ofString "best_step" := by simpa[L2.lams] using hy
  subst e
  exact⟨_,rfl⟩
 case F=>
  intro w mg fa h KX G hmg
  refine' T.Z2w (a:=T.uU.mk) (T.Tx.mk (mg_of KX G ?_) (mg_of KX G ?_) (mg_of KX G ?_) (mg_of KX G ?_) (mg_of KX G ?_) (mg_of KX G ?_) (mg_of KX G ?_) (mg_of KX G ?_) (mg_of KX G ?_) (mg_of KX G ?_) (mg_of KX G ?_) (mg_of KX G ?_) (mg_of KX G ?_) (mg_of KX G ?_) (mg_of KX G ?_) (P.ĩ KX G (λ_ _ _ _ _ _ _ _=>rfl) ?_ ?_ ?_ ?_) (P.ĩ KX G (λ_ _ _ _ _ _ _ _=>rfl) ?_ ?_ ?_ ?_) (P.ĩ KX G (λ_ _ _ _ _ _ _ _=>rfl) ?_ ?_ ?_ ?_) (P.ĩ KX G (λ_ _ _ _ _ _ _=>rfl) ?_ ?_ ?_ ?_) (P.ĩ KX G (λ_ _ _ _ _ _ _ _ _ _=>rfl) ?_ ?_ ?_ ?_) (P.gA (λ_ _ _ _ _ _ _ _ _ _ _=>rfl) ?_ ?_ ?_ ?_) (P.ĩ KX G (λ_ _ _ _ _ _ _=>rfl) ?_ ?_ ?_ ?_) (P.ĩ KX G (λ_ _ _ _ _ _ _ _=>rfl) ?_ ?_ ?_ ?_) (P.ĩ KX G (λ_ _ _ _ _ _ _ _=>rfl) ?_ ?_ ?_ ?_) (P.ĩ KX G (λ_ _ _ _ _ _ _=>rfl) ?_ ?_ ?_ ?_) (P.ĩ KX G (λ_ _ _ _ _ _ _=>rfl) ?_ ?_ ?_ ?_) (P.ĩ KX G (λ_ _ _ _ _ _ _=>rfl) ?_ ?_ ?_ ?_) (P.gA (λ_ _ _ _ _ _ _ _ _=>rfl) ?_ ?_ ?_ ?_) (P.ĩ KX G (λ_ _ _ _ _ _ _=>rfl) ?_ ?_ ?_ ?_) (P.ĩ KX G (λ_ _ _ _ _ _ _=>rfl) ?_ ?_ ?_ ?_) (P.ĩ KX G (λ_ _ _ _ _ _ _=>rfl) ?_ ?_ ?_ ?_) (P.ĩ KX G (λ_ _ _ _ _ _ _=>rfl) ?_ ?_ ?_ ?_) (P.ĩ KX G (λ_ _ _ _ _ _ _=>rfl) ?_ ?_ ?_ ?_) (P.ĩ KX G (λ_ _ _ _ _ _ _ _=>rfl) ?_ ?_ ?_ ?_) (P.ĩ KX G (λ_ _ _ _ _ _ _ _=>rfl) ?_ ?_ ?_ ?_) (P.ĩ KX G (λ_ _ _ _ _ _ _ _=>rfl) ?_ ?_ ?_ ?_) (P.ĩ KX G (λ_ _ _ _ _ _ _ _ _ _=>rfl) ?_ ?_ ?_ ?_) (P.ĩ KX G (λ_ _ _ _ _ _ _ _=>rfl) ?_ ?_ ?_ ?_) (P.ĩ KX G (λ_ _ _ _ _ _ _ _=>rfl) ?_ ?_ ?_ ?_) (P.ĩ KX G (λ_ _ _ _ _ _ _ _=>rfl) ?_ ?_ ?_ ?_) (P.ĩ KX G (λ_ _ _ _ _ _ _ _=>rfl) ?_ ?_ ?_ ?_) (P.ĩ KX G (λ_ _ _ _ _ _ _ _=>rfl) ?_ ?_ ?_ ?_) (P.ĩ KX G (λ_ _ _ _ _ _ _ _=>rfl) ?_ ?_ ?_ ?_) (P.ĩ KX G (λ_ _ _ _ _ _ _=>rfl) ?_ ?_ ?_ ?_) (P.ĩ KX G (λ_ _ _ _ _ _ _=>rfl) ?_ ?_ ?_ ?_) (P.ĩ KX G (λ_ _ _ _ _ _ _ _=>rfl) ?_ ?_ ?_ ?_) (P.ĩ KX G (λ_ _ _ _ _ _ _ _=>rfl) ?_ ?_ ?_ ?_) (P.ĩ KX G (λ_ _ _ _ _ _ _=>rfl) ?_ ?_ ?_ ?_) (P.ĩ KX G (λ_ _ _ _ _ _ _=>rfl) ?_ ?_ ?_ ?_) (P.ĩ KX G (λ_ _ _ _ _ _ _ _=>rfl) ?_ ?_ ?_ ?_) (P.ĩ KX G (λ_ _ _ _ _ _ _ _ _ _ _=>rfl) ?_ ?_ ?_ ?_) (P.ĩ KX G (λ_ _ _ _ _ _ _ _ _ _ _=>rfl) ?_ ?_ ?_ ?_) (P.gA (λ_ _ _ _ _ _ _=>rfl) ?_ ?_ ?_ ?_) (P.gA (λ_ _ _ _ _ _ _=>rfl) ?_ ?_ ?_ ?_) (P.gA (λ_ _ _ _ _ _ _=>rfl) ?_ ?_ ?_ ?_) (P.gA (λ_ _ _ _ _ _ _=>rfl) ?_ ?_ ?_ ?_) (P.gA (λ_ _ _ _ _ _ _=>rfl) ?_ ?_ ?_ ?_) (P.ĩ KX G (λ_ _ _ _ _ _ _ _=>rfl) ?_ ?_ ?_ ?_) (P.ĩ KX G (λ_ _ _ _ _ _ _ _=>rfl) ?_ ?_ ?_ ?_) (P.ĩ KX G (λ_ _ _ _ _ _ _ _ _ _=>rfl) ?_ ?_ ?_ ?_) (P.ĩ KX G (λ_ _ _ _ _ _ _ _ _=>rfl) ?_ ?_ ?_ ?_) (P.ĩ KX G (λ_ _ _ _ _ _ _ _=>rfl) ?_ ?_ ?_ ?_) (P.ĩ KX G (λ_ _ _ _ _ _ _ _=>rfl) ?_ ?_ ?_ ?_) (P.ĩ KX G (λ_ _ _ _ _ _ _ _=>rfl) ?_ ?_ ?_ ?_) (P.ĩ KX G (λ_ _ _ _ _ _ _ _=>rfl) ?_ ?_ ?_ ?_) (P.ĩ KX G (λ_ _ _ _ _ _ _ _ _=>rfl) ?_ ?_ ?_ ?_) (P.ĩ KX G (λ_ _ _ _ _ _ _ _ _ _=>rfl) ?_ ?_ ?_ ?_) (P.ĩ KX G (λ_ _ _ _ _ _ _ _ _ _=>rfl) ?_ ?_ ?_ ?_) (P.ĩ KX G (λ_ _ _ _ _ _ _ _ _=>rfl) ?_ ?_ ?_ ?_) (P.ĩ KX G (λ_ _ _ _ _ _ _ _ _ _=>rfl) ?_ ?_ ?_ ?_) (P.ĩ KX G (λ_ _ _ _ _ _ _ _ _ _=>rfl) ?_ ?_ ?_ ?_) (P.ĩ KX G (λ_ _ _ _ _ _ _ _ _ _=>rfl) ?_ ?_ ?_ ?_) (P.ĩ KX G (λ_ _ _ _ _ _ _=>rfl) ?_ ?_ ?_ ?_) (P.gA (λ_ _ _ _ _ _ _ _=>rfl) ?_ ?_ ?_ ?_) (P.gA (λ_ _ _ _ _ _ _ _ _=>rfl) ?_ ?_ ?_ ?_) (P.gA (λ_ _ _ _ _ _ _ _=>rfl) ?_ ?_ ?_ ?_) (P.gA (λ_ _ _ _ _ _ _ _=>rfl) ?_ ?_ ?_ ?_) (mg_of KX G ?_) (mg_of KX G ?_) (mg_of KX G ?_) (mg_none_of KX G ?_) (mg_none_of KX G ?_) (mg_none_of KX G ?_) (mg_none_of KX G ?_) (mg_none_of KX G ?_) (mg_none_of KX G ?_) (mg_none_of KX G ?_) (mg_none_of KX G ?_) (mg_none_of KX G ?_) (mg_none_of KX G ?_) (mg_none_of KX G ?_) ?_ ?_ ?_ ?_ ?_ ?_ ?_ ?_ ?_ (P.uD ?_) ?_ ?_ (P.uD ?_) ?_ ?_ ?_ (P.uD ?_) ?_ ?_ ?_ ?_ ?_ (P.uD ?_) ?_ ?_ (P.jt ?_) (P.pB ?_) ?_ ?_ ?_ ?_ (P.jt ?_) (P.pB ?_) ?_ ?_ (P.jt ?_) (P.pB ?_) ?_ ?_ (P.jK ?_) (P.jt ?_) (P.pB ?_) ?_ ?_ (P.jK ?_) (P.jt ?_) (P.pB ?_) ?_ ?_ (P.jK ?_) (P.jt ?_) (P.pB ?_) ?_ ?_ (P.jK ?_) (P.jt ?_) (P.pB ?_) ?_ ?_ (P.jK ?_) ?_ ?_ (P.uz ?_) (P.uz ?_) (P.Hr ?_) (P.Hs ?_) (P.Ht ?_) (P.BX ?_) ?_) hmg
  any_goals (dsimp only;k_is)
  any_goals first|kernel_rfl|(unfold L2.Ģ;kernel_rfl)
  all_goals skip
