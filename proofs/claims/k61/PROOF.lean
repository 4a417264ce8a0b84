import PyProof.Rows.All
import Wide.All
import OpenK.AllK
import Wide.FinOn
import Lean
import PyProof.EqAt
import PyProof.EqKinds
import PyProof.TupleCall
import PySem.Challenge.RW_shadowpost_k61_the_paper_of_a_walk
set_option Elab.async false
set_option linter.all false
set_option maxRecDepth 100000
set_option maxHeartbeats 4000000
namespace L2
open PySem PySem.Spec PyProof.Rows
abbrev Key:=Sum Int Str
def Ma:Key->Value->Bool
 | .inl k,v=>Value.isInt k v
 | .inr x,v=>Value.isStrOf x v
def Zb7(w:World):Key->Int
 | .inl k=>hashInt k
 | .inr x=>hashStr w x
theorem Ň:∀{k:Key} {v:Value},Ma k v=true->(∃i t,k=Sum.inl i/\v=Value.int i t)\/(∃x t,k=Sum.inr x/\v=Value.str x t)
 | .inl i,v,h=>by
   obtain⟨t,e⟩:=Value.isInt_shape (k:=i) (v:=v) h
   exact .inl ⟨i,t,rfl,e⟩
 | .inr x,v,h=>by
   obtain⟨t,e⟩:=Value.isStrOf_shape (x:=x) (v:=v) h
   exact .inr ⟨x,t,rfl,e⟩
def Tf(a b:Int):decide ((Sum.inl a:Key)=Sum.inl b)=(a== b):=by
 by_cases e:a=b
 ·subst e;simp
 ·have h:¬(Sum.inl a:Key)=Sum.inl b:=λq=>e (Sum.inl.inj q)
  rw[decide_eq_false h]
  exact(beq_eq_false_iff_ne.mpr e).symm
def Ti(a b:Str):decide ((Sum.inr a:Key)=Sum.inr b)=decide (a=b):=by
 by_cases e:a=b
 ·subst e;simp
 ·have h:¬(Sum.inr a:Key)=Sum.inr b:=λq=>e (Sum.inr.inj q)
  rw[decide_eq_false h,decide_eq_false e]
def Tj(a:Int)(b:Str):decide ((Sum.inl a:Key)=Sum.inr b)=false:=decide_eq_false (λq=>nomatch q)
def Tn(a:Str)(b:Int):decide ((Sum.inr a:Key)=Sum.inl b)=false:=decide_eq_false (λq=>nomatch q)
def rM(prog:Program)(w:World):PySem.KeyKind prog w Key where
 is:=Ma
 hash:=Zb7 w
 inj:=λv a b ha hb=>by
  rcases Ň ha with⟨i,t,rfl,rfl⟩|⟨x,t,rfl,rfl⟩
  ·rcases Ň hb with⟨j,u,rfl,e⟩|⟨y,u,rfl,e⟩
   ·injection e with e1 _;rw[e1]
   ·exact nomatch e
  ·rcases Ň hb with⟨j,u,rfl,e⟩|⟨y,u,rfl,e⟩
   ·exact nomatch e
   ·injection e with e1 _;rw[e1]
 byValue:=λk v h=>by
  rcases Ň h with⟨i,t,rfl,rfl⟩|⟨x,t,rfl,rfl⟩<;>rfl
 pyHash:=λhv h=>by
  rcases Ň hv with⟨i,t,rfl,rfl⟩|⟨x,t,rfl,rfl⟩
  ·exact wpAny_pyHash_int h
  ·exact wpAny_pyHash_str h
 eqBool:=λhu hv h=>by
  rcases Ň hu with⟨i,t,rfl,rfl⟩|⟨x,t,rfl,rfl⟩
  ·rcases Ň hv with⟨j,u,rfl,rfl⟩|⟨y,u,rfl,rfl⟩
   ·rw[Tf] at h;exact wpAny_eqBool_int h
   ·rw[Tj] at h;exact SeqAt.EqAt.int_str i t y u _ _ _ _ h
  ·rcases Ň hv with⟨j,u,rfl,rfl⟩|⟨y,u,rfl,rfl⟩
   ·rw[Tn] at h;exact SeqAt.EqAt.str_int x t j u _ _ _ _ h
   ·rw[Ti] at h;exact wpAny_eqBool_str h
 «strs» := fun k x t v h=>by
   rcases Ň h with⟨i,u,rfl,e⟩|⟨y,u,rfl,e⟩
   ·exact nomatch e
   ·injection e with e1 _
    subst e1
    cases v<;>rfl
end L2
namespace L2
open PySem PySem.Spec PyProof.Rows
inductive V where
 |non|bl (b:Bool)|int (i:Int)|str (x:Str)|Ji (b:Array UInt8)|flt (b:UInt64)|ref (a:Addr)|ty (n:String)
 deriving DecidableEq
def RelV:V->Value->Prop
 | .non,u=>u=Value.none
 | .bl b,u=>u=Value.bool b
 | .int i,u=>∃t,u=Value.int i t
 | .str x,u=>∃t,u=Value.str x t
 | .Ji b,u=>∃t,u=Value.bytes b t
 | .flt b,u=>∃t,u=Value.float b t
 | .ref a,u=>u=Value.ref a
 | .ty n,u=>u=Value.type n
abbrev Vals:List V->List Value->Prop:=Paired RelV
theorem Vals.length{xs:List V}{us:List Value}(r:Vals xs us):xs.length=us.length:=Paired.length r
theorem Vals.get:∀{xs:List V} {us:List Value} {i:Nat} {x:V},Vals xs us->xs[i]?=some x->∃u,us[i]?=some u/\RelV x u
 |_,_,_,_,.nil,e=>by simp at e
 |_,_,0,_,.cons r _,e=>by simp at e;subst e;exact⟨_,rfl,r⟩
 |_,_,i+1,x,.cons _ t,e=>by
  obtain⟨u,h1,h2⟩:=Vals.get (i:=i) (x:=x) t (by simpa using e)
  exact⟨u,by simpa using h1,h2⟩
theorem Vals.append:∀{xs ys:List V} {us ws:List Value},Vals xs us->Vals ys ws->Vals (xs++ys) (us++ws)
 |_,_,_,_,.nil,s=>s
 |_,_,_,_,.cons r t,s=>.cons r (Vals.append t s)
theorem Vals.take:∀{xs:List V} {us:List Value} (n:Nat),Vals xs us->Vals (xs.take n) (us.take n)
 |_,_,0,_=>.nil
 |_,_,_+1,.nil=>.nil
 |_,_,n+1,.cons r t=>.cons r (Vals.take n t)
theorem Vals.drop:∀{xs:List V} {us:List Value} (n:Nat),Vals xs us->Vals (xs.drop n) (us.drop n)
 |_,_,0,r=>r
 |_,_,_+1,.nil=>.nil
 |_,_,n+1,.cons _ t=>Vals.drop n t
def pW:Option V->Option Value->Prop
 |some v,some u=>RelV v u
 |none,none=>True
 |_,_=>False
def KV{κ:Type}:List (κ×V)->List (κ×Value)->Prop:=Paired λ(p:κ×V) (q:κ×Value)=>p.1=q.1/\RelV p.2 q.2
def kV:Key->V
 | .inl i=>.int i
 | .inr x=>.str x
inductive HO where
 /-- a list -/
 |lst (xs:List V)
 /-- a tuple (never changes) -/
 |tup (xs:List V)
 /-- a dict whose keys are ints and texts;one whose keys are tuples of ints and texts (the empty one is both) -/
 |dK (kvs:List (Key×V))|dT (kvs:List (List Key×V))
 /-- a set of ints:its members,its size -/
 |set (S:Int->Bool) (n:Nat)
 /-- an instance of the class at C,its dict at dx,its attributes -/
 |ins (C dx:Addr) (fs:List (Str×V))
 /-- the dict of the instance at x -/
 |own (x:Addr)
 /-- the dict of an exception -/
 |xd (fs:List (Str×V))
 /-- a bound method,f of x -/
 |met (f x:Addr)
 /-- a range object lo,lo+1,.. below hi -/
 |rng (lo hi:Int)
 /-- a thing that is known to the object (the script;a dict while a loop walks it):read,never written while it is so -/
 |cO (o:Obj) (u:HO)
 /-- a code object's table -/
 |iy (q:Str)
 /-- a code made of such a table,by its name -/
 |Bl (q:Str)
 /-- any other thing,by what is true of its one object (a def of one's own:ZdX a S n:=HO.ext λh=>..) -/
 |ext (φ:Heap->Prop)
abbrev Hp:=Addr->Option HO
def upd(H:Hp)(a:Addr)(o:HO):Hp:=λb=>if b=a then some o else H b
def ĝ{H:Hp}{a:Addr}{o:HO}:upd H a o a=some o:=by unfold upd;rw[if_pos rfl]
def Ė{H:Hp}{a b:Addr}{o:HO}(h:b≠a):upd H a o b=H b:=by unfold upd;rw[if_neg h]
def Ģ{H:Hp}{a b:Addr}{o:HO}(h:H a=some o)(h':H b=none):a≠b:=by
 intro e;subst e;rw[h] at h';cases h'
section
variable(P:Program)(w:World)
def ų(H:Hp)(h:Heap)(a:Addr):HO->Prop
 | .lst xs=>xs.length<=sizeLine/\∃(its:List Value) (n:Nat),Vals xs its/\h.get? a=some {cls:=.type "list",data:=.seq its.toArray n}
 | .tup xs=>xs.length<=sizeLine/\∃its:List Value,Vals xs its/\IsTup h a its.toArray
 | .dK kvs=>kvs.length<=sizeLine/\(a== sysModules)=false/\∃vs,KV kvs vs/\h.DictOf (rM P w) a vs
 | .dT kvs=>kvs.length≤sizeLine∧(a== sysModules)=false∧∃xs:List (List Key×Addr×Value),
     Paired (λ(p:List Key×V) (q:List Key×Addr×Value)=>p.1=q.1/\H q.2.1=some (.tup (p.1.map kV))/\RelV p.2 q.2.2) kvs xs/\
     ∃o es ep,h.get? a=some o/\o.ExactDict/\o.data=.dict es ep/\es.toList=xs.map (entryOfKey (tupleKind (rM P w)))/\(xs.map (·.1)).Nodup
 | .set S n=>h.SetOf (intKind P w) a S n
 | .ins C dx fs=>H dx=some (.own a)∧fs.length≤1000∧dx≠a∧h.get? a=some (PySem.W.instObj C dx)∧
     ∃mA,h.Ns1 dx mA/\(∀f,pW (fs.lookup f) (mA f))/\PySem.Within mA (fs.map (·.1))
 | .own _=>∃o,h.get? a=some o
 | .xd fs=>∃mA,h.Ns1 a mA/\∀f,pW (fs.lookup f) (mA f)
 | .rng lo hi=>∃t u v,h.get? a=some {cls:=.type "range",data:=.fields #[.int lo t,.int hi u,.int 1 v]}
 | .cO o u=>h.get? a=some o/\ų H h a u
 | .iy q=>∃ps:Array Value,h.get? a=some {cls:=.none,data:=.fields ps}/\TriplesOk ps.toList/\∀pos cv,codeAmong pos ps.toList=some cv->∃c,cv=.ref c/\H c=some (.Bl q)
 | .Bl q=>h.CodeRec (.ref a) q
 | .met f x=>h.get? a=some (PySem.W.methodObj (.ref f) (.ref x))
 | .ext φ=>φ h/\(∃o,h.get? a=some o)/\∀h1 h2:Heap,φ h1->(∀o,h1.get? a=some o->h2.get? a=some o)->φ h2
def jo(H:Hp)(h:Heap):Prop:=∀a o,H a=some o->ų P w H h a o
end
section
variable{P:Program}{w:World}{H H':Hp}{h h':Heap}{a:Addr}{o:HO}
theorem ų.lt(x:ų P w H h a o):a<h.objs.size:=by
 cases o with
 |lst xs=>obtain⟨_,_,_,_,e⟩:=x;exact Heap.lt_size e
 |tup xs=>obtain⟨_,_,_,p⟩:=x;exact p.lt
 |dK kvs=>obtain⟨_,_,_,_,o,_,_,e,_⟩:=x;exact Heap.lt_size e
 |dT kvs=>obtain⟨_,_,_,_,o,_,_,e,_⟩:=x;exact Heap.lt_size e
 |set S n=>obtain⟨o,_,_,_,e,_⟩:=x;exact Heap.lt_size e
 |ins C dx fs=>obtain⟨_,_,_,e,_⟩:=x;exact Heap.lt_size e
 |own y=>obtain⟨_,e⟩:=x;exact Heap.lt_size e
 |xd fs=>obtain⟨_,⟨_,_,_,e,_⟩,_⟩:=x;exact Heap.lt_size e
 |rng lo hi=>obtain⟨_,_,_,e⟩:=x;exact Heap.lt_size e
 |cO ob u=>obtain⟨e,_⟩:=x;exact Heap.lt_size e
 |iy q=>obtain⟨_,e,_⟩:=x;exact Heap.lt_size e
 |Bl q=>obtain⟨c,o,_,_,z,e,_⟩:=x;cases z;exact Heap.lt_size e
 |met f y=>exact Heap.lt_size (show h.get? a=some _ from x)
 |ext φ=>obtain⟨_,⟨_,e⟩,_⟩:=x;exact Heap.lt_size e
theorem Paired.Yt{α β:Type}{F G:α->β->Prop}:∀{l₁:List α} {l₂:List β},Paired F l₁ l₂->(∀a b,F a b->G a b)->Paired G l₁ l₂
 |_,_,.nil,_=>.nil
 |_,_,.cons r t,f=>.cons (f _ _ r) (Paired.Yt t f)
def ų.stay(x:ų P w H h a o)(k:∀b u,(b=a\/H b=some (.own a))->h.get? b=some u->h'.get? b=some u)
 (ho:∀b,H b=some (.own a)->H' b=some (.own a))(ht:∀b xs,H b=some (.tup xs)->H' b=some (.tup xs))(hc:∀b q,H b=some (.Bl q)->H' b=some (.Bl q):=by exact λ_ _ z=>z):ų P w H' h' a o:=by
 induction o with
 |lst xs=>obtain⟨z,its,n,r,e⟩:=x;exact⟨z,its,n,r,k _ _ (.inl rfl) e⟩
 |tup xs=>obtain⟨z,its,r,ob,e,c⟩:=x;exact⟨z,its,r,ob,k _ _ (.inl rfl) e,c⟩
 |dK kvs=>obtain⟨z,y,vs,r,ob,es,ep,e,c⟩:=x;exact⟨z,y,vs,r,ob,es,ep,k _ _ (.inl rfl) e,c⟩
 |dT kvs=>
  obtain⟨z,y,xs,r,ob,es,ep,e,c⟩:=x
  exact⟨z,y,xs,Paired.Yt r λp q z=>⟨z.1,ht _ _ z.2.1,z.2.2⟩,ob,es,ep,k _ _ (.inl rfl) e,c⟩
 |set S n=>obtain⟨ob,es,ep,t,e,c⟩:=x;exact⟨ob,es,ep,t,k _ _ (.inl rfl) e,c⟩
 |ins C dx fs=>
  obtain⟨d,z,ne,e,mA,⟨od,es,ep,e2,c⟩,r⟩:=x
  exact⟨ho _ d,z,ne,k _ _ (.inl rfl) e,mA,⟨od,es,ep,k _ _ (.inr d) e2,c⟩,r⟩
 |own y=>obtain⟨ob,e⟩:=x;exact⟨ob,k _ _ (.inl rfl) e⟩
 |xd fs=>obtain⟨mA,⟨od,es,ep,e,c⟩,r⟩:=x;exact⟨mA,⟨od,es,ep,k _ _ (.inl rfl) e,c⟩,r⟩
 |rng lo hi=>obtain⟨t,u,v,e⟩:=x;exact⟨t,u,v,k _ _ (.inl rfl) e⟩
 |cO ob u ih=>obtain⟨e,q⟩:=x;exact⟨k _ _ (.inl rfl) e,ih q⟩
 |iy q=>
  obtain⟨ps,e,t,r⟩:=x
  exact⟨ps,k a _ (.inl rfl) e,t,λpos cv z=>let ⟨c,z1,z2⟩:=r pos cv z;⟨c,z1,hc c q z2⟩⟩
 |Bl q=>
  obtain⟨c,o,vs,t,z,e,r⟩:=x
  cases z
  exact⟨a,o,vs,t,rfl,k a _ (.inl rfl) e,r⟩
 |met f y=>
  have e:h.get? a=some (PySem.W.methodObj (.ref f) (.ref y)):=x
  show h'.get? a=some (PySem.W.methodObj (.ref f) (.ref y))
  exact k a _ (.inl rfl) e
 |ext φ=>obtain⟨p,⟨o,e⟩,st⟩:=x;exact⟨st _ _ p λo q=>k _ _ (.inl rfl) q,⟨o,k _ _ (.inl rfl) e⟩,st⟩
theorem jo.lt(x:jo P w H h)(e:H a=some o):a<h.objs.size:=(x a o e).lt
def jo.fresh(x:jo P w H h)(e:h.objs.size<=a):H a=none:=by
 cases q:H a with
 |none=>rfl
 |some u=>exact absurd (Nat.lt_of_lt_of_le (x.lt q) e) (Nat.lt_irrefl _)
def jo.kept(x:jo P w H h)(k:∀b u,h.get? b=some u->h'.get? b=some u):jo P w H h':=λa o e=>
 (x a o e).stay (λb u _ q=>k b u q) (λ_ q=>q) λ_ _ q=>q
def jo.laid(x:jo P w H h)(k:∀b u,h.get? b=some u->h'.get? b=some u)(hp:h.objs.size<=a)(new:ų P w (upd H a o) h' a o):jo P w (upd H a o) h':=λb u e=>by
 have hn:=x.fresh hp
 by_cases hb:b=a
 ·subst hb;rw[ĝ] at e;cases e;exact new
 ·rw[Ė hb] at e
  exact(x b u e).stay (λc v _ q=>k c v q) (λc q=>by rw[Ė (Ģ q hn)];exact q) (λc xs q=>by rw[Ė (Ģ q hn)];exact q) λc xs q=>by rw[Ė (Ģ q hn)];exact q
end
def Rd(H:Hp)(a:Addr)(u:HO):Prop:=H a=some u\/∃o,H a=some (.cO o u)
def Rd.ok{P:Program}{w:World}{H:Hp}{h:Heap}{a:Addr}{u:HO}(r:Rd H a u)(x:jo P w H h):ų P w H h a u:=by
 rcases r with r|⟨o,r⟩
 ·exact x a u r
 ·obtain⟨_,q⟩:=x a _ r
  exact q
def Mut:Option HO->Prop
 |some (.lst _)=>True
 |some (.dK _)=>True
 |some (.dT _)=>True
 |some (.set _ _)=>True
 |some (.ins _ _ _)=>True
 |some (.ext _)=>True
 |some (.xd _)=>True
 |_=>False
section
variable{P:Program}{w:World}{H:Hp}{h h':Heap}{x e:Addr}{o':HO}
def jo.write(ok:jo P w H h)(mu:Mut (H x))(he:e=x\/H e=some (.own x))(k:∀b u,b≠e->h.get? b=some u->h'.get? b=some u)(heo:∃u,h'.get? e=some u)
 (new:ų P w (upd H x o') h' x o'):jo P w (upd H x o') h':=λb u q=>by
 have Yu:∀c y,H c=some (.own y)->c≠x:=λc y r z=>by subst z;rw[r] at mu;exact mu
 have Zb8:∀c xs,H c=some (.tup xs)->c≠x:=λc xs r z=>by subst z;rw[r] at mu;exact mu
 have Zb9:∀c q,H c=some (.Bl q)->c≠x:=λc xs r z=>by subst z;rw[r] at mu;exact mu
 by_cases hb:b=x
 ·subst hb;rw[ĝ] at q;cases q;exact new
 ·rw[Ė hb] at q
  by_cases hbe:b=e
  ·have q':H b=some (.own x):=by
    rcases he with z|z
    ·exact absurd (hbe.trans z) hb
    ·rw[hbe];exact z
   rw[q] at q';cases q'
   obtain⟨v,hv⟩:=heo
   exact⟨v,by rw[hbe];exact hv⟩
  ·refine(ok b u q).stay (λc v hc r=>k c v ?_ r) (λc r=>by rw[Ė (Yu c b r)];exact r) (λc xs r=>by rw[Ė (Zb8 c xs r)];exact r) λc xs r=>by rw[Ė (Zb9 c xs r)];exact r
   rcases hc with rfl|hc
   ·exact hbe
   ·rintro rfl
    rcases he with z|z
    ·exact Yu c b hc z
    ·rw[hc] at z;cases z;exact hb rfl
end
structure Un(fs ex:List Addr)(H H':Hp)(h h':Heap):Prop where
 keep:∀b o,h.get? b=some o->H b=none->b∉fs->b∉ex->h'.get? b=some o
 slot:∀b o,h.get? b=some o->H b=none->b∈fs->b∉ex->∃sl,h'.get? b=some {o with slots:=sl}
 free:∀b o,h.get? b=some o->H b=none->b∉ex->H' b=none
 there:∀b o,h.get? b=some o->b∉ex->∃o',h'.get? b=some o'
 tups:∀b xs,H b=some (.tup xs)->H' b=some (.tup xs)
 pX:∀b o u,H b=some (.cO o u)->H' b=some (.cO o u)
 lU:∀b q,H b=some (.iy q)->H' b=some (.iy q)
section
variable{fs fs' ex ex':List Addr}{H H1 H2:Hp}{h h1 h2 h':Heap}{a x e:Addr}{o:HO}
def Un.any(u:Un fs ex H H1 h h1){b:Addr}{ob:Obj}(q:h.get? b=some ob)(n:H b=none)(hx:b∉ex):∃sl,h1.get? b=some {ob with slots:=sl}:=by
 by_cases hb:b∈fs
 ·exact u.slot b ob q n hb hx
 ·exact⟨ob.slots,u.keep b ob q n hb hx⟩
def Un.kept(k:∀b u,h.get? b=some u->h'.get? b=some u):Un fs ex H H h h':=
 ⟨λb ob q _ _ _=>k b ob q,λb ob q _ _ _=>⟨ob.slots,k b ob q⟩,λ_ _ _ n _=>n,λb ob q _=>⟨ob,k b ob q⟩,λ_ _ q=>q,λ_ _ _ q=>q,λ_ _ q=>q⟩
def Un.refl:Un fs ex H H h h:=Un.kept λ_ _ q=>q
def Un.laid(k:∀b u,h.get? b=some u->h'.get? b=some u)(hp:h.objs.size<=a)(hn:H a=none):Un fs ex H (upd H a o) h h' where
 keep:=λb u q _ _ _=>k b u q
 slot:=λb u q _ _ _=>⟨u.slots,k b u q⟩
 free:=λb u q n _=>by rw[Ė (Nat.ne_of_lt (Nat.lt_of_lt_of_le (Heap.lt_size q) hp))];exact n
 there:=λb u q _=>⟨u,k b u q⟩
 tups:=λb xs q=>by rw[Ė (Ģ q hn)];exact q
 pX:=λb u xs q=>by rw[Ė (Ģ q hn)];exact q
 lU:=λb ps q=>by rw[Ė (Ģ q hn)];exact q
def Un.write(mu:Mut (H x))(he:e=x\/H e=some (.own x))(k:∀b u,b≠e->h.get? b=some u->h'.get? b=some u)(heo:∃u,h'.get? e=some u):Un fs ex H (upd H x o) h h':=by
 have hx:∀b,H b=none->b≠x:=λb n z=>by subst z;rw[n] at mu;exact mu
 have hb:∀b,H b=none->b≠e:=λb n z=>by
  subst z
  rcases he with r|r
  ·exact hx b n r
  ·rw[n] at r;cases r
 have hm:∀b u,H b=some u->¬Mut (some u)->b≠x:=λb u q nm z=>by subst z;rw[q] at mu;exact nm mu
 refine⟨λb u q n _ _=>k b u (hb b n) q,λb u q n _ _=>⟨u.slots,k b u (hb b n) q⟩,λb u q n _=>by rw[Ė (hx b n)];exact n,λb u q _=>?_,
  λb xs q=>by rw[Ė (hm b _ q λz=>z)];exact q,λb u xs q=>by rw[Ė (hm b _ q λz=>z)];exact q,λb ps q=>by rw[Ė (hm b _ q λz=>z)];exact q⟩
 by_cases hbe:b=e
 ·subst hbe;exact heo
 ·exact⟨u,k b u hbe q⟩
end
def trk(h:Heap)(H:Hp):List Addr:=(List.range h.objs.size).filter λa=>(H a).isSome
def pY(h:Heap)(H:Hp):Heap:=PySem.W.hideAll h (trk h H)
def Bm(h:Heap)(H:Hp):(pY h H).objs.size=h.objs.size:=PySem.W.hideAll_size _ _
def CV{h:Heap}{H:Hp}{b:Addr}{o:Obj}(e:h.get? b=some o)(n:H b=none):(pY h H).get? b=some o:=
 PySem.W.hideAll_get _ e λhm=>by
  have q:(H b).isSome=true:=(List.mem_filter.mp hm).2
  rw[n] at q;simp at q
def Jj{h:Heap}{H:Hp}{b:Addr}{o:Obj}(e:(pY h H).get? b=some o):h.get? b=some o/\H b=none:=by
 have e':h.get? b=some o:=PySem.W.of_hideAll (trk h H) e
 refine⟨e',?_⟩
 cases q:H b with
 |none=>rfl
 |some x=>
  have hm:b∈trk h H:=List.mem_filter.mpr ⟨List.mem_range.mpr (Heap.lt_size e'),by simp[q]⟩
  have z:(pY h H).get? b=none:=PySem.W.hideAll_none (trk h H) hm
  rw[z] at e;cases e
def Jk(g h:Heap)(L:Addr):List (Addr×Obj):=(List.range h.objs.size).filterMap λa=>if a=L\/(g.get? a).isSome=true then none else(h.get? a).map λo=>(a,o)
def rest(g h:Heap)(L d:Addr):List (Addr×Obj):=(Jk g h L).filter λp=>decide (p.1≠d)
end L2
namespace L2
open PySem PySem.Spec PyProof.Rows
structure Mod(K:PySem.W.Frag)(mg:Str->Option Value)(base:Heap):Prop where
 Yw:K.In base
 glob:base.Ns mainGlobals mg
 blt:∃mb,base.Ns builtinsNs mb/\∀x:Str,x≠ "__name__" ->mb x=bootBuiltins x
 nolimit:base.NoLimit
def lams:List Str:=["best_step"]
abbrev bB(x:Str):Str:=(x ++ ".<locals>.") ++ "<lambda>"
def TabsOk(K:PySem.W.Frag)(mg:Str->Option Value)(base:Heap)(H:Hp):Prop:=∀x c P,x∈lams->PySem.W.tabIn K x=some (c,P)->PySem.W.CodeHd base c P/\H P=some (.iy (bB x))/\base.BuiltinsAt mg P
structure Cx where
 prog:Program
 w:World
 K:PySem.W.Frag
 mg:Str->Option Value
 base:Heap
 A:Around
 N:List Str
 s₀:Shared
 H₀:Hp
 env:Env
 outer:List Env
 stack:List Env
 ex:List Addr
 fn:Str->Bool
 calm:Bool
 pn:List (Addr×Obj)
 xe:Value->Shared->Prop
def frs(l:List Env):List Addr:=l.filterMap (·.frame)
abbrev Cx.fs(X:Cx):List Addr:=frs X.outer
def wN(sc:Scope)(x:Str):Prop:=sc.names.lookup x=some .local\/sc.names.lookup x=some .cell\/sc.names.lookup x=some .free
def Loc(sc:Scope)(x:Str):Prop:=sc.names.lookup x=some .local\/sc.names.lookup x=some .cell
def Look(env:Env)(h:Heap)(m:Str->Option Value)(x:Str)(u:Value):Prop:=
 (env.kindOf x=some .local/\m x=some u)\/((env.kindOf x=some .cell\/env.kindOf x=some .free)/\∃c,env.cells.lookup x=some c/\h.IsCell c (some u))
structure Cx.Ok(X:Cx):Prop where
 mod:Mod X.K X.mg X.base
 kind:X.env.scope.kind=.function
 glob:X.env.globals=mainGlobals
 blt:X.env.builtins=builtinsNs
 above:X.s₀.heap.objs.size<=X.env.locals
 inj:∀x y c,X.env.cells.lookup x=some c->X.env.cells.lookup y=some c->x=y
 has:∀x,(X.env.kindOf x=some .cell\/X.env.kindOf x=some .free)->∃c,X.env.cells.lookup x=some c
 cab:∀x c,X.fn x=true->X.env.cells.lookup x=some c->X.s₀.heap.objs.size<=c
 hd:X.calm=true->X.A.handled=none
 frames:X.A.frames=some X.stack
 stk:X.stack=X.outer\/(X.stack=X.env::X.outer/\X.env.frame=some X.env.locals)
 exf:∀b∈X.ex,b≠X.env.locals/\∀x c,X.env.cells.lookup x=some c->c≠b
 bs:∀b o,X.base.get? b=some o->X.s₀.heap.get? b=some o/\X.H₀ b=none
 Jd:X.base.objs.size<=X.s₀.heap.objs.size
 CW:∀b o,X.base.get? b=some o->b∉X.ex
 Jl:∀b∈X.ex,b∉X.fs
 lV:X.s₀.heap.FunFrames X.base X.outer
 Tp:∀b∈X.fs,X.H₀ b=none
 tb:TabsOk X.K X.mg X.base X.H₀
structure Inv(X:Cx)(pins:List (Addr×Obj))(σ:List (Option V))(H:Hp)(s:Shared):Prop where
 ok:X.Ok
 os:s.os=X.s₀.os
 bare:AllBare s.gens
 base:Un X.fs X.ex X.H₀ H X.s₀.heap s.heap
 loc:∃m,s.heap.Ns X.env.locals m/\∀(i:Nat) (x:Str) (v:V),X.N[i]?=some x->σ[i]?=some (some v)->wN X.env.scope x->∃u,RelV v u/\Look X.env s.heap m x u
 cell:∀x c,X.env.cells.lookup x=some c->∃v,s.heap.IsCell c v
 free:H X.env.locals=none
 fL:∀x c,X.env.cells.lookup x=some c->H c=none
 pin:∀p∈X.pn++pins,s.heap.get? p.1=some p.2/\H p.1=none/\p.1≠X.env.locals/\p.1∉X.fs/\∀v,p.2.data≠ .cell v
 hok:jo X.prog X.w H s.heap
 len:σ.length=X.N.length
section
variable{X:Cx}{pins:List (Addr×Obj)}{σ:List (Option V)}{H H':Hp}{s:Shared}{h':Heap}
def Cx.Ok.Zb_(ok:X.Ok){b:Addr}{o:Obj}(e:X.base.get? b=some o):b∉X.fs:=λhb=>by
 have:=(ok.lV.mem hb).1
 rw[e] at this;cases this
theorem Inv.bs(I:Inv X pins σ H s):∀b o,X.base.get? b=some o->s.heap.get? b=some o/\H b=none:=λb o e=>
 ⟨I.base.keep b o (I.ok.bs b o e).1 (I.ok.bs b o e).2 (I.ok.Zb_ e) (I.ok.CW b o e),I.base.free b o (I.ok.bs b o e).1 (I.ok.bs b o e).2 (I.ok.CW b o e)⟩
def Inv.bk(I:Inv X pins σ H s):∀b o,X.base.get? b=some o->s.heap.get? b=some o:=λb o e=>(I.bs b o e).1
theorem Inv.tb(I:Inv X pins σ H s):TabsOk X.K X.mg X.base H:=λx c P hx e=>⟨(I.ok.tb x c P hx e).1,I.base.lU _ _ (I.ok.tb x c P hx e).2.1,(I.ok.tb x c P hx e).2.2⟩
theorem Inv.mod(I:Inv X pins σ H s):Mod X.K X.mg X.base:=I.ok.mod
def Inv.jM(I:Inv X pins σ H s):X.K.In s.heap:=I.ok.mod.Yw.keeps I.bk
theorem Inv.nolimit(I:Inv X pins σ H s):s.heap.NoLimit:=I.ok.mod.nolimit.keeps I.bk
theorem Inv.lt(I:Inv X pins σ H s):X.env.locals<s.heap.objs.size:=let ⟨_,hn,_⟩:=I.loc;hn.lt
def Inv.sz(I:Inv X pins σ H s):X.s₀.heap.objs.size<=s.heap.objs.size:=Nat.le_trans I.ok.above (Nat.le_of_lt I.lt)
def Inv.Zca(I:Inv X pins σ H s){a:Addr}(h:s.heap.objs.size<=a):a∉X.fs:=λhb=>by
 obtain⟨_,o,ho,_⟩:=I.ok.lV.mem hb
 exact absurd (Nat.lt_of_lt_of_le (Heap.lt_size ho) (Nat.le_trans I.sz h)) (Nat.lt_irrefl _)
def Inv.Tq(I:Inv X pins σ H s):∀x c,X.env.cells.lookup x=some c->c≠X.env.locals:=λx c e z=>by
 obtain⟨v,o,ho,hd⟩:=I.cell x c e
 obtain⟨m,⟨o',es,ep,ho',hd',_⟩,_⟩:=I.loc
 rw[z,ho'] at ho;cases ho;rw[hd'] at hd;cases hd
theorem Inv.lV(I:Inv X pins σ H s):s.heap.FunFrames X.base X.outer:=by
 have all:∀(l:List Env),(∀b∈frs l,b∈X.fs)->X.s₀.heap.FunFrames X.base l->s.heap.FunFrames X.base l:=by
  intro l
  induction l with
  |nil=>intro _ _;trivial
  |cons env r ih=>
   intro hs hl
   obtain⟨hk,⟨L,o,hf,hn,ho,hd⟩,hr⟩:=hl
   have hL:L∈X.fs:=hs L (by unfold frs;rw[List.filterMap_cons,hf];exact List.mem_cons_self)
   obtain⟨sl,e⟩:=I.base.slot L o ho (I.ok.Tp L hL) hL λz=>I.ok.Jl L z hL
   exact⟨hk,⟨L,_,hf,hn,e,hd⟩,ih (λb hb=>hs b (by unfold frs;rw[List.filterMap_cons,hf];exact List.mem_cons_of_mem _ hb)) hr⟩
 exact all X.outer (λ_ hb=>hb) I.ok.lV
theorem Inv.stack(I:Inv X pins σ H s):s.heap.FunFrames X.base X.stack:=by
 rcases I.ok.stk with e|⟨e,hf⟩
 ·rw[e];exact I.lV
 ·rw[e]
  obtain⟨m,hn,_⟩:=I.loc
  refine .cons (by rw[I.ok.kind];decide) hf hn ?_ I.lV
  exact Heap.get?_none_of_le (Nat.le_trans I.ok.Jd I.ok.above)
def Inv.m_(I:Inv X pins σ H s):∀b∈frs X.stack,b∈X.env.locals::X.fs:=λb hb=>by
 rcases I.ok.stk with e|⟨e,hf⟩
 ·rw[e] at hb;exact List.mem_cons_of_mem _ hb
 ·rw[e] at hb
  unfold frs at hb
  rw[List.filterMap_cons,hf] at hb
  exact hb
def Inv.rN(I:Inv X pins σ H s):∀b∈frs X.stack,H b=none:=λb hb=>by
 rcases List.mem_cons.mp (I.m_ b hb) with e|hb
 ·rw[e];exact I.free
 ·obtain⟨_,o,ho,_⟩:=I.ok.lV.mem hb
  exact I.base.free b o ho (I.ok.Tp b hb) λz=>I.ok.Jl b z hb
def Inv.step{g':Array GenState}{t':Nat}{d':Drawn}{ch:List Addr}(I:Inv X pins σ H s)
 (hch:∀b∈ch,(b∈X.ex\/X.s₀.heap.objs.size<=b)/\b≠X.env.locals/\(∀x c,X.env.cells.lookup x=some c->c≠b)/\∀p∈X.pn++pins,p.1≠b)
 (keep:∀b o,b≠X.env.locals->b∉X.fs->b∉ch->s.heap.get? b=some o->H b=none->h'.get? b=some o)
 (slot:∀b o,b≠X.env.locals->b∈X.fs->b∉ch->s.heap.get? b=some o->H b=none->∃sl,h'.get? b=some {o with slots:=sl})(free:∀b o,b∉ch->s.heap.get? b=some o->H b=none->H' b=none)
 (there:∀b o,b∉ch->s.heap.get? b=some o->∃o',h'.get? b=some o')
 (tups:∀b xs,H b=some (.tup xs)->H' b=some (.tup xs))(pX:∀b o u,H b=some (.cO o u)->H' b=some (.cO o u))(lU:∀b q,H b=some (.iy q)->H' b=some (.iy q))
 (ns:∀m,s.heap.Ns X.env.locals m->h'.Ns X.env.locals m)(hok:jo X.prog X.w H' h')(hg:AllBare g') :
 Inv X pins σ H' {s with heap:=h',gens:=g',drawn:=d',toks:=t'}:=by
 have neL:∀b o,X.s₀.heap.get? b=some o->b≠X.env.locals:=λb o e=>Nat.ne_of_lt (Nat.lt_of_lt_of_le (Heap.lt_size e) I.ok.above)
 have neC:∀b o,X.s₀.heap.get? b=some o->b∉X.ex->b∉ch:=λb o e hx hb=>by
  rcases(hch b hb).1 with z|z
  ·exact hx z
  ·exact absurd (Nat.lt_of_lt_of_le (Heap.lt_size e) z) (Nat.lt_irrefl _)
 have cellK:∀x c,X.env.cells.lookup x=some c->∀v,s.heap.IsCell c v->h'.IsCell c v:=λx c e v ⟨o,ho,hd⟩=>by
  have Yx:c∉ch:=λz=>(hch c z).2.2.1 x c e rfl
  by_cases hc:c∈X.fs
  ·obtain⟨sl,q⟩:=slot c o (I.Tq x c e) hc Yx ho (I.fL x c e)
   exact⟨_,q,hd⟩
  ·exact⟨o,keep c o (I.Tq x c e) hc Yx ho (I.fL x c e),hd⟩
 refine⟨I.ok,I.os,hg,⟨λb o e n hb hx=>?_,λb o e n hb hx=>?_,λb o e n hx=>?_,λb o e hx=>?_,λb xs e=>tups b xs (I.base.tups b xs e),λb o xs e=>pX b o xs (I.base.pX b o xs e),λb ps e=>?_⟩,?_,λx c e=>?_,?_,λx c e=>?_,λp hp=>?_,hok,I.len⟩
 ·exact keep b o (neL b o e) hb (neC b o e hx) (I.base.keep b o e n hb hx) (I.base.free b o e n hx)
 ·obtain⟨sl,e1⟩:=I.base.slot b o e n hb hx
  obtain⟨sl',e2⟩:=slot b _ (neL b o e) hb (neC b o e hx) e1 (I.base.free b o e n hx)
  exact⟨sl',e2⟩
 ·obtain⟨o',e1⟩:=I.base.there b o e hx
  exact free b o' (neC b o e hx) e1 (I.base.free b o e n hx)
 ·obtain⟨o',e1⟩:=I.base.there b o e hx
  exact there b o' (neC b o e hx) e1
 ·exact lU b ps (I.base.lU b ps e)
 ·obtain⟨m,hn,hl⟩:=I.loc
  refine⟨m,ns m hn,λi x v e1 e2 e3=>?_⟩
  obtain⟨u,r,l⟩:=hl i x v e1 e2 e3
  refine⟨u,r,?_⟩
  rcases l with l|⟨k,c,e,z⟩
  ·exact .inl l
  ·exact .inr ⟨k,c,e,cellK x c e _ z⟩
 ·obtain⟨v,z⟩:=I.cell x c e
  exact⟨v,cellK x c e v z⟩
 ·obtain⟨m,⟨o,_,_,ho,_⟩,_⟩:=I.loc
  exact free _ o (λz=>(hch _ z).2.1 rfl) ho I.free
 ·obtain⟨v,o,ho,hd⟩:=I.cell x c e
  exact free c o (λz=>(hch c z).2.2.1 x c e rfl) ho (I.fL x c e)
 ·obtain⟨e,n,ne,nf,d⟩:=I.pin p hp
  have Yx:p.1∉ch:=λz=>(hch p.1 z).2.2.2 p hp rfl
  exact⟨keep p.1 p.2 ne nf Yx e n,free p.1 p.2 Yx e n,ne,nf,d⟩
def Inv.un{t':Nat}(I:Inv X pins σ H s)(u:Un X.fs [] H H' s.heap h')(hok:jo X.prog X.w H' h'):Inv X pins σ H' {s with heap:=h',toks:=t'}:=by
 obtain⟨m,⟨o,es,ep,ho,r⟩,_⟩:=id I.loc
 obtain⟨sl,hL⟩:=u.any ho I.free (by simp)
 exact I.step (g':=s.gens) (d':=s.drawn) (ch:=[]) (λ_ z=>nomatch z) (λb o _ hb _ e n=>u.keep b o e n hb (by simp)) (λb o _ hb _ e n=>u.slot b o e n hb (by simp)) (λb o _ e n=>u.free b o e n (by simp)) (λb o _ e=>u.there b o e (by simp)) u.tups u.pX u.lU (λm' hm=>by
  obtain⟨o',es',ep',ho',r'⟩:=hm
  rw[ho] at ho';cases ho'
  exact⟨_,es',ep',hL,r'⟩) hok I.bare
def Inv.call{g':Array GenState}{t':Nat}{d':Drawn}{ch:List Addr}(I:Inv X pins σ H s)(u:Un (frs X.stack) ch H H' s.heap h')(hok:jo X.prog X.w H' h')(hg:AllBare g')
 (hch:∀b∈ch,(b∈X.ex\/X.s₀.heap.objs.size<=b)/\b≠X.env.locals/\(∀x c,X.env.cells.lookup x=some c->c≠b)/\∀p∈X.pn++pins,p.1≠b) :
 Inv X pins σ H' {s with heap:=h',gens:=g',drawn:=d',toks:=t'}:=by
 obtain⟨m,⟨o,es,ep,ho,r⟩,_⟩:=id I.loc
 obtain⟨sl,hL⟩:=u.any ho I.free λz=>(hch _ z).2.1 rfl
 exact I.step (ch:=ch) hch (λb o hL hb hc e n=>u.keep b o e n (λz=>(List.mem_cons.mp (I.m_ b z)).elim hL hb) hc) (λb o _ _ hc e n=>u.any e n hc) (λb o hc e n=>u.free b o e n hc) (λb o hc e=>u.there b o e hc) u.tups u.pX u.lU (λm' hm=>by
  obtain⟨o',es',ep',ho',r'⟩:=hm
  rw[ho] at ho';cases ho'
  exact⟨_,es',ep',hL,r'⟩) hok hg
def Inv.turned{t':Nat}{it:Addr}(I:Inv X pins σ H s)(k:∀b o,b≠it->s.heap.get? b=some o->h'.get? b=some o)(hn:H it=none)(hL:it≠X.env.locals)
 (h1:it∈X.ex\/X.s₀.heap.objs.size<=it)(h2:∀x c,X.env.cells.lookup x=some c->c≠it)(h3:∀p∈X.pn++pins,p.1≠it):Inv X pins σ H {s with heap:=h',toks:=t'}:=by
 have nit:∀b u,H b=some u->b≠it:=λb u e z=>by rw[z,hn] at e;cases e
 refine I.step (g':=s.gens) (d':=s.drawn) (ch:=[it]) (λb hb=>?_) (λb o _ _ hc e _=>k b o (λz=>hc (by simp[z])) e) (λb o _ _ hc e _=>⟨o.slots,k b o (λz=>hc (by simp[z])) e⟩) (λ_ _ _ _ n=>n)
  (λb o hc e=>⟨o,k b o (λz=>hc (by simp[z])) e⟩) (λ_ _ e=>e) (λ_ _ _ e=>e) (λ_ _ e=>e) (λm hm=>?_) (λb u e=>?_) I.bare
 ·have e:b=it:=by simpa using hb
  subst e
  exact⟨h1,hL,h2,h3⟩
 ·obtain⟨o,es,ep,ho,r⟩:=hm
  exact⟨o,es,ep,k _ o (Ne.symm hL) ho,r⟩
 ·refine(I.hok b u e).stay (λc v hc q=>k c v ?_ q) (λ_ q=>q) λ_ _ q=>q
  rcases hc with z|z
  ·rw[z];exact nit b u e
  ·exact nit c _ z
def Inv.tok(I:Inv X pins σ H s)(t:Nat):Inv X pins σ H {s with toks:=t}:=I.un (h':=s.heap) (t':=t) Un.refl I.hok
theorem Inv.kept{t':Nat}(I:Inv X pins σ H s)(k:∀b u,s.heap.get? b=some u->h'.get? b=some u):Inv X pins σ H {s with heap:=h',toks:=t'}:=I.un (Un.kept k) (I.hok.kept k)
theorem Inv.laid{a:Addr}{o:HO}{t':Nat}(I:Inv X pins σ H s)(k:∀b u,s.heap.get? b=some u->h'.get? b=some u)(hp:s.heap.objs.size<=a)(new:ų X.prog X.w (upd H a o) h' a o) :
 Inv X pins σ (upd H a o) {s with heap:=h',toks:=t'}:=I.un (Un.laid k hp (I.hok.fresh hp)) (I.hok.laid k hp new)
theorem Inv.write{x e:Addr}{o:HO}{t':Nat}(I:Inv X pins σ H s)(mu:Mut (H x))(he:e=x\/H e=some (.own x))(k:∀b u,b≠e->s.heap.get? b=some u->h'.get? b=some u)(heo:∃u,h'.get? e=some u)
 (new:ų X.prog X.w (upd H x o) h' x o):Inv X pins σ (upd H x o) {s with heap:=h',toks:=t'}:=I.un (Un.write mu he k heo) (I.hok.write mu he k heo new)
def Inv.zL{iz:List (Addr×Obj)}(I:Inv X pins σ H s)(h:∀p∈iz,s.heap.get? p.1=some p.2/\H p.1=none/\p.1≠X.env.locals/\p.1∉X.fs/\∀v,p.2.data≠ .cell v):Inv X iz σ H s:=
 ⟨I.ok,I.os,I.bare,I.base,I.loc,I.cell,I.free,I.fL,λp hp=>(List.mem_append.mp hp).elim (λz=>I.pin p (List.mem_append_left _ z)) (h p),I.hok,I.len⟩
def uY{N:List Str}(hN:N.Nodup){i j:Nat}{x:Str}(a:N[i]?=some x)(b:N[j]?=some x):i=j:=by
 obtain⟨h1,e1⟩:=List.getElem?_eq_some_iff.mp a
 obtain⟨h2,e2⟩:=List.getElem?_eq_some_iff.mp b
 exact(List.getElem_inj hN).mp (e1.trans e2.symm)
def qw{M:Model}{A:Around}{E:Value->Shared->Prop}{i:Nat}{x:Str}{v:V}{u:Value}{Q:Unit->Shared->Prop}(I:Inv X pins σ H s)(hN:X.N.Nodup)(hi:X.N[i]?=some x)(hx:Loc X.env.scope x)(r:RelV v u)
 (h:∀s',Inv X pins (σ.set i (some v)) H s'->(∃a,Heap.SameBut a s.heap s'.heap/\(a=X.env.locals\/X.env.cells.lookup x=some a))->Q () s')(hf:X.fn x=true\/X.env.scope.names.lookup x=some .local:=by first|exact .inl rfl|exact .inr rfl|assumption):wpAny M A (storeName X.env x u) Q E s:=by
 obtain⟨m,hn,hl⟩:=id I.loc
 have hcls:(X.env.scope.kind== .class || (X.env.scope.kind== .module && X.env.locals != X.env.globals))=false:=by rw[I.ok.kind];rfl
 have ZdK:i < σ.length:=by rw[I.len];exact(List.getElem?_eq_some_iff.mp hi).1
 have Tq:=I.Tq
 have tracked:∀{a:Addr} {h':Heap},(∃o,s.heap.get? a=some o/\H a=none)->Heap.SameBut a s.heap h'->jo X.prog X.w H h':=fun{a h'} ha hs b ob e=>by
  obtain⟨_,_,hfree⟩:=ha
  refine(I.hok b ob e).stay (λc w' hc q=>(hs.2 c ?_).trans q) (λ_ q=>q) λ_ _ q=>q
  rintro rfl
  rcases hc with rfl|hc
  ·rw[hfree] at e;cases e
  ·rw[hfree] at hc;cases hc
 rcases hx with hk|hk
 ·refine wpAny_storeName_local hk hn (λh' hn' hs=>?_) hcls
  obtain⟨oL,_,_,hoL,_⟩:=id hn
  refine h _ ⟨I.ok,I.os,I.bare,⟨λb o e n hb hx=>?_,λb o e n hb hx=>?_,I.base.free,λb o e hx=>?_,I.base.tups,I.base.pX,I.base.lU⟩,⟨_,hn',λj y v' e1 e2 e3=>?_⟩,λy c e=>?_,I.free,I.fL,λp hp=>?_,tracked ⟨oL,hoL,I.free⟩ hs,by simpa using I.len⟩ ⟨_,hs,.inl rfl⟩
  ·exact(hs.2 b (Nat.ne_of_lt (Nat.lt_of_lt_of_le (Heap.lt_size e) I.ok.above))).trans (I.base.keep b o e n hb hx)
  ·obtain⟨sl,e1⟩:=I.base.slot b o e n hb hx
   exact⟨sl,(hs.2 b (Nat.ne_of_lt (Nat.lt_of_lt_of_le (Heap.lt_size e) I.ok.above))).trans e1⟩
  ·obtain⟨o',e1⟩:=I.base.there b o e hx
   exact⟨o',(hs.2 b (Nat.ne_of_lt (Nat.lt_of_lt_of_le (Heap.lt_size e) I.ok.above))).trans e1⟩
  ·by_cases hj:j=i
   ·subst hj
    rw[hi] at e1;cases e1
    rw[List.getElem?_set_self ZdK] at e2
    cases e2
    exact⟨u,r,.inl ⟨hk,by simp⟩⟩
   ·rw[List.getElem?_set_ne (Ne.symm hj)] at e2
    obtain⟨u',r',q⟩:=hl j y v' e1 e2 e3
    refine⟨u',r',?_⟩
    rcases q with⟨k,e⟩|⟨k,c,e,z⟩
    ·refine .inl ⟨k,?_⟩
     have:y≠x:=λe=>hj (uY hN e1 (e▸hi))
     simp[this,e]
    ·exact .inr ⟨k,c,e,z.sameBut hs (Tq y c e)⟩
  ·obtain⟨w',z⟩:=I.cell y c e
   exact⟨w',z.sameBut hs (Tq y c e)⟩
  ·obtain⟨e,n,ne,nf,d⟩:=I.pin p hp
   exact⟨(hs.2 p.1 ne).trans e,n,ne,nf,d⟩
 ·have hfn:X.fn x=true:=by
   rcases hf with z|z
   ·exact z
   ·rw[z] at hk;cases hk
  obtain⟨c,hc⟩:=I.ok.has x (.inl hk)
  obtain⟨w',z⟩:=I.cell x c hc
  refine wpAny_storeName_cell I.ok.kind hk hc z (λh' hc' hs=>?_)
  obtain⟨oc,hoc,Zcb⟩:=id z
  refine h {s with heap:=h'} ⟨I.ok,I.os,I.bare,⟨λb o e n hb hx=>?_,λb o e n hb hx=>?_,I.base.free,λb o e hx=>?_,I.base.tups,I.base.pX,I.base.lU⟩,⟨m,hn.sameBut hs (Ne.symm (Tq x c hc)),λj y v' e1 e2 e3=>?_⟩,λy c' e=>?_,I.free,I.fL,λp hp=>?_,tracked ⟨oc,hoc,I.fL x c hc⟩ hs,by simpa using I.len⟩ ⟨c,hs,.inr hc⟩
  ·exact(hs.2 b (Nat.ne_of_lt (Nat.lt_of_lt_of_le (Heap.lt_size e) (I.ok.cab x c hfn hc)))).trans (I.base.keep b o e n hb hx)
  ·obtain⟨sl,e1⟩:=I.base.slot b o e n hb hx
   exact⟨sl,(hs.2 b (Nat.ne_of_lt (Nat.lt_of_lt_of_le (Heap.lt_size e) (I.ok.cab x c hfn hc)))).trans e1⟩
  ·obtain⟨o',e1⟩:=I.base.there b o e hx
   exact⟨o',(hs.2 b (Nat.ne_of_lt (Nat.lt_of_lt_of_le (Heap.lt_size e) (I.ok.cab x c hfn hc)))).trans e1⟩
  ·by_cases hj:j=i
   ·subst hj
    rw[hi] at e1;cases e1
    rw[List.getElem?_set_self ZdK] at e2
    cases e2
    exact⟨u,r,.inr ⟨.inl hk,c,hc,hc'⟩⟩
   ·rw[List.getElem?_set_ne (Ne.symm hj)] at e2
    obtain⟨u',r',q⟩:=hl j y v' e1 e2 e3
    refine⟨u',r',?_⟩
    rcases q with q|⟨k,c',e,z'⟩
    ·exact .inl q
    ·refine .inr ⟨k,c',e,z'.sameBut hs ?_⟩
     rintro rfl
     exact hj (uY hN e1 (I.ok.inj _ _ _ e hc▸hi))
  ·by_cases hcc:c'=c
   ·subst hcc;exact⟨_,hc'⟩
   ·obtain⟨w2,z2⟩:=I.cell y c' e
    exact⟨w2,z2.sameBut hs hcc⟩
  ·obtain⟨e,n,ne,nf,d⟩:=I.pin p hp
   refine⟨(hs.2 p.1 ?_).trans e,n,ne,nf,d⟩
   intro q
   rw[q,hoc] at e
   have q':oc=p.2:=Option.some.inj e
   exact d w' (by rw[<-q'];exact Zcb)
def fM{M:Model}{A:Around}{E:Value->Shared->Prop}{i:Nat}{x:Str}{v:V}{u:Value}{Q:Unit->Shared->Prop}(I:Inv X pins σ H s)(hN:X.N.Nodup)(hi:X.N[i]?=some x)(hx:Loc X.env.scope x)(r:RelV v u)
 (h:∀s',Inv X pins (σ.set i (some v)) H s'->Q () s')(hf:X.fn x=true\/X.env.scope.names.lookup x=some .local:=by first|exact .inl rfl|exact .inr rfl|assumption):wpAny M A (storeName X.env x u) Q E s:=
 qw I hN hi hx r (λs' I' _=>h s' I') hf
def Inv.call'{s':Shared}{ch:List Addr}(I:Inv X pins σ H s)(ho:s'.os=s.os)(u:Un (frs X.stack) ch H H' s.heap s'.heap)(hok:jo X.prog X.w H' s'.heap)(hg:AllBare s'.gens)
 (hch:∀b∈ch,(b∈X.ex\/X.s₀.heap.objs.size<=b)/\b≠X.env.locals/\(∀x c,X.env.cells.lookup x=some c->c≠b)/\∀p∈X.pn++pins,p.1≠b):Inv X pins σ H' s':=by
 obtain⟨h',g',d',t',o'⟩:=s'
 have e:o'=s.os:=ho
 subst e
 exact I.call (g':=g') (t':=t') (d':=d') u hok hg hch
end
abbrev XK:=Value->Option Addr->Hp->Prop
abbrev St:=List (Option V)
abbrev VK:=V->Hp->Prop
abbrev TE:=St->Hp->VK->Prop
abbrev TT:=St->Hp->(Bool->Hp->Prop)->Prop
abbrev TA:=St->Hp->(List V->Hp->Prop)->Prop
structure Ends where
 nx:St->Hp->Prop
 rt:VK
 bk:St->Hp->Prop:=λ_ _=>False
 ct:St->Hp->Prop:=λ_ _=>False
abbrev TS:=Ends->St->Hp->Prop
def EP(X:Cx)(pins:List (Addr×Obj))(σ:St)(Q:VK)(u:Value)(s':Shared):Prop:=∃v H',Inv X pins σ H' s'/\RelV v u/\Q v H'
def TP(X:Cx)(pins:List (Addr×Obj))(σ:St)(Q:Bool->Hp->Prop)(b:Bool)(s':Shared):Prop:=∃H',Inv X pins σ H' s'/\Q b H'
def AP(X:Cx)(pins:List (Addr×Obj))(σ:St)(Q:List V->Hp->Prop)(us:List Value)(s':Shared):Prop:=∃vs H',Inv X pins σ H' s'/\Vals vs us/\Q vs H'
def SP(X:Cx)(pins:List (Addr×Obj))(D:Ends)(f:Flow)(s':Shared):Prop:=
 match f with
 | .next=>∃σ' H',Inv X pins σ' H' s'/\D.nx σ' H'
 | .brk=>∃σ' H',Inv X pins σ' H' s'/\D.bk σ' H'
 | .cont=>∃σ' H',Inv X pins σ' H' s'/\D.ct σ' H'
 | .ret u=>∃v σ' H',Inv X pins σ' H' s'/\RelV v u/\D.rt v H'
def PE(X:Cx)(e:Expr)(t:TE):Prop:=
 ∀(pins:List (Addr×Obj)) (s:Shared) (σ:St) (H:Hp) (Q:VK),Inv X pins σ H s->t σ H Q->wpAny (model X.prog X.w) X.A (eval e X.env) (EP X pins σ Q) X.xe s
def PT(X:Cx)(e:Expr)(t:TT):Prop:=
 ∀(pins:List (Addr×Obj)) (s:Shared) (σ:St) (H:Hp) (Q:Bool->Hp->Prop),Inv X pins σ H s->t σ H Q->wpAny (model X.prog X.w) X.A (isTrue e X.env (eval e X.env)) (TP X pins σ Q) X.xe s
def PW(X:Cx)(e:Expr)(t:TT):Prop:=
 ∀(whole:Sem Value) (pins:List (Addr×Obj)) (s:Shared) (σ:St) (H:Hp) (Q:Bool->Hp->Prop),Inv X pins σ H s->t σ H Q->wpAny (model X.prog X.w) X.A (isTrue e X.env whole) (TP X pins σ Q) X.xe s
def PW.pt{X:Cx}{e:Expr}{t:TT}(h:PW X e t):PT X e t:=h _
def PA(X:Cx)(es:List Expr)(t:TA):Prop:=
 ∀(pos:Pos) (pins:List (Addr×Obj)) (s:Shared) (σ:St) (H:Hp) (Q:List V->Hp->Prop),Inv X pins σ H s->t σ H Q->wpAny (model X.prog X.w) X.A (spliced (backTo pos (starEach es X.env))) (AP X pins σ Q) X.xe s
def PS(X:Cx)(st:Stmt)(t:TS):Prop:=
 ∀(pins:List (Addr×Obj)) (s:Shared) (σ:St) (H:Hp) (D:Ends),Inv X pins σ H s->t D σ H->wpAny (model X.prog X.w) X.A (exec st X.env) (SP X pins D) X.xe s
def fJ(X:Cx)(st:List Stmt)(t:TS):Prop:=
 ∀(pins:List (Addr×Obj)) (s:Shared) (σ:St) (H:Hp) (D:Ends),Inv X pins σ H s->t D σ H->wpAny (model X.prog X.w) X.A (execs st X.env) (SP X pins D) X.xe s
def ŉ{α:Type}{t:Sem α}{Q Q':α->Shared->Prop}{M:Model}{A:Around}{E:Value->Shared->Prop}{s:Shared}(h:wpAny M A t Q E s)(hQ:∀a s,Q a s->Q' a s):wpAny M A t Q' E s:=wpAny_mono h hQ λ_ _ x=>x
end L2
namespace L2
open PySem PySem.Spec PyProof.Rows
section
variable{X:Cx}
def rQ(i:Nat):TE:=λσ H Q=>∃v,σ[i]?=some (some v)/\Q v H
def tC(v:V):TE:=λ_ H Q=>Q v H
def cB{i:Nat}{x:Str}{pos:Pos}(hN:X.N[i]?=some x)(hv:wN X.env.scope x)(hd:(x== ("__debug__" :Str))=false:=by decide)(hcd:(x== ("__classdict__" :Str))=false:=by decide):PE X (.Name x pos) (rQ i):=by
 intro pins s σ H Q I h
 obtain⟨v,e,h⟩:=h
 obtain⟨m,hn,hl⟩:=I.loc
 obtain⟨u,r,l⟩:=hl i x v hN e hv
 have fin:EP X pins σ Q u s:=⟨v,H,I,r,h⟩
 rcases l with⟨hk,hm⟩|⟨hk,c,hc,hcell⟩
 ·exact wpAny_Name (wpAny_loadName_local I.ok.kind hk hn hm fin) hd
 ·rcases hk with hk|hk
  ·exact wpAny_Name (wpAny_loadName_cell I.ok.kind hk hc hcell fin) hd
  ·exact wpAny_Name (wpAny_loadName_free I.ok.kind hk hc hcell fin hcd) hd
def rY{i j pos}:PE X (.Constant (.int i) j pos) (tC (.int i)):=λ_ _ _ H _ I h=>wpAny_Constant_int ⟨.int i,H,I.tok _,⟨_,rfl⟩,h⟩
def Yy{b j pos}:PE X (.Constant (.bool b) j pos) (tC (.bl b)):=λ_ _ _ H _ I h=>Constant_bool ⟨.bl b,H,I,rfl,h⟩
def CZ{j pos}:PE X (.Constant .none j pos) (tC .non):=λ_ _ _ H _ I h=>Constant_none ⟨.non,H,I,rfl,h⟩
def Tr{x j pos}:PE X (.Constant (.str x) j pos) (tC (.str x)):=λ_ _ _ H _ I h=>Calls.Constant_str ⟨.str x,H,I.tok _,⟨_,rfl⟩,h⟩
def Gl(X:Cx)(x:Str):Prop:=X.env.kindOf x=some .globalImplicit
def mL{E:Value->Shared->Prop}{pins:List (Addr×Obj)}{s:Shared}{σ:St}{H:Hp}{x:Str}{u:Value}{pos:Pos}{Q:Value->Shared->Prop}(I:Inv X pins σ H s)(hg:Gl X x)(hm:X.mg x=some u)(h:Q u s)
 (hd:(x== ("__debug__" :Str))=false:=by decide):wpAny (model X.prog X.w) X.A (eval (.Name x pos) X.env) Q E s:=
 Calls.Name_function_global I.ok.kind hg (Calls.loadGlobal_global (by rw[I.ok.glob];exact I.mod.glob.keeps I.bk) hm h) hd
def fO{E:Value->Shared->Prop}{pins:List (Addr×Obj)}{s:Shared}{σ:St}{H:Hp}{x:Str}{u:Value}{pos:Pos}{Q:Value->Shared->Prop}(I:Inv X pins σ H s)(hg:Gl X x)(hm:X.mg x=none)(hv:bootBuiltins x=some u)(h:Q u s)
 (hn:x≠ "__name__" := by decide)(hd:(x== ("__debug__" :Str))=false:=by decide):wpAny (model X.prog X.w) X.A (eval (.Name x pos) X.env) Q E s:=by
 obtain⟨mb,h1,h2⟩:=I.mod.blt
 exact Calls.Name_function_global I.ok.kind hg (Calls.loadGlobal_builtin (by rw[I.ok.glob];exact I.mod.glob.keeps I.bk) hm (by rw[I.ok.blt];exact h1.keeps I.bk) ((h2 x hn).trans hv) h) hd
def jq{x:Str}{v:V}{u:Value}{pos:Pos}(hg:Gl X x)(hm:X.mg x=some u)(r:RelV v u)(hd:(x== ("__debug__" :Str))=false:=by decide):PE X (.Name x pos) (tC v):=
 λ_ _ _ H _ I h=>mL I hg hm ⟨v,H,I,r,h⟩ hd
def jr{x:Str}{v:V}{u:Value}{pos:Pos}(hg:Gl X x)(hm:X.mg x=none)(hv:bootBuiltins x=some u)(r:RelV v u)(hn:x≠ "__name__" := by decide)(hd:(x== ("__debug__" :Str))=false:=by decide):PE X (.Name x pos) (tC v):=
 λ_ _ _ H _ I h=>fO I hg hm hv ⟨v,H,I,r,h⟩ hn hd
variable{a b:Expr}{ta tb:TE}{pos:Pos}
variable{tA tB':TT}{rest:List Expr}
def Zcc(t u:TT):TT:=λσ H Q=>t σ H λc H1=>if c=true then u σ H1 Q else Q false H1
def tOr(t u:TT):TT:=λσ H Q=>t σ H λc H1=>if c=true then Q true H1 else u σ H1 Q
def Zcd(t:TT):TT:=λσ H Q=>t σ H λc H1=>Q (!c) H1
def Jm(ha:PT X a tA):PW X (.BoolOp .And [a] pos) tA:=by
 intro wh pins s σ H Q I h
 refine isTrue_and (ŉ (ha pins s σ H Q I h) λc s1 e=>?_)
 cases c with
 |true=>exact isTrue_and_nil e
 |false=>exact e
def Tt(ha:PT X a tA):PW X (.BoolOp .Or [a] pos) tA:=by
 intro wh pins s σ H Q I h
 refine isTrue_or (ŉ (ha pins s σ H Q I h) λc s1 e=>?_)
 cases c with
 |false=>exact isTrue_or_nil e
 |true=>exact e
def Tw(ha:PT X a tA)(hb:PW X (.BoolOp .And (b::rest) pos) tB'):PW X (.BoolOp .And (a::b::rest) pos) (Zcc tA tB'):=by
 intro wh pins s σ H Q I h
 refine isTrue_and (ŉ (ha pins s σ H _ I h) λc s1 ⟨H1,I1,q1⟩=>?_)
 cases c with
 |true=>exact hb wh pins s1 σ H1 Q I1 q1
 |false=>exact⟨H1,I1,q1⟩
def Yz(ha:PT X a tA)(hb:PW X (.BoolOp .Or (b::rest) pos) tB'):PW X (.BoolOp .Or (a::b::rest) pos) (tOr tA tB'):=by
 intro wh pins s σ H Q I h
 refine isTrue_or (ŉ (ha pins s σ H _ I h) λc s1 ⟨H1,I1,q1⟩=>?_)
 cases c with
 |true=>exact⟨H1,I1,q1⟩
 |false=>exact hb wh pins s1 σ H1 Q I1 q1
def Tz(ha:PT X a tA):PT X (.UnaryOp .Not a pos) (Zcd tA):=by
 intro pins s σ H Q I h
 exact isTrue_not (ha pins s σ H (λc H1=>Q (!c) H1) I h)
def TF{op}{t:TE}(h:PE X a t):PE X (.BoolOp op [a] pos) t:=λpins s σ H Q I hw=>BoolOp_one (h pins s σ H Q I hw)
def tIf(t:TT)(ta tb:TE):TE:=λσ H Q=>t σ H λc H1=>if c=true then ta σ H1 Q else tb σ H1 Q
def C_{c:Expr}(hc:PT X c tA)(ha:PE X a ta)(hb:PE X b tb):PE X (.IfExp c a b pos) (tIf tA ta tb):=by
 intro pins s σ H Q I h
 refine wpAny_IfExp (ŉ (hc pins s σ H _ I h) λd s1 ⟨H1,I1,q1⟩=>?_)
 cases d with
 |true=>exact ha pins s1 σ H1 Q I1 q1
 |false=>exact hb pins s1 σ H1 Q I1 q1
end
end L2
namespace L2
open PySem PySem.Spec PyProof.Rows
def Ś(K:PySem.W.Frag)(H:Hp)(a:Addr)(xs:List V):Prop:=
 Rd H a (.lst xs)\/
  ∃(o:Obj) (its:Array Value) (n:Nat),K.lookup a=some o/\o.cls=.type "list" /\o.dict=none/\o.data=.seq its n/\its.size<=sizeLine/\Vals xs its.toList
def dD(K:PySem.W.Frag)(H:Hp)(a:Addr)(xs:List V):Prop:=
 Rd H a (.tup xs)\/
  ∃(o:Obj) (its:Array Value) (n:Nat),K.lookup a=some o/\o.cls=.type "tuple" /\o.data=.seq its n/\its.size<=sizeLine/\Vals xs its.toList
def Zce:Value->Option V
 | .none=>some .non
 | .bool b=>some (.bl b)
 | .int i _=>some (.int i)
 | .str x _=>some (.str x)
 | .bytes b _=>some (.Ji b)
 | .float b _=>some (.flt b)
 | .ref a=>some (.ref a)
 | .type n=>some (.ty n)
 |_=>none
def RelV.abs{x:V}{u:Value}(r:RelV x u):Zce u=some x:=by
 cases x with
 |non=>cases r;rfl
 |bl _=>cases r;rfl
 |int _=>obtain⟨t,rfl⟩:=r;rfl
 |str _=>obtain⟨t,rfl⟩:=r;rfl
 |Ji _=>obtain⟨t,rfl⟩:=r;rfl
 |flt _=>obtain⟨t,rfl⟩:=r;rfl
 |ref _=>cases r;rfl
 |ty _=>cases r;rfl
theorem RelV.inj{x y:V}{u:Value}(r:RelV x u)(q:RelV y u):x=y:=Option.some.inj (r.abs.symm.trans q.abs)
theorem Vals.inj:∀{xs ys:List V} {us:List Value},Vals xs us->Vals ys us->xs=ys
 |_,_,_,.nil,.nil=>rfl
 |_,_,_,.cons r t,.cons r' t'=>by rw[r.inj r',Vals.inj t t']
section
variable{X:Cx}{pins:List (Addr×Obj)}{σ:St}{H:Hp}{s:Shared}{a:Addr}{xs ys:List V}
def Ś.of{K:PySem.W.Frag}(h:H a=some (.lst xs)):Ś K H a xs:=.inl (.inl h)
def dD.of{K:PySem.W.Frag}(h:H a=some (.tup xs)):dD K H a xs:=.inl (.inl h)
def Inv.list(I:Inv X pins σ H s)(h:Ś X.K H a xs):∃its:List Value,Vals xs its/\PlainL s.heap a its.toArray/\xs.length<=sizeLine:=by
 rcases h with h|⟨o,its,n,hk,hc,hd,hs,hz,r⟩
 ·obtain⟨z,its,n,r,e⟩:=h.ok I.hok
  exact⟨its,r,⟨_,n,e,rfl,rfl,rfl⟩,z⟩
 ·refine⟨its.toList,r,⟨o,n,I.jM a o hk,hc,hd,by simpa using hs⟩,?_⟩
  have e:=r.length
  simp only[Array.length_toList] at e
  omega
def Inv.tuple(I:Inv X pins σ H s)(h:dD X.K H a xs):∃its:List Value,Vals xs its/\IsTup s.heap a its.toArray/\xs.length<=sizeLine:=by
 rcases h with h|⟨o,its,n,hk,hc,hs,hz,r⟩
 ·obtain⟨z,its,r,p⟩:=h.ok I.hok
  exact⟨its,r,p,z⟩
 ·refine⟨its.toList,r,⟨o,I.jM a o hk,hc,n,by simpa using hs⟩,?_⟩
  have e:=r.length
  simp only[Array.length_toList] at e
  omega
def Inv.uZ(I:Inv X pins σ H s)(h:Ś X.K H a xs)(h':Ś X.K H a ys):xs=ys:=by
 obtain⟨its,r,⟨o,n,e,_,_,d⟩,_⟩:=I.list h
 obtain⟨its',r',⟨o',n',e',_,_,d'⟩,_⟩:=I.list h'
 rw[e] at e';cases e'
 rw[d] at d'
 injection d' with d1 _
 have:its=its':=by simpa using congrArg Array.toList d1
 subst this
 exact r.inj r'
def Inv.Bo(I:Inv X pins σ H s)(h:dD X.K H a xs)(h':dD X.K H a ys):xs=ys:=by
 obtain⟨its,r,⟨o,e,_,n,d⟩,_⟩:=I.tuple h
 obtain⟨its',r',⟨o',e',_,n',d'⟩,_⟩:=I.tuple h'
 rw[e] at e';cases e'
 rw[d] at d'
 injection d' with d1 _
 have:its=its':=by simpa using congrArg Array.toList d1
 subst this
 exact r.inj r'
end
abbrev Cx.wish(X:Cx)(E:Value->Shared->Prop):Cx:={X with xe:=E}
abbrev Cx.ő(X:Cx):Cx:=X.wish λ_ _=>False
theorem Cx.Ok.wish{X:Cx}(ok:X.Ok)(E:Value->Shared->Prop):(X.wish E).Ok:=
 ⟨ok.mod,ok.kind,ok.glob,ok.blt,ok.above,ok.inj,ok.has,ok.cab,ok.hd,ok.frames,ok.stk,ok.exf,ok.bs,ok.Jd,ok.CW,ok.Jl,ok.lV,ok.Tp,ok.tb⟩
def Cx.Ok.dF{X:Cx}{E:Value->Shared->Prop}(ok:(X.wish E).Ok):X.Ok:=
 ⟨ok.mod,ok.kind,ok.glob,ok.blt,ok.above,ok.inj,ok.has,ok.cab,ok.hd,ok.frames,ok.stk,ok.exf,ok.bs,ok.Jd,ok.CW,ok.Jl,ok.lV,ok.Tp,ok.tb⟩
section
variable{X:Cx}{pins:List (Addr×Obj)}{σ:St}{H:Hp}{s:Shared}{E:Value->Shared->Prop}
theorem Inv.wish(I:Inv X pins σ H s)(E:Value->Shared->Prop):Inv (X.wish E) pins σ H s:=⟨I.ok.wish E,I.os,I.bare,I.base,I.loc,I.cell,I.free,I.fL,I.pin,I.hok,I.len⟩
theorem Inv.dF(I:Inv (X.wish E) pins σ H s):Inv X pins σ H s:=⟨I.ok.dF,I.os,I.bare,I.base,I.loc,I.cell,I.free,I.fL,I.pin,I.hok,I.len⟩
theorem SP.dF{D:Ends}{f:Flow}{s':Shared}(h:SP (X.wish E) pins D f s'):SP X pins D f s':=by
 cases f with
 |next=>obtain⟨σ',H',I,q⟩:=h;exact⟨σ',H',I.dF,q⟩
 |brk=>obtain⟨σ',H',I,q⟩:=h;exact⟨σ',H',I.dF,q⟩
 |cont=>obtain⟨σ',H',I,q⟩:=h;exact⟨σ',H',I.dF,q⟩
 |ret u=>obtain⟨v,σ',H',I,r,q⟩:=h;exact⟨v,σ',H',I.dF,r,q⟩
theorem PE.ő{e:Expr}{t:TE}(h:PE X.ő e t):PE X e t:=λpins s σ H Q I hw=>
 wpAny_mono (h pins s σ H Q (I.wish _) hw) (λ_ _ ⟨v,H',I',r,q⟩=>⟨v,H',I'.dF,r,q⟩) λ_ _ z=>False.elim z
end
section
variable{X:Cx}{st:Stmt}{rest:List Stmt}{t u:TS}{e:Expr}{te:TE}{pos:Pos}
def YB:TS:=λD σ H=>D.nx σ H
def Zcf(t u:TS):TS:=λD σ H=>t {D with nx:=u D} σ H
def zM:fJ X [] YB:=λ_ _ σ H _ I h=>wpAny_execs_nil ⟨σ,H,I,h⟩
def fP(h1:PS X st t)(h2:fJ X rest u):fJ X (st::rest) (Zcf t u):=by
 intro pins s σ H D I h
 refine wpAny_execs_cons (ŉ (h1 pins s σ H {D with nx:=u D} I h) λf s1 q=>?_)
 cases f with
 |next=>
  obtain⟨σ',H',I',q⟩:=q
  exact h2 pins s1 σ' H' D I' q
 |ret v=>exact q
 |brk=>exact q
 |cont=>exact q
def Jo(h1:PS X st t):fJ X [st] t:=by
 intro pins s σ H D I h
 refine wpAny_execs_cons (ŉ (h1 pins s σ H D I h) λf s1 q=>?_)
 cases f with
 |next=>exact wpAny_execs_nil q
 |ret v=>exact q
 |brk=>exact q
 |cont=>exact q
def Inv.quiet{pins:List (Addr×Obj)}{σ:St}{H:Hp}{s:Shared}(I:Inv X pins σ H s):interactive X.env=false:=by simp[interactive,I.ok.kind]
def u_(te:TE):TS:=λD σ H=>te σ H λ_ H1=>D.nx σ H1
def Ż(he:PE X e te)(hs:swapsWith e none pos.line X.env=pure false:=by rfl):PS X (.Expr e pos) (u_ te):=by
 intro pins s σ H D I h
 exact wpAny_Expr_any (ŉ (he pins s σ H _ I h) λv s1 ⟨x,H1,I1,r1,q1⟩=>⟨σ,H1,I1,q1⟩) I.quiet hs
def Zcg(te:TE):TS:=λD σ H=>te σ H D.rt
def TJ(he:PE X e te):PS X (.Return (some e) pos) (Zcg te):=by
 intro pins s σ H D I h
 exact wpAny_Return_some (ŉ (he pins s σ H _ I h) λv s1 ⟨x,H1,I1,r1,q1⟩=>⟨x,σ,H1,I1,r1,q1⟩)
def Zch(c:TT)(t u:TS):TS:=λD σ H=>c σ H λb H1=>if b=true then t D σ H1 else u D σ H1
def Mf{c:Expr}{a b:List Stmt}{tc:TT}(hc:PT X c tc)(ha:fJ X a t)(hb:fJ X b u):PS X (.If c a b pos) (Zch tc t u):=by
 intro pins s σ H D I h
 refine wpAny_If (ŉ (hc pins s σ H _ I h) λd s1 ⟨H1,I1,q1⟩=>?_)
 cases d with
 |true=>exact ha pins s1 σ H1 D I1 q1
 |false=>exact hb pins s1 σ H1 D I1 q1
def TQ:TS:=λ_ _ _=>False
def Dc:PS X st TQ:=λ_ _ _ _ _ _ h=>h.elim
end
abbrev TG:=V->St->Hp->(St->Hp->Prop)->Prop
abbrev Dd:=List V->St->Hp->(St->Hp->Prop)->Prop
def PG(X:Cx)(target:Expr)(t:TG):Prop:=
 ∀(pins:List (Addr×Obj)) (s:Shared) (σ:St) (H:Hp) (v:V) (u:Value) (Q:St->Hp->Prop),Inv X pins σ H s->RelV v u->t v σ H Q->
  wpAny (model X.prog X.w) X.A (assign target X.env u) (λ_ s'=>∃σ' H',Inv X pins σ' H' s'/\Q σ' H') X.xe s
def wO(X:Cx)(ts:List Expr)(t:Dd):Prop:=
 ∀(pins:List (Addr×Obj)) (s:Shared) (σ:St) (H:Hp) (vs:List V) (us:List Value) (Q:St->Hp->Prop),Inv X pins σ H s->Vals vs us->t vs σ H Q->
  wpAny (model X.prog X.w) X.A (assignInOrder ((assignEach ts X.env).map (·.2)) us) (λ_ s'=>∃σ' H',Inv X pins σ' H' s'/\Q σ' H') X.xe s
abbrev TIp:=V->V->Hp->VK->Prop
def PIp(X:Cx)(op:Operator)(t:TIp):Prop:=
 ∀(pins:List (Addr×Obj)) (s:Shared) (σ:St) (H:Hp) (x y:V) (v u:Value) (Q:VK),Inv X pins σ H s->RelV x v->RelV y u->t x y H Q->
  wpAny (model X.prog X.w) X.A (inplaceOp op v u) (EP X pins σ Q) X.xe s
section
variable{X:Cx}{pos:Pos}
def Dg(i:Nat):TG:=λv σ H Q=>Q (σ.set i (some v)) H
def Jp{i:Nat}{x:Str}(hN:X.N.Nodup)(hi:X.N[i]?=some x)(hx:Loc X.env.scope x)(hf:X.fn x=true\/X.env.scope.names.lookup x=some .local:=by first|exact .inl rfl|exact .inr rfl|assumption):PG X (.Name x pos) (Dg i):=by
 intro pins s σ H v u Q I r h
 exact wpAny_assign_Name (fM I hN hi hx r (λs' I'=>⟨_,H,I',h⟩) hf)
def Zci:Dd:=λvs σ H Q=>vs=[]/\Q σ H
def YC(t:TG)(u:Dd):Dd:=λvs σ H Q=>∃v r,vs=v::r/\t v σ H λσ' H'=>u r σ' H' Q
def Jq:wO X [] Zci:=by
 intro pins s σ H vs us Q I r h
 obtain⟨e,h⟩:=h
 subst e
 cases r
 exact assignInOrder_nil ⟨σ,H,I,h⟩
def Dh{e:Expr}{es:List Expr}{t:TG}{u:Dd}(h1:PG X e t)(h2:wO X es u)
 (hs:(assignEach (e::es) X.env).map (·.2)=assign e X.env::(assignEach es X.env).map (·.2):=by rfl):wO X (e::es) (YC t u):=by
 intro pins s σ H vs us Q I r h
 obtain⟨v,vr,e1,h⟩:=h
 subst e1
 cases r with
 |cons r rr=>
  rw[hs]
  refine assignInOrder_cons (ŉ (h1 pins s σ H _ _ _ I r h) λ_ s1 ⟨σ1,H1,I1,q1⟩=>?_)
  exact h2 pins s1 σ1 H1 _ _ Q I1 rr q1
def Zcj(K:PySem.W.Frag)(n:Nat)(t:Dd):TG:=λv σ H Q=>∃a xs,v=.ref a/\dD K H a xs/\xs.length=n/\t xs σ H Q
def Di{es:List Expr}{k:Nat}{t:Dd}{n:Nat}(hc:X.calm=true)(h:wO X es t)
 (hn:(assignEach es X.env).length=n:=by rfl)(hst:(assignEach es X.env).findIdx? (·.1)=none:=by rfl):PG X (.Tuple es k pos) (Zcj X.K n t):=by
 intro pins s σ H v u Q I r hw
 obtain⟨a,xs,e1,hq,hl,hw⟩:=hw
 subst e1
 cases r
 obtain⟨its,rv,ht,hz⟩:=I.tuple hq
 refine assign_Tuple_tuple (I.ok.hd hc) ht (by simp[hn,<-hl,rv.length]) hst λh' hx=>?_
 have I1:Inv X pins σ H {s with heap:=h'}:=I.kept (t':=s.toks) λb o e=>hx b o (Nat.ne_of_lt (Heap.lt_size e)) e
 exact h pins _ σ H xs _ Q I1 (by simpa using rv) hw
def TX(te:TE)(g:TG):TS:=λD σ H=>te σ H λx H1=>g x σ H1 D.nx
def TY{tg e:Expr}{te:TE}{g:TG}(he:PE X e te)(hg:PG X tg g)(hs:swapsWithSole [tg] e pos.line X.env=pure false:=by rfl)(hw:swappedStores [tg] e X.env=pure none:=by rfl)
 (h1:(assignEach [tg] X.env).map (·.2)=[assign tg X.env]:=by rfl):PS X (.Assign [tg] e pos) (TX te g):=by
 intro pins s σ H D I h
 refine wpAny_Assign_stores (ŉ (he pins s σ H _ I h) λv s1 ⟨x,H1,I1,r1,q1⟩=>?_) hs hw
 rw[h1]
 exact ŉ (hg pins s1 σ H1 x v _ I1 r1 q1) λ_ s2 q=>q
def Dj{i:Nat}{x:Str}{e:Expr}{te:TE}{pos':Pos}(hN:X.N.Nodup)(hi:X.N[i]?=some x)(hx:Loc X.env.scope x)(he:PE X e te)(hs:swapsWith e (some (.Name x pos')) pos.line X.env=pure false:=by rfl)(hf:X.fn x=true\/X.env.scope.names.lookup x=some .local:=by first|exact .inl rfl|exact .inr rfl|assumption) :
 PS X (.Assign [.Name x pos'] e pos) (TX te (Dg i)):=by
 intro pins s σ H D I h
 refine wpAny_Assign_Name (ŉ (he pins s σ H _ I h) λv s1 ⟨y,H1,I1,r1,q1⟩=>?_) hs
 exact fM I1 hN hi hx r1 (λs2 I2=>⟨_,H1,I2,q1⟩) hf
def YD(i j:Nat)(ta:TA):TS:=λD σ H=>ta σ H λvs H1=>∃v w,vs=[v,w]/\D.nx ((σ.set i (some v)).set j (some w)) H1
def T_{i j:Nat}{x y:Str}{a b:Expr}{ta:TA}{px py pt:Pos}{kt k2 pt2}(hc:X.calm=true)(hN:X.N.Nodup)(hi:X.N[i]?=some x)(hj:X.N[j]?=some y)(hij:i≠j)
 (hx:X.env.scope.names.lookup x=some .local)(hy:X.env.scope.names.lookup y=some .local)(ha:PA X [a,b] ta)
 (hw:swappedStores [.Tuple [.Name x px,.Name y py] kt pt] (.Tuple [a,b] k2 pt2) X.env=pure (some [x,y]))
 (hs:swapsWithSole [.Tuple [.Name x px,.Name y py] kt pt] (.Tuple [a,b] k2 pt2) pos.line X.env=pure false:=by rfl) :
 PS X (.Assign [.Tuple [.Name x px,.Name y py] kt pt] (.Tuple [a,b] k2 pt2) pos) (YD i j ta):=by
 intro pins s σ H D I h
 rw[exec_Assign_arm]
 refine wpAny_bind (wpAny_standAt ?_)
 rw[hs]
 refine wpAny_bind (wpAny_pure ?_)
 rw[if_neg (by decide)]
 refine wpAny_bind (Tuple_ (ŉ (ha _ pins s σ H _ I h) λus s1 ⟨vs,H1,I1,r1,q1⟩=>?_))
 obtain⟨v,w,e1,q1⟩:=q1
 subst e1
 obtain⟨u1,u2,rfl,rv,Ua⟩:∃u1 u2,us=[u1,u2]/\RelV v u1/\RelV w u2:=by
  cases r1 with
  |cons p q=>
   cases q with
   |cons p' q'=>
    cases q'
    exact⟨_,_,rfl,p,p'⟩
 refine wpAny_newObj_type ?_ (by show 2<=sizeLine;decide)
 have I2:Inv X pins σ H1 {s1 with heap:=s1.heap.push {cls:=.type "tuple",data:=.seq [u1,u2].toArray}}:=I1.kept (t':=s1.toks) λb o e=>Heap.get?_push_of_some _ e
 rw[hw]
 refine wpAny_bind (wpAny_pure ?_)
 show wpAny (model X.prog X.w) X.A (do rule "assign.swapped-stores";let items <-unpackItems (.ref s1.heap.objs.size) 2 none;assignInOrder [λv=>bindName X.env y v,λv=>bindName X.env x v] items.reverse;pure Flow.next) _ _ _
 refine wpAny_bind (wpAny_rule (wpAny_bind (unpackItems_tuple (items:=#[u1,u2]) (I.ok.hd hc) (IsTup.new s1.heap _) λh' hx'=>?_)))
 have I3:=I2.kept (h':=h') (t':=s1.toks) λb o e=>hx' b o (Nat.ne_of_lt (Heap.lt_size e)) e
 show wpAny _ _ (assignInOrder [λv=>bindName X.env y v,λv=>bindName X.env x v] [u2,u1] >>= λ_=>pure Flow.next) _ _ _
 refine wpAny_bind (assignInOrder_cons (wpAny_bindName (fM I3 hN hj (.inl hy) Ua (λs2 I4=>?_) (.inr hy))))
 refine assignInOrder_cons (wpAny_bindName (fM I4 hN hi (.inl hx) rv (λs3 I5=>assignInOrder_nil (wpAny_pure ?_)) (.inr hx)))
 rw[List.set_comm _ _ (Ne.symm hij)] at I5
 exact⟨_,H1,I5,q1⟩
def Zck(i:Nat)(te:TE)(ti:TIp):TS:=λD σ H=>∃x,σ[i]?=some (some x)/\te σ H λy H1=>ti x y H1 λz H2=>D.nx (σ.set i (some z)) H2
def Ub{i:Nat}{x:Str}{e:Expr}{te:TE}{op:Operator}{ti:TIp}{pos':Pos}(hN:X.N.Nodup)(hi:X.N[i]?=some x)(hx:Loc X.env.scope x)(he:PE X e te)(ho:PIp X op ti)(hf:X.fn x=true\/X.env.scope.names.lookup x=some .local:=by first|exact .inl rfl|exact .inr rfl|assumption) :
 PS X (.AugAssign (.Name x pos') op e pos) (Zck i te ti):=by
 intro pins s σ H D I h
 obtain⟨v,e1,h⟩:=h
 obtain⟨m,hn,hl⟩:=I.loc
 have vis:wN X.env.scope x:=by rcases hx with k|k;exact .inl k;exact .inr (.inl k)
 obtain⟨u,r,l⟩:=hl i x v hi e1 vis
 refine wpAny_AugAssign_Name ?_
 have go:wpAny (model X.prog X.w) X.A (eval e X.env) (λw s₂=>wpAny (model X.prog X.w) X.A (inplaceOp op u w) (λr s₃=>wpAny (model X.prog X.w) X.A (storeName X.env x r) (λ_=>SP X pins D .next) X.xe s₃) X.xe s₂) X.xe s:=by
  refine ŉ (he pins s σ H _ I h) λw s1 ⟨y,H1,I1,r1,q1⟩=>?_
  refine ŉ (ho pins s1 σ H1 v y u w _ I1 r r1 q1) λz s2 ⟨zv,H2,I2,r2,q2⟩=>?_
  exact fM I2 hN hi hx r2 (λs3 I3=>⟨_,H2,I3,q2⟩) hf
 rcases l with⟨hk,hm⟩|⟨hk,c,hc,hcell⟩
 ·exact wpAny_loadName_local I.ok.kind hk hn hm go
 ·rcases hk with hk|hk
  ·exact wpAny_loadName_cell I.ok.kind hk hc hcell go
  ·rcases hx with k|k
   ·have:X.env.scope.names.lookup x=some .free:=hk
    rw[k] at this;cases this
   ·have:X.env.scope.names.lookup x=some .free:=hk
    rw[k] at this;cases this
def ipI(f:Int->Int->Int):TIp:=λx y H Q=>∃i j,x=.int i/\y=.int j/\Q (.int (f i j)) H
end
section
variable{X:Cx}{pos:Pos}
def Uc(c:TT)(tb:TS):TS:=λD σ H=>∃W:Nat->St->Hp->Prop,(∃m,W m σ H)/\∀m σ H,W m σ H->
 c σ H λb H1=>if b=true then ∃N:St->Hp->Prop,(∀σ' H',N σ' H'->∃m',m'<m/\W m' σ' H')/\tb {D with nx:=N,ct:=N,bk:=D.nx} σ H1 else D.nx σ H1
def Dk{c:Expr}{body:List Stmt}{tc:TT}{tb:TS}(hp:PassesOwn (model X.prog X.w) X.A X.env X.xe)(hc:PT X c tc)(hb:fJ X body tb):PS X (.While c body [] pos) (Uc tc tb):=by
 intro pins s σ H D I h
 obtain⟨W,⟨m0,w0⟩,turn⟩:=h
 refine wpAny_While (codeAny_whileLoop (λn s'=>∃σ' H',Inv X pins σ' H' s'/\W n σ' H') ?_ m0 ⟨σ,H,I,w0⟩)
 rintro n s1 ⟨σ1,H1,I1,w1⟩
 refine wpAny_passesOwn hp (ŉ (hc pins s1 σ1 H1 _ I1 (turn n σ1 H1 w1)) λb s2 ⟨H2,I2,q2⟩=>?_)
 cases b with
 |true=>
  obtain⟨N,hN,q2⟩:=q2
  rw[if_pos rfl]
  refine wpAny_passesOwn hp (ŉ (hb pins s2 σ1 H2 _ I2 q2) λf s3 q3=>?_)
  cases f with
  |next=>
   obtain⟨σ3,H3,I3,n3⟩:=q3
   obtain⟨m',hm,w3⟩:=hN σ3 H3 n3
   exact⟨m',hm,σ3,H3,I3,w3⟩
  |cont=>
   obtain⟨σ3,H3,I3,n3⟩:=q3
   obtain⟨m',hm,w3⟩:=hN σ3 H3 n3
   exact⟨m',hm,σ3,H3,I3,w3⟩
  |brk=>exact q3
  |ret v=>exact q3
 |false=>
  rw[if_neg Bool.false_ne_true]
  exact wpAny_execs_nil ⟨σ1,H2,I2,q2⟩
end
structure It where
 go:Nat->Hp->Prop
 yld:Nat->Hp->V->Hp->Prop
 stop:Nat->Hp->Prop
def cC(X:Cx)(pins:List (Addr×Obj))(H:Hp)(b:Addr):Prop:=
 H b=none/\b≠X.env.locals/\b∉X.fs/\(b∈X.ex\/X.s₀.heap.objs.size<=b)/\(∀x c,X.env.cells.lookup x=some c->c≠b)/\∀p∈X.pn++pins,p.1≠b
def Inv.rZ{X:Cx}{pins:List (Addr×Obj)}{σ:St}{H H':Hp}{s:Shared}{b:Addr}(I:Inv X pins σ H s)(hb:s.heap.objs.size<=b)(hn:H' b=none):cC X pins H' b:=by
 refine⟨hn,Nat.ne_of_gt (Nat.lt_of_lt_of_le I.lt hb),I.Zca hb,.inr (Nat.le_trans I.sz hb),λx c e z=>?_,λp hp z=>?_⟩
 ·obtain⟨v,q⟩:=I.cell x c e
  exact absurd (Nat.lt_of_lt_of_le q.lt (by rw[z];exact hb)) (Nat.lt_irrefl _)
 ·exact absurd (Nat.lt_of_lt_of_le (Heap.lt_size (I.pin p hp).1) (by rw[z];exact hb)) (Nat.lt_irrefl _)
structure Turn(P:Program)(w:World)(K:PySem.W.Frag)(tg:Expr)(J:It)(fp:List Addr)(it:Addr)(tn:Nat->Heap->Prop):Prop where
 mem:it∈fp
 obj:∀i h,tn i h->∀b∈fp,∃o,h.get? b=some o/\∀v,o.data≠ .cell v
 keep:∀i h h',tn i h->(∀b∈fp,∀o,h.get? b=some o->h'.get? b=some o)->tn i h'
 item:∀(X:Cx),X.prog=P->X.w=w->X.K=K->X.calm=true->∀(i:Nat) (pins:List (Addr×Obj)) (s:Shared) (σ:St) (H:Hp) (E:Value->Shared->Prop),Inv X pins σ H s->(∀b∈fp,cC X pins H b)->tn i s.heap->J.go i H->
  wpAny (model P w) X.A (pyNext (.ref it)) (λr s1=>∃u,r=some u/\
   wpAny (model P w) X.A (letOwnedTupleGo tg (.ref it) u) (λ_ s2=>∃x H',Inv X pins σ H' s2/\RelV x u/\J.yld i H x H'/\tn (i+1) s2.heap/\∀b∈fp,H' b=none) E s1) E s
 done:∀(X:Cx),X.prog=P->X.w=w->X.K=K->X.calm=true->∀(i:Nat) (pins:List (Addr×Obj)) (s:Shared) (σ:St) (H:Hp) (E:Value->Shared->Prop),Inv X pins σ H s->(∀b∈fp,cC X pins H b)->tn i s.heap->J.stop i H->
  wpAny (model P w) X.A (pyNext (.ref it)) (λr s1=>r=none/\Inv X pins σ H s1) E s
 self:∀(A:Around) (i:Nat) (s:Shared) (Q:Value->Shared->Prop) (E:Value->Shared->Prop),tn i s.heap->Q (.ref it) s->wpAny (model P w) A (pyIter (.ref it)) Q E s
abbrev TI:=St->Hp->(It->Hp->Prop)->Prop
def PIE(X:Cx)(pins:List (Addr×Obj))(σ:St)(tg:Expr)(R:It->Hp->Prop)(itv:Value)(s2:Shared):Prop:=
 ∃(it:Addr) (fp:List Addr) (tn:Nat->Heap->Prop) (J:It) (H':Hp),itv=.ref it/\Inv X pins σ H' s2/\Turn X.prog X.w X.K tg J fp it tn/\tn 0 s2.heap/\(∀b∈fp,cC X pins H' b)/\R J H'
def PI(X:Cx)(tg iter:Expr)(wi:TI):Prop:=
 ∀(pins:List (Addr×Obj)) (s:Shared) (σ:St) (H:Hp) (R:It->Hp->Prop),Inv X pins σ H s->wi σ H R->
  wpAny (model X.prog X.w) X.A (eval iter X.env) (λv s1=>wpAny (model X.prog X.w) X.A (pyIter v) (PIE X pins σ tg R) X.xe s1) X.xe s
def vd{M:Model}{A:Around}{E:Value->Shared->Prop}{s:Shared}{tg:Expr}{it:Addr}{u:Value}{o:Obj}{n:String}{vs:Array Value}{Q:Unit->Shared->Prop}(ho:s.heap.get? it=some o)(hc:o.cls=.type n)(hd:o.data=.fields vs)
 (hn:["enumerate","zip","dict_itemiterator","dict_reverseitemiterator","odict_iterator","itertools.zip_longest","itertools.pairwise"].contains n=false)(hQ:Q () s):wpAny M A (letOwnedTupleGo tg (.ref it) u) Q E s:=by
 unfold letOwnedTupleGo
 cases tg<;>first
  |exact wpAny_pure hQ
  |(cases u<;>first
     |exact wpAny_pure hQ
     |(refine wpAny_bind (wpAny_load ho ?_)
       rw[hc,hd]
       show wpAny M A (if(["enumerate","zip","dict_itemiterator","dict_reverseitemiterator","odict_iterator","itertools.zip_longest","itertools.pairwise"].contains n && vs[0]?== some (rawInt _))=true then _ else _) Q E s
       rw[if_neg (by intro h;rw[hn,Bool.false_and] at h;cases h)]
       exact wpAny_pure hQ))
def Itl(K:PySem.W.Frag)(a:Addr):It:=
 ⟨λi H=>∃xs x,Ś K H a xs/\xs[i]?=some x,λi H x H'=>H'=H/\∀xs,Ś K H a xs->xs[i]?=some x,λi H=>∃xs,Ś K H a xs/\xs.length<=i⟩
def Itt(K:PySem.W.Frag)(a:Addr):It:=
 ⟨λi H=>∃xs x,dD K H a xs/\xs[i]?=some x,λi H x H'=>H'=H/\∀xs,dD K H a xs->xs[i]?=some x,λi H=>∃xs,dD K H a xs/\xs.length<=i⟩
def Itr(lo:Int)(n:Nat):It:=⟨λi _=>i<n,λi H x H'=>H'=H/\x=.int (lo+i),λi _=>n<=i⟩
def Bp{P:Program}{w:World}{K:PySem.W.Frag}{tg:Expr}(a it:Addr):Turn P w K tg (Itl K a) [it] it (λi h=>h.IsListIter it a i) where
 mem:=by simp
 obj:=λi h st b hb=>by
  have e:b=it:=by simpa using hb
  subst e
  obtain⟨o,e,c,d⟩:=st
  exact⟨o,e,λv z=>by rw[d] at z;cases z⟩
 keep:=λi h h' st k=>st.at λo e=>k it (by simp) o e
 item:=by
  intro X hP hw hK hc i pins s σ H E I hf st hg
  subst hP hw hK
  obtain⟨xs,x,hq,hx⟩:=hg
  obtain⟨its,rv,p,hz⟩:=I.list hq
  obtain⟨u,hu,ru⟩:=rv.get hx
  obtain⟨f0,f1,f2,f3,f4,f5⟩:=hf it (by simp)
  refine wpAny_pyNext_list_item st p.isList (x:=u) (by simpa using hu) λh' st' sb=>?_
  have I1:Inv X pins σ H {s with heap:=h'}:=I.turned (t':=s.toks) (λb o hb e=>(sb.2 b hb).trans e) f0 f1 f3 f4 f5
  obtain⟨o,e,c,d⟩:=id st'
  exact⟨u,rfl,vd (s:={s with heap:=h'}) e c d (by decide) ⟨x,H,I1,ru,⟨rfl,λys hy=>by rw[I.uZ hy hq];exact hx⟩,st',λb hb=>(hf b hb).1⟩⟩
 done:=by
  intro X hP hw hK hc i pins s σ H E I hf st hg
  subst hP hw hK
  obtain⟨xs,hq,hx⟩:=hg
  obtain⟨its,rv,p,hz⟩:=I.list hq
  obtain⟨f0,f1,f2,f3,f4,f5⟩:=hf it (by simp)
  have hl:=rv.length
  exact wpAny_pyNext_list_end (I.ok.hd hc) st p.isList (by simp;omega) λh' eb=>⟨rfl,I.turned (t':=s.toks) (λb o hb e=>eb b o hb e) f0 f1 f3 f4 f5⟩
 self:=λ_ _ _ _ _ st h=>wpAny_pyIter_listiter st h
def wV{P:Program}{w:World}{K:PySem.W.Frag}{tg:Expr}(a it:Addr):Turn P w K tg (Itt K a) [it] it (λi h=>h.IsTupleIter it a i) where
 mem:=by simp
 obj:=λi h st b hb=>by
  have e:b=it:=by simpa using hb
  subst e
  obtain⟨o,e,c,d⟩:=st
  exact⟨o,e,λv z=>by rw[d] at z;cases z⟩
 keep:=λi h h' st k=>st.at λo e=>k it (by simp) o e
 item:=by
  intro X hP hw hK hc i pins s σ H E I hf st hg
  subst hP hw hK
  obtain⟨xs,x,hq,hx⟩:=hg
  obtain⟨its,rv,p,hz⟩:=I.tuple hq
  obtain⟨u,hu,ru⟩:=rv.get hx
  obtain⟨f0,f1,f2,f3,f4,f5⟩:=hf it (by simp)
  refine wpAny_pyNext_tuple_item st (show s.heap.IsTuple a its.toArray from p) (x:=u) (by simpa using hu) λh' st' sb=>?_
  have I1:Inv X pins σ H {s with heap:=h'}:=I.turned (t':=s.toks) (λb o hb e=>(sb.2 b hb).trans e) f0 f1 f3 f4 f5
  obtain⟨o,e,c,d⟩:=id st'
  exact⟨u,rfl,vd (s:={s with heap:=h'}) e c d (by decide) ⟨x,H,I1,ru,⟨rfl,λys hy=>by rw[I.Bo hy hq];exact hx⟩,st',λb hb=>(hf b hb).1⟩⟩
 done:=by
  intro X hP hw hK hc i pins s σ H E I hf st hg
  subst hP hw hK
  obtain⟨xs,hq,hx⟩:=hg
  obtain⟨its,rv,p,hz⟩:=I.tuple hq
  obtain⟨f0,f1,f2,f3,f4,f5⟩:=hf it (by simp)
  have hl:=rv.length
  exact wpAny_pyNext_tuple_end (I.ok.hd hc) st (show s.heap.IsTuple a its.toArray from p) (by simp;omega) λh' eb=>⟨rfl,I.turned (t':=s.toks) (λb o hb e=>eb b o hb e) f0 f1 f3 f4 f5⟩
 self:=λ_ _ _ _ _ st h=>wpAny_pyIter_tupleiter st h
def wW{P:Program}{w:World}{K:PySem.W.Frag}{tg:Expr}(it:Addr)(lo:Int)(n:Nat):Turn P w K tg (Itr lo n) [it] it (λi h=>IsRangeIter h it (lo+(i:Nat)*1) ((n:Int)-(i:Nat)) 1) where
 mem:=by simp
 obj:=λi h st b hb=>by
  have e:b=it:=by simpa using hb
  subst e
  exact⟨_,st,λv z=>by
   have z':Data.fields _=Data.cell v:=z
   cases z'⟩
 keep:=λi h h' st k=>k it (by simp) _ st
 item:=by
  intro X hP hw hK hc i pins s σ H E I hf st hg
  subst hP hw hK
  obtain⟨f0,f1,f2,f3,f4,f5⟩:=hf it (by simp)
  have W:=Walks.range (prog:=X.prog) (w:=X.w) (I.ok.hd hc) it lo 1 n
  refine W.item i s _ _ hg st λv h' tk hv st' kk=>?_
  obtain⟨t,rfl⟩:=hv
  have I1:Inv X pins σ H {s with heap:=h',toks:=tk}:=I.turned (λb o hb e=>kk b o (by simpa using hb) e) f0 f1 f3 f4 f5
  refine⟨_,rfl,vd (s:={s with heap:=h',toks:=tk}) (n:= "range_iterator") st' rfl rfl (by decide) ⟨.int (lo+i),H,I1,⟨t,?_⟩,⟨rfl,rfl⟩,st',λb hb=>(hf b hb).1⟩⟩
  rw[Int.mul_one]
 done:=by
  intro X hP hw hK hc i pins s σ H E I hf st hg
  subst hP hw hK
  obtain⟨f0,f1,f2,f3,f4,f5⟩:=hf it (by simp)
  exact wpAny_pyNext_range_end (I.ok.hd hc) st (by have:n<=i:=hg;omega) λh' eb=>⟨rfl,I.turned (t':=s.toks) (λb o hb e=>eb b o hb e) f0 f1 f3 f4 f5⟩
 self:=λ_ _ _ _ _ st h=>wpAny_pyIter_rangeiter st h
end L2
namespace L2
open PySem PySem.Spec PyProof.Rows
section
variable{X:Cx}{tg:Expr}
def Dl{pins:List (Addr×Obj)}{σ:St}{H:Hp}{s:Shared}{R:It->Hp->Prop}{E:Value->Shared->Prop}{lo hi:Int}{t u v:Tok}{tk:Nat}(I:Inv X pins σ H s)(h1: -(2 ^ 62)<=lo)(h2:lo<2 ^ 62)(h3: -(2 ^ 62)<=hi)(h4:hi<2 ^ 62)
 (q:R (Itr lo (hi-lo).toNat) H):wpAny (model X.prog X.w) X.A (pyIter (.ref s.heap.objs.size)) (PIE X pins σ tg R) E {s with heap:=s.heap.push {cls:=.type "range",data:=.fields #[.int lo t,.int hi u,.int 1 v]},toks:=tk}:=by
 refine wpAny_pyIter_range (IsRange.new ..) (small_one h1 h2 h3 h4) ?_
 have I1:Inv X pins σ H {s with heap:=s.heap.push {cls:=.type "range",data:=.fields #[.int lo t,.int hi u,.int 1 v]},toks:=tk}:=I.kept λb o e=>Heap.get?_push_of_some _ e
 refine⟨(s.heap.push {cls:=.type "range",data:=.fields #[.int lo t,.int hi u,.int 1 v]}).objs.size,[(s.heap.push {cls:=.type "range",data:=.fields #[.int lo t,.int hi u,.int 1 v]}).objs.size],_,_,H,rfl,
  I1.kept (t':=tk) λb o e=>Heap.get?_push_of_some _ e,wW _ lo (hi-lo).toNat,?_,λb hb=>?_,q⟩
 ·have e1:lo+((0:Nat):Int)*1=lo:=by simp
  have e2:(((hi-lo).toNat:Nat):Int)-((0:Nat):Int)=Builtin.Range.rangeSize lo hi 1:=by rw[rangeSize_one];split<;>omega
  show IsRangeIter _ _ (lo+((0:Nat):Int)*1) ((((hi-lo).toNat:Nat):Int)-((0:Nat):Int)) 1
  rw[e1,e2]
  exact Heap.get?_push_size _ rfl
 ·have e:b=(s.heap.push {cls:=.type "range",data:=.fields #[.int lo t,.int hi u,.int 1 v]}).objs.size:=by simpa using hb
  subst e
  exact I1.rZ (Nat.le_refl _) (I1.hok.fresh (Nat.le_refl _))
def YF(ta:TA):TI:=λσ H R=>ta σ H λvs H1=>∃j:Int,vs=[.int j]/\ -(2 ^ 62)<=j/\j<2 ^ 62/\R (Itr 0 j.toNat) H1
def Bq{a:Expr}{ta:TA}{p pos:Pos}(hg:Gl X "range")(hm:X.mg "range" =none)(ha:PA X [a] ta)(hs:starEach [a] X.env=[(false,eval a X.env)]:=by rfl):PI X tg (.Call (.Name "range" p) [a] [] pos) (YF ta):=by
 intro pins s σ H R I h
 refine Call_ (fO I hg hm boot_range (PyProof.Rows.callWith_type1 (ŉ (ha pos pins s σ H _ I h) λus s1 ⟨vs,H1,I1,r1,q1⟩=>?_) hs rfl))
 obtain⟨j,e,q1,q2,q⟩:=q1
 subst e
 cases r1 with
 |cons r rr=>
  cases rr
  obtain⟨t,rfl⟩:=r
  exact call_range_1 (Dl I1 (by omega) (by omega) q1 q2 (by simpa using q))
def Zcl(wi:TI)(g:TG)(tb:TS):TS:=λD σ H=>wi σ H λJ H1=>∃W:Nat->Nat->St->Hp->Prop,(∃m,W 0 m σ H1)/\∀i m σ H,W i m σ H->
 (J.stop i H/\D.nx σ H)\/(J.go i H/\∃N:St->Hp->Prop,(∀σ' H',N σ' H'->∃m',m'<m/\W (i+1) m' σ' H')/\∀x H',J.yld i H x H'->g x σ H' λσ2 H2=>tb {D with nx:=N,ct:=N,bk:=D.nx} σ2 H2)
def jN(fp:List Addr)(h:Heap):List (Addr×Obj):=fp.filterMap λb=>(h.get? b).map λo=>(b,o)
def š{fp:List Addr}{h:Heap}{b:Addr}{o:Obj}(hb:b∈fp)(e:h.get? b=some o):(b,o)∈jN fp h:=List.mem_filterMap.mpr ⟨b,hb,by rw[e];rfl⟩
def Br{fp:List Addr}{h:Heap}{p:Addr×Obj}(hp:p∈jN fp h):p.1∈fp/\h.get? p.1=some p.2:=by
 obtain⟨b,hb,e⟩:=List.mem_filterMap.mp hp
 cases q:h.get? b with
 |none=>rw[q] at e;cases e
 |some o=>
  rw[q] at e
  have e':(b,o)=p:=Option.some.inj e
  subst e'
  exact⟨hb,q⟩
def Inv.pinned{pins:List (Addr×Obj)}{σ:St}{H:Hp}{s:Shared}{fp:List Addr}(I:Inv X pins σ H s)(hf:∀b∈fp,cC X pins H b)(ho:∀b∈fp,∃o,s.heap.get? b=some o/\∀v,o.data≠ .cell v):Inv X (pins++jN fp s.heap) σ H s:=
 I.zL fun p hp=>(List.mem_append.mp hp).elim (fun z=>I.pin p (List.mem_append_right _ z)) fun z=>by
   obtain⟨hb,e⟩:=Br z
   obtain⟨f0,f1,f2,_⟩:=hf p.1 hb
   obtain⟨o,e',d⟩:=ho p.1 hb
   rw[e] at e';cases e'
   exact⟨e,f0,f1,f2,d⟩
def Inv.cQ{pins pl:List (Addr×Obj)}{σ:St}{H:Hp}{s:Shared}(I:Inv X (pins++pl) σ H s):Inv X pins σ H s:=I.zL λp hp=>I.pin p (List.mem_append_right _ (List.mem_append_left _ hp))
def Ud{iter:Expr}{body:List Stmt}{wi:TI}{g:TG}{tb:TS}{pos:Pos}(hp:PassesOwn (model X.prog X.w) X.A X.env X.xe)(hc:X.calm=true)(hi:PI X tg iter wi)(hg:PG X tg g)(hb:fJ X body tb)
 (hs:∀x,foldedSetIterable iter X.env x=pure x:=by intro _;rfl):PS X (.For tg iter body [] pos) (Zcl wi g tb):=by
 intro pins s σ H D I h
 refine wpAny_For (ŉ (hi pins s σ H _ I h) λv s1 h1=>ŉ h1 λitv s2 h2=>?_) hs
 obtain⟨it,fp,tn,J,H2,e,I2,T,st2,f2,W,⟨m0,w0⟩,turn⟩:=h2
 subst e
 -- what stays true of the iterator's objects through the loop
 have stat:∀{H':Hp},(∀b∈fp,H' b=none)->∀b∈fp,cC X pins H' b:=λhn b hb=>⟨hn b hb,(f2 b hb).2⟩
 refine codeAny_forLoop_any (λn s'=>∃i σ' H',Inv X pins σ' H' s'/\tn i s'.heap/\(∀b∈fp,H' b=none)/\W i n σ' H') ?_ m0 ⟨0,σ,H2,I2,st2,λb hb=>(f2 b hb).1,w0⟩
 rintro n s3 ⟨i,σ3,H3,I3,st3,fr3,w3⟩
 rcases turn i n σ3 H3 w3 with⟨stop,qn⟩|⟨go,N,hN,step⟩
 ·refine wpAny_passesOwn hp (ŉ (T.done X rfl rfl rfl hc i pins s3 σ3 H3 X.xe I3 (stat fr3) st3 stop) λr s4 ⟨hr,I4⟩=>?_)
  subst hr
  exact wpAny_execs_nil ⟨σ3,H3,I4,qn⟩
 ·refine wpAny_passesOwn hp (ŉ (T.item X rfl rfl rfl hc i pins s3 σ3 H3 X.xe I3 (stat fr3) st3 go) λr s4 ⟨u,hr,h4⟩=>?_)
  subst hr
  refine wpAny_passesOwn hp (ŉ h4 λ_ s5 ⟨x,H5,I5,r5,y5,Jr,Ue⟩=>?_)
  have I5':=I5.pinned (stat Ue) (T.obj _ _ Jr)
  refine wpAny_passesOwn hp (ŉ (hg _ s5 σ3 H5 x u _ I5' r5 (step x H5 y5)) λ_ s6 ⟨σ6,H6,I6,q6⟩=>?_)
  refine wpAny_passesOwn hp (ŉ (hb _ s6 σ6 H6 _ I6 q6) λf s7 q7=>?_)
  have again:∀{σ7:St} {H7:Hp},Inv X (pins++jN fp s5.heap) σ7 H7 s7->N σ7 H7->∃m,m<n/\∃i σ' H',Inv X pins σ' H' s7/\tn i s7.heap/\(∀b∈fp,H' b=none)/\W i m σ' H':=fun{σ7 H7} I7 n7=>by
   obtain⟨m',hm,w7⟩:=hN σ7 H7 n7
   refine⟨m',hm,i+1,σ7,H7,I7.cQ,T.keep _ _ _ Jr λb hb o e=>(I7.pin (b,o) (List.mem_append_right _ (List.mem_append_right _ (š hb e)))).1,λb hb=>?_,w7⟩
   obtain⟨o,e,d⟩:=T.obj _ _ Jr b hb
   exact(I7.pin (b,o) (List.mem_append_right _ (List.mem_append_right _ (š hb e)))).2.1
  cases f with
  |next=>obtain⟨σ7,H7,I7,n7⟩:=q7;exact again I7 n7
  |cont=>obtain⟨σ7,H7,I7,n7⟩:=q7;exact again I7 n7
  |brk=>obtain⟨σ7,H7,I7,q7⟩:=q7;exact⟨σ7,H7,I7.cQ,q7⟩
  |ret v=>obtain⟨x7,σ7,H7,I7,r7,q7⟩:=q7;exact⟨x7,σ7,H7,I7.cQ,r7,q7⟩
end
end L2
namespace L2
open PySem PySem.Spec PyProof.Rows
abbrev R2:=V->V->Hp->VK->Prop
def ť(X:Cx)(f:Value->Value->Sem Value)(r:R2):Prop:=
 ∀(pins:List (Addr×Obj)) (s:Shared) (σ:St) (H:Hp) (x y:V) (v u:Value) (Q:VK),Inv X pins σ H s->RelV x v->RelV y u->r x y H Q->
  wpAny (model X.prog X.w) X.A (f v u) (EP X pins σ Q) X.xe s
def Js(X:Cx)(f:Value->Sem Value)(r:V->Hp->VK->Prop):Prop:=
 ∀(pins:List (Addr×Obj)) (s:Shared) (σ:St) (H:Hp) (x:V) (v:Value) (Q:VK),Inv X pins σ H s->RelV x v->r x H Q->
  wpAny (model X.prog X.w) X.A (f v) (EP X pins σ Q) X.xe s
def ō(X:Cx)(f:Value)(r:List V->Hp->VK->Prop):Prop:=
 ∀(pins:List (Addr×Obj)) (s:Shared) (σ:St) (H:Hp) (xs:List V) (us:List Value) (Q:VK),Inv X pins σ H s->Vals xs us->r xs H Q->
  wpAny (model X.prog X.w) X.A (call f us) (EP X pins σ Q) X.xe s
def Zcm(X:Cx)(r:V->Hp->(Bool->Hp->Prop)->Prop):Prop:=
 ∀(pins:List (Addr×Obj)) (s:Shared) (σ:St) (H:Hp) (x:V) (v:Value) (Q:Bool->Hp->Prop),Inv X pins σ H s->RelV x v->r x H Q->
  wpAny (model X.prog X.w) X.A (truthy v) (TP X pins σ Q) X.xe s
def Jt(r:R2)(ta tb:TE):TE:=λσ H Q=>ta σ H λx H1=>tb σ H1 λy H2=>r x y H2 Q
def tUn(r:V->Hp->VK->Prop)(ta:TE):TE:=λσ H Q=>ta σ H λx H1=>r x H1 Q
def rI(C:Int->Int->Prop)(g:Int->Int->V):R2:=λx y H Q=>∃i j,x=.int i/\y=.int j/\C i j/\Q (g i j) H
def Ju(g:Int->Int->V):R2:=λx y H Q=>∃i j,x=.int i/\y=.int j/\Q (g i j) H
def rU(g:Int->V):V->Hp->VK->Prop:=λx H Q=>∃i,x=.int i/\Q (g i) H
section
variable{X:Cx}{a b c:Expr}{ta tb tc:TE}{pos:Pos}
def Ug(ha:PE X a ta)(hb:PE X b tb){pins:List (Addr×Obj)}{s:Shared}{σ:St}{H:Hp}{R:V->V->Hp->Prop}(I:Inv X pins σ H s)
 (h:ta σ H λx H1=>tb σ H1 λy H2=>R x y H2){Q:Value->Shared->Prop}{f:Value->Value->Sem Value}
 (hf:∀v u s2 x y H2,Inv X pins σ H2 s2->RelV x v->RelV y u->R x y H2->wpAny (model X.prog X.w) X.A (f v u) Q X.xe s2) :
 wpAny (model X.prog X.w) X.A (eval a X.env) (λv s₁=>wpAny (model X.prog X.w) X.A (eval b X.env) (λu s₂=>wpAny (model X.prog X.w) X.A (f v u) Q X.xe s₂) X.xe s₁) X.xe s:=by
 refine ŉ (ha pins s σ H _ I h) λv s1 ⟨x,H1,I1,r1,q1⟩=>?_
 refine ŉ (hb pins s1 σ H1 _ I1 q1) λu s2 ⟨y,H2,I2,r2,q2⟩=>?_
 exact hf v u s2 x y H2 I2 r1 r2 q2
def Mg{op:Operator}{r:R2}(ho:ť X (binaryOp op) r)(ha:PE X a ta)(hb:PE X b tb):PE X (.BinOp a op b pos) (Jt r ta tb):=by
 intro pins s σ H Q I h
 exact wpAny_BinOp (Ug ha hb I h λv u s2 x y H2 I2 rx ry q=>ho pins s2 σ H2 x y v u Q I2 rx ry q)
def Dp{op:UnaryOp}{r:V->Hp->VK->Prop}(ho:Js X (unaryOp op) r)(ha:PE X a ta):PE X (.UnaryOp op a pos) (tUn r ta):=by
 intro pins s σ H Q I h
 exact UnaryOp_ (ŉ (ha pins s σ H _ I h) λv s1 ⟨x,H1,I1,r1,q1⟩=>ho pins s1 σ H1 x v Q I1 r1 q1)
def zN{f:Value->Value->Sem Value}{C:Int->Int->Prop}{g:Int->Int->Int}
 (rule:∀(i j:Int) (t u:Tok) (s:Shared) (Q:Value->Shared->Prop) (E:Value->Shared->Prop),C i j->Q (.int (g i j) s.toks) {s with toks:=s.toks+1}->wpAny (model X.prog X.w) X.A (f (.int i t) (.int j u)) Q E s) :
 ť X f (rI C λi j=>.int (g i j)):=by
 intro pins s σ H x y v u Q I rx ry h
 obtain⟨i,j,rfl,rfl,hc,q⟩:=h
 obtain⟨t,rfl⟩:=rx
 obtain⟨t',rfl⟩:=ry
 exact rule i j t t' s _ _ hc ⟨.int (g i j),H,I.tok _,⟨_,rfl⟩,q⟩
def vf{f:Value->Value->Sem Value}{g:Int->Int->Int}
 (rule:∀(i j:Int) (t u:Tok) (s:Shared) (Q:Value->Shared->Prop) (E:Value->Shared->Prop),Q (.int (g i j) s.toks) {s with toks:=s.toks+1}->wpAny (model X.prog X.w) X.A (f (.int i t) (.int j u)) Q E s) :
 ť X f (Ju λi j=>.int (g i j)):=by
 intro pins s σ H x y v u Q I rx ry h
 obtain⟨i,j,rfl,rfl,q⟩:=h
 obtain⟨t,rfl⟩:=rx
 obtain⟨t',rfl⟩:=ry
 exact rule i j t t' s _ _ ⟨.int (g i j),H,I.tok _,⟨_,rfl⟩,q⟩
def Uh{f:Value->Value->Sem Value}{g:Int->Int->Bool}
 (rule:∀(i j:Int) (t u:Tok) (s:Shared) (Q:Value->Shared->Prop) (E:Value->Shared->Prop),Q (.bool (g i j)) s->wpAny (model X.prog X.w) X.A (f (.int i t) (.int j u)) Q E s) :
 ť X f (Ju λi j=>.bl (g i j)):=by
 intro pins s σ H x y v u Q I rx ry h
 obtain⟨i,j,rfl,rfl,q⟩:=h
 obtain⟨t,rfl⟩:=rx
 obtain⟨t',rfl⟩:=ry
 exact rule i j t t' s _ _ ⟨.bl (g i j),H,I,rfl,q⟩
def Bu(i j:Int):Prop:=0<=j/\j<=1000000/\i.natAbs<2 ^ 64
def Ui(i j:Int):Prop:=(-(2 ^ 64)<i/\i<2 ^ 64)\/(-(2 ^ 64)<j/\j<2 ^ 64)
def Ui.ok{i j:Int}(h:Ui i j):IntMulOk i j:=by
 rcases h with⟨h1,h2⟩|⟨h1,h2⟩
 ·exact .of_left (intBits_le_64 h1 h2)
 ·exact .of_right (intBits_le_64 h1 h2)
def wX(k:Nat):(0:Int)<=2 ^ k:=by
 rw[two_pow_cast]
 exact Int.natCast_nonneg _
def Uj:ť X (binaryOp .Add) (Ju λi j=>.int (i+j)):=vf λ_ _ _ _ _ _ _ q=>add_int q
def Uk:ť X (binaryOp .Sub) (Ju λi j=>.int (i-j)):=vf λ_ _ _ _ _ _ _ q=>sub_int q
def Jv:ť X (binaryOp .Mod) (rI (λ_ j=>j≠0) λi j=>.int (i.fmod j)):=zN λ_ _ _ _ _ _ _ hc q=>mod_int' hc q
def Ul:ť X (binaryOp .Pow) (rI Bu λi j=>.int (i ^ j.toNat)):=zN λ_ _ _ _ _ _ _ hc q=>pow_int_small hc.1 hc.2.1 hc.2.2 q
def Um:ť X (binaryOp .LShift) (rI Bu λi j=>.int (i*2 ^ j.toNat)):=zN λ_ _ _ _ _ _ _ hc q=>lshift_int_small hc.1 hc.2.1 hc.2.2 q
def Uo:ť X (binaryOp .RShift) (rI (λ_ j=>0<=j) λi j=>.int (i / 2 ^ j.toNat)):=zN λi j _ _ _ _ _ hc q=>
 rshift_int hc (by rw[Int.fdiv_eq_ediv_of_nonneg i (wX _)];exact q)
def Uq:ť X (binaryOp .BitAnd) (Ju λi j=>.int (Builtin.bitAnd i j)):=vf λ_ _ _ _ _ _ _ q=>and_int q
def unI{f:Value->Sem Value}{g:Int->Int}
 (rule:∀(i:Int) (t:Tok) (s:Shared) (Q:Value->Shared->Prop) (E:Value->Shared->Prop),Q (.int (g i) s.toks) {s with toks:=s.toks+1}->wpAny (model X.prog X.w) X.A (f (.int i t)) Q E s) :
 Js X f (rU λi=>.int (g i)):=by
 intro pins s σ H x v Q I rx h
 obtain⟨i,rfl,q⟩:=h
 obtain⟨t,rfl⟩:=rx
 exact rule i t s _ _ ⟨.int (g i),H,I.tok _,⟨_,rfl⟩,q⟩
def Ur:Js X (unaryOp .USub) (rU λi=>.int (-i)):=unI λ_ _ _ _ _ q=>neg_int q
end
section
variable{X:Cx}{a b c:Expr}{ta tb tc:TE}{pos:Pos}
def Dq{pins:List (Addr×Obj)}{σ:St}{H:Hp}{s:Shared}{Q:VK}{k k':Bool}(I:Inv X pins σ H s)(q:Q (.bl k) H)(e:k=k'):EP X pins σ Q (.bool k') s:=by
 subst e
 exact⟨.bl k,H,I,rfl,q⟩
def YG:ť X (compareOp .Lt) (Ju λi j=>.bl (decide (i<j))):=Uh λ_ _ _ _ _ _ _ q=>lt_int q
def YH:ť X (compareOp .LtE) (Ju λi j=>.bl (decide (i<=j))):=Uh λ_ _ _ _ _ _ _ q=>le_int q
def YJ:ť X (compareOp .Gt) (Ju λi j=>.bl (decide (j<i))):=Uh λ_ _ _ _ _ _ _ q=>gt_int q
def jO:ť X (compareOp .Is) (λx y H Q=>y=.non/\Q (.bl (decide (x=.non))) H):=by
 intro pins s σ H x y v u Q I rx ry h
 obtain⟨rfl,q⟩:=h
 cases ry
 refine is_none_gen (Dq I q ?_)
 cases x<;>first
  |(cases rx;rfl)
  |(obtain⟨t,rfl⟩:=rx;rfl)
def su:ť X (compareOp .IsNot) (λx y H Q=>y=.non/\Q (.bl (!decide (x=.non))) H):=by
 intro pins s σ H x y v u Q I rx ry h
 obtain⟨rfl,q⟩:=h
 cases ry
 refine isnot_none_gen (Dq I q ?_)
 cases x<;>first
  |(cases rx;rfl)
  |(obtain⟨t,rfl⟩:=rx;rfl)
def ť.or{f:Value->Value->Sem Value}{r r':R2}(h:ť X f r)(h':ť X f r'):ť X f (λx y H Q=>r x y H Q\/r' x y H Q):=by
 intro pins s σ H x y v u Q I rx ry q
 rcases q with q|q
 ·exact h pins s σ H x y v u Q I rx ry q
 ·exact h' pins s σ H x y v u Q I rx ry q
def Ń(b:Expr){op:CmpOp}(h:op≠ .In:=by decide)(h2:op≠ .NotIn:=by decide):behindInMarks op b=false:=by
 have e1:(op== CmpOp.In)=false:=by cases op<;>first|rfl|exact absurd rfl h
 have e2:(op== CmpOp.NotIn)=false:=by cases op<;>first|rfl|exact absurd rfl h2
 cases b<;>simp[behindInMarks,e1,e2]
def Jw{op:CmpOp}{r:R2}(ho:ť X (compareOp op) r)(ha:PE X a ta)(hb:PE X b tb)(hm:behindInMarks op b=false):PE X (.Compare a [op] [b] pos) (Jt r ta tb):=by
 intro pins s σ H Q I h
 exact wpAny_Compare1 (Ug ha hb I h λv u s2 x y H2 I2 rx ry q=>ho pins s2 σ H2 x y v u Q I2 rx ry q) hm
def Us(K:PySem.W.Frag)(x:V)(H:Hp)(k:Bool):Prop:=
 match x with
 | .non=>k=false
 | .bl b=>k=b
 | .int i=>k=(i != 0)
 | .str y=>y.length<=sizeLine/\k=((y.length:Int) != 0)
 | .Ji y=>y.size<=sizeLine/\k=((y.size:Int) != 0)
 | .ref p=>(∃xs,Ś K H p xs/\k=!xs.isEmpty)\/(∃xs,dD K H p xs/\k=!xs.isEmpty)\/∃kvs,H p=some (.dK kvs)/\k=!kvs.isEmpty
 |_=>False
def wY{κ:Type}{kvs:List (κ×V)}{vs:List (κ×Value)}(r:KV kvs vs):(!vs.isEmpty)=!kvs.isEmpty:=by
 cases r<;>rfl
def ni{xs:List V}{its:List Value}(r:Vals xs its):(!its.toArray.isEmpty)=!xs.isEmpty:=by
 cases r<;>simp
def nj:(sizeLine:Nat)<2 ^ 63:=by rw[sizeLine_eq];decide
def Ut:Zcm X (λx H Q=>∃k,Us X.K x H k/\Q k H):=by
 intro pins s σ H x v Q I rx h
 obtain⟨k,e,q⟩:=h
 have hl:=nj
 have hs:sizeLine=16777216:=sizeLine_eq
 cases x with
 |non=>
  cases rx
  have e':k=false:=e
  subst e'
  exact truthy_none ⟨H,I,q⟩
 |bl b=>
  cases rx
  have e':k=b:=e
  subst e'
  exact wpAny_truthy_bool ⟨H,I,q⟩
 |int i=>
  obtain⟨t,rfl⟩:=rx
  have e':k=(i != 0):=e
  subst e'
  exact PySem.P.truthy_int ⟨H,I,q⟩
 |str y=>
  obtain⟨t,rfl⟩:=rx
  obtain⟨hy,e'⟩:y.length<=sizeLine/\k=((y.length:Int) != 0):=e
  subst e'
  exact PySem.P.truthy_str (by omega) ⟨H,I.tok _,q⟩
 |Ji y=>
  obtain⟨t,rfl⟩:=rx
  obtain⟨hy,e'⟩:y.size<=sizeLine/\k=((y.size:Int) != 0):=e
  subst e'
  exact PySem.W.truthy_bytes (by omega) ⟨H,I.tok _,q⟩
 |ref p=>
  cases rx
  have e':(∃xs,Ś X.K H p xs/\k=!xs.isEmpty)\/(∃xs,dD X.K H p xs/\k=!xs.isEmpty)\/∃kvs,H p=some (.dK kvs)/\k=!kvs.isEmpty:=e
  rcases e' with⟨xs,hx,e'⟩|⟨xs,hx,e'⟩|⟨kvs,hx,e'⟩
  ·subst e'
   obtain⟨its,r,pl,hz⟩:=I.list hx
   have hlen:=r.length
   exact wpAny_truthy_list pl.isList (by simp only[List.size_toArray];omega) ⟨H,I.tok _,by rw[ni r];exact q⟩
  ·subst e'
   obtain⟨its,r,pl,hz⟩:=I.tuple hx
   have hlen:=r.length
   exact truthy_tuple pl (by simp only[List.size_toArray];omega) ⟨H,I.tok _,by rw[ni r];exact q⟩
  ·subst e'
   obtain⟨hz,hS,vs,r,m⟩:kvs.length<=sizeLine/\(p== sysModules)=false/\∃vs,KV kvs vs/\s.heap.DictOf (rM X.prog X.w) p vs:=I.hok p _ hx
   have hlen:kvs.length=vs.length:=Paired.length r
   exact wpAny_truthy_dict hS m (by omega) ⟨H,I.tok _,by rw[wY r];exact q⟩
 |_=>exact(show False from e).elim
def Dr(ha:PE X a ta)(he:∀whole,isTrue a X.env whole=(do let v <-whole;standAt a.pos;holding [v] (truthy v))) :
 PT X a (λσ H Q=>ta σ H λx H'=>∃k,Us X.K x H' k/\Q k H'):=by
 intro pins s σ H Q I h
 exact isTrue_plain (ŉ (ha pins s σ H _ I h) λv s1 ⟨x,H1,I1,r1,q1⟩=>Ut pins s1 σ H1 x v Q I1 r1 q1) (he _)
def wZ:ť X (binaryOp .Add) (λx y H Q=>∃i j,x=.str i/\y=.str j/\i.length+j.length<=sizeLine/\Q (.str (i++j)) H):=by
 intro pins s σ H x y v u Q I rx ry h
 obtain⟨i,j,rfl,rfl,hz,q⟩:=h
 obtain⟨t,rfl⟩:=rx
 obtain⟨t',rfl⟩:=ry
 exact add_str (λt' tk=>⟨.str (i++j),H,I.tok _,⟨_,rfl⟩,q⟩) hz
def vals1{x:V}{us:List Value}(r:Vals [x] us):∃u,us=[u]/\RelV x u:=by
 cases r with
 |cons r1 r2=>cases r2;exact⟨_,rfl,r1⟩
def vals2{x y:V}{us:List Value}(r:Vals [x,y] us):∃u w',us=[u,w']/\RelV x u/\RelV y w':=by
 cases r with
 |cons r1 r2=>
  cases r2 with
  |cons r3 r4=>cases r4;exact⟨_,_,rfl,r1,r3⟩
def Bv(hc:X.calm=true):ō X (.builtin "max") (λxs H Q=>∃i j,xs=[.int i,.int j]/\Q (.int (if j>i then j else i)) H):=by
 intro pins s σ H xs us Q I r h
 obtain⟨i,j,rfl,q⟩:=h
 obtain⟨u,w',rfl,⟨t,rfl⟩,⟨t',rfl⟩⟩:=vals2 r
 refine max_two_ints (I.ok.hd hc) λh' tk k=>⟨_,H,I.kept k,?_,q⟩
 by_cases hj:j>i
 ·rw[if_pos hj,if_pos hj];exact⟨_,rfl⟩
 ·rw[if_neg hj,if_neg hj];exact⟨_,rfl⟩
def Bw(hc:X.calm=true):ō X (.builtin "min") (λxs H Q=>∃i j,xs=[.int i,.int j]/\Q (.int (if j<i then j else i)) H):=by
 intro pins s σ H xs us Q I r h
 obtain⟨i,j,rfl,q⟩:=h
 obtain⟨u,w',rfl,⟨t,rfl⟩,⟨t',rfl⟩⟩:=vals2 r
 refine min_two_ints (I.ok.hd hc) λh' tk k=>⟨_,H,I.kept k,?_,q⟩
 by_cases hj:j<i
 ·rw[if_pos hj,if_pos hj];exact⟨_,rfl⟩
 ·rw[if_neg hj,if_neg hj];exact⟨_,rfl⟩
def Bx:ō X (.type "int") (λxs H Q=>(∃i,xs=[.int i]/\Q (.int i) H)\/∃k,xs=[.bl k]/\Q (.int (if k then 1 else 0)) H):=by
 intro pins s σ H xs us Q I r h
 rcases h with⟨i,rfl,q⟩|⟨k,rfl,q⟩
 ·obtain⟨u,rfl,t,rfl⟩:=vals1 r
  exact call_int_int ⟨.int i,H,I,⟨_,rfl⟩,q⟩
 ·obtain⟨u,rfl,r1⟩:=vals1 r
  cases r1
  exact call_int_bool ⟨.int (if k then 1 else 0),H,I.tok _,⟨_,rfl⟩,q⟩
def Zcn(K:PySem.W.Frag)(x:V)(H:Hp)(n:Nat):Prop:=
 match x with
 | .str y=>y.length<=sizeLine/\n=y.length
 | .Ji y=>y.size<=sizeLine/\n=y.size
 | .ref p=>(∃xs,Ś K H p xs/\n=xs.length)\/∃xs,dD K H p xs/\n=xs.length
 |_=>False
def Dt:ō X (.builtin "len") (λxs H Q=>∃x n,xs=[x]/\Zcn X.K x H n/\Q (.int n) H):=by
 intro pins s σ H xs us Q I r h
 obtain⟨x,n,rfl,e,q⟩:=h
 obtain⟨u,rfl,rx⟩:=vals1 r
 have hl:=nj
 have hs:sizeLine=16777216:=sizeLine_eq
 cases x with
 |str y=>
  obtain⟨t,rfl⟩:=rx
  obtain⟨hy,e'⟩:y.length<=sizeLine/\n=y.length:=e
  subst e'
  exact len_str (by omega) ⟨.int _,H,I.tok _,⟨_,rfl⟩,q⟩
 |Ji y=>
  obtain⟨t,rfl⟩:=rx
  obtain⟨hy,e'⟩:y.size<=sizeLine/\n=y.size:=e
  subst e'
  exact PySem.W.len_bytes (by omega) ⟨.int _,H,I.tok _,⟨_,rfl⟩,q⟩
 |ref p=>
  cases rx
  have e':(∃xs,Ś X.K H p xs/\n=xs.length)\/∃xs,dD X.K H p xs/\n=xs.length:=e
  rcases e' with⟨xs,hx,e'⟩|⟨xs,hx,e'⟩
  ·subst e'
   obtain⟨its,r',pl,hz⟩:=I.list hx
   have hlen:=r'.length
   exact Calls.call_len_list pl.isList (by simp only[List.size_toArray];omega) ⟨.int xs.length,H,I.tok _,⟨_,by simp only[List.size_toArray];rw[hlen]⟩,q⟩
  ·subst e'
   obtain⟨its,r',pl,hz⟩:=I.tuple hx
   have hlen:=r'.length
   exact len_tuple pl (by simp only[List.size_toArray];omega) ⟨.int xs.length,H,I.tok _,⟨_,by simp only[List.size_toArray];rw[hlen]⟩,q⟩
 |_=>exact(show False from e).elim
end
end L2
namespace L2
open PySem PySem.Spec PyProof.Rows
structure xg(h:Heap)(x dx C:Addr)(mA:Str->Option Value):Prop where
 obj:h.get? x=some (PySem.W.instObj C dx)
 ns:h.Ns1 dx mA
 ne:dx≠x
def BJ{h:Heap}{dx:Addr}{mA:Str->Option Value}(n:h.Ns1 dx mA):∃od,h.get? dx=some od/\∀name,PySem.W.lookIn name od=some (mA name):=by
 obtain⟨o,es,ep,ho,hd,hk,_,hm⟩:=n
 refine⟨o,ho,λname=>?_⟩
 have e:=hm name
 unfold nsFind findBy at e
 rw[<-Array.find?_toList] at e
 unfold PySem.W.lookIn
 rw[hd]
 dsimp only
 split
 ·rename_i y q
  rw[q] at e
  exact congrArg some e
 ·rename_i q
  rw[q] at e
  have a:es.toList.any (·.refKey)=false:=by
   rw[List.any_eq_false]
   intro y hy
   obtain⟨z,t,hkey⟩:=hk y (Array.mem_toList_iff.mp hy)
   simp[DictEntry.refKey,hkey]
  have a':¬es.toList.any (·.refKey)=true:=by rw[a];exact Bool.false_ne_true
  rw[if_neg a']
  exact congrArg some e
def xg.look{h:Heap}{x dx C:Addr}{mA:Str->Option Value}(I:xg h x dx C mA):∃od,PySem.W.InstAt h x (PySem.W.instObj C dx) C (some od)/\∀name,PySem.W.lookIn name od=some (mA name):=
 let ⟨od,ho,hl⟩:=BJ I.ns
 ⟨od,⟨I.obj,rfl,rfl,ho⟩,hl⟩
section
variable{prog:Program}{w:World}{A:Around}{E:Value->Shared->Prop}{s:Shared}{K:PySem.W.Frag}{x dx C f:Addr}{mA:Str->Option Value}{name:Str}{v:Value}
def get_map{expr:Bool}{Q:Value->Shared->Prop}(X:K.In s.heap)(I:xg s.heap x dx C mA)(hg:PySem.W.plainGet K C name=true)(hh:PySem.W.hasDictIn K C=true)
 (ha:PySem.W.findIn K (.ref C) name=some none)(hv:mA name=some v)(hv':PySem.W.handedIn v=true)(h:Q v {s with toks:=s.toks+1}) :
 wpAny (model prog w) A (getAttr (.ref x) name expr) Q E s:=by
 obtain⟨od,J,hl⟩:=I.look
 exact PySem.W.get_value X J (PySem.W.plainGet_of hg).1 (PySem.W.findObj_own hh ha rfl (by rw[hl,hv])) hv' h
def Du{pl:Sem Bool}{Q:Value×List Value->Shared->Prop}(X:K.In s.heap)(I:xg s.heap x dx C mA)(hg:PySem.W.plainGet K C name=true)
 (hf:PySem.W.findIn K (.ref C) name=some (some (.ref f)))(ht:PySem.W.isFn K (.ref f)=true)(hv:mA name=none)(h:Q (.ref f,[.ref x]) s) :
 wpAny (model prog w) A (getMethod (.ref x) name pl) Q E s:=by
 obtain⟨od,J,hl⟩:=I.look
 exact PySem.W.method_fn X J (PySem.W.plainGet_of hg).1 (PySem.W.plainGet_of hg).2 hf (beq_iff_eq.mp ht) (by show(PySem.W.lookIn name od).map (·.isSome)=some false;rw[hl,hv];rfl) h
def Jx{ns:List Str}{Q:Unit->Shared->Prop}(X:K.In s.heap)(I:xg s.heap x dx C mA)
 (hs:PySem.W.findIn K (.ref C) "__setattr__" =some (some (.builtin "object.__setattr__")))(hp:PySem.W.plainOver K C=true)(ht:PySem.W.takerIn K C name=some none)(hh:PySem.W.hasDictIn K C=true)
 (hw:PySem.Within mA ns)(hsz:ns.length<=sizeLine)
 (h:∀h',xg h' x dx C (λy=>if y=name then some v else mA y)->Heap.SameBut dx s.heap h'->Q () {s with heap:=h',toks:=s.toks+2}) :
 wpAny (model prog w) A (setAttr (.ref x) name v) Q E s:=by
 obtain⟨od,J,hl⟩:=I.look
 refine PySem.W.set_plain X J hs (PySem.W.osa_open (s:={s with toks:=s.toks+1}) (r:=none) X J hp ht λb=>?_)
 obtain⟨cd,hc,hd'⟩:=PySem.W.any_some hh
 have hx:s.heap.get? x=some ⟨.ref C,some dx,.plain,#[]⟩:=I.obj
 refine wpAny_bind (wpAny_pure (wpAny_bind (wpAny_bind (wpAny_loadPart hx (wpAny_bind (PySem.W.Looks.here (s:={s with toks:=s.toks+1}) (PySem.W.looks_clsIn X hc) ?_))))))
 rw[hd']
 refine wpAny_pure (a:=some dx) (wpAny_bind (wpAny_pure (wpAny_bind ?_)))
 refine wpAny_nsSet1 (s:={s with toks:=s.toks+1}) I.ns λh' hn2 hs2=>?_
 obtain⟨oD,esD,epD,hoD,hdD,hcD⟩:=hn2.count (PySem.Within.cons name v hw)
 refine wpAny_bind (wpAny_lookBehind hoD (by rw[hdD];exact pastItsLine_dict (Nat.le_trans hcD (by rw[List.length_cons];omega))) ?_)
 exact wpAny_pure (h _ ⟨(hs2.2 _ (Ne.symm I.ne)).trans I.obj,hn2,I.ne⟩ hs2)
def Dv{R:Result->Shared->Prop}{vs:List Value}{kw:List (Str×Value)}(X:K.In s.heap)(hm:PySem.W.makesIn K C=true)
 (hi:PySem.W.findIn K (.ref C) "__init__" =some (some (.ref f)))(hf:PySem.W.typeIn K (.ref f)=some (.type "function"))
 (h:codeAny (model prog w) (A.under (.builtin "type.__call__" ⟨.ref C::vs,kw⟩)) (.call (.ref f) ⟨.ref (s.heap.objs.size+1)::vs,kw⟩) (PySem.W.InitBack (s.heap.objs.size+1) R)
   {s with heap:=(s.heap.push PySem.W.emptyDict).push (PySem.W.instObj C s.heap.objs.size)}) :
 codeAny (model prog w) A (.call (.ref C) ⟨vs,kw⟩) R s:=by
 obtain⟨hh,g,d,t,os⟩:=s
 exact PySem.W.make_core (PySem.W.makes_of X hm) (PySem.W.looks_findIn X hi) (λself=>PySem.W.bind_fn X self hf) (.inl rfl) h
end
def dG(f:Str)(v:V):List (Str×V)->List (Str×V)
 | []=>[(f,v)]
 |(g,x)::r=>if g=f then(g,v)::r else(g,x)::dG f v r
theorem lq(f g:Str)(v:V):∀fs:List (Str×V),(dG f v fs).lookup g=if g=f then some v else fs.lookup g
 | []=>by
   show List.lookup g [(f,v)]=_
   by_cases h:g=f
   ·have hb:(g== f)=true:=beq_iff_eq.mpr h
    simp only[List.lookup,hb,if_pos h]
   ·have hb:(g== f)=false:=beq_eq_false_iff_ne.mpr h
    simp only[List.lookup,hb,if_neg h]
 |(k,x)::r=>by
  have ih:=lq f g v r
  rw[show dG f v ((k,x)::r)=(if k=f then(k,v)::r else(k,x)::dG f v r) from rfl]
  by_cases hk:k=f
  ·rw[if_pos hk]
   by_cases h:g=k
   ·have hb:(g== k)=true:=beq_iff_eq.mpr h
    simp only[List.lookup,hb,if_pos (h.trans hk)]
   ·have hb:(g== k)=false:=beq_eq_false_iff_ne.mpr h
    simp only[List.lookup,hb,if_neg (λe:g=f=>h (e.trans hk.symm))]
  ·rw[if_neg hk]
   by_cases h:g=k
   ·have hb:(g== k)=true:=beq_iff_eq.mpr h
    simp only[List.lookup,hb,if_neg (λe:g=f=>hk (h.symm.trans e))]
   ·have hb:(g== k)=false:=beq_eq_false_iff_ne.mpr h
    simp only[List.lookup,hb]
    exact ih
theorem jP(f:Str)(v:V):∀fs:List (Str×V),f∈(dG f v fs).map (·.1)/\∀g,g∈fs.map (·.1)->g∈(dG f v fs).map (·.1)
 | []=>⟨by simp[dG],λg h=>by simp at h⟩
 |(k,x)::r=>by
  obtain⟨i1,i2⟩:=jP f v r
  rw[show dG f v ((k,x)::r)=(if k=f then(k,v)::r else(k,x)::dG f v r) from rfl]
  by_cases hk:k=f
  ·rw[if_pos hk]
   subst hk
   exact⟨by simp,λg h=>by simpa using h⟩
  ·rw[if_neg hk]
   refine⟨?_,λg h=>?_⟩
   ·rw[List.map_cons]
    exact List.mem_cons_of_mem _ i1
   ·rw[List.map_cons] at h ⊢
    rcases List.mem_cons.mp h with e|e
    ·exact List.mem_cons.mpr (.inl e)
    ·exact List.mem_cons_of_mem _ (i2 g e)
theorem lu(f:Str)(v:V):∀fs:List (Str×V),(dG f v fs).length<=fs.length+1
 | []=>by simp[dG]
 |(k,x)::r=>by
  have ih:=lu f v r
  rw[show dG f v ((k,x)::r)=(if k=f then(k,v)::r else(k,x)::dG f v r) from rfl]
  by_cases hk:k=f
  ·rw[if_pos hk,List.length_cons,List.length_cons];omega
  ·rw[if_neg hk,List.length_cons,List.length_cons];omega
def pW.some_of{v:V}{o:Option Value}(r:pW (some v) o):∃u,o=some u/\RelV v u:=by
 cases o with
 |none=>exact(show False from r).elim
 |some u=>exact⟨u,rfl,r⟩
def pW.none_of{o:Option Value}(r:pW none o):o=none:=by
 cases o with
 |none=>rfl
 |some u=>exact(show False from r).elim
def BK{v:V}{u:Value}(r:RelV v u):PySem.W.handedIn u=true:=by
 cases v with
 |non=>cases(show u=Value.none from r);rfl
 |bl b=>cases(show u=Value.bool b from r);rfl
 |int i=>obtain⟨t,e⟩:=(show ∃t,u=Value.int i t from r);cases e;rfl
 |str x=>obtain⟨t,e⟩:=(show ∃t,u=Value.str x t from r);cases e;rfl
 |Ji b=>obtain⟨t,e⟩:=(show ∃t,u=Value.bytes b t from r);cases e;rfl
 |flt b=>obtain⟨t,e⟩:=(show ∃t,u=Value.float b t from r);cases e;rfl
 |ref a=>cases(show u=Value.ref a from r);rfl
 |ty n=>cases(show u=Value.type n from r);rfl
section
variable{P:Program}{w:World}{H H':Hp}{h h':Heap}{a C dx:Addr}{fs fs':List (Str×V)}
def mO(hok:jo P w H h)(e:H a=some (.ins C dx fs)):∃mA,xg h a dx C mA/\(∀f,pW (fs.lookup f) (mA f))/\PySem.Within mA (fs.map (·.1))/\fs.length<=1000/\H dx=some (.own a):=by
 obtain⟨d,z,ne,ob,mA,n,r,q⟩:=(show ų P w H h a (.ins C dx fs) from hok a _ e)
 exact⟨mA,⟨ob,n,ne⟩,r,q,z,d⟩
end
structure Cls(K:PySem.W.Frag)(C:Addr):Prop where
 pg:PySem.W.plainGet K C Str.empty=true
 hd:PySem.W.hasDictIn K C=true
 po:PySem.W.plainOver K C=true
 sa:PySem.W.findIn K (.ref C) "__setattr__" =some (some (.builtin "object.__setattr__"))
def Cls.get{K:PySem.W.Frag}{C:Addr}(c:Cls K C)(f:Str):PySem.W.plainGet K C f=true:=c.pg
def ĳ(K:PySem.W.Frag)(C:Addr)(f:Str):Prop:=PySem.W.findIn K (.ref C) f=some none
def ĳ.taker{K:PySem.W.Frag}{C:Addr}{f:Str}(n:ĳ K C f):PySem.W.takerIn K C f=some none:=by
 unfold PySem.W.takerIn
 rw[show PySem.W.findIn K (.ref C) f=some none from n]
 rfl
structure Meth(K:PySem.W.Frag)(C:Addr)(m:Str)(f:Addr):Prop where
 at_:PySem.W.findIn K (.ref C) m=some (some (.ref f))
 fn:PySem.W.isFn K (.ref f)=true
 kp:PySem.W.keepIn K (.ref f)=true
section
variable{X:Cx}{pins:List (Addr×Obj)}{σ:St}{H:Hp}{s:Shared}{a C dx:Addr}{fs:List (Str×V)}{f:Str}{v:V}{A:Around}{E:Value->Shared->Prop}
def xq{b:Bool}{Q:Value->Shared->Prop}(I:Inv X pins σ H s)(e:H a=some (.ins C dx fs))(c:Cls X.K C)(n:ĳ X.K C f)(l:fs.lookup f=some v)
 (h:∀u s',Inv X pins σ H s'->RelV v u->Q u s'):wpAny (model X.prog X.w) A (getAttr (.ref a) f b) Q E s:=by
 obtain⟨mA,O,r,_,_,_⟩:=mO I.hok e
 obtain⟨u,hu,ru⟩:=pW.some_of (v:=v) (o:=mA f) (by rw[<-l];exact r f)
 exact get_map I.jM O (c.get f) c.hd n hu (BK ru) (h u _ (I.tok _) ru)
def xr{m:Str}{g:Addr}{pl:Sem Bool}{Q:Value×List Value->Shared->Prop}(I:Inv X pins σ H s)(e:H a=some (.ins C dx fs))(c:Cls X.K C)(k:Meth X.K C m g)(l:fs.lookup m=none)
 (h:Q (.ref g,[.ref a]) s):wpAny (model X.prog X.w) A (getMethod (.ref a) m pl) Q E s:=by
 obtain⟨mA,O,r,_,_,_⟩:=mO I.hok e
 have hn:mA m=none:=pW.none_of (by rw[<-l];exact r m)
 exact Du I.jM O (c.get m) k.at_ k.fn hn h
def xu{y:V}{u:Value}{Q:Unit->Shared->Prop}(I:Inv X pins σ H s)(e:H a=some (.ins C dx fs))(c:Cls X.K C)(n:ĳ X.K C f)(hl:fs.length<1000)(ry:RelV y u)
 (h:∀s',Inv X pins σ (upd H a (.ins C dx (dG f y fs))) s'->Q () s'):wpAny (model X.prog X.w) A (setAttr (.ref a) f u) Q E s:=by
 obtain⟨mA,O,r,wi,_,ho⟩:=mO I.hok e
 have hz:(fs.map (·.1)).length<=sizeLine:=by rw[List.length_map,sizeLine_eq];omega
 refine Jx I.jM O c.sa c.po n.taker c.hd wi hz λh' O' sb=>h _ ?_
 have hd:∃o,h'.get? dx=some o:=let ⟨o,_,_,e',_⟩:=O'.ns;⟨o,e'⟩
 refine I.write (x:=a) (e:=dx) (by rw[e];exact True.intro) (.inr ho) (λb q hb z=>(sb.2 b hb).trans z) hd ?_
 refine⟨by rw[Ė O.ne];exact ho,?_,O.ne,O'.obj,_,O'.ns,λg=>?_,λg hg=>?_⟩
 ·have:=lu f y fs;omega
 ·show pW ((dG f y fs).lookup g) (if g=f then some u else mA g)
  rw[lq]
  by_cases q:g=f
  ·rw[if_pos q,if_pos q];exact ry
  ·rw[if_neg q,if_neg q];exact r g
 ·by_cases q:g=f
  ·rw[q];exact(jP f y fs).1
  ·refine(jP f y fs).2 g (wi g λz=>hg ?_)
   show(if g=f then some u else mA g)=none
   rw[if_neg q];exact z
def Inv.made(I:Inv X pins σ H s):Inv X pins σ (upd (upd H s.heap.objs.size (.own (s.heap.objs.size+1))) (s.heap.objs.size+1) (.ins C s.heap.objs.size []))
 {s with heap:=(s.heap.push PySem.W.emptyDict).push (PySem.W.instObj C s.heap.objs.size)}:=by
 have e1:(s.heap.push PySem.W.emptyDict).get? s.heap.objs.size=some PySem.W.emptyDict:=Heap.get?_push_size s.heap rfl
 have e2:((s.heap.push PySem.W.emptyDict).push (PySem.W.instObj C s.heap.objs.size)).get? (s.heap.objs.size+1)=some (PySem.W.instObj C s.heap.objs.size):=by
  have:=Heap.get?_push_size (s.heap.push PySem.W.emptyDict) (o:=PySem.W.instObj C s.heap.objs.size) rfl
  rwa [Heap.size_push] at this
 have e3:(s.heap.push PySem.W.emptyDict).Ns s.heap.objs.size (λ_=>none):=⟨PySem.W.emptyDict,#[],_,e1,rfl,(λe he=>absurd he (by simp)),λ_=>rfl⟩
 have I1:=I.laid (a:=s.heap.objs.size) (o:=.own (s.heap.objs.size+1)) (h':=s.heap.push PySem.W.emptyDict) (t':=s.toks) (λb u q=>Heap.get?_push_of_some _ q) (Nat.le_refl _) ⟨_,e1⟩
 refine I1.laid (a:=s.heap.objs.size+1) (o:=.ins C s.heap.objs.size []) (t':=s.toks) (λb u q=>Heap.get?_push_of_some _ q) (Nat.le_of_eq (Heap.size_push _ _)) ?_
 have ne:s.heap.objs.size≠s.heap.objs.size+1:=Nat.ne_of_lt (Nat.lt_succ_self _)
 refine⟨by rw[Ė ne,ĝ],Nat.zero_le _,ne,e2,λ_=>none,(Heap.Ns1.of_empty e3).at λo q=>Heap.get?_push_of_some _ q,λ_=>True.intro,λy hy=>absurd rfl hy⟩
def Jy{prog:Program}{w:World}{env:Env}{e:Expr}{f:Str}{pos:Pos}{s:Shared}{Q:Value->Shared->Prop}(hb:attributeBase e f env (eval e env)=eval e env)
 (h:wpAny (model prog w) A (eval e env) (λo s₁=>wpAny (model prog w) A (getAttr o f true) Q E s₁) E s):wpAny (model prog w) A (eval (.Attribute e f pos) env) Q E s:=
 Attribute_any_ h (by rw[arm_eval_Attribute,hb])
end
def Zco(K:PySem.W.Frag)(ta:TE)(f:Str):TE:=λσ H Q=>ta σ H λx H1=>∃a C dx fs v,x=.ref a/\H1 a=some (.ins C dx fs)/\Cls K C/\ĳ K C f/\fs.lookup f=some v/\Q v H1
def Zcp(K:PySem.W.Frag)(ta tv:TE)(f:Str):TS:=λD σ H=>tv σ H λy H1=>ta σ H1 λx H2=>∃a C dx fs,x=.ref a/\H2 a=some (.ins C dx fs)/\Cls K C/\ĳ K C f/\fs.length<1000/\
 D.nx σ (upd H2 a (.ins C dx (dG f y fs)))
section
variable{X:Cx}{o e value:Expr}{f:Str}{pos pos' tpos:Pos}{ta tv:TE}
def Uu(he:PE X e ta)(hb:attributeBase e f X.env (eval e X.env)=eval e X.env):PE X (.Attribute e f pos) (Zco X.K ta f):=by
 intro pins s σ H Q I h
 refine Jy hb (ŉ (he pins s σ H _ I h) λu s1 ⟨x,H1,I1,rx,a,C,dx,fs,v,ex,ea,c,n,l,q⟩=>?_)
 subst ex
 obtain rfl:u=Value.ref a:=rx
 exact xq I1 ea c n l λu' s2 I2 ru=>⟨v,H1,I2,ru,q⟩
def Uv(ha:PE X o ta)(hv:PE X value tv)(hs:swapsWith value (some (.Attribute o f pos')) pos.line X.env=pure false):PS X (.Assign [.Attribute o f pos'] value pos) (Zcp X.K ta tv f):=by
 intro pins s σ H D I h
 refine plainObj_wpAny_Assign_Attribute (ŉ (hv pins s σ H _ I h) λu s1 ⟨y,H1,I1,ry,q⟩=>ŉ (ha pins s1 σ H1 _ I1 q) λov s2 ⟨x,H2,I2,rx,a,C,dx,fs,ex,ea,c,n,l,q2⟩=>?_) hs
 subst ex
 obtain rfl:ov=Value.ref a:=rx
 exact xu I2 ea c n l ry λs3 I3=>⟨σ,_,I3,q2⟩
end
section
variable{X:Cx}{pins:List (Addr×Obj)}{σ:St}{H:Hp}{s:Shared}{A:Around}{E:Value->Shared->Prop}{Q:Value->Shared->Prop}{c:Value}{b:Bool}
inductive jQ(K:PySem.W.Frag)(H:Hp):V->Value->Prop where
 |non:jQ K H .non (.type "NoneType")
 |bl (x:Bool):jQ K H (.bl x) (.type "bool")
 |int (i:Int):jQ K H (.int i) (.type "int")
 |str (x:Str):jQ K H (.str x) (.type "str")
 |flt (x:UInt64):jQ K H (.flt x) (.type "float")
 |lst {a:Addr} {xs:List V} (e:H a=some (.lst xs)):jQ K H (.ref a) (.type "list")
 |cO {a:Addr} {o:Obj} {xs:List V} (e:H a=some (.cO o (.lst xs))):jQ K H (.ref a) (.type "list")
 |tup {a:Addr} {xs:List V} (e:H a=some (.tup xs)):jQ K H (.ref a) (.type "tuple")
 |dK {a:Addr} {kvs:List (Key×V)} (e:H a=some (.dK kvs)):jQ K H (.ref a) (.type "dict")
 |dT {a:Addr} {kvs:List (List Key×V)} (e:H a=some (.dT kvs)):jQ K H (.ref a) (.type "dict")
 |ins {a C dx:Addr} {fs:List (Str×V)} (e:H a=some (.ins C dx fs)) (cl:Cls K C) (ha:PySem.W.findIn K (.ref C) "__class__" =some (some (.builtin "object.__class__")))
   (hn:PySem.W.specialIn K (.builtin "object.__class__") "__get__" =some (some (.builtin "getset_descriptor.__get__"))) (htk:PySem.W.takesIn K (.builtin "object.__class__")=some true)
   (hm:PySem.W.mroIn K C (.type "object")=some true):jQ K H (.ref a) (.ref C)
def cR{x:V}{u t:Value}(I:Inv X pins σ H s)(rx:RelV x u)(ty:jQ X.K H x t)(e:PySem.W.kitOne X.K t c=some b)(h:∀tk,Q (.bool b) {s with toks:=tk}) :
 wpAny (model X.prog X.w) A (call (.builtin "isinstance") [u,c]) Q E s:=by
 cases ty with
 |non=>cases(show u=Value.none from rx);exact PySem.W.kia_one PySem.W.kitx_none I.jM True.intro e (λz=>nomatch z) h
 |bl y=>cases(show u=Value.bool y from rx);exact PySem.W.kia_one PySem.W.kitx_bool I.jM True.intro e (λz=>nomatch z) h
 |int i=>obtain⟨t,q⟩:=(show ∃t,u=Value.int i t from rx);cases q;exact PySem.W.kia_one PySem.W.kitx_int I.jM True.intro e (λz=>nomatch z) h
 |str y=>obtain⟨t,q⟩:=(show ∃t,u=Value.str y t from rx);cases q;exact PySem.W.kia_one PySem.W.kitx_str I.jM True.intro e (λz=>nomatch z) h
 |flt y=>obtain⟨t,q⟩:=(show ∃t,u=Value.float y t from rx);cases q;exact PySem.W.kia_one PySem.W.kitx_float I.jM True.intro e (λz=>nomatch z) h
 |@lst a xs ea=>
  cases(show u=Value.ref a from rx)
  obtain⟨_,_,n,_,h1⟩:=(show ų X.prog X.w H s.heap a (.lst xs) from I.hok a _ ea)
  exact PySem.W.kia_one PySem.W.kitx_list I.jM ⟨_,h1,rfl⟩ e (λz=>nomatch z) h
 |@cO a ob xs ea=>
  cases(show u=Value.ref a from rx)
  obtain⟨_,_,_,n,_,h1⟩:=(show ų X.prog X.w H s.heap a (.cO ob (.lst xs)) from I.hok a _ ea)
  exact PySem.W.kia_one PySem.W.kitx_list I.jM ⟨_,h1,rfl⟩ e (λz=>nomatch z) h
 |@tup a xs ea=>
  cases(show u=Value.ref a from rx)
  obtain⟨_,_,_,p⟩:=(show ų X.prog X.w H s.heap a (.tup xs) from I.hok a _ ea)
  obtain⟨o,h1,h2,_⟩:=p
  exact PySem.W.kia_one PySem.W.kitx_tuple I.jM ⟨o,h1,h2⟩ e (λz=>nomatch z) h
 |@dK a kvs ea=>
  cases(show u=Value.ref a from rx)
  obtain⟨_,_,vs,_,p⟩:=(show ų X.prog X.w H s.heap a (.dK kvs) from I.hok a _ ea)
  obtain⟨o,es,ep,h1,h2,_⟩:=p
  exact PySem.W.kia_one PySem.W.kitx_dict I.jM ⟨o,h1,h2.1⟩ e (λz=>nomatch z) h
 |@dT a kvs ea=>
  cases(show u=Value.ref a from rx)
  obtain⟨_,_,xs,_,o,es,ep,h1,h2,_⟩:=(show ų X.prog X.w H s.heap a (.dT kvs) from I.hok a _ ea)
  exact PySem.W.kia_one PySem.W.kitx_dict I.jM ⟨o,h1,h2.1⟩ e (λz=>nomatch z) h
 |@ins a C dx fs ea cl ha hn htk hm=>
  cases(show u=Value.ref a from rx)
  obtain⟨mA,O,_⟩:=mO I.hok ea
  obtain⟨od,J,_⟩:=O.look
  exact PySem.W.kia_one (PySem.W.kitx_own (cl.get _) cl.hd ha hn htk hm) I.jM J e (λz=>nomatch z) h
end
end L2
namespace L2
open PySem PySem.Spec PyProof.Rows
structure ŕ(k:Nat)(A:Around):Prop where
 hd:A.handled=none
 dp:A.depth+3*k+5<recursionLimit
 un:A.units+16*k+200<cLine
def ŕ.mono{j k:Nat}{A:Around}(r:ŕ k A)(h:j<=k):ŕ j A:=⟨r.hd,by have:=r.dp;omega,by have:=r.un;omega⟩
def ŕ.mo{j k:Nat}{A:Around}(r:ŕ k A)(h:j<=k:= by decide):ŕ j A:= r.mono h
theorem ŕ.deeper{k:Nat}{A:Around}(r:ŕ (k+1) A)(env:Env):ŕ k (A.deeper env):=
 ⟨r.hd,by have:=r.dp;show A.depth+1+3*k+5<_;omega,by have:=r.un;show A.units+3+16*k+200<_;omega⟩
theorem ŕ.in1{k:Nat}{A:Around}(r:ŕ (k+1) A):ŕ k A.in1:=
 ⟨r.hd,by have:=r.dp;show A.depth+3*k+5<_;omega,by have:=r.un;show A.units+1+16*k+200<_;omega⟩
def xG{A:Around}{C:Addr}{us:List Value}{kw:List (Str×Value)}:(A.under (.builtin "type.__call__" ⟨.ref C::us,kw⟩)).depth=A.depth+1:=by
 first|rfl|simp[Around.under,Code.weight,Code.isCreation,Code.isGuard,Code.isCaller,Code.frames,Code.isFrame,guardIds]
def xH{A:Around}{C:Addr}{us:List Value}{kw:List (Str×Value)}:(A.under (.builtin "type.__call__" ⟨.ref C::us,kw⟩)).units=A.units+1:=by
 first|rfl|simp[Around.under,Code.cUnits,Code.frames,Code.isFrame]
def ŕ.make{k:Nat}{A:Around}(r:ŕ (k+1) A)(C:Addr)(us:List Value)(kw:List (Str×Value)):ŕ k (A.under (.builtin "type.__call__" ⟨.ref C::us,kw⟩)):=
 ⟨r.hd,by have:=r.dp;rw[xG];omega,by have:=r.un;rw[xH];omega⟩
theorem ŕ.depth{k:Nat}{A:Around}(r:ŕ k A):A.depth<recursionLimit:=by have:=r.dp;omega
theorem ŕ.units{k:Nat}{A:Around}(r:ŕ k A):A.units+64<cLine:=by have:=r.un;omega
def Dw:TA:=λ_ H Q=>Q [] H
def zO(ta:TE)(tr:TA):TA:=λσ H Q=>ta σ H λx H1=>tr σ H1 λxs H2=>Q (x::xs) H2
section
variable{X:Cx}{e:Expr}{es:List Expr}{te:TE}{t:TA}{pos:Pos}
def bC:PA X [] Dw:=λ_ _ _ _ H Q I h=>Calls.spliced_nil ⟨[],H,I,.nil,h⟩
def Ŧ(ha:PE X e te)(hr:PA X es t)(hs:starEach (e::es) X.env=(false,eval e X.env)::starEach es X.env:=by rfl):PA X (e::es) (zO te t):=by
 intro pos pins s σ H Q I h
 rw[hs]
 show wpAny _ _ (spliced ((false,eval e X.env)::backTo pos (starEach es X.env))) _ _ s
 refine Calls.spliced_cons (ŉ (ha pins s σ H _ I h) λu s1 ⟨x,H1,I1,r1,q1⟩=>?_)
 exact ŉ (hr pos pins s1 σ H1 _ I1 q1) λus s2 ⟨xs,H2,I2,r2,q2⟩=>⟨x::xs,H2,I2,.cons r1 r2,q2⟩
def Zcq(t:TA):TE:=λσ H Q=>t σ H λxs H1=>xs.length<=sizeLine/\∀p,H1 p=none->Q (.ref p) (upd H1 p (.tup xs))
def YK(t:TA):TE:=λσ H Q=>t σ H λxs H1=>xs.length<=sizeLine/\∀p,H1 p=none->Q (.ref p) (upd H1 p (.lst xs))
def Dz{x1}(h:PA X es t):PE X (.Tuple es x1 pos) (Zcq t):=by
 intro pins s σ H Q I hq
 refine wpAny_Tuple_spliced (ŉ (h pos pins s σ H _ I hq) λus s1 ⟨xs,H1,I1,r,z,q⟩=>⟨by rw[<-r.length];exact z,?_⟩)
 have hf:H1 s1.heap.objs.size=none:=I1.hok.fresh (Nat.le_refl _)
 refine⟨.ref s1.heap.objs.size,upd H1 s1.heap.objs.size (.tup xs),I1.laid (t':=s1.toks) (λb u e=>Heap.get?_push_of_some _ e) (Nat.le_refl _) ?_,rfl,q _ hf⟩
 exact⟨z,us,r,⟨_,Heap.get?_push_size _ rfl,rfl,_,rfl⟩⟩
def DG(h:PA X es t):PE X (.List es pos) (YK t):=by
 intro pins s σ H Q I hq
 refine wpAny_List_spliced (ŉ (h pos pins s σ H _ I hq) λus s1 ⟨xs,H1,I1,r,z,q⟩=>⟨by rw[<-r.length];exact z,?_⟩)
 have hf:H1 s1.heap.objs.size=none:=I1.hok.fresh (Nat.le_refl _)
 refine⟨.ref s1.heap.objs.size,upd H1 s1.heap.objs.size (.lst xs),I1.laid (t':=s1.toks) (λb u e=>Heap.get?_push_of_some _ e) (Nat.le_refl _) ?_,rfl,q _ hf⟩
 exact⟨z,us,0,r,Heap.get?_push_size _ rfl⟩
end
abbrev Sp:=List V->Hp->VK->XK->Prop
abbrev jL:=List Env->Hp->Shared->XK->Value->Shared->Prop
structure xJ(P:Program)(w:World)(K:PySem.W.Frag)(mg:Str->Option Value)(base:Heap)(A:Around)(outer:List Env)(s:Shared)(H:Hp):Prop where
 frames:A.frames=some outer
 mod:Mod K mg base
 bs:∀b o,base.get? b=some o->s.heap.get? b=some o/\H b=none
 Jd:base.objs.size<=s.heap.objs.size
 lV:s.heap.FunFrames base outer
 Tp:∀b∈frs outer,H b=none
 hok:jo P w H s.heap
 bare:AllBare s.gens
 tb:TabsOk K mg base H
def CE(outer:List Env)(P:Program)(w:World)(H:Hp)(s:Shared)(Q:VK)(u:Value)(s':Shared):Prop:=
 ∃v H',s'.os=s.os/\AllBare s'.gens/\Un (frs outer) [] H H' s.heap s'.heap/\jo P w H' s'.heap/\RelV v u/\Q v H'
def CR(CX:jL)(outer:List Env)(P:Program)(w:World)(H:Hp)(s:Shared)(Q:VK)(E:XK)(r:Result)(s':Shared):Prop:=
 match r with
 | .ok (.ret u)=>CE outer P w H s Q u s'
 | .ok _=>False
 | .error e=>CX outer H s E e s'
structure Ħ(P:Program)(w:World)(K:PySem.W.Frag)(mg:Str->Option Value)(base:Heap)(CX:jL)(k:Nat)(f:Addr)(fd:FuncData)(ps:List Str)(sp:Sp):Prop where
 len:∀vs H Q E,sp vs H Q E->vs.length=ps.length
 run:∀(A:Around) (outer:List Env) (s:Shared) (H:Hp) (args:Args) (us:List Value) (vs:List V) (Q:VK) (E:XK),ŕ k A->xJ P w K mg base A outer s H->BindsTo s fd args (ps.zip us)->Vals vs us->sp vs H Q E->
  codeAny (model P w) A (.call (.ref f) args) (CR CX outer P w H s Q E) s
theorem Ħ.mono{P:Program}{w:World}{K:PySem.W.Frag}{mg:Str->Option Value}{base:Heap}{CX:jL}{j k:Nat}{f:Addr}{fd:FuncData}{ps:List Str}{sp:Sp}(F:Ħ P w K mg base CX j f fd ps sp)(h:j<=k) :
 Ħ P w K mg base CX k f fd ps sp:=⟨F.len,λA outer s H args us vs Q E hr=>F.run A outer s H args us vs Q E (hr.mono h)⟩
def Ħ.imp{P:Program}{w:World}{K:PySem.W.Frag}{mg:Str->Option Value}{base:Heap}{CX:jL}{k:Nat}{f:Addr}{fd:FuncData}{ps:List Str}{sp sp':Sp}(F:Ħ P w K mg base CX k f fd ps sp)
 (h:∀vs H Q E,sp' vs H Q E->sp vs H Q E):Ħ P w K mg base CX k f fd ps sp':=
 ⟨λvs H Q E q=>F.len vs H Q E (h _ _ _ _ q),λA outer s H args us vs Q E hr he hb hv hs=>F.run A outer s H args us vs Q E hr he hb hv (h _ _ _ _ hs)⟩
def xJ.make{P:Program}{w:World}{K:PySem.W.Frag}{mg:Str->Option Value}{base:Heap}{A:Around}{outer:List Env}{s:Shared}{H:Hp}(e:xJ P w K mg base A outer s H)(C:Addr)(us:List Value)(kw:List (Str×Value)) :
 xJ P w K mg base (A.under (.builtin "type.__call__" ⟨.ref C::us,kw⟩)) outer s H:=⟨by first|exact e.frames|(simpa[Around.under,Code.envs,Code.isFrame,pushEnvs] using e.frames),e.mod,e.bs,e.Jd,e.lV,e.Tp,e.hok,e.bare,e.tb⟩
section
variable{X:Cx}{pins:List (Addr×Obj)}{σ:St}{H:Hp}{s s':Shared}
def Inv.env0(I:Inv X pins σ H s):xJ X.prog X.w X.K X.mg X.base X.A X.stack s H:=
 ⟨I.ok.frames,I.ok.mod,I.bs,Nat.le_trans I.ok.Jd I.sz,I.stack,I.rN,I.hok,I.bare,I.tb⟩
def Inv.after{Q:VK}{u:Value}(I:Inv X pins σ H s)(h:CE X.stack X.prog X.w H s Q u s'):EP X pins σ Q u s':=by
 obtain⟨v,H',os,bare,un,hok,r,q⟩:=h
 obtain⟨hh,g,d,t,os'⟩:=s'
 obtain rfl:os'=s.os:=os
 exact⟨v,H',I.call (h':=hh) (g':=g) (d':=d) (t':=t) (ch:=[]) un hok bare (λb z=>absurd z (by simp)),r,q⟩
end
def Binds(K:PySem.W.Frag)(fd:FuncData)(ps:List Str)(ds:List Value):Prop:=
 ∀(s:Shared) (us:List Value),K.In s.heap->(us++ds).length=ps.length->BindsTo s fd ⟨us,[]⟩ (ps.zip (us++ds))
def Binds.all{K:PySem.W.Frag}{fd:FuncData}{ps:List Str}(h:∀us:List Value,us.length=ps.length->bindArgs fd ⟨us,[]⟩=pure (ps.zip us)):Binds K fd ps []:=λs us _ hl=>by
 rw[List.append_nil] at hl ⊢
 exact .of_eq (h us hl)
section
variable{X:Cx}{CX:jL}{k:Nat}{f C:Addr}{fd:FuncData}{ps:List Str}{sp:Sp}{dvs:List V}{ds:List Value}{E:XK}{x m:Str}{p pos apos:Pos}{e o:Expr}{es:List Expr}{ta:TE}{t:TA}
structure Mk(K:PySem.W.Frag)(C f:Addr):Prop where
 makes:PySem.W.makesIn K C=true
 init:PySem.W.findIn K (.ref C) "__init__" =some (some (.ref f))
 fn:PySem.W.isFn K (.ref f)=true
 kp:PySem.W.keepIn K (.ref C)=true
end
section
variable{X:Cx}{CX:jL}{k:Nat}{f C:Addr}{fd:FuncData}{ps ks:List Str}{sp:Sp}{E:XK}{x m:Str}{p pos apos kpos:Pos}{e o:Expr}{es:List Expr}{kws:List Keyword}{te ta:TE}{t tk:TA}{nm:Option Str}
variable{g:List Value->List Value->List Value}{gV:List V->List V->List V}
end
structure Ē(N P:List Str)(sc:Scope):Prop where
 kind:sc.kind=.function
 co:sc.isCoroutine=false
 gen:sc.isGenerator=false
 nd:N.Nodup
 pre:N.take P.length=P
 par:∀x∈P,sc.names.lookup x=some .local\/sc.names.lookup x=some .cell
 Uw:∀y∈sc.names,y.2≠ .free
theorem qy{kindOf:Str->Option NameKind}{x:Str}:∀{binds:List (Str×Value)} {m:Str->Option Value},(∀v,(x,v)∉binds)->bindL kindOf binds m x=m x
 | [],_,_=>rfl
 |(n,v)::r,m,h=>by
  unfold bindL
  rw[qy λw hw=>h w (List.mem_cons_of_mem _ hw)]
  split
  ·have:x≠n:=by rintro rfl;exact h v List.mem_cons_self
   simp[this]
  ·rfl
theorem qC{kindOf:Str->Option NameKind}{x:Str}:∀{binds:List (Str×Value)} {m:Str->Option Value},(∀v,(x,v)∉binds)->bindC kindOf binds m x=m x
 | [],_,_=>rfl
 |(n,v)::r,m,h=>by
  unfold bindC
  rw[qC λw hw=>h w (List.mem_cons_of_mem _ hw)]
  split
  ·rfl
  ·have:x≠n:=by rintro rfl;exact h v List.mem_cons_self
   simp[this]
theorem qD{kindOf:Str->Option NameKind}{x:Str}{v:Value}:∀{P:List Str} {vs:List Value} {i:Nat} {m:Str->Option Value},P.Nodup->P[i]?=some x->vs[i]?=some v->kindOf x=some .local->
 bindL kindOf (P.zip vs) m x=some v
 | [],_,_,_,_,h,_,_=>by simp at h
 |_::_,[],_,_,_,_,h,_=>by simp at h
 |p::P,w::vs,0,m,nd,h1,h2,hk=>by
  simp at h1 h2;subst h1;subst h2
  show bindL kindOf ((p,w)::P.zip vs) m p=_
  unfold bindL
  rw[qy λv hv=>(List.nodup_cons.mp nd).1 (List.of_mem_zip hv).1,if_pos hk]
  simp
 |p::P,w::vs,i+1,m,nd,h1,h2,hk=>by
  show bindL kindOf ((p,w)::P.zip vs) m x=_
  unfold bindL
  exact qD (i:=i) (List.nodup_cons.mp nd).2 (by simpa using h1) (by simpa using h2) hk
theorem qF{kindOf:Str->Option NameKind}{x:Str}{v:Value}:∀{P:List Str} {vs:List Value} {i:Nat} {m:Str->Option Value},P.Nodup->P[i]?=some x->vs[i]?=some v->kindOf x≠some .local->
 bindC kindOf (P.zip vs) m x=some v
 | [],_,_,_,_,h,_,_=>by simp at h
 |_::_,[],_,_,_,_,h,_=>by simp at h
 |p::P,w::vs,0,m,nd,h1,h2,hk=>by
  simp at h1 h2;subst h1;subst h2
  show bindC kindOf ((p,w)::P.zip vs) m p=_
  unfold bindC
  rw[qC λv hv=>(List.nodup_cons.mp nd).1 (List.of_mem_zip hv).1,if_neg hk]
  simp
 |p::P,w::vs,i+1,m,nd,h1,h2,hk=>by
  show bindC kindOf ((p,w)::P.zip vs) m x=_
  unfold bindC
  exact qF (i:=i) (List.nodup_cons.mp nd).2 (by simpa using h1) (by simpa using h2) hk
def start(N:List Str)(vs:List V):St:=vs.map some++List.replicate (N.length-vs.length) none
def pZ(CX:jL)(P:Program)(w:World)(K:PySem.W.Frag)(mg:Str->Option Value)(base:Heap)(N:List Str)(qual:Str)(scope:Scope)(f:Addr)(cd:Value)(A:Around)(outer:List Env)(s:Shared)(H:Hp)(E:XK):Cx where
 prog:=P
 w:=w
 K:=K
 mg:=mg
 base:=base
 A:=A.deeper (envOfC qual scope s.heap.objs.size f cd)
 N:=N
 s₀:= s
 H₀:= H
 env:=envOfC qual scope s.heap.objs.size f cd
 outer:=outer
 stack:=envOfC qual scope s.heap.objs.size f cd::outer
 ex:=[]
 calm:=true
 fn:=λ_=>true
 pn:=[]
 xe:=λe s'=>wpAny (model P w) (A.deeper (envOfC qual scope s.heap.objs.size f cd)) (leaving (envOfC qual scope s.heap.objs.size f cd) e) (λ_ s''=>CX outer H s E e s'') (λe' s''=>CX outer H s E e' s'') s'
def jt{sc:Scope}{n:Nat}{x:Str}(h:sc.names.lookup x=some .cell):∃c,(cellsFrom n sc.names []).lookup x=some c:=by
 have q:=PySem.W.cellsFrom_some sc.names n [] (.inl h)
 exact Option.isSome_iff_exists.mp q
def BP{CX:jL}{P:Program}{w:World}{K:PySem.W.Frag}{mg:Str->Option Value}{base:Heap}{N ps:List Str}{qual:Str}{scope:Scope}{f:Addr}{cd:Value}{A:Around}{outer:List Env}{s s1:Shared}{H:Hp}{E:XK}{us:List Value}{vs:List V}
 (S:Ē N ps scope)(hd:A.handled=none)(e0:xJ P w K mg base A outer s H)(hl:vs.length=ps.length)(r:Vals vs us)
 (x:InCallC s s.heap.objs.size (bindL (envOfC qual scope s.heap.objs.size f cd).kindOf (ps.zip us) λ_=>none) (cellsFrom (s.heap.objs.size+1) scope.names []) (bindC (envOfC qual scope s.heap.objs.size f cd).kindOf (ps.zip us) λ_=>none) s1) :
 Inv (pZ CX P w K mg base N qual scope f cd A outer s H E) [] (start N vs) H s1:=by
 have hpl:ps.length<=N.length:=by have:=congrArg List.length S.pre;rw[List.length_take] at this;omega
 obtain⟨h1,tk,rfl,hk⟩:=x.done
 have YL:∀b:Addr,b∉(pZ CX P w K mg base N qual scope f cd A outer s H E).ex:=λb z=>absurd (show b∈([]:List Addr) from z) (by simp)
 refine⟨⟨e0.mod,S.kind,rfl,rfl,Nat.le_refl _,λy z c h1 h2=>?_,λy hy=>?_,λy c _ h=>?_,λ_=>hd,Around.frames_deeper e0.frames,.inr ⟨rfl,rfl⟩,λb z=>absurd z (YL b),e0.bs,e0.Jd,λb _ _=>YL b,λb z=>absurd z (YL b),e0.lV,e0.Tp,e0.tb⟩,
  rfl,e0.bare,Un.kept hk,⟨_,x.toInCall.ns,λi y v h1 h2 h3=>?_⟩,λy c h=>⟨_,x.cell y c h⟩,e0.hok.fresh (Nat.le_refl _),λy c h=>?_,λp hp=>absurd (show p∈([]:List (Addr×Obj)) from hp) (by simp),e0.hok.kept hk,?_⟩
 ·exact name_of_addr x.apart (PySem.mem_of_lookup h1) (PySem.mem_of_lookup h2)
 ·have hy:scope.names.lookup y=some .cell\/scope.names.lookup y=some .free:=hy
  rcases hy with hy|hy
  ·exact jt hy
  ·exact absurd rfl (S.Uw _ (PySem.mem_of_lookup hy))
 ·exact Nat.le_of_lt (x.above y c (PySem.mem_of_lookup h))
 ·have hi:i<vs.length:=by
   unfold start at h2
   by_cases hi:i<vs.length
   ·exact hi
   ·rw[List.getElem?_append_right (by simpa using hi)] at h2
    rw[List.getElem?_replicate] at h2
    split at h2<;>cases h2
  have ha:vs[i]?=some v:=by
   unfold start at h2
   rw[List.getElem?_append_left (by simpa using hi),List.getElem?_map] at h2
   cases e:vs[i]? with
   |none=>rw[e] at h2;cases h2
   |some a=>rw[e] at h2;cases h2;rfl
  obtain⟨u,hu,rv⟩:=r.get ha
  have hp:ps[i]?=some y:=by
   rw[<-S.pre,List.getElem?_take_of_lt (by omega)];exact h1
  have ndP:ps.Nodup:=by rw[<-S.pre];exact S.nd.sublist (List.take_sublist _ _)
  refine⟨u,rv,?_⟩
  rcases S.par y (List.mem_of_getElem? hp) with k|k
  ·exact .inl ⟨k,qD ndP hp hu k⟩
  ·obtain⟨c,e⟩:=jt (n:=s.heap.objs.size+1) k
   refine .inr ⟨.inl k,c,e,?_⟩
   have q:=x.cell y c e
   rw[qF ndP hp hu (by show scope.names.lookup y≠_;rw[k];decide)] at q
   exact q
 ·exact e0.hok.fresh (Nat.le_of_lt (x.above y c (PySem.mem_of_lookup h)))
 ·unfold start
  show _=N.length
  rw[List.length_append,List.length_map,List.length_replicate]
  omega
def DK{CX:jL}{P:Program}{w:World}{K:PySem.W.Frag}{mg:Str->Option Value}{base:Heap}{k:Nat}{f:Addr}{name qual:Str}{params:Arguments}{body:List Stmt}{scope:Scope}{dV kV doc pm cdv ct oc:Value}{an od:Option Addr}
 {osl:Array (Option Value)}{N ps:List Str}{sp:Sp}(lk:K.lookup f=some ⟨oc,od,.func (PySem.W.fnOf name qual params body scope dV kV doc pm an cdv ct),osl⟩)(hcd:PySem.W.codeIn K cdv qual=true)(S:Ē N ps scope)
 (len:∀vs H Q E,sp vs H Q E->vs.length=ps.length)
 (hbody:∀(A:Around) (outer:List Env) (s:Shared) (H:Hp) (vs:List V) (Q:VK) (E:XK),ŕ k (A.deeper (envOfC qual scope s.heap.objs.size f cdv))→sp vs H Q E→
   ∃t,fJ (pZ CX P w K mg base N qual scope f cdv A outer s H E) body t/\t {nx:=λ_ H'=>Q .non H',rt:=Q} (start N vs) H) :
 Ħ P w K mg base CX (k+1) f (PySem.W.fnOf name qual params body scope dV kV doc pm an cdv ct) ps sp:=by
 refine⟨len,λA outer s H args us vs Q E hr e0 hb r hsp=>?_⟩
 have hl:=len _ _ _ _ hsp
 have KX:K.In s.heap:=e0.mod.Yw.keeps λb o e=>(e0.bs b o e).1
 have lim:s.heap.NoLimit:=e0.mod.nolimit.keeps λb o e=>(e0.bs b o e).1
 have hkind:∀y∈ps.zip us,scope.names.lookup y.1=some .local\/(scope.names.lookup y.1=some .cell/\((cellsFrom (s.heap.objs.size+1) scope.names []).lookup y.1).isSome=true):=λ⟨n,v⟩ hy=>by
  rcases S.par n (List.of_mem_zip hy).1 with q|q
  ·exact .inl q
  ·exact .inr ⟨q,PySem.W.cellsFrom_some _ _ _ (.inl q)⟩
 refine codeAny_call_function hr.depth (KX _ _ lk) rfl S.co S.gen rfl (PySem.W.codeRec_of KX hcd) (hb _ _ _ _ ?_)
 refine wpAny_newFunctionEnv_cells S.kind hkind λenv he s1 x=>?_
 subst he
 refine⟨lim.keeps x.toInCall.keep,codeAny_func ?_⟩
 obtain⟨t,ht,hq⟩:=hbody A outer s H vs Q E (hr.deeper _) hsp
 have I:Inv (pZ CX P w K mg base N qual scope f cdv A outer s H E) [] (start N vs) H s1:=BP S hr.hd e0 hl r x
 refine wpAny_mono (ht [] s1 (start N vs) H _ I hq) (λfl s' hs=>?_) λe s' hs=>hs
 have fin:∀{σ':St} {H':Hp} {v:V} {u:Value},Inv (pZ CX P w K mg base N qual scope f cdv A outer s H E) [] σ' H' s'->RelV v u->Q v H'->CE outer P w H s Q u s':=
  fun{σ' H' v u} J rv q=>⟨v,H',J.os,J.bare,J.base,J.hok,rv,q⟩
 cases fl with
 |ret u=>
  obtain⟨v,σ',H',J,rv,q⟩:=hs
  exact fin J rv q
 |next=>
  obtain⟨σ',H',J,q⟩:=hs
  exact fin (v:=V.non) (u:=Value.none) J rfl q
 |brk=>
  obtain⟨_,_,_,q⟩:=hs
  exact False.elim q
 |cont=>
  obtain⟨_,_,_,q⟩:=hs
  exact False.elim q
end L2
namespace L2
open PySem PySem.Spec PyProof.Rows
section
variable{X:Cx}{x:Str}{p pos:Pos}{e:Expr}{es:List Expr}{t:TA}{id T:String}{r:List V->Hp->VK->Prop}
def tCB(r:List V->Hp->VK->Prop)(t:TA):TE:=λσ H Q=>t σ H λvs H1=>r vs H1 Q
def DN(hc:ō X (.builtin id) r)(hg:Gl X x)(hm:X.mg x=none)(hv:bootBuiltins x=some (.builtin id))(ha:PA X (e::es) t)(hn:x≠ "__name__" := by decide)(hdb:(x== ("__debug__" :Str))=false:=by decide)
 (he:starEach (e::es) X.env=(false,eval e X.env)::starEach es X.env:=by rfl)(hpl:(backTo pos (starEach es X.env)).any (·.1)=false:=by rfl):PE X (.Call (.Name x p) (e::es) [] pos) (tCB r t):=by
 intro pins s σ H Q I h
 refine wpAny_Call_Name_kw (fO I hg hm hv ?_ hn hdb)
 exact PyProof.Rows.callWith_builtin1 (ŉ (ha pos pins s σ H _ I h) λus s1 ⟨vs,H1,I1,r1,q1⟩=>hc pins s1 σ H1 vs us Q I1 r1 q1) he hpl
def qG(hc:ō X (.type T) r)(hg:Gl X x)(hm:X.mg x=none)(hv:bootBuiltins x=some (.type T))(ha:PA X (e::es) t)(hn:x≠ "__name__" := by decide)(hdb:(x== ("__debug__" :Str))=false:=by decide)
 (he:starEach (e::es) X.env=(false,eval e X.env)::starEach es X.env:=by rfl)(hpl:(backTo pos (starEach es X.env)).any (·.1)=false:=by rfl):PE X (.Call (.Name x p) (e::es) [] pos) (tCB r t):=by
 intro pins s σ H Q I h
 refine wpAny_Call_Name_kw (fO I hg hm hv ?_ hn hdb)
 exact PyProof.Rows.callWith_type1 (ŉ (ha pos pins s σ H _ I h) λus s1 ⟨vs,H1,I1,r1,q1⟩=>hc pins s1 σ H1 vs us Q I1 r1 q1) he hpl
end
end L2
namespace HT
open PySem PyProof.Rows
section
open PySem.SeqAt
open PySem.AutoSeq1 (wpAny_loadPart')
open PySem.MeetsSeq PySem.MeetsSeq2 PySem.MeetsSeq3
end
section
variable{prog:Program}{w:World}{A:Around}{E:Value->Shared->Prop}{s:Shared}
def gY(n d:Nat):Option Int->Nat
 |none=>d
 |some v=>if v<0 then(v+(n:Int)).toNat else min v.toNat n
def mQ(n d k:Nat):gY n d (some (k:Int))=min k n:=by
 show(if(k:Int)<0 then((k:Int)+(n:Int)).toNat else min (k:Int).toNat n)=min k n
 rw[if_neg (by omega),Int.toNat_natCast]
def DP(n d:Nat)(hd:d<=n)(o:Option Int):gY n d o<=n:=by
 cases o with
 |none=>exact hd
 |some v=>
  show(if v<0 then(v+(n:Int)).toNat else min v.toNat n)<=n
  by_cases hv:v<0
  ·rw[if_pos hv];omega
  ·rw[if_neg hv];exact Nat.min_le_right _ _
end
end HT
namespace L2
open PySem PySem.Spec PyProof.Rows
abbrev TO:=St->Hp->(Option Int->Hp->Prop)->Prop
def PO(X:Cx)(e:Option Expr)(t:TO):Prop:=
 ∀(pins:List (Addr×Obj)) (s:Shared) (σ:St) (H:Hp) (Q:Option Int->Hp->Prop),Inv X pins σ H s->t σ H Q->
  wpAny (model X.prog X.w) X.A (evalPart e X.env) (λu s'=>∃o H',Inv X pins σ H' s'/\IsPart u o/\Q o H') X.xe s
def Jz:TO:=λ_ H Q=>Q none H
section
variable{X:Cx}{e:Expr}{te:TE}{lo hi:Option Expr}{tl th:TO}{pos p2:Pos}
def JB:PO X none Jz:=by
 intro pins s σ H Q I h
 rw[evalPart_none]
 exact wpAny_pure ⟨none,H,I,.none,h⟩
def zP(X:Cx)(r:V->Option Int->Option Int->Hp->VK->Prop):Prop:=
 ∀(pins:List (Addr×Obj)) (s:Shared) (σ:St) (H:Hp) (x:V) (v vl vu:Value) (lo hi:Option Int) (sl:Addr) (Q:VK),Inv X pins σ H s->RelV x v->s.heap.IsSliceOf sl vl vu .none->IsPart vl lo->IsPart vu hi->r x lo hi H Q->
  ∃T id,typeLookup (.type T) "__getitem__" =pure (some (.builtin id))/\s.TypeIs v T/\wpAny (model X.prog X.w) X.A (getItem v (.ref sl)) (EP X pins σ Q) X.xe s
def zP.or{r r':V->Option Int->Option Int->Hp->VK->Prop}(h:zP X r)(h':zP X r'):zP X (λx lo hi H Q=>r x lo hi H Q\/r' x lo hi H Q):=by
 intro pins s σ H x v vl vu lo hi sl Q I rx hs pl pu q
 rcases q with q|q
 ·exact h pins s σ H x v vl vu lo hi sl Q I rx hs pl pu q
 ·exact h' pins s σ H x v vl vu lo hi sl Q I rx hs pl pu q
def tSl(r:V->Option Int->Option Int->Hp->VK->Prop)(te:TE)(tl th:TO):TE:=λσ H Q=>te σ H λx H1=>tl σ H1 λl H2=>th σ H2 λu H3=>r x l u H3 Q
def DQ{r:V->Option Int->Option Int->Hp->VK->Prop}(hr:zP X r)(he:PE X e te)(hl:PO X lo tl)(hu:PO X hi th):PE X (.Subscript e (.Slice lo hi none p2) pos) (tSl r te tl th):=by
 intro pins s σ H Q I h
 refine Subscript_ (ŉ (he pins s σ H _ I h) λv s1 ⟨x,H1,I1,r1,q1⟩=>?_)
 refine wpAny_Slice (ŉ (hl pins s1 σ H1 _ I1 q1) λvl s2 ⟨l,H2,I2,pl,q2⟩=>ŉ (hu pins s2 σ H2 _ I2 q2) λvu s3 ⟨u,H3,I3,pu,q3⟩=>?_)
 rw[evalPart_none]
 refine wpAny_pure ?_
 have I4:Inv X pins σ H3 {s3 with heap:=s3.heap.push {cls:=.type "slice",data:=.fields #[vl,vu,.none]}}:=I3.kept (t':=s3.toks) λb ob q=>Heap.get?_push_of_some _ q
 obtain⟨T,id,hT,ht,hg⟩:=hr pins {s3 with heap:=s3.heap.push {cls:=.type "slice",data:=.fields #[vl,vu,.none]}} σ H3 x v vl vu l u s3.heap.objs.size Q I4 r1 (Heap.IsSliceOf.new ..) pl pu q3
 show wpAny (model X.prog X.w) X.A (subscriptTail e (.Slice lo hi none p2) v (.ref s3.heap.objs.size)) (EP X pins σ Q) X.xe {s3 with heap:=s3.heap.push {cls:=.type "slice",data:=.fields #[vl,vu,.none]}}
 exact tail_any (ops:=[.ref s3.heap.objs.size,v]) ht hT hg (by with_unfolding_all rfl)
def vg(xs:List V)(lo hi:Option Int):List V:=(xs.drop (HT.gY xs.length 0 lo)).take (HT.gY xs.length xs.length hi-HT.gY xs.length 0 lo)
def vh(xs:List V)(lo hi:Option Int):(vg xs lo hi).length<=xs.length:=by
 unfold vg
 rw[List.length_take,List.length_drop]
 omega
end
end L2
namespace L2
open PySem PySem.Spec PyProof.Rows
def CG(n:Nat)(i:Int):Option Nat:=if 0<=i then(if i<n then some i.toNat else none) else if -(n:Int)<=i then some (i+n).toNat else none
def lA{α:Type}(xs:List α)(i:Int):Option α:= (CG xs.length i).bind λj=>xs[j]?
def JC{n:Nat}{i:Int}{j:Nat}(h:CG n i=some j):seqIndex? i n=some j/\j<n/\ -(n:Int)<=i/\i<n:=by
 unfold CG at h
 by_cases h0:0<=i
 ·rw[if_pos h0] at h
  by_cases h1:i<n
  ·rw[if_pos h1] at h
   have e:i.toNat=j:=Option.some.inj h
   exact⟨by rw[seqIndex_of h0 h1,e],by omega,by omega,h1⟩
  ·rw[if_neg h1] at h;cases h
 ·rw[if_neg h0] at h
  by_cases h1: -(n:Int)<=i
  ·rw[if_pos h1] at h
   have e:(i+n).toNat=j:=Option.some.inj h
   exact⟨by rw[seqIndex_neg (by omega) h1,e],by omega,h1,by omega⟩
  ·rw[if_neg h1] at h;cases h
def sy{α:Type}{xs:List α}{i:Int}{v:α}(h:lA xs i=some v):∃j,seqIndex? i xs.length=some j/\xs[j]?=some v/\j<xs.length/\ -(xs.length:Int)<=i/\i<xs.length:=by
 unfold lA at h
 cases e:CG xs.length i with
 |none=>rw[e] at h;cases h
 |some j=>
  rw[e] at h
  obtain⟨h1,h2,h3,h4⟩:=JC e
  exact⟨j,h1,h,h2,h3,h4⟩
def mR(b:Expr):Prop:=∀o i,subscripted b false o i=operate [o,i] (getItem o i)
def xK(X:Cx)(r:R2):Prop:=
 ∀(value slice:Expr) (pins:List (Addr×Obj)) (s:Shared) (σ:St) (H:Hp) (x y:V) (v u:Value) (Q:VK),Inv X pins σ H s->RelV x v->RelV y u->r x y H Q->
  subscripted slice false v u=operate [v,u] (getItem v u)->wpAny (model X.prog X.w) X.A (subscriptTail value slice v u) (EP X pins σ Q) X.xe s
def MtR(X:Cx)(id:String)(r:V->List V->Hp->VK->Prop):Prop:=
 ∀(pins:List (Addr×Obj)) (s:Shared) (σ:St) (H:Hp) (x:V) (xs:List V) (v:Value) (us:List Value) (Q:VK),Inv X pins σ H s->RelV x v->Vals xs us->r x xs H Q->
  wpAny (model X.prog X.w) X.A (call (.builtin id) (v::us)) (EP X pins σ Q) X.xe s
section
variable{X:Cx}{a b:Expr}{ta tb:TE}{pos:Pos}
def xK.or{r r':R2}(h:xK X r)(h':xK X r'):xK X (λx y H Q=>r x y H Q\/r' x y H Q):=by
 intro value slice pins s σ H x y v u Q I rx ry q hs
 rcases q with q|q
 ·exact h value slice pins s σ H x y v u Q I rx ry q hs
 ·exact h' value slice pins s σ H x y v u Q I rx ry q hs
def zQ{r:R2}(hr:xK X r)(ha:PE X a ta)(hb:PE X b tb)(hs:mR b):PE X (.Subscript a b pos) (Jt r ta tb):=by
 intro pins s σ H Q I h
 exact Subscript_ (Ug ha hb I h λv u s2 x y H2 I2 rx ry q=>hr a b pins s2 σ H2 x y v u Q I2 rx ry q (hs _ _))
def YM(K:PySem.W.Frag):R2:=λx y H Q=>∃p xs i v,x=.ref p/\y=.int i/\Ś K H p xs/\lA xs i=some v/\Q v H
def YQ(K:PySem.W.Frag):R2:=λx y H Q=>∃p xs i v,x=.ref p/\y=.int i/\dD K H p xs/\lA xs i=some v/\Q v H
def YT:R2:=λx y H Q=>∃z i c,x=.str z/\y=.int i/\z.length<=sizeLine/\lA z.cps.toList i=some c/\Q (.str ⟨#[c]⟩) H
def JD:xK X (YM X.K):=by
 intro value slice pins s σ H x y v u Q I rx ry h hs
 obtain⟨p,xs,i,z,rfl,rfl,hq,he,q⟩:=h
 cases rx
 obtain⟨t,rfl⟩:=ry
 obtain⟨its,r,pl,hz⟩:=I.list hq
 obtain⟨j,h1,h2,h3,h4,h5⟩:=sy he
 obtain⟨w,ew,Ua⟩:=r.get h2
 have hl:=r.length
 have hn:=nj
 have fin:EP X pins σ Q w s:=⟨z,H,I,Ua,q⟩
 by_cases h0:0<=i
 ·have hj:i.toNat=j:=by
   rw[seqIndex_of h0 h5] at h1
   exact Option.some.inj h1
  exact item_listR pl.isList h0 (by omega) (by rw[hj];simpa using ew) fin hs
 ·have hj:(i+(its.toArray.size:Int)).toNat=j:=by
   rw[seqIndex_neg (by omega) h4] at h1
   rw[List.size_toArray,<-hl]
   exact Option.some.inj h1
  exact subscriptTail_builtinR (x:=w) pl.isList.typeIs slot_list_getitem.lookup
   (wpAny_getItem_list_neg (Q:=λr s'=>r=w/\EP X pins σ Q r s') pl.isList (by omega) (by rw[List.size_toArray]<;>omega) (by omega) (by rw[hj];simpa using ew) ⟨rfl,fin⟩) hs
def Ux:xK X (YQ X.K):=by
 intro value slice pins s σ H x y v u Q I rx ry h hs
 obtain⟨p,xs,i,z,rfl,rfl,hq,he,q⟩:=h
 cases rx
 obtain⟨t,rfl⟩:=ry
 obtain⟨its,r,pl,hz⟩:=I.tuple hq
 obtain⟨j,h1,h2,h3,h4,h5⟩:=sy he
 obtain⟨w,ew,Ua⟩:=r.get h2
 have hl:=r.length
 have hn:=nj
 have fin:EP X pins σ Q w s:=⟨z,H,I,Ua,q⟩
 exact subscriptTail_builtinR (x:=w) pl.typeIs slot_tuple_getitem.lookup
  (getItem_tuple (j:=j) (Q:=λr s'=>r=w/\EP X pins σ Q r s') pl (by omega) (by omega) (by rw[List.size_toArray,<-hl];exact h1) (by simpa using ew) ⟨rfl,fin⟩) hs
def Uy:xK X YT:=by
 intro value slice pins s σ H x y v u Q I rx ry h hs
 obtain⟨z,i,c,rfl,rfl,hz,he,q⟩:=h
 obtain⟨t,rfl⟩:=rx
 obtain⟨t',rfl⟩:=ry
 obtain⟨j,h1,h2,h3,h4,h5⟩:=sy he
 have hl:z.cps.toList.length=z.length:=by simp[Str.length]
 rw[hl] at h1 h4 h5
 have hn:=nj
 exact tail_any (typeIs_str s z t) slot_str_getitem.lookup (getItem_str (c:=c) (by
  have e1:decide (i < -(2 ^ 63:Int))=false:=decide_eq_false (by omega)
  have e2:decide (i >= 2 ^ 63)=false:=decide_eq_false (by omega)
  rw[e1,e2,Bool.or_false]) (by rw[h1];simpa using h2) ⟨.str ⟨#[c]⟩,H,I.tok _,⟨_,rfl⟩,q⟩) hs
def rIx(K:PySem.W.Frag):R2:=λx y H Q=>YM K x y H Q\/YQ K x y H Q\/YT x y H Q
def sE:xK X (rIx X.K):=JD.or (Ux.or Uy)
def sG(lo hi:Option Int)(n:Nat):(sliceBounds lo hi none n).1=((HT.gY n 0 lo:Nat):Int)/\(sliceBounds lo hi none n).2.1=((HT.gY n n hi:Nat):Int)/\(sliceBounds lo hi none n).2.2=1:=by
 refine⟨?_,?_,rfl⟩
 ·cases lo with
  |none=>simp[sliceBounds,HT.gY]
  |some i=>
   simp only[sliceBounds,HT.gY,Option.getD_none,show(1:Int)>0 by decide,if_true]
   by_cases h:i<0
   ·simp only[h,if_true]<;>omega
   ·simp only[h,if_false]<;>omega
 ·cases hi with
  |none=>simp[sliceBounds,HT.gY]
  |some i=>
   simp only[sliceBounds,HT.gY,Option.getD_none,show(1:Int)>0 by decide,if_true]
   by_cases h:i<0
   ·simp only[h,if_true]<;>omega
   ·simp only[h,if_false]<;>omega
def qb(its:List Value)(lo hi:Option Int):slicePick its.toArray lo hi none=((its.drop (HT.gY its.length 0 lo)).take (HT.gY its.length its.length hi-HT.gY its.length 0 lo)).toArray:=by
 obtain⟨h1,h2,h3⟩:=sG lo hi its.toArray.size
 unfold slicePick
 rw[h1,h2,h3]
 simp only[sliceRange_one,pick_run,List.size_toArray]<;>rfl
def Zcr(K:PySem.W.Frag):V->Option Int->Option Int->Hp->VK->Prop:=λx lo hi H Q=>∃a xs,x=.ref a/\Ś K H a xs/\∀p,H p=none->Q (.ref p) (upd H p (.lst (vg xs lo hi)))
def JF:zP X (Zcr X.K):=by
 intro pins s σ H x v vl vu lo hi sl Q I rx hs pl pu h
 obtain⟨a,xs,rfl,hx,q⟩:=h
 cases rx
 obtain⟨its,r,ht,hz⟩:=I.list hx
 have hlen:=r.length
 refine⟨"list",_,slot_list_getitem.lookup,ht.isList.typeIs,?_⟩
 refine wpAny_getItem_list_slice ht.isList hs pl pu .none (by simp) ?_ (by rw[List.size_toArray]<;>omega)
 rw[qb,<-hlen]
 refine⟨.ref s.heap.objs.size,_,I.laid (t':=s.toks) (o:=.lst (vg xs lo hi)) (λb ob q=>Heap.get?_push_of_some _ q) (Nat.le_refl _) ?_,rfl,q _ (I.hok.fresh (Nat.le_refl _))⟩
 exact⟨Nat.le_trans (vh xs lo hi) hz,_,0,(r.drop (HT.gY xs.length 0 lo)).take (HT.gY xs.length xs.length hi-HT.gY xs.length 0 lo),Heap.get?_push_size _ rfl⟩
def sI:ō X (.type "list") (λxs H Q=>∃p ys,xs=[.ref p]/\(Ś X.K H p ys\/dD X.K H p ys)/\∀l,H l=none->Q (.ref l) (upd H l (.lst ys))):=by
 intro pins s σ H xs us Q I r h
 obtain⟨p,ys,rfl,hq,q⟩:=h
 obtain⟨u,rfl,rx⟩:=vals1 r
 cases rx
 have fin:∀(its:List Value),Vals ys its->ys.length<=sizeLine->∀(h':Heap) (c':Nat),(∀b o',s.heap.get? b=some o'->h'.get? b=some o')->
  h'.get? s.heap.objs.size=some {cls:=.type "list",dict:=none,data:=.seq its.toArray c',slots:=#[]}->EP X pins σ Q (.ref s.heap.objs.size) {s with heap:=h'}:=λits r' hz h' c' kp e=>
  ⟨.ref s.heap.objs.size,_,I.laid (t':=s.toks) kp (Nat.le_refl _) (show ų X.prog X.w _ h' _ (.lst ys) from⟨hz,its,c',r',e⟩),rfl,q _ (I.hok.fresh (Nat.le_refl _))⟩
 rcases hq with hq|hq
 ·obtain⟨its,r',pl,hz⟩:=I.list hq
  have hlen:=r'.length
  obtain⟨o,ho,hc,n,hd⟩:=pl.isList
  exact call_list_seq p (.inl rfl) ho hc hd (λh' c' kp e=>fin its r' hz h' c' kp e) (by simp only[List.size_toArray]<;>omega)
 ·obtain⟨its,r',pl,hz⟩:=I.tuple hq
  have hlen:=r'.length
  obtain⟨o,ho,hc,n,hd⟩:=pl
  exact call_list_seq p (.inr rfl) ho hc hd (λh' c' kp e=>fin its r' hz h' c' kp e) (by simp only[List.size_toArray]<;>omega)
def qd:ō X (.type "tuple") (λxs H Q=>∃p ys,xs=[.ref p]/\((Ś X.K H p ys/\∀l,H l=none->Q (.ref l) (upd H l (.tup ys)))\/(dD X.K H p ys/\Q (.ref p) H))):=by
 intro pins s σ H xs us Q I r h
 obtain⟨p,ys,rfl,h⟩:=h
 obtain⟨u,rfl,rx⟩:=vals1 r
 cases rx
 rcases h with⟨hq,q⟩|⟨hq,q⟩
 ·obtain⟨its,r',pl,hz⟩:=I.list hq
  have hlen:=r'.length
  refine call_tuple_list pl.isList (λh' kp=>?_) (by simp only[List.size_toArray]<;>omega)
  have I1:Inv X pins σ H {s with heap:=h'}:=I.kept (t':=s.toks) kp
  have I2:Inv X pins σ (upd H h'.objs.size (.tup ys)) {s with heap:=h'.push {cls:=.type "tuple",data:=.seq its.toArray}}:=
   I1.laid (t':=s.toks) (λb o e=>Heap.get?_push_of_some _ e) (Nat.le_refl _) (show ų X.prog X.w _ _ _ (.tup ys) from⟨hz,its,r',IsTup.new _ _⟩)
  exact⟨.ref h'.objs.size,_,I2,rfl,q _ (I1.hok.fresh (Nat.le_refl _))⟩
 ·obtain⟨its,r',pl,hz⟩:=I.tuple hq
  exact call_tuple_same pl ⟨.ref p,H,I,rfl,q⟩
def tyV(K:PySem.W.Frag)(T:String)(x:V)(H:Hp):Prop:=match x with
 | .str _=>T= "str"
 | .int _=>T= "int"
 | .ref p=>(T= "list" ∧∃xs,Ś K H p xs)∨(T= "tuple" ∧∃o,K.lookup p=some o∧o.cls=.type "tuple" ∧o.dict=none)∨
     (T= "dict" /\((∃kvs,H p=some (.dK kvs))\/∃kvs,H p=some (.dT kvs)))\/(T= "set" /\∃S n,H p=some (.set S n))
 |_=>False
def Uz{pins:List (Addr×Obj)}{σ:St}{H:Hp}{s:Shared}{T:String}{x:V}{v:Value}(I:Inv X pins σ H s)(r:RelV x v)(ty:tyV X.K T x H) :
 s.TypeIs v T/\∀a,v=.ref a->∃ob,s.heap.get? a=some ob/\ob.dict=none:=by
 cases x with
 |str z=>
  obtain⟨t,rfl⟩:=r
  cases(show T= "str" from ty)
  exact⟨typeIs_str s z t,λ_ e=>nomatch e⟩
 |int i=>
  obtain⟨t,rfl⟩:=r
  cases(show T= "int" from ty)
  exact⟨typeIs_int s i t,λ_ e=>nomatch e⟩
 |ref p=>
  cases r
  rcases ty with⟨rfl,xs,hq⟩|⟨rfl,o,hk,hc,hd⟩|⟨rfl,hk⟩|⟨rfl,S,n,hk⟩
  ·obtain⟨its,_,pl,_⟩:=I.list hq
   refine⟨pl.isList.typeIs,λa e=>?_⟩
   cases e
   obtain⟨o,n,e,c,hd,_⟩:=pl
   exact⟨o,e,hd⟩
  ·refine⟨⟨o,I.jM p o hk,hc⟩,λa e=>?_⟩
   cases e
   exact⟨o,I.jM _ o hk,hd⟩
  ·have z:∃o,s.heap.get? p=some o∧o.ExactDict:=by
    rcases hk with⟨kvs,hk⟩|⟨kvs,hk⟩
    ·obtain⟨_,_,_,_,o,_,_,e,ex,_⟩:=I.hok p _ hk
     exact⟨o,e,ex⟩
    ·obtain⟨_,_,_,_,o,_,_,e,ex,_⟩:=I.hok p _ hk
     exact⟨o,e,ex⟩
   obtain⟨o,e,ex⟩:=z
   refine⟨⟨o,e,ex.1⟩,λa e2=>?_⟩
   cases e2
   exact⟨o,e,ex.2.1⟩
  ·obtain⟨o,_,_,_,e,ex,_⟩:=I.hok p _ hk
   refine⟨⟨o,e,ex.1⟩,λa e2=>?_⟩
   cases e2
   exact⟨o,e,ex.2.1⟩
 |_=>exact False.elim ty
def YW(K:PySem.W.Frag)(T:String)(r:V->List V->Hp->VK->Prop)(to:TE)(t:TA):TE:=λσ H Q=>to σ H λx H1=>tyV K T x H1/\t σ H1 λxs H2=>r x xs H2 Q
variable{o e:Expr}{es:List Expr}{to:TE}{t:TA}{name:Str}{apos cpos:Pos}{T id:String}{r:V->List V->Hp->VK->Prop}
def iB(pa:PlainAttrs T)(slot:Slot T name id)(hty:typeOf (.builtin id)=pure (.type "method_descriptor"))(hm:MtR X id r)(ho:PE X o to)(ha:PA X (e::es) t)
 (hbase:attributeBase o name X.env (eval o X.env)=eval o X.env:=by rfl)
 (hfew:((backTo cpos (starEach (e::es) X.env)).all (fun x=>!x.1) && (backToKw cpos (keywordEach [] X.env)).all (fun x=>x.1.isSome)
   && decide ((e::es).length+([]:List Keyword).length+(if([]:List Keyword).isEmpty then 0 else 1)<30))=true:=by rfl)
 (hline:(apos.endLine== cpos.line)=true:=by rfl)(hs:starEach (e::es) X.env=(false,eval e X.env)::starEach es X.env:=by rfl)(hplain:(backTo cpos (starEach es X.env)).any (·.1)=false:=by rfl) :
 PE X (.Call (.Attribute o name apos) (e::es) [] cpos) (YW X.K T r to t):=by
 intro pins s σ H Q I h
 refine wpAny_Call_method_late hbase hfew hline rfl (ŉ (ho pins s σ H _ I h) λv s1 ⟨x,H1,I1,r1,ty,q1⟩=>?_)
 obtain⟨h1,h2⟩:=Uz I1 r1 ty
 refine⟨T,id,pa,slot,hty,h1,h2,?_⟩
 have hA:=ha cpos pins s1 σ H1 _ I1 q1
 rw[hs] at hA ⊢
 refine Calls.callWith_builtin (by show(false || (backTo cpos (starEach es X.env)).any (·.1))=false;rw[hplain]<;>rfl) (Calls.evalArgs_plain ?_)
 exact ŉ hA λus s2 ⟨vs,H2,I2,r2,q2⟩=>hm pins s2 σ H2 x vs v us Q I2 r1 r2 q2
end
end L2
namespace L2
open PySem PySem.Spec PyProof.Rows
def MtM(X:Cx)(id:String)(r:V->List V->Hp->VK->Prop):Prop:=
 ∀(pins:List (Addr×Obj)) (s:Shared) (σ:St) (H:Hp) (x:V) (xs:List V) (v:Value) (us:List Value) (Q:VK),Inv X pins σ H s->RelV x v->Vals xs us->r x xs H Q->
  wpAny (model X.prog X.w) X.A (call (.builtin id) (v::us)) (EP X pins σ Q) X.xe s
theorem Vals.one:∀{x:V} {us:List Value},Vals [x] us->∃u,us=[u]/\RelV x u
 |_,_,.cons r .nil=>⟨_,rfl,r⟩
section
variable{X:Cx}{pins:List (Addr×Obj)}{σ:St}{H:Hp}{s:Shared}{l b:Addr}{xs ys zs:List V}
def Inv.Zcs{its its':List Value}{n:Nat}{f:Array Value->Array Value}{t':Nat}(I:Inv X pins σ H s)(hH:H l=some (.lst xs))
 (e:s.heap.get? l=some {cls:=.type "list",data:=.seq its.toArray n})(hf:f its.toArray=its'.toArray)(hv:Vals ys its')(hz:ys.length<=sizeLine) :
 Inv X pins σ (upd H l (.lst ys)) {s with heap:=s.heap.update l (Obj.mapSeq f),toks:=t'}:=by
 have q:=PySem.IsL.update e f
 rw[hf] at q
 refine I.write (x:=l) (e:=l) (by rw[hH];exact trivial) (.inl rfl) (λb' u hb hu=>(Heap.get?_update_other s.heap (Obj.mapSeq f) (Ne.symm hb)).trans hu) ⟨_,q⟩ ?_
 exact⟨hz,its',_,hv,q⟩
def Inv.Zct{its:List Value}{t':Nat}(I:Inv X pins σ H s)(hv:Vals ys its)(hz:ys.length<=sizeLine) :
 Inv X pins σ (upd H s.heap.objs.size (.lst ys)) {s with heap:=s.heap.push {cls:=.type "list",data:=.seq its.toArray},toks:=t'}:=
 I.laid (λ_ _ q=>Heap.get?_push_of_some _ q) (Nat.le_refl _) ⟨hz,its,0,hv,Heap.get?_push_size _ rfl⟩
theorem Inv.fresh(I:Inv X pins σ H s):H s.heap.objs.size=none:=I.hok.fresh (Nat.le_refl _)
def Inv.Zcu(I:Inv X pins σ H s)(hH:H l=some (.lst xs)):xs.length<=sizeLine/\∃(its:List Value) (n:Nat),Vals xs its/\xs.length=its.length/\s.heap.get? l=some {cls:=.type "list",data:=.seq its.toArray n}:=by
 obtain⟨z,its,n,r,e⟩:=I.hok l _ hH
 exact⟨z,its,n,r,r.length,e⟩
end
section
variable{X:Cx}
def ju:V->List V->Hp->VK->Prop:=λx vs H Q=>∃l xs y,x=.ref l/\vs=[y]/\H l=some (.lst xs)/\xs.length<sizeLine/\Q .non (upd H l (.lst (xs ++ [y])))
def ń:MtM X "list.append" ju:=by
 intro pins s σ H x vs v us Q I rx rv h
 obtain⟨l,xs,y,rfl,rfl,hH,hz,q⟩:=h
 cases rx
 obtain⟨u,rfl,ru⟩:=rv.one
 obtain⟨z,its,n,r,hl,e⟩:=I.Zcu hH
 refine call_meets F.slot_list_append ⟨_,e,rfl⟩ F.entry_list_append (F.args_list_append_2 _ _) (PySem.list_append l its.toArray n u (by rw[List.size_toArray];omega)) ⟨e,?_⟩
 refine⟨.non,_,I.Zcs (its':=its ++ [u]) hH e (by simp) (r.append (.cons ru .nil)) ?_,rfl,q⟩
 rw[List.length_append,List.length_singleton]
 omega
end
section
variable{prog:Program}{w:World}{A:Around}{E:Value->Shared->Prop}{s:Shared}
end
section
variable{X:Cx}
end
end L2
namespace Att
open PySem PySem.W PySem.Calls PyProof.Rows
def lW{P:Params}{h:Heap}:∀(ns:List Int) (vs:List Value),WellAll P h vs (ns.map WData.int)->IntsAre vs ns:=by
 intro ns
 induction ns with
 |nil=>
  intro vs w
  rw[List.map_nil] at w
  cases w
  exact .nil
 |cons n ns ih=>
  intro vs w
  rw[List.map_cons] at w
  cases w with
  |cons a b=>
   cases a
   exact .cons _ _ (ih _ b)
def BR{l:OpenLaw}{n:Nat}(hn:l.most=some n){P:Params}{h:Heap}{args:List WData}{vals:List Value}
 (hpre:l.row.toRowW.claim.pre args=true)(hwl:WellAll P h vals args) :
 ∃a vs ns,vals=[Value.ref a]/\args=[WData.list (ns.map WData.int)]/\h.get? a=some {cls:=.type "list",data:=.seq vs.toArray}/\IntsAre vs ns/\ns.length<=n:=by
 have hsh:WShape.hasAll [] args [.list .int]=true:=(pre_splitW hpre).1
 have hc:l.pre.holds [] {args:=args}=true:=(pre_splitW hpre).2
 obtain⟨d,r,rfl,h1,h2⟩:=hasAllW_cons hsh
 obtain rfl:=hasAllW_nil h2
 obtain⟨xs,rfl,h3⟩:=hasW_list h1
 obtain⟨ns,rfl⟩:=items_int h3
 have hlen:ns.length<=n:=by
  unfold OpenLaw.pre at hc
  have h4:(WTm.not (.lt (.lit (.int (n:Int))) (.len (.arg 0)))).holds [] {args:=[.list (ns.map .int)]}=true:=by
   have h4:=(holds_andW hc).1
   rw[hn] at h4
   exact h4
  have h5:=condW_of h4 (w_not (w_lt w_lit (w_len_list (w_arg rfl))))
  rw[List.length_map] at h5
  refine Nat.le_of_not_lt λq=>?_
  have q':(n:Int)<((ns.length:Nat):Int):=by omega
  first
   |(rw[decide_eq_true q'] at h5;exact absurd h5 (by decide))
   |(simp at h5;omega)
 cases hwl with
 |cons w1 w2=>
  cases w2
  cases w1 with
  |list ho hall=>exact⟨_,_,ns,rfl,rfl,ho,lW ns _ hall,hlen⟩
def BW(l:OpenLaw)(args:List WData):l.row.toRowW.claim.post args (.bool true) args=true:=
 postW_of (r:=l.row.toRowW) (X:=(true== true))
  (show WShape.has [] (.bool true) .bool=true by first|rfl|decide|simp[WShape.has,WShape.arms,WShape.armsAll])
  (show(WTm.eq .res (.lit (.bool true))).value [] {args:=args,res:=some (.bool true),after:=args}=some (.bool (true== true)) from w_eq_bool (w_res rfl) w_lit) rfl
def vm{l:OpenLaw}{n:Nat}{q:Program}{loose:List Str}{XP:(Str->Option Value)->Heap->Prop}{YP:World->Heap->Prop}{d:DefRec}
 (hn:l.most=some n)(hdf:d.params.defaults=[])
 (call:∀(w:World) (s₀ s₁:Shared) (mg mb:Str→Option Value) (fa:Addr) (o:Obj) (pm cd doc:Value) (a:Addr) (vs:List Value) (ns:List Int),
   Ground q loose [] XP w s₀ mg mb s₁.heap->YP w s₁.heap->
   s₁.heap.get? fa=some o->o.data=.func (docDef d.name d.params d.body d.scope pm cd doc)->s₁.heap.CodeRec cd d.name->mg d.name=some (.ref fa)->
   s₁.heap.get? a=some {cls:=.type "list",data:=.seq vs.toArray}->IntsAre vs ns->ns.length<=n->s₁.gens= #[]->
   codeAny (model l.prog w) callerA (.call (.ref fa) ⟨[.ref a],[]⟩) (λr s'=>r=.ok (.ret (.bool true))/\OldK s₁.heap s'.heap/\s'.os=s₁.os/\AllBare s'.gens) s₁) :
 WalkO q loose XP YP l.row.toRowW d [] (λf vs=>PySem.call f vs):=by
 intro w s₀ s₁ mg mb G Y fa o pm cd doc dV kV ho hd hcd hD hmg hg args vals as hpre hlay hrd hwl hlo
 obtain rfl:dV=.none:=Dflts.none hD hdf
 obtain rfl:kV=.none:=Dflts.noKw hD
 obtain⟨a,vs,ns,rfl,rfl,hobj,hints,hlen⟩:=BR hn hpre hwl
 refine enter_call (codeAny_mono (call w s₀ s₁ mg mb fa o pm cd doc a vs ns G Y ho (fd_plain hd) hcd hmg hobj hints hlen hg) λr s' hq=>?_)
 obtain⟨rfl,h2,h3,h4⟩:=hq
 exact⟨.inl ⟨.bool true,.bool true,[],rfl,λ_=>rfl,.bool true,BW l _,λ_=>⟨List.Pairwise.nil,λ_ hm=>(nomatch hm)⟩⟩,h2,h3,h4⟩
section
variable{prog:Program}{w:World}{A:Around}{E:Value->Shared->Prop}{s:Shared}{K:Frag}
end
end Att
namespace L2
open PySem PySem.Spec PyProof.Rows
theorem aD:∀{vs:List Value} {ns:List Int},IntsAre vs ns->Vals (ns.map V.int) vs
 |_,_,.nil=>.nil
 |_,_,.cons n t h=>.cons ⟨t,rfl⟩ (aD h)
def Only(H:Hp):Prop:=∀b,H b=none\/(∃o xs,H b=some (.cO o (.lst xs)))\/∃q,H b=some (.iy q)
def fQ(K:PySem.W.Frag):List Str->Hp
 | []=>λ_=>none
 |y::r=>λb=>match PySem.W.tabIn K y with
  |some (_,P)=>if b=P then some (.iy (bB y)) else fQ K r b
  |none=>fQ K r b
theorem bR{K:PySem.W.Frag}:∀{l:List Str} {b:Addr} {u:HO},fQ K l b=some u->∃y c,y∈l/\PySem.W.tabIn K y=some (c,b)/\u=.iy (bB y)
 | [],_,_,h=>by cases(show(none:Option HO)=some _ from h)
 |y::r,b,u,h=>by
  have h':(match PySem.W.tabIn K y with
   |some (_,P)=>if b=P then some (.iy (bB y)) else fQ K r b
   |none=>fQ K r b)=some u:=h
  have rc:fQ K r b=some u->∃z c,z∈y::r/\PySem.W.tabIn K z=some (c,b)/\u=.iy (bB z):=λq=>
   let ⟨z,c,h1,h2,h3⟩:=bR q
   ⟨z,c,List.mem_cons_of_mem _ h1,h2,h3⟩
  cases e:PySem.W.tabIn K y with
  |none=>rw[e] at h';exact rc h'
  |some p=>
   obtain⟨c,P⟩:=p
   rw[e] at h'
   have h2:(if b=P then some (HO.iy (bB y)) else fQ K r b)=some u:=h'
   by_cases hb:b=P
   ·rw[if_pos hb] at h2
    cases h2
    exact⟨y,c,List.mem_cons_self,by rw[hb];exact e,rfl⟩
   ·rw[if_neg hb] at h2
    exact rc h2
theorem zR{K:PySem.W.Frag}{y:Str}{c P:Addr}(e:PySem.W.tabIn K y=some (c,P)):∀{l:List Str},(∀z∈l,z=y)->y∈l->fQ K l P=some (.iy (bB y))
 | [],_,h=>by cases h
 |z::r,h1,_=>by
  have hz:=h1 z List.mem_cons_self
  subst hz
  show(match PySem.W.tabIn K z with
   |some (_,Q)=>if P=Q then some (HO.iy (bB z)) else fQ K r P
   |none=>fQ K r P)=_
  rw[e]
  exact if_pos rfl
def DR{P:Program}{w:World}{K:PySem.W.Frag}{mg mb:Str->Option Value}{CX:jL}{k:Nat}{fa a:Addr}{fd:FuncData}{x:Str}{sp:Sp}{s₁:Shared}{vs:List Value}{ns:List Int}
 (KX:K.In s₁.heap)(hns:s₁.heap.Ns mainGlobals mg)(hb:s₁.heap.Ns builtinsNs mb)(hbb:∀x:Str,x≠ "__name__" ->mb x=bootBuiltins x)(hlim:s₁.heap.NoLimit)(hg:s₁.gens= #[])
 (ha:s₁.heap.get? a=some {cls:=.type "list",data:=.seq vs.toArray})(hi:IntsAre vs ns)(hl:ns.length<=sizeLine)(hr:ŕ k callerA)
 (F:∀base:Heap,K.In base->base.Ns mainGlobals mg->Ħ P w K mg base CX k fa fd [x] sp)(hbind:∀(s:Shared) (u:Value),BindsTo s fd ⟨[u],[]⟩ [(x,u)])
 (hsp:∀H:Hp,Only H->Ś K H a (ns.map V.int)->sp [.ref a] H (λv _=>v=.bl true) λ_ _ _=>False)
 (YX:∀H e s',CX [] H s₁ (λ_ _ _=>False) e s'->False)
 (hnt:lams≠[]->PySem.W.noTabs K=true)(hone:∀y z,y∈lams->z∈lams->y=z)(htb:∀y c Pt,y∈lams->PySem.W.tabIn K y=some (c,Pt)->PySem.W.CodeHd s₁.heap c Pt/\s₁.heap.get? Pt=some (PySem.W.tabObj #[])/\s₁.heap.BuiltinsAt mg Pt) :
 codeAny (model P w) callerA (.call (.ref fa) ⟨[.ref a],[]⟩) (λr s'=>r=.ok (.ret (.bool true))/\OldK s₁.heap s'.heap/\s'.os=s₁.os/\AllBare s'.gens) s₁:= by
 have rv:=aD hi
 have lenV:=hi.length
 -- from an abstract heap in which nothing but the script may be tracked
 have core:∀H:Hp,Only H->Ś K H a (ns.map V.int)->jo P w H s₁.heap->(∀b,H b≠none->b=a\/∃y c,y∈lams/\PySem.W.tabIn K y=some (c,b))->(H a≠none->K.lookup a=none)->(∀y c Pt,y∈lams->PySem.W.tabIn K y=some (c,Pt)->H Pt=some (.iy (bB y)))->
  codeAny (model P w) callerA (.call (.ref fa) ⟨[.ref a],[]⟩) (λr s'=>r=.ok (.ret (.bool true))/\OldK s₁.heap s'.heap/\s'.os=s₁.os/\AllBare s'.gens) s₁:= by
  intro H hO hS hok hA hK hT
  have mV:∀{b:Addr} {o:Obj},s₁.heap.get? b=some o->H b=none->(pY s₁.heap H).get? b=some o:=λe n=>CV e n
  have YL:∀{b:Addr} {o:Obj} {es:Array DictEntry} {ep:Nat},s₁.heap.get? b=some o->o.data=.dict es ep->H b=none:=fun{b o es ep} e d=>by
   cases q:H b with
   |none=>rfl
   |some u=>
    rcases hA b (by rw[q];simp) with e'|⟨y,c,hy,hty⟩
    ·subst e'
     rw[ha] at e;cases e
     have d':Data.seq vs.toArray _=Data.dict es ep:=d
     cases d'
    ·have e2:=(htb y c b hy hty).2.1
     rw[e] at e2;cases e2;cases d
  have nsK:∀{b:Addr} {m:Str->Option Value},s₁.heap.Ns b m->(pY s₁.heap H).Ns b m:=fun{b m} ⟨o,es,ep,e,d,r⟩=>⟨o,es,ep,mV e (YL e d),d,r⟩
  have hKb:K.In (pY s₁.heap H):=λb o e=>mV (KX b o e) (by
   cases q:H b with
   |none=>rfl
   |some u=>
    rcases hA b (by rw[q];simp) with e'|⟨y,c,hy,hty⟩
    ·subst e'
     rw[hK (by rw[q];simp)] at e;cases e
    ·have e2:=(htb y c b hy hty).2.1
     rw[KX b o e] at e2
     cases e2
     have h2:=List.all_eq_true.mp (hnt (λz=>by rw[z] at hy;cases hy)) (b,_) (PySem.W.mem_of_lookupK e)
     exact absurd (show false=true from h2) Bool.false_ne_true)
  have hM:Mod K mg (pY s₁.heap H):=⟨hKb,nsK hns,⟨mb,nsK hb,hbb⟩,let ⟨mc,h1,h2⟩:=hlim;⟨mc,nsK h1,h2⟩⟩
  have hTB:TabsOk K mg (pY s₁.heap H) H:=λy c Pt hy hty=>by
   obtain⟨⟨o,us,file,tf,flags,tg,inF,text,tt,e1,r1,r2⟩,_,bm,ob,b1,b2,b3,b4,b5,b6,b7⟩:=htb y c Pt hy hty
   refine⟨⟨o,us,file,tf,flags,tg,inF,text,tt,mV e1 ?_,r1,r2⟩,hT y c Pt hy hty,bm,ob,b1,b2,b3,b4,mV b5 ?_,b6,b7⟩
   rotate_left
   ·cases q:H bm with
    |none=>rfl
    |some u=>
     rcases hA bm (by rw[q];simp) with e'|⟨z,c2,hz,htz⟩
     ·rw[e',ha] at b5;cases b5;exact absurd (Value.type.inj b6) (by decide)
     ·have e2:=(htb z c2 bm hz htz).2.1
      rw[b5] at e2;cases e2;cases b6
   cases q:H c with
   |none=>rfl
   |some u=>
    rcases hA c (by rw[q];simp) with e'|⟨z,c2,hz,htz⟩
    ·rw[e',ha] at e1;cases e1;exact absurd (Value.type.inj r1) (by decide)
    ·have e2:=(htb z c2 c hz htz).2.1
     rw[e1] at e2;cases e2;cases r1
  have e0:xJ P w K mg (pY s₁.heap H) callerA [] s₁ H:=⟨rfl,hM,λb o e=>Jj e,Nat.le_of_eq (Bm _ _),trivial,λb hb=>absurd (show b∈([]:List Addr) from hb) (by simp),hok,.of_eq hg,hTB⟩
  refine codeAny_mono ((F _ hKb (nsK hns)).run callerA [] s₁ H ⟨[.ref a],[]⟩ [.ref a] [.ref a] _ _ hr e0 (hbind s₁ (.ref a)) (.cons rfl .nil) (hsp H hO hS)) λr s' h=>?_
  cases r with
  |error e=>exact(YX H e s' h).elim
  |ok fl=>
   cases fl with
   |next=>exact False.elim h
   |brk=>exact False.elim h
   |cont=>exact False.elim h
   |ret u=>
    obtain⟨v,H',os,bare,un,hok',r',q⟩:=h
    have q':v=.bl true:=q
    subst q'
    obtain rfl:u=Value.bool true:=r'
    have old:∀b o,s₁.heap.get? b=some o->(∀t,H b≠some (.iy t))->s'.heap.get? b=some o:=?_
    ·refine⟨rfl,⟨λb o e=>?_,λb o e=>?_⟩,os,bare⟩
     ·by_cases ht:∃t,H b=some (.iy t)
      ·obtain⟨t,ht⟩:=ht
       obtain⟨ps,e1,_⟩:=hok' b _ (un.lU b t ht)
       rcases hA b (by rw[ht];simp) with e'|⟨y,c,hy,hty⟩
       ·subst e'
        obtain⟨ps2,e3,_⟩:=hok b _ ht
        rw[ha] at e3;cases e3
       ·obtain⟨⟨o2,us,file,tf,flags,tg,inF,text,tt,f1,f2,f3,f4,_⟩,e2,_⟩:=htb y c b hy hty
        rw[e] at e2;cases e2
        exact .inr (.inl ⟨⟨c,o2,us,f1,f2,f3,f4⟩,rfl,#[],ps,rfl,by rw[e1];simp⟩)
      ·exact .inl (old b o e λt z=>ht ⟨t,z⟩)
     ·by_cases ht:∃t,H b=some (.iy t)
      ·obtain⟨t,ht⟩:=ht
       obtain⟨ps,e1,_⟩:=hok' b _ (un.lU b t ht)
       exact⟨_,e1⟩
      ·exact⟨o,old b o e λt z=>ht ⟨t,z⟩⟩
    intro b o e nt
    cases q:H b with
    |none=>exact un.keep b o e q (by intro z;exact absurd (show b∈([]:List Addr) from z) (by simp)) (by simp)
    |some u=>
     rcases hO b with z|⟨ob,xs,z⟩|⟨t,z⟩
     ·rw[q] at z;cases z
     rotate_left
     ·exact absurd z (nt t)
     ·have z2:=un.pX b ob _ z
      obtain⟨e1,_⟩:=hok b _ z
      obtain⟨e2,_⟩:=hok' b _ z2
      rw[e] at e1;cases e1
      exact e2
 cases hk:K.lookup a with
 |some o=>
  -- the script is one of the module's own objects
  have e:=KX a o hk
  rw[ha] at e
  cases e
  refine core (fQ K lams) (λb=>?_) (.inr ⟨_,vs.toArray,_,hk,rfl,rfl,rfl,by rw[List.size_toArray,lenV];exact hl,by simpa using rv⟩) (λb u z=>?_) (λb z=>?_) (λz=>?_) λy c Pt hy hty=>zR hty (λz hz=>hone z y hz hy) hy
  ·cases q:fQ K lams b with
   |none=>exact .inl rfl
   |some u=>obtain⟨y,c,_,_,rfl⟩:=bR q;exact .inr (.inr ⟨_,rfl⟩)
  ·obtain⟨y,c,hy,hty,rfl⟩:=bR z
   exact⟨#[],(htb y c b hy hty).2.1,trivial,λpos cv z=>by cases z⟩
  ·cases q:fQ K lams b with
   |none=>exact absurd q z
   |some u=>obtain⟨y,c,hy,hty,_⟩:=bR q;exact .inr ⟨y,c,hy,hty⟩
  ·cases q:fQ K lams a with
   |none=>exact absurd q z
   |some u=>
    obtain⟨y,c,hy,hty,_⟩:=bR q
    have e2:=(htb y c a hy hty).2.1
    rw[ha] at e2;cases e2
 |none=>
  refine core (λb=>if b=a then some (.cO {cls:=.type "list",data:=.seq vs.toArray} (.lst (ns.map V.int))) else fQ K lams b) (λb=>?_) (.inl (.inr ⟨{cls:=.type "list",data:=.seq vs.toArray},if_pos rfl⟩)) (λb u z=>?_) (λb z=>?_) (λ_=>hk) λy c Pt hy hty=>?_
  ·by_cases hb:b=a
   ·exact .inr (.inl ⟨_,_,if_pos hb⟩)
   ·cases q:fQ K lams b with
    |none=>exact .inl ((if_neg hb).trans q)
    |some u=>obtain⟨y,c,_,_,rfl⟩:=bR q;exact .inr (.inr ⟨_,(if_neg hb).trans q⟩)
  ·by_cases hb:b=a
   ·have z':=(if_pos hb).symm.trans z
    cases z'
    subst hb
    exact⟨ha,by rw[List.length_map];exact hl,vs,_,rv,ha⟩
   ·have z':=(if_neg hb).symm.trans z
    obtain⟨y,c,hy,hty,rfl⟩:=bR z'
    exact⟨#[],(htb y c b hy hty).2.1,trivial,λpos cv z=>by cases z⟩
  ·by_cases hb:b=a
   ·exact .inl hb
   ·cases q:fQ K lams b with
    |none=>exact absurd ((if_neg hb).trans q) z
    |some u=>obtain⟨y,c,hy,hty,_⟩:=bR q;exact .inr ⟨y,c,hy,hty⟩
  ·have ne:Pt≠a:=fun z=>by
    subst z
    have e2:=(htb y c _ hy hty).2.1
    rw[ha] at e2;cases e2
   exact(if_neg ne).trans (zR hty (λz hz=>hone z y hz hy) hy)
end L2
namespace L2
open PySem PySem.Spec PyProof.Rows
def JG{p:Program}{loose:List Str}{mean:ExcName->Option Value}{mg mb:Str->Option Value}{h:Heap}{K:PySem.W.Frag}{d:DefRec}{x:Str}{c P:Addr}(T:Top p loose mean mg mb h)(X:K.In h)(hr:(recsOf p).find? (λe=>e.name== x)=some d)(ht:PySem.W.tabIn K x=some (c,P)) :
 PySem.W.CodeHd h c P/\h.get? P=some (PySem.W.tabObj #[])/\h.BuiltinsAt mg P:=by
 obtain⟨h1,h2⟩:=PySem.W.tab_of T X hr ht
 obtain⟨bm,ob,b1,b2,b3,b4,b5,b6⟩:=T.bmain
 have hbP:bm≠P:=λq=>by rw[q,h2] at b3;cases b3;cases b4
 have hbG:bm≠mainGlobals:=λq=>by
  obtain⟨o,es,ep,e,hd,_⟩:=T.g
  rw[q,e] at b3;cases b3;rw[hd] at b6;cases b6
 exact⟨h1,h2,bm,ob,b1,b2,hbG,hbP,b3,b4,b5,b6⟩
def JH{l:PySem.W.OpenLaw}{n k:Nat}{q:Program}{loose:List Str}{XP:(Str->Option Value)->Heap->Prop}{YP:World->Heap->Prop}{d:DefRec}{K:Params->PySem.W.Frag}{CX:World->jL}{sp:World->Sp}{x:Str}
 (hn:l.most=some n)(hn2:n<=sizeLine)(hdf:d.params.defaults=[])(hr:ŕ k callerA)
 (hY:∀(w:World) (h:Heap),YP w h->(K w.params).In h)
 (F:∀(w:World) (mg:Str→Option Value) (fa:Addr) (h:Heap),(K w.params).In h→h.Ns mainGlobals mg→mg d.name=some (.ref fa)→
   ∃fd:FuncData,(∀(s:Shared) (u:Value),BindsTo s fd ⟨[u],[]⟩ [(x,u)])/\
    ∀base:Heap,(K w.params).In base->base.Ns mainGlobals mg->Ħ l.prog w (K w.params) mg base (CX w) k fa fd [x] (sp w))
 (hsp:∀(w:World) (H:Hp) (a:Addr) (ns:List Int),ns.length<=n->Only H->Ś (K w.params) H a (ns.map V.int)->sp w [.ref a] H (λv _=>v=.bl true) λ_ _ _=>False)
 (YX:∀(w:World) (H:Hp) (s:Shared) (e:Value) (s':Shared),CX w [] H s (λ_ _ _=>False) e s'->False)
 (hnt:lams≠[]->∀w:World,PySem.W.noTabs (K w.params)=true:=by intro z;exact absurd rfl z)(hone:∀y z,y∈lams->z∈lams->y=z:=by simp[lams])(hrec:∀y,y∈lams->∃d,(recsOf q).find? (λe=>e.name== y)=some d:=by simp[lams]) :
 PySem.W.WalkO q loose XP YP l.row.toRowW d [] (λf vs=>PySem.call f vs):=by
 refine Att.vm hn hdf λw s₀ s₁ mg mb fa o pm cd doc a vs ns G Y ho hd hcd hmg hobj hints hlen hg=>?_
 have KX:=hY w _ Y
 obtain⟨fd,hb,hF⟩:=F w mg fa _ KX G.T.g hmg
 exact DR KX G.T.g G.T.b G.T.builtins G.T.nolimit hg hobj hints (Nat.le_trans hlen hn2) hr hF hb (λH hO hS=>hsp w H a ns hlen hO hS) (λH e s'=>YX w H s₁ e s') (λz=>hnt z w) hone λy c Pt hy hty=>let ⟨_,hr'⟩:=hrec y hy;JG G.T KX hr' hty
end L2
namespace L2
open PySem PySem.Spec PyProof.Rows
def inClass(s:Stmt)(j:Nat):Stmt:=match s with
 | .ClassDef _ _ _ body _ _ _ _ _ _ _=>body.getD j (.Pass ⟨0,0,0,0⟩)
 |_=>.Pass ⟨0,0,0,0⟩
def aK(s:Stmt):Arguments:=match s with
 | .FunctionDef _ a _ _ _ _ _ _ _ _=>a
 |_=> {posonlyargs:=[],args:=[],vararg:=none,kwonlyargs:=[],kw_defaults:=[],kwarg:=none,defaults:=[]}
def œ(s:Stmt):List Stmt:=match s with
 | .FunctionDef _ _ b _ _ _ _ _ _ _=>b
 |_=>[]
def ć(s:Stmt):Scope:=match s with
 | .FunctionDef _ _ _ _ _ _ sc _ _ _=>sc
 |_=> {kind:=.function,names:=[],isGenerator:=false,isCoroutine:=false}
abbrev Ů:jL:=λ_ _ _ _ _ _=>False
structure DW(K:PySem.W.Frag)(x qual:Str)(st:Stmt)(f:Addr)(fd:FuncData):Prop where
 ex:∃(oc:Value) (od:Option Addr) (kV doc pm:Value) (an:Option Addr) (cdv ct:Value) (osl:Array (Option Value)),
   fd=PySem.W.fnOf x qual (aK st) (œ st) (ć st) .none kV doc pm an cdv ct/\K.lookup f=some ⟨oc,od,.func fd,osl⟩/\PySem.W.codeIn K cdv qual=true
 kp:PySem.W.keepIn K (.ref f)=true
section
variable{P:Program}{w:World}{K:PySem.W.Frag}{mg:Str->Option Value}{base:Heap}
def DW.binds{x qual:Str}{st:Stmt}{f:Addr}{fd:FuncData}{ps:List Str}(F:DW K x qual st f fd)
 (h:∀(kV doc pm:Value) (an:Option Addr) (cdv ct:Value) (us:List Value),us.length=ps.length->bindArgs (PySem.W.fnOf x qual (aK st) (œ st) (ć st) .none kV doc pm an cdv ct) ⟨us,[]⟩=pure (ps.zip us)):Binds K fd ps []:=by
 obtain⟨oc,od,kV,doc,pm,an,cdv,ct,osl,rfl,lk,hcd⟩:=F.ex
 exact .all (h kV doc pm an cdv ct)
def DX{x qual:Str}{st:Stmt}{f:Addr}{oc:Value}{od an:Option Addr}{osl:Array (Option Value)}{kV doc pm cdv ct:Value}(l:K.lookup f=some ⟨oc,od,.func (PySem.W.fnOf x qual (aK st) (œ st) (ć st) .none kV doc pm an cdv ct),osl⟩)
 (c:PySem.W.codeIn K cdv qual=true)(k:PySem.W.keepIn K (.ref f)=true):DW K x qual st f (PySem.W.fnOf x qual (aK st) (œ st) (ć st) .none kV doc pm an cdv ct):=⟨⟨oc,od,kV,doc,pm,an,cdv,ct,osl,rfl,l,c⟩,k⟩
end
section
variable{X:Cx}
def pv(i:Nat){x:Str}{pos:Pos}(hN:X.N[i]?=some x:=by rfl)(hv:wN X.env.scope x:=by first|exact Or.inl rfl|exact Or.inr (Or.inl rfl)|exact Or.inr (Or.inr rfl))(hd:(x== ("__debug__" :Str))=false:=by decide)
 (hcd:(x== ("__classdict__" :Str))=false:=by decide):PE X (.Name x pos) (rQ i):=cB hN hv hd hcd
end
def Same(H H':Hp):Prop:=∀b o,H b=some o->H' b=some o
def Same.refl(H:Hp):Same H H:=λ_ _ h=>h
def Same.trans{H H1 H2:Hp}(a:Same H H1)(b:Same H1 H2):Same H H2:=λc o h=>b c o (a c o h)
def Same.free{H H':Hp}(e:Same H H'){l:Addr}(h:H' l=Option.none):H l=Option.none:=by
 cases q:H l with
 |none=>rfl
 |some o=>
  rw[e l o q] at h
  cases h
def Same.seq{K:PySem.W.Frag}{H H':Hp}{a:Addr}{xs:List V}(e:Same H H')(h:Ś K H a xs):Ś K H' a xs:=by
 rcases h with(h|⟨o,h⟩)|h
 ·exact .inl (.inl (e _ _ h))
 ·exact .inl (.inr ⟨o,e _ _ h⟩)
 ·exact .inr h
end L2
namespace M2
open PySem PySem.Spec PyProof.Rows L2
section
variable{X:Cx}{a b c e:Expr}{ta tb tc te:TE}{pos:Pos}
def PE.wk{t t':TE}(h:PE X e t)(i:∀σ H Q,t' σ H Q->t σ H Q):PE X e t':=λpins s σ H Q I q=>h pins s σ H Q I (i σ H Q q)
def PS.wk{st:Stmt}{t t':TS}(h:PS X st t)(i:∀D σ H,t' D σ H->t D σ H):PS X st t':=λpins s σ H D I q=>h pins s σ H D I (i D σ H q)
def ť.wk{f:Value->Value->Sem Value}{r r':R2}(h:ť X f r)(i:∀x y H Q,r' x y H Q->r x y H Q):ť X f r':=λpins s σ H x y v u Q I rx ry q=>h pins s σ H x y v u Q I rx ry (i x y H Q q)
def Js.wk{f:Value->Sem Value}{r r':V->Hp->VK->Prop}(h:Js X f r)(i:∀x H Q,r' x H Q->r x H Q):Js X f r':=λpins s σ H x v Q I rx q=>h pins s σ H x v Q I rx (i x H Q q)
def ō.wk{f:Value}{r r':List V->Hp->VK->Prop}(h:ō X f r)(i:∀xs H Q,r' xs H Q->r xs H Q):ō X f r':=λpins s σ H xs us Q I r q=>h pins s σ H xs us Q I r (i xs H Q q)
def xK.wk{r r':R2}(h:xK X r)(i:∀x y H Q,r' x y H Q->r x y H Q):xK X r':=λva sl pins s σ H x y v u Q I rx ry q=>h va sl pins s σ H x y v u Q I rx ry (i x y H Q q)
def zP.wk{r r':V->Option Int->Option Int->Hp->VK->Prop}(h:zP X r)(i:∀x lo hi H Q,r' x lo hi H Q->r x lo hi H Q):zP X r':=λpins s σ H x v vl vu lo hi sl Q I rx hs pl pu q=>h pins s σ H x v vl vu lo hi sl Q I rx hs pl pu (i x lo hi H Q q)
def UG(i:Nat):TE:=λσ H Q=>match σ[i]? with
 |some (some v)=>Q v H
 |_=>False
def JK{i:Nat}{σ:L2.St}{H:Hp}{Q:VK}(h:UG i σ H Q):rQ i σ H Q:=by
 unfold UG at h
 split at h
 ·exact⟨_,by assumption,h⟩
 ·exact h.elim
def mv(i:Nat){x:Str}{pos:Pos}(hN:X.N[i]?=some x:=by rfl)(hv:wN X.env.scope x:=by first|exact Or.inl rfl|exact Or.inr (Or.inl rfl)|exact Or.inr (Or.inr rfl))(hd:(x== ("__debug__" :Str))=false:=by decide)
 (hcd:(x== ("__classdict__" :Str))=false:=by decide):PE X (.Name x pos) (UG i):=PE.wk (cB hN hv hd hcd) λ_ _ _ h=>JK h
def YZ(x:V)(k:Bool->Prop):Prop:=match x with
 | .bl c=>k c
 |_=>False
def jR{x:V}{k:Bool->Prop}(h:YZ x k):∃c,x=.bl c/\k c:=by
 cases x with
 |bl c=>exact⟨c,rfl,h⟩
 |_=>exact h.elim
def DY(t:TE):TT:=λσ H Q=>t σ H λx H1=>YZ x λc=>Q c H1
def UJ{op:CmpOp}{r:R2}(ho:ť X (compareOp op) r)(ha:PE X a ta)(hb:PE X b tb)(hm:behindInMarks op b=false):PT X (.Compare a [op] [b] pos) (DY (Jt r ta tb)):=by
 intro pins s σ H Q I h
 refine wpAny_isTrue_Compare1 (ŉ (ha pins s σ H _ I h) λv s1 ⟨x,H1,I1,r1,q1⟩=>ŉ (hb pins s1 σ H1 _ I1 q1) λu s2 ⟨y,H2,I2,r2,q2⟩=>
  ŉ (ho pins s2 σ H2 x y v u _ I2 r1 r2 q2) λc s3 ⟨z,H3,I3,r3,q3⟩=>?_) hm
 obtain⟨k,e,q3⟩:=jR q3
 subst e
 cases r3
 exact wpAny_truthy_bool ⟨H3,I3,q3⟩
def xM(r r':R2)(ta tb tc:TE):TE:=λσ H Q=>ta σ H λx H1=>tb σ H1 λy H2=>r x y H2 λz H3=>YZ z λk=>
 (if k=true then tc σ H3 λw' H4=>r' y w' H4 Q else Q (.bl false) H3)
def D_{op op':CmpOp}{r r':R2}(ho:ť X (compareOp op) r)(ho':ť X (compareOp op') r')(ha:PE X a ta)(hb:PE X b tb)(hc:PE X c tc)
 (hm:lastMarks [op,op'] [b,c]=false:=by with_unfolding_all rfl):PE X (.Compare a [op,op'] [b,c] pos) (xM r r' ta tb tc):=by
 intro pins s σ H Q I h
 refine Compare_chain (ŉ (ha pins s σ H _ I h) λv s1 ⟨x,H1,I1,r1,q1⟩=>chain_link (ŉ (hb pins s1 σ H1 _ I1 q1) λu s2 ⟨y,H2,I2,r2,q2⟩=>
  ŉ (ho pins s2 σ H2 x y v u _ I2 r1 r2 q2) λd s3 ⟨z,H3,I3,r3,q3⟩=>?_)) hm
 obtain⟨k,e,q3⟩:=jR q3
 subst e
 cases r3
 refine wpAny_truthy_bool ?_
 cases k with
 |false=>exact ite_ff ⟨.bl false,H3,I3,rfl,q3⟩
 |true=>exact ite_tt (chain_last (ŉ (hc pins s3 σ H3 _ I3 q3) λw' s4 ⟨z',H4,I4,r4,q4⟩=>ho' pins s4 σ H4 y z' u w' Q I4 r2 r4 q4))
def Ea{op op':CmpOp}{r r':R2}(ho:ť X (compareOp op) r)(ho':ť X (compareOp op') r')(ha:PE X a ta)(hb:PE X b tb)(hc:PE X c tc)
 (hm:lastMarks [op,op'] [b,c]=false:=by with_unfolding_all rfl):PT X (.Compare a [op,op'] [b,c] pos) (DY (xM r r' ta tb tc)):=by
 intro pins s σ H Q I h
 refine isTrue_chain (ŉ (ha pins s σ H _ I h) λv s1 ⟨x,H1,I1,r1,q1⟩=>test_link (ŉ (hb pins s1 σ H1 _ I1 q1) λu s2 ⟨y,H2,I2,r2,q2⟩=>
  ŉ (ho pins s2 σ H2 x y v u _ I2 r1 r2 q2) λd s3 ⟨z,H3,I3,r3,q3⟩=>?_)) hm
 obtain⟨k,e,q3⟩:=jR q3
 subst e
 cases r3
 refine wpAny_truthy_bool ?_
 cases k with
 |false=>exact ite_ff ⟨H3,I3,q3⟩
 |true=>
  refine ite_tt (test_last (ŉ (hc pins s3 σ H3 _ I3 q3) λw' s4 ⟨z',H4,I4,r4,q4⟩=>ŉ (ho' pins s4 σ H4 y z' u w' _ I4 r2 r4 q4) λd' s5 ⟨z2,H5,I5,r5,q5⟩=>?_))
  obtain⟨k2,e2,q5⟩:=jR q5
  subst e2
  cases r5
  exact wpAny_truthy_bool ⟨H5,I5,q5⟩
def Y_(ta tb:TE):TE:=λσ H Q=>ta σ H λx H1=>YZ x λc=>if c=true then tb σ H1 Q else Q (.bl false) H1
def Z_(ta:TE):TE:=λσ H Q=>ta σ H λx H1=>YZ x λc=>Q (.bl (!c)) H1
variable{rest:List Expr}
def UL(ha:PE X a ta)(hb:PE X (.BoolOp .And (b::rest) pos) tb):PE X (.BoolOp .And (a::b::rest) pos) (Y_ ta tb):=by
 intro pins s σ H Q I h
 refine BoolOp_and (ŉ (ha pins s σ H _ I h) λv s1 ⟨x,H1,I1,r1,q1⟩=>?_)
 obtain⟨c,rfl,q1⟩:=jR q1
 cases r1
 refine wpAny_truthy_bool ?_
 cases c with
 |true=>exact hb pins s1 σ H1 Q I1 q1
 |false=>exact⟨.bl false,H1,I1,rfl,q1⟩
def UW(ha:PE X a ta):PE X (.UnaryOp .Not a pos) (Z_ ta):=by
 intro pins s σ H Q I h
 refine UnaryOp_ (ŉ (ha pins s σ H _ I h) λv s1 ⟨x,H1,I1,r1,q1⟩=>?_)
 obtain⟨c,rfl,q1⟩:=jR q1
 cases r1
 exact not_of (wpAny_truthy_bool ⟨.bl (!c),H1,I1,rfl,q1⟩)
def mI(C:Int->Int->Prop)(g:Int->Int->V):R2:=λx y H Q=>match x,y with
 | .int i,.int j=>C i j/\Q (g i j) H
 |_,_=>False
def BX(g:Int->Int->V):R2:=λx y H Q=>match x,y with
 | .int i,.int j=>Q (g i j) H
 |_,_=>False
def qH{C:Int->Int->Prop}{g:Int->Int->V}(x y:V)(H:Hp)(Q:VK)(h:mI C g x y H Q):rI C g x y H Q:=by
 cases x with
 |int i=>
  cases y with
  |int j=>exact⟨i,j,rfl,rfl,h.1,h.2⟩
  |_=>exact h.elim
 |_=>exact h.elim
def nq{g:Int->Int->V}(x y:V)(H:Hp)(Q:VK)(h:BX g x y H Q):Ju g x y H Q:=by
 cases x with
 |int i=>
  cases y with
  |int j=>exact⟨i,j,rfl,rfl,h⟩
  |_=>exact h.elim
 |_=>exact h.elim
def Zaa:R2:=λx y H Q=>match x,y with
 | .int i,.int j=>Q (.int (i+j)) H
 | .str i,.str j=>i.length+j.length<=sizeLine/\Q (.str (i++j)) H
 |_,_=>False
def U_:ť X (binaryOp .Add) Zaa:=ť.wk (Uj.or wZ) λx y H Q h=>by
 cases x with
 |int i=>
  cases y with
  |int j=>exact .inl ⟨i,j,rfl,rfl,h⟩
  |_=>exact h.elim
 |str i=>
  cases y with
  |str j=>exact .inr ⟨i,j,rfl,rfl,h.1,h.2⟩
  |_=>exact h.elim
 |_=>exact h.elim
def Va:ť X (binaryOp .Sub) (BX λi j=>.int (i-j)):=ť.wk Uk nq
def qI(i j:Int):Prop:=Ui i j\/(Builtin.Int.intBits i<=1048576/\Builtin.Int.intBits j<=1048576)
theorem qI.ok{i j:Int}(h:qI i j):IntMulOk i j:=by
 rcases h with h|⟨h1,h2⟩
 ·exact h.ok
 ·exact IntMulOk.of_le h1 h2 (by decide)
def Vb:ť X (binaryOp .Mult) (mI qI λi j=>.int (i*j)):=ť.wk (zN (C:=qI) (g:=λi j=>i*j) λ_ _ _ _ _ _ _ hc q=>mul_int q hc.ok) qH
def BZ(_ j:Int):Prop:=j≠0/\Builtin.Int.intBits j<=8000
def BZ.py{i j:Int}(h:BZ i j):Builtin.divisionGoesByPylong i j=false:=by
 refine PyProof.noPylong_of_log2 ?_
 have hb:=intBits_le_iff.mp h.2
 have h0:j.natAbs≠0:=by have:=h.1;omega
 exact Nat.lt_of_lt_of_le ((Nat.log2_lt h0).mpr hb) (by decide)
def JL:ť X (binaryOp .FloorDiv) (mI BZ λi j=>.int (i.fdiv j)):=ť.wk (zN (C:=BZ) (g:=λi j=>i.fdiv j) λ_ _ _ _ _ _ _ hc q=>floordiv_int hc.1 q (.inl hc.py)) qH
def Vc:ť X (binaryOp .Mod) (mI (λ_ j=>j≠0) λi j=>.int (i.fmod j)):=ť.wk Jv qH
def nu:ť X (binaryOp .Pow) (mI Bu λi j=>.int (i ^ j.toNat)):=ť.wk Ul qH
def fU:ť X (compareOp .Lt) (BX λi j=>.bl (decide (i<j))):=ť.wk YG nq
def eG:ť X (compareOp .LtE) (BX λi j=>.bl (decide (i<=j))):=ť.wk YH nq
def Mh:ť X (compareOp .Gt) (BX λi j=>.bl (decide (j<i))):=ť.wk YJ nq
def mU(g:Int->V):V->Hp->VK->Prop:=λx H Q=>match x with
 | .int i=>Q (g i) H
 |_=>False
def aF:Js X (unaryOp .USub) (mU λi=>.int (-i)):=Js.wk Ur λx H Q h=>by
 cases x with
 |int i=>exact⟨i,rfl,h⟩
 |_=>exact h.elim
def Eb:List V->Hp->VK->Prop:=λxs H Q=>match xs with
 | [.int i,.int j]=>Q (.int (if j<i then j else i)) H
 |_=>False
def sJ(hc:X.calm=true):ō X (.builtin "min") Eb:=ō.wk (Bw hc) λxs H Q h=>by
 unfold Eb at h
 split at h
 ·exact⟨_,_,rfl,h⟩
 ·exact h.elim
def Ec:List V->Hp->VK->Prop:=λxs H Q=>match xs with
 | [.int i,.int j]=>Q (.int (if j>i then j else i)) H
 |_=>False
def JM(hc:X.calm=true):ō X (.builtin "max") Ec:=ō.wk (Bv hc) λxs H Q h=>by
 unfold Ec at h
 split at h
 ·exact⟨_,_,rfl,h⟩
 ·exact h.elim
def Vd(K:PySem.W.Frag):List V->Hp->VK->Prop:=λxs H Q=>match xs with
 | [.str y]=>y.length<=sizeLine/\Q (.int (y.length:Int)) H
 | [.ref p]=>∃ys,(Ś K H p ys\/dD K H p ys)/\Q (.int (ys.length:Int)) H
 |_=>False
def ů:ō X (.builtin "len") (Vd X.K):=ō.wk Dt λxs H Q h=>by
 unfold Vd at h
 split at h
 ·exact⟨_,_,rfl,⟨h.1,rfl⟩,h.2⟩
 ·obtain⟨ys,h1,h2⟩:=h
  refine⟨_,ys.length,rfl,?_,h2⟩
  rcases h1 with h1|h1
  ·exact .inl ⟨ys,h1,rfl⟩
  ·exact .inr ⟨ys,h1,rfl⟩
 ·exact h.elim
def mIx(K:PySem.W.Frag):R2:=λx y H Q=>match x,y with
 | .ref p,.int i=>∃xs v,(Ś K H p xs\/dD K H p xs)/\lA xs i=some v/\Q v H
 | .str z,.int i=>∃c,z.length<=sizeLine/\lA z.cps.toList i=some c/\Q (.str ⟨#[c]⟩) H
 |_,_=>False
def Zab:xK X (mIx X.K):=xK.wk sE λx y H Q h=>by
 cases x with
 |ref p=>
  cases y with
  |int i=>
   obtain⟨xs,v,h1,h2,h3⟩:=h
   rcases h1 with h1|h1
   ·exact .inl ⟨p,xs,i,v,rfl,rfl,h1,h2,h3⟩
   ·exact .inr (.inl ⟨p,xs,i,v,rfl,rfl,h1,h2,h3⟩)
  |_=>exact h.elim
 |str z=>
  cases y with
  |int i=>
   obtain⟨c,h1,h2,h3⟩:=h
   exact .inr (.inr ⟨z,i,c,rfl,rfl,h1,h2,h3⟩)
  |_=>exact h.elim
 |_=>exact h.elim
def iOf(x:V)(k:Int->Prop):Prop:=match x with
 | .int i=>k i
 |_=>False
def Zac(t:TE):TO:=λσ H Q=>t σ H λx H1=>iOf x λi=>Q (some i) H1
def Ed(h:PE X e te):PO X (some e) (Zac te):=by
 intro pins s σ H Q I hw
 rw[evalPart_some]
 refine ŉ (h pins s σ H _ I hw) λu s1 ⟨x,H1,I1,r1,q1⟩=>?_
 cases x with
 |int i=>
  obtain⟨t,rfl⟩:=r1
  exact⟨some i,H1,I1,.int i t,q1⟩
 |_=>exact q1.elim
def Zcv(K:PySem.W.Frag):V->Option Int->Option Int->Hp->VK->Prop:=λx lo hi H Q=>match x with
 | .ref a=>∃xs,Ś K H a xs/\∀p,H p=none->Q (.ref p) (upd H p (.lst (vg xs lo hi)))
 |_=>False
def Ef:zP X (Zcv X.K):=zP.wk JF λx lo hi H Q h=>by
 cases x with
 |ref a=>
  obtain⟨xs,h1,h2⟩:=h
  exact⟨a,xs,rfl,h1,h2⟩
 |_=>exact h.elim
end
end M2
namespace M2
open PySem PySem.Spec PyProof.Rows L2
section
variable{X:Cx}{tg:Expr}
end
mutual
def Rp(K:PySem.W.Frag)(H:Hp):PyData->V->Prop
 | .none,v=>v=.non
 | .bool b,v=>v=.bl b
 | .int i,v=>v=.int i
 | .str x,v=>v=.str x
 | .tuple ds,v=>∃a xs,v=.ref a/\dD K H a xs/\jT K H ds xs
 | .list ds,v=>∃a xs,v=.ref a/\Ś K H a xs/\jT K H ds xs
 | .dict _,_=>False
def jT(K:PySem.W.Frag)(H:Hp):List PyData->List V->Prop
 | [],xs=>xs=[]
 |d::ds,xs=>∃x r,xs=x::r/\Rp K H d x/\jT K H ds r
end
def Same.tup{K:PySem.W.Frag}{H H':Hp}{a:Addr}{xs:List V}(e:Same H H')(h:dD K H a xs):dD K H' a xs:=by
 rcases h with(h|⟨o,h⟩)|h
 ·exact .inl (.inl (e _ _ h))
 ·exact .inl (.inr ⟨o,e _ _ h⟩)
 ·exact .inr h
theorem Same.upd{H:Hp}{p:Addr}{o:HO}(h:H p=none):Same H (upd H p o):=λb u e=>by
 rw[Ė (Ģ e h)]
 exact e
mutual
theorem Rp.same{K:PySem.W.Frag}{H H':Hp}(e:Same H H'):∀(d:PyData) (v:V),Rp K H d v->Rp K H' d v
 | .none,_,h=>by unfold Rp at h ⊢;exact h
 | .bool _,_,h=>by unfold Rp at h ⊢;exact h
 | .int _,_,h=>by unfold Rp at h ⊢;exact h
 | .str _,_,h=>by unfold Rp at h ⊢;exact h
 | .tuple ds,_,h=>by
   unfold Rp at h ⊢
   obtain⟨a,xs,h1,h2,h3⟩:=h
   exact⟨a,xs,h1,Same.tup e h2,jT.same e ds xs h3⟩
 | .list ds,_,h=>by
   unfold Rp at h ⊢
   obtain⟨a,xs,h1,h2,h3⟩:=h
   exact⟨a,xs,h1,e.seq h2,jT.same e ds xs h3⟩
 | .dict _,_,h=>by unfold Rp at h;exact h.elim
theorem jT.same{K:PySem.W.Frag}{H H':Hp}(e:Same H H'):∀(ds:List PyData) (xs:List V),jT K H ds xs->jT K H' ds xs
 | [],_,h=>by unfold jT at h ⊢;exact h
 |d::ds,_,h=>by
  unfold jT at h ⊢
  obtain⟨x,r,h1,h2,h3⟩:=h
  exact⟨x,r,h1,Rp.same e d x h2,jT.same e ds r h3⟩
end
section
variable{X:Cx}{pins:List (Addr×Obj)}{σ:L2.St}{H:Hp}{s:Shared}
mutual
theorem Rp.reads(I:Inv X pins σ H s):∀(d:PyData) (v:V) (u:Value),Rp X.K H d v->RelV v u->∃as,Reads s.heap u d as
 | .none,v,u,h,r=>by
   unfold Rp at h;subst h;cases r;exact⟨_,.none⟩
 | .bool b,v,u,h,r=>by
   unfold Rp at h;subst h;cases r;exact⟨_,.bool b⟩
 | .int i,v,u,h,r=>by
   unfold Rp at h;subst h;obtain⟨t,rfl⟩:=r;exact⟨_,.int i t⟩
 | .str x,v,u,h,r=>by
   unfold Rp at h;subst h;obtain⟨t,rfl⟩:=r;exact⟨_,.str x t⟩
 | .tuple ds,v,u,h,r=>by
   unfold Rp at h
   obtain⟨a,xs,h1,h2,h3⟩:=h
   subst h1
   cases r
   obtain⟨its,rv,⟨o,e,hc,n,hd⟩,hz⟩:=I.tuple h2
   obtain⟨as,ra⟩:=jT.reads I ds xs its h3 rv
   exact⟨_,.tuple e hc hd (by simpa using ra)⟩
 | .list ds,v,u,h,r=>by
   unfold Rp at h
   obtain⟨a,xs,h1,h2,h3⟩:=h
   subst h1
   cases r
   obtain⟨its,rv,⟨o,n,e,hc,hdd,hd⟩,hz⟩:=I.list h2
   obtain⟨as,ra⟩:=jT.reads I ds xs its h3 rv
   exact⟨_,.list e hc hd (by simpa using ra)⟩
 | .dict _,_,_,h,_=>by unfold Rp at h;exact h.elim
theorem jT.reads(I:Inv X pins σ H s):∀(ds:List PyData) (xs:List V) (us:List Value),jT X.K H ds xs->Vals xs us->∃as,ReadsAll s.heap us ds as
 | [],xs,us,h,r=>by
   unfold jT at h;subst h;cases r;exact⟨_,.nil⟩
 |d::ds,xs,us,h,r=>by
  unfold jT at h
  obtain⟨x,q,h1,h2,h3⟩:=h
  subst h1
  cases r with
  |cons r1 r2=>
   obtain⟨as,ra⟩:=Rp.reads I d x _ h2 r1
   obtain⟨bs,rb⟩:=jT.reads I ds q _ h3 r2
   exact⟨_,.cons ra rb⟩
end
end
def JN(K:PySem.W.Frag)(neg:Bool):R2:=λx y H Q=>∃d e,Rp K H d x/\Rp K H e y/\d.canLay0=true/\e.canLay0=true/\min d.depth e.depth<=60/\Q (.bl (if neg then !PyData.eqv d e else PyData.eqv d e)) H
section
variable{X:Cx}
def Eh(hu:X.A.units+64<cLine):ť X (compareOp .Eq) (JN X.K false):=by
 intro pins s σ H x y v u Q I rx ry h
 obtain⟨d,e,h1,h2,h3,h4,h5,q⟩:=h
 obtain⟨as,ra⟩:=Rp.reads I d x v h1 rx
 obtain⟨bs,rb⟩:=Rp.reads I e y u h2 ry
 exact SeqAt.compareEq_reads ra rb h3 h4 (by omega) ⟨.bl _,H,I,rfl,q⟩
def Ei(hu:X.A.units+64<cLine):ť X (compareOp .NotEq) (JN X.K true):=by
 intro pins s σ H x y v u Q I rx ry h
 obtain⟨d,e,h1,h2,h3,h4,h5,q⟩:=h
 obtain⟨as,ra⟩:=Rp.reads I d x v h1 rx
 obtain⟨bs,rb⟩:=Rp.reads I e y u h2 ry
 exact SeqAt.compareNe_reads ra rb h3 h4 (by omega) ⟨.bl _,H,I,rfl,q⟩
end
section
variable{K:PySem.W.Frag}
end
end M2
namespace M3
open PySem PySem.Spec PyProof.Rows L2 M2
def zT{P:Program}{w:World}{H:Hp}{h h':Heap}{C:Addr}(x:jo P w H h)(hC:H C=none)(k:∀b u,b≠C->h.get? b=some u->h'.get? b=some u):jo P w H h':=λa o e=>
 (x a o e).stay (fun b u hb q=>k b u (by
   rcases hb with hb|hb
   ·rw[hb];exact Ģ e hC
   ·exact Ģ hb hC) q) (λ_ q=>q) λ_ _ q=>q
theorem jc{env:Env}:∀(ns:List (Str×NameKind)) (cs:List (Str×Addr)),(∀y∈ns,y.2=.free->∃c,env.cells.lookup y.1=some c)->(∀x c,cs.lookup x=some c->env.cells.lookup x=some c)->
 ∃cl,(forIn ns cs (λ(x:Str×NameKind) r=>if(x.2== .free)=true then(do let c <-cellOf env x.1;pure (ForInStep.yield ((x.1,c)::r))) else pure (ForInStep.yield r)):Sem (List (Str×Addr)))=pure cl/\
  (∀x c,cl.lookup x=some c->env.cells.lookup x=some c)/\(∀x,(∃c,cs.lookup x=some c)->∃c,cl.lookup x=some c)/\∀y∈ns,y.2=.free->∃c,cl.lookup y.1=some c
 | [],cs,_,h2=>⟨cs,rfl,h2,λ_ z=>z,λ_ z=>nomatch z⟩
 |(n,k)::ns,cs,h1,h2=>by
  by_cases hk:k=.free
  ·subst hk
   obtain⟨c,hc⟩:=h1 (n,.free) List.mem_cons_self rfl
   have e:cellOf env n=pure c:=by unfold cellOf;rw[hc]
   have h2':∀x d,((n,c)::cs).lookup x=some d->env.cells.lookup x=some d:=λx d q=>by
    rw[List.lookup_cons] at q
    cases hx:x== n with
    |true=>
     rw[hx] at q
     have:x=n:=eq_of_beq hx
     subst this
     cases q
     exact hc
    |false=>
     rw[hx] at q
     exact h2 x d q
   obtain⟨cl,q1,q2,q3,q4⟩:=jc ns ((n,c)::cs) (λy hy=>h1 y (List.mem_cons_of_mem _ hy)) h2'
   refine⟨cl,?_,q2,λx ⟨d,hd⟩=>q3 x ?_,λy hy hf=>?_⟩
   ·rw[List.forIn_cons]
    simp only[beq_self_eq_true,if_true,e,pure_bind]
    exact q1
   ·rw[List.lookup_cons]
    cases hx:x== n with
    |true=>exact⟨c,rfl⟩
    |false=>exact⟨d,hd⟩
   ·rcases List.mem_cons.mp hy with rfl|hy
    ·exact q3 n ⟨c,by rw[List.lookup_cons,beq_self_eq_true]⟩
    ·exact q4 y hy hf
  ·have hb:(k== NameKind.free)=false:=by simpa using hk
   obtain⟨cl,q1,q2,q3,q4⟩:=jc ns cs (λy hy=>h1 y (List.mem_cons_of_mem _ hy)) h2
   refine⟨cl,?_,q2,q3,λy hy hf=>?_⟩
   ·rw[List.forIn_cons]
    simp only[hb,Bool.false_eq_true,if_false,pure_bind]
    exact q1
   ·rcases List.mem_cons.mp hy with rfl|hy
    ·exact absurd hf hk
    ·exact q4 y hy hf
def dH{scope:Scope}{env:Env}(h:∀y∈scope.names,y.2=.free->∃c,env.cells.lookup y.1=some c) :
 ∃cl,closureFor scope env=pure cl/\(∀x c,cl.lookup x=some c->env.cells.lookup x=some c)/\∀y∈scope.names,y.2=.free->∃c,cl.lookup y.1=some c:=by
 obtain⟨cl,q1,q2,_,q4⟩:=jc (env:=env) scope.names [] h (λx c z=>by simp at z)
 refine⟨cl,?_,q2,q4⟩
 unfold closureFor
 have e:(forIn scope.names [] (λ(x:Str×NameKind) (r:List (Str×Addr))=>match x with
  |(name,kind)=>if(kind== .free)=true then(do let a <-cellOf env name;pure (ForInStep.yield ((name,a)::r))) else pure (ForInStep.yield r)):Sem (List (Str×Addr)))=pure cl:=q1
 first
  |(simp only[bind_pure];exact q1)
  |(rw[show ∀(t:Sem (List (Str×Addr))),(do let r <-t;pure r)=t from λt=>by simp];exact q1)
  |(simp only[q1,pure_bind])
def cD(X:Cx)(N':List Str)(scope:Scope)(cl:List (Str×Addr))(C:Addr)(s:Shared)(H:Hp)(fp:List Addr):Cx where
 prog:=X.prog
 w:=X.w
 K:=X.K
 mg:=X.mg
 base:=X.base
 A:=X.A
 N:=N'
 s₀:= s
 H₀:= H
 env:=compEnvC scope cl C X.env
 outer:=X.stack
 stack:=X.stack
 ex:=fp
 fn:=λx=>scope.names.lookup x== some .cell
 calm:=X.calm
 pn:=[]
 xe:=λ_ _=>False
def cT(X:Cx)(sc scope:Scope):List Str->List Nat->Prop
 |x::xs,j::js=>X.N[j]?=some x/\(scope.names.lookup x=some .free/\(sc.names.lookup x=some .cell\/sc.names.lookup x=some .free))/\cT X sc scope xs js
 |_,[]=>True
 | [],_::_=>False
def cU(js:List Nat)(nl:Nat)(σ:L2.St):L2.St:=js.map (λj:Nat=>(σ[j]?).getD none)++List.replicate nl none
theorem jU{X:Cx}{sc scope:Scope}{σ:L2.St}{nl:Nat}:∀{N':List Str} {js:List Nat} {i:Nat} {x:Str} {v:V},cT X sc scope N' js->N'[i]?=some x->(cU js nl σ)[i]?=some (some v)->
 ∃j:Nat,X.N[j]?=some x/\σ[j]?=some (some v)/\scope.names.lookup x=some .free/\(sc.names.lookup x=some .cell\/sc.names.lookup x=some .free)
 |N',[],i,x,v,_,_,h=>by
  unfold cU at h
  rw[List.map_nil,List.nil_append,List.getElem?_replicate] at h
  split at h<;>cases h
 | [],_::_,_,_,_,c,_,_=>c.elim
 |y::N',j::js,0,x,v,c,h1,h2=>by
  obtain⟨c1,c2,_⟩:=c
  simp at h1
  subst h1
  have e:(σ[j]?).getD none=some v:=by simpa[cU] using h2
  refine⟨j,c1,?_,c2⟩
  cases q:σ[j]? with
  |none=>rw[q] at e;cases e
  |some o=>rw[q] at e;exact congrArg some e
 |y::N',j::js,i+1,x,v,c,h1,h2=>by
  exact jU (N':=N') (js:=js) (i:=i) c.2.2 (by simpa using h1) (by simpa[cU] using h2)
section
variable{prog:Program}{w:World}{A:Around}{R:Result->Shared->Prop}{s:Shared}
def jw{elt target iter:Expr}{ifs:List Expr}{scope:Scope}{pos:Pos}{it acc:Value}{env:Env}(I:Nat->Shared->Prop)
 (turn:∀n s,I n s→wpAny (model prog w) A (pyNext it) (fun r s₁=>match r with
   |none=>R (.ok .next) s₁
   |some v=>wpAny (model prog w) A (letOwnedTupleGo target it v) (fun _ s₁'=>wpAny (model prog w) A (assign target env v) (fun _ s₂=>
     wpAny (model prog w) A (forIn ifs true λc r=>if r=true then do let ok <-isTrue c env (eval c env);pure (ForInStep.yield ok) else pure (ForInStep.yield r)) (λok s₃=>
      if ok=true then wpAny (model prog w) A (eval elt env) (λx s₄=>
       wpAny (model prog w) A (call (.builtin "list.append") [acc,x]) (λ_ s₅=>∃m,m<n/\I m s₅) (λ_ _=>False) s₄) (λ_ _=>False) s₃
      else ∃m,m<n/\I m s₃) (λ_ _=>False) s₂) (λ_ _=>False) s₁') (λ_ _=>False) s₁) (λ_ _=>False) s)
 (n:Nat)(h:I n s) :
 codeAny (model prog w) A (.compLoop (.ListComp elt [⟨target,iter,ifs,0⟩] scope pos) 0 it acc env) R s:=by
 refine codeAny_loop rfl I (λn s hI=>?_) n h
 show wpAny _ A ((compTurn (.ListComp elt [⟨target,iter,ifs,0⟩] scope pos) 0 it acc env).onRaise (λx=>do noteFrame x env;theTreesLotGoes x)) _ _ s
 refine wpAny_noted (wpAny_noRaise ?_)
 rw[compTurn_list]
 refine wpAny_bind (wpAny_standAt (wpAny_bind (wpAny_mono (turn n s hI) (λr s₁ h₁=>?_) λ_ _ h'=>h')))
 cases r with
 |none=>exact wpAny_pure h₁
 |some v=>
  refine wpAny_bind (wpAny_mono h₁ (λ_ s₁' h₁'=>?_) λ_ _ h'=>h')
  refine wpAny_bind (wpAny_mono h₁' (λ_ s₂ h₂=>wpAny_bind (wpAny_mono h₂ (λok s₃ h₃=>?_) λ_ _ h'=>h')) λ_ _ h'=>h')
  cases ok with
  |false=>exact wpAny_pure ⟨rfl,h₃⟩
  |true=>
   exact wpAny_bind (wpAny_bind (wpAny_mono h₃ (λx s₄ h₄=>wpAny_bind (wpAny_mono h₄ (λ_ s₅ h₅=>wpAny_pure (wpAny_pure ⟨rfl,h₅⟩)) λ_ _ h'=>h')) λ_ _ h'=>h'))
end
def CJ(X:Cx)(ifs:List Expr)(t:TT):Prop:=
 ∀(pins:List (Addr×Obj)) (s:Shared) (σ:L2.St) (H:Hp) (Q:Bool->Hp->Prop),Inv X pins σ H s->t σ H Q->
  wpAny (model X.prog X.w) X.A (forIn ifs true λc r=>if r=true then do let ok <-isTrue c X.env (eval c X.env);pure (ForInStep.yield ok) else pure (ForInStep.yield r)) (TP X pins σ Q) X.xe s
def Zcw:TT:=λ_ H Q=>Q true H
def JQ{X:Cx}:CJ X [] Zcw:=λ_ _ _ H _ I h=>wpAny_tests_nil ⟨H,I,h⟩
def JR{X:Cx}{c:Expr}{t:TT}(h:PT X c t):CJ X [c] t:=λpins s σ H Q I hw=>wpAny_tests_one (h pins s σ H Q I hw)
def Ej(js:List Nat)(nl:Nat)(wi:TI)(g:TG)(tt:TT)(te:TE):TE:=λσ H Q=>wi σ H λJ H1=>∀D,H1 D=none->
 ∃W:Nat->Nat->L2.St->Hp->Prop,(∃m,W 0 m (cU js nl σ) (upd H1 D (.lst [])))/\∀i m σ' H',W i m σ' H'->
  (J.stop i H'∧Q (.ref D) H')∨(J.go i H'∧∃N:L2.St→Hp→Prop,(∀σ2 H2,N σ2 H2→∃m',m'<m∧W (i+1) m' σ2 H2)∧∀x H2,J.yld i H' x H2→g x σ' H2 fun σ2 H3=>tt σ2 H3 fun c H4=>
    if c=true then te σ2 H4 λy H5=>∃ys,H5 D=some (.lst ys)/\ys.length<sizeLine/\N σ2 (upd H5 D (.lst (ys ++ [y]))) else N σ2 H4)
section
variable{X:Cx}{elt tg iter:Expr}{ifs:List Expr}{scope:Scope}{pos:Pos}{wi:TI}{g:TG}{tt:TT}{te:TE}
theorem dI{env:Env}:∀{names:List (Str×NameKind)} {x:Str} {k:NameKind},(k=.cell\/k=.free)->
 (names.map λ(n,k)=>if(k== NameKind.free && env.scope.kind== .function && env.kindOf n== some .cell) then(n,NameKind.cell) else(n,k)).lookup x=some k->(x,NameKind.free)∈names\/(x,NameKind.cell)∈names
 | [],x,k,_,h=>by simp at h
 |(n,q)::r,x,k,hk,h=>by
  have ih:=@dI env r x k hk
  rw[List.map_cons] at h
  by_cases hx:x=n
  ·subst hx
   by_cases hf:q=.free
   ·subst hf
    exact .inl List.mem_cons_self
   ·have hb:(q== NameKind.free)=false:=by simpa using hf
    have e:(if(q== NameKind.free && env.scope.kind== .function && env.kindOf x== some .cell)=true then(x,NameKind.cell) else(x,q))=(x,q):=by
     rw[hb];rfl
    have h2:=h
    simp only[e,List.lookup_cons,beq_self_eq_true] at h2
    have:q=k:=Option.some.inj h2
    rcases hk with hk|hk
    ·rw[this,hk]
     exact .inr List.mem_cons_self
    ·exact absurd (this.trans hk) hf
  ·have hn:(x== n)=false:=by simpa using hx
   have h3:(x,NameKind.free)∈r\/(x,NameKind.cell)∈r:=ih (by
    by_cases c:(q== NameKind.free && env.scope.kind== .function && env.kindOf n== some .cell)=true
    ·simp only[c,if_true,List.lookup_cons,hn] at h
     exact h
    ·simp only[c,if_false,Bool.false_eq_true,List.lookup_cons,hn] at h
     exact h)
   rcases h3 with h3|h3
   ·exact .inl (List.mem_cons_of_mem _ h3)
   ·exact .inr (List.mem_cons_of_mem _ h3)
theorem ŗ:∀(names:List (Str×NameKind)) (n:Nat) (acc:List (Str×Addr)),cellsFrom n names acc=cellsFrom n names []++acc
 | [],_,_=>rfl
 |(x,k)::r,n,acc=>by
  unfold cellsFrom
  split
  ·rw[ŗ r (n+1) ((x,n)::acc),ŗ r (n+1) [(x,n)],List.append_assoc]
   rfl
  ·exact ŗ r n acc
theorem dJ:∀(names:List (Str×NameKind)) (n:Nat) {x:Str} {c:Addr},(x,c)∈cellsFrom n names []->(x,NameKind.cell)∈names
 | [],_,_,_,h=>by simp[cellsFrom] at h
 |(y,k)::r,n,x,c,h=>by
  unfold cellsFrom at h
  split at h
  ·rename_i hk
   rw[ŗ r (n+1) [(y,n)]] at h
   rcases List.mem_append.mp h with h|h
   ·exact List.mem_cons_of_mem _ (dJ r _ h)
   ·have e:(x,c)=(y,n):=by simpa using h
    cases e
    rw[beq_iff_eq.mp hk]
    exact List.mem_cons_self
  ·exact List.mem_cons_of_mem _ (dJ r _ h)
structure Blk(X:Cx)(scope:Scope)(n:Nat)(h:Heap)(cl:List (Str×Addr)):Prop where
 at_:∀x c,cl.lookup x=some c->(X.env.cells.lookup x=some c/\scope.names.lookup x≠some .cell)\/(n<c/\h.IsCell c none/\scope.names.lookup x=some .cell)
 inj:∀x y c,cl.lookup x=some c->cl.lookup y=some c->n<c->x=y
 has:∀x,((x,NameKind.free)∈scope.names\/(x,NameKind.cell)∈scope.names)->∃c,cl.lookup x=some c
def Ek{X:Cx}{scope:Scope}{n:Nat}{h:Heap}{cl:List (Str×Addr)}(hcell:∀y∈scope.names,y.2=.cell->scope.names.lookup y.1=some .cell)
 (h1:∀x c,cl.lookup x=some c->X.env.cells.lookup x=some c)(h2:∀y∈scope.names,y.2=.free->∃c,cl.lookup y.1=some c)(hlt:∀x c,X.env.cells.lookup x=some c->c<n)
 (ok:CellsOk h (n+1) (cellsFrom (n+1) scope.names [])):Blk X scope n h (cellsFrom (n+1) scope.names cl):=by
 have sp:∀x c,(cellsFrom (n+1) scope.names cl).lookup x=some c->(cl.lookup x=some c/\(cellsFrom (n+1) scope.names []).lookup x=none)\/(cellsFrom (n+1) scope.names []).lookup x=some c:=λx c e=>by
  rw[ŗ,List.lookup_append] at e
  cases q:(cellsFrom (n+1) scope.names []).lookup x with
  |none=>rw[q] at e;exact .inl ⟨by simpa using e,rfl⟩
  |some d=>rw[q] at e;exact .inr (by simpa using e)
 refine⟨λx c e=>?_,λx y c e1 e2 hc=>?_,λx hx=>?_⟩
 ·rcases sp x c e with⟨e,q⟩|e
  ·refine .inl ⟨h1 x c e,λz=>?_⟩
   obtain⟨d,hd⟩:=jt (sc:=scope) (n:=n+1) z
   rw[hd] at q
   cases q
  ·have m:=mem_of_lookup e
   exact .inr ⟨(ok.empty x c m).2,(ok.empty x c m).1,hcell _ (dJ _ _ m) rfl⟩
 ·have nw:∀z,(cellsFrom (n+1) scope.names cl).lookup z=some c→(cellsFrom (n+1) scope.names []).lookup z=some c:=fun z e=>by
   rcases sp z c e with⟨e,q⟩|e
   ·exact absurd (hlt z c (h1 z c e)) (Nat.lt_asymm hc)
   ·exact e
  exact name_of_addr ok.apart (mem_of_lookup (nw x e1)) (mem_of_lookup (nw y e2))
 ·rw[ŗ,List.lookup_append]
  rcases hx with hx|hx
  ·obtain⟨c,hc⟩:=h2 _ hx rfl
   cases q:(cellsFrom (n+1) scope.names []).lookup x with
   |none=>exact⟨c,by simpa using hc⟩
   |some d=>exact⟨d,rfl⟩
  ·obtain⟨d,hd⟩:=jt (sc:=scope) (n:=n+1) (hcell _ hx rfl)
   rw[hd]
   exact⟨d,rfl⟩
def iC{M:Model}{A:Around}{E:Value->Shared->Prop}{s:Shared}{scope:Scope}{globals:Addr}{closure:List (Str×Addr)}{qual:Str}
 {func:Option Addr}{code:Value}{env0:Env}{builtins:Addr}{Q:Env->Shared->Prop}
 (hQ:∀h',h'.Ns s.heap.objs.size (fun _=>none)→(∀b o,s.heap.get? b=some o→h'.get? b=some o)→CellsOk h' (s.heap.objs.size+1) (cellsFrom (s.heap.objs.size+1) scope.names [])→
   Q (newEnv scope s.heap.objs.size globals (cellsFrom (s.heap.objs.size+1) scope.names closure) qual func code (some env0) builtins) {s with heap:=h'}) :
 wpAny M A (newFunctionEnv scope globals closure [] qual func code (some env0) builtins) Q E s:=by
 simp only[newFunctionEnv,Option.isSome_some,if_true]
 refine wpAny_bind (wpAny_alloc ?_)
 refine wpAny_bind (wpAny_layCells _ (λname kind cells=>by cases hkc:kind== NameKind.cell<;>simp[hkc]) _ _ _ _ ?_)
 have ok:=cellsFrom_ok scope.names (s.heap.push {cls:=.type "dict",data:=.dict #[]}) (s.heap.objs.size+1) [] ⟨λ_ _ hm=>(nomatch hm),List.Pairwise.nil⟩ (by rw[Heap.size_push];exact Nat.le_refl _)
 rw[Heap.size_push] at ok
 rw[show({s with heap:=s.heap.push {cls:=.type "dict",data:=.dict #[]}}:Shared).heap.objs.size=s.heap.objs.size+1 from Heap.size_push ..]
 refine wpAny_bind ?_
 rw[List.forIn_nil]
 exact wpAny_pure (wpAny_pure (hQ _ ((Heap.Ns.new s.heap (.type "dict")).keeps (pushCells_keeps _ _)) (λb o e=>pushCells_keeps _ _ b o (Heap.get?_push_of_some _ e)) ok))
theorem jx{env:Env}:∀{names:List (Str×NameKind)} {x:Str},names.lookup x=some .free->
 ¬(names.map λ(n,k)=>if(k== NameKind.free && env.scope.kind== .function && env.kindOf n== some .cell) then(n,NameKind.cell) else(n,k)).lookup x=some .local
 | [],x,h=>by simp at h
 |(n,q)::r,x,h=>by
  intro h2
  rw[List.map_cons] at h2
  rw[List.lookup_cons] at h
  cases hx:x== n with
  |true=>
   rw[hx] at h
   cases h
   by_cases c:(NameKind.free== NameKind.free && env.scope.kind== .function && env.kindOf n== some .cell)=true
   ·simp only[c,if_true,List.lookup_cons,hx] at h2
    cases h2
   ·simp only[c,if_false,Bool.false_eq_true,List.lookup_cons,hx] at h2
    cases h2
  |false=>
   rw[hx] at h
   have ih:=jx (env:=env) h
   by_cases c:(q== NameKind.free && env.scope.kind== .function && env.kindOf n== some .cell)=true
   ·simp only[c,if_true,List.lookup_cons,hx] at h2
    exact ih h2
   ·simp only[c,if_false,Bool.false_eq_true,List.lookup_cons,hx] at h2
    exact ih h2
def qJ{pins:List (Addr×Obj)}{σ:L2.St}{H:Hp}{s:Shared}{N':List Str}{js:List Nat}{nl:Nat}{sc:Scope}{cl:List (Str×Addr)}{fp:List Addr}{h':Heap}{tk:Nat}
 (hsc:X.env.scope=sc)(hk:scope.kind=.function)(hcap:cT X sc scope N' js)(hlen:js.length+nl=N'.length)(B:Blk X scope s.heap.objs.size h' cl)
 (I:Inv X pins σ H s)(hf:∀b∈fp,cC X pins H b)(hlt:∀b∈fp,b<s.heap.objs.size)
 (hn:h'.Ns s.heap.objs.size (λ_=>none))(kp:∀b o,s.heap.get? b=some o->h'.get? b=some o) :
 Inv (cD X N' scope cl s.heap.objs.size s H fp) [] (cU js nl σ) H {s with heap:=h',toks:=tk}:=by
 have El:∀x,((cD X N' scope cl s.heap.objs.size s H fp).env.kindOf x=some .cell\/(cD X N' scope cl s.heap.objs.size s H fp).env.kindOf x=some .free)->∃c,cl.lookup x=some c:=λx hx=>by
  rcases hx with hx|hx
  ·exact B.has x (dI (.inl rfl) hx)
  ·exact B.has x (dI (.inr rfl) hx)
 have lt:∀x c,X.env.cells.lookup x=some c->c<s.heap.objs.size:=λx c e=>by
  obtain⟨v,o,ho,_⟩:=I.cell x c e
  exact Heap.lt_size ho
 have inj:∀x y c,cl.lookup x=some c->cl.lookup y=some c->x=y:=λx y c e1 e2=>by
  rcases B.at_ x c e1 with⟨q1,_⟩|⟨q1,_⟩
  ·rcases B.at_ y c e2 with⟨q2,_⟩|⟨q2,_⟩
   ·exact I.ok.inj x y c q1 q2
   ·exact absurd (lt x c q1) (Nat.lt_asymm q2)
  ·exact B.inj x y c e1 e2 q1
 refine⟨⟨I.ok.mod,hk,I.ok.glob,I.ok.blt,Nat.le_refl _,inj,El,λx c z e=>by
  rcases B.at_ x c e with⟨_,q⟩|⟨q,_⟩
  ·exact absurd (beq_iff_eq.mp z) q
  ·exact Nat.le_of_lt q,I.ok.hd,I.ok.frames,.inl rfl,λb hb=>⟨Nat.ne_of_lt (hlt b hb),λx c e=>by
  rcases B.at_ x c e with⟨q,_⟩|⟨q,_⟩
  ·exact(hf b hb).2.2.2.2.1 x c q
  ·exact Nat.ne_of_gt (Nat.lt_trans (hlt b hb) q)⟩,
  I.bs,Nat.le_trans I.ok.Jd I.sz,fun b o e hb=>?_,fun b hb hz=>?_,I.stack,I.rN,I.tb⟩,rfl,I.bare,Un.kept kp,⟨_,hn,fun i x v e1 e2 e3=>?_⟩,fun x c e=>?_,I.hok.fresh (Nat.le_refl _),fun x c e=>by
    rcases B.at_ x c e with⟨q,_⟩|⟨q,_⟩
    ·exact I.fL x c q
    ·exact I.hok.fresh (Nat.le_of_lt q),λp hp=>?_,I.hok.kept kp,?_⟩
 ·rcases(hf b hb).2.2.2.1 with z|z
  ·exact I.ok.CW b o e z
  ·exact absurd (Nat.lt_of_lt_of_le (Heap.lt_size e) (Nat.le_trans I.ok.Jd z)) (Nat.lt_irrefl _)
 ·rcases List.mem_cons.mp (I.m_ b hz) with z|z
  ·exact(hf b hb).2.1 z
  ·exact(hf b hb).2.2.1 z
 ·obtain⟨j,q1,q2,q0,q3⟩:=jU hcap e1 e2
  obtain⟨m,hm,hl⟩:=I.loc
  have Ve:wN X.env.scope x:=by
   rw[hsc]
   rcases q3 with q3|q3
   ·exact .inr (.inl q3)
   ·exact .inr (.inr q3)
  obtain⟨u,ru,lk⟩:=hl j x v q1 q2 Ve
  refine⟨u,ru,?_⟩
  rcases lk with⟨k1,_⟩|⟨k1,c,hc,ic⟩
  ·exfalso
   have k1':sc.names.lookup x=some .local:=by rw[<-hsc];exact k1
   rcases q3 with q3|q3<;>(rw[k1'] at q3;cases q3)
  ·have e3':(cD X N' scope cl s.heap.objs.size s H fp).env.kindOf x=some .local\/(cD X N' scope cl s.heap.objs.size s H fp).env.kindOf x=some .cell\/(cD X N' scope cl s.heap.objs.size s H fp).env.kindOf x=some .free:=e3
   rcases e3' with z|z
   ·exact absurd z (jx (env:=X.env) q0)
   ·obtain⟨d,hd⟩:=El x z
    have:d=c:=by
     rcases B.at_ x d hd with⟨q,_⟩|⟨_,_,q⟩
     ·rw[hc] at q
      exact(Option.some.inj q).symm
     ·rw[q0] at q
      cases q
    subst this
    exact .inr ⟨z,d,hd,by
     obtain⟨o,ho,hd'⟩:=ic
     exact⟨o,kp _ _ ho,hd'⟩⟩
 ·rcases B.at_ x c e with⟨q,_⟩|⟨_,q,_⟩
  ·obtain⟨v,o,ho,hd⟩:=I.cell x c q
   exact⟨v,o,kp _ _ ho,hd⟩
  ·exact⟨none,q⟩
 ·exact absurd hp (by simp[cD])
 ·show _=N'.length
  rw[<-hlen]
  simp[cU]
def nA{pins:List (Addr×Obj)}{σ σ':L2.St}{H H':Hp}{s s':Shared}{N':List Str}{cl:List (Str×Addr)}{fp:List Addr}{h':Heap}(I:Inv X pins σ H s)(hf:∀b∈fp,cC X pins H b)
 (J:Inv (cD X N' scope cl s.heap.objs.size s H fp) [] σ' H' s')(kp:∀b u,b≠s.heap.objs.size->s'.heap.get? b=some u->h'.get? b=some u):Inv X pins σ H' {s' with heap:=h'}:=by
 have ne:∀{b:Addr} {o:Obj},s.heap.get? b=some o->b≠s.heap.objs.size:=λe=>Nat.ne_of_lt (Heap.lt_size e)
 have u:=J.base
 refine I.call' (ch:=fp) J.os ⟨λb o e n hb hx=>kp b o (ne e) (u.keep b o e n hb hx),λb o e n hb hx=>?_,λb o e n hx=>u.free b o e n hx,λb o e hx=>?_,u.tups,u.pX,u.lU⟩ (zT J.hok J.free kp) J.bare λb hb=>?_
 ·obtain⟨sl,q⟩:=u.slot b o e n hb hx
  exact⟨sl,kp b _ (ne e) q⟩
 ·obtain⟨o',q⟩:=u.there b o e hx
  exact⟨o',kp b _ (ne e) q⟩
 ·exact⟨(hf b hb).2.2.2.1,(hf b hb).2.1,(hf b hb).2.2.2.2.1,(hf b hb).2.2.2.2.2⟩
def JT(N':List Str)(js:List Nat)(nl:Nat)(sc:Scope)(hsc:X.env.scope=sc)(hcalm:X.calm=true)
 (hi:PI X.ő tg iter wi)(hg:∀cl C s H fp,PG (cD X.ő N' scope cl C s H fp) tg g)(ht:∀cl C s H fp,CJ (cD X.ő N' scope cl C s H fp) ifs tt)(he:∀cl C s H fp,PE (cD X.ő N' scope cl C s H fp) elt te)
 (hcap:cT X.ő sc scope N' js)(hlen:js.length+nl=N'.length:=by rfl)
 (hk:scope.kind=.function:=by rfl)(hcell:∀y∈scope.names,y.2=.cell->scope.names.lookup y.1=some .cell:=by decide +kernel)(hnames:∀y∈scope.names,y.2=.local->scope.names.lookup y.1=some .local:=by decide +kernel)
 (hfree:∀y∈scope.names,y.2=.free->(sc.names.lookup y.1=some .cell\/sc.names.lookup y.1=some .free):=by decide +kernel)
 (hs:∀x,foldedSetIterable iter X.env x=pure x:=by intro _;rfl) :
 PE X.ő (.ListComp elt [⟨tg,iter,ifs,0⟩] scope pos) (Ej js nl wi g tt te):=by
 intro pins s σ H Q I h
 obtain⟨cl0,c1,c2,c3⟩:=dH (scope:=scope) (env:=X.ő.env) λy hy hf=>I.ok.has y.1 (by
  have:=hfree y hy hf
  rw[<-hsc] at this
  exact this)
 rw[eval_ListComp]
 refine wpAny_comprehension_free (use:=none) rfl hs c1 hk hnames (ŉ (hi pins s σ H _ I h) λv s1 h1=>ŉ h1 λitv s2 h2=>?_)
 obtain⟨it,fp,tn,J,H2,e,I2,T,st2,f2,q2⟩:=h2
 subst e
 refine wpAny_newObj_type (iC (λh₁ hns₁ old Vf=>?_))
 dsimp only at hns₁ old Vf ⊢
 generalize Vg:s2.heap.push {cls:=.type "list",dict:=none,data:=.seq ([]:List Value).toArray}=bf at hns₁ old Vf ⊢
 have hD:H2 s2.heap.objs.size=none:=I2.hok.fresh (Nat.le_refl _)
 have I3:Inv X.ő pins σ (upd H2 s2.heap.objs.size (.lst [])) {s2 with heap:=bf}:=by
  rw[<-Vg]
  exact I2.laid (t':=s2.toks) (λb u e=>Heap.get?_push_of_some _ e) (Nat.le_refl _) ⟨Nat.zero_le _,[],0,.nil,Heap.get?_push_size _ rfl⟩
 have JV:∀b∈fp,b<s2.heap.objs.size:=λb hb=>by
  obtain⟨o,ho,_⟩:=T.obj 0 _ st2 b hb
  exact Heap.lt_size ho
 have Vh:bf.objs.size=s2.heap.objs.size+1:=by rw[<-Vg,Heap.size_push]
 have f3:∀b∈fp,cC X.ő pins (upd H2 s2.heap.objs.size (.lst [])) b:=λb hb=>by
  obtain⟨g0,g1⟩:=f2 b hb
  exact⟨by rw[Ė (Nat.ne_of_lt (JV b hb))];exact g0,g1⟩
 have B:=Ek (X:=X.ő) (cl:=cl0) hcell c2 c3 (λx c e=>by
  obtain⟨v,o,ho,_⟩:=I3.cell x c e
  exact Heap.lt_size ho) Vf
 generalize cellsFrom (bf.objs.size+1) scope.names cl0=cl at B ⊢
 obtain⟨W,⟨m0,w0⟩,turn⟩:=q2 s2.heap.objs.size hD
 have I4:=qJ (X:=X.ő) (N':=N') (js:=js) (nl:=nl) (sc:=sc) (scope:=scope) (cl:=cl) (fp:=fp) (h':=h₁) (tk:=s2.toks) hsc hk hcap hlen B I3 f3 (λb hb=>by show b<bf.objs.size;rw[Vh];exact Nat.lt_succ_of_lt (JV b hb)) hns₁ old
 have st4:tn 0 h₁:= T.keep 0 _ _ st2 λb hb o e=>old b o (by rw[<-Vg];exact Heap.get?_push_of_some _ e)
 have fr4:∀b∈fp,(upd H2 s2.heap.objs.size (.lst [])) b=none:=λb hb=>(f3 b hb).1
 have stat:∀{H':Hp},(∀b∈fp,H' b=none)->∀b∈fp,cC (cD X.ő N' scope cl bf.objs.size {s2 with heap:=bf} (upd H2 s2.heap.objs.size (.lst [])) fp) [] H' b:=fun{H'} hn b hb=>by
  obtain⟨g0,g1,g2,g3,g4,g5⟩:=f3 b hb
  refine⟨hn b hb,Nat.ne_of_lt (by show b<bf.objs.size;rw[Vh];exact Nat.lt_succ_of_lt (JV b hb)),λz=>?_,.inl hb,λx c e=>by
   rcases B.at_ x c e with⟨q,_⟩|⟨q,_⟩
   ·exact g4 x c q
   ·exact Nat.ne_of_gt (Nat.lt_trans (by show b<bf.objs.size;rw[Vh];exact Nat.lt_succ_of_lt (JV b hb)) q),λp hp=>absurd hp (by simp[cD])⟩
  rcases List.mem_cons.mp (I3.m_ b z) with z|z
  ·exact g1 z
  ·exact g2 z
 have loop:∀s₃:Shared,s₃= {s2 with heap:=h₁}->
  codeAny (model X.prog X.w) X.A (.compLoop (.ListComp elt [⟨tg,iter,ifs,0⟩] scope pos) 0 (.ref it) (.ref s2.heap.objs.size) (compEnvC scope cl bf.objs.size X.ő.env))
   (compPost (model X.prog X.w) X.A X.ő.xe none (EP X.ő pins σ Q) (.ref s2.heap.objs.size) bf.objs.size) s₃:= by
  rintro s₃ rfl
  refine jw (λn s'=>∃i σ' H',Inv (cD X.ő N' scope cl bf.objs.size {s2 with heap:=bf} (upd H2 s2.heap.objs.size (.lst [])) fp) [] σ' H' s'/\tn i s'.heap/\(∀b∈fp,H' b=none)/\W i n σ' H') ?_ m0 ⟨0,_,_,I4,st4,fr4,w0⟩
  rintro n s5 ⟨i,σ5,H5,I5,Jr,Ue,w5⟩
  rcases turn i n σ5 H5 w5 with⟨stop,qn⟩|⟨go,N,hN,step⟩
  ·refine ŉ (T.done (cD X.ő N' scope cl bf.objs.size {s2 with heap:=bf} (upd H2 s2.heap.objs.size (.lst [])) fp) rfl rfl rfl hcalm i [] s5 σ5 H5 (λ_ _=>False) I5 (stat Ue) Jr stop) λr s6 ⟨hr,I6⟩=>?_
   subst hr
   obtain⟨m,hm,_⟩:=I6.loc
   refine⟨m,hm,λh' hs'=>⟨.ref s2.heap.objs.size,H5,nA I3 f3 I6 (λb u hb e=>hs'.extBut b u hb e),rfl,qn⟩⟩
  ·refine ŉ (T.item (cD X.ő N' scope cl bf.objs.size {s2 with heap:=bf} (upd H2 s2.heap.objs.size (.lst [])) fp) rfl rfl rfl hcalm i [] s5 σ5 H5 (λ_ _=>False) I5 (stat Ue) Jr go) λr s6 ⟨u,hr,h6⟩=>?_
   subst hr
   refine ŉ h6 λ_ s7 ⟨x,H7,I7,r7,y7,Vi,fr7⟩=>?_
   have I7':=I7.pinned (stat fr7) (T.obj _ _ Vi)
   have again:∀{s8:Shared} {σ8:L2.St} {H8:Hp},Inv (cD X.ő N' scope cl bf.objs.size {s2 with heap:=bf} (upd H2 s2.heap.objs.size (.lst [])) fp) ([]++jN fp s7.heap) σ8 H8 s8->
    Inv (cD X.ő N' scope cl bf.objs.size {s2 with heap:=bf} (upd H2 s2.heap.objs.size (.lst [])) fp) [] σ8 H8 s8/\tn (i+1) s8.heap/\∀b∈fp,H8 b=none:=fun{s8 σ8 H8} I8=>by
    refine⟨I8.cQ,T.keep _ _ _ Vi λb hb o e=>(I8.pin (b,o) (List.mem_append_right _ (List.mem_append_right _ (š hb e)))).1,λb hb=>?_⟩
    obtain⟨o,e,d⟩:=T.obj _ _ Vi b hb
    exact(I8.pin (b,o) (List.mem_append_right _ (List.mem_append_right _ (š hb e)))).2.1
   refine ŉ (hg cl _ _ _ fp _ s7 σ5 H7 x u _ I7' r7 (step x H7 y7)) λ_ s8 ⟨σ8,H8,I8,q8⟩=>?_
   refine ŉ (ht cl _ _ _ fp _ s8 σ8 H8 _ I8 q8) λc s9 ⟨H9,I9,q9⟩=>?_
   cases c with
   |false=>
    rw[if_neg Bool.false_ne_true] at q9 ⊢
    obtain⟨m',hm',w9⟩:=hN _ _ q9
    obtain⟨a1,a2,a3⟩:=again I9
    exact⟨m',hm',i+1,σ8,H9,a1,a2,a3,w9⟩
   |true=>
    rw[if_pos rfl] at q9 ⊢
    refine ŉ (he cl _ _ _ fp _ s9 σ8 H9 _ I9 q9) λyv sO ⟨y,H10,I10,r10,ys,e10,l10,w10⟩=>?_
    refine ŉ (ń _ sO σ8 H10 (.ref s2.heap.objs.size) [y] (.ref s2.heap.objs.size) [yv] (λ_ Vj=>N σ8 Vj) I10 rfl (.cons r10 .nil) ⟨_,ys,y,rfl,rfl,e10,l10,w10⟩) λ_ s11 ⟨v11,Vj,I11,_,w11⟩=>?_
    obtain⟨a1,a2,a3⟩:=again I11
    obtain⟨m',hm',w11⟩:=hN _ _ w11
    exact⟨m',hm',i+1,σ8,Vj,a1,a2,a3,w11⟩
 exact codeAny_compStart_list (loop _ rfl) (T.self _ 0 _ _ _ st4 (loop _ rfl))
end
def Its(z:Str):It:=⟨λi _=>i<z.cps.size,λi H x H'=>H'=H/\∃c,z.cps.toList[i]?=some c/\x=.str ⟨#[c]⟩,λi _=>i=z.cps.size⟩
def B_{P:Program}{w:World}{K:PySem.W.Frag}{tg:Expr}(it:Addr)(z:Str)(t:Tok)(ty:String)
 (hW:∀A:Around,A.handled=none->Walks P w A it [it] [it] z.cps.size (SignAt z) (λi h=>h.IsStrIter it ty z t i))
 (hS:∀(A:Around) (i:Nat) (s:Shared) (Q:Value->Shared->Prop) (E:Value->Shared->Prop),s.heap.IsStrIter it ty z t i->Q (.ref it) s->wpAny (model P w) A (pyIter (.ref it)) Q E s)
 (hty:["enumerate","zip","dict_itemiterator","dict_reverseitemiterator","odict_iterator","itertools.zip_longest","itertools.pairwise"].contains ty=false):Turn P w K tg (Its z) [it] it (λi h=>h.IsStrIter it ty z t i) where
 mem:=by simp
 obj:=λi h st b hb=>by
  have e:b=it:=by simpa using hb
  subst e
  obtain⟨o,e,c,d⟩:=st
  exact⟨o,e,λv z=>by rw[d] at z;cases z⟩
 keep:=λi h h' st k=>by
  obtain⟨o,e,c,d⟩:=st
  exact⟨o,k it (by simp) o e,c,d⟩
 item:=by
  intro X hP hw hK hc i pins s σ H E I hf st hg
  subst hP hw hK
  obtain⟨f0,f1,f2,f3,f4,f5⟩:=hf it (by simp)
  refine(hW X.A (I.ok.hd hc)).item i s _ _ hg st λv h' tk hv st' kk=>?_
  obtain⟨c,u,hcu,rfl⟩:=hv
  have I1:Inv X pins σ H {s with heap:=h',toks:=tk}:=I.turned (λb o hb e=>kk b o (by simpa using hb) e) f0 f1 f3 f4 f5
  obtain⟨o,e,cl,d⟩:=id st'
  exact⟨_,rfl,vd (s:={s with heap:=h',toks:=tk}) e cl d hty ⟨.str ⟨#[c]⟩,H,I1,⟨u,rfl⟩,⟨rfl,c,by simpa using hcu,rfl⟩,st',λb hb=>(hf b hb).1⟩⟩
 done:=by
  intro X hP hw hK hc i pins s σ H E I hf st hg
  subst hP hw hK
  obtain⟨f0,f1,f2,f3,f4,f5⟩:=hf it (by simp)
  have e:i=z.cps.size:=hg
  subst e
  exact(hW X.A (I.ok.hd hc)).done s _ _ st λh' tk kk=>⟨rfl,I.turned (λb o hb e=>kk b o (by simpa using hb) e) f0 f1 f3 f4 f5⟩
 self:=hS
section
variable{X:Cx}{tg:Expr}
end
end M3
namespace M4
open PySem PySem.Spec PyProof.Rows L2 M2 M3
section
variable{X:Cx}
def JW{bs:List Bool}:∀{us:List Value},Vals (bs.map V.bl) us->us=bs.map Value.bool:=by
 induction bs with
 |nil=>intro us r;rw[List.map_nil] at r;cases r;rfl
 |cons b bs ih=>
  intro us r
  rw[List.map_cons] at r
  cases r with
  |cons r1 r2=>
   cases r1
   rw[ih r2]
   rfl
def all_range(bs:List Bool):(List.range (bs.map Value.bool).toArray.size).all (λi=>bs.getD i false)=bs.all id:=by
 have e:(bs.map Value.bool).toArray.size=bs.length:=by simp
 rw[e,Bool.eq_iff_iff]
 simp only[List.all_eq_true,List.mem_range,id]
 constructor
 ·intro h b hb
  obtain⟨i,hi,rfl⟩:=List.mem_iff_getElem.mp hb
  have:=h i hi
  rw[List.getD_eq_getElem?_getD,List.getElem?_eq_getElem hi] at this
  exact this
 ·intro h i hi
  rw[List.getD_eq_getElem?_getD,List.getElem?_eq_getElem hi]
  exact h _ (List.getElem_mem hi)
def vo{prog:Program}{w:World}{A:Around}(bs:List Bool):TruthOf prog w A (λi v=>(bs.map Value.bool).toArray[i]?=some v) (λi=>bs.getD i false):=by
 intro i v s Q E hv hq
 have hv':bs[i]?.map Value.bool=some v:=by
  rw[<-List.getElem?_map]
  simpa using hv
 cases hb:bs[i]? with
 |none=>rw[hb] at hv';cases hv'
 |some b=>
  rw[hb] at hv'
  cases hv'
  dsimp only at hq
  rw[List.getD_eq_getElem?_getD,hb] at hq
  exact wpAny_truthy_bool hq
def Vk(K:PySem.W.Frag):List V->Hp->VK->Prop:=λxs H Q=>match xs with
 | [.ref p]=>∃bs:List Bool,Ś K H p (bs.map V.bl)/\Q (.bl (bs.all id)) H
 |_=>False
def xO(hc:X.calm=true):ō X (.builtin "all") (Vk X.K):=by
 intro pins s σ H xs us Q I r h
 unfold Vk at h
 split at h
 ·rename_i p
  obtain⟨bs,hS,q⟩:=h
  obtain⟨u,rfl,ru⟩:=vals1 r
  cases ru
  obtain⟨its,rv,pl,hz⟩:=I.list hS
  have e:=JW rv
  subst e
  have hp:p≠s.heap.objs.size:=by
   obtain⟨o,n,e,_⟩:=pl
   exact Nat.ne_of_lt (Heap.lt_size e)
  refine call_all_walk (wpAny_pyIter_list pl.isList ?_)
  refine⟨s.heap.objs.size,_,_,_,_,_,_,rfl,Walks.list (A:=X.A.in1) (show X.A.in1.handled=none from I.ok.hd hc) s.heap.objs.size p hp (bs.map Value.bool).toArray,⟨⟨_,Heap.get?_push_size _ rfl,rfl,rfl⟩,pl.isList.at λo e=>Heap.get?_push_of_some _ e⟩,vo bs,λh' tk k=>?_⟩
  rw[all_range]
  exact⟨.bl _,H,I.kept λb o e=>k b o (by simpa using Nat.ne_of_lt (Heap.lt_size e)) (Heap.get?_push_of_some _ e),rfl,q⟩
 ·exact h.elim
end
abbrev S(l:List Nat):Str:=⟨l.toArray⟩
def Zcx(z:Str):S z.cps.toList=z:=by
 cases z
 simp
def Zad(l:List Nat):(S l).length=l.length:=by simp[Str.length]
def vp(z:Str):z.cps.toList.length=z.length:=by simp[Str.length]
def sS(xs:List Nat)(lo hi:Option Int):List Nat:=(xs.drop (HT.gY xs.length 0 lo)).take (HT.gY xs.length xs.length hi-HT.gY xs.length 0 lo)
def idx_eq(z:Str)(lo hi:Option Int):Builtin.Str.strSliceIndices lo hi 1 z.length=(List.range (HT.gY z.length z.length hi-HT.gY z.length 0 lo)).map (HT.gY z.length 0 lo + ·):=by
 have hc:∀(o:Option Int) (d:Nat),d<=z.length->(match o with|none=>((d:Nat):Int)|some i=>max 0 (min (if i<0 then i+(z.length:Int) else i) (z.length:Int)))=((HT.gY z.length d o:Nat):Int):=by
  intro o d hd
  cases o with
  |none=>rfl
  |some i=>
   show max 0 (min (if i<0 then i+(z.length:Int) else i) (z.length:Int))=((if i<0 then(i+(z.length:Int)).toNat else min i.toNat z.length:Nat):Int)
   by_cases h:i<0
   ·rw[if_pos h,if_pos h];omega
   ·rw[if_neg h,if_neg h];omega
 have e:Builtin.Str.strSliceIndices lo hi 1 z.length=sliceRange ((HT.gY z.length 0 lo:Nat):Int) ((HT.gY z.length z.length hi:Nat):Int) 1:=by
  have h1:=hc lo 0 (Nat.zero_le _)
  have h2:=hc hi z.length (Nat.le_refl _)
  unfold Builtin.Str.strSliceIndices
  simp only[show(1:Int)>0 by decide,if_true]
  rw[<-h1,<-h2]
  cases lo<;>cases hi<;>rfl
 rw[e,sliceRange_one]
def JX(z:Str)(lo hi:Option Int):(Builtin.Str.strSliceIndices lo hi 1 z.length).filterMap (z.cps[·]?)=sS z.cps.toList lo hi:=by
 rw[idx_eq,pick_run]
 unfold sS
 rw[vp]
def JZ(xs:List Nat)(lo hi:Option Int):(sS xs lo hi).length<=xs.length:=by
 unfold sS
 rw[List.length_take,List.length_drop]
 omega
def Em{z:Str}{t:Tok}{l u:Option (Int×Tok)}{Q:Value->Shared->Prop}{s:Shared}(hz:z.length<=sizeLine)
 (h:∀t' k,Q (.str (S (sS z.cps.toList (l.map (·.1)) (u.map (·.1)))) t') {s with toks:=k}):(sliceMade z t l u none).post Q s:=by
 have e:=JX z (l.map (·.1)) (u.map (·.1))
 unfold sliceMade
 have ep:slicePicked z l u none=Builtin.Str.strSliceIndices (l.map (·.1)) (u.map (·.1)) 1 z.length:=rfl
 rw[ep]
 split
 ·rename_i hc
  have hl:(Builtin.Str.strSliceIndices (l.map (·.1)) (u.map (·.1)) 1 z.length).length=z.length:=by simpa using hc
  have hz2:sS z.cps.toList (l.map (·.1)) (u.map (·.1))=z.cps.toList:=by
   rw[idx_eq,List.length_map,List.length_range] at hl
   have hi:=HT.DP z.length 0 (Nat.zero_le _) (l.map (·.1))
   have hj:=HT.DP z.length z.length (Nat.le_refl _) (u.map (·.1))
   unfold sS
   rw[vp]
   have hl2:=vp z
   have a0:HT.gY z.length 0 (l.map (·.1))=0\/z.length=0:=by omega
   rcases a0 with a0|a0
   ·rw[a0] at hl ⊢
    rw[List.drop_zero]
    exact List.take_of_length_le (by omega)
   ·have:z.cps.toList=[]:=List.eq_nil_of_length_eq_zero (by omega)
    rw[this]
    simp
  have:=h t s.toks
  rw[hz2,Zcx] at this
  exact this
 ·rw[e]
  exact⟨by rw[Zad];have:=JZ z.cps.toList (l.map (·.1)) (u.map (·.1));rw[vp] at this;omega,h _ _⟩
section
variable{X:Cx}
def Zcy:V->Option Int->Option Int->Hp->VK->Prop:=λx lo hi H Q=>match x with
 | .str z=>z.length<=sizeLine/\Q (.str (S (sS z.cps.toList lo hi))) H
 |_=>False
def J_:zP X Zcy:=by
 intro pins s σ H x v vl vu lo hi sl Q I rx hs pl pu h
 cases x with
 |str z=>
  obtain⟨t,rfl⟩:=rx
  obtain⟨hz,q⟩:=h
  obtain⟨l,el,el2⟩:∃l:Option (Int×Tok),partValue l=vl/\l.map (·.1)=lo:=by
   cases pl with
   |none=>exact⟨none,rfl,rfl⟩
   |int i t=>exact⟨some (i,t),rfl,rfl⟩
  obtain⟨u,eu,eu2⟩:∃u:Option (Int×Tok),partValue u=vu/\u.map (·.1)=hi:=by
   cases pu with
   |none=>exact⟨none,rfl,rfl⟩
   |int i t=>exact⟨some (i,t),rfl,rfl⟩
  subst el el2 eu eu2
  exact⟨"str",_,F.slot_str_getitem.lookup,typeIs_str s z t,wpAny_getItem_str_slice (l:=l) (u:=u) (st:=none) hs rfl (Em hz λt' k=>⟨.str _,H,I.tok _,⟨_,rfl⟩,q⟩)⟩
 |_=>exact h.elim
def Zcz(K:PySem.W.Frag):V->Option Int->Option Int->Hp->VK->Prop:=λx lo hi H Q=>match x with
 | .ref a=>∃xs,Ś K H a xs/\∀p,H p=none->Q (.ref p) (upd H p (.lst (vg xs lo hi)))
 | .str z=>z.length<=sizeLine/\Q (.str (S (sS z.cps.toList lo hi))) H
 |_=>False
def slm:zP X (Zcz X.K):=zP.wk (Ef.or J_) λx lo hi H Q h=>by
 cases x with
 |ref a=>exact .inl h
 |str z=>exact .inr h
 |_=>exact h.elim
def mul_eq(z:Str){n:Int}(h:0<=n):Txt.mul z n=S (List.replicate n.toNat z.cps.toList).flatten:=by
 have key:∀(k:Nat) (acc:Array Nat),((List.replicate k z.cps).foldl (·++ ·) acc).toList=acc.toList++(List.replicate k z.cps.toList).flatten:=by
  intro k
  induction k with
  |zero=>intro acc;simp
  |succ k ih=>
   intro acc
   rw[List.replicate_succ,List.foldl_cons,ih,List.replicate_succ,List.flatten_cons]
   simp
 unfold Txt.mul
 refine PyProof.Rows.ext_toList ?_
 by_cases h1:n<1
 ·rw[if_pos h1]
  have:n.toNat=0:=by omega
  rw[this]
  simp[Str.empty]
 ·rw[if_neg h1]
  split
  ·rename_i hc
   rw[Bool.or_eq_true] at hc
   rcases hc with hc|hc
   ·have:n=1:=by simpa using hc
    subst this
    simp
   ·have h0:z.cps.toList=[]:=List.eq_nil_of_length_eq_zero (by rw[vp];simpa using hc)
    rw[h0]
    simp
  ·rw[key]
   simp
def En(z:Str)(n:Int):Prop:=0<=n/\n<=1000/\z.length<=1000
def En.ok{z:Str}{n:Int}(h:En z n):MulOk z n:=by
 obtain⟨h0,h1,h2⟩:=h
 refine⟨?_,λhn _=>?_,λhn _=>?_⟩
 ·rw[decide_eq_false (by omega),decide_eq_false (by omega)]
  rfl
 ·have:(9000000000000000:Int)≤(2 ^ 63-1) / n:=by
   rw[Int.le_ediv_iff_mul_le (by omega)]
   omega
  omega
 ·have:z.length*n.toNat<=1000*1000:=Nat.mul_le_mul h2 (by omega)
  unfold Builtin.Str.tooLong
  simp
  rw[sizeLine_eq]
  omega
def Eo:R2:=λx y H Q=>match x,y with
 | .int i,.int j=>qI i j/\Q (.int (i*j)) H
 | .str z,.int n=>En z n/\Q (.str (S (List.replicate n.toNat z.cps.toList).flatten)) H
 |_,_=>False
def Ka:ť X (binaryOp .Mult) Eo:=by
 intro pins s σ H x y v u Q I rx ry h
 unfold Eo at h
 split at h
 ·exact Vb pins s σ H _ _ v u Q I rx ry h
 ·obtain⟨t,rfl⟩:=rx
  obtain⟨t',rfl⟩:=ry
  exact SB.mul h.1.ok λt' k=>⟨.str _,H,I.tok _,⟨_,by rw[mul_eq _ h.1.1]⟩,h.2⟩
 ·exact h.elim
end
end M4
namespace M5
open PySem PySem.Spec PyProof.Rows L2 M2 M3
def xP{p2:Pos}{c:Value}{a b:Int}{cv:Value}(l:List Value)(h:TriplesOk l)(e:codeAmong p2 (l ++ [rawInt a,rawInt b,c])=some cv):codeAmong p2 l=some cv\/cv=c:=by
 fun_induction TriplesOk l with
 |case1=>
  right
  simp only[List.nil_append,codeAmong,rawInt] at e
  split at e
  ·exact(Option.some.inj e).symm
  ·cases e
 |case2 a' t b' u x rest ih=>
  simp only[List.cons_append,codeAmong] at e ⊢
  split at e
  ·rename_i hc;rw[if_pos hc];exact .inl e
  ·rename_i hc;rw[if_neg hc];exact ih h e
 |case3 l h1 h2=>exact h.elim
section
variable{X:Cx}{pins:List (Addr×Obj)}{σ:L2.St}{H:Hp}{s:Shared}{x:Str}{c P:Addr}{params:Arguments}{body:Expr}{scope:Scope}{pos:Pos}{cl:List (Str×Addr)}
def Ep{Q:Value->Shared->Prop}{E:Value->Shared->Prop}(I:Inv X pins σ H s)(hx:x∈lams)(ht:PySem.W.tabIn X.K x=some (c,P))(hcode:X.env.code=.ref c)(hq:X.env.qual=x ++ ".<locals>.")(hdef:defaultsOf params X.env=([],[]))(hcl:closureFor scope X.env=pure cl)
 (h:∀f c' pm ctv H' s',Inv X pins σ H' s'->(∀a,H a=none->H' a=none\/a=c')->Same H H'->H' c'=some (.Bl (bB x))->s'.heap.get? f=some (PySem.W.kla_obj "<lambda>" (bB x) params body scope cl pm c' ctv)->cC X pins H' f->Q (.ref f) s') :
 wpAny (model X.prog X.w) X.A (eval (.Lambda params body scope pos) X.env) Q E s:=by
 obtain⟨C,hT,hB⟩:=I.tb x c P hx ht
 obtain⟨ps,hP,tr,ent⟩:=I.hok P _ hT
 have hg:=I.ok.mod.glob.keeps I.bk
 have hgP:mainGlobals≠P:=λq=>by
  obtain⟨o,es,ep,e,hd,_⟩:=hg
  rw[q,hP] at e;cases e;cases hd
 have hB':s.heap.BuiltinsAt X.mg P:=by
  obtain⟨bm,ob,b1,b2,b3,b4,b5,b6⟩:=hB
  exact⟨bm,ob,b1,b2,b3,b4,I.bk _ _ b5,b6⟩
 refine PySem.W.kla_eval hdef ?_
 rw[hq]
 cases hf:codeAmong pos ps.toList with
 |none=>
  refine PySem.W.kla_makeFunction (mg:=X.mg) hcl I.ok.glob hg hcode (C.keeps I.bk) hP tr hf hgP hB' λc' ctv h' tk hxb hge hlt hrec htb=>?_
  have hc':H c'=none:=I.hok.fresh hge
  have hcP:c'≠P:=λz=>by rw[z,hT] at hc';cases hc'
  have neP:∀b,H b=none->b≠P:=λb n z=>by rw[z,hT] at n;cases n
  have old:∀b o,b≠P->s.heap.get? b=some o->(h'.push (PySem.W.kla_obj "<lambda>" (bB x) params body scope cl ((X.mg "__name__").getD .none) c' ctv)).get? b=some o:=λb o hb e=>Heap.get?_push_of_some _ (hxb b o hb e)
  have u:Un X.fs [] H (upd H c' (.Bl (bB x))) s.heap (h'.push (PySem.W.kla_obj "<lambda>" (bB x) params body scope cl ((X.mg "__name__").getD .none) c' ctv)):=by
   refine⟨λb o e n _ _=>old b o (neP b n) e,λb o e n _ _=>⟨o.slots,old b o (neP b n) e⟩,λb o e n _=>?_,λb o e _=>?_,λb xs e=>by rw[Ė (Ģ e hc')];exact e,λb o u e=>by rw[Ė (Ģ e hc')];exact e,λb q e=>by rw[Ė (Ģ e hc')];exact e⟩
   ·rw[Ė (Nat.ne_of_lt (Nat.lt_of_lt_of_le (Heap.lt_size e) hge))];exact n
   ·by_cases hb:b=P
    ·exact⟨_,by rw[hb];exact Heap.get?_push_of_some _ htb⟩
    ·exact⟨o,old b o hb e⟩
  have hok:jo X.prog X.w (upd H c' (.Bl (bB x))) (h'.push (PySem.W.kla_obj "<lambda>" (bB x) params body scope cl ((X.mg "__name__").getD .none) c' ctv)):=λb v e=>by
   by_cases hb:b=c'
   ·subst hb
    rw[ĝ] at e;cases e
    obtain⟨c2,o,vs,t,z,e1,r⟩:=hrec
    exact⟨c2,o,vs,t,z,Heap.get?_push_of_some _ e1,r⟩
   ·rw[Ė hb] at e
    by_cases hbP:b=P
    ·subst hbP
     rw[hT] at e;cases e
     refine⟨_,Heap.get?_push_of_some _ htb,?_,λp2 cv z=>?_⟩
     ·have:=TriplesOk_snoc pos.line pos.col (.ref c') ps.toList tr
      simpa using this
     ·rcases xP (a:=pos.line) (b:=pos.col) (c:=.ref c') ps.toList tr (by simpa using z) with z|z
      ·obtain⟨d,z1,z2⟩:=ent p2 cv z
       exact⟨d,z1,by rw[Ė (Ģ z2 hc')];exact z2⟩
      ·exact⟨c',z,ĝ⟩
    ·exact(I.hok b v e).stay (fun b2 o hb2 q=>old b2 o (by
      rcases hb2 with z|z
      ·rw[z];exact hbP
      ·intro z2;rw[z2,hT] at z;cases z) q) (λd q=>by rw[Ė (Ģ q hc')];exact q) (λd xs q=>by rw[Ė (Ģ q hc')];exact q) λd xs q=>by rw[Ė (Ģ q hc')];exact q
  have hfz:s.heap.objs.size<=h'.objs.size:=Nat.le_of_lt (Nat.lt_of_le_of_lt hge hlt)
  refine h h'.objs.size c' _ ctv (upd H c' (.Bl (bB x))) _ (I.un (t':=tk) u hok) (λa n=>?_) (λb v e=>by rw[Ė (Ģ e hc')];exact e) ĝ (Heap.get?_push_size _ rfl) (I.rZ hfz (by rw[Ė (Nat.ne_of_gt hlt)];exact I.hok.fresh hfz))
  by_cases ha:a=c'
  ·exact .inr ha
  ·exact .inl (by rw[Ė ha];exact n)
 |some cv=>
  obtain⟨c',rfl,hcc⟩:=ent pos cv hf
  refine PySem.W.kla_makeFunctionHit (mg:=X.mg) hcl I.ok.glob hg hcode (C.keeps I.bk) hP tr hf hB' λctv h' tk hk hsz=>?_
  exact h h'.objs.size c' _ ctv H _ (I.kept (t':=tk) λb o e=>Heap.get?_push_of_some _ (hk b o e)) (λ_ n=>.inl n) (Same.refl H) hcc (Heap.get?_push_size _ rfl) (I.rZ hsz (I.hok.fresh hsz))
end
def CK(X:Cx)(N':List Str)(qual:Str)(scope:Scope)(cl:List (Str×Addr))(f:Addr)(c':Addr)(A:Around)(s:Shared)(H:Hp):Cx where
 prog:=X.prog
 w:=X.w
 K:=X.K
 mg:=X.mg
 base:=X.base
 A:=A.deeper (PySem.W.envX qual scope s.heap.objs.size f (.ref c') cl)
 N:=N'
 s₀:= s
 H₀:= H
 env:=PySem.W.envX qual scope s.heap.objs.size f (.ref c') cl
 outer:=X.stack
 stack:=PySem.W.envX qual scope s.heap.objs.size f (.ref c') cl::X.stack
 ex:=[]
 fn:=λ_=>false
 calm:=true
 pn:=[]
 xe:=λ_ _=>False
def cV(js:List Nat)(σ:L2.St)(v:V):L2.St:=js.map (λj:Nat=>(σ[j]?).getD none) ++ [some v]
section
variable{X:Cx}{pins:List (Addr×Obj)}{σ:L2.St}{H:Hp}{s:Shared}{params:Arguments}{body:Expr}{scope sc:Scope}{cl:List (Str×Addr)}{N0:List Str}{js:List Nat}{qual px:Str}{f c':Addr}{A:Around}
def Kc(hsc:X.env.scope=sc)(hk:scope.kind=.function)(hcap:cT X sc scope N0 js)(hlen:js.length=N0.length)(hcell:∀y∈scope.names,y.2≠ .cell)(hpx:scope.names.lookup px=some .local)
 (hA:A.frames=some X.stack)(hhd:A.handled=none)(c2:∀x c,cl.lookup x=some c->X.env.cells.lookup x=some c)(c3:∀y∈scope.names,y.2=.free->∃c,cl.lookup y.1=some c)
 (I:Inv X pins σ H s){v:V}{u:Value}(r:RelV v u){h':Heap}{tk:Nat}(hn:h'.Ns s.heap.objs.size (λy=>[(px,u)].reverse.lookup y))(kp:∀b o,s.heap.get? b=some o->h'.get? b=some o) :
 Inv (CK X (N0 ++ [px]) qual scope cl f c' A s H) [] (cV js σ v) H {s with heap:=h',toks:=tk}:=by
 have has:∀y,(scope.names.lookup y=some .cell\/scope.names.lookup y=some .free)->∃c,cl.lookup y=some c:=λy hy=>by
  rcases hy with hy|hy
  ·exact absurd rfl (hcell _ (PySem.mem_of_lookup hy))
  ·exact c3 _ (PySem.mem_of_lookup hy) rfl
 refine⟨⟨I.ok.mod,hk,rfl,rfl,Nat.le_refl _,λx y c e1 e2=>I.ok.inj x y c (c2 x c e1) (c2 y c e2),has,(λ_ _ z _=>absurd (show false=true from z) Bool.false_ne_true),λ_=>hhd,Around.frames_deeper hA,.inr ⟨rfl,rfl⟩,λb hb=>absurd hb (by simp[CK]),
  I.bs,Nat.le_trans I.ok.Jd I.sz,λb _ _ hb=>absurd hb (by simp[CK]),λb hb=>absurd hb (by simp[CK]),I.stack,I.rN,I.tb⟩,rfl,I.bare,Un.kept kp,⟨_,hn,λi x w e1 e2 e3=>?_⟩,λx c e=>?_,I.hok.fresh (Nat.le_refl _),λx c e=>I.fL x c (c2 x c e),λp hp=>absurd hp (by simp[CK]),I.hok.kept kp,?_⟩
 ·by_cases hi:i<js.length
  ·have e1':N0[i]?=some x:=by
    have:=e1
    rwa [show(CK X (N0 ++ [px]) qual scope cl f c' A s H).N=N0 ++ [px] from rfl,List.getElem?_append_left (by omega)] at this
   have e2':(cU js 0 σ)[i]?=some (some w):=by
    unfold cU
    unfold cV at e2
    rw[List.getElem?_append_left (by simpa using hi)] at e2 ⊢
    exact e2
   obtain⟨j,q1,q2,q0,q3⟩:=jU hcap e1' e2'
   obtain⟨m,hm,hl⟩:=I.loc
   have Ve:wN X.env.scope x:=by
    rw[hsc]
    rcases q3 with q3|q3
    ·exact .inr (.inl q3)
    ·exact .inr (.inr q3)
   obtain⟨u',ru,lk⟩:=hl j x w q1 q2 Ve
   refine⟨u',ru,?_⟩
   rcases lk with⟨k1,_⟩|⟨k1,c,hc,ic⟩
   ·exfalso
    have k1':sc.names.lookup x=some .local:=by rw[<-hsc];exact k1
    rcases q3 with q3|q3<;>(rw[k1'] at q3;cases q3)
   ·obtain⟨d,hd⟩:=has x (.inr q0)
    have:d=c:=by
     have:=c2 x d hd
     rw[hc] at this
     exact(Option.some.inj this).symm
    subst this
    exact .inr ⟨.inr q0,d,hd,by
     obtain⟨o,ho,hd'⟩:=ic
     exact⟨o,kp _ _ ho,hd'⟩⟩
  ·have hi2:i=js.length:=by
    have l2:=(List.getElem?_eq_some_iff.mp e2).1
    unfold cV at l2
    simp at l2
    omega
   subst hi2
   unfold cV at e2
   rw[List.getElem?_append_right (by simp)] at e2
   have ev:v=w:=by simpa using e2
   subst ev
   have ex:px=x:=by
    have:=e1
    rw[show(CK X (N0 ++ [px]) qual scope cl f c' A s H).N=N0 ++ [px] from rfl,List.getElem?_append_right (by omega),hlen] at this
    simpa using this
   subst ex
   exact⟨u,r,.inl ⟨hpx,by simp[List.lookup]⟩⟩
 ·obtain⟨w,o,ho,hd⟩:=I.cell x c (c2 x c e)
  exact⟨w,o,kp _ _ ho,hd⟩
 ·show _=(N0 ++ [px]).length
  unfold cV
  simp[hlen]
def Er{te:TE}{pm ctv:Value}(hsc:X.env.scope=sc)(hk:scope.kind=.function)(hcap:cT X sc scope N0 js)(hlen:js.length=N0.length)(hcell:∀y∈scope.names,y.2≠ .cell)(hpx:scope.names.lookup px=some .local)(hco:scope.isCoroutine=false)(hgen:scope.isGenerator=false)
 (hA:A.frames=some X.stack)(hhd:A.handled=none)(Vl:A.depth<recursionLimit)(c2:∀x c,cl.lookup x=some c->X.env.cells.lookup x=some c)(c3:∀y∈scope.names,y.2=.free->∃c,cl.lookup y.1=some c)
 (hbind:∀u:Value,bindArgs (PySem.W.kla_fn "<lambda>" qual params body scope cl pm (.ref c') ctv) ⟨[u],[]⟩=pure [(px,u)])
 (he:∀s H,PE (CK X (N0 ++ [px]) qual scope cl f c' A s H) body te)
 (I:Inv X pins σ H s)(hf:s.heap.get? f=some (PySem.W.kla_obj "<lambda>" qual params body scope cl pm c' ctv))(hc:H c'=some (.Bl qual)){v:V}{u:Value}(r:RelV v u){Q:VK}{E:Value->Shared->Prop}(h:te (cV js σ v) H Q) :
 wpAny (model X.prog X.w) A (call (.ref f) [u]) (EP X pins σ Q) E s:=by
 refine wpAny_call (PySem.W.kla_callFunE Vl hf rfl hco hgen rfl (I.hok c' _ hc) ?_)
 rw[hbind u]
 refine wpAny_pure (wpAny_newFunctionEnv hcell (λy hy=>by rw[List.mem_singleton.mp hy];exact hpx) (λh₁ hns hsb=>⟨(I.nolimit).fresh _ hsb,?_⟩) hk)
 have kp:∀b o,s.heap.get? b=some o->h₁.get? b=some o:=λb o e=>hsb.extBut b o (Nat.ne_of_lt (Heap.lt_size e)) (Heap.get?_push_of_some _ e)
 have J:=Kc (qual:=qual) (f:=f) (c':=c') (tk:=s.toks + [(px,u)].length) hsc hk hcap hlen hcell hpx hA hhd c2 c3 I r hns kp
 show codeAny _ _ (.expr body (PySem.W.envX qual scope s.heap.objs.size f (.ref c') cl)) _ _
 refine PySem.W.kla_codeExpr (wpAny_mono (he s H [] _ _ H Q J h) (λy s' hy=>?_) λ_ _ z=>z.elim)
 obtain⟨w,H',J',Ua,q⟩:=hy
 exact I.after ⟨w,H',J'.os,J'.bare,J'.base,J'.hok,Ua,q⟩
end
section
variable{X:Cx}{pins:List (Addr×Obj)}{σ:L2.St}{H:Hp}{s:Shared}
def qK{fp:List Addr}{t:Sem Value}{A:Around}{Qv:V->Hp->Prop}{R:Value->Shared->Prop}(I:Inv X pins σ H s)(hf:∀b∈fp,cC X pins H b)(ho:∀b∈fp,∃o,s.heap.get? b=some o/\∀v,o.data≠ .cell v)
 (run:∀iz,Inv X iz σ H s->wpAny (model X.prog X.w) A t (EP X iz σ Qv) (λ_ _=>False) s)
 (k:∀y u H2 s2,Inv X pins σ H2 s2->RelV y u->Qv y H2->(∀b∈fp,cC X pins H2 b)->(∀b∈fp,∀o,s.heap.get? b=some o->s2.heap.get? b=some o)->R u s2):wpAny (model X.prog X.w) A t R (λ_ _=>False) s:=by
 refine wpAny_mono (run _ (I.pinned hf ho)) (λu s2 ⟨y,H2,I2,r,q⟩=>?_) λ_ _ z=>z
 refine k y u H2 s2 I2.cQ r q (λb hb=>?_) λb hb o e=>(I2.pin (b,o) (List.mem_append_right _ (List.mem_append_right _ (š hb e)))).1
 obtain⟨o,e,_⟩:=ho b hb
 exact⟨(I2.pin (b,o) (List.mem_append_right _ (List.mem_append_right _ (š hb e)))).2.1,(hf b hb).2⟩
def Ŷ{h':Heap}{t':Nat}{b:Addr}(I:Inv X pins σ H s)(hf:cC X pins H b)(k:∀c o,c≠b->s.heap.get? c=some o->h'.get? c=some o):Inv X pins σ H {s with heap:=h',toks:=t'}:=
 let ⟨f0,f1,_,f3,f4,f5⟩:=hf
 I.turned k f0 f1 f3 f4 f5
variable{R:Result->Shared->Prop}{f l S It:Addr}{oF:Obj}{xs:List V}(ks:Nat->Int)(W:Nat->Hp->Prop)
def zU{h:Heap}{l It:Addr}{its:Array Value}{i:Nat}(hl:h.IsList l its)(hit:h.IsListIter It l i):l≠It:=λz=>by
 obtain⟨o,e,c,_⟩:=hl
 obtain⟨o',e',c',_⟩:=hit
 rw[z,e'] at e
 cases e
 rw[c] at c'
 exact absurd (Value.type.inj c') (by decide)
def xQ{h:Heap}{S It l:Addr}{vs:Array Value}{n i:Nat}(hS:h.get? S=some (seqObj "list" vs n))(hit:h.IsListIter It l i):S≠It:=λz=>by
 obtain⟨o',e',c',_⟩:=hit
 rw[z,e'] at hS
 cases hS
 exact absurd (Value.type.inj c') (by decide)
end
section
variable{X:Cx}{x px:Str}{c P:Addr}{params:Arguments}{body e:Expr}{scope:Scope}{p pos Ca kpos:Pos}{ta:TA}{te:TE}
end
end M5
namespace P
def nst:PySem.Expr->Bool
 | .Starred .. =>false
 |_=>true
def aB{e:PySem.Expr}{es:List PySem.Expr}{env:PySem.Env}(h:nst e=true):PySem.starEach (e::es) env=(false,PySem.eval e env)::PySem.starEach es env:=by
 cases e<;>first|rfl|cases h
open PySem PySem.Spec PyProof.Rows L2 M2
structure KK where
 K:PySem.W.Frag
 cm:String->Addr
abbrev kk(X:Cx)(cm:String->Addr):KK:=⟨X.K,cm⟩
inductive PV where
 |non|bl (b:Bool)|int (i:Int)|str (x:Str)|tup (xs:List PV)|lst (xs:List PV)
 |ins (C:String) (ns:List Str) (xs:List PV)|xc (C:String) (ns:List Str) (xs:List PV)|ty (n:String)|cls (C:String)
def xo(a C:Addr)(d:Option Addr):HO:=.ext λh=>∃o vs,h.get? a=some o/\o.cls=.ref C/\o.dict=d/\o.data=.fields vs
def vq(F:Hp)(d:Option Addr)(fs:List (Str×V)):Prop:=(d=none/\fs=[])\/∃a,d=some a/\F a=some (.xd fs)
mutual
def Rep(K:KK)(F:Hp):PV->V->Prop
 | .non,v=>v=.non
 | .bl b,v=>v=.bl b
 | .int i,v=>v=.int i
 | .str x,v=>v=.str x
 | .tup ps,v=>∃a xs,v=.ref a/\dD K.K F a xs/\Ĕ K F ps xs
 | .lst ps,v=>∃a xs,v=.ref a/\Ś K.K F a xs/\Ĕ K F ps xs
 | .ins C ns ps,v=>∃a dx fs,v=.ref a/\F a=some (.ins (K.cm C) dx fs)/\fs.map (·.1)=ns/\Ĕ K F ps (fs.map (·.2))
 | .xc C ns ps,v=>∃a d fs,v=.ref a/\F a=some (xo a (K.cm C) d)/\vq F d fs/\fs.map (·.1)=ns/\Ĕ K F ps (fs.map (·.2))
 | .ty n,v=>v=.ty n
 | .cls C,v=>v=.ref (K.cm C)
def Ĕ(K:KK)(F:Hp):List PV->List V->Prop
 | [],xs=>xs=[]
 |p::ps,xs=>∃x r,xs=x::r/\Rep K F p x/\Ĕ K F ps r
end
section
variable{K:KK}{F F' H H':Hp}
def vq.same{d:Option Addr}{fs:List (Str×V)}(e:Same F F')(h:vq F d fs):vq F' d fs:=by
 rcases h with h|⟨a,h1,h2⟩
 ·exact .inl h
 ·exact .inr ⟨a,h1,e _ _ h2⟩
mutual
theorem Rep.same(e:Same F F'):∀(p:PV) (v:V),Rep K F p v->Rep K F' p v
 | .non,_,h=>by unfold Rep at h ⊢;exact h
 | .bl _,_,h=>by unfold Rep at h ⊢;exact h
 | .int _,_,h=>by unfold Rep at h ⊢;exact h
 | .str _,_,h=>by unfold Rep at h ⊢;exact h
 | .ty _,_,h=>by unfold Rep at h ⊢;exact h
 | .cls _,_,h=>by unfold Rep at h ⊢;exact h
 | .tup ps,_,h=>by
   unfold Rep at h ⊢
   obtain⟨a,xs,h1,h2,h3⟩:=h
   exact⟨a,xs,h1,Same.tup e h2,Ĕ.same e ps xs h3⟩
 | .lst ps,_,h=>by
   unfold Rep at h ⊢
   obtain⟨a,xs,h1,h2,h3⟩:=h
   exact⟨a,xs,h1,e.seq h2,Ĕ.same e ps xs h3⟩
 | .ins C ns ps,_,h=>by
   unfold Rep at h ⊢
   obtain⟨a,dx,fs,h1,h2,h3,h4⟩:=h
   exact⟨a,dx,fs,h1,e _ _ h2,h3,Ĕ.same e ps _ h4⟩
 | .xc C ns ps,_,h=>by
   unfold Rep at h ⊢
   obtain⟨a,d,fs,h1,h2,hd,h3,h4⟩:=h
   exact⟨a,d,fs,h1,e _ _ h2,hd.same e,h3,Ĕ.same e ps _ h4⟩
theorem Ĕ.same(e:Same F F'):∀(ps:List PV) (xs:List V),Ĕ K F ps xs->Ĕ K F' ps xs
 | [],_,h=>by unfold Ĕ at h ⊢;exact h
 |p::ps,_,h=>by
  unfold Ĕ at h ⊢
  obtain⟨x,r,h1,h2,h3⟩:=h
  exact⟨x,r,h1,Rep.same e p x h2,Ĕ.same e ps r h3⟩
end
theorem Ĕ.pr:∀{ps:List PV} {vs:List V},Ĕ K F ps vs->Paired (Rep K F) ps vs
 | [],_,h=>by unfold Ĕ at h;subst h;exact .nil
 |p::ps,_,h=>by
  unfold Ĕ at h
  obtain⟨x,r,rfl,h2,h3⟩:=h
  exact .cons h2 (Ĕ.pr h3)
theorem Ĕ.of:∀{ps:List PV} {vs:List V},Paired (Rep K F) ps vs->Ĕ K F ps vs
 | [],_,.nil=>by unfold Ĕ;rfl
 |p::ps,_,.cons h t=>by unfold Ĕ;exact⟨_,_,rfl,h,Ĕ.of t⟩
theorem Ĕ.nil:Ĕ K F [] []:=Ĕ.of .nil
theorem Ĕ.cons{p:PV}{v:V}{ps:List PV}{vs:List V}(h:Rep K F p v)(t:Ĕ K F ps vs):Ĕ K F (p::ps) (v::vs):=Ĕ.of (.cons h t.pr)
theorem Ĕ.length{ps:List PV}{vs:List V}(h:Ĕ K F ps vs):ps.length=vs.length:=Paired.length h.pr
theorem bD{α β:Type}{G:α->β->Prop}:∀{l:List α} {m:List β} {i:Nat} {x:α},Paired G l m->l[i]?=some x->∃y,m[i]?=some y/\G x y
 |_,_,_,_,.nil,e=>by simp at e
 |_,_,0,_,.cons r _,e=>by simp at e;subst e;exact⟨_,rfl,r⟩
 |_,_,i+1,x,.cons _ t,e=>by
  obtain⟨y,h1,h2⟩:=bD (i:=i) (x:=x) t (by simpa using e)
  exact⟨y,by simpa using h1,h2⟩
theorem sU{α β:Type}{G:α->β->Prop}:∀{l l2:List α} {m m2:List β},Paired G l m->Paired G l2 m2->Paired G (l++l2) (m++m2)
 |_,_,_,_,.nil,t=>t
 |_,_,_,_,.cons r s,t=>.cons r (sU s t)
theorem zV{α β:Type}{G:α->β->Prop}:∀{l:List α} {m:List β} (n:Nat),Paired G l m->Paired G (l.take n) (m.take n)
 |_,_,0,_=>.nil
 |_,_,_+1,.nil=>.nil
 |_,_,n+1,.cons r t=>.cons r (zV n t)
theorem zW{α β:Type}{G:α->β->Prop}:∀{l:List α} {m:List β} (n:Nat),Paired G l m->Paired G (l.drop n) (m.drop n)
 |_,_,0,h=>h
 |_,_,_+1,.nil=>.nil
 |_,_,n+1,.cons _ t=>zW n t
theorem Es{α β:Type}{G:α->β->Prop}:∀{l:List α} {m:List β},Paired G l m->Paired G l.reverse m.reverse
 |_,_,.nil=>.nil
 |_,_,.cons r t=>by
  rw[List.reverse_cons,List.reverse_cons]
  exact sU (Es t) (.cons r .nil)
def Ĕ.append{ps qs:List PV}{vs us:List V}(h:Ĕ K F ps vs)(t:Ĕ K F qs us):Ĕ K F (ps++qs) (vs++us):=Ĕ.of (sU h.pr t.pr)
end
inductive Slot where
 |no|sh (p:PV)|ow (ps:List PV)|bw (ps:List PV)|rc (C:String) (ns:List Str) (ps:List PV)|ot (ps qs rs:List PV)|ol (bN:List (List PV))|fr (bN:List (List PV))|bn (qs rows:List PV)
abbrev Ļ:=List Slot
def Slot.own:Slot->Bool
 | .ow _=>true
 | .rc _ _ _=>true
 | .ot _ _ _=>true
 | .ol _=>true
 | .fr _=>true
 |_=>false
structure Ctx where
 B:Hp
 F₀:Hp
 /-- what is lent here:read,never changed,never kept -/
 L:Hp
 /-- which objects may be held as one's own:address,dict,class -/
 S:Addr->Addr->String->Prop
def nC(F:Hp)(a b:Addr):Hp:=λx=>if x=a\/x=b then none else F x
def jd(K:KK)(B F:Hp)(t:Bool)(ps qs rows:List PV)(v:V):Prop:=∃a b ys vs,F a=some (.lst (.ref b::ys))/\F b=some (.lst vs)/\B a=none/\B b=none/\a≠b/\Ĕ K (nC F a b) qs vs/\Ĕ K (nC F a b) rows ys/\((t=false/\ps=[]/\v=.ref a)\/t=true/\∃p xs,v=.ref p/\F p=some (.tup (xs ++ [.ref a]))/\Ĕ K (nC F a b) ps xs)
def ś(K:KK)(c:Ctx)(F H:Hp)(o:Option V):Slot->Prop
 | .no=>True
 | .sh p=>∃v,o=some v/\Rep K F p v
 | .ow ps=>∃a vs,o=some (.ref a)/\H a=some (.lst vs)/\F a=none/\c.B a=none/\Ĕ K F ps vs
 | .bw ps=>∃a vs,o=some (.ref a)/\c.L a=some (.lst vs)/\Ĕ K F ps vs
 | .rc C ns ps=>∃a dx fs,o=some (.ref a)/\H a=some (.ins (K.cm C) dx fs)/\F a=none/\c.B a=none/\fs.map (·.1)=ns/\Ĕ K F ps (fs.map (·.2))/\c.S a dx C
 | .ot ps qs rs=>∃p a xs vs ys,o=some (.ref p)/\F p=some (.tup (xs ++ .ref a::ys))/\Ĕ K F ps xs/\H a=some (.lst vs)/\F a=none/\c.B a=none/\Ĕ K F qs vs/\Ĕ K F rs ys
 | .ol bN=>∃(p:Addr) (as:List Addr),o=some (.ref p)/\F p=some (.lst (as.map V.ref))/\as.Nodup/\Paired (λ(a:Addr) (ps:List PV)=>∃vs,H a=some (.lst vs)/\F a=none/\c.B a=none/\Ĕ K F ps vs) as bN
 | .fr bN=>∃(p:Addr) (as:List Addr),o=some (.ref p)/\H p=some (.lst (as.map V.ref))/\F p=none/\c.B p=none/\as.Nodup/\Paired (λ(a:Addr) (ps:List PV)=>∃vs,F a=some (.lst vs)/\c.B a=none/\Ĕ K F ps vs) as bN
 | .bn qs rows=>∃v,o=some v/\jd K c.B F false [] qs rows v
def Slot.at_(F:Hp)(x:V)(a:Addr):Slot->Prop
 | .ot ps _ _=>∃p xs ys,x=.ref p/\F p=some (.tup (xs ++ .ref a::ys))/\xs.length=ps.length
 | .ol _=>∃(p:Addr) (as:List Addr),x=.ref p/\F p=some (.lst (as.map V.ref))/\a∈as
 | .ow _=>x=.ref a
 | .fr _=>x=.ref a
 | .rc _ _ _=>x=.ref a
 |_=>False
def ķ(F:Hp)(σ:L2.St)(ρ:Ļ)(i:Nat)(a:Addr):Prop:=∃s x,ρ[i]?=some s/\σ[i]?=some (some x)/\s.at_ F x a
structure Rel(K:KK)(c:Ctx)(F H:Hp)(σ:L2.St)(ρ:Ļ):Prop where
 sub:Same F H
 base:Same c.B H
 f0:Same c.F₀ F
 cO:∀a,c.B a≠none->c.F₀ a=none->F a=none
 lent:∀a u,c.L a=some u->H a=some u/\F a=none
 lb:∀a,c.B a=none->c.L a=none
 len:σ.length=ρ.length
 slot:∀(i:Nat) s,ρ[i]?=some s->ś K c F H ((σ[i]?).getD none) s
 sep:∀i j a,ķ F σ ρ i a->ķ F σ ρ j a->i=j
def cW(F:Hp)(σ:L2.St)(ρ:Ļ)(a:Addr):Prop:=∀i,¬ķ F σ ρ i a
section
variable{K:KK}{c:Ctx}{F F' H H':Hp}{σ:L2.St}{ρ:Ļ}{a:Addr}{o:HO}
def jV{s:Slot}{x:V}(h:s.at_ F x a):s.own=true:=by
 cases s<;>first|rfl|exact h.elim
def Kd{s:Slot}{x:V}(e:Same F F')(h:s.at_ F x a):s.at_ F' x a:=by
 cases s with
 |ot ps qs rs=>obtain⟨p,xs,ys,h1,h2,h3⟩:=h;exact⟨p,xs,ys,h1,e _ _ h2,h3⟩
 |ol bN=>obtain⟨p,as,h1,h2,h3⟩:=h;exact⟨p,as,h1,e _ _ h2,h3⟩
 |_=>exact h
theorem nD:∀{as bs:List Addr},as.map V.ref=bs.map V.ref->as=bs
 | [],[],_=>rfl
 | [],_::_,h=>by cases h
 |_::_,[],h=>by cases h
 |a::as,b::bs,h=>by
  injection h with h1 h2
  injection h1 with h1
  rw[h1,nD h2]
def mW{ps qs rs:List PV}{x:V}{b:Addr}(h:(Slot.ot ps qs rs).at_ F x a)(h':(Slot.ot ps qs rs).at_ F x b):a=b:=by
 obtain⟨p,xs,us,h1,h2,l1⟩:=h
 obtain⟨q,ys,ws,h3,h4,l2⟩:=h'
 rw[h1] at h3
 cases h3
 rw[h2] at h4
 have e:xs++V.ref a::us=ys++V.ref b::ws:=by
  injection h4 with h4
  injection h4
 have e2:=(List.append_inj e (by omega)).2
 injection e2 with e2
 injection e2
theorem sV{α β:Type}{G:α->β->Prop}:∀{l:List α} {m:List β} {x:α},Paired G l m->x∈l->∃y,y∈m/\G x y
 |_,_,_,.nil,h=>by simp at h
 |_,_,x,.cons r t,h=>by
  rcases List.mem_cons.mp h with rfl|h
  ·exact⟨_,List.mem_cons_self,r⟩
  ·obtain⟨y,h1,h2⟩:=sV t h
   exact⟨y,List.mem_cons_of_mem _ h1,h2⟩
theorem nF{α β:Type}{G G':α->β->Prop}:∀{l:List α} {m:List β},Paired G l m->(∀x y,x∈l->G x y->G' x y)->Paired G' l m
 |_,_,.nil,_=>.nil
 |_,_,.cons r t,h=>.cons (h _ _ List.mem_cons_self r) (nF t λx y hx=>h x y (List.mem_cons_of_mem _ hx))
def aN{a b:Addr}(e:Same F F'):Same (nC F a b) (nC F' a b):=λx u h=>by
 unfold nC at h ⊢
 split at h
 ·cases h
 ·rename_i n;rw[if_neg n];exact e x u h
def mX{a b:Addr}:Same (nC F a b) F:=λx u h=>by
 unfold nC at h
 split at h
 ·cases h
 ·exact h
def jW{a b x:Addr}{u:HO}(h:F x=some u)(h1:x≠a)(h2:x≠b):nC F a b x=some u:=by
 unfold nC
 rw[if_neg (λz=>z.elim h1 h2)]
 exact h
theorem jd.same{B:Hp}{t:Bool}{ps qs rows:List PV}{v:V}(h:jd K B F t ps qs rows v)(e:Same F F'):jd K B F' t ps qs rows v:=by
 obtain⟨a,b,ys,vs,h1,h2,h3,h4,h5,h6,h7,h8⟩:=h
 refine⟨a,b,ys,vs,e _ _ h1,e _ _ h2,h3,h4,h5,h6.same (aN e) qs vs,h7.same (aN e) rows ys,h8.imp id λ⟨z,p,xs,q1,q2,q3⟩=>⟨z,p,xs,q1,e _ _ q2,q3.same (aN e) ps xs⟩⟩
def jd.base{B B':Hp}{t:Bool}{ps qs rows:List PV}{v:V}(h:jd K B F t ps qs rows v)(e:Same B' B):jd K B' F t ps qs rows v:=by
 obtain⟨a,b,ys,vs,h1,h2,h3,h4,h5,h6,h7,h8⟩:=h
 exact⟨a,b,ys,vs,h1,h2,e.free h3,e.free h4,h5,h6,h7,h8⟩
def bnV(t:Bool)(ps qs rows:List PV):PV:=if t then .tup (ps ++ [.lst (.lst qs::rows)]) else .lst (.lst qs::rows)
def jd.rep{B:Hp}{t:Bool}{ps qs rows:List PV}{v:V}(h:jd K B F t ps qs rows v):Rep K F (bnV t ps qs rows) v:=by
 obtain⟨a,b,ys,vs,h1,h2,h3,h4,h5,h6,h7,h8⟩:=h
 have e1:Rep K F (.lst qs) (.ref b):=by unfold Rep;exact⟨b,vs,rfl,Ś.of h2,h6.same mX qs vs⟩
 have e2:Rep K F (.lst (.lst qs::rows)) (.ref a):=by unfold Rep;exact⟨a,_,rfl,Ś.of h1,Ĕ.cons e1 (h7.same mX rows ys)⟩
 rcases h8 with⟨rfl,rfl,rfl⟩|⟨rfl,p,xs,rfl,q2,q3⟩
 ·exact e2
 ·show Rep K F (.tup (ps ++ [.lst (.lst qs::rows)])) (.ref p)
  unfold Rep
  exact⟨p,_,rfl,dD.of q2,Ĕ.append (q3.same mX ps xs) (Ĕ.cons e2 Ĕ.nil)⟩
def ś.grow{s:Slot}{x:Option V}(h:ś K c F H x s)(eF:Same F F')(eH:∀b vs,(∃y,x=some y/\s.at_ F y b)->H b=some vs->F b=none->c.B b=none->H' b=some vs/\F' b=none):ś K c F' H' x s:=by
 cases s with
 |no=>trivial
 |sh p=>obtain⟨v,h1,h2⟩:=h;exact⟨v,h1,h2.same eF p v⟩
 |ow ps=>
  obtain⟨b,vs,h1,h2,h3,h4,h5⟩:=h
  obtain⟨e1,e2⟩:=eH b _ ⟨_,h1,rfl⟩ h2 h3 h4
  exact⟨b,vs,h1,e1,e2,h4,h5.same eF ps vs⟩
 |bw ps=>obtain⟨b,vs,h1,h2,h3⟩:=h;exact⟨b,vs,h1,h2,h3.same eF ps vs⟩
 |rc C ns ps=>
  obtain⟨b,dx,fs,h1,h2,h3,h4,h5,h6⟩:=h
  obtain⟨e1,e2⟩:=eH b _ ⟨_,h1,rfl⟩ h2 h3 h4
  exact⟨b,dx,fs,h1,e1,e2,h4,h5,h6.1.same eF ps _,h6.2⟩
 |ot ps qs rs=>
  obtain⟨p,b,xs,vs,ys,h1,h2,h3,h4,h5,h6,h7,h8⟩:=h
  obtain⟨e1,e2⟩:=eH b _ ⟨_,h1,p,xs,ys,rfl,h2,h3.length.symm⟩ h4 h5 h6
  exact⟨p,b,xs,vs,ys,h1,eF _ _ h2,h3.same eF ps xs,e1,e2,h6,h7.same eF qs vs,h8.same eF rs ys⟩
 |ol bN=>
  obtain⟨p,as,h1,h2,h3,h4⟩:=h
  refine⟨p,as,h1,eF _ _ h2,h3,nF h4 λb ps hb ⟨vs,k1,k2,k3,k4⟩=>?_⟩
  obtain⟨e1,e2⟩:=eH b _ ⟨_,h1,p,as,rfl,h2,hb⟩ k1 k2 k3
  exact⟨vs,e1,e2,k3,k4.same eF ps vs⟩
 |fr bN=>
  obtain⟨b,as,h1,h2,h3,h4,h5,h6⟩:=h
  obtain⟨e1,e2⟩:=eH b _ ⟨_,h1,rfl⟩ h2 h3 h4
  exact⟨b,as,h1,e1,e2,h4,h5,nF h6 λd ps _ ⟨vs,k1,k2,k3⟩=>⟨vs,eF _ _ k1,k2,k3.same eF ps vs⟩⟩
 |bn qs rows=>obtain⟨v,h1,h2⟩:=h;exact⟨v,h1,h2.same eF⟩
def ś.owned{s:Slot}{y:V}(h:ś K c F H (some y) s)(ha:s.at_ F y a):∃u,H a=some u/\F a=none/\c.B a=none:=by
 cases s with
 |no=>exact ha.elim
 |sh p=>exact ha.elim
 |bw ps=>exact ha.elim
 |bn qs rows=>exact ha.elim
 |fr bN=>
  obtain⟨b,as,h1,h2,h3,h4,h5,h6⟩:=h
  rw[show y=.ref a from ha] at h1
  cases h1
  exact⟨_,h2,h3,h4⟩
 |ow ps=>
  obtain⟨b,vs,h1,h2,h3,h4,h5⟩:=h
  rw[show y=.ref a from ha] at h1
  cases h1
  exact⟨_,h2,h3,h4⟩
 |rc C ns ps=>
  obtain⟨b,dx,fs,h1,h2,h3,h4,h5,h6⟩:=h
  rw[show y=.ref a from ha] at h1
  cases h1
  exact⟨_,h2,h3,h4⟩
 |ot ps qs rs=>
  obtain⟨p,b,xs,vs,ys,h1,h2,h3,h4,h5,h6,h7,h8⟩:=h
  cases h1
  cases mW (ps:=ps) (qs:=qs) (rs:=rs) ha ⟨p,xs,ys,rfl,h2,h3.length.symm⟩
  exact⟨_,h4,h5,h6⟩
 |ol bN=>
  obtain⟨p,as,h1,h2,h3,h4⟩:=h
  cases h1
  obtain⟨q,bs,e1,e2,e3⟩:=ha
  cases e1
  rw[h2] at e2
  have e:as=bs:=nD (by injection e2 with e2;injection e2)
  subst e
  obtain⟨ps,_,vs,k1,k2,k3,_⟩:=sV h4 e3
  exact⟨_,k1,k2,k3⟩
def ś.back{s:Slot}{y:V}(h:ś K c F H (some y) s)(e:Same F F')(ha:s.at_ F' y a):s.at_ F y a:=by
 cases s with
 |ot ps qs rs=>
  obtain⟨p,b,xs,vs,ys,h1,h2,h3,h4,h5,h6,h7,h8⟩:=h
  cases h1
  cases mW (ps:=ps) (qs:=qs) (rs:=rs) ha ⟨p,xs,ys,rfl,e _ _ h2,h3.length.symm⟩
  exact⟨p,xs,ys,rfl,h2,h3.length.symm⟩
 |ol bN=>
  obtain⟨p,as,h1,h2,h3,h4⟩:=h
  cases h1
  obtain⟨q,bs,e1,e2,e3⟩:=ha
  cases e1
  rw[e _ _ h2] at e2
  have z:as=bs:=nD (by injection e2 with e2;injection e2)
  subst z
  exact⟨p,as,rfl,h2,e3⟩
 |_=>exact ha
def Et{i:Nat}{x:V}(e:σ[i]?=some (some x)):(σ[i]?).getD none=some x:=by rw[e];rfl
def xR{i:Nat}{x:V}(e:(σ[i]?).getD none=some x):σ[i]?=some (some x):=by
 cases q:σ[i]? with
 |none=>rw[q] at e;cases e
 |some y=>rw[q] at e;exact congrArg some e
theorem Rel.owned(r:Rel K c F H σ ρ){i:Nat}(h:ķ F σ ρ i a):(∃u,H a=some u)/\F a=none/\c.B a=none:=by
 obtain⟨s,x,h1,h2,h3⟩:=h
 have q:=r.slot i s h1
 rw[Et h2] at q
 obtain⟨u,q⟩:=q.owned h3
 exact⟨⟨u,q.1⟩,q.2⟩
theorem Rel.back(r:Rel K c F H σ ρ)(e:Same F F'){i:Nat}(h:ķ F' σ ρ i a):ķ F σ ρ i a:=by
 obtain⟨s,x,h1,h2,h3⟩:=h
 have q:=r.slot i s h1
 rw[Et h2] at q
 exact⟨s,x,h1,h2,q.back e h3⟩
def Rel.Vm(r:Rel K c F H σ ρ)(e:Same F F'):∀i j a,ķ F' σ ρ i a->ķ F' σ ρ j a->i=j:=λi j a h1 h2=>r.sep i j a (r.back e h1) (r.back e h2)
def Rel.je(r:Rel K c F H σ ρ)(e:Same F F')(h:cW F σ ρ a):cW F' σ ρ a:=λi q=>h i (r.back e q)
def Rel.fresh(r:Rel K c F H σ ρ)(h:H a=none):cW F σ ρ a:=λi q=>by
 obtain⟨⟨u,e⟩,_⟩:=r.owned q
 rw[h] at e;cases e
def Rel.alloc(r:Rel K c F H σ ρ)(h:H a=none):Rel K c (upd F a o) (upd H a o) σ ρ where
 sub:=λb u e=>by
  by_cases hb:b=a
  ·subst hb;rw[ĝ] at e ⊢;exact e
  ·rw[Ė hb] at e ⊢;exact r.sub b u e
 base:=λb u e=>by
  have hb:b≠a:=λz=>by rw[z] at e;rw[r.base _ _ e] at h;cases h
  rw[Ė hb];exact r.base b u e
 f0:=fun b u e=>by
   have hb:b≠a:=λz=>by rw[z] at e;rw[r.sub _ _ (r.f0 _ _ e)] at h;cases h
   rw[Ė hb];exact r.f0 b u e
 cO:=λb h1 h2=>by
  have hb:b≠a:=λz=>by
   subst z
   cases q:c.B b with
   |none=>exact h1 q
   |some u=>rw[r.base _ _ q] at h;cases h
  rw[Ė hb];exact r.cO b h1 h2
 lent:=λb u e=>by
  obtain⟨h1,h2⟩:=r.lent b u e
  have hb:b≠a:=λz=>by rw[z,h] at h1;cases h1
  rw[Ė hb,Ė hb];exact⟨h1,h2⟩
 lb:=r.lb
 len:=r.len
 slot:=λi s e=>by
  have hF:F a=none:=r.sub.free h
  refine(r.slot i s e).grow (Same.upd hF) λb u _ h1 h2 h3=>?_
  have hb:b≠a:=λz=>by rw[z,h] at h1;cases h1
  rw[Ė hb,Ė hb];exact⟨h1,h2⟩
 sep:=r.Vm (Same.upd (r.sub.free h))
def Rel.made(r:Rel K c F H σ ρ)(h:H a=none):Rel K c F (upd H a o) σ ρ where
 sub:=r.sub.trans (Same.upd h)
 base:=r.base.trans (Same.upd h)
 f0:=r.f0
 cO:=r.cO
 lent:=λb u e=>⟨Same.upd h b u (r.lent b u e).1,(r.lent b u e).2⟩
 lb:=r.lb
 len:=r.len
 slot:=λi s e=>(r.slot i s e).grow (Same.refl F) λb u _ h1 h2 h3=>⟨Same.upd h b u h1,h2⟩
 sep:=r.sep
def Rel.freeze(r:Rel K c F H σ ρ)(h:H a=some o)(hB:c.B a=none)(hF:F a=none)(hf:cW F σ ρ a):Rel K c (upd F a o) H σ ρ where
 sub:=λb u e=>by
  by_cases hb:b=a
  ·subst hb;rw[ĝ] at e;rw[h];exact e
  ·rw[Ė hb] at e;exact r.sub b u e
 base:=r.base
 f0:=r.f0.trans (Same.upd hF)
 cO:=λb h1 h2=>by
  have hb:b≠a:=λz=>h1 (by rw[z];exact hB)
  rw[Ė hb];exact r.cO b h1 h2
 lent:=λb u e=>by
  have hb:b≠a:=λz=>by rw[z,r.lb a hB] at e;cases e
  rw[Ė hb];exact r.lent b u e
 lb:=r.lb
 len:=r.len
 slot:=λi s e=>(r.slot i s e).grow (Same.upd hF) λb' u' ⟨y,e1',ha⟩ h1 h2 h3=>by
  have hb:b'≠a:=λz=>by
   subst z
   exact hf i ⟨s,y,e,xR e1',ha⟩
  rw[Ė hb];exact⟨h1,h2⟩
 sep:=r.Vm (Same.upd hF)
def ż{α:Type}{l:List α}{i j:Nat}{x y:α}(h:(l.set i x)[j]?=some y):(j=i/\y=x/\i<l.length)\/(j≠i/\l[j]?=some y):=by
 by_cases hj:j=i
 ·subst hj
  have hl:j<l.length:=by
   have:=(List.getElem?_eq_some_iff.mp h).1
   simpa using this
  rw[List.getElem?_set_self hl] at h
  exact .inl ⟨rfl,(Option.some.inj h).symm,hl⟩
 ·rw[List.getElem?_set_ne (Ne.symm hj)] at h
  exact .inr ⟨hj,h⟩
def xT{l:L2.St}{i:Nat}{x:Option V}(h:i<l.length):((l.set i x)[i]?).getD none=x:=by rw[List.getElem?_set_self h];rfl
def zX{l:L2.St}{i j:Nat}{x:Option V}(h:j≠i):((l.set i x)[j]?).getD none=(l[j]?).getD none:=by rw[List.getElem?_set_ne (Ne.symm h)]
def ķ.off{i j:Nat}{x:Option V}{s:Slot}(h:ķ F (σ.set i x) (ρ.set i s) j a)(hj:j≠i):ķ F σ ρ j a:=by
 obtain⟨s',y,h1,h2,h3⟩:=h
 rw[List.getElem?_set_ne (Ne.symm hj)] at h1 h2
 exact⟨s',y,h1,h2,h3⟩
def Rel.put(r:Rel K c F H σ ρ){i:Nat}{x:Option V}{s:Slot}(hs:s.own=false)(h:ś K c F H x s):Rel K c F H (σ.set i x) (ρ.set i s) where
 sub:=r.sub
 base:=r.base
 f0:=r.f0
 cO:=r.cO
 lent:=r.lent
 lb:=r.lb
 len:=by simpa using r.len
 slot:=λj s' e=>by
  rcases ż e with⟨rfl,rfl,hl⟩|⟨hj,e⟩
  ·rw[xT (by rw[r.len];exact hl)];exact h
  ·rw[zX hj];exact r.slot j s' e
 sep:=λj k b h1 h2=>by
  have off:∀{j},ķ F (σ.set i x) (ρ.set i s) j b->j≠i:=fun{j} q z=>by
   subst z
   obtain⟨s',y,q1,_,q2⟩:=q
   rcases ż q1 with⟨_,rfl,_⟩|⟨q,_⟩
   ·have:=jV q2;rw[hs] at this;cases this
   ·exact q rfl
  exact r.sep j k b (h1.off (off h1)) (h2.off (off h2))
def Rel.zY(r:Rel K c F H σ ρ){i:Nat}{s:Slot}(hs:s.own=false)(h:ś K c F H ((σ[i]?).getD none) s):Rel K c F H σ (ρ.set i s) where
 sub:=r.sub
 base:=r.base
 f0:=r.f0
 cO:=r.cO
 lent:=r.lent
 lb:=r.lb
 len:=by simpa using r.len
 slot:=λj s' e=>by
  rcases ż e with⟨rfl,rfl,hl⟩|⟨hj,e⟩
  ·exact h
  ·exact r.slot j s' e
 sep:=λj k b h1 h2=>by
  have off:∀{j},ķ F σ (ρ.set i s) j b->ķ F σ ρ j b:=fun{j} ⟨s',y,q1,q3,q2⟩=>by
   rcases ż q1 with⟨_,rfl,_⟩|⟨_,q⟩
   ·have:=jV q2;rw[hs] at this;cases this
   ·exact⟨s',y,q,q3,q2⟩
  exact r.sep j k b (off h1) (off h2)
def Rel.Ke(r:Rel K c F H σ ρ){i:Nat}{x:V}{s:Slot}(h:ś K c F H (some x) s)(hf:∀a,s.at_ F x a->cW F σ ρ a):Rel K c F H (σ.set i (some x)) (ρ.set i s) where
 sub:=r.sub
 base:=r.base
 f0:=r.f0
 cO:=r.cO
 lent:=r.lent
 lb:=r.lb
 len:=by simpa using r.len
 slot:=λj s' e=>by
  rcases ż e with⟨rfl,rfl,hl⟩|⟨hj,e⟩
  ·rw[xT (by rw[r.len];exact hl)];exact h
  ·rw[zX hj];exact r.slot j s' e
 sep:=λj k b h1 h2=>by
  have Vn:∀{j},ķ F (σ.set i (some x)) (ρ.set i s) j b->(j=i/\s.at_ F x b)\/(j≠i/\ķ F σ ρ j b):=fun{j} q=>by
   by_cases hj:j=i
   ·subst hj
    obtain⟨s',y,q1,q2,q3⟩:=q
    rcases ż q2 with⟨_,e,_⟩|⟨z,_⟩
    ·cases e
     rcases ż q1 with⟨_,e,_⟩|⟨z,_⟩
     ·cases e
      exact .inl ⟨rfl,q3⟩
     ·exact absurd rfl z
    ·exact absurd rfl z
   ·exact .inr ⟨hj,q.off hj⟩
  rcases Vn h1 with⟨e1,z1⟩|⟨e1,o1⟩
  ·rcases Vn h2 with⟨e2,z2⟩|⟨e2,o2⟩
   ·rw[e1,e2]
   ·exact absurd o2 (hf b z1 k)
  ·rcases Vn h2 with⟨e2,z2⟩|⟨e2,o2⟩
   ·exact absurd o1 (hf b z2 j)
   ·exact r.sep j k b o1 o2
def Rel.Vo(r:Rel K c F H σ ρ){i:Nat}{s:Slot}(ho:ķ F σ ρ i a)(h:ś K c F (upd H a o) ((σ[i]?).getD none) s)(hs:∀x b,σ[i]?=some (some x)->s.at_ F x b->ķ F σ ρ i b):Rel K c F (upd H a o) σ (ρ.set i s) where
 sub:=λb u e=>by
  have hb:b≠a:=λz=>by rw[z,(r.owned ho).2.1] at e;cases e
  rw[Ė hb];exact r.sub b u e
 base:=λb u e=>by
  have hb:b≠a:=λz=>by rw[z,(r.owned ho).2.2] at e;cases e
  rw[Ė hb];exact r.base b u e
 f0:=r.f0
 cO:=r.cO
 lent:=λb u e=>by
  have hb:b≠a:=λz=>by rw[z,r.lb a (r.owned ho).2.2] at e;cases e
  rw[Ė hb];exact r.lent b u e
 lb:=r.lb
 len:=by simpa using r.len
 slot:=λj s' e=>by
  rcases ż e with⟨rfl,rfl,hl⟩|⟨hj,e⟩
  ·exact h
  ·refine(r.slot j s' e).grow (Same.refl F) λb u ⟨y,e1,e2⟩ h1 h2 h3=>?_
   have hb:b≠a:=λz=>by
    subst z
    exact hj (r.sep j i b ⟨s',y,e,xR e1,e2⟩ ho)
   exact⟨by rw[Ė hb];exact h1,h2⟩
 sep:=λj k b h1 h2=>by
  have off:∀{j},ķ F σ (ρ.set i s) j b->ķ F σ ρ j b:=fun{j} ⟨s',y,q1,q3,q2⟩=>by
   rcases ż q1 with⟨e,rfl,_⟩|⟨_,q⟩
   ·subst e
    exact hs y b q3 q2
   ·exact⟨s',y,q,q3,q2⟩
  exact r.sep j k b (off h1) (off h2)
def Rel.write(r:Rel K c F H σ ρ){i:Nat}{s:Slot}(ho:ķ F σ ρ i a)(hx:σ[i]?=some (some (.ref a)))(h:ś K c F (upd H a o) (some (.ref a)) s)(hs:∀b,s.at_ F (.ref a) b->b=a):Rel K c F (upd H a o) σ (ρ.set i s):=
 r.Vo ho (by rw[hx];exact h) λx b e q=>by rw[hx] at e;cases e;rw[hs b q];exact ho
structure Gr(F H F' H':Hp):Prop where
 h:Same H H'
 f:Same F F'
 sub:Same F' H'
 out:∀a,H a≠none->F a=none->F' a=none
def Rel.call(r:Rel K c F H σ ρ)(g:Gr F H F' H'):Rel K c F' H' σ ρ where
 sub:=g.sub
 base:=r.base.trans g.h
 f0:=r.f0.trans g.f
 cO:=λb h1 h2=>by
  refine g.out b (λz=>h1 ?_) (r.cO b h1 h2)
  cases q:c.B b with
  |none=>rfl
  |some u=>rw[r.base _ _ q] at z;cases z
 lent:=λb u e=>⟨g.h b u (r.lent b u e).1,g.out b (by rw[(r.lent b u e).1];intro z;cases z) (r.lent b u e).2⟩
 lb:=r.lb
 len:=r.len
 slot:=λi s e=>(r.slot i s e).grow g.f λb u _ h1 h2 h3=>⟨g.h b u h1,g.out b (by rw[h1];intro z;cases z) h2⟩
 sep:=r.Vm g.f
def ctx0(F H:Hp):Ctx:=⟨H,F,λa=>match F a with
 |none=>H a
 |some _=>none,λ_ _ _=>True⟩
def cF{a:Addr}{u:HO}(h:(ctx0 F H).L a=some u):H a=some u/\F a=none:=by
 unfold ctx0 at h
 dsimp only at h
 cases q:F a with
 |none=>rw[q] at h;exact⟨h,rfl⟩
 |some o=>rw[q] at h;cases h
def Rel.gr(r:Rel K (ctx0 F H) F' H' σ ρ):Gr F H F' H':=⟨r.base,r.f0,r.sub,r.cO⟩
def aW(K:KK)(F H:Hp):Slot->V->Prop
 | .sh p,v=>Rep K F p v
 | .bw ps,v=>∃a vs,v=.ref a/\H a=some (.lst vs)/\F a=none/\Ĕ K F ps vs
 |_,_=>False
def aW.slot{s:Slot}{v:V}(h:aW K F H s v):ś K (ctx0 F H) F H (some v) s/\s.own=false:=by
 cases s with
 |sh p=>exact⟨⟨v,rfl,h⟩,rfl⟩
 |bw ps=>
  obtain⟨a,vs,rfl,h1,h2,h3⟩:=h
  refine⟨⟨a,vs,rfl,?_,h3⟩,rfl⟩
  show(match F a with|none=>H a|some _=>none)=_
  rw[h2]
  exact h1
 |no=>exact h.elim
 |ow ps=>exact h.elim
 |rc C ns ps=>exact h.elim
 |ot ps qs rs=>exact h.elim
 |ol bN=>exact h.elim
 |fr bN=>exact h.elim
 |bn qs rows=>exact h.elim
def startP(n:Nat)(as:List Slot):Ļ:=as++List.replicate (n-as.length) .no
theorem Rel.start{N:List Str}{as:List Slot}{vs:List V}(s:Same F H)(h:Paired (aW K F H) as vs):Rel K (ctx0 F H) F H (L2.start N vs) (startP N.length as) where
 sub:=s
 base:=Same.refl H
 f0:=Same.refl F
 cO:=λ_ _ h=>h
 lent:=λ_ _ e=>cF e
 lb:=fun a e=>by
   cases q:(ctx0 F H).L a with
   |none=>rfl
   |some u=>
    have e':H a=none:=e
    rw[(cF q).1] at e'
    cases e'
 len:=by unfold L2.start startP;simp[Paired.length h]
 slot:=λi s' e=>by
  unfold startP at e
  by_cases hi:i<as.length
  ·rw[List.getElem?_append_left hi] at e
   obtain⟨v,h1,h2⟩:=bD h e
   have hv:((L2.start N vs)[i]?).getD none=some v:=by
    unfold L2.start
    rw[List.getElem?_append_left (by simpa[<-Paired.length h] using hi),List.getElem?_map,h1];rfl
   rw[hv]
   exact(aW.slot h2).1
  ·rw[List.getElem?_append_right (by omega),List.getElem?_replicate] at e
   split at e
   ·cases e;trivial
   ·cases e
 sep:=λi j a h1 _=>by
  obtain⟨s',y,h1,_,h2⟩:=h1
  have h2:=jV h2
  exfalso
  unfold startP at h1
  by_cases hi:i<as.length
  ·rw[List.getElem?_append_left hi] at h1
   obtain⟨v,_,h3⟩:=bD h h1
   rw[(aW.slot h3).2] at h2
   cases h2
  ·rw[List.getElem?_append_right (by omega),List.getElem?_replicate] at h1
   split at h1
   ·cases h1;cases h2
   ·cases h1
end
structure PX where
 C:String
 ns:List Str
 ps:List PV
def Kf(K:KK)(F:Hp)(x:PX)(C:Value)(d:Option Addr):Prop:=C=.ref (K.cm x.C)/\∃fs,vq F d fs/\fs.map (·.1)=x.ns/\Ĕ K F x.ps (fs.map (·.2))
inductive Res(α:Type) where
 |ok (a:α) (ρ:Ļ)|exc (x:PX) (ρ:Ļ)|bad
def Res.bind{α β:Type}(r:Res α)(f:α->Ļ->Res β):Res β:= match r with
 | .ok a ρ=>f a ρ
 | .exc x ρ=>.exc x ρ
 | .bad=>.bad
@[simp] theorem Res.Ž{α β:Type}{a:α}{ρ:Ļ}{f:α->Ļ->Res β}:(Res.ok a ρ).bind f=f a ρ:= rfl
@[simp] theorem Res.Zae{α β:Type}{x:PX}{ρ:Ļ}{f:α->Ļ->Res β}:(Res.exc x ρ:Res α).bind f=.exc x ρ:= rfl
@[simp] theorem Res.Zaf{α β:Type}{f:α->Ļ->Res β}:(Res.bad:Res α).bind f=.bad:=rfl
def Res.mY{α:Type}(o:Option α)(ρ:Ļ):Res α:= match o with
 |some a=>.ok a ρ
 |none=>.bad
@[simp] theorem Res.Zag{α:Type}{a:α}{ρ:Ļ}:Res.mY (some a) ρ=.ok a ρ:= rfl
@[simp] theorem Res.Zah{α:Type}{ρ:Ļ}:Res.mY (none:Option α) ρ=.bad:=rfl
abbrev M(α:Type):=Ļ->Res α
inductive RV where
 |sh (p:PV)|ow (ps:List PV)|ot (ps qs rs:List PV)|bn (t:Bool) (ps qs rows:List PV)
def RV.val:RV->PV
 | .sh p=>p
 | .ow ps=>.lst ps
 | .ot ps qs rs=>.tup (ps ++ .lst qs::rs)
 | .bn t ps qs rows=>bnV t ps qs rows
def RV.slot:RV->Slot
 | .sh p=>.sh p
 | .ow ps=>.ow ps
 | .ot ps qs rs=>.ot ps qs rs
 | .bn t ps qs rows=>if t then .sh (bnV t ps qs rows) else .bn qs rows
abbrev RR(α β:Type):=Ctx->L2.St->Ļ->Hp->Hp->α->β->Prop
def rV(K:KK):RR PV V:=λ_ _ _ F _ p v=>Rep K F p v
def zZ(K:KK)(F H:Hp)(p:PV)(v:V):Prop:=match p with
 | .lst ps=>∃a vs,v=.ref a/\H a=some (.lst vs)/\Ĕ K F ps vs
 | .ins C ns ps=>∃a dx fs,v=.ref a/\H a=some (.ins (K.cm C) dx fs)/\fs.map (·.1)=ns/\Ĕ K F ps (fs.map (·.2))
 |_=>False
def rR(K:KK):RR PV V:=λ_ _ _ F H p v=>Rep K F p v\/zZ K F H p v
def rA(K:KK):RR (List Slot) (List V):=λ_ _ _ F H as vs=>Paired (aW K F H) as vs
def Held(K:KK)(c:Ctx)(σ:L2.St)(ρ:Ļ)(F H:Hp)(ps:List PV)(v:V):Prop:=∃a vs,v=.ref a/\H a=some (.lst vs)/\F a=none/\c.B a=none/\cW F σ ρ a/\Ĕ K F ps vs
def z_(K:KK)(c:Ctx)(σ:L2.St)(ρ:Ļ)(F H:Hp)(ps qs rs:List PV)(v:V):Prop:=∃p a xs vs ys,v=.ref p/\F p=some (.tup (xs ++ .ref a::ys))/\Ĕ K F ps xs/\H a=some (.lst vs)/\F a=none/\c.B a=none/\cW F σ ρ a/\Ĕ K F qs vs/\Ĕ K F rs ys
def rO(K:KK):RR RV V:=λc σ ρ F H r v=>match r with
 | .sh p=>Rep K F p v
 | .ow ps=>Held K c σ ρ F H ps v
 | .ot ps qs rs=>z_ K c σ ρ F H ps qs rs v
 | .bn t ps qs rows=>jd K c.B F t ps qs rows v
def rL(K:KK):RR (List PV) (List V):=λ_ _ _ F _ p v=>Ĕ K F p v
def rRL(K:KK):RR (List PV) (List V):=λc σ ρ F H p v=>Paired (rR K c σ ρ F H) p v
def rB:RR Bool Bool:=λ_ _ _ _ _ p v=>p=v
def rI:RR (Option Int) (Option Int):=λ_ _ _ _ _ p v=>p=v
def aG{α β:Type}(K:KK)(E:L2.St->XK)(R:RR α β)(c:Ctx)(F H:Hp)(σ:L2.St)(Q:β->Hp->Prop):Res α->Prop
 | .ok p ρ'=>∀v F' H',Rel K c F' H' σ ρ'->Same F F'->Same H H'->R c σ ρ' F' H' p v->Q v H'
 | .exc x ρ'=>∀C d F' H',Rel K c F' H' σ ρ'->Same F F'->Kf K F' x C d->E σ C d H'
 | .bad=>False
def tG{α β:Type}(K:KK)(E:L2.St->XK)(R:RR α β)(m:M α):L2.St->Hp->(β->Hp->Prop)->Prop:=λσ H Q=>∃c F ρ,Rel K c F H σ ρ/\aG K E R c F H σ Q (m ρ)
section
variable{α β α' β':Type}{K:KK}{E:L2.St->XK}{R:RR α β}{R':RR α' β'}{c:Ctx}{F F1 H H1:Hp}{σ:L2.St}
def aG.mono{Q:β->Hp->Prop}{r:Res α}(h:aG K E R c F H σ Q r)(sF:Same F F1)(sH:Same H H1):aG K E R c F1 H1 σ Q r:=by
 cases r with
 |ok p ρ'=>exact λv F' H' rel s1 s2 q=>h v F' H' rel (sF.trans s1) (sH.trans s2) q
 |exc x ρ'=>exact λC d F' H' rel s1 q=>h C d F' H' rel (sF.trans s1) q
 |bad=>exact h
theorem aG.bind{Q:β->Hp->Prop}{Q':β'->Hp->Prop}{r:Res α}{f:α->Ļ->Res α'}(h:aG K E R' c F H σ Q' (r.bind f))
 (k:∀p ρ1 v F1 H1,Rel K c F1 H1 σ ρ1->Same F F1->Same H H1->R c σ ρ1 F1 H1 p v->aG K E R' c F1 H1 σ Q' (f p ρ1)->Q v H1):aG K E R c F H σ Q r:=by
 cases r with
 |ok p ρ'=>exact λv F' H' rel s1 s2 q=>k p ρ' v F' H' rel s1 s2 q (aG.mono (show aG K E R' c F H σ Q' (f p ρ') from h) s1 s2)
 |exc x ρ'=>exact h
 |bad=>exact h
theorem aG.rel{R2:RR α β}{Q:β->Hp->Prop}{r:Res α}(h:aG K E R c F H σ Q r)(k:∀p ρ' v F' H',Rel K c F' H' σ ρ'->R2 c σ ρ' F' H' p v->R c σ ρ' F' H' p v):aG K E R2 c F H σ Q r:=by
 cases r with
 |ok p ρ'=>exact λv F' H' rel s1 s2 q=>h v F' H' rel s1 s2 (k p ρ' v F' H' rel q)
 |exc x ρ'=>exact h
 |bad=>exact h
end
abbrev tV(K:KK)(E:L2.St->XK)(m:M PV):TE:=tG K E (rV K) m
abbrev tR(K:KK)(E:L2.St->XK)(m:M PV):TE:=tG K E (rR K) m
abbrev tO(K:KK)(E:L2.St->XK)(m:M RV):TE:=tG K E (rO K) m
abbrev tL(K:KK)(E:L2.St->XK)(m:M (List PV)):TA:=tG K E (rL K) m
abbrev tA(K:KK)(E:L2.St->XK)(m:M (List Slot)):TA:=tG K E (rA K) m
abbrev Kg(K:KK)(E:L2.St->XK)(m:M (List PV)):TA:=tG K E (rRL K) m
abbrev tB(K:KK)(E:L2.St->XK)(m:M Bool):TT:=tG K E rB m
inductive Fl where
 |nx|bk|ct|rt (r:RV)
def ŧ(K:KK)(E:L2.St->XK)(c:Ctx)(F:Hp)(D:Ends):Res Fl->Prop
 | .ok .nx ρ'=>∀σ' F' H',Rel K c F' H' σ' ρ'->Same F F'->D.nx σ' H'
 | .ok .bk ρ'=>∀σ' F' H',Rel K c F' H' σ' ρ'->Same F F'->D.bk σ' H'
 | .ok .ct ρ'=>∀σ' F' H',Rel K c F' H' σ' ρ'->Same F F'->D.ct σ' H'
 | .ok (.rt r) ρ'=>∀v σ' F' H',Rel K c F' H' σ' ρ'->Same F F'->rO K c σ' ρ' F' H' r v->D.rt v H'
 | .exc x ρ'=>∀σ' C d F' H',Rel K c F' H' σ' ρ'->Same F F'->Kf K F' x C d->E σ' C d H'
 | .bad=>False
def tS(K:KK)(E:L2.St->XK)(m:M Fl):TS:=λD σ H=>∃c F ρ,Rel K c F H σ ρ/\ŧ K E c F D (m ρ)
section
variable{K:KK}{E:L2.St->XK}{c:Ctx}{F F1:Hp}{D:Ends}
def ŧ.mono{r:Res Fl}(h:ŧ K E c F D r)(sF:Same F F1):ŧ K E c F1 D r:=by
 cases r with
 |ok f ρ'=>
  cases f with
  |rt v=>exact λv σ' F' H' rel s1 q=>h v σ' F' H' rel (sF.trans s1) q
  |nx=>exact λσ' F' H' rel s1=>h σ' F' H' rel (sF.trans s1)
  |bk=>exact λσ' F' H' rel s1=>h σ' F' H' rel (sF.trans s1)
  |ct=>exact λσ' F' H' rel s1=>h σ' F' H' rel (sF.trans s1)
 |exc x ρ'=>exact λσ' C d F' H' rel s1 q=>h σ' C d F' H' rel (sF.trans s1) q
 |bad=>exact h
theorem ŧ.bind{α β:Type}{R:RR α β}{σ:L2.St}{H:Hp}{Q:β->Hp->Prop}{r:Res α}{f:α->Ļ->Res Fl}(h:ŧ K E c F D (r.bind f))
 (k:∀p ρ1 v F1 H1,Rel K c F1 H1 σ ρ1->Same F F1->R c σ ρ1 F1 H1 p v->ŧ K E c F1 D (f p ρ1)->Q v H1):aG K E R c F H σ Q r:=by
 cases r with
 |ok p ρ'=>exact λv F' H' rel s1 s2 q=>k p ρ' v F' H' rel s1 q (ŧ.mono (show ŧ K E c F D (f p ρ') from h) s1)
 |exc x ρ'=>exact λC d F' H' rel s1 q=>h σ C d F' H' rel s1 q
 |bad=>exact h
end
end P
namespace P
open PySem PySem.Spec PyProof.Rows L2 M2
def Ğ(i:Nat):M PV:=λρ=>match ρ[i]? with
 |some (.sh p)=>.ok p ρ
 |some (.ow ps)=>.ok (.lst ps) (ρ.set i (.sh (.lst ps)))
 |some (.bn qs rows)=>.ok (.lst (.lst qs::rows)) ρ
 |_=>.bad
def Ā(i:Nat):M PV:=λρ=>match ρ[i]? with
 |some (.sh p)=>.ok p ρ
 |some (.ow ps)=>.ok (.lst ps) ρ
 |some (.bw ps)=>.ok (.lst ps) ρ
 |some (.rc C ns ps)=>.ok (.ins C ns ps) ρ
 |some (.bn qs rows)=>.ok (.lst (.lst qs::rows)) ρ
 |_=>.bad
def fV(i:Nat):M RV:=λρ=>match ρ[i]? with
 |some (.sh p)=>.ok (.sh p) ρ
 |some (.ow ps)=>.ok (.ow ps) (ρ.set i .no)
 |_=>.bad
def mC(p:PV):M PV:=λρ=>.ok p ρ
def Ņ(m:M PV):M RV:=λρ=>(m ρ).bind λp ρ1=>.ok (.sh p) ρ1
def Ď(m:M RV):M PV:=λρ=>(m ρ).bind λr ρ1=>.ok r.val ρ1
section
variable{K:KK}{c:Ctx}{F H:Hp}{σ:L2.St}{ρ:Ļ}
def at_of{i:Nat}{x:V}(h:(σ[i]?).getD none=some x):σ[i]?=some (some x):=by
 cases q:σ[i]? with
 |none=>rw[q] at h;cases h
 |some y=>rw[q] at h;exact congrArg some h
theorem Rel.ow(r:Rel K c F H σ ρ){i:Nat}{ps:List PV}(e:ρ[i]?=some (.ow ps)):∃a vs,σ[i]?=some (some (.ref a))/\H a=some (.lst vs)/\F a=none/\c.B a=none/\Ĕ K F ps vs/\ķ F σ ρ i a:=by
 obtain⟨a,vs,h1,h2,h3,h4,h5⟩:=r.slot i _ e
 exact⟨a,vs,at_of h1,h2,h3,h4,h5,⟨_,_,e,at_of h1,rfl⟩⟩
def Rel.move(r:Rel K c F H σ ρ){i:Nat}{a:Addr}(h:ķ F σ ρ i a):Rel K c F H σ (ρ.set i .no)/\cW F σ (ρ.set i .no) a:=by
 refine⟨r.zY rfl trivial,λj ⟨s,y,q1,q3,q2⟩=>?_⟩
 rcases ż q1 with⟨_,rfl,_⟩|⟨hj,q⟩
 ·exact q2.elim
 ·exact hj (r.sep j i a ⟨s,y,q,q3,q2⟩ h)
def Rel.share(r:Rel K c F H σ ρ){i:Nat}{ps:List PV}(e:ρ[i]?=some (.ow ps)):∃a vs,σ[i]?=some (some (.ref a))/\F a=none/\Rep K (upd F a (.lst vs)) (.lst ps) (.ref a)/\Rel K c (upd F a (.lst vs)) H σ (ρ.set i (.sh (.lst ps))):=by
 obtain⟨a,vs,h1,h2,h3,h4,h5,ho⟩:=r.ow e
 obtain⟨m1,m2⟩:=r.move ho
 have rp:Rep K (upd F a (.lst vs)) (.lst ps) (.ref a):=by
  unfold Rep
  exact⟨a,vs,rfl,Ś.of ĝ,h5.same (Same.upd h3) ps vs⟩
 have q:=(m1.freeze h2 h4 h3 m2).zY (i:=i) (s:=.sh (.lst ps)) rfl (show ś K c _ H _ (.sh (.lst ps)) from⟨.ref a,by rw[h1];rfl,rp⟩)
 rw[List.set_set] at q
 exact⟨a,vs,h1,h3,rp,q⟩
def zZ.mono{F1 H1:Hp}{p:PV}{v:V}(h:zZ K F H p v)(sF:Same F F1)(sH:Same H H1):zZ K F1 H1 p v:=by
 cases p with
 |lst ps=>
  obtain⟨a,vs,h2,h3,h4⟩:=h
  exact⟨a,vs,h2,sH _ _ h3,h4.same sF ps vs⟩
 |ins C ns ps=>
  obtain⟨a,dx,fs,h2,h3,h4,h5⟩:=h
  exact⟨a,dx,fs,h2,sH _ _ h3,h4,h5.same sF ps _⟩
 |_=>exact h.elim
theorem rR.mono{c:Ctx}{σ:L2.St}{ρ ρ':Ļ}{F1 H1:Hp}{p:PV}{v:V}(h:rR K c σ ρ F H p v)(sF:Same F F1)(sH:Same H H1):rR K c σ ρ' F1 H1 p v:=by
 rcases h with h|h
 ·exact .inl (h.same sF p v)
 ·exact .inr (h.mono sF sH)
theorem rR.lst{c:Ctx}{σ:L2.St}{ρ:Ļ}{ps:List PV}{v:V}(s:Same F H)(h:rR K c σ ρ F H (.lst ps) v):∃a vs,v=.ref a/\Ś K.K H a vs/\Ĕ K F ps vs:=by
 rcases h with h|⟨a,vs,h2,h3,h4⟩
 ·unfold Rep at h
  obtain⟨a,xs,h1,h2,h3⟩:=h
  exact⟨a,xs,h1,s.seq h2,h3⟩
 ·exact⟨a,vs,h2,Ś.of h3,h4⟩
theorem rR.tup{c:Ctx}{σ:L2.St}{ρ:Ļ}{ps:List PV}{v:V}(s:Same F H)(h:rR K c σ ρ F H (.tup ps) v):∃a vs,v=.ref a/\dD K.K H a vs/\Ĕ K F ps vs:=by
 rcases h with h|h
 ·unfold Rep at h
  obtain⟨a,xs,h1,h2,h3⟩:=h
  exact⟨a,xs,h1,Same.tup s h2,h3⟩
 ·exact h.elim
theorem rR.int{c:Ctx}{σ:L2.St}{ρ:Ļ}{i:Int}{v:V}(h:rR K c σ ρ F H (.int i) v):v=.int i:=by
 rcases h with h|h
 ·unfold Rep at h;exact h
 ·exact h.elim
theorem rR.str{c:Ctx}{σ:L2.St}{ρ:Ļ}{i:Str}{v:V}(h:rR K c σ ρ F H (.str i) v):v=.str i:=by
 rcases h with h|h
 ·unfold Rep at h;exact h
 ·exact h.elim
theorem rR.bl{c:Ctx}{σ:L2.St}{ρ:Ļ}{i:Bool}{v:V}(h:rR K c σ ρ F H (.bl i) v):v=.bl i:=by
 rcases h with h|h
 ·unfold Rep at h;exact h
 ·exact h.elim
theorem rR.non{c:Ctx}{σ:L2.St}{ρ:Ļ}{v:V}(h:rR K c σ ρ F H .non v):v=.non:=by
 rcases h with h|h
 ·unfold Rep at h;exact h
 ·exact h.elim
theorem rR.ty{c:Ctx}{σ:L2.St}{ρ:Ļ}{n:String}{v:V}(h:rR K c σ ρ F H (.ty n) v):v=.ty n:=by
 rcases h with h|h
 ·unfold Rep at h;exact h
 ·exact h.elim
theorem Rep.int{i:Int}:Rep K F (.int i) (.int i):=by unfold Rep;rfl
theorem Rep.str{i:Str}:Rep K F (.str i) (.str i):=by unfold Rep;rfl
theorem Rep.bl{i:Bool}:Rep K F (.bl i) (.bl i):=by unfold Rep;rfl
theorem Rep.non:Rep K F .non .non:=by unfold Rep;rfl
end
section
variable{X:Cx}{cm:String->Addr}{E:L2.St->XK}{a b e:Expr}{es:List Expr}{pos:Pos}{m ma mb mc:M PV}{mo:M RV}
def PT.wk{t t':TT}(h:PT X e t)(i:∀σ H Q,t' σ H Q->t σ H Q):PT X e t':=λpins s σ H Q I q=>h pins s σ H Q I (i σ H Q q)
def PA.wk{t t':TA}(h:PA X es t)(i:∀σ H Q,t' σ H Q->t σ H Q):PA X es t':=λpos pins s σ H Q I q=>h pos pins s σ H Q I (i σ H Q q)
def PW.wk{t t':TT}(h:PW X e t)(i:∀σ H Q,t' σ H Q->t σ H Q):PW X e t':=λwh pins s σ H Q I q=>h wh pins s σ H Q I (i σ H Q q)
def fJ.wk{st:List Stmt}{t t':TS}(h:fJ X st t)(i:∀D σ H,t' D σ H->t D σ H):fJ X st t':=λpins s σ H D I q=>h pins s σ H D I (i D σ H q)
def v_var(i:Nat){x:Str}{pos:Pos}(hN:X.N[i]?=some x:=by rfl)(hv:wN X.env.scope x:=by first|exact Or.inl rfl|exact Or.inr (Or.inl rfl)|exact Or.inr (Or.inr rfl))(hd:(x== ("__debug__" :Str))=false:=by decide)
 (hcd:(x== ("__classdict__" :Str))=false:=by decide):PE X (.Name x pos) (tV (kk X cm) E (Ğ i)):=PE.wk (cB hN hv hd hcd) λσ H Q ⟨c,F,ρ,rel,h⟩=>by
 unfold Ğ at h
 split at h
 ·rename_i p e
  obtain⟨v,h1,h2⟩:=rel.slot i _ e
  exact⟨v,at_of h1,h v F H rel (Same.refl F) (Same.refl H) h2⟩
 ·rename_i ps e
  obtain⟨a,vs,h1,h2,h3,h4⟩:=rel.share e
  exact⟨.ref a,h1,h _ _ H h4 (Same.upd h2) (Same.refl H) h3⟩
 ·rename_i qs rows e
  obtain⟨v,h1,h2⟩:=rel.slot i _ e
  exact⟨v,at_of h1,h v F H rel (Same.refl F) (Same.refl H) h2.rep⟩
 ·exact h.elim
def ā(i:Nat){x:Str}{pos:Pos}(hN:X.N[i]?=some x:=by rfl)(hv:wN X.env.scope x:=by first|exact Or.inl rfl|exact Or.inr (Or.inl rfl)|exact Or.inr (Or.inr rfl))(hd:(x== ("__debug__" :Str))=false:=by decide)
 (hcd:(x== ("__classdict__" :Str))=false:=by decide):PE X (.Name x pos) (tR (kk X cm) E (Ā i)):=PE.wk (cB hN hv hd hcd) λσ H Q ⟨c,F,ρ,rel,h⟩=>by
 unfold Ā at h
 split at h
 ·rename_i p e
  obtain⟨v,h1,h2⟩:=rel.slot i _ e
  exact⟨v,at_of h1,h v F H rel (Same.refl F) (Same.refl H) (.inl h2)⟩
 ·rename_i ps e
  obtain⟨a,vs,h1,h2,h3,h4,h5,_⟩:=rel.ow e
  exact⟨.ref a,h1,h _ F H rel (Same.refl F) (Same.refl H) (.inr ⟨a,vs,rfl,h2,h5⟩)⟩
 ·rename_i ps e
  obtain⟨a,vs,h1,h2,h3⟩:=rel.slot i _ e
  exact⟨.ref a,at_of h1,h _ F H rel (Same.refl F) (Same.refl H) (.inr ⟨a,vs,rfl,(rel.lent a _ h2).1,h3⟩)⟩
 ·rename_i C ns ps e
  obtain⟨a,dx,fs,h1,h2,h3,h4,h5,h6⟩:=rel.slot i _ e
  exact⟨.ref a,at_of h1,h _ F H rel (Same.refl F) (Same.refl H) (.inr ⟨a,dx,fs,rfl,h2,h5,h6.1⟩)⟩
 ·rename_i qs rows e
  obtain⟨v,h1,h2⟩:=rel.slot i _ e
  exact⟨v,at_of h1,h v F H rel (Same.refl F) (Same.refl H) (.inl h2.rep)⟩
 ·exact h.elim
def lB(i:Nat){x:Str}{pos:Pos}(hN:X.N[i]?=some x:=by rfl)(hv:wN X.env.scope x:=by first|exact Or.inl rfl|exact Or.inr (Or.inl rfl)|exact Or.inr (Or.inr rfl))(hd:(x== ("__debug__" :Str))=false:=by decide)
 (hcd:(x== ("__classdict__" :Str))=false:=by decide):PE X (.Name x pos) (tO (kk X cm) E (fV i)):=PE.wk (cB hN hv hd hcd) λσ H Q ⟨c,F,ρ,rel,h⟩=>by
 unfold fV at h
 split at h
 ·rename_i p e
  obtain⟨v,h1,h2⟩:=rel.slot i _ e
  exact⟨v,at_of h1,h v F H rel (Same.refl F) (Same.refl H) h2⟩
 ·rename_i ps e
  obtain⟨a,vs,h1,h2,h3,h4,h5,h6⟩:=rel.ow e
  obtain⟨m1,m2⟩:=rel.move h6
  exact⟨.ref a,h1,h _ F H m1 (Same.refl F) (Same.refl H) ⟨a,vs,rfl,h2,h3,h4,m2,h5⟩⟩
 ·exact h.elim
def Aa{v:V}(p:PV)(h:PE X e (tC v))(hr:∀F,Rep (kk X cm) F p v:=by intro _;unfold Rep;rfl):PE X e (tV (kk X cm) E (mC p)):=PE.wk h λσ H Q ⟨c,F,ρ,rel,h⟩=>h v F H rel (Same.refl F) (Same.refl H) (hr F)
def ĩ{i j pos}:PE X (.Constant (.int i) j pos) (tV (kk X cm) E (mC (.int i))):=Aa _ rY
def xU{i j pos}:PE X (.Constant (.bool i) j pos) (tV (kk X cm) E (mC (.bl i))):=Aa _ Yy
def lC{j pos}:PE X (.Constant .none j pos) (tV (kk X cm) E (mC .non)):=Aa _ CZ
def Ÿ{x j pos}:PE X (.Constant (.str x) j pos) (tV (kk X cm) E (mC (.str x))):=Aa _ Tr
def ě(h:PE X e (tV (kk X cm) E m)):PE X e (tR (kk X cm) E m):=PE.wk h λσ H Q ⟨c,F,ρ,rel,h⟩=>⟨c,F,ρ,rel,h.rel λ_ _ _ _ _ _ q=>.inl q⟩
def Ű(h:PE X e (tV (kk X cm) E m)):PE X e (tO (kk X cm) E (Ņ m)):=PE.wk h λσ H Q ⟨c,F,ρ,rel,h⟩=>⟨c,F,ρ,rel,h.bind λp ρ1 v F1 H1 ē s1 s2 q h1=>h1 v F1 H1 ē (Same.refl _) (Same.refl _) q⟩
def Held.share{K:KK}{c:Ctx}{F H:Hp}{σ:L2.St}{ρ:Ļ}{ps:List PV}{v:V}(rel:Rel K c F H σ ρ)(h:Held K c σ ρ F H ps v):∃F1,Same F F1/\Rel K c F1 H σ ρ/\Rep K F1 (.lst ps) v:=by
 obtain⟨a,vs,rfl,h1,h2,h3,h4,h5⟩:=h
 refine⟨_,Same.upd h2,rel.freeze h1 h3 h2 h4,?_⟩
 unfold Rep
 exact⟨a,vs,rfl,Ś.of ĝ,h5.same (Same.upd h2) ps vs⟩
def z_.share{K:KK}{c:Ctx}{F H:Hp}{σ:L2.St}{ρ:Ļ}{ps qs rs:List PV}{v:V}(rel:Rel K c F H σ ρ)(h:z_ K c σ ρ F H ps qs rs v):∃F1,Same F F1/\Rel K c F1 H σ ρ/\Rep K F1 (.tup (ps ++ .lst qs::rs)) v:=by
 obtain⟨p,a,xs,vs,ys,rfl,h0,hx,h1,h2,h3,h4,h5,h6⟩:=h
 refine⟨_,Same.upd h2,rel.freeze h1 h3 h2 h4,?_⟩
 have ra:Rep K (upd F a (.lst vs)) (.lst qs) (.ref a):=by
  unfold Rep
  exact⟨a,vs,rfl,Ś.of ĝ,h5.same (Same.upd h2) qs vs⟩
 unfold Rep
 exact⟨p,_,rfl,dD.of (Same.upd h2 _ _ h0),Ĕ.append (hx.same (Same.upd h2) ps xs) (Ĕ.cons ra (h6.same (Same.upd h2) rs ys))⟩
def Ġ(h:PE X e (tO (kk X cm) E mo)):PE X e (tV (kk X cm) E (Ď mo)):=PE.wk h λσ H Q ⟨c,F,ρ,rel,h⟩=>⟨c,F,ρ,rel,h.bind λr ρ1 v F1 H1 ē s1 s2 q h1=>by
 cases r with
 |sh p=>exact h1 v F1 H1 ē (Same.refl _) (Same.refl _) q
 |ow ps=>
  obtain⟨F2,s3,Ĳ,rp⟩:=Held.share ē q
  exact h1 v F2 H1 Ĳ s3 (Same.refl _) rp
 |ot ps qs rs=>
  obtain⟨F2,s3,Ĳ,rp⟩:=z_.share ē q
  exact h1 v F2 H1 Ĳ s3 (Same.refl _) rp
 |bn t ps qs rows=>exact h1 v F1 H1 ē (Same.refl _) (Same.refl _) (jd.rep q)⟩
def ă(f:PV->PV->Option PV)(ma mb:M PV):M PV:=λρ=>(ma ρ).bind λp ρ1=>(mb ρ1).bind λq ρ2=>Res.mY (f p q) ρ2
def ğ(f:PV->PV->Option RV)(ma mb:M PV):M RV:=λρ=>(ma ρ).bind λp ρ1=>(mb ρ1).bind λq ρ2=>Res.mY (f p q) ρ2
def jf(K:KK)(r:R2)(f:PV->PV->Option PV):Prop:=∀{c:Ctx} {F H:Hp} {σ:L2.St} {ρ:Ļ} {p q pv:PV} {v u:V} {Q:VK},Rel K c F H σ ρ->rR K c σ ρ F H p v->rR K c σ ρ F H q u->f p q=some pv->
 (∀z F' H',Rel K c F' H' σ ρ->Same F F'->Same H H'->Rep K F' pv z->Q z H')->r v u H Q
def OpO(K:KK)(r:R2)(f:PV->PV->Option RV):Prop:=∀{c:Ctx} {F H:Hp} {σ:L2.St} {ρ:Ļ} {p q:PV} {pv:RV} {v u:V} {Q:VK},Rel K c F H σ ρ->rR K c σ ρ F H p v->rR K c σ ρ F H q u->f p q=some pv->
 (∀z F' H',Rel K c F' H' σ ρ->Same F F'->Same H H'->rO K c σ ρ F' H' pv z->Q z H')->r v u H Q
def Ab{r:R2}{f:PV->PV->Option PV}(hf:jf (kk X cm) r f){σ:L2.St}{H:Hp}{Q:VK}(h:tV (kk X cm) E (ă f ma mb) σ H Q):Jt r (tR (kk X cm) E ma) (tR (kk X cm) E mb) σ H Q:=by
 obtain⟨c,F,ρ,rel,h⟩:=h
 refine⟨c,F,ρ,rel,h.bind λp ρ1 v F1 H1 ē _ _ r1 h1=>⟨c,F1,ρ1,ē,h1.bind λq ρ2 u F2 H2 Ĳ sF sH r2 h2=>?_⟩⟩
 cases e:f p q with
 |none=>rw[e] at h2;exact h2.elim
 |some pv=>rw[e] at h2;exact hf Ĳ (r1.mono sF sH) r2 e λz F' H' aO s1 s2 q'=>h2 z F' H' aO s1 s2 q'
def Zai{r:R2}{f:PV->PV->Option RV}(hf:OpO (kk X cm) r f){σ:L2.St}{H:Hp}{Q:VK}(h:tO (kk X cm) E (ğ f ma mb) σ H Q):Jt r (tR (kk X cm) E ma) (tR (kk X cm) E mb) σ H Q:=by
 obtain⟨c,F,ρ,rel,h⟩:=h
 refine⟨c,F,ρ,rel,h.bind λp ρ1 v F1 H1 ē _ _ r1 h1=>⟨c,F1,ρ1,ē,h1.bind λq ρ2 u F2 H2 Ĳ sF sH r2 h2=>?_⟩⟩
 cases e:f p q with
 |none=>rw[e] at h2;exact h2.elim
 |some pv=>rw[e] at h2;exact hf Ĳ (r1.mono sF sH) r2 e λz F' H' aO s1 s2 q'=>h2 z F' H' aO s1 s2 q'
def bF{op:Operator}{r:R2}{f:PV->PV->Option PV}(hf:jf (kk X cm) r f)(ho:ť X (binaryOp op) r)(ha:PE X a (tR (kk X cm) E ma))(hb:PE X b (tR (kk X cm) E mb)):PE X (.BinOp a op b pos) (tV (kk X cm) E (ă f ma mb)):=PE.wk (Mg ho ha hb) λ_ _ _ h=>Ab hf h
def Zaj{op:Operator}{r:R2}{f:PV->PV->Option RV}(hf:OpO (kk X cm) r f)(ho:ť X (binaryOp op) r)(ha:PE X a (tR (kk X cm) E ma))(hb:PE X b (tR (kk X cm) E mb)):PE X (.BinOp a op b pos) (tO (kk X cm) E (ğ f ma mb)):=PE.wk (Mg ho ha hb) λ_ _ _ h=>Zai hf h
def vA{op:CmpOp}{r:R2}{f:PV->PV->Option PV}(hf:jf (kk X cm) r f)(ho:ť X (compareOp op) r)(ha:PE X a (tR (kk X cm) E ma))(hb:PE X b (tR (kk X cm) E mb))(hm:behindInMarks op b=false):PE X (.Compare a [op] [b] pos) (tV (kk X cm) E (ă f ma mb)):=
 PE.wk (Jw ho ha hb hm) λ_ _ _ h=>Ab hf h
def ZcA{r:R2}{f:PV->PV->Option PV}(hf:jf (kk X cm) r f)(hr:xK X r)(ha:PE X a (tR (kk X cm) E ma))(hb:PE X b (tR (kk X cm) E mb))(hs:mR b):PE X (.Subscript a b pos) (tV (kk X cm) E (ă f ma mb)):=
 PE.wk (zQ hr ha hb hs) λ_ _ _ h=>Ab hf h
def bO(f:PV->Option PV)(ma:M PV):M PV:=λρ=>(ma ρ).bind λp ρ1=>Res.mY (f p) ρ1
def UnV(K:KK)(r:V->Hp->VK->Prop)(f:PV->Option PV):Prop:=∀{c:Ctx} {F H:Hp} {σ:L2.St} {ρ:Ļ} {p pv:PV} {v:V} {Q:VK},Rel K c F H σ ρ->rR K c σ ρ F H p v->f p=some pv->
 (∀z F' H',Rel K c F' H' σ ρ->Same F F'->Same H H'->Rep K F' pv z->Q z H')->r v H Q
def nG{op:UnaryOp}{r:V->Hp->VK->Prop}{f:PV->Option PV}(hf:UnV (kk X cm) r f)(ho:Js X (unaryOp op) r)(ha:PE X a (tR (kk X cm) E ma)):PE X (.UnaryOp op a pos) (tV (kk X cm) E (bO f ma)):=PE.wk (Dp ho ha) λσ H Q ⟨c,F,ρ,rel,h⟩=>
 ⟨c,F,ρ,rel,h.bind fun p ρ1 v F1 H1 ē _ _ r1 h1=>by
   cases e:f p with
   |none=>rw[e] at h1;exact h1.elim
   |some pv=>rw[e] at h1;exact hf ē r1 e λz F' H' aO s1 s2 q'=>h1 z F' H' aO s1 s2 q'⟩
def Vp:PV->Option Bool
 | .bl b=>some b
 | .int i=>some (i != 0)
 | .non=>some false
 | .str y=>if y.length<=sizeLine then some ((y.length:Int) != 0) else none
 | .lst ps=>some (!ps.isEmpty)
 | .tup ps=>some (!ps.isEmpty)
 |_=>none
def dM(m:M PV):M Bool:=λρ=>(m ρ).bind λp ρ1=>Res.mY (Vp p) ρ1
def Zak{K:KK}{c:Ctx}{F H:Hp}{σ:L2.St}{ρ:Ļ}{p:PV}{v:V}{k:Bool}(s:Same F H)(r:rR K c σ ρ F H p v)(h:Vp p=some k):Us K.K v H k:=by
 cases p with
 |bl b=>cases r.bl;cases h;rfl
 |int i=>cases r.int;cases h;rfl
 |non=>cases r.non;cases h;rfl
 |str y=>
  cases r.str
  have h':(if y.length<=sizeLine then some ((y.length:Int) != 0) else none)=some k:=h
  split at h'
  ·rename_i hy;cases h';exact⟨hy,rfl⟩
  ·cases h'
 |lst ps=>
  obtain⟨a,vs,rfl,h1,h2⟩:=r.lst s
  cases h
  have e:ps.isEmpty=vs.isEmpty:=by cases h2.pr<;>rfl
  exact .inl ⟨vs,h1,by rw[e]⟩
 |tup ps=>
  obtain⟨a,vs,rfl,h1,h2⟩:=r.tup s
  cases h
  have e:ps.isEmpty=vs.isEmpty:=by cases h2.pr<;>rfl
  exact .inr (.inl ⟨vs,h1,by rw[e]⟩)
 |ins C ns ps=>cases h
 |xc C ns ps=>cases h
 |ty n=>cases h
 |cls C=>cases h
def bG(ha:PE X a (tR (kk X cm) E ma))(he:∀whole,isTrue a X.env whole=(do let v <-whole;standAt a.pos;holding [v] (truthy v)):=by intro _;rfl):PT X a (tB (kk X cm) E (dM ma)):=PT.wk (Dr ha he) λσ H Q ⟨c,F,ρ,rel,h⟩=>
 ⟨c,F,ρ,rel,h.bind fun p ρ1 v F1 H1 ē _ _ r1 h1=>by
   cases e:Vp p with
   |none=>rw[e] at h1;exact h1.elim
   |some k=>rw[e] at h1;exact⟨k,Zak ē.sub r1 e,h1 k F1 H1 ē (Same.refl _) (Same.refl _) rfl⟩⟩
def au(m:M PV):M Bool:=λρ=>(m ρ).bind λp ρ1=>match p with
 | .bl b=>.ok b ρ1
 |_=>.bad
def Mi{σ:L2.St}{H:Hp}{Q:Bool->Hp->Prop}(h:tB (kk X cm) E (au m) σ H Q):M2.DY (tV (kk X cm) E m) σ H Q:=by
 obtain⟨c,F,ρ,rel,h⟩:=h
 refine⟨c,F,ρ,rel,h.bind λp ρ1 v F1 H1 ē _ _ r1 h1=>?_⟩
 cases p with
 |bl b=>
  have e:v=.bl b:=by have r1':Rep (kk X cm) F1 (.bl b) v:=r1;unfold Rep at r1';exact r1'
  subst e
  exact h1 b F1 H1 ē (Same.refl _) (Same.refl _) rfl
 |_=>exact h1.elim
def aC{op:CmpOp}{r:R2}{f:PV->PV->Option PV}(hf:jf (kk X cm) r f)(ho:ť X (compareOp op) r)(ha:PE X a (tR (kk X cm) E ma))(hb:PE X b (tR (kk X cm) E mb))(hm:behindInMarks op b=false):PT X (.Compare a [op] [b] pos) (tB (kk X cm) E (au (ă f ma mb))):=
 PT.wk (UJ ho ha hb hm) fun σ H Q h=>by
   obtain⟨c,F,ρ,rel,h⟩:=Mi h
   exact Ab hf ⟨c,F,ρ,rel,h⟩
def iw(f g:PV->PV->Option PV)(ma mb mc:M PV):M PV:=λρ=>(ma ρ).bind λp ρ1=>(mb ρ1).bind λq ρ2=>(Res.mY (f p q) ρ2).bind λz ρ3=>match z with
 | .bl true=>(mc ρ3).bind λw ρ4=>Res.mY (g q w) ρ4
 | .bl false=>.ok (.bl false) ρ3
 |_=>.bad
def Mj{r r':R2}{f g:PV->PV->Option PV}(hf:jf (kk X cm) r f)(hg:jf (kk X cm) r' g){σ:L2.St}{H:Hp}{Q:VK}(h:tV (kk X cm) E (iw f g ma mb mc) σ H Q):M2.xM r r' (tR (kk X cm) E ma) (tR (kk X cm) E mb) (tR (kk X cm) E mc) σ H Q:=by
 obtain⟨c,F,ρ,rel,h⟩:=h
 refine⟨c,F,ρ,rel,h.bind λp ρ1 v F1 H1 ē _ _ r1 h1=>⟨c,F1,ρ1,ē,h1.bind λq ρ2 u F2 H2 Ĳ sF sH r2 h2=>?_⟩⟩
 cases e:f p q with
 |none=>rw[e] at h2;exact h2.elim
 |some pv=>
  rw[e] at h2
  refine hf Ĳ (r1.mono sF sH) r2 e λz F' H' aO s1 s2 q'=>?_
  cases pv with
  |bl k=>
   have ez:z=.bl k:=by unfold Rep at q';exact q'
   subst ez
   cases k with
   |false=>exact h2 _ F' H' aO s1 s2 q'
   |true=>
    refine⟨c,F',ρ2,aO,aG.bind (aG.mono h2 s1 s2) λw ρ4 x F4 H4 Eu s3 s4 r4 h4=>?_⟩
    cases e':g q w with
    |none=>rw[e'] at h4;exact h4.elim
    |some pv'=>rw[e'] at h4;exact hg Eu (r2.mono (s1.trans s3) (s2.trans s4)) r4 e' λz F' H' aO s1 s2 q'=>h4 z F' H' aO s1 s2 q'
  |_=>exact h2.elim
def qL{op op':CmpOp}{r r':R2}{f g:PV->PV->Option PV}{c:Expr}(hf:jf (kk X cm) r f)(hg:jf (kk X cm) r' g)(ho:ť X (compareOp op) r)(ho':ť X (compareOp op') r')(ha:PE X a (tR (kk X cm) E ma))(hb:PE X b (tR (kk X cm) E mb))(hc:PE X c (tR (kk X cm) E mc))
 (hm:lastMarks [op,op'] [b,c]=false:=by with_unfolding_all rfl):PE X (.Compare a [op,op'] [b,c] pos) (tV (kk X cm) E (iw f g ma mb mc)):=PE.wk (D_ ho ho' ha hb hc hm) λ_ _ _ h=>Mj hf hg h
def Ml{op op':CmpOp}{r r':R2}{f g:PV->PV->Option PV}{c:Expr}(hf:jf (kk X cm) r f)(hg:jf (kk X cm) r' g)(ho:ť X (compareOp op) r)(ho':ť X (compareOp op') r')(ha:PE X a (tR (kk X cm) E ma))(hb:PE X b (tR (kk X cm) E mb))(hc:PE X c (tR (kk X cm) E mc))
 (hm:lastMarks [op,op'] [b,c]=false:=by with_unfolding_all rfl):PT X (.Compare a [op,op'] [b,c] pos) (tB (kk X cm) E (au (iw f g ma mb mc))):=PT.wk (Ea ho ho' ha hb hc hm) λσ H Q h=>by
 obtain⟨c,F,ρ,rel,h⟩:=Mi h
 exact Mj hf hg ⟨c,F,ρ,rel,h⟩
def fW(m:M Bool):M Bool:=λρ=>(m ρ).bind λb ρ1=>.ok (!b) ρ1
def lE{m:M Bool}(h:PT X a (tB (kk X cm) E m)):PT X (.UnaryOp .Not a pos) (tB (kk X cm) E (fW m)):=PT.wk (Tz h) λσ H Q ⟨c,F,ρ,rel,h⟩=>
 ⟨c,F,ρ,rel,h.bind λp ρ1 v F1 H1 ē _ _ r1 h1=>h1 _ F1 H1 ē (Same.refl _) (Same.refl _) (by have e:p=v:=r1;rw[e];rfl)⟩
def cX(ma mb:M Bool):M Bool:=λρ=>(ma ρ).bind λb ρ1=>if b=true then mb ρ1 else .ok false ρ1
def Cd(ma mb:M Bool):M Bool:=λρ=>(ma ρ).bind λb ρ1=>if b=true then .ok true ρ1 else mb ρ1
variable{ta tb:M Bool}{rest:List Expr}
def dN(h:PT X a (tB (kk X cm) E ta)):PW X (.BoolOp .And [a] pos) (tB (kk X cm) E ta):=Jm h
def Ew(h:PT X a (tB (kk X cm) E ta)):PW X (.BoolOp .Or [a] pos) (tB (kk X cm) E ta):=Tt h
def w_and(ha:PT X a (tB (kk X cm) E ta))(hb:PW X (.BoolOp .And (b::rest) pos) (tB (kk X cm) E tb)):PW X (.BoolOp .And (a::b::rest) pos) (tB (kk X cm) E (cX ta tb)):=PW.wk (Tw ha hb) λσ H Q ⟨c,F,ρ,rel,h⟩=>
 ⟨c,F,ρ,rel,h.bind fun p ρ1 v F1 H1 ē _ _ r1 h1=>by
   have e:p=v:=r1
   subst e
   cases p with
   |true=>exact⟨c,F1,ρ1,ē,h1⟩
   |false=>exact h1 false F1 H1 ē (Same.refl _) (Same.refl _) rfl⟩
def w_or(ha:PT X a (tB (kk X cm) E ta))(hb:PW X (.BoolOp .Or (b::rest) pos) (tB (kk X cm) E tb)):PW X (.BoolOp .Or (a::b::rest) pos) (tB (kk X cm) E (Cd ta tb)):=PW.wk (Yz ha hb) λσ H Q ⟨c,F,ρ,rel,h⟩=>
 ⟨c,F,ρ,rel,h.bind fun p ρ1 v F1 H1 ē _ _ r1 h1=>by
   have e:p=v:=r1
   subst e
   cases p with
   |false=>exact⟨c,F1,ρ1,ē,h1⟩
   |true=>exact h1 true F1 H1 ē (Same.refl _) (Same.refl _) rfl⟩
def fC(ma mb:M PV):M PV:=λρ=>(ma ρ).bind λp ρ1=>match p with
 | .bl true=>mb ρ1
 | .bl false=>.ok (.bl false) ρ1
 |_=>.bad
def Vq(ma:M PV):M PV:=λρ=>(ma ρ).bind λp ρ1=>match p with
 | .bl b=>.ok (.bl (!b)) ρ1
 |_=>.bad
def sW{K:KK}{F:Hp}{b:Bool}{v:V}(h:Rep K F (.bl b) v):v=.bl b:=by unfold Rep at h;exact h
def iD{op}(h:PE X a (tV (kk X cm) E ma)):PE X (.BoolOp op [a] pos) (tV (kk X cm) E ma):=TF h
def v_and(ha:PE X a (tV (kk X cm) E ma))(hb:PE X (.BoolOp .And (b::rest) pos) (tV (kk X cm) E mb)):PE X (.BoolOp .And (a::b::rest) pos) (tV (kk X cm) E (fC ma mb)):=PE.wk (UL ha hb) λσ H Q ⟨c,F,ρ,rel,h⟩=>
 ⟨c,F,ρ,rel,h.bind fun p ρ1 v F1 H1 ē _ _ r1 h1=>by
   cases p with
   |bl k=>
    cases sW r1
    cases k with
    |true=>exact⟨c,F1,ρ1,ē,h1⟩
    |false=>exact h1 _ F1 H1 ē (Same.refl _) (Same.refl _) r1
   |_=>exact h1.elim⟩
def v_not(ha:PE X a (tV (kk X cm) E ma)):PE X (.UnaryOp .Not a pos) (tV (kk X cm) E (Vq ma)):=PE.wk (UW ha) λσ H Q ⟨c,F,ρ,rel,h⟩=>
 ⟨c,F,ρ,rel,h.bind fun p ρ1 v F1 H1 ē _ _ r1 h1=>by
   cases p with
   |bl k=>
    cases sW r1
    exact h1 _ F1 H1 ē (Same.refl _) (Same.refl _) Rep.bl
   |_=>exact h1.elim⟩
def cP{α:Type}(t:M Bool)(ma mb:M α):M α:= λρ=>(t ρ).bind λb ρ1=>if b=true then ma ρ1 else mb ρ1
def Zal{α:Type}{R:RR α V}{c':Expr}{ma mb:M α}(hc:PT X c' (tB (kk X cm) E ta))(ha:PE X a (tG (kk X cm) E R ma))(hb:PE X b (tG (kk X cm) E R mb)):PE X (.IfExp c' a b pos) (tG (kk X cm) E R (cP ta ma mb)):=PE.wk (C_ hc ha hb) λσ H Q ⟨c,F,ρ,rel,h⟩=>
 ⟨c,F,ρ,rel,h.bind fun p ρ1 v F1 H1 ē _ _ r1 h1=>by
   have e:p=v:=r1
   subst e
   cases p with
   |true=>exact⟨c,F1,ρ1,ē,h1⟩
   |false=>exact⟨c,F1,ρ1,ē,h1⟩⟩
def ė:M (List PV):=λρ=>.ok [] ρ
def Ą(ma:M PV)(mr:M (List PV)):M (List PV):=λρ=>(ma ρ).bind λp ρ1=>(mr ρ1).bind λps ρ2=>.ok (p::ps) ρ2
variable{mr:M (List PV)}
def Ě:PA X [] (tL (kk X cm) E ė):=PA.wk bC λσ H Q ⟨c,F,ρ,rel,h⟩=>h [] F H rel (Same.refl _) (Same.refl _) Ĕ.nil
def Ć(ha:PE X e (tV (kk X cm) E ma))(hr:PA X es (tL (kk X cm) E mr))(hs:starEach (e::es) X.env=(false,eval e X.env)::starEach es X.env:=by exact aB rfl):PA X (e::es) (tL (kk X cm) E (Ą ma mr)):=PA.wk (Ŧ ha hr hs) λσ H Q ⟨c,F,ρ,rel,h⟩=>
 ⟨c,F,ρ,rel,h.bind λp ρ1 v F1 H1 ē _ _ r1 h1=>⟨c,F1,ρ1,ē,h1.bind λps ρ2 vs F2 H2 Ĳ sF sH r2 h2=>h2 _ F2 H2 Ĳ (Same.refl _) (Same.refl _) (Ĕ.cons (Rep.same sF p v r1) r2)⟩⟩
def ģ:PA X [] (Kg (kk X cm) E ė):=PA.wk bC λσ H Q ⟨c,F,ρ,rel,h⟩=>h [] F H rel (Same.refl _) (Same.refl _) .nil
def Ę(ha:PE X e (tR (kk X cm) E ma))(hr:PA X es (Kg (kk X cm) E mr))(hs:starEach (e::es) X.env=(false,eval e X.env)::starEach es X.env:=by exact aB rfl):PA X (e::es) (Kg (kk X cm) E (Ą ma mr)):=PA.wk (Ŧ ha hr hs) λσ H Q ⟨c,F,ρ,rel,h⟩=>
 ⟨c,F,ρ,rel,h.bind λp ρ1 v F1 H1 ē _ _ r1 h1=>⟨c,F1,ρ1,ē,h1.bind λps ρ2 vs F2 H2 Ĳ sF sH r2 h2=>h2 _ F2 H2 Ĳ (Same.refl _) (Same.refl _) (.cons (rR.mono r1 sF sH) r2)⟩⟩
def Ċ:M (List Slot):=λρ=>.ok [] ρ
def Ĉ(ma:M PV)(mr:M (List Slot)):M (List Slot):=λρ=>(ma ρ).bind λp ρ1=>(mr ρ1).bind λas ρ2=>.ok (.sh p::as) ρ2
def bT:Slot->Option Slot
 | .sh p=>some (.sh p)
 | .ow ps=>some (.bw ps)
 | .bw ps=>some (.bw ps)
 | .bn qs rows=>some (.sh (.lst (.lst qs::rows)))
 |_=>none
def Ă(i:Nat)(mr:M (List Slot)):M (List Slot):=λρ=>match(ρ[i]?).bind bT with
 |none=>.bad
 |some _=>(mr ρ).bind λas ρ2=>match(ρ2[i]?).bind bT with
  |some s=>.ok (s::as) ρ2
  |none=>.bad
variable{ms:M (List Slot)}
def Đ:PA X [] (tA (kk X cm) E Ċ):=PA.wk bC λσ H Q ⟨c,F,ρ,rel,h⟩=>h [] F H rel (Same.refl _) (Same.refl _) .nil
def č(ha:PE X e (tV (kk X cm) E ma))(hr:PA X es (tA (kk X cm) E ms))(hs:starEach (e::es) X.env=(false,eval e X.env)::starEach es X.env:=by exact aB rfl):PA X (e::es) (tA (kk X cm) E (Ĉ ma ms)):=PA.wk (Ŧ ha hr hs) λσ H Q ⟨c,F,ρ,rel,h⟩=>
 ⟨c,F,ρ,rel,h.bind λp ρ1 v F1 H1 ē _ _ r1 h1=>⟨c,F1,ρ1,ē,h1.bind λas ρ2 vs F2 H2 Ĳ sF sH r2 h2=>h2 _ F2 H2 Ĳ (Same.refl _) (Same.refl _) (.cons (show aW _ _ _ (.sh p) v from Rep.same sF p v r1) r2)⟩⟩
def Ac{K:KK}{c:Ctx}{F H:Hp}{σ:L2.St}{ρ:Ļ}{i:Nat}{s:Slot}(rel:Rel K c F H σ ρ)(h:(ρ[i]?).bind bT=some s):∃v,σ[i]?=some (some v)/\aW K F H s v:=by
 cases e:ρ[i]? with
 |none=>rw[e] at h;cases h
 |some sl=>
  rw[e] at h
  have h':bT sl=some s:=h
  cases sl with
  |sh p=>
   cases h'
   obtain⟨v,h1,h2⟩:=rel.slot i _ e
   exact⟨v,at_of h1,h2⟩
  |ow ps=>
   cases h'
   obtain⟨a,vs,h1,h2,h3,h4,h5,_⟩:=rel.ow e
   exact⟨.ref a,h1,a,vs,rfl,h2,h3,h5⟩
  |bw ps=>
   cases h'
   obtain⟨a,vs,h1,h2,h3⟩:=rel.slot i _ e
   exact⟨.ref a,at_of h1,a,vs,rfl,(rel.lent a _ h2).1,(rel.lent a _ h2).2,h3⟩
  |no=>cases h'
  |rc C ns ps=>cases h'
  |ot ps qs rs=>cases h'
  |ol bN=>cases h'
  |fr bN=>cases h'
  |bn qs rows=>
   cases h'
   obtain⟨v,h1,h2⟩:=rel.slot i _ e
   exact⟨v,at_of h1,h2.rep⟩
def Kh(i:Nat){x:Str}{px:Pos}(hN:X.N[i]?=some x:=by rfl)(hv:wN X.env.scope x:=by first|exact Or.inl rfl|exact Or.inr (Or.inl rfl)|exact Or.inr (Or.inr rfl))(hd:(x== ("__debug__" :Str))=false:=by decide)
 (hcd:(x== ("__classdict__" :Str))=false:=by decide)(hr:PA X es (tA (kk X cm) E ms))(hs:starEach (.Name x px::es) X.env=(false,eval (.Name x px) X.env)::starEach es X.env:=by exact aB rfl):PA X (.Name x px::es) (tA (kk X cm) E (Ă i ms)):=
 PA.wk (Ŧ (cB hN hv hd hcd) hr hs) fun σ H Q ⟨c,F,ρ,rel,h⟩=>by
   unfold Ă at h
   cases e:(ρ[i]?).bind bT with
   |none=>rw[e] at h;exact h.elim
   |some s0=>
    rw[e] at h
    obtain⟨v,hv,_⟩:=Ac rel e
    refine⟨v,hv,c,F,ρ,rel,aG.bind h λas ρ2 vs F2 H2 Ĳ sF sH r2 h2=>?_⟩
    cases e2:(ρ2[i]?).bind bT with
    |none=>simp only[e2] at h2;exact h2.elim
    |some s=>
     simp only[e2] at h2
     obtain⟨v',hv',r1⟩:=Ac Ĳ e2
     rw[hv] at hv'
     cases hv'
     exact h2 _ F2 H2 Ĳ (Same.refl _) (Same.refl _) (.cons r1 r2)
def Ľ(mr:M (List PV)):M PV:=λρ=>(mr ρ).bind λps ρ1=>if ps.length<=16777216 then .ok (.tup ps) ρ1 else .bad
def aA(mr:M (List PV)):M RV:=λρ=>(mr ρ).bind λps ρ1=>if ps.length<=16777216 then .ok (.ow ps) ρ1 else .bad
def Ī:sizeLine=16777216:=sizeLine_eq
def Ĵ{x1}(h:PA X es (tL (kk X cm) E mr)):PE X (.Tuple es x1 pos) (tV (kk X cm) E (Ľ mr)):=PE.wk (Dz h) λσ H Q ⟨c,F,ρ,rel,h⟩=>
 ⟨c,F,ρ,rel,h.bind fun ps ρ1 vs F1 H1 ē _ _ r1 h1=>by
   split at h1
   ·rename_i hz
    refine⟨by rw[<-Ĕ.length r1,Ī];exact hz,λp hp=>h1 _ _ _ (ē.alloc hp) (Same.upd (ē.sub.free hp)) (Same.upd hp) ?_⟩
    show Rep _ _ _ _
    unfold Rep
    exact⟨p,vs,rfl,dD.of ĝ,Ĕ.same (Same.upd (ē.sub.free hp)) ps vs r1⟩
   ·exact h1.elim⟩
def fX{K:KK}{c:Ctx}{F H:Hp}{σ:L2.St}{ρ:Ļ}{ps:List PV}{vs:List V}{a:Addr}(rel:Rel K c F H σ ρ)(ha:H a=none)(r:Ĕ K F ps vs):Rel K c F (upd H a (.lst vs)) σ ρ/\Held K c σ ρ F (upd H a (.lst vs)) ps (.ref a):=
 ⟨rel.made ha,a,vs,rfl,ĝ,rel.sub.free ha,rel.base.free ha,rel.fresh ha,r⟩
def Ŗ(h:PA X es (tL (kk X cm) E mr)):PE X (.List es pos) (tO (kk X cm) E (aA mr)):=PE.wk (DG h) λσ H Q ⟨c,F,ρ,rel,h⟩=>
 ⟨c,F,ρ,rel,h.bind fun ps ρ1 vs F1 H1 ē _ _ r1 h1=>by
   split at h1
   ·rename_i hz
    refine⟨by rw[<-Ĕ.length r1,Ī];exact hz,λp hp=>?_⟩
    obtain⟨q1,q2⟩:=fX ē hp r1
    exact h1 _ _ _ q1 (Same.refl _) (Same.upd hp) q2
   ·exact h1.elim⟩
def bQ(f:List PV->Option PV)(mr:M (List PV)):M PV:=λρ=>(mr ρ).bind λps ρ1=>Res.mY (f ps) ρ1
def lX(f:List PV->Option RV)(mr:M (List PV)):M RV:=λρ=>(mr ρ).bind λps ρ1=>Res.mY (f ps) ρ1
def eN(K:KK)(r:List V->Hp->VK->Prop)(f:List PV->Option PV):Prop:=∀{c:Ctx} {F H:Hp} {σ:L2.St} {ρ:Ļ} {ps:List PV} {pv:PV} {vs:List V} {Q:VK},Rel K c F H σ ρ->rRL K c σ ρ F H ps vs->f ps=some pv->
 (∀z F' H',Rel K c F' H' σ ρ->Same F F'->Same H H'->Rep K F' pv z->Q z H')->r vs H Q
def Ey(K:KK)(r:List V->Hp->VK->Prop)(f:List PV->Option RV):Prop:=∀{c:Ctx} {F H:Hp} {σ:L2.St} {ρ:Ļ} {ps:List PV} {pv:RV} {vs:List V} {Q:VK},Rel K c F H σ ρ->rRL K c σ ρ F H ps vs->f ps=some pv->
 (∀z F' H',Rel K c F' H' σ ρ->Same F F'->Same H H'->rO K c σ ρ F' H' pv z->Q z H')->r vs H Q
def Zam{r:List V->Hp->VK->Prop}{f:List PV->Option PV}(hf:eN (kk X cm) r f){σ:L2.St}{H:Hp}{Q:VK}(h:tV (kk X cm) E (bQ f mr) σ H Q):tCB r (Kg (kk X cm) E mr) σ H Q:=by
 obtain⟨c,F,ρ,rel,h⟩:=h
 refine⟨c,F,ρ,rel,h.bind λp ρ1 v F1 H1 ē _ _ r1 h1=>?_⟩
 cases e:f p with
 |none=>rw[e] at h1;exact h1.elim
 |some pv=>rw[e] at h1;exact hf ē r1 e λz F' H' aO s1 s2 q'=>h1 z F' H' aO s1 s2 q'
def ZcB{r:List V->Hp->VK->Prop}{f:List PV->Option RV}(hf:Ey (kk X cm) r f){σ:L2.St}{H:Hp}{Q:VK}(h:tO (kk X cm) E (lX f mr) σ H Q):tCB r (Kg (kk X cm) E mr) σ H Q:=by
 obtain⟨c,F,ρ,rel,h⟩:=h
 refine⟨c,F,ρ,rel,h.bind λp ρ1 v F1 H1 ē _ _ r1 h1=>?_⟩
 cases e:f p with
 |none=>rw[e] at h1;exact h1.elim
 |some pv=>rw[e] at h1;exact hf ē r1 e λz F' H' aO s1 s2 q'=>h1 z F' H' aO s1 s2 q'
end
end P
namespace P
open PySem PySem.Spec PyProof.Rows L2 M2 M3
def fK:M Fl:=λρ=>.ok .nx ρ
def ę(a b:M Fl):M Fl:=λρ=>(a ρ).bind λf ρ1=>match f with
 | .nx=>b ρ1
 |f=>.ok f ρ1
def Ĥ(i:Nat)(m:M RV):M Fl:=λρ=>(m ρ).bind λr ρ1=>.ok .nx (ρ1.set i r.slot)
def ħ(m:M RV):M Fl:=λρ=>(m ρ).bind λr ρ1=>.ok (.rt r) ρ1
def nH(m:M PV):M Fl:=λρ=>(m ρ).bind λ_ ρ1=>.ok .nx ρ1
section
variable{X:Cx}{cm:String->Addr}{E:L2.St->XK}{a b e:Expr}{st:Stmt}{rest:List Stmt}{es:List Expr}{pos:Pos}{m1 m2:M Fl}{mo:M RV}{mv:M PV}
def İ:fJ X [] (tS (kk X cm) E fK):=fJ.wk zM λD σ H ⟨c,F,ρ,rel,h⟩=>h σ F H rel (Same.refl F)
def į(h:PS X st (tS (kk X cm) E m1)):fJ X [st] (tS (kk X cm) E m1):=Jo h
def Kl{c:Ctx}{F:Hp}{D:Ends}{r:Res Fl}(h:ŧ (kk X cm) E c F D (r.bind λf ρ1=>match f with| .nx=>m2 ρ1|f=>.ok f ρ1)):ŧ (kk X cm) E c F {D with nx:=tS (kk X cm) E m2 D} r:=by
 cases r with
 |ok f ρ1=>
  cases f with
  |nx=>exact λσ' F' H' aO s=>⟨c,F',ρ1,aO,ŧ.mono h s⟩
  |bk=>exact h
  |ct=>exact h
  |rt v=>exact h
 |exc x ρ1=>exact h
 |bad=>exact h
def ĕ(h1:PS X st (tS (kk X cm) E m1))(h2:fJ X rest (tS (kk X cm) E m2)):fJ X (st::rest) (tS (kk X cm) E (ę m1 m2)):=fJ.wk (fP h1 h2) λD σ H ⟨c,F,ρ,rel,h⟩=>⟨c,F,ρ,rel,Kl h⟩
def Rel.Zan{K:KK}{c:Ctx}{F H:Hp}{σ:L2.St}{ρ:Ļ}{i:Nat}{t:Bool}{ps qs rows:List PV}{v:V}(r:Rel K c F H σ ρ)(q:jd K c.B F t ps qs rows v):Rel K c F H (σ.set i (some v)) (ρ.set i (RV.bn t ps qs rows).slot):=by
 cases t with
 |true=>exact r.put (s:=.sh (bnV true ps qs rows)) rfl ⟨v,rfl,jd.rep q⟩
 |false=>
  have e:ps=[]:=by
   obtain⟨_,_,_,_,_,_,_,_,_,_,_,z⟩:=q
   rcases z with⟨_,z,_⟩|⟨z,_⟩
   ·exact z
   ·cases z
  subst e
  exact r.put (s:=.bn qs rows) rfl ⟨v,rfl,q⟩
def Zao{i:Nat}{x:Str}{pos':Pos}(hN:X.N.Nodup)(hi:X.N[i]?=some x)(hx:Loc X.env.scope x)(he:PE X e (tO (kk X cm) E mo))(hs:swapsWith e (some (.Name x pos')) pos.line X.env=pure false:=by rfl)(hf:X.fn x=true\/X.env.scope.names.lookup x=some .local:=by first|exact .inl rfl|exact .inr rfl|assumption) :
 PS X (.Assign [.Name x pos'] e pos) (tS (kk X cm) E (Ĥ i mo)):=PS.wk (Dj hN hi hx he hs hf) λD σ H ⟨c,F,ρ,rel,h⟩=>⟨c,F,ρ,rel,ŧ.bind h λr ρ1 v F1 H1 ē s1 q h1=>by
 cases r with
 |sh p=>exact h1 _ F1 H1 (ē.put rfl ⟨v,rfl,q⟩) (Same.refl _)
 |ow ps=>
  obtain⟨a,vs,rfl,q1,q2,q3,q4,q5⟩:=q
  exact h1 _ F1 H1 (ē.Ke ⟨a,vs,rfl,q1,q2,q3,q5⟩ λ_ z=>V.ref.inj z▸q4) (Same.refl _)
 |ot ps qs rs=>
  obtain⟨p,a,xs,vs,ys,rfl,q0,qx,q1,q2,q3,q4,q5,q6⟩:=q
  exact h1 _ F1 H1 (ē.Ke (s:=.ot ps qs rs) ⟨p,a,xs,vs,ys,rfl,q0,qx,q1,q2,q3,q5,q6⟩ λ_ z=>mW (ps:=ps) (qs:=qs) (rs:=rs) z ⟨p,xs,ys,rfl,q0,qx.length.symm⟩▸q4) (Same.refl _)
 |bn t ps qs rows=>exact h1 _ F1 H1 (ē.Zan q) (Same.refl _)⟩
def Zap(he:PE X e (tO (kk X cm) E mo)):PS X (.Return (some e) pos) (tS (kk X cm) E (ħ mo)):=PS.wk (TJ he) λD σ H ⟨c,F,ρ,rel,h⟩=>⟨c,F,ρ,rel,ŧ.bind h λr ρ1 v F1 H1 ē s1 q h1=>h1 v σ F1 H1 ē (Same.refl _) q⟩
def sX(he:PE X e (tV (kk X cm) E mv))(hs:swapsWith e none pos.line X.env=pure false:=by rfl):PS X (.Expr e pos) (tS (kk X cm) E (nH mv)):=PS.wk (Ż he hs) λD σ H ⟨c,F,ρ,rel,h⟩=>⟨c,F,ρ,rel,ŧ.bind h λr ρ1 v F1 H1 ē s1 q h1=>h1 σ F1 H1 ē (Same.refl _)⟩
def Š{t:M Bool}{ss ss':List Stmt}(hc:PT X a (tB (kk X cm) E t))(ha:fJ X ss (tS (kk X cm) E m1))(hb:fJ X ss' (tS (kk X cm) E m2)):PS X (.If a ss ss' pos) (tS (kk X cm) E (cP t m1 m2)):=PS.wk (Mf hc ha hb) λD σ H ⟨c,F,ρ,rel,h⟩=>⟨c,F,ρ,rel,ŧ.bind h λr ρ1 v F1 H1 ē s1 q h1=>by
 have e:r=v:=q
 subst e
 cases r with
 |true=>exact⟨c,F1,ρ1,ē,h1⟩
 |false=>exact⟨c,F1,ρ1,ē,h1⟩⟩
def Ez{α:Type}:M α:= λ_=>.bad
def sY:PS X st (tS (kk X cm) E Ez):=PS.wk Dc λD σ H ⟨c,F,ρ,rel,h⟩=>h
abbrev Tg:=PV->Ļ->Option Ļ
abbrev CN:=List PV->Ļ->Option Ļ
def Zaq(K:KK)(c:Ctx)(F H:Hp)(Q:L2.St->Hp->Prop):Option Ļ->Prop
 |some ρ'=>∀σ',Rel K c F H σ' ρ'->Q σ' H
 |none=>False
def tT(K:KK)(g:Tg):TG:=λv σ H Q=>∃c F ρ p,Rel K c F H σ ρ/\Rep K F p v/\Zaq K c F H Q (g p ρ)
def tTs(K:KK)(g:CN):Dd:=λv σ H Q=>∃c F ρ p,Rel K c F H σ ρ/\Ĕ K F p v/\Zaq K c F H Q (g p ρ)
def gN(i:Nat):Tg:=λp ρ=>some (ρ.set i (.sh p))
def ž:CN:=λps ρ=>match ps with
 | []=>some ρ
 |_=>none
def ĥ(g:Tg)(gs:CN):CN:=λps ρ=>match ps with
 |p::ps=>(g p ρ).bind λρ1=>gs ps ρ1
 | []=>none
def gT(n:Nat)(gs:CN):Tg:=λp ρ=>match p with
 | .tup ps=>if ps.length=n then gs ps ρ else none
 |_=>none
def PG.wk'{tg:Expr}{t t':TG}(h:PG X tg t)(i:∀v σ H Q,t' v σ H Q->t v σ H Q):PG X tg t':=λpins s σ H v u Q I r q=>h pins s σ H v u Q I r (i v σ H Q q)
def wO.wk{tg:List Expr}{t t':Dd}(h:wO X tg t)(i:∀v σ H Q,t' v σ H Q->t v σ H Q):wO X tg t':=λpins s σ H v u Q I r q=>h pins s σ H v u Q I r (i v σ H Q q)
def EY{i:Nat}{x:Str}(hN:X.N.Nodup)(hi:X.N[i]?=some x)(hx:Loc X.env.scope x)(hf:X.fn x=true\/X.env.scope.names.lookup x=some .local:=by first|exact .inl rfl|exact .inr rfl|assumption):PG X (.Name x pos) (tT (kk X cm) (gN i)):=
 PG.wk' (Jp hN hi hx hf) λv σ H Q ⟨c,F,ρ,p,rel,rp,h⟩=>h _ (rel.put rfl ⟨v,rfl,rp⟩)
def jg:wO X [] (tTs (kk X cm) ž):=wO.wk Jq λv σ H Q ⟨c,F,ρ,p,rel,rp,h⟩=>by
 cases p with
 |nil=>
  have e:v=[]:=by have:=rp;unfold Ĕ at this;exact this
  exact⟨e,h σ rel⟩
 |cons _ _=>exact h.elim
def Ō{es:List Expr}{g:Tg}{gs:CN}(h1:PG X e (tT (kk X cm) g))(h2:wO X es (tTs (kk X cm) gs))(hs:(assignEach (e::es) X.env).map (·.2)=assign e X.env::(assignEach es X.env).map (·.2):=by rfl):wO X (e::es) (tTs (kk X cm) (ĥ g gs)):=
 wO.wk (Dh h1 h2 hs) λv σ H Q ⟨c,F,ρ,p,rel,rp,h⟩=>by
  cases p with
  |nil=>exact h.elim
  |cons p ps=>
   unfold Ĕ at rp
   obtain⟨x,r,rfl,r1,r2⟩:=rp
   refine⟨x,r,rfl,c,F,ρ,p,rel,r1,?_⟩
   unfold ĥ at h
   dsimp only at h
   cases eg:g p ρ with
   |none=>rw[eg] at h;exact h.elim
   |some ρ1=>rw[eg] at h;exact λσ' aO=>⟨c,F,ρ1,ps,aO,r2,h⟩
def vB{es:List Expr}{k:Nat}{gs:CN}{n:Nat}(hc:X.calm=true)(h:wO X es (tTs (kk X cm) gs))(hn:(assignEach es X.env).length=n:=by rfl)(hst:(assignEach es X.env).findIdx? (·.1)=none:=by rfl):PG X (.Tuple es k pos) (tT (kk X cm) (gT n gs)):=
 PG.wk' (Di hc h hn hst) fun v σ H Q ⟨c,F,ρ,p,rel,rp,h⟩=>by
   cases p with
   |tup ps=>
    unfold Rep at rp
    obtain⟨a,xs,h1,h2,h3⟩:=rp
    unfold gT at h
    dsimp only at h
    split at h
    ·rename_i hl
     exact⟨a,xs,h1,Same.tup rel.sub h2,by rw[<-h3.length];exact hl,c,F,ρ,ps,rel,h3,h⟩
    ·exact h.elim
   |_=>exact h.elim
def Km(g:Tg)(m:M PV):M Fl:=λρ=>(m ρ).bind λp ρ1=>match g p ρ1 with
 |some ρ2=>.ok .nx ρ2
 |none=>.bad
def Mp{tg:Expr}{g:Tg}(he:PE X e (tV (kk X cm) E mv))(hg:PG X tg (tT (kk X cm) g))(hs:swapsWithSole [tg] e pos.line X.env=pure false:=by rfl)(hw:swappedStores [tg] e X.env=pure none:=by rfl)
 (h1:(assignEach [tg] X.env).map (·.2)=[assign tg X.env]:=by rfl):PS X (.Assign [tg] e pos) (tS (kk X cm) E (Km g mv)):=PS.wk (TY he hg hs hw h1) λD σ H ⟨c,F,ρ,rel,h⟩=>⟨c,F,ρ,rel,ŧ.bind h λr ρ1 v F1 H1 ē s1 q h1=>by
 refine⟨c,F1,ρ1,r,ē,q,?_⟩
 cases eg:g r ρ1 with
 |none=>rw[eg] at h1;exact h1.elim
 |some ρ2=>rw[eg] at h1;exact λσ' aO=>h1 σ' F1 H1 aO (Same.refl _)⟩
def Vr(i j:Nat)(mr:M (List PV)):M Fl:=λρ=>(mr ρ).bind λps ρ1=>match ps with
 | [p,q]=>.ok .nx ((ρ1.set i (.sh p)).set j (.sh q))
 |_=>.bad
def Ko{i j:Nat}{mr:M (List PV)}{D:Ends}{σ:L2.St}{H:Hp}(h:tS (kk X cm) E (Vr i j mr) D σ H):YD i j (tL (kk X cm) E mr) D σ H:=by
 obtain⟨c,F,ρ,rel,h⟩:=h
 refine⟨c,F,ρ,rel,ŧ.bind h λps ρ1 vs F1 H1 ē s1 q h1=>?_⟩
 cases ps with
 |nil=>exact h1.elim
 |cons p ps=>
  cases ps with
  |nil=>exact h1.elim
  |cons p2 ps=>
   cases ps with
   |nil=>
    have q':Ĕ (kk X cm) F1 [p,p2] vs:=q
    cases q'.pr with
    |cons r1 t=>
     cases t with
     |cons r2 t=>
      cases t
      exact⟨_,_,rfl,h1 _ F1 H1 ((ē.put (s:=.sh p) rfl ⟨_,rfl,r1⟩).put (s:=.sh p2) rfl ⟨_,rfl,r2⟩) (Same.refl _)⟩
   |cons _ _=>exact h1.elim
def nJ(i:Nat)(m:M PV):M Fl:=λρ=>match ρ[i]? with
 |some (.ow _)=>(m ρ).bind λp ρ1=>match ρ1[i]? with
  |some (.ow ps)=>if ps.length<16777216 then .ok .nx (ρ1.set i (.ow (ps ++ [p]))) else .bad
  |_=>.bad
 |_=>.bad
def dO{i:Nat}{D:Ends}{σ:L2.St}{H:Hp}(h:tS (kk X cm) E (nJ i mv) D σ H):u_ (YW X.K "list" ju (rQ i) (tL (kk X cm) E (Ą mv ė))) D σ H:=by
 obtain⟨c,F,ρ,rel,h⟩:=h
 unfold nJ at h
 cases e1:ρ[i]? with
 |none=>rw[e1] at h;exact h.elim
 |some sl=>
  rw[e1] at h
  cases sl with
  |ow ps0=>
   obtain⟨a,vs0,z1,z2,z3,z4,z5,z6⟩:=rel.ow e1
   refine⟨.ref a,z1,.inl ⟨rfl,_,Ś.of z2⟩,c,F,ρ,rel,?_⟩
   dsimp only at h
   unfold Ą
   cases em:mv ρ with
   |bad=>rw[em] at h;exact h
   |exc x ρ1=>rw[em] at h;exact λC d F' H' aO s1 q=>h σ C d F' H' aO s1 q
   |ok p ρ1=>
    rw[em] at h
    intro us F1 H1 ē s1 s2 r1
    have r1':Ĕ (kk X cm) F1 [p] us:=r1
    cases r1'.pr with
    |cons rp t=>
     rename_i v vs'
     cases t
     cases e2:ρ1[i]? with
     |none=>simp only[Res.Ž,e2] at h;exact h.elim
     |some sl2=>
      simp only[Res.Ž,e2] at h
      cases sl2 with
      |ow ps=>
       obtain⟨a2,vs,w1,w2,w3,w4,w5,w6⟩:=ē.ow e2
       rw[z1] at w1
       cases w1
       dsimp only at h
       split at h
       ·rename_i hz
        refine⟨a,vs,v,rfl,rfl,w2,by rw[<-w5.length,Ī];exact hz,h σ F1 _ (ē.write w6 z1 ⟨a,vs ++ [v],rfl,ĝ,w3,w4,Ĕ.append w5 (Ĕ.cons rp Ĕ.nil)⟩ λ_ z=>(V.ref.inj z).symm) s1⟩
       ·exact h.elim
      |_=>exact h.elim
  |_=>exact h.elim
def Į(mc:M Bool)(mb:M Fl):Nat->Ļ->Res Fl
 |0,_=>.bad
 |n+1,ρ=>(mc ρ).bind λb ρ1=>if b=true then(mb ρ1).bind λf ρ2=>match f with
  | .nx=>Į mc mb n ρ2
  | .ct=>Į mc mb n ρ2
  | .bk=>.ok .nx ρ2
  | .rt r=>.ok (.rt r) ρ2 else .ok .nx ρ1
theorem Ţ{mc:M Bool}{mb:M Fl}(n:Nat)(ρ:Ļ):Į mc mb (n+1) ρ=(mc ρ).bind λb ρ1=>if b=true then(mb ρ1).bind λf ρ2=>match f with
 | .nx=>Į mc mb n ρ2
 | .ct=>Į mc mb n ρ2
 | .bk=>.ok .nx ρ2
 | .rt r=>.ok (.rt r) ρ2 else .ok .nx ρ1:=rfl
open Classical in
noncomputable def ţ(mc:M Bool)(mb:M Fl):M Fl:=λρ=>if h:∃n,Į mc mb n ρ≠ .bad then Į mc mb (Classical.choose h) ρ else .bad
theorem fY{mc:M Bool}{mb:M Fl}:∀(n:Nat) (ρ:Ļ),Į mc mb n ρ≠ .bad->Į mc mb (n+1) ρ=Į mc mb n ρ
 |0,ρ,h=>absurd rfl h
 |n+1,ρ,h=>by
  rw[Ţ] at h
  rw[Ţ (n+1),Ţ n]
  cases e:mc ρ with
  |bad=>rfl
  |exc x ρ1=>rfl
  |ok b ρ1=>
   rw[e] at h
   simp only[Res.Ž] at h ⊢
   cases b with
   |false=>rfl
   |true=>
    simp only[if_true] at h ⊢
    cases e2:mb ρ1 with
    |bad=>rfl
    |exc x ρ2=>rfl
    |ok f ρ2=>
     rw[e2] at h
     simp only[Res.Ž] at h ⊢
     cases f with
     |nx=>exact fY n ρ2 h
     |ct=>exact fY n ρ2 h
     |bk=>rfl
     |rt r=>rfl
def qM{mc:M Bool}{mb:M Fl}{n m:Nat}{ρ:Ļ}(h:Į mc mb n ρ≠ .bad)(hm:n<=m):Į mc mb m ρ=Į mc mb n ρ:= by
 induction hm with
 |refl=>rfl
 |step _ ih=>rw[fY _ _ (by rw[ih];exact h),ih]
def Ũ{mc:M Bool}{mb:M Fl}{ρ:Ļ}(n:Nat)(h:Į mc mb n ρ≠ .bad):ţ mc mb ρ=Į mc mb n ρ:= by
 unfold ţ
 have hx:∃n,Į mc mb n ρ≠ .bad:=⟨n,h⟩
 rw[dif_pos hx]
 have hc:=Classical.choose_spec hx
 rcases Nat.le_total n (Classical.choose hx) with hle|hle
 ·exact qM h hle
 ·exact(qM hc hle).symm
theorem fZ{mc:M Bool}{mb:M Fl}{ρ:Ļ}:ţ mc mb ρ=(mc ρ).bind λb ρ1=>if b=true then(mb ρ1).bind λf ρ2=>match f with
 | .nx=>ţ mc mb ρ2
 | .ct=>ţ mc mb ρ2
 | .bk=>.ok .nx ρ2
 | .rt r=>.ok (.rt r) ρ2 else .ok .nx ρ1:=by
 have go:∀ρ2,ţ mc mb ρ2=.bad\/∃n,ţ mc mb ρ2=Į mc mb n ρ2/\Į mc mb n ρ2≠ .bad:=λρ2=>by
  by_cases hx:∃n,Į mc mb n ρ2≠ .bad
  ·obtain⟨n,h⟩:=hx
   exact .inr ⟨n,Ũ n h,h⟩
  ·left;unfold ţ;rw[dif_neg hx]
 have ZcC:∀ρ2,ţ mc mb ρ2=.bad->∀n,Į mc mb n ρ2=.bad:=λρ2 h n=>by
  refine Classical.byContradiction λz=>?_
  rw[Ũ n z] at h
  exact z h
 have fin:∀n,Į mc mb (n+1) ρ≠ .bad->ţ mc mb ρ=Į mc mb (n+1) ρ:= λn h=>Ũ _ h
 cases e:mc ρ with
 |bad=>rcases go ρ with h|⟨n,h1,h2⟩
       ·rw[h];rfl
       ·cases n with
        |zero=>exact absurd rfl h2
        |succ n=>rw[Ţ,e] at h2;exact absurd rfl h2
 |exc x ρ1=>
  have h:Į mc mb 1 ρ=.exc x ρ1:=by rw[Ţ,e];rfl
  rw[Ũ 1 (by rw[h];intro z;cases z),h];rfl
 |ok b ρ1=>
  simp only[Res.Ž]
  cases b with
  |false=>
   have h:Į mc mb 1 ρ=.ok .nx ρ1:=by rw[Ţ,e];rfl
   rw[Ũ 1 (by rw[h];intro z;cases z),h];rfl
  |true=>
   simp only[if_true]
   have one:∀n,Į mc mb (n+1) ρ=(mb ρ1).bind λf ρ2=>match f with
    | .nx=>Į mc mb n ρ2
    | .ct=>Į mc mb n ρ2
    | .bk=>.ok .nx ρ2
    | .rt r=>.ok (.rt r) ρ2:=λn=>by rw[Ţ,e];rfl
   cases e2:mb ρ1 with
   |bad=>
    rcases go ρ with h|⟨n,h1,h2⟩
    ·rw[h];rfl
    ·cases n with
     |zero=>exact absurd rfl h2
     |succ n=>rw[one,e2] at h2;exact absurd rfl h2
   |exc x ρ2=>
    have h:Į mc mb 1 ρ=.exc x ρ2:=by rw[one,e2];rfl
    rw[Ũ 1 (by rw[h];intro z;cases z),h];rfl
   |ok f ρ2=>
    have turn:(∀n,Į mc mb (n+1) ρ=Į mc mb n ρ2)->ţ mc mb ρ=ţ mc mb ρ2:=λhn=>by
     rcases go ρ2 with h|⟨n,h1,h2⟩
     ·rcases go ρ with h'|⟨n,h1,h2⟩
      ·rw[h,h']
      ·cases n with
       |zero=>exact absurd rfl h2
       |succ n=>rw[hn,ZcC ρ2 h n] at h2;exact absurd rfl h2
     ·rw[h1,<-hn n]
      exact fin n (by rw[hn n];exact h2)
    cases f with
    |nx=>exact turn λn=>by rw[one,e2];rfl
    |ct=>exact turn λn=>by rw[one,e2];rfl
    |bk=>
     have h:Į mc mb 1 ρ=.ok .nx ρ2:=by rw[one,e2];rfl
     rw[Ũ 1 (by rw[h];intro z;cases z),h];rfl
    |rt r=>
     have h:Į mc mb 1 ρ=.ok (.rt r) ρ2:=by rw[one,e2];rfl
     rw[Ũ 1 (by rw[h];intro z;cases z),h];rfl
def Kp{c:Expr}{body:List Stmt}{mc:M Bool}{mb:M Fl}(hp:PassesOwn (model X.prog X.w) X.A X.env X.xe)(hc:PT X c (tB (kk X cm) E mc))(hb:fJ X body (tS (kk X cm) E mb)):PS X (.While c body [] pos) (tS (kk X cm) E (ţ mc mb)):=PS.wk (Dk hp hc hb) λD σ H ⟨c,F,ρ,rel,h⟩=>by
 obtain⟨n,hn⟩:∃n,ŧ (kk X cm) E c F D (Į mc mb n ρ):=by
  by_cases hx:∃n,Į mc mb n ρ≠ .bad
  ·obtain⟨n,hn⟩:=hx
   rw[Ũ n hn] at h
   exact⟨n,h⟩
  ·unfold ţ at h
   rw[dif_neg hx] at h
   exact h.elim
 refine⟨λm σ' H'=>∃F2 ρ2,Rel (kk X cm) c F2 H' σ' ρ2/\Same F F2/\ŧ (kk X cm) E c F2 D (Į mc mb m ρ2),⟨n,F,ρ,rel,Same.refl _,hn⟩,?_⟩
 rintro m σ1 H1 ⟨F1,ρ1,ē,s1,h1⟩
 cases m with
 |zero=>exact h1.elim
 |succ m=>
  rw[Ţ] at h1
  refine⟨c,F1,ρ1,ē,ŧ.bind h1 λk ρ2 v F2 H2 Ĳ s2 q h2=>?_⟩
  have e:k=v:=q
  subst e
  cases k with
  |false=>
   rw[if_neg Bool.false_ne_true]
   rw[if_neg Bool.false_ne_true] at h2
   exact h2 σ1 F2 H2 Ĳ (Same.refl _)
  |true=>
   rw[if_pos rfl]
   rw[if_pos rfl] at h2
   refine⟨_,λσ' H' z=>z,c,F2,ρ2,Ĳ,?_⟩
   have nxt:∀{ρ3:Ļ},ŧ (kk X cm) E c F2 D (Į mc mb m ρ3)->∀σ' F' H',Rel (kk X cm) c F' H' σ' ρ3->Same F2 F'->∃m',m'<m+1/\∃F2 ρ2,Rel (kk X cm) c F2 H' σ' ρ2/\Same F F2/\ŧ (kk X cm) E c F2 D (Į mc mb m' ρ2):=
    fun{ρ3} h3 σ' F' H' aO s'=>⟨m,Nat.lt_succ_self m,F',ρ3,aO,(s1.trans s2).trans s',ŧ.mono h3 s'⟩
   cases e2:mb ρ2 with
   |bad=>rw[e2] at h2;exact h2
   |exc x ρ3=>rw[e2] at h2;exact h2
   |ok f ρ3=>
    rw[e2] at h2
    cases f with
    |nx=>exact nxt h2
    |ct=>exact nxt h2
    |bk=>exact h2
    |rt r=>exact h2
def Kq(K:KK)(Lh F:Hp)(J:It)(items:List PV):Prop:=∀(c:Ctx) (i:Nat) (F2 H:Hp) (σ:L2.St) (ρ:Ļ),Rel K c F2 H σ ρ->Same F F2->Same Lh H->
 (∀p,items[i]?=some p->J.go i H/\∀x H',J.yld i H x H'->∃F3,Rel K c F3 H' σ ρ/\Same F2 F3/\Same H H'/\Rep K F3 p x)/\(i=items.length->J.stop i H)
def rIt(K:KK):RR (List PV) It:=λc _ _ F _ items J=>Kq K c.L F J items
abbrev tI(K:KK)(E:L2.St->XK)(m:M (List PV)):TI:=tG K E (rIt K) m
def forL(g:Tg)(mb:M Fl):List PV->M Fl
 | [],ρ=>.ok .nx ρ
 |p::ps,ρ=>match g p ρ with
  |none=>.bad
  |some ρ1=>(mb ρ1).bind λf ρ2=>match f with
   | .nx=>forL g mb ps ρ2
   | .ct=>forL g mb ps ρ2
   | .bk=>.ok .nx ρ2
   | .rt r=>.ok (.rt r) ρ2
def jh(mi:M (List PV))(g:Tg)(mb:M Fl):M Fl:=λρ=>(mi ρ).bind λitems ρ1=>forL g mb items ρ1
def cY{iter tg:Expr}{body:List Stmt}{mi:M (List PV)}{g:Tg}{mb:M Fl}(hp:PassesOwn (model X.prog X.w) X.A X.env X.xe)(hc:X.calm=true)(hi:PI X tg iter (tI (kk X cm) E mi))(hg:PG X tg (tT (kk X cm) g))(hb:fJ X body (tS (kk X cm) E mb))
 (hs:∀x,foldedSetIterable iter X.env x=pure x:=by intro _;rfl):PS X (.For tg iter body [] pos) (tS (kk X cm) E (jh mi g mb)):=PS.wk (Ud hp hc hi hg hb hs) λD σ H ⟨c,F,ρ,rel,h⟩=>⟨c,F,ρ,rel,ŧ.bind h λitems ρ1 J F1 H1 ē s1 ito h1=>by
 refine⟨λi m σ' H'=>∃F2 ρ2,i<=items.length/\m=items.length-i/\Rel (kk X cm) c F2 H' σ' ρ2/\Same F1 F2/\ŧ (kk X cm) E c F2 D (forL g mb (items.drop i) ρ2),⟨_,F1,ρ1,Nat.zero_le _,rfl,ē,Same.refl _,h1⟩,?_⟩
 rintro i m σ2 H2 ⟨F2,ρ2,hle,rfl,Ĳ,s2,h2⟩
 obtain⟨go,stop⟩:=ito c i F2 H2 σ2 ρ2 Ĳ s2 λb u e=>(Ĳ.lent b u e).1
 by_cases hlt:i<items.length
 ·obtain⟨g1,g2⟩:=go items[i] (List.getElem?_eq_getElem hlt)
  rw[List.drop_eq_getElem_cons hlt] at h2
  unfold forL at h2
  refine .inr ⟨g1,_,λσ' H' z=>z,λx H3 hy=>?_⟩
  obtain⟨F3,sZ,s3,_,rp⟩:=g2 x H3 hy
  refine⟨c,F3,ρ2,items[i],sZ,rp,?_⟩
  cases eg:g items[i] ρ2 with
  |none=>rw[eg] at h2;exact h2.elim
  |some ρ3=>
   rw[eg] at h2
   dsimp only at h2
   intro σ4 Eu
   refine⟨c,F3,ρ3,Eu,?_⟩
   have nxt:∀{ρ4:Ļ},ŧ (kk X cm) E c F2 D (forL g mb (items.drop (i+1)) ρ4)->∀σ' F' H',Rel (kk X cm) c F' H' σ' ρ4->Same F3 F'->∃m',m'<items.length-i/\∃F2 ρ2,i+1<=items.length/\m'=items.length-(i+1)/\Rel (kk X cm) c F2 H' σ' ρ2/\Same F1 F2/\ŧ (kk X cm) E c F2 D (forL g mb (items.drop (i+1)) ρ2):=
    fun{ρ4} h3 σ' F' H' aO s'=>⟨items.length-(i+1),by omega,F',ρ4,hlt,rfl,aO,(s2.trans s3).trans s',ŧ.mono h3 (s3.trans s')⟩
   have h2':=ŧ.mono h2 s3
   cases e2:mb ρ3 with
   |bad=>rw[e2] at h2;exact h2
   |exc x ρ4=>rw[e2] at h2';exact h2'
   |ok f ρ4=>
    rw[e2] at h2 h2'
    cases f with
    |nx=>exact nxt h2
    |ct=>exact nxt h2
    |bk=>exact h2'
    |rt r=>exact h2'
 ·have e:i=items.length:=by omega
  refine .inl ⟨stop e,?_⟩
  rw[List.drop_eq_nil_of_le (by omega)] at h2
  unfold forL at h2
  exact h2 σ2 F2 H2 Ĳ (Same.refl _)⟩
end
end P
namespace P
open PySem PySem.Spec PyProof.Rows L2 M2 M3
inductive FR where
 |ret (r:RV)|exc (x:PX)|bad
abbrev MF:=List Slot->FR
def FR.of:Res Fl->FR
 | .ok (.rt r) _=>.ret r
 | .ok .nx _=>.ret (.sh .non)
 | .exc x _=>.exc x
 |_=>.bad
def ı(n k:Nat)(mb:M Fl):MF:=λas=>if as.length=n then FR.of (mb (startP k as)) else .bad
def rF(K:KK)(H F' H':Hp):RV->V->Prop
 | .sh p,v=>Rep K F' p v
 | .ow ps,v=>∃a vs,v=.ref a/\H' a=some (.lst vs)/\F' a=none/\H a=none/\Ĕ K F' ps vs
 | .ot ps qs rs,v=>∃p a xs vs ys,v=.ref p/\F' p=some (.tup (xs ++ .ref a::ys))/\Ĕ K F' ps xs/\H' a=some (.lst vs)/\F' a=none/\H a=none/\Ĕ K F' qs vs/\Ĕ K F' rs ys
 | .bn t ps qs rows,v=>jd K H F' t ps qs rows v
def ZcD(K:KK)(E:XK)(F H:Hp)(Q:VK):FR->Prop
 | .ret r=>∀v F' H',Gr F H F' H'->rF K H F' H' r v->Q v H'
 | .exc x=>∀C d F' H',Gr F H F' H'->Kf K F' x C d->E C d H'
 | .bad=>False
def Ş(K:KK)(n:Nat)(mf:MF):Sp:=λvs H Q E=>∃F as,as.length=n/\Same F H/\Paired (aW K F H) as vs/\ZcD K E F H Q (mf as)
def bU(CX:jL)(X:Cx)(E:L2.St->XK):Prop:=∀(pins:List (Addr×Obj)) (σ:L2.St) (H:Hp) (s:Shared) (e:Value) (s':Shared),Inv X pins σ H s->CX X.stack H s (E σ) e s'->X.xe e s'
def ď{X:Cx}{E:L2.St->XK}:bU Ů X E:=λ_ _ _ _ _ _ _ h=>h.elim
section
variable{P:Program}{w:World}{K:PySem.W.Frag}{cm:String->Addr}{mg:Str->Option Value}{base:Heap}{CX:jL}
def fnP{x qual:Str}{st:Stmt}{f:Addr}{fd:FuncData}{N ps:List Str}{k:Nat}{mb:M Fl}(F:DW K x qual st f fd)(S:Ē N ps (ć st))
 (hbody:∀(cdv:Value) (A:Around) (outer:List Env) (s:Shared) (H:Hp) (E:XK),ŕ k (A.deeper (envOfC qual (ć st) s.heap.objs.size f cdv))→
   fJ (pZ CX P w K mg base N qual (ć st) f cdv A outer s H E) (œ st) (tS ⟨K,cm⟩ (λ_=>E) mb)):Ħ P w K mg base CX (k+1) f fd ps (Ş ⟨K,cm⟩ ps.length (ı ps.length N.length mb)):=by
 obtain⟨oc,od,kV,doc,pm,an,cdv,ct,osl,rfl,lk,hcd⟩:=F.ex
 refine DK lk hcd S (λvs H Q E ⟨F,ps',h1,_,h2,_⟩=>by rw[<-Paired.length h2];exact h1) λA outer s H vs Q E hr hsp=>?_
 obtain⟨F,ps',h1,h2,h3,h4⟩:=hsp
 refine⟨_,hbody cdv A outer s H E hr,ctx0 F H,F,startP N.length ps',Rel.start h2 h3,?_⟩
 unfold ı at h4
 rw[if_pos h1] at h4
 cases e:mb (startP N.length ps') with
 |bad=>rw[e] at h4;exact h4
 |exc x ρ'=>rw[e] at h4;exact λσ' C d F' H' rel s1 q=>h4 C d F' H' rel.gr q
 |ok fl ρ'=>
  rw[e] at h4
  cases fl with
  |nx=>exact λσ' F' H' rel s1=>h4 .non F' H' rel.gr (Rep.non (K:=⟨K,cm⟩) (F:=F'))
  |bk=>exact h4.elim
  |ct=>exact h4.elim
  |rt r=>
   intro v σ' F' H' rel s1 q
   refine h4 v F' H' rel.gr ?_
   cases r with
   |sh p=>exact q
   |ow qs=>
    obtain⟨a,vs',e1,e2,e3,e4,_,e5⟩:=q
    exact⟨a,vs',e1,e2,e3,e4,e5⟩
   |ot qs ts rs=>
    obtain⟨p,a,xs,vs',ys,e1,e0,ex,e2,e3,e4,_,e5⟩:=q
    exact⟨p,a,xs,vs',ys,e1,e0,ex,e2,e3,e4,e5⟩
   |bn t ps qs rows=>exact q
def fnQ{x qual:Str}{st:Stmt}{f:Addr}{fd:FuncData}{N ps:List Str}{k n j:Nat}{mb:M Fl}{mf:MF}(F:DW K x qual st f fd)(S:Ē N ps (ć st))(hn:ps.length=n)(hj:N.length=j)(hf:mf=ı n j mb)
 (hbody:∀(cdv:Value) (A:Around) (outer:List Env) (s:Shared) (H:Hp) (E:XK),ŕ k (A.deeper (envOfC qual (ć st) s.heap.objs.size f cdv))→
   fJ (pZ CX P w K mg base N qual (ć st) f cdv A outer s H E) (œ st) (tS ⟨K,cm⟩ (λ_=>E) mb)):Ħ P w K mg base CX (k+1) f fd ps (Ş ⟨K,cm⟩ n mf):=by
 subst hn hj hf
 exact fnP F S hbody
end
def đ(mf:MF)(mr:M (List Slot)):M RV:=λρ=>(mr ρ).bind λps ρ1=>match mf ps with
 | .ret r=>.ok r ρ1
 | .exc x=>.exc x ρ1
 | .bad=>.bad
section
variable{X:Cx}{cm:String->Addr}{E:L2.St->XK}{CX:jL}{k n:Nat}{f:Addr}{fd:FuncData}{ps:List Str}{mf:MF}{mr:M (List Slot)}{x:Str}{p pos:Pos}{e:Expr}{es:List Expr}
def tu{sp:Sp}{pins:List (Addr×Obj)}{σ:L2.St}{H:Hp}{s:Shared}{Q:VK}{us:List Value}{vs:List V}(F:Ħ X.prog X.w X.K X.mg X.base CX k f fd ps sp)(hr:ŕ k X.A)(hb:Binds X.K fd ps [])(hx:bU CX X E)
 (I:Inv X pins σ H s)(r:Vals vs us)(h:sp vs H Q (E σ)):wpAny (model X.prog X.w) X.A (call (.ref f) us) (EP X pins σ Q) X.xe s:=by
 have hl:(us ++ []).length=ps.length:=by rw[List.append_nil,<-r.length];exact F.len _ _ _ _ h
 have hbd:=hb s us I.jM hl
 rw[List.append_nil] at hbd
 refine wpAny_call (codeAny_mono (F.run X.A X.stack s H ⟨us,[]⟩ us vs Q (E σ) hr I.env0 hbd r h) λr s' hq=>?_)
 cases r with
 |error e=>exact hx pins σ H s e s' I hq
 |ok fl=>
  cases fl with
  |ret u=>exact I.after hq
  |next=>exact False.elim hq
  |brk=>exact False.elim hq
  |cont=>exact False.elim hq
def vC{c:Ctx}{F1 H1:Hp}{σ:L2.St}{ρ1:Ļ}{Q:VK}{ps:List Slot}{vs:List V}(hlen:(∃r,mf ps=r/\∀z,r=z->z≠ .bad)->ps.length=n)(ē:Rel (kk X cm) c F1 H1 σ ρ1)(r1:Paired (aW (kk X cm) F1 H1) ps vs)
 (h:aG (kk X cm) E (rO (kk X cm)) c F1 H1 σ Q (match mf ps with| .ret r=>.ok r ρ1| .exc x=>.exc x ρ1| .bad=>.bad)):Ş (kk X cm) n mf vs H1 Q (E σ):=by
 refine⟨F1,ps,?_,ē.sub,r1,?_⟩
 ·refine hlen ⟨_,rfl,λz hz hb=>?_⟩
  rw[hz,hb] at h
  exact h
 ·cases em:mf ps with
  |bad=>rw[em] at h;exact h
  |exc x=>rw[em] at h;exact λC d F' H' g rx=>h C d F' H' (ē.call g) g.f rx
  |ret r=>
   rw[em] at h
   intro v F' H' g rf
   refine h v F' H' (ē.call g) g.f g.h ?_
   cases r with
   |sh p=>exact rf
   |ow qs=>
    obtain⟨a,vs',e1,e2,e3,e4,e5⟩:=rf
    exact⟨a,vs',e1,e2,e3,ē.base.free e4,ē.je g.f (ē.fresh e4),e5⟩
   |ot qs ts rs=>
    obtain⟨p,a,xs,vs',ys,e1,e0,ex,e2,e3,e4,e5⟩:=rf
    exact⟨p,a,xs,vs',ys,e1,e0,ex,e2,e3,ē.base.free e4,ē.je g.f (ē.fresh e4),e5⟩
   |bn t ps qs rows=>exact jd.base rf ē.base
def bH{n k:Nat}{mb:M Fl}{ps:List Slot}(h:∃r,ı n k mb ps=r/\∀z,r=z->z≠ .bad):ps.length=n:=by
 obtain⟨r,h1,h2⟩:=h
 unfold ı at h1
 by_cases hl:ps.length=n
 ·exact hl
 ·rw[if_neg hl] at h1
  exact absurd h1.symm (λz=>h2 .bad (by rw[<-h1]) rfl)
def Vs(F:Ħ X.prog X.w X.K X.mg X.base CX k f fd ps (Ş (kk X cm) n mf))(hlen:∀{ps:List Slot},(∃r,mf ps=r/\∀z,r=z->z≠ .bad)->ps.length=n)(hr:ŕ k X.A)(hg:Gl X x)(hm:X.mg x=some (.ref f))(hk:PySem.W.keepIn X.K (.ref f)=true)(hb:Binds X.K fd ps [])(hx:bU CX X E)
 (ha:PA X (e::es) (tA (kk X cm) E mr))(hdb:(x== ("__debug__" :Str))=false:=by decide)(he:starEach (e::es) X.env=(false,eval e X.env)::starEach es X.env:=by exact aB rfl)(hpl:(backTo pos (starEach es X.env)).any (·.1)=false:=by rfl) :
 PE X (.Call (.Name x p) (e::es) [] pos) (tO (kk X cm) E (đ mf mr)):=by
 intro pins s σ H Q I h
 obtain⟨c,F,ρ,rel,h⟩:=h
 refine wpAny_Call_Name_kw (mL I hg hm ?_ hdb)
 refine PySem.W.callWith_K (h₀:= X.base) I.ok.mod.Yw hk (ŉ (ha pos pins s σ H (λvs H1=>Ş (kk X cm) n mf vs H1 Q (E σ)) I ⟨c,F,ρ,rel,h.bind λps' ρ1 vs F1 H1 ē _ _ r1 h1=>vC hlen ē r1 h1⟩) λus s1 ⟨vs,H1,I1,r,q⟩=>⟨I1.jM,?_⟩) he hpl
 exact tu (by assumption) hr hb hx I1 r q
end
def ň(m:M PV):M (List PV):=λρ=>(m ρ).bind λp ρ1=>match p with
 | .lst ps=>.ok ps ρ1
 | .tup ps=>.ok ps ρ1
 | .str z=>.ok (z.cps.toList.map λc=>.str ⟨#[c]⟩) ρ1
 |_=>.bad
section
variable{X:Cx}{cm:String->Addr}{E:L2.St->XK}{tg:Expr}
def ZcE(K:PySem.W.Frag)(tl:TE):TI:=λσ H R=>tl σ H λx H1=>(∃a,x=.ref a/\(∃xs,Ś K H1 a xs)/\R (Itl K a) H1)\/(∃a,x=.ref a/\(∃xs,dD K H1 a xs)/\R (Itt K a) H1)\/∃z,x=.str z/\R (Its z) H1
def E_{l:Expr}{tl:TE}(hl:PE X l tl):PI X tg l (ZcE X.K tl):=by
 intro pins s σ H R I h
 refine ŉ (hl pins s σ H _ I h) λv s1 ⟨x,H1,I1,r1,q1⟩=>?_
 rcases q1 with⟨a,e,⟨xs,hq⟩,q⟩|⟨a,e,⟨xs,hq⟩,q⟩|⟨z,e,q⟩
 ·subst e
  cases r1
  obtain⟨its,rv,p,hz⟩:=I1.list hq
  refine wpAny_pyIter_list p.isList ?_
  refine⟨s1.heap.objs.size,[s1.heap.objs.size],_,_,H1,rfl,I1.kept (t':=s1.toks) λb o e=>Heap.get?_push_of_some _ e,Bp a _,⟨_,Heap.get?_push_size _ rfl,rfl,rfl⟩,λb hb=>?_,q⟩
  have e:b=s1.heap.objs.size:=by simpa using hb
  subst e
  exact I1.rZ (Nat.le_refl _) (I1.hok.fresh (Nat.le_refl _))
 ·subst e
  cases r1
  obtain⟨its,rv,p,hz⟩:=I1.tuple hq
  refine wpAny_pyIter_tuple (show s1.heap.IsTuple a its.toArray from p) ?_
  refine⟨s1.heap.objs.size,[s1.heap.objs.size],_,_,H1,rfl,I1.kept (t':=s1.toks) λb o e=>Heap.get?_push_of_some _ e,wV a _,⟨_,Heap.get?_push_size _ rfl,rfl,rfl⟩,λb hb=>?_,q⟩
  have e:b=s1.heap.objs.size:=by simpa using hb
  subst e
  exact I1.rZ (Nat.le_refl _) (I1.hok.fresh (Nat.le_refl _))
 ·subst e
  obtain⟨t,rfl⟩:=r1
  have fin:∀ty,(∀A:Around,A.handled=none->Walks X.prog X.w A s1.heap.objs.size [s1.heap.objs.size] [s1.heap.objs.size] z.cps.size (SignAt z) (λi h=>h.IsStrIter s1.heap.objs.size ty z t i))->
   (∀(A:Around) (i:Nat) (s:Shared) (Q:Value->Shared->Prop) (E:Value->Shared->Prop),s.heap.IsStrIter s1.heap.objs.size ty z t i->Q (.ref s1.heap.objs.size) s->wpAny (model X.prog X.w) A (pyIter (.ref s1.heap.objs.size)) Q E s)->
   (["enumerate","zip","dict_itemiterator","dict_reverseitemiterator","odict_iterator","itertools.zip_longest","itertools.pairwise"].contains ty=false)->
   PIE X pins σ tg R (.ref s1.heap.objs.size) {s1 with heap:=s1.heap.push {cls:=.type ty,data:=.fields #[.str z t,.int 0 0]}}:=λty hW hS hty=>by
   refine⟨s1.heap.objs.size,[s1.heap.objs.size],_,_,H1,rfl,I1.kept (t':=s1.toks) λb o e=>Heap.get?_push_of_some _ e,B_ _ z t ty hW hS hty,⟨_,Heap.get?_push_size _ rfl,rfl,rfl⟩,λb hb=>?_,q⟩
   have e:b=s1.heap.objs.size:=by simpa using hb
   subst e
   exact I1.rZ (Nat.le_refl _) (I1.hok.fresh (Nat.le_refl _))
  cases ha:z.cps.all (·< 128) with
  |true=>exact wpAny_pyIter_ascii ha (fin _ (λA hA=>Walks.strAscii hA _ z t) (λA i s Q E st q=>wpAny_pyIter_striter_ascii st q) (by decide))
  |false=>exact wpAny_pyIter_wide ha (fin _ (λA hA=>Walks.strWide hA _ z t) (λA i s Q E st q=>wpAny_pyIter_striter_wide st q) (by decide))
def cZ{l:Expr}{m:M PV}(hl:PE X l (tV (kk X cm) E m)):PI X tg l (tI (kk X cm) E (ň m)):=λpins s σ H R I h=>E_ hl pins s σ H R I (by
 obtain⟨c,F,ρ,rel,h⟩:=h
 refine⟨c,F,ρ,rel,h.bind λp ρ1 v F1 H1 ē s1 s2 q h1=>?_⟩
 cases p with
 |lst ps=>
  have q':Rep (kk X cm) F1 (.lst ps) v:=q
  unfold Rep at q'
  obtain⟨a,vs,rfl,e1,e2⟩:=q'
  refine .inl ⟨a,rfl,⟨vs,ē.sub.seq e1⟩,h1 _ F1 H1 ē (Same.refl _) (Same.refl _) ?_⟩
  intro c' i F2 H2 σ2 ρ2 Ĳ sF _
  have hq:Ś X.K H2 a vs:=(sF.trans Ĳ.sub).seq e1
  refine⟨λp hp=>?_,λhi=>⟨vs,hq,by rw[hi,e2.length];exact Nat.le_refl _⟩⟩
  obtain⟨u,hu,ru⟩:=bD e2.pr hp
  refine⟨⟨vs,u,hq,hu⟩,λx H' ⟨hH,hx⟩=>?_⟩
  subst hH
  have:vs[i]?=some x:=hx vs hq
  rw[hu] at this
  cases this
  exact⟨F2,Ĳ,Same.refl _,Same.refl _,Rep.same sF p u ru⟩
 |tup ps=>
  have q':Rep (kk X cm) F1 (.tup ps) v:=q
  unfold Rep at q'
  obtain⟨a,vs,rfl,e1,e2⟩:=q'
  refine .inr (.inl ⟨a,rfl,⟨vs,Same.tup ē.sub e1⟩,h1 _ F1 H1 ē (Same.refl _) (Same.refl _) ?_⟩)
  intro c' i F2 H2 σ2 ρ2 Ĳ sF _
  have hq:dD X.K H2 a vs:=Same.tup (sF.trans Ĳ.sub) e1
  refine⟨λp hp=>?_,λhi=>⟨vs,hq,by rw[hi,e2.length];exact Nat.le_refl _⟩⟩
  obtain⟨u,hu,ru⟩:=bD e2.pr hp
  refine⟨⟨vs,u,hq,hu⟩,λx H' ⟨hH,hx⟩=>?_⟩
  subst hH
  have:vs[i]?=some x:=hx vs hq
  rw[hu] at this
  cases this
  exact⟨F2,Ĳ,Same.refl _,Same.refl _,Rep.same sF p u ru⟩
 |str z=>
  have q':v=.str z:=by have q':Rep (kk X cm) F1 (.str z) v:=q;unfold Rep at q';exact q'
  subst q'
  refine .inr (.inr ⟨z,rfl,h1 _ F1 H1 ē (Same.refl _) (Same.refl _) ?_⟩)
  intro c' i F2 H2 σ2 ρ2 Ĳ sF _
  refine⟨λp hp=>?_,λhi=>by rw[hi,List.length_map];show _=_;simp⟩
  rw[List.getElem?_map] at hp
  cases ez:z.cps.toList[i]? with
  |none=>rw[ez] at hp;cases hp
  |some cc=>
   rw[ez] at hp
   cases hp
   refine⟨by have:=(List.getElem?_eq_some_iff.mp ez).1;show i<z.cps.size;simpa using this,λx H' ⟨hH,c2,hc,hx⟩=>?_⟩
   subst hH hx
   rw[ez] at hc
   cases hc
   exact⟨F2,Ĳ,Same.refl _,Same.refl _,Rep.str⟩
 |_=>exact h1.elim)
def Ŕ(i:Nat):M (List PV):=λρ=>match ρ[i]? with
 |some (.bw ps)=>.ok ps ρ
 |some (.sh (.lst ps))=>.ok ps ρ
 |some (.sh (.tup ps))=>.ok ps ρ
 |some (.sh (.str z))=>.ok (z.cps.toList.map λc=>.str ⟨#[c]⟩) ρ
 |some (.ow ps)=>.ok ps (ρ.set i (.sh (.lst ps)))
 |_=>.bad
def aQ(i:Nat){x:Str}{px:Pos}(hN:X.N[i]?=some x:=by rfl)(hv:wN X.env.scope x:=by first|exact Or.inl rfl|exact Or.inr (Or.inl rfl)|exact Or.inr (Or.inr rfl))(hd:(x== ("__debug__" :Str))=false:=by decide)
 (hcd:(x== ("__classdict__" :Str))=false:=by decide):PI X tg (.Name x px) (tI (kk X cm) E (Ŕ i)):=λpins s σ H R I h=>by
 obtain⟨c,F,ρ,rel,h⟩:=h
 cases e:ρ[i]? with
 |none=>unfold Ŕ at h;rw[e] at h;exact h.elim
 |some sl=>
  have Kr:aG (kk X cm) E (rIt (kk X cm)) c F H σ R (ň (Ğ i) ρ)->wpAny (model X.prog X.w) X.A (eval (.Name x px) X.env) (λv s1=>wpAny (model X.prog X.w) X.A (pyIter v) (PIE X pins σ tg R) X.xe s1) X.xe s:=λh'=>
   cZ (v_var i hN hv hd hcd) pins s σ H R I ⟨c,F,ρ,rel,h'⟩
  unfold Ŕ at h
  rw[e] at h
  cases sl with
  |no=>exact h.elim
  |rc C ns ps=>exact h.elim
  |ot ps qs rs=>exact h.elim
  |ol bN=>exact h.elim
  |fr bN=>exact h.elim
  |bn qs rows=>exact h.elim
  |ow ps=>exact Kr (by unfold ň Ğ;rw[e];exact h)
  |sh p=>
   cases p with
   |lst ps=>exact Kr (by unfold ň Ğ;rw[e];exact h)
   |tup ps=>exact Kr (by unfold ň Ğ;rw[e];exact h)
   |str z=>exact Kr (by unfold ň Ğ;rw[e];exact h)
   |_=>exact h.elim
  |bw ps=>
   obtain⟨a,vs,h1,h2,h3⟩:=rel.slot i _ e
   refine E_ (cB hN hv hd hcd) pins s σ H R I ⟨.ref a,at_of h1,.inl ⟨a,rfl,⟨vs,Ś.of (rel.lent a _ h2).1⟩,h _ F H rel (Same.refl _) (Same.refl _) ?_⟩⟩
   intro c' j F2 H2 σ2 ρ2 Ĳ sF sL
   have hq:Ś X.K H2 a vs:=Ś.of (sL a _ h2)
   refine⟨λp hp=>?_,λhi=>⟨vs,hq,by rw[hi,h3.length];exact Nat.le_refl _⟩⟩
   obtain⟨u,hu,ru⟩:=bD h3.pr hp
   refine⟨⟨vs,u,hq,hu⟩,λx H' ⟨hH,hx⟩=>?_⟩
   subst hH
   have:vs[j]?=some x:=hx vs hq
   rw[hu] at this
   cases this
   exact⟨F2,Ĳ,Same.refl _,Same.refl _,Rep.same sF p u ru⟩
def gb(lo:Int)(n:Nat)(c:Int):List PV:=(List.range n).map λ(i:Nat)=>.int (lo+i*c)
def nM(i:Int):Bool:=decide (i.natAbs<1152921504606846976)
def aX:List PV->Option (List PV)
 | [.int j]=>if nM j=true then some (gb 0 j.toNat 1) else none
 |_=>none
def aR(f:List PV->Option (List PV))(mr:M (List PV)):M (List PV):=λρ=>(mr ρ).bind λps ρ1=>Res.mY (f ps) ρ1
def xV{lo c:Int}{n i:Nat}{p:PV}(h:(gb lo n c)[i]?=some p):i<n/\p=.int (lo+i*c):=by
 unfold gb at h
 by_cases hn:i<n
 ·rw[List.getElem?_map,List.getElem?_range hn] at h
  exact⟨hn,(Option.some.inj h).symm⟩
 ·rw[List.getElem?_eq_none (by simpa using hn)] at h
  cases h
def xW{lo c:Int}{n:Nat}:(gb lo n c).length=n:=by simp[gb]
def Vt{K:KK}{Lh F:Hp}(lo:Int)(n:Nat):Kq K Lh F (Itr lo n) (gb lo n 1):=λc i F2 H σ ρ rel sF _=>
 ⟨fun p hp=>by
   obtain⟨h1,rfl⟩:=xV hp
   refine⟨h1,λx H' ⟨e1,e2⟩=>?_⟩
   subst e1 e2
   exact⟨F2,rel,Same.refl _,Same.refl _,by rw[Int.mul_one];exact Rep.int⟩,λhi=>by rw[xW] at hi;subst hi;exact Nat.le_refl _⟩
def Ce{i:Int}(h:nM i=true): -(2 ^ 60)<=i/\i<2 ^ 60:=by
 unfold nM at h
 rw[decide_eq_true_eq] at h
 omega
variable{a b d:Expr}{p pos:Pos}{mr:M (List PV)}
def Fb{K:KK}{F:Hp}{ps:List PV}{vs:List V}(h:Ĕ K F ps vs):(∀i r,ps=.int i::r->∃r',vs=.int i::r'/\Ĕ K F r r')/\(ps=[]->vs=[]):=by
 refine⟨λi r e=>?_,λe=>?_⟩
 ·subst e
  unfold Ĕ at h
  obtain⟨x,r',h1,h2,h3⟩:=h
  unfold Rep at h2
  exact⟨r',by rw[h1,h2],h3⟩
 ·subst e
  unfold Ĕ at h
  exact h
def Ŵ(hg:Gl X "range")(hm:X.mg "range" =none)(ha:PA X [a] (tL (kk X cm) E mr))(hs:starEach [a] X.env=[(false,eval a X.env)]:=by exact aB rfl):PI X tg (.Call (.Name "range" p) [a] [] pos) (tI (kk X cm) E (aR aX mr)):=
 λpins s σ H R I h=>Bq hg hm ha hs pins s σ H R I (by
  obtain⟨c,F,ρ,rel,h⟩:=h
  refine⟨c,F,ρ,rel,h.bind λps ρ1 vs F1 H1 ē s1 s2 q h1=>?_⟩
  have q':Ĕ (kk X cm) F1 ps vs:=q
  unfold aX at h1
  split at h1
  ·rename_i j
   split at h1
   ·rename_i hj
    obtain⟨r',e1,e2⟩:=(Fb q').1 _ _ rfl
    cases(Fb e2).2 rfl
    obtain⟨k1,k2⟩:=Ce hj
    exact⟨j,e1,by omega,by omega,h1 _ F1 H1 ē (Same.refl _) (Same.refl _) (Vt 0 j.toNat)⟩
   ·exact h1.elim
  ·exact h1.elim)
end
def ũ:Slot->Slot
 | .sh p=>.sh p
 | .ow ps=>.bw ps
 | .bw ps=>.bw ps
 |_=>.no
def dg(js:List Nat)(nl:Nat)(ρ:Ļ):Ļ:=js.map (λ(j:Nat)=>ũ ((ρ[j]?).getD .no))++List.replicate nl .no
def Ĺ(g:Tg)(mt:M Bool)(me:M PV):List PV->Ļ->List PV->Option (List PV)
 | [],_,acc=>some acc
 |p::ps,ρ,acc=>match g p ρ with
  |none=>none
  |some ρ1=>match mt ρ1 with
   | .ok true ρ2=>match me ρ2 with
     | .ok q ρ3=>if acc.length<16777216 then Ĺ g mt me ps ρ3 (acc ++ [q]) else none
     |_=>none
   | .ok false ρ2=>Ĺ g mt me ps ρ2 acc
   |_=>none
def Ŀ(js:List Nat)(nl:Nat)(mi:M (List PV))(g:Tg)(mt:M Bool)(me:M PV):M RV:=λρ=>(mi ρ).bind λitems ρ1=>match Ĺ g mt me items (dg js nl ρ1) [] with
 |some ps=>.ok (.ow ps) ρ1
 |none=>.bad
abbrev EF:L2.St->XK:=λ_ _ _ _=>False
def Ł:M Bool:=λρ=>.ok true ρ
section
variable{K:KK}{c:Ctx}{F H:Hp}{σ:L2.St}{ρ:Ļ}
def tD(F H H1:Hp):Ctx:=⟨H1,F,(ctx0 F H).L,λ_ _ _=>True⟩
def Rel.cap(js:List Nat)(nl:Nat)(rel:Rel K c F H σ ρ){D:Addr}{o:HO}(hD:H D=none):Rel K (tD F H (upd H D o)) F (upd H D o) (cU js nl σ) (dg js nl ρ) where
 sub:=rel.sub.trans (Same.upd hD)
 base:=Same.refl _
 f0:=Same.refl _
 cO:=λ_ _ z=>z
 lent:=λa u e=>⟨Same.upd hD a u (cF e).1,(cF e).2⟩
 lb:=fun a e=>by
   cases q:(tD F H (upd H D o)).L a with
   |none=>rfl
   |some u=>
    have e':upd H D o a=none:=e
    rw[Same.upd hD a u (cF q).1] at e'
    cases e'
 len:=by simp[cU,dg]
 slot:= λi s e=>by
  unfold dg at e
  by_cases hi:i<js.length
  ·rw[List.getElem?_append_left (by simpa using hi),List.getElem?_map] at e
   cases ej:js[i]? with
   |none=>rw[ej] at e;cases e
   |some j=>
    rw[ej] at e
    have e':ũ ((ρ[j]?).getD .no)=s:=Option.some.inj e
    subst e'
    have hx:((cU js nl σ)[i]?).getD none=(σ[j]?).getD none:=by
     unfold cU
     rw[List.getElem?_append_left (by simpa using hi),List.getElem?_map,ej]
     rfl
    rw[hx]
    cases er:ρ[j]? with
    |none=>trivial
    |some sl=>
     have q:=rel.slot j sl er
     cases sl with
     |no=>trivial
     |sh p=>exact q
     |ow ps=>
      obtain⟨a,vs,h1,h2,h3,h4,h5⟩:=q
      refine⟨a,vs,h1,?_,h5⟩
      show(match F a with|none=>H a|some _=>none)=_
      rw[h3]
      exact h2
     |bw ps=>
      obtain⟨a,vs,h1,h2,h3⟩:=q
      obtain⟨l1,l2⟩:=rel.lent a _ h2
      refine⟨a,vs,h1,?_,h3⟩
      show(match F a with|none=>H a|some _=>none)=_
      rw[l2]
      exact l1
     |rc C ns ps=>trivial
     |ot ps qs rs=>trivial
     |ol bN=>trivial
     |fr bN=>trivial
     |bn qs rows=>trivial
  ·rw[List.getElem?_append_right (by simpa using hi),List.getElem?_replicate] at e
   split at e
   ·cases e;trivial
   ·cases e
 sep:=λi j a h1 _=>by
  exfalso
  obtain⟨s,y,h1,_,h2⟩:=h1
  have h2:=jV h2
  unfold dg at h1
  by_cases hi:i<js.length
  ·rw[List.getElem?_append_left (by simpa using hi),List.getElem?_map] at h1
   cases ej:js[i]? with
   |none=>rw[ej] at h1;cases h1
   |some j=>
    rw[ej] at h1
    have e':ũ ((ρ[j]?).getD .no)=s:=Option.some.inj h1
    subst e'
    cases q:(ρ[j]?).getD .no<;>rw[q] at h2<;>cases h2
  ·rw[List.getElem?_append_right (by simpa using hi),List.getElem?_replicate] at h1
   split at h1
   ·cases h1;cases h2
   ·cases h1
def Rel.rebase{H1 F1:Hp}{D:Addr}{ys zs:List V}(hD:H1 D=none)(hF:F1 D=none)(rel:Rel K (tD F1 H1 (upd H1 D (.lst ys))) F H σ ρ):Rel K (tD F1 H1 (upd H1 D (.lst zs))) F (upd H D (.lst zs)) σ ρ:= by
 have fD:F D=none:=rel.cO D (by show upd H1 D _ D≠none;rw[ĝ];intro z;cases z) hF
 have lD:∀b u,(tD F1 H1 (upd H1 D (.lst ys))).L b=some u->b≠D:=λb u e z=>by
  have q:=(cF (F:=F1) (H:=H1) (a:=b) (u:=u) e).1
  rw[z,hD] at q
  cases q
 have ne:∀b,(tD F1 H1 (upd H1 D (.lst ys))).B b=none->b≠D:=λb z q=>by
  subst q
  have z':upd H1 b (.lst ys) b=none:=z
  rw[ĝ] at z';cases z'
 have back:∀b,b≠D->(tD F1 H1 (upd H1 D (.lst ys))).B b=none->(tD F1 H1 (upd H1 D (.lst zs))).B b=none:=λb hb z=>by
  have z':upd H1 D (.lst ys) b=none:=z
  show upd H1 D (.lst zs) b=none
  rw[Ė hb] at z' ⊢;exact z'
 refine⟨λb u e=>?_,λb u e=>?_,rel.f0,λb h1 h2=>?_,λb u e=>?_,λb e=>?_,rel.len,λi s e=>?_,rel.sep⟩
 ·have hb:b≠D:=λz=>by rw[z,fD] at e;cases e
  rw[Ė hb];exact rel.sub b u e
 ·by_cases hb:b=D
  ·subst hb
   have e':upd H1 b (.lst zs) b=some u:=e
   rw[ĝ] at e' ⊢;exact e'
  ·have e':upd H1 D (.lst zs) b=some u:=e
   rw[Ė hb] at e' ⊢
   exact rel.base b u (by show upd H1 D _ b=some u;rw[Ė hb];exact e')
 ·refine rel.cO b (λz=>h1 ?_) h2
  exact back b (ne b z) z
 ·rw[Ė (lD b u e)]
  exact rel.lent b u e
 ·refine rel.lb b ?_
  have z':upd H1 D (.lst zs) b=none:=e
  have hb:b≠D:=λq=>by rw[q,ĝ] at z';cases z'
  show upd H1 D (.lst ys) b=none
  rw[Ė hb] at z' ⊢;exact z'
 ·have q:=rel.slot i s e
  cases s with
  |no=>trivial
  |sh p=>exact q
  |bw ps=>exact q
  |ow ps=>
   obtain⟨a,vs,q1,q2,q3,q4,q5⟩:=q
   have hb:=ne a q4
   exact⟨a,vs,q1,by rw[Ė hb];exact q2,q3,back a hb q4,q5⟩
  |rc C ns ps=>
   obtain⟨a,dx,fs,q1,q2,q3,q4,q5⟩:=q
   have hb:=ne a q4
   exact⟨a,dx,fs,q1,by rw[Ė hb];exact q2,q3,back a hb q4,q5⟩
  |ot ps qs rs=>
   obtain⟨p,a,xs,vs,ys,q1,q0,qx,q2,q3,q4,q5⟩:=q
   have hb:=ne a q4
   exact⟨p,a,xs,vs,ys,q1,q0,qx,by rw[Ė hb];exact q2,q3,back a hb q4,q5⟩
  |ol bN=>
   obtain⟨p,as,q1,q0,qn,qp⟩:=q
   refine⟨p,as,q1,q0,qn,nF qp λa ps _ ⟨vs,q2,q3,q4,q5⟩=>?_⟩
   have hb:=ne a q4
   exact⟨vs,by rw[Ė hb];exact q2,q3,back a hb q4,q5⟩
  |fr bN=>
   obtain⟨p,as,q1,q2,q3,q4,qn,qp⟩:=q
   have hb:=ne p q4
   exact⟨p,as,q1,by rw[Ė hb];exact q2,q3,back p hb q4,qn,nF qp λa ps _ ⟨vs,k1,k2,k3⟩=>⟨vs,k1,back a (ne a k2) k2,k3⟩⟩
  |bn qs rows=>
   obtain⟨v,q1,a,b,ys,vs,h1,h2,h3,h4,h5⟩:=q
   exact⟨v,q1,a,b,ys,vs,h1,h2,back a (ne a h3) h3,back b (ne b h4) h4,h5⟩
end
section
variable{X:Cx}{cm:String->Addr}{E:L2.St->XK}{elt tg iter:Expr}{ifs:List Expr}{scope:Scope}{pos:Pos}{mi:M (List PV)}{g:Tg}{mt:M Bool}{me:M PV}
def Ŝ:CJ X [] (tB (kk X cm) E Ł):=λpins s σ H Q I h=>JQ pins s σ H Q I (by
 obtain⟨c,F,ρ,rel,h⟩:=h
 exact h true F H rel (Same.refl _) (Same.refl _) rfl)
def tE{a:Expr}(h:PT X a (tB (kk X cm) E mt)):CJ X [a] (tB (kk X cm) E mt):=JR h
def Fd(K:KK):RR (List PV) It:=λ_ _ _ F H items J=>Kq K (ctx0 F H).L F J items
def Zar{K:KK}{c:Ctx}{F H:Hp}{σ:L2.St}{ρ:Ļ}(rel:Rel K c F H σ ρ){b:Addr}{u:HO}(e:c.L b=some u):(ctx0 F H).L b=some u:=by
 obtain⟨l1,l2⟩:=rel.lent b u e
 show(match F b with|none=>H b|some _=>none)=some u
 rw[l2]
 exact l1
def Mq(h:PI X tg iter (tI (kk X cm) E mi)):PI X tg iter (tG (kk X cm) E (Fd (kk X cm)) mi):=λpins s σ H R I ⟨c,F,ρ,rel,q⟩=>h pins s σ H R I ⟨c,F,ρ,rel,aG.bind (R':=Fd (kk X cm)) (f:=λp ρ=>.ok p ρ) (by revert q;cases mi ρ <;> exact id) λp ρ1 v F1 H1 ē s1 s2 q h1=>h1 v F1 H1 ē (Same.refl _) (Same.refl _) λc' i F2 H2 σ2 ρ2 Ĳ sF sL=>q c' i F2 H2 σ2 ρ2 Ĳ sF λb u e=>sL b u (Zar ē e)⟩
def vD{js:List Nat}{nl:Nat}{σ:L2.St}{H:Hp}{Q:VK}(h:tO (kk X cm) E (Ŀ js nl mi g mt me) σ H Q):Ej js nl (tG (kk X cm) E (Fd (kk X cm)) mi) (tT (kk X cm) g) (tB (kk X cm) EF mt) (tV (kk X cm) EF me) σ H Q:=by
 obtain⟨c,F,ρ,rel,h⟩:=h
 refine⟨c,F,ρ,rel,h.bind λitems ρ1 J F1 H1 ē s1 s2 ito h1=>?_⟩
 intro D hD
 have hF:F1 D=none:=ē.sub.free hD
 cases ec:Ĺ g mt me items (dg js nl ρ1) [] with
 |none=>rw[ec] at h1;exact h1.elim
 |some res=>
  rw[ec] at h1
  refine⟨λi m σ' H'=>∃F' ρ' ys acc,i<=items.length/\m=items.length-i/\Rel (kk X cm) (tD F1 H1 (upd H1 D (.lst ys))) F' H' σ' ρ'/\Ĕ (kk X cm) F' acc ys/\Ĺ g mt me (items.drop i) ρ' acc=some res,
   ⟨_,F1,_,[],[],Nat.zero_le _,rfl,?_,Ĕ.nil,ec⟩,?_⟩
  ·exact ē.cap js nl hD
  ·rintro i m σ2 H2 ⟨F2,ρ2,ys,acc,hle,rfl,Ĳ,ra,h2⟩
   have s12:Same F1 F2:=Ĳ.f0
   obtain⟨go,stop⟩:=ito _ i F2 H2 σ2 ρ2 Ĳ s12 λb u e=>(Ĳ.lent b u e).1
   have hH2:H2 D=some (.lst ys):=Ĳ.base D _ (show upd H1 D _ D=_ from ĝ)
   have fD:F2 D=none:=Ĳ.cO D (by show upd H1 D _ D≠none;rw[ĝ];intro z;cases z) hF
   by_cases hlt:i<items.length
   ·obtain⟨g1,g2⟩:=go items[i] (List.getElem?_eq_getElem hlt)
    rw[List.drop_eq_getElem_cons hlt] at h2
    unfold Ĺ at h2
    refine .inr ⟨g1,_,λσ' H' z=>z,λx H3 hy=>?_⟩
    obtain⟨F3,sZ,s3,sH3,rp⟩:=g2 x H3 hy
    refine⟨_,F3,ρ2,items[i],sZ,rp,?_⟩
    cases eg:g items[i] ρ2 with
    |none=>rw[eg] at h2;cases h2
    |some ρ3=>
     rw[eg] at h2
     dsimp only at h2
     intro σ4 Eu
     refine⟨_,F3,ρ3,Eu,?_⟩
     cases em:mt ρ3 with
     |bad=>rw[em] at h2;cases h2
     |exc x ρ4=>rw[em] at h2;cases h2
     |ok b ρ4=>
      rw[em] at h2
      intro b' F5 H5 Zas s5 tH eb
      have eb':b=b':=eb
      subst eb'
      cases b with
      |false=>
       rw[if_neg Bool.false_ne_true]
       dsimp only at h2
       exact⟨items.length-(i+1),by omega,F5,ρ4,ys,acc,hlt,rfl,Zas,Ĕ.same (s3.trans s5) acc ys ra,h2⟩
      |true=>
       rw[if_pos rfl]
       dsimp only at h2
       refine⟨_,F5,ρ4,Zas,?_⟩
       cases ee:me ρ4 with
       |bad=>rw[ee] at h2;cases h2
       |exc x ρ5=>rw[ee] at h2;cases h2
       |ok q ρ5=>
        rw[ee] at h2
        dsimp only at h2
        intro y F6 H6 Zat s6 CP rq
        split at h2
        ·rename_i hz
         have ra6:=Ĕ.same ((s3.trans s5).trans s6) acc ys ra
         refine⟨ys,Zat.base D _ (show upd H1 D _ D=_ from ĝ),by rw[<-ra6.length,Ī];exact hz,?_⟩
         exact⟨items.length-(i+1),by omega,F6,ρ5,ys ++ [y],acc ++ [q],hlt,rfl,Zat.rebase hD hF,Ĕ.append ra6 (Ĕ.cons rq Ĕ.nil),h2⟩
        ·cases h2
   ·have e:i=items.length:=by omega
    refine .inl ⟨stop e,?_⟩
    rw[List.drop_eq_nil_of_le (by omega)] at h2
    unfold Ĺ at h2
    cases h2
    have gr:Gr F1 H1 F2 H2:=⟨λb u e=>Ĳ.base b u (by show upd H1 D _ b=_;rw[Ė (Ģ e hD)];exact e),s12,Ĳ.sub,λb hb hf=>Ĳ.cO b (by
     show upd H1 D _ b≠none
     by_cases hbD:b=D
     ·rw[hbD,ĝ];intro z;cases z
     ·rw[Ė hbD];exact hb) hf⟩
    have ZcF:=ē.call gr
    exact h1 _ F2 H2 ZcF s12 gr.h ⟨D,ys,rfl,hH2,fD,ē.base.free hD,ē.je gr.f (ē.fresh hD),ra⟩
def Ks(N':List Str)(js:List Nat)(nl:Nat)(sc:Scope)(hsc:X.env.scope=sc)(hcalm:X.calm=true)
 (hi:PI X.ő tg iter (tG (kk X cm) E (Fd (kk X cm)) mi))(hg:∀cl C s H fp,PG (cD X.ő N' scope cl C s H fp) tg (tT (kk X cm) g))(ht:∀cl C s H fp,CJ (cD X.ő N' scope cl C s H fp) ifs (tB (kk X cm) EF mt))(he:∀cl C s H fp,PE (cD X.ő N' scope cl C s H fp) elt (tV (kk X cm) EF me))
 (hcap:cT X.ő sc scope N' js)(hlen:js.length+nl=N'.length:=by rfl)
 (hk:scope.kind=.function:=by rfl)(hcell:∀y∈scope.names,y.2=.cell->scope.names.lookup y.1=some .cell:=by decide +kernel)(hnames:∀y∈scope.names,y.2=.local->scope.names.lookup y.1=some .local:=by decide +kernel)
 (hfree:∀y∈scope.names,y.2=.free->(sc.names.lookup y.1=some .cell\/sc.names.lookup y.1=some .free):=by decide +kernel)
 (hs:∀x,foldedSetIterable iter X.env x=pure x:=by intro _;rfl) :
 PE X (.ListComp elt [⟨tg,iter,ifs,0⟩] scope pos) (tO (kk X cm) E (Ŀ js nl mi g mt me)):=
 PE.wk (PE.ő (JT N' js nl sc hsc hcalm hi hg ht he hcap hlen hk hcell hnames hfree hs)) λ_ _ _ h=>vD h
end
end P
namespace P
open PySem PySem.Spec PyProof.Rows L2 M2 M3 M4
abbrev bits(x:Int):Nat:=Builtin.Int.intBits x
section
variable{X:Cx}{cm:String->Addr}{K:KK}
def Mr(K:PySem.W.Frag):R2:=λx y H Q=>∃l b xs zs,x=.ref l/\y=.ref b/\Ś K H l xs/\Ś K H b zs/\xs.length+zs.length<=sizeLine/\∀p,H p=none->Q (.ref p) (upd H p (.lst (xs++zs)))
def Ku:ť X (binaryOp .Add) (Mr X.K):=by
 intro pins s σ H x y v u Q I rx ry h
 obtain⟨l,b,xs,zs,rfl,rfl,hH,hB,hz,q⟩:=h
 cases rx
 cases ry
 obtain⟨its,r,pl,z⟩:=I.list hH
 obtain⟨its2,r2,pl2,z2⟩:=I.list hB
 obtain⟨⟨c1,d1,t1,sl1⟩,n,e,hc,hd,hs⟩:=pl
 obtain⟨⟨c2,d2,t2,sl2⟩,n2,e2,hc2,hd2,hs2⟩:=pl2
 simp only at hc hd hs hc2 hd2 hs2
 subst hc hd hs hc2 hd2 hs2
 have hl:=r.length
 have hl2:=r2.length
 have ea:its.toArray++its2.toArray=(its++its2).toArray:=by simp
 refine concat_meets ⟨_,e,rfl⟩ ⟨_,e2,rfl⟩ noFill_list_add seq_list_add PySem.F.slot_list_add PySem.F.entry_list_add (PySem.F.args_list_add_2 _ _) (list_addW l b its.toArray its2.toArray n n2 none none sl1 sl2 (by simp only[List.size_toArray];omega)) ⟨e,e2,?_⟩
 rw[ea]
 exact⟨.ref _,_,I.Zct (t':=s.toks) (r.append r2) (by rw[List.length_append];omega),rfl,q _ I.fresh⟩
def Ms(K:PySem.W.Frag):R2:=λx y H Q=>∃l b xs zs,x=.ref l/\y=.ref b/\dD K H l xs/\dD K H b zs/\xs≠[]/\zs≠[]/\xs.length+zs.length<=sizeLine/\∀p,H p=none->Q (.ref p) (upd H p (.tup (xs++zs)))
def Kv:ť X (binaryOp .Add) (Ms X.K):=by
 intro pins s σ H x y v u Q I rx ry h
 obtain⟨l,b,xs,zs,rfl,rfl,hH,hB,nx,nz,hz,q⟩:=h
 cases rx
 cases ry
 obtain⟨its,r,pl,z⟩:=I.tuple hH
 obtain⟨its2,r2,pl2,z2⟩:=I.tuple hB
 obtain⟨⟨c1,d1,t1,sl1⟩,e,hc,n,hd⟩:=pl
 obtain⟨⟨c2,d2,t2,sl2⟩,e2,hc2,n2,hd2⟩:=pl2
 simp only at hc hd hc2 hd2
 subst hc hd hc2 hd2
 have hl:=r.length
 have hl2:=r2.length
 have ne1:its≠[]:=λz=>by rw[z] at hl;exact nx (List.length_eq_zero_iff.mp hl)
 have ne2:its2≠[]:=λz=>by rw[z] at hl2;exact nz (List.length_eq_zero_iff.mp hl2)
 have ea:its.toArray++its2.toArray=(its++its2).toArray:=by simp
 refine concat_meets ⟨_,e,rfl⟩ ⟨_,e2,rfl⟩ noFill_tuple_add seq_tuple_add PySem.F.slot_tuple_add PySem.F.entry_tuple_add (PySem.F.args_tuple_add_2 _ _) (tuple_addW2 l b its.toArray its2.toArray n n2 d1 d2 sl1 sl2 (by simpa using ne1) (by simpa using ne2) (by simp only[List.size_toArray];omega)) ⟨e,e2,?_⟩
 rw[ea]
 exact⟨.ref _,_,I.laid (o:=.tup (xs++zs)) (t':=s.toks) (λ_ _ q=>Heap.get?_push_of_some _ q) (Nat.le_refl _) ⟨by rw[List.length_append];omega,(its++its2),r.append r2,⟨_,Heap.get?_push_size _ rfl,rfl,_,rfl⟩⟩,rfl,q _ I.fresh⟩
def Ĝ:PV->PV->Option RV
 | .int i,.int j=>some (.sh (.int (i+j)))
 | .str i,.str j=>if i.length+j.length<=16777216 then some (.sh (.str (i++j))) else none
 | .lst ps,.lst qs=>if ps.length+qs.length<=16777216 then some (.ow (ps++qs)) else none
 | .tup (p::ps),.tup (q::qs)=>if(p::ps).length+(q::qs).length<=16777216 then some (.sh (.tup ((p::ps)++(q::qs)))) else none
 |_,_=>none
def Mt(K:PySem.W.Frag):R2:=λx y H Q=>Zaa x y H Q\/(Mr K x y H Q\/Ms K x y H Q)
def Vu:ť X (binaryOp .Add) (Mt X.K):=U_.or (Ku.or Kv)
def Vv:OpO K (Mt K.K) Ĝ:=by
 intro c F H σ ρ p q pv v u Q rel r1 r2 e k
 unfold Ĝ at e
 split at e
 ·cases e
  cases r1.int
  cases r2.int
  exact .inl (k _ F H rel (Same.refl _) (Same.refl _) (Rep.int (K:=K) (F:=F)))
 ·split at e
  ·rename_i hz
   cases e
   cases r1.str
   cases r2.str
   exact .inl ⟨by rw[Ī];exact hz,k _ F H rel (Same.refl _) (Same.refl _) (Rep.str (K:=K) (F:=F))⟩
  ·cases e
 ·split at e
  ·rename_i hz
   cases e
   obtain⟨a,xs,rfl,h1,h2⟩:=r1.lst rel.sub
   obtain⟨b,ys,rfl,h3,h4⟩:=r2.lst rel.sub
   refine .inr (.inl ⟨a,b,xs,ys,rfl,rfl,h1,h3,by rw[<-h2.length,<-h4.length,Ī];exact hz,λd hd=>?_⟩)
   obtain⟨q1,q2⟩:=fX rel hd (Ĕ.append h2 h4)
   exact k _ F _ q1 (Same.refl _) (Same.upd hd) q2
  ·cases e
 ·split at e
  ·rename_i hz
   cases e
   obtain⟨a,xs,rfl,h1,h2⟩:=r1.tup rel.sub
   obtain⟨b,ys,rfl,h3,h4⟩:=r2.tup rel.sub
   have l1:=h2.length
   have l2:=h4.length
   refine .inr (.inr ⟨a,b,xs,ys,rfl,rfl,h1,h3,(λz=>by rw[z] at l1;cases l1),(λz=>by rw[z] at l2;cases l2),by rw[<-l1,<-l2,Ī];exact hz,λl hl=>k _ _ _ (rel.alloc hl) (Same.upd (rel.sub.free hl)) (Same.upd hl) ?_⟩)
   show Rep K _ _ _
   unfold Rep
   exact⟨l,xs++ys,rfl,dD.of ĝ,Ĕ.same (Same.upd (rel.sub.free hl)) _ _ (Ĕ.append h2 h4)⟩
  ·cases e
 ·cases e
def vf(g:Int->Int->Int):PV->PV->Option PV
 | .int i,.int j=>some (.int (g i j))
 |_,_=>none
def zN(C:Int->Int->Bool)(g:Int->Int->Int):PV->PV->Option PV
 | .int i,.int j=>if C i j=true then some (.int (g i j)) else none
 |_,_=>none
def opC(g:Int->Int->Bool):PV->PV->Option PV
 | .int i,.int j=>some (.bl (g i j))
 |_,_=>none
def Mu{g:Int->Int->Int}:jf K (BX λi j=>.int (g i j)) (vf g):=by
 intro c F H σ ρ p q pv v u Q rel r1 r2 e k
 unfold vf at e
 split at e
 ·cases e
  cases r1.int
  cases r2.int
  exact k _ F H rel (Same.refl _) (Same.refl _) Rep.int
 ·cases e
def Vw{g:Int->Int->Bool}:jf K (BX λi j=>.bl (g i j)) (opC g):=by
 intro c F H σ ρ p q pv v u Q rel r1 r2 e k
 unfold opC at e
 split at e
 ·cases e
  cases r1.int
  cases r2.int
  exact k _ F H rel (Same.refl _) (Same.refl _) Rep.bl
 ·cases e
def Fe{C:Int->Int->Bool}{C':Int->Int->Prop}{g:Int->Int->Int}(hC:∀i j,C i j=true->C' i j):jf K (mI C' λi j=>.int (g i j)) (zN C g):=by
 intro c F H σ ρ p q pv v u Q rel r1 r2 e k
 unfold zN at e
 split at e
 ·split at e
  ·rename_i hc
   cases e
   cases r1.int
   cases r2.int
   exact⟨hC _ _ hc,k _ F H rel (Same.refl _) (Same.refl _) Rep.int⟩
  ·cases e
 ·cases e
def ş:=vf λi j=>i-j
def Vx:jf K (BX λi j=>.int (i-j)) ş:=Mu
def eO(_ j:Int):Bool:=decide (j≠0) && decide (bits j<=8000)
def Ŋ:=zN eO λi j=>i.fdiv j
def Vy:jf K (mI BZ λi j=>.int (i.fdiv j)) Ŋ:=Fe λi j h=>by unfold eO at h;simpa[BZ] using h
def Ad(_ j:Int):Bool:=decide (j≠0)
def Ĩ:=zN Ad λi j=>i.fmod j
def Vz:jf K (mI (λ_ j=>j≠0) λi j=>.int (i.fmod j)) Ĩ:=Fe λi j h=>by unfold Ad at h;simpa using h
def vG(i j:Int):Bool:=decide (0<=j) && decide (j.natAbs<=1000000) && decide (i.natAbs<18446744073709551616)
def nO:=zN vG λi j=>i ^ j.toNat
def nP:jf K (mI Bu λi j=>.int (i ^ j.toNat)) nO:=Fe λi j h=>by
 unfold vG at h
 simp only[Bool.and_eq_true,decide_eq_true_eq] at h
 exact⟨h.1.1,by omega,by have:=h.2;simpa using this⟩
def nQ(i j:Int):Bool:=decide (0<=j) && decide (j.natAbs<=1000000) && decide (i.natAbs<18446744073709551616)
def vH:=zN nQ λi j=>i*2 ^ j.toNat
def xX:jf K (mI Bu λi j=>.int (i*2 ^ j.toNat)) vH:=Fe λi j h=>by
 unfold nQ at h
 simp only[Bool.and_eq_true,decide_eq_true_eq] at h
 exact⟨h.1.1,by omega,by have:=h.2;simpa using this⟩
def vI(_ j:Int):Bool:=decide (0<=j)
def Ae:=zN vI λi j=>i / 2 ^ j.toNat
def Fg:jf K (mI (λ_ j=>0<=j) λi j=>.int (i / 2 ^ j.toNat)) Ae:=Fe λi j h=>by unfold vI at h;simpa using h
def xY:=vf λi j=>Builtin.bitAnd i j
def Kw:jf K (BX λi j=>.int (Builtin.bitAnd i j)) xY:=Mu
def xZ:ť X (binaryOp .LShift) (mI Bu λi j=>.int (i*2 ^ j.toNat)):=ť.wk Um qH
def Fi:ť X (binaryOp .RShift) (mI (λ_ j=>0<=j) λi j=>.int (i / 2 ^ j.toNat)):=ť.wk Uo qH
def Ky:ť X (binaryOp .BitAnd) (BX λi j=>.int (Builtin.bitAnd i j)):=ť.wk Uq nq
def gj:=opC λi j=>decide (i<j)
def fG:=opC λi j=>decide (i<=j)
def Kz:=opC λi j=>decide (j<i)
def gk:jf K (BX λi j=>.bl (decide (i<j))) gj:=Vw
def eU:jf K (BX λi j=>.bl (decide (i<=j))) fG:=Vw
def Mv:jf K (BX λi j=>.bl (decide (j<i))) Kz:=Vw
def ŀ(i j:Int):Bool:=decide (i.natAbs<18446744073709551616) || decide (j.natAbs<18446744073709551616) || (decide (bits i<=1048576) && decide (bits j<=1048576))
def Fj{i j:Int}(h:ŀ i j=true):qI i j:=by
 unfold ŀ at h
 simp only[Bool.or_eq_true,Bool.and_eq_true,decide_eq_true_eq] at h
 rcases h with(h|h)|h
 ·exact .inl (.inl ⟨by omega,by omega⟩)
 ·exact .inl (.inr ⟨by omega,by omega⟩)
 ·exact .inr h
def ġ:PV->PV->Option PV
 | .int i,.int j=>if ŀ i j=true then some (.int (i*j)) else none
 | .str z,.int n=>if 0<=n/\n<=1000/\z.length<=1000 then some (.str (S (List.replicate n.toNat z.cps.toList).flatten)) else none
 |_,_=>none
def VB:jf K Eo ġ:=by
 intro c F H σ ρ p q pv v u Q rel r1 r2 e k
 unfold ġ at e
 split at e
 ·split at e
  ·rename_i hc
   cases e
   cases r1.int
   cases r2.int
   exact⟨Fj hc,k _ F H rel (Same.refl _) (Same.refl _) Rep.int⟩
  ·cases e
 ·split at e
  ·rename_i hc
   cases e
   cases r1.str
   cases r2.int
   exact⟨hc,k _ F H rel (Same.refl _) (Same.refl _) Rep.str⟩
  ·cases e
 ·cases e
variable{E:L2.St->XK}{a b e:Expr}{es:List Expr}{pos:Pos}{ma mb:M PV}{mr:M (List PV)}
def aP:PV->Option PV
 | .int i=>some (.int (-i))
 |_=>none
def bI:UnV K (mU λi=>.int (-i)) aP:=by
 intro c F H σ ρ p pv v Q rel r1 e k
 unfold aP at e
 split at e
 ·cases e
  cases r1.int
  exact k _ F H rel (Same.refl _) (Same.refl _) Rep.int
 ·cases e
mutual
def eqB:PV->PV->Bool
 | .non,.non=>true
 | .bl a,.bl b=>a== b
 | .bl a,.int j=>(if a then 1 else 0)== j
 | .int i,.bl b=>i== (if b then 1 else 0)
 | .int i,.int j=>i== j
 | .str x,.str y=>x== y
 | .lst xs,.lst ys=>dR xs ys
 | .tup xs,.tup ys=>dR xs ys
 |_,_=>false
def dR:List PV->List PV->Bool
 | [],[]=>true
 |x::xs,y::ys=>eqB x y && dR xs ys
 |_,_=>false
end
mutual
def Ř:PV->Bool
 | .non| .bl _| .int _=>true
 | .str x=>PyData.strOk x
 | .lst xs=>Ť xs
 | .tup xs=>Ť xs
 |_=>false
def Ť:List PV->Bool
 | []=>true
 |x::xs=>Ř x && Ť xs
end
mutual
def dep:PV->Nat
 | .lst xs=>bJ xs+1
 | .tup xs=>bJ xs+1
 |_=>0
def bJ:List PV->Nat
 | []=>0
 |x::xs=>max (dep x) (bJ xs)
end
mutual
def toD:PV->PyData
 | .non=>.none
 | .bl b=>.bool b
 | .int i=>.int i
 | .str x=>.str x
 | .lst xs=>.list (dh xs)
 | .tup xs=>.tuple (dh xs)
 |_=>.none
def dh:List PV->List PyData
 | []=>[]
 |x::xs=>toD x::dh xs
end
mutual
theorem dU:∀p:PV,Ř p=true->(toD p).canLay0=true
 | .non,_=>rfl
 | .bl _,_=>rfl
 | .int _,_=>rfl
 | .str x,h=>by unfold Ř at h;unfold toD PyData.canLay0;exact h
 | .lst xs,h=>by unfold Ř at h;unfold toD PyData.canLay0;exact gn xs h
 | .tup xs,h=>by unfold Ř at h;unfold toD PyData.canLay0;exact gn xs h
 | .ins _ _ _,h=>by simp[Ř] at h
 | .xc _ _ _,h=>by simp[Ř] at h
 | .ty _,h=>by simp[Ř] at h
 | .cls _,h=>by simp[Ř] at h
theorem gn:∀ps:List PV,Ť ps=true->PyData.canLayAll0 (dh ps)=true
 | [],_=>rfl
 |p::ps,h=>by
  unfold Ť at h
  rw[Bool.and_eq_true] at h
  unfold dh PyData.canLayAll0
  rw[dU p h.1,gn ps h.2]
  rfl
end
mutual
theorem dW:∀p:PV,(toD p).depth=dep p
 | .non=>rfl
 | .bl _=>rfl
 | .int _=>rfl
 | .str x=>rfl
 | .lst xs=>by unfold toD PyData.depth dep;rw[nR xs]
 | .tup xs=>by unfold toD PyData.depth dep;rw[nR xs]
 | .ins _ _ _=>rfl
 | .xc _ _ _=>rfl
 | .ty _=>rfl
 | .cls _=>rfl
theorem nR:∀ps:List PV,PyData.depthAll (dh ps)=bJ ps
 | []=>rfl
 |p::ps=>by unfold dh PyData.depthAll bJ;rw[dW p,nR ps]
end
mutual
theorem tK:∀p q:PV,Ř p=true->Ř q=true->PyData.eqv (toD p) (toD q)=eqB p q
 | .lst xs,.lst ys,h1,h2=>by
   unfold Ř at h1 h2
   unfold toD eqB PyData.eqv
   exact tM xs ys h1 h2
 | .tup xs,.tup ys,h1,h2=>by
   unfold Ř at h1 h2
   unfold toD eqB PyData.eqv
   exact tM xs ys h1 h2
 | .ins _ _ _,_,h,_=>by simp[Ř] at h
 | .xc _ _ _,_,h,_=>by simp[Ř] at h
 | .ty _,_,h,_=>by simp[Ř] at h
 | .cls _,_,h,_=>by simp[Ř] at h
 | .non,q,_,h=>by cases q<;>first|rfl|(simp[Ř] at h)|(simp[toD,eqB,PyData.eqv])
 | .bl _,q,_,h=>by cases q<;>first|rfl|(simp[Ř] at h)|(simp[toD,eqB,PyData.eqv])
 | .int _,q,_,h=>by cases q<;>first|rfl|(simp[Ř] at h)|(simp[toD,eqB,PyData.eqv])
 | .str _,q,_,h=>by cases q<;>first|rfl|(simp[Ř] at h;done)|(simp[toD,eqB,PyData.eqv])
 | .lst _,.non,_,_=>by simp[toD,eqB,PyData.eqv]
 | .lst _,.bl _,_,_=>by simp[toD,eqB,PyData.eqv]
 | .lst _,.int _,_,_=>by simp[toD,eqB,PyData.eqv]
 | .lst _,.str _,_,_=>by simp[toD,eqB,PyData.eqv]
 | .lst _,.tup _,_,_=>by simp[toD,eqB,PyData.eqv]
 | .lst _,.ins _ _ _,_,h=>by simp[Ř] at h
 | .lst _,.xc _ _ _,_,h=>by simp[Ř] at h
 | .lst _,.ty _,_,h=>by simp[Ř] at h
 | .lst _,.cls _,_,h=>by simp[Ř] at h
 | .tup _,.non,_,_=>by simp[toD,eqB,PyData.eqv]
 | .tup _,.bl _,_,_=>by simp[toD,eqB,PyData.eqv]
 | .tup _,.int _,_,_=>by simp[toD,eqB,PyData.eqv]
 | .tup _,.str _,_,_=>by simp[toD,eqB,PyData.eqv]
 | .tup _,.lst _,_,_=>by simp[toD,eqB,PyData.eqv]
 | .tup _,.ins _ _ _,_,h=>by simp[Ř] at h
 | .tup _,.xc _ _ _,_,h=>by simp[Ř] at h
 | .tup _,.ty _,_,h=>by simp[Ř] at h
 | .tup _,.cls _,_,h=>by simp[Ř] at h
theorem tM:∀ps qs:List PV,Ť ps=true->Ť qs=true->PyData.eqvAll (dh ps) (dh qs)=dR ps qs
 | [],[],_,_=>by simp[dh,dR,PyData.eqvAll]
 | [],_::_,_,_=>by simp[dh,dR,PyData.eqvAll]
 |_::_,[],_,_=>by simp[dh,dR,PyData.eqvAll]
 |p::ps,q::qs,h1,h2=>by
  unfold Ť at h1 h2
  rw[Bool.and_eq_true] at h1 h2
  unfold dh dR PyData.eqvAll
  rw[tK p q h1.1 h2.1,tM ps qs h1.2 h2.2]
end
mutual
theorem Fo{F:Hp}:∀(p:PV) (v:V),Ř p=true->Rep K F p v->Rp K.K F (toD p) v
 | .non,_,_,r=>by unfold Rep at r;unfold toD Rp;exact r
 | .bl _,_,_,r=>by unfold Rep at r;unfold toD Rp;exact r
 | .int _,_,_,r=>by unfold Rep at r;unfold toD Rp;exact r
 | .str _,_,_,r=>by unfold Rep at r;unfold toD Rp;exact r
 | .lst xs,_,h,r=>by
   unfold Ř at h
   unfold Rep at r
   unfold toD Rp
   obtain⟨a,vs,h1,h2,h3⟩:=r
   exact⟨a,vs,h1,h2,gZ xs vs h h3⟩
 | .tup xs,_,h,r=>by
   unfold Ř at h
   unfold Rep at r
   unfold toD Rp
   obtain⟨a,vs,h1,h2,h3⟩:=r
   exact⟨a,vs,h1,h2,gZ xs vs h h3⟩
 | .ins _ _ _,_,h,_=>by simp[Ř] at h
 | .xc _ _ _,_,h,_=>by simp[Ř] at h
 | .ty _,_,h,_=>by simp[Ř] at h
 | .cls _,_,h,_=>by simp[Ř] at h
theorem gZ{F:Hp}:∀(ps:List PV) (vs:List V),Ť ps=true->Ĕ K F ps vs->jT K.K F (dh ps) vs
 | [],_,_,r=>by unfold Ĕ at r;unfold dh jT;exact r
 |p::ps,_,h,r=>by
  unfold Ť at h
  rw[Bool.and_eq_true] at h
  unfold Ĕ at r
  unfold dh jT
  obtain⟨x,t,h1,h2,h3⟩:=r
  exact⟨x,t,h1,Fo p x h.1 h2,gZ ps t h.2 h3⟩
end
def g_{c:Ctx}{F H:Hp}{σ:L2.St}{ρ:Ļ}{p:PV}{v:V}(s:Same F H)(h:Ř p=true)(r:rR K c σ ρ F H p v):Rp K.K H (toD p) v:=by
 rcases r with r|r
 ·exact Rp.same s _ _ (Fo p v h r)
 ·cases p with
  |lst ps=>
   obtain⟨a,vs,rfl,h3,h4⟩:=r
   unfold Ř at h
   unfold toD Rp
   exact⟨a,vs,rfl,Ś.of h3,jT.same s _ _ (gZ ps vs h h4)⟩
  |ins C ns ps=>simp[Ř] at h
  |_=>exact r.elim
def lY(p q:PV):Bool:=Ř p && Ř q && decide (min (dep p) (dep q)<=60)
def ł(p q:PV):Option PV:=if lY p q=true then some (.bl (eqB p q)) else none
def dX(p q:PV):Option PV:=if lY p q=true then some (.bl (!eqB p q)) else none
def Mw:jf K (JN K.K false) ł:=by
 intro c F H σ ρ p q pv v u Q rel r1 r2 e k
 unfold ł at e
 split at e
 ·rename_i hz
  cases e
  unfold lY at hz
  simp only[Bool.and_eq_true,decide_eq_true_eq] at hz
  refine⟨toD p,toD q,g_ rel.sub hz.1.1 r1,g_ rel.sub hz.1.2 r2,dU p hz.1.1,dU q hz.1.2,by rw[dW,dW];exact hz.2,?_⟩
  rw[tK p q hz.1.1 hz.1.2]
  exact k _ F H rel (Same.refl _) (Same.refl _) Rep.bl
 ·cases e
def Mx:jf K (JN K.K true) dX:=by
 intro c F H σ ρ p q pv v u Q rel r1 r2 e k
 unfold dX at e
 split at e
 ·rename_i hz
  cases e
  unfold lY at hz
  simp only[Bool.and_eq_true,decide_eq_true_eq] at hz
  refine⟨toD p,toD q,g_ rel.sub hz.1.1 r1,g_ rel.sub hz.1.2 r2,dU p hz.1.1,dU q hz.1.2,by rw[dW,dW];exact hz.2,?_⟩
  rw[tK p q hz.1.1 hz.1.2]
  exact k _ F H rel (Same.refl _) (Same.refl _) Rep.bl
 ·cases e
def lZ:PV->Bool
 | .non=>true
 |_=>false
def qe(p q:PV):Option PV:=match q with
 | .non=>some (.bl (lZ p))
 |_=>none
def bV(p q:PV):Option PV:=match q with
 | .non=>some (.bl (!lZ p))
 |_=>none
def Af{c:Ctx}{F H:Hp}{σ:L2.St}{ρ:Ļ}{p:PV}{v:V}(r:rR K c σ ρ F H p v):decide (v=.non)=lZ p:=by
 rcases r with r|r
 ·cases p<;>unfold Rep at r<;>first
   |(subst r;rfl)
   |(obtain⟨a,xs,rfl,_⟩:=r;rfl)
   |(obtain⟨a,xs,ys,rfl,_⟩:=r;rfl)
 ·cases p with
  |lst ps=>obtain⟨a,vs,rfl,_⟩:=r;rfl
  |ins C ns ps=>obtain⟨a,dx,fs,rfl,_⟩:=r;rfl
  |_=>exact r.elim
def qN:jf K (λx y H Q=>y=.non/\Q (.bl (decide (x=.non))) H) qe:=by
 intro c F H σ ρ p q pv v u Q rel r1 r2 e k
 unfold qe at e
 split at e
 ·cases e
  refine⟨r2.non,?_⟩
  rw[Af r1]
  exact k _ F H rel (Same.refl _) (Same.refl _) Rep.bl
 ·cases e
def nT:jf K (λx y H Q=>y=.non/\Q (.bl (!decide (x=.non))) H) bV:=by
 intro c F H σ ρ p q pv v u Q rel r1 r2 e k
 unfold bV at e
 split at e
 ·cases e
  refine⟨r2.non,?_⟩
  rw[Af r1]
  exact k _ F H rel (Same.refl _) (Same.refl _) Rep.bl
 ·cases e
def Č:PV->PV->Option PV
 | .lst ps,.int i=>lA ps i
 | .tup ps,.int i=>lA ps i
 | .str z,.int i=>if z.length<=16777216 then(lA z.cps.toList i).map λc=>.str ⟨#[c]⟩ else none
 |_,_=>none
def Ag{F:Hp}{ps:List PV}{vs:List V}{i:Int}{p:PV}(r:Ĕ K F ps vs)(h:lA ps i=some p):∃v,lA vs i=some v/\Rep K F p v:=by
 unfold lA at h ⊢
 rw[r.length] at h
 cases e:CG vs.length i with
 |none=>rw[e] at h;cases h
 |some j=>
  rw[e] at h
  obtain⟨v,h1,h2⟩:=bD r.pr h
  exact⟨v,h1,h2⟩
def Zau:jf K (mIx K.K) Č:=by
 intro c F H σ ρ p q pv v u Q rel r1 r2 e k
 unfold Č at e
 split at e
 ·obtain⟨a,vs,rfl,h1,h2⟩:=r1.lst rel.sub
  cases r2.int
  obtain⟨x,h3,h4⟩:=Ag h2 e
  exact⟨vs,x,.inl h1,h3,k _ F H rel (Same.refl _) (Same.refl _) h4⟩
 ·obtain⟨a,vs,rfl,h1,h2⟩:=r1.tup rel.sub
  cases r2.int
  obtain⟨x,h3,h4⟩:=Ag h2 e
  exact⟨vs,x,.inr h1,h3,k _ F H rel (Same.refl _) (Same.refl _) h4⟩
 ·split at e
  ·rename_i z i hz
   cases r1.str
   cases r2.int
   cases ea:lA z.cps.toList i with
   |none=>rw[ea] at e;cases e
   |some cc=>
    rw[ea] at e
    cases e
    exact⟨cc,by rw[Ī];exact hz,ea,k _ F H rel (Same.refl _) (Same.refl _) Rep.str⟩
  ·cases e
 ·cases e
def vJ:M (Option Int):=λρ=>.ok none ρ
def mP(m:M PV):M (Option Int):=λρ=>(m ρ).bind λp ρ1=>match p with
 | .int i=>.ok (some i) ρ1
 |_=>.bad
abbrev tP(K:KK)(E:L2.St->XK)(m:M (Option Int)):TO:=tG K E rI m
def nU:PO X none (tP (kk X cm) E vJ):=λpins s σ H Q I h=>JB pins s σ H Q I (by
 obtain⟨c,F,ρ,rel,h⟩:=h
 exact h none F H rel (Same.refl _) (Same.refl _) rfl)
def ŷ(ha:PE X e (tV (kk X cm) E ma)):PO X (some e) (tP (kk X cm) E (mP ma)):=λpins s σ H Q I h=>Ed ha pins s σ H Q I (by
 obtain⟨c,F,ρ,rel,h⟩:=h
 refine⟨c,F,ρ,rel,h.bind λp ρ1 v F1 H1 ē _ _ r1 h1=>?_⟩
 cases p with
 |int i=>
  have e:v=.int i:=by have r1':Rep (kk X cm) F1 (.int i) v:=r1;unfold Rep at r1';exact r1'
  subst e
  exact h1 (some i) F1 H1 ē (Same.refl _) (Same.refl _) rfl
 |_=>exact h1.elim)
def aU{α:Type}(xs:List α)(lo hi:Option Int):List α:= (xs.drop (HT.gY xs.length 0 lo)).take (HT.gY xs.length xs.length hi-HT.gY xs.length 0 lo)
def KC(p:PV)(lo hi:Option Int):Option RV:=match p with
 | .lst ps=>some (.ow (aU ps lo hi))
 | .str z=>if z.length<=16777216 then some (.sh (.str (S (aU z.cps.toList lo hi)))) else none
 |_=>none
def yc(ma:M PV)(ml mh:M (Option Int)):M RV:=λρ=>(ma ρ).bind λp ρ1=>(ml ρ1).bind λlo ρ2=>(mh ρ2).bind λhi ρ3=>Res.mY (KC p lo hi) ρ3
def aL{ml mh:M (Option Int)}{lo hi:Option Expr}{p2:Pos}(ha:PE X a (tR (kk X cm) E ma))(hl:PO X lo (tP (kk X cm) E ml))(hh:PO X hi (tP (kk X cm) E mh)):PE X (.Subscript a (.Slice lo hi none p2) pos) (tO (kk X cm) E (yc ma ml mh)):=
 PE.wk (DQ slm ha hl hh) fun σ H Q ⟨c,F,ρ,rel,h⟩=>⟨c,F,ρ,rel,h.bind fun p ρ1 v F1 H1 ē _ _ r1 h1=>⟨c,F1,ρ1,ē,h1.bind fun lo ρ2 lo' F2 H2 Ĳ sF sH r2 h2=>⟨c,F2,ρ2,Ĳ,h2.bind fun hi ρ3 hi' F3 H3 sZ sF3 sH3 r3 h3=>by
   have e2:lo=lo':=r2
   have e3:hi=hi':=r3
   subst e2 e3
   have r1':rR (kk X cm) c σ ρ3 F3 H3 p v:=r1.mono (sF.trans sF3) (sH.trans sH3)
   cases p with
   |lst ps=>
    obtain⟨a,vs,rfl,q1,q2⟩:=r1'.lst sZ.sub
    refine⟨vs,q1,λd hd=>?_⟩
    have e:Ĕ (kk X cm) F3 (aU ps lo hi) (vg vs lo hi):=by
     unfold aU vg
     rw[q2.length]
     exact Ĕ.of (zV _ (zW _ q2.pr))
    obtain⟨z1,z2⟩:=fX sZ hd e
    exact h3 _ F3 _ z1 (Same.refl _) (Same.upd hd) z2
   |str z=>
    cases r1'.str
    unfold KC at h3
    dsimp only at h3
    split at h3
    ·rename_i hz
     exact⟨by rw[Ī];exact hz,h3 _ F3 H3 sZ (Same.refl _) (Same.refl _) (Rep.str (K:=kk X cm) (F:=F3))⟩
    ·exact h3.elim
   |_=>exact h3.elim⟩⟩⟩
def Cg{c:Ctx}{F H:Hp}{σ:L2.St}{ρ:Ļ}{p:PV}{vs:List V}(h:rRL K c σ ρ F H [p] vs):∃v,vs=[v]/\rR K c σ ρ F H p v:=by
 cases h with
 |cons r t=>cases t;exact⟨_,rfl,r⟩
def rl2{c:Ctx}{F H:Hp}{σ:L2.St}{ρ:Ļ}{p q:PV}{vs:List V}(h:rRL K c σ ρ F H [p,q] vs):∃v u,vs=[v,u]/\rR K c σ ρ F H p v/\rR K c σ ρ F H q u:=by
 cases h with
 |cons r t=>
  cases t with
  |cons r' t=>cases t;exact⟨_,_,rfl,r,r'⟩
def bK:List PV->Option PV
 | [.lst ps]=>some (.int ps.length)
 | [.tup ps]=>some (.int ps.length)
 | [.str z]=>if z.length<=16777216 then some (.int z.length) else none
 |_=>none
def ű:eN K (Vd K.K) bK:=by
 intro c F H σ ρ ps pv vs Q rel r e k
 unfold bK at e
 split at e
 ·cases e
  obtain⟨v,rfl,r1⟩:=Cg r
  obtain⟨a,xs,rfl,h1,h2⟩:=r1.lst rel.sub
  refine⟨xs,.inl h1,?_⟩
  rw[<-h2.length]
  exact k _ F H rel (Same.refl _) (Same.refl _) Rep.int
 ·cases e
  obtain⟨v,rfl,r1⟩:=Cg r
  obtain⟨a,xs,rfl,h1,h2⟩:=r1.tup rel.sub
  refine⟨xs,.inr h1,?_⟩
  rw[<-h2.length]
  exact k _ F H rel (Same.refl _) (Same.refl _) Rep.int
 ·split at e
  ·rename_i hz
   cases e
   obtain⟨v,rfl,r1⟩:=Cg r
   cases r1.str
   exact⟨by rw[Ī];exact hz,k _ F H rel (Same.refl _) (Same.refl _) Rep.int⟩
  ·cases e
 ·cases e
def qO:List PV->Option PV
 | [.int i,.int j]=>some (.int (if j<i then j else i))
 |_=>none
def Ah:List PV->Option PV
 | [.int i,.int j]=>some (.int (if j>i then j else i))
 |_=>none
def tQ:eN K Eb qO:=by
 intro c F H σ ρ ps pv vs Q rel r e k
 unfold qO at e
 split at e
 ·cases e
  obtain⟨v,u,rfl,r1,r2⟩:=rl2 r
  cases r1.int
  cases r2.int
  exact k _ F H rel (Same.refl _) (Same.refl _) Rep.int
 ·cases e
def KD:eN K Ec Ah:=by
 intro c F H σ ρ ps pv vs Q rel r e k
 unfold Ah at e
 split at e
 ·cases e
  obtain⟨v,u,rfl,r1,r2⟩:=rl2 r
  cases r1.int
  cases r2.int
  exact k _ F H rel (Same.refl _) (Same.refl _) Rep.int
 ·cases e
def dw:List PV->Option RV
 | [.lst ps]=>some (.ow ps)
 | [.tup ps]=>some (.ow ps)
 |_=>none
def Ai(K:PySem.W.Frag):List V->Hp->VK->Prop:=λxs H Q=>∃p ys,xs=[.ref p]/\(Ś K H p ys\/dD K H p ys)/\∀l,H l=none->Q (.ref l) (upd H l (.lst ys))
def bW:ō X (.type "list") (Ai X.K):=sI
def bY:Ey K (Ai K.K) dw:=by
 intro c F H σ ρ ps pv vs Q rel r e k
 unfold dw at e
 split at e
 ·cases e
  obtain⟨v,rfl,r1⟩:=Cg r
  obtain⟨a,xs,rfl,h1,h2⟩:=r1.lst rel.sub
  refine⟨a,xs,rfl,.inl h1,λl hl=>?_⟩
  obtain⟨q1,q2⟩:=fX rel hl h2
  exact k _ F _ q1 (Same.refl _) (Same.upd hl) q2
 ·cases e
  obtain⟨v,rfl,r1⟩:=Cg r
  obtain⟨a,xs,rfl,h1,h2⟩:=r1.tup rel.sub
  refine⟨a,xs,rfl,.inr h1,λl hl=>?_⟩
  obtain⟨q1,q2⟩:=fX rel hl h2
  exact k _ F _ q1 (Same.refl _) (Same.upd hl) q2
 ·cases e
def qg:PV->String->Option Bool
 | .int _,"int" =>some true
 | .int _,"bool" =>some false
 | .int _,"str" =>some false
 | .int _,"tuple" =>some false
 | .int _,"list" =>some false
 | .bl _,"int" =>some true
 | .bl _,"bool" =>some true
 | .lst _,"list" =>some true
 | .lst _,"tuple" =>some false
 | .lst _,"int" =>some false
 | .lst _,"str" =>some false
 | .tup _,"tuple" =>some true
 | .tup _,"list" =>some false
 | .tup _,"int" =>some false
 | .tup _,"str" =>some false
 | .str _,"str" =>some true
 | .str _,"int" =>some false
 | .str _,"list" =>some false
 | .str _,"tuple" =>some false
 | .non,"int" =>some false
 | .non,"str" =>some false
 | .non,"tuple" =>some false
 | .non,"list" =>some false
 |_,_=>none
end
theorem vK{K:KK}{F:Hp}:∀ns:List Int,Ĕ K F (ns.map .int) (ns.map V.int)
 | []=>Ĕ.nil
 |n::ns=>Ĕ.cons Rep.int (vK ns)
def Zav(K:PySem.W.Frag):Sp:=λvs H Q _=>∃(sa:Addr) (ns:List Int),vs=[.ref sa]/\Ś K H sa (ns.map V.int)/\ns.length<=63/\∀v H',v=.bl true->Q v H'
def Fp{l:PySem.W.OpenLaw}{k:Nat}{x:Str}{CX:jL}{m:MF}{q:Program}{loose:List Str}{XP:(Str->Option Value)->Heap->Prop}{YP:World->Heap->Prop}{d:DefRec}{K:Params->PySem.W.Frag}(hn:l.most=some 63)(hdf:d.params.defaults=[])(hr:ŕ k callerA)
 (hY:∀(w:World) (h:Heap),YP w h->(K w.params).In h)
 (F:∀(w:World) (mg:Str→Option Value) (fa:Addr) (h:Heap),(K w.params).In h→h.Ns mainGlobals mg→mg d.name=some (.ref fa)→
   ∃fd:FuncData,(∀(s:Shared) (u:Value),BindsTo s fd ⟨[u],[]⟩ [(x,u)])/\∀base:Heap,(K w.params).In base->base.Ns mainGlobals mg->∃cm,Ħ l.prog w (K w.params) mg base CX k fa fd [x] (Ş ⟨K w.params,cm⟩ 1 m))
 (ht:∀ns:List Int,ns.length<=63->m [.sh (.lst (ns.map .int))]=.ret (.sh (.bl true)))
 (YX:∀(H:Hp) (s:Shared) (e:Value) (s':Shared),CX [] H s (λ_ _ _=>False) e s'->False)
 (hnt:lams≠[]->∀w:World,PySem.W.noTabs (K w.params)=true:=by intro z;exact absurd rfl z)(hone:∀y z,y∈lams->z∈lams->y=z:=by simp[lams])(hrec:∀y,y∈lams->∃d,(recsOf q).find? (λe=>e.name== y)=some d:=by simp[lams]) :
 PySem.W.WalkO q loose XP YP l.row.toRowW d [] (λf vs=>PySem.call f vs):=by
 refine L2.JH (n:=63) (k:=k) (x:=x) (CX:=λ_=>CX) (sp:=λw=>Zav (K w.params)) hn (by decide) hdf hr hY (λw mg fa h h1 h2 h3=>?_) (λw H a ns hl _ hS=>⟨a,ns,rfl,hS,hl,λ_ _ z=>z⟩) (λw H s e s' z=>YX H s e s' z) hnt hone hrec
 obtain⟨fd,hb,hF⟩:=F w mg fa h h1 h2 h3
 refine⟨fd,hb,λbase k1 k2=>?_⟩
 obtain⟨cm,G⟩:=hF base k1 k2
 refine G.imp λvs H Q E hs=>?_
 obtain⟨sa,ns,rfl,hS,hl,hq⟩:=hs
 refine⟨H,[.sh (.lst (ns.map .int))],rfl,Same.refl _,.cons ?_ .nil,?_⟩
 ·show Rep _ _ _ _
  unfold Rep
  exact⟨sa,_,rfl,hS,vK ns⟩
 ·rw[ht ns hl]
  intro v F' H' g rf
  have e:v=.bl true:=sW (K:=⟨K w.params,cm⟩) (F:=F') rf
  exact hq v H' e
end P
namespace P
open PySem PySem.Spec PyProof.Rows L2 M2 M3 M4
section
variable{X:Cx}{cm:String->Addr}{K:KK}
def TyP(K:PySem.W.Frag)(H:Hp)(x:V)(t:Value):Prop:=match x with
 | .non=>t=.type "NoneType"
 | .bl _=>t=.type "bool"
 | .int _=>t=.type "int"
 | .str _=>t=.type "str"
 | .ref a=>(t=.type "list" /\∃xs,Ś K H a xs)\/(t=.type "tuple" /\∃xs,dD K H a xs)\/jQ K H (.ref a) t
 |_=>False
def Fq(K:PySem.W.Frag):List V->Hp->VK->Prop:=λxs H Q=>match xs with
 | [x,.ty n]=>∃t b,TyP K H x t/\PySem.W.kitOne K t (.type n)=some b/\Q (.bl b) H
 | [x,.ref C]=>∃t b,TyP K H x t/\PySem.W.kitOne K t (.ref C)=some b/\Q (.bl b) H
 |_=>False
def Aj{pins:List (Addr×Obj)}{σ:L2.St}{H:Hp}{s:Shared}{A:Around}{E:Value->Shared->Prop}{Q:Value->Shared->Prop}{c:Value}{b:Bool}{x:V}{u t:Value}(I:Inv X pins σ H s)(rx:RelV x u)(ty:TyP X.K H x t)(e:PySem.W.kitOne X.K t c=some b)(h:∀tk,Q (.bool b) {s with toks:=tk}) :
 wpAny (model X.prog X.w) A (call (.builtin "isinstance") [u,c]) Q E s:=by
 cases x with
 |non=>cases(show t=_ from ty);exact cR I rx .non e h
 |bl y=>cases(show t=_ from ty);exact cR I rx (.bl y) e h
 |int y=>cases(show t=_ from ty);exact cR I rx (.int y) e h
 |str y=>cases(show t=_ from ty);exact cR I rx (.str y) e h
 |ref a=>
  cases(show u=Value.ref a from rx)
  rcases ty with⟨rfl,xs,hS⟩|⟨rfl,xs,hS⟩|ty
  ·obtain⟨its,r,⟨o,n,h1,h2,_⟩,_⟩:=I.list hS
   exact PySem.W.kia_one PySem.W.kitx_list I.jM ⟨o,h1,h2⟩ e (λz=>nomatch z) h
  ·obtain⟨its,r,⟨o,h1,h2,_⟩,_⟩:=I.tuple hS
   exact PySem.W.kia_one PySem.W.kitx_tuple I.jM ⟨o,h1,h2⟩ e (λz=>nomatch z) h
  ·exact cR I rx ty e h
 |_=>exact ty.elim
def nW:ō X (.builtin "isinstance") (Fq X.K):=by
 intro pins s σ H xs us Q I r h
 unfold Fq at h
 split at h
 ·obtain⟨t,b,h1,h2,h3⟩:=h
  obtain⟨u,w',rfl,r1,r2⟩:=vals2 r
  cases r2
  exact Aj I r1 h1 h2 λtk=>⟨.bl b,H,I.tok _,rfl,h3⟩
 ·obtain⟨t,b,h1,h2,h3⟩:=h
  obtain⟨u,w',rfl,r1,r2⟩:=vals2 r
  cases r2
  exact Aj I r1 h1 h2 λtk=>⟨.bl b,H,I.tok _,rfl,h3⟩
 ·exact h.elim
def tyN:PV->String
 | .non=> "NoneType"
 | .bl _=> "bool"
 | .int _=> "int"
 | .str _=> "str"
 | .lst _=> "list"
 | .tup _=> "tuple"
 |_=> ""
def Ft{F:PySem.W.Frag}{p:PV}{n:String}{b:Bool}(h:qg p n=some b):PySem.W.kitOne F (.type (tyN p)) (.type n)=some b:=by
 unfold qg at h
 split at h<;>first
  |(cases h;first|rfl|decide +kernel|kernel_rfl)
  |cases h
def KH{c:Ctx}{F H:Hp}{σ:L2.St}{ρ:Ļ}{p:PV}{v:V}(s:Same F H)(r:rR K c σ ρ F H p v)(h:∃n b,qg p n=some b):TyP K.K H v (.type (tyN p)):=by
 obtain⟨n,b,h⟩:=h
 cases p with
 |non=>cases r.non;rfl
 |bl _=>cases r.bl;rfl
 |int _=>cases r.int;rfl
 |str _=>cases r.str;rfl
 |lst ps=>
  obtain⟨a,vs,rfl,h1,h2⟩:=r.lst s
  exact .inl ⟨rfl,vs,h1⟩
 |tup ps=>
  obtain⟨a,vs,rfl,h1,h2⟩:=r.tup s
  exact .inr (.inl ⟨rfl,vs,h1⟩)
 |ins _ _ _=>simp[qg] at h
 |xc _ _ _=>simp[qg] at h
 |ty _=>simp[qg] at h
 |cls _=>simp[qg] at h
def jX:List PV->Option PV
 | [p,.ty n]=>(qg p n).map .bl
 |_=>none
def nY:eN K (Fq K.K) jX:=by
 intro c F H σ ρ ps pv vs Q rel r e k
 unfold jX at e
 split at e
 ·rename_i p n
  obtain⟨v,u,rfl,r1,r2⟩:=rl2 r
  cases r2.ty
  cases eb:qg p n with
  |none=>rw[eb] at e;cases e
  |some b=>
   rw[eb] at e
   cases e
   exact⟨_,b,KH rel.sub r1 ⟨n,b,eb⟩,Ft eb,k _ F H rel (Same.refl _) (Same.refl _) Rep.bl⟩
 ·cases e
def nZ:List PV->Option PV
 | [.lst ps]=>some (.tup ps)
 | [.tup ps]=>some (.tup ps)
 |_=>none
def Fv(K:PySem.W.Frag):List V->Hp->VK->Prop:=λxs H Q=>∃p ys,xs=[.ref p]/\((Ś K H p ys/\∀l,H l=none->Q (.ref l) (upd H l (.tup ys)))\/(dD K H p ys/\Q (.ref p) H))
def Fw:ō X (.type "tuple") (Fv X.K):=qd
def Fx:eN K (Fv K.K) nZ:=by
 intro c F H σ ρ ps pv vs Q rel r e k
 unfold nZ at e
 split at e
 ·cases e
  obtain⟨v,rfl,r1⟩:=Cg r
  obtain⟨a,xs,rfl,h1,h2⟩:=r1.lst rel.sub
  refine⟨a,xs,rfl,.inl ⟨h1,λl hl=>k _ _ _ (rel.alloc hl) (Same.upd (rel.sub.free hl)) (Same.upd hl) ?_⟩⟩
  unfold Rep
  exact⟨l,xs,rfl,dD.of ĝ,Ĕ.same (Same.upd (rel.sub.free hl)) _ _ h2⟩
 ·cases e
  obtain⟨v,rfl,r1⟩:=Cg r
  have r1':=r1
  obtain⟨a,xs,rfl,h1,h2⟩:=r1.tup rel.sub
  refine⟨a,xs,rfl,.inr ⟨h1,k _ F H rel (Same.refl _) (Same.refl _) ?_⟩⟩
  rcases r1' with q|q
  ·exact q
  ·exact q.elim
 ·cases e
def boolsOf:List PV->Option (List Bool)
 | []=>some []
 | .bl b::ps=>(boolsOf ps).map (b:: ·)
 |_::_=>none
theorem qP{F:Hp}:∀{ps:List PV} {vs:List V} {bs:List Bool},Ĕ K F ps vs->boolsOf ps=some bs->vs=bs.map V.bl
 | [],vs,bs,r,h=>by
   cases h
   have r':=r.pr
   cases r'
   rfl
 |p::ps,vs,bs,r,h=>by
  cases p with
  |bl b=>
   unfold boolsOf at h
   cases eb:boolsOf ps with
   |none=>rw[eb] at h;cases h
   |some cs=>
    rw[eb] at h
    cases h
    have r':=r.pr
    cases r' with
    |cons r1 t=>
     rw[sW r1,qP (Ĕ.of t) eb]
     rfl
  |_=>simp[boolsOf] at h
def vL:List PV->Option PV
 | [.lst ps]=>(boolsOf ps).map λbs=>.bl (bs.all id)
 |_=>none
def yg:eN K (Vk K.K) vL:=by
 intro c F H σ ρ ps pv vs Q rel r e k
 unfold vL at e
 split at e
 ·rename_i ps
  obtain⟨v,rfl,r1⟩:=Cg r
  obtain⟨a,xs,rfl,h1,h2⟩:=r1.lst rel.sub
  cases eb:boolsOf ps with
  |none=>rw[eb] at e;cases e
  |some bs=>
   rw[eb] at e
   cases e
   refine⟨bs,by rw[<-qP h2 eb];exact h1,k _ F H rel (Same.refl _) (Same.refl _) Rep.bl⟩
 ·cases e
end
end P
namespace P
open PySem PySem.Spec PyProof.Rows L2 M2 M3 M4
section
variable{α β:Type}{ρ:Ļ}{i j n k:Nat}{p q:PV}{ps:List PV}{m ma mb mc:M PV}{mo:M RV}{a b:M Fl}{ta tb:M Bool}{mr:M (List PV)}{f:PV->PV->Option PV}{fo:PV->PV->Option RV}{fl:List PV->Option PV}{flo:List PV->Option RV}{g:Tg}{gs:CN}
@[simp] theorem ZdL:fK ρ=.ok .nx ρ:= rfl
@[simp] theorem ZcG:(Ez:M α) ρ=.bad:=rfl
@[simp] theorem ZcH:ę a b ρ=(a ρ).bind λf ρ1=>match f with| .nx=>b ρ1|f=>.ok f ρ1:=rfl
@[simp] theorem ZcI:Ĥ i mo ρ=(mo ρ).bind λr ρ1=>.ok .nx (ρ1.set i r.slot):=rfl
@[simp] theorem ZcJ:ħ mo ρ=(mo ρ).bind λr ρ1=>.ok (.rt r) ρ1:=rfl
@[simp] theorem Zbx:nH m ρ=(m ρ).bind λ_ ρ1=>.ok .nx ρ1:=rfl
@[simp] theorem ZdY:mC p ρ=.ok p ρ:= rfl
@[simp] theorem ZdM:Ņ m ρ=(m ρ).bind λp ρ1=>.ok (.sh p) ρ1:=rfl
@[simp] theorem ZcK:Ď mo ρ=(mo ρ).bind λr ρ1=>.ok r.val ρ1:=rfl
@[simp] theorem ZcL:(RV.sh p).val=p:=rfl
@[simp] theorem ZcM:(RV.ow ps).val=.lst ps:=rfl
@[simp] theorem ZcN:(RV.sh p).slot=.sh p:=rfl
@[simp] theorem ZcO:(RV.ow ps).slot=.ow ps:=rfl
@[simp] theorem ZcP:ă f ma mb ρ=(ma ρ).bind λp ρ1=>(mb ρ1).bind λq ρ2=>Res.mY (f p q) ρ2:=rfl
@[simp] theorem Zby:ğ fo ma mb ρ=(ma ρ).bind λp ρ1=>(mb ρ1).bind λq ρ2=>Res.mY (fo p q) ρ2:=rfl
@[simp] theorem ZdN{u:PV->Option PV}:bO u ma ρ=(ma ρ).bind λp ρ1=>Res.mY (u p) ρ1:=rfl
@[simp] theorem ZcQ:dM m ρ=(m ρ).bind λp ρ1=>Res.mY (Vp p) ρ1:=rfl
@[simp] theorem ZdO:au m ρ=(m ρ).bind λp ρ1=>match p with| .bl b=>.ok b ρ1|_=>.bad:=rfl
@[simp] theorem Zbz:fW ta ρ=(ta ρ).bind λb ρ1=>.ok (!b) ρ1:=rfl
@[simp] theorem ZbA:cX ta tb ρ=(ta ρ).bind λb ρ1=>if b=true then tb ρ1 else .ok false ρ1:=rfl
@[simp] theorem ZcR:Cd ta tb ρ=(ta ρ).bind λb ρ1=>if b=true then .ok true ρ1 else tb ρ1:=rfl
@[simp] theorem ZcS:fC ma mb ρ=(ma ρ).bind fun p ρ1=>match p with| .bl b=>if b=true then mb ρ1 else .ok (.bl false) ρ1|_=>.bad:=by
  unfold fC
  congr
  funext p ρ1
  cases p with
  |bl b=>cases b<;>rfl
  |_=>rfl
@[simp] theorem ZcT:Vq ma ρ=(ma ρ).bind λp ρ1=>match p with| .bl b=>.ok (.bl (!b)) ρ1|_=>.bad:=rfl
@[simp] theorem ZdP{x y:M α}:cP ta x y ρ=(ta ρ).bind λb ρ1=>if b=true then x ρ1 else y ρ1:=rfl
@[simp] theorem ZcU{f g:PV→PV→Option PV}:iw f g ma mb mc ρ=(ma ρ).bind fun p ρ1=>(mb ρ1).bind fun q ρ2=>(Res.mY (f p q) ρ2).bind fun z ρ3=>match z with
  | .bl true=>(mc ρ3).bind λw ρ4=>Res.mY (g q w) ρ4
  | .bl false=>.ok (.bl false) ρ3
  |_=>.bad:=rfl
@[simp] theorem ZcV:ė ρ=.ok [] ρ:= rfl
@[simp] theorem ZbB:Ą ma mr ρ=(ma ρ).bind λp ρ1=>(mr ρ1).bind λps ρ2=>.ok (p::ps) ρ2:=rfl
@[simp] theorem ZcW:Ľ mr ρ=(mr ρ).bind λps ρ1=>if ps.length<=16777216 then .ok (.tup ps) ρ1 else .bad:=rfl
@[simp] theorem ZcX:aA mr ρ=(mr ρ).bind λps ρ1=>if ps.length<=16777216 then .ok (.ow ps) ρ1 else .bad:=rfl
@[simp] theorem ZdQ:bQ fl mr ρ=(mr ρ).bind λps ρ1=>Res.mY (fl ps) ρ1:=rfl
@[simp] theorem ZcY:lX flo mr ρ=(mr ρ).bind λps ρ1=>Res.mY (flo ps) ρ1:=rfl
@[simp] theorem ZbC{mf:MF}{ms:M (List Slot)}:đ mf ms ρ=(ms ρ).bind λps ρ1=>match mf ps with| .ret r=>.ok r ρ1| .exc x=>.exc x ρ1| .bad=>.bad:=rfl
@[simp] theorem ZdR:Ğ i ρ=(match ρ[i]? with|some (.sh p)=>.ok p ρ|some (.ow ps)=>.ok (.lst ps) (ρ.set i (.sh (.lst ps)))|some (.bn qs rows)=>.ok (.lst (.lst qs::rows)) ρ|_=>.bad):=rfl
@[simp] theorem ZdS:Ā i ρ=(match ρ[i]? with|some (.sh p)=>.ok p ρ|some (.ow ps)=>.ok (.lst ps) ρ|some (.bw ps)=>.ok (.lst ps) ρ|some (.rc C ns ps)=>.ok (.ins C ns ps) ρ|some (.bn qs rows)=>.ok (.lst (.lst qs::rows)) ρ|_=>.bad):=rfl
@[simp] theorem ZdT:fV i ρ=(match ρ[i]? with|some (.sh p)=>.ok (.sh p) ρ|some (.ow ps)=>.ok (.ow ps) (ρ.set i .no)|_=>.bad):=rfl
@[simp] theorem ZcZ:Km g m ρ=(m ρ).bind λp ρ1=>match g p ρ1 with|some ρ2=>.ok .nx ρ2|none=>.bad:=rfl
@[simp] theorem Zc0:Vr i j mr ρ=(mr ρ).bind λps ρ1=>match ps with| [p,q]=>.ok .nx ((ρ1.set i (.sh p)).set j (.sh q))|_=>.bad:=rfl
@[simp] theorem Fy:gN i p ρ=some (ρ.set i (.sh p)):=rfl
@[simp] theorem Zaw:ž [] ρ=some ρ:= rfl
@[simp] theorem Yp:ĥ g gs (p::ps) ρ=(g p ρ).bind λρ1=>gs ps ρ1:=rfl
@[simp] theorem ZdU:gT n gs (.tup ps) ρ=if ps.length=n then gs ps ρ else none:=rfl
@[simp] theorem Zc1:nJ i m ρ=(match ρ[i]? with
  |some (.ow _)=>(m ρ).bind λp ρ1=>match ρ1[i]? with
   |some (.ow ps)=>if ps.length<16777216 then .ok .nx (ρ1.set i (.ow (ps ++ [p]))) else .bad
   |_=>.bad
  |_=>.bad):=rfl
@[simp] theorem Zc2:vJ ρ=.ok none ρ:= rfl
@[simp] theorem ZdZ:mP m ρ=(m ρ).bind λp ρ1=>match p with| .int i=>.ok (some i) ρ1|_=>.bad:=rfl
@[simp] theorem ZdV{ml mh:M (Option Int)}:yc ma ml mh ρ=(ma ρ).bind λp ρ1=>(ml ρ1).bind λlo ρ2=>(mh ρ2).bind λhi ρ3=>Res.mY (KC p lo hi) ρ3:=rfl
@[simp] theorem Zc3{lo hi:Option Int}:KC (.lst ps) lo hi=some (.ow (aU ps lo hi)):=rfl
@[simp] theorem Zax:ň m ρ=(m ρ).bind fun p ρ1=>match p with
  | .lst ps=>.ok ps ρ1
  | .tup ps=>.ok ps ρ1
  | .str z=>.ok (z.cps.toList.map λc=>.str ⟨#[c]⟩) ρ1
  |_=>.bad:=rfl
@[simp] theorem Zay{h:List PV->Option (List PV)}:aR h mr ρ=(mr ρ).bind λps ρ1=>Res.mY (h ps) ρ1:=rfl
@[simp] theorem VD{mi:M (List PV)}:jh mi g b ρ=(mi ρ).bind λitems ρ1=>forL g b items ρ1:=rfl
@[simp] theorem ZbD{js:List Nat}{nl:Nat}{mi:M (List PV)}{mt:M Bool}{me:M PV}:Ŀ js nl mi g mt me ρ=(mi ρ).bind fun items ρ1=>match Ĺ g mt me items (dg js nl ρ1) [] with
  |some ps=>.ok (.ow ps) ρ1
  |none=>.bad:=rfl
@[simp] theorem Zc4:Ł ρ=.ok true ρ:= rfl
@[simp] theorem Zc5{mbd:M Fl}{as:List Slot}:ı n k mbd as=if as.length=n then FR.of (mbd (startP k as)) else .bad:=rfl
@[simp] theorem Zc6{r:RV}:FR.of (.ok (.rt r) ρ)=.ret r:=rfl
@[simp] theorem Zc7:FR.of (.ok .nx ρ)=.ret (.sh .non):=rfl
@[simp] theorem Zc8{x:PX}:FR.of (.exc x ρ)=.exc x:=rfl
@[simp] theorem Zc9:FR.of .bad=.bad:=rfl
@[simp] theorem Zaz{as:List Slot}:startP k as=as++List.replicate (k-as.length) .no:=rfl
@[simp] theorem ZbE:Ċ ρ=.ok [] ρ:= rfl
@[simp] theorem ZaA{ms:M (List Slot)}:Ĉ ma ms ρ=(ma ρ).bind λp ρ1=>(ms ρ1).bind λas ρ2=>.ok (.sh p::as) ρ2:=rfl
@[simp] theorem ZaB{ms:M (List Slot)}:Ă i ms ρ=(match(ρ[i]?).bind bT with
  |none=>.bad
  |some _=>(ms ρ).bind λas ρ2=>match(ρ2[i]?).bind bT with
   |some s=>.ok (s::as) ρ2
   |none=>.bad):=rfl
@[simp] theorem Zc_:bT (.sh p)=some (.sh p):=rfl
@[simp] theorem Zda:bT (.ow ps)=some (.bw ps):=rfl
@[simp] theorem Zdb{qs rows:List PV}:bT (.bn qs rows)=some (.sh (.lst (.lst qs::rows))):=rfl
@[simp] theorem Zdc:bT (.bw ps)=some (.bw ps):=rfl
@[simp] theorem Zdd:ũ (.sh p)=.sh p:=rfl
@[simp] theorem Zde:ũ (.ow ps)=.bw ps:=rfl
@[simp] theorem Zdf:ũ (.bw ps)=.bw ps:=rfl
@[simp] theorem Zdg{js:List Nat}{nl:Nat}:dg js nl ρ=js.map (λ(j:Nat)=>ũ ((ρ[j]?).getD .no))++List.replicate nl .no:=rfl
@[simp] theorem yj:Ŕ i ρ=(match ρ[i]? with
  |some (.bw ps)=>.ok ps ρ
  |some (.sh (.lst ps))=>.ok ps ρ
  |some (.sh (.tup ps))=>.ok ps ρ
  |some (.sh (.str z))=>.ok (z.cps.toList.map λc=>.str ⟨#[c]⟩) ρ
  |some (.ow ps)=>.ok ps (ρ.set i (.sh (.lst ps)))
  |_=>.bad):=rfl
@[simp] theorem ZbF{x y:Int}:Ĝ (.int x) (.int y)=some (.sh (.int (x+y))):=rfl
@[simp] theorem ZbG{x y:Int}:ş (.int x) (.int y)=some (.int (x-y)):=rfl
@[simp] theorem ZbH{x y:Int}:ġ (.int x) (.int y)=if ŀ x y=true then some (.int (x*y)) else none:=rfl
@[simp] theorem KJ{x y:Int}:Ŋ (.int x) (.int y)=if eO x y=true then some (.int (x.fdiv y)) else none:=rfl
@[simp] theorem h_{x y:Int}:Ĩ (.int x) (.int y)=if Ad x y=true then some (.int (x.fmod y)) else none:=rfl
@[simp] theorem ZbI{x y:Int}:nO (.int x) (.int y)=if vG x y=true then some (.int (x ^ y.toNat)) else none:=rfl
@[simp] theorem ZbJ{x y:Int}:vH (.int x) (.int y)=if nQ x y=true then some (.int (x*2 ^ y.toNat)) else none:=rfl
@[simp] theorem ZbK{x y:Int}:Ae (.int x) (.int y)=if vI x y=true then some (.int (x / 2 ^ y.toNat)) else none:=rfl
@[simp] theorem ZbL{x:Int}:aP (.int x)=some (.int (-x)):=rfl
@[simp] theorem Zdh{x y:Int}:gj (.int x) (.int y)=some (.bl (decide (x<y))):=rfl
@[simp] theorem Zdi{x y:Int}:fG (.int x) (.int y)=some (.bl (decide (x<=y))):=rfl
@[simp] theorem Zdj{x y:Int}:Kz (.int x) (.int y)=some (.bl (decide (y<x))):=rfl
@[simp] theorem Zdk{x y:Int}:ł (.int x) (.int y)=some (.bl (decide (x=y))):=by
  have h:eqB (.int x) (.int y)=decide (x=y):=by rw[eqB.eq_def];rfl
  rw[<-h];rfl
@[simp] theorem Zdl{x y:Int}:dX (.int x) (.int y)=some (.bl (!decide (x=y))):=by
  have h:eqB (.int x) (.int y)=decide (x=y):=by rw[eqB.eq_def];rfl
  rw[<-h];rfl
@[simp] theorem Zdm{x y:Bool}:ł (.bl x) (.bl y)=some (.bl (x== y)):=rfl
@[simp] theorem Zdn{x y:Bool}:dX (.bl x) (.bl y)=some (.bl (!(x== y))):=rfl
@[simp] theorem Zdo{p:PV}:qe p .non=some (.bl (lZ p)):=rfl
@[simp] theorem ZbM{p:PV}:bV p .non=some (.bl (!lZ p)):=rfl
@[simp] theorem Zdp{x:Int}:Č (.lst ps) (.int x)=lA ps x:=rfl
@[simp] theorem Fz{x:Int}:Č (.tup ps) (.int x)=lA ps x:=rfl
@[simp] theorem ZbN:bK [.lst ps]=some (.int ps.length):=rfl
@[simp] theorem ZbO:bK [.tup ps]=some (.int ps.length):=rfl
@[simp] theorem Zdq{x y:Int}:qO [.int x,.int y]=some (.int (if y<x then y else x)):=rfl
@[simp] theorem Zdr{x y:Int}:Ah [.int x,.int y]=some (.int (if y>x then y else x)):=rfl
@[simp] theorem ZaC:dw [.lst ps]=some (.ow ps):=rfl
@[simp] theorem ZaD:dw [.tup ps]=some (.ow ps):=rfl
@[simp] theorem ZbP:nZ [.lst ps]=some (.tup ps):=rfl
@[simp] theorem ZbQ:nZ [.tup ps]=some (.tup ps):=rfl
@[simp] theorem Zds{t:String}:jX [p,.ty t]=(qg p t).map .bl:=rfl
@[simp] theorem ZbR{x:Bool}:Vp (.bl x)=some x:=rfl
@[simp] theorem ZbS{x:Int}:Vp (.int x)=some (x != 0):=rfl
@[simp] theorem ZbT:Vp (.lst ps)=some (!ps.isEmpty):=rfl
@[simp] theorem FJ(xs:List α)(n:Nat):lA xs (n:Int)=xs[n]?:= by
  unfold lA CG
  rw[if_pos (by omega)]
  by_cases h:n<xs.length
  ·rw[if_pos (by omega)]
   simp
  ·rw[if_neg (by omega)]
   simp
   omega
@[simp] theorem ZbU(xs:List α)(n:Nat):lA xs (no_index (OfNat.ofNat n):Int)=xs[(no_index (OfNat.ofNat n):Nat)]?:= FJ xs n
@[simp] theorem Yq{x y:Int}:Ad x y=decide (y≠0):=rfl
end
def ſ{x y:Int}(h1: -(2 ^ 64)<x)(h2:x<2 ^ 64):ŀ x y=true:=by unfold ŀ;rw[decide_eq_true (by omega:x.natAbs<18446744073709551616)];rfl
def mul_r{x y:Int}(h1: -(2 ^ 64)<y)(h2:y<2 ^ 64):ŀ x y=true:=by unfold ŀ;rw[decide_eq_true (by omega:y.natAbs<18446744073709551616)];simp
def qQ{x y:Int}(h1:y≠0)(h2:bits y<=8000):eO x y=true:=by unfold eO;simp[h1,h2]
section
variable{g:Tg}{mb:M Fl}{mc mt:M Bool}{me:M PV}{items:List PV}{ρ:Ļ}
theorem ņ{α:Type}(c f:α->PV)(I:Ļ->Prop):∀(xs:List α) (ρ:Ļ) (acc:List PV),I ρ->acc.length+xs.length<=16777216->
 (∀x∈xs,∀ρ,I ρ->∃ρ1 ρ2 ρ3,g (c x) ρ=some ρ1/\mt ρ1=.ok true ρ2/\me ρ2=.ok (f x) ρ3/\I ρ3)->Ĺ g mt me (xs.map c) ρ acc=some (acc++xs.map f)
 | [],ρ,acc,_,_,_=>by simp[Ĺ]
 |x::xs,ρ,acc,h,hz,hs=>by
  obtain⟨ρ1,ρ2,ρ3,h1,h2,h3,h4⟩:=hs x List.mem_cons_self ρ h
  rw[List.map_cons,Ĺ,h1]
  dsimp only
  rw[h2]
  dsimp only
  rw[h3]
  dsimp only
  rw[if_pos (by simp at hz;omega),ņ c f I xs ρ3 (acc ++ [f x]) h4 (by simp at hz ⊢;omega) λy hy=>hs y (List.mem_cons_of_mem _ hy)]
  simp
def yq{β:Type}(st:β->Ļ)(I:β->Prop)(μ:β->Nat)(hs:∀b,I b->mc (st b)=.ok false (st b)\/(mc (st b)=.ok true (st b)/\∃b',mb (st b)=.ok .nx (st b')/\I b'/\μ b' < μ b)){b:β}(h0:I b) :
 ∃b',ţ mc mb (st b)=.ok .nx (st b')/\I b'/\mc (st b')=.ok false (st b'):=by
 have go:∀n b,μ b<=n->I b->∃b',ţ mc mb (st b)=.ok .nx (st b')/\I b'/\mc (st b')=.ok false (st b'):=by
  intro n
  induction n with
  |zero=>
   intro b hn hi
   rcases hs b hi with e|⟨e,b',_,_,hl⟩
   ·exact⟨b,by rw[fZ,e];rfl,hi,e⟩
   ·omega
  |succ n ih=>
   intro b hn hi
   rcases hs b hi with e|⟨e,b',e2,hi',hl⟩
   ·exact⟨b,by rw[fZ,e];rfl,hi,e⟩
   ·obtain⟨b2,q1,q2⟩:=ih b' (by omega) hi'
    refine⟨b2,?_,q2⟩
    rw[fZ,e]
    simp only[Res.Ž,if_true,e2]
    exact q1
 exact go (μ b) b (Nat.le_refl _) h0
end
end P
namespace P
open PySem PySem.Spec PyProof.Rows L2 M2 M3 M4
def n_(Q:String->Prop):List String->Prop
 | []=>True
 |c::cs=>Q c/\n_ Q cs
theorem n_.get{Q:String->Prop}:∀{cs:List String} {C:String},n_ Q cs->cs.contains C=true->Q C
 | [],_,_,h=>by simp at h
 |c::cs,C,⟨h1,h2⟩,h=>by
  by_cases e:C=c
  ·rw[e];exact h1
  ·refine h2.get ?_
   rw[List.contains_cons] at h
   have:(C== c)=false:=by simpa using e
   rw[this,Bool.false_or] at h
   exact h
section
variable{X:Cx}{cm:String->Addr}{K:KK}{E:L2.St->XK}{a b e o:Expr}{es:List Expr}{pos apos:Pos}{m ma mb:M PV}{f:Str}
theorem oh{F:Hp}:∀{fs:List (Str×V)} {ps:List PV} {p:PV},Ĕ K F ps (fs.map (·.2))->((fs.map (·.1)).zip ps).lookup f=some p->∃v,fs.lookup f=some v/\Rep K F p v
 | [],ps,p,_,h=>by simp at h
 |(g,v)::fs,ps,p,r,h=>by
  have r':=r.pr
  rw[List.map_cons] at r'
  cases r' with
  |cons r1 t=>
   rename_i q qs
   rw[List.map_cons,List.zip_cons_cons,List.lookup_cons] at h
   rw[List.lookup_cons]
   cases hg:f== g with
   |true=>
    simp only[hg] at h
    cases h
    exact⟨v,rfl,r1⟩
   |false=>
    simp only[hg] at h
    exact oh (Ĕ.of t) h
theorem rR.ins{c:Ctx}{F H:Hp}{σ:L2.St}{ρ:Ļ}{C:String}{ns:List Str}{ps:List PV}{v:V}(s:Same F H)(h:rR K c σ ρ F H (.ins C ns ps) v):∃a dx fs,v=.ref a/\H a=some (.ins (K.cm C) dx fs)/\fs.map (·.1)=ns/\Ĕ K F ps (fs.map (·.2)):=by
 rcases h with h|h
 ·unfold Rep at h
  obtain⟨a,dx,fs,h1,h2,h3,h4⟩:=h
  exact⟨a,dx,fs,h1,s _ _ h2,h3,h4⟩
 ·exact h
def Ŏ(cs:List String)(f:Str):PV->Option PV
 | .ins C ns ps=>if cs.contains C=true then(ns.zip ps).lookup f else none
 |_=>none
def Œ(cs:List String)(hcs:n_ (λC=>Cls X.K (cm C)/\ĳ X.K (cm C) f) cs)(he:PE X e (tR (kk X cm) E m))(hb:attributeBase e f X.env (eval e X.env)=eval e X.env:=by rfl):PE X (.Attribute e f pos) (tV (kk X cm) E (bO (Ŏ cs f) m)):=
 PE.wk (Uu he hb) fun σ H Q ⟨c,F,ρ,rel,h⟩=>⟨c,F,ρ,rel,h.bind fun p ρ1 v F1 H1 ē _ _ r1 h1=>by
   cases p with
   |ins C ns ps=>
    unfold Ŏ at h1
    dsimp only at h1
    split at h1
    ·rename_i hc
     obtain⟨a,dx,fs,rfl,q2,q3,q4⟩:=r1.ins ē.sub
     cases el:(ns.zip ps).lookup f with
     |none=>rw[el] at h1;exact h1.elim
     |some q=>
      rw[el] at h1
      subst q3
      obtain⟨v,e1,e2⟩:=oh q4 el
      obtain⟨k1,k2⟩:=hcs.get hc
      exact⟨a,_,dx,fs,v,rfl,q2,k1,k2,e1,h1 v F1 H1 ē (Same.refl _) (Same.refl _) e2⟩
    ·exact h1.elim
   |_=>exact h1.elim⟩
def FN(X:Cx)(cm:String->Addr)(CX:jL)(k n:Nat)(m:Str)(C:String)(mf:MF):Prop:=Cls X.K (cm C)/\∃f fd ps,Meth X.K (cm C) m f/\Ħ X.prog X.w X.K X.mg X.base CX k f fd ps (Ş (kk X cm) n mf)/\Binds X.K fd ps []/\
 ∀{ps:List Slot},(∃r,mf ps=r/\∀z,r=z->z≠ .bad)->ps.length=n
def FP(Q:String->MF->Prop):List (String×MF)->Prop
 | []=>True
 |(c,mf)::cs=>Q c mf/\FP Q cs
theorem FP.get{Q:String->MF->Prop}:∀{cs:List (String×MF)} {C:String} {mf:MF},FP Q cs->cs.lookup C=some mf->Q C mf
 | [],_,_,_,h=>by simp at h
 |(c,g)::cs,C,mf,⟨h1,h2⟩,h=>by
  rw[List.lookup_cons] at h
  cases hc:C== c with
  |true=>
   rw[hc] at h
   cases h
   have:C=c:=by simpa using hc
   rw[this];exact h1
  |false=>
   rw[hc] at h
   exact h2.get h
def ou(m:Str)(iy:List (String×MF))(mo:M PV)(ms:M (List Slot)):M RV:=λρ=>(mo ρ).bind λp ρ1=>match p with
 | .ins C ns ps=>match iy.lookup C with
   |some mf=>if ns.contains m=true then .bad else(ms ρ1).bind λas ρ2=>match mf (.sh (.ins C ns ps)::as) with
    | .ret r=>.ok r ρ2
    | .exc x=>.exc x ρ2
    | .bad=>.bad
   |none=>.bad
 |_=>.bad
theorem qR{m:Str}:∀{fs:List (Str×V)},(fs.map (·.1)).contains m=false->fs.lookup m=none
 | [],_=>rfl
 |(g,v)::fs,h=>by
  rw[List.map_cons,List.contains_cons,Bool.or_eq_false_iff] at h
  rw[List.lookup_cons,h.1]
  exact qR h.2
variable{CX:jL}{k n:Nat}{Je:Str}{iy:List (String×MF)}{ms:M (List Slot)}
def FQ{c:Ctx}{F H:Hp}{σ:L2.St}{ρ:Ļ}{Q:VK}(rel:Rel (kk X cm) c F H σ ρ)(h:aG (kk X cm) E (rO (kk X cm)) c F H σ Q (ou Je iy m ms ρ))(VF:FP (λC mf=>FN X cm CX k n Je C mf) iy) :
 aG (kk X cm) E (rV (kk X cm)) c F H σ (λx H1=>∃a C dx fs g fd ps mf,x=.ref a/\H1 a=some (.ins C dx fs)/\Cls X.K C/\Meth X.K C Je g/\fs.lookup Je=none/\Ħ X.prog X.w X.K X.mg X.base CX k g fd ps (Ş (kk X cm) n mf)/\Binds X.K fd ps []/\
  tA (kk X cm) E ms σ H1 λvs H2=>Ş (kk X cm) n mf (.ref a::vs) H2 Q (E σ)) (m ρ):=
 aG.bind h λp ρ1 v F1 H1 ē _ _ r1 h1=>by
  cases p with
  |ins C ns ps=>
   dsimp only at h1
   cases el:iy.lookup C with
   |none=>rw[el] at h1;exact h1.elim
   |some mf=>
    rw[el] at h1
    dsimp only at h1
    split at h1
    ·exact h1.elim
    ·rename_i hn
     obtain⟨k1,f,fd,qs,k2,k3,k4,k5⟩:=VF.get el
     have r1':Rep (kk X cm) F1 (.ins C ns ps) v:=r1
     have r2:=r1'
     unfold Rep at r2
     obtain⟨a,dx,fs,rfl,q2,q3,q4⟩:=r2
     refine⟨a,_,dx,fs,f,fd,qs,mf,rfl,ē.sub _ _ q2,k1,k2,qR (by rw[q3];simpa using hn),k3,k4,c,F1,ρ1,ē,aG.bind h1 λas ρ2 vs F2 H2 Ĳ sF sH r3 h3=>?_⟩
     exact vC (vs:=.ref a::vs) k5 Ĳ (.cons (show aW _ _ _ (.sh _) _ from Rep.same sF _ _ r1') r3) h3
  |_=>exact h1.elim
def KN{pl:Sem Bool}(VF:FP (λC mf=>FN X cm CX k n Je C mf) iy)(hr:ŕ k X.A)(hx:bU CX X E)(he:PE X o (tV (kk X cm) E m))
 (ht:eval (.Call (.Attribute o Je apos) [] [] pos) X.env=(do
   let ov <-eval o X.env
   standAt apos.atName
   let (f,first) <-holding [ov] (getMethod ov Je pl)
   callWith pos f first (backTo pos (starEach [] X.env)) (backToKw pos (keywordEach [] X.env))):=by rfl) :
 PE X (.Call (.Attribute o Je apos) [] [] pos) (tO (kk X cm) E (ou Je iy m Ċ)):=by
 intro pins s σ H Q I ⟨c,F,ρ,rel,h⟩
 refine PySem.W.methodCall_KW (pl:=pl) (ŉ (he pins s σ H _ I ⟨c,F,ρ,rel,FQ rel h VF⟩) λu s1 ⟨x,H1,I1,rx,a,C,dx,fs,g,fd,ps,mf,ex,ea,cl,k2,l,k3,k4,q⟩=>?_) ht
 subst ex
 obtain rfl:u=Value.ref a:=rx
 refine xr I1 ea cl k2 l ?_
 obtain⟨c1,F1,ρ1,ē,q⟩:=q
 exact PySem.W.callWith_K0 (first:=[.ref a]) I1.jM k2.kp (tu (us:=[.ref a]) (vs:=[.ref a]) k3 hr k4 hx I1 (.cons rfl .nil) (q [] F1 H1 ē (Same.refl _) (Same.refl _) .nil))
def putN(f:Str):List Str->List Str
 | []=>[f]
 |g::r=>if g=f then g::r else g::putN f r
def yr(f:Str)(p:PV):List Str->List PV->List PV
 | [],_=>[p]
 |g::r,q::qs=>if g=f then p::qs else q::yr f p r qs
 |_::_,[]=>[]
theorem Ak{F:Hp}{p:PV}{y:V}(ry:Rep K F p y):∀{fs:List (Str×V)} {ps:List PV},Ĕ K F ps (fs.map (·.2))->(dG f y fs).map (·.1)=putN f (fs.map (·.1))/\Ĕ K F (yr f p (fs.map (·.1)) ps) ((dG f y fs).map (·.2))
 | [],ps,r=>⟨rfl,Ĕ.cons ry Ĕ.nil⟩
 |(g,v)::fs,ps,r=>by
  have r':=r.pr
  rw[List.map_cons] at r'
  cases r' with
  |cons r1 t=>
   rename_i q qs
   unfold dG
   rw[List.map_cons]
   unfold putN yr
   by_cases hg:g=f
   ·rw[if_pos hg,if_pos hg,if_pos hg]
    exact⟨rfl,Ĕ.cons ry (Ĕ.of t)⟩
   ·rw[if_neg hg,if_neg hg,if_neg hg]
    obtain⟨h1,h2⟩:=Ak ry (Ĕ.of t)
    exact⟨by rw[List.map_cons,h1],Ĕ.cons r1 h2⟩
def iG(i:Nat)(cs:List String)(f:Str)(mv:M PV):M Fl:=λρ=>(mv ρ).bind λp ρ1=>match ρ1[i]? with
 |some (.rc C ns ps)=>if cs.contains C=true/\ns.length<1000 then .ok .nx (ρ1.set i (.rc C (putN f ns) (yr f p ns ps))) else .bad
 |_=>.bad
def aj{i:Nat}{x:Str}{px pos':Pos}(cs:List String)(hcs:n_ (λC=>Cls X.K (cm C)/\ĳ X.K (cm C) f) cs)(ho:PE X (.Name x px) (rQ i))(he:PE X e (tV (kk X cm) E m))(hs:swapsWith e (some (.Attribute (.Name x px) f pos')) pos.line X.env=pure false:=by rfl) :
 PS X (.Assign [.Attribute (.Name x px) f pos'] e pos) (tS (kk X cm) E (iG i cs f m)):=PS.wk (Uv ho he hs) λD σ H ⟨c,F,ρ,rel,h⟩=>⟨c,F,ρ,rel,ŧ.bind h λp ρ1 y F1 H1 ē s1 ry h1=>by
 cases e1:ρ1[i]? with
 |none=>rw[e1] at h1;exact h1.elim
 |some sl=>
  rw[e1] at h1
  cases sl with
  |rc C ns ps=>
   dsimp only at h1
   split at h1
   ·rename_i hc
    obtain⟨a,dx,fs,q1,q2,q3,q4,q5,q6,q7⟩:=ē.slot i _ e1
    subst q5
    obtain⟨k1,k2⟩:=hcs.get hc.1
    refine⟨.ref a,at_of q1,a,_,dx,fs,rfl,q2,k1,k2,by simpa using hc.2,?_⟩
    obtain⟨z1,z2⟩:=Ak (f:=f) (p:=p) ry q6
    exact h1 σ F1 _ (ē.write ⟨_,_,e1,at_of q1,rfl⟩ (at_of q1) ⟨a,dx,_,rfl,ĝ,q3,q4,z1,z2,q7⟩ λ_ z=>(V.ref.inj z).symm) (Same.refl _)
   ·exact h1.elim
  |_=>exact h1.elim⟩
inductive IR where
 |ok (ns:List Str) (ps:List PV)|exc (x:PX)|bad
abbrev MI:=List Slot->IR
def IR.of:Res Fl->IR
 | .ok .nx (.rc _ ns ps::_)=>.ok ns ps
 | .exc x _=>.exc x
 |_=>.bad
def bZ(n k:Nat)(C:String)(mb:M Fl):MI:=λas=>if as.length+1=n then IR.of (mb (.rc C [] []::startP (k-1) as)) else .bad
structure GrB(a:Addr)(F H F' H':Hp):Prop where
 h:∀b u,b≠a->H b=some u->H' b=some u
 f:Same F F'
 sub:Same F' H'
 out:∀b,b≠a->H b≠none->F b=none->F' b=none
def Zdt(K:KK)(E:XK)(F H:Hp)(Q:VK)(a dx:Addr)(C:String):IR->Prop
 | .ok ns ps=>∀F' H' fs,GrB a F H F' H'->H' a=some (.ins (K.cm C) dx fs)->F' a=none->fs.map (·.1)=ns->Ĕ K F' ps (fs.map (·.2))->Q .non H'
 | .exc x=>∀C' d F' H',GrB a F H F' H'->Kf K F' x C' d->E C' d H'
 | .bad=>False
def Jf(K:KK)(n:Nat)(C:String)(mi:MI):Sp:=λvs H Q E=>∃F a dx vs' as,vs=.ref a::vs'/\as.length+1=n/\H a=some (.ins (K.cm C) dx [])/\F a=none/\Same F H/\Paired (aW K F H) as vs'/\Zdt K E F H Q a dx C (mi as)
def KQ(a dx:Addr)(C:String)(F H:Hp):Ctx:=⟨λb=>if b=a then none else H b,F,λb=>if b=a then none else(ctx0 F H).L b,λa' dx' C'=>a'=a/\dx'=dx/\C'=C⟩
def Rel.gri{σ:L2.St}{ρ:Ļ}{a dx:Addr}{C:String}{F H F' H':Hp}(r:Rel K (KQ a dx C F H) F' H' σ ρ):GrB a F H F' H':=
 ⟨λb u hb e=>r.base b u (by show(if b=a then none else H b)=_;rw[if_neg hb];exact e),r.f0,r.sub,λb hb h1 h2=>r.cO b (by show(if b=a then none else H b)≠none;rw[if_neg hb];exact h1) h2⟩
def Rel.VG{F H:Hp}{N:List Str}{as:List Slot}{vs:List V}{a dx:Addr}{C:String}(s:Same F H)(ha:H a=some (.ins (K.cm C) dx []))(hF:F a=none)(h:Paired (aW K F H) as vs) :
 Rel K (KQ a dx C F H) F H (L2.start N (.ref a::vs)) (.rc C [] []::startP (N.length-1) as):=by
 have r0:=Rel.start (N:=N) (K:=K) s (as:=.sh (.int 0)::as) (vs:=.int 0::vs) (.cons (Rep.int (K:=K) (F:=F) (i:=0)) h)
 have est:L2.start N (.ref a::vs)=some (.ref a)::(L2.start N (.int 0::vs)).tail:=by unfold L2.start;simp
 have Zdu:(L2.start N (V.int 0::vs)).tail.length=(startP (N.length-1) as).length:=by
  unfold L2.start startP
  simp[Paired.length h]
  omega
 have tl:∀i:Nat,(L2.start N (.int 0::vs)).tail[i]?=(L2.start N (.int 0::vs))[i+1]?:= λi=>by simp
 have sp:∀i:Nat,(startP (N.length-1) as)[i]?=(startP N.length (.sh (.int 0)::as))[i+1]?:= λi=>by
  unfold startP
  simp only[List.cons_append,List.getElem?_cons_succ,List.length_cons]
  rw[show N.length-1-as.length=N.length-(as.length+1) by omega]
 have qT:∀(i:Nat) (s':Slot),(startP (N.length-1) as)[i]?=some s'->s'.own=false:=λi s' e=>by
  unfold startP at e
  by_cases hi:i<as.length
  ·rw[List.getElem?_append_left hi] at e
   obtain⟨v,_,h3⟩:=bD h e
   exact(aW.slot h3).2
  ·rw[List.getElem?_append_right (by omega),List.getElem?_replicate] at e
   split at e
   ·cases e;rfl
   ·cases e
 rw[est]
 refine⟨s,λb u e=>?_,Same.refl _,λ_ _ z=>z,λb u e=>?_,λb e=>?_,?_,λi s' e=>?_,λi j b h1 h2=>?_⟩
 ·have e':(if b=a then none else H b)=some u:=e
  split at e'
  ·cases e'
  ·exact e'
 ·have e':(if b=a then none else(ctx0 F H).L b)=some u:=e
  split at e'
  ·cases e'
  ·exact cF e'
 ·show(if b=a then none else(ctx0 F H).L b)=none
  have e':(if b=a then none else H b)=none:=e
  split
  ·rfl
  ·rename_i hb
   rw[if_neg hb] at e'
   exact r0.lb b e'
 ·simp[Zdu]
 ·cases i with
  |zero=>
   cases e
   exact⟨a,dx,[],rfl,ha,hF,by show(if a=a then none else H a)=none;rw[if_pos rfl],rfl,Ĕ.nil,rfl,rfl,rfl⟩
  |succ i=>
   have e':(startP (N.length-1) as)[i]?=some s':=by simpa using e
   have q:=r0.slot (i+1) s' (by rw[<-sp];exact e')
   rw[<-tl] at q
   show ś K (KQ a dx C F H) F H (((some (V.ref a)::(L2.start N (.int 0::vs)).tail)[i+1]?).getD none) s'
   rw[List.getElem?_cons_succ]
   cases s' with
   |no=>trivial
   |sh p=>exact q
   |bw ps=>
    obtain⟨b,ws,q1,q2,q3⟩:=q
    refine⟨b,ws,q1,?_,q3⟩
    show(if b=a then none else(ctx0 F H).L b)=_
    rw[if_neg (λz=>by
     have:=(cF q2).1
     rw[z,ha] at this
     cases this)]
    exact q2
   |ow ps=>have:=qT i _ e';cases this
   |rc C ns ps=>have:=qT i _ e';cases this
   |ot ps qs rs=>have:=qT i _ e';cases this
   |ol bN=>have:=qT i _ e';cases this
   |fr bN=>have:=qT i _ e';cases this
   |bn qs rows=>
    obtain⟨v,q1,q2⟩:=q
    refine⟨v,q1,q2.base λb u z=>?_⟩
    have z':(if b=a then none else H b)=some u:=z
    split at z'
    ·cases z'
    ·exact z'
 ·have at0:∀{i},ķ F (some (.ref a)::(L2.start N (.int 0::vs)).tail) (Slot.rc C [] []::startP (N.length-1) as) i b→i=0:=fun{i} ⟨s',y,q1,_,q2⟩=>by
   have q2:=jV q2
   cases i with
   |zero=>rfl
   |succ i=>
    have:=qT i s' (by simpa using q1)
    rw[this] at q2
    cases q2
  rw[at0 h1,at0 h2]
end
section
variable{P:Program}{w:World}{K:PySem.W.Frag}{cm:String->Addr}{mg:Str->Option Value}{base:Heap}{CX:jL}
def Yr{x qual:Str}{st:Stmt}{f:Addr}{fd:FuncData}{N ps:List Str}{k n j:Nat}{C:String}{mb:M Fl}{mi:MI}(F:DW K x qual st f fd)(S:Ē N ps (ć st))(hn:ps.length=n)(hj:N.length=j)(hf:mi=bZ n j C mb)
 (hbody:∀(cdv:Value) (A:Around) (outer:List Env) (s:Shared) (H:Hp) (E:XK),ŕ k (A.deeper (envOfC qual (ć st) s.heap.objs.size f cdv))→
   fJ (pZ CX P w K mg base N qual (ć st) f cdv A outer s H E) (œ st) (tS ⟨K,cm⟩ (λ_=>E) mb)):Ħ P w K mg base CX (k+1) f fd ps (Jf ⟨K,cm⟩ n C mi):=by
 subst hn hj hf
 obtain⟨oc,od,kV,doc,pm,an,cdv,ct,osl,rfl,lk,hcd⟩:=F.ex
 refine DK lk hcd S (λvs H Q E ⟨F,a,dx,vs',as,h1,h2,_,_,_,h3,_⟩=>by rw[h1,List.length_cons,<-Paired.length h3];exact h2) λA outer s H vs Q E hr hsp=>?_
 obtain⟨F,a,dx,vs',as,rfl,h2,h3,h4,h5,h6,h7⟩:=hsp
 refine⟨_,hbody cdv A outer s H E hr,KQ a dx C F H,F,_,Rel.VG h5 h3 h4 h6,?_⟩
 unfold bZ at h7
 rw[if_pos h2] at h7
 cases e:mb (.rc C [] []::startP (N.length-1) as) with
 |bad=>rw[e] at h7;exact h7
 |exc x ρ'=>rw[e] at h7;exact λσ' C' d F' H' rel s1 q=>h7 C' d F' H' rel.gri q
 |ok fl ρ'=>
  rw[e] at h7
  cases fl with
  |nx=>
   cases ρ' with
   |nil=>exact h7.elim
   |cons sl ρ'=>
    cases sl with
    |rc C' ns qs=>
     intro σ' F' H' rel s1
     obtain⟨b,dy,fs,q1,q2,q3,q4,q5,q6,rfl,rfl,rfl⟩:=rel.slot 0 _ rfl
     exact h7 F' H' fs rel.gri q2 q3 q5 q6
    |_=>exact h7.elim
  |bk=>exact h7.elim
  |ct=>exact h7.elim
  |rt r=>exact h7.elim
end
def aY(C:String)(mi:MI)(ms:M (List Slot)):M PV:=λρ=>(ms ρ).bind λas ρ1=>match mi as with
 | .ok ns ps=>.ok (.ins C ns ps) ρ1
 | .exc x=>.exc x ρ1
 | .bad=>.bad
section
variable{X:Cx}{cm:String->Addr}{E:L2.St->XK}{e:Expr}{es:List Expr}{pos p:Pos}{CX:jL}{k n:Nat}{f:Addr}{fd:FuncData}{ps:List Str}{C:String}{mi:MI}{ms:M (List Slot)}{x:Str}
def FT{c:Ctx}{F1 H1:Hp}{σ:L2.St}{ρ1:Ļ}{Q:VK}{as:List Slot}{vs:List V}(hlen:(∃r,mi as=r/\∀z,r=z->z≠ .bad)->as.length+1=n)(ē:Rel (kk X cm) c F1 H1 σ ρ1)(r1:Paired (aW (kk X cm) F1 H1) as vs)
 (h:aG (kk X cm) E (rV (kk X cm)) c F1 H1 σ Q (match mi as with| .ok ns ps=>.ok (.ins C ns ps) ρ1| .exc x=>.exc x ρ1| .bad=>.bad)) :
 ∀x dx,H1 x=none->H1 dx=none->dx≠x->Jf (kk X cm) n C mi (.ref x::vs) (upd (upd H1 dx (.own x)) x (.ins (cm C) dx [])) (λv H2=>v=.non/\Q (.ref x) H2) (E σ):=by
 intro x dx hx hdx hne
 have up:∀b u,H1 b=some u->upd (upd H1 dx (.own x)) x (.ins (cm C) dx []) b=some u:=λb u e=>by
  rw[Ė (Ģ e hx),Ė (Ģ e hdx)];exact e
 have KR:∀{F' H':Hp},GrB x F1 (upd (upd H1 dx (.own x)) x (.ins (cm C) dx [])) F' H'->Gr F1 H1 F' H':=fun{F' H'} g=>
  ⟨fun b u e=>g.h b u (Ģ e hx) (up b u e),g.f,g.sub,fun b hb hf=>by
    obtain⟨u,hu⟩:∃u,H1 b=some u:=by
     cases q:H1 b with
     |none=>exact absurd q hb
     |some u=>exact⟨u,rfl⟩
    exact g.out b (Ģ hu hx) (by rw[up b u hu];intro z;cases z) hf⟩
 refine⟨F1,x,dx,vs,as,rfl,?_,ĝ,ē.sub.free hx,λb u e=>up b u (ē.sub b u e),?_,?_⟩
 ·refine hlen ⟨_,rfl,λz hz hb=>?_⟩
  rw[hz,hb] at h
  exact h
 ·refine Paired.mono (λs v hs=>?_) r1
  cases s with
  |sh p=>exact hs
  |bw qs=>
   obtain⟨b,ws,q1,q2,q3,q4⟩:=hs
   exact⟨b,ws,q1,up b _ q2,q3,q4⟩
  |_=>exact hs.elim
 ·cases em:mi as with
  |bad=>rw[em] at h;exact h
  |exc y=>rw[em] at h;exact λC' d F' H' g rx=>h C' d F' H' (ē.call (KR g)) g.f rx
  |ok ns qs=>
   rw[em] at h
   intro F' H' fs g hx' hF' hn hr
   have r2:=ē.call (KR g)
   have r3:=r2.freeze hx' (ē.base.free hx) hF' (ē.je (KR g).f (ē.fresh hx))
   refine⟨rfl,h _ _ H' r3 (g.f.trans (Same.upd hF')) (KR g).h ?_⟩
   show Rep _ _ _ _
   unfold Rep
   exact⟨x,dx,fs,rfl,ĝ,hn,Ĕ.same (Same.upd hF') qs _ hr⟩
def Ci{pins:List (Addr×Obj)}{σ:L2.St}{H:Hp}{s:Shared}{Q:VK}{us:List Value}{vs:List V}{sp:Sp}{C:Addr}(M:Mk X.K C f)(F:Ħ X.prog X.w X.K X.mg X.base CX k f fd ps sp)(hr:ŕ (k+1) X.A)(hb:Binds X.K fd ps [])
 (hx:bU CX X E)(I:Inv X pins σ H s)(r:Vals vs us)
 (h:∀x dx,H x=none->H dx=none->dx≠x->sp (.ref x::vs) (upd (upd H dx (.own x)) x (.ins C dx [])) (λv H2=>v=.non/\Q (.ref x) H2) (E σ)) :
 wpAny (model X.prog X.w) X.A (call (.ref C) us) (EP X pins σ Q) X.xe s:=by
 have hq:=h (s.heap.objs.size+1) s.heap.objs.size (I.hok.fresh (Nat.le_succ _)) (I.hok.fresh (Nat.le_refl _)) (Nat.ne_of_lt (Nat.lt_succ_self _))
 have I2:=Inv.made (C:=C) I
 have r2:Vals (V.ref (s.heap.objs.size+1)::vs) (Value.ref (s.heap.objs.size+1)::us):=.cons rfl r
 have hl:(Value.ref (s.heap.objs.size+1)::us ++ []).length=ps.length:=by
  have e:=r2.length
  rw[F.len _ _ _ _ hq] at e
  rw[List.append_nil]
  exact e.symm
 have hbd:=hb {s with heap:=(s.heap.push PySem.W.emptyDict).push (PySem.W.instObj C s.heap.objs.size)} (Value.ref (s.heap.objs.size+1)::us) I2.jM hl
 rw[List.append_nil] at hbd
 refine wpAny_call (Dv (f:=f) I.jM M.makes M.init (beq_iff_eq.mp M.fn) (codeAny_mono (F.run _ X.stack _ _ ⟨Value.ref (s.heap.objs.size+1)::us,[]⟩ _ _ _ (E σ) (hr.make C us []) (I2.env0.make C us []) hbd r2 hq) λr s' hq'=>?_))
 cases r with
 |error e=>exact hx pins σ _ _ e s' I2 hq'
 |ok fl=>
  cases fl with
  |ret u=>
   obtain⟨v,H',I3,rv,ev,q3⟩:=I2.after hq'
   subst ev
   exact⟨rv,⟨V.ref (s.heap.objs.size+1),H',I3,rfl,q3⟩⟩
  |next=>exact False.elim hq'
  |brk=>exact False.elim hq'
  |cont=>exact False.elim hq'
def bh{n k:Nat}{C:String}{mb:M Fl}{as:List Slot}(h:∃r,bZ n k C mb as=r/\∀z,r=z->z≠ .bad):as.length+1=n:=by
 obtain⟨r,h1,h2⟩:=h
 unfold bZ at h1
 by_cases hl:as.length+1=n
 ·exact hl
 ·rw[if_neg hl] at h1
  exact absurd h1.symm (λz=>h2 .bad (by rw[<-h1]) rfl)
def jY(M:Mk X.K (cm C) f)(F:Ħ X.prog X.w X.K X.mg X.base CX k f fd ps (Jf (kk X cm) n C mi))(hlen:∀{as:List Slot},(∃r,mi as=r/\∀z,r=z->z≠ .bad)->as.length+1=n)(hr:ŕ (k+1) X.A)(hg:Gl X x)(hm:X.mg x=some (.ref (cm C)))(hb:Binds X.K fd ps [])(hx:bU CX X E)
 (ha:PA X (e::es) (tA (kk X cm) E ms))(hdb:(x== ("__debug__" :Str))=false:=by decide)(he:starEach (e::es) X.env=(false,eval e X.env)::starEach es X.env:=by exact aB rfl)(hpl:(backTo pos (starEach es X.env)).any (·.1)=false:=by rfl) :
 PE X (.Call (.Name x p) (e::es) [] pos) (tV (kk X cm) E (aY C mi ms)):=by
 intro pins s σ H Q I ⟨c,F',ρ,rel,h⟩
 refine wpAny_Call_Name_kw (mL I hg hm ?_ hdb)
 refine PySem.W.callWith_K (h₀:= X.base) I.ok.mod.Yw M.kp (ŉ (ha pos pins s σ H (λvs H1=>∀x dx,H1 x=none->H1 dx=none->dx≠x->Jf (kk X cm) n C mi (.ref x::vs) (upd (upd H1 dx (.own x)) x (.ins (cm C) dx [])) (λv H2=>v=.non/\Q (.ref x) H2) (E σ)) I
  ⟨c,F',ρ,rel,aG.bind h λas ρ1 vs F1 H1 ē _ _ r1 h1=>FT hlen ē r1 h1⟩) λus s1 ⟨vs,H1,I1,r,q⟩=>⟨I1.jM,?_⟩) he hpl
 exact Ci M F hr hb hx I1 r q
end
end P
namespace P
open PySem PySem.Spec PyProof.Rows L2 M2 M3 M4
section
variable{M:Model}{A:Around}{E:Value->Shared->Prop}{s:Shared}{B:Heap}{env:Env}{outer:List Env}{L e:Addr}{Q:Unit->Shared->Prop}
end
def jo.sub{P:Program}{w:World}{H:Hp}{h B:Heap}(x:jo P w H h)(k:∀b o u,H b=some u->h.get? b=some o->B.get? b=some o):jo P w H B:=λa o e=>
 (x a o e).stay (fun b u hb q=>by
   rcases hb with rfl|hb
   ·exact k _ _ _ e q
   ·exact k _ _ _ hb q) (λ_ q=>q) λ_ _ q=>q
section
variable{P:Program}{w:World}{K:PySem.W.Frag}{mg:Str->Option Value}{base:Heap}{N:List Str}{qual:Str}{scope:Scope}{f:Addr}{cdv:Value}{A:Around}{outer:List Env}{s₀:Shared}{H₀:Hp}{E:XK}
end
end P
namespace P
open PySem PySem.Spec PyProof.Rows L2 M2 M3 M4
section
variable{K:PySem.W.Frag}{h:Heap}{C:Addr}{bmB:List Value}{newId:String}
end
section
variable{X:Cx}{cm:String->Addr}{E:L2.St->XK}{x:Str}{C:String}{np cpos pos:Pos}
end
section
variable{M:Model}{A:Around}{E:Value->Shared->Prop}{s:Shared}{K:PySem.W.Frag}{e C D:Addr}{oe:Obj}{b:Bool}{Q:Bool->Shared->Prop}
end
section
variable{X:Cx}{pins:List (Addr×Obj)}{σ:L2.St}{H:Hp}{s:Shared}{xe:Value->Shared->Prop}
end
end P
namespace P
open PySem PySem.Spec PyProof.Rows L2 M2 M3 M4
abbrev MH:=PX->Ļ->Res Fl
section
variable{X:Cx}{cm:String->Addr}{E:L2.St->XK}{pins:List (Addr×Obj)}{σ:L2.St}{H Hc:Hp}{s sc:Shared}{ea:Addr}{C:Value}{d:Option Addr}{B:Heap}
variable{y n:Str}{Dn:String}{i:Nat}{yp hpos:Pos}{b₀:Stmt}{suite:List Stmt}{rest:List ExceptHandler}{yes no:List String}{mh:M Fl}{mr:MH}
end
end P
namespace P
open PySem PySem.Spec PyProof.Rows L2 M2 M3 M4 Builtin Builtin.ObjectAttr
section
variable{K:PySem.W.Frag}{h:Heap}{C:Addr}{cd:ClassData}{bm:List Value}
end
section
variable{prog:Program}{w:World}{A:Around}{E:Value->Shared->Prop}{h:Heap}{g:Array GenState}{d:Drawn}{t:Nat}{os:OsState}
variable{nm q:Str}{C N:Addr}{bs bm bmB:List Value}{hdct:Bool}{sn:List Str}{sub:List Value}{ab:Bool}{col:Option Bool}{dd:Option Addr}{k0 k1 k2 k3 k5:Option Value}{B newId initId:String}
end
section
variable{prog:Program}{w:World}{A:Around}{E:Value->Shared->Prop}{s:Shared}{K:PySem.W.Frag}{x C:Addr}{cd:ClassData}{bm:List Value}{ox:Obj}{od:Option Obj}{name:Str}{v:Value}
end
end P
namespace P
open PySem PySem.Spec PyProof.Rows L2 M2 M3 M4
section
variable{X:Cx}{pins:List (Addr×Obj)}{σ:L2.St}{H:Hp}{s:Shared}{a C:Addr}{cd:ClassData}{bm:List Value}{d:Option Addr}{fs:List (Str×V)}{f:Str}{y:V}{u:Value}{A:Around}{E:Value->Shared->Prop}
variable{o value:Expr}{pos pos':Pos}{j:Nat}{ss:List Stmt}{r:List (Str×Nat)}
end
section
variable{P:Program}{w:World}{K:PySem.W.Frag}{mg:Str->Option Value}{base:Heap}{CX:jL}
end
section
variable{X:Cx}{cm:String->Addr}{E:L2.St->XK}{e:Expr}{es:List Expr}{pos p:Pos}{CX:jL}{k n:Nat}{f:Addr}{fd:FuncData}{ps:List Str}{C:String}{fl:List (Str×Nat)}{ms:M (List PV)}{x:Str}
end
section
variable{M:Model}{A:Around}{E:Value->Shared->Prop}{s:Shared}{K:PySem.W.Frag}{env:Env}
end
section
variable{X:Cx}{cm:String->Addr}{E:L2.St->XK}{e:Expr}{es:List Expr}{pos cpos np:Pos}{CX:jL}{k n:Nat}{f:Addr}{fd:FuncData}{ps:List Str}{C:String}{fl:List (Str×Nat)}{ms:M (List PV)}{x:Str}
end
end P
namespace P
open PySem PySem.Spec PyProof.Rows L2 M2 M3 M4 Builtin Builtin.ObjectAttr
section
variable{prog:Program}{w:World}{A:Around}{E:Value->Shared->Prop}{s:Shared}{K:PySem.W.Frag}{x C:Addr}{ox:Obj}{od:Option Obj}
end
section
variable{X:Cx}{cm:String->Addr}{K:KK}
end
section
variable{ρ:Ļ}{C:String}{n i:Nat}{fl:List (Str×Nat)}{ms:M (List PV)}{mb mh:M Fl}{mr:MH}{yes no:List String}{x:PX}
end
end P
namespace P
open PySem PySem.Spec PyProof.Rows L2 M2 M3 M4
section
variable{X:Cx}{cm:String->Addr}{E:L2.St->XK}{y:Str}{Dn:String}{yp hpos:Pos}{b₀:Stmt}{suite:List Stmt}{rest:List ExceptHandler}{yes no:List String}{mh:M Fl}{mr:MH}
end
end P
namespace P
open PySem PySem.Spec PyProof.Rows L2 M2 M3 M4
section
variable{X:Cx}{cm:String->Addr}{K:KK}
def Mz:List V->Hp->VK->Prop:=λxs H Q=>(∃i,xs=[.int i]/\Q (.int i) H)\/∃k,xs=[.bl k]/\Q (.int (if k then 1 else 0)) H
def VH:ō X (.type "int") Mz:=Bx
def FW:List PV->Option PV
 | [.int i]=>some (.int i)
 | [.bl k]=>some (.int (if k then 1 else 0))
 |_=>none
def VJ:eN K Mz FW:=by
 intro c F H σ ρ ps pv vs Q rel r e k
 unfold FW at e
 split at e
 ·cases e
  obtain⟨v,rfl,r1⟩:=Cg r
  cases r1.int
  exact .inl ⟨_,rfl,k _ F H rel (Same.refl _) (Same.refl _) Rep.int⟩
 ·cases e
  obtain⟨v,rfl,r1⟩:=Cg r
  cases r1.bl
  exact .inr ⟨_,rfl,k _ F H rel (Same.refl _) (Same.refl _) Rep.int⟩
 ·cases e
theorem aD:∀{ns:List Int} {its:List Value},Vals (ns.map V.int) its->IntsAre its ns
 | [],its,h=>by cases h;exact .nil
 |n::ns,its,h=>by
  cases h with
  |cons r t=>
   obtain⟨k,e⟩:=(show ∃k,_=Value.int n k from r)
   subst e
   exact .cons n k (aD t)
section
variable{prog:Program}{w:World}{A:Around}{E:Value->Shared->Prop}{s:Shared}{l:Addr}{xs:Array (Int×Tok)}
def vM{Q:Value->Shared->Prop}(hl:s.heap.IsTuple l (intItems xs))
 (h:∀s₂:Shared,s₂= {s with heap:=s.heap.push {cls:=.type "tuple_iterator",data:=.fields #[.ref l,.int 0 0]}}→
   (s₂.heap.IsTupleIter s.heap.objs.size l 0/\s₂.heap.IsTuple l (intItems xs))->(∀b∈[s.heap.objs.size,l],b<s₂.heap.objs.size)->l≠s.heap.objs.size->(∀h':Heap,(∀b o,b∉[s.heap.objs.size]->s₂.heap.get? b=some o->h'.get? b=some o)->∀b o,s.heap.get? b=some o->h'.get? b=some o)->Q (.ref s.heap.objs.size) s₂) :
 wpAny (model prog w) A (pyIter (.ref l)) Q E s:=by
 have hlt:l<s.heap.objs.size:=by obtain⟨_,e,_⟩:=hl;exact Heap.lt_size e
 refine wpAny_pyIter_tuple hl (h _ rfl ⟨⟨_,Heap.get?_push_size _ rfl,rfl,rfl⟩,hl.push _⟩ (λb hb=>?_) (Nat.ne_of_lt hlt) λh' hk b o e=>?_)
 ·show b<(s.heap.push _).objs.size
  rw[Heap.size_push]
  rcases List.mem_cons.mp hb with rfl|hb
  ·exact Nat.lt_succ_self _
  ·rcases List.mem_cons.mp hb with rfl|hb
   ·exact Nat.lt_succ_of_lt hlt
   ·cases hb
 ·refine hk b o (λhm=>?_) (Heap.get?_push_of_some _ e)
  rcases List.mem_cons.mp hm with e1|hm
  ·exact absurd (e1▸Heap.lt_size e) (Nat.lt_irrefl _)
  ·cases hm
def yu{Q:Value->Shared->Prop}(hh:A.handled=none)(hl:s.heap.IsTuple l (intItems xs))(hne:0<xs.size)
 (h:∀v h' tk,(intItems xs)[argBest (λi j=>decide (numAt xs i>numAt xs j)) (xs.size-1)]?=some v->(∀b o,s.heap.get? b=some o->h'.get? b=some o)->Q v {s with heap:=h',toks:=tk}) :
 wpAny (model prog w) A (call (.builtin "max") [.ref l]) Q E s:=by
 refine call_max_walk (vM hl λs₂ e st hfp hlI hk0=>?_)
 subst e
 refine⟨_,_,_,_,_,_,_,rfl,Walks.tuple (A:=A.in1) hh _ l hlI (intItems xs),st,hfp,by simpa[intItems] using hne,CmpOf.ints_gt (numAt xs) (λ_ _=>intItems_at),λv h' tk hP hk=>?_⟩
 exact h v h' tk (by simpa[intItems] using hP) (hk0 h' hk)
end
def ZaE(K:PySem.W.Frag):List V->Hp->VK->Prop:=λxs H Q=>∃(p:Addr) (ns:List Int),xs=[.ref p]/\(Ś K H p (ns.map V.int)\/dD K H p (ns.map V.int))/\0<ns.length/\∀M,M∈ns->(∀a∈ns,a<=M)->Q (.int M) H
def yx(hc:X.calm=true):ō X (.builtin "max") (ZaE X.K):=by
 intro pins s σ H xs us Q I r h
 obtain⟨p,ns,rfl,hS,hne,q⟩:=h
 obtain⟨u,rfl,ru⟩:=vals1 r
 cases ru
 have fin:∀(ys:Array (Int×Tok)),ns=ys.toList.map (·.1)->0<ys.size->∀v h' tk,(intItems ys)[argBest (λi j=>decide (numAt ys i>numAt ys j)) (ys.size-1)]?=some v->(∀b o,s.heap.get? b=some o->h'.get? b=some o)->EP X pins σ Q v {s with heap:=h',toks:=tk}:=by
  intro ys hns hsz v h' tk hv hk
  obtain⟨t,rfl⟩:=intItems_at hv
  obtain⟨h1,h2⟩:=argBest_gt (numAt ys) (ys.size-1)
  refine⟨.int _,H,I.kept hk,⟨t,rfl⟩,q _ ?_ λa ha=>?_⟩
  ·rw[hns,numAt_eq]
   have hj:argBest (λi j=>decide (numAt ys i>numAt ys j)) (ys.size-1)<(ys.toList.map (·.1)).length:=by rw[List.length_map,Array.length_toList];omega
   rw[List.getD_eq_getElem?_getD,List.getElem?_eq_getElem hj]
   exact List.getElem_mem _
  ·rw[hns] at ha
   obtain⟨j,hj,rfl⟩:=List.mem_iff_getElem.mp ha
   rw[List.length_map,Array.length_toList] at hj
   have:=h2 j (by omega)
   rw[numAt_eq ys j,List.getD_eq_getElem?_getD,List.getElem?_eq_getElem (by rw[List.length_map,Array.length_toList];exact hj)] at this
   exact this
 rcases hS with hS|hS
 ·obtain⟨its,rv,pl,hz⟩:=I.list hS
  have hi:=aD rv
  obtain⟨ys,e⟩:=hi.allInts.items
  have hns:ns=ys.toList.map (·.1):=by rw[<-hi.numsOf,<-nums_intItems,<-e]
  have hl:=pl.isList
  rw[e] at hl
  have hsz:0<ys.size:=by rw[hns,List.length_map,Array.length_toList] at hne;exact hne
  exact max_intList (show X.A.handled=none from I.ok.hd hc) hl hsz (fin ys hns hsz)
 ·obtain⟨its,rv,pl,hz⟩:=I.tuple hS
  have hi:=aD rv
  obtain⟨ys,e⟩:=hi.allInts.items
  have hns:ns=ys.toList.map (·.1):=by rw[<-hi.numsOf,<-nums_intItems,<-e]
  have hl:s.heap.IsTuple p its.toArray:=pl
  rw[e] at hl
  have hsz:0<ys.size:=by rw[hns,List.length_map,Array.length_toList] at hne;exact hne
  exact yu (show X.A.handled=none from I.ok.hd hc) hl hsz (fin ys hns hsz)
def ZaF(K:PySem.W.Frag):List V->Hp->VK->Prop:=λxs H Q=>∃(p:Addr) (ns:List Int),xs=[.ref p]/\Ś K H p (ns.map V.int)/\0<ns.length/\∀M,M∈ns->(∀a∈ns,M<=a)->Q (.int M) H
def yC(hc:X.calm=true):ō X (.builtin "min") (ZaF X.K):=by
 intro pins s σ H xs us Q I r h
 obtain⟨p,ns,rfl,hS,hne,q⟩:=h
 obtain⟨u,rfl,ru⟩:=vals1 r
 cases ru
 obtain⟨its,rv,pl,hz⟩:=I.list hS
 have hi:=aD rv
 obtain⟨ys,e⟩:=hi.allInts.items
 have hns:ns=ys.toList.map (·.1):=by rw[<-hi.numsOf,<-nums_intItems,<-e]
 have hl:=pl.isList
 rw[e] at hl
 have hsz:0<ys.size:=by rw[hns,List.length_map,Array.length_toList] at hne;exact hne
 refine min_intList (show X.A.handled=none from I.ok.hd hc) hl hsz λv h' tk hv hk=>?_
 obtain⟨t,rfl⟩:=intItems_at hv
 obtain⟨h1,h2⟩:=argBest_lt (numAt ys) (ys.size-1)
 refine⟨.int _,H,I.kept hk,⟨t,rfl⟩,q _ ?_ λa ha=>?_⟩
 ·rw[hns,numAt_eq]
  have hj:argBest (λi j=>decide (numAt ys i<numAt ys j)) (ys.size-1)<(ys.toList.map (·.1)).length:=by rw[List.length_map,Array.length_toList];omega
  rw[List.getD_eq_getElem?_getD,List.getElem?_eq_getElem hj]
  exact List.getElem_mem _
 ·rw[hns] at ha
  obtain⟨j,hj,rfl⟩:=List.mem_iff_getElem.mp ha
  rw[List.length_map,Array.length_toList] at hj
  have:=h2 j (by omega)
  rw[numAt_eq ys j,List.getD_eq_getElem?_getD,List.getElem?_eq_getElem (by rw[List.length_map,Array.length_toList];exact hj)] at this
  exact this
def intsOf:List PV->Option (List Int)
 | []=>some []
 | .int b::ps=>(intsOf ps).map (b:: ·)
 |_::_=>none
@[simp] theorem dY:∀ns:List Int,intsOf (ns.map PV.int)=some ns
  | []=>rfl
  |n::ns=>by rw[List.map_cons,intsOf,dY ns];rfl
theorem ints_rep{F:Hp}:∀{ps:List PV} {vs:List V} {bs:List Int},Ĕ K F ps vs->intsOf ps=some bs->vs=bs.map V.int
 | [],vs,bs,r,h=>by
   cases h
   cases r.pr
   rfl
 |p::ps,vs,bs,r,h=>by
  cases r.pr with
  |cons r1 t=>
   cases p with
   |int b=>
    unfold intsOf at h
    obtain⟨cs,e,rfl⟩:=Option.map_eq_some_iff.mp h
    rw[ints_rep (Ĕ.of t) e,show _=V.int b from r1]
    rfl
   |_=>cases h
def best(f:Int->Int->Int):List Int->Option Int
 | []=>none
 |n::ns=>some (ns.foldl f n)
theorem foldl_max:∀(ns:List Int) (n:Int),ns.foldl max n∈n::ns/\∀a∈n::ns,a<=ns.foldl max n
 | [],n=>by simp
 |m::ns,n=>by
  obtain⟨h1,h2⟩:=foldl_max ns (max n m)
  rw[List.foldl_cons]
  refine⟨?_,λa ha=>?_⟩
  ·rcases List.mem_cons.mp h1 with e|e
   ·rw[e]
    by_cases h:n<=m
    ·rw[Int.max_eq_right h];simp
    ·rw[Int.max_eq_left (by omega)];simp
   ·simp[e]
  ·have hm:=h2 (max n m) List.mem_cons_self
   rcases List.mem_cons.mp ha with rfl|ha
   ·omega
   ·rcases List.mem_cons.mp ha with rfl|ha
    ·omega
    ·exact h2 a (List.mem_cons_of_mem _ ha)
theorem foldl_min:∀(ns:List Int) (n:Int),ns.foldl min n∈n::ns/\∀a∈n::ns,ns.foldl min n<=a
 | [],n=>by simp
 |m::ns,n=>by
  obtain⟨h1,h2⟩:=foldl_min ns (min n m)
  rw[List.foldl_cons]
  refine⟨?_,λa ha=>?_⟩
  ·rcases List.mem_cons.mp h1 with e|e
   ·rw[e]
    by_cases h:n<=m
    ·rw[Int.min_eq_left h];simp
    ·rw[Int.min_eq_right (by omega)];simp
   ·simp[e]
  ·have hm:=h2 (min n m) List.mem_cons_self
   rcases List.mem_cons.mp ha with rfl|ha
   ·omega
   ·rcases List.mem_cons.mp ha with rfl|ha
    ·omega
    ·exact h2 a (List.mem_cons_of_mem _ ha)
def iH:List PV->Option PV
 | [.lst ps]=>((intsOf ps).bind (best max)).map .int
 | [.tup ps]=>((intsOf ps).bind (best max)).map .int
 |_=>none
def lF:List PV->Option PV
 | [.lst ps]=>((intsOf ps).bind (best min)).map .int
 |_=>none
def yD:eN K (ZaE K.K) iH:=by
 intro c F H σ ρ ps pv vs Q rel r e k
 have fin:∀(ps:List PV) (xs:List V),Ĕ K F ps xs->((intsOf ps).bind (best max)).map PV.int=some pv->∃ns:List Int,xs=ns.map V.int/\0<ns.length/\∀M,M∈ns->(∀a∈ns,a<=M)->Q (.int M) H:=by
  intro ps xs h2 e
  obtain⟨m,em,rfl⟩:=Option.map_eq_some_iff.mp e
  obtain⟨ns,eb,hb⟩:=Option.bind_eq_some_iff.mp em
  cases ns with
  |nil=>cases hb
  |cons n ns=>
   cases hb
   obtain⟨z1,z2⟩:=foldl_max ns n
   refine⟨n::ns,ints_rep h2 eb,by simp,λM m1 m2=>?_⟩
   have:M=ns.foldl max n:=Int.le_antisymm (z2 M m1) (m2 _ z1)
   rw[this]
   exact k _ F H rel (Same.refl _) (Same.refl _) Rep.int
 unfold iH at e
 split at e
 ·rename_i ps
  obtain⟨v,rfl,r1⟩:=Cg r
  obtain⟨a,xs,rfl,h1,h2⟩:=r1.lst rel.sub
  obtain⟨ns,rfl,hl,hq⟩:=fin ps xs h2 e
  exact⟨a,ns,rfl,.inl h1,hl,hq⟩
 ·rename_i ps
  obtain⟨v,rfl,r1⟩:=Cg r
  obtain⟨a,xs,rfl,h1,h2⟩:=r1.tup rel.sub
  obtain⟨ns,rfl,hl,hq⟩:=fin ps xs h2 e
  exact⟨a,ns,rfl,.inr h1,hl,hq⟩
 ·cases e
def yE:eN K (ZaF K.K) lF:=by
 intro c F H σ ρ ps pv vs Q rel r e k
 unfold lF at e
 split at e
 ·rename_i ps
  obtain⟨v,rfl,r1⟩:=Cg r
  obtain⟨a,xs,rfl,h1,h2⟩:=r1.lst rel.sub
  obtain⟨m,em,rfl⟩:=Option.map_eq_some_iff.mp e
  obtain⟨ns,eb,hb⟩:=Option.bind_eq_some_iff.mp em
  cases ns with
  |nil=>cases hb
  |cons n ns=>
   cases hb
   obtain⟨z1,z2⟩:=foldl_min ns n
   refine⟨a,n::ns,rfl,by rw[<-ints_rep h2 eb];exact h1,by simp,λM m1 m2=>?_⟩
   have:M=ns.foldl min n:=Int.le_antisymm (m2 _ z1) (z2 M m1)
   rw[this]
   exact k _ F H rel (Same.refl _) (Same.refl _) Rep.int
 ·cases e
@[simp] theorem ZbV{i:Int}:FW [.int i]=some (.int i):=rfl
@[simp] theorem ZbW{b:Bool}:FW [.bl b]=some (.int (if b then 1 else 0)):=rfl
@[simp] theorem KY{ps:List PV}:iH [.lst ps]=((intsOf ps).bind (best max)).map .int:=rfl
@[simp] theorem tU{ps:List PV}:lF [.lst ps]=((intsOf ps).bind (best min)).map .int:=rfl
@[simp] theorem ZbX{f:Int->Int->Int}{n:Int}{ns:List Int}:best f (n::ns)=some (ns.foldl f n):=rfl
end
end P
namespace P
open PySem PySem.Spec PyProof.Rows L2 M2 M3 M4
def ZaG(K:PySem.W.Frag)(C:Addr):Bool:=PySem.W.plainGet K C Str.empty && PySem.W.hasDictIn K C && PySem.W.plainOver K C && PySem.W.findIn K (.ref C) "__setattr__" == some (some (.builtin "object.__setattr__"))
def ji{K:PySem.W.Frag}{C:Addr}(h:ZaG K C=true):Cls K C:=by
 unfold ZaG at h
 simp only[Bool.and_eq_true,beq_iff_eq] at h
 exact⟨h.1.1.1,h.1.1.2,h.1.2,h.2⟩
def MJ(K:PySem.W.Frag)(C:Addr)(m:Str)(f:Addr):Bool:=PySem.W.findIn K (.ref C) m== some (some (.ref f)) && PySem.W.isFn K (.ref f) && PySem.W.keepIn K (.ref f)
def jy{K:PySem.W.Frag}{C f:Addr}{m:Str}(h:MJ K C m f=true):Meth K C m f:=by
 unfold MJ at h
 simp only[Bool.and_eq_true,beq_iff_eq] at h
 exact⟨h.1.1,h.1.2,h.2⟩
def mkB(K:PySem.W.Frag)(C f:Addr):Bool:=PySem.W.makesIn K C && PySem.W.findIn K (.ref C) "__init__" == some (some (.ref f)) && PySem.W.isFn K (.ref f) && PySem.W.keepIn K (.ref C)
def oA{K:PySem.W.Frag}{C f:Addr}(h:mkB K C f=true):Mk K C f:=by
 unfold mkB at h
 simp only[Bool.and_eq_true,beq_iff_eq] at h
 exact⟨h.1.1.1,h.1.1.2,h.1.2,h.2⟩
section
variable{ρ:Ļ}{i n k:Nat}{C:String}{cs:List String}{f m:Str}{mv mo:M PV}{mi:MI}{ms:M (List Slot)}{mb:M Fl}{iy:List (String×MF)}{as:List Slot}{ns:List Str}{ps:List PV}
@[simp] theorem ZbY:iG i cs f mv ρ=(mv ρ).bind fun p ρ1=>match ρ1[i]? with
  |some (.rc C ns ps)=>if cs.contains C=true/\ns.length<1000 then .ok .nx (ρ1.set i (.rc C (putN f ns) (yr f p ns ps))) else .bad
  |_=>.bad:=rfl
@[simp] theorem ZbZ:bZ n k C mb as=if as.length+1=n then IR.of (mb (.rc C [] []::startP (k-1) as)) else .bad:=rfl
@[simp] theorem Zdv{C:String}:IR.of (.ok .nx (.rc C ns ps::ρ))=.ok ns ps:=rfl
@[simp] theorem Zb0:aY C mi ms ρ=(ms ρ).bind fun as ρ1=>match mi as with
  | .ok ns ps=>.ok (.ins C ns ps) ρ1
  | .exc x=>.exc x ρ1
  | .bad=>.bad:=rfl
@[simp] theorem Zdw:Ŏ cs f (.ins C ns ps)=if cs.contains C=true then(ns.zip ps).lookup f else none:=rfl
@[simp] theorem KZ:ou m iy mo ms ρ=(mo ρ).bind fun p ρ1=>match p with
  | .ins C ns ps=>match iy.lookup C with
    |some mf=>if ns.contains m=true then .bad else(ms ρ1).bind λas ρ2=>match mf (.sh (.ins C ns ps)::as) with
     | .ret r=>.ok r ρ2
     | .exc x=>.exc x ρ2
     | .bad=>.bad
    |none=>.bad
  |_=>.bad:=rfl
end
end P
namespace M3
open PySem PySem.Spec PyProof.Rows L2 M2
section
variable{X:Cx}{elt tg iter:Expr}{ifs:List Expr}{scope:Scope}{pos:Pos}{wi:TI}{g:TG}{tt:TT}{te:TE}
def K_{iv:Nat}{y:Str}{py spos:Pos}(hN:X.N.Nodup)(hiN:X.N[iv]?=some y)(hy:X.env.scope.names.lookup y=some .local)(hsw:swapsWith (.ListComp elt [⟨tg,iter,ifs,0⟩] scope pos) (some (.Name y py)) spos.line X.env=pure true)(N':List Str)(js:List Nat)(nl:Nat)(sc:Scope)(hsc:X.env.scope=sc)(hcalm:X.calm=true)
 (hi:PI X.ő tg iter wi)(hg:∀cl C s H fp,PG (cD X.ő N' scope cl C s H fp) tg g)(ht:∀cl C s H fp,CJ (cD X.ő N' scope cl C s H fp) ifs tt)(he:∀cl C s H fp,PE (cD X.ő N' scope cl C s H fp) elt te)
 (hcap:cT X.ő sc scope N' js)(hlen:js.length+nl=N'.length:=by rfl)
 (hk:scope.kind=.function:=by rfl)(hcell:∀y∈scope.names,y.2=.cell->scope.names.lookup y.1=some .cell:=by decide +kernel)(hnames:∀y∈scope.names,y.2=.local->scope.names.lookup y.1=some .local:=by decide +kernel)
 (hfree:∀y∈scope.names,y.2=.free->(sc.names.lookup y.1=some .cell\/sc.names.lookup y.1=some .free):=by decide +kernel)
 (hs:∀x,foldedSetIterable iter X.env x=pure x:=by intro _;rfl) :
 PS X.ő (.Assign [.Name y py] (.ListComp elt [⟨tg,iter,ifs,0⟩] scope pos) spos) (λD σ H=>Ej js nl wi g tt te σ H λv H'=>D.nx (σ.set iv (some v)) H'):=by
 intro pins s σ H D I h
 obtain⟨cl0,c1,c2,c3⟩:=dH (scope:=scope) (env:=X.ő.env) λy hy hf=>I.ok.has y.1 (by
  have:=hfree y hy hf
  rw[<-hsc] at this
  exact this)
 rw[exec_Assign_Name_used _ _ _ _ (show swapsWith _ _ _ X.ő.env=pure true from hsw)]
 refine wpAny_bind (wpAny_standAt (wpAny_bind ?_))
 show wpAny _ X.A (do let _ <-comprehension (.ListComp elt [⟨tg,iter,ifs,0⟩] scope pos) scope X.ő.env _ (newList []) false (eval iter X.ő.env) (some (assign (.Name y py) X.ő.env))) _ _ s
 refine wpAny_bind (wpAny_mono (wpAny_comprehension_free (Q:=λ_ s'=>SP X.ő pins D .next s') (use:=some (assign (.Name y py) X.ő.env)) rfl hs c1 hk hnames (ŉ (hi pins s σ H _ I h) λv s1 h1=>ŉ h1 λitv s2 h2=>?_)) (λ_ s' hq=>wpAny_pure (wpAny_pure hq)) λ_ _ e=>e)
 obtain⟨it,fp,tn,J,H2,e,I2,T,st2,f2,q2⟩:=h2
 subst e
 refine wpAny_newObj_type (iC (λh₁ hns₁ old Vf=>?_))
 dsimp only at hns₁ old Vf ⊢
 generalize Vg:s2.heap.push {cls:=.type "list",dict:=none,data:=.seq ([]:List Value).toArray}=bf at hns₁ old Vf ⊢
 have hD:H2 s2.heap.objs.size=none:=I2.hok.fresh (Nat.le_refl _)
 have I3:Inv X.ő pins σ (upd H2 s2.heap.objs.size (.lst [])) {s2 with heap:=bf}:=by
  rw[<-Vg]
  exact I2.laid (t':=s2.toks) (λb u e=>Heap.get?_push_of_some _ e) (Nat.le_refl _) ⟨Nat.zero_le _,[],0,.nil,Heap.get?_push_size _ rfl⟩
 have JV:∀b∈fp,b<s2.heap.objs.size:=λb hb=>by
  obtain⟨o,ho,_⟩:=T.obj 0 _ st2 b hb
  exact Heap.lt_size ho
 have Vh:bf.objs.size=s2.heap.objs.size+1:=by rw[<-Vg,Heap.size_push]
 have f3:∀b∈fp,cC X.ő pins (upd H2 s2.heap.objs.size (.lst [])) b:=λb hb=>by
  obtain⟨g0,g1⟩:=f2 b hb
  exact⟨by rw[Ė (Nat.ne_of_lt (JV b hb))];exact g0,g1⟩
 have B:=Ek (X:=X.ő) (cl:=cl0) hcell c2 c3 (λx c e=>by
  obtain⟨v,o,ho,_⟩:=I3.cell x c e
  exact Heap.lt_size ho) Vf
 generalize cellsFrom (bf.objs.size+1) scope.names cl0=cl at B ⊢
 obtain⟨W,⟨m0,w0⟩,turn⟩:=q2 s2.heap.objs.size hD
 have I4:=qJ (X:=X.ő) (N':=N') (js:=js) (nl:=nl) (sc:=sc) (scope:=scope) (cl:=cl) (fp:=fp) (h':=h₁) (tk:=s2.toks) hsc hk hcap hlen B I3 f3 (λb hb=>by show b<bf.objs.size;rw[Vh];exact Nat.lt_succ_of_lt (JV b hb)) hns₁ old
 have st4:tn 0 h₁:= T.keep 0 _ _ st2 λb hb o e=>old b o (by rw[<-Vg];exact Heap.get?_push_of_some _ e)
 have fr4:∀b∈fp,(upd H2 s2.heap.objs.size (.lst [])) b=none:=λb hb=>(f3 b hb).1
 have stat:∀{H':Hp},(∀b∈fp,H' b=none)->∀b∈fp,cC (cD X.ő N' scope cl bf.objs.size {s2 with heap:=bf} (upd H2 s2.heap.objs.size (.lst [])) fp) [] H' b:=fun{H'} hn b hb=>by
  obtain⟨g0,g1,g2,g3,g4,g5⟩:=f3 b hb
  refine⟨hn b hb,Nat.ne_of_lt (by show b<bf.objs.size;rw[Vh];exact Nat.lt_succ_of_lt (JV b hb)),λz=>?_,.inl hb,λx c e=>by
   rcases B.at_ x c e with⟨q,_⟩|⟨q,_⟩
   ·exact g4 x c q
   ·exact Nat.ne_of_gt (Nat.lt_trans (by show b<bf.objs.size;rw[Vh];exact Nat.lt_succ_of_lt (JV b hb)) q),λp hp=>absurd hp (by simp[cD])⟩
  rcases List.mem_cons.mp (I3.m_ b z) with z|z
  ·exact g1 z
  ·exact g2 z
 have loop:∀s₃:Shared,s₃= {s2 with heap:=h₁}->
  codeAny (model X.prog X.w) X.A (.compLoop (.ListComp elt [⟨tg,iter,ifs,0⟩] scope pos) 0 (.ref it) (.ref s2.heap.objs.size) (compEnvC scope cl bf.objs.size X.ő.env))
   (compPost (model X.prog X.w) X.A X.ő.xe (some (assign (.Name y py) X.ő.env)) (λ_ s'=>SP X.ő pins D .next s') (.ref s2.heap.objs.size) bf.objs.size) s₃:= by
  rintro s₃ rfl
  refine jw (λn s'=>∃i σ' H',Inv (cD X.ő N' scope cl bf.objs.size {s2 with heap:=bf} (upd H2 s2.heap.objs.size (.lst [])) fp) [] σ' H' s'/\tn i s'.heap/\(∀b∈fp,H' b=none)/\W i n σ' H') ?_ m0 ⟨0,_,_,I4,st4,fr4,w0⟩
  rintro n s5 ⟨i,σ5,H5,I5,Jr,Ue,w5⟩
  rcases turn i n σ5 H5 w5 with⟨stop,qn⟩|⟨go,N,hN,step⟩
  ·refine ŉ (T.done (cD X.ő N' scope cl bf.objs.size {s2 with heap:=bf} (upd H2 s2.heap.objs.size (.lst [])) fp) rfl rfl rfl hcalm i [] s5 σ5 H5 (λ_ _=>False) I5 (stat Ue) Jr stop) λr s6 ⟨hr,I6⟩=>?_
   subst hr
   obtain⟨m,hm,_⟩:=I6.loc
   have I7:Inv X.ő pins σ H5 s6:=nA (h':=s6.heap) I3 f3 I6 (λb u hb e=>e)
   have hCL:bf.objs.size≠X.ő.env.locals:=Nat.ne_of_gt I3.lt
   have hcC:∀x c,X.ő.env.cells.lookup x=some c->c≠bf.objs.size:=λx c e z=>by
    obtain⟨v,o,ho,_⟩:=I3.cell x c e
    exact absurd (Heap.lt_size ho) (by rw[z];exact Nat.lt_irrefl _)
   have hpC:∀p∈X.ő.pn++pins,p.1≠bf.objs.size:=λp hp z=>by
    have:=Heap.lt_size (I3.pin p hp).1
    rw[z] at this
    exact Nat.lt_irrefl _ this
   have hnC:H5 bf.objs.size=none:=I6.free
   refine wpAny_assign_Name (qw (X:=X.ő) (i:=iv) I7 hN hiN (.inl hy) (v:=.ref s2.heap.objs.size) rfl (λs8 I8 ⟨a8,sb8,ha8⟩=>?_) (.inr hy))
   have ne8:bf.objs.size≠a8:=by
    rcases ha8 with rfl|ha8
    ·exact hCL
    ·exact λz=>hcC _ _ ha8 z.symm
   refine⟨m,hm.sameBut sb8 ne8,λh' hs'=>⟨_,H5,?_,qn⟩⟩
   have kp:∀b o,b≠bf.objs.size->s8.heap.get? b=some o->h'.get? b=some o:=λb o hb e=>hs'.extBut b o hb e
   have kp':∀b o,b∉[bf.objs.size]->s8.heap.get? b=some o->h'.get? b=some o:=λb o hb e=>kp b o (λz=>hb (by rw[z];exact List.mem_cons_self)) e
   refine I8.call' (ch:=[bf.objs.size]) (s':={s8 with heap:=h'}) rfl ⟨λb o e _ _ hx=>kp' b o hx e,λb o e _ _ hx=>⟨o.slots,kp' b o hx e⟩,λb o _ n _=>n,λb o e hx=>⟨o,kp' b o hx e⟩,λ_ _ q=>q,λ_ _ _ q=>q,λ_ ps q=>q⟩ (zT I8.hok hnC kp) I8.bare λb hb=>?_
   cases List.mem_singleton.mp hb
   exact⟨.inr I3.sz,hCL,hcC,hpC⟩
  ·refine ŉ (T.item (cD X.ő N' scope cl bf.objs.size {s2 with heap:=bf} (upd H2 s2.heap.objs.size (.lst [])) fp) rfl rfl rfl hcalm i [] s5 σ5 H5 (λ_ _=>False) I5 (stat Ue) Jr go) λr s6 ⟨u,hr,h6⟩=>?_
   subst hr
   refine ŉ h6 λ_ s7 ⟨x,H7,I7,r7,y7,Vi,fr7⟩=>?_
   have I7':=I7.pinned (stat fr7) (T.obj _ _ Vi)
   have again:∀{s8:Shared} {σ8:L2.St} {H8:Hp},Inv (cD X.ő N' scope cl bf.objs.size {s2 with heap:=bf} (upd H2 s2.heap.objs.size (.lst [])) fp) ([]++jN fp s7.heap) σ8 H8 s8->
    Inv (cD X.ő N' scope cl bf.objs.size {s2 with heap:=bf} (upd H2 s2.heap.objs.size (.lst [])) fp) [] σ8 H8 s8/\tn (i+1) s8.heap/\∀b∈fp,H8 b=none:=fun{s8 σ8 H8} I8=>by
    refine⟨I8.cQ,T.keep _ _ _ Vi λb hb o e=>(I8.pin (b,o) (List.mem_append_right _ (List.mem_append_right _ (š hb e)))).1,λb hb=>?_⟩
    obtain⟨o,e,d⟩:=T.obj _ _ Vi b hb
    exact(I8.pin (b,o) (List.mem_append_right _ (List.mem_append_right _ (š hb e)))).2.1
   refine ŉ (hg cl _ _ _ fp _ s7 σ5 H7 x u _ I7' r7 (step x H7 y7)) λ_ s8 ⟨σ8,H8,I8,q8⟩=>?_
   refine ŉ (ht cl _ _ _ fp _ s8 σ8 H8 _ I8 q8) λc s9 ⟨H9,I9,q9⟩=>?_
   cases c with
   |false=>
    rw[if_neg Bool.false_ne_true] at q9 ⊢
    obtain⟨m',hm',w9⟩:=hN _ _ q9
    obtain⟨a1,a2,a3⟩:=again I9
    exact⟨m',hm',i+1,σ8,H9,a1,a2,a3,w9⟩
   |true=>
    rw[if_pos rfl] at q9 ⊢
    refine ŉ (he cl _ _ _ fp _ s9 σ8 H9 _ I9 q9) λyv sO ⟨y,H10,I10,r10,ys,e10,l10,w10⟩=>?_
    refine ŉ (ń _ sO σ8 H10 (.ref s2.heap.objs.size) [y] (.ref s2.heap.objs.size) [yv] (λ_ Vj=>N σ8 Vj) I10 rfl (.cons r10 .nil) ⟨_,ys,y,rfl,rfl,e10,l10,w10⟩) λ_ s11 ⟨v11,Vj,I11,_,w11⟩=>?_
    obtain⟨a1,a2,a3⟩:=again I11
    obtain⟨m',hm',w11⟩:=hN _ _ w11
    exact⟨m',hm',i+1,σ8,Vj,a1,a2,a3,w11⟩
 exact codeAny_compStart_list (loop _ rfl) (T.self _ 0 _ _ _ st4 (loop _ rfl))
end
end M3
namespace P
open PySem PySem.Spec PyProof.Rows L2 M2 M3 M4
section
variable{X:Cx}{cm:String->Addr}{E:L2.St->XK}{elt tg iter:Expr}{ifs:List Expr}{scope:Scope}{pos:Pos}{mi:M (List PV)}{g:Tg}{mt:M Bool}{me:M PV}
theorem PS.ő{st:Stmt}{t:TS}(h:PS X.ő st t):PS X st t:=λpins s σ H D I hw=>
 wpAny_mono (h pins s σ H D (I.wish _) hw) (λ_ _ q=>q.dF) λ_ _ z=>False.elim z
def VL{i:Nat}{y:Str}{py spos:Pos}(hN:X.N.Nodup)(hi0:X.N[i]?=some y)(hy:X.env.scope.names.lookup y=some .local)(N':List Str)(js:List Nat)(nl:Nat)(sc:Scope)(hsc:X.env.scope=sc)(hcalm:X.calm=true)
 (hi:PI X.ő tg iter (tI (kk X cm) E mi))(hg:∀cl C s H fp,PG (cD X.ő N' scope cl C s H fp) tg (tT (kk X cm) g))(ht:∀cl C s H fp,CJ (cD X.ő N' scope cl C s H fp) ifs (tB (kk X cm) EF mt))(he:∀cl C s H fp,PE (cD X.ő N' scope cl C s H fp) elt (tV (kk X cm) EF me))
 (hcap:cT X.ő sc scope N' js)(hlen:js.length+nl=N'.length:=by rfl)
 (hk:scope.kind=.function:=by rfl)(hcell:∀y∈scope.names,y.2=.cell->scope.names.lookup y.1=some .cell:=by decide +kernel)(hnames:∀y∈scope.names,y.2=.local->scope.names.lookup y.1=some .local:=by decide +kernel)
 (hfree:∀y∈scope.names,y.2=.free->(sc.names.lookup y.1=some .cell\/sc.names.lookup y.1=some .free):=by decide +kernel)
 (hs:∀x,foldedSetIterable iter X.env x=pure x:=by intro _;rfl)(hsw:swapsWith (.ListComp elt [⟨tg,iter,ifs,0⟩] scope pos) (some (.Name y py)) spos.line X.env=pure true:=by rfl) :
 PS X (.Assign [.Name y py] (.ListComp elt [⟨tg,iter,ifs,0⟩] scope pos) spos) (tS (kk X cm) E (Ĥ i (Ŀ js nl mi g mt me))):=
 PS.wk (PS.ő (K_ hN hi0 hy hsw N' js nl sc hsc hcalm (Mq hi) hg ht he hcap hlen hk hcell hnames hfree hs)) fun D σ H ⟨c,F,ρ,rel,h⟩=>vD ⟨c,F,ρ,rel,ŧ.bind h fun r ρ1 v F1 H1 ē s1 q h1=>by
   cases r with
   |sh p=>exact h1 _ F1 H1 (ē.put rfl ⟨v,rfl,q⟩) (Same.refl _)
   |ow ps=>
    obtain⟨a,vs,rfl,q1,q2,q3,q4,q5⟩:=q
    exact h1 _ F1 H1 (ē.Ke ⟨a,vs,rfl,q1,q2,q3,q5⟩ λ_ z=>V.ref.inj z▸q4) (Same.refl _)
   |ot ps qs rs=>
    obtain⟨p,a,xs,vs,ys,rfl,q0,qx,q1,q2,q3,q4,q5,q6⟩:=q
    exact h1 _ F1 H1 (ē.Ke (s:=.ot ps qs rs) ⟨p,a,xs,vs,ys,rfl,q0,qx,q1,q2,q3,q5,q6⟩ λ_ z=>mW (ps:=ps) (qs:=qs) (rs:=rs) z ⟨p,xs,ys,rfl,q0,qx.length.symm⟩▸q4) (Same.refl _)
   |bn t ps qs rows=>exact h1 _ F1 H1 (ē.Zan q) (Same.refl _)⟩
end
end P
namespace P
open PySem PySem.Spec PyProof.Rows L2 M2 M3 M4
section
variable{X:Cx}{cm:String->Addr}{K:KK}{E:L2.St->XK}{o e:Expr}{es:List Expr}{name:Str}{apos cpos:Pos}{id:String}{r:V->List V->Hp->VK->Prop}{f:PV->List PV->Option PV}{mo:M PV}{ms:M (List PV)}
end
end P
namespace P
open PySem PySem.Spec PyProof.Rows L2 M2 M3 M4
section
variable{X:Cx}{pins:List (Addr×Obj)}{σ:L2.St}{H:Hp}{s:Shared}{h':Heap}
end
section
variable{X:Cx}{elts:List Expr}{k:Nat}{tp:Pos}
end
def mLs(m:M PV):M (List PV):=λρ=>(m ρ).bind λp ρ1=>match p with
 | .lst ps=>.ok ps ρ1
 |_=>.bad
section
variable{X:Cx}{cm:String->Addr}{E:L2.St->XK}{e:Expr}{m:M PV}
@[simp] theorem ZdW{ρ:Ļ}:mLs m ρ=(m ρ).bind fun p ρ1=>match p with
  | .lst ps=>.ok ps ρ1
  |_=>.bad:=rfl
end
end P
namespace P
open PySem PySem.Spec PyProof.Rows L2 M2 M3 M4
def ZaH{X:Cx}:PIp X .BitOr (ipI λi j=>Builtin.bitOr i j):=by
 intro pins s σ H x y v u Q I r1 r2 h
 obtain⟨i,j,e1,e2,q⟩:=h
 subst e1;subst e2
 obtain⟨t,rfl⟩:=r1
 obtain⟨t',rfl⟩:=r2
 exact ior_int ⟨.int _,H,I.tok _,⟨_,rfl⟩,q⟩
def vN(i:Nat)(m:M PV):M Fl:=λρ=>match ρ[i]? with
 |some (.sh (.int _))=>(m ρ).bind λq ρ1=>match ρ1[i]?,q with
  |some (.sh (.int k)),.int j=>.ok .nx (ρ1.set i (.sh (.int (Builtin.bitOr k j))))
  |_,_=>.bad
 |_=>.bad
@[simp] theorem Zb1{i:Nat}{m:M PV}{ρ:Ļ}:vN i m ρ=(match ρ[i]? with
  |some (.sh (.int _))=>(m ρ).bind λq ρ1=>match ρ1[i]?,q with
   |some (.sh (.int k)),.int j=>.ok .nx (ρ1.set i (.sh (.int (Builtin.bitOr k j))))
   |_,_=>.bad
  |_=>.bad):=rfl
section
variable{X:Cx}{cm:String->Addr}{E:L2.St->XK}{e a b:Expr}{m ma mb:M PV}{pos:Pos}
def tW{K:KK}{F:Hp}{i:Int}{v:V}(h:Rep K F (.int i) v):v=.int i:=by unfold Rep at h;exact h
def FZ{i:Nat}{x:Str}{pos':Pos}(hN:X.N.Nodup)(hi:X.N[i]?=some x)(hx:Loc X.env.scope x)(he:PE X e (tV (kk X cm) E m))(hf:X.fn x=true\/X.env.scope.names.lookup x=some .local:=by first|exact .inl rfl|exact .inr rfl|assumption) :
 PS X (.AugAssign (.Name x pos') .BitOr e pos) (tS (kk X cm) E (vN i m)):=PS.wk (Ub hN hi hx he ZaH hf) λD σ H ⟨c,F,ρ,rel,h⟩=>by
 unfold vN at h
 cases e1:ρ[i]? with
 |none=>rw[e1] at h;exact h.elim
 |some sl=>
  rw[e1] at h
  cases sl with
  |sh p=>
   cases p with
   |int k0=>
    obtain⟨v,h1,h2⟩:=rel.slot i _ e1
    cases tW h2
    refine⟨.int k0,at_of h1,c,F,ρ,rel,ŧ.bind h λq ρ1 u F1 H1 ē s1 rq h1'=>?_⟩
    cases e2:ρ1[i]? with
    |none=>simp only[e2] at h1';exact h1'.elim
    |some sl2=>
     simp only[e2] at h1'
     cases sl2 with
     |sh p2=>
      cases p2 with
      |int k=>
       cases q with
       |int j=>
        obtain⟨v2,w1,w2⟩:=ē.slot i _ e2
        cases tW w2
        rw[h1] at w1
        cases w1
        cases tW rq
        exact⟨k0,j,rfl,rfl,h1' _ F1 H1 (ē.put rfl ⟨_,rfl,Rep.int⟩) (Same.refl _)⟩
       |_=>exact h1'.elim
      |_=>exact h1'.elim
     |_=>exact h1'.elim
   |_=>exact h.elim
  |_=>exact h.elim
end
section
variable{X:Cx}{K:KK}
end
end P
namespace P
open PySem PySem.Spec PyProof.Rows L2 M2 M3 M4
section
variable{prog:Program}{w:World}{A:Around}{E:Value->Shared->Prop}{s:Shared}
end
section
variable{prog:Program}{w:World}{A:Around}{E:Value->Shared->Prop}{s:Shared}
end
section
variable{prog:Program}{w:World}{A:Around}{E:Value->Shared->Prop}{s:Shared}
end
def MK(b:Bool)(h:Heap)(it l:Addr)(i:Nat):Prop:=if b=true then h.IsTupleIter it l i else h.IsListIter it l i
def nmB(b:Bool):String:=if b=true then "tuple_iterator" else "list_iterator"
def MK.ex{b:Bool}{h:Heap}{it l:Addr}{i:Nat}(x:MK b h it l i):∃o,h.get? it=some o/\o.cls=.type (nmB b)/\o.data=.fields #[.ref l,.int i 0]:=by
 cases b with
 |true=>exact x
 |false=>exact x
section
variable{X:Cx}{pins:List (Addr×Obj)}{σ:L2.St}{H:Hp}{s:Shared}
end
section
variable{prog:Program}{w:World}{A:Around}{E:Value->Shared->Prop}{s:Shared}
end
section
variable{X:Cx}{elts:List Expr}{k:Nat}{tp:Pos}
end
section
variable{X:Cx}{cm:String->Addr}{E:L2.St->XK}{e e2:Expr}
end
end P
namespace P
open PySem PySem.Spec PyProof.Rows L2 M2 M3 M4
def ZaI(K:PySem.W.Frag)(neg:Bool):R2:=λx y H Q=>∃d es a xs,Rp K H d x/\y=.ref a/\(Ś K H a xs\/dD K H a xs)/\jT K H es xs/\d.canLay0=true/\PyData.canLayAll0 es=true/\d.depth<=60/\Q (.bl (if neg then !(es.any λe=>PyData.eqv e d) else es.any λe=>PyData.eqv e d)) H
open Classical in
noncomputable def Jg(h:Heap)(d:PyData)(y:Value):Bool:=if ∃e as,Reads h y e as/\e.canLay0=true/\PyData.eqv e d=true then true else false
def Ga{h:Heap}{d e:PyData}{y:Value}{as:List Addr}(r:Reads h y e as)(hc:e.canLay0=true):Jg h d y=PyData.eqv e d:=by
 unfold Jg
 cases q:PyData.eqv e d with
 |true=>rw[if_pos ⟨e,as,r,hc,q⟩]
 |false=>
  rw[if_neg]
  rintro ⟨e',as',r',hc',q'⟩
  have:=SeqAt.Reads.unique e e' y as as' hc r r'
  subst this
  rw[q] at q'
  cases q'
theorem tX{h:Heap}{d:PyData}:∀{us:List Value} {es:List PyData} {as:List Addr},ReadsAll h us es as->PyData.canLayAll0 es=true->us.any (Jg h d)=es.any λe=>PyData.eqv e d
 |_,_,_,.nil,_=>rfl
 |_,_,_,.cons r rs,hc=>by
  unfold PyData.canLayAll0 at hc
  rw[Bool.and_eq_true] at hc
  rw[List.any_cons,List.any_cons,Ga r hc.1,tX rs hc.2]
theorem tY{A:Around}{s:Shared}{d:PyData}{v:Value}{bs:List Addr}(rv:Reads s.heap v d bs)(hd:d.canLay0=true)(hu:A.units+d.depth<cLine):∀{us:List Value} {es:List PyData} {as:List Addr},ReadsAll s.heap us es as->PyData.canLayAll0 es=true->∀u∈us,SeqAt.EqAt A s u v (Jg s.heap d u)
 |_,_,_,.nil,_=>λu hu=>by cases hu
 |_,_,_,.cons r rs,hc=>λu hm=>by
  unfold PyData.canLayAll0 at hc
  rw[Bool.and_eq_true] at hc
  rcases List.mem_cons.mp hm with rfl|hm
  ·rw[Ga r hc.1]
   exact SeqAt.eqAt_reads _ _ A s _ _ _ _ r rv hc.1 hd (by omega)
  ·exact tY rv hd hu rs hc.2 u hm
section
variable{X:Cx}
def Cj(hu:X.A.units+64<cLine):ť X (compareOp .NotIn) (ZaI X.K true):=by
 intro pins s σ H x y v u Q I rx ry h
 obtain⟨d,es,a,xs,h1,rfl,hq,h3,h4,h5,h6,q⟩:=h
 cases ry
 obtain⟨as,ra⟩:=Rp.reads I d x v h1 rx
 have hu1:X.A.in1.units+d.depth<cLine:=by
  have:X.A.in1.units=X.A.units+1:=rfl
  omega
 rcases hq with hq|hq
 ·obtain⟨its,r,pl,hz⟩:=I.list hq
  obtain⟨bs,rb⟩:=jT.reads I es xs its h3 r
  refine SeqAt.notIn_listAt (Jg s.heap d) pl.isList (λw hw=>tY ra h4 hu1 rb h5 w (by simpa using hw)) ⟨.bl _,H,I,rfl,?_⟩
  rw[show its.toArray.any (Jg s.heap d)=its.any (Jg s.heap d) by simp,tX rb h5]
  exact q
 ·obtain⟨its,r,pl,hz⟩:=I.tuple hq
  obtain⟨bs,rb⟩:=jT.reads I es xs its h3 r
  refine SeqAt.notIn_tupleAt (Jg s.heap d) pl (λw hw=>tY ra h4 hu1 rb h5 w (by simpa using hw)) ⟨.bl _,H,I,rfl,?_⟩
  rw[show its.toArray.any (Jg s.heap d)=its.any (Jg s.heap d) by simp,tX rb h5]
  exact q
end
def inD(neg:Bool)(p q:PV):Option PV:=match q with
 | .lst ps=>if Ř p && Ť ps && decide (dep p<=60) then some (.bl (if neg then !(ps.any λy=>eqB y p) else ps.any λy=>eqB y p)) else none
 | .tup ps=>if Ř p && Ť ps && decide (dep p<=60) then some (.bl (if neg then !(ps.any λy=>eqB y p) else ps.any λy=>eqB y p)) else none
 |_=>none
theorem tZ{p:PV}(h:Ř p=true):∀{ps:List PV},Ť ps=true->(dh ps).any (λe=>PyData.eqv e (toD p))=ps.any λy=>eqB y p
 | [],_=>rfl
 |y::ps,hp=>by
  unfold Ť at hp
  rw[Bool.and_eq_true] at hp
  unfold dh
  rw[List.any_cons,List.any_cons,tK y p hp.1 h,tZ h hp.2]
def VN{K:KK}{neg:Bool}:jf K (ZaI K.K neg) (inD neg):=by
 intro c F H σ ρ p q pv v u Q rel r1 r2 e k
 unfold inD at e
 split at e
 ·rename_i ps
  split at e
  ·rename_i hc
   rw[Bool.and_eq_true,Bool.and_eq_true,decide_eq_true_eq] at hc
   cases e
   obtain⟨a,xs,rfl,h1,h2⟩:=r2.lst rel.sub
   refine⟨toD p,dh ps,a,xs,g_ rel.sub hc.1.1 r1,rfl,.inl h1,jT.same rel.sub _ _ (gZ ps xs hc.1.2 h2),dU p hc.1.1,gn ps hc.1.2,by rw[dW];exact hc.2,?_⟩
   rw[tZ hc.1.1 hc.1.2]
   exact k _ F H rel (Same.refl _) (Same.refl _) Rep.bl
  ·cases e
 ·rename_i ps
  split at e
  ·rename_i hc
   rw[Bool.and_eq_true,Bool.and_eq_true,decide_eq_true_eq] at hc
   cases e
   obtain⟨a,xs,rfl,h1,h2⟩:=r2.tup rel.sub
   refine⟨toD p,dh ps,a,xs,g_ rel.sub hc.1.1 r1,rfl,.inr h1,jT.same rel.sub _ _ (gZ ps xs hc.1.2 h2),dU p hc.1.1,gn ps hc.1.2,by rw[dW];exact hc.2,?_⟩
   rw[tZ hc.1.1 hc.1.2]
   exact k _ F H rel (Same.refl _) (Same.refl _) Rep.bl
  ·cases e
 ·cases e
end P
namespace P
open PySem PySem.Spec PyProof.Rows L2 M2 M3 M4
def ig{x:Int}{n:Nat}(h1: -(2 ^ n:Int)<x)(h2:x<2 ^ n):bits x<=n:=by
 refine intBits_le_iff.mpr ?_
 have e:((2 ^ n:Nat):Int)=(2:Int) ^ n:=by simp
 have:((x.natAbs:Nat):Int)<((2 ^ n:Nat):Int):=by rw[e];omega
 omega
def ZaJ{x y:Int}(h:y≠0)(h1: -18446744073709551616<y)(h2:y<18446744073709551616):eO x y=true:=qQ h (Nat.le_trans (ig (n:=64) (by omega) (by omega)) (by decide))
@[simp] theorem Zb2{x:Int}{n:Nat}(h:n≠0)(h2:n<18446744073709551616):eO x (no_index (OfNat.ofNat n):Int)=true:=by
  have e:(no_index (OfNat.ofNat n):Int)=(n:Int):=rfl
  rw[e]
  exact ZaJ (by omega) (by omega) (by omega)
@[simp] theorem ZaK{x:Int}{n:Nat}(h:n<18446744073709551616):ŀ x (no_index (OfNat.ofNat n):Int)=true:=by
  have e:(no_index (OfNat.ofNat n):Int)=(n:Int):=rfl
  rw[e]
  exact mul_r (by omega) (by omega)
@[simp] theorem ZaL{x:Int}{n:Nat}(h:n<18446744073709551616):ŀ (no_index (OfNat.ofNat n):Int) x=true:=by
  have e:(no_index (OfNat.ofNat n):Int)=(n:Int):=rfl
  rw[e]
  exact ſ (by omega) (by omega)
@[simp] theorem Zb3{m n:Nat}(h:m<18446744073709551616)(h2:n≤1000000):vG (no_index (OfNat.ofNat m):Int) (no_index (OfNat.ofNat n):Int)=true:=by
  have e:(no_index (OfNat.ofNat m):Int)=(m:Int):=rfl
  have e2:(no_index (OfNat.ofNat n):Int)=(n:Int):=rfl
  rw[e,e2]
  unfold vG
  simp
  omega
@[simp] theorem ZaM{x:Int}{n:Nat}:x.fdiv (no_index (OfNat.ofNat n):Int)=x / (no_index (OfNat.ofNat n):Int):=Int.fdiv_eq_ediv_of_nonneg x (Int.natCast_nonneg n)
@[simp] theorem ZaN{x:Int}{n:Nat}:x.fmod (no_index (OfNat.ofNat n):Int)=x % (no_index (OfNat.ofNat n):Int):=Int.fmod_eq_emod_of_nonneg x (Int.natCast_nonneg n)
end P
namespace P
open PySem PySem.Spec PyProof.Rows L2 M2 M3 M4
def add_l{xs ys:List PV}(h:xs.length+ys.length<=16777216):Ĝ (.lst xs) (.lst ys)=some (.ow (xs++ys)):=by
 unfold Ĝ
 simp[h]
def VP{x y z w:Int}:eqB (.tup [.int x,.int y]) (.tup [.int z,.int w])=(decide (x=z) && decide (y=w)):=by
 rw[eqB.eq_def]
 show dR [.int x,.int y] [.int z,.int w]=_
 rw[dR.eq_def]
 show(eqB (.int x) (.int z) && dR [.int y] [.int w])=_
 rw[dR.eq_def]
 show(eqB (.int x) (.int z) && (eqB (.int y) (.int w) && dR [] []))=_
 have h1:eqB (.int x) (.int z)=decide (x=z):=by rw[eqB.eq_def];rfl
 have h2:eqB (.int y) (.int w)=decide (y=w):=by rw[eqB.eq_def];rfl
 have h3:dR [] []=true:=by rw[dR.eq_def]
 rw[h1,h2,h3,Bool.and_true]
mutual
theorem oE:∀p:PV,Ř p=true->eqB p p=true
 | .non,_=>by unfold eqB;rfl
 | .bl b,_=>by unfold eqB;simp
 | .int i,_=>by unfold eqB;simp
 | .str x,_=>by unfold eqB;simp
 | .lst xs,h=>by unfold Ř at h;unfold eqB;exact jZ xs h
 | .tup xs,h=>by unfold Ř at h;unfold eqB;exact jZ xs h
 | .ins _ _ _,h=>by simp[Ř] at h
 | .xc _ _ _,h=>by simp[Ř] at h
 | .ty _,h=>by simp[Ř] at h
 | .cls _,h=>by simp[Ř] at h
theorem jZ:∀ps:List PV,Ť ps=true->dR ps ps=true
 | [],_=>by unfold dR;rfl
 |p::ps,h=>by
  unfold Ť at h
  rw[Bool.and_eq_true] at h
  unfold dR
  rw[oE p h.1,jZ ps h.2]
  rfl
end
def qU{p:PV}(h:Ř p=true)(hd:dep p<=60):ł p p=some (.bl true):=by
 unfold ł lY
 rw[h,oE p h,decide_eq_true (by omega:min (dep p) (dep p)<=60)]
 rfl
def Ck{p:PV}(h:Ř p=true)(hd:dep p<=60):dX p p=some (.bl false):=by
 unfold dX lY
 rw[h,oE p h,decide_eq_true (by omega:min (dep p) (dep p)<=60)]
 rfl
def gq{a b:Str}(ha:PyData.strOk a=true)(hb:PyData.strOk b=true):ł (.str a) (.str b)=some (.bl (decide (a=b))):=by
 have h:eqB (.str a) (.str b)=decide (a=b):=by unfold eqB;rfl
 unfold ł lY
 rw[show Ř (.str a)=true by unfold Ř;exact ha,show Ř (.str b)=true by unfold Ř;exact hb,h]
 rfl
end P
namespace P
open PySem PySem.Spec PyProof.Rows L2 M2 M3 M4
section
variable{g:Tg}{mb:M Fl}{mt:M Bool}{me:M PV}
theorem bA{α β:Type}(c:α->PV)(step:β->α->β)(J:β->Ļ->Prop):∀(xs:List α),(∀x∈xs,∀b ρ,J b ρ->∃ρ1 ρ2,g (c x) ρ=some ρ1/\mb ρ1=.ok .nx ρ2/\J (step b x) ρ2)->∀b ρ,J b ρ->∃ρ',forL g mb (xs.map c) ρ=.ok .nx ρ'/\J (xs.foldl step b) ρ'
 | [],_,b,ρ,h=>⟨ρ,rfl,h⟩
 |x::xs,hs,b,ρ,h=>by
  obtain⟨ρ1,ρ2,h1,h2,h3⟩:=hs x (by simp) b ρ h
  obtain⟨ρ',e,h4⟩:=bA c step J xs (λy hy=>hs y (List.mem_cons_of_mem _ hy)) (step b x) ρ2 h3
  refine⟨ρ',?_,h4⟩
  rw[List.map_cons,forL,h1]
  dsimp only
  rw[h2]
  exact e
theorem Ū{α:Type}(c f:α->PV)(q:α->Bool)(I:Ļ->Prop):∀(xs:List α) (ρ:Ļ) (acc:List PV),I ρ->acc.length+xs.length<=16777216->
 (∀x∈xs,∀ρ,I ρ->∃ρ1 ρ2,g (c x) ρ=some ρ1/\mt ρ1=.ok (q x) ρ2/\(q x=false->I ρ2)/\(q x=true->∃ρ3,me ρ2=.ok (f x) ρ3/\I ρ3))->Ĺ g mt me (xs.map c) ρ acc=some (acc++(xs.filter q).map f)
 | [],ρ,acc,_,_,_=>by simp[Ĺ]
 |x::xs,ρ,acc,h,hz,hs=>by
  obtain⟨ρ1,ρ2,h1,h2,h3,h4⟩:=hs x List.mem_cons_self ρ h
  cases e:q x with
  |true=>
   obtain⟨ρ3,h5,h6⟩:=h4 e
   rw[e] at h2
   rw[List.map_cons,Ĺ,h1]
   dsimp only
   rw[h2]
   dsimp only
   rw[h5]
   dsimp only
   rw[if_pos (by simp at hz;omega),Ū c f q I xs ρ3 (acc ++ [f x]) h6 (by simp at hz ⊢;omega) λy hy=>hs y (List.mem_cons_of_mem _ hy)]
   simp[e]
  |false=>
   rw[e] at h2
   rw[List.map_cons,Ĺ,h1]
   dsimp only
   rw[h2]
   dsimp only
   rw[Ū c f q I xs ρ2 acc (h3 e) (by simp at hz ⊢;omega) λy hy=>hs y (List.mem_cons_of_mem _ hy)]
   simp[e]
end
end P
namespace P
open PySem PySem.Spec PyProof.Rows L2 M2 M3 M4
def Zdx(K:PySem.W.Frag)(n:Nat)(t:Dd):TG:=λv σ H Q=>∃a xs,v=.ref a/\Ś K H a xs/\xs.length=n/\t xs σ H Q
section
variable{X:Cx}{cm:String->Addr}{pos:Pos}
def VR{es:List Expr}{k:Nat}{t:Dd}{n:Nat}(hc:X.calm=true)(h:wO X es t)
 (hn:(assignEach es X.env).length=n:=by rfl)(hst:(assignEach es X.env).findIdx? (·.1)=none:=by rfl):PG X (.Tuple es k pos) (Zdx X.K n t):=by
 intro pins s σ H v u Q I r hw
 obtain⟨a,xs,e1,hq,hl,hw⟩:=hw
 subst e1
 cases r
 obtain⟨its,rv,ht,hz⟩:=I.list hq
 rw[assign_Tuple]
 refine wpAny_bind (wpAny_standAt ?_)
 unfold unpack
 rw[show(assignEach es X.env).length=its.toArray.size by simp[hn,<-hl,rv.length],hst]
 refine wpAny_bind (wpAny_holding (PySem.W.kun_itemsOf (I.ok.hd hc) ht.isList λh' hx=>?_))
 have I1:Inv X pins σ H {s with heap:=h'}:=I.kept (t':=s.toks) λb o e=>hx b o (Nat.ne_of_lt (Heap.lt_size e)) e
 exact h pins _ σ H xs _ Q I1 (by simpa using rv) hw
def gS(n:Nat)(gs:CN):Tg:=λp ρ=>match p with
 | .tup ps=>if ps.length=n then gs ps ρ else none
 | .lst ps=>if ps.length=n then gs ps ρ else none
 |_=>none
@[simp] theorem Zdy{n:Nat}{gs:CN}{ps:List PV}{ρ:Ļ}:gS n gs (.tup ps) ρ=if ps.length=n then gs ps ρ else none:=rfl
@[simp] theorem Zdz{n:Nat}{gs:CN}{ps:List PV}{ρ:Ļ}:gS n gs (.lst ps) ρ=if ps.length=n then gs ps ρ else none:=rfl
def MN{es:List Expr}{k:Nat}{gs:CN}{n:Nat}(hc:X.calm=true)(h:wO X es (tTs (kk X cm) gs))(hn:(assignEach es X.env).length=n:=by rfl)(hst:(assignEach es X.env).findIdx? (·.1)=none:=by rfl):PG X (.Tuple es k pos) (tT (kk X cm) (gS n gs)):=by
 intro pins s σ H v u Q I r hw
 obtain⟨c,F,ρ,p,rel,rp,hw⟩:=hw
 cases p with
 |tup ps=>
  unfold Rep at rp
  obtain⟨a,xs,h1,h2,h3⟩:=rp
  unfold gS at hw
  dsimp only at hw
  split at hw
  ·rename_i hl
   exact Di hc h hn hst pins s σ H v u Q I r ⟨a,xs,h1,Same.tup rel.sub h2,by rw[<-h3.length];exact hl,c,F,ρ,ps,rel,h3,hw⟩
  ·exact hw.elim
 |lst ps=>
  unfold Rep at rp
  obtain⟨a,xs,h1,h2,h3⟩:=rp
  unfold gS at hw
  dsimp only at hw
  split at hw
  ·rename_i hl
   exact VR hc h hn hst pins s σ H v u Q I r ⟨a,xs,h1,rel.sub.seq h2,by rw[<-h3.length];exact hl,c,F,ρ,ps,rel,h3,hw⟩
  ·exact hw.elim
 |_=>exact hw.elim
end
end P
namespace P
open PySem PySem.Spec PyProof.Rows L2 M2 M3 M4
def Res.Cm{α β γ:Type}(r:Res α)(f:α->Ļ->Res β)(g:β->Ļ->Res γ):(r.bind f).bind g=r.bind λa ρ=>(f a ρ).bind g:=by cases r<;>rfl
section
variable{X:Cx}{cm:String->Addr}{E:L2.St->XK}{a:Expr}{p p1 pos pos1:Pos}{mr:M (List PV)}
end
end P
namespace P
open PySem PySem.Spec PyProof.Rows L2 M2 M3 M4
def Rel.keep{K:KK}{c:Ctx}{F H H':Hp}{σ:L2.St}{ρ:Ļ}(r:Rel K c F H σ ρ)(e:Same H H'):Rel K c F H' σ ρ:= r.call ⟨e,Same.refl F,r.sub.trans e,λ_ _ h=>h⟩
section
variable{X:Cx}{cm:String->Addr}{E:L2.St->XK}{e o:Expr}{es:List Expr}{pos:Pos}{m:M Bool}{mo:M RV}{ma:M PV}
@[simp] theorem ZdA{ps qs rs:List PV}:(RV.ot ps qs rs).val=.tup (ps ++ .lst qs::rs):=rfl
@[simp] theorem ZdB{ps qs rs:List PV}:(RV.ot ps qs rs).slot=.ot ps qs rs:=rfl
end
end P
namespace P
open PySem PySem.Spec PyProof.Rows L2 M2 M3 M4
section
variable{X:Cx}{K:KK}
end
end P
namespace P
open PySem PySem.Spec PyProof.Rows L2 M2 M3 M4
section
variable{K:KK}{c c':Ctx}{F F' H H':Hp}{σ:L2.St}{ρ:Ļ}
end
section
variable{X:Cx}{cm:String->Addr}{E:L2.St->XK}{elt tg iter:Expr}{ifs:List Expr}{scope:Scope}{pos:Pos}{mi:M (List PV)}{g:Tg}{mt:M Bool}{me:M RV}
end
section
variable{K:KK}{c:Ctx}{F H:Hp}{σ:L2.St}{ρ:Ļ}
end
section
variable{X:Cx}{cm:String->Addr}{E:L2.St->XK}{e:Expr}{es:List Expr}{m:M Bool}{mv:M PV}{ms:M (List Slot)}
end
end P
namespace P
open PySem PySem.Spec PyProof.Rows L2 M2 M3 M4
section
variable{X:Cx}{K:KK}
end
section
variable{ρ:Ļ}{i x j:Nat}{m:M Bool}{mv:M PV}{ms:M (List Slot)}{mp:M (List (List PV))}{g:Tg}{mt:M Bool}{me:M RV}{mi:M (List PV)}{js:List Nat}{nl:Nat}
end
end P
namespace P
open PySem PySem.Spec PyProof.Rows L2 M2 M3 M5
def lamP(js:List Nat)(ρ:Ļ)(p:PV):Ļ:=js.map (λ(j:Nat)=>ũ ((ρ[j]?).getD .no)) ++ [.sh p]
def vO(js:List Nat)(me:M PV)(ρ:Ļ):List PV->Option (List Int)
 | []=>some []
 |p::ps=>match me (lamP js ρ p) with
  | .ok (.int k) _=>(vO js me ρ ps).map (k:: ·)
  |_=>none
def cG(p:PV)(k:Int):List PV->List Int->PV
 |q::qs,m::ms=>if m<k then cG q m qs ms else cG p k qs ms
 |_,_=>p
def t_:List PV->List Int->Option PV
 |p::ps,k::ks=>some (cG p k ps ks)
 |_,_=>none
theorem qW{js:List Nat}{me:M PV}{ρ:Ļ}:∀{items:List PV} {ks:List Int},vO js me ρ items=some ks->ks.length=items.length/\∀(k:Nat) (p:PV),items[k]?=some p->∃ρ',me (lamP js ρ p)=.ok (.int (ks.getD k 0)) ρ'
 | [],ks,h=>by
   cases(show some []=some ks from h)
   exact⟨rfl,λk p z=>by simp at z⟩
 |q::r,ks,h=>by
  have h':(match me (lamP js ρ q) with
   | .ok (.int k) _=>(vO js me ρ r).map (k:: ·)
   |_=>none)=some ks:=h
  split at h'
  ·rename_i k ρ' e
   cases e2:vO js me ρ r with
   |none=>rw[e2] at h';cases h'
   |some ks'=>
    rw[e2] at h'
    cases(show some (k::ks')=some ks from h')
    obtain⟨h1,h2⟩:=qW e2
    refine⟨by simp[h1],λn p hp=>?_⟩
    cases n with
    |zero=>
     simp at hp
     subst hp
     exact⟨ρ',e⟩
    |succ n=>
     simp at hp
     simpa using h2 n p hp
  ·cases h'
theorem b_:∀{qs:List PV} {ms:List Int} {p:PV} {k:Int} {i:Nat} {x:PV},ms.length=qs.length->(p::qs)[i]?=some x->(∀j,j<(p::qs).length->(k::ms).getD i 0<=(k::ms).getD j 0/\(j<i->(k::ms).getD i 0<(k::ms).getD j 0))->cG p k qs ms=x
 | [],[],p,k,i,x,_,hx,_=>by
   cases i with
   |zero=>simpa[cG] using hx
   |succ i=>simp at hx
 | [],_::_,_,_,_,_,h,_,_=>by simp at h
 |_::_,[],_,_,_,_,h,_,_=>by simp at h
 |q::qs,m::ms,p,k,i,x,hl,hx,hb=>by
  have hl':ms.length=qs.length:=by simpa using hl
  unfold cG
  by_cases hm:m<k
  ·rw[if_pos hm]
   cases i with
   |zero=>
    have:=(hb 1 (by simp)).1
    simp at this
    omega
   |succ i=>
    refine b_ (i:=i) hl' (by simpa using hx) λj hj=>?_
    have:=hb (j+1) (by simpa using hj)
    refine⟨by simpa using this.1,λhji=>by simpa using this.2 (by omega)⟩
  ·rw[if_neg hm]
   cases i with
   |zero=>
    refine b_ (i:=0) hl' (by simpa using hx) λj hj=>?_
    cases j with
    |zero=>exact⟨Int.le_refl _,λz=>absurd z (Nat.lt_irrefl _)⟩
    |succ j=>
     have:=hb (j+1+1) (by simpa using hj)
     exact⟨by simpa using this.1,λz=>absurd z (by omega)⟩
   |succ i=>
    cases i with
    |zero=>
     have:=(hb 0 (by simp)).2 (by omega)
     simp at this
     omega
    |succ i=>
     refine b_ (i:=i+1) hl' (by simpa using hx) λj hj=>?_
     cases j with
     |zero=>
      have:=hb 0 (by simp)
      exact⟨by simpa using this.1,λ_=>by simpa using this.2 (by omega)⟩
     |succ j=>
      have:=hb (j+1+1) (by simpa using hj)
      exact⟨by simpa using this.1,λz=>by simpa using this.2 (by omega)⟩
def uc{items:List PV}{ks:List Int}{i:Nat}{x b:PV}(hl:ks.length=items.length)(h:t_ items ks=some b)(hx:items[i]?=some x)(hb:∀j,j<items.length->ks.getD i 0<=ks.getD j 0/\(j<i->ks.getD i 0<ks.getD j 0)):b=x:=by
 cases items with
 |nil=>simp at hx
 |cons p ps=>
  cases ks with
  |nil=>simp at hl
  |cons k ks=>
   have h':cG p k ps ks=b:=Option.some.inj h
   rw[<-h']
   exact b_ (by simpa using hl) hx hb
section
variable{K:KK}{c:Ctx}{F H:Hp}{σ:L2.St}{ρ:Ļ}
theorem Gr.refl(s:Same F H):Gr F H F H:=⟨Same.refl _,Same.refl _,s,λ_ _ z=>z⟩
theorem Gr.trans{F1 H1 F2 H2:Hp}(a:Gr F H F1 H1)(b:Gr F1 H1 F2 H2):Gr F H F2 H2:=
 ⟨a.h.trans b.h,a.f.trans b.f,b.sub,fun x hx hf=>b.out x (fun z=>by
   cases q:H x with
   |none=>exact hx q
   |some u=>rw[a.h x u q] at z;cases z) (a.out x hx hf)⟩
def Rel.lam(js:List Nat)(rel:Rel K c F H σ ρ){p:PV}{v:V}(hp:Rep K F p v):Rel K (ctx0 F H) F H (cV js σ v) (lamP js ρ p) where
 sub:=rel.sub
 base:=Same.refl _
 f0:=Same.refl _
 cO:=λ_ _ z=>z
 lent:=λa u e=>cF e
 lb:=fun a e=>by
   cases q:(ctx0 F H).L a with
   |none=>rfl
   |some u=>
    have e':H a=none:=e
    rw[(cF q).1] at e'
    cases e'
 len:=by simp[cV,lamP]
 slot:= λi s e=>by
  unfold lamP at e
  by_cases hi:i<js.length
  ·rw[List.getElem?_append_left (by simpa using hi),List.getElem?_map] at e
   cases ej:js[i]? with
   |none=>rw[ej] at e;cases e
   |some j=>
    rw[ej] at e
    have e':ũ ((ρ[j]?).getD .no)=s:=Option.some.inj e
    subst e'
    have hx:((cV js σ v)[i]?).getD none=(σ[j]?).getD none:=by
     unfold cV
     rw[List.getElem?_append_left (by simpa using hi),List.getElem?_map,ej]
     rfl
    rw[hx]
    cases er:ρ[j]? with
    |none=>trivial
    |some sl=>
     have q:=rel.slot j sl er
     cases sl with
     |no=>trivial
     |sh p=>exact q
     |ow ps=>
      obtain⟨a,vs,h1,h2,h3,h4,h5⟩:=q
      refine⟨a,vs,h1,?_,h5⟩
      show(match F a with|none=>H a|some _=>none)=_
      rw[h3]
      exact h2
     |bw ps=>
      obtain⟨a,vs,h1,h2,h3⟩:=q
      obtain⟨l1,l2⟩:=rel.lent a _ h2
      refine⟨a,vs,h1,?_,h3⟩
      show(match F a with|none=>H a|some _=>none)=_
      rw[l2]
      exact l1
     |rc C ns ps=>trivial
     |ot ps qs rs=>trivial
     |ol bN=>trivial
     |fr bN=>trivial
     |bn qs rows=>trivial
  ·have hi2:i=js.length:=by
    have l2:=(List.getElem?_eq_some_iff.mp e).1
    simp at l2
    omega
   subst hi2
   rw[List.getElem?_append_right (by simp)] at e
   have e':Slot.sh p=s:=by simpa using e
   subst e'
   have hx:((cV js σ v)[js.length]?).getD none=some v:=by
    unfold cV
    rw[List.getElem?_append_right (by simp)]
    simp
   rw[hx]
   exact⟨v,rfl,hp⟩
 sep:=λi j a h1 _=>by
  exfalso
  obtain⟨s,y,h1,_,h2⟩:=h1
  have h2:=jV h2
  unfold lamP at h1
  by_cases hi:i<js.length
  ·rw[List.getElem?_append_left (by simpa using hi),List.getElem?_map] at h1
   cases ej:js[i]? with
   |none=>rw[ej] at h1;cases h1
   |some j=>
    rw[ej] at h1
    have e':ũ ((ρ[j]?).getD .no)=s:=Option.some.inj h1
    subst e'
    cases er:ρ[j]? with
    |none=>rw[er] at h2;cases h2
    |some sl=>rw[er] at h2;cases sl<;>cases h2
  ·have hi2:i=js.length:=by
    have l2:=(List.getElem?_eq_some_iff.mp h1).1
    simp at l2
    omega
   subst hi2
   rw[List.getElem?_append_right (by simp)] at h1
   have e':Slot.sh p=s:=by simpa using h1
   subst e'
   cases h2
end
section
variable{X:Cx}{cm:String->Addr}{E:L2.St->XK}{x px:Str}{c Pt:Addr}{params:Arguments}{body e:Expr}{scope:Scope}{p pos Ca kpos:Pos}{mr:M (List PV)}{me:M PV}
end
def V_(K:PySem.W.Frag)(x:Str)(f:Addr):Bool:=PySem.W.nsIn K mainGlobals x== some (some (.ref f)) && (PySem.W.tabIn K x).isSome
section
variable{P:Program}{w:World}{K:PySem.W.Frag}{cm:String->Addr}{mg:Str->Option Value}{base:Heap}{CX:jL}
def La{x qual:Str}{st:Stmt}{f:Addr}{fd:FuncData}(F:DW K x qual st f fd){c Pt:Addr}(h:PySem.W.nsIn K mainGlobals x=some (some (.ref f)))(ht:PySem.W.tabIn K x=some (c,Pt)):fd.code=.ref c:=by
 obtain⟨oc,od,kV,doc,pm,an,cdv,ct,osl,rfl,lk,hcd⟩:=F.ex
 unfold PySem.W.tabIn at ht
 split at ht
 ·rename_i f2 hf
  rw[h] at hf
  cases hf
  split at ht
  ·rename_i hfo
   rw[lk] at hfo
   cases hfo
   split at ht
   ·rename_i c2 hc
    split at ht
    ·split at ht
     ·cases ht
      exact hc
     ·cases ht
    ·cases ht
   ·cases ht
  ·cases ht
 ·cases ht
def ZdC{x qual:Str}{st:Stmt}{f:Addr}{fd:FuncData}{N ps:List Str}{k n j:Nat}{mb:M Fl}{mf:MF}(F:DW K x qual st f fd)(S:Ē N ps (ć st))(hn:ps.length=n)(hj:N.length=j)(hf:mf=ı n j mb)(htb:V_ K x f=true)
 (hbody:∀(c Pt:Addr),PySem.W.tabIn K x=some (c,Pt)→∀(A:Around) (outer:List Env) (s:Shared) (H:Hp) (E:XK),ŕ k (A.deeper (envOfC qual (ć st) s.heap.objs.size f (.ref c)))→
   fJ (pZ CX P w K mg base N qual (ć st) f (.ref c) A outer s H E) (œ st) (tS ⟨K,cm⟩ (λ_=>E) mb)):Ħ P w K mg base CX (k+1) f fd ps (Ş ⟨K,cm⟩ n mf):=by
 subst hn hj hf
 unfold V_ at htb
 simp only[Bool.and_eq_true,beq_iff_eq] at htb
 obtain⟨h1,h2⟩:=htb
 obtain⟨⟨c,Pt⟩,ht⟩:=Option.isSome_iff_exists.mp h2
 have hc:=La F h1 ht
 obtain⟨oc,od,kV,doc,pm,an,cdv,ct,osl,rfl,lk,hcd⟩:=id F.ex
 have hc':cdv=.ref c:=hc
 subst hc'
 refine DK lk hcd S (λvs H Q E ⟨F,ps',h1,_,h2,_⟩=>by rw[<-Paired.length h2];exact h1) λA outer s H vs Q E hr hsp=>?_
 obtain⟨F,ps',h1,h2,h3,h4⟩:=hsp
 refine⟨_,hbody c Pt ht A outer s H E hr,ctx0 F H,F,startP N.length ps',Rel.start h2 h3,?_⟩
 unfold ı at h4
 rw[if_pos h1] at h4
 cases e:mb (startP N.length ps') with
 |bad=>rw[e] at h4;exact h4
 |exc x ρ'=>rw[e] at h4;exact λσ' C d F' H' rel s1 q=>h4 C d F' H' rel.gr q
 |ok fl ρ'=>
  rw[e] at h4
  cases fl with
  |nx=>exact λσ' F' H' rel s1=>h4 .non F' H' rel.gr (Rep.non (K:=⟨K,cm⟩) (F:=F'))
  |bk=>exact h4.elim
  |ct=>exact h4.elim
  |rt r=>
   intro v σ' F' H' rel s1 q
   refine h4 v F' H' rel.gr ?_
   cases r with
   |sh p=>exact q
   |ow qs=>
    obtain⟨a,vs',e1,e2,e3,e4,_,e5⟩:=q
    exact⟨a,vs',e1,e2,e3,e4,e5⟩
   |ot qs ts rs=>
    obtain⟨p,a,xs,vs',ys,e1,e0,ex,e2,e3,e4,_,e5⟩:=q
    exact⟨p,a,xs,vs',ys,e1,e0,ex,e2,e3,e4,e5⟩
   |bn t ps qs rows=>exact q
end
section
variable{js:List Nat}{me:M PV}{mr:M (List PV)}{ρ:Ļ}
end
end P
namespace P
open PySem PySem.Spec PyProof.Rows L2 M2 M3 M5
end P
namespace P
open PySem PySem.Spec PyProof.Rows L2 M2 M3 M5
section
variable{X:Cx}{cm:String->Addr}{E:L2.St->XK}{CX:jL}{k n:Nat}{f:Addr}{fd:FuncData}{ps:List Str}{mf:MF}{mr:M (List Slot)}{x:Str}{p pos:Pos}{e:Expr}{es:List Expr}{ds:List Value}{dvs:List V}{dps:List Slot}
end
end P
namespace P
open PySem PySem.Spec PyProof.Rows L2 M2 M3 M5
def BN:Nat->(List Value->Prop)->Prop
 |0,p=>p []
 |n+1,p=>∀u,BN n λus=>p (u::us)
theorem ud:∀{n:Nat} {p:List Value->Prop},BN n p->∀us,us.length=n->p us
 |0,p,h,[],_=>h
 |0,p,h,_::_,e=>by cases e
 |n+1,p,h,[],e=>by cases e
 |n+1,p,h,u::us,e=>ud (h u) us (Nat.succ.inj e)
structure Df(K:PySem.W.Frag)(mg:Str->Option Value)(x:Str)(st:Stmt)(ps:List Str)(f:Addr)(fd:FuncData):Prop where
 F:DW K x x st f fd
 m:mg x=some (.ref f)
 b:Binds K fd ps []
 bb:∀(s:Shared) (us:List Value),us.length=ps.length->BindsTo s fd ⟨us,[]⟩ (ps.zip us)
structure Dm(K:PySem.W.Frag)(C:Addr)(x q:Str)(st:Stmt)(ps:List Str)(f:Addr)(fd:FuncData):Prop where
 F:DW K x q st f fd
 b:Binds K fd ps []
section
variable{K:PySem.W.Frag}{h:Heap}{mg:Str->Option Value}{x q:Str}{st:Stmt}{ps:List Str}{f C:Addr}{oc kV dc pm cd ct:Value}{od an:Option Addr}{sl:Array (Option Value)}
def ī(X:K.In h)(G:h.Ns mainGlobals mg)(hb:∀(kV dc pm:Value) (an:Option Addr) (cd ct:Value),BN ps.length λus=>bindArgs (PySem.W.fnOf x x (aK st) (œ st) (ć st) .none kV dc pm an cd ct) ⟨us,[]⟩=pure (ps.zip us))
 (a:PySem.W.nsIn K mainGlobals x=some (some (.ref f)))(l:K.lookup f=some ⟨oc,od,.func (PySem.W.fnOf x x (aK st) (œ st) (ć st) .none kV dc pm an cd ct),sl⟩)(c:PySem.W.codeIn K cd x=true)(k:PySem.W.keepIn K (.ref f)=true) :
 Df K mg x st ps f (PySem.W.fnOf x x (aK st) (œ st) (ć st) .none kV dc pm an cd ct):=
 have F:=DX (st:=st) l c k
 ⟨F,PySem.W.mg_of X G a,F.binds λkV dc pm an cd ct us hl=>ud (hb kV dc pm an cd ct) us hl,λs us hl=>.of_eq (ud (hb kV dc pm an cd ct) us hl)⟩
def oG(hb:∀(kV dc pm:Value) (an:Option Addr) (cd ct:Value),BN ps.length λus=>bindArgs (PySem.W.fnOf x q (aK st) (œ st) (ć st) .none kV dc pm an cd ct) ⟨us,[]⟩=pure (ps.zip us))
 (a:PySem.W.findIn K (.ref C) x=some (some (.ref f)))(l:K.lookup f=some ⟨oc,od,.func (PySem.W.fnOf x q (aK st) (œ st) (ć st) .none kV dc pm an cd ct),sl⟩)(c:PySem.W.codeIn K cd q=true)(k:PySem.W.keepIn K (.ref f)=true) :
 Dm K C x q st ps f (PySem.W.fnOf x q (aK st) (œ st) (ć st) .none kV dc pm an cd ct):=
 have F:=DX (st:=st) l c k
 ⟨F,F.binds λkV dc pm an cd ct us hl=>ud (hb kV dc pm an cd ct) us hl⟩
end
end P
namespace P
open PySem PySem.Spec PyProof.Rows L2 M2 M3 M5
def ak{N ps:List Str}{sc:Scope}(h1:sc.kind=.function:=by rfl)(h2:sc.isCoroutine=false:=by rfl)(h3:sc.isGenerator=false:=by rfl)(h4:N.Nodup:=by decide +kernel)(h5:N.take ps.length=ps:=by rfl)(h6:∀x∈ps,sc.names.lookup x=some .local\/sc.names.lookup x=some .cell:=by decide +kernel)
 (h7:∀y∈sc.names,y.2≠ .free:=by decide +kernel):Ē N ps sc:=⟨h1,h2,h3,h4,h5,h6,h7⟩
section
variable{X:Cx}{cm:String->Addr}{E:L2.St->XK}{CX:jL}{k j n:Nat}{f:Addr}{fd:FuncData}{ps:List Str}{mf:MF}{mr:M (List Slot)}{x:Str}{st:Stmt}{p pos:Pos}{e:Expr}{es:List Expr}
def ĉ(F:Ħ X.prog X.w X.K X.mg X.base CX k f fd ps (Ş (kk X cm) n mf))(D:Df X.K X.mg x st ps f fd)(hr:ŕ j X.A)(hx:bU CX X E)
 (ha:PA X (e::es) (tA (kk X cm) E mr))(hlen:∀{ps:List Slot},(∃r,mf ps=r/\∀z,r=z->z≠ .bad)->ps.length=n:=by exact bH)(hg:Gl X x:=by rfl)(hkj:k<=j:=by decide)(hdb:(x== ("__debug__" :Str))=false:=by decide)(he:starEach (e::es) X.env=(false,eval e X.env)::starEach es X.env:=by exact aB rfl)(hpl:(backTo pos (starEach es X.env)).any (·.1)=false:=by rfl) :
 PE X (.Call (.Name x p) (e::es) [] pos) (tO (kk X cm) E (đ mf mr)):=Vs F hlen (hr.mono hkj) hg D.m D.F.kp D.b hx ha hdb he hpl
end
section
variable{Pg:Program}{w:World}{K:PySem.W.Frag}{mg:Str->Option Value}{base:Heap}{CX:jL}{cm:String->Addr}
def ĺ{x qual:Str}{st:Stmt}{f:Addr}{fd:FuncData}{N ps:List Str}{k n j:Nat}{mb:M Fl}{mf:MF}(F:DW K x qual st f fd)(S:Ē N ps (ć st))
 (hbody:∀(cdv:Value) (A:Around) (outer:List Env) (s:Shared) (H:Hp) (E:XK),ŕ k (A.deeper (envOfC qual (ć st) s.heap.objs.size f cdv))→(A.deeper (envOfC qual (ć st) s.heap.objs.size f cdv)).units+64<cLine→
   fJ (pZ CX Pg w K mg base N qual (ć st) f cdv A outer s H E) (œ st) (tS ⟨K,cm⟩ (λ_=>E) mb))(hn:ps.length=n:=by rfl)(hj:N.length=j:=by rfl)(hf:mf=ı n j mb:=by rfl):Ħ Pg w K mg base CX (k+1) f fd ps (Ş ⟨K,cm⟩ n mf):=
 fnQ F S hn hj hf λcdv A outer s H E hr=>hbody cdv A outer s H E hr hr.units
end
end P
namespace P
open PySem PySem.Spec PyProof.Rows L2 M2 M3 M4
section
variable{X:Cx}{cm:String->Addr}{E:L2.St->XK}{e:Expr}{m:M PV}
end
end P
namespace P
open PySem PySem.Spec PyProof.Rows L2 M2 M3 M4
def tgN:Expr->List Str
 | .Name x _=>[x]
 | .Tuple es _ _=>es.flatMap fun e=>match e with
   | .Name x _=>[x]
   |_=>[]
 |_=>[]
def cN(X:Cx)(js:List Nat)(tg:Expr):List Str:=js.map (λ(j:Nat)=>(X.N[j]?).getD "")++tgN tg
def ndB{l:List Str}(h:decide l.Nodup=true):l.Nodup:=of_decide_eq_true h
def frB{a b:Scope}(h:(a.names.all λy=>decide (y.2=.free->(b.names.lookup y.1=some .cell\/b.names.lookup y.1=some .free)))=true):∀y∈a.names,y.2=.free->(b.names.lookup y.1=some .cell\/b.names.lookup y.1=some .free):=λy hy=>of_decide_eq_true (List.all_eq_true.mp h y hy)
section
variable{X:Cx}{cm:String->Addr}{E:L2.St->XK}{elt tg iter:Expr}{ifs:List Expr}{scope:Scope}{pos:Pos}{mi:M (List PV)}{g:Tg}{mt:M Bool}{me:M PV}{js:List Nat}{nl:Nat}
end
end P
namespace P
open PySem PySem.Spec PyProof.Rows L2 M2 M3 M4
section
variable{X:Cx}
end
section
variable{X:Cx}{cm:String->Addr}{K:KK}{E:L2.St->XK}{o e:Expr}{es:List Expr}{name:Str}{apos cpos:Pos}{id:String}{r:V->List V->Hp->VK->Prop}{f:PV->List PV->Option PV}{mo:M PV}{ms:M (List PV)}
end
end P
namespace P
open PySem PySem.Spec PyProof.Rows L2 M2 M3 M4
section
variable{X:Cx}{cm:String->Addr}{E:L2.St->XK}{a b e:Expr}{es:List Expr}{ma mb m:M PV}{mo:M RV}{pos p:Pos}
def ą{i j pos}:PE X (.Constant (.int i) j pos) (tR (kk X cm) E (mC (.int i))):=ě ĩ
def jz{j pos}:PE X (.Constant .none j pos) (tR (kk X cm) E (mC .non)):=ě lC
def oH{x j pos}:PE X (.Constant (.str x) j pos) (tR (kk X cm) E (mC (.str x))):=ě Ÿ
def Ķ(ha:PE X a (tR (kk X cm) E ma))(hb:PE X b (tR (kk X cm) E mb))(hs:mR b:=by exact λ_ _=>rfl):PE X (.Subscript a b pos) (tV (kk X cm) E (ă Č ma mb)):=ZcA Zau Zab ha hb hs
def Ĭ(ha:PE X a (tR (kk X cm) E ma))(hb:PE X b (tR (kk X cm) E mb))(hs:mR b:=by exact λ_ _=>rfl):PE X (.Subscript a b pos) (tR (kk X cm) E (ă Č ma mb)):=ě (Ķ ha hb hs)
def v_mod(ha:PE X a (tR (kk X cm) E ma))(hb:PE X b (tR (kk X cm) E mb)):PE X (.BinOp a .Mod b pos) (tV (kk X cm) E (ă Ĩ ma mb)):=bF Vz Vc ha hb
def ŏ(ha:PE X a (tR (kk X cm) E ma))(hb:PE X b (tR (kk X cm) E mb)):PE X (.BinOp a .Mod b pos) (tR (kk X cm) E (ă Ĩ ma mb)):=ě (v_mod ha hb)
def v_mul(ha:PE X a (tR (kk X cm) E ma))(hb:PE X b (tR (kk X cm) E mb)):PE X (.BinOp a .Mult b pos) (tV (kk X cm) E (ă ġ ma mb)):=bF VB Ka ha hb
def ŋ(ha:PE X a (tR (kk X cm) E ma))(hb:PE X b (tR (kk X cm) E mb)):PE X (.BinOp a .Mult b pos) (tR (kk X cm) E (ă ġ ma mb)):=ě (v_mul ha hb)
def v_sub(ha:PE X a (tR (kk X cm) E ma))(hb:PE X b (tR (kk X cm) E mb)):PE X (.BinOp a .Sub b pos) (tV (kk X cm) E (ă ş ma mb)):=bF Vx Va ha hb
def vP(ha:PE X a (tR (kk X cm) E ma))(hb:PE X b (tR (kk X cm) E mb)):PE X (.BinOp a .Sub b pos) (tR (kk X cm) E (ă ş ma mb)):=ě (v_sub ha hb)
def iI(ha:PE X a (tR (kk X cm) E ma))(hb:PE X b (tR (kk X cm) E mb)):PE X (.BinOp a .FloorDiv b pos) (tV (kk X cm) E (ă Ŋ ma mb)):=bF Vy JL ha hb
def iJ(ha:PE X a (tR (kk X cm) E ma))(hb:PE X b (tR (kk X cm) E mb)):PE X (.BinOp a .FloorDiv b pos) (tR (kk X cm) E (ă Ŋ ma mb)):=ě (iI ha hb)
def iK(ha:PE X a (tR (kk X cm) E ma))(hb:PE X b (tR (kk X cm) E mb)):PE X (.BinOp a .Add b pos) (tO (kk X cm) E (ğ Ĝ ma mb)):=Zaj Vv Vu ha hb
def v_add(ha:PE X a (tR (kk X cm) E ma))(hb:PE X b (tR (kk X cm) E mb)):PE X (.BinOp a .Add b pos) (tV (kk X cm) E (Ď (ğ Ĝ ma mb))):=Ġ (iK ha hb)
def cg(ha:PE X a (tR (kk X cm) E ma))(hb:PE X b (tR (kk X cm) E mb)):PE X (.BinOp a .Add b pos) (tR (kk X cm) E (Ď (ğ Ĝ ma mb))):=ě (v_add ha hb)
def t_eq(hu:X.A.units+64<cLine)(ha:PE X a (tR (kk X cm) E ma))(hb:PE X b (tR (kk X cm) E mb)):PT X (.Compare a [.Eq] [b] pos) (tB (kk X cm) E (au (ă ł ma mb))):=aC Mw (Eh hu) ha hb (Ń _)
def Gb(hu:X.A.units+64<cLine)(ha:PE X a (tR (kk X cm) E ma))(hb:PE X b (tR (kk X cm) E mb)):PT X (.Compare a [.NotEq] [b] pos) (tB (kk X cm) E (au (ă dX ma mb))):=aC Mx (Ei hu) ha hb (Ń _)
def v_eq(hu:X.A.units+64<cLine)(ha:PE X a (tR (kk X cm) E ma))(hb:PE X b (tR (kk X cm) E mb)):PE X (.Compare a [.Eq] [b] pos) (tV (kk X cm) E (ă ł ma mb)):=vA Mw (Eh hu) ha hb (Ń _)
def ļ(he:PE X e (tO (kk X cm) E mo)):fJ X [.Return (some e) pos] (tS (kk X cm) E (ħ mo)):=į (Zap he)
def ľ(he:PE X e (tV (kk X cm) E m)):fJ X [.Return (some e) pos] (tS (kk X cm) E (ħ (Ņ m))):=ļ (Ű he)
def Cp{N ps:List Str}{sc:Scope}{i:Nat}{x:Str}{pos':Pos}(S:Ē N ps sc)(he:PE X e (tO (kk X cm) E mo))(hN:X.N=N:=by rfl)(hi:X.N[i]?=some x:=by rfl)(hx:Loc X.env.scope x:=by first|exact Or.inl rfl|exact Or.inr rfl)(hs:swapsWith e (some (.Name x pos')) pos.line X.env=pure false:=by rfl)(hf:X.fn x=true\/X.env.scope.names.lookup x=some .local:=by first|exact .inl rfl|exact .inr rfl|assumption) :
 PS X (.Assign [.Name x pos'] e pos) (tS (kk X cm) E (Ĥ i mo)):=Zao (hN▸S.nd) hi hx he hs hf
def ĸ{N ps:List Str}{sc:Scope}{i:Nat}{x:Str}{pos':Pos}{rest:List Stmt}{m2:M Fl}(S:Ē N ps sc)(he:PE X e (tO (kk X cm) E mo))(h2:fJ X rest (tS (kk X cm) E m2))(hN:X.N=N:=by rfl)(hi:X.N[i]?=some x:=by rfl)(hx:Loc X.env.scope x:=by first|exact Or.inl rfl|exact Or.inr rfl)(hs:swapsWith e (some (.Name x pos')) pos.line X.env=pure false:=by rfl)(hf:X.fn x=true\/X.env.scope.names.lookup x=some .local:=by first|exact .inl rfl|exact .inr rfl|assumption) :
 fJ X (.Assign [.Name x pos'] e pos::rest) (tS (kk X cm) E (ę (Ĥ i mo) m2)):=ĕ (Cp S he hN hi hx hs hf) h2
def dZ{N ps:List Str}{sc:Scope}{i:Nat}{x:Str}(S:Ē N ps sc)(hN:X.N=N:=by rfl)(hi:X.N[i]?=some x:=by rfl)(hx:Loc X.env.scope x:=by first|exact Or.inl rfl|exact Or.inr rfl)(hf:X.fn x=true\/X.env.scope.names.lookup x=some .local:=by first|exact .inl rfl|exact .inr rfl|assumption):PG X (.Name x pos) (tT (kk X cm) (gN i)):=EY (hN▸S.nd) hi hx hf
def aH{i:Nat}{x:Str}(hN:X.N.Nodup:=by exact ndB (by kernel_rfl))(hi:X.N[i]?=some x:=by rfl)(hx:Loc X.env.scope x:=by first|exact Or.inl rfl|exact Or.inr rfl)(hf:X.fn x=true\/X.env.scope.names.lookup x=some .local:=by first|exact .inl rfl|exact .inr rfl):PG X (.Name x pos) (tT (kk X cm) (gN i)):=EY hN hi hx hf
def ċ(i:Nat){x:Str}{px:Pos}{ms:M (List Slot)}(hr:PA X es (tA (kk X cm) E ms))(hN:X.N[i]?=some x:=by rfl)(hv:wN X.env.scope x:=by first|exact Or.inl rfl|exact Or.inr (Or.inl rfl)|exact Or.inr (Or.inr rfl))(hd:(x== ("__debug__" :Str))=false:=by decide)
 (hcd:(x== ("__classdict__" :Str))=false:=by decide)(hs:starEach (.Name x px::es) X.env=(false,eval (.Name x px) X.env)::starEach es X.env:=by exact aB rfl):PA X (.Name x px::es) (tA (kk X cm) E (Ă i ms)):=Kh i hN hv hd hcd hr hs
def ū{id:String}{x:Str}{r:List V->Hp->VK->Prop}{f:List PV->Option PV}{mr:M (List PV)}(hc:ō X (.builtin id) r)(hf:eN (kk X cm) r f)(hm:X.mg x=none)(hv:bootBuiltins x=some (.builtin id))(ha:PA X (e::es) (Kg (kk X cm) E mr))(hg:Gl X x:=by rfl)(hn:x≠ "__name__" := by decide)(hdb:(x== ("__debug__" :Str))=false:=by decide)
 (he:starEach (e::es) X.env=(false,eval e X.env)::starEach es X.env:=by rfl)(hpl:(backTo pos (starEach es X.env)).any (·.1)=false:=by rfl):PE X (.Call (.Name x p) (e::es) [] pos) (tV (kk X cm) E (bQ f mr)):=PE.wk (DN hc hg hm hv ha hn hdb he hpl) λ_ _ _ h=>Zam hf h
def ZaO{T:String}{x:Str}{r:List V->Hp->VK->Prop}{f:List PV->Option PV}{mr:M (List PV)}(hc:ō X (.type T) r)(hf:eN (kk X cm) r f)(hm:X.mg x=none)(hv:bootBuiltins x=some (.type T))(ha:PA X (e::es) (Kg (kk X cm) E mr))(hg:Gl X x:=by rfl)(hn:x≠ "__name__" := by decide)(hdb:(x== ("__debug__" :Str))=false:=by decide)
 (he:starEach (e::es) X.env=(false,eval e X.env)::starEach es X.env:=by rfl)(hpl:(backTo pos (starEach es X.env)).any (·.1)=false:=by rfl):PE X (.Call (.Name x p) (e::es) [] pos) (tV (kk X cm) E (bQ f mr)):=PE.wk (qG hc hg hm hv ha hn hdb he hpl) λ_ _ _ h=>Zam hf h
def vQ{T:String}{x:Str}{r:List V->Hp->VK->Prop}{f:List PV->Option RV}{mr:M (List PV)}(hc:ō X (.type T) r)(hf:Ey (kk X cm) r f)(hm:X.mg x=none)(hv:bootBuiltins x=some (.type T))(ha:PA X (e::es) (Kg (kk X cm) E mr))(hg:Gl X x:=by rfl)(hn:x≠ "__name__" := by decide)(hdb:(x== ("__debug__" :Str))=false:=by decide)
 (he:starEach (e::es) X.env=(false,eval e X.env)::starEach es X.env:=by rfl)(hpl:(backTo pos (starEach es X.env)).any (·.1)=false:=by rfl):PE X (.Call (.Name x p) (e::es) [] pos) (tO (kk X cm) E (lX f mr)):=PE.wk (qG hc hg hm hv ha hn hdb he hpl) λ_ _ _ h=>ZcB hf h
end
section
variable{X:Cx}{cm:String->Addr}{E:L2.St->XK}{elt tg iter t:Expr}{ifs:List Expr}{scope:Scope}{pos:Pos}{mi:M (List PV)}{g:Tg}{mt:M Bool}{me:M PV}{js:List Nat}{nl:Nat}
structure CF(X:Cx)(js:List Nat)(nl:Nat)(tg iter:Expr)(scope:Scope):Prop where
 hcap:cT X.ő X.env.scope scope (cN X js tg) js
 hcalm:X.calm=true
 hlen:js.length+nl=(cN X js tg).length
 hk:scope.kind=.function
 hcell:∀y∈scope.names,y.2=.cell->scope.names.lookup y.1=some .cell
 hnames:∀y∈scope.names,y.2=.local->scope.names.lookup y.1=some .local
 hfree:∀y∈scope.names,y.2=.free->(X.env.scope.names.lookup y.1=some .cell\/X.env.scope.names.lookup y.1=some .free)
 hs:∀x,foldedSetIterable iter X.env x=pure x
def cf(hcap:cT X.ő X.env.scope scope (cN X js tg) js:=by repeat' first|exact True.intro|refine⟨rfl,⟨rfl,by first|exact Or.inl rfl|exact Or.inr rfl⟩,?_⟩)(hcalm:X.calm=true:=by rfl)(hlen:js.length+nl=(cN X js tg).length:=by rfl)
 (hk:scope.kind=.function:=by rfl)(hcell:∀y∈scope.names,y.2=.cell->scope.names.lookup y.1=some .cell:=by decide +kernel)(hnames:∀y∈scope.names,y.2=.local->scope.names.lookup y.1=some .local:=by decide +kernel)
 (hfree:∀y∈scope.names,y.2=.free->(X.env.scope.names.lookup y.1=some .cell\/X.env.scope.names.lookup y.1=some .free):=by exact frB (by kernel_rfl))(hs:∀x,foldedSetIterable iter X.env x=pure x:=by intro _;rfl):CF X js nl tg iter scope:=⟨hcap,hcalm,hlen,hk,hcell,hnames,hfree,hs⟩
def ZdD(hi:PI X.ő tg iter (tG (kk X cm) E (Fd (kk X cm)) mi))(hg:∀{cl C s H fp},PG (cD X.ő (cN X js tg) scope cl C s H fp) tg (tT (kk X cm) g))(ht:∀{cl C s H fp},CJ (cD X.ő (cN X js tg) scope cl C s H fp) ifs (tB (kk X cm) EF mt))(he:∀{cl C s H fp},PE (cD X.ő (cN X js tg) scope cl C s H fp) elt (tV (kk X cm) EF me))(h:CF X js nl tg iter scope:=by exact cf) :
 PE X (.ListComp elt [⟨tg,iter,ifs,0⟩] scope pos) (tO (kk X cm) E (Ŀ js nl mi g mt me)):=Ks (cN X js tg) js nl X.env.scope rfl h.hcalm hi (λ_ _ _ _ _=>hg) (λ_ _ _ _ _=>ht) (λ_ _ _ _ _=>he) h.hcap h.hlen h.hk h.hcell h.hnames h.hfree h.hs
def mj(hi:PI X.ő tg iter (tI (kk X cm) E mi))(hg:∀{cl C s H fp},PG (cD X.ő (cN X js tg) scope cl C s H fp) tg (tT (kk X cm) g))(ht:∀{cl C s H fp},CJ (cD X.ő (cN X js tg) scope cl C s H fp) ifs (tB (kk X cm) EF mt))(he:∀{cl C s H fp},PE (cD X.ő (cN X js tg) scope cl C s H fp) elt (tV (kk X cm) EF me))(h:CF X js nl tg iter scope:=by exact cf) :
 PE X (.ListComp elt [⟨tg,iter,ifs,0⟩] scope pos) (tO (kk X cm) E (Ŀ js nl mi g mt me)):=ZdD (Mq hi) hg ht he h
def qj{N ps:List Str}{sc:Scope}{i:Nat}{y:Str}{py spos:Pos}(S:Ē N ps sc)(hi:PI X.ő tg iter (tI (kk X cm) E mi))(hg:∀{cl C s H fp},PG (cD X.ő (cN X js tg) scope cl C s H fp) tg (tT (kk X cm) g))(ht:∀{cl C s H fp},CJ (cD X.ő (cN X js tg) scope cl C s H fp) ifs (tB (kk X cm) EF mt))(he:∀{cl C s H fp},PE (cD X.ő (cN X js tg) scope cl C s H fp) elt (tV (kk X cm) EF me))
 (h:CF X js nl tg iter scope:=by exact cf)(hN:X.N=N:=by rfl)(hi0:X.N[i]?=some y:=by rfl)(hy:X.env.scope.names.lookup y=some .local:=by rfl)(hsw:swapsWith (.ListComp elt [⟨tg,iter,ifs,0⟩] scope pos) (some (.Name y py)) spos.line X.env=pure true:=by rfl) :
 PS X (.Assign [.Name y py] (.ListComp elt [⟨tg,iter,ifs,0⟩] scope pos) spos) (tS (kk X cm) E (Ĥ i (Ŀ js nl mi g mt me))):=VL (hN▸S.nd) hi0 hy (cN X js tg) js nl X.env.scope rfl h.hcalm hi (λ_ _ _ _ _=>hg) (λ_ _ _ _ _=>ht) (λ_ _ _ _ _=>he) h.hcap h.hlen h.hk h.hcell h.hnames h.hfree h.hs hsw
end
end P
namespace P
open PySem PySem.Spec PyProof.Rows L2 M2 M3 M5
end P
namespace P
open PySem PySem.Spec PyProof.Rows L2 M2 M3 M4 M5
variable{X:Cx}{cm:String->Addr}{E:L2.St->XK}{a:Expr}{pos:Pos}{ma:M PV}
end P
namespace M5
open PySem PySem.Spec PyProof.Rows L2 M2 M3
def Gd(a v:Value):argsOk "min" ⟨[a],[(Str.ofString "key",v),(Str.ofString "default",.none)]⟩:=by unfold argsOk;kernel_rfl
section
variable{X:Cx}{pins:List (Addr×Obj)}{σ:L2.St}{H:Hp}{s:Shared}
variable{R:Result->Shared->Prop}{f l S It:Addr}{oF:Obj}{xs:List V}(ks:Nat->Int)(W:Nat->Hp->Prop)
def yF(hh:X.A.handled=none)(hl:∀k H,W k H->Ś X.K H l xs)(hdF:∀v,oF.data≠ .cell v)(hFS:f≠S)(hFI:f≠It)
 (turn:∀k v,xs[k]?=some v->∀pins H s u,Inv X pins σ H s->W k H->RelV v u->s.heap.get? f=some oF->wpAny (model X.prog X.w) X.A.in1 (call (.ref f) [u]) (EP X pins σ λy H'=>y=.int (ks k)/\W (k+1) H') (λ_ _=>False) s)
 (hR:∀i v u H s,xs[i]?=some v->RelV v u->(∀j,j<xs.length->ks i<=ks j/\(j<i->ks i<ks j))->Inv X pins σ H s->W xs.length H->R (.ok (.ret u)) s) :
 ∀(r j i:Nat) (H:Hp) (s:Shared) (vb:Value) (tb:Tok) (c:Nat) (v:V),xs.length-(j+1)=r->j+1<=xs.length->Inv X pins σ H s->W (j+1) H->
  s.heap.get? S=some (seqObj "list" #[vb,.int (ks i) tb] c)->s.heap.IsListIter It l (j+1)->s.heap.get? f=some oF->(∀b∈[S,It,f],cC X pins H b)->xs[i]?=some v->RelV v vb->i<=j->(∀j',j'<=j->ks i<=ks j'/\(j'<i->ks i<ks j'))->
  codeAny (model X.prog X.w) X.A (.builtin "min.loop" ⟨[.ref It,.ref f,.ref S],[(Str.ofString "default",.none)]⟩) R s:=by
 have hname:(toString "min" ++ toString ".loop" :String)= "min.loop" := by decide
 intro r
 induction r with
 |zero=>
  intro j i H s vb tb c v hr hj I w hS hit hF Wa hv rv hij hbest
  have hin:j+1=xs.length:=by omega
  obtain⟨its,ri,pl,_⟩:=I.list (hl _ _ w)
  have hsz:its.toArray.size=xs.length:=by rw[List.size_toArray,ri.length]
  have W':=Walks.list (prog:=X.prog) (w:=X.w) (A:=X.A.in1) hh It l (zU pl.isList hit) its.toArray
  refine codeAny_builtin PySem.F.entry_min_loop ?_
  rw[Around.under_plainId PySem.F.plain_min_loop _]
  show wpAny _ X.A.in1 (seqItems? (.ref S) >>= _) _ _ _
  refine wpAny_bind (wpAny_seqItems hS rfl ?_)
  show wpAny _ X.A.in1 (tryCatch (pyNext (.ref It)) _ >>= _) _ _ _
  refine wpAny_bind (wpAny_tryCatch (W'.done _ _ _ ⟨by rw[hsz,<-hin];exact hit,pl.isList⟩ λh' tk' hk'=>?_))
  have I1:=Ŷ (h':=h') (t':=tk') I (Wa It (by simp)) λb o hb e=>hk' b o (by simpa using hb) e
  have hS':=hk' S _ (by simpa using xQ hS hit) hS
  have s1:=Heap.SameBut.update h' S (Obj.mapSeq λ_=>(#[]:Array Value))
  show wpAny _ X.A.in1 (updateSeq S (λ_=> #[]) >>= _) _ _ _
  refine wpAny_bind ?_
  refine wpAny_updateSeq hS' rfl (wpAny_bind (wpAny_letGo (wpAny_pure ?_)))
  exact hR i v vb H _ hv rv (λj' hj'=>hbest j' (by omega)) (Ŷ (t':=tk') I1 (Wa S (by simp)) λb o hb e=>(s1.2 b hb).trans e) (hin▸w)
 |succ r ih=>
  intro j i H s vb tb c v hr hj I w hS hit hF Wa hv rv hij hbest
  have hlt:j+1<xs.length:=by omega
  obtain⟨its,ri,pl,_⟩:=I.list (hl _ _ w)
  have hsz:its.toArray.size=xs.length:=by rw[List.size_toArray,ri.length]
  have W':=Walks.list (prog:=X.prog) (w:=X.w) (A:=X.A.in1) hh It l (zU pl.isList hit) its.toArray
  refine codeAny_builtin PySem.F.entry_min_loop ?_
  rw[Around.under_plainId PySem.F.plain_min_loop _]
  show wpAny _ X.A.in1 (seqItems? (.ref S) >>= _) _ _ _
  refine wpAny_bind (wpAny_seqItems hS rfl ?_)
  show wpAny _ X.A.in1 (tryCatch (pyNext (.ref It)) _ >>= _) _ _ _
  refine wpAny_bind (wpAny_tryCatch (W'.item (j+1) _ _ _ (by rw[hsz];exact hlt) ⟨hit,pl.isList⟩ λu h' tk' hP hst' hk'=>?_))
  have hu:its[j+1]?=some u:=by simpa using hP
  have hx2:xs[j+1]?=some xs[j+1]:=List.getElem?_eq_getElem hlt
  have ru:RelV xs[j+1] u:=by
   obtain⟨u2,h2,r2⟩:=ri.get hx2
   rw[hu] at h2
   cases h2
   exact r2
  obtain⟨oI',hoI',hoc,hod⟩:=id hst'.1
  have I1:=Ŷ (h':=h') (t':=tk') I (Wa It (by simp)) λb o hb e=>hk' b o (by simpa using hb) e
  have hS1:=hk' S _ (by simpa using xQ hS hit) hS
  have Wb:=hk' f _ (by simpa using hFI) hF
  show wpAny _ X.A.in1 (tryCatch (holding [u] (call (.ref f) [u])) _ >>= _) _ _ _
  refine wpAny_bind (wpAny_tryCatch (wpAny_holding (wpAny_mono (qK (fp:=[S,It,f]) I1 Wa (λb hb=>?_) (λiz I'=>turn (j+1) _ hx2 iz H _ u I' w ru Wb) λy u2 H2 s2 I2 ry ⟨ey,w2⟩ Cq Wc=>?_) (λ_ _ z=>z) λ_ _ hF=>hF.elim)))
  ·rcases List.mem_cons.mp hb with rfl|hb
   ·exact⟨_,hS1,λv z=>by cases z⟩
   ·rcases List.mem_cons.mp hb with rfl|hb
    ·exact⟨oI',hoI',λv z=>by rw[hod] at z;cases z⟩
    ·rw[List.mem_singleton.mp hb]
     exact⟨oF,Wb,hdF⟩
  ·subst ey
   obtain⟨t2,rfl⟩:=ry
   have hS2:=Wc S (by simp) _ hS1
   have hI2:=Wc It (by simp) _ hoI'
   have hF2:=Wc f (by simp) _ Wb
   have hit2:s2.heap.IsListIter It l (j+1+1):=⟨oI',hI2,hoc,hod⟩
   show wpAny _ X.A.in1 (tryCatch (holding [u,.int (ks (j+1)) t2] (richCompare .Lt (.int (ks (j+1)) t2) (.int (ks i) tb) >>= _)) _ >>= _) _ _ _
   refine wpAny_bind (wpAny_tryCatch (wpAny_holding (wpAny_bind (CmpOf.ints_lt (prog:=X.prog) (w:=X.w) (A:=X.A.in1) (P:=λi v=>∃t,v=.int (ks i) t) ks (λi v h=>h) (j+1) i _ _ _ _ _ ⟨t2,rfl⟩ ⟨tb,rfl⟩ ?_))))
   refine wpAny_bind (wpAny_holding (wpAny_truthy_bool ?_))
   refine wpAny_bind (wpAny_letGo (wpAny_pure ?_))
   by_cases hb':ks (j+1)<ks i
   ·have s1:=Heap.SameBut.update s2.heap S (Obj.mapSeq λ_=> #[u,.int (ks (j+1)) t2])
    obtain⟨cc,hc2⟩:∃cc,(s2.heap.update S (Obj.mapSeq λ_=> #[u,.int (ks (j+1)) t2])).get? S=some (seqObj "list" #[u,.int (ks (j+1)) t2] cc):=⟨_,get?_update_seq hS2 λ_=> #[u,.int (ks (j+1)) t2]⟩
    simp only[hb',decide_true,if_true]
    refine wpAny_bind ?_
    refine wpAny_updateSeq hS2 rfl (wpAny_bind (wpAny_letGo ?_))
    rw[hname]
    have nIS:=xQ hS2 hit2
    refine wpAny_pure ⟨plainId_quiet PySem.F.plain_min_loop _,ih (j+1) (j+1) H2 _ u t2 cc _ (by omega) hlt (Ŷ (t':=s2.toks) I2 (Cq S (by simp)) λb o hb e=>(s1.2 b hb).trans e) w2 hc2 ⟨oI',(s1.2 It nIS.symm).trans hI2,hoc,hod⟩ ((s1.2 f hFS).trans hF2) Cq hx2 ru (Nat.le_refl _) λj' hj'=>?_⟩
    by_cases e:j'=j+1
    ·subst e
     exact⟨by omega,λ_=>by omega⟩
    ·have hb1:=hbest j' (by omega)
     have hb2:=hb1.1
     exact⟨by omega,λ_=>by omega⟩
   ·simp only[hb',decide_false,Bool.false_eq_true,if_false]
    refine wpAny_bind (wpAny_letGo ?_)
    rw[hname]
    refine wpAny_pure ⟨plainId_quiet PySem.F.plain_min_loop _,ih (j+1) i H2 s2 vb tb c v (by omega) hlt I2 w2 hS2 hit2 hF2 Cq hv rv (by omega) λj' hj'=>?_⟩
    by_cases e:j'=j+1
    ·subst e
     exact⟨by omega,λ_=>by omega⟩
    ·exact hbest j' (by omega)
def yG{Q:Value->Shared->Prop}{E:Value->Shared->Prop}(hh:X.A.handled=none)(hl:∀k H,W k H->Ś X.K H l xs)(hdF:∀v,oF.data≠ .cell v)
 (turn:∀k v,xs[k]?=some v->∀pins H s u,Inv X pins σ H s->W k H->RelV v u->s.heap.get? f=some oF->wpAny (model X.prog X.w) X.A.in1 (call (.ref f) [u]) (EP X pins σ λy H'=>y=.int (ks k)/\W (k+1) H') (λ_ _=>False) s)
 (hQ:∀i v u H s,xs[i]?=some v->RelV v u->(∀j,j<xs.length->ks i<=ks j/\(j<i->ks i<ks j))->Inv X pins σ H s->W xs.length H->Q u s)
 (hQ0:∀H s,xs=[]->Inv X pins σ H s->W 0 H->Q .none s)
 (I:Inv X pins σ H s)(w0:W 0 H)(hF:s.heap.get? f=some oF)(hfo:cC X pins H f) :
 wpAny (model X.prog X.w) X.A (call (.builtin "min") [.ref l] [(Str.ofString "key",.ref f),(Str.ofString "default",.none)]) Q E s:=by
 have hname:(toString "min" ++ toString ".loop" :String)= "min.loop" := by decide
 obtain⟨its,ri,pl,_⟩:=I.list (hl _ _ w0)
 have hls:=pl.isList
 obtain⟨ol,hol,_⟩:=id hls
 have hll:l<s.heap.objs.size:=Heap.lt_size hol
 refine kmk_tree PySem.F.kind_min PySem.F.plain_min PySem.F.entry_min (Gd _ _) ?_
 show wpAny _ X.A.in1 (Builtin.Builtins.bindParams "min" ["key","default"] 0 ⟨[],[(Str.ofString "key",.ref f),(Str.ofString "default",.none)]⟩ >>= _) _ _ s
 refine wpAny_bind (wpAny_of_eq (show Builtin.Builtins.bindParams "min" ["key","default"] 0 ⟨[],[(Str.ofString "key",.ref f),(Str.ofString "default",.none)]⟩=pure [some (.ref f),some .none] from rfl) ?_)
 refine wpAny_bind (wpAny_pure ?_)
 refine wpAny_bind (wpAny_pyIter_list hls ?_)
 refine wpAny_bind (wpAny_newList ?_ (Nat.zero_le _))
 rw[hname]
 have hS:(s.heap.push {cls:=.type "list_iterator",data:=.fields #[.ref l,.int 0 0]}).objs.size=s.heap.objs.size+1:=size_push' ..
 generalize hSd:(s.heap.push {cls:=.type "list_iterator",data:=.fields #[.ref l,.int 0 0]}).objs.size=S at hS ⊢
 refine wpAny_pure ⟨plainId_quiet PySem.F.plain_min_loop _,?_⟩
 have k0:∀b o,s.heap.get? b=some o->((s.heap.push {cls:=.type "list_iterator",data:=.fields #[.ref l,.int 0 0]}).push (seqObj "list" #[] 0)).get? b=some o:=λb o e=>Heap.get?_push_of_some _ (Heap.get?_push_of_some _ e)
 have gI:((s.heap.push {cls:=.type "list_iterator",data:=.fields #[.ref l,.int 0 0]}).push (seqObj "list" #[] 0)).get? s.heap.objs.size=some {cls:=.type "list_iterator",data:=.fields #[.ref l,.int 0 0]}:=
  Heap.get?_push_of_some _ (Heap.get?_push_size _ rfl)
 have gS:((s.heap.push {cls:=.type "list_iterator",data:=.fields #[.ref l,.int 0 0]}).push (seqObj "list" #[] 0)).get? S=some (seqObj "list" #[] 0):=by rw[<-hSd];exact Heap.get?_push_size _ rfl
 have I0:Inv X pins σ H {s with heap:=(s.heap.push {cls:=.type "list_iterator",data:=.fields #[.ref l,.int 0 0]}).push (seqObj "list" #[] 0)}:=I.kept (t':=s.toks) k0
 have fI:cC X pins H s.heap.objs.size:=I.rZ (Nat.le_refl _) (I.hok.fresh (Nat.le_refl _))
 have fS:cC X pins H S:=I.rZ (by omega) (I.hok.fresh (by omega))
 have hlf:f<s.heap.objs.size:=Heap.lt_size hF
 have hFI:f≠s.heap.objs.size:=Nat.ne_of_lt hlf
 have hFS:f≠S:=Nat.ne_of_lt (by rw[hS];exact Nat.lt_succ_of_lt hlf)
 have hSI:S≠s.heap.objs.size:=by omega
 have Wa:∀b∈[S,s.heap.objs.size,f],cC X pins H b:=λb hb=>by
  rcases List.mem_cons.mp hb with rfl|hb
  ·exact fS
  ·rcases List.mem_cons.mp hb with rfl|hb
   ·exact fI
   ·rw[List.mem_singleton.mp hb];exact hfo
 obtain⟨Wd,ri0,pl0,_⟩:=I0.list (hl _ _ w0)
 have hsz:Wd.toArray.size=xs.length:=by rw[List.size_toArray,ri0.length]
 have W':=Walks.list (prog:=X.prog) (w:=X.w) (A:=X.A.in1) hh s.heap.objs.size l (Nat.ne_of_lt hll) Wd.toArray
 refine codeAny_builtin PySem.F.entry_min_loop ?_
 rw[Around.under_plainId PySem.F.plain_min_loop _]
 show wpAny _ X.A.in1 (seqItems? (.ref _) >>= _) _ _ _
 refine wpAny_bind (wpAny_seqItems gS rfl ?_)
 show wpAny _ X.A.in1 (tryCatch (pyNext (.ref s.heap.objs.size)) _ >>= _) _ _ _
 by_cases hne:0<xs.length
 case neg=>
  have hxe:xs=[]:=List.length_eq_zero_iff.mp (by omega)
  refine wpAny_bind (wpAny_tryCatch (W'.done _ _ _ ⟨by rw[hsz,hxe];exact⟨_,gI,rfl,rfl⟩,pl0.isList⟩ λh' tk' hk'=>?_))
  have I1:=Ŷ (h':=h') (t':=tk') I0 fI λb o hb e=>hk' b o (by simpa using hb) e
  exact wpAny_bind (wpAny_rule (wpAny_pure (hQ0 _ _ hxe I1 w0)))
 refine wpAny_bind (wpAny_tryCatch (W'.item 0 _ _ _ (by rw[hsz];exact hne) ⟨⟨_,gI,rfl,rfl⟩,pl0.isList⟩ λu h' tk' hP hst' hk'=>?_))
 have hu:Wd[0]?=some u:=by simpa using hP
 have hx0:xs[0]?=some xs[0]:=List.getElem?_eq_getElem hne
 have ru:RelV xs[0] u:=by
  obtain⟨u2,h2,r2⟩:=ri0.get hx0
  rw[hu] at h2
  cases h2
  exact r2
 obtain⟨oI',hoI',hoc,hod⟩:=id hst'.1
 have I1:=Ŷ (h':=h') (t':=tk') I0 fI λb o hb e=>hk' b o (by simpa using hb) e
 have hS1:=hk' S _ (by simpa using hSI) gS
 have Wb:=hk' f _ (by simpa using hFI) (k0 _ _ hF)
 show wpAny _ X.A.in1 (tryCatch (holding [u] (call (.ref f) [u])) _ >>= _) _ _ _
 refine wpAny_bind (wpAny_tryCatch (wpAny_holding (wpAny_mono (qK (fp:=[S,s.heap.objs.size,f]) I1 Wa (λb hb=>?_) (λiz I'=>turn 0 _ hx0 iz H _ u I' w0 ru Wb) λy u2 H2 s2 I2 ry ⟨ey,w2⟩ Cq Wc=>?_) (λ_ _ z=>z) λ_ _ hF=>hF.elim)))
 ·rcases List.mem_cons.mp hb with rfl|hb
  ·exact⟨_,hS1,λv z=>by cases z⟩
  ·rcases List.mem_cons.mp hb with rfl|hb
   ·exact⟨oI',hoI',λv z=>by rw[hod] at z;cases z⟩
   ·rw[List.mem_singleton.mp hb]
    exact⟨oF,Wb,hdF⟩
 ·subst ey
  obtain⟨t2,rfl⟩:=ry
  have hS2:=Wc S (by simp) _ hS1
  have hI2:=Wc s.heap.objs.size (by simp) _ hoI'
  have hF2:=Wc f (by simp) _ Wb
  have s1:=Heap.SameBut.update s2.heap S (Obj.mapSeq λ_=> #[u,.int (ks 0) t2])
  obtain⟨cc,hc2⟩:∃cc,(s2.heap.update S (Obj.mapSeq λ_=> #[u,.int (ks 0) t2])).get? S=some (seqObj "list" #[u,.int (ks 0) t2] cc):=⟨_,get?_update_seq hS2 λ_=> #[u,.int (ks 0) t2]⟩
  show wpAny _ X.A.in1 (updateSeq S (λ_=> #[u,.int (ks 0) t2]) >>= _) _ _ _
  refine wpAny_bind ?_
  refine wpAny_updateSeq hS2 rfl ?_
  rw[hname]
  refine wpAny_pure ⟨plainId_quiet PySem.F.plain_min_loop _,yF ks W hh hl hdF hFS hFI turn (λi v u' H' s' a1 a2 a3 a4 a5=>hQ i v u' H' s' a1 a2 a3 a4 a5) _ 0 0 H2 _ u t2 cc _ rfl hne (Ŷ (t':=s2.toks) I2 (Cq S (by simp)) λb o hb e=>(s1.2 b hb).trans e) w2 hc2 ⟨oI',(s1.2 _ hSI.symm).trans hI2,hoc,hod⟩ ((s1.2 f hFS).trans hF2) Cq hx0 ru (Nat.le_refl _) λj' hj'=>?_⟩
  have e:j'=0:=by omega
  subst e
  exact⟨by omega,λh=>absurd h (Nat.lt_irrefl _)⟩
end
def Wf(K:PySem.W.Frag)(ta:TA)(js:List Nat)(te:TE):TE:=λσ H Q=>ta σ H λvs H1=>∃l xs,vs=[.ref l]/\Ś K H1 l xs/\∀c q H2,Same H1 H2->H2 c=some (.Bl q)->(∀a,H1 a=none->H2 a=none\/a=c)->
 ∃(ks:Nat->Int) (W:Nat->Hp->Prop),W 0 H2/\(∀k H,W k H->Same H2 H)/\(∀k v H,xs[k]?=some v->W k H->te (cV js σ v) H λy H'=>y=.int (ks k)/\W (k+1) H')/\
  (∀i v H,xs[i]?=some v->(∀j,j<xs.length->ks i<=ks j/\(j<i->ks i<ks j))->W xs.length H->Q v H)/\(xs=[]->∀H,W 0 H->Q .non H)
section
variable{X:Cx}{x px:Str}{c P:Addr}{params:Arguments}{body e:Expr}{scope:Scope}{p pos Ca kpos dpos Ge:Pos}{dj:Nat}{ta:TA}{te:TE}
def Gf(N0:List Str)(js:List Nat)(sc:Scope)(hsc:X.env.scope=sc)(hcalm:X.calm=true)(Vl:X.A.depth<recursionLimit)(hx:x∈lams)(ht:PySem.W.tabIn X.K x=some (c,P))(hcode:X.env.code=.ref c)(hq:X.env.qual=x ++ ".<locals>.")
 (hg:Gl X "min")(hm:X.mg "min" =none)(ha:PA X [e] ta)(he:∀cl f c' s H,PE (CK X (N0 ++ [px]) (bB x) scope cl f c' X.A.in1 s H) body te)(hcap:cT X sc scope N0 js)(hlen:js.length=N0.length:=by rfl)
 (hbind:∀(cl:List (Str×Addr)) (pm ctv:Value) (c':Addr) (u:Value),bindArgs (PySem.W.kla_fn "<lambda>" (bB x) params body scope cl pm (.ref c') ctv) ⟨[u],[]⟩=pure [(px,u)]:=by intros;rfl)
 (hk:scope.kind=.function:=by rfl)(hcell:∀y∈scope.names,y.2≠ .cell:=by decide +kernel)(hpx:scope.names.lookup px=some .local:=by rfl)(hco:scope.isCoroutine=false:=by rfl)(hgen:scope.isGenerator=false:=by rfl)
 (hfree:∀y∈scope.names,y.2=.free->(sc.names.lookup y.1=some .cell\/sc.names.lookup y.1=some .free):=by decide +kernel)(hdef:defaultsOf params X.env=([],[]):=by rfl)
 (hst:starEach [e] X.env=[(false,eval e X.env)]:=by rfl)(hpl:(backTo pos (starEach [e] X.env)).any (·.1)=false:=by rfl) :
 PE X (.Call (.Name "min" p) [e] [⟨some "key",.Lambda params body scope Ca,kpos⟩,⟨some "default",.Constant .none dj dpos,Ge⟩] pos) (Wf X.K ta js te):=by
 intro pins s σ H Q I h
 obtain⟨cl,c1,c2,c3⟩:=dH (scope:=scope) (env:=X.env) λy hy hf=>I.ok.has y.1 (by
  have:=hfree y hy hf
  rw[<-hsc] at this
  exact this)
 have hh:=I.ok.hd hcalm
 refine wpAny_Call_Name_kw (fO I hg hm (show bootBuiltins "min" =some (.builtin "min") by kernel_rfl) ?_ (by decide) (by decide))
 refine callWith_kw (ŉ (ha pos pins s σ H _ I h) λus s1 ⟨vs,H1,I1,r1,q1⟩=>?_) (by rw[hst];rfl) hpl rfl rfl
 obtain⟨l,xs,rfl,hs1,q1⟩:=q1
 have eus:us=[.ref l]:=by
  cases r1 with
  |cons a b=>
   cases b
   exact congrArg (λz=>[z]) (show _=Value.ref l from a)
 subst eus
 show wpAny _ _ (evalAll ((do let v <-eval (.Lambda params body scope Ca) X.env;standAt pos;pure v)::(do let v <-eval (.Constant .none dj dpos) X.env;standAt pos;pure v)::[])) _ _ s1
 refine wpAny_evalAll_cons (wpAny_bind (Ep I1 hx ht hcode hq hdef c1 λf c' pm ctv H2 s2 I2 nw sm hc hf fo=>wpAny_bind (wpAny_standAt (wpAny_pure ?_))))
 refine wpAny_evalAll_cons (wpAny_bind ?_)
 refine Constant_none ?_
 refine wpAny_bind (wpAny_standAt (wpAny_pure ?_))
 refine wpAny_evalAll_nil ?_
 obtain⟨ks,W,w0,wm,wt,wq,wq0⟩:=q1 c' _ H2 sm hc nw
 refine yG (xs:=xs) ks W hh (λk H w=>(wm k H w).seq (sm.seq hs1)) (λv z=>by cases z) (λk v hv iz H' s' u I' w ru hf'=>?_) (λi v u H' s' hv ru hb I' w=>⟨v,H',I',ru,wq i v H' hv hb w⟩) (λH' s' hx I' w=>⟨.non,H',I',rfl,wq0 hx H' w⟩) I2 w0 hf fo
 exact Er (A:=X.A.in1) (te:=te) (N0:=N0) (js:=js) hsc hk hcap hlen hcell hpx hco hgen I.ok.frames hh Vl c2 c3 (hbind cl pm ctv c') (λs H=>he cl f c' s H) I' hf' (wm k H' w c' _ hc) ru (wt k v H' hv w)
end
end M5
namespace P
open PySem PySem.Spec PyProof.Rows L2 M2 M3 M5
def gw:List PV->List Int->Option PV
 | [],_=>some .non
 |p::ps,ks=>t_ (p::ps) ks
def Gg{items:List PV}{ks:List Int}{b:PV}(h:0<items.length)(e:gw items ks=some b):t_ items ks=some b:=by
 cases items with
 |nil=>simp at h
 |cons p ps=>exact e
def yH(js:List Nat)(me:M PV)(mr:M (List PV)):M PV:=λρ=>(mr ρ).bind λps ρ1=>match ps with
 | [.lst items]=>match vO js me ρ1 items with
   |some ks=>Res.mY (gw items ks) ρ1
   |none=>.bad
 |_=>.bad
@[simp] theorem ZaP{js:List Nat}{me:M PV}{mr:M (List PV)}{ρ:Ļ}:yH js me mr ρ=(mr ρ).bind fun ps ρ1=>match ps with
  | [.lst items]=>match vO js me ρ1 items with
    |some ks=>Res.mY (gw items ks) ρ1
    |none=>.bad
  |_=>.bad:=rfl
section
variable{X:Cx}{cm:String->Addr}{E:L2.St->XK}{x px:Str}{c Pt:Addr}{params:Arguments}{body e:Expr}{scope:Scope}{p pos Ca kpos dpos Ge:Pos}{dj:Nat}{mr:M (List PV)}{me:M PV}
def Lb{k:Nat}(N0:List Str)(js:List Nat)(sc:Scope)(hr:ŕ (k+2) X.A)(hsc:X.env.scope=sc)(hcalm:X.calm=true)(hx:x∈lams)(ht:PySem.W.tabIn X.K x=some (c,Pt))(hcode:X.env.code=.ref c)(hq:X.env.qual=x ++ ".<locals>.")
 (hg:Gl X "min")(hm:X.mg "min" =none)(ha:PA X [e] (Kg (kk X cm) E mr))(he:∀cl f c' s H,ŕ k (CK X (N0 ++ [px]) (bB x) scope cl f c' X.A.in1 s H).A->(CK X (N0 ++ [px]) (bB x) scope cl f c' X.A.in1 s H).A.units+64<cLine->PE (CK X (N0 ++ [px]) (bB x) scope cl f c' X.A.in1 s H) body (tV (kk X cm) EF me))(hcap:cT X sc scope N0 js)(hlen:js.length=N0.length:=by rfl)
 (hbind:∀(cl:List (Str×Addr)) (pm ctv:Value) (c':Addr) (u:Value),bindArgs (PySem.W.kla_fn "<lambda>" (bB x) params body scope cl pm (.ref c') ctv) ⟨[u],[]⟩=pure [(px,u)]:=by intros;rfl)
 (hk:scope.kind=.function:=by rfl)(hcell:∀y∈scope.names,y.2≠ .cell:=by decide +kernel)(hpx:scope.names.lookup px=some .local:=by rfl)(hco:scope.isCoroutine=false:=by rfl)(hgen:scope.isGenerator=false:=by rfl)
 (hfree:∀y∈scope.names,y.2=.free->(sc.names.lookup y.1=some .cell\/sc.names.lookup y.1=some .free):=by decide +kernel)(hdef:defaultsOf params X.env=([],[]):=by rfl)
 (hst:starEach [e] X.env=[(false,eval e X.env)]:=by exact aB rfl)(hpl:(backTo pos (starEach [e] X.env)).any (·.1)=false:=by rfl) :
 PE X (.Call (.Name "min" p) [e] [⟨some "key",.Lambda params body scope Ca,kpos⟩,⟨some "default",.Constant .none dj dpos,Ge⟩] pos) (tV (kk X cm) E (yH js me mr)):=λpins s σ H Q I h=>
 Gf N0 js sc hsc hcalm hr.depth hx ht hcode hq hg hm ha (λcl f c' s H=>he cl f c' s H (hr.in1.deeper _) (hr.in1.deeper _).units) hcap hlen hbind hk hcell hpx hco hgen hfree hdef hst hpl pins s σ H Q I (by
  obtain⟨cc,F,ρ,rel,h⟩:=h
  refine⟨cc,F,ρ,rel,h.bind λps ρ1 vs F1 H1 ē s1 s2 q h1=>?_⟩
  split at h1
  rotate_left
  ·exact h1.elim
  rename_i items
  split at h1
  rotate_left
  ·exact h1.elim
  rename_i kl hk'
  obtain⟨kl1,kl2⟩:=qW hk'
  cases hb:gw items kl with
  |none=>rw[hb] at h1;exact h1.elim
  |some b=>
   rw[hb] at h1
   have q':Paired (rR (kk X cm) cc σ ρ1 F1 H1) [.lst items] vs:=q
   obtain⟨l,xs,rfl,hs,hr⟩:∃l xs,vs=[.ref l]/\Ś X.K H1 l xs/\Ĕ (kk X cm) F1 items xs:=by
    cases q' with
    |cons a b=>
     cases b
     rcases a with a|a
     ·unfold Rep at a
      obtain⟨l,xs,rfl,e1,e2⟩:=a
      exact⟨l,xs,rfl,ē.sub.seq e1,e2⟩
     ·obtain⟨l,xs,rfl,e1,e2⟩:=a
      exact⟨l,xs,rfl,Ś.of e1,e2⟩
   have len:items.length=xs.length:=hr.length
   refine⟨l,xs,rfl,hs,λc q H2 sm hc nw=>⟨λk=>kl.getD k 0,λ_ H=>∃F',Gr F1 H2 F' H,⟨F1,Gr.refl (ē.sub.trans sm)⟩,λk H ⟨F',g⟩=>g.h,λk v H hv ⟨F',g⟩=>?_,λi v H hv hbest ⟨F',g⟩=>?_,λhx H ⟨F',g⟩=>?_⟩⟩
   ·have Ĳ:Rel (kk X cm) cc F1 H2 σ ρ1:=ē.call ⟨sm,Same.refl _,ē.sub.trans sm,λ_ _ z=>z⟩
    have hki:k<items.length:=by rw[len];exact(List.getElem?_eq_some_iff.mp hv).1
    obtain⟨ρ',hme⟩:=kl2 k items[k] (List.getElem?_eq_getElem hki)
    obtain⟨v',hv',rv⟩:=bD hr.pr (List.getElem?_eq_getElem hki)
    rw[hv] at hv'
    cases hv'
    refine⟨ctx0 F' H,F',lamP js ρ1 items[k],(Ĳ.call g).lam js (Rep.same g.f _ _ rv),?_⟩
    rw[hme]
    intro y F2 H3 sZ _ _ ry
    have ry':Rep (kk X cm) F2 (.int (kl.getD k 0)) y:=ry
    unfold Rep at ry'
    exact⟨ry',F2,g.trans sZ.gr⟩
   ·have Ĳ:Rel (kk X cm) cc F1 H2 σ ρ1:=ē.call ⟨sm,Same.refl _,ē.sub.trans sm,λ_ _ z=>z⟩
    have hii:i<items.length:=by rw[len];exact(List.getElem?_eq_some_iff.mp hv).1
    obtain⟨v',hv',rv⟩:=bD hr.pr (List.getElem?_eq_getElem hii)
    rw[hv] at hv'
    cases hv'
    have eb:=uc kl1 (Gg (by omega) hb) (List.getElem?_eq_getElem hii) (λj hj=>hbest j (by rw[<-len];exact hj))
    subst eb
    exact h1 v F' H (Ĳ.call g) g.f (sm.trans g.h) (Rep.same g.f _ _ rv)
   ·have Ĳ:Rel (kk X cm) cc F1 H2 σ ρ1:=ē.call ⟨sm,Same.refl _,ē.sub.trans sm,λ_ _ z=>z⟩
    have hi0:items=[]:=List.length_eq_zero_iff.mp (by rw[len,hx];rfl)
    subst hi0
    cases(show some PV.non=some b from hb)
    exact h1 .non F' H (Ĳ.call g) g.f (sm.trans g.h) (show Rep (kk X cm) F' .non .non by unfold Rep;rfl))
end
end P
namespace PySem
namespace F
def Gh:typeLookup (.type "list_reverseiterator") "__len__" =pure none:=by rw[typeLookup_type,builtinLookup_eq_fast];kernel_rfl
def Ld:typeLookup (.type "list_reverseiterator") "__length_hint__" =pure (some (.builtin "list_reverseiterator.__length_hint__")):=by rw[typeLookup_type,builtinLookup_eq_fast];kernel_rfl
end F
section
variable{prog:Program}{w:World}{A:Around}{E:Value->Shared->Prop}{s:Shared}
def ql{Q:Value->Shared->Prop}{I l:Addr}{items:Array Value}(hh:A.handled=none)(hit:s.heap.IsRevIter I l ((items.size:Int)-1))(hl:s.heap.IsList l items)(hne:l≠I)(hn:items.size<=sizeLine)
 (hQ:∀h' tk acc' c',(∀b o,b≠I→s.heap.get? b=some o→h'.get? b=some o)→
   h'.get? s.heap.objs.size=some {cls:=.type "list",dict:=none,data:=.seq acc' c',slots:=#[]}->ItemsOf (λi v=>items[items.size-1-i]?=some v) acc' items.size->Q (.ref s.heap.objs.size) {s with heap:=h',toks:=tk}) :
 wpAny (model prog w) A (call (.type "list") [.ref I]) Q E s:=by
 refine callType_codes (Q₁:= λobj s₁=>obj=.ref s.heap.objs.size/\s₁= {s with heap:=s.heap.push {cls:=.type "list",data:=.seq #[]}}) F.called_list (F.typeCall_list_1 _) F.entry_list_init
  (code_list_new _ ⟨rfl,rfl⟩) λobj s₁ h₁=>?_
 obtain⟨rfl,rfl⟩:=h₁
 generalize hSd:s.heap.objs.size=S at hQ ⊢
 have hS:(s.heap.push {cls:=.type "list",data:=.seq #[]}).get? S=some {cls:=.type "list",data:=.seq #[]}:=by rw[<-hSd];exact Heap.get?_push_size _ rfl
 have hIlt:I<S:=by obtain⟨_,e,_⟩:=hit;rw[<-hSd];exact Heap.lt_size e
 have ZdE:l<S:=by obtain⟨_,e,_⟩:=hl;rw[<-hSd];exact Heap.lt_size e
 refine⟨⟨_,hS,rfl⟩,F.args_list_init_2 _ _,?_⟩
 show wpAny _ _ (do let old <-Builtin.List.listItems (.ref S);Builtin.List.listUpdate (.ref S) (λ_=> #[]);letGo old.toList.reverse;Builtin.List.listExtendWith (.ref S) (.ref I) .none) _ _ _
 refine wpAny_bind ?_
 unfold Builtin.List.listItems
 refine wpAny_bind (wpAny_seqItems hS rfl (wpAny_pure ?_))
 show wpAny _ _ (updateSeq S (λ_=> #[]) >>= λ_=>letGo (#[]:Array Value).toList.reverse >>= λ_=>Builtin.List.listExtendWith (.ref S) (.ref I) .none) _ _ _
 refine wpAny_bind (wpAny_updateSeq hS rfl ?_)
 have hS₂:= Heap.get?_update_self (Obj.mapSeq (λ_=>(#[]:Array Value))) hS rfl
 have oth:∀b o,s.heap.get? b=some o->((s.heap.push {cls:=.type "list",data:=.seq #[]}).update S (Obj.mapSeq (λ_=>(#[]:Array Value)))).get? b=some o:=
  λb o e=>(Heap.get?_update_other _ _ (by rw[<-hSd];exact(Nat.ne_of_lt (Heap.lt_size e)).symm)).trans (Heap.get?_push_of_some _ e)
 refine wpAny_bind (wpAny_letGo ?_)
 have W:=(Walks.listRev (prog:=prog) (w:=w) (A:=A.in1.in1) hh I l hne items).toS
 have e0:(items.size:Int)-1-((0:Nat):Int)=(items.size:Int)-1:=by omega
 have hit₁:= hit.at λo e=>oth I o e
 have hl₁:= hl.at λo e=>oth l o e
 have h1:Builtin.List.listSameRef (.ref S) (.ref I)=false:=by simp[Builtin.List.listSameRef,(Nat.ne_of_lt hIlt).symm]
 unfold Builtin.List.listExtendWith
 refine wpAny_bind (wpAny_typeOf (T:= "list_reverseiterator") hit₁.typeIs ?_)
 rw[if_neg (by rw[h1];decide)]
 refine wpAny_bind (wpAny_pyIter_revIter hit₁ ?_)
 refine wpAny_bind (wpAny_holding ?_)
 unfold Builtin.List.listLengthHint
 refine wpAny_bind (wpAny_specialOf hit₁.typeIs F.Gh ?_)
 show wpAny _ _ (specialOf (Value.ref I) (Str.ofString "__length_hint__") >>= _) _ _ _
 refine wpAny_bind (wpAny_specialOf hit₁.typeIs F.Ld ?_)
 (generalize hid:("list_reverseiterator.__length_hint__" :String)=id0;(fail_if_success (clear hid id0));wp_delta;rw[show splitId id0=some ("list_reverseiterator","__length_hint__") from by subst hid;decide +kernel];subst hid)
 refine wpAny_bind (wpAny_isInstance (T:= "list_reverseiterator") (b:=true) hit₁.typeIs (by rw[isSubtype_type];kernel_rfl) ?_)
 refine wpAny_pure ?_
 rw[if_neg (by decide)]
 refine wpAny_pure ⟨plainId_quiet F.plain_extend_loop _,codeAny_extend_loopS W hn S (by simp[(Nat.ne_of_lt hIlt).symm,(Nat.ne_of_lt ZdE).symm]) .none items.size 0 _ #[] _ rfl (Nat.zero_le _) ⟨Nat.zero_le _,by rw[e0];exact hit₁,hl₁⟩ hS₂ (ItemsOf.nil _) λs' acc' c' hm hS' hacc=>?_⟩
 rw[Moved.eq_with hm]
 refine⟨rfl,hQ s'.heap s'.toks acc' c' (λb o hb e=>hm.heap b o (λhmem=>?_) (oth b o e)) hS' hacc⟩
 rcases List.mem_cons.mp hmem with e'|hmem
 ·exact absurd (e'.trans hSd.symm) (Nat.ne_of_lt (Heap.lt_size e))
 ·exact hb (by simpa using hmem)
end
end PySem
namespace P
open PySem PySem.Spec PyProof.Rows L2 M2 M3 M4
def Itv(K:PySem.W.Frag)(a:Addr)(n:Nat):It:=
 ⟨λi H=>∃xs x,Ś K H a xs/\xs.length=n/\i<n/\xs[n-1-i]?=some x,λi H x H'=>H'=H/\∀xs,Ś K H a xs->xs[n-1-i]?=some x,λi H=>i=n/\∃xs,Ś K H a xs⟩
def Gi{P:Program}{w:World}{K:PySem.W.Frag}{tg:Expr}(a it:Addr)(n:Nat):Turn P w K tg (Itv K a n) [it] it (λi h=>h.IsRevIter it a ((n:Int)-1-(i:Int))) where
 mem:=by simp
 obj:=λi h st b hb=>by
  have e:b=it:=by simpa using hb
  subst e
  obtain⟨o,e,c,d⟩:=st
  exact⟨o,e,λv z=>by rw[d] at z;cases z⟩
 keep:=λi h h' st k=>st.at λo e=>k it (by simp) o e
 item:=by
  intro X hP hw hK hc i pins s σ H E I hf st hg
  subst hP hw hK
  obtain⟨xs,x,hq,hn,hi,hx⟩:=hg
  obtain⟨its,rv,p,hz⟩:=I.list hq
  obtain⟨u,hu,ru⟩:=rv.get hx
  obtain⟨f0,f1,f2,f3,f4,f5⟩:=hf it (by simp)
  have e1:(n:Int)-1-(i:Int)=((n-1-i:Nat):Int):=by omega
  have st0:=st
  rw[e1] at st0
  refine wpAny_pyNext_rev_item st0 p.isList (x:=u) (by simpa using hu) λh' st' sb=>?_
  have e2:((n-1-i:Nat):Int)-1=(n:Int)-1-((i+1:Nat):Int):=by omega
  rw[e2] at st'
  have I1:Inv X pins σ H {s with heap:=h'}:=I.turned (t':=s.toks) (λb o hb e=>(sb.2 b hb).trans e) f0 f1 f3 f4 f5
  obtain⟨o,e,c,d⟩:=id st'
  exact⟨u,rfl,vd (s:={s with heap:=h'}) e c d (by decide) ⟨x,H,I1,ru,⟨rfl,λys hy=>by rw[I.uZ hy hq];exact hx⟩,st',λb hb=>(hf b hb).1⟩⟩
 done:=by
  intro X hP hw hK hc i pins s σ H E I hf st hg
  subst hP hw hK
  obtain⟨hi,xs,hq⟩:=hg
  obtain⟨f0,f1,f2,f3,f4,f5⟩:=hf it (by simp)
  have e1:(n:Int)-1-(i:Int)= -1:=by omega
  have st0:=st
  rw[e1] at st0
  exact wpAny_pyNext_rev_end (I.ok.hd hc) st0 λh' eb=>⟨rfl,I.turned (t':=s.toks) (λb o hb e=>eb b o hb e) f0 f1 f3 f4 f5⟩
 self:=λ_ _ _ _ _ st h=>wpAny_pyIter_revIter st h
section
variable{X:Cx}{cm:String->Addr}{E:L2.St->XK}{tg e l:Expr}{p pos p1 pos1:Pos}{mi:M (List PV)}
def ZdF(K:PySem.W.Frag)(ta:TA):TI:=λσ H R=>ta σ H λvs H1=>∃a xs,vs=[.ref a]/\Ś K H1 a xs/\R (Itv K a xs.length) H1
def Wg{ta:TA}(hg:Gl X "reversed")(hm:X.mg "reversed" =none)(ha:PA X [l] ta)(hs:starEach [l] X.env=[(false,eval l X.env)]:=by exact aB rfl):PI X tg (.Call (.Name "reversed" p) [l] [] pos) (ZdF X.K ta):=by
 intro pins s σ H R I h
 refine Call_ (fO I hg hm boot_reversed (PyProof.Rows.callWith_type1 (ŉ (ha pos pins s σ H _ I h) λus s1 ⟨vs,H1,I1,r1,q1⟩=>?_) hs rfl))
 obtain⟨a,xs,e,hq,q⟩:=q1
 subst e
 obtain⟨u,rfl,ru⟩:=r1.one
 cases ru
 obtain⟨its,rv,pl,hz⟩:=I1.list hq
 have hlen:its.toArray.size=xs.length:=by rw[List.size_toArray,<-rv.length]
 refine call_reversed_list pl.isList ?_
 have I2:Inv X pins σ H1 {s1 with heap:=s1.heap.push (revObj a ((its.toArray.size:Int)-1))}:=I1.kept (t':=s1.toks) λb o e=>Heap.get?_push_of_some _ e
 have st:(s1.heap.push (revObj a ((its.toArray.size:Int)-1))).IsRevIter s1.heap.objs.size a ((xs.length:Int)-1-((0:Nat):Int)):=⟨_,Heap.get?_push_size _ rfl,rfl,by rw[hlen];simp[revObj]⟩
 refine wpAny_pyIter_revIter (s:={s1 with heap:=s1.heap.push (revObj a ((its.toArray.size:Int)-1))}) st ⟨s1.heap.objs.size,[s1.heap.objs.size],_,_,H1,rfl,I2,Gi a _ xs.length,st,λb hb=>?_,q⟩
 have e:b=s1.heap.objs.size:=by simpa using hb
 subst e
 exact I1.rZ (Nat.le_refl _) (I1.hok.fresh (Nat.le_refl _))
def Al(m:M (List PV)):M (List PV):=λρ=>(m ρ).bind λps ρ1=>.ok ps.reverse ρ1
@[simp] theorem Zb4{m:M (List PV)}{ρ:Ļ}:Al m ρ=(m ρ).bind λps ρ1=>.ok ps.reverse ρ1:=rfl
def Gj{K:KK}{L F H:Hp}{a:Addr}{ps:List PV}{xs:List V}(hn:ps.length=xs.length)(hq:∀(c:Ctx) (F2 H2:Hp) (σ:L2.St) (ρ:Ļ),Rel K c F2 H2 σ ρ->Same F F2->Same L H2->Ś K.K H2 a xs/\Ĕ K F2 ps xs):Kq K L F (Itv K.K a xs.length) ps.reverse:=by
 intro c i F2 H2 σ ρ rel sF sL
 obtain⟨h1,h2⟩:=hq c F2 H2 σ ρ rel sF sL
 refine⟨λp hp=>?_,λhi=>⟨by rw[hi,List.length_reverse,hn],xs,h1⟩⟩
 have hi:i<ps.length:=by have:=(List.getElem?_eq_some_iff.mp hp).1;simpa using this
 rw[List.getElem?_reverse hi] at hp
 obtain⟨u,hu,ru⟩:=bD h2.pr hp
 rw[hn] at hu
 refine⟨⟨xs,u,h1,rfl,by omega,hu⟩,λx H' ⟨hH,hx⟩=>?_⟩
 subst hH
 have:=hx xs h1
 rw[hu] at this
 cases this
 exact⟨F2,rel,Same.refl _,Same.refl _,ru⟩
def ZaQ{m:M PV}(hg:Gl X "reversed")(hm:X.mg "reversed" =none)(hl:PE X l (tV (kk X cm) E m))(hs:starEach [l] X.env=[(false,eval l X.env)]:=by exact aB rfl):PI X tg (.Call (.Name "reversed" p) [l] [] pos) (tI (kk X cm) E (Al (mLs m))):=
 λpins s σ H R I h=>Wg hg hm (Ŧ hl bC hs) hs pins s σ H R I (by
  obtain⟨c,F,ρ,rel,h⟩:=h
  unfold Al mLs at h
  rw[Res.Cm] at h
  refine⟨c,F,ρ,rel,h.bind λq ρ1 v F1 H1 ē s1 s2 r1 h1=>?_⟩
  cases q with
  |lst ps=>
   have r1':Rep (kk X cm) F1 (.lst ps) v:=r1
   unfold Rep at r1'
   obtain⟨a,xs,rfl,e1,e2⟩:=r1'
   exact⟨a,xs,rfl,ē.sub.seq e1,h1 _ F1 H1 ē (Same.refl _) (Same.refl _) (Gj (H:=H1) e2.length λc' F2 H2 σ2 ρ2 Ĳ sF _=>⟨(sF.trans Ĳ.sub).seq e1,Ĕ.same sF _ _ e2⟩)⟩
  |_=>exact h1.elim)
theorem vR:∀{xs:List V} {us:List Value},Vals xs us->Vals xs.reverse us.reverse
 |_,_,.nil=>.nil
 |_,_,.cons r t=>by
  rw[List.reverse_cons,List.reverse_cons]
  exact(vR t).append (.cons r .nil)
def ZaR(K:PySem.W.Frag)(ta:TA):TE:=λσ H Q=>ta σ H λvs H1=>∃a xs,vs=[.ref a]/\Ś K H1 a xs/\∀l,H1 l=none->Q (.ref l) (upd H1 l (.lst xs.reverse))
def Le{ta:TA}(hc:X.calm=true)(hg1:Gl X "list")(hm1:X.mg "list" =none)(hg:Gl X "reversed")(hm:X.mg "reversed" =none)(ha:PA X [l] ta)(hs:starEach [l] X.env=[(false,eval l X.env)]) :
 PE X (.Call (.Name "list" p1) [.Call (.Name "reversed" p) [l] [] pos] [] pos1) (ZaR X.K ta):=by
 intro pins s σ H Q I h
 refine Call_ (fO I hg1 hm1 PySem.Pv.boot_list (PyProof.Rows.callWith_type1 ?_ rfl rfl))
 refine Calls.spliced_cons ?_
 refine Call_ (fO I hg hm boot_reversed (PyProof.Rows.callWith_type1 (ŉ (ha pos pins s σ H _ I h) λus s1 ⟨vs,H1,I1,r1,q1⟩=>?_) hs rfl))
 obtain⟨a,xs,e,hq,q⟩:=q1
 subst e
 obtain⟨u,rfl,ru⟩:=r1.one
 cases ru
 obtain⟨its,rv,pl,hz⟩:=I1.list hq
 obtain⟨oa,hoa,_⟩:=id pl.isList
 refine call_reversed_list pl.isList (Calls.spliced_nil ?_)
 have hsz:its.toArray.size<=sizeLine:=by rw[List.size_toArray,<-rv.length];exact hz
 have hS:(s1.heap.push (revObj a ((its.toArray.size:Int)-1))).objs.size=s1.heap.objs.size+1:=size_push' ..
 refine ql (I:=s1.heap.objs.size) (l:=a) (items:=its.toArray) (I1.ok.hd hc) ⟨_,Heap.get?_push_size _ rfl,rfl,rfl⟩ (pl.isList.at λo e=>Heap.get?_push_of_some _ e) (Nat.ne_of_lt (Heap.lt_size hoa)) hsz λh' tk acc' c' hk hD hI=>?_
 have ea:acc'.toList=its.reverse:=by
  refine List.ext_getElem? λi=>?_
  by_cases hi:i<its.length
  ·have hi2:i<acc'.size:=by rw[hI.1];simpa using hi
   have e1:=hI.2 i acc'[i] (Array.getElem?_eq_getElem hi2)
   rw[List.getElem?_reverse hi]
   have e2:its[its.length-1-i]?=some acc'[i]:=by simpa using e1
   rw[e2]
   simp[hi2]
  ·rw[List.getElem?_eq_none (by have:=hI.1;simp at this ⊢;omega),List.getElem?_eq_none (by simp;omega)]
 refine⟨.ref _,_,I1.laid (a:=(s1.heap.push (revObj a ((its.toArray.size:Int)-1))).objs.size) (t':=tk) (λb o e=>hk b o (Nat.ne_of_lt (Heap.lt_size e)) (Heap.get?_push_of_some _ e)) (by rw[hS];exact Nat.le_succ _) (show ų X.prog X.w _ h' _ (.lst xs.reverse) from⟨by rw[List.length_reverse];exact hz,acc'.toList,c',?_,by simpa using hD⟩),rfl,q _ (I1.hok.fresh (by rw[hS];exact Nat.le_succ _))⟩
 rw[ea]
 exact vR rv
end
end P
namespace P
open PySem PySem.Spec PyProof.Rows L2 M2 M3 M4
mutual
def jA(K:PySem.W.Frag):PV->Value->Bool
 | .int i,v=>match v with
   | .int j _=>decide (i=j)
   |_=>false
 | .tup ps,v=>match v with
   | .ref a=>match K.lookup a with
     |some o=>(match o.cls with
      | .type t=>decide (t= "tuple")
      |_=>false) && match o.data with
      | .seq its _=>decide (its.size<=16777216) && Gk K ps its.toList
      |_=>false
     |none=>false
   |_=>false
 |_,_=>false
def Gk(K:PySem.W.Frag):List PV->List Value->Bool
 | [],vs=>vs.isEmpty
 |p::ps,vs=>match vs with
  |v::r=>jA K p v && Gk K ps r
  | []=>false
end
mutual
theorem Am{K:KK}:∀(p:PV) (v:Value),jA K.K p v=true->∃x,RelV x v/\∀F,Rep K F p x
 | .int i,v,h=>by
   unfold jA at h
   split at h
   ·rename_i j t
    have:=of_decide_eq_true h
    subst this
    exact⟨.int i,⟨t,rfl⟩,λF=>by unfold Rep;rfl⟩
   ·cases h
 | .tup ps,v,h=>by
   unfold jA at h
   split at h
   ·rename_i a
    split at h
    ·rename_i o ho
     rw[Bool.and_eq_true] at h
     obtain⟨h1,h2⟩:=h
     split at h1
     ·rename_i t ht
      have et:=of_decide_eq_true h1
      subst et
      split at h2
      ·rename_i its n hd
       rw[Bool.and_eq_true] at h2
       obtain⟨xs,h3,h4⟩:=vU ps its.toList h2.2
       refine⟨.ref a,rfl,λF=>?_⟩
       unfold Rep
       exact⟨a,xs,rfl,.inr ⟨o,its,n,ho,ht,hd,by rw[Ī];exact of_decide_eq_true h2.1,h3⟩,h4 F⟩
      ·cases h2
     ·cases h1
    ·cases h
   ·cases h
 | .non,_,h=>by unfold jA at h;cases h
 | .bl _,_,h=>by unfold jA at h;cases h
 | .str _,_,h=>by unfold jA at h;cases h
 | .lst _,_,h=>by unfold jA at h;cases h
 | .ins _ _ _,_,h=>by unfold jA at h;cases h
 | .xc _ _ _,_,h=>by unfold jA at h;cases h
 | .ty _,_,h=>by unfold jA at h;cases h
 | .cls _,_,h=>by unfold jA at h;cases h
theorem vU{K:KK}:∀(ps:List PV) (vs:List Value),Gk K.K ps vs=true->∃xs,Vals xs vs/\∀F,Ĕ K F ps xs
 | [],vs,h=>by
   unfold Gk at h
   cases vs with
   |nil=>exact⟨[],.nil,λF=>Ĕ.nil⟩
   |cons _ _=>cases h
 |p::ps,vs,h=>by
  unfold Gk at h
  cases vs with
  |nil=>cases h
  |cons v r=>
   rw[Bool.and_eq_true] at h
   obtain⟨x,h1,h2⟩:=Am p v h.1
   obtain⟨xs,h3,h4⟩:=vU ps r h.2
   exact⟨x::xs,.cons h1 h3,λF=>Ĕ.cons (h2 F) (h4 F)⟩
end
def Lf{K:KK}{p:PV}{a:Addr}(h:jA K.K p (.ref a)=true)(F:Hp):Rep K F p (.ref a):=by
 obtain⟨x,h1,h2⟩:=Am p _ h
 cases x with
 |ref b=>
  have e:Value.ref a=Value.ref b:=h1
  cases e
  exact h2 F
 |non=>cases(show Value.ref a=Value.none from h1)
 |bl b=>cases(show Value.ref a=Value.bool b from h1)
 |int i=>obtain⟨t,e⟩:=(show ∃t,Value.ref a=Value.int i t from h1);cases e
 |str i=>obtain⟨t,e⟩:=(show ∃t,Value.ref a=Value.str i t from h1);cases e
 |ty n=>cases(show Value.ref a=Value.type n from h1)
 |Ji i=>obtain⟨t,e⟩:=(show ∃t,Value.ref a=Value.bytes i t from h1);cases e
 |flt i=>obtain⟨t,e⟩:=(show ∃t,Value.ref a=Value.float i t from h1);cases e
end P
namespace P
open PySem PySem.Spec PyProof.Rows L2 M2 M3 M4
section
variable{X:Cx}{cm:String->Addr}{E:L2.St->XK}{tg:Expr}{a b d:Expr}{p pos:Pos}{mr:M (List PV)}
end
end P
namespace P
open PySem PySem.Spec PyProof.Rows L2 M2 M3 M4
section
variable{X:Cx}{cm:String->Addr}{E:L2.St->XK}
end
end P
namespace P
open PySem PySem.Spec PyProof.Rows L2 M2 M3 M4
mutual
/-- no list and no object in it -/
def pf:PV->Bool
 | .tup ps=>yI ps
 | .lst _| .ins _ _ _| .xc _ _ _=>false
 |_=>true
def yI:List PV->Bool
 | []=>true
 |p::ps=>pf p && yI ps
end
section
variable{K:KK}{c:Ctx}{F H:Hp}{σ:L2.St}{ρ:Ļ}{a b:Addr}{xs ys:List V}
def Wh{x:Addr}{us:List V}(ha:F a=some (.lst xs))(hb:F b=some (.lst ys))(h:Rd F x (.tup us)):Rd (nC F a b) x (.tup us):=by
 rcases h with h|⟨o,h⟩
 ·exact .inl (jW h (λz=>by rw[z,ha] at h;cases h) (λz=>by rw[z,hb] at h;cases h))
 ·exact .inr ⟨o,jW h (λz=>by rw[z,ha] at h;cases h) (λz=>by rw[z,hb] at h;cases h)⟩
mutual
theorem Gm(ha:F a=some (.lst xs))(hb:F b=some (.lst ys)):∀(p:PV) (v:V),pf p=true->Rep K F p v->Rep K (nC F a b) p v
 | .non,_,_,h=>by unfold Rep at h ⊢;exact h
 | .bl _,_,_,h=>by unfold Rep at h ⊢;exact h
 | .int _,_,_,h=>by unfold Rep at h ⊢;exact h
 | .str _,_,_,h=>by unfold Rep at h ⊢;exact h
 | .ty _,_,_,h=>by unfold Rep at h ⊢;exact h
 | .cls _,_,_,h=>by unfold Rep at h ⊢;exact h
 | .tup ps,_,f,h=>by
   unfold pf at f
   unfold Rep at h ⊢
   obtain⟨x,us,h1,h2,h3⟩:=h
   exact⟨x,us,h1,h2.imp (Wh ha hb) id,jB ha hb ps us f h3⟩
 | .lst ps,_,f,_=>by unfold pf at f;cases f
 | .ins _ _ _,_,f,_=>by unfold pf at f;cases f
 | .xc _ _ _,_,f,_=>by unfold pf at f;cases f
theorem jB(ha:F a=some (.lst xs))(hb:F b=some (.lst ys)):∀(ps:List PV) (vs:List V),yI ps=true->Ĕ K F ps vs->Ĕ K (nC F a b) ps vs
 | [],_,_,h=>by unfold Ĕ at h ⊢;exact h
 |p::ps,_,f,h=>by
  unfold yI at f
  rw[Bool.and_eq_true] at f
  unfold Ĕ at h ⊢
  obtain⟨x,r,h1,h2,h3⟩:=h
  exact⟨x,r,h1,Gm ha hb p x f.1 h2,jB ha hb ps r f.2 h3⟩
end
theorem Rel.fr(r:Rel K c F H σ ρ){i:Nat}{bN:List (List PV)}(e:ρ[i]?=some (.fr bN)):∃(p:Addr) (as:List Addr),σ[i]?=some (some (.ref p))/\H p=some (.lst (as.map V.ref))/\F p=none/\c.B p=none/\as.Nodup/\Paired (λ(a:Addr) (ps:List PV)=>∃vs,F a=some (.lst vs)/\c.B a=none/\Ĕ K F ps vs) as bN/\ķ F σ ρ i p:=by
 obtain⟨p,as,h1,h2,h3,h4,h5,h6⟩:=r.slot i _ e
 exact⟨p,as,at_of h1,h2,h3,h4,h5,h6,_,_,e,at_of h1,rfl⟩
end
def oJ(i j:Nat):M Fl:=λρ=>match ρ[j]? with
 |some (.ow ps)=>(match ρ[i]? with
  |some (.ow [])=>if i=j then .bad else .ok .nx ((ρ.set j (.sh (.lst ps))).set i (.fr [ps]))
  |some (.fr bN)=>if i=j\/¬bN.length<16777216 then .bad else .ok .nx ((ρ.set j (.sh (.lst ps))).set i (.fr (bN ++ [ps])))
  |_=>.bad)
 |_=>.bad
section
variable{X:Cx}{cm:String->Addr}{E:L2.St->XK}
def Gn{K:KK}{c:Ctx}{F H:Hp}{σ:L2.St}{ρ:Ļ}{i j:Nat}{a p:Addr}{us:List V}{as:List Addr}{ps:List PV}{bN:List (List PV)}(hij:i≠j)(rel:Rel K c F H σ ρ)(own:ķ F σ ρ i p)(hp:σ[i]?=some (some (.ref p)))(hF:F p=none)(hB:c.B p=none)
 (hn:as.Nodup)(hr:Paired (λ(a:Addr) (ps:List PV)=>∃vs,F a=some (.lst vs)/\c.B a=none/\Ĕ K F ps vs) as bN)(ej:ρ[j]?=some (.ow ps))(ha:σ[j]?=some (some (.ref a)))(hH:H a=some (.lst us))(hFa:F a=none)(hBa:c.B a=none)(hR:Ĕ K F ps us) :
 Rel K c (upd F a (.lst us)) (upd H p (.lst ((as ++ [a]).map V.ref))) σ ((ρ.set j (.sh (.lst ps))).set i (.fr (bN ++ [ps]))):=by
 have ZaS:ķ F σ ρ j a:=⟨_,_,ej,ha,rfl⟩
 obtain⟨m1,m2⟩:=rel.move ZaS
 have m3:=m1.freeze hH hBa hFa m2
 have sF:Same F (upd F a (.lst us)):=Same.upd hFa
 have ra:Rep K (upd F a (.lst us)) (.lst ps) (.ref a):=by
  unfold Rep
  exact⟨a,us,rfl,Ś.of ĝ,hR.same sF ps us⟩
 have q:=m3.zY (i:=j) (s:=.sh (.lst ps)) rfl (show ś K c _ H _ (.sh (.lst ps)) from⟨.ref a,by rw[ha];rfl,ra⟩)
 rw[List.set_set] at q
 have npa:p≠a:=λz=>hij (rel.sep i j p own (z▸ZaS))
 have nin:a∉as:=λz=>by
  obtain⟨_,_,vs,h1,_⟩:=sV hr z
  rw[hFa] at h1;cases h1
 have ZdG:ķ (upd F a (.lst us)) σ (ρ.set j (.sh (.lst ps))) i p:=by
  obtain⟨s,x,h1,h2,h3⟩:=own
  refine⟨s,x,?_,h2,Kd sF h3⟩
  rw[List.getElem?_set_ne (Ne.symm hij)];exact h1
 refine q.write ZdG hp ⟨p,as ++ [a],rfl,ĝ,by rw[Ė npa];exact hF,hB,?_,?_⟩ λ_ z=>(V.ref.inj z).symm
 ·rw[List.nodup_append]
  refine⟨hn,by simp,λx hx y hy=>?_⟩
  simp only[List.mem_singleton] at hy
  subst hy
  exact λz=>nin (z▸hx)
 ·refine sU (nF hr λd ds _ ⟨vs,h1,h2,h3⟩=>⟨vs,sF _ _ h1,h2,h3.same sF ds vs⟩) (.cons ⟨us,ĝ,hBa,hR.same sF ps us⟩ .nil)
def Gp{i j:Nat}{D:Ends}{σ:L2.St}{H:Hp}(h:tS (kk X cm) E (oJ i j) D σ H):u_ (YW X.K "list" ju (rQ i) (zO (rQ j) Dw)) D σ H:=by
 obtain⟨c,F,ρ,rel,h⟩:=h
 unfold oJ at h
 cases e1:ρ[j]? with
 |none=>rw[e1] at h;exact h.elim
 |some s1=>
  rw[e1] at h
  cases s1 with
  |ow ps=>
   obtain⟨a,us,z1,z2,z3,z4,z5,z6⟩:=rel.ow e1
   dsimp only at h
   cases e2:ρ[i]? with
   |none=>rw[e2] at h;exact h.elim
   |some s2=>
    rw[e2] at h
    cases s2 with
    |ow ps0=>
     cases ps0 with
     |cons _ _=>exact h.elim
     |nil=>
      dsimp only at h
      split at h
      ·exact h.elim
      ·rename_i hij
       obtain⟨p,vs,w1,w2,w3,w4,w5,w6⟩:=rel.ow e2
       unfold Ĕ at w5
       subst w5
       exact⟨.ref p,w1,.inl ⟨rfl,_,Ś.of w2⟩,.ref a,z1,p,[],.ref a,rfl,rfl,w2,by rw[Ī];decide,h σ _ _ (Gn (as:=[]) (bN:=[]) hij rel w6 w1 w3 w4 List.nodup_nil .nil e1 z1 z2 z3 z4 z5) (Same.upd z3)⟩
    |fr bN=>
     dsimp only at h
     split at h
     ·exact h.elim
     ·rename_i hij
      have h1:i≠j:=λz=>hij (.inl z)
      have h2:bN.length<16777216:=Classical.byContradiction λz=>hij (.inr z)
      obtain⟨p,as,w1,w2,w3,w4,w5,w6,w7⟩:=rel.fr e2
      refine⟨.ref p,w1,.inl ⟨rfl,_,Ś.of w2⟩,.ref a,z1,p,as.map V.ref,.ref a,rfl,rfl,w2,by rw[Ī,List.length_map,Paired.length w6];exact h2,?_⟩
      have q:=Gn h1 rel w7 w1 w3 w4 w5 w6 e1 z1 z2 z3 z4 z5
      rw[List.map_append] at q
      exact h σ _ _ q (Same.upd z3)
    |_=>exact h.elim
  |_=>exact h.elim
def uf(i:Nat):M RV:=λρ=>match ρ[i]? with
 |some (.fr bN)=>(match bN.reverse with
  |q::rows=>if yI q && rows.all yI then .ok (.bn false [] q (rows.map .lst)) ρ else .bad
  | []=>.bad)
 |_=>.bad
theorem vV{K:KK}{B F:Hp}{a b:Addr}{xs ys:List V}(ha:F a=some (.lst xs))(hb:F b=some (.lst ys)):∀{as:List Addr} {bN:List (List PV)},Paired (λ(a:Addr) (ps:List PV)=>∃vs,F a=some (.lst vs)/\B a=none/\Ĕ K F ps vs) as bN->a∉as->b∉as->bN.all yI=true->Ĕ K (nC F a b) (bN.map .lst) (as.map V.ref)
 |_,_,.nil,_,_,_=>Ĕ.nil
 |_,_,.cons (a:=d) (b:=ps) ⟨vs,h1,_,h3⟩ t,n1,n2,hf=>by
  rw[List.all_cons,Bool.and_eq_true] at hf
  refine Ĕ.cons ?_ (vV ha hb t (λz=>n1 (List.mem_cons_of_mem _ z)) (λz=>n2 (List.mem_cons_of_mem _ z)) hf.2)
  unfold Rep
  exact⟨d,vs,rfl,Ś.of (jW h1 (λz=>n1 (z▸List.mem_cons_self)) (λz=>n2 (z▸List.mem_cons_self))),jB ha hb ps vs hf.1 h3⟩
def Lg(i:Nat){x:Str}{px p1 p pos pos1:Pos}(hc:X.calm=true)(hg1:Gl X "list")(hm1:X.mg "list" =none)(hg:Gl X "reversed")(hm:X.mg "reversed" =none)(hN:X.N[i]?=some x:=by rfl)(hv:wN X.env.scope x:=by first|exact Or.inl rfl|exact Or.inr (Or.inl rfl)|exact Or.inr (Or.inr rfl))(hd:(x== ("__debug__" :Str))=false:=by decide)
 (hcd:(x== ("__classdict__" :Str))=false:=by decide)(hs:starEach [.Name x px] X.env=[(false,eval (.Name x px) X.env)]:=by exact aB rfl):PE X (.Call (.Name "list" p1) [.Call (.Name "reversed" p) [.Name x px] [] pos] [] pos1) (tO (kk X cm) E (uf i)):=
 PE.wk (Le hc hg1 hm1 hg hm (Ŧ (cB hN hv hd hcd) bC hs) hs) fun σ H Q ⟨c,F,ρ,rel,h⟩=>by
   unfold uf at h
   cases e1:ρ[i]? with
   |none=>rw[e1] at h;exact h.elim
   |some s1=>
    rw[e1] at h
    cases s1 with
    |fr bN=>
     dsimp only at h
     obtain⟨p,as,w1,w2,w3,w4,w5,w6,w7⟩:=rel.fr e1
     refine⟨.ref p,w1,p,as.map V.ref,rfl,Ś.of w2,λl hl=>?_⟩
     cases er:bN.reverse with
     |nil=>rw[er] at h;exact h.elim
     |cons q rows=>
      rw[er] at h
      dsimp only at h
      split at h
      ·rename_i hf
       rw[Bool.and_eq_true] at hf
       have wr:=Es w6
       rw[er] at wr
       cases ea:as.reverse with
       |nil=>rw[ea] at wr;cases wr
       |cons b as'=>
        rw[ea] at wr
        cases wr with
        |cons hb t=>
         obtain⟨us,hb1,hb2,hb3⟩:=hb
         have hFl:F l=none:=rel.sub.free hl
         have Ĳ:=rel.alloc (o:=.lst (as.map V.ref).reverse) hl
         have sF:Same F (upd F l (.lst (as.map V.ref).reverse)):=Same.upd hFl
         have er2:(as.map V.ref).reverse=.ref b::as'.map V.ref:=by rw[<-List.map_reverse,ea];rfl
         have nd:(b::as').Nodup:=by rw[<-ea];exact List.pairwise_reverse.mpr (List.Pairwise.imp Ne.symm w5)
         have nlb:l≠b:=λz=>by rw[z,hb1] at hFl;cases hFl
         have a1:upd F l (.lst (as.map V.ref).reverse) l=some (.lst (.ref b::as'.map V.ref)):=by rw[ĝ,er2]
         refine h _ _ _ Ĳ sF (Same.upd hl) ⟨l,b,as'.map V.ref,us,a1,sF _ _ hb1,rel.base.free hl,hb2,nlb,jB a1 (sF _ _ hb1) q us hf.1 (hb3.same sF q us),?_,.inl ⟨rfl,rfl,rfl⟩⟩
         refine vV (B:=c.B) a1 (sF _ _ hb1) (nF t λd ds _ ⟨vs,k1,k2,k3⟩=>⟨vs,sF _ _ k1,k2,k3.same sF ds vs⟩) (λz=>?_) (List.nodup_cons.mp nd).1 hf.2
         obtain⟨_,_,vs,k1,_⟩:=sV t z
         rw[hFl] at k1;cases k1
      ·exact h.elim
    |_=>exact h.elim
structure yJ where
 ps:List PV
 qs:List PV
 rows:List PV
def rLB(K:KK):RR yJ (List V):=λc σ ρ F H r vs=>∃xs a b ys us,vs=xs ++ [.ref a]/\F a=some (.lst (.ref b::ys))/\F b=some (.lst us)/\c.B a=none/\c.B b=none/\a≠b/\Ĕ K (nC F a b) r.qs us/\Ĕ K (nC F a b) r.rows ys/\Ĕ K (nC F a b) r.ps xs
def ug(i:Nat):M yJ:=λρ=>match ρ[i]? with
 |some (.bn qs rows)=>.ok ⟨[],qs,rows⟩ ρ
 |_=>.bad
theorem Rel.bn{K:KK}{c:Ctx}{F H:Hp}{σ:L2.St}{ρ:Ļ}(r:Rel K c F H σ ρ){i:Nat}{qs rows:List PV}(e:ρ[i]?=some (.bn qs rows)):∃a b ys us,σ[i]?=some (some (.ref a))/\F a=some (.lst (.ref b::ys))/\F b=some (.lst us)/\c.B a=none/\c.B b=none/\a≠b/\Ĕ K (nC F a b) qs us/\Ĕ K (nC F a b) rows ys:=by
 obtain⟨v,h0,a,b,ys,us,h1,h2,h3,h4,h5,h6,h7,h8⟩:=r.slot i _ e
 rcases h8 with⟨_,_,rfl⟩|⟨z,_⟩
 ·exact⟨a,b,ys,us,at_of h0,h1,h2,h3,h4,h5,h6,h7⟩
 ·cases z
variable{e:Expr}{es:List Expr}{pos:Pos}{ma:M PV}{mo:M RV}
def Wi(i:Nat){x:Str}{px:Pos}(hN:X.N[i]?=some x:=by rfl)(hv:wN X.env.scope x:=by first|exact Or.inl rfl|exact Or.inr (Or.inl rfl)|exact Or.inr (Or.inr rfl))(hd:(x== ("__debug__" :Str))=false:=by decide)
 (hcd:(x== ("__classdict__" :Str))=false:=by decide)(hs2:starEach [.Name x px] X.env=(false,eval (.Name x px) X.env)::starEach [] X.env:=by exact aB rfl):PA X [.Name x px] (tG (kk X cm) E (rLB (kk X cm)) (ug i)):=
 PA.wk (Ŧ (cB hN hv hd hcd) bC hs2) fun σ H Q ⟨c,F,ρ,rel,h⟩=>by
   unfold ug at h
   split at h
   ·rename_i qs rows e1
    obtain⟨a,b,ys,us,h0,h1,h2,h3,h4,h5,h6,h7⟩:=rel.bn e1
    exact⟨.ref a,h0,h _ F H rel (Same.refl _) (Same.refl _) ⟨[],a,b,ys,us,rfl,h1,h2,h3,h4,h5,h6,h7,Ĕ.nil⟩⟩
   ·exact h.elim
def yK(mo:M RV)(i:Nat):M yJ:=λρ=>(mo ρ).bind λr ρ1=>match r,ρ1[i]? with
 | .ow ws,some (.bn qs rows)=>if yI ws then .ok ⟨[.lst ws],qs,rows⟩ ρ1 else .bad
 |_,_=>.bad
def Wj(i:Nat){x:Str}{px:Pos}(he:PE X e (tO (kk X cm) E mo))(hN:X.N[i]?=some x:=by rfl)(hv:wN X.env.scope x:=by first|exact Or.inl rfl|exact Or.inr (Or.inl rfl)|exact Or.inr (Or.inr rfl))(hd:(x== ("__debug__" :Str))=false:=by decide)
 (hcd:(x== ("__classdict__" :Str))=false:=by decide)(hs:starEach [e,.Name x px] X.env=(false,eval e X.env)::starEach [.Name x px] X.env:=by exact aB rfl)(hs2:starEach [.Name x px] X.env=(false,eval (.Name x px) X.env)::starEach [] X.env:=by exact aB rfl):PA X [e,.Name x px] (tG (kk X cm) E (rLB (kk X cm)) (yK mo i)):=
 PA.wk (Ŧ he (Ŧ (cB hN hv hd hcd) bC hs2) hs) fun σ H Q ⟨c,F,ρ,rel,h⟩=>⟨c,F,ρ,rel,h.bind fun r ρ1 v F1 H1 ē _ _ r1 h1=>by
   cases r with
   |ow ws=>
    obtain⟨d,vs,rfl,q1,q2,q3,q4,q5⟩:=r1
    cases e1:ρ1[i]? with
    |none=>simp only[e1] at h1;exact h1.elim
    |some s=>
     simp only[e1] at h1
     cases s with
     |bn qs rows=>
      dsimp only at h1
      split at h1
      ·rename_i hf
       obtain⟨a,b,ys,us,z0,z1,z2,z3,z4,z5,z6,z7⟩:=ē.bn e1
       have nda:d≠a:=λz=>by rw[z,z1] at q2;cases q2
       have ndb:d≠b:=λz=>by rw[z,z2] at q2;cases q2
       have sF:Same F1 (upd F1 d (.lst vs)):=Same.upd q2
       refine⟨.ref a,z0,h1 _ _ H1 (ē.freeze q1 q3 q2 q4) sF (Same.refl _) ⟨[.ref d],a,b,ys,us,rfl,sF _ _ z1,sF _ _ z2,z3,z4,z5,z6.same (aN sF) qs us,z7.same (aN sF) rows ys,Ĕ.cons ?_ Ĕ.nil⟩⟩
       unfold Rep
       exact⟨d,vs,rfl,Ś.of (jW ĝ nda ndb),jB (sF _ _ z1) (sF _ _ z2) ws vs hf (q5.same sF ws vs)⟩
      ·exact h1.elim
     |_=>exact h1.elim
   |_=>exact h1.elim⟩
def iu(ma:M PV)(mr:M yJ):M yJ:=λρ=>(ma ρ).bind λp ρ1=>(mr ρ1).bind λr ρ2=>if pf p then .ok ⟨p::r.ps,r.qs,r.rows⟩ ρ2 else .bad
def uh{mr:M yJ}(ha:PE X e (tV (kk X cm) E ma))(hr:PA X es (tG (kk X cm) E (rLB (kk X cm)) mr))(hs:starEach (e::es) X.env=(false,eval e X.env)::starEach es X.env:=by exact aB rfl):PA X (e::es) (tG (kk X cm) E (rLB (kk X cm)) (iu ma mr)):=
 PA.wk (Ŧ ha hr hs) fun σ H Q ⟨c,F,ρ,rel,h⟩=>⟨c,F,ρ,rel,h.bind fun p ρ1 v F1 H1 ē _ _ r1 h1=>⟨c,F1,ρ1,ē,h1.bind fun r ρ2 vs F2 H2 Ĳ sF sH ⟨xs,a,b,ys,us,e1,z1,z2,z3,z4,z5,z6,z7,z8⟩ h2=>by
   split at h2
   ·rename_i hf
    exact h2 _ F2 H2 Ĳ (Same.refl _) (Same.refl _) ⟨v::xs,a,b,ys,us,by rw[e1];rfl,z1,z2,z3,z4,z5,z6,z7,Ĕ.cons (Gm z1 z2 p v hf (Rep.same sF p v r1)) z8⟩
   ·exact h2.elim⟩⟩
def vW(mr:M yJ):M RV:=λρ=>(mr ρ).bind λr ρ1=>if r.ps.length<16777215 then .ok (.bn true r.ps r.qs r.rows) ρ1 else .bad
def Gq{x1}{mr:M yJ}(h:PA X es (tG (kk X cm) E (rLB (kk X cm)) mr)):PE X (.Tuple es x1 pos) (tO (kk X cm) E (vW mr)):=PE.wk (Dz h) λσ H Q ⟨c,F,ρ,rel,h⟩=>
 ⟨c,F,ρ,rel,h.bind fun r ρ1 vs F1 H1 ē _ _ ⟨xs,a,b,ys,us,e1,z1,z2,z3,z4,z5,z6,z7,z8⟩ h1=>by
   subst e1
   split at h1
   ·rename_i hz
    refine⟨by rw[List.length_append,<-z8.length,Ī];simp only[List.length_cons,List.length_nil];omega,λp hp=>?_⟩
    have Ĳ:=ē.alloc (o:=.tup (xs ++ [.ref a])) hp
    have sF:Same F1 (upd F1 p (.tup (xs ++ [.ref a]))):=Same.upd (ē.sub.free hp)
    exact h1 _ _ _ Ĳ sF (Same.upd hp) ⟨a,b,ys,us,sF _ _ z1,sF _ _ z2,z3,z4,z5,z6.same (aN sF) r.qs us,z7.same (aN sF) r.rows ys,.inr ⟨rfl,p,xs,rfl,ĝ,z8.same (aN sF) r.ps xs⟩⟩
   ·exact h1.elim⟩
end
end P
namespace P
open PySem PySem.Spec PyProof.Rows L2 M2 M3 M4
def Gs{xs:List V}{v:V}:lA (xs ++ [v]) (-1)=some v:=by
 unfold lA CG
 simp
 rw[if_pos (by omega)]
 have e:(-1+((xs.length:Int)+1)).toNat=xs.length:=by omega
 simp[e]
section
variable{K:KK}{c:Ctx}{F H:Hp}{σ:L2.St}{ρ:Ļ}{a:Addr}{o:HO}
def Rel.Gu(r:Rel K c F H σ ρ)(hF:F a=none)(hB:c.B a=none)(hf:cW F σ ρ a):Rel K c F (upd H a o) σ ρ where
 sub:=λb u e=>by
  have hb:b≠a:=λz=>by rw[z,hF] at e;cases e
  rw[Ė hb];exact r.sub b u e
 base:=λb u e=>by
  have hb:b≠a:=λz=>by rw[z,hB] at e;cases e
  rw[Ė hb];exact r.base b u e
 f0:=r.f0
 cO:=r.cO
 lent:=λb u e=>by
  have hb:b≠a:=λz=>by rw[z,r.lb a hB] at e;cases e
  rw[Ė hb];exact r.lent b u e
 lb:=r.lb
 len:=r.len
 slot:=λj s' e=>(r.slot j s' e).grow (Same.refl F) λb u ⟨y,e1,e2⟩ h1 h2 h3=>by
  have hb:b≠a:=λz=>by subst z;exact hf j ⟨s',y,e,xR e1,e2⟩
  exact⟨by rw[Ė hb];exact h1,h2⟩
 sep:=r.sep
def oK{i:Nat}{x:Option V}(h:cW F σ ρ a):cW F (σ.set i x) (ρ.set i .no) a:=λj q=>by
 have hj:j≠i:=λz=>by
  subst z
  obtain⟨s',y,q1,_,q2⟩:=q
  rcases ż q1 with⟨_,rfl,_⟩|⟨q,_⟩
  ·exact q2.elim
  ·exact q rfl
 exact h j (q.off hj)
end
def rP(K:KK):RR yJ V:=λc σ ρ F H r v=>∃p a b xs ys us,v=.ref p/\F p=some (.tup (xs ++ [.ref a]))/\H a=some (.lst (.ref b::ys))/\H b=some (.lst us)/\(F a=none/\c.B a=none/\cW F σ ρ a)/\(F b=none/\c.B b=none/\cW F σ ρ b)/\a≠b/\Ĕ K F r.ps xs/\Ĕ K F r.qs us/\Ĕ K F r.rows ys
def um(mf:MF)(mr:M (List Slot)):M yJ:=λρ=>(mr ρ).bind λps ρ1=>match mf ps with
 | .ret (.bn true ps qs rows)=>.ok ⟨ps,qs,rows⟩ ρ1
 | .exc x=>.exc x ρ1
 |_=>.bad
section
variable{X:Cx}{cm:String->Addr}{E:L2.St->XK}{CX:jL}{k n:Nat}{f:Addr}{fd:FuncData}{ps:List Str}{mf:MF}{mr:M (List Slot)}{x:Str}{p pos:Pos}{e:Expr}{es:List Expr}
def Cr{c:Ctx}{F1 H1:Hp}{σ:L2.St}{ρ1:Ļ}{Q:VK}{ps:List Slot}{vs:List V}(hlen:(∃r,mf ps=r/\∀z,r=z->z≠ .bad)->ps.length=n)(ē:Rel (kk X cm) c F1 H1 σ ρ1)(r1:Paired (aW (kk X cm) F1 H1) ps vs)
 (h:aG (kk X cm) E (rP (kk X cm)) c F1 H1 σ Q (match mf ps with| .ret (.bn true ps qs rows)=>.ok ⟨ps,qs,rows⟩ ρ1| .exc x=>.exc x ρ1|_=>.bad)):Ş (kk X cm) n mf vs H1 Q (E σ):=by
 refine⟨F1,ps,?_,ē.sub,r1,?_⟩
 ·refine hlen ⟨_,rfl,λz hz hb=>?_⟩
  rw[hz,hb] at h
  exact h
 ·cases em:mf ps with
  |bad=>rw[em] at h;exact h
  |exc x=>rw[em] at h;exact λC d F' H' g rx=>h C d F' H' (ē.call g) g.f rx
  |ret r=>
   rw[em] at h
   cases r with
   |bn t ps qs rows=>
    cases t with
    |false=>exact h.elim
    |true=>
     intro v F' H' g rf
     obtain⟨a,b,ys,us,h1,h2,h3,h4,h5,h6,h7,h8⟩:=rf
     rcases h8 with⟨z,_⟩|⟨_,p,xs,rfl,q2,q3⟩
     ·cases z
     have gG:Gr F1 H1 (nC F' a b) H':=⟨g.h,λx u e=>jW (g.f x u e) (λz=>by rw[z] at e;rw[ē.sub _ _ e] at h3;cases h3) (λz=>by rw[z] at e;rw[ē.sub _ _ e] at h4;cases h4),mX.trans g.sub,λx k1 k2=>by
      unfold nC
      split
      ·rfl
      ·exact g.out x k1 k2⟩
     have da:nC F' a b a=none:=if_pos (.inl rfl)
     have db:nC F' a b b=none:=if_pos (.inr rfl)
     exact h _ _ _ (ē.call gG) gG.f gG.h ⟨p,a,b,xs,ys,us,rfl,jW q2 (λz=>by rw[z,h1] at q2;cases q2) (λz=>by rw[z,h2] at q2;cases q2),g.sub _ _ h1,g.sub _ _ h2,⟨da,ē.base.free h3,ē.je gG.f (ē.fresh h3)⟩,⟨db,ē.base.free h4,ē.je gG.f (ē.fresh h4)⟩,h5,q3,h6,h7⟩
   |_=>exact h.elim
def Li(F:Ħ X.prog X.w X.K X.mg X.base CX k f fd ps (Ş (kk X cm) n mf))(hlen:∀{ps:List Slot},(∃r,mf ps=r/\∀z,r=z->z≠ .bad)->ps.length=n)(hr:ŕ k X.A)(hg:Gl X x)(hm:X.mg x=some (.ref f))(hk:PySem.W.keepIn X.K (.ref f)=true)(hb:Binds X.K fd ps [])(hx:bU CX X E)
 (ha:PA X (e::es) (tA (kk X cm) E mr))(hdb:(x== ("__debug__" :Str))=false:=by decide)(he:starEach (e::es) X.env=(false,eval e X.env)::starEach es X.env:=by exact aB rfl)(hpl:(backTo pos (starEach es X.env)).any (·.1)=false:=by rfl) :
 PE X (.Call (.Name x p) (e::es) [] pos) (tG (kk X cm) E (rP (kk X cm)) (um mf mr)):=by
 intro pins s σ H Q I h
 obtain⟨c,F,ρ,rel,h⟩:=h
 refine wpAny_Call_Name_kw (mL I hg hm ?_ hdb)
 refine PySem.W.callWith_K (h₀:= X.base) I.ok.mod.Yw hk (ŉ (ha pos pins s σ H (λvs H1=>Ş (kk X cm) n mf vs H1 Q (E σ)) I ⟨c,F,ρ,rel,h.bind λps' ρ1 vs F1 H1 ē _ _ r1 h1=>Cr hlen ē r1 h1⟩) λus s1 ⟨vs,H1,I1,r,q⟩=>⟨I1.jM,?_⟩) he hpl
 exact tu (by assumption) hr hb hx I1 r q
end
def Gv(i:Nat)(mP:M yJ)(mB:M Bool)(m1 m2:M Fl):M Fl:=λρ=>(mP ρ).bind λr ρ1=>if i < ρ1.length then(match mB (ρ1.set i (.sh (.tup (r.ps ++ [.lst (.lst r.qs::r.rows)])))) with
 | .ok true _=>(match m1 (ρ1.set i .no) with
   | .ok (.rt v) ρ2=>.ok (.rt v) ρ2
   |_=>.bad)
 | .ok false _=>if r.qs.length<16777216/\r.rows.length+1<16777216 then m2 (ρ1.set i .no) else .bad
 |_=>.bad) else .bad
section
variable{X:Cx}{cm:String->Addr}{E:L2.St->XK}
def ZaT{i:Nat}{x:Str}{pos pos' posB:Pos}{call tst:Expr}{ss rest:List Stmt}{mP:M yJ}{mB:M Bool}{m1 m2:M Fl}{sC sD:Stmt}
 (hA:PS X (.Assign [.Name x pos'] call pos) (TX (tG (kk X cm) E (rP (kk X cm)) mP) (Dg i)))(hT:PT X tst (tB (kk X cm) E mB))(h1:fJ X ss (tS (kk X cm) E m1))
 (hC:PS X sC (u_ (YW X.K "list" ju (Jt (rIx X.K) (Jt (rIx X.K) (rQ i) (tUn (mU λi=>.int (-i)) (tC (.int 1)))) (tC (.int 0))) (zO (tC .non) Dw))))
 (hD:PS X sD (u_ (YW X.K "list" ju (Jt (rIx X.K) (rQ i) (tUn (mU λi=>.int (-i)) (tC (.int 1)))) (zO (YK Dw) Dw))))
 (h2:fJ X rest (tS (kk X cm) E m2)) :
 fJ X (.Assign [.Name x pos'] call pos:: .If tst ss [] posB::sC::sD::rest) (tS (kk X cm) E (Gv i mP mB m1 m2)):=
 fJ.wk (fP hA (fP (Mf hT h1 zM) (fP hC (fP hD h2)))) λD σ H ⟨c,F,ρ,rel,h⟩=>⟨c,F,ρ,rel,ŧ.bind h λr ρ1 v F1 H1 ē s1 ⟨p,a,b,xs,ys,us,hv,hp,ha,hb,⟨a1,a2,a3⟩,⟨b1,b2,b3⟩,nab,rps,rqs,MP⟩ h1'=>by
  subst hv
  have r0:=ē.put (i:=i) (x:=some (.ref p)) (s:=.no) rfl trivial
  have fa:=oK (i:=i) (x:=some (.ref p)) a3
  have fb:=oK (i:=i) (x:=some (.ref p)) b3
  have rB:=r0.freeze hb b2 b1 fb
  have sB:Same F1 (upd F1 b (.lst us)):=Same.upd b1
  have a1':upd F1 b (.lst us) a=none:=by rw[Ė nab];exact a1
  have rA:=rB.freeze ha a2 a1' (r0.je sB fa)
  have sA:Same (upd F1 b (.lst us)) (upd (upd F1 b (.lst us)) a (.lst (.ref b::ys))):=Same.upd a1'
  have sAB:=sB.trans sA
  have eb:Rep (kk X cm) (upd (upd F1 b (.lst us)) a (.lst (.ref b::ys))) (.lst r.qs) (.ref b):=by
   unfold Rep;exact⟨b,us,rfl,Ś.of (sA _ _ ĝ),rqs.same sAB r.qs us⟩
  have ea:Rep (kk X cm) (upd (upd F1 b (.lst us)) a (.lst (.ref b::ys))) (.lst (.lst r.qs::r.rows)) (.ref a):=by
   unfold Rep;exact⟨a,_,rfl,Ś.of ĝ,Ĕ.cons eb (MP.same sAB r.rows ys)⟩
  have ep:Rep (kk X cm) (upd (upd F1 b (.lst us)) a (.lst (.ref b::ys))) (.tup (r.ps ++ [.lst (.lst r.qs::r.rows)])) (.ref p):=by
   unfold Rep;exact⟨p,_,rfl,dD.of (sAB _ _ hp),Ĕ.append (rps.same sAB r.ps xs) (Ĕ.cons ea Ĕ.nil)⟩
  split at h1'
  ·rename_i hl0
   have hl:i < σ.length:=by rw[ē.len];exact hl0
   have rT:=rA.zY (i:=i) (s:=.sh (.tup (r.ps ++ [.lst (.lst r.qs::r.rows)]))) rfl (show ś (kk X cm) c _ H1 _ (.sh _) from⟨.ref p,xT hl,ep⟩)
   rw[List.set_set] at rT
   refine⟨c,_,_,rT,?_⟩
   cases em:mB (ρ1.set i (.sh (.tup (r.ps ++ [.lst (.lst r.qs::r.rows)])))) with
   |bad=>rw[em] at h1';exact h1'.elim
   |exc x ρ2=>rw[em] at h1';exact h1'.elim
   |ok t ρ2=>
    rw[em] at h1'
    intro v F2 H2 _ _ s2 q
    have e:t=v:=q
    subst e
    have rK:=r0.keep s2
    cases t with
    |true=>
     refine⟨c,F1,_,rK,?_⟩
     dsimp only at h1'
     cases e1:m1 (ρ1.set i .no) with
     |bad=>rw[e1] at h1';exact h1'.elim
     |exc x ρ3=>rw[e1] at h1';exact h1'.elim
     |ok f ρ3=>
      rw[e1] at h1'
      cases f with
      |rt v=>exact h1'
      |_=>exact h1'.elim
    |false=>
     dsimp only at h1'
     split at h1'
     ·rename_i hz
      have hp2:(σ.set i (some (V.ref p)))[i]?=some (some (.ref p)):=List.getElem?_set_self hl
      have tp:H2 p=some (.tup (xs ++ [.ref a])):=rK.sub _ _ hp
      have ha2:=s2 _ _ ha
      have hb2:=s2 _ _ hb
      refine⟨.ref p,hp2,.inr (.inl ⟨p,xs ++ [.ref a],-1,.ref a,rfl,rfl,dD.of tp,Gs,.inl ⟨a,.ref b::ys,0,.ref b,rfl,rfl,Ś.of ha2,by simp[lA,CG],.inl ⟨rfl,_,Ś.of hb2⟩,b,us,.non,rfl,rfl,hb2,by rw[<-rqs.length,Ī];exact hz.1,?_⟩⟩)⟩
      have rW:=rK.Gu (o:=.lst (us ++ [.non])) b1 b2 fb
      have npb:p≠b:=λz=>by rw[z,b1] at hp;cases hp
      have npa:p≠a:=λz=>by rw[z,a1] at hp;cases hp
      have tp3:upd H2 b (.lst (us ++ [.non])) p=some (.tup (xs ++ [.ref a])):=by rw[Ė npb];exact tp
      have ha3:upd H2 b (.lst (us ++ [.non])) a=some (.lst (.ref b::ys)):=by rw[Ė nab];exact ha2
      refine⟨.ref p,hp2,.inr (.inl ⟨p,xs ++ [.ref a],-1,.ref a,rfl,rfl,dD.of tp3,Gs,.inl ⟨rfl,_,Ś.of ha3⟩,by rw[Ī];exact Nat.zero_le _,λl hl3=>?_⟩)⟩
      have nla:a≠l:=λz=>by rw[<-z,ha3] at hl3;cases hl3
      refine⟨a,.ref b::ys,.ref l,rfl,rfl,by rw[Ė nla];exact ha3,by rw[List.length_cons,<-MP.length,Ī];exact hz.2,?_⟩
      exact⟨c,F1,_,(rW.made (o:=.lst []) hl3).Gu a1 a2 fa,h1'⟩
     ·exact h1'.elim
  ·exact h1'.elim⟩
end
end P
namespace My
end My
namespace Hu
abbrev Pt:=Int×Int
def tn(a b c:Pt):Int:=(b.1-a.1)*(c.2-a.2)-(b.2-a.2)*(c.1-a.1)
section
variable{S:List Pt}{p:Pt}
end
abbrev Ln:=Int×Int×Int
def hd(l:Ln)(p:Pt):Bool:=decide (l.1*p.1+l.2.1*p.2<=l.2.2)
def Z5(a b:Pt):Ln:=(b.2-a.2,a.1-b.1,(b.2-a.2)*a.1+(a.1-b.1)*a.2)
def Z2b{a b s:Pt}:hd (Z5 a b) s=true↔0<=tn a b s:=by
 unfold hd Z5
 rw[decide_eq_true_iff]
 have e:tn a b s=((b.2-a.2)*a.1+(a.1-b.1)*a.2)-((b.2-a.2)*s.1+(a.1-b.1)*s.2):=by simp only[tn];grind
 dsimp only
 omega
def Z4(S:List Pt):List Pt:=S.foldl (λk x=>if x∈k then k else k ++ [x]) []
theorem Z0f(x:Pt):∀(S k:List Pt),x∈S.foldl (λk x=>if x∈k then k else k ++ [x]) k↔x∈k\/x∈S
 | [],k=>by simp
 |y::S,k=>by
  rw[List.foldl_cons,Z0f x S]
  by_cases h:y∈k
  ·rw[if_pos h]
   constructor
   ·rintro (q|q)
    ·exact .inl q
    ·exact .inr (List.mem_cons_of_mem _ q)
   ·rintro (q|q)
    ·exact .inl q
    ·rcases List.mem_cons.mp q with e|e
     ·exact .inl (e▸h)
     ·exact .inr e
  ·rw[if_neg h]
   simp only[List.mem_append,List.mem_cons,List.not_mem_nil,or_false]
   constructor
   ·rintro ((q|q)|q)
    ·exact .inl q
    ·exact .inr (.inl q)
    ·exact .inr (.inr q)
   ·rintro (q|q|q)
    ·exact .inl (.inl q)
    ·exact .inl (.inr q)
    ·exact .inr q
def Zp{x:Pt}{S:List Pt}:x∈Z4 S↔x∈S:=by unfold Z4;rw[Z0f];simp
def ZG(S:List Pt):List Ln:=(Z4 S).flatMap λa=>(Z4 S).filterMap λb=>if a≠b/\(Z4 S).all (hd (Z5 a b)) then some (Z5 a b) else none
def Z1g{S:List Pt}{l:Ln}:l∈ZG S↔∃a∈S,∃b∈S,a≠b/\(∀s∈S,0<=tn a b s)/\l=Z5 a b:=by
 unfold ZG
 simp only[List.mem_flatMap,List.mem_filterMap]
 constructor
 ·rintro ⟨a,ha,b,hb,h⟩
  split at h
  ·rename_i hc
   refine⟨a,Zp.mp ha,b,Zp.mp hb,hc.1,λs hs=>?_,(Option.some.inj h).symm⟩
   exact Z2b.mp (List.all_eq_true.mp hc.2 s (Zp.mpr hs))
  ·cases h
 ·rintro ⟨a,ha,b,hb,h1,h2,rfl⟩
  refine⟨a,Zp.mpr ha,b,Zp.mpr hb,?_⟩
  rw[if_pos ⟨h1,List.all_eq_true.mpr λs hs=>Z2b.mpr (h2 s (Zp.mp hs))⟩]
def mx(l:List Int):Int:=l.tail.foldl max (l.headD 0)
def mn(l:List Int):Int:=l.tail.foldl min (l.headD 0)
def box(S:List Pt):List Ln:=[(1,0,mx (S.map (·.1))),(-1,0,- mn (S.map (·.1))),(0,1,mx (S.map (·.2))),(0,-1,- mn (S.map (·.2)))]
def Zs(S:List Pt):List Ln:=box S++ZG S
def Z0U(S:List Pt)(p:Pt):Option Ln:=(Zs S).find? λl=>!hd l p
def sh2(a b p:Pt):List Int:=
 let g:=(b.1-a.1)*(p.1-a.1)+(b.2-a.2)*(p.2-a.2)
 [(b.1-a.1)*(b.1-a.1)+(b.2-a.2)*(b.2-a.2)-g,g]
def at_(S:List Pt)(i:Nat):Pt:=S.getD i (0,0)
structure Z37(S:List Pt)(p:Pt)(w:List Int)(q:List Nat):Prop where
 len:w.length=q.length
 sum:w.sum≠0
 sign:∀s∈w,0<=s*w.sum
 nd:q.Nodup
 lt:∀i∈q,i<S.length
 x:((w.zip q).map λa=>a.1*(at_ S a.2).1).sum=w.sum*p.1
 y:((w.zip q).map λa=>a.1*(at_ S a.2).2).sum=w.sum*p.2
end Hu
namespace Fr
end Fr
namespace T
open PySem L2 M2 M3 M4 P
noncomputable section
def top(i:Nat):Stmt:=PySem.Challenge.pw_shadowpost_k61_the_paper_of_a_walk.main.body.getD i (.Pass ⟨0,0,0,0⟩)
abbrev M_:Stmt:=top 68
abbrev Nb:Stmt:=top 62
abbrev Nf:Stmt:=top 63
abbrev Ng:Stmt:=top 67
abbrev Nh:Stmt:=top 69
abbrev ZaU:Stmt:=inClass (top 26) 0
abbrev Ni:Stmt:=top 27
abbrev Nj:Stmt:=top 30
abbrev Nk:Stmt:=top 29
abbrev Nm:Stmt:=top 31
abbrev Np:Stmt:=top 14
abbrev Nq:Stmt:=top 28
abbrev Nr:Stmt:=top 8
abbrev Nt:Stmt:=top 10
abbrev Nu:Stmt:=top 9
abbrev Nv:Stmt:=top 7
abbrev Nx:Stmt:=top 11
abbrev Ny:Stmt:=top 12
abbrev Nz:Stmt:=top 16
abbrev NK:Stmt:=top 52
abbrev ZaV:Stmt:=top 53
abbrev NP:Stmt:=inClass (top 55) 0
abbrev ZaW:Stmt:=inClass (top 56) 0
abbrev NQ:Stmt:=inClass (top 57) 0
abbrev ZaX:Stmt:=inClass (top 58) 0
abbrev ZaY:Stmt:=inClass (top 59) 0
abbrev NT:Stmt:=top 18
abbrev NZ:Stmt:=top 20
abbrev N_:Stmt:=top 21
abbrev Oa:Stmt:=top 22
abbrev ZaZ:Stmt:=top 23
abbrev Ob:Stmt:=top 24
abbrev Oc:Stmt:=top 15
abbrev Za0:Stmt:=top 34
abbrev Gw:Stmt:=top 35
abbrev Od:Stmt:=top 36
abbrev Oe:Stmt:=top 37
abbrev Og:Stmt:=top 38
abbrev Oh:Stmt:=top 39
abbrev Oi:Stmt:=top 40
abbrev Oj:Stmt:=top 71
abbrev Ol:Stmt:=top 72
abbrev Om:Stmt:=top 70
abbrev Oo:Stmt:=top 73
abbrev Oq:Stmt:=top 74
abbrev Ot:Stmt:=top 65
abbrev Ou:Stmt:=top 64
abbrev Ov:Stmt:=top 66
abbrev Ow:Stmt:=top 44
abbrev Ox:Stmt:=top 45
abbrev Oz:Stmt:=top 47
abbrev Za1:Stmt:=inClass (top 54) 0
abbrev OD:Stmt:=top 48
abbrev OJ:Stmt:=top 49
abbrev Za2:Stmt:=top 50
abbrev Za3:Stmt:=top 46
abbrev O_:Stmt:=top 51
abbrev Pa:Stmt:=top 60
abbrev Pb:Stmt:=top 75
def cmB(c0:Addr)(c1:Addr)(c2:Addr)(c3:Addr)(c4:Addr)(c5:Addr)(c6:Addr):String->Addr:=λs=>match s with
 | "Yard" =>c0
 | "Thing" =>c1
 | "Post" =>c2
 | "Fence" =>c3
 | "Sail" =>c4
 | "Cloth" =>c5
 | "House" =>c6
 |_=>0
def gA:M Fl:=(ę (cP (cX (au (ă ł (ă Ĩ (ă Ŋ (Ā 0) (mC (.int 7))) (mC (.int 16))) (mC (.int 11)))) (au (ă Kz (Ā 1) (mC (.int 6)))))
 (ħ (Ņ (ă Č (Ď (aA (Ą (Ľ (Ą (mC (.int 1)) (Ą (mC (.int 20)) ė))) (Ą (Ľ (Ą (mC (.int 20)) (Ą (mC (.int 1)) ė))) ė)))) (ă Ĩ (Ā 0) (mC (.int 2))))))
 fK)
 (ę (Ĥ 2 (ğ Ĝ (mC (.int 1)) (ă Ĩ (Ā 0) (bQ qO (Ą (mC (.int 5)) (Ą (Ā 1) ė))))))
 (ħ (Ņ (Ľ (Ą (Ğ 2) (Ą (Ď (ğ Ĝ (mC (.int 1)) (ă Ĩ (ă Ŋ (Ā 0) (mC (.int 5))) (bQ qO (Ą (mC (.int 4)) (Ą (ă Ŋ (Ā 1) (Ā 2)) ė)))))) ė)))))))
def gB:MF:=ı 2 3 gA
def yL:M Fl:=(ę (cP (au (ă gj (Ā 1) (bQ bK (Ą (Ā 0) ė))))
 (ħ (Ņ (ă Č (Ā 0) (Ā 1))))
 fK)
 (ħ (Ņ (mC (.int 0)))))
def Ő:MF:=ı 2 2 yL
def j_:M Fl:=(cP (au (ă ł (ă Ĩ (Ā 0) (mC (.int 2))) (mC (.int 0))))
 (ę (nJ 2 (ă Ĩ (Ā 3) (mC (.int 524287))))
 (Ĥ 3 (Ņ (ă Ŋ (Ā 3) (mC (.int 524287))))))
 (ę (Ĥ 3 (Ņ (ă Ĩ (Ď (ğ Ĝ (Ď (ğ Ĝ (ă ġ (Ā 3) (mC (.int 49157))) (mC (.int 24593)))) (ă ġ (mC (.int 2)) (Ā 4)))) (mC (.int 8388593)))))
 (nJ 2 (ă Ŋ (Ā 3) (mC (.int 16))))))
def yM:M Fl:=(ę (Ĥ 2 (aA ė))
 (ę (Ĥ 3 (Ņ (ă Ŋ (Ā 0) (mC (.int 2)))))
 (ę (cP (au (ă ł (ă Ĩ (Ā 0) (mC (.int 2))) (mC (.int 1))))
 (Ĥ 3 (Ņ (ă Ĩ (Ā 3) (mC (.int 8388593)))))
 fK)
 (ę (jh (aR aX (Ą (Ğ 1) ė)) (gN 4) j_)
 (ħ (fV 2))))))
def oM:MF:=ı 2 5 yM
def yN:M Fl:=(ę (cP (au (ă ł (ă Ĩ (ă Č (Ā 0) (mC (.int 4))) (mC (.int 6))) (mC (.int 4))))
 (ħ (Ņ (mC .non)))
 fK)
 (ę (Ĥ 1 (Ņ (ă Č (Ď (aA (Ą (mC (.int 1)) (Ą (mC (.int 1)) (Ą (mC (.int 3)) (Ą (ă nO (mC (.int 10)) (mC (.int 5))) ė)))))) (ă Ĩ (ă Č (Ā 0) (mC (.int 3))) (mC (.int 4))))))
 (ħ (Ņ (Ľ (Ą (ă ġ (ă ş (ă Ĩ (ă Č (Ā 0) (mC (.int 0))) (mC (.int 13))) (mC (.int 6))) (Ā 1)) (Ą (ă ġ (ă ş (ă Ĩ (ă Č (Ā 0) (mC (.int 1))) (mC (.int 13))) (mC (.int 6))) (Ā 1)) (Ą (ă ġ (Ď (ğ Ĝ (mC (.int 1)) (ă Ĩ (ă Č (Ā 0) (mC (.int 2))) (mC (.int 5))))) (Ā 1)) ė))))))))
def oO:MF:=ı 1 2 yN
def uo:M Fl:=(ę (Ĥ 8 (đ oM (Ĉ (Ď (ğ Ĝ (ă Ŋ (Ď (đ Ő (Ă 0 (Ĉ (Ď (ğ Ĝ (Ā 1) (Ā 7))) Ċ)))) (mC (.int 12))) (ă ġ (mC (.int 5)) (Ā 7)))) (Ĉ (Ď (ğ Ĝ (ă ġ (mC (.int 5)) (Ā 3)) (mC (.int 2)))) Ċ))))
 (ę (Ĥ 9 (Ŀ [8] 1 (aR aX (Ą (Ď (ğ Ĝ (mC (.int 1)) (ă Ĩ (ă Č (Ā 8) (mC (.int 1))) (Ā 3)))) ė)) (gN 1) Ł (Ď (đ oO (Ĉ (Ď (yc (Ā 0) (mP (Ď (ğ Ĝ (mC (.int 2)) (ă ġ (mC (.int 5)) (Ā 1))))) (mP (Ď (ğ Ĝ (mC (.int 7)) (ă ġ (mC (.int 5)) (Ā 1))))))) Ċ)))))
 (nJ 6 (Ľ (Ą (ă Č (Ā 4) (Ā 7)) (Ą (Ď (ğ Ĝ (mC (.int 1)) (ă Ĩ (ă ġ (ă Č (Ā 8) (mC (.int 0))) (mC (.int 1907))) (ă nO (mC (.int 10)) (mC (.int 9)))))) (Ą (Ğ 9) ė)))))))
def Gx:M Fl:=(ę (Ĥ 4 (aA (Ą (mC (.str "ab")) (Ą (mC (.str "a")) (Ą (mC (.str "abc")) (Ą (mC (.str "b")) (Ą (mC (.str "ba")) (Ą (mC (.str "z")) (Ą (mC (.str "zz")) (Ą (mC (.str "zzz")) (Ą (mC (.str "abcdefgh")) (Ą (mC (.str "abcdefgi")) (Ą (mC (.str "aa")) (Ą (mC (.str "bb")) ė))))))))))))))
 (ę (Ĥ 5 (Ņ (ă Ĩ (Ď (đ Ő (Ă 0 (Ă 1 Ċ)))) (mC (.int 12)))))
 (ę (Ĥ 4 (ğ Ĝ (Ď (yc (Ā 4) (mP (Ğ 5)) vJ)) (Ď (yc (Ā 4) vJ (mP (Ğ 5))))))
 (ę (Ĥ 6 (aA ė))
 (ę (jh (aR aX (Ą (Ğ 2) ė)) (gN 7) uo)
 (ħ (fV 6)))))))
def jC:MF:=ı 4 10 Gx
def Gy:M Fl:=(ę (iG 0 ["Yard"] "width" (Ğ 1))
 (ę (iG 0 ["Yard"] "height" (Ğ 2))
 (ę (iG 0 ["Yard"] "things" (Ď (lX dw (Ą (Ā 3) ė))))
 (iG 0 ["Yard"] "days" (Ď (Ŀ [] 3 (Ŕ 4) (gT 3 (ĥ (gN 0) (ĥ (gN 1) (ĥ (gN 2) ž)))) Ł (Ľ (Ą (Ğ 0) (Ą (Ğ 1) (Ą (Ď (lX dw (Ą (Ā 2) ė))) ė))))))))))
def jD:MI:=bZ 5 5 "Yard" Gy
def kh:M Fl:=(ħ (Ņ (fC (iw fG gj (mC (.int 0)) (ă Č (Ā 1) (mC (.int 0))) (bO (Ŏ ["Yard"] "width") (Ā 0))) (iw fG gj (mC (.int 0)) (ă Č (Ā 1) (mC (.int 1))) (bO (Ŏ ["Yard"] "height") (Ā 0))))))
def eV:MF:=ı 2 2 kh
def Gz:M Fl:=(cP (fW (dM (Ď (đ eV (Ă 0 (Ă 1 Ċ))))))
 Ez
 fK)
def vX:MF:=ı 2 2 Gz
def uq:M Fl:=(ħ (Ņ (iw fG gj (mC (.int 0)) (Ā 1) (bQ bK (Ą (bO (Ŏ ["Yard"] "days") (Ā 0)) ė)))))
def qX:MF:=ı 2 2 uq
def GC:M Fl:=(cP (fW (dM (Ď (đ qX (Ă 0 (Ă 1 Ċ))))))
 Ez
 fK)
def Ao:MF:=ı 2 2 GC
def GD:M Fl:=(ħ (ğ Ĝ (ă ġ (ă Č (Ā 0) (mC (.int 1))) (Ā 1)) (ă Č (Ā 0) (mC (.int 0)))))
def lG:MF:=ı 2 2 GD
def GF:M Fl:=(ħ (Ņ (ă Č (ă Č (bO (Ŏ ["Yard"] "days") (Ā 0)) (Ā 1)) (mC (.int 2)))))
def Aq:MF:=ı 2 2 GF
def GJ:M Fl:=(ę (Ĥ 1 (Ŀ [] 1 (Ŕ 0) (gN 0) Ł (ă Č (Ā 0) (mC (.int 0)))))
 (ę (Ĥ 2 (Ŀ [] 1 (Ŕ 0) (gN 0) Ł (ă Č (Ā 0) (mC (.int 1)))))
 (ħ (aA (Ą (Ľ (Ą (mC (.int 1)) (Ą (mC (.int 0)) (Ą (bQ iH (Ą (Ā 1) ė)) ė)))) (Ą (Ľ (Ą (bO aP (mC (.int 1))) (Ą (mC (.int 0)) (Ą (bO aP (bQ lF (Ą (Ā 1) ė))) ė)))) (Ą (Ľ (Ą (mC (.int 0)) (Ą (mC (.int 1)) (Ą (bQ iH (Ą (Ā 2) ė)) ė)))) (Ą (Ľ (Ą (mC (.int 0)) (Ą (bO aP (mC (.int 1))) (Ą (bO aP (bQ lF (Ą (Ā 2) ė))) ė)))) ė))))))))
def Ar:MF:=ı 1 3 GJ
def kj:M Fl:=(cP (au (ă (inD true) (Ā 2) (Ā 1)))
 (nJ 1 (Ğ 2))
 fK)
def GK:M Fl:=(ę (Ĥ 1 (aA ė))
 (ę (jh (Ŕ 0) (gN 2) kj)
 (ħ (fV 1))))
def Av:MF:=ı 1 3 GK
def GP:M Fl:=(ę (Ĥ 2 (Ņ (ă ş (ă Č (Ā 1) (mC (.int 1))) (ă Č (Ā 0) (mC (.int 1))))))
 (ę (Ĥ 3 (Ņ (ă ş (ă Č (Ā 0) (mC (.int 0))) (ă Č (Ā 1) (mC (.int 0))))))
 (ħ (Ņ (Ľ (Ą (Ğ 2) (Ą (Ğ 3) (Ą (Ď (ğ Ĝ (ă ġ (Ā 2) (ă Č (Ā 0) (mC (.int 0)))) (ă ġ (Ā 3) (ă Č (Ā 0) (mC (.int 1)))))) ė))))))))
def Aw:MF:=ı 2 4 GP
def GQ:M Fl:=(ħ (Ņ (ă fG (Ď (ğ Ĝ (ă ġ (ă Č (Ā 0) (mC (.int 0))) (ă Č (Ā 1) (mC (.int 0)))) (ă ġ (ă Č (Ā 0) (mC (.int 1))) (ă Č (Ā 1) (mC (.int 1)))))) (ă Č (Ā 0) (mC (.int 2))))))
def qY:MF:=ı 2 2 GQ
def kE:M Fl:=(ę (Ĥ 5 (đ Aw (Ă 3 (Ă 4 Ċ))))
 (cP (cX (au (ă dX (Ā 3) (Ā 4))) (dM (bQ vL (Ą (Ď (Ŀ [5] 1 (Ŕ 2) (gN 1) Ł (Ď (đ qY (Ă 0 (Ă 1 Ċ)))))) ė))))
 (nJ 1 (Ğ 5))
 fK))
def ur:M Fl:=(jh (Ŕ 2) (gN 4) kE)
def GR:M Fl:=(ę (Ĥ 1 (aA ė))
 (ę (Ĥ 2 (đ Av (Ă 0 Ċ)))
 (ę (jh (Ŕ 2) (gN 3) ur)
 (ħ (fV 1)))))
def Ax:MF:=ı 1 6 GR
def GX:M Fl:=(ħ (ğ Ĝ (Ď (đ Ar (Ă 0 Ċ))) (Ď (đ Ax (Ă 0 Ċ)))))
def Ay:MF:=ı 1 1 GX
def GZ:M Fl:=(ħ (Ņ (Ľ (Ą (Ď (ğ Ĝ (ă ġ (ă Č (Ā 1) (mC (.int 2))) (ă Č (Ā 0) (mC (.int 0)))) (ă ġ (ă Č (Ā 1) (mC (.int 0))) (ă Č (Ā 0) (mC (.int 2)))))) (Ą (Ď (ğ Ĝ (ă ġ (ă Č (Ā 1) (mC (.int 2))) (ă Č (Ā 0) (mC (.int 1)))) (ă ġ (ă Č (Ā 1) (mC (.int 1))) (ă Č (Ā 0) (mC (.int 2)))))) ė)))))
def qZ:MF:=ı 2 2 GZ
def G_:M Fl:=(ħ (aA (Ą (Ľ (Ą (Ğ 0) (Ą (Ğ 1) (Ą (Ğ 4) ė)))) (Ą (Ľ (Ą (Ğ 2) (Ą (Ğ 1) (Ą (Ğ 4) ė)))) (Ą (Ľ (Ą (Ğ 2) (Ą (Ğ 3) (Ą (Ğ 4) ė)))) (Ą (Ľ (Ą (Ğ 0) (Ą (Ğ 3) (Ą (Ğ 4) ė)))) ė))))))
def q_:MF:=ı 5 5 G_
def Ph:M Fl:=(ħ (ğ Ĝ (Ď (đ q_ (Ă 0 (Ă 1 (Ă 2 (Ă 3 (Ĉ (mC (.int 0)) Ċ))))))) (Ď (đ q_ (Ă 0 (Ă 1 (Ă 2 (Ă 3 (Ă 4 Ċ)))))))))
def Hf:MF:=ı 5 5 Ph
def Hg:M Fl:=(ę (Ĥ 1 (Ņ (ă ġ (mC (.int 2)) (ă Č (bO (Ŏ ["Thing","Post","Fence","Sail","Cloth","House"] "numbers") (Ā 0)) (mC (.int 0))))))
 (ę (Ĥ 2 (Ņ (ă ġ (mC (.int 2)) (ă Č (bO (Ŏ ["Thing","Post","Fence","Sail","Cloth","House"] "numbers") (Ā 0)) (mC (.int 1))))))
 (ħ (đ Hf (Ĉ (ă ş (Ā 1) (mC (.int 1))) (Ĉ (ă ş (Ā 2) (mC (.int 1))) (Ĉ (Ď (ğ Ĝ (Ā 1) (mC (.int 1)))) (Ĉ (Ď (ğ Ĝ (Ā 2) (mC (.int 1)))) (Ĉ (ă Č (bO (Ŏ ["Thing","Post","Fence","Sail","Cloth","House"] "numbers") (Ā 0)) (mC (.int 2))) Ċ)))))))))
def lH:MF:=ı 1 3 Hg
def Pj:M Fl:=(ę (Ĥ 1 (Ņ (bO (Ŏ ["Thing","Post","Fence","Sail","Cloth","House"] "numbers") (Ā 0))))
 (ę (Ĥ 2 (Ņ (Ľ (Ą (ă Č (Ā 1) (mC (.int 0))) (Ą (ă Č (Ā 1) (mC (.int 1))) ė)))))
 (ę (Ĥ 3 (Ņ (Ľ (Ą (ă Č (Ā 1) (mC (.int 2))) (Ą (ă Č (Ā 1) (mC (.int 3))) ė)))))
 (ħ (aA (Ą (Ď (ğ Ĝ (Ā 2) (Ľ (Ą (mC (.int 0)) ė)))) (Ą (Ď (ğ Ĝ (Ā 3) (Ľ (Ą (mC (.int 0)) ė)))) (Ą (Ď (ğ Ĝ (Ā 3) (Ľ (Ą (ă Č (Ā 1) (mC (.int 4))) ė)))) (Ą (Ď (ğ Ĝ (Ā 2) (Ľ (Ą (ă Č (Ā 1) (mC (.int 4))) ė)))) ė)))))))))
def vY:MF:=ı 1 4 Pj
def Hh:M Fl:=(ę (Ĥ 1 (Ņ (bO (Ŏ ["Thing","Post","Fence","Sail","Cloth","House"] "numbers") (Ā 0))))
 (ħ (đ q_ (Ĉ (ă Č (Ā 1) (mC (.int 0))) (Ĉ (ă Č (Ā 1) (mC (.int 1))) (Ĉ (ă Č (Ā 1) (mC (.int 2))) (Ĉ (ă Č (Ā 1) (mC (.int 3))) (Ĉ (ă Č (Ā 1) (mC (.int 4))) Ċ))))))))
def lJ:MF:=ı 1 2 Hh
def Pk:M Fl:=(ħ (Ŀ [0] 1 (ň (Ľ (Ą (mC (.int 0)) (Ą (mC (.int 3)) (Ą (mC (.int 6)) ė))))) (gN 1) Ł (bQ nZ (Ą (Ď (yc (bO (Ŏ ["Thing","Post","Fence","Sail","Cloth","House"] "numbers") (Ā 0)) (mP (Ğ 1)) (mP (Ď (ğ Ĝ (Ā 1) (mC (.int 3))))))) ė))))
def vZ:MF:=ı 1 1 Pk
def Pn:M Fl:=(ę (Ĥ 1 (Ņ (bO (Ŏ ["Thing","Post","Fence","Sail","Cloth","House"] "numbers") (Ā 0))))
 (ħ (đ Hf (Ĉ (ă Č (Ā 1) (mC (.int 0))) (Ĉ (ă Č (Ā 1) (mC (.int 1))) (Ĉ (ă Č (Ā 1) (mC (.int 2))) (Ĉ (ă Č (Ā 1) (mC (.int 3))) (Ĉ (ă Č (Ā 1) (mC (.int 4))) Ċ))))))))
def wg:MF:=ı 1 2 Pn
def Hi:M Fl:=(ħ (Ŀ [1] 1 (ň (Ď (ou "corners" [("Post",lH),("Fence",vY),("Sail",lJ),("Cloth",vZ),("House",wg)] (Ğ 0) Ċ))) (gN 1) Ł (Ď (đ qZ (Ă 1 (Ă 0 Ċ))))))
def wj:MF:=ı 2 2 Hi
def yO:M Fl:=(ę (cP (au (ă gj (Ā 1) (Ā 0)))
 (ħ (Ņ (mC (.int 0))))
 fK)
 (ħ (Ņ (ă ş (ă vH (mC (.int 1)) (Ď (ğ Ĝ (Ā 1) (mC (.int 1))))) (ă vH (mC (.int 1)) (Ā 0))))))
def rm:MF:=ı 2 2 yO
def cH:M Fl:=(ę (Ĥ 9 (Ņ (ă ġ (Ā 6) (Ā 1))))
 (ę (Ĥ 10 (Ņ (ă ş (Ā 8) (ă ġ (ă ġ (Ā 7) (Ā 1)) (Ā 2)))))
 (cP (au (ă Kz (Ā 9) (mC (.int 0))))
 (Ĥ 5 (Ņ (bQ qO (Ą (Ā 5) (Ą (ă Ŋ (Ā 10) (Ā 9)) ė)))))
 (cP (au (ă gj (Ā 9) (mC (.int 0))))
 (Ĥ 4 (Ņ (bQ Ah (Ą (Ā 4) (Ą (bO aP (ă Ŋ (Ā 10) (bO aP (Ā 9)))) ė)))))
 (cP (au (ă gj (Ā 10) (mC (.int 0))))
 (ħ (Ņ (mC (.int 0))))
 fK)))))
def yP:M Fl:=(ę (Ĥ 4 (Ņ (mC (.int 0))))
 (ę (Ĥ 5 (Ņ (ă ş (Ā 3) (mC (.int 1)))))
 (ę (jh (Ŕ 0) (gT 3 (ĥ (gN 6) (ĥ (gN 7) (ĥ (gN 8) ž)))) cH)
 (ħ (đ rm (Ă 4 (Ă 5 Ċ)))))))
def wu:MF:=ı 4 11 yP
def uw:M Fl:=(vN 4 (ă vH (Ď (đ wu (Ă 3 (Ĉ (ă ġ (mC (.int 2)) (ă Č (Ā 2) (mC (.int 2)))) (Ă 5 (Ĉ (bO (Ŏ ["Yard"] "width") (Ā 0)) Ċ)))))) (ă ġ (Ā 5) (bO (Ŏ ["Yard"] "width") (Ā 0)))))
def Hj:M Fl:=(ę (Ĥ 3 (đ Ay (Ĉ (Ď (đ wj (Ă 1 (Ă 2 Ċ)))) Ċ)))
 (ę (Ĥ 4 (Ņ (mC (.int 0))))
 (ę (jh (aR aX (Ą (bO (Ŏ ["Yard"] "height") (Ā 0)) ė)) (gN 5) uw)
 (ħ (fV 4)))))
def rz:MF:=ı 3 6 Hj
def Pq:M Fl:=(ħ (Ŀ [0,1] 1 (ň (bO (Ŏ ["Yard"] "things") (Ā 0))) (gN 2) Ł (Ď (đ rz (Ă 0 (Ă 2 (Ă 1 Ċ)))))))
def Lj:MF:=ı 2 2 Pq
def yQ:M Fl:=(vN 2 (Ğ 3))
def yR:M Fl:=(ę (cP (au (ă qe (Ā 1) (mC .non)))
 (ħ (đ rm (Ĉ (mC (.int 0)) (Ĉ (ă ş (ă ġ (bO (Ŏ ["Yard"] "width") (Ā 0)) (bO (Ŏ ["Yard"] "height") (Ā 0))) (mC (.int 1))) Ċ))))
 fK)
 (ę (Ĥ 2 (Ņ (mC (.int 0))))
 (ę (jh (ň (Ď (đ Lj (Ă 0 (Ă 1 Ċ))))) (gN 3) yQ)
 (ħ (fV 2)))))
def iM:MF:=ı 2 4 yR
def Hl:M Fl:=(ħ (Ņ (Ľ (Ą (ă Ĩ (Ā 0) (Ā 1)) (Ą (ă Ŋ (Ā 0) (Ā 1)) ė)))))
def rC:MF:=ı 2 2 Hl
def Pr:M Fl:=(ę (Ĥ 2 (đ rC (Ă 1 (Ĉ (bO (Ŏ ["Yard"] "width") (Ā 0)) Ċ))))
 (ę (Ĥ 3 (Ŀ [2] 2 (ň (mC (.tup [.tup [.int (-1),.int 0],.tup [.int 1,.int 0],.tup [.int 0,.int (-1)],.tup [.int 0,.int 1],.tup [.int 0,.int 0]]))) (gT 2 (ĥ (gN 1) (ĥ (gN 2) ž))) Ł (Ľ (Ą (Ď (ğ Ĝ (ă Č (Ā 0) (mC (.int 0))) (Ā 1))) (Ą (Ď (ğ Ĝ (ă Č (Ā 0) (mC (.int 1))) (Ā 2))) ė)))))
 (ħ (Ŀ [0] 1 (Ŕ 3) (gN 1) (dM (Ď (đ eV (Ă 0 (Ă 1 Ċ))))) (Ď (đ lG (Ă 1 (Ĉ (bO (Ŏ ["Yard"] "width") (Ā 0)) Ċ))))))))
def Lk:MF:=ı 2 4 Pr
def ux:M Fl:=(ę (Ĥ 3 (Ŀ [2] 1 (ň (Ď (đ Lk (Ă 0 (Ă 1 Ċ))))) (gN 1) (au (ă bV (ă Č (Ā 0) (Ā 1)) (mC .non))) (Ğ 1)))
 (ħ (Ņ (yH [2] (ă Č (Ā 0) (Ā 1)) (Ą (Ā 3) ė)))))
def oR:MF:=ı 3 4 ux
def uy:M Fl:=(ę (cP (au (ă ł (Ā 1) (Ā 2)))
 (ħ (Ņ (mC (.int 0))))
 fK)
 (ę (Ĥ 4 (đ oR (Ă 0 (Ă 1 (Ă 3 Ċ)))))
 (ħ (Ņ (cP (au (ă qe (Ā 4) (mC .non))) (mC .non) (ă Č (Ā 3) (Ā 4)))))))
def rD:MF:=ı 4 5 uy
def oU:M Fl:=(ę (Ĥ 7 (đ rD (Ă 0 (Ă 6 (Ă 2 (Ă 3 Ċ))))))
 (ę (Ĥ 8 (Ņ (ă ş (mC (.int 1)) (ă xY (ă Ae (Ā 4) (Ā 6)) (mC (.int 1))))))
 (nJ 5 (cP (au (ă qe (Ā 7) (mC .non))) (mC .non) (Ď (ğ Ĝ (Ā 8) (Ā 7)))))))
def Ho:M Fl:=(ę (Ĥ 4 (đ iM (Ă 0 (Ă 1 Ċ))))
 (ę (Ĥ 5 (aA ė))
 (ę (jh (aR aX (Ą (ă ġ (bO (Ŏ ["Yard"] "width") (Ā 0)) (bO (Ŏ ["Yard"] "height") (Ā 0))) ė)) (gN 6) oU)
 (ħ (fV 5)))))
def Az:MF:=ı 4 9 Ho
def jj:M Fl:=(ę (Ĥ 4 (đ Az (Ă 0 (Ă 5 (Ă 2 (Ă 4 Ċ))))))
 (oJ 3 4))
def Hq:M Fl:=(ę (Ĥ 3 (aA ė))
 (ę (Ĥ 4 (Ŀ [] 1 (aR aX (Ą (ă ġ (bO (Ŏ ["Yard"] "width") (Ā 0)) (bO (Ŏ ["Yard"] "height") (Ā 0))) ė)) (gN 0) Ł (mC .non)))
 (ę (jh (Al (mLs (Ď (đ Aq (Ă 0 (Ă 1 Ċ)))))) (gN 5) jj)
 (ħ (uf 3)))))
def A_:MF:=ı 3 6 Hq
def Hr:M Fl:=(ţ (au (ă dX (ă Č (Ā 4) (bO aP (mC (.int 1)))) (Ā 2)))
 (nJ 4 (Ď (đ oR (Ă 0 (Ĉ (ă Č (Ā 4) (bO aP (mC (.int 1)))) (Ĉ (ă Č (Ā 3) (bQ bK (Ą (Ā 4) ė))) Ċ)))))))
def Hs:M Fl:=(ę (Ĥ 4 (aA (Ą (Ğ 1) ė)))
 (ę Hr
 (ħ (Ŀ [0] 1 (Ŕ 4) (gN 1) Ł (Ď (đ rC (Ă 1 (Ĉ (bO (Ŏ ["Yard"] "width") (Ā 0)) Ċ))))))))
def wz:MF:=ı 4 5 Hs
def yS:M Fl:=(ę (nH (Ď (đ vX (Ă 0 (Ă 2 Ċ)))))
 (ę (nH (Ď (đ vX (Ă 0 (Ă 3 Ċ)))))
 (ę (nH (Ď (đ Ao (Ă 0 (Ă 1 Ċ)))))
 (ę (Ĥ 4 (đ lG (Ă 2 (Ĉ (bO (Ŏ ["Yard"] "width") (Ā 0)) Ċ))))
 (ę (Ĥ 5 (đ lG (Ă 3 (Ĉ (bO (Ŏ ["Yard"] "width") (Ā 0)) Ċ))))
 (ę (Ĥ 6 (đ A_ (Ă 0 (Ă 1 (Ă 5 Ċ)))))
 (ę (cP (au (ă qe (ă Č (ă Č (Ā 6) (mC (.int 0))) (Ā 4)) (mC .non)))
 (ħ (vW (iu (mC (.str "none")) (ug 6))))
 fK)
 (ħ (vW (iu (mC (.str "walk")) (iu (ă Č (ă Č (Ā 6) (mC (.int 0))) (Ā 4)) (yK (đ wz (Ă 0 (Ă 4 (Ă 5 (Ă 6 Ċ))))) 6))))))))))))
def iQ:MF:=ı 4 7 yS
def Ht:M Fl:=(ę (Vr 3 4 (Ą (ă Ĩ (Ā 1) (ă Č (Ā 0) (mC (.int 0)))) (Ą (ă Ŋ (Ā 1) (ă Č (Ā 0) (mC (.int 0)))) ė)))
 (ę (Ĥ 2 (aA (Ą (Ľ (Ą (Ğ 3) (Ą (Ğ 4) ė))) (Ą (Ľ (Ą (ă ş (Ā 3) (mC (.int 1))) (Ą (Ğ 4) ė))) (Ą (Ľ (Ą (Ď (ğ Ĝ (Ā 3) (mC (.int 1)))) (Ą (Ğ 4) ė))) (Ą (Ľ (Ą (Ğ 3) (Ą (ă ş (Ā 4) (mC (.int 1))) ė))) (Ą (Ľ (Ą (Ğ 3) (Ą (Ď (ğ Ĝ (Ā 4) (mC (.int 1)))) ė))) ė)))))))
 (ħ (Ŀ [0] 2 (Ŕ 2) (gT 2 (ĥ (gN 1) (ĥ (gN 2) ž))) (cX (au (iw fG gj (mC (.int 0)) (Ā 1) (ă Č (Ā 0) (mC (.int 0))))) (au (iw fG gj (mC (.int 0)) (Ā 2) (ă Č (Ā 0) (mC (.int 1)))))) (Ď (ğ Ĝ (ă ġ (Ā 2) (ă Č (Ā 0) (mC (.int 0)))) (Ā 1)))))))
def Ba:MF:=ı 2 5 Ht
def kI:M Fl:=(ę (Ĥ 5 (Ņ (ă ş (mC (.int 1)) (ă Ĩ (ă Ae (Ā 1) (Ā 3)) (mC (.int 2))))))
 (ę (cP (au (ă ł (Ā 3) (Ā 4)))
 (ħ (fV 5))
 fK)
 (ę (cP (au (ă qe (Ā 2) (mC .non)))
 (ħ (Ņ (mC .non)))
 fK)
 (ę (Ĥ 6 (Ŀ [2] 1 (ň (Ď (đ Ba (Ă 0 (Ă 3 Ċ))))) (gN 1) (au (ă bV (ă Č (Ā 0) (Ā 1)) (mC .non))) (ă Č (Ā 0) (Ā 1))))
 (ę (cP (au (ă ł (Ā 6) (Ď (aA ė))))
 (ħ (Ņ (mC .non)))
 fK)
 (ħ (ğ Ĝ (Ā 5) (bQ lF (Ą (Ā 6) ė)))))))))
def eX:MF:=ı 5 7 kI
def Hv:M Fl:=(ħ (Ņ (fC (bQ jX (Ą (Ā 0) (Ą (mC (.ty "int")) ė))) (Vq (bQ jX (Ą (Ā 0) (Ą (mC (.ty "bool")) ė)))))))
def Bb:MF:=ı 1 1 Hv
def uz:M Fl:=(ę (Ĥ 6 (Ņ (ă Č (Ď (ğ Ĝ (Ā 0) (Ď (aA (Ą (mC .non) ė))))) (Ď (ğ Ĝ (Ā 4) (mC (.int 1)))))))
 (ę (Ĥ 7 (Ŀ [1,6,3,2,4] 1 (aR aX (Ą (bQ bK (Ą (ă Č (Ā 0) (Ā 4)) ė)) ė)) (gN 5) Ł (Ď (đ eX (Ă 0 (Ĉ (ă Č (Ā 3) (Ā 4)) (Ă 1 (Ă 5 (Ă 2 Ċ)))))))))
 (cP (au (ă dX (ă Č (Ā 0) (Ā 4)) (Ā 7)))
 (ħ (Ņ (mC (.bl false))))
 fK)))
def oW:M Fl:=(cP (cX (au (ă bV (Ā 5) (mC .non))) (fW (dM (Ď (đ Bb (Ă 5 Ċ))))))
 (ħ (Ņ (mC (.bl false))))
 fK)
def uD:M Fl:=(ę (cP (Cd (fW (dM (bQ jX (Ą (ă Č (Ā 0) (Ā 4)) (Ą (mC (.ty "list")) ė))))) (au (ă dX (bQ bK (Ą (ă Č (Ā 0) (Ā 4)) ė)) (ă ġ (ă Č (Ā 1) (mC (.int 0))) (ă Č (Ā 1) (mC (.int 1)))))))
 (ħ (Ņ (mC (.bl false))))
 fK)
 (jh (ň (ă Č (Ā 0) (Ā 4))) (gN 5) oW))
def Hw:M Fl:=(ę (cP (Cd (fW (dM (bQ jX (Ą (Ā 0) (Ą (mC (.ty "list")) ė))))) (au (ă dX (bQ bK (Ą (Ā 0) ė)) (bQ bK (Ą (Ā 2) ė)))))
 (ħ (Ņ (mC (.bl false))))
 fK)
 (ę (jh (aR aX (Ą (bQ bK (Ą (Ā 2) ė)) ė)) (gN 4) uD)
 (ę (jh (aR aX (Ą (bQ bK (Ą (Ā 2) ė)) ė)) (gN 4) uz)
 (ħ (Ņ (mC (.bl true)))))))
def Bc:MF:=ı 4 8 Hw
def yU:M Fl:=(ę (cP (Cd (fW (dM (bQ jX (Ą (Ā 0) (Ą (mC (.ty "tuple")) ė))))) (Cd (au (ă ł (Ā 0) (Ľ ė))) (fW (dM (Ď (đ Bc (Ĉ (ă Č (Ā 0) (bO aP (mC (.int 1)))) (Ă 1 (Ă 2 (Ă 4 Ċ))))))))))
 (ħ (Ņ (mC (.bl false))))
 fK)
 (ę (cP (au (ă qe (ă Č (ă Č (ă Č (Ā 0) (bO aP (mC (.int 1)))) (mC (.int 0))) (Ā 3)) (mC .non)))
 (ħ (Ņ (fC (ă ł (bQ bK (Ą (Ā 0) ė)) (mC (.int 2))) (ă ł (ă Č (Ā 0) (mC (.int 0))) (mC (.str "none"))))))
 fK)
 (ħ (Ņ (fC (ă ł (bQ bK (Ą (Ā 0) ė)) (mC (.int 4))) (ă ł (ă Č (Ā 0) (mC (.int 0))) (mC (.str "walk"))))))))
def lK:MF:=ı 5 5 yU
def yV:M Fl:=(ę (cP (au (ă ł (ă Ĩ (ă Ŋ (Ā 0) (mC (.int 512))) (mC (.int 12))) (mC (.int 7))))
 (ħ (ğ Ĝ (mC (.int 1)) (ă Ĩ (ă ġ (Ā 0) (mC (.int 1907))) (ă nO (mC (.int 10)) (mC (.int 9))))))
 fK)
 (ħ (ğ Ĝ (mC (.int 1)) (ă Ĩ (Ā 0) (mC (.int 9))))))
def rE:MF:=ı 1 1 yV
def yW:M Fl:=(ę (cP (au (ă ł (ă Ĩ (ă Ŋ (Ā 0) (mC (.int 512))) (mC (.int 16))) (mC (.int 5))))
 (ħ (ğ Ĝ (ă ş (ă Ĩ (ă ġ (Ā 0) (mC (.int 3813))) (ă ş (ă ġ (mC (.int 2)) (ă nO (mC (.int 10)) (mC (.int 9)))) (mC (.int 99)))) (ă nO (mC (.int 10)) (mC (.int 9)))) (mC (.int 50))))
 fK)
 (ħ (Ņ (ă ş (ă Ĩ (Ā 0) (Ď (ğ Ĝ (ă ġ (mC (.int 2)) (Ā 1)) (mC (.int 9))))) (mC (.int 4))))))
def iR:MF:=ı 2 2 yW
def kJ:M Fl:=(ę (Ĥ 2 (đ oM (Ă 0 (Ĉ (mC (.int 14)) Ċ))))
 (ę (Km (gS 2 (ĥ (gN 5) (ĥ (gN 6) ž))) (Ď (Ŀ [1,2] 1 (aR aX (Ą (mC (.int 2)) ė)) (gN 2) Ł (Ď (đ iR (Ĉ (ă Č (Ā 1) (Ā 2)) (Ă 0 Ċ)))))))
 (ę (Ĥ 3 (đ rE (Ĉ (ă Č (Ā 2) (mC (.int 2))) Ċ)))
 (ę (Ĥ 4 (Ņ (ă Ĩ (ă Č (Ā 2) (mC (.int 3))) (mC (.int 5)))))
 (ę (cP (au (ă ł (Ā 4) (mC (.int 0))))
 (ħ (Ņ (Ľ (Ą (mC (.str "post")) (Ą (Ď (aA (Ą (ă Ŋ (Ā 5) (mC (.int 2))) (Ą (ă Ŋ (Ā 6) (mC (.int 2))) (Ą (Ğ 3) ė))))) ė)))))
 fK)
 (ę (cP (au (ă ł (Ā 4) (mC (.int 1))))
 (ę (Km (gS 2 (ĥ (gN 7) (ĥ (gN 8) ž))) (Ď (aA (Ą (ă ş (Ď (ğ Ĝ (Ā 5) (ă Ĩ (ă Č (Ā 2) (mC (.int 4))) (mC (.int 9))))) (mC (.int 4))) (Ą (ă ş (Ď (ğ Ĝ (Ā 6) (ă Ĩ (ă Č (Ā 2) (mC (.int 5))) (mC (.int 9))))) (mC (.int 4))) ė)))))
 (ħ (Ņ (Ľ (Ą (mC (.str "fence")) (Ą (Ď (aA (Ą (Ğ 5) (Ą (Ğ 6) (Ą (Ď (ğ Ĝ (Ā 7) (bQ FW (Ą (ă ł (Ľ (Ą (Ğ 5) (Ą (Ğ 6) ė))) (Ľ (Ą (Ğ 7) (Ą (Ğ 8) ė)))) ė)))) (Ą (Ğ 8) (Ą (Ğ 3) ė))))))) ė))))))
 fK)
 (ę (cP (au (ă ł (Ā 4) (mC (.int 2))))
 (ħ (Ņ (Ľ (Ą (mC (.str "cloth")) (Ą (Ď (ğ Ĝ (Ď (ğ Ĝ (Ď (aA (Ą (Ğ 5) (Ą (Ğ 6) (Ą (ă Ĩ (ă Č (Ā 2) (mC (.int 6))) (mC (.int 10))) ė))))) (Ď (aA (Ą (Ď (đ iR (Ĉ (ă Č (Ā 2) (mC (.int 7))) (Ă 1 Ċ)))) (Ą (Ď (đ iR (Ĉ (ă Č (Ā 2) (mC (.int 8))) (Ă 1 Ċ)))) (Ą (Ğ 3) ė))))))) (Ď (aA (Ą (Ď (đ iR (Ĉ (ă Č (Ā 2) (mC (.int 9))) (Ă 1 Ċ)))) (Ą (Ď (đ iR (Ĉ (ă Č (Ā 2) (mC (.int 10))) (Ă 1 Ċ)))) (Ą (Ď (đ rE (Ĉ (ă Č (Ā 2) (mC (.int 11))) Ċ))) ė))))))) ė)))))
 fK)
 (ħ (Ņ (Ľ (Ą (ă Č (Ď (aA (Ą (mC (.str "sail")) (Ą (mC (.str "house")) ė)))) (ă ş (Ā 4) (mC (.int 3)))) (Ą (Ď (aA (Ą (Ğ 5) (Ą (Ğ 6) (Ą (Ď (ğ Ĝ (Ď (ğ Ĝ (Ā 5) (mC (.int 1)))) (ă Ĩ (ă Č (Ā 2) (mC (.int 4))) (mC (.int 8))))) (Ą (Ď (ğ Ĝ (Ď (ğ Ĝ (Ā 6) (mC (.int 1)))) (ă Ĩ (ă Č (Ā 2) (mC (.int 5))) (mC (.int 8))))) (Ą (Ğ 3) ė))))))) ė))))))))))))
def gC:MF:=ı 2 9 kJ
def Hx:M Fl:=(ħ (Ņ (iw fG fG (bO aP (mC (.int (1000000000)))) (Ā 0) (mC (.int (1000000000))))))
def lM:MF:=ı 1 1 Hx
def Hy:M Fl:=(ħ (Ņ (iw fG fG (mC (.int 1)) (Ā 0) (mC (.int (1000000000))))))
def wA:MF:=ı 1 1 Hy
def yX:M Fl:=(ħ (Ņ (fC (ă ł (bQ bK (Ą (Ā 0) ė)) (mC (.int 3))) (fC (Ď (đ lM (Ĉ (ă Č (Ā 0) (mC (.int 0))) Ċ))) (fC (Ď (đ lM (Ĉ (ă Č (Ā 0) (mC (.int 1))) Ċ))) (Ď (đ wA (Ĉ (ă Č (Ā 0) (mC (.int 2))) Ċ))))))))
def wB:MF:=ı 1 1 yX
def eY:M Fl:=(ę (iG 0 ["Thing","Post","Fence","Sail","Cloth","House"] "word" (Ğ 1))
 (iG 0 ["Thing","Post","Fence","Sail","Cloth","House"] "numbers" (Ď (lX dw (Ą (Ā 2) ė)))))
def uE:MI:=bZ 3 3 "Post" eY
def oX:MI:=bZ 3 3 "Fence" eY
def uF:MI:=bZ 3 3 "Sail" eY
def oY:MI:=bZ 3 3 "Cloth" eY
def oZ:MI:=bZ 3 3 "House" eY
def yZ:M Fl:=(ħ (Ņ (fC (ă ł (bQ bK (Ą (Ā 0) ė)) (mC (.int 5))) (fC (bQ vL (Ą (Ď (Ŀ [] 1 (ň (Ď (yc (Ā 0) vJ (mP (mC (.int 4)))))) (gN 0) Ł (Ď (đ lM (Ă 0 Ċ))))) ė)) (Ď (đ wA (Ĉ (ă Č (Ā 0) (mC (.int 4))) Ċ)))))))
def rG:MF:=ı 1 1 yZ
def za:M Fl:=(ħ (Ņ (fC (Ď (đ rG (Ă 0 Ċ))) (ă dX (Ď (yc (Ā 0) vJ (mP (mC (.int 2))))) (Ď (yc (Ā 0) (mP (mC (.int 2))) (mP (mC (.int 4)))))))))
def wC:MF:=ı 1 1 za
def Hz:M Fl:=(ħ (Ņ (fC (Ď (đ rG (Ă 0 Ċ))) (fC (ă gj (ă Č (Ā 0) (mC (.int 0))) (ă Č (Ā 0) (mC (.int 2)))) (ă gj (ă Č (Ā 0) (mC (.int 1))) (ă Č (Ā 0) (mC (.int 3))))))))
def Cu:MF:=ı 1 1 Hz
def Pu:M Fl:=(ħ (Ņ (fC (Ď (đ lM (Ĉ (ă Č (Ā 0) (mC (.int 0))) Ċ))) (fC (Ď (đ lM (Ĉ (ă Č (Ā 0) (mC (.int 1))) Ċ))) (iw fG fG (mC (.int 0)) (ă Č (Ā 0) (mC (.int 2))) (mC (.int (1000000000))))))))
def Lp:MF:=ı 1 1 Pu
def zc:M Fl:=(ħ (Ņ (fC (ă ł (bQ bK (Ą (Ā 0) ė)) (mC (.int 9))) (bQ vL (Ą (Ď (Ŀ [0] 1 (ň (Ľ (Ą (mC (.int 0)) (Ą (mC (.int 3)) (Ą (mC (.int 6)) ė))))) (gN 1) Ł (Ď (đ Lp (Ĉ (Ď (yc (Ā 0) (mP (Ğ 1)) (mP (Ď (ğ Ĝ (Ā 1) (mC (.int 3))))))) Ċ))))) ė)))))
def wD:MF:=ı 1 1 zc
def jk:M Fl:=(ę (cP (cX (au (ă ł (Ā 0) (mC (.str "post")))) (dM (Ď (đ wB (Ă 1 Ċ)))))
 (ħ (Ņ (aY "Post" uE (Ă 0 (Ă 1 Ċ)))))
 fK)
 (ę (cP (cX (au (ă ł (Ā 0) (mC (.str "fence")))) (dM (Ď (đ wC (Ă 1 Ċ)))))
 (ħ (Ņ (aY "Fence" oX (Ă 0 (Ă 1 Ċ)))))
 fK)
 (ę (cP (cX (au (ă ł (Ā 0) (mC (.str "sail")))) (dM (Ď (đ Cu (Ă 1 Ċ)))))
 (ħ (Ņ (aY "Sail" uF (Ă 0 (Ă 1 Ċ)))))
 fK)
 (ę (cP (cX (au (ă ł (Ā 0) (mC (.str "cloth")))) (dM (Ď (đ wD (Ă 1 Ċ)))))
 (ħ (Ņ (aY "Cloth" oY (Ă 0 (Ă 1 Ċ)))))
 fK)
 (ę (cP (cX (au (ă ł (Ā 0) (mC (.str "house")))) (dM (Ď (đ Cu (Ă 1 Ċ)))))
 (ħ (Ņ (aY "House" oZ (Ă 0 (Ă 1 Ċ)))))
 fK)
 Ez)))))
def dz:MF:=ı 2 2 jk
def zf:M Fl:=(ę (Ĥ 1 (đ gB (Ĉ (Ď (đ Ő (Ă 0 (Ĉ (mC (.int 0)) Ċ)))) (Ĉ (mC (.int 9)) Ċ))))
 (ę (Ĥ 2 (Ŀ [1] 1 (ň (Ď (yc (Ā 0) (mP (mC (.int 4))) (mP (mC (.int 7)))))) (gN 1) Ł (Ď (đ gC (Ă 1 (Ĉ (bQ iH (Ą (Ā 0) ė)) Ċ))))))
 (ę (Ĥ 3 (đ jC (Ă 0 (Ĉ (mC (.int 7)) (Ĉ (Ď (ğ Ĝ (mC (.int 1)) (ă Ĩ (Ď (đ Ő (Ă 0 (Ĉ (mC (.int 1)) Ċ)))) (mC (.int 3))))) (Ĉ (mC (.int 5)) Ċ))))))
 (ę (cP (au (ă ł (ă Ĩ (ă Ŋ (Ď (đ Ő (Ă 0 (Ĉ (mC (.int 1)) Ċ)))) (mC (.int 9))) (mC (.int 16))) (mC (.int 5))))
 (ę (Ĥ 1 (Ņ (Ľ (Ą (Ď (ğ Ĝ (mC (.int 1)) (ă Ĩ (Ď (đ Ő (Ă 0 (Ĉ (mC (.int 0)) Ċ)))) (mC (.int 3))))) (Ą (mC (.int 2)) ė)))))
 (ę (Ĥ 2 (yc (Ā 2) vJ (mP (mC (.int 1)))))
 (Ĥ 3 (đ jC (Ă 0 (Ĉ (mC (.int 7)) (Ĉ (mC (.int 1)) (Ĉ (mC (.int 24)) Ċ))))))))
 fK)
 (ę (Ĥ 4 (Ņ (aY "Yard" jD (Ĉ (ă Č (Ā 1) (mC (.int 0))) (Ĉ (ă Č (Ā 1) (mC (.int 1))) (Ĉ (Ď (Ŀ [] 2 (Ŕ 2) (gT 2 (ĥ (gN 0) (ĥ (gN 1) ž))) Ł (Ď (đ dz (Ă 0 (Ĉ (Ď (lX dw (Ą (Ā 1) ė))) Ċ)))))) (Ă 3 Ċ)))))))
 (ę (Ĥ 5 (Ņ (ă Ĩ (ă Ŋ (Ď (đ Ő (Ă 0 (Ĉ (mC (.int 1)) Ċ)))) (mC (.int 3))) (bQ bK (Ą (Ā 3) ė)))))
 (ę (Ĥ 6 (Ņ (ă Ĩ (Ď (đ Ő (Ă 0 (Ĉ (mC (.int 2)) Ċ)))) (ă ġ (ă Č (Ā 1) (mC (.int 0))) (ă Č (Ā 1) (mC (.int 1)))))))
 (ę (Ĥ 7 (Ņ (ă Ĩ (Ď (đ Ő (Ă 0 (Ĉ (mC (.int 3)) Ċ)))) (ă ġ (ă Č (Ā 1) (mC (.int 0))) (ă Č (Ā 1) (mC (.int 1)))))))
 (ę (Ĥ 8 (Ŀ [4] 1 (ň (ă Č (ă Č (Ā 3) (Ā 5)) (mC (.int 2)))) (gN 1) Ł (Ď (đ iM (Ă 0 (Ă 1 Ċ))))))
 (ę (Ĥ 9 (aA (Ą (Ľ (Ą (ă Ĩ (Ā 6) (ă Č (Ā 1) (mC (.int 0)))) (Ą (ă Ŋ (Ā 6) (ă Č (Ā 1) (mC (.int 0)))) ė))) (Ą (Ľ (Ą (ă Ĩ (Ā 7) (ă Č (Ā 1) (mC (.int 0)))) (Ą (ă Ŋ (Ā 7) (ă Č (Ā 1) (mC (.int 0)))) ė))) ė))))
 (Gv 10 (um iQ (Ă 4 (Ă 5 (Ĉ (ă Č (Ā 9) (mC (.int 0))) (Ĉ (ă Č (Ā 9) (mC (.int 1))) Ċ))))) (fW (dM (Ď (đ lK (Ă 10 (Ă 1 (Ă 8 (Ă 6 (Ă 7 Ċ)))))))))
 (ħ (Ņ (mC (.bl false))))
 (ę (nH (Ď (đ iQ (Ă 4 (Ĉ (ă Ĩ (Ď (ğ Ĝ (Ā 5) (mC (.int 1)))) (bQ bK (Ą (Ā 3) ė))) (Ĉ (ă Č (Ā 9) (mC (.int 1))) (Ĉ (ă Č (Ā 9) (mC (.int 0))) Ċ)))))))
 (ħ (đ lK (Ĉ (Ď (đ iQ (Ă 4 (Ă 5 (Ĉ (ă Č (Ā 9) (mC (.int 0))) (Ĉ (ă Č (Ā 9) (mC (.int 1))) Ċ)))))) (Ă 1 (Ă 8 (Ă 6 (Ă 7 Ċ)))))))))))))))))))
def o_:MF:=ı 1 11 zf
set_option genInjectivity false
set_option genSizeOf false
structure HB where
 {Px Py Pz PJ PK Wk PL PN P_ Qa Qc Qd Qe Qf Qg Qh Qi Qj Qk Ql Za4 HD Wm HF Wn Wo Qm Qn Qo Qp Za5 Qq Qs Za6 HJ Qt Qu Qw Qx Qy Qz QB QC QD QF QG QH QJ QK QL QM mq QS QT Za7 Za8 QV QW QX zj uG zm uH zp uI uJ:Addr}
 {QZ Q_ Ra Rb Rf Za9 Rg Rh Ri Rj Rk Rm Rn Ro Rq Rr Rt Ru Rv Rw Za_ Rx Zba Ry Zbb Zbc Rz RD RG RJ Zbd RK RL Zbe RM RN RP RQ RT RW RX RZ R_ Sd Sg Sh Sq Ss Sv Sw Sx Cv Sy SJ Zbf Zbg SM SN HN:FuncData}
 {qm uK:Tok}
 {uL:Addr}
def ĵ(a:HB):String->Addr:=cmB a.zj a.uG a.zm a.uH a.zp a.uI a.uJ
structure Tx(K:PySem.W.Frag)(mg:Str->Option Value)(a:HB):Prop where
 Wq:mg "Yard" =some (.ref a.zj)
 Zb5:mg "Thing" =some (.ref a.uG)
 Wr:mg "Post" =some (.ref a.zm)
 Lq:mg "Fence" =some (.ref a.uH)
 Ws:mg "Sail" =some (.ref a.zp)
 Lr:mg "Cloth" =some (.ref a.uI)
 Ls:mg "House" =some (.ref a.uJ)
 lN:Df K mg "_law_size" M_ ["_law_cell","_law_most"] a.Px a.QZ
 ř:Df K mg "_law_at" Nb ["_law_script","_law_k"] a.Py a.Q_
 cI:Df K mg "_law_grains" Nf ["_law_cell","_law_many"] a.Pz a.Ra
 pq:Df K mg "_law_sky" Ng ["_law_xs"] a.PJ a.Rb
 gD:Df K mg "_law_days" Nh ["_law_script","_law_start","_law_many","_law_long"] a.PK a.Rf
 eZ:Dm K a.zj "__init__" "Yard.__init__" ZaU ["self","width","height","things","days"] a.Wk a.Za9
 gF:Df K mg "has_stone" Ni ["yard","stone"] a.PL a.Rg
 cJ:Df K mg "check_stone" Nj ["yard","stone"] a.PN a.Rh
 rH:Df K mg "has_day" Nk ["yard","day"] a.P_ a.Ri
 lO:Df K mg "check_day" Nm ["yard","day"] a.Qa a.Rj
 cj:Df K mg "number_of" Np ["stone","width"] a.Qc a.Rk
 pA:Df K mg "turns_of" Nq ["yard","day"] a.Qd a.Rm
 lQ:Df K mg "box_lines" Nr ["points"] a.Qe a.Rn
 lR:Df K mg "each_once" Nt ["points"] a.Qf a.Ro
 gH:Df K mg "line_through" Nu ["one","other"] a.Qg a.Rq
 Bd:Df K mg "holds" Nv ["line","pair"] a.Qh a.Rr
 jE:Df K mg "edge_lines" Nx ["points"] a.Qi a.Rt
 iT:Df K mg "lines_about" Ny ["points"] a.Qj a.Ru
 HS:Df K mg "cast" Nz ["point","ray"] a.Qk a.Rv
 ŵ:Df K mg "level_corners" NK ["x","y","u","v","z"] a.Ql a.Rw
 aV:Df K mg "block_corners" ZaV ["x","y","u","v","h"] a.Za4 a.Za_
 gJ:Dm K a.zm "corners" "Post.corners" NP ["self"] a.HD a.Rx
 fj:Dm K a.uH "corners" "Fence.corners" ZaW ["self"] a.Wm a.Zba
 gK:Dm K a.zp "corners" "Sail.corners" NQ ["self"] a.HF a.Ry
 fu:Dm K a.uI "corners" "Cloth.corners" ZaX ["self"] a.Wn a.Zbb
 fB:Dm K a.uJ "corners" "House.corners" ZaY ["self"] a.Wo a.Zbc
 gM:Df K mg "corner_casts" NT ["thing","ray"] a.Qm a.Rz
 gO:Df K mg "span_bits" NZ ["first","last"] a.Qn a.RD
 pB:Df K mg "row_bits" N_ ["lines","unit","q","width"] a.Qo a.RG
 rJ:Df K mg "dark_of" Oa ["yard","thing","ray"] a.Qp a.RJ
 cu:Df K mg "darks_of_things" ZaZ ["yard","ray"] a.Za5 a.Zbd
 zq:Df K mg "dark" Ob ["yard","turn"] a.Qq a.RK
 jl:Df K mg "stone_at" Oc ["number","width"] a.Qs a.RL
 dB:Df K mg "numbers_beside" Za0 ["yard","number"] a.Za6 a.Zbe
 gP:Df K mg "best_step" Gw ["yard","number","costs"] a.HJ a.RM
 iU:Df K mg "cost_behind" Od ["yard","number","goal","costs"] a.Qt a.RN
 pC:Df K mg "costs_at" Oe ["yard","turn","goal","later"] a.Qu a.RP
 pD:Df K mg "paper_of" Og ["yard","day","goal"] a.Qw a.RQ
 wF:Df K mg "walked" Oh ["yard","start","goal","paper"] a.Qx a.RT
 Ŭ:Df K mg "shady_walk" Oi ["yard","day","start","goal"] a.Qy a.RW
 iV:Df K mg "_law_beside" Oj ["_law_size_here","_law_number"] a.Qz a.RX
 pF:Df K mg "_law_due" Ol ["_law_size_here","_law_bits","_law_behind","_law_number","_law_goal"] a.QB a.RZ
 jF:Df K mg "_law_whole" Om ["_law_found"] a.QC a.R_
 jG:Df K mg "_law_paper" Oo ["_law_paper_here","_law_size_here","_law_sets","_law_goal"] a.QD a.Sd
 gQ:Df K mg "_law_told" Oq ["_law_told_here","_law_size_here","_law_sets","_law_start","_law_goal"] a.QF a.Sg
 cL:Df K mg "_law_height" Ot ["_law_number"] a.QG a.Sh
 ŭ:Df K mg "_law_place" Ou ["_law_number","_law_wide"] a.QH a.Sq
 jH:Df K mg "_law_thing" Ov ["_law_cell","_law_wide"] a.QJ a.Ss
 aJ:Df K mg "is_place" Ow ["number"] a.QK a.Sv
 gR:Df K mg "is_height" Ox ["number"] a.QL a.Sw
 jJ:Df K mg "makes_post" Oz ["numbers"] a.QM a.Sx
 ĭ:Dm K a.uG "__init__" "Thing.__init__" Za1 ["self","word","numbers"] a.mq a.Cv
 bL:Df K mg "has_two_ends" OD ["numbers"] a.QS a.Sy
 iW:Df K mg "makes_fence" OJ ["numbers"] a.QT a.SJ
 ŝ:Df K mg "makes_sail_or_house" Za2 ["numbers"] a.Za7 a.Zbf
 cA:Df K mg "is_cloth_corner" Za3 ["numbers"] a.Za8 a.Zbg
 iY:Df K mg "makes_cloth" O_ ["numbers"] a.QV a.SM
 pG:Df K mg "thing_of" Pa ["word","numbers"] a.QW a.SN
 HW:Df K mg "law" Pb ["_law_script"] a.QX a.HN
 iZ:mg "MOST_HEIGHT" =some (.int (1000000000) a.qm)
 jK:mg "MOST_PLACE" =some (.int (1000000000) a.uK)
 Lw:mg "STEPS" =some (.ref a.uL)
 HX:mg "all" =none
 Wt:mg "bool" =none
 SQ:mg "int" =none
 ao:mg "isinstance" =none
 aZ:mg "len" =none
 bM:mg "list" =none
 Bf:mg "max" =none
 pH:mg "min" =none
 aM:mg "range" =none
 pI:mg "reversed" =none
 Bg:mg "tuple" =none
 uM:Cls K (ĵ a "Yard")
 Wu:Mk K (ĵ a "Yard") a.Wk
 uN:ĳ K (ĵ a "Yard") "width"
 qt:ĳ K (ĵ a "Yard") "height"
 qu:ĳ K (ĵ a "Yard") "things"
 wG:ĳ K (ĵ a "Yard") "days"
 Bh:Cls K (ĵ a "Thing")
 Zb6:Mk K (ĵ a "Thing") a.mq
 uO:ĳ K (ĵ a "Thing") "word"
 mz:ĳ K (ĵ a "Thing") "numbers"
 zu:Cls K (ĵ a "Post")
 Wv:Mk K (ĵ a "Post") a.mq
 wH:ĳ K (ĵ a "Post") "word"
 pJ:ĳ K (ĵ a "Post") "numbers"
 pK:Meth K (ĵ a "Post") "corners" a.HD
 uP:Cls K (ĵ a "Fence")
 Lx:Mk K (ĵ a "Fence") a.mq
 uQ:ĳ K (ĵ a "Fence") "word"
 mD:ĳ K (ĵ a "Fence") "numbers"
 mF:Meth K (ĵ a "Fence") "corners" a.Wm
 zx:Cls K (ĵ a "Sail")
 Ww:Mk K (ĵ a "Sail") a.mq
 wI:ĳ K (ĵ a "Sail") "word"
 pL:ĳ K (ĵ a "Sail") "numbers"
 pN:Meth K (ĵ a "Sail") "corners" a.HF
 uR:Cls K (ĵ a "Cloth")
 Ly:Mk K (ĵ a "Cloth") a.mq
 uT:ĳ K (ĵ a "Cloth") "word"
 mG:ĳ K (ĵ a "Cloth") "numbers"
 mH:Meth K (ĵ a "Cloth") "corners" a.Wn
 uU:Cls K (ĵ a "House")
 Lz:Mk K (ĵ a "House") a.mq
 uV:ĳ K (ĵ a "House") "word"
 mJ:ĳ K (ĵ a "House") "numbers"
 mK:Meth K (ĵ a "House") "corners" a.Wo
 wJ:V_ K "best_step" a.HJ=true
 LC:jA K (.tup [.tup [.int (-1),.int 0],.tup [.int 1,.int 0],.tup [.int 0,.int (-1)],.tup [.int 0,.int 1],.tup [.int 0,.int 0]]) (.ref a.uL)=true
def Z2h{K:PySem.W.Frag}{mg:Str->Option Value}{a:HB}(T:Tx K mg a):mg "Yard" =some (.ref (ĵ a "Yard")):=T.Wq
def Z2i{K:PySem.W.Frag}{mg:Str->Option Value}{a:HB}(T:Tx K mg a):mg "Post" =some (.ref (ĵ a "Post")):=T.Wr
def Z1G{K:PySem.W.Frag}{mg:Str->Option Value}{a:HB}(T:Tx K mg a):mg "Fence" =some (.ref (ĵ a "Fence")):=T.Lq
def Z2j{K:PySem.W.Frag}{mg:Str->Option Value}{a:HB}(T:Tx K mg a):mg "Sail" =some (.ref (ĵ a "Sail")):=T.Ws
def Z1H{K:PySem.W.Frag}{mg:Str->Option Value}{a:HB}(T:Tx K mg a):mg "Cloth" =some (.ref (ĵ a "Cloth")):=T.Lr
def Z1I{K:PySem.W.Frag}{mg:Str->Option Value}{a:HB}(T:Tx K mg a):mg "House" =some (.ref (ĵ a "House")):=T.Ls
def HY:Ē ["_law_cell","_law_most","_law_width"] ["_law_cell","_law_most"] (ć M_):=ak
def Wx:Ē ["_law_script","_law_k"] ["_law_script","_law_k"] (ć Nb):=ak
def jm:Ē ["_law_cell","_law_many","_law_found","_law_number","_law_k"] ["_law_cell","_law_many"] (ć Nf):=ak
def H_:Ē ["_law_xs","_law_scale"] ["_law_xs"] (ć Ng):=ak
def gU:Ē ["_law_script","_law_start","_law_many","_law_long","_law_names","_law_turned","_law_days_here","_law_k","_law_xs","_law_turns"] ["_law_script","_law_start","_law_many","_law_long"] (ć Nh):=ak
def Zbh:Ē ["self","width","height","things","days"] ["self","width","height","things","days"] (ć ZaU):=ak
def Wy:Ē ["yard","stone"] ["yard","stone"] (ć Ni):=ak
def Wz:Ē ["yard","stone"] ["yard","stone"] (ć Nj):=ak
def WD:Ē ["yard","day"] ["yard","day"] (ć Nk):=ak
def WK:Ē ["yard","day"] ["yard","day"] (ć Nm):=ak
def WL:Ē ["stone","width"] ["stone","width"] (ć Np):=ak
def WM:Ē ["yard","day"] ["yard","day"] (ć Nq):=ak
def zy:Ē ["points","rights","downs"] ["points"] (ć Nr):=ak
def zA:Ē ["points","kept","point"] ["points"] (ć Nt):=ak
def zB:Ē ["one","other","l","m"] ["one","other"] (ć Nu):=ak
def WQ:Ē ["line","pair"] ["line","pair"] (ć Nv):=ak
def kO:Ē ["points","lines","apart","one","other","line"] ["points"] (ć Nx):=ak
def WR:Ē ["points"] ["points"] (ć Ny):=ak
def WT:Ē ["point","ray"] ["point","ray"] (ć Nz):=ak
def WW:Ē ["x","y","u","v","z"] ["x","y","u","v","z"] (ć NK):=ak
def Zbi:Ē ["x","y","u","v","h"] ["x","y","u","v","h"] (ć ZaV):=ak
def zE:Ē ["self","right","down"] ["self"] (ć NP):=ak
def Bj:Ē ["self","given","one","other"] ["self"] (ć ZaW):=ak
def Ia:Ē ["self","given"] ["self"] (ć NQ):=ak
def Zbj:Ē ["self"] ["self"] (ć ZaX):=ak
def SX:Ē ["self","given"] ["self"] (ć ZaY):=ak
def WX:Ē ["thing","ray"] ["thing","ray"] (ć NT):=ak
def WY:Ē ["first","last"] ["first","last"] (ć NZ):=ak
def cM:Ē ["lines","unit","q","width","first","last","l","m","n","step","room"] ["lines","unit","q","width"] (ć N_):=ak
def pO:Ē ["yard","thing","ray","lines","bits","q"] ["yard","thing","ray"] (ć Oa):=ak
def Zbk:Ē ["yard","ray"] ["yard","ray"] (ć ZaZ):=ak
def uW:Ē ["yard","turn","bits","some"] ["yard","turn"] (ć Ob):=ak
def W_:Ē ["number","width"] ["number","width"] (ć Oc):=ak
def Ib:Ē ["yard","number","stone","around"] ["yard","number"] (ć Za0):=ak
def Ie:Ē ["yard","number","costs","leading"] ["yard","number","costs"] (ć Gw):=ak
def Ig:Ē ["yard","number","goal","costs","step"] ["yard","number","goal","costs"] (ć Od):=ak
def kY:Ē ["yard","turn","goal","later","bits","costs","number","behind","lit"] ["yard","turn","goal","later"] (ć Oe):=ak
def pP:Ē ["yard","day","goal","rising","costs","turn"] ["yard","day","goal"] (ć Og):=ak
def Ih:Ē ["yard","start","goal","paper","numbers"] ["yard","start","goal","paper"] (ć Oh):=ak
def uX:Ē ["yard","day","start","goal","first","last","paper"] ["yard","day","start","goal"] (ć Oi):=ak
def zF:Ē ["_law_size_here","_law_number","_law_some","_law_p","_law_q"] ["_law_size_here","_law_number"] (ć Oj):=ak
def zG:Ē ["_law_size_here","_law_bits","_law_behind","_law_number","_law_goal","_law_lit","_law_some"] ["_law_size_here","_law_bits","_law_behind","_law_number","_law_goal"] (ć Ol):=ak
def Xa:Ē ["_law_found"] ["_law_found"] (ć Om):=ak
def kZ:Ē ["_law_paper_here","_law_size_here","_law_sets","_law_goal","_law_turn","_law_one","_law_behind","_law_due_here"] ["_law_paper_here","_law_size_here","_law_sets","_law_goal"] (ć Oo):=ak
def Xb:Ē ["_law_told_here","_law_size_here","_law_sets","_law_start","_law_goal"] ["_law_told_here","_law_size_here","_law_sets","_law_start","_law_goal"] (ć Oq):=ak
def Xc:Ē ["_law_number"] ["_law_number"] (ć Ot):=ak
def Xd:Ē ["_law_number","_law_wide"] ["_law_number","_law_wide"] (ć Ou):=ak
def gW:Ē ["_law_cell","_law_wide","_law_xs","_law_h","_law_kind","_law_x","_law_y","_law_u","_law_v"] ["_law_cell","_law_wide"] (ć Ov):=ak
def Xe:Ē ["number"] ["number"] (ć Ow):=ak
def Xf:Ē ["number"] ["number"] (ć Ox):=ak
def Xg:Ē ["numbers"] ["numbers"] (ć Oz):=ak
def wK:Ē ["self","word","numbers"] ["self","word","numbers"] (ć Za1):=ak
def Xh:Ē ["numbers"] ["numbers"] (ć OD):=ak
def Xi:Ē ["numbers"] ["numbers"] (ć OJ):=ak
def Zbl:Ē ["numbers"] ["numbers"] (ć Za2):=ak
def Zbm:Ē ["numbers"] ["numbers"] (ć Za3):=ak
def Xj:Ē ["numbers"] ["numbers"] (ć O_):=ak
def Xk:Ē ["word","numbers"] ["word","numbers"] (ć Pa):=ak
def aq:Ē ["_law_script","_law_size_here","_law_drawn","_law_days_here","_law_yard","_law_day","_law_start","_law_goal","_law_sets","_law_ends","_law_told_here"] ["_law_script"] (ć Pb):=ak
section
variable{P:Program}{w:World}{K:PySem.W.Frag}{mg:Str->Option Value}{base:Heap}{a:HB}
seal PE PT PW PA PS fJ PG wO PI CJ
def Zb(T:Tx K mg a):n_ (λC=>Cls K (ĵ a C)/\ĳ K (ĵ a C) "width") ["Yard"]:=⟨⟨T.uM,T.uN⟩,trivial⟩
def Zm(T:Tx K mg a):n_ (λC=>Cls K (ĵ a C)/\ĳ K (ĵ a C) "height") ["Yard"]:=⟨⟨T.uM,T.qt⟩,trivial⟩
def ZY(T:Tx K mg a):n_ (λC=>Cls K (ĵ a C)/\ĳ K (ĵ a C) "things") ["Yard"]:=⟨⟨T.uM,T.qu⟩,trivial⟩
def ZN(T:Tx K mg a):n_ (λC=>Cls K (ĵ a C)/\ĳ K (ĵ a C) "days") ["Yard"]:=⟨⟨T.uM,T.wG⟩,trivial⟩
def Z8(T:Tx K mg a):n_ (λC=>Cls K (ĵ a C)/\ĳ K (ĵ a C) "numbers") ["Thing","Post","Fence","Sail","Cloth","House"]:=⟨⟨T.Bh,T.mz⟩,⟨⟨T.zu,T.pJ⟩,⟨⟨T.uP,T.mD⟩,⟨⟨T.zx,T.pL⟩,⟨⟨T.uR,T.mG⟩,⟨⟨T.uU,T.mJ⟩,trivial⟩⟩⟩⟩⟩⟩
def ZA(T:Tx K mg a):n_ (λC=>Cls K (ĵ a C)/\ĳ K (ĵ a C) "word") ["Thing","Post","Fence","Sail","Cloth","House"]:=⟨⟨T.Bh,T.uO⟩,⟨⟨T.zu,T.wH⟩,⟨⟨T.uP,T.uQ⟩,⟨⟨T.zx,T.wI⟩,⟨⟨T.uR,T.uT⟩,⟨⟨T.uU,T.uV⟩,trivial⟩⟩⟩⟩⟩⟩
def Xl(T:Tx K mg a):Ħ P w K mg base Ů 1 a.Px a.QZ ["_law_cell","_law_most"] (Ş ⟨K,ĵ a⟩ 2 gB):=by
 refine ĺ T.lN.F HY λ_ _ _ _ _ _ _ hu=>?_
 exact ĕ (Š (PW.pt (w_and (t_eq hu (ŏ (iJ (ā 0) ą) ą) ą) (dN (aC Mv Mh (ā 1) ą (Ń _))))) (ľ (Ķ (ě (Ġ (Ŗ (Ć (Ĵ (Ć ĩ (Ć ĩ Ě))) (Ć (Ĵ (Ć ĩ (Ć ĩ Ě))) Ě))))) (ŏ (ā 0) ą))) İ) (ĸ HY (iK ą (ŏ (ā 0) (ě (ū (sJ rfl) tQ T.pH PyProof.Rows.boot_min (Ę ą (Ę (ā 1) ģ)))))) (ľ (Ĵ (Ć (v_var 2) (Ć (v_add ą (ŏ (iJ (ā 0) ą) (ě (ū (sJ rfl) tQ T.pH PyProof.Rows.boot_min (Ę ą (Ę (iJ (ā 1) (ā 2)) ģ)))))) Ě)))))
def eE(T:Tx K mg a):Ħ P w K mg base Ů 1 a.Py a.Q_ ["_law_script","_law_k"] (Ş ⟨K,ĵ a⟩ 2 Ő):=by
 refine ĺ T.ř.F Wx λ_ _ _ _ _ _ _ _=>?_
 exact ĕ (Š (aC gk fU (ā 1) (ě (ū ů ű T.aZ PySem.boot_len (Ę (ā 0) ģ))) (Ń _)) (ľ (Ķ (ā 0) (ā 1))) İ) (ľ ĩ)
def Ii(T:Tx K mg a):Ħ P w K mg base Ů 1 a.Pz a.Ra ["_law_cell","_law_many"] (Ş ⟨K,ĵ a⟩ 2 oM):=by
 refine ĺ T.cI.F jm λ_ _ _ _ _ _ _ hu=>?_
 exact ĸ jm (Ŗ Ě) (ĸ jm (Ű (iI (ā 0) ą)) (ĕ (Š (t_eq hu (ŏ (ā 0) ą) ą) (į (Cp jm (Ű (v_mod (ā 3) ą)))) İ) (ĕ (cY PassesOwn.leaving rfl (Ŵ rfl T.aM (Ć (v_var 1) Ě)) (dZ jm) (į (Š (t_eq hu (ŏ (ā 0) ą) ą) (ĕ (PS.wk (Ż (iB PySem.F.plainAttrs_list PySem.F.slot_list_append PySem.F.type_list_append ń (pv 2) (Ć (v_mod (ā 3) ą) Ě))) λ_ _ _ h=>dO h) (į (Cp jm (Ű (iI (ā 3) ą))))) (ĸ jm (Ű (v_mod (cg (cg (ŋ (ā 3) ą) ą) (ŋ ą (ā 4))) ą)) (į (PS.wk (Ż (iB PySem.F.plainAttrs_list PySem.F.slot_list_append PySem.F.type_list_append ń (pv 2) (Ć (iI (ā 3) ą) Ě))) λ_ _ _ h=>dO h)))))) (ļ (lB 2)))))
def Xm(T:Tx K mg a):Ħ P w K mg base Ů 1 a.PJ a.Rb ["_law_xs"] (Ş ⟨K,ĵ a⟩ 1 oO):=by
 refine ĺ T.pq.F H_ λ_ _ _ _ _ _ _ hu=>?_
 exact ĕ (Š (t_eq hu (ŏ (Ĭ (ā 0) ą) ą) ą) (ľ lC) İ) (ĸ H_ (Ű (Ķ (ě (Ġ (Ŗ (Ć ĩ (Ć ĩ (Ć ĩ (Ć (bF nP nu ą ą) Ě))))))) (ŏ (Ĭ (ā 0) ą) ą))) (ľ (Ĵ (Ć (v_mul (vP (ŏ (Ĭ (ā 0) ą) ą) ą) (ā 1)) (Ć (v_mul (vP (ŏ (Ĭ (ā 0) ą) ą) ą) (ā 1)) (Ć (v_mul (cg ą (ŏ (Ĭ (ā 0) ą) ą)) (ā 1)) Ě))))))
def Ij(T:Tx K mg a):Ħ P w K mg base Ů 2 a.PK a.Rf ["_law_script","_law_start","_law_many","_law_long"] (Ş ⟨K,ĵ a⟩ 4 jC):=by
 refine ĺ T.gD.F gU λ_ _ _ _ _ _ hr _=>?_
 exact ĸ gU (Ŗ (Ć Ÿ (Ć Ÿ (Ć Ÿ (Ć Ÿ (Ć Ÿ (Ć Ÿ (Ć Ÿ (Ć Ÿ (Ć Ÿ (Ć Ÿ (Ć Ÿ (Ć Ÿ Ě))))))))))))) (ĸ gU (Ű (v_mod (ě (Ġ (ĉ (eE T) T.ř hr ď (ċ 0 (ċ 1 Đ))))) ą)) (ĸ gU (iK (ě (Ġ (aL (ā 4) (ŷ (v_var 5)) nU))) (ě (Ġ (aL (ā 4) nU (ŷ (v_var 5)))))) (ĸ gU (Ŗ Ě) (ĕ (cY PassesOwn.leaving rfl (Ŵ rfl T.aM (Ć (v_var 2) Ě)) (dZ gU) (ĸ gU (ĉ (Ii T) T.cI hr ď (č (v_add (iJ (ě (Ġ (ĉ (eE T) T.ř hr ď (ċ 0 (č (v_add (ā 1) (ā 7)) Đ))))) ą) (ŋ ą (ā 7))) (č (v_add (ŋ ą (ā 3)) ą) Đ))) (ĕ (qj gU (Ŵ rfl T.aM (Ć (v_add ą (ŏ (Ĭ (ā 8) ą) (ā 3))) Ě)) aH Ŝ (Ġ (ĉ (Xm T) T.pq hr ď (č (Ġ (aL (ā 0) (ŷ (v_add ą (ŋ ą (ā 1)))) (ŷ (v_add ą (ŋ ą (ā 1)))))) Đ)))) (į (PS.wk (Ż (iB PySem.F.plainAttrs_list PySem.F.slot_list_append PySem.F.type_list_append ń (pv 6) (Ć (Ĵ (Ć (Ķ (ā 4) (ā 7)) (Ć (v_add ą (ŏ (ŋ (Ĭ (ā 8) ą) ą) (ě (bF nP nu ą ą)))) (Ć (v_var 9) Ě)))) Ě))) λ_ _ _ h=>dO h))))) (ļ (lB 6))))))
def Ik(T:Tx K mg a):Ħ P w K mg base Ů 1 a.Wk a.Za9 ["self","width","height","things","days"] (Jf ⟨K,ĵ a⟩ 5 "Yard" jD):=by
 refine Yr (cm:=ĵ a) (mb:=Gy) T.eZ.F Zbh rfl rfl rfl λcdv A outer s H E hr=>?_
 have hu:=hr.units
 exact ĕ (aj ["Yard"] (Zb T) (pv 0) (v_var 1)) (ĕ (aj ["Yard"] (Zm T) (pv 0) (v_var 2)) (ĕ (aj ["Yard"] (ZY T) (pv 0) (Ġ (vQ bW bY T.bM PyProof.Rows.boot_list (Ę (ā 3) ģ)))) (į (aj ["Yard"] (ZN T) (pv 0) (Ġ (mj (aQ 4) (vB rfl (Ō aH (Ō aH (Ō aH jg)))) Ŝ (Ĵ (Ć (v_var 0) (Ć (v_var 1) (Ć (Ġ (vQ bW bY T.bM PyProof.Rows.boot_list (Ę (ā 2) ģ))) Ě))))))))))
def Il(T:Tx K mg a):Ħ P w K mg base Ů 1 a.PL a.Rg ["yard","stone"] (Ş ⟨K,ĵ a⟩ 2 eV):=by
 refine ĺ T.gF.F Wy λ_ _ _ _ _ _ _ _=>?_
 exact ľ (v_and (qL eU gk eG fU ą (Ĭ (ā 1) ą) (ě (Œ ["Yard"] (Zb T) (ā 0)))) (iD (qL eU gk eG fU ą (Ĭ (ā 1) ą) (ě (Œ ["Yard"] (Zm T) (ā 0))))))
def Im(T:Tx K mg a):Ħ P w K mg base Ů 2 a.PN a.Rh ["yard","stone"] (Ş ⟨K,ĵ a⟩ 2 vX):=by
 refine ĺ T.cJ.F Wz λ_ _ _ _ _ _ hr _=>?_
 exact į (Š (lE (bG (ě (Ġ (ĉ (Il T) T.gF hr ď (ċ 0 (ċ 1 Đ))))))) (į sY) İ)
def Xn(T:Tx K mg a):Ħ P w K mg base Ů 1 a.P_ a.Ri ["yard","day"] (Ş ⟨K,ĵ a⟩ 2 qX):=by
 refine ĺ T.rH.F WD λ_ _ _ _ _ _ _ _=>?_
 exact ľ (qL eU gk eG fU ą (ā 1) (ě (ū ů ű T.aZ PySem.boot_len (Ę (ě (Œ ["Yard"] (ZN T) (ā 0))) ģ))))
def Xo(T:Tx K mg a):Ħ P w K mg base Ů 2 a.Qa a.Rj ["yard","day"] (Ş ⟨K,ĵ a⟩ 2 Ao):=by
 refine ĺ T.lO.F WK λ_ _ _ _ _ _ hr _=>?_
 exact į (Š (lE (bG (ě (Ġ (ĉ (Xn T) T.rH hr ď (ċ 0 (ċ 1 Đ))))))) (į sY) İ)
def zH(T:Tx K mg a):Ħ P w K mg base Ů 1 a.Qc a.Rk ["stone","width"] (Ş ⟨K,ĵ a⟩ 2 lG):=by
 refine ĺ T.cj.F WL λ_ _ _ _ _ _ _ _=>?_
 exact ļ (iK (ŋ (Ĭ (ā 0) ą) (ā 1)) (Ĭ (ā 0) ą))
def Xp(T:Tx K mg a):Ħ P w K mg base Ů 1 a.Qd a.Rm ["yard","day"] (Ş ⟨K,ĵ a⟩ 2 Aq):=by
 refine ĺ T.pA.F WM λ_ _ _ _ _ _ _ _=>?_
 exact ľ (Ķ (Ĭ (ě (Œ ["Yard"] (ZN T) (ā 0))) (ā 1)) ą)
def Xq(T:Tx K mg a):Ħ P w K mg base Ů 1 a.Qe a.Rn ["points"] (Ş ⟨K,ĵ a⟩ 1 Ar):=by
 refine ĺ T.lQ.F zy λ_ _ _ _ _ _ _ _=>?_
 exact ĕ (qj zy (aQ 0) aH Ŝ (Ķ (ā 0) ą)) (ĕ (qj zy (aQ 0) aH Ŝ (Ķ (ā 0) ą)) (ļ (Ŗ (Ć (Ĵ (Ć ĩ (Ć ĩ (Ć (ū (yx rfl) yD T.Bf PyProof.Rows.boot_max (Ę (ā 1) ģ)) Ě)))) (Ć (Ĵ (Ć (nG bI aF ą) (Ć ĩ (Ć (nG bI aF (ě (ū (yC rfl) yE T.pH PyProof.Rows.boot_min (Ę (ā 1) ģ)))) Ě)))) (Ć (Ĵ (Ć ĩ (Ć ĩ (Ć (ū (yx rfl) yD T.Bf PyProof.Rows.boot_max (Ę (ā 2) ģ)) Ě)))) (Ć (Ĵ (Ć ĩ (Ć (nG bI aF ą) (Ć (nG bI aF (ě (ū (yC rfl) yE T.pH PyProof.Rows.boot_min (Ę (ā 2) ģ)))) Ě)))) Ě)))))))
def Xr(T:Tx K mg a):Ħ P w K mg base Ů 1 a.Qf a.Ro ["points"] (Ş ⟨K,ĵ a⟩ 1 Av):=by
 refine ĺ T.lR.F zA λ_ _ _ _ _ _ _ hu=>?_
 exact ĸ zA (Ŗ Ě) (ĕ (cY PassesOwn.leaving rfl (aQ 0) (dZ zA) (į (Š (aC VN (Cj hu) (ā 2) (ā 1) (by with_unfolding_all rfl)) (į (PS.wk (Ż (iB PySem.F.plainAttrs_list PySem.F.slot_list_append PySem.F.type_list_append ń (pv 1) (Ć (v_var 2) Ě))) λ_ _ _ h=>dO h)) İ))) (ļ (lB 1)))
def Xu(T:Tx K mg a):Ħ P w K mg base Ů 1 a.Qg a.Rq ["one","other"] (Ş ⟨K,ĵ a⟩ 2 Aw):=by
 refine ĺ T.gH.F zB λ_ _ _ _ _ _ _ _=>?_
 exact ĸ zB (Ű (v_sub (Ĭ (ā 1) ą) (Ĭ (ā 0) ą))) (ĸ zB (Ű (v_sub (Ĭ (ā 0) ą) (Ĭ (ā 1) ą))) (ľ (Ĵ (Ć (v_var 2) (Ć (v_var 3) (Ć (v_add (ŋ (ā 2) (Ĭ (ā 0) ą)) (ŋ (ā 3) (Ĭ (ā 0) ą))) Ě))))))
def Xv(T:Tx K mg a):Ħ P w K mg base Ů 1 a.Qh a.Rr ["line","pair"] (Ş ⟨K,ĵ a⟩ 2 qY):=by
 refine ĺ T.Bd.F WQ λ_ _ _ _ _ _ _ _=>?_
 exact ľ (vA eU eG (cg (ŋ (Ĭ (ā 0) ą) (Ĭ (ā 1) ą)) (ŋ (Ĭ (ā 0) ą) (Ĭ (ā 1) ą))) (Ĭ (ā 0) ą) (Ń _))
def Xw(T:Tx K mg a):Ħ P w K mg base Ů 2 a.Qi a.Rt ["points"] (Ş ⟨K,ĵ a⟩ 1 Ax):=by
 refine ĺ T.jE.F kO λ_ _ _ _ _ _ hr hu=>?_
 exact ĸ kO (Ŗ Ě) (ĸ kO (ĉ (Xr T) T.lR hr ď (ċ 0 Đ)) (ĕ (cY PassesOwn.leaving rfl (aQ 2) (dZ kO) (į (cY PassesOwn.leaving rfl (aQ 2) (dZ kO) (ĸ kO (ĉ (Xu T) T.gH hr ď (ċ 3 (ċ 4 Đ))) (į (Š (PW.pt (w_and (Gb hu (ā 3) (ā 4)) (dN (bG (ě (ū (xO rfl) yg T.HX PyProof.Rows.boot_all (Ę (ě (Ġ (mj (aQ 2) aH Ŝ (Ġ (ĉ (Xv T) T.Bd hr ď (ċ 0 (ċ 1 Đ))))))) ģ))))))) (į (PS.wk (Ż (iB PySem.F.plainAttrs_list PySem.F.slot_list_append PySem.F.type_list_append ń (pv 1) (Ć (v_var 5) Ě))) λ_ _ _ h=>dO h)) İ)))))) (ļ (lB 1))))
def Xx(T:Tx K mg a):Ħ P w K mg base Ů 3 a.Qj a.Ru ["points"] (Ş ⟨K,ĵ a⟩ 1 Ay):=by
 refine ĺ T.iT.F WR λ_ _ _ _ _ _ hr _=>?_
 exact ļ (iK (ě (Ġ (ĉ (Xq T) T.lQ hr ď (ċ 0 Đ)))) (ě (Ġ (ĉ (Xw T) T.jE hr ď (ċ 0 Đ)))))
def Xy(T:Tx K mg a):Ħ P w K mg base Ů 1 a.Qk a.Rv ["point","ray"] (Ş ⟨K,ĵ a⟩ 2 qZ):=by
 refine ĺ T.HS.F WT λ_ _ _ _ _ _ _ _=>?_
 exact ľ (Ĵ (Ć (v_add (ŋ (Ĭ (ā 1) ą) (Ĭ (ā 0) ą)) (ŋ (Ĭ (ā 1) ą) (Ĭ (ā 0) ą))) (Ć (v_add (ŋ (Ĭ (ā 1) ą) (Ĭ (ā 0) ą)) (ŋ (Ĭ (ā 1) ą) (Ĭ (ā 0) ą))) Ě)))
def zJ(T:Tx K mg a):Ħ P w K mg base Ů 1 a.Ql a.Rw ["x","y","u","v","z"] (Ş ⟨K,ĵ a⟩ 5 q_):=by
 refine ĺ T.ŵ.F WW λ_ _ _ _ _ _ _ _=>?_
 exact ļ (Ŗ (Ć (Ĵ (Ć (v_var 0) (Ć (v_var 1) (Ć (v_var 4) Ě)))) (Ć (Ĵ (Ć (v_var 2) (Ć (v_var 1) (Ć (v_var 4) Ě)))) (Ć (Ĵ (Ć (v_var 2) (Ć (v_var 3) (Ć (v_var 4) Ě)))) (Ć (Ĵ (Ć (v_var 0) (Ć (v_var 3) (Ć (v_var 4) Ě)))) Ě)))))
def S_(T:Tx K mg a):Ħ P w K mg base Ů 2 a.Za4 a.Za_ ["x","y","u","v","h"] (Ş ⟨K,ĵ a⟩ 5 Hf):=by
 refine ĺ T.aV.F Zbi λ_ _ _ _ _ _ hr _=>?_
 exact ļ (iK (ě (Ġ (ĉ (zJ T) T.ŵ hr ď (ċ 0 (ċ 1 (ċ 2 (ċ 3 (č ĩ Đ)))))))) (ě (Ġ (ĉ (zJ T) T.ŵ hr ď (ċ 0 (ċ 1 (ċ 2 (ċ 3 (ċ 4 Đ)))))))))
def Xz(T:Tx K mg a):Ħ P w K mg base Ů 3 a.HD a.Rx ["self"] (Ş ⟨K,ĵ a⟩ 1 lH):=by
 refine ĺ T.gJ.F zE λ_ _ _ _ _ _ hr _=>?_
 exact ĸ zE (Ű (v_mul ą (Ĭ (ě (Œ ["Thing","Post","Fence","Sail","Cloth","House"] (Z8 T) (ā 0))) ą))) (ĸ zE (Ű (v_mul ą (Ĭ (ě (Œ ["Thing","Post","Fence","Sail","Cloth","House"] (Z8 T) (ā 0))) ą))) (ļ (ĉ (S_ T) T.aV hr ď (č (v_sub (ā 1) ą) (č (v_sub (ā 2) ą) (č (v_add (ā 1) ą) (č (v_add (ā 2) ą) (č (Ķ (ě (Œ ["Thing","Post","Fence","Sail","Cloth","House"] (Z8 T) (ā 0))) ą) Đ))))))))
def Zbn(T:Tx K mg a):Ħ P w K mg base Ů 1 a.Wm a.Zba ["self"] (Ş ⟨K,ĵ a⟩ 1 vY):=by
 refine ĺ T.fj.F Bj λ_ _ _ _ _ _ _ _=>?_
 exact ĸ Bj (Ű (Œ ["Thing","Post","Fence","Sail","Cloth","House"] (Z8 T) (ā 0))) (ĸ Bj (Ű (Ĵ (Ć (Ķ (ā 1) ą) (Ć (Ķ (ā 1) ą) Ě)))) (ĸ Bj (Ű (Ĵ (Ć (Ķ (ā 1) ą) (Ć (Ķ (ā 1) ą) Ě)))) (ļ (Ŗ (Ć (v_add (ā 2) (ě (Ĵ (Ć ĩ Ě)))) (Ć (v_add (ā 3) (ě (Ĵ (Ć ĩ Ě)))) (Ć (v_add (ā 3) (ě (Ĵ (Ć (Ķ (ā 1) ą) Ě)))) (Ć (v_add (ā 2) (ě (Ĵ (Ć (Ķ (ā 1) ą) Ě)))) Ě))))))))
def XC(T:Tx K mg a):Ħ P w K mg base Ů 2 a.HF a.Ry ["self"] (Ş ⟨K,ĵ a⟩ 1 lJ):=by
 refine ĺ T.gK.F Ia λ_ _ _ _ _ _ hr _=>?_
 exact ĸ Ia (Ű (Œ ["Thing","Post","Fence","Sail","Cloth","House"] (Z8 T) (ā 0))) (ļ (ĉ (zJ T) T.ŵ hr ď (č (Ķ (ā 1) ą) (č (Ķ (ā 1) ą) (č (Ķ (ā 1) ą) (č (Ķ (ā 1) ą) (č (Ķ (ā 1) ą) Đ)))))))
def Zbo(T:Tx K mg a):Ħ P w K mg base Ů 1 a.Wn a.Zbb ["self"] (Ş ⟨K,ĵ a⟩ 1 vZ):=by
 refine ĺ T.fu.F Zbj λ_ _ _ _ _ _ _ _=>?_
 exact ļ (mj (cZ (Ĵ (Ć ĩ (Ć ĩ (Ć ĩ Ě))))) aH Ŝ (ZaO Fw Fx T.Bg PyProof.Rows.boot_tuple (Ę (ě (Ġ (aL (ě (Œ ["Thing","Post","Fence","Sail","Cloth","House"] (Z8 T) (ā 0))) (ŷ (v_var 1)) (ŷ (v_add (ā 1) ą))))) ģ)))
def Zbp(T:Tx K mg a):Ħ P w K mg base Ů 3 a.Wo a.Zbc ["self"] (Ş ⟨K,ĵ a⟩ 1 wg):=by
 refine ĺ T.fB.F SX λ_ _ _ _ _ _ hr _=>?_
 exact ĸ SX (Ű (Œ ["Thing","Post","Fence","Sail","Cloth","House"] (Z8 T) (ā 0))) (ļ (ĉ (S_ T) T.aV hr ď (č (Ķ (ā 1) ą) (č (Ķ (ā 1) ą) (č (Ķ (ā 1) ą) (č (Ķ (ā 1) ą) (č (Ķ (ā 1) ą) Đ)))))))
def XD(T:Tx K mg a):Ħ P w K mg base Ů 4 a.Qm a.Rz ["thing","ray"] (Ş ⟨K,ĵ a⟩ 2 wj):=by
 refine ĺ T.gM.F WX λ_ _ _ _ _ _ hr _=>?_
 exact ļ (mj (cZ (Ġ (KN (Je:= "corners") (k:=3) (n:=1) (iy:=[("Post",lH),("Fence",vY),("Sail",lJ),("Cloth",vZ),("House",wg)]) ⟨⟨T.zu,_,_,_,T.pK,(Xz T).mono (by decide),T.gJ.b,bH⟩,⟨⟨T.uP,_,_,_,T.mF,(Zbn T).mono (by decide),T.fj.b,bH⟩,⟨⟨T.zx,_,_,_,T.pN,(XC T).mono (by decide),T.gK.b,bH⟩,⟨⟨T.uR,_,_,_,T.mH,(Zbo T).mono (by decide),T.fu.b,bH⟩,⟨⟨T.uU,_,_,_,T.mK,(Zbp T).mono (by decide),T.fB.b,bH⟩,trivial⟩⟩⟩⟩⟩ hr.mo ď (v_var 0)))) aH Ŝ (Ġ (ĉ (Xy T) T.HS hr ď (ċ 1 (ċ 0 Đ)))))
def Io(T:Tx K mg a):Ħ P w K mg base Ů 1 a.Qn a.RD ["first","last"] (Ş ⟨K,ĵ a⟩ 2 rm):=by
 refine ĺ T.gO.F WY λ_ _ _ _ _ _ _ _=>?_
 exact ĕ (Š (aC gk fU (ā 1) (ā 0) (Ń _)) (ľ ĩ) İ) (ľ (v_sub (ě (bF xX xZ ą (cg (ā 1) ą))) (ě (bF xX xZ ą (ā 0)))))
def XF(T:Tx K mg a):Ħ P w K mg base Ů 2 a.Qo a.RG ["lines","unit","q","width"] (Ş ⟨K,ĵ a⟩ 4 wu):=by
 refine ĺ T.pB.F cM λ_ _ _ _ _ _ hr _=>?_
 exact ĸ cM (Ű ĩ) (ĸ cM (Ű (v_sub (ā 3) ą)) (ĕ (cY PassesOwn.leaving rfl (aQ 0) (vB rfl (Ō (dZ cM) (Ō (dZ cM) (Ō (dZ cM) jg)))) (ĸ cM (Ű (v_mul (ā 6) (ā 1))) (ĸ cM (Ű (v_sub (ā 8) (ŋ (ŋ (ā 7) (ā 1)) (ā 2)))) (į (Š (aC Mv Mh (ā 9) ą (Ń _)) (į (Cp cM (Ű (ū (sJ rfl) tQ T.pH PyProof.Rows.boot_min (Ę (ā 5) (Ę (iJ (ā 10) (ā 9)) ģ)))))) (į (Š (aC gk fU (ā 9) ą (Ń _)) (į (Cp cM (Ű (ū (JM rfl) KD T.Bf PyProof.Rows.boot_max (Ę (ā 4) (Ę (ě (nG bI aF (iJ (ā 10) (ě (nG bI aF (ā 9)))))) ģ)))))) (į (Š (aC gk fU (ā 10) ą (Ń _)) (ľ ĩ) İ))))))))) (ļ (ĉ (Io T) T.gO hr ď (ċ 4 (ċ 5 Đ))))))
def XH(T:Tx K mg a):Ħ P w K mg base Ů 5 a.Qp a.RJ ["yard","thing","ray"] (Ş ⟨K,ĵ a⟩ 3 rz):=by
 refine ĺ T.rJ.F pO λ_ _ _ _ _ _ hr _=>?_
 exact ĸ pO (ĉ (Xx T) T.iT hr ď (č (Ġ (ĉ (XD T) T.gM hr ď (ċ 1 (ċ 2 Đ)))) Đ)) (ĸ pO (Ű ĩ) (ĕ (cY PassesOwn.leaving rfl (Ŵ rfl T.aM (Ć (Œ ["Yard"] (Zm T) (ā 0)) Ě)) (dZ pO) (į (FZ (i:=4) pO.nd rfl (Or.inl rfl) (bF xX xZ (ě (Ġ (ĉ (XF T) T.pB hr ď (ċ 3 (č (v_mul ą (Ĭ (ā 2) ą)) (ċ 5 (č (Œ ["Yard"] (Zb T) (ā 0)) Đ))))))) (ŋ (ā 5) (ě (Œ ["Yard"] (Zb T) (ā 0)))))))) (ļ (lB 4))))
def Zbq(T:Tx K mg a):Ħ P w K mg base Ů 6 a.Za5 a.Zbd ["yard","ray"] (Ş ⟨K,ĵ a⟩ 2 Lj):=by
 refine ĺ T.cu.F Zbk λ_ _ _ _ _ _ hr _=>?_
 exact ļ (mj (cZ (Œ ["Yard"] (ZY T) (ā 0))) aH Ŝ (Ġ (ĉ (XH T) T.rJ hr ď (ċ 0 (ċ 2 (ċ 1 Đ))))))
def Ip(T:Tx K mg a):Ħ P w K mg base Ů 7 a.Qq a.RK ["yard","turn"] (Ş ⟨K,ĵ a⟩ 2 iM):=by
 refine ĺ T.zq.F uW λ_ _ _ _ _ _ hr _=>?_
 exact ĕ (Š (aC qN jO (ā 1) jz (Ń _)) (ļ (ĉ (Io T) T.gO hr ď (č ĩ (č (v_sub (ŋ (ě (Œ ["Yard"] (Zb T) (ā 0))) (ě (Œ ["Yard"] (Zm T) (ā 0)))) ą) Đ)))) İ) (ĸ uW (Ű ĩ) (ĕ (cY PassesOwn.leaving rfl (cZ (Ġ (ĉ (Zbq T) T.cu hr ď (ċ 0 (ċ 1 Đ))))) (dZ uW) (į (FZ (i:=2) uW.nd rfl (Or.inl rfl) (v_var 3)))) (ļ (lB 2))))
def Ir(T:Tx K mg a):Ħ P w K mg base Ů 1 a.Qs a.RL ["number","width"] (Ş ⟨K,ĵ a⟩ 2 rC):=by
 refine ĺ T.jl.F W_ λ_ _ _ _ _ _ _ _=>?_
 exact ľ (Ĵ (Ć (v_mod (ā 0) (ā 1)) (Ć (iI (ā 0) (ā 1)) Ě)))
def Zbr(T:Tx K mg a):Ħ P w K mg base Ů 2 a.Za6 a.Zbe ["yard","number"] (Ş ⟨K,ĵ a⟩ 2 Lk):=by
 refine ĺ T.dB.F Ib λ_ _ _ _ _ _ hr _=>?_
 exact ĸ Ib (ĉ (Ir T) T.jl hr ď (ċ 1 (č (Œ ["Yard"] (Zb T) (ā 0)) Đ))) (ĕ (qj Ib (cZ (Aa (.tup [.tup [.int (-1),.int 0],.tup [.int 1,.int 0],.tup [.int 0,.int (-1)],.tup [.int 0,.int 1],.tup [.int 0,.int 0]]) (jq (v:=.ref a.uL) rfl T.Lw rfl) (λF=>Lf T.LC F))) (vB rfl (Ō aH (Ō aH jg))) Ŝ (Ĵ (Ć (v_add (Ĭ (ā 0) ą) (ā 1)) (Ć (v_add (Ĭ (ā 0) ą) (ā 2)) Ě)))) (ļ (mj (aQ 3) aH (tE (bG (ě (Ġ (ĉ (Il T) T.gF hr ď (ċ 0 (ċ 1 Đ))))))) (Ġ (ĉ (zH T) T.cj hr ď (ċ 1 (č (Œ ["Yard"] (Zb T) (ā 0)) Đ)))))))
def Iu(T:Tx K mg a):Ħ P w K mg base Ů 5 a.HJ a.RM ["yard","number","costs"] (Ş ⟨K,ĵ a⟩ 3 oR):=by
 refine ZdC (cm:=ĵ a) (mb:=ux) T.gP.F Ie rfl rfl rfl T.wJ λcc Pt htb A outer s H E hr=>?_
 have hu:=hr.units
 exact ĕ (qj Ie (cZ (Ġ (ĉ (Zbr T) T.dB hr ď (ċ 0 (ċ 1 Đ))))) aH (tE (aC nT su (Ĭ (ā 0) (ā 1)) jz (Ń _))) (v_var 1)) (ľ (Lb (k:=2) ["costs"] [2] (ć Gw) hr.mo rfl rfl (by simp[lams]) htb rfl rfl rfl T.pH (Ę (ā 3) ģ) (λ_ _ _ _ _ hr hu=>(Ķ (ā 0) (ā 1))) ⟨rfl,⟨rfl,Or.inl rfl⟩,trivial⟩))
def XJ(T:Tx K mg a):Ħ P w K mg base Ů 6 a.Qt a.RN ["yard","number","goal","costs"] (Ş ⟨K,ĵ a⟩ 4 rD):=by
 refine ĺ T.iU.F Ig λ_ _ _ _ _ _ hr hu=>?_
 exact ĕ (Š (t_eq hu (ā 1) (ā 2)) (ľ ĩ) İ) (ĸ Ig (ĉ (Iu T) T.gP hr ď (ċ 0 (ċ 1 (ċ 3 Đ)))) (ľ (Zal (aC qN jO (ā 4) jz (Ń _)) lC (Ķ (ā 3) (ā 4)))))
def XM(T:Tx K mg a):Ħ P w K mg base Ů 8 a.Qu a.RP ["yard","turn","goal","later"] (Ş ⟨K,ĵ a⟩ 4 Az):=by
 refine ĺ T.pC.F kY λ_ _ _ _ _ _ hr _=>?_
 exact ĸ kY (ĉ (Ip T) T.zq hr ď (ċ 0 (ċ 1 Đ))) (ĸ kY (Ŗ Ě) (ĕ (cY PassesOwn.leaving rfl (Ŵ rfl T.aM (Ć (v_mul (ě (Œ ["Yard"] (Zb T) (ā 0))) (ě (Œ ["Yard"] (Zm T) (ā 0)))) Ě)) (dZ kY) (ĸ kY (ĉ (XJ T) T.iU hr ď (ċ 0 (ċ 6 (ċ 2 (ċ 3 Đ))))) (ĸ kY (Ű (v_sub ą (ě (bF Kw Ky (ě (bF Fg Fi (ā 4) (ā 6))) ą)))) (į (PS.wk (Ż (iB PySem.F.plainAttrs_list PySem.F.slot_list_append PySem.F.type_list_append ń (pv 5) (Ć (Zal (aC qN jO (ā 7) jz (Ń _)) lC (v_add (ā 8) (ā 7))) Ě))) λ_ _ _ h=>dO h))))) (ļ (lB 5))))
def XQ(T:Tx K mg a):Ħ P w K mg base Ů 9 a.Qw a.RQ ["yard","day","goal"] (Ş ⟨K,ĵ a⟩ 3 A_):=by
 refine ĺ T.pD.F pP λ_ _ _ _ _ _ hr _=>?_
 exact ĸ pP (Ŗ Ě) (ĕ (qj pP (Ŵ rfl T.aM (Ć (v_mul (ě (Œ ["Yard"] (Zb T) (ā 0))) (ě (Œ ["Yard"] (Zm T) (ā 0)))) Ě)) aH Ŝ lC) (ĕ (cY PassesOwn.leaving rfl (ZaQ rfl T.pI (Ġ (ĉ (Xp T) T.pA hr ď (ċ 0 (ċ 1 Đ))))) (dZ pP) (ĸ pP (ĉ (XM T) T.pC hr ď (ċ 0 (ċ 5 (ċ 2 (ċ 4 Đ))))) (į (PS.wk (Ż (iB PySem.F.plainAttrs_list PySem.F.slot_list_append PySem.F.type_list_append ń (pv 3) (Ŧ (pv 4) bC))) λ_ _ _ h=>Gp h)))) (ļ (Lg 3 rfl rfl T.bM rfl T.pI))))
def XR(T:Tx K mg a):Ħ P w K mg base Ů 6 a.Qx a.RT ["yard","start","goal","paper"] (Ş ⟨K,ĵ a⟩ 4 wz):=by
 refine ĺ T.wF.F Ih λ_ _ _ _ _ _ hr hu=>?_
 exact ĸ Ih (Ŗ (Ć (v_var 1) Ě)) (ĕ (Kp PassesOwn.leaving (Gb hu (Ĭ (ā 4) (ě (nG bI aF ą))) (ā 2)) (į (PS.wk (Ż (iB PySem.F.plainAttrs_list PySem.F.slot_list_append PySem.F.type_list_append ń (pv 4) (Ć (Ġ (ĉ (Iu T) T.gP hr ď (ċ 0 (č (Ķ (ā 4) (ě (nG bI aF ą))) (č (Ķ (ā 3) (ě (ū ů ű T.aZ PySem.boot_len (Ę (ā 4) ģ)))) Đ))))) Ě))) λ_ _ _ h=>dO h))) (ļ (mj (aQ 4) aH Ŝ (Ġ (ĉ (Ir T) T.jl hr ď (ċ 1 (č (Œ ["Yard"] (Zb T) (ā 0)) Đ)))))))
def zK(T:Tx K mg a):Ħ P w K mg base Ů 10 a.Qy a.RW ["yard","day","start","goal"] (Ş ⟨K,ĵ a⟩ 4 iQ):=by
 refine ĺ T.Ŭ.F uX λ_ _ _ _ _ _ hr _=>?_
 exact ĕ (sX (Ġ (ĉ (Im T) T.cJ hr ď (ċ 0 (ċ 2 Đ))))) (ĕ (sX (Ġ (ĉ (Im T) T.cJ hr ď (ċ 0 (ċ 3 Đ))))) (ĕ (sX (Ġ (ĉ (Xo T) T.lO hr ď (ċ 0 (ċ 1 Đ))))) (ĸ uX (ĉ (zH T) T.cj hr ď (ċ 2 (č (Œ ["Yard"] (Zb T) (ā 0)) Đ))) (ĸ uX (ĉ (zH T) T.cj hr ď (ċ 3 (č (Œ ["Yard"] (Zb T) (ā 0)) Đ))) (ĸ uX (ĉ (XQ T) T.pD hr ď (ċ 0 (ċ 1 (ċ 5 Đ)))) (ĕ (Š (aC qN jO (Ĭ (Ĭ (ā 6) ą) (ā 4)) jz (Ń _)) (ļ (Gq (uh Ÿ (Wi 6)))) İ) (ļ (Gq (uh Ÿ (uh (Ķ (Ĭ (ā 6) ą) (ā 4)) (Wj 6 (ĉ (XR T) T.wF hr ď (ċ 0 (ċ 4 (ċ 5 (ċ 6 Đ))))))))))))))))
def X_(T:Tx K mg a):Ħ P w K mg base Ů 1 a.Qz a.RX ["_law_size_here","_law_number"] (Ş ⟨K,ĵ a⟩ 2 Ba):=by
 refine ĺ T.iV.F zF λ_ _ _ _ _ _ _ _=>?_
 exact ĕ (PS.wk (T_ (i:=3) (j:=4) rfl zF.nd rfl rfl (by decide) rfl rfl (Ć (v_mod (ā 1) (Ĭ (ā 0) ą)) (Ć (iI (ā 1) (Ĭ (ā 0) ą)) Ě)) rfl) λ_ _ _ h=>Ko h) (ĸ zF (Ŗ (Ć (Ĵ (Ć (v_var 3) (Ć (v_var 4) Ě))) (Ć (Ĵ (Ć (v_sub (ā 3) ą) (Ć (v_var 4) Ě))) (Ć (Ĵ (Ć (v_add (ā 3) ą) (Ć (v_var 4) Ě))) (Ć (Ĵ (Ć (v_var 3) (Ć (v_sub (ā 4) ą) Ě))) (Ć (Ĵ (Ć (v_var 3) (Ć (v_add (ā 4) ą) Ě))) Ě)))))) (ļ (mj (aQ 2) (vB rfl (Ō aH (Ō aH jg))) (tE (PW.pt (w_and (Ml eU gk eG fU ą (ā 1) (Ĭ (ā 0) ą)) (dN (Ml eU gk eG fU ą (ā 2) (Ĭ (ā 0) ą)))))) (v_add (ŋ (ā 2) (Ĭ (ā 0) ą)) (ā 1)))))
def Yb(T:Tx K mg a):Ħ P w K mg base Ů 2 a.QB a.RZ ["_law_size_here","_law_bits","_law_behind","_law_number","_law_goal"] (Ş ⟨K,ĵ a⟩ 5 eX):=by
 refine ĺ T.pF.F zG λ_ _ _ _ _ _ hr hu=>?_
 exact ĸ zG (Ű (v_sub ą (ŏ (ě (bF Fg Fi (ā 1) (ā 3))) ą))) (ĕ (Š (t_eq hu (ā 3) (ā 4)) (ļ (lB 5)) İ) (ĕ (Š (aC qN jO (ā 2) jz (Ń _)) (ľ lC) İ) (ĕ (qj zG (cZ (Ġ (ĉ (X_ T) T.iV hr ď (ċ 0 (ċ 3 Đ))))) aH (tE (aC nT su (Ĭ (ā 0) (ā 1)) jz (Ń _))) (Ķ (ā 0) (ā 1))) (ĕ (Š (t_eq hu (ā 6) (ě (Ġ (Ŗ Ě)))) (ľ lC) İ) (ļ (iK (ā 5) (ě (ū (yC rfl) yE T.pH PyProof.Rows.boot_min (Ę (ā 6) ģ)))))))))
def Yc(T:Tx K mg a):Ħ P w K mg base Ů 1 a.QC a.R_ ["_law_found"] (Ş ⟨K,ĵ a⟩ 1 Bb):=by
 refine ĺ T.jF.F Xa λ_ _ _ _ _ _ _ _=>?_
 exact ľ (v_and (ū nW nY T.ao PyProof.Rows.boot_isinstance (Ę (ā 0) (Ę (ě (Aa (.ty "int") (jr (v:=.ty "int") rfl T.SQ PyProof.Rows.boot_int rfl))) ģ))) (iD (v_not (ū nW nY T.ao PyProof.Rows.boot_isinstance (Ę (ā 0) (Ę (ě (Aa (.ty "bool") (jr (v:=.ty "bool") rfl T.Wt PyProof.Rows.boot_bool rfl))) ģ))))))
def Yd(T:Tx K mg a):Ħ P w K mg base Ů 3 a.QD a.Sd ["_law_paper_here","_law_size_here","_law_sets","_law_goal"] (Ş ⟨K,ĵ a⟩ 4 Bc):=by
 refine ĺ T.jG.F kZ λ_ _ _ _ _ _ hr hu=>?_
 exact ĕ (Š (PW.pt (w_or (lE (bG (ě (ū nW nY T.ao PyProof.Rows.boot_isinstance (Ę (ā 0) (Ę (ě (Aa (.ty "list") (jr (v:=.ty "list") rfl T.bM PyProof.Rows.boot_list rfl))) ģ)))))) (Ew (Gb hu (ě (ū ů ű T.aZ PySem.boot_len (Ę (ā 0) ģ))) (ě (ū ů ű T.aZ PySem.boot_len (Ę (ā 2) ģ))))))) (ľ xU) İ) (ĕ (cY PassesOwn.leaving rfl (Ŵ rfl T.aM (Ć (ū ů ű T.aZ PySem.boot_len (Ę (ā 2) ģ)) Ě)) (dZ kZ) (ĕ (Š (PW.pt (w_or (lE (bG (ě (ū nW nY T.ao PyProof.Rows.boot_isinstance (Ę (Ĭ (ā 0) (ā 4)) (Ę (ě (Aa (.ty "list") (jr (v:=.ty "list") rfl T.bM PyProof.Rows.boot_list rfl))) ģ)))))) (Ew (Gb hu (ě (ū ů ű T.aZ PySem.boot_len (Ę (Ĭ (ā 0) (ā 4)) ģ))) (ŋ (Ĭ (ā 1) ą) (Ĭ (ā 1) ą)))))) (ľ xU) İ) (į (cY PassesOwn.leaving rfl (cZ (Ķ (ā 0) (ā 4))) (dZ kZ) (į (Š (PW.pt (w_and (aC nT su (ā 5) jz (Ń _)) (dN (lE (bG (ě (Ġ (ĉ (Yc T) T.jF hr ď (ċ 5 Đ))))))))) (ľ xU) İ)))))) (ĕ (cY PassesOwn.leaving rfl (Ŵ rfl T.aM (Ć (ū ů ű T.aZ PySem.boot_len (Ę (ā 2) ģ)) Ě)) (dZ kZ) (ĸ kZ (Ű (Ķ (cg (ā 0) (ě (Ġ (Ŗ (Ć lC Ě))))) (cg (ā 4) ą))) (ĕ (qj kZ (Ŵ rfl T.aM (Ć (ū ů ű T.aZ PySem.boot_len (Ę (Ĭ (ā 0) (ā 4)) ģ)) Ě)) aH Ŝ (Ġ (ĉ (Yb T) T.pF hr ď (ċ 0 (č (Ķ (ā 3) (ā 4)) (ċ 1 (ċ 5 (ċ 2 Đ)))))))) (į (Š (Gb hu (Ĭ (ā 0) (ā 4)) (ā 7)) (ľ xU) İ))))) (ľ xU)))
def Iv(T:Tx K mg a):Ħ P w K mg base Ů 4 a.QF a.Sg ["_law_told_here","_law_size_here","_law_sets","_law_start","_law_goal"] (Ş ⟨K,ĵ a⟩ 5 lK):=by
 refine ĺ T.gQ.F Xb λ_ _ _ _ _ _ hr hu=>?_
 exact ĕ (Š (PW.pt (w_or (lE (bG (ě (ū nW nY T.ao PyProof.Rows.boot_isinstance (Ę (ā 0) (Ę (ě (Aa (.ty "tuple") (jr (v:=.ty "tuple") rfl T.Bg PyProof.Rows.boot_tuple rfl))) ģ)))))) (w_or (t_eq hu (ā 0) (ě (Ĵ Ě))) (Ew (lE (bG (ě (Ġ (ĉ (Yd T) T.jG hr ď (č (Ķ (ā 0) (ě (nG bI aF ą))) (ċ 1 (ċ 2 (ċ 4 Đ))))))))))))) (ľ xU) İ) (ĕ (Š (aC qN jO (Ĭ (Ĭ (Ĭ (ā 0) (ě (nG bI aF ą))) ą) (ā 3)) jz (Ń _)) (ľ (v_and (v_eq hu (ě (ū ů ű T.aZ PySem.boot_len (Ę (ā 0) ģ))) ą) (iD (v_eq hu (Ĭ (ā 0) ą) oH)))) İ) (ľ (v_and (v_eq hu (ě (ū ů ű T.aZ PySem.boot_len (Ę (ā 0) ģ))) ą) (iD (v_eq hu (Ĭ (ā 0) ą) oH)))))
def Iw(T:Tx K mg a):Ħ P w K mg base Ů 1 a.QG a.Sh ["_law_number"] (Ş ⟨K,ĵ a⟩ 1 rE):=by
 refine ĺ T.cL.F Xc λ_ _ _ _ _ _ _ hu=>?_
 exact ĕ (Š (t_eq hu (ŏ (iJ (ā 0) ą) ą) ą) (ļ (iK ą (ŏ (ŋ (ā 0) ą) (ě (bF nP nu ą ą))))) İ) (ļ (iK ą (ŏ (ā 0) ą)))
def pQ(T:Tx K mg a):Ħ P w K mg base Ů 1 a.QH a.Sq ["_law_number","_law_wide"] (Ş ⟨K,ĵ a⟩ 2 iR):=by
 refine ĺ T.ŭ.F Xd λ_ _ _ _ _ _ _ hu=>?_
 exact ĕ (Š (t_eq hu (ŏ (iJ (ā 0) ą) ą) ą) (ļ (iK (vP (ŏ (ŋ (ā 0) ą) (vP (ŋ ą (ě (bF nP nu ą ą))) ą)) (ě (bF nP nu ą ą))) ą)) İ) (ľ (v_sub (ŏ (ā 0) (cg (ŋ ą (ā 1)) ą)) ą))
def Ye(T:Tx K mg a):Ħ P w K mg base Ů 2 a.QJ a.Ss ["_law_cell","_law_wide"] (Ş ⟨K,ĵ a⟩ 2 gC):=by
 refine ĺ T.jH.F gW λ_ _ _ _ _ _ hr hu=>?_
 exact ĸ gW (ĉ (Ii T) T.cI hr ď (ċ 0 (č ĩ Đ))) (ĕ (Mp (Ġ (mj (Ŵ rfl T.aM (Ć ĩ Ě)) aH Ŝ (Ġ (ĉ (pQ T) T.ŭ hr ď (č (Ķ (ā 1) (ā 2)) (ċ 0 Đ)))))) (MN rfl (Ō (dZ gW) (Ō (dZ gW) jg)))) (ĸ gW (ĉ (Iw T) T.cL hr ď (č (Ķ (ā 2) ą) Đ)) (ĸ gW (Ű (v_mod (Ĭ (ā 2) ą) ą)) (ĕ (Š (t_eq hu (ā 4) ą) (ľ (Ĵ (Ć Ÿ (Ć (Ġ (Ŗ (Ć (iI (ā 5) ą) (Ć (iI (ā 6) ą) (Ć (v_var 3) Ě))))) Ě)))) İ) (ĕ (Š (t_eq hu (ā 4) ą) (ĕ (Mp (Ġ (Ŗ (Ć (v_sub (cg (ā 5) (ŏ (Ĭ (ā 2) ą) ą)) ą) (Ć (v_sub (cg (ā 6) (ŏ (Ĭ (ā 2) ą) ą)) ą) Ě)))) (MN rfl (Ō (dZ gW) (Ō (dZ gW) jg)))) (ľ (Ĵ (Ć Ÿ (Ć (Ġ (Ŗ (Ć (v_var 5) (Ć (v_var 6) (Ć (v_add (ā 7) (ě (ZaO VH VJ T.SQ PyProof.Rows.boot_int (Ę (ě (v_eq hu (ě (Ĵ (Ć (v_var 5) (Ć (v_var 6) Ě)))) (ě (Ĵ (Ć (v_var 7) (Ć (v_var 8) Ě)))))) ģ)))) (Ć (v_var 8) (Ć (v_var 3) Ě))))))) Ě))))) İ) (ĕ (Š (t_eq hu (ā 4) ą) (ľ (Ĵ (Ć Ÿ (Ć (v_add (cg (ě (Ġ (Ŗ (Ć (v_var 5) (Ć (v_var 6) (Ć (v_mod (Ĭ (ā 2) ą) ą) Ě)))))) (ě (Ġ (Ŗ (Ć (Ġ (ĉ (pQ T) T.ŭ hr ď (č (Ķ (ā 2) ą) (ċ 1 Đ)))) (Ć (Ġ (ĉ (pQ T) T.ŭ hr ď (č (Ķ (ā 2) ą) (ċ 1 Đ)))) (Ć (v_var 3) Ě))))))) (ě (Ġ (Ŗ (Ć (Ġ (ĉ (pQ T) T.ŭ hr ď (č (Ķ (ā 2) ą) (ċ 1 Đ)))) (Ć (Ġ (ĉ (pQ T) T.ŭ hr ď (č (Ķ (ā 2) ą) (ċ 1 Đ)))) (Ć (Ġ (ĉ (Iw T) T.cL hr ď (č (Ķ (ā 2) ą) Đ))) Ě))))))) Ě)))) İ) (ľ (Ĵ (Ć (Ķ (ě (Ġ (Ŗ (Ć Ÿ (Ć Ÿ Ě))))) (vP (ā 4) ą)) (Ć (Ġ (Ŗ (Ć (v_var 5) (Ć (v_var 6) (Ć (v_add (cg (ā 5) ą) (ŏ (Ĭ (ā 2) ą) ą)) (Ć (v_add (cg (ā 6) ą) (ŏ (Ĭ (ā 2) ą) ą)) (Ć (v_var 3) Ě))))))) Ě))))))))))
def pR(T:Tx K mg a):Ħ P w K mg base Ů 1 a.QK a.Sv ["number"] (Ş ⟨K,ĵ a⟩ 1 lM):=by
 refine ĺ T.aJ.F Xe λ_ _ _ _ _ _ _ _=>?_
 exact ľ (qL eU eU eG eG (ě (nG bI aF (ě (Aa (.int 1000000000) (jq (v:=.int 1000000000) rfl T.jK ⟨_,rfl⟩))))) (ā 0) (ě (Aa (.int 1000000000) (jq (v:=.int 1000000000) rfl T.jK ⟨_,rfl⟩))))
def Iz(T:Tx K mg a):Ħ P w K mg base Ů 1 a.QL a.Sw ["number"] (Ş ⟨K,ĵ a⟩ 1 wA):=by
 refine ĺ T.gR.F Xf λ_ _ _ _ _ _ _ _=>?_
 exact ľ (qL eU eU eG eG ą (ā 0) (ě (Aa (.int 1000000000) (jq (v:=.int 1000000000) rfl T.iZ ⟨_,rfl⟩))))
def Yg(T:Tx K mg a):Ħ P w K mg base Ů 2 a.QM a.Sx ["numbers"] (Ş ⟨K,ĵ a⟩ 1 wB):=by
 refine ĺ T.jJ.F Xg λ_ _ _ _ _ _ hr hu=>?_
 exact ľ (v_and (v_eq hu (ě (ū ů ű T.aZ PySem.boot_len (Ę (ā 0) ģ))) ą) (v_and (Ġ (ĉ (pR T) T.aJ hr ď (č (Ķ (ā 0) ą) Đ))) (v_and (Ġ (ĉ (pR T) T.aJ hr ď (č (Ķ (ā 0) ą) Đ))) (iD (Ġ (ĉ (Iz T) T.gR hr ď (č (Ķ (ā 0) ą) Đ)))))))
def IK(T:Tx K mg a):Ħ P w K mg base Ů 1 a.mq a.Cv ["self","word","numbers"] (Jf ⟨K,ĵ a⟩ 3 "Post" uE):=by
 refine Yr (cm:=ĵ a) (mb:=eY) T.ĭ.F wK rfl rfl rfl λcdv A outer s H E hr=>?_
 have hu:=hr.units
 exact ĕ (aj ["Thing","Post","Fence","Sail","Cloth","House"] (ZA T) (pv 0) (v_var 1)) (į (aj ["Thing","Post","Fence","Sail","Cloth","House"] (Z8 T) (pv 0) (Ġ (vQ bW bY T.bM PyProof.Rows.boot_list (Ę (ā 2) ģ)))))
def Cw(T:Tx K mg a):Ħ P w K mg base Ů 1 a.mq a.Cv ["self","word","numbers"] (Jf ⟨K,ĵ a⟩ 3 "Fence" oX):=by
 refine Yr (cm:=ĵ a) (mb:=eY) T.ĭ.F wK rfl rfl rfl λcdv A outer s H E hr=>?_
 have hu:=hr.units
 exact ĕ (aj ["Thing","Post","Fence","Sail","Cloth","House"] (ZA T) (pv 0) (v_var 1)) (į (aj ["Thing","Post","Fence","Sail","Cloth","House"] (Z8 T) (pv 0) (Ġ (vQ bW bY T.bM PyProof.Rows.boot_list (Ę (ā 2) ģ)))))
def IV(T:Tx K mg a):Ħ P w K mg base Ů 1 a.mq a.Cv ["self","word","numbers"] (Jf ⟨K,ĵ a⟩ 3 "Sail" uF):=by
 refine Yr (cm:=ĵ a) (mb:=eY) T.ĭ.F wK rfl rfl rfl λcdv A outer s H E hr=>?_
 have hu:=hr.units
 exact ĕ (aj ["Thing","Post","Fence","Sail","Cloth","House"] (ZA T) (pv 0) (v_var 1)) (į (aj ["Thing","Post","Fence","Sail","Cloth","House"] (Z8 T) (pv 0) (Ġ (vQ bW bY T.bM PyProof.Rows.boot_list (Ę (ā 2) ģ)))))
def Cy(T:Tx K mg a):Ħ P w K mg base Ů 1 a.mq a.Cv ["self","word","numbers"] (Jf ⟨K,ĵ a⟩ 3 "Cloth" oY):=by
 refine Yr (cm:=ĵ a) (mb:=eY) T.ĭ.F wK rfl rfl rfl λcdv A outer s H E hr=>?_
 have hu:=hr.units
 exact ĕ (aj ["Thing","Post","Fence","Sail","Cloth","House"] (ZA T) (pv 0) (v_var 1)) (į (aj ["Thing","Post","Fence","Sail","Cloth","House"] (Z8 T) (pv 0) (Ġ (vQ bW bY T.bM PyProof.Rows.boot_list (Ę (ā 2) ģ)))))
def Cz(T:Tx K mg a):Ħ P w K mg base Ů 1 a.mq a.Cv ["self","word","numbers"] (Jf ⟨K,ĵ a⟩ 3 "House" oZ):=by
 refine Yr (cm:=ĵ a) (mb:=eY) T.ĭ.F wK rfl rfl rfl λcdv A outer s H E hr=>?_
 have hu:=hr.units
 exact ĕ (aj ["Thing","Post","Fence","Sail","Cloth","House"] (ZA T) (pv 0) (v_var 1)) (į (aj ["Thing","Post","Fence","Sail","Cloth","House"] (Z8 T) (pv 0) (Ġ (vQ bW bY T.bM PyProof.Rows.boot_list (Ę (ā 2) ģ)))))
def IW(T:Tx K mg a):Ħ P w K mg base Ů 2 a.QS a.Sy ["numbers"] (Ş ⟨K,ĵ a⟩ 1 rG):=by
 refine ĺ T.bL.F Xh λ_ _ _ _ _ _ hr hu=>?_
 exact ľ (v_and (v_eq hu (ě (ū ů ű T.aZ PySem.boot_len (Ę (ā 0) ģ))) ą) (v_and (ū (xO rfl) yg T.HX PyProof.Rows.boot_all (Ę (ě (Ġ (mj (cZ (Ġ (aL (ā 0) nU (ŷ ĩ)))) aH Ŝ (Ġ (ĉ (pR T) T.aJ hr ď (ċ 0 Đ)))))) ģ)) (iD (Ġ (ĉ (Iz T) T.gR hr ď (č (Ķ (ā 0) ą) Đ))))))
def Yh(T:Tx K mg a):Ħ P w K mg base Ů 3 a.QT a.SJ ["numbers"] (Ş ⟨K,ĵ a⟩ 1 wC):=by
 refine ĺ T.iW.F Xi λ_ _ _ _ _ _ hr hu=>?_
 exact ľ (v_and (Ġ (ĉ (IW T) T.bL hr ď (ċ 0 Đ))) (iD (vA Mx (Ei hu) (ě (Ġ (aL (ā 0) nU (ŷ ĩ)))) (ě (Ġ (aL (ā 0) (ŷ ĩ) (ŷ ĩ)))) (Ń _))))
def Tc(T:Tx K mg a):Ħ P w K mg base Ů 3 a.Za7 a.Zbf ["numbers"] (Ş ⟨K,ĵ a⟩ 1 Cu):=by
 refine ĺ T.ŝ.F Zbl λ_ _ _ _ _ _ hr _=>?_
 exact ľ (v_and (Ġ (ĉ (IW T) T.bL hr ď (ċ 0 Đ))) (v_and (vA gk fU (Ĭ (ā 0) ą) (Ĭ (ā 0) ą) (Ń _)) (iD (vA gk fU (Ĭ (ā 0) ą) (Ĭ (ā 0) ą) (Ń _)))))
def Zbs(T:Tx K mg a):Ħ P w K mg base Ů 2 a.Za8 a.Zbg ["numbers"] (Ş ⟨K,ĵ a⟩ 1 Lp):=by
 refine ĺ T.cA.F Zbm λ_ _ _ _ _ _ hr _=>?_
 exact ľ (v_and (Ġ (ĉ (pR T) T.aJ hr ď (č (Ķ (ā 0) ą) Đ))) (v_and (Ġ (ĉ (pR T) T.aJ hr ď (č (Ķ (ā 0) ą) Đ))) (iD (qL eU eU eG eG ą (Ĭ (ā 0) ą) (ě (Aa (.int 1000000000) (jq (v:=.int 1000000000) rfl T.iZ ⟨_,rfl⟩)))))))
def Yi(T:Tx K mg a):Ħ P w K mg base Ů 3 a.QV a.SM ["numbers"] (Ş ⟨K,ĵ a⟩ 1 wD):=by
 refine ĺ T.iY.F Xj λ_ _ _ _ _ _ hr hu=>?_
 exact ľ (v_and (v_eq hu (ě (ū ů ű T.aZ PySem.boot_len (Ę (ā 0) ģ))) ą) (iD (ū (xO rfl) yg T.HX PyProof.Rows.boot_all (Ę (ě (Ġ (mj (cZ (Ĵ (Ć ĩ (Ć ĩ (Ć ĩ Ě))))) aH Ŝ (Ġ (ĉ (Zbs T) T.cA hr ď (č (Ġ (aL (ā 0) (ŷ (v_var 1)) (ŷ (v_add (ā 1) ą)))) Đ)))))) ģ))))
def Yj(T:Tx K mg a):Ħ P w K mg base Ů 4 a.QW a.SN ["word","numbers"] (Ş ⟨K,ĵ a⟩ 2 dz):=by
 refine ĺ T.pG.F Xk λ_ _ _ _ _ _ hr hu=>?_
 exact ĕ (Š (PW.pt (w_and (t_eq hu (ā 0) oH) (dN (bG (ě (Ġ (ĉ (Yg T) T.jJ hr ď (ċ 1 Đ)))))))) (ľ (jY T.Wv (IK T) bh hr.mo rfl (Z2i T) T.ĭ.b ď (ċ 0 (ċ 1 Đ)))) İ) (ĕ (Š (PW.pt (w_and (t_eq hu (ā 0) oH) (dN (bG (ě (Ġ (ĉ (Yh T) T.iW hr ď (ċ 1 Đ)))))))) (ľ (jY T.Lx (Cw T) bh hr.mo rfl (Z1G T) T.ĭ.b ď (ċ 0 (ċ 1 Đ)))) İ) (ĕ (Š (PW.pt (w_and (t_eq hu (ā 0) oH) (dN (bG (ě (Ġ (ĉ (Tc T) T.ŝ hr ď (ċ 1 Đ)))))))) (ľ (jY T.Ww (IV T) bh hr.mo rfl (Z2j T) T.ĭ.b ď (ċ 0 (ċ 1 Đ)))) İ) (ĕ (Š (PW.pt (w_and (t_eq hu (ā 0) oH) (dN (bG (ě (Ġ (ĉ (Yi T) T.iY hr ď (ċ 1 Đ)))))))) (ľ (jY T.Ly (Cy T) bh hr.mo rfl (Z1H T) T.ĭ.b ď (ċ 0 (ċ 1 Đ)))) İ) (ĕ (Š (PW.pt (w_and (t_eq hu (ā 0) oH) (dN (bG (ě (Ġ (ĉ (Tc T) T.ŝ hr ď (ċ 1 Đ)))))))) (ľ (jY T.Lz (Cz T) bh hr.mo rfl (Z1I T) T.ĭ.b ď (ċ 0 (ċ 1 Đ)))) İ) (į sY)))))
def Yk(T:Tx K mg a):Ħ P w K mg base Ů 11 a.QX a.HN ["_law_script"] (Ş ⟨K,ĵ a⟩ 1 o_):=by
 refine ĺ T.HW.F aq λ_ _ _ _ _ _ hr hu=>?_
 exact ĸ aq (ĉ (Xl T) T.lN hr ď (č (Ġ (ĉ (eE T) T.ř hr ď (ċ 0 (č ĩ Đ)))) (č ĩ Đ))) (ĕ (qj aq (cZ (Ġ (aL (ā 0) (ŷ ĩ) (ŷ ĩ)))) aH Ŝ (Ġ (ĉ (Ye T) T.jH hr ď (ċ 1 (č (ū (yx rfl) yD T.Bf PyProof.Rows.boot_max (Ę (ā 0) ģ)) Đ))))) (ĸ aq (ĉ (Ij T) T.gD hr ď (ċ 0 (č ĩ (č (v_add ą (ŏ (ě (Ġ (ĉ (eE T) T.ř hr ď (ċ 0 (č ĩ Đ))))) ą)) (č ĩ Đ))))) (ĕ (Š (t_eq hu (ŏ (iJ (ě (Ġ (ĉ (eE T) T.ř hr ď (ċ 0 (č ĩ Đ))))) ą) ą) ą) (ĸ aq (Ű (Ĵ (Ć (v_add ą (ŏ (ě (Ġ (ĉ (eE T) T.ř hr ď (ċ 0 (č ĩ Đ))))) ą)) (Ć ĩ Ě)))) (ĸ aq (aL (ā 2) nU (ŷ ĩ)) (į (Cp aq (ĉ (Ij T) T.gD hr ď (ċ 0 (č ĩ (č ĩ (č ĩ Đ))))))))) İ) (ĸ aq (Ű (jY T.Wu (Ik T) bh hr.mo rfl (Z2h T) T.eZ.b ď (č (Ķ (ā 1) ą) (č (Ķ (ā 1) ą) (č (Ġ (mj (aQ 2) (vB rfl (Ō aH (Ō aH jg))) Ŝ (Ġ (ĉ (Yj T) T.pG hr ď (ċ 0 (č (Ġ (vQ bW bY T.bM PyProof.Rows.boot_list (Ę (ā 1) ģ))) Đ)))))) (ċ 3 Đ)))))) (ĸ aq (Ű (v_mod (iJ (ě (Ġ (ĉ (eE T) T.ř hr ď (ċ 0 (č ĩ Đ))))) ą) (ě (ū ů ű T.aZ PySem.boot_len (Ę (ā 3) ģ))))) (ĸ aq (Ű (v_mod (ě (Ġ (ĉ (eE T) T.ř hr ď (ċ 0 (č ĩ Đ))))) (ŋ (Ĭ (ā 1) ą) (Ĭ (ā 1) ą)))) (ĸ aq (Ű (v_mod (ě (Ġ (ĉ (eE T) T.ř hr ď (ċ 0 (č ĩ Đ))))) (ŋ (Ĭ (ā 1) ą) (Ĭ (ā 1) ą)))) (ĕ (qj aq (cZ (Ķ (Ĭ (ā 3) (ā 5)) ą)) aH Ŝ (Ġ (ĉ (Ip T) T.zq hr ď (ċ 0 (ċ 1 Đ))))) (ĸ aq (Ŗ (Ć (Ĵ (Ć (v_mod (ā 6) (Ĭ (ā 1) ą)) (Ć (iI (ā 6) (Ĭ (ā 1) ą)) Ě))) (Ć (Ĵ (Ć (v_mod (ā 7) (Ĭ (ā 1) ą)) (Ć (iI (ā 7) (Ĭ (ā 1) ą)) Ě))) Ě))) (ZaT (Dj (i:=10) aq.nd rfl (Or.inl rfl) (Li (zK T) bH hr.mo rfl T.Ŭ.m T.Ŭ.F.kp T.Ŭ.b ď (ċ 4 (ċ 5 (č (Ķ (ā 9) ą) (č (Ķ (ā 9) ą) Đ)))))) (lE (bG (ě (Ġ (ĉ (Iv T) T.gQ hr ď (ċ 10 (ċ 1 (ċ 8 (ċ 6 (ċ 7 Đ)))))))))) (ľ xU) (Ż (iB PySem.F.plainAttrs_list PySem.F.slot_list_append PySem.F.type_list_append ń (zQ sE (zQ sE (pv 10) (Dp aF rY) (λ_ _=>rfl)) rY (λ_ _=>rfl)) (Ŧ CZ bC))) (Ż (iB PySem.F.plainAttrs_list PySem.F.slot_list_append PySem.F.type_list_append ń (zQ sE (pv 10) (Dp aF rY) (λ_ _=>rfl)) (Ŧ (DG bC) bC))) (ĕ (sX (Ġ (ĉ (zK T) T.Ŭ hr ď (ċ 4 (č (v_mod (cg (ā 5) ą) (ě (ū ů ű T.aZ PySem.boot_len (Ę (ā 3) ģ)))) (č (Ķ (ā 9) ą) (č (Ķ (ā 9) ą) Đ))))))) (ļ (ĉ (Iv T) T.gQ hr ď (č (Ġ (ĉ (zK T) T.Ŭ hr ď (ċ 4 (ċ 5 (č (Ķ (ā 9) ą) (č (Ķ (ā 9) ą) Đ)))))) (ċ 1 (ċ 8 (ċ 6 (ċ 7 Đ))))))))))))))))))
end
def pt(p:Hu.Pt):PV:=.tup [.int p.1,.int p.2]
def fH(l:Hu.Ln):PV:=.tup [.int l.1,.int l.2.1,.int l.2.2]
def Sm(p:Hu.Pt):Prop:=-100000000000000000<=p.1/\p.1<=100000000000000000/\ -100000000000000000<=p.2/\p.2<=100000000000000000
def Td(l:Hu.Ln):Prop:=-1000000000000000000<=l.1/\l.1<=1000000000000000000/\ -1000000000000000000<=l.2.1/\l.2.1<=1000000000000000000
def Z0m{x y:Hu.Pt}:eqB (pt y) (pt x)=decide (y=x):=by
 obtain⟨a,b⟩:=x
 obtain⟨c,d⟩:=y
 unfold pt
 rw[VP,Bool.eq_iff_iff]
 simp
def ZV(x:Hu.Pt):Ř (pt x)=true:=by simp[pt,Ř,Ť]
def ZO(x:Hu.Pt):dep (pt x)=1:=by simp[pt,dep,bJ]
def Z2B(S:List Hu.Pt):Ť (S.map pt)=true:=by
 induction S with
 |nil=>simp[Ť]
 |cons p S ih=>simp[Ť,ZV,ih]
theorem Z1h(x:Hu.Pt):∀k:List Hu.Pt,(k.map pt).any (λy=>eqB y (pt x))=decide (x∈k)
 | []=>by simp
 |y::k=>by
  rw[List.map_cons,List.any_cons,Z1h x k,Z0m,Bool.eq_iff_iff]
  simp
  constructor
  ·rintro (e|e)
   ·exact .inl e.symm
   ·exact .inr e
  ·rintro (e|e)
   ·exact .inl e.symm
   ·exact .inr e
def Z0n(x:Hu.Pt)(k:List Hu.Pt):inD true (pt x) (.lst (k.map pt))=some (.bl (!decide (x∈k))):=by
 unfold inD
 simp only[ZV,Z2B,ZO,Z1h]
 rfl
def Z0V(x y:Hu.Pt):dX (pt x) (pt y)=some (.bl (!decide (x=y))):=by
 unfold dX lY
 rw[ZV,ZV,ZO,ZO,Z0m]
 rfl
def Z2k{a b:Hu.Pt}(ha:Sm a)(hb:Sm b):Aw [.sh (pt a),.sh (pt b)]=.ret (.sh (fH (Hu.Z5 a b))):=by
 obtain⟨a1,a2,a3,a4⟩:=ha
 obtain⟨b1,b2,b3,b4⟩:=hb
 have m1:ŀ (b.2-a.2) a.1=true:=ſ (by omega) (by omega)
 have m2:ŀ (a.1-b.1) a.2=true:=ſ (by omega) (by omega)
 simp[Aw,GP,List.replicate,pt,fH,Hu.Z5,m1,m2]
def Z1J{l:Hu.Ln}(hl:Td l)(p:Hu.Pt):qY [.sh (fH l),.sh (pt p)]=.ret (.sh (.bl (Hu.hd l p))):=by
 obtain⟨a1,a2,a3,a4⟩:=hl
 have m1:ŀ l.1 p.1=true:=ſ (by omega) (by omega)
 have m2:ŀ l.2.1 p.2=true:=ſ (by omega) (by omega)
 simp[qY,GQ,List.replicate,pt,fH,Hu.hd,m1,m2]
def Z0F{a b:Hu.Pt}(ha:Sm a)(hb:Sm b):Td (Hu.Z5 a b):=by
 obtain⟨a1,a2,a3,a4⟩:=ha
 obtain⟨b1,b2,b3,b4⟩:=hb
 simp only[Td,Hu.Z5]
 omega
def Sl(s:P.Slot)(ps:List PV):Prop:=s=.sh (.lst ps)\/s=.bw ps
def Sl.lend{s:P.Slot}{ps:List PV}(h:Sl s ps):bT s=some s:=by rcases h with rfl|rfl<;>rfl
def Sl.it{s:P.Slot}{ps:List PV}(h:Sl s ps){i:Nat}{ρ:Ļ}(e:ρ[i]?=some s):Ŕ i ρ=.ok ps ρ:= by
 rcases h with rfl|rfl<;>simp[e]
def Z2l{S:List Hu.Pt}{sl:P.Slot}(hs:Sl sl (S.map pt))(hl:S.length<=1000):Av [sl]=.ret (.ow ((Hu.Z4 S).map pt)):=by
 have hlen:∀(xs k:List Hu.Pt),(xs.foldl (λk x=>if x∈k then k else k ++ [x]) k).length<=k.length+xs.length:=by
  intro xs
  induction xs with
  |nil=>intro k;simp
  |cons x xs ih=>
   intro k
   rw[List.foldl_cons]
   refine Nat.le_trans (ih _) ?_
   split
   ·simp
   ·simp;omega
 have key:∀(xs:List Hu.Pt) (k:List Hu.Pt) (s2:P.Slot),k.length+xs.length<=1000->∃s2',forL (gN 2) kj (xs.map pt) [sl,.ow (k.map pt),s2]=.ok .nx [sl,.ow ((xs.foldl (λk x=>if x∈k then k else k ++ [x]) k).map pt),s2']:=by
  intro xs
  induction xs with
  |nil=>intro k s2 _;exact⟨s2,rfl⟩
  |cons x xs ih=>
   intro k s2 hk
   rw[List.length_cons] at hk
   by_cases hx:x∈k
   ·obtain⟨s2',e⟩:=ih k (.sh (pt x)) (by omega)
    refine⟨s2',?_⟩
    have hb:kj [sl,.ow (k.map pt),.sh (pt x)]=.ok .nx [sl,.ow (k.map pt),.sh (pt x)]:=by simp[kj,Z0n,hx]
    rw[List.map_cons,List.foldl_cons,if_pos hx,forL]
    simp[hb,e]
   ·obtain⟨s2',e⟩:=ih (k ++ [x]) (.sh (pt x)) (by simp;omega)
    refine⟨s2',?_⟩
    have h3:k.length<16777216:=by omega
    have hb:kj [sl,.ow (k.map pt),.sh (pt x)]=.ok .nx [sl,.ow ((k ++ [x]).map pt),.sh (pt x)]:=by simp[kj,Z0n,hx,h3]
    rw[List.map_cons,List.foldl_cons,if_neg hx,forL]
    simp only[Fy,List.set_cons_succ,List.set_cons_zero,hb,Res.Ž]
    exact e
 obtain⟨s2,e⟩:=key S [] .no (by simpa using hl)
 have hit:=hs.it (i:=0) (ρ:= [sl,.ow [],.no]) rfl
 simp only[List.map_nil] at e
 simp[Av,GK,List.replicate,-yj,hit,e]
 rfl
def Z1i(x:Int)(l:List Int):iH [.lst ((x::l).map .int)]=some (.int (Hu.mx (x::l))):=by
 show((intsOf ((x::l).map .int)).bind (best max)).map PV.int=_
 rw[dY]
 rfl
def Z1j(x:Int)(l:List Int):lF [.lst ((x::l).map .int)]=some (.int (Hu.mn (x::l))):=by
 show((intsOf ((x::l).map .int)).bind (best min)).map PV.int=_
 rw[dY]
 rfl
def Z2C{S:List Hu.Pt}{sl:P.Slot}(hs:Sl sl (S.map pt))(h0:S≠[])(hl:S.length<=1000):Ar [sl]=.ret (.ow ((Hu.box S).map fH)):=by
 have c1:Ĺ (gN 0) Ł (ă Č (Ā 0) (mC (.int 0))) (S.map pt) [.no] []=some ((S.map (·.1)).map .int):=by
  have:=ņ (g:=gN 0) (mt:=Ł) (me:=ă Č (Ā 0) (mC (.int 0))) pt (λp=>.int p.1) (λρ=>∃s,ρ=[s]) S [.no] [] ⟨_,rfl⟩ (by simp;omega) (by
   rintro x hx ρ ⟨s,rfl⟩
   exact⟨[.sh (pt x)],[.sh (pt x)],[.sh (pt x)],by simp,by simp,by simp[pt],_,rfl⟩)
  rw[this]
  simp
 have c2:Ĺ (gN 0) Ł (ă Č (Ā 0) (mC (.int 1))) (S.map pt) [.no] []=some ((S.map (·.2)).map .int):=by
  have:=ņ (g:=gN 0) (mt:=Ł) (me:=ă Č (Ā 0) (mC (.int 1))) pt (λp=>.int p.2) (λρ=>∃s,ρ=[s]) S [.no] [] ⟨_,rfl⟩ (by simp;omega) (by
   rintro x hx ρ ⟨s,rfl⟩
   exact⟨[.sh (pt x)],[.sh (pt x)],[.sh (pt x)],by simp,by simp,by simp[pt],_,rfl⟩)
  rw[this]
  simp
 obtain⟨p,R,rfl⟩:=List.exists_cons_of_ne_nil h0
 have x1:=Z1i p.1 (R.map (·.1))
 have x2:=Z1j p.1 (R.map (·.1))
 have x3:=Z1i p.2 (R.map (·.2))
 have x4:=Z1j p.2 (R.map (·.2))
 have hit:∀s1 s2,Ŕ 0 [sl,s1,s2]=.ok ((p::R).map pt) [sl,s1,s2]:=λs1 s2=>hs.it rfl
 have b:(Hu.box (p::R)).map fH=[.tup [.int 1,.int 0,.int (Hu.mx (p.1::R.map (·.1)))],.tup [.int (-1),.int 0,.int (- Hu.mn (p.1::R.map (·.1)))],.tup [.int 0,.int 1,.int (Hu.mx (p.2::R.map (·.2)))],.tup [.int 0,.int (-1),.int (- Hu.mn (p.2::R.map (·.2)))]]:=rfl
 rw[b]
 generalize (p::R).map pt=ps at hit c1 c2
 rw[List.map_cons] at c1 c2
 generalize (p.1::R.map (·.1)).map PV.int=us at c1 x1 x2
 generalize (p.2::R.map (·.2)).map PV.int=vs at c2 x3 x4
 simp[Ar,GJ,List.replicate,-yj,-KY,-tU,hit,c1,c2,x1,x2,x3,x4]
theorem Z0g:∀l:List Bool,boolsOf (l.map .bl)=some l
 | []=>rfl
 |x::l=>by rw[List.map_cons,boolsOf,Z0g l];rfl
def Z2D(l:List Bool):vL [.lst (l.map .bl)]=some (.bl (l.all id)):=by
 show(boolsOf (l.map .bl)).map (λbs=>PV.bl (bs.all id))=_
 rw[Z0g]
 rfl
def ZJ(S:List Hu.Pt):(Hu.Z4 S).length<=S.length:=by
 have:∀(xs k:List Hu.Pt),(xs.foldl (λk x=>if x∈k then k else k ++ [x]) k).length<=k.length+xs.length:=by
  intro xs
  induction xs with
  |nil=>intro k;simp
  |cons x xs ih=>
   intro k
   rw[List.foldl_cons]
   refine Nat.le_trans (ih _) ?_
   split
   ·simp
   ·simp;omega
 have h:=this S []
 rw[List.length_nil,Nat.zero_add] at h
 exact h
def Z1k{S:List Hu.Pt}(hS:∀p∈S,Sm p)(hl:S.length<=1000){a b:Hu.Pt}(ha:a∈S)(hb:b∈S)(s0 s5:P.Slot)(L:List Hu.Ln)(hL:L.length<16777216) :
 kE [s0,.ow (L.map fH),.sh (.lst ((Hu.Z4 S).map pt)),.sh (pt a),.sh (pt b),s5]=.ok .nx [s0,.ow ((L++(if a≠b/\(Hu.Z4 S).all (Hu.hd (Hu.Z5 a b)) then[Hu.Z5 a b] else[])).map fH),.sh (.lst ((Hu.Z4 S).map pt)),.sh (pt a),.sh (pt b),.sh (fH (Hu.Z5 a b))]:=by
 have hsm:=Z0F (hS a ha) (hS b hb)
 have c1:Ĺ (gN 1) Ł (Ď (đ qY (Ă 0 (Ă 1 Ċ)))) ((Hu.Z4 S).map pt) [.sh (fH (Hu.Z5 a b)),.no] []=some (((Hu.Z4 S).map (Hu.hd (Hu.Z5 a b))).map .bl):=by
  have hlen:(Hu.Z4 S).length<=16777216:=by have:=ZJ S;omega
  have:=ņ (g:=gN 1) (mt:=Ł) (me:=Ď (đ qY (Ă 0 (Ă 1 Ċ)))) pt (λp=>.bl (Hu.hd (Hu.Z5 a b) p)) (λρ=>∃s,ρ=[.sh (fH (Hu.Z5 a b)),s]) (Hu.Z4 S) [.sh (fH (Hu.Z5 a b)),.no] [] ⟨_,rfl⟩ (by simpa using hlen) (by
   rintro x hx ρ ⟨s,rfl⟩
   exact⟨[.sh (fH (Hu.Z5 a b)),.sh (pt x)],[.sh (fH (Hu.Z5 a b)),.sh (pt x)],[.sh (fH (Hu.Z5 a b)),.sh (pt x)],by simp,by simp,by simp[Z1J hsm],_,rfl⟩)
  rw[this]
  simp
 have c2:=Z2D ((Hu.Z4 S).map (Hu.hd (Hu.Z5 a b)))
 have e1:=Z2k (hS a ha) (hS b hb)
 have e3:((Hu.Z4 S).map (Hu.hd (Hu.Z5 a b))).all id=(Hu.Z4 S).all (Hu.hd (Hu.Z5 a b)):=by simp
 rw[e3] at c2
 generalize ((Hu.Z4 S).map (Hu.hd (Hu.Z5 a b))).map PV.bl=bs at c1 c2
 by_cases h1:a=b
 ·subst h1
  simp[kE,e1,Z0V]
 ·by_cases h2:(Hu.Z4 S).all (Hu.hd (Hu.Z5 a b))=true
  ·rw[h2] at c2
   simp[kE,e1,Z0V,h1,c1,c2,h2,hL,-List.all_eq_true]
  ·rw[Bool.not_eq_true] at h2
   rw[h2] at c2
   simp[kE,e1,Z0V,h1,c1,c2,h2,hL,-List.all_eq_true,-List.all_eq_false]
def Z1K{S:List Hu.Pt}(hS:∀p∈S,Sm p)(hl:S.length<=1000){a:Hu.Pt}(ha:a∈S)(s0:P.Slot):∀(xs:List Hu.Pt) (L:List Hu.Ln) (s4 s5:P.Slot),(∀x∈xs,x∈S)->L.length+xs.length<16777216->
 ∃wQ tH,forL (gN 4) kE (xs.map pt) [s0,.ow (L.map fH),.sh (.lst ((Hu.Z4 S).map pt)),.sh (pt a),s4,s5]=.ok .nx [s0,.ow ((L++xs.filterMap λb=>if a≠b/\(Hu.Z4 S).all (Hu.hd (Hu.Z5 a b)) then some (Hu.Z5 a b) else none).map fH),.sh (.lst ((Hu.Z4 S).map pt)),.sh (pt a),wQ,tH]:=by
 intro xs
 induction xs with
 |nil=>intro L s4 s5 _ _;exact⟨s4,s5,by simp[forL]⟩
 |cons b xs ih=>
  intro L s4 s5 hx hL
  rw[List.length_cons] at hL
  have hb:=Z1k hS hl ha (hx b (by simp)) s0 s5 L (by omega)
  obtain⟨wQ,tH,e⟩:=ih (L++(if a≠b/\(Hu.Z4 S).all (Hu.hd (Hu.Z5 a b)) then[Hu.Z5 a b] else[])) (.sh (pt b)) (.sh (fH (Hu.Z5 a b))) (λx h=>hx x (List.mem_cons_of_mem _ h)) (by
   rw[List.length_append]
   split
   ·simp;omega
   ·simp;omega)
  refine⟨wQ,tH,?_⟩
  rw[List.map_cons,forL]
  simp only[Fy,List.set_cons_succ,List.set_cons_zero,hb,Res.Ž]
  rw[e,List.filterMap_cons]
  by_cases hc:a≠b/\(Hu.Z4 S).all (Hu.hd (Hu.Z5 a b))=true
  ·rw[if_pos hc,if_pos hc]
   simp only[List.append_assoc,List.cons_append,List.nil_append]
  ·rw[if_neg hc,if_neg hc]
   simp only[List.append_nil]
def ZM{α β:Type}(f:α->Option β)(l:List α):(l.filterMap f).length<=l.length:=List.length_filterMap_le ..
def Z1L{S:List Hu.Pt}(hS:∀p∈S,Sm p)(hl:S.length<=1000)(s0:P.Slot):∀(xs:List Hu.Pt) (L:List Hu.Ln) (s3 s4 s5:P.Slot),(∀x∈xs,x∈S)->L.length+xs.length*1000<10000000->
 ∃s3' wQ tH,forL (gN 3) ur (xs.map pt) [s0,.ow (L.map fH),.sh (.lst ((Hu.Z4 S).map pt)),s3,s4,s5]=.ok .nx [s0,.ow ((L++xs.flatMap λa=>(Hu.Z4 S).filterMap λb=>if a≠b/\(Hu.Z4 S).all (Hu.hd (Hu.Z5 a b)) then some (Hu.Z5 a b) else none).map fH),.sh (.lst ((Hu.Z4 S).map pt)),s3',wQ,tH]:=by
 intro xs
 induction xs with
 |nil=>intro L s3 s4 s5 _ _;exact⟨s3,s4,s5,by simp[forL]⟩
 |cons a xs ih=>
  intro L s3 s4 s5 hx hL
  rw[List.length_cons] at hL
  have ho:=ZJ S
  obtain⟨a4,a5,e1⟩:=Z1K hS hl (hx a (by simp)) s0 (Hu.Z4 S) L s4 s5 (λx h=>Hu.Zp.mp h) (by omega)
  have hf:=ZM (λb=>if a≠b/\(Hu.Z4 S).all (Hu.hd (Hu.Z5 a b))=true then some (Hu.Z5 a b) else none) (Hu.Z4 S)
  obtain⟨s3',wQ,tH,e2⟩:=ih (L++(Hu.Z4 S).filterMap λb=>if a≠b/\(Hu.Z4 S).all (Hu.hd (Hu.Z5 a b))=true then some (Hu.Z5 a b) else none) (.sh (pt a)) a4 a5 (λx h=>hx x (List.mem_cons_of_mem _ h)) (by rw[List.length_append];omega)
  refine⟨s3',wQ,tH,?_⟩
  have hb:ur [s0,.ow (L.map fH),.sh (.lst ((Hu.Z4 S).map pt)),.sh (pt a),s4,s5]=.ok .nx [s0,.ow ((L++(Hu.Z4 S).filterMap λb=>if a≠b/\(Hu.Z4 S).all (Hu.hd (Hu.Z5 a b))=true then some (Hu.Z5 a b) else none).map fH),.sh (.lst ((Hu.Z4 S).map pt)),.sh (pt a),a4,a5]:=by
   unfold ur
   simp only[VD,yj,List.getElem?_cons_succ,List.getElem?_cons_zero,Res.Ž]
   exact e1
  rw[List.map_cons,forL]
  simp only[Fy,List.set_cons_succ,List.set_cons_zero,hb,Res.Ž]
  rw[e2,List.flatMap_cons,List.append_assoc]
def Z1M{S:List Hu.Pt}{sl:P.Slot}(hs:Sl sl (S.map pt))(hS:∀p∈S,Sm p)(hl:S.length<=1000):Ax [sl]=.ret (.ow ((Hu.ZG S).map fH)):=by
 have h1:=Z2l hs hl
 have ho:=ZJ S
 obtain⟨s3,s4,s5,e⟩:=Z1L hS hl sl (Hu.Z4 S) [] .no .no .no (λx h=>Hu.Zp.mp h) (by simp;omega)
 have he:[]++((Hu.Z4 S).flatMap λa=>(Hu.Z4 S).filterMap λb=>if a≠b/\(Hu.Z4 S).all (Hu.hd (Hu.Z5 a b))=true then some (Hu.Z5 a b) else none)=Hu.ZG S:=rfl
 rw[he] at e
 generalize Hu.ZG S=ed at e
 generalize (Hu.Z4 S).map pt=os at e h1
 simp only[List.map_nil] at e
 simp[Ax,GR,List.replicate,hs.lend,h1,e]
def Z1l(S:List Hu.Pt)(hl:S.length<=1000):(Hu.ZG S).length<=1000000:=by
 have ho:=ZJ S
 have:∀(xs:List Hu.Pt) (f:Hu.Pt->List Hu.Ln),(∀x,(f x).length<=1000)->(xs.flatMap f).length<=xs.length*1000:=by
  intro xs f hf
  induction xs with
  |nil=>simp
  |cons x xs ih=>rw[List.flatMap_cons,List.length_append,List.length_cons];have:=hf x;omega
 refine Nat.le_trans (this (Hu.Z4 S) _ λx=>Nat.le_trans (ZM _ _) (by omega)) (by omega)
def Z1N{S:List Hu.Pt}{sl:P.Slot}(hs:Sl sl (S.map pt))(hS:∀p∈S,Sm p)(h0:S≠[])(hl:S.length<=1000):Ay [sl]=.ret (.ow ((Hu.Zs S).map fH)):=by
 have h1:=Z2C hs h0 hl
 have h2:=Z1M hs hS hl
 have h3:Ĝ (.lst ((Hu.box S).map fH)) (.lst ((Hu.ZG S).map fH))=some (.ow ((Hu.Zs S).map fH)):=by
  rw[add_l (by have:=Z1l S hl;simp[Hu.box];omega),<-List.map_append]
  rfl
 simp[Ay,GX,List.replicate,hs.lend,h1,h2,h3]
def Z2E{S:List Hu.Pt}{l:Hu.Ln}(h:l∈Hu.Zs S)(hS:∀p∈S,Sm p):Td l:=by
 rcases List.mem_append.mp h with h|h
 ·unfold Hu.box at h
  simp only[List.mem_cons,List.not_mem_nil,or_false] at h
  rcases h with e|e|e|e<;>subst e<;>simp only[Td]<;>omega
 ·obtain⟨a,ha,b,hb,_,_,rfl⟩:=Hu.Z1g.mp h
  exact Z0F (hS a ha) (hS b hb)
def Z0W(n:Nat):gb 0 n 1=(List.range n).map λ(i:Nat)=>PV.int (i:Int):=by
 unfold gb
 refine List.map_congr_left λi _=>?_
 simp
def ZP{n:Nat}(h:n<=1000):aX [.int (n:Int)]=some ((List.range n).map λ(i:Nat)=>PV.int (i:Int)):=by
 have hs:nM (n:Int)=true:=by unfold nM;simp;omega
 unfold aX
 simp[hs,Z0W]
def Te(s:P.Slot)(ps:List PV):Prop:=s=.sh (.lst ps)\/s=.bw ps
def Ź(x:Int):Bool:=decide (-1000000000<=x/\x<=1000000000)
def wR(x:Int):Bool:=decide (1<=x/\x<=1000000000)
def wU(x:Int):Bool:=decide (0<=x/\x<=1000000000)
def ZZ(x:Int):lM [.sh (.int x)]=.ret (.sh (.bl (Ź x))):=by
 unfold Ź
 by_cases h1: -1000000000<=x<;>by_cases h2:x<=1000000000<;>simp[lM,Hx,List.replicate,h1,h2]
def Z0h(x:Int):wA [.sh (.int x)]=.ret (.sh (.bl (wR x))):=by
 unfold wR
 by_cases h1:1<=x<;>by_cases h2:x<=1000000000<;>simp[wA,Hy,List.replicate,h1,h2]
def Zg:List Int->Bool
 | [p,q,h]=>Ź p && Ź q && wR h
 |_=>false
def Zh:List Int->Bool
 | [x,y,u,v,h]=>Ź x && Ź y && Ź u && Ź v && wR h
 |_=>false
def Ze:List Int->Bool
 | [x,y,u,v,h]=>Zh [x,y,u,v,h] && !(decide (x=u) && decide (y=v))
 |_=>false
def Zc:List Int->Bool
 | [x,y,u,v,h]=>Zh [x,y,u,v,h] && decide (x<u) && decide (y<v)
 |_=>false
def Zf:List Int->Bool
 | [a,b,c,d,e,f,g,h,i]=>Ź a && Ź b && wU c && (Ź d && Ź e && wU f) && (Ź g && Ź h && wU i)
 |_=>false
def Z2F(a b c:Bool):vL [.lst [.bl a,.bl b,.bl c]]=some (.bl (a && b && c)):=by cases a<;>cases b<;>cases c<;>rfl
def Z2G(a b c d:Bool):vL [.lst [.bl a,.bl b,.bl c,.bl d]]=some (.bl (a && b && c && d)):=by cases a<;>cases b<;>cases c<;>cases d<;>rfl
def Z0l{xs:List Int}{sl:P.Slot}(hs:Te sl (xs.map .int)):wB [sl]=.ret (.sh (.bl (Zg xs))):=by
 by_cases hl:xs.length=3
 ·match xs,hl with
  | [a,b,c],_=>
    have h:Zg [a,b,c]=(Ź a && Ź b && wR c):=rfl
    rw[h]
    rcases hs with rfl|rfl<;>cases ea:Ź a<;>cases eb:Ź b<;>cases ec:wR c<;>simp[wB,yX,List.replicate,ZZ,Z0h,ea,eb,ec]
 ·have h:Zg xs=false:=by
   unfold Zg
   split
   ·simp at hl
   ·rfl
  rw[h]
  have hl':¬((xs.length:Nat):Int)=3:=by omega
  rcases hs with rfl|rfl<;>simp[wB,yX,List.replicate,hl']
def Z0G{xs:List Int}{sl:P.Slot}(hs:Te sl (xs.map .int)):rG [sl]=.ret (.sh (.bl (Zh xs))):=by
 by_cases hl:xs.length=5
 ·match xs,hl with
  | [a,b,c,d,e],_=>
    have h:Zh [a,b,c,d,e]=(Ź a && Ź b && Ź c && Ź d && wR e):=rfl
    rw[h]
    have hc:aU ([.int a,.int b,.int c,.int d,.int e]:List PV) none (some 4)=[.int a,.int b,.int c,.int d]:=rfl
    have hb:=Z2G (Ź a) (Ź b) (Ź c) (Ź d)
    rcases hs with rfl|rfl<;>cases ea:(Ź a && Ź b && Ź c && Ź d)<;>cases ec:wR e<;>rw[ea] at hb<;>simp[rG,yZ,List.replicate,ZZ,Z0h,hc,Ĺ,hb,ec]
 ·have h:Zh xs=false:=by
   unfold Zh
   split
   ·simp at hl
   ·rfl
  rw[h]
  have hl':¬((xs.length:Nat):Int)=5:=by omega
  rcases hs with rfl|rfl<;>simp[rG,yZ,List.replicate,hl']
def Z2H(a b c d:Int):dX (.lst [.int a,.int b]) (.lst [.int c,.int d])=some (.bl (!(decide (a=c) && decide (b=d)))):=by
 have h:eqB (.lst [.int a,.int b]) (.lst [.int c,.int d])=(decide (a=c) && decide (b=d)):=by
  simp[eqB,dR]
  rw[Bool.eq_iff_iff]
  simp
 unfold dX lY
 rw[h]
 simp[Ř,Ť,dep,bJ]
def Z2c{xs:List Int}(hl:¬xs.length=5):Zh xs=false:=by
 unfold Zh
 split
 ·simp at hl
 ·rfl
def Z0X{s:P.Slot}{ps:List PV}(h:Te s ps):bT s=some s:=by rcases h with rfl|rfl<;>rfl
def Z1O{xs:List Int}{sl:P.Slot}(hs:Te sl (xs.map .int)):wC [sl]=.ret (.sh (.bl (Ze xs))):=by
 have he:=Z0G hs
 by_cases hl:xs.length=5
 ·match xs,hl with
  | [a,b,c,d,e],_=>
    have h:Ze [a,b,c,d,e]=(Zh [a,b,c,d,e] && !(decide (a=c) && decide (b=d))):=rfl
    rw[h]
    have h1:aU ([.int a,.int b,.int c,.int d,.int e]:List PV) none (some 2)=[.int a,.int b]:=rfl
    have h2:aU ([.int a,.int b,.int c,.int d,.int e]:List PV) (some 2) (some 4)=[.int c,.int d]:=rfl
    have h3:=Z2H a b c d
    generalize Zh [a,b,c,d,e]=q at *
    generalize (!(decide (a=c) && decide (b=d)))=r at *
    rcases hs with rfl|rfl<;>cases q<;>simp_all [wC,za,List.replicate]
 ·have h:Ze xs=false:=by
   unfold Ze
   split
   ·simp at hl
   ·rfl
  rw[h]
  rw[Z2c hl] at he
  simp[wC,za,List.replicate,Z0X hs,he]
def Z2m{xs:List Int}{sl:P.Slot}(hs:Te sl (xs.map .int)):Cu [sl]=.ret (.sh (.bl (Zc xs))):=by
 have he:=Z0G hs
 by_cases hl:xs.length=5
 ·match xs,hl with
  | [a,b,c,d,e],_=>
    have h:Zc [a,b,c,d,e]=(Zh [a,b,c,d,e] && decide (a<c) && decide (b<d)):=rfl
    rw[h]
    generalize Zh [a,b,c,d,e]=q at *
    rcases hs with rfl|rfl<;>simp only[List.map_cons,List.map_nil] at he<;>cases q<;>by_cases h1:a<c<;>by_cases h2:b<d<;>simp[Cu,Hz,List.replicate,he,h1,h2]
 ·have h:Zc xs=false:=by
   unfold Zc
   split
   ·simp at hl
   ·rfl
  rw[h]
  rw[Z2c hl] at he
  simp[Cu,Hz,List.replicate,Z0X hs,he]
def ZQ(a b c:Int):Lp [.sh (.lst [.int a,.int b,.int c])]=.ret (.sh (.bl (Ź a && Ź b && wU c))):=by
 unfold wU
 cases ea:Ź a<;>cases eb:Ź b<;>by_cases h1:0<=c<;>by_cases h2:c<=1000000000<;>simp[Lp,Pu,List.replicate,ZZ,ea,eb,h1,h2]
def Z1P{xs:List Int}{sl:P.Slot}(hs:Te sl (xs.map .int)):wD [sl]=.ret (.sh (.bl (Zf xs))):=by
 by_cases hl:xs.length=9
 ·match xs,hl with
  | [a,b,c,d,e,f,g,h,i],_=>
    have hc:Zf [a,b,c,d,e,f,g,h,i]=((Ź a && Ź b && wU c) && (Ź d && Ź e && wU f) && (Ź g && Ź h && wU i)):=rfl
    rw[hc]
    have h1:aU ([.int a,.int b,.int c,.int d,.int e,.int f,.int g,.int h,.int i]:List PV) (some 0) (some 3)=[.int a,.int b,.int c]:=rfl
    have h2:aU ([.int a,.int b,.int c,.int d,.int e,.int f,.int g,.int h,.int i]:List PV) (some 3) (some 6)=[.int d,.int e,.int f]:=rfl
    have h3:aU ([.int a,.int b,.int c,.int d,.int e,.int f,.int g,.int h,.int i]:List PV) (some 6) (some 9)=[.int g,.int h,.int i]:=rfl
    have hb:=Z2F (Ź a && Ź b && wU c) (Ź d && Ź e && wU f) (Ź g && Ź h && wU i)
    have k1:=ZQ a b c
    have k2:=ZQ d e f
    have k3:=ZQ g h i
    generalize (Ź a && Ź b && wU c)=q1 at *
    generalize (Ź d && Ź e && wU f)=q2 at *
    generalize (Ź g && Ź h && wU i)=q3 at *
    rcases hs with rfl|rfl<;>simp[wD,zc,List.replicate,Ĺ,h1,h2,h3,k1,k2,k3,hb]
 ·have h:Zf xs=false:=by
   unfold Zf
   split
   ·simp at hl
   ·rfl
  rw[h]
  have hl':¬((xs.length:Nat):Int)=9:=by omega
  rcases hs with rfl|rfl<;>simp[wD,zc,List.replicate,hl']
def Zi(w:Str):String:=if w= "post" then "Post" else if w= "fence" then "Fence" else if w= "sail" then "Sail" else if w= "cloth" then "Cloth" else "House"
def Za(C:String)(w:Str)(xs:List Int):PV:=.ins C ["word","numbers"] [.str w,.lst (xs.map .int)]
def Z9(w:Str)(xs:List Int):Bool:=if w= "post" then Zg xs else if w= "fence" then Ze xs else if w= "sail" then Zc xs else if w= "cloth" then Zf xs else if w= "house" then Zc xs else false
def wn:((Str.ofString "word")=(Str.ofString "numbers"))=False:=eq_false (by decide +kernel)
def ZH{C:String}(hC:(["Thing","Post","Fence","Sail","Cloth","House"]:List String).contains C=true)(w:Str){xs:List Int}{sl:P.Slot}(hs:Te sl (xs.map .int)):bZ 3 3 C eY [.sh (.str w),sl]=.ok ["word","numbers"] [.str w,.lst (xs.map .int)]:=by
 rcases hs with rfl|rfl<;>simp[bZ,eY,iG,IR.of,List.replicate,putN,yr,hC,wn,-List.contains_eq_mem,-List.contains_cons]
def s1:PyData.strOk (Str.ofString "post")=true:=by decide +kernel
def s2:PyData.strOk (Str.ofString "fence")=true:=by decide +kernel
def s3:PyData.strOk (Str.ofString "sail")=true:=by decide +kernel
def s4:PyData.strOk (Str.ofString "cloth")=true:=by decide +kernel
def s5:PyData.strOk (Str.ofString "house")=true:=by decide +kernel
def d12:(Str.ofString "post" =Str.ofString "fence")=False:=eq_false (by decide +kernel)
def d13:(Str.ofString "post" =Str.ofString "sail")=False:=eq_false (by decide +kernel)
def d14:(Str.ofString "post" =Str.ofString "cloth")=False:=eq_false (by decide +kernel)
def d15:(Str.ofString "post" =Str.ofString "house")=False:=eq_false (by decide +kernel)
def d23:(Str.ofString "fence" =Str.ofString "sail")=False:=eq_false (by decide +kernel)
def d24:(Str.ofString "fence" =Str.ofString "cloth")=False:=eq_false (by decide +kernel)
def d25:(Str.ofString "fence" =Str.ofString "house")=False:=eq_false (by decide +kernel)
def d34:(Str.ofString "sail" =Str.ofString "cloth")=False:=eq_false (by decide +kernel)
def d35:(Str.ofString "sail" =Str.ofString "house")=False:=eq_false (by decide +kernel)
def d45:(Str.ofString "cloth" =Str.ofString "house")=False:=eq_false (by decide +kernel)
def Z1Q{w:Str}(hw:PyData.strOk w=true){xs:List Int}{sl:P.Slot}(hs:Te sl (xs.map .int)):dz [.sh (.str w),sl]=if Z9 w xs=true then .ret (.sh (Za (Zi w) w xs)) else .bad:=by
 have e1:=gq hw s1
 have e2:=gq hw s2
 have e3:=gq hw s3
 have e4:=gq hw s4
 have e5:=gq hw s5
 have p1:=Z0l hs
 have p2:=Z1O hs
 have p3:=Z2m hs
 have p4:=Z1P hs
 have i1:uE [.sh (.str w),sl]=_:=ZH (by decide) w hs
 have i2:oX [.sh (.str w),sl]=_:=ZH (by decide) w hs
 have i3:uF [.sh (.str w),sl]=_:=ZH (by decide) w hs
 have i4:oY [.sh (.str w),sl]=_:=ZH (by decide) w hs
 have i5:oZ [.sh (.str w),sl]=_:=ZH (by decide) w hs
 have hle:=Z0X hs
 unfold Z9 Zi Za
 by_cases h1:w=Str.ofString "post"
 ·have n2:¬w=Str.ofString "fence" := λz=>(d12▸(h1.symm.trans z):False)
  have n3:¬w=Str.ofString "sail" := λz=>(d13▸(h1.symm.trans z):False)
  have n4:¬w=Str.ofString "cloth" := λz=>(d14▸(h1.symm.trans z):False)
  have n5:¬w=Str.ofString "house" := λz=>(d15▸(h1.symm.trans z):False)
  rw[decide_eq_true h1] at e1
  rw[decide_eq_false n2] at e2
  rw[decide_eq_false n3] at e3
  rw[decide_eq_false n4] at e4
  rw[decide_eq_false n5] at e5
  have hg:(if w=Str.ofString "post" then Zg xs else if w=Str.ofString "fence" then Ze xs else if w=Str.ofString "sail" then Zc xs else if w=Str.ofString "cloth" then Zf xs else if w=Str.ofString "house" then Zc xs else false)=Zg xs:=by rw[if_pos h1]
  have hc:(if w=Str.ofString "post" then "Post" else if w=Str.ofString "fence" then "Fence" else if w=Str.ofString "sail" then "Sail" else if w=Str.ofString "cloth" then "Cloth" else "House")= "Post" := by rw[if_pos h1]
  rw[hg,hc]
  cases q:Zg xs<;>rw[q] at p1<;>simp[dz,jk,aY,List.replicate,e1,e2,e3,e4,e5,hle,p1,i1]
 ·skip
  by_cases h2:w=Str.ofString "fence"
  ·have n1:=h1
   have n3:¬w=Str.ofString "sail" := λz=>(d23▸(h2.symm.trans z):False)
   have n4:¬w=Str.ofString "cloth" := λz=>(d24▸(h2.symm.trans z):False)
   have n5:¬w=Str.ofString "house" := λz=>(d25▸(h2.symm.trans z):False)
   rw[decide_eq_true h2] at e2
   rw[decide_eq_false n1] at e1
   rw[decide_eq_false n3] at e3
   rw[decide_eq_false n4] at e4
   rw[decide_eq_false n5] at e5
   have hg:(if w=Str.ofString "post" then Zg xs else if w=Str.ofString "fence" then Ze xs else if w=Str.ofString "sail" then Zc xs else if w=Str.ofString "cloth" then Zf xs else if w=Str.ofString "house" then Zc xs else false)=Ze xs:=by rw[if_neg n1,if_pos h2]
   have hc:(if w=Str.ofString "post" then "Post" else if w=Str.ofString "fence" then "Fence" else if w=Str.ofString "sail" then "Sail" else if w=Str.ofString "cloth" then "Cloth" else "House")= "Fence" := by rw[if_neg n1,if_pos h2]
   rw[hg,hc]
   cases q:Ze xs<;>rw[q] at p2<;>simp[dz,jk,aY,List.replicate,e1,e2,e3,e4,e5,hle,p2,i2]
  ·skip
   by_cases h3:w=Str.ofString "sail"
   ·have n1:=h1
    have n2:=h2
    have n4:¬w=Str.ofString "cloth" := λz=>(d34▸(h3.symm.trans z):False)
    have n5:¬w=Str.ofString "house" := λz=>(d35▸(h3.symm.trans z):False)
    rw[decide_eq_true h3] at e3
    rw[decide_eq_false n1] at e1
    rw[decide_eq_false n2] at e2
    rw[decide_eq_false n4] at e4
    rw[decide_eq_false n5] at e5
    have hg:(if w=Str.ofString "post" then Zg xs else if w=Str.ofString "fence" then Ze xs else if w=Str.ofString "sail" then Zc xs else if w=Str.ofString "cloth" then Zf xs else if w=Str.ofString "house" then Zc xs else false)=Zc xs:=by rw[if_neg n1,if_neg n2,if_pos h3]
    have hc:(if w=Str.ofString "post" then "Post" else if w=Str.ofString "fence" then "Fence" else if w=Str.ofString "sail" then "Sail" else if w=Str.ofString "cloth" then "Cloth" else "House")= "Sail" := by rw[if_neg n1,if_neg n2,if_pos h3]
    rw[hg,hc]
    cases q:Zc xs<;>rw[q] at p3<;>simp[dz,jk,aY,List.replicate,e1,e2,e3,e4,e5,hle,p3,i3]
   ·skip
    by_cases h4:w=Str.ofString "cloth"
    ·have n1:=h1
     have n2:=h2
     have n3:=h3
     have n5:¬w=Str.ofString "house" := λz=>(d45▸(h4.symm.trans z):False)
     rw[decide_eq_true h4] at e4
     rw[decide_eq_false n1] at e1
     rw[decide_eq_false n2] at e2
     rw[decide_eq_false n3] at e3
     rw[decide_eq_false n5] at e5
     have hg:(if w=Str.ofString "post" then Zg xs else if w=Str.ofString "fence" then Ze xs else if w=Str.ofString "sail" then Zc xs else if w=Str.ofString "cloth" then Zf xs else if w=Str.ofString "house" then Zc xs else false)=Zf xs:=by rw[if_neg n1,if_neg n2,if_neg n3,if_pos h4]
     have hc:(if w=Str.ofString "post" then "Post" else if w=Str.ofString "fence" then "Fence" else if w=Str.ofString "sail" then "Sail" else if w=Str.ofString "cloth" then "Cloth" else "House")= "Cloth" := by rw[if_neg n1,if_neg n2,if_neg n3,if_pos h4]
     rw[hg,hc]
     cases q:Zf xs<;>rw[q] at p4<;>simp[dz,jk,aY,List.replicate,e1,e2,e3,e4,e5,hle,p4,i4]
    ·skip
     by_cases h5:w=Str.ofString "house"
     ·have n1:=h1
      have n2:=h2
      have n3:=h3
      have n4:=h4
      rw[decide_eq_true h5] at e5
      rw[decide_eq_false n1] at e1
      rw[decide_eq_false n2] at e2
      rw[decide_eq_false n3] at e3
      rw[decide_eq_false n4] at e4
      have hg:(if w=Str.ofString "post" then Zg xs else if w=Str.ofString "fence" then Ze xs else if w=Str.ofString "sail" then Zc xs else if w=Str.ofString "cloth" then Zf xs else if w=Str.ofString "house" then Zc xs else false)=Zc xs:=by rw[if_neg n1,if_neg n2,if_neg n3,if_neg n4,if_pos h5]
      have hc:(if w=Str.ofString "post" then "Post" else if w=Str.ofString "fence" then "Fence" else if w=Str.ofString "sail" then "Sail" else if w=Str.ofString "cloth" then "Cloth" else "House")= "House" := by rw[if_neg n1,if_neg n2,if_neg n3,if_neg n4]
      rw[hg,hc]
      cases q:Zc xs<;>rw[q] at p3<;>simp[dz,jk,aY,List.replicate,e1,e2,e3,e4,e5,hle,p3,i5]
     ·skip
      rw[decide_eq_false h1] at e1
      rw[decide_eq_false h2] at e2
      rw[decide_eq_false h3] at e3
      rw[decide_eq_false h4] at e4
      rw[decide_eq_false h5] at e5
      rw[if_neg h1,if_neg h2,if_neg h3,if_neg h4,if_neg h5]
      simp[dz,jk,aY,List.replicate,e1,e2,e3,e4,e5]
abbrev P3:=Int×Int×Int
def c3(p:P3):PV:=.tup [.int p.1,.int p.2.1,.int p.2.2]
def ZC(x y u v z:Int):List P3:=[(x,y,z),(u,y,z),(u,v,z),(x,v,z)]
def ZW(x y u v h:Int):List P3:=ZC x y u v 0++ZC x y u v h
def Z7(C:String)(xs:List Int):List P3:=
 if C= "Post" then(match xs with
  | [p,q,h]=>ZW (2*p-1) (2*q-1) (2*p+1) (2*q+1) h
  |_=>[])
 else if C= "Fence" then(match xs with
  | [x,y,u,v,h]=>[(x,y,0),(u,v,0),(u,v,h),(x,y,h)]
  |_=>[])
 else if C= "Sail" then(match xs with
  | [x,y,u,v,h]=>ZC x y u v h
  |_=>[])
 else if C= "Cloth" then(match xs with
  | [a,b,c,d,e,f,g,h,i]=>[(a,b,c),(d,e,f),(g,h,i)]
  |_=>[])
 else(match xs with
  | [x,y,u,v,h]=>ZW x y u v h
  |_=>[])
def Zn(w:Str)(xs:List Int):List P3:=Z7 (Zi w) xs
def ZR{C:String}(hC:(["Thing","Post","Fence","Sail","Cloth","House"]:List String).contains C=true)(w:Str)(xs:List Int):Ŏ ["Thing","Post","Fence","Sail","Cloth","House"] (Str.ofString "numbers") (Za C w xs)=some (.lst (xs.map .int)):=by
 unfold Ŏ Za
 dsimp only
 rw[if_pos hC]
 have:(Str.ofString "numbers" == Str.ofString "word")=false:=by decide +kernel
 show List.lookup _ [(_,_),(_,_)]=_
 rw[List.lookup_cons,this]
 simp
def Z0o(x y u v z:Int):q_ [.sh (.int x),.sh (.int y),.sh (.int u),.sh (.int v),.sh (.int z)]=.ret (.ow ((ZC x y u v z).map c3)):=by
 simp[q_,G_,List.replicate,ZC,c3]
def Z0p(x y u v h:Int):Hf [.sh (.int x),.sh (.int y),.sh (.int u),.sh (.int v),.sh (.int h)]=.ret (.ow ((ZW x y u v h).map c3)):=by
 simp[Hf,Ph,List.replicate,Z0o,ZW,ZC,add_l]
def Z2I{xs:List Int}(h:Zg xs=true)(w:Str):lH [.sh (Za "Post" w xs)]=.ret (.ow ((Z7 "Post" xs).map c3)):=by
 match xs,h with
 | [p,q,h],hh=>
   simp[Zg,Ź,wR] at hh
   have hf:=ZR (C:= "Post") (by decide) w [p,q,h]
   generalize Za "Post" w [p,q,h]=v at *
   have e:=Z0p (2*p-1) (2*q-1) (2*p+1) (2*q+1) h
   simp[lH,Hg,List.replicate,hf,e,Z7]
def Z2n{xs:List Int}(h:Ze xs=true)(w:Str):vY [.sh (Za "Fence" w xs)]=.ret (.ow ((Z7 "Fence" xs).map c3)):=by
 match xs,h with
 | [x,y,u,v,h],hh=>
   have hf:=ZR (C:= "Fence") (by decide) w [x,y,u,v,h]
   generalize Za "Fence" w [x,y,u,v,h]=t at *
   simp[vY,Pj,List.replicate,hf,Z7,c3,Ĝ]
def Z2J{xs:List Int}(h:Zc xs=true)(w:Str):lJ [.sh (Za "Sail" w xs)]=.ret (.ow ((Z7 "Sail" xs).map c3)):=by
 match xs,h with
 | [x,y,u,v,h],hh=>
   have hf:=ZR (C:= "Sail") (by decide) w [x,y,u,v,h]
   generalize Za "Sail" w [x,y,u,v,h]=t at *
   have e:=Z0o x y u v h
   simp[lJ,Hh,List.replicate,hf,e,Z7]
def Z2o{xs:List Int}(h:Zc xs=true)(w:Str):wg [.sh (Za "House" w xs)]=.ret (.ow ((Z7 "House" xs).map c3)):=by
 match xs,h with
 | [x,y,u,v,h],hh=>
   have hf:=ZR (C:= "House") (by decide) w [x,y,u,v,h]
   generalize Za "House" w [x,y,u,v,h]=t at *
   have e:=Z0p x y u v h
   simp[wg,Pn,List.replicate,hf,e,Z7]
def Z2p{xs:List Int}(h:Zf xs=true)(w:Str):vZ [.sh (Za "Cloth" w xs)]=.ret (.ow ((Z7 "Cloth" xs).map c3)):=by
 match xs,h with
 | [a,b,c,d,e,f,g,i,j],hh=>
   have hf:=ZR (C:= "Cloth") (by decide) w [a,b,c,d,e,f,g,i,j]
   generalize Za "Cloth" w [a,b,c,d,e,f,g,i,j]=t at *
   simp[vZ,Pk,List.replicate,hf,Z7,c3,Ĺ,KC,aU]
   exact⟨rfl,rfl,rfl⟩
def cst(r p:P3):Hu.Pt:=(r.2.2*p.1+r.1*p.2.2,r.2.2*p.2.1+r.2.1*p.2.2)
def RB(r:P3):Prop:=-1000000<=r.1/\r.1<=1000000/\ -1000000<=r.2.1/\r.2.1<=1000000/\ -1000000<=r.2.2/\r.2.2<=1000000
def PB(p:P3):Prop:=-10000000000<=p.1/\p.1<=10000000000/\ -10000000000<=p.2.1/\p.2.1<=10000000000/\ -10000000000<=p.2.2/\p.2.2<=10000000000
def Z2q{r:P3}(hr:RB r)(p:P3):qZ [.sh (c3 p),.sh (c3 r)]=.ret (.sh (pt (cst r p))):=by
 obtain⟨a1,a2,a3,a4,a5,a6⟩:=hr
 have m1:ŀ r.2.2 p.1=true:=ſ (by omega) (by omega)
 have m2:ŀ r.2.2 p.2.1=true:=ſ (by omega) (by omega)
 have m3:ŀ r.1 p.2.2=true:=ſ (by omega) (by omega)
 have m4:ŀ r.2.1 p.2.2=true:=ſ (by omega) (by omega)
 simp[qZ,GZ,List.replicate,pt,c3,cst,m1,m2,m3,m4]
def Z06{x y A B:Int}(h1: -A<=x)(h2:x<=A)(h3: -B<=y)(h4:y<=B): -(A*B)<=x*y/\x*y<=A*B:=by
 have hA:0<=A:=by omega
 have hB:0<=B:=by omega
 have e:(x*y).natAbs<=A.natAbs*B.natAbs:=by
  rw[Int.natAbs_mul]
  exact Nat.mul_le_mul (by omega) (by omega)
 have e2:((A*B).natAbs)=A.natAbs*B.natAbs:=Int.natAbs_mul A B
 have e3:0<=A*B:=Int.mul_nonneg hA hB
 omega
def Z2K{r p:P3}(hr:RB r)(hp:PB p):Sm (cst r p):=by
 obtain⟨a1,a2,a3,a4,a5,a6⟩:=hr
 obtain⟨b1,b2,b3,b4,b5,b6⟩:=hp
 have q1:=Z06 a5 a6 b1 b2
 have q2:=Z06 a5 a6 b3 b4
 have q3:=Z06 a1 a2 b5 b6
 have q4:=Z06 a3 a4 b5 b6
 simp only[Sm,cst]
 omega
def Z1m{w:Str}{xs:List Int}(hg:Z9 w xs=true){mo:M PV}{ρ ρ1:List P.Slot}(ho:mo ρ=.ok (Za (Zi w) w xs) ρ1):ou (Str.ofString "corners") [("Post",lH),("Fence",vY),("Sail",lJ),("Cloth",vZ),("House",wg)] mo Ċ ρ=.ok (.ow ((Zn w xs).map c3)) ρ1:=by
 have hn:(["word","numbers"]:List Str).contains (Str.ofString "corners")=false:=by decide +kernel
 have key:∀(C:String) (mf:MF),Zi w=C->List.lookup C [("Post",lH),("Fence",vY),("Sail",lJ),("Cloth",vZ),("House",wg)]=some mf->mf [.sh (Za C w xs)]=.ret (.ow ((Z7 C xs).map c3))->ou (Str.ofString "corners") [("Post",lH),("Fence",vY),("Sail",lJ),("Cloth",vZ),("House",wg)] mo Ċ ρ=.ok (.ow ((Zn w xs).map c3)) ρ1:=by
  intro C mf hC hl hf
  unfold Zn
  rw[hC] at ho ⊢
  unfold ou
  rw[ho]
  unfold Za at *
  simp only[Res.bind]
  rw[hl]
  dsimp only
  rw[if_neg (by rw[hn];decide)]
  simp only[Ċ,Res.bind]
  rw[hf]
 unfold Z9 at hg
 by_cases e1:w= "post"
 ·rw[if_pos e1] at hg
  exact key "Post" _ (by unfold Zi;rw[if_pos e1]) rfl (Z2I hg w)
 rw[if_neg e1] at hg
 by_cases e2:w= "fence"
 ·rw[if_pos e2] at hg
  exact key "Fence" _ (by unfold Zi;rw[if_neg e1,if_pos e2]) rfl (Z2n hg w)
 rw[if_neg e2] at hg
 by_cases e3:w= "sail"
 ·rw[if_pos e3] at hg
  exact key "Sail" _ (by unfold Zi;rw[if_neg e1,if_neg e2,if_pos e3]) rfl (Z2J hg w)
 rw[if_neg e3] at hg
 by_cases e4:w= "cloth"
 ·rw[if_pos e4] at hg
  exact key "Cloth" _ (by unfold Zi;rw[if_neg e1,if_neg e2,if_neg e3,if_pos e4]) rfl (Z2p hg w)
 rw[if_neg e4] at hg
 by_cases e5:w= "house"
 ·rw[if_pos e5] at hg
  exact key "House" _ (by unfold Zi;rw[if_neg e1,if_neg e2,if_neg e3,if_neg e4]) rfl (Z2o hg w)
 ·rw[if_neg e5] at hg
  cases hg
def Z0Y{r:P3}(hr:RB r){L:List P3}(hl:L.length<=100)(s1:P.Slot):Ĺ (gN 1) Ł (Ď (đ qZ (Ă 1 (Ă 0 Ċ)))) (L.map c3) [.sh (c3 r),s1] []=some ((L.map (cst r)).map pt):=by
 have:=ņ (g:=gN 1) (mt:=Ł) (me:=Ď (đ qZ (Ă 1 (Ă 0 Ċ)))) c3 (λp=>pt (cst r p)) (λρ=>∃s,ρ=[.sh (c3 r),s]) L [.sh (c3 r),s1] [] ⟨_,rfl⟩ (by simp;omega) (by
  rintro p hp ρ ⟨s,rfl⟩
  have e:=Z2q hr p
  generalize c3 r=R at *
  generalize c3 p=Q at *
  exact⟨[R |> .sh,.sh Q],[.sh R,.sh Q],[.sh R,.sh Q],by simp,by simp,by simp[e],_,rfl⟩)
 rw[this]
 simp
def Z1R{w:Str}{xs:List Int}(hg:Z9 w xs=true)(hl:(Zn w xs).length<=100){r:P3}(hr:RB r):wj [.sh (Za (Zi w) w xs),.sh (c3 r)]=.ret (.ow (((Zn w xs).map (cst r)).map pt)):=by
 have h1:=Z1m hg (mo:=Ğ 0) (ρ:= [.sh (Za (Zi w) w xs),.sh (c3 r)]) (ρ1:=[.sh (Za (Zi w) w xs),.sh (c3 r)]) (by simp)
 have h2:=Z0Y hr hl
 generalize ((Zn w xs).map (cst r)).map pt=Y at *
 generalize (Zn w xs).map c3=Z at *
 generalize Za (Zi w) w xs=v at *
 generalize c3 r=R at *
 simp[wj,Hi,List.replicate,h1,h2,-KZ]
def sto(s:Hu.Pt):P3:=(2*s.1,2*s.2,0)
def Z1S{w:Str}{xs:List Int}(hg:Z9 w xs=true):(Zn w xs).length<=8/\Zn w xs≠[]/\∀p∈Zn w xs,PB p:=by
 have hp:Zg xs=true->(Z7 "Post" xs).length<=8/\Z7 "Post" xs≠[]/\∀p∈Z7 "Post" xs,PB p:=by
  intro h
  match xs,h with
  | [a,b,c],h=>
    simp[Zg,Ź,wR] at h
    simp[Z7,ZW,ZC,PB]
    omega
 have hf:Ze xs=true->(Z7 "Fence" xs).length<=8/\Z7 "Fence" xs≠[]/\∀p∈Z7 "Fence" xs,PB p:=by
  intro h
  match xs,h with
  | [a,b,c,d,e],h=>
    simp[Ze,Zh,Ź,wR] at h
    simp[Z7,PB]
    omega
 have hs:Zc xs=true->(Z7 "Sail" xs).length<=8/\Z7 "Sail" xs≠[]/\∀p∈Z7 "Sail" xs,PB p:=by
  intro h
  match xs,h with
  | [a,b,c,d,e],h=>
    simp[Zc,Zh,Ź,wR] at h
    simp[Z7,ZC,PB]
    omega
 have hh:Zc xs=true->(Z7 "House" xs).length<=8/\Z7 "House" xs≠[]/\∀p∈Z7 "House" xs,PB p:=by
  intro h
  match xs,h with
  | [a,b,c,d,e],h=>
    simp[Zc,Zh,Ź,wR] at h
    simp[Z7,ZW,ZC,PB]
    omega
 have hc:Zf xs=true->(Z7 "Cloth" xs).length<=8/\Z7 "Cloth" xs≠[]/\∀p∈Z7 "Cloth" xs,PB p:=by
  intro h
  match xs,h with
  | [a,b,c,d,e,f,g,i,j],h=>
    simp[Zf,Ź,wU] at h
    simp[Z7,PB]
    omega
 unfold Z9 at hg
 unfold Zn Zi
 by_cases e1:w= "post"
 ·rw[if_pos e1] at hg ⊢;exact hp hg
 rw[if_neg e1] at hg ⊢
 by_cases e2:w= "fence"
 ·rw[if_pos e2] at hg ⊢;exact hf hg
 rw[if_neg e2] at hg ⊢
 by_cases e3:w= "sail"
 ·rw[if_pos e3] at hg ⊢;exact hs hg
 rw[if_neg e3] at hg ⊢
 by_cases e4:w= "cloth"
 ·rw[if_pos e4] at hg ⊢;exact hc hg
 rw[if_neg e4] at hg ⊢
 by_cases e5:w= "house"
 ·rw[if_pos e5] at hg;exact hh hg
 ·rw[if_neg e5] at hg;cases hg
def shB(w:Str)(xs:List Int)(s:Hu.Pt)(r:P3):Bool:=(Hu.Z0U ((Zn w xs).map (cst r)) (cst r (sto s))).isNone
def Z1n(b:Nat):Builtin.bitNot (b:Int)= -(b:Int)-1:=rfl
def Z1o(a b:Nat):Builtin.bitOr a b=((a ||| b:Nat):Int):=by
 unfold Builtin.bitOr Builtin.bitAnd
 rw[Z1n,Z1n]
 have h1:decide (0<= -(a:Int)-1)=false:=by simp;omega
 have h2:decide (0<= -(b:Int)-1)=false:=by simp;omega
 rw[h1,h2]
 have e1:(Builtin.bitNot (-(a:Int)-1)).toNat=a:=by unfold Builtin.bitNot;omega
 have e2:(Builtin.bitNot (-(b:Int)-1)).toNat=b:=by unfold Builtin.bitNot;omega
 simp only[e1,e2]
 unfold Builtin.bitNot
 omega
def Z2Z(a:Int):Builtin.bitAnd a 1=a % 2:=PyProof.Rows.bitAnd_m1 a
def Z1T(f l k:Nat)(h:f<=l):(2 ^ (l+1)-2 ^ f).testBit k=(decide (f<=k) && decide (k<=l)):=by
 have e:2 ^ (l+1)-2 ^ f=(2 ^ (l+1-f)-1)*2 ^ f:=by
  rw[Nat.sub_mul,<-Nat.pow_add,Nat.one_mul]
  congr 2
  omega
 rw[e,Nat.testBit_mul_two_pow,Nat.testBit_two_pow_sub_one]
 by_cases h1:f<=k
 ·simp[h1]
  by_cases h2:k<=l
  ·simp[h2];omega
  ·simp[h2];omega
 ·simp[h1]
def Z0Z{a n:Nat}(h:∀k,n<=k->a.testBit k=false):a<2 ^ n:=Nat.lt_pow_two_of_testBit a h
def Z2L{k:Nat}(h:k<=1000000):nQ 1 (k:Int)=true:=by unfold nQ;simp;omega
def Z0H{f l:Int}{w:Nat}(hf:0<=f)(hl:l<w)(hw:w<=1000):∃B:Nat,rm [.sh (.int f),.sh (.int l)]=.ret (.sh (.int B))/\∀k:Nat,B.testBit k=(decide (f<=k) && decide ((k:Int)<=l)):=by
 by_cases h:l<f
 ·refine⟨0,by simp[rm,yO,List.replicate,h],λk=>?_⟩
  by_cases h1:f<=k
  ·have h2:¬(k:Int)<=l:=by omega
   simp[h2]
  ·simp[h1]
 ·obtain⟨F,rfl⟩:=Int.eq_ofNat_of_zero_le hf
  obtain⟨L,rfl⟩:=Int.eq_ofNat_of_zero_le (by omega:0<=l)
  have e1:=Z2L (k:=L+1) (by omega)
  have e2:=Z2L (k:=F) (by omega)
  have hp:2 ^ F<=2 ^ (L+1):=Nat.pow_le_pow_right (by omega) (by omega)
  refine⟨2 ^ (L+1)-2 ^ F,?_,λk=>?_⟩
  ·have t1:((L:Int)+1).toNat=L+1:=by omega
   have t2:((L:Int)+1)=((L+1:Nat):Int):=by omega
   simp only[Int.natCast_add,Int.cast_ofNat_Int] at e1
   have h':¬(L:Int)<F:=h
   simp[rm,yO,List.replicate,h',e1,e2,t1]
   rw[Int.natCast_sub hp]
   simp
  ·rw[Z1T F L k (by omega)]
   simp
def inR(L:List Hu.Ln)(u q k:Int):Prop:=∀l∈L,l.1*(u*k)+l.2.1*(u*q)<=l.2.2
def Z0I{a b k:Int}(hb:0<b):k<=a.fdiv b↔k*b<=a:=by
 rw[Int.fdiv_eq_ediv_of_nonneg _ (Int.le_of_lt hb)]
 exact Int.le_ediv_iff_mul_le hb
theorem Z0q{u q:Int}{w:Nat}(hu:0<u)(hu2:u<=10000000)(hq:0<=q)(hq2:q<=1000)(s0:P.Slot):∀(L:List Hu.Ln),(∀l∈L,Td l)->∀(f la:Int) (s6 s7 s8 s9 sO:P.Slot),0<=f->la<w->
 (∃f' I_ CP Ja CQ CT wL,forL (gT 3 (ĥ (gN 6) (ĥ (gN 7) (ĥ (gN 8) ž)))) cH (L.map fH) [s0,.sh (.int u),.sh (.int q),.sh (.int w),.sh (.int f),.sh (.int la),s6,s7,s8,s9,sO]=.ok .nx [s0,.sh (.int u),.sh (.int q),.sh (.int w),.sh (.int f'),.sh (.int I_),CP,Ja,CQ,CT,wL]/\0<=f'/\I_<w/\∀k:Int,(f'<=k/\k<=I_)↔(f<=k/\k<=la/\inR L u q k))\/
 (∃ρ',forL (gT 3 (ĥ (gN 6) (ĥ (gN 7) (ĥ (gN 8) ž)))) cH (L.map fH) [s0,.sh (.int u),.sh (.int q),.sh (.int w),.sh (.int f),.sh (.int la),s6,s7,s8,s9,sO]=.ok (.rt (.sh (.int 0))) ρ'/\∀k:Int,¬inR L u q k)
 | [],_,f,la,s6,s7,s8,s9,sO,h1,h2=>.inl ⟨f,la,s6,s7,s8,s9,sO,rfl,h1,h2,λk=>by simp[inR]⟩
 |l::L,hS,f,la,s6,s7,s8,s9,sO,h1,h2=>by
  have hl:=hS l List.mem_cons_self
  have ih:=λ(f la:Int) (s6 s7 s8 s9 sO:P.Slot)=>Z0q (w:=w) hu hu2 hq hq2 s0 L (λx hx=>hS x (List.mem_cons_of_mem _ hx)) f la s6 s7 s8 s9 sO
  have m1:ŀ l.1 u=true:=ſ (by have:=hl.1;omega) (by have:=hl.2.1;omega)
  have m2:ŀ l.2.1 u=true:=ſ (by have:=hl.2.2.1;omega) (by have:=hl.2.2.2;omega)
  have m3:ŀ (l.2.1*u) q=true:=mul_r (by omega) (by omega)
  have bs:=Z06 hl.1 hl.2.1 (show -10000000<=u by omega) hu2
  obtain⟨st,hst⟩:∃st,l.1*u=st:=⟨_,rfl⟩
  obtain⟨ro,hro⟩:∃ro,l.2.2-l.2.1*u*q=ro:=⟨_,rfl⟩
  rw[hst] at bs
  have hin:∀k:Int,inR (l::L) u q k↔(k*st<=ro/\inR L u q k):=λk=>by
   unfold inR
   rw[List.forall_mem_cons]
   have e:l.1*(u*k)=k*st:=by rw[<-hst,<-Int.mul_assoc,Int.mul_comm]
   have e2:l.2.1*(u*q)=l.2.1*u*q:=by rw[Int.mul_assoc]
   rw[e,e2]
   constructor
   ·rintro ⟨a,b⟩;exact⟨by omega,b⟩
   ·rintro ⟨a,b⟩;exact⟨by omega,b⟩
  have gg:gT 3 (ĥ (gN 6) (ĥ (gN 7) (ĥ (gN 8) ž))) (fH l) [s0,.sh (.int u),.sh (.int q),.sh (.int w),.sh (.int f),.sh (.int la),s6,s7,s8,s9,sO]=some [s0,.sh (.int u),.sh (.int q),.sh (.int w),.sh (.int f),.sh (.int la),.sh (.int l.1),.sh (.int l.2.1),.sh (.int l.2.2),s9,sO]:=by simp[fH]
  rw[List.map_cons,forL,gg]
  dsimp only
  by_cases c1:0<st
  ·have d1:eO ro st=true:=qQ (by omega) (Nat.le_trans (ig (n:=200) (by omega) (by omega)) (by decide))
   have e:cH [s0,.sh (.int u),.sh (.int q),.sh (.int w),.sh (.int f),.sh (.int la),.sh (.int l.1),.sh (.int l.2.1),.sh (.int l.2.2),s9,sO]=.ok .nx [s0,.sh (.int u),.sh (.int q),.sh (.int w),.sh (.int f),.sh (.int (min la (ro.fdiv st))),.sh (.int l.1),.sh (.int l.2.1),.sh (.int l.2.2),.sh (.int st),.sh (.int ro)]:=by
    simp[cH,m1,m2,m3,hst,hro,c1,d1]
    split<;>omega
   rw[e]
   rcases ih f (min la (ro.fdiv st)) (.sh (.int l.1)) (.sh (.int l.2.1)) (.sh (.int l.2.2)) (.sh (.int st)) (.sh (.int ro)) h1 (by omega) with⟨f',I_,CP,Ja,CQ,CT,wL,q1,q2,q3,q4⟩|⟨ρ',q1,q2⟩
   ·refine .inl ⟨f',I_,CP,Ja,CQ,CT,wL,q1,q2,q3,λk=>?_⟩
    rw[q4,hin]
    have:=Z0I (a:=ro) (k:=k) c1
    constructor
    ·rintro ⟨a,b,c⟩;exact⟨a,by omega,this.mp (by omega),c⟩
    ·rintro ⟨a,b,c,d⟩;exact⟨a,by have:=this.mpr c;omega,d⟩
   ·exact .inr ⟨ρ',q1,λk=>by rw[hin];exact λh=>q2 k h.2⟩
  ·by_cases c2:st<0
   ·have d1:eO ro (-st)=true:=qQ (by omega) (Nat.le_trans (ig (n:=200) (by omega) (by omega)) (by decide))
    have e:cH [s0,.sh (.int u),.sh (.int q),.sh (.int w),.sh (.int f),.sh (.int la),.sh (.int l.1),.sh (.int l.2.1),.sh (.int l.2.2),s9,sO]=.ok .nx [s0,.sh (.int u),.sh (.int q),.sh (.int w),.sh (.int (max f (-(ro.fdiv (-st))))),.sh (.int la),.sh (.int l.1),.sh (.int l.2.1),.sh (.int l.2.2),.sh (.int st),.sh (.int ro)]:=by
     simp[cH,m1,m2,m3,hst,hro,c1,c2,d1]
     split<;>omega
    rw[e]
    rcases ih (max f (-(ro.fdiv (-st)))) la (.sh (.int l.1)) (.sh (.int l.2.1)) (.sh (.int l.2.2)) (.sh (.int st)) (.sh (.int ro)) (by omega) h2 with⟨f',I_,CP,Ja,CQ,CT,wL,q1,q2,q3,q4⟩|⟨ρ',q1,q2⟩
    ·refine .inl ⟨f',I_,CP,Ja,CQ,CT,wL,q1,q2,q3,λk=>?_⟩
     rw[q4,hin]
     have:=Z0I (a:=ro) (b:=-st) (k:=-k) (by omega)
     rw[Int.neg_mul_neg] at this
     constructor
     ·rintro ⟨a,b,c⟩;exact⟨by omega,b,this.mp (by omega),c⟩
     ·rintro ⟨a,b,c,d⟩;exact⟨by have:=this.mpr c;omega,b,d⟩
    ·exact .inr ⟨ρ',q1,λk=>by rw[hin];exact λh=>q2 k h.2⟩
   ·have c0:st=0:=by omega
    subst c0
    by_cases c3:ro<0
    ·refine .inr ⟨_,by simp[cH,m1,m2,m3,hst,hro,c3];rfl,λk=>?_⟩
     rw[hin]
     rintro ⟨a,_⟩
     omega
    ·have e:cH [s0,.sh (.int u),.sh (.int q),.sh (.int w),.sh (.int f),.sh (.int la),.sh (.int l.1),.sh (.int l.2.1),.sh (.int l.2.2),s9,sO]=.ok .nx [s0,.sh (.int u),.sh (.int q),.sh (.int w),.sh (.int f),.sh (.int la),.sh (.int l.1),.sh (.int l.2.1),.sh (.int l.2.2),.sh (.int 0),.sh (.int ro)]:=by
      simp[cH,m1,m2,m3,hst,hro,c3]
     rw[e]
     rcases ih f la (.sh (.int l.1)) (.sh (.int l.2.1)) (.sh (.int l.2.2)) (.sh (.int 0)) (.sh (.int ro)) h1 h2 with⟨f',I_,CP,Ja,CQ,CT,wL,q1,q2,q3,q4⟩|⟨ρ',q1,q2⟩
     ·refine .inl ⟨f',I_,CP,Ja,CQ,CT,wL,q1,q2,q3,λk=>?_⟩
      rw[q4,hin]
      constructor
      ·rintro ⟨a,b,c⟩;exact⟨a,b,by omega,c⟩
      ·rintro ⟨a,b,c,d⟩;exact⟨a,b,d⟩
     ·exact .inr ⟨ρ',q1,λk=>by rw[hin];exact λh=>q2 k h.2⟩
def Z2M{u q:Int}{w:Nat}(hu:0<u)(hu2:u<=10000000)(hq:0<=q)(hq2:q<=1000)(hw:w<=1000){L:List Hu.Ln}(hS:∀l∈L,Td l){sl:P.Slot}(hs:Sl sl (L.map fH)) :
 ∃B:Nat,wu [sl,.sh (.int u),.sh (.int q),.sh (.int w)]=.ret (.sh (.int B))/\∀k:Nat,B.testBit k=true↔(k<w/\inR L u q k):=by
 rcases Z0q (w:=w) hu hu2 hq hq2 sl L hS 0 (w-1) .no .no .no .no .no (by omega) (by omega) with⟨f',I_,CP,Ja,CQ,CT,wL,q1,q2,q3,q4⟩|⟨ρ',q1,q2⟩
 ·obtain⟨B,b1,b2⟩:=Z0H (f:=f') (l:=I_) q2 q3 hw
  refine⟨B,by rcases hs with rfl|rfl<;>simp[wu,yP,List.replicate,q1,b1],λk=>?_⟩
  rw[b2,Bool.and_eq_true,decide_eq_true_eq,decide_eq_true_eq,q4 k]
  constructor
  ·rintro ⟨a,b,c⟩;exact⟨by omega,c⟩
  ·rintro ⟨a,b⟩;exact⟨by omega,by omega,b⟩
 ·refine⟨0,by rcases hs with rfl|rfl<;>simp[wu,yP,List.replicate,q1],λk=>?_⟩
  simp
  exact λ_=>q2 k
abbrev Th:=Str×List Int
def pU(t:Th):PV:=Za (Zi t.1) t.1 t.2
def i_:Option P3->PV
 |none=>.non
 |some r=>c3 r
abbrev Dy:=Str×Int×List (Option P3)
def Ų(d:Dy):PV:=.tup [.str d.1,.int d.2.1,.lst (d.2.2.map i_)]
def Z0(w h:Int)(T:List Th)(D:List Dy):PV:=.ins "Yard" ["width","height","things","days"] [.int w,.int h,.lst (T.map pU),.lst (D.map Ų)]
def ywh:(Str.ofString "width" =Str.ofString "height")=False:=eq_false (by decide +kernel)
def ywt:(Str.ofString "width" =Str.ofString "things")=False:=eq_false (by decide +kernel)
def ywd:(Str.ofString "width" =Str.ofString "days")=False:=eq_false (by decide +kernel)
def yht:(Str.ofString "height" =Str.ofString "things")=False:=eq_false (by decide +kernel)
def yhd:(Str.ofString "height" =Str.ofString "days")=False:=eq_false (by decide +kernel)
def ytd:(Str.ofString "things" =Str.ofString "days")=False:=eq_false (by decide +kernel)
def LQ(w h:Int)(T:List Th)(D:List Dy):Ŏ ["Yard"] (Str.ofString "width") (Z0 w h T D)=some (.int w):=by
 unfold Ŏ Z0
 simp
def Ys(w h:Int)(T:List Th)(D:List Dy):Ŏ ["Yard"] (Str.ofString "height") (Z0 w h T D)=some (.int h):=by
 have:(Str.ofString "height" == Str.ofString "width")=false:=by decide +kernel
 unfold Ŏ Z0
 simp[List.lookup_cons,this]
def y_t(w h:Int)(T:List Th)(D:List Dy):Ŏ ["Yard"] (Str.ofString "things") (Z0 w h T D)=some (.lst (T.map pU)):=by
 have e1:(Str.ofString "things" == Str.ofString "width")=false:=by decide +kernel
 have e2:(Str.ofString "things" == Str.ofString "height")=false:=by decide +kernel
 unfold Ŏ Z0
 simp[List.lookup_cons,e1,e2]
def y_d(w h:Int)(T:List Th)(D:List Dy):Ŏ ["Yard"] (Str.ofString "days") (Z0 w h T D)=some (.lst (D.map Ų)):=by
 have e1:(Str.ofString "days" == Str.ofString "width")=false:=by decide +kernel
 have e2:(Str.ofString "days" == Str.ofString "height")=false:=by decide +kernel
 have e3:(Str.ofString "days" == Str.ofString "things")=false:=by decide +kernel
 unfold Ŏ Z0
 simp[List.lookup_cons,e1,e2,e3]
def Z1p(D:List Dy)(hD:D.length<=100000)(s0 s1 s2:P.Slot):Ĺ (gT 3 (ĥ (gN 0) (ĥ (gN 1) (ĥ (gN 2) ž)))) Ł (Ľ (Ą (Ğ 0) (Ą (Ğ 1) (Ą (Ď (lX dw (Ą (Ā 2) ė))) ė)))) (D.map Ų) [s0,s1,s2] []=some (D.map Ų):=by
 have h:=ņ (g:=gT 3 (ĥ (gN 0) (ĥ (gN 1) (ĥ (gN 2) ž)))) (mt:=Ł) (me:=Ľ (Ą (Ğ 0) (Ą (Ğ 1) (Ą (Ď (lX dw (Ą (Ā 2) ė))) ė)))) Ų Ų (λρ=>∃a b c,ρ=[a,b,c]) D [s0,s1,s2] [] ⟨_,_,_,rfl⟩ (by simp;omega) (by
  rintro d _ ρ ⟨a,b,c,rfl⟩
  refine⟨[.sh (.str d.1),.sh (.int d.2.1),.sh (.lst (d.2.2.map i_))],[.sh (.str d.1),.sh (.int d.2.1),.sh (.lst (d.2.2.map i_))],[.sh (.str d.1),.sh (.int d.2.1),.sh (.lst (d.2.2.map i_))],by simp[Ų],rfl,by simp[Ų],_,_,_,rfl⟩)
 simpa using h
def Z2r(w h:Int){T:List Th}{D:List Dy}(hT:T.length<=100000)(hD:D.length<=100000){s3 s4:P.Slot}(h3:Sl s3 (T.map pU))(h4:Sl s4 (D.map Ų)):jD [.sh (.int w),.sh (.int h),s3,s4]=.ok ["width","height","things","days"] [.int w,.int h,.lst (T.map pU),.lst (D.map Ų)]:=by
 have c:=Z1p D hD .no .no .no
 generalize hx:T.map pU=tx at *
 generalize hy:D.map Ų=dx at *
 rcases h3 with rfl|rfl<;>rcases h4 with rfl|rfl<;>simp[jD,bZ,Gy,iG,IR.of,List.replicate,putN,yr,ywh,ywt,ywd,yht,yhd,ytd,c]
def Z2N{k q w:Nat}(hw:0<w):(q*w<=k/\k-q*w<w)↔k / w=q:=by
 constructor
 ·rintro ⟨a,b⟩
  exact Nat.div_eq_of_lt_le a (by rw[Nat.add_mul];omega)
 ·rintro rfl
  have h1:=Nat.div_mul_le_self k w
  have h2:=Nat.mod_lt k hw
  have h3:=Nat.mod_eq_sub_div_mul (x:=k) (k:=w)
  omega
def Z2O{k q w:Nat}(h:k / w=q):k-q*w=k % w:=by
 subst h
 exact(Nat.mod_eq_sub_div_mul).symm
def Z10{k w h:Nat}(hw:0<w):k / w<h↔k<w*h:=by
 rw[Nat.div_lt_iff_lt_mul hw,Nat.mul_comm]
def Yl(w k:Nat):Hu.Pt:=(((k % w:Nat):Int),((k / w:Nat):Int))
def Z2s{S:List Hu.Pt}{r:P3}{p q:Int}:inR (Hu.Zs S) (2*r.2.2) q p↔(Hu.Z0U S (cst r (sto (p,q)))).isNone=true:=by
 have e:cst r (sto (p,q))=(2*r.2.2*p,2*r.2.2*q):=by
  unfold cst sto
  simp only[Int.mul_zero,Int.add_zero,Prod.mk.injEq]
  constructor<;>grind
 rw[e]
 unfold Hu.Z0U inR Hu.hd
 rw[Option.isNone_iff_eq_none,List.find?_eq_none]
 simp
theorem Z00{α:Type}(y:α):∀(xs b:List α),y∈xs.foldl (λb x=>x::b) b↔(y∈xs\/y∈b)
 | [],b=>by simp
 |x::xs,b=>by rw[List.foldl_cons,Z00 y xs (x::b)];simp;grind
def Ym(t:Th)(s:Hu.Pt)(r:P3):Bool:=shB t.1 t.2 s r
def Z1q{w h:Nat}(hw:0<w)(hw2:w<=60)(hh:h<=1000)(T:List Th)(Ds:List Dy){t:Th}(hg:Z9 t.1 t.2=true){r:P3}(hr:RB r)(hz:0<r.2.2) :
 ∃D:Nat,rz [.sh (Z0 w h T Ds),.sh (pU t),.sh (c3 r)]=.ret (.sh (.int D))/\∀k,D.testBit k=(decide (k<w*h) && Ym t (Yl w k) r):=by
 obtain⟨g1,g2,g3⟩:=Z1S hg
 have hc:=Z1R hg (by omega) hr
 have hS:∀p∈(Zn t.1 t.2).map (cst r),Sm p:=by
  intro p hp
  obtain⟨q,hq,rfl⟩:=List.mem_map.mp hp
  exact Z2K hr (g3 q hq)
 have hl:=Z1N (sl:=.sh (.lst (((Zn t.1 t.2).map (cst r)).map pt))) (.inl rfl) hS (by simpa using g2) (by simp;omega)
 have hls:∀l∈Hu.Zs ((Zn t.1 t.2).map (cst r)),Td l:=λl h=>Z2E h hS
 have yw:=LQ w h T Ds
 have yh:=Ys w h T Ds
 have hv:(2:Int)*r.2.2<=10000000:=by have:=hr.2.2.2.2.2;omega
 generalize hX:Hu.Zs ((Zn t.1 t.2).map (cst r))=X at *
 generalize hY:Z0 w h T Ds=Y at *
 have hr2:Č (c3 r) (.int 2)=some (.int r.2.2):=by simp[c3]
 obtain⟨ρ',e1,D,s5,rfl,hD⟩:=bA (g:=gN 5) (mb:=uw) (λ(q:Nat)=>PV.int q) (λ(b:List Nat) (x:Nat)=>x::b) (λb ρ=>∃(D:Nat) (s5:P.Slot),ρ=[.sh Y,.sh (pU t),.sh (c3 r),.ow (X.map fH),.sh (.int D),s5]/\∀k,D.testBit k=true↔(k / w∈b/\Ym t (Yl w k) r=true)) (List.range h) (by
  rintro q hq b ρ ⟨D,s5,rfl,hD⟩
  have hq:=List.mem_range.mp hq
  obtain⟨B,b1,b2⟩:=Z2M (u:=2*r.2.2) (q:=q) (w:=w) (by omega) hv (by omega) (by omega) (by omega) hls (sl:=.bw (X.map fH)) (.inr rfl)
  have hB:B<2 ^ w:=Z0Z λk hk=>by
   have:=b2 k
   cases e:B.testBit k with
   |false=>rfl
   |true=>have:=(this.mp e).1;omega
  have hB2:B<2 ^ 60:=Nat.lt_of_lt_of_le hB (Nat.pow_le_pow_right (by omega) hw2)
  have hqw:q*w<=1000*60:=Nat.mul_le_mul (by omega) hw2
  have so:nQ (B:Int) ((q:Int)*(w:Int))=true:=by
   have:((q:Int)*(w:Int))=((q*w:Nat):Int):=by simp
   rw[this]
   unfold nQ
   simp
   omega
  have mo:ŀ (q:Int) (w:Int)=true:=ſ (by omega) (by omega)
  have tn:((q:Int)*(w:Int)).toNat=q*w:=by
   have:((q:Int)*(w:Int))=((q*w:Nat):Int):=by simp
   rw[this];rfl
  obtain⟨Z,hZ⟩:∃Z:Nat,Z=D ||| B*2 ^ (q*w):=⟨_,rfl⟩
  have oe:Builtin.bitOr (D:Int) ((B:Int)*2 ^ (q*w))=(Z:Int):=by
   have ee:(B:Int)*2 ^ (q*w)=((B*2 ^ (q*w):Nat):Int):=by simp
   rw[ee,Z1o,hZ]
  have m2:ŀ 2 r.2.2=true:=ſ (by omega) (by omega)
  generalize c3 r=R at *
  have st:uw [.sh Y,.sh (pU t),.sh R,.ow (X.map fH),.sh (.int D),.sh (.int q)]=.ok .nx [.sh Y,.sh (pU t),.sh R,.ow (X.map fH),.sh (.int Z),.sh (.int q)]:=by
   simp[uw,hr2,yw,m2,b1,mo,so,tn,oe]
  refine⟨_,_,rfl,st,_,_,rfl,λk=>?_⟩
  rw[hZ,Nat.testBit_or,Bool.or_eq_true,hD,Nat.testBit_mul_two_pow,Bool.and_eq_true,decide_eq_true_eq,b2,List.mem_cons,<-hX,Z2s]
  have key:∀(_:k / w=q),((Hu.Z0U ((Zn t.1 t.2).map (cst r)) (cst r (sto (((k-q*w:Nat):Int),(q:Int))))).isNone=true↔Ym t (Yl w k) r=true):=by
   intro hk
   unfold Ym shB Yl
   rw[Z2O hk,hk]
  have d:=Z2N (k:=k) (q:=q) hw
  constructor
  ·rintro (⟨a,b⟩|⟨a,b,c⟩)
   ·exact⟨.inr a,b⟩
   ·have:=d.mp ⟨a,b⟩
    exact⟨.inl this,(key this).mp c⟩
  ·rintro ⟨a|a,b⟩
   ·have:=d.mpr a
    exact .inr ⟨this.1,this.2,(key a).mpr b⟩
   ·exact .inl ⟨a,b⟩) [] [.sh Y,.sh (pU t),.sh (c3 r),.ow (X.map fH),.sh (.int ((0:Nat):Int)),.no] ⟨0,.no,rfl,by simp⟩
 refine⟨D,?_,λk=>?_⟩
 ·have rr:=ZP hh
  have hc':wj [.sh (pU t),.sh (c3 r)]=.ret (.ow (((Zn t.1 t.2).map (cst r)).map pt)):=hc
  generalize c3 r=R at *
  generalize pU t=Tv at *
  simp[rz,Hj,List.replicate,hc',hl,yh,rr,-List.map_map] at e1 ⊢
  simp[e1]
 ·have:=hD k
  rw[Z00,List.mem_range,Z10 hw] at this
  rw[Bool.eq_iff_iff,this,Bool.and_eq_true,decide_eq_true_eq]
  simp
def Zw:Nat->(Nat->Bool)->Nat
 |0,_=>0
 |n+1,p=>Zw n p+if p n then 2 ^ n else 0
theorem Z01(p:Nat->Bool):∀n,Zw n p<2 ^ n
 |0=>by simp[Zw]
 |n+1=>by
  have:=Z01 p n
  unfold Zw
  rw[Nat.pow_succ]
  split<;>omega
theorem ZS(p:Nat->Bool):∀n k,(Zw n p).testBit k=(decide (k<n) && p k)
 |0,k=>by simp[Zw]
 |n+1,k=>by
  have hl:=Z01 p n
  unfold Zw
  by_cases h:k<n
  ·have ih:=ZS p n k
   have h1:k<n+1:=by omega
   split
   ·rw[Nat.add_comm,Nat.testBit_two_pow_add_gt h,ih];simp[h,h1]
   ·rw[Nat.add_zero,ih];simp[h,h1]
  ·by_cases h2:k=n
   ·subst h2
    split
    ·rename_i q
     rw[Nat.add_comm,Nat.testBit_two_pow_add_eq,Nat.testBit_lt_two_pow hl];simp[q]
    ·rename_i q
     rw[Nat.add_zero,Nat.testBit_lt_two_pow hl];simp[q]
   ·have h3:¬k<n+1:=by omega
    have:Zw n p+(if p n=true then 2 ^ n else 0)<2 ^ k:=by
     refine Nat.lt_of_lt_of_le (Z01 p (n+1)) (Nat.pow_le_pow_right (by omega) (by omega))
    rw[Nat.testBit_lt_two_pow this]
    simp[h3]
def Z02{n:Nat}{p:Nat->Bool}{D:Nat}(h:∀k,D.testBit k=(decide (k<n) && p k)):D=Zw n p:=Nat.eq_of_testBit_eq λk=>by rw[h,ZS]
def dk1(w h:Nat)(r:P3)(t:Th):Nat:=Zw (w*h) λk=>Ym t (Yl w k) r
def dkp(w:Nat)(T:List Th):Option P3->Nat->Bool
 |none,_=>true
 |some r,k=>T.any λt=>Ym t (Yl w k) r
def wM(w h:Nat)(T:List Th)(o:Option P3):Nat:=Zw (w*h) (dkp w T o)
def Jb(o:Option P3):Prop:=match o with|none=>True|some r=>RB r/\0<r.2.2
def Z11{w h:Nat}(hw:0<w)(hw2:w<=60)(hh:h<=1000)(T:List Th)(Ds:List Dy){t:Th}(hg:Z9 t.1 t.2=true){r:P3}(hr:RB r)(hz:0<r.2.2) :
 rz [.sh (Z0 w h T Ds),.sh (pU t),.sh (c3 r)]=.ret (.sh (.int (dk1 w h r t))):=by
 obtain⟨D,h1,h2⟩:=Z1q hw hw2 hh T Ds hg hr hz
 rw[h1,Z02 h2]
 rfl
def Z1U{w h:Nat}(hw:0<w)(hw2:w<=60)(hh:h<=1000){T:List Th}(hT:T.length<=1000)(Ds:List Dy)(hg:∀t∈T,Z9 t.1 t.2=true){r:P3}(hr:RB r)(hz:0<r.2.2) :
 Lj [.sh (Z0 w h T Ds),.sh (c3 r)]=.ret (.ow (T.map λt=>.int (dk1 w h r t))):=by
 have yt:=y_t w h T Ds
 have hc:=ņ (g:=gN 2) (mt:=Ł) (me:=Ď (đ rz (Ă 0 (Ă 2 (Ă 1 Ċ))))) pU (λt=>.int (dk1 w h r t)) (λρ=>∃s,ρ=[.sh (Z0 w h T Ds),.sh (c3 r),s]) T [.sh (Z0 w h T Ds),.sh (c3 r),.no] [] ⟨_,rfl⟩ (by simp;omega) (by
  rintro t ht ρ ⟨s,rfl⟩
  have e:=Z11 hw hw2 hh T Ds (hg t ht) hr hz
  generalize Z0 w h T Ds=Y at *
  generalize c3 r=R at *
  generalize pU t=Tv at *
  refine⟨_,_,_,rfl,rfl,by simp[e];rfl,_,rfl⟩)
 generalize Z0 w h T Ds=Y at *
 generalize c3 r=R at *
 simp[Lj,Pq,List.replicate,yt]
 simp at hc
 simp[hc]
def Z0J{w h:Nat}(hw:0<w)(hw2:w<=60)(hh:h<=1000)(k_:w*h<=1000){T:List Th}(hT:T.length<=1000)(Ds:List Dy)(hg:∀t∈T,Z9 t.1 t.2=true){o:Option P3}(ho:Jb o) :
 iM [.sh (Z0 w h T Ds),.sh (i_ o)]=.ret (.sh (.int (wM w h T o))):=by
 have yw:=LQ w h T Ds
 have yh:=Ys w h T Ds
 have mo:ŀ (w:Int) (h:Int)=true:=ſ (by omega) (by omega)
 cases o with
 |none=>
  obtain⟨B,b1,b2⟩:=Z0H (f:=0) (l:=(w:Int)*h-1) (w:=w*h) (by omega) (by rw[Int.natCast_mul];omega) k_
  have:B=wM w h T none:=Z02 λk=>by
   rw[b2]
   simp[dkp]
   have:((w*h:Nat):Int)=(w:Int)*h:=by simp
   omega
  subst this
  generalize Z0 w h T Ds=Y at *
  simp[iM,yR,List.replicate,i_,yw,yh,mo,b1,lZ]
 |some r=>
  have ho:RB r/\0<r.2.2:=ho
  have hd:=Z1U hw hw2 hh hT Ds hg ho.1 ho.2
  obtain⟨ρ',e1,D,s3,rfl,hD⟩:=bA (g:=gN 3) (mb:=yQ) (λ(t:Th)=>PV.int (dk1 w h r t)) (λ(b:List Th) (x:Th)=>x::b) (λb ρ=>∃(D:Nat) (s3:P.Slot),ρ=[.sh (Z0 w h T Ds),.sh (c3 r),.sh (.int D),s3]/\∀k,D.testBit k=true↔(k<w*h/\∃t∈b,Ym t (Yl w k) r=true)) T (by
   rintro t ht b ρ ⟨D,s3,rfl,hD⟩
   refine⟨_,_,rfl,by simp[yQ,Z1o];exact⟨rfl,rfl⟩,_,_,rfl,λk=>?_⟩
   rw[Nat.testBit_or,Bool.or_eq_true,hD,dk1,ZS,Bool.and_eq_true,decide_eq_true_eq]
   simp
   grind) [] [.sh (Z0 w h T Ds),.sh (c3 r),.sh (.int ((0:Nat):Int)),.no] ⟨0,.no,rfl,by simp⟩
  have:D=wM w h T (some r):=Z02 λk=>by
   have:=hD k
   rw[Bool.eq_iff_iff,this]
   simp only[Z00,dkp,List.not_mem_nil,or_false,Bool.and_eq_true,decide_eq_true_eq,List.any_eq_true]
  subst this
  have hn:qe (c3 r) .non=some (.bl false):=by simp[c3,lZ]
  generalize Z0 w h T Ds=Y at *
  show iM [.sh Y,.sh (c3 r)]=_
  simp at e1
  generalize c3 r=R at *
  have hn:lZ R=false:=by simpa using hn
  simp[iM,yR,List.replicate,hd,hn,e1]
def ZB(ns:List Int)(k:Nat):Ő [.sh (.lst (ns.map .int)),.sh (.int k)]=.ret (.sh (.int (ns.getD k 0))):=by
 by_cases h:k<ns.length
 ·have h':(k:Int)<(ns.length:Int):=by omega
  simp[Ő,yL,List.replicate,h',List.getElem?_eq_getElem h]
 ·have h':¬(k:Int)<(ns.length:Int):=by omega
  simp[Ő,yL,List.replicate,h',List.getElem?_eq_none (Nat.le_of_not_lt h)]
@[simp] theorem Zx(ns:List Int)(k:Nat):Ő [.sh (.lst (ns.map .int)),.sh (.int (no_index (OfNat.ofNat k)))]=.ret (.sh (.int (ns.getD k 0))):=ZB ns k
def Gr(x:Int):Prop:=0<=x/\x<524288
theorem Zz(c:Int)(s1:P.Slot):∀(ks:List Nat) (acc:List Int) (n:Int) (s4:P.Slot),acc.length+ks.length<=100000->(∀k∈ks,k<=100000)->(∀x∈acc,Gr x)->∃(acc':List Int) (n':Int) (wQ:P.Slot),forL (gN 4) j_ (ks.map λ(i:Nat)=>PV.int (i:Int)) [.sh (.int c),s1,.ow (acc.map .int),.sh (.int n),s4]=.ok .nx [.sh (.int c),s1,.ow (acc'.map .int),.sh (.int n'),wQ]/\acc'.length=acc.length+ks.length/\∀x∈acc',Gr x
 | [],acc,n,s4,_,_,h=>⟨acc,n,s4,rfl,rfl,h⟩
 |k::ks,acc,n,s4,hl,hk,h=>by
  have hk0:=hk k List.mem_cons_self
  have hl0:acc.length<16777216:=by simp at hl;omega
  rw[List.map_cons,forL]
  have hg:gN 4 (PV.int (k:Int)) [.sh (.int c),s1,.ow (acc.map .int),.sh (.int n),s4]=some [.sh (.int c),s1,.ow (acc.map .int),.sh (.int n),.sh (.int k)]:=rfl
  rw[hg]
  dsimp only
  by_cases h0:c % 2=0
  ·have e:j_ [.sh (.int c),s1,.ow (acc.map .int),.sh (.int n),.sh (.int k)]=.ok .nx [.sh (.int c),s1,.ow ((acc ++ [n % 524287]).map .int),.sh (.int (n / 524287)),.sh (.int k)]:=by
    simp[j_,h0,hl0]
   rw[e]
   obtain⟨a,b,d,q1,q2,q3⟩:=Zz c s1 ks (acc ++ [n % 524287]) (n / 524287) (.sh (.int k)) (by simp at hl ⊢;omega) (λx hx=>hk x (List.mem_cons_of_mem _ hx)) (by
    intro x hx
    rcases List.mem_append.mp hx with hx|hx
    ·exact h x hx
    ·rw[List.mem_singleton.mp hx];unfold Gr;omega)
   exact⟨a,b,d,q1,by simp at q2 ⊢;omega,q3⟩
  ·obtain⟨m,hm⟩:∃m,(n*49157+24593+2*(k:Int)) % 8388593=m:=⟨_,rfl⟩
   have e:j_ [.sh (.int c),s1,.ow (acc.map .int),.sh (.int n),.sh (.int k)]=.ok .nx [.sh (.int c),s1,.ow ((acc ++ [m / 16]).map .int),.sh (.int m),.sh (.int k)]:=by
    simp[j_,h0,hl0,hm]
   rw[e]
   obtain⟨a,b,d,q1,q2,q3⟩:=Zz c s1 ks (acc ++ [m / 16]) m (.sh (.int k)) (by simp at hl ⊢;omega) (λx hx=>hk x (List.mem_cons_of_mem _ hx)) (by
    intro x hx
    rcases List.mem_append.mp hx with hx|hx
    ·exact h x hx
    ·rw[List.mem_singleton.mp hx];unfold Gr;omega)
   exact⟨a,b,d,q1,by simp at q2 ⊢;omega,q3⟩
def Z0i(c:Int){n:Nat}(hn:n<=1000):∃xs:List Int,oM [.sh (.int c),.sh (.int n)]=.ret (.ow (xs.map .int))/\xs.length=n/\∀x∈xs,Gr x:=by
 have rr:=ZP hn
 by_cases h:c % 2=1
 ·obtain⟨a,b,d,q1,q2,q3⟩:=Zz c (.sh (.int n)) (List.range n) [] (c / 2 % 8388593) .no (by simp;omega) (λk hk=>by have:=List.mem_range.mp hk;omega) (by simp)
  refine⟨a,?_,by simpa using q2,q3⟩
  simp at q1
  simp[oM,yM,List.replicate,h,rr,q1]
 ·obtain⟨a,b,d,q1,q2,q3⟩:=Zz c (.sh (.int n)) (List.range n) [] (c / 2) .no (by simp;omega) (λk hk=>by have:=List.mem_range.mp hk;omega) (by simp)
  refine⟨a,?_,by simpa using q2,q3⟩
  simp at q1
  simp[oM,yM,List.replicate,h,rr,q1]
def Pl(x:Int):Prop:=-1000000000+50<=x/\x<=1000000000-50
def Zv(n:Int){w:Int}(h1:1<=w)(h2:w<=1000):∃x:Int,iR [.sh (.int n),.sh (.int w)]=.ret (.sh (.int x))/\Pl x:=by
 by_cases h:n / 512 % 16=5
 ·exact⟨n*3813 % 1999999901-1000000000+50,by simp[iR,yW,List.replicate,h],by unfold Pl;omega⟩
 ·have m0:¬(2*w+9=0):=by omega
  have p:=Int.emod_nonneg n (show(2*w+9)≠0 by omega)
  have q:=Int.emod_lt_of_pos n (show 0<(2*w+9) by omega)
  have e:n.fmod (2*w+9)=n % (2*w+9):=Int.fmod_eq_emod_of_nonneg n (by omega)
  exact⟨n % (2*w+9)-4,by simp[iR,yW,List.replicate,h,m0,e],by unfold Pl;omega⟩
def Z07(n:Int):∃x:Int,rE [.sh (.int n)]=.ret (.sh (.int x))/\1<=x/\x<=1000000000:=by
 by_cases h:n / 512 % 12=7
 ·exact⟨1+n*1907 % 1000000000,by simp[rE,yV,List.replicate,h],by omega,by omega⟩
 ·exact⟨1+n % 9,by simp[rE,yV,List.replicate,h],by omega,by omega⟩
def Z1r{x y h:Int}(a:Pl x)(b:Pl y)(c:1<=h/\h<=1000000000):Z9 "post" [x / 2,y / 2,h]=true:=by
 unfold Pl at a b
 unfold Z9 Zg Ź wR
 simp
 omega
def Jh{a b:String}(h:decide (Str.ofString a=Str.ofString b)=false):¬(Str.ofString a=Str.ofString b):=of_decide_eq_false h
def Z12{x y u v h:Int}(a:Pl x)(b:Pl y)(hu: -4<=u/\u<=4)(hv: -4<=v/\v<=4)(c:1<=h/\h<=1000000000)(e:Int)(he:e=if u=0/\v=0 then 1 else 0):Z9 "fence" [x,y,x+u+e,y+v,h]=true:=by
 have h1:¬(Str.ofString "fence" =Str.ofString "post"):=Jh (by decide +kernel)
 unfold Pl at a b
 unfold Z9
 rw[if_neg h1,if_pos rfl]
 unfold Ze Zh Ź wR
 simp
 split at he<;>omega
def Z0r{w:Str}(hw:w= "sail" \/w= "house"){x y u v h:Int}(a:Pl x)(b:Pl y)(hu:0<=u/\u<=8)(hv:0<=v/\v<=8)(c:1<=h/\h<=1000000000):Z9 w [x,y,x+1+u,y+1+v,h]=true:=by
 have hb:Zc [x,y,x+1+u,y+1+v,h]=true:=by
  unfold Pl at a b
  unfold Zc Zh Ź wR
  simp
  omega
 unfold Z9
 rcases hw with rfl|rfl
 ·rw[if_neg (Jh (by decide +kernel)),if_neg (Jh (by decide +kernel)),if_pos rfl]
  exact hb
 ·rw[if_neg (Jh (by decide +kernel)),if_neg (Jh (by decide +kernel)),if_neg (Jh (by decide +kernel)),if_neg (Jh (by decide +kernel)),if_pos rfl]
  exact hb
def Z13{x y z a b c d e f:Int}(h1:Pl x)(h2:Pl y)(h3:0<=z/\z<=1000000000)(h4:Pl a)(h5:Pl b)(h6:1<=c/\c<=1000000000)(h7:Pl d)(h8:Pl e)(h9:1<=f/\f<=1000000000):Z9 "cloth" [x,y,z,a,b,c,d,e,f]=true:=by
 unfold Z9
 rw[if_neg (Jh (by decide +kernel)),if_neg (Jh (by decide +kernel)),if_neg (Jh (by decide +kernel)),if_pos rfl]
 unfold Pl at *
 unfold Zf Ź wU
 simp
 omega
theorem Z30:∀(xs:List Int),xs.length=14->∃a b c d e f g h i j k l m n,xs=[a,b,c,d,e,f,g,h,i,j,k,l,m,n]
 | [a,b,c,d,e,f,g,h,i,j,k,l,m,n],_=>⟨a,b,c,d,e,f,g,h,i,j,k,l,m,n,rfl⟩
def Z31(x y:Hu.Pt):ł (pt x) (pt y)=some (.bl (decide (x=y))):=by
 unfold ł lY
 rw[ZV,ZV,ZO,ZO,Z0m]
 rfl
def Z0s:aX [.int 2]=some [.int 0,.int 1]:=by rfl
def Z1s(c:Int){w:Int}(hw1:1<=w)(hw2:w<=1000):∃t:Th,gC [.sh (.int c),.sh (.int w)]=.ret (.sh (.tup [.str t.1,.lst (t.2.map .int)]))/\Z9 t.1 t.2=true:=by
 obtain⟨xs,eg,hl,hx⟩:=Z0i c (n:=14) (by omega)
 obtain⟨x0,x1,x2,x3,x4,x5,x6,x7,x8,x9,x10,x11,x12,x13,rfl⟩:=Z30 xs hl
 clear hl hx
 obtain⟨p0,e0,q0⟩:=Zv x0 hw1 hw2
 obtain⟨p1,e1,q1⟩:=Zv x1 hw1 hw2
 obtain⟨z,ez,qz⟩:=Z07 x2
 have eg':oM [.sh (.int c),.sh (.int 14)]=.ret (.ow [.int x0,.int x1,.int x2,.int x3,.int x4,.int x5,.int x6,.int x7,.int x8,.int x9,.int x10,.int x11,.int x12,.int x13]):=eg
 clear eg
 have hc:Ĺ (gN 2) Ł (Ď (đ iR (Ĉ (ă Č (Ā 1) (Ā 2)) (Ă 0 Ċ)))) [PV.int 0,PV.int 1] [.sh (.int w),.bw [.int x0,.int x1,.int x2,.int x3,.int x4,.int x5,.int x6,.int x7,.int x8,.int x9,.int x10,.int x11,.int x12,.int x13],.no] []=some [.int p0,.int p1]:=by
  simp[Ĺ,e0,e1]
 have k:0<=x3 % 5/\x3 % 5<5:=by omega
 obtain⟨kd,hkd⟩:∃kd,x3 % 5=kd:=⟨_,rfl⟩
 rw[hkd] at k
 by_cases k0:kd=0
 ·refine⟨("post",[p0 / 2,p1 / 2,z]),?_,Z1r q0 q1 qz⟩
  simp[gC,kJ,List.replicate,eg',Z0s,hc,ez,hkd,k0]
 ·by_cases k1:kd=1
  ·refine⟨("fence",[p0,p1,p0+(x4 % 9-4)+(if x4 % 9-4=0/\x5 % 9-4=0 then 1 else 0),p1+(x5 % 9-4),z]),?_,Z12 q0 q1 (by omega) (by omega) qz _ rfl⟩
   have hq:=Z31 (p0,p1) (p0+x4 % 9-4,p1+x5 % 9-4)
   unfold pt at hq
   dsimp only at hq
   have hi:(if x4 % 9-4=0/\x5 % 9-4=0 then(1:Int) else 0)=if decide ((p0,p1)=(p0+x4 % 9-4,p1+x5 % 9-4))=true then 1 else 0:=by
    simp only[decide_eq_true_eq,Prod.mk.injEq]
    split<;>split<;>omega
   generalize decide ((p0,p1)=(p0+x4 % 9-4,p1+x5 % 9-4))=bb at *
   have a1:p0+(x4 % 9-4)=p0+x4 % 9-4:=by omega
   have a2:p1+(x5 % 9-4)=p1+x5 % 9-4:=by omega
   rw[a1,a2,hi]
   cases bb<;>simp[gC,kJ,List.replicate,eg',Z0s,hc,ez,hkd,k1,hq]
  ·by_cases k2:kd=2
   ·obtain⟨p7,e7,q7⟩:=Zv x7 hw1 hw2
    obtain⟨p8,e8,q8⟩:=Zv x8 hw1 hw2
    obtain⟨p9,e9,q9⟩:=Zv x9 hw1 hw2
    obtain⟨p10,e10,q10⟩:=Zv x10 hw1 hw2
    obtain⟨z2,ez2,qz2⟩:=Z07 x11
    refine⟨("cloth",[p0,p1,x6 % 10,p7,p8,z,p9,p10,z2]),?_,Z13 q0 q1 (by omega) q7 q8 qz q9 q10 qz2⟩
    simp[gC,kJ,List.replicate,eg',Z0s,hc,ez,hkd,k2,e7,e8,e9,e10,ez2,add_l]
   ·by_cases k3:kd=3
    ·refine⟨("sail",[p0,p1,p0+1+x4 % 8,p1+1+x5 % 8,z]),?_,Z0r (.inl rfl) q0 q1 (by omega) (by omega) qz⟩
     simp[gC,kJ,List.replicate,eg',Z0s,hc,ez,hkd,k3]
    ·have k4:kd=4:=by omega
     refine⟨("house",[p0,p1,p0+1+x4 % 8,p1+1+x5 % 8,z]),?_,Z0r (.inr rfl) q0 q1 (by omega) (by omega) qz⟩
     simp[gC,kJ,List.replicate,eg',Z0s,hc,ez,hkd,k4]
def Z2t{α:Type}(xs:List α)(a b:Nat)(h1:a<=b)(h2:b<=xs.length):aU xs (some (a:Int)) (some (b:Int))=(xs.drop a).take (b-a):=by
 unfold aU
 rw[HT.mQ,HT.mQ,Nat.min_eq_left h2,Nat.min_eq_left (Nat.le_trans h1 h2)]
theorem Z34:∀(xs:List Int),xs.length=5->∃a b c d e,xs=[a,b,c,d,e]
 | [a,b,c,d,e],_=>⟨a,b,c,d,e,rfl⟩
def Z2P{xs:List Int}(h:xs.length=5):∃o:Option P3,oO [.sh (.lst (xs.map .int))]=.ret (.sh (i_ o))/\Jb o:=by
 obtain⟨a,b,c,d,e,rfl⟩:=Z34 xs h
 by_cases he:e % 6=4
 ·exact⟨none,by simp[oO,yN,List.replicate,he,i_],trivial⟩
 ·have a1:0<=a % 13/\a % 13<13:=by omega
  have b1:0<=b % 13/\b % 13<13:=by omega
  have c1:0<=c % 5/\c % 5<5:=by omega
  have go:∀s:Int,(s=1\/s=3\/s=100000)->Č (.lst [.int 1,.int 1,.int 3,.int 100000]) (.int (d % 4))=some (.int s)->∃o:Option P3,oO [.sh (.lst ([a,b,c,d,e].map .int))]=.ret (.sh (i_ o))/\Jb o:=by
   intro s hs hx
   have m1:∀x:Int,ŀ x s=true:=λx=>mul_r (by omega) (by omega)
   refine⟨some ((a % 13-6)*s,(b % 13-6)*s,(1+c % 5)*s),?_,?_⟩
   ·simp[oO,yN,List.replicate,he,i_,hx,m1,c3]
   ·rcases hs with rfl|rfl|rfl<;>refine⟨⟨?_,?_,?_,?_,?_,?_⟩,?_⟩<;>dsimp only<;>omega
  have hd:d % 4=0\/d % 4=1\/d % 4=2\/d % 4=3:=by omega
  rcases hd with hd|hd|hd|hd
  ·exact go 1 (by omega) (by rw[hd];rfl)
  ·exact go 1 (by omega) (by rw[hd];rfl)
  ·exact go 3 (by omega) (by rw[hd];rfl)
  ·exact go 100000 (by omega) (by rw[hd];rfl)
def Z1V(t:Int)(h:0<=t)(h2:t<12)(N:List Str)(hN:N.length=12):∃L:List Str,Ĝ (.lst (aU (N.map PV.str) (some t) none)) (.lst (aU (N.map PV.str) none (some t)))=some (.ow (L.map .str))/\L.length=12:=by
 obtain⟨k,rfl⟩:=Int.eq_ofNat_of_zero_le h
 have e1:aU (N.map PV.str) (some (k:Int)) none=(N.drop k).map PV.str:=by
  unfold aU
  rw[HT.mQ,List.length_map,Nat.min_eq_left (by omega)]
  show List.take (N.length-k) _=_
  rw[<-List.map_drop]
  exact List.take_of_length_le (by simp)
 have e2:aU (N.map PV.str) none (some (k:Int))=(N.take k).map PV.str:=by
  unfold aU
  rw[HT.mQ,List.length_map,Nat.min_eq_left (by omega)]
  show List.take (k-0) (List.drop 0 _)=_
  simp[List.map_take]
 rw[e1,e2,add_l (by simp;omega)]
 exact⟨N.drop k++N.take k,by simp,by simp;omega⟩
def Z08(lg:Nat)(d:Dy):Prop:=(1<=d.2.1/\d.2.1<=1000000000)/\(1<=d.2.2.length/\d.2.2.length<=lg)/\∀o∈d.2.2,Jb o
def sl5{xs:List Int}{n lg j:Nat}(hl:xs.length=5*lg+2)(hj:j<lg):∃ys:List Int,aU (xs.map PV.int) (some (2+5*(j:Int))) (some (7+5*(j:Int)))=ys.map .int/\ys.length=5:=by
 refine⟨(xs.drop (2+5*j)).take 5,?_,by simp;omega⟩
 have:=Z2t (xs.map PV.int) (2+5*j) (7+5*j) (by omega) (by simp;omega)
 have e1:((2+5*j:Nat):Int)=2+5*(j:Int):=by omega
 have e2:((7+5*j:Nat):Int)=7+5*(j:Int):=by omega
 rw[e1,e2] at this
 rw[this,List.map_take,List.map_drop]
 congr 1
 omega
theorem Z0t{xs:List Int}{lg:Nat}(hl:xs.length=5*lg+2)(LR:lg<=100):∀(js:List Nat),(∀j∈js,j<lg)->∀(acc:List PV) (s1:P.Slot),acc.length+js.length<=1000->∃os:List (Option P3),Ĺ (gN 1) Ł (Ď (đ oO (Ĉ (Ď (yc (Ā 0) (mP (Ď (ğ Ĝ (mC (.int 2)) (ă ġ (mC (.int 5)) (Ā 1))))) (mP (Ď (ğ Ĝ (mC (.int 7)) (ă ġ (mC (.int 5)) (Ā 1))))))) Ċ))) (js.map λ(i:Nat)=>PV.int (i:Int)) [.bw (xs.map .int),s1] acc=some (acc++os.map i_)/\os.length=js.length/\∀o∈os,Jb o
 | [],_,acc,s1,_=>⟨[],by simp[Ĺ],rfl,by simp⟩
 |j::js,hj,acc,s1,ha=>by
  obtain⟨ys,e1,e2⟩:=sl5 (n:=0) hl (hj j List.mem_cons_self)
  obtain⟨o,e3,e4⟩:=Z2P e2
  obtain⟨os,q1,q2,q3⟩:=Z0t hl LR js (λx hx=>hj x (List.mem_cons_of_mem _ hx)) (acc ++ [i_ o]) (.sh (.int j)) (by simp at ha ⊢;omega)
  refine⟨o::os,?_,by simp[q2],?_⟩
  ·have hz:acc.length<16777216:=by simp at ha;omega
   generalize xs.map PV.int=X at *
   generalize ys.map PV.int=Y at *
   rw[List.map_cons,Ĺ]
   simp[KC,e1,e3,hz]
   simpa using q1
  ·intro x hx
   rcases List.mem_cons.mp hx with rfl|hx
   ·exact e4
   ·exact q3 x hx
def Z1W(ns:List Int){k lg:Nat}(hk:k<12)(LR:lg<=100)(hl0:0<lg){L:List Str}(hL:L.length=12)(s2 s5 s8 s9:P.Slot)(D:List Dy)(hD:D.length<=12) :
 ∃(d:Dy) (CQ CT:P.Slot),uo [.sh (.lst (ns.map .int)),.sh (.int 7),s2,.sh (.int lg),.ow (L.map .str),s5,.ow (D.map Ų),.sh (.int k),s8,s9]=.ok .nx [.sh (.lst (ns.map .int)),.sh (.int 7),s2,.sh (.int lg),.ow (L.map .str),s5,.ow ((D ++ [d]).map Ų),.sh (.int k),CQ,CT]/\Z08 lg d:=by
 have ha:=ZB ns (7+k)
 have e6:((7+k:Nat):Int)=7+(k:Int):=by omega
 rw[e6] at ha
 obtain⟨v,hv⟩:∃v,ns.getD (7+k) 0=v:=⟨_,rfl⟩
 rw[hv] at ha
 obtain⟨xs,eg,hl,hx⟩:=Z0i (v / 12+5*k) (n:=5*lg+2) (by omega)
 have el:((5*lg+2:Nat):Int)=5*(lg:Int)+2:=by omega
 rw[el] at eg
 have x0:∃a,(xs.map PV.int)[0]?=some (.int a):=⟨xs[0],by simp⟩
 have x1:∃b,(xs.map PV.int)[1]?=some (.int b):=⟨xs[1],by simp⟩
 obtain⟨a,x0⟩:=x0
 obtain⟨b,x1⟩:=x1
 have hm:¬((lg:Int)=0):=by omega
 have hm2:¬lg=0:=by omega
 have hf:b.fmod (lg:Int)=b % lg:=Int.fmod_eq_emod_of_nonneg b (by omega)
 have b1:=Int.emod_nonneg b hm
 have b2:=Int.emod_lt_of_pos b (show 0<(lg:Int) by omega)
 obtain⟨m,hmm⟩:∃m:Nat,1+b % lg=(m:Int):=⟨(1+b % lg).toNat,by omega⟩
 have rr:=ZP (n:=m) (by omega)
 obtain⟨os,q1,q2,q3⟩:=Z0t hl LR (List.range m) (λj hj=>by have:=List.mem_range.mp hj;omega) [] .no (by simp;omega)
 have hLk:(L.map PV.str)[k]?=some (.str L[k]):=by simp[hL,hk]
 refine⟨(L[k],1+a*1907 % 1000000000,os),.ow (xs.map .int),.sh (.lst (os.map i_)),?_,⟨by dsimp only;omega,by simp at q2;dsimp only;omega,q3⟩⟩
 have hz:D.length<16777216:=by omega
 rw[List.nil_append] at q1
 have hdl:(D.map Ų).length=D.length:=by simp
 generalize ns.map PV.int=NS at *
 generalize xs.map PV.int=XS at *
 generalize L[k]=nm at *
 generalize hLL:L.map PV.str=LS at *
 have hmp:(D ++ [((nm,1+a*1907 % 1000000000,os):Dy)]).map Ų=D.map Ų ++ [.tup [.str nm,.int (1+a*1907 % 1000000000),.lst (os.map i_)]]:=by simp[Ų]
 rw[hmp]
 generalize D.map Ų=DS at *
 generalize hos:os.map i_=OS at *
 rw[<-hdl] at hz
 simp[uo,ha,eg,x0,x1,hm2,hf,hmm,rr,q1,hLk,hz,-Zx]
theorem Z0j(ns:List Int){n lg:Nat}(LR:lg<=100)(hl0:0<lg){L:List Str}(hL:L.length=12){v:Int}:∀(ks:List Nat),(∀k∈ks,k<12)->∀(D:List Dy) (s7 s8 s9:P.Slot),D.length+ks.length<=12->(∀d∈D,Z08 lg d)->∃ρ',forL (gN 7) uo (ks.map λ(i:Nat)=>PV.int (i:Int)) [.sh (.lst (ns.map .int)),.sh (.int 7),.sh (.int n),.sh (.int lg),.ow (L.map .str),.sh (.int v),.ow (D.map Ų),s7,s8,s9]=.ok .nx ρ'/\∃(D':List Dy) (s7 s8 s9:P.Slot),ρ'=[.sh (.lst (ns.map .int)),.sh (.int 7),.sh (.int n),.sh (.int lg),.ow (L.map .str),.sh (.int v),.ow (D'.map Ų),s7,s8,s9]/\D'.length=D.length+ks.length/\∀d∈D',Z08 lg d
 | [],_,D,s7,s8,s9,_,h=>⟨_,rfl,D,s7,s8,s9,rfl,rfl,h⟩
 |k::ks,hk,D,s7,s8,s9,hl,h=>by
  obtain⟨d,CQ,CT,e,hd⟩:=Z1W ns (hk k List.mem_cons_self) LR hl0 hL (.sh (.int n)) (.sh (.int v)) s8 s9 D (by simp at hl;omega)
  obtain⟨ρ',q1,D',a,b,c,q2,q3,q4⟩:=Z0j ns (n:=n) LR hl0 hL (v:=v) ks (λx hx=>hk x (List.mem_cons_of_mem _ hx)) (D ++ [d]) (.sh (.int k)) CQ CT (by simp at hl ⊢;omega) (by
   intro x hx
   rcases List.mem_append.mp hx with hx|hx
   ·exact h x hx
   ·rw[List.mem_singleton.mp hx];exact hd)
  refine⟨ρ',?_,D',a,b,c,q2,by simp at q3 ⊢;omega,q4⟩
  rw[List.map_cons,forL]
  have hg:gN 7 (PV.int (k:Int)) [.sh (.lst (ns.map .int)),.sh (.int 7),.sh (.int n),.sh (.int lg),.ow (L.map .str),.sh (.int v),.ow (D.map Ų),s7,s8,s9]=some [.sh (.lst (ns.map .int)),.sh (.int 7),.sh (.int n),.sh (.int lg),.ow (L.map .str),.sh (.int v),.ow (D.map Ų),.sh (.int k),s8,s9]:=rfl
  rw[hg]
  dsimp only
  rw[e]
  exact q1
def Z0K(ns:List Int){n lg:Nat}(hn:n<=12)(LR:lg<=100)(hl0:0<lg):∃D:List Dy,jC [.sh (.lst (ns.map .int)),.sh (.int 7),.sh (.int n),.sh (.int lg)]=.ret (.ow (D.map Ų))/\D.length=n/\∀d∈D,Z08 lg d:=by
 have h6:Ő [.sh (.lst (ns.map .int)),.sh (.int 7)]=.ret (.sh (.int (ns.getD 7 0))):=ZB ns 7
 obtain⟨v,hv⟩:∃v,ns.getD 7 0=v:=⟨_,rfl⟩
 rw[hv] at h6
 obtain⟨L,e1,hL⟩:=Z1V (v % 12) (by omega) (by omega) [Str.ofString "ab",Str.ofString "a",Str.ofString "abc",Str.ofString "b",Str.ofString "ba",Str.ofString "z",Str.ofString "zz",Str.ofString "zzz",Str.ofString "abcdefgh",Str.ofString "abcdefgi",Str.ofString "aa",Str.ofString "bb"] rfl
 obtain⟨ρ',q1,D,s7,s8,s9,rfl,q2,q3⟩:=Z0j ns (n:=n) LR hl0 hL (v:=v % 12) (List.range n) (λk hk=>by have:=List.mem_range.mp hk;omega) [] .no .no .no (by simp;omega) (by simp)
 have rr:=ZP (n:=n) (by omega)
 refine⟨D,?_,by simpa using q2,q3⟩
 generalize ns.map PV.int=NS at *
 simp only[List.map_cons,List.map_nil] at e1
 simp only[List.map_nil] at q1
 generalize D.map Ų=DS at *
 generalize L.map PV.str=LS at *
 simp[jC,Gx,List.replicate,KC,h6,e1,rr,q1,-Zx]
def Z1X(c:Int):∃w h:Nat,gB [.sh (.int c),.sh (.int 9)]=.ret (.sh (.tup [.int w,.int h]))/\1<=w/\w<=20/\1<=h/\h<=20/\w*h<=20:=by
 by_cases h0:c / 7 % 16=11
 ·have hd:c % 2=0\/c % 2=1:=by omega
  rcases hd with hd|hd
  ·exact⟨1,20,by simp[gB,gA,List.replicate,h0,hd],by omega,by omega,by omega,by omega,by omega⟩
  ·exact⟨20,1,by simp[gB,gA,List.replicate,h0,hd],by omega,by omega,by omega,by omega,by omega⟩
 ·have hd:c % 5=0\/c % 5=1\/c % 5=2\/c % 5=3\/c % 5=4:=by omega
  rcases hd with hd|hd|hd|hd|hd
  ·obtain⟨h,hh⟩:∃h:Nat,1+c / 5 % 4=(h:Int):=⟨(1+c / 5 % 4).toNat,by omega⟩
   exact⟨1,h,by simp[gB,gA,List.replicate,h0,hd,hh],by omega,by omega,by omega,by omega,by omega⟩
  ·obtain⟨h,hh⟩:∃h:Nat,1+c / 5 % 4=(h:Int):=⟨(1+c / 5 % 4).toNat,by omega⟩
   exact⟨2,h,by simp[gB,gA,List.replicate,h0,hd,hh],by omega,by omega,by omega,by omega,by omega⟩
  ·obtain⟨h,hh⟩:∃h:Nat,1+c / 5 % 3=(h:Int):=⟨(1+c / 5 % 3).toNat,by omega⟩
   exact⟨3,h,by simp[gB,gA,List.replicate,h0,hd,hh],by omega,by omega,by omega,by omega,by omega⟩
  ·obtain⟨h,hh⟩:∃h:Nat,1+c / 5 % 2=(h:Int):=⟨(1+c / 5 % 2).toNat,by omega⟩
   exact⟨4,h,by simp[gB,gA,List.replicate,h0,hd,hh],by omega,by omega,by omega,by omega,by omega⟩
  ·exact⟨5,1,by simp[gB,gA,List.replicate,h0,hd],by omega,by omega,by omega,by omega,by omega⟩
def oV:Option Int->PV
 |none=>.non
 |some c=>.int c
def Z2(N:Nat)(f:Nat->Option Int):List PV:=(List.range N).map λn=>oV (f n)
def ZD{N n:Nat}{f:Nat->Option Int}(h:n<N):Č (.lst (Z2 N f)) (.int n)=some (oV (f n)):=by
 unfold Z2
 simp[h]
def Z0u(x y w:Int)(h:ŀ y w=true):lG [.sh (.tup [.int x,.int y]),.sh (.int w)]=.ret (.sh (.int (y*w+x))):=by
 simp[lG,GD,List.replicate,h]
def Z0L{n w:Nat}(hw:0<w)(hw2:w<=1000):rC [.sh (.int n),.sh (.int w)]=.ret (.sh (.tup [.int (n % w:Nat),.int (n / w:Nat)])):=by
 have h0:¬(w:Int)=0:=by omega
 have e1:Int.fmod (n:Int) (w:Int)=((n % w:Nat):Int):=by
  rw[Int.fmod_eq_emod_of_nonneg _ (by omega)];simp
 have e2:Int.fdiv (n:Int) (w:Int)=((n / w:Nat):Int):=by
  rw[Int.fdiv_eq_ediv_of_nonneg _ (by omega)];simp
 have e3:eO (n:Int) (w:Int)=true:=qQ (by omega) (Nat.le_trans (ig (n:=200) (by omega) (by omega)) (by decide))
 have h1:¬w=0:=by omega
 simp[rC,Hl,List.replicate,h0,h1,e1,e2,e3]
def Z1t{w h:Nat}{T:List Th}(D:List Dy){x y:Int}(hx:¬((0<=x/\x<w)/\(0<=y/\y<h))):eV [.sh (Z0 w h T D),.sh (.tup [.int x,.int y])]=.ret (.sh (.bl false)):=by
 have yw:=LQ w h T D
 have yh:=Ys w h T D
 generalize Z0 w h T D=Yv at *
 by_cases a1:0<=x
 ·by_cases a2:x<(w:Int)
  ·by_cases a3:0<=y
   ·have a4:¬y<(h:Int):=λa4=>hx ⟨⟨a1,a2⟩,a3,a4⟩
    simp[eV,kh,List.replicate,yw,yh,a1,a2,a3,a4]
   ·simp[eV,kh,List.replicate,yw,yh,a1,a2,a3]
  ·simp[eV,kh,List.replicate,yw,yh,a1,a2]
 ·simp[eV,kh,List.replicate,yw,yh,a1]
def Z09{w h:Nat}{T:List Th}(D:List Dy){x y:Int}(hx:(0<=x/\x<w)/\(0<=y/\y<h)):eV [.sh (Z0 w h T D),.sh (.tup [.int x,.int y])]=.ret (.sh (.bl true)):=by
 have yw:=LQ w h T D
 have yh:=Ys w h T D
 generalize Z0 w h T D=Yv at *
 obtain⟨⟨a1,a2⟩,a3,a4⟩:=hx
 simp[eV,kh,List.replicate,yw,yh,a1,a2,a3,a4]
def Z14{w h:Nat}{T:List Th}{D:List Dy}{i:Nat}(hi:i<D.length):Aq [.sh (Z0 w h T D),.sh (.int i)]=.ret (.sh (.lst (D[i].2.2.map i_))):=by
 have yd:=y_d w h T D
 have hx:(D.map Ų)[i]?=some (Ų D[i]):=by simp[hi]
 generalize Z0 w h T D=Yv at *
 generalize D.map Ų=DV at *
 simp[Aq,GF,List.replicate,yd,hx]
 simp[Ų]
def Z2u{w h:Nat}{T:List Th}{D:List Dy}(d:Int):qX [.sh (Z0 w h T D),.sh (.int d)]=.ret (.sh (.bl (decide (0<=d/\d<D.length)))):=by
 have yd:=y_d w h T D
 have hl:(D.map Ų).length=D.length:=by simp
 rw[<-hl]
 generalize Z0 w h T D=Yv at *
 generalize D.map Ų=DV at *
 by_cases a1:0<=d
 ·by_cases a2:d<(DV.length:Int)
  ·simp[qX,uq,List.replicate,yd,a1,a2]
  ·simp[qX,uq,List.replicate,yd,a1,a2]
 ·simp[qX,uq,List.replicate,yd,a1]
def Zq:List (Int×Int):=[(-1,0),(1,0),(0,-1),(0,1),(0,0)]
def inB(w h:Nat)(p:Int×Int):Bool:=decide ((0<=p.1/\p.1<w)/\(0<=p.2/\p.2<h))
def mZ(w h n:Nat):List Nat:=((Zq.map λd=>(((n % w:Nat):Int)+d.1,((n / w:Nat):Int)+d.2)).filter (inB w h)).map λp:Int×Int=>(p.2*(w:Int)+p.1).toNat
def ZT{w h n m:Nat}(hm:m∈mZ w h n):m<w*h:=by
 unfold mZ at hm
 obtain⟨p,hp,rfl⟩:=List.mem_map.mp hm
 obtain⟨_,hp⟩:=List.mem_filter.mp hp
 have hp:=of_decide_eq_true hp
 obtain⟨⟨h1,h2⟩,h3,h4⟩:=hp
 have h5:p.2*(w:Int)+p.1<h*w:=by
  have:(p.2+1)*(w:Int)<=h*w:=Int.mul_le_mul_of_nonneg_right (by omega) (by omega)
  rw[Int.add_mul] at this
  omega
 have h6:0<=p.2*(w:Int):=Int.mul_nonneg h3 (by omega)
 have h7:((w*h:Nat):Int)=(h:Int)*w:=by rw[Int.natCast_mul,Int.mul_comm]
 omega
def Z1u{w h:Nat}{T:List Th}(D:List Dy)(x y:Int):eV [.sh (Z0 w h T D),.sh (.tup [.int x,.int y])]=.ret (.sh (.bl (inB w h (x,y)))):=by
 by_cases hx:(0<=x/\x<w)/\(0<=y/\y<h)
 ·rw[Z09 D hx,show inB w h (x,y)=true from decide_eq_true hx]
 ·rw[Z1t D hx,show inB w h (x,y)=false from decide_eq_false hx]
def aro(w n:Nat):List (Int×Int):=Zq.map λd=>(((n % w:Nat):Int)+d.1,((n / w:Nat):Int)+d.2)
def Z2Q(x y:Int):Ĺ (gT 2 (ĥ (gN 1) (ĥ (gN 2) ž))) Ł (Ľ (Ą (Ď (ğ Ĝ (ă Č (Ā 0) (mC (.int 0))) (Ā 1))) (Ą (Ď (ğ Ĝ (ă Č (Ā 0) (mC (.int 1))) (Ā 2))) ė))) [.tup [.int (-1),.int 0],.tup [.int 1,.int 0],.tup [.int 0,.int (-1)],.tup [.int 0,.int 1],.tup [.int 0,.int 0]] [.sh (.tup [.int x,.int y]),.no,.no] []=some ((Zq.map λd=>(x+d.1,y+d.2)).map λp:Int×Int=>PV.tup [.int p.1,.int p.2]):=by
 simp[Ĺ,Zq]
def Z0v{a b:Int}(h1: -(2 ^ 60)<a)(h2:a<2 ^ 60)(h3: -(2 ^ 60)<b)(h4:b<2 ^ 60):ŀ a b=true:=ſ (by omega) (by omega)
def Z1v{w h:Nat}(hw:0<w)(hw2:w<=1000)(hh:h<=1000)(T:List Th)(D:List Dy){n:Nat}(hn:n<w*h):Lk [.sh (Z0 w h T D),.sh (.int n)]=.ret (.ow ((mZ w h n).map λ(m:Nat)=>PV.int m)):=by
 have yw:=LQ w h T D
 have e1:=Z0L (n:=n) hw hw2
 have e2:=Z2Q ((n % w:Nat):Int) ((n / w:Nat):Int)
 have hnw:n / w<h:=(Z10 hw).mpr hn
 have e3:=Ū (g:=gN 1) (mt:=dM (Ď (đ eV (Ă 0 (Ă 1 Ċ))))) (me:=Ď (đ lG (Ă 1 (Ĉ (bO (Ŏ ["Yard"] "width") (Ā 0)) Ċ)))) (λp:Int×Int=>PV.tup [.int p.1,.int p.2]) (λp:Int×Int=>PV.int (p.2*(w:Int)+p.1)) (inB w h) (λρ=>∃a,ρ=[.sh (Z0 w h T D),a]) (aro w n) [.sh (Z0 w h T D),.no] [] ⟨_,rfl⟩ (by simp[aro,Zq]) (by
  rintro p _ ρ ⟨a,rfl⟩
  have hs:=Z1u (w:=w) (h:=h) (T:=T) D p.1 p.2
  refine⟨[.sh (Z0 w h T D),.sh (.tup [.int p.1,.int p.2])],[.sh (Z0 w h T D),.sh (.tup [.int p.1,.int p.2])],by simp,by simp[hs],λ_=>⟨_,rfl⟩,λhq=>⟨[.sh (Z0 w h T D),.sh (.tup [.int p.1,.int p.2])],?_,_,rfl⟩⟩
  obtain⟨⟨h1,h2⟩,h3,h4⟩:=of_decide_eq_true hq
  have en:=Z0u p.1 p.2 w (Z0v (by omega) (by omega) (by omega) (by omega))
  simp[yw,en])
 have e4:((aro w n).filter (inB w h)).map (λp:Int×Int=>PV.int (p.2*(w:Int)+p.1))=(mZ w h n).map λ(m:Nat)=>PV.int m:=by
  unfold mZ
  rw[List.map_map]
  refine List.map_congr_left λp hp=>?_
  obtain⟨_,hp⟩:=List.mem_filter.mp hp
  obtain⟨⟨h1,h2⟩,h3,h4⟩:=of_decide_eq_true hp
  have h6:0<=p.2*(w:Int):=Int.mul_nonneg h3 (by omega)
  show PV.int _=PV.int _
  congr 1
  show p.2*(w:Int)+p.1=(((p.2*(w:Int)+p.1).toNat:Nat):Int)
  omega
 rw[List.nil_append,e4] at e3
 have e5:(aro w n).map (λp:Int×Int=>PV.tup [.int p.1,.int p.2])=(Zq.map λd=>(((n % w:Nat):Int)+d.1,((n / w:Nat):Int)+d.2)).map λp:Int×Int=>PV.tup [.int p.1,.int p.2]:=rfl
 rw[<-e5] at e2
 generalize (mZ w h n).map (λ(m:Nat)=>PV.int m)=B at *
 generalize (aro w n).map (λp:Int×Int=>PV.tup [.int p.1,.int p.2])=A at *
 generalize ((n % w:Nat):Int)=x at *
 generalize ((n / w:Nat):Int)=y at *
 generalize Z0 w h T D=Yv at *
 simp[Lk,Pr,List.replicate,dg,ũ,yw,e1,e2,e3]
def Jc(k:Nat->Int):Nat->List Nat->Nat
 |m,[]=>m
 |m,q::qs=>if k q<k m then Jc k q qs else Jc k m qs
def ZU(k:Nat->Int):List Nat->Option Nat
 | []=>none
 |m::ms=>some (Jc k m ms)
def oN:Option Nat->PV
 |none=>.non
 |some m=>.int (m:Nat)
theorem Z03(k:Nat->Int):∀(ms:List Nat) (m:Nat),cG (.int m) (k m) (ms.map λ(m:Nat)=>PV.int m) (ms.map k)=.int (Jc k m ms)
 | [],m=>rfl
 |q::qs,m=>by
  rw[List.map_cons,List.map_cons,cG,Jc]
  split
  ·exact Z03 k qs q
  ·exact Z03 k qs m
def Z2v(k:Nat->Int)(l:List Nat):gw (l.map λ(m:Nat)=>PV.int m) (l.map k)=some (oN (ZU k l)):=by
 cases l with
 |nil=>rfl
 |cons m ms=>
  show some (cG _ _ _ _)=_
  rw[Z03]
  rfl
theorem ZX(k:Nat->Int):∀(ms:List Nat) (m:Nat),Jc k m ms∈m::ms
 | [],m=>by simp[Jc]
 |q::qs,m=>by
  rw[Jc]
  split
  ·exact List.mem_cons_of_mem _ (ZX k qs q)
  ·have:=ZX k qs m
   rcases List.mem_cons.mp this with e|e
   ·rw[e];exact List.mem_cons_self
   ·exact List.mem_cons_of_mem _ (List.mem_cons_of_mem _ e)
def Z04{k:Nat->Int}{l:List Nat}{m:Nat}(h:ZU k l=some m):m∈l:=by
 cases l with
 |nil=>cases h
 |cons a as=>cases h;exact ZX k as a
def Z1w{k:Nat->Int}{l:List Nat}:ZU k l=none↔l=[]:=by
 cases l with
 |nil=>simp[ZU]
 |cons a as=>simp[ZU]
def Zk(f:Nat->Option Int)(l:List Nat):List Nat:=l.filter λm=>(f m).isSome
def Zu(w h:Nat)(f:Nat->Option Int)(n:Nat):Option Nat:=ZU (λm=>(f m).getD 0) (Zk f (mZ w h n))
theorem Z1x{N:Nat}{f:Nat->Option Int}{s2:P.Slot}(h2:Sl s2 (Z2 N f))(z0 z1 z3:P.Slot):∀l:List Nat,(∀m∈l,m<N/\(f m).isSome=true)->vO [2] (ă Č (Ā 0) (Ā 1)) [z0,z1,s2,z3] (l.map λ(m:Nat)=>PV.int m)=some (l.map λm=>(f m).getD 0)
 | [],_=>rfl
 |m::l,h=>by
  obtain⟨h3,h4⟩:=h m List.mem_cons_self
  have ih:=Z1x h2 z0 z1 z3 l λq hq=>h q (List.mem_cons_of_mem _ hq)
  have rg:=ZD (f:=f) h3
  obtain⟨c,hc⟩:=Option.isSome_iff_exists.mp h4
  rw[hc] at rg
  rw[List.map_cons,List.map_cons,vO]
  have e3:(ă Č (Ā 0) (Ā 1)) (lamP [2] [z0,z1,s2,z3] (.int m))=.ok (.int c) [s2,.sh (.int m)]:=by
   generalize Z2 N f=R at *
   rcases h2 with rfl|rfl<;>simp[lamP,ũ,rg,oV]
  rw[e3]
  dsimp only
  rw[ih,hc]
  rfl
def Z0M{w h:Nat}(hw:0<w)(hw2:w<=1000)(hh:h<=1000)(T:List Th)(D:List Dy){n:Nat}(hn:n<w*h){f:Nat->Option Int}{s2:P.Slot}(h2:Sl s2 (Z2 (w*h) f)):oR [.sh (Z0 w h T D),.sh (.int n),s2]=.ret (.sh (oN (Zu w h f n))):=by
 have e1:=Z1v hw hw2 hh T D hn
 have e2:=Ū (g:=gN 1) (mt:=au (ă bV (ă Č (Ā 0) (Ā 1)) (mC .non))) (me:=Ğ 1) (λ(m:Nat)=>PV.int m) (λ(m:Nat)=>PV.int m) (λm=>(f m).isSome) (λρ=>∃a,ρ=[ũ s2,a]) (mZ w h n) [ũ s2,.no] [] ⟨_,rfl⟩ (by simp[mZ];have:=List.length_filter_le (inB w h) (Zq.map λd=>(((n % w:Nat):Int)+d.1,((n / w:Nat):Int)+d.2));simp[Zq] at this;simp[Zq];omega) (by
  rintro m hm ρ ⟨a,rfl⟩
  have rg:=ZD (f:=f) (ZT hm)
  generalize Z2 (w*h) f=R at *
  refine⟨[ũ s2,.sh (.int m)],[ũ s2,.sh (.int m)],by rcases h2 with rfl|rfl<;>simp[ũ],?_,λ_=>⟨_,rfl⟩,λ_=>⟨[ũ s2,.sh (.int m)],by rcases h2 with rfl|rfl<;>simp[ũ],_,rfl⟩⟩
  cases hc:f m with
  |none=>rw[hc] at rg;rcases h2 with rfl|rfl<;>simp[ũ,rg,oV,lZ]
  |some c=>rw[hc] at rg;rcases h2 with rfl|rfl<;>simp[ũ,rg,oV,lZ])
 rw[List.nil_append] at e2
 have e3:=Z1x h2 (.sh (Z0 w h T D)) (.sh (.int n)) (.ow ((Zk f (mZ w h n)).map λ(m:Nat)=>PV.int m)) (Zk f (mZ w h n)) (λm hm=>by
  obtain⟨h3,h4⟩:=List.mem_filter.mp hm
  exact⟨ZT h3,h4⟩)
 have e4:=Z2v (λm=>(f m).getD 0) (Zk f (mZ w h n))
 have hl:Zk f (mZ w h n)=(mZ w h n).filter λm=>(f m).isSome:=rfl
 rw[<-hl] at e2
 unfold Zu
 generalize Zk f (mZ w h n)=L at *
 generalize L.map (λ(m:Nat)=>PV.int m)=LV at *
 generalize L.map (λm=>(f m).getD 0)=LK at *
 generalize (mZ w h n).map (λ(m:Nat)=>PV.int m)=B at *
 generalize ZU (λm=>(f m).getD 0) L=r at *
 generalize Z0 w h T D=Yv at *
 generalize Z2 (w*h) f=R at *
 rcases h2 with rfl|rfl
 ·simp[ũ] at e2
  simp[oR,ux,List.replicate,dg,ũ,e1,e2,e3,e4]
 ·simp[ũ] at e2
  simp[oR,ux,List.replicate,dg,ũ,e1,e2,e3,e4]
def ZE(w h goal:Nat)(f:Nat->Option Int)(n:Nat):Option Int:=if n=goal then some 0 else(Zu w h f n).bind f
def Z2R{w h:Nat}(hw:0<w)(hw2:w<=1000)(hh:h<=1000)(T:List Th)(D:List Dy){n goal:Nat}(hn:n<w*h){f:Nat->Option Int}{s3:P.Slot}(h3:Sl s3 (Z2 (w*h) f)):rD [.sh (Z0 w h T D),.sh (.int n),.sh (.int goal),s3]=.ret (.sh (oV (ZE w h goal f n))):=by
 by_cases hg:n=goal
 ·subst hg
  have e:ZE w h n f n=some 0:=by simp[ZE]
  rw[e]
  generalize Z0 w h T D=Yv at *
  simp[rD,uy,List.replicate,oV]
 ·have hg':¬(n:Int)=(goal:Int):=by omega
  have e1:=Z0M hw hw2 hh T D hn h3
  have e:ZE w h goal f n=(Zu w h f n).bind f:=by simp[ZE,hg]
  rw[e]
  have hle:=h3.lend
  cases hb:Zu w h f n with
  |none=>
   rw[hb] at e1
   generalize Z0 w h T D=Yv at *
   generalize Z2 (w*h) f=R at *
   rcases h3 with rfl|rfl<;>simp[rD,uy,List.replicate,hg',e1,oN,oV,lZ]
  |some m=>
   rw[hb] at e1
   have hm:m<w*h:=ZT (List.mem_filter.mp (Z04 hb)).1
   have rg:=ZD (f:=f) hm
   show _=FR.ret (.sh (oV (f m)))
   generalize oV (f m)=V at *
   generalize Z0 w h T D=Yv at *
   generalize Z2 (w*h) f=R at *
   rcases h3 with rfl|rfl<;>simp[rD,uy,List.replicate,hg',e1,oN,oV,lZ,rg]
def ZK(B:Int)(n:Nat):Int:=1-B / 2 ^ n % 2
def Z3(w h goal:Nat)(B:Int)(f:Nat->Option Int)(n:Nat):Option Int:=(ZE w h goal f n).map λb=>ZK B n+b
def Z0c(c k:Nat):vI (c:Int) (k:Int)=true:=by simp[vI]
theorem Z0k{w h:Nat}(hw:0<w)(hw2:w<=60)(hh:h<=1000)(T:List Th)(D:List Dy)(s1:P.Slot)(goal B:Nat){f:Nat->Option Int}{s3:P.Slot}(h3:Sl s3 (Z2 (w*h) f)):∀(ks:List Nat) (acc:List PV) (a6 a7 a8:P.Slot),(∀k∈ks,k<w*h)->acc.length+ks.length<=1000000->
 ∃a6' a7' a8':P.Slot,forL (gN 6) oU (ks.map λ(k:Nat)=>PV.int k) [.sh (Z0 w h T D),s1,.sh (.int goal),s3,.sh (.int B),.ow acc,a6,a7,a8]=.ok .nx [.sh (Z0 w h T D),s1,.sh (.int goal),s3,.sh (.int B),.ow (acc++ks.map λk=>oV (Z3 w h goal B f k)),a6',a7',a8']
 | [],acc,a6,a7,a8,_,_=>⟨a6,a7,a8,by simp[forL]⟩
 |k::ks,acc,a6,a7,a8,hk,hl=>by
  have hk':=hk k List.mem_cons_self
  have eb:=Z2R hw (by omega) hh T D (goal:=goal) hk' h3
  have hl0:acc.length<16777216:=by simp at hl;omega
  have hb:xY (.int ((B:Int) / 2 ^ k)) (.int 1)=some (.int ((B:Int) / 2 ^ k % 2)):=by
   show some (PV.int (Builtin.bitAnd _ _))=_
   rw[Z2Z]
  have hle:=h3.lend
  have sk:=Z0c B k
  have e:∃a7' a8':P.Slot,oU [.sh (Z0 w h T D),s1,.sh (.int goal),s3,.sh (.int B),.ow acc,.sh (.int k),a7,a8]=.ok .nx [.sh (Z0 w h T D),s1,.sh (.int goal),s3,.sh (.int B),.ow (acc ++ [oV (Z3 w h goal B f k)]),.sh (.int k),a7',a8']:=by
   unfold Z3 ZK
   cases hv:ZE w h goal f k with
   |none=>
    rw[hv] at eb
    generalize Z0 w h T D=Yv at *
    generalize Z2 (w*h) f=R at *
    refine⟨.sh .non,.sh (.int (1-(B:Int) / 2 ^ k % 2)),?_⟩
    rcases h3 with rfl|rfl<;>simp[oU,eb,oV,lZ,hl0,sk,hb]
   |some c=>
    rw[hv] at eb
    generalize Z0 w h T D=Yv at *
    generalize Z2 (w*h) f=R at *
    refine⟨.sh (.int c),.sh (.int (1-(B:Int) / 2 ^ k % 2)),?_⟩
    rcases h3 with rfl|rfl<;>simp[oU,eb,oV,lZ,hl0,sk,hb]
  obtain⟨a7',a8',e⟩:=e
  obtain⟨b6,b7,b8,ih⟩:=Z0k hw hw2 hh T D s1 goal B h3 ks (acc ++ [oV (Z3 w h goal B f k)]) (.sh (.int k)) a7' a8' (λq hq=>hk q (List.mem_cons_of_mem _ hq)) (by simp at hl ⊢;omega)
  refine⟨b6,b7,b8,?_⟩
  rw[List.map_cons,forL]
  have hg:gN 6 (PV.int (k:Int)) [.sh (Z0 w h T D),s1,.sh (.int goal),s3,.sh (.int B),.ow acc,a6,a7,a8]=some [.sh (Z0 w h T D),s1,.sh (.int goal),s3,.sh (.int B),.ow acc,.sh (.int k),a7,a8]:=rfl
  rw[hg]
  dsimp only
  rw[e]
  show forL _ _ _ _=_
  rw[ih]
  simp
def Z0N{w h:Nat}(hw:0<w)(hw2:w<=60)(hh:h<=1000)(k_:w*h<=1000){T:List Th}(hT:T.length<=1000)(D:List Dy)(hg:∀t∈T,Z9 t.1 t.2=true){o:Option P3}(ho:Jb o)(goal:Nat){f:Nat->Option Int}{s3:P.Slot}(h3:Sl s3 (Z2 (w*h) f)) :
 Az [.sh (Z0 w h T D),.sh (i_ o),.sh (.int goal),s3]=.ret (.ow (Z2 (w*h) (Z3 w h goal (wM w h T o) f))):=by
 have ed:=Z0J hw hw2 hh k_ hT D hg ho
 have yw:=LQ w h T D
 have yh:=Ys w h T D
 have mo:ŀ (w:Int) (h:Int)=true:=ſ (by omega) (by omega)
 have rr:=ZP (n:=w*h) k_
 have em:((w*h:Nat):Int)=(w:Int)*(h:Int):=Int.natCast_mul w h
 rw[em] at rr
 obtain⟨b6,b7,b8,el⟩:=Z0k hw hw2 hh T D (.sh (i_ o)) goal (wM w h T o) h3 (List.range (w*h)) [] .no .no .no (λk hk=>List.mem_range.mp hk) (by simp;omega)
 rw[List.nil_append] at el
 generalize wM w h T o=B at *
 have er:(List.range (w*h)).map (λk=>oV (Z3 w h goal B f k))=Z2 (w*h) (Z3 w h goal B f):=rfl
 rw[er] at el
 generalize Z2 (w*h) (Z3 w h goal B f)=R2 at *
 generalize (List.range (w*h)).map (λ(k:Nat)=>PV.int k)=K at *
 generalize Z0 w h T D=Yv at *
 generalize Z2 (w*h) f=R at *
 generalize i_ o=ov at *
 rcases h3 with rfl|rfl<;>simp[Az,Ho,List.replicate,ed,yw,yh,mo,rr,el]
def Zd(rs:List (Nat->Option Int)):Nat->Option Int:=rs.getLast?.getD λ_=>none
def ź:List (Nat->Option Int)->Nat->Option Int
 | []=>λ_=>none
 |f::_=>f
def Z1(w h goal:Nat):List Nat->List (Nat->Option Int)
 | []=>[]
 |B::Bs=>Z3 w h goal B (ź (Z1 w h goal Bs))::Z1 w h goal Bs
def Yn(w h goal:Nat):List (Nat->Option Int)->List Nat->List (Nat->Option Int)
 |rs,[]=>rs
 |rs,B::l=>Yn w h goal (rs ++ [Z3 w h goal B (Zd rs)]) l
theorem Z0w(w h goal:Nat)(B:Nat):∀(l:List Nat) (rs:List (Nat->Option Int)),Yn w h goal rs (l ++ [B])=Yn w h goal rs l ++ [Z3 w h goal B (Zd (Yn w h goal rs l))]
 | [],rs=>rfl
 |C::l,rs=>by
  show Yn w h goal _ (l ++ [B])=_
  rw[Z0w w h goal B l]
  rfl
def Z1Y(rs:List (Nat->Option Int)):Zd rs.reverse=ź rs:=by
 cases rs with
 |nil=>rfl
 |cons f r=>simp[Zd,ź]
theorem Z0x(w h goal:Nat):∀Bs:List Nat,Yn w h goal [] Bs.reverse=(Z1 w h goal Bs).reverse
 | []=>rfl
 |B::Bs=>by
  rw[List.reverse_cons,Z0w,Z0x w h goal Bs,Z1Y,Z1,List.reverse_cons]
theorem Zl(w h goal:Nat):∀Bs:List Nat,(Z1 w h goal Bs).length=Bs.length
 | []=>rfl
 |B::Bs=>congrArg (·+ 1) (Zl w h goal Bs)
def rV(N:Nat)(f:Nat->Option Int):PV:=.lst (Z2 N f)
def Z1Z{N:Nat}(hN:N<=1000):Ĺ (gN 0) Ł (mC .non) ((List.range N).map λ(k:Nat)=>PV.int k) [.no] []=some ((List.range N).map λ_=>PV.non):=by
 have c1:=ņ (g:=gN 0) (mt:=Ł) (me:=mC .non) (λ(k:Nat)=>PV.int k) (λ_=>PV.non) (λρ=>∃a,ρ=[a]) (List.range N) [.no] [] ⟨_,rfl⟩ (by simp;omega) (by
  rintro k _ ρ ⟨a,rfl⟩
  exact⟨[.sh (.int k)],[.sh (.int k)],[.sh (.int k)],by simp,by simp,by simp,_,rfl⟩)
 rw[List.nil_append] at c1
 exact c1
def Z2d(pre:List Nat)(l:Nat):Č (.lst ((pre ++ [l]).map λ(m:Nat)=>PV.int m)) (.int (-1))=some (.int l):=by
 show lA _ _=_
 unfold lA CG
 simp
 rw[if_pos (by omega)]
 have e:(-1+((pre.length:Int)+1)).toNat=pre.length:=by omega
 simp[e]
theorem Z0y{w h goal:Nat}:∀{Bs:List Nat} {i n:Nat} {f:Nat->Option Int},(Z1 w h goal Bs)[i]?=some f->n≠goal->(f n).isSome=true->∃m f',(Z1 w h goal Bs)[i+1]?=some f'/\Zu w h f' n=some m/\(f' m).isSome=true
 | [],i,n,f,h1,_,_=>by simp[Z1] at h1
 |B::Bs,0,n,f,h1,hn,hs=>by
  have h1':Z3 w h goal B (ź (Z1 w h goal Bs))=f:=by simpa[Z1] using h1
  rw[<-h1'] at hs
  unfold Z3 ZE at hs
  rw[if_neg hn] at hs
  cases hb:Zu w h (ź (Z1 w h goal Bs)) n with
  |none=>rw[hb] at hs;simp at hs
  |some m=>
   rw[hb] at hs
   have hm:(ź (Z1 w h goal Bs) m).isSome=true:=by
    cases hc:ź (Z1 w h goal Bs) m with
    |none=>rw[show(some m).bind (ź (Z1 w h goal Bs))=ź (Z1 w h goal Bs) m from rfl,hc] at hs;simp at hs
    |some c=>rfl
   cases hp:Z1 w h goal Bs with
   |nil=>rw[hp] at hm;simp[ź] at hm
   |cons f' r=>
    rw[hp] at hb hm
    exact⟨m,f',by simp[Z1,hp],hb,hm⟩
 |B::Bs,i+1,n,f,h1,hn,hs=>by
  obtain⟨m,f',q1,q2,q3⟩:=Z0y (Bs:=Bs) (i:=i) (by simpa[Z1] using h1) hn hs
  exact⟨m,f',by simpa[Z1] using q1,q2,q3⟩
theorem ZI(k:Nat->Int):∀(ms:List Nat) (m:Nat),∀q∈m::ms,k (Jc k m ms)<=k q
 | [],m,q,hq=>by
   have:q=m:=by simpa using hq
   rw[this];exact Int.le_refl _
 |a::as,m,q,hq=>by
  rw[Jc]
  split
  ·rename_i hlt
   rcases List.mem_cons.mp hq with rfl|hq
   ·have:=ZI k as a a List.mem_cons_self
    omega
   ·exact ZI k as a q hq
  ·rename_i hlt
   rcases List.mem_cons.mp hq with rfl|hq
   ·exact ZI k as q q List.mem_cons_self
   ·rcases List.mem_cons.mp hq with rfl|hq
    ·have:=ZI k as m m List.mem_cons_self
     omega
    ·exact ZI k as m q (List.mem_cons_of_mem _ hq)
def Z1y{w h n m:Nat}{f:Nat->Option Int}{c:Int}(hm:m∈mZ w h n)(hc:f m=some c):∃q c',Zu w h f n=some q/\f q=some c'/\c'<=c:=by
 have hl:m∈Zk f (mZ w h n):=List.mem_filter.mpr ⟨hm,by rw[hc];rfl⟩
 unfold Zu
 cases hL:Zk f (mZ w h n) with
 |nil=>rw[hL] at hl;simp at hl
 |cons a as=>
  rw[hL] at hl
  have h1:=ZI (λm=>(f m).getD 0) as a m hl
  have h2:Jc (λm=>(f m).getD 0) a as∈Zk f (mZ w h n):=by rw[hL];exact ZX _ as a
  obtain⟨_,h3⟩:=List.mem_filter.mp h2
  obtain⟨c',h4⟩:=Option.isSome_iff_exists.mp h3
  refine⟨_,c',rfl,h4,?_⟩
  rw[h4,hc] at h1
  exact h1
def Z2w{w h n q:Nat}{f:Nat->Option Int}(hq:Zu w h f n=some q):q∈mZ w h n/\∃c,f q=some c:=by
 obtain⟨h1,h2⟩:=List.mem_filter.mp (Z04 hq)
 exact⟨h1,Option.isSome_iff_exists.mp h2⟩
def Z0z{w h g:Nat}(B:Nat)(f:Nat->Option Int):Z3 w h g B f g=some (ZK B g):=by
 unfold Z3 ZE
 simp
theorem Z0A{w h g:Nat}:∀(Bs:List Nat) {t:Nat},t<Bs.length->(Z1 w h g Bs)[t]?=some (ź (Z1 w h g (Bs.drop t)))
 | [],t,ht=>by simp at ht
 |B::Bs,0,_=>rfl
 |B::Bs,t+1,ht=>by
  rw[List.drop_succ_cons]
  exact Z0A Bs (by simpa using ht)
def Z6(t:Th):PV:=.tup [.str t.1,.lst (t.2.map .int)]
def Z2S(w h:Nat):iH [.tup [.int w,.int h]]=some (.int ((max w h:Nat):Int)):=by
 show some (PV.int (max (w:Int) h))=_
 congr 2
 omega
theorem Z0B{w h:Nat}(hw:1<=w/\w<=20)(hh:1<=h/\h<=20):∀(cs:List Int) (acc:List PV) (s1:P.Slot),acc.length+cs.length<=1000->∃T:List Th,Ĺ (gN 1) Ł (Ď (đ gC (Ă 1 (Ĉ (bQ iH (Ą (Ā 0) ė)) Ċ)))) (cs.map .int) [.sh (.tup [.int w,.int h]),s1] acc=some (acc++T.map Z6)/\T.length=cs.length/\∀t∈T,Z9 t.1 t.2=true
 | [],acc,s1,_=>⟨[],by simp[Ĺ],rfl,by simp⟩
 |c::cs,acc,s1,ha=>by
  obtain⟨t,e1,e2⟩:=Z1s c (w:=((max w h:Nat):Int)) (by omega) (by omega)
  obtain⟨T,q1,q2,q3⟩:=Z0B hw hh cs (acc ++ [Z6 t]) (.sh (.int c)) (by simp at ha ⊢;omega)
  refine⟨t::T,?_,by simp[q2],?_⟩
  ·have hz:acc.length<16777216:=by simp at ha;omega
   have mx:=Z2S w h
   change gC _=.ret (.sh (Z6 t)) at e1
   generalize hR:Z6 t=R at *
   generalize ((max w h:Nat):Int)=m at *
   rw[List.map_cons,Ĺ]
   simp[mx,e1,hz,hR]
   simpa using q1
  ·intro x hx
   rcases List.mem_cons.mp hx with rfl|hx
   ·exact e2
   ·exact q3 x hx
def Z20{w:Str}{xs:List Int}(h:Z9 w xs=true):PyData.strOk w=true:=by
 unfold Z9 at h
 by_cases e1:w= "post"
 ·rw[e1];exact s1
 rw[if_neg e1] at h
 by_cases e2:w= "fence"
 ·rw[e2];exact s2
 rw[if_neg e2] at h
 by_cases e3:w= "sail"
 ·rw[e3];exact s3
 rw[if_neg e3] at h
 by_cases e4:w= "cloth"
 ·rw[e4];exact s4
 rw[if_neg e4] at h
 by_cases e5:w= "house"
 ·rw[e5];exact s5
 rw[if_neg e5] at h
 cases h
def Z1z{T:List Th}(hl:T.length<=1000)(hg:∀t∈T,Z9 t.1 t.2=true)(s0 s1:P.Slot):Ĺ (gT 2 (ĥ (gN 0) (ĥ (gN 1) ž))) Ł (Ď (đ dz (Ă 0 (Ĉ (Ď (lX dw (Ą (Ā 1) ė))) Ċ)))) (T.map Z6) [s0,s1] []=some (T.map pU):=by
 have hc:=ņ (g:=gT 2 (ĥ (gN 0) (ĥ (gN 1) ž))) (mt:=Ł) (me:=Ď (đ dz (Ă 0 (Ĉ (Ď (lX dw (Ą (Ā 1) ė))) Ċ)))) Z6 pU (λρ=>∃a b,ρ=[a,b]) T [s0,s1] [] ⟨_,_,rfl⟩ (by simp;omega) (by
  rintro t ht ρ ⟨a,b,rfl⟩
  have e:=Z1Q (Z20 (hg t ht)) (xs:=t.2) (sl:=.sh (.lst (t.2.map .int))) (.inl rfl)
  rw[if_pos (hg t ht)] at e
  change dz _=.ret (.sh (pU t)) at e
  refine⟨[.sh (.str t.1),.sh (.lst (t.2.map .int))],_,[.sh (.str t.1),.sh (.lst (t.2.map .int))],by simp[Z6],rfl,?_,_,_,rfl⟩
  generalize t.2.map PV.int=X at *
  generalize pU t=V at *
  simp[e])
 simpa using hc
def slI(xs:List Int)(lo hi:Option Int):∃ys:List Int,aU (xs.map PV.int) lo hi=ys.map PV.int/\ys.length<=xs.length:=by
 refine⟨(xs.drop (HT.gY xs.length 0 lo)).take (HT.gY xs.length xs.length hi-HT.gY xs.length 0 lo),?_,by simp;omega⟩
 unfold aU
 rw[List.length_map,List.map_take,List.map_drop]
def slR(T:List Th):∃T':List Th,aU (T.map Z6) none (some 1)=T'.map Z6/\T'.length<=T.length/\∀t∈T',t∈T:=by
 refine⟨T.take (HT.gY T.length T.length (some 1)),?_,by simp;omega,λt ht=>List.mem_of_mem_take ht⟩
 unfold aU
 rw[List.length_map,List.map_take]
 rfl
def Z32(o:Option Int):pf (oV o)=true:=by cases o<;>simp[oV,pf]
theorem Z0d{α:Type}(g:α->PV)(hg:∀x,pf (g x)=true):∀l:List α,yI (l.map g)=true
 | []=>by simp[yI]
 |x::l=>by rw[List.map_cons,yI,hg x,Z0d g hg l];rfl
def Z0O(N:Nat)(f:Nat->Option Int):yI (Z2 N f)=true:=Z0d _ (λn=>Z32 (f n)) _
def Bk(N:Nat):List (Nat->Option Int)->P.Slot
 | []=>.ow []
 |rs=>.fr (rs.map (Z2 N))
def Z1A(N:Nat)(rs:List (Nat->Option Int))(f:Nat->Option Int):Bk N (rs ++ [f])=.fr (rs.map (Z2 N) ++ [Z2 N f]):=by
 cases rs with
 |nil=>rfl
 |cons a r=>simp[Bk]
theorem Z0C{w h:Nat}(hw:0<w)(hw2:w<=60)(hh:h<=1000)(k_:w*h<=1000){T:List Th}(hT:T.length<=1000)(D:List Dy)(hg:∀t∈T,Z9 t.1 t.2=true)(goal:Nat)(s1:P.Slot):∀(l:List (Option P3)) (rs:List (Nat->Option Int)) (s4 s5:P.Slot),(s4=.ow (Z2 (w*h) (Zd rs))\/s4=.sh (.lst (Z2 (w*h) (Zd rs))))->(∀o∈l,Jb o)->rs.length+l.length<=1000->
 ∃wQ tH:P.Slot,forL (gN 5) jj (l.map i_) [.sh (Z0 w h T D),s1,.sh (.int goal),Bk (w*h) rs,s4,s5]=.ok .nx [.sh (Z0 w h T D),s1,.sh (.int goal),Bk (w*h) (Yn w h goal rs (l.map (wM w h T))),wQ,tH]
 | [],rs,s4,s5,_,_,_=>⟨s4,s5,rfl⟩
 |o::l,rs,s4,s5,h4,ho,hl=>by
  have hl0:rs.length<16777216:=by simp at hl;omega
  have e:∃wQ:P.Slot,wQ=.sh (.lst (Z2 (w*h) (Z3 w h goal (wM w h T o) (Zd rs))))/\jj [.sh (Z0 w h T D),s1,.sh (.int goal),Bk (w*h) rs,s4,.sh (i_ o)]=.ok .nx [.sh (Z0 w h T D),s1,.sh (.int goal),Bk (w*h) (rs ++ [Z3 w h goal (wM w h T o) (Zd rs)]),wQ,.sh (i_ o)]:=by
   refine⟨_,rfl,?_⟩
   have e1:=Z0N hw hw2 hh k_ hT D hg (ho o List.mem_cons_self) goal (f:=Zd rs) (s3:=.bw (Z2 (w*h) (Zd rs))) (.inr rfl)
   have e2:=Z0N hw hw2 hh k_ hT D hg (ho o List.mem_cons_self) goal (f:=Zd rs) (s3:=.sh (.lst (Z2 (w*h) (Zd rs)))) (.inl rfl)
   rw[Z1A]
   generalize Z2 (w*h) (Z3 w h goal (wM w h T o) (Zd rs))=R2 at *
   generalize Z2 (w*h) (Zd rs)=R at *
   generalize Z0 w h T D=Yv at *
   generalize i_ o=ov at *
   cases rs with
   |nil=>
    rcases h4 with rfl|rfl
    ·simp[jj,e1,oJ,Bk]
    ·simp[jj,e2,oJ,Bk]
   |cons a r=>
    have hl1:((a::r).map (Z2 (w*h))).length<16777216:=by rw[List.length_map];exact hl0
    have e3:Bk (w*h) (a::r)=.fr ((a::r).map (Z2 (w*h))):=rfl
    rw[e3]
    generalize (a::r).map (Z2 (w*h))=RS at *
    rcases h4 with rfl|rfl
    ·simp[jj,e1,oJ,hl1]
    ·simp[jj,e2,oJ,hl1]
  obtain⟨wQ,hs4,e⟩:=e
  obtain⟨b4,b5,ih⟩:=Z0C hw hw2 hh k_ hT D hg goal s1 l (rs ++ [Z3 w h goal (wM w h T o) (Zd rs)]) wQ (.sh (i_ o)) (.inr (by rw[hs4];simp[Zd])) (λq hq=>ho q (List.mem_cons_of_mem _ hq)) (by simp at hl ⊢;omega)
  refine⟨b4,b5,?_⟩
  rw[List.map_cons,forL]
  have hgn:gN 5 (i_ o) [.sh (Z0 w h T D),s1,.sh (.int goal),Bk (w*h) rs,s4,s5]=some [.sh (Z0 w h T D),s1,.sh (.int goal),Bk (w*h) rs,s4,.sh (i_ o)]:=rfl
  rw[hgn]
  dsimp only
  rw[e]
  exact ih
def Z21{w h:Nat}(hw:0<w)(hw2:w<=60)(hh:h<=1000)(k_:w*h<=1000){T:List Th}(hT:T.length<=1000){D:List Dy}(hg:∀t∈T,Z9 t.1 t.2=true)(goal:Nat){i:Nat}(hi:i<D.length)(ho:∀o∈D[i].2.2,Jb o)(hl:D[i].2.2.length<=1000){B:Nat}{Bs:List Nat}(L_:D[i].2.2.map (wM w h T)=B::Bs) :
 A_ [.sh (Z0 w h T D),.sh (.int i),.sh (.int goal)]=.ret (.bn false [] (Z2 (w*h) (Z3 w h goal B (ź (Z1 w h goal Bs)))) ((Z1 w h goal Bs).map (rV (w*h)))):=by
 have et:=Z14 (w:=w) (h:=h) (T:=T) hi
 have yw:=LQ w h T D
 have yh:=Ys w h T D
 have mo:ŀ (w:Int) (h:Int)=true:=ſ (by omega) (by omega)
 have rr:=ZP (n:=w*h) k_
 have em:((w*h:Nat):Int)=(w:Int)*(h:Int):=Int.natCast_mul w h
 rw[em] at rr
 have en:=Z1Z k_
 have e0:(List.range (w*h)).map (λ_=>PV.non)=Z2 (w*h) (Zd []):=by simp[Z2,Zd,oV]
 rw[e0] at en
 generalize D[i].2.2=os at *
 obtain⟨b4,b5,el⟩:=Z0C hw hw2 hh k_ hT D hg goal (.sh (.int i)) os.reverse [] (.ow (Z2 (w*h) (Zd []))) .no (.inl rfl) (λo h=>ho o (List.mem_reverse.mp h)) (by simp;omega)
 rw[List.map_reverse,List.map_reverse,Z0x,L_] at el
 have e3:Bk (w*h) []=.ow []:=rfl
 rw[e3] at el
 have e4:Bk (w*h) (Z1 w h goal (B::Bs)).reverse=.fr (((Z1 w h goal Bs).map (Z2 (w*h))).reverse ++ [Z2 (w*h) (Z3 w h goal B (ź (Z1 w h goal Bs)))]):=by
  show Bk (w*h) (Z3 w h goal B (ź (Z1 w h goal Bs))::Z1 w h goal Bs).reverse=_
  rw[List.reverse_cons,Z1A,List.map_reverse]
 rw[e4] at el
 have f1:=Z0O (w*h) (Z3 w h goal B (ź (Z1 w h goal Bs)))
 have f2:((Z1 w h goal Bs).map (Z2 (w*h))).all yI=true:=by
  rw[List.all_map,List.all_eq_true]
  exact λf _=>Z0O _ f
 have e5:(Z1 w h goal Bs).map (rV (w*h))=((Z1 w h goal Bs).map (Z2 (w*h))).map PV.lst:=by rw[List.map_map];rfl
 rw[e5]
 clear e4 e5
 generalize Z2 (w*h) (Z3 w h goal B (ź (Z1 w h goal Bs)))=Q at *
 generalize (Z1 w h goal Bs).map (Z2 (w*h))=RS at *
 generalize os.map i_=TV at *
 generalize Z2 (w*h) (Zd [])=R0 at *
 generalize (List.range (w*h)).map (λ(k:Nat)=>PV.int k)=K at *
 generalize Z0 w h T D=Yv at *
 simp[A_,Hq,List.replicate,dg,ũ,et,yw,yh,mo,rr,en,el,uf,f1]
 rw[if_pos (List.all_eq_true.mp f2)]
 rfl
def Z1B{w h:Nat}(hw:0<w)(hw2:w<=1000)(hh:h<=1000)(T:List Th)(D:List Dy){goal start:Nat}(hs:start<w*h){Bs:List Nat}(hl:Bs.length<=1000){f0:Nat->Option Int}(h0:(Z1 w h goal Bs)[0]?=some f0)(hs0:(f0 start).isSome=true) :
 ∃ms:List Nat,wz [.sh (Z0 w h T D),.sh (.int start),.sh (.int goal),.sh (.lst ((Z1 w h goal Bs).map (rV (w*h))))]=.ret (.ow (ms.map λ(m:Nat)=>PV.tup [.int (m % w:Nat),.int (m / w:Nat)])):=by
 have yw:=LQ w h T D
 obtain⟨PV',hPV⟩:∃P:List PV,(Z1 w h goal Bs).map (rV (w*h))=P:=⟨_,rfl⟩
 rw[hPV]
 have hstep:∀b:List Nat×Nat,(b.2<w*h/\∃f,(Z1 w h goal Bs)[b.1.length]?=some f/\(f b.2).isSome=true)->
  (au (ă dX (ă Č (Ā 4) (bO aP (mC (.int 1)))) (Ā 2))) [.sh (Z0 w h T D),.sh (.int start),.sh (.int goal),.sh (.lst PV'),.ow ((b.1 ++ [b.2]).map λ(m:Nat)=>PV.int m)]=.ok (decide (b.2≠goal)) [.sh (Z0 w h T D),.sh (.int start),.sh (.int goal),.sh (.lst PV'),.ow ((b.1 ++ [b.2]).map λ(m:Nat)=>PV.int m)]:=by
  rintro ⟨pre,l⟩ _
  have e1:=Z2d pre l
  have e2:decide (l≠goal)=decide ((l:Int)≠(goal:Int)):=by
   by_cases hq:l=goal
   ·simp[hq]
   ·simp[hq];omega
  dsimp only
  generalize (pre ++ [l]).map (λ(m:Nat)=>PV.int m)=LV at *
  rw[e2]
  simp[e1]
 obtain⟨⟨pre,l⟩,e1,⟨hl1,f,hf,hfs⟩,e2⟩:=yq (mc:=au (ă dX (ă Č (Ā 4) (bO aP (mC (.int 1)))) (Ā 2))) (mb:=nJ 4 (Ď (đ oR (Ă 0 (Ĉ (ă Č (Ā 4) (bO aP (mC (.int 1)))) (Ĉ (ă Č (Ā 3) (bQ bK (Ą (Ā 4) ė))) Ċ)))))) (λb:List Nat×Nat=>[.sh (Z0 w h T D),.sh (.int start),.sh (.int goal),.sh (.lst PV'),.ow ((b.1 ++ [b.2]).map λ(m:Nat)=>PV.int m)]) (λb=>b.2<w*h/\∃f,(Z1 w h goal Bs)[b.1.length]?=some f/\(f b.2).isSome=true) (λb=>1001-b.1.length) (by
  rintro ⟨pre,l⟩ hb
  have e0:=hstep ⟨pre,l⟩ hb
  obtain⟨hl1,f,hf,hfs⟩:=hb
  dsimp only at hl1 hf hfs e0 ⊢
  by_cases hg:l=goal
  ·left
   rw[e0,hg]
   simp
  ·right
   refine⟨by rw[e0];simp[hg],?_⟩
   obtain⟨m,f',q1,q2,q3⟩:=Z0y hf hg hfs
   have hlen:pre.length+1<Bs.length:=by
    have:=(List.getElem?_eq_some_iff.mp q1).1
    rw[Zl] at this
    exact this
   have hm:m<w*h:=ZT (List.mem_filter.mp (Z04 q2)).1
   refine⟨(pre ++ [l],m),?_,⟨hm,f',by simpa using q1,q3⟩,by simp;omega⟩
   have eb:=Z0M hw hw2 hh T D hl1 (f:=f') (s2:=.sh (.lst (Z2 (w*h) f'))) (.inl rfl)
   rw[q2] at eb
   have ei:=Z2d pre l
   have ep:Č (.lst PV') (.int ((pre.length:Int)+1))=some (.lst (Z2 (w*h) f')):=by
    rw[<-hPV]
    have e7:((pre.length:Int)+1)=((pre.length+1:Nat):Int):=by omega
    rw[e7]
    have:((Z1 w h goal Bs).map (rV (w*h)))[pre.length+1]?=some (.lst (Z2 (w*h) f')):=by
     rw[List.getElem?_map,q1];rfl
    generalize pre.length+1=q at *
    simp[this]
   have hll:(((pre ++ [l]).map λ(m:Nat)=>PV.int m).length:Int)=(pre.length:Int)+1:=by simp
   have hl2:((pre ++ [l]).map λ(m:Nat)=>PV.int m).length<16777216:=by simp;omega
   have ea:(((pre ++ [l]) ++ [m]).map λ(m:Nat)=>PV.int m)=((pre ++ [l]).map λ(m:Nat)=>PV.int m) ++ [PV.int m]:=by simp
   dsimp only
   rw[ea]
   generalize (pre ++ [l]).map (λ(m:Nat)=>PV.int m)=LV at *
   generalize Z2 (w*h) f'=R at *
   generalize Z0 w h T D=Yv at *
   simp[ei,hll,ep,eb,oN,hl2]) (b:=([],start)) ⟨hs,f0,h0,hs0⟩
 refine⟨pre ++ [l],?_⟩
 have hpl:pre.length<Bs.length:=by
  have:=(List.getElem?_eq_some_iff.mp hf).1
  rw[Zl] at this
  exact this
 have c1:=ņ (g:=gN 1) (mt:=Ł) (me:=Ď (đ rC (Ă 1 (Ĉ (bO (Ŏ ["Yard"] "width") (Ā 0)) Ċ)))) (λ(m:Nat)=>PV.int m) (λ(m:Nat)=>PV.tup [.int (m % w:Nat),.int (m / w:Nat)]) (λρ=>∃a,ρ=[.sh (Z0 w h T D),a]) (pre ++ [l]) [.sh (Z0 w h T D),.no] [] ⟨_,rfl⟩ (by simp;omega) (by
  rintro m _ ρ ⟨a,rfl⟩
  have es:=Z0L (n:=m) hw hw2
  refine⟨[.sh (Z0 w h T D),.sh (.int m)],[.sh (Z0 w h T D),.sh (.int m)],[.sh (Z0 w h T D),.sh (.int m)],by simp,by simp,?_,_,rfl⟩
  generalize Z0 w h T D=Yv at *
  simp[yw,es])
 rw[List.nil_append] at c1
 have ew:Hr [.sh (Z0 w h T D),.sh (.int start),.sh (.int goal),.sh (.lst PV'),.ow [.int start]]=_:=e1
 dsimp only at ew
 generalize (pre ++ [l]).map (λ(m:Nat)=>PV.tup [.int (m % w:Nat),.int (m / w:Nat)])=OUT at *
 generalize (pre ++ [l]).map (λ(m:Nat)=>PV.int m)=LV at *
 generalize Z0 w h T D=Yv at *
 simp[wz,Hs,List.replicate,dg,ũ,ew,c1]
def Z0a{w h:Nat}{T:List Th}(D:List Dy){x y:Int}(hx:(0<=x/\x<w)/\(0<=y/\y<h)):vX [.sh (Z0 w h T D),.sh (.tup [.int x,.int y])]=.ret (.sh .non):=by
 have hs:=Z09 (T:=T) D hx
 generalize Z0 w h T D=Yv at *
 simp[vX,Gz,List.replicate,hs]
def Z22{w h:Nat}{T:List Th}{D:List Dy}{d:Int}(hd:0<=d/\d<D.length):Ao [.sh (Z0 w h T D),.sh (.int d)]=.ret (.sh .non):=by
 have hs:=Z2u (w:=w) (h:=h) (T:=T) (D:=D) d
 rw[decide_eq_true hd] at hs
 generalize Z0 w h T D=Yv at *
 simp[Ao,GC,List.replicate,hs]
def tp(p:Int×Int):PV:=.tup [.int p.1,.int p.2]
def sn(w n:Nat):Int×Int:=(((n % w:Nat):Int),((n / w:Nat):Int))
def Z0P{w h:Nat}(hw:0<w)(hw2:w<=60)(hh:h<=1000)(k_:w*h<=1000){T:List Th}(hT:T.length<=1000){D:List Dy}(hg:∀t∈T,Z9 t.1 t.2=true){n1 n2:Nat}(l1:n1<w*h)(l2:n2<w*h){i:Nat}(hi:i<D.length)(hd:D[i].2.2.length<=1000)(ho:∀o∈D[i].2.2,Jb o){B:Nat}{Bs:List Nat}(L_:D[i].2.2.map (wM w h T)=B::Bs) :
 ∃ps:List PV,iQ [.sh (Z0 w h T D),.sh (.int i),.sh (tp (sn w n1)),.sh (tp (sn w n2))]=.ret (.bn true ps (Z2 (w*h) (Z3 w h n2 B (ź (Z1 w h n2 Bs)))) ((Z1 w h n2 Bs).map (rV (w*h))))/\((Z3 w h n2 B (ź (Z1 w h n2 Bs)) n1=none/\ps=[.str "none"])\/(∃(c:Int) (ms:List Nat),Z3 w h n2 B (ź (Z1 w h n2 Bs)) n1=some c/\ps=[.str "walk",.int c,.lst (ms.map λ(m:Nat)=>tp (sn w m))])):=by
 have inn:∀{n:Nat},n<w*h->(0<=(sn w n).1/\(sn w n).1<w)/\(0<=(sn w n).2/\(sn w n).2<h):=fun{n} hn=>by
  have a1:=Nat.mod_lt n hw
  have a2:n / w<h:=(Z10 hw).mpr hn
  have p1:(0:Int)<=((n / w:Nat):Int):=Int.natCast_nonneg _
  have p2:(0:Int)<=((n % w:Nat):Int):=Int.natCast_nonneg _
  refine⟨⟨p2,?_⟩,p1,?_⟩
  ·show((n % w:Nat):Int)<w;omega
  ·show((n / w:Nat):Int)<h;omega
 have c1:=Z0a (T:=T) D (inn l1)
 have c2:=Z0a (T:=T) D (inn l2)
 have c3:=Z22 (w:=w) (h:=h) (T:=T) (D:=D) (d:=i) (by omega)
 have yw:=LQ w h T D
 have num:∀{n:Nat},n<w*h->lG [.sh (.tup [.int (sn w n).1,.int (sn w n).2]),.sh (.int w)]=.ret (.sh (.int n)):=fun{n} hn=>by
  have:=inn hn
  rw[Z0u _ _ w (Z0v (by omega) (by omega) (by omega) (by omega))]
  have e:(sn w n).2*(w:Int)+(sn w n).1=(n:Int):=by
   have:=Nat.div_add_mod n w
   show((n / w:Nat):Int)*(w:Int)+((n % w:Nat):Int)=(n:Int)
   have:((w*(n / w)+n % w:Nat):Int)=(n:Int):=by rw[this]
   rw[Int.natCast_add,Int.natCast_mul,Int.mul_comm] at this
   exact this
  rw[e]
 have m1:=num l1
 have m2:=num l2
 have ep:=Z21 hw hw2 hh k_ hT hg n2 hi ho hd L_
 have hlB:Bs.length+1<=1000:=by
  have:=congrArg List.length L_
  simp at this
  omega
 have rg:=ZD (f:=Z3 w h n2 B (ź (Z1 w h n2 Bs))) l1
 have x0:Č (.lst (.lst (Z2 (w*h) (Z3 w h n2 B (ź (Z1 w h n2 Bs))))::(Z1 w h n2 Bs).map (rV (w*h)))) (.int 0)=some (.lst (Z2 (w*h) (Z3 w h n2 B (ź (Z1 w h n2 Bs))))):=by simp
 have tt:∀n,PV.tup [.int (sn w n).1,.int (sn w n).2]=tp (sn w n):=λ_=>rfl
 rw[tt] at c1 c2 m1 m2
 cases hc:Z3 w h n2 B (ź (Z1 w h n2 Bs)) n1 with
 |none=>
  refine⟨_,?_,.inl ⟨rfl,rfl⟩⟩
  rw[hc] at rg
  generalize Z2 (w*h) (Z3 w h n2 B (ź (Z1 w h n2 Bs)))=Q at *
  generalize (Z1 w h n2 Bs).map (rV (w*h))=RS at *
  generalize tp (sn w n1)=P1 at *
  generalize tp (sn w n2)=P2 at *
  generalize Z0 w h T D=Yv at *
  simp[iQ,yS,List.replicate,c1,c2,c3,yw,m1,m2,ep,RV.slot,rg,oV,lZ,vW,iu,ug,pf]
 |some c=>
  obtain⟨ms,ew⟩:=Z1B hw (by omega) hh T D (goal:=n2) (start:=n1) l1 (Bs:=B::Bs) (by simp;omega) (f0:=Z3 w h n2 B (ź (Z1 w h n2 Bs))) rfl (by rw[hc];rfl)
  refine⟨_,?_,.inr ⟨c,ms,rfl,rfl⟩⟩
  rw[hc] at rg
  have ew':wz [.sh (Z0 w h T D),.sh (.int n1),.sh (.int n2),.sh (.lst (.lst (Z2 (w*h) (Z3 w h n2 B (ź (Z1 w h n2 Bs))))::(Z1 w h n2 Bs).map (rV (w*h))))]=.ret (.ow (ms.map λ(m:Nat)=>tp (sn w m))):=ew
  have fl:yI (ms.map λ(m:Nat)=>tp (sn w m))=true:=Z0d _ (λm=>by simp[tp,pf,yI]) ms
  clear ew
  generalize ms.map (λ(m:Nat)=>tp (sn w m))=MS at *
  generalize Z2 (w*h) (Z3 w h n2 B (ź (Z1 w h n2 Bs)))=Q at *
  generalize (Z1 w h n2 Bs).map (rV (w*h))=RS at *
  generalize tp (sn w n1)=P1 at *
  generalize tp (sn w n2)=P2 at *
  generalize Z0 w h T D=Yv at *
  simp[iQ,yS,List.replicate,c1,c2,c3,yw,m1,m2,ep,RV.slot,rg,oV,lZ,vW,iu,yK,pf,fl,ew']
def Zo:CG 2 0=some 0:=rfl
def Zt:CG 2 1=some 1:=rfl
def Yo(x y:Int):List (Int×Int):=[(x,y),(x-1,y),(x+1,y),(x,y-1),(x,y+1)]
def Zj(w h n:Nat):List Nat:=((Yo ((n % w:Nat):Int) ((n / w:Nat):Int)).filter (inB w h)).map λp:Int×Int=>(p.2*(w:Int)+p.1).toNat
def ZL{w h n m:Nat}:m∈Zj w h n↔m∈mZ w h n:=by
 unfold Zj mZ
 generalize ((n % w:Nat):Int)=x
 generalize ((n / w:Nat):Int)=y
 have hq:∀p:Int×Int,p∈Yo x y↔p∈Zq.map λd=>(x+d.1,y+d.2):=λp=>by
  simp only[Yo,Zq,List.map_cons,List.map_nil,List.mem_cons,List.not_mem_nil,or_false,Int.add_zero,<-Int.sub_eq_add_neg]
  constructor
  ·rintro (h|h|h|h|h)<;>simp[h]
  ·rintro (h|h|h|h|h)<;>simp[h]
 constructor
 ·intro hm
  obtain⟨p,hp,e⟩:=List.mem_map.mp hm
  obtain⟨h1,h2⟩:=List.mem_filter.mp hp
  exact List.mem_map.mpr ⟨p,List.mem_filter.mpr ⟨(hq p).mp h1,h2⟩,e⟩
 ·intro hm
  obtain⟨p,hp,e⟩:=List.mem_map.mp hm
  obtain⟨h1,h2⟩:=List.mem_filter.mp hp
  exact List.mem_map.mpr ⟨p,List.mem_filter.mpr ⟨(hq p).mpr h1,h2⟩,e⟩
def Z23(w h n:Nat):(Zj w h n).length<=5:=by
 unfold Zj
 rw[List.length_map]
 exact List.length_filter_le _ _
def Z2T(w h:Nat)(x y:Int)(a:P.Slot):cX (au (iw fG gj (mC (.int 0)) (Ā 1) (ă Č (Ā 0) (mC (.int 0))))) (au (iw fG gj (mC (.int 0)) (Ā 2) (ă Č (Ā 0) (mC (.int 1))))) [.sh (.tup [.int w,.int h]),.sh (.int x),.sh (.int y)]=.ok (inB w h (x,y)) [.sh (.tup [.int w,.int h]),.sh (.int x),.sh (.int y)]:=by
 unfold inB
 by_cases a1:0<=x
 ·by_cases a2:x<(w:Int)
  ·by_cases a3:0<=y
   ·by_cases a4:y<(h:Int)
    ·simp[a1,a2,a3,a4,Zo,Zt]
    ·simp[a1,a2,a3,a4,Zo,Zt]
   ·simp[a1,a2,a3,Zo,Zt]
  ·simp[a1,a2,Zo,Zt]
 ·simp[a1,Zo,Zt]
def Z2x{w h:Nat}(hw:0<w)(hw2:w<=1000)(hh:h<=1000)(n:Nat):Ba [.sh (.tup [.int w,.int h]),.sh (.int n)]=.ret (.ow ((Zj w h n).map λ(m:Nat)=>PV.int m)):=by
 have e3:=Ū (g:=gT 2 (ĥ (gN 1) (ĥ (gN 2) ž))) (mt:=cX (au (iw fG gj (mC (.int 0)) (Ā 1) (ă Č (Ā 0) (mC (.int 0))))) (au (iw fG gj (mC (.int 0)) (Ā 2) (ă Č (Ā 0) (mC (.int 1)))))) (me:=Ď (ğ Ĝ (ă ġ (Ā 2) (ă Č (Ā 0) (mC (.int 0)))) (Ā 1))) (λp:Int×Int=>PV.tup [.int p.1,.int p.2]) (λp:Int×Int=>PV.int (p.2*(w:Int)+p.1)) (inB w h) (λρ=>∃a b,ρ=[.sh (.tup [.int w,.int h]),a,b]) (Yo ((n % w:Nat):Int) ((n / w:Nat):Int)) [.sh (.tup [.int w,.int h]),.no,.no] [] ⟨_,_,rfl⟩ (by simp[Yo]) (by
  rintro p _ ρ ⟨a,b,rfl⟩
  refine⟨[.sh (.tup [.int w,.int h]),.sh (.int p.1),.sh (.int p.2)],_,by simp,Z2T w h p.1 p.2 .no,λ_=>⟨_,_,rfl⟩,λhq=>⟨[.sh (.tup [.int w,.int h]),.sh (.int p.1),.sh (.int p.2)],?_,_,_,rfl⟩⟩
  obtain⟨⟨h1,h2⟩,h3,h4⟩:=of_decide_eq_true hq
  have mo:ŀ p.2 (w:Int)=true:=Z0v (by omega) (by omega) (by omega) (by omega)
  simp[mo,Zo])
 have e4:((Yo ((n % w:Nat):Int) ((n / w:Nat):Int)).filter (inB w h)).map (λp:Int×Int=>PV.int (p.2*(w:Int)+p.1))=(Zj w h n).map λ(m:Nat)=>PV.int m:=by
  unfold Zj
  rw[List.map_map]
  refine List.map_congr_left λp hp=>?_
  obtain⟨_,hp⟩:=List.mem_filter.mp hp
  obtain⟨⟨h1,h2⟩,h3,h4⟩:=of_decide_eq_true hp
  have h6:0<=p.2*(w:Int):=Int.mul_nonneg h3 (by omega)
  show PV.int _=PV.int _
  congr 1
  show p.2*(w:Int)+p.1=(((p.2*(w:Int)+p.1).toNat:Nat):Int)
  omega
 rw[List.nil_append,e4] at e3
 have h0:¬(w:Int)=0:=by omega
 have e1:Int.fmod (n:Int) (w:Int)=((n % w:Nat):Int):=by
  rw[Int.fmod_eq_emod_of_nonneg _ (by omega)];simp
 have e2:Int.fdiv (n:Int) (w:Int)=((n / w:Nat):Int):=by
  rw[Int.fdiv_eq_ediv_of_nonneg _ (by omega)];simp
 have e5:eO (n:Int) (w:Int)=true:=qQ (by omega) (Nat.le_trans (ig (n:=200) (by omega) (by omega)) (by decide))
 have h1:¬w=0:=by omega
 generalize (Zj w h n).map (λ(m:Nat)=>PV.int m)=BB at *
 generalize ((n % w:Nat):Int)=x at *
 generalize ((n / w:Nat):Int)=y at *
 have e6:(Yo x y).map (λp:Int×Int=>PV.tup [.int p.1,.int p.2])=[.tup [.int x,.int y],.tup [.int (x-1),.int y],.tup [.int (x+1),.int y],.tup [.int x,.int (y-1)],.tup [.int x,.int (y+1)]]:=rfl
 rw[e6] at e3
 simp[Ba,Ht,List.replicate,dg,ũ,h0,h1,e1,e2,e5,e3,Zo,Zt]
def Z2U{L:List Int}{m:Int}(hm:m∈L)(hl:∀y∈L,m<=y):lF [.lst (L.map .int)]=some (.int m):=by
 cases L with
 |nil=>simp at hm
 |cons x l=>
  obtain⟨h1,h2⟩:=foldl_min l x
  rw[tU,dY]
  show some (PV.int (l.foldl min x))=_
  have a:=hl _ h1
  have b:=h2 m hm
  rw[show l.foldl min x=m by omega]
theorem Z0Q:∀l:List Int,Ť (l.map PV.int)=true
 | []=>rfl
 |x::l=>by rw[List.map_cons,Ť,Z0Q l];simp[Ř]
theorem Z0D:∀l:List Int,bJ (l.map PV.int)=0
 | []=>rfl
 |x::l=>by rw[List.map_cons,bJ,Z0D l];simp[dep]
def Z0R(l:List Int):ł (.lst (l.map PV.int)) (.lst [])=some (.bl l.isEmpty):=by
 have h1:=Z0Q l
 have h2:=Z0D l
 unfold ł
 rw[if_pos (by simp[lY,Ř,Ť,dep,bJ,h1,h2])]
 cases l with
 |nil=>show some (PV.bl (eqB (.lst []) (.lst [])))=_;rw[eqB.eq_def];rfl
 |cons n ms=>
  show some (PV.bl (eqB (.lst (.int n::ms.map PV.int)) (.lst [])))=_
  rw[eqB.eq_def]
  rfl
def Z2y{w h goal n:Nat}{B:Nat}{f:Nat->Option Int}(hn:n≠goal):(Zk f (Zj w h n)=[]/\Z3 w h goal B f n=none)\/∃m,m∈(Zk f (Zj w h n)).map (λm=>(f m).getD 0)/\(∀y∈(Zk f (Zj w h n)).map (λm=>(f m).getD 0),m<=y)/\Z3 w h goal B f n=some (ZK B n+m):=by
 unfold Z3 ZE
 rw[if_neg hn]
 cases hb:Zu w h f n with
 |none=>
  left
  refine⟨?_,rfl⟩
  have hl:=Z1w.mp hb
  apply List.eq_nil_iff_forall_not_mem.mpr
  intro m hm
  obtain⟨h1,h2⟩:=List.mem_filter.mp hm
  have:m∈Zk f (mZ w h n):=List.mem_filter.mpr ⟨ZL.mp h1,h2⟩
  rw[hl] at this
  simp at this
 |some q=>
  right
  obtain⟨h1,c,h2⟩:=Z2w hb
  refine⟨c,List.mem_map.mpr ⟨q,List.mem_filter.mpr ⟨ZL.mpr h1,by rw[h2];rfl⟩,by rw[h2];rfl⟩,λy hy=>?_,by simp[h2]⟩
  obtain⟨m,hm,rfl⟩:=List.mem_map.mp hy
  obtain⟨h3,h4⟩:=List.mem_filter.mp hm
  obtain⟨d,hd⟩:=Option.isSome_iff_exists.mp h4
  obtain⟨q',c',k1,k2,k3⟩:=Z1y (ZL.mp h3) hd
  rw[hb] at k1
  cases k1
  rw[h2] at k2
  cases k2
  rw[hd]
  exact k3
def Z24{w h:Nat}(hw:0<w)(hw2:w<=1000)(hh:h<=1000)(B n goal:Nat)(f:Nat->Option Int):eX [.sh (.tup [.int w,.int h]),.sh (.int B),.sh (.lst (Z2 (w*h) f)),.sh (.int n),.sh (.int goal)]=.ret (.sh (oV (Z3 w h goal B f n))):=by
 have sk:=Z0c B n
 have e1:=Z2x hw hw2 hh n
 have e2:=Ū (g:=gN 1) (mt:=au (ă bV (ă Č (Ā 0) (Ā 1)) (mC .non))) (me:=ă Č (Ā 0) (Ā 1)) (λ(m:Nat)=>PV.int m) (λm=>PV.int ((f m).getD 0)) (λm=>(f m).isSome) (λρ=>∃a,ρ=[.sh (.lst (Z2 (w*h) f)),a]) (Zj w h n) [.sh (.lst (Z2 (w*h) f)),.no] [] ⟨_,rfl⟩ (by have:=Z23 w h n;simp;omega) (by
  rintro m hm ρ ⟨a,rfl⟩
  have rg:=ZD (f:=f) (ZT (ZL.mp hm))
  generalize Z2 (w*h) f=R at *
  refine⟨[.sh (.lst R),.sh (.int m)],[.sh (.lst R),.sh (.int m)],by simp,?_,λ_=>⟨_,rfl⟩,λhs=>⟨[.sh (.lst R),.sh (.int m)],?_,_,rfl⟩⟩
  ·cases hc:f m with
   |none=>rw[hc] at rg;simp[rg,oV,lZ]
   |some c=>rw[hc] at rg;simp[rg,oV,lZ]
  ·obtain⟨c,hc⟩:=Option.isSome_iff_exists.mp hs
   rw[hc] at rg ⊢
   simp[rg,oV])
 have e3:((Zj w h n).filter λm=>(f m).isSome).map (λm=>PV.int ((f m).getD 0))=((Zk f (Zj w h n)).map λm=>(f m).getD 0).map PV.int:=by rw[List.map_map];rfl
 rw[List.nil_append,e3] at e2
 by_cases hg:n=goal
 ·subst hg
  have e:Z3 w h n B f n=some (ZK B n):=Z0z B f
  rw[e]
  unfold ZK
  generalize Z2 (w*h) f=R at *
  simp[eX,kI,List.replicate,sk,oV]
 ·have hg':¬(n:Int)=(goal:Int):=by omega
  rcases Z2y (w:=w) (h:=h) (B:=B) (f:=f) hg with⟨hl,hr⟩|⟨m,h1,h2,hr⟩
  ·rw[hr]
   rw[hl] at e2
   have e4:=Z0R []
   generalize Z2 (w*h) f=R at *
   generalize (Zj w h n).map (λ(m:Nat)=>PV.int m)=BB at *
   simp[eX,kI,List.replicate,dg,ũ,sk,hg',lZ,e1,e2,oV] at e4 ⊢
   simp[e4]
  ·rw[hr]
   have e5:=Z2U h1 h2
   have e4:=Z0R ((Zk f (Zj w h n)).map λm=>(f m).getD 0)
   have e6:((Zk f (Zj w h n)).map λm=>(f m).getD 0).isEmpty=false:=by
    cases hx:((Zk f (Zj w h n)).map λm=>(f m).getD 0) with
    |nil=>rw[hx] at h1;simp at h1
    |cons _ _=>rfl
   rw[e6] at e4
   unfold ZK
   generalize ((Zk f (Zj w h n)).map λm=>(f m).getD 0).map PV.int=LL at *
   generalize Z2 (w*h) f=R at *
   generalize (Zj w h n).map (λ(m:Nat)=>PV.int m)=BB at *
   simp[eX,kI,List.replicate,dg,ũ,sk,hg',lZ,e1,e2,e4,e5,oV,-tU]
def Z25{w h:Nat}(B n goal:Nat):eX [.sh (.tup [.int w,.int h]),.sh (.int B),.sh .non,.sh (.int n),.sh (.int goal)]=.ret (.sh (oV (Z3 w h goal B (λ_=>none) n))):=by
 have sk:=Z0c B n
 by_cases hg:n=goal
 ·subst hg
  have e:Z3 w h n B (λ_=>none) n=some (ZK B n):=Z0z B _
  rw[e]
  unfold ZK
  simp[eX,kI,List.replicate,sk,oV]
 ·have hg':¬(n:Int)=(goal:Int):=by omega
  have e:Z3 w h goal B (λ_=>none) n=none:=by
   unfold Z3 ZE Zu Zk
   rw[if_neg hg]
   simp[ZU]
  rw[e]
  simp[eX,kI,List.replicate,sk,hg',lZ,oV]
def Z1C(N:Nat)(f:Nat->Option Int):Ř (.lst (Z2 N f))=true/\dep (.lst (Z2 N f))<=1:=by
 have go:∀l:List Nat,Ť (l.map λn=>oV (f n))=true/\bJ (l.map λn=>oV (f n))=0:=by
  intro l
  induction l with
  |nil=>exact⟨rfl,rfl⟩
  |cons n l ih=>
   obtain⟨h1,h2⟩:=ih
   rw[List.map_cons,Ť,bJ,h1,h2]
   cases f n<;>simp[oV,Ř,dep]
 obtain⟨h1,h2⟩:=go (List.range N)
 unfold Z2
 rw[Ř,dep,h1,h2]
 exact⟨rfl,by omega⟩
def Z0e(N:Nat)(f:Nat->Option Int):(Z2 N f).length=N:=by simp[Z2]
def Z26(i:Int):Bb [.sh (.int i)]=.ret (.sh (.bl true)):=by
 have i2:jX [.int i,.ty "int"]=some (.bl true):=rfl
 have i3:jX [.int i,.ty "bool"]=some (.bl false):=rfl
 simp[Bb,Hv,List.replicate,i2,i3]
def Z2z{w h g:Nat}{Bs:List Nat}{k:Nat}(hk:k<Bs.length):ź (Z1 w h g (Bs.drop k))=Z3 w h g (Bs.getD k 0) (ź (Z1 w h g (Bs.drop (k+1)))):=by
 rw[List.drop_eq_getElem_cons hk]
 have:Bs.getD k 0=Bs[k]:=by simp[hk]
 rw[this]
 rfl
def pix{w h g:Nat}{Bs:List Nat}{t:Nat}(ht:t<Bs.length):Č (.lst ((Z1 w h g Bs).map (rV (w*h)))) (.int t)=some (.lst (Z2 (w*h) (ź (Z1 w h g (Bs.drop t))))):=by
 have:((Z1 w h g Bs).map (rV (w*h)))[t]?=some (.lst (Z2 (w*h) (ź (Z1 w h g (Bs.drop t))))):=by
  rw[List.getElem?_map,Z0A Bs ht];rfl
 simp[this]
def ZF(w h g:Nat)(Bs:List Nat)(t:Nat):PV:=if t+1<Bs.length then .lst (Z2 (w*h) (ź (Z1 w h g (Bs.drop (t+1))))) else .non
def bix{w h g:Nat}{Bs:List Nat}{t:Nat}(ht:t<Bs.length):Č (.lst ((Z1 w h g Bs).map (rV (w*h)) ++ [.non])) (.int ((t:Int)+1))=some (ZF w h g Bs t):=by
 have e:((Z1 w h g Bs).map (rV (w*h)) ++ [.non])[t+1]?=some (ZF w h g Bs t):=by
  unfold ZF
  split
  ·rename_i h1
   rw[List.getElem?_append_left (by simp[Zl];exact h1),List.getElem?_map,Z0A Bs h1]
   rfl
  ·rw[List.getElem?_append_right (by simp[Zl];omega)]
   have:t+1-((Z1 w h g Bs).map (rV (w*h))).length=0:=by simp[Zl];omega
   rw[this]
   rfl
 have e2:(t:Int)+1=((t+1:Nat):Int):=by omega
 rw[e2]
 generalize t+1=k at *
 simp[e]
def Z2V{w h:Nat}(hw:0<w)(hw2:w<=1000)(hh:h<=1000){Bs:List Nat}(n g:Nat){t:Nat}(ht:t<Bs.length):eX [.sh (.tup [.int w,.int h]),.sh (.int (Bs.getD t 0)),.sh (ZF w h g Bs t),.sh (.int n),.sh (.int g)]=.ret (.sh (oV (ź (Z1 w h g (Bs.drop t)) n))):=by
 rw[Z2z ht]
 unfold ZF
 split
 ·exact Z24 hw hw2 hh _ n g _
 ·rename_i h1
  have:Bs.drop (t+1)=[]:=List.drop_eq_nil_of_le (by omega)
  rw[this]
  exact Z25 _ n g
def Z35{Bs:List Nat}{t:Nat}(ht:t<Bs.length):Č (.lst (Bs.map λ(B:Nat)=>PV.int B)) (.int t)=some (.int (Bs.getD t 0)):=by
 have:(Bs.map λ(B:Nat)=>PV.int B)[t]?=some (.int (Bs.getD t 0)):=by simp[ht]
 simp[this]
def Zbt{w h g:Nat}(hw2:w<=1000)(hh:h<=1000){Bs:List Nat}{t:Nat}(ht:t<Bs.length)(s2 s3 s5 s6 s7:P.Slot):∃tH,uD [.sh (.lst ((Z1 w h g Bs).map (rV (w*h)))),.sh (.tup [.int w,.int h]),s2,s3,.sh (.int t),s5,s6,s7]=.ok .nx [.sh (.lst ((Z1 w h g Bs).map (rV (w*h)))),.sh (.tup [.int w,.int h]),s2,s3,.sh (.int t),tH,s6,s7]:=by
 have px:=pix (w:=w) (h:=h) (g:=g) ht
 have rl:=Z0e (w*h) (ź (Z1 w h g (Bs.drop t)))
 have mo:ŀ (w:Int) (h:Int)=true:=ſ (by omega) (by omega)
 have it:jX [.lst (Z2 (w*h) (ź (Z1 w h g (Bs.drop t)))),.ty "list"]=some (.bl true):=rfl
 have em:((Z2 (w*h) (ź (Z1 w h g (Bs.drop t)))).length:Int)=(w:Int)*(h:Int):=by rw[rl];exact Int.natCast_mul w h
 generalize (Z1 w h g Bs).map (rV (w*h))=PP at *
 obtain⟨ρ',e,tH,rfl⟩:=bA (g:=gN 5) (mb:=oW) (λn:Nat=>oV (ź (Z1 w h g (Bs.drop t)) n)) (λ(b:Unit) _=>b) (λ_ ρ=>∃tH,ρ=[.sh (.lst PP),.sh (.tup [.int w,.int h]),s2,s3,.sh (.int t),tH,s6,s7]) (List.range (w*h)) (by
  rintro n _ b ρ ⟨tH,rfl⟩
  refine⟨[.sh (.lst PP),.sh (.tup [.int w,.int h]),s2,s3,.sh (.int t),.sh (oV (ź (Z1 w h g (Bs.drop t)) n)),s6,s7],[.sh (.lst PP),.sh (.tup [.int w,.int h]),s2,s3,.sh (.int t),.sh (oV (ź (Z1 w h g (Bs.drop t)) n)),s6,s7],rfl,?_,_,rfl⟩
  cases ź (Z1 w h g (Bs.drop t)) n with
  |none=>simp[oW,oV,lZ]
  |some c=>simp[oW,oV,lZ,Z26]) () [.sh (.lst PP),.sh (.tup [.int w,.int h]),s2,s3,.sh (.int t),s5,s6,s7] ⟨_,rfl⟩
 refine⟨tH,?_⟩
 have e':forL (gN 5) oW (Z2 (w*h) (ź (Z1 w h g (Bs.drop t)))) [.sh (.lst PP),.sh (.tup [.int w,.int h]),s2,s3,.sh (.int t),s5,s6,s7]=.ok .nx [.sh (.lst PP),.sh (.tup [.int w,.int h]),s2,s3,.sh (.int t),tH,s6,s7]:=e
 clear e
 generalize Z2 (w*h) (ź (Z1 w h g (Bs.drop t)))=R at *
 simp[uD,px,it,em,mo,e',Zo,Zt]
def Zbu{w h g:Nat}(hw:0<w)(hw2:w<=60)(hh:h<=1000)(k_:w*h<=1000){Bs:List Nat}(hB:Bs.length<=1000){t:Nat}(ht:t<Bs.length)(s5 s6 s7:P.Slot):∃CP Ja,uz [.sh (.lst ((Z1 w h g Bs).map (rV (w*h)))),.sh (.tup [.int w,.int h]),.bw (Bs.map λ(B:Nat)=>PV.int B),.sh (.int g),.sh (.int t),s5,s6,s7]=.ok .nx [.sh (.lst ((Z1 w h g Bs).map (rV (w*h)))),.sh (.tup [.int w,.int h]),.bw (Bs.map λ(B:Nat)=>PV.int B),.sh (.int g),.sh (.int t),s5,CP,Ja]:=by
 have px:=pix (w:=w) (h:=h) (g:=g) ht
 have bx:=bix (w:=w) (h:=h) (g:=g) ht
 have bg:=Z35 ht
 have rl:=Z0e (w*h) (ź (Z1 w h g (Bs.drop t)))
 have rr:=ZP (n:=w*h) k_
 obtain⟨r1,r2⟩:=Z1C (w*h) (ź (Z1 w h g (Bs.drop t)))
 have ne:=Ck r1 (by omega)
 have pl:Ĝ (.lst ((Z1 w h g Bs).map (rV (w*h)))) (.lst [.non])=some (.ow ((Z1 w h g Bs).map (rV (w*h)) ++ [.non])):=add_l (by simp[Zl];omega)
 have c1:=ņ (g:=gN 5) (mt:=Ł) (me:=Ď (đ eX (Ă 0 (Ĉ (ă Č (Ā 3) (Ā 4)) (Ă 1 (Ă 5 (Ă 2 Ċ))))))) (λ(k:Nat)=>PV.int k) (λn:Nat=>oV (ź (Z1 w h g (Bs.drop t)) n)) (λρ=>∃a,ρ=[.sh (.tup [.int w,.int h]),.sh (ZF w h g Bs t),.sh (.int g),.bw (Bs.map λ(B:Nat)=>PV.int B),.sh (.int t),a]) (List.range (w*h)) [.sh (.tup [.int w,.int h]),.sh (ZF w h g Bs t),.sh (.int g),.bw (Bs.map λ(B:Nat)=>PV.int B),.sh (.int t),.no] [] ⟨_,rfl⟩ (by simp;omega) (by
  rintro n _ ρ ⟨a,rfl⟩
  have du:=Z2V hw (by omega) hh n g ht
  generalize ZF w h g Bs t=BH at *
  generalize (Bs.map λ(B:Nat)=>PV.int B)=SB at *
  generalize oV (ź (Z1 w h g (Bs.drop t)) n)=OO at *
  generalize Bs.getD t 0=Bt at *
  refine⟨[.sh (.tup [.int w,.int h]),.sh BH,.sh (.int g),.bw SB,.sh (.int t),.sh (.int n)],[.sh (.tup [.int w,.int h]),.sh BH,.sh (.int g),.bw SB,.sh (.int t),.sh (.int n)],[.sh (.tup [.int w,.int h]),.sh BH,.sh (.int g),.bw SB,.sh (.int t),.sh (.int n)],by simp,by simp,?_,_,rfl⟩
  simp[bg,du])
 rw[List.nil_append] at c1
 have c2:Ĺ (gN 5) Ł (Ď (đ eX (Ă 0 (Ĉ (ă Č (Ā 3) (Ā 4)) (Ă 1 (Ă 5 (Ă 2 Ċ))))))) ((List.range (w*h)).map λ(k:Nat)=>PV.int k) [.sh (.tup [.int w,.int h]),.sh (ZF w h g Bs t),.sh (.int g),.bw (Bs.map λ(B:Nat)=>PV.int B),.sh (.int t),.no] []=some (Z2 (w*h) (ź (Z1 w h g (Bs.drop t)))):=c1
 clear c1
 rw[<-rl] at rr
 refine⟨.sh (ZF w h g Bs t),.ow (Z2 (w*h) (ź (Z1 w h g (Bs.drop t)))),?_⟩
 rw[rl] at rr
 have em:((Z2 (w*h) (ź (Z1 w h g (Bs.drop t)))).length:Int)=((w*h:Nat):Int):=by rw[rl]
 generalize ((w*h:Nat):Int)=NN at *
 generalize ZF w h g Bs t=BH at *
 generalize (Bs.map λ(B:Nat)=>PV.int B)=SB at *
 generalize Z2 (w*h) (ź (Z1 w h g (Bs.drop t)))=R at *
 generalize (Z1 w h g Bs).map (rV (w*h))=PP at *
 generalize (List.range (w*h)).map (λ(k:Nat)=>PV.int k)=KK at *
 simp[uz,bx,pl,dg,ũ,px,em,rr,c2,ne]
def Z1D{w h g:Nat}(hw:0<w)(hw2:w<=60)(hh:h<=1000)(k_:w*h<=1000){Bs:List Nat}(hB:Bs.length<=1000):Bc [.sh (.lst ((Z1 w h g Bs).map (rV (w*h)))),.sh (.tup [.int w,.int h]),.bw (Bs.map λ(B:Nat)=>PV.int B),.sh (.int g)]=.ret (.sh (.bl true)):=by
 obtain⟨ρ1,e1,a4,a5,a6,a7,rfl⟩:=bA (g:=gN 4) (mb:=uD) (λt:Nat=>PV.int t) (λ(b:Unit) _=>b) (λ_ ρ=>∃a4 a5 a6 a7,ρ=[.sh (.lst ((Z1 w h g Bs).map (rV (w*h)))),.sh (.tup [.int w,.int h]),.bw (Bs.map λ(B:Nat)=>PV.int B),.sh (.int g),a4,a5,a6,a7]) (List.range Bs.length) (by
  rintro t ht b ρ ⟨a4,a5,a6,a7,rfl⟩
  obtain⟨tH,e⟩:=Zbt (w:=w) (h:=h) (g:=g) (by omega) hh (List.mem_range.mp ht) (.bw (Bs.map λ(B:Nat)=>PV.int B)) (.sh (.int g)) a5 a6 a7
  exact⟨_,_,rfl,e,_,_,_,_,rfl⟩) () [.sh (.lst ((Z1 w h g Bs).map (rV (w*h)))),.sh (.tup [.int w,.int h]),.bw (Bs.map λ(B:Nat)=>PV.int B),.sh (.int g),.no,.no,.no,.no] ⟨_,_,_,_,rfl⟩
 obtain⟨ρ2,e2,b4,b5,b6,b7,rfl⟩:=bA (g:=gN 4) (mb:=uz) (λt:Nat=>PV.int t) (λ(b:Unit) _=>b) (λ_ ρ=>∃a4 a5 a6 a7,ρ=[.sh (.lst ((Z1 w h g Bs).map (rV (w*h)))),.sh (.tup [.int w,.int h]),.bw (Bs.map λ(B:Nat)=>PV.int B),.sh (.int g),a4,a5,a6,a7]) (List.range Bs.length) (by
  rintro t ht b ρ ⟨a4,a5,a6,a7,rfl⟩
  obtain⟨CP,Ja,e⟩:=Zbu (w:=w) (h:=h) (g:=g) hw hw2 hh k_ hB (List.mem_range.mp ht) a5 a6 a7
  exact⟨_,_,rfl,e,_,_,_,_,rfl⟩) () [.sh (.lst ((Z1 w h g Bs).map (rV (w*h)))),.sh (.tup [.int w,.int h]),.bw (Bs.map λ(B:Nat)=>PV.int B),.sh (.int g),a4,a5,a6,a7] ⟨_,_,_,_,rfl⟩
 have rr:=ZP (n:=Bs.length) hB
 have it:jX [.lst ((Z1 w h g Bs).map (rV (w*h))),.ty "list"]=some (.bl true):=rfl
 have l1:(((Z1 w h g Bs).map (rV (w*h))).length:Int)=(Bs.length:Int):=by simp[Zl]
 have l2:((Bs.map λ(B:Nat)=>PV.int B).length:Int)=(Bs.length:Int):=by simp
 generalize (Z1 w h g Bs).map (rV (w*h))=PP at *
 generalize (Bs.map λ(B:Nat)=>PV.int B)=SB at *
 generalize (Bs.length:Int)=BL at *
 have rr':aX [.int BL]=some ((List.range Bs.length).map λ(t:Nat)=>PV.int t):=rr
 generalize (List.range Bs.length).map (λ(t:Nat)=>PV.int t)=TT at *
 simp[Bc,Hw,List.replicate,it,l1,l2,rr',e1,e2]
theorem Z0S(N:Nat):∀l:List (Nat->Option Int),Ť (l.map (rV N))=true/\bJ (l.map (rV N))<=1
 | []=>⟨rfl,by simp[bJ]⟩
 |f::l=>by
  obtain⟨h1,h2⟩:=Z0S N l
  obtain⟨h3,h4⟩:=Z1C N f
  rw[List.map_cons,Ť,bJ,h1]
  unfold rV at *
  rw[h3]
  exact⟨rfl,by omega⟩
theorem Z1E(w:Nat):∀ms:List Nat,Ť (ms.map λn=>tp (sn w n))=true/\bJ (ms.map λn=>tp (sn w n))<=1
 | []=>⟨rfl,by simp[bJ]⟩
 |n::ms=>by
  obtain⟨h1,h2⟩:=Z1E w ms
  rw[List.map_cons,Ť,bJ,h1]
  have h3:Ř (tp (sn w n))=true:=by simp[tp,Ř,Ť]
  have h4:dep (tp (sn w n))<=1:=by simp[tp,dep,bJ]
  rw[h3]
  exact⟨rfl,by omega⟩
def Z0T{p:PV}{ps:List PV}(h1:Ť (p::ps)=true)(h2:bJ (p::ps)<=10):ł (.tup (p::ps)) (.tup [])=some (.bl false):=by
 unfold ł
 rw[if_pos (by simp only[lY,Ř,dep,Ť,bJ] at *;simp[h1];try omega)]
 show some (PV.bl (eqB (.tup (p::ps)) (.tup [])))=_
 rw[eqB.eq_def]
 rfl
def Z2e{ps:List PV}{v:PV}:Č (.tup (ps ++ [v])) (.int (-1))=some v:=by
 show lA _ _=_
 unfold lA CG
 simp
 rw[if_pos (by omega)]
 have e:(-1+((ps.length:Int)+1)).toNat=ps.length:=by omega
 simp[e]
def Z27:ł (.str "none") (.str "none")=some (.bl true):=qU (by unfold Ř;decide +kernel) (by simp[dep])
def Z28:ł (.str "walk") (.str "walk")=some (.bl true):=qU (by unfold Ř;decide +kernel) (by simp[dep])
def Z29{w h g s:Nat}(hw:0<w)(hw2:w<=60)(hh:h<=1000)(k_:w*h<=1000){B:Nat}{Bs:List Nat}(hB:(B::Bs).length<=1000)(hs:s<w*h){ps:List PV}(hp:(Z3 w h g B (ź (Z1 w h g Bs)) s=none/\ps=[.str "none"])\/(∃(c:Int) (ms:List Nat),Z3 w h g B (ź (Z1 w h g Bs)) s=some c/\ps=[.str "walk",.int c,.lst (ms.map λ(m:Nat)=>tp (sn w m))])) :
 lK [.sh (.tup (ps ++ [.lst (.lst (Z2 (w*h) (Z3 w h g B (ź (Z1 w h g Bs))))::(Z1 w h g Bs).map (rV (w*h)))])),.sh (.tup [.int w,.int h]),.bw ((B::Bs).map λ(B:Nat)=>PV.int B),.sh (.int s),.sh (.int g)]=.ret (.sh (.bl true)):=by
 have lp:=Z1D (g:=g) hw hw2 hh k_ hB
 have eP:(Z1 w h g (B::Bs)).map (rV (w*h))=.lst (Z2 (w*h) (Z3 w h g B (ź (Z1 w h g Bs))))::(Z1 w h g Bs).map (rV (w*h)):=rfl
 have rg:=ZD (f:=Z3 w h g B (ź (Z1 w h g Bs))) hs
 have x0:Č (.lst (.lst (Z2 (w*h) (Z3 w h g B (ź (Z1 w h g Bs))))::(Z1 w h g Bs).map (rV (w*h)))) (.int 0)=some (.lst (Z2 (w*h) (Z3 w h g B (ź (Z1 w h g Bs))))):=by simp
 obtain⟨k1,k2⟩:=Z0S (w*h) (Z1 w h g (B::Bs))
 rw[eP] at lp k1 k2
 generalize Z2 (w*h) (Z3 w h g B (ź (Z1 w h g Bs)))=R at *
 generalize hRS:PV.lst R::(Z1 w h g Bs).map (rV (w*h))=RS at *
 generalize ((B::Bs).map λ(B:Nat)=>PV.int B)=SB at *
 have it:∀l,jX [.tup l,.ty "tuple"]=some (.bl true):=λ_=>rfl
 have kN:Ř (.str "none")=true:=by unfold Ř;decide +kernel
 have kW:Ř (.str "walk")=true:=by unfold Ř;decide +kernel
 rcases hp with⟨hc,rfl⟩|⟨c,ms,hc,rfl⟩
 ·rw[hc] at rg
  have la:Č (.tup [.str "none",.lst RS]) (.int (-1))=some (.lst RS):=Z2e (ps:=[.str "none"])
  have z0:Č (.tup [.str "none",.lst RS]) (.int 0)=some (.str "none"):=rfl
  have eq:=Z0T (p:=.str "none") (ps:=[.lst RS]) (by simp[Ť,Ř,k1] at kN ⊢;exact kN) (by simp[bJ,dep];omega)
  simp[lK,yU,List.replicate,it,eq,la,lp,x0,rg,oV,lZ,Z27,z0,-Fz]
 ·rw[hc] at rg
  obtain⟨k3,k4⟩:=Z1E w ms
  generalize ms.map (λ(m:Nat)=>tp (sn w m))=MS at *
  have la:Č (.tup [.str "walk",.int c,.lst MS,.lst RS]) (.int (-1))=some (.lst RS):=Z2e (ps:=[.str "walk",.int c,.lst MS])
  have z0:Č (.tup [.str "walk",.int c,.lst MS,.lst RS]) (.int 0)=some (.str "walk"):=rfl
  have eq:=Z0T (p:=.str "walk") (ps:=[.int c,.lst MS,.lst RS]) (by simp[Ť,Ř,k1,k3] at kW ⊢;exact kW) (by simp[bJ,dep];omega)
  simp[lK,yU,List.replicate,it,eq,la,lp,x0,rg,oV,lZ,Z28,z0,-Fz]
def Z2A{w h:Nat}(hw:0<w)(hw2:w<=60)(hh:h<=1000)(k_:w*h<=1000){T:List Th}(hT:T.length<=1000)(D:List Dy)(hg:∀t∈T,Z9 t.1 t.2=true){os:List (Option P3)}(ho:∀o∈os,Jb o)(hl:os.length<=1000):Ĺ (gN 1) Ł (Ď (đ iM (Ă 0 (Ă 1 Ċ)))) (os.map i_) [.sh (Z0 w h T D),.no] []=some ((os.map (wM w h T)).map λ(B:Nat)=>PV.int B):=by
 have c1:=ņ (g:=gN 1) (mt:=Ł) (me:=Ď (đ iM (Ă 0 (Ă 1 Ċ)))) i_ (λo=>PV.int (wM w h T o:Nat)) (λρ=>∃a,ρ=[.sh (Z0 w h T D),a]) os [.sh (Z0 w h T D),.no] [] ⟨_,rfl⟩ (by simp;omega) (by
  rintro o hm ρ ⟨a,rfl⟩
  have ed:=Z0J hw hw2 hh k_ hT D hg (ho o hm)
  generalize Z0 w h T D=Yv at *
  generalize i_ o=ov at *
  exact⟨[.sh Yv,.sh ov],[.sh Yv,.sh ov],[.sh Yv,.sh ov],by simp,by simp,by simp[ed],_,rfl⟩)
 rw[List.nil_append] at c1
 rw[c1,List.map_map]
 rfl
def Z15:M Fl:=(Ĥ 1 (đ gB (Ĉ (Ď (đ Ő (Ă 0 (Ĉ (mC (.int 0)) Ċ)))) (Ĉ (mC (.int 9)) Ċ))))
def Z16:M Fl:=(Ĥ 2 (Ŀ [1] 1 (ň (Ď (yc (Ā 0) (mP (mC (.int 4))) (mP (mC (.int 7)))))) (gN 1) Ł (Ď (đ gC (Ă 1 (Ĉ (bQ iH (Ą (Ā 0) ė)) Ċ))))))
def Z17:M Fl:=(Ĥ 3 (đ jC (Ă 0 (Ĉ (mC (.int 7)) (Ĉ (Ď (ğ Ĝ (mC (.int 1)) (ă Ĩ (Ď (đ Ő (Ă 0 (Ĉ (mC (.int 1)) Ċ)))) (mC (.int 3))))) (Ĉ (mC (.int 5)) Ċ))))))
def Z2W:M Fl:=(ę (Ĥ 1 (Ņ (Ľ (Ą (Ď (ğ Ĝ (mC (.int 1)) (ă Ĩ (Ď (đ Ő (Ă 0 (Ĉ (mC (.int 0)) Ċ)))) (mC (.int 3))))) (Ą (mC (.int 2)) ė))))) (ę (Ĥ 2 (yc (Ā 2) vJ (mP (mC (.int 1))))) (Ĥ 3 (đ jC (Ă 0 (Ĉ (mC (.int 7)) (Ĉ (mC (.int 1)) (Ĉ (mC (.int 24)) Ċ))))))))
def Z0b:M Fl:=(cP (au (ă ł (ă Ĩ (ă Ŋ (Ď (đ Ő (Ă 0 (Ĉ (mC (.int 1)) Ċ)))) (mC (.int 9))) (mC (.int 16))) (mC (.int 5)))) Z2W fK)
def Z18:M Fl:=(Ĥ 4 (Ņ (aY "Yard" jD (Ĉ (ă Č (Ā 1) (mC (.int 0))) (Ĉ (ă Č (Ā 1) (mC (.int 1))) (Ĉ (Ď (Ŀ [] 2 (Ŕ 2) (gT 2 (ĥ (gN 0) (ĥ (gN 1) ž))) Ł (Ď (đ dz (Ă 0 (Ĉ (Ď (lX dw (Ą (Ā 1) ė))) Ċ)))))) (Ă 3 Ċ)))))))
def Z19:M Fl:=(Ĥ 5 (Ņ (ă Ĩ (ă Ŋ (Ď (đ Ő (Ă 0 (Ĉ (mC (.int 1)) Ċ)))) (mC (.int 3))) (bQ bK (Ą (Ā 3) ė)))))
def Z1a:M Fl:=(Ĥ 6 (Ņ (ă Ĩ (Ď (đ Ő (Ă 0 (Ĉ (mC (.int 2)) Ċ)))) (ă ġ (ă Č (Ā 1) (mC (.int 0))) (ă Č (Ā 1) (mC (.int 1)))))))
def Z1b:M Fl:=(Ĥ 7 (Ņ (ă Ĩ (Ď (đ Ő (Ă 0 (Ĉ (mC (.int 3)) Ċ)))) (ă ġ (ă Č (Ā 1) (mC (.int 0))) (ă Č (Ā 1) (mC (.int 1)))))))
def Z1c:M Fl:=(Ĥ 8 (Ŀ [4] 1 (ň (ă Č (ă Č (Ā 3) (Ā 5)) (mC (.int 2)))) (gN 1) Ł (Ď (đ iM (Ă 0 (Ă 1 Ċ))))))
def Z0E:M Fl:=(Ĥ 9 (aA (Ą (Ľ (Ą (ă Ĩ (Ā 6) (ă Č (Ā 1) (mC (.int 0)))) (Ą (ă Ŋ (Ā 6) (ă Č (Ā 1) (mC (.int 0)))) ė))) (Ą (Ľ (Ą (ă Ĩ (Ā 7) (ă Č (Ā 1) (mC (.int 0)))) (Ą (ă Ŋ (Ā 7) (ă Č (Ā 1) (mC (.int 0)))) ė))) ė))))
def Z1d:M yJ:=(um iQ (Ă 4 (Ă 5 (Ĉ (ă Č (Ā 9) (mC (.int 0))) (Ĉ (ă Č (Ā 9) (mC (.int 1))) Ċ)))))
def Z1e:M Bool:=(fW (dM (Ď (đ lK (Ă 10 (Ă 1 (Ă 8 (Ă 6 (Ă 7 Ċ)))))))))
def Z33:M Fl:=(ħ (Ņ (mC (.bl false))))
def Z1f:M Fl:=(ę (nH (Ď (đ iQ (Ă 4 (Ĉ (ă Ĩ (Ď (ğ Ĝ (Ā 5) (mC (.int 1)))) (bQ bK (Ą (Ā 3) ė))) (Ĉ (ă Č (Ā 9) (mC (.int 1))) (Ĉ (ă Č (Ā 9) (mC (.int 0))) Ċ))))))) (ħ (đ lK (Ĉ (Ď (đ iQ (Ă 4 (Ă 5 (Ĉ (ă Č (Ā 9) (mC (.int 0))) (Ĉ (ă Č (Ā 9) (mC (.int 1))) Ċ)))))) (Ă 1 (Ă 8 (Ă 6 (Ă 7 Ċ))))))))
def Z1F:M Fl:=Gv 10 Z1d Z1e Z33 Z1f
def t61:M Fl:=(ę Z18 (ę Z19 (ę Z1a (ę Z1b (ę Z1c (ę Z0E Z1F))))))
def Z36:zf=ę Z15 (ę Z16 (ę Z17 (ę Z0b t61))):=rfl
def Zr{a b:M Fl}{ρ ρ1:Ļ}(h:a ρ=.ok .nx ρ1):ę a b ρ=b ρ1:=by simp[h]
def Z2X{i:Nat}{mP:M yJ}{mB:M Bool}{m1 m2:M Fl}{ρ ρ1 ρ2:Ļ}{r:yJ}(h:mP ρ=.ok r ρ1)(hi:i < ρ1.length)(hb:mB (ρ1.set i (.sh (.tup (r.ps ++ [.lst (.lst r.qs::r.rows)]))))=.ok false ρ2)(h1:r.qs.length<16777216)(h2:r.rows.length+1<16777216):Gv i mP mB m1 m2 ρ=m2 (ρ1.set i .no):=by
 unfold Gv
 rw[h,Res.Ž,if_pos hi,hb]
 dsimp only
 rw[if_pos ⟨h1,h2⟩]
def fmN(c:Int){n:Nat}(hn:0<n):∃x:Nat,Ĩ (.int c) (.int (n:Int))=some (.int x)/\x<n:=by
 refine⟨(c % n).toNat,?_,?_⟩
 ·have:=Int.emod_nonneg c (show(n:Int)≠0 by omega)
  rw[h_,if_pos (by simp;omega),Int.fmod_eq_emod_of_nonneg _ (by omega),Int.toNat_of_nonneg this]
 ·have h1:=Int.emod_nonneg c (show(n:Int)≠0 by omega)
  have h2:=Int.emod_lt_of_pos c (show(0:Int)<n by omega)
  omega
def Z2f{w:Nat}(hw:0<w)(hw2:w<=1000)(n:Nat):Ĩ (.int n) (.int w)=some (.int (sn w n).1)/\Ŋ (.int n) (.int w)=some (.int (sn w n).2):=by
 have h0:¬(w:Int)=0:=by omega
 have e1:Int.fmod (n:Int) (w:Int)=((n % w:Nat):Int):=by
  rw[Int.fmod_eq_emod_of_nonneg _ (by omega)];simp
 have e2:Int.fdiv (n:Int) (w:Int)=((n / w:Nat):Int):=by
  rw[Int.fdiv_eq_ediv_of_nonneg _ (by omega)];simp
 have e3:eO (n:Int) (w:Int)=true:=qQ (by omega) (Nat.le_trans (ig (n:=200) (by omega) (by omega)) (by decide))
 have h1:¬w=0:=by omega
 refine⟨?_,?_⟩
 ·show _=some (PV.int ((n % w:Nat):Int))
  rw[<-e1];simp[h1]
 ·show _=some (PV.int ((n / w:Nat):Int))
  rw[<-e2];simp[h1,e3]
def Z2g(ns:List Int){w h:Nat}(hw:0<w)(hw2:w<=60)(hh0:0<h)(hh:h<=1000)(k_:w*h<=1000){T:List Th}(hT:T.length<=1000)(hg:∀t∈T,Z9 t.1 t.2=true){D:List Dy}{lg:Nat}(LR:lg<=1000)(hD:∀d∈D,Z08 lg d)(hD0:0<D.length)(hDl:D.length<=1000) :
 FR.of (t61 [.sh (.lst (ns.map .int)),.sh (.tup [.int w,.int h]),.ow (T.map Z6),.ow (D.map Ų),.no,.no,.no,.no,.no,.no,.no])=.ret (.sh (.bl true)):=by
 have k1:Ő [.sh (.lst (ns.map .int)),.sh (.int 1)]=.ret (.sh (.int (ns.getD 1 0))):=ZB ns 1
 have k2:Ő [.sh (.lst (ns.map .int)),.sh (.int 2)]=.ret (.sh (.int (ns.getD 2 0))):=ZB ns 2
 have k3:Ő [.sh (.lst (ns.map .int)),.sh (.int 3)]=.ret (.sh (.int (ns.getD 3 0))):=ZB ns 3
 generalize ns.getD 1 0=c1 at *
 generalize ns.getD 2 0=c2 at *
 generalize ns.getD 3 0=c3' at *
 generalize ns.map PV.int=NS at *
 have q1:=Z1z (T:=T) (by omega) hg .no .no
 have q2:=Z2r (w:Int) (h:Int) (T:=T) (D:=D) (by omega) (by omega) (s3:=.sh (.lst (T.map pU))) (s4:=.bw (D.map Ų)) (.inl rfl) (.inr rfl)
 have hY:PV.ins "Yard" ["width","height","things","days"] [.int w,.int h,.lst (T.map pU),.lst (D.map Ų)]=Z0 w h T D:=rfl
 have s5:Z18 [.sh (.lst NS),.sh (.tup [.int w,.int h]),.ow (T.map Z6),.ow (D.map Ų),.no,.no,.no,.no,.no,.no,.no]=.ok .nx [.sh (.lst NS),.sh (.tup [.int w,.int h]),.sh (.lst (T.map Z6)),.ow (D.map Ų),.sh (Z0 w h T D),.no,.no,.no,.no,.no,.no]:=by
  generalize Z0 w h T D=Yv at *
  generalize T.map Z6=TR at *
  generalize T.map pU=TV at *
  generalize D.map Ų=DV at *
  simp[Z18,dg,ũ,q1,aY,q2,hY,Zo,Zt]
 have hdl:((D.map Ų).length:Int)=(D.length:Int):=by simp
 obtain⟨i,hx,hi⟩:=fmN (c1 / 3) hD0
 have s6:Z19 [.sh (.lst NS),.sh (.tup [.int w,.int h]),.sh (.lst (T.map Z6)),.ow (D.map Ų),.sh (Z0 w h T D),.no,.no,.no,.no,.no,.no]=.ok .nx [.sh (.lst NS),.sh (.tup [.int w,.int h]),.sh (.lst (T.map Z6)),.ow (D.map Ų),.sh (Z0 w h T D),.sh (.int i),.no,.no,.no,.no,.no]:=by
  rw[<-hdl] at hx
  generalize Z0 w h T D=Yv at *
  generalize T.map Z6=TR at *
  generalize D.map Ų=DV at *
  simp[Z19,k1,hx,-h_,-Zx]
 have Zbv:0<w*h:=Nat.mul_pos hw hh0
 have mo:ŀ (w:Int) (h:Int)=true:=ſ (by omega) (by omega)
 have em:((w*h:Nat):Int)=(w:Int)*(h:Int):=Int.natCast_mul w h
 obtain⟨n1,hn1,l1⟩:=fmN c2 Zbv
 obtain⟨n2,hn2,l2⟩:=fmN c3' Zbv
 rw[em] at hn1 hn2
 have s7:Z1a [.sh (.lst NS),.sh (.tup [.int w,.int h]),.sh (.lst (T.map Z6)),.ow (D.map Ų),.sh (Z0 w h T D),.sh (.int i),.no,.no,.no,.no,.no]=.ok .nx [.sh (.lst NS),.sh (.tup [.int w,.int h]),.sh (.lst (T.map Z6)),.ow (D.map Ų),.sh (Z0 w h T D),.sh (.int i),.sh (.int n1),.no,.no,.no,.no]:=by
  generalize Z0 w h T D=Yv at *
  generalize T.map Z6=TR at *
  generalize D.map Ų=DV at *
  simp[Z1a,k2,mo,hn1,Zo,Zt,-h_,-Zx]
 have s8:Z1b [.sh (.lst NS),.sh (.tup [.int w,.int h]),.sh (.lst (T.map Z6)),.ow (D.map Ų),.sh (Z0 w h T D),.sh (.int i),.sh (.int n1),.no,.no,.no,.no]=.ok .nx [.sh (.lst NS),.sh (.tup [.int w,.int h]),.sh (.lst (T.map Z6)),.ow (D.map Ų),.sh (Z0 w h T D),.sh (.int i),.sh (.int n1),.sh (.int n2),.no,.no,.no]:=by
  generalize Z0 w h T D=Yv at *
  generalize T.map Z6=TR at *
  generalize D.map Ų=DV at *
  simp[Z1b,k3,mo,hn2,Zo,Zt,-h_,-Zx]
 have day:∀{j:Nat} (hj:j<D.length),D[j].2.2.length<=1000/\(∀o∈D[j].2.2,Jb o)/\∃B Bs,D[j].2.2.map (wM w h T)=B::Bs:=fun{j} hj=>by
  have hd:=hD D[j] (List.getElem_mem hj)
  have hd1:1<=D[j].2.2.length/\D[j].2.2.length<=lg:=hd.2.1
  refine⟨by omega,hd.2.2,?_⟩
  cases he:D[j].2.2.map (wM w h T) with
  |nil=>
   have:=congrArg List.length he
   simp at this
   rw[this] at hd1
   simp at hd1
  |cons B Bs=>exact⟨B,Bs,rfl⟩
 obtain⟨d1,d2,B,Bs,L_⟩:=day hi
 have hB1:(B::Bs).length<=1000:=by rw[<-L_,List.length_map];exact d1
 have hs:=Z2A hw hw2 hh k_ hT D hg d2 d1
 rw[L_] at hs
 have hx1:(D.map Ų)[i]?=some (.tup [.str D[i].1,.int D[i].2.1,.lst (D[i].2.2.map i_)]):=by simp[hi,Ų]
 have s9:Z1c [.sh (.lst NS),.sh (.tup [.int w,.int h]),.sh (.lst (T.map Z6)),.ow (D.map Ų),.sh (Z0 w h T D),.sh (.int i),.sh (.int n1),.sh (.int n2),.no,.no,.no]=.ok .nx [.sh (.lst NS),.sh (.tup [.int w,.int h]),.sh (.lst (T.map Z6)),.ow (D.map Ų),.sh (Z0 w h T D),.sh (.int i),.sh (.int n1),.sh (.int n2),.ow ((B::Bs).map λ(B:Nat)=>PV.int B),.no,.no]:=by
  generalize D[i].2.2.map i_=OV at *
  generalize Z0 w h T D=Yv at *
  generalize T.map Z6=TR at *
  generalize D.map Ų=DV at *
  generalize ((B::Bs).map λ(B:Nat)=>PV.int B)=SB at *
  simp[Z1c,hx1,dg,ũ,hs]
 obtain⟨m1,f1⟩:=Z2f hw (by omega) n1
 obtain⟨m2,f2⟩:=Z2f hw (by omega) n2
 have sO:Z0E [.sh (.lst NS),.sh (.tup [.int w,.int h]),.sh (.lst (T.map Z6)),.ow (D.map Ų),.sh (Z0 w h T D),.sh (.int i),.sh (.int n1),.sh (.int n2),.ow ((B::Bs).map λ(B:Nat)=>PV.int B),.no,.no]=.ok .nx [.sh (.lst NS),.sh (.tup [.int w,.int h]),.sh (.lst (T.map Z6)),.ow (D.map Ų),.sh (Z0 w h T D),.sh (.int i),.sh (.int n1),.sh (.int n2),.ow ((B::Bs).map λ(B:Nat)=>PV.int B),.ow [tp (sn w n1),tp (sn w n2)],.no]:=by
  unfold tp
  generalize Z0 w h T D=Yv at *
  generalize T.map Z6=TR at *
  generalize D.map Ų=DV at *
  generalize ((B::Bs).map λ(B:Nat)=>PV.int B)=SB at *
  simp[Z0E,m1,f1,m2,f2,Zo,Zt,-h_,-KJ]
 unfold t61
 rw[Zr s5,Zr s6,Zr s7,Zr s8,Zr s9,Zr sO]
 clear s5 s6 s7 s8 s9 sO hs hx1 q1 q2 k1 k2 k3
 obtain⟨ps,sh1,sh2⟩:=Z0P hw hw2 hh k_ hT hg l1 l2 hi d1 d2 L_
 have lt:=Z29 (g:=n2) hw hw2 hh k_ hB1 l1 sh2
 obtain⟨i',hi1,hi2⟩:=fmN ((i:Int)+1) hD0
 obtain⟨d1',d2',B',Bs',Zbw⟩:=day hi2
 obtain⟨ps',ZdH,_⟩:=Z0P hw hw2 hh k_ hT hg l2 l1 hi2 d1' d2' Zbw
 have rl:=Z0e (w*h) (Z3 w h n2 B (ź (Z1 w h n2 Bs)))
 have pl:((Z1 w h n2 Bs).map (rV (w*h))).length=Bs.length:=by simp[Zl]
 rw[<-hdl] at hi1
 have hB2:Bs.length+1<=1000:=by simpa using hB1
 clear hdl day L_ Zbw
 generalize Z2 (w*h) (Z3 w h n2 B (ź (Z1 w h n2 Bs)))=Q at *
 generalize (Z1 w h n2 Bs).map (rV (w*h))=RS at *
 generalize Z0 w h T D=Yv at *
 generalize T.map Z6=TR at *
 generalize D.map Ų=DV at *
 generalize tp (sn w n1)=P1 at *
 generalize tp (sn w n2)=P2 at *
 generalize ((B::Bs).map λ(B:Nat)=>PV.int B)=SB at *
 have p1:Z1d [.sh (.lst NS),.sh (.tup [.int w,.int h]),.sh (.lst TR),.ow DV,.sh Yv,.sh (.int i),.sh (.int n1),.sh (.int n2),.ow SB,.ow [P1,P2],.no]=.ok ⟨ps,Q,RS⟩ [.sh (.lst NS),.sh (.tup [.int w,.int h]),.sh (.lst TR),.ow DV,.sh Yv,.sh (.int i),.sh (.int n1),.sh (.int n2),.ow SB,.ow [P1,P2],.no]:=by
  simp[Z1d,um,sh1,Zo,Zt]
 have p2:Z1e [.sh (.lst NS),.sh (.tup [.int w,.int h]),.sh (.lst TR),.ow DV,.sh Yv,.sh (.int i),.sh (.int n1),.sh (.int n2),.ow SB,.ow [P1,P2],.sh (.tup (ps ++ [.lst (.lst Q::RS)]))]=.ok false [.sh (.lst NS),.sh (.tup [.int w,.int h]),.sh (.lst TR),.ow DV,.sh Yv,.sh (.int i),.sh (.int n1),.sh (.int n2),.ow SB,.ow [P1,P2],.sh (.tup (ps ++ [.lst (.lst Q::RS)]))]:=by
  simp[Z1e,lt]
 unfold Z1F
 rw[Z2X p1 (by simp) p2 (by show Q.length<16777216;omega) (by show RS.length+1<16777216;omega)]
 show FR.of (Z1f [.sh (.lst NS),.sh (.tup [.int w,.int h]),.sh (.lst TR),.ow DV,.sh Yv,.sh (.int i),.sh (.int n1),.sh (.int n2),.ow SB,.ow [P1,P2],.no])=_
 have bv:RV.val (.bn true ps Q RS)=.tup (ps ++ [.lst (.lst Q::RS)]):=rfl
 simp[Z1f,hi1,ZdH,sh1,bv,lt,Zo,Zt,-h_]
def Z2Y{l:PySem.W.OpenLaw}{w:World}{K:PySem.W.Frag}{mg:Str->Option Value}{fa:Addr}{a:HB}(T:Tx K mg a)(hfa:mg "law" =some (.ref fa)):∃fd:FuncData,(∀(s:Shared) (v:Value),BindsTo s fd ⟨[v],[]⟩ [("_law_script",v)])/\∀base:Heap,K.In base->base.Ns mainGlobals mg->∃cm,Ħ l.prog w K mg base Ů 11 fa fd ["_law_script"] (Ş ⟨K,cm⟩ 1 o_):=by
 have e:=hfa.symm.trans T.HW.m
 cases e
 exact⟨a.HN,λs v=>T.HW.bb s [v] rfl,λbase _ _=>⟨_,Yk T⟩⟩
def Z2a(ns:List Int)(hn:ns.length<=63):o_ [.sh (.lst (ns.map .int))]=.ret (.sh (.bl true)):=by
 have k0:Ő [.sh (.lst (ns.map .int)),.sh (.int 0)]=.ret (.sh (.int (ns.getD 0 0))):=ZB ns 0
 have k1:Ő [.sh (.lst (ns.map .int)),.sh (.int 1)]=.ret (.sh (.int (ns.getD 1 0))):=ZB ns 1
 obtain⟨c0,e0⟩:∃c,ns.getD 0 0=c:=⟨_,rfl⟩
 obtain⟨c1,e1⟩:∃c,ns.getD 1 0=c:=⟨_,rfl⟩
 rw[e0] at k0
 rw[e1] at k1
 obtain⟨w,h,hs,w1,w2,h1,h2,wh⟩:=Z1X c0
 obtain⟨ys,hy,hyl⟩:=slI ns (some 4) (some 7)
 obtain⟨T,hT,hTl,hTg⟩:=Z0B ⟨w1,w2⟩ ⟨h1,h2⟩ ys [] .no (by simp;omega)
 rw[List.nil_append] at hT
 obtain⟨m,hm⟩:∃m:Nat,1+c1 % 3=(m:Int):=⟨(1+c1 % 3).toNat,by omega⟩
 obtain⟨D,hD,hDl,hDg⟩:=Z0K ns (n:=m) (lg:=5) (by omega) (by omega) (by omega)
 have hD':jC [.sh (.lst (ns.map .int)),.sh (.int 7),.sh (.int m),.sh (.int 5)]=.ret (.ow (D.map Ų)):=hD
 have hd0:o_ [.sh (.lst (ns.map .int))]=FR.of (zf [.sh (.lst (ns.map .int)),.no,.no,.no,.no,.no,.no,.no,.no,.no,.no]):=by
  simp[o_,List.replicate]
 have s1:Z15 [.sh (.lst (ns.map .int)),.no,.no,.no,.no,.no,.no,.no,.no,.no,.no]=.ok .nx [.sh (.lst (ns.map .int)),.sh (.tup [.int w,.int h]),.no,.no,.no,.no,.no,.no,.no,.no,.no]:=by
  generalize ns.map PV.int=NS at *
  simp[Z15,k0,hs,-Zx]
 have s2:Z16 [.sh (.lst (ns.map .int)),.sh (.tup [.int w,.int h]),.no,.no,.no,.no,.no,.no,.no,.no,.no]=.ok .nx [.sh (.lst (ns.map .int)),.sh (.tup [.int w,.int h]),.ow (T.map Z6),.no,.no,.no,.no,.no,.no,.no,.no]:=by
  generalize ns.map PV.int=NS at *
  generalize ys.map PV.int=YS at *
  generalize T.map Z6=TR at *
  simp[Z16,dg,ũ,KC,hy,hT]
 have s3:Z17 [.sh (.lst (ns.map .int)),.sh (.tup [.int w,.int h]),.ow (T.map Z6),.no,.no,.no,.no,.no,.no,.no,.no]=.ok .nx [.sh (.lst (ns.map .int)),.sh (.tup [.int w,.int h]),.ow (T.map Z6),.ow (D.map Ų),.no,.no,.no,.no,.no,.no,.no]:=by
  generalize ns.map PV.int=NS at *
  generalize T.map Z6=TR at *
  generalize D.map Ų=DV at *
  simp[Z17,k1,hm,hD',-Zx]
 rw[hd0,Z36,Zr s1,Zr s2,Zr s3]
 clear s1 s2 s3 hd0
 by_cases h5:c1 / 9 % 16=5
 ·obtain⟨w',hw'⟩:∃w':Nat,1+c0 % 3=(w':Int):=⟨(1+c0 % 3).toNat,by omega⟩
  obtain⟨T',hT',Zd0,hTm⟩:=slR T
  obtain⟨D',hD2,Zd1,ZdI⟩:=Z0K ns (n:=1) (lg:=24) (by omega) (by omega) (by omega)
  have ZdJ:jC [.sh (.lst (ns.map .int)),.sh (.int 7),.sh (.int 1),.sh (.int 24)]=.ret (.ow (D'.map Ų)):=hD2
  have fin:=Z2g ns (w:=w') (h:=2) (by omega) (by omega) (by omega) (by omega) (by omega) (T:=T') (by omega) (λt ht=>hTg t (hTm t ht)) (by omega) ZdI (by omega) (by omega)
  have s4:Z0b [.sh (.lst (ns.map .int)),.sh (.tup [.int w,.int h]),.ow (T.map Z6),.ow (D.map Ų),.no,.no,.no,.no,.no,.no,.no]=.ok .nx [.sh (.lst (ns.map .int)),.sh (.tup [.int w',.int 2]),.ow (T'.map Z6),.ow (D'.map Ų),.no,.no,.no,.no,.no,.no,.no]:=by
   clear fin
   generalize ns.map PV.int=NS at *
   generalize T.map Z6=TR at *
   generalize T'.map Z6=TR' at *
   generalize D.map Ų=DV at *
   generalize D'.map Ų=DV' at *
   simp[Z0b,Z2W,k1,h5,k0,hw',KC,hT',ZdJ,-Zx]
  rw[Zr s4]
  exact fin
 ·have fin:=Z2g ns (w:=w) (h:=h) (by omega) (by omega) (by omega) (by omega) (by omega) (T:=T) (by omega) hTg (by omega) hDg (by omega) (by omega)
  have s4:Z0b [.sh (.lst (ns.map .int)),.sh (.tup [.int w,.int h]),.ow (T.map Z6),.ow (D.map Ų),.no,.no,.no,.no,.no,.no,.no]=.ok .nx [.sh (.lst (ns.map .int)),.sh (.tup [.int w,.int h]),.ow (T.map Z6),.ow (D.map Ų),.no,.no,.no,.no,.no,.no,.no]:=by
   clear fin
   generalize ns.map PV.int=NS at *
   generalize T.map Z6=TR at *
   generalize D.map Ų=DV at *
   simp[Z0b,k1,h5,-Zx]
  rw[Zr s4]
  exact fin
def Zy{l:PySem.W.OpenLaw}{q:Program}{loose:List Str}{XP:(Str->Option Value)->Heap->Prop}{YP:World->Heap->Prop}{d:DefRec}{K:Params->PySem.W.Frag}(hn:l.most=some 63)(hdf:d.params.defaults=[])
 (hY:∀(w:World) (h:Heap),YP w h->(K w.params).In h)
 (F:∀(w:World) (mg:Str→Option Value) (fa:Addr) (h:Heap),(K w.params).In h→h.Ns mainGlobals mg→mg d.name=some (.ref fa)→
   ∃fd:FuncData,(∀(s:Shared) (u:Value),BindsTo s fd ⟨[u],[]⟩ [("_law_script",u)])/\∀base:Heap,(K w.params).In base->base.Ns mainGlobals mg->∃cm,Ħ l.prog w (K w.params) mg base Ů 11 fa fd ["_law_script"] (Ş ⟨K w.params,cm⟩ 1 o_))
 (hnt:∀w:World,PySem.W.noTabs (K w.params)=true)(hrec:∀y,y∈lams->∃d,(PyProof.Rows.recsOf q).find? (λe=>e.name== y)=some d) :
 PySem.W.WalkO q loose XP YP l.row.toRowW d [] (λf vs=>PySem.call f vs):=
 P.Fp (k:=11) (x:= "_law_script") (CX:=Ů) (m:=o_) hn hdf ⟨rfl,by decide,by decide⟩ hY F Z2a (λ_ _ _ _ z=>z) (hnt:=λ_=>hnt) (hrec:=hrec)
end
end T
namespace PySem.W.Fast
def tw4603971765148203840:=0
def tw11273013681651679412:=0
def tw11002966856997812093:=0
def tw5442352208472533408:=0
def tw14860252558844428255:=0
def tw3196827114483111587:=0
def tw3624530829011583993:=0
def tw6746281529664159693:=0
def tw5261696666332314812:=0
def tw15883888975870371913:=0
def tw1393665740639873194:=0
def tw7197398778208960080:=0
def tw11898945645771835331:=0
def tw13279505732751259494:=0
def tw13287705068295972827:=0
def tw6497280739172876742:=0
def tw16177457665780098653:=0
def tw16640582983374138305:=0
def tw3255349794467938593:=0
def tw3346978356857998337:=0
def tw8785676476814839094:=0
def tw6236119848424636019:=0
def tw12405837915748458282:=0
def tw10437568646493036772:=0
def tw6948672455898088230:=0
def tw13421154683383607654:=0
def tw6381687051985682391:=0
def tw2388537717367934246:=0
def tw15203241808515064477:=0
def tw12224799838809289359:=0
def tw3422131175425744397:=0
def tw9651905474180286002:=0
def tw3104906578424085131:=0
def tw4499753857184837385:=0
def tw2666656691985956830:=0
def tw14284649687501208897:=0
def tw5658704207285985962:=0
def tw4585083767313607793:=0
def tw5509106612401688356:=0
def tw10099250658774280900:=0
def tw640440819373481524:=0
def tw4275259199658168651:=0
def tw7220810363138758049:=0
def tw6458346910974129483:=0
def tw4029203980020086594:=0
def tw8352152534690532096:=0
def tw7492986128526333920:=0
def tw7387871239988740912:=0
def tw4457253903292120760:=0
def tw12790380136093229493:=0
def tw5177271123060739967:=0
def tw7639563419890232551:=0
def tw5465747950029156266:=0
def tw2310540597553464682:=0
def tw18016979587636214134:=0
def tw14224591792897310268:=0
def tw4846168290029381665:=0
def tw1274526623147578473:=0
def tw4559679179603327648:=0
def tw2102727658065147600:=0
def tw15073208192531605715:=0
def tw7493962065779126259:=0
def tw13121296056468724628:=0
def tw10407573927597537195:=0
def tw14192019501522382831:=0
def tw4195692294485850147:=0
def tw1721657474543008286:=0
def tw4065986678990414902:=0
def tw12931014972227974953:=0
def tw1410656959926472868:=0
def tw7264538406574337343:=0
def tw1042644030839246256:=0
def tw3892477648937990581:=0
def tw9374846753701452227:=0
def tw6318671729398412238:=0
def tw3303570483144735448:=0
def tw7742786051196913830:=0
def tw6152847025608783659:=0
def tw10723930535858853930:=0
def tw9878565099909023102:=0
def tw2063439117214890957:=0
def tw10223557760184762528:=0
def tw1323598671559495684:=0
def tw6154918207403563807:=0
def tw16027712877557017013:=0
def tw11337596082790051238:=0
def tw3918902448203628310:=0
def tw14808111262657647433:=0
def tw4952604715002328825:=0
def tw335371042154657940:=0
def tw9766321209040256329:=0
def tw9200653169500010496:=0
def tw13215826655088615975:=0
def tw10357804122197394190:=0
def tw5970215825233455981:=0
def tw4969831791855275683:=0
def tw4006119874613652078:=0
def tw8825314193487531938:=0
def tw3429405358933475888:=0
def tw18245227117196628843:=0
def tw9155784495091195827:=0
def tw4195154000389626704:=0
def tw15107262232345761082:=0
def tw977754369860539704:=0
def tw10273317210819072848:=0
def tw3390713754254448832:=0
def tw13265195477121190488:=0
def tw14808625508803527583:=0
def tw16326619560696033090:=0
def tw11689547996902136967:=0
def tw14625466233893146309:=0
def tw11096808198913230092:=0
def tw8141865559189174608:=0
def tw7498677544535262675:=0
def tw12804088776047987069:=0
def tw13730113216184535808:=0
def tw7685878321659304123:=0
def tw5077762723377918637:=0
def tw8218901286429543617:=0
def tw13083682312369679131:=0
def tw12864361432001192975:=0
def tw12275818129908178954:=0
def tw4080842187078788467:=0
def tw9854678691807094460:=0
def tw14163732377456951152:=0
def tw641652938865466690:=0
def tw4318768627483528873:=0
def tw13125733533181032463:=0
def tw3550470376038131586:=0
def tw7780590017161877403:=0
def tw5205522432920283969:=0
def tw18072703969493185314:=0
def tw11036044673687682880:=0
def tw10392367494785035223:=0
def tw7921836159339850551:=0
def tw4800559229747983160:=0
def tw8122482991468913090:=0
def tw6904450484062755177:=0
def tw5091272554494121148:=0
def tw3436547558273887506:=0
def tw11948828767965078065:=0
def tw5379478292817180842:=0
def tw2589459827802386325:=0
def tw17966754720913213742:=0
def tw5128504892772308288:=0
def tw11882969184151852378:=0
def tw17078602084277958379:=0
def tw3398168377815289877:=0
def tw15457276558273920821:=0
def tw1809428127392166632:=0
def tw17340918136969708478:=0
def tw3322548427801635432:=0
def tw4612499967660879621:=0
def tw15315230812605271214:=0
def tw7472233779164471461:=0
def tw17101589884806791629:=0
def tw1785896442770704704:=0
def tw15048905944900266472:=0
def tw13092892183013292360:=0
def tw1045842909317410912:=0
def tw13682816151597560950:=0
def tw3644945411323606419:=0
def tw13935200816339074920:=0
def tw14186299541171866949:=0
def tw8110091683534818215:=0
def tw12908105764477175449:=0
def tw16113975680418535427:=0
def tw14661406027323604705:=0
def tw5659050734434902837:=0
def tw2099531544764772823:=0
def tw498921114658437081:=0
def tw12054803533377062133:=0
def tw5648746257071158169:=0
def tw1469831261013078385:=0
def tw17673519452197306437:=0
def tw1289286498949882368:=0
def tw11452573279466500825:=0
def tw4988551233296959620:=0
def tw10940204978328749279:=0
def tw3225712505928366316:=0
def tw15088339002466150113:=0
def tw8092079568115752977:=0
def tw8950901175578847023:=0
def tw4674710726756489782:=0
def tw14346106324913159559:=0
def tw15171881904756727376:=0
def tw763635547137647913:=0
def tw16412724143779847829:=0
def tw3600924968982642037:=0
def tw18370790540055776127:=0
def tw9239413441488250883:=0
def tw17095905681755035138:=0
def tw11714509073747980786:=0
def tw8587179707991880308:=0
def tw5720801142693971464:=0
def tw3046897621860246677:=0
def tw18418192771174301208:=0
def tw10120564299665511290:=0
def tw15183692872104064009:=0
def tw16677297315872456943:=0
def tw3686326148511696966:=0
def tw4247817602606457521:=0
def tw1932354600986057984:=0
def tw18256634457257030209:=0
def tw9041534607571618669:=0
def tw210734079396879766:=0
def tw8980142597066274494:=0
def tw16996972021160667265:=0
def tw17521669027562701850:=0
def tw16754350292368830194:=0
def tw602503978041447556:=0
def tw15850052016523871249:=0
def tw14037238940313444433:=0
def tw11009322973635110740:=0
def tw3252558103811913136:=0
def tw15499201631008922175:=0
def tw2115565705552121498:=0
def tw6721915665776639881:=0
def tw3014260554317577016:=0
def tw11407799859976455219:=0
def tw12991472867467732779:=0
def tw11666380029981848948:=0
def tw15150875049738670499:=0
def tw4175501964504529073:=0
def tw17220801147432260302:=0
def tw8503932854416448315:=0
def tw4198541171534472076:=0
def tw3869353607162622944:=0
def tw8255136148891911557:=0
def tw8610749710829733135:=0
def tw980449319958983927:=0
def tw16001248749443198425:=0
def tw10035485745446413805:=0
def tw17386694876837263131:=0
def tw15985356075862813031:=0
def tw2055594918486016425:=0
def tw5674907348799713006:=0
def tw1532796371719192679:=0
def tw17837053597713910330:=0
def tw5594114793581409968:=0
def tw10921224880973108898:=0
def tw8984706949735559302:=0
def tw7522689896577931888:=0
def tw5312672732658668182:=0
def tw1700223914574151535:=0
def tw5740637380394411284:=0
def tw9807855661643161158:=0
def tw8957169131903758124:=0
def tw13966111191940978321:=0
def tw7305672538292922126:=0
def tw11976523309776317505:=0
def tw1877201815984258789:=0
def tw6620585682674130301:=0
def tw10236592730994656854:=0
def tw17972283052328589384:=0
def tw13326221150837910425:=0
def tw10156389726740329965:=0
def tw7708185363697197407:=0
def tw18358785321986074008:=0
def tw15767517598355343924:=0
def tw15267510873554865252:=0
def tw10526113714918464507:=0
def tw13213683201647752367:=0
def tw10927273703841632623:=0
def tw7077628110494588540:=0
def tw17147175766406922551:=0
def tw6400511260575088383:=0
def tw1306699917524651523:=0
def tw10640446903072657472:=0
def tw11588577572887186259:=0
def tw4095328368981109248:=0
def tw2829254979643438235:=0
def tw4272498730296462051:=0
def tw4671714770710340242:=0
def tw9970186347247261183:=0
def tw17989460282702390859:=0
def tw15100943332520171569:=0
def tw2074867177441594671:=0
def tw16695550289984662382:=0
def tw2025362440418923083:=0
def tw1523623643669278065:=0
def tw17304856343035119761:=0
def tw12692543833214372875:=0
def tw3030631166917048730:=0
def tw11149086220439171977:=0
def tw7380262142446643694:=0
def tw221328872794336465:=0
def tw6858289210503291572:=0
def tw12931780607926135340:=0
def tw7556947599958673543:=0
def tw5370192738558781867:=0
def tw17391342612149604234:=0
def tw2858794526860958653:=0
def tw7304716640413052948:=0
def tw7356346162899427276:=0
def tw15828299151578480011:=0
def tw11904943570214773926:=0
def tw1874282057134390454:=0
def tw1001669929605793094:=0
def tw13862990429086915662:=0
def tw15907220033111853972:=0
def tw8325845087166275465:=0
def tw10121095551144059416:=0
def tw14242017322614256924:=0
def tw1706852567316664162:=0
def tw6565902518393378470:=0
def tw1702702171336043336:=0
def tw14836388151885848569:=0
def tw15577031977017633261:=0
def tw8785812561975973740:=0
def tw9709562202522502087:=0
def tw987048867716221649:=0
def tw10386124449410358076:=0
def tw12445812189024105896:=0
def tw1079381612831531605:=0
def tw1238514810112581052:=0
def tw7565840564942039001:=0
def tw13405620968059766441:=0
def tw7164460091434341825:=0
def tw4167483914335010230:=0
def tw15234288970041783214:=0
def tw14198532969793683981:=0
def tw5006116594763621323:=0
def tw12757163676462266963:=0
def tw9289210079262307912:=0
def tw12856142086677864559:=0
def tw4462959018278641071:=0
def tw5200688980672824530:=0
def tw12453717002938850098:=0
def tw13772722944722774853:=0
def tw7672126812109120680:=0
def tw13279222754739272578:=0
def tw4874473636736011928:=0
def tw60295026980191647:=0
def tw5727200718682741022:=0
def tw17742574441102689664:=0
def tw8945045303623977906:=0
def tw16228627193052651382:=0
def tw10783687562964813531:=0
def tw2226678206640480516:=0
def tw14646540290233040524:=0
def tw10627869214243289367:=0
def tw15364278900726854057:=0
def tw4199506302025037606:=0
def tw10111140666142622194:=0
def tw18047141201867698056:=0
def tw3631248858862074978:=0
def tw7374086481715623604:=0
def tw4589451453781890430:=0
def tw7009176892546585693:=0
def tw8917092489113502968:=0
def tw13317179861585393456:=0
def tw16906448468734251790:=0
def tw6890767183150830280:=0
def tw17535480970888837563:=0
def tw13700628413351362702:=0
def tw9893658904804292762:=0
def tw11184842249695762199:=0
def tw3002939504423774108:=0
def tw9958922379517659872:=0
def tw7350828067360761490:=0
def tw2902454063248326846:=0
def tw17136219241243578929:=0
def tw4508523034747661063:=0
def tw7800480211220015177:=0
def tw12451976281976341215:=0
def tw9544076851335363208:=0
def tw703329544337350704:=0
def tw12737030679879664957:=0
def tw10038757224206328879:=0
def tw11968881493440593960:=0
def tw966655752691499225:=0
def tw14110658822495887886:=0
def tw3581366237506450245:=0
def tw15591450253800205016:=0
def tw10929797866765601516:=0
def tw3917433955872745928:=0
def tw9717686848032479416:=0
def tw8497637163972690583:=0
def tw1353683007072205518:=0
def tw12944280064741694776:=0
def tw8752884003160497855:=0
def tw6297360806776915402:=0
def tw3515480561112795669:=0
def tw729669003578871029:=0
def tw7445754933250469684:=0
def tw9186516984731597396:=0
def tw7175273387841363552:=0
def tw12449361689201841338:=0
def tw9106086035440041517:=0
def tw16287753625506858337:=0
def tw12665957549672710842:=0
def tw11158755642703964314:=0
def tw17372030765784504020:=0
def tw6039498366446609702:=0
def tw6914296631987110506:=0
def tw6895214397979421167:=0
def tw18220401715517695087:=0
def tw10713734952806672194:=0
def tw5205899855851190496:=0
def tw2390274641949227849:=0
def tw9101994506740377337:=0
def tw10649839276482187686:=0
def tw2971141256744454047:=0
def tw7543281773571395450:=0
def tw12011687299862620828:=0
def tw2664295272314979636:=0
def tw5046093279165044868:=0
def tw6271582348657478370:=0
def tw11175466731119386828:=0
def tw5689018845975365422:=0
def tw7674083096700115603:=0
def tw11142163613582425398:=0
def tw9782914876788054012:=0
def tw1876195266459195311:=0
def tw3064038789164880758:=0
def tw16983217519585069281:=0
def tw3094703630046279111:=0
def tw9956526575932874837:=0
def tw11442879375883610596:=0
def tw3618638661799416181:=0
def tw14830052050435650997:=0
def tw10304395198986546059:=0
def tw17354493383672384127:=0
def tw16097962832552519687:=0
def tw8105051691436158164:=0
def tw6917588131041691975:=0
def tw18044975226422000474:=0
def tw6988385957086918428:=0
def tw250020270435860149:=0
def tw10398405563753768430:=0
def tw10287326842947890257:=0
def tw16592746049158831791:=0
def tw12962512424553264088:=0
def tw12028926797582573611:=0
def tw4905408670935589533:=0
def tw18128119357985001014:=0
def tw16507715164072843050:=0
def tw6048258281981236781:=0
def tw13112609333256982868:=0
def tw8212283403824286378:=0
def tw8788383969189011636:=0
def tw13486791190665003984:=0
def tw2597932590664786345:=0
def tw4067159529251067329:=0
def tw9716733614957871690:=0
def tw16853902105268372397:=0
def tw2277124394201896049:=0
def tw2376766468476139361:=0
def tw5010358788751032444:=0
def tw17082751326251101722:=0
def tw2001149909415485303:=0
def tw5136251955958335894:=0
def tw7953073453767174596:=0
def tw12576371987513362502:=0
def tw1218006202907143946:=0
def tw13732364521426537254:=0
def tw11528862240824151844:=0
def tw8328056940152869108:=0
def tw5266078964677704596:=0
def tw2108907114720200464:=0
def tw6193895187485716663:=0
def tw9783501948614082961:=0
def tw13031844445626122634:=0
def tw5713802114252057644:=0
def tw13227841610007969710:=0
def tw16332402361766863904:=0
def tw9232318809632308594:=0
def tw13032942136150829556:=0
def tw8914005523127035604:=0
def tw12303539446182637026:=0
def tw13129080403284103989:=0
def tw8508865529965708362:=0
def tw4829445971920589743:=0
def tw15521235766370488861:=0
def tw6445147848053319324:=0
def tw1628694145547135997:=0
def tw7398593024669962697:=0
def tw930869936664155322:=0
def tw2011478104022379381:=0
def tw4998905653669666095:=0
def tw619753141995564715:=0
def tw18229224424721679038:=0
def tw11196571144390713060:=0
def tw14050177781255778151:=0
def tw13809923690894325661:=0
def tw18148543176354073068:=0
def tw17119407461782228060:=0
def tw11601188783475651369:=0
def tw10995883958154136727:=0
def tw3461140488001391562:=0
def tw4521677995455408682:=0
def tw7780667717634953011:=0
def tw2788725220677501140:=0
def tw4339784346091887561:=0
def tw9345078263686649138:=0
def tw9795512749693408594:=0
def tw283658380260504764:=0
def tw2692779795610478510:=0
def tw5896216018299604319:=0
def tw12360829378806889452:=0
def tw7030953360809565558:=0
def tw17282623584296495709:=0
def tw7883934923556590569:=0
def tw3894166063237199500:=0
def tw4656130173316561397:=0
def tw10862992870409837832:=0
def tw7448210104385811265:=0
def tw16035205371041918037:=0
def tw14953412725328787229:=0
def tw7959646631196717691:=0
def tw1245273338974691512:=0
def tw3287245682177485079:=0
def tw4571369080820548477:=0
def tw9273883475983119391:=0
def tw3641619136942193741:=0
def tw7636586599346194599:=0
def tw8389272654806811633:=0
def tw9837068122026223046:=0
def tw15648062904116051546:=0
def tw10004764276712923209:=0
def tw9633231313821084433:=0
def tw473609373131606341:=0
def tw7444013322304986680:=0
def tw6046124931964950163:=0
def tw7740205674372766026:=0
def tw5922201008892449681:=0
def tw8692440121073048806:=0
def tw16949315045605294980:=0
def tw16203665410828610938:=0
def tw11201949095801642351:=0
def tw9079213626426643614:=0
def tw10937870359479948439:=0
def tw4337103981316554292:=0
def tw5405219068924035300:=0
def tw18194814226816336762:=0
def tw10173673465437929082:=0
def tw6610401262098729273:=0
end PySem.W.Fast
open PySem PySem.W PyProof.Rows
set_option maxRecDepth 100000 in
set_option maxHeartbeats 0 in
theorem PySem.Challenge.cw_shadowpost_k61_the_paper_of_a_walk_holds : PySem.Challenge.rw_shadowpost_k61_the_paper_of_a_walk.Holds := by
 w_on;o_law;k_head;(case hw=>w_witness2)
 k_fill
 refine T.Zy (l:=PySem.Challenge.rw_shadowpost_k61_the_paper_of_a_walk) rfl rfl (λw h Y=>by first|exact PySem.W.kIn_of Y|exact PySem.W.km_in_of Y) ?F ?hnt ?hrec
 case hnt=>intro w;kernel_rfl
 case hrec=>
  intro y hy
  have e:y=PySem.Str.ofString "best_step" := by simpa[L2.lams] using hy
  subst e
  exact⟨_,rfl⟩
 case F=>
  intro w mg fa h KX G hmg
  refine' T.Z2Y (a:=T.HB.mk) (T.Tx.mk (mg_of KX G ?_) (mg_of KX G ?_) (mg_of KX G ?_) (mg_of KX G ?_) (mg_of KX G ?_) (mg_of KX G ?_) (mg_of KX G ?_) (P.ī KX G (λ_ _ _ _ _ _ _ _=>rfl) ?_ ?_ ?_ ?_) (P.ī KX G (λ_ _ _ _ _ _ _ _=>rfl) ?_ ?_ ?_ ?_) (P.ī KX G (λ_ _ _ _ _ _ _ _=>rfl) ?_ ?_ ?_ ?_) (P.ī KX G (λ_ _ _ _ _ _ _=>rfl) ?_ ?_ ?_ ?_) (P.ī KX G (λ_ _ _ _ _ _ _ _ _ _=>rfl) ?_ ?_ ?_ ?_) (P.oG (λ_ _ _ _ _ _ _ _ _ _ _=>rfl) ?_ ?_ ?_ ?_) (P.ī KX G (λ_ _ _ _ _ _ _ _=>rfl) ?_ ?_ ?_ ?_) (P.ī KX G (λ_ _ _ _ _ _ _ _=>rfl) ?_ ?_ ?_ ?_) (P.ī KX G (λ_ _ _ _ _ _ _ _=>rfl) ?_ ?_ ?_ ?_) (P.ī KX G (λ_ _ _ _ _ _ _ _=>rfl) ?_ ?_ ?_ ?_) (P.ī KX G (λ_ _ _ _ _ _ _ _=>rfl) ?_ ?_ ?_ ?_) (P.ī KX G (λ_ _ _ _ _ _ _ _=>rfl) ?_ ?_ ?_ ?_) (P.ī KX G (λ_ _ _ _ _ _ _=>rfl) ?_ ?_ ?_ ?_) (P.ī KX G (λ_ _ _ _ _ _ _=>rfl) ?_ ?_ ?_ ?_) (P.ī KX G (λ_ _ _ _ _ _ _ _=>rfl) ?_ ?_ ?_ ?_) (P.ī KX G (λ_ _ _ _ _ _ _ _=>rfl) ?_ ?_ ?_ ?_) (P.ī KX G (λ_ _ _ _ _ _ _=>rfl) ?_ ?_ ?_ ?_) (P.ī KX G (λ_ _ _ _ _ _ _=>rfl) ?_ ?_ ?_ ?_) (P.ī KX G (λ_ _ _ _ _ _ _ _=>rfl) ?_ ?_ ?_ ?_) (P.ī KX G (λ_ _ _ _ _ _ _ _ _ _ _=>rfl) ?_ ?_ ?_ ?_) (P.ī KX G (λ_ _ _ _ _ _ _ _ _ _ _=>rfl) ?_ ?_ ?_ ?_) (P.oG (λ_ _ _ _ _ _ _=>rfl) ?_ ?_ ?_ ?_) (P.oG (λ_ _ _ _ _ _ _=>rfl) ?_ ?_ ?_ ?_) (P.oG (λ_ _ _ _ _ _ _=>rfl) ?_ ?_ ?_ ?_) (P.oG (λ_ _ _ _ _ _ _=>rfl) ?_ ?_ ?_ ?_) (P.oG (λ_ _ _ _ _ _ _=>rfl) ?_ ?_ ?_ ?_) (P.ī KX G (λ_ _ _ _ _ _ _ _=>rfl) ?_ ?_ ?_ ?_) (P.ī KX G (λ_ _ _ _ _ _ _ _=>rfl) ?_ ?_ ?_ ?_) (P.ī KX G (λ_ _ _ _ _ _ _ _ _ _=>rfl) ?_ ?_ ?_ ?_) (P.ī KX G (λ_ _ _ _ _ _ _ _ _=>rfl) ?_ ?_ ?_ ?_) (P.ī KX G (λ_ _ _ _ _ _ _ _=>rfl) ?_ ?_ ?_ ?_) (P.ī KX G (λ_ _ _ _ _ _ _ _=>rfl) ?_ ?_ ?_ ?_) (P.ī KX G (λ_ _ _ _ _ _ _ _=>rfl) ?_ ?_ ?_ ?_) (P.ī KX G (λ_ _ _ _ _ _ _ _=>rfl) ?_ ?_ ?_ ?_) (P.ī KX G (λ_ _ _ _ _ _ _ _ _=>rfl) ?_ ?_ ?_ ?_) (P.ī KX G (λ_ _ _ _ _ _ _ _ _ _=>rfl) ?_ ?_ ?_ ?_) (P.ī KX G (λ_ _ _ _ _ _ _ _ _ _=>rfl) ?_ ?_ ?_ ?_) (P.ī KX G (λ_ _ _ _ _ _ _ _ _=>rfl) ?_ ?_ ?_ ?_) (P.ī KX G (λ_ _ _ _ _ _ _ _ _ _=>rfl) ?_ ?_ ?_ ?_) (P.ī KX G (λ_ _ _ _ _ _ _ _ _ _=>rfl) ?_ ?_ ?_ ?_) (P.ī KX G (λ_ _ _ _ _ _ _ _=>rfl) ?_ ?_ ?_ ?_) (P.ī KX G (λ_ _ _ _ _ _ _ _ _ _ _=>rfl) ?_ ?_ ?_ ?_) (P.ī KX G (λ_ _ _ _ _ _ _=>rfl) ?_ ?_ ?_ ?_) (P.ī KX G (λ_ _ _ _ _ _ _ _ _ _=>rfl) ?_ ?_ ?_ ?_) (P.ī KX G (λ_ _ _ _ _ _ _ _ _ _ _=>rfl) ?_ ?_ ?_ ?_) (P.ī KX G (λ_ _ _ _ _ _ _=>rfl) ?_ ?_ ?_ ?_) (P.ī KX G (λ_ _ _ _ _ _ _ _=>rfl) ?_ ?_ ?_ ?_) (P.ī KX G (λ_ _ _ _ _ _ _ _=>rfl) ?_ ?_ ?_ ?_) (P.ī KX G (λ_ _ _ _ _ _ _=>rfl) ?_ ?_ ?_ ?_) (P.ī KX G (λ_ _ _ _ _ _ _=>rfl) ?_ ?_ ?_ ?_) (P.ī KX G (λ_ _ _ _ _ _ _=>rfl) ?_ ?_ ?_ ?_) (P.oG (λ_ _ _ _ _ _ _ _ _=>rfl) ?_ ?_ ?_ ?_) (P.ī KX G (λ_ _ _ _ _ _ _=>rfl) ?_ ?_ ?_ ?_) (P.ī KX G (λ_ _ _ _ _ _ _=>rfl) ?_ ?_ ?_ ?_) (P.ī KX G (λ_ _ _ _ _ _ _=>rfl) ?_ ?_ ?_ ?_) (P.ī KX G (λ_ _ _ _ _ _ _=>rfl) ?_ ?_ ?_ ?_) (P.ī KX G (λ_ _ _ _ _ _ _=>rfl) ?_ ?_ ?_ ?_) (P.ī KX G (λ_ _ _ _ _ _ _ _=>rfl) ?_ ?_ ?_ ?_) (P.ī KX G (λ_ _ _ _ _ _ _=>rfl) ?_ ?_ ?_ ?_) (mg_of KX G ?_) (mg_of KX G ?_) (mg_of KX G ?_) (mg_none_of KX G ?_) (mg_none_of KX G ?_) (mg_none_of KX G ?_) (mg_none_of KX G ?_) (mg_none_of KX G ?_) (mg_none_of KX G ?_) (mg_none_of KX G ?_) (mg_none_of KX G ?_) (mg_none_of KX G ?_) (mg_none_of KX G ?_) (mg_none_of KX G ?_) (P.ji ?_) (P.oA ?_) ?_ ?_ ?_ ?_ (P.ji ?_) (P.oA ?_) ?_ ?_ (P.ji ?_) (P.oA ?_) ?_ ?_ (P.jy ?_) (P.ji ?_) (P.oA ?_) ?_ ?_ (P.jy ?_) (P.ji ?_) (P.oA ?_) ?_ ?_ (P.jy ?_) (P.ji ?_) (P.oA ?_) ?_ ?_ (P.jy ?_) (P.ji ?_) (P.oA ?_) ?_ ?_ (P.jy ?_) ?_ ?_) hmg
  any_goals (dsimp only;k_is)
  any_goals first|kernel_rfl|(unfold L2.ĳ;kernel_rfl)
  all_goals skip
