import PyProof.Rows.All
import Wide.All
import OpenK.AllK
import Wide.FinOn
import Lean
import PyProof.EqAt
import PyProof.EqKinds
import PyProof.TupleCall
import PySem.Challenge.RW_shadowpost_k62_a_walk
set_option Elab.async false
set_option linter.all false
set_option maxRecDepth 100000
set_option maxHeartbeats 4000000
namespace L2
open PySem PySem.Spec PyProof.Rows
abbrev Key:=Sum Int Str
def Kv:Key->Value->Bool
 | .inl k,v=>Value.isInt k v
 | .inr x,v=>Value.isStrOf x v
def Zbx(w:World):Key->Int
 | .inl k=>hashInt k
 | .inr x=>hashStr w x
theorem Ň:∀{k:Key} {v:Value},Kv k v=true->(∃i t,k=Sum.inl i/\v=Value.int i t)\/(∃x t,k=Sum.inr x/\v=Value.str x t)
 | .inl i,v,h=>by
   obtain⟨t,e⟩:=Value.isInt_shape (k:=i) (v:=v) h
   exact .inl ⟨i,t,rfl,e⟩
 | .inr x,v,h=>by
   obtain⟨t,e⟩:=Value.isStrOf_shape (x:=x) (v:=v) h
   exact .inr ⟨x,t,rfl,e⟩
def Ro(a b:Int):decide ((Sum.inl a:Key)=Sum.inl b)=(a== b):=by
 by_cases e:a=b
 ·subst e;simp
 ·have h:¬(Sum.inl a:Key)=Sum.inl b:=λq=>e (Sum.inl.inj q)
  rw[decide_eq_false h]
  exact(beq_eq_false_iff_ne.mpr e).symm
def Rq(a b:Str):decide ((Sum.inr a:Key)=Sum.inr b)=decide (a=b):=by
 by_cases e:a=b
 ·subst e;simp
 ·have h:¬(Sum.inr a:Key)=Sum.inr b:=λq=>e (Sum.inr.inj q)
  rw[decide_eq_false h,decide_eq_false e]
def Rr(a:Int)(b:Str):decide ((Sum.inl a:Key)=Sum.inr b)=false:=decide_eq_false (λq=>nomatch q)
def Rt(a:Str)(b:Int):decide ((Sum.inr a:Key)=Sum.inl b)=false:=decide_eq_false (λq=>nomatch q)
def qL(prog:Program)(w:World):PySem.KeyKind prog w Key where
 is:=Kv
 hash:=Zbx w
 inj:=λv a b ha hb=>by
  rcases Ň ha with⟨i,t,rfl,rfl⟩|⟨x,t,rfl,rfl⟩
  ·rcases Ň hb with⟨j,u,rfl,e⟩|⟨y,u,rfl,e⟩
   ·injection e with e1 _;rw[e1]
   ·exact nomatch e
  ·rcases Ň hb with⟨j,u,rfl,e⟩|⟨y,u,rfl,e⟩
   ·exact nomatch e
   ·injection e with e1 _;rw[e1]
 byValue:=λk v h=>by
  rcases Ň h with⟨i,t,rfl,rfl⟩|⟨x,t,rfl,rfl⟩<;>rfl
 pyHash:=λhv h=>by
  rcases Ň hv with⟨i,t,rfl,rfl⟩|⟨x,t,rfl,rfl⟩
  ·exact wpAny_pyHash_int h
  ·exact wpAny_pyHash_str h
 eqBool:=λhu hv h=>by
  rcases Ň hu with⟨i,t,rfl,rfl⟩|⟨x,t,rfl,rfl⟩
  ·rcases Ň hv with⟨j,u,rfl,rfl⟩|⟨y,u,rfl,rfl⟩
   ·rw[Ro] at h;exact wpAny_eqBool_int h
   ·rw[Rr] at h;exact SeqAt.EqAt.int_str i t y u _ _ _ _ h
  ·rcases Ň hv with⟨j,u,rfl,rfl⟩|⟨y,u,rfl,rfl⟩
   ·rw[Rt] at h;exact SeqAt.EqAt.str_int x t j u _ _ _ _ h
   ·rw[Rq] at h;exact wpAny_eqBool_str h
 «strs» := fun k x t v h=>by
   rcases Ň h with⟨i,u,rfl,e⟩|⟨y,u,rfl,e⟩
   ·exact nomatch e
   ·injection e with e1 _
    subst e1
    cases v<;>rfl
end L2
namespace L2
open PySem PySem.Spec PyProof.Rows
inductive V where
 |non|bl (b:Bool)|int (i:Int)|str (x:Str)|HW (b:Array UInt8)|flt (b:UInt64)|ref (a:Addr)|ty (n:String)
 deriving DecidableEq
def RelV:V->Value->Prop
 | .non,u=>u=Value.none
 | .bl b,u=>u=Value.bool b
 | .int i,u=>∃t,u=Value.int i t
 | .str x,u=>∃t,u=Value.str x t
 | .HW b,u=>∃t,u=Value.bytes b t
 | .flt b,u=>∃t,u=Value.float b t
 | .ref a,u=>u=Value.ref a
 | .ty n,u=>u=Value.type n
abbrev Vals:List V->List Value->Prop:=Paired RelV
theorem Vals.length{xs:List V}{us:List Value}(r:Vals xs us):xs.length=us.length:=Paired.length r
theorem Vals.get:∀{xs:List V} {us:List Value} {i:Nat} {x:V},Vals xs us->xs[i]?=some x->∃u,us[i]?=some u/\RelV x u
 |_,_,_,_,.nil,e=>by simp at e
 |_,_,0,_,.cons r _,e=>by simp at e;subst e;exact⟨_,rfl,r⟩
 |_,_,i+1,x,.cons _ t,e=>by
  obtain⟨u,h1,h2⟩:=Vals.get (i:=i) (x:=x) t (by simpa using e)
  exact⟨u,by simpa using h1,h2⟩
theorem Vals.append:∀{xs ys:List V} {us ws:List Value},Vals xs us->Vals ys ws->Vals (xs++ys) (us++ws)
 |_,_,_,_,.nil,s=>s
 |_,_,_,_,.cons r t,s=>.cons r (Vals.append t s)
theorem Vals.take:∀{xs:List V} {us:List Value} (n:Nat),Vals xs us->Vals (xs.take n) (us.take n)
 |_,_,0,_=>.nil
 |_,_,_+1,.nil=>.nil
 |_,_,n+1,.cons r t=>.cons r (Vals.take n t)
theorem Vals.drop:∀{xs:List V} {us:List Value} (n:Nat),Vals xs us->Vals (xs.drop n) (us.drop n)
 |_,_,0,r=>r
 |_,_,_+1,.nil=>.nil
 |_,_,n+1,.cons _ t=>Vals.drop n t
def oX:Option V->Option Value->Prop
 |some v,some u=>RelV v u
 |none,none=>True
 |_,_=>False
def KV{κ:Type}:List (κ×V)->List (κ×Value)->Prop:=Paired λ(p:κ×V) (q:κ×Value)=>p.1=q.1/\RelV p.2 q.2
def kV:Key->V
 | .inl i=>.int i
 | .inr x=>.str x
inductive HO where
 /-- a list -/
 |lst (xs:List V)
 /-- a tuple (never changes) -/
 |tup (xs:List V)
 /-- a dict whose keys are ints and texts;one whose keys are tuples of ints and texts (the empty one is both) -/
 |dK (kvs:List (Key×V))|dT (kvs:List (List Key×V))
 /-- a set of ints:its members,its size -/
 |set (S:Int->Bool) (n:Nat)
 /-- an instance of the class at C,its dict at dx,its attributes -/
 |ins (C dx:Addr) (fs:List (Str×V))
 /-- the dict of the instance at x -/
 |own (x:Addr)
 /-- the dict of an exception -/
 |xd (fs:List (Str×V))
 /-- a bound method,f of x -/
 |met (f x:Addr)
 /-- a range object lo,lo+1,.. below hi -/
 |rng (lo hi:Int)
 /-- a thing that is known to the object (the script;a dict while a loop walks it):read,never written while it is so -/
 |cX (o:Obj) (u:HO)
 /-- a code object's table -/
 |gH (q:Str)
 /-- a code made of such a table,by its name -/
 |zV (q:Str)
 /-- any other thing,by what is true of its one object (a def of one's own:Zdn a S n:=HO.ext λh=>..) -/
 |ext (φ:Heap->Prop)
abbrev Hp:=Addr->Option HO
def upd(H:Hp)(a:Addr)(o:HO):Hp:=λb=>if b=a then some o else H b
def Ğ{H:Hp}{a:Addr}{o:HO}:upd H a o a=some o:=by unfold upd;rw[if_pos rfl]
def ę{H:Hp}{a b:Addr}{o:HO}(h:b≠a):upd H a o b=H b:=by unfold upd;rw[if_neg h]
def Ģ{H:Hp}{a b:Addr}{o:HO}(h:H a=some o)(h':H b=none):a≠b:=by
 intro e;subst e;rw[h] at h';cases h'
section
variable(P:Program)(w:World)
def ŧ(H:Hp)(h:Heap)(a:Addr):HO->Prop
 | .lst xs=>xs.length<=sizeLine/\∃(its:List Value) (n:Nat),Vals xs its/\h.get? a=some {cls:=.type "list",data:=.seq its.toArray n}
 | .tup xs=>xs.length<=sizeLine/\∃its:List Value,Vals xs its/\IsTup h a its.toArray
 | .dK kvs=>kvs.length<=sizeLine/\(a== sysModules)=false/\∃vs,KV kvs vs/\h.DictOf (qL P w) a vs
 | .dT kvs=>kvs.length≤sizeLine∧(a== sysModules)=false∧∃xs:List (List Key×Addr×Value),
     Paired (λ(p:List Key×V) (q:List Key×Addr×Value)=>p.1=q.1/\H q.2.1=some (.tup (p.1.map kV))/\RelV p.2 q.2.2) kvs xs/\
     ∃o es ep,h.get? a=some o/\o.ExactDict/\o.data=.dict es ep/\es.toList=xs.map (entryOfKey (tupleKind (qL P w)))/\(xs.map (·.1)).Nodup
 | .set S n=>h.SetOf (intKind P w) a S n
 | .ins C dx fs=>H dx=some (.own a)∧fs.length≤1000∧dx≠a∧h.get? a=some (PySem.W.instObj C dx)∧
     ∃mA,h.Ns1 dx mA/\(∀f,oX (fs.lookup f) (mA f))/\PySem.Within mA (fs.map (·.1))
 | .own _=>∃o,h.get? a=some o
 | .xd fs=>∃mA,h.Ns1 a mA/\∀f,oX (fs.lookup f) (mA f)
 | .rng lo hi=>∃t u v,h.get? a=some {cls:=.type "range",data:=.fields #[.int lo t,.int hi u,.int 1 v]}
 | .cX o u=>h.get? a=some o/\ŧ H h a u
 | .gH q=>∃ps:Array Value,h.get? a=some {cls:=.none,data:=.fields ps}/\TriplesOk ps.toList/\∀pos cv,codeAmong pos ps.toList=some cv->∃c,cv=.ref c/\H c=some (.zV q)
 | .zV q=>h.CodeRec (.ref a) q
 | .met f x=>h.get? a=some (PySem.W.methodObj (.ref f) (.ref x))
 | .ext φ=>φ h/\(∃o,h.get? a=some o)/\∀h1 h2:Heap,φ h1->(∀o,h1.get? a=some o->h2.get? a=some o)->φ h2
def iM(H:Hp)(h:Heap):Prop:=∀a o,H a=some o->ŧ P w H h a o
end
section
variable{P:Program}{w:World}{H H':Hp}{h h':Heap}{a:Addr}{o:HO}
theorem ŧ.lt(x:ŧ P w H h a o):a<h.objs.size:=by
 cases o with
 |lst xs=>obtain⟨_,_,_,_,e⟩:=x;exact Heap.lt_size e
 |tup xs=>obtain⟨_,_,_,p⟩:=x;exact p.lt
 |dK kvs=>obtain⟨_,_,_,_,o,_,_,e,_⟩:=x;exact Heap.lt_size e
 |dT kvs=>obtain⟨_,_,_,_,o,_,_,e,_⟩:=x;exact Heap.lt_size e
 |set S n=>obtain⟨o,_,_,_,e,_⟩:=x;exact Heap.lt_size e
 |ins C dx fs=>obtain⟨_,_,_,e,_⟩:=x;exact Heap.lt_size e
 |own y=>obtain⟨_,e⟩:=x;exact Heap.lt_size e
 |xd fs=>obtain⟨_,⟨_,_,_,e,_⟩,_⟩:=x;exact Heap.lt_size e
 |rng lo hi=>obtain⟨_,_,_,e⟩:=x;exact Heap.lt_size e
 |cX ob u=>obtain⟨e,_⟩:=x;exact Heap.lt_size e
 |gH q=>obtain⟨_,e,_⟩:=x;exact Heap.lt_size e
 |zV q=>obtain⟨c,o,_,_,z,e,_⟩:=x;cases z;exact Heap.lt_size e
 |met f y=>exact Heap.lt_size (show h.get? a=some _ from x)
 |ext φ=>obtain⟨_,⟨_,e⟩,_⟩:=x;exact Heap.lt_size e
theorem Paired.Xh{α β:Type}{F G:α->β->Prop}:∀{l₁:List α} {l₂:List β},Paired F l₁ l₂->(∀a b,F a b->G a b)->Paired G l₁ l₂
 |_,_,.nil,_=>.nil
 |_,_,.cons r t,f=>.cons (f _ _ r) (Paired.Xh t f)
def ŧ.stay(x:ŧ P w H h a o)(k:∀b u,(b=a\/H b=some (.own a))->h.get? b=some u->h'.get? b=some u)
 (ho:∀b,H b=some (.own a)->H' b=some (.own a))(ht:∀b xs,H b=some (.tup xs)->H' b=some (.tup xs))(hc:∀b q,H b=some (.zV q)->H' b=some (.zV q):=by exact λ_ _ z=>z):ŧ P w H' h' a o:=by
 induction o with
 |lst xs=>obtain⟨z,its,n,r,e⟩:=x;exact⟨z,its,n,r,k _ _ (.inl rfl) e⟩
 |tup xs=>obtain⟨z,its,r,ob,e,c⟩:=x;exact⟨z,its,r,ob,k _ _ (.inl rfl) e,c⟩
 |dK kvs=>obtain⟨z,y,vs,r,ob,es,ep,e,c⟩:=x;exact⟨z,y,vs,r,ob,es,ep,k _ _ (.inl rfl) e,c⟩
 |dT kvs=>
  obtain⟨z,y,xs,r,ob,es,ep,e,c⟩:=x
  exact⟨z,y,xs,Paired.Xh r λp q z=>⟨z.1,ht _ _ z.2.1,z.2.2⟩,ob,es,ep,k _ _ (.inl rfl) e,c⟩
 |set S n=>obtain⟨ob,es,ep,t,e,c⟩:=x;exact⟨ob,es,ep,t,k _ _ (.inl rfl) e,c⟩
 |ins C dx fs=>
  obtain⟨d,z,ne,e,mA,⟨od,es,ep,e2,c⟩,r⟩:=x
  exact⟨ho _ d,z,ne,k _ _ (.inl rfl) e,mA,⟨od,es,ep,k _ _ (.inr d) e2,c⟩,r⟩
 |own y=>obtain⟨ob,e⟩:=x;exact⟨ob,k _ _ (.inl rfl) e⟩
 |xd fs=>obtain⟨mA,⟨od,es,ep,e,c⟩,r⟩:=x;exact⟨mA,⟨od,es,ep,k _ _ (.inl rfl) e,c⟩,r⟩
 |rng lo hi=>obtain⟨t,u,v,e⟩:=x;exact⟨t,u,v,k _ _ (.inl rfl) e⟩
 |cX ob u ih=>obtain⟨e,q⟩:=x;exact⟨k _ _ (.inl rfl) e,ih q⟩
 |gH q=>
  obtain⟨ps,e,t,r⟩:=x
  exact⟨ps,k a _ (.inl rfl) e,t,λpos cv z=>let ⟨c,z1,z2⟩:=r pos cv z;⟨c,z1,hc c q z2⟩⟩
 |zV q=>
  obtain⟨c,o,vs,t,z,e,r⟩:=x
  cases z
  exact⟨a,o,vs,t,rfl,k a _ (.inl rfl) e,r⟩
 |met f y=>
  have e:h.get? a=some (PySem.W.methodObj (.ref f) (.ref y)):=x
  show h'.get? a=some (PySem.W.methodObj (.ref f) (.ref y))
  exact k a _ (.inl rfl) e
 |ext φ=>obtain⟨p,⟨o,e⟩,st⟩:=x;exact⟨st _ _ p λo q=>k _ _ (.inl rfl) q,⟨o,k _ _ (.inl rfl) e⟩,st⟩
theorem iM.lt(x:iM P w H h)(e:H a=some o):a<h.objs.size:=(x a o e).lt
def iM.fresh(x:iM P w H h)(e:h.objs.size<=a):H a=none:=by
 cases q:H a with
 |none=>rfl
 |some u=>exact absurd (Nat.lt_of_lt_of_le (x.lt q) e) (Nat.lt_irrefl _)
def iM.kept(x:iM P w H h)(k:∀b u,h.get? b=some u->h'.get? b=some u):iM P w H h':=λa o e=>
 (x a o e).stay (λb u _ q=>k b u q) (λ_ q=>q) λ_ _ q=>q
def iM.laid(x:iM P w H h)(k:∀b u,h.get? b=some u->h'.get? b=some u)(hp:h.objs.size<=a)(new:ŧ P w (upd H a o) h' a o):iM P w (upd H a o) h':=λb u e=>by
 have hn:=x.fresh hp
 by_cases hb:b=a
 ·subst hb;rw[Ğ] at e;cases e;exact new
 ·rw[ę hb] at e
  exact(x b u e).stay (λc v _ q=>k c v q) (λc q=>by rw[ę (Ģ q hn)];exact q) (λc xs q=>by rw[ę (Ģ q hn)];exact q) λc xs q=>by rw[ę (Ģ q hn)];exact q
end
def Rd(H:Hp)(a:Addr)(u:HO):Prop:=H a=some u\/∃o,H a=some (.cX o u)
def Rd.ok{P:Program}{w:World}{H:Hp}{h:Heap}{a:Addr}{u:HO}(r:Rd H a u)(x:iM P w H h):ŧ P w H h a u:=by
 rcases r with r|⟨o,r⟩
 ·exact x a u r
 ·obtain⟨_,q⟩:=x a _ r
  exact q
def Mut:Option HO->Prop
 |some (.lst _)=>True
 |some (.dK _)=>True
 |some (.dT _)=>True
 |some (.set _ _)=>True
 |some (.ins _ _ _)=>True
 |some (.ext _)=>True
 |some (.xd _)=>True
 |_=>False
section
variable{P:Program}{w:World}{H:Hp}{h h':Heap}{x e:Addr}{o':HO}
def iM.write(ok:iM P w H h)(mu:Mut (H x))(he:e=x\/H e=some (.own x))(k:∀b u,b≠e->h.get? b=some u->h'.get? b=some u)(heo:∃u,h'.get? e=some u)
 (new:ŧ P w (upd H x o') h' x o'):iM P w (upd H x o') h':=λb u q=>by
 have Xi:∀c y,H c=some (.own y)->c≠x:=λc y r z=>by subst z;rw[r] at mu;exact mu
 have Zby:∀c xs,H c=some (.tup xs)->c≠x:=λc xs r z=>by subst z;rw[r] at mu;exact mu
 have Zbz:∀c q,H c=some (.zV q)->c≠x:=λc xs r z=>by subst z;rw[r] at mu;exact mu
 by_cases hb:b=x
 ·subst hb;rw[Ğ] at q;cases q;exact new
 ·rw[ę hb] at q
  by_cases hbe:b=e
  ·have q':H b=some (.own x):=by
    rcases he with z|z
    ·exact absurd (hbe.trans z) hb
    ·rw[hbe];exact z
   rw[q] at q';cases q'
   obtain⟨v,hv⟩:=heo
   exact⟨v,by rw[hbe];exact hv⟩
  ·refine(ok b u q).stay (λc v hc r=>k c v ?_ r) (λc r=>by rw[ę (Xi c b r)];exact r) (λc xs r=>by rw[ę (Zby c xs r)];exact r) λc xs r=>by rw[ę (Zbz c xs r)];exact r
   rcases hc with rfl|hc
   ·exact hbe
   ·rintro rfl
    rcases he with z|z
    ·exact Xi c b hc z
    ·rw[hc] at z;cases z;exact hb rfl
end
structure Un(fs ex:List Addr)(H H':Hp)(h h':Heap):Prop where
 keep:∀b o,h.get? b=some o->H b=none->b∉fs->b∉ex->h'.get? b=some o
 slot:∀b o,h.get? b=some o->H b=none->b∈fs->b∉ex->∃sl,h'.get? b=some {o with slots:=sl}
 free:∀b o,h.get? b=some o->H b=none->b∉ex->H' b=none
 there:∀b o,h.get? b=some o->b∉ex->∃o',h'.get? b=some o'
 tups:∀b xs,H b=some (.tup xs)->H' b=some (.tup xs)
 oY:∀b o u,H b=some (.cX o u)->H' b=some (.cX o u)
 lq:∀b q,H b=some (.gH q)->H' b=some (.gH q)
section
variable{fs fs' ex ex':List Addr}{H H1 H2:Hp}{h h1 h2 h':Heap}{a x e:Addr}{o:HO}
def Un.any(u:Un fs ex H H1 h h1){b:Addr}{ob:Obj}(q:h.get? b=some ob)(n:H b=none)(hx:b∉ex):∃sl,h1.get? b=some {ob with slots:=sl}:=by
 by_cases hb:b∈fs
 ·exact u.slot b ob q n hb hx
 ·exact⟨ob.slots,u.keep b ob q n hb hx⟩
def Un.kept(k:∀b u,h.get? b=some u->h'.get? b=some u):Un fs ex H H h h':=
 ⟨λb ob q _ _ _=>k b ob q,λb ob q _ _ _=>⟨ob.slots,k b ob q⟩,λ_ _ _ n _=>n,λb ob q _=>⟨ob,k b ob q⟩,λ_ _ q=>q,λ_ _ _ q=>q,λ_ _ q=>q⟩
def Un.refl:Un fs ex H H h h:=Un.kept λ_ _ q=>q
def Un.laid(k:∀b u,h.get? b=some u->h'.get? b=some u)(hp:h.objs.size<=a)(hn:H a=none):Un fs ex H (upd H a o) h h' where
 keep:=λb u q _ _ _=>k b u q
 slot:=λb u q _ _ _=>⟨u.slots,k b u q⟩
 free:=λb u q n _=>by rw[ę (Nat.ne_of_lt (Nat.lt_of_lt_of_le (Heap.lt_size q) hp))];exact n
 there:=λb u q _=>⟨u,k b u q⟩
 tups:=λb xs q=>by rw[ę (Ģ q hn)];exact q
 oY:=λb u xs q=>by rw[ę (Ģ q hn)];exact q
 lq:=λb ps q=>by rw[ę (Ģ q hn)];exact q
def Un.write(mu:Mut (H x))(he:e=x\/H e=some (.own x))(k:∀b u,b≠e->h.get? b=some u->h'.get? b=some u)(heo:∃u,h'.get? e=some u):Un fs ex H (upd H x o) h h':=by
 have hx:∀b,H b=none->b≠x:=λb n z=>by subst z;rw[n] at mu;exact mu
 have hb:∀b,H b=none->b≠e:=λb n z=>by
  subst z
  rcases he with r|r
  ·exact hx b n r
  ·rw[n] at r;cases r
 have hm:∀b u,H b=some u->¬Mut (some u)->b≠x:=λb u q nm z=>by subst z;rw[q] at mu;exact nm mu
 refine⟨λb u q n _ _=>k b u (hb b n) q,λb u q n _ _=>⟨u.slots,k b u (hb b n) q⟩,λb u q n _=>by rw[ę (hx b n)];exact n,λb u q _=>?_,
  λb xs q=>by rw[ę (hm b _ q λz=>z)];exact q,λb u xs q=>by rw[ę (hm b _ q λz=>z)];exact q,λb ps q=>by rw[ę (hm b _ q λz=>z)];exact q⟩
 by_cases hbe:b=e
 ·subst hbe;exact heo
 ·exact⟨u,k b u hbe q⟩
end
def trk(h:Heap)(H:Hp):List Addr:=(List.range h.objs.size).filter λa=>(H a).isSome
def oZ(h:Heap)(H:Hp):Heap:=PySem.W.hideAll h (trk h H)
def zW(h:Heap)(H:Hp):(oZ h H).objs.size=h.objs.size:=PySem.W.hideAll_size _ _
def Bk{h:Heap}{H:Hp}{b:Addr}{o:Obj}(e:h.get? b=some o)(n:H b=none):(oZ h H).get? b=some o:=
 PySem.W.hideAll_get _ e λhm=>by
  have q:(H b).isSome=true:=(List.mem_filter.mp hm).2
  rw[n] at q;simp at q
def HX{h:Heap}{H:Hp}{b:Addr}{o:Obj}(e:(oZ h H).get? b=some o):h.get? b=some o/\H b=none:=by
 have e':h.get? b=some o:=PySem.W.of_hideAll (trk h H) e
 refine⟨e',?_⟩
 cases q:H b with
 |none=>rfl
 |some x=>
  have hm:b∈trk h H:=List.mem_filter.mpr ⟨List.mem_range.mpr (Heap.lt_size e'),by simp[q]⟩
  have z:(oZ h H).get? b=none:=PySem.W.hideAll_none (trk h H) hm
  rw[z] at e;cases e
def HY(g h:Heap)(L:Addr):List (Addr×Obj):=(List.range h.objs.size).filterMap λa=>if a=L\/(g.get? a).isSome=true then none else(h.get? a).map λo=>(a,o)
def rest(g h:Heap)(L d:Addr):List (Addr×Obj):=(HY g h L).filter λp=>decide (p.1≠d)
end L2
namespace L2
open PySem PySem.Spec PyProof.Rows
structure Mod(K:PySem.W.Frag)(mg:Str->Option Value)(base:Heap):Prop where
 kin:K.In base
 glob:base.Ns mainGlobals mg
 blt:∃mb,base.Ns builtinsNs mb/\∀x:Str,x≠ "__name__" ->mb x=bootBuiltins x
 nolimit:base.NoLimit
def lams:List Str:=["best_step"]
abbrev aZ(x:Str):Str:=(x ++ ".<locals>.") ++ "<lambda>"
def TabsOk(K:PySem.W.Frag)(mg:Str->Option Value)(base:Heap)(H:Hp):Prop:=∀x c P,x∈lams->PySem.W.tabIn K x=some (c,P)->PySem.W.CodeHd base c P/\H P=some (.gH (aZ x))/\base.BuiltinsAt mg P
structure Cx where
 prog:Program
 w:World
 K:PySem.W.Frag
 mg:Str->Option Value
 base:Heap
 A:Around
 N:List Str
 s₀:Shared
 H₀:Hp
 env:Env
 outer:List Env
 stack:List Env
 ex:List Addr
 fn:Str->Bool
 calm:Bool
 pn:List (Addr×Obj)
 xe:Value->Shared->Prop
def frs(l:List Env):List Addr:=l.filterMap (·.frame)
abbrev Cx.fs(X:Cx):List Addr:=frs X.outer
def yE(sc:Scope)(x:Str):Prop:=sc.names.lookup x=some .local\/sc.names.lookup x=some .cell\/sc.names.lookup x=some .free
def Loc(sc:Scope)(x:Str):Prop:=sc.names.lookup x=some .local\/sc.names.lookup x=some .cell
def Look(env:Env)(h:Heap)(m:Str->Option Value)(x:Str)(u:Value):Prop:=
 (env.kindOf x=some .local/\m x=some u)\/((env.kindOf x=some .cell\/env.kindOf x=some .free)/\∃c,env.cells.lookup x=some c/\h.IsCell c (some u))
structure Cx.Ok(X:Cx):Prop where
 mod:Mod X.K X.mg X.base
 kind:X.env.scope.kind=.function
 glob:X.env.globals=mainGlobals
 blt:X.env.builtins=builtinsNs
 above:X.s₀.heap.objs.size<=X.env.locals
 inj:∀x y c,X.env.cells.lookup x=some c->X.env.cells.lookup y=some c->x=y
 has:∀x,(X.env.kindOf x=some .cell\/X.env.kindOf x=some .free)->∃c,X.env.cells.lookup x=some c
 cab:∀x c,X.fn x=true->X.env.cells.lookup x=some c->X.s₀.heap.objs.size<=c
 hd:X.calm=true->X.A.handled=none
 frames:X.A.frames=some X.stack
 stk:X.stack=X.outer\/(X.stack=X.env::X.outer/\X.env.frame=some X.env.locals)
 exf:∀b∈X.ex,b≠X.env.locals/\∀x c,X.env.cells.lookup x=some c->c≠b
 bs:∀b o,X.base.get? b=some o->X.s₀.heap.get? b=some o/\X.H₀ b=none
 Hz:X.base.objs.size<=X.s₀.heap.objs.size
 Bl:∀b o,X.base.get? b=some o->b∉X.ex
 H_:∀b∈X.ex,b∉X.fs
 lu:X.s₀.heap.FunFrames X.base X.outer
 Ru:∀b∈X.fs,X.H₀ b=none
 tb:TabsOk X.K X.mg X.base X.H₀
structure Inv(X:Cx)(pins:List (Addr×Obj))(σ:List (Option V))(H:Hp)(s:Shared):Prop where
 ok:X.Ok
 os:s.os=X.s₀.os
 bare:AllBare s.gens
 base:Un X.fs X.ex X.H₀ H X.s₀.heap s.heap
 loc:∃m,s.heap.Ns X.env.locals m/\∀(i:Nat) (x:Str) (v:V),X.N[i]?=some x->σ[i]?=some (some v)->yE X.env.scope x->∃u,RelV v u/\Look X.env s.heap m x u
 cell:∀x c,X.env.cells.lookup x=some c->∃v,s.heap.IsCell c v
 free:H X.env.locals=none
 eV:∀x c,X.env.cells.lookup x=some c->H c=none
 pin:∀p∈X.pn++pins,s.heap.get? p.1=some p.2/\H p.1=none/\p.1≠X.env.locals/\p.1∉X.fs/\∀v,p.2.data≠ .cell v
 hok:iM X.prog X.w H s.heap
 len:σ.length=X.N.length
section
variable{X:Cx}{pins:List (Addr×Obj)}{σ:List (Option V)}{H H':Hp}{s:Shared}{h':Heap}
def Cx.Ok.ZbA(ok:X.Ok){b:Addr}{o:Obj}(e:X.base.get? b=some o):b∉X.fs:=λhb=>by
 have:=(ok.lu.mem hb).1
 rw[e] at this;cases this
theorem Inv.bs(I:Inv X pins σ H s):∀b o,X.base.get? b=some o->s.heap.get? b=some o/\H b=none:=λb o e=>
 ⟨I.base.keep b o (I.ok.bs b o e).1 (I.ok.bs b o e).2 (I.ok.ZbA e) (I.ok.Bl b o e),I.base.free b o (I.ok.bs b o e).1 (I.ok.bs b o e).2 (I.ok.Bl b o e)⟩
def Inv.bk(I:Inv X pins σ H s):∀b o,X.base.get? b=some o->s.heap.get? b=some o:=λb o e=>(I.bs b o e).1
theorem Inv.tb(I:Inv X pins σ H s):TabsOk X.K X.mg X.base H:=λx c P hx e=>⟨(I.ok.tb x c P hx e).1,I.base.lq _ _ (I.ok.tb x c P hx e).2.1,(I.ok.tb x c P hx e).2.2⟩
theorem Inv.mod(I:Inv X pins σ H s):Mod X.K X.mg X.base:=I.ok.mod
def Inv.jY(I:Inv X pins σ H s):X.K.In s.heap:=I.ok.mod.kin.keeps I.bk
theorem Inv.nolimit(I:Inv X pins σ H s):s.heap.NoLimit:=I.ok.mod.nolimit.keeps I.bk
theorem Inv.lt(I:Inv X pins σ H s):X.env.locals<s.heap.objs.size:=let ⟨_,hn,_⟩:=I.loc;hn.lt
def Inv.sz(I:Inv X pins σ H s):X.s₀.heap.objs.size<=s.heap.objs.size:=Nat.le_trans I.ok.above (Nat.le_of_lt I.lt)
def Inv.ZbB(I:Inv X pins σ H s){a:Addr}(h:s.heap.objs.size<=a):a∉X.fs:=λhb=>by
 obtain⟨_,o,ho,_⟩:=I.ok.lu.mem hb
 exact absurd (Nat.lt_of_lt_of_le (Heap.lt_size ho) (Nat.le_trans I.sz h)) (Nat.lt_irrefl _)
def Inv.Rv(I:Inv X pins σ H s):∀x c,X.env.cells.lookup x=some c->c≠X.env.locals:=λx c e z=>by
 obtain⟨v,o,ho,hd⟩:=I.cell x c e
 obtain⟨m,⟨o',es,ep,ho',hd',_⟩,_⟩:=I.loc
 rw[z,ho'] at ho;cases ho;rw[hd'] at hd;cases hd
theorem Inv.lu(I:Inv X pins σ H s):s.heap.FunFrames X.base X.outer:=by
 have all:∀(l:List Env),(∀b∈frs l,b∈X.fs)->X.s₀.heap.FunFrames X.base l->s.heap.FunFrames X.base l:=by
  intro l
  induction l with
  |nil=>intro _ _;trivial
  |cons env r ih=>
   intro hs hl
   obtain⟨hk,⟨L,o,hf,hn,ho,hd⟩,hr⟩:=hl
   have hL:L∈X.fs:=hs L (by unfold frs;rw[List.filterMap_cons,hf];exact List.mem_cons_self)
   obtain⟨sl,e⟩:=I.base.slot L o ho (I.ok.Ru L hL) hL λz=>I.ok.H_ L z hL
   exact⟨hk,⟨L,_,hf,hn,e,hd⟩,ih (λb hb=>hs b (by unfold frs;rw[List.filterMap_cons,hf];exact List.mem_cons_of_mem _ hb)) hr⟩
 exact all X.outer (λ_ hb=>hb) I.ok.lu
theorem Inv.stack(I:Inv X pins σ H s):s.heap.FunFrames X.base X.stack:=by
 rcases I.ok.stk with e|⟨e,hf⟩
 ·rw[e];exact I.lu
 ·rw[e]
  obtain⟨m,hn,_⟩:=I.loc
  refine .cons (by rw[I.ok.kind];decide) hf hn ?_ I.lu
  exact Heap.get?_none_of_le (Nat.le_trans I.ok.Hz I.ok.above)
def Inv.lZ(I:Inv X pins σ H s):∀b∈frs X.stack,b∈X.env.locals::X.fs:=λb hb=>by
 rcases I.ok.stk with e|⟨e,hf⟩
 ·rw[e] at hb;exact List.mem_cons_of_mem _ hb
 ·rw[e] at hb
  unfold frs at hb
  rw[List.filterMap_cons,hf] at hb
  exact hb
def Inv.qM(I:Inv X pins σ H s):∀b∈frs X.stack,H b=none:=λb hb=>by
 rcases List.mem_cons.mp (I.lZ b hb) with e|hb
 ·rw[e];exact I.free
 ·obtain⟨_,o,ho,_⟩:=I.ok.lu.mem hb
  exact I.base.free b o ho (I.ok.Ru b hb) λz=>I.ok.H_ b z hb
def Inv.step{g':Array GenState}{t':Nat}{d':Drawn}{ch:List Addr}(I:Inv X pins σ H s)
 (hch:∀b∈ch,(b∈X.ex\/X.s₀.heap.objs.size<=b)/\b≠X.env.locals/\(∀x c,X.env.cells.lookup x=some c->c≠b)/\∀p∈X.pn++pins,p.1≠b)
 (keep:∀b o,b≠X.env.locals->b∉X.fs->b∉ch->s.heap.get? b=some o->H b=none->h'.get? b=some o)
 (slot:∀b o,b≠X.env.locals->b∈X.fs->b∉ch->s.heap.get? b=some o->H b=none->∃sl,h'.get? b=some {o with slots:=sl})(free:∀b o,b∉ch->s.heap.get? b=some o->H b=none->H' b=none)
 (there:∀b o,b∉ch->s.heap.get? b=some o->∃o',h'.get? b=some o')
 (tups:∀b xs,H b=some (.tup xs)->H' b=some (.tup xs))(oY:∀b o u,H b=some (.cX o u)->H' b=some (.cX o u))(lq:∀b q,H b=some (.gH q)->H' b=some (.gH q))
 (ns:∀m,s.heap.Ns X.env.locals m->h'.Ns X.env.locals m)(hok:iM X.prog X.w H' h')(hg:AllBare g') :
 Inv X pins σ H' {s with heap:=h',gens:=g',drawn:=d',toks:=t'}:=by
 have neL:∀b o,X.s₀.heap.get? b=some o->b≠X.env.locals:=λb o e=>Nat.ne_of_lt (Nat.lt_of_lt_of_le (Heap.lt_size e) I.ok.above)
 have neC:∀b o,X.s₀.heap.get? b=some o->b∉X.ex->b∉ch:=λb o e hx hb=>by
  rcases(hch b hb).1 with z|z
  ·exact hx z
  ·exact absurd (Nat.lt_of_lt_of_le (Heap.lt_size e) z) (Nat.lt_irrefl _)
 have cellK:∀x c,X.env.cells.lookup x=some c->∀v,s.heap.IsCell c v->h'.IsCell c v:=λx c e v ⟨o,ho,hd⟩=>by
  have Xj:c∉ch:=λz=>(hch c z).2.2.1 x c e rfl
  by_cases hc:c∈X.fs
  ·obtain⟨sl,q⟩:=slot c o (I.Rv x c e) hc Xj ho (I.eV x c e)
   exact⟨_,q,hd⟩
  ·exact⟨o,keep c o (I.Rv x c e) hc Xj ho (I.eV x c e),hd⟩
 refine⟨I.ok,I.os,hg,⟨λb o e n hb hx=>?_,λb o e n hb hx=>?_,λb o e n hx=>?_,λb o e hx=>?_,λb xs e=>tups b xs (I.base.tups b xs e),λb o xs e=>oY b o xs (I.base.oY b o xs e),λb ps e=>?_⟩,?_,λx c e=>?_,?_,λx c e=>?_,λp hp=>?_,hok,I.len⟩
 ·exact keep b o (neL b o e) hb (neC b o e hx) (I.base.keep b o e n hb hx) (I.base.free b o e n hx)
 ·obtain⟨sl,e1⟩:=I.base.slot b o e n hb hx
  obtain⟨sl',e2⟩:=slot b _ (neL b o e) hb (neC b o e hx) e1 (I.base.free b o e n hx)
  exact⟨sl',e2⟩
 ·obtain⟨o',e1⟩:=I.base.there b o e hx
  exact free b o' (neC b o e hx) e1 (I.base.free b o e n hx)
 ·obtain⟨o',e1⟩:=I.base.there b o e hx
  exact there b o' (neC b o e hx) e1
 ·exact lq b ps (I.base.lq b ps e)
 ·obtain⟨m,hn,hl⟩:=I.loc
  refine⟨m,ns m hn,λi x v e1 e2 e3=>?_⟩
  obtain⟨u,r,l⟩:=hl i x v e1 e2 e3
  refine⟨u,r,?_⟩
  rcases l with l|⟨k,c,e,z⟩
  ·exact .inl l
  ·exact .inr ⟨k,c,e,cellK x c e _ z⟩
 ·obtain⟨v,z⟩:=I.cell x c e
  exact⟨v,cellK x c e v z⟩
 ·obtain⟨m,⟨o,_,_,ho,_⟩,_⟩:=I.loc
  exact free _ o (λz=>(hch _ z).2.1 rfl) ho I.free
 ·obtain⟨v,o,ho,hd⟩:=I.cell x c e
  exact free c o (λz=>(hch c z).2.2.1 x c e rfl) ho (I.eV x c e)
 ·obtain⟨e,n,ne,nf,d⟩:=I.pin p hp
  have Xj:p.1∉ch:=λz=>(hch p.1 z).2.2.2 p hp rfl
  exact⟨keep p.1 p.2 ne nf Xj e n,free p.1 p.2 Xj e n,ne,nf,d⟩
def Inv.un{t':Nat}(I:Inv X pins σ H s)(u:Un X.fs [] H H' s.heap h')(hok:iM X.prog X.w H' h'):Inv X pins σ H' {s with heap:=h',toks:=t'}:=by
 obtain⟨m,⟨o,es,ep,ho,r⟩,_⟩:=id I.loc
 obtain⟨sl,hL⟩:=u.any ho I.free (by simp)
 exact I.step (g':=s.gens) (d':=s.drawn) (ch:=[]) (λ_ z=>nomatch z) (λb o _ hb _ e n=>u.keep b o e n hb (by simp)) (λb o _ hb _ e n=>u.slot b o e n hb (by simp)) (λb o _ e n=>u.free b o e n (by simp)) (λb o _ e=>u.there b o e (by simp)) u.tups u.oY u.lq (λm' hm=>by
  obtain⟨o',es',ep',ho',r'⟩:=hm
  rw[ho] at ho';cases ho'
  exact⟨_,es',ep',hL,r'⟩) hok I.bare
def Inv.call{g':Array GenState}{t':Nat}{d':Drawn}{ch:List Addr}(I:Inv X pins σ H s)(u:Un (frs X.stack) ch H H' s.heap h')(hok:iM X.prog X.w H' h')(hg:AllBare g')
 (hch:∀b∈ch,(b∈X.ex\/X.s₀.heap.objs.size<=b)/\b≠X.env.locals/\(∀x c,X.env.cells.lookup x=some c->c≠b)/\∀p∈X.pn++pins,p.1≠b) :
 Inv X pins σ H' {s with heap:=h',gens:=g',drawn:=d',toks:=t'}:=by
 obtain⟨m,⟨o,es,ep,ho,r⟩,_⟩:=id I.loc
 obtain⟨sl,hL⟩:=u.any ho I.free λz=>(hch _ z).2.1 rfl
 exact I.step (ch:=ch) hch (λb o hL hb hc e n=>u.keep b o e n (λz=>(List.mem_cons.mp (I.lZ b z)).elim hL hb) hc) (λb o _ _ hc e n=>u.any e n hc) (λb o hc e n=>u.free b o e n hc) (λb o hc e=>u.there b o e hc) u.tups u.oY u.lq (λm' hm=>by
  obtain⟨o',es',ep',ho',r'⟩:=hm
  rw[ho] at ho';cases ho'
  exact⟨_,es',ep',hL,r'⟩) hok hg
def Inv.turned{t':Nat}{it:Addr}(I:Inv X pins σ H s)(k:∀b o,b≠it->s.heap.get? b=some o->h'.get? b=some o)(hn:H it=none)(hL:it≠X.env.locals)
 (h1:it∈X.ex\/X.s₀.heap.objs.size<=it)(h2:∀x c,X.env.cells.lookup x=some c->c≠it)(h3:∀p∈X.pn++pins,p.1≠it):Inv X pins σ H {s with heap:=h',toks:=t'}:=by
 have nit:∀b u,H b=some u->b≠it:=λb u e z=>by rw[z,hn] at e;cases e
 refine I.step (g':=s.gens) (d':=s.drawn) (ch:=[it]) (λb hb=>?_) (λb o _ _ hc e _=>k b o (λz=>hc (by simp[z])) e) (λb o _ _ hc e _=>⟨o.slots,k b o (λz=>hc (by simp[z])) e⟩) (λ_ _ _ _ n=>n)
  (λb o hc e=>⟨o,k b o (λz=>hc (by simp[z])) e⟩) (λ_ _ e=>e) (λ_ _ _ e=>e) (λ_ _ e=>e) (λm hm=>?_) (λb u e=>?_) I.bare
 ·have e:b=it:=by simpa using hb
  subst e
  exact⟨h1,hL,h2,h3⟩
 ·obtain⟨o,es,ep,ho,r⟩:=hm
  exact⟨o,es,ep,k _ o (Ne.symm hL) ho,r⟩
 ·refine(I.hok b u e).stay (λc v hc q=>k c v ?_ q) (λ_ q=>q) λ_ _ q=>q
  rcases hc with z|z
  ·rw[z];exact nit b u e
  ·exact nit c _ z
def Inv.tok(I:Inv X pins σ H s)(t:Nat):Inv X pins σ H {s with toks:=t}:=I.un (h':=s.heap) (t':=t) Un.refl I.hok
theorem Inv.kept{t':Nat}(I:Inv X pins σ H s)(k:∀b u,s.heap.get? b=some u->h'.get? b=some u):Inv X pins σ H {s with heap:=h',toks:=t'}:=I.un (Un.kept k) (I.hok.kept k)
theorem Inv.laid{a:Addr}{o:HO}{t':Nat}(I:Inv X pins σ H s)(k:∀b u,s.heap.get? b=some u->h'.get? b=some u)(hp:s.heap.objs.size<=a)(new:ŧ X.prog X.w (upd H a o) h' a o) :
 Inv X pins σ (upd H a o) {s with heap:=h',toks:=t'}:=I.un (Un.laid k hp (I.hok.fresh hp)) (I.hok.laid k hp new)
theorem Inv.write{x e:Addr}{o:HO}{t':Nat}(I:Inv X pins σ H s)(mu:Mut (H x))(he:e=x\/H e=some (.own x))(k:∀b u,b≠e->s.heap.get? b=some u->h'.get? b=some u)(heo:∃u,h'.get? e=some u)
 (new:ŧ X.prog X.w (upd H x o) h' x o):Inv X pins σ (upd H x o) {s with heap:=h',toks:=t'}:=I.un (Un.write mu he k heo) (I.hok.write mu he k heo new)
def Inv.yF{gJ:List (Addr×Obj)}(I:Inv X pins σ H s)(h:∀p∈gJ,s.heap.get? p.1=some p.2/\H p.1=none/\p.1≠X.env.locals/\p.1∉X.fs/\∀v,p.2.data≠ .cell v):Inv X gJ σ H s:=
 ⟨I.ok,I.os,I.bare,I.base,I.loc,I.cell,I.free,I.eV,λp hp=>(List.mem_append.mp hp).elim (λz=>I.pin p (List.mem_append_left _ z)) (h p),I.hok,I.len⟩
def t_{N:List Str}(hN:N.Nodup){i j:Nat}{x:Str}(a:N[i]?=some x)(b:N[j]?=some x):i=j:=by
 obtain⟨h1,e1⟩:=List.getElem?_eq_some_iff.mp a
 obtain⟨h2,e2⟩:=List.getElem?_eq_some_iff.mp b
 exact(List.getElem_inj hN).mp (e1.trans e2.symm)
def pJ{M:Model}{A:Around}{E:Value->Shared->Prop}{i:Nat}{x:Str}{v:V}{u:Value}{Q:Unit->Shared->Prop}(I:Inv X pins σ H s)(hN:X.N.Nodup)(hi:X.N[i]?=some x)(hx:Loc X.env.scope x)(r:RelV v u)
 (h:∀s',Inv X pins (σ.set i (some v)) H s'->(∃a,Heap.SameBut a s.heap s'.heap/\(a=X.env.locals\/X.env.cells.lookup x=some a))->Q () s')(hf:X.fn x=true\/X.env.scope.names.lookup x=some .local:=by first|exact .inl rfl|exact .inr rfl|assumption):wpAny M A (storeName X.env x u) Q E s:=by
 obtain⟨m,hn,hl⟩:=id I.loc
 have hcls:(X.env.scope.kind== .class || (X.env.scope.kind== .module && X.env.locals != X.env.globals))=false:=by rw[I.ok.kind];rfl
 have Zda:i < σ.length:=by rw[I.len];exact(List.getElem?_eq_some_iff.mp hi).1
 have Rv:=I.Rv
 have tracked:∀{a:Addr} {h':Heap},(∃o,s.heap.get? a=some o/\H a=none)->Heap.SameBut a s.heap h'->iM X.prog X.w H h':=fun{a h'} ha hs b ob e=>by
  obtain⟨_,_,hfree⟩:=ha
  refine(I.hok b ob e).stay (λc w' hc q=>(hs.2 c ?_).trans q) (λ_ q=>q) λ_ _ q=>q
  rintro rfl
  rcases hc with rfl|hc
  ·rw[hfree] at e;cases e
  ·rw[hfree] at hc;cases hc
 rcases hx with hk|hk
 ·refine wpAny_storeName_local hk hn (λh' hn' hs=>?_) hcls
  obtain⟨oL,_,_,hoL,_⟩:=id hn
  refine h _ ⟨I.ok,I.os,I.bare,⟨λb o e n hb hx=>?_,λb o e n hb hx=>?_,I.base.free,λb o e hx=>?_,I.base.tups,I.base.oY,I.base.lq⟩,⟨_,hn',λj y v' e1 e2 e3=>?_⟩,λy c e=>?_,I.free,I.eV,λp hp=>?_,tracked ⟨oL,hoL,I.free⟩ hs,by simpa using I.len⟩ ⟨_,hs,.inl rfl⟩
  ·exact(hs.2 b (Nat.ne_of_lt (Nat.lt_of_lt_of_le (Heap.lt_size e) I.ok.above))).trans (I.base.keep b o e n hb hx)
  ·obtain⟨sl,e1⟩:=I.base.slot b o e n hb hx
   exact⟨sl,(hs.2 b (Nat.ne_of_lt (Nat.lt_of_lt_of_le (Heap.lt_size e) I.ok.above))).trans e1⟩
  ·obtain⟨o',e1⟩:=I.base.there b o e hx
   exact⟨o',(hs.2 b (Nat.ne_of_lt (Nat.lt_of_lt_of_le (Heap.lt_size e) I.ok.above))).trans e1⟩
  ·by_cases hj:j=i
   ·subst hj
    rw[hi] at e1;cases e1
    rw[List.getElem?_set_self Zda] at e2
    cases e2
    exact⟨u,r,.inl ⟨hk,by simp⟩⟩
   ·rw[List.getElem?_set_ne (Ne.symm hj)] at e2
    obtain⟨u',r',q⟩:=hl j y v' e1 e2 e3
    refine⟨u',r',?_⟩
    rcases q with⟨k,e⟩|⟨k,c,e,z⟩
    ·refine .inl ⟨k,?_⟩
     have:y≠x:=λe=>hj (t_ hN e1 (e▸hi))
     simp[this,e]
    ·exact .inr ⟨k,c,e,z.sameBut hs (Rv y c e)⟩
  ·obtain⟨w',z⟩:=I.cell y c e
   exact⟨w',z.sameBut hs (Rv y c e)⟩
  ·obtain⟨e,n,ne,nf,d⟩:=I.pin p hp
   exact⟨(hs.2 p.1 ne).trans e,n,ne,nf,d⟩
 ·have hfn:X.fn x=true:=by
   rcases hf with z|z
   ·exact z
   ·rw[z] at hk;cases hk
  obtain⟨c,hc⟩:=I.ok.has x (.inl hk)
  obtain⟨w',z⟩:=I.cell x c hc
  refine wpAny_storeName_cell I.ok.kind hk hc z (λh' hc' hs=>?_)
  obtain⟨oc,hoc,ZbC⟩:=id z
  refine h {s with heap:=h'} ⟨I.ok,I.os,I.bare,⟨λb o e n hb hx=>?_,λb o e n hb hx=>?_,I.base.free,λb o e hx=>?_,I.base.tups,I.base.oY,I.base.lq⟩,⟨m,hn.sameBut hs (Ne.symm (Rv x c hc)),λj y v' e1 e2 e3=>?_⟩,λy c' e=>?_,I.free,I.eV,λp hp=>?_,tracked ⟨oc,hoc,I.eV x c hc⟩ hs,by simpa using I.len⟩ ⟨c,hs,.inr hc⟩
  ·exact(hs.2 b (Nat.ne_of_lt (Nat.lt_of_lt_of_le (Heap.lt_size e) (I.ok.cab x c hfn hc)))).trans (I.base.keep b o e n hb hx)
  ·obtain⟨sl,e1⟩:=I.base.slot b o e n hb hx
   exact⟨sl,(hs.2 b (Nat.ne_of_lt (Nat.lt_of_lt_of_le (Heap.lt_size e) (I.ok.cab x c hfn hc)))).trans e1⟩
  ·obtain⟨o',e1⟩:=I.base.there b o e hx
   exact⟨o',(hs.2 b (Nat.ne_of_lt (Nat.lt_of_lt_of_le (Heap.lt_size e) (I.ok.cab x c hfn hc)))).trans e1⟩
  ·by_cases hj:j=i
   ·subst hj
    rw[hi] at e1;cases e1
    rw[List.getElem?_set_self Zda] at e2
    cases e2
    exact⟨u,r,.inr ⟨.inl hk,c,hc,hc'⟩⟩
   ·rw[List.getElem?_set_ne (Ne.symm hj)] at e2
    obtain⟨u',r',q⟩:=hl j y v' e1 e2 e3
    refine⟨u',r',?_⟩
    rcases q with q|⟨k,c',e,z'⟩
    ·exact .inl q
    ·refine .inr ⟨k,c',e,z'.sameBut hs ?_⟩
     rintro rfl
     exact hj (t_ hN e1 (I.ok.inj _ _ _ e hc▸hi))
  ·by_cases hcc:c'=c
   ·subst hcc;exact⟨_,hc'⟩
   ·obtain⟨w2,z2⟩:=I.cell y c' e
    exact⟨w2,z2.sameBut hs hcc⟩
  ·obtain⟨e,n,ne,nf,d⟩:=I.pin p hp
   refine⟨(hs.2 p.1 ?_).trans e,n,ne,nf,d⟩
   intro q
   rw[q,hoc] at e
   have q':oc=p.2:=Option.some.inj e
   exact d w' (by rw[<-q'];exact ZbC)
def mj{M:Model}{A:Around}{E:Value->Shared->Prop}{i:Nat}{x:Str}{v:V}{u:Value}{Q:Unit->Shared->Prop}(I:Inv X pins σ H s)(hN:X.N.Nodup)(hi:X.N[i]?=some x)(hx:Loc X.env.scope x)(r:RelV v u)
 (h:∀s',Inv X pins (σ.set i (some v)) H s'->Q () s')(hf:X.fn x=true\/X.env.scope.names.lookup x=some .local:=by first|exact .inl rfl|exact .inr rfl|assumption):wpAny M A (storeName X.env x u) Q E s:=
 pJ I hN hi hx r (λs' I' _=>h s' I') hf
def Inv.call'{s':Shared}{ch:List Addr}(I:Inv X pins σ H s)(ho:s'.os=s.os)(u:Un (frs X.stack) ch H H' s.heap s'.heap)(hok:iM X.prog X.w H' s'.heap)(hg:AllBare s'.gens)
 (hch:∀b∈ch,(b∈X.ex\/X.s₀.heap.objs.size<=b)/\b≠X.env.locals/\(∀x c,X.env.cells.lookup x=some c->c≠b)/\∀p∈X.pn++pins,p.1≠b):Inv X pins σ H' s':=by
 obtain⟨h',g',d',t',o'⟩:=s'
 have e:o'=s.os:=ho
 subst e
 exact I.call (g':=g') (t':=t') (d':=d') u hok hg hch
end
abbrev XK:=Value->Option Addr->Hp->Prop
abbrev St:=List (Option V)
abbrev VK:=V->Hp->Prop
abbrev TE:=St->Hp->VK->Prop
abbrev TT:=St->Hp->(Bool->Hp->Prop)->Prop
abbrev TA:=St->Hp->(List V->Hp->Prop)->Prop
structure Ends where
 nx:St->Hp->Prop
 rt:VK
 bk:St->Hp->Prop:=λ_ _=>False
 ct:St->Hp->Prop:=λ_ _=>False
abbrev TS:=Ends->St->Hp->Prop
def EP(X:Cx)(pins:List (Addr×Obj))(σ:St)(Q:VK)(u:Value)(s':Shared):Prop:=∃v H',Inv X pins σ H' s'/\RelV v u/\Q v H'
def TP(X:Cx)(pins:List (Addr×Obj))(σ:St)(Q:Bool->Hp->Prop)(b:Bool)(s':Shared):Prop:=∃H',Inv X pins σ H' s'/\Q b H'
def AP(X:Cx)(pins:List (Addr×Obj))(σ:St)(Q:List V->Hp->Prop)(us:List Value)(s':Shared):Prop:=∃vs H',Inv X pins σ H' s'/\Vals vs us/\Q vs H'
def SP(X:Cx)(pins:List (Addr×Obj))(D:Ends)(f:Flow)(s':Shared):Prop:=
 match f with
 | .next=>∃σ' H',Inv X pins σ' H' s'/\D.nx σ' H'
 | .brk=>∃σ' H',Inv X pins σ' H' s'/\D.bk σ' H'
 | .cont=>∃σ' H',Inv X pins σ' H' s'/\D.ct σ' H'
 | .ret u=>∃v σ' H',Inv X pins σ' H' s'/\RelV v u/\D.rt v H'
def PE(X:Cx)(e:Expr)(t:TE):Prop:=
 ∀(pins:List (Addr×Obj)) (s:Shared) (σ:St) (H:Hp) (Q:VK),Inv X pins σ H s->t σ H Q->wpAny (model X.prog X.w) X.A (eval e X.env) (EP X pins σ Q) X.xe s
def PT(X:Cx)(e:Expr)(t:TT):Prop:=
 ∀(pins:List (Addr×Obj)) (s:Shared) (σ:St) (H:Hp) (Q:Bool->Hp->Prop),Inv X pins σ H s->t σ H Q->wpAny (model X.prog X.w) X.A (isTrue e X.env (eval e X.env)) (TP X pins σ Q) X.xe s
def PW(X:Cx)(e:Expr)(t:TT):Prop:=
 ∀(whole:Sem Value) (pins:List (Addr×Obj)) (s:Shared) (σ:St) (H:Hp) (Q:Bool->Hp->Prop),Inv X pins σ H s->t σ H Q->wpAny (model X.prog X.w) X.A (isTrue e X.env whole) (TP X pins σ Q) X.xe s
def PW.pt{X:Cx}{e:Expr}{t:TT}(h:PW X e t):PT X e t:=h _
def PA(X:Cx)(es:List Expr)(t:TA):Prop:=
 ∀(pos:Pos) (pins:List (Addr×Obj)) (s:Shared) (σ:St) (H:Hp) (Q:List V->Hp->Prop),Inv X pins σ H s->t σ H Q->wpAny (model X.prog X.w) X.A (spliced (backTo pos (starEach es X.env))) (AP X pins σ Q) X.xe s
def PS(X:Cx)(st:Stmt)(t:TS):Prop:=
 ∀(pins:List (Addr×Obj)) (s:Shared) (σ:St) (H:Hp) (D:Ends),Inv X pins σ H s->t D σ H->wpAny (model X.prog X.w) X.A (exec st X.env) (SP X pins D) X.xe s
def gK(X:Cx)(st:List Stmt)(t:TS):Prop:=
 ∀(pins:List (Addr×Obj)) (s:Shared) (σ:St) (H:Hp) (D:Ends),Inv X pins σ H s->t D σ H->wpAny (model X.prog X.w) X.A (execs st X.env) (SP X pins D) X.xe s
def ő{α:Type}{t:Sem α}{Q Q':α->Shared->Prop}{M:Model}{A:Around}{E:Value->Shared->Prop}{s:Shared}(h:wpAny M A t Q E s)(hQ:∀a s,Q a s->Q' a s):wpAny M A t Q' E s:=wpAny_mono h hQ λ_ _ x=>x
end L2
namespace L2
open PySem PySem.Spec PyProof.Rows
section
variable{X:Cx}
def zX(i:Nat):TE:=λσ H Q=>∃v,σ[i]?=some (some v)/\Q v H
def tC(v:V):TE:=λ_ H Q=>Q v H
def eX{i:Nat}{x:Str}{pos:Pos}(hN:X.N[i]?=some x)(hv:yE X.env.scope x)(hd:(x== ("__debug__" :Str))=false:=by decide)(hcd:(x== ("__classdict__" :Str))=false:=by decide):PE X (.Name x pos) (zX i):=by
 intro pins s σ H Q I h
 obtain⟨v,e,h⟩:=h
 obtain⟨m,hn,hl⟩:=I.loc
 obtain⟨u,r,l⟩:=hl i x v hN e hv
 have fin:EP X pins σ Q u s:=⟨v,H,I,r,h⟩
 rcases l with⟨hk,hm⟩|⟨hk,c,hc,hcell⟩
 ·exact wpAny_Name (wpAny_loadName_local I.ok.kind hk hn hm fin) hd
 ·rcases hk with hk|hk
  ·exact wpAny_Name (wpAny_loadName_cell I.ok.kind hk hc hcell fin) hd
  ·exact wpAny_Name (wpAny_loadName_free I.ok.kind hk hc hcell fin hcd) hd
def Bm{i j pos}:PE X (.Constant (.int i) j pos) (tC (.int i)):=λ_ _ _ H _ I h=>wpAny_Constant_int ⟨.int i,H,I.tok _,⟨_,rfl⟩,h⟩
def Xk{b j pos}:PE X (.Constant (.bool b) j pos) (tC (.bl b)):=λ_ _ _ H _ I h=>Constant_bool ⟨.bl b,H,I,rfl,h⟩
def Rw{j pos}:PE X (.Constant .none j pos) (tC .non):=λ_ _ _ H _ I h=>Constant_none ⟨.non,H,I,rfl,h⟩
def Rx{x j pos}:PE X (.Constant (.str x) j pos) (tC (.str x)):=λ_ _ _ H _ I h=>Calls.Constant_str ⟨.str x,H,I.tok _,⟨_,rfl⟩,h⟩
def Gl(X:Cx)(x:Str):Prop:=X.env.kindOf x=some .globalImplicit
def qN{E:Value->Shared->Prop}{pins:List (Addr×Obj)}{s:Shared}{σ:St}{H:Hp}{x:Str}{u:Value}{pos:Pos}{Q:Value->Shared->Prop}(I:Inv X pins σ H s)(hg:Gl X x)(hm:X.mg x=some u)(h:Q u s)
 (hd:(x== ("__debug__" :Str))=false:=by decide):wpAny (model X.prog X.w) X.A (eval (.Name x pos) X.env) Q E s:=
 Calls.Name_function_global I.ok.kind hg (Calls.loadGlobal_global (by rw[I.ok.glob];exact I.mod.glob.keeps I.bk) hm h) hd
def eY{E:Value->Shared->Prop}{pins:List (Addr×Obj)}{s:Shared}{σ:St}{H:Hp}{x:Str}{u:Value}{pos:Pos}{Q:Value->Shared->Prop}(I:Inv X pins σ H s)(hg:Gl X x)(hm:X.mg x=none)(hv:bootBuiltins x=some u)(h:Q u s)
 (hn:x≠ "__name__" := by decide)(hd:(x== ("__debug__" :Str))=false:=by decide):wpAny (model X.prog X.w) X.A (eval (.Name x pos) X.env) Q E s:=by
 obtain⟨mb,h1,h2⟩:=I.mod.blt
 exact Calls.Name_function_global I.ok.kind hg (Calls.loadGlobal_builtin (by rw[I.ok.glob];exact I.mod.glob.keeps I.bk) hm (by rw[I.ok.blt];exact h1.keeps I.bk) ((h2 x hn).trans hv) h) hd
def iR{x:Str}{v:V}{u:Value}{pos:Pos}(hg:Gl X x)(hm:X.mg x=some u)(r:RelV v u)(hd:(x== ("__debug__" :Str))=false:=by decide):PE X (.Name x pos) (tC v):=
 λ_ _ _ H _ I h=>qN I hg hm ⟨v,H,I,r,h⟩ hd
def iT{x:Str}{v:V}{u:Value}{pos:Pos}(hg:Gl X x)(hm:X.mg x=none)(hv:bootBuiltins x=some u)(r:RelV v u)(hn:x≠ "__name__" := by decide)(hd:(x== ("__debug__" :Str))=false:=by decide):PE X (.Name x pos) (tC v):=
 λ_ _ _ H _ I h=>eY I hg hm hv ⟨v,H,I,r,h⟩ hn hd
variable{a b:Expr}{ta tb:TE}{pos:Pos}
variable{tA tB':TT}{rest:List Expr}
def ZbD(t u:TT):TT:=λσ H Q=>t σ H λc H1=>if c=true then u σ H1 Q else Q false H1
def tOr(t u:TT):TT:=λσ H Q=>t σ H λc H1=>if c=true then Q true H1 else u σ H1 Q
def ZbE(t:TT):TT:=λσ H Q=>t σ H λc H1=>Q (!c) H1
def Ia(ha:PT X a tA):PW X (.BoolOp .And [a] pos) tA:=by
 intro wh pins s σ H Q I h
 refine isTrue_and (ő (ha pins s σ H Q I h) λc s1 e=>?_)
 cases c with
 |true=>exact isTrue_and_nil e
 |false=>exact e
def Ry(ha:PT X a tA):PW X (.BoolOp .Or [a] pos) tA:=by
 intro wh pins s σ H Q I h
 refine isTrue_or (ő (ha pins s σ H Q I h) λc s1 e=>?_)
 cases c with
 |false=>exact isTrue_or_nil e
 |true=>exact e
def Rz(ha:PT X a tA)(hb:PW X (.BoolOp .And (b::rest) pos) tB'):PW X (.BoolOp .And (a::b::rest) pos) (ZbD tA tB'):=by
 intro wh pins s σ H Q I h
 refine isTrue_and (ő (ha pins s σ H _ I h) λc s1 ⟨H1,I1,q1⟩=>?_)
 cases c with
 |true=>exact hb wh pins s1 σ H1 Q I1 q1
 |false=>exact⟨H1,I1,q1⟩
def Xl(ha:PT X a tA)(hb:PW X (.BoolOp .Or (b::rest) pos) tB'):PW X (.BoolOp .Or (a::b::rest) pos) (tOr tA tB'):=by
 intro wh pins s σ H Q I h
 refine isTrue_or (ő (ha pins s σ H _ I h) λc s1 ⟨H1,I1,q1⟩=>?_)
 cases c with
 |true=>exact⟨H1,I1,q1⟩
 |false=>exact hb wh pins s1 σ H1 Q I1 q1
def RD(ha:PT X a tA):PT X (.UnaryOp .Not a pos) (ZbE tA):=by
 intro pins s σ H Q I h
 exact isTrue_not (ha pins s σ H (λc H1=>Q (!c) H1) I h)
def RJ{op}{t:TE}(h:PE X a t):PE X (.BoolOp op [a] pos) t:=λpins s σ H Q I hw=>BoolOp_one (h pins s σ H Q I hw)
def tIf(t:TT)(ta tb:TE):TE:=λσ H Q=>t σ H λc H1=>if c=true then ta σ H1 Q else tb σ H1 Q
def Bo{c:Expr}(hc:PT X c tA)(ha:PE X a ta)(hb:PE X b tb):PE X (.IfExp c a b pos) (tIf tA ta tb):=by
 intro pins s σ H Q I h
 refine wpAny_IfExp (ő (hc pins s σ H _ I h) λd s1 ⟨H1,I1,q1⟩=>?_)
 cases d with
 |true=>exact ha pins s1 σ H1 Q I1 q1
 |false=>exact hb pins s1 σ H1 Q I1 q1
end
end L2
namespace L2
open PySem PySem.Spec PyProof.Rows
def Ũ(K:PySem.W.Frag)(H:Hp)(a:Addr)(xs:List V):Prop:=
 Rd H a (.lst xs)\/
  ∃(o:Obj) (its:Array Value) (n:Nat),K.lookup a=some o/\o.cls=.type "list" /\o.dict=none/\o.data=.seq its n/\its.size<=sizeLine/\Vals xs its.toList
def cY(K:PySem.W.Frag)(H:Hp)(a:Addr)(xs:List V):Prop:=
 Rd H a (.tup xs)\/
  ∃(o:Obj) (its:Array Value) (n:Nat),K.lookup a=some o/\o.cls=.type "tuple" /\o.data=.seq its n/\its.size<=sizeLine/\Vals xs its.toList
def ZbF:Value->Option V
 | .none=>some .non
 | .bool b=>some (.bl b)
 | .int i _=>some (.int i)
 | .str x _=>some (.str x)
 | .bytes b _=>some (.HW b)
 | .float b _=>some (.flt b)
 | .ref a=>some (.ref a)
 | .type n=>some (.ty n)
 |_=>none
def RelV.abs{x:V}{u:Value}(r:RelV x u):ZbF u=some x:=by
 cases x with
 |non=>cases r;rfl
 |bl _=>cases r;rfl
 |int _=>obtain⟨t,rfl⟩:=r;rfl
 |str _=>obtain⟨t,rfl⟩:=r;rfl
 |HW _=>obtain⟨t,rfl⟩:=r;rfl
 |flt _=>obtain⟨t,rfl⟩:=r;rfl
 |ref _=>cases r;rfl
 |ty _=>cases r;rfl
theorem RelV.inj{x y:V}{u:Value}(r:RelV x u)(q:RelV y u):x=y:=Option.some.inj (r.abs.symm.trans q.abs)
theorem Vals.inj:∀{xs ys:List V} {us:List Value},Vals xs us->Vals ys us->xs=ys
 |_,_,_,.nil,.nil=>rfl
 |_,_,_,.cons r t,.cons r' t'=>by rw[r.inj r',Vals.inj t t']
section
variable{X:Cx}{pins:List (Addr×Obj)}{σ:St}{H:Hp}{s:Shared}{a:Addr}{xs ys:List V}
def Ũ.of{K:PySem.W.Frag}(h:H a=some (.lst xs)):Ũ K H a xs:=.inl (.inl h)
def cY.of{K:PySem.W.Frag}(h:H a=some (.tup xs)):cY K H a xs:=.inl (.inl h)
def Inv.list(I:Inv X pins σ H s)(h:Ũ X.K H a xs):∃its:List Value,Vals xs its/\PlainL s.heap a its.toArray/\xs.length<=sizeLine:=by
 rcases h with h|⟨o,its,n,hk,hc,hd,hs,hz,r⟩
 ·obtain⟨z,its,n,r,e⟩:=h.ok I.hok
  exact⟨its,r,⟨_,n,e,rfl,rfl,rfl⟩,z⟩
 ·refine⟨its.toList,r,⟨o,n,I.jY a o hk,hc,hd,by simpa using hs⟩,?_⟩
  have e:=r.length
  simp only[Array.length_toList] at e
  omega
def Inv.tuple(I:Inv X pins σ H s)(h:cY X.K H a xs):∃its:List Value,Vals xs its/\IsTup s.heap a its.toArray/\xs.length<=sizeLine:=by
 rcases h with h|⟨o,its,n,hk,hc,hs,hz,r⟩
 ·obtain⟨z,its,r,p⟩:=h.ok I.hok
  exact⟨its,r,p,z⟩
 ·refine⟨its.toList,r,⟨o,I.jY a o hk,hc,n,by simpa using hs⟩,?_⟩
  have e:=r.length
  simp only[Array.length_toList] at e
  omega
def Inv.uc(I:Inv X pins σ H s)(h:Ũ X.K H a xs)(h':Ũ X.K H a ys):xs=ys:=by
 obtain⟨its,r,⟨o,n,e,_,_,d⟩,_⟩:=I.list h
 obtain⟨its',r',⟨o',n',e',_,_,d'⟩,_⟩:=I.list h'
 rw[e] at e';cases e'
 rw[d] at d'
 injection d' with d1 _
 have:its=its':=by simpa using congrArg Array.toList d1
 subst this
 exact r.inj r'
def Inv.zY(I:Inv X pins σ H s)(h:cY X.K H a xs)(h':cY X.K H a ys):xs=ys:=by
 obtain⟨its,r,⟨o,e,_,n,d⟩,_⟩:=I.tuple h
 obtain⟨its',r',⟨o',e',_,n',d'⟩,_⟩:=I.tuple h'
 rw[e] at e';cases e'
 rw[d] at d'
 injection d' with d1 _
 have:its=its':=by simpa using congrArg Array.toList d1
 subst this
 exact r.inj r'
end
abbrev Cx.wish(X:Cx)(E:Value->Shared->Prop):Cx:={X with xe:=E}
abbrev Cx.Ŏ(X:Cx):Cx:=X.wish λ_ _=>False
theorem Cx.Ok.wish{X:Cx}(ok:X.Ok)(E:Value->Shared->Prop):(X.wish E).Ok:=
 ⟨ok.mod,ok.kind,ok.glob,ok.blt,ok.above,ok.inj,ok.has,ok.cab,ok.hd,ok.frames,ok.stk,ok.exf,ok.bs,ok.Hz,ok.Bl,ok.H_,ok.lu,ok.Ru,ok.tb⟩
def Cx.Ok.cZ{X:Cx}{E:Value->Shared->Prop}(ok:(X.wish E).Ok):X.Ok:=
 ⟨ok.mod,ok.kind,ok.glob,ok.blt,ok.above,ok.inj,ok.has,ok.cab,ok.hd,ok.frames,ok.stk,ok.exf,ok.bs,ok.Hz,ok.Bl,ok.H_,ok.lu,ok.Ru,ok.tb⟩
section
variable{X:Cx}{pins:List (Addr×Obj)}{σ:St}{H:Hp}{s:Shared}{E:Value->Shared->Prop}
theorem Inv.wish(I:Inv X pins σ H s)(E:Value->Shared->Prop):Inv (X.wish E) pins σ H s:=⟨I.ok.wish E,I.os,I.bare,I.base,I.loc,I.cell,I.free,I.eV,I.pin,I.hok,I.len⟩
theorem Inv.cZ(I:Inv (X.wish E) pins σ H s):Inv X pins σ H s:=⟨I.ok.cZ,I.os,I.bare,I.base,I.loc,I.cell,I.free,I.eV,I.pin,I.hok,I.len⟩
theorem SP.cZ{D:Ends}{f:Flow}{s':Shared}(h:SP (X.wish E) pins D f s'):SP X pins D f s':=by
 cases f with
 |next=>obtain⟨σ',H',I,q⟩:=h;exact⟨σ',H',I.cZ,q⟩
 |brk=>obtain⟨σ',H',I,q⟩:=h;exact⟨σ',H',I.cZ,q⟩
 |cont=>obtain⟨σ',H',I,q⟩:=h;exact⟨σ',H',I.cZ,q⟩
 |ret u=>obtain⟨v,σ',H',I,r,q⟩:=h;exact⟨v,σ',H',I.cZ,r,q⟩
theorem PE.Ŏ{e:Expr}{t:TE}(h:PE X.Ŏ e t):PE X e t:=λpins s σ H Q I hw=>
 wpAny_mono (h pins s σ H Q (I.wish _) hw) (λ_ _ ⟨v,H',I',r,q⟩=>⟨v,H',I'.cZ,r,q⟩) λ_ _ z=>False.elim z
end
section
variable{X:Cx}{st:Stmt}{rest:List Stmt}{t u:TS}{e:Expr}{te:TE}{pos:Pos}
def Xm:TS:=λD σ H=>D.nx σ H
def ZbG(t u:TS):TS:=λD σ H=>t {D with nx:=u D} σ H
def Ib:gK X [] Xm:=λ_ _ σ H _ I h=>wpAny_execs_nil ⟨σ,H,I,h⟩
def Bp(h1:PS X st t)(h2:gK X rest u):gK X (st::rest) (ZbG t u):=by
 intro pins s σ H D I h
 refine wpAny_execs_cons (ő (h1 pins s σ H {D with nx:=u D} I h) λf s1 q=>?_)
 cases f with
 |next=>
  obtain⟨σ',H',I',q⟩:=q
  exact h2 pins s1 σ' H' D I' q
 |ret v=>exact q
 |brk=>exact q
 |cont=>exact q
def Ie(h1:PS X st t):gK X [st] t:=by
 intro pins s σ H D I h
 refine wpAny_execs_cons (ő (h1 pins s σ H D I h) λf s1 q=>?_)
 cases f with
 |next=>exact wpAny_execs_nil q
 |ret v=>exact q
 |brk=>exact q
 |cont=>exact q
def Inv.quiet{pins:List (Addr×Obj)}{σ:St}{H:Hp}{s:Shared}(I:Inv X pins σ H s):interactive X.env=false:=by simp[interactive,I.ok.kind]
def Bq(te:TE):TS:=λD σ H=>te σ H λ_ H1=>D.nx σ H1
def Ÿ(he:PE X e te)(hs:swapsWith e none pos.line X.env=pure false:=by rfl):PS X (.Expr e pos) (Bq te):=by
 intro pins s σ H D I h
 exact wpAny_Expr_any (ő (he pins s σ H _ I h) λv s1 ⟨x,H1,I1,r1,q1⟩=>⟨σ,H1,I1,q1⟩) I.quiet hs
def ZbH(te:TE):TS:=λD σ H=>te σ H D.rt
def RK(he:PE X e te):PS X (.Return (some e) pos) (ZbH te):=by
 intro pins s σ H D I h
 exact wpAny_Return_some (ő (he pins s σ H _ I h) λv s1 ⟨x,H1,I1,r1,q1⟩=>⟨x,σ,H1,I1,r1,q1⟩)
def ZbI(c:TT)(t u:TS):TS:=λD σ H=>c σ H λb H1=>if b=true then t D σ H1 else u D σ H1
def Xn{c:Expr}{a b:List Stmt}{tc:TT}(hc:PT X c tc)(ha:gK X a t)(hb:gK X b u):PS X (.If c a b pos) (ZbI tc t u):=by
 intro pins s σ H D I h
 refine wpAny_If (ő (hc pins s σ H _ I h) λd s1 ⟨H1,I1,q1⟩=>?_)
 cases d with
 |true=>exact ha pins s1 σ H1 D I1 q1
 |false=>exact hb pins s1 σ H1 D I1 q1
def RL:TS:=λ_ _ _=>False
def Br:PS X st RL:=λ_ _ _ _ _ _ h=>h.elim
end
abbrev TG:=V->St->Hp->(St->Hp->Prop)->Prop
abbrev Bt:=List V->St->Hp->(St->Hp->Prop)->Prop
def PG(X:Cx)(target:Expr)(t:TG):Prop:=
 ∀(pins:List (Addr×Obj)) (s:Shared) (σ:St) (H:Hp) (v:V) (u:Value) (Q:St->Hp->Prop),Inv X pins σ H s->RelV v u->t v σ H Q->
  wpAny (model X.prog X.w) X.A (assign target X.env u) (λ_ s'=>∃σ' H',Inv X pins σ' H' s'/\Q σ' H') X.xe s
def vK(X:Cx)(ts:List Expr)(t:Bt):Prop:=
 ∀(pins:List (Addr×Obj)) (s:Shared) (σ:St) (H:Hp) (vs:List V) (us:List Value) (Q:St->Hp->Prop),Inv X pins σ H s->Vals vs us->t vs σ H Q->
  wpAny (model X.prog X.w) X.A (assignInOrder ((assignEach ts X.env).map (·.2)) us) (λ_ s'=>∃σ' H',Inv X pins σ' H' s'/\Q σ' H') X.xe s
abbrev TIp:=V->V->Hp->VK->Prop
def PIp(X:Cx)(op:Operator)(t:TIp):Prop:=
 ∀(pins:List (Addr×Obj)) (s:Shared) (σ:St) (H:Hp) (x y:V) (v u:Value) (Q:VK),Inv X pins σ H s->RelV x v->RelV y u->t x y H Q->
  wpAny (model X.prog X.w) X.A (inplaceOp op v u) (EP X pins σ Q) X.xe s
section
variable{X:Cx}{pos:Pos}
def Kw(i:Nat):TG:=λv σ H Q=>Q (σ.set i (some v)) H
def Ig{i:Nat}{x:Str}(hN:X.N.Nodup)(hi:X.N[i]?=some x)(hx:Loc X.env.scope x)(hf:X.fn x=true\/X.env.scope.names.lookup x=some .local:=by first|exact .inl rfl|exact .inr rfl|assumption):PG X (.Name x pos) (Kw i):=by
 intro pins s σ H v u Q I r h
 exact wpAny_assign_Name (mj I hN hi hx r (λs' I'=>⟨_,H,I',h⟩) hf)
def ZbJ:Bt:=λvs σ H Q=>vs=[]/\Q σ H
def Xo(t:TG)(u:Bt):Bt:=λvs σ H Q=>∃v r,vs=v::r/\t v σ H λσ' H'=>u r σ' H' Q
def Ih:vK X [] ZbJ:=by
 intro pins s σ H vs us Q I r h
 obtain⟨e,h⟩:=h
 subst e
 cases r
 exact assignInOrder_nil ⟨σ,H,I,h⟩
def Bu{e:Expr}{es:List Expr}{t:TG}{u:Bt}(h1:PG X e t)(h2:vK X es u)
 (hs:(assignEach (e::es) X.env).map (·.2)=assign e X.env::(assignEach es X.env).map (·.2):=by rfl):vK X (e::es) (Xo t u):=by
 intro pins s σ H vs us Q I r h
 obtain⟨v,vr,e1,h⟩:=h
 subst e1
 cases r with
 |cons r rr=>
  rw[hs]
  refine assignInOrder_cons (ő (h1 pins s σ H _ _ _ I r h) λ_ s1 ⟨σ1,H1,I1,q1⟩=>?_)
  exact h2 pins s1 σ1 H1 _ _ Q I1 rr q1
def ZbK(K:PySem.W.Frag)(n:Nat)(t:Bt):TG:=λv σ H Q=>∃a xs,v=.ref a/\cY K H a xs/\xs.length=n/\t xs σ H Q
def Bv{es:List Expr}{k:Nat}{t:Bt}{n:Nat}(hc:X.calm=true)(h:vK X es t)
 (hn:(assignEach es X.env).length=n:=by rfl)(hst:(assignEach es X.env).findIdx? (·.1)=none:=by rfl):PG X (.Tuple es k pos) (ZbK X.K n t):=by
 intro pins s σ H v u Q I r hw
 obtain⟨a,xs,e1,hq,hl,hw⟩:=hw
 subst e1
 cases r
 obtain⟨its,rv,ht,hz⟩:=I.tuple hq
 refine assign_Tuple_tuple (I.ok.hd hc) ht (by simp[hn,<-hl,rv.length]) hst λh' hx=>?_
 have I1:Inv X pins σ H {s with heap:=h'}:=I.kept (t':=s.toks) λb o e=>hx b o (Nat.ne_of_lt (Heap.lt_size e)) e
 exact h pins _ σ H xs _ Q I1 (by simpa using rv) hw
def Xp(te:TE)(g:TG):TS:=λD σ H=>te σ H λx H1=>g x σ H1 D.nx
def RM{tg e:Expr}{te:TE}{g:TG}(he:PE X e te)(hg:PG X tg g)(hs:swapsWithSole [tg] e pos.line X.env=pure false:=by rfl)(hw:swappedStores [tg] e X.env=pure none:=by rfl)
 (h1:(assignEach [tg] X.env).map (·.2)=[assign tg X.env]:=by rfl):PS X (.Assign [tg] e pos) (Xp te g):=by
 intro pins s σ H D I h
 refine wpAny_Assign_stores (ő (he pins s σ H _ I h) λv s1 ⟨x,H1,I1,r1,q1⟩=>?_) hs hw
 rw[h1]
 exact ő (hg pins s1 σ H1 x v _ I1 r1 q1) λ_ s2 q=>q
def RN{i:Nat}{x:Str}{e:Expr}{te:TE}{pos':Pos}(hN:X.N.Nodup)(hi:X.N[i]?=some x)(hx:Loc X.env.scope x)(he:PE X e te)(hs:swapsWith e (some (.Name x pos')) pos.line X.env=pure false:=by rfl)(hf:X.fn x=true\/X.env.scope.names.lookup x=some .local:=by first|exact .inl rfl|exact .inr rfl|assumption) :
 PS X (.Assign [.Name x pos'] e pos) (Xp te (Kw i)):=by
 intro pins s σ H D I h
 refine wpAny_Assign_Name (ő (he pins s σ H _ I h) λv s1 ⟨y,H1,I1,r1,q1⟩=>?_) hs
 exact mj I1 hN hi hx r1 (λs2 I2=>⟨_,H1,I2,q1⟩) hf
def ZbL(i:Nat)(te:TE)(ti:TIp):TS:=λD σ H=>∃x,σ[i]?=some (some x)/\te σ H λy H1=>ti x y H1 λz H2=>D.nx (σ.set i (some z)) H2
def RP{i:Nat}{x:Str}{e:Expr}{te:TE}{op:Operator}{ti:TIp}{pos':Pos}(hN:X.N.Nodup)(hi:X.N[i]?=some x)(hx:Loc X.env.scope x)(he:PE X e te)(ho:PIp X op ti)(hf:X.fn x=true\/X.env.scope.names.lookup x=some .local:=by first|exact .inl rfl|exact .inr rfl|assumption) :
 PS X (.AugAssign (.Name x pos') op e pos) (ZbL i te ti):=by
 intro pins s σ H D I h
 obtain⟨v,e1,h⟩:=h
 obtain⟨m,hn,hl⟩:=I.loc
 have vis:yE X.env.scope x:=by rcases hx with k|k;exact .inl k;exact .inr (.inl k)
 obtain⟨u,r,l⟩:=hl i x v hi e1 vis
 refine wpAny_AugAssign_Name ?_
 have go:wpAny (model X.prog X.w) X.A (eval e X.env) (λw s₂=>wpAny (model X.prog X.w) X.A (inplaceOp op u w) (λr s₃=>wpAny (model X.prog X.w) X.A (storeName X.env x r) (λ_=>SP X pins D .next) X.xe s₃) X.xe s₂) X.xe s:=by
  refine ő (he pins s σ H _ I h) λw s1 ⟨y,H1,I1,r1,q1⟩=>?_
  refine ő (ho pins s1 σ H1 v y u w _ I1 r r1 q1) λz s2 ⟨zv,H2,I2,r2,q2⟩=>?_
  exact mj I2 hN hi hx r2 (λs3 I3=>⟨_,H2,I3,q2⟩) hf
 rcases l with⟨hk,hm⟩|⟨hk,c,hc,hcell⟩
 ·exact wpAny_loadName_local I.ok.kind hk hn hm go
 ·rcases hk with hk|hk
  ·exact wpAny_loadName_cell I.ok.kind hk hc hcell go
  ·rcases hx with k|k
   ·have:X.env.scope.names.lookup x=some .free:=hk
    rw[k] at this;cases this
   ·have:X.env.scope.names.lookup x=some .free:=hk
    rw[k] at this;cases this
def ipI(f:Int->Int->Int):TIp:=λx y H Q=>∃i j,x=.int i/\y=.int j/\Q (.int (f i j)) H
end
section
variable{X:Cx}{pos:Pos}
def RQ(c:TT)(tb:TS):TS:=λD σ H=>∃W:Nat->St->Hp->Prop,(∃m,W m σ H)/\∀m σ H,W m σ H->
 c σ H λb H1=>if b=true then ∃N:St->Hp->Prop,(∀σ' H',N σ' H'->∃m',m'<m/\W m' σ' H')/\tb {D with nx:=N,ct:=N,bk:=D.nx} σ H1 else D.nx σ H1
def Bw{c:Expr}{body:List Stmt}{tc:TT}{tb:TS}(hp:PassesOwn (model X.prog X.w) X.A X.env X.xe)(hc:PT X c tc)(hb:gK X body tb):PS X (.While c body [] pos) (RQ tc tb):=by
 intro pins s σ H D I h
 obtain⟨W,⟨m0,w0⟩,turn⟩:=h
 refine wpAny_While (codeAny_whileLoop (λn s'=>∃σ' H',Inv X pins σ' H' s'/\W n σ' H') ?_ m0 ⟨σ,H,I,w0⟩)
 rintro n s1 ⟨σ1,H1,I1,w1⟩
 refine wpAny_passesOwn hp (ő (hc pins s1 σ1 H1 _ I1 (turn n σ1 H1 w1)) λb s2 ⟨H2,I2,q2⟩=>?_)
 cases b with
 |true=>
  obtain⟨N,hN,q2⟩:=q2
  rw[if_pos rfl]
  refine wpAny_passesOwn hp (ő (hb pins s2 σ1 H2 _ I2 q2) λf s3 q3=>?_)
  cases f with
  |next=>
   obtain⟨σ3,H3,I3,n3⟩:=q3
   obtain⟨m',hm,w3⟩:=hN σ3 H3 n3
   exact⟨m',hm,σ3,H3,I3,w3⟩
  |cont=>
   obtain⟨σ3,H3,I3,n3⟩:=q3
   obtain⟨m',hm,w3⟩:=hN σ3 H3 n3
   exact⟨m',hm,σ3,H3,I3,w3⟩
  |brk=>exact q3
  |ret v=>exact q3
 |false=>
  rw[if_neg Bool.false_ne_true]
  exact wpAny_execs_nil ⟨σ1,H2,I2,q2⟩
end
structure It where
 go:Nat->Hp->Prop
 yld:Nat->Hp->V->Hp->Prop
 stop:Nat->Hp->Prop
def bU(X:Cx)(pins:List (Addr×Obj))(H:Hp)(b:Addr):Prop:=
 H b=none/\b≠X.env.locals/\b∉X.fs/\(b∈X.ex\/X.s₀.heap.objs.size<=b)/\(∀x c,X.env.cells.lookup x=some c->c≠b)/\∀p∈X.pn++pins,p.1≠b
def Inv.qO{X:Cx}{pins:List (Addr×Obj)}{σ:St}{H H':Hp}{s:Shared}{b:Addr}(I:Inv X pins σ H s)(hb:s.heap.objs.size<=b)(hn:H' b=none):bU X pins H' b:=by
 refine⟨hn,Nat.ne_of_gt (Nat.lt_of_lt_of_le I.lt hb),I.ZbB hb,.inr (Nat.le_trans I.sz hb),λx c e z=>?_,λp hp z=>?_⟩
 ·obtain⟨v,q⟩:=I.cell x c e
  exact absurd (Nat.lt_of_lt_of_le q.lt (by rw[z];exact hb)) (Nat.lt_irrefl _)
 ·exact absurd (Nat.lt_of_lt_of_le (Heap.lt_size (I.pin p hp).1) (by rw[z];exact hb)) (Nat.lt_irrefl _)
structure Turn(P:Program)(w:World)(K:PySem.W.Frag)(tg:Expr)(J:It)(fp:List Addr)(it:Addr)(tn:Nat->Heap->Prop):Prop where
 mem:it∈fp
 obj:∀i h,tn i h->∀b∈fp,∃o,h.get? b=some o/\∀v,o.data≠ .cell v
 keep:∀i h h',tn i h->(∀b∈fp,∀o,h.get? b=some o->h'.get? b=some o)->tn i h'
 item:∀(X:Cx),X.prog=P->X.w=w->X.K=K->X.calm=true->∀(i:Nat) (pins:List (Addr×Obj)) (s:Shared) (σ:St) (H:Hp) (E:Value->Shared->Prop),Inv X pins σ H s->(∀b∈fp,bU X pins H b)->tn i s.heap->J.go i H->
  wpAny (model P w) X.A (pyNext (.ref it)) (λr s1=>∃u,r=some u/\
   wpAny (model P w) X.A (letOwnedTupleGo tg (.ref it) u) (λ_ s2=>∃x H',Inv X pins σ H' s2/\RelV x u/\J.yld i H x H'/\tn (i+1) s2.heap/\∀b∈fp,H' b=none) E s1) E s
 done:∀(X:Cx),X.prog=P->X.w=w->X.K=K->X.calm=true->∀(i:Nat) (pins:List (Addr×Obj)) (s:Shared) (σ:St) (H:Hp) (E:Value->Shared->Prop),Inv X pins σ H s->(∀b∈fp,bU X pins H b)->tn i s.heap->J.stop i H->
  wpAny (model P w) X.A (pyNext (.ref it)) (λr s1=>r=none/\Inv X pins σ H s1) E s
 self:∀(A:Around) (i:Nat) (s:Shared) (Q:Value->Shared->Prop) (E:Value->Shared->Prop),tn i s.heap->Q (.ref it) s->wpAny (model P w) A (pyIter (.ref it)) Q E s
abbrev TI:=St->Hp->(It->Hp->Prop)->Prop
def PIE(X:Cx)(pins:List (Addr×Obj))(σ:St)(tg:Expr)(R:It->Hp->Prop)(itv:Value)(s2:Shared):Prop:=
 ∃(it:Addr) (fp:List Addr) (tn:Nat->Heap->Prop) (J:It) (H':Hp),itv=.ref it/\Inv X pins σ H' s2/\Turn X.prog X.w X.K tg J fp it tn/\tn 0 s2.heap/\(∀b∈fp,bU X pins H' b)/\R J H'
def PI(X:Cx)(tg iter:Expr)(wi:TI):Prop:=
 ∀(pins:List (Addr×Obj)) (s:Shared) (σ:St) (H:Hp) (R:It->Hp->Prop),Inv X pins σ H s->wi σ H R->
  wpAny (model X.prog X.w) X.A (eval iter X.env) (λv s1=>wpAny (model X.prog X.w) X.A (pyIter v) (PIE X pins σ tg R) X.xe s1) X.xe s
def ud{M:Model}{A:Around}{E:Value->Shared->Prop}{s:Shared}{tg:Expr}{it:Addr}{u:Value}{o:Obj}{n:String}{vs:Array Value}{Q:Unit->Shared->Prop}(ho:s.heap.get? it=some o)(hc:o.cls=.type n)(hd:o.data=.fields vs)
 (hn:["enumerate","zip","dict_itemiterator","dict_reverseitemiterator","odict_iterator","itertools.zip_longest","itertools.pairwise"].contains n=false)(hQ:Q () s):wpAny M A (letOwnedTupleGo tg (.ref it) u) Q E s:=by
 unfold letOwnedTupleGo
 cases tg<;>first
  |exact wpAny_pure hQ
  |(cases u<;>first
     |exact wpAny_pure hQ
     |(refine wpAny_bind (wpAny_load ho ?_)
       rw[hc,hd]
       show wpAny M A (if(["enumerate","zip","dict_itemiterator","dict_reverseitemiterator","odict_iterator","itertools.zip_longest","itertools.pairwise"].contains n && vs[0]?== some (rawInt _))=true then _ else _) Q E s
       rw[if_neg (by intro h;rw[hn,Bool.false_and] at h;cases h)]
       exact wpAny_pure hQ))
def Itl(K:PySem.W.Frag)(a:Addr):It:=
 ⟨λi H=>∃xs x,Ũ K H a xs/\xs[i]?=some x,λi H x H'=>H'=H/\∀xs,Ũ K H a xs->xs[i]?=some x,λi H=>∃xs,Ũ K H a xs/\xs.length<=i⟩
def Itt(K:PySem.W.Frag)(a:Addr):It:=
 ⟨λi H=>∃xs x,cY K H a xs/\xs[i]?=some x,λi H x H'=>H'=H/\∀xs,cY K H a xs->xs[i]?=some x,λi H=>∃xs,cY K H a xs/\xs.length<=i⟩
def Itr(lo:Int)(n:Nat):It:=⟨λi _=>i<n,λi H x H'=>H'=H/\x=.int (lo+i),λi _=>n<=i⟩
def zZ{P:Program}{w:World}{K:PySem.W.Frag}{tg:Expr}(a it:Addr):Turn P w K tg (Itl K a) [it] it (λi h=>h.IsListIter it a i) where
 mem:=by simp
 obj:=λi h st b hb=>by
  have e:b=it:=by simpa using hb
  subst e
  obtain⟨o,e,c,d⟩:=st
  exact⟨o,e,λv z=>by rw[d] at z;cases z⟩
 keep:=λi h h' st k=>st.at λo e=>k it (by simp) o e
 item:=by
  intro X hP hw hK hc i pins s σ H E I hf st hg
  subst hP hw hK
  obtain⟨xs,x,hq,hx⟩:=hg
  obtain⟨its,rv,p,hz⟩:=I.list hq
  obtain⟨u,hu,ru⟩:=rv.get hx
  obtain⟨f0,f1,f2,f3,f4,f5⟩:=hf it (by simp)
  refine wpAny_pyNext_list_item st p.isList (x:=u) (by simpa using hu) λh' st' sb=>?_
  have I1:Inv X pins σ H {s with heap:=h'}:=I.turned (t':=s.toks) (λb o hb e=>(sb.2 b hb).trans e) f0 f1 f3 f4 f5
  obtain⟨o,e,c,d⟩:=id st'
  exact⟨u,rfl,ud (s:={s with heap:=h'}) e c d (by decide) ⟨x,H,I1,ru,⟨rfl,λys hy=>by rw[I.uc hy hq];exact hx⟩,st',λb hb=>(hf b hb).1⟩⟩
 done:=by
  intro X hP hw hK hc i pins s σ H E I hf st hg
  subst hP hw hK
  obtain⟨xs,hq,hx⟩:=hg
  obtain⟨its,rv,p,hz⟩:=I.list hq
  obtain⟨f0,f1,f2,f3,f4,f5⟩:=hf it (by simp)
  have hl:=rv.length
  exact wpAny_pyNext_list_end (I.ok.hd hc) st p.isList (by simp;omega) λh' eb=>⟨rfl,I.turned (t':=s.toks) (λb o hb e=>eb b o hb e) f0 f1 f3 f4 f5⟩
 self:=λ_ _ _ _ _ st h=>wpAny_pyIter_listiter st h
def vP{P:Program}{w:World}{K:PySem.W.Frag}{tg:Expr}(a it:Addr):Turn P w K tg (Itt K a) [it] it (λi h=>h.IsTupleIter it a i) where
 mem:=by simp
 obj:=λi h st b hb=>by
  have e:b=it:=by simpa using hb
  subst e
  obtain⟨o,e,c,d⟩:=st
  exact⟨o,e,λv z=>by rw[d] at z;cases z⟩
 keep:=λi h h' st k=>st.at λo e=>k it (by simp) o e
 item:=by
  intro X hP hw hK hc i pins s σ H E I hf st hg
  subst hP hw hK
  obtain⟨xs,x,hq,hx⟩:=hg
  obtain⟨its,rv,p,hz⟩:=I.tuple hq
  obtain⟨u,hu,ru⟩:=rv.get hx
  obtain⟨f0,f1,f2,f3,f4,f5⟩:=hf it (by simp)
  refine wpAny_pyNext_tuple_item st (show s.heap.IsTuple a its.toArray from p) (x:=u) (by simpa using hu) λh' st' sb=>?_
  have I1:Inv X pins σ H {s with heap:=h'}:=I.turned (t':=s.toks) (λb o hb e=>(sb.2 b hb).trans e) f0 f1 f3 f4 f5
  obtain⟨o,e,c,d⟩:=id st'
  exact⟨u,rfl,ud (s:={s with heap:=h'}) e c d (by decide) ⟨x,H,I1,ru,⟨rfl,λys hy=>by rw[I.zY hy hq];exact hx⟩,st',λb hb=>(hf b hb).1⟩⟩
 done:=by
  intro X hP hw hK hc i pins s σ H E I hf st hg
  subst hP hw hK
  obtain⟨xs,hq,hx⟩:=hg
  obtain⟨its,rv,p,hz⟩:=I.tuple hq
  obtain⟨f0,f1,f2,f3,f4,f5⟩:=hf it (by simp)
  have hl:=rv.length
  exact wpAny_pyNext_tuple_end (I.ok.hd hc) st (show s.heap.IsTuple a its.toArray from p) (by simp;omega) λh' eb=>⟨rfl,I.turned (t':=s.toks) (λb o hb e=>eb b o hb e) f0 f1 f3 f4 f5⟩
 self:=λ_ _ _ _ _ st h=>wpAny_pyIter_tupleiter st h
def vQ{P:Program}{w:World}{K:PySem.W.Frag}{tg:Expr}(it:Addr)(lo:Int)(n:Nat):Turn P w K tg (Itr lo n) [it] it (λi h=>IsRangeIter h it (lo+(i:Nat)*1) ((n:Int)-(i:Nat)) 1) where
 mem:=by simp
 obj:=λi h st b hb=>by
  have e:b=it:=by simpa using hb
  subst e
  exact⟨_,st,λv z=>by
   have z':Data.fields _=Data.cell v:=z
   cases z'⟩
 keep:=λi h h' st k=>k it (by simp) _ st
 item:=by
  intro X hP hw hK hc i pins s σ H E I hf st hg
  subst hP hw hK
  obtain⟨f0,f1,f2,f3,f4,f5⟩:=hf it (by simp)
  have W:=Walks.range (prog:=X.prog) (w:=X.w) (I.ok.hd hc) it lo 1 n
  refine W.item i s _ _ hg st λv h' tk hv st' kk=>?_
  obtain⟨t,rfl⟩:=hv
  have I1:Inv X pins σ H {s with heap:=h',toks:=tk}:=I.turned (λb o hb e=>kk b o (by simpa using hb) e) f0 f1 f3 f4 f5
  refine⟨_,rfl,ud (s:={s with heap:=h',toks:=tk}) (n:= "range_iterator") st' rfl rfl (by decide) ⟨.int (lo+i),H,I1,⟨t,?_⟩,⟨rfl,rfl⟩,st',λb hb=>(hf b hb).1⟩⟩
  rw[Int.mul_one]
 done:=by
  intro X hP hw hK hc i pins s σ H E I hf st hg
  subst hP hw hK
  obtain⟨f0,f1,f2,f3,f4,f5⟩:=hf it (by simp)
  exact wpAny_pyNext_range_end (I.ok.hd hc) st (by have:n<=i:=hg;omega) λh' eb=>⟨rfl,I.turned (t':=s.toks) (λb o hb e=>eb b o hb e) f0 f1 f3 f4 f5⟩
 self:=λ_ _ _ _ _ st h=>wpAny_pyIter_rangeiter st h
end L2
namespace L2
open PySem PySem.Spec PyProof.Rows
section
variable{X:Cx}{tg:Expr}
def Bx{pins:List (Addr×Obj)}{σ:St}{H:Hp}{s:Shared}{R:It->Hp->Prop}{E:Value->Shared->Prop}{lo hi:Int}{t u v:Tok}{tk:Nat}(I:Inv X pins σ H s)(h1: -(2 ^ 62)<=lo)(h2:lo<2 ^ 62)(h3: -(2 ^ 62)<=hi)(h4:hi<2 ^ 62)
 (q:R (Itr lo (hi-lo).toNat) H):wpAny (model X.prog X.w) X.A (pyIter (.ref s.heap.objs.size)) (PIE X pins σ tg R) E {s with heap:=s.heap.push {cls:=.type "range",data:=.fields #[.int lo t,.int hi u,.int 1 v]},toks:=tk}:=by
 refine wpAny_pyIter_range (IsRange.new ..) (small_one h1 h2 h3 h4) ?_
 have I1:Inv X pins σ H {s with heap:=s.heap.push {cls:=.type "range",data:=.fields #[.int lo t,.int hi u,.int 1 v]},toks:=tk}:=I.kept λb o e=>Heap.get?_push_of_some _ e
 refine⟨(s.heap.push {cls:=.type "range",data:=.fields #[.int lo t,.int hi u,.int 1 v]}).objs.size,[(s.heap.push {cls:=.type "range",data:=.fields #[.int lo t,.int hi u,.int 1 v]}).objs.size],_,_,H,rfl,
  I1.kept (t':=tk) λb o e=>Heap.get?_push_of_some _ e,vQ _ lo (hi-lo).toNat,?_,λb hb=>?_,q⟩
 ·have e1:lo+((0:Nat):Int)*1=lo:=by simp
  have e2:(((hi-lo).toNat:Nat):Int)-((0:Nat):Int)=Builtin.Range.rangeSize lo hi 1:=by rw[rangeSize_one];split<;>omega
  show IsRangeIter _ _ (lo+((0:Nat):Int)*1) ((((hi-lo).toNat:Nat):Int)-((0:Nat):Int)) 1
  rw[e1,e2]
  exact Heap.get?_push_size _ rfl
 ·have e:b=(s.heap.push {cls:=.type "range",data:=.fields #[.int lo t,.int hi u,.int 1 v]}).objs.size:=by simpa using hb
  subst e
  exact I1.qO (Nat.le_refl _) (I1.hok.fresh (Nat.le_refl _))
def Xq(ta:TA):TI:=λσ H R=>ta σ H λvs H1=>∃j:Int,vs=[.int j]/\ -(2 ^ 62)<=j/\j<2 ^ 62/\R (Itr 0 j.toNat) H1
def z_{a:Expr}{ta:TA}{p pos:Pos}(hg:Gl X "range")(hm:X.mg "range" =none)(ha:PA X [a] ta)(hs:starEach [a] X.env=[(false,eval a X.env)]:=by rfl):PI X tg (.Call (.Name "range" p) [a] [] pos) (Xq ta):=by
 intro pins s σ H R I h
 refine Call_ (eY I hg hm boot_range (PyProof.Rows.callWith_type1 (ő (ha pos pins s σ H _ I h) λus s1 ⟨vs,H1,I1,r1,q1⟩=>?_) hs rfl))
 obtain⟨j,e,q1,q2,q⟩:=q1
 subst e
 cases r1 with
 |cons r rr=>
  cases rr
  obtain⟨t,rfl⟩:=r
  exact call_range_1 (Bx I1 (by omega) (by omega) q1 q2 (by simpa using q))
def ZbM(wi:TI)(g:TG)(tb:TS):TS:=λD σ H=>wi σ H λJ H1=>∃W:Nat->Nat->St->Hp->Prop,(∃m,W 0 m σ H1)/\∀i m σ H,W i m σ H->
 (J.stop i H/\D.nx σ H)\/(J.go i H/\∃N:St->Hp->Prop,(∀σ' H',N σ' H'->∃m',m'<m/\W (i+1) m' σ' H')/\∀x H',J.yld i H x H'->g x σ H' λσ2 H2=>tb {D with nx:=N,ct:=N,bk:=D.nx} σ2 H2)
def jx(fp:List Addr)(h:Heap):List (Addr×Obj):=fp.filterMap λb=>(h.get? b).map λo=>(b,o)
def ş{fp:List Addr}{h:Heap}{b:Addr}{o:Obj}(hb:b∈fp)(e:h.get? b=some o):(b,o)∈jx fp h:=List.mem_filterMap.mpr ⟨b,hb,by rw[e];rfl⟩
def Aa{fp:List Addr}{h:Heap}{p:Addr×Obj}(hp:p∈jx fp h):p.1∈fp/\h.get? p.1=some p.2:=by
 obtain⟨b,hb,e⟩:=List.mem_filterMap.mp hp
 cases q:h.get? b with
 |none=>rw[q] at e;cases e
 |some o=>
  rw[q] at e
  have e':(b,o)=p:=Option.some.inj e
  subst e'
  exact⟨hb,q⟩
def Inv.pinned{pins:List (Addr×Obj)}{σ:St}{H:Hp}{s:Shared}{fp:List Addr}(I:Inv X pins σ H s)(hf:∀b∈fp,bU X pins H b)(ho:∀b∈fp,∃o,s.heap.get? b=some o/\∀v,o.data≠ .cell v):Inv X (pins++jx fp s.heap) σ H s:=
 I.yF fun p hp=>(List.mem_append.mp hp).elim (fun z=>I.pin p (List.mem_append_right _ z)) fun z=>by
   obtain⟨hb,e⟩:=Aa z
   obtain⟨f0,f1,f2,_⟩:=hf p.1 hb
   obtain⟨o,e',d⟩:=ho p.1 hb
   rw[e] at e';cases e'
   exact⟨e,f0,f1,f2,d⟩
def Inv.cF{pins pl:List (Addr×Obj)}{σ:St}{H:Hp}{s:Shared}(I:Inv X (pins++pl) σ H s):Inv X pins σ H s:=I.yF λp hp=>I.pin p (List.mem_append_right _ (List.mem_append_left _ hp))
def RT{iter:Expr}{body:List Stmt}{wi:TI}{g:TG}{tb:TS}{pos:Pos}(hp:PassesOwn (model X.prog X.w) X.A X.env X.xe)(hc:X.calm=true)(hi:PI X tg iter wi)(hg:PG X tg g)(hb:gK X body tb)
 (hs:∀x,foldedSetIterable iter X.env x=pure x:=by intro _;rfl):PS X (.For tg iter body [] pos) (ZbM wi g tb):=by
 intro pins s σ H D I h
 refine wpAny_For (ő (hi pins s σ H _ I h) λv s1 h1=>ő h1 λitv s2 h2=>?_) hs
 obtain⟨it,fp,tn,J,H2,e,I2,T,st2,f2,W,⟨m0,w0⟩,turn⟩:=h2
 subst e
 -- what stays true of the iterator's objects through the loop
 have stat:∀{H':Hp},(∀b∈fp,H' b=none)->∀b∈fp,bU X pins H' b:=λhn b hb=>⟨hn b hb,(f2 b hb).2⟩
 refine codeAny_forLoop_any (λn s'=>∃i σ' H',Inv X pins σ' H' s'/\tn i s'.heap/\(∀b∈fp,H' b=none)/\W i n σ' H') ?_ m0 ⟨0,σ,H2,I2,st2,λb hb=>(f2 b hb).1,w0⟩
 rintro n s3 ⟨i,σ3,H3,I3,st3,fr3,w3⟩
 rcases turn i n σ3 H3 w3 with⟨stop,qn⟩|⟨go,N,hN,step⟩
 ·refine wpAny_passesOwn hp (ő (T.done X rfl rfl rfl hc i pins s3 σ3 H3 X.xe I3 (stat fr3) st3 stop) λr s4 ⟨hr,I4⟩=>?_)
  subst hr
  exact wpAny_execs_nil ⟨σ3,H3,I4,qn⟩
 ·refine wpAny_passesOwn hp (ő (T.item X rfl rfl rfl hc i pins s3 σ3 H3 X.xe I3 (stat fr3) st3 go) λr s4 ⟨u,hr,h4⟩=>?_)
  subst hr
  refine wpAny_passesOwn hp (ő h4 λ_ s5 ⟨x,H5,I5,r5,y5,Ii,RW⟩=>?_)
  have I5':=I5.pinned (stat RW) (T.obj _ _ Ii)
  refine wpAny_passesOwn hp (ő (hg _ s5 σ3 H5 x u _ I5' r5 (step x H5 y5)) λ_ s6 ⟨σ6,H6,I6,q6⟩=>?_)
  refine wpAny_passesOwn hp (ő (hb _ s6 σ6 H6 _ I6 q6) λf s7 q7=>?_)
  have again:∀{σ7:St} {H7:Hp},Inv X (pins++jx fp s5.heap) σ7 H7 s7->N σ7 H7->∃m,m<n/\∃i σ' H',Inv X pins σ' H' s7/\tn i s7.heap/\(∀b∈fp,H' b=none)/\W i m σ' H':=fun{σ7 H7} I7 n7=>by
   obtain⟨m',hm,w7⟩:=hN σ7 H7 n7
   refine⟨m',hm,i+1,σ7,H7,I7.cF,T.keep _ _ _ Ii λb hb o e=>(I7.pin (b,o) (List.mem_append_right _ (List.mem_append_right _ (ş hb e)))).1,λb hb=>?_,w7⟩
   obtain⟨o,e,d⟩:=T.obj _ _ Ii b hb
   exact(I7.pin (b,o) (List.mem_append_right _ (List.mem_append_right _ (ş hb e)))).2.1
  cases f with
  |next=>obtain⟨σ7,H7,I7,n7⟩:=q7;exact again I7 n7
  |cont=>obtain⟨σ7,H7,I7,n7⟩:=q7;exact again I7 n7
  |brk=>obtain⟨σ7,H7,I7,q7⟩:=q7;exact⟨σ7,H7,I7.cF,q7⟩
  |ret v=>obtain⟨x7,σ7,H7,I7,r7,q7⟩:=q7;exact⟨x7,σ7,H7,I7.cF,r7,q7⟩
end
end L2
namespace L2
open PySem PySem.Spec PyProof.Rows
abbrev R2:=V->V->Hp->VK->Prop
def ũ(X:Cx)(f:Value->Value->Sem Value)(r:R2):Prop:=
 ∀(pins:List (Addr×Obj)) (s:Shared) (σ:St) (H:Hp) (x y:V) (v u:Value) (Q:VK),Inv X pins σ H s->RelV x v->RelV y u->r x y H Q->
  wpAny (model X.prog X.w) X.A (f v u) (EP X pins σ Q) X.xe s
def Ij(X:Cx)(f:Value->Sem Value)(r:V->Hp->VK->Prop):Prop:=
 ∀(pins:List (Addr×Obj)) (s:Shared) (σ:St) (H:Hp) (x:V) (v:Value) (Q:VK),Inv X pins σ H s->RelV x v->r x H Q->
  wpAny (model X.prog X.w) X.A (f v) (EP X pins σ Q) X.xe s
def ŀ(X:Cx)(f:Value)(r:List V->Hp->VK->Prop):Prop:=
 ∀(pins:List (Addr×Obj)) (s:Shared) (σ:St) (H:Hp) (xs:List V) (us:List Value) (Q:VK),Inv X pins σ H s->Vals xs us->r xs H Q->
  wpAny (model X.prog X.w) X.A (call f us) (EP X pins σ Q) X.xe s
def ZbN(X:Cx)(r:V->Hp->(Bool->Hp->Prop)->Prop):Prop:=
 ∀(pins:List (Addr×Obj)) (s:Shared) (σ:St) (H:Hp) (x:V) (v:Value) (Q:Bool->Hp->Prop),Inv X pins σ H s->RelV x v->r x H Q->
  wpAny (model X.prog X.w) X.A (truthy v) (TP X pins σ Q) X.xe s
def RX(r:R2)(ta tb:TE):TE:=λσ H Q=>ta σ H λx H1=>tb σ H1 λy H2=>r x y H2 Q
def tUn(r:V->Hp->VK->Prop)(ta:TE):TE:=λσ H Q=>ta σ H λx H1=>r x H1 Q
def rI(C:Int->Int->Prop)(g:Int->Int->V):R2:=λx y H Q=>∃i j,x=.int i/\y=.int j/\C i j/\Q (g i j) H
def Ik(g:Int->Int->V):R2:=λx y H Q=>∃i j,x=.int i/\y=.int j/\Q (g i j) H
def rU(g:Int->V):V->Hp->VK->Prop:=λx H Q=>∃i,x=.int i/\Q (g i) H
section
variable{X:Cx}{a b c:Expr}{ta tb tc:TE}{pos:Pos}
def RZ(ha:PE X a ta)(hb:PE X b tb){pins:List (Addr×Obj)}{s:Shared}{σ:St}{H:Hp}{R:V->V->Hp->Prop}(I:Inv X pins σ H s)
 (h:ta σ H λx H1=>tb σ H1 λy H2=>R x y H2){Q:Value->Shared->Prop}{f:Value->Value->Sem Value}
 (hf:∀v u s2 x y H2,Inv X pins σ H2 s2->RelV x v->RelV y u->R x y H2->wpAny (model X.prog X.w) X.A (f v u) Q X.xe s2) :
 wpAny (model X.prog X.w) X.A (eval a X.env) (λv s₁=>wpAny (model X.prog X.w) X.A (eval b X.env) (λu s₂=>wpAny (model X.prog X.w) X.A (f v u) Q X.xe s₂) X.xe s₁) X.xe s:=by
 refine ő (ha pins s σ H _ I h) λv s1 ⟨x,H1,I1,r1,q1⟩=>?_
 refine ő (hb pins s1 σ H1 _ I1 q1) λu s2 ⟨y,H2,I2,r2,q2⟩=>?_
 exact hf v u s2 x y H2 I2 r1 r2 q2
def Ky{op:Operator}{r:R2}(ho:ũ X (binaryOp op) r)(ha:PE X a ta)(hb:PE X b tb):PE X (.BinOp a op b pos) (RX r ta tb):=by
 intro pins s σ H Q I h
 exact wpAny_BinOp (RZ ha hb I h λv u s2 x y H2 I2 rx ry q=>ho pins s2 σ H2 x y v u Q I2 rx ry q)
def Xr{op:UnaryOp}{r:V->Hp->VK->Prop}(ho:Ij X (unaryOp op) r)(ha:PE X a ta):PE X (.UnaryOp op a pos) (tUn r ta):=by
 intro pins s σ H Q I h
 exact UnaryOp_ (ő (ha pins s σ H _ I h) λv s1 ⟨x,H1,I1,r1,q1⟩=>ho pins s1 σ H1 x v Q I1 r1 q1)
def yG{f:Value->Value->Sem Value}{C:Int->Int->Prop}{g:Int->Int->Int}
 (rule:∀(i j:Int) (t u:Tok) (s:Shared) (Q:Value->Shared->Prop) (E:Value->Shared->Prop),C i j->Q (.int (g i j) s.toks) {s with toks:=s.toks+1}->wpAny (model X.prog X.w) X.A (f (.int i t) (.int j u)) Q E s) :
 ũ X f (rI C λi j=>.int (g i j)):=by
 intro pins s σ H x y v u Q I rx ry h
 obtain⟨i,j,rfl,rfl,hc,q⟩:=h
 obtain⟨t,rfl⟩:=rx
 obtain⟨t',rfl⟩:=ry
 exact rule i j t t' s _ _ hc ⟨.int (g i j),H,I.tok _,⟨_,rfl⟩,q⟩
def uf{f:Value->Value->Sem Value}{g:Int->Int->Int}
 (rule:∀(i j:Int) (t u:Tok) (s:Shared) (Q:Value->Shared->Prop) (E:Value->Shared->Prop),Q (.int (g i j) s.toks) {s with toks:=s.toks+1}->wpAny (model X.prog X.w) X.A (f (.int i t) (.int j u)) Q E s) :
 ũ X f (Ik λi j=>.int (g i j)):=by
 intro pins s σ H x y v u Q I rx ry h
 obtain⟨i,j,rfl,rfl,q⟩:=h
 obtain⟨t,rfl⟩:=rx
 obtain⟨t',rfl⟩:=ry
 exact rule i j t t' s _ _ ⟨.int (g i j),H,I.tok _,⟨_,rfl⟩,q⟩
def R_{f:Value->Value->Sem Value}{g:Int->Int->Bool}
 (rule:∀(i j:Int) (t u:Tok) (s:Shared) (Q:Value->Shared->Prop) (E:Value->Shared->Prop),Q (.bool (g i j)) s->wpAny (model X.prog X.w) X.A (f (.int i t) (.int j u)) Q E s) :
 ũ X f (Ik λi j=>.bl (g i j)):=by
 intro pins s σ H x y v u Q I rx ry h
 obtain⟨i,j,rfl,rfl,q⟩:=h
 obtain⟨t,rfl⟩:=rx
 obtain⟨t',rfl⟩:=ry
 exact rule i j t t' s _ _ ⟨.bl (g i j),H,I,rfl,q⟩
def Ab(i j:Int):Prop:=0<=j/\j<=1000000/\i.natAbs<2 ^ 64
def Sd(i j:Int):Prop:=(-(2 ^ 64)<i/\i<2 ^ 64)\/(-(2 ^ 64)<j/\j<2 ^ 64)
def Sd.ok{i j:Int}(h:Sd i j):IntMulOk i j:=by
 rcases h with⟨h1,h2⟩|⟨h1,h2⟩
 ·exact .of_left (intBits_le_64 h1 h2)
 ·exact .of_right (intBits_le_64 h1 h2)
def vR(k:Nat):(0:Int)<=2 ^ k:=by
 rw[two_pow_cast]
 exact Int.natCast_nonneg _
def Sg:ũ X (binaryOp .Add) (Ik λi j=>.int (i+j)):=uf λ_ _ _ _ _ _ _ q=>add_int q
def Sh:ũ X (binaryOp .Sub) (Ik λi j=>.int (i-j)):=uf λ_ _ _ _ _ _ _ q=>sub_int q
def Il:ũ X (binaryOp .Mod) (rI (λ_ j=>j≠0) λi j=>.int (i.fmod j)):=yG λ_ _ _ _ _ _ _ hc q=>mod_int' hc q
def Sq:ũ X (binaryOp .Pow) (rI Ab λi j=>.int (i ^ j.toNat)):=yG λ_ _ _ _ _ _ _ hc q=>pow_int_small hc.1 hc.2.1 hc.2.2 q
def Ss:ũ X (binaryOp .LShift) (rI Ab λi j=>.int (i*2 ^ j.toNat)):=yG λ_ _ _ _ _ _ _ hc q=>lshift_int_small hc.1 hc.2.1 hc.2.2 q
def Sv:ũ X (binaryOp .RShift) (rI (λ_ j=>0<=j) λi j=>.int (i / 2 ^ j.toNat)):=yG λi j _ _ _ _ _ hc q=>
 rshift_int hc (by rw[Int.fdiv_eq_ediv_of_nonneg i (vR _)];exact q)
def Sw:ũ X (binaryOp .BitAnd) (Ik λi j=>.int (Builtin.bitAnd i j)):=uf λ_ _ _ _ _ _ _ q=>and_int q
def unI{f:Value->Sem Value}{g:Int->Int}
 (rule:∀(i:Int) (t:Tok) (s:Shared) (Q:Value->Shared->Prop) (E:Value->Shared->Prop),Q (.int (g i) s.toks) {s with toks:=s.toks+1}->wpAny (model X.prog X.w) X.A (f (.int i t)) Q E s) :
 Ij X f (rU λi=>.int (g i)):=by
 intro pins s σ H x v Q I rx h
 obtain⟨i,rfl,q⟩:=h
 obtain⟨t,rfl⟩:=rx
 exact rule i t s _ _ ⟨.int (g i),H,I.tok _,⟨_,rfl⟩,q⟩
def Sx:Ij X (unaryOp .USub) (rU λi=>.int (-i)):=unI λ_ _ _ _ _ q=>neg_int q
end
section
variable{X:Cx}{a b c:Expr}{ta tb tc:TE}{pos:Pos}
def BJ{pins:List (Addr×Obj)}{σ:St}{H:Hp}{s:Shared}{Q:VK}{k k':Bool}(I:Inv X pins σ H s)(q:Q (.bl k) H)(e:k=k'):EP X pins σ Q (.bool k') s:=by
 subst e
 exact⟨.bl k,H,I,rfl,q⟩
def Xu:ũ X (compareOp .Lt) (Ik λi j=>.bl (decide (i<j))):=R_ λ_ _ _ _ _ _ _ q=>lt_int q
def Xv:ũ X (compareOp .LtE) (Ik λi j=>.bl (decide (i<=j))):=R_ λ_ _ _ _ _ _ _ q=>le_int q
def Xw:ũ X (compareOp .Gt) (Ik λi j=>.bl (decide (j<i))):=R_ λ_ _ _ _ _ _ _ q=>gt_int q
def qP:ũ X (compareOp .Is) (λx y H Q=>y=.non/\Q (.bl (decide (x=.non))) H):=by
 intro pins s σ H x y v u Q I rx ry h
 obtain⟨rfl,q⟩:=h
 cases ry
 refine is_none_gen (BJ I q ?_)
 cases x<;>first
  |(cases rx;rfl)
  |(obtain⟨t,rfl⟩:=rx;rfl)
def Im:ũ X (compareOp .IsNot) (λx y H Q=>y=.non/\Q (.bl (!decide (x=.non))) H):=by
 intro pins s σ H x y v u Q I rx ry h
 obtain⟨rfl,q⟩:=h
 cases ry
 refine isnot_none_gen (BJ I q ?_)
 cases x<;>first
  |(cases rx;rfl)
  |(obtain⟨t,rfl⟩:=rx;rfl)
def ũ.or{f:Value->Value->Sem Value}{r r':R2}(h:ũ X f r)(h':ũ X f r'):ũ X f (λx y H Q=>r x y H Q\/r' x y H Q):=by
 intro pins s σ H x y v u Q I rx ry q
 rcases q with q|q
 ·exact h pins s σ H x y v u Q I rx ry q
 ·exact h' pins s σ H x y v u Q I rx ry q
def Ń(b:Expr){op:CmpOp}(h:op≠ .In:=by decide)(h2:op≠ .NotIn:=by decide):behindInMarks op b=false:=by
 have e1:(op== CmpOp.In)=false:=by cases op<;>first|rfl|exact absurd rfl h
 have e2:(op== CmpOp.NotIn)=false:=by cases op<;>first|rfl|exact absurd rfl h2
 cases b<;>simp[behindInMarks,e1,e2]
def Io{op:CmpOp}{r:R2}(ho:ũ X (compareOp op) r)(ha:PE X a ta)(hb:PE X b tb)(hm:behindInMarks op b=false):PE X (.Compare a [op] [b] pos) (RX r ta tb):=by
 intro pins s σ H Q I h
 exact wpAny_Compare1 (RZ ha hb I h λv u s2 x y H2 I2 rx ry q=>ho pins s2 σ H2 x y v u Q I2 rx ry q) hm
def Sy(K:PySem.W.Frag)(x:V)(H:Hp)(k:Bool):Prop:=
 match x with
 | .non=>k=false
 | .bl b=>k=b
 | .int i=>k=(i != 0)
 | .str y=>y.length<=sizeLine/\k=((y.length:Int) != 0)
 | .HW y=>y.size<=sizeLine/\k=((y.size:Int) != 0)
 | .ref p=>(∃xs,Ũ K H p xs/\k=!xs.isEmpty)\/(∃xs,cY K H p xs/\k=!xs.isEmpty)\/∃kvs,H p=some (.dK kvs)/\k=!kvs.isEmpty
 |_=>False
def vU{κ:Type}{kvs:List (κ×V)}{vs:List (κ×Value)}(r:KV kvs vs):(!vs.isEmpty)=!kvs.isEmpty:=by
 cases r<;>rfl
def mq{xs:List V}{its:List Value}(r:Vals xs its):(!its.toArray.isEmpty)=!xs.isEmpty:=by
 cases r<;>simp
def mz:(sizeLine:Nat)<2 ^ 63:=by rw[sizeLine_eq];decide
def SJ:ZbN X (λx H Q=>∃k,Sy X.K x H k/\Q k H):=by
 intro pins s σ H x v Q I rx h
 obtain⟨k,e,q⟩:=h
 have hl:=mz
 have hs:sizeLine=16777216:=sizeLine_eq
 cases x with
 |non=>
  cases rx
  have e':k=false:=e
  subst e'
  exact truthy_none ⟨H,I,q⟩
 |bl b=>
  cases rx
  have e':k=b:=e
  subst e'
  exact wpAny_truthy_bool ⟨H,I,q⟩
 |int i=>
  obtain⟨t,rfl⟩:=rx
  have e':k=(i != 0):=e
  subst e'
  exact PySem.P.truthy_int ⟨H,I,q⟩
 |str y=>
  obtain⟨t,rfl⟩:=rx
  obtain⟨hy,e'⟩:y.length<=sizeLine/\k=((y.length:Int) != 0):=e
  subst e'
  exact PySem.P.truthy_str (by omega) ⟨H,I.tok _,q⟩
 |HW y=>
  obtain⟨t,rfl⟩:=rx
  obtain⟨hy,e'⟩:y.size<=sizeLine/\k=((y.size:Int) != 0):=e
  subst e'
  exact PySem.W.truthy_bytes (by omega) ⟨H,I.tok _,q⟩
 |ref p=>
  cases rx
  have e':(∃xs,Ũ X.K H p xs/\k=!xs.isEmpty)\/(∃xs,cY X.K H p xs/\k=!xs.isEmpty)\/∃kvs,H p=some (.dK kvs)/\k=!kvs.isEmpty:=e
  rcases e' with⟨xs,hx,e'⟩|⟨xs,hx,e'⟩|⟨kvs,hx,e'⟩
  ·subst e'
   obtain⟨its,r,pl,hz⟩:=I.list hx
   have hlen:=r.length
   exact wpAny_truthy_list pl.isList (by simp only[List.size_toArray];omega) ⟨H,I.tok _,by rw[mq r];exact q⟩
  ·subst e'
   obtain⟨its,r,pl,hz⟩:=I.tuple hx
   have hlen:=r.length
   exact truthy_tuple pl (by simp only[List.size_toArray];omega) ⟨H,I.tok _,by rw[mq r];exact q⟩
  ·subst e'
   obtain⟨hz,hS,vs,r,m⟩:kvs.length<=sizeLine/\(p== sysModules)=false/\∃vs,KV kvs vs/\s.heap.DictOf (qL X.prog X.w) p vs:=I.hok p _ hx
   have hlen:kvs.length=vs.length:=Paired.length r
   exact wpAny_truthy_dict hS m (by omega) ⟨H,I.tok _,by rw[vU r];exact q⟩
 |_=>exact(show False from e).elim
def BK(ha:PE X a ta)(he:∀whole,isTrue a X.env whole=(do let v <-whole;standAt a.pos;holding [v] (truthy v))) :
 PT X a (λσ H Q=>ta σ H λx H'=>∃k,Sy X.K x H' k/\Q k H'):=by
 intro pins s σ H Q I h
 exact isTrue_plain (ő (ha pins s σ H _ I h) λv s1 ⟨x,H1,I1,r1,q1⟩=>SJ pins s1 σ H1 x v Q I1 r1 q1) (he _)
def vV:ũ X (binaryOp .Add) (λx y H Q=>∃i j,x=.str i/\y=.str j/\i.length+j.length<=sizeLine/\Q (.str (i++j)) H):=by
 intro pins s σ H x y v u Q I rx ry h
 obtain⟨i,j,rfl,rfl,hz,q⟩:=h
 obtain⟨t,rfl⟩:=rx
 obtain⟨t',rfl⟩:=ry
 exact add_str (λt' tk=>⟨.str (i++j),H,I.tok _,⟨_,rfl⟩,q⟩) hz
def vals1{x:V}{us:List Value}(r:Vals [x] us):∃u,us=[u]/\RelV x u:=by
 cases r with
 |cons r1 r2=>cases r2;exact⟨_,rfl,r1⟩
def vals2{x y:V}{us:List Value}(r:Vals [x,y] us):∃u w',us=[u,w']/\RelV x u/\RelV y w':=by
 cases r with
 |cons r1 r2=>
  cases r2 with
  |cons r3 r4=>cases r4;exact⟨_,_,rfl,r1,r3⟩
def BL:ŀ X (.builtin "abs") (λxs H Q=>∃i,xs=[.int i]/\Q (.int (if i<0 then -i else i)) H):=by
 intro pins s σ H xs us Q I r h
 obtain⟨i,rfl,q⟩:=h
 obtain⟨u,rfl,t,rfl⟩:=vals1 r
 exact call_abs_int λu tk=>⟨.int (if i<0 then -i else i),H,I.tok _,⟨_,rfl⟩,q⟩
def Ac(hc:X.calm=true):ŀ X (.builtin "max") (λxs H Q=>∃i j,xs=[.int i,.int j]/\Q (.int (if j>i then j else i)) H):=by
 intro pins s σ H xs us Q I r h
 obtain⟨i,j,rfl,q⟩:=h
 obtain⟨u,w',rfl,⟨t,rfl⟩,⟨t',rfl⟩⟩:=vals2 r
 refine max_two_ints (I.ok.hd hc) λh' tk k=>⟨_,H,I.kept k,?_,q⟩
 by_cases hj:j>i
 ·rw[if_pos hj,if_pos hj];exact⟨_,rfl⟩
 ·rw[if_neg hj,if_neg hj];exact⟨_,rfl⟩
def Ad(hc:X.calm=true):ŀ X (.builtin "min") (λxs H Q=>∃i j,xs=[.int i,.int j]/\Q (.int (if j<i then j else i)) H):=by
 intro pins s σ H xs us Q I r h
 obtain⟨i,j,rfl,q⟩:=h
 obtain⟨u,w',rfl,⟨t,rfl⟩,⟨t',rfl⟩⟩:=vals2 r
 refine min_two_ints (I.ok.hd hc) λh' tk k=>⟨_,H,I.kept k,?_,q⟩
 by_cases hj:j<i
 ·rw[if_pos hj,if_pos hj];exact⟨_,rfl⟩
 ·rw[if_neg hj,if_neg hj];exact⟨_,rfl⟩
def Ae:ŀ X (.type "int") (λxs H Q=>(∃i,xs=[.int i]/\Q (.int i) H)\/∃k,xs=[.bl k]/\Q (.int (if k then 1 else 0)) H):=by
 intro pins s σ H xs us Q I r h
 rcases h with⟨i,rfl,q⟩|⟨k,rfl,q⟩
 ·obtain⟨u,rfl,t,rfl⟩:=vals1 r
  exact call_int_int ⟨.int i,H,I,⟨_,rfl⟩,q⟩
 ·obtain⟨u,rfl,r1⟩:=vals1 r
  cases r1
  exact call_int_bool ⟨.int (if k then 1 else 0),H,I.tok _,⟨_,rfl⟩,q⟩
def ZbO(K:PySem.W.Frag)(x:V)(H:Hp)(n:Nat):Prop:=
 match x with
 | .str y=>y.length<=sizeLine/\n=y.length
 | .HW y=>y.size<=sizeLine/\n=y.size
 | .ref p=>(∃xs,Ũ K H p xs/\n=xs.length)\/∃xs,cY K H p xs/\n=xs.length
 |_=>False
def BP:ŀ X (.builtin "len") (λxs H Q=>∃x n,xs=[x]/\ZbO X.K x H n/\Q (.int n) H):=by
 intro pins s σ H xs us Q I r h
 obtain⟨x,n,rfl,e,q⟩:=h
 obtain⟨u,rfl,rx⟩:=vals1 r
 have hl:=mz
 have hs:sizeLine=16777216:=sizeLine_eq
 cases x with
 |str y=>
  obtain⟨t,rfl⟩:=rx
  obtain⟨hy,e'⟩:y.length<=sizeLine/\n=y.length:=e
  subst e'
  exact len_str (by omega) ⟨.int _,H,I.tok _,⟨_,rfl⟩,q⟩
 |HW y=>
  obtain⟨t,rfl⟩:=rx
  obtain⟨hy,e'⟩:y.size<=sizeLine/\n=y.size:=e
  subst e'
  exact PySem.W.len_bytes (by omega) ⟨.int _,H,I.tok _,⟨_,rfl⟩,q⟩
 |ref p=>
  cases rx
  have e':(∃xs,Ũ X.K H p xs/\n=xs.length)\/∃xs,cY X.K H p xs/\n=xs.length:=e
  rcases e' with⟨xs,hx,e'⟩|⟨xs,hx,e'⟩
  ·subst e'
   obtain⟨its,r',pl,hz⟩:=I.list hx
   have hlen:=r'.length
   exact Calls.call_len_list pl.isList (by simp only[List.size_toArray];omega) ⟨.int xs.length,H,I.tok _,⟨_,by simp only[List.size_toArray];rw[hlen]⟩,q⟩
  ·subst e'
   obtain⟨its,r',pl,hz⟩:=I.tuple hx
   have hlen:=r'.length
   exact len_tuple pl (by simp only[List.size_toArray];omega) ⟨.int xs.length,H,I.tok _,⟨_,by simp only[List.size_toArray];rw[hlen]⟩,q⟩
 |_=>exact(show False from e).elim
end
end L2
namespace L2
open PySem PySem.Spec PyProof.Rows
structure vW(h:Heap)(x dx C:Addr)(mA:Str->Option Value):Prop where
 obj:h.get? x=some (PySem.W.instObj C dx)
 ns:h.Ns1 dx mA
 ne:dx≠x
def Af{h:Heap}{dx:Addr}{mA:Str->Option Value}(n:h.Ns1 dx mA):∃od,h.get? dx=some od/\∀name,PySem.W.lookIn name od=some (mA name):=by
 obtain⟨o,es,ep,ho,hd,hk,_,hm⟩:=n
 refine⟨o,ho,λname=>?_⟩
 have e:=hm name
 unfold nsFind findBy at e
 rw[<-Array.find?_toList] at e
 unfold PySem.W.lookIn
 rw[hd]
 dsimp only
 split
 ·rename_i y q
  rw[q] at e
  exact congrArg some e
 ·rename_i q
  rw[q] at e
  have a:es.toList.any (·.refKey)=false:=by
   rw[List.any_eq_false]
   intro y hy
   obtain⟨z,t,hkey⟩:=hk y (Array.mem_toList_iff.mp hy)
   simp[DictEntry.refKey,hkey]
  have a':¬es.toList.any (·.refKey)=true:=by rw[a];exact Bool.false_ne_true
  rw[if_neg a']
  exact congrArg some e
def vW.look{h:Heap}{x dx C:Addr}{mA:Str->Option Value}(I:vW h x dx C mA):∃od,PySem.W.InstAt h x (PySem.W.instObj C dx) C (some od)/\∀name,PySem.W.lookIn name od=some (mA name):=
 let ⟨od,ho,hl⟩:=Af I.ns
 ⟨od,⟨I.obj,rfl,rfl,ho⟩,hl⟩
section
variable{prog:Program}{w:World}{A:Around}{E:Value->Shared->Prop}{s:Shared}{K:PySem.W.Frag}{x dx C f:Addr}{mA:Str->Option Value}{name:Str}{v:Value}
def get_map{expr:Bool}{Q:Value->Shared->Prop}(X:K.In s.heap)(I:vW s.heap x dx C mA)(hg:PySem.W.plainGet K C name=true)(hh:PySem.W.hasDictIn K C=true)
 (ha:PySem.W.findIn K (.ref C) name=some none)(hv:mA name=some v)(hv':PySem.W.handedIn v=true)(h:Q v {s with toks:=s.toks+1}) :
 wpAny (model prog w) A (getAttr (.ref x) name expr) Q E s:=by
 obtain⟨od,J,hl⟩:=I.look
 exact PySem.W.get_value X J (PySem.W.plainGet_of hg).1 (PySem.W.findObj_own hh ha rfl (by rw[hl,hv])) hv' h
def BR{pl:Sem Bool}{Q:Value×List Value->Shared->Prop}(X:K.In s.heap)(I:vW s.heap x dx C mA)(hg:PySem.W.plainGet K C name=true)
 (hf:PySem.W.findIn K (.ref C) name=some (some (.ref f)))(ht:PySem.W.isFn K (.ref f)=true)(hv:mA name=none)(h:Q (.ref f,[.ref x]) s) :
 wpAny (model prog w) A (getMethod (.ref x) name pl) Q E s:=by
 obtain⟨od,J,hl⟩:=I.look
 exact PySem.W.method_fn X J (PySem.W.plainGet_of hg).1 (PySem.W.plainGet_of hg).2 hf (beq_iff_eq.mp ht) (by show(PySem.W.lookIn name od).map (·.isSome)=some false;rw[hl,hv];rfl) h
def Ip{ns:List Str}{Q:Unit->Shared->Prop}(X:K.In s.heap)(I:vW s.heap x dx C mA)
 (hs:PySem.W.findIn K (.ref C) "__setattr__" =some (some (.builtin "object.__setattr__")))(hp:PySem.W.plainOver K C=true)(ht:PySem.W.takerIn K C name=some none)(hh:PySem.W.hasDictIn K C=true)
 (hw:PySem.Within mA ns)(hsz:ns.length<=sizeLine)
 (h:∀h',vW h' x dx C (λy=>if y=name then some v else mA y)->Heap.SameBut dx s.heap h'->Q () {s with heap:=h',toks:=s.toks+2}) :
 wpAny (model prog w) A (setAttr (.ref x) name v) Q E s:=by
 obtain⟨od,J,hl⟩:=I.look
 refine PySem.W.set_plain X J hs (PySem.W.osa_open (s:={s with toks:=s.toks+1}) (r:=none) X J hp ht λb=>?_)
 obtain⟨cd,hc,hd'⟩:=PySem.W.any_some hh
 have hx:s.heap.get? x=some ⟨.ref C,some dx,.plain,#[]⟩:=I.obj
 refine wpAny_bind (wpAny_pure (wpAny_bind (wpAny_bind (wpAny_loadPart hx (wpAny_bind (PySem.W.Looks.here (s:={s with toks:=s.toks+1}) (PySem.W.looks_clsIn X hc) ?_))))))
 rw[hd']
 refine wpAny_pure (a:=some dx) (wpAny_bind (wpAny_pure (wpAny_bind ?_)))
 refine wpAny_nsSet1 (s:={s with toks:=s.toks+1}) I.ns λh' hn2 hs2=>?_
 obtain⟨oD,esD,epD,hoD,hdD,hcD⟩:=hn2.count (PySem.Within.cons name v hw)
 refine wpAny_bind (wpAny_lookBehind hoD (by rw[hdD];exact pastItsLine_dict (Nat.le_trans hcD (by rw[List.length_cons];omega))) ?_)
 exact wpAny_pure (h _ ⟨(hs2.2 _ (Ne.symm I.ne)).trans I.obj,hn2,I.ne⟩ hs2)
def BW{R:Result->Shared->Prop}{vs:List Value}{kw:List (Str×Value)}(X:K.In s.heap)(hm:PySem.W.makesIn K C=true)
 (hi:PySem.W.findIn K (.ref C) "__init__" =some (some (.ref f)))(hf:PySem.W.typeIn K (.ref f)=some (.type "function"))
 (h:codeAny (model prog w) (A.under (.builtin "type.__call__" ⟨.ref C::vs,kw⟩)) (.call (.ref f) ⟨.ref (s.heap.objs.size+1)::vs,kw⟩) (PySem.W.InitBack (s.heap.objs.size+1) R)
   {s with heap:=(s.heap.push PySem.W.emptyDict).push (PySem.W.instObj C s.heap.objs.size)}) :
 codeAny (model prog w) A (.call (.ref C) ⟨vs,kw⟩) R s:=by
 obtain⟨hh,g,d,t,os⟩:=s
 exact PySem.W.make_core (PySem.W.makes_of X hm) (PySem.W.looks_findIn X hi) (λself=>PySem.W.bind_fn X self hf) (.inl rfl) h
end
def dg(f:Str)(v:V):List (Str×V)->List (Str×V)
 | []=>[(f,v)]
 |(g,x)::r=>if g=f then(g,v)::r else(g,x)::dg f v r
theorem jZ(f g:Str)(v:V):∀fs:List (Str×V),(dg f v fs).lookup g=if g=f then some v else fs.lookup g
 | []=>by
   show List.lookup g [(f,v)]=_
   by_cases h:g=f
   ·have hb:(g== f)=true:=beq_iff_eq.mpr h
    simp only[List.lookup,hb,if_pos h]
   ·have hb:(g== f)=false:=beq_eq_false_iff_ne.mpr h
    simp only[List.lookup,hb,if_neg h]
 |(k,x)::r=>by
  have ih:=jZ f g v r
  rw[show dg f v ((k,x)::r)=(if k=f then(k,v)::r else(k,x)::dg f v r) from rfl]
  by_cases hk:k=f
  ·rw[if_pos hk]
   by_cases h:g=k
   ·have hb:(g== k)=true:=beq_iff_eq.mpr h
    simp only[List.lookup,hb,if_pos (h.trans hk)]
   ·have hb:(g== k)=false:=beq_eq_false_iff_ne.mpr h
    simp only[List.lookup,hb,if_neg (λe:g=f=>h (e.trans hk.symm))]
  ·rw[if_neg hk]
   by_cases h:g=k
   ·have hb:(g== k)=true:=beq_iff_eq.mpr h
    simp only[List.lookup,hb,if_neg (λe:g=f=>hk (h.symm.trans e))]
   ·have hb:(g== k)=false:=beq_eq_false_iff_ne.mpr h
    simp only[List.lookup,hb]
    exact ih
theorem jy(f:Str)(v:V):∀fs:List (Str×V),f∈(dg f v fs).map (·.1)/\∀g,g∈fs.map (·.1)->g∈(dg f v fs).map (·.1)
 | []=>⟨by simp[dg],λg h=>by simp at h⟩
 |(k,x)::r=>by
  obtain⟨i1,i2⟩:=jy f v r
  rw[show dg f v ((k,x)::r)=(if k=f then(k,v)::r else(k,x)::dg f v r) from rfl]
  by_cases hk:k=f
  ·rw[if_pos hk]
   subst hk
   exact⟨by simp,λg h=>by simpa using h⟩
  ·rw[if_neg hk]
   refine⟨?_,λg h=>?_⟩
   ·rw[List.map_cons]
    exact List.mem_cons_of_mem _ i1
   ·rw[List.map_cons] at h ⊢
    rcases List.mem_cons.mp h with e|e
    ·exact List.mem_cons.mpr (.inl e)
    ·exact List.mem_cons_of_mem _ (i2 g e)
theorem j_(f:Str)(v:V):∀fs:List (Str×V),(dg f v fs).length<=fs.length+1
 | []=>by simp[dg]
 |(k,x)::r=>by
  have ih:=j_ f v r
  rw[show dg f v ((k,x)::r)=(if k=f then(k,v)::r else(k,x)::dg f v r) from rfl]
  by_cases hk:k=f
  ·rw[if_pos hk,List.length_cons,List.length_cons];omega
  ·rw[if_neg hk,List.length_cons,List.length_cons];omega
def oX.some_of{v:V}{o:Option Value}(r:oX (some v) o):∃u,o=some u/\RelV v u:=by
 cases o with
 |none=>exact(show False from r).elim
 |some u=>exact⟨u,rfl,r⟩
def oX.none_of{o:Option Value}(r:oX none o):o=none:=by
 cases o with
 |none=>rfl
 |some u=>exact(show False from r).elim
def Ag{v:V}{u:Value}(r:RelV v u):PySem.W.handedIn u=true:=by
 cases v with
 |non=>cases(show u=Value.none from r);rfl
 |bl b=>cases(show u=Value.bool b from r);rfl
 |int i=>obtain⟨t,e⟩:=(show ∃t,u=Value.int i t from r);cases e;rfl
 |str x=>obtain⟨t,e⟩:=(show ∃t,u=Value.str x t from r);cases e;rfl
 |HW b=>obtain⟨t,e⟩:=(show ∃t,u=Value.bytes b t from r);cases e;rfl
 |flt b=>obtain⟨t,e⟩:=(show ∃t,u=Value.float b t from r);cases e;rfl
 |ref a=>cases(show u=Value.ref a from r);rfl
 |ty n=>cases(show u=Value.type n from r);rfl
section
variable{P:Program}{w:World}{H H':Hp}{h h':Heap}{a C dx:Addr}{fs fs':List (Str×V)}
def lQ(hok:iM P w H h)(e:H a=some (.ins C dx fs)):∃mA,vW h a dx C mA/\(∀f,oX (fs.lookup f) (mA f))/\PySem.Within mA (fs.map (·.1))/\fs.length<=1000/\H dx=some (.own a):=by
 obtain⟨d,z,ne,ob,mA,n,r,q⟩:=(show ŧ P w H h a (.ins C dx fs) from hok a _ e)
 exact⟨mA,⟨ob,n,ne⟩,r,q,z,d⟩
end
structure Cls(K:PySem.W.Frag)(C:Addr):Prop where
 pg:PySem.W.plainGet K C Str.empty=true
 hd:PySem.W.hasDictIn K C=true
 po:PySem.W.plainOver K C=true
 sa:PySem.W.findIn K (.ref C) "__setattr__" =some (some (.builtin "object.__setattr__"))
def Cls.get{K:PySem.W.Frag}{C:Addr}(c:Cls K C)(f:Str):PySem.W.plainGet K C f=true:=c.pg
def ı(K:PySem.W.Frag)(C:Addr)(f:Str):Prop:=PySem.W.findIn K (.ref C) f=some none
def ı.taker{K:PySem.W.Frag}{C:Addr}{f:Str}(n:ı K C f):PySem.W.takerIn K C f=some none:=by
 unfold PySem.W.takerIn
 rw[show PySem.W.findIn K (.ref C) f=some none from n]
 rfl
structure Meth(K:PySem.W.Frag)(C:Addr)(m:Str)(f:Addr):Prop where
 at_:PySem.W.findIn K (.ref C) m=some (some (.ref f))
 fn:PySem.W.isFn K (.ref f)=true
 kp:PySem.W.keepIn K (.ref f)=true
section
variable{X:Cx}{pins:List (Addr×Obj)}{σ:St}{H:Hp}{s:Shared}{a C dx:Addr}{fs:List (Str×V)}{f:Str}{v:V}{A:Around}{E:Value->Shared->Prop}
def vX{b:Bool}{Q:Value->Shared->Prop}(I:Inv X pins σ H s)(e:H a=some (.ins C dx fs))(c:Cls X.K C)(n:ı X.K C f)(l:fs.lookup f=some v)
 (h:∀u s',Inv X pins σ H s'->RelV v u->Q u s'):wpAny (model X.prog X.w) A (getAttr (.ref a) f b) Q E s:=by
 obtain⟨mA,O,r,_,_,_⟩:=lQ I.hok e
 obtain⟨u,hu,ru⟩:=oX.some_of (v:=v) (o:=mA f) (by rw[<-l];exact r f)
 exact get_map I.jY O (c.get f) c.hd n hu (Ag ru) (h u _ (I.tok _) ru)
def vY{m:Str}{g:Addr}{pl:Sem Bool}{Q:Value×List Value->Shared->Prop}(I:Inv X pins σ H s)(e:H a=some (.ins C dx fs))(c:Cls X.K C)(k:Meth X.K C m g)(l:fs.lookup m=none)
 (h:Q (.ref g,[.ref a]) s):wpAny (model X.prog X.w) A (getMethod (.ref a) m pl) Q E s:=by
 obtain⟨mA,O,r,_,_,_⟩:=lQ I.hok e
 have hn:mA m=none:=oX.none_of (by rw[<-l];exact r m)
 exact BR I.jY O (c.get m) k.at_ k.fn hn h
def vZ{y:V}{u:Value}{Q:Unit->Shared->Prop}(I:Inv X pins σ H s)(e:H a=some (.ins C dx fs))(c:Cls X.K C)(n:ı X.K C f)(hl:fs.length<1000)(ry:RelV y u)
 (h:∀s',Inv X pins σ (upd H a (.ins C dx (dg f y fs))) s'->Q () s'):wpAny (model X.prog X.w) A (setAttr (.ref a) f u) Q E s:=by
 obtain⟨mA,O,r,wi,_,ho⟩:=lQ I.hok e
 have hz:(fs.map (·.1)).length<=sizeLine:=by rw[List.length_map,sizeLine_eq];omega
 refine Ip I.jY O c.sa c.po n.taker c.hd wi hz λh' O' sb=>h _ ?_
 have hd:∃o,h'.get? dx=some o:=let ⟨o,_,_,e',_⟩:=O'.ns;⟨o,e'⟩
 refine I.write (x:=a) (e:=dx) (by rw[e];exact True.intro) (.inr ho) (λb q hb z=>(sb.2 b hb).trans z) hd ?_
 refine⟨by rw[ę O.ne];exact ho,?_,O.ne,O'.obj,_,O'.ns,λg=>?_,λg hg=>?_⟩
 ·have:=j_ f y fs;omega
 ·show oX ((dg f y fs).lookup g) (if g=f then some u else mA g)
  rw[jZ]
  by_cases q:g=f
  ·rw[if_pos q,if_pos q];exact ry
  ·rw[if_neg q,if_neg q];exact r g
 ·by_cases q:g=f
  ·rw[q];exact(jy f y fs).1
  ·refine(jy f y fs).2 g (wi g λz=>hg ?_)
   show(if g=f then some u else mA g)=none
   rw[if_neg q];exact z
def Inv.made(I:Inv X pins σ H s):Inv X pins σ (upd (upd H s.heap.objs.size (.own (s.heap.objs.size+1))) (s.heap.objs.size+1) (.ins C s.heap.objs.size []))
 {s with heap:=(s.heap.push PySem.W.emptyDict).push (PySem.W.instObj C s.heap.objs.size)}:=by
 have e1:(s.heap.push PySem.W.emptyDict).get? s.heap.objs.size=some PySem.W.emptyDict:=Heap.get?_push_size s.heap rfl
 have e2:((s.heap.push PySem.W.emptyDict).push (PySem.W.instObj C s.heap.objs.size)).get? (s.heap.objs.size+1)=some (PySem.W.instObj C s.heap.objs.size):=by
  have:=Heap.get?_push_size (s.heap.push PySem.W.emptyDict) (o:=PySem.W.instObj C s.heap.objs.size) rfl
  rwa [Heap.size_push] at this
 have e3:(s.heap.push PySem.W.emptyDict).Ns s.heap.objs.size (λ_=>none):=⟨PySem.W.emptyDict,#[],_,e1,rfl,(λe he=>absurd he (by simp)),λ_=>rfl⟩
 have I1:=I.laid (a:=s.heap.objs.size) (o:=.own (s.heap.objs.size+1)) (h':=s.heap.push PySem.W.emptyDict) (t':=s.toks) (λb u q=>Heap.get?_push_of_some _ q) (Nat.le_refl _) ⟨_,e1⟩
 refine I1.laid (a:=s.heap.objs.size+1) (o:=.ins C s.heap.objs.size []) (t':=s.toks) (λb u q=>Heap.get?_push_of_some _ q) (Nat.le_of_eq (Heap.size_push _ _)) ?_
 have ne:s.heap.objs.size≠s.heap.objs.size+1:=Nat.ne_of_lt (Nat.lt_succ_self _)
 refine⟨by rw[ę ne,Ğ],Nat.zero_le _,ne,e2,λ_=>none,(Heap.Ns1.of_empty e3).at λo q=>Heap.get?_push_of_some _ q,λ_=>True.intro,λy hy=>absurd rfl hy⟩
def Ir{prog:Program}{w:World}{env:Env}{e:Expr}{f:Str}{pos:Pos}{s:Shared}{Q:Value->Shared->Prop}(hb:attributeBase e f env (eval e env)=eval e env)
 (h:wpAny (model prog w) A (eval e env) (λo s₁=>wpAny (model prog w) A (getAttr o f true) Q E s₁) E s):wpAny (model prog w) A (eval (.Attribute e f pos) env) Q E s:=
 Attribute_any_ h (by rw[arm_eval_Attribute,hb])
end
def ZbP(K:PySem.W.Frag)(ta:TE)(f:Str):TE:=λσ H Q=>ta σ H λx H1=>∃a C dx fs v,x=.ref a/\H1 a=some (.ins C dx fs)/\Cls K C/\ı K C f/\fs.lookup f=some v/\Q v H1
def ZbQ(K:PySem.W.Frag)(ta tv:TE)(f:Str):TS:=λD σ H=>tv σ H λy H1=>ta σ H1 λx H2=>∃a C dx fs,x=.ref a/\H2 a=some (.ins C dx fs)/\Cls K C/\ı K C f/\fs.length<1000/\
 D.nx σ (upd H2 a (.ins C dx (dg f y fs)))
section
variable{X:Cx}{o e value:Expr}{f:Str}{pos pos' tpos:Pos}{ta tv:TE}
def SM(he:PE X e ta)(hb:attributeBase e f X.env (eval e X.env)=eval e X.env):PE X (.Attribute e f pos) (ZbP X.K ta f):=by
 intro pins s σ H Q I h
 refine Ir hb (ő (he pins s σ H _ I h) λu s1 ⟨x,H1,I1,rx,a,C,dx,fs,v,ex,ea,c,n,l,q⟩=>?_)
 subst ex
 obtain rfl:u=Value.ref a:=rx
 exact vX I1 ea c n l λu' s2 I2 ru=>⟨v,H1,I2,ru,q⟩
def SN(ha:PE X o ta)(hv:PE X value tv)(hs:swapsWith value (some (.Attribute o f pos')) pos.line X.env=pure false):PS X (.Assign [.Attribute o f pos'] value pos) (ZbQ X.K ta tv f):=by
 intro pins s σ H D I h
 refine plainObj_wpAny_Assign_Attribute (ő (hv pins s σ H _ I h) λu s1 ⟨y,H1,I1,ry,q⟩=>ő (ha pins s1 σ H1 _ I1 q) λov s2 ⟨x,H2,I2,rx,a,C,dx,fs,ex,ea,c,n,l,q2⟩=>?_) hs
 subst ex
 obtain rfl:ov=Value.ref a:=rx
 exact vZ I2 ea c n l ry λs3 I3=>⟨σ,_,I3,q2⟩
end
section
variable{X:Cx}{pins:List (Addr×Obj)}{σ:St}{H:Hp}{s:Shared}{A:Around}{E:Value->Shared->Prop}{Q:Value->Shared->Prop}{c:Value}{b:Bool}
inductive jz(K:PySem.W.Frag)(H:Hp):V->Value->Prop where
 |non:jz K H .non (.type "NoneType")
 |bl (x:Bool):jz K H (.bl x) (.type "bool")
 |int (i:Int):jz K H (.int i) (.type "int")
 |str (x:Str):jz K H (.str x) (.type "str")
 |flt (x:UInt64):jz K H (.flt x) (.type "float")
 |lst {a:Addr} {xs:List V} (e:H a=some (.lst xs)):jz K H (.ref a) (.type "list")
 |cX {a:Addr} {o:Obj} {xs:List V} (e:H a=some (.cX o (.lst xs))):jz K H (.ref a) (.type "list")
 |tup {a:Addr} {xs:List V} (e:H a=some (.tup xs)):jz K H (.ref a) (.type "tuple")
 |dK {a:Addr} {kvs:List (Key×V)} (e:H a=some (.dK kvs)):jz K H (.ref a) (.type "dict")
 |dT {a:Addr} {kvs:List (List Key×V)} (e:H a=some (.dT kvs)):jz K H (.ref a) (.type "dict")
 |ins {a C dx:Addr} {fs:List (Str×V)} (e:H a=some (.ins C dx fs)) (cl:Cls K C) (ha:PySem.W.findIn K (.ref C) "__class__" =some (some (.builtin "object.__class__")))
   (hn:PySem.W.specialIn K (.builtin "object.__class__") "__get__" =some (some (.builtin "getset_descriptor.__get__"))) (htk:PySem.W.takesIn K (.builtin "object.__class__")=some true)
   (hm:PySem.W.mroIn K C (.type "object")=some true):jz K H (.ref a) (.ref C)
def cG{x:V}{u t:Value}(I:Inv X pins σ H s)(rx:RelV x u)(ty:jz X.K H x t)(e:PySem.W.kitOne X.K t c=some b)(h:∀tk,Q (.bool b) {s with toks:=tk}) :
 wpAny (model X.prog X.w) A (call (.builtin "isinstance") [u,c]) Q E s:=by
 cases ty with
 |non=>cases(show u=Value.none from rx);exact PySem.W.kia_one PySem.W.kitx_none I.jY True.intro e (λz=>nomatch z) h
 |bl y=>cases(show u=Value.bool y from rx);exact PySem.W.kia_one PySem.W.kitx_bool I.jY True.intro e (λz=>nomatch z) h
 |int i=>obtain⟨t,q⟩:=(show ∃t,u=Value.int i t from rx);cases q;exact PySem.W.kia_one PySem.W.kitx_int I.jY True.intro e (λz=>nomatch z) h
 |str y=>obtain⟨t,q⟩:=(show ∃t,u=Value.str y t from rx);cases q;exact PySem.W.kia_one PySem.W.kitx_str I.jY True.intro e (λz=>nomatch z) h
 |flt y=>obtain⟨t,q⟩:=(show ∃t,u=Value.float y t from rx);cases q;exact PySem.W.kia_one PySem.W.kitx_float I.jY True.intro e (λz=>nomatch z) h
 |@lst a xs ea=>
  cases(show u=Value.ref a from rx)
  obtain⟨_,_,n,_,h1⟩:=(show ŧ X.prog X.w H s.heap a (.lst xs) from I.hok a _ ea)
  exact PySem.W.kia_one PySem.W.kitx_list I.jY ⟨_,h1,rfl⟩ e (λz=>nomatch z) h
 |@cX a ob xs ea=>
  cases(show u=Value.ref a from rx)
  obtain⟨_,_,_,n,_,h1⟩:=(show ŧ X.prog X.w H s.heap a (.cX ob (.lst xs)) from I.hok a _ ea)
  exact PySem.W.kia_one PySem.W.kitx_list I.jY ⟨_,h1,rfl⟩ e (λz=>nomatch z) h
 |@tup a xs ea=>
  cases(show u=Value.ref a from rx)
  obtain⟨_,_,_,p⟩:=(show ŧ X.prog X.w H s.heap a (.tup xs) from I.hok a _ ea)
  obtain⟨o,h1,h2,_⟩:=p
  exact PySem.W.kia_one PySem.W.kitx_tuple I.jY ⟨o,h1,h2⟩ e (λz=>nomatch z) h
 |@dK a kvs ea=>
  cases(show u=Value.ref a from rx)
  obtain⟨_,_,vs,_,p⟩:=(show ŧ X.prog X.w H s.heap a (.dK kvs) from I.hok a _ ea)
  obtain⟨o,es,ep,h1,h2,_⟩:=p
  exact PySem.W.kia_one PySem.W.kitx_dict I.jY ⟨o,h1,h2.1⟩ e (λz=>nomatch z) h
 |@dT a kvs ea=>
  cases(show u=Value.ref a from rx)
  obtain⟨_,_,xs,_,o,es,ep,h1,h2,_⟩:=(show ŧ X.prog X.w H s.heap a (.dT kvs) from I.hok a _ ea)
  exact PySem.W.kia_one PySem.W.kitx_dict I.jY ⟨o,h1,h2.1⟩ e (λz=>nomatch z) h
 |@ins a C dx fs ea cl ha hn htk hm=>
  cases(show u=Value.ref a from rx)
  obtain⟨mA,O,_⟩:=lQ I.hok ea
  obtain⟨od,J,_⟩:=O.look
  exact PySem.W.kia_one (PySem.W.kitx_own (cl.get _) cl.hd ha hn htk hm) I.jY J e (λz=>nomatch z) h
end
end L2
namespace L2
open PySem PySem.Spec PyProof.Rows
structure Ř(k:Nat)(A:Around):Prop where
 hd:A.handled=none
 dp:A.depth+3*k+5<recursionLimit
 un:A.units+16*k+200<cLine
def Ř.mono{j k:Nat}{A:Around}(r:Ř k A)(h:j<=k):Ř j A:=⟨r.hd,by have:=r.dp;omega,by have:=r.un;omega⟩
def Ř.mo{j k:Nat}{A:Around}(r:Ř k A)(h:j<=k:= by decide):Ř j A:= r.mono h
theorem Ř.deeper{k:Nat}{A:Around}(r:Ř (k+1) A)(env:Env):Ř k (A.deeper env):=
 ⟨r.hd,by have:=r.dp;show A.depth+1+3*k+5<_;omega,by have:=r.un;show A.units+3+16*k+200<_;omega⟩
theorem Ř.in1{k:Nat}{A:Around}(r:Ř (k+1) A):Ř k A.in1:=
 ⟨r.hd,by have:=r.dp;show A.depth+3*k+5<_;omega,by have:=r.un;show A.units+1+16*k+200<_;omega⟩
def wg{A:Around}{C:Addr}{us:List Value}{kw:List (Str×Value)}:(A.under (.builtin "type.__call__" ⟨.ref C::us,kw⟩)).depth=A.depth+1:=by
 first|rfl|simp[Around.under,Code.weight,Code.isCreation,Code.isGuard,Code.isCaller,Code.frames,Code.isFrame,guardIds]
def wj{A:Around}{C:Addr}{us:List Value}{kw:List (Str×Value)}:(A.under (.builtin "type.__call__" ⟨.ref C::us,kw⟩)).units=A.units+1:=by
 first|rfl|simp[Around.under,Code.cUnits,Code.frames,Code.isFrame]
def Ř.make{k:Nat}{A:Around}(r:Ř (k+1) A)(C:Addr)(us:List Value)(kw:List (Str×Value)):Ř k (A.under (.builtin "type.__call__" ⟨.ref C::us,kw⟩)):=
 ⟨r.hd,by have:=r.dp;rw[wg];omega,by have:=r.un;rw[wj];omega⟩
theorem Ř.depth{k:Nat}{A:Around}(r:Ř k A):A.depth<recursionLimit:=by have:=r.dp;omega
theorem Ř.units{k:Nat}{A:Around}(r:Ř k A):A.units+64<cLine:=by have:=r.un;omega
def ZbR:TA:=λ_ H Q=>Q [] H
def Xx(ta:TE)(tr:TA):TA:=λσ H Q=>ta σ H λx H1=>tr σ H1 λxs H2=>Q (x::xs) H2
section
variable{X:Cx}{e:Expr}{es:List Expr}{te:TE}{t:TA}{pos:Pos}
def jA:PA X [] ZbR:=λ_ _ _ _ H Q I h=>Calls.spliced_nil ⟨[],H,I,.nil,h⟩
def aP(ha:PE X e te)(hr:PA X es t)(hs:starEach (e::es) X.env=(false,eval e X.env)::starEach es X.env:=by rfl):PA X (e::es) (Xx te t):=by
 intro pos pins s σ H Q I h
 rw[hs]
 show wpAny _ _ (spliced ((false,eval e X.env)::backTo pos (starEach es X.env))) _ _ s
 refine Calls.spliced_cons (ő (ha pins s σ H _ I h) λu s1 ⟨x,H1,I1,r1,q1⟩=>?_)
 exact ő (hr pos pins s1 σ H1 _ I1 q1) λus s2 ⟨xs,H2,I2,r2,q2⟩=>⟨x::xs,H2,I2,.cons r1 r2,q2⟩
def ZbS(t:TA):TE:=λσ H Q=>t σ H λxs H1=>xs.length<=sizeLine/\∀p,H1 p=none->Q (.ref p) (upd H1 p (.tup xs))
def ZbT(t:TA):TE:=λσ H Q=>t σ H λxs H1=>xs.length<=sizeLine/\∀p,H1 p=none->Q (.ref p) (upd H1 p (.lst xs))
def BX{x1}(h:PA X es t):PE X (.Tuple es x1 pos) (ZbS t):=by
 intro pins s σ H Q I hq
 refine wpAny_Tuple_spliced (ő (h pos pins s σ H _ I hq) λus s1 ⟨xs,H1,I1,r,z,q⟩=>⟨by rw[<-r.length];exact z,?_⟩)
 have hf:H1 s1.heap.objs.size=none:=I1.hok.fresh (Nat.le_refl _)
 refine⟨.ref s1.heap.objs.size,upd H1 s1.heap.objs.size (.tup xs),I1.laid (t':=s1.toks) (λb u e=>Heap.get?_push_of_some _ e) (Nat.le_refl _) ?_,rfl,q _ hf⟩
 exact⟨z,us,r,⟨_,Heap.get?_push_size _ rfl,rfl,_,rfl⟩⟩
def SQ(h:PA X es t):PE X (.List es pos) (ZbT t):=by
 intro pins s σ H Q I hq
 refine wpAny_List_spliced (ő (h pos pins s σ H _ I hq) λus s1 ⟨xs,H1,I1,r,z,q⟩=>⟨by rw[<-r.length];exact z,?_⟩)
 have hf:H1 s1.heap.objs.size=none:=I1.hok.fresh (Nat.le_refl _)
 refine⟨.ref s1.heap.objs.size,upd H1 s1.heap.objs.size (.lst xs),I1.laid (t':=s1.toks) (λb u e=>Heap.get?_push_of_some _ e) (Nat.le_refl _) ?_,rfl,q _ hf⟩
 exact⟨z,us,0,r,Heap.get?_push_size _ rfl⟩
end
abbrev Sp:=List V->Hp->VK->XK->Prop
abbrev jB:=List Env->Hp->Shared->XK->Value->Shared->Prop
structure wu(P:Program)(w:World)(K:PySem.W.Frag)(mg:Str->Option Value)(base:Heap)(A:Around)(outer:List Env)(s:Shared)(H:Hp):Prop where
 frames:A.frames=some outer
 mod:Mod K mg base
 bs:∀b o,base.get? b=some o->s.heap.get? b=some o/\H b=none
 Hz:base.objs.size<=s.heap.objs.size
 lu:s.heap.FunFrames base outer
 Ru:∀b∈frs outer,H b=none
 hok:iM P w H s.heap
 bare:AllBare s.gens
 tb:TabsOk K mg base H
def CE(outer:List Env)(P:Program)(w:World)(H:Hp)(s:Shared)(Q:VK)(u:Value)(s':Shared):Prop:=
 ∃v H',s'.os=s.os/\AllBare s'.gens/\Un (frs outer) [] H H' s.heap s'.heap/\iM P w H' s'.heap/\RelV v u/\Q v H'
def CR(CX:jB)(outer:List Env)(P:Program)(w:World)(H:Hp)(s:Shared)(Q:VK)(E:XK)(r:Result)(s':Shared):Prop:=
 match r with
 | .ok (.ret u)=>CE outer P w H s Q u s'
 | .ok _=>False
 | .error e=>CX outer H s E e s'
structure Ħ(P:Program)(w:World)(K:PySem.W.Frag)(mg:Str->Option Value)(base:Heap)(CX:jB)(k:Nat)(f:Addr)(fd:FuncData)(ps:List Str)(sp:Sp):Prop where
 len:∀vs H Q E,sp vs H Q E->vs.length=ps.length
 run:∀(A:Around) (outer:List Env) (s:Shared) (H:Hp) (args:Args) (us:List Value) (vs:List V) (Q:VK) (E:XK),Ř k A->wu P w K mg base A outer s H->BindsTo s fd args (ps.zip us)->Vals vs us->sp vs H Q E->
  codeAny (model P w) A (.call (.ref f) args) (CR CX outer P w H s Q E) s
theorem Ħ.mono{P:Program}{w:World}{K:PySem.W.Frag}{mg:Str->Option Value}{base:Heap}{CX:jB}{j k:Nat}{f:Addr}{fd:FuncData}{ps:List Str}{sp:Sp}(F:Ħ P w K mg base CX j f fd ps sp)(h:j<=k) :
 Ħ P w K mg base CX k f fd ps sp:=⟨F.len,λA outer s H args us vs Q E hr=>F.run A outer s H args us vs Q E (hr.mono h)⟩
def Ħ.imp{P:Program}{w:World}{K:PySem.W.Frag}{mg:Str->Option Value}{base:Heap}{CX:jB}{k:Nat}{f:Addr}{fd:FuncData}{ps:List Str}{sp sp':Sp}(F:Ħ P w K mg base CX k f fd ps sp)
 (h:∀vs H Q E,sp' vs H Q E->sp vs H Q E):Ħ P w K mg base CX k f fd ps sp':=
 ⟨λvs H Q E q=>F.len vs H Q E (h _ _ _ _ q),λA outer s H args us vs Q E hr he hb hv hs=>F.run A outer s H args us vs Q E hr he hb hv (h _ _ _ _ hs)⟩
def wu.make{P:Program}{w:World}{K:PySem.W.Frag}{mg:Str->Option Value}{base:Heap}{A:Around}{outer:List Env}{s:Shared}{H:Hp}(e:wu P w K mg base A outer s H)(C:Addr)(us:List Value)(kw:List (Str×Value)) :
 wu P w K mg base (A.under (.builtin "type.__call__" ⟨.ref C::us,kw⟩)) outer s H:=⟨by first|exact e.frames|(simpa[Around.under,Code.envs,Code.isFrame,pushEnvs] using e.frames),e.mod,e.bs,e.Hz,e.lu,e.Ru,e.hok,e.bare,e.tb⟩
section
variable{X:Cx}{pins:List (Addr×Obj)}{σ:St}{H:Hp}{s s':Shared}
def Inv.env0(I:Inv X pins σ H s):wu X.prog X.w X.K X.mg X.base X.A X.stack s H:=
 ⟨I.ok.frames,I.ok.mod,I.bs,Nat.le_trans I.ok.Hz I.sz,I.stack,I.qM,I.hok,I.bare,I.tb⟩
def Inv.after{Q:VK}{u:Value}(I:Inv X pins σ H s)(h:CE X.stack X.prog X.w H s Q u s'):EP X pins σ Q u s':=by
 obtain⟨v,H',os,bare,un,hok,r,q⟩:=h
 obtain⟨hh,g,d,t,os'⟩:=s'
 obtain rfl:os'=s.os:=os
 exact⟨v,H',I.call (h':=hh) (g':=g) (d':=d) (t':=t) (ch:=[]) un hok bare (λb z=>absurd z (by simp)),r,q⟩
end
def Binds(K:PySem.W.Frag)(fd:FuncData)(ps:List Str)(ds:List Value):Prop:=
 ∀(s:Shared) (us:List Value),K.In s.heap->(us++ds).length=ps.length->BindsTo s fd ⟨us,[]⟩ (ps.zip (us++ds))
def Binds.all{K:PySem.W.Frag}{fd:FuncData}{ps:List Str}(h:∀us:List Value,us.length=ps.length->bindArgs fd ⟨us,[]⟩=pure (ps.zip us)):Binds K fd ps []:=λs us _ hl=>by
 rw[List.append_nil] at hl ⊢
 exact .of_eq (h us hl)
section
variable{X:Cx}{CX:jB}{k:Nat}{f C:Addr}{fd:FuncData}{ps:List Str}{sp:Sp}{dvs:List V}{ds:List Value}{E:XK}{x m:Str}{p pos apos:Pos}{e o:Expr}{es:List Expr}{ta:TE}{t:TA}
structure Mk(K:PySem.W.Frag)(C f:Addr):Prop where
 makes:PySem.W.makesIn K C=true
 init:PySem.W.findIn K (.ref C) "__init__" =some (some (.ref f))
 fn:PySem.W.isFn K (.ref f)=true
 kp:PySem.W.keepIn K (.ref C)=true
end
section
variable{X:Cx}{CX:jB}{k:Nat}{f C:Addr}{fd:FuncData}{ps ks:List Str}{sp:Sp}{E:XK}{x m:Str}{p pos apos kpos:Pos}{e o:Expr}{es:List Expr}{kws:List Keyword}{te ta:TE}{t tk:TA}{nm:Option Str}
variable{g:List Value->List Value->List Value}{gV:List V->List V->List V}
end
structure Ē(N P:List Str)(sc:Scope):Prop where
 kind:sc.kind=.function
 co:sc.isCoroutine=false
 gen:sc.isGenerator=false
 nd:N.Nodup
 pre:N.take P.length=P
 par:∀x∈P,sc.names.lookup x=some .local\/sc.names.lookup x=some .cell
 SX:∀y∈sc.names,y.2≠ .free
theorem pK{kindOf:Str->Option NameKind}{x:Str}:∀{binds:List (Str×Value)} {m:Str->Option Value},(∀v,(x,v)∉binds)->bindL kindOf binds m x=m x
 | [],_,_=>rfl
 |(n,v)::r,m,h=>by
  unfold bindL
  rw[pK λw hw=>h w (List.mem_cons_of_mem _ hw)]
  split
  ·have:x≠n:=by rintro rfl;exact h v List.mem_cons_self
   simp[this]
  ·rfl
theorem pL{kindOf:Str->Option NameKind}{x:Str}:∀{binds:List (Str×Value)} {m:Str->Option Value},(∀v,(x,v)∉binds)->bindC kindOf binds m x=m x
 | [],_,_=>rfl
 |(n,v)::r,m,h=>by
  unfold bindC
  rw[pL λw hw=>h w (List.mem_cons_of_mem _ hw)]
  split
  ·rfl
  ·have:x≠n:=by rintro rfl;exact h v List.mem_cons_self
   simp[this]
theorem pN{kindOf:Str->Option NameKind}{x:Str}{v:Value}:∀{P:List Str} {vs:List Value} {i:Nat} {m:Str->Option Value},P.Nodup->P[i]?=some x->vs[i]?=some v->kindOf x=some .local->
 bindL kindOf (P.zip vs) m x=some v
 | [],_,_,_,_,h,_,_=>by simp at h
 |_::_,[],_,_,_,_,h,_=>by simp at h
 |p::P,w::vs,0,m,nd,h1,h2,hk=>by
  simp at h1 h2;subst h1;subst h2
  show bindL kindOf ((p,w)::P.zip vs) m p=_
  unfold bindL
  rw[pK λv hv=>(List.nodup_cons.mp nd).1 (List.of_mem_zip hv).1,if_pos hk]
  simp
 |p::P,w::vs,i+1,m,nd,h1,h2,hk=>by
  show bindL kindOf ((p,w)::P.zip vs) m x=_
  unfold bindL
  exact pN (i:=i) (List.nodup_cons.mp nd).2 (by simpa using h1) (by simpa using h2) hk
theorem pO{kindOf:Str->Option NameKind}{x:Str}{v:Value}:∀{P:List Str} {vs:List Value} {i:Nat} {m:Str->Option Value},P.Nodup->P[i]?=some x->vs[i]?=some v->kindOf x≠some .local->
 bindC kindOf (P.zip vs) m x=some v
 | [],_,_,_,_,h,_,_=>by simp at h
 |_::_,[],_,_,_,_,h,_=>by simp at h
 |p::P,w::vs,0,m,nd,h1,h2,hk=>by
  simp at h1 h2;subst h1;subst h2
  show bindC kindOf ((p,w)::P.zip vs) m p=_
  unfold bindC
  rw[pL λv hv=>(List.nodup_cons.mp nd).1 (List.of_mem_zip hv).1,if_neg hk]
  simp
 |p::P,w::vs,i+1,m,nd,h1,h2,hk=>by
  show bindC kindOf ((p,w)::P.zip vs) m x=_
  unfold bindC
  exact pO (i:=i) (List.nodup_cons.mp nd).2 (by simpa using h1) (by simpa using h2) hk
def start(N:List Str)(vs:List V):St:=vs.map some++List.replicate (N.length-vs.length) none
def o_(CX:jB)(P:Program)(w:World)(K:PySem.W.Frag)(mg:Str->Option Value)(base:Heap)(N:List Str)(qual:Str)(scope:Scope)(f:Addr)(cd:Value)(A:Around)(outer:List Env)(s:Shared)(H:Hp)(E:XK):Cx where
 prog:=P
 w:=w
 K:=K
 mg:=mg
 base:=base
 A:=A.deeper (envOfC qual scope s.heap.objs.size f cd)
 N:=N
 s₀:= s
 H₀:= H
 env:=envOfC qual scope s.heap.objs.size f cd
 outer:=outer
 stack:=envOfC qual scope s.heap.objs.size f cd::outer
 ex:=[]
 calm:=true
 fn:=λ_=>true
 pn:=[]
 xe:=λe s'=>wpAny (model P w) (A.deeper (envOfC qual scope s.heap.objs.size f cd)) (leaving (envOfC qual scope s.heap.objs.size f cd) e) (λ_ s''=>CX outer H s E e s'') (λe' s''=>CX outer H s E e' s'') s'
def iU{sc:Scope}{n:Nat}{x:Str}(h:sc.names.lookup x=some .cell):∃c,(cellsFrom n sc.names []).lookup x=some c:=by
 have q:=PySem.W.cellsFrom_some sc.names n [] (.inl h)
 exact Option.isSome_iff_exists.mp q
def Ah{CX:jB}{P:Program}{w:World}{K:PySem.W.Frag}{mg:Str->Option Value}{base:Heap}{N ps:List Str}{qual:Str}{scope:Scope}{f:Addr}{cd:Value}{A:Around}{outer:List Env}{s s1:Shared}{H:Hp}{E:XK}{us:List Value}{vs:List V}
 (S:Ē N ps scope)(hd:A.handled=none)(e0:wu P w K mg base A outer s H)(hl:vs.length=ps.length)(r:Vals vs us)
 (x:InCallC s s.heap.objs.size (bindL (envOfC qual scope s.heap.objs.size f cd).kindOf (ps.zip us) λ_=>none) (cellsFrom (s.heap.objs.size+1) scope.names []) (bindC (envOfC qual scope s.heap.objs.size f cd).kindOf (ps.zip us) λ_=>none) s1) :
 Inv (o_ CX P w K mg base N qual scope f cd A outer s H E) [] (start N vs) H s1:=by
 have hpl:ps.length<=N.length:=by have:=congrArg List.length S.pre;rw[List.length_take] at this;omega
 obtain⟨h1,tk,rfl,hk⟩:=x.done
 have Xy:∀b:Addr,b∉(o_ CX P w K mg base N qual scope f cd A outer s H E).ex:=λb z=>absurd (show b∈([]:List Addr) from z) (by simp)
 refine⟨⟨e0.mod,S.kind,rfl,rfl,Nat.le_refl _,λy z c h1 h2=>?_,λy hy=>?_,λy c _ h=>?_,λ_=>hd,Around.frames_deeper e0.frames,.inr ⟨rfl,rfl⟩,λb z=>absurd z (Xy b),e0.bs,e0.Hz,λb _ _=>Xy b,λb z=>absurd z (Xy b),e0.lu,e0.Ru,e0.tb⟩,
  rfl,e0.bare,Un.kept hk,⟨_,x.toInCall.ns,λi y v h1 h2 h3=>?_⟩,λy c h=>⟨_,x.cell y c h⟩,e0.hok.fresh (Nat.le_refl _),λy c h=>?_,λp hp=>absurd (show p∈([]:List (Addr×Obj)) from hp) (by simp),e0.hok.kept hk,?_⟩
 ·exact name_of_addr x.apart (PySem.mem_of_lookup h1) (PySem.mem_of_lookup h2)
 ·have hy:scope.names.lookup y=some .cell\/scope.names.lookup y=some .free:=hy
  rcases hy with hy|hy
  ·exact iU hy
  ·exact absurd rfl (S.SX _ (PySem.mem_of_lookup hy))
 ·exact Nat.le_of_lt (x.above y c (PySem.mem_of_lookup h))
 ·have hi:i<vs.length:=by
   unfold start at h2
   by_cases hi:i<vs.length
   ·exact hi
   ·rw[List.getElem?_append_right (by simpa using hi)] at h2
    rw[List.getElem?_replicate] at h2
    split at h2<;>cases h2
  have ha:vs[i]?=some v:=by
   unfold start at h2
   rw[List.getElem?_append_left (by simpa using hi),List.getElem?_map] at h2
   cases e:vs[i]? with
   |none=>rw[e] at h2;cases h2
   |some a=>rw[e] at h2;cases h2;rfl
  obtain⟨u,hu,rv⟩:=r.get ha
  have hp:ps[i]?=some y:=by
   rw[<-S.pre,List.getElem?_take_of_lt (by omega)];exact h1
  have ndP:ps.Nodup:=by rw[<-S.pre];exact S.nd.sublist (List.take_sublist _ _)
  refine⟨u,rv,?_⟩
  rcases S.par y (List.mem_of_getElem? hp) with k|k
  ·exact .inl ⟨k,pN ndP hp hu k⟩
  ·obtain⟨c,e⟩:=iU (n:=s.heap.objs.size+1) k
   refine .inr ⟨.inl k,c,e,?_⟩
   have q:=x.cell y c e
   rw[pO ndP hp hu (by show scope.names.lookup y≠_;rw[k];decide)] at q
   exact q
 ·exact e0.hok.fresh (Nat.le_of_lt (x.above y c (PySem.mem_of_lookup h)))
 ·unfold start
  show _=N.length
  rw[List.length_append,List.length_map,List.length_replicate]
  omega
def BZ{CX:jB}{P:Program}{w:World}{K:PySem.W.Frag}{mg:Str->Option Value}{base:Heap}{k:Nat}{f:Addr}{name qual:Str}{params:Arguments}{body:List Stmt}{scope:Scope}{dV kV doc pm cdv ct oc:Value}{an od:Option Addr}
 {osl:Array (Option Value)}{N ps:List Str}{sp:Sp}(lk:K.lookup f=some ⟨oc,od,.func (PySem.W.fnOf name qual params body scope dV kV doc pm an cdv ct),osl⟩)(hcd:PySem.W.codeIn K cdv qual=true)(S:Ē N ps scope)
 (len:∀vs H Q E,sp vs H Q E->vs.length=ps.length)
 (hbody:∀(A:Around) (outer:List Env) (s:Shared) (H:Hp) (vs:List V) (Q:VK) (E:XK),Ř k (A.deeper (envOfC qual scope s.heap.objs.size f cdv))→sp vs H Q E→
   ∃t,gK (o_ CX P w K mg base N qual scope f cdv A outer s H E) body t/\t {nx:=λ_ H'=>Q .non H',rt:=Q} (start N vs) H) :
 Ħ P w K mg base CX (k+1) f (PySem.W.fnOf name qual params body scope dV kV doc pm an cdv ct) ps sp:=by
 refine⟨len,λA outer s H args us vs Q E hr e0 hb r hsp=>?_⟩
 have hl:=len _ _ _ _ hsp
 have KX:K.In s.heap:=e0.mod.kin.keeps λb o e=>(e0.bs b o e).1
 have lim:s.heap.NoLimit:=e0.mod.nolimit.keeps λb o e=>(e0.bs b o e).1
 have hkind:∀y∈ps.zip us,scope.names.lookup y.1=some .local\/(scope.names.lookup y.1=some .cell/\((cellsFrom (s.heap.objs.size+1) scope.names []).lookup y.1).isSome=true):=λ⟨n,v⟩ hy=>by
  rcases S.par n (List.of_mem_zip hy).1 with q|q
  ·exact .inl q
  ·exact .inr ⟨q,PySem.W.cellsFrom_some _ _ _ (.inl q)⟩
 refine codeAny_call_function hr.depth (KX _ _ lk) rfl S.co S.gen rfl (PySem.W.codeRec_of KX hcd) (hb _ _ _ _ ?_)
 refine wpAny_newFunctionEnv_cells S.kind hkind λenv he s1 x=>?_
 subst he
 refine⟨lim.keeps x.toInCall.keep,codeAny_func ?_⟩
 obtain⟨t,ht,hq⟩:=hbody A outer s H vs Q E (hr.deeper _) hsp
 have I:Inv (o_ CX P w K mg base N qual scope f cdv A outer s H E) [] (start N vs) H s1:=Ah S hr.hd e0 hl r x
 refine wpAny_mono (ht [] s1 (start N vs) H _ I hq) (λfl s' hs=>?_) λe s' hs=>hs
 have fin:∀{σ':St} {H':Hp} {v:V} {u:Value},Inv (o_ CX P w K mg base N qual scope f cdv A outer s H E) [] σ' H' s'->RelV v u->Q v H'->CE outer P w H s Q u s':=
  fun{σ' H' v u} J rv q=>⟨v,H',J.os,J.bare,J.base,J.hok,rv,q⟩
 cases fl with
 |ret u=>
  obtain⟨v,σ',H',J,rv,q⟩:=hs
  exact fin J rv q
 |next=>
  obtain⟨σ',H',J,q⟩:=hs
  exact fin (v:=V.non) (u:=Value.none) J rfl q
 |brk=>
  obtain⟨_,_,_,q⟩:=hs
  exact False.elim q
 |cont=>
  obtain⟨_,_,_,q⟩:=hs
  exact False.elim q
end L2
namespace L2
open PySem PySem.Spec PyProof.Rows
section
variable{X:Cx}{x:Str}{p pos:Pos}{e:Expr}{es:List Expr}{t:TA}{id T:String}{r:List V->Hp->VK->Prop}
def tCB(r:List V->Hp->VK->Prop)(t:TA):TE:=λσ H Q=>t σ H λvs H1=>r vs H1 Q
def B_(hc:ŀ X (.builtin id) r)(hg:Gl X x)(hm:X.mg x=none)(hv:bootBuiltins x=some (.builtin id))(ha:PA X (e::es) t)(hn:x≠ "__name__" := by decide)(hdb:(x== ("__debug__" :Str))=false:=by decide)
 (he:starEach (e::es) X.env=(false,eval e X.env)::starEach es X.env:=by rfl)(hpl:(backTo pos (starEach es X.env)).any (·.1)=false:=by rfl):PE X (.Call (.Name x p) (e::es) [] pos) (tCB r t):=by
 intro pins s σ H Q I h
 refine wpAny_Call_Name_kw (eY I hg hm hv ?_ hn hdb)
 exact PyProof.Rows.callWith_builtin1 (ő (ha pos pins s σ H _ I h) λus s1 ⟨vs,H1,I1,r1,q1⟩=>hc pins s1 σ H1 vs us Q I1 r1 q1) he hpl
def pP(hc:ŀ X (.type T) r)(hg:Gl X x)(hm:X.mg x=none)(hv:bootBuiltins x=some (.type T))(ha:PA X (e::es) t)(hn:x≠ "__name__" := by decide)(hdb:(x== ("__debug__" :Str))=false:=by decide)
 (he:starEach (e::es) X.env=(false,eval e X.env)::starEach es X.env:=by rfl)(hpl:(backTo pos (starEach es X.env)).any (·.1)=false:=by rfl):PE X (.Call (.Name x p) (e::es) [] pos) (tCB r t):=by
 intro pins s σ H Q I h
 refine wpAny_Call_Name_kw (eY I hg hm hv ?_ hn hdb)
 exact PyProof.Rows.callWith_type1 (ő (ha pos pins s σ H _ I h) λus s1 ⟨vs,H1,I1,r1,q1⟩=>hc pins s1 σ H1 vs us Q I1 r1 q1) he hpl
end
end L2
namespace HT
open PySem PyProof.Rows
section
open PySem.SeqAt
open PySem.AutoSeq1 (wpAny_loadPart')
open PySem.MeetsSeq PySem.MeetsSeq2 PySem.MeetsSeq3
end
section
variable{prog:Program}{w:World}{A:Around}{E:Value->Shared->Prop}{s:Shared}
def gC(n d:Nat):Option Int->Nat
 |none=>d
 |some v=>if v<0 then(v+(n:Int)).toNat else min v.toNat n
def lR(n d k:Nat):gC n d (some (k:Int))=min k n:=by
 show(if(k:Int)<0 then((k:Int)+(n:Int)).toNat else min (k:Int).toNat n)=min k n
 rw[if_neg (by omega),Int.toNat_natCast]
def Ca(n d:Nat)(hd:d<=n)(o:Option Int):gC n d o<=n:=by
 cases o with
 |none=>exact hd
 |some v=>
  show(if v<0 then(v+(n:Int)).toNat else min v.toNat n)<=n
  by_cases hv:v<0
  ·rw[if_pos hv];omega
  ·rw[if_neg hv];exact Nat.min_le_right _ _
end
end HT
namespace L2
open PySem PySem.Spec PyProof.Rows
abbrev TO:=St->Hp->(Option Int->Hp->Prop)->Prop
def PO(X:Cx)(e:Option Expr)(t:TO):Prop:=
 ∀(pins:List (Addr×Obj)) (s:Shared) (σ:St) (H:Hp) (Q:Option Int->Hp->Prop),Inv X pins σ H s->t σ H Q->
  wpAny (model X.prog X.w) X.A (evalPart e X.env) (λu s'=>∃o H',Inv X pins σ H' s'/\IsPart u o/\Q o H') X.xe s
def Iu:TO:=λ_ H Q=>Q none H
section
variable{X:Cx}{e:Expr}{te:TE}{lo hi:Option Expr}{tl th:TO}{pos p2:Pos}
def Iv:PO X none Iu:=by
 intro pins s σ H Q I h
 rw[evalPart_none]
 exact wpAny_pure ⟨none,H,I,.none,h⟩
def yH(X:Cx)(r:V->Option Int->Option Int->Hp->VK->Prop):Prop:=
 ∀(pins:List (Addr×Obj)) (s:Shared) (σ:St) (H:Hp) (x:V) (v vl vu:Value) (lo hi:Option Int) (sl:Addr) (Q:VK),Inv X pins σ H s->RelV x v->s.heap.IsSliceOf sl vl vu .none->IsPart vl lo->IsPart vu hi->r x lo hi H Q->
  ∃T id,typeLookup (.type T) "__getitem__" =pure (some (.builtin id))/\s.TypeIs v T/\wpAny (model X.prog X.w) X.A (getItem v (.ref sl)) (EP X pins σ Q) X.xe s
def yH.or{r r':V->Option Int->Option Int->Hp->VK->Prop}(h:yH X r)(h':yH X r'):yH X (λx lo hi H Q=>r x lo hi H Q\/r' x lo hi H Q):=by
 intro pins s σ H x v vl vu lo hi sl Q I rx hs pl pu q
 rcases q with q|q
 ·exact h pins s σ H x v vl vu lo hi sl Q I rx hs pl pu q
 ·exact h' pins s σ H x v vl vu lo hi sl Q I rx hs pl pu q
def tSl(r:V->Option Int->Option Int->Hp->VK->Prop)(te:TE)(tl th:TO):TE:=λσ H Q=>te σ H λx H1=>tl σ H1 λl H2=>th σ H2 λu H3=>r x l u H3 Q
def Cd{r:V->Option Int->Option Int->Hp->VK->Prop}(hr:yH X r)(he:PE X e te)(hl:PO X lo tl)(hu:PO X hi th):PE X (.Subscript e (.Slice lo hi none p2) pos) (tSl r te tl th):=by
 intro pins s σ H Q I h
 refine Subscript_ (ő (he pins s σ H _ I h) λv s1 ⟨x,H1,I1,r1,q1⟩=>?_)
 refine wpAny_Slice (ő (hl pins s1 σ H1 _ I1 q1) λvl s2 ⟨l,H2,I2,pl,q2⟩=>ő (hu pins s2 σ H2 _ I2 q2) λvu s3 ⟨u,H3,I3,pu,q3⟩=>?_)
 rw[evalPart_none]
 refine wpAny_pure ?_
 have I4:Inv X pins σ H3 {s3 with heap:=s3.heap.push {cls:=.type "slice",data:=.fields #[vl,vu,.none]}}:=I3.kept (t':=s3.toks) λb ob q=>Heap.get?_push_of_some _ q
 obtain⟨T,id,hT,ht,hg⟩:=hr pins {s3 with heap:=s3.heap.push {cls:=.type "slice",data:=.fields #[vl,vu,.none]}} σ H3 x v vl vu l u s3.heap.objs.size Q I4 r1 (Heap.IsSliceOf.new ..) pl pu q3
 show wpAny (model X.prog X.w) X.A (subscriptTail e (.Slice lo hi none p2) v (.ref s3.heap.objs.size)) (EP X pins σ Q) X.xe {s3 with heap:=s3.heap.push {cls:=.type "slice",data:=.fields #[vl,vu,.none]}}
 exact tail_any (ops:=[.ref s3.heap.objs.size,v]) ht hT hg (by with_unfolding_all rfl)
def ug(xs:List V)(lo hi:Option Int):List V:=(xs.drop (HT.gC xs.length 0 lo)).take (HT.gC xs.length xs.length hi-HT.gC xs.length 0 lo)
def uh(xs:List V)(lo hi:Option Int):(ug xs lo hi).length<=xs.length:=by
 unfold ug
 rw[List.length_take,List.length_drop]
 omega
end
end L2
namespace L2
open PySem PySem.Spec PyProof.Rows
def Ce(n:Nat)(i:Int):Option Nat:=if 0<=i then(if i<n then some i.toNat else none) else if -(n:Int)<=i then some (i+n).toNat else none
def lA{α:Type}(xs:List α)(i:Int):Option α:= (Ce xs.length i).bind λj=>xs[j]?
def Iw{n:Nat}{i:Int}{j:Nat}(h:Ce n i=some j):seqIndex? i n=some j/\j<n/\ -(n:Int)<=i/\i<n:=by
 unfold Ce at h
 by_cases h0:0<=i
 ·rw[if_pos h0] at h
  by_cases h1:i<n
  ·rw[if_pos h1] at h
   have e:i.toNat=j:=Option.some.inj h
   exact⟨by rw[seqIndex_of h0 h1,e],by omega,by omega,h1⟩
  ·rw[if_neg h1] at h;cases h
 ·rw[if_neg h0] at h
  by_cases h1: -(n:Int)<=i
  ·rw[if_pos h1] at h
   have e:(i+n).toNat=j:=Option.some.inj h
   exact⟨by rw[seqIndex_neg (by omega) h1,e],by omega,h1,by omega⟩
  ·rw[if_neg h1] at h;cases h
def qQ{α:Type}{xs:List α}{i:Int}{v:α}(h:lA xs i=some v):∃j,seqIndex? i xs.length=some j/\xs[j]?=some v/\j<xs.length/\ -(xs.length:Int)<=i/\i<xs.length:=by
 unfold lA at h
 cases e:Ce xs.length i with
 |none=>rw[e] at h;cases h
 |some j=>
  rw[e] at h
  obtain⟨h1,h2,h3,h4⟩:=Iw e
  exact⟨j,h1,h,h2,h3,h4⟩
def lU(b:Expr):Prop:=∀o i,subscripted b false o i=operate [o,i] (getItem o i)
def wz(X:Cx)(r:R2):Prop:=
 ∀(value slice:Expr) (pins:List (Addr×Obj)) (s:Shared) (σ:St) (H:Hp) (x y:V) (v u:Value) (Q:VK),Inv X pins σ H s->RelV x v->RelV y u->r x y H Q->
  subscripted slice false v u=operate [v,u] (getItem v u)->wpAny (model X.prog X.w) X.A (subscriptTail value slice v u) (EP X pins σ Q) X.xe s
def MtR(X:Cx)(id:String)(r:V->List V->Hp->VK->Prop):Prop:=
 ∀(pins:List (Addr×Obj)) (s:Shared) (σ:St) (H:Hp) (x:V) (xs:List V) (v:Value) (us:List Value) (Q:VK),Inv X pins σ H s->RelV x v->Vals xs us->r x xs H Q->
  wpAny (model X.prog X.w) X.A (call (.builtin id) (v::us)) (EP X pins σ Q) X.xe s
section
variable{X:Cx}{a b:Expr}{ta tb:TE}{pos:Pos}
def wz.or{r r':R2}(h:wz X r)(h':wz X r'):wz X (λx y H Q=>r x y H Q\/r' x y H Q):=by
 intro value slice pins s σ H x y v u Q I rx ry q hs
 rcases q with q|q
 ·exact h value slice pins s σ H x y v u Q I rx ry q hs
 ·exact h' value slice pins s σ H x y v u Q I rx ry q hs
def Kz{r:R2}(hr:wz X r)(ha:PE X a ta)(hb:PE X b tb)(hs:lU b):PE X (.Subscript a b pos) (RX r ta tb):=by
 intro pins s σ H Q I h
 exact Subscript_ (RZ ha hb I h λv u s2 x y H2 I2 rx ry q=>hr a b pins s2 σ H2 x y v u Q I2 rx ry q (hs _ _))
def Xz(K:PySem.W.Frag):R2:=λx y H Q=>∃p xs i v,x=.ref p/\y=.int i/\Ũ K H p xs/\lA xs i=some v/\Q v H
def XC(K:PySem.W.Frag):R2:=λx y H Q=>∃p xs i v,x=.ref p/\y=.int i/\cY K H p xs/\lA xs i=some v/\Q v H
def XD:R2:=λx y H Q=>∃z i c,x=.str z/\y=.int i/\z.length<=sizeLine/\lA z.cps.toList i=some c/\Q (.str ⟨#[c]⟩) H
def Iz:wz X (Xz X.K):=by
 intro value slice pins s σ H x y v u Q I rx ry h hs
 obtain⟨p,xs,i,z,rfl,rfl,hq,he,q⟩:=h
 cases rx
 obtain⟨t,rfl⟩:=ry
 obtain⟨its,r,pl,hz⟩:=I.list hq
 obtain⟨j,h1,h2,h3,h4,h5⟩:=qQ he
 obtain⟨w,ew,XF⟩:=r.get h2
 have hl:=r.length
 have hn:=mz
 have fin:EP X pins σ Q w s:=⟨z,H,I,XF,q⟩
 by_cases h0:0<=i
 ·have hj:i.toNat=j:=by
   rw[seqIndex_of h0 h5] at h1
   exact Option.some.inj h1
  exact item_listR pl.isList h0 (by omega) (by rw[hj];simpa using ew) fin hs
 ·have hj:(i+(its.toArray.size:Int)).toNat=j:=by
   rw[seqIndex_neg (by omega) h4] at h1
   rw[List.size_toArray,<-hl]
   exact Option.some.inj h1
  exact subscriptTail_builtinR (x:=w) pl.isList.typeIs slot_list_getitem.lookup
   (wpAny_getItem_list_neg (Q:=λr s'=>r=w/\EP X pins σ Q r s') pl.isList (by omega) (by rw[List.size_toArray]<;>omega) (by omega) (by rw[hj];simpa using ew) ⟨rfl,fin⟩) hs
def S_:wz X (XC X.K):=by
 intro value slice pins s σ H x y v u Q I rx ry h hs
 obtain⟨p,xs,i,z,rfl,rfl,hq,he,q⟩:=h
 cases rx
 obtain⟨t,rfl⟩:=ry
 obtain⟨its,r,pl,hz⟩:=I.tuple hq
 obtain⟨j,h1,h2,h3,h4,h5⟩:=qQ he
 obtain⟨w,ew,XF⟩:=r.get h2
 have hl:=r.length
 have hn:=mz
 have fin:EP X pins σ Q w s:=⟨z,H,I,XF,q⟩
 exact subscriptTail_builtinR (x:=w) pl.typeIs slot_tuple_getitem.lookup
  (getItem_tuple (j:=j) (Q:=λr s'=>r=w/\EP X pins σ Q r s') pl (by omega) (by omega) (by rw[List.size_toArray,<-hl];exact h1) (by simpa using ew) ⟨rfl,fin⟩) hs
def Tc:wz X XD:=by
 intro value slice pins s σ H x y v u Q I rx ry h hs
 obtain⟨z,i,c,rfl,rfl,hz,he,q⟩:=h
 obtain⟨t,rfl⟩:=rx
 obtain⟨t',rfl⟩:=ry
 obtain⟨j,h1,h2,h3,h4,h5⟩:=qQ he
 have hl:z.cps.toList.length=z.length:=by simp[Str.length]
 rw[hl] at h1 h4 h5
 have hn:=mz
 exact tail_any (typeIs_str s z t) slot_str_getitem.lookup (getItem_str (c:=c) (by
  have e1:decide (i < -(2 ^ 63:Int))=false:=decide_eq_false (by omega)
  have e2:decide (i >= 2 ^ 63)=false:=decide_eq_false (by omega)
  rw[e1,e2,Bool.or_false]) (by rw[h1];simpa using h2) ⟨.str ⟨#[c]⟩,H,I.tok _,⟨_,rfl⟩,q⟩) hs
def rIx(K:PySem.W.Frag):R2:=λx y H Q=>Xz K x y H Q\/XC K x y H Q\/XD x y H Q
def Cg:wz X (rIx X.K):=Iz.or (S_.or Tc)
def qR(lo hi:Option Int)(n:Nat):(sliceBounds lo hi none n).1=((HT.gC n 0 lo:Nat):Int)/\(sliceBounds lo hi none n).2.1=((HT.gC n n hi:Nat):Int)/\(sliceBounds lo hi none n).2.2=1:=by
 refine⟨?_,?_,rfl⟩
 ·cases lo with
  |none=>simp[sliceBounds,HT.gC]
  |some i=>
   simp only[sliceBounds,HT.gC,Option.getD_none,show(1:Int)>0 by decide,if_true]
   by_cases h:i<0
   ·simp only[h,if_true]<;>omega
   ·simp only[h,if_false]<;>omega
 ·cases hi with
  |none=>simp[sliceBounds,HT.gC]
  |some i=>
   simp only[sliceBounds,HT.gC,Option.getD_none,show(1:Int)>0 by decide,if_true]
   by_cases h:i<0
   ·simp only[h,if_true]<;>omega
   ·simp only[h,if_false]<;>omega
def pq(its:List Value)(lo hi:Option Int):slicePick its.toArray lo hi none=((its.drop (HT.gC its.length 0 lo)).take (HT.gC its.length its.length hi-HT.gC its.length 0 lo)).toArray:=by
 obtain⟨h1,h2,h3⟩:=qR lo hi its.toArray.size
 unfold slicePick
 rw[h1,h2,h3]
 simp only[sliceRange_one,pick_run,List.size_toArray]<;>rfl
def ZbU(K:PySem.W.Frag):V->Option Int->Option Int->Hp->VK->Prop:=λx lo hi H Q=>∃a xs,x=.ref a/\Ũ K H a xs/\∀p,H p=none->Q (.ref p) (upd H p (.lst (ug xs lo hi)))
def IK:yH X (ZbU X.K):=by
 intro pins s σ H x v vl vu lo hi sl Q I rx hs pl pu h
 obtain⟨a,xs,rfl,hx,q⟩:=h
 cases rx
 obtain⟨its,r,ht,hz⟩:=I.list hx
 have hlen:=r.length
 refine⟨"list",_,slot_list_getitem.lookup,ht.isList.typeIs,?_⟩
 refine wpAny_getItem_list_slice ht.isList hs pl pu .none (by simp) ?_ (by rw[List.size_toArray]<;>omega)
 rw[pq,<-hlen]
 refine⟨.ref s.heap.objs.size,_,I.laid (t':=s.toks) (o:=.lst (ug xs lo hi)) (λb ob q=>Heap.get?_push_of_some _ q) (Nat.le_refl _) ?_,rfl,q _ (I.hok.fresh (Nat.le_refl _))⟩
 exact⟨Nat.le_trans (uh xs lo hi) hz,_,0,(r.drop (HT.gC xs.length 0 lo)).take (HT.gC xs.length xs.length hi-HT.gC xs.length 0 lo),Heap.get?_push_size _ rfl⟩
def qT:ŀ X (.type "list") (λxs H Q=>∃p ys,xs=[.ref p]/\(Ũ X.K H p ys\/cY X.K H p ys)/\∀l,H l=none->Q (.ref l) (upd H l (.lst ys))):=by
 intro pins s σ H xs us Q I r h
 obtain⟨p,ys,rfl,hq,q⟩:=h
 obtain⟨u,rfl,rx⟩:=vals1 r
 cases rx
 have fin:∀(its:List Value),Vals ys its->ys.length<=sizeLine->∀(h':Heap) (c':Nat),(∀b o',s.heap.get? b=some o'->h'.get? b=some o')->
  h'.get? s.heap.objs.size=some {cls:=.type "list",dict:=none,data:=.seq its.toArray c',slots:=#[]}->EP X pins σ Q (.ref s.heap.objs.size) {s with heap:=h'}:=λits r' hz h' c' kp e=>
  ⟨.ref s.heap.objs.size,_,I.laid (t':=s.toks) kp (Nat.le_refl _) (show ŧ X.prog X.w _ h' _ (.lst ys) from⟨hz,its,c',r',e⟩),rfl,q _ (I.hok.fresh (Nat.le_refl _))⟩
 rcases hq with hq|hq
 ·obtain⟨its,r',pl,hz⟩:=I.list hq
  have hlen:=r'.length
  obtain⟨o,ho,hc,n,hd⟩:=pl.isList
  exact call_list_seq p (.inl rfl) ho hc hd (λh' c' kp e=>fin its r' hz h' c' kp e) (by simp only[List.size_toArray]<;>omega)
 ·obtain⟨its,r',pl,hz⟩:=I.tuple hq
  have hlen:=r'.length
  obtain⟨o,ho,hc,n,hd⟩:=pl
  exact call_list_seq p (.inr rfl) ho hc hd (λh' c' kp e=>fin its r' hz h' c' kp e) (by simp only[List.size_toArray]<;>omega)
def pA:ŀ X (.type "tuple") (λxs H Q=>∃p ys,xs=[.ref p]/\((Ũ X.K H p ys/\∀l,H l=none->Q (.ref l) (upd H l (.tup ys)))\/(cY X.K H p ys/\Q (.ref p) H))):=by
 intro pins s σ H xs us Q I r h
 obtain⟨p,ys,rfl,h⟩:=h
 obtain⟨u,rfl,rx⟩:=vals1 r
 cases rx
 rcases h with⟨hq,q⟩|⟨hq,q⟩
 ·obtain⟨its,r',pl,hz⟩:=I.list hq
  have hlen:=r'.length
  refine call_tuple_list pl.isList (λh' kp=>?_) (by simp only[List.size_toArray]<;>omega)
  have I1:Inv X pins σ H {s with heap:=h'}:=I.kept (t':=s.toks) kp
  have I2:Inv X pins σ (upd H h'.objs.size (.tup ys)) {s with heap:=h'.push {cls:=.type "tuple",data:=.seq its.toArray}}:=
   I1.laid (t':=s.toks) (λb o e=>Heap.get?_push_of_some _ e) (Nat.le_refl _) (show ŧ X.prog X.w _ _ _ (.tup ys) from⟨hz,its,r',IsTup.new _ _⟩)
  exact⟨.ref h'.objs.size,_,I2,rfl,q _ (I1.hok.fresh (Nat.le_refl _))⟩
 ·obtain⟨its,r',pl,hz⟩:=I.tuple hq
  exact call_tuple_same pl ⟨.ref p,H,I,rfl,q⟩
def tyV(K:PySem.W.Frag)(T:String)(x:V)(H:Hp):Prop:=match x with
 | .str _=>T= "str"
 | .int _=>T= "int"
 | .ref p=>(T= "list" ∧∃xs,Ũ K H p xs)∨(T= "tuple" ∧∃o,K.lookup p=some o∧o.cls=.type "tuple" ∧o.dict=none)∨
     (T= "dict" /\((∃kvs,H p=some (.dK kvs))\/∃kvs,H p=some (.dT kvs)))\/(T= "set" /\∃S n,H p=some (.set S n))
 |_=>False
def Td{pins:List (Addr×Obj)}{σ:St}{H:Hp}{s:Shared}{T:String}{x:V}{v:Value}(I:Inv X pins σ H s)(r:RelV x v)(ty:tyV X.K T x H) :
 s.TypeIs v T/\∀a,v=.ref a->∃ob,s.heap.get? a=some ob/\ob.dict=none:=by
 cases x with
 |str z=>
  obtain⟨t,rfl⟩:=r
  cases(show T= "str" from ty)
  exact⟨typeIs_str s z t,λ_ e=>nomatch e⟩
 |int i=>
  obtain⟨t,rfl⟩:=r
  cases(show T= "int" from ty)
  exact⟨typeIs_int s i t,λ_ e=>nomatch e⟩
 |ref p=>
  cases r
  rcases ty with⟨rfl,xs,hq⟩|⟨rfl,o,hk,hc,hd⟩|⟨rfl,hk⟩|⟨rfl,S,n,hk⟩
  ·obtain⟨its,_,pl,_⟩:=I.list hq
   refine⟨pl.isList.typeIs,λa e=>?_⟩
   cases e
   obtain⟨o,n,e,c,hd,_⟩:=pl
   exact⟨o,e,hd⟩
  ·refine⟨⟨o,I.jY p o hk,hc⟩,λa e=>?_⟩
   cases e
   exact⟨o,I.jY _ o hk,hd⟩
  ·have z:∃o,s.heap.get? p=some o∧o.ExactDict:=by
    rcases hk with⟨kvs,hk⟩|⟨kvs,hk⟩
    ·obtain⟨_,_,_,_,o,_,_,e,ex,_⟩:=I.hok p _ hk
     exact⟨o,e,ex⟩
    ·obtain⟨_,_,_,_,o,_,_,e,ex,_⟩:=I.hok p _ hk
     exact⟨o,e,ex⟩
   obtain⟨o,e,ex⟩:=z
   refine⟨⟨o,e,ex.1⟩,λa e2=>?_⟩
   cases e2
   exact⟨o,e,ex.2.1⟩
  ·obtain⟨o,_,_,_,e,ex,_⟩:=I.hok p _ hk
   refine⟨⟨o,e,ex.1⟩,λa e2=>?_⟩
   cases e2
   exact⟨o,e,ex.2.1⟩
 |_=>exact False.elim ty
def tBM(K:PySem.W.Frag)(T:String)(r:V->List V->Hp->VK->Prop)(to:TE)(t:TA):TE:=λσ H Q=>to σ H λx H1=>tyV K T x H1/\t σ H1 λxs H2=>r x xs H2 Q
variable{o e:Expr}{es:List Expr}{to:TE}{t:TA}{name:Str}{apos cpos:Pos}{T id:String}{r:V->List V->Hp->VK->Prop}
def gM(pa:PlainAttrs T)(slot:Slot T name id)(hty:typeOf (.builtin id)=pure (.type "method_descriptor"))(hm:MtR X id r)(ho:PE X o to)(ha:PA X (e::es) t)
 (hbase:attributeBase o name X.env (eval o X.env)=eval o X.env:=by rfl)
 (hfew:((backTo cpos (starEach (e::es) X.env)).all (fun x=>!x.1) && (backToKw cpos (keywordEach [] X.env)).all (fun x=>x.1.isSome)
   && decide ((e::es).length+([]:List Keyword).length+(if([]:List Keyword).isEmpty then 0 else 1)<30))=true:=by rfl)
 (hline:(apos.endLine== cpos.line)=true:=by rfl)(hs:starEach (e::es) X.env=(false,eval e X.env)::starEach es X.env:=by rfl)(hplain:(backTo cpos (starEach es X.env)).any (·.1)=false:=by rfl) :
 PE X (.Call (.Attribute o name apos) (e::es) [] cpos) (tBM X.K T r to t):=by
 intro pins s σ H Q I h
 refine wpAny_Call_method_late hbase hfew hline rfl (ő (ho pins s σ H _ I h) λv s1 ⟨x,H1,I1,r1,ty,q1⟩=>?_)
 obtain⟨h1,h2⟩:=Td I1 r1 ty
 refine⟨T,id,pa,slot,hty,h1,h2,?_⟩
 have hA:=ha cpos pins s1 σ H1 _ I1 q1
 rw[hs] at hA ⊢
 refine Calls.callWith_builtin (by show(false || (backTo cpos (starEach es X.env)).any (·.1))=false;rw[hplain]<;>rfl) (Calls.evalArgs_plain ?_)
 exact ő hA λus s2 ⟨vs,H2,I2,r2,q2⟩=>hm pins s2 σ H2 x vs v us Q I2 r1 r2 q2
end
end L2
namespace L2
open PySem PySem.Spec PyProof.Rows
def MtM(X:Cx)(id:String)(r:V->List V->Hp->VK->Prop):Prop:=
 ∀(pins:List (Addr×Obj)) (s:Shared) (σ:St) (H:Hp) (x:V) (xs:List V) (v:Value) (us:List Value) (Q:VK),Inv X pins σ H s->RelV x v->Vals xs us->r x xs H Q->
  wpAny (model X.prog X.w) X.A (call (.builtin id) (v::us)) (EP X pins σ Q) X.xe s
theorem Vals.one:∀{x:V} {us:List Value},Vals [x] us->∃u,us=[u]/\RelV x u
 |_,_,.cons r .nil=>⟨_,rfl,r⟩
section
variable{X:Cx}{pins:List (Addr×Obj)}{σ:St}{H:Hp}{s:Shared}{l b:Addr}{xs ys zs:List V}
def Inv.ZbV{its its':List Value}{n:Nat}{f:Array Value->Array Value}{t':Nat}(I:Inv X pins σ H s)(hH:H l=some (.lst xs))
 (e:s.heap.get? l=some {cls:=.type "list",data:=.seq its.toArray n})(hf:f its.toArray=its'.toArray)(hv:Vals ys its')(hz:ys.length<=sizeLine) :
 Inv X pins σ (upd H l (.lst ys)) {s with heap:=s.heap.update l (Obj.mapSeq f),toks:=t'}:=by
 have q:=PySem.IsL.update e f
 rw[hf] at q
 refine I.write (x:=l) (e:=l) (by rw[hH];exact trivial) (.inl rfl) (λb' u hb hu=>(Heap.get?_update_other s.heap (Obj.mapSeq f) (Ne.symm hb)).trans hu) ⟨_,q⟩ ?_
 exact⟨hz,its',_,hv,q⟩
def Inv.ZbW{its:List Value}{t':Nat}(I:Inv X pins σ H s)(hv:Vals ys its)(hz:ys.length<=sizeLine) :
 Inv X pins σ (upd H s.heap.objs.size (.lst ys)) {s with heap:=s.heap.push {cls:=.type "list",data:=.seq its.toArray},toks:=t'}:=
 I.laid (λ_ _ q=>Heap.get?_push_of_some _ q) (Nat.le_refl _) ⟨hz,its,0,hv,Heap.get?_push_size _ rfl⟩
theorem Inv.fresh(I:Inv X pins σ H s):H s.heap.objs.size=none:=I.hok.fresh (Nat.le_refl _)
def Inv.ZbX(I:Inv X pins σ H s)(hH:H l=some (.lst xs)):xs.length<=sizeLine/\∃(its:List Value) (n:Nat),Vals xs its/\xs.length=its.length/\s.heap.get? l=some {cls:=.type "list",data:=.seq its.toArray n}:=by
 obtain⟨z,its,n,r,e⟩:=I.hok l _ hH
 exact⟨z,its,n,r,r.length,e⟩
end
section
variable{X:Cx}
def qU:V->List V->Hp->VK->Prop:=λx vs H Q=>∃l xs y,x=.ref l/\vs=[y]/\H l=some (.lst xs)/\xs.length<sizeLine/\Q .non (upd H l (.lst (xs ++ [y])))
def ń:MtM X "list.append" qU:=by
 intro pins s σ H x vs v us Q I rx rv h
 obtain⟨l,xs,y,rfl,rfl,hH,hz,q⟩:=h
 cases rx
 obtain⟨u,rfl,ru⟩:=rv.one
 obtain⟨z,its,n,r,hl,e⟩:=I.ZbX hH
 refine call_meets F.slot_list_append ⟨_,e,rfl⟩ F.entry_list_append (F.args_list_append_2 _ _) (PySem.list_append l its.toArray n u (by rw[List.size_toArray];omega)) ⟨e,?_⟩
 refine⟨.non,_,I.ZbV (its':=its ++ [u]) hH e (by simp) (r.append (.cons ru .nil)) ?_,rfl,q⟩
 rw[List.length_append,List.length_singleton]
 omega
end
section
variable{prog:Program}{w:World}{A:Around}{E:Value->Shared->Prop}{s:Shared}
end
section
variable{X:Cx}
end
end L2
namespace Att
open PySem PySem.W PySem.Calls PyProof.Rows
def lB{P:Params}{h:Heap}:∀(ns:List Int) (vs:List Value),WellAll P h vs (ns.map WData.int)->IntsAre vs ns:=by
 intro ns
 induction ns with
 |nil=>
  intro vs w
  rw[List.map_nil] at w
  cases w
  exact .nil
 |cons n ns ih=>
  intro vs w
  rw[List.map_cons] at w
  cases w with
  |cons a b=>
   cases a
   exact .cons _ _ (ih _ b)
def Ai{l:OpenLaw}{n:Nat}(hn:l.most=some n){P:Params}{h:Heap}{args:List WData}{vals:List Value}
 (hpre:l.row.toRowW.claim.pre args=true)(hwl:WellAll P h vals args) :
 ∃a vs ns,vals=[Value.ref a]/\args=[WData.list (ns.map WData.int)]/\h.get? a=some {cls:=.type "list",data:=.seq vs.toArray}/\IntsAre vs ns/\ns.length<=n:=by
 have hsh:WShape.hasAll [] args [.list .int]=true:=(pre_splitW hpre).1
 have hc:l.pre.holds [] {args:=args}=true:=(pre_splitW hpre).2
 obtain⟨d,r,rfl,h1,h2⟩:=hasAllW_cons hsh
 obtain rfl:=hasAllW_nil h2
 obtain⟨xs,rfl,h3⟩:=hasW_list h1
 obtain⟨ns,rfl⟩:=items_int h3
 have hlen:ns.length<=n:=by
  unfold OpenLaw.pre at hc
  have h4:(WTm.not (.lt (.lit (.int (n:Int))) (.len (.arg 0)))).holds [] {args:=[.list (ns.map .int)]}=true:=by
   have h4:=(holds_andW hc).1
   rw[hn] at h4
   exact h4
  have h5:=condW_of h4 (w_not (w_lt w_lit (w_len_list (w_arg rfl))))
  rw[List.length_map] at h5
  refine Nat.le_of_not_lt λq=>?_
  have q':(n:Int)<((ns.length:Nat):Int):=by omega
  first
   |(rw[decide_eq_true q'] at h5;exact absurd h5 (by decide))
   |(simp at h5;omega)
 cases hwl with
 |cons w1 w2=>
  cases w2
  cases w1 with
  |list ho hall=>exact⟨_,_,ns,rfl,rfl,ho,lB ns _ hall,hlen⟩
def Aj(l:OpenLaw)(args:List WData):l.row.toRowW.claim.post args (.bool true) args=true:=
 postW_of (r:=l.row.toRowW) (X:=(true== true))
  (show WShape.has [] (.bool true) .bool=true by first|rfl|decide|simp[WShape.has,WShape.arms,WShape.armsAll])
  (show(WTm.eq .res (.lit (.bool true))).value [] {args:=args,res:=some (.bool true),after:=args}=some (.bool (true== true)) from w_eq_bool (w_res rfl) w_lit) rfl
def um{l:OpenLaw}{n:Nat}{q:Program}{loose:List Str}{XP:(Str->Option Value)->Heap->Prop}{YP:World->Heap->Prop}{d:DefRec}
 (hn:l.most=some n)(hdf:d.params.defaults=[])
 (call:∀(w:World) (s₀ s₁:Shared) (mg mb:Str→Option Value) (fa:Addr) (o:Obj) (pm cd doc:Value) (a:Addr) (vs:List Value) (ns:List Int),
   Ground q loose [] XP w s₀ mg mb s₁.heap->YP w s₁.heap->
   s₁.heap.get? fa=some o->o.data=.func (docDef d.name d.params d.body d.scope pm cd doc)->s₁.heap.CodeRec cd d.name->mg d.name=some (.ref fa)->
   s₁.heap.get? a=some {cls:=.type "list",data:=.seq vs.toArray}->IntsAre vs ns->ns.length<=n->s₁.gens= #[]->
   codeAny (model l.prog w) callerA (.call (.ref fa) ⟨[.ref a],[]⟩) (λr s'=>r=.ok (.ret (.bool true))/\OldK s₁.heap s'.heap/\s'.os=s₁.os/\AllBare s'.gens) s₁) :
 WalkO q loose XP YP l.row.toRowW d [] (λf vs=>PySem.call f vs):=by
 intro w s₀ s₁ mg mb G Y fa o pm cd doc dV kV ho hd hcd hD hmg hg args vals as hpre hlay hrd hwl hlo
 obtain rfl:dV=.none:=Dflts.none hD hdf
 obtain rfl:kV=.none:=Dflts.noKw hD
 obtain⟨a,vs,ns,rfl,rfl,hobj,hints,hlen⟩:=Ai hn hpre hwl
 refine enter_call (codeAny_mono (call w s₀ s₁ mg mb fa o pm cd doc a vs ns G Y ho (fd_plain hd) hcd hmg hobj hints hlen hg) λr s' hq=>?_)
 obtain⟨rfl,h2,h3,h4⟩:=hq
 exact⟨.inl ⟨.bool true,.bool true,[],rfl,λ_=>rfl,.bool true,Aj l _,λ_=>⟨List.Pairwise.nil,λ_ hm=>(nomatch hm)⟩⟩,h2,h3,h4⟩
section
variable{prog:Program}{w:World}{A:Around}{E:Value->Shared->Prop}{s:Shared}{K:Frag}
end
end Att
namespace L2
open PySem PySem.Spec PyProof.Rows
theorem aj:∀{vs:List Value} {ns:List Int},IntsAre vs ns->Vals (ns.map V.int) vs
 |_,_,.nil=>.nil
 |_,_,.cons n t h=>.cons ⟨t,rfl⟩ (aj h)
def Only(H:Hp):Prop:=∀b,H b=none\/(∃o xs,H b=some (.cX o (.lst xs)))\/∃q,H b=some (.gH q)
def eZ(K:PySem.W.Frag):List Str->Hp
 | []=>λ_=>none
 |y::r=>λb=>match PySem.W.tabIn K y with
  |some (_,P)=>if b=P then some (.gH (aZ y)) else eZ K r b
  |none=>eZ K r b
theorem bH{K:PySem.W.Frag}:∀{l:List Str} {b:Addr} {u:HO},eZ K l b=some u->∃y c,y∈l/\PySem.W.tabIn K y=some (c,b)/\u=.gH (aZ y)
 | [],_,_,h=>by cases(show(none:Option HO)=some _ from h)
 |y::r,b,u,h=>by
  have h':(match PySem.W.tabIn K y with
   |some (_,P)=>if b=P then some (.gH (aZ y)) else eZ K r b
   |none=>eZ K r b)=some u:=h
  have rc:eZ K r b=some u->∃z c,z∈y::r/\PySem.W.tabIn K z=some (c,b)/\u=.gH (aZ z):=λq=>
   let ⟨z,c,h1,h2,h3⟩:=bH q
   ⟨z,c,List.mem_cons_of_mem _ h1,h2,h3⟩
  cases e:PySem.W.tabIn K y with
  |none=>rw[e] at h';exact rc h'
  |some p=>
   obtain⟨c,P⟩:=p
   rw[e] at h'
   have h2:(if b=P then some (HO.gH (aZ y)) else eZ K r b)=some u:=h'
   by_cases hb:b=P
   ·rw[if_pos hb] at h2
    cases h2
    exact⟨y,c,List.mem_cons_self,by rw[hb];exact e,rfl⟩
   ·rw[if_neg hb] at h2
    exact rc h2
theorem yI{K:PySem.W.Frag}{y:Str}{c P:Addr}(e:PySem.W.tabIn K y=some (c,P)):∀{l:List Str},(∀z∈l,z=y)->y∈l->eZ K l P=some (.gH (aZ y))
 | [],_,h=>by cases h
 |z::r,h1,_=>by
  have hz:=h1 z List.mem_cons_self
  subst hz
  show(match PySem.W.tabIn K z with
   |some (_,Q)=>if P=Q then some (HO.gH (aZ z)) else eZ K r P
   |none=>eZ K r P)=_
  rw[e]
  exact if_pos rfl
def Ci{P:Program}{w:World}{K:PySem.W.Frag}{mg mb:Str->Option Value}{CX:jB}{k:Nat}{fa a:Addr}{fd:FuncData}{x:Str}{sp:Sp}{s₁:Shared}{vs:List Value}{ns:List Int}
 (KX:K.In s₁.heap)(hns:s₁.heap.Ns mainGlobals mg)(hb:s₁.heap.Ns builtinsNs mb)(hbb:∀x:Str,x≠ "__name__" ->mb x=bootBuiltins x)(hlim:s₁.heap.NoLimit)(hg:s₁.gens= #[])
 (ha:s₁.heap.get? a=some {cls:=.type "list",data:=.seq vs.toArray})(hi:IntsAre vs ns)(hl:ns.length<=sizeLine)(hr:Ř k callerA)
 (F:∀base:Heap,K.In base->base.Ns mainGlobals mg->Ħ P w K mg base CX k fa fd [x] sp)(hbind:∀(s:Shared) (u:Value),BindsTo s fd ⟨[u],[]⟩ [(x,u)])
 (hsp:∀H:Hp,Only H->Ũ K H a (ns.map V.int)->sp [.ref a] H (λv _=>v=.bl true) λ_ _ _=>False)
 (XH:∀H e s',CX [] H s₁ (λ_ _ _=>False) e s'->False)
 (hnt:lams≠[]->PySem.W.noTabs K=true)(hone:∀y z,y∈lams->z∈lams->y=z)(htb:∀y c Pt,y∈lams->PySem.W.tabIn K y=some (c,Pt)->PySem.W.CodeHd s₁.heap c Pt/\s₁.heap.get? Pt=some (PySem.W.tabObj #[])/\s₁.heap.BuiltinsAt mg Pt) :
 codeAny (model P w) callerA (.call (.ref fa) ⟨[.ref a],[]⟩) (λr s'=>r=.ok (.ret (.bool true))/\OldK s₁.heap s'.heap/\s'.os=s₁.os/\AllBare s'.gens) s₁:= by
 have rv:=aj hi
 have lenV:=hi.length
 -- from an abstract heap in which nothing but the script may be tracked
 have core:∀H:Hp,Only H->Ũ K H a (ns.map V.int)->iM P w H s₁.heap->(∀b,H b≠none->b=a\/∃y c,y∈lams/\PySem.W.tabIn K y=some (c,b))->(H a≠none->K.lookup a=none)->(∀y c Pt,y∈lams->PySem.W.tabIn K y=some (c,Pt)->H Pt=some (.gH (aZ y)))->
  codeAny (model P w) callerA (.call (.ref fa) ⟨[.ref a],[]⟩) (λr s'=>r=.ok (.ret (.bool true))/\OldK s₁.heap s'.heap/\s'.os=s₁.os/\AllBare s'.gens) s₁:= by
  intro H hO hS hok hA hK hT
  have lV:∀{b:Addr} {o:Obj},s₁.heap.get? b=some o->H b=none->(oZ s₁.heap H).get? b=some o:=λe n=>Bk e n
  have Xy:∀{b:Addr} {o:Obj} {es:Array DictEntry} {ep:Nat},s₁.heap.get? b=some o->o.data=.dict es ep->H b=none:=fun{b o es ep} e d=>by
   cases q:H b with
   |none=>rfl
   |some u=>
    rcases hA b (by rw[q];simp) with e'|⟨y,c,hy,hty⟩
    ·subst e'
     rw[ha] at e;cases e
     have d':Data.seq vs.toArray _=Data.dict es ep:=d
     cases d'
    ·have e2:=(htb y c b hy hty).2.1
     rw[e] at e2;cases e2;cases d
  have nsK:∀{b:Addr} {m:Str->Option Value},s₁.heap.Ns b m->(oZ s₁.heap H).Ns b m:=fun{b m} ⟨o,es,ep,e,d,r⟩=>⟨o,es,ep,lV e (Xy e d),d,r⟩
  have hKb:K.In (oZ s₁.heap H):=λb o e=>lV (KX b o e) (by
   cases q:H b with
   |none=>rfl
   |some u=>
    rcases hA b (by rw[q];simp) with e'|⟨y,c,hy,hty⟩
    ·subst e'
     rw[hK (by rw[q];simp)] at e;cases e
    ·have e2:=(htb y c b hy hty).2.1
     rw[KX b o e] at e2
     cases e2
     have h2:=List.all_eq_true.mp (hnt (λz=>by rw[z] at hy;cases hy)) (b,_) (PySem.W.mem_of_lookupK e)
     exact absurd (show false=true from h2) Bool.false_ne_true)
  have hM:Mod K mg (oZ s₁.heap H):=⟨hKb,nsK hns,⟨mb,nsK hb,hbb⟩,let ⟨mc,h1,h2⟩:=hlim;⟨mc,nsK h1,h2⟩⟩
  have hTB:TabsOk K mg (oZ s₁.heap H) H:=λy c Pt hy hty=>by
   obtain⟨⟨o,us,file,tf,flags,tg,inF,text,tt,e1,r1,r2⟩,_,bm,ob,b1,b2,b3,b4,b5,b6,b7⟩:=htb y c Pt hy hty
   refine⟨⟨o,us,file,tf,flags,tg,inF,text,tt,lV e1 ?_,r1,r2⟩,hT y c Pt hy hty,bm,ob,b1,b2,b3,b4,lV b5 ?_,b6,b7⟩
   rotate_left
   ·cases q:H bm with
    |none=>rfl
    |some u=>
     rcases hA bm (by rw[q];simp) with e'|⟨z,c2,hz,htz⟩
     ·rw[e',ha] at b5;cases b5;exact absurd (Value.type.inj b6) (by decide)
     ·have e2:=(htb z c2 bm hz htz).2.1
      rw[b5] at e2;cases e2;cases b6
   cases q:H c with
   |none=>rfl
   |some u=>
    rcases hA c (by rw[q];simp) with e'|⟨z,c2,hz,htz⟩
    ·rw[e',ha] at e1;cases e1;exact absurd (Value.type.inj r1) (by decide)
    ·have e2:=(htb z c2 c hz htz).2.1
     rw[e1] at e2;cases e2;cases r1
  have e0:wu P w K mg (oZ s₁.heap H) callerA [] s₁ H:=⟨rfl,hM,λb o e=>HX e,Nat.le_of_eq (zW _ _),trivial,λb hb=>absurd (show b∈([]:List Addr) from hb) (by simp),hok,.of_eq hg,hTB⟩
  refine codeAny_mono ((F _ hKb (nsK hns)).run callerA [] s₁ H ⟨[.ref a],[]⟩ [.ref a] [.ref a] _ _ hr e0 (hbind s₁ (.ref a)) (.cons rfl .nil) (hsp H hO hS)) λr s' h=>?_
  cases r with
  |error e=>exact(XH H e s' h).elim
  |ok fl=>
   cases fl with
   |next=>exact False.elim h
   |brk=>exact False.elim h
   |cont=>exact False.elim h
   |ret u=>
    obtain⟨v,H',os,bare,un,hok',r',q⟩:=h
    have q':v=.bl true:=q
    subst q'
    obtain rfl:u=Value.bool true:=r'
    have old:∀b o,s₁.heap.get? b=some o->(∀t,H b≠some (.gH t))->s'.heap.get? b=some o:=?_
    ·refine⟨rfl,⟨λb o e=>?_,λb o e=>?_⟩,os,bare⟩
     ·by_cases ht:∃t,H b=some (.gH t)
      ·obtain⟨t,ht⟩:=ht
       obtain⟨ps,e1,_⟩:=hok' b _ (un.lq b t ht)
       rcases hA b (by rw[ht];simp) with e'|⟨y,c,hy,hty⟩
       ·subst e'
        obtain⟨ps2,e3,_⟩:=hok b _ ht
        rw[ha] at e3;cases e3
       ·obtain⟨⟨o2,us,file,tf,flags,tg,inF,text,tt,f1,f2,f3,f4,_⟩,e2,_⟩:=htb y c b hy hty
        rw[e] at e2;cases e2
        exact .inr (.inl ⟨⟨c,o2,us,f1,f2,f3,f4⟩,rfl,#[],ps,rfl,by rw[e1];simp⟩)
      ·exact .inl (old b o e λt z=>ht ⟨t,z⟩)
     ·by_cases ht:∃t,H b=some (.gH t)
      ·obtain⟨t,ht⟩:=ht
       obtain⟨ps,e1,_⟩:=hok' b _ (un.lq b t ht)
       exact⟨_,e1⟩
      ·exact⟨o,old b o e λt z=>ht ⟨t,z⟩⟩
    intro b o e nt
    cases q:H b with
    |none=>exact un.keep b o e q (by intro z;exact absurd (show b∈([]:List Addr) from z) (by simp)) (by simp)
    |some u=>
     rcases hO b with z|⟨ob,xs,z⟩|⟨t,z⟩
     ·rw[q] at z;cases z
     rotate_left
     ·exact absurd z (nt t)
     ·have z2:=un.oY b ob _ z
      obtain⟨e1,_⟩:=hok b _ z
      obtain⟨e2,_⟩:=hok' b _ z2
      rw[e] at e1;cases e1
      exact e2
 cases hk:K.lookup a with
 |some o=>
  -- the script is one of the module's own objects
  have e:=KX a o hk
  rw[ha] at e
  cases e
  refine core (eZ K lams) (λb=>?_) (.inr ⟨_,vs.toArray,_,hk,rfl,rfl,rfl,by rw[List.size_toArray,lenV];exact hl,by simpa using rv⟩) (λb u z=>?_) (λb z=>?_) (λz=>?_) λy c Pt hy hty=>yI hty (λz hz=>hone z y hz hy) hy
  ·cases q:eZ K lams b with
   |none=>exact .inl rfl
   |some u=>obtain⟨y,c,_,_,rfl⟩:=bH q;exact .inr (.inr ⟨_,rfl⟩)
  ·obtain⟨y,c,hy,hty,rfl⟩:=bH z
   exact⟨#[],(htb y c b hy hty).2.1,trivial,λpos cv z=>by cases z⟩
  ·cases q:eZ K lams b with
   |none=>exact absurd q z
   |some u=>obtain⟨y,c,hy,hty,_⟩:=bH q;exact .inr ⟨y,c,hy,hty⟩
  ·cases q:eZ K lams a with
   |none=>exact absurd q z
   |some u=>
    obtain⟨y,c,hy,hty,_⟩:=bH q
    have e2:=(htb y c a hy hty).2.1
    rw[ha] at e2;cases e2
 |none=>
  refine core (λb=>if b=a then some (.cX {cls:=.type "list",data:=.seq vs.toArray} (.lst (ns.map V.int))) else eZ K lams b) (λb=>?_) (.inl (.inr ⟨{cls:=.type "list",data:=.seq vs.toArray},if_pos rfl⟩)) (λb u z=>?_) (λb z=>?_) (λ_=>hk) λy c Pt hy hty=>?_
  ·by_cases hb:b=a
   ·exact .inr (.inl ⟨_,_,if_pos hb⟩)
   ·cases q:eZ K lams b with
    |none=>exact .inl ((if_neg hb).trans q)
    |some u=>obtain⟨y,c,_,_,rfl⟩:=bH q;exact .inr (.inr ⟨_,(if_neg hb).trans q⟩)
  ·by_cases hb:b=a
   ·have z':=(if_pos hb).symm.trans z
    cases z'
    subst hb
    exact⟨ha,by rw[List.length_map];exact hl,vs,_,rv,ha⟩
   ·have z':=(if_neg hb).symm.trans z
    obtain⟨y,c,hy,hty,rfl⟩:=bH z'
    exact⟨#[],(htb y c b hy hty).2.1,trivial,λpos cv z=>by cases z⟩
  ·by_cases hb:b=a
   ·exact .inl hb
   ·cases q:eZ K lams b with
    |none=>exact absurd ((if_neg hb).trans q) z
    |some u=>obtain⟨y,c,hy,hty,_⟩:=bH q;exact .inr ⟨y,c,hy,hty⟩
  ·have ne:Pt≠a:=fun z=>by
    subst z
    have e2:=(htb y c _ hy hty).2.1
    rw[ha] at e2;cases e2
   exact(if_neg ne).trans (yI hty (λz hz=>hone z y hz hy) hy)
end L2
namespace L2
open PySem PySem.Spec PyProof.Rows
def IV{p:Program}{loose:List Str}{mean:ExcName->Option Value}{mg mb:Str->Option Value}{h:Heap}{K:PySem.W.Frag}{d:DefRec}{x:Str}{c P:Addr}(T:Top p loose mean mg mb h)(X:K.In h)(hr:(recsOf p).find? (λe=>e.name== x)=some d)(ht:PySem.W.tabIn K x=some (c,P)) :
 PySem.W.CodeHd h c P/\h.get? P=some (PySem.W.tabObj #[])/\h.BuiltinsAt mg P:=by
 obtain⟨h1,h2⟩:=PySem.W.tab_of T X hr ht
 obtain⟨bm,ob,b1,b2,b3,b4,b5,b6⟩:=T.bmain
 have hbP:bm≠P:=λq=>by rw[q,h2] at b3;cases b3;cases b4
 have hbG:bm≠mainGlobals:=λq=>by
  obtain⟨o,es,ep,e,hd,_⟩:=T.g
  rw[q,e] at b3;cases b3;rw[hd] at b6;cases b6
 exact⟨h1,h2,bm,ob,b1,b2,hbG,hbP,b3,b4,b5,b6⟩
def IW{l:PySem.W.OpenLaw}{n k:Nat}{q:Program}{loose:List Str}{XP:(Str->Option Value)->Heap->Prop}{YP:World->Heap->Prop}{d:DefRec}{K:Params->PySem.W.Frag}{CX:World->jB}{sp:World->Sp}{x:Str}
 (hn:l.most=some n)(hn2:n<=sizeLine)(hdf:d.params.defaults=[])(hr:Ř k callerA)
 (hY:∀(w:World) (h:Heap),YP w h->(K w.params).In h)
 (F:∀(w:World) (mg:Str→Option Value) (fa:Addr) (h:Heap),(K w.params).In h→h.Ns mainGlobals mg→mg d.name=some (.ref fa)→
   ∃fd:FuncData,(∀(s:Shared) (u:Value),BindsTo s fd ⟨[u],[]⟩ [(x,u)])/\
    ∀base:Heap,(K w.params).In base->base.Ns mainGlobals mg->Ħ l.prog w (K w.params) mg base (CX w) k fa fd [x] (sp w))
 (hsp:∀(w:World) (H:Hp) (a:Addr) (ns:List Int),ns.length<=n->Only H->Ũ (K w.params) H a (ns.map V.int)->sp w [.ref a] H (λv _=>v=.bl true) λ_ _ _=>False)
 (XH:∀(w:World) (H:Hp) (s:Shared) (e:Value) (s':Shared),CX w [] H s (λ_ _ _=>False) e s'->False)
 (hnt:lams≠[]->∀w:World,PySem.W.noTabs (K w.params)=true:=by intro z;exact absurd rfl z)(hone:∀y z,y∈lams->z∈lams->y=z:=by simp[lams])(hrec:∀y,y∈lams->∃d,(recsOf q).find? (λe=>e.name== y)=some d:=by simp[lams]) :
 PySem.W.WalkO q loose XP YP l.row.toRowW d [] (λf vs=>PySem.call f vs):=by
 refine Att.um hn hdf λw s₀ s₁ mg mb fa o pm cd doc a vs ns G Y ho hd hcd hmg hobj hints hlen hg=>?_
 have KX:=hY w _ Y
 obtain⟨fd,hb,hF⟩:=F w mg fa _ KX G.T.g hmg
 exact Ci KX G.T.g G.T.b G.T.builtins G.T.nolimit hg hobj hints (Nat.le_trans hlen hn2) hr hF hb (λH hO hS=>hsp w H a ns hlen hO hS) (λH e s'=>XH w H s₁ e s') (λz=>hnt z w) hone λy c Pt hy hty=>let ⟨_,hr'⟩:=hrec y hy;IV G.T KX hr' hty
end L2
namespace L2
open PySem PySem.Spec PyProof.Rows
def inClass(s:Stmt)(j:Nat):Stmt:=match s with
 | .ClassDef _ _ _ body _ _ _ _ _ _ _=>body.getD j (.Pass ⟨0,0,0,0⟩)
 |_=>.Pass ⟨0,0,0,0⟩
def ao(s:Stmt):Arguments:=match s with
 | .FunctionDef _ a _ _ _ _ _ _ _ _=>a
 |_=> {posonlyargs:=[],args:=[],vararg:=none,kwonlyargs:=[],kw_defaults:=[],kwarg:=none,defaults:=[]}
def Œ(s:Stmt):List Stmt:=match s with
 | .FunctionDef _ _ b _ _ _ _ _ _ _=>b
 |_=>[]
def ć(s:Stmt):Scope:=match s with
 | .FunctionDef _ _ _ _ _ _ sc _ _ _=>sc
 |_=> {kind:=.function,names:=[],isGenerator:=false,isCoroutine:=false}
abbrev Ŧ:jB:=λ_ _ _ _ _ _=>False
structure Cj(K:PySem.W.Frag)(x qual:Str)(st:Stmt)(f:Addr)(fd:FuncData):Prop where
 ex:∃(oc:Value) (od:Option Addr) (kV doc pm:Value) (an:Option Addr) (cdv ct:Value) (osl:Array (Option Value)),
   fd=PySem.W.fnOf x qual (ao st) (Œ st) (ć st) .none kV doc pm an cdv ct/\K.lookup f=some ⟨oc,od,.func fd,osl⟩/\PySem.W.codeIn K cdv qual=true
 kp:PySem.W.keepIn K (.ref f)=true
section
variable{P:Program}{w:World}{K:PySem.W.Frag}{mg:Str->Option Value}{base:Heap}
def Cj.binds{x qual:Str}{st:Stmt}{f:Addr}{fd:FuncData}{ps:List Str}(F:Cj K x qual st f fd)
 (h:∀(kV doc pm:Value) (an:Option Addr) (cdv ct:Value) (us:List Value),us.length=ps.length->bindArgs (PySem.W.fnOf x qual (ao st) (Œ st) (ć st) .none kV doc pm an cdv ct) ⟨us,[]⟩=pure (ps.zip us)):Binds K fd ps []:=by
 obtain⟨oc,od,kV,doc,pm,an,cdv,ct,osl,rfl,lk,hcd⟩:=F.ex
 exact .all (h kV doc pm an cdv ct)
def Ck{x qual:Str}{st:Stmt}{f:Addr}{oc:Value}{od an:Option Addr}{osl:Array (Option Value)}{kV doc pm cdv ct:Value}(l:K.lookup f=some ⟨oc,od,.func (PySem.W.fnOf x qual (ao st) (Œ st) (ć st) .none kV doc pm an cdv ct),osl⟩)
 (c:PySem.W.codeIn K cdv qual=true)(k:PySem.W.keepIn K (.ref f)=true):Cj K x qual st f (PySem.W.fnOf x qual (ao st) (Œ st) (ć st) .none kV doc pm an cdv ct):=⟨⟨oc,od,kV,doc,pm,an,cdv,ct,osl,rfl,l,c⟩,k⟩
end
section
variable{X:Cx}
def pv(i:Nat){x:Str}{pos:Pos}(hN:X.N[i]?=some x:=by rfl)(hv:yE X.env.scope x:=by first|exact Or.inl rfl|exact Or.inr (Or.inl rfl)|exact Or.inr (Or.inr rfl))(hd:(x== ("__debug__" :Str))=false:=by decide)
 (hcd:(x== ("__classdict__" :Str))=false:=by decide):PE X (.Name x pos) (zX i):=eX hN hv hd hcd
end
def Same(H H':Hp):Prop:=∀b o,H b=some o->H' b=some o
def Same.refl(H:Hp):Same H H:=λ_ _ h=>h
def Same.trans{H H1 H2:Hp}(a:Same H H1)(b:Same H1 H2):Same H H2:=λc o h=>b c o (a c o h)
def Same.free{H H':Hp}(e:Same H H'){l:Addr}(h:H' l=Option.none):H l=Option.none:=by
 cases q:H l with
 |none=>rfl
 |some o=>
  rw[e l o q] at h
  cases h
def Same.seq{K:PySem.W.Frag}{H H':Hp}{a:Addr}{xs:List V}(e:Same H H')(h:Ũ K H a xs):Ũ K H' a xs:=by
 rcases h with(h|⟨o,h⟩)|h
 ·exact .inl (.inl (e _ _ h))
 ·exact .inl (.inr ⟨o,e _ _ h⟩)
 ·exact .inr h
end L2
namespace M2
open PySem PySem.Spec PyProof.Rows L2
section
variable{X:Cx}{a b c e:Expr}{ta tb tc te:TE}{pos:Pos}
def PE.wk{t t':TE}(h:PE X e t)(i:∀σ H Q,t' σ H Q->t σ H Q):PE X e t':=λpins s σ H Q I q=>h pins s σ H Q I (i σ H Q q)
def PS.wk{st:Stmt}{t t':TS}(h:PS X st t)(i:∀D σ H,t' D σ H->t D σ H):PS X st t':=λpins s σ H D I q=>h pins s σ H D I (i D σ H q)
def ũ.wk{f:Value->Value->Sem Value}{r r':R2}(h:ũ X f r)(i:∀x y H Q,r' x y H Q->r x y H Q):ũ X f r':=λpins s σ H x y v u Q I rx ry q=>h pins s σ H x y v u Q I rx ry (i x y H Q q)
def Ij.wk{f:Value->Sem Value}{r r':V->Hp->VK->Prop}(h:Ij X f r)(i:∀x H Q,r' x H Q->r x H Q):Ij X f r':=λpins s σ H x v Q I rx q=>h pins s σ H x v Q I rx (i x H Q q)
def ŀ.wk{f:Value}{r r':List V->Hp->VK->Prop}(h:ŀ X f r)(i:∀xs H Q,r' xs H Q->r xs H Q):ŀ X f r':=λpins s σ H xs us Q I r q=>h pins s σ H xs us Q I r (i xs H Q q)
def wz.wk{r r':R2}(h:wz X r)(i:∀x y H Q,r' x y H Q->r x y H Q):wz X r':=λva sl pins s σ H x y v u Q I rx ry q=>h va sl pins s σ H x y v u Q I rx ry (i x y H Q q)
def yH.wk{r r':V->Option Int->Option Int->Hp->VK->Prop}(h:yH X r)(i:∀x lo hi H Q,r' x lo hi H Q->r x lo hi H Q):yH X r':=λpins s σ H x v vl vu lo hi sl Q I rx hs pl pu q=>h pins s σ H x v vl vu lo hi sl Q I rx hs pl pu (i x lo hi H Q q)
def Te(i:Nat):TE:=λσ H Q=>match σ[i]? with
 |some (some v)=>Q v H
 |_=>False
def I_{i:Nat}{σ:L2.St}{H:Hp}{Q:VK}(h:Te i σ H Q):zX i σ H Q:=by
 unfold Te at h
 split at h
 ·exact⟨_,by assumption,h⟩
 ·exact h.elim
def mv(i:Nat){x:Str}{pos:Pos}(hN:X.N[i]?=some x:=by rfl)(hv:yE X.env.scope x:=by first|exact Or.inl rfl|exact Or.inr (Or.inl rfl)|exact Or.inr (Or.inr rfl))(hd:(x== ("__debug__" :Str))=false:=by decide)
 (hcd:(x== ("__classdict__" :Str))=false:=by decide):PE X (.Name x pos) (Te i):=PE.wk (eX hN hv hd hcd) λ_ _ _ h=>I_ h
def XJ(x:V)(k:Bool->Prop):Prop:=match x with
 | .bl c=>k c
 |_=>False
def qW{x:V}{k:Bool->Prop}(h:XJ x k):∃c,x=.bl c/\k c:=by
 cases x with
 |bl c=>exact⟨c,rfl,h⟩
 |_=>exact h.elim
def KC(t:TE):TT:=λσ H Q=>t σ H λx H1=>XJ x λc=>Q c H1
def Tf{op:CmpOp}{r:R2}(ho:ũ X (compareOp op) r)(ha:PE X a ta)(hb:PE X b tb)(hm:behindInMarks op b=false):PT X (.Compare a [op] [b] pos) (KC (RX r ta tb)):=by
 intro pins s σ H Q I h
 refine wpAny_isTrue_Compare1 (ő (ha pins s σ H _ I h) λv s1 ⟨x,H1,I1,r1,q1⟩=>ő (hb pins s1 σ H1 _ I1 q1) λu s2 ⟨y,H2,I2,r2,q2⟩=>
  ő (ho pins s2 σ H2 x y v u _ I2 r1 r2 q2) λc s3 ⟨z,H3,I3,r3,q3⟩=>?_) hm
 obtain⟨k,e,q3⟩:=qW q3
 subst e
 cases r3
 exact wpAny_truthy_bool ⟨H3,I3,q3⟩
def Cm(r r':R2)(ta tb tc:TE):TE:=λσ H Q=>ta σ H λx H1=>tb σ H1 λy H2=>r x y H2 λz H3=>XJ z λk=>
 (if k=true then tc σ H3 λw' H4=>r' y w' H4 Q else Q (.bl false) H3)
def Cp{op op':CmpOp}{r r':R2}(ho:ũ X (compareOp op) r)(ho':ũ X (compareOp op') r')(ha:PE X a ta)(hb:PE X b tb)(hc:PE X c tc)
 (hm:lastMarks [op,op'] [b,c]=false:=by with_unfolding_all rfl):PE X (.Compare a [op,op'] [b,c] pos) (Cm r r' ta tb tc):=by
 intro pins s σ H Q I h
 refine Compare_chain (ő (ha pins s σ H _ I h) λv s1 ⟨x,H1,I1,r1,q1⟩=>chain_link (ő (hb pins s1 σ H1 _ I1 q1) λu s2 ⟨y,H2,I2,r2,q2⟩=>
  ő (ho pins s2 σ H2 x y v u _ I2 r1 r2 q2) λd s3 ⟨z,H3,I3,r3,q3⟩=>?_)) hm
 obtain⟨k,e,q3⟩:=qW q3
 subst e
 cases r3
 refine wpAny_truthy_bool ?_
 cases k with
 |false=>exact ite_ff ⟨.bl false,H3,I3,rfl,q3⟩
 |true=>exact ite_tt (chain_last (ő (hc pins s3 σ H3 _ I3 q3) λw' s4 ⟨z',H4,I4,r4,q4⟩=>ho' pins s4 σ H4 y z' u w' Q I4 r2 r4 q4))
def XM(ta tb:TE):TE:=λσ H Q=>ta σ H λx H1=>XJ x λc=>if c=true then tb σ H1 Q else Q (.bl false) H1
def XQ(ta:TE):TE:=λσ H Q=>ta σ H λx H1=>XJ x λc=>Q (.bl (!c)) H1
variable{rest:List Expr}
def Ti(ha:PE X a ta)(hb:PE X (.BoolOp .And (b::rest) pos) tb):PE X (.BoolOp .And (a::b::rest) pos) (XM ta tb):=by
 intro pins s σ H Q I h
 refine BoolOp_and (ő (ha pins s σ H _ I h) λv s1 ⟨x,H1,I1,r1,q1⟩=>?_)
 obtain⟨c,rfl,q1⟩:=qW q1
 cases r1
 refine wpAny_truthy_bool ?_
 cases c with
 |true=>exact hb pins s1 σ H1 Q I1 q1
 |false=>exact⟨.bl false,H1,I1,rfl,q1⟩
def Tj(ha:PE X a ta):PE X (.UnaryOp .Not a pos) (XQ ta):=by
 intro pins s σ H Q I h
 refine UnaryOp_ (ő (ha pins s σ H _ I h) λv s1 ⟨x,H1,I1,r1,q1⟩=>?_)
 obtain⟨c,rfl,q1⟩:=qW q1
 cases r1
 exact not_of (wpAny_truthy_bool ⟨.bl (!c),H1,I1,rfl,q1⟩)
def mI(C:Int->Int->Prop)(g:Int->Int->V):R2:=λx y H Q=>match x,y with
 | .int i,.int j=>C i j/\Q (g i j) H
 |_,_=>False
def Ak(g:Int->Int->V):R2:=λx y H Q=>match x,y with
 | .int i,.int j=>Q (g i j) H
 |_,_=>False
def pQ{C:Int->Int->Prop}{g:Int->Int->V}(x y:V)(H:Hp)(Q:VK)(h:mI C g x y H Q):rI C g x y H Q:=by
 cases x with
 |int i=>
  cases y with
  |int j=>exact⟨i,j,rfl,rfl,h.1,h.2⟩
  |_=>exact h.elim
 |_=>exact h.elim
def mD{g:Int->Int->V}(x y:V)(H:Hp)(Q:VK)(h:Ak g x y H Q):Ik g x y H Q:=by
 cases x with
 |int i=>
  cases y with
  |int j=>exact⟨i,j,rfl,rfl,h⟩
  |_=>exact h.elim
 |_=>exact h.elim
def XR:R2:=λx y H Q=>match x,y with
 | .int i,.int j=>Q (.int (i+j)) H
 | .str i,.str j=>i.length+j.length<=sizeLine/\Q (.str (i++j)) H
 |_,_=>False
def Tn:ũ X (binaryOp .Add) XR:=ũ.wk (Sg.or vV) λx y H Q h=>by
 cases x with
 |int i=>
  cases y with
  |int j=>exact .inl ⟨i,j,rfl,rfl,h⟩
  |_=>exact h.elim
 |str i=>
  cases y with
  |str j=>exact .inr ⟨i,j,rfl,rfl,h.1,h.2⟩
  |_=>exact h.elim
 |_=>exact h.elim
def Tp:ũ X (binaryOp .Sub) (Ak λi j=>.int (i-j)):=ũ.wk Sh mD
def pR(i j:Int):Prop:=Sd i j\/(Builtin.Int.intBits i<=1048576/\Builtin.Int.intBits j<=1048576)
theorem pR.ok{i j:Int}(h:pR i j):IntMulOk i j:=by
 rcases h with h|⟨h1,h2⟩
 ·exact h.ok
 ·exact IntMulOk.of_le h1 h2 (by decide)
def Tq:ũ X (binaryOp .Mult) (mI pR λi j=>.int (i*j)):=ũ.wk (yG (C:=pR) (g:=λi j=>i*j) λ_ _ _ _ _ _ _ hc q=>mul_int q hc.ok) pQ
def Al(_ j:Int):Prop:=j≠0/\Builtin.Int.intBits j<=8000
def Al.py{i j:Int}(h:Al i j):Builtin.divisionGoesByPylong i j=false:=by
 refine PyProof.noPylong_of_log2 ?_
 have hb:=intBits_le_iff.mp h.2
 have h0:j.natAbs≠0:=by have:=h.1;omega
 exact Nat.lt_of_lt_of_le ((Nat.log2_lt h0).mpr hb) (by decide)
def Ja:ũ X (binaryOp .FloorDiv) (mI Al λi j=>.int (i.fdiv j)):=ũ.wk (yG (C:=Al) (g:=λi j=>i.fdiv j) λ_ _ _ _ _ _ _ hc q=>floordiv_int hc.1 q (.inl hc.py)) pQ
def Tr:ũ X (binaryOp .Mod) (mI (λ_ j=>j≠0) λi j=>.int (i.fmod j)):=ũ.wk Il pQ
def mF:ũ X (binaryOp .Pow) (mI Ab λi j=>.int (i ^ j.toNat)):=ũ.wk Sq pQ
def dN:ũ X (compareOp .Lt) (Ak λi j=>.bl (decide (i<j))):=ũ.wk Xu mD
def dO:ũ X (compareOp .LtE) (Ak λi j=>.bl (decide (i<=j))):=ũ.wk Xv mD
def uo:ũ X (compareOp .Gt) (Ak λi j=>.bl (decide (j<i))):=ũ.wk Xw mD
def mU(g:Int->V):V->Hp->VK->Prop:=λx H Q=>match x with
 | .int i=>Q (g i) H
 |_=>False
def bV:Ij X (unaryOp .USub) (mU λi=>.int (-i)):=Ij.wk Sx λx H Q h=>by
 cases x with
 |int i=>exact⟨i,rfl,h⟩
 |_=>exact h.elim
def mAbs:List V->Hp->VK->Prop:=λxs H Q=>match xs with
 | [.int i]=>Q (.int (if i<0 then -i else i)) H
 |_=>False
def Cq:ŀ X (.builtin "abs") mAbs:=ŀ.wk BL λxs H Q h=>by
 unfold mAbs at h
 split at h
 ·exact⟨_,rfl,h⟩
 ·exact h.elim
def Cr:List V->Hp->VK->Prop:=λxs H Q=>match xs with
 | [.int i,.int j]=>Q (.int (if j<i then j else i)) H
 |_=>False
def qX(hc:X.calm=true):ŀ X (.builtin "min") Cr:=ŀ.wk (Ad hc) λxs H Q h=>by
 unfold Cr at h
 split at h
 ·exact⟨_,_,rfl,h⟩
 ·exact h.elim
def Cu:List V->Hp->VK->Prop:=λxs H Q=>match xs with
 | [.int i,.int j]=>Q (.int (if j>i then j else i)) H
 |_=>False
def Jb(hc:X.calm=true):ŀ X (.builtin "max") Cu:=ŀ.wk (Ac hc) λxs H Q h=>by
 unfold Cu at h
 split at h
 ·exact⟨_,_,rfl,h⟩
 ·exact h.elim
def Tt(K:PySem.W.Frag):List V->Hp->VK->Prop:=λxs H Q=>match xs with
 | [.str y]=>y.length<=sizeLine/\Q (.int (y.length:Int)) H
 | [.ref p]=>∃ys,(Ũ K H p ys\/cY K H p ys)/\Q (.int (ys.length:Int)) H
 |_=>False
def ů:ŀ X (.builtin "len") (Tt X.K):=ŀ.wk BP λxs H Q h=>by
 unfold Tt at h
 split at h
 ·exact⟨_,_,rfl,⟨h.1,rfl⟩,h.2⟩
 ·obtain⟨ys,h1,h2⟩:=h
  refine⟨_,ys.length,rfl,?_,h2⟩
  rcases h1 with h1|h1
  ·exact .inl ⟨ys,h1,rfl⟩
  ·exact .inr ⟨ys,h1,rfl⟩
 ·exact h.elim
def mIx(K:PySem.W.Frag):R2:=λx y H Q=>match x,y with
 | .ref p,.int i=>∃xs v,(Ũ K H p xs\/cY K H p xs)/\lA xs i=some v/\Q v H
 | .str z,.int i=>∃c,z.length<=sizeLine/\lA z.cps.toList i=some c/\Q (.str ⟨#[c]⟩) H
 |_,_=>False
def X_:wz X (mIx X.K):=wz.wk Cg λx y H Q h=>by
 cases x with
 |ref p=>
  cases y with
  |int i=>
   obtain⟨xs,v,h1,h2,h3⟩:=h
   rcases h1 with h1|h1
   ·exact .inl ⟨p,xs,i,v,rfl,rfl,h1,h2,h3⟩
   ·exact .inr (.inl ⟨p,xs,i,v,rfl,rfl,h1,h2,h3⟩)
  |_=>exact h.elim
 |str z=>
  cases y with
  |int i=>
   obtain⟨c,h1,h2,h3⟩:=h
   exact .inr (.inr ⟨z,i,c,rfl,rfl,h1,h2,h3⟩)
  |_=>exact h.elim
 |_=>exact h.elim
def iOf(x:V)(k:Int->Prop):Prop:=match x with
 | .int i=>k i
 |_=>False
def Yb(t:TE):TO:=λσ H Q=>t σ H λx H1=>iOf x λi=>Q (some i) H1
def Cv(h:PE X e te):PO X (some e) (Yb te):=by
 intro pins s σ H Q I hw
 rw[evalPart_some]
 refine ő (h pins s σ H _ I hw) λu s1 ⟨x,H1,I1,r1,q1⟩=>?_
 cases x with
 |int i=>
  obtain⟨t,rfl⟩:=r1
  exact⟨some i,H1,I1,.int i t,q1⟩
 |_=>exact q1.elim
def ZbY(K:PySem.W.Frag):V->Option Int->Option Int->Hp->VK->Prop:=λx lo hi H Q=>match x with
 | .ref a=>∃xs,Ũ K H a xs/\∀p,H p=none->Q (.ref p) (upd H p (.lst (ug xs lo hi)))
 |_=>False
def Cw:yH X (ZbY X.K):=yH.wk IK λx lo hi H Q h=>by
 cases x with
 |ref a=>
  obtain⟨xs,h1,h2⟩:=h
  exact⟨a,xs,rfl,h1,h2⟩
 |_=>exact h.elim
end
end M2
namespace M2
open PySem PySem.Spec PyProof.Rows L2
section
variable{X:Cx}{tg:Expr}
end
mutual
def Rp(K:PySem.W.Frag)(H:Hp):PyData->V->Prop
 | .none,v=>v=.non
 | .bool b,v=>v=.bl b
 | .int i,v=>v=.int i
 | .str x,v=>v=.str x
 | .tuple ds,v=>∃a xs,v=.ref a/\cY K H a xs/\jC K H ds xs
 | .list ds,v=>∃a xs,v=.ref a/\Ũ K H a xs/\jC K H ds xs
 | .dict _,_=>False
def jC(K:PySem.W.Frag)(H:Hp):List PyData->List V->Prop
 | [],xs=>xs=[]
 |d::ds,xs=>∃x r,xs=x::r/\Rp K H d x/\jC K H ds r
end
def Same.tup{K:PySem.W.Frag}{H H':Hp}{a:Addr}{xs:List V}(e:Same H H')(h:cY K H a xs):cY K H' a xs:=by
 rcases h with(h|⟨o,h⟩)|h
 ·exact .inl (.inl (e _ _ h))
 ·exact .inl (.inr ⟨o,e _ _ h⟩)
 ·exact .inr h
theorem Same.upd{H:Hp}{p:Addr}{o:HO}(h:H p=none):Same H (upd H p o):=λb u e=>by
 rw[ę (Ģ e h)]
 exact e
mutual
theorem Rp.same{K:PySem.W.Frag}{H H':Hp}(e:Same H H'):∀(d:PyData) (v:V),Rp K H d v->Rp K H' d v
 | .none,_,h=>by unfold Rp at h ⊢;exact h
 | .bool _,_,h=>by unfold Rp at h ⊢;exact h
 | .int _,_,h=>by unfold Rp at h ⊢;exact h
 | .str _,_,h=>by unfold Rp at h ⊢;exact h
 | .tuple ds,_,h=>by
   unfold Rp at h ⊢
   obtain⟨a,xs,h1,h2,h3⟩:=h
   exact⟨a,xs,h1,Same.tup e h2,jC.same e ds xs h3⟩
 | .list ds,_,h=>by
   unfold Rp at h ⊢
   obtain⟨a,xs,h1,h2,h3⟩:=h
   exact⟨a,xs,h1,e.seq h2,jC.same e ds xs h3⟩
 | .dict _,_,h=>by unfold Rp at h;exact h.elim
theorem jC.same{K:PySem.W.Frag}{H H':Hp}(e:Same H H'):∀(ds:List PyData) (xs:List V),jC K H ds xs->jC K H' ds xs
 | [],_,h=>by unfold jC at h ⊢;exact h
 |d::ds,_,h=>by
  unfold jC at h ⊢
  obtain⟨x,r,h1,h2,h3⟩:=h
  exact⟨x,r,h1,Rp.same e d x h2,jC.same e ds r h3⟩
end
section
variable{X:Cx}{pins:List (Addr×Obj)}{σ:L2.St}{H:Hp}{s:Shared}
mutual
theorem Rp.reads(I:Inv X pins σ H s):∀(d:PyData) (v:V) (u:Value),Rp X.K H d v->RelV v u->∃as,Reads s.heap u d as
 | .none,v,u,h,r=>by
   unfold Rp at h;subst h;cases r;exact⟨_,.none⟩
 | .bool b,v,u,h,r=>by
   unfold Rp at h;subst h;cases r;exact⟨_,.bool b⟩
 | .int i,v,u,h,r=>by
   unfold Rp at h;subst h;obtain⟨t,rfl⟩:=r;exact⟨_,.int i t⟩
 | .str x,v,u,h,r=>by
   unfold Rp at h;subst h;obtain⟨t,rfl⟩:=r;exact⟨_,.str x t⟩
 | .tuple ds,v,u,h,r=>by
   unfold Rp at h
   obtain⟨a,xs,h1,h2,h3⟩:=h
   subst h1
   cases r
   obtain⟨its,rv,⟨o,e,hc,n,hd⟩,hz⟩:=I.tuple h2
   obtain⟨as,ra⟩:=jC.reads I ds xs its h3 rv
   exact⟨_,.tuple e hc hd (by simpa using ra)⟩
 | .list ds,v,u,h,r=>by
   unfold Rp at h
   obtain⟨a,xs,h1,h2,h3⟩:=h
   subst h1
   cases r
   obtain⟨its,rv,⟨o,n,e,hc,hdd,hd⟩,hz⟩:=I.list h2
   obtain⟨as,ra⟩:=jC.reads I ds xs its h3 rv
   exact⟨_,.list e hc hd (by simpa using ra)⟩
 | .dict _,_,_,h,_=>by unfold Rp at h;exact h.elim
theorem jC.reads(I:Inv X pins σ H s):∀(ds:List PyData) (xs:List V) (us:List Value),jC X.K H ds xs->Vals xs us->∃as,ReadsAll s.heap us ds as
 | [],xs,us,h,r=>by
   unfold jC at h;subst h;cases r;exact⟨_,.nil⟩
 |d::ds,xs,us,h,r=>by
  unfold jC at h
  obtain⟨x,q,h1,h2,h3⟩:=h
  subst h1
  cases r with
  |cons r1 r2=>
   obtain⟨as,ra⟩:=Rp.reads I d x _ h2 r1
   obtain⟨bs,rb⟩:=jC.reads I ds q _ h3 r2
   exact⟨_,.cons ra rb⟩
end
end
def Jc(K:PySem.W.Frag)(neg:Bool):R2:=λx y H Q=>∃d e,Rp K H d x/\Rp K H e y/\d.canLay0=true/\e.canLay0=true/\min d.depth e.depth<=60/\Q (.bl (if neg then !PyData.eqv d e else PyData.eqv d e)) H
section
variable{X:Cx}
def Cy(hu:X.A.units+64<cLine):ũ X (compareOp .Eq) (Jc X.K false):=by
 intro pins s σ H x y v u Q I rx ry h
 obtain⟨d,e,h1,h2,h3,h4,h5,q⟩:=h
 obtain⟨as,ra⟩:=Rp.reads I d x v h1 rx
 obtain⟨bs,rb⟩:=Rp.reads I e y u h2 ry
 exact SeqAt.compareEq_reads ra rb h3 h4 (by omega) ⟨.bl _,H,I,rfl,q⟩
def Cz(hu:X.A.units+64<cLine):ũ X (compareOp .NotEq) (Jc X.K true):=by
 intro pins s σ H x y v u Q I rx ry h
 obtain⟨d,e,h1,h2,h3,h4,h5,q⟩:=h
 obtain⟨as,ra⟩:=Rp.reads I d x v h1 rx
 obtain⟨bs,rb⟩:=Rp.reads I e y u h2 ry
 exact SeqAt.compareNe_reads ra rb h3 h4 (by omega) ⟨.bl _,H,I,rfl,q⟩
end
section
variable{K:PySem.W.Frag}
end
end M2
namespace M3
open PySem PySem.Spec PyProof.Rows L2 M2
def yJ{P:Program}{w:World}{H:Hp}{h h':Heap}{C:Addr}(x:iM P w H h)(hC:H C=none)(k:∀b u,b≠C->h.get? b=some u->h'.get? b=some u):iM P w H h':=λa o e=>
 (x a o e).stay (fun b u hb q=>k b u (by
   rcases hb with hb|hb
   ·rw[hb];exact Ģ e hC
   ·exact Ģ hb hC) q) (λ_ q=>q) λ_ _ q=>q
theorem iB{env:Env}:∀(ns:List (Str×NameKind)) (cs:List (Str×Addr)),(∀y∈ns,y.2=.free->∃c,env.cells.lookup y.1=some c)->(∀x c,cs.lookup x=some c->env.cells.lookup x=some c)->
 ∃cl,(forIn ns cs (λ(x:Str×NameKind) r=>if(x.2== .free)=true then(do let c <-cellOf env x.1;pure (ForInStep.yield ((x.1,c)::r))) else pure (ForInStep.yield r)):Sem (List (Str×Addr)))=pure cl/\
  (∀x c,cl.lookup x=some c->env.cells.lookup x=some c)/\(∀x,(∃c,cs.lookup x=some c)->∃c,cl.lookup x=some c)/\∀y∈ns,y.2=.free->∃c,cl.lookup y.1=some c
 | [],cs,_,h2=>⟨cs,rfl,h2,λ_ z=>z,λ_ z=>nomatch z⟩
 |(n,k)::ns,cs,h1,h2=>by
  by_cases hk:k=.free
  ·subst hk
   obtain⟨c,hc⟩:=h1 (n,.free) List.mem_cons_self rfl
   have e:cellOf env n=pure c:=by unfold cellOf;rw[hc]
   have h2':∀x d,((n,c)::cs).lookup x=some d->env.cells.lookup x=some d:=λx d q=>by
    rw[List.lookup_cons] at q
    cases hx:x== n with
    |true=>
     rw[hx] at q
     have:x=n:=eq_of_beq hx
     subst this
     cases q
     exact hc
    |false=>
     rw[hx] at q
     exact h2 x d q
   obtain⟨cl,q1,q2,q3,q4⟩:=iB ns ((n,c)::cs) (λy hy=>h1 y (List.mem_cons_of_mem _ hy)) h2'
   refine⟨cl,?_,q2,λx ⟨d,hd⟩=>q3 x ?_,λy hy hf=>?_⟩
   ·rw[List.forIn_cons]
    simp only[beq_self_eq_true,if_true,e,pure_bind]
    exact q1
   ·rw[List.lookup_cons]
    cases hx:x== n with
    |true=>exact⟨c,rfl⟩
    |false=>exact⟨d,hd⟩
   ·rcases List.mem_cons.mp hy with rfl|hy
    ·exact q3 n ⟨c,by rw[List.lookup_cons,beq_self_eq_true]⟩
    ·exact q4 y hy hf
  ·have hb:(k== NameKind.free)=false:=by simpa using hk
   obtain⟨cl,q1,q2,q3,q4⟩:=iB ns cs (λy hy=>h1 y (List.mem_cons_of_mem _ hy)) h2
   refine⟨cl,?_,q2,q3,λy hy hf=>?_⟩
   ·rw[List.forIn_cons]
    simp only[hb,Bool.false_eq_true,if_false,pure_bind]
    exact q1
   ·rcases List.mem_cons.mp hy with rfl|hy
    ·exact absurd hf hk
    ·exact q4 y hy hf
def dh{scope:Scope}{env:Env}(h:∀y∈scope.names,y.2=.free->∃c,env.cells.lookup y.1=some c) :
 ∃cl,closureFor scope env=pure cl/\(∀x c,cl.lookup x=some c->env.cells.lookup x=some c)/\∀y∈scope.names,y.2=.free->∃c,cl.lookup y.1=some c:=by
 obtain⟨cl,q1,q2,_,q4⟩:=iB (env:=env) scope.names [] h (λx c z=>by simp at z)
 refine⟨cl,?_,q2,q4⟩
 unfold closureFor
 have e:(forIn scope.names [] (λ(x:Str×NameKind) (r:List (Str×Addr))=>match x with
  |(name,kind)=>if(kind== .free)=true then(do let a <-cellOf env name;pure (ForInStep.yield ((name,a)::r))) else pure (ForInStep.yield r)):Sem (List (Str×Addr)))=pure cl:=q1
 first
  |(simp only[bind_pure];exact q1)
  |(rw[show ∀(t:Sem (List (Str×Addr))),(do let r <-t;pure r)=t from λt=>by simp];exact q1)
  |(simp only[q1,pure_bind])
def bW(X:Cx)(N':List Str)(scope:Scope)(cl:List (Str×Addr))(C:Addr)(s:Shared)(H:Hp)(fp:List Addr):Cx where
 prog:=X.prog
 w:=X.w
 K:=X.K
 mg:=X.mg
 base:=X.base
 A:=X.A
 N:=N'
 s₀:= s
 H₀:= H
 env:=compEnvC scope cl C X.env
 outer:=X.stack
 stack:=X.stack
 ex:=fp
 fn:=λx=>scope.names.lookup x== some .cell
 calm:=X.calm
 pn:=[]
 xe:=λ_ _=>False
def cH(X:Cx)(sc scope:Scope):List Str->List Nat->Prop
 |x::xs,j::js=>X.N[j]?=some x/\(scope.names.lookup x=some .free/\(sc.names.lookup x=some .cell\/sc.names.lookup x=some .free))/\cH X sc scope xs js
 |_,[]=>True
 | [],_::_=>False
def cI(js:List Nat)(nl:Nat)(σ:L2.St):L2.St:=js.map (λj:Nat=>(σ[j]?).getD none)++List.replicate nl none
theorem jD{X:Cx}{sc scope:Scope}{σ:L2.St}{nl:Nat}:∀{N':List Str} {js:List Nat} {i:Nat} {x:Str} {v:V},cH X sc scope N' js->N'[i]?=some x->(cI js nl σ)[i]?=some (some v)->
 ∃j:Nat,X.N[j]?=some x/\σ[j]?=some (some v)/\scope.names.lookup x=some .free/\(sc.names.lookup x=some .cell\/sc.names.lookup x=some .free)
 |N',[],i,x,v,_,_,h=>by
  unfold cI at h
  rw[List.map_nil,List.nil_append,List.getElem?_replicate] at h
  split at h<;>cases h
 | [],_::_,_,_,_,c,_,_=>c.elim
 |y::N',j::js,0,x,v,c,h1,h2=>by
  obtain⟨c1,c2,_⟩:=c
  simp at h1
  subst h1
  have e:(σ[j]?).getD none=some v:=by simpa[cI] using h2
  refine⟨j,c1,?_,c2⟩
  cases q:σ[j]? with
  |none=>rw[q] at e;cases e
  |some o=>rw[q] at e;exact congrArg some e
 |y::N',j::js,i+1,x,v,c,h1,h2=>by
  exact jD (N':=N') (js:=js) (i:=i) c.2.2 (by simpa using h1) (by simpa[cI] using h2)
section
variable{prog:Program}{w:World}{A:Around}{R:Result->Shared->Prop}{s:Shared}
def iV{elt target iter:Expr}{ifs:List Expr}{scope:Scope}{pos:Pos}{it acc:Value}{env:Env}(I:Nat->Shared->Prop)
 (turn:∀n s,I n s→wpAny (model prog w) A (pyNext it) (fun r s₁=>match r with
   |none=>R (.ok .next) s₁
   |some v=>wpAny (model prog w) A (letOwnedTupleGo target it v) (fun _ s₁'=>wpAny (model prog w) A (assign target env v) (fun _ s₂=>
     wpAny (model prog w) A (forIn ifs true λc r=>if r=true then do let ok <-isTrue c env (eval c env);pure (ForInStep.yield ok) else pure (ForInStep.yield r)) (λok s₃=>
      if ok=true then wpAny (model prog w) A (eval elt env) (λx s₄=>
       wpAny (model prog w) A (call (.builtin "list.append") [acc,x]) (λ_ s₅=>∃m,m<n/\I m s₅) (λ_ _=>False) s₄) (λ_ _=>False) s₃
      else ∃m,m<n/\I m s₃) (λ_ _=>False) s₂) (λ_ _=>False) s₁') (λ_ _=>False) s₁) (λ_ _=>False) s)
 (n:Nat)(h:I n s) :
 codeAny (model prog w) A (.compLoop (.ListComp elt [⟨target,iter,ifs,0⟩] scope pos) 0 it acc env) R s:=by
 refine codeAny_loop rfl I (λn s hI=>?_) n h
 show wpAny _ A ((compTurn (.ListComp elt [⟨target,iter,ifs,0⟩] scope pos) 0 it acc env).onRaise (λx=>do noteFrame x env;theTreesLotGoes x)) _ _ s
 refine wpAny_noted (wpAny_noRaise ?_)
 rw[compTurn_list]
 refine wpAny_bind (wpAny_standAt (wpAny_bind (wpAny_mono (turn n s hI) (λr s₁ h₁=>?_) λ_ _ h'=>h')))
 cases r with
 |none=>exact wpAny_pure h₁
 |some v=>
  refine wpAny_bind (wpAny_mono h₁ (λ_ s₁' h₁'=>?_) λ_ _ h'=>h')
  refine wpAny_bind (wpAny_mono h₁' (λ_ s₂ h₂=>wpAny_bind (wpAny_mono h₂ (λok s₃ h₃=>?_) λ_ _ h'=>h')) λ_ _ h'=>h')
  cases ok with
  |false=>exact wpAny_pure ⟨rfl,h₃⟩
  |true=>
   exact wpAny_bind (wpAny_bind (wpAny_mono h₃ (λx s₄ h₄=>wpAny_bind (wpAny_mono h₄ (λ_ s₅ h₅=>wpAny_pure (wpAny_pure ⟨rfl,h₅⟩)) λ_ _ h'=>h')) λ_ _ h'=>h'))
end
def Bd(X:Cx)(ifs:List Expr)(t:TT):Prop:=
 ∀(pins:List (Addr×Obj)) (s:Shared) (σ:L2.St) (H:Hp) (Q:Bool->Hp->Prop),Inv X pins σ H s->t σ H Q->
  wpAny (model X.prog X.w) X.A (forIn ifs true λc r=>if r=true then do let ok <-isTrue c X.env (eval c X.env);pure (ForInStep.yield ok) else pure (ForInStep.yield r)) (TP X pins σ Q) X.xe s
def ZbZ:TT:=λ_ H Q=>Q true H
def Jd{X:Cx}:Bd X [] ZbZ:=λ_ _ _ H _ I h=>wpAny_tests_nil ⟨H,I,h⟩
def Je{X:Cx}{c:Expr}{t:TT}(h:PT X c t):Bd X [c] t:=λpins s σ H Q I hw=>wpAny_tests_one (h pins s σ H Q I hw)
def CG(js:List Nat)(nl:Nat)(wi:TI)(g:TG)(tt:TT)(te:TE):TE:=λσ H Q=>wi σ H λJ H1=>∀D,H1 D=none->
 ∃W:Nat->Nat->L2.St->Hp->Prop,(∃m,W 0 m (cI js nl σ) (upd H1 D (.lst [])))/\∀i m σ' H',W i m σ' H'->
  (J.stop i H'∧Q (.ref D) H')∨(J.go i H'∧∃N:L2.St→Hp→Prop,(∀σ2 H2,N σ2 H2→∃m',m'<m∧W (i+1) m' σ2 H2)∧∀x H2,J.yld i H' x H2→g x σ' H2 fun σ2 H3=>tt σ2 H3 fun c H4=>
    if c=true then te σ2 H4 λy H5=>∃ys,H5 D=some (.lst ys)/\ys.length<sizeLine/\N σ2 (upd H5 D (.lst (ys ++ [y]))) else N σ2 H4)
section
variable{X:Cx}{elt tg iter:Expr}{ifs:List Expr}{scope:Scope}{pos:Pos}{wi:TI}{g:TG}{tt:TT}{te:TE}
theorem dw{env:Env}:∀{names:List (Str×NameKind)} {x:Str} {k:NameKind},(k=.cell\/k=.free)->
 (names.map λ(n,k)=>if(k== NameKind.free && env.scope.kind== .function && env.kindOf n== some .cell) then(n,NameKind.cell) else(n,k)).lookup x=some k->(x,NameKind.free)∈names\/(x,NameKind.cell)∈names
 | [],x,k,_,h=>by simp at h
 |(n,q)::r,x,k,hk,h=>by
  have ih:=@dw env r x k hk
  rw[List.map_cons] at h
  by_cases hx:x=n
  ·subst hx
   by_cases hf:q=.free
   ·subst hf
    exact .inl List.mem_cons_self
   ·have hb:(q== NameKind.free)=false:=by simpa using hf
    have e:(if(q== NameKind.free && env.scope.kind== .function && env.kindOf x== some .cell)=true then(x,NameKind.cell) else(x,q))=(x,q):=by
     rw[hb];rfl
    have h2:=h
    simp only[e,List.lookup_cons,beq_self_eq_true] at h2
    have:q=k:=Option.some.inj h2
    rcases hk with hk|hk
    ·rw[this,hk]
     exact .inr List.mem_cons_self
    ·exact absurd (this.trans hk) hf
  ·have hn:(x== n)=false:=by simpa using hx
   have h3:(x,NameKind.free)∈r\/(x,NameKind.cell)∈r:=ih (by
    by_cases c:(q== NameKind.free && env.scope.kind== .function && env.kindOf n== some .cell)=true
    ·simp only[c,if_true,List.lookup_cons,hn] at h
     exact h
    ·simp only[c,if_false,Bool.false_eq_true,List.lookup_cons,hn] at h
     exact h)
   rcases h3 with h3|h3
   ·exact .inl (List.mem_cons_of_mem _ h3)
   ·exact .inr (List.mem_cons_of_mem _ h3)
theorem ŗ:∀(names:List (Str×NameKind)) (n:Nat) (acc:List (Str×Addr)),cellsFrom n names acc=cellsFrom n names []++acc
 | [],_,_=>rfl
 |(x,k)::r,n,acc=>by
  unfold cellsFrom
  split
  ·rw[ŗ r (n+1) ((x,n)::acc),ŗ r (n+1) [(x,n)],List.append_assoc]
   rfl
  ·exact ŗ r n acc
theorem dz:∀(names:List (Str×NameKind)) (n:Nat) {x:Str} {c:Addr},(x,c)∈cellsFrom n names []->(x,NameKind.cell)∈names
 | [],_,_,_,h=>by simp[cellsFrom] at h
 |(y,k)::r,n,x,c,h=>by
  unfold cellsFrom at h
  split at h
  ·rename_i hk
   rw[ŗ r (n+1) [(y,n)]] at h
   rcases List.mem_append.mp h with h|h
   ·exact List.mem_cons_of_mem _ (dz r _ h)
   ·have e:(x,c)=(y,n):=by simpa using h
    cases e
    rw[beq_iff_eq.mp hk]
    exact List.mem_cons_self
  ·exact List.mem_cons_of_mem _ (dz r _ h)
structure Blk(X:Cx)(scope:Scope)(n:Nat)(h:Heap)(cl:List (Str×Addr)):Prop where
 at_:∀x c,cl.lookup x=some c->(X.env.cells.lookup x=some c/\scope.names.lookup x≠some .cell)\/(n<c/\h.IsCell c none/\scope.names.lookup x=some .cell)
 inj:∀x y c,cl.lookup x=some c->cl.lookup y=some c->n<c->x=y
 has:∀x,((x,NameKind.free)∈scope.names\/(x,NameKind.cell)∈scope.names)->∃c,cl.lookup x=some c
def CJ{X:Cx}{scope:Scope}{n:Nat}{h:Heap}{cl:List (Str×Addr)}(hcell:∀y∈scope.names,y.2=.cell->scope.names.lookup y.1=some .cell)
 (h1:∀x c,cl.lookup x=some c->X.env.cells.lookup x=some c)(h2:∀y∈scope.names,y.2=.free->∃c,cl.lookup y.1=some c)(hlt:∀x c,X.env.cells.lookup x=some c->c<n)
 (ok:CellsOk h (n+1) (cellsFrom (n+1) scope.names [])):Blk X scope n h (cellsFrom (n+1) scope.names cl):=by
 have sp:∀x c,(cellsFrom (n+1) scope.names cl).lookup x=some c->(cl.lookup x=some c/\(cellsFrom (n+1) scope.names []).lookup x=none)\/(cellsFrom (n+1) scope.names []).lookup x=some c:=λx c e=>by
  rw[ŗ,List.lookup_append] at e
  cases q:(cellsFrom (n+1) scope.names []).lookup x with
  |none=>rw[q] at e;exact .inl ⟨by simpa using e,rfl⟩
  |some d=>rw[q] at e;exact .inr (by simpa using e)
 refine⟨λx c e=>?_,λx y c e1 e2 hc=>?_,λx hx=>?_⟩
 ·rcases sp x c e with⟨e,q⟩|e
  ·refine .inl ⟨h1 x c e,λz=>?_⟩
   obtain⟨d,hd⟩:=iU (sc:=scope) (n:=n+1) z
   rw[hd] at q
   cases q
  ·have m:=mem_of_lookup e
   exact .inr ⟨(ok.empty x c m).2,(ok.empty x c m).1,hcell _ (dz _ _ m) rfl⟩
 ·have nw:∀z,(cellsFrom (n+1) scope.names cl).lookup z=some c→(cellsFrom (n+1) scope.names []).lookup z=some c:=fun z e=>by
   rcases sp z c e with⟨e,q⟩|e
   ·exact absurd (hlt z c (h1 z c e)) (Nat.lt_asymm hc)
   ·exact e
  exact name_of_addr ok.apart (mem_of_lookup (nw x e1)) (mem_of_lookup (nw y e2))
 ·rw[ŗ,List.lookup_append]
  rcases hx with hx|hx
  ·obtain⟨c,hc⟩:=h2 _ hx rfl
   cases q:(cellsFrom (n+1) scope.names []).lookup x with
   |none=>exact⟨c,by simpa using hc⟩
   |some d=>exact⟨d,rfl⟩
  ·obtain⟨d,hd⟩:=iU (sc:=scope) (n:=n+1) (hcell _ hx rfl)
   rw[hd]
   exact⟨d,rfl⟩
def gO{M:Model}{A:Around}{E:Value->Shared->Prop}{s:Shared}{scope:Scope}{globals:Addr}{closure:List (Str×Addr)}{qual:Str}
 {func:Option Addr}{code:Value}{env0:Env}{builtins:Addr}{Q:Env->Shared->Prop}
 (hQ:∀h',h'.Ns s.heap.objs.size (fun _=>none)→(∀b o,s.heap.get? b=some o→h'.get? b=some o)→CellsOk h' (s.heap.objs.size+1) (cellsFrom (s.heap.objs.size+1) scope.names [])→
   Q (newEnv scope s.heap.objs.size globals (cellsFrom (s.heap.objs.size+1) scope.names closure) qual func code (some env0) builtins) {s with heap:=h'}) :
 wpAny M A (newFunctionEnv scope globals closure [] qual func code (some env0) builtins) Q E s:=by
 simp only[newFunctionEnv,Option.isSome_some,if_true]
 refine wpAny_bind (wpAny_alloc ?_)
 refine wpAny_bind (wpAny_layCells _ (λname kind cells=>by cases hkc:kind== NameKind.cell<;>simp[hkc]) _ _ _ _ ?_)
 have ok:=cellsFrom_ok scope.names (s.heap.push {cls:=.type "dict",data:=.dict #[]}) (s.heap.objs.size+1) [] ⟨λ_ _ hm=>(nomatch hm),List.Pairwise.nil⟩ (by rw[Heap.size_push];exact Nat.le_refl _)
 rw[Heap.size_push] at ok
 rw[show({s with heap:=s.heap.push {cls:=.type "dict",data:=.dict #[]}}:Shared).heap.objs.size=s.heap.objs.size+1 from Heap.size_push ..]
 refine wpAny_bind ?_
 rw[List.forIn_nil]
 exact wpAny_pure (wpAny_pure (hQ _ ((Heap.Ns.new s.heap (.type "dict")).keeps (pushCells_keeps _ _)) (λb o e=>pushCells_keeps _ _ b o (Heap.get?_push_of_some _ e)) ok))
theorem iW{env:Env}:∀{names:List (Str×NameKind)} {x:Str},names.lookup x=some .free->
 ¬(names.map λ(n,k)=>if(k== NameKind.free && env.scope.kind== .function && env.kindOf n== some .cell) then(n,NameKind.cell) else(n,k)).lookup x=some .local
 | [],x,h=>by simp at h
 |(n,q)::r,x,h=>by
  intro h2
  rw[List.map_cons] at h2
  rw[List.lookup_cons] at h
  cases hx:x== n with
  |true=>
   rw[hx] at h
   cases h
   by_cases c:(NameKind.free== NameKind.free && env.scope.kind== .function && env.kindOf n== some .cell)=true
   ·simp only[c,if_true,List.lookup_cons,hx] at h2
    cases h2
   ·simp only[c,if_false,Bool.false_eq_true,List.lookup_cons,hx] at h2
    cases h2
  |false=>
   rw[hx] at h
   have ih:=iW (env:=env) h
   by_cases c:(q== NameKind.free && env.scope.kind== .function && env.kindOf n== some .cell)=true
   ·simp only[c,if_true,List.lookup_cons,hx] at h2
    exact ih h2
   ·simp only[c,if_false,Bool.false_eq_true,List.lookup_cons,hx] at h2
    exact ih h2
def pU{pins:List (Addr×Obj)}{σ:L2.St}{H:Hp}{s:Shared}{N':List Str}{js:List Nat}{nl:Nat}{sc:Scope}{cl:List (Str×Addr)}{fp:List Addr}{h':Heap}{tk:Nat}
 (hsc:X.env.scope=sc)(hk:scope.kind=.function)(hcap:cH X sc scope N' js)(hlen:js.length+nl=N'.length)(B:Blk X scope s.heap.objs.size h' cl)
 (I:Inv X pins σ H s)(hf:∀b∈fp,bU X pins H b)(hlt:∀b∈fp,b<s.heap.objs.size)
 (hn:h'.Ns s.heap.objs.size (λ_=>none))(kp:∀b o,s.heap.get? b=some o->h'.get? b=some o) :
 Inv (bW X N' scope cl s.heap.objs.size s H fp) [] (cI js nl σ) H {s with heap:=h',toks:=tk}:=by
 have CK:∀x,((bW X N' scope cl s.heap.objs.size s H fp).env.kindOf x=some .cell\/(bW X N' scope cl s.heap.objs.size s H fp).env.kindOf x=some .free)->∃c,cl.lookup x=some c:=λx hx=>by
  rcases hx with hx|hx
  ·exact B.has x (dw (.inl rfl) hx)
  ·exact B.has x (dw (.inr rfl) hx)
 have lt:∀x c,X.env.cells.lookup x=some c->c<s.heap.objs.size:=λx c e=>by
  obtain⟨v,o,ho,_⟩:=I.cell x c e
  exact Heap.lt_size ho
 have inj:∀x y c,cl.lookup x=some c->cl.lookup y=some c->x=y:=λx y c e1 e2=>by
  rcases B.at_ x c e1 with⟨q1,_⟩|⟨q1,_⟩
  ·rcases B.at_ y c e2 with⟨q2,_⟩|⟨q2,_⟩
   ·exact I.ok.inj x y c q1 q2
   ·exact absurd (lt x c q1) (Nat.lt_asymm q2)
  ·exact B.inj x y c e1 e2 q1
 refine⟨⟨I.ok.mod,hk,I.ok.glob,I.ok.blt,Nat.le_refl _,inj,CK,λx c z e=>by
  rcases B.at_ x c e with⟨_,q⟩|⟨q,_⟩
  ·exact absurd (beq_iff_eq.mp z) q
  ·exact Nat.le_of_lt q,I.ok.hd,I.ok.frames,.inl rfl,λb hb=>⟨Nat.ne_of_lt (hlt b hb),λx c e=>by
  rcases B.at_ x c e with⟨q,_⟩|⟨q,_⟩
  ·exact(hf b hb).2.2.2.2.1 x c q
  ·exact Nat.ne_of_gt (Nat.lt_trans (hlt b hb) q)⟩,
  I.bs,Nat.le_trans I.ok.Hz I.sz,fun b o e hb=>?_,fun b hb hz=>?_,I.stack,I.qM,I.tb⟩,rfl,I.bare,Un.kept kp,⟨_,hn,fun i x v e1 e2 e3=>?_⟩,fun x c e=>?_,I.hok.fresh (Nat.le_refl _),fun x c e=>by
    rcases B.at_ x c e with⟨q,_⟩|⟨q,_⟩
    ·exact I.eV x c q
    ·exact I.hok.fresh (Nat.le_of_lt q),λp hp=>?_,I.hok.kept kp,?_⟩
 ·rcases(hf b hb).2.2.2.1 with z|z
  ·exact I.ok.Bl b o e z
  ·exact absurd (Nat.lt_of_lt_of_le (Heap.lt_size e) (Nat.le_trans I.ok.Hz z)) (Nat.lt_irrefl _)
 ·rcases List.mem_cons.mp (I.lZ b hz) with z|z
  ·exact(hf b hb).2.1 z
  ·exact(hf b hb).2.2.1 z
 ·obtain⟨j,q1,q2,q0,q3⟩:=jD hcap e1 e2
  obtain⟨m,hm,hl⟩:=I.loc
  have Tw:yE X.env.scope x:=by
   rw[hsc]
   rcases q3 with q3|q3
   ·exact .inr (.inl q3)
   ·exact .inr (.inr q3)
  obtain⟨u,ru,lk⟩:=hl j x v q1 q2 Tw
  refine⟨u,ru,?_⟩
  rcases lk with⟨k1,_⟩|⟨k1,c,hc,ic⟩
  ·exfalso
   have k1':sc.names.lookup x=some .local:=by rw[<-hsc];exact k1
   rcases q3 with q3|q3<;>(rw[k1'] at q3;cases q3)
  ·have e3':(bW X N' scope cl s.heap.objs.size s H fp).env.kindOf x=some .local\/(bW X N' scope cl s.heap.objs.size s H fp).env.kindOf x=some .cell\/(bW X N' scope cl s.heap.objs.size s H fp).env.kindOf x=some .free:=e3
   rcases e3' with z|z
   ·exact absurd z (iW (env:=X.env) q0)
   ·obtain⟨d,hd⟩:=CK x z
    have:d=c:=by
     rcases B.at_ x d hd with⟨q,_⟩|⟨_,_,q⟩
     ·rw[hc] at q
      exact(Option.some.inj q).symm
     ·rw[q0] at q
      cases q
    subst this
    exact .inr ⟨z,d,hd,by
     obtain⟨o,ho,hd'⟩:=ic
     exact⟨o,kp _ _ ho,hd'⟩⟩
 ·rcases B.at_ x c e with⟨q,_⟩|⟨_,q,_⟩
  ·obtain⟨v,o,ho,hd⟩:=I.cell x c q
   exact⟨v,o,kp _ _ ho,hd⟩
  ·exact⟨none,q⟩
 ·exact absurd hp (by simp[bW])
 ·show _=N'.length
  rw[<-hlen]
  simp[cI]
def mG{pins:List (Addr×Obj)}{σ σ':L2.St}{H H':Hp}{s s':Shared}{N':List Str}{cl:List (Str×Addr)}{fp:List Addr}{h':Heap}(I:Inv X pins σ H s)(hf:∀b∈fp,bU X pins H b)
 (J:Inv (bW X N' scope cl s.heap.objs.size s H fp) [] σ' H' s')(kp:∀b u,b≠s.heap.objs.size->s'.heap.get? b=some u->h'.get? b=some u):Inv X pins σ H' {s' with heap:=h'}:=by
 have ne:∀{b:Addr} {o:Obj},s.heap.get? b=some o->b≠s.heap.objs.size:=λe=>Nat.ne_of_lt (Heap.lt_size e)
 have u:=J.base
 refine I.call' (ch:=fp) J.os ⟨λb o e n hb hx=>kp b o (ne e) (u.keep b o e n hb hx),λb o e n hb hx=>?_,λb o e n hx=>u.free b o e n hx,λb o e hx=>?_,u.tups,u.oY,u.lq⟩ (yJ J.hok J.free kp) J.bare λb hb=>?_
 ·obtain⟨sl,q⟩:=u.slot b o e n hb hx
  exact⟨sl,kp b _ (ne e) q⟩
 ·obtain⟨o',q⟩:=u.there b o e hx
  exact⟨o',kp b _ (ne e) q⟩
 ·exact⟨(hf b hb).2.2.2.1,(hf b hb).2.1,(hf b hb).2.2.2.2.1,(hf b hb).2.2.2.2.2⟩
def Jf(N':List Str)(js:List Nat)(nl:Nat)(sc:Scope)(hsc:X.env.scope=sc)(hcalm:X.calm=true)
 (hi:PI X.Ŏ tg iter wi)(hg:∀cl C s H fp,PG (bW X.Ŏ N' scope cl C s H fp) tg g)(ht:∀cl C s H fp,Bd (bW X.Ŏ N' scope cl C s H fp) ifs tt)(he:∀cl C s H fp,PE (bW X.Ŏ N' scope cl C s H fp) elt te)
 (hcap:cH X.Ŏ sc scope N' js)(hlen:js.length+nl=N'.length:=by rfl)
 (hk:scope.kind=.function:=by rfl)(hcell:∀y∈scope.names,y.2=.cell->scope.names.lookup y.1=some .cell:=by decide +kernel)(hnames:∀y∈scope.names,y.2=.local->scope.names.lookup y.1=some .local:=by decide +kernel)
 (hfree:∀y∈scope.names,y.2=.free->(sc.names.lookup y.1=some .cell\/sc.names.lookup y.1=some .free):=by decide +kernel)
 (hs:∀x,foldedSetIterable iter X.env x=pure x:=by intro _;rfl) :
 PE X.Ŏ (.ListComp elt [⟨tg,iter,ifs,0⟩] scope pos) (CG js nl wi g tt te):=by
 intro pins s σ H Q I h
 obtain⟨Yc,c1,c2,c3⟩:=dh (scope:=scope) (env:=X.Ŏ.env) λy hy hf=>I.ok.has y.1 (by
  have:=hfree y hy hf
  rw[<-hsc] at this
  exact this)
 rw[eval_ListComp]
 refine wpAny_comprehension_free (use:=none) rfl hs c1 hk hnames (ő (hi pins s σ H _ I h) λv s1 h1=>ő h1 λitv s2 h2=>?_)
 obtain⟨it,fp,tn,J,H2,e,I2,T,st2,f2,q2⟩:=h2
 subst e
 refine wpAny_newObj_type (gO (λh₁ hns₁ old Tz=>?_))
 dsimp only at hns₁ old Tz ⊢
 generalize TF:s2.heap.push {cls:=.type "list",dict:=none,data:=.seq ([]:List Value).toArray}=aQ at hns₁ old Tz ⊢
 have hD:H2 s2.heap.objs.size=none:=I2.hok.fresh (Nat.le_refl _)
 have I3:Inv X.Ŏ pins σ (upd H2 s2.heap.objs.size (.lst [])) {s2 with heap:=aQ}:=by
  rw[<-TF]
  exact I2.laid (t':=s2.toks) (λb u e=>Heap.get?_push_of_some _ e) (Nat.le_refl _) ⟨Nat.zero_le _,[],0,.nil,Heap.get?_push_size _ rfl⟩
 have Jg:∀b∈fp,b<s2.heap.objs.size:=λb hb=>by
  obtain⟨o,ho,_⟩:=T.obj 0 _ st2 b hb
  exact Heap.lt_size ho
 have TJ:aQ.objs.size=s2.heap.objs.size+1:=by rw[<-TF,Heap.size_push]
 have f3:∀b∈fp,bU X.Ŏ pins (upd H2 s2.heap.objs.size (.lst [])) b:=λb hb=>by
  obtain⟨g0,g1⟩:=f2 b hb
  exact⟨by rw[ę (Nat.ne_of_lt (Jg b hb))];exact g0,g1⟩
 have B:=CJ (X:=X.Ŏ) (cl:=Yc) hcell c2 c3 (λx c e=>by
  obtain⟨v,o,ho,_⟩:=I3.cell x c e
  exact Heap.lt_size ho) Tz
 generalize cellsFrom (aQ.objs.size+1) scope.names Yc=cl at B ⊢
 obtain⟨W,⟨m0,w0⟩,turn⟩:=q2 s2.heap.objs.size hD
 have I4:=pU (X:=X.Ŏ) (N':=N') (js:=js) (nl:=nl) (sc:=sc) (scope:=scope) (cl:=cl) (fp:=fp) (h':=h₁) (tk:=s2.toks) hsc hk hcap hlen B I3 f3 (λb hb=>by show b<aQ.objs.size;rw[TJ];exact Nat.lt_succ_of_lt (Jg b hb)) hns₁ old
 have Yd:tn 0 h₁:= T.keep 0 _ _ st2 λb hb o e=>old b o (by rw[<-TF];exact Heap.get?_push_of_some _ e)
 have fr4:∀b∈fp,(upd H2 s2.heap.objs.size (.lst [])) b=none:=λb hb=>(f3 b hb).1
 have stat:∀{H':Hp},(∀b∈fp,H' b=none)->∀b∈fp,bU (bW X.Ŏ N' scope cl aQ.objs.size {s2 with heap:=aQ} (upd H2 s2.heap.objs.size (.lst [])) fp) [] H' b:=fun{H'} hn b hb=>by
  obtain⟨g0,g1,g2,g3,g4,g5⟩:=f3 b hb
  refine⟨hn b hb,Nat.ne_of_lt (by show b<aQ.objs.size;rw[TJ];exact Nat.lt_succ_of_lt (Jg b hb)),λz=>?_,.inl hb,λx c e=>by
   rcases B.at_ x c e with⟨q,_⟩|⟨q,_⟩
   ·exact g4 x c q
   ·exact Nat.ne_of_gt (Nat.lt_trans (by show b<aQ.objs.size;rw[TJ];exact Nat.lt_succ_of_lt (Jg b hb)) q),λp hp=>absurd hp (by simp[bW])⟩
  rcases List.mem_cons.mp (I3.lZ b z) with z|z
  ·exact g1 z
  ·exact g2 z
 have loop:∀s₃:Shared,s₃= {s2 with heap:=h₁}->
  codeAny (model X.prog X.w) X.A (.compLoop (.ListComp elt [⟨tg,iter,ifs,0⟩] scope pos) 0 (.ref it) (.ref s2.heap.objs.size) (compEnvC scope cl aQ.objs.size X.Ŏ.env))
   (compPost (model X.prog X.w) X.A X.Ŏ.xe none (EP X.Ŏ pins σ Q) (.ref s2.heap.objs.size) aQ.objs.size) s₃:= by
  rintro s₃ rfl
  refine iV (λn s'=>∃i σ' H',Inv (bW X.Ŏ N' scope cl aQ.objs.size {s2 with heap:=aQ} (upd H2 s2.heap.objs.size (.lst [])) fp) [] σ' H' s'/\tn i s'.heap/\(∀b∈fp,H' b=none)/\W i n σ' H') ?_ m0 ⟨0,_,_,I4,Yd,fr4,w0⟩
  rintro n s5 ⟨i,σ5,H5,I5,Ii,RW,w5⟩
  rcases turn i n σ5 H5 w5 with⟨stop,qn⟩|⟨go,N,hN,step⟩
  ·refine ő (T.done (bW X.Ŏ N' scope cl aQ.objs.size {s2 with heap:=aQ} (upd H2 s2.heap.objs.size (.lst [])) fp) rfl rfl rfl hcalm i [] s5 σ5 H5 (λ_ _=>False) I5 (stat RW) Ii stop) λr s6 ⟨hr,I6⟩=>?_
   subst hr
   obtain⟨m,hm,_⟩:=I6.loc
   refine⟨m,hm,λh' hs'=>⟨.ref s2.heap.objs.size,H5,mG I3 f3 I6 (λb u hb e=>hs'.extBut b u hb e),rfl,qn⟩⟩
  ·refine ő (T.item (bW X.Ŏ N' scope cl aQ.objs.size {s2 with heap:=aQ} (upd H2 s2.heap.objs.size (.lst [])) fp) rfl rfl rfl hcalm i [] s5 σ5 H5 (λ_ _=>False) I5 (stat RW) Ii go) λr s6 ⟨u,hr,h6⟩=>?_
   subst hr
   refine ő h6 λ_ s7 ⟨x,H7,I7,r7,y7,TQ,fr7⟩=>?_
   have I7':=I7.pinned (stat fr7) (T.obj _ _ TQ)
   have again:∀{s8:Shared} {σ8:L2.St} {H8:Hp},Inv (bW X.Ŏ N' scope cl aQ.objs.size {s2 with heap:=aQ} (upd H2 s2.heap.objs.size (.lst [])) fp) ([]++jx fp s7.heap) σ8 H8 s8->
    Inv (bW X.Ŏ N' scope cl aQ.objs.size {s2 with heap:=aQ} (upd H2 s2.heap.objs.size (.lst [])) fp) [] σ8 H8 s8/\tn (i+1) s8.heap/\∀b∈fp,H8 b=none:=fun{s8 σ8 H8} I8=>by
    refine⟨I8.cF,T.keep _ _ _ TQ λb hb o e=>(I8.pin (b,o) (List.mem_append_right _ (List.mem_append_right _ (ş hb e)))).1,λb hb=>?_⟩
    obtain⟨o,e,d⟩:=T.obj _ _ TQ b hb
    exact(I8.pin (b,o) (List.mem_append_right _ (List.mem_append_right _ (ş hb e)))).2.1
   refine ő (hg cl _ _ _ fp _ s7 σ5 H7 x u _ I7' r7 (step x H7 y7)) λ_ s8 ⟨σ8,H8,I8,q8⟩=>?_
   refine ő (ht cl _ _ _ fp _ s8 σ8 H8 _ I8 q8) λc s9 ⟨H9,I9,q9⟩=>?_
   cases c with
   |false=>
    rw[if_neg Bool.false_ne_true] at q9 ⊢
    obtain⟨m',hm',w9⟩:=hN _ _ q9
    obtain⟨a1,a2,a3⟩:=again I9
    exact⟨m',hm',i+1,σ8,H9,a1,a2,a3,w9⟩
   |true=>
    rw[if_pos rfl] at q9 ⊢
    refine ő (he cl _ _ _ fp _ s9 σ8 H9 _ I9 q9) λyv kh ⟨y,H10,I10,r10,ys,e10,l10,w10⟩=>?_
    refine ő (ń _ kh σ8 H10 (.ref s2.heap.objs.size) [y] (.ref s2.heap.objs.size) [yv] (λ_ TX=>N σ8 TX) I10 rfl (.cons r10 .nil) ⟨_,ys,y,rfl,rfl,e10,l10,w10⟩) λ_ Jh ⟨v11,TX,I11,_,w11⟩=>?_
    obtain⟨a1,a2,a3⟩:=again I11
    obtain⟨m',hm',w11⟩:=hN _ _ w11
    exact⟨m',hm',i+1,σ8,TX,a1,a2,a3,w11⟩
 exact codeAny_compStart_list (loop _ rfl) (T.self _ 0 _ _ _ Yd (loop _ rfl))
end
def Its(z:Str):It:=⟨λi _=>i<z.cps.size,λi H x H'=>H'=H/\∃c,z.cps.toList[i]?=some c/\x=.str ⟨#[c]⟩,λi _=>i=z.cps.size⟩
def Am{P:Program}{w:World}{K:PySem.W.Frag}{tg:Expr}(it:Addr)(z:Str)(t:Tok)(ty:String)
 (hW:∀A:Around,A.handled=none->Walks P w A it [it] [it] z.cps.size (SignAt z) (λi h=>h.IsStrIter it ty z t i))
 (hS:∀(A:Around) (i:Nat) (s:Shared) (Q:Value->Shared->Prop) (E:Value->Shared->Prop),s.heap.IsStrIter it ty z t i->Q (.ref it) s->wpAny (model P w) A (pyIter (.ref it)) Q E s)
 (hty:["enumerate","zip","dict_itemiterator","dict_reverseitemiterator","odict_iterator","itertools.zip_longest","itertools.pairwise"].contains ty=false):Turn P w K tg (Its z) [it] it (λi h=>h.IsStrIter it ty z t i) where
 mem:=by simp
 obj:=λi h st b hb=>by
  have e:b=it:=by simpa using hb
  subst e
  obtain⟨o,e,c,d⟩:=st
  exact⟨o,e,λv z=>by rw[d] at z;cases z⟩
 keep:=λi h h' st k=>by
  obtain⟨o,e,c,d⟩:=st
  exact⟨o,k it (by simp) o e,c,d⟩
 item:=by
  intro X hP hw hK hc i pins s σ H E I hf st hg
  subst hP hw hK
  obtain⟨f0,f1,f2,f3,f4,f5⟩:=hf it (by simp)
  refine(hW X.A (I.ok.hd hc)).item i s _ _ hg st λv h' tk hv st' kk=>?_
  obtain⟨c,u,hcu,rfl⟩:=hv
  have I1:Inv X pins σ H {s with heap:=h',toks:=tk}:=I.turned (λb o hb e=>kk b o (by simpa using hb) e) f0 f1 f3 f4 f5
  obtain⟨o,e,cl,d⟩:=id st'
  exact⟨_,rfl,ud (s:={s with heap:=h',toks:=tk}) e cl d hty ⟨.str ⟨#[c]⟩,H,I1,⟨u,rfl⟩,⟨rfl,c,by simpa using hcu,rfl⟩,st',λb hb=>(hf b hb).1⟩⟩
 done:=by
  intro X hP hw hK hc i pins s σ H E I hf st hg
  subst hP hw hK
  obtain⟨f0,f1,f2,f3,f4,f5⟩:=hf it (by simp)
  have e:i=z.cps.size:=hg
  subst e
  exact(hW X.A (I.ok.hd hc)).done s _ _ st λh' tk kk=>⟨rfl,I.turned (λb o hb e=>kk b o (by simpa using hb) e) f0 f1 f3 f4 f5⟩
 self:=hS
section
variable{X:Cx}{tg:Expr}
end
end M3
namespace M4
open PySem PySem.Spec PyProof.Rows L2 M2 M3
section
variable{X:Cx}
def Ji{bs:List Bool}:∀{us:List Value},Vals (bs.map V.bl) us->us=bs.map Value.bool:=by
 induction bs with
 |nil=>intro us r;rw[List.map_nil] at r;cases r;rfl
 |cons b bs ih=>
  intro us r
  rw[List.map_cons] at r
  cases r with
  |cons r1 r2=>
   cases r1
   rw[ih r2]
   rfl
def all_range(bs:List Bool):(List.range (bs.map Value.bool).toArray.size).all (λi=>bs.getD i false)=bs.all id:=by
 have e:(bs.map Value.bool).toArray.size=bs.length:=by simp
 rw[e,Bool.eq_iff_iff]
 simp only[List.all_eq_true,List.mem_range,id]
 constructor
 ·intro h b hb
  obtain⟨i,hi,rfl⟩:=List.mem_iff_getElem.mp hb
  have:=h i hi
  rw[List.getD_eq_getElem?_getD,List.getElem?_eq_getElem hi] at this
  exact this
 ·intro h i hi
  rw[List.getD_eq_getElem?_getD,List.getElem?_eq_getElem hi]
  exact h _ (List.getElem_mem hi)
def uq{prog:Program}{w:World}{A:Around}(bs:List Bool):TruthOf prog w A (λi v=>(bs.map Value.bool).toArray[i]?=some v) (λi=>bs.getD i false):=by
 intro i v s Q E hv hq
 have hv':bs[i]?.map Value.bool=some v:=by
  rw[<-List.getElem?_map]
  simpa using hv
 cases hb:bs[i]? with
 |none=>rw[hb] at hv';cases hv'
 |some b=>
  rw[hb] at hv'
  cases hv'
  dsimp only at hq
  rw[List.getD_eq_getElem?_getD,hb] at hq
  exact wpAny_truthy_bool hq
def TY(K:PySem.W.Frag):List V->Hp->VK->Prop:=λxs H Q=>match xs with
 | [.ref p]=>∃bs:List Bool,Ũ K H p (bs.map V.bl)/\Q (.bl (bs.all id)) H
 |_=>False
def qY(hc:X.calm=true):ŀ X (.builtin "all") (TY X.K):=by
 intro pins s σ H xs us Q I r h
 unfold TY at h
 split at h
 ·rename_i p
  obtain⟨bs,hS,q⟩:=h
  obtain⟨u,rfl,ru⟩:=vals1 r
  cases ru
  obtain⟨its,rv,pl,hz⟩:=I.list hS
  have e:=Ji rv
  subst e
  have hp:p≠s.heap.objs.size:=by
   obtain⟨o,n,e,_⟩:=pl
   exact Nat.ne_of_lt (Heap.lt_size e)
  refine call_all_walk (wpAny_pyIter_list pl.isList ?_)
  refine⟨s.heap.objs.size,_,_,_,_,_,_,rfl,Walks.list (A:=X.A.in1) (show X.A.in1.handled=none from I.ok.hd hc) s.heap.objs.size p hp (bs.map Value.bool).toArray,⟨⟨_,Heap.get?_push_size _ rfl,rfl,rfl⟩,pl.isList.at λo e=>Heap.get?_push_of_some _ e⟩,uq bs,λh' tk k=>?_⟩
  rw[all_range]
  exact⟨.bl _,H,I.kept λb o e=>k b o (by simpa using Nat.ne_of_lt (Heap.lt_size e)) (Heap.get?_push_of_some _ e),rfl,q⟩
 ·exact h.elim
end
abbrev S(l:List Nat):Str:=⟨l.toArray⟩
def Zb0(z:Str):S z.cps.toList=z:=by
 cases z
 simp
def Ye(l:List Nat):(S l).length=l.length:=by simp[Str.length]
def ur(z:Str):z.cps.toList.length=z.length:=by simp[Str.length]
def qZ(xs:List Nat)(lo hi:Option Int):List Nat:=(xs.drop (HT.gC xs.length 0 lo)).take (HT.gC xs.length xs.length hi-HT.gC xs.length 0 lo)
def idx_eq(z:Str)(lo hi:Option Int):Builtin.Str.strSliceIndices lo hi 1 z.length=(List.range (HT.gC z.length z.length hi-HT.gC z.length 0 lo)).map (HT.gC z.length 0 lo + ·):=by
 have hc:∀(o:Option Int) (d:Nat),d<=z.length->(match o with|none=>((d:Nat):Int)|some i=>max 0 (min (if i<0 then i+(z.length:Int) else i) (z.length:Int)))=((HT.gC z.length d o:Nat):Int):=by
  intro o d hd
  cases o with
  |none=>rfl
  |some i=>
   show max 0 (min (if i<0 then i+(z.length:Int) else i) (z.length:Int))=((if i<0 then(i+(z.length:Int)).toNat else min i.toNat z.length:Nat):Int)
   by_cases h:i<0
   ·rw[if_pos h,if_pos h];omega
   ·rw[if_neg h,if_neg h];omega
 have e:Builtin.Str.strSliceIndices lo hi 1 z.length=sliceRange ((HT.gC z.length 0 lo:Nat):Int) ((HT.gC z.length z.length hi:Nat):Int) 1:=by
  have h1:=hc lo 0 (Nat.zero_le _)
  have h2:=hc hi z.length (Nat.le_refl _)
  unfold Builtin.Str.strSliceIndices
  simp only[show(1:Int)>0 by decide,if_true]
  rw[<-h1,<-h2]
  cases lo<;>cases hi<;>rfl
 rw[e,sliceRange_one]
def Jj(z:Str)(lo hi:Option Int):(Builtin.Str.strSliceIndices lo hi 1 z.length).filterMap (z.cps[·]?)=qZ z.cps.toList lo hi:=by
 rw[idx_eq,pick_run]
 unfold qZ
 rw[ur]
def Jk(xs:List Nat)(lo hi:Option Int):(qZ xs lo hi).length<=xs.length:=by
 unfold qZ
 rw[List.length_take,List.length_drop]
 omega
def CN{z:Str}{t:Tok}{l u:Option (Int×Tok)}{Q:Value->Shared->Prop}{s:Shared}(hz:z.length<=sizeLine)
 (h:∀t' k,Q (.str (S (qZ z.cps.toList (l.map (·.1)) (u.map (·.1)))) t') {s with toks:=k}):(sliceMade z t l u none).post Q s:=by
 have e:=Jj z (l.map (·.1)) (u.map (·.1))
 unfold sliceMade
 have ep:slicePicked z l u none=Builtin.Str.strSliceIndices (l.map (·.1)) (u.map (·.1)) 1 z.length:=rfl
 rw[ep]
 split
 ·rename_i hc
  have hl:(Builtin.Str.strSliceIndices (l.map (·.1)) (u.map (·.1)) 1 z.length).length=z.length:=by simpa using hc
  have hz2:qZ z.cps.toList (l.map (·.1)) (u.map (·.1))=z.cps.toList:=by
   rw[idx_eq,List.length_map,List.length_range] at hl
   have hi:=HT.Ca z.length 0 (Nat.zero_le _) (l.map (·.1))
   have hj:=HT.Ca z.length z.length (Nat.le_refl _) (u.map (·.1))
   unfold qZ
   rw[ur]
   have hl2:=ur z
   have a0:HT.gC z.length 0 (l.map (·.1))=0\/z.length=0:=by omega
   rcases a0 with a0|a0
   ·rw[a0] at hl ⊢
    rw[List.drop_zero]
    exact List.take_of_length_le (by omega)
   ·have:z.cps.toList=[]:=List.eq_nil_of_length_eq_zero (by omega)
    rw[this]
    simp
  have:=h t s.toks
  rw[hz2,Zb0] at this
  exact this
 ·rw[e]
  exact⟨by rw[Ye];have:=Jk z.cps.toList (l.map (·.1)) (u.map (·.1));rw[ur] at this;omega,h _ _⟩
section
variable{X:Cx}
def Zb1:V->Option Int->Option Int->Hp->VK->Prop:=λx lo hi H Q=>match x with
 | .str z=>z.length<=sizeLine/\Q (.str (S (qZ z.cps.toList lo hi))) H
 |_=>False
def Jl:yH X Zb1:=by
 intro pins s σ H x v vl vu lo hi sl Q I rx hs pl pu h
 cases x with
 |str z=>
  obtain⟨t,rfl⟩:=rx
  obtain⟨hz,q⟩:=h
  obtain⟨l,el,el2⟩:∃l:Option (Int×Tok),partValue l=vl/\l.map (·.1)=lo:=by
   cases pl with
   |none=>exact⟨none,rfl,rfl⟩
   |int i t=>exact⟨some (i,t),rfl,rfl⟩
  obtain⟨u,eu,eu2⟩:∃u:Option (Int×Tok),partValue u=vu/\u.map (·.1)=hi:=by
   cases pu with
   |none=>exact⟨none,rfl,rfl⟩
   |int i t=>exact⟨some (i,t),rfl,rfl⟩
  subst el el2 eu eu2
  exact⟨"str",_,F.slot_str_getitem.lookup,typeIs_str s z t,wpAny_getItem_str_slice (l:=l) (u:=u) (st:=none) hs rfl (CN hz λt' k=>⟨.str _,H,I.tok _,⟨_,rfl⟩,q⟩)⟩
 |_=>exact h.elim
def Zb2(K:PySem.W.Frag):V->Option Int->Option Int->Hp->VK->Prop:=λx lo hi H Q=>match x with
 | .ref a=>∃xs,Ũ K H a xs/\∀p,H p=none->Q (.ref p) (upd H p (.lst (ug xs lo hi)))
 | .str z=>z.length<=sizeLine/\Q (.str (S (qZ z.cps.toList lo hi))) H
 |_=>False
def slm:yH X (Zb2 X.K):=yH.wk (Cw.or Jl) λx lo hi H Q h=>by
 cases x with
 |ref a=>exact .inl h
 |str z=>exact .inr h
 |_=>exact h.elim
def mul_eq(z:Str){n:Int}(h:0<=n):Txt.mul z n=S (List.replicate n.toNat z.cps.toList).flatten:=by
 have key:∀(k:Nat) (acc:Array Nat),((List.replicate k z.cps).foldl (·++ ·) acc).toList=acc.toList++(List.replicate k z.cps.toList).flatten:=by
  intro k
  induction k with
  |zero=>intro acc;simp
  |succ k ih=>
   intro acc
   rw[List.replicate_succ,List.foldl_cons,ih,List.replicate_succ,List.flatten_cons]
   simp
 unfold Txt.mul
 refine PyProof.Rows.ext_toList ?_
 by_cases h1:n<1
 ·rw[if_pos h1]
  have:n.toNat=0:=by omega
  rw[this]
  simp[Str.empty]
 ·rw[if_neg h1]
  split
  ·rename_i hc
   rw[Bool.or_eq_true] at hc
   rcases hc with hc|hc
   ·have:n=1:=by simpa using hc
    subst this
    simp
   ·have h0:z.cps.toList=[]:=List.eq_nil_of_length_eq_zero (by rw[ur];simpa using hc)
    rw[h0]
    simp
  ·rw[key]
   simp
def CP(z:Str)(n:Int):Prop:=0<=n/\n<=1000/\z.length<=1000
def CP.ok{z:Str}{n:Int}(h:CP z n):MulOk z n:=by
 obtain⟨h0,h1,h2⟩:=h
 refine⟨?_,λhn _=>?_,λhn _=>?_⟩
 ·rw[decide_eq_false (by omega),decide_eq_false (by omega)]
  rfl
 ·have:(9000000000000000:Int)≤(2 ^ 63-1) / n:=by
   rw[Int.le_ediv_iff_mul_le (by omega)]
   omega
  omega
 ·have:z.length*n.toNat<=1000*1000:=Nat.mul_le_mul h2 (by omega)
  unfold Builtin.Str.tooLong
  simp
  rw[sizeLine_eq]
  omega
def CQ:R2:=λx y H Q=>match x,y with
 | .int i,.int j=>pR i j/\Q (.int (i*j)) H
 | .str z,.int n=>CP z n/\Q (.str (S (List.replicate n.toNat z.cps.toList).flatten)) H
 |_,_=>False
def Jm:ũ X (binaryOp .Mult) CQ:=by
 intro pins s σ H x y v u Q I rx ry h
 unfold CQ at h
 split at h
 ·exact Tq pins s σ H _ _ v u Q I rx ry h
 ·obtain⟨t,rfl⟩:=rx
  obtain⟨t',rfl⟩:=ry
  exact SB.mul h.1.ok λt' k=>⟨.str _,H,I.tok _,⟨_,by rw[mul_eq _ h.1.1]⟩,h.2⟩
 ·exact h.elim
end
end M4
namespace M5
open PySem PySem.Spec PyProof.Rows L2 M2 M3
def wA{p2:Pos}{c:Value}{a b:Int}{cv:Value}(l:List Value)(h:TriplesOk l)(e:codeAmong p2 (l ++ [rawInt a,rawInt b,c])=some cv):codeAmong p2 l=some cv\/cv=c:=by
 fun_induction TriplesOk l with
 |case1=>
  right
  simp only[List.nil_append,codeAmong,rawInt] at e
  split at e
  ·exact(Option.some.inj e).symm
  ·cases e
 |case2 a' t b' u x rest ih=>
  simp only[List.cons_append,codeAmong] at e ⊢
  split at e
  ·rename_i hc;rw[if_pos hc];exact .inl e
  ·rename_i hc;rw[if_neg hc];exact ih h e
 |case3 l h1 h2=>exact h.elim
section
variable{X:Cx}{pins:List (Addr×Obj)}{σ:L2.St}{H:Hp}{s:Shared}{x:Str}{c P:Addr}{params:Arguments}{body:Expr}{scope:Scope}{pos:Pos}{cl:List (Str×Addr)}
def CT{Q:Value->Shared->Prop}{E:Value->Shared->Prop}(I:Inv X pins σ H s)(hx:x∈lams)(ht:PySem.W.tabIn X.K x=some (c,P))(hcode:X.env.code=.ref c)(hq:X.env.qual=x ++ ".<locals>.")(hdef:defaultsOf params X.env=([],[]))(hcl:closureFor scope X.env=pure cl)
 (h:∀f c' pm ctv H' s',Inv X pins σ H' s'->(∀a,H a=none->H' a=none\/a=c')->Same H H'->H' c'=some (.zV (aZ x))->s'.heap.get? f=some (PySem.W.kla_obj "<lambda>" (aZ x) params body scope cl pm c' ctv)->bU X pins H' f->Q (.ref f) s') :
 wpAny (model X.prog X.w) X.A (eval (.Lambda params body scope pos) X.env) Q E s:=by
 obtain⟨C,hT,hB⟩:=I.tb x c P hx ht
 obtain⟨ps,hP,tr,ent⟩:=I.hok P _ hT
 have hg:=I.ok.mod.glob.keeps I.bk
 have hgP:mainGlobals≠P:=λq=>by
  obtain⟨o,es,ep,e,hd,_⟩:=hg
  rw[q,hP] at e;cases e;cases hd
 have hB':s.heap.BuiltinsAt X.mg P:=by
  obtain⟨bm,ob,b1,b2,b3,b4,b5,b6⟩:=hB
  exact⟨bm,ob,b1,b2,b3,b4,I.bk _ _ b5,b6⟩
 refine PySem.W.kla_eval hdef ?_
 rw[hq]
 cases hf:codeAmong pos ps.toList with
 |none=>
  refine PySem.W.kla_makeFunction (mg:=X.mg) hcl I.ok.glob hg hcode (C.keeps I.bk) hP tr hf hgP hB' λc' ctv h' tk hxb hge hlt hrec htb=>?_
  have hc':H c'=none:=I.hok.fresh hge
  have hcP:c'≠P:=λz=>by rw[z,hT] at hc';cases hc'
  have neP:∀b,H b=none->b≠P:=λb n z=>by rw[z,hT] at n;cases n
  have old:∀b o,b≠P->s.heap.get? b=some o->(h'.push (PySem.W.kla_obj "<lambda>" (aZ x) params body scope cl ((X.mg "__name__").getD .none) c' ctv)).get? b=some o:=λb o hb e=>Heap.get?_push_of_some _ (hxb b o hb e)
  have u:Un X.fs [] H (upd H c' (.zV (aZ x))) s.heap (h'.push (PySem.W.kla_obj "<lambda>" (aZ x) params body scope cl ((X.mg "__name__").getD .none) c' ctv)):=by
   refine⟨λb o e n _ _=>old b o (neP b n) e,λb o e n _ _=>⟨o.slots,old b o (neP b n) e⟩,λb o e n _=>?_,λb o e _=>?_,λb xs e=>by rw[ę (Ģ e hc')];exact e,λb o u e=>by rw[ę (Ģ e hc')];exact e,λb q e=>by rw[ę (Ģ e hc')];exact e⟩
   ·rw[ę (Nat.ne_of_lt (Nat.lt_of_lt_of_le (Heap.lt_size e) hge))];exact n
   ·by_cases hb:b=P
    ·exact⟨_,by rw[hb];exact Heap.get?_push_of_some _ htb⟩
    ·exact⟨o,old b o hb e⟩
  have hok:iM X.prog X.w (upd H c' (.zV (aZ x))) (h'.push (PySem.W.kla_obj "<lambda>" (aZ x) params body scope cl ((X.mg "__name__").getD .none) c' ctv)):=λb v e=>by
   by_cases hb:b=c'
   ·subst hb
    rw[Ğ] at e;cases e
    obtain⟨c2,o,vs,t,z,e1,r⟩:=hrec
    exact⟨c2,o,vs,t,z,Heap.get?_push_of_some _ e1,r⟩
   ·rw[ę hb] at e
    by_cases hbP:b=P
    ·subst hbP
     rw[hT] at e;cases e
     refine⟨_,Heap.get?_push_of_some _ htb,?_,λp2 cv z=>?_⟩
     ·have:=TriplesOk_snoc pos.line pos.col (.ref c') ps.toList tr
      simpa using this
     ·rcases wA (a:=pos.line) (b:=pos.col) (c:=.ref c') ps.toList tr (by simpa using z) with z|z
      ·obtain⟨d,z1,z2⟩:=ent p2 cv z
       exact⟨d,z1,by rw[ę (Ģ z2 hc')];exact z2⟩
      ·exact⟨c',z,Ğ⟩
    ·exact(I.hok b v e).stay (fun b2 o hb2 q=>old b2 o (by
      rcases hb2 with z|z
      ·rw[z];exact hbP
      ·intro z2;rw[z2,hT] at z;cases z) q) (λd q=>by rw[ę (Ģ q hc')];exact q) (λd xs q=>by rw[ę (Ģ q hc')];exact q) λd xs q=>by rw[ę (Ģ q hc')];exact q
  have hfz:s.heap.objs.size<=h'.objs.size:=Nat.le_of_lt (Nat.lt_of_le_of_lt hge hlt)
  refine h h'.objs.size c' _ ctv (upd H c' (.zV (aZ x))) _ (I.un (t':=tk) u hok) (λa n=>?_) (λb v e=>by rw[ę (Ģ e hc')];exact e) Ğ (Heap.get?_push_size _ rfl) (I.qO hfz (by rw[ę (Nat.ne_of_gt hlt)];exact I.hok.fresh hfz))
  by_cases ha:a=c'
  ·exact .inr ha
  ·exact .inl (by rw[ę ha];exact n)
 |some cv=>
  obtain⟨c',rfl,hcc⟩:=ent pos cv hf
  refine PySem.W.kla_makeFunctionHit (mg:=X.mg) hcl I.ok.glob hg hcode (C.keeps I.bk) hP tr hf hB' λctv h' tk hk hsz=>?_
  exact h h'.objs.size c' _ ctv H _ (I.kept (t':=tk) λb o e=>Heap.get?_push_of_some _ (hk b o e)) (λ_ n=>.inl n) (Same.refl H) hcc (Heap.get?_push_size _ rfl) (I.qO hsz (I.hok.fresh hsz))
end
def Bf(X:Cx)(N':List Str)(qual:Str)(scope:Scope)(cl:List (Str×Addr))(f:Addr)(c':Addr)(A:Around)(s:Shared)(H:Hp):Cx where
 prog:=X.prog
 w:=X.w
 K:=X.K
 mg:=X.mg
 base:=X.base
 A:=A.deeper (PySem.W.envX qual scope s.heap.objs.size f (.ref c') cl)
 N:=N'
 s₀:= s
 H₀:= H
 env:=PySem.W.envX qual scope s.heap.objs.size f (.ref c') cl
 outer:=X.stack
 stack:=PySem.W.envX qual scope s.heap.objs.size f (.ref c') cl::X.stack
 ex:=[]
 fn:=λ_=>false
 calm:=true
 pn:=[]
 xe:=λ_ _=>False
def cJ(js:List Nat)(σ:L2.St)(v:V):L2.St:=js.map (λj:Nat=>(σ[j]?).getD none) ++ [some v]
section
variable{X:Cx}{pins:List (Addr×Obj)}{σ:L2.St}{H:Hp}{s:Shared}{params:Arguments}{body:Expr}{scope sc:Scope}{cl:List (Str×Addr)}{N0:List Str}{js:List Nat}{qual px:Str}{f c':Addr}{A:Around}
def Jo(hsc:X.env.scope=sc)(hk:scope.kind=.function)(hcap:cH X sc scope N0 js)(hlen:js.length=N0.length)(hcell:∀y∈scope.names,y.2≠ .cell)(hpx:scope.names.lookup px=some .local)
 (hA:A.frames=some X.stack)(hhd:A.handled=none)(c2:∀x c,cl.lookup x=some c->X.env.cells.lookup x=some c)(c3:∀y∈scope.names,y.2=.free->∃c,cl.lookup y.1=some c)
 (I:Inv X pins σ H s){v:V}{u:Value}(r:RelV v u){h':Heap}{tk:Nat}(hn:h'.Ns s.heap.objs.size (λy=>[(px,u)].reverse.lookup y))(kp:∀b o,s.heap.get? b=some o->h'.get? b=some o) :
 Inv (Bf X (N0 ++ [px]) qual scope cl f c' A s H) [] (cJ js σ v) H {s with heap:=h',toks:=tk}:=by
 have has:∀y,(scope.names.lookup y=some .cell\/scope.names.lookup y=some .free)->∃c,cl.lookup y=some c:=λy hy=>by
  rcases hy with hy|hy
  ·exact absurd rfl (hcell _ (PySem.mem_of_lookup hy))
  ·exact c3 _ (PySem.mem_of_lookup hy) rfl
 refine⟨⟨I.ok.mod,hk,rfl,rfl,Nat.le_refl _,λx y c e1 e2=>I.ok.inj x y c (c2 x c e1) (c2 y c e2),has,(λ_ _ z _=>absurd (show false=true from z) Bool.false_ne_true),λ_=>hhd,Around.frames_deeper hA,.inr ⟨rfl,rfl⟩,λb hb=>absurd hb (by simp[Bf]),
  I.bs,Nat.le_trans I.ok.Hz I.sz,λb _ _ hb=>absurd hb (by simp[Bf]),λb hb=>absurd hb (by simp[Bf]),I.stack,I.qM,I.tb⟩,rfl,I.bare,Un.kept kp,⟨_,hn,λi x w e1 e2 e3=>?_⟩,λx c e=>?_,I.hok.fresh (Nat.le_refl _),λx c e=>I.eV x c (c2 x c e),λp hp=>absurd hp (by simp[Bf]),I.hok.kept kp,?_⟩
 ·by_cases hi:i<js.length
  ·have e1':N0[i]?=some x:=by
    have:=e1
    rwa [show(Bf X (N0 ++ [px]) qual scope cl f c' A s H).N=N0 ++ [px] from rfl,List.getElem?_append_left (by omega)] at this
   have e2':(cI js 0 σ)[i]?=some (some w):=by
    unfold cI
    unfold cJ at e2
    rw[List.getElem?_append_left (by simpa using hi)] at e2 ⊢
    exact e2
   obtain⟨j,q1,q2,q0,q3⟩:=jD hcap e1' e2'
   obtain⟨m,hm,hl⟩:=I.loc
   have Tw:yE X.env.scope x:=by
    rw[hsc]
    rcases q3 with q3|q3
    ·exact .inr (.inl q3)
    ·exact .inr (.inr q3)
   obtain⟨u',ru,lk⟩:=hl j x w q1 q2 Tw
   refine⟨u',ru,?_⟩
   rcases lk with⟨k1,_⟩|⟨k1,c,hc,ic⟩
   ·exfalso
    have k1':sc.names.lookup x=some .local:=by rw[<-hsc];exact k1
    rcases q3 with q3|q3<;>(rw[k1'] at q3;cases q3)
   ·obtain⟨d,hd⟩:=has x (.inr q0)
    have:d=c:=by
     have:=c2 x d hd
     rw[hc] at this
     exact(Option.some.inj this).symm
    subst this
    exact .inr ⟨.inr q0,d,hd,by
     obtain⟨o,ho,hd'⟩:=ic
     exact⟨o,kp _ _ ho,hd'⟩⟩
  ·have hi2:i=js.length:=by
    have l2:=(List.getElem?_eq_some_iff.mp e2).1
    unfold cJ at l2
    simp at l2
    omega
   subst hi2
   unfold cJ at e2
   rw[List.getElem?_append_right (by simp)] at e2
   have ev:v=w:=by simpa using e2
   subst ev
   have ex:px=x:=by
    have:=e1
    rw[show(Bf X (N0 ++ [px]) qual scope cl f c' A s H).N=N0 ++ [px] from rfl,List.getElem?_append_right (by omega),hlen] at this
    simpa using this
   subst ex
   exact⟨u,r,.inl ⟨hpx,by simp[List.lookup]⟩⟩
 ·obtain⟨w,o,ho,hd⟩:=I.cell x c (c2 x c e)
  exact⟨w,o,kp _ _ ho,hd⟩
 ·show _=(N0 ++ [px]).length
  unfold cJ
  simp[hlen]
def CV{te:TE}{pm ctv:Value}(hsc:X.env.scope=sc)(hk:scope.kind=.function)(hcap:cH X sc scope N0 js)(hlen:js.length=N0.length)(hcell:∀y∈scope.names,y.2≠ .cell)(hpx:scope.names.lookup px=some .local)(hco:scope.isCoroutine=false)(hgen:scope.isGenerator=false)
 (hA:A.frames=some X.stack)(hhd:A.handled=none)(T_:A.depth<recursionLimit)(c2:∀x c,cl.lookup x=some c->X.env.cells.lookup x=some c)(c3:∀y∈scope.names,y.2=.free->∃c,cl.lookup y.1=some c)
 (hbind:∀u:Value,bindArgs (PySem.W.kla_fn "<lambda>" qual params body scope cl pm (.ref c') ctv) ⟨[u],[]⟩=pure [(px,u)])
 (he:∀s H,PE (Bf X (N0 ++ [px]) qual scope cl f c' A s H) body te)
 (I:Inv X pins σ H s)(hf:s.heap.get? f=some (PySem.W.kla_obj "<lambda>" qual params body scope cl pm c' ctv))(hc:H c'=some (.zV qual)){v:V}{u:Value}(r:RelV v u){Q:VK}{E:Value->Shared->Prop}(h:te (cJ js σ v) H Q) :
 wpAny (model X.prog X.w) A (call (.ref f) [u]) (EP X pins σ Q) E s:=by
 refine wpAny_call (PySem.W.kla_callFunE T_ hf rfl hco hgen rfl (I.hok c' _ hc) ?_)
 rw[hbind u]
 refine wpAny_pure (wpAny_newFunctionEnv hcell (λy hy=>by rw[List.mem_singleton.mp hy];exact hpx) (λh₁ hns hsb=>⟨(I.nolimit).fresh _ hsb,?_⟩) hk)
 have kp:∀b o,s.heap.get? b=some o->h₁.get? b=some o:=λb o e=>hsb.extBut b o (Nat.ne_of_lt (Heap.lt_size e)) (Heap.get?_push_of_some _ e)
 have J:=Jo (qual:=qual) (f:=f) (c':=c') (tk:=s.toks + [(px,u)].length) hsc hk hcap hlen hcell hpx hA hhd c2 c3 I r hns kp
 show codeAny _ _ (.expr body (PySem.W.envX qual scope s.heap.objs.size f (.ref c') cl)) _ _
 refine PySem.W.kla_codeExpr (wpAny_mono (he s H [] _ _ H Q J h) (λy s' hy=>?_) λ_ _ z=>z.elim)
 obtain⟨w,H',J',XF,q⟩:=hy
 exact I.after ⟨w,H',J'.os,J'.bare,J'.base,J'.hok,XF,q⟩
end
section
variable{X:Cx}{pins:List (Addr×Obj)}{σ:L2.St}{H:Hp}{s:Shared}
def pW{fp:List Addr}{t:Sem Value}{A:Around}{Qv:V->Hp->Prop}{R:Value->Shared->Prop}(I:Inv X pins σ H s)(hf:∀b∈fp,bU X pins H b)(ho:∀b∈fp,∃o,s.heap.get? b=some o/\∀v,o.data≠ .cell v)
 (run:∀gJ,Inv X gJ σ H s->wpAny (model X.prog X.w) A t (EP X gJ σ Qv) (λ_ _=>False) s)
 (k:∀y u H2 s2,Inv X pins σ H2 s2->RelV y u->Qv y H2->(∀b∈fp,bU X pins H2 b)->(∀b∈fp,∀o,s.heap.get? b=some o->s2.heap.get? b=some o)->R u s2):wpAny (model X.prog X.w) A t R (λ_ _=>False) s:=by
 refine wpAny_mono (run _ (I.pinned hf ho)) (λu s2 ⟨y,H2,I2,r,q⟩=>?_) λ_ _ z=>z
 refine k y u H2 s2 I2.cF r q (λb hb=>?_) λb hb o e=>(I2.pin (b,o) (List.mem_append_right _ (List.mem_append_right _ (ş hb e)))).1
 obtain⟨o,e,_⟩:=ho b hb
 exact⟨(I2.pin (b,o) (List.mem_append_right _ (List.mem_append_right _ (ş hb e)))).2.1,(hf b hb).2⟩
def Ű{h':Heap}{t':Nat}{b:Addr}(I:Inv X pins σ H s)(hf:bU X pins H b)(k:∀c o,c≠b->s.heap.get? c=some o->h'.get? c=some o):Inv X pins σ H {s with heap:=h',toks:=t'}:=
 let ⟨f0,f1,_,f3,f4,f5⟩:=hf
 I.turned k f0 f1 f3 f4 f5
variable{R:Result->Shared->Prop}{f l S It:Addr}{oF:Obj}{xs:List V}(ks:Nat->Int)(W:Nat->Hp->Prop)
def yK{h:Heap}{l It:Addr}{its:Array Value}{i:Nat}(hl:h.IsList l its)(hit:h.IsListIter It l i):l≠It:=λz=>by
 obtain⟨o,e,c,_⟩:=hl
 obtain⟨o',e',c',_⟩:=hit
 rw[z,e'] at e
 cases e
 rw[c] at c'
 exact absurd (Value.type.inj c') (by decide)
def wB{h:Heap}{S It l:Addr}{vs:Array Value}{n i:Nat}(hS:h.get? S=some (seqObj "list" vs n))(hit:h.IsListIter It l i):S≠It:=λz=>by
 obtain⟨o',e',c',_⟩:=hit
 rw[z,e'] at hS
 cases hS
 exact absurd (Value.type.inj c') (by decide)
end
section
variable{X:Cx}{x px:Str}{c P:Addr}{params:Arguments}{body e:Expr}{scope:Scope}{p pos Ao kpos:Pos}{ta:TA}{te:TE}
end
end M5
namespace P
def nst:PySem.Expr->Bool
 | .Starred .. =>false
 |_=>true
def aM{e:PySem.Expr}{es:List PySem.Expr}{env:PySem.Env}(h:nst e=true):PySem.starEach (e::es) env=(false,PySem.eval e env)::PySem.starEach es env:=by
 cases e<;>first|rfl|cases h
open PySem PySem.Spec PyProof.Rows L2 M2
structure KK where
 K:PySem.W.Frag
 cm:String->Addr
abbrev kk(X:Cx)(cm:String->Addr):KK:=⟨X.K,cm⟩
inductive PV where
 |non|bl (b:Bool)|int (i:Int)|str (x:Str)|tup (xs:List PV)|lst (xs:List PV)
 |ins (C:String) (ns:List Str) (xs:List PV)|xc (C:String) (ns:List Str) (xs:List PV)|ty (n:String)|cls (C:String)
def xo(a C:Addr)(d:Option Addr):HO:=.ext λh=>∃o vs,h.get? a=some o/\o.cls=.ref C/\o.dict=d/\o.data=.fields vs
def uw(F:Hp)(d:Option Addr)(fs:List (Str×V)):Prop:=(d=none/\fs=[])\/∃a,d=some a/\F a=some (.xd fs)
mutual
def Rep(K:KK)(F:Hp):PV->V->Prop
 | .non,v=>v=.non
 | .bl b,v=>v=.bl b
 | .int i,v=>v=.int i
 | .str x,v=>v=.str x
 | .tup ps,v=>∃a xs,v=.ref a/\cY K.K F a xs/\ĕ K F ps xs
 | .lst ps,v=>∃a xs,v=.ref a/\Ũ K.K F a xs/\ĕ K F ps xs
 | .ins C ns ps,v=>∃a dx fs,v=.ref a/\F a=some (.ins (K.cm C) dx fs)/\fs.map (·.1)=ns/\ĕ K F ps (fs.map (·.2))
 | .xc C ns ps,v=>∃a d fs,v=.ref a/\F a=some (xo a (K.cm C) d)/\uw F d fs/\fs.map (·.1)=ns/\ĕ K F ps (fs.map (·.2))
 | .ty n,v=>v=.ty n
 | .cls C,v=>v=.ref (K.cm C)
def ĕ(K:KK)(F:Hp):List PV->List V->Prop
 | [],xs=>xs=[]
 |p::ps,xs=>∃x r,xs=x::r/\Rep K F p x/\ĕ K F ps r
end
section
variable{K:KK}{F F' H H':Hp}
def uw.same{d:Option Addr}{fs:List (Str×V)}(e:Same F F')(h:uw F d fs):uw F' d fs:=by
 rcases h with h|⟨a,h1,h2⟩
 ·exact .inl h
 ·exact .inr ⟨a,h1,e _ _ h2⟩
mutual
theorem Rep.same(e:Same F F'):∀(p:PV) (v:V),Rep K F p v->Rep K F' p v
 | .non,_,h=>by unfold Rep at h ⊢;exact h
 | .bl _,_,h=>by unfold Rep at h ⊢;exact h
 | .int _,_,h=>by unfold Rep at h ⊢;exact h
 | .str _,_,h=>by unfold Rep at h ⊢;exact h
 | .ty _,_,h=>by unfold Rep at h ⊢;exact h
 | .cls _,_,h=>by unfold Rep at h ⊢;exact h
 | .tup ps,_,h=>by
   unfold Rep at h ⊢
   obtain⟨a,xs,h1,h2,h3⟩:=h
   exact⟨a,xs,h1,Same.tup e h2,ĕ.same e ps xs h3⟩
 | .lst ps,_,h=>by
   unfold Rep at h ⊢
   obtain⟨a,xs,h1,h2,h3⟩:=h
   exact⟨a,xs,h1,e.seq h2,ĕ.same e ps xs h3⟩
 | .ins C ns ps,_,h=>by
   unfold Rep at h ⊢
   obtain⟨a,dx,fs,h1,h2,h3,h4⟩:=h
   exact⟨a,dx,fs,h1,e _ _ h2,h3,ĕ.same e ps _ h4⟩
 | .xc C ns ps,_,h=>by
   unfold Rep at h ⊢
   obtain⟨a,d,fs,h1,h2,hd,h3,h4⟩:=h
   exact⟨a,d,fs,h1,e _ _ h2,hd.same e,h3,ĕ.same e ps _ h4⟩
theorem ĕ.same(e:Same F F'):∀(ps:List PV) (xs:List V),ĕ K F ps xs->ĕ K F' ps xs
 | [],_,h=>by unfold ĕ at h ⊢;exact h
 |p::ps,_,h=>by
  unfold ĕ at h ⊢
  obtain⟨x,r,h1,h2,h3⟩:=h
  exact⟨x,r,h1,Rep.same e p x h2,ĕ.same e ps r h3⟩
end
theorem ĕ.pr:∀{ps:List PV} {vs:List V},ĕ K F ps vs->Paired (Rep K F) ps vs
 | [],_,h=>by unfold ĕ at h;subst h;exact .nil
 |p::ps,_,h=>by
  unfold ĕ at h
  obtain⟨x,r,rfl,h2,h3⟩:=h
  exact .cons h2 (ĕ.pr h3)
theorem ĕ.of:∀{ps:List PV} {vs:List V},Paired (Rep K F) ps vs->ĕ K F ps vs
 | [],_,.nil=>by unfold ĕ;rfl
 |p::ps,_,.cons h t=>by unfold ĕ;exact⟨_,_,rfl,h,ĕ.of t⟩
theorem ĕ.nil:ĕ K F [] []:=ĕ.of .nil
theorem ĕ.cons{p:PV}{v:V}{ps:List PV}{vs:List V}(h:Rep K F p v)(t:ĕ K F ps vs):ĕ K F (p::ps) (v::vs):=ĕ.of (.cons h t.pr)
theorem ĕ.length{ps:List PV}{vs:List V}(h:ĕ K F ps vs):ps.length=vs.length:=Paired.length h.pr
theorem bf{α β:Type}{G:α->β->Prop}:∀{l:List α} {m:List β} {i:Nat} {x:α},Paired G l m->l[i]?=some x->∃y,m[i]?=some y/\G x y
 |_,_,_,_,.nil,e=>by simp at e
 |_,_,0,_,.cons r _,e=>by simp at e;subst e;exact⟨_,rfl,r⟩
 |_,_,i+1,x,.cons _ t,e=>by
  obtain⟨y,h1,h2⟩:=bf (i:=i) (x:=x) t (by simpa using e)
  exact⟨y,by simpa using h1,h2⟩
theorem wC{α β:Type}{G:α->β->Prop}:∀{l l2:List α} {m m2:List β},Paired G l m->Paired G l2 m2->Paired G (l++l2) (m++m2)
 |_,_,_,_,.nil,t=>t
 |_,_,_,_,.cons r s,t=>.cons r (wC s t)
theorem yL{α β:Type}{G:α->β->Prop}:∀{l:List α} {m:List β} (n:Nat),Paired G l m->Paired G (l.take n) (m.take n)
 |_,_,0,_=>.nil
 |_,_,_+1,.nil=>.nil
 |_,_,n+1,.cons r t=>.cons r (yL n t)
theorem yM{α β:Type}{G:α->β->Prop}:∀{l:List α} {m:List β} (n:Nat),Paired G l m->Paired G (l.drop n) (m.drop n)
 |_,_,0,h=>h
 |_,_,_+1,.nil=>.nil
 |_,_,n+1,.cons _ t=>yM n t
theorem CW{α β:Type}{G:α->β->Prop}:∀{l:List α} {m:List β},Paired G l m->Paired G l.reverse m.reverse
 |_,_,.nil=>.nil
 |_,_,.cons r t=>by
  rw[List.reverse_cons,List.reverse_cons]
  exact wC (CW t) (.cons r .nil)
def ĕ.append{ps qs:List PV}{vs us:List V}(h:ĕ K F ps vs)(t:ĕ K F qs us):ĕ K F (ps++qs) (vs++us):=ĕ.of (wC h.pr t.pr)
end
inductive Slot where
 |no|sh (p:PV)|ow (ps:List PV)|bw (ps:List PV)|rc (C:String) (ns:List Str) (ps:List PV)|ot (ps qs rs:List PV)|ol (Bg:List (List PV))
abbrev ĺ:=List Slot
def Slot.own:Slot->Bool
 | .ow _=>true
 | .rc _ _ _=>true
 | .ot _ _ _=>true
 | .ol _=>true
 |_=>false
structure Ctx where
 B:Hp
 F₀:Hp
 /-- what is lent here:read,never changed,never kept -/
 L:Hp
 /-- which objects may be held as one's own:address,dict,class -/
 S:Addr->Addr->String->Prop
def ř(K:KK)(c:Ctx)(F H:Hp)(o:Option V):Slot->Prop
 | .no=>True
 | .sh p=>∃v,o=some v/\Rep K F p v
 | .ow ps=>∃a vs,o=some (.ref a)/\H a=some (.lst vs)/\F a=none/\c.B a=none/\ĕ K F ps vs
 | .bw ps=>∃a vs,o=some (.ref a)/\c.L a=some (.lst vs)/\ĕ K F ps vs
 | .rc C ns ps=>∃a dx fs,o=some (.ref a)/\H a=some (.ins (K.cm C) dx fs)/\F a=none/\c.B a=none/\fs.map (·.1)=ns/\ĕ K F ps (fs.map (·.2))/\c.S a dx C
 | .ot ps qs rs=>∃p a xs vs ys,o=some (.ref p)/\F p=some (.tup (xs ++ .ref a::ys))/\ĕ K F ps xs/\H a=some (.lst vs)/\F a=none/\c.B a=none/\ĕ K F qs vs/\ĕ K F rs ys
 | .ol Bg=>∃(p:Addr) (as:List Addr),o=some (.ref p)/\F p=some (.lst (as.map V.ref))/\as.Nodup/\Paired (λ(a:Addr) (ps:List PV)=>∃vs,H a=some (.lst vs)/\F a=none/\c.B a=none/\ĕ K F ps vs) as Bg
def Slot.at_(F:Hp)(x:V)(a:Addr):Slot->Prop
 | .ot ps _ _=>∃p xs ys,x=.ref p/\F p=some (.tup (xs ++ .ref a::ys))/\xs.length=ps.length
 | .ol _=>∃(p:Addr) (as:List Addr),x=.ref p/\F p=some (.lst (as.map V.ref))/\a∈as
 | .ow _=>x=.ref a
 | .rc _ _ _=>x=.ref a
 |_=>False
def Ļ(F:Hp)(σ:L2.St)(ρ:ĺ)(i:Nat)(a:Addr):Prop:=∃s x,ρ[i]?=some s/\σ[i]?=some (some x)/\s.at_ F x a
structure Rel(K:KK)(c:Ctx)(F H:Hp)(σ:L2.St)(ρ:ĺ):Prop where
 sub:Same F H
 base:Same c.B H
 f0:Same c.F₀ F
 cX:∀a,c.B a≠none->c.F₀ a=none->F a=none
 lent:∀a u,c.L a=some u->H a=some u/\F a=none
 lb:∀a,c.B a=none->c.L a=none
 len:σ.length=ρ.length
 slot:∀(i:Nat) s,ρ[i]?=some s->ř K c F H ((σ[i]?).getD none) s
 sep:∀i j a,Ļ F σ ρ i a->Ļ F σ ρ j a->i=j
def iY(F:Hp)(σ:L2.St)(ρ:ĺ)(a:Addr):Prop:=∀i,¬Ļ F σ ρ i a
section
variable{K:KK}{c:Ctx}{F F' H H':Hp}{σ:L2.St}{ρ:ĺ}{a:Addr}{o:HO}
def jE{s:Slot}{x:V}(h:s.at_ F x a):s.own=true:=by
 cases s<;>first|rfl|exact h.elim
theorem mH:∀{as bs:List Addr},as.map V.ref=bs.map V.ref->as=bs
 | [],[],_=>rfl
 | [],_::_,h=>by cases h
 |_::_,[],h=>by cases h
 |a::as,b::bs,h=>by
  injection h with h1 h2
  injection h1 with h1
  rw[h1,mH h2]
def gD{ps qs rs:List PV}{x:V}{b:Addr}(h:(Slot.ot ps qs rs).at_ F x a)(h':(Slot.ot ps qs rs).at_ F x b):a=b:=by
 obtain⟨p,xs,us,h1,h2,l1⟩:=h
 obtain⟨q,ys,ws,h3,h4,l2⟩:=h'
 rw[h1] at h3
 cases h3
 rw[h2] at h4
 have e:xs++V.ref a::us=ys++V.ref b::ws:=by
  injection h4 with h4
  injection h4
 have e2:=(List.append_inj e (by omega)).2
 injection e2 with e2
 injection e2
theorem CZ{α β:Type}{G:α->β->Prop}:∀{l:List α} {m:List β} {x:α},Paired G l m->x∈l->∃y,y∈m/\G x y
 |_,_,_,.nil,h=>by simp at h
 |_,_,x,.cons r t,h=>by
  rcases List.mem_cons.mp h with rfl|h
  ·exact⟨_,List.mem_cons_self,r⟩
  ·obtain⟨y,h1,h2⟩:=CZ t h
   exact⟨y,List.mem_cons_of_mem _ h1,h2⟩
theorem C_{α β:Type}{G G':α->β->Prop}:∀{l:List α} {m:List β},Paired G l m->(∀x y,x∈l->G x y->G' x y)->Paired G' l m
 |_,_,.nil,_=>.nil
 |_,_,.cons r t,h=>.cons (h _ _ List.mem_cons_self r) (C_ t λx y hx=>h x y (List.mem_cons_of_mem _ hx))
def ř.grow{s:Slot}{x:Option V}(h:ř K c F H x s)(eF:Same F F')(eH:∀b vs,(∃y,x=some y/\s.at_ F y b)->H b=some vs->F b=none->c.B b=none->H' b=some vs/\F' b=none):ř K c F' H' x s:=by
 cases s with
 |no=>trivial
 |sh p=>obtain⟨v,h1,h2⟩:=h;exact⟨v,h1,h2.same eF p v⟩
 |ow ps=>
  obtain⟨b,vs,h1,h2,h3,h4,h5⟩:=h
  obtain⟨e1,e2⟩:=eH b _ ⟨_,h1,rfl⟩ h2 h3 h4
  exact⟨b,vs,h1,e1,e2,h4,h5.same eF ps vs⟩
 |bw ps=>obtain⟨b,vs,h1,h2,h3⟩:=h;exact⟨b,vs,h1,h2,h3.same eF ps vs⟩
 |rc C ns ps=>
  obtain⟨b,dx,fs,h1,h2,h3,h4,h5,h6⟩:=h
  obtain⟨e1,e2⟩:=eH b _ ⟨_,h1,rfl⟩ h2 h3 h4
  exact⟨b,dx,fs,h1,e1,e2,h4,h5,h6.1.same eF ps _,h6.2⟩
 |ot ps qs rs=>
  obtain⟨p,b,xs,vs,ys,h1,h2,h3,h4,h5,h6,h7,h8⟩:=h
  obtain⟨e1,e2⟩:=eH b _ ⟨_,h1,p,xs,ys,rfl,h2,h3.length.symm⟩ h4 h5 h6
  exact⟨p,b,xs,vs,ys,h1,eF _ _ h2,h3.same eF ps xs,e1,e2,h6,h7.same eF qs vs,h8.same eF rs ys⟩
 |ol Bg=>
  obtain⟨p,as,h1,h2,h3,h4⟩:=h
  refine⟨p,as,h1,eF _ _ h2,h3,C_ h4 λb ps hb ⟨vs,k1,k2,k3,k4⟩=>?_⟩
  obtain⟨e1,e2⟩:=eH b _ ⟨_,h1,p,as,rfl,h2,hb⟩ k1 k2 k3
  exact⟨vs,e1,e2,k3,k4.same eF ps vs⟩
def ř.owned{s:Slot}{y:V}(h:ř K c F H (some y) s)(ha:s.at_ F y a):∃u,H a=some u/\F a=none/\c.B a=none:=by
 cases s with
 |no=>exact ha.elim
 |sh p=>exact ha.elim
 |bw ps=>exact ha.elim
 |ow ps=>
  obtain⟨b,vs,h1,h2,h3,h4,h5⟩:=h
  rw[show y=.ref a from ha] at h1
  cases h1
  exact⟨_,h2,h3,h4⟩
 |rc C ns ps=>
  obtain⟨b,dx,fs,h1,h2,h3,h4,h5,h6⟩:=h
  rw[show y=.ref a from ha] at h1
  cases h1
  exact⟨_,h2,h3,h4⟩
 |ot ps qs rs=>
  obtain⟨p,b,xs,vs,ys,h1,h2,h3,h4,h5,h6,h7,h8⟩:=h
  cases h1
  cases gD (ps:=ps) (qs:=qs) (rs:=rs) ha ⟨p,xs,ys,rfl,h2,h3.length.symm⟩
  exact⟨_,h4,h5,h6⟩
 |ol Bg=>
  obtain⟨p,as,h1,h2,h3,h4⟩:=h
  cases h1
  obtain⟨q,bs,e1,e2,e3⟩:=ha
  cases e1
  rw[h2] at e2
  have e:as=bs:=mH (by injection e2 with e2;injection e2)
  subst e
  obtain⟨ps,_,vs,k1,k2,k3,_⟩:=CZ h4 e3
  exact⟨_,k1,k2,k3⟩
def ř.back{s:Slot}{y:V}(h:ř K c F H (some y) s)(e:Same F F')(ha:s.at_ F' y a):s.at_ F y a:=by
 cases s with
 |ot ps qs rs=>
  obtain⟨p,b,xs,vs,ys,h1,h2,h3,h4,h5,h6,h7,h8⟩:=h
  cases h1
  cases gD (ps:=ps) (qs:=qs) (rs:=rs) ha ⟨p,xs,ys,rfl,e _ _ h2,h3.length.symm⟩
  exact⟨p,xs,ys,rfl,h2,h3.length.symm⟩
 |ol Bg=>
  obtain⟨p,as,h1,h2,h3,h4⟩:=h
  cases h1
  obtain⟨q,bs,e1,e2,e3⟩:=ha
  cases e1
  rw[e _ _ h2] at e2
  have z:as=bs:=mH (by injection e2 with e2;injection e2)
  subst z
  exact⟨p,as,rfl,h2,e3⟩
 |_=>exact ha
def Dc{i:Nat}{x:V}(e:σ[i]?=some (some x)):(σ[i]?).getD none=some x:=by rw[e];rfl
def Dd{i:Nat}{x:V}(e:(σ[i]?).getD none=some x):σ[i]?=some (some x):=by
 cases q:σ[i]? with
 |none=>rw[q] at e;cases e
 |some y=>rw[q] at e;exact congrArg some e
theorem Rel.owned(r:Rel K c F H σ ρ){i:Nat}(h:Ļ F σ ρ i a):(∃u,H a=some u)/\F a=none/\c.B a=none:=by
 obtain⟨s,x,h1,h2,h3⟩:=h
 have q:=r.slot i s h1
 rw[Dc h2] at q
 obtain⟨u,q⟩:=q.owned h3
 exact⟨⟨u,q.1⟩,q.2⟩
theorem Rel.back(r:Rel K c F H σ ρ)(e:Same F F'){i:Nat}(h:Ļ F' σ ρ i a):Ļ F σ ρ i a:=by
 obtain⟨s,x,h1,h2,h3⟩:=h
 have q:=r.slot i s h1
 rw[Dc h2] at q
 exact⟨s,x,h1,h2,q.back e h3⟩
def Rel.Ua(r:Rel K c F H σ ρ)(e:Same F F'):∀i j a,Ļ F' σ ρ i a->Ļ F' σ ρ j a->i=j:=λi j a h1 h2=>r.sep i j a (r.back e h1) (r.back e h2)
def Rel.jF(r:Rel K c F H σ ρ)(e:Same F F')(h:iY F σ ρ a):iY F' σ ρ a:=λi q=>h i (r.back e q)
def Rel.fresh(r:Rel K c F H σ ρ)(h:H a=none):iY F σ ρ a:=λi q=>by
 obtain⟨⟨u,e⟩,_⟩:=r.owned q
 rw[h] at e;cases e
def Rel.alloc(r:Rel K c F H σ ρ)(h:H a=none):Rel K c (upd F a o) (upd H a o) σ ρ where
 sub:=λb u e=>by
  by_cases hb:b=a
  ·subst hb;rw[Ğ] at e ⊢;exact e
  ·rw[ę hb] at e ⊢;exact r.sub b u e
 base:=λb u e=>by
  have hb:b≠a:=λz=>by rw[z] at e;rw[r.base _ _ e] at h;cases h
  rw[ę hb];exact r.base b u e
 f0:=fun b u e=>by
   have hb:b≠a:=λz=>by rw[z] at e;rw[r.sub _ _ (r.f0 _ _ e)] at h;cases h
   rw[ę hb];exact r.f0 b u e
 cX:=λb h1 h2=>by
  have hb:b≠a:=λz=>by
   subst z
   cases q:c.B b with
   |none=>exact h1 q
   |some u=>rw[r.base _ _ q] at h;cases h
  rw[ę hb];exact r.cX b h1 h2
 lent:=λb u e=>by
  obtain⟨h1,h2⟩:=r.lent b u e
  have hb:b≠a:=λz=>by rw[z,h] at h1;cases h1
  rw[ę hb,ę hb];exact⟨h1,h2⟩
 lb:=r.lb
 len:=r.len
 slot:=λi s e=>by
  have hF:F a=none:=r.sub.free h
  refine(r.slot i s e).grow (Same.upd hF) λb u _ h1 h2 h3=>?_
  have hb:b≠a:=λz=>by rw[z,h] at h1;cases h1
  rw[ę hb,ę hb];exact⟨h1,h2⟩
 sep:=r.Ua (Same.upd (r.sub.free h))
def Rel.made(r:Rel K c F H σ ρ)(h:H a=none):Rel K c F (upd H a o) σ ρ where
 sub:=r.sub.trans (Same.upd h)
 base:=r.base.trans (Same.upd h)
 f0:=r.f0
 cX:=r.cX
 lent:=λb u e=>⟨Same.upd h b u (r.lent b u e).1,(r.lent b u e).2⟩
 lb:=r.lb
 len:=r.len
 slot:=λi s e=>(r.slot i s e).grow (Same.refl F) λb u _ h1 h2 h3=>⟨Same.upd h b u h1,h2⟩
 sep:=r.sep
def Rel.freeze(r:Rel K c F H σ ρ)(h:H a=some o)(hB:c.B a=none)(hF:F a=none)(hf:iY F σ ρ a):Rel K c (upd F a o) H σ ρ where
 sub:=λb u e=>by
  by_cases hb:b=a
  ·subst hb;rw[Ğ] at e;rw[h];exact e
  ·rw[ę hb] at e;exact r.sub b u e
 base:=r.base
 f0:=r.f0.trans (Same.upd hF)
 cX:=λb h1 h2=>by
  have hb:b≠a:=λz=>h1 (by rw[z];exact hB)
  rw[ę hb];exact r.cX b h1 h2
 lent:=λb u e=>by
  have hb:b≠a:=λz=>by rw[z,r.lb a hB] at e;cases e
  rw[ę hb];exact r.lent b u e
 lb:=r.lb
 len:=r.len
 slot:=λi s e=>(r.slot i s e).grow (Same.upd hF) λb' u' ⟨y,e1',ha⟩ h1 h2 h3=>by
  have hb:b'≠a:=λz=>by
   subst z
   exact hf i ⟨s,y,e,Dd e1',ha⟩
  rw[ę hb];exact⟨h1,h2⟩
 sep:=r.Ua (Same.upd hF)
def Ź{α:Type}{l:List α}{i j:Nat}{x y:α}(h:(l.set i x)[j]?=some y):(j=i/\y=x/\i<l.length)\/(j≠i/\l[j]?=some y):=by
 by_cases hj:j=i
 ·subst hj
  have hl:j<l.length:=by
   have:=(List.getElem?_eq_some_iff.mp h).1
   simpa using this
  rw[List.getElem?_set_self hl] at h
  exact .inl ⟨rfl,(Option.some.inj h).symm,hl⟩
 ·rw[List.getElem?_set_ne (Ne.symm hj)] at h
  exact .inr ⟨hj,h⟩
def Dg{l:L2.St}{i:Nat}{x:Option V}(h:i<l.length):((l.set i x)[i]?).getD none=x:=by rw[List.getElem?_set_self h];rfl
def yN{l:L2.St}{i j:Nat}{x:Option V}(h:j≠i):((l.set i x)[j]?).getD none=(l[j]?).getD none:=by rw[List.getElem?_set_ne (Ne.symm h)]
def Ļ.off{i j:Nat}{x:Option V}{s:Slot}(h:Ļ F (σ.set i x) (ρ.set i s) j a)(hj:j≠i):Ļ F σ ρ j a:=by
 obtain⟨s',y,h1,h2,h3⟩:=h
 rw[List.getElem?_set_ne (Ne.symm hj)] at h1 h2
 exact⟨s',y,h1,h2,h3⟩
def Rel.put(r:Rel K c F H σ ρ){i:Nat}{x:Option V}{s:Slot}(hs:s.own=false)(h:ř K c F H x s):Rel K c F H (σ.set i x) (ρ.set i s) where
 sub:=r.sub
 base:=r.base
 f0:=r.f0
 cX:=r.cX
 lent:=r.lent
 lb:=r.lb
 len:=by simpa using r.len
 slot:=λj s' e=>by
  rcases Ź e with⟨rfl,rfl,hl⟩|⟨hj,e⟩
  ·rw[Dg (by rw[r.len];exact hl)];exact h
  ·rw[yN hj];exact r.slot j s' e
 sep:=λj k b h1 h2=>by
  have off:∀{j},Ļ F (σ.set i x) (ρ.set i s) j b->j≠i:=fun{j} q z=>by
   subst z
   obtain⟨s',y,q1,_,q2⟩:=q
   rcases Ź q1 with⟨_,rfl,_⟩|⟨q,_⟩
   ·have:=jE q2;rw[hs] at this;cases this
   ·exact q rfl
  exact r.sep j k b (h1.off (off h1)) (h2.off (off h2))
def Rel.yO(r:Rel K c F H σ ρ){i:Nat}{s:Slot}(hs:s.own=false)(h:ř K c F H ((σ[i]?).getD none) s):Rel K c F H σ (ρ.set i s) where
 sub:=r.sub
 base:=r.base
 f0:=r.f0
 cX:=r.cX
 lent:=r.lent
 lb:=r.lb
 len:=by simpa using r.len
 slot:=λj s' e=>by
  rcases Ź e with⟨rfl,rfl,hl⟩|⟨hj,e⟩
  ·exact h
  ·exact r.slot j s' e
 sep:=λj k b h1 h2=>by
  have off:∀{j},Ļ F σ (ρ.set i s) j b->Ļ F σ ρ j b:=fun{j} ⟨s',y,q1,q3,q2⟩=>by
   rcases Ź q1 with⟨_,rfl,_⟩|⟨_,q⟩
   ·have:=jE q2;rw[hs] at this;cases this
   ·exact⟨s',y,q,q3,q2⟩
  exact r.sep j k b (off h1) (off h2)
def Rel.Jp(r:Rel K c F H σ ρ){i:Nat}{x:V}{s:Slot}(h:ř K c F H (some x) s)(hf:∀a,s.at_ F x a->iY F σ ρ a):Rel K c F H (σ.set i (some x)) (ρ.set i s) where
 sub:=r.sub
 base:=r.base
 f0:=r.f0
 cX:=r.cX
 lent:=r.lent
 lb:=r.lb
 len:=by simpa using r.len
 slot:=λj s' e=>by
  rcases Ź e with⟨rfl,rfl,hl⟩|⟨hj,e⟩
  ·rw[Dg (by rw[r.len];exact hl)];exact h
  ·rw[yN hj];exact r.slot j s' e
 sep:=λj k b h1 h2=>by
  have Ub:∀{j},Ļ F (σ.set i (some x)) (ρ.set i s) j b->(j=i/\s.at_ F x b)\/(j≠i/\Ļ F σ ρ j b):=fun{j} q=>by
   by_cases hj:j=i
   ·subst hj
    obtain⟨s',y,q1,q2,q3⟩:=q
    rcases Ź q2 with⟨_,e,_⟩|⟨z,_⟩
    ·cases e
     rcases Ź q1 with⟨_,e,_⟩|⟨z,_⟩
     ·cases e
      exact .inl ⟨rfl,q3⟩
     ·exact absurd rfl z
    ·exact absurd rfl z
   ·exact .inr ⟨hj,q.off hj⟩
  rcases Ub h1 with⟨e1,z1⟩|⟨e1,o1⟩
  ·rcases Ub h2 with⟨e2,z2⟩|⟨e2,o2⟩
   ·rw[e1,e2]
   ·exact absurd o2 (hf b z1 k)
  ·rcases Ub h2 with⟨e2,z2⟩|⟨e2,o2⟩
   ·exact absurd o1 (hf b z2 j)
   ·exact r.sep j k b o1 o2
def Rel.Dh(r:Rel K c F H σ ρ){i:Nat}{s:Slot}(ho:Ļ F σ ρ i a)(h:ř K c F (upd H a o) ((σ[i]?).getD none) s)(hs:∀x b,σ[i]?=some (some x)->s.at_ F x b->Ļ F σ ρ i b):Rel K c F (upd H a o) σ (ρ.set i s) where
 sub:=λb u e=>by
  have hb:b≠a:=λz=>by rw[z,(r.owned ho).2.1] at e;cases e
  rw[ę hb];exact r.sub b u e
 base:=λb u e=>by
  have hb:b≠a:=λz=>by rw[z,(r.owned ho).2.2] at e;cases e
  rw[ę hb];exact r.base b u e
 f0:=r.f0
 cX:=r.cX
 lent:=λb u e=>by
  have hb:b≠a:=λz=>by rw[z,r.lb a (r.owned ho).2.2] at e;cases e
  rw[ę hb];exact r.lent b u e
 lb:=r.lb
 len:=by simpa using r.len
 slot:=λj s' e=>by
  rcases Ź e with⟨rfl,rfl,hl⟩|⟨hj,e⟩
  ·exact h
  ·refine(r.slot j s' e).grow (Same.refl F) λb u ⟨y,e1,e2⟩ h1 h2 h3=>?_
   have hb:b≠a:=λz=>by
    subst z
    exact hj (r.sep j i b ⟨s',y,e,Dd e1,e2⟩ ho)
   exact⟨by rw[ę hb];exact h1,h2⟩
 sep:=λj k b h1 h2=>by
  have off:∀{j},Ļ F σ (ρ.set i s) j b->Ļ F σ ρ j b:=fun{j} ⟨s',y,q1,q3,q2⟩=>by
   rcases Ź q1 with⟨e,rfl,_⟩|⟨_,q⟩
   ·subst e
    exact hs y b q3 q2
   ·exact⟨s',y,q,q3,q2⟩
  exact r.sep j k b (off h1) (off h2)
def Rel.write(r:Rel K c F H σ ρ){i:Nat}{s:Slot}(ho:Ļ F σ ρ i a)(hx:σ[i]?=some (some (.ref a)))(h:ř K c F (upd H a o) (some (.ref a)) s)(hs:∀b,s.at_ F (.ref a) b->b=a):Rel K c F (upd H a o) σ (ρ.set i s):=
 r.Dh ho (by rw[hx];exact h) λx b e q=>by rw[hx] at e;cases e;rw[hs b q];exact ho
structure Gr(F H F' H':Hp):Prop where
 h:Same H H'
 f:Same F F'
 sub:Same F' H'
 out:∀a,H a≠none->F a=none->F' a=none
def Rel.call(r:Rel K c F H σ ρ)(g:Gr F H F' H'):Rel K c F' H' σ ρ where
 sub:=g.sub
 base:=r.base.trans g.h
 f0:=r.f0.trans g.f
 cX:=λb h1 h2=>by
  refine g.out b (λz=>h1 ?_) (r.cX b h1 h2)
  cases q:c.B b with
  |none=>rfl
  |some u=>rw[r.base _ _ q] at z;cases z
 lent:=λb u e=>⟨g.h b u (r.lent b u e).1,g.out b (by rw[(r.lent b u e).1];intro z;cases z) (r.lent b u e).2⟩
 lb:=r.lb
 len:=r.len
 slot:=λi s e=>(r.slot i s e).grow g.f λb u _ h1 h2 h3=>⟨g.h b u h1,g.out b (by rw[h1];intro z;cases z) h2⟩
 sep:=r.Ua g.f
def ctx0(F H:Hp):Ctx:=⟨H,F,λa=>match F a with
 |none=>H a
 |some _=>none,λ_ _ _=>True⟩
def bY{a:Addr}{u:HO}(h:(ctx0 F H).L a=some u):H a=some u/\F a=none:=by
 unfold ctx0 at h
 dsimp only at h
 cases q:F a with
 |none=>rw[q] at h;exact⟨h,rfl⟩
 |some o=>rw[q] at h;cases h
def Rel.gr(r:Rel K (ctx0 F H) F' H' σ ρ):Gr F H F' H':=⟨r.base,r.f0,r.sub,r.cX⟩
def bh(K:KK)(F H:Hp):Slot->V->Prop
 | .sh p,v=>Rep K F p v
 | .bw ps,v=>∃a vs,v=.ref a/\H a=some (.lst vs)/\F a=none/\ĕ K F ps vs
 |_,_=>False
def bh.slot{s:Slot}{v:V}(h:bh K F H s v):ř K (ctx0 F H) F H (some v) s/\s.own=false:=by
 cases s with
 |sh p=>exact⟨⟨v,rfl,h⟩,rfl⟩
 |bw ps=>
  obtain⟨a,vs,rfl,h1,h2,h3⟩:=h
  refine⟨⟨a,vs,rfl,?_,h3⟩,rfl⟩
  show(match F a with|none=>H a|some _=>none)=_
  rw[h2]
  exact h1
 |no=>exact h.elim
 |ow ps=>exact h.elim
 |rc C ns ps=>exact h.elim
 |ot ps qs rs=>exact h.elim
 |ol Bg=>exact h.elim
def startP(n:Nat)(as:List Slot):ĺ:=as++List.replicate (n-as.length) .no
theorem Rel.start{N:List Str}{as:List Slot}{vs:List V}(s:Same F H)(h:Paired (bh K F H) as vs):Rel K (ctx0 F H) F H (L2.start N vs) (startP N.length as) where
 sub:=s
 base:=Same.refl H
 f0:=Same.refl F
 cX:=λ_ _ h=>h
 lent:=λ_ _ e=>bY e
 lb:=fun a e=>by
   cases q:(ctx0 F H).L a with
   |none=>rfl
   |some u=>
    have e':H a=none:=e
    rw[(bY q).1] at e'
    cases e'
 len:=by unfold L2.start startP;simp[Paired.length h]
 slot:=λi s' e=>by
  unfold startP at e
  by_cases hi:i<as.length
  ·rw[List.getElem?_append_left hi] at e
   obtain⟨v,h1,h2⟩:=bf h e
   have hv:((L2.start N vs)[i]?).getD none=some v:=by
    unfold L2.start
    rw[List.getElem?_append_left (by simpa[<-Paired.length h] using hi),List.getElem?_map,h1];rfl
   rw[hv]
   exact(bh.slot h2).1
  ·rw[List.getElem?_append_right (by omega),List.getElem?_replicate] at e
   split at e
   ·cases e;trivial
   ·cases e
 sep:=λi j a h1 _=>by
  obtain⟨s',y,h1,_,h2⟩:=h1
  have h2:=jE h2
  exfalso
  unfold startP at h1
  by_cases hi:i<as.length
  ·rw[List.getElem?_append_left hi] at h1
   obtain⟨v,_,h3⟩:=bf h h1
   rw[(bh.slot h3).2] at h2
   cases h2
  ·rw[List.getElem?_append_right (by omega),List.getElem?_replicate] at h1
   split at h1
   ·cases h1;cases h2
   ·cases h1
end
structure PX where
 C:String
 ns:List Str
 ps:List PV
def Jq(K:KK)(F:Hp)(x:PX)(C:Value)(d:Option Addr):Prop:=C=.ref (K.cm x.C)/\∃fs,uw F d fs/\fs.map (·.1)=x.ns/\ĕ K F x.ps (fs.map (·.2))
inductive Res(α:Type) where
 |ok (a:α) (ρ:ĺ)|exc (x:PX) (ρ:ĺ)|bad
def Res.bind{α β:Type}(r:Res α)(f:α->ĺ->Res β):Res β:= match r with
 | .ok a ρ=>f a ρ
 | .exc x ρ=>.exc x ρ
 | .bad=>.bad
@[simp] theorem Res.Ŭ{α β:Type}{a:α}{ρ:ĺ}{f:α->ĺ->Res β}:(Res.ok a ρ).bind f=f a ρ:= rfl
@[simp] theorem Res.Yg{α β:Type}{x:PX}{ρ:ĺ}{f:α->ĺ->Res β}:(Res.exc x ρ:Res α).bind f=.exc x ρ:= rfl
@[simp] theorem Res.Yh{α β:Type}{f:α->ĺ->Res β}:(Res.bad:Res α).bind f=.bad:=rfl
def Res.lW{α:Type}(o:Option α)(ρ:ĺ):Res α:= match o with
 |some a=>.ok a ρ
 |none=>.bad
@[simp] theorem Res.Yi{α:Type}{a:α}{ρ:ĺ}:Res.lW (some a) ρ=.ok a ρ:= rfl
@[simp] theorem Res.Yj{α:Type}{ρ:ĺ}:Res.lW (none:Option α) ρ=.bad:=rfl
abbrev M(α:Type):=ĺ->Res α
inductive RV where
 |sh (p:PV)|ow (ps:List PV)|ot (ps qs rs:List PV)
def RV.val:RV->PV
 | .sh p=>p
 | .ow ps=>.lst ps
 | .ot ps qs rs=>.tup (ps ++ .lst qs::rs)
def RV.slot:RV->Slot
 | .sh p=>.sh p
 | .ow ps=>.ow ps
 | .ot ps qs rs=>.ot ps qs rs
abbrev RR(α β:Type):=Ctx->L2.St->ĺ->Hp->Hp->α->β->Prop
def rV(K:KK):RR PV V:=λ_ _ _ F _ p v=>Rep K F p v
def yP(K:KK)(F H:Hp)(p:PV)(v:V):Prop:=match p with
 | .lst ps=>∃a vs,v=.ref a/\H a=some (.lst vs)/\ĕ K F ps vs
 | .ins C ns ps=>∃a dx fs,v=.ref a/\H a=some (.ins (K.cm C) dx fs)/\fs.map (·.1)=ns/\ĕ K F ps (fs.map (·.2))
 |_=>False
def rR(K:KK):RR PV V:=λ_ _ _ F H p v=>Rep K F p v\/yP K F H p v
def rA(K:KK):RR (List Slot) (List V):=λ_ _ _ F H as vs=>Paired (bh K F H) as vs
def Held(K:KK)(c:Ctx)(σ:L2.St)(ρ:ĺ)(F H:Hp)(ps:List PV)(v:V):Prop:=∃a vs,v=.ref a/\H a=some (.lst vs)/\F a=none/\c.B a=none/\iY F σ ρ a/\ĕ K F ps vs
def yQ(K:KK)(c:Ctx)(σ:L2.St)(ρ:ĺ)(F H:Hp)(ps qs rs:List PV)(v:V):Prop:=∃p a xs vs ys,v=.ref p/\F p=some (.tup (xs ++ .ref a::ys))/\ĕ K F ps xs/\H a=some (.lst vs)/\F a=none/\c.B a=none/\iY F σ ρ a/\ĕ K F qs vs/\ĕ K F rs ys
def rO(K:KK):RR RV V:=λc σ ρ F H r v=>match r with
 | .sh p=>Rep K F p v
 | .ow ps=>Held K c σ ρ F H ps v
 | .ot ps qs rs=>yQ K c σ ρ F H ps qs rs v
def rL(K:KK):RR (List PV) (List V):=λ_ _ _ F _ p v=>ĕ K F p v
def Yk(K:KK):RR (List PV) (List V):=λc σ ρ F H p v=>Paired (rR K c σ ρ F H) p v
def rB:RR Bool Bool:=λ_ _ _ _ _ p v=>p=v
def rI:RR (Option Int) (Option Int):=λ_ _ _ _ _ p v=>p=v
def aA{α β:Type}(K:KK)(E:L2.St->XK)(R:RR α β)(c:Ctx)(F H:Hp)(σ:L2.St)(Q:β->Hp->Prop):Res α->Prop
 | .ok p ρ'=>∀v F' H',Rel K c F' H' σ ρ'->Same F F'->Same H H'->R c σ ρ' F' H' p v->Q v H'
 | .exc x ρ'=>∀C d F' H',Rel K c F' H' σ ρ'->Same F F'->Jq K F' x C d->E σ C d H'
 | .bad=>False
def tG{α β:Type}(K:KK)(E:L2.St->XK)(R:RR α β)(m:M α):L2.St->Hp->(β->Hp->Prop)->Prop:=λσ H Q=>∃c F ρ,Rel K c F H σ ρ/\aA K E R c F H σ Q (m ρ)
section
variable{α β α' β':Type}{K:KK}{E:L2.St->XK}{R:RR α β}{R':RR α' β'}{c:Ctx}{F F1 H H1:Hp}{σ:L2.St}
def aA.mono{Q:β->Hp->Prop}{r:Res α}(h:aA K E R c F H σ Q r)(sF:Same F F1)(sH:Same H H1):aA K E R c F1 H1 σ Q r:=by
 cases r with
 |ok p ρ'=>exact λv F' H' rel s1 s2 q=>h v F' H' rel (sF.trans s1) (sH.trans s2) q
 |exc x ρ'=>exact λC d F' H' rel s1 q=>h C d F' H' rel (sF.trans s1) q
 |bad=>exact h
theorem aA.bind{Q:β->Hp->Prop}{Q':β'->Hp->Prop}{r:Res α}{f:α->ĺ->Res α'}(h:aA K E R' c F H σ Q' (r.bind f))
 (k:∀p ρ1 v F1 H1,Rel K c F1 H1 σ ρ1->Same F F1->Same H H1->R c σ ρ1 F1 H1 p v->aA K E R' c F1 H1 σ Q' (f p ρ1)->Q v H1):aA K E R c F H σ Q r:=by
 cases r with
 |ok p ρ'=>exact λv F' H' rel s1 s2 q=>k p ρ' v F' H' rel s1 s2 q (aA.mono (show aA K E R' c F H σ Q' (f p ρ') from h) s1 s2)
 |exc x ρ'=>exact h
 |bad=>exact h
theorem aA.rel{R2:RR α β}{Q:β->Hp->Prop}{r:Res α}(h:aA K E R c F H σ Q r)(k:∀p ρ' v F' H',Rel K c F' H' σ ρ'->R2 c σ ρ' F' H' p v->R c σ ρ' F' H' p v):aA K E R2 c F H σ Q r:=by
 cases r with
 |ok p ρ'=>exact λv F' H' rel s1 s2 q=>h v F' H' rel s1 s2 (k p ρ' v F' H' rel q)
 |exc x ρ'=>exact h
 |bad=>exact h
end
abbrev tV(K:KK)(E:L2.St->XK)(m:M PV):TE:=tG K E (rV K) m
abbrev tR(K:KK)(E:L2.St->XK)(m:M PV):TE:=tG K E (rR K) m
abbrev tO(K:KK)(E:L2.St->XK)(m:M RV):TE:=tG K E (rO K) m
abbrev tL(K:KK)(E:L2.St->XK)(m:M (List PV)):TA:=tG K E (rL K) m
abbrev tA(K:KK)(E:L2.St->XK)(m:M (List Slot)):TA:=tG K E (rA K) m
abbrev Jr(K:KK)(E:L2.St->XK)(m:M (List PV)):TA:=tG K E (Yk K) m
abbrev tB(K:KK)(E:L2.St->XK)(m:M Bool):TT:=tG K E rB m
inductive Fl where
 |nx|bk|ct|rt (r:RV)
def Ū(K:KK)(E:L2.St->XK)(c:Ctx)(F:Hp)(D:Ends):Res Fl->Prop
 | .ok .nx ρ'=>∀σ' F' H',Rel K c F' H' σ' ρ'->Same F F'->D.nx σ' H'
 | .ok .bk ρ'=>∀σ' F' H',Rel K c F' H' σ' ρ'->Same F F'->D.bk σ' H'
 | .ok .ct ρ'=>∀σ' F' H',Rel K c F' H' σ' ρ'->Same F F'->D.ct σ' H'
 | .ok (.rt r) ρ'=>∀v σ' F' H',Rel K c F' H' σ' ρ'->Same F F'->rO K c σ' ρ' F' H' r v->D.rt v H'
 | .exc x ρ'=>∀σ' C d F' H',Rel K c F' H' σ' ρ'->Same F F'->Jq K F' x C d->E σ' C d H'
 | .bad=>False
def tS(K:KK)(E:L2.St->XK)(m:M Fl):TS:=λD σ H=>∃c F ρ,Rel K c F H σ ρ/\Ū K E c F D (m ρ)
section
variable{K:KK}{E:L2.St->XK}{c:Ctx}{F F1:Hp}{D:Ends}
def Ū.mono{r:Res Fl}(h:Ū K E c F D r)(sF:Same F F1):Ū K E c F1 D r:=by
 cases r with
 |ok f ρ'=>
  cases f with
  |rt v=>exact λv σ' F' H' rel s1 q=>h v σ' F' H' rel (sF.trans s1) q
  |nx=>exact λσ' F' H' rel s1=>h σ' F' H' rel (sF.trans s1)
  |bk=>exact λσ' F' H' rel s1=>h σ' F' H' rel (sF.trans s1)
  |ct=>exact λσ' F' H' rel s1=>h σ' F' H' rel (sF.trans s1)
 |exc x ρ'=>exact λσ' C d F' H' rel s1 q=>h σ' C d F' H' rel (sF.trans s1) q
 |bad=>exact h
theorem Ū.bind{α β:Type}{R:RR α β}{σ:L2.St}{H:Hp}{Q:β->Hp->Prop}{r:Res α}{f:α->ĺ->Res Fl}(h:Ū K E c F D (r.bind f))
 (k:∀p ρ1 v F1 H1,Rel K c F1 H1 σ ρ1->Same F F1->R c σ ρ1 F1 H1 p v->Ū K E c F1 D (f p ρ1)->Q v H1):aA K E R c F H σ Q r:=by
 cases r with
 |ok p ρ'=>exact λv F' H' rel s1 s2 q=>k p ρ' v F' H' rel s1 q (Ū.mono (show Ū K E c F D (f p ρ') from h) s1)
 |exc x ρ'=>exact λC d F' H' rel s1 q=>h σ C d F' H' rel s1 q
 |bad=>exact h
end
end P
namespace P
open PySem PySem.Spec PyProof.Rows L2 M2
def ğ(i:Nat):M PV:=λρ=>match ρ[i]? with
 |some (.sh p)=>.ok p ρ
 |some (.ow ps)=>.ok (.lst ps) (ρ.set i (.sh (.lst ps)))
 |_=>.bad
def Ā(i:Nat):M PV:=λρ=>match ρ[i]? with
 |some (.sh p)=>.ok p ρ
 |some (.ow ps)=>.ok (.lst ps) ρ
 |some (.bw ps)=>.ok (.lst ps) ρ
 |some (.rc C ns ps)=>.ok (.ins C ns ps) ρ
 |_=>.bad
def gP(i:Nat):M RV:=λρ=>match ρ[i]? with
 |some (.sh p)=>.ok (.sh p) ρ
 |some (.ow ps)=>.ok (.ow ps) (ρ.set i .no)
 |_=>.bad
def mC(p:PV):M PV:=λρ=>.ok p ρ
def ň(m:M PV):M RV:=λρ=>(m ρ).bind λp ρ1=>.ok (.sh p) ρ1
def đ(m:M RV):M PV:=λρ=>(m ρ).bind λr ρ1=>.ok r.val ρ1
section
variable{K:KK}{c:Ctx}{F H:Hp}{σ:L2.St}{ρ:ĺ}
def at_of{i:Nat}{x:V}(h:(σ[i]?).getD none=some x):σ[i]?=some (some x):=by
 cases q:σ[i]? with
 |none=>rw[q] at h;cases h
 |some y=>rw[q] at h;exact congrArg some h
theorem Rel.ow(r:Rel K c F H σ ρ){i:Nat}{ps:List PV}(e:ρ[i]?=some (.ow ps)):∃a vs,σ[i]?=some (some (.ref a))/\H a=some (.lst vs)/\F a=none/\c.B a=none/\ĕ K F ps vs/\Ļ F σ ρ i a:=by
 obtain⟨a,vs,h1,h2,h3,h4,h5⟩:=r.slot i _ e
 exact⟨a,vs,at_of h1,h2,h3,h4,h5,⟨_,_,e,at_of h1,rfl⟩⟩
def Rel.move(r:Rel K c F H σ ρ){i:Nat}{a:Addr}(h:Ļ F σ ρ i a):Rel K c F H σ (ρ.set i .no)/\iY F σ (ρ.set i .no) a:=by
 refine⟨r.yO rfl trivial,λj ⟨s,y,q1,q3,q2⟩=>?_⟩
 rcases Ź q1 with⟨_,rfl,_⟩|⟨hj,q⟩
 ·exact q2.elim
 ·exact hj (r.sep j i a ⟨s,y,q,q3,q2⟩ h)
def Rel.share(r:Rel K c F H σ ρ){i:Nat}{ps:List PV}(e:ρ[i]?=some (.ow ps)):∃a vs,σ[i]?=some (some (.ref a))/\F a=none/\Rep K (upd F a (.lst vs)) (.lst ps) (.ref a)/\Rel K c (upd F a (.lst vs)) H σ (ρ.set i (.sh (.lst ps))):=by
 obtain⟨a,vs,h1,h2,h3,h4,h5,ho⟩:=r.ow e
 obtain⟨m1,m2⟩:=r.move ho
 have rp:Rep K (upd F a (.lst vs)) (.lst ps) (.ref a):=by
  unfold Rep
  exact⟨a,vs,rfl,Ũ.of Ğ,h5.same (Same.upd h3) ps vs⟩
 have q:=(m1.freeze h2 h4 h3 m2).yO (i:=i) (s:=.sh (.lst ps)) rfl (show ř K c _ H _ (.sh (.lst ps)) from⟨.ref a,by rw[h1];rfl,rp⟩)
 rw[List.set_set] at q
 exact⟨a,vs,h1,h3,rp,q⟩
def yP.mono{F1 H1:Hp}{p:PV}{v:V}(h:yP K F H p v)(sF:Same F F1)(sH:Same H H1):yP K F1 H1 p v:=by
 cases p with
 |lst ps=>
  obtain⟨a,vs,h2,h3,h4⟩:=h
  exact⟨a,vs,h2,sH _ _ h3,h4.same sF ps vs⟩
 |ins C ns ps=>
  obtain⟨a,dx,fs,h2,h3,h4,h5⟩:=h
  exact⟨a,dx,fs,h2,sH _ _ h3,h4,h5.same sF ps _⟩
 |_=>exact h.elim
theorem rR.mono{c:Ctx}{σ:L2.St}{ρ ρ':ĺ}{F1 H1:Hp}{p:PV}{v:V}(h:rR K c σ ρ F H p v)(sF:Same F F1)(sH:Same H H1):rR K c σ ρ' F1 H1 p v:=by
 rcases h with h|h
 ·exact .inl (h.same sF p v)
 ·exact .inr (h.mono sF sH)
theorem rR.lst{c:Ctx}{σ:L2.St}{ρ:ĺ}{ps:List PV}{v:V}(s:Same F H)(h:rR K c σ ρ F H (.lst ps) v):∃a vs,v=.ref a/\Ũ K.K H a vs/\ĕ K F ps vs:=by
 rcases h with h|⟨a,vs,h2,h3,h4⟩
 ·unfold Rep at h
  obtain⟨a,xs,h1,h2,h3⟩:=h
  exact⟨a,xs,h1,s.seq h2,h3⟩
 ·exact⟨a,vs,h2,Ũ.of h3,h4⟩
theorem rR.tup{c:Ctx}{σ:L2.St}{ρ:ĺ}{ps:List PV}{v:V}(s:Same F H)(h:rR K c σ ρ F H (.tup ps) v):∃a vs,v=.ref a/\cY K.K H a vs/\ĕ K F ps vs:=by
 rcases h with h|h
 ·unfold Rep at h
  obtain⟨a,xs,h1,h2,h3⟩:=h
  exact⟨a,xs,h1,Same.tup s h2,h3⟩
 ·exact h.elim
theorem rR.int{c:Ctx}{σ:L2.St}{ρ:ĺ}{i:Int}{v:V}(h:rR K c σ ρ F H (.int i) v):v=.int i:=by
 rcases h with h|h
 ·unfold Rep at h;exact h
 ·exact h.elim
theorem rR.str{c:Ctx}{σ:L2.St}{ρ:ĺ}{i:Str}{v:V}(h:rR K c σ ρ F H (.str i) v):v=.str i:=by
 rcases h with h|h
 ·unfold Rep at h;exact h
 ·exact h.elim
theorem rR.bl{c:Ctx}{σ:L2.St}{ρ:ĺ}{i:Bool}{v:V}(h:rR K c σ ρ F H (.bl i) v):v=.bl i:=by
 rcases h with h|h
 ·unfold Rep at h;exact h
 ·exact h.elim
theorem rR.non{c:Ctx}{σ:L2.St}{ρ:ĺ}{v:V}(h:rR K c σ ρ F H .non v):v=.non:=by
 rcases h with h|h
 ·unfold Rep at h;exact h
 ·exact h.elim
theorem rR.ty{c:Ctx}{σ:L2.St}{ρ:ĺ}{n:String}{v:V}(h:rR K c σ ρ F H (.ty n) v):v=.ty n:=by
 rcases h with h|h
 ·unfold Rep at h;exact h
 ·exact h.elim
theorem Rep.int{i:Int}:Rep K F (.int i) (.int i):=by unfold Rep;rfl
theorem Rep.str{i:Str}:Rep K F (.str i) (.str i):=by unfold Rep;rfl
theorem Rep.bl{i:Bool}:Rep K F (.bl i) (.bl i):=by unfold Rep;rfl
theorem Rep.non:Rep K F .non .non:=by unfold Rep;rfl
end
section
variable{X:Cx}{cm:String->Addr}{E:L2.St->XK}{a b e:Expr}{es:List Expr}{pos:Pos}{m ma mb mc:M PV}{mo:M RV}
def PT.wk{t t':TT}(h:PT X e t)(i:∀σ H Q,t' σ H Q->t σ H Q):PT X e t':=λpins s σ H Q I q=>h pins s σ H Q I (i σ H Q q)
def PA.wk{t t':TA}(h:PA X es t)(i:∀σ H Q,t' σ H Q->t σ H Q):PA X es t':=λpos pins s σ H Q I q=>h pos pins s σ H Q I (i σ H Q q)
def PW.wk{t t':TT}(h:PW X e t)(i:∀σ H Q,t' σ H Q->t σ H Q):PW X e t':=λwh pins s σ H Q I q=>h wh pins s σ H Q I (i σ H Q q)
def gK.wk{st:List Stmt}{t t':TS}(h:gK X st t)(i:∀D σ H,t' D σ H->t D σ H):gK X st t':=λpins s σ H D I q=>h pins s σ H D I (i D σ H q)
def v_var(i:Nat){x:Str}{pos:Pos}(hN:X.N[i]?=some x:=by rfl)(hv:yE X.env.scope x:=by first|exact Or.inl rfl|exact Or.inr (Or.inl rfl)|exact Or.inr (Or.inr rfl))(hd:(x== ("__debug__" :Str))=false:=by decide)
 (hcd:(x== ("__classdict__" :Str))=false:=by decide):PE X (.Name x pos) (tV (kk X cm) E (ğ i)):=PE.wk (eX hN hv hd hcd) λσ H Q ⟨c,F,ρ,rel,h⟩=>by
 unfold ğ at h
 split at h
 ·rename_i p e
  obtain⟨v,h1,h2⟩:=rel.slot i _ e
  exact⟨v,at_of h1,h v F H rel (Same.refl F) (Same.refl H) h2⟩
 ·rename_i ps e
  obtain⟨a,vs,h1,h2,h3,h4⟩:=rel.share e
  exact⟨.ref a,h1,h _ _ H h4 (Same.upd h2) (Same.refl H) h3⟩
 ·exact h.elim
def ā(i:Nat){x:Str}{pos:Pos}(hN:X.N[i]?=some x:=by rfl)(hv:yE X.env.scope x:=by first|exact Or.inl rfl|exact Or.inr (Or.inl rfl)|exact Or.inr (Or.inr rfl))(hd:(x== ("__debug__" :Str))=false:=by decide)
 (hcd:(x== ("__classdict__" :Str))=false:=by decide):PE X (.Name x pos) (tR (kk X cm) E (Ā i)):=PE.wk (eX hN hv hd hcd) λσ H Q ⟨c,F,ρ,rel,h⟩=>by
 unfold Ā at h
 split at h
 ·rename_i p e
  obtain⟨v,h1,h2⟩:=rel.slot i _ e
  exact⟨v,at_of h1,h v F H rel (Same.refl F) (Same.refl H) (.inl h2)⟩
 ·rename_i ps e
  obtain⟨a,vs,h1,h2,h3,h4,h5,_⟩:=rel.ow e
  exact⟨.ref a,h1,h _ F H rel (Same.refl F) (Same.refl H) (.inr ⟨a,vs,rfl,h2,h5⟩)⟩
 ·rename_i ps e
  obtain⟨a,vs,h1,h2,h3⟩:=rel.slot i _ e
  exact⟨.ref a,at_of h1,h _ F H rel (Same.refl F) (Same.refl H) (.inr ⟨a,vs,rfl,(rel.lent a _ h2).1,h3⟩)⟩
 ·rename_i C ns ps e
  obtain⟨a,dx,fs,h1,h2,h3,h4,h5,h6⟩:=rel.slot i _ e
  exact⟨.ref a,at_of h1,h _ F H rel (Same.refl F) (Same.refl H) (.inr ⟨a,dx,fs,rfl,h2,h5,h6.1⟩)⟩
 ·exact h.elim
def mJ(i:Nat){x:Str}{pos:Pos}(hN:X.N[i]?=some x:=by rfl)(hv:yE X.env.scope x:=by first|exact Or.inl rfl|exact Or.inr (Or.inl rfl)|exact Or.inr (Or.inr rfl))(hd:(x== ("__debug__" :Str))=false:=by decide)
 (hcd:(x== ("__classdict__" :Str))=false:=by decide):PE X (.Name x pos) (tO (kk X cm) E (gP i)):=PE.wk (eX hN hv hd hcd) λσ H Q ⟨c,F,ρ,rel,h⟩=>by
 unfold gP at h
 split at h
 ·rename_i p e
  obtain⟨v,h1,h2⟩:=rel.slot i _ e
  exact⟨v,at_of h1,h v F H rel (Same.refl F) (Same.refl H) h2⟩
 ·rename_i ps e
  obtain⟨a,vs,h1,h2,h3,h4,h5,h6⟩:=rel.ow e
  obtain⟨m1,m2⟩:=rel.move h6
  exact⟨.ref a,h1,h _ F H m1 (Same.refl F) (Same.refl H) ⟨a,vs,rfl,h2,h3,h4,m2,h5⟩⟩
 ·exact h.elim
def yR{v:V}(p:PV)(h:PE X e (tC v))(hr:∀F,Rep (kk X cm) F p v:=by intro _;unfold Rep;rfl):PE X e (tV (kk X cm) E (mC p)):=PE.wk h λσ H Q ⟨c,F,ρ,rel,h⟩=>h v F H rel (Same.refl F) (Same.refl H) (hr F)
def Ĥ{i j pos}:PE X (.Constant (.int i) j pos) (tV (kk X cm) E (mC (.int i))):=yR _ Bm
def ux{i j pos}:PE X (.Constant (.bool i) j pos) (tV (kk X cm) E (mC (.bl i))):=yR _ Xk
def uy{j pos}:PE X (.Constant .none j pos) (tV (kk X cm) E (mC .non)):=yR _ Rw
def ŵ{x j pos}:PE X (.Constant (.str x) j pos) (tV (kk X cm) E (mC (.str x))):=yR _ Rx
def Ě(h:PE X e (tV (kk X cm) E m)):PE X e (tR (kk X cm) E m):=PE.wk h λσ H Q ⟨c,F,ρ,rel,h⟩=>⟨c,F,ρ,rel,h.rel λ_ _ _ _ _ _ q=>.inl q⟩
def ű(h:PE X e (tV (kk X cm) E m)):PE X e (tO (kk X cm) E (ň m)):=PE.wk h λσ H Q ⟨c,F,ρ,rel,h⟩=>⟨c,F,ρ,rel,h.bind λp ρ1 v F1 H1 ē s1 s2 q h1=>h1 v F1 H1 ē (Same.refl _) (Same.refl _) q⟩
def Held.share{K:KK}{c:Ctx}{F H:Hp}{σ:L2.St}{ρ:ĺ}{ps:List PV}{v:V}(rel:Rel K c F H σ ρ)(h:Held K c σ ρ F H ps v):∃F1,Same F F1/\Rel K c F1 H σ ρ/\Rep K F1 (.lst ps) v:=by
 obtain⟨a,vs,rfl,h1,h2,h3,h4,h5⟩:=h
 refine⟨_,Same.upd h2,rel.freeze h1 h3 h2 h4,?_⟩
 unfold Rep
 exact⟨a,vs,rfl,Ũ.of Ğ,h5.same (Same.upd h2) ps vs⟩
def yQ.share{K:KK}{c:Ctx}{F H:Hp}{σ:L2.St}{ρ:ĺ}{ps qs rs:List PV}{v:V}(rel:Rel K c F H σ ρ)(h:yQ K c σ ρ F H ps qs rs v):∃F1,Same F F1/\Rel K c F1 H σ ρ/\Rep K F1 (.tup (ps ++ .lst qs::rs)) v:=by
 obtain⟨p,a,xs,vs,ys,rfl,h0,hx,h1,h2,h3,h4,h5,h6⟩:=h
 refine⟨_,Same.upd h2,rel.freeze h1 h3 h2 h4,?_⟩
 have ra:Rep K (upd F a (.lst vs)) (.lst qs) (.ref a):=by
  unfold Rep
  exact⟨a,vs,rfl,Ũ.of Ğ,h5.same (Same.upd h2) qs vs⟩
 unfold Rep
 exact⟨p,_,rfl,cY.of (Same.upd h2 _ _ h0),ĕ.append (hx.same (Same.upd h2) ps xs) (ĕ.cons ra (h6.same (Same.upd h2) rs ys))⟩
def Ĝ(h:PE X e (tO (kk X cm) E mo)):PE X e (tV (kk X cm) E (đ mo)):=PE.wk h λσ H Q ⟨c,F,ρ,rel,h⟩=>⟨c,F,ρ,rel,h.bind λr ρ1 v F1 H1 ē s1 s2 q h1=>by
 cases r with
 |sh p=>exact h1 v F1 H1 ē (Same.refl _) (Same.refl _) q
 |ow ps=>
  obtain⟨F2,s3,Ĳ,rp⟩:=Held.share ē q
  exact h1 v F2 H1 Ĳ s3 (Same.refl _) rp
 |ot ps qs rs=>
  obtain⟨F2,s3,Ĳ,rp⟩:=yQ.share ē q
  exact h1 v F2 H1 Ĳ s3 (Same.refl _) rp⟩
def Ă(f:PV->PV->Option PV)(ma mb:M PV):M PV:=λρ=>(ma ρ).bind λp ρ1=>(mb ρ1).bind λq ρ2=>Res.lW (f p q) ρ2
def ġ(f:PV->PV->Option RV)(ma mb:M PV):M RV:=λρ=>(ma ρ).bind λp ρ1=>(mb ρ1).bind λq ρ2=>Res.lW (f p q) ρ2
def iZ(K:KK)(r:R2)(f:PV->PV->Option PV):Prop:=∀{c:Ctx} {F H:Hp} {σ:L2.St} {ρ:ĺ} {p q pv:PV} {v u:V} {Q:VK},Rel K c F H σ ρ->rR K c σ ρ F H p v->rR K c σ ρ F H q u->f p q=some pv->
 (∀z F' H',Rel K c F' H' σ ρ->Same F F'->Same H H'->Rep K F' pv z->Q z H')->r v u H Q
def OpO(K:KK)(r:R2)(f:PV->PV->Option RV):Prop:=∀{c:Ctx} {F H:Hp} {σ:L2.St} {ρ:ĺ} {p q:PV} {pv:RV} {v u:V} {Q:VK},Rel K c F H σ ρ->rR K c σ ρ F H p v->rR K c σ ρ F H q u->f p q=some pv->
 (∀z F' H',Rel K c F' H' σ ρ->Same F F'->Same H H'->rO K c σ ρ F' H' pv z->Q z H')->r v u H Q
def yS{r:R2}{f:PV->PV->Option PV}(hf:iZ (kk X cm) r f){σ:L2.St}{H:Hp}{Q:VK}(h:tV (kk X cm) E (Ă f ma mb) σ H Q):RX r (tR (kk X cm) E ma) (tR (kk X cm) E mb) σ H Q:=by
 obtain⟨c,F,ρ,rel,h⟩:=h
 refine⟨c,F,ρ,rel,h.bind λp ρ1 v F1 H1 ē _ _ r1 h1=>⟨c,F1,ρ1,ē,h1.bind λq ρ2 u F2 H2 Ĳ sF sH r2 h2=>?_⟩⟩
 cases e:f p q with
 |none=>rw[e] at h2;exact h2.elim
 |some pv=>rw[e] at h2;exact hf Ĳ (r1.mono sF sH) r2 e λz F' H' ŷ s1 s2 q'=>h2 z F' H' ŷ s1 s2 q'
def Yl{r:R2}{f:PV->PV->Option RV}(hf:OpO (kk X cm) r f){σ:L2.St}{H:Hp}{Q:VK}(h:tO (kk X cm) E (ġ f ma mb) σ H Q):RX r (tR (kk X cm) E ma) (tR (kk X cm) E mb) σ H Q:=by
 obtain⟨c,F,ρ,rel,h⟩:=h
 refine⟨c,F,ρ,rel,h.bind λp ρ1 v F1 H1 ē _ _ r1 h1=>⟨c,F1,ρ1,ē,h1.bind λq ρ2 u F2 H2 Ĳ sF sH r2 h2=>?_⟩⟩
 cases e:f p q with
 |none=>rw[e] at h2;exact h2.elim
 |some pv=>rw[e] at h2;exact hf Ĳ (r1.mono sF sH) r2 e λz F' H' ŷ s1 s2 q'=>h2 z F' H' ŷ s1 s2 q'
def bx{op:Operator}{r:R2}{f:PV->PV->Option PV}(hf:iZ (kk X cm) r f)(ho:ũ X (binaryOp op) r)(ha:PE X a (tR (kk X cm) E ma))(hb:PE X b (tR (kk X cm) E mb)):PE X (.BinOp a op b pos) (tV (kk X cm) E (Ă f ma mb)):=PE.wk (Ky ho ha hb) λ_ _ _ h=>yS hf h
def Ym{op:Operator}{r:R2}{f:PV->PV->Option RV}(hf:OpO (kk X cm) r f)(ho:ũ X (binaryOp op) r)(ha:PE X a (tR (kk X cm) E ma))(hb:PE X b (tR (kk X cm) E mb)):PE X (.BinOp a op b pos) (tO (kk X cm) E (ġ f ma mb)):=PE.wk (Ky ho ha hb) λ_ _ _ h=>Yl hf h
def pX{op:CmpOp}{r:R2}{f:PV->PV->Option PV}(hf:iZ (kk X cm) r f)(ho:ũ X (compareOp op) r)(ha:PE X a (tR (kk X cm) E ma))(hb:PE X b (tR (kk X cm) E mb))(hm:behindInMarks op b=false):PE X (.Compare a [op] [b] pos) (tV (kk X cm) E (Ă f ma mb)):=
 PE.wk (Io ho ha hb hm) λ_ _ _ h=>yS hf h
def Zb3{r:R2}{f:PV->PV->Option PV}(hf:iZ (kk X cm) r f)(hr:wz X r)(ha:PE X a (tR (kk X cm) E ma))(hb:PE X b (tR (kk X cm) E mb))(hs:lU b):PE X (.Subscript a b pos) (tV (kk X cm) E (Ă f ma mb)):=
 PE.wk (Kz hr ha hb hs) λ_ _ _ h=>yS hf h
def bI(f:PV->Option PV)(ma:M PV):M PV:=λρ=>(ma ρ).bind λp ρ1=>Res.lW (f p) ρ1
def UnV(K:KK)(r:V->Hp->VK->Prop)(f:PV->Option PV):Prop:=∀{c:Ctx} {F H:Hp} {σ:L2.St} {ρ:ĺ} {p pv:PV} {v:V} {Q:VK},Rel K c F H σ ρ->rR K c σ ρ F H p v->f p=some pv->
 (∀z F' H',Rel K c F' H' σ ρ->Same F F'->Same H H'->Rep K F' pv z->Q z H')->r v H Q
def pB{op:UnaryOp}{r:V->Hp->VK->Prop}{f:PV->Option PV}(hf:UnV (kk X cm) r f)(ho:Ij X (unaryOp op) r)(ha:PE X a (tR (kk X cm) E ma)):PE X (.UnaryOp op a pos) (tV (kk X cm) E (bI f ma)):=PE.wk (Xr ho ha) λσ H Q ⟨c,F,ρ,rel,h⟩=>
 ⟨c,F,ρ,rel,h.bind fun p ρ1 v F1 H1 ē _ _ r1 h1=>by
   cases e:f p with
   |none=>rw[e] at h1;exact h1.elim
   |some pv=>rw[e] at h1;exact hf ē r1 e λz F' H' ŷ s1 s2 q'=>h1 z F' H' ŷ s1 s2 q'⟩
def Uc:PV->Option Bool
 | .bl b=>some b
 | .int i=>some (i != 0)
 | .non=>some false
 | .str y=>if y.length<=sizeLine then some ((y.length:Int) != 0) else none
 | .lst ps=>some (!ps.isEmpty)
 | .tup ps=>some (!ps.isEmpty)
 |_=>none
def bF(m:M PV):M Bool:=λρ=>(m ρ).bind λp ρ1=>Res.lW (Uc p) ρ1
def Yn{K:KK}{c:Ctx}{F H:Hp}{σ:L2.St}{ρ:ĺ}{p:PV}{v:V}{k:Bool}(s:Same F H)(r:rR K c σ ρ F H p v)(h:Uc p=some k):Sy K.K v H k:=by
 cases p with
 |bl b=>cases r.bl;cases h;rfl
 |int i=>cases r.int;cases h;rfl
 |non=>cases r.non;cases h;rfl
 |str y=>
  cases r.str
  have h':(if y.length<=sizeLine then some ((y.length:Int) != 0) else none)=some k:=h
  split at h'
  ·rename_i hy;cases h';exact⟨hy,rfl⟩
  ·cases h'
 |lst ps=>
  obtain⟨a,vs,rfl,h1,h2⟩:=r.lst s
  cases h
  have e:ps.isEmpty=vs.isEmpty:=by cases h2.pr<;>rfl
  exact .inl ⟨vs,h1,by rw[e]⟩
 |tup ps=>
  obtain⟨a,vs,rfl,h1,h2⟩:=r.tup s
  cases h
  have e:ps.isEmpty=vs.isEmpty:=by cases h2.pr<;>rfl
  exact .inr (.inl ⟨vs,h1,by rw[e]⟩)
 |ins C ns ps=>cases h
 |xc C ns ps=>cases h
 |ty n=>cases h
 |cls C=>cases h
def aB(ha:PE X a (tR (kk X cm) E ma))(he:∀whole,isTrue a X.env whole=(do let v <-whole;standAt a.pos;holding [v] (truthy v)):=by intro _;rfl):PT X a (tB (kk X cm) E (bF ma)):=PT.wk (BK ha he) λσ H Q ⟨c,F,ρ,rel,h⟩=>
 ⟨c,F,ρ,rel,h.bind fun p ρ1 v F1 H1 ē _ _ r1 h1=>by
   cases e:Uc p with
   |none=>rw[e] at h1;exact h1.elim
   |some k=>rw[e] at h1;exact⟨k,Yn ē.sub r1 e,h1 k F1 H1 ē (Same.refl _) (Same.refl _) rfl⟩⟩
def aq(m:M PV):M Bool:=λρ=>(m ρ).bind λp ρ1=>match p with
 | .bl b=>.ok b ρ1
 |_=>.bad
def Yo{σ:L2.St}{H:Hp}{Q:Bool->Hp->Prop}(h:tB (kk X cm) E (aq m) σ H Q):M2.KC (tV (kk X cm) E m) σ H Q:=by
 obtain⟨c,F,ρ,rel,h⟩:=h
 refine⟨c,F,ρ,rel,h.bind λp ρ1 v F1 H1 ē _ _ r1 h1=>?_⟩
 cases p with
 |bl b=>
  have e:v=.bl b:=by have r1':Rep (kk X cm) F1 (.bl b) v:=r1;unfold Rep at r1';exact r1'
  subst e
  exact h1 b F1 H1 ē (Same.refl _) (Same.refl _) rfl
 |_=>exact h1.elim
def aC{op:CmpOp}{r:R2}{f:PV->PV->Option PV}(hf:iZ (kk X cm) r f)(ho:ũ X (compareOp op) r)(ha:PE X a (tR (kk X cm) E ma))(hb:PE X b (tR (kk X cm) E mb))(hm:behindInMarks op b=false):PT X (.Compare a [op] [b] pos) (tB (kk X cm) E (aq (Ă f ma mb))):=
 PT.wk (Tf ho ha hb hm) fun σ H Q h=>by
   obtain⟨c,F,ρ,rel,h⟩:=Yo h
   exact yS hf ⟨c,F,ρ,rel,h⟩
def mK(f g:PV->PV->Option PV)(ma mb mc:M PV):M PV:=λρ=>(ma ρ).bind λp ρ1=>(mb ρ1).bind λq ρ2=>(Res.lW (f p q) ρ2).bind λz ρ3=>match z with
 | .bl true=>(mc ρ3).bind λw ρ4=>Res.lW (g q w) ρ4
 | .bl false=>.ok (.bl false) ρ3
 |_=>.bad
def Yp{r r':R2}{f g:PV->PV->Option PV}(hf:iZ (kk X cm) r f)(hg:iZ (kk X cm) r' g){σ:L2.St}{H:Hp}{Q:VK}(h:tV (kk X cm) E (mK f g ma mb mc) σ H Q):M2.Cm r r' (tR (kk X cm) E ma) (tR (kk X cm) E mb) (tR (kk X cm) E mc) σ H Q:=by
 obtain⟨c,F,ρ,rel,h⟩:=h
 refine⟨c,F,ρ,rel,h.bind λp ρ1 v F1 H1 ē _ _ r1 h1=>⟨c,F1,ρ1,ē,h1.bind λq ρ2 u F2 H2 Ĳ sF sH r2 h2=>?_⟩⟩
 cases e:f p q with
 |none=>rw[e] at h2;exact h2.elim
 |some pv=>
  rw[e] at h2
  refine hf Ĳ (r1.mono sF sH) r2 e λz F' H' ŷ s1 s2 q'=>?_
  cases pv with
  |bl k=>
   have ez:z=.bl k:=by unfold Rep at q';exact q'
   subst ez
   cases k with
   |false=>exact h2 _ F' H' ŷ s1 s2 q'
   |true=>
    refine⟨c,F',ρ2,ŷ,aA.bind (aA.mono h2 s1 s2) λw ρ4 x F4 H4 Di s3 s4 r4 h4=>?_⟩
    cases e':g q w with
    |none=>rw[e'] at h4;exact h4.elim
    |some pv'=>rw[e'] at h4;exact hg Di (r2.mono (s1.trans s3) (s2.trans s4)) r4 e' λz F' H' ŷ s1 s2 q'=>h4 z F' H' ŷ s1 s2 q'
  |_=>exact h2.elim
def kj{op op':CmpOp}{r r':R2}{f g:PV->PV->Option PV}{c:Expr}(hf:iZ (kk X cm) r f)(hg:iZ (kk X cm) r' g)(ho:ũ X (compareOp op) r)(ho':ũ X (compareOp op') r')(ha:PE X a (tR (kk X cm) E ma))(hb:PE X b (tR (kk X cm) E mb))(hc:PE X c (tR (kk X cm) E mc))
 (hm:lastMarks [op,op'] [b,c]=false:=by with_unfolding_all rfl):PE X (.Compare a [op,op'] [b,c] pos) (tV (kk X cm) E (mK f g ma mb mc)):=PE.wk (Cp ho ho' ha hb hc hm) λ_ _ _ h=>Yp hf hg h
def bJ(m:M Bool):M Bool:=λρ=>(m ρ).bind λb ρ1=>.ok (!b) ρ1
def gQ{m:M Bool}(h:PT X a (tB (kk X cm) E m)):PT X (.UnaryOp .Not a pos) (tB (kk X cm) E (bJ m)):=PT.wk (RD h) λσ H Q ⟨c,F,ρ,rel,h⟩=>
 ⟨c,F,ρ,rel,h.bind λp ρ1 v F1 H1 ē _ _ r1 h1=>h1 _ F1 H1 ē (Same.refl _) (Same.refl _) (by have e:p=v:=r1;rw[e];rfl)⟩
def gR(ma mb:M Bool):M Bool:=λρ=>(ma ρ).bind λb ρ1=>if b=true then mb ρ1 else .ok false ρ1
def i_(ma mb:M Bool):M Bool:=λρ=>(ma ρ).bind λb ρ1=>if b=true then .ok true ρ1 else mb ρ1
variable{ta tb:M Bool}{rest:List Expr}
def fj(h:PT X a (tB (kk X cm) E ta)):PW X (.BoolOp .And [a] pos) (tB (kk X cm) E ta):=Ia h
def pY(h:PT X a (tB (kk X cm) E ta)):PW X (.BoolOp .Or [a] pos) (tB (kk X cm) E ta):=Ry h
def w_and(ha:PT X a (tB (kk X cm) E ta))(hb:PW X (.BoolOp .And (b::rest) pos) (tB (kk X cm) E tb)):PW X (.BoolOp .And (a::b::rest) pos) (tB (kk X cm) E (gR ta tb)):=PW.wk (Rz ha hb) λσ H Q ⟨c,F,ρ,rel,h⟩=>
 ⟨c,F,ρ,rel,h.bind fun p ρ1 v F1 H1 ē _ _ r1 h1=>by
   have e:p=v:=r1
   subst e
   cases p with
   |true=>exact⟨c,F1,ρ1,ē,h1⟩
   |false=>exact h1 false F1 H1 ē (Same.refl _) (Same.refl _) rfl⟩
def w_or(ha:PT X a (tB (kk X cm) E ta))(hb:PW X (.BoolOp .Or (b::rest) pos) (tB (kk X cm) E tb)):PW X (.BoolOp .Or (a::b::rest) pos) (tB (kk X cm) E (i_ ta tb)):=PW.wk (Xl ha hb) λσ H Q ⟨c,F,ρ,rel,h⟩=>
 ⟨c,F,ρ,rel,h.bind fun p ρ1 v F1 H1 ē _ _ r1 h1=>by
   have e:p=v:=r1
   subst e
   cases p with
   |false=>exact⟨c,F1,ρ1,ē,h1⟩
   |true=>exact h1 true F1 H1 ē (Same.refl _) (Same.refl _) rfl⟩
def fu(ma mb:M PV):M PV:=λρ=>(ma ρ).bind λp ρ1=>match p with
 | .bl true=>mb ρ1
 | .bl false=>.ok (.bl false) ρ1
 |_=>.bad
def Ud(ma:M PV):M PV:=λρ=>(ma ρ).bind λp ρ1=>match p with
 | .bl b=>.ok (.bl (!b)) ρ1
 |_=>.bad
def q_{K:KK}{F:Hp}{b:Bool}{v:V}(h:Rep K F (.bl b) v):v=.bl b:=by unfold Rep at h;exact h
def jc{op}(h:PE X a (tV (kk X cm) E ma)):PE X (.BoolOp op [a] pos) (tV (kk X cm) E ma):=RJ h
def v_and(ha:PE X a (tV (kk X cm) E ma))(hb:PE X (.BoolOp .And (b::rest) pos) (tV (kk X cm) E mb)):PE X (.BoolOp .And (a::b::rest) pos) (tV (kk X cm) E (fu ma mb)):=PE.wk (Ti ha hb) λσ H Q ⟨c,F,ρ,rel,h⟩=>
 ⟨c,F,ρ,rel,h.bind fun p ρ1 v F1 H1 ē _ _ r1 h1=>by
   cases p with
   |bl k=>
    cases q_ r1
    cases k with
    |true=>exact⟨c,F1,ρ1,ē,h1⟩
    |false=>exact h1 _ F1 H1 ē (Same.refl _) (Same.refl _) r1
   |_=>exact h1.elim⟩
def v_not(ha:PE X a (tV (kk X cm) E ma)):PE X (.UnaryOp .Not a pos) (tV (kk X cm) E (Ud ma)):=PE.wk (Tj ha) λσ H Q ⟨c,F,ρ,rel,h⟩=>
 ⟨c,F,ρ,rel,h.bind fun p ρ1 v F1 H1 ē _ _ r1 h1=>by
   cases p with
   |bl k=>
    cases q_ r1
    exact h1 _ F1 H1 ē (Same.refl _) (Same.refl _) Rep.bl
   |_=>exact h1.elim⟩
def bG{α:Type}(t:M Bool)(ma mb:M α):M α:= λρ=>(t ρ).bind λb ρ1=>if b=true then ma ρ1 else mb ρ1
def Yq{α:Type}{R:RR α V}{c':Expr}{ma mb:M α}(hc:PT X c' (tB (kk X cm) E ta))(ha:PE X a (tG (kk X cm) E R ma))(hb:PE X b (tG (kk X cm) E R mb)):PE X (.IfExp c' a b pos) (tG (kk X cm) E R (bG ta ma mb)):=PE.wk (Bo hc ha hb) λσ H Q ⟨c,F,ρ,rel,h⟩=>
 ⟨c,F,ρ,rel,h.bind fun p ρ1 v F1 H1 ē _ _ r1 h1=>by
   have e:p=v:=r1
   subst e
   cases p with
   |true=>exact⟨c,F1,ρ1,ē,h1⟩
   |false=>exact⟨c,F1,ρ1,ē,h1⟩⟩
def ė:M (List PV):=λρ=>.ok [] ρ
def ą(ma:M PV)(mr:M (List PV)):M (List PV):=λρ=>(ma ρ).bind λp ρ1=>(mr ρ1).bind λps ρ2=>.ok (p::ps) ρ2
variable{mr:M (List PV)}
def ě:PA X [] (tL (kk X cm) E ė):=PA.wk jA λσ H Q ⟨c,F,ρ,rel,h⟩=>h [] F H rel (Same.refl _) (Same.refl _) ĕ.nil
def Ć(ha:PE X e (tV (kk X cm) E ma))(hr:PA X es (tL (kk X cm) E mr))(hs:starEach (e::es) X.env=(false,eval e X.env)::starEach es X.env:=by exact aM rfl):PA X (e::es) (tL (kk X cm) E (ą ma mr)):=PA.wk (aP ha hr hs) λσ H Q ⟨c,F,ρ,rel,h⟩=>
 ⟨c,F,ρ,rel,h.bind λp ρ1 v F1 H1 ē _ _ r1 h1=>⟨c,F1,ρ1,ē,h1.bind λps ρ2 vs F2 H2 Ĳ sF sH r2 h2=>h2 _ F2 H2 Ĳ (Same.refl _) (Same.refl _) (ĕ.cons (Rep.same sF p v r1) r2)⟩⟩
def Ġ:PA X [] (Jr (kk X cm) E ė):=PA.wk jA λσ H Q ⟨c,F,ρ,rel,h⟩=>h [] F H rel (Same.refl _) (Same.refl _) .nil
def Ė(ha:PE X e (tR (kk X cm) E ma))(hr:PA X es (Jr (kk X cm) E mr))(hs:starEach (e::es) X.env=(false,eval e X.env)::starEach es X.env:=by exact aM rfl):PA X (e::es) (Jr (kk X cm) E (ą ma mr)):=PA.wk (aP ha hr hs) λσ H Q ⟨c,F,ρ,rel,h⟩=>
 ⟨c,F,ρ,rel,h.bind λp ρ1 v F1 H1 ē _ _ r1 h1=>⟨c,F1,ρ1,ē,h1.bind λps ρ2 vs F2 H2 Ĳ sF sH r2 h2=>h2 _ F2 H2 Ĳ (Same.refl _) (Same.refl _) (.cons (rR.mono r1 sF sH) r2)⟩⟩
def Ċ:M (List Slot):=λρ=>.ok [] ρ
def Ĉ(ma:M PV)(mr:M (List Slot)):M (List Slot):=λρ=>(ma ρ).bind λp ρ1=>(mr ρ1).bind λas ρ2=>.ok (.sh p::as) ρ2
def cL:Slot->Option Slot
 | .sh p=>some (.sh p)
 | .ow ps=>some (.bw ps)
 | .bw ps=>some (.bw ps)
 |_=>none
def Ą(i:Nat)(mr:M (List Slot)):M (List Slot):=λρ=>match(ρ[i]?).bind cL with
 |none=>.bad
 |some _=>(mr ρ).bind λas ρ2=>match(ρ2[i]?).bind cL with
  |some s=>.ok (s::as) ρ2
  |none=>.bad
variable{ms:M (List Slot)}
def ď:PA X [] (tA (kk X cm) E Ċ):=PA.wk jA λσ H Q ⟨c,F,ρ,rel,h⟩=>h [] F H rel (Same.refl _) (Same.refl _) .nil
def ċ(ha:PE X e (tV (kk X cm) E ma))(hr:PA X es (tA (kk X cm) E ms))(hs:starEach (e::es) X.env=(false,eval e X.env)::starEach es X.env:=by exact aM rfl):PA X (e::es) (tA (kk X cm) E (Ĉ ma ms)):=PA.wk (aP ha hr hs) λσ H Q ⟨c,F,ρ,rel,h⟩=>
 ⟨c,F,ρ,rel,h.bind λp ρ1 v F1 H1 ē _ _ r1 h1=>⟨c,F1,ρ1,ē,h1.bind λas ρ2 vs F2 H2 Ĳ sF sH r2 h2=>h2 _ F2 H2 Ĳ (Same.refl _) (Same.refl _) (.cons (show bh _ _ _ (.sh p) v from Rep.same sF p v r1) r2)⟩⟩
def yU{K:KK}{c:Ctx}{F H:Hp}{σ:L2.St}{ρ:ĺ}{i:Nat}{s:Slot}(rel:Rel K c F H σ ρ)(h:(ρ[i]?).bind cL=some s):∃v,σ[i]?=some (some v)/\bh K F H s v:=by
 cases e:ρ[i]? with
 |none=>rw[e] at h;cases h
 |some sl=>
  rw[e] at h
  have h':cL sl=some s:=h
  cases sl with
  |sh p=>
   cases h'
   obtain⟨v,h1,h2⟩:=rel.slot i _ e
   exact⟨v,at_of h1,h2⟩
  |ow ps=>
   cases h'
   obtain⟨a,vs,h1,h2,h3,h4,h5,_⟩:=rel.ow e
   exact⟨.ref a,h1,a,vs,rfl,h2,h3,h5⟩
  |bw ps=>
   cases h'
   obtain⟨a,vs,h1,h2,h3⟩:=rel.slot i _ e
   exact⟨.ref a,at_of h1,a,vs,rfl,(rel.lent a _ h2).1,(rel.lent a _ h2).2,h3⟩
  |no=>cases h'
  |rc C ns ps=>cases h'
  |ot ps qs rs=>cases h'
  |ol Bg=>cases h'
def Js(i:Nat){x:Str}{px:Pos}(hN:X.N[i]?=some x:=by rfl)(hv:yE X.env.scope x:=by first|exact Or.inl rfl|exact Or.inr (Or.inl rfl)|exact Or.inr (Or.inr rfl))(hd:(x== ("__debug__" :Str))=false:=by decide)
 (hcd:(x== ("__classdict__" :Str))=false:=by decide)(hr:PA X es (tA (kk X cm) E ms))(hs:starEach (.Name x px::es) X.env=(false,eval (.Name x px) X.env)::starEach es X.env:=by exact aM rfl):PA X (.Name x px::es) (tA (kk X cm) E (Ą i ms)):=
 PA.wk (aP (eX hN hv hd hcd) hr hs) fun σ H Q ⟨c,F,ρ,rel,h⟩=>by
   unfold Ą at h
   cases e:(ρ[i]?).bind cL with
   |none=>rw[e] at h;exact h.elim
   |some s0=>
    rw[e] at h
    obtain⟨v,hv,_⟩:=yU rel e
    refine⟨v,hv,c,F,ρ,rel,aA.bind h λas ρ2 vs F2 H2 Ĳ sF sH r2 h2=>?_⟩
    cases e2:(ρ2[i]?).bind cL with
    |none=>simp only[e2] at h2;exact h2.elim
    |some s=>
     simp only[e2] at h2
     obtain⟨v',hv',r1⟩:=yU Ĳ e2
     rw[hv] at hv'
     cases hv'
     exact h2 _ F2 H2 Ĳ (Same.refl _) (Same.refl _) (.cons r1 r2)
def ŉ(mr:M (List PV)):M PV:=λρ=>(mr ρ).bind λps ρ1=>if ps.length<=16777216 then .ok (.tup ps) ρ1 else .bad
def Ž(mr:M (List PV)):M RV:=λρ=>(mr ρ).bind λps ρ1=>if ps.length<=16777216 then .ok (.ow ps) ρ1 else .bad
def ĳ:sizeLine=16777216:=sizeLine_eq
def Ĺ{x1}(h:PA X es (tL (kk X cm) E mr)):PE X (.Tuple es x1 pos) (tV (kk X cm) E (ŉ mr)):=PE.wk (BX h) λσ H Q ⟨c,F,ρ,rel,h⟩=>
 ⟨c,F,ρ,rel,h.bind fun ps ρ1 vs F1 H1 ē _ _ r1 h1=>by
   split at h1
   ·rename_i hz
    refine⟨by rw[<-ĕ.length r1,ĳ];exact hz,λp hp=>h1 _ _ _ (ē.alloc hp) (Same.upd (ē.sub.free hp)) (Same.upd hp) ?_⟩
    show Rep _ _ _ _
    unfold Rep
    exact⟨p,vs,rfl,cY.of Ğ,ĕ.same (Same.upd (ē.sub.free hp)) ps vs r1⟩
   ·exact h1.elim⟩
def cM{K:KK}{c:Ctx}{F H:Hp}{σ:L2.St}{ρ:ĺ}{ps:List PV}{vs:List V}{a:Addr}(rel:Rel K c F H σ ρ)(ha:H a=none)(r:ĕ K F ps vs):Rel K c F (upd H a (.lst vs)) σ ρ/\Held K c σ ρ F (upd H a (.lst vs)) ps (.ref a):=
 ⟨rel.made ha,a,vs,rfl,Ğ,rel.sub.free ha,rel.base.free ha,rel.fresh ha,r⟩
def Ŝ(h:PA X es (tL (kk X cm) E mr)):PE X (.List es pos) (tO (kk X cm) E (Ž mr)):=PE.wk (SQ h) λσ H Q ⟨c,F,ρ,rel,h⟩=>
 ⟨c,F,ρ,rel,h.bind fun ps ρ1 vs F1 H1 ē _ _ r1 h1=>by
   split at h1
   ·rename_i hz
    refine⟨by rw[<-ĕ.length r1,ĳ];exact hz,λp hp=>?_⟩
    obtain⟨q1,q2⟩:=cM ē hp r1
    exact h1 _ _ _ q1 (Same.refl _) (Same.upd hp) q2
   ·exact h1.elim⟩
def aG(f:List PV->Option PV)(mr:M (List PV)):M PV:=λρ=>(mr ρ).bind λps ρ1=>Res.lW (f ps) ρ1
def lC(f:List PV->Option RV)(mr:M (List PV)):M RV:=λρ=>(mr ρ).bind λps ρ1=>Res.lW (f ps) ρ1
def cO(K:KK)(r:List V->Hp->VK->Prop)(f:List PV->Option PV):Prop:=∀{c:Ctx} {F H:Hp} {σ:L2.St} {ρ:ĺ} {ps:List PV} {pv:PV} {vs:List V} {Q:VK},Rel K c F H σ ρ->Yk K c σ ρ F H ps vs->f ps=some pv->
 (∀z F' H',Rel K c F' H' σ ρ->Same F F'->Same H H'->Rep K F' pv z->Q z H')->r vs H Q
def Dj(K:KK)(r:List V->Hp->VK->Prop)(f:List PV->Option RV):Prop:=∀{c:Ctx} {F H:Hp} {σ:L2.St} {ρ:ĺ} {ps:List PV} {pv:RV} {vs:List V} {Q:VK},Rel K c F H σ ρ->Yk K c σ ρ F H ps vs->f ps=some pv->
 (∀z F' H',Rel K c F' H' σ ρ->Same F F'->Same H H'->rO K c σ ρ F' H' pv z->Q z H')->r vs H Q
def Yr{r:List V->Hp->VK->Prop}{f:List PV->Option PV}(hf:cO (kk X cm) r f){σ:L2.St}{H:Hp}{Q:VK}(h:tV (kk X cm) E (aG f mr) σ H Q):tCB r (Jr (kk X cm) E mr) σ H Q:=by
 obtain⟨c,F,ρ,rel,h⟩:=h
 refine⟨c,F,ρ,rel,h.bind λp ρ1 v F1 H1 ē _ _ r1 h1=>?_⟩
 cases e:f p with
 |none=>rw[e] at h1;exact h1.elim
 |some pv=>rw[e] at h1;exact hf ē r1 e λz F' H' ŷ s1 s2 q'=>h1 z F' H' ŷ s1 s2 q'
def Zb4{r:List V->Hp->VK->Prop}{f:List PV->Option RV}(hf:Dj (kk X cm) r f){σ:L2.St}{H:Hp}{Q:VK}(h:tO (kk X cm) E (lC f mr) σ H Q):tCB r (Jr (kk X cm) E mr) σ H Q:=by
 obtain⟨c,F,ρ,rel,h⟩:=h
 refine⟨c,F,ρ,rel,h.bind λp ρ1 v F1 H1 ē _ _ r1 h1=>?_⟩
 cases e:f p with
 |none=>rw[e] at h1;exact h1.elim
 |some pv=>rw[e] at h1;exact hf ē r1 e λz F' H' ŷ s1 s2 q'=>h1 z F' H' ŷ s1 s2 q'
end
end P
namespace P
open PySem PySem.Spec PyProof.Rows L2 M2 M3
def dB:M Fl:=λρ=>.ok .nx ρ
def Ę(a b:M Fl):M Fl:=λρ=>(a ρ).bind λf ρ1=>match f with
 | .nx=>b ρ1
 |f=>.ok f ρ1
def ĥ(i:Nat)(m:M RV):M Fl:=λρ=>(m ρ).bind λr ρ1=>.ok .nx (ρ1.set i r.slot)
def ģ(m:M RV):M Fl:=λρ=>(m ρ).bind λr ρ1=>.ok (.rt r) ρ1
def uz(m:M PV):M Fl:=λρ=>(m ρ).bind λ_ ρ1=>.ok .nx ρ1
section
variable{X:Cx}{cm:String->Addr}{E:L2.St->XK}{a b e:Expr}{st:Stmt}{rest:List Stmt}{es:List Expr}{pos:Pos}{m1 m2:M Fl}{mo:M RV}{mv:M PV}
def į:gK X [] (tS (kk X cm) E dB):=gK.wk Ib λD σ H ⟨c,F,ρ,rel,h⟩=>h σ F H rel (Same.refl F)
def Į(h:PS X st (tS (kk X cm) E m1)):gK X [st] (tS (kk X cm) E m1):=Ie h
def Jt{c:Ctx}{F:Hp}{D:Ends}{r:Res Fl}(h:Ū (kk X cm) E c F D (r.bind λf ρ1=>match f with| .nx=>m2 ρ1|f=>.ok f ρ1)):Ū (kk X cm) E c F {D with nx:=tS (kk X cm) E m2 D} r:=by
 cases r with
 |ok f ρ1=>
  cases f with
  |nx=>exact λσ' F' H' ŷ s=>⟨c,F',ρ1,ŷ,Ū.mono h s⟩
  |bk=>exact h
  |ct=>exact h
  |rt v=>exact h
 |exc x ρ1=>exact h
 |bad=>exact h
def Ĕ(h1:PS X st (tS (kk X cm) E m1))(h2:gK X rest (tS (kk X cm) E m2)):gK X (st::rest) (tS (kk X cm) E (Ę m1 m2)):=gK.wk (Bp h1 h2) λD σ H ⟨c,F,ρ,rel,h⟩=>⟨c,F,ρ,rel,Jt h⟩
def Ys{i:Nat}{x:Str}{pos':Pos}(hN:X.N.Nodup)(hi:X.N[i]?=some x)(hx:Loc X.env.scope x)(he:PE X e (tO (kk X cm) E mo))(hs:swapsWith e (some (.Name x pos')) pos.line X.env=pure false:=by rfl)(hf:X.fn x=true\/X.env.scope.names.lookup x=some .local:=by first|exact .inl rfl|exact .inr rfl|assumption) :
 PS X (.Assign [.Name x pos'] e pos) (tS (kk X cm) E (ĥ i mo)):=PS.wk (RN hN hi hx he hs hf) λD σ H ⟨c,F,ρ,rel,h⟩=>⟨c,F,ρ,rel,Ū.bind h λr ρ1 v F1 H1 ē s1 q h1=>by
 cases r with
 |sh p=>exact h1 _ F1 H1 (ē.put rfl ⟨v,rfl,q⟩) (Same.refl _)
 |ow ps=>
  obtain⟨a,vs,rfl,q1,q2,q3,q4,q5⟩:=q
  exact h1 _ F1 H1 (ē.Jp ⟨a,vs,rfl,q1,q2,q3,q5⟩ λ_ z=>V.ref.inj z▸q4) (Same.refl _)
 |ot ps qs rs=>
  obtain⟨p,a,xs,vs,ys,rfl,q0,qx,q1,q2,q3,q4,q5,q6⟩:=q
  exact h1 _ F1 H1 (ē.Jp (s:=.ot ps qs rs) ⟨p,a,xs,vs,ys,rfl,q0,qx,q1,q2,q3,q5,q6⟩ λ_ z=>gD (ps:=ps) (qs:=qs) (rs:=rs) z ⟨p,xs,ys,rfl,q0,qx.length.symm⟩▸q4) (Same.refl _)⟩
def Yt(he:PE X e (tO (kk X cm) E mo)):PS X (.Return (some e) pos) (tS (kk X cm) E (ģ mo)):=PS.wk (RK he) λD σ H ⟨c,F,ρ,rel,h⟩=>⟨c,F,ρ,rel,Ū.bind h λr ρ1 v F1 H1 ē s1 q h1=>h1 v σ F1 H1 ē (Same.refl _) q⟩
def wD(he:PE X e (tV (kk X cm) E mv))(hs:swapsWith e none pos.line X.env=pure false:=by rfl):PS X (.Expr e pos) (tS (kk X cm) E (uz mv)):=PS.wk (Ÿ he hs) λD σ H ⟨c,F,ρ,rel,h⟩=>⟨c,F,ρ,rel,Ū.bind h λr ρ1 v F1 H1 ē s1 q h1=>h1 σ F1 H1 ē (Same.refl _)⟩
def Ş{t:M Bool}{ss ss':List Stmt}(hc:PT X a (tB (kk X cm) E t))(ha:gK X ss (tS (kk X cm) E m1))(hb:gK X ss' (tS (kk X cm) E m2)):PS X (.If a ss ss' pos) (tS (kk X cm) E (bG t m1 m2)):=PS.wk (Xn hc ha hb) λD σ H ⟨c,F,ρ,rel,h⟩=>⟨c,F,ρ,rel,Ū.bind h λr ρ1 v F1 H1 ē s1 q h1=>by
 have e:r=v:=q
 subst e
 cases r with
 |true=>exact⟨c,F1,ρ1,ē,h1⟩
 |false=>exact⟨c,F1,ρ1,ē,h1⟩⟩
def Dk{α:Type}:M α:= λ_=>.bad
def rm:PS X st (tS (kk X cm) E Dk):=PS.wk Br λD σ H ⟨c,F,ρ,rel,h⟩=>h
abbrev Tg:=PV->ĺ->Option ĺ
abbrev Bh:=List PV->ĺ->Option ĺ
def Yu(K:KK)(c:Ctx)(F H:Hp)(Q:L2.St->Hp->Prop):Option ĺ->Prop
 |some ρ'=>∀σ',Rel K c F H σ' ρ'->Q σ' H
 |none=>False
def tT(K:KK)(g:Tg):TG:=λv σ H Q=>∃c F ρ p,Rel K c F H σ ρ/\Rep K F p v/\Yu K c F H Q (g p ρ)
def Yw(K:KK)(g:Bh):Bt:=λv σ H Q=>∃c F ρ p,Rel K c F H σ ρ/\ĕ K F p v/\Yu K c F H Q (g p ρ)
def gN(i:Nat):Tg:=λp ρ=>some (ρ.set i (.sh p))
def aD:Bh:=λps ρ=>match ps with
 | []=>some ρ
 |_=>none
def ĩ(g:Tg)(gs:Bh):Bh:=λps ρ=>match ps with
 |p::ps=>(g p ρ).bind λρ1=>gs ps ρ1
 | []=>none
def gT(n:Nat)(gs:Bh):Tg:=λp ρ=>match p with
 | .tup ps=>if ps.length=n then gs ps ρ else none
 |_=>none
def PG.wk'{tg:Expr}{t t':TG}(h:PG X tg t)(i:∀v σ H Q,t' v σ H Q->t v σ H Q):PG X tg t':=λpins s σ H v u Q I r q=>h pins s σ H v u Q I r (i v σ H Q q)
def vK.wk{tg:List Expr}{t t':Bt}(h:vK X tg t)(i:∀v σ H Q,t' v σ H Q->t v σ H Q):vK X tg t':=λpins s σ H v u Q I r q=>h pins s σ H v u Q I r (i v σ H Q q)
def Dl{i:Nat}{x:Str}(hN:X.N.Nodup)(hi:X.N[i]?=some x)(hx:Loc X.env.scope x)(hf:X.fn x=true\/X.env.scope.names.lookup x=some .local:=by first|exact .inl rfl|exact .inr rfl|assumption):PG X (.Name x pos) (tT (kk X cm) (gN i)):=
 PG.wk' (Ig hN hi hx hf) λv σ H Q ⟨c,F,ρ,p,rel,rp,h⟩=>h _ (rel.put rfl ⟨v,rfl,rp⟩)
def jG:vK X [] (Yw (kk X cm) aD):=vK.wk Ih λv σ H Q ⟨c,F,ρ,p,rel,rp,h⟩=>by
 cases p with
 |nil=>
  have e:v=[]:=by have:=rp;unfold ĕ at this;exact this
  exact⟨e,h σ rel⟩
 |cons _ _=>exact h.elim
def ŝ{es:List Expr}{g:Tg}{gs:Bh}(h1:PG X e (tT (kk X cm) g))(h2:vK X es (Yw (kk X cm) gs))(hs:(assignEach (e::es) X.env).map (·.2)=assign e X.env::(assignEach es X.env).map (·.2):=by rfl):vK X (e::es) (Yw (kk X cm) (ĩ g gs)):=
 vK.wk (Bu h1 h2 hs) λv σ H Q ⟨c,F,ρ,p,rel,rp,h⟩=>by
  cases p with
  |nil=>exact h.elim
  |cons p ps=>
   unfold ĕ at rp
   obtain⟨x,r,rfl,r1,r2⟩:=rp
   refine⟨x,r,rfl,c,F,ρ,p,rel,r1,?_⟩
   unfold ĩ at h
   dsimp only at h
   cases eg:g p ρ with
   |none=>rw[eg] at h;exact h.elim
   |some ρ1=>rw[eg] at h;exact λσ' ŷ=>⟨c,F,ρ1,ps,ŷ,r2,h⟩
def yV{es:List Expr}{k:Nat}{gs:Bh}{n:Nat}(hc:X.calm=true)(h:vK X es (Yw (kk X cm) gs))(hn:(assignEach es X.env).length=n:=by rfl)(hst:(assignEach es X.env).findIdx? (·.1)=none:=by rfl):PG X (.Tuple es k pos) (tT (kk X cm) (gT n gs)):=
 PG.wk' (Bv hc h hn hst) fun v σ H Q ⟨c,F,ρ,p,rel,rp,h⟩=>by
   cases p with
   |tup ps=>
    unfold Rep at rp
    obtain⟨a,xs,h1,h2,h3⟩:=rp
    unfold gT at h
    dsimp only at h
    split at h
    ·rename_i hl
     exact⟨a,xs,h1,Same.tup rel.sub h2,by rw[<-h3.length];exact hl,c,F,ρ,ps,rel,h3,h⟩
    ·exact h.elim
   |_=>exact h.elim
def Ju(g:Tg)(m:M PV):M Fl:=λρ=>(m ρ).bind λp ρ1=>match g p ρ1 with
 |some ρ2=>.ok .nx ρ2
 |none=>.bad
def KD{tg:Expr}{g:Tg}(he:PE X e (tV (kk X cm) E mv))(hg:PG X tg (tT (kk X cm) g))(hs:swapsWithSole [tg] e pos.line X.env=pure false:=by rfl)(hw:swappedStores [tg] e X.env=pure none:=by rfl)
 (h1:(assignEach [tg] X.env).map (·.2)=[assign tg X.env]:=by rfl):PS X (.Assign [tg] e pos) (tS (kk X cm) E (Ju g mv)):=PS.wk (RM he hg hs hw h1) λD σ H ⟨c,F,ρ,rel,h⟩=>⟨c,F,ρ,rel,Ū.bind h λr ρ1 v F1 H1 ē s1 q h1=>by
 refine⟨c,F1,ρ1,r,ē,q,?_⟩
 cases eg:g r ρ1 with
 |none=>rw[eg] at h1;exact h1.elim
 |some ρ2=>rw[eg] at h1;exact λσ' ŷ=>h1 σ' F1 H1 ŷ (Same.refl _)⟩
def jd(i:Nat)(m:M PV):M Fl:=λρ=>match ρ[i]? with
 |some (.ow _)=>(m ρ).bind λp ρ1=>match ρ1[i]? with
  |some (.ow ps)=>if ps.length<16777216 then .ok .nx (ρ1.set i (.ow (ps ++ [p]))) else .bad
  |_=>.bad
 |_=>.bad
def aR{i:Nat}{D:Ends}{σ:L2.St}{H:Hp}(h:tS (kk X cm) E (jd i mv) D σ H):Bq (tBM X.K "list" qU (zX i) (tL (kk X cm) E (ą mv ė))) D σ H:=by
 obtain⟨c,F,ρ,rel,h⟩:=h
 unfold jd at h
 cases e1:ρ[i]? with
 |none=>rw[e1] at h;exact h.elim
 |some sl=>
  rw[e1] at h
  cases sl with
  |ow ps0=>
   obtain⟨a,vs0,z1,z2,z3,z4,z5,z6⟩:=rel.ow e1
   refine⟨.ref a,z1,.inl ⟨rfl,_,Ũ.of z2⟩,c,F,ρ,rel,?_⟩
   dsimp only at h
   unfold ą
   cases em:mv ρ with
   |bad=>rw[em] at h;exact h
   |exc x ρ1=>rw[em] at h;exact λC d F' H' ŷ s1 q=>h σ C d F' H' ŷ s1 q
   |ok p ρ1=>
    rw[em] at h
    intro us F1 H1 ē s1 s2 r1
    have r1':ĕ (kk X cm) F1 [p] us:=r1
    cases r1'.pr with
    |cons rp t=>
     rename_i v vs'
     cases t
     cases e2:ρ1[i]? with
     |none=>simp only[Res.Ŭ,e2] at h;exact h.elim
     |some sl2=>
      simp only[Res.Ŭ,e2] at h
      cases sl2 with
      |ow ps=>
       obtain⟨a2,vs,w1,w2,w3,w4,w5,w6⟩:=ē.ow e2
       rw[z1] at w1
       cases w1
       dsimp only at h
       split at h
       ·rename_i hz
        refine⟨a,vs,v,rfl,rfl,w2,by rw[<-w5.length,ĳ];exact hz,h σ F1 _ (ē.write w6 z1 ⟨a,vs ++ [v],rfl,Ğ,w3,w4,ĕ.append w5 (ĕ.cons rp ĕ.nil)⟩ λ_ z=>(V.ref.inj z).symm) s1⟩
       ·exact h.elim
      |_=>exact h.elim
  |_=>exact h.elim
def ĭ(mc:M Bool)(mb:M Fl):Nat->ĺ->Res Fl
 |0,_=>.bad
 |n+1,ρ=>(mc ρ).bind λb ρ1=>if b=true then(mb ρ1).bind λf ρ2=>match f with
  | .nx=>ĭ mc mb n ρ2
  | .ct=>ĭ mc mb n ρ2
  | .bk=>.ok .nx ρ2
  | .rt r=>.ok (.rt r) ρ2 else .ok .nx ρ1
theorem Š{mc:M Bool}{mb:M Fl}(n:Nat)(ρ:ĺ):ĭ mc mb (n+1) ρ=(mc ρ).bind λb ρ1=>if b=true then(mb ρ1).bind λf ρ2=>match f with
 | .nx=>ĭ mc mb n ρ2
 | .ct=>ĭ mc mb n ρ2
 | .bk=>.ok .nx ρ2
 | .rt r=>.ok (.rt r) ρ2 else .ok .nx ρ1:=rfl
open Classical in
noncomputable def š(mc:M Bool)(mb:M Fl):M Fl:=λρ=>if h:∃n,ĭ mc mb n ρ≠ .bad then ĭ mc mb (Classical.choose h) ρ else .bad
theorem fB{mc:M Bool}{mb:M Fl}:∀(n:Nat) (ρ:ĺ),ĭ mc mb n ρ≠ .bad->ĭ mc mb (n+1) ρ=ĭ mc mb n ρ
 |0,ρ,h=>absurd rfl h
 |n+1,ρ,h=>by
  rw[Š] at h
  rw[Š (n+1),Š n]
  cases e:mc ρ with
  |bad=>rfl
  |exc x ρ1=>rfl
  |ok b ρ1=>
   rw[e] at h
   simp only[Res.Ŭ] at h ⊢
   cases b with
   |false=>rfl
   |true=>
    simp only[if_true] at h ⊢
    cases e2:mb ρ1 with
    |bad=>rfl
    |exc x ρ2=>rfl
    |ok f ρ2=>
     rw[e2] at h
     simp only[Res.Ŭ] at h ⊢
     cases f with
     |nx=>exact fB n ρ2 h
     |ct=>exact fB n ρ2 h
     |bk=>rfl
     |rt r=>rfl
def pZ{mc:M Bool}{mb:M Fl}{n m:Nat}{ρ:ĺ}(h:ĭ mc mb n ρ≠ .bad)(hm:n<=m):ĭ mc mb m ρ=ĭ mc mb n ρ:= by
 induction hm with
 |refl=>rfl
 |step _ ih=>rw[fB _ _ (by rw[ih];exact h),ih]
def Ť{mc:M Bool}{mb:M Fl}{ρ:ĺ}(n:Nat)(h:ĭ mc mb n ρ≠ .bad):š mc mb ρ=ĭ mc mb n ρ:= by
 unfold š
 have hx:∃n,ĭ mc mb n ρ≠ .bad:=⟨n,h⟩
 rw[dif_pos hx]
 have hc:=Classical.choose_spec hx
 rcases Nat.le_total n (Classical.choose hx) with hle|hle
 ·exact pZ h hle
 ·exact(pZ hc hle).symm
theorem fC{mc:M Bool}{mb:M Fl}{ρ:ĺ}:š mc mb ρ=(mc ρ).bind λb ρ1=>if b=true then(mb ρ1).bind λf ρ2=>match f with
 | .nx=>š mc mb ρ2
 | .ct=>š mc mb ρ2
 | .bk=>.ok .nx ρ2
 | .rt r=>.ok (.rt r) ρ2 else .ok .nx ρ1:=by
 have go:∀ρ2,š mc mb ρ2=.bad\/∃n,š mc mb ρ2=ĭ mc mb n ρ2/\ĭ mc mb n ρ2≠ .bad:=λρ2=>by
  by_cases hx:∃n,ĭ mc mb n ρ2≠ .bad
  ·obtain⟨n,h⟩:=hx
   exact .inr ⟨n,Ť n h,h⟩
  ·left;unfold š;rw[dif_neg hx]
 have Zb5:∀ρ2,š mc mb ρ2=.bad->∀n,ĭ mc mb n ρ2=.bad:=λρ2 h n=>by
  refine Classical.byContradiction λz=>?_
  rw[Ť n z] at h
  exact z h
 have fin:∀n,ĭ mc mb (n+1) ρ≠ .bad->š mc mb ρ=ĭ mc mb (n+1) ρ:= λn h=>Ť _ h
 cases e:mc ρ with
 |bad=>rcases go ρ with h|⟨n,h1,h2⟩
       ·rw[h];rfl
       ·cases n with
        |zero=>exact absurd rfl h2
        |succ n=>rw[Š,e] at h2;exact absurd rfl h2
 |exc x ρ1=>
  have h:ĭ mc mb 1 ρ=.exc x ρ1:=by rw[Š,e];rfl
  rw[Ť 1 (by rw[h];intro z;cases z),h];rfl
 |ok b ρ1=>
  simp only[Res.Ŭ]
  cases b with
  |false=>
   have h:ĭ mc mb 1 ρ=.ok .nx ρ1:=by rw[Š,e];rfl
   rw[Ť 1 (by rw[h];intro z;cases z),h];rfl
  |true=>
   simp only[if_true]
   have one:∀n,ĭ mc mb (n+1) ρ=(mb ρ1).bind λf ρ2=>match f with
    | .nx=>ĭ mc mb n ρ2
    | .ct=>ĭ mc mb n ρ2
    | .bk=>.ok .nx ρ2
    | .rt r=>.ok (.rt r) ρ2:=λn=>by rw[Š,e];rfl
   cases e2:mb ρ1 with
   |bad=>
    rcases go ρ with h|⟨n,h1,h2⟩
    ·rw[h];rfl
    ·cases n with
     |zero=>exact absurd rfl h2
     |succ n=>rw[one,e2] at h2;exact absurd rfl h2
   |exc x ρ2=>
    have h:ĭ mc mb 1 ρ=.exc x ρ2:=by rw[one,e2];rfl
    rw[Ť 1 (by rw[h];intro z;cases z),h];rfl
   |ok f ρ2=>
    have turn:(∀n,ĭ mc mb (n+1) ρ=ĭ mc mb n ρ2)->š mc mb ρ=š mc mb ρ2:=λhn=>by
     rcases go ρ2 with h|⟨n,h1,h2⟩
     ·rcases go ρ with h'|⟨n,h1,h2⟩
      ·rw[h,h']
      ·cases n with
       |zero=>exact absurd rfl h2
       |succ n=>rw[hn,Zb5 ρ2 h n] at h2;exact absurd rfl h2
     ·rw[h1,<-hn n]
      exact fin n (by rw[hn n];exact h2)
    cases f with
    |nx=>exact turn λn=>by rw[one,e2];rfl
    |ct=>exact turn λn=>by rw[one,e2];rfl
    |bk=>
     have h:ĭ mc mb 1 ρ=.ok .nx ρ2:=by rw[one,e2];rfl
     rw[Ť 1 (by rw[h];intro z;cases z),h];rfl
    |rt r=>
     have h:ĭ mc mb 1 ρ=.ok (.rt r) ρ2:=by rw[one,e2];rfl
     rw[Ť 1 (by rw[h];intro z;cases z),h];rfl
def Jv{c:Expr}{body:List Stmt}{mc:M Bool}{mb:M Fl}(hp:PassesOwn (model X.prog X.w) X.A X.env X.xe)(hc:PT X c (tB (kk X cm) E mc))(hb:gK X body (tS (kk X cm) E mb)):PS X (.While c body [] pos) (tS (kk X cm) E (š mc mb)):=PS.wk (Bw hp hc hb) λD σ H ⟨c,F,ρ,rel,h⟩=>by
 obtain⟨n,hn⟩:∃n,Ū (kk X cm) E c F D (ĭ mc mb n ρ):=by
  by_cases hx:∃n,ĭ mc mb n ρ≠ .bad
  ·obtain⟨n,hn⟩:=hx
   rw[Ť n hn] at h
   exact⟨n,h⟩
  ·unfold š at h
   rw[dif_neg hx] at h
   exact h.elim
 refine⟨λm σ' H'=>∃F2 ρ2,Rel (kk X cm) c F2 H' σ' ρ2/\Same F F2/\Ū (kk X cm) E c F2 D (ĭ mc mb m ρ2),⟨n,F,ρ,rel,Same.refl _,hn⟩,?_⟩
 rintro m σ1 H1 ⟨F1,ρ1,ē,s1,h1⟩
 cases m with
 |zero=>exact h1.elim
 |succ m=>
  rw[Š] at h1
  refine⟨c,F1,ρ1,ē,Ū.bind h1 λk ρ2 v F2 H2 Ĳ s2 q h2=>?_⟩
  have e:k=v:=q
  subst e
  cases k with
  |false=>
   rw[if_neg Bool.false_ne_true]
   rw[if_neg Bool.false_ne_true] at h2
   exact h2 σ1 F2 H2 Ĳ (Same.refl _)
  |true=>
   rw[if_pos rfl]
   rw[if_pos rfl] at h2
   refine⟨_,λσ' H' z=>z,c,F2,ρ2,Ĳ,?_⟩
   have nxt:∀{ρ3:ĺ},Ū (kk X cm) E c F2 D (ĭ mc mb m ρ3)->∀σ' F' H',Rel (kk X cm) c F' H' σ' ρ3->Same F2 F'->∃m',m'<m+1/\∃F2 ρ2,Rel (kk X cm) c F2 H' σ' ρ2/\Same F F2/\Ū (kk X cm) E c F2 D (ĭ mc mb m' ρ2):=
    fun{ρ3} h3 σ' F' H' ŷ s'=>⟨m,Nat.lt_succ_self m,F',ρ3,ŷ,(s1.trans s2).trans s',Ū.mono h3 s'⟩
   cases e2:mb ρ2 with
   |bad=>rw[e2] at h2;exact h2
   |exc x ρ3=>rw[e2] at h2;exact h2
   |ok f ρ3=>
    rw[e2] at h2
    cases f with
    |nx=>exact nxt h2
    |ct=>exact nxt h2
    |bk=>exact h2
    |rt r=>exact h2
def Jw(K:KK)(Lh F:Hp)(J:It)(items:List PV):Prop:=∀(c:Ctx) (i:Nat) (F2 H:Hp) (σ:L2.St) (ρ:ĺ),Rel K c F2 H σ ρ->Same F F2->Same Lh H->
 (∀p,items[i]?=some p->J.go i H/\∀x H',J.yld i H x H'->∃F3,Rel K c F3 H' σ ρ/\Same F2 F3/\Same H H'/\Rep K F3 p x)/\(i=items.length->J.stop i H)
def rIt(K:KK):RR (List PV) It:=λc _ _ F _ items J=>Jw K c.L F J items
abbrev tI(K:KK)(E:L2.St->XK)(m:M (List PV)):TI:=tG K E (rIt K) m
def forL(g:Tg)(mb:M Fl):List PV->M Fl
 | [],ρ=>.ok .nx ρ
 |p::ps,ρ=>match g p ρ with
  |none=>.bad
  |some ρ1=>(mb ρ1).bind λf ρ2=>match f with
   | .nx=>forL g mb ps ρ2
   | .ct=>forL g mb ps ρ2
   | .bk=>.ok .nx ρ2
   | .rt r=>.ok (.rt r) ρ2
def jH(mi:M (List PV))(g:Tg)(mb:M Fl):M Fl:=λρ=>(mi ρ).bind λitems ρ1=>forL g mb items ρ1
def fG{iter tg:Expr}{body:List Stmt}{mi:M (List PV)}{g:Tg}{mb:M Fl}(hp:PassesOwn (model X.prog X.w) X.A X.env X.xe)(hc:X.calm=true)(hi:PI X tg iter (tI (kk X cm) E mi))(hg:PG X tg (tT (kk X cm) g))(hb:gK X body (tS (kk X cm) E mb))
 (hs:∀x,foldedSetIterable iter X.env x=pure x:=by intro _;rfl):PS X (.For tg iter body [] pos) (tS (kk X cm) E (jH mi g mb)):=PS.wk (RT hp hc hi hg hb hs) λD σ H ⟨c,F,ρ,rel,h⟩=>⟨c,F,ρ,rel,Ū.bind h λitems ρ1 J F1 H1 ē s1 ito h1=>by
 refine⟨λi m σ' H'=>∃F2 ρ2,i<=items.length/\m=items.length-i/\Rel (kk X cm) c F2 H' σ' ρ2/\Same F1 F2/\Ū (kk X cm) E c F2 D (forL g mb (items.drop i) ρ2),⟨_,F1,ρ1,Nat.zero_le _,rfl,ē,Same.refl _,h1⟩,?_⟩
 rintro i m σ2 H2 ⟨F2,ρ2,hle,rfl,Ĳ,s2,h2⟩
 obtain⟨go,stop⟩:=ito c i F2 H2 σ2 ρ2 Ĳ s2 λb u e=>(Ĳ.lent b u e).1
 by_cases hlt:i<items.length
 ·obtain⟨g1,g2⟩:=go items[i] (List.getElem?_eq_getElem hlt)
  rw[List.drop_eq_getElem_cons hlt] at h2
  unfold forL at h2
  refine .inr ⟨g1,_,λσ' H' z=>z,λx H3 hy=>?_⟩
  obtain⟨F3,rz,s3,_,rp⟩:=g2 x H3 hy
  refine⟨c,F3,ρ2,items[i],rz,rp,?_⟩
  cases eg:g items[i] ρ2 with
  |none=>rw[eg] at h2;exact h2.elim
  |some ρ3=>
   rw[eg] at h2
   dsimp only at h2
   intro σ4 Di
   refine⟨c,F3,ρ3,Di,?_⟩
   have nxt:∀{ρ4:ĺ},Ū (kk X cm) E c F2 D (forL g mb (items.drop (i+1)) ρ4)->∀σ' F' H',Rel (kk X cm) c F' H' σ' ρ4->Same F3 F'->∃m',m'<items.length-i/\∃F2 ρ2,i+1<=items.length/\m'=items.length-(i+1)/\Rel (kk X cm) c F2 H' σ' ρ2/\Same F1 F2/\Ū (kk X cm) E c F2 D (forL g mb (items.drop (i+1)) ρ2):=
    fun{ρ4} h3 σ' F' H' ŷ s'=>⟨items.length-(i+1),by omega,F',ρ4,hlt,rfl,ŷ,(s2.trans s3).trans s',Ū.mono h3 (s3.trans s')⟩
   have h2':=Ū.mono h2 s3
   cases e2:mb ρ3 with
   |bad=>rw[e2] at h2;exact h2
   |exc x ρ4=>rw[e2] at h2';exact h2'
   |ok f ρ4=>
    rw[e2] at h2 h2'
    cases f with
    |nx=>exact nxt h2
    |ct=>exact nxt h2
    |bk=>exact h2'
    |rt r=>exact h2'
 ·have e:i=items.length:=by omega
  refine .inl ⟨stop e,?_⟩
  rw[List.drop_eq_nil_of_le (by omega)] at h2
  unfold forL at h2
  exact h2 σ2 F2 H2 Ĳ (Same.refl _)⟩
end
end P
namespace P
open PySem PySem.Spec PyProof.Rows L2 M2 M3
inductive FR where
 |ret (r:RV)|exc (x:PX)|bad
abbrev MF:=List Slot->FR
def FR.of:Res Fl->FR
 | .ok (.rt r) _=>.ret r
 | .ok .nx _=>.ret (.sh .non)
 | .exc x _=>.exc x
 |_=>.bad
def İ(n k:Nat)(mb:M Fl):MF:=λas=>if as.length=n then FR.of (mb (startP k as)) else .bad
def rF(K:KK)(H F' H':Hp):RV->V->Prop
 | .sh p,v=>Rep K F' p v
 | .ow ps,v=>∃a vs,v=.ref a/\H' a=some (.lst vs)/\F' a=none/\H a=none/\ĕ K F' ps vs
 | .ot ps qs rs,v=>∃p a xs vs ys,v=.ref p/\F' p=some (.tup (xs ++ .ref a::ys))/\ĕ K F' ps xs/\H' a=some (.lst vs)/\F' a=none/\H a=none/\ĕ K F' qs vs/\ĕ K F' rs ys
def Zb6(K:KK)(E:XK)(F H:Hp)(Q:VK):FR->Prop
 | .ret r=>∀v F' H',Gr F H F' H'->rF K H F' H' r v->Q v H'
 | .exc x=>∀C d F' H',Gr F H F' H'->Jq K F' x C d->E C d H'
 | .bad=>False
def ţ(K:KK)(n:Nat)(mf:MF):Sp:=λvs H Q E=>∃F as,as.length=n/\Same F H/\Paired (bh K F H) as vs/\Zb6 K E F H Q (mf as)
def dD(CX:jB)(X:Cx)(E:L2.St->XK):Prop:=∀(pins:List (Addr×Obj)) (σ:L2.St) (H:Hp) (s:Shared) (e:Value) (s':Shared),Inv X pins σ H s->CX X.stack H s (E σ) e s'->X.xe e s'
def Ď{X:Cx}{E:L2.St->XK}:dD Ŧ X E:=λ_ _ _ _ _ _ _ h=>h.elim
section
variable{P:Program}{w:World}{K:PySem.W.Frag}{cm:String->Addr}{mg:Str->Option Value}{base:Heap}{CX:jB}
def fnP{x qual:Str}{st:Stmt}{f:Addr}{fd:FuncData}{N ps:List Str}{k:Nat}{mb:M Fl}(F:Cj K x qual st f fd)(S:Ē N ps (ć st))
 (hbody:∀(cdv:Value) (A:Around) (outer:List Env) (s:Shared) (H:Hp) (E:XK),Ř k (A.deeper (envOfC qual (ć st) s.heap.objs.size f cdv))→
   gK (o_ CX P w K mg base N qual (ć st) f cdv A outer s H E) (Œ st) (tS ⟨K,cm⟩ (λ_=>E) mb)):Ħ P w K mg base CX (k+1) f fd ps (ţ ⟨K,cm⟩ ps.length (İ ps.length N.length mb)):=by
 obtain⟨oc,od,kV,doc,pm,an,cdv,ct,osl,rfl,lk,hcd⟩:=F.ex
 refine BZ lk hcd S (λvs H Q E ⟨F,ps',h1,_,h2,_⟩=>by rw[<-Paired.length h2];exact h1) λA outer s H vs Q E hr hsp=>?_
 obtain⟨F,ps',h1,h2,h3,h4⟩:=hsp
 refine⟨_,hbody cdv A outer s H E hr,ctx0 F H,F,startP N.length ps',Rel.start h2 h3,?_⟩
 unfold İ at h4
 rw[if_pos h1] at h4
 cases e:mb (startP N.length ps') with
 |bad=>rw[e] at h4;exact h4
 |exc x ρ'=>rw[e] at h4;exact λσ' C d F' H' rel s1 q=>h4 C d F' H' rel.gr q
 |ok fl ρ'=>
  rw[e] at h4
  cases fl with
  |nx=>exact λσ' F' H' rel s1=>h4 .non F' H' rel.gr (Rep.non (K:=⟨K,cm⟩) (F:=F'))
  |bk=>exact h4.elim
  |ct=>exact h4.elim
  |rt r=>
   intro v σ' F' H' rel s1 q
   refine h4 v F' H' rel.gr ?_
   cases r with
   |sh p=>exact q
   |ow qs=>
    obtain⟨a,vs',e1,e2,e3,e4,_,e5⟩:=q
    exact⟨a,vs',e1,e2,e3,e4,e5⟩
   |ot qs ts rs=>
    obtain⟨p,a,xs,vs',ys,e1,e0,ex,e2,e3,e4,_,e5⟩:=q
    exact⟨p,a,xs,vs',ys,e1,e0,ex,e2,e3,e4,e5⟩
def fnQ{x qual:Str}{st:Stmt}{f:Addr}{fd:FuncData}{N ps:List Str}{k n j:Nat}{mb:M Fl}{mf:MF}(F:Cj K x qual st f fd)(S:Ē N ps (ć st))(hn:ps.length=n)(hj:N.length=j)(hf:mf=İ n j mb)
 (hbody:∀(cdv:Value) (A:Around) (outer:List Env) (s:Shared) (H:Hp) (E:XK),Ř k (A.deeper (envOfC qual (ć st) s.heap.objs.size f cdv))→
   gK (o_ CX P w K mg base N qual (ć st) f cdv A outer s H E) (Œ st) (tS ⟨K,cm⟩ (λ_=>E) mb)):Ħ P w K mg base CX (k+1) f fd ps (ţ ⟨K,cm⟩ n mf):=by
 subst hn hj hf
 exact fnP F S hbody
end
def č(mf:MF)(mr:M (List Slot)):M RV:=λρ=>(mr ρ).bind λps ρ1=>match mf ps with
 | .ret r=>.ok r ρ1
 | .exc x=>.exc x ρ1
 | .bad=>.bad
section
variable{X:Cx}{cm:String->Addr}{E:L2.St->XK}{CX:jB}{k n:Nat}{f:Addr}{fd:FuncData}{ps:List Str}{mf:MF}{mr:M (List Slot)}{x:Str}{p pos:Pos}{e:Expr}{es:List Expr}
def yW{sp:Sp}{pins:List (Addr×Obj)}{σ:L2.St}{H:Hp}{s:Shared}{Q:VK}{us:List Value}{vs:List V}(F:Ħ X.prog X.w X.K X.mg X.base CX k f fd ps sp)(hr:Ř k X.A)(hb:Binds X.K fd ps [])(hx:dD CX X E)
 (I:Inv X pins σ H s)(r:Vals vs us)(h:sp vs H Q (E σ)):wpAny (model X.prog X.w) X.A (call (.ref f) us) (EP X pins σ Q) X.xe s:=by
 have hl:(us ++ []).length=ps.length:=by rw[List.append_nil,<-r.length];exact F.len _ _ _ _ h
 have hbd:=hb s us I.jY hl
 rw[List.append_nil] at hbd
 refine wpAny_call (codeAny_mono (F.run X.A X.stack s H ⟨us,[]⟩ us vs Q (E σ) hr I.env0 hbd r h) λr s' hq=>?_)
 cases r with
 |error e=>exact hx pins σ H s e s' I hq
 |ok fl=>
  cases fl with
  |ret u=>exact I.after hq
  |next=>exact False.elim hq
  |brk=>exact False.elim hq
  |cont=>exact False.elim hq
def uD{c:Ctx}{F1 H1:Hp}{σ:L2.St}{ρ1:ĺ}{Q:VK}{ps:List Slot}{vs:List V}(hlen:(∃r,mf ps=r/\∀z,r=z->z≠ .bad)->ps.length=n)(ē:Rel (kk X cm) c F1 H1 σ ρ1)(r1:Paired (bh (kk X cm) F1 H1) ps vs)
 (h:aA (kk X cm) E (rO (kk X cm)) c F1 H1 σ Q (match mf ps with| .ret r=>.ok r ρ1| .exc x=>.exc x ρ1| .bad=>.bad)):ţ (kk X cm) n mf vs H1 Q (E σ):=by
 refine⟨F1,ps,?_,ē.sub,r1,?_⟩
 ·refine hlen ⟨_,rfl,λz hz hb=>?_⟩
  rw[hz,hb] at h
  exact h
 ·cases em:mf ps with
  |bad=>rw[em] at h;exact h
  |exc x=>rw[em] at h;exact λC d F' H' g rx=>h C d F' H' (ē.call g) g.f rx
  |ret r=>
   rw[em] at h
   intro v F' H' g rf
   refine h v F' H' (ē.call g) g.f g.h ?_
   cases r with
   |sh p=>exact rf
   |ow qs=>
    obtain⟨a,vs',e1,e2,e3,e4,e5⟩:=rf
    exact⟨a,vs',e1,e2,e3,ē.base.free e4,ē.jF g.f (ē.fresh e4),e5⟩
   |ot qs ts rs=>
    obtain⟨p,a,xs,vs',ys,e1,e0,ex,e2,e3,e4,e5⟩:=rf
    exact⟨p,a,xs,vs',ys,e1,e0,ex,e2,e3,ē.base.free e4,ē.jF g.f (ē.fresh e4),e5⟩
def cP{n k:Nat}{mb:M Fl}{ps:List Slot}(h:∃r,İ n k mb ps=r/\∀z,r=z->z≠ .bad):ps.length=n:=by
 obtain⟨r,h1,h2⟩:=h
 unfold İ at h1
 by_cases hl:ps.length=n
 ·exact hl
 ·rw[if_neg hl] at h1
  exact absurd h1.symm (λz=>h2 .bad (by rw[<-h1]) rfl)
def Ue(F:Ħ X.prog X.w X.K X.mg X.base CX k f fd ps (ţ (kk X cm) n mf))(hlen:∀{ps:List Slot},(∃r,mf ps=r/\∀z,r=z->z≠ .bad)->ps.length=n)(hr:Ř k X.A)(hg:Gl X x)(hm:X.mg x=some (.ref f))(hk:PySem.W.keepIn X.K (.ref f)=true)(hb:Binds X.K fd ps [])(hx:dD CX X E)
 (ha:PA X (e::es) (tA (kk X cm) E mr))(hdb:(x== ("__debug__" :Str))=false:=by decide)(he:starEach (e::es) X.env=(false,eval e X.env)::starEach es X.env:=by exact aM rfl)(hpl:(backTo pos (starEach es X.env)).any (·.1)=false:=by rfl) :
 PE X (.Call (.Name x p) (e::es) [] pos) (tO (kk X cm) E (č mf mr)):=by
 intro pins s σ H Q I h
 obtain⟨c,F,ρ,rel,h⟩:=h
 refine wpAny_Call_Name_kw (qN I hg hm ?_ hdb)
 refine PySem.W.callWith_K (h₀:= X.base) I.ok.mod.kin hk (ő (ha pos pins s σ H (λvs H1=>ţ (kk X cm) n mf vs H1 Q (E σ)) I ⟨c,F,ρ,rel,h.bind λps' ρ1 vs F1 H1 ē _ _ r1 h1=>uD hlen ē r1 h1⟩) λus s1 ⟨vs,H1,I1,r,q⟩=>⟨I1.jY,?_⟩) he hpl
 exact yW (by assumption) hr hb hx I1 r q
end
def œ(m:M PV):M (List PV):=λρ=>(m ρ).bind λp ρ1=>match p with
 | .lst ps=>.ok ps ρ1
 | .tup ps=>.ok ps ρ1
 | .str z=>.ok (z.cps.toList.map λc=>.str ⟨#[c]⟩) ρ1
 |_=>.bad
section
variable{X:Cx}{cm:String->Addr}{E:L2.St->XK}{tg:Expr}
def Zb7(K:PySem.W.Frag)(tl:TE):TI:=λσ H R=>tl σ H λx H1=>(∃a,x=.ref a/\(∃xs,Ũ K H1 a xs)/\R (Itl K a) H1)\/(∃a,x=.ref a/\(∃xs,cY K H1 a xs)/\R (Itt K a) H1)\/∃z,x=.str z/\R (Its z) H1
def Dp{l:Expr}{tl:TE}(hl:PE X l tl):PI X tg l (Zb7 X.K tl):=by
 intro pins s σ H R I h
 refine ő (hl pins s σ H _ I h) λv s1 ⟨x,H1,I1,r1,q1⟩=>?_
 rcases q1 with⟨a,e,⟨xs,hq⟩,q⟩|⟨a,e,⟨xs,hq⟩,q⟩|⟨z,e,q⟩
 ·subst e
  cases r1
  obtain⟨its,rv,p,hz⟩:=I1.list hq
  refine wpAny_pyIter_list p.isList ?_
  refine⟨s1.heap.objs.size,[s1.heap.objs.size],_,_,H1,rfl,I1.kept (t':=s1.toks) λb o e=>Heap.get?_push_of_some _ e,zZ a _,⟨_,Heap.get?_push_size _ rfl,rfl,rfl⟩,λb hb=>?_,q⟩
  have e:b=s1.heap.objs.size:=by simpa using hb
  subst e
  exact I1.qO (Nat.le_refl _) (I1.hok.fresh (Nat.le_refl _))
 ·subst e
  cases r1
  obtain⟨its,rv,p,hz⟩:=I1.tuple hq
  refine wpAny_pyIter_tuple (show s1.heap.IsTuple a its.toArray from p) ?_
  refine⟨s1.heap.objs.size,[s1.heap.objs.size],_,_,H1,rfl,I1.kept (t':=s1.toks) λb o e=>Heap.get?_push_of_some _ e,vP a _,⟨_,Heap.get?_push_size _ rfl,rfl,rfl⟩,λb hb=>?_,q⟩
  have e:b=s1.heap.objs.size:=by simpa using hb
  subst e
  exact I1.qO (Nat.le_refl _) (I1.hok.fresh (Nat.le_refl _))
 ·subst e
  obtain⟨t,rfl⟩:=r1
  have fin:∀ty,(∀A:Around,A.handled=none->Walks X.prog X.w A s1.heap.objs.size [s1.heap.objs.size] [s1.heap.objs.size] z.cps.size (SignAt z) (λi h=>h.IsStrIter s1.heap.objs.size ty z t i))->
   (∀(A:Around) (i:Nat) (s:Shared) (Q:Value->Shared->Prop) (E:Value->Shared->Prop),s.heap.IsStrIter s1.heap.objs.size ty z t i->Q (.ref s1.heap.objs.size) s->wpAny (model X.prog X.w) A (pyIter (.ref s1.heap.objs.size)) Q E s)->
   (["enumerate","zip","dict_itemiterator","dict_reverseitemiterator","odict_iterator","itertools.zip_longest","itertools.pairwise"].contains ty=false)->
   PIE X pins σ tg R (.ref s1.heap.objs.size) {s1 with heap:=s1.heap.push {cls:=.type ty,data:=.fields #[.str z t,.int 0 0]}}:=λty hW hS hty=>by
   refine⟨s1.heap.objs.size,[s1.heap.objs.size],_,_,H1,rfl,I1.kept (t':=s1.toks) λb o e=>Heap.get?_push_of_some _ e,Am _ z t ty hW hS hty,⟨_,Heap.get?_push_size _ rfl,rfl,rfl⟩,λb hb=>?_,q⟩
   have e:b=s1.heap.objs.size:=by simpa using hb
   subst e
   exact I1.qO (Nat.le_refl _) (I1.hok.fresh (Nat.le_refl _))
  cases ha:z.cps.all (·< 128) with
  |true=>exact wpAny_pyIter_ascii ha (fin _ (λA hA=>Walks.strAscii hA _ z t) (λA i s Q E st q=>wpAny_pyIter_striter_ascii st q) (by decide))
  |false=>exact wpAny_pyIter_wide ha (fin _ (λA hA=>Walks.strWide hA _ z t) (λA i s Q E st q=>wpAny_pyIter_striter_wide st q) (by decide))
def fH{l:Expr}{m:M PV}(hl:PE X l (tV (kk X cm) E m)):PI X tg l (tI (kk X cm) E (œ m)):=λpins s σ H R I h=>Dp hl pins s σ H R I (by
 obtain⟨c,F,ρ,rel,h⟩:=h
 refine⟨c,F,ρ,rel,h.bind λp ρ1 v F1 H1 ē s1 s2 q h1=>?_⟩
 cases p with
 |lst ps=>
  have q':Rep (kk X cm) F1 (.lst ps) v:=q
  unfold Rep at q'
  obtain⟨a,vs,rfl,e1,e2⟩:=q'
  refine .inl ⟨a,rfl,⟨vs,ē.sub.seq e1⟩,h1 _ F1 H1 ē (Same.refl _) (Same.refl _) ?_⟩
  intro c' i F2 H2 σ2 ρ2 Ĳ sF _
  have hq:Ũ X.K H2 a vs:=(sF.trans Ĳ.sub).seq e1
  refine⟨λp hp=>?_,λhi=>⟨vs,hq,by rw[hi,e2.length];exact Nat.le_refl _⟩⟩
  obtain⟨u,hu,ru⟩:=bf e2.pr hp
  refine⟨⟨vs,u,hq,hu⟩,λx H' ⟨hH,hx⟩=>?_⟩
  subst hH
  have:vs[i]?=some x:=hx vs hq
  rw[hu] at this
  cases this
  exact⟨F2,Ĳ,Same.refl _,Same.refl _,Rep.same sF p u ru⟩
 |tup ps=>
  have q':Rep (kk X cm) F1 (.tup ps) v:=q
  unfold Rep at q'
  obtain⟨a,vs,rfl,e1,e2⟩:=q'
  refine .inr (.inl ⟨a,rfl,⟨vs,Same.tup ē.sub e1⟩,h1 _ F1 H1 ē (Same.refl _) (Same.refl _) ?_⟩)
  intro c' i F2 H2 σ2 ρ2 Ĳ sF _
  have hq:cY X.K H2 a vs:=Same.tup (sF.trans Ĳ.sub) e1
  refine⟨λp hp=>?_,λhi=>⟨vs,hq,by rw[hi,e2.length];exact Nat.le_refl _⟩⟩
  obtain⟨u,hu,ru⟩:=bf e2.pr hp
  refine⟨⟨vs,u,hq,hu⟩,λx H' ⟨hH,hx⟩=>?_⟩
  subst hH
  have:vs[i]?=some x:=hx vs hq
  rw[hu] at this
  cases this
  exact⟨F2,Ĳ,Same.refl _,Same.refl _,Rep.same sF p u ru⟩
 |str z=>
  have q':v=.str z:=by have q':Rep (kk X cm) F1 (.str z) v:=q;unfold Rep at q';exact q'
  subst q'
  refine .inr (.inr ⟨z,rfl,h1 _ F1 H1 ē (Same.refl _) (Same.refl _) ?_⟩)
  intro c' i F2 H2 σ2 ρ2 Ĳ sF _
  refine⟨λp hp=>?_,λhi=>by rw[hi,List.length_map];show _=_;simp⟩
  rw[List.getElem?_map] at hp
  cases ez:z.cps.toList[i]? with
  |none=>rw[ez] at hp;cases hp
  |some cc=>
   rw[ez] at hp
   cases hp
   refine⟨by have:=(List.getElem?_eq_some_iff.mp ez).1;show i<z.cps.size;simpa using this,λx H' ⟨hH,c2,hc,hx⟩=>?_⟩
   subst hH hx
   rw[ez] at hc
   cases hc
   exact⟨F2,Ĳ,Same.refl _,Same.refl _,Rep.str⟩
 |_=>exact h1.elim)
def Ŕ(i:Nat):M (List PV):=λρ=>match ρ[i]? with
 |some (.bw ps)=>.ok ps ρ
 |some (.sh (.lst ps))=>.ok ps ρ
 |some (.sh (.tup ps))=>.ok ps ρ
 |some (.sh (.str z))=>.ok (z.cps.toList.map λc=>.str ⟨#[c]⟩) ρ
 |some (.ow ps)=>.ok ps (ρ.set i (.sh (.lst ps)))
 |_=>.bad
def aH(i:Nat){x:Str}{px:Pos}(hN:X.N[i]?=some x:=by rfl)(hv:yE X.env.scope x:=by first|exact Or.inl rfl|exact Or.inr (Or.inl rfl)|exact Or.inr (Or.inr rfl))(hd:(x== ("__debug__" :Str))=false:=by decide)
 (hcd:(x== ("__classdict__" :Str))=false:=by decide):PI X tg (.Name x px) (tI (kk X cm) E (Ŕ i)):=λpins s σ H R I h=>by
 obtain⟨c,F,ρ,rel,h⟩:=h
 cases e:ρ[i]? with
 |none=>unfold Ŕ at h;rw[e] at h;exact h.elim
 |some sl=>
  have Jx:aA (kk X cm) E (rIt (kk X cm)) c F H σ R (œ (ğ i) ρ)->wpAny (model X.prog X.w) X.A (eval (.Name x px) X.env) (λv s1=>wpAny (model X.prog X.w) X.A (pyIter v) (PIE X pins σ tg R) X.xe s1) X.xe s:=λh'=>
   fH (v_var i hN hv hd hcd) pins s σ H R I ⟨c,F,ρ,rel,h'⟩
  unfold Ŕ at h
  rw[e] at h
  cases sl with
  |no=>exact h.elim
  |rc C ns ps=>exact h.elim
  |ot ps qs rs=>exact h.elim
  |ol Bg=>exact h.elim
  |ow ps=>exact Jx (by unfold œ ğ;rw[e];exact h)
  |sh p=>
   cases p with
   |lst ps=>exact Jx (by unfold œ ğ;rw[e];exact h)
   |tup ps=>exact Jx (by unfold œ ğ;rw[e];exact h)
   |str z=>exact Jx (by unfold œ ğ;rw[e];exact h)
   |_=>exact h.elim
  |bw ps=>
   obtain⟨a,vs,h1,h2,h3⟩:=rel.slot i _ e
   refine Dp (eX hN hv hd hcd) pins s σ H R I ⟨.ref a,at_of h1,.inl ⟨a,rfl,⟨vs,Ũ.of (rel.lent a _ h2).1⟩,h _ F H rel (Same.refl _) (Same.refl _) ?_⟩⟩
   intro c' j F2 H2 σ2 ρ2 Ĳ sF sL
   have hq:Ũ X.K H2 a vs:=Ũ.of (sL a _ h2)
   refine⟨λp hp=>?_,λhi=>⟨vs,hq,by rw[hi,h3.length];exact Nat.le_refl _⟩⟩
   obtain⟨u,hu,ru⟩:=bf h3.pr hp
   refine⟨⟨vs,u,hq,hu⟩,λx H' ⟨hH,hx⟩=>?_⟩
   subst hH
   have:vs[j]?=some x:=hx vs hq
   rw[hu] at this
   cases this
   exact⟨F2,Ĳ,Same.refl _,Same.refl _,Rep.same sF p u ru⟩
def fJ(lo:Int)(n:Nat)(c:Int):List PV:=(List.range n).map λ(i:Nat)=>.int (lo+i*c)
def mL(i:Int):Bool:=decide (i.natAbs<1152921504606846976)
def cQ:List PV->Option (List PV)
 | [.int j]=>if mL j=true then some (fJ 0 j.toNat 1) else none
 |_=>none
def bZ(f:List PV->Option (List PV))(mr:M (List PV)):M (List PV):=λρ=>(mr ρ).bind λps ρ1=>Res.lW (f ps) ρ1
def wF{lo c:Int}{n i:Nat}{p:PV}(h:(fJ lo n c)[i]?=some p):i<n/\p=.int (lo+i*c):=by
 unfold fJ at h
 by_cases hn:i<n
 ·rw[List.getElem?_map,List.getElem?_range hn] at h
  exact⟨hn,(Option.some.inj h).symm⟩
 ·rw[List.getElem?_eq_none (by simpa using hn)] at h
  cases h
def wG{lo c:Int}{n:Nat}:(fJ lo n c).length=n:=by simp[fJ]
def Ug{K:KK}{Lh F:Hp}(lo:Int)(n:Nat):Jw K Lh F (Itr lo n) (fJ lo n 1):=λc i F2 H σ ρ rel sF _=>
 ⟨fun p hp=>by
   obtain⟨h1,rfl⟩:=wF hp
   refine⟨h1,λx H' ⟨e1,e2⟩=>?_⟩
   subst e1 e2
   exact⟨F2,rel,Same.refl _,Same.refl _,by rw[Int.mul_one];exact Rep.int⟩,λhi=>by rw[wG] at hi;subst hi;exact Nat.le_refl _⟩
def Aq{i:Int}(h:mL i=true): -(2 ^ 60)<=i/\i<2 ^ 60:=by
 unfold mL at h
 rw[decide_eq_true_eq] at h
 omega
variable{a b d:Expr}{p pos:Pos}{mr:M (List PV)}
def Dq{K:KK}{F:Hp}{ps:List PV}{vs:List V}(h:ĕ K F ps vs):(∀i r,ps=.int i::r->∃r',vs=.int i::r'/\ĕ K F r r')/\(ps=[]->vs=[]):=by
 refine⟨λi r e=>?_,λe=>?_⟩
 ·subst e
  unfold ĕ at h
  obtain⟨x,r',h1,h2,h3⟩:=h
  unfold Rep at h2
  exact⟨r',by rw[h1,h2],h3⟩
 ·subst e
  unfold ĕ at h
  exact h
def aF(hg:Gl X "range")(hm:X.mg "range" =none)(ha:PA X [a] (tL (kk X cm) E mr))(hs:starEach [a] X.env=[(false,eval a X.env)]:=by exact aM rfl):PI X tg (.Call (.Name "range" p) [a] [] pos) (tI (kk X cm) E (bZ cQ mr)):=
 λpins s σ H R I h=>z_ hg hm ha hs pins s σ H R I (by
  obtain⟨c,F,ρ,rel,h⟩:=h
  refine⟨c,F,ρ,rel,h.bind λps ρ1 vs F1 H1 ē s1 s2 q h1=>?_⟩
  have q':ĕ (kk X cm) F1 ps vs:=q
  unfold cQ at h1
  split at h1
  ·rename_i j
   split at h1
   ·rename_i hj
    obtain⟨r',e1,e2⟩:=(Dq q').1 _ _ rfl
    cases(Dq e2).2 rfl
    obtain⟨k1,k2⟩:=Aq hj
    exact⟨j,e1,by omega,by omega,h1 _ F1 H1 ē (Same.refl _) (Same.refl _) (Ug 0 j.toNat)⟩
   ·exact h1.elim
  ·exact h1.elim)
end
def Ų:Slot->Slot
 | .sh p=>.sh p
 | .ow ps=>.bw ps
 | .bw ps=>.bw ps
 |_=>.no
def fK(js:List Nat)(nl:Nat)(ρ:ĺ):ĺ:=js.map (λ(j:Nat)=>Ų ((ρ[j]?).getD .no))++List.replicate nl .no
def Ķ(g:Tg)(mt:M Bool)(me:M PV):List PV->ĺ->List PV->Option (List PV)
 | [],_,acc=>some acc
 |p::ps,ρ,acc=>match g p ρ with
  |none=>none
  |some ρ1=>match mt ρ1 with
   | .ok true ρ2=>match me ρ2 with
     | .ok q ρ3=>if acc.length<16777216 then Ķ g mt me ps ρ3 (acc ++ [q]) else none
     |_=>none
   | .ok false ρ2=>Ķ g mt me ps ρ2 acc
   |_=>none
def Ł(js:List Nat)(nl:Nat)(mi:M (List PV))(g:Tg)(mt:M Bool)(me:M PV):M RV:=λρ=>(mi ρ).bind λitems ρ1=>match Ķ g mt me items (fK js nl ρ1) [] with
 |some ps=>.ok (.ow ps) ρ1
 |none=>.bad
abbrev EF:L2.St->XK:=λ_ _ _ _=>False
def Ľ:M Bool:=λρ=>.ok true ρ
section
variable{K:KK}{c:Ctx}{F H:Hp}{σ:L2.St}{ρ:ĺ}
def rC(F H H1:Hp):Ctx:=⟨H1,F,(ctx0 F H).L,λ_ _ _=>True⟩
def Rel.cap(js:List Nat)(nl:Nat)(rel:Rel K c F H σ ρ){D:Addr}{o:HO}(hD:H D=none):Rel K (rC F H (upd H D o)) F (upd H D o) (cI js nl σ) (fK js nl ρ) where
 sub:=rel.sub.trans (Same.upd hD)
 base:=Same.refl _
 f0:=Same.refl _
 cX:=λ_ _ z=>z
 lent:=λa u e=>⟨Same.upd hD a u (bY e).1,(bY e).2⟩
 lb:=fun a e=>by
   cases q:(rC F H (upd H D o)).L a with
   |none=>rfl
   |some u=>
    have e':upd H D o a=none:=e
    rw[Same.upd hD a u (bY q).1] at e'
    cases e'
 len:=by simp[cI,fK]
 slot:= λi s e=>by
  unfold fK at e
  by_cases hi:i<js.length
  ·rw[List.getElem?_append_left (by simpa using hi),List.getElem?_map] at e
   cases ej:js[i]? with
   |none=>rw[ej] at e;cases e
   |some j=>
    rw[ej] at e
    have e':Ų ((ρ[j]?).getD .no)=s:=Option.some.inj e
    subst e'
    have hx:((cI js nl σ)[i]?).getD none=(σ[j]?).getD none:=by
     unfold cI
     rw[List.getElem?_append_left (by simpa using hi),List.getElem?_map,ej]
     rfl
    rw[hx]
    cases er:ρ[j]? with
    |none=>trivial
    |some sl=>
     have q:=rel.slot j sl er
     cases sl with
     |no=>trivial
     |sh p=>exact q
     |ow ps=>
      obtain⟨a,vs,h1,h2,h3,h4,h5⟩:=q
      refine⟨a,vs,h1,?_,h5⟩
      show(match F a with|none=>H a|some _=>none)=_
      rw[h3]
      exact h2
     |bw ps=>
      obtain⟨a,vs,h1,h2,h3⟩:=q
      obtain⟨l1,l2⟩:=rel.lent a _ h2
      refine⟨a,vs,h1,?_,h3⟩
      show(match F a with|none=>H a|some _=>none)=_
      rw[l2]
      exact l1
     |rc C ns ps=>trivial
     |ot ps qs rs=>trivial
     |ol Bg=>trivial
  ·rw[List.getElem?_append_right (by simpa using hi),List.getElem?_replicate] at e
   split at e
   ·cases e;trivial
   ·cases e
 sep:=λi j a h1 _=>by
  exfalso
  obtain⟨s,y,h1,_,h2⟩:=h1
  have h2:=jE h2
  unfold fK at h1
  by_cases hi:i<js.length
  ·rw[List.getElem?_append_left (by simpa using hi),List.getElem?_map] at h1
   cases ej:js[i]? with
   |none=>rw[ej] at h1;cases h1
   |some j=>
    rw[ej] at h1
    have e':Ų ((ρ[j]?).getD .no)=s:=Option.some.inj h1
    subst e'
    cases q:(ρ[j]?).getD .no<;>rw[q] at h2<;>cases h2
  ·rw[List.getElem?_append_right (by simpa using hi),List.getElem?_replicate] at h1
   split at h1
   ·cases h1;cases h2
   ·cases h1
def Rel.rebase{H1 F1:Hp}{D:Addr}{ys zs:List V}(hD:H1 D=none)(hF:F1 D=none)(rel:Rel K (rC F1 H1 (upd H1 D (.lst ys))) F H σ ρ):Rel K (rC F1 H1 (upd H1 D (.lst zs))) F (upd H D (.lst zs)) σ ρ:= by
 have fD:F D=none:=rel.cX D (by show upd H1 D _ D≠none;rw[Ğ];intro z;cases z) hF
 have lD:∀b u,(rC F1 H1 (upd H1 D (.lst ys))).L b=some u->b≠D:=λb u e z=>by
  have q:=(bY (F:=F1) (H:=H1) (a:=b) (u:=u) e).1
  rw[z,hD] at q
  cases q
 have ne:∀b,(rC F1 H1 (upd H1 D (.lst ys))).B b=none->b≠D:=λb z q=>by
  subst q
  have z':upd H1 b (.lst ys) b=none:=z
  rw[Ğ] at z';cases z'
 have back:∀b,b≠D->(rC F1 H1 (upd H1 D (.lst ys))).B b=none->(rC F1 H1 (upd H1 D (.lst zs))).B b=none:=λb hb z=>by
  have z':upd H1 D (.lst ys) b=none:=z
  show upd H1 D (.lst zs) b=none
  rw[ę hb] at z' ⊢;exact z'
 refine⟨λb u e=>?_,λb u e=>?_,rel.f0,λb h1 h2=>?_,λb u e=>?_,λb e=>?_,rel.len,λi s e=>?_,rel.sep⟩
 ·have hb:b≠D:=λz=>by rw[z,fD] at e;cases e
  rw[ę hb];exact rel.sub b u e
 ·by_cases hb:b=D
  ·subst hb
   have e':upd H1 b (.lst zs) b=some u:=e
   rw[Ğ] at e' ⊢;exact e'
  ·have e':upd H1 D (.lst zs) b=some u:=e
   rw[ę hb] at e' ⊢
   exact rel.base b u (by show upd H1 D _ b=some u;rw[ę hb];exact e')
 ·refine rel.cX b (λz=>h1 ?_) h2
  exact back b (ne b z) z
 ·rw[ę (lD b u e)]
  exact rel.lent b u e
 ·refine rel.lb b ?_
  have z':upd H1 D (.lst zs) b=none:=e
  have hb:b≠D:=λq=>by rw[q,Ğ] at z';cases z'
  show upd H1 D (.lst ys) b=none
  rw[ę hb] at z' ⊢;exact z'
 ·have q:=rel.slot i s e
  cases s with
  |no=>trivial
  |sh p=>exact q
  |bw ps=>exact q
  |ow ps=>
   obtain⟨a,vs,q1,q2,q3,q4,q5⟩:=q
   have hb:=ne a q4
   exact⟨a,vs,q1,by rw[ę hb];exact q2,q3,back a hb q4,q5⟩
  |rc C ns ps=>
   obtain⟨a,dx,fs,q1,q2,q3,q4,q5⟩:=q
   have hb:=ne a q4
   exact⟨a,dx,fs,q1,by rw[ę hb];exact q2,q3,back a hb q4,q5⟩
  |ot ps qs rs=>
   obtain⟨p,a,xs,vs,ys,q1,q0,qx,q2,q3,q4,q5⟩:=q
   have hb:=ne a q4
   exact⟨p,a,xs,vs,ys,q1,q0,qx,by rw[ę hb];exact q2,q3,back a hb q4,q5⟩
  |ol Bg=>
   obtain⟨p,as,q1,q0,qn,qp⟩:=q
   refine⟨p,as,q1,q0,qn,C_ qp λa ps _ ⟨vs,q2,q3,q4,q5⟩=>?_⟩
   have hb:=ne a q4
   exact⟨vs,by rw[ę hb];exact q2,q3,back a hb q4,q5⟩
end
section
variable{X:Cx}{cm:String->Addr}{E:L2.St->XK}{elt tg iter:Expr}{ifs:List Expr}{scope:Scope}{pos:Pos}{mi:M (List PV)}{g:Tg}{mt:M Bool}{me:M PV}
def Ś:Bd X [] (tB (kk X cm) E Ľ):=λpins s σ H Q I h=>Jd pins s σ H Q I (by
 obtain⟨c,F,ρ,rel,h⟩:=h
 exact h true F H rel (Same.refl _) (Same.refl _) rfl)
def Dr{a:Expr}(h:PT X a (tB (kk X cm) E mt)):Bd X [a] (tB (kk X cm) E mt):=Je h
def Dt(K:KK):RR (List PV) It:=λ_ _ _ F H items J=>Jw K (ctx0 F H).L F J items
def Yx{K:KK}{c:Ctx}{F H:Hp}{σ:L2.St}{ρ:ĺ}(rel:Rel K c F H σ ρ){b:Addr}{u:HO}(e:c.L b=some u):(ctx0 F H).L b=some u:=by
 obtain⟨l1,l2⟩:=rel.lent b u e
 show(match F b with|none=>H b|some _=>none)=some u
 rw[l2]
 exact l1
def KH(h:PI X tg iter (tI (kk X cm) E mi)):PI X tg iter (tG (kk X cm) E (Dt (kk X cm)) mi):=λpins s σ H R I ⟨c,F,ρ,rel,q⟩=>h pins s σ H R I ⟨c,F,ρ,rel,aA.bind (R':=Dt (kk X cm)) (f:=λp ρ=>.ok p ρ) (by revert q;cases mi ρ <;> exact id) λp ρ1 v F1 H1 ē s1 s2 q h1=>h1 v F1 H1 ē (Same.refl _) (Same.refl _) λc' i F2 H2 σ2 ρ2 Ĳ sF sL=>q c' i F2 H2 σ2 ρ2 Ĳ sF λb u e=>sL b u (Yx ē e)⟩
def uE{js:List Nat}{nl:Nat}{σ:L2.St}{H:Hp}{Q:VK}(h:tO (kk X cm) E (Ł js nl mi g mt me) σ H Q):CG js nl (tG (kk X cm) E (Dt (kk X cm)) mi) (tT (kk X cm) g) (tB (kk X cm) EF mt) (tV (kk X cm) EF me) σ H Q:=by
 obtain⟨c,F,ρ,rel,h⟩:=h
 refine⟨c,F,ρ,rel,h.bind λitems ρ1 J F1 H1 ē s1 s2 ito h1=>?_⟩
 intro D hD
 have hF:F1 D=none:=ē.sub.free hD
 cases ec:Ķ g mt me items (fK js nl ρ1) [] with
 |none=>rw[ec] at h1;exact h1.elim
 |some res=>
  rw[ec] at h1
  refine⟨λi m σ' H'=>∃F' ρ' ys acc,i<=items.length/\m=items.length-i/\Rel (kk X cm) (rC F1 H1 (upd H1 D (.lst ys))) F' H' σ' ρ'/\ĕ (kk X cm) F' acc ys/\Ķ g mt me (items.drop i) ρ' acc=some res,
   ⟨_,F1,_,[],[],Nat.zero_le _,rfl,?_,ĕ.nil,ec⟩,?_⟩
  ·exact ē.cap js nl hD
  ·rintro i m σ2 H2 ⟨F2,ρ2,ys,acc,hle,rfl,Ĳ,ra,h2⟩
   have s12:Same F1 F2:=Ĳ.f0
   obtain⟨go,stop⟩:=ito _ i F2 H2 σ2 ρ2 Ĳ s12 λb u e=>(Ĳ.lent b u e).1
   have hH2:H2 D=some (.lst ys):=Ĳ.base D _ (show upd H1 D _ D=_ from Ğ)
   have fD:F2 D=none:=Ĳ.cX D (by show upd H1 D _ D≠none;rw[Ğ];intro z;cases z) hF
   by_cases hlt:i<items.length
   ·obtain⟨g1,g2⟩:=go items[i] (List.getElem?_eq_getElem hlt)
    rw[List.drop_eq_getElem_cons hlt] at h2
    unfold Ķ at h2
    refine .inr ⟨g1,_,λσ' H' z=>z,λx H3 hy=>?_⟩
    obtain⟨F3,rz,s3,sH3,rp⟩:=g2 x H3 hy
    refine⟨_,F3,ρ2,items[i],rz,rp,?_⟩
    cases eg:g items[i] ρ2 with
    |none=>rw[eg] at h2;cases h2
    |some ρ3=>
     rw[eg] at h2
     dsimp only at h2
     intro σ4 Di
     refine⟨_,F3,ρ3,Di,?_⟩
     cases em:mt ρ3 with
     |bad=>rw[em] at h2;cases h2
     |exc x ρ4=>rw[em] at h2;cases h2
     |ok b ρ4=>
      rw[em] at h2
      intro b' F5 H5 Yy s5 HB eb
      have eb':b=b':=eb
      subst eb'
      cases b with
      |false=>
       rw[if_neg Bool.false_ne_true]
       dsimp only at h2
       exact⟨items.length-(i+1),by omega,F5,ρ4,ys,acc,hlt,rfl,Yy,ĕ.same (s3.trans s5) acc ys ra,h2⟩
      |true=>
       rw[if_pos rfl]
       dsimp only at h2
       refine⟨_,F5,ρ4,Yy,?_⟩
       cases ee:me ρ4 with
       |bad=>rw[ee] at h2;cases h2
       |exc x ρ5=>rw[ee] at h2;cases h2
       |ok q ρ5=>
        rw[ee] at h2
        dsimp only at h2
        intro y F6 H6 Yz s6 Jy rq
        split at h2
        ·rename_i hz
         have ra6:=ĕ.same ((s3.trans s5).trans s6) acc ys ra
         refine⟨ys,Yz.base D _ (show upd H1 D _ D=_ from Ğ),by rw[<-ra6.length,ĳ];exact hz,?_⟩
         exact⟨items.length-(i+1),by omega,F6,ρ5,ys ++ [y],acc ++ [q],hlt,rfl,Yz.rebase hD hF,ĕ.append ra6 (ĕ.cons rq ĕ.nil),h2⟩
        ·cases h2
   ·have e:i=items.length:=by omega
    refine .inl ⟨stop e,?_⟩
    rw[List.drop_eq_nil_of_le (by omega)] at h2
    unfold Ķ at h2
    cases h2
    have gr:Gr F1 H1 F2 H2:=⟨λb u e=>Ĳ.base b u (by show upd H1 D _ b=_;rw[ę (Ģ e hD)];exact e),s12,Ĳ.sub,λb hb hf=>Ĳ.cX b (by
     show upd H1 D _ b≠none
     by_cases hbD:b=D
     ·rw[hbD,Ğ];intro z;cases z
     ·rw[ę hbD];exact hb) hf⟩
    have Zb8:=ē.call gr
    exact h1 _ F2 H2 Zb8 s12 gr.h ⟨D,ys,rfl,hH2,fD,ē.base.free hD,ē.jF gr.f (ē.fresh hD),ra⟩
def Jz(N':List Str)(js:List Nat)(nl:Nat)(sc:Scope)(hsc:X.env.scope=sc)(hcalm:X.calm=true)
 (hi:PI X.Ŏ tg iter (tG (kk X cm) E (Dt (kk X cm)) mi))(hg:∀cl C s H fp,PG (bW X.Ŏ N' scope cl C s H fp) tg (tT (kk X cm) g))(ht:∀cl C s H fp,Bd (bW X.Ŏ N' scope cl C s H fp) ifs (tB (kk X cm) EF mt))(he:∀cl C s H fp,PE (bW X.Ŏ N' scope cl C s H fp) elt (tV (kk X cm) EF me))
 (hcap:cH X.Ŏ sc scope N' js)(hlen:js.length+nl=N'.length:=by rfl)
 (hk:scope.kind=.function:=by rfl)(hcell:∀y∈scope.names,y.2=.cell->scope.names.lookup y.1=some .cell:=by decide +kernel)(hnames:∀y∈scope.names,y.2=.local->scope.names.lookup y.1=some .local:=by decide +kernel)
 (hfree:∀y∈scope.names,y.2=.free->(sc.names.lookup y.1=some .cell\/sc.names.lookup y.1=some .free):=by decide +kernel)
 (hs:∀x,foldedSetIterable iter X.env x=pure x:=by intro _;rfl) :
 PE X (.ListComp elt [⟨tg,iter,ifs,0⟩] scope pos) (tO (kk X cm) E (Ł js nl mi g mt me)):=
 PE.wk (PE.Ŏ (Jf N' js nl sc hsc hcalm hi hg ht he hcap hlen hk hcell hnames hfree hs)) λ_ _ _ h=>uE h
end
end P
namespace P
open PySem PySem.Spec PyProof.Rows L2 M2 M3 M4
abbrev bits(x:Int):Nat:=Builtin.Int.intBits x
section
variable{X:Cx}{cm:String->Addr}{K:KK}
def KJ(K:PySem.W.Frag):R2:=λx y H Q=>∃l b xs zs,x=.ref l/\y=.ref b/\Ũ K H l xs/\Ũ K H b zs/\xs.length+zs.length<=sizeLine/\∀p,H p=none->Q (.ref p) (upd H p (.lst (xs++zs)))
def JB:ũ X (binaryOp .Add) (KJ X.K):=by
 intro pins s σ H x y v u Q I rx ry h
 obtain⟨l,b,xs,zs,rfl,rfl,hH,hB,hz,q⟩:=h
 cases rx
 cases ry
 obtain⟨its,r,pl,z⟩:=I.list hH
 obtain⟨its2,r2,pl2,z2⟩:=I.list hB
 obtain⟨⟨c1,d1,t1,sl1⟩,n,e,hc,hd,hs⟩:=pl
 obtain⟨⟨c2,d2,t2,sl2⟩,n2,e2,hc2,hd2,hs2⟩:=pl2
 simp only at hc hd hs hc2 hd2 hs2
 subst hc hd hs hc2 hd2 hs2
 have hl:=r.length
 have hl2:=r2.length
 have ea:its.toArray++its2.toArray=(its++its2).toArray:=by simp
 refine concat_meets ⟨_,e,rfl⟩ ⟨_,e2,rfl⟩ noFill_list_add seq_list_add PySem.F.slot_list_add PySem.F.entry_list_add (PySem.F.args_list_add_2 _ _) (list_addW l b its.toArray its2.toArray n n2 none none sl1 sl2 (by simp only[List.size_toArray];omega)) ⟨e,e2,?_⟩
 rw[ea]
 exact⟨.ref _,_,I.ZbW (t':=s.toks) (r.append r2) (by rw[List.length_append];omega),rfl,q _ I.fresh⟩
def KN(K:PySem.W.Frag):R2:=λx y H Q=>∃l b xs zs,x=.ref l/\y=.ref b/\cY K H l xs/\cY K H b zs/\xs≠[]/\zs≠[]/\xs.length+zs.length<=sizeLine/\∀p,H p=none->Q (.ref p) (upd H p (.tup (xs++zs)))
def JC:ũ X (binaryOp .Add) (KN X.K):=by
 intro pins s σ H x y v u Q I rx ry h
 obtain⟨l,b,xs,zs,rfl,rfl,hH,hB,nx,nz,hz,q⟩:=h
 cases rx
 cases ry
 obtain⟨its,r,pl,z⟩:=I.tuple hH
 obtain⟨its2,r2,pl2,z2⟩:=I.tuple hB
 obtain⟨⟨c1,d1,t1,sl1⟩,e,hc,n,hd⟩:=pl
 obtain⟨⟨c2,d2,t2,sl2⟩,e2,hc2,n2,hd2⟩:=pl2
 simp only at hc hd hc2 hd2
 subst hc hd hc2 hd2
 have hl:=r.length
 have hl2:=r2.length
 have ne1:its≠[]:=λz=>by rw[z] at hl;exact nx (List.length_eq_zero_iff.mp hl)
 have ne2:its2≠[]:=λz=>by rw[z] at hl2;exact nz (List.length_eq_zero_iff.mp hl2)
 have ea:its.toArray++its2.toArray=(its++its2).toArray:=by simp
 refine concat_meets ⟨_,e,rfl⟩ ⟨_,e2,rfl⟩ noFill_tuple_add seq_tuple_add PySem.F.slot_tuple_add PySem.F.entry_tuple_add (PySem.F.args_tuple_add_2 _ _) (tuple_addW2 l b its.toArray its2.toArray n n2 d1 d2 sl1 sl2 (by simpa using ne1) (by simpa using ne2) (by simp only[List.size_toArray];omega)) ⟨e,e2,?_⟩
 rw[ea]
 exact⟨.ref _,_,I.laid (o:=.tup (xs++zs)) (t':=s.toks) (λ_ _ q=>Heap.get?_push_of_some _ q) (Nat.le_refl _) ⟨by rw[List.length_append];omega,(its++its2),r.append r2,⟨_,Heap.get?_push_size _ rfl,rfl,_,rfl⟩⟩,rfl,q _ I.fresh⟩
def ĝ:PV->PV->Option RV
 | .int i,.int j=>some (.sh (.int (i+j)))
 | .str i,.str j=>if i.length+j.length<=16777216 then some (.sh (.str (i++j))) else none
 | .lst ps,.lst qs=>if ps.length+qs.length<=16777216 then some (.ow (ps++qs)) else none
 | .tup (p::ps),.tup (q::qs)=>if(p::ps).length+(q::qs).length<=16777216 then some (.sh (.tup ((p::ps)++(q::qs)))) else none
 |_,_=>none
def KQ(K:PySem.W.Frag):R2:=λx y H Q=>XR x y H Q\/(KJ K x y H Q\/KN K x y H Q)
def Uh:ũ X (binaryOp .Add) (KQ X.K):=Tn.or (JB.or JC)
def Ui:OpO K (KQ K.K) ĝ:=by
 intro c F H σ ρ p q pv v u Q rel r1 r2 e k
 unfold ĝ at e
 split at e
 ·cases e
  cases r1.int
  cases r2.int
  exact .inl (k _ F H rel (Same.refl _) (Same.refl _) (Rep.int (K:=K) (F:=F)))
 ·split at e
  ·rename_i hz
   cases e
   cases r1.str
   cases r2.str
   exact .inl ⟨by rw[ĳ];exact hz,k _ F H rel (Same.refl _) (Same.refl _) (Rep.str (K:=K) (F:=F))⟩
  ·cases e
 ·split at e
  ·rename_i hz
   cases e
   obtain⟨a,xs,rfl,h1,h2⟩:=r1.lst rel.sub
   obtain⟨b,ys,rfl,h3,h4⟩:=r2.lst rel.sub
   refine .inr (.inl ⟨a,b,xs,ys,rfl,rfl,h1,h3,by rw[<-h2.length,<-h4.length,ĳ];exact hz,λd hd=>?_⟩)
   obtain⟨q1,q2⟩:=cM rel hd (ĕ.append h2 h4)
   exact k _ F _ q1 (Same.refl _) (Same.upd hd) q2
  ·cases e
 ·split at e
  ·rename_i hz
   cases e
   obtain⟨a,xs,rfl,h1,h2⟩:=r1.tup rel.sub
   obtain⟨b,ys,rfl,h3,h4⟩:=r2.tup rel.sub
   have l1:=h2.length
   have l2:=h4.length
   refine .inr (.inr ⟨a,b,xs,ys,rfl,rfl,h1,h3,(λz=>by rw[z] at l1;cases l1),(λz=>by rw[z] at l2;cases l2),by rw[<-l1,<-l2,ĳ];exact hz,λl hl=>k _ _ _ (rel.alloc hl) (Same.upd (rel.sub.free hl)) (Same.upd hl) ?_⟩)
   show Rep K _ _ _
   unfold Rep
   exact⟨l,xs++ys,rfl,cY.of Ğ,ĕ.same (Same.upd (rel.sub.free hl)) _ _ (ĕ.append h2 h4)⟩
  ·cases e
 ·cases e
def uf(g:Int->Int->Int):PV->PV->Option PV
 | .int i,.int j=>some (.int (g i j))
 |_,_=>none
def yG(C:Int->Int->Bool)(g:Int->Int->Int):PV->PV->Option PV
 | .int i,.int j=>if C i j=true then some (.int (g i j)) else none
 |_,_=>none
def YB(g:Int->Int->Bool):PV->PV->Option PV
 | .int i,.int j=>some (.bl (g i j))
 |_,_=>none
def KR{g:Int->Int->Int}:iZ K (Ak λi j=>.int (g i j)) (uf g):=by
 intro c F H σ ρ p q pv v u Q rel r1 r2 e k
 unfold uf at e
 split at e
 ·cases e
  cases r1.int
  cases r2.int
  exact k _ F H rel (Same.refl _) (Same.refl _) Rep.int
 ·cases e
def Uj{g:Int->Int->Bool}:iZ K (Ak λi j=>.bl (g i j)) (YB g):=by
 intro c F H σ ρ p q pv v u Q rel r1 r2 e k
 unfold YB at e
 split at e
 ·cases e
  cases r1.int
  cases r2.int
  exact k _ F H rel (Same.refl _) (Same.refl _) Rep.bl
 ·cases e
def Du{C:Int->Int->Bool}{C':Int->Int->Prop}{g:Int->Int->Int}(hC:∀i j,C i j=true->C' i j):iZ K (mI C' λi j=>.int (g i j)) (yG C g):=by
 intro c F H σ ρ p q pv v u Q rel r1 r2 e k
 unfold yG at e
 split at e
 ·split at e
  ·rename_i hc
   cases e
   cases r1.int
   cases r2.int
   exact⟨hC _ _ hc,k _ F H rel (Same.refl _) (Same.refl _) Rep.int⟩
  ·cases e
 ·cases e
def ŕ:=uf λi j=>i-j
def Uk:iZ K (Ak λi j=>.int (i-j)) ŕ:=KR
def gU(_ j:Int):Bool:=decide (j≠0) && decide (bits j<=8000)
def ŏ:=yG gU λi j=>i.fdiv j
def Ul:iZ K (mI Al λi j=>.int (i.fdiv j)) ŏ:=Du λi j h=>by unfold gU at h;simpa[Al] using h
def yX(_ j:Int):Bool:=decide (j≠0)
def Ī:=yG yX λi j=>i.fmod j
def Um:iZ K (mI (λ_ j=>j≠0) λi j=>.int (i.fmod j)) Ī:=Du λi j h=>by unfold yX at h;simpa using h
def uF(i j:Int):Bool:=decide (0<=j) && decide (j.natAbs<=1000000) && decide (i.natAbs<18446744073709551616)
def mO:=yG uF λi j=>i ^ j.toNat
def mQ:iZ K (mI Ab λi j=>.int (i ^ j.toNat)) mO:=Du λi j h=>by
 unfold uF at h
 simp only[Bool.and_eq_true,decide_eq_true_eq] at h
 exact⟨h.1.1,by omega,by have:=h.2;simpa using this⟩
def mR(i j:Int):Bool:=decide (0<=j) && decide (j.natAbs<=1000000) && decide (i.natAbs<18446744073709551616)
def uG:=yG mR λi j=>i*2 ^ j.toNat
def wH:iZ K (mI Ab λi j=>.int (i*2 ^ j.toNat)) uG:=Du λi j h=>by
 unfold mR at h
 simp only[Bool.and_eq_true,decide_eq_true_eq] at h
 exact⟨h.1.1,by omega,by have:=h.2;simpa using this⟩
def uH(_ j:Int):Bool:=decide (0<=j)
def yZ:=yG uH λi j=>i / 2 ^ j.toNat
def Dv:iZ K (mI (λ_ j=>0<=j) λi j=>.int (i / 2 ^ j.toNat)) yZ:=Du λi j h=>by unfold uH at h;simpa using h
def wI:=uf λi j=>Builtin.bitAnd i j
def JD:iZ K (Ak λi j=>.int (Builtin.bitAnd i j)) wI:=KR
def wJ:ũ X (binaryOp .LShift) (mI Ab λi j=>.int (i*2 ^ j.toNat)):=ũ.wk Ss pQ
def Dw:ũ X (binaryOp .RShift) (mI (λ_ j=>0<=j) λi j=>.int (i / 2 ^ j.toNat)):=ũ.wk Sv pQ
def JF:ũ X (binaryOp .BitAnd) (Ak λi j=>.int (Builtin.bitAnd i j)):=ũ.wk Sw mD
def iC:=YB λi j=>decide (i<j)
def je:=YB λi j=>decide (i<=j)
def wK:=YB λi j=>decide (j<i)
def dR:iZ K (Ak λi j=>.bl (decide (i<j))) iC:=Uj
def dU:iZ K (Ak λi j=>.bl (decide (i<=j))) je:=Uj
def uI:iZ K (Ak λi j=>.bl (decide (j<i))) wK:=Uj
def ł(i j:Int):Bool:=decide (i.natAbs<18446744073709551616) || decide (j.natAbs<18446744073709551616) || (decide (bits i<=1048576) && decide (bits j<=1048576))
def Dz{i j:Int}(h:ł i j=true):pR i j:=by
 unfold ł at h
 simp only[Bool.or_eq_true,Bool.and_eq_true,decide_eq_true_eq] at h
 rcases h with(h|h)|h
 ·exact .inl (.inl ⟨by omega,by omega⟩)
 ·exact .inl (.inr ⟨by omega,by omega⟩)
 ·exact .inr h
def ħ:PV->PV->Option PV
 | .int i,.int j=>if ł i j=true then some (.int (i*j)) else none
 | .str z,.int n=>if 0<=n/\n<=1000/\z.length<=1000 then some (.str (S (List.replicate n.toNat z.cps.toList).flatten)) else none
 |_,_=>none
def Uo:iZ K CQ ħ:=by
 intro c F H σ ρ p q pv v u Q rel r1 r2 e k
 unfold ħ at e
 split at e
 ·split at e
  ·rename_i hc
   cases e
   cases r1.int
   cases r2.int
   exact⟨Dz hc,k _ F H rel (Same.refl _) (Same.refl _) Rep.int⟩
  ·cases e
 ·split at e
  ·rename_i hc
   cases e
   cases r1.str
   cases r2.int
   exact⟨hc,k _ F H rel (Same.refl _) (Same.refl _) Rep.str⟩
  ·cases e
 ·cases e
variable{E:L2.St->XK}{a b e:Expr}{es:List Expr}{pos:Pos}{ma mb:M PV}{mr:M (List PV)}
def aN:PV->Option PV
 | .int i=>some (.int (-i))
 |_=>none
def b_:UnV K (mU λi=>.int (-i)) aN:=by
 intro c F H σ ρ p pv v Q rel r1 e k
 unfold aN at e
 split at e
 ·cases e
  cases r1.int
  exact k _ F H rel (Same.refl _) (Same.refl _) Rep.int
 ·cases e
mutual
def eqB:PV->PV->Bool
 | .non,.non=>true
 | .bl a,.bl b=>a== b
 | .bl a,.int j=>(if a then 1 else 0)== j
 | .int i,.bl b=>i== (if b then 1 else 0)
 | .int i,.int j=>i== j
 | .str x,.str y=>x== y
 | .lst xs,.lst ys=>dF xs ys
 | .tup xs,.tup ys=>dF xs ys
 |_,_=>false
def dF:List PV->List PV->Bool
 | [],[]=>true
 |x::xs,y::ys=>eqB x y && dF xs ys
 |_,_=>false
end
mutual
def ŭ:PV->Bool
 | .non| .bl _| .int _=>true
 | .str x=>PyData.strOk x
 | .lst xs=>ž xs
 | .tup xs=>ž xs
 |_=>false
def ž:List PV->Bool
 | []=>true
 |x::xs=>ŭ x && ž xs
end
mutual
def dep:PV->Nat
 | .lst xs=>jf xs+1
 | .tup xs=>jf xs+1
 |_=>0
def jf:List PV->Nat
 | []=>0
 |x::xs=>max (dep x) (jf xs)
end
mutual
def toD:PV->PyData
 | .non=>.none
 | .bl b=>.bool b
 | .int i=>.int i
 | .str x=>.str x
 | .lst xs=>.list (cR xs)
 | .tup xs=>.tuple (cR xs)
 |_=>.none
def cR:List PV->List PyData
 | []=>[]
 |x::xs=>toD x::cR xs
end
mutual
theorem dG:∀p:PV,ŭ p=true->(toD p).canLay0=true
 | .non,_=>rfl
 | .bl _,_=>rfl
 | .int _,_=>rfl
 | .str x,h=>by unfold ŭ at h;unfold toD PyData.canLay0;exact h
 | .lst xs,h=>by unfold ŭ at h;unfold toD PyData.canLay0;exact fL xs h
 | .tup xs,h=>by unfold ŭ at h;unfold toD PyData.canLay0;exact fL xs h
 | .ins _ _ _,h=>by simp[ŭ] at h
 | .xc _ _ _,h=>by simp[ŭ] at h
 | .ty _,h=>by simp[ŭ] at h
 | .cls _,h=>by simp[ŭ] at h
theorem fL:∀ps:List PV,ž ps=true->PyData.canLayAll0 (cR ps)=true
 | [],_=>rfl
 |p::ps,h=>by
  unfold ž at h
  rw[Bool.and_eq_true] at h
  unfold cR PyData.canLayAll0
  rw[dG p h.1,fL ps h.2]
  rfl
end
mutual
theorem dH:∀p:PV,(toD p).depth=dep p
 | .non=>rfl
 | .bl _=>rfl
 | .int _=>rfl
 | .str x=>rfl
 | .lst xs=>by unfold toD PyData.depth dep;rw[mV xs]
 | .tup xs=>by unfold toD PyData.depth dep;rw[mV xs]
 | .ins _ _ _=>rfl
 | .xc _ _ _=>rfl
 | .ty _=>rfl
 | .cls _=>rfl
theorem mV:∀ps:List PV,PyData.depthAll (cR ps)=jf ps
 | []=>rfl
 |p::ps=>by unfold cR PyData.depthAll jf;rw[dH p,mV ps]
end
mutual
theorem rD:∀p q:PV,ŭ p=true->ŭ q=true->PyData.eqv (toD p) (toD q)=eqB p q
 | .lst xs,.lst ys,h1,h2=>by
   unfold ŭ at h1 h2
   unfold toD eqB PyData.eqv
   exact rE xs ys h1 h2
 | .tup xs,.tup ys,h1,h2=>by
   unfold ŭ at h1 h2
   unfold toD eqB PyData.eqv
   exact rE xs ys h1 h2
 | .ins _ _ _,_,h,_=>by simp[ŭ] at h
 | .xc _ _ _,_,h,_=>by simp[ŭ] at h
 | .ty _,_,h,_=>by simp[ŭ] at h
 | .cls _,_,h,_=>by simp[ŭ] at h
 | .non,q,_,h=>by cases q<;>first|rfl|(simp[ŭ] at h)|(simp[toD,eqB,PyData.eqv])
 | .bl _,q,_,h=>by cases q<;>first|rfl|(simp[ŭ] at h)|(simp[toD,eqB,PyData.eqv])
 | .int _,q,_,h=>by cases q<;>first|rfl|(simp[ŭ] at h)|(simp[toD,eqB,PyData.eqv])
 | .str _,q,_,h=>by cases q<;>first|rfl|(simp[ŭ] at h;done)|(simp[toD,eqB,PyData.eqv])
 | .lst _,.non,_,_=>by simp[toD,eqB,PyData.eqv]
 | .lst _,.bl _,_,_=>by simp[toD,eqB,PyData.eqv]
 | .lst _,.int _,_,_=>by simp[toD,eqB,PyData.eqv]
 | .lst _,.str _,_,_=>by simp[toD,eqB,PyData.eqv]
 | .lst _,.tup _,_,_=>by simp[toD,eqB,PyData.eqv]
 | .lst _,.ins _ _ _,_,h=>by simp[ŭ] at h
 | .lst _,.xc _ _ _,_,h=>by simp[ŭ] at h
 | .lst _,.ty _,_,h=>by simp[ŭ] at h
 | .lst _,.cls _,_,h=>by simp[ŭ] at h
 | .tup _,.non,_,_=>by simp[toD,eqB,PyData.eqv]
 | .tup _,.bl _,_,_=>by simp[toD,eqB,PyData.eqv]
 | .tup _,.int _,_,_=>by simp[toD,eqB,PyData.eqv]
 | .tup _,.str _,_,_=>by simp[toD,eqB,PyData.eqv]
 | .tup _,.lst _,_,_=>by simp[toD,eqB,PyData.eqv]
 | .tup _,.ins _ _ _,_,h=>by simp[ŭ] at h
 | .tup _,.xc _ _ _,_,h=>by simp[ŭ] at h
 | .tup _,.ty _,_,h=>by simp[ŭ] at h
 | .tup _,.cls _,_,h=>by simp[ŭ] at h
theorem rE:∀ps qs:List PV,ž ps=true->ž qs=true->PyData.eqvAll (cR ps) (cR qs)=dF ps qs
 | [],[],_,_=>by simp[cR,dF,PyData.eqvAll]
 | [],_::_,_,_=>by simp[cR,dF,PyData.eqvAll]
 |_::_,[],_,_=>by simp[cR,dF,PyData.eqvAll]
 |p::ps,q::qs,h1,h2=>by
  unfold ž at h1 h2
  rw[Bool.and_eq_true] at h1 h2
  unfold cR dF PyData.eqvAll
  rw[rD p q h1.1 h2.1,rE ps qs h1.2 h2.2]
end
mutual
theorem DG{F:Hp}:∀(p:PV) (v:V),ŭ p=true->Rep K F p v->Rp K.K F (toD p) v
 | .non,_,_,r=>by unfold Rep at r;unfold toD Rp;exact r
 | .bl _,_,_,r=>by unfold Rep at r;unfold toD Rp;exact r
 | .int _,_,_,r=>by unfold Rep at r;unfold toD Rp;exact r
 | .str _,_,_,r=>by unfold Rep at r;unfold toD Rp;exact r
 | .lst xs,_,h,r=>by
   unfold ŭ at h
   unfold Rep at r
   unfold toD Rp
   obtain⟨a,vs,h1,h2,h3⟩:=r
   exact⟨a,vs,h1,h2,gF xs vs h h3⟩
 | .tup xs,_,h,r=>by
   unfold ŭ at h
   unfold Rep at r
   unfold toD Rp
   obtain⟨a,vs,h1,h2,h3⟩:=r
   exact⟨a,vs,h1,h2,gF xs vs h h3⟩
 | .ins _ _ _,_,h,_=>by simp[ŭ] at h
 | .xc _ _ _,_,h,_=>by simp[ŭ] at h
 | .ty _,_,h,_=>by simp[ŭ] at h
 | .cls _,_,h,_=>by simp[ŭ] at h
theorem gF{F:Hp}:∀(ps:List PV) (vs:List V),ž ps=true->ĕ K F ps vs->jC K.K F (cR ps) vs
 | [],_,_,r=>by unfold ĕ at r;unfold cR jC;exact r
 |p::ps,_,h,r=>by
  unfold ž at h
  rw[Bool.and_eq_true] at h
  unfold ĕ at r
  unfold cR jC
  obtain⟨x,t,h1,h2,h3⟩:=r
  exact⟨x,t,h1,DG p x h.1 h2,gF ps t h.2 h3⟩
end
def gG{c:Ctx}{F H:Hp}{σ:L2.St}{ρ:ĺ}{p:PV}{v:V}(s:Same F H)(h:ŭ p=true)(r:rR K c σ ρ F H p v):Rp K.K H (toD p) v:=by
 rcases r with r|r
 ·exact Rp.same s _ _ (DG p v h r)
 ·cases p with
  |lst ps=>
   obtain⟨a,vs,rfl,h3,h4⟩:=r
   unfold ŭ at h
   unfold toD Rp
   exact⟨a,vs,rfl,Ũ.of h3,jC.same s _ _ (gF ps vs h h4)⟩
  |ins C ns ps=>simp[ŭ] at h
  |_=>exact r.elim
def pC(p q:PV):Bool:=ŭ p && ŭ q && decide (min (dep p) (dep q)<=60)
def ŋ(p q:PV):Option PV:=if pC p q=true then some (.bl (eqB p q)) else none
def ū(p q:PV):Option PV:=if pC p q=true then some (.bl (!eqB p q)) else none
def KY:iZ K (Jc K.K false) ŋ:=by
 intro c F H σ ρ p q pv v u Q rel r1 r2 e k
 unfold ŋ at e
 split at e
 ·rename_i hz
  cases e
  unfold pC at hz
  simp only[Bool.and_eq_true,decide_eq_true_eq] at hz
  refine⟨toD p,toD q,gG rel.sub hz.1.1 r1,gG rel.sub hz.1.2 r2,dG p hz.1.1,dG q hz.1.2,by rw[dH,dH];exact hz.2,?_⟩
  rw[rD p q hz.1.1 hz.1.2]
  exact k _ F H rel (Same.refl _) (Same.refl _) Rep.bl
 ·cases e
def KZ:iZ K (Jc K.K true) ū:=by
 intro c F H σ ρ p q pv v u Q rel r1 r2 e k
 unfold ū at e
 split at e
 ·rename_i hz
  cases e
  unfold pC at hz
  simp only[Bool.and_eq_true,decide_eq_true_eq] at hz
  refine⟨toD p,toD q,gG rel.sub hz.1.1 r1,gG rel.sub hz.1.2 r2,dG p hz.1.1,dG q hz.1.2,by rw[dH,dH];exact hz.2,?_⟩
  rw[rD p q hz.1.1 hz.1.2]
  exact k _ F H rel (Same.refl _) (Same.refl _) Rep.bl
 ·cases e
def vL:PV->Bool
 | .non=>true
 |_=>false
def uJ(p q:PV):Option PV:=match q with
 | .non=>some (.bl (vL p))
 |_=>none
def jg(p q:PV):Option PV:=match q with
 | .non=>some (.bl (!vL p))
 |_=>none
def za{c:Ctx}{F H:Hp}{σ:L2.St}{ρ:ĺ}{p:PV}{v:V}(r:rR K c σ ρ F H p v):decide (v=.non)=vL p:=by
 rcases r with r|r
 ·cases p<;>unfold Rep at r<;>first
   |(subst r;rfl)
   |(obtain⟨a,xs,rfl,_⟩:=r;rfl)
   |(obtain⟨a,xs,ys,rfl,_⟩:=r;rfl)
 ·cases p with
  |lst ps=>obtain⟨a,vs,rfl,_⟩:=r;rfl
  |ins C ns ps=>obtain⟨a,dx,fs,rfl,_⟩:=r;rfl
  |_=>exact r.elim
def zc:iZ K (λx y H Q=>y=.non/\Q (.bl (decide (x=.non))) H) uJ:=by
 intro c F H σ ρ p q pv v u Q rel r1 r2 e k
 unfold uJ at e
 split at e
 ·cases e
  refine⟨r2.non,?_⟩
  rw[za r1]
  exact k _ F H rel (Same.refl _) (Same.refl _) Rep.bl
 ·cases e
def DK:iZ K (λx y H Q=>y=.non/\Q (.bl (!decide (x=.non))) H) jg:=by
 intro c F H σ ρ p q pv v u Q rel r1 r2 e k
 unfold jg at e
 split at e
 ·cases e
  refine⟨r2.non,?_⟩
  rw[za r1]
  exact k _ F H rel (Same.refl _) (Same.refl _) Rep.bl
 ·cases e
def Č:PV->PV->Option PV
 | .lst ps,.int i=>lA ps i
 | .tup ps,.int i=>lA ps i
 | .str z,.int i=>if z.length<=16777216 then(lA z.cps.toList i).map λc=>.str ⟨#[c]⟩ else none
 |_,_=>none
def zf{F:Hp}{ps:List PV}{vs:List V}{i:Int}{p:PV}(r:ĕ K F ps vs)(h:lA ps i=some p):∃v,lA vs i=some v/\Rep K F p v:=by
 unfold lA at h ⊢
 rw[r.length] at h
 cases e:Ce vs.length i with
 |none=>rw[e] at h;cases h
 |some j=>
  rw[e] at h
  obtain⟨v,h1,h2⟩:=bf r.pr h
  exact⟨v,h1,h2⟩
def YC:iZ K (mIx K.K) Č:=by
 intro c F H σ ρ p q pv v u Q rel r1 r2 e k
 unfold Č at e
 split at e
 ·obtain⟨a,vs,rfl,h1,h2⟩:=r1.lst rel.sub
  cases r2.int
  obtain⟨x,h3,h4⟩:=zf h2 e
  exact⟨vs,x,.inl h1,h3,k _ F H rel (Same.refl _) (Same.refl _) h4⟩
 ·obtain⟨a,vs,rfl,h1,h2⟩:=r1.tup rel.sub
  cases r2.int
  obtain⟨x,h3,h4⟩:=zf h2 e
  exact⟨vs,x,.inr h1,h3,k _ F H rel (Same.refl _) (Same.refl _) h4⟩
 ·split at e
  ·rename_i z i hz
   cases r1.str
   cases r2.int
   cases ea:lA z.cps.toList i with
   |none=>rw[ea] at e;cases e
   |some cc=>
    rw[ea] at e
    cases e
    exact⟨cc,by rw[ĳ];exact hz,ea,k _ F H rel (Same.refl _) (Same.refl _) Rep.str⟩
  ·cases e
 ·cases e
def uK:M (Option Int):=λρ=>.ok none ρ
def mP(m:M PV):M (Option Int):=λρ=>(m ρ).bind λp ρ1=>match p with
 | .int i=>.ok (some i) ρ1
 |_=>.bad
abbrev tP(K:KK)(E:L2.St->XK)(m:M (Option Int)):TO:=tG K E rI m
def mW:PO X none (tP (kk X cm) E uK):=λpins s σ H Q I h=>Iv pins s σ H Q I (by
 obtain⟨c,F,ρ,rel,h⟩:=h
 exact h none F H rel (Same.refl _) (Same.refl _) rfl)
def ų(ha:PE X e (tV (kk X cm) E ma)):PO X (some e) (tP (kk X cm) E (mP ma)):=λpins s σ H Q I h=>Cv ha pins s σ H Q I (by
 obtain⟨c,F,ρ,rel,h⟩:=h
 refine⟨c,F,ρ,rel,h.bind λp ρ1 v F1 H1 ē _ _ r1 h1=>?_⟩
 cases p with
 |int i=>
  have e:v=.int i:=by have r1':Rep (kk X cm) F1 (.int i) v:=r1;unfold Rep at r1';exact r1'
  subst e
  exact h1 (some i) F1 H1 ē (Same.refl _) (Same.refl _) rfl
 |_=>exact h1.elim)
def aJ{α:Type}(xs:List α)(lo hi:Option Int):List α:= (xs.drop (HT.gC xs.length 0 lo)).take (HT.gC xs.length xs.length hi-HT.gC xs.length 0 lo)
def JG(p:PV)(lo hi:Option Int):Option RV:=match p with
 | .lst ps=>some (.ow (aJ ps lo hi))
 | .str z=>if z.length<=16777216 then some (.sh (.str (S (aJ z.cps.toList lo hi)))) else none
 |_=>none
def wL(ma:M PV)(ml mh:M (Option Int)):M RV:=λρ=>(ma ρ).bind λp ρ1=>(ml ρ1).bind λlo ρ2=>(mh ρ2).bind λhi ρ3=>Res.lW (JG p lo hi) ρ3
def au{ml mh:M (Option Int)}{lo hi:Option Expr}{p2:Pos}(ha:PE X a (tR (kk X cm) E ma))(hl:PO X lo (tP (kk X cm) E ml))(hh:PO X hi (tP (kk X cm) E mh)):PE X (.Subscript a (.Slice lo hi none p2) pos) (tO (kk X cm) E (wL ma ml mh)):=
 PE.wk (Cd slm ha hl hh) fun σ H Q ⟨c,F,ρ,rel,h⟩=>⟨c,F,ρ,rel,h.bind fun p ρ1 v F1 H1 ē _ _ r1 h1=>⟨c,F1,ρ1,ē,h1.bind fun lo ρ2 lo' F2 H2 Ĳ sF sH r2 h2=>⟨c,F2,ρ2,Ĳ,h2.bind fun hi ρ3 hi' F3 H3 rz sF3 sH3 r3 h3=>by
   have e2:lo=lo':=r2
   have e3:hi=hi':=r3
   subst e2 e3
   have r1':rR (kk X cm) c σ ρ3 F3 H3 p v:=r1.mono (sF.trans sF3) (sH.trans sH3)
   cases p with
   |lst ps=>
    obtain⟨a,vs,rfl,q1,q2⟩:=r1'.lst rz.sub
    refine⟨vs,q1,λd hd=>?_⟩
    have e:ĕ (kk X cm) F3 (aJ ps lo hi) (ug vs lo hi):=by
     unfold aJ ug
     rw[q2.length]
     exact ĕ.of (yL _ (yM _ q2.pr))
    obtain⟨z1,z2⟩:=cM rz hd e
    exact h3 _ F3 _ z1 (Same.refl _) (Same.upd hd) z2
   |str z=>
    cases r1'.str
    unfold JG at h3
    dsimp only at h3
    split at h3
    ·rename_i hz
     exact⟨by rw[ĳ];exact hz,h3 _ F3 H3 rz (Same.refl _) (Same.refl _) (Rep.str (K:=kk X cm) (F:=F3))⟩
    ·exact h3.elim
   |_=>exact h3.elim⟩⟩⟩
def zj{c:Ctx}{F H:Hp}{σ:L2.St}{ρ:ĺ}{p:PV}{vs:List V}(h:Yk K c σ ρ F H [p] vs):∃v,vs=[v]/\rR K c σ ρ F H p v:=by
 cases h with
 |cons r t=>cases t;exact⟨_,rfl,r⟩
def rl2{c:Ctx}{F H:Hp}{σ:L2.St}{ρ:ĺ}{p q:PV}{vs:List V}(h:Yk K c σ ρ F H [p,q] vs):∃v u,vs=[v,u]/\rR K c σ ρ F H p v/\rR K c σ ρ F H q u:=by
 cases h with
 |cons r t=>
  cases t with
  |cons r' t=>cases t;exact⟨_,_,rfl,r,r'⟩
def aU:List PV->Option PV
 | [.lst ps]=>some (.int ps.length)
 | [.tup ps]=>some (.int ps.length)
 | [.str z]=>if z.length<=16777216 then some (.int z.length) else none
 |_=>none
def Ŵ:cO K (Tt K.K) aU:=by
 intro c F H σ ρ ps pv vs Q rel r e k
 unfold aU at e
 split at e
 ·cases e
  obtain⟨v,rfl,r1⟩:=zj r
  obtain⟨a,xs,rfl,h1,h2⟩:=r1.lst rel.sub
  refine⟨xs,.inl h1,?_⟩
  rw[<-h2.length]
  exact k _ F H rel (Same.refl _) (Same.refl _) Rep.int
 ·cases e
  obtain⟨v,rfl,r1⟩:=zj r
  obtain⟨a,xs,rfl,h1,h2⟩:=r1.tup rel.sub
  refine⟨xs,.inr h1,?_⟩
  rw[<-h2.length]
  exact k _ F H rel (Same.refl _) (Same.refl _) Rep.int
 ·split at e
  ·rename_i hz
   cases e
   obtain⟨v,rfl,r1⟩:=zj r
   cases r1.str
   exact⟨by rw[ĳ];exact hz,k _ F H rel (Same.refl _) (Same.refl _) Rep.int⟩
  ·cases e
 ·cases e
def DN:List PV->Option PV
 | [.int i]=>some (.int (if i<0 then -i else i))
 |_=>none
def DP:cO K mAbs DN:=by
 intro c F H σ ρ ps pv vs Q rel r e k
 unfold DN at e
 split at e
 ·cases e
  obtain⟨v,rfl,r1⟩:=zj r
  cases r1.int
  exact k _ F H rel (Same.refl _) (Same.refl _) Rep.int
 ·cases e
def qb:List PV->Option PV
 | [.int i,.int j]=>some (.int (if j<i then j else i))
 |_=>none
def zm:List PV->Option PV
 | [.int i,.int j]=>some (.int (if j>i then j else i))
 |_=>none
def rG:cO K Cr qb:=by
 intro c F H σ ρ ps pv vs Q rel r e k
 unfold qb at e
 split at e
 ·cases e
  obtain⟨v,u,rfl,r1,r2⟩:=rl2 r
  cases r1.int
  cases r2.int
  exact k _ F H rel (Same.refl _) (Same.refl _) Rep.int
 ·cases e
def JH:cO K Cu zm:=by
 intro c F H σ ρ ps pv vs Q rel r e k
 unfold zm at e
 split at e
 ·cases e
  obtain⟨v,u,rfl,r1,r2⟩:=rl2 r
  cases r1.int
  cases r2.int
  exact k _ F H rel (Same.refl _) (Same.refl _) Rep.int
 ·cases e
def cT:List PV->Option RV
 | [.lst ps]=>some (.ow ps)
 | [.tup ps]=>some (.ow ps)
 |_=>none
def zp(K:PySem.W.Frag):List V->Hp->VK->Prop:=λxs H Q=>∃p ys,xs=[.ref p]/\(Ũ K H p ys\/cY K H p ys)/\∀l,H l=none->Q (.ref l) (upd H l (.lst ys))
def bK:ŀ X (.type "list") (zp X.K):=qT
def bL:Dj K (zp K.K) cT:=by
 intro c F H σ ρ ps pv vs Q rel r e k
 unfold cT at e
 split at e
 ·cases e
  obtain⟨v,rfl,r1⟩:=zj r
  obtain⟨a,xs,rfl,h1,h2⟩:=r1.lst rel.sub
  refine⟨a,xs,rfl,.inl h1,λl hl=>?_⟩
  obtain⟨q1,q2⟩:=cM rel hl h2
  exact k _ F _ q1 (Same.refl _) (Same.upd hl) q2
 ·cases e
  obtain⟨v,rfl,r1⟩:=zj r
  obtain⟨a,xs,rfl,h1,h2⟩:=r1.tup rel.sub
  refine⟨a,xs,rfl,.inr h1,λl hl=>?_⟩
  obtain⟨q1,q2⟩:=cM rel hl h2
  exact k _ F _ q1 (Same.refl _) (Same.upd hl) q2
 ·cases e
def pD:PV->String->Option Bool
 | .int _,"int" =>some true
 | .int _,"bool" =>some false
 | .int _,"str" =>some false
 | .int _,"tuple" =>some false
 | .int _,"list" =>some false
 | .bl _,"int" =>some true
 | .bl _,"bool" =>some true
 | .lst _,"list" =>some true
 | .lst _,"tuple" =>some false
 | .lst _,"int" =>some false
 | .lst _,"str" =>some false
 | .tup _,"tuple" =>some true
 | .tup _,"list" =>some false
 | .tup _,"int" =>some false
 | .tup _,"str" =>some false
 | .str _,"str" =>some true
 | .str _,"int" =>some false
 | .str _,"list" =>some false
 | .str _,"tuple" =>some false
 | .non,"int" =>some false
 | .non,"str" =>some false
 | .non,"tuple" =>some false
 | .non,"list" =>some false
 |_,_=>none
end
theorem uL{K:KK}{F:Hp}:∀ns:List Int,ĕ K F (ns.map .int) (ns.map V.int)
 | []=>ĕ.nil
 |n::ns=>ĕ.cons Rep.int (uL ns)
def YD(K:PySem.W.Frag):Sp:=λvs H Q _=>∃(sa:Addr) (ns:List Int),vs=[.ref sa]/\Ũ K H sa (ns.map V.int)/\ns.length<=63/\∀v H',v=.bl true->Q v H'
def DQ{l:PySem.W.OpenLaw}{k:Nat}{x:Str}{CX:jB}{m:MF}{q:Program}{loose:List Str}{XP:(Str->Option Value)->Heap->Prop}{YP:World->Heap->Prop}{d:DefRec}{K:Params->PySem.W.Frag}(hn:l.most=some 63)(hdf:d.params.defaults=[])(hr:Ř k callerA)
 (hY:∀(w:World) (h:Heap),YP w h->(K w.params).In h)
 (F:∀(w:World) (mg:Str→Option Value) (fa:Addr) (h:Heap),(K w.params).In h→h.Ns mainGlobals mg→mg d.name=some (.ref fa)→
   ∃fd:FuncData,(∀(s:Shared) (u:Value),BindsTo s fd ⟨[u],[]⟩ [(x,u)])/\∀base:Heap,(K w.params).In base->base.Ns mainGlobals mg->∃cm,Ħ l.prog w (K w.params) mg base CX k fa fd [x] (ţ ⟨K w.params,cm⟩ 1 m))
 (ht:∀ns:List Int,ns.length<=63->m [.sh (.lst (ns.map .int))]=.ret (.sh (.bl true)))
 (XH:∀(H:Hp) (s:Shared) (e:Value) (s':Shared),CX [] H s (λ_ _ _=>False) e s'->False)
 (hnt:lams≠[]->∀w:World,PySem.W.noTabs (K w.params)=true:=by intro z;exact absurd rfl z)(hone:∀y z,y∈lams->z∈lams->y=z:=by simp[lams])(hrec:∀y,y∈lams->∃d,(recsOf q).find? (λe=>e.name== y)=some d:=by simp[lams]) :
 PySem.W.WalkO q loose XP YP l.row.toRowW d [] (λf vs=>PySem.call f vs):=by
 refine L2.IW (n:=63) (k:=k) (x:=x) (CX:=λ_=>CX) (sp:=λw=>YD (K w.params)) hn (by decide) hdf hr hY (λw mg fa h h1 h2 h3=>?_) (λw H a ns hl _ hS=>⟨a,ns,rfl,hS,hl,λ_ _ z=>z⟩) (λw H s e s' z=>XH H s e s' z) hnt hone hrec
 obtain⟨fd,hb,hF⟩:=F w mg fa h h1 h2 h3
 refine⟨fd,hb,λbase k1 k2=>?_⟩
 obtain⟨cm,G⟩:=hF base k1 k2
 refine G.imp λvs H Q E hs=>?_
 obtain⟨sa,ns,rfl,hS,hl,hq⟩:=hs
 refine⟨H,[.sh (.lst (ns.map .int))],rfl,Same.refl _,.cons ?_ .nil,?_⟩
 ·show Rep _ _ _ _
  unfold Rep
  exact⟨sa,_,rfl,hS,uL ns⟩
 ·rw[ht ns hl]
  intro v F' H' g rf
  have e:v=.bl true:=q_ (K:=⟨K w.params,cm⟩) (F:=F') rf
  exact hq v H' e
end P
namespace P
open PySem PySem.Spec PyProof.Rows L2 M2 M3 M4
section
variable{X:Cx}{cm:String->Addr}{K:KK}
def TyP(K:PySem.W.Frag)(H:Hp)(x:V)(t:Value):Prop:=match x with
 | .non=>t=.type "NoneType"
 | .bl _=>t=.type "bool"
 | .int _=>t=.type "int"
 | .str _=>t=.type "str"
 | .ref a=>(t=.type "list" /\∃xs,Ũ K H a xs)\/(t=.type "tuple" /\∃xs,cY K H a xs)\/jz K H (.ref a) t
 |_=>False
def DR(K:PySem.W.Frag):List V->Hp->VK->Prop:=λxs H Q=>match xs with
 | [x,.ty n]=>∃t b,TyP K H x t/\PySem.W.kitOne K t (.type n)=some b/\Q (.bl b) H
 | [x,.ref C]=>∃t b,TyP K H x t/\PySem.W.kitOne K t (.ref C)=some b/\Q (.bl b) H
 |_=>False
def zq{pins:List (Addr×Obj)}{σ:L2.St}{H:Hp}{s:Shared}{A:Around}{E:Value->Shared->Prop}{Q:Value->Shared->Prop}{c:Value}{b:Bool}{x:V}{u t:Value}(I:Inv X pins σ H s)(rx:RelV x u)(ty:TyP X.K H x t)(e:PySem.W.kitOne X.K t c=some b)(h:∀tk,Q (.bool b) {s with toks:=tk}) :
 wpAny (model X.prog X.w) A (call (.builtin "isinstance") [u,c]) Q E s:=by
 cases x with
 |non=>cases(show t=_ from ty);exact cG I rx .non e h
 |bl y=>cases(show t=_ from ty);exact cG I rx (.bl y) e h
 |int y=>cases(show t=_ from ty);exact cG I rx (.int y) e h
 |str y=>cases(show t=_ from ty);exact cG I rx (.str y) e h
 |ref a=>
  cases(show u=Value.ref a from rx)
  rcases ty with⟨rfl,xs,hS⟩|⟨rfl,xs,hS⟩|ty
  ·obtain⟨its,r,⟨o,n,h1,h2,_⟩,_⟩:=I.list hS
   exact PySem.W.kia_one PySem.W.kitx_list I.jY ⟨o,h1,h2⟩ e (λz=>nomatch z) h
  ·obtain⟨its,r,⟨o,h1,h2,_⟩,_⟩:=I.tuple hS
   exact PySem.W.kia_one PySem.W.kitx_tuple I.jY ⟨o,h1,h2⟩ e (λz=>nomatch z) h
  ·exact cG I rx ty e h
 |_=>exact ty.elim
def mX:ŀ X (.builtin "isinstance") (DR X.K):=by
 intro pins s σ H xs us Q I r h
 unfold DR at h
 split at h
 ·obtain⟨t,b,h1,h2,h3⟩:=h
  obtain⟨u,w',rfl,r1,r2⟩:=vals2 r
  cases r2
  exact zq I r1 h1 h2 λtk=>⟨.bl b,H,I.tok _,rfl,h3⟩
 ·obtain⟨t,b,h1,h2,h3⟩:=h
  obtain⟨u,w',rfl,r1,r2⟩:=vals2 r
  cases r2
  exact zq I r1 h1 h2 λtk=>⟨.bl b,H,I.tok _,rfl,h3⟩
 ·exact h.elim
def tyN:PV->String
 | .non=> "NoneType"
 | .bl _=> "bool"
 | .int _=> "int"
 | .str _=> "str"
 | .lst _=> "list"
 | .tup _=> "tuple"
 |_=> ""
def DW{F:PySem.W.Frag}{p:PV}{n:String}{b:Bool}(h:pD p n=some b):PySem.W.kitOne F (.type (tyN p)) (.type n)=some b:=by
 unfold pD at h
 split at h<;>first
  |(cases h;first|rfl|decide +kernel|kernel_rfl)
  |cases h
def JK{c:Ctx}{F H:Hp}{σ:L2.St}{ρ:ĺ}{p:PV}{v:V}(s:Same F H)(r:rR K c σ ρ F H p v)(h:∃n b,pD p n=some b):TyP K.K H v (.type (tyN p)):=by
 obtain⟨n,b,h⟩:=h
 cases p with
 |non=>cases r.non;rfl
 |bl _=>cases r.bl;rfl
 |int _=>cases r.int;rfl
 |str _=>cases r.str;rfl
 |lst ps=>
  obtain⟨a,vs,rfl,h1,h2⟩:=r.lst s
  exact .inl ⟨rfl,vs,h1⟩
 |tup ps=>
  obtain⟨a,vs,rfl,h1,h2⟩:=r.tup s
  exact .inr (.inl ⟨rfl,vs,h1⟩)
 |ins _ _ _=>simp[pD] at h
 |xc _ _ _=>simp[pD] at h
 |ty _=>simp[pD] at h
 |cls _=>simp[pD] at h
def iD:List PV->Option PV
 | [p,.ty n]=>(pD p n).map .bl
 |_=>none
def mY:cO K (DR K.K) iD:=by
 intro c F H σ ρ ps pv vs Q rel r e k
 unfold iD at e
 split at e
 ·rename_i p n
  obtain⟨v,u,rfl,r1,r2⟩:=rl2 r
  cases r2.ty
  cases eb:pD p n with
  |none=>rw[eb] at e;cases e
  |some b=>
   rw[eb] at e
   cases e
   exact⟨_,b,JK rel.sub r1 ⟨n,b,eb⟩,DW eb,k _ F H rel (Same.refl _) (Same.refl _) Rep.bl⟩
 ·cases e
def mZ:List PV->Option PV
 | [.lst ps]=>some (.tup ps)
 | [.tup ps]=>some (.tup ps)
 |_=>none
def DX(K:PySem.W.Frag):List V->Hp->VK->Prop:=λxs H Q=>∃p ys,xs=[.ref p]/\((Ũ K H p ys/\∀l,H l=none->Q (.ref l) (upd H l (.tup ys)))\/(cY K H p ys/\Q (.ref p) H))
def DY:ŀ X (.type "tuple") (DX X.K):=pA
def D_:cO K (DX K.K) mZ:=by
 intro c F H σ ρ ps pv vs Q rel r e k
 unfold mZ at e
 split at e
 ·cases e
  obtain⟨v,rfl,r1⟩:=zj r
  obtain⟨a,xs,rfl,h1,h2⟩:=r1.lst rel.sub
  refine⟨a,xs,rfl,.inl ⟨h1,λl hl=>k _ _ _ (rel.alloc hl) (Same.upd (rel.sub.free hl)) (Same.upd hl) ?_⟩⟩
  unfold Rep
  exact⟨l,xs,rfl,cY.of Ğ,ĕ.same (Same.upd (rel.sub.free hl)) _ _ h2⟩
 ·cases e
  obtain⟨v,rfl,r1⟩:=zj r
  have r1':=r1
  obtain⟨a,xs,rfl,h1,h2⟩:=r1.tup rel.sub
  refine⟨a,xs,rfl,.inr ⟨h1,k _ F H rel (Same.refl _) (Same.refl _) ?_⟩⟩
  rcases r1' with q|q
  ·exact q
  ·exact q.elim
 ·cases e
def boolsOf:List PV->Option (List Bool)
 | []=>some []
 | .bl b::ps=>(boolsOf ps).map (b:: ·)
 |_::_=>none
theorem qd{F:Hp}:∀{ps:List PV} {vs:List V} {bs:List Bool},ĕ K F ps vs->boolsOf ps=some bs->vs=bs.map V.bl
 | [],vs,bs,r,h=>by
   cases h
   have r':=r.pr
   cases r'
   rfl
 |p::ps,vs,bs,r,h=>by
  cases p with
  |bl b=>
   unfold boolsOf at h
   cases eb:boolsOf ps with
   |none=>rw[eb] at h;cases h
   |some cs=>
    rw[eb] at h
    cases h
    have r':=r.pr
    cases r' with
    |cons r1 t=>
     rw[q_ r1,qd (ĕ.of t) eb]
     rfl
  |_=>simp[boolsOf] at h
def m_:List PV->Option PV
 | [.lst ps]=>(boolsOf ps).map λbs=>.bl (bs.all id)
 |_=>none
def rH:cO K (TY K.K) m_:=by
 intro c F H σ ρ ps pv vs Q rel r e k
 unfold m_ at e
 split at e
 ·rename_i ps
  obtain⟨v,rfl,r1⟩:=zj r
  obtain⟨a,xs,rfl,h1,h2⟩:=r1.lst rel.sub
  cases eb:boolsOf ps with
  |none=>rw[eb] at e;cases e
  |some bs=>
   rw[eb] at e
   cases e
   refine⟨bs,by rw[<-qd h2 eb];exact h1,k _ F H rel (Same.refl _) (Same.refl _) Rep.bl⟩
 ·cases e
end
end P
namespace P
open PySem PySem.Spec PyProof.Rows L2 M2 M3 M4
section
variable{α β:Type}{ρ:ĺ}{i j n k:Nat}{p q:PV}{ps:List PV}{m ma mb mc:M PV}{mo:M RV}{a b:M Fl}{ta tb:M Bool}{mr:M (List PV)}{f:PV->PV->Option PV}{fo:PV->PV->Option RV}{fl:List PV->Option PV}{flo:List PV->Option RV}{g:Tg}{gs:Bh}
@[simp] theorem Zdb:dB ρ=.ok .nx ρ:= rfl
@[simp] theorem Zb9:(Dk:M α) ρ=.bad:=rfl
@[simp] theorem Zb_:Ę a b ρ=(a ρ).bind λf ρ1=>match f with| .nx=>b ρ1|f=>.ok f ρ1:=rfl
@[simp] theorem Zca:ĥ i mo ρ=(mo ρ).bind λr ρ1=>.ok .nx (ρ1.set i r.slot):=rfl
@[simp] theorem Zcb:ģ mo ρ=(mo ρ).bind λr ρ1=>.ok (.rt r) ρ1:=rfl
@[simp] theorem ZaT:uz m ρ=(m ρ).bind λ_ ρ1=>.ok .nx ρ1:=rfl
@[simp] theorem Zdo:mC p ρ=.ok p ρ:= rfl
@[simp] theorem Zdc:ň m ρ=(m ρ).bind λp ρ1=>.ok (.sh p) ρ1:=rfl
@[simp] theorem Zcc:đ mo ρ=(mo ρ).bind λr ρ1=>.ok r.val ρ1:=rfl
@[simp] theorem Zcd:(RV.sh p).val=p:=rfl
@[simp] theorem Zce:(RV.ow ps).val=.lst ps:=rfl
@[simp] theorem Zcf:(RV.sh p).slot=.sh p:=rfl
@[simp] theorem Zcg:(RV.ow ps).slot=.ow ps:=rfl
@[simp] theorem Zch:Ă f ma mb ρ=(ma ρ).bind λp ρ1=>(mb ρ1).bind λq ρ2=>Res.lW (f p q) ρ2:=rfl
@[simp] theorem ZaU:ġ fo ma mb ρ=(ma ρ).bind λp ρ1=>(mb ρ1).bind λq ρ2=>Res.lW (fo p q) ρ2:=rfl
@[simp] theorem Zdd{u:PV->Option PV}:bI u ma ρ=(ma ρ).bind λp ρ1=>Res.lW (u p) ρ1:=rfl
@[simp] theorem Zci:bF m ρ=(m ρ).bind λp ρ1=>Res.lW (Uc p) ρ1:=rfl
@[simp] theorem Zde:aq m ρ=(m ρ).bind λp ρ1=>match p with| .bl b=>.ok b ρ1|_=>.bad:=rfl
@[simp] theorem ZaV:bJ ta ρ=(ta ρ).bind λb ρ1=>.ok (!b) ρ1:=rfl
@[simp] theorem ZaW:gR ta tb ρ=(ta ρ).bind λb ρ1=>if b=true then tb ρ1 else .ok false ρ1:=rfl
@[simp] theorem Zcj:i_ ta tb ρ=(ta ρ).bind λb ρ1=>if b=true then .ok true ρ1 else tb ρ1:=rfl
@[simp] theorem Zck:fu ma mb ρ=(ma ρ).bind fun p ρ1=>match p with| .bl b=>if b=true then mb ρ1 else .ok (.bl false) ρ1|_=>.bad:=by
  unfold fu
  congr
  funext p ρ1
  cases p with
  |bl b=>cases b<;>rfl
  |_=>rfl
@[simp] theorem Zcl:Ud ma ρ=(ma ρ).bind λp ρ1=>match p with| .bl b=>.ok (.bl (!b)) ρ1|_=>.bad:=rfl
@[simp] theorem Zdf{x y:M α}:bG ta x y ρ=(ta ρ).bind λb ρ1=>if b=true then x ρ1 else y ρ1:=rfl
@[simp] theorem Zcm{f g:PV→PV→Option PV}:mK f g ma mb mc ρ=(ma ρ).bind fun p ρ1=>(mb ρ1).bind fun q ρ2=>(Res.lW (f p q) ρ2).bind fun z ρ3=>match z with
  | .bl true=>(mc ρ3).bind λw ρ4=>Res.lW (g q w) ρ4
  | .bl false=>.ok (.bl false) ρ3
  |_=>.bad:=rfl
@[simp] theorem Zcn:ė ρ=.ok [] ρ:= rfl
@[simp] theorem ZaX:ą ma mr ρ=(ma ρ).bind λp ρ1=>(mr ρ1).bind λps ρ2=>.ok (p::ps) ρ2:=rfl
@[simp] theorem Zco:ŉ mr ρ=(mr ρ).bind λps ρ1=>if ps.length<=16777216 then .ok (.tup ps) ρ1 else .bad:=rfl
@[simp] theorem Zcp:Ž mr ρ=(mr ρ).bind λps ρ1=>if ps.length<=16777216 then .ok (.ow ps) ρ1 else .bad:=rfl
@[simp] theorem Zdg:aG fl mr ρ=(mr ρ).bind λps ρ1=>Res.lW (fl ps) ρ1:=rfl
@[simp] theorem Zcq:lC flo mr ρ=(mr ρ).bind λps ρ1=>Res.lW (flo ps) ρ1:=rfl
@[simp] theorem ZaY{mf:MF}{ms:M (List Slot)}:č mf ms ρ=(ms ρ).bind λps ρ1=>match mf ps with| .ret r=>.ok r ρ1| .exc x=>.exc x ρ1| .bad=>.bad:=rfl
@[simp] theorem Zdh:ğ i ρ=(match ρ[i]? with|some (.sh p)=>.ok p ρ|some (.ow ps)=>.ok (.lst ps) (ρ.set i (.sh (.lst ps)))|_=>.bad):=rfl
@[simp] theorem Zdi:Ā i ρ=(match ρ[i]? with|some (.sh p)=>.ok p ρ|some (.ow ps)=>.ok (.lst ps) ρ|some (.bw ps)=>.ok (.lst ps) ρ|some (.rc C ns ps)=>.ok (.ins C ns ps) ρ|_=>.bad):=rfl
@[simp] theorem Zdj:gP i ρ=(match ρ[i]? with|some (.sh p)=>.ok (.sh p) ρ|some (.ow ps)=>.ok (.ow ps) (ρ.set i .no)|_=>.bad):=rfl
@[simp] theorem Zcr:Ju g m ρ=(m ρ).bind λp ρ1=>match g p ρ1 with|some ρ2=>.ok .nx ρ2|none=>.bad:=rfl
@[simp] theorem Ea:gN i p ρ=some (ρ.set i (.sh p)):=rfl
@[simp] theorem YF:aD [] ρ=some ρ:= rfl
@[simp] theorem Xc:ĩ g gs (p::ps) ρ=(g p ρ).bind λρ1=>gs ps ρ1:=rfl
@[simp] theorem Zdk:gT n gs (.tup ps) ρ=if ps.length=n then gs ps ρ else none:=rfl
@[simp] theorem Zcs:jd i m ρ=(match ρ[i]? with
  |some (.ow _)=>(m ρ).bind λp ρ1=>match ρ1[i]? with
   |some (.ow ps)=>if ps.length<16777216 then .ok .nx (ρ1.set i (.ow (ps ++ [p]))) else .bad
   |_=>.bad
  |_=>.bad):=rfl
@[simp] theorem Zct:uK ρ=.ok none ρ:= rfl
@[simp] theorem Zdp:mP m ρ=(m ρ).bind λp ρ1=>match p with| .int i=>.ok (some i) ρ1|_=>.bad:=rfl
@[simp] theorem Zdl{ml mh:M (Option Int)}:wL ma ml mh ρ=(ma ρ).bind λp ρ1=>(ml ρ1).bind λlo ρ2=>(mh ρ2).bind λhi ρ3=>Res.lW (JG p lo hi) ρ3:=rfl
@[simp] theorem Zcu{lo hi:Option Int}:JG (.lst ps) lo hi=some (.ow (aJ ps lo hi)):=rfl
@[simp] theorem YG:œ m ρ=(m ρ).bind fun p ρ1=>match p with
  | .lst ps=>.ok ps ρ1
  | .tup ps=>.ok ps ρ1
  | .str z=>.ok (z.cps.toList.map λc=>.str ⟨#[c]⟩) ρ1
  |_=>.bad:=rfl
@[simp] theorem YH{h:List PV->Option (List PV)}:bZ h mr ρ=(mr ρ).bind λps ρ1=>Res.lW (h ps) ρ1:=rfl
@[simp] theorem Uq{mi:M (List PV)}:jH mi g b ρ=(mi ρ).bind λitems ρ1=>forL g b items ρ1:=rfl
@[simp] theorem ZaZ{js:List Nat}{nl:Nat}{mi:M (List PV)}{mt:M Bool}{me:M PV}:Ł js nl mi g mt me ρ=(mi ρ).bind fun items ρ1=>match Ķ g mt me items (fK js nl ρ1) [] with
  |some ps=>.ok (.ow ps) ρ1
  |none=>.bad:=rfl
@[simp] theorem Zcv:Ľ ρ=.ok true ρ:= rfl
@[simp] theorem Zcw{mbd:M Fl}{as:List Slot}:İ n k mbd as=if as.length=n then FR.of (mbd (startP k as)) else .bad:=rfl
@[simp] theorem Zcx{r:RV}:FR.of (.ok (.rt r) ρ)=.ret r:=rfl
@[simp] theorem Zcy:FR.of (.ok .nx ρ)=.ret (.sh .non):=rfl
@[simp] theorem Zcz{x:PX}:FR.of (.exc x ρ)=.exc x:=rfl
@[simp] theorem ZcA:FR.of .bad=.bad:=rfl
@[simp] theorem YJ{as:List Slot}:startP k as=as++List.replicate (k-as.length) .no:=rfl
@[simp] theorem Za0:Ċ ρ=.ok [] ρ:= rfl
@[simp] theorem YK{ms:M (List Slot)}:Ĉ ma ms ρ=(ma ρ).bind λp ρ1=>(ms ρ1).bind λas ρ2=>.ok (.sh p::as) ρ2:=rfl
@[simp] theorem YL{ms:M (List Slot)}:Ą i ms ρ=(match(ρ[i]?).bind cL with
  |none=>.bad
  |some _=>(ms ρ).bind λas ρ2=>match(ρ2[i]?).bind cL with
   |some s=>.ok (s::as) ρ2
   |none=>.bad):=rfl
@[simp] theorem ZcB:cL (.sh p)=some (.sh p):=rfl
@[simp] theorem ZcC:cL (.ow ps)=some (.bw ps):=rfl
@[simp] theorem ZcD:cL (.bw ps)=some (.bw ps):=rfl
@[simp] theorem ZcE:Ų (.sh p)=.sh p:=rfl
@[simp] theorem ZcF:Ų (.ow ps)=.bw ps:=rfl
@[simp] theorem ZcG:Ų (.bw ps)=.bw ps:=rfl
@[simp] theorem ZcH{js:List Nat}{nl:Nat}:fK js nl ρ=js.map (λ(j:Nat)=>Ų ((ρ[j]?).getD .no))++List.replicate nl .no:=rfl
@[simp] theorem wM:Ŕ i ρ=(match ρ[i]? with
  |some (.bw ps)=>.ok ps ρ
  |some (.sh (.lst ps))=>.ok ps ρ
  |some (.sh (.tup ps))=>.ok ps ρ
  |some (.sh (.str z))=>.ok (z.cps.toList.map λc=>.str ⟨#[c]⟩) ρ
  |some (.ow ps)=>.ok ps (ρ.set i (.sh (.lst ps)))
  |_=>.bad):=rfl
@[simp] theorem Za1{x y:Int}:ĝ (.int x) (.int y)=some (.sh (.int (x+y))):=rfl
@[simp] theorem Za2{x y:Int}:ŕ (.int x) (.int y)=some (.int (x-y)):=rfl
@[simp] theorem Za3{x y:Int}:ħ (.int x) (.int y)=if ł x y=true then some (.int (x*y)) else none:=rfl
@[simp] theorem Za4{x y:Int}:ŏ (.int x) (.int y)=if gU x y=true then some (.int (x.fdiv y)) else none:=rfl
@[simp] theorem lX{x y:Int}:Ī (.int x) (.int y)=if yX x y=true then some (.int (x.fmod y)) else none:=rfl
@[simp] theorem Za5{x y:Int}:mO (.int x) (.int y)=if uF x y=true then some (.int (x ^ y.toNat)) else none:=rfl
@[simp] theorem Za6{x y:Int}:uG (.int x) (.int y)=if mR x y=true then some (.int (x*2 ^ y.toNat)) else none:=rfl
@[simp] theorem Za7{x y:Int}:yZ (.int x) (.int y)=if uH x y=true then some (.int (x / 2 ^ y.toNat)) else none:=rfl
@[simp] theorem Za8{x:Int}:aN (.int x)=some (.int (-x)):=rfl
@[simp] theorem ZcI{x y:Int}:iC (.int x) (.int y)=some (.bl (decide (x<y))):=rfl
@[simp] theorem ZcJ{x y:Int}:je (.int x) (.int y)=some (.bl (decide (x<=y))):=rfl
@[simp] theorem ZcK{x y:Int}:wK (.int x) (.int y)=some (.bl (decide (y<x))):=rfl
@[simp] theorem ZcL{x y:Int}:ŋ (.int x) (.int y)=some (.bl (decide (x=y))):=by
  have h:eqB (.int x) (.int y)=decide (x=y):=by rw[eqB.eq_def];rfl
  rw[<-h];rfl
@[simp] theorem ZcM{x y:Int}:ū (.int x) (.int y)=some (.bl (!decide (x=y))):=by
  have h:eqB (.int x) (.int y)=decide (x=y):=by rw[eqB.eq_def];rfl
  rw[<-h];rfl
@[simp] theorem ZcN{x y:Bool}:ŋ (.bl x) (.bl y)=some (.bl (x== y)):=rfl
@[simp] theorem ZcO{x y:Bool}:ū (.bl x) (.bl y)=some (.bl (!(x== y))):=rfl
@[simp] theorem ZcP{p:PV}:uJ p .non=some (.bl (vL p)):=rfl
@[simp] theorem Za9{p:PV}:jg p .non=some (.bl (!vL p)):=rfl
@[simp] theorem ZcQ{x:Int}:Č (.lst ps) (.int x)=lA ps x:=rfl
@[simp] theorem ZcR{x:Int}:Č (.tup ps) (.int x)=lA ps x:=rfl
@[simp] theorem Za_:aU [.lst ps]=some (.int ps.length):=rfl
@[simp] theorem Zba:aU [.tup ps]=some (.int ps.length):=rfl
@[simp] theorem ZcS{x:Int}:DN [.int x]=some (.int (if x<0 then -x else x)):=rfl
@[simp] theorem ZcT{x y:Int}:qb [.int x,.int y]=some (.int (if y<x then y else x)):=rfl
@[simp] theorem ZcU{x y:Int}:zm [.int x,.int y]=some (.int (if y>x then y else x)):=rfl
@[simp] theorem YM:cT [.lst ps]=some (.ow ps):=rfl
@[simp] theorem YQ:cT [.tup ps]=some (.ow ps):=rfl
@[simp] theorem Zbb:mZ [.lst ps]=some (.tup ps):=rfl
@[simp] theorem Zbc:mZ [.tup ps]=some (.tup ps):=rfl
@[simp] theorem ZcV{t:String}:iD [p,.ty t]=(pD p t).map .bl:=rfl
@[simp] theorem Zbd{x:Bool}:Uc (.bl x)=some x:=rfl
@[simp] theorem Zbe{x:Int}:Uc (.int x)=some (x != 0):=rfl
@[simp] theorem Zbf:Uc (.lst ps)=some (!ps.isEmpty):=rfl
@[simp] theorem Eb(xs:List α)(n:Nat):lA xs (n:Int)=xs[n]?:= by
  unfold lA Ce
  rw[if_pos (by omega)]
  by_cases h:n<xs.length
  ·rw[if_pos (by omega)]
   simp
  ·rw[if_neg (by omega)]
   simp
   omega
@[simp] theorem Zbg(xs:List α)(n:Nat):lA xs (no_index (OfNat.ofNat n):Int)=xs[(no_index (OfNat.ofNat n):Nat)]?:= Eb xs n
@[simp] theorem Xd{x y:Int}:yX x y=decide (y≠0):=rfl
end
def ſ{x y:Int}(h1: -(2 ^ 64)<x)(h2:x<2 ^ 64):ł x y=true:=by unfold ł;rw[decide_eq_true (by omega:x.natAbs<18446744073709551616)];rfl
def mul_r{x y:Int}(h1: -(2 ^ 64)<y)(h2:y<2 ^ 64):ł x y=true:=by unfold ł;rw[decide_eq_true (by omega:y.natAbs<18446744073709551616)];simp
def zu{x y:Int}(h1:y≠0)(h2:bits y<=8000):gU x y=true:=by unfold gU;simp[h1,h2]
section
variable{g:Tg}{mb:M Fl}{mc mt:M Bool}{me:M PV}{items:List PV}{ρ:ĺ}
theorem Ņ{α:Type}(c f:α->PV)(I:ĺ->Prop):∀(xs:List α) (ρ:ĺ) (acc:List PV),I ρ->acc.length+xs.length<=16777216->
 (∀x∈xs,∀ρ,I ρ->∃ρ1 ρ2 ρ3,g (c x) ρ=some ρ1/\mt ρ1=.ok true ρ2/\me ρ2=.ok (f x) ρ3/\I ρ3)->Ķ g mt me (xs.map c) ρ acc=some (acc++xs.map f)
 | [],ρ,acc,_,_,_=>by simp[Ķ]
 |x::xs,ρ,acc,h,hz,hs=>by
  obtain⟨ρ1,ρ2,ρ3,h1,h2,h3,h4⟩:=hs x List.mem_cons_self ρ h
  rw[List.map_cons,Ķ,h1]
  dsimp only
  rw[h2]
  dsimp only
  rw[h3]
  dsimp only
  rw[if_pos (by simp at hz;omega),Ņ c f I xs ρ3 (acc ++ [f x]) h4 (by simp at hz ⊢;omega) λy hy=>hs y (List.mem_cons_of_mem _ hy)]
  simp
def wN{β:Type}(st:β->ĺ)(I:β->Prop)(μ:β->Nat)(hs:∀b,I b->mc (st b)=.ok false (st b)\/(mc (st b)=.ok true (st b)/\∃b',mb (st b)=.ok .nx (st b')/\I b'/\μ b' < μ b)){b:β}(h0:I b) :
 ∃b',š mc mb (st b)=.ok .nx (st b')/\I b'/\mc (st b')=.ok false (st b'):=by
 have go:∀n b,μ b<=n->I b->∃b',š mc mb (st b)=.ok .nx (st b')/\I b'/\mc (st b')=.ok false (st b'):=by
  intro n
  induction n with
  |zero=>
   intro b hn hi
   rcases hs b hi with e|⟨e,b',_,_,hl⟩
   ·exact⟨b,by rw[fC,e];rfl,hi,e⟩
   ·omega
  |succ n ih=>
   intro b hn hi
   rcases hs b hi with e|⟨e,b',e2,hi',hl⟩
   ·exact⟨b,by rw[fC,e];rfl,hi,e⟩
   ·obtain⟨b2,q1,q2⟩:=ih b' (by omega) hi'
    refine⟨b2,?_,q2⟩
    rw[fC,e]
    simp only[Res.Ŭ,if_true,e2]
    exact q1
 exact go (μ b) b (Nat.le_refl _) h0
end
end P
namespace P
open PySem PySem.Spec PyProof.Rows L2 M2 M3 M4
def ni(Q:String->Prop):List String->Prop
 | []=>True
 |c::cs=>Q c/\ni Q cs
theorem ni.get{Q:String->Prop}:∀{cs:List String} {C:String},ni Q cs->cs.contains C=true->Q C
 | [],_,_,h=>by simp at h
 |c::cs,C,⟨h1,h2⟩,h=>by
  by_cases e:C=c
  ·rw[e];exact h1
  ·refine h2.get ?_
   rw[List.contains_cons] at h
   have:(C== c)=false:=by simpa using e
   rw[this,Bool.false_or] at h
   exact h
section
variable{X:Cx}{cm:String->Addr}{K:KK}{E:L2.St->XK}{a b e o:Expr}{es:List Expr}{pos apos:Pos}{m ma mb:M PV}{f:Str}
theorem nj{F:Hp}:∀{fs:List (Str×V)} {ps:List PV} {p:PV},ĕ K F ps (fs.map (·.2))->((fs.map (·.1)).zip ps).lookup f=some p->∃v,fs.lookup f=some v/\Rep K F p v
 | [],ps,p,_,h=>by simp at h
 |(g,v)::fs,ps,p,r,h=>by
  have r':=r.pr
  rw[List.map_cons] at r'
  cases r' with
  |cons r1 t=>
   rename_i q qs
   rw[List.map_cons,List.zip_cons_cons,List.lookup_cons] at h
   rw[List.lookup_cons]
   cases hg:f== g with
   |true=>
    simp only[hg] at h
    cases h
    exact⟨v,rfl,r1⟩
   |false=>
    simp only[hg] at h
    exact nj (ĕ.of t) h
theorem rR.ins{c:Ctx}{F H:Hp}{σ:L2.St}{ρ:ĺ}{C:String}{ns:List Str}{ps:List PV}{v:V}(s:Same F H)(h:rR K c σ ρ F H (.ins C ns ps) v):∃a dx fs,v=.ref a/\H a=some (.ins (K.cm C) dx fs)/\fs.map (·.1)=ns/\ĕ K F ps (fs.map (·.2)):=by
 rcases h with h|h
 ·unfold Rep at h
  obtain⟨a,dx,fs,h1,h2,h3,h4⟩:=h
  exact⟨a,dx,fs,h1,s _ _ h2,h3,h4⟩
 ·exact h
def Ō(cs:List String)(f:Str):PV->Option PV
 | .ins C ns ps=>if cs.contains C=true then(ns.zip ps).lookup f else none
 |_=>none
def Ő(cs:List String)(hcs:ni (λC=>Cls X.K (cm C)/\ı X.K (cm C) f) cs)(he:PE X e (tR (kk X cm) E m))(hb:attributeBase e f X.env (eval e X.env)=eval e X.env:=by rfl):PE X (.Attribute e f pos) (tV (kk X cm) E (bI (Ō cs f) m)):=
 PE.wk (SM he hb) fun σ H Q ⟨c,F,ρ,rel,h⟩=>⟨c,F,ρ,rel,h.bind fun p ρ1 v F1 H1 ē _ _ r1 h1=>by
   cases p with
   |ins C ns ps=>
    unfold Ō at h1
    dsimp only at h1
    split at h1
    ·rename_i hc
     obtain⟨a,dx,fs,rfl,q2,q3,q4⟩:=r1.ins ē.sub
     cases el:(ns.zip ps).lookup f with
     |none=>rw[el] at h1;exact h1.elim
     |some q=>
      rw[el] at h1
      subst q3
      obtain⟨v,e1,e2⟩:=nj q4 el
      obtain⟨k1,k2⟩:=hcs.get hc
      exact⟨a,_,dx,fs,v,rfl,q2,k1,k2,e1,h1 v F1 H1 ē (Same.refl _) (Same.refl _) e2⟩
    ·exact h1.elim
   |_=>exact h1.elim⟩
def Ec(X:Cx)(cm:String->Addr)(CX:jB)(k n:Nat)(m:Str)(C:String)(mf:MF):Prop:=Cls X.K (cm C)/\∃f fd ps,Meth X.K (cm C) m f/\Ħ X.prog X.w X.K X.mg X.base CX k f fd ps (ţ (kk X cm) n mf)/\Binds X.K fd ps []/\
 ∀{ps:List Slot},(∃r,mf ps=r/\∀z,r=z->z≠ .bad)->ps.length=n
def Ed(Q:String->MF->Prop):List (String×MF)->Prop
 | []=>True
 |(c,mf)::cs=>Q c mf/\Ed Q cs
theorem Ed.get{Q:String->MF->Prop}:∀{cs:List (String×MF)} {C:String} {mf:MF},Ed Q cs->cs.lookup C=some mf->Q C mf
 | [],_,_,_,h=>by simp at h
 |(c,g)::cs,C,mf,⟨h1,h2⟩,h=>by
  rw[List.lookup_cons] at h
  cases hc:C== c with
  |true=>
   rw[hc] at h
   cases h
   have:C=c:=by simpa using hc
   rw[this];exact h1
  |false=>
   rw[hc] at h
   exact h2.get h
def nq(m:Str)(gH:List (String×MF))(mo:M PV)(ms:M (List Slot)):M RV:=λρ=>(mo ρ).bind λp ρ1=>match p with
 | .ins C ns ps=>match gH.lookup C with
   |some mf=>if ns.contains m=true then .bad else(ms ρ1).bind λas ρ2=>match mf (.sh (.ins C ns ps)::as) with
    | .ret r=>.ok r ρ2
    | .exc x=>.exc x ρ2
    | .bad=>.bad
   |none=>.bad
 |_=>.bad
theorem qe{m:Str}:∀{fs:List (Str×V)},(fs.map (·.1)).contains m=false->fs.lookup m=none
 | [],_=>rfl
 |(g,v)::fs,h=>by
  rw[List.map_cons,List.contains_cons,Bool.or_eq_false_iff] at h
  rw[List.lookup_cons,h.1]
  exact qe h.2
variable{CX:jB}{k n:Nat}{HD:Str}{gH:List (String×MF)}{ms:M (List Slot)}
def Ef{c:Ctx}{F H:Hp}{σ:L2.St}{ρ:ĺ}{Q:VK}(rel:Rel (kk X cm) c F H σ ρ)(h:aA (kk X cm) E (rO (kk X cm)) c F H σ Q (nq HD gH m ms ρ))(Ur:Ed (λC mf=>Ec X cm CX k n HD C mf) gH) :
 aA (kk X cm) E (rV (kk X cm)) c F H σ (λx H1=>∃a C dx fs g fd ps mf,x=.ref a/\H1 a=some (.ins C dx fs)/\Cls X.K C/\Meth X.K C HD g/\fs.lookup HD=none/\Ħ X.prog X.w X.K X.mg X.base CX k g fd ps (ţ (kk X cm) n mf)/\Binds X.K fd ps []/\
  tA (kk X cm) E ms σ H1 λvs H2=>ţ (kk X cm) n mf (.ref a::vs) H2 Q (E σ)) (m ρ):=
 aA.bind h λp ρ1 v F1 H1 ē _ _ r1 h1=>by
  cases p with
  |ins C ns ps=>
   dsimp only at h1
   cases el:gH.lookup C with
   |none=>rw[el] at h1;exact h1.elim
   |some mf=>
    rw[el] at h1
    dsimp only at h1
    split at h1
    ·exact h1.elim
    ·rename_i hn
     obtain⟨k1,f,fd,qs,k2,k3,k4,k5⟩:=Ur.get el
     have r1':Rep (kk X cm) F1 (.ins C ns ps) v:=r1
     have r2:=r1'
     unfold Rep at r2
     obtain⟨a,dx,fs,rfl,q2,q3,q4⟩:=r2
     refine⟨a,_,dx,fs,f,fd,qs,mf,rfl,ē.sub _ _ q2,k1,k2,qe (by rw[q3];simpa using hn),k3,k4,c,F1,ρ1,ē,aA.bind h1 λas ρ2 vs F2 H2 Ĳ sF sH r3 h3=>?_⟩
     exact uD (vs:=.ref a::vs) k5 Ĳ (.cons (show bh _ _ _ (.sh _) _ from Rep.same sF _ _ r1') r3) h3
  |_=>exact h1.elim
def JL{pl:Sem Bool}(Ur:Ed (λC mf=>Ec X cm CX k n HD C mf) gH)(hr:Ř k X.A)(hx:dD CX X E)(he:PE X o (tV (kk X cm) E m))
 (ht:eval (.Call (.Attribute o HD apos) [] [] pos) X.env=(do
   let ov <-eval o X.env
   standAt apos.atName
   let (f,first) <-holding [ov] (getMethod ov HD pl)
   callWith pos f first (backTo pos (starEach [] X.env)) (backToKw pos (keywordEach [] X.env))):=by rfl) :
 PE X (.Call (.Attribute o HD apos) [] [] pos) (tO (kk X cm) E (nq HD gH m Ċ)):=by
 intro pins s σ H Q I ⟨c,F,ρ,rel,h⟩
 refine PySem.W.methodCall_KW (pl:=pl) (ő (he pins s σ H _ I ⟨c,F,ρ,rel,Ef rel h Ur⟩) λu s1 ⟨x,H1,I1,rx,a,C,dx,fs,g,fd,ps,mf,ex,ea,cl,k2,l,k3,k4,q⟩=>?_) ht
 subst ex
 obtain rfl:u=Value.ref a:=rx
 refine vY I1 ea cl k2 l ?_
 obtain⟨c1,F1,ρ1,ē,q⟩:=q
 exact PySem.W.callWith_K0 (first:=[.ref a]) I1.jY k2.kp (yW (us:=[.ref a]) (vs:=[.ref a]) k3 hr k4 hx I1 (.cons rfl .nil) (q [] F1 H1 ē (Same.refl _) (Same.refl _) .nil))
def putN(f:Str):List Str->List Str
 | []=>[f]
 |g::r=>if g=f then g::r else g::putN f r
def wO(f:Str)(p:PV):List Str->List PV->List PV
 | [],_=>[p]
 |g::r,q::qs=>if g=f then p::qs else q::wO f p r qs
 |_::_,[]=>[]
theorem zx{F:Hp}{p:PV}{y:V}(ry:Rep K F p y):∀{fs:List (Str×V)} {ps:List PV},ĕ K F ps (fs.map (·.2))->(dg f y fs).map (·.1)=putN f (fs.map (·.1))/\ĕ K F (wO f p (fs.map (·.1)) ps) ((dg f y fs).map (·.2))
 | [],ps,r=>⟨rfl,ĕ.cons ry ĕ.nil⟩
 |(g,v)::fs,ps,r=>by
  have r':=r.pr
  rw[List.map_cons] at r'
  cases r' with
  |cons r1 t=>
   rename_i q qs
   unfold dg
   rw[List.map_cons]
   unfold putN wO
   by_cases hg:g=f
   ·rw[if_pos hg,if_pos hg,if_pos hg]
    exact⟨rfl,ĕ.cons ry (ĕ.of t)⟩
   ·rw[if_neg hg,if_neg hg,if_neg hg]
    obtain⟨h1,h2⟩:=zx ry (ĕ.of t)
    exact⟨by rw[List.map_cons,h1],ĕ.cons r1 h2⟩
def gW(i:Nat)(cs:List String)(f:Str)(mv:M PV):M Fl:=λρ=>(mv ρ).bind λp ρ1=>match ρ1[i]? with
 |some (.rc C ns ps)=>if cs.contains C=true/\ns.length<1000 then .ok .nx (ρ1.set i (.rc C (putN f ns) (wO f p ns ps))) else .bad
 |_=>.bad
def ź{i:Nat}{x:Str}{px pos':Pos}(cs:List String)(hcs:ni (λC=>Cls X.K (cm C)/\ı X.K (cm C) f) cs)(ho:PE X (.Name x px) (zX i))(he:PE X e (tV (kk X cm) E m))(hs:swapsWith e (some (.Attribute (.Name x px) f pos')) pos.line X.env=pure false:=by rfl) :
 PS X (.Assign [.Attribute (.Name x px) f pos'] e pos) (tS (kk X cm) E (gW i cs f m)):=PS.wk (SN ho he hs) λD σ H ⟨c,F,ρ,rel,h⟩=>⟨c,F,ρ,rel,Ū.bind h λp ρ1 y F1 H1 ē s1 ry h1=>by
 cases e1:ρ1[i]? with
 |none=>rw[e1] at h1;exact h1.elim
 |some sl=>
  rw[e1] at h1
  cases sl with
  |rc C ns ps=>
   dsimp only at h1
   split at h1
   ·rename_i hc
    obtain⟨a,dx,fs,q1,q2,q3,q4,q5,q6,q7⟩:=ē.slot i _ e1
    subst q5
    obtain⟨k1,k2⟩:=hcs.get hc.1
    refine⟨.ref a,at_of q1,a,_,dx,fs,rfl,q2,k1,k2,by simpa using hc.2,?_⟩
    obtain⟨z1,z2⟩:=zx (f:=f) (p:=p) ry q6
    exact h1 σ F1 _ (ē.write ⟨_,_,e1,at_of q1,rfl⟩ (at_of q1) ⟨a,dx,_,rfl,Ğ,q3,q4,z1,z2,q7⟩ λ_ z=>(V.ref.inj z).symm) (Same.refl _)
   ·exact h1.elim
  |_=>exact h1.elim⟩
inductive IR where
 |ok (ns:List Str) (ps:List PV)|exc (x:PX)|bad
abbrev MI:=List Slot->IR
def IR.of:Res Fl->IR
 | .ok .nx (.rc _ ns ps::_)=>.ok ns ps
 | .exc x _=>.exc x
 |_=>.bad
def bM(n k:Nat)(C:String)(mb:M Fl):MI:=λas=>if as.length+1=n then IR.of (mb (.rc C [] []::startP (k-1) as)) else .bad
structure GrB(a:Addr)(F H F' H':Hp):Prop where
 h:∀b u,b≠a->H b=some u->H' b=some u
 f:Same F F'
 sub:Same F' H'
 out:∀b,b≠a->H b≠none->F b=none->F' b=none
def ZcW(K:KK)(E:XK)(F H:Hp)(Q:VK)(a dx:Addr)(C:String):IR->Prop
 | .ok ns ps=>∀F' H' fs,GrB a F H F' H'->H' a=some (.ins (K.cm C) dx fs)->F' a=none->fs.map (·.1)=ns->ĕ K F' ps (fs.map (·.2))->Q .non H'
 | .exc x=>∀C' d F' H',GrB a F H F' H'->Jq K F' x C' d->E C' d H'
 | .bad=>False
def HF(K:KK)(n:Nat)(C:String)(mi:MI):Sp:=λvs H Q E=>∃F a dx vs' as,vs=.ref a::vs'/\as.length+1=n/\H a=some (.ins (K.cm C) dx [])/\F a=none/\Same F H/\Paired (bh K F H) as vs'/\ZcW K E F H Q a dx C (mi as)
def JM(a dx:Addr)(C:String)(F H:Hp):Ctx:=⟨λb=>if b=a then none else H b,F,λb=>if b=a then none else(ctx0 F H).L b,λa' dx' C'=>a'=a/\dx'=dx/\C'=C⟩
def Rel.gri{σ:L2.St}{ρ:ĺ}{a dx:Addr}{C:String}{F H F' H':Hp}(r:Rel K (JM a dx C F H) F' H' σ ρ):GrB a F H F' H':=
 ⟨λb u hb e=>r.base b u (by show(if b=a then none else H b)=_;rw[if_neg hb];exact e),r.f0,r.sub,λb hb h1 h2=>r.cX b (by show(if b=a then none else H b)≠none;rw[if_neg hb];exact h1) h2⟩
def Rel.Us{F H:Hp}{N:List Str}{as:List Slot}{vs:List V}{a dx:Addr}{C:String}(s:Same F H)(ha:H a=some (.ins (K.cm C) dx []))(hF:F a=none)(h:Paired (bh K F H) as vs) :
 Rel K (JM a dx C F H) F H (L2.start N (.ref a::vs)) (.rc C [] []::startP (N.length-1) as):=by
 have r0:=Rel.start (N:=N) (K:=K) s (as:=.sh (.int 0)::as) (vs:=.int 0::vs) (.cons (Rep.int (K:=K) (F:=F) (i:=0)) h)
 have est:L2.start N (.ref a::vs)=some (.ref a)::(L2.start N (.int 0::vs)).tail:=by unfold L2.start;simp
 have ZcX:(L2.start N (V.int 0::vs)).tail.length=(startP (N.length-1) as).length:=by
  unfold L2.start startP
  simp[Paired.length h]
  omega
 have tl:∀i:Nat,(L2.start N (.int 0::vs)).tail[i]?=(L2.start N (.int 0::vs))[i+1]?:= λi=>by simp
 have sp:∀i:Nat,(startP (N.length-1) as)[i]?=(startP N.length (.sh (.int 0)::as))[i+1]?:= λi=>by
  unfold startP
  simp only[List.cons_append,List.getElem?_cons_succ,List.length_cons]
  rw[show N.length-1-as.length=N.length-(as.length+1) by omega]
 have uM:∀(i:Nat) (s':Slot),(startP (N.length-1) as)[i]?=some s'->s'.own=false:=λi s' e=>by
  unfold startP at e
  by_cases hi:i<as.length
  ·rw[List.getElem?_append_left hi] at e
   obtain⟨v,_,h3⟩:=bf h e
   exact(bh.slot h3).2
  ·rw[List.getElem?_append_right (by omega),List.getElem?_replicate] at e
   split at e
   ·cases e;rfl
   ·cases e
 rw[est]
 refine⟨s,λb u e=>?_,Same.refl _,λ_ _ z=>z,λb u e=>?_,λb e=>?_,?_,λi s' e=>?_,λi j b h1 h2=>?_⟩
 ·have e':(if b=a then none else H b)=some u:=e
  split at e'
  ·cases e'
  ·exact e'
 ·have e':(if b=a then none else(ctx0 F H).L b)=some u:=e
  split at e'
  ·cases e'
  ·exact bY e'
 ·show(if b=a then none else(ctx0 F H).L b)=none
  have e':(if b=a then none else H b)=none:=e
  split
  ·rfl
  ·rename_i hb
   rw[if_neg hb] at e'
   exact r0.lb b e'
 ·simp[ZcX]
 ·cases i with
  |zero=>
   cases e
   exact⟨a,dx,[],rfl,ha,hF,by show(if a=a then none else H a)=none;rw[if_pos rfl],rfl,ĕ.nil,rfl,rfl,rfl⟩
  |succ i=>
   have e':(startP (N.length-1) as)[i]?=some s':=by simpa using e
   have q:=r0.slot (i+1) s' (by rw[<-sp];exact e')
   rw[<-tl] at q
   show ř K (JM a dx C F H) F H (((some (V.ref a)::(L2.start N (.int 0::vs)).tail)[i+1]?).getD none) s'
   rw[List.getElem?_cons_succ]
   cases s' with
   |no=>trivial
   |sh p=>exact q
   |bw ps=>
    obtain⟨b,ws,q1,q2,q3⟩:=q
    refine⟨b,ws,q1,?_,q3⟩
    show(if b=a then none else(ctx0 F H).L b)=_
    rw[if_neg (λz=>by
     have:=(bY q2).1
     rw[z,ha] at this
     cases this)]
    exact q2
   |ow ps=>have:=uM i _ e';cases this
   |rc C ns ps=>have:=uM i _ e';cases this
   |ot ps qs rs=>have:=uM i _ e';cases this
   |ol Bg=>have:=uM i _ e';cases this
 ·have at0:∀{i},Ļ F (some (.ref a)::(L2.start N (.int 0::vs)).tail) (Slot.rc C [] []::startP (N.length-1) as) i b→i=0:=fun{i} ⟨s',y,q1,_,q2⟩=>by
   have q2:=jE q2
   cases i with
   |zero=>rfl
   |succ i=>
    have:=uM i s' (by simpa using q1)
    rw[this] at q2
    cases q2
  rw[at0 h1,at0 h2]
end
section
variable{P:Program}{w:World}{K:PySem.W.Frag}{cm:String->Addr}{mg:Str->Option Value}{base:Heap}{CX:jB}
def Xe{x qual:Str}{st:Stmt}{f:Addr}{fd:FuncData}{N ps:List Str}{k n j:Nat}{C:String}{mb:M Fl}{mi:MI}(F:Cj K x qual st f fd)(S:Ē N ps (ć st))(hn:ps.length=n)(hj:N.length=j)(hf:mi=bM n j C mb)
 (hbody:∀(cdv:Value) (A:Around) (outer:List Env) (s:Shared) (H:Hp) (E:XK),Ř k (A.deeper (envOfC qual (ć st) s.heap.objs.size f cdv))→
   gK (o_ CX P w K mg base N qual (ć st) f cdv A outer s H E) (Œ st) (tS ⟨K,cm⟩ (λ_=>E) mb)):Ħ P w K mg base CX (k+1) f fd ps (HF ⟨K,cm⟩ n C mi):=by
 subst hn hj hf
 obtain⟨oc,od,kV,doc,pm,an,cdv,ct,osl,rfl,lk,hcd⟩:=F.ex
 refine BZ lk hcd S (λvs H Q E ⟨F,a,dx,vs',as,h1,h2,_,_,_,h3,_⟩=>by rw[h1,List.length_cons,<-Paired.length h3];exact h2) λA outer s H vs Q E hr hsp=>?_
 obtain⟨F,a,dx,vs',as,rfl,h2,h3,h4,h5,h6,h7⟩:=hsp
 refine⟨_,hbody cdv A outer s H E hr,JM a dx C F H,F,_,Rel.Us h5 h3 h4 h6,?_⟩
 unfold bM at h7
 rw[if_pos h2] at h7
 cases e:mb (.rc C [] []::startP (N.length-1) as) with
 |bad=>rw[e] at h7;exact h7
 |exc x ρ'=>rw[e] at h7;exact λσ' C' d F' H' rel s1 q=>h7 C' d F' H' rel.gri q
 |ok fl ρ'=>
  rw[e] at h7
  cases fl with
  |nx=>
   cases ρ' with
   |nil=>exact h7.elim
   |cons sl ρ'=>
    cases sl with
    |rc C' ns qs=>
     intro σ' F' H' rel s1
     obtain⟨b,dy,fs,q1,q2,q3,q4,q5,q6,rfl,rfl,rfl⟩:=rel.slot 0 _ rfl
     exact h7 F' H' fs rel.gri q2 q3 q5 q6
    |_=>exact h7.elim
  |bk=>exact h7.elim
  |ct=>exact h7.elim
  |rt r=>exact h7.elim
end
def aO(C:String)(mi:MI)(ms:M (List Slot)):M PV:=λρ=>(ms ρ).bind λas ρ1=>match mi as with
 | .ok ns ps=>.ok (.ins C ns ps) ρ1
 | .exc x=>.exc x ρ1
 | .bad=>.bad
section
variable{X:Cx}{cm:String->Addr}{E:L2.St->XK}{e:Expr}{es:List Expr}{pos p:Pos}{CX:jB}{k n:Nat}{f:Addr}{fd:FuncData}{ps:List Str}{C:String}{mi:MI}{ms:M (List Slot)}{x:Str}
def Eh{c:Ctx}{F1 H1:Hp}{σ:L2.St}{ρ1:ĺ}{Q:VK}{as:List Slot}{vs:List V}(hlen:(∃r,mi as=r/\∀z,r=z->z≠ .bad)->as.length+1=n)(ē:Rel (kk X cm) c F1 H1 σ ρ1)(r1:Paired (bh (kk X cm) F1 H1) as vs)
 (h:aA (kk X cm) E (rV (kk X cm)) c F1 H1 σ Q (match mi as with| .ok ns ps=>.ok (.ins C ns ps) ρ1| .exc x=>.exc x ρ1| .bad=>.bad)) :
 ∀x dx,H1 x=none->H1 dx=none->dx≠x->HF (kk X cm) n C mi (.ref x::vs) (upd (upd H1 dx (.own x)) x (.ins (cm C) dx [])) (λv H2=>v=.non/\Q (.ref x) H2) (E σ):=by
 intro x dx hx hdx hne
 have up:∀b u,H1 b=some u->upd (upd H1 dx (.own x)) x (.ins (cm C) dx []) b=some u:=λb u e=>by
  rw[ę (Ģ e hx),ę (Ģ e hdx)];exact e
 have JN:∀{F' H':Hp},GrB x F1 (upd (upd H1 dx (.own x)) x (.ins (cm C) dx [])) F' H'->Gr F1 H1 F' H':=fun{F' H'} g=>
  ⟨fun b u e=>g.h b u (Ģ e hx) (up b u e),g.f,g.sub,fun b hb hf=>by
    obtain⟨u,hu⟩:∃u,H1 b=some u:=by
     cases q:H1 b with
     |none=>exact absurd q hb
     |some u=>exact⟨u,rfl⟩
    exact g.out b (Ģ hu hx) (by rw[up b u hu];intro z;cases z) hf⟩
 refine⟨F1,x,dx,vs,as,rfl,?_,Ğ,ē.sub.free hx,λb u e=>up b u (ē.sub b u e),?_,?_⟩
 ·refine hlen ⟨_,rfl,λz hz hb=>?_⟩
  rw[hz,hb] at h
  exact h
 ·refine Paired.mono (λs v hs=>?_) r1
  cases s with
  |sh p=>exact hs
  |bw qs=>
   obtain⟨b,ws,q1,q2,q3,q4⟩:=hs
   exact⟨b,ws,q1,up b _ q2,q3,q4⟩
  |_=>exact hs.elim
 ·cases em:mi as with
  |bad=>rw[em] at h;exact h
  |exc y=>rw[em] at h;exact λC' d F' H' g rx=>h C' d F' H' (ē.call (JN g)) g.f rx
  |ok ns qs=>
   rw[em] at h
   intro F' H' fs g hx' hF' hn hr
   have r2:=ē.call (JN g)
   have r3:=r2.freeze hx' (ē.base.free hx) hF' (ē.jF (JN g).f (ē.fresh hx))
   refine⟨rfl,h _ _ H' r3 (g.f.trans (Same.upd hF')) (JN g).h ?_⟩
   show Rep _ _ _ _
   unfold Rep
   exact⟨x,dx,fs,rfl,Ğ,hn,ĕ.same (Same.upd hF') qs _ hr⟩
def Ar{pins:List (Addr×Obj)}{σ:L2.St}{H:Hp}{s:Shared}{Q:VK}{us:List Value}{vs:List V}{sp:Sp}{C:Addr}(M:Mk X.K C f)(F:Ħ X.prog X.w X.K X.mg X.base CX k f fd ps sp)(hr:Ř (k+1) X.A)(hb:Binds X.K fd ps [])
 (hx:dD CX X E)(I:Inv X pins σ H s)(r:Vals vs us)
 (h:∀x dx,H x=none->H dx=none->dx≠x->sp (.ref x::vs) (upd (upd H dx (.own x)) x (.ins C dx [])) (λv H2=>v=.non/\Q (.ref x) H2) (E σ)) :
 wpAny (model X.prog X.w) X.A (call (.ref C) us) (EP X pins σ Q) X.xe s:=by
 have hq:=h (s.heap.objs.size+1) s.heap.objs.size (I.hok.fresh (Nat.le_succ _)) (I.hok.fresh (Nat.le_refl _)) (Nat.ne_of_lt (Nat.lt_succ_self _))
 have I2:=Inv.made (C:=C) I
 have r2:Vals (V.ref (s.heap.objs.size+1)::vs) (Value.ref (s.heap.objs.size+1)::us):=.cons rfl r
 have hl:(Value.ref (s.heap.objs.size+1)::us ++ []).length=ps.length:=by
  have e:=r2.length
  rw[F.len _ _ _ _ hq] at e
  rw[List.append_nil]
  exact e.symm
 have hbd:=hb {s with heap:=(s.heap.push PySem.W.emptyDict).push (PySem.W.instObj C s.heap.objs.size)} (Value.ref (s.heap.objs.size+1)::us) I2.jY hl
 rw[List.append_nil] at hbd
 refine wpAny_call (BW (f:=f) I.jY M.makes M.init (beq_iff_eq.mp M.fn) (codeAny_mono (F.run _ X.stack _ _ ⟨Value.ref (s.heap.objs.size+1)::us,[]⟩ _ _ _ (E σ) (hr.make C us []) (I2.env0.make C us []) hbd r2 hq) λr s' hq'=>?_))
 cases r with
 |error e=>exact hx pins σ _ _ e s' I2 hq'
 |ok fl=>
  cases fl with
  |ret u=>
   obtain⟨v,H',I3,rv,ev,q3⟩:=I2.after hq'
   subst ev
   exact⟨rv,⟨V.ref (s.heap.objs.size+1),H',I3,rfl,q3⟩⟩
  |next=>exact False.elim hq'
  |brk=>exact False.elim hq'
  |cont=>exact False.elim hq'
def aY{n k:Nat}{C:String}{mb:M Fl}{as:List Slot}(h:∃r,bM n k C mb as=r/\∀z,r=z->z≠ .bad):as.length+1=n:=by
 obtain⟨r,h1,h2⟩:=h
 unfold bM at h1
 by_cases hl:as.length+1=n
 ·exact hl
 ·rw[if_neg hl] at h1
  exact absurd h1.symm (λz=>h2 .bad (by rw[<-h1]) rfl)
def jJ(M:Mk X.K (cm C) f)(F:Ħ X.prog X.w X.K X.mg X.base CX k f fd ps (HF (kk X cm) n C mi))(hlen:∀{as:List Slot},(∃r,mi as=r/\∀z,r=z->z≠ .bad)->as.length+1=n)(hr:Ř (k+1) X.A)(hg:Gl X x)(hm:X.mg x=some (.ref (cm C)))(hb:Binds X.K fd ps [])(hx:dD CX X E)
 (ha:PA X (e::es) (tA (kk X cm) E ms))(hdb:(x== ("__debug__" :Str))=false:=by decide)(he:starEach (e::es) X.env=(false,eval e X.env)::starEach es X.env:=by exact aM rfl)(hpl:(backTo pos (starEach es X.env)).any (·.1)=false:=by rfl) :
 PE X (.Call (.Name x p) (e::es) [] pos) (tV (kk X cm) E (aO C mi ms)):=by
 intro pins s σ H Q I ⟨c,F',ρ,rel,h⟩
 refine wpAny_Call_Name_kw (qN I hg hm ?_ hdb)
 refine PySem.W.callWith_K (h₀:= X.base) I.ok.mod.kin M.kp (ő (ha pos pins s σ H (λvs H1=>∀x dx,H1 x=none->H1 dx=none->dx≠x->HF (kk X cm) n C mi (.ref x::vs) (upd (upd H1 dx (.own x)) x (.ins (cm C) dx [])) (λv H2=>v=.non/\Q (.ref x) H2) (E σ)) I
  ⟨c,F',ρ,rel,aA.bind h λas ρ1 vs F1 H1 ē _ _ r1 h1=>Eh hlen ē r1 h1⟩) λus s1 ⟨vs,H1,I1,r,q⟩=>⟨I1.jY,?_⟩) he hpl
 exact Ar M F hr hb hx I1 r q
end
end P
namespace P
open PySem PySem.Spec PyProof.Rows L2 M2 M3 M4
section
variable{M:Model}{A:Around}{E:Value->Shared->Prop}{s:Shared}{B:Heap}{env:Env}{outer:List Env}{L e:Addr}{Q:Unit->Shared->Prop}
end
def iM.sub{P:Program}{w:World}{H:Hp}{h B:Heap}(x:iM P w H h)(k:∀b o u,H b=some u->h.get? b=some o->B.get? b=some o):iM P w H B:=λa o e=>
 (x a o e).stay (fun b u hb q=>by
   rcases hb with rfl|hb
   ·exact k _ _ _ e q
   ·exact k _ _ _ hb q) (λ_ q=>q) λ_ _ q=>q
section
variable{P:Program}{w:World}{K:PySem.W.Frag}{mg:Str->Option Value}{base:Heap}{N:List Str}{qual:Str}{scope:Scope}{f:Addr}{cdv:Value}{A:Around}{outer:List Env}{s₀:Shared}{H₀:Hp}{E:XK}
end
end P
namespace P
open PySem PySem.Spec PyProof.Rows L2 M2 M3 M4
section
variable{K:PySem.W.Frag}{h:Heap}{C:Addr}{bmB:List Value}{newId:String}
end
section
variable{X:Cx}{cm:String->Addr}{E:L2.St->XK}{x:Str}{C:String}{np cpos pos:Pos}
end
section
variable{M:Model}{A:Around}{E:Value->Shared->Prop}{s:Shared}{K:PySem.W.Frag}{e C D:Addr}{oe:Obj}{b:Bool}{Q:Bool->Shared->Prop}
end
section
variable{X:Cx}{pins:List (Addr×Obj)}{σ:L2.St}{H:Hp}{s:Shared}{xe:Value->Shared->Prop}
end
end P
namespace P
open PySem PySem.Spec PyProof.Rows L2 M2 M3 M4
abbrev MH:=PX->ĺ->Res Fl
section
variable{X:Cx}{cm:String->Addr}{E:L2.St->XK}{pins:List (Addr×Obj)}{σ:L2.St}{H Hc:Hp}{s sc:Shared}{ea:Addr}{C:Value}{d:Option Addr}{B:Heap}
variable{y n:Str}{Dn:String}{i:Nat}{yp hpos:Pos}{b₀:Stmt}{suite:List Stmt}{rest:List ExceptHandler}{yes no:List String}{mh:M Fl}{mr:MH}
end
end P
namespace P
open PySem PySem.Spec PyProof.Rows L2 M2 M3 M4 Builtin Builtin.ObjectAttr
section
variable{K:PySem.W.Frag}{h:Heap}{C:Addr}{cd:ClassData}{bm:List Value}
end
section
variable{prog:Program}{w:World}{A:Around}{E:Value->Shared->Prop}{h:Heap}{g:Array GenState}{d:Drawn}{t:Nat}{os:OsState}
variable{nm q:Str}{C N:Addr}{bs bm bmB:List Value}{hdct:Bool}{sn:List Str}{sub:List Value}{ab:Bool}{col:Option Bool}{dd:Option Addr}{k0 k1 k2 k3 k5:Option Value}{B newId initId:String}
end
section
variable{prog:Program}{w:World}{A:Around}{E:Value->Shared->Prop}{s:Shared}{K:PySem.W.Frag}{x C:Addr}{cd:ClassData}{bm:List Value}{ox:Obj}{od:Option Obj}{name:Str}{v:Value}
end
end P
namespace P
open PySem PySem.Spec PyProof.Rows L2 M2 M3 M4
section
variable{X:Cx}{pins:List (Addr×Obj)}{σ:L2.St}{H:Hp}{s:Shared}{a C:Addr}{cd:ClassData}{bm:List Value}{d:Option Addr}{fs:List (Str×V)}{f:Str}{y:V}{u:Value}{A:Around}{E:Value->Shared->Prop}
variable{o value:Expr}{pos pos':Pos}{j:Nat}{ss:List Stmt}{r:List (Str×Nat)}
end
section
variable{P:Program}{w:World}{K:PySem.W.Frag}{mg:Str->Option Value}{base:Heap}{CX:jB}
end
section
variable{X:Cx}{cm:String->Addr}{E:L2.St->XK}{e:Expr}{es:List Expr}{pos p:Pos}{CX:jB}{k n:Nat}{f:Addr}{fd:FuncData}{ps:List Str}{C:String}{fl:List (Str×Nat)}{ms:M (List PV)}{x:Str}
end
section
variable{M:Model}{A:Around}{E:Value->Shared->Prop}{s:Shared}{K:PySem.W.Frag}{env:Env}
end
section
variable{X:Cx}{cm:String->Addr}{E:L2.St->XK}{e:Expr}{es:List Expr}{pos cpos np:Pos}{CX:jB}{k n:Nat}{f:Addr}{fd:FuncData}{ps:List Str}{C:String}{fl:List (Str×Nat)}{ms:M (List PV)}{x:Str}
end
end P
namespace P
open PySem PySem.Spec PyProof.Rows L2 M2 M3 M4 Builtin Builtin.ObjectAttr
section
variable{prog:Program}{w:World}{A:Around}{E:Value->Shared->Prop}{s:Shared}{K:PySem.W.Frag}{x C:Addr}{ox:Obj}{od:Option Obj}
end
section
variable{X:Cx}{cm:String->Addr}{K:KK}
end
section
variable{ρ:ĺ}{C:String}{n i:Nat}{fl:List (Str×Nat)}{ms:M (List PV)}{mb mh:M Fl}{mr:MH}{yes no:List String}{x:PX}
end
end P
namespace P
open PySem PySem.Spec PyProof.Rows L2 M2 M3 M4
section
variable{X:Cx}{cm:String->Addr}{E:L2.St->XK}{y:Str}{Dn:String}{yp hpos:Pos}{b₀:Stmt}{suite:List Stmt}{rest:List ExceptHandler}{yes no:List String}{mh:M Fl}{mr:MH}
end
end P
namespace P
open PySem PySem.Spec PyProof.Rows L2 M2 M3 M4
section
variable{X:Cx}{cm:String->Addr}{K:KK}
def K_:List V->Hp->VK->Prop:=λxs H Q=>(∃i,xs=[.int i]/\Q (.int i) H)\/∃k,xs=[.bl k]/\Q (.int (if k then 1 else 0)) H
def Ei:ŀ X (.type "int") K_:=Ae
def wQ:List PV->Option PV
 | [.int i]=>some (.int i)
 | [.bl k]=>some (.int (if k then 1 else 0))
 |_=>none
def Ej:cO K K_ wQ:=by
 intro c F H σ ρ ps pv vs Q rel r e k
 unfold wQ at e
 split at e
 ·cases e
  obtain⟨v,rfl,r1⟩:=zj r
  cases r1.int
  exact .inl ⟨_,rfl,k _ F H rel (Same.refl _) (Same.refl _) Rep.int⟩
 ·cases e
  obtain⟨v,rfl,r1⟩:=zj r
  cases r1.bl
  exact .inr ⟨_,rfl,k _ F H rel (Same.refl _) (Same.refl _) Rep.int⟩
 ·cases e
theorem aj:∀{ns:List Int} {its:List Value},Vals (ns.map V.int) its->IntsAre its ns
 | [],its,h=>by cases h;exact .nil
 |n::ns,its,h=>by
  cases h with
  |cons r t=>
   obtain⟨k,e⟩:=(show ∃k,_=Value.int n k from r)
   subst e
   exact .cons n k (aj t)
section
variable{prog:Program}{w:World}{A:Around}{E:Value->Shared->Prop}{s:Shared}{l:Addr}{xs:Array (Int×Tok)}
def uN{Q:Value->Shared->Prop}(hl:s.heap.IsTuple l (intItems xs))
 (h:∀s₂:Shared,s₂= {s with heap:=s.heap.push {cls:=.type "tuple_iterator",data:=.fields #[.ref l,.int 0 0]}}→
   (s₂.heap.IsTupleIter s.heap.objs.size l 0/\s₂.heap.IsTuple l (intItems xs))->(∀b∈[s.heap.objs.size,l],b<s₂.heap.objs.size)->l≠s.heap.objs.size->(∀h':Heap,(∀b o,b∉[s.heap.objs.size]->s₂.heap.get? b=some o->h'.get? b=some o)->∀b o,s.heap.get? b=some o->h'.get? b=some o)->Q (.ref s.heap.objs.size) s₂) :
 wpAny (model prog w) A (pyIter (.ref l)) Q E s:=by
 have hlt:l<s.heap.objs.size:=by obtain⟨_,e,_⟩:=hl;exact Heap.lt_size e
 refine wpAny_pyIter_tuple hl (h _ rfl ⟨⟨_,Heap.get?_push_size _ rfl,rfl,rfl⟩,hl.push _⟩ (λb hb=>?_) (Nat.ne_of_lt hlt) λh' hk b o e=>?_)
 ·show b<(s.heap.push _).objs.size
  rw[Heap.size_push]
  rcases List.mem_cons.mp hb with rfl|hb
  ·exact Nat.lt_succ_self _
  ·rcases List.mem_cons.mp hb with rfl|hb
   ·exact Nat.lt_succ_of_lt hlt
   ·cases hb
 ·refine hk b o (λhm=>?_) (Heap.get?_push_of_some _ e)
  rcases List.mem_cons.mp hm with e1|hm
  ·exact absurd (e1▸Heap.lt_size e) (Nat.lt_irrefl _)
  ·cases hm
def wR{Q:Value->Shared->Prop}(hh:A.handled=none)(hl:s.heap.IsTuple l (intItems xs))(hne:0<xs.size)
 (h:∀v h' tk,(intItems xs)[argBest (λi j=>decide (numAt xs i>numAt xs j)) (xs.size-1)]?=some v->(∀b o,s.heap.get? b=some o->h'.get? b=some o)->Q v {s with heap:=h',toks:=tk}) :
 wpAny (model prog w) A (call (.builtin "max") [.ref l]) Q E s:=by
 refine call_max_walk (uN hl λs₂ e st hfp hlI hk0=>?_)
 subst e
 refine⟨_,_,_,_,_,_,_,rfl,Walks.tuple (A:=A.in1) hh _ l hlI (intItems xs),st,hfp,by simpa[intItems] using hne,CmpOf.ints_gt (numAt xs) (λ_ _=>intItems_at),λv h' tk hP hk=>?_⟩
 exact h v h' tk (by simpa[intItems] using hP) (hk0 h' hk)
end
def YT(K:PySem.W.Frag):List V->Hp->VK->Prop:=λxs H Q=>∃(p:Addr) (ns:List Int),xs=[.ref p]/\(Ũ K H p (ns.map V.int)\/cY K H p (ns.map V.int))/\0<ns.length/\∀M,M∈ns->(∀a∈ns,a<=M)->Q (.int M) H
def wU(hc:X.calm=true):ŀ X (.builtin "max") (YT X.K):=by
 intro pins s σ H xs us Q I r h
 obtain⟨p,ns,rfl,hS,hne,q⟩:=h
 obtain⟨u,rfl,ru⟩:=vals1 r
 cases ru
 have fin:∀(ys:Array (Int×Tok)),ns=ys.toList.map (·.1)->0<ys.size->∀v h' tk,(intItems ys)[argBest (λi j=>decide (numAt ys i>numAt ys j)) (ys.size-1)]?=some v->(∀b o,s.heap.get? b=some o->h'.get? b=some o)->EP X pins σ Q v {s with heap:=h',toks:=tk}:=by
  intro ys hns hsz v h' tk hv hk
  obtain⟨t,rfl⟩:=intItems_at hv
  obtain⟨h1,h2⟩:=argBest_gt (numAt ys) (ys.size-1)
  refine⟨.int _,H,I.kept hk,⟨t,rfl⟩,q _ ?_ λa ha=>?_⟩
  ·rw[hns,numAt_eq]
   have hj:argBest (λi j=>decide (numAt ys i>numAt ys j)) (ys.size-1)<(ys.toList.map (·.1)).length:=by rw[List.length_map,Array.length_toList];omega
   rw[List.getD_eq_getElem?_getD,List.getElem?_eq_getElem hj]
   exact List.getElem_mem _
  ·rw[hns] at ha
   obtain⟨j,hj,rfl⟩:=List.mem_iff_getElem.mp ha
   rw[List.length_map,Array.length_toList] at hj
   have:=h2 j (by omega)
   rw[numAt_eq ys j,List.getD_eq_getElem?_getD,List.getElem?_eq_getElem (by rw[List.length_map,Array.length_toList];exact hj)] at this
   exact this
 rcases hS with hS|hS
 ·obtain⟨its,rv,pl,hz⟩:=I.list hS
  have hi:=aj rv
  obtain⟨ys,e⟩:=hi.allInts.items
  have hns:ns=ys.toList.map (·.1):=by rw[<-hi.numsOf,<-nums_intItems,<-e]
  have hl:=pl.isList
  rw[e] at hl
  have hsz:0<ys.size:=by rw[hns,List.length_map,Array.length_toList] at hne;exact hne
  exact max_intList (show X.A.handled=none from I.ok.hd hc) hl hsz (fin ys hns hsz)
 ·obtain⟨its,rv,pl,hz⟩:=I.tuple hS
  have hi:=aj rv
  obtain⟨ys,e⟩:=hi.allInts.items
  have hns:ns=ys.toList.map (·.1):=by rw[<-hi.numsOf,<-nums_intItems,<-e]
  have hl:s.heap.IsTuple p its.toArray:=pl
  rw[e] at hl
  have hsz:0<ys.size:=by rw[hns,List.length_map,Array.length_toList] at hne;exact hne
  exact wR (show X.A.handled=none from I.ok.hd hc) hl hsz (fin ys hns hsz)
def YW(K:PySem.W.Frag):List V->Hp->VK->Prop:=λxs H Q=>∃(p:Addr) (ns:List Int),xs=[.ref p]/\Ũ K H p (ns.map V.int)/\0<ns.length/\∀M,M∈ns->(∀a∈ns,M<=a)->Q (.int M) H
def Ek(hc:X.calm=true):ŀ X (.builtin "min") (YW X.K):=by
 intro pins s σ H xs us Q I r h
 obtain⟨p,ns,rfl,hS,hne,q⟩:=h
 obtain⟨u,rfl,ru⟩:=vals1 r
 cases ru
 obtain⟨its,rv,pl,hz⟩:=I.list hS
 have hi:=aj rv
 obtain⟨ys,e⟩:=hi.allInts.items
 have hns:ns=ys.toList.map (·.1):=by rw[<-hi.numsOf,<-nums_intItems,<-e]
 have hl:=pl.isList
 rw[e] at hl
 have hsz:0<ys.size:=by rw[hns,List.length_map,Array.length_toList] at hne;exact hne
 refine min_intList (show X.A.handled=none from I.ok.hd hc) hl hsz λv h' tk hv hk=>?_
 obtain⟨t,rfl⟩:=intItems_at hv
 obtain⟨h1,h2⟩:=argBest_lt (numAt ys) (ys.size-1)
 refine⟨.int _,H,I.kept hk,⟨t,rfl⟩,q _ ?_ λa ha=>?_⟩
 ·rw[hns,numAt_eq]
  have hj:argBest (λi j=>decide (numAt ys i<numAt ys j)) (ys.size-1)<(ys.toList.map (·.1)).length:=by rw[List.length_map,Array.length_toList];omega
  rw[List.getD_eq_getElem?_getD,List.getElem?_eq_getElem hj]
  exact List.getElem_mem _
 ·rw[hns] at ha
  obtain⟨j,hj,rfl⟩:=List.mem_iff_getElem.mp ha
  rw[List.length_map,Array.length_toList] at hj
  have:=h2 j (by omega)
  rw[numAt_eq ys j,List.getD_eq_getElem?_getD,List.getElem?_eq_getElem (by rw[List.length_map,Array.length_toList];exact hj)] at this
  exact this
def intsOf:List PV->Option (List Int)
 | []=>some []
 | .int b::ps=>(intsOf ps).map (b:: ·)
 |_::_=>none
@[simp] theorem iG:∀ns:List Int,intsOf (ns.map PV.int)=some ns
  | []=>rfl
  |n::ns=>by rw[List.map_cons,intsOf,iG ns];rfl
theorem ints_rep{F:Hp}:∀{ps:List PV} {vs:List V} {bs:List Int},ĕ K F ps vs->intsOf ps=some bs->vs=bs.map V.int
 | [],vs,bs,r,h=>by
   cases h
   cases r.pr
   rfl
 |p::ps,vs,bs,r,h=>by
  cases r.pr with
  |cons r1 t=>
   cases p with
   |int b=>
    unfold intsOf at h
    obtain⟨cs,e,rfl⟩:=Option.map_eq_some_iff.mp h
    rw[ints_rep (ĕ.of t) e,show _=V.int b from r1]
    rfl
   |_=>cases h
def best(f:Int->Int->Int):List Int->Option Int
 | []=>none
 |n::ns=>some (ns.foldl f n)
theorem foldl_max:∀(ns:List Int) (n:Int),ns.foldl max n∈n::ns/\∀a∈n::ns,a<=ns.foldl max n
 | [],n=>by simp
 |m::ns,n=>by
  obtain⟨h1,h2⟩:=foldl_max ns (max n m)
  rw[List.foldl_cons]
  refine⟨?_,λa ha=>?_⟩
  ·rcases List.mem_cons.mp h1 with e|e
   ·rw[e]
    by_cases h:n<=m
    ·rw[Int.max_eq_right h];simp
    ·rw[Int.max_eq_left (by omega)];simp
   ·simp[e]
  ·have hm:=h2 (max n m) List.mem_cons_self
   rcases List.mem_cons.mp ha with rfl|ha
   ·omega
   ·rcases List.mem_cons.mp ha with rfl|ha
    ·omega
    ·exact h2 a (List.mem_cons_of_mem _ ha)
theorem foldl_min:∀(ns:List Int) (n:Int),ns.foldl min n∈n::ns/\∀a∈n::ns,ns.foldl min n<=a
 | [],n=>by simp
 |m::ns,n=>by
  obtain⟨h1,h2⟩:=foldl_min ns (min n m)
  rw[List.foldl_cons]
  refine⟨?_,λa ha=>?_⟩
  ·rcases List.mem_cons.mp h1 with e|e
   ·rw[e]
    by_cases h:n<=m
    ·rw[Int.min_eq_left h];simp
    ·rw[Int.min_eq_right (by omega)];simp
   ·simp[e]
  ·have hm:=h2 (min n m) List.mem_cons_self
   rcases List.mem_cons.mp ha with rfl|ha
   ·omega
   ·rcases List.mem_cons.mp ha with rfl|ha
    ·omega
    ·exact h2 a (List.mem_cons_of_mem _ ha)
def gY:List PV->Option PV
 | [.lst ps]=>((intsOf ps).bind (best max)).map .int
 | [.tup ps]=>((intsOf ps).bind (best max)).map .int
 |_=>none
def qg:List PV->Option PV
 | [.lst ps]=>((intsOf ps).bind (best min)).map .int
 |_=>none
def wV:cO K (YT K.K) gY:=by
 intro c F H σ ρ ps pv vs Q rel r e k
 have fin:∀(ps:List PV) (xs:List V),ĕ K F ps xs->((intsOf ps).bind (best max)).map PV.int=some pv->∃ns:List Int,xs=ns.map V.int/\0<ns.length/\∀M,M∈ns->(∀a∈ns,a<=M)->Q (.int M) H:=by
  intro ps xs h2 e
  obtain⟨m,em,rfl⟩:=Option.map_eq_some_iff.mp e
  obtain⟨ns,eb,hb⟩:=Option.bind_eq_some_iff.mp em
  cases ns with
  |nil=>cases hb
  |cons n ns=>
   cases hb
   obtain⟨z1,z2⟩:=foldl_max ns n
   refine⟨n::ns,ints_rep h2 eb,by simp,λM m1 m2=>?_⟩
   have:M=ns.foldl max n:=Int.le_antisymm (z2 M m1) (m2 _ z1)
   rw[this]
   exact k _ F H rel (Same.refl _) (Same.refl _) Rep.int
 unfold gY at e
 split at e
 ·rename_i ps
  obtain⟨v,rfl,r1⟩:=zj r
  obtain⟨a,xs,rfl,h1,h2⟩:=r1.lst rel.sub
  obtain⟨ns,rfl,hl,hq⟩:=fin ps xs h2 e
  exact⟨a,ns,rfl,.inl h1,hl,hq⟩
 ·rename_i ps
  obtain⟨v,rfl,r1⟩:=zj r
  obtain⟨a,xs,rfl,h1,h2⟩:=r1.tup rel.sub
  obtain⟨ns,rfl,hl,hq⟩:=fin ps xs h2 e
  exact⟨a,ns,rfl,.inr h1,hl,hq⟩
 ·cases e
def El:cO K (YW K.K) qg:=by
 intro c F H σ ρ ps pv vs Q rel r e k
 unfold qg at e
 split at e
 ·rename_i ps
  obtain⟨v,rfl,r1⟩:=zj r
  obtain⟨a,xs,rfl,h1,h2⟩:=r1.lst rel.sub
  obtain⟨m,em,rfl⟩:=Option.map_eq_some_iff.mp e
  obtain⟨ns,eb,hb⟩:=Option.bind_eq_some_iff.mp em
  cases ns with
  |nil=>cases hb
  |cons n ns=>
   cases hb
   obtain⟨z1,z2⟩:=foldl_min ns n
   refine⟨a,n::ns,rfl,by rw[<-ints_rep h2 eb];exact h1,by simp,λM m1 m2=>?_⟩
   have:M=ns.foldl min n:=Int.le_antisymm (m2 _ z1) (z2 M m1)
   rw[this]
   exact k _ F H rel (Same.refl _) (Same.refl _) Rep.int
 ·cases e
@[simp] theorem Zbh{i:Int}:wQ [.int i]=some (.int i):=rfl
@[simp] theorem Zbi{b:Bool}:wQ [.bl b]=some (.int (if b then 1 else 0)):=rfl
@[simp] theorem JQ{ps:List PV}:gY [.lst ps]=((intsOf ps).bind (best max)).map .int:=rfl
@[simp] theorem JR{ps:List PV}:qg [.lst ps]=((intsOf ps).bind (best min)).map .int:=rfl
@[simp] theorem Zbj{f:Int->Int->Int}{n:Int}{ns:List Int}:best f (n::ns)=some (ns.foldl f n):=rfl
end
end P
namespace P
open PySem PySem.Spec PyProof.Rows L2 M2 M3 M4
def YX(K:PySem.W.Frag)(C:Addr):Bool:=PySem.W.plainGet K C Str.empty && PySem.W.hasDictIn K C && PySem.W.plainOver K C && PySem.W.findIn K (.ref C) "__setattr__" == some (some (.builtin "object.__setattr__"))
def iH{K:PySem.W.Frag}{C:Addr}(h:YX K C=true):Cls K C:=by
 unfold YX at h
 simp only[Bool.and_eq_true,beq_iff_eq] at h
 exact⟨h.1.1.1,h.1.1.2,h.1.2,h.2⟩
def La(K:PySem.W.Frag)(C:Addr)(m:Str)(f:Addr):Bool:=PySem.W.findIn K (.ref C) m== some (some (.ref f)) && PySem.W.isFn K (.ref f) && PySem.W.keepIn K (.ref f)
def jh{K:PySem.W.Frag}{C f:Addr}{m:Str}(h:La K C m f=true):Meth K C m f:=by
 unfold La at h
 simp only[Bool.and_eq_true,beq_iff_eq] at h
 exact⟨h.1.1,h.1.2,h.2⟩
def mkB(K:PySem.W.Frag)(C f:Addr):Bool:=PySem.W.makesIn K C && PySem.W.findIn K (.ref C) "__init__" == some (some (.ref f)) && PySem.W.isFn K (.ref f) && PySem.W.keepIn K (.ref C)
def nu{K:PySem.W.Frag}{C f:Addr}(h:mkB K C f=true):Mk K C f:=by
 unfold mkB at h
 simp only[Bool.and_eq_true,beq_iff_eq] at h
 exact⟨h.1.1.1,h.1.1.2,h.1.2,h.2⟩
section
variable{ρ:ĺ}{i n k:Nat}{C:String}{cs:List String}{f m:Str}{mv mo:M PV}{mi:MI}{ms:M (List Slot)}{mb:M Fl}{gH:List (String×MF)}{as:List Slot}{ns:List Str}{ps:List PV}
@[simp] theorem Zbk:gW i cs f mv ρ=(mv ρ).bind fun p ρ1=>match ρ1[i]? with
  |some (.rc C ns ps)=>if cs.contains C=true/\ns.length<1000 then .ok .nx (ρ1.set i (.rc C (putN f ns) (wO f p ns ps))) else .bad
  |_=>.bad:=rfl
@[simp] theorem Zbl:bM n k C mb as=if as.length+1=n then IR.of (mb (.rc C [] []::startP (k-1) as)) else .bad:=rfl
@[simp] theorem ZcY{C:String}:IR.of (.ok .nx (.rc C ns ps::ρ))=.ok ns ps:=rfl
@[simp] theorem Zbm:aO C mi ms ρ=(ms ρ).bind fun as ρ1=>match mi as with
  | .ok ns ps=>.ok (.ins C ns ps) ρ1
  | .exc x=>.exc x ρ1
  | .bad=>.bad:=rfl
@[simp] theorem ZcZ:Ō cs f (.ins C ns ps)=if cs.contains C=true then(ns.zip ps).lookup f else none:=rfl
@[simp] theorem JT:nq m gH mo ms ρ=(mo ρ).bind fun p ρ1=>match p with
  | .ins C ns ps=>match gH.lookup C with
    |some mf=>if ns.contains m=true then .bad else(ms ρ1).bind λas ρ2=>match mf (.sh (.ins C ns ps)::as) with
     | .ret r=>.ok r ρ2
     | .exc x=>.exc x ρ2
     | .bad=>.bad
    |none=>.bad
  |_=>.bad:=rfl
end
end P
namespace M3
open PySem PySem.Spec PyProof.Rows L2 M2
section
variable{X:Cx}{elt tg iter:Expr}{ifs:List Expr}{scope:Scope}{pos:Pos}{wi:TI}{g:TG}{tt:TT}{te:TE}
def JV{iv:Nat}{y:Str}{py spos:Pos}(hN:X.N.Nodup)(hiN:X.N[iv]?=some y)(hy:X.env.scope.names.lookup y=some .local)(hsw:swapsWith (.ListComp elt [⟨tg,iter,ifs,0⟩] scope pos) (some (.Name y py)) spos.line X.env=pure true)(N':List Str)(js:List Nat)(nl:Nat)(sc:Scope)(hsc:X.env.scope=sc)(hcalm:X.calm=true)
 (hi:PI X.Ŏ tg iter wi)(hg:∀cl C s H fp,PG (bW X.Ŏ N' scope cl C s H fp) tg g)(ht:∀cl C s H fp,Bd (bW X.Ŏ N' scope cl C s H fp) ifs tt)(he:∀cl C s H fp,PE (bW X.Ŏ N' scope cl C s H fp) elt te)
 (hcap:cH X.Ŏ sc scope N' js)(hlen:js.length+nl=N'.length:=by rfl)
 (hk:scope.kind=.function:=by rfl)(hcell:∀y∈scope.names,y.2=.cell->scope.names.lookup y.1=some .cell:=by decide +kernel)(hnames:∀y∈scope.names,y.2=.local->scope.names.lookup y.1=some .local:=by decide +kernel)
 (hfree:∀y∈scope.names,y.2=.free->(sc.names.lookup y.1=some .cell\/sc.names.lookup y.1=some .free):=by decide +kernel)
 (hs:∀x,foldedSetIterable iter X.env x=pure x:=by intro _;rfl) :
 PS X.Ŏ (.Assign [.Name y py] (.ListComp elt [⟨tg,iter,ifs,0⟩] scope pos) spos) (λD σ H=>CG js nl wi g tt te σ H λv H'=>D.nx (σ.set iv (some v)) H'):=by
 intro pins s σ H D I h
 obtain⟨Yc,c1,c2,c3⟩:=dh (scope:=scope) (env:=X.Ŏ.env) λy hy hf=>I.ok.has y.1 (by
  have:=hfree y hy hf
  rw[<-hsc] at this
  exact this)
 rw[exec_Assign_Name_used _ _ _ _ (show swapsWith _ _ _ X.Ŏ.env=pure true from hsw)]
 refine wpAny_bind (wpAny_standAt (wpAny_bind ?_))
 show wpAny _ X.A (do let _ <-comprehension (.ListComp elt [⟨tg,iter,ifs,0⟩] scope pos) scope X.Ŏ.env _ (newList []) false (eval iter X.Ŏ.env) (some (assign (.Name y py) X.Ŏ.env))) _ _ s
 refine wpAny_bind (wpAny_mono (wpAny_comprehension_free (Q:=λ_ s'=>SP X.Ŏ pins D .next s') (use:=some (assign (.Name y py) X.Ŏ.env)) rfl hs c1 hk hnames (ő (hi pins s σ H _ I h) λv s1 h1=>ő h1 λitv s2 h2=>?_)) (λ_ s' hq=>wpAny_pure (wpAny_pure hq)) λ_ _ e=>e)
 obtain⟨it,fp,tn,J,H2,e,I2,T,st2,f2,q2⟩:=h2
 subst e
 refine wpAny_newObj_type (gO (λh₁ hns₁ old Tz=>?_))
 dsimp only at hns₁ old Tz ⊢
 generalize TF:s2.heap.push {cls:=.type "list",dict:=none,data:=.seq ([]:List Value).toArray}=aQ at hns₁ old Tz ⊢
 have hD:H2 s2.heap.objs.size=none:=I2.hok.fresh (Nat.le_refl _)
 have I3:Inv X.Ŏ pins σ (upd H2 s2.heap.objs.size (.lst [])) {s2 with heap:=aQ}:=by
  rw[<-TF]
  exact I2.laid (t':=s2.toks) (λb u e=>Heap.get?_push_of_some _ e) (Nat.le_refl _) ⟨Nat.zero_le _,[],0,.nil,Heap.get?_push_size _ rfl⟩
 have Jg:∀b∈fp,b<s2.heap.objs.size:=λb hb=>by
  obtain⟨o,ho,_⟩:=T.obj 0 _ st2 b hb
  exact Heap.lt_size ho
 have TJ:aQ.objs.size=s2.heap.objs.size+1:=by rw[<-TF,Heap.size_push]
 have f3:∀b∈fp,bU X.Ŏ pins (upd H2 s2.heap.objs.size (.lst [])) b:=λb hb=>by
  obtain⟨g0,g1⟩:=f2 b hb
  exact⟨by rw[ę (Nat.ne_of_lt (Jg b hb))];exact g0,g1⟩
 have B:=CJ (X:=X.Ŏ) (cl:=Yc) hcell c2 c3 (λx c e=>by
  obtain⟨v,o,ho,_⟩:=I3.cell x c e
  exact Heap.lt_size ho) Tz
 generalize cellsFrom (aQ.objs.size+1) scope.names Yc=cl at B ⊢
 obtain⟨W,⟨m0,w0⟩,turn⟩:=q2 s2.heap.objs.size hD
 have I4:=pU (X:=X.Ŏ) (N':=N') (js:=js) (nl:=nl) (sc:=sc) (scope:=scope) (cl:=cl) (fp:=fp) (h':=h₁) (tk:=s2.toks) hsc hk hcap hlen B I3 f3 (λb hb=>by show b<aQ.objs.size;rw[TJ];exact Nat.lt_succ_of_lt (Jg b hb)) hns₁ old
 have Yd:tn 0 h₁:= T.keep 0 _ _ st2 λb hb o e=>old b o (by rw[<-TF];exact Heap.get?_push_of_some _ e)
 have fr4:∀b∈fp,(upd H2 s2.heap.objs.size (.lst [])) b=none:=λb hb=>(f3 b hb).1
 have stat:∀{H':Hp},(∀b∈fp,H' b=none)->∀b∈fp,bU (bW X.Ŏ N' scope cl aQ.objs.size {s2 with heap:=aQ} (upd H2 s2.heap.objs.size (.lst [])) fp) [] H' b:=fun{H'} hn b hb=>by
  obtain⟨g0,g1,g2,g3,g4,g5⟩:=f3 b hb
  refine⟨hn b hb,Nat.ne_of_lt (by show b<aQ.objs.size;rw[TJ];exact Nat.lt_succ_of_lt (Jg b hb)),λz=>?_,.inl hb,λx c e=>by
   rcases B.at_ x c e with⟨q,_⟩|⟨q,_⟩
   ·exact g4 x c q
   ·exact Nat.ne_of_gt (Nat.lt_trans (by show b<aQ.objs.size;rw[TJ];exact Nat.lt_succ_of_lt (Jg b hb)) q),λp hp=>absurd hp (by simp[bW])⟩
  rcases List.mem_cons.mp (I3.lZ b z) with z|z
  ·exact g1 z
  ·exact g2 z
 have loop:∀s₃:Shared,s₃= {s2 with heap:=h₁}->
  codeAny (model X.prog X.w) X.A (.compLoop (.ListComp elt [⟨tg,iter,ifs,0⟩] scope pos) 0 (.ref it) (.ref s2.heap.objs.size) (compEnvC scope cl aQ.objs.size X.Ŏ.env))
   (compPost (model X.prog X.w) X.A X.Ŏ.xe (some (assign (.Name y py) X.Ŏ.env)) (λ_ s'=>SP X.Ŏ pins D .next s') (.ref s2.heap.objs.size) aQ.objs.size) s₃:= by
  rintro s₃ rfl
  refine iV (λn s'=>∃i σ' H',Inv (bW X.Ŏ N' scope cl aQ.objs.size {s2 with heap:=aQ} (upd H2 s2.heap.objs.size (.lst [])) fp) [] σ' H' s'/\tn i s'.heap/\(∀b∈fp,H' b=none)/\W i n σ' H') ?_ m0 ⟨0,_,_,I4,Yd,fr4,w0⟩
  rintro n s5 ⟨i,σ5,H5,I5,Ii,RW,w5⟩
  rcases turn i n σ5 H5 w5 with⟨stop,qn⟩|⟨go,N,hN,step⟩
  ·refine ő (T.done (bW X.Ŏ N' scope cl aQ.objs.size {s2 with heap:=aQ} (upd H2 s2.heap.objs.size (.lst [])) fp) rfl rfl rfl hcalm i [] s5 σ5 H5 (λ_ _=>False) I5 (stat RW) Ii stop) λr s6 ⟨hr,I6⟩=>?_
   subst hr
   obtain⟨m,hm,_⟩:=I6.loc
   have I7:Inv X.Ŏ pins σ H5 s6:=mG (h':=s6.heap) I3 f3 I6 (λb u hb e=>e)
   have hCL:aQ.objs.size≠X.Ŏ.env.locals:=Nat.ne_of_gt I3.lt
   have hcC:∀x c,X.Ŏ.env.cells.lookup x=some c->c≠aQ.objs.size:=λx c e z=>by
    obtain⟨v,o,ho,_⟩:=I3.cell x c e
    exact absurd (Heap.lt_size ho) (by rw[z];exact Nat.lt_irrefl _)
   have hpC:∀p∈X.Ŏ.pn++pins,p.1≠aQ.objs.size:=λp hp z=>by
    have:=Heap.lt_size (I3.pin p hp).1
    rw[z] at this
    exact Nat.lt_irrefl _ this
   have hnC:H5 aQ.objs.size=none:=I6.free
   refine wpAny_assign_Name (pJ (X:=X.Ŏ) (i:=iv) I7 hN hiN (.inl hy) (v:=.ref s2.heap.objs.size) rfl (λs8 I8 ⟨a8,sb8,ha8⟩=>?_) (.inr hy))
   have ne8:aQ.objs.size≠a8:=by
    rcases ha8 with rfl|ha8
    ·exact hCL
    ·exact λz=>hcC _ _ ha8 z.symm
   refine⟨m,hm.sameBut sb8 ne8,λh' hs'=>⟨_,H5,?_,qn⟩⟩
   have kp:∀b o,b≠aQ.objs.size->s8.heap.get? b=some o->h'.get? b=some o:=λb o hb e=>hs'.extBut b o hb e
   have kp':∀b o,b∉[aQ.objs.size]->s8.heap.get? b=some o->h'.get? b=some o:=λb o hb e=>kp b o (λz=>hb (by rw[z];exact List.mem_cons_self)) e
   refine I8.call' (ch:=[aQ.objs.size]) (s':={s8 with heap:=h'}) rfl ⟨λb o e _ _ hx=>kp' b o hx e,λb o e _ _ hx=>⟨o.slots,kp' b o hx e⟩,λb o _ n _=>n,λb o e hx=>⟨o,kp' b o hx e⟩,λ_ _ q=>q,λ_ _ _ q=>q,λ_ ps q=>q⟩ (yJ I8.hok hnC kp) I8.bare λb hb=>?_
   cases List.mem_singleton.mp hb
   exact⟨.inr I3.sz,hCL,hcC,hpC⟩
  ·refine ő (T.item (bW X.Ŏ N' scope cl aQ.objs.size {s2 with heap:=aQ} (upd H2 s2.heap.objs.size (.lst [])) fp) rfl rfl rfl hcalm i [] s5 σ5 H5 (λ_ _=>False) I5 (stat RW) Ii go) λr s6 ⟨u,hr,h6⟩=>?_
   subst hr
   refine ő h6 λ_ s7 ⟨x,H7,I7,r7,y7,TQ,fr7⟩=>?_
   have I7':=I7.pinned (stat fr7) (T.obj _ _ TQ)
   have again:∀{s8:Shared} {σ8:L2.St} {H8:Hp},Inv (bW X.Ŏ N' scope cl aQ.objs.size {s2 with heap:=aQ} (upd H2 s2.heap.objs.size (.lst [])) fp) ([]++jx fp s7.heap) σ8 H8 s8->
    Inv (bW X.Ŏ N' scope cl aQ.objs.size {s2 with heap:=aQ} (upd H2 s2.heap.objs.size (.lst [])) fp) [] σ8 H8 s8/\tn (i+1) s8.heap/\∀b∈fp,H8 b=none:=fun{s8 σ8 H8} I8=>by
    refine⟨I8.cF,T.keep _ _ _ TQ λb hb o e=>(I8.pin (b,o) (List.mem_append_right _ (List.mem_append_right _ (ş hb e)))).1,λb hb=>?_⟩
    obtain⟨o,e,d⟩:=T.obj _ _ TQ b hb
    exact(I8.pin (b,o) (List.mem_append_right _ (List.mem_append_right _ (ş hb e)))).2.1
   refine ő (hg cl _ _ _ fp _ s7 σ5 H7 x u _ I7' r7 (step x H7 y7)) λ_ s8 ⟨σ8,H8,I8,q8⟩=>?_
   refine ő (ht cl _ _ _ fp _ s8 σ8 H8 _ I8 q8) λc s9 ⟨H9,I9,q9⟩=>?_
   cases c with
   |false=>
    rw[if_neg Bool.false_ne_true] at q9 ⊢
    obtain⟨m',hm',w9⟩:=hN _ _ q9
    obtain⟨a1,a2,a3⟩:=again I9
    exact⟨m',hm',i+1,σ8,H9,a1,a2,a3,w9⟩
   |true=>
    rw[if_pos rfl] at q9 ⊢
    refine ő (he cl _ _ _ fp _ s9 σ8 H9 _ I9 q9) λyv kh ⟨y,H10,I10,r10,ys,e10,l10,w10⟩=>?_
    refine ő (ń _ kh σ8 H10 (.ref s2.heap.objs.size) [y] (.ref s2.heap.objs.size) [yv] (λ_ TX=>N σ8 TX) I10 rfl (.cons r10 .nil) ⟨_,ys,y,rfl,rfl,e10,l10,w10⟩) λ_ Jh ⟨v11,TX,I11,_,w11⟩=>?_
    obtain⟨a1,a2,a3⟩:=again I11
    obtain⟨m',hm',w11⟩:=hN _ _ w11
    exact⟨m',hm',i+1,σ8,TX,a1,a2,a3,w11⟩
 exact codeAny_compStart_list (loop _ rfl) (T.self _ 0 _ _ _ Yd (loop _ rfl))
end
end M3
namespace P
open PySem PySem.Spec PyProof.Rows L2 M2 M3 M4
section
variable{X:Cx}{cm:String->Addr}{E:L2.St->XK}{elt tg iter:Expr}{ifs:List Expr}{scope:Scope}{pos:Pos}{mi:M (List PV)}{g:Tg}{mt:M Bool}{me:M PV}
theorem PS.Ŏ{st:Stmt}{t:TS}(h:PS X.Ŏ st t):PS X st t:=λpins s σ H D I hw=>
 wpAny_mono (h pins s σ H D (I.wish _) hw) (λ_ _ q=>q.cZ) λ_ _ z=>False.elim z
def Ut{i:Nat}{y:Str}{py spos:Pos}(hN:X.N.Nodup)(hi0:X.N[i]?=some y)(hy:X.env.scope.names.lookup y=some .local)(N':List Str)(js:List Nat)(nl:Nat)(sc:Scope)(hsc:X.env.scope=sc)(hcalm:X.calm=true)
 (hi:PI X.Ŏ tg iter (tI (kk X cm) E mi))(hg:∀cl C s H fp,PG (bW X.Ŏ N' scope cl C s H fp) tg (tT (kk X cm) g))(ht:∀cl C s H fp,Bd (bW X.Ŏ N' scope cl C s H fp) ifs (tB (kk X cm) EF mt))(he:∀cl C s H fp,PE (bW X.Ŏ N' scope cl C s H fp) elt (tV (kk X cm) EF me))
 (hcap:cH X.Ŏ sc scope N' js)(hlen:js.length+nl=N'.length:=by rfl)
 (hk:scope.kind=.function:=by rfl)(hcell:∀y∈scope.names,y.2=.cell->scope.names.lookup y.1=some .cell:=by decide +kernel)(hnames:∀y∈scope.names,y.2=.local->scope.names.lookup y.1=some .local:=by decide +kernel)
 (hfree:∀y∈scope.names,y.2=.free->(sc.names.lookup y.1=some .cell\/sc.names.lookup y.1=some .free):=by decide +kernel)
 (hs:∀x,foldedSetIterable iter X.env x=pure x:=by intro _;rfl)(hsw:swapsWith (.ListComp elt [⟨tg,iter,ifs,0⟩] scope pos) (some (.Name y py)) spos.line X.env=pure true:=by rfl) :
 PS X (.Assign [.Name y py] (.ListComp elt [⟨tg,iter,ifs,0⟩] scope pos) spos) (tS (kk X cm) E (ĥ i (Ł js nl mi g mt me))):=
 PS.wk (PS.Ŏ (JV hN hi0 hy hsw N' js nl sc hsc hcalm (KH hi) hg ht he hcap hlen hk hcell hnames hfree hs)) fun D σ H ⟨c,F,ρ,rel,h⟩=>uE ⟨c,F,ρ,rel,Ū.bind h fun r ρ1 v F1 H1 ē s1 q h1=>by
   cases r with
   |sh p=>exact h1 _ F1 H1 (ē.put rfl ⟨v,rfl,q⟩) (Same.refl _)
   |ow ps=>
    obtain⟨a,vs,rfl,q1,q2,q3,q4,q5⟩:=q
    exact h1 _ F1 H1 (ē.Jp ⟨a,vs,rfl,q1,q2,q3,q5⟩ λ_ z=>V.ref.inj z▸q4) (Same.refl _)
   |ot ps qs rs=>
    obtain⟨p,a,xs,vs,ys,rfl,q0,qx,q1,q2,q3,q4,q5,q6⟩:=q
    exact h1 _ F1 H1 (ē.Jp (s:=.ot ps qs rs) ⟨p,a,xs,vs,ys,rfl,q0,qx,q1,q2,q3,q5,q6⟩ λ_ z=>gD (ps:=ps) (qs:=qs) (rs:=rs) z ⟨p,xs,ys,rfl,q0,qx.length.symm⟩▸q4) (Same.refl _)⟩
end
end P
namespace P
open PySem PySem.Spec PyProof.Rows L2 M2 M3 M4
section
variable{X:Cx}{cm:String->Addr}{K:KK}{E:L2.St->XK}{o e:Expr}{es:List Expr}{name:Str}{apos cpos:Pos}{id:String}{r:V->List V->Hp->VK->Prop}{f:PV->List PV->Option PV}{mo:M PV}{ms:M (List PV)}
end
end P
namespace P
open PySem PySem.Spec PyProof.Rows L2 M2 M3 M4
section
variable{X:Cx}{pins:List (Addr×Obj)}{σ:L2.St}{H:Hp}{s:Shared}{h':Heap}
end
section
variable{X:Cx}{elts:List Expr}{k:Nat}{tp:Pos}
end
def mLs(m:M PV):M (List PV):=λρ=>(m ρ).bind λp ρ1=>match p with
 | .lst ps=>.ok ps ρ1
 |_=>.bad
section
variable{X:Cx}{cm:String->Addr}{E:L2.St->XK}{e:Expr}{m:M PV}
@[simp] theorem Zdm{ρ:ĺ}:mLs m ρ=(m ρ).bind fun p ρ1=>match p with
  | .lst ps=>.ok ps ρ1
  |_=>.bad:=rfl
end
end P
namespace P
open PySem PySem.Spec PyProof.Rows L2 M2 M3 M4
def YZ{X:Cx}:PIp X .BitOr (ipI λi j=>Builtin.bitOr i j):=by
 intro pins s σ H x y v u Q I r1 r2 h
 obtain⟨i,j,e1,e2,q⟩:=h
 subst e1;subst e2
 obtain⟨t,rfl⟩:=r1
 obtain⟨t',rfl⟩:=r2
 exact ior_int ⟨.int _,H,I.tok _,⟨_,rfl⟩,q⟩
def uO(i:Nat)(m:M PV):M Fl:=λρ=>match ρ[i]? with
 |some (.sh (.int _))=>(m ρ).bind λq ρ1=>match ρ1[i]?,q with
  |some (.sh (.int k)),.int j=>.ok .nx (ρ1.set i (.sh (.int (Builtin.bitOr k j))))
  |_,_=>.bad
 |_=>.bad
@[simp] theorem Zbn{i:Nat}{m:M PV}{ρ:ĺ}:uO i m ρ=(match ρ[i]? with
  |some (.sh (.int _))=>(m ρ).bind λq ρ1=>match ρ1[i]?,q with
   |some (.sh (.int k)),.int j=>.ok .nx (ρ1.set i (.sh (.int (Builtin.bitOr k j))))
   |_,_=>.bad
  |_=>.bad):=rfl
section
variable{X:Cx}{cm:String->Addr}{E:L2.St->XK}{e a b:Expr}{m ma mb:M PV}{pos:Pos}
def rJ{K:KK}{F:Hp}{i:Int}{v:V}(h:Rep K F (.int i) v):v=.int i:=by unfold Rep at h;exact h
def Em{i:Nat}{x:Str}{pos':Pos}(hN:X.N.Nodup)(hi:X.N[i]?=some x)(hx:Loc X.env.scope x)(he:PE X e (tV (kk X cm) E m))(hf:X.fn x=true\/X.env.scope.names.lookup x=some .local:=by first|exact .inl rfl|exact .inr rfl|assumption) :
 PS X (.AugAssign (.Name x pos') .BitOr e pos) (tS (kk X cm) E (uO i m)):=PS.wk (RP hN hi hx he YZ hf) λD σ H ⟨c,F,ρ,rel,h⟩=>by
 unfold uO at h
 cases e1:ρ[i]? with
 |none=>rw[e1] at h;exact h.elim
 |some sl=>
  rw[e1] at h
  cases sl with
  |sh p=>
   cases p with
   |int k0=>
    obtain⟨v,h1,h2⟩:=rel.slot i _ e1
    cases rJ h2
    refine⟨.int k0,at_of h1,c,F,ρ,rel,Ū.bind h λq ρ1 u F1 H1 ē s1 rq h1'=>?_⟩
    cases e2:ρ1[i]? with
    |none=>simp only[e2] at h1';exact h1'.elim
    |some sl2=>
     simp only[e2] at h1'
     cases sl2 with
     |sh p2=>
      cases p2 with
      |int k=>
       cases q with
       |int j=>
        obtain⟨v2,w1,w2⟩:=ē.slot i _ e2
        cases rJ w2
        rw[h1] at w1
        cases w1
        cases rJ rq
        exact⟨k0,j,rfl,rfl,h1' _ F1 H1 (ē.put rfl ⟨_,rfl,Rep.int⟩) (Same.refl _)⟩
       |_=>exact h1'.elim
      |_=>exact h1'.elim
     |_=>exact h1'.elim
   |_=>exact h.elim
  |_=>exact h.elim
end
section
variable{X:Cx}{K:KK}
end
end P
namespace P
open PySem PySem.Spec PyProof.Rows L2 M2 M3 M4
section
variable{prog:Program}{w:World}{A:Around}{E:Value->Shared->Prop}{s:Shared}
end
section
variable{prog:Program}{w:World}{A:Around}{E:Value->Shared->Prop}{s:Shared}
end
section
variable{prog:Program}{w:World}{A:Around}{E:Value->Shared->Prop}{s:Shared}
end
def Lb(b:Bool)(h:Heap)(it l:Addr)(i:Nat):Prop:=if b=true then h.IsTupleIter it l i else h.IsListIter it l i
def nmB(b:Bool):String:=if b=true then "tuple_iterator" else "list_iterator"
def Lb.ex{b:Bool}{h:Heap}{it l:Addr}{i:Nat}(x:Lb b h it l i):∃o,h.get? it=some o/\o.cls=.type (nmB b)/\o.data=.fields #[.ref l,.int i 0]:=by
 cases b with
 |true=>exact x
 |false=>exact x
section
variable{X:Cx}{pins:List (Addr×Obj)}{σ:L2.St}{H:Hp}{s:Shared}
end
section
variable{prog:Program}{w:World}{A:Around}{E:Value->Shared->Prop}{s:Shared}
end
section
variable{X:Cx}{elts:List Expr}{k:Nat}{tp:Pos}
end
section
variable{X:Cx}{cm:String->Addr}{E:L2.St->XK}{e e2:Expr}
end
end P
namespace P
open PySem PySem.Spec PyProof.Rows L2 M2 M3 M4
def Y_(K:PySem.W.Frag)(neg:Bool):R2:=λx y H Q=>∃d es a xs,Rp K H d x/\y=.ref a/\(Ũ K H a xs\/cY K H a xs)/\jC K H es xs/\d.canLay0=true/\PyData.canLayAll0 es=true/\d.depth<=60/\Q (.bl (if neg then !(es.any λe=>PyData.eqv e d) else es.any λe=>PyData.eqv e d)) H
open Classical in
noncomputable def HJ(h:Heap)(d:PyData)(y:Value):Bool:=if ∃e as,Reads h y e as/\e.canLay0=true/\PyData.eqv e d=true then true else false
def En{h:Heap}{d e:PyData}{y:Value}{as:List Addr}(r:Reads h y e as)(hc:e.canLay0=true):HJ h d y=PyData.eqv e d:=by
 unfold HJ
 cases q:PyData.eqv e d with
 |true=>rw[if_pos ⟨e,as,r,hc,q⟩]
 |false=>
  rw[if_neg]
  rintro ⟨e',as',r',hc',q'⟩
  have:=SeqAt.Reads.unique e e' y as as' hc r r'
  subst this
  rw[q] at q'
  cases q'
theorem rK{h:Heap}{d:PyData}:∀{us:List Value} {es:List PyData} {as:List Addr},ReadsAll h us es as->PyData.canLayAll0 es=true->us.any (HJ h d)=es.any λe=>PyData.eqv e d
 |_,_,_,.nil,_=>rfl
 |_,_,_,.cons r rs,hc=>by
  unfold PyData.canLayAll0 at hc
  rw[Bool.and_eq_true] at hc
  rw[List.any_cons,List.any_cons,En r hc.1,rK rs hc.2]
theorem rM{A:Around}{s:Shared}{d:PyData}{v:Value}{bs:List Addr}(rv:Reads s.heap v d bs)(hd:d.canLay0=true)(hu:A.units+d.depth<cLine):∀{us:List Value} {es:List PyData} {as:List Addr},ReadsAll s.heap us es as->PyData.canLayAll0 es=true->∀u∈us,SeqAt.EqAt A s u v (HJ s.heap d u)
 |_,_,_,.nil,_=>λu hu=>by cases hu
 |_,_,_,.cons r rs,hc=>λu hm=>by
  unfold PyData.canLayAll0 at hc
  rw[Bool.and_eq_true] at hc
  rcases List.mem_cons.mp hm with rfl|hm
  ·rw[En r hc.1]
   exact SeqAt.eqAt_reads _ _ A s _ _ _ _ r rv hc.1 hd (by omega)
  ·exact rM rv hd hu rs hc.2 u hm
section
variable{X:Cx}
def Av(hu:X.A.units+64<cLine):ũ X (compareOp .NotIn) (Y_ X.K true):=by
 intro pins s σ H x y v u Q I rx ry h
 obtain⟨d,es,a,xs,h1,rfl,hq,h3,h4,h5,h6,q⟩:=h
 cases ry
 obtain⟨as,ra⟩:=Rp.reads I d x v h1 rx
 have hu1:X.A.in1.units+d.depth<cLine:=by
  have:X.A.in1.units=X.A.units+1:=rfl
  omega
 rcases hq with hq|hq
 ·obtain⟨its,r,pl,hz⟩:=I.list hq
  obtain⟨bs,rb⟩:=jC.reads I es xs its h3 r
  refine SeqAt.notIn_listAt (HJ s.heap d) pl.isList (λw hw=>rM ra h4 hu1 rb h5 w (by simpa using hw)) ⟨.bl _,H,I,rfl,?_⟩
  rw[show its.toArray.any (HJ s.heap d)=its.any (HJ s.heap d) by simp,rK rb h5]
  exact q
 ·obtain⟨its,r,pl,hz⟩:=I.tuple hq
  obtain⟨bs,rb⟩:=jC.reads I es xs its h3 r
  refine SeqAt.notIn_tupleAt (HJ s.heap d) pl (λw hw=>rM ra h4 hu1 rb h5 w (by simpa using hw)) ⟨.bl _,H,I,rfl,?_⟩
  rw[show its.toArray.any (HJ s.heap d)=its.any (HJ s.heap d) by simp,rK rb h5]
  exact q
end
def inD(neg:Bool)(p q:PV):Option PV:=match q with
 | .lst ps=>if ŭ p && ž ps && decide (dep p<=60) then some (.bl (if neg then !(ps.any λy=>eqB y p) else ps.any λy=>eqB y p)) else none
 | .tup ps=>if ŭ p && ž ps && decide (dep p<=60) then some (.bl (if neg then !(ps.any λy=>eqB y p) else ps.any λy=>eqB y p)) else none
 |_=>none
theorem rN{p:PV}(h:ŭ p=true):∀{ps:List PV},ž ps=true->(cR ps).any (λe=>PyData.eqv e (toD p))=ps.any λy=>eqB y p
 | [],_=>rfl
 |y::ps,hp=>by
  unfold ž at hp
  rw[Bool.and_eq_true] at hp
  unfold cR
  rw[List.any_cons,List.any_cons,rD y p hp.1 h,rN h hp.2]
def Uu{K:KK}{neg:Bool}:iZ K (Y_ K.K neg) (inD neg):=by
 intro c F H σ ρ p q pv v u Q rel r1 r2 e k
 unfold inD at e
 split at e
 ·rename_i ps
  split at e
  ·rename_i hc
   rw[Bool.and_eq_true,Bool.and_eq_true,decide_eq_true_eq] at hc
   cases e
   obtain⟨a,xs,rfl,h1,h2⟩:=r2.lst rel.sub
   refine⟨toD p,cR ps,a,xs,gG rel.sub hc.1.1 r1,rfl,.inl h1,jC.same rel.sub _ _ (gF ps xs hc.1.2 h2),dG p hc.1.1,fL ps hc.1.2,by rw[dH];exact hc.2,?_⟩
   rw[rN hc.1.1 hc.1.2]
   exact k _ F H rel (Same.refl _) (Same.refl _) Rep.bl
  ·cases e
 ·rename_i ps
  split at e
  ·rename_i hc
   rw[Bool.and_eq_true,Bool.and_eq_true,decide_eq_true_eq] at hc
   cases e
   obtain⟨a,xs,rfl,h1,h2⟩:=r2.tup rel.sub
   refine⟨toD p,cR ps,a,xs,gG rel.sub hc.1.1 r1,rfl,.inr h1,jC.same rel.sub _ _ (gF ps xs hc.1.2 h2),dG p hc.1.1,fL ps hc.1.2,by rw[dH];exact hc.2,?_⟩
   rw[rN hc.1.1 hc.1.2]
   exact k _ F H rel (Same.refl _) (Same.refl _) Rep.bl
  ·cases e
 ·cases e
end P
namespace P
open PySem PySem.Spec PyProof.Rows L2 M2 M3 M4
def lY{x:Int}{n:Nat}(h1: -(2 ^ n:Int)<x)(h2:x<2 ^ n):bits x<=n:=by
 refine intBits_le_iff.mpr ?_
 have e:((2 ^ n:Nat):Int)=(2:Int) ^ n:=by simp
 have:((x.natAbs:Nat):Int)<((2 ^ n:Nat):Int):=by rw[e];omega
 omega
def Z_{x y:Int}(h:y≠0)(h1: -18446744073709551616<y)(h2:y<18446744073709551616):gU x y=true:=zu h (Nat.le_trans (lY (n:=64) (by omega) (by omega)) (by decide))
@[simp] theorem Zbo{x:Int}{n:Nat}(h:n≠0)(h2:n<18446744073709551616):gU x (no_index (OfNat.ofNat n):Int)=true:=by
  have e:(no_index (OfNat.ofNat n):Int)=(n:Int):=rfl
  rw[e]
  exact Z_ (by omega) (by omega) (by omega)
@[simp] theorem Zaa{x:Int}{n:Nat}(h:n<18446744073709551616):ł x (no_index (OfNat.ofNat n):Int)=true:=by
  have e:(no_index (OfNat.ofNat n):Int)=(n:Int):=rfl
  rw[e]
  exact mul_r (by omega) (by omega)
@[simp] theorem Zab{x:Int}{n:Nat}(h:n<18446744073709551616):ł (no_index (OfNat.ofNat n):Int) x=true:=by
  have e:(no_index (OfNat.ofNat n):Int)=(n:Int):=rfl
  rw[e]
  exact ſ (by omega) (by omega)
@[simp] theorem Zbp{m n:Nat}(h:m<18446744073709551616)(h2:n≤1000000):uF (no_index (OfNat.ofNat m):Int) (no_index (OfNat.ofNat n):Int)=true:=by
  have e:(no_index (OfNat.ofNat m):Int)=(m:Int):=rfl
  have e2:(no_index (OfNat.ofNat n):Int)=(n:Int):=rfl
  rw[e,e2]
  unfold uF
  simp
  omega
@[simp] theorem Zac{x:Int}{n:Nat}:x.fdiv (no_index (OfNat.ofNat n):Int)=x / (no_index (OfNat.ofNat n):Int):=Int.fdiv_eq_ediv_of_nonneg x (Int.natCast_nonneg n)
@[simp] theorem Zad{x:Int}{n:Nat}:x.fmod (no_index (OfNat.ofNat n):Int)=x % (no_index (OfNat.ofNat n):Int):=Int.fmod_eq_emod_of_nonneg x (Int.natCast_nonneg n)
end P
namespace P
open PySem PySem.Spec PyProof.Rows L2 M2 M3 M4
def add_l{xs ys:List PV}(h:xs.length+ys.length<=16777216):ĝ (.lst xs) (.lst ys)=some (.ow (xs++ys)):=by
 unfold ĝ
 simp[h]
def Uv{x y z w:Int}:eqB (.tup [.int x,.int y]) (.tup [.int z,.int w])=(decide (x=z) && decide (y=w)):=by
 rw[eqB.eq_def]
 show dF [.int x,.int y] [.int z,.int w]=_
 rw[dF.eq_def]
 show(eqB (.int x) (.int z) && dF [.int y] [.int w])=_
 rw[dF.eq_def]
 show(eqB (.int x) (.int z) && (eqB (.int y) (.int w) && dF [] []))=_
 have h1:eqB (.int x) (.int z)=decide (x=z):=by rw[eqB.eq_def];rfl
 have h2:eqB (.int y) (.int w)=decide (y=w):=by rw[eqB.eq_def];rfl
 have h3:dF [] []=true:=by rw[dF.eq_def]
 rw[h1,h2,h3,Bool.and_true]
mutual
theorem uP:∀p:PV,ŭ p=true->eqB p p=true
 | .non,_=>by unfold eqB;rfl
 | .bl b,_=>by unfold eqB;simp
 | .int i,_=>by unfold eqB;simp
 | .str x,_=>by unfold eqB;simp
 | .lst xs,h=>by unfold ŭ at h;unfold eqB;exact jK xs h
 | .tup xs,h=>by unfold ŭ at h;unfold eqB;exact jK xs h
 | .ins _ _ _,h=>by simp[ŭ] at h
 | .xc _ _ _,h=>by simp[ŭ] at h
 | .ty _,h=>by simp[ŭ] at h
 | .cls _,h=>by simp[ŭ] at h
theorem jK:∀ps:List PV,ž ps=true->dF ps ps=true
 | [],_=>by unfold dF;rfl
 |p::ps,h=>by
  unfold ž at h
  rw[Bool.and_eq_true] at h
  unfold dF
  rw[uP p h.1,jK ps h.2]
  rfl
end
def jL{p:PV}(h:ŭ p=true)(hd:dep p<=60):ū p p=some (.bl false):=by
 unfold ū pC
 rw[h,uP p h,decide_eq_true (by omega:min (dep p) (dep p)<=60)]
 rfl
def cU{a b:Str}(ha:PyData.strOk a=true)(hb:PyData.strOk b=true):ŋ (.str a) (.str b)=some (.bl (decide (a=b))):=by
 have h:eqB (.str a) (.str b)=decide (a=b):=by unfold eqB;rfl
 unfold ŋ pC
 rw[show ŭ (.str a)=true by unfold ŭ;exact ha,show ŭ (.str b)=true by unfold ŭ;exact hb,h]
 rfl
end P
namespace P
open PySem PySem.Spec PyProof.Rows L2 M2 M3 M4
section
variable{g:Tg}{mb:M Fl}{mt:M Bool}{me:M PV}
theorem jM{α β:Type}(c:α->PV)(step:β->α->β)(J:β->ĺ->Prop):∀(xs:List α),(∀x∈xs,∀b ρ,J b ρ->∃ρ1 ρ2,g (c x) ρ=some ρ1/\mb ρ1=.ok .nx ρ2/\J (step b x) ρ2)->∀b ρ,J b ρ->∃ρ',forL g mb (xs.map c) ρ=.ok .nx ρ'/\J (xs.foldl step b) ρ'
 | [],_,b,ρ,h=>⟨ρ,rfl,h⟩
 |x::xs,hs,b,ρ,h=>by
  obtain⟨ρ1,ρ2,h1,h2,h3⟩:=hs x (by simp) b ρ h
  obtain⟨ρ',e,h4⟩:=jM c step J xs (λy hy=>hs y (List.mem_cons_of_mem _ hy)) (step b x) ρ2 h3
  refine⟨ρ',?_,h4⟩
  rw[List.map_cons,forL,h1]
  dsimp only
  rw[h2]
  exact e
theorem aV{α:Type}(c f:α->PV)(q:α->Bool)(I:ĺ->Prop):∀(xs:List α) (ρ:ĺ) (acc:List PV),I ρ->acc.length+xs.length<=16777216->
 (∀x∈xs,∀ρ,I ρ->∃ρ1 ρ2,g (c x) ρ=some ρ1/\mt ρ1=.ok (q x) ρ2/\(q x=false->I ρ2)/\(q x=true->∃ρ3,me ρ2=.ok (f x) ρ3/\I ρ3))->Ķ g mt me (xs.map c) ρ acc=some (acc++(xs.filter q).map f)
 | [],ρ,acc,_,_,_=>by simp[Ķ]
 |x::xs,ρ,acc,h,hz,hs=>by
  obtain⟨ρ1,ρ2,h1,h2,h3,h4⟩:=hs x List.mem_cons_self ρ h
  cases e:q x with
  |true=>
   obtain⟨ρ3,h5,h6⟩:=h4 e
   rw[e] at h2
   rw[List.map_cons,Ķ,h1]
   dsimp only
   rw[h2]
   dsimp only
   rw[h5]
   dsimp only
   rw[if_pos (by simp at hz;omega),aV c f q I xs ρ3 (acc ++ [f x]) h6 (by simp at hz ⊢;omega) λy hy=>hs y (List.mem_cons_of_mem _ hy)]
   simp[e]
  |false=>
   rw[e] at h2
   rw[List.map_cons,Ķ,h1]
   dsimp only
   rw[h2]
   dsimp only
   rw[aV c f q I xs ρ2 acc (h3 e) (by simp at hz ⊢;omega) λy hy=>hs y (List.mem_cons_of_mem _ hy)]
   simp[e]
end
end P
namespace P
open PySem PySem.Spec PyProof.Rows L2 M2 M3 M4
def Zc0(K:PySem.W.Frag)(n:Nat)(t:Bt):TG:=λv σ H Q=>∃a xs,v=.ref a/\Ũ K H a xs/\xs.length=n/\t xs σ H Q
section
variable{X:Cx}{cm:String->Addr}{pos:Pos}
def Uw{es:List Expr}{k:Nat}{t:Bt}{n:Nat}(hc:X.calm=true)(h:vK X es t)
 (hn:(assignEach es X.env).length=n:=by rfl)(hst:(assignEach es X.env).findIdx? (·.1)=none:=by rfl):PG X (.Tuple es k pos) (Zc0 X.K n t):=by
 intro pins s σ H v u Q I r hw
 obtain⟨a,xs,e1,hq,hl,hw⟩:=hw
 subst e1
 cases r
 obtain⟨its,rv,ht,hz⟩:=I.list hq
 rw[assign_Tuple]
 refine wpAny_bind (wpAny_standAt ?_)
 unfold unpack
 rw[show(assignEach es X.env).length=its.toArray.size by simp[hn,<-hl,rv.length],hst]
 refine wpAny_bind (wpAny_holding (PySem.W.kun_itemsOf (I.ok.hd hc) ht.isList λh' hx=>?_))
 have I1:Inv X pins σ H {s with heap:=h'}:=I.kept (t':=s.toks) λb o e=>hx b o (Nat.ne_of_lt (Heap.lt_size e)) e
 exact h pins _ σ H xs _ Q I1 (by simpa using rv) hw
def gS(n:Nat)(gs:Bh):Tg:=λp ρ=>match p with
 | .tup ps=>if ps.length=n then gs ps ρ else none
 | .lst ps=>if ps.length=n then gs ps ρ else none
 |_=>none
@[simp] theorem Zc1{n:Nat}{gs:Bh}{ps:List PV}{ρ:ĺ}:gS n gs (.tup ps) ρ=if ps.length=n then gs ps ρ else none:=rfl
@[simp] theorem Zc2{n:Nat}{gs:Bh}{ps:List PV}{ρ:ĺ}:gS n gs (.lst ps) ρ=if ps.length=n then gs ps ρ else none:=rfl
def Ld{es:List Expr}{k:Nat}{gs:Bh}{n:Nat}(hc:X.calm=true)(h:vK X es (Yw (kk X cm) gs))(hn:(assignEach es X.env).length=n:=by rfl)(hst:(assignEach es X.env).findIdx? (·.1)=none:=by rfl):PG X (.Tuple es k pos) (tT (kk X cm) (gS n gs)):=by
 intro pins s σ H v u Q I r hw
 obtain⟨c,F,ρ,p,rel,rp,hw⟩:=hw
 cases p with
 |tup ps=>
  unfold Rep at rp
  obtain⟨a,xs,h1,h2,h3⟩:=rp
  unfold gS at hw
  dsimp only at hw
  split at hw
  ·rename_i hl
   exact Bv hc h hn hst pins s σ H v u Q I r ⟨a,xs,h1,Same.tup rel.sub h2,by rw[<-h3.length];exact hl,c,F,ρ,ps,rel,h3,hw⟩
  ·exact hw.elim
 |lst ps=>
  unfold Rep at rp
  obtain⟨a,xs,h1,h2,h3⟩:=rp
  unfold gS at hw
  dsimp only at hw
  split at hw
  ·rename_i hl
   exact Uw hc h hn hst pins s σ H v u Q I r ⟨a,xs,h1,rel.sub.seq h2,by rw[<-h3.length];exact hl,c,F,ρ,ps,rel,h3,hw⟩
  ·exact hw.elim
 |_=>exact hw.elim
end
end P
namespace P
open PySem PySem.Spec PyProof.Rows L2 M2 M3 M4
def Res.Aw{α β γ:Type}(r:Res α)(f:α->ĺ->Res β)(g:β->ĺ->Res γ):(r.bind f).bind g=r.bind λa ρ=>(f a ρ).bind g:=by cases r<;>rfl
section
variable{X:Cx}{cm:String->Addr}{E:L2.St->XK}{a:Expr}{p p1 pos pos1:Pos}{mr:M (List PV)}
end
end P
namespace P
open PySem PySem.Spec PyProof.Rows L2 M2 M3 M4
def Rel.keep{K:KK}{c:Ctx}{F H H':Hp}{σ:L2.St}{ρ:ĺ}(r:Rel K c F H σ ρ)(e:Same H H'):Rel K c F H' σ ρ:= r.call ⟨e,Same.refl F,r.sub.trans e,λ_ _ h=>h⟩
def Rel.Ux{K:KK}{c:Ctx}{F H:Hp}{σ:L2.St}{ρ:ĺ}(r:Rel K c F H σ ρ){i:Nat}{ps qs rs:List PV}(e:ρ[i]?=some (.ot ps qs rs)):∃F',Same F F'/\Rel K c F' H σ (ρ.set i (.sh (.tup (ps ++ .lst qs::rs)))):=by
 obtain⟨p,a,xs,vs,ys,h1,h2,h3,h4,h5,h6,h7,h8⟩:=r.slot i _ e
 obtain⟨m1,m2⟩:=r.move (a:=a) ⟨_,_,e,at_of h1,p,xs,ys,rfl,h2,h3.length.symm⟩
 have ra:Rep K (upd F a (.lst vs)) (.lst qs) (.ref a):=by
  unfold Rep
  exact⟨a,vs,rfl,Ũ.of Ğ,h7.same (Same.upd h5) qs vs⟩
 have rp:Rep K (upd F a (.lst vs)) (.tup (ps ++ .lst qs::rs)) (.ref p):=by
  unfold Rep
  exact⟨p,_,rfl,cY.of (Same.upd h5 _ _ h2),ĕ.append (h3.same (Same.upd h5) ps xs) (ĕ.cons ra (h8.same (Same.upd h5) rs ys))⟩
 have q:=(m1.freeze h4 h6 h5 m2).yO (i:=i) (s:=.sh (.tup (ps ++ .lst qs::rs))) rfl (show ř K c _ H _ (.sh (.tup (ps ++ .lst qs::rs))) from⟨.ref p,by rw[at_of h1];rfl,rp⟩)
 rw[List.set_set] at q
 exact⟨_,Same.upd h5,q⟩
def ji(i:Nat)(m:M Bool):M Bool:=λρ=>match ρ[i]? with
 |some (.ot ps qs rs)=>match m (ρ.set i (.sh (.tup (ps ++ .lst qs::rs)))) with
  | .ok b _=>.ok b ρ
  |_=>.bad
 |_=>m ρ
section
variable{X:Cx}{cm:String->Addr}{E:L2.St->XK}{e o:Expr}{es:List Expr}{pos:Pos}{m:M Bool}{mo:M RV}{ma:M PV}
def wW(i:Nat)(h:PT X e (tB (kk X cm) E m)):PT X e (tB (kk X cm) E (ji i m)):=PT.wk h λσ H Q ⟨c,F,ρ,rel,h⟩=>by
 unfold ji at h
 cases e1:ρ[i]? with
 |none=>rw[e1] at h;exact⟨c,F,ρ,rel,h⟩
 |some s=>
  rw[e1] at h
  cases s with
  |ot ps qs rs=>
   obtain⟨F',sF,ŷ⟩:=rel.Ux e1
   refine⟨c,F',_,ŷ,?_⟩
   dsimp only at h
   cases em:m (ρ.set i (.sh (.tup (ps ++ .lst qs::rs)))) with
   |ok b ρ1=>rw[em] at h;exact λv F2 H2 r1 s1 s2 q=>h v F H2 (rel.keep s2) (Same.refl _) s2 q
   |exc x ρ1=>rw[em] at h;exact h.elim
   |bad=>rw[em] at h;exact h.elim
  |_=>exact⟨c,F,ρ,rel,h⟩
structure JW where
 ps:List PV
 r:RV
 rs:List PV
def rLO(K:KK):RR JW (List V):=λc σ ρ F H r vs=>∃xs v ys,vs=xs++v::ys/\ĕ K F r.ps xs/\rO K c σ ρ F H r.r v/\ĕ K F r.rs ys
def rP(ma:M PV)(mr:M JW):M JW:=λρ=>(ma ρ).bind λp ρ1=>(mr ρ1).bind λr ρ2=>.ok ⟨p::r.ps,r.r,r.rs⟩ ρ2
def zy{mr:M JW}(ha:PE X e (tV (kk X cm) E ma))(hr:PA X es (tG (kk X cm) E (rLO (kk X cm)) mr))(hs:starEach (e::es) X.env=(false,eval e X.env)::starEach es X.env:=by exact aM rfl):PA X (e::es) (tG (kk X cm) E (rLO (kk X cm)) (rP ma mr)):=
 PA.wk (aP ha hr hs) λσ H Q ⟨c,F,ρ,rel,h⟩=>⟨c,F,ρ,rel,h.bind λp ρ1 v F1 H1 ē _ _ r1 h1=>⟨c,F1,ρ1,ē,h1.bind λr ρ2 vs F2 H2 Ĳ sF sH ⟨xs,u,ys,e1,e2,e3,e4⟩ h2=>h2 _ F2 H2 Ĳ (Same.refl _) (Same.refl _) ⟨v::xs,u,ys,by rw[e1];rfl,ĕ.cons (Rep.same sF p v r1) e2,e3,e4⟩⟩⟩
def Eo(mo:M RV)(i:Nat):M JW:=λρ=>(mo ρ).bind λr ρ1=>match r,ρ1[i]? with
 | .ow qs,some (.ow ps)=>.ok ⟨[],.ow qs,[.lst ps]⟩ (ρ1.set i (.sh (.lst ps)))
 | .ow qs,some (.sh p)=>.ok ⟨[],.ow qs,[p]⟩ ρ1
 |_,_=>.bad
def Uy(i:Nat){x:Str}{px:Pos}(he:PE X e (tO (kk X cm) E mo))(hN:X.N[i]?=some x:=by rfl)(hv:yE X.env.scope x:=by first|exact Or.inl rfl|exact Or.inr (Or.inl rfl)|exact Or.inr (Or.inr rfl))(hd:(x== ("__debug__" :Str))=false:=by decide)
 (hcd:(x== ("__classdict__" :Str))=false:=by decide)(hs:starEach [e,.Name x px] X.env=(false,eval e X.env)::starEach [.Name x px] X.env:=by exact aM rfl)(hs2:starEach [.Name x px] X.env=(false,eval (.Name x px) X.env)::starEach [] X.env:=by exact aM rfl):PA X [e,.Name x px] (tG (kk X cm) E (rLO (kk X cm)) (Eo mo i)):=
 PA.wk (aP he (aP (eX hN hv hd hcd) jA hs2) hs) fun σ H Q ⟨c,F,ρ,rel,h⟩=>⟨c,F,ρ,rel,h.bind fun r ρ1 v F1 H1 ē _ _ r1 h1=>by
   cases r with
   |sh p=>exact h1.elim
   |ot _ _ _=>exact h1.elim
   |ow qs=>
    obtain⟨a,vs,rfl,q1,q2,q3,q4,q5⟩:=r1
    cases e1:ρ1[i]? with
    |none=>simp only[e1] at h1;exact h1.elim
    |some s=>
     simp only[e1] at h1
     cases s with
     |sh p=>
      obtain⟨u,z1,z2⟩:=ē.slot i _ e1
      exact⟨u,at_of z1,h1 _ F1 H1 ē (Same.refl _) (Same.refl _) ⟨[],.ref a,[u],rfl,ĕ.nil,⟨a,vs,rfl,q1,q2,q3,q4,q5⟩,ĕ.cons z2 ĕ.nil⟩⟩
     |ow ps=>
      obtain⟨b,us,z1,z2,z3,z4,z5,z6⟩:=ē.ow e1
      obtain⟨m1,m2⟩:=ē.move z6
      have nab:a≠b:=λz=>q4 i (z▸z6)
      have m3:=m1.freeze z2 z4 z3 m2
      have ra:Rep (kk X cm) (upd F1 b (.lst us)) (.lst ps) (.ref b):=by
       unfold Rep
       exact⟨b,us,rfl,Ũ.of Ğ,z5.same (Same.upd z3) ps us⟩
      have q:=m3.yO (i:=i) (s:=.sh (.lst ps)) rfl (show ř (kk X cm) c _ H1 _ (.sh (.lst ps)) from⟨.ref b,by rw[z1];rfl,ra⟩)
      rw[List.set_set] at q
      have fr:iY (upd F1 b (.lst us)) σ (ρ1.set i (.sh (.lst ps))) a:=by
       intro j hj
       obtain⟨s',y,y1,y2,y3⟩:=hj
       rcases Ź y1 with⟨_,rfl,_⟩|⟨_,y1⟩
       ·exact y3.elim
       ·exact ē.jF (Same.upd z3) q4 j ⟨s',y,y1,y2,y3⟩
      exact⟨.ref b,z1,h1 _ (upd F1 b (.lst us)) H1 q (Same.upd z3) (Same.refl _) ⟨[],.ref a,[.ref b],rfl,ĕ.nil,⟨a,vs,rfl,q1,by rw[ę nab];exact q2,q3,fr,q5.same (Same.upd z3) qs vs⟩,ĕ.cons ra ĕ.nil⟩⟩
     |_=>exact h1.elim⟩
def Ep(mr:M JW):M RV:=λρ=>(mr ρ).bind λr ρ1=>if r.ps.length+r.rs.length<16777216 then(match r.r with
 | .ow qs=>.ok (.ot r.ps qs r.rs) ρ1
 | .sh p=>.ok (.sh (.tup (r.ps++p::r.rs))) ρ1
 |_=>.bad) else .bad
def Uz{x1}{mr:M JW}(h:PA X es (tG (kk X cm) E (rLO (kk X cm)) mr)):PE X (.Tuple es x1 pos) (tO (kk X cm) E (Ep mr)):=PE.wk (BX h) λσ H Q ⟨c,F,ρ,rel,h⟩=>
 ⟨c,F,ρ,rel,h.bind fun r ρ1 vs F1 H1 ē _ _ ⟨xs,v,ys,e1,e2,e3,e4⟩ h1=>by
   subst e1
   split at h1
   ·rename_i hz
    refine⟨by rw[List.length_append,<-e2.length,ĳ];simp only[List.length_cons,<-e4.length];omega,λp hp=>?_⟩
    have Ĳ:=ē.alloc (o:=.tup (xs++v::ys)) hp
    have sF:Same F1 (upd F1 p (.tup (xs++v::ys))):=Same.upd (ē.sub.free hp)
    obtain⟨ps,rv,rs⟩:=r
    cases rv with
    |sh q=>
     refine h1 _ _ _ Ĳ sF (Same.upd hp) ?_
     show Rep _ _ _ _
     unfold Rep
     exact⟨p,_,rfl,cY.of Ğ,ĕ.append (e2.same sF ps xs) (ĕ.cons (Rep.same sF q v e3) (e4.same sF rs ys))⟩
    |ow qs=>
     obtain⟨a,vs,rfl,q1,q2,q3,q4,q5⟩:=e3
     have na:a≠p:=λz=>by rw[z,hp] at q1;cases q1
     exact h1 _ _ _ Ĳ sF (Same.upd hp) ⟨p,a,xs,vs,ys,rfl,Ğ,e2.same sF ps xs,by rw[ę na];exact q1,by rw[ę na];exact q2,q3,ē.jF sF q4,q5.same sF qs vs,e4.same sF rs ys⟩
    |ot _ _ _=>exact h1.elim
   ·exact h1.elim⟩
def uQ(i j:Nat)(m:M PV):M Fl:=λρ=>match ρ[i]? with
 |some (.ot ps _ _)=>if ps.length=j then(m ρ).bind λp ρ1=>match ρ1[i]? with
  |some (.ot ps' qs rs)=>if ps'.length=j/\qs.length<16777216 then .ok .nx (ρ1.set i (.ot ps' (qs ++ [p]) rs)) else .bad
  |_=>.bad
  else .bad
 |_=>.bad
def Er{xs ys:List V}{v:V}{j:Nat}(h:xs.length=j):lA (xs++v::ys) (j:Int)=some v:=by
 subst h
 have h1:((xs.length:Nat):Int)<((xs++v::ys).length:Int):=by simp;omega
 unfold lA Ce
 rw[if_pos (by omega),if_pos h1]
 simp
def Es{i j:Nat}{D:Ends}{σ:L2.St}{H:Hp}(h:tS (kk X cm) E (uQ i j ma) D σ H):Bq (tBM X.K "list" qU (RX (rIx X.K) (zX i) (tC (.int j))) (tL (kk X cm) E (ą ma ė))) D σ H:=by
 obtain⟨c,F,ρ,rel,h⟩:=h
 unfold uQ at h
 cases e1:ρ[i]? with
 |none=>rw[e1] at h;exact h.elim
 |some sl=>
  rw[e1] at h
  cases sl with
  |ot ps0 qs0 rs0=>
   obtain⟨p,a,xs,vs0,ys,z1,z2,z3,z4,z5,z6,z7,z8⟩:=rel.slot i _ e1
   dsimp only at h
   split at h
   ·rename_i hj
    refine⟨.ref p,at_of z1,.inr (.inl ⟨p,xs ++ .ref a::ys,(j:Int),.ref a,rfl,rfl,cY.of (rel.sub _ _ z2),Er (by rw[<-z3.length];exact hj),.inl ⟨rfl,_,Ũ.of z4⟩,c,F,ρ,rel,?_⟩)⟩
    unfold ą
    cases em:ma ρ with
    |bad=>rw[em] at h;exact h
    |exc x ρ1=>rw[em] at h;exact λC d F' H' ŷ s1 q=>h σ C d F' H' ŷ s1 q
    |ok p1 ρ1=>
     rw[em] at h
     intro us F1 H1 ē s1 s2 r1
     have r1':ĕ (kk X cm) F1 [p1] us:=r1
     cases r1'.pr with
     |cons rp t=>
      rename_i v vs'
      cases t
      cases e2:ρ1[i]? with
      |none=>simp only[Res.Ŭ,e2] at h;exact h.elim
      |some sl2=>
       simp only[Res.Ŭ,e2] at h
       cases sl2 with
       |ot ps qs rs=>
        obtain⟨p2,a2,xs2,vs,ys2,w1,w2,w3,w4,w5,w6,w7,w8⟩:=ē.slot i _ e2
        have own:Ļ F1 σ ρ1 i a2:=⟨_,_,e2,at_of w1,p2,xs2,ys2,rfl,w2,w3.length.symm⟩
        have e3:=at_of z1
        rw[at_of w1] at e3
        have e3':p2=p:=by injection e3 with e3;injection e3 with e3;injection e3
        subst e3'
        dsimp only at h
        split at h
        ·rename_i hz
         have hlen:xs.length=ps.length:=by rw[hz.1,<-hj,z3.length]
         have e4:a2=a:=gD (ps:=ps) (qs:=qs) (rs:=rs) (x:=.ref p2) ⟨p2,xs2,ys2,rfl,w2,w3.length.symm⟩ ⟨p2,xs,ys,rfl,s1 _ _ z2,hlen⟩
         subst e4
         refine⟨a2,vs,v,rfl,rfl,w4,by rw[<-w7.length,ĳ];exact hz.2,h σ F1 _ (ē.Dh own ⟨p2,a2,xs2,vs ++ [v],ys2,w1,w2,w3,Ğ,w5,w6,ĕ.append w7 (ĕ.cons rp ĕ.nil),w8⟩ λx b ex q=>?_) s1⟩
         rw[at_of w1] at ex
         cases ex
         rw[gD (ps:=ps) (qs:=qs ++ [p1]) (rs:=rs) q ⟨p2,xs2,ys2,rfl,w2,w3.length.symm⟩]
         exact own
        ·exact h.elim
       |_=>exact h.elim
   ·exact h.elim
  |_=>exact h.elim
@[simp] theorem Zc3{ps qs rs:List PV}:(RV.ot ps qs rs).val=.tup (ps ++ .lst qs::rs):=rfl
@[simp] theorem Zc4{ps qs rs:List PV}:(RV.ot ps qs rs).slot=.ot ps qs rs:=rfl
@[simp] theorem Zbq{i:Nat}{ρ:ĺ}:ji i m ρ=(match ρ[i]? with
  |some (.ot ps qs rs)=>match m (ρ.set i (.sh (.tup (ps ++ .lst qs::rs)))) with
   | .ok b _=>.ok b ρ
   |_=>.bad
  |_=>m ρ):=rfl
@[simp] theorem Zae{mr:M JW}{ρ:ĺ}:rP ma mr ρ=(ma ρ).bind λp ρ1=>(mr ρ1).bind λr ρ2=>.ok ⟨p::r.ps,r.r,r.rs⟩ ρ2:=rfl
@[simp] theorem Zbr{i:Nat}{ρ:ĺ}:Eo mo i ρ=(mo ρ).bind fun r ρ1=>match r,ρ1[i]? with
  | .ow qs,some (.ow ps)=>.ok ⟨[],.ow qs,[.lst ps]⟩ (ρ1.set i (.sh (.lst ps)))
  | .ow qs,some (.sh p)=>.ok ⟨[],.ow qs,[p]⟩ ρ1
  |_,_=>.bad:=rfl
@[simp] theorem Zaf{mr:M JW}{ρ:ĺ}:Ep mr ρ=(mr ρ).bind fun r ρ1=>if r.ps.length+r.rs.length<16777216 then(match r.r with
  | .ow qs=>.ok (.ot r.ps qs r.rs) ρ1
  | .sh p=>.ok (.sh (.tup (r.ps++p::r.rs))) ρ1
  |_=>.bad) else .bad:=rfl
@[simp] theorem Zbs{i j:Nat}{ρ:ĺ}:uQ i j ma ρ=(match ρ[i]? with
  |some (.ot ps _ _)=>if ps.length=j then(ma ρ).bind λp ρ1=>match ρ1[i]? with
   |some (.ot ps' qs rs)=>if ps'.length=j/\qs.length<16777216 then .ok .nx (ρ1.set i (.ot ps' (qs ++ [p]) rs)) else .bad
   |_=>.bad
   else .bad
  |_=>.bad):=rfl
end
end P
namespace P
open PySem PySem.Spec PyProof.Rows L2 M2 M3 M4
section
variable{X:Cx}{K:KK}
end
end P
namespace P
open PySem PySem.Spec PyProof.Rows L2 M2 M3 M4
section
variable{K:KK}{c c':Ctx}{F F' H H':Hp}{σ:L2.St}{ρ:ĺ}
end
section
variable{X:Cx}{cm:String->Addr}{E:L2.St->XK}{elt tg iter:Expr}{ifs:List Expr}{scope:Scope}{pos:Pos}{mi:M (List PV)}{g:Tg}{mt:M Bool}{me:M RV}
end
section
variable{K:KK}{c:Ctx}{F H:Hp}{σ:L2.St}{ρ:ĺ}
end
section
variable{X:Cx}{cm:String->Addr}{E:L2.St->XK}{e:Expr}{es:List Expr}{m:M Bool}{mv:M PV}{ms:M (List Slot)}
end
end P
namespace P
open PySem PySem.Spec PyProof.Rows L2 M2 M3 M4
section
variable{X:Cx}{K:KK}
end
section
variable{ρ:ĺ}{i x j:Nat}{m:M Bool}{mv:M PV}{ms:M (List Slot)}{mp:M (List (List PV))}{g:Tg}{mt:M Bool}{me:M RV}{mi:M (List PV)}{js:List Nat}{nl:Nat}
end
end P
namespace P
open PySem PySem.Spec PyProof.Rows L2 M2 M3 M5
def lamP(js:List Nat)(ρ:ĺ)(p:PV):ĺ:=js.map (λ(j:Nat)=>Ų ((ρ[j]?).getD .no)) ++ [.sh p]
def uR(js:List Nat)(me:M PV)(ρ:ĺ):List PV->Option (List Int)
 | []=>some []
 |p::ps=>match me (lamP js ρ p) with
  | .ok (.int k) _=>(uR js me ρ ps).map (k:: ·)
  |_=>none
def cg(p:PV)(k:Int):List PV->List Int->PV
 |q::qs,m::ms=>if m<k then cg q m qs ms else cg p k qs ms
 |_,_=>p
def rQ:List PV->List Int->Option PV
 |p::ps,k::ks=>some (cg p k ps ks)
 |_,_=>none
theorem qj{js:List Nat}{me:M PV}{ρ:ĺ}:∀{items:List PV} {ks:List Int},uR js me ρ items=some ks->ks.length=items.length/\∀(k:Nat) (p:PV),items[k]?=some p->∃ρ',me (lamP js ρ p)=.ok (.int (ks.getD k 0)) ρ'
 | [],ks,h=>by
   cases(show some []=some ks from h)
   exact⟨rfl,λk p z=>by simp at z⟩
 |q::r,ks,h=>by
  have h':(match me (lamP js ρ q) with
   | .ok (.int k) _=>(uR js me ρ r).map (k:: ·)
   |_=>none)=some ks:=h
  split at h'
  ·rename_i k ρ' e
   cases e2:uR js me ρ r with
   |none=>rw[e2] at h';cases h'
   |some ks'=>
    rw[e2] at h'
    cases(show some (k::ks')=some ks from h')
    obtain⟨h1,h2⟩:=qj e2
    refine⟨by simp[h1],λn p hp=>?_⟩
    cases n with
    |zero=>
     simp at hp
     subst hp
     exact⟨ρ',e⟩
    |succ n=>
     simp at hp
     simpa using h2 n p hp
  ·cases h'
theorem bN:∀{qs:List PV} {ms:List Int} {p:PV} {k:Int} {i:Nat} {x:PV},ms.length=qs.length->(p::qs)[i]?=some x->(∀j,j<(p::qs).length->(k::ms).getD i 0<=(k::ms).getD j 0/\(j<i->(k::ms).getD i 0<(k::ms).getD j 0))->cg p k qs ms=x
 | [],[],p,k,i,x,_,hx,_=>by
   cases i with
   |zero=>simpa[cg] using hx
   |succ i=>simp at hx
 | [],_::_,_,_,_,_,h,_,_=>by simp at h
 |_::_,[],_,_,_,_,h,_,_=>by simp at h
 |q::qs,m::ms,p,k,i,x,hl,hx,hb=>by
  have hl':ms.length=qs.length:=by simpa using hl
  unfold cg
  by_cases hm:m<k
  ·rw[if_pos hm]
   cases i with
   |zero=>
    have:=(hb 1 (by simp)).1
    simp at this
    omega
   |succ i=>
    refine bN (i:=i) hl' (by simpa using hx) λj hj=>?_
    have:=hb (j+1) (by simpa using hj)
    refine⟨by simpa using this.1,λhji=>by simpa using this.2 (by omega)⟩
  ·rw[if_neg hm]
   cases i with
   |zero=>
    refine bN (i:=0) hl' (by simpa using hx) λj hj=>?_
    cases j with
    |zero=>exact⟨Int.le_refl _,λz=>absurd z (Nat.lt_irrefl _)⟩
    |succ j=>
     have:=hb (j+1+1) (by simpa using hj)
     exact⟨by simpa using this.1,λz=>absurd z (by omega)⟩
   |succ i=>
    cases i with
    |zero=>
     have:=(hb 0 (by simp)).2 (by omega)
     simp at this
     omega
    |succ i=>
     refine bN (i:=i+1) hl' (by simpa using hx) λj hj=>?_
     cases j with
     |zero=>
      have:=hb 0 (by simp)
      exact⟨by simpa using this.1,λ_=>by simpa using this.2 (by omega)⟩
     |succ j=>
      have:=hb (j+1+1) (by simpa using hj)
      exact⟨by simpa using this.1,λz=>by simpa using this.2 (by omega)⟩
def rT{items:List PV}{ks:List Int}{i:Nat}{x b:PV}(hl:ks.length=items.length)(h:rQ items ks=some b)(hx:items[i]?=some x)(hb:∀j,j<items.length->ks.getD i 0<=ks.getD j 0/\(j<i->ks.getD i 0<ks.getD j 0)):b=x:=by
 cases items with
 |nil=>simp at hx
 |cons p ps=>
  cases ks with
  |nil=>simp at hl
  |cons k ks=>
   have h':cg p k ps ks=b:=Option.some.inj h
   rw[<-h']
   exact bN (by simpa using hl) hx hb
section
variable{K:KK}{c:Ctx}{F H:Hp}{σ:L2.St}{ρ:ĺ}
theorem Gr.refl(s:Same F H):Gr F H F H:=⟨Same.refl _,Same.refl _,s,λ_ _ z=>z⟩
theorem Gr.trans{F1 H1 F2 H2:Hp}(a:Gr F H F1 H1)(b:Gr F1 H1 F2 H2):Gr F H F2 H2:=
 ⟨a.h.trans b.h,a.f.trans b.f,b.sub,fun x hx hf=>b.out x (fun z=>by
   cases q:H x with
   |none=>exact hx q
   |some u=>rw[a.h x u q] at z;cases z) (a.out x hx hf)⟩
def Rel.lam(js:List Nat)(rel:Rel K c F H σ ρ){p:PV}{v:V}(hp:Rep K F p v):Rel K (ctx0 F H) F H (cJ js σ v) (lamP js ρ p) where
 sub:=rel.sub
 base:=Same.refl _
 f0:=Same.refl _
 cX:=λ_ _ z=>z
 lent:=λa u e=>bY e
 lb:=fun a e=>by
   cases q:(ctx0 F H).L a with
   |none=>rfl
   |some u=>
    have e':H a=none:=e
    rw[(bY q).1] at e'
    cases e'
 len:=by simp[cJ,lamP]
 slot:= λi s e=>by
  unfold lamP at e
  by_cases hi:i<js.length
  ·rw[List.getElem?_append_left (by simpa using hi),List.getElem?_map] at e
   cases ej:js[i]? with
   |none=>rw[ej] at e;cases e
   |some j=>
    rw[ej] at e
    have e':Ų ((ρ[j]?).getD .no)=s:=Option.some.inj e
    subst e'
    have hx:((cJ js σ v)[i]?).getD none=(σ[j]?).getD none:=by
     unfold cJ
     rw[List.getElem?_append_left (by simpa using hi),List.getElem?_map,ej]
     rfl
    rw[hx]
    cases er:ρ[j]? with
    |none=>trivial
    |some sl=>
     have q:=rel.slot j sl er
     cases sl with
     |no=>trivial
     |sh p=>exact q
     |ow ps=>
      obtain⟨a,vs,h1,h2,h3,h4,h5⟩:=q
      refine⟨a,vs,h1,?_,h5⟩
      show(match F a with|none=>H a|some _=>none)=_
      rw[h3]
      exact h2
     |bw ps=>
      obtain⟨a,vs,h1,h2,h3⟩:=q
      obtain⟨l1,l2⟩:=rel.lent a _ h2
      refine⟨a,vs,h1,?_,h3⟩
      show(match F a with|none=>H a|some _=>none)=_
      rw[l2]
      exact l1
     |rc C ns ps=>trivial
     |ot ps qs rs=>trivial
     |ol Bg=>trivial
  ·have hi2:i=js.length:=by
    have l2:=(List.getElem?_eq_some_iff.mp e).1
    simp at l2
    omega
   subst hi2
   rw[List.getElem?_append_right (by simp)] at e
   have e':Slot.sh p=s:=by simpa using e
   subst e'
   have hx:((cJ js σ v)[js.length]?).getD none=some v:=by
    unfold cJ
    rw[List.getElem?_append_right (by simp)]
    simp
   rw[hx]
   exact⟨v,rfl,hp⟩
 sep:=λi j a h1 _=>by
  exfalso
  obtain⟨s,y,h1,_,h2⟩:=h1
  have h2:=jE h2
  unfold lamP at h1
  by_cases hi:i<js.length
  ·rw[List.getElem?_append_left (by simpa using hi),List.getElem?_map] at h1
   cases ej:js[i]? with
   |none=>rw[ej] at h1;cases h1
   |some j=>
    rw[ej] at h1
    have e':Ų ((ρ[j]?).getD .no)=s:=Option.some.inj h1
    subst e'
    cases er:ρ[j]? with
    |none=>rw[er] at h2;cases h2
    |some sl=>rw[er] at h2;cases sl<;>cases h2
  ·have hi2:i=js.length:=by
    have l2:=(List.getElem?_eq_some_iff.mp h1).1
    simp at l2
    omega
   subst hi2
   rw[List.getElem?_append_right (by simp)] at h1
   have e':Slot.sh p=s:=by simpa using h1
   subst e'
   cases h2
end
section
variable{X:Cx}{cm:String->Addr}{E:L2.St->XK}{x px:Str}{c Pt:Addr}{params:Arguments}{body e:Expr}{scope:Scope}{p pos Ao kpos:Pos}{mr:M (List PV)}{me:M PV}
end
def UG(K:PySem.W.Frag)(x:Str)(f:Addr):Bool:=PySem.W.nsIn K mainGlobals x== some (some (.ref f)) && (PySem.W.tabIn K x).isSome
section
variable{P:Program}{w:World}{K:PySem.W.Frag}{cm:String->Addr}{mg:Str->Option Value}{base:Heap}{CX:jB}
def JX{x qual:Str}{st:Stmt}{f:Addr}{fd:FuncData}(F:Cj K x qual st f fd){c Pt:Addr}(h:PySem.W.nsIn K mainGlobals x=some (some (.ref f)))(ht:PySem.W.tabIn K x=some (c,Pt)):fd.code=.ref c:=by
 obtain⟨oc,od,kV,doc,pm,an,cdv,ct,osl,rfl,lk,hcd⟩:=F.ex
 unfold PySem.W.tabIn at ht
 split at ht
 ·rename_i f2 hf
  rw[h] at hf
  cases hf
  split at ht
  ·rename_i hfo
   rw[lk] at hfo
   cases hfo
   split at ht
   ·rename_i c2 hc
    split at ht
    ·split at ht
     ·cases ht
      exact hc
     ·cases ht
    ·cases ht
   ·cases ht
  ·cases ht
 ·cases ht
def Zc5{x qual:Str}{st:Stmt}{f:Addr}{fd:FuncData}{N ps:List Str}{k n j:Nat}{mb:M Fl}{mf:MF}(F:Cj K x qual st f fd)(S:Ē N ps (ć st))(hn:ps.length=n)(hj:N.length=j)(hf:mf=İ n j mb)(htb:UG K x f=true)
 (hbody:∀(c Pt:Addr),PySem.W.tabIn K x=some (c,Pt)→∀(A:Around) (outer:List Env) (s:Shared) (H:Hp) (E:XK),Ř k (A.deeper (envOfC qual (ć st) s.heap.objs.size f (.ref c)))→
   gK (o_ CX P w K mg base N qual (ć st) f (.ref c) A outer s H E) (Œ st) (tS ⟨K,cm⟩ (λ_=>E) mb)):Ħ P w K mg base CX (k+1) f fd ps (ţ ⟨K,cm⟩ n mf):=by
 subst hn hj hf
 unfold UG at htb
 simp only[Bool.and_eq_true,beq_iff_eq] at htb
 obtain⟨h1,h2⟩:=htb
 obtain⟨⟨c,Pt⟩,ht⟩:=Option.isSome_iff_exists.mp h2
 have hc:=JX F h1 ht
 obtain⟨oc,od,kV,doc,pm,an,cdv,ct,osl,rfl,lk,hcd⟩:=id F.ex
 have hc':cdv=.ref c:=hc
 subst hc'
 refine BZ lk hcd S (λvs H Q E ⟨F,ps',h1,_,h2,_⟩=>by rw[<-Paired.length h2];exact h1) λA outer s H vs Q E hr hsp=>?_
 obtain⟨F,ps',h1,h2,h3,h4⟩:=hsp
 refine⟨_,hbody c Pt ht A outer s H E hr,ctx0 F H,F,startP N.length ps',Rel.start h2 h3,?_⟩
 unfold İ at h4
 rw[if_pos h1] at h4
 cases e:mb (startP N.length ps') with
 |bad=>rw[e] at h4;exact h4
 |exc x ρ'=>rw[e] at h4;exact λσ' C d F' H' rel s1 q=>h4 C d F' H' rel.gr q
 |ok fl ρ'=>
  rw[e] at h4
  cases fl with
  |nx=>exact λσ' F' H' rel s1=>h4 .non F' H' rel.gr (Rep.non (K:=⟨K,cm⟩) (F:=F'))
  |bk=>exact h4.elim
  |ct=>exact h4.elim
  |rt r=>
   intro v σ' F' H' rel s1 q
   refine h4 v F' H' rel.gr ?_
   cases r with
   |sh p=>exact q
   |ow qs=>
    obtain⟨a,vs',e1,e2,e3,e4,_,e5⟩:=q
    exact⟨a,vs',e1,e2,e3,e4,e5⟩
   |ot qs ts rs=>
    obtain⟨p,a,xs,vs',ys,e1,e0,ex,e2,e3,e4,_,e5⟩:=q
    exact⟨p,a,xs,vs',ys,e1,e0,ex,e2,e3,e4,e5⟩
end
section
variable{js:List Nat}{me:M PV}{mr:M (List PV)}{ρ:ĺ}
end
end P
namespace P
open PySem PySem.Spec PyProof.Rows L2 M2 M3 M5
end P
namespace P
open PySem PySem.Spec PyProof.Rows L2 M2 M3 M5
section
variable{X:Cx}{cm:String->Addr}{E:L2.St->XK}{CX:jB}{k n:Nat}{f:Addr}{fd:FuncData}{ps:List Str}{mf:MF}{mr:M (List Slot)}{x:Str}{p pos:Pos}{e:Expr}{es:List Expr}{ds:List Value}{dvs:List V}{dps:List Slot}
end
end P
namespace P
open PySem PySem.Spec PyProof.Rows L2 M2 M3 M5
def BN:Nat->(List Value->Prop)->Prop
 |0,p=>p []
 |n+1,p=>∀u,BN n λus=>p (u::us)
theorem rW:∀{n:Nat} {p:List Value->Prop},BN n p->∀us,us.length=n->p us
 |0,p,h,[],_=>h
 |0,p,h,_::_,e=>by cases e
 |n+1,p,h,[],e=>by cases e
 |n+1,p,h,u::us,e=>rW (h u) us (Nat.succ.inj e)
structure Df(K:PySem.W.Frag)(mg:Str->Option Value)(x:Str)(st:Stmt)(ps:List Str)(f:Addr)(fd:FuncData):Prop where
 F:Cj K x x st f fd
 m:mg x=some (.ref f)
 b:Binds K fd ps []
 bb:∀(s:Shared) (us:List Value),us.length=ps.length->BindsTo s fd ⟨us,[]⟩ (ps.zip us)
structure Dm(K:PySem.W.Frag)(C:Addr)(x q:Str)(st:Stmt)(ps:List Str)(f:Addr)(fd:FuncData):Prop where
 F:Cj K x q st f fd
 b:Binds K fd ps []
section
variable{K:PySem.W.Frag}{h:Heap}{mg:Str->Option Value}{x q:Str}{st:Stmt}{ps:List Str}{f C:Addr}{oc kV dc pm cd ct:Value}{od an:Option Addr}{sl:Array (Option Value)}
def ī(X:K.In h)(G:h.Ns mainGlobals mg)(hb:∀(kV dc pm:Value) (an:Option Addr) (cd ct:Value),BN ps.length λus=>bindArgs (PySem.W.fnOf x x (ao st) (Œ st) (ć st) .none kV dc pm an cd ct) ⟨us,[]⟩=pure (ps.zip us))
 (a:PySem.W.nsIn K mainGlobals x=some (some (.ref f)))(l:K.lookup f=some ⟨oc,od,.func (PySem.W.fnOf x x (ao st) (Œ st) (ć st) .none kV dc pm an cd ct),sl⟩)(c:PySem.W.codeIn K cd x=true)(k:PySem.W.keepIn K (.ref f)=true) :
 Df K mg x st ps f (PySem.W.fnOf x x (ao st) (Œ st) (ć st) .none kV dc pm an cd ct):=
 have F:=Ck (st:=st) l c k
 ⟨F,PySem.W.mg_of X G a,F.binds λkV dc pm an cd ct us hl=>rW (hb kV dc pm an cd ct) us hl,λs us hl=>.of_eq (rW (hb kV dc pm an cd ct) us hl)⟩
def nA(hb:∀(kV dc pm:Value) (an:Option Addr) (cd ct:Value),BN ps.length λus=>bindArgs (PySem.W.fnOf x q (ao st) (Œ st) (ć st) .none kV dc pm an cd ct) ⟨us,[]⟩=pure (ps.zip us))
 (a:PySem.W.findIn K (.ref C) x=some (some (.ref f)))(l:K.lookup f=some ⟨oc,od,.func (PySem.W.fnOf x q (ao st) (Œ st) (ć st) .none kV dc pm an cd ct),sl⟩)(c:PySem.W.codeIn K cd q=true)(k:PySem.W.keepIn K (.ref f)=true) :
 Dm K C x q st ps f (PySem.W.fnOf x q (ao st) (Œ st) (ć st) .none kV dc pm an cd ct):=
 have F:=Ck (st:=st) l c k
 ⟨F,F.binds λkV dc pm an cd ct us hl=>rW (hb kV dc pm an cd ct) us hl⟩
end
end P
namespace P
open PySem PySem.Spec PyProof.Rows L2 M2 M3 M5
def ż{N ps:List Str}{sc:Scope}(h1:sc.kind=.function:=by rfl)(h2:sc.isCoroutine=false:=by rfl)(h3:sc.isGenerator=false:=by rfl)(h4:N.Nodup:=by decide +kernel)(h5:N.take ps.length=ps:=by rfl)(h6:∀x∈ps,sc.names.lookup x=some .local\/sc.names.lookup x=some .cell:=by decide +kernel)
 (h7:∀y∈sc.names,y.2≠ .free:=by decide +kernel):Ē N ps sc:=⟨h1,h2,h3,h4,h5,h6,h7⟩
section
variable{X:Cx}{cm:String->Addr}{E:L2.St->XK}{CX:jB}{k j n:Nat}{f:Addr}{fd:FuncData}{ps:List Str}{mf:MF}{mr:M (List Slot)}{x:Str}{st:Stmt}{p pos:Pos}{e:Expr}{es:List Expr}
def ĉ(F:Ħ X.prog X.w X.K X.mg X.base CX k f fd ps (ţ (kk X cm) n mf))(D:Df X.K X.mg x st ps f fd)(hr:Ř j X.A)(hx:dD CX X E)
 (ha:PA X (e::es) (tA (kk X cm) E mr))(hlen:∀{ps:List Slot},(∃r,mf ps=r/\∀z,r=z->z≠ .bad)->ps.length=n:=by exact cP)(hg:Gl X x:=by rfl)(hkj:k<=j:=by decide)(hdb:(x== ("__debug__" :Str))=false:=by decide)(he:starEach (e::es) X.env=(false,eval e X.env)::starEach es X.env:=by exact aM rfl)(hpl:(backTo pos (starEach es X.env)).any (·.1)=false:=by rfl) :
 PE X (.Call (.Name x p) (e::es) [] pos) (tO (kk X cm) E (č mf mr)):=Ue F hlen (hr.mono hkj) hg D.m D.F.kp D.b hx ha hdb he hpl
end
section
variable{Pg:Program}{w:World}{K:PySem.W.Frag}{mg:Str->Option Value}{base:Heap}{CX:jB}{cm:String->Addr}
def ĸ{x qual:Str}{st:Stmt}{f:Addr}{fd:FuncData}{N ps:List Str}{k n j:Nat}{mb:M Fl}{mf:MF}(F:Cj K x qual st f fd)(S:Ē N ps (ć st))
 (hbody:∀(cdv:Value) (A:Around) (outer:List Env) (s:Shared) (H:Hp) (E:XK),Ř k (A.deeper (envOfC qual (ć st) s.heap.objs.size f cdv))→(A.deeper (envOfC qual (ć st) s.heap.objs.size f cdv)).units+64<cLine→
   gK (o_ CX Pg w K mg base N qual (ć st) f cdv A outer s H E) (Œ st) (tS ⟨K,cm⟩ (λ_=>E) mb))(hn:ps.length=n:=by rfl)(hj:N.length=j:=by rfl)(hf:mf=İ n j mb:=by rfl):Ħ Pg w K mg base CX (k+1) f fd ps (ţ ⟨K,cm⟩ n mf):=
 fnQ F S hn hj hf λcdv A outer s H E hr=>hbody cdv A outer s H E hr hr.units
end
end P
namespace P
open PySem PySem.Spec PyProof.Rows L2 M2 M3 M4
section
variable{X:Cx}{cm:String->Addr}{E:L2.St->XK}{e:Expr}{m:M PV}
end
end P
namespace P
open PySem PySem.Spec PyProof.Rows L2 M2 M3 M4
def tgN:Expr->List Str
 | .Name x _=>[x]
 | .Tuple es _ _=>es.flatMap fun e=>match e with
   | .Name x _=>[x]
   |_=>[]
 |_=>[]
def cN(X:Cx)(js:List Nat)(tg:Expr):List Str:=js.map (λ(j:Nat)=>(X.N[j]?).getD "")++tgN tg
def ndB{l:List Str}(h:decide l.Nodup=true):l.Nodup:=of_decide_eq_true h
def frB{a b:Scope}(h:(a.names.all λy=>decide (y.2=.free->(b.names.lookup y.1=some .cell\/b.names.lookup y.1=some .free)))=true):∀y∈a.names,y.2=.free->(b.names.lookup y.1=some .cell\/b.names.lookup y.1=some .free):=λy hy=>of_decide_eq_true (List.all_eq_true.mp h y hy)
section
variable{X:Cx}{cm:String->Addr}{E:L2.St->XK}{elt tg iter:Expr}{ifs:List Expr}{scope:Scope}{pos:Pos}{mi:M (List PV)}{g:Tg}{mt:M Bool}{me:M PV}{js:List Nat}{nl:Nat}
end
end P
namespace P
open PySem PySem.Spec PyProof.Rows L2 M2 M3 M4
section
variable{X:Cx}
end
section
variable{X:Cx}{cm:String->Addr}{K:KK}{E:L2.St->XK}{o e:Expr}{es:List Expr}{name:Str}{apos cpos:Pos}{id:String}{r:V->List V->Hp->VK->Prop}{f:PV->List PV->Option PV}{mo:M PV}{ms:M (List PV)}
end
end P
namespace P
open PySem PySem.Spec PyProof.Rows L2 M2 M3 M4
section
variable{X:Cx}{cm:String->Addr}{E:L2.St->XK}{a b e:Expr}{es:List Expr}{ma mb m:M PV}{mo:M RV}{pos p:Pos}
def ă{i j pos}:PE X (.Constant (.int i) j pos) (tR (kk X cm) E (mC (.int i))):=Ě Ĥ
def uT{j pos}:PE X (.Constant .none j pos) (tR (kk X cm) E (mC .non)):=Ě uy
def nC{x j pos}:PE X (.Constant (.str x) j pos) (tR (kk X cm) E (mC (.str x))):=Ě ŵ
def Ĵ(ha:PE X a (tR (kk X cm) E ma))(hb:PE X b (tR (kk X cm) E mb))(hs:lU b:=by exact λ_ _=>rfl):PE X (.Subscript a b pos) (tV (kk X cm) E (Ă Č ma mb)):=Zb3 YC X_ ha hb hs
def Ĩ(ha:PE X a (tR (kk X cm) E ma))(hb:PE X b (tR (kk X cm) E mb))(hs:lU b:=by exact λ_ _=>rfl):PE X (.Subscript a b pos) (tR (kk X cm) E (Ă Č ma mb)):=Ě (Ĵ ha hb hs)
def v_mod(ha:PE X a (tR (kk X cm) E ma))(hb:PE X b (tR (kk X cm) E mb)):PE X (.BinOp a .Mod b pos) (tV (kk X cm) E (Ă Ī ma mb)):=bx Um Tr ha hb
def ō(ha:PE X a (tR (kk X cm) E ma))(hb:PE X b (tR (kk X cm) E mb)):PE X (.BinOp a .Mod b pos) (tR (kk X cm) E (Ă Ī ma mb)):=Ě (v_mod ha hb)
def v_mul(ha:PE X a (tR (kk X cm) E ma))(hb:PE X b (tR (kk X cm) E mb)):PE X (.BinOp a .Mult b pos) (tV (kk X cm) E (Ă ħ ma mb)):=bx Uo Jm ha hb
def Ŗ(ha:PE X a (tR (kk X cm) E ma))(hb:PE X b (tR (kk X cm) E mb)):PE X (.BinOp a .Mult b pos) (tR (kk X cm) E (Ă ħ ma mb)):=Ě (v_mul ha hb)
def v_sub(ha:PE X a (tR (kk X cm) E ma))(hb:PE X b (tR (kk X cm) E mb)):PE X (.BinOp a .Sub b pos) (tV (kk X cm) E (Ă ŕ ma mb)):=bx Uk Tp ha hb
def jj(ha:PE X a (tR (kk X cm) E ma))(hb:PE X b (tR (kk X cm) E mb)):PE X (.BinOp a .Sub b pos) (tR (kk X cm) E (Ă ŕ ma mb)):=Ě (v_sub ha hb)
def nD(ha:PE X a (tR (kk X cm) E ma))(hb:PE X b (tR (kk X cm) E mb)):PE X (.BinOp a .FloorDiv b pos) (tV (kk X cm) E (Ă ŏ ma mb)):=bx Ul Ja ha hb
def dW(ha:PE X a (tR (kk X cm) E ma))(hb:PE X b (tR (kk X cm) E mb)):PE X (.BinOp a .FloorDiv b pos) (tR (kk X cm) E (Ă ŏ ma mb)):=Ě (nD ha hb)
def dX(ha:PE X a (tR (kk X cm) E ma))(hb:PE X b (tR (kk X cm) E mb)):PE X (.BinOp a .Add b pos) (tO (kk X cm) E (ġ ĝ ma mb)):=Ym Ui Uh ha hb
def v_add(ha:PE X a (tR (kk X cm) E ma))(hb:PE X b (tR (kk X cm) E mb)):PE X (.BinOp a .Add b pos) (tV (kk X cm) E (đ (ġ ĝ ma mb))):=Ĝ (dX ha hb)
def fM(ha:PE X a (tR (kk X cm) E ma))(hb:PE X b (tR (kk X cm) E mb)):PE X (.BinOp a .Add b pos) (tR (kk X cm) E (đ (ġ ĝ ma mb))):=Ě (v_add ha hb)
def t_eq(hu:X.A.units+64<cLine)(ha:PE X a (tR (kk X cm) E ma))(hb:PE X b (tR (kk X cm) E mb)):PT X (.Compare a [.Eq] [b] pos) (tB (kk X cm) E (aq (Ă ŋ ma mb))):=aC KY (Cy hu) ha hb (Ń _)
def rY(hu:X.A.units+64<cLine)(ha:PE X a (tR (kk X cm) E ma))(hb:PE X b (tR (kk X cm) E mb)):PT X (.Compare a [.NotEq] [b] pos) (tB (kk X cm) E (aq (Ă ū ma mb))):=aC KZ (Cz hu) ha hb (Ń _)
def v_eq(hu:X.A.units+64<cLine)(ha:PE X a (tR (kk X cm) E ma))(hb:PE X b (tR (kk X cm) E mb)):PE X (.Compare a [.Eq] [b] pos) (tV (kk X cm) E (Ă ŋ ma mb)):=pX KY (Cy hu) ha hb (Ń _)
def ľ(he:PE X e (tO (kk X cm) E mo)):gK X [.Return (some e) pos] (tS (kk X cm) E (ģ mo)):=Į (Yt he)
def ļ(he:PE X e (tV (kk X cm) E m)):gK X [.Return (some e) pos] (tS (kk X cm) E (ģ (ň m))):=ľ (ű he)
def wX{N ps:List Str}{sc:Scope}{i:Nat}{x:Str}{pos':Pos}(S:Ē N ps sc)(he:PE X e (tO (kk X cm) E mo))(hN:X.N=N:=by rfl)(hi:X.N[i]?=some x:=by rfl)(hx:Loc X.env.scope x:=by first|exact Or.inl rfl|exact Or.inr rfl)(hs:swapsWith e (some (.Name x pos')) pos.line X.env=pure false:=by rfl)(hf:X.fn x=true\/X.env.scope.names.lookup x=some .local:=by first|exact .inl rfl|exact .inr rfl|assumption) :
 PS X (.Assign [.Name x pos'] e pos) (tS (kk X cm) E (ĥ i mo)):=Ys (hN▸S.nd) hi hx he hs hf
def ķ{N ps:List Str}{sc:Scope}{i:Nat}{x:Str}{pos':Pos}{rest:List Stmt}{m2:M Fl}(S:Ē N ps sc)(he:PE X e (tO (kk X cm) E mo))(h2:gK X rest (tS (kk X cm) E m2))(hN:X.N=N:=by rfl)(hi:X.N[i]?=some x:=by rfl)(hx:Loc X.env.scope x:=by first|exact Or.inl rfl|exact Or.inr rfl)(hs:swapsWith e (some (.Name x pos')) pos.line X.env=pure false:=by rfl)(hf:X.fn x=true\/X.env.scope.names.lookup x=some .local:=by first|exact .inl rfl|exact .inr rfl|assumption) :
 gK X (.Assign [.Name x pos'] e pos::rest) (tS (kk X cm) E (Ę (ĥ i mo) m2)):=Ĕ (wX S he hN hi hx hs hf) h2
def fO{N ps:List Str}{sc:Scope}{i:Nat}{x:Str}(S:Ē N ps sc)(hN:X.N=N:=by rfl)(hi:X.N[i]?=some x:=by rfl)(hx:Loc X.env.scope x:=by first|exact Or.inl rfl|exact Or.inr rfl)(hf:X.fn x=true\/X.env.scope.names.lookup x=some .local:=by first|exact .inl rfl|exact .inr rfl|assumption):PG X (.Name x pos) (tT (kk X cm) (gN i)):=Dl (hN▸S.nd) hi hx hf
def aW{i:Nat}{x:Str}(hN:X.N.Nodup:=by exact ndB (by kernel_rfl))(hi:X.N[i]?=some x:=by rfl)(hx:Loc X.env.scope x:=by first|exact Or.inl rfl|exact Or.inr rfl)(hf:X.fn x=true\/X.env.scope.names.lookup x=some .local:=by first|exact .inl rfl|exact .inr rfl):PG X (.Name x pos) (tT (kk X cm) (gN i)):=Dl hN hi hx hf
def Đ(i:Nat){x:Str}{px:Pos}{ms:M (List Slot)}(hr:PA X es (tA (kk X cm) E ms))(hN:X.N[i]?=some x:=by rfl)(hv:yE X.env.scope x:=by first|exact Or.inl rfl|exact Or.inr (Or.inl rfl)|exact Or.inr (Or.inr rfl))(hd:(x== ("__debug__" :Str))=false:=by decide)
 (hcd:(x== ("__classdict__" :Str))=false:=by decide)(hs:starEach (.Name x px::es) X.env=(false,eval (.Name x px) X.env)::starEach es X.env:=by exact aM rfl):PA X (.Name x px::es) (tA (kk X cm) E (Ą i ms)):=Js i hN hv hd hcd hr hs
def Ţ{id:String}{x:Str}{r:List V->Hp->VK->Prop}{f:List PV->Option PV}{mr:M (List PV)}(hc:ŀ X (.builtin id) r)(hf:cO (kk X cm) r f)(hm:X.mg x=none)(hv:bootBuiltins x=some (.builtin id))(ha:PA X (e::es) (Jr (kk X cm) E mr))(hg:Gl X x:=by rfl)(hn:x≠ "__name__" := by decide)(hdb:(x== ("__debug__" :Str))=false:=by decide)
 (he:starEach (e::es) X.env=(false,eval e X.env)::starEach es X.env:=by rfl)(hpl:(backTo pos (starEach es X.env)).any (·.1)=false:=by rfl):PE X (.Call (.Name x p) (e::es) [] pos) (tV (kk X cm) E (aG f mr)):=PE.wk (B_ hc hg hm hv ha hn hdb he hpl) λ_ _ _ h=>Yr hf h
def UJ{T:String}{x:Str}{r:List V->Hp->VK->Prop}{f:List PV->Option PV}{mr:M (List PV)}(hc:ŀ X (.type T) r)(hf:cO (kk X cm) r f)(hm:X.mg x=none)(hv:bootBuiltins x=some (.type T))(ha:PA X (e::es) (Jr (kk X cm) E mr))(hg:Gl X x:=by rfl)(hn:x≠ "__name__" := by decide)(hdb:(x== ("__debug__" :Str))=false:=by decide)
 (he:starEach (e::es) X.env=(false,eval e X.env)::starEach es X.env:=by rfl)(hpl:(backTo pos (starEach es X.env)).any (·.1)=false:=by rfl):PE X (.Call (.Name x p) (e::es) [] pos) (tV (kk X cm) E (aG f mr)):=PE.wk (pP hc hg hm hv ha hn hdb he hpl) λ_ _ _ h=>Yr hf h
def uU{T:String}{x:Str}{r:List V->Hp->VK->Prop}{f:List PV->Option RV}{mr:M (List PV)}(hc:ŀ X (.type T) r)(hf:Dj (kk X cm) r f)(hm:X.mg x=none)(hv:bootBuiltins x=some (.type T))(ha:PA X (e::es) (Jr (kk X cm) E mr))(hg:Gl X x:=by rfl)(hn:x≠ "__name__" := by decide)(hdb:(x== ("__debug__" :Str))=false:=by decide)
 (he:starEach (e::es) X.env=(false,eval e X.env)::starEach es X.env:=by rfl)(hpl:(backTo pos (starEach es X.env)).any (·.1)=false:=by rfl):PE X (.Call (.Name x p) (e::es) [] pos) (tO (kk X cm) E (lC f mr)):=PE.wk (pP hc hg hm hv ha hn hdb he hpl) λ_ _ _ h=>Zb4 hf h
end
section
variable{X:Cx}{cm:String->Addr}{E:L2.St->XK}{elt tg iter t:Expr}{ifs:List Expr}{scope:Scope}{pos:Pos}{mi:M (List PV)}{g:Tg}{mt:M Bool}{me:M PV}{js:List Nat}{nl:Nat}
structure CF(X:Cx)(js:List Nat)(nl:Nat)(tg iter:Expr)(scope:Scope):Prop where
 hcap:cH X.Ŏ X.env.scope scope (cN X js tg) js
 hcalm:X.calm=true
 hlen:js.length+nl=(cN X js tg).length
 hk:scope.kind=.function
 hcell:∀y∈scope.names,y.2=.cell->scope.names.lookup y.1=some .cell
 hnames:∀y∈scope.names,y.2=.local->scope.names.lookup y.1=some .local
 hfree:∀y∈scope.names,y.2=.free->(X.env.scope.names.lookup y.1=some .cell\/X.env.scope.names.lookup y.1=some .free)
 hs:∀x,foldedSetIterable iter X.env x=pure x
def cf(hcap:cH X.Ŏ X.env.scope scope (cN X js tg) js:=by repeat' first|exact True.intro|refine⟨rfl,⟨rfl,by first|exact Or.inl rfl|exact Or.inr rfl⟩,?_⟩)(hcalm:X.calm=true:=by rfl)(hlen:js.length+nl=(cN X js tg).length:=by rfl)
 (hk:scope.kind=.function:=by rfl)(hcell:∀y∈scope.names,y.2=.cell->scope.names.lookup y.1=some .cell:=by decide +kernel)(hnames:∀y∈scope.names,y.2=.local->scope.names.lookup y.1=some .local:=by decide +kernel)
 (hfree:∀y∈scope.names,y.2=.free->(X.env.scope.names.lookup y.1=some .cell\/X.env.scope.names.lookup y.1=some .free):=by exact frB (by kernel_rfl))(hs:∀x,foldedSetIterable iter X.env x=pure x:=by intro _;rfl):CF X js nl tg iter scope:=⟨hcap,hcalm,hlen,hk,hcell,hnames,hfree,hs⟩
def Zc6(hi:PI X.Ŏ tg iter (tG (kk X cm) E (Dt (kk X cm)) mi))(hg:∀{cl C s H fp},PG (bW X.Ŏ (cN X js tg) scope cl C s H fp) tg (tT (kk X cm) g))(ht:∀{cl C s H fp},Bd (bW X.Ŏ (cN X js tg) scope cl C s H fp) ifs (tB (kk X cm) EF mt))(he:∀{cl C s H fp},PE (bW X.Ŏ (cN X js tg) scope cl C s H fp) elt (tV (kk X cm) EF me))(h:CF X js nl tg iter scope:=by exact cf) :
 PE X (.ListComp elt [⟨tg,iter,ifs,0⟩] scope pos) (tO (kk X cm) E (Ł js nl mi g mt me)):=Jz (cN X js tg) js nl X.env.scope rfl h.hcalm hi (λ_ _ _ _ _=>hg) (λ_ _ _ _ _=>ht) (λ_ _ _ _ _=>he) h.hcap h.hlen h.hk h.hcell h.hnames h.hfree h.hs
def lE(hi:PI X.Ŏ tg iter (tI (kk X cm) E mi))(hg:∀{cl C s H fp},PG (bW X.Ŏ (cN X js tg) scope cl C s H fp) tg (tT (kk X cm) g))(ht:∀{cl C s H fp},Bd (bW X.Ŏ (cN X js tg) scope cl C s H fp) ifs (tB (kk X cm) EF mt))(he:∀{cl C s H fp},PE (bW X.Ŏ (cN X js tg) scope cl C s H fp) elt (tV (kk X cm) EF me))(h:CF X js nl tg iter scope:=by exact cf) :
 PE X (.ListComp elt [⟨tg,iter,ifs,0⟩] scope pos) (tO (kk X cm) E (Ł js nl mi g mt me)):=Zc6 (KH hi) hg ht he h
def uV{N ps:List Str}{sc:Scope}{i:Nat}{y:Str}{py spos:Pos}(S:Ē N ps sc)(hi:PI X.Ŏ tg iter (tI (kk X cm) E mi))(hg:∀{cl C s H fp},PG (bW X.Ŏ (cN X js tg) scope cl C s H fp) tg (tT (kk X cm) g))(ht:∀{cl C s H fp},Bd (bW X.Ŏ (cN X js tg) scope cl C s H fp) ifs (tB (kk X cm) EF mt))(he:∀{cl C s H fp},PE (bW X.Ŏ (cN X js tg) scope cl C s H fp) elt (tV (kk X cm) EF me))
 (h:CF X js nl tg iter scope:=by exact cf)(hN:X.N=N:=by rfl)(hi0:X.N[i]?=some y:=by rfl)(hy:X.env.scope.names.lookup y=some .local:=by rfl)(hsw:swapsWith (.ListComp elt [⟨tg,iter,ifs,0⟩] scope pos) (some (.Name y py)) spos.line X.env=pure true:=by rfl) :
 PS X (.Assign [.Name y py] (.ListComp elt [⟨tg,iter,ifs,0⟩] scope pos) spos) (tS (kk X cm) E (ĥ i (Ł js nl mi g mt me))):=Ut (hN▸S.nd) hi0 hy (cN X js tg) js nl X.env.scope rfl h.hcalm hi (λ_ _ _ _ _=>hg) (λ_ _ _ _ _=>ht) (λ_ _ _ _ _=>he) h.hcap h.hlen h.hk h.hcell h.hnames h.hfree h.hs hsw
end
end P
namespace P
open PySem PySem.Spec PyProof.Rows L2 M2 M3 M5
end P
namespace P
open PySem PySem.Spec PyProof.Rows L2 M2 M3 M4 M5
variable{X:Cx}{cm:String->Addr}{E:L2.St->XK}{a:Expr}{pos:Pos}{ma:M PV}
end P
namespace M5
open PySem PySem.Spec PyProof.Rows L2 M2 M3
def Et(a v:Value):argsOk "min" ⟨[a],[(Str.ofString "key",v),(Str.ofString "default",.none)]⟩:=by unfold argsOk;kernel_rfl
section
variable{X:Cx}{pins:List (Addr×Obj)}{σ:L2.St}{H:Hp}{s:Shared}
variable{R:Result->Shared->Prop}{f l S It:Addr}{oF:Obj}{xs:List V}(ks:Nat->Int)(W:Nat->Hp->Prop)
def wY(hh:X.A.handled=none)(hl:∀k H,W k H->Ũ X.K H l xs)(hdF:∀v,oF.data≠ .cell v)(hFS:f≠S)(hFI:f≠It)
 (turn:∀k v,xs[k]?=some v->∀pins H s u,Inv X pins σ H s->W k H->RelV v u->s.heap.get? f=some oF->wpAny (model X.prog X.w) X.A.in1 (call (.ref f) [u]) (EP X pins σ λy H'=>y=.int (ks k)/\W (k+1) H') (λ_ _=>False) s)
 (hR:∀i v u H s,xs[i]?=some v->RelV v u->(∀j,j<xs.length->ks i<=ks j/\(j<i->ks i<ks j))->Inv X pins σ H s->W xs.length H->R (.ok (.ret u)) s) :
 ∀(r j i:Nat) (H:Hp) (s:Shared) (vb:Value) (tb:Tok) (c:Nat) (v:V),xs.length-(j+1)=r->j+1<=xs.length->Inv X pins σ H s->W (j+1) H->
  s.heap.get? S=some (seqObj "list" #[vb,.int (ks i) tb] c)->s.heap.IsListIter It l (j+1)->s.heap.get? f=some oF->(∀b∈[S,It,f],bU X pins H b)->xs[i]?=some v->RelV v vb->i<=j->(∀j',j'<=j->ks i<=ks j'/\(j'<i->ks i<ks j'))->
  codeAny (model X.prog X.w) X.A (.builtin "min.loop" ⟨[.ref It,.ref f,.ref S],[(Str.ofString "default",.none)]⟩) R s:=by
 have hname:(toString "min" ++ toString ".loop" :String)= "min.loop" := by decide
 intro r
 induction r with
 |zero=>
  intro j i H s vb tb c v hr hj I w hS hit hF UL hv rv hij hbest
  have hin:j+1=xs.length:=by omega
  obtain⟨its,ri,pl,_⟩:=I.list (hl _ _ w)
  have hsz:its.toArray.size=xs.length:=by rw[List.size_toArray,ri.length]
  have W':=Walks.list (prog:=X.prog) (w:=X.w) (A:=X.A.in1) hh It l (yK pl.isList hit) its.toArray
  refine codeAny_builtin PySem.F.entry_min_loop ?_
  rw[Around.under_plainId PySem.F.plain_min_loop _]
  show wpAny _ X.A.in1 (seqItems? (.ref S) >>= _) _ _ _
  refine wpAny_bind (wpAny_seqItems hS rfl ?_)
  show wpAny _ X.A.in1 (tryCatch (pyNext (.ref It)) _ >>= _) _ _ _
  refine wpAny_bind (wpAny_tryCatch (W'.done _ _ _ ⟨by rw[hsz,<-hin];exact hit,pl.isList⟩ λh' tk' hk'=>?_))
  have I1:=Ű (h':=h') (t':=tk') I (UL It (by simp)) λb o hb e=>hk' b o (by simpa using hb) e
  have hS':=hk' S _ (by simpa using wB hS hit) hS
  have s1:=Heap.SameBut.update h' S (Obj.mapSeq λ_=>(#[]:Array Value))
  show wpAny _ X.A.in1 (updateSeq S (λ_=> #[]) >>= _) _ _ _
  refine wpAny_bind ?_
  refine wpAny_updateSeq hS' rfl (wpAny_bind (wpAny_letGo (wpAny_pure ?_)))
  exact hR i v vb H _ hv rv (λj' hj'=>hbest j' (by omega)) (Ű (t':=tk') I1 (UL S (by simp)) λb o hb e=>(s1.2 b hb).trans e) (hin▸w)
 |succ r ih=>
  intro j i H s vb tb c v hr hj I w hS hit hF UL hv rv hij hbest
  have hlt:j+1<xs.length:=by omega
  obtain⟨its,ri,pl,_⟩:=I.list (hl _ _ w)
  have hsz:its.toArray.size=xs.length:=by rw[List.size_toArray,ri.length]
  have W':=Walks.list (prog:=X.prog) (w:=X.w) (A:=X.A.in1) hh It l (yK pl.isList hit) its.toArray
  refine codeAny_builtin PySem.F.entry_min_loop ?_
  rw[Around.under_plainId PySem.F.plain_min_loop _]
  show wpAny _ X.A.in1 (seqItems? (.ref S) >>= _) _ _ _
  refine wpAny_bind (wpAny_seqItems hS rfl ?_)
  show wpAny _ X.A.in1 (tryCatch (pyNext (.ref It)) _ >>= _) _ _ _
  refine wpAny_bind (wpAny_tryCatch (W'.item (j+1) _ _ _ (by rw[hsz];exact hlt) ⟨hit,pl.isList⟩ λu h' tk' hP hst' hk'=>?_))
  have hu:its[j+1]?=some u:=by simpa using hP
  have hx2:xs[j+1]?=some xs[j+1]:=List.getElem?_eq_getElem hlt
  have ru:RelV xs[j+1] u:=by
   obtain⟨u2,h2,r2⟩:=ri.get hx2
   rw[hu] at h2
   cases h2
   exact r2
  obtain⟨oI',hoI',hoc,hod⟩:=id hst'.1
  have I1:=Ű (h':=h') (t':=tk') I (UL It (by simp)) λb o hb e=>hk' b o (by simpa using hb) e
  have hS1:=hk' S _ (by simpa using wB hS hit) hS
  have UW:=hk' f _ (by simpa using hFI) hF
  show wpAny _ X.A.in1 (tryCatch (holding [u] (call (.ref f) [u])) _ >>= _) _ _ _
  refine wpAny_bind (wpAny_tryCatch (wpAny_holding (wpAny_mono (pW (fp:=[S,It,f]) I1 UL (λb hb=>?_) (λgJ I'=>turn (j+1) _ hx2 gJ H _ u I' w ru UW) λy u2 H2 s2 I2 ry ⟨ey,w2⟩ Ax U_=>?_) (λ_ _ z=>z) λ_ _ hF=>hF.elim)))
  ·rcases List.mem_cons.mp hb with rfl|hb
   ·exact⟨_,hS1,λv z=>by cases z⟩
   ·rcases List.mem_cons.mp hb with rfl|hb
    ·exact⟨oI',hoI',λv z=>by rw[hod] at z;cases z⟩
    ·rw[List.mem_singleton.mp hb]
     exact⟨oF,UW,hdF⟩
  ·subst ey
   obtain⟨t2,rfl⟩:=ry
   have hS2:=U_ S (by simp) _ hS1
   have hI2:=U_ It (by simp) _ hoI'
   have hF2:=U_ f (by simp) _ UW
   have hit2:s2.heap.IsListIter It l (j+1+1):=⟨oI',hI2,hoc,hod⟩
   show wpAny _ X.A.in1 (tryCatch (holding [u,.int (ks (j+1)) t2] (richCompare .Lt (.int (ks (j+1)) t2) (.int (ks i) tb) >>= _)) _ >>= _) _ _ _
   refine wpAny_bind (wpAny_tryCatch (wpAny_holding (wpAny_bind (CmpOf.ints_lt (prog:=X.prog) (w:=X.w) (A:=X.A.in1) (P:=λi v=>∃t,v=.int (ks i) t) ks (λi v h=>h) (j+1) i _ _ _ _ _ ⟨t2,rfl⟩ ⟨tb,rfl⟩ ?_))))
   refine wpAny_bind (wpAny_holding (wpAny_truthy_bool ?_))
   refine wpAny_bind (wpAny_letGo (wpAny_pure ?_))
   by_cases hb':ks (j+1)<ks i
   ·have s1:=Heap.SameBut.update s2.heap S (Obj.mapSeq λ_=> #[u,.int (ks (j+1)) t2])
    obtain⟨cc,hc2⟩:∃cc,(s2.heap.update S (Obj.mapSeq λ_=> #[u,.int (ks (j+1)) t2])).get? S=some (seqObj "list" #[u,.int (ks (j+1)) t2] cc):=⟨_,get?_update_seq hS2 λ_=> #[u,.int (ks (j+1)) t2]⟩
    simp only[hb',decide_true,if_true]
    refine wpAny_bind ?_
    refine wpAny_updateSeq hS2 rfl (wpAny_bind (wpAny_letGo ?_))
    rw[hname]
    have nIS:=wB hS2 hit2
    refine wpAny_pure ⟨plainId_quiet PySem.F.plain_min_loop _,ih (j+1) (j+1) H2 _ u t2 cc _ (by omega) hlt (Ű (t':=s2.toks) I2 (Ax S (by simp)) λb o hb e=>(s1.2 b hb).trans e) w2 hc2 ⟨oI',(s1.2 It nIS.symm).trans hI2,hoc,hod⟩ ((s1.2 f hFS).trans hF2) Ax hx2 ru (Nat.le_refl _) λj' hj'=>?_⟩
    by_cases e:j'=j+1
    ·subst e
     exact⟨by omega,λ_=>by omega⟩
    ·have hb1:=hbest j' (by omega)
     have hb2:=hb1.1
     exact⟨by omega,λ_=>by omega⟩
   ·simp only[hb',decide_false,Bool.false_eq_true,if_false]
    refine wpAny_bind (wpAny_letGo ?_)
    rw[hname]
    refine wpAny_pure ⟨plainId_quiet PySem.F.plain_min_loop _,ih (j+1) i H2 s2 vb tb c v (by omega) hlt I2 w2 hS2 hit2 hF2 Ax hv rv (by omega) λj' hj'=>?_⟩
    by_cases e:j'=j+1
    ·subst e
     exact⟨by omega,λ_=>by omega⟩
    ·exact hbest j' (by omega)
def wZ{Q:Value->Shared->Prop}{E:Value->Shared->Prop}(hh:X.A.handled=none)(hl:∀k H,W k H->Ũ X.K H l xs)(hdF:∀v,oF.data≠ .cell v)
 (turn:∀k v,xs[k]?=some v->∀pins H s u,Inv X pins σ H s->W k H->RelV v u->s.heap.get? f=some oF->wpAny (model X.prog X.w) X.A.in1 (call (.ref f) [u]) (EP X pins σ λy H'=>y=.int (ks k)/\W (k+1) H') (λ_ _=>False) s)
 (hQ:∀i v u H s,xs[i]?=some v->RelV v u->(∀j,j<xs.length->ks i<=ks j/\(j<i->ks i<ks j))->Inv X pins σ H s->W xs.length H->Q u s)
 (hQ0:∀H s,xs=[]->Inv X pins σ H s->W 0 H->Q .none s)
 (I:Inv X pins σ H s)(w0:W 0 H)(hF:s.heap.get? f=some oF)(hfo:bU X pins H f) :
 wpAny (model X.prog X.w) X.A (call (.builtin "min") [.ref l] [(Str.ofString "key",.ref f),(Str.ofString "default",.none)]) Q E s:=by
 have hname:(toString "min" ++ toString ".loop" :String)= "min.loop" := by decide
 obtain⟨its,ri,pl,_⟩:=I.list (hl _ _ w0)
 have hls:=pl.isList
 obtain⟨ol,hol,_⟩:=id hls
 have hll:l<s.heap.objs.size:=Heap.lt_size hol
 refine kmk_tree PySem.F.kind_min PySem.F.plain_min PySem.F.entry_min (Et _ _) ?_
 show wpAny _ X.A.in1 (Builtin.Builtins.bindParams "min" ["key","default"] 0 ⟨[],[(Str.ofString "key",.ref f),(Str.ofString "default",.none)]⟩ >>= _) _ _ s
 refine wpAny_bind (wpAny_of_eq (show Builtin.Builtins.bindParams "min" ["key","default"] 0 ⟨[],[(Str.ofString "key",.ref f),(Str.ofString "default",.none)]⟩=pure [some (.ref f),some .none] from rfl) ?_)
 refine wpAny_bind (wpAny_pure ?_)
 refine wpAny_bind (wpAny_pyIter_list hls ?_)
 refine wpAny_bind (wpAny_newList ?_ (Nat.zero_le _))
 rw[hname]
 have hS:(s.heap.push {cls:=.type "list_iterator",data:=.fields #[.ref l,.int 0 0]}).objs.size=s.heap.objs.size+1:=size_push' ..
 generalize hSd:(s.heap.push {cls:=.type "list_iterator",data:=.fields #[.ref l,.int 0 0]}).objs.size=S at hS ⊢
 refine wpAny_pure ⟨plainId_quiet PySem.F.plain_min_loop _,?_⟩
 have k0:∀b o,s.heap.get? b=some o->((s.heap.push {cls:=.type "list_iterator",data:=.fields #[.ref l,.int 0 0]}).push (seqObj "list" #[] 0)).get? b=some o:=λb o e=>Heap.get?_push_of_some _ (Heap.get?_push_of_some _ e)
 have gI:((s.heap.push {cls:=.type "list_iterator",data:=.fields #[.ref l,.int 0 0]}).push (seqObj "list" #[] 0)).get? s.heap.objs.size=some {cls:=.type "list_iterator",data:=.fields #[.ref l,.int 0 0]}:=
  Heap.get?_push_of_some _ (Heap.get?_push_size _ rfl)
 have gS:((s.heap.push {cls:=.type "list_iterator",data:=.fields #[.ref l,.int 0 0]}).push (seqObj "list" #[] 0)).get? S=some (seqObj "list" #[] 0):=by rw[<-hSd];exact Heap.get?_push_size _ rfl
 have I0:Inv X pins σ H {s with heap:=(s.heap.push {cls:=.type "list_iterator",data:=.fields #[.ref l,.int 0 0]}).push (seqObj "list" #[] 0)}:=I.kept (t':=s.toks) k0
 have fI:bU X pins H s.heap.objs.size:=I.qO (Nat.le_refl _) (I.hok.fresh (Nat.le_refl _))
 have fS:bU X pins H S:=I.qO (by omega) (I.hok.fresh (by omega))
 have hlf:f<s.heap.objs.size:=Heap.lt_size hF
 have hFI:f≠s.heap.objs.size:=Nat.ne_of_lt hlf
 have hFS:f≠S:=Nat.ne_of_lt (by rw[hS];exact Nat.lt_succ_of_lt hlf)
 have hSI:S≠s.heap.objs.size:=by omega
 have UL:∀b∈[S,s.heap.objs.size,f],bU X pins H b:=λb hb=>by
  rcases List.mem_cons.mp hb with rfl|hb
  ·exact fS
  ·rcases List.mem_cons.mp hb with rfl|hb
   ·exact fI
   ·rw[List.mem_singleton.mp hb];exact hfo
 obtain⟨Va,ri0,pl0,_⟩:=I0.list (hl _ _ w0)
 have hsz:Va.toArray.size=xs.length:=by rw[List.size_toArray,ri0.length]
 have W':=Walks.list (prog:=X.prog) (w:=X.w) (A:=X.A.in1) hh s.heap.objs.size l (Nat.ne_of_lt hll) Va.toArray
 refine codeAny_builtin PySem.F.entry_min_loop ?_
 rw[Around.under_plainId PySem.F.plain_min_loop _]
 show wpAny _ X.A.in1 (seqItems? (.ref _) >>= _) _ _ _
 refine wpAny_bind (wpAny_seqItems gS rfl ?_)
 show wpAny _ X.A.in1 (tryCatch (pyNext (.ref s.heap.objs.size)) _ >>= _) _ _ _
 by_cases hne:0<xs.length
 case neg=>
  have hxe:xs=[]:=List.length_eq_zero_iff.mp (by omega)
  refine wpAny_bind (wpAny_tryCatch (W'.done _ _ _ ⟨by rw[hsz,hxe];exact⟨_,gI,rfl,rfl⟩,pl0.isList⟩ λh' tk' hk'=>?_))
  have I1:=Ű (h':=h') (t':=tk') I0 fI λb o hb e=>hk' b o (by simpa using hb) e
  exact wpAny_bind (wpAny_rule (wpAny_pure (hQ0 _ _ hxe I1 w0)))
 refine wpAny_bind (wpAny_tryCatch (W'.item 0 _ _ _ (by rw[hsz];exact hne) ⟨⟨_,gI,rfl,rfl⟩,pl0.isList⟩ λu h' tk' hP hst' hk'=>?_))
 have hu:Va[0]?=some u:=by simpa using hP
 have hx0:xs[0]?=some xs[0]:=List.getElem?_eq_getElem hne
 have ru:RelV xs[0] u:=by
  obtain⟨u2,h2,r2⟩:=ri0.get hx0
  rw[hu] at h2
  cases h2
  exact r2
 obtain⟨oI',hoI',hoc,hod⟩:=id hst'.1
 have I1:=Ű (h':=h') (t':=tk') I0 fI λb o hb e=>hk' b o (by simpa using hb) e
 have hS1:=hk' S _ (by simpa using hSI) gS
 have UW:=hk' f _ (by simpa using hFI) (k0 _ _ hF)
 show wpAny _ X.A.in1 (tryCatch (holding [u] (call (.ref f) [u])) _ >>= _) _ _ _
 refine wpAny_bind (wpAny_tryCatch (wpAny_holding (wpAny_mono (pW (fp:=[S,s.heap.objs.size,f]) I1 UL (λb hb=>?_) (λgJ I'=>turn 0 _ hx0 gJ H _ u I' w0 ru UW) λy u2 H2 s2 I2 ry ⟨ey,w2⟩ Ax U_=>?_) (λ_ _ z=>z) λ_ _ hF=>hF.elim)))
 ·rcases List.mem_cons.mp hb with rfl|hb
  ·exact⟨_,hS1,λv z=>by cases z⟩
  ·rcases List.mem_cons.mp hb with rfl|hb
   ·exact⟨oI',hoI',λv z=>by rw[hod] at z;cases z⟩
   ·rw[List.mem_singleton.mp hb]
    exact⟨oF,UW,hdF⟩
 ·subst ey
  obtain⟨t2,rfl⟩:=ry
  have hS2:=U_ S (by simp) _ hS1
  have hI2:=U_ s.heap.objs.size (by simp) _ hoI'
  have hF2:=U_ f (by simp) _ UW
  have s1:=Heap.SameBut.update s2.heap S (Obj.mapSeq λ_=> #[u,.int (ks 0) t2])
  obtain⟨cc,hc2⟩:∃cc,(s2.heap.update S (Obj.mapSeq λ_=> #[u,.int (ks 0) t2])).get? S=some (seqObj "list" #[u,.int (ks 0) t2] cc):=⟨_,get?_update_seq hS2 λ_=> #[u,.int (ks 0) t2]⟩
  show wpAny _ X.A.in1 (updateSeq S (λ_=> #[u,.int (ks 0) t2]) >>= _) _ _ _
  refine wpAny_bind ?_
  refine wpAny_updateSeq hS2 rfl ?_
  rw[hname]
  refine wpAny_pure ⟨plainId_quiet PySem.F.plain_min_loop _,wY ks W hh hl hdF hFS hFI turn (λi v u' H' s' a1 a2 a3 a4 a5=>hQ i v u' H' s' a1 a2 a3 a4 a5) _ 0 0 H2 _ u t2 cc _ rfl hne (Ű (t':=s2.toks) I2 (Ax S (by simp)) λb o hb e=>(s1.2 b hb).trans e) w2 hc2 ⟨oI',(s1.2 _ hSI.symm).trans hI2,hoc,hod⟩ ((s1.2 f hFS).trans hF2) Ax hx0 ru (Nat.le_refl _) λj' hj'=>?_⟩
  have e:j'=0:=by omega
  subst e
  exact⟨by omega,λh=>absurd h (Nat.lt_irrefl _)⟩
end
def Vb(K:PySem.W.Frag)(ta:TA)(js:List Nat)(te:TE):TE:=λσ H Q=>ta σ H λvs H1=>∃l xs,vs=[.ref l]/\Ũ K H1 l xs/\∀c q H2,Same H1 H2->H2 c=some (.zV q)->(∀a,H1 a=none->H2 a=none\/a=c)->
 ∃(ks:Nat->Int) (W:Nat->Hp->Prop),W 0 H2/\(∀k H,W k H->Same H2 H)/\(∀k v H,xs[k]?=some v->W k H->te (cJ js σ v) H λy H'=>y=.int (ks k)/\W (k+1) H')/\
  (∀i v H,xs[i]?=some v->(∀j,j<xs.length->ks i<=ks j/\(j<i->ks i<ks j))->W xs.length H->Q v H)/\(xs=[]->∀H,W 0 H->Q .non H)
section
variable{X:Cx}{x px:Str}{c P:Addr}{params:Arguments}{body e:Expr}{scope:Scope}{p pos Ao kpos dpos Eu:Pos}{dj:Nat}{ta:TA}{te:TE}
def Ew(N0:List Str)(js:List Nat)(sc:Scope)(hsc:X.env.scope=sc)(hcalm:X.calm=true)(T_:X.A.depth<recursionLimit)(hx:x∈lams)(ht:PySem.W.tabIn X.K x=some (c,P))(hcode:X.env.code=.ref c)(hq:X.env.qual=x ++ ".<locals>.")
 (hg:Gl X "min")(hm:X.mg "min" =none)(ha:PA X [e] ta)(he:∀cl f c' s H,PE (Bf X (N0 ++ [px]) (aZ x) scope cl f c' X.A.in1 s H) body te)(hcap:cH X sc scope N0 js)(hlen:js.length=N0.length:=by rfl)
 (hbind:∀(cl:List (Str×Addr)) (pm ctv:Value) (c':Addr) (u:Value),bindArgs (PySem.W.kla_fn "<lambda>" (aZ x) params body scope cl pm (.ref c') ctv) ⟨[u],[]⟩=pure [(px,u)]:=by intros;rfl)
 (hk:scope.kind=.function:=by rfl)(hcell:∀y∈scope.names,y.2≠ .cell:=by decide +kernel)(hpx:scope.names.lookup px=some .local:=by rfl)(hco:scope.isCoroutine=false:=by rfl)(hgen:scope.isGenerator=false:=by rfl)
 (hfree:∀y∈scope.names,y.2=.free->(sc.names.lookup y.1=some .cell\/sc.names.lookup y.1=some .free):=by decide +kernel)(hdef:defaultsOf params X.env=([],[]):=by rfl)
 (hst:starEach [e] X.env=[(false,eval e X.env)]:=by rfl)(hpl:(backTo pos (starEach [e] X.env)).any (·.1)=false:=by rfl) :
 PE X (.Call (.Name "min" p) [e] [⟨some "key",.Lambda params body scope Ao,kpos⟩,⟨some "default",.Constant .none dj dpos,Eu⟩] pos) (Vb X.K ta js te):=by
 intro pins s σ H Q I h
 obtain⟨cl,c1,c2,c3⟩:=dh (scope:=scope) (env:=X.env) λy hy hf=>I.ok.has y.1 (by
  have:=hfree y hy hf
  rw[<-hsc] at this
  exact this)
 have hh:=I.ok.hd hcalm
 refine wpAny_Call_Name_kw (eY I hg hm (show bootBuiltins "min" =some (.builtin "min") by kernel_rfl) ?_ (by decide) (by decide))
 refine callWith_kw (ő (ha pos pins s σ H _ I h) λus s1 ⟨vs,H1,I1,r1,q1⟩=>?_) (by rw[hst];rfl) hpl rfl rfl
 obtain⟨l,xs,rfl,hs1,q1⟩:=q1
 have eus:us=[.ref l]:=by
  cases r1 with
  |cons a b=>
   cases b
   exact congrArg (λz=>[z]) (show _=Value.ref l from a)
 subst eus
 show wpAny _ _ (evalAll ((do let v <-eval (.Lambda params body scope Ao) X.env;standAt pos;pure v)::(do let v <-eval (.Constant .none dj dpos) X.env;standAt pos;pure v)::[])) _ _ s1
 refine wpAny_evalAll_cons (wpAny_bind (CT I1 hx ht hcode hq hdef c1 λf c' pm ctv H2 s2 I2 nw sm hc hf fo=>wpAny_bind (wpAny_standAt (wpAny_pure ?_))))
 refine wpAny_evalAll_cons (wpAny_bind ?_)
 refine Constant_none ?_
 refine wpAny_bind (wpAny_standAt (wpAny_pure ?_))
 refine wpAny_evalAll_nil ?_
 obtain⟨ks,W,w0,wm,wt,wq,wq0⟩:=q1 c' _ H2 sm hc nw
 refine wZ (xs:=xs) ks W hh (λk H w=>(wm k H w).seq (sm.seq hs1)) (λv z=>by cases z) (λk v hv gJ H' s' u I' w ru hf'=>?_) (λi v u H' s' hv ru hb I' w=>⟨v,H',I',ru,wq i v H' hv hb w⟩) (λH' s' hx I' w=>⟨.non,H',I',rfl,wq0 hx H' w⟩) I2 w0 hf fo
 exact CV (A:=X.A.in1) (te:=te) (N0:=N0) (js:=js) hsc hk hcap hlen hcell hpx hco hgen I.ok.frames hh T_ c2 c3 (hbind cl pm ctv c') (λs H=>he cl f c' s H) I' hf' (wm k H' w c' _ hc) ru (wt k v H' hv w)
end
end M5
namespace P
open PySem PySem.Spec PyProof.Rows L2 M2 M3 M5
def fP:List PV->List Int->Option PV
 | [],_=>some .non
 |p::ps,ks=>rQ (p::ps) ks
def Ey{items:List PV}{ks:List Int}{b:PV}(h:0<items.length)(e:fP items ks=some b):rQ items ks=some b:=by
 cases items with
 |nil=>simp at h
 |cons p ps=>exact e
def xg(js:List Nat)(me:M PV)(mr:M (List PV)):M PV:=λρ=>(mr ρ).bind λps ρ1=>match ps with
 | [.lst items]=>match uR js me ρ1 items with
   |some ks=>Res.lW (fP items ks) ρ1
   |none=>.bad
 |_=>.bad
@[simp] theorem Zag{js:List Nat}{me:M PV}{mr:M (List PV)}{ρ:ĺ}:xg js me mr ρ=(mr ρ).bind fun ps ρ1=>match ps with
  | [.lst items]=>match uR js me ρ1 items with
    |some ks=>Res.lW (fP items ks) ρ1
    |none=>.bad
  |_=>.bad:=rfl
section
variable{X:Cx}{cm:String->Addr}{E:L2.St->XK}{x px:Str}{c Pt:Addr}{params:Arguments}{body e:Expr}{scope:Scope}{p pos Ao kpos dpos Eu:Pos}{dj:Nat}{mr:M (List PV)}{me:M PV}
def JZ{k:Nat}(N0:List Str)(js:List Nat)(sc:Scope)(hr:Ř (k+2) X.A)(hsc:X.env.scope=sc)(hcalm:X.calm=true)(hx:x∈lams)(ht:PySem.W.tabIn X.K x=some (c,Pt))(hcode:X.env.code=.ref c)(hq:X.env.qual=x ++ ".<locals>.")
 (hg:Gl X "min")(hm:X.mg "min" =none)(ha:PA X [e] (Jr (kk X cm) E mr))(he:∀cl f c' s H,Ř k (Bf X (N0 ++ [px]) (aZ x) scope cl f c' X.A.in1 s H).A->(Bf X (N0 ++ [px]) (aZ x) scope cl f c' X.A.in1 s H).A.units+64<cLine->PE (Bf X (N0 ++ [px]) (aZ x) scope cl f c' X.A.in1 s H) body (tV (kk X cm) EF me))(hcap:cH X sc scope N0 js)(hlen:js.length=N0.length:=by rfl)
 (hbind:∀(cl:List (Str×Addr)) (pm ctv:Value) (c':Addr) (u:Value),bindArgs (PySem.W.kla_fn "<lambda>" (aZ x) params body scope cl pm (.ref c') ctv) ⟨[u],[]⟩=pure [(px,u)]:=by intros;rfl)
 (hk:scope.kind=.function:=by rfl)(hcell:∀y∈scope.names,y.2≠ .cell:=by decide +kernel)(hpx:scope.names.lookup px=some .local:=by rfl)(hco:scope.isCoroutine=false:=by rfl)(hgen:scope.isGenerator=false:=by rfl)
 (hfree:∀y∈scope.names,y.2=.free->(sc.names.lookup y.1=some .cell\/sc.names.lookup y.1=some .free):=by decide +kernel)(hdef:defaultsOf params X.env=([],[]):=by rfl)
 (hst:starEach [e] X.env=[(false,eval e X.env)]:=by exact aM rfl)(hpl:(backTo pos (starEach [e] X.env)).any (·.1)=false:=by rfl) :
 PE X (.Call (.Name "min" p) [e] [⟨some "key",.Lambda params body scope Ao,kpos⟩,⟨some "default",.Constant .none dj dpos,Eu⟩] pos) (tV (kk X cm) E (xg js me mr)):=λpins s σ H Q I h=>
 Ew N0 js sc hsc hcalm hr.depth hx ht hcode hq hg hm ha (λcl f c' s H=>he cl f c' s H (hr.in1.deeper _) (hr.in1.deeper _).units) hcap hlen hbind hk hcell hpx hco hgen hfree hdef hst hpl pins s σ H Q I (by
  obtain⟨cc,F,ρ,rel,h⟩:=h
  refine⟨cc,F,ρ,rel,h.bind λps ρ1 vs F1 H1 ē s1 s2 q h1=>?_⟩
  split at h1
  rotate_left
  ·exact h1.elim
  rename_i items
  split at h1
  rotate_left
  ·exact h1.elim
  rename_i kl hk'
  obtain⟨kl1,kl2⟩:=qj hk'
  cases hb:fP items kl with
  |none=>rw[hb] at h1;exact h1.elim
  |some b=>
   rw[hb] at h1
   have q':Paired (rR (kk X cm) cc σ ρ1 F1 H1) [.lst items] vs:=q
   obtain⟨l,xs,rfl,hs,hr⟩:∃l xs,vs=[.ref l]/\Ũ X.K H1 l xs/\ĕ (kk X cm) F1 items xs:=by
    cases q' with
    |cons a b=>
     cases b
     rcases a with a|a
     ·unfold Rep at a
      obtain⟨l,xs,rfl,e1,e2⟩:=a
      exact⟨l,xs,rfl,ē.sub.seq e1,e2⟩
     ·obtain⟨l,xs,rfl,e1,e2⟩:=a
      exact⟨l,xs,rfl,Ũ.of e1,e2⟩
   have len:items.length=xs.length:=hr.length
   refine⟨l,xs,rfl,hs,λc q H2 sm hc nw=>⟨λk=>kl.getD k 0,λ_ H=>∃F',Gr F1 H2 F' H,⟨F1,Gr.refl (ē.sub.trans sm)⟩,λk H ⟨F',g⟩=>g.h,λk v H hv ⟨F',g⟩=>?_,λi v H hv hbest ⟨F',g⟩=>?_,λhx H ⟨F',g⟩=>?_⟩⟩
   ·have Ĳ:Rel (kk X cm) cc F1 H2 σ ρ1:=ē.call ⟨sm,Same.refl _,ē.sub.trans sm,λ_ _ z=>z⟩
    have hki:k<items.length:=by rw[len];exact(List.getElem?_eq_some_iff.mp hv).1
    obtain⟨ρ',hme⟩:=kl2 k items[k] (List.getElem?_eq_getElem hki)
    obtain⟨v',hv',rv⟩:=bf hr.pr (List.getElem?_eq_getElem hki)
    rw[hv] at hv'
    cases hv'
    refine⟨ctx0 F' H,F',lamP js ρ1 items[k],(Ĳ.call g).lam js (Rep.same g.f _ _ rv),?_⟩
    rw[hme]
    intro y F2 H3 rz _ _ ry
    have ry':Rep (kk X cm) F2 (.int (kl.getD k 0)) y:=ry
    unfold Rep at ry'
    exact⟨ry',F2,g.trans rz.gr⟩
   ·have Ĳ:Rel (kk X cm) cc F1 H2 σ ρ1:=ē.call ⟨sm,Same.refl _,ē.sub.trans sm,λ_ _ z=>z⟩
    have hii:i<items.length:=by rw[len];exact(List.getElem?_eq_some_iff.mp hv).1
    obtain⟨v',hv',rv⟩:=bf hr.pr (List.getElem?_eq_getElem hii)
    rw[hv] at hv'
    cases hv'
    have eb:=rT kl1 (Ey (by omega) hb) (List.getElem?_eq_getElem hii) (λj hj=>hbest j (by rw[<-len];exact hj))
    subst eb
    exact h1 v F' H (Ĳ.call g) g.f (sm.trans g.h) (Rep.same g.f _ _ rv)
   ·have Ĳ:Rel (kk X cm) cc F1 H2 σ ρ1:=ē.call ⟨sm,Same.refl _,ē.sub.trans sm,λ_ _ z=>z⟩
    have hi0:items=[]:=List.length_eq_zero_iff.mp (by rw[len,hx];rfl)
    subst hi0
    cases(show some PV.non=some b from hb)
    exact h1 .non F' H (Ĳ.call g) g.f (sm.trans g.h) (show Rep (kk X cm) F' .non .non by unfold Rep;rfl))
end
end P
namespace PySem
namespace F
def Ez:typeLookup (.type "list_reverseiterator") "__len__" =pure none:=by rw[typeLookup_type,builtinLookup_eq_fast];kernel_rfl
def J_:typeLookup (.type "list_reverseiterator") "__length_hint__" =pure (some (.builtin "list_reverseiterator.__length_hint__")):=by rw[typeLookup_type,builtinLookup_eq_fast];kernel_rfl
end F
section
variable{prog:Program}{w:World}{A:Around}{E:Value->Shared->Prop}{s:Shared}
def pF{Q:Value->Shared->Prop}{I l:Addr}{items:Array Value}(hh:A.handled=none)(hit:s.heap.IsRevIter I l ((items.size:Int)-1))(hl:s.heap.IsList l items)(hne:l≠I)(hn:items.size<=sizeLine)
 (hQ:∀h' tk acc' c',(∀b o,b≠I→s.heap.get? b=some o→h'.get? b=some o)→
   h'.get? s.heap.objs.size=some {cls:=.type "list",dict:=none,data:=.seq acc' c',slots:=#[]}->ItemsOf (λi v=>items[items.size-1-i]?=some v) acc' items.size->Q (.ref s.heap.objs.size) {s with heap:=h',toks:=tk}) :
 wpAny (model prog w) A (call (.type "list") [.ref I]) Q E s:=by
 refine callType_codes (Q₁:= λobj s₁=>obj=.ref s.heap.objs.size/\s₁= {s with heap:=s.heap.push {cls:=.type "list",data:=.seq #[]}}) F.called_list (F.typeCall_list_1 _) F.entry_list_init
  (code_list_new _ ⟨rfl,rfl⟩) λobj s₁ h₁=>?_
 obtain⟨rfl,rfl⟩:=h₁
 generalize hSd:s.heap.objs.size=S at hQ ⊢
 have hS:(s.heap.push {cls:=.type "list",data:=.seq #[]}).get? S=some {cls:=.type "list",data:=.seq #[]}:=by rw[<-hSd];exact Heap.get?_push_size _ rfl
 have hIlt:I<S:=by obtain⟨_,e,_⟩:=hit;rw[<-hSd];exact Heap.lt_size e
 have Zc7:l<S:=by obtain⟨_,e,_⟩:=hl;rw[<-hSd];exact Heap.lt_size e
 refine⟨⟨_,hS,rfl⟩,F.args_list_init_2 _ _,?_⟩
 show wpAny _ _ (do let old <-Builtin.List.listItems (.ref S);Builtin.List.listUpdate (.ref S) (λ_=> #[]);letGo old.toList.reverse;Builtin.List.listExtendWith (.ref S) (.ref I) .none) _ _ _
 refine wpAny_bind ?_
 unfold Builtin.List.listItems
 refine wpAny_bind (wpAny_seqItems hS rfl (wpAny_pure ?_))
 show wpAny _ _ (updateSeq S (λ_=> #[]) >>= λ_=>letGo (#[]:Array Value).toList.reverse >>= λ_=>Builtin.List.listExtendWith (.ref S) (.ref I) .none) _ _ _
 refine wpAny_bind (wpAny_updateSeq hS rfl ?_)
 have hS₂:= Heap.get?_update_self (Obj.mapSeq (λ_=>(#[]:Array Value))) hS rfl
 have oth:∀b o,s.heap.get? b=some o->((s.heap.push {cls:=.type "list",data:=.seq #[]}).update S (Obj.mapSeq (λ_=>(#[]:Array Value)))).get? b=some o:=
  λb o e=>(Heap.get?_update_other _ _ (by rw[<-hSd];exact(Nat.ne_of_lt (Heap.lt_size e)).symm)).trans (Heap.get?_push_of_some _ e)
 refine wpAny_bind (wpAny_letGo ?_)
 have W:=(Walks.listRev (prog:=prog) (w:=w) (A:=A.in1.in1) hh I l hne items).toS
 have e0:(items.size:Int)-1-((0:Nat):Int)=(items.size:Int)-1:=by omega
 have hit₁:= hit.at λo e=>oth I o e
 have hl₁:= hl.at λo e=>oth l o e
 have h1:Builtin.List.listSameRef (.ref S) (.ref I)=false:=by simp[Builtin.List.listSameRef,(Nat.ne_of_lt hIlt).symm]
 unfold Builtin.List.listExtendWith
 refine wpAny_bind (wpAny_typeOf (T:= "list_reverseiterator") hit₁.typeIs ?_)
 rw[if_neg (by rw[h1];decide)]
 refine wpAny_bind (wpAny_pyIter_revIter hit₁ ?_)
 refine wpAny_bind (wpAny_holding ?_)
 unfold Builtin.List.listLengthHint
 refine wpAny_bind (wpAny_specialOf hit₁.typeIs F.Ez ?_)
 show wpAny _ _ (specialOf (Value.ref I) (Str.ofString "__length_hint__") >>= _) _ _ _
 refine wpAny_bind (wpAny_specialOf hit₁.typeIs F.J_ ?_)
 (generalize hid:("list_reverseiterator.__length_hint__" :String)=id0;(fail_if_success (clear hid id0));wp_delta;rw[show splitId id0=some ("list_reverseiterator","__length_hint__") from by subst hid;decide +kernel];subst hid)
 refine wpAny_bind (wpAny_isInstance (T:= "list_reverseiterator") (b:=true) hit₁.typeIs (by rw[isSubtype_type];kernel_rfl) ?_)
 refine wpAny_pure ?_
 rw[if_neg (by decide)]
 refine wpAny_pure ⟨plainId_quiet F.plain_extend_loop _,codeAny_extend_loopS W hn S (by simp[(Nat.ne_of_lt hIlt).symm,(Nat.ne_of_lt Zc7).symm]) .none items.size 0 _ #[] _ rfl (Nat.zero_le _) ⟨Nat.zero_le _,by rw[e0];exact hit₁,hl₁⟩ hS₂ (ItemsOf.nil _) λs' acc' c' hm hS' hacc=>?_⟩
 rw[Moved.eq_with hm]
 refine⟨rfl,hQ s'.heap s'.toks acc' c' (λb o hb e=>hm.heap b o (λhmem=>?_) (oth b o e)) hS' hacc⟩
 rcases List.mem_cons.mp hmem with e'|hmem
 ·exact absurd (e'.trans hSd.symm) (Nat.ne_of_lt (Heap.lt_size e))
 ·exact hb (by simpa using hmem)
end
end PySem
namespace P
open PySem PySem.Spec PyProof.Rows L2 M2 M3 M4
def Itv(K:PySem.W.Frag)(a:Addr)(n:Nat):It:=
 ⟨λi H=>∃xs x,Ũ K H a xs/\xs.length=n/\i<n/\xs[n-1-i]?=some x,λi H x H'=>H'=H/\∀xs,Ũ K H a xs->xs[n-1-i]?=some x,λi H=>i=n/\∃xs,Ũ K H a xs⟩
def EY{P:Program}{w:World}{K:PySem.W.Frag}{tg:Expr}(a it:Addr)(n:Nat):Turn P w K tg (Itv K a n) [it] it (λi h=>h.IsRevIter it a ((n:Int)-1-(i:Int))) where
 mem:=by simp
 obj:=λi h st b hb=>by
  have e:b=it:=by simpa using hb
  subst e
  obtain⟨o,e,c,d⟩:=st
  exact⟨o,e,λv z=>by rw[d] at z;cases z⟩
 keep:=λi h h' st k=>st.at λo e=>k it (by simp) o e
 item:=by
  intro X hP hw hK hc i pins s σ H E I hf st hg
  subst hP hw hK
  obtain⟨xs,x,hq,hn,hi,hx⟩:=hg
  obtain⟨its,rv,p,hz⟩:=I.list hq
  obtain⟨u,hu,ru⟩:=rv.get hx
  obtain⟨f0,f1,f2,f3,f4,f5⟩:=hf it (by simp)
  have e1:(n:Int)-1-(i:Int)=((n-1-i:Nat):Int):=by omega
  have st0:=st
  rw[e1] at st0
  refine wpAny_pyNext_rev_item st0 p.isList (x:=u) (by simpa using hu) λh' st' sb=>?_
  have e2:((n-1-i:Nat):Int)-1=(n:Int)-1-((i+1:Nat):Int):=by omega
  rw[e2] at st'
  have I1:Inv X pins σ H {s with heap:=h'}:=I.turned (t':=s.toks) (λb o hb e=>(sb.2 b hb).trans e) f0 f1 f3 f4 f5
  obtain⟨o,e,c,d⟩:=id st'
  exact⟨u,rfl,ud (s:={s with heap:=h'}) e c d (by decide) ⟨x,H,I1,ru,⟨rfl,λys hy=>by rw[I.uc hy hq];exact hx⟩,st',λb hb=>(hf b hb).1⟩⟩
 done:=by
  intro X hP hw hK hc i pins s σ H E I hf st hg
  subst hP hw hK
  obtain⟨hi,xs,hq⟩:=hg
  obtain⟨f0,f1,f2,f3,f4,f5⟩:=hf it (by simp)
  have e1:(n:Int)-1-(i:Int)= -1:=by omega
  have st0:=st
  rw[e1] at st0
  exact wpAny_pyNext_rev_end (I.ok.hd hc) st0 λh' eb=>⟨rfl,I.turned (t':=s.toks) (λb o hb e=>eb b o hb e) f0 f1 f3 f4 f5⟩
 self:=λ_ _ _ _ _ st h=>wpAny_pyIter_revIter st h
section
variable{X:Cx}{cm:String->Addr}{E:L2.St->XK}{tg e l:Expr}{p pos p1 pos1:Pos}{mi:M (List PV)}
def Zc8(K:PySem.W.Frag)(ta:TA):TI:=λσ H R=>ta σ H λvs H1=>∃a xs,vs=[.ref a]/\Ũ K H1 a xs/\R (Itv K a xs.length) H1
def Vc{ta:TA}(hg:Gl X "reversed")(hm:X.mg "reversed" =none)(ha:PA X [l] ta)(hs:starEach [l] X.env=[(false,eval l X.env)]:=by exact aM rfl):PI X tg (.Call (.Name "reversed" p) [l] [] pos) (Zc8 X.K ta):=by
 intro pins s σ H R I h
 refine Call_ (eY I hg hm boot_reversed (PyProof.Rows.callWith_type1 (ő (ha pos pins s σ H _ I h) λus s1 ⟨vs,H1,I1,r1,q1⟩=>?_) hs rfl))
 obtain⟨a,xs,e,hq,q⟩:=q1
 subst e
 obtain⟨u,rfl,ru⟩:=r1.one
 cases ru
 obtain⟨its,rv,pl,hz⟩:=I1.list hq
 have hlen:its.toArray.size=xs.length:=by rw[List.size_toArray,<-rv.length]
 refine call_reversed_list pl.isList ?_
 have I2:Inv X pins σ H1 {s1 with heap:=s1.heap.push (revObj a ((its.toArray.size:Int)-1))}:=I1.kept (t':=s1.toks) λb o e=>Heap.get?_push_of_some _ e
 have st:(s1.heap.push (revObj a ((its.toArray.size:Int)-1))).IsRevIter s1.heap.objs.size a ((xs.length:Int)-1-((0:Nat):Int)):=⟨_,Heap.get?_push_size _ rfl,rfl,by rw[hlen];simp[revObj]⟩
 refine wpAny_pyIter_revIter (s:={s1 with heap:=s1.heap.push (revObj a ((its.toArray.size:Int)-1))}) st ⟨s1.heap.objs.size,[s1.heap.objs.size],_,_,H1,rfl,I2,EY a _ xs.length,st,λb hb=>?_,q⟩
 have e:b=s1.heap.objs.size:=by simpa using hb
 subst e
 exact I1.qO (Nat.le_refl _) (I1.hok.fresh (Nat.le_refl _))
def zA(m:M (List PV)):M (List PV):=λρ=>(m ρ).bind λps ρ1=>.ok ps.reverse ρ1
@[simp] theorem Zbt{m:M (List PV)}{ρ:ĺ}:zA m ρ=(m ρ).bind λps ρ1=>.ok ps.reverse ρ1:=rfl
def E_{K:KK}{L F H:Hp}{a:Addr}{ps:List PV}{xs:List V}(hn:ps.length=xs.length)(hq:∀(c:Ctx) (F2 H2:Hp) (σ:L2.St) (ρ:ĺ),Rel K c F2 H2 σ ρ->Same F F2->Same L H2->Ũ K.K H2 a xs/\ĕ K F2 ps xs):Jw K L F (Itv K.K a xs.length) ps.reverse:=by
 intro c i F2 H2 σ ρ rel sF sL
 obtain⟨h1,h2⟩:=hq c F2 H2 σ ρ rel sF sL
 refine⟨λp hp=>?_,λhi=>⟨by rw[hi,List.length_reverse,hn],xs,h1⟩⟩
 have hi:i<ps.length:=by have:=(List.getElem?_eq_some_iff.mp hp).1;simpa using this
 rw[List.getElem?_reverse hi] at hp
 obtain⟨u,hu,ru⟩:=bf h2.pr hp
 rw[hn] at hu
 refine⟨⟨xs,u,h1,rfl,by omega,hu⟩,λx H' ⟨hH,hx⟩=>?_⟩
 subst hH
 have:=hx xs h1
 rw[hu] at this
 cases this
 exact⟨F2,rel,Same.refl _,Same.refl _,ru⟩
def Zah{m:M PV}(hg:Gl X "reversed")(hm:X.mg "reversed" =none)(hl:PE X l (tV (kk X cm) E m))(hs:starEach [l] X.env=[(false,eval l X.env)]:=by exact aM rfl):PI X tg (.Call (.Name "reversed" p) [l] [] pos) (tI (kk X cm) E (zA (mLs m))):=
 λpins s σ H R I h=>Vc hg hm (aP hl jA hs) hs pins s σ H R I (by
  obtain⟨c,F,ρ,rel,h⟩:=h
  unfold zA mLs at h
  rw[Res.Aw] at h
  refine⟨c,F,ρ,rel,h.bind λq ρ1 v F1 H1 ē s1 s2 r1 h1=>?_⟩
  cases q with
  |lst ps=>
   have r1':Rep (kk X cm) F1 (.lst ps) v:=r1
   unfold Rep at r1'
   obtain⟨a,xs,rfl,e1,e2⟩:=r1'
   exact⟨a,xs,rfl,ē.sub.seq e1,h1 _ F1 H1 ē (Same.refl _) (Same.refl _) (E_ (H:=H1) e2.length λc' F2 H2 σ2 ρ2 Ĳ sF _=>⟨(sF.trans Ĳ.sub).seq e1,ĕ.same sF _ _ e2⟩)⟩
  |_=>exact h1.elim)
def Fb(m:M PV):M RV:=λρ=>(m ρ).bind λp ρ1=>match p with
 | .lst ps=>.ok (.ow ps.reverse) ρ1
 |_=>.bad
@[simp] theorem Zbu{m:M PV}{ρ:ĺ}:Fb m ρ=(m ρ).bind fun p ρ1=>match p with
  | .lst ps=>.ok (.ow ps.reverse) ρ1
  |_=>.bad:=rfl
theorem uW:∀{xs:List V} {us:List Value},Vals xs us->Vals xs.reverse us.reverse
 |_,_,.nil=>.nil
 |_,_,.cons r t=>by
  rw[List.reverse_cons,List.reverse_cons]
  exact(uW t).append (.cons r .nil)
def Zai(K:PySem.W.Frag)(ta:TA):TE:=λσ H Q=>ta σ H λvs H1=>∃a xs,vs=[.ref a]/\Ũ K H1 a xs/\∀l,H1 l=none->Q (.ref l) (upd H1 l (.lst xs.reverse))
def Ka{ta:TA}(hc:X.calm=true)(hg1:Gl X "list")(hm1:X.mg "list" =none)(hg:Gl X "reversed")(hm:X.mg "reversed" =none)(ha:PA X [l] ta)(hs:starEach [l] X.env=[(false,eval l X.env)]) :
 PE X (.Call (.Name "list" p1) [.Call (.Name "reversed" p) [l] [] pos] [] pos1) (Zai X.K ta):=by
 intro pins s σ H Q I h
 refine Call_ (eY I hg1 hm1 PySem.Pv.boot_list (PyProof.Rows.callWith_type1 ?_ rfl rfl))
 refine Calls.spliced_cons ?_
 refine Call_ (eY I hg hm boot_reversed (PyProof.Rows.callWith_type1 (ő (ha pos pins s σ H _ I h) λus s1 ⟨vs,H1,I1,r1,q1⟩=>?_) hs rfl))
 obtain⟨a,xs,e,hq,q⟩:=q1
 subst e
 obtain⟨u,rfl,ru⟩:=r1.one
 cases ru
 obtain⟨its,rv,pl,hz⟩:=I1.list hq
 obtain⟨oa,hoa,_⟩:=id pl.isList
 refine call_reversed_list pl.isList (Calls.spliced_nil ?_)
 have hsz:its.toArray.size<=sizeLine:=by rw[List.size_toArray,<-rv.length];exact hz
 have hS:(s1.heap.push (revObj a ((its.toArray.size:Int)-1))).objs.size=s1.heap.objs.size+1:=size_push' ..
 refine pF (I:=s1.heap.objs.size) (l:=a) (items:=its.toArray) (I1.ok.hd hc) ⟨_,Heap.get?_push_size _ rfl,rfl,rfl⟩ (pl.isList.at λo e=>Heap.get?_push_of_some _ e) (Nat.ne_of_lt (Heap.lt_size hoa)) hsz λh' tk acc' c' hk hD hI=>?_
 have ea:acc'.toList=its.reverse:=by
  refine List.ext_getElem? λi=>?_
  by_cases hi:i<its.length
  ·have hi2:i<acc'.size:=by rw[hI.1];simpa using hi
   have e1:=hI.2 i acc'[i] (Array.getElem?_eq_getElem hi2)
   rw[List.getElem?_reverse hi]
   have e2:its[its.length-1-i]?=some acc'[i]:=by simpa using e1
   rw[e2]
   simp[hi2]
  ·rw[List.getElem?_eq_none (by have:=hI.1;simp at this ⊢;omega),List.getElem?_eq_none (by simp;omega)]
 refine⟨.ref _,_,I1.laid (a:=(s1.heap.push (revObj a ((its.toArray.size:Int)-1))).objs.size) (t':=tk) (λb o e=>hk b o (Nat.ne_of_lt (Heap.lt_size e)) (Heap.get?_push_of_some _ e)) (by rw[hS];exact Nat.le_succ _) (show ŧ X.prog X.w _ h' _ (.lst xs.reverse) from⟨by rw[List.length_reverse];exact hz,acc'.toList,c',?_,by simpa using hD⟩),rfl,q _ (I1.hok.fresh (by rw[hS];exact Nat.le_succ _))⟩
 rw[ea]
 exact uW rv
def Vd{m:M PV}(hc:X.calm=true)(hg1:Gl X "list")(hm1:X.mg "list" =none)(hg:Gl X "reversed")(hm:X.mg "reversed" =none)(hl:PE X l (tR (kk X cm) E m))(hs:starEach [l] X.env=[(false,eval l X.env)]:=by exact aM rfl) :
 PE X (.Call (.Name "list" p1) [.Call (.Name "reversed" p) [l] [] pos] [] pos1) (tO (kk X cm) E (Fb m)):=
 PE.wk (Ka hc hg1 hm1 hg hm (aP hl jA hs) hs) fun σ H Q ⟨c,F,ρ,rel,h⟩=>⟨c,F,ρ,rel,h.bind fun q ρ1 v F1 H1 ē s1 s2 r1 h1=>by
   cases q with
   |lst ps=>
    have r0:rR (kk X cm) c σ ρ1 F1 H1 (.lst ps) v:=r1
    obtain⟨a,xs,rfl,q1,q2⟩:=r0.lst ē.sub
    refine⟨a,xs,rfl,q1,λl hl=>?_⟩
    obtain⟨k1,k2⟩:=cM ē hl (ĕ.of (CW q2.pr))
    exact h1 _ _ _ k1 (Same.refl _) (Same.upd hl) k2
   |_=>exact h1.elim⟩
end
end P
namespace P
open PySem PySem.Spec PyProof.Rows L2 M2 M3 M4
mutual
def jk(K:PySem.W.Frag):PV->Value->Bool
 | .int i,v=>match v with
   | .int j _=>decide (i=j)
   |_=>false
 | .tup ps,v=>match v with
   | .ref a=>match K.lookup a with
     |some o=>(match o.cls with
      | .type t=>decide (t= "tuple")
      |_=>false) && match o.data with
      | .seq its _=>decide (its.size<=16777216) && Fd K ps its.toList
      |_=>false
     |none=>false
   |_=>false
 |_,_=>false
def Fd(K:PySem.W.Frag):List PV->List Value->Bool
 | [],vs=>vs.isEmpty
 |p::ps,vs=>match vs with
  |v::r=>jk K p v && Fd K ps r
  | []=>false
end
mutual
theorem zB{K:KK}:∀(p:PV) (v:Value),jk K.K p v=true->∃x,RelV x v/\∀F,Rep K F p x
 | .int i,v,h=>by
   unfold jk at h
   split at h
   ·rename_i j t
    have:=of_decide_eq_true h
    subst this
    exact⟨.int i,⟨t,rfl⟩,λF=>by unfold Rep;rfl⟩
   ·cases h
 | .tup ps,v,h=>by
   unfold jk at h
   split at h
   ·rename_i a
    split at h
    ·rename_i o ho
     rw[Bool.and_eq_true] at h
     obtain⟨h1,h2⟩:=h
     split at h1
     ·rename_i t ht
      have et:=of_decide_eq_true h1
      subst et
      split at h2
      ·rename_i its n hd
       rw[Bool.and_eq_true] at h2
       obtain⟨xs,h3,h4⟩:=uX ps its.toList h2.2
       refine⟨.ref a,rfl,λF=>?_⟩
       unfold Rep
       exact⟨a,xs,rfl,.inr ⟨o,its,n,ho,ht,hd,by rw[ĳ];exact of_decide_eq_true h2.1,h3⟩,h4 F⟩
      ·cases h2
     ·cases h1
    ·cases h
   ·cases h
 | .non,_,h=>by unfold jk at h;cases h
 | .bl _,_,h=>by unfold jk at h;cases h
 | .str _,_,h=>by unfold jk at h;cases h
 | .lst _,_,h=>by unfold jk at h;cases h
 | .ins _ _ _,_,h=>by unfold jk at h;cases h
 | .xc _ _ _,_,h=>by unfold jk at h;cases h
 | .ty _,_,h=>by unfold jk at h;cases h
 | .cls _,_,h=>by unfold jk at h;cases h
theorem uX{K:KK}:∀(ps:List PV) (vs:List Value),Fd K.K ps vs=true->∃xs,Vals xs vs/\∀F,ĕ K F ps xs
 | [],vs,h=>by
   unfold Fd at h
   cases vs with
   |nil=>exact⟨[],.nil,λF=>ĕ.nil⟩
   |cons _ _=>cases h
 |p::ps,vs,h=>by
  unfold Fd at h
  cases vs with
  |nil=>cases h
  |cons v r=>
   rw[Bool.and_eq_true] at h
   obtain⟨x,h1,h2⟩:=zB p v h.1
   obtain⟨xs,h3,h4⟩:=uX ps r h.2
   exact⟨x::xs,.cons h1 h3,λF=>ĕ.cons (h2 F) (h4 F)⟩
end
def Kc{K:KK}{p:PV}{a:Addr}(h:jk K.K p (.ref a)=true)(F:Hp):Rep K F p (.ref a):=by
 obtain⟨x,h1,h2⟩:=zB p _ h
 cases x with
 |ref b=>
  have e:Value.ref a=Value.ref b:=h1
  cases e
  exact h2 F
 |non=>cases(show Value.ref a=Value.none from h1)
 |bl b=>cases(show Value.ref a=Value.bool b from h1)
 |int i=>obtain⟨t,e⟩:=(show ∃t,Value.ref a=Value.int i t from h1);cases e
 |str i=>obtain⟨t,e⟩:=(show ∃t,Value.ref a=Value.str i t from h1);cases e
 |ty n=>cases(show Value.ref a=Value.type n from h1)
 |HW i=>obtain⟨t,e⟩:=(show ∃t,Value.ref a=Value.bytes i t from h1);cases e
 |flt i=>obtain⟨t,e⟩:=(show ∃t,Value.ref a=Value.float i t from h1);cases e
end P
namespace P
open PySem PySem.Spec PyProof.Rows L2 M2 M3 M4
section
variable{X:Cx}{cm:String->Addr}{E:L2.St->XK}{tg:Expr}{a b d:Expr}{p pos:Pos}{mr:M (List PV)}
end
end P
namespace P
open PySem PySem.Spec PyProof.Rows L2 M2 M3 M4
section
variable{X:Cx}{cm:String->Addr}{E:L2.St->XK}
end
end P
namespace My
end My
namespace Hu
abbrev Pt:=Int×Int
def tn(a b c:Pt):Int:=(b.1-a.1)*(c.2-a.2)-(b.2-a.2)*(c.1-a.1)
section
variable{S:List Pt}{p:Pt}
end
abbrev Ln:=Int×Int×Int
def hd(l:Ln)(p:Pt):Bool:=decide (l.1*p.1+l.2.1*p.2<=l.2.2)
def Z5(a b:Pt):Ln:=(b.2-a.2,a.1-b.1,(b.2-a.2)*a.1+(a.1-b.1)*a.2)
def Z24{a b s:Pt}:hd (Z5 a b) s=true↔0<=tn a b s:=by
 unfold hd Z5
 rw[decide_eq_true_iff]
 have e:tn a b s=((b.2-a.2)*a.1+(a.1-b.1)*a.2)-((b.2-a.2)*s.1+(a.1-b.1)*s.2):=by simp only[tn];grind
 dsimp only
 omega
def Z4(S:List Pt):List Pt:=S.foldl (λk x=>if x∈k then k else k ++ [x]) []
theorem Z0g(x:Pt):∀(S k:List Pt),x∈S.foldl (λk x=>if x∈k then k else k ++ [x]) k↔x∈k\/x∈S
 | [],k=>by simp
 |y::S,k=>by
  rw[List.foldl_cons,Z0g x S]
  by_cases h:y∈k
  ·rw[if_pos h]
   constructor
   ·rintro (q|q)
    ·exact .inl q
    ·exact .inr (List.mem_cons_of_mem _ q)
   ·rintro (q|q)
    ·exact .inl q
    ·rcases List.mem_cons.mp q with e|e
     ·exact .inl (e▸h)
     ·exact .inr e
  ·rw[if_neg h]
   simp only[List.mem_append,List.mem_cons,List.not_mem_nil,or_false]
   constructor
   ·rintro ((q|q)|q)
    ·exact .inl q
    ·exact .inr (.inl q)
    ·exact .inr (.inr q)
   ·rintro (q|q|q)
    ·exact .inl (.inl q)
    ·exact .inl (.inr q)
    ·exact .inr q
def Zo{x:Pt}{S:List Pt}:x∈Z4 S↔x∈S:=by unfold Z4;rw[Z0g];simp
def ZC(S:List Pt):List Ln:=(Z4 S).flatMap λa=>(Z4 S).filterMap λb=>if a≠b/\(Z4 S).all (hd (Z5 a b)) then some (Z5 a b) else none
def Z1d{S:List Pt}{l:Ln}:l∈ZC S↔∃a∈S,∃b∈S,a≠b/\(∀s∈S,0<=tn a b s)/\l=Z5 a b:=by
 unfold ZC
 simp only[List.mem_flatMap,List.mem_filterMap]
 constructor
 ·rintro ⟨a,ha,b,hb,h⟩
  split at h
  ·rename_i hc
   refine⟨a,Zo.mp ha,b,Zo.mp hb,hc.1,λs hs=>?_,(Option.some.inj h).symm⟩
   exact Z24.mp (List.all_eq_true.mp hc.2 s (Zo.mpr hs))
  ·cases h
 ·rintro ⟨a,ha,b,hb,h1,h2,rfl⟩
  refine⟨a,Zo.mpr ha,b,Zo.mpr hb,?_⟩
  rw[if_pos ⟨h1,List.all_eq_true.mpr λs hs=>Z24.mpr (h2 s (Zo.mp hs))⟩]
def mx(l:List Int):Int:=l.tail.foldl max (l.headD 0)
def mn(l:List Int):Int:=l.tail.foldl min (l.headD 0)
def box(S:List Pt):List Ln:=[(1,0,mx (S.map (·.1))),(-1,0,- mn (S.map (·.1))),(0,1,mx (S.map (·.2))),(0,-1,- mn (S.map (·.2)))]
def Zq(S:List Pt):List Ln:=box S++ZC S
def Z0U(S:List Pt)(p:Pt):Option Ln:=(Zq S).find? λl=>!hd l p
def at_(S:List Pt)(i:Nat):Pt:=S.getD i (0,0)
structure Z32(S:List Pt)(p:Pt)(w:List Int)(q:List Nat):Prop where
 len:w.length=q.length
 sum:w.sum≠0
 sign:∀s∈w,0<=s*w.sum
 nd:q.Nodup
 lt:∀i∈q,i<S.length
 x:((w.zip q).map λa=>a.1*(at_ S a.2).1).sum=w.sum*p.1
 y:((w.zip q).map λa=>a.1*(at_ S a.2).2).sum=w.sum*p.2
end Hu
namespace Fr
end Fr
namespace T
open PySem L2 M2 M3 M4 P
noncomputable section
def top(i:Nat):Stmt:=PySem.Challenge.pw_shadowpost_k62_a_walk.main.body.getD i (.Pass ⟨0,0,0,0⟩)
abbrev Le:Stmt:=top 68
abbrev Lf:Stmt:=top 62
abbrev Lg:Stmt:=top 63
abbrev Li:Stmt:=top 67
abbrev Lj:Stmt:=top 69
abbrev Zaj:Stmt:=inClass (top 26) 0
abbrev Lk:Stmt:=top 27
abbrev Lp:Stmt:=top 30
abbrev Lq:Stmt:=top 29
abbrev Lr:Stmt:=top 31
abbrev Ls:Stmt:=top 14
abbrev Lw:Stmt:=top 28
abbrev Lx:Stmt:=top 8
abbrev Ly:Stmt:=top 10
abbrev Lz:Stmt:=top 9
abbrev LC:Stmt:=top 7
abbrev LQ:Stmt:=top 11
abbrev LR:Stmt:=top 12
abbrev L_:Stmt:=top 16
abbrev Zak:Stmt:=top 52
abbrev Ma:Stmt:=top 53
abbrev Mf:Stmt:=inClass (top 55) 0
abbrev Zal:Stmt:=inClass (top 56) 0
abbrev Mg:Stmt:=inClass (top 57) 0
abbrev Zam:Stmt:=inClass (top 58) 0
abbrev Zan:Stmt:=inClass (top 59) 0
abbrev Mh:Stmt:=top 18
abbrev Mi:Stmt:=top 20
abbrev Mj:Stmt:=top 21
abbrev Ml:Stmt:=top 22
abbrev Zao:Stmt:=top 23
abbrev Mp:Stmt:=top 24
abbrev Mq:Stmt:=top 15
abbrev Zap:Stmt:=top 34
abbrev Fe:Stmt:=top 35
abbrev Mr:Stmt:=top 36
abbrev Ms:Stmt:=top 37
abbrev Mt:Stmt:=top 38
abbrev Mu:Stmt:=top 39
abbrev Mv:Stmt:=top 40
abbrev Mw:Stmt:=top 70
abbrev Mx:Stmt:=top 72
abbrev Mz:Stmt:=top 71
abbrev MJ:Stmt:=top 73
abbrev MK:Stmt:=top 65
abbrev MN:Stmt:=top 64
abbrev MP:Stmt:=top 66
abbrev M_:Stmt:=top 44
abbrev Nb:Stmt:=top 45
abbrev Nf:Stmt:=top 47
abbrev Zaq:Stmt:=inClass (top 54) 0
abbrev Ng:Stmt:=top 48
abbrev Nh:Stmt:=top 49
abbrev Zar:Stmt:=top 50
abbrev Zas:Stmt:=top 46
abbrev Ni:Stmt:=top 51
abbrev Nj:Stmt:=top 60
abbrev Nk:Stmt:=top 74
def cmB(c0:Addr)(c1:Addr)(c2:Addr)(c3:Addr)(c4:Addr)(c5:Addr)(c6:Addr):String->Addr:=λs=>match s with
 | "Yard" =>c0
 | "Thing" =>c1
 | "Post" =>c2
 | "Fence" =>c3
 | "Sail" =>c4
 | "Cloth" =>c5
 | "House" =>c6
 |_=>0
def fQ:M Fl:=(Ę (bG (gR (aq (Ă ŋ (Ă Ī (Ă ŏ (Ā 0) (mC (.int 7))) (mC (.int 16))) (mC (.int 11)))) (aq (Ă wK (Ā 1) (mC (.int 6)))))
 (ģ (ň (Ă Č (đ (Ž (ą (ŉ (ą (mC (.int 1)) (ą (mC (.int 20)) ė))) (ą (ŉ (ą (mC (.int 20)) (ą (mC (.int 1)) ė))) ė)))) (Ă Ī (Ā 0) (mC (.int 2))))))
 dB)
 (Ę (ĥ 2 (ġ ĝ (mC (.int 1)) (Ă Ī (Ā 0) (aG qb (ą (mC (.int 5)) (ą (Ā 1) ė))))))
 (ģ (ň (ŉ (ą (ğ 2) (ą (đ (ġ ĝ (mC (.int 1)) (Ă Ī (Ă ŏ (Ā 0) (mC (.int 5))) (aG qb (ą (mC (.int 4)) (ą (Ă ŏ (Ā 1) (Ā 2)) ė)))))) ė)))))))
def fU:MF:=İ 2 3 fQ
def xq:M Fl:=(Ę (bG (aq (Ă iC (Ā 1) (aG aU (ą (Ā 0) ė))))
 (ģ (ň (Ă Č (Ā 0) (Ā 1))))
 dB)
 (ģ (ň (mC (.int 0)))))
def Ŀ:MF:=İ 2 2 xq
def jN:M Fl:=(bG (aq (Ă ŋ (Ă Ī (Ā 0) (mC (.int 2))) (mC (.int 0))))
 (Ę (jd 2 (Ă Ī (Ā 3) (mC (.int 524287))))
 (ĥ 3 (ň (Ă ŏ (Ā 3) (mC (.int 524287))))))
 (Ę (ĥ 3 (ň (Ă Ī (đ (ġ ĝ (đ (ġ ĝ (Ă ħ (Ā 3) (mC (.int 49157))) (mC (.int 24593)))) (Ă ħ (mC (.int 2)) (Ā 4)))) (mC (.int 8388593)))))
 (jd 2 (Ă ŏ (Ā 3) (mC (.int 16))))))
def xr:M Fl:=(Ę (ĥ 2 (Ž ė))
 (Ę (ĥ 3 (ň (Ă ŏ (Ā 0) (mC (.int 2)))))
 (Ę (bG (aq (Ă ŋ (Ă Ī (Ā 0) (mC (.int 2))) (mC (.int 1))))
 (ĥ 3 (ň (Ă Ī (Ā 3) (mC (.int 8388593)))))
 dB)
 (Ę (jH (bZ cQ (ą (ğ 1) ė)) (gN 4) jN)
 (ģ (gP 2))))))
def nF:MF:=İ 2 5 xr
def xu:M Fl:=(Ę (bG (aq (Ă ŋ (Ă Ī (Ă Č (Ā 0) (mC (.int 4))) (mC (.int 6))) (mC (.int 4))))
 (ģ (ň (mC .non)))
 dB)
 (Ę (ĥ 1 (ň (Ă Č (đ (Ž (ą (mC (.int 1)) (ą (mC (.int 1)) (ą (mC (.int 3)) (ą (Ă mO (mC (.int 10)) (mC (.int 5))) ė)))))) (Ă Ī (Ă Č (Ā 0) (mC (.int 3))) (mC (.int 4))))))
 (ģ (ň (ŉ (ą (Ă ħ (Ă ŕ (Ă Ī (Ă Č (Ā 0) (mC (.int 0))) (mC (.int 13))) (mC (.int 6))) (Ā 1)) (ą (Ă ħ (Ă ŕ (Ă Ī (Ă Č (Ā 0) (mC (.int 1))) (mC (.int 13))) (mC (.int 6))) (Ā 1)) (ą (Ă ħ (đ (ġ ĝ (mC (.int 1)) (Ă Ī (Ă Č (Ā 0) (mC (.int 2))) (mC (.int 5))))) (Ā 1)) ė))))))))
def nG:MF:=İ 1 2 xu
def rZ:M Fl:=(Ę (ĥ 8 (č nF (Ĉ (đ (ġ ĝ (Ă ŏ (đ (č Ŀ (Ą 0 (Ĉ (đ (ġ ĝ (Ā 1) (Ā 7))) Ċ)))) (mC (.int 12))) (Ă ħ (mC (.int 5)) (Ā 7)))) (Ĉ (đ (ġ ĝ (Ă ħ (mC (.int 5)) (Ā 3)) (mC (.int 2)))) Ċ))))
 (Ę (ĥ 9 (Ł [8] 1 (bZ cQ (ą (đ (ġ ĝ (mC (.int 1)) (Ă Ī (Ă Č (Ā 8) (mC (.int 1))) (Ā 3)))) ė)) (gN 1) Ľ (đ (č nG (Ĉ (đ (wL (Ā 0) (mP (đ (ġ ĝ (mC (.int 2)) (Ă ħ (mC (.int 5)) (Ā 1))))) (mP (đ (ġ ĝ (mC (.int 7)) (Ă ħ (mC (.int 5)) (Ā 1))))))) Ċ)))))
 (jd 6 (ŉ (ą (Ă Č (Ā 4) (Ā 7)) (ą (đ (ġ ĝ (mC (.int 1)) (Ă Ī (Ă ħ (Ă Č (Ā 8) (mC (.int 0))) (mC (.int 1907))) (Ă mO (mC (.int 10)) (mC (.int 9)))))) (ą (ğ 9) ė)))))))
def Fg:M Fl:=(Ę (ĥ 4 (Ž (ą (mC (.str "ab")) (ą (mC (.str "a")) (ą (mC (.str "abc")) (ą (mC (.str "b")) (ą (mC (.str "ba")) (ą (mC (.str "z")) (ą (mC (.str "zz")) (ą (mC (.str "zzz")) (ą (mC (.str "abcdefgh")) (ą (mC (.str "abcdefgi")) (ą (mC (.str "aa")) (ą (mC (.str "bb")) ė))))))))))))))
 (Ę (ĥ 5 (ň (Ă Ī (đ (č Ŀ (Ą 0 (Ą 1 Ċ)))) (mC (.int 12)))))
 (Ę (ĥ 4 (ġ ĝ (đ (wL (Ā 4) (mP (ğ 5)) uK)) (đ (wL (Ā 4) uK (mP (ğ 5))))))
 (Ę (ĥ 6 (Ž ė))
 (Ę (jH (bZ cQ (ą (ğ 2) ė)) (gN 7) rZ)
 (ģ (gP 6)))))))
def jl:MF:=İ 4 10 Fg
def Fi:M Fl:=(Ę (gW 0 ["Yard"] "width" (ğ 1))
 (Ę (gW 0 ["Yard"] "height" (ğ 2))
 (Ę (gW 0 ["Yard"] "things" (đ (lC cT (ą (Ā 3) ė))))
 (gW 0 ["Yard"] "days" (đ (Ł [] 3 (Ŕ 4) (gT 3 (ĩ (gN 0) (ĩ (gN 1) (ĩ (gN 2) aD)))) Ľ (ŉ (ą (ğ 0) (ą (ğ 1) (ą (đ (lC cT (ą (Ā 2) ė))) ė))))))))))
def jm:MI:=bM 5 5 "Yard" Fi
def jO:M Fl:=(ģ (ň (fu (mK je iC (mC (.int 0)) (Ă Č (Ā 1) (mC (.int 0))) (bI (Ō ["Yard"] "width") (Ā 0))) (mK je iC (mC (.int 0)) (Ă Č (Ā 1) (mC (.int 1))) (bI (Ō ["Yard"] "height") (Ā 0))))))
def dY:MF:=İ 2 2 jO
def Fj:M Fl:=(bG (bJ (bF (đ (č dY (Ą 0 (Ą 1 Ċ))))))
 Dk
 dB)
def uY:MF:=İ 2 2 Fj
def su:M Fl:=(ģ (ň (mK je iC (mC (.int 0)) (Ā 1) (aG aU (ą (bI (Ō ["Yard"] "days") (Ā 0)) ė)))))
def ql:MF:=İ 2 2 su
def Fo:M Fl:=(bG (bJ (bF (đ (č ql (Ą 0 (Ą 1 Ċ))))))
 Dk
 dB)
def zE:MF:=İ 2 2 Fo
def Fp:M Fl:=(ģ (ġ ĝ (Ă ħ (Ă Č (Ā 0) (mC (.int 1))) (Ā 1)) (Ă Č (Ā 0) (mC (.int 0)))))
def kE:MF:=İ 2 2 Fp
def Fq:M Fl:=(ģ (ň (Ă Č (Ă Č (bI (Ō ["Yard"] "days") (Ā 0)) (Ā 1)) (mC (.int 2)))))
def zF:MF:=İ 2 2 Fq
def Ft:M Fl:=(Ę (ĥ 1 (Ł [] 1 (Ŕ 0) (gN 0) Ľ (Ă Č (Ā 0) (mC (.int 0)))))
 (Ę (ĥ 2 (Ł [] 1 (Ŕ 0) (gN 0) Ľ (Ă Č (Ā 0) (mC (.int 1)))))
 (ģ (Ž (ą (ŉ (ą (mC (.int 1)) (ą (mC (.int 0)) (ą (aG gY (ą (Ā 1) ė)) ė)))) (ą (ŉ (ą (bI aN (mC (.int 1))) (ą (mC (.int 0)) (ą (bI aN (aG qg (ą (Ā 1) ė))) ė)))) (ą (ŉ (ą (mC (.int 0)) (ą (mC (.int 1)) (ą (aG gY (ą (Ā 2) ė)) ė)))) (ą (ŉ (ą (mC (.int 0)) (ą (bI aN (mC (.int 1))) (ą (bI aN (aG qg (ą (Ā 2) ė))) ė)))) ė))))))))
def zG:MF:=İ 1 3 Ft
def jP:M Fl:=(bG (aq (Ă (inD true) (Ā 2) (Ā 1)))
 (jd 1 (ğ 2))
 dB)
def Fv:M Fl:=(Ę (ĥ 1 (Ž ė))
 (Ę (jH (Ŕ 0) (gN 2) jP)
 (ģ (gP 1))))
def zH:MF:=İ 1 3 Fv
def Fw:M Fl:=(Ę (ĥ 2 (ň (Ă ŕ (Ă Č (Ā 1) (mC (.int 1))) (Ă Č (Ā 0) (mC (.int 1))))))
 (Ę (ĥ 3 (ň (Ă ŕ (Ă Č (Ā 0) (mC (.int 0))) (Ă Č (Ā 1) (mC (.int 0))))))
 (ģ (ň (ŉ (ą (ğ 2) (ą (ğ 3) (ą (đ (ġ ĝ (Ă ħ (Ā 2) (Ă Č (Ā 0) (mC (.int 0)))) (Ă ħ (Ā 3) (Ă Č (Ā 0) (mC (.int 1)))))) ė))))))))
def zJ:MF:=İ 2 4 Fw
def Fx:M Fl:=(ģ (ň (Ă je (đ (ġ ĝ (Ă ħ (Ă Č (Ā 0) (mC (.int 0))) (Ă Č (Ā 1) (mC (.int 0)))) (Ă ħ (Ă Č (Ā 0) (mC (.int 1))) (Ă Č (Ā 1) (mC (.int 1)))))) (Ă Č (Ā 0) (mC (.int 2))))))
def qm:MF:=İ 2 2 Fx
def jQ:M Fl:=(Ę (ĥ 5 (č zJ (Ą 3 (Ą 4 Ċ))))
 (bG (gR (aq (Ă ū (Ā 3) (Ā 4))) (bF (aG m_ (ą (đ (Ł [5] 1 (Ŕ 2) (gN 1) Ľ (đ (č qm (Ą 0 (Ą 1 Ċ)))))) ė))))
 (jd 1 (ğ 5))
 dB))
def sy:M Fl:=(jH (Ŕ 2) (gN 4) jQ)
def Fy:M Fl:=(Ę (ĥ 1 (Ž ė))
 (Ę (ĥ 2 (č zH (Ą 0 Ċ)))
 (Ę (jH (Ŕ 2) (gN 3) sy)
 (ģ (gP 1)))))
def zK:MF:=İ 1 6 Fy
def Fz:M Fl:=(ģ (ġ ĝ (đ (č zG (Ą 0 Ċ))) (đ (č zK (Ą 0 Ċ)))))
def zL:MF:=İ 1 1 Fz
def FJ:M Fl:=(ģ (ň (ŉ (ą (đ (ġ ĝ (Ă ħ (Ă Č (Ā 1) (mC (.int 2))) (Ă Č (Ā 0) (mC (.int 0)))) (Ă ħ (Ă Č (Ā 1) (mC (.int 0))) (Ă Č (Ā 0) (mC (.int 2)))))) (ą (đ (ġ ĝ (Ă ħ (Ă Č (Ā 1) (mC (.int 2))) (Ă Č (Ā 0) (mC (.int 1)))) (Ă ħ (Ă Č (Ā 1) (mC (.int 1))) (Ă Č (Ā 0) (mC (.int 2)))))) ė)))))
def qt:MF:=İ 2 2 FJ
def Nm:M Fl:=(ģ (Ž (ą (ŉ (ą (ğ 0) (ą (ğ 1) (ą (ğ 4) ė)))) (ą (ŉ (ą (ğ 2) (ą (ğ 1) (ą (ğ 4) ė)))) (ą (ŉ (ą (ğ 2) (ą (ğ 3) (ą (ğ 4) ė)))) (ą (ŉ (ą (ğ 0) (ą (ğ 3) (ą (ğ 4) ė)))) ė))))))
def Ay:MF:=İ 5 5 Nm
def FN:M Fl:=(ģ (ġ ĝ (đ (č Ay (Ą 0 (Ą 1 (Ą 2 (Ą 3 (Ĉ (mC (.int 0)) Ċ))))))) (đ (č Ay (Ą 0 (Ą 1 (Ą 2 (Ą 3 (Ą 4 Ċ)))))))))
def uZ:MF:=İ 5 5 FN
def FP:M Fl:=(Ę (ĥ 1 (ň (Ă ħ (mC (.int 2)) (Ă Č (bI (Ō ["Thing","Post","Fence","Sail","Cloth","House"] "numbers") (Ā 0)) (mC (.int 0))))))
 (Ę (ĥ 2 (ň (Ă ħ (mC (.int 2)) (Ă Č (bI (Ō ["Thing","Post","Fence","Sail","Cloth","House"] "numbers") (Ā 0)) (mC (.int 1))))))
 (ģ (č uZ (Ĉ (Ă ŕ (Ā 1) (mC (.int 1))) (Ĉ (Ă ŕ (Ā 2) (mC (.int 1))) (Ĉ (đ (ġ ĝ (Ā 1) (mC (.int 1)))) (Ĉ (đ (ġ ĝ (Ā 2) (mC (.int 1)))) (Ĉ (Ă Č (bI (Ō ["Thing","Post","Fence","Sail","Cloth","House"] "numbers") (Ā 0)) (mC (.int 2))) Ċ)))))))))
def kI:MF:=İ 1 3 FP
def Np:M Fl:=(Ę (ĥ 1 (ň (bI (Ō ["Thing","Post","Fence","Sail","Cloth","House"] "numbers") (Ā 0))))
 (Ę (ĥ 2 (ň (ŉ (ą (Ă Č (Ā 1) (mC (.int 0))) (ą (Ă Č (Ā 1) (mC (.int 1))) ė)))))
 (Ę (ĥ 3 (ň (ŉ (ą (Ă Č (Ā 1) (mC (.int 2))) (ą (Ă Č (Ā 1) (mC (.int 3))) ė)))))
 (ģ (Ž (ą (đ (ġ ĝ (Ā 2) (ŉ (ą (mC (.int 0)) ė)))) (ą (đ (ġ ĝ (Ā 3) (ŉ (ą (mC (.int 0)) ė)))) (ą (đ (ġ ĝ (Ā 3) (ŉ (ą (Ă Č (Ā 1) (mC (.int 4))) ė)))) (ą (đ (ġ ĝ (Ā 2) (ŉ (ą (Ă Č (Ā 1) (mC (.int 4))) ė)))) ė)))))))))
def u_:MF:=İ 1 4 Np
def FQ:M Fl:=(Ę (ĥ 1 (ň (bI (Ō ["Thing","Post","Fence","Sail","Cloth","House"] "numbers") (Ā 0))))
 (ģ (č Ay (Ĉ (Ă Č (Ā 1) (mC (.int 0))) (Ĉ (Ă Č (Ā 1) (mC (.int 1))) (Ĉ (Ă Č (Ā 1) (mC (.int 2))) (Ĉ (Ă Č (Ā 1) (mC (.int 3))) (Ĉ (Ă Č (Ā 1) (mC (.int 4))) Ċ))))))))
def kJ:MF:=İ 1 2 FQ
def Nq:M Fl:=(ģ (Ł [0] 1 (œ (ŉ (ą (mC (.int 0)) (ą (mC (.int 3)) (ą (mC (.int 6)) ė))))) (gN 1) Ľ (aG mZ (ą (đ (wL (bI (Ō ["Thing","Post","Fence","Sail","Cloth","House"] "numbers") (Ā 0)) (mP (ğ 1)) (mP (đ (ġ ĝ (Ā 1) (mC (.int 3))))))) ė))))
def vd:MF:=İ 1 1 Nq
def Nr:M Fl:=(Ę (ĥ 1 (ň (bI (Ō ["Thing","Post","Fence","Sail","Cloth","House"] "numbers") (Ā 0))))
 (ģ (č uZ (Ĉ (Ă Č (Ā 1) (mC (.int 0))) (Ĉ (Ă Č (Ā 1) (mC (.int 1))) (Ĉ (Ă Č (Ā 1) (mC (.int 2))) (Ĉ (Ă Č (Ā 1) (mC (.int 3))) (Ĉ (Ă Č (Ā 1) (mC (.int 4))) Ċ))))))))
def vf:MF:=İ 1 2 Nr
def FT:M Fl:=(ģ (Ł [1] 1 (œ (đ (nq "corners" [("Post",kI),("Fence",u_),("Sail",kJ),("Cloth",vd),("House",vf)] (ğ 0) Ċ))) (gN 1) Ľ (đ (č qt (Ą 1 (Ą 0 Ċ))))))
def vg:MF:=İ 2 2 FT
def xG:M Fl:=(Ę (bG (aq (Ă iC (Ā 1) (Ā 0)))
 (ģ (ň (mC (.int 0))))
 dB)
 (ģ (ň (Ă ŕ (Ă uG (mC (.int 1)) (đ (ġ ĝ (Ā 1) (mC (.int 1))))) (Ă uG (mC (.int 1)) (Ā 0))))))
def qu:MF:=İ 2 2 xG
def cj:M Fl:=(Ę (ĥ 9 (ň (Ă ħ (Ā 6) (Ā 1))))
 (Ę (ĥ 10 (ň (Ă ŕ (Ā 8) (Ă ħ (Ă ħ (Ā 7) (Ā 1)) (Ā 2)))))
 (bG (aq (Ă wK (Ā 9) (mC (.int 0))))
 (ĥ 5 (ň (aG qb (ą (Ā 5) (ą (Ă ŏ (Ā 10) (Ā 9)) ė)))))
 (bG (aq (Ă iC (Ā 9) (mC (.int 0))))
 (ĥ 4 (ň (aG zm (ą (Ā 4) (ą (bI aN (Ă ŏ (Ā 10) (bI aN (Ā 9)))) ė)))))
 (bG (aq (Ă iC (Ā 10) (mC (.int 0))))
 (ģ (ň (mC (.int 0))))
 dB)))))
def xH:M Fl:=(Ę (ĥ 4 (ň (mC (.int 0))))
 (Ę (ĥ 5 (ň (Ă ŕ (Ā 3) (mC (.int 1)))))
 (Ę (jH (Ŕ 0) (gT 3 (ĩ (gN 6) (ĩ (gN 7) (ĩ (gN 8) aD)))) cj)
 (ģ (č qu (Ą 4 (Ą 5 Ċ)))))))
def vh:MF:=İ 4 11 xH
def sE:M Fl:=(uO 4 (Ă uG (đ (č vh (Ą 3 (Ĉ (Ă ħ (mC (.int 2)) (Ă Č (Ā 2) (mC (.int 2)))) (Ą 5 (Ĉ (bI (Ō ["Yard"] "width") (Ā 0)) Ċ)))))) (Ă ħ (Ā 5) (bI (Ō ["Yard"] "width") (Ā 0)))))
def FW:M Fl:=(Ę (ĥ 3 (č zL (Ĉ (đ (č vg (Ą 1 (Ą 2 Ċ)))) Ċ)))
 (Ę (ĥ 4 (ň (mC (.int 0))))
 (Ę (jH (bZ cQ (ą (bI (Ō ["Yard"] "height") (Ā 0)) ė)) (gN 5) sE)
 (ģ (gP 4)))))
def qw:MF:=İ 3 6 FW
def Nt:M Fl:=(ģ (Ł [0,1] 1 (œ (bI (Ō ["Yard"] "things") (Ā 0))) (gN 2) Ľ (đ (č qw (Ą 0 (Ą 2 (Ą 1 Ċ)))))))
def Kd:MF:=İ 2 2 Nt
def xJ:M Fl:=(uO 2 (ğ 3))
def xK:M Fl:=(Ę (bG (aq (Ă uJ (Ā 1) (mC .non)))
 (ģ (č qu (Ĉ (mC (.int 0)) (Ĉ (Ă ŕ (Ă ħ (bI (Ō ["Yard"] "width") (Ā 0)) (bI (Ō ["Yard"] "height") (Ā 0))) (mC (.int 1))) Ċ))))
 dB)
 (Ę (ĥ 2 (ň (mC (.int 0))))
 (Ę (jH (œ (đ (č Kd (Ą 0 (Ą 1 Ċ))))) (gN 3) xJ)
 (ģ (gP 2)))))
def gZ:MF:=İ 2 4 xK
def FZ:M Fl:=(ģ (ň (ŉ (ą (Ă Ī (Ā 0) (Ā 1)) (ą (Ă ŏ (Ā 0) (Ā 1)) ė)))))
def nH:MF:=İ 2 2 FZ
def Nu:M Fl:=(Ę (ĥ 2 (č nH (Ą 1 (Ĉ (bI (Ō ["Yard"] "width") (Ā 0)) Ċ))))
 (Ę (ĥ 3 (Ł [2] 2 (œ (mC (.tup [.tup [.int (-1),.int 0],.tup [.int 1,.int 0],.tup [.int 0,.int (-1)],.tup [.int 0,.int 1],.tup [.int 0,.int 0]]))) (gT 2 (ĩ (gN 1) (ĩ (gN 2) aD))) Ľ (ŉ (ą (đ (ġ ĝ (Ă Č (Ā 0) (mC (.int 0))) (Ā 1))) (ą (đ (ġ ĝ (Ă Č (Ā 0) (mC (.int 1))) (Ā 2))) ė)))))
 (ģ (Ł [0] 1 (Ŕ 3) (gN 1) (bF (đ (č dY (Ą 0 (Ą 1 Ċ))))) (đ (č kE (Ą 1 (Ĉ (bI (Ō ["Yard"] "width") (Ā 0)) Ċ))))))))
def Ke:MF:=İ 2 4 Nu
def sG:M Fl:=(Ę (ĥ 3 (Ł [2] 1 (œ (đ (č Ke (Ą 0 (Ą 1 Ċ))))) (gN 1) (aq (Ă jg (Ă Č (Ā 0) (Ā 1)) (mC .non))) (ğ 1)))
 (ģ (ň (xg [2] (Ă Č (Ā 0) (Ā 1)) (ą (Ā 3) ė)))))
def nJ:MF:=İ 3 4 sG
def sI:M Fl:=(Ę (bG (aq (Ă ŋ (Ā 1) (Ā 2)))
 (ģ (ň (mC (.int 0))))
 dB)
 (Ę (ĥ 4 (č nJ (Ą 0 (Ą 1 (Ą 3 Ċ)))))
 (ģ (ň (bG (aq (Ă uJ (Ā 4) (mC .non))) (mC .non) (Ă Č (Ā 3) (Ā 4)))))))
def qy:MF:=İ 4 5 sI
def nM:M Fl:=(Ę (ĥ 7 (č qy (Ą 0 (Ą 6 (Ą 2 (Ą 3 Ċ))))))
 (Ę (ĥ 8 (ň (Ă ŕ (mC (.int 1)) (Ă wI (Ă yZ (Ā 4) (Ā 6)) (mC (.int 1))))))
 (jd 5 (bG (aq (Ă uJ (Ā 7) (mC .non))) (mC .non) (đ (ġ ĝ (Ā 8) (Ā 7)))))))
def Ga:M Fl:=(Ę (ĥ 4 (č gZ (Ą 0 (Ą 1 Ċ))))
 (Ę (ĥ 5 (Ž ė))
 (Ę (jH (bZ cQ (ą (Ă ħ (bI (Ō ["Yard"] "width") (Ā 0)) (bI (Ō ["Yard"] "height") (Ā 0))) ė)) (gN 6) nM)
 (ģ (gP 5)))))
def zM:MF:=İ 4 9 Ga
def nO:M Fl:=(Ę (ĥ 4 (č zM (Ą 0 (Ą 5 (Ą 2 (Ą 4 Ċ))))))
 (jd 3 (ğ 4)))
def Gb:M Fl:=(Ę (ĥ 3 (Ž ė))
 (Ę (ĥ 4 (Ł [] 1 (bZ cQ (ą (Ă ħ (bI (Ō ["Yard"] "width") (Ā 0)) (bI (Ō ["Yard"] "height") (Ā 0))) ė)) (gN 0) Ľ (mC .non)))
 (Ę (jH (zA (mLs (đ (č zF (Ą 0 (Ą 1 Ċ)))))) (gN 5) nO)
 (ģ (Fb (Ā 3))))))
def zN:MF:=İ 3 6 Gb
def Gd:M Fl:=(š (aq (Ă ū (Ă Č (Ā 4) (bI aN (mC (.int 1)))) (Ā 2)))
 (jd 4 (đ (č nJ (Ą 0 (Ĉ (Ă Č (Ā 4) (bI aN (mC (.int 1)))) (Ĉ (Ă Č (Ā 3) (aG aU (ą (Ā 4) ė))) Ċ)))))))
def Ge:M Fl:=(Ę (ĥ 4 (Ž (ą (ğ 1) ė)))
 (Ę Gd
 (ģ (Ł [0] 1 (Ŕ 4) (gN 1) Ľ (đ (č nH (Ą 1 (Ĉ (bI (Ō ["Yard"] "width") (Ā 0)) Ċ))))))))
def zO:MF:=İ 4 5 Ge
def xM:M Fl:=(Ę (uz (đ (č uY (Ą 0 (Ą 2 Ċ)))))
 (Ę (uz (đ (č uY (Ą 0 (Ą 3 Ċ)))))
 (Ę (uz (đ (č zE (Ą 0 (Ą 1 Ċ)))))
 (Ę (ĥ 4 (č kE (Ą 2 (Ĉ (bI (Ō ["Yard"] "width") (Ā 0)) Ċ))))
 (Ę (ĥ 5 (č kE (Ą 3 (Ĉ (bI (Ō ["Yard"] "width") (Ā 0)) Ċ))))
 (Ę (ĥ 6 (č zN (Ą 0 (Ą 1 (Ą 5 Ċ)))))
 (Ę (bG (aq (Ă uJ (Ă Č (Ă Č (Ā 6) (mC (.int 0))) (Ā 4)) (mC .non)))
 (ģ (ň (ŉ (ą (mC (.str "none")) (ą (ğ 6) ė)))))
 dB)
 (ģ (Ep (rP (mC (.str "walk")) (rP (Ă Č (Ă Č (Ā 6) (mC (.int 0))) (Ā 4)) (Eo (č zO (Ą 0 (Ą 4 (Ą 5 (Ą 6 Ċ))))) 6))))))))))))
def jo:MF:=İ 4 7 xM
def Gf:M Fl:=(ģ (ň (fu (aG iD (ą (Ā 0) (ą (mC (.ty "int")) ė))) (Ud (aG iD (ą (Ā 0) (ą (mC (.ty "bool")) ė)))))))
def qC:MF:=İ 1 1 Gf
def Gg:M Fl:=(ģ (ġ ĝ (aG DN (ą (Ă ŕ (Ă Č (Ā 0) (mC (.int 0))) (Ă Č (Ā 1) (mC (.int 0)))) ė)) (aG DN (ą (Ă ŕ (Ă Č (Ā 0) (mC (.int 1))) (Ă Č (Ā 1) (mC (.int 1)))) ė))))
def qD:MF:=İ 2 2 Gg
def Gh:M Fl:=(Ę (bG (i_ (bJ (bF (aG iD (ą (Ā 0) (ą (mC (.ty "tuple")) ė))))) (i_ (aq (Ă ū (aG aU (ą (Ā 0) ė)) (mC (.int 2)))) (i_ (bJ (bF (đ (č qC (Ĉ (Ă Č (Ā 0) (mC (.int 0))) Ċ))))) (bJ (bF (đ (č qC (Ĉ (Ă Č (Ā 0) (mC (.int 1))) Ċ))))))))
 (ģ (ň (mC (.bl false))))
 dB)
 (ģ (ň (fu (mK je iC (mC (.int 0)) (Ă Č (Ā 0) (mC (.int 0))) (Ă Č (Ā 1) (mC (.int 0)))) (mK je iC (mC (.int 0)) (Ă Č (Ā 0) (mC (.int 1))) (Ă Č (Ā 1) (mC (.int 1))))))))
def qF:MF:=İ 2 2 Gh
def jR:M Fl:=(Ę (bG (gR (aq (Ă wK (Ā 6) (mC (.int 0)))) (aq (Ă wK (đ (č qD (Ĉ (Ă Č (Ā 4) (Ă ŕ (Ā 6) (mC (.int 1)))) (Ĉ (Ă Č (Ā 4) (Ā 6)) Ċ)))) (mC (.int 1)))))
 (ģ (ň (mC (.bl false))))
 dB)
 (Ę (ĥ 7 (ġ ĝ (Ă ħ (Ă Č (Ă Č (Ā 4) (Ā 6)) (mC (.int 1))) (Ă Č (Ā 1) (mC (.int 0)))) (Ă Č (Ă Č (Ā 4) (Ā 6)) (mC (.int 0)))))
 (Ę (bG (aq (Ă ū (Ă Č (Ă Č (Ă Č (Ā 0) (mC (.int 3))) (Ā 6)) (Ā 7)) (Ā 5)))
 (ģ (ň (mC (.bl false))))
 dB)
 (ĥ 5 (ġ ĝ (Ă ŕ (Ā 5) (mC (.int 1))) (Ă Ī (Ă yZ (Ă Č (Ā 2) (Ā 6)) (Ā 7)) (mC (.int 2))))))))
def Gi:M Fl:=(Ę (bG (i_ (aq (Ă ū (aG aU (ą (Ā 0) ė)) (mC (.int 4)))) (i_ (bJ (bF (đ (č qC (Ĉ (Ă Č (Ā 0) (mC (.int 1))) Ċ))))) (bJ (bF (aG iD (ą (Ă Č (Ā 0) (mC (.int 2))) (ą (mC (.ty "list")) ė)))))))
 (ģ (ň (mC (.bl false))))
 dB)
 (Ę (ĥ 4 (ň (Ă Č (Ā 0) (mC (.int 2)))))
 (Ę (bG (i_ (aq (Ă ŋ (Ā 4) (đ (Ž ė)))) (i_ (aq (Ă wK (aG aU (ą (Ā 4) ė)) (aG aU (ą (Ā 2) ė)))) (bJ (bF (aG m_ (ą (đ (Ł [1] 1 (Ŕ 4) (gN 1) Ľ (đ (č qF (Ą 1 (Ą 0 Ċ)))))) ė))))))
 (ģ (ň (mC (.bl false))))
 dB)
 (Ę (bG (i_ (aq (Ă ū (Ă Č (Ā 4) (mC (.int 0))) (Ă Č (Ā 3) (mC (.int 0))))) (aq (Ă ū (Ă Č (Ā 4) (bI aN (mC (.int 1)))) (Ă Č (Ā 3) (mC (.int 1))))))
 (ģ (ň (mC (.bl false))))
 dB)
 (Ę (ĥ 5 (ň (Ă Č (Ā 0) (mC (.int 1)))))
 (Ę (jH (bZ cQ (ą (aG aU (ą (Ā 4) ė)) ė)) (gN 6) jR)
 (ģ (ň (Ă ŋ (Ā 5) (mC (.int 0)))))))))))
def nP:MF:=İ 4 8 Gi
def xO:M Fl:=(Ę (bG (aq (Ă ŋ (Ă Ī (Ă ŏ (Ā 0) (mC (.int 512))) (mC (.int 12))) (mC (.int 7))))
 (ģ (ġ ĝ (mC (.int 1)) (Ă Ī (Ă ħ (Ā 0) (mC (.int 1907))) (Ă mO (mC (.int 10)) (mC (.int 9))))))
 dB)
 (ģ (ġ ĝ (mC (.int 1)) (Ă Ī (Ā 0) (mC (.int 9))))))
def qG:MF:=İ 1 1 xO
def xP:M Fl:=(Ę (bG (aq (Ă ŋ (Ă Ī (Ă ŏ (Ā 0) (mC (.int 512))) (mC (.int 16))) (mC (.int 5))))
 (ģ (ġ ĝ (Ă ŕ (Ă Ī (Ă ħ (Ā 0) (mC (.int 3813))) (Ă ŕ (Ă ħ (mC (.int 2)) (Ă mO (mC (.int 10)) (mC (.int 9)))) (mC (.int 99)))) (Ă mO (mC (.int 10)) (mC (.int 9)))) (mC (.int 50))))
 dB)
 (ģ (ň (Ă ŕ (Ă Ī (Ā 0) (đ (ġ ĝ (Ă ħ (mC (.int 2)) (Ā 1)) (mC (.int 9))))) (mC (.int 4))))))
def g_:MF:=İ 2 2 xP
def jT:M Fl:=(Ę (ĥ 2 (č nF (Ą 0 (Ĉ (mC (.int 14)) Ċ))))
 (Ę (Ju (gS 2 (ĩ (gN 5) (ĩ (gN 6) aD))) (đ (Ł [1,2] 1 (bZ cQ (ą (mC (.int 2)) ė)) (gN 2) Ľ (đ (č g_ (Ĉ (Ă Č (Ā 1) (Ā 2)) (Ą 0 Ċ)))))))
 (Ę (ĥ 3 (č qG (Ĉ (Ă Č (Ā 2) (mC (.int 2))) Ċ)))
 (Ę (ĥ 4 (ň (Ă Ī (Ă Č (Ā 2) (mC (.int 3))) (mC (.int 5)))))
 (Ę (bG (aq (Ă ŋ (Ā 4) (mC (.int 0))))
 (ģ (ň (ŉ (ą (mC (.str "post")) (ą (đ (Ž (ą (Ă ŏ (Ā 5) (mC (.int 2))) (ą (Ă ŏ (Ā 6) (mC (.int 2))) (ą (ğ 3) ė))))) ė)))))
 dB)
 (Ę (bG (aq (Ă ŋ (Ā 4) (mC (.int 1))))
 (Ę (Ju (gS 2 (ĩ (gN 7) (ĩ (gN 8) aD))) (đ (Ž (ą (Ă ŕ (đ (ġ ĝ (Ā 5) (Ă Ī (Ă Č (Ā 2) (mC (.int 4))) (mC (.int 9))))) (mC (.int 4))) (ą (Ă ŕ (đ (ġ ĝ (Ā 6) (Ă Ī (Ă Č (Ā 2) (mC (.int 5))) (mC (.int 9))))) (mC (.int 4))) ė)))))
 (ģ (ň (ŉ (ą (mC (.str "fence")) (ą (đ (Ž (ą (ğ 5) (ą (ğ 6) (ą (đ (ġ ĝ (Ā 7) (aG wQ (ą (Ă ŋ (ŉ (ą (ğ 5) (ą (ğ 6) ė))) (ŉ (ą (ğ 7) (ą (ğ 8) ė)))) ė)))) (ą (ğ 8) (ą (ğ 3) ė))))))) ė))))))
 dB)
 (Ę (bG (aq (Ă ŋ (Ā 4) (mC (.int 2))))
 (ģ (ň (ŉ (ą (mC (.str "cloth")) (ą (đ (ġ ĝ (đ (ġ ĝ (đ (Ž (ą (ğ 5) (ą (ğ 6) (ą (Ă Ī (Ă Č (Ā 2) (mC (.int 6))) (mC (.int 10))) ė))))) (đ (Ž (ą (đ (č g_ (Ĉ (Ă Č (Ā 2) (mC (.int 7))) (Ą 1 Ċ)))) (ą (đ (č g_ (Ĉ (Ă Č (Ā 2) (mC (.int 8))) (Ą 1 Ċ)))) (ą (ğ 3) ė))))))) (đ (Ž (ą (đ (č g_ (Ĉ (Ă Č (Ā 2) (mC (.int 9))) (Ą 1 Ċ)))) (ą (đ (č g_ (Ĉ (Ă Č (Ā 2) (mC (.int 10))) (Ą 1 Ċ)))) (ą (đ (č qG (Ĉ (Ă Č (Ā 2) (mC (.int 11))) Ċ))) ė))))))) ė)))))
 dB)
 (ģ (ň (ŉ (ą (Ă Č (đ (Ž (ą (mC (.str "sail")) (ą (mC (.str "house")) ė)))) (Ă ŕ (Ā 4) (mC (.int 3)))) (ą (đ (Ž (ą (ğ 5) (ą (ğ 6) (ą (đ (ġ ĝ (đ (ġ ĝ (Ā 5) (mC (.int 1)))) (Ă Ī (Ă Č (Ā 2) (mC (.int 4))) (mC (.int 8))))) (ą (đ (ġ ĝ (đ (ġ ĝ (Ā 6) (mC (.int 1)))) (Ă Ī (Ă Č (Ā 2) (mC (.int 5))) (mC (.int 8))))) (ą (ğ 3) ė))))))) ė))))))))))))
def fV:MF:=İ 2 9 jT
def Gj:M Fl:=(ģ (ň (mK je je (bI aN (mC (.int (1000000000)))) (Ā 0) (mC (.int (1000000000))))))
def kO:MF:=İ 1 1 Gj
def Gk:M Fl:=(ģ (ň (mK je je (mC (.int 1)) (Ā 0) (mC (.int (1000000000))))))
def vm:MF:=İ 1 1 Gk
def xQ:M Fl:=(ģ (ň (fu (Ă ŋ (aG aU (ą (Ā 0) ė)) (mC (.int 3))) (fu (đ (č kO (Ĉ (Ă Č (Ā 0) (mC (.int 0))) Ċ))) (fu (đ (č kO (Ĉ (Ă Č (Ā 0) (mC (.int 1))) Ċ))) (đ (č vm (Ĉ (Ă Č (Ā 0) (mC (.int 2))) Ċ))))))))
def vo:MF:=İ 1 1 xQ
def dZ:M Fl:=(Ę (gW 0 ["Thing","Post","Fence","Sail","Cloth","House"] "word" (ğ 1))
 (gW 0 ["Thing","Post","Fence","Sail","Cloth","House"] "numbers" (đ (lC cT (ą (Ā 2) ė)))))
def sJ:MI:=bM 3 3 "Post" dZ
def nQ:MI:=bM 3 3 "Fence" dZ
def sO:MI:=bM 3 3 "Sail" dZ
def nR:MI:=bM 3 3 "Cloth" dZ
def nT:MI:=bM 3 3 "House" dZ
def xR:M Fl:=(ģ (ň (fu (Ă ŋ (aG aU (ą (Ā 0) ė)) (mC (.int 5))) (fu (aG m_ (ą (đ (Ł [] 1 (œ (đ (wL (Ā 0) uK (mP (mC (.int 4)))))) (gN 0) Ľ (đ (č kO (Ą 0 Ċ))))) ė)) (đ (č vm (Ĉ (Ă Č (Ā 0) (mC (.int 4))) Ċ)))))))
def qH:MF:=İ 1 1 xR
def xT:M Fl:=(ģ (ň (fu (đ (č qH (Ą 0 Ċ))) (Ă ū (đ (wL (Ā 0) uK (mP (mC (.int 2))))) (đ (wL (Ā 0) (mP (mC (.int 2))) (mP (mC (.int 4)))))))))
def vp:MF:=İ 1 1 xT
def Gm:M Fl:=(ģ (ň (fu (đ (č qH (Ą 0 Ċ))) (fu (Ă iC (Ă Č (Ā 0) (mC (.int 0))) (Ă Č (Ā 0) (mC (.int 2)))) (Ă iC (Ă Č (Ā 0) (mC (.int 1))) (Ă Č (Ā 0) (mC (.int 3))))))))
def Az:MF:=İ 1 1 Gm
def Nv:M Fl:=(ģ (ň (fu (đ (č kO (Ĉ (Ă Č (Ā 0) (mC (.int 0))) Ċ))) (fu (đ (č kO (Ĉ (Ă Č (Ā 0) (mC (.int 1))) Ċ))) (mK je je (mC (.int 0)) (Ă Č (Ā 0) (mC (.int 2))) (mC (.int (1000000000))))))))
def Kf:MF:=İ 1 1 Nv
def xU:M Fl:=(ģ (ň (fu (Ă ŋ (aG aU (ą (Ā 0) ė)) (mC (.int 9))) (aG m_ (ą (đ (Ł [0] 1 (œ (ŉ (ą (mC (.int 0)) (ą (mC (.int 3)) (ą (mC (.int 6)) ė))))) (gN 1) Ľ (đ (č Kf (Ĉ (đ (wL (Ā 0) (mP (ğ 1)) (mP (đ (ġ ĝ (Ā 1) (mC (.int 3))))))) Ċ))))) ė)))))
def vq:MF:=İ 1 1 xU
def iI:M Fl:=(Ę (bG (gR (aq (Ă ŋ (Ā 0) (mC (.str "post")))) (bF (đ (č vo (Ą 1 Ċ)))))
 (ģ (ň (aO "Post" sJ (Ą 0 (Ą 1 Ċ)))))
 dB)
 (Ę (bG (gR (aq (Ă ŋ (Ā 0) (mC (.str "fence")))) (bF (đ (č vp (Ą 1 Ċ)))))
 (ģ (ň (aO "Fence" nQ (Ą 0 (Ą 1 Ċ)))))
 dB)
 (Ę (bG (gR (aq (Ă ŋ (Ā 0) (mC (.str "sail")))) (bF (đ (č Az (Ą 1 Ċ)))))
 (ģ (ň (aO "Sail" sO (Ą 0 (Ą 1 Ċ)))))
 dB)
 (Ę (bG (gR (aq (Ă ŋ (Ā 0) (mC (.str "cloth")))) (bF (đ (č vq (Ą 1 Ċ)))))
 (ģ (ň (aO "Cloth" nR (Ą 0 (Ą 1 Ċ)))))
 dB)
 (Ę (bG (gR (aq (Ă ŋ (Ā 0) (mC (.str "house")))) (bF (đ (č Az (Ą 1 Ċ)))))
 (ģ (ň (aO "House" nT (Ą 0 (Ą 1 Ċ)))))
 dB)
 Dk)))))
def cV:MF:=İ 2 2 iI
def xV:M Fl:=(Ę (ĥ 1 (č fU (Ĉ (đ (č Ŀ (Ą 0 (Ĉ (mC (.int 0)) Ċ)))) (Ĉ (mC (.int 9)) Ċ))))
 (Ę (ĥ 2 (Ł [1] 1 (œ (đ (wL (Ā 0) (mP (mC (.int 4))) (mP (mC (.int 7)))))) (gN 1) Ľ (đ (č fV (Ą 1 (Ĉ (aG gY (ą (Ā 0) ė)) Ċ))))))
 (Ę (ĥ 3 (č jl (Ą 0 (Ĉ (mC (.int 7)) (Ĉ (đ (ġ ĝ (mC (.int 1)) (Ă Ī (đ (č Ŀ (Ą 0 (Ĉ (mC (.int 1)) Ċ)))) (mC (.int 3))))) (Ĉ (mC (.int 6)) Ċ))))))
 (Ę (bG (aq (Ă ŋ (Ă Ī (Ă ŏ (đ (č Ŀ (Ą 0 (Ĉ (mC (.int 1)) Ċ)))) (mC (.int 9))) (mC (.int 16))) (mC (.int 5))))
 (Ę (ĥ 1 (ň (ŉ (ą (đ (ġ ĝ (mC (.int 1)) (Ă Ī (đ (č Ŀ (Ą 0 (Ĉ (mC (.int 0)) Ċ)))) (mC (.int 3))))) (ą (mC (.int 2)) ė)))))
 (Ę (ĥ 2 (wL (Ā 2) uK (mP (mC (.int 1)))))
 (ĥ 3 (č jl (Ą 0 (Ĉ (mC (.int 7)) (Ĉ (mC (.int 1)) (Ĉ (mC (.int 24)) Ċ))))))))
 dB)
 (Ę (ĥ 4 (ň (aO "Yard" jm (Ĉ (Ă Č (Ā 1) (mC (.int 0))) (Ĉ (Ă Č (Ā 1) (mC (.int 1))) (Ĉ (đ (Ł [] 2 (Ŕ 2) (gT 2 (ĩ (gN 0) (ĩ (gN 1) aD))) Ľ (đ (č cV (Ą 0 (Ĉ (đ (lC cT (ą (Ā 1) ė))) Ċ)))))) (Ą 3 Ċ)))))))
 (Ę (ĥ 5 (ň (Ă Ī (Ă ŏ (đ (č Ŀ (Ą 0 (Ĉ (mC (.int 1)) Ċ)))) (mC (.int 3))) (aG aU (ą (Ā 3) ė)))))
 (Ę (ĥ 6 (Ž (ą (ŉ (ą (Ă Ī (đ (č Ŀ (Ą 0 (Ĉ (mC (.int 2)) Ċ)))) (Ă Č (Ā 1) (mC (.int 0)))) (ą (Ă Ī (Ă ŏ (đ (č Ŀ (Ą 0 (Ĉ (mC (.int 2)) Ċ)))) (mC (.int 7))) (Ă Č (Ā 1) (mC (.int 1)))) ė))) ė)))
 (Ę (jd 6 (ŉ (ą (Ă Ī (đ (č Ŀ (Ą 0 (Ĉ (mC (.int 3)) Ċ)))) (Ă Č (Ā 1) (mC (.int 0)))) (ą (Ă Ī (Ă ŏ (đ (č Ŀ (Ą 0 (Ĉ (mC (.int 3)) Ċ)))) (mC (.int 7))) (Ă Č (Ā 1) (mC (.int 1)))) ė))))
 (Ę (ĥ 7 (Ł [4] 1 (œ (Ă Č (Ă Č (Ā 3) (Ā 5)) (mC (.int 2)))) (gN 1) Ľ (đ (č gZ (Ą 0 (Ą 1 Ċ))))))
 (Ę (ĥ 8 (č jo (Ą 4 (Ą 5 (Ĉ (Ă Č (Ā 6) (mC (.int 0))) (Ĉ (Ă Č (Ā 6) (mC (.int 1))) Ċ))))))
 (Ę (bG (ji 8 (i_ (bJ (bF (aG iD (ą (Ā 8) (ą (mC (.ty "tuple")) ė))))) (aq (Ă ū (aG aU (ą (Ā 8) ė)) (Ă Č (đ (Ž (ą (mC (.int 2)) (ą (mC (.int 4)) ė)))) (aG wQ (ą (Ă iC (đ (č qD (Ĉ (Ă Č (Ā 6) (mC (.int 0))) (Ĉ (Ă Č (Ā 6) (mC (.int 1))) Ċ)))) (aG aU (ą (Ā 7) ė))) ė)))))))
 (ģ (ň (mC (.bl false))))
 dB)
 (Ę (bG (ji 8 (aq (Ă ŋ (aG aU (ą (Ā 8) ė)) (mC (.int 2)))))
 (ģ (ň (Ă ŋ (Ă Č (Ā 8) (mC (.int 0))) (mC (.str "none")))))
 dB)
 (Ę (bG (ji 8 (i_ (aq (Ă ū (Ă Č (Ā 8) (mC (.int 0))) (mC (.str "walk")))) (bJ (bF (đ (č nP (Ą 8 (Ą 1 (Ą 7 (Ą 6 Ċ))))))))))
 (ģ (ň (mC (.bl false))))
 dB)
 (Ę (uQ 8 2 (Ă Č (Ā 6) (mC (.int 0))))
 (ģ (č nP (Ĉ (đ (č jo (Ą 4 (Ą 5 (Ĉ (Ă Č (Ā 6) (mC (.int 0))) (Ĉ (Ă Č (Ā 6) (mC (.int 1))) Ċ)))))) (Ą 1 (Ą 7 (Ą 6 Ċ))))))))))))))))))))
def nU:MF:=İ 1 9 xV
set_option genInjectivity false
set_option genSizeOf false
structure Gn where
 {Nx Ny Nz NK NP Ve NQ NT NZ N_ Oa Ob Oc Od Oe Og Oh Oi Oj Zat Ol Gp Vf Gq Vg Vh Om Oo Oq Ot Zau Ou Ov Zav Gs Ow Ox Oz OD OJ O_ Pa Pb Ph Pj Pk Pn Pq Pr Pu lF Px Py Zaw Zax Pz PJ PK xW sS xX sU xY sV sW:Addr}
 {PL PN P_ Qa Qc Zay Qd Qe Qf Qg Qh Qi Qj Qk Ql Qm Qn Qo Qp Zaz Qq Qs ZaA Qt ZaB ZaC Qu Qw Qx Qy ZaD Qz QB ZaE QC QD QF QG QH QJ QK QL QM QS QT QV QW QX QZ Q_ A_ Ra Rb ZaF ZaG Rf Rg Gu:FuncData}
 {pG sX:Tok}
 {sY:Addr}
def ĵ(a:Gn):String->Addr:=cmB a.xW a.sS a.xX a.sU a.xY a.sV a.sW
structure Tx(K:PySem.W.Frag)(mg:Str->Option Value)(a:Gn):Prop where
 Vi:mg "Yard" =some (.ref a.xW)
 Zbv:mg "Thing" =some (.ref a.sS)
 Vj:mg "Post" =some (.ref a.xX)
 Kg:mg "Fence" =some (.ref a.sU)
 Vk:mg "Sail" =some (.ref a.xY)
 Kh:mg "Cloth" =some (.ref a.sV)
 Kl:mg "House" =some (.ref a.sW)
 kW:Df K mg "_law_size" Le ["_law_cell","_law_most"] a.Nx a.PL
 ņ:Df K mg "_law_at" Lf ["_law_script","_law_k"] a.Ny a.PN
 cu:Df K mg "_law_grains" Lg ["_law_cell","_law_many"] a.Nz a.P_
 nW:Df K mg "_law_sky" Li ["_law_xs"] a.NK a.Qa
 fW:Df K mg "_law_days" Lj ["_law_script","_law_start","_law_many","_law_long"] a.NP a.Qc
 eE:Dm K a.xW "__init__" "Yard.__init__" Zaj ["self","width","height","things","days"] a.Ve a.Zay
 fX:Df K mg "has_stone" Lk ["yard","stone"] a.NQ a.Qd
 cA:Df K mg "check_stone" Lp ["yard","stone"] a.NT a.Qe
 qI:Df K mg "has_day" Lq ["yard","day"] a.NZ a.Qf
 kY:Df K mg "check_day" Lr ["yard","day"] a.N_ a.Qg
 bO:Df K mg "number_of" Ls ["stone","width"] a.Oa a.Qh
 nY:Df K mg "turns_of" Lw ["yard","day"] a.Ob a.Qi
 kZ:Df K mg "box_lines" Lx ["points"] a.Oc a.Qj
 k_:Df K mg "each_once" Ly ["points"] a.Od a.Qk
 fY:Df K mg "line_through" Lz ["one","other"] a.Oe a.Ql
 zP:Df K mg "holds" LC ["line","pair"] a.Og a.Qm
 jq:Df K mg "edge_lines" LQ ["points"] a.Oh a.Qn
 h_:Df K mg "lines_about" LR ["points"] a.Oi a.Qo
 Gv:Df K mg "cast" L_ ["point","ray"] a.Oj a.Qp
 Ů:Df K mg "level_corners" Zak ["x","y","u","v","z"] a.Zat a.Zaz
 aK:Df K mg "block_corners" Ma ["x","y","u","v","h"] a.Ol a.Qq
 fZ:Dm K a.xX "corners" "Post.corners" Mf ["self"] a.Gp a.Qs
 eG:Dm K a.sU "corners" "Fence.corners" Zal ["self"] a.Vf a.ZaA
 gb:Dm K a.xY "corners" "Sail.corners" Mg ["self"] a.Gq a.Qt
 eN:Dm K a.sV "corners" "Cloth.corners" Zam ["self"] a.Vg a.ZaB
 eO:Dm K a.sW "corners" "House.corners" Zan ["self"] a.Vh a.ZaC
 gj:Df K mg "corner_casts" Mh ["thing","ray"] a.Om a.Qu
 gk:Df K mg "span_bits" Mi ["first","last"] a.Oo a.Qw
 nZ:Df K mg "row_bits" Mj ["lines","unit","q","width"] a.Oq a.Qx
 qJ:Df K mg "dark_of" Ml ["yard","thing","ray"] a.Ot a.Qy
 bQ:Df K mg "darks_of_things" Zao ["yard","ray"] a.Zau a.ZaD
 xZ:Df K mg "dark" Mp ["yard","turn"] a.Ou a.Qz
 iJ:Df K mg "stone_at" Mq ["number","width"] a.Ov a.QB
 cW:Df K mg "numbers_beside" Zap ["yard","number"] a.Zav a.ZaE
 gn:Df K mg "best_step" Fe ["yard","number","costs"] a.Gs a.QC
 ig:Df K mg "cost_behind" Mr ["yard","number","goal","costs"] a.Ow a.QD
 n_:Df K mg "costs_at" Ms ["yard","turn","goal","later"] a.Ox a.QF
 oh:Df K mg "paper_of" Mt ["yard","day","goal"] a.Oz a.QG
 vA:Df K mg "walked" Mu ["yard","start","goal","paper"] a.OD a.QH
 dJ:Df K mg "shady_walk" Mv ["yard","day","start","goal"] a.OJ a.QJ
 aX:Df K mg "_law_whole" Mw ["_law_found"] a.O_ a.QK
 dM:Df K mg "_law_apart" Mx ["_law_one","_law_other"] a.Pa a.QL
 jr:Df K mg "_law_stone" Mz ["_law_stone_here","_law_size_here"] a.Pb a.QM
 gq:Df K mg "_law_walk" MJ ["_law_told","_law_size_here","_law_sets","_law_ends"] a.Ph a.QS
 cB:Df K mg "_law_height" MK ["_law_number"] a.Pj a.QT
 ť:Df K mg "_law_place" MN ["_law_number","_law_wide"] a.Pk a.QV
 jt:Df K mg "_law_thing" MP ["_law_cell","_law_wide"] a.Pn a.QW
 ak:Df K mg "is_place" M_ ["number"] a.Pq a.QX
 gw:Df K mg "is_height" Nb ["number"] a.Pr a.QZ
 ju:Df K mg "makes_post" Nf ["numbers"] a.Pu a.Q_
 Ĭ:Dm K a.sS "__init__" "Thing.__init__" Zaq ["self","word","numbers"] a.lF a.A_
 bA:Df K mg "has_two_ends" Ng ["numbers"] a.Px a.Ra
 iu:Df K mg "makes_fence" Nh ["numbers"] a.Py a.Rb
 ś:Df K mg "makes_sail_or_house" Zar ["numbers"] a.Zaw a.ZaF
 bR:Df K mg "is_cloth_corner" Zas ["numbers"] a.Zax a.ZaG
 iw:Df K mg "makes_cloth" Ni ["numbers"] a.Pz a.Rf
 ou:Df K mg "thing_of" Nj ["word","numbers"] a.PJ a.Rg
 Gw:Df K mg "law" Nk ["_law_script"] a.PK a.Gu
 iy:mg "MOST_HEIGHT" =some (.int (1000000000) a.pG)
 jw:mg "MOST_PLACE" =some (.int (1000000000) a.sX)
 Km:mg "STEPS" =some (.ref a.sY)
 Rh:mg "abs" =none
 zQ:mg "all" =none
 Vl:mg "bool" =none
 Gx:mg "int" =none
 Ż:mg "isinstance" =none
 bB:mg "len" =none
 cC:mg "list" =none
 zR:mg "max" =none
 qK:mg "min" =none
 bT:mg "range" =none
 oA:mg "reversed" =none
 sZ:mg "tuple" =none
 tu:Cls K (ĵ a "Yard")
 Vm:Mk K (ĵ a "Yard") a.Ve
 tD:ı K (ĵ a "Yard") "width"
 pH:ı K (ĵ a "Yard") "height"
 pI:ı K (ĵ a "Yard") "things"
 vB:ı K (ĵ a "Yard") "days"
 zT:Cls K (ĵ a "Thing")
 Zbw:Mk K (ĵ a "Thing") a.lF
 tE:ı K (ĵ a "Thing") "word"
 lG:ı K (ĵ a "Thing") "numbers"
 yc:Cls K (ĵ a "Post")
 Vn:Mk K (ĵ a "Post") a.lF
 vC:ı K (ĵ a "Post") "word"
 oE:ı K (ĵ a "Post") "numbers"
 oG:Meth K (ĵ a "Post") "corners" a.Gp
 tH:Cls K (ĵ a "Fence")
 Ko:Mk K (ĵ a "Fence") a.lF
 tK:ı K (ĵ a "Fence") "word"
 lH:ı K (ĵ a "Fence") "numbers"
 lJ:Meth K (ĵ a "Fence") "corners" a.Vf
 yg:Cls K (ĵ a "Sail")
 Vo:Mk K (ĵ a "Sail") a.lF
 vD:ı K (ĵ a "Sail") "word"
 oH:ı K (ĵ a "Sail") "numbers"
 oJ:Meth K (ĵ a "Sail") "corners" a.Gq
 tM:Cls K (ĵ a "Cloth")
 Kp:Mk K (ĵ a "Cloth") a.lF
 tQ:ı K (ĵ a "Cloth") "word"
 lK:ı K (ĵ a "Cloth") "numbers"
 lM:Meth K (ĵ a "Cloth") "corners" a.Vg
 tU:Cls K (ĵ a "House")
 Kq:Mk K (ĵ a "House") a.lF
 tW:ı K (ĵ a "House") "word"
 lN:ı K (ĵ a "House") "numbers"
 lO:Meth K (ĵ a "House") "corners" a.Vh
 vG:UG K "best_step" a.Gs=true
 Kr:jk K (.tup [.tup [.int (-1),.int 0],.tup [.int 1,.int 0],.tup [.int 0,.int (-1)],.tup [.int 0,.int 1],.tup [.int 0,.int 0]]) (.ref a.sY)=true
def Z2a{K:PySem.W.Frag}{mg:Str->Option Value}{a:Gn}(T:Tx K mg a):mg "Yard" =some (.ref (ĵ a "Yard")):=T.Vi
def Z2b{K:PySem.W.Frag}{mg:Str->Option Value}{a:Gn}(T:Tx K mg a):mg "Post" =some (.ref (ĵ a "Post")):=T.Vj
def Z1E{K:PySem.W.Frag}{mg:Str->Option Value}{a:Gn}(T:Tx K mg a):mg "Fence" =some (.ref (ĵ a "Fence")):=T.Kg
def Z2c{K:PySem.W.Frag}{mg:Str->Option Value}{a:Gn}(T:Tx K mg a):mg "Sail" =some (.ref (ĵ a "Sail")):=T.Vk
def Z1F{K:PySem.W.Frag}{mg:Str->Option Value}{a:Gn}(T:Tx K mg a):mg "Cloth" =some (.ref (ĵ a "Cloth")):=T.Kh
def Z1G{K:PySem.W.Frag}{mg:Str->Option Value}{a:Gn}(T:Tx K mg a):mg "House" =some (.ref (ĵ a "House")):=T.Kl
def Gy:Ē ["_law_cell","_law_most","_law_width"] ["_law_cell","_law_most"] (ć Le):=ż
def Vp:Ē ["_law_script","_law_k"] ["_law_script","_law_k"] (ć Lf):=ż
def iK:Ē ["_law_cell","_law_many","_law_found","_law_number","_law_k"] ["_law_cell","_law_many"] (ć Lg):=ż
def Gz:Ē ["_law_xs","_law_scale"] ["_law_xs"] (ć Li):=ż
def gA:Ē ["_law_script","_law_start","_law_many","_law_long","_law_names","_law_turned","_law_days_here","_law_k","_law_xs","_law_turns"] ["_law_script","_law_start","_law_many","_law_long"] (ć Lj):=ż
def ZaH:Ē ["self","width","height","things","days"] ["self","width","height","things","days"] (ć Zaj):=ż
def Vq:Ē ["yard","stone"] ["yard","stone"] (ć Lk):=ż
def Vr:Ē ["yard","stone"] ["yard","stone"] (ć Lp):=ż
def Vs:Ē ["yard","day"] ["yard","day"] (ć Lq):=ż
def Vt:Ē ["yard","day"] ["yard","day"] (ć Lr):=ż
def Vu:Ē ["stone","width"] ["stone","width"] (ć Ls):=ż
def Vv:Ē ["yard","day"] ["yard","day"] (ć Lw):=ż
def yj:Ē ["points","rights","downs"] ["points"] (ć Lx):=ż
def yq:Ē ["points","kept","point"] ["points"] (ć Ly):=ż
def yr:Ē ["one","other","l","m"] ["one","other"] (ć Lz):=ż
def Vw:Ē ["line","pair"] ["line","pair"] (ć LC):=ż
def jU:Ē ["points","lines","apart","one","other","line"] ["points"] (ć LQ):=ż
def Vx:Ē ["points"] ["points"] (ć LR):=ż
def Vy:Ē ["point","ray"] ["point","ray"] (ć L_):=ż
def ZaI:Ē ["x","y","u","v","z"] ["x","y","u","v","z"] (ć Zak):=ż
def Vz:Ē ["x","y","u","v","h"] ["x","y","u","v","h"] (ć Ma):=ż
def yu:Ē ["self","right","down"] ["self"] (ć Mf):=ż
def zU:Ē ["self","given","one","other"] ["self"] (ć Zal):=ż
def GC:Ē ["self","given"] ["self"] (ć Mg):=ż
def ZaJ:Ē ["self"] ["self"] (ć Zam):=ż
def Ri:Ē ["self","given"] ["self"] (ć Zan):=ż
def VB:Ē ["thing","ray"] ["thing","ray"] (ć Mh):=ż
def VD:Ē ["first","last"] ["first","last"] (ć Mi):=ż
def cD:Ē ["lines","unit","q","width","first","last","l","m","n","step","room"] ["lines","unit","q","width"] (ć Mj):=ż
def oK:Ē ["yard","thing","ray","lines","bits","q"] ["yard","thing","ray"] (ć Ml):=ż
def ZaK:Ē ["yard","ray"] ["yard","ray"] (ć Zao):=ż
def tX:Ē ["yard","turn","bits","some"] ["yard","turn"] (ć Mp):=ż
def VF:Ē ["number","width"] ["number","width"] (ć Mq):=ż
def GD:Ē ["yard","number","stone","around"] ["yard","number"] (ć Zap):=ż
def GF:Ē ["yard","number","costs","leading"] ["yard","number","costs"] (ć Fe):=ż
def GJ:Ē ["yard","number","goal","costs","step"] ["yard","number","goal","costs"] (ć Mr):=ż
def jV:Ē ["yard","turn","goal","later","bits","costs","number","behind","lit"] ["yard","turn","goal","later"] (ć Ms):=ż
def oM:Ē ["yard","day","goal","rising","costs","turn"] ["yard","day","goal"] (ć Mt):=ż
def GK:Ē ["yard","start","goal","paper","numbers"] ["yard","start","goal","paper"] (ć Mu):=ż
def tY:Ē ["yard","day","start","goal","first","last","paper"] ["yard","day","start","goal"] (ć Mv):=ż
def VG:Ē ["_law_found"] ["_law_found"] (ć Mw):=ż
def VH:Ē ["_law_one","_law_other"] ["_law_one","_law_other"] (ć Mx):=ż
def VJ:Ē ["_law_stone_here","_law_size_here"] ["_law_stone_here","_law_size_here"] (ć Mz):=ż
def jW:Ē ["_law_told","_law_size_here","_law_sets","_law_ends","_law_stones","_law_left","_law_k","_law_number"] ["_law_told","_law_size_here","_law_sets","_law_ends"] (ć MJ):=ż
def VL:Ē ["_law_number"] ["_law_number"] (ć MK):=ż
def VN:Ē ["_law_number","_law_wide"] ["_law_number","_law_wide"] (ć MN):=ż
def gB:Ē ["_law_cell","_law_wide","_law_xs","_law_h","_law_kind","_law_x","_law_y","_law_u","_law_v"] ["_law_cell","_law_wide"] (ć MP):=ż
def VP:Ē ["number"] ["number"] (ć M_):=ż
def VR:Ē ["number"] ["number"] (ć Nb):=ż
def V_:Ē ["numbers"] ["numbers"] (ć Nf):=ż
def vH:Ē ["self","word","numbers"] ["self","word","numbers"] (ć Zaq):=ż
def Wa:Ē ["numbers"] ["numbers"] (ć Ng):=ż
def Wb:Ē ["numbers"] ["numbers"] (ć Nh):=ż
def ZaL:Ē ["numbers"] ["numbers"] (ć Zar):=ż
def ZaM:Ē ["numbers"] ["numbers"] (ć Zas):=ż
def Wc:Ē ["numbers"] ["numbers"] (ć Ni):=ż
def Wd:Ē ["word","numbers"] ["word","numbers"] (ć Nj):=ż
def aL:Ē ["_law_script","_law_size_here","_law_drawn","_law_days_here","_law_yard","_law_day","_law_ends","_law_sets","_law_told"] ["_law_script"] (ć Nk):=ż
section
variable{P:Program}{w:World}{K:PySem.W.Frag}{mg:Str->Option Value}{base:Heap}{a:Gn}
seal PE PT PW PA PS gK PG vK PI Bd
def Za(T:Tx K mg a):ni (λC=>Cls K (ĵ a C)/\ı K (ĵ a C) "width") ["Yard"]:=⟨⟨T.tu,T.tD⟩,trivial⟩
def Zm(T:Tx K mg a):ni (λC=>Cls K (ĵ a C)/\ı K (ĵ a C) "height") ["Yard"]:=⟨⟨T.tu,T.pH⟩,trivial⟩
def ZW(T:Tx K mg a):ni (λC=>Cls K (ĵ a C)/\ı K (ĵ a C) "things") ["Yard"]:=⟨⟨T.tu,T.pI⟩,trivial⟩
def ZL(T:Tx K mg a):ni (λC=>Cls K (ĵ a C)/\ı K (ĵ a C) "days") ["Yard"]:=⟨⟨T.tu,T.vB⟩,trivial⟩
def Z7(T:Tx K mg a):ni (λC=>Cls K (ĵ a C)/\ı K (ĵ a C) "numbers") ["Thing","Post","Fence","Sail","Cloth","House"]:=⟨⟨T.zT,T.lG⟩,⟨⟨T.yc,T.oE⟩,⟨⟨T.tH,T.lH⟩,⟨⟨T.yg,T.oH⟩,⟨⟨T.tM,T.lK⟩,⟨⟨T.tU,T.lN⟩,trivial⟩⟩⟩⟩⟩⟩
def Zy(T:Tx K mg a):ni (λC=>Cls K (ĵ a C)/\ı K (ĵ a C) "word") ["Thing","Post","Fence","Sail","Cloth","House"]:=⟨⟨T.zT,T.tE⟩,⟨⟨T.yc,T.vC⟩,⟨⟨T.tH,T.tK⟩,⟨⟨T.yg,T.vD⟩,⟨⟨T.tM,T.tQ⟩,⟨⟨T.tU,T.tW⟩,trivial⟩⟩⟩⟩⟩⟩
def Wf(T:Tx K mg a):Ħ P w K mg base Ŧ 1 a.Nx a.PL ["_law_cell","_law_most"] (ţ ⟨K,ĵ a⟩ 2 fU):=by
 refine ĸ T.kW.F Gy λ_ _ _ _ _ _ _ hu=>?_
 exact Ĕ (Ş (PW.pt (w_and (t_eq hu (ō (dW (ā 0) ă) ă) ă) (fj (aC uI uo (ā 1) ă (Ń _))))) (ļ (Ĵ (Ě (Ĝ (Ŝ (Ć (Ĺ (Ć Ĥ (Ć Ĥ ě))) (Ć (Ĺ (Ć Ĥ (Ć Ĥ ě))) ě))))) (ō (ā 0) ă))) į) (ķ Gy (dX ă (ō (ā 0) (Ě (Ţ (qX rfl) rG T.qK PyProof.Rows.boot_min (Ė ă (Ė (ā 1) Ġ)))))) (ļ (Ĺ (Ć (v_var 2) (Ć (v_add ă (ō (dW (ā 0) ă) (Ě (Ţ (qX rfl) rG T.qK PyProof.Rows.boot_min (Ė ă (Ė (dW (ā 1) (ā 2)) Ġ)))))) ě)))))
def bC(T:Tx K mg a):Ħ P w K mg base Ŧ 1 a.Ny a.PN ["_law_script","_law_k"] (ţ ⟨K,ĵ a⟩ 2 Ŀ):=by
 refine ĸ T.ņ.F Vp λ_ _ _ _ _ _ _ _=>?_
 exact Ĕ (Ş (aC dR dN (ā 1) (Ě (Ţ ů Ŵ T.bB PySem.boot_len (Ė (ā 0) Ġ))) (Ń _)) (ļ (Ĵ (ā 0) (ā 1))) į) (ļ Ĥ)
def GP(T:Tx K mg a):Ħ P w K mg base Ŧ 1 a.Nz a.P_ ["_law_cell","_law_many"] (ţ ⟨K,ĵ a⟩ 2 nF):=by
 refine ĸ T.cu.F iK λ_ _ _ _ _ _ _ hu=>?_
 exact ķ iK (Ŝ ě) (ķ iK (ű (nD (ā 0) ă)) (Ĕ (Ş (t_eq hu (ō (ā 0) ă) ă) (Į (wX iK (ű (v_mod (ā 3) ă)))) į) (Ĕ (fG PassesOwn.leaving rfl (aF rfl T.bT (Ć (v_var 1) ě)) (fO iK) (Į (Ş (t_eq hu (ō (ā 0) ă) ă) (Ĕ (PS.wk (Ÿ (gM PySem.F.plainAttrs_list PySem.F.slot_list_append PySem.F.type_list_append ń (pv 2) (Ć (v_mod (ā 3) ă) ě))) λ_ _ _ h=>aR h) (Į (wX iK (ű (nD (ā 3) ă))))) (ķ iK (ű (v_mod (fM (fM (Ŗ (ā 3) ă) ă) (Ŗ ă (ā 4))) ă)) (Į (PS.wk (Ÿ (gM PySem.F.plainAttrs_list PySem.F.slot_list_append PySem.F.type_list_append ń (pv 2) (Ć (nD (ā 3) ă) ě))) λ_ _ _ h=>aR h)))))) (ľ (mJ 2)))))
def Wg(T:Tx K mg a):Ħ P w K mg base Ŧ 1 a.NK a.Qa ["_law_xs"] (ţ ⟨K,ĵ a⟩ 1 nG):=by
 refine ĸ T.nW.F Gz λ_ _ _ _ _ _ _ hu=>?_
 exact Ĕ (Ş (t_eq hu (ō (Ĩ (ā 0) ă) ă) ă) (ļ uy) į) (ķ Gz (ű (Ĵ (Ě (Ĝ (Ŝ (Ć Ĥ (Ć Ĥ (Ć Ĥ (Ć (bx mQ mF ă ă) ě))))))) (ō (Ĩ (ā 0) ă) ă))) (ļ (Ĺ (Ć (v_mul (jj (ō (Ĩ (ā 0) ă) ă) ă) (ā 1)) (Ć (v_mul (jj (ō (Ĩ (ā 0) ă) ă) ă) (ā 1)) (Ć (v_mul (fM ă (ō (Ĩ (ā 0) ă) ă)) (ā 1)) ě))))))
def GQ(T:Tx K mg a):Ħ P w K mg base Ŧ 2 a.NP a.Qc ["_law_script","_law_start","_law_many","_law_long"] (ţ ⟨K,ĵ a⟩ 4 jl):=by
 refine ĸ T.fW.F gA λ_ _ _ _ _ _ hr _=>?_
 exact ķ gA (Ŝ (Ć ŵ (Ć ŵ (Ć ŵ (Ć ŵ (Ć ŵ (Ć ŵ (Ć ŵ (Ć ŵ (Ć ŵ (Ć ŵ (Ć ŵ (Ć ŵ ě))))))))))))) (ķ gA (ű (v_mod (Ě (Ĝ (ĉ (bC T) T.ņ hr Ď (Đ 0 (Đ 1 ď))))) ă)) (ķ gA (dX (Ě (Ĝ (au (ā 4) (ų (v_var 5)) mW))) (Ě (Ĝ (au (ā 4) mW (ų (v_var 5)))))) (ķ gA (Ŝ ě) (Ĕ (fG PassesOwn.leaving rfl (aF rfl T.bT (Ć (v_var 2) ě)) (fO gA) (ķ gA (ĉ (GP T) T.cu hr Ď (ċ (v_add (dW (Ě (Ĝ (ĉ (bC T) T.ņ hr Ď (Đ 0 (ċ (v_add (ā 1) (ā 7)) ď))))) ă) (Ŗ ă (ā 7))) (ċ (v_add (Ŗ ă (ā 3)) ă) ď))) (Ĕ (uV gA (aF rfl T.bT (Ć (v_add ă (ō (Ĩ (ā 8) ă) (ā 3))) ě)) aW Ś (Ĝ (ĉ (Wg T) T.nW hr Ď (ċ (Ĝ (au (ā 0) (ų (v_add ă (Ŗ ă (ā 1)))) (ų (v_add ă (Ŗ ă (ā 1)))))) ď)))) (Į (PS.wk (Ÿ (gM PySem.F.plainAttrs_list PySem.F.slot_list_append PySem.F.type_list_append ń (pv 6) (Ć (Ĺ (Ć (Ĵ (ā 4) (ā 7)) (Ć (v_add ă (ō (Ŗ (Ĩ (ā 8) ă) ă) (Ě (bx mQ mF ă ă)))) (Ć (v_var 9) ě)))) ě))) λ_ _ _ h=>aR h))))) (ľ (mJ 6))))))
def GR(T:Tx K mg a):Ħ P w K mg base Ŧ 1 a.Ve a.Zay ["self","width","height","things","days"] (HF ⟨K,ĵ a⟩ 5 "Yard" jm):=by
 refine Xe (cm:=ĵ a) (mb:=Fi) T.eE.F ZaH rfl rfl rfl λcdv A outer s H E hr=>?_
 have hu:=hr.units
 exact Ĕ (ź ["Yard"] (Za T) (pv 0) (v_var 1)) (Ĕ (ź ["Yard"] (Zm T) (pv 0) (v_var 2)) (Ĕ (ź ["Yard"] (ZW T) (pv 0) (Ĝ (uU bK bL T.cC PyProof.Rows.boot_list (Ė (ā 3) Ġ)))) (Į (ź ["Yard"] (ZL T) (pv 0) (Ĝ (lE (aH 4) (yV rfl (ŝ aW (ŝ aW (ŝ aW jG)))) Ś (Ĺ (Ć (v_var 0) (Ć (v_var 1) (Ć (Ĝ (uU bK bL T.cC PyProof.Rows.boot_list (Ė (ā 2) Ġ))) ě))))))))))
def GX(T:Tx K mg a):Ħ P w K mg base Ŧ 1 a.NQ a.Qd ["yard","stone"] (ţ ⟨K,ĵ a⟩ 2 dY):=by
 refine ĸ T.fX.F Vq λ_ _ _ _ _ _ _ _=>?_
 exact ļ (v_and (kj dU dR dO dN ă (Ĩ (ā 1) ă) (Ě (Ő ["Yard"] (Za T) (ā 0)))) (jc (kj dU dR dO dN ă (Ĩ (ā 1) ă) (Ě (Ő ["Yard"] (Zm T) (ā 0))))))
def GZ(T:Tx K mg a):Ħ P w K mg base Ŧ 2 a.NT a.Qe ["yard","stone"] (ţ ⟨K,ĵ a⟩ 2 uY):=by
 refine ĸ T.cA.F Vr λ_ _ _ _ _ _ hr _=>?_
 exact Į (Ş (gQ (aB (Ě (Ĝ (ĉ (GX T) T.fX hr Ď (Đ 0 (Đ 1 ď))))))) (Į rm) į)
def Wh(T:Tx K mg a):Ħ P w K mg base Ŧ 1 a.NZ a.Qf ["yard","day"] (ţ ⟨K,ĵ a⟩ 2 ql):=by
 refine ĸ T.qI.F Vs λ_ _ _ _ _ _ _ _=>?_
 exact ļ (kj dU dR dO dN ă (ā 1) (Ě (Ţ ů Ŵ T.bB PySem.boot_len (Ė (Ě (Ő ["Yard"] (ZL T) (ā 0))) Ġ))))
def Wi(T:Tx K mg a):Ħ P w K mg base Ŧ 2 a.N_ a.Qg ["yard","day"] (ţ ⟨K,ĵ a⟩ 2 zE):=by
 refine ĸ T.kY.F Vt λ_ _ _ _ _ _ hr _=>?_
 exact Į (Ş (gQ (aB (Ě (Ĝ (ĉ (Wh T) T.qI hr Ď (Đ 0 (Đ 1 ď))))))) (Į rm) į)
def yx(T:Tx K mg a):Ħ P w K mg base Ŧ 1 a.Oa a.Qh ["stone","width"] (ţ ⟨K,ĵ a⟩ 2 kE):=by
 refine ĸ T.bO.F Vu λ_ _ _ _ _ _ _ _=>?_
 exact ľ (dX (Ŗ (Ĩ (ā 0) ă) (ā 1)) (Ĩ (ā 0) ă))
def Wj(T:Tx K mg a):Ħ P w K mg base Ŧ 1 a.Ob a.Qi ["yard","day"] (ţ ⟨K,ĵ a⟩ 2 zF):=by
 refine ĸ T.nY.F Vv λ_ _ _ _ _ _ _ _=>?_
 exact ļ (Ĵ (Ĩ (Ě (Ő ["Yard"] (ZL T) (ā 0))) (ā 1)) ă)
def Wm(T:Tx K mg a):Ħ P w K mg base Ŧ 1 a.Oc a.Qj ["points"] (ţ ⟨K,ĵ a⟩ 1 zG):=by
 refine ĸ T.kZ.F yj λ_ _ _ _ _ _ _ _=>?_
 exact Ĕ (uV yj (aH 0) aW Ś (Ĵ (ā 0) ă)) (Ĕ (uV yj (aH 0) aW Ś (Ĵ (ā 0) ă)) (ľ (Ŝ (Ć (Ĺ (Ć Ĥ (Ć Ĥ (Ć (Ţ (wU rfl) wV T.zR PyProof.Rows.boot_max (Ė (ā 1) Ġ)) ě)))) (Ć (Ĺ (Ć (pB b_ bV ă) (Ć Ĥ (Ć (pB b_ bV (Ě (Ţ (Ek rfl) El T.qK PyProof.Rows.boot_min (Ė (ā 1) Ġ)))) ě)))) (Ć (Ĺ (Ć Ĥ (Ć Ĥ (Ć (Ţ (wU rfl) wV T.zR PyProof.Rows.boot_max (Ė (ā 2) Ġ)) ě)))) (Ć (Ĺ (Ć Ĥ (Ć (pB b_ bV ă) (Ć (pB b_ bV (Ě (Ţ (Ek rfl) El T.qK PyProof.Rows.boot_min (Ė (ā 2) Ġ)))) ě)))) ě)))))))
def Wn(T:Tx K mg a):Ħ P w K mg base Ŧ 1 a.Od a.Qk ["points"] (ţ ⟨K,ĵ a⟩ 1 zH):=by
 refine ĸ T.k_.F yq λ_ _ _ _ _ _ _ hu=>?_
 exact ķ yq (Ŝ ě) (Ĕ (fG PassesOwn.leaving rfl (aH 0) (fO yq) (Į (Ş (aC Uu (Av hu) (ā 2) (ā 1) (by with_unfolding_all rfl)) (Į (PS.wk (Ÿ (gM PySem.F.plainAttrs_list PySem.F.slot_list_append PySem.F.type_list_append ń (pv 1) (Ć (v_var 2) ě))) λ_ _ _ h=>aR h)) į))) (ľ (mJ 1)))
def Wo(T:Tx K mg a):Ħ P w K mg base Ŧ 1 a.Oe a.Ql ["one","other"] (ţ ⟨K,ĵ a⟩ 2 zJ):=by
 refine ĸ T.fY.F yr λ_ _ _ _ _ _ _ _=>?_
 exact ķ yr (ű (v_sub (Ĩ (ā 1) ă) (Ĩ (ā 0) ă))) (ķ yr (ű (v_sub (Ĩ (ā 0) ă) (Ĩ (ā 1) ă))) (ļ (Ĺ (Ć (v_var 2) (Ć (v_var 3) (Ć (v_add (Ŗ (ā 2) (Ĩ (ā 0) ă)) (Ŗ (ā 3) (Ĩ (ā 0) ă))) ě))))))
def Wq(T:Tx K mg a):Ħ P w K mg base Ŧ 1 a.Og a.Qm ["line","pair"] (ţ ⟨K,ĵ a⟩ 2 qm):=by
 refine ĸ T.zP.F Vw λ_ _ _ _ _ _ _ _=>?_
 exact ļ (pX dU dO (fM (Ŗ (Ĩ (ā 0) ă) (Ĩ (ā 1) ă)) (Ŗ (Ĩ (ā 0) ă) (Ĩ (ā 1) ă))) (Ĩ (ā 0) ă) (Ń _))
def Wr(T:Tx K mg a):Ħ P w K mg base Ŧ 2 a.Oh a.Qn ["points"] (ţ ⟨K,ĵ a⟩ 1 zK):=by
 refine ĸ T.jq.F jU λ_ _ _ _ _ _ hr hu=>?_
 exact ķ jU (Ŝ ě) (ķ jU (ĉ (Wn T) T.k_ hr Ď (Đ 0 ď)) (Ĕ (fG PassesOwn.leaving rfl (aH 2) (fO jU) (Į (fG PassesOwn.leaving rfl (aH 2) (fO jU) (ķ jU (ĉ (Wo T) T.fY hr Ď (Đ 3 (Đ 4 ď))) (Į (Ş (PW.pt (w_and (rY hu (ā 3) (ā 4)) (fj (aB (Ě (Ţ (qY rfl) rH T.zQ PyProof.Rows.boot_all (Ė (Ě (Ĝ (lE (aH 2) aW Ś (Ĝ (ĉ (Wq T) T.zP hr Ď (Đ 0 (Đ 1 ď))))))) Ġ))))))) (Į (PS.wk (Ÿ (gM PySem.F.plainAttrs_list PySem.F.slot_list_append PySem.F.type_list_append ń (pv 1) (Ć (v_var 5) ě))) λ_ _ _ h=>aR h)) į)))))) (ľ (mJ 1))))
def Ws(T:Tx K mg a):Ħ P w K mg base Ŧ 3 a.Oi a.Qo ["points"] (ţ ⟨K,ĵ a⟩ 1 zL):=by
 refine ĸ T.h_.F Vx λ_ _ _ _ _ _ hr _=>?_
 exact ľ (dX (Ě (Ĝ (ĉ (Wm T) T.kZ hr Ď (Đ 0 ď)))) (Ě (Ĝ (ĉ (Wr T) T.jq hr Ď (Đ 0 ď)))))
def Wt(T:Tx K mg a):Ħ P w K mg base Ŧ 1 a.Oj a.Qp ["point","ray"] (ţ ⟨K,ĵ a⟩ 2 qt):=by
 refine ĸ T.Gv.F Vy λ_ _ _ _ _ _ _ _=>?_
 exact ļ (Ĺ (Ć (v_add (Ŗ (Ĩ (ā 1) ă) (Ĩ (ā 0) ă)) (Ŗ (Ĩ (ā 1) ă) (Ĩ (ā 0) ă))) (Ć (v_add (Ŗ (Ĩ (ā 1) ă) (Ĩ (ā 0) ă)) (Ŗ (Ĩ (ā 1) ă) (Ĩ (ā 0) ă))) ě)))
def G_(T:Tx K mg a):Ħ P w K mg base Ŧ 1 a.Zat a.Zaz ["x","y","u","v","z"] (ţ ⟨K,ĵ a⟩ 5 Ay):=by
 refine ĸ T.Ů.F ZaI λ_ _ _ _ _ _ _ _=>?_
 exact ľ (Ŝ (Ć (Ĺ (Ć (v_var 0) (Ć (v_var 1) (Ć (v_var 4) ě)))) (Ć (Ĺ (Ć (v_var 2) (Ć (v_var 1) (Ć (v_var 4) ě)))) (Ć (Ĺ (Ć (v_var 2) (Ć (v_var 3) (Ć (v_var 4) ě)))) (Ć (Ĺ (Ć (v_var 0) (Ć (v_var 3) (Ć (v_var 4) ě)))) ě)))))
def Hf(T:Tx K mg a):Ħ P w K mg base Ŧ 2 a.Ol a.Qq ["x","y","u","v","h"] (ţ ⟨K,ĵ a⟩ 5 uZ):=by
 refine ĸ T.aK.F Vz λ_ _ _ _ _ _ hr _=>?_
 exact ľ (dX (Ě (Ĝ (ĉ (G_ T) T.Ů hr Ď (Đ 0 (Đ 1 (Đ 2 (Đ 3 (ċ Ĥ ď)))))))) (Ě (Ĝ (ĉ (G_ T) T.Ů hr Ď (Đ 0 (Đ 1 (Đ 2 (Đ 3 (Đ 4 ď)))))))))
def Wu(T:Tx K mg a):Ħ P w K mg base Ŧ 3 a.Gp a.Qs ["self"] (ţ ⟨K,ĵ a⟩ 1 kI):=by
 refine ĸ T.fZ.F yu λ_ _ _ _ _ _ hr _=>?_
 exact ķ yu (ű (v_mul ă (Ĩ (Ě (Ő ["Thing","Post","Fence","Sail","Cloth","House"] (Z7 T) (ā 0))) ă))) (ķ yu (ű (v_mul ă (Ĩ (Ě (Ő ["Thing","Post","Fence","Sail","Cloth","House"] (Z7 T) (ā 0))) ă))) (ľ (ĉ (Hf T) T.aK hr Ď (ċ (v_sub (ā 1) ă) (ċ (v_sub (ā 2) ă) (ċ (v_add (ā 1) ă) (ċ (v_add (ā 2) ă) (ċ (Ĵ (Ě (Ő ["Thing","Post","Fence","Sail","Cloth","House"] (Z7 T) (ā 0))) ă) ď))))))))
def ZaN(T:Tx K mg a):Ħ P w K mg base Ŧ 1 a.Vf a.ZaA ["self"] (ţ ⟨K,ĵ a⟩ 1 u_):=by
 refine ĸ T.eG.F zU λ_ _ _ _ _ _ _ _=>?_
 exact ķ zU (ű (Ő ["Thing","Post","Fence","Sail","Cloth","House"] (Z7 T) (ā 0))) (ķ zU (ű (Ĺ (Ć (Ĵ (ā 1) ă) (Ć (Ĵ (ā 1) ă) ě)))) (ķ zU (ű (Ĺ (Ć (Ĵ (ā 1) ă) (Ć (Ĵ (ā 1) ă) ě)))) (ľ (Ŝ (Ć (v_add (ā 2) (Ě (Ĺ (Ć Ĥ ě)))) (Ć (v_add (ā 3) (Ě (Ĺ (Ć Ĥ ě)))) (Ć (v_add (ā 3) (Ě (Ĺ (Ć (Ĵ (ā 1) ă) ě)))) (Ć (v_add (ā 2) (Ě (Ĺ (Ć (Ĵ (ā 1) ă) ě)))) ě))))))))
def Wv(T:Tx K mg a):Ħ P w K mg base Ŧ 2 a.Gq a.Qt ["self"] (ţ ⟨K,ĵ a⟩ 1 kJ):=by
 refine ĸ T.gb.F GC λ_ _ _ _ _ _ hr _=>?_
 exact ķ GC (ű (Ő ["Thing","Post","Fence","Sail","Cloth","House"] (Z7 T) (ā 0))) (ľ (ĉ (G_ T) T.Ů hr Ď (ċ (Ĵ (ā 1) ă) (ċ (Ĵ (ā 1) ă) (ċ (Ĵ (ā 1) ă) (ċ (Ĵ (ā 1) ă) (ċ (Ĵ (ā 1) ă) ď)))))))
def ZaO(T:Tx K mg a):Ħ P w K mg base Ŧ 1 a.Vg a.ZaB ["self"] (ţ ⟨K,ĵ a⟩ 1 vd):=by
 refine ĸ T.eN.F ZaJ λ_ _ _ _ _ _ _ _=>?_
 exact ľ (lE (fH (Ĺ (Ć Ĥ (Ć Ĥ (Ć Ĥ ě))))) aW Ś (UJ DY D_ T.sZ PyProof.Rows.boot_tuple (Ė (Ě (Ĝ (au (Ě (Ő ["Thing","Post","Fence","Sail","Cloth","House"] (Z7 T) (ā 0))) (ų (v_var 1)) (ų (v_add (ā 1) ă))))) Ġ)))
def ZaP(T:Tx K mg a):Ħ P w K mg base Ŧ 3 a.Vh a.ZaC ["self"] (ţ ⟨K,ĵ a⟩ 1 vf):=by
 refine ĸ T.eO.F Ri λ_ _ _ _ _ _ hr _=>?_
 exact ķ Ri (ű (Ő ["Thing","Post","Fence","Sail","Cloth","House"] (Z7 T) (ā 0))) (ľ (ĉ (Hf T) T.aK hr Ď (ċ (Ĵ (ā 1) ă) (ċ (Ĵ (ā 1) ă) (ċ (Ĵ (ā 1) ă) (ċ (Ĵ (ā 1) ă) (ċ (Ĵ (ā 1) ă) ď)))))))
def Ww(T:Tx K mg a):Ħ P w K mg base Ŧ 4 a.Om a.Qu ["thing","ray"] (ţ ⟨K,ĵ a⟩ 2 vg):=by
 refine ĸ T.gj.F VB λ_ _ _ _ _ _ hr _=>?_
 exact ľ (lE (fH (Ĝ (JL (HD:= "corners") (k:=3) (n:=1) (gH:=[("Post",kI),("Fence",u_),("Sail",kJ),("Cloth",vd),("House",vf)]) ⟨⟨T.yc,_,_,_,T.oG,(Wu T).mono (by decide),T.fZ.b,cP⟩,⟨⟨T.tH,_,_,_,T.lJ,(ZaN T).mono (by decide),T.eG.b,cP⟩,⟨⟨T.yg,_,_,_,T.oJ,(Wv T).mono (by decide),T.gb.b,cP⟩,⟨⟨T.tM,_,_,_,T.lM,(ZaO T).mono (by decide),T.eN.b,cP⟩,⟨⟨T.tU,_,_,_,T.lO,(ZaP T).mono (by decide),T.eO.b,cP⟩,trivial⟩⟩⟩⟩⟩ hr.mo Ď (v_var 0)))) aW Ś (Ĝ (ĉ (Wt T) T.Gv hr Ď (Đ 1 (Đ 0 ď)))))
def Hg(T:Tx K mg a):Ħ P w K mg base Ŧ 1 a.Oo a.Qw ["first","last"] (ţ ⟨K,ĵ a⟩ 2 qu):=by
 refine ĸ T.gk.F VD λ_ _ _ _ _ _ _ _=>?_
 exact Ĕ (Ş (aC dR dN (ā 1) (ā 0) (Ń _)) (ļ Ĥ) į) (ļ (v_sub (Ě (bx wH wJ ă (fM (ā 1) ă))) (Ě (bx wH wJ ă (ā 0)))))
def Wx(T:Tx K mg a):Ħ P w K mg base Ŧ 2 a.Oq a.Qx ["lines","unit","q","width"] (ţ ⟨K,ĵ a⟩ 4 vh):=by
 refine ĸ T.nZ.F cD λ_ _ _ _ _ _ hr _=>?_
 exact ķ cD (ű Ĥ) (ķ cD (ű (v_sub (ā 3) ă)) (Ĕ (fG PassesOwn.leaving rfl (aH 0) (yV rfl (ŝ (fO cD) (ŝ (fO cD) (ŝ (fO cD) jG)))) (ķ cD (ű (v_mul (ā 6) (ā 1))) (ķ cD (ű (v_sub (ā 8) (Ŗ (Ŗ (ā 7) (ā 1)) (ā 2)))) (Į (Ş (aC uI uo (ā 9) ă (Ń _)) (Į (wX cD (ű (Ţ (qX rfl) rG T.qK PyProof.Rows.boot_min (Ė (ā 5) (Ė (dW (ā 10) (ā 9)) Ġ)))))) (Į (Ş (aC dR dN (ā 9) ă (Ń _)) (Į (wX cD (ű (Ţ (Jb rfl) JH T.zR PyProof.Rows.boot_max (Ė (ā 4) (Ė (Ě (pB b_ bV (dW (ā 10) (Ě (pB b_ bV (ā 9)))))) Ġ)))))) (Į (Ş (aC dR dN (ā 10) ă (Ń _)) (ļ Ĥ) į))))))))) (ľ (ĉ (Hg T) T.gk hr Ď (Đ 4 (Đ 5 ď))))))
def Wy(T:Tx K mg a):Ħ P w K mg base Ŧ 5 a.Ot a.Qy ["yard","thing","ray"] (ţ ⟨K,ĵ a⟩ 3 qw):=by
 refine ĸ T.qJ.F oK λ_ _ _ _ _ _ hr _=>?_
 exact ķ oK (ĉ (Ws T) T.h_ hr Ď (ċ (Ĝ (ĉ (Ww T) T.gj hr Ď (Đ 1 (Đ 2 ď)))) ď)) (ķ oK (ű Ĥ) (Ĕ (fG PassesOwn.leaving rfl (aF rfl T.bT (Ć (Ő ["Yard"] (Zm T) (ā 0)) ě)) (fO oK) (Į (Em (i:=4) oK.nd rfl (Or.inl rfl) (bx wH wJ (Ě (Ĝ (ĉ (Wx T) T.nZ hr Ď (Đ 3 (ċ (v_mul ă (Ĩ (ā 2) ă)) (Đ 5 (ċ (Ő ["Yard"] (Za T) (ā 0)) ď))))))) (Ŗ (ā 5) (Ě (Ő ["Yard"] (Za T) (ā 0)))))))) (ľ (mJ 4))))
def ZaQ(T:Tx K mg a):Ħ P w K mg base Ŧ 6 a.Zau a.ZaD ["yard","ray"] (ţ ⟨K,ĵ a⟩ 2 Kd):=by
 refine ĸ T.bQ.F ZaK λ_ _ _ _ _ _ hr _=>?_
 exact ľ (lE (fH (Ő ["Yard"] (ZW T) (ā 0))) aW Ś (Ĝ (ĉ (Wy T) T.qJ hr Ď (Đ 0 (Đ 2 (Đ 1 ď))))))
def Hh(T:Tx K mg a):Ħ P w K mg base Ŧ 7 a.Ou a.Qz ["yard","turn"] (ţ ⟨K,ĵ a⟩ 2 gZ):=by
 refine ĸ T.xZ.F tX λ_ _ _ _ _ _ hr _=>?_
 exact Ĕ (Ş (aC zc qP (ā 1) uT (Ń _)) (ľ (ĉ (Hg T) T.gk hr Ď (ċ Ĥ (ċ (v_sub (Ŗ (Ě (Ő ["Yard"] (Za T) (ā 0))) (Ě (Ő ["Yard"] (Zm T) (ā 0)))) ă) ď)))) į) (ķ tX (ű Ĥ) (Ĕ (fG PassesOwn.leaving rfl (fH (Ĝ (ĉ (ZaQ T) T.bQ hr Ď (Đ 0 (Đ 1 ď))))) (fO tX) (Į (Em (i:=2) tX.nd rfl (Or.inl rfl) (v_var 3)))) (ľ (mJ 2))))
def Hi(T:Tx K mg a):Ħ P w K mg base Ŧ 1 a.Ov a.QB ["number","width"] (ţ ⟨K,ĵ a⟩ 2 nH):=by
 refine ĸ T.iJ.F VF λ_ _ _ _ _ _ _ _=>?_
 exact ļ (Ĺ (Ć (v_mod (ā 0) (ā 1)) (Ć (nD (ā 0) (ā 1)) ě)))
def ZaR(T:Tx K mg a):Ħ P w K mg base Ŧ 2 a.Zav a.ZaE ["yard","number"] (ţ ⟨K,ĵ a⟩ 2 Ke):=by
 refine ĸ T.cW.F GD λ_ _ _ _ _ _ hr _=>?_
 exact ķ GD (ĉ (Hi T) T.iJ hr Ď (Đ 1 (ċ (Ő ["Yard"] (Za T) (ā 0)) ď))) (Ĕ (uV GD (fH (yR (.tup [.tup [.int (-1),.int 0],.tup [.int 1,.int 0],.tup [.int 0,.int (-1)],.tup [.int 0,.int 1],.tup [.int 0,.int 0]]) (iR (v:=.ref a.sY) rfl T.Km rfl) (λF=>Kc T.Kr F))) (yV rfl (ŝ aW (ŝ aW jG))) Ś (Ĺ (Ć (v_add (Ĩ (ā 0) ă) (ā 1)) (Ć (v_add (Ĩ (ā 0) ă) (ā 2)) ě)))) (ľ (lE (aH 3) aW (Dr (aB (Ě (Ĝ (ĉ (GX T) T.fX hr Ď (Đ 0 (Đ 1 ď))))))) (Ĝ (ĉ (yx T) T.bO hr Ď (Đ 1 (ċ (Ő ["Yard"] (Za T) (ā 0)) ď)))))))
def Hj(T:Tx K mg a):Ħ P w K mg base Ŧ 5 a.Gs a.QC ["yard","number","costs"] (ţ ⟨K,ĵ a⟩ 3 nJ):=by
 refine Zc5 (cm:=ĵ a) (mb:=sG) T.gn.F GF rfl rfl rfl T.vG λcc Pt htb A outer s H E hr=>?_
 have hu:=hr.units
 exact Ĕ (uV GF (fH (Ĝ (ĉ (ZaR T) T.cW hr Ď (Đ 0 (Đ 1 ď))))) aW (Dr (aC DK Im (Ĩ (ā 0) (ā 1)) uT (Ń _))) (v_var 1)) (ļ (JZ (k:=2) ["costs"] [2] (ć Fe) hr.mo rfl rfl (by simp[lams]) htb rfl rfl rfl T.qK (Ė (ā 3) Ġ) (λ_ _ _ _ _ hr hu=>(Ĵ (ā 0) (ā 1))) ⟨rfl,⟨rfl,Or.inl rfl⟩,trivial⟩))
def Wz(T:Tx K mg a):Ħ P w K mg base Ŧ 6 a.Ow a.QD ["yard","number","goal","costs"] (ţ ⟨K,ĵ a⟩ 4 qy):=by
 refine ĸ T.ig.F GJ λ_ _ _ _ _ _ hr hu=>?_
 exact Ĕ (Ş (t_eq hu (ā 1) (ā 2)) (ļ Ĥ) į) (ķ GJ (ĉ (Hj T) T.gn hr Ď (Đ 0 (Đ 1 (Đ 3 ď)))) (ļ (Yq (aC zc qP (ā 4) uT (Ń _)) uy (Ĵ (ā 3) (ā 4)))))
def WD(T:Tx K mg a):Ħ P w K mg base Ŧ 8 a.Ox a.QF ["yard","turn","goal","later"] (ţ ⟨K,ĵ a⟩ 4 zM):=by
 refine ĸ T.n_.F jV λ_ _ _ _ _ _ hr _=>?_
 exact ķ jV (ĉ (Hh T) T.xZ hr Ď (Đ 0 (Đ 1 ď))) (ķ jV (Ŝ ě) (Ĕ (fG PassesOwn.leaving rfl (aF rfl T.bT (Ć (v_mul (Ě (Ő ["Yard"] (Za T) (ā 0))) (Ě (Ő ["Yard"] (Zm T) (ā 0)))) ě)) (fO jV) (ķ jV (ĉ (Wz T) T.ig hr Ď (Đ 0 (Đ 6 (Đ 2 (Đ 3 ď))))) (ķ jV (ű (v_sub ă (Ě (bx JD JF (Ě (bx Dv Dw (ā 4) (ā 6))) ă)))) (Į (PS.wk (Ÿ (gM PySem.F.plainAttrs_list PySem.F.slot_list_append PySem.F.type_list_append ń (pv 5) (Ć (Yq (aC zc qP (ā 7) uT (Ń _)) uy (v_add (ā 8) (ā 7))) ě))) λ_ _ _ h=>aR h))))) (ľ (mJ 5))))
def WK(T:Tx K mg a):Ħ P w K mg base Ŧ 9 a.Oz a.QG ["yard","day","goal"] (ţ ⟨K,ĵ a⟩ 3 zN):=by
 refine ĸ T.oh.F oM λ_ _ _ _ _ _ hr _=>?_
 exact ķ oM (Ŝ ě) (Ĕ (uV oM (aF rfl T.bT (Ć (v_mul (Ě (Ő ["Yard"] (Za T) (ā 0))) (Ě (Ő ["Yard"] (Zm T) (ā 0)))) ě)) aW Ś uy) (Ĕ (fG PassesOwn.leaving rfl (Zah rfl T.oA (Ĝ (ĉ (Wj T) T.nY hr Ď (Đ 0 (Đ 1 ď))))) (fO oM) (ķ oM (ĉ (WD T) T.n_ hr Ď (Đ 0 (Đ 5 (Đ 2 (Đ 4 ď))))) (Į (PS.wk (Ÿ (gM PySem.F.plainAttrs_list PySem.F.slot_list_append PySem.F.type_list_append ń (pv 3) (Ć (v_var 4) ě))) λ_ _ _ h=>aR h)))) (ľ (Vd rfl rfl T.cC rfl T.oA (ā 3)))))
def WL(T:Tx K mg a):Ħ P w K mg base Ŧ 6 a.OD a.QH ["yard","start","goal","paper"] (ţ ⟨K,ĵ a⟩ 4 zO):=by
 refine ĸ T.vA.F GK λ_ _ _ _ _ _ hr hu=>?_
 exact ķ GK (Ŝ (Ć (v_var 1) ě)) (Ĕ (Jv PassesOwn.leaving (rY hu (Ĩ (ā 4) (Ě (pB b_ bV ă))) (ā 2)) (Į (PS.wk (Ÿ (gM PySem.F.plainAttrs_list PySem.F.slot_list_append PySem.F.type_list_append ń (pv 4) (Ć (Ĝ (ĉ (Hj T) T.gn hr Ď (Đ 0 (ċ (Ĵ (ā 4) (Ě (pB b_ bV ă))) (ċ (Ĵ (ā 3) (Ě (Ţ ů Ŵ T.bB PySem.boot_len (Ė (ā 4) Ġ)))) ď))))) ě))) λ_ _ _ h=>aR h))) (ľ (lE (aH 4) aW Ś (Ĝ (ĉ (Hi T) T.iJ hr Ď (Đ 1 (ċ (Ő ["Yard"] (Za T) (ā 0)) ď)))))))
def Hl(T:Tx K mg a):Ħ P w K mg base Ŧ 10 a.OJ a.QJ ["yard","day","start","goal"] (ţ ⟨K,ĵ a⟩ 4 jo):=by
 refine ĸ T.dJ.F tY λ_ _ _ _ _ _ hr _=>?_
 exact Ĕ (wD (Ĝ (ĉ (GZ T) T.cA hr Ď (Đ 0 (Đ 2 ď))))) (Ĕ (wD (Ĝ (ĉ (GZ T) T.cA hr Ď (Đ 0 (Đ 3 ď))))) (Ĕ (wD (Ĝ (ĉ (Wi T) T.kY hr Ď (Đ 0 (Đ 1 ď))))) (ķ tY (ĉ (yx T) T.bO hr Ď (Đ 2 (ċ (Ő ["Yard"] (Za T) (ā 0)) ď))) (ķ tY (ĉ (yx T) T.bO hr Ď (Đ 3 (ċ (Ő ["Yard"] (Za T) (ā 0)) ď))) (ķ tY (ĉ (WK T) T.oh hr Ď (Đ 0 (Đ 1 (Đ 5 ď)))) (Ĕ (Ş (aC zc qP (Ĩ (Ĩ (ā 6) ă) (ā 4)) uT (Ń _)) (ļ (Ĺ (Ć ŵ (Ć (v_var 6) ě)))) į) (ľ (Uz (zy ŵ (zy (Ĵ (Ĩ (ā 6) ă) (ā 4)) (Uy 6 (ĉ (WL T) T.vA hr Ď (Đ 0 (Đ 4 (Đ 5 (Đ 6 ď))))))))))))))))
def yC(T:Tx K mg a):Ħ P w K mg base Ŧ 1 a.O_ a.QK ["_law_found"] (ţ ⟨K,ĵ a⟩ 1 qC):=by
 refine ĸ T.aX.F VG λ_ _ _ _ _ _ _ _=>?_
 exact ļ (v_and (Ţ mX mY T.Ż PyProof.Rows.boot_isinstance (Ė (ā 0) (Ė (Ě (yR (.ty "int") (iT (v:=.ty "int") rfl T.Gx PyProof.Rows.boot_int rfl))) Ġ))) (jc (v_not (Ţ mX mY T.Ż PyProof.Rows.boot_isinstance (Ė (ā 0) (Ė (Ě (yR (.ty "bool") (iT (v:=.ty "bool") rfl T.Vl PyProof.Rows.boot_bool rfl))) Ġ))))))
def Ho(T:Tx K mg a):Ħ P w K mg base Ŧ 1 a.Pa a.QL ["_law_one","_law_other"] (ţ ⟨K,ĵ a⟩ 2 qD):=by
 refine ĸ T.dM.F VH λ_ _ _ _ _ _ _ _=>?_
 exact ľ (dX (Ě (Ţ Cq DP T.Rh PyProof.Rows.boot_abs (Ė (jj (Ĩ (ā 0) ă) (Ĩ (ā 1) ă)) Ġ))) (Ě (Ţ Cq DP T.Rh PyProof.Rows.boot_abs (Ė (jj (Ĩ (ā 0) ă) (Ĩ (ā 1) ă)) Ġ))))
def WM(T:Tx K mg a):Ħ P w K mg base Ŧ 2 a.Pb a.QM ["_law_stone_here","_law_size_here"] (ţ ⟨K,ĵ a⟩ 2 qF):=by
 refine ĸ T.jr.F VJ λ_ _ _ _ _ _ hr hu=>?_
 exact Ĕ (Ş (PW.pt (w_or (gQ (aB (Ě (Ţ mX mY T.Ż PyProof.Rows.boot_isinstance (Ė (ā 0) (Ė (Ě (yR (.ty "tuple") (iT (v:=.ty "tuple") rfl T.sZ PyProof.Rows.boot_tuple rfl))) Ġ)))))) (w_or (rY hu (Ě (Ţ ů Ŵ T.bB PySem.boot_len (Ė (ā 0) Ġ))) ă) (w_or (gQ (aB (Ě (Ĝ (ĉ (yC T) T.aX hr Ď (ċ (Ĵ (ā 0) ă) ď)))))) (pY (gQ (aB (Ě (Ĝ (ĉ (yC T) T.aX hr Ď (ċ (Ĵ (ā 0) ă) ď))))))))))) (ļ ux) į) (ļ (v_and (kj dU dR dO dN ă (Ĩ (ā 0) ă) (Ĩ (ā 1) ă)) (jc (kj dU dR dO dN ă (Ĩ (ā 0) ă) (Ĩ (ā 1) ă)))))
def Hq(T:Tx K mg a):Ħ P w K mg base Ŧ 3 a.Ph a.QS ["_law_told","_law_size_here","_law_sets","_law_ends"] (ţ ⟨K,ĵ a⟩ 4 nP):=by
 refine ĸ T.gq.F jW λ_ _ _ _ _ _ hr hu=>?_
 exact Ĕ (Ş (PW.pt (w_or (rY hu (Ě (Ţ ů Ŵ T.bB PySem.boot_len (Ė (ā 0) Ġ))) ă) (w_or (gQ (aB (Ě (Ĝ (ĉ (yC T) T.aX hr Ď (ċ (Ĵ (ā 0) ă) ď)))))) (pY (gQ (aB (Ě (Ţ mX mY T.Ż PyProof.Rows.boot_isinstance (Ė (Ĩ (ā 0) ă) (Ė (Ě (yR (.ty "list") (iT (v:=.ty "list") rfl T.cC PyProof.Rows.boot_list rfl))) Ġ)))))))))) (ļ ux) į) (ķ jW (ű (Ĵ (ā 0) ă)) (Ĕ (Ş (PW.pt (w_or (t_eq hu (ā 4) (Ě (Ĝ (Ŝ ě)))) (w_or (aC uI uo (Ě (Ţ ů Ŵ T.bB PySem.boot_len (Ė (ā 4) Ġ))) (Ě (Ţ ů Ŵ T.bB PySem.boot_len (Ė (ā 2) Ġ))) (Ń _)) (pY (gQ (aB (Ě (Ţ (qY rfl) rH T.zQ PyProof.Rows.boot_all (Ė (Ě (Ĝ (lE (aH 4) aW Ś (Ĝ (ĉ (WM T) T.jr hr Ď (Đ 1 (Đ 0 ď))))))) Ġ))))))))) (ļ ux) į) (Ĕ (Ş (PW.pt (w_or (rY hu (Ĩ (ā 4) ă) (Ĩ (ā 3) ă)) (pY (rY hu (Ĩ (ā 4) (Ě (pB b_ bV ă))) (Ĩ (ā 3) ă))))) (ļ ux) į) (ķ jW (ű (Ĵ (ā 0) ă)) (Ĕ (fG PassesOwn.leaving rfl (aF rfl T.bT (Ć (Ţ ů Ŵ T.bB PySem.boot_len (Ė (ā 4) Ġ)) ě)) (fO jW) (Ĕ (Ş (PW.pt (w_and (aC uI uo (ā 6) ă (Ń _)) (fj (aC uI uo (Ě (Ĝ (ĉ (Ho T) T.dM hr Ď (ċ (Ĵ (ā 4) (jj (ā 6) ă)) (ċ (Ĵ (ā 4) (ā 6)) ď))))) ă (Ń _))))) (ļ ux) į) (ķ jW (dX (Ŗ (Ĩ (Ĩ (ā 4) (ā 6)) ă) (Ĩ (ā 1) ă)) (Ĩ (Ĩ (ā 4) (ā 6)) ă)) (Ĕ (Ş (rY hu (Ĩ (Ĩ (Ĩ (ā 0) ă) (ā 6)) (ā 7)) (ā 5)) (ļ ux) į) (Į (wX jW (dX (jj (ā 5) ă) (ō (Ě (bx Dv Dw (Ĩ (ā 2) (ā 6)) (ā 7))) ă)))))))) (ļ (v_eq hu (ā 5) ă)))))))
def Hr(T:Tx K mg a):Ħ P w K mg base Ŧ 1 a.Pj a.QT ["_law_number"] (ţ ⟨K,ĵ a⟩ 1 qG):=by
 refine ĸ T.cB.F VL λ_ _ _ _ _ _ _ hu=>?_
 exact Ĕ (Ş (t_eq hu (ō (dW (ā 0) ă) ă) ă) (ľ (dX ă (ō (Ŗ (ā 0) ă) (Ě (bx mQ mF ă ă))))) į) (ľ (dX ă (ō (ā 0) ă)))
def oO(T:Tx K mg a):Ħ P w K mg base Ŧ 1 a.Pk a.QV ["_law_number","_law_wide"] (ţ ⟨K,ĵ a⟩ 2 g_):=by
 refine ĸ T.ť.F VN λ_ _ _ _ _ _ _ hu=>?_
 exact Ĕ (Ş (t_eq hu (ō (dW (ā 0) ă) ă) ă) (ľ (dX (jj (ō (Ŗ (ā 0) ă) (jj (Ŗ ă (Ě (bx mQ mF ă ă))) ă)) (Ě (bx mQ mF ă ă))) ă)) į) (ļ (v_sub (ō (ā 0) (fM (Ŗ ă (ā 1)) ă)) ă))
def WQ(T:Tx K mg a):Ħ P w K mg base Ŧ 2 a.Pn a.QW ["_law_cell","_law_wide"] (ţ ⟨K,ĵ a⟩ 2 fV):=by
 refine ĸ T.jt.F gB λ_ _ _ _ _ _ hr hu=>?_
 exact ķ gB (ĉ (GP T) T.cu hr Ď (Đ 0 (ċ Ĥ ď))) (Ĕ (KD (Ĝ (lE (aF rfl T.bT (Ć Ĥ ě)) aW Ś (Ĝ (ĉ (oO T) T.ť hr Ď (ċ (Ĵ (ā 1) (ā 2)) (Đ 0 ď)))))) (Ld rfl (ŝ (fO gB) (ŝ (fO gB) jG)))) (ķ gB (ĉ (Hr T) T.cB hr Ď (ċ (Ĵ (ā 2) ă) ď)) (ķ gB (ű (v_mod (Ĩ (ā 2) ă) ă)) (Ĕ (Ş (t_eq hu (ā 4) ă) (ļ (Ĺ (Ć ŵ (Ć (Ĝ (Ŝ (Ć (nD (ā 5) ă) (Ć (nD (ā 6) ă) (Ć (v_var 3) ě))))) ě)))) į) (Ĕ (Ş (t_eq hu (ā 4) ă) (Ĕ (KD (Ĝ (Ŝ (Ć (v_sub (fM (ā 5) (ō (Ĩ (ā 2) ă) ă)) ă) (Ć (v_sub (fM (ā 6) (ō (Ĩ (ā 2) ă) ă)) ă) ě)))) (Ld rfl (ŝ (fO gB) (ŝ (fO gB) jG)))) (ļ (Ĺ (Ć ŵ (Ć (Ĝ (Ŝ (Ć (v_var 5) (Ć (v_var 6) (Ć (v_add (ā 7) (Ě (UJ Ei Ej T.Gx PyProof.Rows.boot_int (Ė (Ě (v_eq hu (Ě (Ĺ (Ć (v_var 5) (Ć (v_var 6) ě)))) (Ě (Ĺ (Ć (v_var 7) (Ć (v_var 8) ě)))))) Ġ)))) (Ć (v_var 8) (Ć (v_var 3) ě))))))) ě))))) į) (Ĕ (Ş (t_eq hu (ā 4) ă) (ļ (Ĺ (Ć ŵ (Ć (v_add (fM (Ě (Ĝ (Ŝ (Ć (v_var 5) (Ć (v_var 6) (Ć (v_mod (Ĩ (ā 2) ă) ă) ě)))))) (Ě (Ĝ (Ŝ (Ć (Ĝ (ĉ (oO T) T.ť hr Ď (ċ (Ĵ (ā 2) ă) (Đ 1 ď)))) (Ć (Ĝ (ĉ (oO T) T.ť hr Ď (ċ (Ĵ (ā 2) ă) (Đ 1 ď)))) (Ć (v_var 3) ě))))))) (Ě (Ĝ (Ŝ (Ć (Ĝ (ĉ (oO T) T.ť hr Ď (ċ (Ĵ (ā 2) ă) (Đ 1 ď)))) (Ć (Ĝ (ĉ (oO T) T.ť hr Ď (ċ (Ĵ (ā 2) ă) (Đ 1 ď)))) (Ć (Ĝ (ĉ (Hr T) T.cB hr Ď (ċ (Ĵ (ā 2) ă) ď))) ě))))))) ě)))) į) (ļ (Ĺ (Ć (Ĵ (Ě (Ĝ (Ŝ (Ć ŵ (Ć ŵ ě))))) (jj (ā 4) ă)) (Ć (Ĝ (Ŝ (Ć (v_var 5) (Ć (v_var 6) (Ć (v_add (fM (ā 5) ă) (ō (Ĩ (ā 2) ă) ă)) (Ć (v_add (fM (ā 6) ă) (ō (Ĩ (ā 2) ă) ă)) (Ć (v_var 3) ě))))))) ě))))))))))
def oR(T:Tx K mg a):Ħ P w K mg base Ŧ 1 a.Pq a.QX ["number"] (ţ ⟨K,ĵ a⟩ 1 kO):=by
 refine ĸ T.ak.F VP λ_ _ _ _ _ _ _ _=>?_
 exact ļ (kj dU dU dO dO (Ě (pB b_ bV (Ě (yR (.int 1000000000) (iR (v:=.int 1000000000) rfl T.jw ⟨_,rfl⟩))))) (ā 0) (Ě (yR (.int 1000000000) (iR (v:=.int 1000000000) rfl T.jw ⟨_,rfl⟩))))
def Hs(T:Tx K mg a):Ħ P w K mg base Ŧ 1 a.Pr a.QZ ["number"] (ţ ⟨K,ĵ a⟩ 1 vm):=by
 refine ĸ T.gw.F VR λ_ _ _ _ _ _ _ _=>?_
 exact ļ (kj dU dU dO dO ă (ā 0) (Ě (yR (.int 1000000000) (iR (v:=.int 1000000000) rfl T.iy ⟨_,rfl⟩))))
def WR(T:Tx K mg a):Ħ P w K mg base Ŧ 2 a.Pu a.Q_ ["numbers"] (ţ ⟨K,ĵ a⟩ 1 vo):=by
 refine ĸ T.ju.F V_ λ_ _ _ _ _ _ hr hu=>?_
 exact ļ (v_and (v_eq hu (Ě (Ţ ů Ŵ T.bB PySem.boot_len (Ė (ā 0) Ġ))) ă) (v_and (Ĝ (ĉ (oR T) T.ak hr Ď (ċ (Ĵ (ā 0) ă) ď))) (v_and (Ĝ (ĉ (oR T) T.ak hr Ď (ċ (Ĵ (ā 0) ă) ď))) (jc (Ĝ (ĉ (Hs T) T.gw hr Ď (ċ (Ĵ (ā 0) ă) ď)))))))
def Ht(T:Tx K mg a):Ħ P w K mg base Ŧ 1 a.lF a.A_ ["self","word","numbers"] (HF ⟨K,ĵ a⟩ 3 "Post" sJ):=by
 refine Xe (cm:=ĵ a) (mb:=dZ) T.Ĭ.F vH rfl rfl rfl λcdv A outer s H E hr=>?_
 have hu:=hr.units
 exact Ĕ (ź ["Thing","Post","Fence","Sail","Cloth","House"] (Zy T) (pv 0) (v_var 1)) (Į (ź ["Thing","Post","Fence","Sail","Cloth","House"] (Z7 T) (pv 0) (Ĝ (uU bK bL T.cC PyProof.Rows.boot_list (Ė (ā 2) Ġ)))))
def Ba(T:Tx K mg a):Ħ P w K mg base Ŧ 1 a.lF a.A_ ["self","word","numbers"] (HF ⟨K,ĵ a⟩ 3 "Fence" nQ):=by
 refine Xe (cm:=ĵ a) (mb:=dZ) T.Ĭ.F vH rfl rfl rfl λcdv A outer s H E hr=>?_
 have hu:=hr.units
 exact Ĕ (ź ["Thing","Post","Fence","Sail","Cloth","House"] (Zy T) (pv 0) (v_var 1)) (Į (ź ["Thing","Post","Fence","Sail","Cloth","House"] (Z7 T) (pv 0) (Ĝ (uU bK bL T.cC PyProof.Rows.boot_list (Ė (ā 2) Ġ)))))
def Hv(T:Tx K mg a):Ħ P w K mg base Ŧ 1 a.lF a.A_ ["self","word","numbers"] (HF ⟨K,ĵ a⟩ 3 "Sail" sO):=by
 refine Xe (cm:=ĵ a) (mb:=dZ) T.Ĭ.F vH rfl rfl rfl λcdv A outer s H E hr=>?_
 have hu:=hr.units
 exact Ĕ (ź ["Thing","Post","Fence","Sail","Cloth","House"] (Zy T) (pv 0) (v_var 1)) (Į (ź ["Thing","Post","Fence","Sail","Cloth","House"] (Z7 T) (pv 0) (Ĝ (uU bK bL T.cC PyProof.Rows.boot_list (Ė (ā 2) Ġ)))))
def Bb(T:Tx K mg a):Ħ P w K mg base Ŧ 1 a.lF a.A_ ["self","word","numbers"] (HF ⟨K,ĵ a⟩ 3 "Cloth" nR):=by
 refine Xe (cm:=ĵ a) (mb:=dZ) T.Ĭ.F vH rfl rfl rfl λcdv A outer s H E hr=>?_
 have hu:=hr.units
 exact Ĕ (ź ["Thing","Post","Fence","Sail","Cloth","House"] (Zy T) (pv 0) (v_var 1)) (Į (ź ["Thing","Post","Fence","Sail","Cloth","House"] (Z7 T) (pv 0) (Ĝ (uU bK bL T.cC PyProof.Rows.boot_list (Ė (ā 2) Ġ)))))
def Bc(T:Tx K mg a):Ħ P w K mg base Ŧ 1 a.lF a.A_ ["self","word","numbers"] (HF ⟨K,ĵ a⟩ 3 "House" nT):=by
 refine Xe (cm:=ĵ a) (mb:=dZ) T.Ĭ.F vH rfl rfl rfl λcdv A outer s H E hr=>?_
 have hu:=hr.units
 exact Ĕ (ź ["Thing","Post","Fence","Sail","Cloth","House"] (Zy T) (pv 0) (v_var 1)) (Į (ź ["Thing","Post","Fence","Sail","Cloth","House"] (Z7 T) (pv 0) (Ĝ (uU bK bL T.cC PyProof.Rows.boot_list (Ė (ā 2) Ġ)))))
def Hw(T:Tx K mg a):Ħ P w K mg base Ŧ 2 a.Px a.Ra ["numbers"] (ţ ⟨K,ĵ a⟩ 1 qH):=by
 refine ĸ T.bA.F Wa λ_ _ _ _ _ _ hr hu=>?_
 exact ļ (v_and (v_eq hu (Ě (Ţ ů Ŵ T.bB PySem.boot_len (Ė (ā 0) Ġ))) ă) (v_and (Ţ (qY rfl) rH T.zQ PyProof.Rows.boot_all (Ė (Ě (Ĝ (lE (fH (Ĝ (au (ā 0) mW (ų Ĥ)))) aW Ś (Ĝ (ĉ (oR T) T.ak hr Ď (Đ 0 ď)))))) Ġ)) (jc (Ĝ (ĉ (Hs T) T.gw hr Ď (ċ (Ĵ (ā 0) ă) ď))))))
def WT(T:Tx K mg a):Ħ P w K mg base Ŧ 3 a.Py a.Rb ["numbers"] (ţ ⟨K,ĵ a⟩ 1 vp):=by
 refine ĸ T.iu.F Wb λ_ _ _ _ _ _ hr hu=>?_
 exact ļ (v_and (Ĝ (ĉ (Hw T) T.bA hr Ď (Đ 0 ď))) (jc (pX KZ (Cz hu) (Ě (Ĝ (au (ā 0) mW (ų Ĥ)))) (Ě (Ĝ (au (ā 0) (ų Ĥ) (ų Ĥ)))) (Ń _))))
def Rj(T:Tx K mg a):Ħ P w K mg base Ŧ 3 a.Zaw a.ZaF ["numbers"] (ţ ⟨K,ĵ a⟩ 1 Az):=by
 refine ĸ T.ś.F ZaL λ_ _ _ _ _ _ hr _=>?_
 exact ļ (v_and (Ĝ (ĉ (Hw T) T.bA hr Ď (Đ 0 ď))) (v_and (pX dR dN (Ĩ (ā 0) ă) (Ĩ (ā 0) ă) (Ń _)) (jc (pX dR dN (Ĩ (ā 0) ă) (Ĩ (ā 0) ă) (Ń _)))))
def ZaS(T:Tx K mg a):Ħ P w K mg base Ŧ 2 a.Zax a.ZaG ["numbers"] (ţ ⟨K,ĵ a⟩ 1 Kf):=by
 refine ĸ T.bR.F ZaM λ_ _ _ _ _ _ hr _=>?_
 exact ļ (v_and (Ĝ (ĉ (oR T) T.ak hr Ď (ċ (Ĵ (ā 0) ă) ď))) (v_and (Ĝ (ĉ (oR T) T.ak hr Ď (ċ (Ĵ (ā 0) ă) ď))) (jc (kj dU dU dO dO ă (Ĩ (ā 0) ă) (Ě (yR (.int 1000000000) (iR (v:=.int 1000000000) rfl T.iy ⟨_,rfl⟩)))))))
def WW(T:Tx K mg a):Ħ P w K mg base Ŧ 3 a.Pz a.Rf ["numbers"] (ţ ⟨K,ĵ a⟩ 1 vq):=by
 refine ĸ T.iw.F Wc λ_ _ _ _ _ _ hr hu=>?_
 exact ļ (v_and (v_eq hu (Ě (Ţ ů Ŵ T.bB PySem.boot_len (Ė (ā 0) Ġ))) ă) (jc (Ţ (qY rfl) rH T.zQ PyProof.Rows.boot_all (Ė (Ě (Ĝ (lE (fH (Ĺ (Ć Ĥ (Ć Ĥ (Ć Ĥ ě))))) aW Ś (Ĝ (ĉ (ZaS T) T.bR hr Ď (ċ (Ĝ (au (ā 0) (ų (v_var 1)) (ų (v_add (ā 1) ă)))) ď)))))) Ġ))))
def WX(T:Tx K mg a):Ħ P w K mg base Ŧ 4 a.PJ a.Rg ["word","numbers"] (ţ ⟨K,ĵ a⟩ 2 cV):=by
 refine ĸ T.ou.F Wd λ_ _ _ _ _ _ hr hu=>?_
 exact Ĕ (Ş (PW.pt (w_and (t_eq hu (ā 0) nC) (fj (aB (Ě (Ĝ (ĉ (WR T) T.ju hr Ď (Đ 1 ď)))))))) (ļ (jJ T.Vn (Ht T) aY hr.mo rfl (Z2b T) T.Ĭ.b Ď (Đ 0 (Đ 1 ď)))) į) (Ĕ (Ş (PW.pt (w_and (t_eq hu (ā 0) nC) (fj (aB (Ě (Ĝ (ĉ (WT T) T.iu hr Ď (Đ 1 ď)))))))) (ļ (jJ T.Ko (Ba T) aY hr.mo rfl (Z1E T) T.Ĭ.b Ď (Đ 0 (Đ 1 ď)))) į) (Ĕ (Ş (PW.pt (w_and (t_eq hu (ā 0) nC) (fj (aB (Ě (Ĝ (ĉ (Rj T) T.ś hr Ď (Đ 1 ď)))))))) (ļ (jJ T.Vo (Hv T) aY hr.mo rfl (Z2c T) T.Ĭ.b Ď (Đ 0 (Đ 1 ď)))) į) (Ĕ (Ş (PW.pt (w_and (t_eq hu (ā 0) nC) (fj (aB (Ě (Ĝ (ĉ (WW T) T.iw hr Ď (Đ 1 ď)))))))) (ļ (jJ T.Kp (Bb T) aY hr.mo rfl (Z1F T) T.Ĭ.b Ď (Đ 0 (Đ 1 ď)))) į) (Ĕ (Ş (PW.pt (w_and (t_eq hu (ā 0) nC) (fj (aB (Ě (Ĝ (ĉ (Rj T) T.ś hr Ď (Đ 1 ď)))))))) (ļ (jJ T.Kq (Bc T) aY hr.mo rfl (Z1G T) T.Ĭ.b Ď (Đ 0 (Đ 1 ď)))) į) (Į rm)))))
def WY(T:Tx K mg a):Ħ P w K mg base Ŧ 11 a.PK a.Gu ["_law_script"] (ţ ⟨K,ĵ a⟩ 1 nU):=by
 refine ĸ T.Gw.F aL λ_ _ _ _ _ _ hr hu=>?_
 exact ķ aL (ĉ (Wf T) T.kW hr Ď (ċ (Ĝ (ĉ (bC T) T.ņ hr Ď (Đ 0 (ċ Ĥ ď)))) (ċ Ĥ ď))) (Ĕ (uV aL (fH (Ĝ (au (ā 0) (ų Ĥ) (ų Ĥ)))) aW Ś (Ĝ (ĉ (WQ T) T.jt hr Ď (Đ 1 (ċ (Ţ (wU rfl) wV T.zR PyProof.Rows.boot_max (Ė (ā 0) Ġ)) ď))))) (ķ aL (ĉ (GQ T) T.fW hr Ď (Đ 0 (ċ Ĥ (ċ (v_add ă (ō (Ě (Ĝ (ĉ (bC T) T.ņ hr Ď (Đ 0 (ċ Ĥ ď))))) ă)) (ċ Ĥ ď))))) (Ĕ (Ş (t_eq hu (ō (dW (Ě (Ĝ (ĉ (bC T) T.ņ hr Ď (Đ 0 (ċ Ĥ ď))))) ă) ă) ă) (ķ aL (ű (Ĺ (Ć (v_add ă (ō (Ě (Ĝ (ĉ (bC T) T.ņ hr Ď (Đ 0 (ċ Ĥ ď))))) ă)) (Ć Ĥ ě)))) (ķ aL (au (ā 2) mW (ų Ĥ)) (Į (wX aL (ĉ (GQ T) T.fW hr Ď (Đ 0 (ċ Ĥ (ċ Ĥ (ċ Ĥ ď))))))))) į) (ķ aL (ű (jJ T.Vm (GR T) aY hr.mo rfl (Z2a T) T.eE.b Ď (ċ (Ĵ (ā 1) ă) (ċ (Ĵ (ā 1) ă) (ċ (Ĝ (lE (aH 2) (yV rfl (ŝ aW (ŝ aW jG))) Ś (Ĝ (ĉ (WX T) T.ou hr Ď (Đ 0 (ċ (Ĝ (uU bK bL T.cC PyProof.Rows.boot_list (Ė (ā 1) Ġ))) ď)))))) (Đ 3 ď)))))) (ķ aL (ű (v_mod (dW (Ě (Ĝ (ĉ (bC T) T.ņ hr Ď (Đ 0 (ċ Ĥ ď))))) ă) (Ě (Ţ ů Ŵ T.bB PySem.boot_len (Ė (ā 3) Ġ))))) (ķ aL (Ŝ (Ć (Ĺ (Ć (v_mod (Ě (Ĝ (ĉ (bC T) T.ņ hr Ď (Đ 0 (ċ Ĥ ď))))) (Ĩ (ā 1) ă)) (Ć (v_mod (dW (Ě (Ĝ (ĉ (bC T) T.ņ hr Ď (Đ 0 (ċ Ĥ ď))))) ă) (Ĩ (ā 1) ă)) ě))) ě)) (Ĕ (PS.wk (Ÿ (gM PySem.F.plainAttrs_list PySem.F.slot_list_append PySem.F.type_list_append ń (pv 6) (Ć (Ĺ (Ć (v_mod (Ě (Ĝ (ĉ (bC T) T.ņ hr Ď (Đ 0 (ċ Ĥ ď))))) (Ĩ (ā 1) ă)) (Ć (v_mod (dW (Ě (Ĝ (ĉ (bC T) T.ņ hr Ď (Đ 0 (ċ Ĥ ď))))) ă) (Ĩ (ā 1) ă)) ě))) ě))) λ_ _ _ h=>aR h) (Ĕ (uV aL (fH (Ĵ (Ĩ (ā 3) (ā 5)) ă)) aW Ś (Ĝ (ĉ (Hh T) T.xZ hr Ď (Đ 0 (Đ 1 ď))))) (ķ aL (ĉ (Hl T) T.dJ hr Ď (Đ 4 (Đ 5 (ċ (Ĵ (ā 6) ă) (ċ (Ĵ (ā 6) ă) ď))))) (Ĕ (Ş (wW 8 (PW.pt (w_or (gQ (aB (Ě (Ţ mX mY T.Ż PyProof.Rows.boot_isinstance (Ė (ā 8) (Ė (Ě (yR (.ty "tuple") (iT (v:=.ty "tuple") rfl T.sZ PyProof.Rows.boot_tuple rfl))) Ġ)))))) (pY (rY hu (Ě (Ţ ů Ŵ T.bB PySem.boot_len (Ė (ā 8) Ġ))) (Ĩ (Ě (Ĝ (Ŝ (Ć Ĥ (Ć Ĥ ě))))) (Ě (UJ Ei Ej T.Gx PyProof.Rows.boot_int (Ė (Ě (pX dR dN (Ě (Ĝ (ĉ (Ho T) T.dM hr Ď (ċ (Ĵ (ā 6) ă) (ċ (Ĵ (ā 6) ă) ď))))) (Ě (Ţ ů Ŵ T.bB PySem.boot_len (Ė (ā 7) Ġ))) (Ń _))) Ġ))))))))) (ļ ux) į) (Ĕ (Ş (wW 8 (t_eq hu (Ě (Ţ ů Ŵ T.bB PySem.boot_len (Ė (ā 8) Ġ))) ă)) (ļ (v_eq hu (Ĩ (ā 8) ă) nC)) į) (Ĕ (Ş (wW 8 (PW.pt (w_or (rY hu (Ĩ (ā 8) ă) nC) (pY (gQ (aB (Ě (Ĝ (ĉ (Hq T) T.gq hr Ď (Đ 8 (Đ 1 (Đ 7 (Đ 6 ď))))))))))))) (ļ ux) į) (Ĕ (PS.wk (Ÿ (gM PySem.F.plainAttrs_list PySem.F.slot_list_append PySem.F.type_list_append ń (Kz Cg (pv 8) Bm (λ_ _=>rfl)) (Ć (Ĵ (ā 6) ă) ě))) λ_ _ _ h=>Es h) (ľ (ĉ (Hq T) T.gq hr Ď (ċ (Ĝ (ĉ (Hl T) T.dJ hr Ď (Đ 4 (Đ 5 (ċ (Ĵ (ā 6) ă) (ċ (Ĵ (ā 6) ă) ď)))))) (Đ 1 (Đ 7 (Đ 6 ď)))))))))))))))))))
end
def pt(p:Hu.Pt):PV:=.tup [.int p.1,.int p.2]
def eU(l:Hu.Ln):PV:=.tup [.int l.1,.int l.2.1,.int l.2.2]
def Sm(p:Hu.Pt):Prop:=-100000000000000000<=p.1/\p.1<=100000000000000000/\ -100000000000000000<=p.2/\p.2<=100000000000000000
def Rk(l:Hu.Ln):Prop:=-1000000000000000000<=l.1/\l.1<=1000000000000000000/\ -1000000000000000000<=l.2.1/\l.2.1<=1000000000000000000
def Z0m{x y:Hu.Pt}:eqB (pt y) (pt x)=decide (y=x):=by
 obtain⟨a,b⟩:=x
 obtain⟨c,d⟩:=y
 unfold pt
 rw[Uv,Bool.eq_iff_iff]
 simp
def ZT(x:Hu.Pt):ŭ (pt x)=true:=by simp[pt,ŭ,ž]
def ZM(x:Hu.Pt):dep (pt x)=1:=by simp[pt,dep,jf]
def Z2w(S:List Hu.Pt):ž (S.map pt)=true:=by
 induction S with
 |nil=>simp[ž]
 |cons p S ih=>simp[ž,ZT,ih]
theorem Z1e(x:Hu.Pt):∀k:List Hu.Pt,(k.map pt).any (λy=>eqB y (pt x))=decide (x∈k)
 | []=>by simp
 |y::k=>by
  rw[List.map_cons,List.any_cons,Z1e x k,Z0m,Bool.eq_iff_iff]
  simp
  constructor
  ·rintro (e|e)
   ·exact .inl e.symm
   ·exact .inr e
  ·rintro (e|e)
   ·exact .inl e.symm
   ·exact .inr e
def Z0n(x:Hu.Pt)(k:List Hu.Pt):inD true (pt x) (.lst (k.map pt))=some (.bl (!decide (x∈k))):=by
 unfold inD
 simp only[ZT,Z2w,ZM,Z1e]
 rfl
def Z0V(x y:Hu.Pt):ū (pt x) (pt y)=some (.bl (!decide (x=y))):=by
 unfold ū pC
 rw[ZT,ZT,ZM,ZM,Z0m]
 rfl
def Z2d{a b:Hu.Pt}(ha:Sm a)(hb:Sm b):zJ [.sh (pt a),.sh (pt b)]=.ret (.sh (eU (Hu.Z5 a b))):=by
 obtain⟨a1,a2,a3,a4⟩:=ha
 obtain⟨b1,b2,b3,b4⟩:=hb
 have m1:ł (b.2-a.2) a.1=true:=ſ (by omega) (by omega)
 have m2:ł (a.1-b.1) a.2=true:=ſ (by omega) (by omega)
 simp[zJ,Fw,List.replicate,pt,eU,Hu.Z5,m1,m2]
def Z1H{l:Hu.Ln}(hl:Rk l)(p:Hu.Pt):qm [.sh (eU l),.sh (pt p)]=.ret (.sh (.bl (Hu.hd l p))):=by
 obtain⟨a1,a2,a3,a4⟩:=hl
 have m1:ł l.1 p.1=true:=ſ (by omega) (by omega)
 have m2:ł l.2.1 p.2=true:=ſ (by omega) (by omega)
 simp[qm,Fx,List.replicate,pt,eU,Hu.hd,m1,m2]
def Z0G{a b:Hu.Pt}(ha:Sm a)(hb:Sm b):Rk (Hu.Z5 a b):=by
 obtain⟨a1,a2,a3,a4⟩:=ha
 obtain⟨b1,b2,b3,b4⟩:=hb
 simp only[Rk,Hu.Z5]
 omega
def Sl(s:P.Slot)(ps:List PV):Prop:=s=.sh (.lst ps)\/s=.bw ps
def Sl.lend{s:P.Slot}{ps:List PV}(h:Sl s ps):cL s=some s:=by rcases h with rfl|rfl<;>rfl
def Sl.it{s:P.Slot}{ps:List PV}(h:Sl s ps){i:Nat}{ρ:ĺ}(e:ρ[i]?=some s):Ŕ i ρ=.ok ps ρ:= by
 rcases h with rfl|rfl<;>simp[e]
def Z2e{S:List Hu.Pt}{sl:P.Slot}(hs:Sl sl (S.map pt))(hl:S.length<=1000):zH [sl]=.ret (.ow ((Hu.Z4 S).map pt)):=by
 have hlen:∀(xs k:List Hu.Pt),(xs.foldl (λk x=>if x∈k then k else k ++ [x]) k).length<=k.length+xs.length:=by
  intro xs
  induction xs with
  |nil=>intro k;simp
  |cons x xs ih=>
   intro k
   rw[List.foldl_cons]
   refine Nat.le_trans (ih _) ?_
   split
   ·simp
   ·simp;omega
 have key:∀(xs:List Hu.Pt) (k:List Hu.Pt) (s2:P.Slot),k.length+xs.length<=1000->∃s2',forL (gN 2) jP (xs.map pt) [sl,.ow (k.map pt),s2]=.ok .nx [sl,.ow ((xs.foldl (λk x=>if x∈k then k else k ++ [x]) k).map pt),s2']:=by
  intro xs
  induction xs with
  |nil=>intro k s2 _;exact⟨s2,rfl⟩
  |cons x xs ih=>
   intro k s2 hk
   rw[List.length_cons] at hk
   by_cases hx:x∈k
   ·obtain⟨s2',e⟩:=ih k (.sh (pt x)) (by omega)
    refine⟨s2',?_⟩
    have hb:jP [sl,.ow (k.map pt),.sh (pt x)]=.ok .nx [sl,.ow (k.map pt),.sh (pt x)]:=by simp[jP,Z0n,hx]
    rw[List.map_cons,List.foldl_cons,if_pos hx,forL]
    simp[hb,e]
   ·obtain⟨s2',e⟩:=ih (k ++ [x]) (.sh (pt x)) (by simp;omega)
    refine⟨s2',?_⟩
    have h3:k.length<16777216:=by omega
    have hb:jP [sl,.ow (k.map pt),.sh (pt x)]=.ok .nx [sl,.ow ((k ++ [x]).map pt),.sh (pt x)]:=by simp[jP,Z0n,hx,h3]
    rw[List.map_cons,List.foldl_cons,if_neg hx,forL]
    simp only[Ea,List.set_cons_succ,List.set_cons_zero,hb,Res.Ŭ]
    exact e
 obtain⟨s2,e⟩:=key S [] .no (by simpa using hl)
 have hit:=hs.it (i:=0) (ρ:= [sl,.ow [],.no]) rfl
 simp only[List.map_nil] at e
 simp[zH,Fv,List.replicate,-wM,hit,e]
 rfl
def Z1f(x:Int)(l:List Int):gY [.lst ((x::l).map .int)]=some (.int (Hu.mx (x::l))):=by
 show((intsOf ((x::l).map .int)).bind (best max)).map PV.int=_
 rw[iG]
 rfl
def Z1g(x:Int)(l:List Int):qg [.lst ((x::l).map .int)]=some (.int (Hu.mn (x::l))):=by
 show((intsOf ((x::l).map .int)).bind (best min)).map PV.int=_
 rw[iG]
 rfl
def Z2x{S:List Hu.Pt}{sl:P.Slot}(hs:Sl sl (S.map pt))(h0:S≠[])(hl:S.length<=1000):zG [sl]=.ret (.ow ((Hu.box S).map eU)):=by
 have c1:Ķ (gN 0) Ľ (Ă Č (Ā 0) (mC (.int 0))) (S.map pt) [.no] []=some ((S.map (·.1)).map .int):=by
  have:=Ņ (g:=gN 0) (mt:=Ľ) (me:=Ă Č (Ā 0) (mC (.int 0))) pt (λp=>.int p.1) (λρ=>∃s,ρ=[s]) S [.no] [] ⟨_,rfl⟩ (by simp;omega) (by
   rintro x hx ρ ⟨s,rfl⟩
   exact⟨[.sh (pt x)],[.sh (pt x)],[.sh (pt x)],by simp,by simp,by simp[pt],_,rfl⟩)
  rw[this]
  simp
 have c2:Ķ (gN 0) Ľ (Ă Č (Ā 0) (mC (.int 1))) (S.map pt) [.no] []=some ((S.map (·.2)).map .int):=by
  have:=Ņ (g:=gN 0) (mt:=Ľ) (me:=Ă Č (Ā 0) (mC (.int 1))) pt (λp=>.int p.2) (λρ=>∃s,ρ=[s]) S [.no] [] ⟨_,rfl⟩ (by simp;omega) (by
   rintro x hx ρ ⟨s,rfl⟩
   exact⟨[.sh (pt x)],[.sh (pt x)],[.sh (pt x)],by simp,by simp,by simp[pt],_,rfl⟩)
  rw[this]
  simp
 obtain⟨p,R,rfl⟩:=List.exists_cons_of_ne_nil h0
 have x1:=Z1f p.1 (R.map (·.1))
 have x2:=Z1g p.1 (R.map (·.1))
 have x3:=Z1f p.2 (R.map (·.2))
 have x4:=Z1g p.2 (R.map (·.2))
 have hit:∀s1 s2,Ŕ 0 [sl,s1,s2]=.ok ((p::R).map pt) [sl,s1,s2]:=λs1 s2=>hs.it rfl
 have b:(Hu.box (p::R)).map eU=[.tup [.int 1,.int 0,.int (Hu.mx (p.1::R.map (·.1)))],.tup [.int (-1),.int 0,.int (- Hu.mn (p.1::R.map (·.1)))],.tup [.int 0,.int 1,.int (Hu.mx (p.2::R.map (·.2)))],.tup [.int 0,.int (-1),.int (- Hu.mn (p.2::R.map (·.2)))]]:=rfl
 rw[b]
 generalize (p::R).map pt=ps at hit c1 c2
 rw[List.map_cons] at c1 c2
 generalize (p.1::R.map (·.1)).map PV.int=us at c1 x1 x2
 generalize (p.2::R.map (·.2)).map PV.int=vs at c2 x3 x4
 simp[zG,Ft,List.replicate,-wM,-JQ,-JR,hit,c1,c2,x1,x2,x3,x4]
theorem ZN:∀l:List Bool,boolsOf (l.map .bl)=some l
 | []=>rfl
 |x::l=>by rw[List.map_cons,boolsOf,ZN l];rfl
def Z2y(l:List Bool):m_ [.lst (l.map .bl)]=some (.bl (l.all id)):=by
 show(boolsOf (l.map .bl)).map (λbs=>PV.bl (bs.all id))=_
 rw[ZN]
 rfl
def ZH(S:List Hu.Pt):(Hu.Z4 S).length<=S.length:=by
 have:∀(xs k:List Hu.Pt),(xs.foldl (λk x=>if x∈k then k else k ++ [x]) k).length<=k.length+xs.length:=by
  intro xs
  induction xs with
  |nil=>intro k;simp
  |cons x xs ih=>
   intro k
   rw[List.foldl_cons]
   refine Nat.le_trans (ih _) ?_
   split
   ·simp
   ·simp;omega
 have h:=this S []
 rw[List.length_nil,Nat.zero_add] at h
 exact h
def Z1h{S:List Hu.Pt}(hS:∀p∈S,Sm p)(hl:S.length<=1000){a b:Hu.Pt}(ha:a∈S)(hb:b∈S)(s0 s5:P.Slot)(L:List Hu.Ln)(hL:L.length<16777216) :
 jQ [s0,.ow (L.map eU),.sh (.lst ((Hu.Z4 S).map pt)),.sh (pt a),.sh (pt b),s5]=.ok .nx [s0,.ow ((L++(if a≠b/\(Hu.Z4 S).all (Hu.hd (Hu.Z5 a b)) then[Hu.Z5 a b] else[])).map eU),.sh (.lst ((Hu.Z4 S).map pt)),.sh (pt a),.sh (pt b),.sh (eU (Hu.Z5 a b))]:=by
 have hsm:=Z0G (hS a ha) (hS b hb)
 have c1:Ķ (gN 1) Ľ (đ (č qm (Ą 0 (Ą 1 Ċ)))) ((Hu.Z4 S).map pt) [.sh (eU (Hu.Z5 a b)),.no] []=some (((Hu.Z4 S).map (Hu.hd (Hu.Z5 a b))).map .bl):=by
  have hlen:(Hu.Z4 S).length<=16777216:=by have:=ZH S;omega
  have:=Ņ (g:=gN 1) (mt:=Ľ) (me:=đ (č qm (Ą 0 (Ą 1 Ċ)))) pt (λp=>.bl (Hu.hd (Hu.Z5 a b) p)) (λρ=>∃s,ρ=[.sh (eU (Hu.Z5 a b)),s]) (Hu.Z4 S) [.sh (eU (Hu.Z5 a b)),.no] [] ⟨_,rfl⟩ (by simpa using hlen) (by
   rintro x hx ρ ⟨s,rfl⟩
   exact⟨[.sh (eU (Hu.Z5 a b)),.sh (pt x)],[.sh (eU (Hu.Z5 a b)),.sh (pt x)],[.sh (eU (Hu.Z5 a b)),.sh (pt x)],by simp,by simp,by simp[Z1H hsm],_,rfl⟩)
  rw[this]
  simp
 have c2:=Z2y ((Hu.Z4 S).map (Hu.hd (Hu.Z5 a b)))
 have e1:=Z2d (hS a ha) (hS b hb)
 have e3:((Hu.Z4 S).map (Hu.hd (Hu.Z5 a b))).all id=(Hu.Z4 S).all (Hu.hd (Hu.Z5 a b)):=by simp
 rw[e3] at c2
 generalize ((Hu.Z4 S).map (Hu.hd (Hu.Z5 a b))).map PV.bl=bs at c1 c2
 by_cases h1:a=b
 ·subst h1
  simp[jQ,e1,Z0V]
 ·by_cases h2:(Hu.Z4 S).all (Hu.hd (Hu.Z5 a b))=true
  ·rw[h2] at c2
   simp[jQ,e1,Z0V,h1,c1,c2,h2,hL,-List.all_eq_true]
  ·rw[Bool.not_eq_true] at h2
   rw[h2] at c2
   simp[jQ,e1,Z0V,h1,c1,c2,h2,hL,-List.all_eq_true,-List.all_eq_false]
def Z1I{S:List Hu.Pt}(hS:∀p∈S,Sm p)(hl:S.length<=1000){a:Hu.Pt}(ha:a∈S)(s0:P.Slot):∀(xs:List Hu.Pt) (L:List Hu.Ln) (s4 s5:P.Slot),(∀x∈xs,x∈S)->L.length+xs.length<16777216->
 ∃vM HB,forL (gN 4) jQ (xs.map pt) [s0,.ow (L.map eU),.sh (.lst ((Hu.Z4 S).map pt)),.sh (pt a),s4,s5]=.ok .nx [s0,.ow ((L++xs.filterMap λb=>if a≠b/\(Hu.Z4 S).all (Hu.hd (Hu.Z5 a b)) then some (Hu.Z5 a b) else none).map eU),.sh (.lst ((Hu.Z4 S).map pt)),.sh (pt a),vM,HB]:=by
 intro xs
 induction xs with
 |nil=>intro L s4 s5 _ _;exact⟨s4,s5,by simp[forL]⟩
 |cons b xs ih=>
  intro L s4 s5 hx hL
  rw[List.length_cons] at hL
  have hb:=Z1h hS hl ha (hx b (by simp)) s0 s5 L (by omega)
  obtain⟨vM,HB,e⟩:=ih (L++(if a≠b/\(Hu.Z4 S).all (Hu.hd (Hu.Z5 a b)) then[Hu.Z5 a b] else[])) (.sh (pt b)) (.sh (eU (Hu.Z5 a b))) (λx h=>hx x (List.mem_cons_of_mem _ h)) (by
   rw[List.length_append]
   split
   ·simp;omega
   ·simp;omega)
  refine⟨vM,HB,?_⟩
  rw[List.map_cons,forL]
  simp only[Ea,List.set_cons_succ,List.set_cons_zero,hb,Res.Ŭ]
  rw[e,List.filterMap_cons]
  by_cases hc:a≠b/\(Hu.Z4 S).all (Hu.hd (Hu.Z5 a b))=true
  ·rw[if_pos hc,if_pos hc]
   simp only[List.append_assoc,List.cons_append,List.nil_append]
  ·rw[if_neg hc,if_neg hc]
   simp only[List.append_nil]
def ZK{α β:Type}(f:α->Option β)(l:List α):(l.filterMap f).length<=l.length:=List.length_filterMap_le ..
def Z1J{S:List Hu.Pt}(hS:∀p∈S,Sm p)(hl:S.length<=1000)(s0:P.Slot):∀(xs:List Hu.Pt) (L:List Hu.Ln) (s3 s4 s5:P.Slot),(∀x∈xs,x∈S)->L.length+xs.length*1000<10000000->
 ∃s3' vM HB,forL (gN 3) sy (xs.map pt) [s0,.ow (L.map eU),.sh (.lst ((Hu.Z4 S).map pt)),s3,s4,s5]=.ok .nx [s0,.ow ((L++xs.flatMap λa=>(Hu.Z4 S).filterMap λb=>if a≠b/\(Hu.Z4 S).all (Hu.hd (Hu.Z5 a b)) then some (Hu.Z5 a b) else none).map eU),.sh (.lst ((Hu.Z4 S).map pt)),s3',vM,HB]:=by
 intro xs
 induction xs with
 |nil=>intro L s3 s4 s5 _ _;exact⟨s3,s4,s5,by simp[forL]⟩
 |cons a xs ih=>
  intro L s3 s4 s5 hx hL
  rw[List.length_cons] at hL
  have ho:=ZH S
  obtain⟨a4,a5,e1⟩:=Z1I hS hl (hx a (by simp)) s0 (Hu.Z4 S) L s4 s5 (λx h=>Hu.Zo.mp h) (by omega)
  have hf:=ZK (λb=>if a≠b/\(Hu.Z4 S).all (Hu.hd (Hu.Z5 a b))=true then some (Hu.Z5 a b) else none) (Hu.Z4 S)
  obtain⟨s3',vM,HB,e2⟩:=ih (L++(Hu.Z4 S).filterMap λb=>if a≠b/\(Hu.Z4 S).all (Hu.hd (Hu.Z5 a b))=true then some (Hu.Z5 a b) else none) (.sh (pt a)) a4 a5 (λx h=>hx x (List.mem_cons_of_mem _ h)) (by rw[List.length_append];omega)
  refine⟨s3',vM,HB,?_⟩
  have hb:sy [s0,.ow (L.map eU),.sh (.lst ((Hu.Z4 S).map pt)),.sh (pt a),s4,s5]=.ok .nx [s0,.ow ((L++(Hu.Z4 S).filterMap λb=>if a≠b/\(Hu.Z4 S).all (Hu.hd (Hu.Z5 a b))=true then some (Hu.Z5 a b) else none).map eU),.sh (.lst ((Hu.Z4 S).map pt)),.sh (pt a),a4,a5]:=by
   unfold sy
   simp only[Uq,wM,List.getElem?_cons_succ,List.getElem?_cons_zero,Res.Ŭ]
   exact e1
  rw[List.map_cons,forL]
  simp only[Ea,List.set_cons_succ,List.set_cons_zero,hb,Res.Ŭ]
  rw[e2,List.flatMap_cons,List.append_assoc]
def Z1K{S:List Hu.Pt}{sl:P.Slot}(hs:Sl sl (S.map pt))(hS:∀p∈S,Sm p)(hl:S.length<=1000):zK [sl]=.ret (.ow ((Hu.ZC S).map eU)):=by
 have h1:=Z2e hs hl
 have ho:=ZH S
 obtain⟨s3,s4,s5,e⟩:=Z1J hS hl sl (Hu.Z4 S) [] .no .no .no (λx h=>Hu.Zo.mp h) (by simp;omega)
 have he:[]++((Hu.Z4 S).flatMap λa=>(Hu.Z4 S).filterMap λb=>if a≠b/\(Hu.Z4 S).all (Hu.hd (Hu.Z5 a b))=true then some (Hu.Z5 a b) else none)=Hu.ZC S:=rfl
 rw[he] at e
 generalize Hu.ZC S=ed at e
 generalize (Hu.Z4 S).map pt=os at e h1
 simp only[List.map_nil] at e
 simp[zK,Fy,List.replicate,hs.lend,h1,e]
def Z1i(S:List Hu.Pt)(hl:S.length<=1000):(Hu.ZC S).length<=1000000:=by
 have ho:=ZH S
 have:∀(xs:List Hu.Pt) (f:Hu.Pt->List Hu.Ln),(∀x,(f x).length<=1000)->(xs.flatMap f).length<=xs.length*1000:=by
  intro xs f hf
  induction xs with
  |nil=>simp
  |cons x xs ih=>rw[List.flatMap_cons,List.length_append,List.length_cons];have:=hf x;omega
 refine Nat.le_trans (this (Hu.Z4 S) _ λx=>Nat.le_trans (ZK _ _) (by omega)) (by omega)
def Z1L{S:List Hu.Pt}{sl:P.Slot}(hs:Sl sl (S.map pt))(hS:∀p∈S,Sm p)(h0:S≠[])(hl:S.length<=1000):zL [sl]=.ret (.ow ((Hu.Zq S).map eU)):=by
 have h1:=Z2x hs h0 hl
 have h2:=Z1K hs hS hl
 have h3:ĝ (.lst ((Hu.box S).map eU)) (.lst ((Hu.ZC S).map eU))=some (.ow ((Hu.Zq S).map eU)):=by
  rw[add_l (by have:=Z1i S hl;simp[Hu.box];omega),<-List.map_append]
  rfl
 simp[zL,Fz,List.replicate,hs.lend,h1,h2,h3]
def Z2z{S:List Hu.Pt}{l:Hu.Ln}(h:l∈Hu.Zq S)(hS:∀p∈S,Sm p):Rk l:=by
 rcases List.mem_append.mp h with h|h
 ·unfold Hu.box at h
  simp only[List.mem_cons,List.not_mem_nil,or_false] at h
  rcases h with e|e|e|e<;>subst e<;>simp only[Rk]<;>omega
 ·obtain⟨a,ha,b,hb,_,_,rfl⟩:=Hu.Z1d.mp h
  exact Z0G (hS a ha) (hS b hb)
def Z0W(n:Nat):fJ 0 n 1=(List.range n).map λ(i:Nat)=>PV.int (i:Int):=by
 unfold fJ
 refine List.map_congr_left λi _=>?_
 simp
def ZX{n:Nat}(h:n<=1000):cQ [.int (n:Int)]=some ((List.range n).map λ(i:Nat)=>PV.int (i:Int)):=by
 have hs:mL (n:Int)=true:=by unfold mL;simp;omega
 unfold cQ
 simp[hs,Z0W]
def Rm(s:P.Slot)(ps:List PV):Prop:=s=.sh (.lst ps)\/s=.bw ps
def Ŷ(x:Int):Bool:=decide (-1000000000<=x/\x<=1000000000)
def vN(x:Int):Bool:=decide (1<=x/\x<=1000000000)
def vO(x:Int):Bool:=decide (0<=x/\x<=1000000000)
def ZY(x:Int):kO [.sh (.int x)]=.ret (.sh (.bl (Ŷ x))):=by
 unfold Ŷ
 by_cases h1: -1000000000<=x<;>by_cases h2:x<=1000000000<;>simp[kO,Gj,List.replicate,h1,h2]
def Z0h(x:Int):vm [.sh (.int x)]=.ret (.sh (.bl (vN x))):=by
 unfold vN
 by_cases h1:1<=x<;>by_cases h2:x<=1000000000<;>simp[vm,Gk,List.replicate,h1,h2]
def Zj:List Int->Bool
 | [p,q,h]=>Ŷ p && Ŷ q && vN h
 |_=>false
def Zk:List Int->Bool
 | [x,y,u,v,h]=>Ŷ x && Ŷ y && Ŷ u && Ŷ v && vN h
 |_=>false
def Zg:List Int->Bool
 | [x,y,u,v,h]=>Zk [x,y,u,v,h] && !(decide (x=u) && decide (y=v))
 |_=>false
def Zb:List Int->Bool
 | [x,y,u,v,h]=>Zk [x,y,u,v,h] && decide (x<u) && decide (y<v)
 |_=>false
def Zh:List Int->Bool
 | [a,b,c,d,e,f,g,h,i]=>Ŷ a && Ŷ b && vO c && (Ŷ d && Ŷ e && vO f) && (Ŷ g && Ŷ h && vO i)
 |_=>false
def Z2A(a b c:Bool):m_ [.lst [.bl a,.bl b,.bl c]]=some (.bl (a && b && c)):=by cases a<;>cases b<;>cases c<;>rfl
def Z2B(a b c d:Bool):m_ [.lst [.bl a,.bl b,.bl c,.bl d]]=some (.bl (a && b && c && d)):=by cases a<;>cases b<;>cases c<;>cases d<;>rfl
def Z0l{xs:List Int}{sl:P.Slot}(hs:Rm sl (xs.map .int)):vo [sl]=.ret (.sh (.bl (Zj xs))):=by
 by_cases hl:xs.length=3
 ·match xs,hl with
  | [a,b,c],_=>
    have h:Zj [a,b,c]=(Ŷ a && Ŷ b && vN c):=rfl
    rw[h]
    rcases hs with rfl|rfl<;>cases ea:Ŷ a<;>cases eb:Ŷ b<;>cases ec:vN c<;>simp[vo,xQ,List.replicate,ZY,Z0h,ea,eb,ec]
 ·have h:Zj xs=false:=by
   unfold Zj
   split
   ·simp at hl
   ·rfl
  rw[h]
  have hl':¬((xs.length:Nat):Int)=3:=by omega
  rcases hs with rfl|rfl<;>simp[vo,xQ,List.replicate,hl']
def Z0H{xs:List Int}{sl:P.Slot}(hs:Rm sl (xs.map .int)):qH [sl]=.ret (.sh (.bl (Zk xs))):=by
 by_cases hl:xs.length=5
 ·match xs,hl with
  | [a,b,c,d,e],_=>
    have h:Zk [a,b,c,d,e]=(Ŷ a && Ŷ b && Ŷ c && Ŷ d && vN e):=rfl
    rw[h]
    have hc:aJ ([.int a,.int b,.int c,.int d,.int e]:List PV) none (some 4)=[.int a,.int b,.int c,.int d]:=rfl
    have hb:=Z2B (Ŷ a) (Ŷ b) (Ŷ c) (Ŷ d)
    rcases hs with rfl|rfl<;>cases ea:(Ŷ a && Ŷ b && Ŷ c && Ŷ d)<;>cases ec:vN e<;>rw[ea] at hb<;>simp[qH,xR,List.replicate,ZY,Z0h,hc,Ķ,hb,ec]
 ·have h:Zk xs=false:=by
   unfold Zk
   split
   ·simp at hl
   ·rfl
  rw[h]
  have hl':¬((xs.length:Nat):Int)=5:=by omega
  rcases hs with rfl|rfl<;>simp[qH,xR,List.replicate,hl']
def Z2C(a b c d:Int):ū (.lst [.int a,.int b]) (.lst [.int c,.int d])=some (.bl (!(decide (a=c) && decide (b=d)))):=by
 have h:eqB (.lst [.int a,.int b]) (.lst [.int c,.int d])=(decide (a=c) && decide (b=d)):=by
  simp[eqB,dF]
  rw[Bool.eq_iff_iff]
  simp
 unfold ū pC
 rw[h]
 simp[ŭ,ž,dep,jf]
def Z25{xs:List Int}(hl:¬xs.length=5):Zk xs=false:=by
 unfold Zk
 split
 ·simp at hl
 ·rfl
def Z0X{s:P.Slot}{ps:List PV}(h:Rm s ps):cL s=some s:=by rcases h with rfl|rfl<;>rfl
def Z1M{xs:List Int}{sl:P.Slot}(hs:Rm sl (xs.map .int)):vp [sl]=.ret (.sh (.bl (Zg xs))):=by
 have he:=Z0H hs
 by_cases hl:xs.length=5
 ·match xs,hl with
  | [a,b,c,d,e],_=>
    have h:Zg [a,b,c,d,e]=(Zk [a,b,c,d,e] && !(decide (a=c) && decide (b=d))):=rfl
    rw[h]
    have h1:aJ ([.int a,.int b,.int c,.int d,.int e]:List PV) none (some 2)=[.int a,.int b]:=rfl
    have h2:aJ ([.int a,.int b,.int c,.int d,.int e]:List PV) (some 2) (some 4)=[.int c,.int d]:=rfl
    have h3:=Z2C a b c d
    generalize Zk [a,b,c,d,e]=q at *
    generalize (!(decide (a=c) && decide (b=d)))=r at *
    rcases hs with rfl|rfl<;>cases q<;>simp_all [vp,xT,List.replicate]
 ·have h:Zg xs=false:=by
   unfold Zg
   split
   ·simp at hl
   ·rfl
  rw[h]
  rw[Z25 hl] at he
  simp[vp,xT,List.replicate,Z0X hs,he]
def Z2f{xs:List Int}{sl:P.Slot}(hs:Rm sl (xs.map .int)):Az [sl]=.ret (.sh (.bl (Zb xs))):=by
 have he:=Z0H hs
 by_cases hl:xs.length=5
 ·match xs,hl with
  | [a,b,c,d,e],_=>
    have h:Zb [a,b,c,d,e]=(Zk [a,b,c,d,e] && decide (a<c) && decide (b<d)):=rfl
    rw[h]
    generalize Zk [a,b,c,d,e]=q at *
    rcases hs with rfl|rfl<;>simp only[List.map_cons,List.map_nil] at he<;>cases q<;>by_cases h1:a<c<;>by_cases h2:b<d<;>simp[Az,Gm,List.replicate,he,h1,h2]
 ·have h:Zb xs=false:=by
   unfold Zb
   split
   ·simp at hl
   ·rfl
  rw[h]
  rw[Z25 hl] at he
  simp[Az,Gm,List.replicate,Z0X hs,he]
def ZO(a b c:Int):Kf [.sh (.lst [.int a,.int b,.int c])]=.ret (.sh (.bl (Ŷ a && Ŷ b && vO c))):=by
 unfold vO
 cases ea:Ŷ a<;>cases eb:Ŷ b<;>by_cases h1:0<=c<;>by_cases h2:c<=1000000000<;>simp[Kf,Nv,List.replicate,ZY,ea,eb,h1,h2]
def Z1N{xs:List Int}{sl:P.Slot}(hs:Rm sl (xs.map .int)):vq [sl]=.ret (.sh (.bl (Zh xs))):=by
 by_cases hl:xs.length=9
 ·match xs,hl with
  | [a,b,c,d,e,f,g,h,i],_=>
    have hc:Zh [a,b,c,d,e,f,g,h,i]=((Ŷ a && Ŷ b && vO c) && (Ŷ d && Ŷ e && vO f) && (Ŷ g && Ŷ h && vO i)):=rfl
    rw[hc]
    have h1:aJ ([.int a,.int b,.int c,.int d,.int e,.int f,.int g,.int h,.int i]:List PV) (some 0) (some 3)=[.int a,.int b,.int c]:=rfl
    have h2:aJ ([.int a,.int b,.int c,.int d,.int e,.int f,.int g,.int h,.int i]:List PV) (some 3) (some 6)=[.int d,.int e,.int f]:=rfl
    have h3:aJ ([.int a,.int b,.int c,.int d,.int e,.int f,.int g,.int h,.int i]:List PV) (some 6) (some 9)=[.int g,.int h,.int i]:=rfl
    have hb:=Z2A (Ŷ a && Ŷ b && vO c) (Ŷ d && Ŷ e && vO f) (Ŷ g && Ŷ h && vO i)
    have k1:=ZO a b c
    have k2:=ZO d e f
    have k3:=ZO g h i
    generalize (Ŷ a && Ŷ b && vO c)=q1 at *
    generalize (Ŷ d && Ŷ e && vO f)=q2 at *
    generalize (Ŷ g && Ŷ h && vO i)=q3 at *
    rcases hs with rfl|rfl<;>simp[vq,xU,List.replicate,Ķ,h1,h2,h3,k1,k2,k3,hb]
 ·have h:Zh xs=false:=by
   unfold Zh
   split
   ·simp at hl
   ·rfl
  rw[h]
  have hl':¬((xs.length:Nat):Int)=9:=by omega
  rcases hs with rfl|rfl<;>simp[vq,xU,List.replicate,hl']
def Zl(w:Str):String:=if w= "post" then "Post" else if w= "fence" then "Fence" else if w= "sail" then "Sail" else if w= "cloth" then "Cloth" else "House"
def Z9(C:String)(w:Str)(xs:List Int):PV:=.ins C ["word","numbers"] [.str w,.lst (xs.map .int)]
def Z8(w:Str)(xs:List Int):Bool:=if w= "post" then Zj xs else if w= "fence" then Zg xs else if w= "sail" then Zb xs else if w= "cloth" then Zh xs else if w= "house" then Zb xs else false
def wn:((Str.ofString "word")=(Str.ofString "numbers"))=False:=eq_false (by decide +kernel)
def ZD{C:String}(hC:(["Thing","Post","Fence","Sail","Cloth","House"]:List String).contains C=true)(w:Str){xs:List Int}{sl:P.Slot}(hs:Rm sl (xs.map .int)):bM 3 3 C dZ [.sh (.str w),sl]=.ok ["word","numbers"] [.str w,.lst (xs.map .int)]:=by
 rcases hs with rfl|rfl<;>simp[bM,dZ,gW,IR.of,List.replicate,putN,wO,hC,wn,-List.contains_eq_mem,-List.contains_cons]
def s1:PyData.strOk (Str.ofString "post")=true:=by decide +kernel
def s2:PyData.strOk (Str.ofString "fence")=true:=by decide +kernel
def s3:PyData.strOk (Str.ofString "sail")=true:=by decide +kernel
def s4:PyData.strOk (Str.ofString "cloth")=true:=by decide +kernel
def s5:PyData.strOk (Str.ofString "house")=true:=by decide +kernel
def d12:(Str.ofString "post" =Str.ofString "fence")=False:=eq_false (by decide +kernel)
def d13:(Str.ofString "post" =Str.ofString "sail")=False:=eq_false (by decide +kernel)
def d14:(Str.ofString "post" =Str.ofString "cloth")=False:=eq_false (by decide +kernel)
def d15:(Str.ofString "post" =Str.ofString "house")=False:=eq_false (by decide +kernel)
def d23:(Str.ofString "fence" =Str.ofString "sail")=False:=eq_false (by decide +kernel)
def d24:(Str.ofString "fence" =Str.ofString "cloth")=False:=eq_false (by decide +kernel)
def d25:(Str.ofString "fence" =Str.ofString "house")=False:=eq_false (by decide +kernel)
def d34:(Str.ofString "sail" =Str.ofString "cloth")=False:=eq_false (by decide +kernel)
def d35:(Str.ofString "sail" =Str.ofString "house")=False:=eq_false (by decide +kernel)
def d45:(Str.ofString "cloth" =Str.ofString "house")=False:=eq_false (by decide +kernel)
def Z1O{w:Str}(hw:PyData.strOk w=true){xs:List Int}{sl:P.Slot}(hs:Rm sl (xs.map .int)):cV [.sh (.str w),sl]=if Z8 w xs=true then .ret (.sh (Z9 (Zl w) w xs)) else .bad:=by
 have e1:=cU hw s1
 have e2:=cU hw s2
 have e3:=cU hw s3
 have e4:=cU hw s4
 have e5:=cU hw s5
 have p1:=Z0l hs
 have p2:=Z1M hs
 have p3:=Z2f hs
 have p4:=Z1N hs
 have i1:sJ [.sh (.str w),sl]=_:=ZD (by decide) w hs
 have i2:nQ [.sh (.str w),sl]=_:=ZD (by decide) w hs
 have i3:sO [.sh (.str w),sl]=_:=ZD (by decide) w hs
 have i4:nR [.sh (.str w),sl]=_:=ZD (by decide) w hs
 have i5:nT [.sh (.str w),sl]=_:=ZD (by decide) w hs
 have hle:=Z0X hs
 unfold Z8 Zl Z9
 by_cases h1:w=Str.ofString "post"
 ·have n2:¬w=Str.ofString "fence" := λz=>(d12▸(h1.symm.trans z):False)
  have n3:¬w=Str.ofString "sail" := λz=>(d13▸(h1.symm.trans z):False)
  have n4:¬w=Str.ofString "cloth" := λz=>(d14▸(h1.symm.trans z):False)
  have n5:¬w=Str.ofString "house" := λz=>(d15▸(h1.symm.trans z):False)
  rw[decide_eq_true h1] at e1
  rw[decide_eq_false n2] at e2
  rw[decide_eq_false n3] at e3
  rw[decide_eq_false n4] at e4
  rw[decide_eq_false n5] at e5
  have hg:(if w=Str.ofString "post" then Zj xs else if w=Str.ofString "fence" then Zg xs else if w=Str.ofString "sail" then Zb xs else if w=Str.ofString "cloth" then Zh xs else if w=Str.ofString "house" then Zb xs else false)=Zj xs:=by rw[if_pos h1]
  have hc:(if w=Str.ofString "post" then "Post" else if w=Str.ofString "fence" then "Fence" else if w=Str.ofString "sail" then "Sail" else if w=Str.ofString "cloth" then "Cloth" else "House")= "Post" := by rw[if_pos h1]
  rw[hg,hc]
  cases q:Zj xs<;>rw[q] at p1<;>simp[cV,iI,aO,List.replicate,e1,e2,e3,e4,e5,hle,p1,i1]
 ·skip
  by_cases h2:w=Str.ofString "fence"
  ·have n1:=h1
   have n3:¬w=Str.ofString "sail" := λz=>(d23▸(h2.symm.trans z):False)
   have n4:¬w=Str.ofString "cloth" := λz=>(d24▸(h2.symm.trans z):False)
   have n5:¬w=Str.ofString "house" := λz=>(d25▸(h2.symm.trans z):False)
   rw[decide_eq_true h2] at e2
   rw[decide_eq_false n1] at e1
   rw[decide_eq_false n3] at e3
   rw[decide_eq_false n4] at e4
   rw[decide_eq_false n5] at e5
   have hg:(if w=Str.ofString "post" then Zj xs else if w=Str.ofString "fence" then Zg xs else if w=Str.ofString "sail" then Zb xs else if w=Str.ofString "cloth" then Zh xs else if w=Str.ofString "house" then Zb xs else false)=Zg xs:=by rw[if_neg n1,if_pos h2]
   have hc:(if w=Str.ofString "post" then "Post" else if w=Str.ofString "fence" then "Fence" else if w=Str.ofString "sail" then "Sail" else if w=Str.ofString "cloth" then "Cloth" else "House")= "Fence" := by rw[if_neg n1,if_pos h2]
   rw[hg,hc]
   cases q:Zg xs<;>rw[q] at p2<;>simp[cV,iI,aO,List.replicate,e1,e2,e3,e4,e5,hle,p2,i2]
  ·skip
   by_cases h3:w=Str.ofString "sail"
   ·have n1:=h1
    have n2:=h2
    have n4:¬w=Str.ofString "cloth" := λz=>(d34▸(h3.symm.trans z):False)
    have n5:¬w=Str.ofString "house" := λz=>(d35▸(h3.symm.trans z):False)
    rw[decide_eq_true h3] at e3
    rw[decide_eq_false n1] at e1
    rw[decide_eq_false n2] at e2
    rw[decide_eq_false n4] at e4
    rw[decide_eq_false n5] at e5
    have hg:(if w=Str.ofString "post" then Zj xs else if w=Str.ofString "fence" then Zg xs else if w=Str.ofString "sail" then Zb xs else if w=Str.ofString "cloth" then Zh xs else if w=Str.ofString "house" then Zb xs else false)=Zb xs:=by rw[if_neg n1,if_neg n2,if_pos h3]
    have hc:(if w=Str.ofString "post" then "Post" else if w=Str.ofString "fence" then "Fence" else if w=Str.ofString "sail" then "Sail" else if w=Str.ofString "cloth" then "Cloth" else "House")= "Sail" := by rw[if_neg n1,if_neg n2,if_pos h3]
    rw[hg,hc]
    cases q:Zb xs<;>rw[q] at p3<;>simp[cV,iI,aO,List.replicate,e1,e2,e3,e4,e5,hle,p3,i3]
   ·skip
    by_cases h4:w=Str.ofString "cloth"
    ·have n1:=h1
     have n2:=h2
     have n3:=h3
     have n5:¬w=Str.ofString "house" := λz=>(d45▸(h4.symm.trans z):False)
     rw[decide_eq_true h4] at e4
     rw[decide_eq_false n1] at e1
     rw[decide_eq_false n2] at e2
     rw[decide_eq_false n3] at e3
     rw[decide_eq_false n5] at e5
     have hg:(if w=Str.ofString "post" then Zj xs else if w=Str.ofString "fence" then Zg xs else if w=Str.ofString "sail" then Zb xs else if w=Str.ofString "cloth" then Zh xs else if w=Str.ofString "house" then Zb xs else false)=Zh xs:=by rw[if_neg n1,if_neg n2,if_neg n3,if_pos h4]
     have hc:(if w=Str.ofString "post" then "Post" else if w=Str.ofString "fence" then "Fence" else if w=Str.ofString "sail" then "Sail" else if w=Str.ofString "cloth" then "Cloth" else "House")= "Cloth" := by rw[if_neg n1,if_neg n2,if_neg n3,if_pos h4]
     rw[hg,hc]
     cases q:Zh xs<;>rw[q] at p4<;>simp[cV,iI,aO,List.replicate,e1,e2,e3,e4,e5,hle,p4,i4]
    ·skip
     by_cases h5:w=Str.ofString "house"
     ·have n1:=h1
      have n2:=h2
      have n3:=h3
      have n4:=h4
      rw[decide_eq_true h5] at e5
      rw[decide_eq_false n1] at e1
      rw[decide_eq_false n2] at e2
      rw[decide_eq_false n3] at e3
      rw[decide_eq_false n4] at e4
      have hg:(if w=Str.ofString "post" then Zj xs else if w=Str.ofString "fence" then Zg xs else if w=Str.ofString "sail" then Zb xs else if w=Str.ofString "cloth" then Zh xs else if w=Str.ofString "house" then Zb xs else false)=Zb xs:=by rw[if_neg n1,if_neg n2,if_neg n3,if_neg n4,if_pos h5]
      have hc:(if w=Str.ofString "post" then "Post" else if w=Str.ofString "fence" then "Fence" else if w=Str.ofString "sail" then "Sail" else if w=Str.ofString "cloth" then "Cloth" else "House")= "House" := by rw[if_neg n1,if_neg n2,if_neg n3,if_neg n4]
      rw[hg,hc]
      cases q:Zb xs<;>rw[q] at p3<;>simp[cV,iI,aO,List.replicate,e1,e2,e3,e4,e5,hle,p3,i5]
     ·skip
      rw[decide_eq_false h1] at e1
      rw[decide_eq_false h2] at e2
      rw[decide_eq_false h3] at e3
      rw[decide_eq_false h4] at e4
      rw[decide_eq_false h5] at e5
      rw[if_neg h1,if_neg h2,if_neg h3,if_neg h4,if_neg h5]
      simp[cV,iI,aO,List.replicate,e1,e2,e3,e4,e5]
abbrev P3:=Int×Int×Int
def c3(p:P3):PV:=.tup [.int p.1,.int p.2.1,.int p.2.2]
def ZB(x y u v z:Int):List P3:=[(x,y,z),(u,y,z),(u,v,z),(x,v,z)]
def ZU(x y u v h:Int):List P3:=ZB x y u v 0++ZB x y u v h
def Z6(C:String)(xs:List Int):List P3:=
 if C= "Post" then(match xs with
  | [p,q,h]=>ZU (2*p-1) (2*q-1) (2*p+1) (2*q+1) h
  |_=>[])
 else if C= "Fence" then(match xs with
  | [x,y,u,v,h]=>[(x,y,0),(u,v,0),(u,v,h),(x,y,h)]
  |_=>[])
 else if C= "Sail" then(match xs with
  | [x,y,u,v,h]=>ZB x y u v h
  |_=>[])
 else if C= "Cloth" then(match xs with
  | [a,b,c,d,e,f,g,h,i]=>[(a,b,c),(d,e,f),(g,h,i)]
  |_=>[])
 else(match xs with
  | [x,y,u,v,h]=>ZU x y u v h
  |_=>[])
def Zn(w:Str)(xs:List Int):List P3:=Z6 (Zl w) xs
def ZP{C:String}(hC:(["Thing","Post","Fence","Sail","Cloth","House"]:List String).contains C=true)(w:Str)(xs:List Int):Ō ["Thing","Post","Fence","Sail","Cloth","House"] (Str.ofString "numbers") (Z9 C w xs)=some (.lst (xs.map .int)):=by
 unfold Ō Z9
 dsimp only
 rw[if_pos hC]
 have:(Str.ofString "numbers" == Str.ofString "word")=false:=by decide +kernel
 show List.lookup _ [(_,_),(_,_)]=_
 rw[List.lookup_cons,this]
 simp
def Z0o(x y u v z:Int):Ay [.sh (.int x),.sh (.int y),.sh (.int u),.sh (.int v),.sh (.int z)]=.ret (.ow ((ZB x y u v z).map c3)):=by
 simp[Ay,Nm,List.replicate,ZB,c3]
def Z0p(x y u v h:Int):uZ [.sh (.int x),.sh (.int y),.sh (.int u),.sh (.int v),.sh (.int h)]=.ret (.ow ((ZU x y u v h).map c3)):=by
 simp[uZ,FN,List.replicate,Z0o,ZU,ZB,add_l]
def Z2D{xs:List Int}(h:Zj xs=true)(w:Str):kI [.sh (Z9 "Post" w xs)]=.ret (.ow ((Z6 "Post" xs).map c3)):=by
 match xs,h with
 | [p,q,h],hh=>
   simp[Zj,Ŷ,vN] at hh
   have hf:=ZP (C:= "Post") (by decide) w [p,q,h]
   generalize Z9 "Post" w [p,q,h]=v at *
   have e:=Z0p (2*p-1) (2*q-1) (2*p+1) (2*q+1) h
   simp[kI,FP,List.replicate,hf,e,Z6]
def Z2g{xs:List Int}(h:Zg xs=true)(w:Str):u_ [.sh (Z9 "Fence" w xs)]=.ret (.ow ((Z6 "Fence" xs).map c3)):=by
 match xs,h with
 | [x,y,u,v,h],hh=>
   have hf:=ZP (C:= "Fence") (by decide) w [x,y,u,v,h]
   generalize Z9 "Fence" w [x,y,u,v,h]=t at *
   simp[u_,Np,List.replicate,hf,Z6,c3,ĝ]
def Z2E{xs:List Int}(h:Zb xs=true)(w:Str):kJ [.sh (Z9 "Sail" w xs)]=.ret (.ow ((Z6 "Sail" xs).map c3)):=by
 match xs,h with
 | [x,y,u,v,h],hh=>
   have hf:=ZP (C:= "Sail") (by decide) w [x,y,u,v,h]
   generalize Z9 "Sail" w [x,y,u,v,h]=t at *
   have e:=Z0o x y u v h
   simp[kJ,FQ,List.replicate,hf,e,Z6]
def Z2h{xs:List Int}(h:Zb xs=true)(w:Str):vf [.sh (Z9 "House" w xs)]=.ret (.ow ((Z6 "House" xs).map c3)):=by
 match xs,h with
 | [x,y,u,v,h],hh=>
   have hf:=ZP (C:= "House") (by decide) w [x,y,u,v,h]
   generalize Z9 "House" w [x,y,u,v,h]=t at *
   have e:=Z0p x y u v h
   simp[vf,Nr,List.replicate,hf,e,Z6]
def Z2i{xs:List Int}(h:Zh xs=true)(w:Str):vd [.sh (Z9 "Cloth" w xs)]=.ret (.ow ((Z6 "Cloth" xs).map c3)):=by
 match xs,h with
 | [a,b,c,d,e,f,g,i,j],hh=>
   have hf:=ZP (C:= "Cloth") (by decide) w [a,b,c,d,e,f,g,i,j]
   generalize Z9 "Cloth" w [a,b,c,d,e,f,g,i,j]=t at *
   simp[vd,Nq,List.replicate,hf,Z6,c3,Ķ,JG,aJ]
   exact⟨rfl,rfl,rfl⟩
def cst(r p:P3):Hu.Pt:=(r.2.2*p.1+r.1*p.2.2,r.2.2*p.2.1+r.2.1*p.2.2)
def RB(r:P3):Prop:=-1000000<=r.1/\r.1<=1000000/\ -1000000<=r.2.1/\r.2.1<=1000000/\ -1000000<=r.2.2/\r.2.2<=1000000
def PB(p:P3):Prop:=-10000000000<=p.1/\p.1<=10000000000/\ -10000000000<=p.2.1/\p.2.1<=10000000000/\ -10000000000<=p.2.2/\p.2.2<=10000000000
def Z2j{r:P3}(hr:RB r)(p:P3):qt [.sh (c3 p),.sh (c3 r)]=.ret (.sh (pt (cst r p))):=by
 obtain⟨a1,a2,a3,a4,a5,a6⟩:=hr
 have m1:ł r.2.2 p.1=true:=ſ (by omega) (by omega)
 have m2:ł r.2.2 p.2.1=true:=ſ (by omega) (by omega)
 have m3:ł r.1 p.2.2=true:=ſ (by omega) (by omega)
 have m4:ł r.2.1 p.2.2=true:=ſ (by omega) (by omega)
 simp[qt,FJ,List.replicate,pt,c3,cst,m1,m2,m3,m4]
def Z07{x y A B:Int}(h1: -A<=x)(h2:x<=A)(h3: -B<=y)(h4:y<=B): -(A*B)<=x*y/\x*y<=A*B:=by
 have hA:0<=A:=by omega
 have hB:0<=B:=by omega
 have e:(x*y).natAbs<=A.natAbs*B.natAbs:=by
  rw[Int.natAbs_mul]
  exact Nat.mul_le_mul (by omega) (by omega)
 have e2:((A*B).natAbs)=A.natAbs*B.natAbs:=Int.natAbs_mul A B
 have e3:0<=A*B:=Int.mul_nonneg hA hB
 omega
def Z2F{r p:P3}(hr:RB r)(hp:PB p):Sm (cst r p):=by
 obtain⟨a1,a2,a3,a4,a5,a6⟩:=hr
 obtain⟨b1,b2,b3,b4,b5,b6⟩:=hp
 have q1:=Z07 a5 a6 b1 b2
 have q2:=Z07 a5 a6 b3 b4
 have q3:=Z07 a1 a2 b5 b6
 have q4:=Z07 a3 a4 b5 b6
 simp only[Sm,cst]
 omega
def Z1j{w:Str}{xs:List Int}(hg:Z8 w xs=true){mo:M PV}{ρ ρ1:List P.Slot}(ho:mo ρ=.ok (Z9 (Zl w) w xs) ρ1):nq (Str.ofString "corners") [("Post",kI),("Fence",u_),("Sail",kJ),("Cloth",vd),("House",vf)] mo Ċ ρ=.ok (.ow ((Zn w xs).map c3)) ρ1:=by
 have hn:(["word","numbers"]:List Str).contains (Str.ofString "corners")=false:=by decide +kernel
 have key:∀(C:String) (mf:MF),Zl w=C->List.lookup C [("Post",kI),("Fence",u_),("Sail",kJ),("Cloth",vd),("House",vf)]=some mf->mf [.sh (Z9 C w xs)]=.ret (.ow ((Z6 C xs).map c3))->nq (Str.ofString "corners") [("Post",kI),("Fence",u_),("Sail",kJ),("Cloth",vd),("House",vf)] mo Ċ ρ=.ok (.ow ((Zn w xs).map c3)) ρ1:=by
  intro C mf hC hl hf
  unfold Zn
  rw[hC] at ho ⊢
  unfold nq
  rw[ho]
  unfold Z9 at *
  simp only[Res.bind]
  rw[hl]
  dsimp only
  rw[if_neg (by rw[hn];decide)]
  simp only[Ċ,Res.bind]
  rw[hf]
 unfold Z8 at hg
 by_cases e1:w= "post"
 ·rw[if_pos e1] at hg
  exact key "Post" _ (by unfold Zl;rw[if_pos e1]) rfl (Z2D hg w)
 rw[if_neg e1] at hg
 by_cases e2:w= "fence"
 ·rw[if_pos e2] at hg
  exact key "Fence" _ (by unfold Zl;rw[if_neg e1,if_pos e2]) rfl (Z2g hg w)
 rw[if_neg e2] at hg
 by_cases e3:w= "sail"
 ·rw[if_pos e3] at hg
  exact key "Sail" _ (by unfold Zl;rw[if_neg e1,if_neg e2,if_pos e3]) rfl (Z2E hg w)
 rw[if_neg e3] at hg
 by_cases e4:w= "cloth"
 ·rw[if_pos e4] at hg
  exact key "Cloth" _ (by unfold Zl;rw[if_neg e1,if_neg e2,if_neg e3,if_pos e4]) rfl (Z2i hg w)
 rw[if_neg e4] at hg
 by_cases e5:w= "house"
 ·rw[if_pos e5] at hg
  exact key "House" _ (by unfold Zl;rw[if_neg e1,if_neg e2,if_neg e3,if_neg e4]) rfl (Z2h hg w)
 ·rw[if_neg e5] at hg
  cases hg
def Z0Y{r:P3}(hr:RB r){L:List P3}(hl:L.length<=100)(s1:P.Slot):Ķ (gN 1) Ľ (đ (č qt (Ą 1 (Ą 0 Ċ)))) (L.map c3) [.sh (c3 r),s1] []=some ((L.map (cst r)).map pt):=by
 have:=Ņ (g:=gN 1) (mt:=Ľ) (me:=đ (č qt (Ą 1 (Ą 0 Ċ)))) c3 (λp=>pt (cst r p)) (λρ=>∃s,ρ=[.sh (c3 r),s]) L [.sh (c3 r),s1] [] ⟨_,rfl⟩ (by simp;omega) (by
  rintro p hp ρ ⟨s,rfl⟩
  have e:=Z2j hr p
  generalize c3 r=R at *
  generalize c3 p=Q at *
  exact⟨[R |> .sh,.sh Q],[.sh R,.sh Q],[.sh R,.sh Q],by simp,by simp,by simp[e],_,rfl⟩)
 rw[this]
 simp
def Z1P{w:Str}{xs:List Int}(hg:Z8 w xs=true)(hl:(Zn w xs).length<=100){r:P3}(hr:RB r):vg [.sh (Z9 (Zl w) w xs),.sh (c3 r)]=.ret (.ow (((Zn w xs).map (cst r)).map pt)):=by
 have h1:=Z1j hg (mo:=ğ 0) (ρ:= [.sh (Z9 (Zl w) w xs),.sh (c3 r)]) (ρ1:=[.sh (Z9 (Zl w) w xs),.sh (c3 r)]) (by simp)
 have h2:=Z0Y hr hl
 generalize ((Zn w xs).map (cst r)).map pt=Y at *
 generalize (Zn w xs).map c3=Z at *
 generalize Z9 (Zl w) w xs=v at *
 generalize c3 r=R at *
 simp[vg,FT,List.replicate,h1,h2,-JT]
def sto(s:Hu.Pt):P3:=(2*s.1,2*s.2,0)
def Z1Q{w:Str}{xs:List Int}(hg:Z8 w xs=true):(Zn w xs).length<=8/\Zn w xs≠[]/\∀p∈Zn w xs,PB p:=by
 have hp:Zj xs=true->(Z6 "Post" xs).length<=8/\Z6 "Post" xs≠[]/\∀p∈Z6 "Post" xs,PB p:=by
  intro h
  match xs,h with
  | [a,b,c],h=>
    simp[Zj,Ŷ,vN] at h
    simp[Z6,ZU,ZB,PB]
    omega
 have hf:Zg xs=true->(Z6 "Fence" xs).length<=8/\Z6 "Fence" xs≠[]/\∀p∈Z6 "Fence" xs,PB p:=by
  intro h
  match xs,h with
  | [a,b,c,d,e],h=>
    simp[Zg,Zk,Ŷ,vN] at h
    simp[Z6,PB]
    omega
 have hs:Zb xs=true->(Z6 "Sail" xs).length<=8/\Z6 "Sail" xs≠[]/\∀p∈Z6 "Sail" xs,PB p:=by
  intro h
  match xs,h with
  | [a,b,c,d,e],h=>
    simp[Zb,Zk,Ŷ,vN] at h
    simp[Z6,ZB,PB]
    omega
 have hh:Zb xs=true->(Z6 "House" xs).length<=8/\Z6 "House" xs≠[]/\∀p∈Z6 "House" xs,PB p:=by
  intro h
  match xs,h with
  | [a,b,c,d,e],h=>
    simp[Zb,Zk,Ŷ,vN] at h
    simp[Z6,ZU,ZB,PB]
    omega
 have hc:Zh xs=true->(Z6 "Cloth" xs).length<=8/\Z6 "Cloth" xs≠[]/\∀p∈Z6 "Cloth" xs,PB p:=by
  intro h
  match xs,h with
  | [a,b,c,d,e,f,g,i,j],h=>
    simp[Zh,Ŷ,vO] at h
    simp[Z6,PB]
    omega
 unfold Z8 at hg
 unfold Zn Zl
 by_cases e1:w= "post"
 ·rw[if_pos e1] at hg ⊢;exact hp hg
 rw[if_neg e1] at hg ⊢
 by_cases e2:w= "fence"
 ·rw[if_pos e2] at hg ⊢;exact hf hg
 rw[if_neg e2] at hg ⊢
 by_cases e3:w= "sail"
 ·rw[if_pos e3] at hg ⊢;exact hs hg
 rw[if_neg e3] at hg ⊢
 by_cases e4:w= "cloth"
 ·rw[if_pos e4] at hg ⊢;exact hc hg
 rw[if_neg e4] at hg ⊢
 by_cases e5:w= "house"
 ·rw[if_pos e5] at hg;exact hh hg
 ·rw[if_neg e5] at hg;cases hg
def shB(w:Str)(xs:List Int)(s:Hu.Pt)(r:P3):Bool:=(Hu.Z0U ((Zn w xs).map (cst r)) (cst r (sto s))).isNone
def Z1k(b:Nat):Builtin.bitNot (b:Int)= -(b:Int)-1:=rfl
def Z1l(a b:Nat):Builtin.bitOr a b=((a ||| b:Nat):Int):=by
 unfold Builtin.bitOr Builtin.bitAnd
 rw[Z1k,Z1k]
 have h1:decide (0<= -(a:Int)-1)=false:=by simp;omega
 have h2:decide (0<= -(b:Int)-1)=false:=by simp;omega
 rw[h1,h2]
 have e1:(Builtin.bitNot (-(a:Int)-1)).toNat=a:=by unfold Builtin.bitNot;omega
 have e2:(Builtin.bitNot (-(b:Int)-1)).toNat=b:=by unfold Builtin.bitNot;omega
 simp only[e1,e2]
 unfold Builtin.bitNot
 omega
def Z2U(a:Int):Builtin.bitAnd a 1=a % 2:=PyProof.Rows.bitAnd_m1 a
def Z1R(f l k:Nat)(h:f<=l):(2 ^ (l+1)-2 ^ f).testBit k=(decide (f<=k) && decide (k<=l)):=by
 have e:2 ^ (l+1)-2 ^ f=(2 ^ (l+1-f)-1)*2 ^ f:=by
  rw[Nat.sub_mul,<-Nat.pow_add,Nat.one_mul]
  congr 2
  omega
 rw[e,Nat.testBit_mul_two_pow,Nat.testBit_two_pow_sub_one]
 by_cases h1:f<=k
 ·simp[h1]
  by_cases h2:k<=l
  ·simp[h2];omega
  ·simp[h2];omega
 ·simp[h1]
def Z0Z{a n:Nat}(h:∀k,n<=k->a.testBit k=false):a<2 ^ n:=Nat.lt_pow_two_of_testBit a h
def Z2G{k:Nat}(h:k<=1000000):mR 1 (k:Int)=true:=by unfold mR;simp;omega
def Z0I{f l:Int}{w:Nat}(hf:0<=f)(hl:l<w)(hw:w<=1000):∃B:Nat,qu [.sh (.int f),.sh (.int l)]=.ret (.sh (.int B))/\∀k:Nat,B.testBit k=(decide (f<=k) && decide ((k:Int)<=l)):=by
 by_cases h:l<f
 ·refine⟨0,by simp[qu,xG,List.replicate,h],λk=>?_⟩
  by_cases h1:f<=k
  ·have h2:¬(k:Int)<=l:=by omega
   simp[h2]
  ·simp[h1]
 ·obtain⟨F,rfl⟩:=Int.eq_ofNat_of_zero_le hf
  obtain⟨L,rfl⟩:=Int.eq_ofNat_of_zero_le (by omega:0<=l)
  have e1:=Z2G (k:=L+1) (by omega)
  have e2:=Z2G (k:=F) (by omega)
  have hp:2 ^ F<=2 ^ (L+1):=Nat.pow_le_pow_right (by omega) (by omega)
  refine⟨2 ^ (L+1)-2 ^ F,?_,λk=>?_⟩
  ·have t1:((L:Int)+1).toNat=L+1:=by omega
   have t2:((L:Int)+1)=((L+1:Nat):Int):=by omega
   simp only[Int.natCast_add,Int.cast_ofNat_Int] at e1
   have h':¬(L:Int)<F:=h
   simp[qu,xG,List.replicate,h',e1,e2,t1]
   rw[Int.natCast_sub hp]
   simp
  ·rw[Z1R F L k (by omega)]
   simp
def inR(L:List Hu.Ln)(u q k:Int):Prop:=∀l∈L,l.1*(u*k)+l.2.1*(u*q)<=l.2.2
def Z0J{a b k:Int}(hb:0<b):k<=a.fdiv b↔k*b<=a:=by
 rw[Int.fdiv_eq_ediv_of_nonneg _ (Int.le_of_lt hb)]
 exact Int.le_ediv_iff_mul_le hb
theorem Z0q{u q:Int}{w:Nat}(hu:0<u)(hu2:u<=10000000)(hq:0<=q)(hq2:q<=1000)(s0:P.Slot):∀(L:List Hu.Ln),(∀l∈L,Rk l)->∀(f la:Int) (s6 s7 s8 s9 kh:P.Slot),0<=f->la<w->
 (∃f' Hx Jy Rn yD Bj vI,forL (gT 3 (ĩ (gN 6) (ĩ (gN 7) (ĩ (gN 8) aD)))) cj (L.map eU) [s0,.sh (.int u),.sh (.int q),.sh (.int w),.sh (.int f),.sh (.int la),s6,s7,s8,s9,kh]=.ok .nx [s0,.sh (.int u),.sh (.int q),.sh (.int w),.sh (.int f'),.sh (.int Hx),Jy,Rn,yD,Bj,vI]/\0<=f'/\Hx<w/\∀k:Int,(f'<=k/\k<=Hx)↔(f<=k/\k<=la/\inR L u q k))\/
 (∃ρ',forL (gT 3 (ĩ (gN 6) (ĩ (gN 7) (ĩ (gN 8) aD)))) cj (L.map eU) [s0,.sh (.int u),.sh (.int q),.sh (.int w),.sh (.int f),.sh (.int la),s6,s7,s8,s9,kh]=.ok (.rt (.sh (.int 0))) ρ'/\∀k:Int,¬inR L u q k)
 | [],_,f,la,s6,s7,s8,s9,kh,h1,h2=>.inl ⟨f,la,s6,s7,s8,s9,kh,rfl,h1,h2,λk=>by simp[inR]⟩
 |l::L,hS,f,la,s6,s7,s8,s9,kh,h1,h2=>by
  have hl:=hS l List.mem_cons_self
  have ih:=λ(f la:Int) (s6 s7 s8 s9 kh:P.Slot)=>Z0q (w:=w) hu hu2 hq hq2 s0 L (λx hx=>hS x (List.mem_cons_of_mem _ hx)) f la s6 s7 s8 s9 kh
  have m1:ł l.1 u=true:=ſ (by have:=hl.1;omega) (by have:=hl.2.1;omega)
  have m2:ł l.2.1 u=true:=ſ (by have:=hl.2.2.1;omega) (by have:=hl.2.2.2;omega)
  have m3:ł (l.2.1*u) q=true:=mul_r (by omega) (by omega)
  have bs:=Z07 hl.1 hl.2.1 (show -10000000<=u by omega) hu2
  obtain⟨st,hst⟩:∃st,l.1*u=st:=⟨_,rfl⟩
  obtain⟨ro,hro⟩:∃ro,l.2.2-l.2.1*u*q=ro:=⟨_,rfl⟩
  rw[hst] at bs
  have hin:∀k:Int,inR (l::L) u q k↔(k*st<=ro/\inR L u q k):=λk=>by
   unfold inR
   rw[List.forall_mem_cons]
   have e:l.1*(u*k)=k*st:=by rw[<-hst,<-Int.mul_assoc,Int.mul_comm]
   have e2:l.2.1*(u*q)=l.2.1*u*q:=by rw[Int.mul_assoc]
   rw[e,e2]
   constructor
   ·rintro ⟨a,b⟩;exact⟨by omega,b⟩
   ·rintro ⟨a,b⟩;exact⟨by omega,b⟩
  have gg:gT 3 (ĩ (gN 6) (ĩ (gN 7) (ĩ (gN 8) aD))) (eU l) [s0,.sh (.int u),.sh (.int q),.sh (.int w),.sh (.int f),.sh (.int la),s6,s7,s8,s9,kh]=some [s0,.sh (.int u),.sh (.int q),.sh (.int w),.sh (.int f),.sh (.int la),.sh (.int l.1),.sh (.int l.2.1),.sh (.int l.2.2),s9,kh]:=by simp[eU]
  rw[List.map_cons,forL,gg]
  dsimp only
  by_cases c1:0<st
  ·have d1:gU ro st=true:=zu (by omega) (Nat.le_trans (lY (n:=200) (by omega) (by omega)) (by decide))
   have e:cj [s0,.sh (.int u),.sh (.int q),.sh (.int w),.sh (.int f),.sh (.int la),.sh (.int l.1),.sh (.int l.2.1),.sh (.int l.2.2),s9,kh]=.ok .nx [s0,.sh (.int u),.sh (.int q),.sh (.int w),.sh (.int f),.sh (.int (min la (ro.fdiv st))),.sh (.int l.1),.sh (.int l.2.1),.sh (.int l.2.2),.sh (.int st),.sh (.int ro)]:=by
    simp[cj,m1,m2,m3,hst,hro,c1,d1]
    split<;>omega
   rw[e]
   rcases ih f (min la (ro.fdiv st)) (.sh (.int l.1)) (.sh (.int l.2.1)) (.sh (.int l.2.2)) (.sh (.int st)) (.sh (.int ro)) h1 (by omega) with⟨f',Hx,Jy,Rn,yD,Bj,vI,q1,q2,q3,q4⟩|⟨ρ',q1,q2⟩
   ·refine .inl ⟨f',Hx,Jy,Rn,yD,Bj,vI,q1,q2,q3,λk=>?_⟩
    rw[q4,hin]
    have:=Z0J (a:=ro) (k:=k) c1
    constructor
    ·rintro ⟨a,b,c⟩;exact⟨a,by omega,this.mp (by omega),c⟩
    ·rintro ⟨a,b,c,d⟩;exact⟨a,by have:=this.mpr c;omega,d⟩
   ·exact .inr ⟨ρ',q1,λk=>by rw[hin];exact λh=>q2 k h.2⟩
  ·by_cases c2:st<0
   ·have d1:gU ro (-st)=true:=zu (by omega) (Nat.le_trans (lY (n:=200) (by omega) (by omega)) (by decide))
    have e:cj [s0,.sh (.int u),.sh (.int q),.sh (.int w),.sh (.int f),.sh (.int la),.sh (.int l.1),.sh (.int l.2.1),.sh (.int l.2.2),s9,kh]=.ok .nx [s0,.sh (.int u),.sh (.int q),.sh (.int w),.sh (.int (max f (-(ro.fdiv (-st))))),.sh (.int la),.sh (.int l.1),.sh (.int l.2.1),.sh (.int l.2.2),.sh (.int st),.sh (.int ro)]:=by
     simp[cj,m1,m2,m3,hst,hro,c1,c2,d1]
     split<;>omega
    rw[e]
    rcases ih (max f (-(ro.fdiv (-st)))) la (.sh (.int l.1)) (.sh (.int l.2.1)) (.sh (.int l.2.2)) (.sh (.int st)) (.sh (.int ro)) (by omega) h2 with⟨f',Hx,Jy,Rn,yD,Bj,vI,q1,q2,q3,q4⟩|⟨ρ',q1,q2⟩
    ·refine .inl ⟨f',Hx,Jy,Rn,yD,Bj,vI,q1,q2,q3,λk=>?_⟩
     rw[q4,hin]
     have:=Z0J (a:=ro) (b:=-st) (k:=-k) (by omega)
     rw[Int.neg_mul_neg] at this
     constructor
     ·rintro ⟨a,b,c⟩;exact⟨by omega,b,this.mp (by omega),c⟩
     ·rintro ⟨a,b,c,d⟩;exact⟨by have:=this.mpr c;omega,b,d⟩
    ·exact .inr ⟨ρ',q1,λk=>by rw[hin];exact λh=>q2 k h.2⟩
   ·have c0:st=0:=by omega
    subst c0
    by_cases c3:ro<0
    ·refine .inr ⟨_,by simp[cj,m1,m2,m3,hst,hro,c3];rfl,λk=>?_⟩
     rw[hin]
     rintro ⟨a,_⟩
     omega
    ·have e:cj [s0,.sh (.int u),.sh (.int q),.sh (.int w),.sh (.int f),.sh (.int la),.sh (.int l.1),.sh (.int l.2.1),.sh (.int l.2.2),s9,kh]=.ok .nx [s0,.sh (.int u),.sh (.int q),.sh (.int w),.sh (.int f),.sh (.int la),.sh (.int l.1),.sh (.int l.2.1),.sh (.int l.2.2),.sh (.int 0),.sh (.int ro)]:=by
      simp[cj,m1,m2,m3,hst,hro,c3]
     rw[e]
     rcases ih f la (.sh (.int l.1)) (.sh (.int l.2.1)) (.sh (.int l.2.2)) (.sh (.int 0)) (.sh (.int ro)) h1 h2 with⟨f',Hx,Jy,Rn,yD,Bj,vI,q1,q2,q3,q4⟩|⟨ρ',q1,q2⟩
     ·refine .inl ⟨f',Hx,Jy,Rn,yD,Bj,vI,q1,q2,q3,λk=>?_⟩
      rw[q4,hin]
      constructor
      ·rintro ⟨a,b,c⟩;exact⟨a,b,by omega,c⟩
      ·rintro ⟨a,b,c,d⟩;exact⟨a,b,d⟩
     ·exact .inr ⟨ρ',q1,λk=>by rw[hin];exact λh=>q2 k h.2⟩
def Z2H{u q:Int}{w:Nat}(hu:0<u)(hu2:u<=10000000)(hq:0<=q)(hq2:q<=1000)(hw:w<=1000){L:List Hu.Ln}(hS:∀l∈L,Rk l){sl:P.Slot}(hs:Sl sl (L.map eU)) :
 ∃B:Nat,vh [sl,.sh (.int u),.sh (.int q),.sh (.int w)]=.ret (.sh (.int B))/\∀k:Nat,B.testBit k=true↔(k<w/\inR L u q k):=by
 rcases Z0q (w:=w) hu hu2 hq hq2 sl L hS 0 (w-1) .no .no .no .no .no (by omega) (by omega) with⟨f',Hx,Jy,Rn,yD,Bj,vI,q1,q2,q3,q4⟩|⟨ρ',q1,q2⟩
 ·obtain⟨B,b1,b2⟩:=Z0I (f:=f') (l:=Hx) q2 q3 hw
  refine⟨B,by rcases hs with rfl|rfl<;>simp[vh,xH,List.replicate,q1,b1],λk=>?_⟩
  rw[b2,Bool.and_eq_true,decide_eq_true_eq,decide_eq_true_eq,q4 k]
  constructor
  ·rintro ⟨a,b,c⟩;exact⟨by omega,c⟩
  ·rintro ⟨a,b⟩;exact⟨by omega,by omega,b⟩
 ·refine⟨0,by rcases hs with rfl|rfl<;>simp[vh,xH,List.replicate,q1],λk=>?_⟩
  simp
  exact λ_=>q2 k
abbrev Th:=Str×List Int
def oW(t:Th):PV:=Z9 (Zl t.1) t.1 t.2
def iz:Option P3->PV
 |none=>.non
 |some r=>c3 r
abbrev Dy:=Str×Int×List (Option P3)
def Ŋ(d:Dy):PV:=.tup [.str d.1,.int d.2.1,.lst (d.2.2.map iz)]
def Z0(w h:Int)(T:List Th)(D:List Dy):PV:=.ins "Yard" ["width","height","things","days"] [.int w,.int h,.lst (T.map oW),.lst (D.map Ŋ)]
def ywh:(Str.ofString "width" =Str.ofString "height")=False:=eq_false (by decide +kernel)
def ywt:(Str.ofString "width" =Str.ofString "things")=False:=eq_false (by decide +kernel)
def ywd:(Str.ofString "width" =Str.ofString "days")=False:=eq_false (by decide +kernel)
def yht:(Str.ofString "height" =Str.ofString "things")=False:=eq_false (by decide +kernel)
def yhd:(Str.ofString "height" =Str.ofString "days")=False:=eq_false (by decide +kernel)
def ytd:(Str.ofString "things" =Str.ofString "days")=False:=eq_false (by decide +kernel)
def Ks(w h:Int)(T:List Th)(D:List Dy):Ō ["Yard"] (Str.ofString "width") (Z0 w h T D)=some (.int w):=by
 unfold Ō Z0
 simp
def Xf(w h:Int)(T:List Th)(D:List Dy):Ō ["Yard"] (Str.ofString "height") (Z0 w h T D)=some (.int h):=by
 have:(Str.ofString "height" == Str.ofString "width")=false:=by decide +kernel
 unfold Ō Z0
 simp[List.lookup_cons,this]
def y_t(w h:Int)(T:List Th)(D:List Dy):Ō ["Yard"] (Str.ofString "things") (Z0 w h T D)=some (.lst (T.map oW)):=by
 have e1:(Str.ofString "things" == Str.ofString "width")=false:=by decide +kernel
 have e2:(Str.ofString "things" == Str.ofString "height")=false:=by decide +kernel
 unfold Ō Z0
 simp[List.lookup_cons,e1,e2]
def y_d(w h:Int)(T:List Th)(D:List Dy):Ō ["Yard"] (Str.ofString "days") (Z0 w h T D)=some (.lst (D.map Ŋ)):=by
 have e1:(Str.ofString "days" == Str.ofString "width")=false:=by decide +kernel
 have e2:(Str.ofString "days" == Str.ofString "height")=false:=by decide +kernel
 have e3:(Str.ofString "days" == Str.ofString "things")=false:=by decide +kernel
 unfold Ō Z0
 simp[List.lookup_cons,e1,e2,e3]
def Z1m(D:List Dy)(hD:D.length<=100000)(s0 s1 s2:P.Slot):Ķ (gT 3 (ĩ (gN 0) (ĩ (gN 1) (ĩ (gN 2) aD)))) Ľ (ŉ (ą (ğ 0) (ą (ğ 1) (ą (đ (lC cT (ą (Ā 2) ė))) ė)))) (D.map Ŋ) [s0,s1,s2] []=some (D.map Ŋ):=by
 have h:=Ņ (g:=gT 3 (ĩ (gN 0) (ĩ (gN 1) (ĩ (gN 2) aD)))) (mt:=Ľ) (me:=ŉ (ą (ğ 0) (ą (ğ 1) (ą (đ (lC cT (ą (Ā 2) ė))) ė)))) Ŋ Ŋ (λρ=>∃a b c,ρ=[a,b,c]) D [s0,s1,s2] [] ⟨_,_,_,rfl⟩ (by simp;omega) (by
  rintro d _ ρ ⟨a,b,c,rfl⟩
  refine⟨[.sh (.str d.1),.sh (.int d.2.1),.sh (.lst (d.2.2.map iz))],[.sh (.str d.1),.sh (.int d.2.1),.sh (.lst (d.2.2.map iz))],[.sh (.str d.1),.sh (.int d.2.1),.sh (.lst (d.2.2.map iz))],by simp[Ŋ],rfl,by simp[Ŋ],_,_,_,rfl⟩)
 simpa using h
def Z2k(w h:Int){T:List Th}{D:List Dy}(hT:T.length<=100000)(hD:D.length<=100000){s3 s4:P.Slot}(h3:Sl s3 (T.map oW))(h4:Sl s4 (D.map Ŋ)):jm [.sh (.int w),.sh (.int h),s3,s4]=.ok ["width","height","things","days"] [.int w,.int h,.lst (T.map oW),.lst (D.map Ŋ)]:=by
 have c:=Z1m D hD .no .no .no
 generalize hx:T.map oW=tx at *
 generalize hy:D.map Ŋ=dx at *
 rcases h3 with rfl|rfl<;>rcases h4 with rfl|rfl<;>simp[jm,bM,Fi,gW,IR.of,List.replicate,putN,wO,ywh,ywt,ywd,yht,yhd,ytd,c]
def Z2I{k q w:Nat}(hw:0<w):(q*w<=k/\k-q*w<w)↔k / w=q:=by
 constructor
 ·rintro ⟨a,b⟩
  exact Nat.div_eq_of_lt_le a (by rw[Nat.add_mul];omega)
 ·rintro rfl
  have h1:=Nat.div_mul_le_self k w
  have h2:=Nat.mod_lt k hw
  have h3:=Nat.mod_eq_sub_div_mul (x:=k) (k:=w)
  omega
def Z2J{k q w:Nat}(h:k / w=q):k-q*w=k % w:=by
 subst h
 exact(Nat.mod_eq_sub_div_mul).symm
def ZI{k w h:Nat}(hw:0<w):k / w<h↔k<w*h:=by
 rw[Nat.div_lt_iff_lt_mul hw,Nat.mul_comm]
def W_(w k:Nat):Hu.Pt:=(((k % w:Nat):Int),((k / w:Nat):Int))
def Z2l{S:List Hu.Pt}{r:P3}{p q:Int}:inR (Hu.Zq S) (2*r.2.2) q p↔(Hu.Z0U S (cst r (sto (p,q)))).isNone=true:=by
 have e:cst r (sto (p,q))=(2*r.2.2*p,2*r.2.2*q):=by
  unfold cst sto
  simp only[Int.mul_zero,Int.add_zero,Prod.mk.injEq]
  constructor<;>grind
 rw[e]
 unfold Hu.Z0U inR Hu.hd
 rw[Option.isNone_iff_eq_none,List.find?_eq_none]
 simp
theorem ZZ{α:Type}(y:α):∀(xs b:List α),y∈xs.foldl (λb x=>x::b) b↔(y∈xs\/y∈b)
 | [],b=>by simp
 |x::xs,b=>by rw[List.foldl_cons,ZZ y xs (x::b)];simp;grind
def Xa(t:Th)(s:Hu.Pt)(r:P3):Bool:=shB t.1 t.2 s r
def Z1n{w h:Nat}(hw:0<w)(hw2:w<=60)(hh:h<=1000)(T:List Th)(Ds:List Dy){t:Th}(hg:Z8 t.1 t.2=true){r:P3}(hr:RB r)(hz:0<r.2.2) :
 ∃D:Nat,qw [.sh (Z0 w h T Ds),.sh (oW t),.sh (c3 r)]=.ret (.sh (.int D))/\∀k,D.testBit k=(decide (k<w*h) && Xa t (W_ w k) r):=by
 obtain⟨g1,g2,g3⟩:=Z1Q hg
 have hc:=Z1P hg (by omega) hr
 have hS:∀p∈(Zn t.1 t.2).map (cst r),Sm p:=by
  intro p hp
  obtain⟨q,hq,rfl⟩:=List.mem_map.mp hp
  exact Z2F hr (g3 q hq)
 have hl:=Z1L (sl:=.sh (.lst (((Zn t.1 t.2).map (cst r)).map pt))) (.inl rfl) hS (by simpa using g2) (by simp;omega)
 have hls:∀l∈Hu.Zq ((Zn t.1 t.2).map (cst r)),Rk l:=λl h=>Z2z h hS
 have yw:=Ks w h T Ds
 have yh:=Xf w h T Ds
 have hv:(2:Int)*r.2.2<=10000000:=by have:=hr.2.2.2.2.2;omega
 generalize hX:Hu.Zq ((Zn t.1 t.2).map (cst r))=X at *
 generalize hY:Z0 w h T Ds=Y at *
 have hr2:Č (c3 r) (.int 2)=some (.int r.2.2):=by simp[c3]
 obtain⟨ρ',e1,D,s5,rfl,hD⟩:=jM (g:=gN 5) (mb:=sE) (λ(q:Nat)=>PV.int q) (λ(b:List Nat) (x:Nat)=>x::b) (λb ρ=>∃(D:Nat) (s5:P.Slot),ρ=[.sh Y,.sh (oW t),.sh (c3 r),.ow (X.map eU),.sh (.int D),s5]/\∀k,D.testBit k=true↔(k / w∈b/\Xa t (W_ w k) r=true)) (List.range h) (by
  rintro q hq b ρ ⟨D,s5,rfl,hD⟩
  have hq:=List.mem_range.mp hq
  obtain⟨B,b1,b2⟩:=Z2H (u:=2*r.2.2) (q:=q) (w:=w) (by omega) hv (by omega) (by omega) (by omega) hls (sl:=.bw (X.map eU)) (.inr rfl)
  have hB:B<2 ^ w:=Z0Z λk hk=>by
   have:=b2 k
   cases e:B.testBit k with
   |false=>rfl
   |true=>have:=(this.mp e).1;omega
  have hB2:B<2 ^ 60:=Nat.lt_of_lt_of_le hB (Nat.pow_le_pow_right (by omega) hw2)
  have hqw:q*w<=1000*60:=Nat.mul_le_mul (by omega) hw2
  have so:mR (B:Int) ((q:Int)*(w:Int))=true:=by
   have:((q:Int)*(w:Int))=((q*w:Nat):Int):=by simp
   rw[this]
   unfold mR
   simp
   omega
  have mo:ł (q:Int) (w:Int)=true:=ſ (by omega) (by omega)
  have tn:((q:Int)*(w:Int)).toNat=q*w:=by
   have:((q:Int)*(w:Int))=((q*w:Nat):Int):=by simp
   rw[this];rfl
  obtain⟨Z,hZ⟩:∃Z:Nat,Z=D ||| B*2 ^ (q*w):=⟨_,rfl⟩
  have oe:Builtin.bitOr (D:Int) ((B:Int)*2 ^ (q*w))=(Z:Int):=by
   have ee:(B:Int)*2 ^ (q*w)=((B*2 ^ (q*w):Nat):Int):=by simp
   rw[ee,Z1l,hZ]
  have m2:ł 2 r.2.2=true:=ſ (by omega) (by omega)
  generalize c3 r=R at *
  have st:sE [.sh Y,.sh (oW t),.sh R,.ow (X.map eU),.sh (.int D),.sh (.int q)]=.ok .nx [.sh Y,.sh (oW t),.sh R,.ow (X.map eU),.sh (.int Z),.sh (.int q)]:=by
   simp[sE,hr2,yw,m2,b1,mo,so,tn,oe]
  refine⟨_,_,rfl,st,_,_,rfl,λk=>?_⟩
  rw[hZ,Nat.testBit_or,Bool.or_eq_true,hD,Nat.testBit_mul_two_pow,Bool.and_eq_true,decide_eq_true_eq,b2,List.mem_cons,<-hX,Z2l]
  have key:∀(_:k / w=q),((Hu.Z0U ((Zn t.1 t.2).map (cst r)) (cst r (sto (((k-q*w:Nat):Int),(q:Int))))).isNone=true↔Xa t (W_ w k) r=true):=by
   intro hk
   unfold Xa shB W_
   rw[Z2J hk,hk]
  have d:=Z2I (k:=k) (q:=q) hw
  constructor
  ·rintro (⟨a,b⟩|⟨a,b,c⟩)
   ·exact⟨.inr a,b⟩
   ·have:=d.mp ⟨a,b⟩
    exact⟨.inl this,(key this).mp c⟩
  ·rintro ⟨a|a,b⟩
   ·have:=d.mpr a
    exact .inr ⟨this.1,this.2,(key a).mpr b⟩
   ·exact .inl ⟨a,b⟩) [] [.sh Y,.sh (oW t),.sh (c3 r),.ow (X.map eU),.sh (.int ((0:Nat):Int)),.no] ⟨0,.no,rfl,by simp⟩
 refine⟨D,?_,λk=>?_⟩
 ·have rr:=ZX hh
  have hc':vg [.sh (oW t),.sh (c3 r)]=.ret (.ow (((Zn t.1 t.2).map (cst r)).map pt)):=hc
  generalize c3 r=R at *
  generalize oW t=Tv at *
  simp[qw,FW,List.replicate,hc',hl,yh,rr,-List.map_map] at e1 ⊢
  simp[e1]
 ·have:=hD k
  rw[ZZ,List.mem_range,ZI hw] at this
  rw[Bool.eq_iff_iff,this,Bool.and_eq_true,decide_eq_true_eq]
  simp
def Zs:Nat->(Nat->Bool)->Nat
 |0,_=>0
 |n+1,p=>Zs n p+if p n then 2 ^ n else 0
theorem Z00(p:Nat->Bool):∀n,Zs n p<2 ^ n
 |0=>by simp[Zs]
 |n+1=>by
  have:=Z00 p n
  unfold Zs
  rw[Nat.pow_succ]
  split<;>omega
theorem ZQ(p:Nat->Bool):∀n k,(Zs n p).testBit k=(decide (k<n) && p k)
 |0,k=>by simp[Zs]
 |n+1,k=>by
  have hl:=Z00 p n
  unfold Zs
  by_cases h:k<n
  ·have ih:=ZQ p n k
   have h1:k<n+1:=by omega
   split
   ·rw[Nat.add_comm,Nat.testBit_two_pow_add_gt h,ih];simp[h,h1]
   ·rw[Nat.add_zero,ih];simp[h,h1]
  ·by_cases h2:k=n
   ·subst h2
    split
    ·rename_i q
     rw[Nat.add_comm,Nat.testBit_two_pow_add_eq,Nat.testBit_lt_two_pow hl];simp[q]
    ·rename_i q
     rw[Nat.add_zero,Nat.testBit_lt_two_pow hl];simp[q]
   ·have h3:¬k<n+1:=by omega
    have:Zs n p+(if p n=true then 2 ^ n else 0)<2 ^ k:=by
     refine Nat.lt_of_lt_of_le (Z00 p (n+1)) (Nat.pow_le_pow_right (by omega) (by omega))
    rw[Nat.testBit_lt_two_pow this]
    simp[h3]
def Z01{n:Nat}{p:Nat->Bool}{D:Nat}(h:∀k,D.testBit k=(decide (k<n) && p k)):D=Zs n p:=Nat.eq_of_testBit_eq λk=>by rw[h,ZQ]
def dk1(w h:Nat)(r:P3)(t:Th):Nat:=Zs (w*h) λk=>Xa t (W_ w k) r
def dkp(w:Nat)(T:List Th):Option P3->Nat->Bool
 |none,_=>true
 |some r,k=>T.any λt=>Xa t (W_ w k) r
def vJ(w h:Nat)(T:List Th)(o:Option P3):Nat:=Zs (w*h) (dkp w T o)
def HN(o:Option P3):Prop:=match o with|none=>True|some r=>RB r/\0<r.2.2
def Z10{w h:Nat}(hw:0<w)(hw2:w<=60)(hh:h<=1000)(T:List Th)(Ds:List Dy){t:Th}(hg:Z8 t.1 t.2=true){r:P3}(hr:RB r)(hz:0<r.2.2) :
 qw [.sh (Z0 w h T Ds),.sh (oW t),.sh (c3 r)]=.ret (.sh (.int (dk1 w h r t))):=by
 obtain⟨D,h1,h2⟩:=Z1n hw hw2 hh T Ds hg hr hz
 rw[h1,Z01 h2]
 rfl
def Z1S{w h:Nat}(hw:0<w)(hw2:w<=60)(hh:h<=1000){T:List Th}(hT:T.length<=1000)(Ds:List Dy)(hg:∀t∈T,Z8 t.1 t.2=true){r:P3}(hr:RB r)(hz:0<r.2.2) :
 Kd [.sh (Z0 w h T Ds),.sh (c3 r)]=.ret (.ow (T.map λt=>.int (dk1 w h r t))):=by
 have yt:=y_t w h T Ds
 have hc:=Ņ (g:=gN 2) (mt:=Ľ) (me:=đ (č qw (Ą 0 (Ą 2 (Ą 1 Ċ))))) oW (λt=>.int (dk1 w h r t)) (λρ=>∃s,ρ=[.sh (Z0 w h T Ds),.sh (c3 r),s]) T [.sh (Z0 w h T Ds),.sh (c3 r),.no] [] ⟨_,rfl⟩ (by simp;omega) (by
  rintro t ht ρ ⟨s,rfl⟩
  have e:=Z10 hw hw2 hh T Ds (hg t ht) hr hz
  generalize Z0 w h T Ds=Y at *
  generalize c3 r=R at *
  generalize oW t=Tv at *
  refine⟨_,_,_,rfl,rfl,by simp[e];rfl,_,rfl⟩)
 generalize Z0 w h T Ds=Y at *
 generalize c3 r=R at *
 simp[Kd,Nt,List.replicate,yt]
 simp at hc
 simp[hc]
def Z0K{w h:Nat}(hw:0<w)(hw2:w<=60)(hh:h<=1000)(tZ:w*h<=1000){T:List Th}(hT:T.length<=1000)(Ds:List Dy)(hg:∀t∈T,Z8 t.1 t.2=true){o:Option P3}(ho:HN o) :
 gZ [.sh (Z0 w h T Ds),.sh (iz o)]=.ret (.sh (.int (vJ w h T o))):=by
 have yw:=Ks w h T Ds
 have yh:=Xf w h T Ds
 have mo:ł (w:Int) (h:Int)=true:=ſ (by omega) (by omega)
 cases o with
 |none=>
  obtain⟨B,b1,b2⟩:=Z0I (f:=0) (l:=(w:Int)*h-1) (w:=w*h) (by omega) (by rw[Int.natCast_mul];omega) tZ
  have:B=vJ w h T none:=Z01 λk=>by
   rw[b2]
   simp[dkp]
   have:((w*h:Nat):Int)=(w:Int)*h:=by simp
   omega
  subst this
  generalize Z0 w h T Ds=Y at *
  simp[gZ,xK,List.replicate,iz,yw,yh,mo,b1,vL]
 |some r=>
  have ho:RB r/\0<r.2.2:=ho
  have hd:=Z1S hw hw2 hh hT Ds hg ho.1 ho.2
  obtain⟨ρ',e1,D,s3,rfl,hD⟩:=jM (g:=gN 3) (mb:=xJ) (λ(t:Th)=>PV.int (dk1 w h r t)) (λ(b:List Th) (x:Th)=>x::b) (λb ρ=>∃(D:Nat) (s3:P.Slot),ρ=[.sh (Z0 w h T Ds),.sh (c3 r),.sh (.int D),s3]/\∀k,D.testBit k=true↔(k<w*h/\∃t∈b,Xa t (W_ w k) r=true)) T (by
   rintro t ht b ρ ⟨D,s3,rfl,hD⟩
   refine⟨_,_,rfl,by simp[xJ,Z1l];exact⟨rfl,rfl⟩,_,_,rfl,λk=>?_⟩
   rw[Nat.testBit_or,Bool.or_eq_true,hD,dk1,ZQ,Bool.and_eq_true,decide_eq_true_eq]
   simp
   grind) [] [.sh (Z0 w h T Ds),.sh (c3 r),.sh (.int ((0:Nat):Int)),.no] ⟨0,.no,rfl,by simp⟩
  have:D=vJ w h T (some r):=Z01 λk=>by
   have:=hD k
   rw[Bool.eq_iff_iff,this]
   simp only[ZZ,dkp,List.not_mem_nil,or_false,Bool.and_eq_true,decide_eq_true_eq,List.any_eq_true]
  subst this
  have hn:uJ (c3 r) .non=some (.bl false):=by simp[c3,vL]
  generalize Z0 w h T Ds=Y at *
  show gZ [.sh Y,.sh (c3 r)]=_
  simp at e1
  generalize c3 r=R at *
  have hn:vL R=false:=by simpa using hn
  simp[gZ,xK,List.replicate,hd,hn,e1]
def Zz(ns:List Int)(k:Nat):Ŀ [.sh (.lst (ns.map .int)),.sh (.int k)]=.ret (.sh (.int (ns.getD k 0))):=by
 by_cases h:k<ns.length
 ·have h':(k:Int)<(ns.length:Int):=by omega
  simp[Ŀ,xq,List.replicate,h',List.getElem?_eq_getElem h]
 ·have h':¬(k:Int)<(ns.length:Int):=by omega
  simp[Ŀ,xq,List.replicate,h',List.getElem?_eq_none (Nat.le_of_not_lt h)]
@[simp] theorem Zt(ns:List Int)(k:Nat):Ŀ [.sh (.lst (ns.map .int)),.sh (.int (no_index (OfNat.ofNat k)))]=.ret (.sh (.int (ns.getD k 0))):=Zz ns k
def Gr(x:Int):Prop:=0<=x/\x<524288
theorem Zv(c:Int)(s1:P.Slot):∀(ks:List Nat) (acc:List Int) (n:Int) (s4:P.Slot),acc.length+ks.length<=100000->(∀k∈ks,k<=100000)->(∀x∈acc,Gr x)->∃(acc':List Int) (n':Int) (vM:P.Slot),forL (gN 4) jN (ks.map λ(i:Nat)=>PV.int (i:Int)) [.sh (.int c),s1,.ow (acc.map .int),.sh (.int n),s4]=.ok .nx [.sh (.int c),s1,.ow (acc'.map .int),.sh (.int n'),vM]/\acc'.length=acc.length+ks.length/\∀x∈acc',Gr x
 | [],acc,n,s4,_,_,h=>⟨acc,n,s4,rfl,rfl,h⟩
 |k::ks,acc,n,s4,hl,hk,h=>by
  have hk0:=hk k List.mem_cons_self
  have hl0:acc.length<16777216:=by simp at hl;omega
  rw[List.map_cons,forL]
  have hg:gN 4 (PV.int (k:Int)) [.sh (.int c),s1,.ow (acc.map .int),.sh (.int n),s4]=some [.sh (.int c),s1,.ow (acc.map .int),.sh (.int n),.sh (.int k)]:=rfl
  rw[hg]
  dsimp only
  by_cases h0:c % 2=0
  ·have e:jN [.sh (.int c),s1,.ow (acc.map .int),.sh (.int n),.sh (.int k)]=.ok .nx [.sh (.int c),s1,.ow ((acc ++ [n % 524287]).map .int),.sh (.int (n / 524287)),.sh (.int k)]:=by
    simp[jN,h0,hl0]
   rw[e]
   obtain⟨a,b,d,q1,q2,q3⟩:=Zv c s1 ks (acc ++ [n % 524287]) (n / 524287) (.sh (.int k)) (by simp at hl ⊢;omega) (λx hx=>hk x (List.mem_cons_of_mem _ hx)) (by
    intro x hx
    rcases List.mem_append.mp hx with hx|hx
    ·exact h x hx
    ·rw[List.mem_singleton.mp hx];unfold Gr;omega)
   exact⟨a,b,d,q1,by simp at q2 ⊢;omega,q3⟩
  ·obtain⟨m,hm⟩:∃m,(n*49157+24593+2*(k:Int)) % 8388593=m:=⟨_,rfl⟩
   have e:jN [.sh (.int c),s1,.ow (acc.map .int),.sh (.int n),.sh (.int k)]=.ok .nx [.sh (.int c),s1,.ow ((acc ++ [m / 16]).map .int),.sh (.int m),.sh (.int k)]:=by
    simp[jN,h0,hl0,hm]
   rw[e]
   obtain⟨a,b,d,q1,q2,q3⟩:=Zv c s1 ks (acc ++ [m / 16]) m (.sh (.int k)) (by simp at hl ⊢;omega) (λx hx=>hk x (List.mem_cons_of_mem _ hx)) (by
    intro x hx
    rcases List.mem_append.mp hx with hx|hx
    ·exact h x hx
    ·rw[List.mem_singleton.mp hx];unfold Gr;omega)
   exact⟨a,b,d,q1,by simp at q2 ⊢;omega,q3⟩
def Z0i(c:Int){n:Nat}(hn:n<=1000):∃xs:List Int,nF [.sh (.int c),.sh (.int n)]=.ret (.ow (xs.map .int))/\xs.length=n/\∀x∈xs,Gr x:=by
 have rr:=ZX hn
 by_cases h:c % 2=1
 ·obtain⟨a,b,d,q1,q2,q3⟩:=Zv c (.sh (.int n)) (List.range n) [] (c / 2 % 8388593) .no (by simp;omega) (λk hk=>by have:=List.mem_range.mp hk;omega) (by simp)
  refine⟨a,?_,by simpa using q2,q3⟩
  simp at q1
  simp[nF,xr,List.replicate,h,rr,q1]
 ·obtain⟨a,b,d,q1,q2,q3⟩:=Zv c (.sh (.int n)) (List.range n) [] (c / 2) .no (by simp;omega) (λk hk=>by have:=List.mem_range.mp hk;omega) (by simp)
  refine⟨a,?_,by simpa using q2,q3⟩
  simp at q1
  simp[nF,xr,List.replicate,h,rr,q1]
def Pl(x:Int):Prop:=-1000000000+50<=x/\x<=1000000000-50
def Zr(n:Int){w:Int}(h1:1<=w)(h2:w<=1000):∃x:Int,g_ [.sh (.int n),.sh (.int w)]=.ret (.sh (.int x))/\Pl x:=by
 by_cases h:n / 512 % 16=5
 ·exact⟨n*3813 % 1999999901-1000000000+50,by simp[g_,xP,List.replicate,h],by unfold Pl;omega⟩
 ·have m0:¬(2*w+9=0):=by omega
  have p:=Int.emod_nonneg n (show(2*w+9)≠0 by omega)
  have q:=Int.emod_lt_of_pos n (show 0<(2*w+9) by omega)
  have e:n.fmod (2*w+9)=n % (2*w+9):=Int.fmod_eq_emod_of_nonneg n (by omega)
  exact⟨n % (2*w+9)-4,by simp[g_,xP,List.replicate,h,m0,e],by unfold Pl;omega⟩
def Z08(n:Int):∃x:Int,qG [.sh (.int n)]=.ret (.sh (.int x))/\1<=x/\x<=1000000000:=by
 by_cases h:n / 512 % 12=7
 ·exact⟨1+n*1907 % 1000000000,by simp[qG,xO,List.replicate,h],by omega,by omega⟩
 ·exact⟨1+n % 9,by simp[qG,xO,List.replicate,h],by omega,by omega⟩
def Z1o{x y h:Int}(a:Pl x)(b:Pl y)(c:1<=h/\h<=1000000000):Z8 "post" [x / 2,y / 2,h]=true:=by
 unfold Pl at a b
 unfold Z8 Zj Ŷ vN
 simp
 omega
def HS{a b:String}(h:decide (Str.ofString a=Str.ofString b)=false):¬(Str.ofString a=Str.ofString b):=of_decide_eq_false h
def Z11{x y u v h:Int}(a:Pl x)(b:Pl y)(hu: -4<=u/\u<=4)(hv: -4<=v/\v<=4)(c:1<=h/\h<=1000000000)(e:Int)(he:e=if u=0/\v=0 then 1 else 0):Z8 "fence" [x,y,x+u+e,y+v,h]=true:=by
 have h1:¬(Str.ofString "fence" =Str.ofString "post"):=HS (by decide +kernel)
 unfold Pl at a b
 unfold Z8
 rw[if_neg h1,if_pos rfl]
 unfold Zg Zk Ŷ vN
 simp
 split at he<;>omega
def Z0r{w:Str}(hw:w= "sail" \/w= "house"){x y u v h:Int}(a:Pl x)(b:Pl y)(hu:0<=u/\u<=8)(hv:0<=v/\v<=8)(c:1<=h/\h<=1000000000):Z8 w [x,y,x+1+u,y+1+v,h]=true:=by
 have hb:Zb [x,y,x+1+u,y+1+v,h]=true:=by
  unfold Pl at a b
  unfold Zb Zk Ŷ vN
  simp
  omega
 unfold Z8
 rcases hw with rfl|rfl
 ·rw[if_neg (HS (by decide +kernel)),if_neg (HS (by decide +kernel)),if_pos rfl]
  exact hb
 ·rw[if_neg (HS (by decide +kernel)),if_neg (HS (by decide +kernel)),if_neg (HS (by decide +kernel)),if_neg (HS (by decide +kernel)),if_pos rfl]
  exact hb
def Z12{x y z a b c d e f:Int}(h1:Pl x)(h2:Pl y)(h3:0<=z/\z<=1000000000)(h4:Pl a)(h5:Pl b)(h6:1<=c/\c<=1000000000)(h7:Pl d)(h8:Pl e)(h9:1<=f/\f<=1000000000):Z8 "cloth" [x,y,z,a,b,c,d,e,f]=true:=by
 unfold Z8
 rw[if_neg (HS (by decide +kernel)),if_neg (HS (by decide +kernel)),if_neg (HS (by decide +kernel)),if_pos rfl]
 unfold Pl at *
 unfold Zh Ŷ vO
 simp
 omega
theorem Z2V:∀(xs:List Int),xs.length=14->∃a b c d e f g h i j k l m n,xs=[a,b,c,d,e,f,g,h,i,j,k,l,m,n]
 | [a,b,c,d,e,f,g,h,i,j,k,l,m,n],_=>⟨a,b,c,d,e,f,g,h,i,j,k,l,m,n,rfl⟩
def Z2W(x y:Hu.Pt):ŋ (pt x) (pt y)=some (.bl (decide (x=y))):=by
 unfold ŋ pC
 rw[ZT,ZT,ZM,ZM,Z0m]
 rfl
def Z0s:cQ [.int 2]=some [.int 0,.int 1]:=by rfl
def Z1p(c:Int){w:Int}(hw1:1<=w)(hw2:w<=1000):∃t:Th,fV [.sh (.int c),.sh (.int w)]=.ret (.sh (.tup [.str t.1,.lst (t.2.map .int)]))/\Z8 t.1 t.2=true:=by
 obtain⟨xs,eg,hl,hx⟩:=Z0i c (n:=14) (by omega)
 obtain⟨x0,x1,x2,x3,x4,x5,x6,x7,x8,x9,x10,x11,x12,x13,rfl⟩:=Z2V xs hl
 clear hl hx
 obtain⟨p0,e0,q0⟩:=Zr x0 hw1 hw2
 obtain⟨p1,e1,q1⟩:=Zr x1 hw1 hw2
 obtain⟨z,ez,qz⟩:=Z08 x2
 have eg':nF [.sh (.int c),.sh (.int 14)]=.ret (.ow [.int x0,.int x1,.int x2,.int x3,.int x4,.int x5,.int x6,.int x7,.int x8,.int x9,.int x10,.int x11,.int x12,.int x13]):=eg
 clear eg
 have hc:Ķ (gN 2) Ľ (đ (č g_ (Ĉ (Ă Č (Ā 1) (Ā 2)) (Ą 0 Ċ)))) [PV.int 0,PV.int 1] [.sh (.int w),.bw [.int x0,.int x1,.int x2,.int x3,.int x4,.int x5,.int x6,.int x7,.int x8,.int x9,.int x10,.int x11,.int x12,.int x13],.no] []=some [.int p0,.int p1]:=by
  simp[Ķ,e0,e1]
 have k:0<=x3 % 5/\x3 % 5<5:=by omega
 obtain⟨kd,hkd⟩:∃kd,x3 % 5=kd:=⟨_,rfl⟩
 rw[hkd] at k
 by_cases k0:kd=0
 ·refine⟨("post",[p0 / 2,p1 / 2,z]),?_,Z1o q0 q1 qz⟩
  simp[fV,jT,List.replicate,eg',Z0s,hc,ez,hkd,k0]
 ·by_cases k1:kd=1
  ·refine⟨("fence",[p0,p1,p0+(x4 % 9-4)+(if x4 % 9-4=0/\x5 % 9-4=0 then 1 else 0),p1+(x5 % 9-4),z]),?_,Z11 q0 q1 (by omega) (by omega) qz _ rfl⟩
   have hq:=Z2W (p0,p1) (p0+x4 % 9-4,p1+x5 % 9-4)
   unfold pt at hq
   dsimp only at hq
   have hi:(if x4 % 9-4=0/\x5 % 9-4=0 then(1:Int) else 0)=if decide ((p0,p1)=(p0+x4 % 9-4,p1+x5 % 9-4))=true then 1 else 0:=by
    simp only[decide_eq_true_eq,Prod.mk.injEq]
    split<;>split<;>omega
   generalize decide ((p0,p1)=(p0+x4 % 9-4,p1+x5 % 9-4))=bb at *
   have a1:p0+(x4 % 9-4)=p0+x4 % 9-4:=by omega
   have a2:p1+(x5 % 9-4)=p1+x5 % 9-4:=by omega
   rw[a1,a2,hi]
   cases bb<;>simp[fV,jT,List.replicate,eg',Z0s,hc,ez,hkd,k1,hq]
  ·by_cases k2:kd=2
   ·obtain⟨p7,e7,q7⟩:=Zr x7 hw1 hw2
    obtain⟨p8,e8,q8⟩:=Zr x8 hw1 hw2
    obtain⟨p9,e9,q9⟩:=Zr x9 hw1 hw2
    obtain⟨p10,e10,q10⟩:=Zr x10 hw1 hw2
    obtain⟨z2,ez2,qz2⟩:=Z08 x11
    refine⟨("cloth",[p0,p1,x6 % 10,p7,p8,z,p9,p10,z2]),?_,Z12 q0 q1 (by omega) q7 q8 qz q9 q10 qz2⟩
    simp[fV,jT,List.replicate,eg',Z0s,hc,ez,hkd,k2,e7,e8,e9,e10,ez2,add_l]
   ·by_cases k3:kd=3
    ·refine⟨("sail",[p0,p1,p0+1+x4 % 8,p1+1+x5 % 8,z]),?_,Z0r (.inl rfl) q0 q1 (by omega) (by omega) qz⟩
     simp[fV,jT,List.replicate,eg',Z0s,hc,ez,hkd,k3]
    ·have k4:kd=4:=by omega
     refine⟨("house",[p0,p1,p0+1+x4 % 8,p1+1+x5 % 8,z]),?_,Z0r (.inr rfl) q0 q1 (by omega) (by omega) qz⟩
     simp[fV,jT,List.replicate,eg',Z0s,hc,ez,hkd,k4]
def Z2m{α:Type}(xs:List α)(a b:Nat)(h1:a<=b)(h2:b<=xs.length):aJ xs (some (a:Int)) (some (b:Int))=(xs.drop a).take (b-a):=by
 unfold aJ
 rw[HT.lR,HT.lR,Nat.min_eq_left h2,Nat.min_eq_left (Nat.le_trans h1 h2)]
theorem Z30:∀(xs:List Int),xs.length=5->∃a b c d e,xs=[a,b,c,d,e]
 | [a,b,c,d,e],_=>⟨a,b,c,d,e,rfl⟩
def Z2K{xs:List Int}(h:xs.length=5):∃o:Option P3,nG [.sh (.lst (xs.map .int))]=.ret (.sh (iz o))/\HN o:=by
 obtain⟨a,b,c,d,e,rfl⟩:=Z30 xs h
 by_cases he:e % 6=4
 ·exact⟨none,by simp[nG,xu,List.replicate,he,iz],trivial⟩
 ·have a1:0<=a % 13/\a % 13<13:=by omega
  have b1:0<=b % 13/\b % 13<13:=by omega
  have c1:0<=c % 5/\c % 5<5:=by omega
  have go:∀s:Int,(s=1\/s=3\/s=100000)->Č (.lst [.int 1,.int 1,.int 3,.int 100000]) (.int (d % 4))=some (.int s)->∃o:Option P3,nG [.sh (.lst ([a,b,c,d,e].map .int))]=.ret (.sh (iz o))/\HN o:=by
   intro s hs hx
   have m1:∀x:Int,ł x s=true:=λx=>mul_r (by omega) (by omega)
   refine⟨some ((a % 13-6)*s,(b % 13-6)*s,(1+c % 5)*s),?_,?_⟩
   ·simp[nG,xu,List.replicate,he,iz,hx,m1,c3]
   ·rcases hs with rfl|rfl|rfl<;>refine⟨⟨?_,?_,?_,?_,?_,?_⟩,?_⟩<;>dsimp only<;>omega
  have hd:d % 4=0\/d % 4=1\/d % 4=2\/d % 4=3:=by omega
  rcases hd with hd|hd|hd|hd
  ·exact go 1 (by omega) (by rw[hd];rfl)
  ·exact go 1 (by omega) (by rw[hd];rfl)
  ·exact go 3 (by omega) (by rw[hd];rfl)
  ·exact go 100000 (by omega) (by rw[hd];rfl)
def Z1T(t:Int)(h:0<=t)(h2:t<12)(N:List Str)(hN:N.length=12):∃L:List Str,ĝ (.lst (aJ (N.map PV.str) (some t) none)) (.lst (aJ (N.map PV.str) none (some t)))=some (.ow (L.map .str))/\L.length=12:=by
 obtain⟨k,rfl⟩:=Int.eq_ofNat_of_zero_le h
 have e1:aJ (N.map PV.str) (some (k:Int)) none=(N.drop k).map PV.str:=by
  unfold aJ
  rw[HT.lR,List.length_map,Nat.min_eq_left (by omega)]
  show List.take (N.length-k) _=_
  rw[<-List.map_drop]
  exact List.take_of_length_le (by simp)
 have e2:aJ (N.map PV.str) none (some (k:Int))=(N.take k).map PV.str:=by
  unfold aJ
  rw[HT.lR,List.length_map,Nat.min_eq_left (by omega)]
  show List.take (k-0) (List.drop 0 _)=_
  simp[List.map_take]
 rw[e1,e2,add_l (by simp;omega)]
 exact⟨N.drop k++N.take k,by simp,by simp;omega⟩
def Z09(lg:Nat)(d:Dy):Prop:=(1<=d.2.1/\d.2.1<=1000000000)/\(1<=d.2.2.length/\d.2.2.length<=lg)/\∀o∈d.2.2,HN o
def sl5{xs:List Int}{n lg j:Nat}(hl:xs.length=5*lg+2)(hj:j<lg):∃ys:List Int,aJ (xs.map PV.int) (some (2+5*(j:Int))) (some (7+5*(j:Int)))=ys.map .int/\ys.length=5:=by
 refine⟨(xs.drop (2+5*j)).take 5,?_,by simp;omega⟩
 have:=Z2m (xs.map PV.int) (2+5*j) (7+5*j) (by omega) (by simp;omega)
 have e1:((2+5*j:Nat):Int)=2+5*(j:Int):=by omega
 have e2:((7+5*j:Nat):Int)=7+5*(j:Int):=by omega
 rw[e1,e2] at this
 rw[this,List.map_take,List.map_drop]
 congr 1
 omega
theorem Z0t{xs:List Int}{lg:Nat}(hl:xs.length=5*lg+2)(Ku:lg<=100):∀(js:List Nat),(∀j∈js,j<lg)->∀(acc:List PV) (s1:P.Slot),acc.length+js.length<=1000->∃os:List (Option P3),Ķ (gN 1) Ľ (đ (č nG (Ĉ (đ (wL (Ā 0) (mP (đ (ġ ĝ (mC (.int 2)) (Ă ħ (mC (.int 5)) (Ā 1))))) (mP (đ (ġ ĝ (mC (.int 7)) (Ă ħ (mC (.int 5)) (Ā 1))))))) Ċ))) (js.map λ(i:Nat)=>PV.int (i:Int)) [.bw (xs.map .int),s1] acc=some (acc++os.map iz)/\os.length=js.length/\∀o∈os,HN o
 | [],_,acc,s1,_=>⟨[],by simp[Ķ],rfl,by simp⟩
 |j::js,hj,acc,s1,ha=>by
  obtain⟨ys,e1,e2⟩:=sl5 (n:=0) hl (hj j List.mem_cons_self)
  obtain⟨o,e3,e4⟩:=Z2K e2
  obtain⟨os,q1,q2,q3⟩:=Z0t hl Ku js (λx hx=>hj x (List.mem_cons_of_mem _ hx)) (acc ++ [iz o]) (.sh (.int j)) (by simp at ha ⊢;omega)
  refine⟨o::os,?_,by simp[q2],?_⟩
  ·have hz:acc.length<16777216:=by simp at ha;omega
   generalize xs.map PV.int=X at *
   generalize ys.map PV.int=Y at *
   rw[List.map_cons,Ķ]
   simp[JG,e1,e3,hz]
   simpa using q1
  ·intro x hx
   rcases List.mem_cons.mp hx with rfl|hx
   ·exact e4
   ·exact q3 x hx
def Z1U(ns:List Int){k lg:Nat}(hk:k<12)(Ku:lg<=100)(hl0:0<lg){L:List Str}(hL:L.length=12)(s2 s5 s8 s9:P.Slot)(D:List Dy)(hD:D.length<=12) :
 ∃(d:Dy) (yD Bj:P.Slot),rZ [.sh (.lst (ns.map .int)),.sh (.int 7),s2,.sh (.int lg),.ow (L.map .str),s5,.ow (D.map Ŋ),.sh (.int k),s8,s9]=.ok .nx [.sh (.lst (ns.map .int)),.sh (.int 7),s2,.sh (.int lg),.ow (L.map .str),s5,.ow ((D ++ [d]).map Ŋ),.sh (.int k),yD,Bj]/\Z09 lg d:=by
 have ha:=Zz ns (7+k)
 have e6:((7+k:Nat):Int)=7+(k:Int):=by omega
 rw[e6] at ha
 obtain⟨v,hv⟩:∃v,ns.getD (7+k) 0=v:=⟨_,rfl⟩
 rw[hv] at ha
 obtain⟨xs,eg,hl,hx⟩:=Z0i (v / 12+5*k) (n:=5*lg+2) (by omega)
 have el:((5*lg+2:Nat):Int)=5*(lg:Int)+2:=by omega
 rw[el] at eg
 have x0:∃a,(xs.map PV.int)[0]?=some (.int a):=⟨xs[0],by simp⟩
 have x1:∃b,(xs.map PV.int)[1]?=some (.int b):=⟨xs[1],by simp⟩
 obtain⟨a,x0⟩:=x0
 obtain⟨b,x1⟩:=x1
 have hm:¬((lg:Int)=0):=by omega
 have hm2:¬lg=0:=by omega
 have hf:b.fmod (lg:Int)=b % lg:=Int.fmod_eq_emod_of_nonneg b (by omega)
 have b1:=Int.emod_nonneg b hm
 have b2:=Int.emod_lt_of_pos b (show 0<(lg:Int) by omega)
 obtain⟨m,hmm⟩:∃m:Nat,1+b % lg=(m:Int):=⟨(1+b % lg).toNat,by omega⟩
 have rr:=ZX (n:=m) (by omega)
 obtain⟨os,q1,q2,q3⟩:=Z0t hl Ku (List.range m) (λj hj=>by have:=List.mem_range.mp hj;omega) [] .no (by simp;omega)
 have hLk:(L.map PV.str)[k]?=some (.str L[k]):=by simp[hL,hk]
 refine⟨(L[k],1+a*1907 % 1000000000,os),.ow (xs.map .int),.sh (.lst (os.map iz)),?_,⟨by dsimp only;omega,by simp at q2;dsimp only;omega,q3⟩⟩
 have hz:D.length<16777216:=by omega
 rw[List.nil_append] at q1
 have hdl:(D.map Ŋ).length=D.length:=by simp
 generalize ns.map PV.int=NS at *
 generalize xs.map PV.int=XS at *
 generalize L[k]=nm at *
 generalize hLL:L.map PV.str=LS at *
 have hmp:(D ++ [((nm,1+a*1907 % 1000000000,os):Dy)]).map Ŋ=D.map Ŋ ++ [.tup [.str nm,.int (1+a*1907 % 1000000000),.lst (os.map iz)]]:=by simp[Ŋ]
 rw[hmp]
 generalize D.map Ŋ=DS at *
 generalize hos:os.map iz=OS at *
 rw[<-hdl] at hz
 simp[rZ,ha,eg,x0,x1,hm2,hf,hmm,rr,q1,hLk,hz,-Zt]
theorem Z0j(ns:List Int){n lg:Nat}(Ku:lg<=100)(hl0:0<lg){L:List Str}(hL:L.length=12){v:Int}:∀(ks:List Nat),(∀k∈ks,k<12)->∀(D:List Dy) (s7 s8 s9:P.Slot),D.length+ks.length<=12->(∀d∈D,Z09 lg d)->∃ρ',forL (gN 7) rZ (ks.map λ(i:Nat)=>PV.int (i:Int)) [.sh (.lst (ns.map .int)),.sh (.int 7),.sh (.int n),.sh (.int lg),.ow (L.map .str),.sh (.int v),.ow (D.map Ŋ),s7,s8,s9]=.ok .nx ρ'/\∃(D':List Dy) (s7 s8 s9:P.Slot),ρ'=[.sh (.lst (ns.map .int)),.sh (.int 7),.sh (.int n),.sh (.int lg),.ow (L.map .str),.sh (.int v),.ow (D'.map Ŋ),s7,s8,s9]/\D'.length=D.length+ks.length/\∀d∈D',Z09 lg d
 | [],_,D,s7,s8,s9,_,h=>⟨_,rfl,D,s7,s8,s9,rfl,rfl,h⟩
 |k::ks,hk,D,s7,s8,s9,hl,h=>by
  obtain⟨d,yD,Bj,e,hd⟩:=Z1U ns (hk k List.mem_cons_self) Ku hl0 hL (.sh (.int n)) (.sh (.int v)) s8 s9 D (by simp at hl;omega)
  obtain⟨ρ',q1,D',a,b,c,q2,q3,q4⟩:=Z0j ns (n:=n) Ku hl0 hL (v:=v) ks (λx hx=>hk x (List.mem_cons_of_mem _ hx)) (D ++ [d]) (.sh (.int k)) yD Bj (by simp at hl ⊢;omega) (by
   intro x hx
   rcases List.mem_append.mp hx with hx|hx
   ·exact h x hx
   ·rw[List.mem_singleton.mp hx];exact hd)
  refine⟨ρ',?_,D',a,b,c,q2,by simp at q3 ⊢;omega,q4⟩
  rw[List.map_cons,forL]
  have hg:gN 7 (PV.int (k:Int)) [.sh (.lst (ns.map .int)),.sh (.int 7),.sh (.int n),.sh (.int lg),.ow (L.map .str),.sh (.int v),.ow (D.map Ŋ),s7,s8,s9]=some [.sh (.lst (ns.map .int)),.sh (.int 7),.sh (.int n),.sh (.int lg),.ow (L.map .str),.sh (.int v),.ow (D.map Ŋ),.sh (.int k),s8,s9]:=rfl
  rw[hg]
  dsimp only
  rw[e]
  exact q1
def Z0L(ns:List Int){n lg:Nat}(hn:n<=12)(Ku:lg<=100)(hl0:0<lg):∃D:List Dy,jl [.sh (.lst (ns.map .int)),.sh (.int 7),.sh (.int n),.sh (.int lg)]=.ret (.ow (D.map Ŋ))/\D.length=n/\∀d∈D,Z09 lg d:=by
 have h6:Ŀ [.sh (.lst (ns.map .int)),.sh (.int 7)]=.ret (.sh (.int (ns.getD 7 0))):=Zz ns 7
 obtain⟨v,hv⟩:∃v,ns.getD 7 0=v:=⟨_,rfl⟩
 rw[hv] at h6
 obtain⟨L,e1,hL⟩:=Z1T (v % 12) (by omega) (by omega) [Str.ofString "ab",Str.ofString "a",Str.ofString "abc",Str.ofString "b",Str.ofString "ba",Str.ofString "z",Str.ofString "zz",Str.ofString "zzz",Str.ofString "abcdefgh",Str.ofString "abcdefgi",Str.ofString "aa",Str.ofString "bb"] rfl
 obtain⟨ρ',q1,D,s7,s8,s9,rfl,q2,q3⟩:=Z0j ns (n:=n) Ku hl0 hL (v:=v % 12) (List.range n) (λk hk=>by have:=List.mem_range.mp hk;omega) [] .no .no .no (by simp;omega) (by simp)
 have rr:=ZX (n:=n) (by omega)
 refine⟨D,?_,by simpa using q2,q3⟩
 generalize ns.map PV.int=NS at *
 simp only[List.map_cons,List.map_nil] at e1
 simp only[List.map_nil] at q1
 generalize D.map Ŋ=DS at *
 generalize L.map PV.str=LS at *
 simp[jl,Fg,List.replicate,JG,h6,e1,rr,q1,-Zt]
def Z1V(c:Int):∃w h:Nat,fU [.sh (.int c),.sh (.int 9)]=.ret (.sh (.tup [.int w,.int h]))/\1<=w/\w<=20/\1<=h/\h<=20/\w*h<=20:=by
 by_cases h0:c / 7 % 16=11
 ·have hd:c % 2=0\/c % 2=1:=by omega
  rcases hd with hd|hd
  ·exact⟨1,20,by simp[fU,fQ,List.replicate,h0,hd],by omega,by omega,by omega,by omega,by omega⟩
  ·exact⟨20,1,by simp[fU,fQ,List.replicate,h0,hd],by omega,by omega,by omega,by omega,by omega⟩
 ·have hd:c % 5=0\/c % 5=1\/c % 5=2\/c % 5=3\/c % 5=4:=by omega
  rcases hd with hd|hd|hd|hd|hd
  ·obtain⟨h,hh⟩:∃h:Nat,1+c / 5 % 4=(h:Int):=⟨(1+c / 5 % 4).toNat,by omega⟩
   exact⟨1,h,by simp[fU,fQ,List.replicate,h0,hd,hh],by omega,by omega,by omega,by omega,by omega⟩
  ·obtain⟨h,hh⟩:∃h:Nat,1+c / 5 % 4=(h:Int):=⟨(1+c / 5 % 4).toNat,by omega⟩
   exact⟨2,h,by simp[fU,fQ,List.replicate,h0,hd,hh],by omega,by omega,by omega,by omega,by omega⟩
  ·obtain⟨h,hh⟩:∃h:Nat,1+c / 5 % 3=(h:Int):=⟨(1+c / 5 % 3).toNat,by omega⟩
   exact⟨3,h,by simp[fU,fQ,List.replicate,h0,hd,hh],by omega,by omega,by omega,by omega,by omega⟩
  ·obtain⟨h,hh⟩:∃h:Nat,1+c / 5 % 2=(h:Int):=⟨(1+c / 5 % 2).toNat,by omega⟩
   exact⟨4,h,by simp[fU,fQ,List.replicate,h0,hd,hh],by omega,by omega,by omega,by omega,by omega⟩
  ·exact⟨5,1,by simp[fU,fQ,List.replicate,h0,hd],by omega,by omega,by omega,by omega,by omega⟩
def oV:Option Int->PV
 |none=>.non
 |some c=>.int c
def Z3(N:Nat)(f:Nat->Option Int):List PV:=(List.range N).map λn=>oV (f n)
def ZE{N n:Nat}{f:Nat->Option Int}(h:n<N):Č (.lst (Z3 N f)) (.int n)=some (oV (f n)):=by
 unfold Z3
 simp[h]
def Z0u(x y w:Int)(h:ł y w=true):kE [.sh (.tup [.int x,.int y]),.sh (.int w)]=.ret (.sh (.int (y*w+x))):=by
 simp[kE,Fp,List.replicate,h]
def Z0M{n w:Nat}(hw:0<w)(hw2:w<=1000):nH [.sh (.int n),.sh (.int w)]=.ret (.sh (.tup [.int (n % w:Nat),.int (n / w:Nat)])):=by
 have h0:¬(w:Int)=0:=by omega
 have e1:Int.fmod (n:Int) (w:Int)=((n % w:Nat):Int):=by
  rw[Int.fmod_eq_emod_of_nonneg _ (by omega)];simp
 have e2:Int.fdiv (n:Int) (w:Int)=((n / w:Nat):Int):=by
  rw[Int.fdiv_eq_ediv_of_nonneg _ (by omega)];simp
 have e3:gU (n:Int) (w:Int)=true:=zu (by omega) (Nat.le_trans (lY (n:=200) (by omega) (by omega)) (by decide))
 have h1:¬w=0:=by omega
 simp[nH,FZ,List.replicate,h0,h1,e1,e2,e3]
def Z1q{w h:Nat}{T:List Th}(D:List Dy){x y:Int}(hx:¬((0<=x/\x<w)/\(0<=y/\y<h))):dY [.sh (Z0 w h T D),.sh (.tup [.int x,.int y])]=.ret (.sh (.bl false)):=by
 have yw:=Ks w h T D
 have yh:=Xf w h T D
 generalize Z0 w h T D=Yv at *
 by_cases a1:0<=x
 ·by_cases a2:x<(w:Int)
  ·by_cases a3:0<=y
   ·have a4:¬y<(h:Int):=λa4=>hx ⟨⟨a1,a2⟩,a3,a4⟩
    simp[dY,jO,List.replicate,yw,yh,a1,a2,a3,a4]
   ·simp[dY,jO,List.replicate,yw,yh,a1,a2,a3]
  ·simp[dY,jO,List.replicate,yw,yh,a1,a2]
 ·simp[dY,jO,List.replicate,yw,yh,a1]
def Z0a{w h:Nat}{T:List Th}(D:List Dy){x y:Int}(hx:(0<=x/\x<w)/\(0<=y/\y<h)):dY [.sh (Z0 w h T D),.sh (.tup [.int x,.int y])]=.ret (.sh (.bl true)):=by
 have yw:=Ks w h T D
 have yh:=Xf w h T D
 generalize Z0 w h T D=Yv at *
 obtain⟨⟨a1,a2⟩,a3,a4⟩:=hx
 simp[dY,jO,List.replicate,yw,yh,a1,a2,a3,a4]
def Z13{w h:Nat}{T:List Th}{D:List Dy}{i:Nat}(hi:i<D.length):zF [.sh (Z0 w h T D),.sh (.int i)]=.ret (.sh (.lst (D[i].2.2.map iz))):=by
 have yd:=y_d w h T D
 have hx:(D.map Ŋ)[i]?=some (Ŋ D[i]):=by simp[hi]
 generalize Z0 w h T D=Yv at *
 generalize D.map Ŋ=DV at *
 simp[zF,Fq,List.replicate,yd,hx]
 simp[Ŋ]
def Z2n{w h:Nat}{T:List Th}{D:List Dy}(d:Int):ql [.sh (Z0 w h T D),.sh (.int d)]=.ret (.sh (.bl (decide (0<=d/\d<D.length)))):=by
 have yd:=y_d w h T D
 have hl:(D.map Ŋ).length=D.length:=by simp
 rw[<-hl]
 generalize Z0 w h T D=Yv at *
 generalize D.map Ŋ=DV at *
 by_cases a1:0<=d
 ·by_cases a2:d<(DV.length:Int)
  ·simp[ql,su,List.replicate,yd,a1,a2]
  ·simp[ql,su,List.replicate,yd,a1,a2]
 ·simp[ql,su,List.replicate,yd,a1]
def Zc:List (Int×Int):=[(-1,0),(1,0),(0,-1),(0,1),(0,0)]
def inB(w h:Nat)(p:Int×Int):Bool:=decide ((0<=p.1/\p.1<w)/\(0<=p.2/\p.2<h))
def iQ(w h n:Nat):List Nat:=((Zc.map λd=>(((n % w:Nat):Int)+d.1,((n / w:Nat):Int)+d.2)).filter (inB w h)).map λp:Int×Int=>(p.2*(w:Int)+p.1).toNat
def ZF{w h n m:Nat}(hm:m∈iQ w h n):m<w*h:=by
 unfold iQ at hm
 obtain⟨p,hp,rfl⟩:=List.mem_map.mp hm
 obtain⟨_,hp⟩:=List.mem_filter.mp hp
 have hp:=of_decide_eq_true hp
 obtain⟨⟨h1,h2⟩,h3,h4⟩:=hp
 have h5:p.2*(w:Int)+p.1<h*w:=by
  have:(p.2+1)*(w:Int)<=h*w:=Int.mul_le_mul_of_nonneg_right (by omega) (by omega)
  rw[Int.add_mul] at this
  omega
 have h6:0<=p.2*(w:Int):=Int.mul_nonneg h3 (by omega)
 have h7:((w*h:Nat):Int)=(h:Int)*w:=by rw[Int.natCast_mul,Int.mul_comm]
 omega
def Z1r{w h:Nat}{T:List Th}(D:List Dy)(x y:Int):dY [.sh (Z0 w h T D),.sh (.tup [.int x,.int y])]=.ret (.sh (.bl (inB w h (x,y)))):=by
 by_cases hx:(0<=x/\x<w)/\(0<=y/\y<h)
 ·rw[Z0a D hx,show inB w h (x,y)=true from decide_eq_true hx]
 ·rw[Z1q D hx,show inB w h (x,y)=false from decide_eq_false hx]
def aro(w n:Nat):List (Int×Int):=Zc.map λd=>(((n % w:Nat):Int)+d.1,((n / w:Nat):Int)+d.2)
def Z2L(x y:Int):Ķ (gT 2 (ĩ (gN 1) (ĩ (gN 2) aD))) Ľ (ŉ (ą (đ (ġ ĝ (Ă Č (Ā 0) (mC (.int 0))) (Ā 1))) (ą (đ (ġ ĝ (Ă Č (Ā 0) (mC (.int 1))) (Ā 2))) ė))) [.tup [.int (-1),.int 0],.tup [.int 1,.int 0],.tup [.int 0,.int (-1)],.tup [.int 0,.int 1],.tup [.int 0,.int 0]] [.sh (.tup [.int x,.int y]),.no,.no] []=some ((Zc.map λd=>(x+d.1,y+d.2)).map λp:Int×Int=>PV.tup [.int p.1,.int p.2]):=by
 simp[Ķ,Zc]
def Z1s{a b:Int}(h1: -(2 ^ 60)<a)(h2:a<2 ^ 60)(h3: -(2 ^ 60)<b)(h4:b<2 ^ 60):ł a b=true:=ſ (by omega) (by omega)
def Z1t{w h:Nat}(hw:0<w)(hw2:w<=1000)(hh:h<=1000)(T:List Th)(D:List Dy){n:Nat}(hn:n<w*h):Ke [.sh (Z0 w h T D),.sh (.int n)]=.ret (.ow ((iQ w h n).map λ(m:Nat)=>PV.int m)):=by
 have yw:=Ks w h T D
 have e1:=Z0M (n:=n) hw hw2
 have e2:=Z2L ((n % w:Nat):Int) ((n / w:Nat):Int)
 have hnw:n / w<h:=(ZI hw).mpr hn
 have e3:=aV (g:=gN 1) (mt:=bF (đ (č dY (Ą 0 (Ą 1 Ċ))))) (me:=đ (č kE (Ą 1 (Ĉ (bI (Ō ["Yard"] "width") (Ā 0)) Ċ)))) (λp:Int×Int=>PV.tup [.int p.1,.int p.2]) (λp:Int×Int=>PV.int (p.2*(w:Int)+p.1)) (inB w h) (λρ=>∃a,ρ=[.sh (Z0 w h T D),a]) (aro w n) [.sh (Z0 w h T D),.no] [] ⟨_,rfl⟩ (by simp[aro,Zc]) (by
  rintro p _ ρ ⟨a,rfl⟩
  have hs:=Z1r (w:=w) (h:=h) (T:=T) D p.1 p.2
  refine⟨[.sh (Z0 w h T D),.sh (.tup [.int p.1,.int p.2])],[.sh (Z0 w h T D),.sh (.tup [.int p.1,.int p.2])],by simp,by simp[hs],λ_=>⟨_,rfl⟩,λhq=>⟨[.sh (Z0 w h T D),.sh (.tup [.int p.1,.int p.2])],?_,_,rfl⟩⟩
  obtain⟨⟨h1,h2⟩,h3,h4⟩:=of_decide_eq_true hq
  have en:=Z0u p.1 p.2 w (Z1s (by omega) (by omega) (by omega) (by omega))
  simp[yw,en])
 have e4:((aro w n).filter (inB w h)).map (λp:Int×Int=>PV.int (p.2*(w:Int)+p.1))=(iQ w h n).map λ(m:Nat)=>PV.int m:=by
  unfold iQ
  rw[List.map_map]
  refine List.map_congr_left λp hp=>?_
  obtain⟨_,hp⟩:=List.mem_filter.mp hp
  obtain⟨⟨h1,h2⟩,h3,h4⟩:=of_decide_eq_true hp
  have h6:0<=p.2*(w:Int):=Int.mul_nonneg h3 (by omega)
  show PV.int _=PV.int _
  congr 1
  show p.2*(w:Int)+p.1=(((p.2*(w:Int)+p.1).toNat:Nat):Int)
  omega
 rw[List.nil_append,e4] at e3
 have e5:(aro w n).map (λp:Int×Int=>PV.tup [.int p.1,.int p.2])=(Zc.map λd=>(((n % w:Nat):Int)+d.1,((n / w:Nat):Int)+d.2)).map λp:Int×Int=>PV.tup [.int p.1,.int p.2]:=rfl
 rw[<-e5] at e2
 generalize (iQ w h n).map (λ(m:Nat)=>PV.int m)=B at *
 generalize (aro w n).map (λp:Int×Int=>PV.tup [.int p.1,.int p.2])=A at *
 generalize ((n % w:Nat):Int)=x at *
 generalize ((n / w:Nat):Int)=y at *
 generalize Z0 w h T D=Yv at *
 simp[Ke,Nu,List.replicate,fK,Ų,yw,e1,e2,e3]
def Hy(k:Nat->Int):Nat->List Nat->Nat
 |m,[]=>m
 |m,q::qs=>if k q<k m then Hy k q qs else Hy k m qs
def Z14(k:Nat->Int):List Nat->Option Nat
 | []=>none
 |m::ms=>some (Hy k m ms)
def oN:Option Nat->PV
 |none=>.non
 |some m=>.int (m:Nat)
theorem Z02(k:Nat->Int):∀(ms:List Nat) (m:Nat),cg (.int m) (k m) (ms.map λ(m:Nat)=>PV.int m) (ms.map k)=.int (Hy k m ms)
 | [],m=>rfl
 |q::qs,m=>by
  rw[List.map_cons,List.map_cons,cg,Hy]
  split
  ·exact Z02 k qs q
  ·exact Z02 k qs m
def Z2o(k:Nat->Int)(l:List Nat):fP (l.map λ(m:Nat)=>PV.int m) (l.map k)=some (oN (Z14 k l)):=by
 cases l with
 |nil=>rfl
 |cons m ms=>
  show some (cg _ _ _ _)=_
  rw[Z02]
  rfl
theorem ZV(k:Nat->Int):∀(ms:List Nat) (m:Nat),Hy k m ms∈m::ms
 | [],m=>by simp[Hy]
 |q::qs,m=>by
  rw[Hy]
  split
  ·exact List.mem_cons_of_mem _ (ZV k qs q)
  ·have:=ZV k qs m
   rcases List.mem_cons.mp this with e|e
   ·rw[e];exact List.mem_cons_self
   ·exact List.mem_cons_of_mem _ (List.mem_cons_of_mem _ e)
def Z0v{k:Nat->Int}{l:List Nat}{m:Nat}(h:Z14 k l=some m):m∈l:=by
 cases l with
 |nil=>cases h
 |cons a as=>cases h;exact ZV k as a
def ZJ(f:Nat->Option Int)(l:List Nat):List Nat:=l.filter λm=>(f m).isSome
def Zw(w h:Nat)(f:Nat->Option Int)(n:Nat):Option Nat:=Z14 (λm=>(f m).getD 0) (ZJ f (iQ w h n))
theorem Z1u{N:Nat}{f:Nat->Option Int}{s2:P.Slot}(h2:Sl s2 (Z3 N f))(z0 z1 z3:P.Slot):∀l:List Nat,(∀m∈l,m<N/\(f m).isSome=true)->uR [2] (Ă Č (Ā 0) (Ā 1)) [z0,z1,s2,z3] (l.map λ(m:Nat)=>PV.int m)=some (l.map λm=>(f m).getD 0)
 | [],_=>rfl
 |m::l,h=>by
  obtain⟨h3,h4⟩:=h m List.mem_cons_self
  have ih:=Z1u h2 z0 z1 z3 l λq hq=>h q (List.mem_cons_of_mem _ hq)
  have rg:=ZE (f:=f) h3
  obtain⟨c,hc⟩:=Option.isSome_iff_exists.mp h4
  rw[hc] at rg
  rw[List.map_cons,List.map_cons,uR]
  have e3:(Ă Č (Ā 0) (Ā 1)) (lamP [2] [z0,z1,s2,z3] (.int m))=.ok (.int c) [s2,.sh (.int m)]:=by
   generalize Z3 N f=R at *
   rcases h2 with rfl|rfl<;>simp[lamP,Ų,rg,oV]
  rw[e3]
  dsimp only
  rw[ih,hc]
  rfl
def Z0N{w h:Nat}(hw:0<w)(hw2:w<=1000)(hh:h<=1000)(T:List Th)(D:List Dy){n:Nat}(hn:n<w*h){f:Nat->Option Int}{s2:P.Slot}(h2:Sl s2 (Z3 (w*h) f)):nJ [.sh (Z0 w h T D),.sh (.int n),s2]=.ret (.sh (oN (Zw w h f n))):=by
 have e1:=Z1t hw hw2 hh T D hn
 have e2:=aV (g:=gN 1) (mt:=aq (Ă jg (Ă Č (Ā 0) (Ā 1)) (mC .non))) (me:=ğ 1) (λ(m:Nat)=>PV.int m) (λ(m:Nat)=>PV.int m) (λm=>(f m).isSome) (λρ=>∃a,ρ=[Ų s2,a]) (iQ w h n) [Ų s2,.no] [] ⟨_,rfl⟩ (by simp[iQ];have:=List.length_filter_le (inB w h) (Zc.map λd=>(((n % w:Nat):Int)+d.1,((n / w:Nat):Int)+d.2));simp[Zc] at this;simp[Zc];omega) (by
  rintro m hm ρ ⟨a,rfl⟩
  have rg:=ZE (f:=f) (ZF hm)
  generalize Z3 (w*h) f=R at *
  refine⟨[Ų s2,.sh (.int m)],[Ų s2,.sh (.int m)],by rcases h2 with rfl|rfl<;>simp[Ų],?_,λ_=>⟨_,rfl⟩,λ_=>⟨[Ų s2,.sh (.int m)],by rcases h2 with rfl|rfl<;>simp[Ų],_,rfl⟩⟩
  cases hc:f m with
  |none=>rw[hc] at rg;rcases h2 with rfl|rfl<;>simp[Ų,rg,oV,vL]
  |some c=>rw[hc] at rg;rcases h2 with rfl|rfl<;>simp[Ų,rg,oV,vL])
 rw[List.nil_append] at e2
 have e3:=Z1u h2 (.sh (Z0 w h T D)) (.sh (.int n)) (.ow ((ZJ f (iQ w h n)).map λ(m:Nat)=>PV.int m)) (ZJ f (iQ w h n)) (λm hm=>by
  obtain⟨h3,h4⟩:=List.mem_filter.mp hm
  exact⟨ZF h3,h4⟩)
 have e4:=Z2o (λm=>(f m).getD 0) (ZJ f (iQ w h n))
 have hl:ZJ f (iQ w h n)=(iQ w h n).filter λm=>(f m).isSome:=rfl
 rw[<-hl] at e2
 unfold Zw
 generalize ZJ f (iQ w h n)=L at *
 generalize L.map (λ(m:Nat)=>PV.int m)=LV at *
 generalize L.map (λm=>(f m).getD 0)=LK at *
 generalize (iQ w h n).map (λ(m:Nat)=>PV.int m)=B at *
 generalize Z14 (λm=>(f m).getD 0) L=r at *
 generalize Z0 w h T D=Yv at *
 generalize Z3 (w*h) f=R at *
 rcases h2 with rfl|rfl
 ·simp[Ų] at e2
  simp[nJ,sG,List.replicate,fK,Ų,e1,e2,e3,e4]
 ·simp[Ų] at e2
  simp[nJ,sG,List.replicate,fK,Ų,e1,e2,e3,e4]
def ZA(w h goal:Nat)(f:Nat->Option Int)(n:Nat):Option Int:=if n=goal then some 0 else(Zw w h f n).bind f
def Z2M{w h:Nat}(hw:0<w)(hw2:w<=1000)(hh:h<=1000)(T:List Th)(D:List Dy){n goal:Nat}(hn:n<w*h){f:Nat->Option Int}{s3:P.Slot}(h3:Sl s3 (Z3 (w*h) f)):qy [.sh (Z0 w h T D),.sh (.int n),.sh (.int goal),s3]=.ret (.sh (oV (ZA w h goal f n))):=by
 by_cases hg:n=goal
 ·subst hg
  have e:ZA w h n f n=some 0:=by simp[ZA]
  rw[e]
  generalize Z0 w h T D=Yv at *
  simp[qy,sI,List.replicate,oV]
 ·have hg':¬(n:Int)=(goal:Int):=by omega
  have e1:=Z0N hw hw2 hh T D hn h3
  have e:ZA w h goal f n=(Zw w h f n).bind f:=by simp[ZA,hg]
  rw[e]
  have hle:=h3.lend
  cases hb:Zw w h f n with
  |none=>
   rw[hb] at e1
   generalize Z0 w h T D=Yv at *
   generalize Z3 (w*h) f=R at *
   rcases h3 with rfl|rfl<;>simp[qy,sI,List.replicate,hg',e1,oN,oV,vL]
  |some m=>
   rw[hb] at e1
   have hm:m<w*h:=ZF (List.mem_filter.mp (Z0v hb)).1
   have rg:=ZE (f:=f) hm
   show _=FR.ret (.sh (oV (f m)))
   generalize oV (f m)=V at *
   generalize Z0 w h T D=Yv at *
   generalize Z3 (w*h) f=R at *
   rcases h3 with rfl|rfl<;>simp[qy,sI,List.replicate,hg',e1,oN,oV,vL,rg]
def Zp(B:Int)(n:Nat):Int:=1-B / 2 ^ n % 2
def Zf(w h goal:Nat)(B:Int)(f:Nat->Option Int)(n:Nat):Option Int:=(ZA w h goal f n).map λb=>Zp B n+b
def Z0O(c k:Nat):uH (c:Int) (k:Int)=true:=by simp[uH]
theorem Z0k{w h:Nat}(hw:0<w)(hw2:w<=60)(hh:h<=1000)(T:List Th)(D:List Dy)(s1:P.Slot)(goal B:Nat){f:Nat->Option Int}{s3:P.Slot}(h3:Sl s3 (Z3 (w*h) f)):∀(ks:List Nat) (acc:List PV) (a6 a7 a8:P.Slot),(∀k∈ks,k<w*h)->acc.length+ks.length<=1000000->
 ∃a6' a7' a8':P.Slot,forL (gN 6) nM (ks.map λ(k:Nat)=>PV.int k) [.sh (Z0 w h T D),s1,.sh (.int goal),s3,.sh (.int B),.ow acc,a6,a7,a8]=.ok .nx [.sh (Z0 w h T D),s1,.sh (.int goal),s3,.sh (.int B),.ow (acc++ks.map λk=>oV (Zf w h goal B f k)),a6',a7',a8']
 | [],acc,a6,a7,a8,_,_=>⟨a6,a7,a8,by simp[forL]⟩
 |k::ks,acc,a6,a7,a8,hk,hl=>by
  have hk':=hk k List.mem_cons_self
  have eb:=Z2M hw (by omega) hh T D (goal:=goal) hk' h3
  have hl0:acc.length<16777216:=by simp at hl;omega
  have hb:wI (.int ((B:Int) / 2 ^ k)) (.int 1)=some (.int ((B:Int) / 2 ^ k % 2)):=by
   show some (PV.int (Builtin.bitAnd _ _))=_
   rw[Z2U]
  have hle:=h3.lend
  have sk:=Z0O B k
  have e:∃a7' a8':P.Slot,nM [.sh (Z0 w h T D),s1,.sh (.int goal),s3,.sh (.int B),.ow acc,.sh (.int k),a7,a8]=.ok .nx [.sh (Z0 w h T D),s1,.sh (.int goal),s3,.sh (.int B),.ow (acc ++ [oV (Zf w h goal B f k)]),.sh (.int k),a7',a8']:=by
   unfold Zf Zp
   cases hv:ZA w h goal f k with
   |none=>
    rw[hv] at eb
    generalize Z0 w h T D=Yv at *
    generalize Z3 (w*h) f=R at *
    refine⟨.sh .non,.sh (.int (1-(B:Int) / 2 ^ k % 2)),?_⟩
    rcases h3 with rfl|rfl<;>simp[nM,eb,oV,vL,hl0,sk,hb]
   |some c=>
    rw[hv] at eb
    generalize Z0 w h T D=Yv at *
    generalize Z3 (w*h) f=R at *
    refine⟨.sh (.int c),.sh (.int (1-(B:Int) / 2 ^ k % 2)),?_⟩
    rcases h3 with rfl|rfl<;>simp[nM,eb,oV,vL,hl0,sk,hb]
  obtain⟨a7',a8',e⟩:=e
  obtain⟨b6,b7,b8,ih⟩:=Z0k hw hw2 hh T D s1 goal B h3 ks (acc ++ [oV (Zf w h goal B f k)]) (.sh (.int k)) a7' a8' (λq hq=>hk q (List.mem_cons_of_mem _ hq)) (by simp at hl ⊢;omega)
  refine⟨b6,b7,b8,?_⟩
  rw[List.map_cons,forL]
  have hg:gN 6 (PV.int (k:Int)) [.sh (Z0 w h T D),s1,.sh (.int goal),s3,.sh (.int B),.ow acc,a6,a7,a8]=some [.sh (Z0 w h T D),s1,.sh (.int goal),s3,.sh (.int B),.ow acc,.sh (.int k),a7,a8]:=rfl
  rw[hg]
  dsimp only
  rw[e]
  show forL _ _ _ _=_
  rw[ih]
  simp
def Z0P{w h:Nat}(hw:0<w)(hw2:w<=60)(hh:h<=1000)(tZ:w*h<=1000){T:List Th}(hT:T.length<=1000)(D:List Dy)(hg:∀t∈T,Z8 t.1 t.2=true){o:Option P3}(ho:HN o)(goal:Nat){f:Nat->Option Int}{s3:P.Slot}(h3:Sl s3 (Z3 (w*h) f)) :
 zM [.sh (Z0 w h T D),.sh (iz o),.sh (.int goal),s3]=.ret (.ow (Z3 (w*h) (Zf w h goal (vJ w h T o) f))):=by
 have ed:=Z0K hw hw2 hh tZ hT D hg ho
 have yw:=Ks w h T D
 have yh:=Xf w h T D
 have mo:ł (w:Int) (h:Int)=true:=ſ (by omega) (by omega)
 have rr:=ZX (n:=w*h) tZ
 have em:((w*h:Nat):Int)=(w:Int)*(h:Int):=Int.natCast_mul w h
 rw[em] at rr
 obtain⟨b6,b7,b8,el⟩:=Z0k hw hw2 hh T D (.sh (iz o)) goal (vJ w h T o) h3 (List.range (w*h)) [] .no .no .no (λk hk=>List.mem_range.mp hk) (by simp;omega)
 rw[List.nil_append] at el
 generalize vJ w h T o=B at *
 have er:(List.range (w*h)).map (λk=>oV (Zf w h goal B f k))=Z3 (w*h) (Zf w h goal B f):=rfl
 rw[er] at el
 generalize Z3 (w*h) (Zf w h goal B f)=R2 at *
 generalize (List.range (w*h)).map (λ(k:Nat)=>PV.int k)=K at *
 generalize Z0 w h T D=Yv at *
 generalize Z3 (w*h) f=R at *
 generalize iz o=ov at *
 rcases h3 with rfl|rfl<;>simp[zM,Ga,List.replicate,ed,yw,yh,mo,rr,el]
def Ze(rs:List (Nat->Option Int)):Nat->Option Int:=rs.getLast?.getD λ_=>none
def jX:List (Nat->Option Int)->Nat->Option Int
 | []=>λ_=>none
 |f::_=>f
def Z2(w h goal:Nat):List Nat->List (Nat->Option Int)
 | []=>[]
 |B::Bs=>Zf w h goal B (jX (Z2 w h goal Bs))::Z2 w h goal Bs
def Xb(w h goal:Nat):List (Nat->Option Int)->List Nat->List (Nat->Option Int)
 |rs,[]=>rs
 |rs,B::l=>Xb w h goal (rs ++ [Zf w h goal B (Ze rs)]) l
theorem Z0w(w h goal:Nat)(B:Nat):∀(l:List Nat) (rs:List (Nat->Option Int)),Xb w h goal rs (l ++ [B])=Xb w h goal rs l ++ [Zf w h goal B (Ze (Xb w h goal rs l))]
 | [],rs=>rfl
 |C::l,rs=>by
  show Xb w h goal _ (l ++ [B])=_
  rw[Z0w w h goal B l]
  rfl
def Z1W(rs:List (Nat->Option Int)):Ze rs.reverse=jX rs:=by
 cases rs with
 |nil=>rfl
 |cons f r=>simp[Ze,jX]
theorem Z0x(w h goal:Nat):∀Bs:List Nat,Xb w h goal [] Bs.reverse=(Z2 w h goal Bs).reverse
 | []=>rfl
 |B::Bs=>by
  rw[List.reverse_cons,Z0w,Z0x w h goal Bs,Z1W,Z2,List.reverse_cons]
theorem Z0y(w h goal:Nat):∀Bs:List Nat,(Z2 w h goal Bs).length=Bs.length
 | []=>rfl
 |B::Bs=>congrArg (·+ 1) (Z0y w h goal Bs)
def rV(N:Nat)(f:Nat->Option Int):PV:=.lst (Z3 N f)
theorem Z0z{w h:Nat}(hw:0<w)(hw2:w<=60)(hh:h<=1000)(tZ:w*h<=1000){T:List Th}(hT:T.length<=1000)(D:List Dy)(hg:∀t∈T,Z8 t.1 t.2=true)(goal:Nat)(s1:P.Slot):∀(l:List (Option P3)) (rs:List (Nat->Option Int)) (s4 s5:P.Slot),(s4=.ow (Z3 (w*h) (Ze rs))\/s4=.sh (.lst (Z3 (w*h) (Ze rs))))->(∀o∈l,HN o)->rs.length+l.length<=1000->
 ∃vM HB:P.Slot,forL (gN 5) nO (l.map iz) [.sh (Z0 w h T D),s1,.sh (.int goal),.ow (rs.map (rV (w*h))),s4,s5]=.ok .nx [.sh (Z0 w h T D),s1,.sh (.int goal),.ow ((Xb w h goal rs (l.map (vJ w h T))).map (rV (w*h))),vM,HB]
 | [],rs,s4,s5,_,_,_=>⟨s4,s5,rfl⟩
 |o::l,rs,s4,s5,h4,ho,hl=>by
  have hl0:rs.length<16777216:=by simp at hl;omega
  have e:∃vM:P.Slot,vM=.sh (.lst (Z3 (w*h) (Zf w h goal (vJ w h T o) (Ze rs))))/\nO [.sh (Z0 w h T D),s1,.sh (.int goal),.ow (rs.map (rV (w*h))),s4,.sh (iz o)]=.ok .nx [.sh (Z0 w h T D),s1,.sh (.int goal),.ow ((rs ++ [Zf w h goal (vJ w h T o) (Ze rs)]).map (rV (w*h))),vM,.sh (iz o)]:=by
   refine⟨_,rfl,?_⟩
   have e1:=Z0P hw hw2 hh tZ hT D hg (ho o List.mem_cons_self) goal (f:=Ze rs) (s3:=.bw (Z3 (w*h) (Ze rs))) (.inr rfl)
   have e2:=Z0P hw hw2 hh tZ hT D hg (ho o List.mem_cons_self) goal (f:=Ze rs) (s3:=.sh (.lst (Z3 (w*h) (Ze rs)))) (.inl rfl)
   rw[List.map_append,List.map_cons,List.map_nil]
   have hl1:(rs.map (rV (w*h))).length<16777216:=by rw[List.length_map];exact hl0
   unfold rV at *
   generalize Z3 (w*h) (Zf w h goal (vJ w h T o) (Ze rs))=R2 at *
   generalize Z3 (w*h) (Ze rs)=R at *
   generalize Z0 w h T D=Yv at *
   generalize iz o=ov at *
   generalize rs.map (λf=>PV.lst (Z3 (w*h) f))=RS at *
   rcases h4 with rfl|rfl
   ·simp[nO,e1,hl1]
   ·simp[nO,e2,hl1]
  obtain⟨vM,hs4,e⟩:=e
  obtain⟨b4,b5,ih⟩:=Z0z hw hw2 hh tZ hT D hg goal s1 l (rs ++ [Zf w h goal (vJ w h T o) (Ze rs)]) vM (.sh (iz o)) (.inr (by rw[hs4];simp[Ze])) (λq hq=>ho q (List.mem_cons_of_mem _ hq)) (by simp at hl ⊢;omega)
  refine⟨b4,b5,?_⟩
  rw[List.map_cons,forL]
  have hgn:gN 5 (iz o) [.sh (Z0 w h T D),s1,.sh (.int goal),.ow (rs.map (rV (w*h))),s4,s5]=some [.sh (Z0 w h T D),s1,.sh (.int goal),.ow (rs.map (rV (w*h))),s4,.sh (iz o)]:=rfl
  rw[hgn]
  dsimp only
  rw[e]
  exact ih
def Z1X{N:Nat}(hN:N<=1000):Ķ (gN 0) Ľ (mC .non) ((List.range N).map λ(k:Nat)=>PV.int k) [.no] []=some ((List.range N).map λ_=>PV.non):=by
 have c1:=Ņ (g:=gN 0) (mt:=Ľ) (me:=mC .non) (λ(k:Nat)=>PV.int k) (λ_=>PV.non) (λρ=>∃a,ρ=[a]) (List.range N) [.no] [] ⟨_,rfl⟩ (by simp;omega) (by
  rintro k _ ρ ⟨a,rfl⟩
  exact⟨[.sh (.int k)],[.sh (.int k)],[.sh (.int k)],by simp,by simp,by simp,_,rfl⟩)
 rw[List.nil_append] at c1
 exact c1
def Z1Y{w h:Nat}(hw:0<w)(hw2:w<=60)(hh:h<=1000)(tZ:w*h<=1000){T:List Th}(hT:T.length<=1000){D:List Dy}(hg:∀t∈T,Z8 t.1 t.2=true)(goal:Nat){i:Nat}(hi:i<D.length)(ho:∀o∈D[i].2.2,HN o)(hl:D[i].2.2.length<=1000) :
 zN [.sh (Z0 w h T D),.sh (.int i),.sh (.int goal)]=.ret (.ow ((Z2 w h goal (D[i].2.2.map (vJ w h T))).map (rV (w*h)))):=by
 have et:=Z13 (w:=w) (h:=h) (T:=T) hi
 have yw:=Ks w h T D
 have yh:=Xf w h T D
 have mo:ł (w:Int) (h:Int)=true:=ſ (by omega) (by omega)
 have rr:=ZX (n:=w*h) tZ
 have em:((w*h:Nat):Int)=(w:Int)*(h:Int):=Int.natCast_mul w h
 rw[em] at rr
 have en:=Z1X tZ
 have e0:(List.range (w*h)).map (λ_=>PV.non)=Z3 (w*h) (Ze []):=by simp[Z3,Ze,oV]
 rw[e0] at en
 generalize D[i].2.2=os at *
 obtain⟨b4,b5,el⟩:=Z0z hw hw2 hh tZ hT D hg goal (.sh (.int i)) os.reverse [] (.ow (Z3 (w*h) (Ze []))) .no (.inl rfl) (λo h=>ho o (List.mem_reverse.mp h)) (by simp;omega)
 rw[List.map_reverse,List.map_reverse,Z0x,List.map_reverse,List.map_nil] at el
 generalize hP:(Z2 w h goal (os.map (vJ w h T))).map (rV (w*h))=P at *
 generalize os.map iz=TV at *
 generalize Z3 (w*h) (Ze [])=R0 at *
 generalize (List.range (w*h)).map (λ(k:Nat)=>PV.int k)=K at *
 generalize Z0 w h T D=Yv at *
 simp[zN,Gb,List.replicate,fK,Ų,et,yw,yh,mo,rr,en,el]
def Z26(pre:List Nat)(l:Nat):Č (.lst ((pre ++ [l]).map λ(m:Nat)=>PV.int m)) (.int (-1))=some (.int l):=by
 show lA _ _=_
 unfold lA Ce
 simp
 rw[if_pos (by omega)]
 have e:(-1+((pre.length:Int)+1)).toNat=pre.length:=by omega
 simp[e]
def dI(w a b:Nat):Nat:=(((a % w:Nat):Int)-((b % w:Nat):Int)).natAbs+(((a / w:Nat):Int)-((b / w:Nat):Int)).natAbs
def crd{w:Nat}(hw:0<w){x y:Int}(hx:0<=x/\x<w)(hy:0<=y):(((y*(w:Int)+x).toNat % w:Nat):Int)=x/\(((y*(w:Int)+x).toNat / w:Nat):Int)=y:=by
 obtain⟨a,rfl⟩:=Int.eq_ofNat_of_zero_le hx.1
 obtain⟨b,rfl⟩:=Int.eq_ofNat_of_zero_le hy
 have e:((b:Int)*(w:Int)+(a:Int)).toNat=b*w+a:=by
  have:((b:Int)*(w:Int)+(a:Int))=((b*w+a:Nat):Int):=by simp
  rw[this];rfl
 have ha:a<w:=by omega
 rw[e]
 refine⟨?_,?_⟩
 ·rw[Nat.mul_comm,Nat.mul_add_mod,Nat.mod_eq_of_lt ha]
 ·rw[Nat.mul_comm,Nat.mul_add_div hw,Nat.div_eq_of_lt ha];simp
def Z0e{w h:Nat}(hw:0<w){n m:Nat}:m∈iQ w h n↔∃d∈Zc,inB w h (((n % w:Nat):Int)+d.1,((n / w:Nat):Int)+d.2)=true/\((m % w:Nat):Int)=((n % w:Nat):Int)+d.1/\((m / w:Nat):Int)=((n / w:Nat):Int)+d.2:=by
 unfold iQ
 constructor
 ·intro hm
  obtain⟨p,hp,rfl⟩:=List.mem_map.mp hm
  obtain⟨hp1,hp2⟩:=List.mem_filter.mp hp
  obtain⟨d,hd,rfl⟩:=List.mem_map.mp hp1
  have hb:=of_decide_eq_true hp2
  obtain⟨c1,c2⟩:=crd hw hb.1 hb.2.1
  exact⟨d,hd,hp2,c1,c2⟩
 ·rintro ⟨d,hd,hi,h1,h2⟩
  refine List.mem_map.mpr ⟨_,List.mem_filter.mpr ⟨List.mem_map.mpr ⟨d,hd,rfl⟩,hi⟩,?_⟩
  dsimp only
  rw[<-h1,<-h2]
  have:=Nat.div_add_mod m w
  have e:((m / w:Nat):Int)*(w:Int)+((m % w:Nat):Int)=(m:Int):=by
   have:((w*(m / w)+m % w:Nat):Int)=(m:Int):=by rw[this]
   rw[Int.natCast_add,Int.natCast_mul,Int.mul_comm] at this
   exact this
  rw[e]
  rfl
def Z2p{w h n m g:Nat}(hw:0<w)(hm:m∈iQ w h n):dI w n g<=dI w m g+1:=by
 obtain⟨d,hd,_,h1,h2⟩:=(Z0e hw).mp hm
 unfold dI
 rw[h1,h2]
 simp[Zc] at hd
 rcases hd with rfl|rfl|rfl|rfl|rfl<;>dsimp only<;>omega
def Z2X{w a b:Nat}(hw:0<w)(h:dI w a b=0):a=b:=by
 unfold dI at h
 have h1:a % w=b % w:=by omega
 have h2:a / w=b / w:=by omega
 rw[<-Nat.div_add_mod a w,<-Nat.div_add_mod b w,h1,h2]
def Z1Z{w h n g:Nat}(hw:0<w)(hn:n<w*h)(hg:g<w*h)(hng:n≠g):∃m∈iQ w h n,dI w m g+1=dI w n g:=by
 have hd:dI w n g≠0:=λz=>hng (Z2X hw z)
 have n1:=Nat.mod_lt n hw
 have g1:=Nat.mod_lt g hw
 have n2:n / w<h:=(ZI hw).mpr hn
 have g2:g / w<h:=(ZI hw).mpr hg
 have p1:(0:Int)<=((n / w:Nat):Int):=Int.natCast_nonneg _
 have p2:(0:Int)<=((n % w:Nat):Int):=Int.natCast_nonneg _
 have p3:(0:Int)<=((g / w:Nat):Int):=Int.natCast_nonneg _
 have p4:(0:Int)<=((g % w:Nat):Int):=Int.natCast_nonneg _
 have go:∀d∈Zc,inB w h (((n % w:Nat):Int)+d.1,((n / w:Nat):Int)+d.2)=true->((((n % w:Nat):Int)+d.1-((g % w:Nat):Int)).natAbs+(((n / w:Nat):Int)+d.2-((g / w:Nat):Int)).natAbs+1=dI w n g)->∃m∈iQ w h n,dI w m g+1=dI w n g:=by
  intro d hd hi he
  have hb:=of_decide_eq_true hi
  obtain⟨c1,c2⟩:=crd hw hb.1 hb.2.1
  dsimp only at c1 c2
  refine⟨_,(Z0e hw).mpr ⟨d,hd,hi,c1,c2⟩,?_⟩
  show dI w ((((n / w:Nat):Int)+d.2)*(w:Int)+(((n % w:Nat):Int)+d.1)).toNat g+1=_
  have e:dI w ((((n / w:Nat):Int)+d.2)*(w:Int)+(((n % w:Nat):Int)+d.1)).toNat g=(((n % w:Nat):Int)+d.1-((g % w:Nat):Int)).natAbs+(((n / w:Nat):Int)+d.2-((g / w:Nat):Int)).natAbs:=by
   unfold dI
   rw[c1,c2]
  rw[e]
  exact he
 unfold dI at hd
 by_cases x1:n % w<g % w
 ·exact go (1,0) (by simp[Zc]) (decide_eq_true ⟨⟨by dsimp only;omega,by dsimp only;omega⟩,by dsimp only;omega,by dsimp only;omega⟩) (by unfold dI;dsimp only;omega)
 ·by_cases x2:g % w<n % w
  ·exact go (-1,0) (by simp[Zc]) (decide_eq_true ⟨⟨by dsimp only;omega,by dsimp only;omega⟩,by dsimp only;omega,by dsimp only;omega⟩) (by unfold dI;dsimp only;omega)
  ·by_cases y1:n / w<g / w
   ·exact go (0,1) (by simp[Zc]) (decide_eq_true ⟨⟨by dsimp only;omega,by dsimp only;omega⟩,by dsimp only;omega,by dsimp only;omega⟩) (by unfold dI;dsimp only;omega)
   ·exact go (0,-1) (by simp[Zc]) (decide_eq_true ⟨⟨by dsimp only;omega,by dsimp only;omega⟩,by dsimp only;omega,by dsimp only;omega⟩) (by unfold dI;dsimp only;omega)
theorem ZG(k:Nat->Int):∀(ms:List Nat) (m:Nat),∀q∈m::ms,k (Hy k m ms)<=k q
 | [],m,q,hq=>by
   have:q=m:=by simpa using hq
   rw[this];exact Int.le_refl _
 |a::as,m,q,hq=>by
  rw[Hy]
  split
  ·rename_i hlt
   rcases List.mem_cons.mp hq with rfl|hq
   ·have:=ZG k as a a List.mem_cons_self
    omega
   ·exact ZG k as a q hq
  ·rename_i hlt
   rcases List.mem_cons.mp hq with rfl|hq
   ·exact ZG k as q q List.mem_cons_self
   ·rcases List.mem_cons.mp hq with rfl|hq
    ·have:=ZG k as m m List.mem_cons_self
     omega
    ·exact ZG k as m q (List.mem_cons_of_mem _ hq)
def Z1v{w h n m:Nat}{f:Nat->Option Int}{c:Int}(hm:m∈iQ w h n)(hc:f m=some c):∃q c',Zw w h f n=some q/\f q=some c'/\c'<=c:=by
 have hl:m∈ZJ f (iQ w h n):=List.mem_filter.mpr ⟨hm,by rw[hc];rfl⟩
 unfold Zw
 cases hL:ZJ f (iQ w h n) with
 |nil=>rw[hL] at hl;simp at hl
 |cons a as=>
  rw[hL] at hl
  have h1:=ZG (λm=>(f m).getD 0) as a m hl
  have h2:Hy (λm=>(f m).getD 0) a as∈ZJ f (iQ w h n):=by rw[hL];exact ZV _ as a
  obtain⟨_,h3⟩:=List.mem_filter.mp h2
  obtain⟨c',h4⟩:=Option.isSome_iff_exists.mp h3
  refine⟨_,c',rfl,h4,?_⟩
  rw[h4,hc] at h1
  exact h1
def Z0Q{w h n q:Nat}{f:Nat->Option Int}(hq:Zw w h f n=some q):q∈iQ w h n/\∃c,f q=some c:=by
 obtain⟨h1,h2⟩:=List.mem_filter.mp (Z0v hq)
 exact⟨h1,Option.isSome_iff_exists.mp h2⟩
def Z2Y(B n:Nat):0<=Zp B n/\Zp B n<=1:=by
 unfold Zp
 have:=Int.emod_two_eq ((B:Int) / 2 ^ n)
 omega
def Z04{w h g:Nat}(B:Nat)(f:Nat->Option Int):Zf w h g B f g=some (Zp B g):=by
 unfold Zf ZA
 simp
def Z2N{w h g n m:Nat}(B:Nat){f:Nat->Option Int}{c:Int}(hm:m∈iQ w h n)(hc:f m=some c)(h0:0<=c):∃r,Zf w h g B f n=some r/\r<=Zp B n+c:=by
 by_cases hn:n=g
 ·subst hn
  exact⟨_,Z04 B f,by omega⟩
 ·obtain⟨q,c',h1,h2,h3⟩:=Z1v hm hc
  refine⟨Zp B n+c',?_,by omega⟩
  unfold Zf ZA
  rw[if_neg hn,h1]
  simp[h2]
def Z1w{w h g n:Nat}{B:Nat}{f:Nat->Option Int}{r:Int}(hr:Zf w h g B f n=some r):(n=g/\r=Zp B n)\/(n≠g/\∃q c,q∈iQ w h n/\f q=some c/\r=Zp B n+c):=by
 unfold Zf ZA at hr
 by_cases hn:n=g
 ·rw[if_pos hn] at hr
  simp at hr
  exact .inl ⟨hn,hr.symm⟩
 ·rw[if_neg hn] at hr
  cases hb:Zw w h f n with
  |none=>rw[hb] at hr;simp at hr
  |some q=>
   rw[hb] at hr
   obtain⟨h1,c,h2⟩:=Z0Q hb
   simp[h2] at hr
   exact .inr ⟨hn,q,c,h1,h2,hr.symm⟩
theorem Z1x{w h g:Nat}:∀(Bs:List Nat) {n:Nat} {c:Int},jX (Z2 w h g Bs) n=some c->0<=c/\c<=Bs.length
 | [],n,c,hc=>by simp[Z2,jX] at hc
 |B::Bs,n,c,hc=>by
  have l:=Z2Y B n
  rcases Z1w (show Zf w h g B (jX (Z2 w h g Bs)) n=some c from hc) with⟨_,e⟩|⟨_,q,c',_,h2,e⟩
  ·simp;omega
  ·have:=Z1x Bs h2
   simp;omega
theorem Z05{w h g:Nat}(hw:0<w)(hg:g<w*h):∀(Bs:List Nat) {n:Nat},n<w*h->((jX (Z2 w h g Bs) n).isSome=true↔dI w n g<Bs.length)
 | [],n,_=>by simp[Z2,jX]
 |B::Bs,n,hn=>by
  show(Zf w h g B (jX (Z2 w h g Bs)) n).isSome=true↔dI w n g<Bs.length+1
  constructor
  ·intro hs
   obtain⟨r,hr⟩:=Option.isSome_iff_exists.mp hs
   rcases Z1w hr with⟨e,_⟩|⟨_,q,c',hq,h2,_⟩
   ·subst e
    have:dI w n n=0:=by unfold dI;omega
    omega
   ·have h3:=(Z05 hw hg Bs (ZF hq)).mp (by rw[h2];rfl)
    have:=Z2p (g:=g) hw hq
    omega
  ·intro hd
   by_cases e:n=g
   ·subst e
    rw[Z04];rfl
   ·obtain⟨m,hm,he⟩:=Z1Z hw hn hg e
    have h3:=(Z05 hw hg Bs (ZF hm)).mpr (by omega)
    obtain⟨c,hc⟩:=Option.isSome_iff_exists.mp h3
    obtain⟨r,hr,_⟩:=Z2N (g:=g) B hm hc (Z1x Bs hc).1
    rw[hr];rfl
theorem Z0A{w h g:Nat}:∀(Bs:List Nat) {t:Nat},t<Bs.length->(Z2 w h g Bs)[t]?=some (jX (Z2 w h g (Bs.drop t)))
 | [],t,ht=>by simp at ht
 |B::Bs,0,_=>rfl
 |B::Bs,t+1,ht=>by
  rw[List.drop_succ_cons]
  exact Z0A Bs (by simpa using ht)
def Z1(t:Th):PV:=.tup [.str t.1,.lst (t.2.map .int)]
def Z2O(w h:Nat):gY [.tup [.int w,.int h]]=some (.int ((max w h:Nat):Int)):=by
 show some (PV.int (max (w:Int) h))=_
 congr 2
 omega
theorem Z0B{w h:Nat}(hw:1<=w/\w<=20)(hh:1<=h/\h<=20):∀(cs:List Int) (acc:List PV) (s1:P.Slot),acc.length+cs.length<=1000->∃T:List Th,Ķ (gN 1) Ľ (đ (č fV (Ą 1 (Ĉ (aG gY (ą (Ā 0) ė)) Ċ)))) (cs.map .int) [.sh (.tup [.int w,.int h]),s1] acc=some (acc++T.map Z1)/\T.length=cs.length/\∀t∈T,Z8 t.1 t.2=true
 | [],acc,s1,_=>⟨[],by simp[Ķ],rfl,by simp⟩
 |c::cs,acc,s1,ha=>by
  obtain⟨t,e1,e2⟩:=Z1p c (w:=((max w h:Nat):Int)) (by omega) (by omega)
  obtain⟨T,q1,q2,q3⟩:=Z0B hw hh cs (acc ++ [Z1 t]) (.sh (.int c)) (by simp at ha ⊢;omega)
  refine⟨t::T,?_,by simp[q2],?_⟩
  ·have hz:acc.length<16777216:=by simp at ha;omega
   have mx:=Z2O w h
   change fV _=.ret (.sh (Z1 t)) at e1
   generalize hR:Z1 t=R at *
   generalize ((max w h:Nat):Int)=m at *
   rw[List.map_cons,Ķ]
   simp[mx,e1,hz,hR]
   simpa using q1
  ·intro x hx
   rcases List.mem_cons.mp hx with rfl|hx
   ·exact e2
   ·exact q3 x hx
def Z20{w:Str}{xs:List Int}(h:Z8 w xs=true):PyData.strOk w=true:=by
 unfold Z8 at h
 by_cases e1:w= "post"
 ·rw[e1];exact s1
 rw[if_neg e1] at h
 by_cases e2:w= "fence"
 ·rw[e2];exact s2
 rw[if_neg e2] at h
 by_cases e3:w= "sail"
 ·rw[e3];exact s3
 rw[if_neg e3] at h
 by_cases e4:w= "cloth"
 ·rw[e4];exact s4
 rw[if_neg e4] at h
 by_cases e5:w= "house"
 ·rw[e5];exact s5
 rw[if_neg e5] at h
 cases h
def Z1y{T:List Th}(hl:T.length<=1000)(hg:∀t∈T,Z8 t.1 t.2=true)(s0 s1:P.Slot):Ķ (gT 2 (ĩ (gN 0) (ĩ (gN 1) aD))) Ľ (đ (č cV (Ą 0 (Ĉ (đ (lC cT (ą (Ā 1) ė))) Ċ)))) (T.map Z1) [s0,s1] []=some (T.map oW):=by
 have hc:=Ņ (g:=gT 2 (ĩ (gN 0) (ĩ (gN 1) aD))) (mt:=Ľ) (me:=đ (č cV (Ą 0 (Ĉ (đ (lC cT (ą (Ā 1) ė))) Ċ)))) Z1 oW (λρ=>∃a b,ρ=[a,b]) T [s0,s1] [] ⟨_,_,rfl⟩ (by simp;omega) (by
  rintro t ht ρ ⟨a,b,rfl⟩
  have e:=Z1O (Z20 (hg t ht)) (xs:=t.2) (sl:=.sh (.lst (t.2.map .int))) (.inl rfl)
  rw[if_pos (hg t ht)] at e
  change cV _=.ret (.sh (oW t)) at e
  refine⟨[.sh (.str t.1),.sh (.lst (t.2.map .int))],_,[.sh (.str t.1),.sh (.lst (t.2.map .int))],by simp[Z1],rfl,?_,_,_,rfl⟩
  generalize t.2.map PV.int=X at *
  generalize oW t=V at *
  simp[e])
 simpa using hc
def slI(xs:List Int)(lo hi:Option Int):∃ys:List Int,aJ (xs.map PV.int) lo hi=ys.map PV.int/\ys.length<=xs.length:=by
 refine⟨(xs.drop (HT.gC xs.length 0 lo)).take (HT.gC xs.length xs.length hi-HT.gC xs.length 0 lo),?_,by simp;omega⟩
 unfold aJ
 rw[List.length_map,List.map_take,List.map_drop]
def slR(T:List Th):∃T':List Th,aJ (T.map Z1) none (some 1)=T'.map Z1/\T'.length<=T.length/\∀t∈T',t∈T:=by
 refine⟨T.take (HT.gC T.length T.length (some 1)),?_,by simp;omega,λt ht=>List.mem_of_mem_take ht⟩
 unfold aJ
 rw[List.length_map,List.map_take]
 rfl
def Zu:Ce 2 0=some 0:=rfl
def Zx:Ce 2 1=some 1:=rfl
def tp(p:Int×Int):PV:=.tup [.int p.1,.int p.2]
def Z0C(p q:Int×Int):qD [.sh (tp p),.sh (tp q)]=.ret (.sh (.int (((p.1-q.1).natAbs:Int)+((p.2-q.2).natAbs:Int)))):=by
 simp[qD,Gg,List.replicate,tp,Zu,Zx]
 split<;>split<;>omega
def sn(w n:Nat):Int×Int:=(((n % w:Nat):Int),((n / w:Nat):Int))
def Z0b{w h:Nat}{T:List Th}(D:List Dy){x y:Int}(hx:(0<=x/\x<w)/\(0<=y/\y<h)):uY [.sh (Z0 w h T D),.sh (.tup [.int x,.int y])]=.ret (.sh .non):=by
 have hs:=Z0a (T:=T) D hx
 generalize Z0 w h T D=Yv at *
 simp[uY,Fj,List.replicate,hs]
def Z21{w h:Nat}{T:List Th}{D:List Dy}{d:Int}(hd:0<=d/\d<D.length):zE [.sh (Z0 w h T D),.sh (.int d)]=.ret (.sh .non):=by
 have hs:=Z2n (w:=w) (h:=h) (T:=T) (D:=D) d
 rw[decide_eq_true hd] at hs
 generalize Z0 w h T D=Yv at *
 simp[zE,Fo,List.replicate,hs]
def Z2Z{a b:Str}{v:Bool}(ha:PyData.strOk a=true)(hb:PyData.strOk b=true)(h:decide (a=b)=v):ŋ (.str a) (.str b)=some (.bl v):=by rw[cU ha hb,h]
def Z0R{w h g:Nat}{Bs:List Nat}{k:Nat}(hk:k<Bs.length):jX (Z2 w h g (Bs.drop k))=Zf w h g (Bs.getD k 0) (jX (Z2 w h g (Bs.drop (k+1)))):=by
 rw[List.drop_eq_getElem_cons hk]
 have:Bs.getD k 0=Bs[k]:=by simp[hk]
 rw[this]
 rfl
def pix{w h g:Nat}{Bs:List Nat}{t n:Nat}(ht:t<Bs.length)(hn:n<w*h):Č (.lst ((Z2 w h g Bs).map (rV (w*h)))) (.int t)=some (.lst (Z3 (w*h) (jX (Z2 w h g (Bs.drop t)))))/\Č (.lst (Z3 (w*h) (jX (Z2 w h g (Bs.drop t))))) (.int n)=some (oV (jX (Z2 w h g (Bs.drop t)) n)):=by
 refine⟨?_,ZE hn⟩
 have:((Z2 w h g Bs).map (rV (w*h)))[t]?=some (.lst (Z3 (w*h) (jX (Z2 w h g (Bs.drop t))))):=by
  rw[List.getElem?_map,Z0A Bs ht];rfl
 simp[this]
def Z2q{w:Nat}{st:List Nat}(h:0<st.length):Č (.lst (st.map λn=>tp (sn w n))) (.int (-1))=some (tp (sn w (st.getD (st.length-1) 0))):=by
 show lA _ _=_
 unfold lA Ce
 simp
 rw[if_pos (by omega)]
 have e:(-1+(st.length:Int)).toNat=st.length-1:=by omega
 simp[e]
 exact⟨st[st.length-1],by simp[h],by rw[List.getElem?_eq_getElem (by omega)];rfl⟩
def Z2r{w h:Nat}(hw:0<w)(hw2:w<=60)(hh:h<=1000)(tZ:w*h<=1000){T:List Th}(hT:T.length<=1000)(D:List Dy)(hg:∀t∈T,Z8 t.1 t.2=true){os:List (Option P3)}(ho:∀o∈os,HN o)(hl:os.length<=1000):Ķ (gN 1) Ľ (đ (č gZ (Ą 0 (Ą 1 Ċ)))) (os.map iz) [.sh (Z0 w h T D),.no] []=some ((os.map (vJ w h T)).map λ(B:Nat)=>PV.int B):=by
 have c1:=Ņ (g:=gN 1) (mt:=Ľ) (me:=đ (č gZ (Ą 0 (Ą 1 Ċ)))) iz (λo=>PV.int (vJ w h T o:Nat)) (λρ=>∃a,ρ=[.sh (Z0 w h T D),a]) os [.sh (Z0 w h T D),.no] [] ⟨_,rfl⟩ (by simp;omega) (by
  rintro o hm ρ ⟨a,rfl⟩
  have ed:=Z0K hw hw2 hh tZ hT D hg (ho o hm)
  generalize Z0 w h T D=Yv at *
  generalize iz o=ov at *
  exact⟨[.sh Yv,.sh ov],[.sh Yv,.sh ov],[.sh Yv,.sh ov],by simp,by simp,by simp[ed],_,rfl⟩)
 rw[List.nil_append] at c1
 rw[c1,List.map_map]
 rfl
def oU(Bs ms:List Nat)(c:Int):Nat->Int
 |0=>c
 |k+1=>oU Bs ms c k-Zp (Bs.getD k 0) (ms.getD k 0)
theorem Z0f(Bs ms:List Nat)(c:Int)(m:Nat):∀k,k<=ms.length->oU Bs (ms ++ [m]) c k=oU Bs ms c k
 |0,_=>rfl
 |k+1,hk=>by
  have e:(ms ++ [m]).getD k 0=ms.getD k 0:=by simp[List.getD_eq_getElem?_getD,List.getElem?_append_left (show k<ms.length by omega)]
  show oU Bs (ms ++ [m]) c k-Zp (Bs.getD k 0) ((ms ++ [m]).getD k 0)=_
  rw[Z0f Bs ms c m k (by omega),e]
  rfl
structure Wk(w h g:Nat)(Bs:List Nat)(c:Int)(ms:List Nat):Prop where
 le:ms.length<=Bs.length
 lt:∀n∈ms,n<w*h
 ch:∀k,k+1<ms.length->ms.getD (k+1) 0∈iQ w h (ms.getD k 0)
 pay:∀k,k<ms.length->jX (Z2 w h g (Bs.drop k)) (ms.getD k 0)=some (oU Bs ms c k)
def Wk.next{w h g:Nat}{Bs:List Nat}{c:Int}{pre:List Nat}{l:Nat}(hk:Wk w h g Bs c (pre ++ [l]))(hl:l≠g):∃m,Zw w h (jX (Z2 w h g (Bs.drop (pre.length+1)))) l=some m/\pre.length+1<Bs.length/\Wk w h g Bs c (pre ++ [l] ++ [m]):=by
 have hp:=hk.pay pre.length (by simp)
 have e0:(pre ++ [l]).getD pre.length 0=l:=by simp[List.getD_eq_getElem?_getD]
 rw[e0] at hp
 have hlt:pre.length<Bs.length:=by have:=hk.le;simp at this;omega
 rw[Z0R hlt] at hp
 obtain⟨b,hb,he⟩:∃b,ZA w h g (jX (Z2 w h g (Bs.drop (pre.length+1)))) l=some b/\Zp (Bs.getD pre.length 0) l+b=oU Bs (pre ++ [l]) c pre.length:=by
  unfold Zf at hp
  obtain⟨b,h1,h2⟩:=Option.map_eq_some_iff.mp hp
  exact⟨b,h1,h2⟩
 unfold ZA at hb
 rw[if_neg hl] at hb
 obtain⟨m,hm,hf⟩:=Option.bind_eq_some_iff.mp hb
 have hmem:=(Z0Q hm).1
 have hlen:pre.length+1<Bs.length:=by
  apply Classical.byContradiction
  intro hn
  have:Bs.drop (pre.length+1)=[]:=List.drop_eq_nil_of_le (by omega)
  rw[this] at hf
  cases hf
 refine⟨m,hm,hlen,?_,?_,?_,?_⟩
 ·simp;omega
 ·intro n hn
  rcases List.mem_append.mp hn with hn|hn
  ·exact hk.lt n hn
  ·rw[List.mem_singleton.mp hn];exact ZF hmem
 ·intro k h1
  simp at h1
  by_cases h2:k+1<(pre ++ [l]).length
  ·have a1:(pre ++ [l] ++ [m]).getD (k+1) 0=(pre ++ [l]).getD (k+1) 0:=by simp only[List.getD_eq_getElem?_getD,List.getElem?_append_left h2]
   have a2:(pre ++ [l] ++ [m]).getD k 0=(pre ++ [l]).getD k 0:=by simp only[List.getD_eq_getElem?_getD,List.getElem?_append_left (show k<(pre ++ [l]).length by omega)]
   rw[a1,a2]
   exact hk.ch k h2
  ·simp at h2
   have ek:k=pre.length:=by omega
   subst ek
   have a1:(pre ++ [l] ++ [m]).getD (pre.length+1) 0=m:=by
    rw[List.getD_eq_getElem?_getD,List.getElem?_append_right (by simp)]
    simp
   have a2:(pre ++ [l] ++ [m]).getD pre.length 0=l:=by
    rw[List.getD_eq_getElem?_getD,List.getElem?_append_left (by simp),<-List.getD_eq_getElem?_getD,e0]
   rw[a1,a2]
   exact hmem
 ·intro k h1
  simp at h1
  by_cases h2:k<(pre ++ [l]).length
  ·have a2:(pre ++ [l] ++ [m]).getD k 0=(pre ++ [l]).getD k 0:=by simp only[List.getD_eq_getElem?_getD,List.getElem?_append_left h2]
   rw[a2,Z0f Bs (pre ++ [l]) c m k (by omega)]
   exact hk.pay k h2
  ·simp at h2
   have ek:k=pre.length+1:=by omega
   subst ek
   have a1:(pre ++ [l] ++ [m]).getD (pre.length+1) 0=m:=by
    rw[List.getD_eq_getElem?_getD,List.getElem?_append_right (by simp)]
    simp
   rw[a1,Z0f Bs (pre ++ [l]) c m _ (by simp),hf]
   show _=some (oU Bs (pre ++ [l]) c pre.length-Zp (Bs.getD pre.length 0) ((pre ++ [l]).getD pre.length 0))
   rw[e0,<-he]
   congr 1
   omega
def bD(w:Nat)(ms:List Nat):List PV:=ms.map λn=>tp (sn w n)
def Z0F{w h:Nat}(hw:0<w)(hw2:w<=1000)(hh:h<=1000)(T:List Th)(D:List Dy){goal start:Nat}(hs:start<w*h){Bs:List Nat}(hl:Bs.length<=1000)(h0:0<Bs.length){c:Int}(hs0:jX (Z2 w h goal Bs) start=some c) :
 ∃ms:List Nat,zO [.sh (Z0 w h T D),.sh (.int start),.sh (.int goal),.bw ((Z2 w h goal Bs).map (rV (w*h)))]=.ret (.ow (bD w ms))/\0<ms.length/\ms.getD 0 0=start/\ms.getD (ms.length-1) 0=goal/\Wk w h goal Bs c ms:=by
 have yw:=Ks w h T D
 obtain⟨PV',hPV⟩:∃P:List PV,(Z2 w h goal Bs).map (rV (w*h))=P:=⟨_,rfl⟩
 rw[hPV]
 have hstep:∀b:List Nat×Nat,
  (aq (Ă ū (Ă Č (Ā 4) (bI aN (mC (.int 1)))) (Ā 2))) [.sh (Z0 w h T D),.sh (.int start),.sh (.int goal),.bw PV',.ow ((b.1 ++ [b.2]).map λ(m:Nat)=>PV.int m)]=.ok (decide (b.2≠goal)) [.sh (Z0 w h T D),.sh (.int start),.sh (.int goal),.bw PV',.ow ((b.1 ++ [b.2]).map λ(m:Nat)=>PV.int m)]:=by
  rintro ⟨pre,l⟩
  have e1:=Z26 pre l
  have e2:decide (l≠goal)=decide ((l:Int)≠(goal:Int)):=by
   by_cases hq:l=goal
   ·simp[hq]
   ·simp[hq];omega
  dsimp only
  generalize (pre ++ [l]).map (λ(m:Nat)=>PV.int m)=LV at *
  rw[e2]
  simp[e1]
 obtain⟨⟨pre,l⟩,e1,⟨hW,hst⟩,e2⟩:=wN (mc:=aq (Ă ū (Ă Č (Ā 4) (bI aN (mC (.int 1)))) (Ā 2))) (mb:=jd 4 (đ (č nJ (Ą 0 (Ĉ (Ă Č (Ā 4) (bI aN (mC (.int 1)))) (Ĉ (Ă Č (Ā 3) (aG aU (ą (Ā 4) ė))) Ċ)))))) (λb:List Nat×Nat=>[.sh (Z0 w h T D),.sh (.int start),.sh (.int goal),.bw PV',.ow ((b.1 ++ [b.2]).map λ(m:Nat)=>PV.int m)]) (λb=>Wk w h goal Bs c (b.1 ++ [b.2])/\(b.1 ++ [b.2]).getD 0 0=start) (λb=>1001-b.1.length) (by
  rintro ⟨pre,l⟩ ⟨hW,hst⟩
  have e0:=hstep ⟨pre,l⟩
  dsimp only at hW hst e0 ⊢
  by_cases hg:l=goal
  ·left
   rw[e0,hg]
   simp
  ·right
   refine⟨by rw[e0];simp[hg],?_⟩
   obtain⟨m,q2,hlen,hW2⟩:=hW.next hg
   have hl1:l<w*h:=hW.lt l (by simp)
   refine⟨(pre ++ [l],m),?_,⟨hW2,?_⟩,by simp;omega⟩
   ·have q1:=Z0A (w:=w) (h:=h) (g:=goal) Bs hlen
    generalize jX (Z2 w h goal (Bs.drop (pre.length+1)))=f' at *
    have eb:=Z0N hw hw2 hh T D hl1 (f:=f') (s2:=.sh (.lst (Z3 (w*h) f'))) (.inl rfl)
    rw[q2] at eb
    have ei:=Z26 pre l
    have ep:Č (.lst PV') (.int ((pre.length:Int)+1))=some (.lst (Z3 (w*h) f')):=by
     rw[<-hPV]
     have e7:((pre.length:Int)+1)=((pre.length+1:Nat):Int):=by omega
     rw[e7]
     have:((Z2 w h goal Bs).map (rV (w*h)))[pre.length+1]?=some (.lst (Z3 (w*h) f')):=by
      rw[List.getElem?_map,q1];rfl
     generalize pre.length+1=q at *
     simp[this]
    have hll:(((pre ++ [l]).map λ(m:Nat)=>PV.int m).length:Int)=(pre.length:Int)+1:=by simp
    have hl2:((pre ++ [l]).map λ(m:Nat)=>PV.int m).length<16777216:=by simp;omega
    have ea:(((pre ++ [l]) ++ [m]).map λ(m:Nat)=>PV.int m)=((pre ++ [l]).map λ(m:Nat)=>PV.int m) ++ [PV.int m]:=by simp
    dsimp only
    rw[ea]
    generalize (pre ++ [l]).map (λ(m:Nat)=>PV.int m)=LV at *
    generalize Z3 (w*h) f'=R at *
    generalize Z0 w h T D=Yv at *
    simp[ei,hll,ep,eb,oN,hl2]
   ·dsimp only
    rw[<-hst]
    simp only[List.getD_eq_getElem?_getD,List.getElem?_append_left (show 0<(pre ++ [l]).length by simp)]) (b:=([],start)) ⟨⟨by simp;omega,λn hn=>by
   have hq:n=start:=by simpa using hn
   rw[hq];exact hs,λk hk=>by simp at hk,λk hk=>by
   have:k=0:=by simpa using hk
   subst this
   simpa[oU] using hs0⟩,rfl⟩
 refine⟨pre ++ [l],?_,by simp,hst,?_,hW⟩
 ·have hpl:pre.length<Bs.length:=by have:=hW.le;simp at this;omega
  have c1:=Ņ (g:=gN 1) (mt:=Ľ) (me:=đ (č nH (Ą 1 (Ĉ (bI (Ō ["Yard"] "width") (Ā 0)) Ċ)))) (λ(m:Nat)=>PV.int m) (λ(m:Nat)=>tp (sn w m)) (λρ=>∃a,ρ=[.sh (Z0 w h T D),a]) (pre ++ [l]) [.sh (Z0 w h T D),.no] [] ⟨_,rfl⟩ (by simp;omega) (by
   rintro m _ ρ ⟨a,rfl⟩
   have es:=Z0M (n:=m) hw hw2
   have es:nH [.sh (.int m),.sh (.int w)]=.ret (.sh (tp (sn w m))):=es
   refine⟨[.sh (Z0 w h T D),.sh (.int m)],[.sh (Z0 w h T D),.sh (.int m)],[.sh (Z0 w h T D),.sh (.int m)],by simp,by simp,?_,_,rfl⟩
   generalize tp (sn w m)=TP at *
   generalize Z0 w h T D=Yv at *
   simp[yw,es])
  rw[List.nil_append] at c1
  have ew:Gd [.sh (Z0 w h T D),.sh (.int start),.sh (.int goal),.bw PV',.ow [.int start]]=_:=e1
  dsimp only at ew
  unfold bD
  generalize (pre ++ [l]).map (λ(m:Nat)=>tp (sn w m))=OUT at *
  generalize (pre ++ [l]).map (λ(m:Nat)=>PV.int m)=LV at *
  generalize Z0 w h T D=Yv at *
  simp[zO,Ge,List.replicate,fK,Ų,ew,c1]
 ·have:=hstep ⟨pre,l⟩
  dsimp only at this e2
  rw[this] at e2
  have hl:l=goal:=by
   by_cases hg:l=goal
   ·exact hg
   ·simp[hg] at e2
  simp[hl]
def Z2s{w h:Nat}(hw:0<w)(hw2:w<=60)(hh:h<=1000)(tZ:w*h<=1000){T:List Th}(hT:T.length<=1000){D:List Dy}(hg:∀t∈T,Z8 t.1 t.2=true){n1 n2:Nat}(l1:n1<w*h)(l2:n2<w*h){i:Nat}(hi:i<D.length)(hd:1<=D[i].2.2.length/\D[i].2.2.length<=1000)(ho:∀o∈D[i].2.2,HN o){Bs:List Nat}(Xg:D[i].2.2.map (vJ w h T)=Bs) :
 (jX (Z2 w h n2 Bs) n1=none/\jo [.sh (Z0 w h T D),.sh (.int i),.sh (tp (sn w n1)),.sh (tp (sn w n2))]=.ret (.sh (.tup [.str "none",.lst ((Z2 w h n2 Bs).map (rV (w*h)))])))\/∃c ms,jX (Z2 w h n2 Bs) n1=some c/\0<ms.length/\ms.getD 0 0=n1/\ms.getD (ms.length-1) 0=n2/\Wk w h n2 Bs c ms/\jo [.sh (Z0 w h T D),.sh (.int i),.sh (tp (sn w n1)),.sh (tp (sn w n2))]=.ret (.ot [.str "walk",.int c] (bD w ms) [.lst ((Z2 w h n2 Bs).map (rV (w*h)))]):=by
 have inn:∀{n:Nat},n<w*h->(0<=(sn w n).1/\(sn w n).1<w)/\(0<=(sn w n).2/\(sn w n).2<h):=fun{n} hn=>by
  have a1:=Nat.mod_lt n hw
  have a2:n / w<h:=(ZI hw).mpr hn
  have p1:(0:Int)<=((n / w:Nat):Int):=Int.natCast_nonneg _
  have p2:(0:Int)<=((n % w:Nat):Int):=Int.natCast_nonneg _
  refine⟨⟨p2,?_⟩,p1,?_⟩
  ·show((n % w:Nat):Int)<w;omega
  ·show((n / w:Nat):Int)<h;omega
 have c1:=Z0b (T:=T) D (inn l1)
 have c2:=Z0b (T:=T) D (inn l2)
 have c3:=Z21 (w:=w) (h:=h) (T:=T) (D:=D) (d:=i) (by omega)
 have yw:=Ks w h T D
 have num:∀{n:Nat},n<w*h->kE [.sh (.tup [.int (sn w n).1,.int (sn w n).2]),.sh (.int w)]=.ret (.sh (.int n)):=fun{n} hn=>by
  have:=inn hn
  rw[Z0u _ _ w (Z1s (by omega) (by omega) (by omega) (by omega))]
  have e:(sn w n).2*(w:Int)+(sn w n).1=(n:Int):=by
   have:=Nat.div_add_mod n w
   have:((w*(n / w)+n % w:Nat):Int)=(n:Int):=by rw[this]
   rw[Int.natCast_add,Int.natCast_mul,Int.mul_comm] at this
   exact this
  rw[e]
 have m1:=num l1
 have m2:=num l2
 have ep:=Z1Y hw hw2 hh tZ hT hg n2 hi ho hd.2
 rw[Xg] at ep
 have hbl:Bs.length=D[i].2.2.length:=by rw[<-Xg];simp
 cases hp:Z2 w h n2 Bs with
 |nil=>
  have:=Z0y w h n2 Bs
  rw[hp] at this
  simp at this
  omega
 |cons f0 rest=>
  rw[<-hp]
  have hh0:jX (Z2 w h n2 Bs)=f0:=by rw[hp];rfl
  rw[hh0]
  have h0:(Z2 w h n2 Bs)[0]?=some f0:=by rw[hp];rfl
  have rg:=ZE (f:=f0) l1
  have hP0:((Z2 w h n2 Bs).map (rV (w*h)))[0]?=some (.lst (Z3 (w*h) f0)):=by rw[hp];rfl
  cases hc:f0 n1 with
  |none=>
   left
   refine⟨rfl,?_⟩
   rw[hc] at rg
   unfold tp
   generalize (sn w n1).1=x1 at *
   generalize (sn w n1).2=y1 at *
   generalize (sn w n2).1=x2 at *
   generalize (sn w n2).2=y2 at *
   generalize (Z2 w h n2 Bs).map (rV (w*h))=PP at *
   generalize Z3 (w*h) f0=R at *
   generalize Z0 w h T D=Yv at *
   simp[jo,xM,List.replicate,c1,c2,c3,yw,m1,m2,ep,hP0,rg,oV,vL]
  |some c=>
   right
   obtain⟨ms,ew,w0,w1,w2,hW⟩:=Z0F hw (by omega) hh T D (goal:=n2) l1 (Bs:=Bs) (by omega) (by omega) (c:=c) (by rw[hh0];exact hc)
   refine⟨c,ms,rfl,w0,w1,w2,hW,?_⟩
   rw[hc] at rg
   clear hW w1 w2
   unfold tp
   generalize (sn w n1).1=x1 at *
   generalize (sn w n1).2=y1 at *
   generalize (sn w n2).1=x2 at *
   generalize (sn w n2).2=y2 at *
   generalize (Z2 w h n2 Bs).map (rV (w*h))=PP at *
   generalize Z3 (w*h) f0=R at *
   generalize bD w ms=WV at *
   generalize Z0 w h T D=Yv at *
   simp[jo,xM,List.replicate,c1,c2,c3,yw,m1,m2,ep,hP0,rg,oV,vL,ew]
def Z06(i:Int):qC [.sh (.int i)]=.ret (.sh (.bl true)):=by
 have i2:iD [.int i,.ty "int"]=some (.bl true):=rfl
 have i3:iD [.int i,.ty "bool"]=some (.bl false):=rfl
 simp[qC,Gf,List.replicate,i2,i3]
def Z1z{w h:Nat}(hw:0<w){n:Nat}(hn:n<w*h):qF [.sh (tp (sn w n)),.sh (.tup [.int w,.int h])]=.ret (.sh (.bl true)):=by
 have a1:=Nat.mod_lt n hw
 have a2:n / w<h:=(ZI hw).mpr hn
 have p1:(0:Int)<=((n / w:Nat):Int):=Int.natCast_nonneg _
 have p2:(0:Int)<=((n % w:Nat):Int):=Int.natCast_nonneg _
 have p3:((n % w:Nat):Int)<(w:Int):=Int.ofNat_lt.mpr a1
 have p4:((n / w:Nat):Int)<(h:Int):=Int.ofNat_lt.mpr a2
 have t1:∀x y:Int,iD [.tup [.int x,.int y],.ty "tuple"]=some (.bl true):=λ_ _=>rfl
 have w1:=Z06 ((n % w:Nat):Int)
 have w2:=Z06 ((n / w:Nat):Int)
 unfold tp sn
 dsimp only
 generalize ((n % w:Nat):Int)=x at *
 generalize ((n / w:Nat):Int)=y at *
 have n2:ū (.int 2) (.int 2)=some (.bl false):=rfl
 simp[qF,Gh,List.replicate,t1,n2,w1,w2,p1,p2,p3,p4,Zu,Zx]
def Z1A{w h n m:Nat}(hw:0<w)(hm:m∈iQ w h n):(((sn w n).1-(sn w m).1).natAbs:Int)+(((sn w n).2-(sn w m).2).natAbs:Int)<=1:=by
 obtain⟨d,hd,_,h1,h2⟩:=(Z0e hw).mp hm
 have e1:(sn w m).1=(sn w n).1+d.1:=h1
 have e2:(sn w m).2=(sn w n).2+d.2:=h2
 unfold Zc at hd
 simp at hd
 rcases hd with rfl|rfl|rfl|rfl|rfl<;>dsimp only at e1 e2<;>omega
def Z2P{w n:Nat}:(sn w n).2*(w:Int)+(sn w n).1=(n:Int):=by
 have:=Nat.div_add_mod n w
 have:((w*(n / w)+n % w:Nat):Int)=(n:Int):=by rw[this]
 rw[Int.natCast_add,Int.natCast_mul,Int.mul_comm] at this
 exact this
def Z2t{w h g:Nat}(hw:0<w)(hw2:w<=60)(hh:h<=1000){Bs ms:List Nat}{c:Int}(hW:Wk w h g Bs c ms){k:Nat}(hk:k<ms.length)(cv:PV)(z3 z7:P.Slot):∃z7',jR [.sh (.tup [.str "walk",cv,.lst (bD w ms),.lst ((Z2 w h g Bs).map (rV (w*h)))]),.sh (.tup [.int w,.int h]),.bw (Bs.map λ(B:Nat)=>PV.int B),z3,.sh (.lst (bD w ms)),.sh (.int (oU Bs ms c k)),.sh (.int k),z7]=.ok .nx [.sh (.tup [.str "walk",cv,.lst (bD w ms),.lst ((Z2 w h g Bs).map (rV (w*h)))]),.sh (.tup [.int w,.int h]),.bw (Bs.map λ(B:Nat)=>PV.int B),z3,.sh (.lst (bD w ms)),.sh (.int (oU Bs ms c (k+1))),.sh (.int k),z7']:=by
 have hkB:k<Bs.length:=by have:=hW.le;omega
 have hn:ms.getD k 0<w*h:=hW.lt _ (by rw[List.getD_eq_getElem?_getD,List.getElem?_eq_getElem hk];exact List.getElem_mem hk)
 have i1:(bD w ms)[k]?=some (tp (sn w (ms.getD k 0))):=by simp[bD,hk]
 have i2:(Bs.map λ(B:Nat)=>PV.int B)[k]?=some (.int (Bs.getD k 0:Nat)):=by simp[hkB]
 obtain⟨p1,p2⟩:=pix (w:=w) (h:=h) (g:=g) hkB hn
 rw[hW.pay k hk] at p2
 have sk:=Z0O (Bs.getD k 0) (ms.getD k 0)
 have a2:ms.getD k 0 / w<h:=(ZI hw).mpr hn
 have b1:0<=(sn w (ms.getD k 0)).2/\(sn w (ms.getD k 0)).2<1000:=by
  show(0:Int)<=((ms.getD k 0 / w:Nat):Int)/\((ms.getD k 0 / w:Nat):Int)<1000
  generalize ms.getD k 0 / w=q at *
  omega
 have mo:ł (sn w (ms.getD k 0)).2 (w:Int)=true:=ſ (by omega) (by omega)
 have nm:=Z2P (w:=w) (n:=ms.getD k 0)
 have lt:oU Bs ms c (k+1)=oU Bs ms c k-1+((Bs.getD k 0:Nat):Int) / 2 ^ (ms.getD k 0) % 2:=by
  show oU Bs ms c k-Zp (Bs.getD k 0) (ms.getD k 0)=_
  unfold Zp
  omega
 rw[lt]
 have oi:ū (.int (oU Bs ms c k)) (.int (oU Bs ms c k))=some (.bl false):=jL (by simp[ŭ]) (by simp[dep])
 refine⟨.sh (.int (ms.getD k 0:Nat)),?_⟩
 cases k with
 |zero=>
  unfold tp at i1
  simp only[oV] at p2
  generalize jX (Z2 w h g (Bs.drop 0))=f at *
  generalize (Z2 w h g Bs).map (rV (w*h))=PP at *
  generalize Z3 (w*h) f=R at *
  generalize bD w ms=MV at *
  generalize (Bs.map λ(B:Nat)=>PV.int B)=SB at *
  generalize oU Bs ms c 0=L0 at *
  generalize Bs.getD 0 0=B at *
  generalize (sn w (ms.getD 0 0)).1=x at *
  generalize (sn w (ms.getD 0 0)).2=y at *
  generalize ms.getD 0 0=n at *
  have i1':Č (.lst MV) (.int 0)=some (.tup [.int x,.int y]):=by simpa using i1
  have i2':Č (.lst SB) (.int 0)=some (.int (B:Nat)):=by simpa using i2
  have p1':Č (.lst PP) (.int 0)=some (.lst R):=p1
  simp[jR,i1',Zu,Zx,mo,nm,p1',p2,oi,i2',sk]
 |succ k=>
  have hap:=Z0C (sn w (ms.getD k 0)) (sn w (ms.getD (k+1) 0))
  have hle:=Z1A hw (hW.ch k hk)
  have i0:(bD w ms)[k]?=some (tp (sn w (ms.getD k 0))):=by simp[bD,show k<ms.length by omega]
  have hng:¬(1<(((sn w (ms.getD k 0)).1-(sn w (ms.getD (k+1) 0)).1).natAbs:Int)+(((sn w (ms.getD k 0)).2-(sn w (ms.getD (k+1) 0)).2).natAbs:Int)):=by omega
  generalize (((sn w (ms.getD k 0)).1-(sn w (ms.getD (k+1) 0)).1).natAbs:Int)+(((sn w (ms.getD k 0)).2-(sn w (ms.getD (k+1) 0)).2).natAbs:Int)=ap at *
  have i0':Č (.lst (bD w ms)) (.int (k:Int))=some (tp (sn w (ms.getD k 0))):=by
   generalize tp (sn w (ms.getD k 0))=X at *
   simp[i0]
  have i1':Č (.lst (bD w ms)) (.int ((k:Int)+1))=some (tp (sn w (ms.getD (k+1) 0))):=by
   have e7:((k:Int)+1)=((k+1:Nat):Int):=by omega
   rw[e7]
   generalize tp (sn w (ms.getD (k+1) 0))=X at *
   generalize k+1=q at *
   simp[i1]
  have i2':Č (.lst (Bs.map λ(B:Nat)=>PV.int B)) (.int ((k:Int)+1))=some (.int (Bs.getD (k+1) 0:Nat)):=by
   have e7:((k:Int)+1)=((k+1:Nat):Int):=by omega
   rw[e7]
   generalize Bs.getD (k+1) 0=X at *
   generalize k+1=q at *
   generalize (Bs.map λ(B:Nat)=>PV.int B)=SB at *
   simp[i2]
  have p1':Č (.lst ((Z2 w h g Bs).map (rV (w*h)))) (.int ((k:Int)+1))=some (.lst (Z3 (w*h) (jX (Z2 w h g (Bs.drop (k+1)))))):=by
   have e7:((k:Int)+1)=((k+1:Nat):Int):=by omega
   rw[e7]
   exact p1
  simp only[oV] at p2
  generalize jX (Z2 w h g (Bs.drop (k+1)))=f at *
  generalize (Z2 w h g Bs).map (rV (w*h))=PP at *
  generalize Z3 (w*h) f=R at *
  generalize bD w ms=MV at *
  generalize (Bs.map λ(B:Nat)=>PV.int B)=SB at *
  generalize oU Bs ms c (k+1)=L0 at *
  generalize Bs.getD (k+1) 0=B at *
  generalize hX:tp (sn w (ms.getD k 0))=X0 at *
  generalize hX1:tp (sn w (ms.getD (k+1) 0))=X1 at *
  have x0:Č X1 (.int 0)=some (.int (sn w (ms.getD (k+1) 0)).1):=by rw[<-hX1];rfl
  have x1:Č X1 (.int 1)=some (.int (sn w (ms.getD (k+1) 0)).2):=by rw[<-hX1];rfl
  clear hX hX1
  generalize (sn w (ms.getD (k+1) 0)).1=x at *
  generalize (sn w (ms.getD (k+1) 0)).2=y at *
  generalize ms.getD (k+1) 0=n at *
  have hk0:¬(k:Int)+1<=0:=by omega
  have hk1:(0:Int)<(k:Int)+1:=by omega
  simp[jR,hk1,i0',i1',hap,hng,x0,x1,mo,nm,p1',p2,oi,i2',sk]
theorem Z0S{w h g:Nat}(hw:0<w)(hw2:w<=60)(hh:h<=1000){Bs ms:List Nat}{c:Int}(hW:Wk w h g Bs c ms)(cv:PV)(z3:P.Slot):∀(m k:Nat),k+m=ms.length->∀z6 z7:P.Slot,∃z6' z7',forL (gN 6) jR ((List.range' k m).map λ(i:Nat)=>PV.int (i:Int)) [.sh (.tup [.str "walk",cv,.lst (bD w ms),.lst ((Z2 w h g Bs).map (rV (w*h)))]),.sh (.tup [.int w,.int h]),.bw (Bs.map λ(B:Nat)=>PV.int B),z3,.sh (.lst (bD w ms)),.sh (.int (oU Bs ms c k)),z6,z7]=.ok .nx [.sh (.tup [.str "walk",cv,.lst (bD w ms),.lst ((Z2 w h g Bs).map (rV (w*h)))]),.sh (.tup [.int w,.int h]),.bw (Bs.map λ(B:Nat)=>PV.int B),z3,.sh (.lst (bD w ms)),.sh (.int (oU Bs ms c ms.length)),z6',z7']
 |0,k,hk,z6,z7=>⟨z6,z7,by rw[show k=ms.length by omega];rfl⟩
 |m+1,k,hk,z6,z7=>by
  obtain⟨a,e⟩:=Z2t hw hw2 hh hW (k:=k) (by omega) cv z3 z7
  obtain⟨b,d,ih⟩:=Z0S hw hw2 hh hW cv z3 m (k+1) (by omega) (.sh (.int k)) a
  refine⟨b,d,?_⟩
  rw[List.range'_succ,List.map_cons,forL]
  have hg:gN 6 (PV.int (k:Int)) [.sh (.tup [.str "walk",cv,.lst (bD w ms),.lst ((Z2 w h g Bs).map (rV (w*h)))]),.sh (.tup [.int w,.int h]),.bw (Bs.map λ(B:Nat)=>PV.int B),z3,.sh (.lst (bD w ms)),.sh (.int (oU Bs ms c k)),z6,z7]=some [.sh (.tup [.str "walk",cv,.lst (bD w ms),.lst ((Z2 w h g Bs).map (rV (w*h)))]),.sh (.tup [.int w,.int h]),.bw (Bs.map λ(B:Nat)=>PV.int B),z3,.sh (.lst (bD w ms)),.sh (.int (oU Bs ms c k)),.sh (.int k),z7]:=rfl
  rw[hg]
  dsimp only
  rw[e]
  exact ih
theorem Z1B(w:Nat):∀ms:List Nat,ž (bD w ms)=true
 | []=>by simp[bD,ž]
 |n::ms=>by
  show ž (tp (sn w n)::bD w ms)=true
  rw[ž,Z1B w ms]
  simp[tp,ŭ,ž]
theorem Z0T(w:Nat):∀ms:List Nat,jf (bD w ms)<=1
 | []=>by simp[bD,jf]
 |n::ms=>by
  show jf (tp (sn w n)::bD w ms)<=1
  have:=Z0T w ms
  have h2:dep (tp (sn w n))<=1:=by simp[tp,dep,jf]
  rw[jf]
  omega
def Z2Q{w:Nat}{ms:List Nat}(h:0<ms.length):ŋ (.lst (bD w ms)) (.lst [])=some (.bl false):=by
 have h1:=Z1B w ms
 have h2:=Z0T w ms
 unfold ŋ
 rw[if_pos (by simp[pC,ŭ,ž,dep,jf,h1];try omega)]
 cases ms with
 |nil=>simp at h
 |cons n ms=>
  show some (PV.bl (eqB (.lst (tp (sn w n)::bD w ms)) (.lst [])))=_
  rw[eqB.eq_def]
  rfl
def Z27(p:Int×Int):ū (tp p) (tp p)=some (.bl false):=jL (by simp[tp,ŭ,ž]) (by simp[tp,dep,jf])
def Z2R{w h g:Nat}{Bs ms:List Nat}{c:Int}(hW:Wk w h g Bs c ms)(h0:0<ms.length)(hg:ms.getD (ms.length-1) 0=g):oU Bs ms c ms.length=0:=by
 have hp:=hW.pay (ms.length-1) (by omega)
 have hl:ms.length-1<Bs.length:=by have:=hW.le;omega
 rw[Z0R hl,hg,Z04] at hp
 have e:ms.length=ms.length-1+1:=by omega
 rw[e]
 show oU Bs ms c (ms.length-1)-Zp (Bs.getD (ms.length-1) 0) (ms.getD (ms.length-1) 0)=0
 rw[hg]
 injection hp with hp
 omega
def Z2u(l:List Bool):m_ [.lst (l.map .bl)]=some (.bl (l.all id)):=by
 show(boolsOf (l.map .bl)).map (λbs=>PV.bl (bs.all id))=_
 rw[ZN]
 rfl
def Z22{w h g s:Nat}(hw:0<w)(hw2:w<=60)(hh:h<=1000){Bs ms:List Nat}{c:Int}(hW:Wk w h g Bs c ms)(hB:Bs.length<=1000)(h0:0<ms.length)(hs:ms.getD 0 0=s)(hg:ms.getD (ms.length-1) 0=g):nP [.sh (.tup [.str "walk",.int c,.lst (bD w ms),.lst ((Z2 w h g Bs).map (rV (w*h)))]),.sh (.tup [.int w,.int h]),.bw (Bs.map λ(B:Nat)=>PV.int B),.bw [tp (sn w s),tp (sn w g)]]=.ret (.sh (.bl true)):=by
 obtain⟨z6,z7,el⟩:=Z0S hw hw2 hh hW (.int c) (.bw [tp (sn w s),tp (sn w g)]) ms.length 0 (by omega) .no .no
 rw[Z2R hW h0 hg] at el
 have wc:=Z06 c
 have il:iD [.lst (bD w ms),.ty "list"]=some (.bl true):=rfl
 have n4:ū (.int 4) (.int 4)=some (.bl false):=rfl
 have en:=Z2Q (w:=w) h0
 have hml:(bD w ms).length=ms.length:=by simp[bD]
 have hbl:(Bs.map λ(B:Nat)=>PV.int B).length=Bs.length:=by simp
 have hle:=hW.le
 have cc:=Ņ (g:=gN 1) (mt:=Ľ) (me:=đ (č qF (Ą 1 (Ą 0 Ċ)))) (λn=>tp (sn w n)) (λ_=>PV.bl true) (λρ=>∃a,ρ=[.sh (.tup [.int w,.int h]),a]) ms [.sh (.tup [.int w,.int h]),.no] [] ⟨_,rfl⟩ (by simp;omega) (by
  rintro n hn ρ ⟨a,rfl⟩
  have e:=Z1z (h:=h) hw (hW.lt n hn)
  generalize tp (sn w n)=X at *
  exact⟨[.sh (.tup [.int w,.int h]),.sh X],[.sh (.tup [.int w,.int h]),.sh X],[.sh (.tup [.int w,.int h]),.sh X],by simp,by simp,by simp[e],_,rfl⟩)
 rw[List.nil_append] at cc
 have cc:Ķ (gN 1) Ľ (đ (č qF (Ą 1 (Ą 0 Ċ)))) (bD w ms) [.sh (.tup [.int w,.int h]),.no] []=_:=cc
 have al:=Z2u (ms.map λ_=>true)
 rw[List.map_map] at al
 have al:m_ [.lst (ms.map λ_=>PV.bl true)]=some (.bl true):=by
  have h:(ms.map λ_=>true).all id=true:=by simp
  rw[h] at al
  exact al
 have i0:Č (.lst (bD w ms)) (.int 0)=some (tp (sn w s)):=by
  have:(bD w ms)[0]?=some (tp (sn w (ms.getD 0 0))):=by simp[bD,h0]
  rw[hs] at this
  generalize tp (sn w s)=X at *
  simp[this]
 have i1:Č (.lst (bD w ms)) (.int (-1))=some (tp (sn w g)):=by
  have:=Z2q (w:=w) h0
  rw[hg] at this
  exact this
 have e0:=Z27 (sn w s)
 have e1:=Z27 (sn w g)
 have rr:=ZX (n:=ms.length) (by omega)
 rw[List.range_eq_range'] at rr
 have hnl:¬(Bs.length:Int)<(ms.length:Int):=by omega
 have el:forL (gN 6) jR ((List.range' 0 ms.length).map λ(i:Nat)=>PV.int (i:Int)) [.sh (.tup [.str "walk",.int c,.lst (bD w ms),.lst ((Z2 w h g Bs).map (rV (w*h)))]),.sh (.tup [.int w,.int h]),.bw (Bs.map λ(B:Nat)=>PV.int B),.bw [tp (sn w s),tp (sn w g)],.sh (.lst (bD w ms)),.sh (.int c),.no,.no]=_:=el
 clear hW
 generalize (ms.map λ_=>PV.bl true)=Q at *
 generalize (List.range' 0 ms.length).map (λ(i:Nat)=>PV.int (i:Int))=RG at *
 generalize (Z2 w h g Bs).map (rV (w*h))=PP at *
 generalize bD w ms=MV at *
 generalize (Bs.map λ(B:Nat)=>PV.int B)=SB at *
 generalize tp (sn w s)=XS at *
 generalize tp (sn w g)=XG at *
 simp[nP,Gi,List.replicate,n4,wc,il,en,hml,hbl,hnl,hle,fK,Ų,cc,al,i0,i1,e0,e1,rr,el]
def Z2S:M Fl:=(Ę (ĥ 1 (ň (ŉ (ą (đ (ġ ĝ (mC (.int 1)) (Ă Ī (đ (č Ŀ (Ą 0 (Ĉ (mC (.int 0)) Ċ)))) (mC (.int 3))))) (ą (mC (.int 2)) ė)))))
 (Ę (ĥ 2 (wL (Ā 2) uK (mP (mC (.int 1)))))
 (ĥ 3 (č jl (Ą 0 (Ĉ (mC (.int 7)) (Ĉ (mC (.int 1)) (Ĉ (mC (.int 24)) Ċ))))))))
def Z15:M Fl:=(ĥ 1 (č fU (Ĉ (đ (č Ŀ (Ą 0 (Ĉ (mC (.int 0)) Ċ)))) (Ĉ (mC (.int 9)) Ċ))))
def Z16:M Fl:=(ĥ 2 (Ł [1] 1 (œ (đ (wL (Ā 0) (mP (mC (.int 4))) (mP (mC (.int 7)))))) (gN 1) Ľ (đ (č fV (Ą 1 (Ĉ (aG gY (ą (Ā 0) ė)) Ċ))))))
def Z17:M Fl:=(ĥ 3 (č jl (Ą 0 (Ĉ (mC (.int 7)) (Ĉ (đ (ġ ĝ (mC (.int 1)) (Ă Ī (đ (č Ŀ (Ą 0 (Ĉ (mC (.int 1)) Ċ)))) (mC (.int 3))))) (Ĉ (mC (.int 6)) Ċ))))))
def Z0c:M Fl:=(bG (aq (Ă ŋ (Ă Ī (Ă ŏ (đ (č Ŀ (Ą 0 (Ĉ (mC (.int 1)) Ċ)))) (mC (.int 9))) (mC (.int 16))) (mC (.int 5))))
 Z2S
 dB)
def Z18:M Fl:=(ĥ 4 (ň (aO "Yard" jm (Ĉ (Ă Č (Ā 1) (mC (.int 0))) (Ĉ (Ă Č (Ā 1) (mC (.int 1))) (Ĉ (đ (Ł [] 2 (Ŕ 2) (gT 2 (ĩ (gN 0) (ĩ (gN 1) aD))) Ľ (đ (č cV (Ą 0 (Ĉ (đ (lC cT (ą (Ā 1) ė))) Ċ)))))) (Ą 3 Ċ)))))))
def Z19:M Fl:=(ĥ 5 (ň (Ă Ī (Ă ŏ (đ (č Ŀ (Ą 0 (Ĉ (mC (.int 1)) Ċ)))) (mC (.int 3))) (aG aU (ą (Ā 3) ė)))))
def Z1a:M Fl:=(ĥ 6 (Ž (ą (ŉ (ą (Ă Ī (đ (č Ŀ (Ą 0 (Ĉ (mC (.int 2)) Ċ)))) (Ă Č (Ā 1) (mC (.int 0)))) (ą (Ă Ī (Ă ŏ (đ (č Ŀ (Ą 0 (Ĉ (mC (.int 2)) Ċ)))) (mC (.int 7))) (Ă Č (Ā 1) (mC (.int 1)))) ė))) ė)))
def Z1b:M Fl:=(jd 6 (ŉ (ą (Ă Ī (đ (č Ŀ (Ą 0 (Ĉ (mC (.int 3)) Ċ)))) (Ă Č (Ā 1) (mC (.int 0)))) (ą (Ă Ī (Ă ŏ (đ (č Ŀ (Ą 0 (Ĉ (mC (.int 3)) Ċ)))) (mC (.int 7))) (Ă Č (Ā 1) (mC (.int 1)))) ė))))
def Z1c:M Fl:=(ĥ 7 (Ł [4] 1 (œ (Ă Č (Ă Č (Ā 3) (Ā 5)) (mC (.int 2)))) (gN 1) Ľ (đ (č gZ (Ą 0 (Ą 1 Ċ))))))
def ZR:M Fl:=(ĥ 8 (č jo (Ą 4 (Ą 5 (Ĉ (Ă Č (Ā 6) (mC (.int 0))) (Ĉ (Ă Č (Ā 6) (mC (.int 1))) Ċ))))))
def ZS:M Fl:=(bG (ji 8 (i_ (bJ (bF (aG iD (ą (Ā 8) (ą (mC (.ty "tuple")) ė))))) (aq (Ă ū (aG aU (ą (Ā 8) ė)) (Ă Č (đ (Ž (ą (mC (.int 2)) (ą (mC (.int 4)) ė)))) (aG wQ (ą (Ă iC (đ (č qD (Ĉ (Ă Č (Ā 6) (mC (.int 0))) (Ĉ (Ă Č (Ā 6) (mC (.int 1))) Ċ)))) (aG aU (ą (Ā 7) ė))) ė)))))))
 (ģ (ň (mC (.bl false))))
 dB)
def Z0d:M Fl:=(bG (ji 8 (aq (Ă ŋ (aG aU (ą (Ā 8) ė)) (mC (.int 2)))))
 (ģ (ň (Ă ŋ (Ă Č (Ā 8) (mC (.int 0))) (mC (.str "none")))))
 dB)
def Z0D:M Fl:=(bG (ji 8 (i_ (aq (Ă ū (Ă Č (Ā 8) (mC (.int 0))) (mC (.str "walk")))) (bJ (bF (đ (č nP (Ą 8 (Ą 1 (Ą 7 (Ą 6 Ċ))))))))))
 (ģ (ň (mC (.bl false))))
 dB)
def Z0E:M Fl:=(uQ 8 2 (Ă Č (Ā 6) (mC (.int 0))))
def Z1C:M Fl:=(ģ (č nP (Ĉ (đ (č jo (Ą 4 (Ą 5 (Ĉ (Ă Č (Ā 6) (mC (.int 0))) (Ĉ (Ă Č (Ā 6) (mC (.int 1))) Ċ)))))) (Ą 1 (Ą 7 (Ą 6 Ċ))))))
def t62:M Fl:=Ę Z18 (Ę Z19 (Ę Z1a (Ę Z1b (Ę Z1c (Ę ZR (Ę ZS (Ę Z0d (Ę Z0D (Ę Z0E (Z1C))))))))))
def Z31:xV=Ę Z15 (Ę Z16 (Ę Z17 (Ę Z0c t62))):=rfl
def Zd{a b:M Fl}{ρ ρ1:ĺ}(h:a ρ=.ok .nx ρ1):Ę a b ρ=b ρ1:=by simp[h]
def Z28{w h:Nat}(hw:0<w){x y:Int}(hx:0<=x/\x<w)(hy:0<=y/\y<h):∃n,n<w*h/\sn w n=(x,y):=by
 refine⟨(y*(w:Int)+x).toNat,?_,?_⟩
 ·obtain⟨b,rfl⟩:=Int.eq_ofNat_of_zero_le hy.1
  obtain⟨a,rfl⟩:=Int.eq_ofNat_of_zero_le hx.1
  have h1:(b+1)*w<=h*w:=Nat.mul_le_mul_right w (by omega)
  have e:((b:Int)*(w:Int)+(a:Int)).toNat=b*w+a:=by
   rw[<-Int.natCast_mul,<-Int.natCast_add];rfl
  rw[e,Nat.mul_comm w h]
  rw[Nat.succ_mul] at h1
  omega
 ·have:=crd hw hx hy.1
  unfold sn
  rw[this.1,this.2]
def fm(c:Int){n:Nat}(hn:0<n):∃x:Int,Ī (.int c) (.int (n:Int))=some (.int x)/\0<=x/\x<n:=by
 refine⟨c % n,?_,Int.emod_nonneg _ (by omega),Int.emod_lt_of_pos _ (by omega)⟩
 rw[lX,if_pos (by simp;omega),Int.fmod_eq_emod_of_nonneg _ (by omega)]
def Z1D:ŋ (.str "none") (.str "none")=some (.bl true):=Z2Z (by decide +kernel) (by decide +kernel) (by decide +kernel)
def Z2v:ū (.str "walk") (.str "walk")=some (.bl false):=jL (by unfold ŭ;decide +kernel) (by simp[dep])
def Z29(ns:List Int){w h:Nat}(hw:0<w)(hw2:w<=60)(hh0:0<h)(hh:h<=1000)(tZ:w*h<=1000){T:List Th}(hT:T.length<=1000)(hg:∀t∈T,Z8 t.1 t.2=true){D:List Dy}{lg:Nat}(Ku:lg<=1000)(hD:∀d∈D,Z09 lg d)(hD0:0<D.length)(hDl:D.length<=1000)(s2:P.Slot)(hs2:s2=.ow (T.map Z1)) :
 FR.of (t62 [.sh (.lst (ns.map .int)),.sh (.tup [.int w,.int h]),s2,.ow (D.map Ŋ),.no,.no,.no,.no,.no])=.ret (.sh (.bl true)):=by
 subst hs2
 have k1:Ŀ [.sh (.lst (ns.map .int)),.sh (.int 1)]=.ret (.sh (.int (ns.getD 1 0))):=Zz ns 1
 have k2:Ŀ [.sh (.lst (ns.map .int)),.sh (.int 2)]=.ret (.sh (.int (ns.getD 2 0))):=Zz ns 2
 have k3:Ŀ [.sh (.lst (ns.map .int)),.sh (.int 3)]=.ret (.sh (.int (ns.getD 3 0))):=Zz ns 3
 generalize ns.getD 1 0=c1 at *
 generalize ns.getD 2 0=c2 at *
 generalize ns.getD 3 0=c3' at *
 generalize ns.map PV.int=NS at *
 have q1:=Z1y (T:=T) (by omega) hg .no .no
 have q2:=Z2k (w:Int) (h:Int) (T:=T) (D:=D) (by omega) (by omega) (s3:=.sh (.lst (T.map oW))) (s4:=.bw (D.map Ŋ)) (.inl rfl) (.inr rfl)
 have hY:PV.ins "Yard" ["width","height","things","days"] [.int w,.int h,.lst (T.map oW),.lst (D.map Ŋ)]=Z0 w h T D:=rfl
 have s5:Z18 [.sh (.lst NS),.sh (.tup [.int w,.int h]),.ow (T.map Z1),.ow (D.map Ŋ),.no,.no,.no,.no,.no]=.ok .nx [.sh (.lst NS),.sh (.tup [.int w,.int h]),.sh (.lst (T.map Z1)),.ow (D.map Ŋ),.sh (Z0 w h T D),.no,.no,.no,.no]:=by
  generalize Z0 w h T D=Yv at *
  generalize T.map Z1=TR at *
  generalize T.map oW=TV at *
  generalize D.map Ŋ=DV at *
  simp[Z18,fK,Ų,q1,aO,q2,hY,Zu,Zx]
 have hdl:((D.map Ŋ).length:Int)=(D.length:Int):=by simp
 obtain⟨x,hx,x0,xl⟩:=fm (c1 / 3) hD0
 obtain⟨i,rfl⟩:=Int.eq_ofNat_of_zero_le x0
 have hi:i<D.length:=by omega
 have s6:Z19 [.sh (.lst NS),.sh (.tup [.int w,.int h]),.sh (.lst (T.map Z1)),.ow (D.map Ŋ),.sh (Z0 w h T D),.no,.no,.no,.no]=.ok .nx [.sh (.lst NS),.sh (.tup [.int w,.int h]),.sh (.lst (T.map Z1)),.ow (D.map Ŋ),.sh (Z0 w h T D),.sh (.int i),.no,.no,.no]:=by
  rw[<-hdl] at hx
  generalize Z0 w h T D=Yv at *
  generalize T.map Z1=TR at *
  generalize D.map Ŋ=DV at *
  simp[Z19,k1,hx,-lX,-Zt]
 obtain⟨a1,ha1,a10,a1l⟩:=fm c2 hw
 obtain⟨b1,hb1,b10,b1l⟩:=fm (c2 / 7) hh0
 obtain⟨a2,ha2,a20,a2l⟩:=fm c3' hw
 obtain⟨b2,hb2,b20,b2l⟩:=fm (c3' / 7) hh0
 obtain⟨n1,l1,e1⟩:=Z28 (h:=h) hw ⟨a10,a1l⟩ ⟨b10,b1l⟩
 obtain⟨n2,l2,e2⟩:=Z28 (h:=h) hw ⟨a20,a2l⟩ ⟨b20,b2l⟩
 have t1:PV.tup [.int a1,.int b1]=tp (sn w n1):=by rw[e1];rfl
 have t2:PV.tup [.int a2,.int b2]=tp (sn w n2):=by rw[e2];rfl
 have s7:Z1a [.sh (.lst NS),.sh (.tup [.int w,.int h]),.sh (.lst (T.map Z1)),.ow (D.map Ŋ),.sh (Z0 w h T D),.sh (.int i),.no,.no,.no]=.ok .nx [.sh (.lst NS),.sh (.tup [.int w,.int h]),.sh (.lst (T.map Z1)),.ow (D.map Ŋ),.sh (Z0 w h T D),.sh (.int i),.ow [tp (sn w n1)],.no,.no]:=by
  rw[<-t1]
  generalize Z0 w h T D=Yv at *
  generalize T.map Z1=TR at *
  generalize D.map Ŋ=DV at *
  simp[Z1a,k2,ha1,hb1,Zu,Zx,-lX,-Zt]
 have s8:Z1b [.sh (.lst NS),.sh (.tup [.int w,.int h]),.sh (.lst (T.map Z1)),.ow (D.map Ŋ),.sh (Z0 w h T D),.sh (.int i),.ow [tp (sn w n1)],.no,.no]=.ok .nx [.sh (.lst NS),.sh (.tup [.int w,.int h]),.sh (.lst (T.map Z1)),.ow (D.map Ŋ),.sh (Z0 w h T D),.sh (.int i),.ow [tp (sn w n1),tp (sn w n2)],.no,.no]:=by
  rw[<-t2]
  generalize Z0 w h T D=Yv at *
  generalize T.map Z1=TR at *
  generalize D.map Ŋ=DV at *
  generalize tp (sn w n1)=P1 at *
  simp[Z1b,k3,ha2,hb2,Zu,Zx,-lX,-Zt]
 have hd:=hD D[i] (List.getElem_mem hi)
 have hd1:1<=D[i].2.2.length/\D[i].2.2.length<=lg:=hd.2.1
 obtain⟨Bs,Xg⟩:∃Bs,D[i].2.2.map (vJ w h T)=Bs:=⟨_,rfl⟩
 have hbl:Bs.length=D[i].2.2.length:=by rw[<-Xg];simp
 have hB1:Bs.length<=1000:=by omega
 have hs:=Z2r hw hw2 hh tZ hT D hg hd.2.2 (by omega)
 rw[Xg] at hs
 have hx1:(D.map Ŋ)[i]?=some (.tup [.str D[i].1,.int D[i].2.1,.lst (D[i].2.2.map iz)]):=by simp[hi,Ŋ]
 have s9:Z1c [.sh (.lst NS),.sh (.tup [.int w,.int h]),.sh (.lst (T.map Z1)),.ow (D.map Ŋ),.sh (Z0 w h T D),.sh (.int i),.ow [tp (sn w n1),tp (sn w n2)],.no,.no]=.ok .nx [.sh (.lst NS),.sh (.tup [.int w,.int h]),.sh (.lst (T.map Z1)),.ow (D.map Ŋ),.sh (Z0 w h T D),.sh (.int i),.ow [tp (sn w n1),tp (sn w n2)],.ow (Bs.map λ(B:Nat)=>PV.int B),.no]:=by
  generalize D[i].2.2.map iz=OV at *
  generalize Z0 w h T D=Yv at *
  generalize T.map Z1=TR at *
  generalize D.map Ŋ=DV at *
  generalize tp (sn w n1)=P1 at *
  generalize tp (sn w n2)=P2 at *
  generalize (Bs.map λ(B:Nat)=>PV.int B)=SB at *
  simp[Z1c,hx1,fK,Ų,hs]
 unfold t62
 rw[Zd s5,Zd s6,Zd s7,Zd s8,Zd s9]
 have sh:=Z2s hw hw2 hh tZ hT hg l1 l2 hi ⟨hd.2.1.1,by omega⟩ hd.2.2 Xg
 have ps:=Z05 hw l2 Bs l1
 have hap:=Z0C (sn w n1) (sn w n2)
 have hdI:(((sn w n1).1-(sn w n2).1).natAbs:Int)+(((sn w n1).2-(sn w n2).2).natAbs:Int)=(dI w n1 n2:Int):=by
  show _=(((((n1 % w:Nat):Int)-((n2 % w:Nat):Int)).natAbs+(((n1 / w:Nat):Int)-((n2 / w:Nat):Int)).natAbs:Nat):Int)
  rw[Int.natCast_add]
  rfl
 rw[hdI] at hap
 have hsl:((Bs.map λ(B:Nat)=>PV.int B).length:Int)=(Bs.length:Int):=by simp
 clear s5 s6 s7 s8 s9 hs hx1 q1 q2 k1 k2 k3 ha1 hb1 ha2 hb2 t1 t2
 rcases sh with⟨hp,ew⟩|⟨c,ms,hp,m0,m1,m2,hW,ew⟩
 ·have hlt:¬((dI w n1 n2:Nat):Int)<(Bs.length:Int):=by
   intro hlt
   have:=ps.mpr (by omega)
   rw[hp] at this
   cases this
  rw[<-hsl] at hlt
  have n2':ū (.int 2) (.int 2)=some (.bl false):=rfl
  generalize (Z2 w h n2 Bs).map (rV (w*h))=PP at *
  have it:∀l,iD [.tup l,.ty "tuple"]=some (.bl true):=λ_=>rfl
  have kh:ZR [.sh (.lst NS),.sh (.tup [.int w,.int h]),.sh (.lst (T.map Z1)),.ow (D.map Ŋ),.sh (Z0 w h T D),.sh (.int i),.ow [tp (sn w n1),tp (sn w n2)],.ow (Bs.map λ(B:Nat)=>PV.int B),.no]=.ok .nx [.sh (.lst NS),.sh (.tup [.int w,.int h]),.sh (.lst (T.map Z1)),.ow (D.map Ŋ),.sh (Z0 w h T D),.sh (.int i),.ow [tp (sn w n1),tp (sn w n2)],.ow (Bs.map λ(B:Nat)=>PV.int B),.sh (.tup [.str "none",.lst PP])]:=by
   generalize Z0 w h T D=Yv at *
   generalize T.map Z1=TR at *
   generalize D.map Ŋ=DV at *
   generalize tp (sn w n1)=P1 at *
   generalize tp (sn w n2)=P2 at *
   generalize (Bs.map λ(B:Nat)=>PV.int B)=SB at *
   simp[ZR,ew,Zu,Zx]
  rw[Zd kh]
  clear kh ew
  have Jh:ZS [.sh (.lst NS),.sh (.tup [.int w,.int h]),.sh (.lst (T.map Z1)),.ow (D.map Ŋ),.sh (Z0 w h T D),.sh (.int i),.ow [tp (sn w n1),tp (sn w n2)],.ow (Bs.map λ(B:Nat)=>PV.int B),.sh (.tup [.str "none",.lst PP])]=.ok .nx [.sh (.lst NS),.sh (.tup [.int w,.int h]),.sh (.lst (T.map Z1)),.ow (D.map Ŋ),.sh (Z0 w h T D),.sh (.int i),.ow [tp (sn w n1),tp (sn w n2)],.ow (Bs.map λ(B:Nat)=>PV.int B),.sh (.tup [.str "none",.lst PP])]:=by
   generalize Z0 w h T D=Yv at *
   generalize T.map Z1=TR at *
   generalize D.map Ŋ=DV at *
   generalize tp (sn w n1)=P1 at *
   generalize tp (sn w n2)=P2 at *
   generalize (Bs.map λ(B:Nat)=>PV.int B)=SB at *
   generalize ((dI w n1 n2:Nat):Int)=di at *
   simp[ZS,it,hap,hlt,n2',Zu,Zx]
  rw[Zd Jh]
  generalize Z0 w h T D=Yv at *
  generalize T.map Z1=TR at *
  generalize D.map Ŋ=DV at *
  generalize tp (sn w n1)=P1 at *
  generalize tp (sn w n2)=P2 at *
  generalize (Bs.map λ(B:Nat)=>PV.int B)=SB at *
  simp[Z0d,Z1D,Zu]
 ·have hlt:((dI w n1 n2:Nat):Int)<(Bs.length:Int):=by
   have:=ps.mp (by rw[hp];rfl)
   omega
  rw[<-hsl] at hlt
  have lw:=Z22 hw hw2 hh hW hB1 m0 m1 m2
  have hml:(bD w ms).length<16777216:=by
   have:=hW.le
   simp only[bD,List.length_map]
   omega
  have n4':ū (.int 4) (.int 4)=some (.bl false):=rfl
  generalize (Z2 w h n2 Bs).map (rV (w*h))=PP at *
  have it:∀l,iD [.tup l,.ty "tuple"]=some (.bl true):=λ_=>rfl
  generalize bD w ms=MV at *
  have kh:ZR [.sh (.lst NS),.sh (.tup [.int w,.int h]),.sh (.lst (T.map Z1)),.ow (D.map Ŋ),.sh (Z0 w h T D),.sh (.int i),.ow [tp (sn w n1),tp (sn w n2)],.ow (Bs.map λ(B:Nat)=>PV.int B),.no]=.ok .nx [.sh (.lst NS),.sh (.tup [.int w,.int h]),.sh (.lst (T.map Z1)),.ow (D.map Ŋ),.sh (Z0 w h T D),.sh (.int i),.ow [tp (sn w n1),tp (sn w n2)],.ow (Bs.map λ(B:Nat)=>PV.int B),.ot [.str "walk",.int c] MV [.lst PP]]:=by
   generalize Z0 w h T D=Yv at *
   generalize T.map Z1=TR at *
   generalize D.map Ŋ=DV at *
   generalize tp (sn w n1)=P1 at *
   generalize tp (sn w n2)=P2 at *
   generalize (Bs.map λ(B:Nat)=>PV.int B)=SB at *
   simp[ZR,ew,Zu,Zx]
  rw[Zd kh]
  have Jh:ZS [.sh (.lst NS),.sh (.tup [.int w,.int h]),.sh (.lst (T.map Z1)),.ow (D.map Ŋ),.sh (Z0 w h T D),.sh (.int i),.ow [tp (sn w n1),tp (sn w n2)],.ow (Bs.map λ(B:Nat)=>PV.int B),.ot [.str "walk",.int c] MV [.lst PP]]=.ok .nx [.sh (.lst NS),.sh (.tup [.int w,.int h]),.sh (.lst (T.map Z1)),.ow (D.map Ŋ),.sh (Z0 w h T D),.sh (.int i),.ow [tp (sn w n1),tp (sn w n2)],.ow (Bs.map λ(B:Nat)=>PV.int B),.ot [.str "walk",.int c] MV [.lst PP]]:=by
   clear kh ew lw
   generalize Z0 w h T D=Yv at *
   generalize T.map Z1=TR at *
   generalize D.map Ŋ=DV at *
   generalize tp (sn w n1)=P1 at *
   generalize tp (sn w n2)=P2 at *
   generalize (Bs.map λ(B:Nat)=>PV.int B)=SB at *
   generalize ((dI w n1 n2:Nat):Int)=di at *
   simp[ZS,it,hap,hlt,n4',Zu,Zx]
  rw[Zd Jh]
  have s12:Z0d [.sh (.lst NS),.sh (.tup [.int w,.int h]),.sh (.lst (T.map Z1)),.ow (D.map Ŋ),.sh (Z0 w h T D),.sh (.int i),.ow [tp (sn w n1),tp (sn w n2)],.ow (Bs.map λ(B:Nat)=>PV.int B),.ot [.str "walk",.int c] MV [.lst PP]]=.ok .nx [.sh (.lst NS),.sh (.tup [.int w,.int h]),.sh (.lst (T.map Z1)),.ow (D.map Ŋ),.sh (Z0 w h T D),.sh (.int i),.ow [tp (sn w n1),tp (sn w n2)],.ow (Bs.map λ(B:Nat)=>PV.int B),.ot [.str "walk",.int c] MV [.lst PP]]:=by
   clear kh Jh ew lw
   generalize Z0 w h T D=Yv at *
   generalize T.map Z1=TR at *
   generalize D.map Ŋ=DV at *
   generalize tp (sn w n1)=P1 at *
   generalize tp (sn w n2)=P2 at *
   generalize (Bs.map λ(B:Nat)=>PV.int B)=SB at *
   simp[Z0d]
  rw[Zd s12]
  have s13:Z0D [.sh (.lst NS),.sh (.tup [.int w,.int h]),.sh (.lst (T.map Z1)),.ow (D.map Ŋ),.sh (Z0 w h T D),.sh (.int i),.ow [tp (sn w n1),tp (sn w n2)],.ow (Bs.map λ(B:Nat)=>PV.int B),.ot [.str "walk",.int c] MV [.lst PP]]=.ok .nx [.sh (.lst NS),.sh (.tup [.int w,.int h]),.sh (.lst (T.map Z1)),.ow (D.map Ŋ),.sh (Z0 w h T D),.sh (.int i),.ow [tp (sn w n1),tp (sn w n2)],.ow (Bs.map λ(B:Nat)=>PV.int B),.ot [.str "walk",.int c] MV [.lst PP]]:=by
   clear kh Jh s12 ew
   generalize Z0 w h T D=Yv at *
   generalize T.map Z1=TR at *
   generalize D.map Ŋ=DV at *
   generalize tp (sn w n1)=P1 at *
   generalize tp (sn w n2)=P2 at *
   generalize (Bs.map λ(B:Nat)=>PV.int B)=SB at *
   simp[Z0D,Z2v,lw]
  rw[Zd s13]
  have s14:∃yD,Z0E [.sh (.lst NS),.sh (.tup [.int w,.int h]),.sh (.lst (T.map Z1)),.ow (D.map Ŋ),.sh (Z0 w h T D),.sh (.int i),.ow [tp (sn w n1),tp (sn w n2)],.ow (Bs.map λ(B:Nat)=>PV.int B),.ot [.str "walk",.int c] MV [.lst PP]]=.ok .nx [.sh (.lst NS),.sh (.tup [.int w,.int h]),.sh (.lst (T.map Z1)),.ow (D.map Ŋ),.sh (Z0 w h T D),.sh (.int i),.ow [tp (sn w n1),tp (sn w n2)],.ow (Bs.map λ(B:Nat)=>PV.int B),yD]:=by
   clear kh Jh s12 s13 ew lw
   refine⟨.ot [.str "walk",.int c] (MV ++ [tp (sn w n1)]) [.lst PP],?_⟩
   generalize Z0 w h T D=Yv at *
   generalize T.map Z1=TR at *
   generalize D.map Ŋ=DV at *
   generalize tp (sn w n1)=P1 at *
   generalize tp (sn w n2)=P2 at *
   generalize (Bs.map λ(B:Nat)=>PV.int B)=SB at *
   simp[Z0E,hml]
  obtain⟨yD,s14⟩:=s14
  rw[Zd s14]
  clear kh Jh s12 s13 s14
  generalize Z0 w h T D=Yv at *
  generalize T.map Z1=TR at *
  generalize D.map Ŋ=DV at *
  generalize tp (sn w n1)=P1 at *
  generalize tp (sn w n2)=P2 at *
  generalize (Bs.map λ(B:Nat)=>PV.int B)=SB at *
  simp[Z1C,ew,lw]
def Z2T{l:PySem.W.OpenLaw}{w:World}{K:PySem.W.Frag}{mg:Str->Option Value}{fa:Addr}{a:Gn}(T:Tx K mg a)(hfa:mg "law" =some (.ref fa)):∃fd:FuncData,(∀(s:Shared) (v:Value),BindsTo s fd ⟨[v],[]⟩ [("_law_script",v)])/\∀base:Heap,K.In base->base.Ns mainGlobals mg->∃cm,Ħ l.prog w K mg base Ŧ 11 fa fd ["_law_script"] (ţ ⟨K,cm⟩ 1 nU):=by
 have e:=hfa.symm.trans T.Gw.m
 cases e
 exact⟨a.Gu,λs v=>T.Gw.bb s [v] rfl,λbase _ _=>⟨_,WY T⟩⟩
def Z23(ns:List Int)(hn:ns.length<=63):nU [.sh (.lst (ns.map .int))]=.ret (.sh (.bl true)):=by
 have k0:Ŀ [.sh (.lst (ns.map .int)),.sh (.int 0)]=.ret (.sh (.int (ns.getD 0 0))):=Zz ns 0
 have k1:Ŀ [.sh (.lst (ns.map .int)),.sh (.int 1)]=.ret (.sh (.int (ns.getD 1 0))):=Zz ns 1
 obtain⟨c0,e0⟩:∃c,ns.getD 0 0=c:=⟨_,rfl⟩
 obtain⟨c1,e1⟩:∃c,ns.getD 1 0=c:=⟨_,rfl⟩
 rw[e0] at k0
 rw[e1] at k1
 obtain⟨w,h,hs,w1,w2,h1,h2,wh⟩:=Z1V c0
 obtain⟨ys,hy,hyl⟩:=slI ns (some 4) (some 7)
 obtain⟨T,hT,hTl,hTg⟩:=Z0B ⟨w1,w2⟩ ⟨h1,h2⟩ ys [] .no (by simp;omega)
 rw[List.nil_append] at hT
 obtain⟨m,hm⟩:∃m:Nat,1+c1 % 3=(m:Int):=⟨(1+c1 % 3).toNat,by omega⟩
 obtain⟨D,hD,hDl,hDg⟩:=Z0L ns (n:=m) (lg:=6) (by omega) (by omega) (by omega)
 have hD':jl [.sh (.lst (ns.map .int)),.sh (.int 7),.sh (.int m),.sh (.int 6)]=.ret (.ow (D.map Ŋ)):=hD
 have hd0:nU [.sh (.lst (ns.map .int))]=FR.of (xV [.sh (.lst (ns.map .int)),.no,.no,.no,.no,.no,.no,.no,.no]):=by
  simp[nU,List.replicate]
 have s1:Z15 [.sh (.lst (ns.map .int)),.no,.no,.no,.no,.no,.no,.no,.no]=.ok .nx [.sh (.lst (ns.map .int)),.sh (.tup [.int w,.int h]),.no,.no,.no,.no,.no,.no,.no]:=by
  generalize ns.map PV.int=NS at *
  simp[Z15,k0,hs,-Zt]
 have s2:Z16 [.sh (.lst (ns.map .int)),.sh (.tup [.int w,.int h]),.no,.no,.no,.no,.no,.no,.no]=.ok .nx [.sh (.lst (ns.map .int)),.sh (.tup [.int w,.int h]),.ow (T.map Z1),.no,.no,.no,.no,.no,.no]:=by
  generalize ns.map PV.int=NS at *
  generalize ys.map PV.int=YS at *
  generalize T.map Z1=TR at *
  simp[Z16,fK,Ų,JG,hy,hT]
 have s3:Z17 [.sh (.lst (ns.map .int)),.sh (.tup [.int w,.int h]),.ow (T.map Z1),.no,.no,.no,.no,.no,.no]=.ok .nx [.sh (.lst (ns.map .int)),.sh (.tup [.int w,.int h]),.ow (T.map Z1),.ow (D.map Ŋ),.no,.no,.no,.no,.no]:=by
  generalize ns.map PV.int=NS at *
  generalize T.map Z1=TR at *
  generalize D.map Ŋ=DV at *
  simp[Z17,k1,hm,hD',-Zt]
 rw[hd0,Z31,Zd s1,Zd s2,Zd s3]
 clear s1 s2 s3 hd0
 by_cases h5:c1 / 9 % 16=5
 ·obtain⟨w',hw'⟩:∃w':Nat,1+c0 % 3=(w':Int):=⟨(1+c0 % 3).toNat,by omega⟩
  obtain⟨T',hT',Zdq,hTm⟩:=slR T
  obtain⟨D',hD2,Zdr,Zc9⟩:=Z0L ns (n:=1) (lg:=24) (by omega) (by omega) (by omega)
  have Zc_:jl [.sh (.lst (ns.map .int)),.sh (.int 7),.sh (.int 1),.sh (.int 24)]=.ret (.ow (D'.map Ŋ)):=hD2
  have fin:=Z29 ns (w:=w') (h:=2) (by omega) (by omega) (by omega) (by omega) (by omega) (T:=T') (by omega) (λt ht=>hTg t (hTm t ht)) (by omega) Zc9 (by omega) (by omega) _ rfl
  have s4:Z0c [.sh (.lst (ns.map .int)),.sh (.tup [.int w,.int h]),.ow (T.map Z1),.ow (D.map Ŋ),.no,.no,.no,.no,.no]=.ok .nx [.sh (.lst (ns.map .int)),.sh (.tup [.int w',.int 2]),.ow (T'.map Z1),.ow (D'.map Ŋ),.no,.no,.no,.no,.no]:=by
   clear fin
   generalize ns.map PV.int=NS at *
   generalize T.map Z1=TR at *
   generalize T'.map Z1=TR' at *
   generalize D.map Ŋ=DV at *
   generalize D'.map Ŋ=DV' at *
   simp[Z0c,Z2S,k1,h5,k0,hw',JG,hT',Zc_,-Zt]
  rw[Zd s4]
  exact fin
 ·have fin:=Z29 ns (w:=w) (h:=h) (by omega) (by omega) (by omega) (by omega) (by omega) (T:=T) (by omega) hTg (by omega) hDg (by omega) (by omega) _ rfl
  have s4:Z0c [.sh (.lst (ns.map .int)),.sh (.tup [.int w,.int h]),.ow (T.map Z1),.ow (D.map Ŋ),.no,.no,.no,.no,.no]=.ok .nx [.sh (.lst (ns.map .int)),.sh (.tup [.int w,.int h]),.ow (T.map Z1),.ow (D.map Ŋ),.no,.no,.no,.no,.no]:=by
   clear fin
   generalize ns.map PV.int=NS at *
   generalize T.map Z1=TR at *
   generalize D.map Ŋ=DV at *
   simp[Z0c,k1,h5,-Zt]
  rw[Zd s4]
  exact fin
def Zi{l:PySem.W.OpenLaw}{q:Program}{loose:List Str}{XP:(Str->Option Value)->Heap->Prop}{YP:World->Heap->Prop}{d:DefRec}{K:Params->PySem.W.Frag}(hn:l.most=some 63)(hdf:d.params.defaults=[])
 (hY:∀(w:World) (h:Heap),YP w h->(K w.params).In h)
 (F:∀(w:World) (mg:Str→Option Value) (fa:Addr) (h:Heap),(K w.params).In h→h.Ns mainGlobals mg→mg d.name=some (.ref fa)→
   ∃fd:FuncData,(∀(s:Shared) (u:Value),BindsTo s fd ⟨[u],[]⟩ [("_law_script",u)])/\∀base:Heap,(K w.params).In base->base.Ns mainGlobals mg->∃cm,Ħ l.prog w (K w.params) mg base Ŧ 11 fa fd ["_law_script"] (ţ ⟨K w.params,cm⟩ 1 nU))
 (hnt:∀w:World,PySem.W.noTabs (K w.params)=true)(hrec:∀y,y∈lams->∃d,(PyProof.Rows.recsOf q).find? (λe=>e.name== y)=some d) :
 PySem.W.WalkO q loose XP YP l.row.toRowW d [] (λf vs=>PySem.call f vs):=
 P.DQ (k:=11) (x:= "_law_script") (CX:=Ŧ) (m:=nU) hn hdf ⟨rfl,by decide,by decide⟩ hY F Z23 (λ_ _ _ _ z=>z) (hnt:=λ_=>hnt) (hrec:=hrec)
end
end T
namespace PySem.W.Fast
def tw3988564065987874694:=0
def tw8299276893112299276:=0
def tw12500941465015216221:=0
def tw13512205322351106552:=0
def tw2914012078916555319:=0
def tw13999544580661476763:=0
def tw3529612050722406129:=0
def tw5267761681592033653:=0
def tw6048977438592022191:=0
def tw16203775966962490017:=0
def tw6473217166410143298:=0
def tw899654850736194888:=0
def tw17932539639901823355:=0
def tw15905641737540831662:=0
def tw17882869455345792739:=0
def tw16630556292486706382:=0
def tw11941427065052956005:=0
def tw41414196649804329:=0
def tw1122149882436431049:=0
def tw3172446902743526505:=0
def tw10281731902407493854:=0
def tw4455702039365282507:=0
def tw5173197502642227906:=0
def tw9312860860507716060:=0
def tw11304488452314854254:=0
def tw4468639153604943420:=0
def tw4586507692272521134:=0
def tw14624476071327257151:=0
def tw16392435088552986057:=0
def tw17708512738658475911:=0
def tw8932727443843190197:=0
def tw8599504929178426:=0
def tw16098574957294838835:=0
def tw9805257050492848481:=0
def tw585383881155794486:=0
def tw12946876582544343398:=0
def tw7895236194228716969:=0
def tw6497297961175172637:=0
def tw9725483291241143362:=0
def tw9335906007550919033:=0
def tw10491438193779030652:=0
def tw10790292831188665075:=0
def tw9730317455328177481:=0
def tw1301182512275037939:=0
def tw10289956769587693482:=0
def tw2993430220227688600:=0
def tw14472128027959965240:=0
def tw12691910090875013864:=0
def tw11385340082270200928:=0
def tw18079038917117905421:=0
def tw13881317009341500695:=0
def tw14366599006327907631:=0
def tw5135036583541059330:=0
def tw17404538411964890398:=0
def tw6832370353610136708:=0
def tw17773206295014417409:=0
def tw17224140828836700616:=0
def tw12780948496907461707:=0
def tw16109621082623775251:=0
def tw16053837240540665767:=0
def tw8568049472130251894:=0
def tw8949315905711927774:=0
def tw10291937146282456769:=0
def tw2603065696492650396:=0
def tw4201370059182908631:=0
def tw8358448640291893773:=0
def tw6495098341672703336:=0
def tw9511947124155092859:=0
def tw3389412108672778950:=0
def tw11534526071469495104:=0
def tw16682486962240242414:=0
def tw11756338209100965672:=0
def tw17071883880669390739:=0
def tw13589948283245924802:=0
def tw220380140842591605:=0
def tw9316850692297666838:=0
def tw16856653483247403768:=0
def tw14067606657417666492:=0
def tw10805177917825681656:=0
def tw13208555133213671799:=0
def tw13853685062228427277:=0
def tw11333715133283769838:=0
def tw7330667625680811902:=0
def tw12463666826093735841:=0
def tw10319466525237169137:=0
def tw10215695007324185132:=0
def tw2585581335534667169:=0
def tw17977891329954712472:=0
def tw9073361690617018991:=0
def tw3940958243015589382:=0
def tw10067243433407919573:=0
def tw15971039477802485147:=0
def tw8486872599848487974:=0
def tw1246596726490722122:=0
def tw1201399512012164072:=0
def tw17867718016005466635:=0
def tw17170689338479121875:=0
def tw15557900425540495432:=0
def tw1300201049794999346:=0
def tw3440244214053992672:=0
def tw15196728243982872648:=0
def tw11775451530220407384:=0
def tw8167260607412263104:=0
def tw1609153330294539255:=0
def tw15163199876051128234:=0
def tw9481764005429622159:=0
def tw18055956614377247357:=0
def tw9255029543127771828:=0
def tw14383345713688906312:=0
def tw9589722319271385029:=0
def tw14473806077992199019:=0
def tw14501119618767452312:=0
def tw17547463117703885059:=0
def tw10984530129524384041:=0
def tw185747129313934883:=0
def tw7082714115520084035:=0
def tw7405857946132052245:=0
def tw14580220307414161671:=0
def tw1980309204962186338:=0
def tw14790729877440725963:=0
def tw14605720701173401860:=0
def tw6450362774448085288:=0
def tw10163267319458963882:=0
def tw14265263202883695681:=0
def tw937858869523154183:=0
def tw11727930691257269411:=0
def tw4749277802410009066:=0
def tw9935196782602606505:=0
def tw15896724401320490698:=0
def tw5885066285683871448:=0
def tw9779564495276172863:=0
def tw10281065148087461599:=0
def tw11179241674829765344:=0
def tw15822061330581020417:=0
def tw892153878521420548:=0
def tw17802848331127883610:=0
def tw1440399087253946681:=0
def tw13644676289252870186:=0
def tw14433484306678810178:=0
def tw11747139115252701642:=0
def tw2856481143995262765:=0
def tw8674191448314460376:=0
def tw3184933514225143014:=0
def tw1632102429318962962:=0
def tw11961596337657847123:=0
def tw489437908863671213:=0
def tw847873784463513485:=0
def tw1947940368562363184:=0
def tw16781895783384956246:=0
def tw6335298570041718960:=0
def tw10781168679724268733:=0
def tw9814513557916718493:=0
def tw15912393635346920550:=0
def tw3657475988757634933:=0
def tw5612961264969565400:=0
def tw11490421754007823408:=0
def tw4889736976758393424:=0
def tw3235196786450068152:=0
def tw10237846195534226352:=0
def tw7188615679743322411:=0
def tw18232637699652846110:=0
def tw17589554869314042863:=0
def tw9492893472267364605:=0
def tw12661925463741709393:=0
def tw15725061998476112315:=0
def tw16479875194510632073:=0
def tw13274208725288694669:=0
def tw11317436633150414911:=0
def tw1426995325312527249:=0
def tw11996897144340951373:=0
def tw8888858417287139153:=0
def tw15771105076319173753:=0
def tw1528261602671506941:=0
def tw16058543433283461528:=0
def tw7065752452599790729:=0
def tw7349071408491400503:=0
def tw7184110147532216148:=0
def tw17930316602454225041:=0
def tw14301106246476780092:=0
def tw16114195284899862617:=0
def tw12380447994002828007:=0
def tw10711332966695648222:=0
def tw10104406876306220360:=0
def tw888630150584751247:=0
def tw17801714123989846209:=0
def tw2024853594234484781:=0
def tw5783134191678579661:=0
def tw3729969936522580247:=0
def tw14251368313146843579:=0
def tw5215834147041304170:=0
def tw17880921105220783354:=0
def tw1334162994764559052:=0
def tw17523459679445998864:=0
def tw5888893789298930221:=0
def tw18044993203354720896:=0
def tw10914291817602078322:=0
def tw3602863855097955425:=0
def tw4831055116438061902:=0
def tw4384432966555223719:=0
def tw4032806054323033529:=0
def tw726518541110453912:=0
def tw9225752151994372265:=0
def tw11851622277028861397:=0
def tw385956190549166678:=0
def tw3673779591451933417:=0
def tw11927097565135840722:=0
def tw17142183665533865978:=0
def tw4202462535105639513:=0
def tw7711535006384022169:=0
def tw13674078320898819644:=0
def tw1723878425850947820:=0
def tw1782500521342020968:=0
def tw18136441423405168599:=0
def tw12738867651753095250:=0
def tw16630017155818644449:=0
def tw3454235897823253216:=0
def tw13394224425205488267:=0
def tw9675961404212326348:=0
def tw5105046561998455451:=0
def tw18343015192905381779:=0
def tw10313493281261839302:=0
def tw1553208273849876409:=0
def tw14949105500910617475:=0
def tw12017463210574034740:=0
def tw226853808188412221:=0
def tw13867008785447131704:=0
def tw11345219984407328775:=0
def tw17632002750853550165:=0
def tw14528971622868406943:=0
def tw10133737626216969617:=0
def tw2390718606811607587:=0
def tw2252156152026621287:=0
def tw3682270829623202735:=0
def tw4844152784179118401:=0
def tw1011371667694693480:=0
def tw11462680083462708390:=0
def tw9325698176718748847:=0
def tw6568072898502655794:=0
def tw360028396920973386:=0
def tw4757551203296230952:=0
def tw11146912899193431438:=0
def tw17396922197612595884:=0
def tw1466489845686803751:=0
def tw7844400709826689278:=0
def tw9027352613118373198:=0
def tw7666926816259889117:=0
def tw16870305452683433641:=0
def tw9458350839503916249:=0
def tw5178304619117396933:=0
def tw5357898065741003916:=0
def tw7241988426094066366:=0
def tw9539167022542138192:=0
def tw12014541958449895249:=0
def tw12133301388637343884:=0
def tw8446800802620103607:=0
def tw11914517827859628117:=0
def tw7790361870404886016:=0
def tw11582866431731147612:=0
def tw15927843914888841319:=0
def tw16284693598398384935:=0
def tw9367523180354621663:=0
def tw6610198630712002244:=0
def tw14981151653895617467:=0
def tw7682797767479766526:=0
def tw17588157021143006680:=0
def tw13008255712889243883:=0
def tw1701197119876194211:=0
def tw15055449250515702747:=0
def tw14096564255621536152:=0
def tw14623983542373265815:=0
def tw1488417878019122906:=0
def tw4766971488590589427:=0
def tw15714708589693815609:=0
def tw9585064308172080359:=0
def tw6722372270541146918:=0
def tw4920477267910017523:=0
def tw702716355011379321:=0
def tw2817085486248319705:=0
def tw1846121610609114547:=0
def tw16070694276411786356:=0
def tw4710117646108688665:=0
def tw770309979834265569:=0
def tw17087916540668387750:=0
def tw8777703705027579148:=0
def tw15438239965440438420:=0
def tw342519222229158287:=0
def tw4993050244473638917:=0
def tw198448430740824083:=0
def tw8609060600341576162:=0
def tw14215642754650996652:=0
def tw5842411761586701684:=0
def tw5803269040109798494:=0
def tw9088078726378120942:=0
def tw17478125710920606003:=0
def tw836555180556895822:=0
def tw465423733130047302:=0
def tw5789458849144885036:=0
def tw10282024510151181281:=0
def tw7646805675058951808:=0
def tw4741787884811563044:=0
def tw11477017618426606830:=0
def tw9794392965266089226:=0
def tw5901700817489516624:=0
def tw17454595833133982449:=0
def tw13444160978927291477:=0
def tw11978513946814066971:=0
def tw18234196833102466516:=0
def tw12341767470864750799:=0
def tw17750191656460444441:=0
def tw1419839708186464066:=0
def tw10192968636265774980:=0
def tw7329302911287266800:=0
def tw12769943931882181613:=0
def tw13873427433287569924:=0
def tw6411960245282478121:=0
def tw5558167743032952179:=0
def tw15171404164092930485:=0
def tw9178231315548781633:=0
def tw3922578302645410283:=0
def tw17676600083736165265:=0
def tw5774065677200199014:=0
def tw15334522148938662750:=0
def tw14478497729982483792:=0
def tw539755912990696730:=0
def tw12512305144526331751:=0
def tw8723763034023328807:=0
def tw14254412330582231805:=0
def tw857084807028190778:=0
def tw2079055553575194090:=0
def tw4349954212656946928:=0
def tw17333529611250698743:=0
def tw663830794068997376:=0
def tw2419036100729724278:=0
def tw9083426273068847896:=0
def tw2895577470598555834:=0
def tw224053146968217571:=0
def tw2754494619120293662:=0
def tw12788204034724433596:=0
def tw6726464039932633983:=0
def tw17443010681612295220:=0
def tw1451749029853233933:=0
def tw12867029693000990574:=0
def tw908225200785390842:=0
def tw16507242298020896400:=0
def tw1804997540051810314:=0
def tw3168054511027616012:=0
def tw7881587310996381974:=0
def tw1409112050086614885:=0
def tw16599390361547146704:=0
def tw6752378616170016262:=0
def tw8257751148242615968:=0
def tw5241197805357176552:=0
def tw13546234724142092291:=0
def tw9529006112451954258:=0
def tw1981158422756464006:=0
def tw11903882813424371071:=0
def tw8846298841428388004:=0
def tw15551684948991574840:=0
def tw4670827742055949018:=0
def tw14163404360506954255:=0
def tw642717075603069601:=0
def tw12147878009948428400:=0
def tw4383925451249700663:=0
def tw1568045678392775568:=0
def tw4032704642500141713:=0
def tw3489015968429359190:=0
def tw14354217058496851432:=0
def tw3677778208798560569:=0
def tw1425289620606905831:=0
def tw2362056440178528645:=0
def tw12410527512566214352:=0
def tw2529596199383314656:=0
def tw4661109905984719456:=0
def tw15050570799354029090:=0
def tw15430412943056635135:=0
def tw11626772892733317952:=0
def tw1172990160115516157:=0
def tw2980433169575167316:=0
def tw16201362160385531479:=0
def tw17470469793242914566:=0
def tw1754467582402804678:=0
def tw9915359620603634093:=0
def tw4545290130102070156:=0
def tw4639596452151563756:=0
def tw3064221788995119437:=0
def tw4130227793277650104:=0
def tw4519557852909412274:=0
def tw461575582611282069:=0
def tw14748858067970235815:=0
def tw14857400244197896969:=0
def tw16988695201246196226:=0
def tw2617917814091386476:=0
def tw486461940479039058:=0
def tw11604681996595982770:=0
def tw16020412875420858407:=0
def tw17188121078214070638:=0
def tw11123526153241732516:=0
def tw13570784399811254186:=0
def tw6401325739635081788:=0
def tw1166269575807769585:=0
def tw10996682450683447201:=0
def tw4920233934853151346:=0
def tw10311072177952947850:=0
def tw4289989236542324727:=0
def tw16259166227284851182:=0
def tw11545838603040167308:=0
def tw14735068408669148472:=0
def tw14019247877583692449:=0
def tw10045302834500852070:=0
def tw8984405568965017324:=0
def tw17032905061761450893:=0
def tw13303241374581643782:=0
def tw7156553452691413568:=0
def tw11476391803396376619:=0
def tw14643310256895350031:=0
def tw13847273927691630275:=0
def tw13874414552578641638:=0
def tw2729250265423550686:=0
def tw15167266647188355777:=0
def tw12939646265924159454:=0
def tw18327587258271027073:=0
def tw14869643457741184033:=0
def tw11866273145962772754:=0
def tw715610854191126169:=0
def tw818323882439021089:=0
def tw2217918496890185330:=0
def tw12354134045736381988:=0
def tw11110465514259038028:=0
def tw2633696401204804351:=0
def tw11309922040078854554:=0
def tw13817971412249019920:=0
def tw712558038305088708:=0
def tw17372730977628180236:=0
def tw18021688001383382607:=0
def tw17302894525691396361:=0
def tw10259209581890313669:=0
def tw10424183413833328034:=0
def tw14787404208120906336:=0
def tw11668393459829254564:=0
def tw9460908964298103571:=0
def tw16315064610836975397:=0
def tw6566976165796659307:=0
def tw7978908468288141813:=0
def tw12452571900038207964:=0
def tw4335688710990771431:=0
def tw12820666051647566591:=0
def tw4158377779619039813:=0
def tw9499188199030868461:=0
def tw15198293638419836026:=0
def tw12500127999398919975:=0
def tw214151822583241868:=0
def tw13686867750817055787:=0
def tw11419122019714911327:=0
def tw3520066342660971057:=0
def tw2681042833586287487:=0
def tw8101396703451836343:=0
def tw16402178101482503929:=0
def tw1883500827119582885:=0
def tw12588036247248793568:=0
def tw10566231528486529143:=0
def tw8771597356708549143:=0
def tw3255969134746138061:=0
def tw17958279140783775266:=0
def tw105105374557392857:=0
def tw7885523954102434094:=0
def tw11438346102175624445:=0
def tw1487841354852619348:=0
def tw14325133130889804754:=0
def tw11648319918255498828:=0
def tw8449001322222943309:=0
def tw3239662017552547475:=0
def tw17329408047933629862:=0
def tw10525114625956182124:=0
def tw16452651630863498354:=0
def tw17552548489477568018:=0
def tw6733150737560330028:=0
def tw2755364931196933320:=0
def tw15975974998956326508:=0
def tw3329863045890499358:=0
def tw7605223562832261939:=0
def tw9471419172642652670:=0
def tw13539352526149483170:=0
def tw6032785294144449805:=0
def tw17878384562450438430:=0
def tw17825413390069513180:=0
def tw2988387998064632940:=0
def tw14265691716523868517:=0
def tw6896435299337995618:=0
def tw6351889601910728725:=0
def tw2975216254205991944:=0
def tw14196954945416679373:=0
def tw7530539124726267478:=0
def tw4402207852271559524:=0
def tw14487572285933148809:=0
def tw9711219936629926247:=0
def tw3055179076166434965:=0
def tw5861478909190592553:=0
def tw11592456336304777765:=0
def tw622613824980062091:=0
def tw17929552351137920525:=0
def tw5655903168890889268:=0
def tw12149621036126130882:=0
def tw10647355176654599288:=0
def tw8394025474942284866:=0
def tw3494262985632964199:=0
def tw5623671407135058798:=0
def tw1172192065820766428:=0
def tw1362384054785078330:=0
def tw18293655753367331137:=0
def tw5085977032611657462:=0
def tw17542028886144607951:=0
def tw4504176902004063519:=0
def tw7858610270000928284:=0
def tw3088892941631297340:=0
def tw924588761619200068:=0
def tw9165040169365213097:=0
def tw5090539900929168293:=0
def tw13373294506070479054:=0
def tw9529453725500888604:=0
def tw15866297910909844642:=0
def tw13993428627813502383:=0
def tw837694740116625785:=0
def tw14199035758737490766:=0
def tw9151287154689723737:=0
def tw6723327949747574253:=0
def tw2584836911090825988:=0
def tw14837383490597400212:=0
def tw6696953894896642930:=0
def tw16825603062907994050:=0
def tw12489218988920932322:=0
def tw10529540399272262524:=0
def tw15679007165728980780:=0
def tw13321507324885966770:=0
def tw9220772141942179412:=0
def tw13933240435295116170:=0
def tw12661553183209209583:=0
end PySem.W.Fast
open PySem PySem.W PyProof.Rows
set_option maxRecDepth 100000 in
set_option maxHeartbeats 0 in
theorem PySem.Challenge.cw_shadowpost_k62_a_walk_holds : PySem.Challenge.rw_shadowpost_k62_a_walk.Holds := by
 w_on;o_law;k_head;(case hw=>w_witness2)
 k_fill
 refine T.Zi (l:=PySem.Challenge.rw_shadowpost_k62_a_walk) rfl rfl (λw h Y=>by first|exact PySem.W.kIn_of Y|exact PySem.W.km_in_of Y) ?F ?hnt ?hrec
 case hnt=>intro w;kernel_rfl
 case hrec=>
  intro y hy
  have e:y=PySem.Str.ofString "best_step" := by simpa[L2.lams] using hy
  subst e
  exact⟨_,rfl⟩
 case F=>
  intro w mg fa h KX G hmg
  refine' T.Z2T (a:=T.Gn.mk) (T.Tx.mk (mg_of KX G ?_) (mg_of KX G ?_) (mg_of KX G ?_) (mg_of KX G ?_) (mg_of KX G ?_) (mg_of KX G ?_) (mg_of KX G ?_) (P.ī KX G (λ_ _ _ _ _ _ _ _=>rfl) ?_ ?_ ?_ ?_) (P.ī KX G (λ_ _ _ _ _ _ _ _=>rfl) ?_ ?_ ?_ ?_) (P.ī KX G (λ_ _ _ _ _ _ _ _=>rfl) ?_ ?_ ?_ ?_) (P.ī KX G (λ_ _ _ _ _ _ _=>rfl) ?_ ?_ ?_ ?_) (P.ī KX G (λ_ _ _ _ _ _ _ _ _ _=>rfl) ?_ ?_ ?_ ?_) (P.nA (λ_ _ _ _ _ _ _ _ _ _ _=>rfl) ?_ ?_ ?_ ?_) (P.ī KX G (λ_ _ _ _ _ _ _ _=>rfl) ?_ ?_ ?_ ?_) (P.ī KX G (λ_ _ _ _ _ _ _ _=>rfl) ?_ ?_ ?_ ?_) (P.ī KX G (λ_ _ _ _ _ _ _ _=>rfl) ?_ ?_ ?_ ?_) (P.ī KX G (λ_ _ _ _ _ _ _ _=>rfl) ?_ ?_ ?_ ?_) (P.ī KX G (λ_ _ _ _ _ _ _ _=>rfl) ?_ ?_ ?_ ?_) (P.ī KX G (λ_ _ _ _ _ _ _ _=>rfl) ?_ ?_ ?_ ?_) (P.ī KX G (λ_ _ _ _ _ _ _=>rfl) ?_ ?_ ?_ ?_) (P.ī KX G (λ_ _ _ _ _ _ _=>rfl) ?_ ?_ ?_ ?_) (P.ī KX G (λ_ _ _ _ _ _ _ _=>rfl) ?_ ?_ ?_ ?_) (P.ī KX G (λ_ _ _ _ _ _ _ _=>rfl) ?_ ?_ ?_ ?_) (P.ī KX G (λ_ _ _ _ _ _ _=>rfl) ?_ ?_ ?_ ?_) (P.ī KX G (λ_ _ _ _ _ _ _=>rfl) ?_ ?_ ?_ ?_) (P.ī KX G (λ_ _ _ _ _ _ _ _=>rfl) ?_ ?_ ?_ ?_) (P.ī KX G (λ_ _ _ _ _ _ _ _ _ _ _=>rfl) ?_ ?_ ?_ ?_) (P.ī KX G (λ_ _ _ _ _ _ _ _ _ _ _=>rfl) ?_ ?_ ?_ ?_) (P.nA (λ_ _ _ _ _ _ _=>rfl) ?_ ?_ ?_ ?_) (P.nA (λ_ _ _ _ _ _ _=>rfl) ?_ ?_ ?_ ?_) (P.nA (λ_ _ _ _ _ _ _=>rfl) ?_ ?_ ?_ ?_) (P.nA (λ_ _ _ _ _ _ _=>rfl) ?_ ?_ ?_ ?_) (P.nA (λ_ _ _ _ _ _ _=>rfl) ?_ ?_ ?_ ?_) (P.ī KX G (λ_ _ _ _ _ _ _ _=>rfl) ?_ ?_ ?_ ?_) (P.ī KX G (λ_ _ _ _ _ _ _ _=>rfl) ?_ ?_ ?_ ?_) (P.ī KX G (λ_ _ _ _ _ _ _ _ _ _=>rfl) ?_ ?_ ?_ ?_) (P.ī KX G (λ_ _ _ _ _ _ _ _ _=>rfl) ?_ ?_ ?_ ?_) (P.ī KX G (λ_ _ _ _ _ _ _ _=>rfl) ?_ ?_ ?_ ?_) (P.ī KX G (λ_ _ _ _ _ _ _ _=>rfl) ?_ ?_ ?_ ?_) (P.ī KX G (λ_ _ _ _ _ _ _ _=>rfl) ?_ ?_ ?_ ?_) (P.ī KX G (λ_ _ _ _ _ _ _ _=>rfl) ?_ ?_ ?_ ?_) (P.ī KX G (λ_ _ _ _ _ _ _ _ _=>rfl) ?_ ?_ ?_ ?_) (P.ī KX G (λ_ _ _ _ _ _ _ _ _ _=>rfl) ?_ ?_ ?_ ?_) (P.ī KX G (λ_ _ _ _ _ _ _ _ _ _=>rfl) ?_ ?_ ?_ ?_) (P.ī KX G (λ_ _ _ _ _ _ _ _ _=>rfl) ?_ ?_ ?_ ?_) (P.ī KX G (λ_ _ _ _ _ _ _ _ _ _=>rfl) ?_ ?_ ?_ ?_) (P.ī KX G (λ_ _ _ _ _ _ _ _ _ _=>rfl) ?_ ?_ ?_ ?_) (P.ī KX G (λ_ _ _ _ _ _ _=>rfl) ?_ ?_ ?_ ?_) (P.ī KX G (λ_ _ _ _ _ _ _ _=>rfl) ?_ ?_ ?_ ?_) (P.ī KX G (λ_ _ _ _ _ _ _ _=>rfl) ?_ ?_ ?_ ?_) (P.ī KX G (λ_ _ _ _ _ _ _ _ _ _=>rfl) ?_ ?_ ?_ ?_) (P.ī KX G (λ_ _ _ _ _ _ _=>rfl) ?_ ?_ ?_ ?_) (P.ī KX G (λ_ _ _ _ _ _ _ _=>rfl) ?_ ?_ ?_ ?_) (P.ī KX G (λ_ _ _ _ _ _ _ _=>rfl) ?_ ?_ ?_ ?_) (P.ī KX G (λ_ _ _ _ _ _ _=>rfl) ?_ ?_ ?_ ?_) (P.ī KX G (λ_ _ _ _ _ _ _=>rfl) ?_ ?_ ?_ ?_) (P.ī KX G (λ_ _ _ _ _ _ _=>rfl) ?_ ?_ ?_ ?_) (P.nA (λ_ _ _ _ _ _ _ _ _=>rfl) ?_ ?_ ?_ ?_) (P.ī KX G (λ_ _ _ _ _ _ _=>rfl) ?_ ?_ ?_ ?_) (P.ī KX G (λ_ _ _ _ _ _ _=>rfl) ?_ ?_ ?_ ?_) (P.ī KX G (λ_ _ _ _ _ _ _=>rfl) ?_ ?_ ?_ ?_) (P.ī KX G (λ_ _ _ _ _ _ _=>rfl) ?_ ?_ ?_ ?_) (P.ī KX G (λ_ _ _ _ _ _ _=>rfl) ?_ ?_ ?_ ?_) (P.ī KX G (λ_ _ _ _ _ _ _ _=>rfl) ?_ ?_ ?_ ?_) (P.ī KX G (λ_ _ _ _ _ _ _=>rfl) ?_ ?_ ?_ ?_) (mg_of KX G ?_) (mg_of KX G ?_) (mg_of KX G ?_) (mg_none_of KX G ?_) (mg_none_of KX G ?_) (mg_none_of KX G ?_) (mg_none_of KX G ?_) (mg_none_of KX G ?_) (mg_none_of KX G ?_) (mg_none_of KX G ?_) (mg_none_of KX G ?_) (mg_none_of KX G ?_) (mg_none_of KX G ?_) (mg_none_of KX G ?_) (mg_none_of KX G ?_) (P.iH ?_) (P.nu ?_) ?_ ?_ ?_ ?_ (P.iH ?_) (P.nu ?_) ?_ ?_ (P.iH ?_) (P.nu ?_) ?_ ?_ (P.jh ?_) (P.iH ?_) (P.nu ?_) ?_ ?_ (P.jh ?_) (P.iH ?_) (P.nu ?_) ?_ ?_ (P.jh ?_) (P.iH ?_) (P.nu ?_) ?_ ?_ (P.jh ?_) (P.iH ?_) (P.nu ?_) ?_ ?_ (P.jh ?_) ?_ ?_) hmg
  any_goals (dsimp only;k_is)
  any_goals first|kernel_rfl|(unfold L2.ı;kernel_rfl)
  all_goals skip
