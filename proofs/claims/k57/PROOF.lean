import PyProof.Rows.All
import Wide.All
import OpenK.AllK
import Wide.FinOn
import Lean
import PyProof.EqAt
import PyProof.EqKinds
import PyProof.TupleCall
import PySem.Challenge.RW_shadowpost_k57_whole_dials_tell_the_turn
set_option Elab.async false
set_option linter.all false
set_option maxRecDepth 100000
set_option maxHeartbeats 4000000
namespace L2
open PySem PySem.Spec PyProof.Rows
abbrev Key:=Sum Int Str
def nJ:Key->Value->Bool
 | .inl k,v=>Value.isInt k v
 | .inr x,v=>Value.isStrOf x v
def ZaB(w:World):Key->Int
 | .inl k=>hashInt k
 | .inr x=>hashStr w x
theorem ľ:∀{k:Key} {v:Value},nJ k v=true->(∃i t,k=Sum.inl i/\v=Value.int i t)\/(∃x t,k=Sum.inr x/\v=Value.str x t)
 | .inl i,v,h=>by
   obtain⟨t,e⟩:=Value.isInt_shape (k:=i) (v:=v) h
   exact .inl ⟨i,t,rfl,e⟩
 | .inr x,v,h=>by
   obtain⟨t,e⟩:=Value.isStrOf_shape (x:=x) (v:=v) h
   exact .inr ⟨x,t,rfl,e⟩
def yP(i:Int)(t:Tok):nJ (.inl i) (.int i t)=true:=by simp[nJ,Value.isInt]
def yQ(x:Str)(t:Tok):nJ (.inr x) (.str x t)=true:=by simp[nJ,Value.isStrOf]
def Ob(a b:Int):decide ((Sum.inl a:Key)=Sum.inl b)=(a== b):=by
 by_cases e:a=b
 ·subst e;simp
 ·have h:¬(Sum.inl a:Key)=Sum.inl b:=λq=>e (Sum.inl.inj q)
  rw[decide_eq_false h]
  exact(beq_eq_false_iff_ne.mpr e).symm
def Oc(a b:Str):decide ((Sum.inr a:Key)=Sum.inr b)=decide (a=b):=by
 by_cases e:a=b
 ·subst e;simp
 ·have h:¬(Sum.inr a:Key)=Sum.inr b:=λq=>e (Sum.inr.inj q)
  rw[decide_eq_false h,decide_eq_false e]
def Od(a:Int)(b:Str):decide ((Sum.inl a:Key)=Sum.inr b)=false:=decide_eq_false (λq=>nomatch q)
def Oe(a:Str)(b:Int):decide ((Sum.inr a:Key)=Sum.inl b)=false:=decide_eq_false (λq=>nomatch q)
def ĺ(prog:Program)(w:World):PySem.KeyKind prog w Key where
 is:=nJ
 hash:=ZaB w
 inj:=λv a b ha hb=>by
  rcases ľ ha with⟨i,t,rfl,rfl⟩|⟨x,t,rfl,rfl⟩
  ·rcases ľ hb with⟨j,u,rfl,e⟩|⟨y,u,rfl,e⟩
   ·injection e with e1 _;rw[e1]
   ·exact nomatch e
  ·rcases ľ hb with⟨j,u,rfl,e⟩|⟨y,u,rfl,e⟩
   ·exact nomatch e
   ·injection e with e1 _;rw[e1]
 byValue:=λk v h=>by
  rcases ľ h with⟨i,t,rfl,rfl⟩|⟨x,t,rfl,rfl⟩<;>rfl
 pyHash:=λhv h=>by
  rcases ľ hv with⟨i,t,rfl,rfl⟩|⟨x,t,rfl,rfl⟩
  ·exact wpAny_pyHash_int h
  ·exact wpAny_pyHash_str h
 eqBool:=λhu hv h=>by
  rcases ľ hu with⟨i,t,rfl,rfl⟩|⟨x,t,rfl,rfl⟩
  ·rcases ľ hv with⟨j,u,rfl,rfl⟩|⟨y,u,rfl,rfl⟩
   ·rw[Ob] at h;exact wpAny_eqBool_int h
   ·rw[Od] at h;exact SeqAt.EqAt.int_str i t y u _ _ _ _ h
  ·rcases ľ hv with⟨j,u,rfl,rfl⟩|⟨y,u,rfl,rfl⟩
   ·rw[Oe] at h;exact SeqAt.EqAt.str_int x t j u _ _ _ _ h
   ·rw[Oc] at h;exact wpAny_eqBool_str h
 «strs» := fun k x t v h=>by
   rcases ľ h with⟨i,u,rfl,e⟩|⟨y,u,rfl,e⟩
   ·exact nomatch e
   ·injection e with e1 _
    subst e1
    cases v<;>rfl
def qR(prog:Program)(w:World)(i:Int)(t:Tok):(ĺ prog w).is (.inl i) (.int i t)=true:=yP i t
def qT(prog:Program)(w:World)(x:Str)(t:Tok):(ĺ prog w).is (.inr x) (.str x t)=true:=yQ x t
end L2
namespace L2
open PySem PySem.Spec PyProof.Rows
inductive V where
 |non|bl (b:Bool)|int (i:Int)|str (x:Str)|Jw (b:Array UInt8)|flt (b:UInt64)|ref (a:Addr)|ty (n:String)
 deriving DecidableEq
def RelV:V->Value->Prop
 | .non,u=>u=Value.none
 | .bl b,u=>u=Value.bool b
 | .int i,u=>∃t,u=Value.int i t
 | .str x,u=>∃t,u=Value.str x t
 | .Jw b,u=>∃t,u=Value.bytes b t
 | .flt b,u=>∃t,u=Value.float b t
 | .ref a,u=>u=Value.ref a
 | .ty n,u=>u=Value.type n
abbrev Vals:List V->List Value->Prop:=Paired RelV
theorem Vals.length{xs:List V}{us:List Value}(r:Vals xs us):xs.length=us.length:=Paired.length r
theorem Vals.get:∀{xs:List V} {us:List Value} {i:Nat} {x:V},Vals xs us->xs[i]?=some x->∃u,us[i]?=some u/\RelV x u
 |_,_,_,_,.nil,e=>by simp at e
 |_,_,0,_,.cons r _,e=>by simp at e;subst e;exact⟨_,rfl,r⟩
 |_,_,i+1,x,.cons _ t,e=>by
  obtain⟨u,h1,h2⟩:=Vals.get (i:=i) (x:=x) t (by simpa using e)
  exact⟨u,by simpa using h1,h2⟩
theorem Vals.append:∀{xs ys:List V} {us ws:List Value},Vals xs us->Vals ys ws->Vals (xs++ys) (us++ws)
 |_,_,_,_,.nil,s=>s
 |_,_,_,_,.cons r t,s=>.cons r (Vals.append t s)
theorem Vals.take:∀{xs:List V} {us:List Value} (n:Nat),Vals xs us->Vals (xs.take n) (us.take n)
 |_,_,0,_=>.nil
 |_,_,_+1,.nil=>.nil
 |_,_,n+1,.cons r t=>.cons r (Vals.take n t)
theorem Vals.drop:∀{xs:List V} {us:List Value} (n:Nat),Vals xs us->Vals (xs.drop n) (us.drop n)
 |_,_,0,r=>r
 |_,_,_+1,.nil=>.nil
 |_,_,n+1,.cons _ t=>Vals.drop n t
def mV:Option V->Option Value->Prop
 |some v,some u=>RelV v u
 |none,none=>True
 |_,_=>False
def KV{κ:Type}:List (κ×V)->List (κ×Value)->Prop:=Paired λ(p:κ×V) (q:κ×Value)=>p.1=q.1/\RelV p.2 q.2
def kV:Key->V
 | .inl i=>.int i
 | .inr x=>.str x
inductive HO where
 /-- a list -/
 |lst (xs:List V)
 /-- a tuple (never changes) -/
 |tup (xs:List V)
 /-- a dict whose keys are ints and texts;one whose keys are tuples of ints and texts (the empty one is both) -/
 |dK (kvs:List (Key×V))|dT (kvs:List (List Key×V))
 /-- a set of ints:its members,its size -/
 |set (S:Int->Bool) (n:Nat)
 /-- an instance of the class at C,its dict at dx,its attributes -/
 |ins (C dx:Addr) (fs:List (Str×V))
 /-- the dict of the instance at x -/
 |own (x:Addr)
 /-- the dict of an exception -/
 |xd (fs:List (Str×V))
 /-- a bound method,f of x -/
 |met (f x:Addr)
 /-- a range object lo,lo+1,.. below hi -/
 |rng (lo hi:Int)
 /-- a thing that is known to the object (the script;a dict while a loop walks it):read,never written while it is so -/
 |b_ (o:Obj) (u:HO)
 /-- a code object's table -/
 |mQ (q:Str)
 /-- a code made of such a table,by its name -/
 |Og (q:Str)
 /-- any other thing,by what is true of its one object (a def of one's own:Zcy a S n:=HO.ext λh=>..) -/
 |ext (φ:Heap->Prop)
abbrev Hp:=Addr->Option HO
def upd(H:Hp)(a:Addr)(o:HO):Hp:=λb=>if b=a then some o else H b
def ē{H:Hp}{a:Addr}{o:HO}:upd H a o a=some o:=by unfold upd;rw[if_pos rfl]
def č{H:Hp}{a b:Addr}{o:HO}(h:b≠a):upd H a o b=H b:=by unfold upd;rw[if_neg h]
def Jx{H:Hp}{a b:Addr}{o u:HO}(h:H a=some o)(h':H b=some u)(d:o≠u):a≠b:=by
 intro e;subst e;rw[h] at h';exact d (Option.some.inj h')
def Ī{H:Hp}{a b:Addr}{o:HO}(h:H a=some o)(h':H b=none):a≠b:=by
 intro e;subst e;rw[h] at h';cases h'
section
variable(P:Program)(w:World)
def ń(H:Hp)(h:Heap)(a:Addr):HO->Prop
 | .lst xs=>xs.length<=sizeLine/\∃(its:List Value) (n:Nat),Vals xs its/\h.get? a=some {cls:=.type "list",data:=.seq its.toArray n}
 | .tup xs=>xs.length<=sizeLine/\∃its:List Value,Vals xs its/\IsTup h a its.toArray
 | .dK kvs=>kvs.length<=sizeLine/\(a== sysModules)=false/\∃vs,KV kvs vs/\h.DictOf (ĺ P w) a vs
 | .dT kvs=>kvs.length≤sizeLine∧(a== sysModules)=false∧∃xs:List (List Key×Addr×Value),
     Paired (λ(p:List Key×V) (q:List Key×Addr×Value)=>p.1=q.1/\H q.2.1=some (.tup (p.1.map kV))/\RelV p.2 q.2.2) kvs xs/\
     ∃o es ep,h.get? a=some o/\o.ExactDict/\o.data=.dict es ep/\es.toList=xs.map (entryOfKey (tupleKind (ĺ P w)))/\(xs.map (·.1)).Nodup
 | .set S n=>h.SetOf (intKind P w) a S n
 | .ins C dx fs=>H dx=some (.own a)∧fs.length≤1000∧dx≠a∧h.get? a=some (PySem.W.instObj C dx)∧
     ∃mA,h.Ns1 dx mA/\(∀f,mV (fs.lookup f) (mA f))/\PySem.Within mA (fs.map (·.1))
 | .own _=>∃o,h.get? a=some o
 | .xd fs=>∃mA,h.Ns1 a mA/\∀f,mV (fs.lookup f) (mA f)
 | .rng lo hi=>∃t u v,h.get? a=some {cls:=.type "range",data:=.fields #[.int lo t,.int hi u,.int 1 v]}
 | .b_ o u=>h.get? a=some o/\ń H h a u
 | .mQ q=>∃ps:Array Value,h.get? a=some {cls:=.none,data:=.fields ps}/\TriplesOk ps.toList/\∀pos cv,codeAmong pos ps.toList=some cv->∃c,cv=.ref c/\H c=some (.Og q)
 | .Og q=>h.CodeRec (.ref a) q
 | .met f x=>h.get? a=some (PySem.W.methodObj (.ref f) (.ref x))
 | .ext φ=>φ h/\(∃o,h.get? a=some o)/\∀h1 h2:Heap,φ h1->(∀o,h1.get? a=some o->h2.get? a=some o)->φ h2
def cg(H:Hp)(h:Heap):Prop:=∀a o,H a=some o->ń P w H h a o
end
section
variable{P:Program}{w:World}{H H':Hp}{h h':Heap}{a:Addr}{o:HO}
theorem ń.lt(x:ń P w H h a o):a<h.objs.size:=by
 cases o with
 |lst xs=>obtain⟨_,_,_,_,e⟩:=x;exact Heap.lt_size e
 |tup xs=>obtain⟨_,_,_,p⟩:=x;exact p.lt
 |dK kvs=>obtain⟨_,_,_,_,o,_,_,e,_⟩:=x;exact Heap.lt_size e
 |dT kvs=>obtain⟨_,_,_,_,o,_,_,e,_⟩:=x;exact Heap.lt_size e
 |set S n=>obtain⟨o,_,_,_,e,_⟩:=x;exact Heap.lt_size e
 |ins C dx fs=>obtain⟨_,_,_,e,_⟩:=x;exact Heap.lt_size e
 |own y=>obtain⟨_,e⟩:=x;exact Heap.lt_size e
 |xd fs=>obtain⟨_,⟨_,_,_,e,_⟩,_⟩:=x;exact Heap.lt_size e
 |rng lo hi=>obtain⟨_,_,_,e⟩:=x;exact Heap.lt_size e
 |b_ ob u=>obtain⟨e,_⟩:=x;exact Heap.lt_size e
 |mQ q=>obtain⟨_,e,_⟩:=x;exact Heap.lt_size e
 |Og q=>obtain⟨c,o,_,_,z,e,_⟩:=x;cases z;exact Heap.lt_size e
 |met f y=>exact Heap.lt_size (show h.get? a=some _ from x)
 |ext φ=>obtain⟨_,⟨_,e⟩,_⟩:=x;exact Heap.lt_size e
theorem Paired.Oh{α β:Type}{F G:α->β->Prop}:∀{l₁:List α} {l₂:List β},Paired F l₁ l₂->(∀a b,F a b->G a b)->Paired G l₁ l₂
 |_,_,.nil,_=>.nil
 |_,_,.cons r t,f=>.cons (f _ _ r) (Paired.Oh t f)
def ń.stay(x:ń P w H h a o)(k:∀b u,(b=a\/H b=some (.own a))->h.get? b=some u->h'.get? b=some u)
 (ho:∀b,H b=some (.own a)->H' b=some (.own a))(ht:∀b xs,H b=some (.tup xs)->H' b=some (.tup xs))(hc:∀b q,H b=some (.Og q)->H' b=some (.Og q):=by exact λ_ _ z=>z):ń P w H' h' a o:=by
 induction o with
 |lst xs=>obtain⟨z,its,n,r,e⟩:=x;exact⟨z,its,n,r,k _ _ (.inl rfl) e⟩
 |tup xs=>obtain⟨z,its,r,ob,e,c⟩:=x;exact⟨z,its,r,ob,k _ _ (.inl rfl) e,c⟩
 |dK kvs=>obtain⟨z,y,vs,r,ob,es,ep,e,c⟩:=x;exact⟨z,y,vs,r,ob,es,ep,k _ _ (.inl rfl) e,c⟩
 |dT kvs=>
  obtain⟨z,y,xs,r,ob,es,ep,e,c⟩:=x
  exact⟨z,y,xs,Paired.Oh r λp q z=>⟨z.1,ht _ _ z.2.1,z.2.2⟩,ob,es,ep,k _ _ (.inl rfl) e,c⟩
 |set S n=>obtain⟨ob,es,ep,t,e,c⟩:=x;exact⟨ob,es,ep,t,k _ _ (.inl rfl) e,c⟩
 |ins C dx fs=>
  obtain⟨d,z,ne,e,mA,⟨od,es,ep,e2,c⟩,r⟩:=x
  exact⟨ho _ d,z,ne,k _ _ (.inl rfl) e,mA,⟨od,es,ep,k _ _ (.inr d) e2,c⟩,r⟩
 |own y=>obtain⟨ob,e⟩:=x;exact⟨ob,k _ _ (.inl rfl) e⟩
 |xd fs=>obtain⟨mA,⟨od,es,ep,e,c⟩,r⟩:=x;exact⟨mA,⟨od,es,ep,k _ _ (.inl rfl) e,c⟩,r⟩
 |rng lo hi=>obtain⟨t,u,v,e⟩:=x;exact⟨t,u,v,k _ _ (.inl rfl) e⟩
 |b_ ob u ih=>obtain⟨e,q⟩:=x;exact⟨k _ _ (.inl rfl) e,ih q⟩
 |mQ q=>
  obtain⟨ps,e,t,r⟩:=x
  exact⟨ps,k a _ (.inl rfl) e,t,λpos cv z=>let ⟨c,z1,z2⟩:=r pos cv z;⟨c,z1,hc c q z2⟩⟩
 |Og q=>
  obtain⟨c,o,vs,t,z,e,r⟩:=x
  cases z
  exact⟨a,o,vs,t,rfl,k a _ (.inl rfl) e,r⟩
 |met f y=>
  have e:h.get? a=some (PySem.W.methodObj (.ref f) (.ref y)):=x
  show h'.get? a=some (PySem.W.methodObj (.ref f) (.ref y))
  exact k a _ (.inl rfl) e
 |ext φ=>obtain⟨p,⟨o,e⟩,st⟩:=x;exact⟨st _ _ p λo q=>k _ _ (.inl rfl) q,⟨o,k _ _ (.inl rfl) e⟩,st⟩
theorem cg.lt(x:cg P w H h)(e:H a=some o):a<h.objs.size:=(x a o e).lt
def cg.fresh(x:cg P w H h)(e:h.objs.size<=a):H a=none:=by
 cases q:H a with
 |none=>rfl
 |some u=>exact absurd (Nat.lt_of_lt_of_le (x.lt q) e) (Nat.lt_irrefl _)
def cg.kept(x:cg P w H h)(k:∀b u,h.get? b=some u->h'.get? b=some u):cg P w H h':=λa o e=>
 (x a o e).stay (λb u _ q=>k b u q) (λ_ q=>q) λ_ _ q=>q
def cg.laid(x:cg P w H h)(k:∀b u,h.get? b=some u->h'.get? b=some u)(hp:h.objs.size<=a)(new:ń P w (upd H a o) h' a o):cg P w (upd H a o) h':=λb u e=>by
 have hn:=x.fresh hp
 by_cases hb:b=a
 ·subst hb;rw[ē] at e;cases e;exact new
 ·rw[č hb] at e
  exact(x b u e).stay (λc v _ q=>k c v q) (λc q=>by rw[č (Ī q hn)];exact q) (λc xs q=>by rw[č (Ī q hn)];exact q) λc xs q=>by rw[č (Ī q hn)];exact q
end
def Rd(H:Hp)(a:Addr)(u:HO):Prop:=H a=some u\/∃o,H a=some (.b_ o u)
def Rd.ok{P:Program}{w:World}{H:Hp}{h:Heap}{a:Addr}{u:HO}(r:Rd H a u)(x:cg P w H h):ń P w H h a u:=by
 rcases r with r|⟨o,r⟩
 ·exact x a u r
 ·obtain⟨_,q⟩:=x a _ r
  exact q
def Uu:Option HO->Prop
 |some (.lst _)=>True
 |some (.dK _)=>True
 |some (.dT _)=>True
 |some (.set _ _)=>True
 |some (.ins _ _ _)=>True
 |some (.ext _)=>True
 |some (.xd _)=>True
 |_=>False
section
variable{P:Program}{w:World}{H:Hp}{h h':Heap}{x e:Addr}{o':HO}
def cg.write(ok:cg P w H h)(mu:Uu (H x))(he:e=x\/H e=some (.own x))(k:∀b u,b≠e->h.get? b=some u->h'.get? b=some u)(heo:∃u,h'.get? e=some u)
 (new:ń P w (upd H x o') h' x o'):cg P w (upd H x o') h':=λb u q=>by
 have Uv:∀c y,H c=some (.own y)->c≠x:=λc y r z=>by subst z;rw[r] at mu;exact mu
 have ZaC:∀c xs,H c=some (.tup xs)->c≠x:=λc xs r z=>by subst z;rw[r] at mu;exact mu
 have ZaD:∀c q,H c=some (.Og q)->c≠x:=λc xs r z=>by subst z;rw[r] at mu;exact mu
 by_cases hb:b=x
 ·subst hb;rw[ē] at q;cases q;exact new
 ·rw[č hb] at q
  by_cases hbe:b=e
  ·have q':H b=some (.own x):=by
    rcases he with z|z
    ·exact absurd (hbe.trans z) hb
    ·rw[hbe];exact z
   rw[q] at q';cases q'
   obtain⟨v,hv⟩:=heo
   exact⟨v,by rw[hbe];exact hv⟩
  ·refine(ok b u q).stay (λc v hc r=>k c v ?_ r) (λc r=>by rw[č (Uv c b r)];exact r) (λc xs r=>by rw[č (ZaC c xs r)];exact r) λc xs r=>by rw[č (ZaD c xs r)];exact r
   rcases hc with rfl|hc
   ·exact hbe
   ·rintro rfl
    rcases he with z|z
    ·exact Uv c b hc z
    ·rw[hc] at z;cases z;exact hb rfl
end
structure Un(fs ex:List Addr)(H H':Hp)(h h':Heap):Prop where
 keep:∀b o,h.get? b=some o->H b=none->b∉fs->b∉ex->h'.get? b=some o
 slot:∀b o,h.get? b=some o->H b=none->b∈fs->b∉ex->∃sl,h'.get? b=some {o with slots:=sl}
 free:∀b o,h.get? b=some o->H b=none->b∉ex->H' b=none
 there:∀b o,h.get? b=some o->b∉ex->∃o',h'.get? b=some o'
 tups:∀b xs,H b=some (.tup xs)->H' b=some (.tup xs)
 mW:∀b o u,H b=some (.b_ o u)->H' b=some (.b_ o u)
 jm:∀b q,H b=some (.mQ q)->H' b=some (.mQ q)
section
variable{fs fs' ex ex':List Addr}{H H1 H2:Hp}{h h1 h2 h':Heap}{a x e:Addr}{o:HO}
def Un.any(u:Un fs ex H H1 h h1){b:Addr}{ob:Obj}(q:h.get? b=some ob)(n:H b=none)(hx:b∉ex):∃sl,h1.get? b=some {ob with slots:=sl}:=by
 by_cases hb:b∈fs
 ·exact u.slot b ob q n hb hx
 ·exact⟨ob.slots,u.keep b ob q n hb hx⟩
def Un.kept(k:∀b u,h.get? b=some u->h'.get? b=some u):Un fs ex H H h h':=
 ⟨λb ob q _ _ _=>k b ob q,λb ob q _ _ _=>⟨ob.slots,k b ob q⟩,λ_ _ _ n _=>n,λb ob q _=>⟨ob,k b ob q⟩,λ_ _ q=>q,λ_ _ _ q=>q,λ_ _ q=>q⟩
def Un.refl:Un fs ex H H h h:=Un.kept λ_ _ q=>q
def Un.laid(k:∀b u,h.get? b=some u->h'.get? b=some u)(hp:h.objs.size<=a)(hn:H a=none):Un fs ex H (upd H a o) h h' where
 keep:=λb u q _ _ _=>k b u q
 slot:=λb u q _ _ _=>⟨u.slots,k b u q⟩
 free:=λb u q n _=>by rw[č (Nat.ne_of_lt (Nat.lt_of_lt_of_le (Heap.lt_size q) hp))];exact n
 there:=λb u q _=>⟨u,k b u q⟩
 tups:=λb xs q=>by rw[č (Ī q hn)];exact q
 mW:=λb u xs q=>by rw[č (Ī q hn)];exact q
 jm:=λb ps q=>by rw[č (Ī q hn)];exact q
def Un.write(mu:Uu (H x))(he:e=x\/H e=some (.own x))(k:∀b u,b≠e->h.get? b=some u->h'.get? b=some u)(heo:∃u,h'.get? e=some u):Un fs ex H (upd H x o) h h':=by
 have hx:∀b,H b=none->b≠x:=λb n z=>by subst z;rw[n] at mu;exact mu
 have hb:∀b,H b=none->b≠e:=λb n z=>by
  subst z
  rcases he with r|r
  ·exact hx b n r
  ·rw[n] at r;cases r
 have hm:∀b u,H b=some u->¬Uu (some u)->b≠x:=λb u q nm z=>by subst z;rw[q] at mu;exact nm mu
 refine⟨λb u q n _ _=>k b u (hb b n) q,λb u q n _ _=>⟨u.slots,k b u (hb b n) q⟩,λb u q n _=>by rw[č (hx b n)];exact n,λb u q _=>?_,
  λb xs q=>by rw[č (hm b _ q λz=>z)];exact q,λb u xs q=>by rw[č (hm b _ q λz=>z)];exact q,λb ps q=>by rw[č (hm b _ q λz=>z)];exact q⟩
 by_cases hbe:b=e
 ·subst hbe;exact heo
 ·exact⟨u,k b u hbe q⟩
end
def YF(h:Heap)(H:Hp):List Addr:=(List.range h.objs.size).filter λa=>(H a).isSome
def mX(h:Heap)(H:Hp):Heap:=PySem.W.hideAll h (YF h H)
def yR(h:Heap)(H:Hp):(mX h H).objs.size=h.objs.size:=PySem.W.hideAll_size _ _
def Am{h:Heap}{H:Hp}{b:Addr}{o:Obj}(e:h.get? b=some o)(n:H b=none):(mX h H).get? b=some o:=
 PySem.W.hideAll_get _ e λhm=>by
  have q:(H b).isSome=true:=(List.mem_filter.mp hm).2
  rw[n] at q;simp at q
def Gv{h:Heap}{H:Hp}{b:Addr}{o:Obj}(e:(mX h H).get? b=some o):h.get? b=some o/\H b=none:=by
 have e':h.get? b=some o:=PySem.W.of_hideAll (YF h H) e
 refine⟨e',?_⟩
 cases q:H b with
 |none=>rfl
 |some x=>
  have hm:b∈YF h H:=List.mem_filter.mpr ⟨List.mem_range.mpr (Heap.lt_size e'),by simp[q]⟩
  have z:(mX h H).get? b=none:=PySem.W.hideAll_none (YF h H) hm
  rw[z] at e;cases e
def Gw(g h:Heap)(L:Addr):List (Addr×Obj):=(List.range h.objs.size).filterMap λa=>if a=L\/(g.get? a).isSome=true then none else(h.get? a).map λo=>(a,o)
def rest(g h:Heap)(L d:Addr):List (Addr×Obj):=(Gw g h L).filter λp=>decide (p.1≠d)
end L2
namespace L2
open PySem PySem.Spec PyProof.Rows
structure Mod(K:PySem.W.Frag)(mg:Str->Option Value)(base:Heap):Prop where
 YG:K.In base
 glob:base.Ns mainGlobals mg
 blt:∃mb,base.Ns builtinsNs mb/\∀x:Str,x≠ "__name__" ->mb x=bootBuiltins x
 nolimit:base.NoLimit
def lams:List Str:=[]
abbrev pA(x:Str):Str:=(x ++ ".<locals>.") ++ "<lambda>"
def TabsOk(K:PySem.W.Frag)(mg:Str->Option Value)(base:Heap)(H:Hp):Prop:=∀x c P,x∈lams->PySem.W.tabIn K x=some (c,P)->PySem.W.CodeHd base c P/\H P=some (.mQ (pA x))/\base.BuiltinsAt mg P
structure Cx where
 prog:Program
 w:World
 K:PySem.W.Frag
 mg:Str->Option Value
 base:Heap
 A:Around
 N:List Str
 s₀:Shared
 H₀:Hp
 env:Env
 outer:List Env
 stack:List Env
 ex:List Addr
 fn:Str->Bool
 calm:Bool
 pn:List (Addr×Obj)
 xe:Value->Shared->Prop
def frs(l:List Env):List Addr:=l.filterMap (·.frame)
abbrev Cx.fs(X:Cx):List Addr:=frs X.outer
def wz(sc:Scope)(x:Str):Prop:=sc.names.lookup x=some .local\/sc.names.lookup x=some .cell\/sc.names.lookup x=some .free
def Loc(sc:Scope)(x:Str):Prop:=sc.names.lookup x=some .local\/sc.names.lookup x=some .cell
def Look(env:Env)(h:Heap)(m:Str->Option Value)(x:Str)(u:Value):Prop:=
 (env.kindOf x=some .local/\m x=some u)\/((env.kindOf x=some .cell\/env.kindOf x=some .free)/\∃c,env.cells.lookup x=some c/\h.IsCell c (some u))
structure Cx.Ok(X:Cx):Prop where
 mod:Mod X.K X.mg X.base
 kind:X.env.scope.kind=.function
 glob:X.env.globals=mainGlobals
 blt:X.env.builtins=builtinsNs
 above:X.s₀.heap.objs.size<=X.env.locals
 inj:∀x y c,X.env.cells.lookup x=some c->X.env.cells.lookup y=some c->x=y
 has:∀x,(X.env.kindOf x=some .cell\/X.env.kindOf x=some .free)->∃c,X.env.cells.lookup x=some c
 cab:∀x c,X.fn x=true->X.env.cells.lookup x=some c->X.s₀.heap.objs.size<=c
 hd:X.calm=true->X.A.handled=none
 frames:X.A.frames=some X.stack
 stk:X.stack=X.outer\/(X.stack=X.env::X.outer/\X.env.frame=some X.env.locals)
 exf:∀b∈X.ex,b≠X.env.locals/\∀x c,X.env.cells.lookup x=some c->c≠b
 bs:∀b o,X.base.get? b=some o->X.s₀.heap.get? b=some o/\X.H₀ b=none
 Gx:X.base.objs.size<=X.s₀.heap.objs.size
 Ao:∀b o,X.base.get? b=some o->b∉X.ex
 Gy:∀b∈X.ex,b∉X.fs
 jo:X.s₀.heap.FunFrames X.base X.outer
 Oi:∀b∈X.fs,X.H₀ b=none
 tb:TabsOk X.K X.mg X.base X.H₀
structure Inv(X:Cx)(pins:List (Addr×Obj))(σ:List (Option V))(H:Hp)(s:Shared):Prop where
 ok:X.Ok
 os:s.os=X.s₀.os
 bare:AllBare s.gens
 base:Un X.fs X.ex X.H₀ H X.s₀.heap s.heap
 loc:∃m,s.heap.Ns X.env.locals m/\∀(i:Nat) (x:Str) (v:V),X.N[i]?=some x->σ[i]?=some (some v)->wz X.env.scope x->∃u,RelV v u/\Look X.env s.heap m x u
 cell:∀x c,X.env.cells.lookup x=some c->∃v,s.heap.IsCell c v
 free:H X.env.locals=none
 dG:∀x c,X.env.cells.lookup x=some c->H c=none
 pin:∀p∈X.pn++pins,s.heap.get? p.1=some p.2/\H p.1=none/\p.1≠X.env.locals/\p.1∉X.fs/\∀v,p.2.data≠ .cell v
 hok:cg X.prog X.w H s.heap
 len:σ.length=X.N.length
section
variable{X:Cx}{pins:List (Addr×Obj)}{σ:List (Option V)}{H H':Hp}{s:Shared}{h':Heap}
def Cx.Ok.ZaE(ok:X.Ok){b:Addr}{o:Obj}(e:X.base.get? b=some o):b∉X.fs:=λhb=>by
 have:=(ok.jo.mem hb).1
 rw[e] at this;cases this
theorem Inv.bs(I:Inv X pins σ H s):∀b o,X.base.get? b=some o->s.heap.get? b=some o/\H b=none:=λb o e=>
 ⟨I.base.keep b o (I.ok.bs b o e).1 (I.ok.bs b o e).2 (I.ok.ZaE e) (I.ok.Ao b o e),I.base.free b o (I.ok.bs b o e).1 (I.ok.bs b o e).2 (I.ok.Ao b o e)⟩
def Inv.bk(I:Inv X pins σ H s):∀b o,X.base.get? b=some o->s.heap.get? b=some o:=λb o e=>(I.bs b o e).1
theorem Inv.tb(I:Inv X pins σ H s):TabsOk X.K X.mg X.base H:=λx c P hx e=>⟨(I.ok.tb x c P hx e).1,I.base.jm _ _ (I.ok.tb x c P hx e).2.1,(I.ok.tb x c P hx e).2.2⟩
theorem Inv.mod(I:Inv X pins σ H s):Mod X.K X.mg X.base:=I.ok.mod
def Inv.Aq(I:Inv X pins σ H s):X.K.In s.heap:=I.ok.mod.YG.keeps I.bk
theorem Inv.lt(I:Inv X pins σ H s):X.env.locals<s.heap.objs.size:=let ⟨_,hn,_⟩:=I.loc;hn.lt
def Inv.sz(I:Inv X pins σ H s):X.s₀.heap.objs.size<=s.heap.objs.size:=Nat.le_trans I.ok.above (Nat.le_of_lt I.lt)
def Inv.ZaF(I:Inv X pins σ H s){a:Addr}(h:s.heap.objs.size<=a):a∉X.fs:=λhb=>by
 obtain⟨_,o,ho,_⟩:=I.ok.jo.mem hb
 exact absurd (Nat.lt_of_lt_of_le (Heap.lt_size ho) (Nat.le_trans I.sz h)) (Nat.lt_irrefl _)
def Inv.Oj(I:Inv X pins σ H s):∀x c,X.env.cells.lookup x=some c->c≠X.env.locals:=λx c e z=>by
 obtain⟨v,o,ho,hd⟩:=I.cell x c e
 obtain⟨m,⟨o',es,ep,ho',hd',_⟩,_⟩:=I.loc
 rw[z,ho'] at ho;cases ho;rw[hd'] at hd;cases hd
theorem Inv.jo(I:Inv X pins σ H s):s.heap.FunFrames X.base X.outer:=by
 have all:∀(l:List Env),(∀b∈frs l,b∈X.fs)->X.s₀.heap.FunFrames X.base l->s.heap.FunFrames X.base l:=by
  intro l
  induction l with
  |nil=>intro _ _;trivial
  |cons env r ih=>
   intro hs hl
   obtain⟨hk,⟨L,o,hf,hn,ho,hd⟩,hr⟩:=hl
   have hL:L∈X.fs:=hs L (by unfold frs;rw[List.filterMap_cons,hf];exact List.mem_cons_self)
   obtain⟨sl,e⟩:=I.base.slot L o ho (I.ok.Oi L hL) hL λz=>I.ok.Gy L z hL
   exact⟨hk,⟨L,_,hf,hn,e,hd⟩,ih (λb hb=>hs b (by unfold frs;rw[List.filterMap_cons,hf];exact List.mem_cons_of_mem _ hb)) hr⟩
 exact all X.outer (λ_ hb=>hb) I.ok.jo
theorem Inv.stack(I:Inv X pins σ H s):s.heap.FunFrames X.base X.stack:=by
 rcases I.ok.stk with e|⟨e,hf⟩
 ·rw[e];exact I.jo
 ·rw[e]
  obtain⟨m,hn,_⟩:=I.loc
  refine .cons (by rw[I.ok.kind];decide) hf hn ?_ I.jo
  exact Heap.get?_none_of_le (Nat.le_trans I.ok.Gx I.ok.above)
def Inv.jO(I:Inv X pins σ H s):∀b∈frs X.stack,b∈X.env.locals::X.fs:=λb hb=>by
 rcases I.ok.stk with e|⟨e,hf⟩
 ·rw[e] at hb;exact List.mem_cons_of_mem _ hb
 ·rw[e] at hb
  unfold frs at hb
  rw[List.filterMap_cons,hf] at hb
  exact hb
def Inv.wA(I:Inv X pins σ H s):∀b∈frs X.stack,H b=none:=λb hb=>by
 rcases List.mem_cons.mp (I.jO b hb) with e|hb
 ·rw[e];exact I.free
 ·obtain⟨_,o,ho,_⟩:=I.ok.jo.mem hb
  exact I.base.free b o ho (I.ok.Oi b hb) λz=>I.ok.Gy b z hb
def Inv.step{g':Array GenState}{t':Nat}{d':Drawn}{ch:List Addr}(I:Inv X pins σ H s)
 (hch:∀b∈ch,(b∈X.ex\/X.s₀.heap.objs.size<=b)/\b≠X.env.locals/\(∀x c,X.env.cells.lookup x=some c->c≠b)/\∀p∈X.pn++pins,p.1≠b)
 (keep:∀b o,b≠X.env.locals->b∉X.fs->b∉ch->s.heap.get? b=some o->H b=none->h'.get? b=some o)
 (slot:∀b o,b≠X.env.locals->b∈X.fs->b∉ch->s.heap.get? b=some o->H b=none->∃sl,h'.get? b=some {o with slots:=sl})(free:∀b o,b∉ch->s.heap.get? b=some o->H b=none->H' b=none)
 (there:∀b o,b∉ch->s.heap.get? b=some o->∃o',h'.get? b=some o')
 (tups:∀b xs,H b=some (.tup xs)->H' b=some (.tup xs))(mW:∀b o u,H b=some (.b_ o u)->H' b=some (.b_ o u))(jm:∀b q,H b=some (.mQ q)->H' b=some (.mQ q))
 (ns:∀m,s.heap.Ns X.env.locals m->h'.Ns X.env.locals m)(hok:cg X.prog X.w H' h')(hg:AllBare g') :
 Inv X pins σ H' {s with heap:=h',gens:=g',drawn:=d',toks:=t'}:=by
 have neL:∀b o,X.s₀.heap.get? b=some o->b≠X.env.locals:=λb o e=>Nat.ne_of_lt (Nat.lt_of_lt_of_le (Heap.lt_size e) I.ok.above)
 have YH:∀b o,X.s₀.heap.get? b=some o->b∉X.ex->b∉ch:=λb o e hx hb=>by
  rcases(hch b hb).1 with z|z
  ·exact hx z
  ·exact absurd (Nat.lt_of_lt_of_le (Heap.lt_size e) z) (Nat.lt_irrefl _)
 have cellK:∀x c,X.env.cells.lookup x=some c->∀v,s.heap.IsCell c v->h'.IsCell c v:=λx c e v ⟨o,ho,hd⟩=>by
  have Uw:c∉ch:=λz=>(hch c z).2.2.1 x c e rfl
  by_cases hc:c∈X.fs
  ·obtain⟨sl,q⟩:=slot c o (I.Oj x c e) hc Uw ho (I.dG x c e)
   exact⟨_,q,hd⟩
  ·exact⟨o,keep c o (I.Oj x c e) hc Uw ho (I.dG x c e),hd⟩
 refine⟨I.ok,I.os,hg,⟨λb o e n hb hx=>?_,λb o e n hb hx=>?_,λb o e n hx=>?_,λb o e hx=>?_,λb xs e=>tups b xs (I.base.tups b xs e),λb o xs e=>mW b o xs (I.base.mW b o xs e),λb ps e=>?_⟩,?_,λx c e=>?_,?_,λx c e=>?_,λp hp=>?_,hok,I.len⟩
 ·exact keep b o (neL b o e) hb (YH b o e hx) (I.base.keep b o e n hb hx) (I.base.free b o e n hx)
 ·obtain⟨sl,e1⟩:=I.base.slot b o e n hb hx
  obtain⟨sl',e2⟩:=slot b _ (neL b o e) hb (YH b o e hx) e1 (I.base.free b o e n hx)
  exact⟨sl',e2⟩
 ·obtain⟨o',e1⟩:=I.base.there b o e hx
  exact free b o' (YH b o e hx) e1 (I.base.free b o e n hx)
 ·obtain⟨o',e1⟩:=I.base.there b o e hx
  exact there b o' (YH b o e hx) e1
 ·exact jm b ps (I.base.jm b ps e)
 ·obtain⟨m,hn,hl⟩:=I.loc
  refine⟨m,ns m hn,λi x v e1 e2 e3=>?_⟩
  obtain⟨u,r,l⟩:=hl i x v e1 e2 e3
  refine⟨u,r,?_⟩
  rcases l with l|⟨k,c,e,z⟩
  ·exact .inl l
  ·exact .inr ⟨k,c,e,cellK x c e _ z⟩
 ·obtain⟨v,z⟩:=I.cell x c e
  exact⟨v,cellK x c e v z⟩
 ·obtain⟨m,⟨o,_,_,ho,_⟩,_⟩:=I.loc
  exact free _ o (λz=>(hch _ z).2.1 rfl) ho I.free
 ·obtain⟨v,o,ho,hd⟩:=I.cell x c e
  exact free c o (λz=>(hch c z).2.2.1 x c e rfl) ho (I.dG x c e)
 ·obtain⟨e,n,ne,nf,d⟩:=I.pin p hp
  have Uw:p.1∉ch:=λz=>(hch p.1 z).2.2.2 p hp rfl
  exact⟨keep p.1 p.2 ne nf Uw e n,free p.1 p.2 Uw e n,ne,nf,d⟩
def Inv.un{t':Nat}(I:Inv X pins σ H s)(u:Un X.fs [] H H' s.heap h')(hok:cg X.prog X.w H' h'):Inv X pins σ H' {s with heap:=h',toks:=t'}:=by
 obtain⟨m,⟨o,es,ep,ho,r⟩,_⟩:=id I.loc
 obtain⟨sl,hL⟩:=u.any ho I.free (by simp)
 exact I.step (g':=s.gens) (d':=s.drawn) (ch:=[]) (λ_ z=>nomatch z) (λb o _ hb _ e n=>u.keep b o e n hb (by simp)) (λb o _ hb _ e n=>u.slot b o e n hb (by simp)) (λb o _ e n=>u.free b o e n (by simp)) (λb o _ e=>u.there b o e (by simp)) u.tups u.mW u.jm (λm' hm=>by
  obtain⟨o',es',ep',ho',r'⟩:=hm
  rw[ho] at ho';cases ho'
  exact⟨_,es',ep',hL,r'⟩) hok I.bare
def Inv.call{g':Array GenState}{t':Nat}{d':Drawn}{ch:List Addr}(I:Inv X pins σ H s)(u:Un (frs X.stack) ch H H' s.heap h')(hok:cg X.prog X.w H' h')(hg:AllBare g')
 (hch:∀b∈ch,(b∈X.ex\/X.s₀.heap.objs.size<=b)/\b≠X.env.locals/\(∀x c,X.env.cells.lookup x=some c->c≠b)/\∀p∈X.pn++pins,p.1≠b) :
 Inv X pins σ H' {s with heap:=h',gens:=g',drawn:=d',toks:=t'}:=by
 obtain⟨m,⟨o,es,ep,ho,r⟩,_⟩:=id I.loc
 obtain⟨sl,hL⟩:=u.any ho I.free λz=>(hch _ z).2.1 rfl
 exact I.step (ch:=ch) hch (λb o hL hb hc e n=>u.keep b o e n (λz=>(List.mem_cons.mp (I.jO b z)).elim hL hb) hc) (λb o _ _ hc e n=>u.any e n hc) (λb o hc e n=>u.free b o e n hc) (λb o hc e=>u.there b o e hc) u.tups u.mW u.jm (λm' hm=>by
  obtain⟨o',es',ep',ho',r'⟩:=hm
  rw[ho] at ho';cases ho'
  exact⟨_,es',ep',hL,r'⟩) hok hg
def Inv.turned{t':Nat}{it:Addr}(I:Inv X pins σ H s)(k:∀b o,b≠it->s.heap.get? b=some o->h'.get? b=some o)(hn:H it=none)(hL:it≠X.env.locals)
 (h1:it∈X.ex\/X.s₀.heap.objs.size<=it)(h2:∀x c,X.env.cells.lookup x=some c->c≠it)(h3:∀p∈X.pn++pins,p.1≠it):Inv X pins σ H {s with heap:=h',toks:=t'}:=by
 have Ux:∀b u,H b=some u->b≠it:=λb u e z=>by rw[z,hn] at e;cases e
 refine I.step (g':=s.gens) (d':=s.drawn) (ch:=[it]) (λb hb=>?_) (λb o _ _ hc e _=>k b o (λz=>hc (by simp[z])) e) (λb o _ _ hc e _=>⟨o.slots,k b o (λz=>hc (by simp[z])) e⟩) (λ_ _ _ _ n=>n)
  (λb o hc e=>⟨o,k b o (λz=>hc (by simp[z])) e⟩) (λ_ _ e=>e) (λ_ _ _ e=>e) (λ_ _ e=>e) (λm hm=>?_) (λb u e=>?_) I.bare
 ·have e:b=it:=by simpa using hb
  subst e
  exact⟨h1,hL,h2,h3⟩
 ·obtain⟨o,es,ep,ho,r⟩:=hm
  exact⟨o,es,ep,k _ o (Ne.symm hL) ho,r⟩
 ·refine(I.hok b u e).stay (λc v hc q=>k c v ?_ q) (λ_ q=>q) λ_ _ q=>q
  rcases hc with z|z
  ·rw[z];exact Ux b u e
  ·exact Ux c _ z
def Inv.tok(I:Inv X pins σ H s)(t:Nat):Inv X pins σ H {s with toks:=t}:=I.un (h':=s.heap) (t':=t) Un.refl I.hok
theorem Inv.kept{t':Nat}(I:Inv X pins σ H s)(k:∀b u,s.heap.get? b=some u->h'.get? b=some u):Inv X pins σ H {s with heap:=h',toks:=t'}:=I.un (Un.kept k) (I.hok.kept k)
theorem Inv.laid{a:Addr}{o:HO}{t':Nat}(I:Inv X pins σ H s)(k:∀b u,s.heap.get? b=some u->h'.get? b=some u)(hp:s.heap.objs.size<=a)(new:ń X.prog X.w (upd H a o) h' a o) :
 Inv X pins σ (upd H a o) {s with heap:=h',toks:=t'}:=I.un (Un.laid k hp (I.hok.fresh hp)) (I.hok.laid k hp new)
theorem Inv.write{x e:Addr}{o:HO}{t':Nat}(I:Inv X pins σ H s)(mu:Uu (H x))(he:e=x\/H e=some (.own x))(k:∀b u,b≠e->s.heap.get? b=some u->h'.get? b=some u)(heo:∃u,h'.get? e=some u)
 (new:ń X.prog X.w (upd H x o) h' x o):Inv X pins σ (upd H x o) {s with heap:=h',toks:=t'}:=I.un (Un.write mu he k heo) (I.hok.write mu he k heo new)
def Inv.wB{Jy:List (Addr×Obj)}(I:Inv X pins σ H s)(h:∀p∈Jy,s.heap.get? p.1=some p.2/\H p.1=none/\p.1≠X.env.locals/\p.1∉X.fs/\∀v,p.2.data≠ .cell v):Inv X Jy σ H s:=
 ⟨I.ok,I.os,I.bare,I.base,I.loc,I.cell,I.free,I.dG,λp hp=>(List.mem_append.mp hp).elim (λz=>I.pin p (List.mem_append_left _ z)) (h p),I.hok,I.len⟩
def qU{N:List Str}(hN:N.Nodup){i j:Nat}{x:Str}(a:N[i]?=some x)(b:N[j]?=some x):i=j:=by
 obtain⟨h1,e1⟩:=List.getElem?_eq_some_iff.mp a
 obtain⟨h2,e2⟩:=List.getElem?_eq_some_iff.mp b
 exact(List.getElem_inj hN).mp (e1.trans e2.symm)
def nM{M:Model}{A:Around}{E:Value->Shared->Prop}{i:Nat}{x:Str}{v:V}{u:Value}{Q:Unit->Shared->Prop}(I:Inv X pins σ H s)(hN:X.N.Nodup)(hi:X.N[i]?=some x)(hx:Loc X.env.scope x)(r:RelV v u)
 (h:∀s',Inv X pins (σ.set i (some v)) H s'->(∃a,Heap.SameBut a s.heap s'.heap/\(a=X.env.locals\/X.env.cells.lookup x=some a))->Q () s')(hf:X.fn x=true\/X.env.scope.names.lookup x=some .local:=by first|exact .inl rfl|exact .inr rfl|assumption):wpAny M A (storeName X.env x u) Q E s:=by
 obtain⟨m,hn,hl⟩:=id I.loc
 have hcls:(X.env.scope.kind== .class || (X.env.scope.kind== .module && X.env.locals != X.env.globals))=false:=by rw[I.ok.kind];rfl
 have Zck:i < σ.length:=by rw[I.len];exact(List.getElem?_eq_some_iff.mp hi).1
 have Oj:=I.Oj
 have tracked:∀{a:Addr} {h':Heap},(∃o,s.heap.get? a=some o/\H a=none)->Heap.SameBut a s.heap h'->cg X.prog X.w H h':=fun{a h'} ha hs b ob e=>by
  obtain⟨_,_,hfree⟩:=ha
  refine(I.hok b ob e).stay (λc w' hc q=>(hs.2 c ?_).trans q) (λ_ q=>q) λ_ _ q=>q
  rintro rfl
  rcases hc with rfl|hc
  ·rw[hfree] at e;cases e
  ·rw[hfree] at hc;cases hc
 rcases hx with hk|hk
 ·refine wpAny_storeName_local hk hn (λh' hn' hs=>?_) hcls
  obtain⟨oL,_,_,hoL,_⟩:=id hn
  refine h _ ⟨I.ok,I.os,I.bare,⟨λb o e n hb hx=>?_,λb o e n hb hx=>?_,I.base.free,λb o e hx=>?_,I.base.tups,I.base.mW,I.base.jm⟩,⟨_,hn',λj y v' e1 e2 e3=>?_⟩,λy c e=>?_,I.free,I.dG,λp hp=>?_,tracked ⟨oL,hoL,I.free⟩ hs,by simpa using I.len⟩ ⟨_,hs,.inl rfl⟩
  ·exact(hs.2 b (Nat.ne_of_lt (Nat.lt_of_lt_of_le (Heap.lt_size e) I.ok.above))).trans (I.base.keep b o e n hb hx)
  ·obtain⟨sl,e1⟩:=I.base.slot b o e n hb hx
   exact⟨sl,(hs.2 b (Nat.ne_of_lt (Nat.lt_of_lt_of_le (Heap.lt_size e) I.ok.above))).trans e1⟩
  ·obtain⟨o',e1⟩:=I.base.there b o e hx
   exact⟨o',(hs.2 b (Nat.ne_of_lt (Nat.lt_of_lt_of_le (Heap.lt_size e) I.ok.above))).trans e1⟩
  ·by_cases hj:j=i
   ·subst hj
    rw[hi] at e1;cases e1
    rw[List.getElem?_set_self Zck] at e2
    cases e2
    exact⟨u,r,.inl ⟨hk,by simp⟩⟩
   ·rw[List.getElem?_set_ne (Ne.symm hj)] at e2
    obtain⟨u',r',q⟩:=hl j y v' e1 e2 e3
    refine⟨u',r',?_⟩
    rcases q with⟨k,e⟩|⟨k,c,e,z⟩
    ·refine .inl ⟨k,?_⟩
     have:y≠x:=λe=>hj (qU hN e1 (e▸hi))
     simp[this,e]
    ·exact .inr ⟨k,c,e,z.sameBut hs (Oj y c e)⟩
  ·obtain⟨w',z⟩:=I.cell y c e
   exact⟨w',z.sameBut hs (Oj y c e)⟩
  ·obtain⟨e,n,ne,nf,d⟩:=I.pin p hp
   exact⟨(hs.2 p.1 ne).trans e,n,ne,nf,d⟩
 ·have hfn:X.fn x=true:=by
   rcases hf with z|z
   ·exact z
   ·rw[z] at hk;cases hk
  obtain⟨c,hc⟩:=I.ok.has x (.inl hk)
  obtain⟨w',z⟩:=I.cell x c hc
  refine wpAny_storeName_cell I.ok.kind hk hc z (λh' hc' hs=>?_)
  obtain⟨oc,hoc,ZaG⟩:=id z
  refine h {s with heap:=h'} ⟨I.ok,I.os,I.bare,⟨λb o e n hb hx=>?_,λb o e n hb hx=>?_,I.base.free,λb o e hx=>?_,I.base.tups,I.base.mW,I.base.jm⟩,⟨m,hn.sameBut hs (Ne.symm (Oj x c hc)),λj y v' e1 e2 e3=>?_⟩,λy c' e=>?_,I.free,I.dG,λp hp=>?_,tracked ⟨oc,hoc,I.dG x c hc⟩ hs,by simpa using I.len⟩ ⟨c,hs,.inr hc⟩
  ·exact(hs.2 b (Nat.ne_of_lt (Nat.lt_of_lt_of_le (Heap.lt_size e) (I.ok.cab x c hfn hc)))).trans (I.base.keep b o e n hb hx)
  ·obtain⟨sl,e1⟩:=I.base.slot b o e n hb hx
   exact⟨sl,(hs.2 b (Nat.ne_of_lt (Nat.lt_of_lt_of_le (Heap.lt_size e) (I.ok.cab x c hfn hc)))).trans e1⟩
  ·obtain⟨o',e1⟩:=I.base.there b o e hx
   exact⟨o',(hs.2 b (Nat.ne_of_lt (Nat.lt_of_lt_of_le (Heap.lt_size e) (I.ok.cab x c hfn hc)))).trans e1⟩
  ·by_cases hj:j=i
   ·subst hj
    rw[hi] at e1;cases e1
    rw[List.getElem?_set_self Zck] at e2
    cases e2
    exact⟨u,r,.inr ⟨.inl hk,c,hc,hc'⟩⟩
   ·rw[List.getElem?_set_ne (Ne.symm hj)] at e2
    obtain⟨u',r',q⟩:=hl j y v' e1 e2 e3
    refine⟨u',r',?_⟩
    rcases q with q|⟨k,c',e,z'⟩
    ·exact .inl q
    ·refine .inr ⟨k,c',e,z'.sameBut hs ?_⟩
     rintro rfl
     exact hj (qU hN e1 (I.ok.inj _ _ _ e hc▸hi))
  ·by_cases hcc:c'=c
   ·subst hcc;exact⟨_,hc'⟩
   ·obtain⟨w2,z2⟩:=I.cell y c' e
    exact⟨w2,z2.sameBut hs hcc⟩
  ·obtain⟨e,n,ne,nf,d⟩:=I.pin p hp
   refine⟨(hs.2 p.1 ?_).trans e,n,ne,nf,d⟩
   intro q
   rw[q,hoc] at e
   have q':oc=p.2:=Option.some.inj e
   exact d w' (by rw[<-q'];exact ZaG)
def qW{M:Model}{A:Around}{E:Value->Shared->Prop}{i:Nat}{x:Str}{v:V}{u:Value}{Q:Unit->Shared->Prop}(I:Inv X pins σ H s)(hN:X.N.Nodup)(hi:X.N[i]?=some x)(hx:Loc X.env.scope x)(r:RelV v u)
 (h:∀s',Inv X pins (σ.set i (some v)) H s'->Q () s')(hf:X.fn x=true\/X.env.scope.names.lookup x=some .local:=by first|exact .inl rfl|exact .inr rfl|assumption):wpAny M A (storeName X.env x u) Q E s:=
 nM I hN hi hx r (λs' I' _=>h s' I') hf
def Inv.call'{s':Shared}{ch:List Addr}(I:Inv X pins σ H s)(ho:s'.os=s.os)(u:Un (frs X.stack) ch H H' s.heap s'.heap)(hok:cg X.prog X.w H' s'.heap)(hg:AllBare s'.gens)
 (hch:∀b∈ch,(b∈X.ex\/X.s₀.heap.objs.size<=b)/\b≠X.env.locals/\(∀x c,X.env.cells.lookup x=some c->c≠b)/\∀p∈X.pn++pins,p.1≠b):Inv X pins σ H' s':=by
 obtain⟨h',g',d',t',o'⟩:=s'
 have e:o'=s.os:=ho
 subst e
 exact I.call (g':=g') (t':=t') (d':=d') u hok hg hch
end
abbrev XK:=Value->Option Addr->Hp->Prop
abbrev St:=List (Option V)
abbrev VK:=V->Hp->Prop
abbrev TE:=St->Hp->VK->Prop
abbrev TT:=St->Hp->(Bool->Hp->Prop)->Prop
abbrev TA:=St->Hp->(List V->Hp->Prop)->Prop
structure Ends where
 nx:St->Hp->Prop
 rt:VK
 bk:St->Hp->Prop:=λ_ _=>False
 ct:St->Hp->Prop:=λ_ _=>False
abbrev TS:=Ends->St->Hp->Prop
def EP(X:Cx)(pins:List (Addr×Obj))(σ:St)(Q:VK)(u:Value)(s':Shared):Prop:=∃v H',Inv X pins σ H' s'/\RelV v u/\Q v H'
def TP(X:Cx)(pins:List (Addr×Obj))(σ:St)(Q:Bool->Hp->Prop)(b:Bool)(s':Shared):Prop:=∃H',Inv X pins σ H' s'/\Q b H'
def AP(X:Cx)(pins:List (Addr×Obj))(σ:St)(Q:List V->Hp->Prop)(us:List Value)(s':Shared):Prop:=∃vs H',Inv X pins σ H' s'/\Vals vs us/\Q vs H'
def SP(X:Cx)(pins:List (Addr×Obj))(D:Ends)(f:Flow)(s':Shared):Prop:=
 match f with
 | .next=>∃σ' H',Inv X pins σ' H' s'/\D.nx σ' H'
 | .brk=>∃σ' H',Inv X pins σ' H' s'/\D.bk σ' H'
 | .cont=>∃σ' H',Inv X pins σ' H' s'/\D.ct σ' H'
 | .ret u=>∃v σ' H',Inv X pins σ' H' s'/\RelV v u/\D.rt v H'
def PE(X:Cx)(e:Expr)(t:TE):Prop:=
 ∀(pins:List (Addr×Obj)) (s:Shared) (σ:St) (H:Hp) (Q:VK),Inv X pins σ H s->t σ H Q->wpAny (model X.prog X.w) X.A (eval e X.env) (EP X pins σ Q) X.xe s
def PT(X:Cx)(e:Expr)(t:TT):Prop:=
 ∀(pins:List (Addr×Obj)) (s:Shared) (σ:St) (H:Hp) (Q:Bool->Hp->Prop),Inv X pins σ H s->t σ H Q->wpAny (model X.prog X.w) X.A (isTrue e X.env (eval e X.env)) (TP X pins σ Q) X.xe s
def PW(X:Cx)(e:Expr)(t:TT):Prop:=
 ∀(whole:Sem Value) (pins:List (Addr×Obj)) (s:Shared) (σ:St) (H:Hp) (Q:Bool->Hp->Prop),Inv X pins σ H s->t σ H Q->wpAny (model X.prog X.w) X.A (isTrue e X.env whole) (TP X pins σ Q) X.xe s
def PW.pt{X:Cx}{e:Expr}{t:TT}(h:PW X e t):PT X e t:=h _
def PA(X:Cx)(es:List Expr)(t:TA):Prop:=
 ∀(pos:Pos) (pins:List (Addr×Obj)) (s:Shared) (σ:St) (H:Hp) (Q:List V->Hp->Prop),Inv X pins σ H s->t σ H Q->wpAny (model X.prog X.w) X.A (spliced (backTo pos (starEach es X.env))) (AP X pins σ Q) X.xe s
def PS(X:Cx)(st:Stmt)(t:TS):Prop:=
 ∀(pins:List (Addr×Obj)) (s:Shared) (σ:St) (H:Hp) (D:Ends),Inv X pins σ H s->t D σ H->wpAny (model X.prog X.w) X.A (exec st X.env) (SP X pins D) X.xe s
def fB(X:Cx)(st:List Stmt)(t:TS):Prop:=
 ∀(pins:List (Addr×Obj)) (s:Shared) (σ:St) (H:Hp) (D:Ends),Inv X pins σ H s->t D σ H->wpAny (model X.prog X.w) X.A (execs st X.env) (SP X pins D) X.xe s
def Ń{α:Type}{t:Sem α}{Q Q':α->Shared->Prop}{M:Model}{A:Around}{E:Value->Shared->Prop}{s:Shared}(h:wpAny M A t Q E s)(hQ:∀a s,Q a s->Q' a s):wpAny M A t Q' E s:=wpAny_mono h hQ λ_ _ x=>x
end L2
namespace L2
open PySem PySem.Spec PyProof.Rows
section
variable{X:Cx}
def pB(i:Nat):TE:=λσ H Q=>∃v,σ[i]?=some (some v)/\Q v H
def tC(v:V):TE:=λ_ H Q=>Q v H
def aZ{i:Nat}{x:Str}{pos:Pos}(hN:X.N[i]?=some x)(hv:wz X.env.scope x)(hd:(x== ("__debug__" :Str))=false:=by decide)(hcd:(x== ("__classdict__" :Str))=false:=by decide):PE X (.Name x pos) (pB i):=by
 intro pins s σ H Q I h
 obtain⟨v,e,h⟩:=h
 obtain⟨m,hn,hl⟩:=I.loc
 obtain⟨u,r,l⟩:=hl i x v hN e hv
 have fin:EP X pins σ Q u s:=⟨v,H,I,r,h⟩
 rcases l with⟨hk,hm⟩|⟨hk,c,hc,hcell⟩
 ·exact wpAny_Name (wpAny_loadName_local I.ok.kind hk hn hm fin) hd
 ·rcases hk with hk|hk
  ·exact wpAny_Name (wpAny_loadName_cell I.ok.kind hk hc hcell fin) hd
  ·exact wpAny_Name (wpAny_loadName_free I.ok.kind hk hc hcell fin hcd) hd
def Ol{i j pos}:PE X (.Constant (.int i) j pos) (tC (.int i)):=λ_ _ _ H _ I h=>wpAny_Constant_int ⟨.int i,H,I.tok _,⟨_,rfl⟩,h⟩
def Uy{b j pos}:PE X (.Constant (.bool b) j pos) (tC (.bl b)):=λ_ _ _ H _ I h=>Constant_bool ⟨.bl b,H,I,rfl,h⟩
def Om{j pos}:PE X (.Constant .none j pos) (tC .non):=λ_ _ _ H _ I h=>Constant_none ⟨.non,H,I,rfl,h⟩
def Oo{x j pos}:PE X (.Constant (.str x) j pos) (tC (.str x)):=λ_ _ _ H _ I h=>Calls.Constant_str ⟨.str x,H,I.tok _,⟨_,rfl⟩,h⟩
def Gl(X:Cx)(x:Str):Prop:=X.env.kindOf x=some .globalImplicit
def pC{E:Value->Shared->Prop}{pins:List (Addr×Obj)}{s:Shared}{σ:St}{H:Hp}{x:Str}{u:Value}{pos:Pos}{Q:Value->Shared->Prop}(I:Inv X pins σ H s)(hg:Gl X x)(hm:X.mg x=some u)(h:Q u s)
 (hd:(x== ("__debug__" :Str))=false:=by decide):wpAny (model X.prog X.w) X.A (eval (.Name x pos) X.env) Q E s:=
 Calls.Name_function_global I.ok.kind hg (Calls.loadGlobal_global (by rw[I.ok.glob];exact I.mod.glob.keeps I.bk) hm h) hd
def gG{E:Value->Shared->Prop}{pins:List (Addr×Obj)}{s:Shared}{σ:St}{H:Hp}{x:Str}{u:Value}{pos:Pos}{Q:Value->Shared->Prop}(I:Inv X pins σ H s)(hg:Gl X x)(hm:X.mg x=none)(hv:bootBuiltins x=some u)(h:Q u s)
 (hn:x≠ "__name__" := by decide)(hd:(x== ("__debug__" :Str))=false:=by decide):wpAny (model X.prog X.w) X.A (eval (.Name x pos) X.env) Q E s:=by
 obtain⟨mb,h1,h2⟩:=I.mod.blt
 exact Calls.Name_function_global I.ok.kind hg (Calls.loadGlobal_builtin (by rw[I.ok.glob];exact I.mod.glob.keeps I.bk) hm (by rw[I.ok.blt];exact h1.keeps I.bk) ((h2 x hn).trans hv) h) hd
def jz{x:Str}{v:V}{u:Value}{pos:Pos}(hg:Gl X x)(hm:X.mg x=some u)(r:RelV v u)(hd:(x== ("__debug__" :Str))=false:=by decide):PE X (.Name x pos) (tC v):=
 λ_ _ _ H _ I h=>pC I hg hm ⟨v,H,I,r,h⟩ hd
variable{a b:Expr}{ta tb:TE}{pos:Pos}
variable{tA Uz:TT}{rest:List Expr}
def ZaH(t u:TT):TT:=λσ H Q=>t σ H λc H1=>if c=true then u σ H1 Q else Q false H1
def tOr(t u:TT):TT:=λσ H Q=>t σ H λc H1=>if c=true then Q true H1 else u σ H1 Q
def ZaI(t:TT):TT:=λσ H Q=>t σ H λc H1=>Q (!c) H1
def Gz(ha:PT X a tA):PW X (.BoolOp .And [a] pos) tA:=by
 intro wh pins s σ H Q I h
 refine isTrue_and (Ń (ha pins s σ H Q I h) λc s1 e=>?_)
 cases c with
 |true=>exact isTrue_and_nil e
 |false=>exact e
def Oq(ha:PT X a tA):PW X (.BoolOp .Or [a] pos) tA:=by
 intro wh pins s σ H Q I h
 refine isTrue_or (Ń (ha pins s σ H Q I h) λc s1 e=>?_)
 cases c with
 |false=>exact isTrue_or_nil e
 |true=>exact e
def Ot(ha:PT X a tA)(hb:PW X (.BoolOp .And (b::rest) pos) Uz):PW X (.BoolOp .And (a::b::rest) pos) (ZaH tA Uz):=by
 intro wh pins s σ H Q I h
 refine isTrue_and (Ń (ha pins s σ H _ I h) λc s1 ⟨H1,I1,q1⟩=>?_)
 cases c with
 |true=>exact hb wh pins s1 σ H1 Q I1 q1
 |false=>exact⟨H1,I1,q1⟩
def UG(ha:PT X a tA)(hb:PW X (.BoolOp .Or (b::rest) pos) Uz):PW X (.BoolOp .Or (a::b::rest) pos) (tOr tA Uz):=by
 intro wh pins s σ H Q I h
 refine isTrue_or (Ń (ha pins s σ H _ I h) λc s1 ⟨H1,I1,q1⟩=>?_)
 cases c with
 |true=>exact⟨H1,I1,q1⟩
 |false=>exact hb wh pins s1 σ H1 Q I1 q1
def Ou(ha:PT X a tA):PT X (.UnaryOp .Not a pos) (ZaI tA):=by
 intro pins s σ H Q I h
 exact isTrue_not (ha pins s σ H (λc H1=>Q (!c) H1) I h)
def Ov{op}{t:TE}(h:PE X a t):PE X (.BoolOp op [a] pos) t:=λpins s σ H Q I hw=>BoolOp_one (h pins s σ H Q I hw)
end
end L2
namespace L2
open PySem PySem.Spec PyProof.Rows
def Ţ(K:PySem.W.Frag)(H:Hp)(a:Addr)(xs:List V):Prop:=
 Rd H a (.lst xs)\/
  ∃(o:Obj) (its:Array Value) (n:Nat),K.lookup a=some o/\o.cls=.type "list" /\o.dict=none/\o.data=.seq its n/\its.size<=sizeLine/\Vals xs its.toList
def bU(K:PySem.W.Frag)(H:Hp)(a:Addr)(xs:List V):Prop:=
 Rd H a (.tup xs)\/
  ∃(o:Obj) (its:Array Value) (n:Nat),K.lookup a=some o/\o.cls=.type "tuple" /\o.data=.seq its n/\its.size<=sizeLine/\Vals xs its.toList
def ZaJ:Value->Option V
 | .none=>some .non
 | .bool b=>some (.bl b)
 | .int i _=>some (.int i)
 | .str x _=>some (.str x)
 | .bytes b _=>some (.Jw b)
 | .float b _=>some (.flt b)
 | .ref a=>some (.ref a)
 | .type n=>some (.ty n)
 |_=>none
def RelV.abs{x:V}{u:Value}(r:RelV x u):ZaJ u=some x:=by
 cases x with
 |non=>cases r;rfl
 |bl _=>cases r;rfl
 |int _=>obtain⟨t,rfl⟩:=r;rfl
 |str _=>obtain⟨t,rfl⟩:=r;rfl
 |Jw _=>obtain⟨t,rfl⟩:=r;rfl
 |flt _=>obtain⟨t,rfl⟩:=r;rfl
 |ref _=>cases r;rfl
 |ty _=>cases r;rfl
theorem RelV.inj{x y:V}{u:Value}(r:RelV x u)(q:RelV y u):x=y:=Option.some.inj (r.abs.symm.trans q.abs)
theorem Vals.inj:∀{xs ys:List V} {us:List Value},Vals xs us->Vals ys us->xs=ys
 |_,_,_,.nil,.nil=>rfl
 |_,_,_,.cons r t,.cons r' t'=>by rw[r.inj r',Vals.inj t t']
section
variable{X:Cx}{pins:List (Addr×Obj)}{σ:St}{H:Hp}{s:Shared}{a:Addr}{xs ys:List V}
def Ţ.of{K:PySem.W.Frag}(h:H a=some (.lst xs)):Ţ K H a xs:=.inl (.inl h)
def bU.of{K:PySem.W.Frag}(h:H a=some (.tup xs)):bU K H a xs:=.inl (.inl h)
def Inv.list(I:Inv X pins σ H s)(h:Ţ X.K H a xs):∃its:List Value,Vals xs its/\PlainL s.heap a its.toArray/\xs.length<=sizeLine:=by
 rcases h with h|⟨o,its,n,hk,hc,hd,hs,hz,r⟩
 ·obtain⟨z,its,n,r,e⟩:=h.ok I.hok
  exact⟨its,r,⟨_,n,e,rfl,rfl,rfl⟩,z⟩
 ·refine⟨its.toList,r,⟨o,n,I.Aq a o hk,hc,hd,by simpa using hs⟩,?_⟩
  have e:=r.length
  simp only[Array.length_toList] at e
  omega
def Inv.tuple(I:Inv X pins σ H s)(h:bU X.K H a xs):∃its:List Value,Vals xs its/\IsTup s.heap a its.toArray/\xs.length<=sizeLine:=by
 rcases h with h|⟨o,its,n,hk,hc,hs,hz,r⟩
 ·obtain⟨z,its,r,p⟩:=h.ok I.hok
  exact⟨its,r,p,z⟩
 ·refine⟨its.toList,r,⟨o,I.Aq a o hk,hc,n,by simpa using hs⟩,?_⟩
  have e:=r.length
  simp only[Array.length_toList] at e
  omega
def Inv.qX(I:Inv X pins σ H s)(h:Ţ X.K H a xs)(h':Ţ X.K H a ys):xs=ys:=by
 obtain⟨its,r,⟨o,n,e,_,_,d⟩,_⟩:=I.list h
 obtain⟨its',r',⟨o',n',e',_,_,d'⟩,_⟩:=I.list h'
 rw[e] at e';cases e'
 rw[d] at d'
 injection d' with d1 _
 have:its=its':=by simpa using congrArg Array.toList d1
 subst this
 exact r.inj r'
def Inv.yS(I:Inv X pins σ H s)(h:bU X.K H a xs)(h':bU X.K H a ys):xs=ys:=by
 obtain⟨its,r,⟨o,e,_,n,d⟩,_⟩:=I.tuple h
 obtain⟨its',r',⟨o',e',_,n',d'⟩,_⟩:=I.tuple h'
 rw[e] at e';cases e'
 rw[d] at d'
 injection d' with d1 _
 have:its=its':=by simpa using congrArg Array.toList d1
 subst this
 exact r.inj r'
end
abbrev Cx.wish(X:Cx)(E:Value->Shared->Prop):Cx:={X with xe:=E}
abbrev Cx.ŀ(X:Cx):Cx:=X.wish λ_ _=>False
theorem Cx.Ok.wish{X:Cx}(ok:X.Ok)(E:Value->Shared->Prop):(X.wish E).Ok:=
 ⟨ok.mod,ok.kind,ok.glob,ok.blt,ok.above,ok.inj,ok.has,ok.cab,ok.hd,ok.frames,ok.stk,ok.exf,ok.bs,ok.Gx,ok.Ao,ok.Gy,ok.jo,ok.Oi,ok.tb⟩
def Cx.Ok.bf{X:Cx}{E:Value->Shared->Prop}(ok:(X.wish E).Ok):X.Ok:=
 ⟨ok.mod,ok.kind,ok.glob,ok.blt,ok.above,ok.inj,ok.has,ok.cab,ok.hd,ok.frames,ok.stk,ok.exf,ok.bs,ok.Gx,ok.Ao,ok.Gy,ok.jo,ok.Oi,ok.tb⟩
section
variable{X:Cx}{pins:List (Addr×Obj)}{σ:St}{H:Hp}{s:Shared}{E:Value->Shared->Prop}
theorem Inv.wish(I:Inv X pins σ H s)(E:Value->Shared->Prop):Inv (X.wish E) pins σ H s:=⟨I.ok.wish E,I.os,I.bare,I.base,I.loc,I.cell,I.free,I.dG,I.pin,I.hok,I.len⟩
theorem Inv.bf(I:Inv (X.wish E) pins σ H s):Inv X pins σ H s:=⟨I.ok.bf,I.os,I.bare,I.base,I.loc,I.cell,I.free,I.dG,I.pin,I.hok,I.len⟩
theorem SP.bf{D:Ends}{f:Flow}{s':Shared}(h:SP (X.wish E) pins D f s'):SP X pins D f s':=by
 cases f with
 |next=>obtain⟨σ',H',I,q⟩:=h;exact⟨σ',H',I.bf,q⟩
 |brk=>obtain⟨σ',H',I,q⟩:=h;exact⟨σ',H',I.bf,q⟩
 |cont=>obtain⟨σ',H',I,q⟩:=h;exact⟨σ',H',I.bf,q⟩
 |ret u=>obtain⟨v,σ',H',I,r,q⟩:=h;exact⟨v,σ',H',I.bf,r,q⟩
theorem PE.ŀ{e:Expr}{t:TE}(h:PE X.ŀ e t):PE X e t:=λpins s σ H Q I hw=>
 wpAny_mono (h pins s σ H Q (I.wish _) hw) (λ_ _ ⟨v,H',I',r,q⟩=>⟨v,H',I'.bf,r,q⟩) λ_ _ z=>False.elim z
end
section
variable{X:Cx}{st:Stmt}{rest:List Stmt}{t u:TS}{e:Expr}{te:TE}{pos:Pos}
def UJ:TS:=λD σ H=>D.nx σ H
def ZaK(t u:TS):TS:=λD σ H=>t {D with nx:=u D} σ H
def GC:fB X [] UJ:=λ_ _ σ H _ I h=>wpAny_execs_nil ⟨σ,H,I,h⟩
def Ar(h1:PS X st t)(h2:fB X rest u):fB X (st::rest) (ZaK t u):=by
 intro pins s σ H D I h
 refine wpAny_execs_cons (Ń (h1 pins s σ H {D with nx:=u D} I h) λf s1 q=>?_)
 cases f with
 |next=>
  obtain⟨σ',H',I',q⟩:=q
  exact h2 pins s1 σ' H' D I' q
 |ret v=>exact q
 |brk=>exact q
 |cont=>exact q
def GD(h1:PS X st t):fB X [st] t:=by
 intro pins s σ H D I h
 refine wpAny_execs_cons (Ń (h1 pins s σ H D I h) λf s1 q=>?_)
 cases f with
 |next=>exact wpAny_execs_nil q
 |ret v=>exact q
 |brk=>exact q
 |cont=>exact q
def Inv.quiet{pins:List (Addr×Obj)}{σ:St}{H:Hp}{s:Shared}(I:Inv X pins σ H s):interactive X.env=false:=by simp[interactive,I.ok.kind]
def Jz(te:TE):TS:=λD σ H=>te σ H λ_ H1=>D.nx σ H1
def cX(he:PE X e te)(hs:swapsWith e none pos.line X.env=pure false:=by rfl):PS X (.Expr e pos) (Jz te):=by
 intro pins s σ H D I h
 exact wpAny_Expr_any (Ń (he pins s σ H _ I h) λv s1 ⟨x,H1,I1,r1,q1⟩=>⟨σ,H1,I1,q1⟩) I.quiet hs
def ZaL(te:TE):TS:=λD σ H=>te σ H D.rt
def Ow(he:PE X e te):PS X (.Return (some e) pos) (ZaL te):=by
 intro pins s σ H D I h
 exact wpAny_Return_some (Ń (he pins s σ H _ I h) λv s1 ⟨x,H1,I1,r1,q1⟩=>⟨x,σ,H1,I1,r1,q1⟩)
def ZaM(c:TT)(t u:TS):TS:=λD σ H=>c σ H λb H1=>if b=true then t D σ H1 else u D σ H1
def UL{c:Expr}{a b:List Stmt}{tc:TT}(hc:PT X c tc)(ha:fB X a t)(hb:fB X b u):PS X (.If c a b pos) (ZaM tc t u):=by
 intro pins s σ H D I h
 refine wpAny_If (Ń (hc pins s σ H _ I h) λd s1 ⟨H1,I1,q1⟩=>?_)
 cases d with
 |true=>exact ha pins s1 σ H1 D I1 q1
 |false=>exact hb pins s1 σ H1 D I1 q1
def Ox:TS:=λ_ _ _=>False
def Av:PS X st Ox:=λ_ _ _ _ _ _ h=>h.elim
end
abbrev TG:=V->St->Hp->(St->Hp->Prop)->Prop
abbrev Aw:=List V->St->Hp->(St->Hp->Prop)->Prop
def PG(X:Cx)(target:Expr)(t:TG):Prop:=
 ∀(pins:List (Addr×Obj)) (s:Shared) (σ:St) (H:Hp) (v:V) (u:Value) (Q:St->Hp->Prop),Inv X pins σ H s->RelV v u->t v σ H Q->
  wpAny (model X.prog X.w) X.A (assign target X.env u) (λ_ s'=>∃σ' H',Inv X pins σ' H' s'/\Q σ' H') X.xe s
def uG(X:Cx)(ts:List Expr)(t:Aw):Prop:=
 ∀(pins:List (Addr×Obj)) (s:Shared) (σ:St) (H:Hp) (vs:List V) (us:List Value) (Q:St->Hp->Prop),Inv X pins σ H s->Vals vs us->t vs σ H Q->
  wpAny (model X.prog X.w) X.A (assignInOrder ((assignEach ts X.env).map (·.2)) us) (λ_ s'=>∃σ' H',Inv X pins σ' H' s'/\Q σ' H') X.xe s
section
variable{X:Cx}{pos:Pos}
def JB(i:Nat):TG:=λv σ H Q=>Q (σ.set i (some v)) H
def GF{i:Nat}{x:Str}(hN:X.N.Nodup)(hi:X.N[i]?=some x)(hx:Loc X.env.scope x)(hf:X.fn x=true\/X.env.scope.names.lookup x=some .local:=by first|exact .inl rfl|exact .inr rfl|assumption):PG X (.Name x pos) (JB i):=by
 intro pins s σ H v u Q I r h
 exact wpAny_assign_Name (qW I hN hi hx r (λs' I'=>⟨_,H,I',h⟩) hf)
def ZaN:Aw:=λvs σ H Q=>vs=[]/\Q σ H
def UW(t:TG)(u:Aw):Aw:=λvs σ H Q=>∃v r,vs=v::r/\t v σ H λσ' H'=>u r σ' H' Q
def GJ:uG X [] ZaN:=by
 intro pins s σ H vs us Q I r h
 obtain⟨e,h⟩:=h
 subst e
 cases r
 exact assignInOrder_nil ⟨σ,H,I,h⟩
def Ax{e:Expr}{es:List Expr}{t:TG}{u:Aw}(h1:PG X e t)(h2:uG X es u)
 (hs:(assignEach (e::es) X.env).map (·.2)=assign e X.env::(assignEach es X.env).map (·.2):=by rfl):uG X (e::es) (UW t u):=by
 intro pins s σ H vs us Q I r h
 obtain⟨v,vr,e1,h⟩:=h
 subst e1
 cases r with
 |cons r rr=>
  rw[hs]
  refine assignInOrder_cons (Ń (h1 pins s σ H _ _ _ I r h) λ_ s1 ⟨σ1,H1,I1,q1⟩=>?_)
  exact h2 pins s1 σ1 H1 _ _ Q I1 rr q1
def ZaO(K:PySem.W.Frag)(n:Nat)(t:Aw):TG:=λv σ H Q=>∃a xs,v=.ref a/\bU K H a xs/\xs.length=n/\t xs σ H Q
def Ay{es:List Expr}{k:Nat}{t:Aw}{n:Nat}(hc:X.calm=true)(h:uG X es t)
 (hn:(assignEach es X.env).length=n:=by rfl)(hst:(assignEach es X.env).findIdx? (·.1)=none:=by rfl):PG X (.Tuple es k pos) (ZaO X.K n t):=by
 intro pins s σ H v u Q I r hw
 obtain⟨a,xs,e1,hq,hl,hw⟩:=hw
 subst e1
 cases r
 obtain⟨its,rv,ht,hz⟩:=I.tuple hq
 refine assign_Tuple_tuple (I.ok.hd hc) ht (by simp[hn,<-hl,rv.length]) hst λh' hx=>?_
 have I1:Inv X pins σ H {s with heap:=h'}:=I.kept (t':=s.toks) λb o e=>hx b o (Nat.ne_of_lt (Heap.lt_size e)) e
 exact h pins _ σ H xs _ Q I1 (by simpa using rv) hw
def U_(te:TE)(g:TG):TS:=λD σ H=>te σ H λx H1=>g x σ H1 D.nx
def Oz{tg e:Expr}{te:TE}{g:TG}(he:PE X e te)(hg:PG X tg g)(hs:swapsWithSole [tg] e pos.line X.env=pure false:=by rfl)(hw:swappedStores [tg] e X.env=pure none:=by rfl)
 (h1:(assignEach [tg] X.env).map (·.2)=[assign tg X.env]:=by rfl):PS X (.Assign [tg] e pos) (U_ te g):=by
 intro pins s σ H D I h
 refine wpAny_Assign_stores (Ń (he pins s σ H _ I h) λv s1 ⟨x,H1,I1,r1,q1⟩=>?_) hs hw
 rw[h1]
 exact Ń (hg pins s1 σ H1 x v _ I1 r1 q1) λ_ s2 q=>q
def pD{i:Nat}{x:Str}{e:Expr}{te:TE}{pos':Pos}(hN:X.N.Nodup)(hi:X.N[i]?=some x)(hx:Loc X.env.scope x)(he:PE X e te)(hs:swapsWith e (some (.Name x pos')) pos.line X.env=pure false:=by rfl)(hf:X.fn x=true\/X.env.scope.names.lookup x=some .local:=by first|exact .inl rfl|exact .inr rfl|assumption) :
 PS X (.Assign [.Name x pos'] e pos) (U_ te (JB i)):=by
 intro pins s σ H D I h
 refine wpAny_Assign_Name (Ń (he pins s σ H _ I h) λv s1 ⟨y,H1,I1,r1,q1⟩=>?_) hs
 exact qW I1 hN hi hx r1 (λs2 I2=>⟨_,H1,I2,q1⟩) hf
end
section
variable{X:Cx}{pos:Pos}
end
structure It where
 go:Nat->Hp->Prop
 YJ:Nat->Hp->V->Hp->Prop
 stop:Nat->Hp->Prop
def dz(X:Cx)(pins:List (Addr×Obj))(H:Hp)(b:Addr):Prop:=
 H b=none/\b≠X.env.locals/\b∉X.fs/\(b∈X.ex\/X.s₀.heap.objs.size<=b)/\(∀x c,X.env.cells.lookup x=some c->c≠b)/\∀p∈X.pn++pins,p.1≠b
def Inv.Az{X:Cx}{pins:List (Addr×Obj)}{σ:St}{H H':Hp}{s:Shared}{b:Addr}(I:Inv X pins σ H s)(hb:s.heap.objs.size<=b)(hn:H' b=none):dz X pins H' b:=by
 refine⟨hn,Nat.ne_of_gt (Nat.lt_of_lt_of_le I.lt hb),I.ZaF hb,.inr (Nat.le_trans I.sz hb),λx c e z=>?_,λp hp z=>?_⟩
 ·obtain⟨v,q⟩:=I.cell x c e
  exact absurd (Nat.lt_of_lt_of_le q.lt (by rw[z];exact hb)) (Nat.lt_irrefl _)
 ·exact absurd (Nat.lt_of_lt_of_le (Heap.lt_size (I.pin p hp).1) (by rw[z];exact hb)) (Nat.lt_irrefl _)
structure Turn(P:Program)(w:World)(K:PySem.W.Frag)(tg:Expr)(J:It)(fp:List Addr)(it:Addr)(tn:Nat->Heap->Prop):Prop where
 mem:it∈fp
 obj:∀i h,tn i h->∀b∈fp,∃o,h.get? b=some o/\∀v,o.data≠ .cell v
 keep:∀i h h',tn i h->(∀b∈fp,∀o,h.get? b=some o->h'.get? b=some o)->tn i h'
 item:∀(X:Cx),X.prog=P->X.w=w->X.K=K->X.calm=true->∀(i:Nat) (pins:List (Addr×Obj)) (s:Shared) (σ:St) (H:Hp) (E:Value->Shared->Prop),Inv X pins σ H s->(∀b∈fp,dz X pins H b)->tn i s.heap->J.go i H->
  wpAny (model P w) X.A (pyNext (.ref it)) (λr s1=>∃u,r=some u/\
   wpAny (model P w) X.A (letOwnedTupleGo tg (.ref it) u) (λ_ s2=>∃x H',Inv X pins σ H' s2/\RelV x u/\J.YJ i H x H'/\tn (i+1) s2.heap/\∀b∈fp,H' b=none) E s1) E s
 done:∀(X:Cx),X.prog=P->X.w=w->X.K=K->X.calm=true->∀(i:Nat) (pins:List (Addr×Obj)) (s:Shared) (σ:St) (H:Hp) (E:Value->Shared->Prop),Inv X pins σ H s->(∀b∈fp,dz X pins H b)->tn i s.heap->J.stop i H->
  wpAny (model P w) X.A (pyNext (.ref it)) (λr s1=>r=none/\Inv X pins σ H s1) E s
 self:∀(A:Around) (i:Nat) (s:Shared) (Q:Value->Shared->Prop) (E:Value->Shared->Prop),tn i s.heap->Q (.ref it) s->wpAny (model P w) A (pyIter (.ref it)) Q E s
abbrev TI:=St->Hp->(It->Hp->Prop)->Prop
def PIE(X:Cx)(pins:List (Addr×Obj))(σ:St)(tg:Expr)(R:It->Hp->Prop)(itv:Value)(s2:Shared):Prop:=
 ∃(it:Addr) (fp:List Addr) (tn:Nat->Heap->Prop) (J:It) (H':Hp),itv=.ref it/\Inv X pins σ H' s2/\Turn X.prog X.w X.K tg J fp it tn/\tn 0 s2.heap/\(∀b∈fp,dz X pins H' b)/\R J H'
def PI(X:Cx)(tg iter:Expr)(wi:TI):Prop:=
 ∀(pins:List (Addr×Obj)) (s:Shared) (σ:St) (H:Hp) (R:It->Hp->Prop),Inv X pins σ H s->wi σ H R->
  wpAny (model X.prog X.w) X.A (eval iter X.env) (λv s1=>wpAny (model X.prog X.w) X.A (pyIter v) (PIE X pins σ tg R) X.xe s1) X.xe s
def wC{M:Model}{A:Around}{E:Value->Shared->Prop}{s:Shared}{tg:Expr}{it:Addr}{u:Value}{o:Obj}{n:String}{vs:Array Value}{Q:Unit->Shared->Prop}(ho:s.heap.get? it=some o)(hc:o.cls=.type n)(hd:o.data=.fields vs)
 (hn:["enumerate","zip","dict_itemiterator","dict_reverseitemiterator","odict_iterator","itertools.zip_longest","itertools.pairwise"].contains n=false)(hQ:Q () s):wpAny M A (letOwnedTupleGo tg (.ref it) u) Q E s:=by
 unfold letOwnedTupleGo
 cases tg<;>first
  |exact wpAny_pure hQ
  |(cases u<;>first
     |exact wpAny_pure hQ
     |(refine wpAny_bind (wpAny_load ho ?_)
       rw[hc,hd]
       show wpAny M A (if(["enumerate","zip","dict_itemiterator","dict_reverseitemiterator","odict_iterator","itertools.zip_longest","itertools.pairwise"].contains n && vs[0]?== some (rawInt _))=true then _ else _) Q E s
       rw[if_neg (by intro h;rw[hn,Bool.false_and] at h;cases h)]
       exact wpAny_pure hQ))
def Va(K:PySem.W.Frag)(a:Addr):It:=
 ⟨λi H=>∃xs x,Ţ K H a xs/\xs[i]?=some x,λi H x H'=>H'=H/\∀xs,Ţ K H a xs->xs[i]?=some x,λi H=>∃xs,Ţ K H a xs/\xs.length<=i⟩
def Itt(K:PySem.W.Frag)(a:Addr):It:=
 ⟨λi H=>∃xs x,bU K H a xs/\xs[i]?=some x,λi H x H'=>H'=H/\∀xs,bU K H a xs->xs[i]?=some x,λi H=>∃xs,bU K H a xs/\xs.length<=i⟩
def Vb(lo:Int)(n:Nat):It:=⟨λi _=>i<n,λi H x H'=>H'=H/\x=.int (lo+i),λi _=>n<=i⟩
def yU{P:Program}{w:World}{K:PySem.W.Frag}{tg:Expr}(a it:Addr):Turn P w K tg (Va K a) [it] it (λi h=>h.IsListIter it a i) where
 mem:=by simp
 obj:=λi h st b hb=>by
  have e:b=it:=by simpa using hb
  subst e
  obtain⟨o,e,c,d⟩:=st
  exact⟨o,e,λv z=>by rw[d] at z;cases z⟩
 keep:=λi h h' st k=>st.at λo e=>k it (by simp) o e
 item:=by
  intro X hP hw hK hc i pins s σ H E I hf st hg
  subst hP hw hK
  obtain⟨xs,x,hq,hx⟩:=hg
  obtain⟨its,rv,p,hz⟩:=I.list hq
  obtain⟨u,hu,ru⟩:=rv.get hx
  obtain⟨f0,f1,f2,f3,f4,f5⟩:=hf it (by simp)
  refine wpAny_pyNext_list_item st p.isList (x:=u) (by simpa using hu) λh' st' sb=>?_
  have I1:Inv X pins σ H {s with heap:=h'}:=I.turned (t':=s.toks) (λb o hb e=>(sb.2 b hb).trans e) f0 f1 f3 f4 f5
  obtain⟨o,e,c,d⟩:=id st'
  exact⟨u,rfl,wC (s:={s with heap:=h'}) e c d (by decide) ⟨x,H,I1,ru,⟨rfl,λys hy=>by rw[I.qX hy hq];exact hx⟩,st',λb hb=>(hf b hb).1⟩⟩
 done:=by
  intro X hP hw hK hc i pins s σ H E I hf st hg
  subst hP hw hK
  obtain⟨xs,hq,hx⟩:=hg
  obtain⟨its,rv,p,hz⟩:=I.list hq
  obtain⟨f0,f1,f2,f3,f4,f5⟩:=hf it (by simp)
  have hl:=rv.length
  exact wpAny_pyNext_list_end (I.ok.hd hc) st p.isList (by simp;omega) λh' eb=>⟨rfl,I.turned (t':=s.toks) (λb o hb e=>eb b o hb e) f0 f1 f3 f4 f5⟩
 self:=λ_ _ _ _ _ st h=>wpAny_pyIter_listiter st h
def uI{P:Program}{w:World}{K:PySem.W.Frag}{tg:Expr}(a it:Addr):Turn P w K tg (Itt K a) [it] it (λi h=>h.IsTupleIter it a i) where
 mem:=by simp
 obj:=λi h st b hb=>by
  have e:b=it:=by simpa using hb
  subst e
  obtain⟨o,e,c,d⟩:=st
  exact⟨o,e,λv z=>by rw[d] at z;cases z⟩
 keep:=λi h h' st k=>st.at λo e=>k it (by simp) o e
 item:=by
  intro X hP hw hK hc i pins s σ H E I hf st hg
  subst hP hw hK
  obtain⟨xs,x,hq,hx⟩:=hg
  obtain⟨its,rv,p,hz⟩:=I.tuple hq
  obtain⟨u,hu,ru⟩:=rv.get hx
  obtain⟨f0,f1,f2,f3,f4,f5⟩:=hf it (by simp)
  refine wpAny_pyNext_tuple_item st (show s.heap.IsTuple a its.toArray from p) (x:=u) (by simpa using hu) λh' st' sb=>?_
  have I1:Inv X pins σ H {s with heap:=h'}:=I.turned (t':=s.toks) (λb o hb e=>(sb.2 b hb).trans e) f0 f1 f3 f4 f5
  obtain⟨o,e,c,d⟩:=id st'
  exact⟨u,rfl,wC (s:={s with heap:=h'}) e c d (by decide) ⟨x,H,I1,ru,⟨rfl,λys hy=>by rw[I.yS hy hq];exact hx⟩,st',λb hb=>(hf b hb).1⟩⟩
 done:=by
  intro X hP hw hK hc i pins s σ H E I hf st hg
  subst hP hw hK
  obtain⟨xs,hq,hx⟩:=hg
  obtain⟨its,rv,p,hz⟩:=I.tuple hq
  obtain⟨f0,f1,f2,f3,f4,f5⟩:=hf it (by simp)
  have hl:=rv.length
  exact wpAny_pyNext_tuple_end (I.ok.hd hc) st (show s.heap.IsTuple a its.toArray from p) (by simp;omega) λh' eb=>⟨rfl,I.turned (t':=s.toks) (λb o hb e=>eb b o hb e) f0 f1 f3 f4 f5⟩
 self:=λ_ _ _ _ _ st h=>wpAny_pyIter_tupleiter st h
def uJ{P:Program}{w:World}{K:PySem.W.Frag}{tg:Expr}(it:Addr)(lo:Int)(n:Nat):Turn P w K tg (Vb lo n) [it] it (λi h=>IsRangeIter h it (lo+(i:Nat)*1) ((n:Int)-(i:Nat)) 1) where
 mem:=by simp
 obj:=λi h st b hb=>by
  have e:b=it:=by simpa using hb
  subst e
  exact⟨_,st,λv z=>by
   have z':Data.fields _=Data.cell v:=z
   cases z'⟩
 keep:=λi h h' st k=>k it (by simp) _ st
 item:=by
  intro X hP hw hK hc i pins s σ H E I hf st hg
  subst hP hw hK
  obtain⟨f0,f1,f2,f3,f4,f5⟩:=hf it (by simp)
  have W:=Walks.range (prog:=X.prog) (w:=X.w) (I.ok.hd hc) it lo 1 n
  refine W.item i s _ _ hg st λv h' tk hv st' kk=>?_
  obtain⟨t,rfl⟩:=hv
  have I1:Inv X pins σ H {s with heap:=h',toks:=tk}:=I.turned (λb o hb e=>kk b o (by simpa using hb) e) f0 f1 f3 f4 f5
  refine⟨_,rfl,wC (s:={s with heap:=h',toks:=tk}) (n:= "range_iterator") st' rfl rfl (by decide) ⟨.int (lo+i),H,I1,⟨t,?_⟩,⟨rfl,rfl⟩,st',λb hb=>(hf b hb).1⟩⟩
  rw[Int.mul_one]
 done:=by
  intro X hP hw hK hc i pins s σ H E I hf st hg
  subst hP hw hK
  obtain⟨f0,f1,f2,f3,f4,f5⟩:=hf it (by simp)
  exact wpAny_pyNext_range_end (I.ok.hd hc) st (by have:n<=i:=hg;omega) λh' eb=>⟨rfl,I.turned (t':=s.toks) (λb o hb e=>eb b o hb e) f0 f1 f3 f4 f5⟩
 self:=λ_ _ _ _ _ st h=>wpAny_pyIter_rangeiter st h
end L2
namespace L2
open PySem PySem.Spec PyProof.Rows
section
variable{X:Cx}{tg:Expr}
def qY{pins:List (Addr×Obj)}{σ:St}{H:Hp}{s:Shared}{R:It->Hp->Prop}{E:Value->Shared->Prop}{lo hi:Int}{t u v:Tok}{tk:Nat}(I:Inv X pins σ H s)(h1: -(2 ^ 62)<=lo)(h2:lo<2 ^ 62)(h3: -(2 ^ 62)<=hi)(h4:hi<2 ^ 62)
 (q:R (Vb lo (hi-lo).toNat) H):wpAny (model X.prog X.w) X.A (pyIter (.ref s.heap.objs.size)) (PIE X pins σ tg R) E {s with heap:=s.heap.push {cls:=.type "range",data:=.fields #[.int lo t,.int hi u,.int 1 v]},toks:=tk}:=by
 refine wpAny_pyIter_range (IsRange.new ..) (small_one h1 h2 h3 h4) ?_
 have I1:Inv X pins σ H {s with heap:=s.heap.push {cls:=.type "range",data:=.fields #[.int lo t,.int hi u,.int 1 v]},toks:=tk}:=I.kept λb o e=>Heap.get?_push_of_some _ e
 refine⟨(s.heap.push {cls:=.type "range",data:=.fields #[.int lo t,.int hi u,.int 1 v]}).objs.size,[(s.heap.push {cls:=.type "range",data:=.fields #[.int lo t,.int hi u,.int 1 v]}).objs.size],_,_,H,rfl,
  I1.kept (t':=tk) λb o e=>Heap.get?_push_of_some _ e,uJ _ lo (hi-lo).toNat,?_,λb hb=>?_,q⟩
 ·have e1:lo+((0:Nat):Int)*1=lo:=by simp
  have e2:(((hi-lo).toNat:Nat):Int)-((0:Nat):Int)=Builtin.Range.rangeSize lo hi 1:=by rw[rangeSize_one];split<;>omega
  show IsRangeIter _ _ (lo+((0:Nat):Int)*1) ((((hi-lo).toNat:Nat):Int)-((0:Nat):Int)) 1
  rw[e1,e2]
  exact Heap.get?_push_size _ rfl
 ·have e:b=(s.heap.push {cls:=.type "range",data:=.fields #[.int lo t,.int hi u,.int 1 v]}).objs.size:=by simpa using hb
  subst e
  exact I1.Az (Nat.le_refl _) (I1.hok.fresh (Nat.le_refl _))
def Vc(ta:TA):TI:=λσ H R=>ta σ H λvs H1=>∃j:Int,vs=[.int j]/\ -(2 ^ 62)<=j/\j<2 ^ 62/\R (Vb 0 j.toNat) H1
def Vd(ta:TA):TI:=λσ H R=>ta σ H λvs H1=>∃i j:Int,vs=[.int i,.int j]/\(-(2 ^ 62)<=i/\i<2 ^ 62/\ -(2 ^ 62)<=j/\j<2 ^ 62)/\R (Vb i (j-i).toNat) H1
def yV{a:Expr}{ta:TA}{p pos:Pos}(hg:Gl X "range")(hm:X.mg "range" =none)(ha:PA X [a] ta)(hs:starEach [a] X.env=[(false,eval a X.env)]:=by rfl):PI X tg (.Call (.Name "range" p) [a] [] pos) (Vc ta):=by
 intro pins s σ H R I h
 refine Call_ (gG I hg hm boot_range (PyProof.Rows.callWith_type1 (Ń (ha pos pins s σ H _ I h) λus s1 ⟨vs,H1,I1,r1,q1⟩=>?_) hs rfl))
 obtain⟨j,e,q1,q2,q⟩:=q1
 subst e
 cases r1 with
 |cons r rr=>
  cases rr
  obtain⟨t,rfl⟩:=r
  exact call_range_1 (qY I1 (by omega) (by omega) q1 q2 (by simpa using q))
def yW{a b:Expr}{ta:TA}{p pos:Pos}(hg:Gl X "range")(hm:X.mg "range" =none)(ha:PA X [a,b] ta)(hs:starEach [a,b] X.env=[(false,eval a X.env),(false,eval b X.env)]:=by rfl)(hs2:starEach [b] X.env=[(false,eval b X.env)]:=by rfl) :
 PI X tg (.Call (.Name "range" p) [a,b] [] pos) (Vd ta):=by
 intro pins s σ H R I h
 refine Call_ (gG I hg hm boot_range (PyProof.Rows.callWith_type1 (Ń (ha pos pins s σ H _ I h) λus s1 ⟨vs,H1,I1,r1,q1⟩=>?_) (by rw[hs,hs2]) (by rw[hs2];rfl)))
 obtain⟨i,j,e,⟨q1,q2,q3,q4⟩,q⟩:=q1
 subst e
 cases r1 with
 |cons r rr=>
  cases rr with
  |cons r' rr=>
   cases rr
   obtain⟨t,rfl⟩:=r
   obtain⟨t',rfl⟩:=r'
   exact call_range_2 (qY I1 q1 q2 q3 q4 q)
def Ve(wi:TI)(g:TG)(tb:TS):TS:=λD σ H=>wi σ H λJ H1=>∃W:Nat->Nat->St->Hp->Prop,(∃m,W 0 m σ H1)/\∀i m σ H,W i m σ H->
 (J.stop i H/\D.nx σ H)\/(J.go i H/\∃N:St->Hp->Prop,(∀σ' H',N σ' H'->∃m',m'<m/\W (i+1) m' σ' H')/\∀x H',J.YJ i H x H'->g x σ H' λσ2 H2=>tb {D with nx:=N,ct:=N,bk:=D.nx} σ2 H2)
def gH(fp:List Addr)(h:Heap):List (Addr×Obj):=fp.filterMap λb=>(h.get? b).map λo=>(b,o)
def ţ{fp:List Addr}{h:Heap}{b:Addr}{o:Obj}(hb:b∈fp)(e:h.get? b=some o):(b,o)∈gH fp h:=List.mem_filterMap.mpr ⟨b,hb,by rw[e];rfl⟩
def yX{fp:List Addr}{h:Heap}{p:Addr×Obj}(hp:p∈gH fp h):p.1∈fp/\h.get? p.1=some p.2:=by
 obtain⟨b,hb,e⟩:=List.mem_filterMap.mp hp
 cases q:h.get? b with
 |none=>rw[q] at e;cases e
 |some o=>
  rw[q] at e
  have e':(b,o)=p:=Option.some.inj e
  subst e'
  exact⟨hb,q⟩
def Inv.pinned{pins:List (Addr×Obj)}{σ:St}{H:Hp}{s:Shared}{fp:List Addr}(I:Inv X pins σ H s)(hf:∀b∈fp,dz X pins H b)(ho:∀b∈fp,∃o,s.heap.get? b=some o/\∀v,o.data≠ .cell v):Inv X (pins++gH fp s.heap) σ H s:=
 I.wB fun p hp=>(List.mem_append.mp hp).elim (fun z=>I.pin p (List.mem_append_right _ z)) fun z=>by
   obtain⟨hb,e⟩:=yX z
   obtain⟨f0,f1,f2,_⟩:=hf p.1 hb
   obtain⟨o,e',d⟩:=ho p.1 hb
   rw[e] at e';cases e'
   exact⟨e,f0,f1,f2,d⟩
def Inv.cj{pins pl:List (Addr×Obj)}{σ:St}{H:Hp}{s:Shared}(I:Inv X (pins++pl) σ H s):Inv X pins σ H s:=I.wB λp hp=>I.pin p (List.mem_append_right _ (List.mem_append_left _ hp))
def OD{iter:Expr}{body:List Stmt}{wi:TI}{g:TG}{tb:TS}{pos:Pos}(hp:PassesOwn (model X.prog X.w) X.A X.env X.xe)(hc:X.calm=true)(hi:PI X tg iter wi)(hg:PG X tg g)(hb:fB X body tb)
 (hs:∀x,foldedSetIterable iter X.env x=pure x:=by intro _;rfl):PS X (.For tg iter body [] pos) (Ve wi g tb):=by
 intro pins s σ H D I h
 refine wpAny_For (Ń (hi pins s σ H _ I h) λv s1 h1=>Ń h1 λitv s2 h2=>?_) hs
 obtain⟨it,fp,tn,J,H2,e,I2,T,st2,f2,W,⟨m0,w0⟩,turn⟩:=h2
 subst e
 -- what stays true of the iterator's objects through the loop
 have stat:∀{H':Hp},(∀b∈fp,H' b=none)->∀b∈fp,dz X pins H' b:=λhn b hb=>⟨hn b hb,(f2 b hb).2⟩
 refine codeAny_forLoop_any (λn s'=>∃i σ' H',Inv X pins σ' H' s'/\tn i s'.heap/\(∀b∈fp,H' b=none)/\W i n σ' H') ?_ m0 ⟨0,σ,H2,I2,st2,λb hb=>(f2 b hb).1,w0⟩
 rintro n s3 ⟨i,σ3,H3,I3,st3,fr3,w3⟩
 rcases turn i n σ3 H3 w3 with⟨stop,qn⟩|⟨go,N,hN,step⟩
 ·refine wpAny_passesOwn hp (Ń (T.done X rfl rfl rfl hc i pins s3 σ3 H3 X.xe I3 (stat fr3) st3 stop) λr s4 ⟨hr,I4⟩=>?_)
  subst hr
  exact wpAny_execs_nil ⟨σ3,H3,I4,qn⟩
 ·refine wpAny_passesOwn hp (Ń (T.item X rfl rfl rfl hc i pins s3 σ3 H3 X.xe I3 (stat fr3) st3 go) λr s4 ⟨u,hr,h4⟩=>?_)
  subst hr
  refine wpAny_passesOwn hp (Ń h4 λ_ s5 ⟨x,H5,I5,r5,y5,GK,OJ⟩=>?_)
  have I5':=I5.pinned (stat OJ) (T.obj _ _ GK)
  refine wpAny_passesOwn hp (Ń (hg _ s5 σ3 H5 x u _ I5' r5 (step x H5 y5)) λ_ s6 ⟨σ6,H6,I6,q6⟩=>?_)
  refine wpAny_passesOwn hp (Ń (hb _ s6 σ6 H6 _ I6 q6) λf s7 q7=>?_)
  have again:∀{σ7:St} {H7:Hp},Inv X (pins++gH fp s5.heap) σ7 H7 s7->N σ7 H7->∃m,m<n/\∃i σ' H',Inv X pins σ' H' s7/\tn i s7.heap/\(∀b∈fp,H' b=none)/\W i m σ' H':=fun{σ7 H7} I7 n7=>by
   obtain⟨m',hm,w7⟩:=hN σ7 H7 n7
   refine⟨m',hm,i+1,σ7,H7,I7.cj,T.keep _ _ _ GK λb hb o e=>(I7.pin (b,o) (List.mem_append_right _ (List.mem_append_right _ (ţ hb e)))).1,λb hb=>?_,w7⟩
   obtain⟨o,e,d⟩:=T.obj _ _ GK b hb
   exact(I7.pin (b,o) (List.mem_append_right _ (List.mem_append_right _ (ţ hb e)))).2.1
  cases f with
  |next=>obtain⟨σ7,H7,I7,n7⟩:=q7;exact again I7 n7
  |cont=>obtain⟨σ7,H7,I7,n7⟩:=q7;exact again I7 n7
  |brk=>obtain⟨σ7,H7,I7,q7⟩:=q7;exact⟨σ7,H7,I7.cj,q7⟩
  |ret v=>obtain⟨x7,σ7,H7,I7,r7,q7⟩:=q7;exact⟨x7,σ7,H7,I7.cj,r7,q7⟩
end
end L2
namespace L2
open PySem PySem.Spec PyProof.Rows
abbrev R2:=V->V->Hp->VK->Prop
def ş(X:Cx)(f:Value->Value->Sem Value)(r:R2):Prop:=
 ∀(pins:List (Addr×Obj)) (s:Shared) (σ:St) (H:Hp) (x y:V) (v u:Value) (Q:VK),Inv X pins σ H s->RelV x v->RelV y u->r x y H Q->
  wpAny (model X.prog X.w) X.A (f v u) (EP X pins σ Q) X.xe s
def GP(X:Cx)(f:Value->Sem Value)(r:V->Hp->VK->Prop):Prop:=
 ∀(pins:List (Addr×Obj)) (s:Shared) (σ:St) (H:Hp) (x:V) (v:Value) (Q:VK),Inv X pins σ H s->RelV x v->r x H Q->
  wpAny (model X.prog X.w) X.A (f v) (EP X pins σ Q) X.xe s
def Ŝ(X:Cx)(f:Value)(r:List V->Hp->VK->Prop):Prop:=
 ∀(pins:List (Addr×Obj)) (s:Shared) (σ:St) (H:Hp) (xs:List V) (us:List Value) (Q:VK),Inv X pins σ H s->Vals xs us->r xs H Q->
  wpAny (model X.prog X.w) X.A (call f us) (EP X pins σ Q) X.xe s
def ZaP(X:Cx)(r:V->Hp->(Bool->Hp->Prop)->Prop):Prop:=
 ∀(pins:List (Addr×Obj)) (s:Shared) (σ:St) (H:Hp) (x:V) (v:Value) (Q:Bool->Hp->Prop),Inv X pins σ H s->RelV x v->r x H Q->
  wpAny (model X.prog X.w) X.A (truthy v) (TP X pins σ Q) X.xe s
def TX(r:R2)(ta tb:TE):TE:=λσ H Q=>ta σ H λx H1=>tb σ H1 λy H2=>r x y H2 Q
def tUn(r:V->Hp->VK->Prop)(ta:TE):TE:=λσ H Q=>ta σ H λx H1=>r x H1 Q
def rI(C:Int->Int->Prop)(g:Int->Int->V):R2:=λx y H Q=>∃i j,x=.int i/\y=.int j/\C i j/\Q (g i j) H
def JC(g:Int->Int->V):R2:=λx y H Q=>∃i j,x=.int i/\y=.int j/\Q (g i j) H
def rU(g:Int->V):V->Hp->VK->Prop:=λx H Q=>∃i,x=.int i/\Q (g i) H
section
variable{X:Cx}{a b c:Expr}{ta tb tc:TE}{pos:Pos}
def O_(ha:PE X a ta)(hb:PE X b tb){pins:List (Addr×Obj)}{s:Shared}{σ:St}{H:Hp}{R:V->V->Hp->Prop}(I:Inv X pins σ H s)
 (h:ta σ H λx H1=>tb σ H1 λy H2=>R x y H2){Q:Value->Shared->Prop}{f:Value->Value->Sem Value}
 (hf:∀v u s2 x y H2,Inv X pins σ H2 s2->RelV x v->RelV y u->R x y H2->wpAny (model X.prog X.w) X.A (f v u) Q X.xe s2) :
 wpAny (model X.prog X.w) X.A (eval a X.env) (λv s₁=>wpAny (model X.prog X.w) X.A (eval b X.env) (λu s₂=>wpAny (model X.prog X.w) X.A (f v u) Q X.xe s₂) X.xe s₁) X.xe s:=by
 refine Ń (ha pins s σ H _ I h) λv s1 ⟨x,H1,I1,r1,q1⟩=>?_
 refine Ń (hb pins s1 σ H1 _ I1 q1) λu s2 ⟨y,H2,I2,r2,q2⟩=>?_
 exact hf v u s2 x y H2 I2 r1 r2 q2
def JD{op:Operator}{r:R2}(ho:ş X (binaryOp op) r)(ha:PE X a ta)(hb:PE X b tb):PE X (.BinOp a op b pos) (TX r ta tb):=by
 intro pins s σ H Q I h
 exact wpAny_BinOp (O_ ha hb I h λv u s2 x y H2 I2 rx ry q=>ho pins s2 σ H2 x y v u Q I2 rx ry q)
def Vf{op:UnaryOp}{r:V->Hp->VK->Prop}(ho:GP X (unaryOp op) r)(ha:PE X a ta):PE X (.UnaryOp op a pos) (tUn r ta):=by
 intro pins s σ H Q I h
 exact UnaryOp_ (Ń (ha pins s σ H _ I h) λv s1 ⟨x,H1,I1,r1,q1⟩=>ho pins s1 σ H1 x v Q I1 r1 q1)
def Gp{f:Value->Value->Sem Value}{C:Int->Int->Prop}{g:Int->Int->Int}
 (rule:∀(i j:Int) (t u:Tok) (s:Shared) (Q:Value->Shared->Prop) (E:Value->Shared->Prop),C i j->Q (.int (g i j) s.toks) {s with toks:=s.toks+1}->wpAny (model X.prog X.w) X.A (f (.int i t) (.int j u)) Q E s) :
 ş X f (rI C λi j=>.int (g i j)):=by
 intro pins s σ H x y v u Q I rx ry h
 obtain⟨i,j,rfl,rfl,hc,q⟩:=h
 obtain⟨t,rfl⟩:=rx
 obtain⟨t',rfl⟩:=ry
 exact rule i j t t' s _ _ hc ⟨.int (g i j),H,I.tok _,⟨_,rfl⟩,q⟩
def yZ{f:Value->Value->Sem Value}{g:Int->Int->Int}
 (rule:∀(i j:Int) (t u:Tok) (s:Shared) (Q:Value->Shared->Prop) (E:Value->Shared->Prop),Q (.int (g i j) s.toks) {s with toks:=s.toks+1}->wpAny (model X.prog X.w) X.A (f (.int i t) (.int j u)) Q E s) :
 ş X f (JC λi j=>.int (g i j)):=by
 intro pins s σ H x y v u Q I rx ry h
 obtain⟨i,j,rfl,rfl,q⟩:=h
 obtain⟨t,rfl⟩:=rx
 obtain⟨t',rfl⟩:=ry
 exact rule i j t t' s _ _ ⟨.int (g i j),H,I.tok _,⟨_,rfl⟩,q⟩
def Pa{f:Value->Value->Sem Value}{g:Int->Int->Bool}
 (rule:∀(i j:Int) (t u:Tok) (s:Shared) (Q:Value->Shared->Prop) (E:Value->Shared->Prop),Q (.bool (g i j)) s->wpAny (model X.prog X.w) X.A (f (.int i t) (.int j u)) Q E s) :
 ş X f (JC λi j=>.bl (g i j)):=by
 intro pins s σ H x y v u Q I rx ry h
 obtain⟨i,j,rfl,rfl,q⟩:=h
 obtain⟨t,rfl⟩:=rx
 obtain⟨t',rfl⟩:=ry
 exact rule i j t t' s _ _ ⟨.bl (g i j),H,I,rfl,q⟩
def Vg(i j:Int):Prop:=0<j/\j<1073741824
def Pb(i j:Int):Prop:=0<=j/\j<=1000000/\i.natAbs<2 ^ 64
def Ph(i j:Int):Prop:=(-(2 ^ 64)<i/\i<2 ^ 64)\/(-(2 ^ 64)<j/\j<2 ^ 64)
def Ph.ok{i j:Int}(h:Ph i j):IntMulOk i j:=by
 rcases h with⟨h1,h2⟩|⟨h1,h2⟩
 ·exact .of_left (intBits_le_64 h1 h2)
 ·exact .of_right (intBits_le_64 h1 h2)
def Pj:ş X (binaryOp .Add) (JC λi j=>.int (i+j)):=yZ λ_ _ _ _ _ _ _ q=>add_int q
def Pk:ş X (binaryOp .Sub) (JC λi j=>.int (i-j)):=yZ λ_ _ _ _ _ _ _ q=>sub_int q
def GQ:ş X (binaryOp .Mod) (rI (λ_ j=>j≠0) λi j=>.int (i.fmod j)):=Gp λ_ _ _ _ _ _ _ hc q=>mod_int' hc q
def Pn:ş X (binaryOp .Pow) (rI Pb λi j=>.int (i ^ j.toNat)):=Gp λ_ _ _ _ _ _ _ hc q=>pow_int_small hc.1 hc.2.1 hc.2.2 q
def unI{f:Value->Sem Value}{g:Int->Int}
 (rule:∀(i:Int) (t:Tok) (s:Shared) (Q:Value->Shared->Prop) (E:Value->Shared->Prop),Q (.int (g i) s.toks) {s with toks:=s.toks+1}->wpAny (model X.prog X.w) X.A (f (.int i t)) Q E s) :
 GP X f (rU λi=>.int (g i)):=by
 intro pins s σ H x v Q I rx h
 obtain⟨i,rfl,q⟩:=h
 obtain⟨t,rfl⟩:=rx
 exact rule i t s _ _ ⟨.int (g i),H,I.tok _,⟨_,rfl⟩,q⟩
def Pq:GP X (unaryOp .USub) (rU λi=>.int (-i)):=unI λ_ _ _ _ _ q=>neg_int q
end
section
variable{X:Cx}{a b c:Expr}{ta tb tc:TE}{pos:Pos}
def A_{pins:List (Addr×Obj)}{σ:St}{H:Hp}{s:Shared}{Q:VK}{k k':Bool}(I:Inv X pins σ H s)(q:Q (.bl k) H)(e:k=k'):EP X pins σ Q (.bool k') s:=by
 subst e
 exact⟨.bl k,H,I,rfl,q⟩
def Vh:ş X (compareOp .Lt) (JC λi j=>.bl (decide (i<j))):=Pa λ_ _ _ _ _ _ _ q=>lt_int q
def Vi:ş X (compareOp .LtE) (JC λi j=>.bl (decide (i<=j))):=Pa λ_ _ _ _ _ _ _ q=>le_int q
def Vj:ş X (compareOp .Gt) (JC λi j=>.bl (decide (j<i))):=Pa λ_ _ _ _ _ _ _ q=>gt_int q
def Ba:ş X (compareOp .Is) (λx y H Q=>y=.non/\Q (.bl (decide (x=.non))) H):=by
 intro pins s σ H x y v u Q I rx ry h
 obtain⟨rfl,q⟩:=h
 cases ry
 refine is_none_gen (A_ I q ?_)
 cases x<;>first
  |(cases rx;rfl)
  |(obtain⟨t,rfl⟩:=rx;rfl)
def wD:ş X (compareOp .IsNot) (λx y H Q=>y=.non/\Q (.bl (!decide (x=.non))) H):=by
 intro pins s σ H x y v u Q I rx ry h
 obtain⟨rfl,q⟩:=h
 cases ry
 refine isnot_none_gen (A_ I q ?_)
 cases x<;>first
  |(cases rx;rfl)
  |(obtain⟨t,rfl⟩:=rx;rfl)
def ş.or{f:Value->Value->Sem Value}{r r':R2}(h:ş X f r)(h':ş X f r'):ş X f (λx y H Q=>r x y H Q\/r' x y H Q):=by
 intro pins s σ H x y v u Q I rx ry q
 rcases q with q|q
 ·exact h pins s σ H x y v u Q I rx ry q
 ·exact h' pins s σ H x y v u Q I rx ry q
def ō(b:Expr){op:CmpOp}(h:op≠ .In:=by decide)(h2:op≠ .NotIn:=by decide):behindInMarks op b=false:=by
 have e1:(op== CmpOp.In)=false:=by cases op<;>first|rfl|exact absurd rfl h
 have e2:(op== CmpOp.NotIn)=false:=by cases op<;>first|rfl|exact absurd rfl h2
 cases b<;>simp[behindInMarks,e1,e2]
def wF{op:CmpOp}{r:R2}(ho:ş X (compareOp op) r)(ha:PE X a ta)(hb:PE X b tb)(hm:behindInMarks op b=false):PE X (.Compare a [op] [b] pos) (TX r ta tb):=by
 intro pins s σ H Q I h
 exact wpAny_Compare1 (O_ ha hb I h λv u s2 x y H2 I2 rx ry q=>ho pins s2 σ H2 x y v u Q I2 rx ry q) hm
def Pr(K:PySem.W.Frag)(x:V)(H:Hp)(k:Bool):Prop:=
 match x with
 | .non=>k=false
 | .bl b=>k=b
 | .int i=>k=(i != 0)
 | .str y=>y.length<=sizeLine/\k=((y.length:Int) != 0)
 | .Jw y=>y.size<=sizeLine/\k=((y.size:Int) != 0)
 | .ref p=>(∃xs,Ţ K H p xs/\k=!xs.isEmpty)\/(∃xs,bU K H p xs/\k=!xs.isEmpty)\/∃kvs,H p=some (.dK kvs)/\k=!kvs.isEmpty
 |_=>False
def uK{κ:Type}{kvs:List (κ×V)}{vs:List (κ×Value)}(r:KV kvs vs):(!vs.isEmpty)=!kvs.isEmpty:=by
 cases r<;>rfl
def jP{xs:List V}{its:List Value}(r:Vals xs its):(!its.toArray.isEmpty)=!xs.isEmpty:=by
 cases r<;>simp
def jQ:(sizeLine:Nat)<2 ^ 63:=by rw[sizeLine_eq];decide
def Pu:ZaP X (λx H Q=>∃k,Pr X.K x H k/\Q k H):=by
 intro pins s σ H x v Q I rx h
 obtain⟨k,e,q⟩:=h
 have hl:=jQ
 have hs:sizeLine=16777216:=sizeLine_eq
 cases x with
 |non=>
  cases rx
  have e':k=false:=e
  subst e'
  exact truthy_none ⟨H,I,q⟩
 |bl b=>
  cases rx
  have e':k=b:=e
  subst e'
  exact wpAny_truthy_bool ⟨H,I,q⟩
 |int i=>
  obtain⟨t,rfl⟩:=rx
  have e':k=(i != 0):=e
  subst e'
  exact PySem.P.truthy_int ⟨H,I,q⟩
 |str y=>
  obtain⟨t,rfl⟩:=rx
  obtain⟨hy,e'⟩:y.length<=sizeLine/\k=((y.length:Int) != 0):=e
  subst e'
  exact PySem.P.truthy_str (by omega) ⟨H,I.tok _,q⟩
 |Jw y=>
  obtain⟨t,rfl⟩:=rx
  obtain⟨hy,e'⟩:y.size<=sizeLine/\k=((y.size:Int) != 0):=e
  subst e'
  exact PySem.W.truthy_bytes (by omega) ⟨H,I.tok _,q⟩
 |ref p=>
  cases rx
  have e':(∃xs,Ţ X.K H p xs/\k=!xs.isEmpty)\/(∃xs,bU X.K H p xs/\k=!xs.isEmpty)\/∃kvs,H p=some (.dK kvs)/\k=!kvs.isEmpty:=e
  rcases e' with⟨xs,hx,e'⟩|⟨xs,hx,e'⟩|⟨kvs,hx,e'⟩
  ·subst e'
   obtain⟨its,r,pl,hz⟩:=I.list hx
   have hlen:=r.length
   exact wpAny_truthy_list pl.isList (by simp only[List.size_toArray];omega) ⟨H,I.tok _,by rw[jP r];exact q⟩
  ·subst e'
   obtain⟨its,r,pl,hz⟩:=I.tuple hx
   have hlen:=r.length
   exact truthy_tuple pl (by simp only[List.size_toArray];omega) ⟨H,I.tok _,by rw[jP r];exact q⟩
  ·subst e'
   obtain⟨hz,hS,vs,r,m⟩:kvs.length<=sizeLine/\(p== sysModules)=false/\∃vs,KV kvs vs/\s.heap.DictOf (ĺ X.prog X.w) p vs:=I.hok p _ hx
   have hlen:kvs.length=vs.length:=Paired.length r
   exact wpAny_truthy_dict hS m (by omega) ⟨H,I.tok _,by rw[uK r];exact q⟩
 |_=>exact(show False from e).elim
def Bb(ha:PE X a ta)(he:∀whole,isTrue a X.env whole=(do let v <-whole;standAt a.pos;holding [v] (truthy v))) :
 PT X a (λσ H Q=>ta σ H λx H'=>∃k,Pr X.K x H' k/\Q k H'):=by
 intro pins s σ H Q I h
 exact isTrue_plain (Ń (ha pins s σ H _ I h) λv s1 ⟨x,H1,I1,r1,q1⟩=>Pu pins s1 σ H1 x v Q I1 r1 q1) (he _)
def uL:ş X (binaryOp .Add) (λx y H Q=>∃i j,x=.str i/\y=.str j/\i.length+j.length<=sizeLine/\Q (.str (i++j)) H):=by
 intro pins s σ H x y v u Q I rx ry h
 obtain⟨i,j,rfl,rfl,hz,q⟩:=h
 obtain⟨t,rfl⟩:=rx
 obtain⟨t',rfl⟩:=ry
 exact add_str (λt' tk=>⟨.str (i++j),H,I.tok _,⟨_,rfl⟩,q⟩) hz
def vals1{x:V}{us:List Value}(r:Vals [x] us):∃u,us=[u]/\RelV x u:=by
 cases r with
 |cons r1 r2=>cases r2;exact⟨_,rfl,r1⟩
def vals2{x y:V}{us:List Value}(r:Vals [x,y] us):∃u w',us=[u,w']/\RelV x u/\RelV y w':=by
 cases r with
 |cons r1 r2=>
  cases r2 with
  |cons r3 r4=>cases r4;exact⟨_,_,rfl,r1,r3⟩
def za:Ŝ X (.type "int") (λxs H Q=>(∃i,xs=[.int i]/\Q (.int i) H)\/∃k,xs=[.bl k]/\Q (.int (if k then 1 else 0)) H):=by
 intro pins s σ H xs us Q I r h
 rcases h with⟨i,rfl,q⟩|⟨k,rfl,q⟩
 ·obtain⟨u,rfl,t,rfl⟩:=vals1 r
  exact call_int_int ⟨.int i,H,I,⟨_,rfl⟩,q⟩
 ·obtain⟨u,rfl,r1⟩:=vals1 r
  cases r1
  exact call_int_bool ⟨.int (if k then 1 else 0),H,I.tok _,⟨_,rfl⟩,q⟩
def ZaQ(K:PySem.W.Frag)(x:V)(H:Hp)(n:Nat):Prop:=
 match x with
 | .str y=>y.length<=sizeLine/\n=y.length
 | .Jw y=>y.size<=sizeLine/\n=y.size
 | .ref p=>(∃xs,Ţ K H p xs/\n=xs.length)\/∃xs,bU K H p xs/\n=xs.length
 |_=>False
def Bc:Ŝ X (.builtin "len") (λxs H Q=>∃x n,xs=[x]/\ZaQ X.K x H n/\Q (.int n) H):=by
 intro pins s σ H xs us Q I r h
 obtain⟨x,n,rfl,e,q⟩:=h
 obtain⟨u,rfl,rx⟩:=vals1 r
 have hl:=jQ
 have hs:sizeLine=16777216:=sizeLine_eq
 cases x with
 |str y=>
  obtain⟨t,rfl⟩:=rx
  obtain⟨hy,e'⟩:y.length<=sizeLine/\n=y.length:=e
  subst e'
  exact len_str (by omega) ⟨.int _,H,I.tok _,⟨_,rfl⟩,q⟩
 |Jw y=>
  obtain⟨t,rfl⟩:=rx
  obtain⟨hy,e'⟩:y.size<=sizeLine/\n=y.size:=e
  subst e'
  exact PySem.W.len_bytes (by omega) ⟨.int _,H,I.tok _,⟨_,rfl⟩,q⟩
 |ref p=>
  cases rx
  have e':(∃xs,Ţ X.K H p xs/\n=xs.length)\/∃xs,bU X.K H p xs/\n=xs.length:=e
  rcases e' with⟨xs,hx,e'⟩|⟨xs,hx,e'⟩
  ·subst e'
   obtain⟨its,r',pl,hz⟩:=I.list hx
   have hlen:=r'.length
   exact Calls.call_len_list pl.isList (by simp only[List.size_toArray];omega) ⟨.int xs.length,H,I.tok _,⟨_,by simp only[List.size_toArray];rw[hlen]⟩,q⟩
  ·subst e'
   obtain⟨its,r',pl,hz⟩:=I.tuple hx
   have hlen:=r'.length
   exact len_tuple pl (by simp only[List.size_toArray];omega) ⟨.int xs.length,H,I.tok _,⟨_,by simp only[List.size_toArray];rw[hlen]⟩,q⟩
 |_=>exact(show False from e).elim
def qZ:Ŝ X (.builtin "divmod") (λxs H Q=>∃i j,xs=[.int i,.int j]/\Vg i j/\∀p,H p=none->Q (.ref p) (upd H p (.tup [.int (i / j),.int (i % j)]))):=by
 intro pins s σ H xs us Q I r h
 obtain⟨i,j,rfl,⟨h1,h2⟩,q⟩:=h
 obtain⟨u,w',rfl,⟨t,rfl⟩,⟨t',rfl⟩⟩:=vals2 r
 refine divmod_int (by omega) ?_ (.inl (PyProof.noPylong_small (by omega)))
 rw[Int.fdiv_eq_ediv_of_nonneg i (by omega),Int.fmod_eq_emod_of_nonneg i (by omega)]
 have hn:H s.heap.objs.size=none:=I.hok.fresh (Nat.le_refl _)
 refine⟨.ref s.heap.objs.size,_,?_,rfl,q _ hn⟩
 refine I.laid (λb o e=>Heap.get?_push_of_some _ e) (Nat.le_refl _) ⟨by simp only[List.length_cons,List.length_nil];rw[sizeLine_eq];decide,[.int (i / j) s.toks,.int (i % j) (s.toks+1)],.cons ⟨_,rfl⟩ (.cons ⟨_,rfl⟩ .nil),?_⟩
 exact⟨_,Heap.get?_push_size s.heap rfl,rfl,0,rfl⟩
end
end L2
namespace L2
open PySem PySem.Spec PyProof.Rows
structure zc(h:Heap)(x dx C:Addr)(mA:Str->Option Value):Prop where
 obj:h.get? x=some (PySem.W.instObj C dx)
 ns:h.Ns1 dx mA
 ne:dx≠x
def zf{h:Heap}{dx:Addr}{mA:Str->Option Value}(n:h.Ns1 dx mA):∃od,h.get? dx=some od/\∀name,PySem.W.lookIn name od=some (mA name):=by
 obtain⟨o,es,ep,ho,hd,hk,_,hm⟩:=n
 refine⟨o,ho,λname=>?_⟩
 have e:=hm name
 unfold nsFind findBy at e
 rw[<-Array.find?_toList] at e
 unfold PySem.W.lookIn
 rw[hd]
 dsimp only
 split
 ·rename_i y q
  rw[q] at e
  exact congrArg some e
 ·rename_i q
  rw[q] at e
  have a:es.toList.any (·.refKey)=false:=by
   rw[List.any_eq_false]
   intro y hy
   obtain⟨z,t,hkey⟩:=hk y (Array.mem_toList_iff.mp hy)
   simp[DictEntry.refKey,hkey]
  have a':¬es.toList.any (·.refKey)=true:=by rw[a];exact Bool.false_ne_true
  rw[if_neg a']
  exact congrArg some e
def zc.look{h:Heap}{x dx C:Addr}{mA:Str->Option Value}(I:zc h x dx C mA):∃od,PySem.W.InstAt h x (PySem.W.instObj C dx) C (some od)/\∀name,PySem.W.lookIn name od=some (mA name):=
 let ⟨od,ho,hl⟩:=zf I.ns
 ⟨od,⟨I.obj,rfl,rfl,ho⟩,hl⟩
section
variable{prog:Program}{w:World}{A:Around}{E:Value->Shared->Prop}{s:Shared}{K:PySem.W.Frag}{x dx C f:Addr}{mA:Str->Option Value}{name:Str}{v:Value}
def get_map{expr:Bool}{Q:Value->Shared->Prop}(X:K.In s.heap)(I:zc s.heap x dx C mA)(hg:PySem.W.plainGet K C name=true)(hh:PySem.W.hasDictIn K C=true)
 (ha:PySem.W.findIn K (.ref C) name=some none)(hv:mA name=some v)(hv':PySem.W.handedIn v=true)(h:Q v {s with toks:=s.toks+1}) :
 wpAny (model prog w) A (getAttr (.ref x) name expr) Q E s:=by
 obtain⟨od,J,hl⟩:=I.look
 exact PySem.W.get_value X J (PySem.W.plainGet_of hg).1 (PySem.W.findObj_own hh ha rfl (by rw[hl,hv])) hv' h
def GR{ns:List Str}{Q:Unit->Shared->Prop}(X:K.In s.heap)(I:zc s.heap x dx C mA)
 (hs:PySem.W.findIn K (.ref C) "__setattr__" =some (some (.builtin "object.__setattr__")))(hp:PySem.W.plainOver K C=true)(ht:PySem.W.takerIn K C name=some none)(hh:PySem.W.hasDictIn K C=true)
 (hw:PySem.Within mA ns)(hsz:ns.length<=sizeLine)
 (h:∀h',zc h' x dx C (λy=>if y=name then some v else mA y)->Heap.SameBut dx s.heap h'->Q () {s with heap:=h',toks:=s.toks+2}) :
 wpAny (model prog w) A (setAttr (.ref x) name v) Q E s:=by
 obtain⟨od,J,hl⟩:=I.look
 refine PySem.W.set_plain X J hs (PySem.W.osa_open (s:={s with toks:=s.toks+1}) (r:=none) X J hp ht λb=>?_)
 obtain⟨cd,hc,hd'⟩:=PySem.W.any_some hh
 have hx:s.heap.get? x=some ⟨.ref C,some dx,.plain,#[]⟩:=I.obj
 refine wpAny_bind (wpAny_pure (wpAny_bind (wpAny_bind (wpAny_loadPart hx (wpAny_bind (PySem.W.Looks.here (s:={s with toks:=s.toks+1}) (PySem.W.looks_clsIn X hc) ?_))))))
 rw[hd']
 refine wpAny_pure (a:=some dx) (wpAny_bind (wpAny_pure (wpAny_bind ?_)))
 refine wpAny_nsSet1 (s:={s with toks:=s.toks+1}) I.ns λh' hn2 hs2=>?_
 obtain⟨oD,esD,epD,hoD,hdD,hcD⟩:=hn2.count (PySem.Within.cons name v hw)
 refine wpAny_bind (wpAny_lookBehind hoD (by rw[hdD];exact pastItsLine_dict (Nat.le_trans hcD (by rw[List.length_cons];omega))) ?_)
 exact wpAny_pure (h _ ⟨(hs2.2 _ (Ne.symm I.ne)).trans I.obj,hn2,I.ne⟩ hs2)
def Bd{R:Result->Shared->Prop}{vs:List Value}{kw:List (Str×Value)}(X:K.In s.heap)(hm:PySem.W.makesIn K C=true)
 (hi:PySem.W.findIn K (.ref C) "__init__" =some (some (.ref f)))(hf:PySem.W.typeIn K (.ref f)=some (.type "function"))
 (h:codeAny (model prog w) (A.under (.builtin "type.__call__" ⟨.ref C::vs,kw⟩)) (.call (.ref f) ⟨.ref (s.heap.objs.size+1)::vs,kw⟩) (PySem.W.InitBack (s.heap.objs.size+1) R)
   {s with heap:=(s.heap.push PySem.W.emptyDict).push (PySem.W.instObj C s.heap.objs.size)}) :
 codeAny (model prog w) A (.call (.ref C) ⟨vs,kw⟩) R s:=by
 obtain⟨hh,g,d,t,os⟩:=s
 exact PySem.W.make_core (PySem.W.makes_of X hm) (PySem.W.looks_findIn X hi) (λself=>PySem.W.bind_fn X self hf) (.inl rfl) h
end
def bh(f:Str)(v:V):List (Str×V)->List (Str×V)
 | []=>[(f,v)]
 |(g,x)::r=>if g=f then(g,v)::r else(g,x)::bh f v r
theorem iI(f g:Str)(v:V):∀fs:List (Str×V),(bh f v fs).lookup g=if g=f then some v else fs.lookup g
 | []=>by
   show List.lookup g [(f,v)]=_
   by_cases h:g=f
   ·have hb:(g== f)=true:=beq_iff_eq.mpr h
    simp only[List.lookup,hb,if_pos h]
   ·have hb:(g== f)=false:=beq_eq_false_iff_ne.mpr h
    simp only[List.lookup,hb,if_neg h]
 |(k,x)::r=>by
  have ih:=iI f g v r
  rw[show bh f v ((k,x)::r)=(if k=f then(k,v)::r else(k,x)::bh f v r) from rfl]
  by_cases hk:k=f
  ·rw[if_pos hk]
   by_cases h:g=k
   ·have hb:(g== k)=true:=beq_iff_eq.mpr h
    simp only[List.lookup,hb,if_pos (h.trans hk)]
   ·have hb:(g== k)=false:=beq_eq_false_iff_ne.mpr h
    simp only[List.lookup,hb,if_neg (λe:g=f=>h (e.trans hk.symm))]
  ·rw[if_neg hk]
   by_cases h:g=k
   ·have hb:(g== k)=true:=beq_iff_eq.mpr h
    simp only[List.lookup,hb,if_neg (λe:g=f=>hk (h.symm.trans e))]
   ·have hb:(g== k)=false:=beq_eq_false_iff_ne.mpr h
    simp only[List.lookup,hb]
    exact ih
theorem gJ(f:Str)(v:V):∀fs:List (Str×V),f∈(bh f v fs).map (·.1)/\∀g,g∈fs.map (·.1)->g∈(bh f v fs).map (·.1)
 | []=>⟨by simp[bh],λg h=>by simp at h⟩
 |(k,x)::r=>by
  obtain⟨i1,i2⟩:=gJ f v r
  rw[show bh f v ((k,x)::r)=(if k=f then(k,v)::r else(k,x)::bh f v r) from rfl]
  by_cases hk:k=f
  ·rw[if_pos hk]
   subst hk
   exact⟨by simp,λg h=>by simpa using h⟩
  ·rw[if_neg hk]
   refine⟨?_,λg h=>?_⟩
   ·rw[List.map_cons]
    exact List.mem_cons_of_mem _ i1
   ·rw[List.map_cons] at h ⊢
    rcases List.mem_cons.mp h with e|e
    ·exact List.mem_cons.mpr (.inl e)
    ·exact List.mem_cons_of_mem _ (i2 g e)
theorem iJ(f:Str)(v:V):∀fs:List (Str×V),(bh f v fs).length<=fs.length+1
 | []=>by simp[bh]
 |(k,x)::r=>by
  have ih:=iJ f v r
  rw[show bh f v ((k,x)::r)=(if k=f then(k,v)::r else(k,x)::bh f v r) from rfl]
  by_cases hk:k=f
  ·rw[if_pos hk,List.length_cons,List.length_cons];omega
  ·rw[if_neg hk,List.length_cons,List.length_cons];omega
def mV.some_of{v:V}{o:Option Value}(r:mV (some v) o):∃u,o=some u/\RelV v u:=by
 cases o with
 |none=>exact(show False from r).elim
 |some u=>exact⟨u,rfl,r⟩
def zj{v:V}{u:Value}(r:RelV v u):PySem.W.handedIn u=true:=by
 cases v with
 |non=>cases(show u=Value.none from r);rfl
 |bl b=>cases(show u=Value.bool b from r);rfl
 |int i=>obtain⟨t,e⟩:=(show ∃t,u=Value.int i t from r);cases e;rfl
 |str x=>obtain⟨t,e⟩:=(show ∃t,u=Value.str x t from r);cases e;rfl
 |Jw b=>obtain⟨t,e⟩:=(show ∃t,u=Value.bytes b t from r);cases e;rfl
 |flt b=>obtain⟨t,e⟩:=(show ∃t,u=Value.float b t from r);cases e;rfl
 |ref a=>cases(show u=Value.ref a from r);rfl
 |ty n=>cases(show u=Value.type n from r);rfl
section
variable{P:Program}{w:World}{H H':Hp}{h h':Heap}{a C dx:Addr}{fs fs':List (Str×V)}
def wG(hok:cg P w H h)(e:H a=some (.ins C dx fs)):∃mA,zc h a dx C mA/\(∀f,mV (fs.lookup f) (mA f))/\PySem.Within mA (fs.map (·.1))/\fs.length<=1000/\H dx=some (.own a):=by
 obtain⟨d,z,ne,ob,mA,n,r,q⟩:=(show ń P w H h a (.ins C dx fs) from hok a _ e)
 exact⟨mA,⟨ob,n,ne⟩,r,q,z,d⟩
end
structure Cls(K:PySem.W.Frag)(C:Addr):Prop where
 pg:PySem.W.plainGet K C Str.empty=true
 hd:PySem.W.hasDictIn K C=true
 po:PySem.W.plainOver K C=true
 sa:PySem.W.findIn K (.ref C) "__setattr__" =some (some (.builtin "object.__setattr__"))
def Cls.get{K:PySem.W.Frag}{C:Addr}(c:Cls K C)(f:Str):PySem.W.plainGet K C f=true:=c.pg
def ĥ(K:PySem.W.Frag)(C:Addr)(f:Str):Prop:=PySem.W.findIn K (.ref C) f=some none
def ĥ.taker{K:PySem.W.Frag}{C:Addr}{f:Str}(n:ĥ K C f):PySem.W.takerIn K C f=some none:=by
 unfold PySem.W.takerIn
 rw[show PySem.W.findIn K (.ref C) f=some none from n]
 rfl
section
variable{X:Cx}{pins:List (Addr×Obj)}{σ:St}{H:Hp}{s:Shared}{a C dx:Addr}{fs:List (Str×V)}{f:Str}{v:V}{A:Around}{E:Value->Shared->Prop}
def uM{b:Bool}{Q:Value->Shared->Prop}(I:Inv X pins σ H s)(e:H a=some (.ins C dx fs))(c:Cls X.K C)(n:ĥ X.K C f)(l:fs.lookup f=some v)
 (h:∀u s',Inv X pins σ H s'->RelV v u->Q u s'):wpAny (model X.prog X.w) A (getAttr (.ref a) f b) Q E s:=by
 obtain⟨mA,O,r,_,_,_⟩:=wG I.hok e
 obtain⟨u,hu,ru⟩:=mV.some_of (v:=v) (o:=mA f) (by rw[<-l];exact r f)
 exact get_map I.Aq O (c.get f) c.hd n hu (zj ru) (h u _ (I.tok _) ru)
def uN{y:V}{u:Value}{Q:Unit->Shared->Prop}(I:Inv X pins σ H s)(e:H a=some (.ins C dx fs))(c:Cls X.K C)(n:ĥ X.K C f)(hl:fs.length<1000)(ry:RelV y u)
 (h:∀s',Inv X pins σ (upd H a (.ins C dx (bh f y fs))) s'->Q () s'):wpAny (model X.prog X.w) A (setAttr (.ref a) f u) Q E s:=by
 obtain⟨mA,O,r,wi,_,ho⟩:=wG I.hok e
 have hz:(fs.map (·.1)).length<=sizeLine:=by rw[List.length_map,sizeLine_eq];omega
 refine GR I.Aq O c.sa c.po n.taker c.hd wi hz λh' O' sb=>h _ ?_
 have hd:∃o,h'.get? dx=some o:=let ⟨o,_,_,e',_⟩:=O'.ns;⟨o,e'⟩
 refine I.write (x:=a) (e:=dx) (by rw[e];exact True.intro) (.inr ho) (λb q hb z=>(sb.2 b hb).trans z) hd ?_
 refine⟨by rw[č O.ne];exact ho,?_,O.ne,O'.obj,_,O'.ns,λg=>?_,λg hg=>?_⟩
 ·have:=iJ f y fs;omega
 ·show mV ((bh f y fs).lookup g) (if g=f then some u else mA g)
  rw[iI]
  by_cases q:g=f
  ·rw[if_pos q,if_pos q];exact ry
  ·rw[if_neg q,if_neg q];exact r g
 ·by_cases q:g=f
  ·rw[q];exact(gJ f y fs).1
  ·refine(gJ f y fs).2 g (wi g λz=>hg ?_)
   show(if g=f then some u else mA g)=none
   rw[if_neg q];exact z
def Inv.made(I:Inv X pins σ H s):Inv X pins σ (upd (upd H s.heap.objs.size (.own (s.heap.objs.size+1))) (s.heap.objs.size+1) (.ins C s.heap.objs.size []))
 {s with heap:=(s.heap.push PySem.W.emptyDict).push (PySem.W.instObj C s.heap.objs.size)}:=by
 have e1:(s.heap.push PySem.W.emptyDict).get? s.heap.objs.size=some PySem.W.emptyDict:=Heap.get?_push_size s.heap rfl
 have e2:((s.heap.push PySem.W.emptyDict).push (PySem.W.instObj C s.heap.objs.size)).get? (s.heap.objs.size+1)=some (PySem.W.instObj C s.heap.objs.size):=by
  have:=Heap.get?_push_size (s.heap.push PySem.W.emptyDict) (o:=PySem.W.instObj C s.heap.objs.size) rfl
  rwa [Heap.size_push] at this
 have e3:(s.heap.push PySem.W.emptyDict).Ns s.heap.objs.size (λ_=>none):=⟨PySem.W.emptyDict,#[],_,e1,rfl,(λe he=>absurd he (by simp)),λ_=>rfl⟩
 have I1:=I.laid (a:=s.heap.objs.size) (o:=.own (s.heap.objs.size+1)) (h':=s.heap.push PySem.W.emptyDict) (t':=s.toks) (λb u q=>Heap.get?_push_of_some _ q) (Nat.le_refl _) ⟨_,e1⟩
 refine I1.laid (a:=s.heap.objs.size+1) (o:=.ins C s.heap.objs.size []) (t':=s.toks) (λb u q=>Heap.get?_push_of_some _ q) (Nat.le_of_eq (Heap.size_push _ _)) ?_
 have ne:s.heap.objs.size≠s.heap.objs.size+1:=Nat.ne_of_lt (Nat.lt_succ_self _)
 refine⟨by rw[č ne,ē],Nat.zero_le _,ne,e2,λ_=>none,(Heap.Ns1.of_empty e3).at λo q=>Heap.get?_push_of_some _ q,λ_=>True.intro,λy hy=>absurd rfl hy⟩
def GX{prog:Program}{w:World}{env:Env}{e:Expr}{f:Str}{pos:Pos}{s:Shared}{Q:Value->Shared->Prop}(hb:attributeBase e f env (eval e env)=eval e env)
 (h:wpAny (model prog w) A (eval e env) (λo s₁=>wpAny (model prog w) A (getAttr o f true) Q E s₁) E s):wpAny (model prog w) A (eval (.Attribute e f pos) env) Q E s:=
 Attribute_any_ h (by rw[arm_eval_Attribute,hb])
end
def ZaR(K:PySem.W.Frag)(ta:TE)(f:Str):TE:=λσ H Q=>ta σ H λx H1=>∃a C dx fs v,x=.ref a/\H1 a=some (.ins C dx fs)/\Cls K C/\ĥ K C f/\fs.lookup f=some v/\Q v H1
def ZaS(K:PySem.W.Frag)(ta tv:TE)(f:Str):TS:=λD σ H=>tv σ H λy H1=>ta σ H1 λx H2=>∃a C dx fs,x=.ref a/\H2 a=some (.ins C dx fs)/\Cls K C/\ĥ K C f/\fs.length<1000/\
 D.nx σ (upd H2 a (.ins C dx (bh f y fs)))
section
variable{X:Cx}{o e value:Expr}{f:Str}{pos pos' tpos:Pos}{ta tv:TE}
def Px(he:PE X e ta)(hb:attributeBase e f X.env (eval e X.env)=eval e X.env):PE X (.Attribute e f pos) (ZaR X.K ta f):=by
 intro pins s σ H Q I h
 refine GX hb (Ń (he pins s σ H _ I h) λu s1 ⟨x,H1,I1,rx,a,C,dx,fs,v,ex,ea,c,n,l,q⟩=>?_)
 subst ex
 obtain rfl:u=Value.ref a:=rx
 exact uM I1 ea c n l λu' s2 I2 ru=>⟨v,H1,I2,ru,q⟩
def Py(ha:PE X o ta)(hv:PE X value tv)(hs:swapsWith value (some (.Attribute o f pos')) pos.line X.env=pure false):PS X (.Assign [.Attribute o f pos'] value pos) (ZaS X.K ta tv f):=by
 intro pins s σ H D I h
 refine plainObj_wpAny_Assign_Attribute (Ń (hv pins s σ H _ I h) λu s1 ⟨y,H1,I1,ry,q⟩=>Ń (ha pins s1 σ H1 _ I1 q) λov s2 ⟨x,H2,I2,rx,a,C,dx,fs,ex,ea,c,n,l,q2⟩=>?_) hs
 subst ex
 obtain rfl:ov=Value.ref a:=rx
 exact uN I2 ea c n l ry λs3 I3=>⟨σ,_,I3,q2⟩
end
section
variable{X:Cx}{pins:List (Addr×Obj)}{σ:St}{H:Hp}{s:Shared}{A:Around}{E:Value->Shared->Prop}{Q:Value->Shared->Prop}{c:Value}{b:Bool}
end
end L2
namespace L2
open PySem PySem.Spec PyProof.Rows
structure Ś(k:Nat)(A:Around):Prop where
 hd:A.handled=none
 dp:A.depth+3*k+5<recursionLimit
 un:A.units+16*k+200<cLine
def Ś.mono{j k:Nat}{A:Around}(r:Ś k A)(h:j<=k):Ś j A:=⟨r.hd,by have:=r.dp;omega,by have:=r.un;omega⟩
def Ś.mo{j k:Nat}{A:Around}(r:Ś k A)(h:j<=k:= by decide):Ś j A:= r.mono h
theorem Ś.deeper{k:Nat}{A:Around}(r:Ś (k+1) A)(env:Env):Ś k (A.deeper env):=
 ⟨r.hd,by have:=r.dp;show A.depth+1+3*k+5<_;omega,by have:=r.un;show A.units+3+16*k+200<_;omega⟩
def uO{A:Around}{C:Addr}{us:List Value}{kw:List (Str×Value)}:(A.under (.builtin "type.__call__" ⟨.ref C::us,kw⟩)).depth=A.depth+1:=by
 first|rfl|simp[Around.under,Code.weight,Code.isCreation,Code.isGuard,Code.isCaller,Code.frames,Code.isFrame,guardIds]
def uP{A:Around}{C:Addr}{us:List Value}{kw:List (Str×Value)}:(A.under (.builtin "type.__call__" ⟨.ref C::us,kw⟩)).units=A.units+1:=by
 first|rfl|simp[Around.under,Code.cUnits,Code.frames,Code.isFrame]
def Ś.make{k:Nat}{A:Around}(r:Ś (k+1) A)(C:Addr)(us:List Value)(kw:List (Str×Value)):Ś k (A.under (.builtin "type.__call__" ⟨.ref C::us,kw⟩)):=
 ⟨r.hd,by have:=r.dp;rw[uO];omega,by have:=r.un;rw[uP];omega⟩
theorem Ś.depth{k:Nat}{A:Around}(r:Ś k A):A.depth<recursionLimit:=by have:=r.dp;omega
theorem Ś.units{k:Nat}{A:Around}(r:Ś k A):A.units+64<cLine:=by have:=r.un;omega
def ZaT:TA:=λ_ H Q=>Q [] H
def Vk(ta:TE)(tr:TA):TA:=λσ H Q=>ta σ H λx H1=>tr σ H1 λxs H2=>Q (x::xs) H2
section
variable{X:Cx}{e:Expr}{es:List Expr}{te:TE}{t:TA}{pos:Pos}
def jR:PA X [] ZaT:=λ_ _ _ _ H Q I h=>Calls.spliced_nil ⟨[],H,I,.nil,h⟩
def cY(ha:PE X e te)(hr:PA X es t)(hs:starEach (e::es) X.env=(false,eval e X.env)::starEach es X.env:=by rfl):PA X (e::es) (Vk te t):=by
 intro pos pins s σ H Q I h
 rw[hs]
 show wpAny _ _ (spliced ((false,eval e X.env)::backTo pos (starEach es X.env))) _ _ s
 refine Calls.spliced_cons (Ń (ha pins s σ H _ I h) λu s1 ⟨x,H1,I1,r1,q1⟩=>?_)
 exact Ń (hr pos pins s1 σ H1 _ I1 q1) λus s2 ⟨xs,H2,I2,r2,q2⟩=>⟨x::xs,H2,I2,.cons r1 r2,q2⟩
def ZaU(t:TA):TE:=λσ H Q=>t σ H λxs H1=>xs.length<=sizeLine/\∀p,H1 p=none->Q (.ref p) (upd H1 p (.tup xs))
def ZaV(t:TA):TE:=λσ H Q=>t σ H λxs H1=>xs.length<=sizeLine/\∀p,H1 p=none->Q (.ref p) (upd H1 p (.lst xs))
def Pz{x1}(h:PA X es t):PE X (.Tuple es x1 pos) (ZaU t):=by
 intro pins s σ H Q I hq
 refine wpAny_Tuple_spliced (Ń (h pos pins s σ H _ I hq) λus s1 ⟨xs,H1,I1,r,z,q⟩=>⟨by rw[<-r.length];exact z,?_⟩)
 have hf:H1 s1.heap.objs.size=none:=I1.hok.fresh (Nat.le_refl _)
 refine⟨.ref s1.heap.objs.size,upd H1 s1.heap.objs.size (.tup xs),I1.laid (t':=s1.toks) (λb u e=>Heap.get?_push_of_some _ e) (Nat.le_refl _) ?_,rfl,q _ hf⟩
 exact⟨z,us,r,⟨_,Heap.get?_push_size _ rfl,rfl,_,rfl⟩⟩
def PB(h:PA X es t):PE X (.List es pos) (ZaV t):=by
 intro pins s σ H Q I hq
 refine wpAny_List_spliced (Ń (h pos pins s σ H _ I hq) λus s1 ⟨xs,H1,I1,r,z,q⟩=>⟨by rw[<-r.length];exact z,?_⟩)
 have hf:H1 s1.heap.objs.size=none:=I1.hok.fresh (Nat.le_refl _)
 refine⟨.ref s1.heap.objs.size,upd H1 s1.heap.objs.size (.lst xs),I1.laid (t':=s1.toks) (λb u e=>Heap.get?_push_of_some _ e) (Nat.le_refl _) ?_,rfl,q _ hf⟩
 exact⟨z,us,0,r,Heap.get?_push_size _ rfl⟩
end
abbrev Sp:=List V->Hp->VK->XK->Prop
abbrev gK:=List Env->Hp->Shared->XK->Value->Shared->Prop
structure uQ(P:Program)(w:World)(K:PySem.W.Frag)(mg:Str->Option Value)(base:Heap)(A:Around)(outer:List Env)(s:Shared)(H:Hp):Prop where
 frames:A.frames=some outer
 mod:Mod K mg base
 bs:∀b o,base.get? b=some o->s.heap.get? b=some o/\H b=none
 Gx:base.objs.size<=s.heap.objs.size
 jo:s.heap.FunFrames base outer
 Oi:∀b∈frs outer,H b=none
 hok:cg P w H s.heap
 bare:AllBare s.gens
 tb:TabsOk K mg base H
def CE(outer:List Env)(P:Program)(w:World)(H:Hp)(s:Shared)(Q:VK)(u:Value)(s':Shared):Prop:=
 ∃v H',s'.os=s.os/\AllBare s'.gens/\Un (frs outer) [] H H' s.heap s'.heap/\cg P w H' s'.heap/\RelV v u/\Q v H'
def CR(CX:gK)(outer:List Env)(P:Program)(w:World)(H:Hp)(s:Shared)(Q:VK)(E:XK)(r:Result)(s':Shared):Prop:=
 match r with
 | .ok (.ret u)=>CE outer P w H s Q u s'
 | .ok _=>False
 | .error e=>CX outer H s E e s'
structure Ĭ(P:Program)(w:World)(K:PySem.W.Frag)(mg:Str->Option Value)(base:Heap)(CX:gK)(k:Nat)(f:Addr)(fd:FuncData)(ps:List Str)(sp:Sp):Prop where
 len:∀vs H Q E,sp vs H Q E->vs.length=ps.length
 run:∀(A:Around) (outer:List Env) (s:Shared) (H:Hp) (args:Args) (us:List Value) (vs:List V) (Q:VK) (E:XK),Ś k A->uQ P w K mg base A outer s H->BindsTo s fd args (ps.zip us)->Vals vs us->sp vs H Q E->
  codeAny (model P w) A (.call (.ref f) args) (CR CX outer P w H s Q E) s
def Ĭ.imp{P:Program}{w:World}{K:PySem.W.Frag}{mg:Str->Option Value}{base:Heap}{CX:gK}{k:Nat}{f:Addr}{fd:FuncData}{ps:List Str}{sp sp':Sp}(F:Ĭ P w K mg base CX k f fd ps sp)
 (h:∀vs H Q E,sp' vs H Q E->sp vs H Q E):Ĭ P w K mg base CX k f fd ps sp':=
 ⟨λvs H Q E q=>F.len vs H Q E (h _ _ _ _ q),λA outer s H args us vs Q E hr he hb hv hs=>F.run A outer s H args us vs Q E hr he hb hv (h _ _ _ _ hs)⟩
def uQ.make{P:Program}{w:World}{K:PySem.W.Frag}{mg:Str->Option Value}{base:Heap}{A:Around}{outer:List Env}{s:Shared}{H:Hp}(e:uQ P w K mg base A outer s H)(C:Addr)(us:List Value)(kw:List (Str×Value)) :
 uQ P w K mg base (A.under (.builtin "type.__call__" ⟨.ref C::us,kw⟩)) outer s H:=⟨by first|exact e.frames|(simpa[Around.under,Code.envs,Code.isFrame,pushEnvs] using e.frames),e.mod,e.bs,e.Gx,e.jo,e.Oi,e.hok,e.bare,e.tb⟩
section
variable{X:Cx}{pins:List (Addr×Obj)}{σ:St}{H:Hp}{s s':Shared}
def Inv.env0(I:Inv X pins σ H s):uQ X.prog X.w X.K X.mg X.base X.A X.stack s H:=
 ⟨I.ok.frames,I.ok.mod,I.bs,Nat.le_trans I.ok.Gx I.sz,I.stack,I.wA,I.hok,I.bare,I.tb⟩
def Inv.after{Q:VK}{u:Value}(I:Inv X pins σ H s)(h:CE X.stack X.prog X.w H s Q u s'):EP X pins σ Q u s':=by
 obtain⟨v,H',os,bare,un,hok,r,q⟩:=h
 obtain⟨hh,g,d,t,os'⟩:=s'
 obtain rfl:os'=s.os:=os
 exact⟨v,H',I.call (h':=hh) (g':=g) (d':=d) (t':=t) (ch:=[]) un hok bare (λb z=>absurd z (by simp)),r,q⟩
end
def Binds(K:PySem.W.Frag)(fd:FuncData)(ps:List Str)(ds:List Value):Prop:=
 ∀(s:Shared) (us:List Value),K.In s.heap->(us++ds).length=ps.length->BindsTo s fd ⟨us,[]⟩ (ps.zip (us++ds))
def Binds.all{K:PySem.W.Frag}{fd:FuncData}{ps:List Str}(h:∀us:List Value,us.length=ps.length->bindArgs fd ⟨us,[]⟩=pure (ps.zip us)):Binds K fd ps []:=λs us _ hl=>by
 rw[List.append_nil] at hl ⊢
 exact .of_eq (h us hl)
section
variable{X:Cx}{CX:gK}{k:Nat}{f C:Addr}{fd:FuncData}{ps:List Str}{sp:Sp}{dvs:List V}{ds:List Value}{E:XK}{x m:Str}{p pos apos:Pos}{e o:Expr}{es:List Expr}{ta:TE}{t:TA}
structure Mk(K:PySem.W.Frag)(C f:Addr):Prop where
 makes:PySem.W.makesIn K C=true
 init:PySem.W.findIn K (.ref C) "__init__" =some (some (.ref f))
 fn:PySem.W.isFn K (.ref f)=true
 kp:PySem.W.keepIn K (.ref C)=true
end
section
variable{X:Cx}{CX:gK}{k:Nat}{f C:Addr}{fd:FuncData}{ps ks:List Str}{sp:Sp}{E:XK}{x m:Str}{p pos apos kpos:Pos}{e o:Expr}{es:List Expr}{kws:List Keyword}{te ta:TE}{t tk:TA}{nm:Option Str}
variable{g:List Value->List Value->List Value}{gV:List V->List V->List V}
end
structure ď(N P:List Str)(sc:Scope):Prop where
 kind:sc.kind=.function
 co:sc.isCoroutine=false
 gen:sc.isGenerator=false
 nd:N.Nodup
 pre:N.take P.length=P
 par:∀x∈P,sc.names.lookup x=some .local\/sc.names.lookup x=some .cell
 PJ:∀y∈sc.names,y.2≠ .free
theorem nO{kindOf:Str->Option NameKind}{x:Str}:∀{binds:List (Str×Value)} {m:Str->Option Value},(∀v,(x,v)∉binds)->bindL kindOf binds m x=m x
 | [],_,_=>rfl
 |(n,v)::r,m,h=>by
  unfold bindL
  rw[nO λw hw=>h w (List.mem_cons_of_mem _ hw)]
  split
  ·have:x≠n:=by rintro rfl;exact h v List.mem_cons_self
   simp[this]
  ·rfl
theorem nP{kindOf:Str->Option NameKind}{x:Str}:∀{binds:List (Str×Value)} {m:Str->Option Value},(∀v,(x,v)∉binds)->bindC kindOf binds m x=m x
 | [],_,_=>rfl
 |(n,v)::r,m,h=>by
  unfold bindC
  rw[nP λw hw=>h w (List.mem_cons_of_mem _ hw)]
  split
  ·rfl
  ·have:x≠n:=by rintro rfl;exact h v List.mem_cons_self
   simp[this]
theorem nQ{kindOf:Str->Option NameKind}{x:Str}{v:Value}:∀{P:List Str} {vs:List Value} {i:Nat} {m:Str->Option Value},P.Nodup->P[i]?=some x->vs[i]?=some v->kindOf x=some .local->
 bindL kindOf (P.zip vs) m x=some v
 | [],_,_,_,_,h,_,_=>by simp at h
 |_::_,[],_,_,_,_,h,_=>by simp at h
 |p::P,w::vs,0,m,nd,h1,h2,hk=>by
  simp at h1 h2;subst h1;subst h2
  show bindL kindOf ((p,w)::P.zip vs) m p=_
  unfold bindL
  rw[nO λv hv=>(List.nodup_cons.mp nd).1 (List.of_mem_zip hv).1,if_pos hk]
  simp
 |p::P,w::vs,i+1,m,nd,h1,h2,hk=>by
  show bindL kindOf ((p,w)::P.zip vs) m x=_
  unfold bindL
  exact nQ (i:=i) (List.nodup_cons.mp nd).2 (by simpa using h1) (by simpa using h2) hk
theorem nR{kindOf:Str->Option NameKind}{x:Str}{v:Value}:∀{P:List Str} {vs:List Value} {i:Nat} {m:Str->Option Value},P.Nodup->P[i]?=some x->vs[i]?=some v->kindOf x≠some .local->
 bindC kindOf (P.zip vs) m x=some v
 | [],_,_,_,_,h,_,_=>by simp at h
 |_::_,[],_,_,_,_,h,_=>by simp at h
 |p::P,w::vs,0,m,nd,h1,h2,hk=>by
  simp at h1 h2;subst h1;subst h2
  show bindC kindOf ((p,w)::P.zip vs) m p=_
  unfold bindC
  rw[nP λv hv=>(List.nodup_cons.mp nd).1 (List.of_mem_zip hv).1,if_neg hk]
  simp
 |p::P,w::vs,i+1,m,nd,h1,h2,hk=>by
  show bindC kindOf ((p,w)::P.zip vs) m x=_
  unfold bindC
  exact nR (i:=i) (List.nodup_cons.mp nd).2 (by simpa using h1) (by simpa using h2) hk
def start(N:List Str)(vs:List V):St:=vs.map some++List.replicate (N.length-vs.length) none
def pF(CX:gK)(P:Program)(w:World)(K:PySem.W.Frag)(mg:Str->Option Value)(base:Heap)(N:List Str)(qual:Str)(scope:Scope)(f:Addr)(cd:Value)(A:Around)(outer:List Env)(s:Shared)(H:Hp)(E:XK):Cx where
 prog:=P
 w:=w
 K:=K
 mg:=mg
 base:=base
 A:=A.deeper (envOfC qual scope s.heap.objs.size f cd)
 N:=N
 s₀:= s
 H₀:= H
 env:=envOfC qual scope s.heap.objs.size f cd
 outer:=outer
 stack:=envOfC qual scope s.heap.objs.size f cd::outer
 ex:=[]
 calm:=true
 fn:=λ_=>true
 pn:=[]
 xe:=λe s'=>wpAny (model P w) (A.deeper (envOfC qual scope s.heap.objs.size f cd)) (leaving (envOfC qual scope s.heap.objs.size f cd) e) (λ_ s''=>CX outer H s E e s'') (λe' s''=>CX outer H s E e' s'') s'
def fC{sc:Scope}{n:Nat}{x:Str}(h:sc.names.lookup x=some .cell):∃c,(cellsFrom n sc.names []).lookup x=some c:=by
 have q:=PySem.W.cellsFrom_some sc.names n [] (.inl h)
 exact Option.isSome_iff_exists.mp q
def zm{CX:gK}{P:Program}{w:World}{K:PySem.W.Frag}{mg:Str->Option Value}{base:Heap}{N ps:List Str}{qual:Str}{scope:Scope}{f:Addr}{cd:Value}{A:Around}{outer:List Env}{s s1:Shared}{H:Hp}{E:XK}{us:List Value}{vs:List V}
 (S:ď N ps scope)(hd:A.handled=none)(e0:uQ P w K mg base A outer s H)(hl:vs.length=ps.length)(r:Vals vs us)
 (x:InCallC s s.heap.objs.size (bindL (envOfC qual scope s.heap.objs.size f cd).kindOf (ps.zip us) λ_=>none) (cellsFrom (s.heap.objs.size+1) scope.names []) (bindC (envOfC qual scope s.heap.objs.size f cd).kindOf (ps.zip us) λ_=>none) s1) :
 Inv (pF CX P w K mg base N qual scope f cd A outer s H E) [] (start N vs) H s1:=by
 have hpl:ps.length<=N.length:=by have:=congrArg List.length S.pre;rw[List.length_take] at this;omega
 obtain⟨h1,tk,rfl,hk⟩:=x.done
 have Vl:∀b:Addr,b∉(pF CX P w K mg base N qual scope f cd A outer s H E).ex:=λb z=>absurd (show b∈([]:List Addr) from z) (by simp)
 refine⟨⟨e0.mod,S.kind,rfl,rfl,Nat.le_refl _,λy z c h1 h2=>?_,λy hy=>?_,λy c _ h=>?_,λ_=>hd,Around.frames_deeper e0.frames,.inr ⟨rfl,rfl⟩,λb z=>absurd z (Vl b),e0.bs,e0.Gx,λb _ _=>Vl b,λb z=>absurd z (Vl b),e0.jo,e0.Oi,e0.tb⟩,
  rfl,e0.bare,Un.kept hk,⟨_,x.toInCall.ns,λi y v h1 h2 h3=>?_⟩,λy c h=>⟨_,x.cell y c h⟩,e0.hok.fresh (Nat.le_refl _),λy c h=>?_,λp hp=>absurd (show p∈([]:List (Addr×Obj)) from hp) (by simp),e0.hok.kept hk,?_⟩
 ·exact name_of_addr x.apart (PySem.mem_of_lookup h1) (PySem.mem_of_lookup h2)
 ·have hy:scope.names.lookup y=some .cell\/scope.names.lookup y=some .free:=hy
  rcases hy with hy|hy
  ·exact fC hy
  ·exact absurd rfl (S.PJ _ (PySem.mem_of_lookup hy))
 ·exact Nat.le_of_lt (x.above y c (PySem.mem_of_lookup h))
 ·have hi:i<vs.length:=by
   unfold start at h2
   by_cases hi:i<vs.length
   ·exact hi
   ·rw[List.getElem?_append_right (by simpa using hi)] at h2
    rw[List.getElem?_replicate] at h2
    split at h2<;>cases h2
  have ha:vs[i]?=some v:=by
   unfold start at h2
   rw[List.getElem?_append_left (by simpa using hi),List.getElem?_map] at h2
   cases e:vs[i]? with
   |none=>rw[e] at h2;cases h2
   |some a=>rw[e] at h2;cases h2;rfl
  obtain⟨u,hu,rv⟩:=r.get ha
  have hp:ps[i]?=some y:=by
   rw[<-S.pre,List.getElem?_take_of_lt (by omega)];exact h1
  have ndP:ps.Nodup:=by rw[<-S.pre];exact S.nd.sublist (List.take_sublist _ _)
  refine⟨u,rv,?_⟩
  rcases S.par y (List.mem_of_getElem? hp) with k|k
  ·exact .inl ⟨k,nQ ndP hp hu k⟩
  ·obtain⟨c,e⟩:=fC (n:=s.heap.objs.size+1) k
   refine .inr ⟨.inl k,c,e,?_⟩
   have q:=x.cell y c e
   rw[nR ndP hp hu (by show scope.names.lookup y≠_;rw[k];decide)] at q
   exact q
 ·exact e0.hok.fresh (Nat.le_of_lt (x.above y c (PySem.mem_of_lookup h)))
 ·unfold start
  show _=N.length
  rw[List.length_append,List.length_map,List.length_replicate]
  omega
def JF{CX:gK}{P:Program}{w:World}{K:PySem.W.Frag}{mg:Str->Option Value}{base:Heap}{k:Nat}{f:Addr}{name qual:Str}{params:Arguments}{body:List Stmt}{scope:Scope}{dV kV doc pm cdv ct oc:Value}{an od:Option Addr}
 {osl:Array (Option Value)}{N ps:List Str}{sp:Sp}(lk:K.lookup f=some ⟨oc,od,.func (PySem.W.fnOf name qual params body scope dV kV doc pm an cdv ct),osl⟩)(hcd:PySem.W.codeIn K cdv qual=true)(S:ď N ps scope)
 (len:∀vs H Q E,sp vs H Q E->vs.length=ps.length)
 (hbody:∀(A:Around) (outer:List Env) (s:Shared) (H:Hp) (vs:List V) (Q:VK) (E:XK),Ś k (A.deeper (envOfC qual scope s.heap.objs.size f cdv))→sp vs H Q E→
   ∃t,fB (pF CX P w K mg base N qual scope f cdv A outer s H E) body t/\t {nx:=λ_ H'=>Q .non H',rt:=Q} (start N vs) H) :
 Ĭ P w K mg base CX (k+1) f (PySem.W.fnOf name qual params body scope dV kV doc pm an cdv ct) ps sp:=by
 refine⟨len,λA outer s H args us vs Q E hr e0 hb r hsp=>?_⟩
 have hl:=len _ _ _ _ hsp
 have KX:K.In s.heap:=e0.mod.YG.keeps λb o e=>(e0.bs b o e).1
 have lim:s.heap.NoLimit:=e0.mod.nolimit.keeps λb o e=>(e0.bs b o e).1
 have hkind:∀y∈ps.zip us,scope.names.lookup y.1=some .local\/(scope.names.lookup y.1=some .cell/\((cellsFrom (s.heap.objs.size+1) scope.names []).lookup y.1).isSome=true):=λ⟨n,v⟩ hy=>by
  rcases S.par n (List.of_mem_zip hy).1 with q|q
  ·exact .inl q
  ·exact .inr ⟨q,PySem.W.cellsFrom_some _ _ _ (.inl q)⟩
 refine codeAny_call_function hr.depth (KX _ _ lk) rfl S.co S.gen rfl (PySem.W.codeRec_of KX hcd) (hb _ _ _ _ ?_)
 refine wpAny_newFunctionEnv_cells S.kind hkind λenv he s1 x=>?_
 subst he
 refine⟨lim.keeps x.toInCall.keep,codeAny_func ?_⟩
 obtain⟨t,ht,hq⟩:=hbody A outer s H vs Q E (hr.deeper _) hsp
 have I:Inv (pF CX P w K mg base N qual scope f cdv A outer s H E) [] (start N vs) H s1:=zm S hr.hd e0 hl r x
 refine wpAny_mono (ht [] s1 (start N vs) H _ I hq) (λfl s' hs=>?_) λe s' hs=>hs
 have fin:∀{σ':St} {H':Hp} {v:V} {u:Value},Inv (pF CX P w K mg base N qual scope f cdv A outer s H E) [] σ' H' s'->RelV v u->Q v H'->CE outer P w H s Q u s':=
  fun{σ' H' v u} J rv q=>⟨v,H',J.os,J.bare,J.base,J.hok,rv,q⟩
 cases fl with
 |ret u=>
  obtain⟨v,σ',H',J,rv,q⟩:=hs
  exact fin J rv q
 |next=>
  obtain⟨σ',H',J,q⟩:=hs
  exact fin (v:=V.non) (u:=Value.none) J rfl q
 |brk=>
  obtain⟨_,_,_,q⟩:=hs
  exact False.elim q
 |cont=>
  obtain⟨_,_,_,q⟩:=hs
  exact False.elim q
end L2
namespace L2
open PySem PySem.Spec PyProof.Rows
section
variable{X:Cx}{x:Str}{p pos:Pos}{e:Expr}{es:List Expr}{t:TA}{id T:String}{r:List V->Hp->VK->Prop}
def YK(r:List V->Hp->VK->Prop)(t:TA):TE:=λσ H Q=>t σ H λvs H1=>r vs H1 Q
def q_(hc:Ŝ X (.builtin id) r)(hg:Gl X x)(hm:X.mg x=none)(hv:bootBuiltins x=some (.builtin id))(ha:PA X (e::es) t)(hn:x≠ "__name__" := by decide)(hdb:(x== ("__debug__" :Str))=false:=by decide)
 (he:starEach (e::es) X.env=(false,eval e X.env)::starEach es X.env:=by rfl)(hpl:(backTo pos (starEach es X.env)).any (·.1)=false:=by rfl):PE X (.Call (.Name x p) (e::es) [] pos) (YK r t):=by
 intro pins s σ H Q I h
 refine wpAny_Call_Name_kw (gG I hg hm hv ?_ hn hdb)
 exact PyProof.Rows.callWith_builtin1 (Ń (ha pos pins s σ H _ I h) λus s1 ⟨vs,H1,I1,r1,q1⟩=>hc pins s1 σ H1 vs us Q I1 r1 q1) he hpl
def nT(hc:Ŝ X (.type T) r)(hg:Gl X x)(hm:X.mg x=none)(hv:bootBuiltins x=some (.type T))(ha:PA X (e::es) t)(hn:x≠ "__name__" := by decide)(hdb:(x== ("__debug__" :Str))=false:=by decide)
 (he:starEach (e::es) X.env=(false,eval e X.env)::starEach es X.env:=by rfl)(hpl:(backTo pos (starEach es X.env)).any (·.1)=false:=by rfl):PE X (.Call (.Name x p) (e::es) [] pos) (YK r t):=by
 intro pins s σ H Q I h
 refine wpAny_Call_Name_kw (gG I hg hm hv ?_ hn hdb)
 exact PyProof.Rows.callWith_type1 (Ń (ha pos pins s σ H _ I h) λus s1 ⟨vs,H1,I1,r1,q1⟩=>hc pins s1 σ H1 vs us Q I1 r1 q1) he hpl
end
end L2
namespace HT
open PySem PyProof.Rows
def lexLt:List Int->List Int->Bool
 | [],[]=>false
 | [],_::_=>true
 |_::_,[]=>false
 |x::xs,y::ys=>if x=y then lexLt xs ys else decide (x<y)
def uR(x y:Int)(xs ys:List Int):lexLt (x::xs) (y::ys)=if x=y then lexLt xs ys else decide (x<y):=rfl
def mY:lexLt [] []=false:=rfl
def jT(y:Int)(ys:List Int):lexLt [] (y::ys)=true:=rfl
def jU(x:Int)(xs:List Int):lexLt (x::xs) []=false:=rfl
def Bf(A:Around)(s:Shared)(a:Int)(t:Tok)(c:Int)(u:Tok):∃e,SeqAt.EqAt A s (.int a t) (.int c u) e/\(e=true↔a=c):=
 ⟨(a== c),SeqAt.EqAt.int_int a t c u,by simp⟩
def Bg(A:Around)(s:Shared)(a:Int)(t:Tok)(c:Int)(u:Tok)(prog:Program)(w:World)(E:Value->Shared->Prop)(Q:Value->Shared->Prop)(h:Q (.bool (decide (a<c))) s) :
 wpAny (model prog w) A (richCompare .Lt (.int a t) (.int c u)) Q E s:=
 (PyProof.Rows.lt_int h:wpAny (model prog w) A (compareOp .Lt (.int a t) (.int c u)) Q E s)
section
open PySem.SeqAt
open PySem.AutoSeq1 (wpAny_loadPart')
open PySem.MeetsSeq PySem.MeetsSeq2 PySem.MeetsSeq3
def mZ(l b:Addr)(items items2:Array Value)(n n2:Nat)(dd dd2:Option Addr)(sl sl2:Array (Option Value))(ns ms:List Int)(hi:IntsAre items.toList ns)(hj:IntsAre items2.toList ms) :
 Meets (Builtin.«tuple.__lt__» ⟨[.ref l,.ref b],[]⟩)
  (fun _ R s=>s.heap.get? l=some {cls:=.type "tuple",dict:=dd,data:=.seq items n,slots:=sl}∧s.heap.get? b=some {cls:=.type "tuple",dict:=dd2,data:=.seq items2 n2,slots:=sl2}∧
    R (.ok (.ret (.bool (lexLt ns ms)))) s):=
 .of_wp fun prog w A R s h=>by
   obtain⟨hp,g,d,tk,os⟩:=s;obtain⟨hl,hb,h⟩:=h
   have f2:=AutoSeq1.sub_tuple_tuple
   have z1:items.size=ns.length:=by rw[<-hi.length];simp
   have z2:items2.size=ms.length:=by rw[<-hj.length];simp
   wp_walk using wpAny_loadPart' hl,wpAny_loadPart' hb,wpAny_forIn_list _ (λrest b s'=>b.1=none/\s'=⟨hp,g,d,tk,os⟩/\∃(vs ws:List Value) (ns' TY:List Int),rest=vs.zip ws/\
    IntsAre vs ns'/\IntsAre ws TY/\ns'.length+items2.size=TY.length+items.size/\R (.ok (.ret (.bool (lexLt ns' TY)))) ⟨hp,g,d,tk,os⟩) _
   case turn=>
    rintro ⟨y,x⟩ rest b s' ⟨hb',rfl,vs,ws,ns',TY,hz,hvi,hwi,hlen,hR⟩
    cases hvi with
    |nil=>rw[List.zip_nil_left] at hz;cases hz
    |cons a t ZaW=>
     cases hwi with
     |nil=>rw[List.zip_nil_right] at hz;cases hz
     |cons c u ZaX=>
      rw[List.zip_cons_cons] at hz
      injection hz with hyx hrest
      injection hyx with hy hx
      subst hy hx
      rw[uR] at hR
      simp only[List.length_cons] at hlen
      obtain⟨e,he,hiff⟩:=Bf A.in1 ⟨hp,g,d,tk,os⟩ a t c u
      refine wpAny_bind (he prog w _ _ ?_)
      cases e with
      |true=>
       rw[if_pos (hiff.mp rfl)] at hR
       wp_walk
       exact⟨rfl,rfl,_,_,_,_,hrest,ZaW,ZaX,by omega,hR⟩
      |false=>
       rw[if_neg (λq=>absurd (hiff.mpr q) Bool.false_ne_true)] at hR
       have hri:=Bg A.in1 ⟨hp,g,d,tk,os⟩ a t c u prog w
       wp_walk using hri
       exact⟨_,rfl,by simpa using hR⟩
   case fin=>
    rintro ⟨b1,b2⟩ s' ⟨hb',rfl,vs,ws,ns',TY,hz,hvi,hwi,hlen,hR⟩
    simp only at hb'
    subst hb'
    have hv:lexLt ns' TY=decide (items.size<items2.size):=by
     cases hvi with
     |nil=>
      cases hwi with
      |nil=>
       simp only[List.length_nil] at hlen
       rw[mY]
       exact(decide_eq_false (by omega)).symm
      |cons c u hw=>
       simp only[List.length_nil,List.length_cons] at hlen
       rw[jT]
       exact(decide_eq_true (by omega)).symm
     |cons a t hv=>
      cases hwi with
      |nil=>
       simp only[List.length_nil,List.length_cons] at hlen
       rw[jU]
       exact(decide_eq_false (by omega)).symm
      |cons c u hw=>
       rw[List.zip_cons_cons] at hz
       cases hz
    rw[hv] at hR
    wp_walk
    exact⟨_,rfl,by simpa[Builtin.Tuple.tupleCompareSizes] using hR⟩
   case h=>
    exact⟨rfl,rfl,items.toList,items2.toList,ns,ms,rfl,hi,hj,by omega,h⟩
end
section
variable{prog:Program}{w:World}{A:Around}{E:Value->Shared->Prop}{s:Shared}
def uT{l b:Addr}{items items2:Array Value}{ns ms:List Int}{Q:Value->Shared->Prop}(hl:IsTup s.heap l items)(hb:IsTup s.heap b items2)(hi:IntsAre items.toList ns)(hj:IntsAre items2.toList ms)
 (hu:A.units<cLine)(h:Q (.bool (lexLt ns ms)) s):wpAny (model prog w) A (compareOp .Lt (.ref l) (.ref b)) Q E s:=by
 obtain⟨⟨cls,dd,data,sl⟩,ho,hc,n,hd⟩:=id hl
 obtain⟨⟨cls2,dd2,data2,sl2⟩,ho2,hc2,n2,hd2⟩:=id hb
 simp only at hc hd hc2 hd2
 subst hc hd hc2 hd2
 exact richCompare_meets_room (op:=.Lt) ⟨_,ho,rfl⟩ ⟨_,ho2,rfl⟩ PySem.F.slot_tuple_lt PySem.F.entry_tuple_lt (PySem.F.args_tuple_lt_2 _ _) (mZ l b items items2 n n2 dd dd2 sl sl2 ns ms hi hj)
  ⟨ho,ho2,show Value.bool (lexLt ns ms)≠Value.notImplemented/\Q (.bool (lexLt ns ms)) s from⟨(λx=>nomatch x),h⟩⟩ hu
def œ(n d:Nat):Option Int->Nat
 |none=>d
 |some v=>if v<0 then(v+(n:Int)).toNat else min v.toNat n
def uU(n d:Nat)(hd:d<=n)(o:Option Int):œ n d o<=n:=by
 cases o with
 |none=>exact hd
 |some v=>
  show(if v<0 then(v+(n:Int)).toNat else min v.toNat n)<=n
  by_cases hv:v<0
  ·rw[if_pos hv];omega
  ·rw[if_neg hv];exact Nat.min_le_right _ _
def wH(v:Int)(n d:Nat):(if v<0 then max (v+(n:Int)) 0 else min v (n:Int))=((œ n d (some v):Nat):Int):=by
 show(if v<0 then max (v+(n:Int)) 0 else min v (n:Int))=(((if v<0 then(v+(n:Int)).toNat else min v.toNat n):Nat):Int)
 by_cases hv:v<0
 ·simp only[if_pos hv];omega
 ·simp only[if_neg hv];omega
def uV(lo hi:Option Int)(n:Nat):Builtin.Slice.sliceAdjust lo hi 1 (n:Int)=(((œ n 0 lo:Nat):Int),((œ n n hi:Nat):Int)):=by
 have h1:¬((1:Int)<0):=by omega
 unfold Builtin.Slice.sliceAdjust
 simp only[h1,if_false]
 refine Prod.ext ?_ ?_
 ·cases lo with
  |none=>rfl
  |some v=>exact wH v n 0
 ·cases hi with
  |none=>rfl
  |some v=>exact wH v n n
def uW(i j:Nat):Builtin.Slice.slicePlaces (i:Int) (j:Int) 1=j-i:=by
 unfold Builtin.Slice.slicePlaces
 have h1:(1:Int)>0:=by omega
 simp only[h1,if_true,Int.ediv_one]
 split<;>omega
def jV{v:Value}{o:Option Int}{Q:Option Int->Shared->Prop}(p:IsPart v o)(h:Q o s):wpAny (model prog w) A (Builtin.Slice.slicePartIndex v) Q E s:=by
 cases p with
 |none=>exact slicePart_none h
 |int i t=>exact slicePart_int h
def gM{sl:Addr}{vl vu:Value}{lo hi:Option Int}{n:Nat}{Q:Int×Int×Nat->Shared->Prop}(hs:s.heap.IsSliceOf sl vl vu .none)(pl:IsPart vl lo)(pu:IsPart vu hi)
 (h:Q (((œ n 0 lo:Nat):Int),1,œ n n hi-œ n 0 lo) s):wpAny (model prog w) A (Builtin.Slice.sliceApplied (.ref sl) (pure (n:Int))) Q E s:=by
 obtain⟨os,hos,hcs,hds⟩:=id hs
 unfold Builtin.Slice.sliceApplied Builtin.Slice.sliceFields
 refine wpAny_bind (wpAny_bind (wpAny_field hos hds (x:=vl) rfl (wpAny_bind (wpAny_field hos hds (x:=vu) rfl (wpAny_bind (wpAny_field hos hds (x:=.none) rfl (wpAny_pure ?_)))))))
 refine wpAny_bind (slicePart_none ?_)
 show wpAny _ _ (if((1:Int)== 0)=true then _ else _) _ _ s
 rw[if_neg (by decide)]
 refine wpAny_bind (jV pl (wpAny_bind (jV pu (wpAny_bind (wpAny_pure ?_)))))
 show wpAny _ _ (match Builtin.Slice.sliceAdjust lo hi 1 (n:Int) with|(lo,hi)=>pure (lo,(1:Int),Builtin.Slice.slicePlaces lo hi 1)) _ _ s
 rw[uV lo hi n]
 show wpAny _ _ (pure (((œ n 0 lo:Nat):Int),(1:Int),Builtin.Slice.slicePlaces ((œ n 0 lo:Nat):Int) ((œ n n hi:Nat):Int) 1)) _ _ s
 rw[uW]
 exact wpAny_pure h
def Bh(xs:Array Value)(i k:Nat):((List.range k).filterMap λ(m:Nat)=>xs[((i:Int)+(m:Int)*1).toNat]?).toArray=((xs.toList.drop i).take k).toArray:=by
 have e:(λ(m:Nat)=>xs[((i:Int)+(m:Int)*1).toNat]?)=λm=>xs[i+m]?:= by
  funext m
  have:((i:Int)+(m:Int)*1).toNat=i+m:=by omega
  rw[this]
 rw[e]
 have:=pick_run xs i k
 rw[List.filterMap_map] at this
 have e2:((λx=>xs[x]?) ∘ λx=>i+x)=λm=>xs[i+m]?:= rfl
 rw[e2] at this
 rw[this]
def fG{t sl:Addr}{items:Array Value}{vl vu:Value}{lo hi:Option Int}{Q:Value->Shared->Prop}(ht:IsTup s.heap t items)(hs:s.heap.IsSliceOf sl vl vu .none)(pl:IsPart vl lo)(pu:IsPart vu hi)
 (hw:¬(œ items.size 0 lo=0/\œ items.size items.size hi=items.size))
 (h:Q (.ref s.heap.objs.size) {s with heap:=s.heap.push {cls:=.type "tuple",data:=.seq ((items.toList.drop (œ items.size 0 lo)).take (œ items.size items.size hi-œ items.size 0 lo)).toArray}})
 (hsz:items.size<=sizeLine):wpAny (model prog w) A (getItem (.ref t) (.ref sl)) Q E s:=by
 have wI:sizeOk (.seq ((items.toList.drop (œ items.size 0 lo)).take (œ items.size items.size hi-œ items.size 0 lo)).toArray):=by
  show((items.toList.drop (œ items.size 0 lo)).take (œ items.size items.size hi-œ items.size 0 lo)).toArray.size<=sizeLine
  rw[List.size_toArray,List.length_take,List.length_drop,Array.length_toList]
  omega
 have hj:œ items.size items.size hi<=items.size:=uU _ _ (Nat.le_refl _) hi
 obtain⟨os,hos,hcs,hds⟩:=id hs
 have hTs:s.TypeIs (.ref sl) "slice" := ⟨os,hos,hcs⟩
 unfold getItem
 try with_reducible refine wpAny_holding ?_
 first|refine wpAny_bind (wpAny_pure ?_)|skip
 refine wpAny_bind (wpAny_sequenceKey ht.typeIs (by decide) ?_)
 refine wpAny_bind (wpAny_callSpecial?_slot (name:=Str.ofString "__getitem__") ht.typeIs PyProof.Rows.slot_tuple_getitem
  (wpAny_call_entry PyProof.Rows.slot_tuple_getitem ht.typeIs entry_tuple_getitem ?_ (args_tuple_getitem _ _)))
 show wpAny _ _ (Builtin.Tuple.tupleItemsOf (.ref t) >>= _) _ _ s
 refine wpAny_bind (tupleItemsOf_ ht ?_)
 refine wpAny_bind (wpAny_typeOf hTs ?_)
 rw[if_pos (by decide)]
 refine wpAny_bind (gM hs pl pu ?_)
 have hno:¬((((œ items.size 0 lo:Nat):Int)== 0 && (1:Int)== 1 && (œ items.size items.size hi-œ items.size 0 lo)== items.size)=true):=by
  intro q
  rw[Bool.and_eq_true,Bool.and_eq_true] at q
  have q1:((œ items.size 0 lo:Nat):Int)=0:=eq_of_beq q.1.1
  have q2:œ items.size items.size hi-œ items.size 0 lo=items.size:=eq_of_beq q.2
  exact hw ⟨by omega,by omega⟩
 show wpAny _ _ (if(((œ items.size 0 lo:Nat):Int)== 0 && (1:Int)== 1 && (œ items.size items.size hi-œ items.size 0 lo)== items.size)=true then _ else _) _ _ s
 rw[if_neg hno,Bh]
 first
  |exact wpAny_bind (m:=Builtin.Tuple.tupleExact _) (wpAny_newObj_type (wpAny_pure ⟨_,rfl,wpAny_pure h⟩) wI)
  |exact wpAny_bind (m:=Builtin.Tuple.tupleExact _) (wpAny_newObj_type (wpAny_bind (wpAny_pure (wpAny_pure ⟨_,rfl,wpAny_pure h⟩))) wI)
  |exact wpAny_bind (wpAny_bind (m:=Builtin.Tuple.tupleExact _) (wpAny_newObj_type (wpAny_pure (wpAny_pure ⟨_,rfl,wpAny_pure h⟩)) wI))
  |exact wpAny_bind (wpAny_bind (m:=Builtin.Tuple.tupleExact _) (wpAny_newObj_type (wpAny_pure ⟨_,rfl,wpAny_pure h⟩) wI))
end
end HT
namespace L2
open PySem PySem.Spec PyProof.Rows
abbrev TO:=St->Hp->(Option Int->Hp->Prop)->Prop
def PO(X:Cx)(e:Option Expr)(t:TO):Prop:=
 ∀(pins:List (Addr×Obj)) (s:Shared) (σ:St) (H:Hp) (Q:Option Int->Hp->Prop),Inv X pins σ H s->t σ H Q->
  wpAny (model X.prog X.w) X.A (evalPart e X.env) (λu s'=>∃o H',Inv X pins σ H' s'/\IsPart u o/\Q o H') X.xe s
def GZ:TO:=λ_ H Q=>Q none H
def intsAre_of{ns:List Int}:∀{us:List Value},Vals (ns.map V.int) us->IntsAre us ns:=by
 induction ns with
 |nil=>intro us r;rw[List.map_nil] at r;cases r;exact .nil
 |cons n ns ih=>
  intro us r
  rw[List.map_cons] at r
  cases r with
  |cons r1 r2=>
   obtain⟨t,e⟩:=r1
   subst e
   exact .cons n t (ih r2)
section
variable{X:Cx}{e:Expr}{te:TE}{lo hi:Option Expr}{tl th:TO}{pos p2:Pos}
def G_:PO X none GZ:=by
 intro pins s σ H Q I h
 rw[evalPart_none]
 exact wpAny_pure ⟨none,H,I,.none,h⟩
def uX(X:Cx)(r:V->Option Int->Option Int->Hp->VK->Prop):Prop:=
 ∀(pins:List (Addr×Obj)) (s:Shared) (σ:St) (H:Hp) (x:V) (v vl vu:Value) (lo hi:Option Int) (sl:Addr) (Q:VK),Inv X pins σ H s->RelV x v->s.heap.IsSliceOf sl vl vu .none->IsPart vl lo->IsPart vu hi->r x lo hi H Q->
  ∃T id,typeLookup (.type T) "__getitem__" =pure (some (.builtin id))/\s.TypeIs v T/\wpAny (model X.prog X.w) X.A (getItem v (.ref sl)) (EP X pins σ Q) X.xe s
def uX.or{r r':V->Option Int->Option Int->Hp->VK->Prop}(h:uX X r)(h':uX X r'):uX X (λx lo hi H Q=>r x lo hi H Q\/r' x lo hi H Q):=by
 intro pins s σ H x v vl vu lo hi sl Q I rx hs pl pu q
 rcases q with q|q
 ·exact h pins s σ H x v vl vu lo hi sl Q I rx hs pl pu q
 ·exact h' pins s σ H x v vl vu lo hi sl Q I rx hs pl pu q
def tSl(r:V->Option Int->Option Int->Hp->VK->Prop)(te:TE)(tl th:TO):TE:=λσ H Q=>te σ H λx H1=>tl σ H1 λl H2=>th σ H2 λu H3=>r x l u H3 Q
def rm{r:V->Option Int->Option Int->Hp->VK->Prop}(hr:uX X r)(he:PE X e te)(hl:PO X lo tl)(hu:PO X hi th):PE X (.Subscript e (.Slice lo hi none p2) pos) (tSl r te tl th):=by
 intro pins s σ H Q I h
 refine Subscript_ (Ń (he pins s σ H _ I h) λv s1 ⟨x,H1,I1,r1,q1⟩=>?_)
 refine wpAny_Slice (Ń (hl pins s1 σ H1 _ I1 q1) λvl s2 ⟨l,H2,I2,pl,q2⟩=>Ń (hu pins s2 σ H2 _ I2 q2) λvu s3 ⟨u,H3,I3,pu,q3⟩=>?_)
 rw[evalPart_none]
 refine wpAny_pure ?_
 have I4:Inv X pins σ H3 {s3 with heap:=s3.heap.push {cls:=.type "slice",data:=.fields #[vl,vu,.none]}}:=I3.kept (t':=s3.toks) λb ob q=>Heap.get?_push_of_some _ q
 obtain⟨T,id,hT,ht,hg⟩:=hr pins {s3 with heap:=s3.heap.push {cls:=.type "slice",data:=.fields #[vl,vu,.none]}} σ H3 x v vl vu l u s3.heap.objs.size Q I4 r1 (Heap.IsSliceOf.new ..) pl pu q3
 show wpAny (model X.prog X.w) X.A (subscriptTail e (.Slice lo hi none p2) v (.ref s3.heap.objs.size)) (EP X pins σ Q) X.xe {s3 with heap:=s3.heap.push {cls:=.type "slice",data:=.fields #[vl,vu,.none]}}
 exact tail_any (ops:=[.ref s3.heap.objs.size,v]) ht hT hg (by with_unfolding_all rfl)
def eN(xs:List V)(lo hi:Option Int):List V:=(xs.drop (HT.œ xs.length 0 lo)).take (HT.œ xs.length xs.length hi-HT.œ xs.length 0 lo)
def iK(xs:List V)(lo hi:Option Int):(eN xs lo hi).length<=xs.length:=by
 unfold eN
 rw[List.length_take,List.length_drop]
 omega
def ZaY(K:PySem.W.Frag):V->Option Int->Option Int->Hp->VK->Prop:=λx lo hi H Q=>∃a xs,x=.ref a/\bU K H a xs/\
 ¬(HT.œ xs.length 0 lo=0/\HT.œ xs.length xs.length hi=xs.length)/\∀p,H p=none->Q (.ref p) (upd H p (.tup (eN xs lo hi)))
def PL:uX X (ZaY X.K):=by
 intro pins s σ H x v vl vu lo hi sl Q I rx hs pl pu h
 obtain⟨a,xs,rfl,hx,hw,q⟩:=h
 cases rx
 obtain⟨its,r,ht,hz⟩:=I.tuple hx
 have hlen:its.toArray.size=xs.length:=by rw[List.size_toArray];exact r.length.symm
 refine⟨"tuple",_,PyProof.Rows.slot_tuple_getitem.lookup,ht.typeIs,?_⟩
 refine HT.fG ht hs pl pu (by rw[hlen];exact hw) ?_ (by rw[hlen];exact hz)
 rw[hlen]
 refine⟨.ref s.heap.objs.size,_,I.laid (t':=s.toks) (o:=.tup (eN xs lo hi)) (λb ob q=>Heap.get?_push_of_some _ q) (Nat.le_refl _) ?_,rfl,q _ (I.hok.fresh (Nat.le_refl _))⟩
 exact⟨Nat.le_trans (iK xs lo hi) hz,_,(r.drop (HT.œ xs.length 0 lo)).take (HT.œ xs.length xs.length hi-HT.œ xs.length 0 lo),IsTup.new _ _⟩
def PN(K:PySem.W.Frag):R2:=λx y H Q=>∃a b ns ms,x=.ref a/\y=.ref b/\bU K H a (ns.map V.int)/\bU K H b (ms.map V.int)/\Q (.bl (HT.lexLt ns ms)) H
def P_(hu:X.A.units<cLine):ş X (compareOp .Lt) (PN X.K):=by
 intro pins s σ H x y v u Q I rx ry h
 obtain⟨a,b,ns,ms,rfl,rfl,ha,hb,q⟩:=h
 cases rx
 cases ry
 obtain⟨its,r1,p1,_⟩:=I.tuple ha
 obtain⟨its2,r2,p2,_⟩:=I.tuple hb
 have i1:IntsAre its.toArray.toList ns:=intsAre_of r1
 have i2:IntsAre its2.toArray.toList ms:=intsAre_of r2
 exact HT.uT p1 p2 i1 i2 hu ⟨.bl (HT.lexLt ns ms),H,I,rfl,q⟩
end
end L2
namespace L2
open PySem PySem.Spec PyProof.Rows
def T_(n:Nat)(i:Int):Option Nat:=if 0<=i then(if i<n then some i.toNat else none) else if -(n:Int)<=i then some (i+n).toNat else none
def pG{α:Type}(xs:List α)(i:Int):Option α:= (T_ xs.length i).bind λj=>xs[j]?
def Hf{n:Nat}{i:Int}{j:Nat}(h:T_ n i=some j):seqIndex? i n=some j/\j<n/\ -(n:Int)<=i/\i<n:=by
 unfold T_ at h
 by_cases h0:0<=i
 ·rw[if_pos h0] at h
  by_cases h1:i<n
  ·rw[if_pos h1] at h
   have e:i.toNat=j:=Option.some.inj h
   exact⟨by rw[seqIndex_of h0 h1,e],by omega,by omega,h1⟩
  ·rw[if_neg h1] at h;cases h
 ·rw[if_neg h0] at h
  by_cases h1: -(n:Int)<=i
  ·rw[if_pos h1] at h
   have e:(i+n).toNat=j:=Option.some.inj h
   exact⟨by rw[seqIndex_neg (by omega) h1,e],by omega,h1,by omega⟩
  ·rw[if_neg h1] at h;cases h
def pH{α:Type}{xs:List α}{i:Int}{v:α}(h:pG xs i=some v):∃j,seqIndex? i xs.length=some j/\xs[j]?=some v/\j<xs.length/\ -(xs.length:Int)<=i/\i<xs.length:=by
 unfold pG at h
 cases e:T_ xs.length i with
 |none=>rw[e] at h;cases h
 |some j=>
  rw[e] at h
  obtain⟨h1,h2,h3,h4⟩:=Hf e
  exact⟨j,h1,h,h2,h3,h4⟩
def jA(b:Expr):Prop:=∀o i,subscripted b false o i=operate [o,i] (getItem o i)
def uY(X:Cx)(r:R2):Prop:=
 ∀(value slice:Expr) (pins:List (Addr×Obj)) (s:Shared) (σ:St) (H:Hp) (x y:V) (v u:Value) (Q:VK),Inv X pins σ H s->RelV x v->RelV y u->r x y H Q->
  subscripted slice false v u=operate [v,u] (getItem v u)->wpAny (model X.prog X.w) X.A (subscriptTail value slice v u) (EP X pins σ Q) X.xe s
def MtR(X:Cx)(id:String)(r:V->List V->Hp->VK->Prop):Prop:=
 ∀(pins:List (Addr×Obj)) (s:Shared) (σ:St) (H:Hp) (x:V) (xs:List V) (v:Value) (us:List Value) (Q:VK),Inv X pins σ H s->RelV x v->Vals xs us->r x xs H Q->
  wpAny (model X.prog X.w) X.A (call (.builtin id) (v::us)) (EP X pins σ Q) X.xe s
section
variable{X:Cx}{a b:Expr}{ta tb:TE}{pos:Pos}
def uY.or{r r':R2}(h:uY X r)(h':uY X r'):uY X (λx y H Q=>r x y H Q\/r' x y H Q):=by
 intro value slice pins s σ H x y v u Q I rx ry q hs
 rcases q with q|q
 ·exact h value slice pins s σ H x y v u Q I rx ry q hs
 ·exact h' value slice pins s σ H x y v u Q I rx ry q hs
def Vm{r:R2}(hr:uY X r)(ha:PE X a ta)(hb:PE X b tb)(hs:jA b):PE X (.Subscript a b pos) (TX r ta tb):=by
 intro pins s σ H Q I h
 exact Subscript_ (O_ ha hb I h λv u s2 x y H2 I2 rx ry q=>hr a b pins s2 σ H2 x y v u Q I2 rx ry q (hs _ _))
def Vn(K:PySem.W.Frag):R2:=λx y H Q=>∃p xs i v,x=.ref p/\y=.int i/\Ţ K H p xs/\pG xs i=some v/\Q v H
def Vo(K:PySem.W.Frag):R2:=λx y H Q=>∃p xs i v,x=.ref p/\y=.int i/\bU K H p xs/\pG xs i=some v/\Q v H
def Vp:R2:=λx y H Q=>∃z i c,x=.str z/\y=.int i/\z.length<=sizeLine/\pG z.cps.toList i=some c/\Q (.str ⟨#[c]⟩) H
def Hg:uY X (Vn X.K):=by
 intro value slice pins s σ H x y v u Q I rx ry h hs
 obtain⟨p,xs,i,z,rfl,rfl,hq,he,q⟩:=h
 cases rx
 obtain⟨t,rfl⟩:=ry
 obtain⟨its,r,pl,hz⟩:=I.list hq
 obtain⟨j,h1,h2,h3,h4,h5⟩:=pH he
 obtain⟨w,ew,Vq⟩:=r.get h2
 have hl:=r.length
 have hn:=jQ
 have fin:EP X pins σ Q w s:=⟨z,H,I,Vq,q⟩
 by_cases h0:0<=i
 ·have hj:i.toNat=j:=by
   rw[seqIndex_of h0 h5] at h1
   exact Option.some.inj h1
  exact item_listR pl.isList h0 (by omega) (by rw[hj];simpa using ew) fin hs
 ·have hj:(i+(its.toArray.size:Int)).toNat=j:=by
   rw[seqIndex_neg (by omega) h4] at h1
   rw[List.size_toArray,<-hl]
   exact Option.some.inj h1
  exact subscriptTail_builtinR (x:=w) pl.isList.typeIs slot_list_getitem.lookup
   (wpAny_getItem_list_neg (Q:=λr s'=>r=w/\EP X pins σ Q r s') pl.isList (by omega) (by rw[List.size_toArray]<;>omega) (by omega) (by rw[hj];simpa using ew) ⟨rfl,fin⟩) hs
def Qa:uY X (Vo X.K):=by
 intro value slice pins s σ H x y v u Q I rx ry h hs
 obtain⟨p,xs,i,z,rfl,rfl,hq,he,q⟩:=h
 cases rx
 obtain⟨t,rfl⟩:=ry
 obtain⟨its,r,pl,hz⟩:=I.tuple hq
 obtain⟨j,h1,h2,h3,h4,h5⟩:=pH he
 obtain⟨w,ew,Vq⟩:=r.get h2
 have hl:=r.length
 have hn:=jQ
 have fin:EP X pins σ Q w s:=⟨z,H,I,Vq,q⟩
 exact subscriptTail_builtinR (x:=w) pl.typeIs slot_tuple_getitem.lookup
  (getItem_tuple (j:=j) (Q:=λr s'=>r=w/\EP X pins σ Q r s') pl (by omega) (by omega) (by rw[List.size_toArray,<-hl];exact h1) (by simpa using ew) ⟨rfl,fin⟩) hs
def Qc:uY X Vp:=by
 intro value slice pins s σ H x y v u Q I rx ry h hs
 obtain⟨z,i,c,rfl,rfl,hz,he,q⟩:=h
 obtain⟨t,rfl⟩:=rx
 obtain⟨t',rfl⟩:=ry
 obtain⟨j,h1,h2,h3,h4,h5⟩:=pH he
 have hl:z.cps.toList.length=z.length:=by simp[Str.length]
 rw[hl] at h1 h4 h5
 have hn:=jQ
 exact tail_any (typeIs_str s z t) slot_str_getitem.lookup (getItem_str (c:=c) (by
  have e1:decide (i < -(2 ^ 63:Int))=false:=decide_eq_false (by omega)
  have e2:decide (i >= 2 ^ 63)=false:=decide_eq_false (by omega)
  rw[e1,e2,Bool.or_false]) (by rw[h1];simpa using h2) ⟨.str ⟨#[c]⟩,H,I.tok _,⟨_,rfl⟩,q⟩) hs
def rIx(K:PySem.W.Frag):R2:=λx y H Q=>Vn K x y H Q\/Vo K x y H Q\/Vp x y H Q
def Qd:uY X (rIx X.K):=Hg.or (Qa.or Qc)
def pI(lo hi:Option Int)(n:Nat):(sliceBounds lo hi none n).1=((HT.œ n 0 lo:Nat):Int)/\(sliceBounds lo hi none n).2.1=((HT.œ n n hi:Nat):Int)/\(sliceBounds lo hi none n).2.2=1:=by
 refine⟨?_,?_,rfl⟩
 ·cases lo with
  |none=>simp[sliceBounds,HT.œ]
  |some i=>
   simp only[sliceBounds,HT.œ,Option.getD_none,show(1:Int)>0 by decide,if_true]
   by_cases h:i<0
   ·simp only[h,if_true]<;>omega
   ·simp only[h,if_false]<;>omega
 ·cases hi with
  |none=>simp[sliceBounds,HT.œ]
  |some i=>
   simp only[sliceBounds,HT.œ,Option.getD_none,show(1:Int)>0 by decide,if_true]
   by_cases h:i<0
   ·simp only[h,if_true]<;>omega
   ·simp only[h,if_false]<;>omega
def m_(its:List Value)(lo hi:Option Int):slicePick its.toArray lo hi none=((its.drop (HT.œ its.length 0 lo)).take (HT.œ its.length its.length hi-HT.œ its.length 0 lo)).toArray:=by
 obtain⟨h1,h2,h3⟩:=pI lo hi its.toArray.size
 unfold slicePick
 rw[h1,h2,h3]
 simp only[sliceRange_one,pick_run,List.size_toArray]<;>rfl
def ZaZ(K:PySem.W.Frag):V->Option Int->Option Int->Hp->VK->Prop:=λx lo hi H Q=>∃a xs,x=.ref a/\Ţ K H a xs/\∀p,H p=none->Q (.ref p) (upd H p (.lst (eN xs lo hi)))
def Hh:uX X (ZaZ X.K):=by
 intro pins s σ H x v vl vu lo hi sl Q I rx hs pl pu h
 obtain⟨a,xs,rfl,hx,q⟩:=h
 cases rx
 obtain⟨its,r,ht,hz⟩:=I.list hx
 have hlen:=r.length
 refine⟨"list",_,slot_list_getitem.lookup,ht.isList.typeIs,?_⟩
 refine wpAny_getItem_list_slice ht.isList hs pl pu .none (by simp) ?_ (by rw[List.size_toArray]<;>omega)
 rw[m_,<-hlen]
 refine⟨.ref s.heap.objs.size,_,I.laid (t':=s.toks) (o:=.lst (eN xs lo hi)) (λb ob q=>Heap.get?_push_of_some _ q) (Nat.le_refl _) ?_,rfl,q _ (I.hok.fresh (Nat.le_refl _))⟩
 exact⟨Nat.le_trans (iK xs lo hi) hz,_,0,(r.drop (HT.œ xs.length 0 lo)).take (HT.œ xs.length xs.length hi-HT.œ xs.length 0 lo),Heap.get?_push_size _ rfl⟩
def pJ:Ŝ X (.type "list") (λxs H Q=>∃p ys,xs=[.ref p]/\(Ţ X.K H p ys\/bU X.K H p ys)/\∀l,H l=none->Q (.ref l) (upd H l (.lst ys))):=by
 intro pins s σ H xs us Q I r h
 obtain⟨p,ys,rfl,hq,q⟩:=h
 obtain⟨u,rfl,rx⟩:=vals1 r
 cases rx
 have fin:∀(its:List Value),Vals ys its->ys.length<=sizeLine->∀(h':Heap) (c':Nat),(∀b o',s.heap.get? b=some o'->h'.get? b=some o')->
  h'.get? s.heap.objs.size=some {cls:=.type "list",dict:=none,data:=.seq its.toArray c',slots:=#[]}->EP X pins σ Q (.ref s.heap.objs.size) {s with heap:=h'}:=λits r' hz h' c' kp e=>
  ⟨.ref s.heap.objs.size,_,I.laid (t':=s.toks) kp (Nat.le_refl _) (show ń X.prog X.w _ h' _ (.lst ys) from⟨hz,its,c',r',e⟩),rfl,q _ (I.hok.fresh (Nat.le_refl _))⟩
 rcases hq with hq|hq
 ·obtain⟨its,r',pl,hz⟩:=I.list hq
  have hlen:=r'.length
  obtain⟨o,ho,hc,n,hd⟩:=pl.isList
  exact call_list_seq p (.inl rfl) ho hc hd (λh' c' kp e=>fin its r' hz h' c' kp e) (by simp only[List.size_toArray]<;>omega)
 ·obtain⟨its,r',pl,hz⟩:=I.tuple hq
  have hlen:=r'.length
  obtain⟨o,ho,hc,n,hd⟩:=pl
  exact call_list_seq p (.inr rfl) ho hc hd (λh' c' kp e=>fin its r' hz h' c' kp e) (by simp only[List.size_toArray]<;>omega)
def tyV(K:PySem.W.Frag)(T:String)(x:V)(H:Hp):Prop:=match x with
 | .str _=>T= "str"
 | .int _=>T= "int"
 | .ref p=>(T= "list" ∧∃xs,Ţ K H p xs)∨(T= "tuple" ∧∃o,K.lookup p=some o∧o.cls=.type "tuple" ∧o.dict=none)∨
     (T= "dict" /\((∃kvs,H p=some (.dK kvs))\/∃kvs,H p=some (.dT kvs)))\/(T= "set" /\∃S n,H p=some (.set S n))
 |_=>False
def Qe{pins:List (Addr×Obj)}{σ:St}{H:Hp}{s:Shared}{T:String}{x:V}{v:Value}(I:Inv X pins σ H s)(r:RelV x v)(ty:tyV X.K T x H) :
 s.TypeIs v T/\∀a,v=.ref a->∃ob,s.heap.get? a=some ob/\ob.dict=none:=by
 cases x with
 |str z=>
  obtain⟨t,rfl⟩:=r
  cases(show T= "str" from ty)
  exact⟨typeIs_str s z t,λ_ e=>nomatch e⟩
 |int i=>
  obtain⟨t,rfl⟩:=r
  cases(show T= "int" from ty)
  exact⟨typeIs_int s i t,λ_ e=>nomatch e⟩
 |ref p=>
  cases r
  rcases ty with⟨rfl,xs,hq⟩|⟨rfl,o,hk,hc,hd⟩|⟨rfl,hk⟩|⟨rfl,S,n,hk⟩
  ·obtain⟨its,_,pl,_⟩:=I.list hq
   refine⟨pl.isList.typeIs,λa e=>?_⟩
   cases e
   obtain⟨o,n,e,c,hd,_⟩:=pl
   exact⟨o,e,hd⟩
  ·refine⟨⟨o,I.Aq p o hk,hc⟩,λa e=>?_⟩
   cases e
   exact⟨o,I.Aq _ o hk,hd⟩
  ·have z:∃o,s.heap.get? p=some o∧o.ExactDict:=by
    rcases hk with⟨kvs,hk⟩|⟨kvs,hk⟩
    ·obtain⟨_,_,_,_,o,_,_,e,ex,_⟩:=I.hok p _ hk
     exact⟨o,e,ex⟩
    ·obtain⟨_,_,_,_,o,_,_,e,ex,_⟩:=I.hok p _ hk
     exact⟨o,e,ex⟩
   obtain⟨o,e,ex⟩:=z
   refine⟨⟨o,e,ex.1⟩,λa e2=>?_⟩
   cases e2
   exact⟨o,e,ex.2.1⟩
  ·obtain⟨o,_,_,_,e,ex,_⟩:=I.hok p _ hk
   refine⟨⟨o,e,ex.1⟩,λa e2=>?_⟩
   cases e2
   exact⟨o,e,ex.2.1⟩
 |_=>exact False.elim ty
def tBM(K:PySem.W.Frag)(T:String)(r:V->List V->Hp->VK->Prop)(to:TE)(t:TA):TE:=λσ H Q=>to σ H λx H1=>tyV K T x H1/\t σ H1 λxs H2=>r x xs H2 Q
variable{o e:Expr}{es:List Expr}{to:TE}{t:TA}{name:Str}{apos cpos:Pos}{T id:String}{r:V->List V->Hp->VK->Prop}
def nU(pa:PlainAttrs T)(slot:Slot T name id)(hty:typeOf (.builtin id)=pure (.type "method_descriptor"))(hm:MtR X id r)(ho:PE X o to)(ha:PA X (e::es) t)
 (hbase:attributeBase o name X.env (eval o X.env)=eval o X.env:=by rfl)
 (hfew:((backTo cpos (starEach (e::es) X.env)).all (fun x=>!x.1) && (backToKw cpos (keywordEach [] X.env)).all (fun x=>x.1.isSome)
   && decide ((e::es).length+([]:List Keyword).length+(if([]:List Keyword).isEmpty then 0 else 1)<30))=true:=by rfl)
 (hline:(apos.endLine== cpos.line)=true:=by rfl)(hs:starEach (e::es) X.env=(false,eval e X.env)::starEach es X.env:=by rfl)(hplain:(backTo cpos (starEach es X.env)).any (·.1)=false:=by rfl) :
 PE X (.Call (.Attribute o name apos) (e::es) [] cpos) (tBM X.K T r to t):=by
 intro pins s σ H Q I h
 refine wpAny_Call_method_late hbase hfew hline rfl (Ń (ho pins s σ H _ I h) λv s1 ⟨x,H1,I1,r1,ty,q1⟩=>?_)
 obtain⟨h1,h2⟩:=Qe I1 r1 ty
 refine⟨T,id,pa,slot,hty,h1,h2,?_⟩
 have hA:=ha cpos pins s1 σ H1 _ I1 q1
 rw[hs] at hA ⊢
 refine Calls.callWith_builtin (by show(false || (backTo cpos (starEach es X.env)).any (·.1))=false;rw[hplain]<;>rfl) (Calls.evalArgs_plain ?_)
 exact Ń hA λus s2 ⟨vs,H2,I2,r2,q2⟩=>hm pins s2 σ H2 x vs v us Q I2 r1 r2 q2
end
end L2
namespace L2
open PySem PySem.Spec PyProof.Rows
def MtM(X:Cx)(id:String)(r:V->List V->Hp->VK->Prop):Prop:=
 ∀(pins:List (Addr×Obj)) (s:Shared) (σ:St) (H:Hp) (x:V) (xs:List V) (v:Value) (us:List Value) (Q:VK),Inv X pins σ H s->RelV x v->Vals xs us->r x xs H Q->
  wpAny (model X.prog X.w) X.A (call (.builtin id) (v::us)) (EP X pins σ Q) X.xe s
theorem Vals.one:∀{x:V} {us:List Value},Vals [x] us->∃u,us=[u]/\RelV x u
 |_,_,.cons r .nil=>⟨_,rfl,r⟩
section
variable{X:Cx}{pins:List (Addr×Obj)}{σ:St}{H:Hp}{s:Shared}{l b:Addr}{xs ys zs:List V}
def Inv.Za0{its its':List Value}{n:Nat}{f:Array Value->Array Value}{t':Nat}(I:Inv X pins σ H s)(hH:H l=some (.lst xs))
 (e:s.heap.get? l=some {cls:=.type "list",data:=.seq its.toArray n})(hf:f its.toArray=its'.toArray)(hv:Vals ys its')(hz:ys.length<=sizeLine) :
 Inv X pins σ (upd H l (.lst ys)) {s with heap:=s.heap.update l (Obj.mapSeq f),toks:=t'}:=by
 have q:=PySem.IsL.update e f
 rw[hf] at q
 refine I.write (x:=l) (e:=l) (by rw[hH];exact trivial) (.inl rfl) (λb' u hb hu=>(Heap.get?_update_other s.heap (Obj.mapSeq f) (Ne.symm hb)).trans hu) ⟨_,q⟩ ?_
 exact⟨hz,its',_,hv,q⟩
def Inv.Za1{its:List Value}{t':Nat}(I:Inv X pins σ H s)(hv:Vals ys its)(hz:ys.length<=sizeLine) :
 Inv X pins σ (upd H s.heap.objs.size (.lst ys)) {s with heap:=s.heap.push {cls:=.type "list",data:=.seq its.toArray},toks:=t'}:=
 I.laid (λ_ _ q=>Heap.get?_push_of_some _ q) (Nat.le_refl _) ⟨hz,its,0,hv,Heap.get?_push_size _ rfl⟩
theorem Inv.fresh(I:Inv X pins σ H s):H s.heap.objs.size=none:=I.hok.fresh (Nat.le_refl _)
def Inv.Za2(I:Inv X pins σ H s)(hH:H l=some (.lst xs)):xs.length<=sizeLine/\∃(its:List Value) (n:Nat),Vals xs its/\xs.length=its.length/\s.heap.get? l=some {cls:=.type "list",data:=.seq its.toArray n}:=by
 obtain⟨z,its,n,r,e⟩:=I.hok l _ hH
 exact⟨z,its,n,r,r.length,e⟩
end
section
variable{X:Cx}
def wJ:V->List V->Hp->VK->Prop:=λx vs H Q=>∃l xs y,x=.ref l/\vs=[y]/\H l=some (.lst xs)/\xs.length<sizeLine/\Q .non (upd H l (.lst (xs ++ [y])))
def ř:MtM X "list.append" wJ:=by
 intro pins s σ H x vs v us Q I rx rv h
 obtain⟨l,xs,y,rfl,rfl,hH,hz,q⟩:=h
 cases rx
 obtain⟨u,rfl,ru⟩:=rv.one
 obtain⟨z,its,n,r,hl,e⟩:=I.Za2 hH
 refine call_meets F.slot_list_append ⟨_,e,rfl⟩ F.entry_list_append (F.args_list_append_2 _ _) (PySem.list_append l its.toArray n u (by rw[List.size_toArray];omega)) ⟨e,?_⟩
 refine⟨.non,_,I.Za0 (its':=its ++ [u]) hH e (by simp) (r.append (.cons ru .nil)) ?_,rfl,q⟩
 rw[List.length_append,List.length_singleton]
 omega
end
section
variable{prog:Program}{w:World}{A:Around}{E:Value->Shared->Prop}{s:Shared}
end
section
variable{X:Cx}
end
end L2
namespace YL
open PySem PySem.W PySem.Calls PyProof.Rows
def jq{P:Params}{h:Heap}:∀(ns:List Int) (vs:List Value),WellAll P h vs (ns.map WData.int)->IntsAre vs ns:=by
 intro ns
 induction ns with
 |nil=>
  intro vs w
  rw[List.map_nil] at w
  cases w
  exact .nil
 |cons n ns ih=>
  intro vs w
  rw[List.map_cons] at w
  cases w with
  |cons a b=>
   cases a
   exact .cons _ _ (ih _ b)
def zp{l:OpenLaw}{n:Nat}(hn:l.most=some n){P:Params}{h:Heap}{args:List WData}{vals:List Value}
 (hpre:l.row.toRowW.claim.pre args=true)(hwl:WellAll P h vals args) :
 ∃a vs ns,vals=[Value.ref a]/\args=[WData.list (ns.map WData.int)]/\h.get? a=some {cls:=.type "list",data:=.seq vs.toArray}/\IntsAre vs ns/\ns.length<=n:=by
 have hsh:WShape.hasAll [] args [.list .int]=true:=(pre_splitW hpre).1
 have hc:l.pre.holds [] {args:=args}=true:=(pre_splitW hpre).2
 obtain⟨d,r,rfl,h1,h2⟩:=hasAllW_cons hsh
 obtain rfl:=hasAllW_nil h2
 obtain⟨xs,rfl,h3⟩:=hasW_list h1
 obtain⟨ns,rfl⟩:=items_int h3
 have hlen:ns.length<=n:=by
  unfold OpenLaw.pre at hc
  have h4:(WTm.not (.lt (.lit (.int (n:Int))) (.len (.arg 0)))).holds [] {args:=[.list (ns.map .int)]}=true:=by
   have h4:=(holds_andW hc).1
   rw[hn] at h4
   exact h4
  have h5:=condW_of h4 (w_not (w_lt w_lit (w_len_list (w_arg rfl))))
  rw[List.length_map] at h5
  refine Nat.le_of_not_lt λq=>?_
  have q':(n:Int)<((ns.length:Nat):Int):=by omega
  first
   |(rw[decide_eq_true q'] at h5;exact absurd h5 (by decide))
   |(simp at h5;omega)
 cases hwl with
 |cons w1 w2=>
  cases w2
  cases w1 with
  |list ho hall=>exact⟨_,_,ns,rfl,rfl,ho,jq ns _ hall,hlen⟩
def zq(l:OpenLaw)(args:List WData):l.row.toRowW.claim.post args (.bool true) args=true:=
 postW_of (r:=l.row.toRowW) (X:=(true== true))
  (show WShape.has [] (.bool true) .bool=true by first|rfl|decide|simp[WShape.has,WShape.arms,WShape.armsAll])
  (show(WTm.eq .res (.lit (.bool true))).value [] {args:=args,res:=some (.bool true),after:=args}=some (.bool (true== true)) from w_eq_bool (w_res rfl) w_lit) rfl
def rC{l:OpenLaw}{n:Nat}{q:Program}{loose:List Str}{XP:(Str->Option Value)->Heap->Prop}{YP:World->Heap->Prop}{d:DefRec}
 (hn:l.most=some n)(hdf:d.params.defaults=[])
 (call:∀(w:World) (s₀ s₁:Shared) (mg mb:Str→Option Value) (fa:Addr) (o:Obj) (pm cd doc:Value) (a:Addr) (vs:List Value) (ns:List Int),
   Ground q loose [] XP w s₀ mg mb s₁.heap->YP w s₁.heap->
   s₁.heap.get? fa=some o->o.data=.func (docDef d.name d.params d.body d.scope pm cd doc)->s₁.heap.CodeRec cd d.name->mg d.name=some (.ref fa)->
   s₁.heap.get? a=some {cls:=.type "list",data:=.seq vs.toArray}->IntsAre vs ns->ns.length<=n->s₁.gens= #[]->
   codeAny (model l.prog w) callerA (.call (.ref fa) ⟨[.ref a],[]⟩) (λr s'=>r=.ok (.ret (.bool true))/\OldK s₁.heap s'.heap/\s'.os=s₁.os/\AllBare s'.gens) s₁) :
 WalkO q loose XP YP l.row.toRowW d [] (λf vs=>PySem.call f vs):=by
 intro w s₀ s₁ mg mb G Y fa o pm cd doc dV kV ho hd hcd hD hmg hg args vals as hpre hlay hrd hwl hlo
 obtain rfl:dV=.none:=Dflts.none hD hdf
 obtain rfl:kV=.none:=Dflts.noKw hD
 obtain⟨a,vs,ns,rfl,rfl,hobj,hints,hlen⟩:=zp hn hpre hwl
 refine enter_call (codeAny_mono (call w s₀ s₁ mg mb fa o pm cd doc a vs ns G Y ho (fd_plain hd) hcd hmg hobj hints hlen hg) λr s' hq=>?_)
 obtain⟨rfl,h2,h3,h4⟩:=hq
 exact⟨.inl ⟨.bool true,.bool true,[],rfl,λ_=>rfl,.bool true,zq l _,λ_=>⟨List.Pairwise.nil,λ_ hm=>(nomatch hm)⟩⟩,h2,h3,h4⟩
section
variable{prog:Program}{w:World}{A:Around}{E:Value->Shared->Prop}{s:Shared}{K:Frag}
end
end YL
namespace L2
open PySem PySem.Spec PyProof.Rows
theorem nW:∀{vs:List Value} {ns:List Int},IntsAre vs ns->Vals (ns.map V.int) vs
 |_,_,.nil=>.nil
 |_,_,.cons n t h=>.cons ⟨t,rfl⟩ (nW h)
def Only(H:Hp):Prop:=∀b,H b=none\/(∃o xs,H b=some (.b_ o (.lst xs)))\/∃q,H b=some (.mQ q)
def cu(K:PySem.W.Frag):List Str->Hp
 | []=>λ_=>none
 |y::r=>λb=>match PySem.W.tabIn K y with
  |some (_,P)=>if b=P then some (.mQ (pA y)) else cu K r b
  |none=>cu K r b
theorem ž{K:PySem.W.Frag}:∀{l:List Str} {b:Addr} {u:HO},cu K l b=some u->∃y c,y∈l/\PySem.W.tabIn K y=some (c,b)/\u=.mQ (pA y)
 | [],_,_,h=>by cases(show(none:Option HO)=some _ from h)
 |y::r,b,u,h=>by
  have h':(match PySem.W.tabIn K y with
   |some (_,P)=>if b=P then some (.mQ (pA y)) else cu K r b
   |none=>cu K r b)=some u:=h
  have rc:cu K r b=some u->∃z c,z∈y::r/\PySem.W.tabIn K z=some (c,b)/\u=.mQ (pA z):=λq=>
   let ⟨z,c,h1,h2,h3⟩:=ž q
   ⟨z,c,List.mem_cons_of_mem _ h1,h2,h3⟩
  cases e:PySem.W.tabIn K y with
  |none=>rw[e] at h';exact rc h'
  |some p=>
   obtain⟨c,P⟩:=p
   rw[e] at h'
   have h2:(if b=P then some (HO.mQ (pA y)) else cu K r b)=some u:=h'
   by_cases hb:b=P
   ·rw[if_pos hb] at h2
    cases h2
    exact⟨y,c,List.mem_cons_self,by rw[hb];exact e,rfl⟩
   ·rw[if_neg hb] at h2
    exact rc h2
theorem wK{K:PySem.W.Frag}{y:Str}{c P:Addr}(e:PySem.W.tabIn K y=some (c,P)):∀{l:List Str},(∀z∈l,z=y)->y∈l->cu K l P=some (.mQ (pA y))
 | [],_,h=>by cases h
 |z::r,h1,_=>by
  have hz:=h1 z List.mem_cons_self
  subst hz
  show(match PySem.W.tabIn K z with
   |some (_,Q)=>if P=Q then some (HO.mQ (pA z)) else cu K r P
   |none=>cu K r P)=_
  rw[e]
  exact if_pos rfl
def Bj{P:Program}{w:World}{K:PySem.W.Frag}{mg mb:Str->Option Value}{CX:gK}{k:Nat}{fa a:Addr}{fd:FuncData}{x:Str}{sp:Sp}{s₁:Shared}{vs:List Value}{ns:List Int}
 (KX:K.In s₁.heap)(hns:s₁.heap.Ns mainGlobals mg)(hb:s₁.heap.Ns builtinsNs mb)(hbb:∀x:Str,x≠ "__name__" ->mb x=bootBuiltins x)(hlim:s₁.heap.NoLimit)(hg:s₁.gens= #[])
 (ha:s₁.heap.get? a=some {cls:=.type "list",data:=.seq vs.toArray})(hi:IntsAre vs ns)(hl:ns.length<=sizeLine)(hr:Ś k callerA)
 (F:∀base:Heap,K.In base->base.Ns mainGlobals mg->Ĭ P w K mg base CX k fa fd [x] sp)(hbind:∀(s:Shared) (u:Value),BindsTo s fd ⟨[u],[]⟩ [(x,u)])
 (hsp:∀H:Hp,Only H->Ţ K H a (ns.map V.int)->sp [.ref a] H (λv _=>v=.bl true) λ_ _ _=>False)
 (Vr:∀H e s',CX [] H s₁ (λ_ _ _=>False) e s'->False)
 (hnt:lams≠[]->PySem.W.noTabs K=true)(hone:∀y z,y∈lams->z∈lams->y=z)(htb:∀y c Pt,y∈lams->PySem.W.tabIn K y=some (c,Pt)->PySem.W.CodeHd s₁.heap c Pt/\s₁.heap.get? Pt=some (PySem.W.tabObj #[])/\s₁.heap.BuiltinsAt mg Pt) :
 codeAny (model P w) callerA (.call (.ref fa) ⟨[.ref a],[]⟩) (λr s'=>r=.ok (.ret (.bool true))/\OldK s₁.heap s'.heap/\s'.os=s₁.os/\AllBare s'.gens) s₁:= by
 have rv:=nW hi
 have lenV:=hi.length
 -- from an abstract heap in which nothing but the script may be tracked
 have core:∀H:Hp,Only H->Ţ K H a (ns.map V.int)->cg P w H s₁.heap->(∀b,H b≠none->b=a\/∃y c,y∈lams/\PySem.W.tabIn K y=some (c,b))->(H a≠none->K.lookup a=none)->(∀y c Pt,y∈lams->PySem.W.tabIn K y=some (c,Pt)->H Pt=some (.mQ (pA y)))->
  codeAny (model P w) callerA (.call (.ref fa) ⟨[.ref a],[]⟩) (λr s'=>r=.ok (.ret (.bool true))/\OldK s₁.heap s'.heap/\s'.os=s₁.os/\AllBare s'.gens) s₁:= by
  intro H hO hS hok hA hK hT
  have jB:∀{b:Addr} {o:Obj},s₁.heap.get? b=some o->H b=none->(mX s₁.heap H).get? b=some o:=λe n=>Am e n
  have Vl:∀{b:Addr} {o:Obj} {es:Array DictEntry} {ep:Nat},s₁.heap.get? b=some o->o.data=.dict es ep->H b=none:=fun{b o es ep} e d=>by
   cases q:H b with
   |none=>rfl
   |some u=>
    rcases hA b (by rw[q];simp) with e'|⟨y,c,hy,hty⟩
    ·subst e'
     rw[ha] at e;cases e
     have d':Data.seq vs.toArray _=Data.dict es ep:=d
     cases d'
    ·have e2:=(htb y c b hy hty).2.1
     rw[e] at e2;cases e2;cases d
  have YM:∀{b:Addr} {m:Str->Option Value},s₁.heap.Ns b m->(mX s₁.heap H).Ns b m:=fun{b m} ⟨o,es,ep,e,d,r⟩=>⟨o,es,ep,jB e (Vl e d),d,r⟩
  have hKb:K.In (mX s₁.heap H):=λb o e=>jB (KX b o e) (by
   cases q:H b with
   |none=>rfl
   |some u=>
    rcases hA b (by rw[q];simp) with e'|⟨y,c,hy,hty⟩
    ·subst e'
     rw[hK (by rw[q];simp)] at e;cases e
    ·have e2:=(htb y c b hy hty).2.1
     rw[KX b o e] at e2
     cases e2
     have h2:=List.all_eq_true.mp (hnt (λz=>by rw[z] at hy;cases hy)) (b,_) (PySem.W.mem_of_lookupK e)
     exact absurd (show false=true from h2) Bool.false_ne_true)
  have hM:Mod K mg (mX s₁.heap H):=⟨hKb,YM hns,⟨mb,YM hb,hbb⟩,let ⟨mc,h1,h2⟩:=hlim;⟨mc,YM h1,h2⟩⟩
  have hTB:TabsOk K mg (mX s₁.heap H) H:=λy c Pt hy hty=>by
   obtain⟨⟨o,us,file,tf,flags,tg,inF,text,tt,e1,r1,r2⟩,_,bm,ob,b1,b2,b3,b4,b5,b6,b7⟩:=htb y c Pt hy hty
   refine⟨⟨o,us,file,tf,flags,tg,inF,text,tt,jB e1 ?_,r1,r2⟩,hT y c Pt hy hty,bm,ob,b1,b2,b3,b4,jB b5 ?_,b6,b7⟩
   rotate_left
   ·cases q:H bm with
    |none=>rfl
    |some u=>
     rcases hA bm (by rw[q];simp) with e'|⟨z,c2,hz,htz⟩
     ·rw[e',ha] at b5;cases b5;exact absurd (Value.type.inj b6) (by decide)
     ·have e2:=(htb z c2 bm hz htz).2.1
      rw[b5] at e2;cases e2;cases b6
   cases q:H c with
   |none=>rfl
   |some u=>
    rcases hA c (by rw[q];simp) with e'|⟨z,c2,hz,htz⟩
    ·rw[e',ha] at e1;cases e1;exact absurd (Value.type.inj r1) (by decide)
    ·have e2:=(htb z c2 c hz htz).2.1
     rw[e1] at e2;cases e2;cases r1
  have e0:uQ P w K mg (mX s₁.heap H) callerA [] s₁ H:=⟨rfl,hM,λb o e=>Gv e,Nat.le_of_eq (yR _ _),trivial,λb hb=>absurd (show b∈([]:List Addr) from hb) (by simp),hok,.of_eq hg,hTB⟩
  refine codeAny_mono ((F _ hKb (YM hns)).run callerA [] s₁ H ⟨[.ref a],[]⟩ [.ref a] [.ref a] _ _ hr e0 (hbind s₁ (.ref a)) (.cons rfl .nil) (hsp H hO hS)) λr s' h=>?_
  cases r with
  |error e=>exact(Vr H e s' h).elim
  |ok fl=>
   cases fl with
   |next=>exact False.elim h
   |brk=>exact False.elim h
   |cont=>exact False.elim h
   |ret u=>
    obtain⟨v,H',os,bare,un,hok',r',q⟩:=h
    have q':v=.bl true:=q
    subst q'
    obtain rfl:u=Value.bool true:=r'
    have old:∀b o,s₁.heap.get? b=some o->(∀t,H b≠some (.mQ t))->s'.heap.get? b=some o:=?_
    ·refine⟨rfl,⟨λb o e=>?_,λb o e=>?_⟩,os,bare⟩
     ·by_cases ht:∃t,H b=some (.mQ t)
      ·obtain⟨t,ht⟩:=ht
       obtain⟨ps,e1,_⟩:=hok' b _ (un.jm b t ht)
       rcases hA b (by rw[ht];simp) with e'|⟨y,c,hy,hty⟩
       ·subst e'
        obtain⟨ps2,e3,_⟩:=hok b _ ht
        rw[ha] at e3;cases e3
       ·obtain⟨⟨o2,us,file,tf,flags,tg,inF,text,tt,f1,f2,f3,f4,_⟩,e2,_⟩:=htb y c b hy hty
        rw[e] at e2;cases e2
        exact .inr (.inl ⟨⟨c,o2,us,f1,f2,f3,f4⟩,rfl,#[],ps,rfl,by rw[e1];simp⟩)
      ·exact .inl (old b o e λt z=>ht ⟨t,z⟩)
     ·by_cases ht:∃t,H b=some (.mQ t)
      ·obtain⟨t,ht⟩:=ht
       obtain⟨ps,e1,_⟩:=hok' b _ (un.jm b t ht)
       exact⟨_,e1⟩
      ·exact⟨o,old b o e λt z=>ht ⟨t,z⟩⟩
    intro b o e nt
    cases q:H b with
    |none=>exact un.keep b o e q (by intro z;exact absurd (show b∈([]:List Addr) from z) (by simp)) (by simp)
    |some u=>
     rcases hO b with z|⟨ob,xs,z⟩|⟨t,z⟩
     ·rw[q] at z;cases z
     rotate_left
     ·exact absurd z (nt t)
     ·have z2:=un.mW b ob _ z
      obtain⟨e1,_⟩:=hok b _ z
      obtain⟨e2,_⟩:=hok' b _ z2
      rw[e] at e1;cases e1
      exact e2
 cases hk:K.lookup a with
 |some o=>
  -- the script is one of the module's own objects
  have e:=KX a o hk
  rw[ha] at e
  cases e
  refine core (cu K lams) (λb=>?_) (.inr ⟨_,vs.toArray,_,hk,rfl,rfl,rfl,by rw[List.size_toArray,lenV];exact hl,by simpa using rv⟩) (λb u z=>?_) (λb z=>?_) (λz=>?_) λy c Pt hy hty=>wK hty (λz hz=>hone z y hz hy) hy
  ·cases q:cu K lams b with
   |none=>exact .inl rfl
   |some u=>obtain⟨y,c,_,_,rfl⟩:=ž q;exact .inr (.inr ⟨_,rfl⟩)
  ·obtain⟨y,c,hy,hty,rfl⟩:=ž z
   exact⟨#[],(htb y c b hy hty).2.1,trivial,λpos cv z=>by cases z⟩
  ·cases q:cu K lams b with
   |none=>exact absurd q z
   |some u=>obtain⟨y,c,hy,hty,_⟩:=ž q;exact .inr ⟨y,c,hy,hty⟩
  ·cases q:cu K lams a with
   |none=>exact absurd q z
   |some u=>
    obtain⟨y,c,hy,hty,_⟩:=ž q
    have e2:=(htb y c a hy hty).2.1
    rw[ha] at e2;cases e2
 |none=>
  refine core (λb=>if b=a then some (.b_ {cls:=.type "list",data:=.seq vs.toArray} (.lst (ns.map V.int))) else cu K lams b) (λb=>?_) (.inl (.inr ⟨{cls:=.type "list",data:=.seq vs.toArray},if_pos rfl⟩)) (λb u z=>?_) (λb z=>?_) (λ_=>hk) λy c Pt hy hty=>?_
  ·by_cases hb:b=a
   ·exact .inr (.inl ⟨_,_,if_pos hb⟩)
   ·cases q:cu K lams b with
    |none=>exact .inl ((if_neg hb).trans q)
    |some u=>obtain⟨y,c,_,_,rfl⟩:=ž q;exact .inr (.inr ⟨_,(if_neg hb).trans q⟩)
  ·by_cases hb:b=a
   ·have z':=(if_pos hb).symm.trans z
    cases z'
    subst hb
    exact⟨ha,by rw[List.length_map];exact hl,vs,_,rv,ha⟩
   ·have z':=(if_neg hb).symm.trans z
    obtain⟨y,c,hy,hty,rfl⟩:=ž z'
    exact⟨#[],(htb y c b hy hty).2.1,trivial,λpos cv z=>by cases z⟩
  ·by_cases hb:b=a
   ·exact .inl hb
   ·cases q:cu K lams b with
    |none=>exact absurd ((if_neg hb).trans q) z
    |some u=>obtain⟨y,c,hy,hty,_⟩:=ž q;exact .inr ⟨y,c,hy,hty⟩
  ·have ne:Pt≠a:=fun z=>by
    subst z
    have e2:=(htb y c _ hy hty).2.1
    rw[ha] at e2;cases e2
   exact(if_neg ne).trans (wK hty (λz hz=>hone z y hz hy) hy)
end L2
namespace L2
open PySem PySem.Spec PyProof.Rows
def Hi{p:Program}{loose:List Str}{mean:ExcName->Option Value}{mg mb:Str->Option Value}{h:Heap}{K:PySem.W.Frag}{d:DefRec}{x:Str}{c P:Addr}(T:Top p loose mean mg mb h)(X:K.In h)(hr:(recsOf p).find? (λe=>e.name== x)=some d)(ht:PySem.W.tabIn K x=some (c,P)) :
 PySem.W.CodeHd h c P/\h.get? P=some (PySem.W.tabObj #[])/\h.BuiltinsAt mg P:=by
 obtain⟨h1,h2⟩:=PySem.W.tab_of T X hr ht
 obtain⟨bm,ob,b1,b2,b3,b4,b5,b6⟩:=T.bmain
 have hbP:bm≠P:=λq=>by rw[q,h2] at b3;cases b3;cases b4
 have hbG:bm≠mainGlobals:=λq=>by
  obtain⟨o,es,ep,e,hd,_⟩:=T.g
  rw[q,e] at b3;cases b3;rw[hd] at b6;cases b6
 exact⟨h1,h2,bm,ob,b1,b2,hbG,hbP,b3,b4,b5,b6⟩
def Hj{l:PySem.W.OpenLaw}{n k:Nat}{q:Program}{loose:List Str}{XP:(Str->Option Value)->Heap->Prop}{YP:World->Heap->Prop}{d:DefRec}{K:Params->PySem.W.Frag}{CX:World->gK}{sp:World->Sp}{x:Str}
 (hn:l.most=some n)(hn2:n<=sizeLine)(hdf:d.params.defaults=[])(hr:Ś k callerA)
 (hY:∀(w:World) (h:Heap),YP w h->(K w.params).In h)
 (F:∀(w:World) (mg:Str→Option Value) (fa:Addr) (h:Heap),(K w.params).In h→h.Ns mainGlobals mg→mg d.name=some (.ref fa)→
   ∃fd:FuncData,(∀(s:Shared) (u:Value),BindsTo s fd ⟨[u],[]⟩ [(x,u)])/\
    ∀base:Heap,(K w.params).In base->base.Ns mainGlobals mg->Ĭ l.prog w (K w.params) mg base (CX w) k fa fd [x] (sp w))
 (hsp:∀(w:World) (H:Hp) (a:Addr) (ns:List Int),ns.length<=n->Only H->Ţ (K w.params) H a (ns.map V.int)->sp w [.ref a] H (λv _=>v=.bl true) λ_ _ _=>False)
 (Vr:∀(w:World) (H:Hp) (s:Shared) (e:Value) (s':Shared),CX w [] H s (λ_ _ _=>False) e s'->False)
 (hnt:lams≠[]->∀w:World,PySem.W.noTabs (K w.params)=true:=by intro z;exact absurd rfl z)(hone:∀y z,y∈lams->z∈lams->y=z:=by simp[lams])(hrec:∀y,y∈lams->∃d,(recsOf q).find? (λe=>e.name== y)=some d:=by simp[lams]) :
 PySem.W.WalkO q loose XP YP l.row.toRowW d [] (λf vs=>PySem.call f vs):=by
 refine YL.rC hn hdf λw s₀ s₁ mg mb fa o pm cd doc a vs ns G Y ho hd hcd hmg hobj hints hlen hg=>?_
 have KX:=hY w _ Y
 obtain⟨fd,hb,hF⟩:=F w mg fa _ KX G.T.g hmg
 exact Bj KX G.T.g G.T.b G.T.builtins G.T.nolimit hg hobj hints (Nat.le_trans hlen hn2) hr hF hb (λH hO hS=>hsp w H a ns hlen hO hS) (λH e s'=>Vr w H s₁ e s') (λz=>hnt z w) hone λy c Pt hy hty=>let ⟨_,hr'⟩:=hrec y hy;Hi G.T KX hr' hty
end L2
namespace L2
open PySem PySem.Spec PyProof.Rows
def inClass(s:Stmt)(j:Nat):Stmt:=match s with
 | .ClassDef _ _ _ body _ _ _ _ _ _ _=>body.getD j (.Pass ⟨0,0,0,0⟩)
 |_=>.Pass ⟨0,0,0,0⟩
def Ŧ(s:Stmt):Arguments:=match s with
 | .FunctionDef _ a _ _ _ _ _ _ _ _=>a
 |_=> {posonlyargs:=[],args:=[],vararg:=none,kwonlyargs:=[],kw_defaults:=[],kwarg:=none,defaults:=[]}
def ŋ(s:Stmt):List Stmt:=match s with
 | .FunctionDef _ _ b _ _ _ _ _ _ _=>b
 |_=>[]
def ć(s:Stmt):Scope:=match s with
 | .FunctionDef _ _ _ _ _ _ sc _ _ _=>sc
 |_=> {kind:=.function,names:=[],isGenerator:=false,isCoroutine:=false}
abbrev aD:gK:=λ_ _ _ _ _ _=>False
structure Hl(K:PySem.W.Frag)(x qual:Str)(st:Stmt)(f:Addr)(fd:FuncData):Prop where
 ex:∃(oc:Value) (od:Option Addr) (kV doc pm:Value) (an:Option Addr) (cdv ct:Value) (osl:Array (Option Value)),
   fd=PySem.W.fnOf x qual (Ŧ st) (ŋ st) (ć st) .none kV doc pm an cdv ct/\K.lookup f=some ⟨oc,od,.func fd,osl⟩/\PySem.W.codeIn K cdv qual=true
 kp:PySem.W.keepIn K (.ref f)=true
section
variable{P:Program}{w:World}{K:PySem.W.Frag}{mg:Str->Option Value}{base:Heap}
def Hl.binds{x qual:Str}{st:Stmt}{f:Addr}{fd:FuncData}{ps:List Str}(F:Hl K x qual st f fd)
 (h:∀(kV doc pm:Value) (an:Option Addr) (cdv ct:Value) (us:List Value),us.length=ps.length->bindArgs (PySem.W.fnOf x qual (Ŧ st) (ŋ st) (ć st) .none kV doc pm an cdv ct) ⟨us,[]⟩=pure (ps.zip us)):Binds K fd ps []:=by
 obtain⟨oc,od,kV,doc,pm,an,cdv,ct,osl,rfl,lk,hcd⟩:=F.ex
 exact .all (h kV doc pm an cdv ct)
def Bk{x qual:Str}{st:Stmt}{f:Addr}{oc:Value}{od an:Option Addr}{osl:Array (Option Value)}{kV doc pm cdv ct:Value}(l:K.lookup f=some ⟨oc,od,.func (PySem.W.fnOf x qual (Ŧ st) (ŋ st) (ć st) .none kV doc pm an cdv ct),osl⟩)
 (c:PySem.W.codeIn K cdv qual=true)(k:PySem.W.keepIn K (.ref f)=true):Hl K x qual st f (PySem.W.fnOf x qual (Ŧ st) (ŋ st) (ć st) .none kV doc pm an cdv ct):=⟨⟨oc,od,kV,doc,pm,an,cdv,ct,osl,rfl,l,c⟩,k⟩
end
section
variable{X:Cx}
def pv(i:Nat){x:Str}{pos:Pos}(hN:X.N[i]?=some x:=by rfl)(hv:wz X.env.scope x:=by first|exact Or.inl rfl|exact Or.inr (Or.inl rfl)|exact Or.inr (Or.inr rfl))(hd:(x== ("__debug__" :Str))=false:=by decide)
 (hcd:(x== ("__classdict__" :Str))=false:=by decide):PE X (.Name x pos) (pB i):=aZ hN hv hd hcd
end
def Same(H H':Hp):Prop:=∀b o,H b=some o->H' b=some o
def Same.refl(H:Hp):Same H H:=λ_ _ h=>h
def Same.trans{H H1 H2:Hp}(a:Same H H1)(b:Same H1 H2):Same H H2:=λc o h=>b c o (a c o h)
def Same.free{H H':Hp}(e:Same H H'){l:Addr}(h:H' l=Option.none):H l=Option.none:=by
 cases q:H l with
 |none=>rfl
 |some o=>
  rw[e l o q] at h
  cases h
def Same.seq{K:PySem.W.Frag}{H H':Hp}{a:Addr}{xs:List V}(e:Same H H')(h:Ţ K H a xs):Ţ K H' a xs:=by
 rcases h with(h|⟨o,h⟩)|h
 ·exact .inl (.inl (e _ _ h))
 ·exact .inl (.inr ⟨o,e _ _ h⟩)
 ·exact .inr h
end L2
namespace M2
open PySem PySem.Spec PyProof.Rows L2
section
variable{X:Cx}{a b c e:Expr}{ta tb tc te:TE}{pos:Pos}
def PE.wk{t t':TE}(h:PE X e t)(i:∀σ H Q,t' σ H Q->t σ H Q):PE X e t':=λpins s σ H Q I q=>h pins s σ H Q I (i σ H Q q)
def PS.wk{st:Stmt}{t t':TS}(h:PS X st t)(i:∀D σ H,t' D σ H->t D σ H):PS X st t':=λpins s σ H D I q=>h pins s σ H D I (i D σ H q)
def ş.wk{f:Value->Value->Sem Value}{r r':R2}(h:ş X f r)(i:∀x y H Q,r' x y H Q->r x y H Q):ş X f r':=λpins s σ H x y v u Q I rx ry q=>h pins s σ H x y v u Q I rx ry (i x y H Q q)
def GP.wk{f:Value->Sem Value}{r r':V->Hp->VK->Prop}(h:GP X f r)(i:∀x H Q,r' x H Q->r x H Q):GP X f r':=λpins s σ H x v Q I rx q=>h pins s σ H x v Q I rx (i x H Q q)
def Ŝ.wk{f:Value}{r r':List V->Hp->VK->Prop}(h:Ŝ X f r)(i:∀xs H Q,r' xs H Q->r xs H Q):Ŝ X f r':=λpins s σ H xs us Q I r q=>h pins s σ H xs us Q I r (i xs H Q q)
def uY.wk{r r':R2}(h:uY X r)(i:∀x y H Q,r' x y H Q->r x y H Q):uY X r':=λva sl pins s σ H x y v u Q I rx ry q=>h va sl pins s σ H x y v u Q I rx ry (i x y H Q q)
def uX.wk{r r':V->Option Int->Option Int->Hp->VK->Prop}(h:uX X r)(i:∀x lo hi H Q,r' x lo hi H Q->r x lo hi H Q):uX X r':=λpins s σ H x v vl vu lo hi sl Q I rx hs pl pu q=>h pins s σ H x v vl vu lo hi sl Q I rx hs pl pu (i x lo hi H Q q)
def Qf(i:Nat):TE:=λσ H Q=>match σ[i]? with
 |some (some v)=>Q v H
 |_=>False
def Ho{i:Nat}{σ:L2.St}{H:Hp}{Q:VK}(h:Qf i σ H Q):pB i σ H Q:=by
 unfold Qf at h
 split at h
 ·exact⟨_,by assumption,h⟩
 ·exact h.elim
def mv(i:Nat){x:Str}{pos:Pos}(hN:X.N[i]?=some x:=by rfl)(hv:wz X.env.scope x:=by first|exact Or.inl rfl|exact Or.inr (Or.inl rfl)|exact Or.inr (Or.inr rfl))(hd:(x== ("__debug__" :Str))=false:=by decide)
 (hcd:(x== ("__classdict__" :Str))=false:=by decide):PE X (.Name x pos) (Qf i):=PE.wk (aZ hN hv hd hcd) λ_ _ _ h=>Ho h
def YQ(x:V)(k:Bool->Prop):Prop:=match x with
 | .bl c=>k c
 |_=>False
def uZ{x:V}{k:Bool->Prop}(h:YQ x k):∃c,x=.bl c/\k c:=by
 cases x with
 |bl c=>exact⟨c,rfl,h⟩
 |_=>exact h.elim
def JG(t:TE):TT:=λσ H Q=>t σ H λx H1=>YQ x λc=>Q c H1
def Qg{op:CmpOp}{r:R2}(ho:ş X (compareOp op) r)(ha:PE X a ta)(hb:PE X b tb)(hm:behindInMarks op b=false):PT X (.Compare a [op] [b] pos) (JG (TX r ta tb)):=by
 intro pins s σ H Q I h
 refine wpAny_isTrue_Compare1 (Ń (ha pins s σ H _ I h) λv s1 ⟨x,H1,I1,r1,q1⟩=>Ń (hb pins s1 σ H1 _ I1 q1) λu s2 ⟨y,H2,I2,r2,q2⟩=>
  Ń (ho pins s2 σ H2 x y v u _ I2 r1 r2 q2) λc s3 ⟨z,H3,I3,r3,q3⟩=>?_) hm
 obtain⟨k,e,q3⟩:=uZ q3
 subst e
 cases r3
 exact wpAny_truthy_bool ⟨H3,I3,q3⟩
def Bm(r r':R2)(ta tb tc:TE):TE:=λσ H Q=>ta σ H λx H1=>tb σ H1 λy H2=>r x y H2 λz H3=>YQ z λk=>
 (if k=true then tc σ H3 λw' H4=>r' y w' H4 Q else Q (.bl false) H3)
def Bo{op op':CmpOp}{r r':R2}(ho:ş X (compareOp op) r)(ho':ş X (compareOp op') r')(ha:PE X a ta)(hb:PE X b tb)(hc:PE X c tc)
 (hm:lastMarks [op,op'] [b,c]=false:=by with_unfolding_all rfl):PE X (.Compare a [op,op'] [b,c] pos) (Bm r r' ta tb tc):=by
 intro pins s σ H Q I h
 refine Compare_chain (Ń (ha pins s σ H _ I h) λv s1 ⟨x,H1,I1,r1,q1⟩=>chain_link (Ń (hb pins s1 σ H1 _ I1 q1) λu s2 ⟨y,H2,I2,r2,q2⟩=>
  Ń (ho pins s2 σ H2 x y v u _ I2 r1 r2 q2) λd s3 ⟨z,H3,I3,r3,q3⟩=>?_)) hm
 obtain⟨k,e,q3⟩:=uZ q3
 subst e
 cases r3
 refine wpAny_truthy_bool ?_
 cases k with
 |false=>exact ite_ff ⟨.bl false,H3,I3,rfl,q3⟩
 |true=>exact ite_tt (chain_last (Ń (hc pins s3 σ H3 _ I3 q3) λw' s4 ⟨z',H4,I4,r4,q4⟩=>ho' pins s4 σ H4 y z' u w' Q I4 r2 r4 q4))
def Vs(ta tb:TE):TE:=λσ H Q=>ta σ H λx H1=>YQ x λc=>if c=true then tb σ H1 Q else Q (.bl false) H1
variable{rest:List Expr}
def Qh(ha:PE X a ta)(hb:PE X (.BoolOp .And (b::rest) pos) tb):PE X (.BoolOp .And (a::b::rest) pos) (Vs ta tb):=by
 intro pins s σ H Q I h
 refine BoolOp_and (Ń (ha pins s σ H _ I h) λv s1 ⟨x,H1,I1,r1,q1⟩=>?_)
 obtain⟨c,rfl,q1⟩:=uZ q1
 cases r1
 refine wpAny_truthy_bool ?_
 cases c with
 |true=>exact hb pins s1 σ H1 Q I1 q1
 |false=>exact⟨.bl false,H1,I1,rfl,q1⟩
def mI(C:Int->Int->Prop)(g:Int->Int->V):R2:=λx y H Q=>match x,y with
 | .int i,.int j=>C i j/\Q (g i j) H
 |_,_=>False
def Bp(g:Int->Int->V):R2:=λx y H Q=>match x,y with
 | .int i,.int j=>Q (g i j) H
 |_,_=>False
def wL{C:Int->Int->Prop}{g:Int->Int->V}(x y:V)(H:Hp)(Q:VK)(h:mI C g x y H Q):rI C g x y H Q:=by
 cases x with
 |int i=>
  cases y with
  |int j=>exact⟨i,j,rfl,rfl,h.1,h.2⟩
  |_=>exact h.elim
 |_=>exact h.elim
def pK{g:Int->Int->V}(x y:V)(H:Hp)(Q:VK)(h:Bp g x y H Q):JC g x y H Q:=by
 cases x with
 |int i=>
  cases y with
  |int j=>exact⟨i,j,rfl,rfl,h⟩
  |_=>exact h.elim
 |_=>exact h.elim
def Vt:R2:=λx y H Q=>match x,y with
 | .int i,.int j=>Q (.int (i+j)) H
 | .str i,.str j=>i.length+j.length<=sizeLine/\Q (.str (i++j)) H
 |_,_=>False
def Qi:ş X (binaryOp .Add) Vt:=ş.wk (Pj.or uL) λx y H Q h=>by
 cases x with
 |int i=>
  cases y with
  |int j=>exact .inl ⟨i,j,rfl,rfl,h⟩
  |_=>exact h.elim
 |str i=>
  cases y with
  |str j=>exact .inr ⟨i,j,rfl,rfl,h.1,h.2⟩
  |_=>exact h.elim
 |_=>exact h.elim
def Qj:ş X (binaryOp .Sub) (Bp λi j=>.int (i-j)):=ş.wk Pk pK
def nY(i j:Int):Prop:=Ph i j\/(Builtin.Int.intBits i<=1048576/\Builtin.Int.intBits j<=1048576)
theorem nY.ok{i j:Int}(h:nY i j):IntMulOk i j:=by
 rcases h with h|⟨h1,h2⟩
 ·exact h.ok
 ·exact IntMulOk.of_le h1 h2 (by decide)
def Qk:ş X (binaryOp .Mult) (mI nY λi j=>.int (i*j)):=ş.wk (Gp (C:=nY) (g:=λi j=>i*j) λ_ _ _ _ _ _ _ hc q=>mul_int q hc.ok) wL
def zu(_ j:Int):Prop:=j≠0/\Builtin.Int.intBits j<=8000
def zu.py{i j:Int}(h:zu i j):Builtin.divisionGoesByPylong i j=false:=by
 refine PyProof.noPylong_of_log2 ?_
 have hb:=intBits_le_iff.mp h.2
 have h0:j.natAbs≠0:=by have:=h.1;omega
 exact Nat.lt_of_lt_of_le ((Nat.log2_lt h0).mpr hb) (by decide)
def Hq:ş X (binaryOp .FloorDiv) (mI zu λi j=>.int (i.fdiv j)):=ş.wk (Gp (C:=zu) (g:=λi j=>i.fdiv j) λ_ _ _ _ _ _ _ hc q=>floordiv_int hc.1 q (.inl hc.py)) wL
def Ql:ş X (binaryOp .Mod) (mI (λ_ j=>j≠0) λi j=>.int (i.fmod j)):=ş.wk GQ wL
def aF:ş X (binaryOp .Pow) (mI Pb λi j=>.int (i ^ j.toNat)):=ş.wk Pn wL
def iM:ş X (compareOp .Lt) (Bp λi j=>.bl (decide (i<j))):=ş.wk Vh pK
def dH:ş X (compareOp .LtE) (Bp λi j=>.bl (decide (i<=j))):=ş.wk Vi pK
def Vu:ş X (compareOp .Gt) (Bp λi j=>.bl (decide (j<i))):=ş.wk Vj pK
def mU(g:Int->V):V->Hp->VK->Prop:=λx H Q=>match x with
 | .int i=>Q (g i) H
 |_=>False
def Bq:GP X (unaryOp .USub) (mU λi=>.int (-i)):=GP.wk Pq λx H Q h=>by
 cases x with
 |int i=>exact⟨i,rfl,h⟩
 |_=>exact h.elim
def Qm(K:PySem.W.Frag):List V->Hp->VK->Prop:=λxs H Q=>match xs with
 | [.str y]=>y.length<=sizeLine/\Q (.int (y.length:Int)) H
 | [.ref p]=>∃ys,(Ţ K H p ys\/bU K H p ys)/\Q (.int (ys.length:Int)) H
 |_=>False
def Ŵ:Ŝ X (.builtin "len") (Qm X.K):=Ŝ.wk Bc λxs H Q h=>by
 unfold Qm at h
 split at h
 ·exact⟨_,_,rfl,⟨h.1,rfl⟩,h.2⟩
 ·obtain⟨ys,h1,h2⟩:=h
  refine⟨_,ys.length,rfl,?_,h2⟩
  rcases h1 with h1|h1
  ·exact .inl ⟨ys,h1,rfl⟩
  ·exact .inr ⟨ys,h1,rfl⟩
 ·exact h.elim
def mIx(K:PySem.W.Frag):R2:=λx y H Q=>match x,y with
 | .ref p,.int i=>∃xs v,(Ţ K H p xs\/bU K H p xs)/\pG xs i=some v/\Q v H
 | .str z,.int i=>∃c,z.length<=sizeLine/\pG z.cps.toList i=some c/\Q (.str ⟨#[c]⟩) H
 |_,_=>False
def Vv:uY X (mIx X.K):=uY.wk Qd λx y H Q h=>by
 cases x with
 |ref p=>
  cases y with
  |int i=>
   obtain⟨xs,v,h1,h2,h3⟩:=h
   rcases h1 with h1|h1
   ·exact .inl ⟨p,xs,i,v,rfl,rfl,h1,h2,h3⟩
   ·exact .inr (.inl ⟨p,xs,i,v,rfl,rfl,h1,h2,h3⟩)
  |_=>exact h.elim
 |str z=>
  cases y with
  |int i=>
   obtain⟨c,h1,h2,h3⟩:=h
   exact .inr (.inr ⟨z,i,c,rfl,rfl,h1,h2,h3⟩)
  |_=>exact h.elim
 |_=>exact h.elim
def iOf(x:V)(k:Int->Prop):Prop:=match x with
 | .int i=>k i
 |_=>False
def Vw(t:TE):TO:=λσ H Q=>t σ H λx H1=>iOf x λi=>Q (some i) H1
def Br(h:PE X e te):PO X (some e) (Vw te):=by
 intro pins s σ H Q I hw
 rw[evalPart_some]
 refine Ń (h pins s σ H _ I hw) λu s1 ⟨x,H1,I1,r1,q1⟩=>?_
 cases x with
 |int i=>
  obtain⟨t,rfl⟩:=r1
  exact⟨some i,H1,I1,.int i t,q1⟩
 |_=>exact q1.elim
def Za3(K:PySem.W.Frag):V->Option Int->Option Int->Hp->VK->Prop:=λx lo hi H Q=>match x with
 | .ref a=>∃xs,Ţ K H a xs/\∀p,H p=none->Q (.ref p) (upd H p (.lst (eN xs lo hi)))
 |_=>False
def Bs:uX X (Za3 X.K):=uX.wk Hh λx lo hi H Q h=>by
 cases x with
 |ref a=>
  obtain⟨xs,h1,h2⟩:=h
  exact⟨a,xs,rfl,h1,h2⟩
 |_=>exact h.elim
end
end M2
namespace M2
open PySem PySem.Spec PyProof.Rows L2
section
variable{X:Cx}{tg:Expr}
end
mutual
def Rp(K:PySem.W.Frag)(H:Hp):PyData->V->Prop
 | .none,v=>v=.non
 | .bool b,v=>v=.bl b
 | .int i,v=>v=.int i
 | .str x,v=>v=.str x
 | .tuple ds,v=>∃a xs,v=.ref a/\bU K H a xs/\mR K H ds xs
 | .list ds,v=>∃a xs,v=.ref a/\Ţ K H a xs/\mR K H ds xs
 | .dict _,_=>False
def mR(K:PySem.W.Frag)(H:Hp):List PyData->List V->Prop
 | [],xs=>xs=[]
 |d::ds,xs=>∃x r,xs=x::r/\Rp K H d x/\mR K H ds r
end
def Same.tup{K:PySem.W.Frag}{H H':Hp}{a:Addr}{xs:List V}(e:Same H H')(h:bU K H a xs):bU K H' a xs:=by
 rcases h with(h|⟨o,h⟩)|h
 ·exact .inl (.inl (e _ _ h))
 ·exact .inl (.inr ⟨o,e _ _ h⟩)
 ·exact .inr h
theorem Same.upd{H:Hp}{p:Addr}{o:HO}(h:H p=none):Same H (upd H p o):=λb u e=>by
 rw[č (Ī e h)]
 exact e
mutual
theorem Rp.same{K:PySem.W.Frag}{H H':Hp}(e:Same H H'):∀(d:PyData) (v:V),Rp K H d v->Rp K H' d v
 | .none,_,h=>by unfold Rp at h ⊢;exact h
 | .bool _,_,h=>by unfold Rp at h ⊢;exact h
 | .int _,_,h=>by unfold Rp at h ⊢;exact h
 | .str _,_,h=>by unfold Rp at h ⊢;exact h
 | .tuple ds,_,h=>by
   unfold Rp at h ⊢
   obtain⟨a,xs,h1,h2,h3⟩:=h
   exact⟨a,xs,h1,Same.tup e h2,mR.same e ds xs h3⟩
 | .list ds,_,h=>by
   unfold Rp at h ⊢
   obtain⟨a,xs,h1,h2,h3⟩:=h
   exact⟨a,xs,h1,e.seq h2,mR.same e ds xs h3⟩
 | .dict _,_,h=>by unfold Rp at h;exact h.elim
theorem mR.same{K:PySem.W.Frag}{H H':Hp}(e:Same H H'):∀(ds:List PyData) (xs:List V),mR K H ds xs->mR K H' ds xs
 | [],_,h=>by unfold mR at h ⊢;exact h
 |d::ds,_,h=>by
  unfold mR at h ⊢
  obtain⟨x,r,h1,h2,h3⟩:=h
  exact⟨x,r,h1,Rp.same e d x h2,mR.same e ds r h3⟩
end
section
variable{X:Cx}{pins:List (Addr×Obj)}{σ:L2.St}{H:Hp}{s:Shared}
mutual
theorem Rp.reads(I:Inv X pins σ H s):∀(d:PyData) (v:V) (u:Value),Rp X.K H d v->RelV v u->∃as,Reads s.heap u d as
 | .none,v,u,h,r=>by
   unfold Rp at h;subst h;cases r;exact⟨_,.none⟩
 | .bool b,v,u,h,r=>by
   unfold Rp at h;subst h;cases r;exact⟨_,.bool b⟩
 | .int i,v,u,h,r=>by
   unfold Rp at h;subst h;obtain⟨t,rfl⟩:=r;exact⟨_,.int i t⟩
 | .str x,v,u,h,r=>by
   unfold Rp at h;subst h;obtain⟨t,rfl⟩:=r;exact⟨_,.str x t⟩
 | .tuple ds,v,u,h,r=>by
   unfold Rp at h
   obtain⟨a,xs,h1,h2,h3⟩:=h
   subst h1
   cases r
   obtain⟨its,rv,⟨o,e,hc,n,hd⟩,hz⟩:=I.tuple h2
   obtain⟨as,ra⟩:=mR.reads I ds xs its h3 rv
   exact⟨_,.tuple e hc hd (by simpa using ra)⟩
 | .list ds,v,u,h,r=>by
   unfold Rp at h
   obtain⟨a,xs,h1,h2,h3⟩:=h
   subst h1
   cases r
   obtain⟨its,rv,⟨o,n,e,hc,hdd,hd⟩,hz⟩:=I.list h2
   obtain⟨as,ra⟩:=mR.reads I ds xs its h3 rv
   exact⟨_,.list e hc hd (by simpa using ra)⟩
 | .dict _,_,_,h,_=>by unfold Rp at h;exact h.elim
theorem mR.reads(I:Inv X pins σ H s):∀(ds:List PyData) (xs:List V) (us:List Value),mR X.K H ds xs->Vals xs us->∃as,ReadsAll s.heap us ds as
 | [],xs,us,h,r=>by
   unfold mR at h;subst h;cases r;exact⟨_,.nil⟩
 |d::ds,xs,us,h,r=>by
  unfold mR at h
  obtain⟨x,q,h1,h2,h3⟩:=h
  subst h1
  cases r with
  |cons r1 r2=>
   obtain⟨as,ra⟩:=Rp.reads I d x _ h2 r1
   obtain⟨bs,rb⟩:=mR.reads I ds q _ h3 r2
   exact⟨_,.cons ra rb⟩
end
end
def Hr(K:PySem.W.Frag)(neg:Bool):R2:=λx y H Q=>∃d e,Rp K H d x/\Rp K H e y/\d.canLay0=true/\e.canLay0=true/\min d.depth e.depth<=60/\Q (.bl (if neg then !PyData.eqv d e else PyData.eqv d e)) H
section
variable{X:Cx}
def u_(hu:X.A.units+64<cLine):ş X (compareOp .Eq) (Hr X.K false):=by
 intro pins s σ H x y v u Q I rx ry h
 obtain⟨d,e,h1,h2,h3,h4,h5,q⟩:=h
 obtain⟨as,ra⟩:=Rp.reads I d x v h1 rx
 obtain⟨bs,rb⟩:=Rp.reads I e y u h2 ry
 exact SeqAt.compareEq_reads ra rb h3 h4 (by omega) ⟨.bl _,H,I,rfl,q⟩
def Bt(hu:X.A.units+64<cLine):ş X (compareOp .NotEq) (Hr X.K true):=by
 intro pins s σ H x y v u Q I rx ry h
 obtain⟨d,e,h1,h2,h3,h4,h5,q⟩:=h
 obtain⟨as,ra⟩:=Rp.reads I d x v h1 rx
 obtain⟨bs,rb⟩:=Rp.reads I e y u h2 ry
 exact SeqAt.compareNe_reads ra rb h3 h4 (by omega) ⟨.bl _,H,I,rfl,q⟩
end
section
variable{K:PySem.W.Frag}
end
end M2
namespace M3
open PySem PySem.Spec PyProof.Rows L2 M2
def wM{P:Program}{w:World}{H:Hp}{h h':Heap}{C:Addr}(x:cg P w H h)(hC:H C=none)(k:∀b u,b≠C->h.get? b=some u->h'.get? b=some u):cg P w H h':=λa o e=>
 (x a o e).stay (fun b u hb q=>k b u (by
   rcases hb with hb|hb
   ·rw[hb];exact Ī e hC
   ·exact Ī hb hC) q) (λ_ q=>q) λ_ _ q=>q
theorem eO{env:Env}:∀(ns:List (Str×NameKind)) (cs:List (Str×Addr)),(∀y∈ns,y.2=.free->∃c,env.cells.lookup y.1=some c)->(∀x c,cs.lookup x=some c->env.cells.lookup x=some c)->
 ∃cl,(forIn ns cs (λ(x:Str×NameKind) r=>if(x.2== .free)=true then(do let c <-cellOf env x.1;pure (ForInStep.yield ((x.1,c)::r))) else pure (ForInStep.yield r)):Sem (List (Str×Addr)))=pure cl/\
  (∀x c,cl.lookup x=some c->env.cells.lookup x=some c)/\(∀x,(∃c,cs.lookup x=some c)->∃c,cl.lookup x=some c)/\∀y∈ns,y.2=.free->∃c,cl.lookup y.1=some c
 | [],cs,_,h2=>⟨cs,rfl,h2,λ_ z=>z,λ_ z=>nomatch z⟩
 |(n,k)::ns,cs,h1,h2=>by
  by_cases hk:k=.free
  ·subst hk
   obtain⟨c,hc⟩:=h1 (n,.free) List.mem_cons_self rfl
   have e:cellOf env n=pure c:=by unfold cellOf;rw[hc]
   have h2':∀x d,((n,c)::cs).lookup x=some d->env.cells.lookup x=some d:=λx d q=>by
    rw[List.lookup_cons] at q
    cases hx:x== n with
    |true=>
     rw[hx] at q
     have:x=n:=eq_of_beq hx
     subst this
     cases q
     exact hc
    |false=>
     rw[hx] at q
     exact h2 x d q
   obtain⟨cl,q1,q2,q3,q4⟩:=eO ns ((n,c)::cs) (λy hy=>h1 y (List.mem_cons_of_mem _ hy)) h2'
   refine⟨cl,?_,q2,λx ⟨d,hd⟩=>q3 x ?_,λy hy hf=>?_⟩
   ·rw[List.forIn_cons]
    simp only[beq_self_eq_true,if_true,e,pure_bind]
    exact q1
   ·rw[List.lookup_cons]
    cases hx:x== n with
    |true=>exact⟨c,rfl⟩
    |false=>exact⟨d,hd⟩
   ·rcases List.mem_cons.mp hy with rfl|hy
    ·exact q3 n ⟨c,by rw[List.lookup_cons,beq_self_eq_true]⟩
    ·exact q4 y hy hf
  ·have hb:(k== NameKind.free)=false:=by simpa using hk
   obtain⟨cl,q1,q2,q3,q4⟩:=eO ns cs (λy hy=>h1 y (List.mem_cons_of_mem _ hy)) h2
   refine⟨cl,?_,q2,q3,λy hy hf=>?_⟩
   ·rw[List.forIn_cons]
    simp only[hb,Bool.false_eq_true,if_false,pure_bind]
    exact q1
   ·rcases List.mem_cons.mp hy with rfl|hy
    ·exact absurd hf hk
    ·exact q4 y hy hf
def fH{scope:Scope}{env:Env}(h:∀y∈scope.names,y.2=.free->∃c,env.cells.lookup y.1=some c) :
 ∃cl,closureFor scope env=pure cl/\(∀x c,cl.lookup x=some c->env.cells.lookup x=some c)/\∀y∈scope.names,y.2=.free->∃c,cl.lookup y.1=some c:=by
 obtain⟨cl,q1,q2,_,q4⟩:=eO (env:=env) scope.names [] h (λx c z=>by simp at z)
 refine⟨cl,?_,q2,q4⟩
 unfold closureFor
 have e:(forIn scope.names [] (λ(x:Str×NameKind) (r:List (Str×Addr))=>match x with
  |(name,kind)=>if(kind== .free)=true then(do let a <-cellOf env name;pure (ForInStep.yield ((name,a)::r))) else pure (ForInStep.yield r)):Sem (List (Str×Addr)))=pure cl:=q1
 first
  |(simp only[bind_pure];exact q1)
  |(rw[show ∀(t:Sem (List (Str×Addr))),(do let r <-t;pure r)=t from λt=>by simp];exact q1)
  |(simp only[q1,pure_bind])
def aG(X:Cx)(N':List Str)(scope:Scope)(cl:List (Str×Addr))(C:Addr)(s:Shared)(H:Hp)(fp:List Addr):Cx where
 prog:=X.prog
 w:=X.w
 K:=X.K
 mg:=X.mg
 base:=X.base
 A:=X.A
 N:=N'
 s₀:= s
 H₀:= H
 env:=compEnvC scope cl C X.env
 outer:=X.stack
 stack:=X.stack
 ex:=fp
 fn:=λx=>scope.names.lookup x== some .cell
 calm:=X.calm
 pn:=[]
 xe:=λ_ _=>False
def fJ(X:Cx)(sc scope:Scope):List Str->List Nat->Prop
 |x::xs,j::js=>X.N[j]?=some x/\(scope.names.lookup x=some .free/\(sc.names.lookup x=some .cell\/sc.names.lookup x=some .free))/\fJ X sc scope xs js
 |_,[]=>True
 | [],_::_=>False
def cA(js:List Nat)(nl:Nat)(σ:L2.St):L2.St:=js.map (λj:Nat=>(σ[j]?).getD none)++List.replicate nl none
theorem nZ{X:Cx}{sc scope:Scope}{σ:L2.St}{nl:Nat}:∀{N':List Str} {js:List Nat} {i:Nat} {x:Str} {v:V},fJ X sc scope N' js->N'[i]?=some x->(cA js nl σ)[i]?=some (some v)->
 ∃j:Nat,X.N[j]?=some x/\σ[j]?=some (some v)/\scope.names.lookup x=some .free/\(sc.names.lookup x=some .cell\/sc.names.lookup x=some .free)
 |N',[],i,x,v,_,_,h=>by
  unfold cA at h
  rw[List.map_nil,List.nil_append,List.getElem?_replicate] at h
  split at h<;>cases h
 | [],_::_,_,_,_,c,_,_=>c.elim
 |y::N',j::js,0,x,v,c,h1,h2=>by
  obtain⟨c1,c2,_⟩:=c
  simp at h1
  subst h1
  have e:(σ[j]?).getD none=some v:=by simpa[cA] using h2
  refine⟨j,c1,?_,c2⟩
  cases q:σ[j]? with
  |none=>rw[q] at e;cases e
  |some o=>rw[q] at e;exact congrArg some e
 |y::N',j::js,i+1,x,v,c,h1,h2=>by
  exact nZ (N':=N') (js:=js) (i:=i) c.2.2 (by simpa using h1) (by simpa[cA] using h2)
section
variable{prog:Program}{w:World}{A:Around}{R:Result->Shared->Prop}{s:Shared}
def fK{elt target iter:Expr}{ifs:List Expr}{scope:Scope}{pos:Pos}{it acc:Value}{env:Env}(I:Nat->Shared->Prop)
 (turn:∀n s,I n s→wpAny (model prog w) A (pyNext it) (fun r s₁=>match r with
   |none=>R (.ok .next) s₁
   |some v=>wpAny (model prog w) A (letOwnedTupleGo target it v) (fun _ s₁'=>wpAny (model prog w) A (assign target env v) (fun _ s₂=>
     wpAny (model prog w) A (forIn ifs true λc r=>if r=true then do let ok <-isTrue c env (eval c env);pure (ForInStep.yield ok) else pure (ForInStep.yield r)) (λok s₃=>
      if ok=true then wpAny (model prog w) A (eval elt env) (λx s₄=>
       wpAny (model prog w) A (call (.builtin "list.append") [acc,x]) (λ_ s₅=>∃m,m<n/\I m s₅) (λ_ _=>False) s₄) (λ_ _=>False) s₃
      else ∃m,m<n/\I m s₃) (λ_ _=>False) s₂) (λ_ _=>False) s₁') (λ_ _=>False) s₁) (λ_ _=>False) s)
 (n:Nat)(h:I n s) :
 codeAny (model prog w) A (.compLoop (.ListComp elt [⟨target,iter,ifs,0⟩] scope pos) 0 it acc env) R s:=by
 refine codeAny_loop rfl I (λn s hI=>?_) n h
 show wpAny _ A ((compTurn (.ListComp elt [⟨target,iter,ifs,0⟩] scope pos) 0 it acc env).onRaise (λx=>do noteFrame x env;theTreesLotGoes x)) _ _ s
 refine wpAny_noted (wpAny_noRaise ?_)
 rw[compTurn_list]
 refine wpAny_bind (wpAny_standAt (wpAny_bind (wpAny_mono (turn n s hI) (λr s₁ h₁=>?_) λ_ _ h'=>h')))
 cases r with
 |none=>exact wpAny_pure h₁
 |some v=>
  refine wpAny_bind (wpAny_mono h₁ (λ_ s₁' h₁'=>?_) λ_ _ h'=>h')
  refine wpAny_bind (wpAny_mono h₁' (λ_ s₂ h₂=>wpAny_bind (wpAny_mono h₂ (λok s₃ h₃=>?_) λ_ _ h'=>h')) λ_ _ h'=>h')
  cases ok with
  |false=>exact wpAny_pure ⟨rfl,h₃⟩
  |true=>
   exact wpAny_bind (wpAny_bind (wpAny_mono h₃ (λx s₄ h₄=>wpAny_bind (wpAny_mono h₄ (λ_ s₅ h₅=>wpAny_pure (wpAny_pure ⟨rfl,h₅⟩)) λ_ _ h'=>h')) λ_ _ h'=>h'))
end
def Af(X:Cx)(ifs:List Expr)(t:TT):Prop:=
 ∀(pins:List (Addr×Obj)) (s:Shared) (σ:L2.St) (H:Hp) (Q:Bool->Hp->Prop),Inv X pins σ H s->t σ H Q->
  wpAny (model X.prog X.w) X.A (forIn ifs true λc r=>if r=true then do let ok <-isTrue c X.env (eval c X.env);pure (ForInStep.yield ok) else pure (ForInStep.yield r)) (TP X pins σ Q) X.xe s
def Za4:TT:=λ_ H Q=>Q true H
def Hs{X:Cx}:Af X [] Za4:=λ_ _ _ H _ I h=>wpAny_tests_nil ⟨H,I,h⟩
def Ht{X:Cx}{c:Expr}{t:TT}(h:PT X c t):Af X [c] t:=λpins s σ H Q I hw=>wpAny_tests_one (h pins s σ H Q I hw)
def Bu(js:List Nat)(nl:Nat)(wi:TI)(g:TG)(tt:TT)(te:TE):TE:=λσ H Q=>wi σ H λJ H1=>∀D,H1 D=none->
 ∃W:Nat->Nat->L2.St->Hp->Prop,(∃m,W 0 m (cA js nl σ) (upd H1 D (.lst [])))/\∀i m σ' H',W i m σ' H'->
  (J.stop i H'∧Q (.ref D) H')∨(J.go i H'∧∃N:L2.St→Hp→Prop,(∀σ2 H2,N σ2 H2→∃m',m'<m∧W (i+1) m' σ2 H2)∧∀x H2,J.YJ i H' x H2→g x σ' H2 fun σ2 H3=>tt σ2 H3 fun c H4=>
    if c=true then te σ2 H4 λy H5=>∃ys,H5 D=some (.lst ys)/\ys.length<sizeLine/\N σ2 (upd H5 D (.lst (ys ++ [y]))) else N σ2 H4)
section
variable{X:Cx}{elt tg iter:Expr}{ifs:List Expr}{scope:Scope}{pos:Pos}{wi:TI}{g:TG}{tt:TT}{te:TE}
theorem bx{env:Env}:∀{names:List (Str×NameKind)} {x:Str} {k:NameKind},(k=.cell\/k=.free)->
 (names.map λ(n,k)=>if(k== NameKind.free && env.scope.kind== .function && env.kindOf n== some .cell) then(n,NameKind.cell) else(n,k)).lookup x=some k->(x,NameKind.free)∈names\/(x,NameKind.cell)∈names
 | [],x,k,_,h=>by simp at h
 |(n,q)::r,x,k,hk,h=>by
  have ih:=@bx env r x k hk
  rw[List.map_cons] at h
  by_cases hx:x=n
  ·subst hx
   by_cases hf:q=.free
   ·subst hf
    exact .inl List.mem_cons_self
   ·have hb:(q== NameKind.free)=false:=by simpa using hf
    have e:(if(q== NameKind.free && env.scope.kind== .function && env.kindOf x== some .cell)=true then(x,NameKind.cell) else(x,q))=(x,q):=by
     rw[hb];rfl
    have h2:=h
    simp only[e,List.lookup_cons,beq_self_eq_true] at h2
    have:q=k:=Option.some.inj h2
    rcases hk with hk|hk
    ·rw[this,hk]
     exact .inr List.mem_cons_self
    ·exact absurd (this.trans hk) hf
  ·have hn:(x== n)=false:=by simpa using hx
   have h3:(x,NameKind.free)∈r\/(x,NameKind.cell)∈r:=ih (by
    by_cases c:(q== NameKind.free && env.scope.kind== .function && env.kindOf n== some .cell)=true
    ·simp only[c,if_true,List.lookup_cons,hn] at h
     exact h
    ·simp only[c,if_false,Bool.false_eq_true,List.lookup_cons,hn] at h
     exact h)
   rcases h3 with h3|h3
   ·exact .inl (List.mem_cons_of_mem _ h3)
   ·exact .inr (List.mem_cons_of_mem _ h3)
theorem Ň:∀(names:List (Str×NameKind)) (n:Nat) (acc:List (Str×Addr)),cellsFrom n names acc=cellsFrom n names []++acc
 | [],_,_=>rfl
 |(x,k)::r,n,acc=>by
  unfold cellsFrom
  split
  ·rw[Ň r (n+1) ((x,n)::acc),Ň r (n+1) [(x,n)],List.append_assoc]
   rfl
  ·exact Ň r n acc
theorem bA:∀(names:List (Str×NameKind)) (n:Nat) {x:Str} {c:Addr},(x,c)∈cellsFrom n names []->(x,NameKind.cell)∈names
 | [],_,_,_,h=>by simp[cellsFrom] at h
 |(y,k)::r,n,x,c,h=>by
  unfold cellsFrom at h
  split at h
  ·rename_i hk
   rw[Ň r (n+1) [(y,n)]] at h
   rcases List.mem_append.mp h with h|h
   ·exact List.mem_cons_of_mem _ (bA r _ h)
   ·have e:(x,c)=(y,n):=by simpa using h
    cases e
    rw[beq_iff_eq.mp hk]
    exact List.mem_cons_self
  ·exact List.mem_cons_of_mem _ (bA r _ h)
structure Blk(X:Cx)(scope:Scope)(n:Nat)(h:Heap)(cl:List (Str×Addr)):Prop where
 at_:∀x c,cl.lookup x=some c->(X.env.cells.lookup x=some c/\scope.names.lookup x≠some .cell)\/(n<c/\h.IsCell c none/\scope.names.lookup x=some .cell)
 inj:∀x y c,cl.lookup x=some c->cl.lookup y=some c->n<c->x=y
 has:∀x,((x,NameKind.free)∈scope.names\/(x,NameKind.cell)∈scope.names)->∃c,cl.lookup x=some c
def Bv{X:Cx}{scope:Scope}{n:Nat}{h:Heap}{cl:List (Str×Addr)}(hcell:∀y∈scope.names,y.2=.cell->scope.names.lookup y.1=some .cell)
 (h1:∀x c,cl.lookup x=some c->X.env.cells.lookup x=some c)(h2:∀y∈scope.names,y.2=.free->∃c,cl.lookup y.1=some c)(hlt:∀x c,X.env.cells.lookup x=some c->c<n)
 (ok:CellsOk h (n+1) (cellsFrom (n+1) scope.names [])):Blk X scope n h (cellsFrom (n+1) scope.names cl):=by
 have sp:∀x c,(cellsFrom (n+1) scope.names cl).lookup x=some c->(cl.lookup x=some c/\(cellsFrom (n+1) scope.names []).lookup x=none)\/(cellsFrom (n+1) scope.names []).lookup x=some c:=λx c e=>by
  rw[Ň,List.lookup_append] at e
  cases q:(cellsFrom (n+1) scope.names []).lookup x with
  |none=>rw[q] at e;exact .inl ⟨by simpa using e,rfl⟩
  |some d=>rw[q] at e;exact .inr (by simpa using e)
 refine⟨λx c e=>?_,λx y c e1 e2 hc=>?_,λx hx=>?_⟩
 ·rcases sp x c e with⟨e,q⟩|e
  ·refine .inl ⟨h1 x c e,λz=>?_⟩
   obtain⟨d,hd⟩:=fC (sc:=scope) (n:=n+1) z
   rw[hd] at q
   cases q
  ·have m:=mem_of_lookup e
   exact .inr ⟨(ok.empty x c m).2,(ok.empty x c m).1,hcell _ (bA _ _ m) rfl⟩
 ·have nw:∀z,(cellsFrom (n+1) scope.names cl).lookup z=some c→(cellsFrom (n+1) scope.names []).lookup z=some c:=fun z e=>by
   rcases sp z c e with⟨e,q⟩|e
   ·exact absurd (hlt z c (h1 z c e)) (Nat.lt_asymm hc)
   ·exact e
  exact name_of_addr ok.apart (mem_of_lookup (nw x e1)) (mem_of_lookup (nw y e2))
 ·rw[Ň,List.lookup_append]
  rcases hx with hx|hx
  ·obtain⟨c,hc⟩:=h2 _ hx rfl
   cases q:(cellsFrom (n+1) scope.names []).lookup x with
   |none=>exact⟨c,by simpa using hc⟩
   |some d=>exact⟨d,rfl⟩
  ·obtain⟨d,hd⟩:=fC (sc:=scope) (n:=n+1) (hcell _ hx rfl)
   rw[hd]
   exact⟨d,rfl⟩
def dI{M:Model}{A:Around}{E:Value->Shared->Prop}{s:Shared}{scope:Scope}{globals:Addr}{closure:List (Str×Addr)}{qual:Str}
 {func:Option Addr}{code:Value}{env0:Env}{builtins:Addr}{Q:Env->Shared->Prop}
 (hQ:∀h',h'.Ns s.heap.objs.size (fun _=>none)→(∀b o,s.heap.get? b=some o→h'.get? b=some o)→CellsOk h' (s.heap.objs.size+1) (cellsFrom (s.heap.objs.size+1) scope.names [])→
   Q (newEnv scope s.heap.objs.size globals (cellsFrom (s.heap.objs.size+1) scope.names closure) qual func code (some env0) builtins) {s with heap:=h'}) :
 wpAny M A (newFunctionEnv scope globals closure [] qual func code (some env0) builtins) Q E s:=by
 simp only[newFunctionEnv,Option.isSome_some,if_true]
 refine wpAny_bind (wpAny_alloc ?_)
 refine wpAny_bind (wpAny_layCells _ (λname kind cells=>by cases hkc:kind== NameKind.cell<;>simp[hkc]) _ _ _ _ ?_)
 have ok:=cellsFrom_ok scope.names (s.heap.push {cls:=.type "dict",data:=.dict #[]}) (s.heap.objs.size+1) [] ⟨λ_ _ hm=>(nomatch hm),List.Pairwise.nil⟩ (by rw[Heap.size_push];exact Nat.le_refl _)
 rw[Heap.size_push] at ok
 rw[show({s with heap:=s.heap.push {cls:=.type "dict",data:=.dict #[]}}:Shared).heap.objs.size=s.heap.objs.size+1 from Heap.size_push ..]
 refine wpAny_bind ?_
 rw[List.forIn_nil]
 exact wpAny_pure (wpAny_pure (hQ _ ((Heap.Ns.new s.heap (.type "dict")).keeps (pushCells_keeps _ _)) (λb o e=>pushCells_keeps _ _ b o (Heap.get?_push_of_some _ e)) ok))
theorem fL{env:Env}:∀{names:List (Str×NameKind)} {x:Str},names.lookup x=some .free->
 ¬(names.map λ(n,k)=>if(k== NameKind.free && env.scope.kind== .function && env.kindOf n== some .cell) then(n,NameKind.cell) else(n,k)).lookup x=some .local
 | [],x,h=>by simp at h
 |(n,q)::r,x,h=>by
  intro h2
  rw[List.map_cons] at h2
  rw[List.lookup_cons] at h
  cases hx:x== n with
  |true=>
   rw[hx] at h
   cases h
   by_cases c:(NameKind.free== NameKind.free && env.scope.kind== .function && env.kindOf n== some .cell)=true
   ·simp only[c,if_true,List.lookup_cons,hx] at h2
    cases h2
   ·simp only[c,if_false,Bool.false_eq_true,List.lookup_cons,hx] at h2
    cases h2
  |false=>
   rw[hx] at h
   have ih:=fL (env:=env) h
   by_cases c:(q== NameKind.free && env.scope.kind== .function && env.kindOf n== some .cell)=true
   ·simp only[c,if_true,List.lookup_cons,hx] at h2
    exact ih h2
   ·simp only[c,if_false,Bool.false_eq_true,List.lookup_cons,hx] at h2
    exact ih h2
def n_{pins:List (Addr×Obj)}{σ:L2.St}{H:Hp}{s:Shared}{N':List Str}{js:List Nat}{nl:Nat}{sc:Scope}{cl:List (Str×Addr)}{fp:List Addr}{h':Heap}{tk:Nat}
 (hsc:X.env.scope=sc)(hk:scope.kind=.function)(hcap:fJ X sc scope N' js)(hlen:js.length+nl=N'.length)(B:Blk X scope s.heap.objs.size h' cl)
 (I:Inv X pins σ H s)(hf:∀b∈fp,dz X pins H b)(hlt:∀b∈fp,b<s.heap.objs.size)
 (hn:h'.Ns s.heap.objs.size (λ_=>none))(kp:∀b o,s.heap.get? b=some o->h'.get? b=some o) :
 Inv (aG X N' scope cl s.heap.objs.size s H fp) [] (cA js nl σ) H {s with heap:=h',toks:=tk}:=by
 have Bw:∀x,((aG X N' scope cl s.heap.objs.size s H fp).env.kindOf x=some .cell\/(aG X N' scope cl s.heap.objs.size s H fp).env.kindOf x=some .free)->∃c,cl.lookup x=some c:=λx hx=>by
  rcases hx with hx|hx
  ·exact B.has x (bx (.inl rfl) hx)
  ·exact B.has x (bx (.inr rfl) hx)
 have lt:∀x c,X.env.cells.lookup x=some c->c<s.heap.objs.size:=λx c e=>by
  obtain⟨v,o,ho,_⟩:=I.cell x c e
  exact Heap.lt_size ho
 have inj:∀x y c,cl.lookup x=some c->cl.lookup y=some c->x=y:=λx y c e1 e2=>by
  rcases B.at_ x c e1 with⟨q1,_⟩|⟨q1,_⟩
  ·rcases B.at_ y c e2 with⟨q2,_⟩|⟨q2,_⟩
   ·exact I.ok.inj x y c q1 q2
   ·exact absurd (lt x c q1) (Nat.lt_asymm q2)
  ·exact B.inj x y c e1 e2 q1
 refine⟨⟨I.ok.mod,hk,I.ok.glob,I.ok.blt,Nat.le_refl _,inj,Bw,λx c z e=>by
  rcases B.at_ x c e with⟨_,q⟩|⟨q,_⟩
  ·exact absurd (beq_iff_eq.mp z) q
  ·exact Nat.le_of_lt q,I.ok.hd,I.ok.frames,.inl rfl,λb hb=>⟨Nat.ne_of_lt (hlt b hb),λx c e=>by
  rcases B.at_ x c e with⟨q,_⟩|⟨q,_⟩
  ·exact(hf b hb).2.2.2.2.1 x c q
  ·exact Nat.ne_of_gt (Nat.lt_trans (hlt b hb) q)⟩,
  I.bs,Nat.le_trans I.ok.Gx I.sz,fun b o e hb=>?_,fun b hb hz=>?_,I.stack,I.wA,I.tb⟩,rfl,I.bare,Un.kept kp,⟨_,hn,fun i x v e1 e2 e3=>?_⟩,fun x c e=>?_,I.hok.fresh (Nat.le_refl _),fun x c e=>by
    rcases B.at_ x c e with⟨q,_⟩|⟨q,_⟩
    ·exact I.dG x c q
    ·exact I.hok.fresh (Nat.le_of_lt q),λp hp=>?_,I.hok.kept kp,?_⟩
 ·rcases(hf b hb).2.2.2.1 with z|z
  ·exact I.ok.Ao b o e z
  ·exact absurd (Nat.lt_of_lt_of_le (Heap.lt_size e) (Nat.le_trans I.ok.Gx z)) (Nat.lt_irrefl _)
 ·rcases List.mem_cons.mp (I.jO b hz) with z|z
  ·exact(hf b hb).2.1 z
  ·exact(hf b hb).2.2.1 z
 ·obtain⟨j,q1,q2,q0,q3⟩:=nZ hcap e1 e2
  obtain⟨m,hm,hl⟩:=I.loc
  have Za5:wz X.env.scope x:=by
   rw[hsc]
   rcases q3 with q3|q3
   ·exact .inr (.inl q3)
   ·exact .inr (.inr q3)
  obtain⟨u,ru,lk⟩:=hl j x v q1 q2 Za5
  refine⟨u,ru,?_⟩
  rcases lk with⟨k1,_⟩|⟨k1,c,hc,ic⟩
  ·exfalso
   have k1':sc.names.lookup x=some .local:=by rw[<-hsc];exact k1
   rcases q3 with q3|q3<;>(rw[k1'] at q3;cases q3)
  ·have e3':(aG X N' scope cl s.heap.objs.size s H fp).env.kindOf x=some .local\/(aG X N' scope cl s.heap.objs.size s H fp).env.kindOf x=some .cell\/(aG X N' scope cl s.heap.objs.size s H fp).env.kindOf x=some .free:=e3
   rcases e3' with z|z
   ·exact absurd z (fL (env:=X.env) q0)
   ·obtain⟨d,hd⟩:=Bw x z
    have:d=c:=by
     rcases B.at_ x d hd with⟨q,_⟩|⟨_,_,q⟩
     ·rw[hc] at q
      exact(Option.some.inj q).symm
     ·rw[q0] at q
      cases q
    subst this
    exact .inr ⟨z,d,hd,by
     obtain⟨o,ho,hd'⟩:=ic
     exact⟨o,kp _ _ ho,hd'⟩⟩
 ·rcases B.at_ x c e with⟨q,_⟩|⟨_,q,_⟩
  ·obtain⟨v,o,ho,hd⟩:=I.cell x c q
   exact⟨v,o,kp _ _ ho,hd⟩
  ·exact⟨none,q⟩
 ·exact absurd hp (by simp[aG])
 ·show _=N'.length
  rw[<-hlen]
  simp[cA]
def jW{pins:List (Addr×Obj)}{σ σ':L2.St}{H H':Hp}{s s':Shared}{N':List Str}{cl:List (Str×Addr)}{fp:List Addr}{h':Heap}(I:Inv X pins σ H s)(hf:∀b∈fp,dz X pins H b)
 (J:Inv (aG X N' scope cl s.heap.objs.size s H fp) [] σ' H' s')(kp:∀b u,b≠s.heap.objs.size->s'.heap.get? b=some u->h'.get? b=some u):Inv X pins σ H' {s' with heap:=h'}:=by
 have ne:∀{b:Addr} {o:Obj},s.heap.get? b=some o->b≠s.heap.objs.size:=λe=>Nat.ne_of_lt (Heap.lt_size e)
 have u:=J.base
 refine I.call' (ch:=fp) J.os ⟨λb o e n hb hx=>kp b o (ne e) (u.keep b o e n hb hx),λb o e n hb hx=>?_,λb o e n hx=>u.free b o e n hx,λb o e hx=>?_,u.tups,u.mW,u.jm⟩ (wM J.hok J.free kp) J.bare λb hb=>?_
 ·obtain⟨sl,q⟩:=u.slot b o e n hb hx
  exact⟨sl,kp b _ (ne e) q⟩
 ·obtain⟨o',q⟩:=u.there b o e hx
  exact⟨o',kp b _ (ne e) q⟩
 ·exact⟨(hf b hb).2.2.2.1,(hf b hb).2.1,(hf b hb).2.2.2.2.1,(hf b hb).2.2.2.2.2⟩
def Hu(N':List Str)(js:List Nat)(nl:Nat)(sc:Scope)(hsc:X.env.scope=sc)(hcalm:X.calm=true)
 (hi:PI X.ŀ tg iter wi)(hg:∀cl C s H fp,PG (aG X.ŀ N' scope cl C s H fp) tg g)(ht:∀cl C s H fp,Af (aG X.ŀ N' scope cl C s H fp) ifs tt)(he:∀cl C s H fp,PE (aG X.ŀ N' scope cl C s H fp) elt te)
 (hcap:fJ X.ŀ sc scope N' js)(hlen:js.length+nl=N'.length:=by rfl)
 (hk:scope.kind=.function:=by rfl)(hcell:∀y∈scope.names,y.2=.cell->scope.names.lookup y.1=some .cell:=by decide +kernel)(hnames:∀y∈scope.names,y.2=.local->scope.names.lookup y.1=some .local:=by decide +kernel)
 (hfree:∀y∈scope.names,y.2=.free->(sc.names.lookup y.1=some .cell\/sc.names.lookup y.1=some .free):=by decide +kernel)
 (hs:∀x,foldedSetIterable iter X.env x=pure x:=by intro _;rfl) :
 PE X.ŀ (.ListComp elt [⟨tg,iter,ifs,0⟩] scope pos) (Bu js nl wi g tt te):=by
 intro pins s σ H Q I h
 obtain⟨Vx,c1,c2,c3⟩:=fH (scope:=scope) (env:=X.ŀ.env) λy hy hf=>I.ok.has y.1 (by
  have:=hfree y hy hf
  rw[<-hsc] at this
  exact this)
 rw[eval_ListComp]
 refine wpAny_comprehension_free (use:=none) rfl hs c1 hk hnames (Ń (hi pins s σ H _ I h) λv s1 h1=>Ń h1 λitv s2 h2=>?_)
 obtain⟨it,fp,tn,J,H2,e,I2,T,st2,f2,q2⟩:=h2
 subst e
 refine wpAny_newObj_type (dI (λh₁ hns₁ old Qn=>?_))
 dsimp only at hns₁ old Qn ⊢
 generalize Qo:s2.heap.push {cls:=.type "list",dict:=none,data:=.seq ([]:List Value).toArray}=Ů at hns₁ old Qn ⊢
 have hD:H2 s2.heap.objs.size=none:=I2.hok.fresh (Nat.le_refl _)
 have I3:Inv X.ŀ pins σ (upd H2 s2.heap.objs.size (.lst [])) {s2 with heap:=Ů}:=by
  rw[<-Qo]
  exact I2.laid (t':=s2.toks) (λb u e=>Heap.get?_push_of_some _ e) (Nat.le_refl _) ⟨Nat.zero_le _,[],0,.nil,Heap.get?_push_size _ rfl⟩
 have Hv:∀b∈fp,b<s2.heap.objs.size:=λb hb=>by
  obtain⟨o,ho,_⟩:=T.obj 0 _ st2 b hb
  exact Heap.lt_size ho
 have Qp:Ů.objs.size=s2.heap.objs.size+1:=by rw[<-Qo,Heap.size_push]
 have f3:∀b∈fp,dz X.ŀ pins (upd H2 s2.heap.objs.size (.lst [])) b:=λb hb=>by
  obtain⟨g0,g1⟩:=f2 b hb
  exact⟨by rw[č (Nat.ne_of_lt (Hv b hb))];exact g0,g1⟩
 have B:=Bv (X:=X.ŀ) (cl:=Vx) hcell c2 c3 (λx c e=>by
  obtain⟨v,o,ho,_⟩:=I3.cell x c e
  exact Heap.lt_size ho) Qn
 generalize cellsFrom (Ů.objs.size+1) scope.names Vx=cl at B ⊢
 obtain⟨W,⟨m0,w0⟩,turn⟩:=q2 s2.heap.objs.size hD
 have I4:=n_ (X:=X.ŀ) (N':=N') (js:=js) (nl:=nl) (sc:=sc) (scope:=scope) (cl:=cl) (fp:=fp) (h':=h₁) (tk:=s2.toks) hsc hk hcap hlen B I3 f3 (λb hb=>by show b<Ů.objs.size;rw[Qp];exact Nat.lt_succ_of_lt (Hv b hb)) hns₁ old
 have Vy:tn 0 h₁:= T.keep 0 _ _ st2 λb hb o e=>old b o (by rw[<-Qo];exact Heap.get?_push_of_some _ e)
 have fr4:∀b∈fp,(upd H2 s2.heap.objs.size (.lst [])) b=none:=λb hb=>(f3 b hb).1
 have stat:∀{H':Hp},(∀b∈fp,H' b=none)->∀b∈fp,dz (aG X.ŀ N' scope cl Ů.objs.size {s2 with heap:=Ů} (upd H2 s2.heap.objs.size (.lst [])) fp) [] H' b:=fun{H'} hn b hb=>by
  obtain⟨g0,g1,g2,g3,g4,g5⟩:=f3 b hb
  refine⟨hn b hb,Nat.ne_of_lt (by show b<Ů.objs.size;rw[Qp];exact Nat.lt_succ_of_lt (Hv b hb)),λz=>?_,.inl hb,λx c e=>by
   rcases B.at_ x c e with⟨q,_⟩|⟨q,_⟩
   ·exact g4 x c q
   ·exact Nat.ne_of_gt (Nat.lt_trans (by show b<Ů.objs.size;rw[Qp];exact Nat.lt_succ_of_lt (Hv b hb)) q),λp hp=>absurd hp (by simp[aG])⟩
  rcases List.mem_cons.mp (I3.jO b z) with z|z
  ·exact g1 z
  ·exact g2 z
 have loop:∀s₃:Shared,s₃= {s2 with heap:=h₁}->
  codeAny (model X.prog X.w) X.A (.compLoop (.ListComp elt [⟨tg,iter,ifs,0⟩] scope pos) 0 (.ref it) (.ref s2.heap.objs.size) (compEnvC scope cl Ů.objs.size X.ŀ.env))
   (compPost (model X.prog X.w) X.A X.ŀ.xe none (EP X.ŀ pins σ Q) (.ref s2.heap.objs.size) Ů.objs.size) s₃:= by
  rintro s₃ rfl
  refine fK (λn s'=>∃i σ' H',Inv (aG X.ŀ N' scope cl Ů.objs.size {s2 with heap:=Ů} (upd H2 s2.heap.objs.size (.lst [])) fp) [] σ' H' s'/\tn i s'.heap/\(∀b∈fp,H' b=none)/\W i n σ' H') ?_ m0 ⟨0,_,_,I4,Vy,fr4,w0⟩
  rintro n s5 ⟨i,σ5,H5,I5,GK,OJ,w5⟩
  rcases turn i n σ5 H5 w5 with⟨stop,qn⟩|⟨go,N,hN,step⟩
  ·refine Ń (T.done (aG X.ŀ N' scope cl Ů.objs.size {s2 with heap:=Ů} (upd H2 s2.heap.objs.size (.lst [])) fp) rfl rfl rfl hcalm i [] s5 σ5 H5 (λ_ _=>False) I5 (stat OJ) GK stop) λr s6 ⟨hr,I6⟩=>?_
   subst hr
   obtain⟨m,hm,_⟩:=I6.loc
   refine⟨m,hm,λh' hs'=>⟨.ref s2.heap.objs.size,H5,jW I3 f3 I6 (λb u hb e=>hs'.extBut b u hb e),rfl,qn⟩⟩
  ·refine Ń (T.item (aG X.ŀ N' scope cl Ů.objs.size {s2 with heap:=Ů} (upd H2 s2.heap.objs.size (.lst [])) fp) rfl rfl rfl hcalm i [] s5 σ5 H5 (λ_ _=>False) I5 (stat OJ) GK go) λr s6 ⟨u,hr,h6⟩=>?_
   subst hr
   refine Ń h6 λ_ s7 ⟨x,H7,I7,r7,y7,Qq,fr7⟩=>?_
   have I7':=I7.pinned (stat fr7) (T.obj _ _ Qq)
   have again:∀{s8:Shared} {σ8:L2.St} {H8:Hp},Inv (aG X.ŀ N' scope cl Ů.objs.size {s2 with heap:=Ů} (upd H2 s2.heap.objs.size (.lst [])) fp) ([]++gH fp s7.heap) σ8 H8 s8->
    Inv (aG X.ŀ N' scope cl Ů.objs.size {s2 with heap:=Ů} (upd H2 s2.heap.objs.size (.lst [])) fp) [] σ8 H8 s8/\tn (i+1) s8.heap/\∀b∈fp,H8 b=none:=fun{s8 σ8 H8} I8=>by
    refine⟨I8.cj,T.keep _ _ _ Qq λb hb o e=>(I8.pin (b,o) (List.mem_append_right _ (List.mem_append_right _ (ţ hb e)))).1,λb hb=>?_⟩
    obtain⟨o,e,d⟩:=T.obj _ _ Qq b hb
    exact(I8.pin (b,o) (List.mem_append_right _ (List.mem_append_right _ (ţ hb e)))).2.1
   refine Ń (hg cl _ _ _ fp _ s7 σ5 H7 x u _ I7' r7 (step x H7 y7)) λ_ s8 ⟨σ8,H8,I8,q8⟩=>?_
   refine Ń (ht cl _ _ _ fp _ s8 σ8 H8 _ I8 q8) λc s9 ⟨H9,I9,q9⟩=>?_
   cases c with
   |false=>
    rw[if_neg Bool.false_ne_true] at q9 ⊢
    obtain⟨m',hm',w9⟩:=hN _ _ q9
    obtain⟨a1,a2,a3⟩:=again I9
    exact⟨m',hm',i+1,σ8,H9,a1,a2,a3,w9⟩
   |true=>
    rw[if_pos rfl] at q9 ⊢
    refine Ń (he cl _ _ _ fp _ s9 σ8 H9 _ I9 q9) λyv oh ⟨y,H10,I10,r10,ys,e10,l10,w10⟩=>?_
    refine Ń (ř _ oh σ8 H10 (.ref s2.heap.objs.size) [y] (.ref s2.heap.objs.size) [yv] (λ_ Qs=>N σ8 Qs) I10 rfl (.cons r10 .nil) ⟨_,ys,y,rfl,rfl,e10,l10,w10⟩) λ_ Ag ⟨v11,Qs,I11,_,w11⟩=>?_
    obtain⟨a1,a2,a3⟩:=again I11
    obtain⟨m',hm',w11⟩:=hN _ _ w11
    exact⟨m',hm',i+1,σ8,Qs,a1,a2,a3,w11⟩
 exact codeAny_compStart_list (loop _ rfl) (T.self _ 0 _ _ _ Vy (loop _ rfl))
end
def Its(z:Str):It:=⟨λi _=>i<z.cps.size,λi H x H'=>H'=H/\∃c,z.cps.toList[i]?=some c/\x=.str ⟨#[c]⟩,λi _=>i=z.cps.size⟩
def zx{P:Program}{w:World}{K:PySem.W.Frag}{tg:Expr}(it:Addr)(z:Str)(t:Tok)(ty:String)
 (hW:∀A:Around,A.handled=none->Walks P w A it [it] [it] z.cps.size (SignAt z) (λi h=>h.IsStrIter it ty z t i))
 (hS:∀(A:Around) (i:Nat) (s:Shared) (Q:Value->Shared->Prop) (E:Value->Shared->Prop),s.heap.IsStrIter it ty z t i->Q (.ref it) s->wpAny (model P w) A (pyIter (.ref it)) Q E s)
 (hty:["enumerate","zip","dict_itemiterator","dict_reverseitemiterator","odict_iterator","itertools.zip_longest","itertools.pairwise"].contains ty=false):Turn P w K tg (Its z) [it] it (λi h=>h.IsStrIter it ty z t i) where
 mem:=by simp
 obj:=λi h st b hb=>by
  have e:b=it:=by simpa using hb
  subst e
  obtain⟨o,e,c,d⟩:=st
  exact⟨o,e,λv z=>by rw[d] at z;cases z⟩
 keep:=λi h h' st k=>by
  obtain⟨o,e,c,d⟩:=st
  exact⟨o,k it (by simp) o e,c,d⟩
 item:=by
  intro X hP hw hK hc i pins s σ H E I hf st hg
  subst hP hw hK
  obtain⟨f0,f1,f2,f3,f4,f5⟩:=hf it (by simp)
  refine(hW X.A (I.ok.hd hc)).item i s _ _ hg st λv h' tk hv st' kk=>?_
  obtain⟨c,u,hcu,rfl⟩:=hv
  have I1:Inv X pins σ H {s with heap:=h',toks:=tk}:=I.turned (λb o hb e=>kk b o (by simpa using hb) e) f0 f1 f3 f4 f5
  obtain⟨o,e,cl,d⟩:=id st'
  exact⟨_,rfl,wC (s:={s with heap:=h',toks:=tk}) e cl d hty ⟨.str ⟨#[c]⟩,H,I1,⟨u,rfl⟩,⟨rfl,c,by simpa using hcu,rfl⟩,st',λb hb=>(hf b hb).1⟩⟩
 done:=by
  intro X hP hw hK hc i pins s σ H E I hf st hg
  subst hP hw hK
  obtain⟨f0,f1,f2,f3,f4,f5⟩:=hf it (by simp)
  have e:i=z.cps.size:=hg
  subst e
  exact(hW X.A (I.ok.hd hc)).done s _ _ st λh' tk kk=>⟨rfl,I.turned (λb o hb e=>kk b o (by simpa using hb) e) f0 f1 f3 f4 f5⟩
 self:=hS
section
variable{X:Cx}{tg:Expr}
end
end M3
namespace M4
open PySem PySem.Spec PyProof.Rows L2 M2 M3
section
variable{X:Cx}
def Hw{bs:List Bool}:∀{us:List Value},Vals (bs.map V.bl) us->us=bs.map Value.bool:=by
 induction bs with
 |nil=>intro us r;rw[List.map_nil] at r;cases r;rfl
 |cons b bs ih=>
  intro us r
  rw[List.map_cons] at r
  cases r with
  |cons r1 r2=>
   cases r1
   rw[ih r2]
   rfl
def all_range(bs:List Bool):(List.range (bs.map Value.bool).toArray.size).all (λi=>bs.getD i false)=bs.all id:=by
 have e:(bs.map Value.bool).toArray.size=bs.length:=by simp
 rw[e,Bool.eq_iff_iff]
 simp only[List.all_eq_true,List.mem_range,id]
 constructor
 ·intro h b hb
  obtain⟨i,hi,rfl⟩:=List.mem_iff_getElem.mp hb
  have:=h i hi
  rw[List.getD_eq_getElem?_getD,List.getElem?_eq_getElem hi] at this
  exact this
 ·intro h i hi
  rw[List.getD_eq_getElem?_getD,List.getElem?_eq_getElem hi]
  exact h _ (List.getElem_mem hi)
def rD{prog:Program}{w:World}{A:Around}(bs:List Bool):TruthOf prog w A (λi v=>(bs.map Value.bool).toArray[i]?=some v) (λi=>bs.getD i false):=by
 intro i v s Q E hv hq
 have hv':bs[i]?.map Value.bool=some v:=by
  rw[<-List.getElem?_map]
  simpa using hv
 cases hb:bs[i]? with
 |none=>rw[hb] at hv';cases hv'
 |some b=>
  rw[hb] at hv'
  cases hv'
  dsimp only at hq
  rw[List.getD_eq_getElem?_getD,hb] at hq
  exact wpAny_truthy_bool hq
def Qt(K:PySem.W.Frag):List V->Hp->VK->Prop:=λxs H Q=>match xs with
 | [.ref p]=>∃bs:List Bool,Ţ K H p (bs.map V.bl)/\Q (.bl (bs.all id)) H
 |_=>False
def Bx(hc:X.calm=true):Ŝ X (.builtin "all") (Qt X.K):=by
 intro pins s σ H xs us Q I r h
 unfold Qt at h
 split at h
 ·rename_i p
  obtain⟨bs,hS,q⟩:=h
  obtain⟨u,rfl,ru⟩:=vals1 r
  cases ru
  obtain⟨its,rv,pl,hz⟩:=I.list hS
  have e:=Hw rv
  subst e
  have hp:p≠s.heap.objs.size:=by
   obtain⟨o,n,e,_⟩:=pl
   exact Nat.ne_of_lt (Heap.lt_size e)
  refine call_all_walk (wpAny_pyIter_list pl.isList ?_)
  refine⟨s.heap.objs.size,_,_,_,_,_,_,rfl,Walks.list (A:=X.A.in1) (show X.A.in1.handled=none from I.ok.hd hc) s.heap.objs.size p hp (bs.map Value.bool).toArray,⟨⟨_,Heap.get?_push_size _ rfl,rfl,rfl⟩,pl.isList.at λo e=>Heap.get?_push_of_some _ e⟩,rD bs,λh' tk k=>?_⟩
  rw[all_range]
  exact⟨.bl _,H,I.kept λb o e=>k b o (by simpa using Nat.ne_of_lt (Heap.lt_size e)) (Heap.get?_push_of_some _ e),rfl,q⟩
 ·exact h.elim
end
abbrev S(l:List Nat):Str:=⟨l.toArray⟩
def Za6(z:Str):S z.cps.toList=z:=by
 cases z
 simp
def Vz(l:List Nat):(S l).length=l.length:=by simp[Str.length]
def rE(z:Str):z.cps.toList.length=z.length:=by simp[Str.length]
def pL(xs:List Nat)(lo hi:Option Int):List Nat:=(xs.drop (HT.œ xs.length 0 lo)).take (HT.œ xs.length xs.length hi-HT.œ xs.length 0 lo)
def idx_eq(z:Str)(lo hi:Option Int):Builtin.Str.strSliceIndices lo hi 1 z.length=(List.range (HT.œ z.length z.length hi-HT.œ z.length 0 lo)).map (HT.œ z.length 0 lo + ·):=by
 have hc:∀(o:Option Int) (d:Nat),d<=z.length->(match o with|none=>((d:Nat):Int)|some i=>max 0 (min (if i<0 then i+(z.length:Int) else i) (z.length:Int)))=((HT.œ z.length d o:Nat):Int):=by
  intro o d hd
  cases o with
  |none=>rfl
  |some i=>
   show max 0 (min (if i<0 then i+(z.length:Int) else i) (z.length:Int))=((if i<0 then(i+(z.length:Int)).toNat else min i.toNat z.length:Nat):Int)
   by_cases h:i<0
   ·rw[if_pos h,if_pos h];omega
   ·rw[if_neg h,if_neg h];omega
 have e:Builtin.Str.strSliceIndices lo hi 1 z.length=sliceRange ((HT.œ z.length 0 lo:Nat):Int) ((HT.œ z.length z.length hi:Nat):Int) 1:=by
  have h1:=hc lo 0 (Nat.zero_le _)
  have h2:=hc hi z.length (Nat.le_refl _)
  unfold Builtin.Str.strSliceIndices
  simp only[show(1:Int)>0 by decide,if_true]
  rw[<-h1,<-h2]
  cases lo<;>cases hi<;>rfl
 rw[e,sliceRange_one]
def Hx(z:Str)(lo hi:Option Int):(Builtin.Str.strSliceIndices lo hi 1 z.length).filterMap (z.cps[·]?)=pL z.cps.toList lo hi:=by
 rw[idx_eq,pick_run]
 unfold pL
 rw[rE]
def Hy(xs:List Nat)(lo hi:Option Int):(pL xs lo hi).length<=xs.length:=by
 unfold pL
 rw[List.length_take,List.length_drop]
 omega
def BJ{z:Str}{t:Tok}{l u:Option (Int×Tok)}{Q:Value->Shared->Prop}{s:Shared}(hz:z.length<=sizeLine)
 (h:∀t' k,Q (.str (S (pL z.cps.toList (l.map (·.1)) (u.map (·.1)))) t') {s with toks:=k}):(sliceMade z t l u none).post Q s:=by
 have e:=Hx z (l.map (·.1)) (u.map (·.1))
 unfold sliceMade
 have ep:slicePicked z l u none=Builtin.Str.strSliceIndices (l.map (·.1)) (u.map (·.1)) 1 z.length:=rfl
 rw[ep]
 split
 ·rename_i hc
  have hl:(Builtin.Str.strSliceIndices (l.map (·.1)) (u.map (·.1)) 1 z.length).length=z.length:=by simpa using hc
  have hz2:pL z.cps.toList (l.map (·.1)) (u.map (·.1))=z.cps.toList:=by
   rw[idx_eq,List.length_map,List.length_range] at hl
   have hi:=HT.uU z.length 0 (Nat.zero_le _) (l.map (·.1))
   have hj:=HT.uU z.length z.length (Nat.le_refl _) (u.map (·.1))
   unfold pL
   rw[rE]
   have hl2:=rE z
   have a0:HT.œ z.length 0 (l.map (·.1))=0\/z.length=0:=by omega
   rcases a0 with a0|a0
   ·rw[a0] at hl ⊢
    rw[List.drop_zero]
    exact List.take_of_length_le (by omega)
   ·have:z.cps.toList=[]:=List.eq_nil_of_length_eq_zero (by omega)
    rw[this]
    simp
  have:=h t s.toks
  rw[hz2,Za6] at this
  exact this
 ·rw[e]
  exact⟨by rw[Vz];have:=Hy z.cps.toList (l.map (·.1)) (u.map (·.1));rw[rE] at this;omega,h _ _⟩
section
variable{X:Cx}
def Za7:V->Option Int->Option Int->Hp->VK->Prop:=λx lo hi H Q=>match x with
 | .str z=>z.length<=sizeLine/\Q (.str (S (pL z.cps.toList lo hi))) H
 |_=>False
def Hz:uX X Za7:=by
 intro pins s σ H x v vl vu lo hi sl Q I rx hs pl pu h
 cases x with
 |str z=>
  obtain⟨t,rfl⟩:=rx
  obtain⟨hz,q⟩:=h
  obtain⟨l,el,el2⟩:∃l:Option (Int×Tok),partValue l=vl/\l.map (·.1)=lo:=by
   cases pl with
   |none=>exact⟨none,rfl,rfl⟩
   |int i t=>exact⟨some (i,t),rfl,rfl⟩
  obtain⟨u,eu,eu2⟩:∃u:Option (Int×Tok),partValue u=vu/\u.map (·.1)=hi:=by
   cases pu with
   |none=>exact⟨none,rfl,rfl⟩
   |int i t=>exact⟨some (i,t),rfl,rfl⟩
  subst el el2 eu eu2
  exact⟨"str",_,F.slot_str_getitem.lookup,typeIs_str s z t,wpAny_getItem_str_slice (l:=l) (u:=u) (st:=none) hs rfl (BJ hz λt' k=>⟨.str _,H,I.tok _,⟨_,rfl⟩,q⟩)⟩
 |_=>exact h.elim
def Za8(K:PySem.W.Frag):V->Option Int->Option Int->Hp->VK->Prop:=λx lo hi H Q=>match x with
 | .ref a=>∃xs,Ţ K H a xs/\∀p,H p=none->Q (.ref p) (upd H p (.lst (eN xs lo hi)))
 | .str z=>z.length<=sizeLine/\Q (.str (S (pL z.cps.toList lo hi))) H
 |_=>False
def slm:uX X (Za8 X.K):=uX.wk (Bs.or Hz) λx lo hi H Q h=>by
 cases x with
 |ref a=>exact .inl h
 |str z=>exact .inr h
 |_=>exact h.elim
def mul_eq(z:Str){n:Int}(h:0<=n):Txt.mul z n=S (List.replicate n.toNat z.cps.toList).flatten:=by
 have key:∀(k:Nat) (acc:Array Nat),((List.replicate k z.cps).foldl (·++ ·) acc).toList=acc.toList++(List.replicate k z.cps.toList).flatten:=by
  intro k
  induction k with
  |zero=>intro acc;simp
  |succ k ih=>
   intro acc
   rw[List.replicate_succ,List.foldl_cons,ih,List.replicate_succ,List.flatten_cons]
   simp
 unfold Txt.mul
 refine PyProof.Rows.ext_toList ?_
 by_cases h1:n<1
 ·rw[if_pos h1]
  have:n.toNat=0:=by omega
  rw[this]
  simp[Str.empty]
 ·rw[if_neg h1]
  split
  ·rename_i hc
   rw[Bool.or_eq_true] at hc
   rcases hc with hc|hc
   ·have:n=1:=by simpa using hc
    subst this
    simp
   ·have h0:z.cps.toList=[]:=List.eq_nil_of_length_eq_zero (by rw[rE];simpa using hc)
    rw[h0]
    simp
  ·rw[key]
   simp
def BK(z:Str)(n:Int):Prop:=0<=n/\n<=1000/\z.length<=1000
def BK.ok{z:Str}{n:Int}(h:BK z n):MulOk z n:=by
 obtain⟨h0,h1,h2⟩:=h
 refine⟨?_,λhn _=>?_,λhn _=>?_⟩
 ·rw[decide_eq_false (by omega),decide_eq_false (by omega)]
  rfl
 ·have:(9000000000000000:Int)≤(2 ^ 63-1) / n:=by
   rw[Int.le_ediv_iff_mul_le (by omega)]
   omega
  omega
 ·have:z.length*n.toNat<=1000*1000:=Nat.mul_le_mul h2 (by omega)
  unfold Builtin.Str.tooLong
  simp
  rw[sizeLine_eq]
  omega
def BL:R2:=λx y H Q=>match x,y with
 | .int i,.int j=>nY i j/\Q (.int (i*j)) H
 | .str z,.int n=>BK z n/\Q (.str (S (List.replicate n.toNat z.cps.toList).flatten)) H
 |_,_=>False
def HB:ş X (binaryOp .Mult) BL:=by
 intro pins s σ H x y v u Q I rx ry h
 unfold BL at h
 split at h
 ·exact Qk pins s σ H _ _ v u Q I rx ry h
 ·obtain⟨t,rfl⟩:=rx
  obtain⟨t',rfl⟩:=ry
  exact SB.mul h.1.ok λt' k=>⟨.str _,H,I.tok _,⟨_,by rw[mul_eq _ h.1.1]⟩,h.2⟩
 ·exact h.elim
end
end M4
namespace M5
open PySem PySem.Spec PyProof.Rows L2 M2 M3
section
variable{X:Cx}{pins:List (Addr×Obj)}{σ:L2.St}{H:Hp}{s:Shared}{x:Str}{c P:Addr}{params:Arguments}{body:Expr}{scope:Scope}{pos:Pos}{cl:List (Str×Addr)}
end
section
variable{X:Cx}{pins:List (Addr×Obj)}{σ:L2.St}{H:Hp}{s:Shared}{params:Arguments}{body:Expr}{scope sc:Scope}{cl:List (Str×Addr)}{N0:List Str}{js:List Nat}{qual px:Str}{f c':Addr}{A:Around}
end
section
variable{X:Cx}{pins:List (Addr×Obj)}{σ:L2.St}{H:Hp}{s:Shared}
variable{R:Result->Shared->Prop}{f l S It:Addr}{oF:Obj}{xs:List V}(ks:Nat->Int)(W:Nat->Hp->Prop)
end
section
variable{X:Cx}{x px:Str}{c P:Addr}{params:Arguments}{body e:Expr}{scope:Scope}{p pos Qu kpos:Pos}{ta:TA}{te:TE}
end
end M5
namespace P
def nst:PySem.Expr->Bool
 | .Starred .. =>false
 |_=>true
def ŵ{e:PySem.Expr}{es:List PySem.Expr}{env:PySem.Env}(h:nst e=true):PySem.starEach (e::es) env=(false,PySem.eval e env)::PySem.starEach es env:=by
 cases e<;>first|rfl|cases h
def Qv{a b:PySem.Expr}{env:PySem.Env}(h:nst a=true)(h2:nst b=true):PySem.starEach [a,b] env=[(false,PySem.eval a env),(false,PySem.eval b env)]:=by
 rw[ŵ h,ŵ h2];rfl
open PySem PySem.Spec PyProof.Rows L2 M2
structure KK where
 K:PySem.W.Frag
 cm:String->Addr
abbrev kk(X:Cx)(cm:String->Addr):KK:=⟨X.K,cm⟩
inductive PV where
 |non|bl (b:Bool)|int (i:Int)|str (x:Str)|tup (xs:List PV)|lst (xs:List PV)
 |ins (C:String) (ns:List Str) (xs:List PV)|xc (C:String) (ns:List Str) (xs:List PV)|ty (n:String)|cls (C:String)
def xo(a C:Addr)(d:Option Addr):HO:=.ext λh=>∃o vs,h.get? a=some o/\o.cls=.ref C/\o.dict=d/\o.data=.fields vs
def rG(F:Hp)(d:Option Addr)(fs:List (Str×V)):Prop:=(d=none/\fs=[])\/∃a,d=some a/\F a=some (.xd fs)
mutual
def Rep(K:KK)(F:Hp):PV->V->Prop
 | .non,v=>v=.non
 | .bl b,v=>v=.bl b
 | .int i,v=>v=.int i
 | .str x,v=>v=.str x
 | .tup ps,v=>∃a xs,v=.ref a/\F a=some (.tup xs)/\ĉ K F ps xs
 | .lst ps,v=>∃a xs,v=.ref a/\Ţ K.K F a xs/\ĉ K F ps xs
 | .ins C ns ps,v=>∃a dx fs,v=.ref a/\F a=some (.ins (K.cm C) dx fs)/\fs.map (·.1)=ns/\ĉ K F ps (fs.map (·.2))
 | .xc C ns ps,v=>∃a d fs,v=.ref a/\F a=some (xo a (K.cm C) d)/\rG F d fs/\fs.map (·.1)=ns/\ĉ K F ps (fs.map (·.2))
 | .ty n,v=>v=.ty n
 | .cls C,v=>v=.ref (K.cm C)
def ĉ(K:KK)(F:Hp):List PV->List V->Prop
 | [],xs=>xs=[]
 |p::ps,xs=>∃x r,xs=x::r/\Rep K F p x/\ĉ K F ps r
end
section
variable{K:KK}{F F' H H':Hp}
def rG.same{d:Option Addr}{fs:List (Str×V)}(e:Same F F')(h:rG F d fs):rG F' d fs:=by
 rcases h with h|⟨a,h1,h2⟩
 ·exact .inl h
 ·exact .inr ⟨a,h1,e _ _ h2⟩
mutual
theorem Rep.same(e:Same F F'):∀(p:PV) (v:V),Rep K F p v->Rep K F' p v
 | .non,_,h=>by unfold Rep at h ⊢;exact h
 | .bl _,_,h=>by unfold Rep at h ⊢;exact h
 | .int _,_,h=>by unfold Rep at h ⊢;exact h
 | .str _,_,h=>by unfold Rep at h ⊢;exact h
 | .ty _,_,h=>by unfold Rep at h ⊢;exact h
 | .cls _,_,h=>by unfold Rep at h ⊢;exact h
 | .tup ps,_,h=>by
   unfold Rep at h ⊢
   obtain⟨a,xs,h1,h2,h3⟩:=h
   exact⟨a,xs,h1,e _ _ h2,ĉ.same e ps xs h3⟩
 | .lst ps,_,h=>by
   unfold Rep at h ⊢
   obtain⟨a,xs,h1,h2,h3⟩:=h
   exact⟨a,xs,h1,e.seq h2,ĉ.same e ps xs h3⟩
 | .ins C ns ps,_,h=>by
   unfold Rep at h ⊢
   obtain⟨a,dx,fs,h1,h2,h3,h4⟩:=h
   exact⟨a,dx,fs,h1,e _ _ h2,h3,ĉ.same e ps _ h4⟩
 | .xc C ns ps,_,h=>by
   unfold Rep at h ⊢
   obtain⟨a,d,fs,h1,h2,hd,h3,h4⟩:=h
   exact⟨a,d,fs,h1,e _ _ h2,hd.same e,h3,ĉ.same e ps _ h4⟩
theorem ĉ.same(e:Same F F'):∀(ps:List PV) (xs:List V),ĉ K F ps xs->ĉ K F' ps xs
 | [],_,h=>by unfold ĉ at h ⊢;exact h
 |p::ps,_,h=>by
  unfold ĉ at h ⊢
  obtain⟨x,r,h1,h2,h3⟩:=h
  exact⟨x,r,h1,Rep.same e p x h2,ĉ.same e ps r h3⟩
end
theorem ĉ.pr:∀{ps:List PV} {vs:List V},ĉ K F ps vs->Paired (Rep K F) ps vs
 | [],_,h=>by unfold ĉ at h;subst h;exact .nil
 |p::ps,_,h=>by
  unfold ĉ at h
  obtain⟨x,r,rfl,h2,h3⟩:=h
  exact .cons h2 (ĉ.pr h3)
theorem ĉ.of:∀{ps:List PV} {vs:List V},Paired (Rep K F) ps vs->ĉ K F ps vs
 | [],_,.nil=>by unfold ĉ;rfl
 |p::ps,_,.cons h t=>by unfold ĉ;exact⟨_,_,rfl,h,ĉ.of t⟩
theorem ĉ.nil:ĉ K F [] []:=ĉ.of .nil
theorem ĉ.cons{p:PV}{v:V}{ps:List PV}{vs:List V}(h:Rep K F p v)(t:ĉ K F ps vs):ĉ K F (p::ps) (v::vs):=ĉ.of (.cons h t.pr)
theorem ĉ.length{ps:List PV}{vs:List V}(h:ĉ K F ps vs):ps.length=vs.length:=Paired.length h.pr
theorem bB{α β:Type}{G:α->β->Prop}:∀{l:List α} {m:List β} {i:Nat} {x:α},Paired G l m->l[i]?=some x->∃y,m[i]?=some y/\G x y
 |_,_,_,_,.nil,e=>by simp at e
 |_,_,0,_,.cons r _,e=>by simp at e;subst e;exact⟨_,rfl,r⟩
 |_,_,i+1,x,.cons _ t,e=>by
  obtain⟨y,h1,h2⟩:=bB (i:=i) (x:=x) t (by simpa using e)
  exact⟨y,by simpa using h1,h2⟩
theorem BP{α β:Type}{G:α->β->Prop}:∀{l l2:List α} {m m2:List β},Paired G l m->Paired G l2 m2->Paired G (l++l2) (m++m2)
 |_,_,_,_,.nil,t=>t
 |_,_,_,_,.cons r s,t=>.cons r (BP s t)
theorem jC{α β:Type}{G:α->β->Prop}:∀{l:List α} {m:List β} (n:Nat),Paired G l m->Paired G (l.take n) (m.take n)
 |_,_,0,_=>.nil
 |_,_,_+1,.nil=>.nil
 |_,_,n+1,.cons r t=>.cons r (jC n t)
theorem jD{α β:Type}{G:α->β->Prop}:∀{l:List α} {m:List β} (n:Nat),Paired G l m->Paired G (l.drop n) (m.drop n)
 |_,_,0,h=>h
 |_,_,_+1,.nil=>.nil
 |_,_,n+1,.cons _ t=>jD n t
def ĉ.append{ps qs:List PV}{vs us:List V}(h:ĉ K F ps vs)(t:ĉ K F qs us):ĉ K F (ps++qs) (vs++us):=ĉ.of (BP h.pr t.pr)
end
abbrev DK:=Sum Int (List Int)
inductive Slot where
 |no|sh (p:PV)|ow (ps:List PV)|bw (ps:List PV)|rc (C:String) (ns:List Str) (ps:List PV)|ot (ps qs rs:List PV)|ol (BR:List (List PV))|od (t:Bool) (kvs:List (DK×PV))|bd (t:Bool) (kvs:List (DK×PV))
abbrev ĸ:=List Slot
def Slot.own:Slot->Bool
 | .ow _=>true
 | .rc _ _ _=>true
 | .ot _ _ _=>true
 | .ol _=>true
 | .od _ _=>true
 |_=>false
structure Ctx where
 B:Hp
 F₀:Hp
 /-- what is lent here:read,never changed,never kept -/
 L:Hp
 /-- which objects may be held as one's own:address,dict,class -/
 S:Addr->Addr->String->Prop
def pN(K:KK)(F:Hp)(t:Bool)(kvs:List (DK×PV))(u:HO):Prop:=
 (t=false/\∃ks:List (Key×V),u=.dK ks/\Paired (λ(p:DK×PV) (q:Key×V)=>(∃i:Int,p.1=.inl i/\q.1=.inl i)/\Rep K F p.2 q.2) kvs ks)\/
 t=true/\∃ks:List (List Key×V),u=.dT ks/\Paired (λ(p:DK×PV) (q:List Key×V)=>(∃is:List Int,p.1=.inr is/\q.1=is.map .inl)/\Rep K F p.2 q.2) kvs ks
def ő(K:KK)(c:Ctx)(F H:Hp)(o:Option V):Slot->Prop
 | .no=>True
 | .sh p=>∃v,o=some v/\Rep K F p v
 | .ow ps=>∃a vs,o=some (.ref a)/\H a=some (.lst vs)/\F a=none/\c.B a=none/\ĉ K F ps vs
 | .bw ps=>∃a vs,o=some (.ref a)/\c.L a=some (.lst vs)/\ĉ K F ps vs
 | .rc C ns ps=>∃a dx fs,o=some (.ref a)/\H a=some (.ins (K.cm C) dx fs)/\F a=none/\c.B a=none/\fs.map (·.1)=ns/\ĉ K F ps (fs.map (·.2))/\c.S a dx C
 | .ot ps qs rs=>∃p a xs vs ys,o=some (.ref p)/\F p=some (.tup (xs ++ .ref a::ys))/\ĉ K F ps xs/\H a=some (.lst vs)/\F a=none/\c.B a=none/\ĉ K F qs vs/\ĉ K F rs ys
 | .ol BR=>∃(p:Addr) (as:List Addr),o=some (.ref p)/\F p=some (.lst (as.map V.ref))/\as.Nodup/\Paired (λ(a:Addr) (ps:List PV)=>∃vs,H a=some (.lst vs)/\F a=none/\c.B a=none/\ĉ K F ps vs) as BR
 | .od t kvs=>∃a u,o=some (.ref a)/\H a=some u/\F a=none/\c.B a=none/\pN K F t kvs u
 | .bd t kvs=>∃a u,o=some (.ref a)/\(c.L a=some u\/∃ob,F a=some (.b_ ob u))/\pN K F t kvs u
def Slot.at_(F:Hp)(x:V)(a:Addr):Slot->Prop
 | .ot ps _ _=>∃p xs ys,x=.ref p/\F p=some (.tup (xs ++ .ref a::ys))/\xs.length=ps.length
 | .ol _=>∃(p:Addr) (as:List Addr),x=.ref p/\F p=some (.lst (as.map V.ref))/\a∈as
 | .ow _=>x=.ref a
 | .od _ _=>x=.ref a
 | .rc _ _ _=>x=.ref a
 |_=>False
def ĵ(F:Hp)(σ:L2.St)(ρ:ĸ)(i:Nat)(a:Addr):Prop:=∃s x,ρ[i]?=some s/\σ[i]?=some (some x)/\s.at_ F x a
structure Rel(K:KK)(c:Ctx)(F H:Hp)(σ:L2.St)(ρ:ĸ):Prop where
 sub:Same F H
 base:Same c.B H
 f0:Same c.F₀ F
 b_:∀a,c.B a≠none->c.F₀ a=none->F a=none
 lent:∀a u,c.L a=some u->H a=some u/\F a=none
 lb:∀a,c.B a=none->c.L a=none
 len:σ.length=ρ.length
 slot:∀(i:Nat) s,ρ[i]?=some s->ő K c F H ((σ[i]?).getD none) s
 sep:∀i j a,ĵ F σ ρ i a->ĵ F σ ρ j a->i=j
def iQ(F:Hp)(σ:L2.St)(ρ:ĸ)(a:Addr):Prop:=∀i,¬ĵ F σ ρ i a
section
variable{K:KK}{c:Ctx}{F F' H H':Hp}{σ:L2.St}{ρ:ĸ}{a:Addr}{o:HO}
def jX{s:Slot}{x:V}(h:s.at_ F x a):s.own=true:=by
 cases s<;>first|rfl|exact h.elim
theorem jY:∀{as bs:List Addr},as.map V.ref=bs.map V.ref->as=bs
 | [],[],_=>rfl
 | [],_::_,h=>by cases h
 |_::_,[],h=>by cases h
 |a::as,b::bs,h=>by
  injection h with h1 h2
  injection h1 with h1
  rw[h1,jY h2]
def jE{ps qs rs:List PV}{x:V}{b:Addr}(h:(Slot.ot ps qs rs).at_ F x a)(h':(Slot.ot ps qs rs).at_ F x b):a=b:=by
 obtain⟨p,xs,us,h1,h2,l1⟩:=h
 obtain⟨q,ys,ws,h3,h4,l2⟩:=h'
 rw[h1] at h3
 cases h3
 rw[h2] at h4
 have e:xs++V.ref a::us=ys++V.ref b::ws:=by
  injection h4 with h4
  injection h4
 have e2:=(List.append_inj e (by omega)).2
 injection e2 with e2
 injection e2
theorem BW{α β:Type}{G:α->β->Prop}:∀{l:List α} {m:List β} {x:α},Paired G l m->x∈l->∃y,y∈m/\G x y
 |_,_,_,.nil,h=>by simp at h
 |_,_,x,.cons r t,h=>by
  rcases List.mem_cons.mp h with rfl|h
  ·exact⟨_,List.mem_cons_self,r⟩
  ·obtain⟨y,h1,h2⟩:=BW t h
   exact⟨y,List.mem_cons_of_mem _ h1,h2⟩
theorem rH{α β:Type}{G G':α->β->Prop}:∀{l:List α} {m:List β},Paired G l m->(∀x y,x∈l->G x y->G' x y)->Paired G' l m
 |_,_,.nil,_=>.nil
 |_,_,.cons r t,h=>.cons (h _ _ List.mem_cons_self r) (rH t λx y hx=>h x y (List.mem_cons_of_mem _ hx))
theorem pN.same{t:Bool}{kvs:List (DK×PV)}{u:HO}(h:pN K F t kvs u)(e:Same F F'):pN K F' t kvs u:=by
 rcases h with⟨ht,ks,h1,h2⟩|⟨ht,ks,h1,h2⟩
 ·exact .inl ⟨ht,ks,h1,rH h2 λp q _ ⟨r1,r2⟩=>⟨r1,r2.same e p.2 q.2⟩⟩
 ·exact .inr ⟨ht,ks,h1,rH h2 λp q _ ⟨r1,r2⟩=>⟨r1,r2.same e p.2 q.2⟩⟩
def ő.grow{s:Slot}{x:Option V}(h:ő K c F H x s)(eF:Same F F')(eH:∀b vs,(∃y,x=some y/\s.at_ F y b)->H b=some vs->F b=none->c.B b=none->H' b=some vs/\F' b=none):ő K c F' H' x s:=by
 cases s with
 |no=>trivial
 |sh p=>obtain⟨v,h1,h2⟩:=h;exact⟨v,h1,h2.same eF p v⟩
 |ow ps=>
  obtain⟨b,vs,h1,h2,h3,h4,h5⟩:=h
  obtain⟨e1,e2⟩:=eH b _ ⟨_,h1,rfl⟩ h2 h3 h4
  exact⟨b,vs,h1,e1,e2,h4,h5.same eF ps vs⟩
 |bw ps=>obtain⟨b,vs,h1,h2,h3⟩:=h;exact⟨b,vs,h1,h2,h3.same eF ps vs⟩
 |bd t kvs=>obtain⟨b,u,h1,h2,h3⟩:=h;exact⟨b,u,h1,h2.imp id λ⟨ob,e⟩=>⟨ob,eF _ _ e⟩,h3.same eF⟩
 |od t kvs=>
  obtain⟨b,u,h1,h2,h3,h4,h5⟩:=h
  obtain⟨e1,e2⟩:=eH b _ ⟨_,h1,rfl⟩ h2 h3 h4
  exact⟨b,u,h1,e1,e2,h4,h5.same eF⟩
 |rc C ns ps=>
  obtain⟨b,dx,fs,h1,h2,h3,h4,h5,h6⟩:=h
  obtain⟨e1,e2⟩:=eH b _ ⟨_,h1,rfl⟩ h2 h3 h4
  exact⟨b,dx,fs,h1,e1,e2,h4,h5,h6.1.same eF ps _,h6.2⟩
 |ot ps qs rs=>
  obtain⟨p,b,xs,vs,ys,h1,h2,h3,h4,h5,h6,h7,h8⟩:=h
  obtain⟨e1,e2⟩:=eH b _ ⟨_,h1,p,xs,ys,rfl,h2,h3.length.symm⟩ h4 h5 h6
  exact⟨p,b,xs,vs,ys,h1,eF _ _ h2,h3.same eF ps xs,e1,e2,h6,h7.same eF qs vs,h8.same eF rs ys⟩
 |ol BR=>
  obtain⟨p,as,h1,h2,h3,h4⟩:=h
  refine⟨p,as,h1,eF _ _ h2,h3,rH h4 λb ps hb ⟨vs,k1,k2,k3,k4⟩=>?_⟩
  obtain⟨e1,e2⟩:=eH b _ ⟨_,h1,p,as,rfl,h2,hb⟩ k1 k2 k3
  exact⟨vs,e1,e2,k3,k4.same eF ps vs⟩
def ő.owned{s:Slot}{y:V}(h:ő K c F H (some y) s)(ha:s.at_ F y a):∃u,H a=some u/\F a=none/\c.B a=none:=by
 cases s with
 |no=>exact ha.elim
 |sh p=>exact ha.elim
 |bw ps=>exact ha.elim
 |bd t kvs=>exact ha.elim
 |od t kvs=>
  obtain⟨b,u,h1,h2,h3,h4,h5⟩:=h
  rw[show y=.ref a from ha] at h1
  cases h1
  exact⟨_,h2,h3,h4⟩
 |ow ps=>
  obtain⟨b,vs,h1,h2,h3,h4,h5⟩:=h
  rw[show y=.ref a from ha] at h1
  cases h1
  exact⟨_,h2,h3,h4⟩
 |rc C ns ps=>
  obtain⟨b,dx,fs,h1,h2,h3,h4,h5,h6⟩:=h
  rw[show y=.ref a from ha] at h1
  cases h1
  exact⟨_,h2,h3,h4⟩
 |ot ps qs rs=>
  obtain⟨p,b,xs,vs,ys,h1,h2,h3,h4,h5,h6,h7,h8⟩:=h
  cases h1
  cases jE (ps:=ps) (qs:=qs) (rs:=rs) ha ⟨p,xs,ys,rfl,h2,h3.length.symm⟩
  exact⟨_,h4,h5,h6⟩
 |ol BR=>
  obtain⟨p,as,h1,h2,h3,h4⟩:=h
  cases h1
  obtain⟨q,bs,e1,e2,e3⟩:=ha
  cases e1
  rw[h2] at e2
  have e:as=bs:=jY (by injection e2 with e2;injection e2)
  subst e
  obtain⟨ps,_,vs,k1,k2,k3,_⟩:=BW h4 e3
  exact⟨_,k1,k2,k3⟩
def ő.back{s:Slot}{y:V}(h:ő K c F H (some y) s)(e:Same F F')(ha:s.at_ F' y a):s.at_ F y a:=by
 cases s with
 |ot ps qs rs=>
  obtain⟨p,b,xs,vs,ys,h1,h2,h3,h4,h5,h6,h7,h8⟩:=h
  cases h1
  cases jE (ps:=ps) (qs:=qs) (rs:=rs) ha ⟨p,xs,ys,rfl,e _ _ h2,h3.length.symm⟩
  exact⟨p,xs,ys,rfl,h2,h3.length.symm⟩
 |ol BR=>
  obtain⟨p,as,h1,h2,h3,h4⟩:=h
  cases h1
  obtain⟨q,bs,e1,e2,e3⟩:=ha
  cases e1
  rw[e _ _ h2] at e2
  have z:as=bs:=jY (by injection e2 with e2;injection e2)
  subst z
  exact⟨p,as,rfl,h2,e3⟩
 |_=>exact ha
def BX{i:Nat}{x:V}(e:σ[i]?=some (some x)):(σ[i]?).getD none=some x:=by rw[e];rfl
def BZ{i:Nat}{x:V}(e:(σ[i]?).getD none=some x):σ[i]?=some (some x):=by
 cases q:σ[i]? with
 |none=>rw[q] at e;cases e
 |some y=>rw[q] at e;exact congrArg some e
theorem Rel.owned(r:Rel K c F H σ ρ){i:Nat}(h:ĵ F σ ρ i a):(∃u,H a=some u)/\F a=none/\c.B a=none:=by
 obtain⟨s,x,h1,h2,h3⟩:=h
 have q:=r.slot i s h1
 rw[BX h2] at q
 obtain⟨u,q⟩:=q.owned h3
 exact⟨⟨u,q.1⟩,q.2⟩
theorem Rel.back(r:Rel K c F H σ ρ)(e:Same F F'){i:Nat}(h:ĵ F' σ ρ i a):ĵ F σ ρ i a:=by
 obtain⟨s,x,h1,h2,h3⟩:=h
 have q:=r.slot i s h1
 rw[BX h2] at q
 exact⟨s,x,h1,h2,q.back e h3⟩
def Rel.Qw(r:Rel K c F H σ ρ)(e:Same F F'):∀i j a,ĵ F' σ ρ i a->ĵ F' σ ρ j a->i=j:=λi j a h1 h2=>r.sep i j a (r.back e h1) (r.back e h2)
def Rel.pO(r:Rel K c F H σ ρ)(e:Same F F')(h:iQ F σ ρ a):iQ F' σ ρ a:=λi q=>h i (r.back e q)
def Rel.fresh(r:Rel K c F H σ ρ)(h:H a=none):iQ F σ ρ a:=λi q=>by
 obtain⟨⟨u,e⟩,_⟩:=r.owned q
 rw[h] at e;cases e
def Rel.alloc(r:Rel K c F H σ ρ)(h:H a=none):Rel K c (upd F a o) (upd H a o) σ ρ where
 sub:=λb u e=>by
  by_cases hb:b=a
  ·subst hb;rw[ē] at e ⊢;exact e
  ·rw[č hb] at e ⊢;exact r.sub b u e
 base:=λb u e=>by
  have hb:b≠a:=λz=>by rw[z] at e;rw[r.base _ _ e] at h;cases h
  rw[č hb];exact r.base b u e
 f0:=fun b u e=>by
   have hb:b≠a:=λz=>by rw[z] at e;rw[r.sub _ _ (r.f0 _ _ e)] at h;cases h
   rw[č hb];exact r.f0 b u e
 b_:=λb h1 h2=>by
  have hb:b≠a:=λz=>by
   subst z
   cases q:c.B b with
   |none=>exact h1 q
   |some u=>rw[r.base _ _ q] at h;cases h
  rw[č hb];exact r.b_ b h1 h2
 lent:=λb u e=>by
  obtain⟨h1,h2⟩:=r.lent b u e
  have hb:b≠a:=λz=>by rw[z,h] at h1;cases h1
  rw[č hb,č hb];exact⟨h1,h2⟩
 lb:=r.lb
 len:=r.len
 slot:=λi s e=>by
  have hF:F a=none:=r.sub.free h
  refine(r.slot i s e).grow (Same.upd hF) λb u _ h1 h2 h3=>?_
  have hb:b≠a:=λz=>by rw[z,h] at h1;cases h1
  rw[č hb,č hb];exact⟨h1,h2⟩
 sep:=r.Qw (Same.upd (r.sub.free h))
def Rel.made(r:Rel K c F H σ ρ)(h:H a=none):Rel K c F (upd H a o) σ ρ where
 sub:=r.sub.trans (Same.upd h)
 base:=r.base.trans (Same.upd h)
 f0:=r.f0
 b_:=r.b_
 lent:=λb u e=>⟨Same.upd h b u (r.lent b u e).1,(r.lent b u e).2⟩
 lb:=r.lb
 len:=r.len
 slot:=λi s e=>(r.slot i s e).grow (Same.refl F) λb u _ h1 h2 h3=>⟨Same.upd h b u h1,h2⟩
 sep:=r.sep
def Rel.freeze(r:Rel K c F H σ ρ)(h:H a=some o)(hB:c.B a=none)(hF:F a=none)(hf:iQ F σ ρ a):Rel K c (upd F a o) H σ ρ where
 sub:=λb u e=>by
  by_cases hb:b=a
  ·subst hb;rw[ē] at e;rw[h];exact e
  ·rw[č hb] at e;exact r.sub b u e
 base:=r.base
 f0:=r.f0.trans (Same.upd hF)
 b_:=λb h1 h2=>by
  have hb:b≠a:=λz=>h1 (by rw[z];exact hB)
  rw[č hb];exact r.b_ b h1 h2
 lent:=λb u e=>by
  have hb:b≠a:=λz=>by rw[z,r.lb a hB] at e;cases e
  rw[č hb];exact r.lent b u e
 lb:=r.lb
 len:=r.len
 slot:=λi s e=>(r.slot i s e).grow (Same.upd hF) λb' u' ⟨y,e1',ha⟩ h1 h2 h3=>by
  have hb:b'≠a:=λz=>by
   subst z
   exact hf i ⟨s,y,e,BZ e1',ha⟩
  rw[č hb];exact⟨h1,h2⟩
 sep:=r.Qw (Same.upd hF)
def ŧ{α:Type}{l:List α}{i j:Nat}{x y:α}(h:(l.set i x)[j]?=some y):(j=i/\y=x/\i<l.length)\/(j≠i/\l[j]?=some y):=by
 by_cases hj:j=i
 ·subst hj
  have hl:j<l.length:=by
   have:=(List.getElem?_eq_some_iff.mp h).1
   simpa using this
  rw[List.getElem?_set_self hl] at h
  exact .inl ⟨rfl,(Option.some.inj h).symm,hl⟩
 ·rw[List.getElem?_set_ne (Ne.symm hj)] at h
  exact .inr ⟨hj,h⟩
def B_{l:L2.St}{i:Nat}{x:Option V}(h:i<l.length):((l.set i x)[i]?).getD none=x:=by rw[List.getElem?_set_self h];rfl
def wN{l:L2.St}{i j:Nat}{x:Option V}(h:j≠i):((l.set i x)[j]?).getD none=(l[j]?).getD none:=by rw[List.getElem?_set_ne (Ne.symm h)]
def ĵ.off{i j:Nat}{x:Option V}{s:Slot}(h:ĵ F (σ.set i x) (ρ.set i s) j a)(hj:j≠i):ĵ F σ ρ j a:=by
 obtain⟨s',y,h1,h2,h3⟩:=h
 rw[List.getElem?_set_ne (Ne.symm hj)] at h1 h2
 exact⟨s',y,h1,h2,h3⟩
def Rel.put(r:Rel K c F H σ ρ){i:Nat}{x:Option V}{s:Slot}(hs:s.own=false)(h:ő K c F H x s):Rel K c F H (σ.set i x) (ρ.set i s) where
 sub:=r.sub
 base:=r.base
 f0:=r.f0
 b_:=r.b_
 lent:=r.lent
 lb:=r.lb
 len:=by simpa using r.len
 slot:=λj s' e=>by
  rcases ŧ e with⟨rfl,rfl,hl⟩|⟨hj,e⟩
  ·rw[B_ (by rw[r.len];exact hl)];exact h
  ·rw[wN hj];exact r.slot j s' e
 sep:=λj k b h1 h2=>by
  have off:∀{j},ĵ F (σ.set i x) (ρ.set i s) j b->j≠i:=fun{j} q z=>by
   subst z
   obtain⟨s',y,q1,_,q2⟩:=q
   rcases ŧ q1 with⟨_,rfl,_⟩|⟨q,_⟩
   ·have:=jX q2;rw[hs] at this;cases this
   ·exact q rfl
  exact r.sep j k b (h1.off (off h1)) (h2.off (off h2))
def Rel.JH(r:Rel K c F H σ ρ){i:Nat}{s:Slot}(hs:s.own=false)(h:ő K c F H ((σ[i]?).getD none) s):Rel K c F H σ (ρ.set i s) where
 sub:=r.sub
 base:=r.base
 f0:=r.f0
 b_:=r.b_
 lent:=r.lent
 lb:=r.lb
 len:=by simpa using r.len
 slot:=λj s' e=>by
  rcases ŧ e with⟨rfl,rfl,hl⟩|⟨hj,e⟩
  ·exact h
  ·exact r.slot j s' e
 sep:=λj k b h1 h2=>by
  have off:∀{j},ĵ F σ (ρ.set i s) j b->ĵ F σ ρ j b:=fun{j} ⟨s',y,q1,q3,q2⟩=>by
   rcases ŧ q1 with⟨_,rfl,_⟩|⟨_,q⟩
   ·have:=jX q2;rw[hs] at this;cases this
   ·exact⟨s',y,q,q3,q2⟩
  exact r.sep j k b (off h1) (off h2)
def Rel.zy(r:Rel K c F H σ ρ){i:Nat}{x:V}{s:Slot}(h:ő K c F H (some x) s)(hf:∀a,s.at_ F x a->iQ F σ ρ a):Rel K c F H (σ.set i (some x)) (ρ.set i s) where
 sub:=r.sub
 base:=r.base
 f0:=r.f0
 b_:=r.b_
 lent:=r.lent
 lb:=r.lb
 len:=by simpa using r.len
 slot:=λj s' e=>by
  rcases ŧ e with⟨rfl,rfl,hl⟩|⟨hj,e⟩
  ·rw[B_ (by rw[r.len];exact hl)];exact h
  ·rw[wN hj];exact r.slot j s' e
 sep:=λj k b h1 h2=>by
  have Qx:∀{j},ĵ F (σ.set i (some x)) (ρ.set i s) j b->(j=i/\s.at_ F x b)\/(j≠i/\ĵ F σ ρ j b):=fun{j} q=>by
   by_cases hj:j=i
   ·subst hj
    obtain⟨s',y,q1,q2,q3⟩:=q
    rcases ŧ q2 with⟨_,e,_⟩|⟨z,_⟩
    ·cases e
     rcases ŧ q1 with⟨_,e,_⟩|⟨z,_⟩
     ·cases e
      exact .inl ⟨rfl,q3⟩
     ·exact absurd rfl z
    ·exact absurd rfl z
   ·exact .inr ⟨hj,q.off hj⟩
  rcases Qx h1 with⟨e1,z1⟩|⟨e1,o1⟩
  ·rcases Qx h2 with⟨e2,z2⟩|⟨e2,o2⟩
   ·rw[e1,e2]
   ·exact absurd o2 (hf b z1 k)
  ·rcases Qx h2 with⟨e2,z2⟩|⟨e2,o2⟩
   ·exact absurd o1 (hf b z2 j)
   ·exact r.sep j k b o1 o2
def Rel.pP(r:Rel K c F H σ ρ){i:Nat}{s:Slot}(ho:ĵ F σ ρ i a)(h:ő K c F (upd H a o) ((σ[i]?).getD none) s)(hs:∀x b,σ[i]?=some (some x)->s.at_ F x b->ĵ F σ ρ i b):Rel K c F (upd H a o) σ (ρ.set i s) where
 sub:=λb u e=>by
  have hb:b≠a:=λz=>by rw[z,(r.owned ho).2.1] at e;cases e
  rw[č hb];exact r.sub b u e
 base:=λb u e=>by
  have hb:b≠a:=λz=>by rw[z,(r.owned ho).2.2] at e;cases e
  rw[č hb];exact r.base b u e
 f0:=r.f0
 b_:=r.b_
 lent:=λb u e=>by
  have hb:b≠a:=λz=>by rw[z,r.lb a (r.owned ho).2.2] at e;cases e
  rw[č hb];exact r.lent b u e
 lb:=r.lb
 len:=by simpa using r.len
 slot:=λj s' e=>by
  rcases ŧ e with⟨rfl,rfl,hl⟩|⟨hj,e⟩
  ·exact h
  ·refine(r.slot j s' e).grow (Same.refl F) λb u ⟨y,e1,e2⟩ h1 h2 h3=>?_
   have hb:b≠a:=λz=>by
    subst z
    exact hj (r.sep j i b ⟨s',y,e,BZ e1,e2⟩ ho)
   exact⟨by rw[č hb];exact h1,h2⟩
 sep:=λj k b h1 h2=>by
  have off:∀{j},ĵ F σ (ρ.set i s) j b->ĵ F σ ρ j b:=fun{j} ⟨s',y,q1,q3,q2⟩=>by
   rcases ŧ q1 with⟨e,rfl,_⟩|⟨_,q⟩
   ·subst e
    exact hs y b q3 q2
   ·exact⟨s',y,q,q3,q2⟩
  exact r.sep j k b (off h1) (off h2)
def Rel.write(r:Rel K c F H σ ρ){i:Nat}{s:Slot}(ho:ĵ F σ ρ i a)(hx:σ[i]?=some (some (.ref a)))(h:ő K c F (upd H a o) (some (.ref a)) s)(hs:∀b,s.at_ F (.ref a) b->b=a):Rel K c F (upd H a o) σ (ρ.set i s):=
 r.pP ho (by rw[hx];exact h) λx b e q=>by rw[hx] at e;cases e;rw[hs b q];exact ho
structure Gr(F H F' H':Hp):Prop where
 h:Same H H'
 f:Same F F'
 sub:Same F' H'
 out:∀a,H a≠none->F a=none->F' a=none
def Rel.call(r:Rel K c F H σ ρ)(g:Gr F H F' H'):Rel K c F' H' σ ρ where
 sub:=g.sub
 base:=r.base.trans g.h
 f0:=r.f0.trans g.f
 b_:=λb h1 h2=>by
  refine g.out b (λz=>h1 ?_) (r.b_ b h1 h2)
  cases q:c.B b with
  |none=>rfl
  |some u=>rw[r.base _ _ q] at z;cases z
 lent:=λb u e=>⟨g.h b u (r.lent b u e).1,g.out b (by rw[(r.lent b u e).1];intro z;cases z) (r.lent b u e).2⟩
 lb:=r.lb
 len:=r.len
 slot:=λi s e=>(r.slot i s e).grow g.f λb u _ h1 h2 h3=>⟨g.h b u h1,g.out b (by rw[h1];intro z;cases z) h2⟩
 sep:=r.Qw g.f
def ctx0(F H:Hp):Ctx:=⟨H,F,λa=>match F a with
 |none=>H a
 |some _=>none,λ_ _ _=>True⟩
def bC{a:Addr}{u:HO}(h:(ctx0 F H).L a=some u):H a=some u/\F a=none:=by
 unfold ctx0 at h
 dsimp only at h
 cases q:F a with
 |none=>rw[q] at h;exact⟨h,rfl⟩
 |some o=>rw[q] at h;cases h
def Rel.gr(r:Rel K (ctx0 F H) F' H' σ ρ):Gr F H F' H':=⟨r.base,r.f0,r.sub,r.b_⟩
def ſ(K:KK)(F H:Hp):Slot->V->Prop
 | .sh p,v=>Rep K F p v
 | .bw ps,v=>∃a vs,v=.ref a/\H a=some (.lst vs)/\F a=none/\ĉ K F ps vs
 |_,_=>False
def ſ.slot{s:Slot}{v:V}(h:ſ K F H s v):ő K (ctx0 F H) F H (some v) s/\s.own=false:=by
 cases s with
 |sh p=>exact⟨⟨v,rfl,h⟩,rfl⟩
 |bw ps=>
  obtain⟨a,vs,rfl,h1,h2,h3⟩:=h
  refine⟨⟨a,vs,rfl,?_,h3⟩,rfl⟩
  show(match F a with|none=>H a|some _=>none)=_
  rw[h2]
  exact h1
 |no=>exact h.elim
 |ow ps=>exact h.elim
 |rc C ns ps=>exact h.elim
 |ot ps qs rs=>exact h.elim
 |ol BR=>exact h.elim
 |od t kvs=>exact h.elim
 |bd t kvs=>exact h.elim
def startP(n:Nat)(as:List Slot):ĸ:=as++List.replicate (n-as.length) .no
theorem Rel.start{N:List Str}{as:List Slot}{vs:List V}(s:Same F H)(h:Paired (ſ K F H) as vs):Rel K (ctx0 F H) F H (L2.start N vs) (startP N.length as) where
 sub:=s
 base:=Same.refl H
 f0:=Same.refl F
 b_:=λ_ _ h=>h
 lent:=λ_ _ e=>bC e
 lb:=fun a e=>by
   cases q:(ctx0 F H).L a with
   |none=>rfl
   |some u=>
    have e':H a=none:=e
    rw[(bC q).1] at e'
    cases e'
 len:=by unfold L2.start startP;simp[Paired.length h]
 slot:=λi s' e=>by
  unfold startP at e
  by_cases hi:i<as.length
  ·rw[List.getElem?_append_left hi] at e
   obtain⟨v,h1,h2⟩:=bB h e
   have hv:((L2.start N vs)[i]?).getD none=some v:=by
    unfold L2.start
    rw[List.getElem?_append_left (by simpa[<-Paired.length h] using hi),List.getElem?_map,h1];rfl
   rw[hv]
   exact(ſ.slot h2).1
  ·rw[List.getElem?_append_right (by omega),List.getElem?_replicate] at e
   split at e
   ·cases e;trivial
   ·cases e
 sep:=λi j a h1 _=>by
  obtain⟨s',y,h1,_,h2⟩:=h1
  have h2:=jX h2
  exfalso
  unfold startP at h1
  by_cases hi:i<as.length
  ·rw[List.getElem?_append_left hi] at h1
   obtain⟨v,_,h3⟩:=bB h h1
   rw[(ſ.slot h3).2] at h2
   cases h2
  ·rw[List.getElem?_append_right (by omega),List.getElem?_replicate] at h1
   split at h1
   ·cases h1;cases h2
   ·cases h1
end
structure PX where
 C:String
 ns:List Str
 ps:List PV
def HD(K:KK)(F:Hp)(x:PX)(C:Value)(d:Option Addr):Prop:=C=.ref (K.cm x.C)/\∃fs,rG F d fs/\fs.map (·.1)=x.ns/\ĉ K F x.ps (fs.map (·.2))
inductive Res(α:Type) where
 |ok (a:α) (ρ:ĸ)|exc (x:PX) (ρ:ĸ)|bad
def Res.bind{α β:Type}(r:Res α)(f:α->ĸ->Res β):Res β:= match r with
 | .ok a ρ=>f a ρ
 | .exc x ρ=>.exc x ρ
 | .bad=>.bad
@[simp] theorem Res.wO{α β:Type}{a:α}{ρ:ĸ}{f:α->ĸ->Res β}:(Res.ok a ρ).bind f=f a ρ:= rfl
@[simp] theorem Res.VB{α β:Type}{x:PX}{ρ:ĸ}{f:α->ĸ->Res β}:(Res.exc x ρ:Res α).bind f=.exc x ρ:= rfl
@[simp] theorem Res.VD{α β:Type}{f:α->ĸ->Res β}:(Res.bad:Res α).bind f=.bad:=rfl
def Res.iR{α:Type}(o:Option α)(ρ:ĸ):Res α:= match o with
 |some a=>.ok a ρ
 |none=>.bad
@[simp] theorem Res.VF{α:Type}{a:α}{ρ:ĸ}:Res.iR (some a) ρ=.ok a ρ:= rfl
@[simp] theorem Res.VG{α:Type}{ρ:ĸ}:Res.iR (none:Option α) ρ=.bad:=rfl
abbrev M(α:Type):=ĸ->Res α
inductive RV where
 |sh (p:PV)|ow (ps:List PV)|ot (ps qs rs:List PV)
def RV.val:RV->PV
 | .sh p=>p
 | .ow ps=>.lst ps
 | .ot ps qs rs=>.tup (ps ++ .lst qs::rs)
def RV.slot:RV->Slot
 | .sh p=>.sh p
 | .ow ps=>.ow ps
 | .ot ps qs rs=>.ot ps qs rs
abbrev RR(α β:Type):=Ctx->L2.St->ĸ->Hp->Hp->α->β->Prop
def rV(K:KK):RR PV V:=λ_ _ _ F _ p v=>Rep K F p v
def wQ(K:KK)(F H:Hp)(p:PV)(v:V):Prop:=match p with
 | .lst ps=>∃a vs,v=.ref a/\H a=some (.lst vs)/\ĉ K F ps vs
 | .ins C ns ps=>∃a dx fs,v=.ref a/\H a=some (.ins (K.cm C) dx fs)/\fs.map (·.1)=ns/\ĉ K F ps (fs.map (·.2))
 |_=>False
def rR(K:KK):RR PV V:=λ_ _ _ F H p v=>Rep K F p v\/wQ K F H p v
def rA(K:KK):RR (List Slot) (List V):=λ_ _ _ F H as vs=>Paired (ſ K F H) as vs
def Held(K:KK)(c:Ctx)(σ:L2.St)(ρ:ĸ)(F H:Hp)(ps:List PV)(v:V):Prop:=∃a vs,v=.ref a/\H a=some (.lst vs)/\F a=none/\c.B a=none/\iQ F σ ρ a/\ĉ K F ps vs
def wR(K:KK)(c:Ctx)(σ:L2.St)(ρ:ĸ)(F H:Hp)(ps qs rs:List PV)(v:V):Prop:=∃p a xs vs ys,v=.ref p/\F p=some (.tup (xs ++ .ref a::ys))/\ĉ K F ps xs/\H a=some (.lst vs)/\F a=none/\c.B a=none/\iQ F σ ρ a/\ĉ K F qs vs/\ĉ K F rs ys
def rO(K:KK):RR RV V:=λc σ ρ F H r v=>match r with
 | .sh p=>Rep K F p v
 | .ow ps=>Held K c σ ρ F H ps v
 | .ot ps qs rs=>wR K c σ ρ F H ps qs rs v
def rL(K:KK):RR (List PV) (List V):=λ_ _ _ F _ p v=>ĉ K F p v
def VH(K:KK):RR (List PV) (List V):=λc σ ρ F H p v=>Paired (rR K c σ ρ F H) p v
def rB:RR Bool Bool:=λ_ _ _ _ _ p v=>p=v
def rI:RR (Option Int) (Option Int):=λ_ _ _ _ _ p v=>p=v
def ż{α β:Type}(K:KK)(E:L2.St->XK)(R:RR α β)(c:Ctx)(F H:Hp)(σ:L2.St)(Q:β->Hp->Prop):Res α->Prop
 | .ok p ρ'=>∀v F' H',Rel K c F' H' σ ρ'->Same F F'->Same H H'->R c σ ρ' F' H' p v->Q v H'
 | .exc x ρ'=>∀C d F' H',Rel K c F' H' σ ρ'->Same F F'->HD K F' x C d->E σ C d H'
 | .bad=>False
def tG{α β:Type}(K:KK)(E:L2.St->XK)(R:RR α β)(m:M α):L2.St->Hp->(β->Hp->Prop)->Prop:=λσ H Q=>∃c F ρ,Rel K c F H σ ρ/\ż K E R c F H σ Q (m ρ)
section
variable{α β α' β':Type}{K:KK}{E:L2.St->XK}{R:RR α β}{R':RR α' β'}{c:Ctx}{F F1 H H1:Hp}{σ:L2.St}
def ż.mono{Q:β->Hp->Prop}{r:Res α}(h:ż K E R c F H σ Q r)(sF:Same F F1)(sH:Same H H1):ż K E R c F1 H1 σ Q r:=by
 cases r with
 |ok p ρ'=>exact λv F' H' rel s1 s2 q=>h v F' H' rel (sF.trans s1) (sH.trans s2) q
 |exc x ρ'=>exact λC d F' H' rel s1 q=>h C d F' H' rel (sF.trans s1) q
 |bad=>exact h
theorem ż.bind{Q:β->Hp->Prop}{Q':β'->Hp->Prop}{r:Res α}{f:α->ĸ->Res α'}(h:ż K E R' c F H σ Q' (r.bind f))
 (k:∀p ρ1 v F1 H1,Rel K c F1 H1 σ ρ1->Same F F1->Same H H1->R c σ ρ1 F1 H1 p v->ż K E R' c F1 H1 σ Q' (f p ρ1)->Q v H1):ż K E R c F H σ Q r:=by
 cases r with
 |ok p ρ'=>exact λv F' H' rel s1 s2 q=>k p ρ' v F' H' rel s1 s2 q (ż.mono (show ż K E R' c F H σ Q' (f p ρ') from h) s1 s2)
 |exc x ρ'=>exact h
 |bad=>exact h
theorem ż.rel{R2:RR α β}{Q:β->Hp->Prop}{r:Res α}(h:ż K E R c F H σ Q r)(k:∀p ρ' v F' H',Rel K c F' H' σ ρ'->R2 c σ ρ' F' H' p v->R c σ ρ' F' H' p v):ż K E R2 c F H σ Q r:=by
 cases r with
 |ok p ρ'=>exact λv F' H' rel s1 s2 q=>h v F' H' rel s1 s2 (k p ρ' v F' H' rel q)
 |exc x ρ'=>exact h
 |bad=>exact h
end
abbrev tV(K:KK)(E:L2.St->XK)(m:M PV):TE:=tG K E (rV K) m
abbrev tR(K:KK)(E:L2.St->XK)(m:M PV):TE:=tG K E (rR K) m
abbrev tO(K:KK)(E:L2.St->XK)(m:M RV):TE:=tG K E (rO K) m
abbrev tL(K:KK)(E:L2.St->XK)(m:M (List PV)):TA:=tG K E (rL K) m
abbrev tA(K:KK)(E:L2.St->XK)(m:M (List Slot)):TA:=tG K E (rA K) m
abbrev JK(K:KK)(E:L2.St->XK)(m:M (List PV)):TA:=tG K E (VH K) m
abbrev tB(K:KK)(E:L2.St->XK)(m:M Bool):TT:=tG K E rB m
inductive Fl where
 |nx|bk|ct|rt (r:RV)
def Ř(K:KK)(E:L2.St->XK)(c:Ctx)(F:Hp)(D:Ends):Res Fl->Prop
 | .ok .nx ρ'=>∀σ' F' H',Rel K c F' H' σ' ρ'->Same F F'->D.nx σ' H'
 | .ok .bk ρ'=>∀σ' F' H',Rel K c F' H' σ' ρ'->Same F F'->D.bk σ' H'
 | .ok .ct ρ'=>∀σ' F' H',Rel K c F' H' σ' ρ'->Same F F'->D.ct σ' H'
 | .ok (.rt r) ρ'=>∀v σ' F' H',Rel K c F' H' σ' ρ'->Same F F'->rO K c σ' ρ' F' H' r v->D.rt v H'
 | .exc x ρ'=>∀σ' C d F' H',Rel K c F' H' σ' ρ'->Same F F'->HD K F' x C d->E σ' C d H'
 | .bad=>False
def tS(K:KK)(E:L2.St->XK)(m:M Fl):TS:=λD σ H=>∃c F ρ,Rel K c F H σ ρ/\Ř K E c F D (m ρ)
section
variable{K:KK}{E:L2.St->XK}{c:Ctx}{F F1:Hp}{D:Ends}
def Ř.mono{r:Res Fl}(h:Ř K E c F D r)(sF:Same F F1):Ř K E c F1 D r:=by
 cases r with
 |ok f ρ'=>
  cases f with
  |rt v=>exact λv σ' F' H' rel s1 q=>h v σ' F' H' rel (sF.trans s1) q
  |nx=>exact λσ' F' H' rel s1=>h σ' F' H' rel (sF.trans s1)
  |bk=>exact λσ' F' H' rel s1=>h σ' F' H' rel (sF.trans s1)
  |ct=>exact λσ' F' H' rel s1=>h σ' F' H' rel (sF.trans s1)
 |exc x ρ'=>exact λσ' C d F' H' rel s1 q=>h σ' C d F' H' rel (sF.trans s1) q
 |bad=>exact h
theorem Ř.bind{α β:Type}{R:RR α β}{σ:L2.St}{H:Hp}{Q:β->Hp->Prop}{r:Res α}{f:α->ĸ->Res Fl}(h:Ř K E c F D (r.bind f))
 (k:∀p ρ1 v F1 H1,Rel K c F1 H1 σ ρ1->Same F F1->R c σ ρ1 F1 H1 p v->Ř K E c F1 D (f p ρ1)->Q v H1):ż K E R c F H σ Q r:=by
 cases r with
 |ok p ρ'=>exact λv F' H' rel s1 s2 q=>k p ρ' v F' H' rel s1 q (Ř.mono (show Ř K E c F D (f p ρ') from h) s1)
 |exc x ρ'=>exact λC d F' H' rel s1 q=>h σ C d F' H' rel s1 q
 |bad=>exact h
end
end P
namespace P
open PySem PySem.Spec PyProof.Rows L2 M2
def Ď(i:Nat):M PV:=λρ=>match ρ[i]? with
 |some (.sh p)=>.ok p ρ
 |some (.ow ps)=>.ok (.lst ps) (ρ.set i (.sh (.lst ps)))
 |_=>.bad
def ā(i:Nat):M PV:=λρ=>match ρ[i]? with
 |some (.sh p)=>.ok p ρ
 |some (.ow ps)=>.ok (.lst ps) ρ
 |some (.bw ps)=>.ok (.lst ps) ρ
 |some (.rc C ns ps)=>.ok (.ins C ns ps) ρ
 |_=>.bad
def fM(i:Nat):M RV:=λρ=>match ρ[i]? with
 |some (.sh p)=>.ok (.sh p) ρ
 |some (.ow ps)=>.ok (.ow ps) (ρ.set i .no)
 |_=>.bad
def mC(p:PV):M PV:=λρ=>.ok p ρ
def Ŕ(m:M PV):M RV:=λρ=>(m ρ).bind λp ρ1=>.ok (.sh p) ρ1
def ĕ(m:M RV):M PV:=λρ=>(m ρ).bind λr ρ1=>.ok r.val ρ1
section
variable{K:KK}{c:Ctx}{F H:Hp}{σ:L2.St}{ρ:ĸ}
def at_of{i:Nat}{x:V}(h:(σ[i]?).getD none=some x):σ[i]?=some (some x):=by
 cases q:σ[i]? with
 |none=>rw[q] at h;cases h
 |some y=>rw[q] at h;exact congrArg some h
theorem Rel.ow(r:Rel K c F H σ ρ){i:Nat}{ps:List PV}(e:ρ[i]?=some (.ow ps)):∃a vs,σ[i]?=some (some (.ref a))/\H a=some (.lst vs)/\F a=none/\c.B a=none/\ĉ K F ps vs/\ĵ F σ ρ i a:=by
 obtain⟨a,vs,h1,h2,h3,h4,h5⟩:=r.slot i _ e
 exact⟨a,vs,at_of h1,h2,h3,h4,h5,⟨_,_,e,at_of h1,rfl⟩⟩
def Rel.move(r:Rel K c F H σ ρ){i:Nat}{a:Addr}(h:ĵ F σ ρ i a):Rel K c F H σ (ρ.set i .no)/\iQ F σ (ρ.set i .no) a:=by
 refine⟨r.JH rfl trivial,λj ⟨s,y,q1,q3,q2⟩=>?_⟩
 rcases ŧ q1 with⟨_,rfl,_⟩|⟨hj,q⟩
 ·exact q2.elim
 ·exact hj (r.sep j i a ⟨s,y,q,q3,q2⟩ h)
def Rel.share(r:Rel K c F H σ ρ){i:Nat}{ps:List PV}(e:ρ[i]?=some (.ow ps)):∃a vs,σ[i]?=some (some (.ref a))/\F a=none/\Rep K (upd F a (.lst vs)) (.lst ps) (.ref a)/\Rel K c (upd F a (.lst vs)) H σ (ρ.set i (.sh (.lst ps))):=by
 obtain⟨a,vs,h1,h2,h3,h4,h5,ho⟩:=r.ow e
 obtain⟨m1,m2⟩:=r.move ho
 have rp:Rep K (upd F a (.lst vs)) (.lst ps) (.ref a):=by
  unfold Rep
  exact⟨a,vs,rfl,Ţ.of ē,h5.same (Same.upd h3) ps vs⟩
 have q:=(m1.freeze h2 h4 h3 m2).JH (i:=i) (s:=.sh (.lst ps)) rfl (show ő K c _ H _ (.sh (.lst ps)) from⟨.ref a,by rw[h1];rfl,rp⟩)
 rw[List.set_set] at q
 exact⟨a,vs,h1,h3,rp,q⟩
def wQ.mono{F1 H1:Hp}{p:PV}{v:V}(h:wQ K F H p v)(sF:Same F F1)(sH:Same H H1):wQ K F1 H1 p v:=by
 cases p with
 |lst ps=>
  obtain⟨a,vs,h2,h3,h4⟩:=h
  exact⟨a,vs,h2,sH _ _ h3,h4.same sF ps vs⟩
 |ins C ns ps=>
  obtain⟨a,dx,fs,h2,h3,h4,h5⟩:=h
  exact⟨a,dx,fs,h2,sH _ _ h3,h4,h5.same sF ps _⟩
 |_=>exact h.elim
theorem rR.mono{c:Ctx}{σ:L2.St}{ρ ρ':ĸ}{F1 H1:Hp}{p:PV}{v:V}(h:rR K c σ ρ F H p v)(sF:Same F F1)(sH:Same H H1):rR K c σ ρ' F1 H1 p v:=by
 rcases h with h|h
 ·exact .inl (h.same sF p v)
 ·exact .inr (h.mono sF sH)
theorem rR.lst{c:Ctx}{σ:L2.St}{ρ:ĸ}{ps:List PV}{v:V}(s:Same F H)(h:rR K c σ ρ F H (.lst ps) v):∃a vs,v=.ref a/\Ţ K.K H a vs/\ĉ K F ps vs:=by
 rcases h with h|⟨a,vs,h2,h3,h4⟩
 ·unfold Rep at h
  obtain⟨a,xs,h1,h2,h3⟩:=h
  exact⟨a,xs,h1,s.seq h2,h3⟩
 ·exact⟨a,vs,h2,Ţ.of h3,h4⟩
theorem rR.tup{c:Ctx}{σ:L2.St}{ρ:ĸ}{ps:List PV}{v:V}(s:Same F H)(h:rR K c σ ρ F H (.tup ps) v):∃a vs,v=.ref a/\bU K.K H a vs/\ĉ K F ps vs:=by
 rcases h with h|h
 ·unfold Rep at h
  obtain⟨a,xs,h1,h2,h3⟩:=h
  exact⟨a,xs,h1,bU.of (s _ _ h2),h3⟩
 ·exact h.elim
theorem rR.int{c:Ctx}{σ:L2.St}{ρ:ĸ}{i:Int}{v:V}(h:rR K c σ ρ F H (.int i) v):v=.int i:=by
 rcases h with h|h
 ·unfold Rep at h;exact h
 ·exact h.elim
theorem rR.str{c:Ctx}{σ:L2.St}{ρ:ĸ}{i:Str}{v:V}(h:rR K c σ ρ F H (.str i) v):v=.str i:=by
 rcases h with h|h
 ·unfold Rep at h;exact h
 ·exact h.elim
theorem rR.bl{c:Ctx}{σ:L2.St}{ρ:ĸ}{i:Bool}{v:V}(h:rR K c σ ρ F H (.bl i) v):v=.bl i:=by
 rcases h with h|h
 ·unfold Rep at h;exact h
 ·exact h.elim
theorem rR.non{c:Ctx}{σ:L2.St}{ρ:ĸ}{v:V}(h:rR K c σ ρ F H .non v):v=.non:=by
 rcases h with h|h
 ·unfold Rep at h;exact h
 ·exact h.elim
theorem rR.ty{c:Ctx}{σ:L2.St}{ρ:ĸ}{n:String}{v:V}(h:rR K c σ ρ F H (.ty n) v):v=.ty n:=by
 rcases h with h|h
 ·unfold Rep at h;exact h
 ·exact h.elim
theorem Rep.int{i:Int}:Rep K F (.int i) (.int i):=by unfold Rep;rfl
theorem Rep.str{i:Str}:Rep K F (.str i) (.str i):=by unfold Rep;rfl
theorem Rep.bl{i:Bool}:Rep K F (.bl i) (.bl i):=by unfold Rep;rfl
theorem Rep.non:Rep K F .non .non:=by unfold Rep;rfl
end
section
variable{X:Cx}{cm:String->Addr}{E:L2.St->XK}{a b e:Expr}{es:List Expr}{pos:Pos}{m ma mb mc:M PV}{mo:M RV}
def PT.wk{t t':TT}(h:PT X e t)(i:∀σ H Q,t' σ H Q->t σ H Q):PT X e t':=λpins s σ H Q I q=>h pins s σ H Q I (i σ H Q q)
def PA.wk{t t':TA}(h:PA X es t)(i:∀σ H Q,t' σ H Q->t σ H Q):PA X es t':=λpos pins s σ H Q I q=>h pos pins s σ H Q I (i σ H Q q)
def PW.wk{t t':TT}(h:PW X e t)(i:∀σ H Q,t' σ H Q->t σ H Q):PW X e t':=λwh pins s σ H Q I q=>h wh pins s σ H Q I (i σ H Q q)
def fB.wk{st:List Stmt}{t t':TS}(h:fB X st t)(i:∀D σ H,t' D σ H->t D σ H):fB X st t':=λpins s σ H D I q=>h pins s σ H D I (i D σ H q)
def v_var(i:Nat){x:Str}{pos:Pos}(hN:X.N[i]?=some x:=by rfl)(hv:wz X.env.scope x:=by first|exact Or.inl rfl|exact Or.inr (Or.inl rfl)|exact Or.inr (Or.inr rfl))(hd:(x== ("__debug__" :Str))=false:=by decide)
 (hcd:(x== ("__classdict__" :Str))=false:=by decide):PE X (.Name x pos) (tV (kk X cm) E (Ď i)):=PE.wk (aZ hN hv hd hcd) λσ H Q ⟨c,F,ρ,rel,h⟩=>by
 unfold Ď at h
 split at h
 ·rename_i p e
  obtain⟨v,h1,h2⟩:=rel.slot i _ e
  exact⟨v,at_of h1,h v F H rel (Same.refl F) (Same.refl H) h2⟩
 ·rename_i ps e
  obtain⟨a,vs,h1,h2,h3,h4⟩:=rel.share e
  exact⟨.ref a,h1,h _ _ H h4 (Same.upd h2) (Same.refl H) h3⟩
 ·exact h.elim
def Ă(i:Nat){x:Str}{pos:Pos}(hN:X.N[i]?=some x:=by rfl)(hv:wz X.env.scope x:=by first|exact Or.inl rfl|exact Or.inr (Or.inl rfl)|exact Or.inr (Or.inr rfl))(hd:(x== ("__debug__" :Str))=false:=by decide)
 (hcd:(x== ("__classdict__" :Str))=false:=by decide):PE X (.Name x pos) (tR (kk X cm) E (ā i)):=PE.wk (aZ hN hv hd hcd) λσ H Q ⟨c,F,ρ,rel,h⟩=>by
 unfold ā at h
 split at h
 ·rename_i p e
  obtain⟨v,h1,h2⟩:=rel.slot i _ e
  exact⟨v,at_of h1,h v F H rel (Same.refl F) (Same.refl H) (.inl h2)⟩
 ·rename_i ps e
  obtain⟨a,vs,h1,h2,h3,h4,h5,_⟩:=rel.ow e
  exact⟨.ref a,h1,h _ F H rel (Same.refl F) (Same.refl H) (.inr ⟨a,vs,rfl,h2,h5⟩)⟩
 ·rename_i ps e
  obtain⟨a,vs,h1,h2,h3⟩:=rel.slot i _ e
  exact⟨.ref a,at_of h1,h _ F H rel (Same.refl F) (Same.refl H) (.inr ⟨a,vs,rfl,(rel.lent a _ h2).1,h3⟩)⟩
 ·rename_i C ns ps e
  obtain⟨a,dx,fs,h1,h2,h3,h4,h5,h6⟩:=rel.slot i _ e
  exact⟨.ref a,at_of h1,h _ F H rel (Same.refl F) (Same.refl H) (.inr ⟨a,dx,fs,rfl,h2,h5,h6.1⟩)⟩
 ·exact h.elim
def ou(i:Nat){x:Str}{pos:Pos}(hN:X.N[i]?=some x:=by rfl)(hv:wz X.env.scope x:=by first|exact Or.inl rfl|exact Or.inr (Or.inl rfl)|exact Or.inr (Or.inr rfl))(hd:(x== ("__debug__" :Str))=false:=by decide)
 (hcd:(x== ("__classdict__" :Str))=false:=by decide):PE X (.Name x pos) (tO (kk X cm) E (fM i)):=PE.wk (aZ hN hv hd hcd) λσ H Q ⟨c,F,ρ,rel,h⟩=>by
 unfold fM at h
 split at h
 ·rename_i p e
  obtain⟨v,h1,h2⟩:=rel.slot i _ e
  exact⟨v,at_of h1,h v F H rel (Same.refl F) (Same.refl H) h2⟩
 ·rename_i ps e
  obtain⟨a,vs,h1,h2,h3,h4,h5,h6⟩:=rel.ow e
  obtain⟨m1,m2⟩:=rel.move h6
  exact⟨.ref a,h1,h _ F H m1 (Same.refl F) (Same.refl H) ⟨a,vs,rfl,h2,h3,h4,m2,h5⟩⟩
 ·exact h.elim
def JL{v:V}(p:PV)(h:PE X e (tC v))(hr:∀F,Rep (kk X cm) F p v:=by intro _;unfold Rep;rfl):PE X e (tV (kk X cm) E (mC p)):=PE.wk h λσ H Q ⟨c,F,ρ,rel,h⟩=>h v F H rel (Same.refl F) (Same.refl H) (hr F)
def ŏ{i j pos}:PE X (.Constant (.int i) j pos) (tV (kk X cm) E (mC (.int i))):=JL _ Ol
def pQ{i j pos}:PE X (.Constant (.bool i) j pos) (tV (kk X cm) E (mC (.bl i))):=JL _ Uy
def rJ{j pos}:PE X (.Constant .none j pos) (tV (kk X cm) E (mC .non)):=JL _ Om
def fO{x j pos}:PE X (.Constant (.str x) j pos) (tV (kk X cm) E (mC (.str x))):=JL _ Oo
def ġ(h:PE X e (tV (kk X cm) E m)):PE X e (tR (kk X cm) E m):=PE.wk h λσ H Q ⟨c,F,ρ,rel,h⟩=>⟨c,F,ρ,rel,h.rel λ_ _ _ _ _ _ q=>.inl q⟩
def bD(h:PE X e (tV (kk X cm) E m)):PE X e (tO (kk X cm) E (Ŕ m)):=PE.wk h λσ H Q ⟨c,F,ρ,rel,h⟩=>⟨c,F,ρ,rel,h.bind λp ρ1 v F1 H1 Ċ s1 s2 q h1=>h1 v F1 H1 Ċ (Same.refl _) (Same.refl _) q⟩
def Held.share{K:KK}{c:Ctx}{F H:Hp}{σ:L2.St}{ρ:ĸ}{ps:List PV}{v:V}(rel:Rel K c F H σ ρ)(h:Held K c σ ρ F H ps v):∃F1,Same F F1/\Rel K c F1 H σ ρ/\Rep K F1 (.lst ps) v:=by
 obtain⟨a,vs,rfl,h1,h2,h3,h4,h5⟩:=h
 refine⟨_,Same.upd h2,rel.freeze h1 h3 h2 h4,?_⟩
 unfold Rep
 exact⟨a,vs,rfl,Ţ.of ē,h5.same (Same.upd h2) ps vs⟩
def wR.share{K:KK}{c:Ctx}{F H:Hp}{σ:L2.St}{ρ:ĸ}{ps qs rs:List PV}{v:V}(rel:Rel K c F H σ ρ)(h:wR K c σ ρ F H ps qs rs v):∃F1,Same F F1/\Rel K c F1 H σ ρ/\Rep K F1 (.tup (ps ++ .lst qs::rs)) v:=by
 obtain⟨p,a,xs,vs,ys,rfl,h0,hx,h1,h2,h3,h4,h5,h6⟩:=h
 refine⟨_,Same.upd h2,rel.freeze h1 h3 h2 h4,?_⟩
 have ra:Rep K (upd F a (.lst vs)) (.lst qs) (.ref a):=by
  unfold Rep
  exact⟨a,vs,rfl,Ţ.of ē,h5.same (Same.upd h2) qs vs⟩
 unfold Rep
 exact⟨p,_,rfl,Same.upd h2 _ _ h0,ĉ.append (hx.same (Same.upd h2) ps xs) (ĉ.cons ra (h6.same (Same.upd h2) rs ys))⟩
def Ħ(h:PE X e (tO (kk X cm) E mo)):PE X e (tV (kk X cm) E (ĕ mo)):=PE.wk h λσ H Q ⟨c,F,ρ,rel,h⟩=>⟨c,F,ρ,rel,h.bind λr ρ1 v F1 H1 Ċ s1 s2 q h1=>by
 cases r with
 |sh p=>exact h1 v F1 H1 Ċ (Same.refl _) (Same.refl _) q
 |ow ps=>
  obtain⟨F2,s3,Ĩ,rp⟩:=Held.share Ċ q
  exact h1 v F2 H1 Ĩ s3 (Same.refl _) rp
 |ot ps qs rs=>
  obtain⟨F2,s3,Ĩ,rp⟩:=wR.share Ċ q
  exact h1 v F2 H1 Ĩ s3 (Same.refl _) rp⟩
def ă(f:PV->PV->Option PV)(ma mb:M PV):M PV:=λρ=>(ma ρ).bind λp ρ1=>(mb ρ1).bind λq ρ2=>Res.iR (f p q) ρ2
def ģ(f:PV->PV->Option RV)(ma mb:M PV):M RV:=λρ=>(ma ρ).bind λp ρ1=>(mb ρ1).bind λq ρ2=>Res.iR (f p q) ρ2
def gO(K:KK)(r:R2)(f:PV->PV->Option PV):Prop:=∀{c:Ctx} {F H:Hp} {σ:L2.St} {ρ:ĸ} {p q pv:PV} {v u:V} {Q:VK},Rel K c F H σ ρ->rR K c σ ρ F H p v->rR K c σ ρ F H q u->f p q=some pv->
 (∀z F' H',Rel K c F' H' σ ρ->Same F F'->Same H H'->Rep K F' pv z->Q z H')->r v u H Q
def OpO(K:KK)(r:R2)(f:PV->PV->Option RV):Prop:=∀{c:Ctx} {F H:Hp} {σ:L2.St} {ρ:ĸ} {p q:PV} {pv:RV} {v u:V} {Q:VK},Rel K c F H σ ρ->rR K c σ ρ F H p v->rR K c σ ρ F H q u->f p q=some pv->
 (∀z F' H',Rel K c F' H' σ ρ->Same F F'->Same H H'->rO K c σ ρ F' H' pv z->Q z H')->r v u H Q
def wU{r:R2}{f:PV->PV->Option PV}(hf:gO (kk X cm) r f){σ:L2.St}{H:Hp}{Q:VK}(h:tV (kk X cm) E (ă f ma mb) σ H Q):TX r (tR (kk X cm) E ma) (tR (kk X cm) E mb) σ H Q:=by
 obtain⟨c,F,ρ,rel,h⟩:=h
 refine⟨c,F,ρ,rel,h.bind λp ρ1 v F1 H1 Ċ _ _ r1 h1=>⟨c,F1,ρ1,Ċ,h1.bind λq ρ2 u F2 H2 Ĩ sF sH r2 h2=>?_⟩⟩
 cases e:f p q with
 |none=>rw[e] at h2;exact h2.elim
 |some pv=>rw[e] at h2;exact hf Ĩ (r1.mono sF sH) r2 e λz F' H' ů s1 s2 q'=>h2 z F' H' ů s1 s2 q'
def VJ{r:R2}{f:PV->PV->Option RV}(hf:OpO (kk X cm) r f){σ:L2.St}{H:Hp}{Q:VK}(h:tO (kk X cm) E (ģ f ma mb) σ H Q):TX r (tR (kk X cm) E ma) (tR (kk X cm) E mb) σ H Q:=by
 obtain⟨c,F,ρ,rel,h⟩:=h
 refine⟨c,F,ρ,rel,h.bind λp ρ1 v F1 H1 Ċ _ _ r1 h1=>⟨c,F1,ρ1,Ċ,h1.bind λq ρ2 u F2 H2 Ĩ sF sH r2 h2=>?_⟩⟩
 cases e:f p q with
 |none=>rw[e] at h2;exact h2.elim
 |some pv=>rw[e] at h2;exact hf Ĩ (r1.mono sF sH) r2 e λz F' H' ů s1 s2 q'=>h2 z F' H' ů s1 s2 q'
def aj{op:Operator}{r:R2}{f:PV->PV->Option PV}(hf:gO (kk X cm) r f)(ho:ş X (binaryOp op) r)(ha:PE X a (tR (kk X cm) E ma))(hb:PE X b (tR (kk X cm) E mb)):PE X (.BinOp a op b pos) (tV (kk X cm) E (ă f ma mb)):=PE.wk (JD ho ha hb) λ_ _ _ h=>wU hf h
def VL{op:Operator}{r:R2}{f:PV->PV->Option RV}(hf:OpO (kk X cm) r f)(ho:ş X (binaryOp op) r)(ha:PE X a (tR (kk X cm) E ma))(hb:PE X b (tR (kk X cm) E mb)):PE X (.BinOp a op b pos) (tO (kk X cm) E (ģ f ma mb)):=PE.wk (JD ho ha hb) λ_ _ _ h=>VJ hf h
def rK{op:CmpOp}{r:R2}{f:PV->PV->Option PV}(hf:gO (kk X cm) r f)(ho:ş X (compareOp op) r)(ha:PE X a (tR (kk X cm) E ma))(hb:PE X b (tR (kk X cm) E mb))(hm:behindInMarks op b=false):PE X (.Compare a [op] [b] pos) (tV (kk X cm) E (ă f ma mb)):=
 PE.wk (wF ho ha hb hm) λ_ _ _ h=>wU hf h
def Za9{r:R2}{f:PV->PV->Option PV}(hf:gO (kk X cm) r f)(hr:uY X r)(ha:PE X a (tR (kk X cm) E ma))(hb:PE X b (tR (kk X cm) E mb))(hs:jA b):PE X (.Subscript a b pos) (tV (kk X cm) E (ă f ma mb)):=
 PE.wk (Vm hr ha hb hs) λ_ _ _ h=>wU hf h
def Gq(f:PV->Option PV)(ma:M PV):M PV:=λρ=>(ma ρ).bind λp ρ1=>Res.iR (f p) ρ1
def UnV(K:KK)(r:V->Hp->VK->Prop)(f:PV->Option PV):Prop:=∀{c:Ctx} {F H:Hp} {σ:L2.St} {ρ:ĸ} {p pv:PV} {v:V} {Q:VK},Rel K c F H σ ρ->rR K c σ ρ F H p v->f p=some pv->
 (∀z F' H',Rel K c F' H' σ ρ->Same F F'->Same H H'->Rep K F' pv z->Q z H')->r v H Q
def VN{op:UnaryOp}{r:V->Hp->VK->Prop}{f:PV->Option PV}(hf:UnV (kk X cm) r f)(ho:GP X (unaryOp op) r)(ha:PE X a (tR (kk X cm) E ma)):PE X (.UnaryOp op a pos) (tV (kk X cm) E (Gq f ma)):=PE.wk (Vf ho ha) λσ H Q ⟨c,F,ρ,rel,h⟩=>
 ⟨c,F,ρ,rel,h.bind fun p ρ1 v F1 H1 Ċ _ _ r1 h1=>by
   cases e:f p with
   |none=>rw[e] at h1;exact h1.elim
   |some pv=>rw[e] at h1;exact hf Ċ r1 e λz F' H' ů s1 s2 q'=>h1 z F' H' ů s1 s2 q'⟩
def Qy:PV->Option Bool
 | .bl b=>some b
 | .int i=>some (i != 0)
 | .non=>some false
 | .str y=>if y.length<=sizeLine then some ((y.length:Int) != 0) else none
 | .lst ps=>some (!ps.isEmpty)
 | .tup ps=>some (!ps.isEmpty)
 |_=>none
def gP(m:M PV):M Bool:=λρ=>(m ρ).bind λp ρ1=>Res.iR (Qy p) ρ1
def VP{K:KK}{c:Ctx}{F H:Hp}{σ:L2.St}{ρ:ĸ}{p:PV}{v:V}{k:Bool}(s:Same F H)(r:rR K c σ ρ F H p v)(h:Qy p=some k):Pr K.K v H k:=by
 cases p with
 |bl b=>cases r.bl;cases h;rfl
 |int i=>cases r.int;cases h;rfl
 |non=>cases r.non;cases h;rfl
 |str y=>
  cases r.str
  have h':(if y.length<=sizeLine then some ((y.length:Int) != 0) else none)=some k:=h
  split at h'
  ·rename_i hy;cases h';exact⟨hy,rfl⟩
  ·cases h'
 |lst ps=>
  obtain⟨a,vs,rfl,h1,h2⟩:=r.lst s
  cases h
  have e:ps.isEmpty=vs.isEmpty:=by cases h2.pr<;>rfl
  exact .inl ⟨vs,h1,by rw[e]⟩
 |tup ps=>
  obtain⟨a,vs,rfl,h1,h2⟩:=r.tup s
  cases h
  have e:ps.isEmpty=vs.isEmpty:=by cases h2.pr<;>rfl
  exact .inr (.inl ⟨vs,h1,by rw[e]⟩)
 |ins C ns ps=>cases h
 |xc C ns ps=>cases h
 |ty n=>cases h
 |cls C=>cases h
def fP(ha:PE X a (tR (kk X cm) E ma))(he:∀whole,isTrue a X.env whole=(do let v <-whole;standAt a.pos;holding [v] (truthy v)):=by intro _;rfl):PT X a (tB (kk X cm) E (gP ma)):=PT.wk (Bb ha he) λσ H Q ⟨c,F,ρ,rel,h⟩=>
 ⟨c,F,ρ,rel,h.bind fun p ρ1 v F1 H1 Ċ _ _ r1 h1=>by
   cases e:Qy p with
   |none=>rw[e] at h1;exact h1.elim
   |some k=>rw[e] at h1;exact⟨k,VP Ċ.sub r1 e,h1 k F1 H1 Ċ (Same.refl _) (Same.refl _) rfl⟩⟩
def aO(m:M PV):M Bool:=λρ=>(m ρ).bind λp ρ1=>match p with
 | .bl b=>.ok b ρ1
 |_=>.bad
def VR{σ:L2.St}{H:Hp}{Q:Bool->Hp->Prop}(h:tB (kk X cm) E (aO m) σ H Q):M2.JG (tV (kk X cm) E m) σ H Q:=by
 obtain⟨c,F,ρ,rel,h⟩:=h
 refine⟨c,F,ρ,rel,h.bind λp ρ1 v F1 H1 Ċ _ _ r1 h1=>?_⟩
 cases p with
 |bl b=>
  have e:v=.bl b:=by have r1':Rep (kk X cm) F1 (.bl b) v:=r1;unfold Rep at r1';exact r1'
  subst e
  exact h1 b F1 H1 Ċ (Same.refl _) (Same.refl _) rfl
 |_=>exact h1.elim
def cB{op:CmpOp}{r:R2}{f:PV->PV->Option PV}(hf:gO (kk X cm) r f)(ho:ş X (compareOp op) r)(ha:PE X a (tR (kk X cm) E ma))(hb:PE X b (tR (kk X cm) E mb))(hm:behindInMarks op b=false):PT X (.Compare a [op] [b] pos) (tB (kk X cm) E (aO (ă f ma mb))):=
 PT.wk (Qg ho ha hb hm) fun σ H Q h=>by
   obtain⟨c,F,ρ,rel,h⟩:=VR h
   exact wU hf ⟨c,F,ρ,rel,h⟩
def ni(f g:PV->PV->Option PV)(ma mb mc:M PV):M PV:=λρ=>(ma ρ).bind λp ρ1=>(mb ρ1).bind λq ρ2=>(Res.iR (f p q) ρ2).bind λz ρ3=>match z with
 | .bl true=>(mc ρ3).bind λw ρ4=>Res.iR (g q w) ρ4
 | .bl false=>.ok (.bl false) ρ3
 |_=>.bad
def V_{r r':R2}{f g:PV->PV->Option PV}(hf:gO (kk X cm) r f)(hg:gO (kk X cm) r' g){σ:L2.St}{H:Hp}{Q:VK}(h:tV (kk X cm) E (ni f g ma mb mc) σ H Q):M2.Bm r r' (tR (kk X cm) E ma) (tR (kk X cm) E mb) (tR (kk X cm) E mc) σ H Q:=by
 obtain⟨c,F,ρ,rel,h⟩:=h
 refine⟨c,F,ρ,rel,h.bind λp ρ1 v F1 H1 Ċ _ _ r1 h1=>⟨c,F1,ρ1,Ċ,h1.bind λq ρ2 u F2 H2 Ĩ sF sH r2 h2=>?_⟩⟩
 cases e:f p q with
 |none=>rw[e] at h2;exact h2.elim
 |some pv=>
  rw[e] at h2
  refine hf Ĩ (r1.mono sF sH) r2 e λz F' H' ů s1 s2 q'=>?_
  cases pv with
  |bl k=>
   have ez:z=.bl k:=by unfold Rep at q';exact q'
   subst ez
   cases k with
   |false=>exact h2 _ F' H' ů s1 s2 q'
   |true=>
    refine⟨c,F',ρ2,ů,ż.bind (ż.mono h2 s1 s2) λw ρ4 x F4 H4 Ca s3 s4 r4 h4=>?_⟩
    cases e':g q w with
    |none=>rw[e'] at h4;exact h4.elim
    |some pv'=>rw[e'] at h4;exact hg Ca (r2.mono (s1.trans s3) (s2.trans s4)) r4 e' λz F' H' ů s1 s2 q'=>h4 z F' H' ů s1 s2 q'
  |_=>exact h2.elim
def jZ{op op':CmpOp}{r r':R2}{f g:PV->PV->Option PV}{c:Expr}(hf:gO (kk X cm) r f)(hg:gO (kk X cm) r' g)(ho:ş X (compareOp op) r)(ho':ş X (compareOp op') r')(ha:PE X a (tR (kk X cm) E ma))(hb:PE X b (tR (kk X cm) E mb))(hc:PE X c (tR (kk X cm) E mc))
 (hm:lastMarks [op,op'] [b,c]=false:=by with_unfolding_all rfl):PE X (.Compare a [op,op'] [b,c] pos) (tV (kk X cm) E (ni f g ma mb mc)):=PE.wk (Bo ho ho' ha hb hc hm) λ_ _ _ h=>V_ hf hg h
def fQ(m:M Bool):M Bool:=λρ=>(m ρ).bind λb ρ1=>.ok (!b) ρ1
def rM{m:M Bool}(h:PT X a (tB (kk X cm) E m)):PT X (.UnaryOp .Not a pos) (tB (kk X cm) E (fQ m)):=PT.wk (Ou h) λσ H Q ⟨c,F,ρ,rel,h⟩=>
 ⟨c,F,ρ,rel,h.bind λp ρ1 v F1 H1 Ċ _ _ r1 h1=>h1 _ F1 H1 Ċ (Same.refl _) (Same.refl _) (by have e:p=v:=r1;rw[e];rfl)⟩
def iT(ma mb:M Bool):M Bool:=λρ=>(ma ρ).bind λb ρ1=>if b=true then mb ρ1 else .ok false ρ1
def vd(ma mb:M Bool):M Bool:=λρ=>(ma ρ).bind λb ρ1=>if b=true then .ok true ρ1 else mb ρ1
variable{ta tb:M Bool}{rest:List Expr}
def gQ(h:PT X a (tB (kk X cm) E ta)):PW X (.BoolOp .And [a] pos) (tB (kk X cm) E ta):=Gz h
def JM(h:PT X a (tB (kk X cm) E ta)):PW X (.BoolOp .Or [a] pos) (tB (kk X cm) E ta):=Oq h
def w_and(ha:PT X a (tB (kk X cm) E ta))(hb:PW X (.BoolOp .And (b::rest) pos) (tB (kk X cm) E tb)):PW X (.BoolOp .And (a::b::rest) pos) (tB (kk X cm) E (iT ta tb)):=PW.wk (Ot ha hb) λσ H Q ⟨c,F,ρ,rel,h⟩=>
 ⟨c,F,ρ,rel,h.bind fun p ρ1 v F1 H1 Ċ _ _ r1 h1=>by
   have e:p=v:=r1
   subst e
   cases p with
   |true=>exact⟨c,F1,ρ1,Ċ,h1⟩
   |false=>exact h1 false F1 H1 Ċ (Same.refl _) (Same.refl _) rfl⟩
def w_or(ha:PT X a (tB (kk X cm) E ta))(hb:PW X (.BoolOp .Or (b::rest) pos) (tB (kk X cm) E tb)):PW X (.BoolOp .Or (a::b::rest) pos) (tB (kk X cm) E (vd ta tb)):=PW.wk (UG ha hb) λσ H Q ⟨c,F,ρ,rel,h⟩=>
 ⟨c,F,ρ,rel,h.bind fun p ρ1 v F1 H1 Ċ _ _ r1 h1=>by
   have e:p=v:=r1
   subst e
   cases p with
   |false=>exact⟨c,F1,ρ1,Ċ,h1⟩
   |true=>exact h1 true F1 H1 Ċ (Same.refl _) (Same.refl _) rfl⟩
def bV(ma mb:M PV):M PV:=λρ=>(ma ρ).bind λp ρ1=>match p with
 | .bl true=>mb ρ1
 | .bl false=>.ok (.bl false) ρ1
 |_=>.bad
def vf{K:KK}{F:Hp}{b:Bool}{v:V}(h:Rep K F (.bl b) v):v=.bl b:=by unfold Rep at h;exact h
def dJ{op}(h:PE X a (tV (kk X cm) E ma)):PE X (.BoolOp op [a] pos) (tV (kk X cm) E ma):=Ov h
def v_and(ha:PE X a (tV (kk X cm) E ma))(hb:PE X (.BoolOp .And (b::rest) pos) (tV (kk X cm) E mb)):PE X (.BoolOp .And (a::b::rest) pos) (tV (kk X cm) E (bV ma mb)):=PE.wk (Qh ha hb) λσ H Q ⟨c,F,ρ,rel,h⟩=>
 ⟨c,F,ρ,rel,h.bind fun p ρ1 v F1 H1 Ċ _ _ r1 h1=>by
   cases p with
   |bl k=>
    cases vf r1
    cases k with
    |true=>exact⟨c,F1,ρ1,Ċ,h1⟩
    |false=>exact h1 _ F1 H1 Ċ (Same.refl _) (Same.refl _) r1
   |_=>exact h1.elim⟩
def dM{α:Type}(t:M Bool)(ma mb:M α):M α:= λρ=>(t ρ).bind λb ρ1=>if b=true then ma ρ1 else mb ρ1
def Ĝ:M (List PV):=λρ=>.ok [] ρ
def Ą(ma:M PV)(mr:M (List PV)):M (List PV):=λρ=>(ma ρ).bind λp ρ1=>(mr ρ1).bind λps ρ2=>.ok (p::ps) ρ2
variable{mr:M (List PV)}
def Ě:PA X [] (tL (kk X cm) E Ĝ):=PA.wk jR λσ H Q ⟨c,F,ρ,rel,h⟩=>h [] F H rel (Same.refl _) (Same.refl _) ĉ.nil
def ą(ha:PE X e (tV (kk X cm) E ma))(hr:PA X es (tL (kk X cm) E mr))(hs:starEach (e::es) X.env=(false,eval e X.env)::starEach es X.env:=by exact ŵ rfl):PA X (e::es) (tL (kk X cm) E (Ą ma mr)):=PA.wk (cY ha hr hs) λσ H Q ⟨c,F,ρ,rel,h⟩=>
 ⟨c,F,ρ,rel,h.bind λp ρ1 v F1 H1 Ċ _ _ r1 h1=>⟨c,F1,ρ1,Ċ,h1.bind λps ρ2 vs F2 H2 Ĩ sF sH r2 h2=>h2 _ F2 H2 Ĩ (Same.refl _) (Same.refl _) (ĉ.cons (Rep.same sF p v r1) r2)⟩⟩
def Ķ:PA X [] (JK (kk X cm) E Ĝ):=PA.wk jR λσ H Q ⟨c,F,ρ,rel,h⟩=>h [] F H rel (Same.refl _) (Same.refl _) .nil
def Ĥ(ha:PE X e (tR (kk X cm) E ma))(hr:PA X es (JK (kk X cm) E mr))(hs:starEach (e::es) X.env=(false,eval e X.env)::starEach es X.env:=by exact ŵ rfl):PA X (e::es) (JK (kk X cm) E (Ą ma mr)):=PA.wk (cY ha hr hs) λσ H Q ⟨c,F,ρ,rel,h⟩=>
 ⟨c,F,ρ,rel,h.bind λp ρ1 v F1 H1 Ċ _ _ r1 h1=>⟨c,F1,ρ1,Ċ,h1.bind λps ρ2 vs F2 H2 Ĩ sF sH r2 h2=>h2 _ F2 H2 Ĩ (Same.refl _) (Same.refl _) (.cons (rR.mono r1 sF sH) r2)⟩⟩
def Ė:M (List Slot):=λρ=>.ok [] ρ
def ĝ(ma:M PV)(mr:M (List Slot)):M (List Slot):=λρ=>(ma ρ).bind λp ρ1=>(mr ρ1).bind λas ρ2=>.ok (.sh p::as) ρ2
def bN:Slot->Option Slot
 | .sh p=>some (.sh p)
 | .ow ps=>some (.bw ps)
 | .bw ps=>some (.bw ps)
 |_=>none
def Ĉ(i:Nat)(mr:M (List Slot)):M (List Slot):=λρ=>match(ρ[i]?).bind bN with
 |none=>.bad
 |some _=>(mr ρ).bind λas ρ2=>match(ρ2[i]?).bind bN with
  |some s=>.ok (s::as) ρ2
  |none=>.bad
variable{ms:M (List Slot)}
def Đ:PA X [] (tA (kk X cm) E Ė):=PA.wk jR λσ H Q ⟨c,F,ρ,rel,h⟩=>h [] F H rel (Same.refl _) (Same.refl _) .nil
def ę(ha:PE X e (tV (kk X cm) E ma))(hr:PA X es (tA (kk X cm) E ms))(hs:starEach (e::es) X.env=(false,eval e X.env)::starEach es X.env:=by exact ŵ rfl):PA X (e::es) (tA (kk X cm) E (ĝ ma ms)):=PA.wk (cY ha hr hs) λσ H Q ⟨c,F,ρ,rel,h⟩=>
 ⟨c,F,ρ,rel,h.bind λp ρ1 v F1 H1 Ċ _ _ r1 h1=>⟨c,F1,ρ1,Ċ,h1.bind λas ρ2 vs F2 H2 Ĩ sF sH r2 h2=>h2 _ F2 H2 Ĩ (Same.refl _) (Same.refl _) (.cons (show ſ _ _ _ (.sh p) v from Rep.same sF p v r1) r2)⟩⟩
def wV{K:KK}{c:Ctx}{F H:Hp}{σ:L2.St}{ρ:ĸ}{i:Nat}{s:Slot}(rel:Rel K c F H σ ρ)(h:(ρ[i]?).bind bN=some s):∃v,σ[i]?=some (some v)/\ſ K F H s v:=by
 cases e:ρ[i]? with
 |none=>rw[e] at h;cases h
 |some sl=>
  rw[e] at h
  have h':bN sl=some s:=h
  cases sl with
  |sh p=>
   cases h'
   obtain⟨v,h1,h2⟩:=rel.slot i _ e
   exact⟨v,at_of h1,h2⟩
  |ow ps=>
   cases h'
   obtain⟨a,vs,h1,h2,h3,h4,h5,_⟩:=rel.ow e
   exact⟨.ref a,h1,a,vs,rfl,h2,h3,h5⟩
  |bw ps=>
   cases h'
   obtain⟨a,vs,h1,h2,h3⟩:=rel.slot i _ e
   exact⟨.ref a,at_of h1,a,vs,rfl,(rel.lent a _ h2).1,(rel.lent a _ h2).2,h3⟩
  |no=>cases h'
  |rc C ns ps=>cases h'
  |ot ps qs rs=>cases h'
  |ol BR=>cases h'
  |od _ _=>cases h'
  |bd _ _=>cases h'
def HF(i:Nat){x:Str}{px:Pos}(hN:X.N[i]?=some x:=by rfl)(hv:wz X.env.scope x:=by first|exact Or.inl rfl|exact Or.inr (Or.inl rfl)|exact Or.inr (Or.inr rfl))(hd:(x== ("__debug__" :Str))=false:=by decide)
 (hcd:(x== ("__classdict__" :Str))=false:=by decide)(hr:PA X es (tA (kk X cm) E ms))(hs:starEach (.Name x px::es) X.env=(false,eval (.Name x px) X.env)::starEach es X.env:=by exact ŵ rfl):PA X (.Name x px::es) (tA (kk X cm) E (Ĉ i ms)):=
 PA.wk (cY (aZ hN hv hd hcd) hr hs) fun σ H Q ⟨c,F,ρ,rel,h⟩=>by
   unfold Ĉ at h
   cases e:(ρ[i]?).bind bN with
   |none=>rw[e] at h;exact h.elim
   |some s0=>
    rw[e] at h
    obtain⟨v,hv,_⟩:=wV rel e
    refine⟨v,hv,c,F,ρ,rel,ż.bind h λas ρ2 vs F2 H2 Ĩ sF sH r2 h2=>?_⟩
    cases e2:(ρ2[i]?).bind bN with
    |none=>simp only[e2] at h2;exact h2.elim
    |some s=>
     simp only[e2] at h2
     obtain⟨v',hv',r1⟩:=wV Ĩ e2
     rw[hv] at hv'
     cases hv'
     exact h2 _ F2 H2 Ĩ (Same.refl _) (Same.refl _) (.cons r1 r2)
def ň(mr:M (List PV)):M PV:=λρ=>(mr ρ).bind λps ρ1=>if ps.length<=16777216 then .ok (.tup ps) ρ1 else .bad
def dB(mr:M (List PV)):M RV:=λρ=>(mr ρ).bind λps ρ1=>if ps.length<=16777216 then .ok (.ow ps) ρ1 else .bad
def ğ:sizeLine=16777216:=sizeLine_eq
def Ŀ{x1}(h:PA X es (tL (kk X cm) E mr)):PE X (.Tuple es x1 pos) (tV (kk X cm) E (ň mr)):=PE.wk (Pz h) λσ H Q ⟨c,F,ρ,rel,h⟩=>
 ⟨c,F,ρ,rel,h.bind fun ps ρ1 vs F1 H1 Ċ _ _ r1 h1=>by
   split at h1
   ·rename_i hz
    refine⟨by rw[<-ĉ.length r1,ğ];exact hz,λp hp=>h1 _ _ _ (Ċ.alloc hp) (Same.upd (Ċ.sub.free hp)) (Same.upd hp) ?_⟩
    show Rep _ _ _ _
    unfold Rep
    exact⟨p,vs,rfl,ē,ĉ.same (Same.upd (Ċ.sub.free hp)) ps vs r1⟩
   ·exact h1.elim⟩
def Ŷ{K:KK}{c:Ctx}{F H:Hp}{σ:L2.St}{ρ:ĸ}{ps:List PV}{vs:List V}{a:Addr}(rel:Rel K c F H σ ρ)(ha:H a=none)(r:ĉ K F ps vs):Rel K c F (upd H a (.lst vs)) σ ρ/\Held K c σ ρ F (upd H a (.lst vs)) ps (.ref a):=
 ⟨rel.made ha,a,vs,rfl,ē,rel.sub.free ha,rel.base.free ha,rel.fresh ha,r⟩
def ak(h:PA X es (tL (kk X cm) E mr)):PE X (.List es pos) (tO (kk X cm) E (dB mr)):=PE.wk (PB h) λσ H Q ⟨c,F,ρ,rel,h⟩=>
 ⟨c,F,ρ,rel,h.bind fun ps ρ1 vs F1 H1 Ċ _ _ r1 h1=>by
   split at h1
   ·rename_i hz
    refine⟨by rw[<-ĉ.length r1,ğ];exact hz,λp hp=>?_⟩
    obtain⟨q1,q2⟩:=Ŷ Ċ hp r1
    exact h1 _ _ _ q1 (Same.refl _) (Same.upd hp) q2
   ·exact h1.elim⟩
def pR(f:List PV->Option PV)(mr:M (List PV)):M PV:=λρ=>(mr ρ).bind λps ρ1=>Res.iR (f ps) ρ1
def nj(f:List PV->Option RV)(mr:M (List PV)):M RV:=λρ=>(mr ρ).bind λps ρ1=>Res.iR (f ps) ρ1
def j_(K:KK)(r:List V->Hp->VK->Prop)(f:List PV->Option PV):Prop:=∀{c:Ctx} {F H:Hp} {σ:L2.St} {ρ:ĸ} {ps:List PV} {pv:PV} {vs:List V} {Q:VK},Rel K c F H σ ρ->VH K c σ ρ F H ps vs->f ps=some pv->
 (∀z F' H',Rel K c F' H' σ ρ->Same F F'->Same H H'->Rep K F' pv z->Q z H')->r vs H Q
def Cd(K:KK)(r:List V->Hp->VK->Prop)(f:List PV->Option RV):Prop:=∀{c:Ctx} {F H:Hp} {σ:L2.St} {ρ:ĸ} {ps:List PV} {pv:RV} {vs:List V} {Q:VK},Rel K c F H σ ρ->VH K c σ ρ F H ps vs->f ps=some pv->
 (∀z F' H',Rel K c F' H' σ ρ->Same F F'->Same H H'->rO K c σ ρ F' H' pv z->Q z H')->r vs H Q
def Wa{r:List V->Hp->VK->Prop}{f:List PV->Option PV}(hf:j_ (kk X cm) r f){σ:L2.St}{H:Hp}{Q:VK}(h:tV (kk X cm) E (pR f mr) σ H Q):YK r (JK (kk X cm) E mr) σ H Q:=by
 obtain⟨c,F,ρ,rel,h⟩:=h
 refine⟨c,F,ρ,rel,h.bind λp ρ1 v F1 H1 Ċ _ _ r1 h1=>?_⟩
 cases e:f p with
 |none=>rw[e] at h1;exact h1.elim
 |some pv=>rw[e] at h1;exact hf Ċ r1 e λz F' H' ů s1 s2 q'=>h1 z F' H' ů s1 s2 q'
def Za_{r:List V->Hp->VK->Prop}{f:List PV->Option RV}(hf:Cd (kk X cm) r f){σ:L2.St}{H:Hp}{Q:VK}(h:tO (kk X cm) E (nj f mr) σ H Q):YK r (JK (kk X cm) E mr) σ H Q:=by
 obtain⟨c,F,ρ,rel,h⟩:=h
 refine⟨c,F,ρ,rel,h.bind λp ρ1 v F1 H1 Ċ _ _ r1 h1=>?_⟩
 cases e:f p with
 |none=>rw[e] at h1;exact h1.elim
 |some pv=>rw[e] at h1;exact hf Ċ r1 e λz F' H' ů s1 s2 q'=>h1 z F' H' ů s1 s2 q'
end
end P
namespace P
open PySem PySem.Spec PyProof.Rows L2 M2 M3
def eU:M Fl:=λρ=>.ok .nx ρ
def Ę(a b:M Fl):M Fl:=λρ=>(a ρ).bind λf ρ1=>match f with
 | .nx=>b ρ1
 |f=>.ok f ρ1
def Ĳ(i:Nat)(m:M RV):M Fl:=λρ=>(m ρ).bind λr ρ1=>.ok .nx (ρ1.set i r.slot)
def ĩ(m:M RV):M Fl:=λρ=>(m ρ).bind λr ρ1=>.ok (.rt r) ρ1
section
variable{X:Cx}{cm:String->Addr}{E:L2.St->XK}{a b e:Expr}{st:Stmt}{rest:List Stmt}{es:List Expr}{pos:Pos}{m1 m2:M Fl}{mo:M RV}{mv:M PV}
def ī:fB X [] (tS (kk X cm) E eU):=fB.wk GC λD σ H ⟨c,F,ρ,rel,h⟩=>h σ F H rel (Same.refl F)
def ĭ(h:PS X st (tS (kk X cm) E m1)):fB X [st] (tS (kk X cm) E m1):=GD h
def HJ{c:Ctx}{F:Hp}{D:Ends}{r:Res Fl}(h:Ř (kk X cm) E c F D (r.bind λf ρ1=>match f with| .nx=>m2 ρ1|f=>.ok f ρ1)):Ř (kk X cm) E c F {D with nx:=tS (kk X cm) E m2 D} r:=by
 cases r with
 |ok f ρ1=>
  cases f with
  |nx=>exact λσ' F' H' ů s=>⟨c,F',ρ1,ů,Ř.mono h s⟩
  |bk=>exact h
  |ct=>exact h
  |rt v=>exact h
 |exc x ρ1=>exact h
 |bad=>exact h
def ċ(h1:PS X st (tS (kk X cm) E m1))(h2:fB X rest (tS (kk X cm) E m2)):fB X (st::rest) (tS (kk X cm) E (Ę m1 m2)):=fB.wk (Ar h1 h2) λD σ H ⟨c,F,ρ,rel,h⟩=>⟨c,F,ρ,rel,HJ h⟩
def Wb{i:Nat}{x:Str}{pos':Pos}(hN:X.N.Nodup)(hi:X.N[i]?=some x)(hx:Loc X.env.scope x)(he:PE X e (tO (kk X cm) E mo))(hs:swapsWith e (some (.Name x pos')) pos.line X.env=pure false:=by rfl)(hf:X.fn x=true\/X.env.scope.names.lookup x=some .local:=by first|exact .inl rfl|exact .inr rfl|assumption) :
 PS X (.Assign [.Name x pos'] e pos) (tS (kk X cm) E (Ĳ i mo)):=PS.wk (pD hN hi hx he hs hf) λD σ H ⟨c,F,ρ,rel,h⟩=>⟨c,F,ρ,rel,Ř.bind h λr ρ1 v F1 H1 Ċ s1 q h1=>by
 cases r with
 |sh p=>exact h1 _ F1 H1 (Ċ.put rfl ⟨v,rfl,q⟩) (Same.refl _)
 |ow ps=>
  obtain⟨a,vs,rfl,q1,q2,q3,q4,q5⟩:=q
  exact h1 _ F1 H1 (Ċ.zy ⟨a,vs,rfl,q1,q2,q3,q5⟩ λ_ z=>V.ref.inj z▸q4) (Same.refl _)
 |ot ps qs rs=>
  obtain⟨p,a,xs,vs,ys,rfl,q0,qx,q1,q2,q3,q4,q5,q6⟩:=q
  exact h1 _ F1 H1 (Ċ.zy (s:=.ot ps qs rs) ⟨p,a,xs,vs,ys,rfl,q0,qx,q1,q2,q3,q5,q6⟩ λ_ z=>jE (ps:=ps) (qs:=qs) (rs:=rs) z ⟨p,xs,ys,rfl,q0,qx.length.symm⟩▸q4) (Same.refl _)⟩
def Wc(he:PE X e (tO (kk X cm) E mo)):PS X (.Return (some e) pos) (tS (kk X cm) E (ĩ mo)):=PS.wk (Ow he) λD σ H ⟨c,F,ρ,rel,h⟩=>⟨c,F,ρ,rel,Ř.bind h λr ρ1 v F1 H1 Ċ s1 q h1=>h1 v σ F1 H1 Ċ (Same.refl _) q⟩
def ś{t:M Bool}{ss ss':List Stmt}(hc:PT X a (tB (kk X cm) E t))(ha:fB X ss (tS (kk X cm) E m1))(hb:fB X ss' (tS (kk X cm) E m2)):PS X (.If a ss ss' pos) (tS (kk X cm) E (dM t m1 m2)):=PS.wk (UL hc ha hb) λD σ H ⟨c,F,ρ,rel,h⟩=>⟨c,F,ρ,rel,Ř.bind h λr ρ1 v F1 H1 Ċ s1 q h1=>by
 have e:r=v:=q
 subst e
 cases r with
 |true=>exact⟨c,F1,ρ1,Ċ,h1⟩
 |false=>exact⟨c,F1,ρ1,Ċ,h1⟩⟩
def Qz{α:Type}:M α:= λ_=>.bad
def HN:PS X st (tS (kk X cm) E Qz):=PS.wk Av λD σ H ⟨c,F,ρ,rel,h⟩=>h
abbrev Tg:=PV->ĸ->Option ĸ
abbrev Ah:=List PV->ĸ->Option ĸ
def Wd(K:KK)(c:Ctx)(F H:Hp)(Q:L2.St->Hp->Prop):Option ĸ->Prop
 |some ρ'=>∀σ',Rel K c F H σ' ρ'->Q σ' H
 |none=>False
def tT(K:KK)(g:Tg):TG:=λv σ H Q=>∃c F ρ p,Rel K c F H σ ρ/\Rep K F p v/\Wd K c F H Q (g p ρ)
def Wf(K:KK)(g:Ah):Aw:=λv σ H Q=>∃c F ρ p,Rel K c F H σ ρ/\ĉ K F p v/\Wd K c F H Q (g p ρ)
def gN(i:Nat):Tg:=λp ρ=>some (ρ.set i (.sh p))
def Į:Ah:=λps ρ=>match ps with
 | []=>some ρ
 |_=>none
def Ć(g:Tg)(gs:Ah):Ah:=λps ρ=>match ps with
 |p::ps=>(g p ρ).bind λρ1=>gs ps ρ1
 | []=>none
def gT(n:Nat)(gs:Ah):Tg:=λp ρ=>match p with
 | .tup ps=>if ps.length=n then gs ps ρ else none
 |_=>none
def PG.wk'{tg:Expr}{t t':TG}(h:PG X tg t)(i:∀v σ H Q,t' v σ H Q->t v σ H Q):PG X tg t':=λpins s σ H v u Q I r q=>h pins s σ H v u Q I r (i v σ H Q q)
def uG.wk{tg:List Expr}{t t':Aw}(h:uG X tg t)(i:∀v σ H Q,t' v σ H Q->t v σ H Q):uG X tg t':=λpins s σ H v u Q I r q=>h pins s σ H v u Q I r (i v σ H Q q)
def Ce{i:Nat}{x:Str}(hN:X.N.Nodup)(hi:X.N[i]?=some x)(hx:Loc X.env.scope x)(hf:X.fn x=true\/X.env.scope.names.lookup x=some .local:=by first|exact .inl rfl|exact .inr rfl|assumption):PG X (.Name x pos) (tT (kk X cm) (gN i)):=
 PG.wk' (GF hN hi hx hf) λv σ H Q ⟨c,F,ρ,p,rel,rp,h⟩=>h _ (rel.put rfl ⟨v,rfl,rp⟩)
def Ť:uG X [] (Wf (kk X cm) Į):=uG.wk GJ λv σ H Q ⟨c,F,ρ,p,rel,rp,h⟩=>by
 cases p with
 |nil=>
  have e:v=[]:=by have:=rp;unfold ĉ at this;exact this
  exact⟨e,h σ rel⟩
 |cons _ _=>exact h.elim
def ė{es:List Expr}{g:Tg}{gs:Ah}(h1:PG X e (tT (kk X cm) g))(h2:uG X es (Wf (kk X cm) gs))(hs:(assignEach (e::es) X.env).map (·.2)=assign e X.env::(assignEach es X.env).map (·.2):=by rfl):uG X (e::es) (Wf (kk X cm) (Ć g gs)):=
 uG.wk (Ax h1 h2 hs) λv σ H Q ⟨c,F,ρ,p,rel,rp,h⟩=>by
  cases p with
  |nil=>exact h.elim
  |cons p ps=>
   unfold ĉ at rp
   obtain⟨x,r,rfl,r1,r2⟩:=rp
   refine⟨x,r,rfl,c,F,ρ,p,rel,r1,?_⟩
   unfold Ć at h
   dsimp only at h
   cases eg:g p ρ with
   |none=>rw[eg] at h;exact h.elim
   |some ρ1=>rw[eg] at h;exact λσ' ů=>⟨c,F,ρ1,ps,ů,r2,h⟩
def cC{es:List Expr}{k:Nat}{gs:Ah}{n:Nat}(hc:X.calm=true)(h:uG X es (Wf (kk X cm) gs))(hn:(assignEach es X.env).length=n:=by rfl)(hst:(assignEach es X.env).findIdx? (·.1)=none:=by rfl):PG X (.Tuple es k pos) (tT (kk X cm) (gT n gs)):=
 PG.wk' (Ay hc h hn hst) fun v σ H Q ⟨c,F,ρ,p,rel,rp,h⟩=>by
   cases p with
   |tup ps=>
    unfold Rep at rp
    obtain⟨a,xs,h1,h2,h3⟩:=rp
    unfold gT at h
    dsimp only at h
    split at h
    ·rename_i hl
     exact⟨a,xs,h1,bU.of (rel.sub _ _ h2),by rw[<-h3.length];exact hl,c,F,ρ,ps,rel,h3,h⟩
    ·exact h.elim
   |_=>exact h.elim
def HS(g:Tg)(m:M PV):M Fl:=λρ=>(m ρ).bind λp ρ1=>match g p ρ1 with
 |some ρ2=>.ok .nx ρ2
 |none=>.bad
def JN{tg:Expr}{g:Tg}(he:PE X e (tV (kk X cm) E mv))(hg:PG X tg (tT (kk X cm) g))(hs:swapsWithSole [tg] e pos.line X.env=pure false:=by rfl)(hw:swappedStores [tg] e X.env=pure none:=by rfl)
 (h1:(assignEach [tg] X.env).map (·.2)=[assign tg X.env]:=by rfl):PS X (.Assign [tg] e pos) (tS (kk X cm) E (HS g mv)):=PS.wk (Oz he hg hs hw h1) λD σ H ⟨c,F,ρ,rel,h⟩=>⟨c,F,ρ,rel,Ř.bind h λr ρ1 v F1 H1 Ċ s1 q h1=>by
 refine⟨c,F1,ρ1,r,Ċ,q,?_⟩
 cases eg:g r ρ1 with
 |none=>rw[eg] at h1;exact h1.elim
 |some ρ2=>rw[eg] at h1;exact λσ' ů=>h1 σ' F1 H1 ů (Same.refl _)⟩
def pU(i:Nat)(m:M PV):M Fl:=λρ=>match ρ[i]? with
 |some (.ow _)=>(m ρ).bind λp ρ1=>match ρ1[i]? with
  |some (.ow ps)=>if ps.length<16777216 then .ok .nx (ρ1.set i (.ow (ps ++ [p]))) else .bad
  |_=>.bad
 |_=>.bad
def cZ{i:Nat}{D:Ends}{σ:L2.St}{H:Hp}(h:tS (kk X cm) E (pU i mv) D σ H):Jz (tBM X.K "list" wJ (pB i) (tL (kk X cm) E (Ą mv Ĝ))) D σ H:=by
 obtain⟨c,F,ρ,rel,h⟩:=h
 unfold pU at h
 cases e1:ρ[i]? with
 |none=>rw[e1] at h;exact h.elim
 |some sl=>
  rw[e1] at h
  cases sl with
  |ow ps0=>
   obtain⟨a,vs0,z1,z2,z3,z4,z5,z6⟩:=rel.ow e1
   refine⟨.ref a,z1,.inl ⟨rfl,_,Ţ.of z2⟩,c,F,ρ,rel,?_⟩
   dsimp only at h
   unfold Ą
   cases em:mv ρ with
   |bad=>rw[em] at h;exact h
   |exc x ρ1=>rw[em] at h;exact λC d F' H' ů s1 q=>h σ C d F' H' ů s1 q
   |ok p ρ1=>
    rw[em] at h
    intro us F1 H1 Ċ s1 s2 r1
    have r1':ĉ (kk X cm) F1 [p] us:=r1
    cases r1'.pr with
    |cons rp t=>
     rename_i v vs'
     cases t
     cases e2:ρ1[i]? with
     |none=>simp only[Res.wO,e2] at h;exact h.elim
     |some sl2=>
      simp only[Res.wO,e2] at h
      cases sl2 with
      |ow ps=>
       obtain⟨a2,vs,w1,w2,w3,w4,w5,w6⟩:=Ċ.ow e2
       rw[z1] at w1
       cases w1
       dsimp only at h
       split at h
       ·rename_i hz
        refine⟨a,vs,v,rfl,rfl,w2,by rw[<-w5.length,ğ];exact hz,h σ F1 _ (Ċ.write w6 z1 ⟨a,vs ++ [v],rfl,ē,w3,w4,ĉ.append w5 (ĉ.cons rp ĉ.nil)⟩ λ_ z=>(V.ref.inj z).symm) s1⟩
       ·exact h.elim
      |_=>exact h.elim
  |_=>exact h.elim
def rN(K:KK)(Lh F:Hp)(J:It)(items:List PV):Prop:=∀(c:Ctx) (i:Nat) (F2 H:Hp) (σ:L2.St) (ρ:ĸ),Rel K c F2 H σ ρ->Same F F2->Same Lh H->
 (∀p,items[i]?=some p->J.go i H/\∀x H',J.YJ i H x H'->∃F3,Rel K c F3 H' σ ρ/\Same F2 F3/\Same H H'/\Rep K F3 p x)/\(i=items.length->J.stop i H)
def rIt(K:KK):RR (List PV) It:=λc _ _ F _ items J=>rN K c.L F J items
abbrev tI(K:KK)(E:L2.St->XK)(m:M (List PV)):TI:=tG K E (rIt K) m
def forL(g:Tg)(mb:M Fl):List PV->M Fl
 | [],ρ=>.ok .nx ρ
 |p::ps,ρ=>match g p ρ with
  |none=>.bad
  |some ρ1=>(mb ρ1).bind λf ρ2=>match f with
   | .nx=>forL g mb ps ρ2
   | .ct=>forL g mb ps ρ2
   | .bk=>.ok .nx ρ2
   | .rt r=>.ok (.rt r) ρ2
def eV(mi:M (List PV))(g:Tg)(mb:M Fl):M Fl:=λρ=>(mi ρ).bind λitems ρ1=>forL g mb items ρ1
def QB{c:Ctx}{F1 H1:Hp}{σ:L2.St}{ρ1:ĸ}{D:Ends}{J:It}{items:List PV}{g:Tg}{mb:M Fl}(Ċ:Rel (kk X cm) c F1 H1 σ ρ1)(ito:rN (kk X cm) c.L F1 J items)(h1:Ř (kk X cm) E c F1 D (forL g mb items ρ1)):Ve (λ_ H' R=>R J H') (tT (kk X cm) g) (tS (kk X cm) E mb) D σ H1:=by
 refine⟨λi m σ' H'=>∃F2 ρ2,i<=items.length/\m=items.length-i/\Rel (kk X cm) c F2 H' σ' ρ2/\Same F1 F2/\Ř (kk X cm) E c F2 D (forL g mb (items.drop i) ρ2),⟨_,F1,ρ1,Nat.zero_le _,rfl,Ċ,Same.refl _,h1⟩,?_⟩
 rintro i m σ2 H2 ⟨F2,ρ2,hle,rfl,Ĩ,s2,h2⟩
 obtain⟨go,stop⟩:=ito c i F2 H2 σ2 ρ2 Ĩ s2 λb u e=>(Ĩ.lent b u e).1
 by_cases hlt:i<items.length
 ·obtain⟨g1,g2⟩:=go items[i] (List.getElem?_eq_getElem hlt)
  rw[List.drop_eq_getElem_cons hlt] at h2
  unfold forL at h2
  refine .inr ⟨g1,_,λσ' H' z=>z,λx H3 hy=>?_⟩
  obtain⟨F3,aP,s3,_,rp⟩:=g2 x H3 hy
  refine⟨c,F3,ρ2,items[i],aP,rp,?_⟩
  cases eg:g items[i] ρ2 with
  |none=>rw[eg] at h2;exact h2.elim
  |some ρ3=>
   rw[eg] at h2
   dsimp only at h2
   intro σ4 Ca
   refine⟨c,F3,ρ3,Ca,?_⟩
   have nxt:∀{ρ4:ĸ},Ř (kk X cm) E c F2 D (forL g mb (items.drop (i+1)) ρ4)->∀σ' F' H',Rel (kk X cm) c F' H' σ' ρ4->Same F3 F'->∃m',m'<items.length-i/\∃F2 ρ2,i+1<=items.length/\m'=items.length-(i+1)/\Rel (kk X cm) c F2 H' σ' ρ2/\Same F1 F2/\Ř (kk X cm) E c F2 D (forL g mb (items.drop (i+1)) ρ2):=
    fun{ρ4} h3 σ' F' H' ů s'=>⟨items.length-(i+1),by omega,F',ρ4,hlt,rfl,ů,(s2.trans s3).trans s',Ř.mono h3 (s3.trans s')⟩
   have h2':=Ř.mono h2 s3
   cases e2:mb ρ3 with
   |bad=>rw[e2] at h2;exact h2
   |exc x ρ4=>rw[e2] at h2';exact h2'
   |ok f ρ4=>
    rw[e2] at h2 h2'
    cases f with
    |nx=>exact nxt h2
    |ct=>exact nxt h2
    |bk=>exact h2'
    |rt r=>exact h2'
 ·have e:i=items.length:=by omega
  refine .inl ⟨stop e,?_⟩
  rw[List.drop_eq_nil_of_le (by omega)] at h2
  unfold forL at h2
  exact h2 σ2 F2 H2 Ĩ (Same.refl _)
def aQ{iter tg:Expr}{body:List Stmt}{mi:M (List PV)}{g:Tg}{mb:M Fl}(hp:PassesOwn (model X.prog X.w) X.A X.env X.xe)(hc:X.calm=true)(hi:PI X tg iter (tI (kk X cm) E mi))(hg:PG X tg (tT (kk X cm) g))(hb:fB X body (tS (kk X cm) E mb))
 (hs:∀x,foldedSetIterable iter X.env x=pure x:=by intro _;rfl):PS X (.For tg iter body [] pos) (tS (kk X cm) E (eV mi g mb)):=PS.wk (OD hp hc hi hg hb hs) λD σ H ⟨c,F,ρ,rel,h⟩=>⟨c,F,ρ,rel,Ř.bind h λitems ρ1 J F1 H1 Ċ s1 ito h1=>QB Ċ ito h1⟩
end
end P
namespace P
open PySem PySem.Spec PyProof.Rows L2 M2 M3
inductive FR where
 |ret (r:RV)|exc (x:PX)|bad
abbrev MF:=List Slot->FR
def FR.of:Res Fl->FR
 | .ok (.rt r) _=>.ret r
 | .ok .nx _=>.ret (.sh .non)
 | .exc x _=>.exc x
 |_=>.bad
def Ł(n k:Nat)(mb:M Fl):MF:=λas=>if as.length=n then FR.of (mb (startP k as)) else .bad
def rF(K:KK)(H F' H':Hp):RV->V->Prop
 | .sh p,v=>Rep K F' p v
 | .ow ps,v=>∃a vs,v=.ref a/\H' a=some (.lst vs)/\F' a=none/\H a=none/\ĉ K F' ps vs
 | .ot ps qs rs,v=>∃p a xs vs ys,v=.ref p/\F' p=some (.tup (xs ++ .ref a::ys))/\ĉ K F' ps xs/\H' a=some (.lst vs)/\F' a=none/\H a=none/\ĉ K F' qs vs/\ĉ K F' rs ys
def Zba(K:KK)(E:XK)(F H:Hp)(Q:VK):FR->Prop
 | .ret r=>∀v F' H',Gr F H F' H'->rF K H F' H' r v->Q v H'
 | .exc x=>∀C d F' H',Gr F H F' H'->HD K F' x C d->E C d H'
 | .bad=>False
def aH(K:KK)(n:Nat)(mf:MF):Sp:=λvs H Q E=>∃F as,as.length=n/\Same F H/\Paired (ſ K F H) as vs/\Zba K E F H Q (mf as)
def dg(CX:gK)(X:Cx)(E:L2.St->XK):Prop:=∀(pins:List (Addr×Obj)) (σ:L2.St) (H:Hp) (s:Shared) (e:Value) (s':Shared),Inv X pins σ H s->CX X.stack H s (E σ) e s'->X.xe e s'
def đ{X:Cx}{E:L2.St->XK}:dg aD X E:=λ_ _ _ _ _ _ _ h=>h.elim
section
variable{P:Program}{w:World}{K:PySem.W.Frag}{cm:String->Addr}{mg:Str->Option Value}{base:Heap}{CX:gK}
def fnP{x qual:Str}{st:Stmt}{f:Addr}{fd:FuncData}{N ps:List Str}{k:Nat}{mb:M Fl}(F:Hl K x qual st f fd)(S:ď N ps (ć st))
 (hbody:∀(cdv:Value) (A:Around) (outer:List Env) (s:Shared) (H:Hp) (E:XK),Ś k (A.deeper (envOfC qual (ć st) s.heap.objs.size f cdv))→
   fB (pF CX P w K mg base N qual (ć st) f cdv A outer s H E) (ŋ st) (tS ⟨K,cm⟩ (λ_=>E) mb)):Ĭ P w K mg base CX (k+1) f fd ps (aH ⟨K,cm⟩ ps.length (Ł ps.length N.length mb)):=by
 obtain⟨oc,od,kV,doc,pm,an,cdv,ct,osl,rfl,lk,hcd⟩:=F.ex
 refine JF lk hcd S (λvs H Q E ⟨F,ps',h1,_,h2,_⟩=>by rw[<-Paired.length h2];exact h1) λA outer s H vs Q E hr hsp=>?_
 obtain⟨F,ps',h1,h2,h3,h4⟩:=hsp
 refine⟨_,hbody cdv A outer s H E hr,ctx0 F H,F,startP N.length ps',Rel.start h2 h3,?_⟩
 unfold Ł at h4
 rw[if_pos h1] at h4
 cases e:mb (startP N.length ps') with
 |bad=>rw[e] at h4;exact h4
 |exc x ρ'=>rw[e] at h4;exact λσ' C d F' H' rel s1 q=>h4 C d F' H' rel.gr q
 |ok fl ρ'=>
  rw[e] at h4
  cases fl with
  |nx=>exact λσ' F' H' rel s1=>h4 .non F' H' rel.gr (Rep.non (K:=⟨K,cm⟩) (F:=F'))
  |bk=>exact h4.elim
  |ct=>exact h4.elim
  |rt r=>
   intro v σ' F' H' rel s1 q
   refine h4 v F' H' rel.gr ?_
   cases r with
   |sh p=>exact q
   |ow qs=>
    obtain⟨a,vs',e1,e2,e3,e4,_,e5⟩:=q
    exact⟨a,vs',e1,e2,e3,e4,e5⟩
   |ot qs ts rs=>
    obtain⟨p,a,xs,vs',ys,e1,e0,ex,e2,e3,e4,_,e5⟩:=q
    exact⟨p,a,xs,vs',ys,e1,e0,ex,e2,e3,e4,e5⟩
def fnQ{x qual:Str}{st:Stmt}{f:Addr}{fd:FuncData}{N ps:List Str}{k n j:Nat}{mb:M Fl}{mf:MF}(F:Hl K x qual st f fd)(S:ď N ps (ć st))(hn:ps.length=n)(hj:N.length=j)(hf:mf=Ł n j mb)
 (hbody:∀(cdv:Value) (A:Around) (outer:List Env) (s:Shared) (H:Hp) (E:XK),Ś k (A.deeper (envOfC qual (ć st) s.heap.objs.size f cdv))→
   fB (pF CX P w K mg base N qual (ć st) f cdv A outer s H E) (ŋ st) (tS ⟨K,cm⟩ (λ_=>E) mb)):Ĭ P w K mg base CX (k+1) f fd ps (aH ⟨K,cm⟩ n mf):=by
 subst hn hj hf
 exact fnP F S hbody
end
def ě(mf:MF)(mr:M (List Slot)):M RV:=λρ=>(mr ρ).bind λps ρ1=>match mf ps with
 | .ret r=>.ok r ρ1
 | .exc x=>.exc x ρ1
 | .bad=>.bad
section
variable{X:Cx}{cm:String->Addr}{E:L2.St->XK}{CX:gK}{k n:Nat}{f:Addr}{fd:FuncData}{ps:List Str}{mf:MF}{mr:M (List Slot)}{x:Str}{p pos:Pos}{e:Expr}{es:List Expr}
def HW{sp:Sp}{pins:List (Addr×Obj)}{σ:L2.St}{H:Hp}{s:Shared}{Q:VK}{us:List Value}{vs:List V}(F:Ĭ X.prog X.w X.K X.mg X.base CX k f fd ps sp)(hr:Ś k X.A)(hb:Binds X.K fd ps [])(hx:dg CX X E)
 (I:Inv X pins σ H s)(r:Vals vs us)(h:sp vs H Q (E σ)):wpAny (model X.prog X.w) X.A (call (.ref f) us) (EP X pins σ Q) X.xe s:=by
 have hl:(us ++ []).length=ps.length:=by rw[List.append_nil,<-r.length];exact F.len _ _ _ _ h
 have hbd:=hb s us I.Aq hl
 rw[List.append_nil] at hbd
 refine wpAny_call (codeAny_mono (F.run X.A X.stack s H ⟨us,[]⟩ us vs Q (E σ) hr I.env0 hbd r h) λr s' hq=>?_)
 cases r with
 |error e=>exact hx pins σ H s e s' I hq
 |ok fl=>
  cases fl with
  |ret u=>exact I.after hq
  |next=>exact False.elim hq
  |brk=>exact False.elim hq
  |cont=>exact False.elim hq
def Cg{c:Ctx}{F1 H1:Hp}{σ:L2.St}{ρ1:ĸ}{Q:VK}{ps:List Slot}{vs:List V}(hlen:(∃r,mf ps=r/\∀z,r=z->z≠ .bad)->ps.length=n)(Ċ:Rel (kk X cm) c F1 H1 σ ρ1)(r1:Paired (ſ (kk X cm) F1 H1) ps vs)
 (h:ż (kk X cm) E (rO (kk X cm)) c F1 H1 σ Q (match mf ps with| .ret r=>.ok r ρ1| .exc x=>.exc x ρ1| .bad=>.bad)):aH (kk X cm) n mf vs H1 Q (E σ):=by
 refine⟨F1,ps,?_,Ċ.sub,r1,?_⟩
 ·refine hlen ⟨_,rfl,λz hz hb=>?_⟩
  rw[hz,hb] at h
  exact h
 ·cases em:mf ps with
  |bad=>rw[em] at h;exact h
  |exc x=>rw[em] at h;exact λC d F' H' g rx=>h C d F' H' (Ċ.call g) g.f rx
  |ret r=>
   rw[em] at h
   intro v F' H' g rf
   refine h v F' H' (Ċ.call g) g.f g.h ?_
   cases r with
   |sh p=>exact rf
   |ow qs=>
    obtain⟨a,vs',e1,e2,e3,e4,e5⟩:=rf
    exact⟨a,vs',e1,e2,e3,Ċ.base.free e4,Ċ.pO g.f (Ċ.fresh e4),e5⟩
   |ot qs ts rs=>
    obtain⟨p,a,xs,vs',ys,e1,e0,ex,e2,e3,e4,e5⟩:=rf
    exact⟨p,a,xs,vs',ys,e1,e0,ex,e2,e3,Ċ.base.free e4,Ċ.pO g.f (Ċ.fresh e4),e5⟩
def Ci{n k:Nat}{mb:M Fl}{ps:List Slot}(h:∃r,Ł n k mb ps=r/\∀z,r=z->z≠ .bad):ps.length=n:=by
 obtain⟨r,h1,h2⟩:=h
 unfold Ł at h1
 by_cases hl:ps.length=n
 ·exact hl
 ·rw[if_neg hl] at h1
  exact absurd h1.symm (λz=>h2 .bad (by rw[<-h1]) rfl)
def QC(F:Ĭ X.prog X.w X.K X.mg X.base CX k f fd ps (aH (kk X cm) n mf))(hlen:∀{ps:List Slot},(∃r,mf ps=r/\∀z,r=z->z≠ .bad)->ps.length=n)(hr:Ś k X.A)(hg:Gl X x)(hm:X.mg x=some (.ref f))(hk:PySem.W.keepIn X.K (.ref f)=true)(hb:Binds X.K fd ps [])(hx:dg CX X E)
 (ha:PA X (e::es) (tA (kk X cm) E mr))(hdb:(x== ("__debug__" :Str))=false:=by decide)(he:starEach (e::es) X.env=(false,eval e X.env)::starEach es X.env:=by exact ŵ rfl)(hpl:(backTo pos (starEach es X.env)).any (·.1)=false:=by rfl) :
 PE X (.Call (.Name x p) (e::es) [] pos) (tO (kk X cm) E (ě mf mr)):=by
 intro pins s σ H Q I h
 obtain⟨c,F,ρ,rel,h⟩:=h
 refine wpAny_Call_Name_kw (pC I hg hm ?_ hdb)
 refine PySem.W.callWith_K (h₀:= X.base) I.ok.mod.YG hk (Ń (ha pos pins s σ H (λvs H1=>aH (kk X cm) n mf vs H1 Q (E σ)) I ⟨c,F,ρ,rel,h.bind λps' ρ1 vs F1 H1 Ċ _ _ r1 h1=>Cg hlen Ċ r1 h1⟩) λus s1 ⟨vs,H1,I1,r,q⟩=>⟨I1.Aq,?_⟩) he hpl
 exact HW (by assumption) hr hb hx I1 r q
end
def bF(m:M PV):M (List PV):=λρ=>(m ρ).bind λp ρ1=>match p with
 | .lst ps=>.ok ps ρ1
 | .tup ps=>.ok ps ρ1
 | .str z=>.ok (z.cps.toList.map λc=>.str ⟨#[c]⟩) ρ1
 |_=>.bad
section
variable{X:Cx}{cm:String->Addr}{E:L2.St->XK}{tg:Expr}
def Zbb(K:PySem.W.Frag)(tl:TE):TI:=λσ H R=>tl σ H λx H1=>(∃a,x=.ref a/\(∃xs,Ţ K H1 a xs)/\R (Va K a) H1)\/(∃a,x=.ref a/\(∃xs,bU K H1 a xs)/\R (Itt K a) H1)\/∃z,x=.str z/\R (Its z) H1
def Cj{l:Expr}{tl:TE}(hl:PE X l tl):PI X tg l (Zbb X.K tl):=by
 intro pins s σ H R I h
 refine Ń (hl pins s σ H _ I h) λv s1 ⟨x,H1,I1,r1,q1⟩=>?_
 rcases q1 with⟨a,e,⟨xs,hq⟩,q⟩|⟨a,e,⟨xs,hq⟩,q⟩|⟨z,e,q⟩
 ·subst e
  cases r1
  obtain⟨its,rv,p,hz⟩:=I1.list hq
  refine wpAny_pyIter_list p.isList ?_
  refine⟨s1.heap.objs.size,[s1.heap.objs.size],_,_,H1,rfl,I1.kept (t':=s1.toks) λb o e=>Heap.get?_push_of_some _ e,yU a _,⟨_,Heap.get?_push_size _ rfl,rfl,rfl⟩,λb hb=>?_,q⟩
  have e:b=s1.heap.objs.size:=by simpa using hb
  subst e
  exact I1.Az (Nat.le_refl _) (I1.hok.fresh (Nat.le_refl _))
 ·subst e
  cases r1
  obtain⟨its,rv,p,hz⟩:=I1.tuple hq
  refine wpAny_pyIter_tuple (show s1.heap.IsTuple a its.toArray from p) ?_
  refine⟨s1.heap.objs.size,[s1.heap.objs.size],_,_,H1,rfl,I1.kept (t':=s1.toks) λb o e=>Heap.get?_push_of_some _ e,uI a _,⟨_,Heap.get?_push_size _ rfl,rfl,rfl⟩,λb hb=>?_,q⟩
  have e:b=s1.heap.objs.size:=by simpa using hb
  subst e
  exact I1.Az (Nat.le_refl _) (I1.hok.fresh (Nat.le_refl _))
 ·subst e
  obtain⟨t,rfl⟩:=r1
  have fin:∀ty,(∀A:Around,A.handled=none->Walks X.prog X.w A s1.heap.objs.size [s1.heap.objs.size] [s1.heap.objs.size] z.cps.size (SignAt z) (λi h=>h.IsStrIter s1.heap.objs.size ty z t i))->
   (∀(A:Around) (i:Nat) (s:Shared) (Q:Value->Shared->Prop) (E:Value->Shared->Prop),s.heap.IsStrIter s1.heap.objs.size ty z t i->Q (.ref s1.heap.objs.size) s->wpAny (model X.prog X.w) A (pyIter (.ref s1.heap.objs.size)) Q E s)->
   (["enumerate","zip","dict_itemiterator","dict_reverseitemiterator","odict_iterator","itertools.zip_longest","itertools.pairwise"].contains ty=false)->
   PIE X pins σ tg R (.ref s1.heap.objs.size) {s1 with heap:=s1.heap.push {cls:=.type ty,data:=.fields #[.str z t,.int 0 0]}}:=λty hW hS hty=>by
   refine⟨s1.heap.objs.size,[s1.heap.objs.size],_,_,H1,rfl,I1.kept (t':=s1.toks) λb o e=>Heap.get?_push_of_some _ e,zx _ z t ty hW hS hty,⟨_,Heap.get?_push_size _ rfl,rfl,rfl⟩,λb hb=>?_,q⟩
   have e:b=s1.heap.objs.size:=by simpa using hb
   subst e
   exact I1.Az (Nat.le_refl _) (I1.hok.fresh (Nat.le_refl _))
  cases ha:z.cps.all (·< 128) with
  |true=>exact wpAny_pyIter_ascii ha (fin _ (λA hA=>Walks.strAscii hA _ z t) (λA i s Q E st q=>wpAny_pyIter_striter_ascii st q) (by decide))
  |false=>exact wpAny_pyIter_wide ha (fin _ (λA hA=>Walks.strWide hA _ z t) (λA i s Q E st q=>wpAny_pyIter_striter_wide st q) (by decide))
def Ck{l:Expr}{m:M PV}(hl:PE X l (tV (kk X cm) E m)):PI X tg l (tI (kk X cm) E (bF m)):=λpins s σ H R I h=>Cj hl pins s σ H R I (by
 obtain⟨c,F,ρ,rel,h⟩:=h
 refine⟨c,F,ρ,rel,h.bind λp ρ1 v F1 H1 Ċ s1 s2 q h1=>?_⟩
 cases p with
 |lst ps=>
  have q':Rep (kk X cm) F1 (.lst ps) v:=q
  unfold Rep at q'
  obtain⟨a,vs,rfl,e1,e2⟩:=q'
  refine .inl ⟨a,rfl,⟨vs,Ċ.sub.seq e1⟩,h1 _ F1 H1 Ċ (Same.refl _) (Same.refl _) ?_⟩
  intro c' i F2 H2 σ2 ρ2 Ĩ sF _
  have hq:Ţ X.K H2 a vs:=(sF.trans Ĩ.sub).seq e1
  refine⟨λp hp=>?_,λhi=>⟨vs,hq,by rw[hi,e2.length];exact Nat.le_refl _⟩⟩
  obtain⟨u,hu,ru⟩:=bB e2.pr hp
  refine⟨⟨vs,u,hq,hu⟩,λx H' ⟨hH,hx⟩=>?_⟩
  subst hH
  have:vs[i]?=some x:=hx vs hq
  rw[hu] at this
  cases this
  exact⟨F2,Ĩ,Same.refl _,Same.refl _,Rep.same sF p u ru⟩
 |tup ps=>
  have q':Rep (kk X cm) F1 (.tup ps) v:=q
  unfold Rep at q'
  obtain⟨a,vs,rfl,e1,e2⟩:=q'
  refine .inr (.inl ⟨a,rfl,⟨vs,bU.of (Ċ.sub _ _ e1)⟩,h1 _ F1 H1 Ċ (Same.refl _) (Same.refl _) ?_⟩)
  intro c' i F2 H2 σ2 ρ2 Ĩ sF _
  have hq:bU X.K H2 a vs:=bU.of ((sF.trans Ĩ.sub) _ _ e1)
  refine⟨λp hp=>?_,λhi=>⟨vs,hq,by rw[hi,e2.length];exact Nat.le_refl _⟩⟩
  obtain⟨u,hu,ru⟩:=bB e2.pr hp
  refine⟨⟨vs,u,hq,hu⟩,λx H' ⟨hH,hx⟩=>?_⟩
  subst hH
  have:vs[i]?=some x:=hx vs hq
  rw[hu] at this
  cases this
  exact⟨F2,Ĩ,Same.refl _,Same.refl _,Rep.same sF p u ru⟩
 |str z=>
  have q':v=.str z:=by have q':Rep (kk X cm) F1 (.str z) v:=q;unfold Rep at q';exact q'
  subst q'
  refine .inr (.inr ⟨z,rfl,h1 _ F1 H1 Ċ (Same.refl _) (Same.refl _) ?_⟩)
  intro c' i F2 H2 σ2 ρ2 Ĩ sF _
  refine⟨λp hp=>?_,λhi=>by rw[hi,List.length_map];show _=_;simp⟩
  rw[List.getElem?_map] at hp
  cases ez:z.cps.toList[i]? with
  |none=>rw[ez] at hp;cases hp
  |some cc=>
   rw[ez] at hp
   cases hp
   refine⟨by have:=(List.getElem?_eq_some_iff.mp ez).1;show i<z.cps.size;simpa using this,λx H' ⟨hH,c2,hc,hx⟩=>?_⟩
   subst hH hx
   rw[ez] at hc
   cases hc
   exact⟨F2,Ĩ,Same.refl _,Same.refl _,Rep.str⟩
 |_=>exact h1.elim)
def ŝ(i:Nat):M (List PV):=λρ=>match ρ[i]? with
 |some (.bw ps)=>.ok ps ρ
 |some (.sh (.lst ps))=>.ok ps ρ
 |some (.sh (.tup ps))=>.ok ps ρ
 |some (.sh (.str z))=>.ok (z.cps.toList.map λc=>.str ⟨#[c]⟩) ρ
 |some (.ow ps)=>.ok ps (ρ.set i (.sh (.lst ps)))
 |_=>.bad
def aJ(i:Nat){x:Str}{px:Pos}(hN:X.N[i]?=some x:=by rfl)(hv:wz X.env.scope x:=by first|exact Or.inl rfl|exact Or.inr (Or.inl rfl)|exact Or.inr (Or.inr rfl))(hd:(x== ("__debug__" :Str))=false:=by decide)
 (hcd:(x== ("__classdict__" :Str))=false:=by decide):PI X tg (.Name x px) (tI (kk X cm) E (ŝ i)):=λpins s σ H R I h=>by
 obtain⟨c,F,ρ,rel,h⟩:=h
 cases e:ρ[i]? with
 |none=>unfold ŝ at h;rw[e] at h;exact h.elim
 |some sl=>
  have HX:ż (kk X cm) E (rIt (kk X cm)) c F H σ R (bF (Ď i) ρ)->wpAny (model X.prog X.w) X.A (eval (.Name x px) X.env) (λv s1=>wpAny (model X.prog X.w) X.A (pyIter v) (PIE X pins σ tg R) X.xe s1) X.xe s:=λh'=>
   Ck (v_var i hN hv hd hcd) pins s σ H R I ⟨c,F,ρ,rel,h'⟩
  unfold ŝ at h
  rw[e] at h
  cases sl with
  |no=>exact h.elim
  |rc C ns ps=>exact h.elim
  |ot ps qs rs=>exact h.elim
  |ol BR=>exact h.elim
  |od _ _=>exact h.elim
  |bd _ _=>exact h.elim
  |ow ps=>exact HX (by unfold bF Ď;rw[e];exact h)
  |sh p=>
   cases p with
   |lst ps=>exact HX (by unfold bF Ď;rw[e];exact h)
   |tup ps=>exact HX (by unfold bF Ď;rw[e];exact h)
   |str z=>exact HX (by unfold bF Ď;rw[e];exact h)
   |_=>exact h.elim
  |bw ps=>
   obtain⟨a,vs,h1,h2,h3⟩:=rel.slot i _ e
   refine Cj (aZ hN hv hd hcd) pins s σ H R I ⟨.ref a,at_of h1,.inl ⟨a,rfl,⟨vs,Ţ.of (rel.lent a _ h2).1⟩,h _ F H rel (Same.refl _) (Same.refl _) ?_⟩⟩
   intro c' j F2 H2 σ2 ρ2 Ĩ sF sL
   have hq:Ţ X.K H2 a vs:=Ţ.of (sL a _ h2)
   refine⟨λp hp=>?_,λhi=>⟨vs,hq,by rw[hi,h3.length];exact Nat.le_refl _⟩⟩
   obtain⟨u,hu,ru⟩:=bB h3.pr hp
   refine⟨⟨vs,u,hq,hu⟩,λx H' ⟨hH,hx⟩=>?_⟩
   subst hH
   have:vs[j]?=some x:=hx vs hq
   rw[hu] at this
   cases this
   exact⟨F2,Ĩ,Same.refl _,Same.refl _,Rep.same sF p u ru⟩
def aK(lo:Int)(n:Nat)(c:Int):List PV:=(List.range n).map λ(i:Nat)=>.int (lo+i*c)
def aL(i:Int):Bool:=decide (i.natAbs<1152921504606846976)
def dN:List PV->Option (List PV)
 | [.int j]=>if aL j=true then some (aK 0 j.toNat 1) else none
 |_=>none
def oA:List PV->Option (List PV)
 | [.int i,.int j]=>if aL i=true/\aL j=true then some (aK i (j-i).toNat 1) else none
 |_=>none
def ŷ(f:List PV->Option (List PV))(mr:M (List PV)):M (List PV):=λρ=>(mr ρ).bind λps ρ1=>Res.iR (f ps) ρ1
def vg{lo c:Int}{n i:Nat}{p:PV}(h:(aK lo n c)[i]?=some p):i<n/\p=.int (lo+i*c):=by
 unfold aK at h
 by_cases hn:i<n
 ·rw[List.getElem?_map,List.getElem?_range hn] at h
  exact⟨hn,(Option.some.inj h).symm⟩
 ·rw[List.getElem?_eq_none (by simpa using hn)] at h
  cases h
def vh{lo c:Int}{n:Nat}:(aK lo n c).length=n:=by simp[aK]
def Cm{K:KK}{Lh F:Hp}(lo:Int)(n:Nat):rN K Lh F (Vb lo n) (aK lo n 1):=λc i F2 H σ ρ rel sF _=>
 ⟨fun p hp=>by
   obtain⟨h1,rfl⟩:=vg hp
   refine⟨h1,λx H' ⟨e1,e2⟩=>?_⟩
   subst e1 e2
   exact⟨F2,rel,Same.refl _,Same.refl _,by rw[Int.mul_one];exact Rep.int⟩,λhi=>by rw[vh] at hi;subst hi;exact Nat.le_refl _⟩
def gU{i:Int}(h:aL i=true): -(2 ^ 60)<=i/\i<2 ^ 60:=by
 unfold aL at h
 rw[decide_eq_true_eq] at h
 omega
variable{a b d:Expr}{p pos:Pos}{mr:M (List PV)}
def kh{K:KK}{F:Hp}{ps:List PV}{vs:List V}(h:ĉ K F ps vs):(∀i r,ps=.int i::r->∃r',vs=.int i::r'/\ĉ K F r r')/\(ps=[]->vs=[]):=by
 refine⟨λi r e=>?_,λe=>?_⟩
 ·subst e
  unfold ĉ at h
  obtain⟨x,r',h1,h2,h3⟩:=h
  unfold Rep at h2
  exact⟨r',by rw[h1,h2],h3⟩
 ·subst e
  unfold ĉ at h
  exact h
def aR(hg:Gl X "range")(hm:X.mg "range" =none)(ha:PA X [a] (tL (kk X cm) E mr))(hs:starEach [a] X.env=[(false,eval a X.env)]:=by exact ŵ rfl):PI X tg (.Call (.Name "range" p) [a] [] pos) (tI (kk X cm) E (ŷ dN mr)):=
 λpins s σ H R I h=>yV hg hm ha hs pins s σ H R I (by
  obtain⟨c,F,ρ,rel,h⟩:=h
  refine⟨c,F,ρ,rel,h.bind λps ρ1 vs F1 H1 Ċ s1 s2 q h1=>?_⟩
  have q':ĉ (kk X cm) F1 ps vs:=q
  unfold dN at h1
  split at h1
  ·rename_i j
   split at h1
   ·rename_i hj
    obtain⟨r',e1,e2⟩:=(kh q').1 _ _ rfl
    cases(kh e2).2 rfl
    obtain⟨k1,k2⟩:=gU hj
    exact⟨j,e1,by omega,by omega,h1 _ F1 H1 Ċ (Same.refl _) (Same.refl _) (Cm 0 j.toNat)⟩
   ·exact h1.elim
  ·exact h1.elim)
def rP(hg:Gl X "range")(hm:X.mg "range" =none)(ha:PA X [a,b] (tL (kk X cm) E mr))(hs:starEach [a,b] X.env=[(false,eval a X.env),(false,eval b X.env)]:=by exact Qv rfl rfl)(hs2:starEach [b] X.env=[(false,eval b X.env)]:=by exact ŵ rfl) :
 PI X tg (.Call (.Name "range" p) [a,b] [] pos) (tI (kk X cm) E (ŷ oA mr)):=
 λpins s σ H R I h=>yW hg hm ha hs hs2 pins s σ H R I (by
  obtain⟨c,F,ρ,rel,h⟩:=h
  refine⟨c,F,ρ,rel,h.bind λps ρ1 vs F1 H1 Ċ s1 s2 q h1=>?_⟩
  have q':ĉ (kk X cm) F1 ps vs:=q
  unfold oA at h1
  split at h1
  ·rename_i i j
   split at h1
   ·rename_i hj
    obtain⟨r',e1,e2⟩:=(kh q').1 _ _ rfl
    obtain⟨r2,e3,e4⟩:=(kh e2).1 _ _ rfl
    cases(kh e4).2 rfl
    subst e3
    obtain⟨k1,k2⟩:=gU hj.1
    obtain⟨k3,k4⟩:=gU hj.2
    exact⟨i,j,e1,⟨by omega,by omega,by omega,by omega⟩,h1 _ F1 H1 Ċ (Same.refl _) (Same.refl _) (Cm i (j-i).toNat)⟩
   ·exact h1.elim
  ·exact h1.elim)
end
def gW:Slot->Slot
 | .sh p=>.sh p
 | .ow ps=>.bw ps
 | .bw ps=>.bw ps
 | .od t kvs=>.bd t kvs
 | .bd t kvs=>.bd t kvs
 |_=>.no
def fU(js:List Nat)(nl:Nat)(ρ:ĸ):ĸ:=js.map (λ(j:Nat)=>gW ((ρ[j]?).getD .no))++List.replicate nl .no
def ŕ(g:Tg)(mt:M Bool)(me:M PV):List PV->ĸ->List PV->Option (List PV)
 | [],_,acc=>some acc
 |p::ps,ρ,acc=>match g p ρ with
  |none=>none
  |some ρ1=>match mt ρ1 with
   | .ok true ρ2=>match me ρ2 with
     | .ok q ρ3=>if acc.length<16777216 then ŕ g mt me ps ρ3 (acc ++ [q]) else none
     |_=>none
   | .ok false ρ2=>ŕ g mt me ps ρ2 acc
   |_=>none
def Ÿ(js:List Nat)(nl:Nat)(mi:M (List PV))(g:Tg)(mt:M Bool)(me:M PV):M RV:=λρ=>(mi ρ).bind λitems ρ1=>match ŕ g mt me items (fU js nl ρ1) [] with
 |some ps=>.ok (.ow ps) ρ1
 |none=>.bad
abbrev EF:L2.St->XK:=λ_ _ _ _=>False
def kj:M Bool:=λρ=>.ok true ρ
section
variable{K:KK}{c:Ctx}{F H:Hp}{σ:L2.St}{ρ:ĸ}
def pW(F H H1:Hp):Ctx:=⟨H1,F,(ctx0 F H).L,λ_ _ _=>True⟩
def Rel.cap(js:List Nat)(nl:Nat)(rel:Rel K c F H σ ρ){D:Addr}{o:HO}(hD:H D=none):Rel K (pW F H (upd H D o)) F (upd H D o) (cA js nl σ) (fU js nl ρ) where
 sub:=rel.sub.trans (Same.upd hD)
 base:=Same.refl _
 f0:=Same.refl _
 b_:=λ_ _ z=>z
 lent:=λa u e=>⟨Same.upd hD a u (bC e).1,(bC e).2⟩
 lb:=fun a e=>by
   cases q:(pW F H (upd H D o)).L a with
   |none=>rfl
   |some u=>
    have e':upd H D o a=none:=e
    rw[Same.upd hD a u (bC q).1] at e'
    cases e'
 len:=by simp[cA,fU]
 slot:= λi s e=>by
  unfold fU at e
  by_cases hi:i<js.length
  ·rw[List.getElem?_append_left (by simpa using hi),List.getElem?_map] at e
   cases ej:js[i]? with
   |none=>rw[ej] at e;cases e
   |some j=>
    rw[ej] at e
    have e':gW ((ρ[j]?).getD .no)=s:=Option.some.inj e
    subst e'
    have hx:((cA js nl σ)[i]?).getD none=(σ[j]?).getD none:=by
     unfold cA
     rw[List.getElem?_append_left (by simpa using hi),List.getElem?_map,ej]
     rfl
    rw[hx]
    cases er:ρ[j]? with
    |none=>trivial
    |some sl=>
     have q:=rel.slot j sl er
     cases sl with
     |no=>trivial
     |sh p=>exact q
     |ow ps=>
      obtain⟨a,vs,h1,h2,h3,h4,h5⟩:=q
      refine⟨a,vs,h1,?_,h5⟩
      show(match F a with|none=>H a|some _=>none)=_
      rw[h3]
      exact h2
     |bw ps=>
      obtain⟨a,vs,h1,h2,h3⟩:=q
      obtain⟨l1,l2⟩:=rel.lent a _ h2
      refine⟨a,vs,h1,?_,h3⟩
      show(match F a with|none=>H a|some _=>none)=_
      rw[l2]
      exact l1
     |rc C ns ps=>trivial
     |ot ps qs rs=>trivial
     |ol BR=>trivial
     |od t kvs=>
      obtain⟨a,u,h1,h2,h3,h4,h5⟩:=q
      refine⟨a,u,h1,.inl ?_,h5⟩
      show(match F a with|none=>H a|some _=>none)=_
      rw[h3]
      exact h2
     |bd t kvs=>
      obtain⟨a,u,h1,h2,h3⟩:=q
      refine⟨a,u,h1,h2.imp (λh2=>?_) id,h3⟩
      obtain⟨l1,l2⟩:=rel.lent a _ h2
      show(match F a with|none=>H a|some _=>none)=_
      rw[l2]
      exact l1
  ·rw[List.getElem?_append_right (by simpa using hi),List.getElem?_replicate] at e
   split at e
   ·cases e;trivial
   ·cases e
 sep:=λi j a h1 _=>by
  exfalso
  obtain⟨s,y,h1,_,h2⟩:=h1
  have h2:=jX h2
  unfold fU at h1
  by_cases hi:i<js.length
  ·rw[List.getElem?_append_left (by simpa using hi),List.getElem?_map] at h1
   cases ej:js[i]? with
   |none=>rw[ej] at h1;cases h1
   |some j=>
    rw[ej] at h1
    have e':gW ((ρ[j]?).getD .no)=s:=Option.some.inj h1
    subst e'
    cases q:(ρ[j]?).getD .no<;>rw[q] at h2<;>cases h2
  ·rw[List.getElem?_append_right (by simpa using hi),List.getElem?_replicate] at h1
   split at h1
   ·cases h1;cases h2
   ·cases h1
def Rel.rebase{H1 F1:Hp}{D:Addr}{ys zs:List V}(hD:H1 D=none)(hF:F1 D=none)(rel:Rel K (pW F1 H1 (upd H1 D (.lst ys))) F H σ ρ):Rel K (pW F1 H1 (upd H1 D (.lst zs))) F (upd H D (.lst zs)) σ ρ:= by
 have fD:F D=none:=rel.b_ D (by show upd H1 D _ D≠none;rw[ē];intro z;cases z) hF
 have lD:∀b u,(pW F1 H1 (upd H1 D (.lst ys))).L b=some u->b≠D:=λb u e z=>by
  have q:=(bC (F:=F1) (H:=H1) (a:=b) (u:=u) e).1
  rw[z,hD] at q
  cases q
 have ne:∀b,(pW F1 H1 (upd H1 D (.lst ys))).B b=none->b≠D:=λb z q=>by
  subst q
  have z':upd H1 b (.lst ys) b=none:=z
  rw[ē] at z';cases z'
 have back:∀b,b≠D->(pW F1 H1 (upd H1 D (.lst ys))).B b=none->(pW F1 H1 (upd H1 D (.lst zs))).B b=none:=λb hb z=>by
  have z':upd H1 D (.lst ys) b=none:=z
  show upd H1 D (.lst zs) b=none
  rw[č hb] at z' ⊢;exact z'
 refine⟨λb u e=>?_,λb u e=>?_,rel.f0,λb h1 h2=>?_,λb u e=>?_,λb e=>?_,rel.len,λi s e=>?_,rel.sep⟩
 ·have hb:b≠D:=λz=>by rw[z,fD] at e;cases e
  rw[č hb];exact rel.sub b u e
 ·by_cases hb:b=D
  ·subst hb
   have e':upd H1 b (.lst zs) b=some u:=e
   rw[ē] at e' ⊢;exact e'
  ·have e':upd H1 D (.lst zs) b=some u:=e
   rw[č hb] at e' ⊢
   exact rel.base b u (by show upd H1 D _ b=some u;rw[č hb];exact e')
 ·refine rel.b_ b (λz=>h1 ?_) h2
  exact back b (ne b z) z
 ·rw[č (lD b u e)]
  exact rel.lent b u e
 ·refine rel.lb b ?_
  have z':upd H1 D (.lst zs) b=none:=e
  have hb:b≠D:=λq=>by rw[q,ē] at z';cases z'
  show upd H1 D (.lst ys) b=none
  rw[č hb] at z' ⊢;exact z'
 ·have q:=rel.slot i s e
  cases s with
  |no=>trivial
  |sh p=>exact q
  |bw ps=>exact q
  |ow ps=>
   obtain⟨a,vs,q1,q2,q3,q4,q5⟩:=q
   have hb:=ne a q4
   exact⟨a,vs,q1,by rw[č hb];exact q2,q3,back a hb q4,q5⟩
  |bd t kvs=>exact q
  |od t kvs=>
   obtain⟨a,u,q1,q2,q3,q4,q5⟩:=q
   have hb:=ne a q4
   exact⟨a,u,q1,by rw[č hb];exact q2,q3,back a hb q4,q5⟩
  |rc C ns ps=>
   obtain⟨a,dx,fs,q1,q2,q3,q4,q5⟩:=q
   have hb:=ne a q4
   exact⟨a,dx,fs,q1,by rw[č hb];exact q2,q3,back a hb q4,q5⟩
  |ot ps qs rs=>
   obtain⟨p,a,xs,vs,ys,q1,q0,qx,q2,q3,q4,q5⟩:=q
   have hb:=ne a q4
   exact⟨p,a,xs,vs,ys,q1,q0,qx,by rw[č hb];exact q2,q3,back a hb q4,q5⟩
  |ol BR=>
   obtain⟨p,as,q1,q0,qn,qp⟩:=q
   refine⟨p,as,q1,q0,qn,rH qp λa ps _ ⟨vs,q2,q3,q4,q5⟩=>?_⟩
   have hb:=ne a q4
   exact⟨vs,by rw[č hb];exact q2,q3,back a hb q4,q5⟩
end
section
variable{X:Cx}{cm:String->Addr}{E:L2.St->XK}{elt tg iter:Expr}{ifs:List Expr}{scope:Scope}{pos:Pos}{mi:M (List PV)}{g:Tg}{mt:M Bool}{me:M PV}
def kE:Af X [] (tB (kk X cm) E kj):=λpins s σ H Q I h=>Hs pins s σ H Q I (by
 obtain⟨c,F,ρ,rel,h⟩:=h
 exact h true F H rel (Same.refl _) (Same.refl _) rfl)
def vm{a:Expr}(h:PT X a (tB (kk X cm) E mt)):Af X [a] (tB (kk X cm) E mt):=Ht h
def Cp(K:KK):RR (List PV) It:=λ_ _ _ F H items J=>rN K (ctx0 F H).L F J items
def Wg{K:KK}{c:Ctx}{F H:Hp}{σ:L2.St}{ρ:ĸ}(rel:Rel K c F H σ ρ){b:Addr}{u:HO}(e:c.L b=some u):(ctx0 F H).L b=some u:=by
 obtain⟨l1,l2⟩:=rel.lent b u e
 show(match F b with|none=>H b|some _=>none)=some u
 rw[l2]
 exact l1
def JQ(h:PI X tg iter (tI (kk X cm) E mi)):PI X tg iter (tG (kk X cm) E (Cp (kk X cm)) mi):=λpins s σ H R I ⟨c,F,ρ,rel,q⟩=>h pins s σ H R I ⟨c,F,ρ,rel,ż.bind (R':=Cp (kk X cm)) (f:=λp ρ=>.ok p ρ) (by revert q;cases mi ρ <;> exact id) λp ρ1 v F1 H1 Ċ s1 s2 q h1=>h1 v F1 H1 Ċ (Same.refl _) (Same.refl _) λc' i F2 H2 σ2 ρ2 Ĩ sF sL=>q c' i F2 H2 σ2 ρ2 Ĩ sF λb u e=>sL b u (Wg Ċ e)⟩
def rQ{js:List Nat}{nl:Nat}{σ:L2.St}{H:Hp}{Q:VK}(h:tO (kk X cm) E (Ÿ js nl mi g mt me) σ H Q):Bu js nl (tG (kk X cm) E (Cp (kk X cm)) mi) (tT (kk X cm) g) (tB (kk X cm) EF mt) (tV (kk X cm) EF me) σ H Q:=by
 obtain⟨c,F,ρ,rel,h⟩:=h
 refine⟨c,F,ρ,rel,h.bind λitems ρ1 J F1 H1 Ċ s1 s2 ito h1=>?_⟩
 intro D hD
 have hF:F1 D=none:=Ċ.sub.free hD
 cases ec:ŕ g mt me items (fU js nl ρ1) [] with
 |none=>rw[ec] at h1;exact h1.elim
 |some res=>
  rw[ec] at h1
  refine⟨λi m σ' H'=>∃F' ρ' ys acc,i<=items.length/\m=items.length-i/\Rel (kk X cm) (pW F1 H1 (upd H1 D (.lst ys))) F' H' σ' ρ'/\ĉ (kk X cm) F' acc ys/\ŕ g mt me (items.drop i) ρ' acc=some res,
   ⟨_,F1,_,[],[],Nat.zero_le _,rfl,?_,ĉ.nil,ec⟩,?_⟩
  ·exact Ċ.cap js nl hD
  ·rintro i m σ2 H2 ⟨F2,ρ2,ys,acc,hle,rfl,Ĩ,ra,h2⟩
   have s12:Same F1 F2:=Ĩ.f0
   obtain⟨go,stop⟩:=ito _ i F2 H2 σ2 ρ2 Ĩ s12 λb u e=>(Ĩ.lent b u e).1
   have hH2:H2 D=some (.lst ys):=Ĩ.base D _ (show upd H1 D _ D=_ from ē)
   have fD:F2 D=none:=Ĩ.b_ D (by show upd H1 D _ D≠none;rw[ē];intro z;cases z) hF
   by_cases hlt:i<items.length
   ·obtain⟨g1,g2⟩:=go items[i] (List.getElem?_eq_getElem hlt)
    rw[List.drop_eq_getElem_cons hlt] at h2
    unfold ŕ at h2
    refine .inr ⟨g1,_,λσ' H' z=>z,λx H3 hy=>?_⟩
    obtain⟨F3,aP,s3,YS,rp⟩:=g2 x H3 hy
    refine⟨_,F3,ρ2,items[i],aP,rp,?_⟩
    cases eg:g items[i] ρ2 with
    |none=>rw[eg] at h2;cases h2
    |some ρ3=>
     rw[eg] at h2
     dsimp only at h2
     intro σ4 Ca
     refine⟨_,F3,ρ3,Ca,?_⟩
     cases em:mt ρ3 with
     |bad=>rw[em] at h2;cases h2
     |exc x ρ4=>rw[em] at h2;cases h2
     |ok b ρ4=>
      rw[em] at h2
      intro b' F5 H5 Wh s5 Gs eb
      have eb':b=b':=eb
      subst eb'
      cases b with
      |false=>
       rw[if_neg Bool.false_ne_true]
       dsimp only at h2
       exact⟨items.length-(i+1),by omega,F5,ρ4,ys,acc,hlt,rfl,Wh,ĉ.same (s3.trans s5) acc ys ra,h2⟩
      |true=>
       rw[if_pos rfl]
       dsimp only at h2
       refine⟨_,F5,ρ4,Wh,?_⟩
       cases ee:me ρ4 with
       |bad=>rw[ee] at h2;cases h2
       |exc x ρ5=>rw[ee] at h2;cases h2
       |ok q ρ5=>
        rw[ee] at h2
        dsimp only at h2
        intro y F6 H6 Wi s6 Ua rq
        split at h2
        ·rename_i hz
         have ra6:=ĉ.same ((s3.trans s5).trans s6) acc ys ra
         refine⟨ys,Wi.base D _ (show upd H1 D _ D=_ from ē),by rw[<-ra6.length,ğ];exact hz,?_⟩
         exact⟨items.length-(i+1),by omega,F6,ρ5,ys ++ [y],acc ++ [q],hlt,rfl,Wi.rebase hD hF,ĉ.append ra6 (ĉ.cons rq ĉ.nil),h2⟩
        ·cases h2
   ·have e:i=items.length:=by omega
    refine .inl ⟨stop e,?_⟩
    rw[List.drop_eq_nil_of_le (by omega)] at h2
    unfold ŕ at h2
    cases h2
    have gr:Gr F1 H1 F2 H2:=⟨λb u e=>Ĩ.base b u (by show upd H1 D _ b=_;rw[č (Ī e hD)];exact e),s12,Ĩ.sub,λb hb hf=>Ĩ.b_ b (by
     show upd H1 D _ b≠none
     by_cases hbD:b=D
     ·rw[hbD,ē];intro z;cases z
     ·rw[č hbD];exact hb) hf⟩
    have Zbc:=Ċ.call gr
    exact h1 _ F2 H2 Zbc s12 gr.h ⟨D,ys,rfl,hH2,fD,Ċ.base.free hD,Ċ.pO gr.f (Ċ.fresh hD),ra⟩
def HY(N':List Str)(js:List Nat)(nl:Nat)(sc:Scope)(hsc:X.env.scope=sc)(hcalm:X.calm=true)
 (hi:PI X.ŀ tg iter (tG (kk X cm) E (Cp (kk X cm)) mi))(hg:∀cl C s H fp,PG (aG X.ŀ N' scope cl C s H fp) tg (tT (kk X cm) g))(ht:∀cl C s H fp,Af (aG X.ŀ N' scope cl C s H fp) ifs (tB (kk X cm) EF mt))(he:∀cl C s H fp,PE (aG X.ŀ N' scope cl C s H fp) elt (tV (kk X cm) EF me))
 (hcap:fJ X.ŀ sc scope N' js)(hlen:js.length+nl=N'.length:=by rfl)
 (hk:scope.kind=.function:=by rfl)(hcell:∀y∈scope.names,y.2=.cell->scope.names.lookup y.1=some .cell:=by decide +kernel)(hnames:∀y∈scope.names,y.2=.local->scope.names.lookup y.1=some .local:=by decide +kernel)
 (hfree:∀y∈scope.names,y.2=.free->(sc.names.lookup y.1=some .cell\/sc.names.lookup y.1=some .free):=by decide +kernel)
 (hs:∀x,foldedSetIterable iter X.env x=pure x:=by intro _;rfl) :
 PE X (.ListComp elt [⟨tg,iter,ifs,0⟩] scope pos) (tO (kk X cm) E (Ÿ js nl mi g mt me)):=
 PE.wk (PE.ŀ (Hu N' js nl sc hsc hcalm hi hg ht he hcap hlen hk hcell hnames hfree hs)) λ_ _ _ h=>rQ h
end
end P
namespace P
open PySem PySem.Spec PyProof.Rows L2 M2 M3 M4
abbrev bits(x:Int):Nat:=Builtin.Int.intBits x
section
variable{X:Cx}{cm:String->Addr}{K:KK}
def JR(K:PySem.W.Frag):R2:=λx y H Q=>∃l b xs zs,x=.ref l/\y=.ref b/\Ţ K H l xs/\Ţ K H b zs/\xs.length+zs.length<=sizeLine/\∀p,H p=none->Q (.ref p) (upd H p (.lst (xs++zs)))
def H_:ş X (binaryOp .Add) (JR X.K):=by
 intro pins s σ H x y v u Q I rx ry h
 obtain⟨l,b,xs,zs,rfl,rfl,hH,hB,hz,q⟩:=h
 cases rx
 cases ry
 obtain⟨its,r,pl,z⟩:=I.list hH
 obtain⟨its2,r2,pl2,z2⟩:=I.list hB
 obtain⟨⟨c1,d1,t1,sl1⟩,n,e,hc,hd,hs⟩:=pl
 obtain⟨⟨c2,d2,t2,sl2⟩,n2,e2,hc2,hd2,hs2⟩:=pl2
 simp only at hc hd hs hc2 hd2 hs2
 subst hc hd hs hc2 hd2 hs2
 have hl:=r.length
 have hl2:=r2.length
 have ea:its.toArray++its2.toArray=(its++its2).toArray:=by simp
 refine concat_meets ⟨_,e,rfl⟩ ⟨_,e2,rfl⟩ noFill_list_add seq_list_add PySem.F.slot_list_add PySem.F.entry_list_add (PySem.F.args_list_add_2 _ _) (list_addW l b its.toArray its2.toArray n n2 none none sl1 sl2 (by simp only[List.size_toArray];omega)) ⟨e,e2,?_⟩
 rw[ea]
 exact⟨.ref _,_,I.Za1 (t':=s.toks) (r.append r2) (by rw[List.length_append];omega),rfl,q _ I.fresh⟩
def JT(K:PySem.W.Frag):R2:=λx y H Q=>∃l b xs zs,x=.ref l/\y=.ref b/\bU K H l xs/\bU K H b zs/\xs≠[]/\zs≠[]/\xs.length+zs.length<=sizeLine/\∀p,H p=none->Q (.ref p) (upd H p (.tup (xs++zs)))
def Ia:ş X (binaryOp .Add) (JT X.K):=by
 intro pins s σ H x y v u Q I rx ry h
 obtain⟨l,b,xs,zs,rfl,rfl,hH,hB,nx,nz,hz,q⟩:=h
 cases rx
 cases ry
 obtain⟨its,r,pl,z⟩:=I.tuple hH
 obtain⟨its2,r2,pl2,z2⟩:=I.tuple hB
 obtain⟨⟨c1,d1,t1,sl1⟩,e,hc,n,hd⟩:=pl
 obtain⟨⟨c2,d2,t2,sl2⟩,e2,hc2,n2,hd2⟩:=pl2
 simp only at hc hd hc2 hd2
 subst hc hd hc2 hd2
 have hl:=r.length
 have hl2:=r2.length
 have ne1:its≠[]:=λz=>by rw[z] at hl;exact nx (List.length_eq_zero_iff.mp hl)
 have ne2:its2≠[]:=λz=>by rw[z] at hl2;exact nz (List.length_eq_zero_iff.mp hl2)
 have ea:its.toArray++its2.toArray=(its++its2).toArray:=by simp
 refine concat_meets ⟨_,e,rfl⟩ ⟨_,e2,rfl⟩ noFill_tuple_add seq_tuple_add PySem.F.slot_tuple_add PySem.F.entry_tuple_add (PySem.F.args_tuple_add_2 _ _) (tuple_addW2 l b its.toArray its2.toArray n n2 d1 d2 sl1 sl2 (by simpa using ne1) (by simpa using ne2) (by simp only[List.size_toArray];omega)) ⟨e,e2,?_⟩
 rw[ea]
 exact⟨.ref _,_,I.laid (o:=.tup (xs++zs)) (t':=s.toks) (λ_ _ q=>Heap.get?_push_of_some _ q) (Nat.le_refl _) ⟨by rw[List.length_append];omega,(its++its2),r.append r2,⟨_,Heap.get?_push_size _ rfl,rfl,_,rfl⟩⟩,rfl,q _ I.fresh⟩
def Ģ:PV->PV->Option RV
 | .int i,.int j=>some (.sh (.int (i+j)))
 | .str i,.str j=>if i.length+j.length<=16777216 then some (.sh (.str (i++j))) else none
 | .lst ps,.lst qs=>if ps.length+qs.length<=16777216 then some (.ow (ps++qs)) else none
 | .tup (p::ps),.tup (q::qs)=>if(p::ps).length+(q::qs).length<=16777216 then some (.sh (.tup ((p::ps)++(q::qs)))) else none
 |_,_=>none
def JV(K:PySem.W.Frag):R2:=λx y H Q=>Vt x y H Q\/(JR K x y H Q\/JT K x y H Q)
def QD:ş X (binaryOp .Add) (JV X.K):=Qi.or (H_.or Ia)
def QF:OpO K (JV K.K) Ģ:=by
 intro c F H σ ρ p q pv v u Q rel r1 r2 e k
 unfold Ģ at e
 split at e
 ·cases e
  cases r1.int
  cases r2.int
  exact .inl (k _ F H rel (Same.refl _) (Same.refl _) (Rep.int (K:=K) (F:=F)))
 ·split at e
  ·rename_i hz
   cases e
   cases r1.str
   cases r2.str
   exact .inl ⟨by rw[ğ];exact hz,k _ F H rel (Same.refl _) (Same.refl _) (Rep.str (K:=K) (F:=F))⟩
  ·cases e
 ·split at e
  ·rename_i hz
   cases e
   obtain⟨a,xs,rfl,h1,h2⟩:=r1.lst rel.sub
   obtain⟨b,ys,rfl,h3,h4⟩:=r2.lst rel.sub
   refine .inr (.inl ⟨a,b,xs,ys,rfl,rfl,h1,h3,by rw[<-h2.length,<-h4.length,ğ];exact hz,λd hd=>?_⟩)
   obtain⟨q1,q2⟩:=Ŷ rel hd (ĉ.append h2 h4)
   exact k _ F _ q1 (Same.refl _) (Same.upd hd) q2
  ·cases e
 ·split at e
  ·rename_i hz
   cases e
   obtain⟨a,xs,rfl,h1,h2⟩:=r1.tup rel.sub
   obtain⟨b,ys,rfl,h3,h4⟩:=r2.tup rel.sub
   have l1:=h2.length
   have l2:=h4.length
   refine .inr (.inr ⟨a,b,xs,ys,rfl,rfl,h1,h3,(λz=>by rw[z] at l1;cases l1),(λz=>by rw[z] at l2;cases l2),by rw[<-l1,<-l2,ğ];exact hz,λl hl=>k _ _ _ (rel.alloc hl) (Same.upd (rel.sub.free hl)) (Same.upd hl) ?_⟩)
   show Rep K _ _ _
   unfold Rep
   exact⟨l,xs++ys,rfl,ē,ĉ.same (Same.upd (rel.sub.free hl)) _ _ (ĉ.append h2 h4)⟩
  ·cases e
 ·cases e
def yZ(g:Int->Int->Int):PV->PV->Option PV
 | .int i,.int j=>some (.int (g i j))
 |_,_=>none
def Gp(C:Int->Int->Bool)(g:Int->Int->Int):PV->PV->Option PV
 | .int i,.int j=>if C i j=true then some (.int (g i j)) else none
 |_,_=>none
def Wj(g:Int->Int->Bool):PV->PV->Option PV
 | .int i,.int j=>some (.bl (g i j))
 |_,_=>none
def Wk{g:Int->Int->Int}:gO K (Bp λi j=>.int (g i j)) (yZ g):=by
 intro c F H σ ρ p q pv v u Q rel r1 r2 e k
 unfold yZ at e
 split at e
 ·cases e
  cases r1.int
  cases r2.int
  exact k _ F H rel (Same.refl _) (Same.refl _) Rep.int
 ·cases e
def QG{g:Int->Int->Bool}:gO K (Bp λi j=>.bl (g i j)) (Wj g):=by
 intro c F H σ ρ p q pv v u Q rel r1 r2 e k
 unfold Wj at e
 split at e
 ·cases e
  cases r1.int
  cases r2.int
  exact k _ F H rel (Same.refl _) (Same.refl _) Rep.bl
 ·cases e
def QH{C:Int->Int->Bool}{C':Int->Int->Prop}{g:Int->Int->Int}(hC:∀i j,C i j=true->C' i j):gO K (mI C' λi j=>.int (g i j)) (Gp C g):=by
 intro c F H σ ρ p q pv v u Q rel r1 r2 e k
 unfold Gp at e
 split at e
 ·split at e
  ·rename_i hc
   cases e
   cases r1.int
   cases r2.int
   exact⟨hC _ _ hc,k _ F H rel (Same.refl _) (Same.refl _) Rep.int⟩
  ·cases e
 ·cases e
def ao:=yZ λi j=>i-j
def QJ:gO K (Bp λi j=>.int (i-j)) ao:=Wk
def iU(_ j:Int):Bool:=decide (j≠0) && decide (bits j<=8000)
def ı:=Gp iU λi j=>i.fdiv j
def QK:gO K (mI zu λi j=>.int (i.fdiv j)) ı:=QH λi j h=>by unfold iU at h;simpa[zu] using h
def rT(_ j:Int):Bool:=decide (j≠0)
def Ġ:=Gp rT λi j=>i.fmod j
def QL:gO K (mI (λ_ j=>j≠0) λi j=>.int (i.fmod j)) Ġ:=QH λi j h=>by unfold rT at h;simpa using h
def rW(i j:Int):Bool:=decide (0<=j) && decide (j.natAbs<=1000000) && decide (i.natAbs<18446744073709551616)
def aU:=Gp rW λi j=>i ^ j.toNat
def aM:gO K (mI Pb λi j=>.int (i ^ j.toNat)) aU:=QH λi j h=>by
 unfold rW at h
 simp only[Bool.and_eq_true,decide_eq_true_eq] at h
 exact⟨h.1.1,by omega,by have:=h.2;simpa using this⟩
def nq:=Wj λi j=>decide (i<j)
def jr:=Wj λi j=>decide (i<=j)
def QM:=Wj λi j=>decide (j<i)
def iV:gO K (Bp λi j=>.bl (decide (i<j))) nq:=QG
def dO:gO K (Bp λi j=>.bl (decide (i<=j))) jr:=QG
def Wm:gO K (Bp λi j=>.bl (decide (j<i))) QM:=QG
def Ő(i j:Int):Bool:=decide (i.natAbs<18446744073709551616) || decide (j.natAbs<18446744073709551616) || (decide (bits i<=1048576) && decide (bits j<=1048576))
def Cq{i j:Int}(h:Ő i j=true):nY i j:=by
 unfold Ő at h
 simp only[Bool.or_eq_true,Bool.and_eq_true,decide_eq_true_eq] at h
 rcases h with(h|h)|h
 ·exact .inl (.inl ⟨by omega,by omega⟩)
 ·exact .inl (.inr ⟨by omega,by omega⟩)
 ·exact .inr h
def ħ:PV->PV->Option PV
 | .int i,.int j=>if Ő i j=true then some (.int (i*j)) else none
 | .str z,.int n=>if 0<=n/\n<=1000/\z.length<=1000 then some (.str (S (List.replicate n.toNat z.cps.toList).flatten)) else none
 |_,_=>none
def QS:gO K BL ħ:=by
 intro c F H σ ρ p q pv v u Q rel r1 r2 e k
 unfold ħ at e
 split at e
 ·split at e
  ·rename_i hc
   cases e
   cases r1.int
   cases r2.int
   exact⟨Cq hc,k _ F H rel (Same.refl _) (Same.refl _) Rep.int⟩
  ·cases e
 ·split at e
  ·rename_i hc
   cases e
   cases r1.str
   cases r2.int
   exact⟨hc,k _ F H rel (Same.refl _) (Same.refl _) Rep.str⟩
  ·cases e
 ·cases e
variable{E:L2.St->XK}{a b e:Expr}{es:List Expr}{pos:Pos}{ma mb:M PV}{mr:M (List PV)}
def rY:PV->Option PV
 | .int i=>some (.int (-i))
 |_=>none
def Cr:UnV K (mU λi=>.int (-i)) rY:=by
 intro c F H σ ρ p pv v Q rel r1 e k
 unfold rY at e
 split at e
 ·cases e
  cases r1.int
  exact k _ F H rel (Same.refl _) (Same.refl _) Rep.int
 ·cases e
mutual
def eqB:PV->PV->Bool
 | .non,.non=>true
 | .bl a,.bl b=>a== b
 | .bl a,.int j=>(if a then 1 else 0)== j
 | .int i,.bl b=>i== (if b then 1 else 0)
 | .int i,.int j=>i== j
 | .str x,.str y=>x== y
 | .lst xs,.lst ys=>aV xs ys
 | .tup xs,.tup ys=>aV xs ys
 |_,_=>false
def aV:List PV->List PV->Bool
 | [],[]=>true
 |x::xs,y::ys=>eqB x y && aV xs ys
 |_,_=>false
end
mutual
def Š:PV->Bool
 | .non| .bl _| .int _=>true
 | .str x=>PyData.strOk x
 | .lst xs=>bW xs
 | .tup xs=>bW xs
 |_=>false
def bW:List PV->Bool
 | []=>true
 |x::xs=>Š x && bW xs
end
mutual
def dep:PV->Nat
 | .lst xs=>fV xs+1
 | .tup xs=>fV xs+1
 |_=>0
def fV:List PV->Nat
 | []=>0
 |x::xs=>max (dep x) (fV xs)
end
mutual
def toD:PV->PyData
 | .non=>.none
 | .bl b=>.bool b
 | .int i=>.int i
 | .str x=>.str x
 | .lst xs=>.list (dD xs)
 | .tup xs=>.tuple (dD xs)
 |_=>.none
def dD:List PV->List PyData
 | []=>[]
 |x::xs=>toD x::dD xs
end
mutual
theorem bG:∀p:PV,Š p=true->(toD p).canLay0=true
 | .non,_=>rfl
 | .bl _,_=>rfl
 | .int _,_=>rfl
 | .str x,h=>by unfold Š at h;unfold toD PyData.canLay0;exact h
 | .lst xs,h=>by unfold Š at h;unfold toD PyData.canLay0;exact kI xs h
 | .tup xs,h=>by unfold Š at h;unfold toD PyData.canLay0;exact kI xs h
 | .ins _ _ _,h=>by simp[Š] at h
 | .xc _ _ _,h=>by simp[Š] at h
 | .ty _,h=>by simp[Š] at h
 | .cls _,h=>by simp[Š] at h
theorem kI:∀ps:List PV,bW ps=true->PyData.canLayAll0 (dD ps)=true
 | [],_=>rfl
 |p::ps,h=>by
  unfold bW at h
  rw[Bool.and_eq_true] at h
  unfold dD PyData.canLayAll0
  rw[bG p h.1,kI ps h.2]
  rfl
end
mutual
theorem bH:∀p:PV,(toD p).depth=dep p
 | .non=>rfl
 | .bl _=>rfl
 | .int _=>rfl
 | .str x=>rfl
 | .lst xs=>by unfold toD PyData.depth dep;rw[kJ xs]
 | .tup xs=>by unfold toD PyData.depth dep;rw[kJ xs]
 | .ins _ _ _=>rfl
 | .xc _ _ _=>rfl
 | .ty _=>rfl
 | .cls _=>rfl
theorem kJ:∀ps:List PV,PyData.depthAll (dD ps)=fV ps
 | []=>rfl
 |p::ps=>by unfold dD PyData.depthAll fV;rw[bH p,kJ ps]
end
mutual
theorem pX:∀p q:PV,Š p=true->Š q=true->PyData.eqv (toD p) (toD q)=eqB p q
 | .lst xs,.lst ys,h1,h2=>by
   unfold Š at h1 h2
   unfold toD eqB PyData.eqv
   exact pY xs ys h1 h2
 | .tup xs,.tup ys,h1,h2=>by
   unfold Š at h1 h2
   unfold toD eqB PyData.eqv
   exact pY xs ys h1 h2
 | .ins _ _ _,_,h,_=>by simp[Š] at h
 | .xc _ _ _,_,h,_=>by simp[Š] at h
 | .ty _,_,h,_=>by simp[Š] at h
 | .cls _,_,h,_=>by simp[Š] at h
 | .non,q,_,h=>by cases q<;>first|rfl|(simp[Š] at h)|(simp[toD,eqB,PyData.eqv])
 | .bl _,q,_,h=>by cases q<;>first|rfl|(simp[Š] at h)|(simp[toD,eqB,PyData.eqv])
 | .int _,q,_,h=>by cases q<;>first|rfl|(simp[Š] at h)|(simp[toD,eqB,PyData.eqv])
 | .str _,q,_,h=>by cases q<;>first|rfl|(simp[Š] at h;done)|(simp[toD,eqB,PyData.eqv])
 | .lst _,.non,_,_=>by simp[toD,eqB,PyData.eqv]
 | .lst _,.bl _,_,_=>by simp[toD,eqB,PyData.eqv]
 | .lst _,.int _,_,_=>by simp[toD,eqB,PyData.eqv]
 | .lst _,.str _,_,_=>by simp[toD,eqB,PyData.eqv]
 | .lst _,.tup _,_,_=>by simp[toD,eqB,PyData.eqv]
 | .lst _,.ins _ _ _,_,h=>by simp[Š] at h
 | .lst _,.xc _ _ _,_,h=>by simp[Š] at h
 | .lst _,.ty _,_,h=>by simp[Š] at h
 | .lst _,.cls _,_,h=>by simp[Š] at h
 | .tup _,.non,_,_=>by simp[toD,eqB,PyData.eqv]
 | .tup _,.bl _,_,_=>by simp[toD,eqB,PyData.eqv]
 | .tup _,.int _,_,_=>by simp[toD,eqB,PyData.eqv]
 | .tup _,.str _,_,_=>by simp[toD,eqB,PyData.eqv]
 | .tup _,.lst _,_,_=>by simp[toD,eqB,PyData.eqv]
 | .tup _,.ins _ _ _,_,h=>by simp[Š] at h
 | .tup _,.xc _ _ _,_,h=>by simp[Š] at h
 | .tup _,.ty _,_,h=>by simp[Š] at h
 | .tup _,.cls _,_,h=>by simp[Š] at h
theorem pY:∀ps qs:List PV,bW ps=true->bW qs=true->PyData.eqvAll (dD ps) (dD qs)=aV ps qs
 | [],[],_,_=>by simp[dD,aV,PyData.eqvAll]
 | [],_::_,_,_=>by simp[dD,aV,PyData.eqvAll]
 |_::_,[],_,_=>by simp[dD,aV,PyData.eqvAll]
 |p::ps,q::qs,h1,h2=>by
  unfold bW at h1 h2
  rw[Bool.and_eq_true] at h1 h2
  unfold dD aV PyData.eqvAll
  rw[pX p q h1.1 h2.1,pY ps qs h1.2 h2.2]
end
mutual
theorem vo{F:Hp}:∀(p:PV) (v:V),Š p=true->Rep K F p v->Rp K.K F (toD p) v
 | .non,_,_,r=>by unfold Rep at r;unfold toD Rp;exact r
 | .bl _,_,_,r=>by unfold Rep at r;unfold toD Rp;exact r
 | .int _,_,_,r=>by unfold Rep at r;unfold toD Rp;exact r
 | .str _,_,_,r=>by unfold Rep at r;unfold toD Rp;exact r
 | .lst xs,_,h,r=>by
   unfold Š at h
   unfold Rep at r
   unfold toD Rp
   obtain⟨a,vs,h1,h2,h3⟩:=r
   exact⟨a,vs,h1,h2,jF xs vs h h3⟩
 | .tup xs,_,h,r=>by
   unfold Š at h
   unfold Rep at r
   unfold toD Rp
   obtain⟨a,vs,h1,h2,h3⟩:=r
   exact⟨a,vs,h1,bU.of h2,jF xs vs h h3⟩
 | .ins _ _ _,_,h,_=>by simp[Š] at h
 | .xc _ _ _,_,h,_=>by simp[Š] at h
 | .ty _,_,h,_=>by simp[Š] at h
 | .cls _,_,h,_=>by simp[Š] at h
theorem jF{F:Hp}:∀(ps:List PV) (vs:List V),bW ps=true->ĉ K F ps vs->mR K.K F (dD ps) vs
 | [],_,_,r=>by unfold ĉ at r;unfold dD mR;exact r
 |p::ps,_,h,r=>by
  unfold bW at h
  rw[Bool.and_eq_true] at h
  unfold ĉ at r
  unfold dD mR
  obtain⟨x,t,h1,h2,h3⟩:=r
  exact⟨x,t,h1,vo p x h.1 h2,jF ps t h.2 h3⟩
end
def fW{c:Ctx}{F H:Hp}{σ:L2.St}{ρ:ĸ}{p:PV}{v:V}(s:Same F H)(h:Š p=true)(r:rR K c σ ρ F H p v):Rp K.K H (toD p) v:=by
 rcases r with r|r
 ·exact Rp.same s _ _ (vo p v h r)
 ·cases p with
  |lst ps=>
   obtain⟨a,vs,rfl,h3,h4⟩:=r
   unfold Š at h
   unfold toD Rp
   exact⟨a,vs,rfl,Ţ.of h3,mR.same s _ _ (jF ps vs h h4)⟩
  |ins C ns ps=>simp[Š] at h
  |_=>exact r.elim
def nA(p q:PV):Bool:=Š p && Š q && decide (min (dep p) (dep q)<=60)
def į(p q:PV):Option PV:=if nA p q=true then some (.bl (eqB p q)) else none
def aN(p q:PV):Option PV:=if nA p q=true then some (.bl (!eqB p q)) else none
def JW:gO K (Hr K.K false) į:=by
 intro c F H σ ρ p q pv v u Q rel r1 r2 e k
 unfold į at e
 split at e
 ·rename_i hz
  cases e
  unfold nA at hz
  simp only[Bool.and_eq_true,decide_eq_true_eq] at hz
  refine⟨toD p,toD q,fW rel.sub hz.1.1 r1,fW rel.sub hz.1.2 r2,bG p hz.1.1,bG q hz.1.2,by rw[bH,bH];exact hz.2,?_⟩
  rw[pX p q hz.1.1 hz.1.2]
  exact k _ F H rel (Same.refl _) (Same.refl _) Rep.bl
 ·cases e
def JX:gO K (Hr K.K true) aN:=by
 intro c F H σ ρ p q pv v u Q rel r1 r2 e k
 unfold aN at e
 split at e
 ·rename_i hz
  cases e
  unfold nA at hz
  simp only[Bool.and_eq_true,decide_eq_true_eq] at hz
  refine⟨toD p,toD q,fW rel.sub hz.1.1 r1,fW rel.sub hz.1.2 r2,bG p hz.1.1,bG q hz.1.2,by rw[bH,bH];exact hz.2,?_⟩
  rw[pX p q hz.1.1 hz.1.2]
  exact k _ F H rel (Same.refl _) (Same.refl _) Rep.bl
 ·cases e
def Ai:PV->Bool
 | .non=>true
 |_=>false
def Cu(p q:PV):Option PV:=match q with
 | .non=>some (.bl (Ai p))
 |_=>none
def fX(p q:PV):Option PV:=match q with
 | .non=>some (.bl (!Ai p))
 |_=>none
def wW{c:Ctx}{F H:Hp}{σ:L2.St}{ρ:ĸ}{p:PV}{v:V}(r:rR K c σ ρ F H p v):decide (v=.non)=Ai p:=by
 rcases r with r|r
 ·cases p<;>unfold Rep at r<;>first
   |(subst r;rfl)
   |(obtain⟨a,xs,rfl,_⟩:=r;rfl)
   |(obtain⟨a,xs,ys,rfl,_⟩:=r;rfl)
 ·cases p with
  |lst ps=>obtain⟨a,vs,rfl,_⟩:=r;rfl
  |ins C ns ps=>obtain⟨a,dx,fs,rfl,_⟩:=r;rfl
  |_=>exact r.elim
def JZ:gO K (λx y H Q=>y=.non/\Q (.bl (decide (x=.non))) H) Cu:=by
 intro c F H σ ρ p q pv v u Q rel r1 r2 e k
 unfold Cu at e
 split at e
 ·cases e
  refine⟨r2.non,?_⟩
  rw[wW r1]
  exact k _ F H rel (Same.refl _) (Same.refl _) Rep.bl
 ·cases e
def rZ:gO K (λx y H Q=>y=.non/\Q (.bl (!decide (x=.non))) H) fX:=by
 intro c F H σ ρ p q pv v u Q rel r1 r2 e k
 unfold fX at e
 split at e
 ·cases e
  refine⟨r2.non,?_⟩
  rw[wW r1]
  exact k _ F H rel (Same.refl _) (Same.refl _) Rep.bl
 ·cases e
def Ē:PV->PV->Option PV
 | .lst ps,.int i=>pG ps i
 | .tup ps,.int i=>pG ps i
 | .str z,.int i=>if z.length<=16777216 then(pG z.cps.toList i).map λc=>.str ⟨#[c]⟩ else none
 |_,_=>none
def wX{F:Hp}{ps:List PV}{vs:List V}{i:Int}{p:PV}(r:ĉ K F ps vs)(h:pG ps i=some p):∃v,pG vs i=some v/\Rep K F p v:=by
 unfold pG at h ⊢
 rw[r.length] at h
 cases e:T_ vs.length i with
 |none=>rw[e] at h;cases h
 |some j=>
  rw[e] at h
  obtain⟨v,h1,h2⟩:=bB r.pr h
  exact⟨v,h1,h2⟩
def Wn:gO K (mIx K.K) Ē:=by
 intro c F H σ ρ p q pv v u Q rel r1 r2 e k
 unfold Ē at e
 split at e
 ·obtain⟨a,vs,rfl,h1,h2⟩:=r1.lst rel.sub
  cases r2.int
  obtain⟨x,h3,h4⟩:=wX h2 e
  exact⟨vs,x,.inl h1,h3,k _ F H rel (Same.refl _) (Same.refl _) h4⟩
 ·obtain⟨a,vs,rfl,h1,h2⟩:=r1.tup rel.sub
  cases r2.int
  obtain⟨x,h3,h4⟩:=wX h2 e
  exact⟨vs,x,.inr h1,h3,k _ F H rel (Same.refl _) (Same.refl _) h4⟩
 ·split at e
  ·rename_i z i hz
   cases r1.str
   cases r2.int
   cases ea:pG z.cps.toList i with
   |none=>rw[ea] at e;cases e
   |some cc=>
    rw[ea] at e
    cases e
    exact⟨cc,by rw[ğ];exact hz,ea,k _ F H rel (Same.refl _) (Same.refl _) Rep.str⟩
  ·cases e
 ·cases e
def Cv:M (Option Int):=λρ=>.ok none ρ
def mP(m:M PV):M (Option Int):=λρ=>(m ρ).bind λp ρ1=>match p with
 | .int i=>.ok (some i) ρ1
 |_=>.bad
abbrev tP(K:KK)(E:L2.St->XK)(m:M (Option Int)):TO:=tG K E rI m
def vp:PO X none (tP (kk X cm) E Cv):=λpins s σ H Q I h=>G_ pins s σ H Q I (by
 obtain⟨c,F,ρ,rel,h⟩:=h
 exact h none F H rel (Same.refl _) (Same.refl _) rfl)
def eX(ha:PE X e (tV (kk X cm) E ma)):PO X (some e) (tP (kk X cm) E (mP ma)):=λpins s σ H Q I h=>Br ha pins s σ H Q I (by
 obtain⟨c,F,ρ,rel,h⟩:=h
 refine⟨c,F,ρ,rel,h.bind λp ρ1 v F1 H1 Ċ _ _ r1 h1=>?_⟩
 cases p with
 |int i=>
  have e:v=.int i:=by have r1':Rep (kk X cm) F1 (.int i) v:=r1;unfold Rep at r1';exact r1'
  subst e
  exact h1 (some i) F1 H1 Ċ (Same.refl _) (Same.refl _) rfl
 |_=>exact h1.elim)
def cD{α:Type}(xs:List α)(lo hi:Option Int):List α:= (xs.drop (HT.œ xs.length 0 lo)).take (HT.œ xs.length xs.length hi-HT.œ xs.length 0 lo)
def Ub(p:PV)(lo hi:Option Int):Option RV:=match p with
 | .lst ps=>some (.ow (cD ps lo hi))
 | .str z=>if z.length<=16777216 then some (.sh (.str (S (cD z.cps.toList lo hi)))) else none
 |_=>none
def Uc(ma:M PV)(ml mh:M (Option Int)):M RV:=λρ=>(ma ρ).bind λp ρ1=>(ml ρ1).bind λlo ρ2=>(mh ρ2).bind λhi ρ3=>Res.iR (Ub p lo hi) ρ3
def jG{ml mh:M (Option Int)}{lo hi:Option Expr}{p2:Pos}(ha:PE X a (tR (kk X cm) E ma))(hl:PO X lo (tP (kk X cm) E ml))(hh:PO X hi (tP (kk X cm) E mh)):PE X (.Subscript a (.Slice lo hi none p2) pos) (tO (kk X cm) E (Uc ma ml mh)):=
 PE.wk (rm slm ha hl hh) fun σ H Q ⟨c,F,ρ,rel,h⟩=>⟨c,F,ρ,rel,h.bind fun p ρ1 v F1 H1 Ċ _ _ r1 h1=>⟨c,F1,ρ1,Ċ,h1.bind fun lo ρ2 lo' F2 H2 Ĩ sF sH r2 h2=>⟨c,F2,ρ2,Ĩ,h2.bind fun hi ρ3 hi' F3 H3 aP sF3 YS r3 h3=>by
   have e2:lo=lo':=r2
   have e3:hi=hi':=r3
   subst e2 e3
   have r1':rR (kk X cm) c σ ρ3 F3 H3 p v:=r1.mono (sF.trans sF3) (sH.trans YS)
   cases p with
   |lst ps=>
    obtain⟨a,vs,rfl,q1,q2⟩:=r1'.lst aP.sub
    refine⟨vs,q1,λd hd=>?_⟩
    have e:ĉ (kk X cm) F3 (cD ps lo hi) (eN vs lo hi):=by
     unfold cD eN
     rw[q2.length]
     exact ĉ.of (jC _ (jD _ q2.pr))
    obtain⟨z1,z2⟩:=Ŷ aP hd e
    exact h3 _ F3 _ z1 (Same.refl _) (Same.upd hd) z2
   |str z=>
    cases r1'.str
    unfold Ub at h3
    dsimp only at h3
    split at h3
    ·rename_i hz
     exact⟨by rw[ğ];exact hz,h3 _ F3 H3 aP (Same.refl _) (Same.refl _) (Rep.str (K:=kk X cm) (F:=F3))⟩
    ·exact h3.elim
   |_=>exact h3.elim⟩⟩⟩
def J_{c:Ctx}{F H:Hp}{σ:L2.St}{ρ:ĸ}{p:PV}{vs:List V}(h:VH K c σ ρ F H [p] vs):∃v,vs=[v]/\rR K c σ ρ F H p v:=by
 cases h with
 |cons r t=>cases t;exact⟨_,rfl,r⟩
def rl2{c:Ctx}{F H:Hp}{σ:L2.St}{ρ:ĸ}{p q:PV}{vs:List V}(h:VH K c σ ρ F H [p,q] vs):∃v u,vs=[v,u]/\rR K c σ ρ F H p v/\rR K c σ ρ F H q u:=by
 cases h with
 |cons r t=>
  cases t with
  |cons r' t=>cases t;exact⟨_,_,rfl,r,r'⟩
def eY:List PV->Option PV
 | [.lst ps]=>some (.int ps.length)
 | [.tup ps]=>some (.int ps.length)
 | [.str z]=>if z.length<=16777216 then some (.int z.length) else none
 |_=>none
def Ź:j_ K (Qm K.K) eY:=by
 intro c F H σ ρ ps pv vs Q rel r e k
 unfold eY at e
 split at e
 ·cases e
  obtain⟨v,rfl,r1⟩:=J_ r
  obtain⟨a,xs,rfl,h1,h2⟩:=r1.lst rel.sub
  refine⟨xs,.inl h1,?_⟩
  rw[<-h2.length]
  exact k _ F H rel (Same.refl _) (Same.refl _) Rep.int
 ·cases e
  obtain⟨v,rfl,r1⟩:=J_ r
  obtain⟨a,xs,rfl,h1,h2⟩:=r1.tup rel.sub
  refine⟨xs,.inr h1,?_⟩
  rw[<-h2.length]
  exact k _ F H rel (Same.refl _) (Same.refl _) Rep.int
 ·split at e
  ·rename_i hz
   cases e
   obtain⟨v,rfl,r1⟩:=J_ r
   cases r1.str
   exact⟨by rw[ğ];exact hz,k _ F H rel (Same.refl _) (Same.refl _) Rep.int⟩
  ·cases e
 ·cases e
def cF:List PV->Option RV
 | [.lst ps]=>some (.ow ps)
 | [.tup ps]=>some (.ow ps)
 |_=>none
def wY(K:PySem.W.Frag):List V->Hp->VK->Prop:=λxs H Q=>∃p ys,xs=[.ref p]/\(Ţ K H p ys\/bU K H p ys)/\∀l,H l=none->Q (.ref l) (upd H l (.lst ys))
def Ű:Ŝ X (.type "list") (wY X.K):=pJ
def ű:Cd K (wY K.K) cF:=by
 intro c F H σ ρ ps pv vs Q rel r e k
 unfold cF at e
 split at e
 ·cases e
  obtain⟨v,rfl,r1⟩:=J_ r
  obtain⟨a,xs,rfl,h1,h2⟩:=r1.lst rel.sub
  refine⟨a,xs,rfl,.inl h1,λl hl=>?_⟩
  obtain⟨q1,q2⟩:=Ŷ rel hl h2
  exact k _ F _ q1 (Same.refl _) (Same.upd hl) q2
 ·cases e
  obtain⟨v,rfl,r1⟩:=J_ r
  obtain⟨a,xs,rfl,h1,h2⟩:=r1.tup rel.sub
  refine⟨a,xs,rfl,.inr h1,λl hl=>?_⟩
  obtain⟨q1,q2⟩:=Ŷ rel hl h2
  exact k _ F _ q1 (Same.refl _) (Same.upd hl) q2
 ·cases e
end
theorem su{K:KK}{F:Hp}:∀ns:List Int,ĉ K F (ns.map .int) (ns.map V.int)
 | []=>ĉ.nil
 |n::ns=>ĉ.cons Rep.int (su ns)
def Wo(K:PySem.W.Frag):Sp:=λvs H Q _=>∃(sa:Addr) (ns:List Int),vs=[.ref sa]/\Ţ K H sa (ns.map V.int)/\ns.length<=63/\∀v H',v=.bl true->Q v H'
def Cw{l:PySem.W.OpenLaw}{k:Nat}{x:Str}{CX:gK}{m:MF}{q:Program}{loose:List Str}{XP:(Str->Option Value)->Heap->Prop}{YP:World->Heap->Prop}{d:DefRec}{K:Params->PySem.W.Frag}(hn:l.most=some 63)(hdf:d.params.defaults=[])(hr:Ś k callerA)
 (hY:∀(w:World) (h:Heap),YP w h->(K w.params).In h)
 (F:∀(w:World) (mg:Str→Option Value) (fa:Addr) (h:Heap),(K w.params).In h→h.Ns mainGlobals mg→mg d.name=some (.ref fa)→
   ∃fd:FuncData,(∀(s:Shared) (u:Value),BindsTo s fd ⟨[u],[]⟩ [(x,u)])/\∀base:Heap,(K w.params).In base->base.Ns mainGlobals mg->∃cm,Ĭ l.prog w (K w.params) mg base CX k fa fd [x] (aH ⟨K w.params,cm⟩ 1 m))
 (ht:∀ns:List Int,ns.length<=63->m [.sh (.lst (ns.map .int))]=.ret (.sh (.bl true)))
 (Vr:∀(H:Hp) (s:Shared) (e:Value) (s':Shared),CX [] H s (λ_ _ _=>False) e s'->False)
 (hnt:lams≠[]->∀w:World,PySem.W.noTabs (K w.params)=true:=by intro z;exact absurd rfl z)(hone:∀y z,y∈lams->z∈lams->y=z:=by simp[lams])(hrec:∀y,y∈lams->∃d,(recsOf q).find? (λe=>e.name== y)=some d:=by simp[lams]) :
 PySem.W.WalkO q loose XP YP l.row.toRowW d [] (λf vs=>PySem.call f vs):=by
 refine L2.Hj (n:=63) (k:=k) (x:=x) (CX:=λ_=>CX) (sp:=λw=>Wo (K w.params)) hn (by decide) hdf hr hY (λw mg fa h h1 h2 h3=>?_) (λw H a ns hl _ hS=>⟨a,ns,rfl,hS,hl,λ_ _ z=>z⟩) (λw H s e s' z=>Vr H s e s' z) hnt hone hrec
 obtain⟨fd,hb,hF⟩:=F w mg fa h h1 h2 h3
 refine⟨fd,hb,λbase k1 k2=>?_⟩
 obtain⟨cm,G⟩:=hF base k1 k2
 refine G.imp λvs H Q E hs=>?_
 obtain⟨sa,ns,rfl,hS,hl,hq⟩:=hs
 refine⟨H,[.sh (.lst (ns.map .int))],rfl,Same.refl _,.cons ?_ .nil,?_⟩
 ·show Rep _ _ _ _
  unfold Rep
  exact⟨sa,_,rfl,hS,su ns⟩
 ·rw[ht ns hl]
  intro v F' H' g rf
  have e:v=.bl true:=vf (K:=⟨K w.params,cm⟩) (F:=F') rf
  exact hq v H' e
end P
namespace P
open PySem PySem.Spec PyProof.Rows L2 M2 M3 M4
section
variable{X:Cx}{cm:String->Addr}{K:KK}
def boolsOf:List PV->Option (List Bool)
 | []=>some []
 | .bl b::ps=>(boolsOf ps).map (b:: ·)
 |_::_=>none
theorem oE{F:Hp}:∀{ps:List PV} {vs:List V} {bs:List Bool},ĉ K F ps vs->boolsOf ps=some bs->vs=bs.map V.bl
 | [],vs,bs,r,h=>by
   cases h
   have r':=r.pr
   cases r'
   rfl
 |p::ps,vs,bs,r,h=>by
  cases p with
  |bl b=>
   unfold boolsOf at h
   cases eb:boolsOf ps with
   |none=>rw[eb] at h;cases h
   |some cs=>
    rw[eb] at h
    cases h
    have r':=r.pr
    cases r' with
    |cons r1 t=>
     rw[vf r1,oE (ĉ.of t) eb]
     rfl
  |_=>simp[boolsOf] at h
def zB:List PV->Option PV
 | [.lst ps]=>(boolsOf ps).map λbs=>.bl (bs.all id)
 |_=>none
def Cy:j_ K (Qt K.K) zB:=by
 intro c F H σ ρ ps pv vs Q rel r e k
 unfold zB at e
 split at e
 ·rename_i ps
  obtain⟨v,rfl,r1⟩:=J_ r
  obtain⟨a,xs,rfl,h1,h2⟩:=r1.lst rel.sub
  cases eb:boolsOf ps with
  |none=>rw[eb] at e;cases e
  |some bs=>
   rw[eb] at e
   cases e
   refine⟨bs,by rw[<-oE h2 eb];exact h1,k _ F H rel (Same.refl _) (Same.refl _) Rep.bl⟩
 ·cases e
def wZ(_ j:Int):Bool:=decide (0<j) && decide (j.natAbs<1073741824)
def fY:List PV->Option PV
 | [.int i,.int j]=>if wZ i j=true then some (.tup [.int (i / j),.int (i % j)]) else none
 |_=>none
def xg:List V->Hp->VK->Prop:=λxs H Q=>∃i j,xs=[.int i,.int j]/\Vg i j/\∀p,H p=none->Q (.ref p) (upd H p (.tup [.int (i / j),.int (i % j)]))
def zE:Ŝ X (.builtin "divmod") xg:=qZ
def zF:j_ K xg fY:=by
 intro c F H σ ρ ps pv vs Q rel r e k
 unfold fY at e
 split at e
 ·split at e
  ·rename_i i j hd
   cases e
   obtain⟨v,u,rfl,r1,r2⟩:=rl2 r
   cases r1.int
   cases r2.int
   unfold wZ at hd
   simp only[Bool.and_eq_true,decide_eq_true_eq] at hd
   refine⟨i,j,rfl,⟨hd.1,by omega⟩,λl hl=>k _ _ _ (rel.alloc hl) (Same.upd (rel.sub.free hl)) (Same.upd hl) ?_⟩
   unfold Rep
   exact⟨l,_,rfl,ē,ĉ.cons Rep.int (ĉ.cons Rep.int ĉ.nil)⟩
  ·cases e
 ·cases e
end
end P
namespace P
open PySem PySem.Spec PyProof.Rows L2 M2 M3 M4
section
variable{α β:Type}{ρ:ĸ}{i j n k:Nat}{p q:PV}{ps:List PV}{m ma mb mc:M PV}{mo:M RV}{a b:M Fl}{ta tb:M Bool}{mr:M (List PV)}{f:PV->PV->Option PV}{fo:PV->PV->Option RV}{fl:List PV->Option PV}{flo:List PV->Option RV}{g:Tg}{gs:Ah}
@[simp] theorem Zcl:eU ρ=.ok .nx ρ:= rfl
@[simp] theorem Zbd:(Qz:M α) ρ=.bad:=rfl
@[simp] theorem Zbe:Ę a b ρ=(a ρ).bind λf ρ1=>match f with| .nx=>b ρ1|f=>.ok f ρ1:=rfl
@[simp] theorem Zbf:Ĳ i mo ρ=(mo ρ).bind λr ρ1=>.ok .nx (ρ1.set i r.slot):=rfl
@[simp] theorem Zbg:ĩ mo ρ=(mo ρ).bind λr ρ1=>.ok (.rt r) ρ1:=rfl
@[simp] theorem Zcz:mC p ρ=.ok p ρ:= rfl
@[simp] theorem Zcm:Ŕ m ρ=(m ρ).bind λp ρ1=>.ok (.sh p) ρ1:=rfl
@[simp] theorem Zbh:ĕ mo ρ=(mo ρ).bind λr ρ1=>.ok r.val ρ1:=rfl
@[simp] theorem Zbi:(RV.sh p).val=p:=rfl
@[simp] theorem Zbj:(RV.ow ps).val=.lst ps:=rfl
@[simp] theorem Zbk:(RV.sh p).slot=.sh p:=rfl
@[simp] theorem Zbl:(RV.ow ps).slot=.ow ps:=rfl
@[simp] theorem Zbm:ă f ma mb ρ=(ma ρ).bind λp ρ1=>(mb ρ1).bind λq ρ2=>Res.iR (f p q) ρ2:=rfl
@[simp] theorem YT:ģ fo ma mb ρ=(ma ρ).bind λp ρ1=>(mb ρ1).bind λq ρ2=>Res.iR (fo p q) ρ2:=rfl
@[simp] theorem Zcn{u:PV->Option PV}:Gq u ma ρ=(ma ρ).bind λp ρ1=>Res.iR (u p) ρ1:=rfl
@[simp] theorem Zbn:gP m ρ=(m ρ).bind λp ρ1=>Res.iR (Qy p) ρ1:=rfl
@[simp] theorem Zco:aO m ρ=(m ρ).bind λp ρ1=>match p with| .bl b=>.ok b ρ1|_=>.bad:=rfl
@[simp] theorem YW:fQ ta ρ=(ta ρ).bind λb ρ1=>.ok (!b) ρ1:=rfl
@[simp] theorem YX:iT ta tb ρ=(ta ρ).bind λb ρ1=>if b=true then tb ρ1 else .ok false ρ1:=rfl
@[simp] theorem Zbo:vd ta tb ρ=(ta ρ).bind λb ρ1=>if b=true then .ok true ρ1 else tb ρ1:=rfl
@[simp] theorem Zbp:bV ma mb ρ=(ma ρ).bind fun p ρ1=>match p with| .bl b=>if b=true then mb ρ1 else .ok (.bl false) ρ1|_=>.bad:=by
  unfold bV
  congr
  funext p ρ1
  cases p with
  |bl b=>cases b<;>rfl
  |_=>rfl
@[simp] theorem Zcp{x y:M α}:dM ta x y ρ=(ta ρ).bind λb ρ1=>if b=true then x ρ1 else y ρ1:=rfl
@[simp] theorem Zbq{f g:PV→PV→Option PV}:ni f g ma mb mc ρ=(ma ρ).bind fun p ρ1=>(mb ρ1).bind fun q ρ2=>(Res.iR (f p q) ρ2).bind fun z ρ3=>match z with
  | .bl true=>(mc ρ3).bind λw ρ4=>Res.iR (g q w) ρ4
  | .bl false=>.ok (.bl false) ρ3
  |_=>.bad:=rfl
@[simp] theorem Zbr:Ĝ ρ=.ok [] ρ:= rfl
@[simp] theorem YZ:Ą ma mr ρ=(ma ρ).bind λp ρ1=>(mr ρ1).bind λps ρ2=>.ok (p::ps) ρ2:=rfl
@[simp] theorem Zbs:ň mr ρ=(mr ρ).bind λps ρ1=>if ps.length<=16777216 then .ok (.tup ps) ρ1 else .bad:=rfl
@[simp] theorem Zbt:dB mr ρ=(mr ρ).bind λps ρ1=>if ps.length<=16777216 then .ok (.ow ps) ρ1 else .bad:=rfl
@[simp] theorem Zcq:pR fl mr ρ=(mr ρ).bind λps ρ1=>Res.iR (fl ps) ρ1:=rfl
@[simp] theorem Zbu:nj flo mr ρ=(mr ρ).bind λps ρ1=>Res.iR (flo ps) ρ1:=rfl
@[simp] theorem Y_{mf:MF}{ms:M (List Slot)}:ě mf ms ρ=(ms ρ).bind λps ρ1=>match mf ps with| .ret r=>.ok r ρ1| .exc x=>.exc x ρ1| .bad=>.bad:=rfl
@[simp] theorem Zcr:Ď i ρ=(match ρ[i]? with|some (.sh p)=>.ok p ρ|some (.ow ps)=>.ok (.lst ps) (ρ.set i (.sh (.lst ps)))|_=>.bad):=rfl
@[simp] theorem Zcs:ā i ρ=(match ρ[i]? with|some (.sh p)=>.ok p ρ|some (.ow ps)=>.ok (.lst ps) ρ|some (.bw ps)=>.ok (.lst ps) ρ|some (.rc C ns ps)=>.ok (.ins C ns ps) ρ|_=>.bad):=rfl
@[simp] theorem Zct:fM i ρ=(match ρ[i]? with|some (.sh p)=>.ok (.sh p) ρ|some (.ow ps)=>.ok (.ow ps) (ρ.set i .no)|_=>.bad):=rfl
@[simp] theorem Zbv:HS g m ρ=(m ρ).bind λp ρ1=>match g p ρ1 with|some ρ2=>.ok .nx ρ2|none=>.bad:=rfl
@[simp] theorem Zcu:gN i p ρ=some (ρ.set i (.sh p)):=rfl
@[simp] theorem Wq:Į [] ρ=some ρ:= rfl
@[simp] theorem Ud:Ć g gs (p::ps) ρ=(g p ρ).bind λρ1=>gs ps ρ1:=rfl
@[simp] theorem Zcv:gT n gs (.tup ps) ρ=if ps.length=n then gs ps ρ else none:=rfl
@[simp] theorem Zbw:pU i m ρ=(match ρ[i]? with
  |some (.ow _)=>(m ρ).bind λp ρ1=>match ρ1[i]? with
   |some (.ow ps)=>if ps.length<16777216 then .ok .nx (ρ1.set i (.ow (ps ++ [p]))) else .bad
   |_=>.bad
  |_=>.bad):=rfl
@[simp] theorem Zbx:Cv ρ=.ok none ρ:= rfl
@[simp] theorem ZcA:mP m ρ=(m ρ).bind λp ρ1=>match p with| .int i=>.ok (some i) ρ1|_=>.bad:=rfl
@[simp] theorem Zcw{ml mh:M (Option Int)}:Uc ma ml mh ρ=(ma ρ).bind λp ρ1=>(ml ρ1).bind λlo ρ2=>(mh ρ2).bind λhi ρ3=>Res.iR (Ub p lo hi) ρ3:=rfl
@[simp] theorem Zby{lo hi:Option Int}:Ub (.lst ps) lo hi=some (.ow (cD ps lo hi)):=rfl
@[simp] theorem Wr:bF m ρ=(m ρ).bind fun p ρ1=>match p with
  | .lst ps=>.ok ps ρ1
  | .tup ps=>.ok ps ρ1
  | .str z=>.ok (z.cps.toList.map λc=>.str ⟨#[c]⟩) ρ1
  |_=>.bad:=rfl
@[simp] theorem Ws{h:List PV->Option (List PV)}:ŷ h mr ρ=(mr ρ).bind λps ρ1=>Res.iR (h ps) ρ1:=rfl
@[simp] theorem Zbz{mi:M (List PV)}:eV mi g b ρ=(mi ρ).bind λitems ρ1=>forL g b items ρ1:=rfl
@[simp] theorem Z_{js:List Nat}{nl:Nat}{mi:M (List PV)}{mt:M Bool}{me:M PV}:Ÿ js nl mi g mt me ρ=(mi ρ).bind fun items ρ1=>match ŕ g mt me items (fU js nl ρ1) [] with
  |some ps=>.ok (.ow ps) ρ1
  |none=>.bad:=rfl
@[simp] theorem ZbA:kj ρ=.ok true ρ:= rfl
@[simp] theorem ZbB{mbd:M Fl}{as:List Slot}:Ł n k mbd as=if as.length=n then FR.of (mbd (startP k as)) else .bad:=rfl
@[simp] theorem ZbC{r:RV}:FR.of (.ok (.rt r) ρ)=.ret r:=rfl
@[simp] theorem ZbD:FR.of (.ok .nx ρ)=.ret (.sh .non):=rfl
@[simp] theorem ZbE{x:PX}:FR.of (.exc x ρ)=.exc x:=rfl
@[simp] theorem ZbF:FR.of .bad=.bad:=rfl
@[simp] theorem Wt{as:List Slot}:startP k as=as++List.replicate (k-as.length) .no:=rfl
@[simp] theorem Zaa:Ė ρ=.ok [] ρ:= rfl
@[simp] theorem Wu{ms:M (List Slot)}:ĝ ma ms ρ=(ma ρ).bind λp ρ1=>(ms ρ1).bind λas ρ2=>.ok (.sh p::as) ρ2:=rfl
@[simp] theorem Wv{ms:M (List Slot)}:Ĉ i ms ρ=(match(ρ[i]?).bind bN with
  |none=>.bad
  |some _=>(ms ρ).bind λas ρ2=>match(ρ2[i]?).bind bN with
   |some s=>.ok (s::as) ρ2
   |none=>.bad):=rfl
@[simp] theorem ZbG:bN (.sh p)=some (.sh p):=rfl
@[simp] theorem ZbH:bN (.ow ps)=some (.bw ps):=rfl
@[simp] theorem ZbI:bN (.bw ps)=some (.bw ps):=rfl
@[simp] theorem ZbJ:gW (.sh p)=.sh p:=rfl
@[simp] theorem ZbK:gW (.ow ps)=.bw ps:=rfl
@[simp] theorem ZbL:gW (.bw ps)=.bw ps:=rfl
@[simp] theorem ZbM{t:Bool}{kvs:List (DK×PV)}:gW (.od t kvs)=.bd t kvs:=rfl
@[simp] theorem ZbN{t:Bool}{kvs:List (DK×PV)}:gW (.bd t kvs)=.bd t kvs:=rfl
@[simp] theorem ZbO{js:List Nat}{nl:Nat}:fU js nl ρ=js.map (λ(j:Nat)=>gW ((ρ[j]?).getD .no))++List.replicate nl .no:=rfl
@[simp] theorem ZbP:ŝ i ρ=(match ρ[i]? with
  |some (.bw ps)=>.ok ps ρ
  |some (.sh (.lst ps))=>.ok ps ρ
  |some (.sh (.tup ps))=>.ok ps ρ
  |some (.sh (.str z))=>.ok (z.cps.toList.map λc=>.str ⟨#[c]⟩) ρ
  |some (.ow ps)=>.ok ps (ρ.set i (.sh (.lst ps)))
  |_=>.bad):=rfl
@[simp] theorem Zab{x y:Int}:Ģ (.int x) (.int y)=some (.sh (.int (x+y))):=rfl
@[simp] theorem Zac{x y:Int}:ao (.int x) (.int y)=some (.int (x-y)):=rfl
@[simp] theorem Zad{x y:Int}:ħ (.int x) (.int y)=if Ő x y=true then some (.int (x*y)) else none:=rfl
@[simp] theorem Zae{x y:Int}:ı (.int x) (.int y)=if iU x y=true then some (.int (x.fdiv y)) else none:=rfl
@[simp] theorem xq{x y:Int}:Ġ (.int x) (.int y)=if rT x y=true then some (.int (x.fmod y)) else none:=rfl
@[simp] theorem Ib{x y:Int}:aU (.int x) (.int y)=if rW x y=true then some (.int (x ^ y.toNat)) else none:=rfl
@[simp] theorem Zaf{x:Int}:rY (.int x)=some (.int (-x)):=rfl
@[simp] theorem ZbQ{x y:Int}:nq (.int x) (.int y)=some (.bl (decide (x<y))):=rfl
@[simp] theorem ZbR{x y:Int}:jr (.int x) (.int y)=some (.bl (decide (x<=y))):=rfl
@[simp] theorem ZbS{x y:Int}:QM (.int x) (.int y)=some (.bl (decide (y<x))):=rfl
@[simp] theorem ZbT{x y:Int}:į (.int x) (.int y)=some (.bl (decide (x=y))):=by
  have h:eqB (.int x) (.int y)=decide (x=y):=by rw[eqB.eq_def];rfl
  rw[<-h];rfl
@[simp] theorem ZbU{x y:Int}:aN (.int x) (.int y)=some (.bl (!decide (x=y))):=by
  have h:eqB (.int x) (.int y)=decide (x=y):=by rw[eqB.eq_def];rfl
  rw[<-h];rfl
@[simp] theorem ZbV{x y:Bool}:į (.bl x) (.bl y)=some (.bl (x== y)):=rfl
@[simp] theorem ZbW{x y:Bool}:aN (.bl x) (.bl y)=some (.bl (!(x== y))):=rfl
@[simp] theorem ZbX{p:PV}:Cu p .non=some (.bl (Ai p)):=rfl
@[simp] theorem Zag{p:PV}:fX p .non=some (.bl (!Ai p)):=rfl
@[simp] theorem vq{x:Int}:Ē (.lst ps) (.int x)=pG ps x:=rfl
@[simp] theorem ZbY{x:Int}:Ē (.tup ps) (.int x)=pG ps x:=rfl
@[simp] theorem Zah:eY [.lst ps]=some (.int ps.length):=rfl
@[simp] theorem Zai:eY [.tup ps]=some (.int ps.length):=rfl
@[simp] theorem Ww:cF [.lst ps]=some (.ow ps):=rfl
@[simp] theorem Wx:cF [.tup ps]=some (.ow ps):=rfl
@[simp] theorem Zaj{x:Bool}:Qy (.bl x)=some x:=rfl
@[simp] theorem Zak{x:Int}:Qy (.int x)=some (x != 0):=rfl
@[simp] theorem Zal:Qy (.lst ps)=some (!ps.isEmpty):=rfl
@[simp] theorem Cz(xs:List α)(n:Nat):pG xs (n:Int)=xs[n]?:= by
  unfold pG T_
  rw[if_pos (by omega)]
  by_cases h:n<xs.length
  ·rw[if_pos (by omega)]
   simp
  ·rw[if_neg (by omega)]
   simp
   omega
@[simp] theorem Zam(xs:List α)(n:Nat):pG xs (no_index (OfNat.ofNat n):Int)=xs[(no_index (OfNat.ofNat n):Nat)]?:= Cz xs n
@[simp] theorem Ue{x y:Int}:rT x y=decide (y≠0):=rfl
end
def fZ{x y:Int}(h1: -(2 ^ 64)<x)(h2:x<2 ^ 64):Ő x y=true:=by unfold Ő;rw[decide_eq_true (by omega:x.natAbs<18446744073709551616)];rfl
def mul_r{x y:Int}(h1: -(2 ^ 64)<y)(h2:y<2 ^ 64):Ő x y=true:=by unfold Ő;rw[decide_eq_true (by omega:y.natAbs<18446744073709551616)];simp
def Wy{x y:Int}(h1:y≠0)(h2:bits y<=8000):iU x y=true:=by unfold iU;simp[h1,h2]
section
variable{g:Tg}{mb:M Fl}{mc mt:M Bool}{me:M PV}{items:List PV}{ρ:ĸ}
theorem gY{α:Type}(c f:α->PV)(I:ĸ->Prop):∀(xs:List α) (ρ:ĸ) (acc:List PV),I ρ->acc.length+xs.length<=16777216->
 (∀x∈xs,∀ρ,I ρ->∃ρ1 ρ2 ρ3,g (c x) ρ=some ρ1/\mt ρ1=.ok true ρ2/\me ρ2=.ok (f x) ρ3/\I ρ3)->ŕ g mt me (xs.map c) ρ acc=some (acc++xs.map f)
 | [],ρ,acc,_,_,_=>by simp[ŕ]
 |x::xs,ρ,acc,h,hz,hs=>by
  obtain⟨ρ1,ρ2,ρ3,h1,h2,h3,h4⟩:=hs x List.mem_cons_self ρ h
  rw[List.map_cons,ŕ,h1]
  dsimp only
  rw[h2]
  dsimp only
  rw[h3]
  dsimp only
  rw[if_pos (by simp at hz;omega),gY c f I xs ρ3 (acc ++ [f x]) h4 (by simp at hz ⊢;omega) λy hy=>hs y (List.mem_cons_of_mem _ hy)]
  simp
end
end P
namespace P
open PySem PySem.Spec PyProof.Rows L2 M2 M3 M4
def kO(Q:String->Prop):List String->Prop
 | []=>True
 |c::cs=>Q c/\kO Q cs
theorem kO.get{Q:String->Prop}:∀{cs:List String} {C:String},kO Q cs->cs.contains C=true->Q C
 | [],_,_,h=>by simp at h
 |c::cs,C,⟨h1,h2⟩,h=>by
  by_cases e:C=c
  ·rw[e];exact h1
  ·refine h2.get ?_
   rw[List.contains_cons] at h
   have:(C== c)=false:=by simpa using e
   rw[this,Bool.false_or] at h
   exact h
section
variable{X:Cx}{cm:String->Addr}{K:KK}{E:L2.St->XK}{a b e o:Expr}{es:List Expr}{pos apos:Pos}{m ma mb:M PV}{f:Str}
theorem kW{F:Hp}:∀{fs:List (Str×V)} {ps:List PV} {p:PV},ĉ K F ps (fs.map (·.2))->((fs.map (·.1)).zip ps).lookup f=some p->∃v,fs.lookup f=some v/\Rep K F p v
 | [],ps,p,_,h=>by simp at h
 |(g,v)::fs,ps,p,r,h=>by
  have r':=r.pr
  rw[List.map_cons] at r'
  cases r' with
  |cons r1 t=>
   rename_i q qs
   rw[List.map_cons,List.zip_cons_cons,List.lookup_cons] at h
   rw[List.lookup_cons]
   cases hg:f== g with
   |true=>
    simp only[hg] at h
    cases h
    exact⟨v,rfl,r1⟩
   |false=>
    simp only[hg] at h
    exact kW (ĉ.of t) h
theorem rR.ins{c:Ctx}{F H:Hp}{σ:L2.St}{ρ:ĸ}{C:String}{ns:List Str}{ps:List PV}{v:V}(s:Same F H)(h:rR K c σ ρ F H (.ins C ns ps) v):∃a dx fs,v=.ref a/\H a=some (.ins (K.cm C) dx fs)/\fs.map (·.1)=ns/\ĉ K F ps (fs.map (·.2)):=by
 rcases h with h|h
 ·unfold Rep at h
  obtain⟨a,dx,fs,h1,h2,h3,h4⟩:=h
  exact⟨a,dx,fs,h1,s _ _ h2,h3,h4⟩
 ·exact h
def gb(cs:List String)(f:Str):PV->Option PV
 | .ins C ns ps=>if cs.contains C=true then(ns.zip ps).lookup f else none
 |_=>none
def sy(cs:List String)(hcs:kO (λC=>Cls X.K (cm C)/\ĥ X.K (cm C) f) cs)(he:PE X e (tR (kk X cm) E m))(hb:attributeBase e f X.env (eval e X.env)=eval e X.env:=by rfl):PE X (.Attribute e f pos) (tV (kk X cm) E (Gq (gb cs f) m)):=
 PE.wk (Px he hb) fun σ H Q ⟨c,F,ρ,rel,h⟩=>⟨c,F,ρ,rel,h.bind fun p ρ1 v F1 H1 Ċ _ _ r1 h1=>by
   cases p with
   |ins C ns ps=>
    unfold gb at h1
    dsimp only at h1
    split at h1
    ·rename_i hc
     obtain⟨a,dx,fs,rfl,q2,q3,q4⟩:=r1.ins Ċ.sub
     cases el:(ns.zip ps).lookup f with
     |none=>rw[el] at h1;exact h1.elim
     |some q=>
      rw[el] at h1
      subst q3
      obtain⟨v,e1,e2⟩:=kW q4 el
      obtain⟨k1,k2⟩:=hcs.get hc
      exact⟨a,_,dx,fs,v,rfl,q2,k1,k2,e1,h1 v F1 H1 Ċ (Same.refl _) (Same.refl _) e2⟩
    ·exact h1.elim
   |_=>exact h1.elim⟩
variable{CX:gK}{k n:Nat}{mth:Str}{mQ:List (String×MF)}{ms:M (List Slot)}
def putN(f:Str):List Str->List Str
 | []=>[f]
 |g::r=>if g=f then g::r else g::putN f r
def vA(f:Str)(p:PV):List Str->List PV->List PV
 | [],_=>[p]
 |g::r,q::qs=>if g=f then p::qs else q::vA f p r qs
 |_::_,[]=>[]
theorem xr{F:Hp}{p:PV}{y:V}(ry:Rep K F p y):∀{fs:List (Str×V)} {ps:List PV},ĉ K F ps (fs.map (·.2))->(bh f y fs).map (·.1)=putN f (fs.map (·.1))/\ĉ K F (vA f p (fs.map (·.1)) ps) ((bh f y fs).map (·.2))
 | [],ps,r=>⟨rfl,ĉ.cons ry ĉ.nil⟩
 |(g,v)::fs,ps,r=>by
  have r':=r.pr
  rw[List.map_cons] at r'
  cases r' with
  |cons r1 t=>
   rename_i q qs
   unfold bh
   rw[List.map_cons]
   unfold putN vA
   by_cases hg:g=f
   ·rw[if_pos hg,if_pos hg,if_pos hg]
    exact⟨rfl,ĉ.cons ry (ĉ.of t)⟩
   ·rw[if_neg hg,if_neg hg,if_neg hg]
    obtain⟨h1,h2⟩:=xr ry (ĉ.of t)
    exact⟨by rw[List.map_cons,h1],ĉ.cons r1 h2⟩
def dR(i:Nat)(cs:List String)(f:Str)(mv:M PV):M Fl:=λρ=>(mv ρ).bind λp ρ1=>match ρ1[i]? with
 |some (.rc C ns ps)=>if cs.contains C=true/\ns.length<1000 then .ok .nx (ρ1.set i (.rc C (putN f ns) (vA f p ns ps))) else .bad
 |_=>.bad
def Ş{i:Nat}{x:Str}{px pos':Pos}(cs:List String)(hcs:kO (λC=>Cls X.K (cm C)/\ĥ X.K (cm C) f) cs)(ho:PE X (.Name x px) (pB i))(he:PE X e (tV (kk X cm) E m))(hs:swapsWith e (some (.Attribute (.Name x px) f pos')) pos.line X.env=pure false:=by rfl) :
 PS X (.Assign [.Attribute (.Name x px) f pos'] e pos) (tS (kk X cm) E (dR i cs f m)):=PS.wk (Py ho he hs) λD σ H ⟨c,F,ρ,rel,h⟩=>⟨c,F,ρ,rel,Ř.bind h λp ρ1 y F1 H1 Ċ s1 ry h1=>by
 cases e1:ρ1[i]? with
 |none=>rw[e1] at h1;exact h1.elim
 |some sl=>
  rw[e1] at h1
  cases sl with
  |rc C ns ps=>
   dsimp only at h1
   split at h1
   ·rename_i hc
    obtain⟨a,dx,fs,q1,q2,q3,q4,q5,q6,q7⟩:=Ċ.slot i _ e1
    subst q5
    obtain⟨k1,k2⟩:=hcs.get hc.1
    refine⟨.ref a,at_of q1,a,_,dx,fs,rfl,q2,k1,k2,by simpa using hc.2,?_⟩
    obtain⟨z1,z2⟩:=xr (f:=f) (p:=p) ry q6
    exact h1 σ F1 _ (Ċ.write ⟨_,_,e1,at_of q1,rfl⟩ (at_of q1) ⟨a,dx,_,rfl,ē,q3,q4,z1,z2,q7⟩ λ_ z=>(V.ref.inj z).symm) (Same.refl _)
   ·exact h1.elim
  |_=>exact h1.elim⟩
inductive IR where
 |ok (ns:List Str) (ps:List PV)|exc (x:PX)|bad
abbrev MI:=List Slot->IR
def IR.of:Res Fl->IR
 | .ok .nx (.rc _ ns ps::_)=>.ok ns ps
 | .exc x _=>.exc x
 |_=>.bad
def aq(n k:Nat)(C:String)(mb:M Fl):MI:=λas=>if as.length+1=n then IR.of (mb (.rc C [] []::startP (k-1) as)) else .bad
structure GrB(a:Addr)(F H F' H':Hp):Prop where
 h:∀b u,b≠a->H b=some u->H' b=some u
 f:Same F F'
 sub:Same F' H'
 out:∀b,b≠a->H b≠none->F b=none->F' b=none
def ZbZ(K:KK)(E:XK)(F H:Hp)(Q:VK)(a dx:Addr)(C:String):IR->Prop
 | .ok ns ps=>∀F' H' fs,GrB a F H F' H'->H' a=some (.ins (K.cm C) dx fs)->F' a=none->fs.map (·.1)=ns->ĉ K F' ps (fs.map (·.2))->Q .non H'
 | .exc x=>∀C' d F' H',GrB a F H F' H'->HD K F' x C' d->E C' d H'
 | .bad=>False
def Gu(K:KK)(n:Nat)(C:String)(mi:MI):Sp:=λvs H Q E=>∃F a dx vs' as,vs=.ref a::vs'/\as.length+1=n/\H a=some (.ins (K.cm C) dx [])/\F a=none/\Same F H/\Paired (ſ K F H) as vs'/\ZbZ K E F H Q a dx C (mi as)
def Ie(a dx:Addr)(C:String)(F H:Hp):Ctx:=⟨λb=>if b=a then none else H b,F,λb=>if b=a then none else(ctx0 F H).L b,λa' dx' C'=>a'=a/\dx'=dx/\C'=C⟩
def Rel.gri{σ:L2.St}{ρ:ĸ}{a dx:Addr}{C:String}{F H F' H':Hp}(r:Rel K (Ie a dx C F H) F' H' σ ρ):GrB a F H F' H':=
 ⟨λb u hb e=>r.base b u (by show(if b=a then none else H b)=_;rw[if_neg hb];exact e),r.f0,r.sub,λb hb h1 h2=>r.b_ b (by show(if b=a then none else H b)≠none;rw[if_neg hb];exact h1) h2⟩
def Rel.QT{F H:Hp}{N:List Str}{as:List Slot}{vs:List V}{a dx:Addr}{C:String}(s:Same F H)(ha:H a=some (.ins (K.cm C) dx []))(hF:F a=none)(h:Paired (ſ K F H) as vs) :
 Rel K (Ie a dx C F H) F H (L2.start N (.ref a::vs)) (.rc C [] []::startP (N.length-1) as):=by
 have r0:=Rel.start (N:=N) (K:=K) s (as:=.sh (.int 0)::as) (vs:=.int 0::vs) (.cons (Rep.int (K:=K) (F:=F) (i:=0)) h)
 have est:L2.start N (.ref a::vs)=some (.ref a)::(L2.start N (.int 0::vs)).tail:=by unfold L2.start;simp
 have Zb0:(L2.start N (V.int 0::vs)).tail.length=(startP (N.length-1) as).length:=by
  unfold L2.start startP
  simp[Paired.length h]
  omega
 have tl:∀i:Nat,(L2.start N (.int 0::vs)).tail[i]?=(L2.start N (.int 0::vs))[i+1]?:= λi=>by simp
 have sp:∀i:Nat,(startP (N.length-1) as)[i]?=(startP N.length (.sh (.int 0)::as))[i+1]?:= λi=>by
  unfold startP
  simp only[List.cons_append,List.getElem?_cons_succ,List.length_cons]
  rw[show N.length-1-as.length=N.length-(as.length+1) by omega]
 have oG:∀(i:Nat) (s':Slot),(startP (N.length-1) as)[i]?=some s'->s'.own=false:=λi s' e=>by
  unfold startP at e
  by_cases hi:i<as.length
  ·rw[List.getElem?_append_left hi] at e
   obtain⟨v,_,h3⟩:=bB h e
   exact(ſ.slot h3).2
  ·rw[List.getElem?_append_right (by omega),List.getElem?_replicate] at e
   split at e
   ·cases e;rfl
   ·cases e
 rw[est]
 refine⟨s,λb u e=>?_,Same.refl _,λ_ _ z=>z,λb u e=>?_,λb e=>?_,?_,λi s' e=>?_,λi j b h1 h2=>?_⟩
 ·have e':(if b=a then none else H b)=some u:=e
  split at e'
  ·cases e'
  ·exact e'
 ·have e':(if b=a then none else(ctx0 F H).L b)=some u:=e
  split at e'
  ·cases e'
  ·exact bC e'
 ·show(if b=a then none else(ctx0 F H).L b)=none
  have e':(if b=a then none else H b)=none:=e
  split
  ·rfl
  ·rename_i hb
   rw[if_neg hb] at e'
   exact r0.lb b e'
 ·simp[Zb0]
 ·cases i with
  |zero=>
   cases e
   exact⟨a,dx,[],rfl,ha,hF,by show(if a=a then none else H a)=none;rw[if_pos rfl],rfl,ĉ.nil,rfl,rfl,rfl⟩
  |succ i=>
   have e':(startP (N.length-1) as)[i]?=some s':=by simpa using e
   have q:=r0.slot (i+1) s' (by rw[<-sp];exact e')
   rw[<-tl] at q
   show ő K (Ie a dx C F H) F H (((some (V.ref a)::(L2.start N (.int 0::vs)).tail)[i+1]?).getD none) s'
   rw[List.getElem?_cons_succ]
   cases s' with
   |no=>trivial
   |sh p=>exact q
   |bw ps=>
    obtain⟨b,ws,q1,q2,q3⟩:=q
    refine⟨b,ws,q1,?_,q3⟩
    show(if b=a then none else(ctx0 F H).L b)=_
    rw[if_neg (λz=>by
     have:=(bC q2).1
     rw[z,ha] at this
     cases this)]
    exact q2
   |ow ps=>have:=oG i _ e';cases this
   |rc C ns ps=>have:=oG i _ e';cases this
   |ot ps qs rs=>have:=oG i _ e';cases this
   |ol BR=>have:=oG i _ e';cases this
   |od t kvs=>have:=oG i _ e';cases this
   |bd t kvs=>
    obtain⟨b,u,q1,q2,q3⟩:=q
    refine⟨b,u,q1,q2.imp (λq2=>?_) id,q3⟩
    show(if b=a then none else(ctx0 F H).L b)=_
    rw[if_neg (λz=>by
     have:=(bC q2).1
     rw[z,ha] at this
     rcases q3 with⟨_,ks,rfl,_⟩|⟨_,ks,rfl,_⟩<;>cases this)]
    exact q2
 ·have at0:∀{i},ĵ F (some (.ref a)::(L2.start N (.int 0::vs)).tail) (Slot.rc C [] []::startP (N.length-1) as) i b→i=0:=fun{i} ⟨s',y,q1,_,q2⟩=>by
   have q2:=jX q2
   cases i with
   |zero=>rfl
   |succ i=>
    have:=oG i s' (by simpa using q1)
    rw[this] at q2
    cases q2
  rw[at0 h1,at0 h2]
end
section
variable{P:Program}{w:World}{K:PySem.W.Frag}{cm:String->Addr}{mg:Str->Option Value}{base:Heap}{CX:gK}
def Ug{x qual:Str}{st:Stmt}{f:Addr}{fd:FuncData}{N ps:List Str}{k n j:Nat}{C:String}{mb:M Fl}{mi:MI}(F:Hl K x qual st f fd)(S:ď N ps (ć st))(hn:ps.length=n)(hj:N.length=j)(hf:mi=aq n j C mb)
 (hbody:∀(cdv:Value) (A:Around) (outer:List Env) (s:Shared) (H:Hp) (E:XK),Ś k (A.deeper (envOfC qual (ć st) s.heap.objs.size f cdv))→
   fB (pF CX P w K mg base N qual (ć st) f cdv A outer s H E) (ŋ st) (tS ⟨K,cm⟩ (λ_=>E) mb)):Ĭ P w K mg base CX (k+1) f fd ps (Gu ⟨K,cm⟩ n C mi):=by
 subst hn hj hf
 obtain⟨oc,od,kV,doc,pm,an,cdv,ct,osl,rfl,lk,hcd⟩:=F.ex
 refine JF lk hcd S (λvs H Q E ⟨F,a,dx,vs',as,h1,h2,_,_,_,h3,_⟩=>by rw[h1,List.length_cons,<-Paired.length h3];exact h2) λA outer s H vs Q E hr hsp=>?_
 obtain⟨F,a,dx,vs',as,rfl,h2,h3,h4,h5,h6,h7⟩:=hsp
 refine⟨_,hbody cdv A outer s H E hr,Ie a dx C F H,F,_,Rel.QT h5 h3 h4 h6,?_⟩
 unfold aq at h7
 rw[if_pos h2] at h7
 cases e:mb (.rc C [] []::startP (N.length-1) as) with
 |bad=>rw[e] at h7;exact h7
 |exc x ρ'=>rw[e] at h7;exact λσ' C' d F' H' rel s1 q=>h7 C' d F' H' rel.gri q
 |ok fl ρ'=>
  rw[e] at h7
  cases fl with
  |nx=>
   cases ρ' with
   |nil=>exact h7.elim
   |cons sl ρ'=>
    cases sl with
    |rc C' ns qs=>
     intro σ' F' H' rel s1
     obtain⟨b,dy,fs,q1,q2,q3,q4,q5,q6,rfl,rfl,rfl⟩:=rel.slot 0 _ rfl
     exact h7 F' H' fs rel.gri q2 q3 q5 q6
    |_=>exact h7.elim
  |bk=>exact h7.elim
  |ct=>exact h7.elim
  |rt r=>exact h7.elim
end
def au(C:String)(mi:MI)(ms:M (List Slot)):M PV:=λρ=>(ms ρ).bind λas ρ1=>match mi as with
 | .ok ns ps=>.ok (.ins C ns ps) ρ1
 | .exc x=>.exc x ρ1
 | .bad=>.bad
section
variable{X:Cx}{cm:String->Addr}{E:L2.St->XK}{e:Expr}{es:List Expr}{pos p:Pos}{CX:gK}{k n:Nat}{f:Addr}{fd:FuncData}{ps:List Str}{C:String}{mi:MI}{ms:M (List Slot)}{x:Str}
def CG{c:Ctx}{F1 H1:Hp}{σ:L2.St}{ρ1:ĸ}{Q:VK}{as:List Slot}{vs:List V}(hlen:(∃r,mi as=r/\∀z,r=z->z≠ .bad)->as.length+1=n)(Ċ:Rel (kk X cm) c F1 H1 σ ρ1)(r1:Paired (ſ (kk X cm) F1 H1) as vs)
 (h:ż (kk X cm) E (rV (kk X cm)) c F1 H1 σ Q (match mi as with| .ok ns ps=>.ok (.ins C ns ps) ρ1| .exc x=>.exc x ρ1| .bad=>.bad)) :
 ∀x dx,H1 x=none->H1 dx=none->dx≠x->Gu (kk X cm) n C mi (.ref x::vs) (upd (upd H1 dx (.own x)) x (.ins (cm C) dx [])) (λv H2=>v=.non/\Q (.ref x) H2) (E σ):=by
 intro x dx hx hdx hne
 have up:∀b u,H1 b=some u->upd (upd H1 dx (.own x)) x (.ins (cm C) dx []) b=some u:=λb u e=>by
  rw[č (Ī e hx),č (Ī e hdx)];exact e
 have Ig:∀{F' H':Hp},GrB x F1 (upd (upd H1 dx (.own x)) x (.ins (cm C) dx [])) F' H'->Gr F1 H1 F' H':=fun{F' H'} g=>
  ⟨fun b u e=>g.h b u (Ī e hx) (up b u e),g.f,g.sub,fun b hb hf=>by
    obtain⟨u,hu⟩:∃u,H1 b=some u:=by
     cases q:H1 b with
     |none=>exact absurd q hb
     |some u=>exact⟨u,rfl⟩
    exact g.out b (Ī hu hx) (by rw[up b u hu];intro z;cases z) hf⟩
 refine⟨F1,x,dx,vs,as,rfl,?_,ē,Ċ.sub.free hx,λb u e=>up b u (Ċ.sub b u e),?_,?_⟩
 ·refine hlen ⟨_,rfl,λz hz hb=>?_⟩
  rw[hz,hb] at h
  exact h
 ·refine Paired.mono (λs v hs=>?_) r1
  cases s with
  |sh p=>exact hs
  |bw qs=>
   obtain⟨b,ws,q1,q2,q3,q4⟩:=hs
   exact⟨b,ws,q1,up b _ q2,q3,q4⟩
  |_=>exact hs.elim
 ·cases em:mi as with
  |bad=>rw[em] at h;exact h
  |exc y=>rw[em] at h;exact λC' d F' H' g rx=>h C' d F' H' (Ċ.call (Ig g)) g.f rx
  |ok ns qs=>
   rw[em] at h
   intro F' H' fs g hx' hF' hn hr
   have r2:=Ċ.call (Ig g)
   have r3:=r2.freeze hx' (Ċ.base.free hx) hF' (Ċ.pO (Ig g).f (Ċ.fresh hx))
   refine⟨rfl,h _ _ H' r3 (g.f.trans (Same.upd hF')) (Ig g).h ?_⟩
   show Rep _ _ _ _
   unfold Rep
   exact⟨x,dx,fs,rfl,ē,hn,ĉ.same (Same.upd hF') qs _ hr⟩
def zG{pins:List (Addr×Obj)}{σ:L2.St}{H:Hp}{s:Shared}{Q:VK}{us:List Value}{vs:List V}{sp:Sp}{C:Addr}(M:Mk X.K C f)(F:Ĭ X.prog X.w X.K X.mg X.base CX k f fd ps sp)(hr:Ś (k+1) X.A)(hb:Binds X.K fd ps [])
 (hx:dg CX X E)(I:Inv X pins σ H s)(r:Vals vs us)
 (h:∀x dx,H x=none->H dx=none->dx≠x->sp (.ref x::vs) (upd (upd H dx (.own x)) x (.ins C dx [])) (λv H2=>v=.non/\Q (.ref x) H2) (E σ)) :
 wpAny (model X.prog X.w) X.A (call (.ref C) us) (EP X pins σ Q) X.xe s:=by
 have hq:=h (s.heap.objs.size+1) s.heap.objs.size (I.hok.fresh (Nat.le_succ _)) (I.hok.fresh (Nat.le_refl _)) (Nat.ne_of_lt (Nat.lt_succ_self _))
 have I2:=Inv.made (C:=C) I
 have r2:Vals (V.ref (s.heap.objs.size+1)::vs) (Value.ref (s.heap.objs.size+1)::us):=.cons rfl r
 have hl:(Value.ref (s.heap.objs.size+1)::us ++ []).length=ps.length:=by
  have e:=r2.length
  rw[F.len _ _ _ _ hq] at e
  rw[List.append_nil]
  exact e.symm
 have hbd:=hb {s with heap:=(s.heap.push PySem.W.emptyDict).push (PySem.W.instObj C s.heap.objs.size)} (Value.ref (s.heap.objs.size+1)::us) I2.Aq hl
 rw[List.append_nil] at hbd
 refine wpAny_call (Bd (f:=f) I.Aq M.makes M.init (beq_iff_eq.mp M.fn) (codeAny_mono (F.run _ X.stack _ _ ⟨Value.ref (s.heap.objs.size+1)::us,[]⟩ _ _ _ (E σ) (hr.make C us []) (I2.env0.make C us []) hbd r2 hq) λr s' hq'=>?_))
 cases r with
 |error e=>exact hx pins σ _ _ e s' I2 hq'
 |ok fl=>
  cases fl with
  |ret u=>
   obtain⟨v,H',I3,rv,ev,q3⟩:=I2.after hq'
   subst ev
   exact⟨rv,⟨V.ref (s.heap.objs.size+1),H',I3,rfl,q3⟩⟩
  |next=>exact False.elim hq'
  |brk=>exact False.elim hq'
  |cont=>exact False.elim hq'
def ų{n k:Nat}{C:String}{mb:M Fl}{as:List Slot}(h:∃r,aq n k C mb as=r/\∀z,r=z->z≠ .bad):as.length+1=n:=by
 obtain⟨r,h1,h2⟩:=h
 unfold aq at h1
 by_cases hl:as.length+1=n
 ·exact hl
 ·rw[if_neg hl] at h1
  exact absurd h1.symm (λz=>h2 .bad (by rw[<-h1]) rfl)
def gZ(M:Mk X.K (cm C) f)(F:Ĭ X.prog X.w X.K X.mg X.base CX k f fd ps (Gu (kk X cm) n C mi))(hlen:∀{as:List Slot},(∃r,mi as=r/\∀z,r=z->z≠ .bad)->as.length+1=n)(hr:Ś (k+1) X.A)(hg:Gl X x)(hm:X.mg x=some (.ref (cm C)))(hb:Binds X.K fd ps [])(hx:dg CX X E)
 (ha:PA X (e::es) (tA (kk X cm) E ms))(hdb:(x== ("__debug__" :Str))=false:=by decide)(he:starEach (e::es) X.env=(false,eval e X.env)::starEach es X.env:=by exact ŵ rfl)(hpl:(backTo pos (starEach es X.env)).any (·.1)=false:=by rfl) :
 PE X (.Call (.Name x p) (e::es) [] pos) (tV (kk X cm) E (au C mi ms)):=by
 intro pins s σ H Q I ⟨c,F',ρ,rel,h⟩
 refine wpAny_Call_Name_kw (pC I hg hm ?_ hdb)
 refine PySem.W.callWith_K (h₀:= X.base) I.ok.mod.YG M.kp (Ń (ha pos pins s σ H (λvs H1=>∀x dx,H1 x=none->H1 dx=none->dx≠x->Gu (kk X cm) n C mi (.ref x::vs) (upd (upd H1 dx (.own x)) x (.ins (cm C) dx [])) (λv H2=>v=.non/\Q (.ref x) H2) (E σ)) I
  ⟨c,F',ρ,rel,ż.bind h λas ρ1 vs F1 H1 Ċ _ _ r1 h1=>CG hlen Ċ r1 h1⟩) λus s1 ⟨vs,H1,I1,r,q⟩=>⟨I1.Aq,?_⟩) he hpl
 exact zG M F hr hb hx I1 r q
end
end P
namespace P
open PySem PySem.Spec PyProof.Rows L2 M2 M3 M4
section
variable{M:Model}{A:Around}{E:Value->Shared->Prop}{s:Shared}{B:Heap}{env:Env}{outer:List Env}{L e:Addr}{Q:Unit->Shared->Prop}
end
def cg.sub{P:Program}{w:World}{H:Hp}{h B:Heap}(x:cg P w H h)(k:∀b o u,H b=some u->h.get? b=some o->B.get? b=some o):cg P w H B:=λa o e=>
 (x a o e).stay (fun b u hb q=>by
   rcases hb with rfl|hb
   ·exact k _ _ _ e q
   ·exact k _ _ _ hb q) (λ_ q=>q) λ_ _ q=>q
section
variable{P:Program}{w:World}{K:PySem.W.Frag}{mg:Str->Option Value}{base:Heap}{N:List Str}{qual:Str}{scope:Scope}{f:Addr}{cdv:Value}{A:Around}{outer:List Env}{s₀:Shared}{H₀:Hp}{E:XK}
end
end P
namespace P
open PySem PySem.Spec PyProof.Rows L2 M2 M3 M4
section
variable{K:PySem.W.Frag}{h:Heap}{C:Addr}{bmB:List Value}{newId:String}
end
section
variable{X:Cx}{cm:String->Addr}{E:L2.St->XK}{x:Str}{C:String}{np cpos pos:Pos}
end
section
variable{M:Model}{A:Around}{E:Value->Shared->Prop}{s:Shared}{K:PySem.W.Frag}{e C D:Addr}{oe:Obj}{b:Bool}{Q:Bool->Shared->Prop}
end
section
variable{X:Cx}{pins:List (Addr×Obj)}{σ:L2.St}{H:Hp}{s:Shared}{xe:Value->Shared->Prop}
end
end P
namespace P
open PySem PySem.Spec PyProof.Rows L2 M2 M3 M4
abbrev MH:=PX->ĸ->Res Fl
section
variable{X:Cx}{cm:String->Addr}{E:L2.St->XK}{pins:List (Addr×Obj)}{σ:L2.St}{H Hc:Hp}{s sc:Shared}{ea:Addr}{C:Value}{d:Option Addr}{B:Heap}
variable{y n:Str}{Dn:String}{i:Nat}{yp hpos:Pos}{b₀:Stmt}{suite:List Stmt}{rest:List ExceptHandler}{yes no:List String}{mh:M Fl}{mr:MH}
end
end P
namespace P
open PySem PySem.Spec PyProof.Rows L2 M2 M3 M4 Builtin Builtin.ObjectAttr
section
variable{K:PySem.W.Frag}{h:Heap}{C:Addr}{cd:ClassData}{bm:List Value}
end
section
variable{prog:Program}{w:World}{A:Around}{E:Value->Shared->Prop}{h:Heap}{g:Array GenState}{d:Drawn}{t:Nat}{os:OsState}
variable{nm q:Str}{C N:Addr}{bs bm bmB:List Value}{hdct:Bool}{sn:List Str}{sub:List Value}{ab:Bool}{col:Option Bool}{dd:Option Addr}{k0 k1 k2 k3 k5:Option Value}{B newId initId:String}
end
section
variable{prog:Program}{w:World}{A:Around}{E:Value->Shared->Prop}{s:Shared}{K:PySem.W.Frag}{x C:Addr}{cd:ClassData}{bm:List Value}{ox:Obj}{od:Option Obj}{name:Str}{v:Value}
end
end P
namespace P
open PySem PySem.Spec PyProof.Rows L2 M2 M3 M4
section
variable{X:Cx}{pins:List (Addr×Obj)}{σ:L2.St}{H:Hp}{s:Shared}{a C:Addr}{cd:ClassData}{bm:List Value}{d:Option Addr}{fs:List (Str×V)}{f:Str}{y:V}{u:Value}{A:Around}{E:Value->Shared->Prop}
variable{o value:Expr}{pos pos':Pos}{j:Nat}{ss:List Stmt}{r:List (Str×Nat)}
end
section
variable{P:Program}{w:World}{K:PySem.W.Frag}{mg:Str->Option Value}{base:Heap}{CX:gK}
end
section
variable{X:Cx}{cm:String->Addr}{E:L2.St->XK}{e:Expr}{es:List Expr}{pos p:Pos}{CX:gK}{k n:Nat}{f:Addr}{fd:FuncData}{ps:List Str}{C:String}{fl:List (Str×Nat)}{ms:M (List PV)}{x:Str}
end
section
variable{M:Model}{A:Around}{E:Value->Shared->Prop}{s:Shared}{K:PySem.W.Frag}{env:Env}
end
section
variable{X:Cx}{cm:String->Addr}{E:L2.St->XK}{e:Expr}{es:List Expr}{pos cpos np:Pos}{CX:gK}{k n:Nat}{f:Addr}{fd:FuncData}{ps:List Str}{C:String}{fl:List (Str×Nat)}{ms:M (List PV)}{x:Str}
end
end P
namespace P
open PySem PySem.Spec PyProof.Rows L2 M2 M3 M4 Builtin Builtin.ObjectAttr
section
variable{prog:Program}{w:World}{A:Around}{E:Value->Shared->Prop}{s:Shared}{K:PySem.W.Frag}{x C:Addr}{ox:Obj}{od:Option Obj}
end
section
variable{X:Cx}{cm:String->Addr}{K:KK}
end
section
variable{ρ:ĸ}{C:String}{n i:Nat}{fl:List (Str×Nat)}{ms:M (List PV)}{mb mh:M Fl}{mr:MH}{yes no:List String}{x:PX}
end
end P
namespace P
open PySem PySem.Spec PyProof.Rows L2 M2 M3 M4
section
variable{X:Cx}{cm:String->Addr}{E:L2.St->XK}{y:Str}{Dn:String}{yp hpos:Pos}{b₀:Stmt}{suite:List Stmt}{rest:List ExceptHandler}{yes no:List String}{mh:M Fl}{mr:MH}
end
end P
namespace P
open PySem PySem.Spec PyProof.Rows L2 M2 M3 M4
section
variable{X:Cx}{cm:String->Addr}{K:KK}
def Ka:List V->Hp->VK->Prop:=λxs H Q=>(∃i,xs=[.int i]/\Q (.int i) H)\/∃k,xs=[.bl k]/\Q (.int (if k then 1 else 0)) H
def QV:Ŝ X (.type "int") Ka:=za
def pZ:List PV->Option PV
 | [.int i]=>some (.int i)
 | [.bl k]=>some (.int (if k then 1 else 0))
 |_=>none
def QW:j_ K Ka pZ:=by
 intro c F H σ ρ ps pv vs Q rel r e k
 unfold pZ at e
 split at e
 ·cases e
  obtain⟨v,rfl,r1⟩:=J_ r
  cases r1.int
  exact .inl ⟨_,rfl,k _ F H rel (Same.refl _) (Same.refl _) Rep.int⟩
 ·cases e
  obtain⟨v,rfl,r1⟩:=J_ r
  cases r1.bl
  exact .inr ⟨_,rfl,k _ F H rel (Same.refl _) (Same.refl _) Rep.int⟩
 ·cases e
section
variable{prog:Program}{w:World}{A:Around}{E:Value->Shared->Prop}{s:Shared}{l:Addr}{xs:Array (Int×Tok)}
end
@[simp] theorem Zan{i:Int}:pZ [.int i]=some (.int i):=rfl
@[simp] theorem Zao{b:Bool}:pZ [.bl b]=some (.int (if b then 1 else 0)):=rfl
end
end P
namespace P
open PySem PySem.Spec PyProof.Rows L2 M2 M3 M4
def Wz(K:PySem.W.Frag)(C:Addr):Bool:=PySem.W.plainGet K C Str.empty && PySem.W.hasDictIn K C && PySem.W.plainOver K C && PySem.W.findIn K (.ref C) "__setattr__" == some (some (.builtin "object.__setattr__"))
def eZ{K:PySem.W.Frag}{C:Addr}(h:Wz K C=true):Cls K C:=by
 unfold Wz at h
 simp only[Bool.and_eq_true,beq_iff_eq] at h
 exact⟨h.1.1.1,h.1.1.2,h.1.2,h.2⟩
def mkB(K:PySem.W.Frag)(C f:Addr):Bool:=PySem.W.makesIn K C && PySem.W.findIn K (.ref C) "__init__" == some (some (.ref f)) && PySem.W.isFn K (.ref f) && PySem.W.keepIn K (.ref C)
def kY{K:PySem.W.Frag}{C f:Addr}(h:mkB K C f=true):Mk K C f:=by
 unfold mkB at h
 simp only[Bool.and_eq_true,beq_iff_eq] at h
 exact⟨h.1.1.1,h.1.1.2,h.1.2,h.2⟩
section
variable{ρ:ĸ}{i n k:Nat}{C:String}{cs:List String}{f m:Str}{mv mo:M PV}{mi:MI}{ms:M (List Slot)}{mb:M Fl}{mQ:List (String×MF)}{as:List Slot}{ns:List Str}{ps:List PV}
@[simp] theorem Zap:dR i cs f mv ρ=(mv ρ).bind fun p ρ1=>match ρ1[i]? with
  |some (.rc C ns ps)=>if cs.contains C=true/\ns.length<1000 then .ok .nx (ρ1.set i (.rc C (putN f ns) (vA f p ns ps))) else .bad
  |_=>.bad:=rfl
@[simp] theorem Zaq:aq n k C mb as=if as.length+1=n then IR.of (mb (.rc C [] []::startP (k-1) as)) else .bad:=rfl
@[simp] theorem Zb1{C:String}:IR.of (.ok .nx (.rc C ns ps::ρ))=.ok ns ps:=rfl
@[simp] theorem Zar:au C mi ms ρ=(ms ρ).bind fun as ρ1=>match mi as with
  | .ok ns ps=>.ok (.ins C ns ps) ρ1
  | .exc x=>.exc x ρ1
  | .bad=>.bad:=rfl
@[simp] theorem Zb2:gb cs f (.ins C ns ps)=if cs.contains C=true then(ns.zip ps).lookup f else none:=rfl
end
end P
namespace M3
open PySem PySem.Spec PyProof.Rows L2 M2
section
variable{X:Cx}{elt tg iter:Expr}{ifs:List Expr}{scope:Scope}{pos:Pos}{wi:TI}{g:TG}{tt:TT}{te:TE}
def Ih{iv:Nat}{y:Str}{py spos:Pos}(hN:X.N.Nodup)(hiN:X.N[iv]?=some y)(hy:X.env.scope.names.lookup y=some .local)(hsw:swapsWith (.ListComp elt [⟨tg,iter,ifs,0⟩] scope pos) (some (.Name y py)) spos.line X.env=pure true)(N':List Str)(js:List Nat)(nl:Nat)(sc:Scope)(hsc:X.env.scope=sc)(hcalm:X.calm=true)
 (hi:PI X.ŀ tg iter wi)(hg:∀cl C s H fp,PG (aG X.ŀ N' scope cl C s H fp) tg g)(ht:∀cl C s H fp,Af (aG X.ŀ N' scope cl C s H fp) ifs tt)(he:∀cl C s H fp,PE (aG X.ŀ N' scope cl C s H fp) elt te)
 (hcap:fJ X.ŀ sc scope N' js)(hlen:js.length+nl=N'.length:=by rfl)
 (hk:scope.kind=.function:=by rfl)(hcell:∀y∈scope.names,y.2=.cell->scope.names.lookup y.1=some .cell:=by decide +kernel)(hnames:∀y∈scope.names,y.2=.local->scope.names.lookup y.1=some .local:=by decide +kernel)
 (hfree:∀y∈scope.names,y.2=.free->(sc.names.lookup y.1=some .cell\/sc.names.lookup y.1=some .free):=by decide +kernel)
 (hs:∀x,foldedSetIterable iter X.env x=pure x:=by intro _;rfl) :
 PS X.ŀ (.Assign [.Name y py] (.ListComp elt [⟨tg,iter,ifs,0⟩] scope pos) spos) (λD σ H=>Bu js nl wi g tt te σ H λv H'=>D.nx (σ.set iv (some v)) H'):=by
 intro pins s σ H D I h
 obtain⟨Vx,c1,c2,c3⟩:=fH (scope:=scope) (env:=X.ŀ.env) λy hy hf=>I.ok.has y.1 (by
  have:=hfree y hy hf
  rw[<-hsc] at this
  exact this)
 rw[exec_Assign_Name_used _ _ _ _ (show swapsWith _ _ _ X.ŀ.env=pure true from hsw)]
 refine wpAny_bind (wpAny_standAt (wpAny_bind ?_))
 show wpAny _ X.A (do let _ <-comprehension (.ListComp elt [⟨tg,iter,ifs,0⟩] scope pos) scope X.ŀ.env _ (newList []) false (eval iter X.ŀ.env) (some (assign (.Name y py) X.ŀ.env))) _ _ s
 refine wpAny_bind (wpAny_mono (wpAny_comprehension_free (Q:=λ_ s'=>SP X.ŀ pins D .next s') (use:=some (assign (.Name y py) X.ŀ.env)) rfl hs c1 hk hnames (Ń (hi pins s σ H _ I h) λv s1 h1=>Ń h1 λitv s2 h2=>?_)) (λ_ s' hq=>wpAny_pure (wpAny_pure hq)) λ_ _ e=>e)
 obtain⟨it,fp,tn,J,H2,e,I2,T,st2,f2,q2⟩:=h2
 subst e
 refine wpAny_newObj_type (dI (λh₁ hns₁ old Qn=>?_))
 dsimp only at hns₁ old Qn ⊢
 generalize Qo:s2.heap.push {cls:=.type "list",dict:=none,data:=.seq ([]:List Value).toArray}=Ů at hns₁ old Qn ⊢
 have hD:H2 s2.heap.objs.size=none:=I2.hok.fresh (Nat.le_refl _)
 have I3:Inv X.ŀ pins σ (upd H2 s2.heap.objs.size (.lst [])) {s2 with heap:=Ů}:=by
  rw[<-Qo]
  exact I2.laid (t':=s2.toks) (λb u e=>Heap.get?_push_of_some _ e) (Nat.le_refl _) ⟨Nat.zero_le _,[],0,.nil,Heap.get?_push_size _ rfl⟩
 have Hv:∀b∈fp,b<s2.heap.objs.size:=λb hb=>by
  obtain⟨o,ho,_⟩:=T.obj 0 _ st2 b hb
  exact Heap.lt_size ho
 have Qp:Ů.objs.size=s2.heap.objs.size+1:=by rw[<-Qo,Heap.size_push]
 have f3:∀b∈fp,dz X.ŀ pins (upd H2 s2.heap.objs.size (.lst [])) b:=λb hb=>by
  obtain⟨g0,g1⟩:=f2 b hb
  exact⟨by rw[č (Nat.ne_of_lt (Hv b hb))];exact g0,g1⟩
 have B:=Bv (X:=X.ŀ) (cl:=Vx) hcell c2 c3 (λx c e=>by
  obtain⟨v,o,ho,_⟩:=I3.cell x c e
  exact Heap.lt_size ho) Qn
 generalize cellsFrom (Ů.objs.size+1) scope.names Vx=cl at B ⊢
 obtain⟨W,⟨m0,w0⟩,turn⟩:=q2 s2.heap.objs.size hD
 have I4:=n_ (X:=X.ŀ) (N':=N') (js:=js) (nl:=nl) (sc:=sc) (scope:=scope) (cl:=cl) (fp:=fp) (h':=h₁) (tk:=s2.toks) hsc hk hcap hlen B I3 f3 (λb hb=>by show b<Ů.objs.size;rw[Qp];exact Nat.lt_succ_of_lt (Hv b hb)) hns₁ old
 have Vy:tn 0 h₁:= T.keep 0 _ _ st2 λb hb o e=>old b o (by rw[<-Qo];exact Heap.get?_push_of_some _ e)
 have fr4:∀b∈fp,(upd H2 s2.heap.objs.size (.lst [])) b=none:=λb hb=>(f3 b hb).1
 have stat:∀{H':Hp},(∀b∈fp,H' b=none)->∀b∈fp,dz (aG X.ŀ N' scope cl Ů.objs.size {s2 with heap:=Ů} (upd H2 s2.heap.objs.size (.lst [])) fp) [] H' b:=fun{H'} hn b hb=>by
  obtain⟨g0,g1,g2,g3,g4,g5⟩:=f3 b hb
  refine⟨hn b hb,Nat.ne_of_lt (by show b<Ů.objs.size;rw[Qp];exact Nat.lt_succ_of_lt (Hv b hb)),λz=>?_,.inl hb,λx c e=>by
   rcases B.at_ x c e with⟨q,_⟩|⟨q,_⟩
   ·exact g4 x c q
   ·exact Nat.ne_of_gt (Nat.lt_trans (by show b<Ů.objs.size;rw[Qp];exact Nat.lt_succ_of_lt (Hv b hb)) q),λp hp=>absurd hp (by simp[aG])⟩
  rcases List.mem_cons.mp (I3.jO b z) with z|z
  ·exact g1 z
  ·exact g2 z
 have loop:∀s₃:Shared,s₃= {s2 with heap:=h₁}->
  codeAny (model X.prog X.w) X.A (.compLoop (.ListComp elt [⟨tg,iter,ifs,0⟩] scope pos) 0 (.ref it) (.ref s2.heap.objs.size) (compEnvC scope cl Ů.objs.size X.ŀ.env))
   (compPost (model X.prog X.w) X.A X.ŀ.xe (some (assign (.Name y py) X.ŀ.env)) (λ_ s'=>SP X.ŀ pins D .next s') (.ref s2.heap.objs.size) Ů.objs.size) s₃:= by
  rintro s₃ rfl
  refine fK (λn s'=>∃i σ' H',Inv (aG X.ŀ N' scope cl Ů.objs.size {s2 with heap:=Ů} (upd H2 s2.heap.objs.size (.lst [])) fp) [] σ' H' s'/\tn i s'.heap/\(∀b∈fp,H' b=none)/\W i n σ' H') ?_ m0 ⟨0,_,_,I4,Vy,fr4,w0⟩
  rintro n s5 ⟨i,σ5,H5,I5,GK,OJ,w5⟩
  rcases turn i n σ5 H5 w5 with⟨stop,qn⟩|⟨go,N,hN,step⟩
  ·refine Ń (T.done (aG X.ŀ N' scope cl Ů.objs.size {s2 with heap:=Ů} (upd H2 s2.heap.objs.size (.lst [])) fp) rfl rfl rfl hcalm i [] s5 σ5 H5 (λ_ _=>False) I5 (stat OJ) GK stop) λr s6 ⟨hr,I6⟩=>?_
   subst hr
   obtain⟨m,hm,_⟩:=I6.loc
   have I7:Inv X.ŀ pins σ H5 s6:=jW (h':=s6.heap) I3 f3 I6 (λb u hb e=>e)
   have hCL:Ů.objs.size≠X.ŀ.env.locals:=Nat.ne_of_gt I3.lt
   have hcC:∀x c,X.ŀ.env.cells.lookup x=some c->c≠Ů.objs.size:=λx c e z=>by
    obtain⟨v,o,ho,_⟩:=I3.cell x c e
    exact absurd (Heap.lt_size ho) (by rw[z];exact Nat.lt_irrefl _)
   have hpC:∀p∈X.ŀ.pn++pins,p.1≠Ů.objs.size:=λp hp z=>by
    have:=Heap.lt_size (I3.pin p hp).1
    rw[z] at this
    exact Nat.lt_irrefl _ this
   have hnC:H5 Ů.objs.size=none:=I6.free
   refine wpAny_assign_Name (nM (X:=X.ŀ) (i:=iv) I7 hN hiN (.inl hy) (v:=.ref s2.heap.objs.size) rfl (λs8 I8 ⟨a8,sb8,ha8⟩=>?_) (.inr hy))
   have ne8:Ů.objs.size≠a8:=by
    rcases ha8 with rfl|ha8
    ·exact hCL
    ·exact λz=>hcC _ _ ha8 z.symm
   refine⟨m,hm.sameBut sb8 ne8,λh' hs'=>⟨_,H5,?_,qn⟩⟩
   have kp:∀b o,b≠Ů.objs.size->s8.heap.get? b=some o->h'.get? b=some o:=λb o hb e=>hs'.extBut b o hb e
   have kp':∀b o,b∉[Ů.objs.size]->s8.heap.get? b=some o->h'.get? b=some o:=λb o hb e=>kp b o (λz=>hb (by rw[z];exact List.mem_cons_self)) e
   refine I8.call' (ch:=[Ů.objs.size]) (s':={s8 with heap:=h'}) rfl ⟨λb o e _ _ hx=>kp' b o hx e,λb o e _ _ hx=>⟨o.slots,kp' b o hx e⟩,λb o _ n _=>n,λb o e hx=>⟨o,kp' b o hx e⟩,λ_ _ q=>q,λ_ _ _ q=>q,λ_ ps q=>q⟩ (wM I8.hok hnC kp) I8.bare λb hb=>?_
   cases List.mem_singleton.mp hb
   exact⟨.inr I3.sz,hCL,hcC,hpC⟩
  ·refine Ń (T.item (aG X.ŀ N' scope cl Ů.objs.size {s2 with heap:=Ů} (upd H2 s2.heap.objs.size (.lst [])) fp) rfl rfl rfl hcalm i [] s5 σ5 H5 (λ_ _=>False) I5 (stat OJ) GK go) λr s6 ⟨u,hr,h6⟩=>?_
   subst hr
   refine Ń h6 λ_ s7 ⟨x,H7,I7,r7,y7,Qq,fr7⟩=>?_
   have I7':=I7.pinned (stat fr7) (T.obj _ _ Qq)
   have again:∀{s8:Shared} {σ8:L2.St} {H8:Hp},Inv (aG X.ŀ N' scope cl Ů.objs.size {s2 with heap:=Ů} (upd H2 s2.heap.objs.size (.lst [])) fp) ([]++gH fp s7.heap) σ8 H8 s8->
    Inv (aG X.ŀ N' scope cl Ů.objs.size {s2 with heap:=Ů} (upd H2 s2.heap.objs.size (.lst [])) fp) [] σ8 H8 s8/\tn (i+1) s8.heap/\∀b∈fp,H8 b=none:=fun{s8 σ8 H8} I8=>by
    refine⟨I8.cj,T.keep _ _ _ Qq λb hb o e=>(I8.pin (b,o) (List.mem_append_right _ (List.mem_append_right _ (ţ hb e)))).1,λb hb=>?_⟩
    obtain⟨o,e,d⟩:=T.obj _ _ Qq b hb
    exact(I8.pin (b,o) (List.mem_append_right _ (List.mem_append_right _ (ţ hb e)))).2.1
   refine Ń (hg cl _ _ _ fp _ s7 σ5 H7 x u _ I7' r7 (step x H7 y7)) λ_ s8 ⟨σ8,H8,I8,q8⟩=>?_
   refine Ń (ht cl _ _ _ fp _ s8 σ8 H8 _ I8 q8) λc s9 ⟨H9,I9,q9⟩=>?_
   cases c with
   |false=>
    rw[if_neg Bool.false_ne_true] at q9 ⊢
    obtain⟨m',hm',w9⟩:=hN _ _ q9
    obtain⟨a1,a2,a3⟩:=again I9
    exact⟨m',hm',i+1,σ8,H9,a1,a2,a3,w9⟩
   |true=>
    rw[if_pos rfl] at q9 ⊢
    refine Ń (he cl _ _ _ fp _ s9 σ8 H9 _ I9 q9) λyv oh ⟨y,H10,I10,r10,ys,e10,l10,w10⟩=>?_
    refine Ń (ř _ oh σ8 H10 (.ref s2.heap.objs.size) [y] (.ref s2.heap.objs.size) [yv] (λ_ Qs=>N σ8 Qs) I10 rfl (.cons r10 .nil) ⟨_,ys,y,rfl,rfl,e10,l10,w10⟩) λ_ Ag ⟨v11,Qs,I11,_,w11⟩=>?_
    obtain⟨a1,a2,a3⟩:=again I11
    obtain⟨m',hm',w11⟩:=hN _ _ w11
    exact⟨m',hm',i+1,σ8,Qs,a1,a2,a3,w11⟩
 exact codeAny_compStart_list (loop _ rfl) (T.self _ 0 _ _ _ Vy (loop _ rfl))
end
end M3
namespace P
open PySem PySem.Spec PyProof.Rows L2 M2 M3 M4
section
variable{X:Cx}{cm:String->Addr}{E:L2.St->XK}{elt tg iter:Expr}{ifs:List Expr}{scope:Scope}{pos:Pos}{mi:M (List PV)}{g:Tg}{mt:M Bool}{me:M PV}
theorem PS.ŀ{st:Stmt}{t:TS}(h:PS X.ŀ st t):PS X st t:=λpins s σ H D I hw=>
 wpAny_mono (h pins s σ H D (I.wish _) hw) (λ_ _ q=>q.bf) λ_ _ z=>False.elim z
def QX{i:Nat}{y:Str}{py spos:Pos}(hN:X.N.Nodup)(hi0:X.N[i]?=some y)(hy:X.env.scope.names.lookup y=some .local)(N':List Str)(js:List Nat)(nl:Nat)(sc:Scope)(hsc:X.env.scope=sc)(hcalm:X.calm=true)
 (hi:PI X.ŀ tg iter (tI (kk X cm) E mi))(hg:∀cl C s H fp,PG (aG X.ŀ N' scope cl C s H fp) tg (tT (kk X cm) g))(ht:∀cl C s H fp,Af (aG X.ŀ N' scope cl C s H fp) ifs (tB (kk X cm) EF mt))(he:∀cl C s H fp,PE (aG X.ŀ N' scope cl C s H fp) elt (tV (kk X cm) EF me))
 (hcap:fJ X.ŀ sc scope N' js)(hlen:js.length+nl=N'.length:=by rfl)
 (hk:scope.kind=.function:=by rfl)(hcell:∀y∈scope.names,y.2=.cell->scope.names.lookup y.1=some .cell:=by decide +kernel)(hnames:∀y∈scope.names,y.2=.local->scope.names.lookup y.1=some .local:=by decide +kernel)
 (hfree:∀y∈scope.names,y.2=.free->(sc.names.lookup y.1=some .cell\/sc.names.lookup y.1=some .free):=by decide +kernel)
 (hs:∀x,foldedSetIterable iter X.env x=pure x:=by intro _;rfl)(hsw:swapsWith (.ListComp elt [⟨tg,iter,ifs,0⟩] scope pos) (some (.Name y py)) spos.line X.env=pure true:=by rfl) :
 PS X (.Assign [.Name y py] (.ListComp elt [⟨tg,iter,ifs,0⟩] scope pos) spos) (tS (kk X cm) E (Ĳ i (Ÿ js nl mi g mt me))):=
 PS.wk (PS.ŀ (Ih hN hi0 hy hsw N' js nl sc hsc hcalm (JQ hi) hg ht he hcap hlen hk hcell hnames hfree hs)) fun D σ H ⟨c,F,ρ,rel,h⟩=>rQ ⟨c,F,ρ,rel,Ř.bind h fun r ρ1 v F1 H1 Ċ s1 q h1=>by
   cases r with
   |sh p=>exact h1 _ F1 H1 (Ċ.put rfl ⟨v,rfl,q⟩) (Same.refl _)
   |ow ps=>
    obtain⟨a,vs,rfl,q1,q2,q3,q4,q5⟩:=q
    exact h1 _ F1 H1 (Ċ.zy ⟨a,vs,rfl,q1,q2,q3,q5⟩ λ_ z=>V.ref.inj z▸q4) (Same.refl _)
   |ot ps qs rs=>
    obtain⟨p,a,xs,vs,ys,rfl,q0,qx,q1,q2,q3,q4,q5,q6⟩:=q
    exact h1 _ F1 H1 (Ċ.zy (s:=.ot ps qs rs) ⟨p,a,xs,vs,ys,rfl,q0,qx,q1,q2,q3,q5,q6⟩ λ_ z=>jE (ps:=ps) (qs:=qs) (rs:=rs) z ⟨p,xs,ys,rfl,q0,qx.length.symm⟩▸q4) (Same.refl _)⟩
end
end P
namespace P
open PySem PySem.Spec PyProof.Rows L2 M2 M3 M4
section
variable{X:Cx}{cm:String->Addr}{K:KK}{E:L2.St->XK}{o e:Expr}{es:List Expr}{name:Str}{apos cpos:Pos}{id:String}{r:V->List V->Hp->VK->Prop}{f:PV->List PV->Option PV}{mo:M PV}{ms:M (List PV)}
end
end P
namespace P
open PySem PySem.Spec PyProof.Rows L2 M2 M3 M4
section
variable{X:Cx}{pins:List (Addr×Obj)}{σ:L2.St}{H:Hp}{s:Shared}{h':Heap}
def turns{t':Nat}{fp:List Addr}(I:Inv X pins σ H s)(k:∀b o,b∉fp->s.heap.get? b=some o->h'.get? b=some o)(hf:∀b∈fp,dz X pins H b):Inv X pins σ H {s with heap:=h',toks:=t'}:=by
 have Ux:∀b u,H b=some u->b∉fp:=λb u e z=>by rw[(hf b z).1] at e;cases e
 have hL:X.env.locals∉fp:=λz=>(hf _ z).2.1 rfl
 refine I.step (g':=s.gens) (d':=s.drawn) (ch:=fp) (λb hb=>?_) (λb o _ _ hc e _=>k b o hc e) (λb o _ _ hc e _=>⟨o.slots,k b o hc e⟩) (λ_ _ _ _ n=>n)
  (λb o hc e=>⟨o,k b o hc e⟩) (λ_ _ e=>e) (λ_ _ _ e=>e) (λb ps e=>e) (λm hm=>?_) (λb u e=>?_) I.bare
 ·obtain⟨f0,f1,f2,f3,f4,f5⟩:=hf b hb
  exact⟨f3,f1,f4,f5⟩
 ·obtain⟨o,es,ep,ho,r⟩:=hm
  exact⟨o,es,ep,k _ o hL ho,r⟩
 ·refine(I.hok b u e).stay (λc v hc q=>k c v ?_ q) (λ_ q=>q) λ_ _ q=>q
  rcases hc with z|z
  ·rw[z];exact Ux b u e
  ·exact Ux c _ z
def QZ{a b:Addr}{o:HO}(f:dz X pins H b)(h:b≠a):dz X pins (upd H a o) b:=⟨by rw[č h];exact f.1,f.2⟩
def vB{t':Nat}{fp:List Addr}{u1 u2:Value}{x1 x2:V}(I:Inv X pins σ H s)(r1:RelV x1 u1)(r2:RelV x2 u2)(ht:∃o,h'.get? s.heap.objs.size=some o/\o= {cls:=.type "tuple",data:=.seq #[u1,u2]})
 (k:∀b o,b∉fp->s.heap.get? b=some o->h'.get? b=some o)(hf:∀b∈fp,dz X pins H b)(hlt:∀b∈fp,b<s.heap.objs.size) :
 Inv X pins σ (upd H s.heap.objs.size (.tup [x1,x2])) {s with heap:=h',toks:=t'}:=by
 have I1:Inv X pins σ (upd H s.heap.objs.size (.tup [x1,x2])) {s with heap:=s.heap.push {cls:=.type "tuple",data:=.seq #[u1,u2]},toks:=s.toks}:=
  I.laid (t':=s.toks) (λb u e=>Heap.get?_push_of_some _ e) (Nat.le_refl _) ⟨by show 2<=sizeLine;decide,[u1,u2],.cons r1 (.cons r2 .nil),⟨_,Heap.get?_push_size _ rfl,rfl,_,rfl⟩⟩
 refine turns (fp:=fp) (s:={s with heap:=s.heap.push {cls:=.type "tuple",data:=.seq #[u1,u2]},toks:=s.toks}) (h':=h') (t':=t') I1 (λb o hb e=>?_) λb hb=>QZ (hf b hb) (Nat.ne_of_lt (hlt b hb))
 rcases Heap.get?_push_cases e with⟨rfl,rfl⟩|e
 ·obtain⟨o,h1,h2⟩:=ht
  rw[h1,h2]
 ·exact k b o hb e
end
def Ite(K:PySem.W.Frag)(a:Addr):It:=
 ⟨λi H=>∃xs x,Ţ K H a xs/\xs[i]?=some x,λi H y H'=>∃x T,(∀xs,Ţ K H a xs->xs[i]?=some x)/\H T=none/\y=.ref T/\H'=upd H T (.tup [.int i,x]),λi H=>∃xs,Ţ K H a xs/\xs.length<=i⟩
def zH{P:Program}{w:World}{K:PySem.W.Frag}{elts:List Expr}{k:Nat}{pos:Pos}(a e it:Addr)(hne:e≠it):Turn P w K (.Tuple elts k pos) (Ite K a) [e,it] e (λi h=>(∃old,IsEnum h e it i old)/\h.IsListIter it a i) where
 mem:=by simp
 obj:=λi h st b hb=>by
  obtain⟨⟨old,he⟩,hit⟩:=st
  rcases List.mem_cons.mp hb with rfl|hb
  ·exact⟨_,he,fun v z=>by
    have z':Data.fields _=Data.cell v:=z
    cases z'⟩
  ·have e':b=it:=by simpa using hb
   subst e'
   obtain⟨o,e1,c,d⟩:=hit
   exact⟨o,e1,λv z=>by rw[d] at z;cases z⟩
 keep:=λi h h' st k=>⟨let ⟨old,he⟩:=st.1;⟨old,k e (by simp) _ he⟩,st.2.at λo q=>k it (by simp) o q⟩
 item:=by
  intro X hP hw hK hc i pins s σ H E I hf st hg
  subst hP hw hK
  obtain⟨⟨old,he⟩,hit⟩:=st
  obtain⟨xs,x,hq,hx⟩:=hg
  obtain⟨its,rv,p,hz⟩:=I.list hq
  obtain⟨u,hu,ru⟩:=rv.get hx
  have elt:e<s.heap.objs.size:=Heap.lt_size he
  have ilt:it<s.heap.objs.size:=by obtain⟨_,q,_⟩:=hit;exact Heap.lt_size q
  refine wpAny_pyNext_enum_item he hit p.isList (x:=u) (by simpa using hu) hne λh' ho hit' hT hsz hk=>?_
  refine⟨.ref s.heap.objs.size,rfl,wpAny_letOwnedTupleGo_enum ho λh'' he' hs'=>?_⟩
  have hs2:Heap.SameBut e h' h'':=hs'
  have hlt:∀b∈[e,it],b<s.heap.objs.size:=λb hb=>by
   rcases List.mem_cons.mp hb with rfl|hb
   ·exact elt
   ·have e':b=it:=by simpa using hb
    subst e';exact ilt
  have I2:=vB (fp:=[e,it]) (h':=h'') (t':=s.toks+1) (x1:=.int i) I ⟨s.toks,rfl⟩ ru ⟨_,(hs2.2 _ (Nat.ne_of_gt elt)).trans hT,rfl⟩ (λb o hb q=>by
   have hbe:b≠e:=λz=>hb (by simp[z])
   have hbi:b≠it:=λz=>hb (by simp[z])
   exact(hs2.2 b hbe).trans (hk b o hbe hbi q)) hf hlt
  refine⟨.ref s.heap.objs.size,_,I2,rfl,⟨x,s.heap.objs.size,λys hy=>by rw[I.qX hy hq];exact hx,I.fresh,rfl,rfl⟩,⟨⟨u,?_⟩,hit'.at λo q=>(hs2.2 it hne.symm).trans q⟩,λb hb=>?_⟩
  ·have he2:IsEnum h'' e it ((i:Int)+1) u:=he'
   show IsEnum h'' e it (((i+1:Nat):Int)) u
   rw[Int.natCast_add]
   exact he2
  ·rw[č (Nat.ne_of_lt (hlt b hb))];exact(hf b hb).1
 done:=by
  intro X hP hw hK hc i pins s σ H E I hf st hg
  subst hP hw hK
  obtain⟨⟨old,he⟩,hit⟩:=st
  obtain⟨xs,hq,hx⟩:=hg
  obtain⟨its,rv,p,hz⟩:=I.list hq
  have hl:=rv.length
  refine wpAny_pyNext_enum_end (I.ok.hd hc) he hit p.isList (by simp;omega) λh' eb=>⟨rfl,turns (fp:=[e,it]) (t':=s.toks) I (λb o hb q=>eb b o (λz=>hb (by simp[z])) q) hf⟩
 self:=λ_ _ _ _ _ st h=>let ⟨_,he⟩:=st.1;wpAny_pyIter_enum he h
section
variable{X:Cx}{elts:List Expr}{k:Nat}{tp:Pos}
def WD(K:PySem.W.Frag)(ta:TA):TI:=λσ H R=>ta σ H λvs H1=>∃a,vs=[.ref a]/\(∃xs,Ţ K H1 a xs)/\R (Ite K a) H1
def Ii{l:Expr}{ta:TA}{p pos:Pos}(hg:Gl X "enumerate")(hm:X.mg "enumerate" =none)(ha:PA X [l] ta)(hs:starEach [l] X.env=[(false,eval l X.env)]:=by exact ŵ rfl):PI X (.Tuple elts k tp) (.Call (.Name "enumerate" p) [l] [] pos) (WD X.K ta):=by
 intro pins s σ H R I h
 refine Call_ (gG I hg hm boot_enumerate (PyProof.Rows.callWith_type1 (Ń (ha pos pins s σ H _ I h) λus s1 ⟨vs,H1,I1,r1,q1⟩=>?_) hs rfl))
 obtain⟨a,e,⟨xs,hq⟩,q⟩:=q1
 subst e
 obtain⟨u,rfl,ru⟩:=r1.one
 cases ru
 obtain⟨its,rv,pl,hz⟩:=I1.list hq
 refine call_enumerate_list pl.isList λh' he hit hsz hk=>?_
 have I2:Inv X pins σ H1 {s1 with heap:=h'}:=I1.kept (t':=s1.toks) hk
 refine wpAny_pyIter_enum (s:={s1 with heap:=h'}) he ⟨s1.heap.objs.size+1,[s1.heap.objs.size+1,s1.heap.objs.size],_,_,H1,rfl,I2,zH a _ _ (Nat.succ_ne_self _),⟨⟨_,he⟩,hit⟩,λb hb=>?_,q⟩
 have hb':s1.heap.objs.size<=b:=by
  rcases List.mem_cons.mp hb with rfl|hb
  ·exact Nat.le_succ _
  ·have e':b=s1.heap.objs.size:=by simpa using hb
   exact Nat.le_of_eq e'.symm
 exact I1.Az hb' (I1.hok.fresh hb')
end
def rLs(K:KK):RR (List PV) V:=λc _ _ F H items v=>∃a,v=.ref a/\(∃xs,Ţ K.K H a xs)/\rN K c.L F (Va K.K a) items
def CJ{K:KK}{L F:Hp}{ps:List PV}{v:V}(h:Rep K F (.lst ps) v):∃a,v=.ref a/\(∃xs,Ţ K.K F a xs)/\rN K L F (Va K.K a) ps:=by
 unfold Rep at h
 obtain⟨a,vs,rfl,e1,e2⟩:=h
 refine⟨a,rfl,⟨vs,e1⟩,?_⟩
 intro c' i F2 H2 σ2 ρ2 Ĩ sF _
 have hq:Ţ K.K H2 a vs:=(sF.trans Ĩ.sub).seq e1
 refine⟨λp hp=>?_,λhi=>⟨vs,hq,by rw[hi,e2.length];exact Nat.le_refl _⟩⟩
 obtain⟨u,hu,ru⟩:=bB e2.pr hp
 refine⟨⟨vs,u,hq,hu⟩,λx H' ⟨hH,hx⟩=>?_⟩
 subst hH
 have:vs[i]?=some x:=hx vs hq
 rw[hu] at this
 cases this
 exact⟨F2,Ĩ,Same.refl _,Same.refl _,Rep.same sF p u ru⟩
def mLs(m:M PV):M (List PV):=λρ=>(m ρ).bind λp ρ1=>match p with
 | .lst ps=>.ok ps ρ1
 |_=>.bad
section
variable{X:Cx}{cm:String->Addr}{E:L2.St->XK}{e:Expr}{m:M PV}
def Zb3(h:PE X e (tV (kk X cm) E m)):PE X e (tG (kk X cm) E (rLs (kk X cm)) (mLs m)):=PE.wk h λσ H Q ⟨c,F,ρ,rel,h⟩=>⟨c,F,ρ,rel,h.bind λp ρ1 v F1 H1 Ċ s1 s2 q h1=>by
 cases p with
 |lst ps=>
  obtain⟨a,e1,⟨xs,e2⟩,e3⟩:=CJ (L:=c.L) (show Rep (kk X cm) F1 (.lst ps) v from q)
  exact h1 v F1 H1 Ċ (Same.refl _) (Same.refl _) ⟨a,e1,⟨xs,Ċ.sub.seq e2⟩,e3⟩
 |_=>exact h1.elim⟩
def cG:Nat->List PV->List PV
 |_,[]=>[]
 |k,p::ps=>.tup [.int k,p]::cG (k+1) ps
theorem oH:∀(k:Nat) (ps:List PV),(cG k ps).length=ps.length
 |_,[]=>rfl
 |k,_::ps=>congrArg (·+ 1) (oH (k+1) ps)
theorem oJ:∀(k:Nat) (ps:List PV) (i:Nat),(cG k ps)[i]?=ps[i]?.map λp=>.tup [.int ((k+i:Nat):Int),p]
 |_,[],_=>rfl
 |k,p::ps,0=>rfl
 |k,p::ps,i+1=>by
  show(cG (k+1) ps)[i]?=_
  rw[oJ (k+1) ps i,List.getElem?_cons_succ,show k+1+i=k+(i+1) by omega]
def CK(m:M (List PV)):M (List PV):=λρ=>(m ρ).bind λps ρ1=>.ok (cG 0 ps) ρ1
def Ij{K:KK}{c:Ctx}{F H:Hp}{σ:L2.St}{ρ:ĸ}{T:Addr}{p q:PV}{x y:V}(rel:Rel K c F H σ ρ)(hT:H T=none)(r1:Rep K F p x)(r2:Rep K F q y):Rel K c (upd F T (.tup [x,y])) (upd H T (.tup [x,y])) σ ρ/\Rep K (upd F T (.tup [x,y])) (.tup [p,q]) (.ref T):=by
 have hF:=rel.sub.free hT
 refine⟨rel.alloc hT,?_⟩
 unfold Rep
 exact⟨T,[x,y],rfl,ē,ĉ.cons (Rep.same (Same.upd hF) p x r1) (ĉ.cons (Rep.same (Same.upd hF) q y r2) ĉ.nil)⟩
def zJ{K:KK}{L F:Hp}{a:Addr}{ps:List PV}(h:rN K L F (Va K.K a) ps):rN K L F (Ite K.K a) (cG 0 ps):=by
 intro c i F2 H σ ρ rel sF sL
 obtain⟨g,st⟩:=h c i F2 H σ ρ rel sF sL
 refine⟨λp hp=>?_,λhi=>st (by rw[hi,oH])⟩
 rw[oJ] at hp
 cases eq:ps[i]? with
 |none=>rw[eq] at hp;cases hp
 |some q=>
  rw[eq] at hp
  have hp':PV.tup [.int ((0+i:Nat):Int),q]=p:=Option.some.inj hp
  subst hp'
  obtain⟨⟨xs,x,hq,hx⟩,g2⟩:=g q eq
  refine⟨⟨xs,x,hq,hx⟩,λy H' ⟨x',T,h1,hT,ey,eH⟩=>?_⟩
  subst ey eH
  obtain⟨F3,aP,s3,_,rp⟩:=g2 x' H ⟨rfl,h1⟩
  obtain⟨r1,r2⟩:=Ij (p:=.int i) (x:=.int i) aP hT (by unfold Rep;rfl) rp
  refine⟨_,r1,s3.trans (Same.upd (aP.sub.free hT)),Same.upd hT,?_⟩
  rw[Nat.zero_add]
  exact r2
def Q_{elts:List Expr}{k:Nat}{tp p pos:Pos}{mi:M (List PV)}(hg:Gl X "enumerate")(hm:X.mg "enumerate" =none)(hl:PE X e (tG (kk X cm) E (rLs (kk X cm)) mi))(hs:starEach [e] X.env=[(false,eval e X.env)]:=by exact ŵ rfl) :
 PI X (.Tuple elts k tp) (.Call (.Name "enumerate" p) [e] [] pos) (tI (kk X cm) E (CK mi)):=λpins s σ H R I h=>Ii hg hm (cY hl jR hs) hs pins s σ H R I (by
 obtain⟨c,F,ρ,rel,h⟩:=h
 refine⟨c,F,ρ,rel,h.bind λps ρ1 v F1 H1 Ċ s1 s2 q h1=>?_⟩
 obtain⟨a,e1,e2,e3⟩:=q
 subst e1
 exact⟨a,rfl,e2,h1 _ F1 H1 Ċ (Same.refl _) (Same.refl _) (zJ e3)⟩)
@[simp] theorem Zas{mi:M (List PV)}{ρ:ĸ}:CK mi ρ=(mi ρ).bind λps ρ1=>.ok (cG 0 ps) ρ1:=rfl
@[simp] theorem Zcx{ρ:ĸ}:mLs m ρ=(m ρ).bind fun p ρ1=>match p with
  | .lst ps=>.ok ps ρ1
  |_=>.bad:=rfl
end
end P
namespace P
open PySem PySem.Spec PyProof.Rows L2 M2 M3 M4
section
variable{X:Cx}{cm:String->Addr}{E:L2.St->XK}{e a b:Expr}{m ma mb:M PV}{pos:Pos}
end
section
variable{X:Cx}{K:KK}
end
end P
namespace P
open PySem PySem.Spec PyProof.Rows L2 M2 M3 M4
section
variable{prog:Program}{w:World}{A:Around}{E:Value->Shared->Prop}{s:Shared}
end
section
variable{prog:Program}{w:World}{A:Around}{E:Value->Shared->Prop}{s:Shared}
end
section
variable{prog:Program}{w:World}{A:Around}{E:Value->Shared->Prop}{s:Shared}
end
def Kc(b:Bool)(h:Heap)(it l:Addr)(i:Nat):Prop:=if b=true then h.IsTupleIter it l i else h.IsListIter it l i
def nmB(b:Bool):String:=if b=true then "tuple_iterator" else "list_iterator"
def Kc.ex{b:Bool}{h:Heap}{it l:Addr}{i:Nat}(x:Kc b h it l i):∃o,h.get? it=some o/\o.cls=.type (nmB b)/\o.data=.fields #[.ref l,.int i 0]:=by
 cases b with
 |true=>exact x
 |false=>exact x
section
variable{X:Cx}{pins:List (Addr×Obj)}{σ:L2.St}{H:Hp}{s:Shared}
end
section
variable{prog:Program}{w:World}{A:Around}{E:Value->Shared->Prop}{s:Shared}
end
section
variable{X:Cx}{elts:List Expr}{k:Nat}{tp:Pos}
end
section
variable{X:Cx}{cm:String->Addr}{E:L2.St->XK}{e e2:Expr}
end
end P
namespace P
open PySem PySem.Spec PyProof.Rows L2 M2 M3 M4
section
variable{X:Cx}
end
end P
namespace P
open PySem PySem.Spec PyProof.Rows L2 M2 M3 M4
def Ik{x:Int}{n:Nat}(h1: -(2 ^ n:Int)<x)(h2:x<2 ^ n):bits x<=n:=by
 refine intBits_le_iff.mpr ?_
 have e:((2 ^ n:Nat):Int)=(2:Int) ^ n:=by simp
 have:((x.natAbs:Nat):Int)<((2 ^ n:Nat):Int):=by rw[e];omega
 omega
def Kd{x y:Int}(h:y≠0)(h1: -18446744073709551616<y)(h2:y<18446744073709551616):iU x y=true:=Wy h (Nat.le_trans (Ik (n:=64) (by omega) (by omega)) (by decide))
@[simp] theorem Zat{x:Int}{n:Nat}(h:n≠0)(h2:n<18446744073709551616):iU x (no_index (OfNat.ofNat n):Int)=true:=by
  have e:(no_index (OfNat.ofNat n):Int)=(n:Int):=rfl
  rw[e]
  exact Kd (by omega) (by omega) (by omega)
@[simp] theorem WK{x:Int}{n:Nat}(h:n<18446744073709551616):Ő x (no_index (OfNat.ofNat n):Int)=true:=by
  have e:(no_index (OfNat.ofNat n):Int)=(n:Int):=rfl
  rw[e]
  exact mul_r (by omega) (by omega)
@[simp] theorem WL{x:Int}{n:Nat}(h:n<18446744073709551616):Ő (no_index (OfNat.ofNat n):Int) x=true:=by
  have e:(no_index (OfNat.ofNat n):Int)=(n:Int):=rfl
  rw[e]
  exact fZ (by omega) (by omega)
@[simp] theorem Zau{m n:Nat}(h:m<18446744073709551616)(h2:n≤1000000):rW (no_index (OfNat.ofNat m):Int) (no_index (OfNat.ofNat n):Int)=true:=by
  have e:(no_index (OfNat.ofNat m):Int)=(m:Int):=rfl
  have e2:(no_index (OfNat.ofNat n):Int)=(n:Int):=rfl
  rw[e,e2]
  unfold rW
  simp
  omega
@[simp] theorem WM{x:Int}{n:Nat}:x.fdiv (no_index (OfNat.ofNat n):Int)=x / (no_index (OfNat.ofNat n):Int):=Int.fdiv_eq_ediv_of_nonneg x (Int.natCast_nonneg n)
@[simp] theorem WQ{x:Int}{n:Nat}:x.fmod (no_index (OfNat.ofNat n):Int)=x % (no_index (OfNat.ofNat n):Int):=Int.fmod_eq_emod_of_nonneg x (Int.natCast_nonneg n)
end P
namespace P
open PySem PySem.Spec PyProof.Rows L2 M2 M3 M4
def Ņ{a b:Str}(ha:PyData.strOk a=true)(hb:PyData.strOk b=true):į (.str a) (.str b)=some (.bl (decide (a=b))):=by
 have h:eqB (.str a) (.str b)=decide (a=b):=by unfold eqB;rfl
 unfold į nA
 rw[show Š (.str a)=true by unfold Š;exact ha,show Š (.str b)=true by unfold Š;exact hb,h]
 rfl
end P
namespace P
open PySem PySem.Spec PyProof.Rows L2 M2 M3 M4
section
variable{g:Tg}{mb:M Fl}{mt:M Bool}{me:M PV}
theorem Ų{α:Type}(c f:α->PV)(q:α->Bool)(I:ĸ->Prop):∀(xs:List α) (ρ:ĸ) (acc:List PV),I ρ->acc.length+xs.length<=16777216->
 (∀x∈xs,∀ρ,I ρ->∃ρ1 ρ2,g (c x) ρ=some ρ1/\mt ρ1=.ok (q x) ρ2/\(q x=false->I ρ2)/\(q x=true->∃ρ3,me ρ2=.ok (f x) ρ3/\I ρ3))->ŕ g mt me (xs.map c) ρ acc=some (acc++(xs.filter q).map f)
 | [],ρ,acc,_,_,_=>by simp[ŕ]
 |x::xs,ρ,acc,h,hz,hs=>by
  obtain⟨ρ1,ρ2,h1,h2,h3,h4⟩:=hs x List.mem_cons_self ρ h
  cases e:q x with
  |true=>
   obtain⟨ρ3,h5,h6⟩:=h4 e
   rw[e] at h2
   rw[List.map_cons,ŕ,h1]
   dsimp only
   rw[h2]
   dsimp only
   rw[h5]
   dsimp only
   rw[if_pos (by simp at hz;omega),Ų c f q I xs ρ3 (acc ++ [f x]) h6 (by simp at hz ⊢;omega) λy hy=>hs y (List.mem_cons_of_mem _ hy)]
   simp[e]
  |false=>
   rw[e] at h2
   rw[List.map_cons,ŕ,h1]
   dsimp only
   rw[h2]
   dsimp only
   rw[Ų c f q I xs ρ2 acc (h3 e) (by simp at hz ⊢;omega) λy hy=>hs y (List.mem_cons_of_mem _ hy)]
   simp[e]
end
end P
namespace P
open PySem PySem.Spec PyProof.Rows L2 M2 M3 M4
def Zb4(K:PySem.W.Frag)(n:Nat)(t:Aw):TG:=λv σ H Q=>∃a xs,v=.ref a/\Ţ K H a xs/\xs.length=n/\t xs σ H Q
section
variable{X:Cx}{cm:String->Addr}{pos:Pos}
def Ra{es:List Expr}{k:Nat}{t:Aw}{n:Nat}(hc:X.calm=true)(h:uG X es t)
 (hn:(assignEach es X.env).length=n:=by rfl)(hst:(assignEach es X.env).findIdx? (·.1)=none:=by rfl):PG X (.Tuple es k pos) (Zb4 X.K n t):=by
 intro pins s σ H v u Q I r hw
 obtain⟨a,xs,e1,hq,hl,hw⟩:=hw
 subst e1
 cases r
 obtain⟨its,rv,ht,hz⟩:=I.list hq
 rw[assign_Tuple]
 refine wpAny_bind (wpAny_standAt ?_)
 unfold unpack
 rw[show(assignEach es X.env).length=its.toArray.size by simp[hn,<-hl,rv.length],hst]
 refine wpAny_bind (wpAny_holding (PySem.W.kun_itemsOf (I.ok.hd hc) ht.isList λh' hx=>?_))
 have I1:Inv X pins σ H {s with heap:=h'}:=I.kept (t':=s.toks) λb o e=>hx b o (Nat.ne_of_lt (Heap.lt_size e)) e
 exact h pins _ σ H xs _ Q I1 (by simpa using rv) hw
def gS(n:Nat)(gs:Ah):Tg:=λp ρ=>match p with
 | .tup ps=>if ps.length=n then gs ps ρ else none
 | .lst ps=>if ps.length=n then gs ps ρ else none
 |_=>none
@[simp] theorem Zb5{n:Nat}{gs:Ah}{ps:List PV}{ρ:ĸ}:gS n gs (.tup ps) ρ=if ps.length=n then gs ps ρ else none:=rfl
@[simp] theorem Zb6{n:Nat}{gs:Ah}{ps:List PV}{ρ:ĸ}:gS n gs (.lst ps) ρ=if ps.length=n then gs ps ρ else none:=rfl
def Ke{es:List Expr}{k:Nat}{gs:Ah}{n:Nat}(hc:X.calm=true)(h:uG X es (Wf (kk X cm) gs))(hn:(assignEach es X.env).length=n:=by rfl)(hst:(assignEach es X.env).findIdx? (·.1)=none:=by rfl):PG X (.Tuple es k pos) (tT (kk X cm) (gS n gs)):=by
 intro pins s σ H v u Q I r hw
 obtain⟨c,F,ρ,p,rel,rp,hw⟩:=hw
 cases p with
 |tup ps=>
  unfold Rep at rp
  obtain⟨a,xs,h1,h2,h3⟩:=rp
  unfold gS at hw
  dsimp only at hw
  split at hw
  ·rename_i hl
   exact Ay hc h hn hst pins s σ H v u Q I r ⟨a,xs,h1,bU.of (rel.sub _ _ h2),by rw[<-h3.length];exact hl,c,F,ρ,ps,rel,h3,hw⟩
  ·exact hw.elim
 |lst ps=>
  unfold Rep at rp
  obtain⟨a,xs,h1,h2,h3⟩:=rp
  unfold gS at hw
  dsimp only at hw
  split at hw
  ·rename_i hl
   exact Ra hc h hn hst pins s σ H v u Q I r ⟨a,xs,h1,rel.sub.seq h2,by rw[<-h3.length];exact hl,c,F,ρ,ps,rel,h3,hw⟩
  ·exact hw.elim
 |_=>exact hw.elim
end
end P
namespace P
open PySem PySem.Spec PyProof.Rows L2 M2 M3 M4
section
variable{X:Cx}{cm:String->Addr}{E:L2.St->XK}{a:Expr}{p p1 pos pos1:Pos}{mr:M (List PV)}
end
end P
namespace P
open PySem PySem.Spec PyProof.Rows L2 M2 M3 M4
section
variable{X:Cx}{cm:String->Addr}{E:L2.St->XK}{e o:Expr}{es:List Expr}{pos:Pos}{m:M Bool}{mo:M RV}{ma:M PV}
@[simp] theorem Zb7{ps qs rs:List PV}:(RV.ot ps qs rs).val=.tup (ps ++ .lst qs::rs):=rfl
@[simp] theorem Zb8{ps qs rs:List PV}:(RV.ot ps qs rs).slot=.ot ps qs rs:=rfl
end
end P
namespace P
open PySem PySem.Spec PyProof.Rows L2 M2 M3 M4
section
variable{X:Cx}{K:KK}
end
end P
namespace P
open PySem PySem.Spec PyProof.Rows L2 M2 M3 M4
section
variable{K:KK}{c c':Ctx}{F F' H H':Hp}{σ:L2.St}{ρ:ĸ}
end
section
variable{X:Cx}{cm:String->Addr}{E:L2.St->XK}{elt tg iter:Expr}{ifs:List Expr}{scope:Scope}{pos:Pos}{mi:M (List PV)}{g:Tg}{mt:M Bool}{me:M RV}
end
section
variable{K:KK}{c:Ctx}{F H:Hp}{σ:L2.St}{ρ:ĸ}
end
section
variable{X:Cx}{cm:String->Addr}{E:L2.St->XK}{e:Expr}{es:List Expr}{m:M Bool}{mv:M PV}{ms:M (List Slot)}
end
end P
namespace P
open PySem PySem.Spec PyProof.Rows L2 M2 M3 M4
section
variable{X:Cx}{K:KK}
end
section
variable{ρ:ĸ}{i x j:Nat}{m:M Bool}{mv:M PV}{ms:M (List Slot)}{mp:M (List (List PV))}{g:Tg}{mt:M Bool}{me:M RV}{mi:M (List PV)}{js:List Nat}{nl:Nat}
end
end P
namespace P
open PySem PySem.Spec PyProof.Rows L2 M2 M3 M5
section
variable{K:KK}{c:Ctx}{F H:Hp}{σ:L2.St}{ρ:ĸ}
end
section
variable{X:Cx}{cm:String->Addr}{E:L2.St->XK}{x px:Str}{c Pt:Addr}{params:Arguments}{body e:Expr}{scope:Scope}{p pos Qu kpos:Pos}{mr:M (List PV)}{me:M PV}
end
section
variable{P:Program}{w:World}{K:PySem.W.Frag}{cm:String->Addr}{mg:Str->Option Value}{base:Heap}{CX:gK}
end
section
variable{js:List Nat}{me:M PV}{mr:M (List PV)}{ρ:ĸ}
end
end P
namespace P
open PySem PySem.Spec PyProof.Rows L2 M2 M3 M5
def WR(K:PySem.W.Frag):R2:=λx y H Q=>∃a b xs,x=.ref a/\y=.ref b/\Ţ K H a xs/\Ţ K H b []/\Q (.bl (!xs.isEmpty)) H
def CN{X:Cx}(hu:X.A.units+64<cLine):ş X (compareOp .NotEq) (WR X.K):=by
 intro pins s σ H x y v u Q I rx ry h
 obtain⟨a,b,xs,rfl,rfl,h1,h2,q⟩:=h
 cases rx
 cases ry
 obtain⟨its,rv,⟨o,n,e,hc,hdd,hd⟩,hz⟩:=I.list h1
 obtain⟨its',rv',⟨o',n',e',hc',ZcB,hd'⟩,hz'⟩:=I.list h2
 have l:=rv.length
 have l':=rv'.length
 cases xs with
 |nil=>
  cases rv
  cases rv'
  exact PySem.SeqAt.RcNeAt.lists (e:=λ_=>true) ⟨o,e,hc,n,hd⟩ ⟨o',e',hc',n',hd'⟩ rfl (by omega) (λj j1 _=>absurd j1 (Nat.not_lt_zero _)) _ _ _ _ ⟨.bl _,H,I,rfl,q⟩
 |cons x xs=>
  exact PySem.SeqAt.RcNeAt.lists_lengths ⟨o,e,hc,n,hd⟩ ⟨o',e',hc',n',hd'⟩ (by simp at l l' ⊢;omega) (by omega) _ _ _ _ ⟨.bl _,H,I,rfl,q⟩
def sE(p q:PV):Option PV:=match p,q with
 | .lst xs,.lst []=>some (.bl (!xs.isEmpty))
 |_,_=>none
theorem sG{K:KK}{F:Hp}:∀{ps:List PV} {vs:List V},ĉ K F ps vs->vs.isEmpty=ps.isEmpty
 | [],vs,h=>by unfold ĉ at h;rw[h];rfl
 |p::ps,vs,h=>by
  unfold ĉ at h
  obtain⟨x,t,rfl,_,_⟩:=h
  rfl
def sI{K:KK}{c:Ctx}{F H:Hp}{σ:L2.St}{ρ:ĸ}{ps:List PV}{v:V}(s:Same F H)(r:rR K c σ ρ F H (.lst ps) v):∃a vs,v=.ref a/\Ţ K.K H a vs/\vs.isEmpty=ps.isEmpty:=by
 rcases r with r|r
 ·unfold Rep at r
  obtain⟨a,vs,h1,h2,h3⟩:=r
  exact⟨a,vs,h1,s.seq h2,sG h3⟩
 ·obtain⟨a,vs,h1,h3,h4⟩:=r
  exact⟨a,vs,h1,Ţ.of h3,sG h4⟩
def CP{K:KK}:gO K (WR K.K) sE:=by
 intro c F H σ ρ p q pv v u Q rel r1 r2 e k
 unfold sE at e
 split at e
 ·cases e
  obtain⟨a,xs,h1,h2,h3⟩:=sI rel.sub r1
  obtain⟨b,ys,k1,k2,k3⟩:=sI rel.sub r2
  have:ys=[]:=by simpa using k3
  subst this
  refine⟨a,b,xs,h1,k1,h2,k2,?_⟩
  rw[h3]
  exact k _ F H rel (Same.refl _) (Same.refl _) Rep.bl
 ·cases e
@[simp] theorem Zb9{xs:List PV}:sE (.lst xs) (.lst [])=some (.bl (!xs.isEmpty)):=rfl
def Rb{X:Cx}(hu:X.A.units+64<cLine):ş X (compareOp .Lt) (PN X.K):=P_ (by omega)
def xu(p q:PV):Option PV:=match p,q with
 | .tup [.int a,.int b],.tup [.int c,.int d]=>some (.bl (HT.lexLt [a,b] [c,d]))
 |_,_=>none
def oK{K:KK}{cc:Ctx}{F H:Hp}{σ:L2.St}{ρ:ĸ}{a b:Int}{v:V}(s:Same F H)(r:rR K cc σ ρ F H (.tup [.int a,.int b]) v):∃p,v=.ref p/\bU K.K H p ([a,b].map V.int):=by
 rcases r with r|r
 ·unfold Rep at r
  obtain⟨p,vs,h1,h2,h3⟩:=r
  unfold ĉ at h3
  obtain⟨x,t,rfl,k1,k2⟩:=h3
  unfold ĉ at k2
  obtain⟨y,t',rfl,k3,k4⟩:=k2
  unfold ĉ at k4
  unfold Rep at k1 k3
  subst k4 k1 k3
  exact⟨p,h1,bU.of (s _ _ h2)⟩
 ·exact r.elim
def Rf{K:KK}:gO K (PN K.K) xu:=by
 intro cc F H σ ρ p q pv v u Q rel r1 r2 e k
 unfold xu at e
 split at e
 ·rename_i a b c d
  cases e
  obtain⟨x,h1,h2⟩:=oK rel.sub r1
  obtain⟨y,k1,k2⟩:=oK rel.sub r2
  exact⟨x,y,_,_,h1,k1,h2,k2,k _ F H rel (Same.refl _) (Same.refl _) Rep.bl⟩
 ·cases e
end P
namespace P
open PySem PySem.Spec PyProof.Rows L2 M2 M3 M5
section
variable{X:Cx}{cm:String->Addr}{E:L2.St->XK}{CX:gK}{k n:Nat}{f:Addr}{fd:FuncData}{ps:List Str}{mf:MF}{mr:M (List Slot)}{x:Str}{p pos:Pos}{e:Expr}{es:List Expr}{ds:List Value}{dvs:List V}{dps:List Slot}
end
end P
namespace P
open PySem PySem.Spec PyProof.Rows L2 M2 M3 M5
def BN:Nat->(List Value->Prop)->Prop
 |0,p=>p []
 |n+1,p=>∀u,BN n λus=>p (u::us)
theorem qb:∀{n:Nat} {p:List Value->Prop},BN n p->∀us,us.length=n->p us
 |0,p,h,[],_=>h
 |0,p,h,_::_,e=>by cases e
 |n+1,p,h,[],e=>by cases e
 |n+1,p,h,u::us,e=>qb (h u) us (Nat.succ.inj e)
structure Df(K:PySem.W.Frag)(mg:Str->Option Value)(x:Str)(st:Stmt)(ps:List Str)(f:Addr)(fd:FuncData):Prop where
 F:Hl K x x st f fd
 m:mg x=some (.ref f)
 b:Binds K fd ps []
 bb:∀(s:Shared) (us:List Value),us.length=ps.length->BindsTo s fd ⟨us,[]⟩ (ps.zip us)
structure Dm(K:PySem.W.Frag)(C:Addr)(x q:Str)(st:Stmt)(ps:List Str)(f:Addr)(fd:FuncData):Prop where
 F:Hl K x q st f fd
 b:Binds K fd ps []
section
variable{K:PySem.W.Frag}{h:Heap}{mg:Str->Option Value}{x q:Str}{st:Stmt}{ps:List Str}{f C:Addr}{oc kV dc pm cd ct:Value}{od an:Option Addr}{sl:Array (Option Value)}
def ĳ(X:K.In h)(G:h.Ns mainGlobals mg)(hb:∀(kV dc pm:Value) (an:Option Addr) (cd ct:Value),BN ps.length λus=>bindArgs (PySem.W.fnOf x x (Ŧ st) (ŋ st) (ć st) .none kV dc pm an cd ct) ⟨us,[]⟩=pure (ps.zip us))
 (a:PySem.W.nsIn K mainGlobals x=some (some (.ref f)))(l:K.lookup f=some ⟨oc,od,.func (PySem.W.fnOf x x (Ŧ st) (ŋ st) (ć st) .none kV dc pm an cd ct),sl⟩)(c:PySem.W.codeIn K cd x=true)(k:PySem.W.keepIn K (.ref f)=true) :
 Df K mg x st ps f (PySem.W.fnOf x x (Ŧ st) (ŋ st) (ć st) .none kV dc pm an cd ct):=
 have F:=Bk (st:=st) l c k
 ⟨F,PySem.W.mg_of X G a,F.binds λkV dc pm an cd ct us hl=>qb (hb kV dc pm an cd ct) us hl,λs us hl=>.of_eq (qb (hb kV dc pm an cd ct) us hl)⟩
def Kf(hb:∀(kV dc pm:Value) (an:Option Addr) (cd ct:Value),BN ps.length λus=>bindArgs (PySem.W.fnOf x q (Ŧ st) (ŋ st) (ć st) .none kV dc pm an cd ct) ⟨us,[]⟩=pure (ps.zip us))
 (a:PySem.W.findIn K (.ref C) x=some (some (.ref f)))(l:K.lookup f=some ⟨oc,od,.func (PySem.W.fnOf x q (Ŧ st) (ŋ st) (ć st) .none kV dc pm an cd ct),sl⟩)(c:PySem.W.codeIn K cd q=true)(k:PySem.W.keepIn K (.ref f)=true) :
 Dm K C x q st ps f (PySem.W.fnOf x q (Ŧ st) (ŋ st) (ć st) .none kV dc pm an cd ct):=
 have F:=Bk (st:=st) l c k
 ⟨F,F.binds λkV dc pm an cd ct us hl=>qb (hb kV dc pm an cd ct) us hl⟩
end
end P
namespace P
open PySem PySem.Spec PyProof.Rows L2 M2 M3 M5
def cH{N ps:List Str}{sc:Scope}(h1:sc.kind=.function:=by rfl)(h2:sc.isCoroutine=false:=by rfl)(h3:sc.isGenerator=false:=by rfl)(h4:N.Nodup:=by decide +kernel)(h5:N.take ps.length=ps:=by rfl)(h6:∀x∈ps,sc.names.lookup x=some .local\/sc.names.lookup x=some .cell:=by decide +kernel)
 (h7:∀y∈sc.names,y.2≠ .free:=by decide +kernel):ď N ps sc:=⟨h1,h2,h3,h4,h5,h6,h7⟩
section
variable{X:Cx}{cm:String->Addr}{E:L2.St->XK}{CX:gK}{k j n:Nat}{f:Addr}{fd:FuncData}{ps:List Str}{mf:MF}{mr:M (List Slot)}{x:Str}{st:Stmt}{p pos:Pos}{e:Expr}{es:List Expr}
def Č(F:Ĭ X.prog X.w X.K X.mg X.base CX k f fd ps (aH (kk X cm) n mf))(D:Df X.K X.mg x st ps f fd)(hr:Ś j X.A)(hx:dg CX X E)
 (ha:PA X (e::es) (tA (kk X cm) E mr))(hlen:∀{ps:List Slot},(∃r,mf ps=r/\∀z,r=z->z≠ .bad)->ps.length=n:=by exact Ci)(hg:Gl X x:=by rfl)(hkj:k<=j:=by decide)(hdb:(x== ("__debug__" :Str))=false:=by decide)(he:starEach (e::es) X.env=(false,eval e X.env)::starEach es X.env:=by exact ŵ rfl)(hpl:(backTo pos (starEach es X.env)).any (·.1)=false:=by rfl) :
 PE X (.Call (.Name x p) (e::es) [] pos) (tO (kk X cm) E (ě mf mr)):=QC F hlen (hr.mono hkj) hg D.m D.F.kp D.b hx ha hdb he hpl
end
section
variable{Pg:Program}{w:World}{K:PySem.W.Frag}{mg:Str->Option Value}{base:Heap}{CX:gK}{cm:String->Addr}
def Œ{x qual:Str}{st:Stmt}{f:Addr}{fd:FuncData}{N ps:List Str}{k n j:Nat}{mb:M Fl}{mf:MF}(F:Hl K x qual st f fd)(S:ď N ps (ć st))
 (hbody:∀(cdv:Value) (A:Around) (outer:List Env) (s:Shared) (H:Hp) (E:XK),Ś k (A.deeper (envOfC qual (ć st) s.heap.objs.size f cdv))→(A.deeper (envOfC qual (ć st) s.heap.objs.size f cdv)).units+64<cLine→
   fB (pF CX Pg w K mg base N qual (ć st) f cdv A outer s H E) (ŋ st) (tS ⟨K,cm⟩ (λ_=>E) mb))(hn:ps.length=n:=by rfl)(hj:N.length=j:=by rfl)(hf:mf=Ł n j mb:=by rfl):Ĭ Pg w K mg base CX (k+1) f fd ps (aH ⟨K,cm⟩ n mf):=
 fnQ F S hn hj hf λcdv A outer s H E hr=>hbody cdv A outer s H E hr hr.units
end
end P
namespace P
open PySem PySem.Spec PyProof.Rows L2 M2 M3 M4
section
variable{X:Cx}{cm:String->Addr}{E:L2.St->XK}{e:Expr}{m:M PV}
end
end P
namespace P
open PySem PySem.Spec PyProof.Rows L2 M2 M3 M4
def tgN:Expr->List Str
 | .Name x _=>[x]
 | .Tuple es _ _=>es.flatMap fun e=>match e with
   | .Name x _=>[x]
   |_=>[]
 |_=>[]
def cN(X:Cx)(js:List Nat)(tg:Expr):List Str:=js.map (λ(j:Nat)=>(X.N[j]?).getD "")++tgN tg
def ndB{l:List Str}(h:decide l.Nodup=true):l.Nodup:=of_decide_eq_true h
def frB{a b:Scope}(h:(a.names.all λy=>decide (y.2=.free->(b.names.lookup y.1=some .cell\/b.names.lookup y.1=some .free)))=true):∀y∈a.names,y.2=.free->(b.names.lookup y.1=some .cell\/b.names.lookup y.1=some .free):=λy hy=>of_decide_eq_true (List.all_eq_true.mp h y hy)
section
variable{X:Cx}{cm:String->Addr}{E:L2.St->XK}{elt tg iter:Expr}{ifs:List Expr}{scope:Scope}{pos:Pos}{mi:M (List PV)}{g:Tg}{mt:M Bool}{me:M PV}{js:List Nat}{nl:Nat}
end
end P
namespace P
open PySem PySem.Spec PyProof.Rows L2 M2 M3 M4
section
variable{X:Cx}
end
section
variable{X:Cx}{cm:String->Addr}{K:KK}{E:L2.St->XK}{o e:Expr}{es:List Expr}{name:Str}{apos cpos:Pos}{id:String}{r:V->List V->Hp->VK->Prop}{f:PV->List PV->Option PV}{mo:M PV}{ms:M (List PV)}
end
end P
namespace P
open PySem PySem.Spec PyProof.Rows L2 M2 M3 M4
section
variable{X:Cx}{cm:String->Addr}{E:L2.St->XK}{a b e:Expr}{es:List Expr}{ma mb m:M PV}{mo:M RV}{pos p:Pos}
def Ā{i j pos}:PE X (.Constant (.int i) j pos) (tR (kk X cm) E (mC (.int i))):=ġ ŏ
def xG{j pos}:PE X (.Constant .none j pos) (tR (kk X cm) E (mC .non)):=ġ rJ
def aW{x j pos}:PE X (.Constant (.str x) j pos) (tR (kk X cm) E (mC (.str x))):=ġ fO
def Ž(ha:PE X a (tR (kk X cm) E ma))(hb:PE X b (tR (kk X cm) E mb))(hs:jA b:=by exact λ_ _=>rfl):PE X (.Subscript a b pos) (tV (kk X cm) E (ă Ē ma mb)):=Za9 Wn Vv ha hb hs
def İ(ha:PE X a (tR (kk X cm) E ma))(hb:PE X b (tR (kk X cm) E mb))(hs:jA b:=by exact λ_ _=>rfl):PE X (.Subscript a b pos) (tR (kk X cm) E (ă Ē ma mb)):=ġ (Ž ha hb hs)
def v_mod(ha:PE X a (tR (kk X cm) E ma))(hb:PE X b (tR (kk X cm) E mb)):PE X (.BinOp a .Mod b pos) (tV (kk X cm) E (ă Ġ ma mb)):=aj QL Ql ha hb
def Ĵ(ha:PE X a (tR (kk X cm) E ma))(hb:PE X b (tR (kk X cm) E mb)):PE X (.BinOp a .Mod b pos) (tR (kk X cm) E (ă Ġ ma mb)):=ġ (v_mod ha hb)
def v_mul(ha:PE X a (tR (kk X cm) E ma))(hb:PE X b (tR (kk X cm) E mb)):PE X (.BinOp a .Mult b pos) (tV (kk X cm) E (ă ħ ma mb)):=aj QS HB ha hb
def Ŗ(ha:PE X a (tR (kk X cm) E ma))(hb:PE X b (tR (kk X cm) E mb)):PE X (.BinOp a .Mult b pos) (tR (kk X cm) E (ă ħ ma mb)):=ġ (v_mul ha hb)
def v_sub(ha:PE X a (tR (kk X cm) E ma))(hb:PE X b (tR (kk X cm) E mb)):PE X (.BinOp a .Sub b pos) (tV (kk X cm) E (ă ao ma mb)):=aj QJ Qj ha hb
def xH(ha:PE X a (tR (kk X cm) E ma))(hb:PE X b (tR (kk X cm) E mb)):PE X (.BinOp a .Sub b pos) (tR (kk X cm) E (ă ao ma mb)):=ġ (v_sub ha hb)
def oM(ha:PE X a (tR (kk X cm) E ma))(hb:PE X b (tR (kk X cm) E mb)):PE X (.BinOp a .FloorDiv b pos) (tV (kk X cm) E (ă ı ma mb)):=aj QK Hq ha hb
def ņ(ha:PE X a (tR (kk X cm) E ma))(hb:PE X b (tR (kk X cm) E mb)):PE X (.BinOp a .FloorDiv b pos) (tR (kk X cm) E (ă ı ma mb)):=ġ (oM ha hb)
def iW(ha:PE X a (tR (kk X cm) E ma))(hb:PE X b (tR (kk X cm) E mb)):PE X (.BinOp a .Add b pos) (tO (kk X cm) E (ģ Ģ ma mb)):=VL QF QD ha hb
def v_add(ha:PE X a (tR (kk X cm) E ma))(hb:PE X b (tR (kk X cm) E mb)):PE X (.BinOp a .Add b pos) (tV (kk X cm) E (ĕ (ģ Ģ ma mb))):=Ħ (iW ha hb)
def cI(ha:PE X a (tR (kk X cm) E ma))(hb:PE X b (tR (kk X cm) E mb)):PE X (.BinOp a .Add b pos) (tR (kk X cm) E (ĕ (ģ Ģ ma mb))):=ġ (v_add ha hb)
def t_eq(hu:X.A.units+64<cLine)(ha:PE X a (tR (kk X cm) E ma))(hb:PE X b (tR (kk X cm) E mb)):PT X (.Compare a [.Eq] [b] pos) (tB (kk X cm) E (aO (ă į ma mb))):=cB JW (u_ hu) ha hb (ō _)
def vC(hu:X.A.units+64<cLine)(ha:PE X a (tR (kk X cm) E ma))(hb:PE X b (tR (kk X cm) E mb)):PT X (.Compare a [.NotEq] [b] pos) (tB (kk X cm) E (aO (ă aN ma mb))):=cB JX (Bt hu) ha hb (ō _)
def v_eq(hu:X.A.units+64<cLine)(ha:PE X a (tR (kk X cm) E ma))(hb:PE X b (tR (kk X cm) E mb)):PE X (.Compare a [.Eq] [b] pos) (tV (kk X cm) E (ă į ma mb)):=rK JW (u_ hu) ha hb (ō _)
def aX(he:PE X e (tO (kk X cm) E mo)):fB X [.Return (some e) pos] (tS (kk X cm) E (ĩ mo)):=ĭ (Wc he)
def Ľ(he:PE X e (tV (kk X cm) E m)):fB X [.Return (some e) pos] (tS (kk X cm) E (ĩ (Ŕ m))):=aX (bD he)
def Il{N ps:List Str}{sc:Scope}{i:Nat}{x:Str}{pos':Pos}(S:ď N ps sc)(he:PE X e (tO (kk X cm) E mo))(hN:X.N=N:=by rfl)(hi:X.N[i]?=some x:=by rfl)(hx:Loc X.env.scope x:=by first|exact Or.inl rfl|exact Or.inr rfl)(hs:swapsWith e (some (.Name x pos')) pos.line X.env=pure false:=by rfl)(hf:X.fn x=true\/X.env.scope.names.lookup x=some .local:=by first|exact .inl rfl|exact .inr rfl|assumption) :
 PS X (.Assign [.Name x pos'] e pos) (tS (kk X cm) E (Ĳ i mo)):=Wb (hN▸S.nd) hi hx he hs hf
def ŉ{N ps:List Str}{sc:Scope}{i:Nat}{x:Str}{pos':Pos}{rest:List Stmt}{m2:M Fl}(S:ď N ps sc)(he:PE X e (tO (kk X cm) E mo))(h2:fB X rest (tS (kk X cm) E m2))(hN:X.N=N:=by rfl)(hi:X.N[i]?=some x:=by rfl)(hx:Loc X.env.scope x:=by first|exact Or.inl rfl|exact Or.inr rfl)(hs:swapsWith e (some (.Name x pos')) pos.line X.env=pure false:=by rfl)(hf:X.fn x=true\/X.env.scope.names.lookup x=some .local:=by first|exact .inl rfl|exact .inr rfl|assumption) :
 fB X (.Assign [.Name x pos'] e pos::rest) (tS (kk X cm) E (Ę (Ĳ i mo) m2)):=ċ (Il S he hN hi hx hs hf) h2
def š{N ps:List Str}{sc:Scope}{i:Nat}{x:Str}(S:ď N ps sc)(hN:X.N=N:=by rfl)(hi:X.N[i]?=some x:=by rfl)(hx:Loc X.env.scope x:=by first|exact Or.inl rfl|exact Or.inr rfl)(hf:X.fn x=true\/X.env.scope.names.lookup x=some .local:=by first|exact .inl rfl|exact .inr rfl|assumption):PG X (.Name x pos) (tT (kk X cm) (gN i)):=Ce (hN▸S.nd) hi hx hf
def bY{i:Nat}{x:Str}(hN:X.N.Nodup:=by exact ndB (by kernel_rfl))(hi:X.N[i]?=some x:=by rfl)(hx:Loc X.env.scope x:=by first|exact Or.inl rfl|exact Or.inr rfl)(hf:X.fn x=true\/X.env.scope.names.lookup x=some .local:=by first|exact .inl rfl|exact .inr rfl):PG X (.Name x pos) (tT (kk X cm) (gN i)):=Ce hN hi hx hf
def Ĕ(i:Nat){x:Str}{px:Pos}{ms:M (List Slot)}(hr:PA X es (tA (kk X cm) E ms))(hN:X.N[i]?=some x:=by rfl)(hv:wz X.env.scope x:=by first|exact Or.inl rfl|exact Or.inr (Or.inl rfl)|exact Or.inr (Or.inr rfl))(hd:(x== ("__debug__" :Str))=false:=by decide)
 (hcd:(x== ("__classdict__" :Str))=false:=by decide)(hs:starEach (.Name x px::es) X.env=(false,eval (.Name x px) X.env)::starEach es X.env:=by exact ŵ rfl):PA X (.Name x px::es) (tA (kk X cm) E (Ĉ i ms)):=HF i hN hv hd hcd hr hs
def gj{id:String}{x:Str}{r:List V->Hp->VK->Prop}{f:List PV->Option PV}{mr:M (List PV)}(hc:Ŝ X (.builtin id) r)(hf:j_ (kk X cm) r f)(hm:X.mg x=none)(hv:bootBuiltins x=some (.builtin id))(ha:PA X (e::es) (JK (kk X cm) E mr))(hg:Gl X x:=by rfl)(hn:x≠ "__name__" := by decide)(hdb:(x== ("__debug__" :Str))=false:=by decide)
 (he:starEach (e::es) X.env=(false,eval e X.env)::starEach es X.env:=by rfl)(hpl:(backTo pos (starEach es X.env)).any (·.1)=false:=by rfl):PE X (.Call (.Name x p) (e::es) [] pos) (tV (kk X cm) E (pR f mr)):=PE.wk (q_ hc hg hm hv ha hn hdb he hpl) λ_ _ _ h=>Wa hf h
def Zb_{T:String}{x:Str}{r:List V->Hp->VK->Prop}{f:List PV->Option PV}{mr:M (List PV)}(hc:Ŝ X (.type T) r)(hf:j_ (kk X cm) r f)(hm:X.mg x=none)(hv:bootBuiltins x=some (.type T))(ha:PA X (e::es) (JK (kk X cm) E mr))(hg:Gl X x:=by rfl)(hn:x≠ "__name__" := by decide)(hdb:(x== ("__debug__" :Str))=false:=by decide)
 (he:starEach (e::es) X.env=(false,eval e X.env)::starEach es X.env:=by rfl)(hpl:(backTo pos (starEach es X.env)).any (·.1)=false:=by rfl):PE X (.Call (.Name x p) (e::es) [] pos) (tV (kk X cm) E (pR f mr)):=PE.wk (nT hc hg hm hv ha hn hdb he hpl) λ_ _ _ h=>Wa hf h
def qd{T:String}{x:Str}{r:List V->Hp->VK->Prop}{f:List PV->Option RV}{mr:M (List PV)}(hc:Ŝ X (.type T) r)(hf:Cd (kk X cm) r f)(hm:X.mg x=none)(hv:bootBuiltins x=some (.type T))(ha:PA X (e::es) (JK (kk X cm) E mr))(hg:Gl X x:=by rfl)(hn:x≠ "__name__" := by decide)(hdb:(x== ("__debug__" :Str))=false:=by decide)
 (he:starEach (e::es) X.env=(false,eval e X.env)::starEach es X.env:=by rfl)(hpl:(backTo pos (starEach es X.env)).any (·.1)=false:=by rfl):PE X (.Call (.Name x p) (e::es) [] pos) (tO (kk X cm) E (nj f mr)):=PE.wk (nT hc hg hm hv ha hn hdb he hpl) λ_ _ _ h=>Za_ hf h
end
section
variable{X:Cx}{cm:String->Addr}{E:L2.St->XK}{elt tg iter t:Expr}{ifs:List Expr}{scope:Scope}{pos:Pos}{mi:M (List PV)}{g:Tg}{mt:M Bool}{me:M PV}{js:List Nat}{nl:Nat}
structure CF(X:Cx)(js:List Nat)(nl:Nat)(tg iter:Expr)(scope:Scope):Prop where
 hcap:fJ X.ŀ X.env.scope scope (cN X js tg) js
 hcalm:X.calm=true
 hlen:js.length+nl=(cN X js tg).length
 hk:scope.kind=.function
 hcell:∀y∈scope.names,y.2=.cell->scope.names.lookup y.1=some .cell
 hnames:∀y∈scope.names,y.2=.local->scope.names.lookup y.1=some .local
 hfree:∀y∈scope.names,y.2=.free->(X.env.scope.names.lookup y.1=some .cell\/X.env.scope.names.lookup y.1=some .free)
 hs:∀x,foldedSetIterable iter X.env x=pure x
def cf(hcap:fJ X.ŀ X.env.scope scope (cN X js tg) js:=by repeat' first|exact True.intro|refine⟨rfl,⟨rfl,by first|exact Or.inl rfl|exact Or.inr rfl⟩,?_⟩)(hcalm:X.calm=true:=by rfl)(hlen:js.length+nl=(cN X js tg).length:=by rfl)
 (hk:scope.kind=.function:=by rfl)(hcell:∀y∈scope.names,y.2=.cell->scope.names.lookup y.1=some .cell:=by decide +kernel)(hnames:∀y∈scope.names,y.2=.local->scope.names.lookup y.1=some .local:=by decide +kernel)
 (hfree:∀y∈scope.names,y.2=.free->(X.env.scope.names.lookup y.1=some .cell\/X.env.scope.names.lookup y.1=some .free):=by exact frB (by kernel_rfl))(hs:∀x,foldedSetIterable iter X.env x=pure x:=by intro _;rfl):CF X js nl tg iter scope:=⟨hcap,hcalm,hlen,hk,hcell,hnames,hfree,hs⟩
def Zca(hi:PI X.ŀ tg iter (tG (kk X cm) E (Cp (kk X cm)) mi))(hg:∀{cl C s H fp},PG (aG X.ŀ (cN X js tg) scope cl C s H fp) tg (tT (kk X cm) g))(ht:∀{cl C s H fp},Af (aG X.ŀ (cN X js tg) scope cl C s H fp) ifs (tB (kk X cm) EF mt))(he:∀{cl C s H fp},PE (aG X.ŀ (cN X js tg) scope cl C s H fp) elt (tV (kk X cm) EF me))(h:CF X js nl tg iter scope:=by exact cf) :
 PE X (.ListComp elt [⟨tg,iter,ifs,0⟩] scope pos) (tO (kk X cm) E (Ÿ js nl mi g mt me)):=HY (cN X js tg) js nl X.env.scope rfl h.hcalm hi (λ_ _ _ _ _=>hg) (λ_ _ _ _ _=>ht) (λ_ _ _ _ _=>he) h.hcap h.hlen h.hk h.hcell h.hnames h.hfree h.hs
def Im(hi:PI X.ŀ tg iter (tI (kk X cm) E mi))(hg:∀{cl C s H fp},PG (aG X.ŀ (cN X js tg) scope cl C s H fp) tg (tT (kk X cm) g))(ht:∀{cl C s H fp},Af (aG X.ŀ (cN X js tg) scope cl C s H fp) ifs (tB (kk X cm) EF mt))(he:∀{cl C s H fp},PE (aG X.ŀ (cN X js tg) scope cl C s H fp) elt (tV (kk X cm) EF me))(h:CF X js nl tg iter scope:=by exact cf) :
 PE X (.ListComp elt [⟨tg,iter,ifs,0⟩] scope pos) (tO (kk X cm) E (Ÿ js nl mi g mt me)):=Zca (JQ hi) hg ht he h
def Io{N ps:List Str}{sc:Scope}{i:Nat}{y:Str}{py spos:Pos}(S:ď N ps sc)(hi:PI X.ŀ tg iter (tI (kk X cm) E mi))(hg:∀{cl C s H fp},PG (aG X.ŀ (cN X js tg) scope cl C s H fp) tg (tT (kk X cm) g))(ht:∀{cl C s H fp},Af (aG X.ŀ (cN X js tg) scope cl C s H fp) ifs (tB (kk X cm) EF mt))(he:∀{cl C s H fp},PE (aG X.ŀ (cN X js tg) scope cl C s H fp) elt (tV (kk X cm) EF me))
 (h:CF X js nl tg iter scope:=by exact cf)(hN:X.N=N:=by rfl)(hi0:X.N[i]?=some y:=by rfl)(hy:X.env.scope.names.lookup y=some .local:=by rfl)(hsw:swapsWith (.ListComp elt [⟨tg,iter,ifs,0⟩] scope pos) (some (.Name y py)) spos.line X.env=pure true:=by rfl) :
 PS X (.Assign [.Name y py] (.ListComp elt [⟨tg,iter,ifs,0⟩] scope pos) spos) (tS (kk X cm) E (Ĳ i (Ÿ js nl mi g mt me))):=QX (hN▸S.nd) hi0 hy (cN X js tg) js nl X.env.scope rfl h.hcalm hi (λ_ _ _ _ _=>hg) (λ_ _ _ _ _=>ht) (λ_ _ _ _ _=>he) h.hcap h.hlen h.hk h.hcell h.hnames h.hfree h.hs hsw
end
end P
namespace P
open PySem PySem.Spec PyProof.Rows L2 M2 M3 M5
end P
namespace P
open PySem PySem.Spec PyProof.Rows L2 M2 M3 M4 M5
variable{X:Cx}{cm:String->Addr}{E:L2.St->XK}{a:Expr}{pos:Pos}{ma:M PV}
def Uh(p:PV)(lo hi:Option Int):Option RV:=match p with
 | .tup ps=>if HT.œ ps.length 0 lo=0/\HT.œ ps.length ps.length hi=ps.length then none else some (.sh (.tup (cD ps lo hi)))
 |q=>Ub q lo hi
def Rg(ma:M PV)(ml mh:M (Option Int)):M RV:=λρ=>(ma ρ).bind λp ρ1=>(ml ρ1).bind λlo ρ2=>(mh ρ2).bind λhi ρ3=>Res.iR (Uh p lo hi) ρ3
def CQ{ml mh:M (Option Int)}{lo hi:Option Expr}{p2:Pos}(ha:PE X a (tR (kk X cm) E ma))(hl:PO X lo (tP (kk X cm) E ml))(hh:PO X hi (tP (kk X cm) E mh)):PE X (.Subscript a (.Slice lo hi none p2) pos) (tO (kk X cm) E (Rg ma ml mh)):=
 PE.wk (rm (slm.or PL) ha hl hh) fun σ H Q ⟨c,F,ρ,rel,h⟩=>⟨c,F,ρ,rel,h.bind fun p ρ1 v F1 H1 Ċ _ _ r1 h1=>⟨c,F1,ρ1,Ċ,h1.bind fun lo ρ2 lo' F2 H2 Ĩ sF sH r2 h2=>⟨c,F2,ρ2,Ĩ,h2.bind fun hi ρ3 hi' F3 H3 aP sF3 YS r3 h3=>by
   have e2:lo=lo':=r2
   have e3:hi=hi':=r3
   subst e2 e3
   have r1':rR (kk X cm) c σ ρ3 F3 H3 p v:=r1.mono (sF.trans sF3) (sH.trans YS)
   cases p with
   |lst ps=>
    obtain⟨a,vs,rfl,q1,q2⟩:=r1'.lst aP.sub
    refine .inl ⟨vs,q1,λd hd=>?_⟩
    have e:ĉ (kk X cm) F3 (cD ps lo hi) (eN vs lo hi):=by
     unfold cD eN
     rw[q2.length]
     exact ĉ.of (jC _ (jD _ q2.pr))
    obtain⟨z1,z2⟩:=Ŷ aP hd e
    exact h3 _ F3 _ z1 (Same.refl _) (Same.upd hd) z2
   |tup ps=>
    obtain⟨a,vs,rfl,q1,q2⟩:=r1'.tup aP.sub
    unfold Uh at h3
    dsimp only at h3
    split at h3
    ·exact h3.elim
    ·rename_i hw
     have e:ĉ (kk X cm) F3 (cD ps lo hi) (eN vs lo hi):=by
      unfold cD eN
      rw[q2.length]
      exact ĉ.of (jC _ (jD _ q2.pr))
     refine .inr ⟨a,vs,rfl,q1,by rw[<-q2.length];exact hw,λd hd=>h3 _ _ _ (aP.alloc hd) (Same.upd (aP.sub.free hd)) (Same.upd hd) ?_⟩
     show Rep (kk X cm) _ _ _
     unfold Rep
     exact⟨d,eN vs lo hi,rfl,ē,ĉ.same (Same.upd (aP.sub.free hd)) _ _ e⟩
   |str z=>
    cases r1'.str
    unfold Uh Ub at h3
    dsimp only at h3
    split at h3
    ·rename_i hz
     exact .inl ⟨by rw[ğ];exact hz,h3 _ F3 H3 aP (Same.refl _) (Same.refl _) (Rep.str (K:=kk X cm) (F:=F3))⟩
    ·exact h3.elim
   |_=>exact h3.elim⟩⟩⟩
@[simp] theorem Zcb{ml mh:M (Option Int)}{ρ:ĸ}:Rg ma ml mh ρ=(ma ρ).bind λp ρ1=>(ml ρ1).bind λlo ρ2=>(mh ρ2).bind λhi ρ3=>Res.iR (Uh p lo hi) ρ3:=rfl
@[simp] theorem Zav{ps:List PV}{lo hi:Option Int}:Uh (.lst ps) lo hi=some (.ow (cD ps lo hi)):=rfl
end P
namespace M5
open PySem PySem.Spec PyProof.Rows L2 M2 M3
section
variable{X:Cx}{pins:List (Addr×Obj)}{σ:L2.St}{H:Hp}{s:Shared}
variable{R:Result->Shared->Prop}{f l S It:Addr}{oF:Obj}{xs:List V}(ks:Nat->Int)(W:Nat->Hp->Prop)
end
section
variable{X:Cx}{x px:Str}{c P:Addr}{params:Arguments}{body e:Expr}{scope:Scope}{p pos Qu kpos dpos WT:Pos}{dj:Nat}{ta:TA}{te:TE}
end
end M5
namespace P
open PySem PySem.Spec PyProof.Rows L2 M2 M3 M5
section
variable{X:Cx}{cm:String->Addr}{E:L2.St->XK}{x px:Str}{c Pt:Addr}{params:Arguments}{body e:Expr}{scope:Scope}{p pos Qu kpos dpos WT:Pos}{dj:Nat}{mr:M (List PV)}{me:M PV}
end
end P
namespace PySem
namespace F
end F
section
variable{prog:Program}{w:World}{A:Around}{E:Value->Shared->Prop}{s:Shared}
end
end PySem
namespace P
open PySem PySem.Spec PyProof.Rows L2 M2 M3 M4
section
variable{X:Cx}{cm:String->Addr}{E:L2.St->XK}{tg e l:Expr}{p pos p1 pos1:Pos}{mi:M (List PV)}
end
end P
namespace P
open PySem PySem.Spec PyProof.Rows L2 M2 M3 M4
section
variable{X:Cx}{cm:String->Addr}{E:L2.St->XK}{tg:Expr}{a b d:Expr}{p pos:Pos}{mr:M (List PV)}
end
end P
namespace P
open PySem PySem.Spec PyProof.Rows L2 M2 M3 M4
section
variable{X:Cx}{cm:String->Addr}{E:L2.St->XK}
end
end P
namespace L2
open PySem PySem.Spec PyProof.Rows
end L2
namespace L2
open PySem PySem.Spec PyProof.Rows
section
variable(P:Program)(w:World)
end
section
variable{P:Program}{w:World}{H H':Hp}{h h':Heap}{a:Addr}{o:HO}
end
section
variable{P:Program}{w:World}{H:Hp}{h h':Heap}{x e:Addr}{o':HO}
end
section
variable{fs fs' ex ex':List Addr}{H H1 H2:Hp}{h h1 h2 h':Heap}{a x e:Addr}{o:HO}
end
end L2
namespace L2
open PySem PySem.Spec PyProof.Rows
section
variable{X:Cx}{pins:List (Addr×Obj)}{σ:List (Option V)}{H H':Hp}{s:Shared}{h':Heap}
end
end L2
namespace L2
open PySem PySem.Spec PyProof.Rows
section
variable{X:Cx}
variable{a b:Expr}{ta tb:TE}{pos:Pos}
variable{tA Uz:TT}{rest:List Expr}
end
end L2
namespace L2
open PySem PySem.Spec PyProof.Rows
section
variable{X:Cx}{pins:List (Addr×Obj)}{σ:St}{H:Hp}{s:Shared}{a:Addr}{xs ys:List V}
end
section
variable{X:Cx}{pins:List (Addr×Obj)}{σ:St}{H:Hp}{s:Shared}{E:Value->Shared->Prop}
end
section
variable{X:Cx}{st:Stmt}{rest:List Stmt}{t u:TS}{e:Expr}{te:TE}{pos:Pos}
end
section
variable{X:Cx}{pos:Pos}
end
section
variable{X:Cx}{pos:Pos}
end
end L2
namespace L2
open PySem PySem.Spec PyProof.Rows
section
variable{X:Cx}{tg:Expr}
end
end L2
namespace L2
open PySem PySem.Spec PyProof.Rows
section
variable{X:Cx}{a b c:Expr}{ta tb tc:TE}{pos:Pos}
end
section
variable{X:Cx}{a b c:Expr}{ta tb tc:TE}{pos:Pos}
end
end L2
namespace L2
open PySem PySem.Spec PyProof.Rows
section
variable{prog:Program}{w:World}{A:Around}{E:Value->Shared->Prop}{s:Shared}{K:PySem.W.Frag}{x dx C f:Addr}{mA:Str->Option Value}{name:Str}{v:Value}
end
section
variable{P:Program}{w:World}{H H':Hp}{h h':Heap}{a C dx:Addr}{fs fs':List (Str×V)}
end
section
variable{X:Cx}{pins:List (Addr×Obj)}{σ:St}{H:Hp}{s:Shared}{a C dx:Addr}{fs:List (Str×V)}{f:Str}{v:V}{A:Around}{E:Value->Shared->Prop}
end
section
variable{X:Cx}{o e value:Expr}{f:Str}{pos pos' tpos:Pos}{ta tv:TE}
end
section
variable{X:Cx}{pins:List (Addr×Obj)}{σ:St}{H:Hp}{s:Shared}{A:Around}{E:Value->Shared->Prop}{Q:Value->Shared->Prop}{c:Value}{b:Bool}
end
end L2
namespace L2
open PySem PySem.Spec PyProof.Rows
section
variable{X:Cx}{e:Expr}{es:List Expr}{te:TE}{t:TA}{pos:Pos}
end
section
variable{X:Cx}{pins:List (Addr×Obj)}{σ:St}{H:Hp}{s s':Shared}
end
section
variable{X:Cx}{CX:gK}{k:Nat}{f C:Addr}{fd:FuncData}{ps:List Str}{sp:Sp}{dvs:List V}{ds:List Value}{E:XK}{x m:Str}{p pos apos:Pos}{e o:Expr}{es:List Expr}{ta:TE}{t:TA}
end
section
variable{X:Cx}{CX:gK}{k:Nat}{f C:Addr}{fd:FuncData}{ps ks:List Str}{sp:Sp}{E:XK}{x m:Str}{p pos apos kpos:Pos}{e o:Expr}{es:List Expr}{kws:List Keyword}{te ta:TE}{t tk:TA}{nm:Option Str}
variable{g:List Value->List Value->List Value}{gV:List V->List V->List V}
end
end L2
namespace L2
open PySem PySem.Spec PyProof.Rows
section
variable{X:Cx}{x:Str}{p pos:Pos}{e:Expr}{es:List Expr}{t:TA}{id T:String}{r:List V->Hp->VK->Prop}
end
end L2
namespace L2
open PySem PySem.Spec PyProof.Rows
section
variable{κ:Type}[DecidableEq κ]
def bI(kvs:List (κ×V))(k:κ):Option V:=(kvs.find? λkv=>decide (kv.1=k)).map (·.2)
def putK(kvs:List (κ×V))(k:κ)(v:V):List (κ×V):=
 if(kvs.any λkv=>decide (kv.1=k))=true then kvs.map (λkv=>if kv.1=k then(kv.1,v) else kv) else kvs ++ [(k,v)]
def kZ{p:κ×V}{r:List (κ×V)}{k:κ}(e:p.1=k):bI (p::r) k=some p.2:=by simp[bI,List.find?_cons,e]
def k_{p:κ×V}{r:List (κ×V)}{k:κ}(e:¬p.1=k):bI (p::r) k=bI r k:=by simp[bI,List.find?_cons,e]
theorem sJ(k:κ):∀kvs:List (κ×V),(kvs.any λkv=>decide (kv.1=k))=(bI kvs k).isSome
 | []=>rfl
 |p::r=>by
  rw[List.any_cons]
  by_cases e:p.1=k
  ·simp only[kZ e,decide_eq_true e,Bool.true_or,Option.isSome_some]
  ·rw[k_ e,decide_eq_false e,Bool.false_or];exact sJ k r
def cJ(kvs:List (κ×V))(k:κ)(v:V):(putK kvs k v).length<=kvs.length+1:=by
 unfold putK
 split
 ·rw[List.length_map];omega
 ·rw[List.length_append,List.length_cons,List.length_nil];omega
def mV.zK{o:Option V}{u:Option Value}(r:mV o u):o.isSome=u.isSome:=by
 cases o with
 |none=>cases u with
  |none=>rfl
  |some _=>exact(show False from r).elim
 |some _=>cases u with
  |none=>exact(show False from r).elim
  |some _=>rfl
theorem KV.any{kvs:List (κ×V)}{vs:List (κ×Value)}(r:KV kvs vs)(k:κ):(kvs.any λkv=>decide (kv.1=k))=vs.any λkv=>decide (kv.1=k):=by
 unfold KV at r
 induction r with
 |nil=>rfl
 |cons h t ih=>rw[List.any_cons,List.any_cons,ih,h.1]
def KV.repl{kvs:List (κ×V)}{vs:List (κ×Value)}(r:KV kvs vs)(k:κ){y:V}{u:Value}(ry:RelV y u) :
 KV (kvs.map λkv=>if kv.1=k then(kv.1,y) else kv) (vs.map λkv=>if kv.1=k then(kv.1,u) else kv):=by
 unfold KV at r ⊢
 induction r with
 |nil=>exact .nil
 |@cons p q ps qs h t ih=>
  rw[List.map_cons,List.map_cons]
  refine .cons ?_ ih
  obtain⟨h1,h2⟩:=h
  by_cases e:p.1=k
  ·rw[if_pos e,if_pos (h1.symm.trans e)];exact⟨h1,ry⟩
  ·rw[if_neg e,if_neg (λz=>e (h1.trans z))];exact⟨h1,h2⟩
def KV.put{kvs:List (κ×V)}{vs:List (κ×Value)}(r:KV kvs vs)(k:κ){y:V}{u:Value}(ry:RelV y u):KV (putK kvs k y) (stored vs k u):=by
 unfold putK stored
 rw[r.any k]
 by_cases e:(vs.any λkv=>decide (kv.1=k))=true
 ·rw[if_pos e,if_pos e];exact r.repl k ry
 ·rw[if_neg e,if_neg e];exact Paired.snoc r ⟨rfl,ry⟩
theorem KV.length{kvs:List (κ×V)}{vs:List (κ×Value)}(r:KV kvs vs):kvs.length=vs.length:=Paired.length r
end
def Kg{P:Program}{w:World}{k:Key}{u:Value}(r:RelV (kV k) u):(ĺ P w).is k u=true:=by
 cases k with
 |inl i=>obtain⟨t,e⟩:=(show ∃t,u=Value.int i t from r);subst e;exact qR P w i t
 |inr x=>obtain⟨t,e⟩:=(show ∃t,u=Value.str x t from r);subst e;exact qT P w x t
theorem oN{P:Program}{w:World}:∀{ks:List Key} {us:List Value},Vals (ks.map kV) us->ItemsAre (ĺ P w) ks us
 | [],_,r=>by rw[List.map_nil] at r;cases r;exact .nil
 |k::ks,_,r=>by
  rw[List.map_cons] at r
  cases r with
  |cons h t=>exact .cons (Kg h) (oN t)
abbrev KT(H:Hp):List (List Key×V)->List (List Key×Addr×Value)->Prop:=Paired λp q=>p.1=q.1/\H q.2.1=some (.tup (p.1.map kV))/\RelV p.2 q.2.2
def KT.val{H:Hp}{kvs:List (List Key×V)}{xs:List (List Key×Addr×Value)}(r:KT H kvs xs)(k:List Key):mV (bI kvs k) ((atKey xs k).map (·.2)):=by
 induction r with
 |nil=>exact True.intro
 |@cons p q ps qs h t ih=>
  obtain⟨h1,_,h2⟩:=h
  by_cases e:p.1=k
  ·have e':q.1=k:=h1.symm.trans e
   have b:atKey (q::qs) k=some q.2:=by simp[atKey,List.find?_cons,e']
   rw[kZ e,b];exact h2
  ·have e':¬q.1=k:=λz=>e (h1.trans z)
   have b:atKey (q::qs) k=atKey qs k:=by simp[atKey,List.find?_cons,e']
   rw[k_ e,b];exact ih
def KT.repl{H:Hp}{kvs:List (List Key×V)}{xs:List (List Key×Addr×Value)}(r:KT H kvs xs)(k:List Key){y:V}{u:Value}(ry:RelV y u) :
 KT H (kvs.map λkv=>if kv.1=k then(kv.1,y) else kv) (xs.map (putAt k u)):=by
 induction r with
 |nil=>exact .nil
 |@cons p q ps qs h t ih=>
  rw[List.map_cons,List.map_cons]
  refine .cons ?_ ih
  obtain⟨h1,h2,h3⟩:=h
  unfold putAt
  by_cases e:p.1=k
  ·rw[if_pos e,if_pos (h1.symm.trans e)];exact⟨h1,h2,ry⟩
  ·rw[if_neg e,if_neg (λz=>e (h1.trans z))];exact⟨h1,h2,h3⟩
def KT.put{H:Hp}{kvs:List (List Key×V)}{xs:List (List Key×Addr×Value)}(r:KT H kvs xs)(k:List Key){b:Addr}{y:V}{u:Value}(hb:H b=some (.tup (k.map kV)))(ry:RelV y u) :
 KT H (putK kvs k y) (storedH xs k b u):=by
 have e:(kvs.any λkv=>decide (kv.1=k))=(atKey xs k).isSome:=by
  rw[sJ,(r.val k).zK,Option.isSome_map]
 unfold putK storedH
 rw[e]
 by_cases q:(atKey xs k).isSome=true
 ·rw[if_pos q,if_pos q];exact r.repl k ry
 ·rw[if_neg q,if_neg q];exact Paired.snoc r ⟨rfl,hb,ry⟩
def KT.keeps{H H':Hp}{kvs:List (List Key×V)}{xs:List (List Key×Addr×Value)}(r:KT H kvs xs)(ht:∀b ys,H b=some (.tup ys)->H' b=some (.tup ys)):KT H' kvs xs:=
 Paired.Oh r λ_ _ z=>⟨z.1,ht _ _ z.2.1,z.2.2⟩
section
variable{P:Program}{w:World}{H:Hp}{h:Heap}{a:Addr}
def Kh{u:HO}(ok:cg P w H h)(e:Rd H a u):ń P w H h a u:=e.ok ok
def CT{kvs:List (Key×V)}(ok:cg P w H h)(e:Rd H a (.dK kvs)):kvs.length<=sizeLine/\(a== sysModules)=false/\∃vs,KV kvs vs/\h.DictOf (ĺ P w) a vs:=
 show ń P w H h a (.dK kvs) from Kh ok e
def WW{kvs:List (Key×V)}(ok:cg P w H h)(e:H a=some (.dK kvs)):kvs.length<=sizeLine/\(a== sysModules)=false/\∃vs,KV kvs vs/\h.DictOf (ĺ P w) a vs:=CT ok (.inl e)
def vD{ks:List Key}(ok:cg P w H h)(e:H a=some (.tup (ks.map kV))):(tupleKind (ĺ P w)).is h ks a:=by
 obtain⟨_,its,r,o,h1,h2,n,h3⟩:=(show ń P w H h a (.tup (ks.map kV)) from ok a _ e)
 exact⟨o,its.toArray,n,h1,h2,h3,by simpa using oN r⟩
def CV{kvs:List (List Key×V)}(ok:cg P w H h)(e:Rd H a (.dT kvs)):kvs.length<=sizeLine/\(a== sysModules)=false/\
 ∃xs,KT H kvs xs/\h.DictOfH (tupleKind (ĺ P w)) a xs:=by
 obtain⟨z,y,xs,r,o,es,ep,h1,h2,h3,h4,h5⟩:=(show ń P w H h a (.dT kvs) from Kh ok e)
 refine⟨z,y,xs,r,o,es,ep,h1,h2,h3,h4,λx hx=>?_,h5⟩
 have all:∀{l:List (List Key×V)} {m:List (List Key×Addr×Value)},KT H l m->∀x∈m,(tupleKind (ĺ P w)).is h x.1 x.2.1:=by
  intro l m q
  induction q with
  |nil=>intro x hx;exact nomatch hx
  |@cons p q ps qs hq t ih=>
   intro x hx
   rcases List.mem_cons.mp hx with e|hx
   ·subst e
    exact vD ok (by rw[<-hq.1];exact hq.2.1)
   ·exact ih x hx
 exact all r x hx
def Kl{kvs:List (List Key×V)}(ok:cg P w H h)(e:H a=some (.dT kvs)):kvs.length<=sizeLine/\(a== sysModules)=false/\
 ∃xs,KT H kvs xs/\h.DictOfH (tupleKind (ĺ P w)) a xs:=CV ok (.inl e)
end
def Ip(H:Hp)(a:Addr)(y:V)(r:Option V):Prop:=
 (∃kvs k,Rd H a (.dK kvs)/\y=kV k/\r=bI kvs k)\/∃kvs k b,Rd H a (.dT kvs)/\y=.ref b/\H b=some (.tup (k.map kV))/\r=bI kvs k
def sO(H:Hp)(a:Addr)(y v:V)(H':Hp):Prop:=
 (∃kvs k,H a=some (.dK kvs)/\y=kV k/\kvs.length<sizeLine/\H'=upd H a (.dK (putK kvs k v)))\/
 ∃kvs k b,H a=some (.dT kvs)/\y=.ref b/\H b=some (.tup (k.map kV))/\kvs.length<sizeLine/\H'=upd H a (.dT (putK kvs k v))
theorem Ip.k{H:Hp}{a:Addr}{kvs:List (Key×V)}{k:Key}(e:H a=some (.dK kvs)):Ip H a (kV k) (bI kvs k):=.inl ⟨kvs,k,.inl e,rfl,rfl⟩
def Ip.t{H:Hp}{a b:Addr}{kvs:List (List Key×V)}{k:List Key}(e:H a=some (.dT kvs))(eb:H b=some (.tup (k.map kV))):Ip H a (.ref b) (bI kvs k):=.inr ⟨kvs,k,b,.inl e,rfl,eb,rfl⟩
theorem sO.k{H:Hp}{a:Addr}{kvs:List (Key×V)}{k:Key}{v:V}(e:H a=some (.dK kvs))(hl:kvs.length<sizeLine):sO H a (kV k) v (upd H a (.dK (putK kvs k v))):=.inl ⟨kvs,k,e,rfl,hl,rfl⟩
def sO.t{H:Hp}{a b:Addr}{kvs:List (List Key×V)}{k:List Key}{v:V}(e:H a=some (.dT kvs))(eb:H b=some (.tup (k.map kV)))(hl:kvs.length<sizeLine) :
 sO H a (.ref b) v (upd H a (.dT (putK kvs k v))):=.inr ⟨kvs,k,b,e,rfl,eb,hl,rfl⟩
section
variable{X:Cx}{pins:List (Addr×Obj)}{σ:St}{H:Hp}{s:Shared}{a:Addr}{y v:V}{u r:Value}{o:Option V}{A:Around}{E:Value->Shared->Prop}
def Inv.big(I:Inv X pins σ H s):sysModules<s.heap.objs.size:=by
 have h:mainGlobals<s.heap.objs.size:=(I.mod.glob.keeps I.bk).lt
 exact Nat.lt_trans (by decide) h
def qe{h':Heap}{t':Nat}{ob:HO}(I:Inv X pins σ H s)(mu:Uu (H a))(hs:Heap.SameBut a s.heap h')(he:∃q,h'.get? a=some q)(new:ń X.prog X.w (upd H a ob) h' a ob) :
 Inv X pins σ (upd H a ob) {s with heap:=h',toks:=t'}:=
 I.write (x:=a) (e:=a) mu (.inl rfl) (λb q hb z=>(hs.2 b hb).trans z) he new
def Rh{P:Program}{w:World}{H':Hp}{h':Heap}{kvs:List (Key×V)}{vs:List (Key×Value)}(z:kvs.length<=sizeLine)(hd:(a== sysModules)=false)(rel:KV kvs vs)(dd:h'.DictOf (ĺ P w) a vs) :
 ń P w H' h' a (.dK kvs):=⟨z,hd,vs,rel,dd⟩
def zL{H':Hp}{Q:Unit->Shared->Prop}(hu:A.units+1<cLine)(I:Inv X pins σ H s)(g:sO H a y v H')(ry:RelV y u)(rv:RelV v r)(h:∀s',Inv X pins σ H' s'->Q () s') :
 wpAny (model X.prog X.w) A (setItem (.ref a) u r) Q E s:=by
 rcases g with⟨kvs,k,e,ey,l,eH⟩|⟨kvs,k,b,e,ey,eb,l,eH⟩
 ·subst ey eH
  obtain⟨z,hd,vs,rel,dd⟩:=WW I.hok e
  have hz:vs.length<=sizeLine:=by rw[<-rel.length];exact z
  have hl:(putK kvs k v).length<=sizeLine:=by have:=cJ kvs k v;omega
  refine wpAny_setItem_pairs (hsz:=hz) (Kg ry) dd λh' Ui hs=>h _ ?_
  have he:∃q,h'.get? a=some q:=let ⟨q,_,_,hq,_⟩:=Ui;⟨q,hq⟩
  exact qe I (by rw[e];exact True.intro) hs he (Rh hl hd (rel.put k rv) Ui)
 ·subst ey eH
  cases(show u=Value.ref b from ry)
  obtain⟨z,hd,xs,rel,dd⟩:=Kl I.hok e
  have hz:xs.length<=sizeLine:=by rw[<-Paired.length rel];exact z
  have hl:(putK kvs k v).length<=sizeLine:=by have:=cJ kvs k v;omega
  refine wpAny_setItem_heap (hsz:=hz) (tupleKind_room_in1 hu) (vD I.hok eb) dd λh' Ui hs=>h _ ?_
  obtain⟨q,es,ep,hq,h2,h3,h4,_,h5⟩:=Ui
  refine qe I (by rw[e];exact True.intro) hs ⟨q,hq⟩ ⟨hl,hd,_,(rel.put k eb rv).keeps λc ys ec=>?_,q,es,ep,hq,h2,h3,h4,h5⟩
  rw[č (Jx ec e (λz=>nomatch z))]
  exact ec
end
section
variable{X:Cx}{pins:List (Addr×Obj)}{σ:St}{H:Hp}{s:Shared}{a:Addr}{kvs:List (Key×V)}{k:Key}{u:Value}{A:Around}{E:Value->Shared->Prop}
end
def WX(td ty tv:TE):TS:=λD σ H=>tv σ H λv H1=>td σ H1 λx H2=>ty σ H2 λy H3=>∃a H4,x=.ref a/\sO H3 a y v H4/\D.nx σ H4
section
variable{X:Cx}{o i e value:Expr}{pos pos' tpos:Pos}{td ty tv:TE}
def xJ(hu:X.A.units+1<cLine)(ho:PE X o td)(hi:PE X i ty)(hv:PE X value tv)(hs:swapsWith value (some (.Subscript o i pos')) pos.line X.env=pure false) :
 PS X (.Assign [.Subscript o i pos'] value pos) (WX td ty tv):=by
 intro pins s σ H D I h
 refine wpAny_Assign_Subscript (Ń (hv pins s σ H _ I h) λr s1 ⟨v,H1,I1,rv,q1⟩=>Ń (ho pins s1 σ H1 _ I1 q1) λu s2 ⟨x,H2,I2,rx,q2⟩=>Ń (hi pins s2 σ H2 _ I2 q2) λiv s3 ⟨y,H3,I3,ry,a,H4,ex,g,q3⟩=>?_) hs
 subst ex
 obtain rfl:u=Value.ref a:=rx
 exact zL hu I3 g ry rv λs4 I4=>⟨σ,H4,I4,q3⟩
end
def CW{P:Program}{w:World}{H:Hp}(h:Heap)(hb:sysModules<h.objs.size):ń P w H (h.push {cls:=.type "dict",data:=.dict #[]}) h.objs.size (.dK []):=
 ⟨Nat.zero_le _,beq_eq_false_iff_ne.mpr (Ne.symm (Nat.ne_of_lt hb)),[],.nil,Heap.DictOf.new h⟩
def CZ{P:Program}{w:World}{H:Hp}(h:Heap)(hb:sysModules<h.objs.size):ń P w H (h.push {cls:=.type "dict",data:=.dict #[]}) h.objs.size (.dT []):=
 ⟨Nat.zero_le _,beq_eq_false_iff_ne.mpr (Ne.symm (Nat.ne_of_lt hb)),[],.nil,_,#[],0,Heap.get?_push_size _ rfl,⟨rfl,rfl,rfl⟩,rfl,rfl,List.nodup_nil⟩
def Ri:TE:=λ_ H Q=>∀p,H p=none->Q (.ref p) (upd H p (.dK []))
def Rj:TE:=λ_ H Q=>∀p,H p=none->Q (.ref p) (upd H p (.dT []))
section
variable{X:Cx}{pos:Pos}
def C_:PE X (.Dict [] [] pos) Ri:=λpins s σ H Q I h=>
 wpAny_Dict_empty ⟨.ref s.heap.objs.size,_,I.laid (a:=s.heap.objs.size) (o:=.dK []) (t':=s.toks) (λ_ _ q=>Heap.get?_push_of_some _ q) (Nat.le_refl _) (CW s.heap I.big),rfl,h _ (I.hok.fresh (Nat.le_refl _))⟩
def Dc:PE X (.Dict [] [] pos) Rj:=λpins s σ H Q I h=>
 wpAny_Dict_empty ⟨.ref s.heap.objs.size,_,I.laid (a:=s.heap.objs.size) (o:=.dT []) (t':=s.toks) (λ_ _ q=>Heap.get?_push_of_some _ q) (Nat.le_refl _) (CZ s.heap I.big),rfl,h _ (I.hok.fresh (Nat.le_refl _))⟩
end
structure M2(X:Cx)(o:Expr)(m:Str)(apos:Pos)(e f:Expr)(cpos:Pos):Prop where
 base:attributeBase o m X.env (eval o X.env)=eval o X.env
 few:((backTo cpos (starEach [e,f] X.env)).all (λx=>!x.1) && (backToKw cpos (keywordEach [] X.env)).all (λx=>x.1.isSome)
  && decide (([e,f]:List Expr).length+([]:List Keyword).length+(if([]:List Keyword).isEmpty then 0 else 1)<30))=true
 line:(apos.endLine== cpos.line)=true
 trees:backTo cpos (starEach [e,f] X.env)=[(false,eval e X.env),(false,eval f X.env)]
def IsD(H:Hp)(a:Addr):Prop:=(∃kvs,Rd H a (.dK kvs))\/∃kvs,Rd H a (.dT kvs)
def Rk{X:Cx}{pins:List (Addr×Obj)}{σ:St}{H:Hp}{s:Shared}{a:Addr}(I:Inv X pins σ H s)(d:IsD H a) :
 s.TypeIs (.ref a) "dict" /\(∀b,Value.ref a=.ref b->∃ob,s.heap.get? b=some ob/\ob.dict=none)/\(a== sysModules)=false:=by
 rcases d with⟨kvs,e⟩|⟨kvs,e⟩
 ·obtain⟨_,hd,vs,_,dd⟩:=CT I.hok e
  refine⟨dd.typeIs,λb q=>?_,hd⟩
  cases q
  obtain⟨ob,_,_,h1,h2,_⟩:=dd
  exact⟨ob,h1,h2.2.1⟩
 ·obtain⟨_,hd,xs,_,dd⟩:=CV I.hok e
  refine⟨dd.typeIs,λb q=>?_,hd⟩
  cases q
  obtain⟨ob,_,_,h1,h2,_⟩:=dd
  exact⟨ob,h1,h2.2.1⟩
section
variable{X:Cx}{pins:List (Addr×Obj)}{σ:St}{H:Hp}{s:Shared}{a:Addr}{y d:V}{u r:Value}{o:Option V}{A:Around}{E:Value->Shared->Prop}
end
section
variable{X:Cx}{o e f:Expr}{apos cpos:Pos}{td ty tx:TE}
end
section
variable{X:Cx}{pins:List (Addr×Obj)}{σ:St}{H:Hp}{s:Shared}{a:Addr}{kvs:List (Key×V)}{A:Around}{E:Value->Shared->Prop}
end
section
variable{X:Cx}{pins:List (Addr×Obj)}{σ:St}{H:Hp}{s:Shared}{a:Addr}{y:V}{u:Value}{A:Around}{E:Value->Shared->Prop}
end
end L2
namespace YL
open PySem PySem.W PySem.Calls PyProof.Rows
section
variable{prog:Program}{w:World}{A:Around}{E:Value->Shared->Prop}{s:Shared}{K:Frag}
end
end YL
namespace L2
open PySem PySem.Spec PyProof.Rows
end L2
namespace L2
open PySem PySem.Spec PyProof.Rows
end L2
namespace L2
open PySem PySem.Spec PyProof.Rows
section
variable{P:Program}{w:World}{K:PySem.W.Frag}{mg:Str->Option Value}{base:Heap}
end
section
variable{X:Cx}
end
section
variable{κ:Type}[DecidableEq κ]
end
end L2
namespace P
open PySem PySem.Spec PyProof.Rows L2 M2 M3 M4
def oO:List PV->Option (List Int)
 | []=>some []
 | .int i::ps=>(oO ps).map (i:: ·)
 |_::_=>none
def nC(t:Bool):PV->Option DK
 | .int i=>if t then none else some (.inl i)
 | .tup ps=>if t then(oO ps).map .inr else none
 |_=>none
def dval(kvs:List (DK×PV))(k:DK):Option PV:=(kvs.find? λkv=>decide (kv.1=k)).map (·.2)
def dput(kvs:List (DK×PV))(k:DK)(v:PV):List (DK×PV):=
 if(kvs.any λkv=>decide (kv.1=k))=true then kvs.map λkv=>if kv.1=k then(kv.1,v) else kv else kvs ++ [(k,v)]
section
variable{K:KK}{F:Hp}{α κ:Type}[DecidableEq κ]{c:α->DK}{kf:α->κ}(hc:∀{x y},c x=c y->x=y)(hk:∀{x y},kf x=kf y->x=y)
abbrev DG(K:KK)(F:Hp)(c:α->DK)(kf:α->κ):DK×PV->κ×V->Prop:=λp q=>(∃i,p.1=c i/\q.1=kf i)/\Rep K F p.2 q.2
include hc hk in
def lq{p:DK×PV}{q:κ×V}(h:DG K F c kf p q)(i:α):(p.1=c i)↔(q.1=kf i):=by
 obtain⟨⟨j,h1,h2⟩,_⟩:=h
 rw[h1,h2]
 exact⟨λe=>by rw[hc e],λe=>by rw[hk e]⟩
include hc hk in
theorem vG(i:α):∀{kvs:List (DK×PV)} {ks:List (κ×V)},Paired (DG K F c kf) kvs ks->(dval kvs (c i)=none/\bI ks (kf i)=none)\/∃p v,dval kvs (c i)=some p/\bI ks (kf i)=some v/\Rep K F p v
 |_,_,.nil=>.inl ⟨rfl,rfl⟩
 |p::kvs,q::ks,.cons r t=>by
  by_cases e:p.1=c i
  ·refine .inr ⟨p.2,q.2,?_,kZ ((lq hc hk r i).mp e),r.2⟩
   simp[dval,List.find?_cons,e]
  ·have e2:=λz=>e ((lq hc hk r i).mpr z)
   have h1:dval (p::kvs) (c i)=dval kvs (c i):=by simp[dval,List.find?_cons,e]
   rw[h1,k_ e2]
   exact vG i t
include hc hk in
theorem Dd(i:α):∀{kvs:List (DK×PV)} {ks:List (κ×V)},Paired (DG K F c kf) kvs ks->(kvs.any λkv=>decide (kv.1=c i))=ks.any λkv=>decide (kv.1=kf i)
 |_,_,.nil=>rfl
 |p::kvs,q::ks,.cons r t=>by
  rw[List.any_cons,List.any_cons,Dd i t]
  congr 1
  exact decide_eq_decide.mpr (lq hc hk r i)
theorem xK{α β:Type}{G:α->β->Prop}{x:α}{y:β}(h:G x y):∀{l:List α} {m:List β},Paired G l m->Paired G (l ++ [x]) (m ++ [y])
 |_,_,.nil=>.cons h .nil
 |_,_,.cons r t=>.cons r (xK h t)
include hc hk in
theorem Dg(i:α){p:PV}{v:V}(hr:Rep K F p v):∀{kvs:List (DK×PV)} {ks:List (κ×V)},Paired (DG K F c kf) kvs ks->Paired (DG K F c kf) (kvs.map λkv=>if kv.1=c i then(kv.1,p) else kv) (ks.map λkv=>if kv.1=kf i then(kv.1,v) else kv)
 |_,_,.nil=>.nil
 |a::kvs,b::ks,.cons r t=>by
  refine .cons ?_ (Dg i hr t)
  dsimp only
  by_cases e:a.1=c i
  ·rw[if_pos e,if_pos ((lq hc hk r i).mp e)]
   exact⟨r.1,hr⟩
  ·rw[if_neg e,if_neg λz=>e ((lq hc hk r i).mpr z)]
   exact r
include hc hk in
def vH(i:α){p:PV}{v:V}(hr:Rep K F p v){kvs:List (DK×PV)}{ks:List (κ×V)}(h:Paired (DG K F c kf) kvs ks):Paired (DG K F c kf) (dput kvs (c i) p) (putK ks (kf i) v):=by
 unfold dput putK
 rw[Dd hc hk i h]
 split
 ·exact Dg hc hk i hr h
 ·exact xK ⟨⟨i,rfl,rfl⟩,hr⟩ h
end
def jH{β γ:Type}{x y:β}(h:(Sum.inl x:Sum β γ)=.inl y):x=y:=by injection h
def vI{K:KK}{F:Hp}{kvs:List (DK×PV)}{u:HO}(h:pN K F false kvs u):∃ks:List (Key×V),u=.dK ks/\Paired (DG K F (Sum.inl:Int->DK) (Sum.inl:Int->Key)) kvs ks:=by
 rcases h with⟨_,ks,h1,h2⟩|⟨h0,_⟩
 ·exact⟨ks,h1,h2⟩
 ·cases h0
def xM{K:KK}{F:Hp}{kvs:List (DK×PV)}{ks:List (Key×V)}(h:Paired (DG K F (Sum.inl:Int->DK) (Sum.inl:Int->Key)) kvs ks):pN K F false kvs (.dK ks):=.inl ⟨rfl,ks,rfl,h⟩
section
variable{X:Cx}{cm:String->Addr}{E:L2.St->XK}{e o:Expr}{pos:Pos}{ma mk mv:M PV}
def Uj(ρ:ĸ)(i:Nat):Option (List (DK×PV)):=match ρ[i]? with
 |some (.od false kvs)=>some kvs
 |some (.bd false kvs)=>some kvs
 |_=>none
def Rm{c:Ctx}{F H:Hp}{σ:L2.St}{ρ:ĸ}{i:Nat}{kvs:List (DK×PV)}{K:KK}(rel:Rel K c F H σ ρ)(h:Uj ρ i=some kvs):∃a ks,σ[i]?=some (some (.ref a))/\Rd H a (.dK ks)/\Paired (DG K F (Sum.inl:Int->DK) (Sum.inl:Int->Key)) kvs ks:=by
 unfold Uj at h
 split at h
 ·rename_i kvs' e
  cases h
  obtain⟨a,u,h1,h2,h3,h4,h5⟩:=rel.slot i _ e
  obtain⟨ks,rfl,h6⟩:=vI h5
  exact⟨a,ks,at_of h1,.inl h2,h6⟩
 ·rename_i kvs' e
  cases h
  obtain⟨a,u,h1,h2,h3⟩:=rel.slot i _ e
  obtain⟨ks,rfl,h6⟩:=vI h3
  exact⟨a,ks,at_of h1,h2.elim (λh2=>.inl (rel.lent a _ h2).1) λ⟨ob,e⟩=>.inr ⟨ob,rel.sub _ _ e⟩,h6⟩
 ·cases h
def Dh(i:Nat):M Fl:=λρ=>.ok .nx (ρ.set i (.od false []))
def Rn{i:Nat}{x:Str}{pos' p0:Pos}(hN:X.N.Nodup)(hi:X.N[i]?=some x)(hx:Loc X.env.scope x)(hs:swapsWith (.Dict [] [] p0) (some (.Name x pos')) pos.line X.env=pure false:=by rfl)(hf:X.fn x=true\/X.env.scope.names.lookup x=some .local:=by first|exact .inl rfl|exact .inr rfl|assumption) :
 PS X (.Assign [.Name x pos'] (.Dict [] [] p0) pos) (tS (kk X cm) E (Dh i)):=PS.wk (pD hN hi hx C_ hs hf) λD σ H ⟨c,F,ρ,rel,h⟩ p hp=>by
 have Ċ:=rel.made (o:=.dK []) hp
 exact h _ F _ (Ċ.zy (s:=.od false []) ⟨p,.dK [],rfl,ē,rel.sub.free hp,rel.base.free hp,xM .nil⟩ λ_ z=>V.ref.inj z▸rel.fresh hp) (Same.refl _)
def Di(i:Nat)(mk mv:M PV):M Fl:=λρ=>(mv ρ).bind λp ρ1=>match ρ1[i]? with
 |some (.od false _)=>(mk ρ1).bind λk ρ2=>match ρ2[i]?,k with
  |some (.od false kvs),.int j=>if kvs.length<16777216 then .ok .nx (ρ2.set i (.od false (dput kvs (.inl j) p))) else .bad
  |_,_=>.bad
 |_=>.bad
def Ro{i:Nat}{x:Str}{ix:Expr}{px Dj:Pos}(hu:X.A.units+64<cLine)(he:PE X e (tV (kk X cm) E mv))(hi:PE X ix (tV (kk X cm) E mk))(ho:PE X (.Name x px) (pB i))
 (hs:swapsWith e (some (.Subscript (.Name x px) ix Dj)) pos.line X.env=pure false:=by rfl) :
 PS X (.Assign [.Subscript (.Name x px) ix Dj] e pos) (tS (kk X cm) E (Di i mk mv)):=PS.wk (xJ (by omega) ho hi he hs) λD σ H ⟨c,F,ρ,rel,h⟩=>⟨c,F,ρ,rel,Ř.bind h λp ρ1 v F1 H1 Ċ s1 q h1=>by
 cases e1:ρ1[i]? with
 |none=>rw[e1] at h1;exact h1.elim
 |some sl=>
  rw[e1] at h1
  cases sl with
  |od t0 WY=>
   cases t0 with
   |true=>exact h1.elim
   |false=>
    obtain⟨a,u0,z1,_,_,_,_⟩:=Ċ.slot i _ e1
    refine⟨.ref a,at_of z1,c,F1,ρ1,Ċ,Ř.bind h1 λq' ρ2 y F2 H2 Ĩ s2 r2 h2=>?_⟩
    cases e2:ρ2[i]? with
    |none=>rw[e2] at h2;exact h2.elim
    |some sl2=>
     rw[e2] at h2
     cases sl2 with
     |od t kvs=>
      cases t with
      |true=>exact h2.elim
      |false=>
       cases q' with
       |int j=>
        have ey:y=.int j:=by have:Rep (kk X cm) F2 (.int j) y:=r2;unfold Rep at this;exact this
        subst ey
        dsimp only at h2
        obtain⟨a2,u,w1,w2,w3,w4,w5⟩:=Ĩ.slot i _ e2
        obtain⟨ks,rfl,w6⟩:=vI w5
        have e3:=at_of z1
        rw[at_of w1] at e3
        have e3':a2=a:=by injection e3 with e3;injection e3 with e3;injection e3
        subst e3'
        split at h2
        ·rename_i hz
         have hl:ks.length<sizeLine:=by rw[<-Paired.length w6,ğ];exact hz
         refine⟨a2,_,rfl,sO.k (k:=.inl j) w2 hl,h2 σ F2 _ (Ĩ.pP ⟨_,_,e2,at_of w1,rfl⟩ ⟨a2,_,w1,ē,w3,w4,xM (vH jH jH j (Rep.same s2 p v q) w6)⟩ λx' b ex z=>?_) (Same.refl _)⟩
         rw[at_of w1] at ex
         cases ex
         have:a2=b:=V.ref.inj z
         subst this
         exact⟨_,_,e2,at_of w1,rfl⟩
        ·exact h2.elim
       |_=>exact h2.elim
     |_=>exact h2.elim
  |_=>exact h1.elim⟩
@[simp] theorem Zaw{i:Nat}{ρ:ĸ}:Dh i ρ=.ok .nx (ρ.set i (.od false [])):=rfl
@[simp] theorem Zax{i:Nat}{ρ:ĸ}:Di i mk mv ρ=(mv ρ).bind fun p ρ1=>match ρ1[i]? with
  |some (.od false _)=>(mk ρ1).bind λk ρ2=>match ρ2[i]?,k with
   |some (.od false kvs),.int j=>if kvs.length<16777216 then .ok .nx (ρ2.set i (.od false (dput kvs (.inl j) p))) else .bad
   |_,_=>.bad
  |_=>.bad:=rfl
end
end P
namespace P
open PySem PySem.Spec PyProof.Rows L2 M2 M3 M4
section
variable{X:Cx}{cm:String->Addr}{E:L2.St->XK}{e:Expr}{pos:Pos}
end
end P
namespace P
open PySem PySem.Spec PyProof.Rows L2 M2 M3 M4
def insI(n:Int):List Int->List Int
 | []=>[n]
 |m::ms=>if n<=m then n::m::ms else m::insI n ms
def Dk:List Int->List Int
 | []=>[]
 |n::ns=>insI n (Dk ns)
theorem insI_perm(n:Int):∀ms,(insI n ms).Perm (n::ms)
 | []=>.refl _
 |m::ms=>by
  unfold insI
  split
  ·exact .refl _
  ·exact((insI_perm n ms).cons m).trans (.swap n m ms)
theorem g_:∀ns,(Dk ns).Perm ns
 | []=>.refl _
 |n::ns=>(insI_perm n _).trans ((g_ ns).cons n)
theorem iY(n:Int):∀{ms:List Int},ms.Pairwise (·<= ·)->(insI n ms).Pairwise (·<= ·)
 | [],_=>by simp[insI]
 |m::ms,h=>by
  obtain⟨h1,h2⟩:=List.pairwise_cons.mp h
  unfold insI
  split
  ·rename_i hn
   refine List.pairwise_cons.mpr ⟨λx hx=>?_,h⟩
   rcases List.mem_cons.mp hx with rfl|hx
   ·exact hn
   ·exact Int.le_trans hn (h1 x hx)
  ·rename_i hn
   refine List.pairwise_cons.mpr ⟨λx hx=>?_,iY n h2⟩
   rcases List.mem_cons.mp ((insI_perm n ms).mem_iff.mp hx) with rfl|hx
   ·omega
   ·exact h1 x hx
theorem iZ:∀ns,(Dk ns).Pairwise (·<= ·)
 | []=>.nil
 |n::ns=>iY n (iZ ns)
theorem oR:∀{l m:List Int},l.Pairwise (·<= ·)->m.Pairwise (·<= ·)->l.Perm m->l=m
 | [],m,_,_,h=>(List.nil_perm.mp h).symm
 |a::l,[],_,_,h=>by simpa using h.length_eq
 |a::l,b::m,h1,h2,h=>by
  obtain⟨p1,p2⟩:=List.pairwise_cons.mp h1
  obtain⟨q1,q2⟩:=List.pairwise_cons.mp h2
  have ab:a=b:=by
   have m1:a∈b::m:=h.mem_iff.mp List.mem_cons_self
   have m2:b∈a::l:=h.mem_iff.mpr List.mem_cons_self
   rcases List.mem_cons.mp m1 with e|m1
   ·exact e
   ·rcases List.mem_cons.mp m2 with e|m2
    ·exact e.symm
    ·have:=p1 b m2
     have:=q1 a m1
     omega
  subst ab
  rw[oR p2 q2 (h.cons_inv)]
section
variable{X:Cx}{cm:String->Addr}{E:L2.St->XK}{pos:Pos}
end
end P
namespace P
open PySem PySem.Spec PyProof.Rows L2 M2 M3 M4
section
variable{X:Cx}{cm:String->Addr}{E:L2.St->XK}{tg:Expr}{pos:Pos}
end
end P
namespace P
open PySem PySem.Spec PyProof.Rows L2 M2 M3 M4
section
variable{prog:Program}{w:World}{A:Around}{E:Value->Shared->Prop}{s:Shared}
end
end P
namespace P
open PySem PySem.Spec PyProof.Rows L2 M2 M3 M4
section
variable{prog:Program}{w:World}{A:Around}{E:Value->Shared->Prop}{s:Shared}{it a:Addr}{es:Array (Int×Value)}{ep:Nat}{t:SetTable}
end
end P
namespace P
open PySem PySem.Spec PyProof.Rows L2 M2 M3 M4
section
variable{prog:Program}{w:World}{A:Around}{E:Value->Shared->Prop}{s:Shared}{it a:Addr}{es:Array (Int×Value)}{ep:Nat}{t:SetTable}
end
end P
namespace P
open PySem PySem.Spec PyProof.Rows L2 M2 M3 M4
section
variable{prog:Program}{w:World}{A:Around}{E:Value->Shared->Prop}{s:Shared}{it a:Addr}{es:Array (Int×Value)}{ep:Nat}{t:SetTable}
end
end P
namespace P
open PySem PySem.Spec PyProof.Rows L2 M2 M3 M4
section
variable{prog:Program}{w:World}{A:Around}{E:Value->Shared->Prop}{s:Shared}{a:Addr}{es:Array (Int×Value)}{ep:Nat}{t:SetTable}
end
end P
namespace P
open PySem PySem.Spec PyProof.Rows L2 M2 M3 M4
section
variable{prog:Program}{w:World}{A:Around}{E:Value->Shared->Prop}{s:Shared}{a:Addr}{es:Array (Int×Value)}{ep:Nat}{t:SetTable}
end
end P
namespace P
open PySem PySem.Spec PyProof.Rows L2 M2 M3 M4
section
variable{X:Cx}{cm:String->Addr}{E:L2.St->XK}{l:Expr}{p pos p1 pos1:Pos}
end
end P
namespace gF
open PySem PyProof.Rows
abbrev SM:=StateT SortSt Sem
def aA:Bool->Keyed->Array Keyed->Nat->Nat->Nat->SM (Option Nat):=sortPriv% PySem.Builtin.gallop
abbrev GS:=Option (Option Nat)×Nat×Nat
def Ir(f:Nat->SM (Option Bool))(n lo hi:Nat):SM (Option Nat):=
 (forIn [:n] ((none,lo,hi):GS) fun _ q=>if q.2.1 ≥ q.2.2 then pure (ForInStep.done (none,q.2.1,q.2.2)) else f (q.2.1+(q.2.2-q.2.1) / 2) >>= fun r=>match r with
   |some c=>if c=true then pure (.yield (none,q.2.1+(q.2.2-q.2.1) / 2+1,q.2.2)) else pure (.yield (none,q.2.1,q.2.1+(q.2.2-q.2.1) / 2))
   |_=>pure (.done (some none,q.2.1,q.2.2))) >>= λq=>match q.1 with
   |some r=>pure r
   |none=>pure (some q.2.2)
def gR(f:Nat->SM (Option Bool))(n h:Nat):SM GS:=
 forIn [:n] ((none,0,1):GS) λ_ q=>if q.2.2 >= n-h then pure (.done (none,q.2.1,q.2.2)) else f (h+q.2.2) >>= λr=>match r with
  |some c=>if(!c)=true then pure (.done (none,q.2.1,q.2.2)) else pure (.yield (none,q.2.2,2*q.2.2+1))
  |_=>pure (.done (some none,q.2.1,q.2.2))
def gL(f:Nat->SM (Option Bool))(n h:Nat):SM GS:=
 forIn [:n] ((none,0,1):GS) λ_ q=>if q.2.2 >= h+1 then pure (.done (none,q.2.1,q.2.2)) else f (h-q.2.2) >>= λr=>match r with
  |some c=>if c=true then pure (.done (none,q.2.1,q.2.2)) else pure (.yield (none,q.2.2,2*q.2.2+1))
  |_=>pure (.done (some none,q.2.1,q.2.2))
def gal(f:Nat->SM (Option Bool))(n h:Nat):SM (Option Nat):=
 f h >>= fun r=>match r with
   |some c=>if c=true then gR f n h >>= fun q=>(match q.1 with
     |some r=>pure r
     |none=>Ir f n (h+q.2.1+1) (h+min q.2.2 (n-h)))
    else gL f n h >>= λq=>(match q.1 with
     |some r=>pure r
     |none=>Ir f n (h+1-min q.2.2 (h+1)) (h-q.2.1))
   |_=>pure none
def bey(left:Bool)(k:Keyed)(arr:Array Keyed)(base:Nat)(i:Nat):SM (Option Bool):=
 elem' arr (base+i) >>= λx=>if left=true then lt' x k else lt' k x >>= λr=>pure (r.map (!·))
def zM(left:Bool)(k:Keyed)(arr:Array Keyed)(base n h:Nat):aA left k arr base n h=gal (bey left k arr base) n h:=by kernel_rfl
section
variable{M:Model}{A:Around}{E:Value->Shared->Prop}{s:Shared}{st:SortSt}{f:Nat->SM (Option Bool)}{b:Nat->Bool}{n h:Nat}
structure Cut(b:Nat->Bool)(n r:Nat):Prop where
 le:r<=n
 yes:∀i,i<r->b i=true
 no:∀i,r<=i->i<n->b i=false
def xO{lo hi:Nat}{Q:Option Nat->SortSt->Prop}(hf:∀i,i<n->∀Q:Option Bool->SortSt->Prop,Q (some (b i)) st->wpS M A E s (f i) Q st)(mono:∀i j,i<=j->j<n->b j=true->b i=true)
 (h1:lo<=hi)(h2:hi<=n)(h3:∀i,i<lo->b i=true)(h4:∀i,hi<=i->i<n->b i=false)(h:∀r,Cut b n r->Q (some r) st):wpS M A E s (Ir f n lo hi) Q st:=by
 unfold Ir
 refine wpS_bind (wpS_mono (wpS_forRange (I:=λx c st'=>st'=st/\∃lo hi,c=(none,lo,hi)/\lo<=hi/\hi<=n/\hi-lo<=n-x/\(∀i,i<lo->b i=true)/\(∀i,hi<=i->i<n->b i=false)) (Q:=λc st'=>st'=st/\∃r,c=(none,r,r)/\Cut b n r) ?step ?fin ⟨rfl,lo,hi,rfl,h1,h2,by omega,h3,h4⟩) ?post)
 case fin=>
  rintro c st' ⟨rfl,lo,hi,rfl,a1,a2,a3,a4,a5⟩
  have e:lo=hi:=by omega
  subst e
  exact⟨rfl,lo,rfl,a2,a4,a5⟩
 case step=>
  rintro x c st' _ hx ⟨rfl,lo,hi,rfl,a1,a2,a3,a4,a5⟩
  dsimp only
  by_cases hl:lo >= hi
  ·rw[if_pos hl]
   have e:lo=hi:=by omega
   subst e
   exact wpS_pure ⟨rfl,lo,rfl,a2,a4,a5⟩
  ·rw[if_neg hl]
   refine wpS_bind (hf _ (by omega) _ ?_)
   dsimp only
   cases hb:b (lo+(hi-lo) / 2) with
   |true=>
    rw[if_pos rfl]
    refine wpS_pure ⟨rfl,_,_,rfl,by omega,a2,by omega,λi hi'=>mono i _ (by omega) (by omega) hb,a5⟩
   |false=>
    rw[if_neg Bool.false_ne_true]
    refine wpS_pure ⟨rfl,_,_,rfl,by omega,by omega,by omega,a4,λi hi' hn=>?_⟩
    cases hc:b i with
    |false=>rfl
    |true=>rw[mono _ i hi' hn hc] at hb;cases hb
 case post=>
  rintro c st' ⟨rfl,r,rfl,hc⟩
  exact wpS_pure (h r hc)
def Rq{Q:Option Nat->SortSt->Prop}(hf:∀i,i<n->∀Q:Option Bool->SortSt->Prop,Q (some (b i)) st->wpS M A E s (f i) Q st)(mono:∀i j,i<=j->j<n->b j=true->b i=true)
 (hn:h<n)(hq:∀r,Cut b n r->Q (some r) st):wpS M A E s (gal f n h) Q st:=by
 have W_:∀i j,i<=j->j<n->b i=false->b j=false:=λi j z1 z2 z3=>by
  cases hc:b j with
  |false=>rfl
  |true=>rw[mono i j z1 z2 hc] at z3;cases z3
 unfold gal
 refine wpS_bind (hf h hn _ ?_)
 dsimp only
 cases hb:b h with
 |true=>
  rw[if_pos rfl]
  unfold gR
  refine wpS_bind (wpS_mono (wpS_forRange (I:=λx c st'=>st'=st/\∃lo ofs,c=(none,lo,ofs)/\lo<ofs/\x+1<=ofs/\lo<n-h/\b (h+lo)=true) (Q:=λc st'=>st'=st/\∃lo ofs,c=(none,lo,ofs)/\lo<ofs/\lo<n-h/\b (h+lo)=true/\(ofs<n-h->b (h+ofs)=false)) ?step ?fin ⟨rfl,0,1,rfl,by omega,by omega,by omega,hb⟩) ?post)
  case fin=>
   rintro c st' ⟨rfl,lo,ofs,rfl,a1,a2,a3,a4⟩
   exact⟨rfl,lo,ofs,rfl,a1,a3,a4,λz=>by omega⟩
  case step=>
   rintro x c st' _ hx ⟨rfl,lo,ofs,rfl,a1,a2,a3,a4⟩
   dsimp only
   by_cases hl:ofs >= n-h
   ·rw[if_pos hl]
    exact wpS_pure ⟨rfl,lo,ofs,rfl,a1,a3,a4,λz=>by omega⟩
   ·rw[if_neg hl]
    refine wpS_bind (hf _ (by omega) _ ?_)
    dsimp only
    cases hc:b (h+ofs) with
    |true=>
     rw[if_neg (by simp)]
     exact wpS_pure ⟨rfl,ofs,_,rfl,by omega,by omega,by omega,hc⟩
    |false=>
     rw[if_pos (show(!false)=true from rfl)]
     exact wpS_pure ⟨rfl,lo,ofs,rfl,a1,a3,a4,λ_=>hc⟩
  case post=>
   rintro c st' ⟨rfl,lo,ofs,rfl,a1,a2,a3,a4⟩
   dsimp only
   refine xO hf mono (by omega) (by omega) (λi hi=>mono i _ (by omega) (by omega) a3) (λi hi hin=>?_) hq
   by_cases hz:ofs<n-h
   ·exact W_ _ i (by omega) hin (a4 hz)
   ·omega
 |false=>
  rw[if_neg Bool.false_ne_true]
  unfold gL
  refine wpS_bind (wpS_mono (wpS_forRange (I:=λx c st'=>st'=st/\∃lo ofs,c=(none,lo,ofs)/\lo<ofs/\x+1<=ofs/\lo<=h/\b (h-lo)=false) (Q:=λc st'=>st'=st/\∃lo ofs,c=(none,lo,ofs)/\lo<ofs/\lo<=h/\b (h-lo)=false/\(ofs<=h->b (h-ofs)=true)) ?step ?fin ⟨rfl,0,1,rfl,by omega,by omega,by omega,hb⟩) ?post)
  case fin=>
   rintro c st' ⟨rfl,lo,ofs,rfl,a1,a2,a3,a4⟩
   exact⟨rfl,lo,ofs,rfl,a1,a3,a4,λz=>by omega⟩
  case step=>
   rintro x c st' _ hx ⟨rfl,lo,ofs,rfl,a1,a2,a3,a4⟩
   dsimp only
   by_cases hl:ofs >= h+1
   ·rw[if_pos hl]
    exact wpS_pure ⟨rfl,lo,ofs,rfl,a1,a3,a4,λz=>by omega⟩
   ·rw[if_neg hl]
    refine wpS_bind (hf _ (by omega) _ ?_)
    dsimp only
    cases hc:b (h-ofs) with
    |true=>
     rw[if_pos rfl]
     exact wpS_pure ⟨rfl,lo,ofs,rfl,a1,a3,a4,λ_=>hc⟩
    |false=>
     rw[if_neg Bool.false_ne_true]
     exact wpS_pure ⟨rfl,ofs,_,rfl,by omega,by omega,by omega,hc⟩
  case post=>
   rintro c st' ⟨rfl,lo,ofs,rfl,a1,a2,a3,a4⟩
   dsimp only
   refine xO hf mono (by omega) (by omega) (λi hi=>?_) (λi hi hin=>W_ _ i (by omega) hin a3) hq
   by_cases hz:ofs<=h
   ·exact mono i _ (by omega) (by omega) (a4 hz)
   ·omega
end
end gF
namespace gF
open PySem PyProof.Rows
def cL(k:Keyed->Int)(l:List Keyed):Prop:=l.Pairwise λx y=>k x<=k y
def cL.app{k:Keyed->Int}{l m:List Keyed}(h1:cL k l)(h2:cL k m)(h:∀x∈l,∀y∈m,k x<=k y):cL k (l++m):=List.pairwise_append.mpr ⟨h1,h2,h⟩
structure MI(k:Keyed->Int)(N out ra rb:List Keyed):Prop where
 perm:(out++ra++rb).Perm N
 so:cL k out
 sa:cL k ra
 sb:cL k rb
 oa:∀x∈out,∀y∈ra,k x<=k y
 ob:∀x∈out,∀y∈rb,k x<=k y
section
variable{k:Keyed->Int}{N out ra rb p r:List Keyed}
def MI.sS(h:MI k N out (p++r) rb)(hp:∀x∈p,∀y∈rb,k x<=k y):MI k N (out++p) r rb:=by
 obtain⟨h1,h2,h3⟩:=List.pairwise_append.mp h.sa
 refine⟨?_,h.so.app h1 λx hx y hy=>h.oa x hx y (List.mem_append_left _ hy),h2,h.sb,λx hx y hy=>?_,λx hx y hy=>?_⟩
 ·have:=h.perm
  simpa[List.append_assoc] using this
 ·rcases List.mem_append.mp hx with z|z
  ·exact h.oa x z y (List.mem_append_right _ hy)
  ·exact h3 x z y hy
 ·rcases List.mem_append.mp hx with z|z
  ·exact h.ob x z y hy
  ·exact hp x z y hy
def MI.sU(h:MI k N out ra (p++r))(hp:∀x∈p,∀y∈ra,k x<=k y):MI k N (out++p) ra r:=by
 obtain⟨h1,h2,h3⟩:=List.pairwise_append.mp h.sb
 refine⟨?_,h.so.app h1 λx hx y hy=>h.ob x hx y (List.mem_append_left _ hy),h.sa,h2,λx hx y hy=>?_,λx hx y hy=>?_⟩
 ·refine List.Perm.trans ?_ h.perm
  rw[List.append_assoc,List.append_assoc,List.append_assoc]
  refine List.Perm.append_left _ ?_
  rw[<-List.append_assoc,<-List.append_assoc]
  exact List.perm_append_comm.append_right _
 ·rcases List.mem_append.mp hx with z|z
  ·exact h.oa x z y hy
  ·exact hp x z y hy
 ·rcases List.mem_append.mp hx with z|z
  ·exact h.ob x z y (List.mem_append_right _ hy)
  ·exact h3 x z y hy
def Good(k:Keyed->Int)(N:List Keyed)(l:List Keyed):Prop:=l.Perm N/\cL k l
def MI.Dl(h:MI k N out ra []):Good k N (out++ra ++ []):=⟨h.perm,by rw[List.append_nil];exact h.so.app h.sa h.oa⟩
def MI.Dp(h:MI k N out [] rb):Good k N (out ++ []++rb):=⟨h.perm,by rw[List.append_nil];exact h.so.app h.sb h.ob⟩
def MI.Xa(h:MI k N out ra rb)(hl:∀y∈rb,∀x∈ra,k y<=k x):Good k N (out++rb++ra):=by
 refine⟨List.Perm.trans ?_ h.perm,(h.so.app h.sb h.ob).app h.sa λx hx y hy=>?_⟩
 ·rw[List.append_assoc,List.append_assoc]
  exact List.Perm.append_left _ List.perm_append_comm
 ·rcases List.mem_append.mp hx with z|z
  ·exact h.oa x z y hy
  ·exact hl x z y hy
end
def dw{a:Array Keyed}{i:Nat}(h:i<a.size):a.toList.drop i=a[i]::a.toList.drop (i+1):=by
 rw[List.drop_eq_getElem_cons (by simpa using h)]
 simp
def ź(a:Array Keyed)(i j:Nat):(a.extract i j).toList=(a.toList.drop i).take (j-i):=by
 rw[Array.toList_extract]
 first|done|simp[List.extract_eq_take_drop]
def jJ(a:Array Keyed)(i:Nat):(a.extract i a.size).toList=a.toList.drop i:=by
 rw[ź,List.take_of_length_le (by simp)]
def lu(l:List Keyed)(i m:Nat):l.drop i=(l.drop i).take m++l.drop (i+m):=by
 conv=>lhs;rw[<-List.take_append_drop m (l.drop i)]
 rw[List.drop_drop]
section
variable{prog:Program}{w:World}{A:Around}{E:Value->Shared->Prop}{s:Shared}{st:SortSt}{κ:SortKind}{k:Keyed->Int}{D:Keyed->Prop}
def h_(prog:Program)(w:World)(A:Around)(s:Shared)(κ:SortKind)(k:Keyed->Int)(D:Keyed->Prop):Prop:=
 ∀x y,D x->D y->∀(Q:Bool->Shared->Prop) (E:Value->Shared->Prop),Q (decide (k x<k y)) s->wpAny (model prog w) A (keyLt' κ x.1 y.1) Q E s
def w_lt(hc:h_ prog w A s κ k D)(hk:kindOf st=κ){x y:Keyed}(hx:D x)(hy:D y){Q:Option Bool->SortSt->Prop}(h:Q (some (decide (k x<k y))) st):wpS (model prog w) A E s (lt' x y) Q st:=by
 rw[lt'_eq]
 refine wpS_bind (wpS_get ?_)
 rw[hk]
 refine wpS_bind (wpS_lift (wpAny_attempt (hc x y hx hy _ _ ⟨rfl,?_⟩)))
 exact wpS_pure h
def Ĺ{arr:Array Keyed}{i:Nat}(hi:i<arr.size){Q:Keyed->SortSt->Prop}(h:Q arr[i] st):wpS (model prog w) A E s (elem' arr i) Q st:=by
 rw[elem'_eq,Array.getElem?_eq_getElem hi]
 exact wpS_pure h
def oU(hc:h_ prog w A s κ k D)(hk:kindOf st=κ){left:Bool}{y:Keyed}{arr:Array Keyed}{base n h:Nat}{Q:Option Nat->SortSt->Prop}(hy:D y)(ha:∀x∈arr.toList,D x)(hz:base+n<=arr.size)(hn:h<n)(hs:cL k ((arr.toList.drop base).take n))
 (hq:∀r,r<=n->(∀x∈(arr.toList.drop base).take r,if left=true then k x<k y else k x<=k y)->(∀x∈((arr.toList.drop base).take n).drop r,if left=true then k y<=k x else k y<k x)->Q (some r) st):wpS (model prog w) A E s (aA left y arr base n h) Q st:=by
 rw[zM]
 have at_:∀i (hi:i<n),((arr.toList.drop base).take n)[i]?=some (arr[base+i]'(by omega)):=λi hi=>by
  rw[List.getElem?_take_of_lt hi,List.getElem?_drop,Array.getElem?_toList,Array.getElem?_eq_getElem (by omega)]
 let b:Nat->Bool:=λi=>match arr[base+i]? with
  |some x=>if left=true then decide (k x<k y) else !decide (k y<k x)
  |none=>false
 have bi:∀i (hi:i<n),b i=if left=true then decide (k (arr[base+i]'(by omega))<k y) else !decide (k y<k (arr[base+i]'(by omega))):=λi hi=>by
  show(match arr[base+i]? with|some x=>if left=true then decide (k x<k y) else !decide (k y<k x)|none=>false)=_
  rw[Array.getElem?_eq_getElem (by omega)]
 have le:∀i j (hij:i<=j) (hj:j<n),k (arr[base+i]'(by omega))<=k (arr[base+j]'(by omega)):=λi j hij hj=>by
  by_cases e:i=j
  ·subst e;exact Int.le_refl _
  ·obtain⟨i1,i2⟩:=List.getElem?_eq_some_iff.mp (at_ i (by omega))
   obtain⟨j1,j2⟩:=List.getElem?_eq_some_iff.mp (at_ j hj)
   have:=List.pairwise_iff_getElem.mp hs i j i1 j1 (by omega)
   rw[i2,j2] at this
   exact this
 refine Rq (b:=b) (λi hi Q' h'=>?_) (λi j hij hj hb=>?_) hn (λr hr=>?_)
 ·unfold bey
  rw[bi i hi] at h'
  have hD:D (arr[base+i]'(by omega)):=ha _ (by simp)
  refine wpS_bind (Ĺ (by omega) ?_)
  cases left with
  |true=>rw[if_pos rfl] at h' ⊢;exact w_lt hc hk hD hy h'
  |false=>rw[if_neg Bool.false_ne_true] at h' ⊢;exact wpS_bind (w_lt hc hk hy hD (wpS_pure h'))
 ·rw[bi j hj] at hb
  rw[bi i (by omega)]
  have:=le i j hij hj
  cases left with
  |true=>simp at hb ⊢;omega
  |false=>simp at hb ⊢;omega
 ·refine hq r hr.le (λx hx=>?_) (λx hx=>?_)
  ·obtain⟨i,hi⟩:=List.getElem?_of_mem hx
   have hir:i<r:=by have:=(List.getElem?_eq_some_iff.mp hi).1;simp at this;omega
   have hin:i<n:=by have:=hr.le;omega
   rw[List.getElem?_take_of_lt hir,<-List.getElem?_take_of_lt hin,at_ i hin] at hi
   cases hi
   have:=hr.yes i hir
   rw[bi i hin] at this
   cases left with
   |true=>simpa using this
   |false=>simp at this ⊢;omega
  ·obtain⟨i,hi⟩:=List.getElem?_of_mem hx
   rw[List.getElem?_drop] at hi
   have hin:r+i<n:=by have:=(List.getElem?_eq_some_iff.mp hi).1;simp at this;omega
   rw[at_ _ hin] at hi
   cases hi
   have:=hr.no (r+i) (by omega) hin
   rw[bi _ hin] at this
   cases left with
   |true=>simp at this ⊢;omega
   |false=>simp at this ⊢;omega
end
end gF
namespace gF
open PySem PyProof.Rows
def lC:Array Keyed->Array Keyed->SM (Array Keyed):=sortPriv% PySem.Builtin.mergeLo
def oV:Nat->SM Unit:=sortPriv% PySem.Builtin.setMinGallop
abbrev OA:=Option (Array Keyed)
abbrev S1:=OA×Array Keyed×Nat×Nat×Nat×Nat
abbrev S2:=OA×Array Keyed×Nat×Nat×Nat×Nat×Nat
abbrev S3:=OA×Array Keyed×Nat×Nat×Nat
section
variable(a b:Array Keyed)
def dn(o:Array Keyed)(i j:Nat):Array Keyed:=o++a.extract i a.size++b.extract j b.size
def la(o:Array Keyed)(i j:Nat):Array Keyed:=o++b.extract j b.size++a.extract i a.size
def lo1(g:Nat)(q:S1):SM (ForInStep S1):=
 elem' b q.2.2.2.1 >>= λy=>elem' a q.2.2.1 >>= λx=>lt' y x >>= λr=>match r with
  |some c=>if c=true then elem' b q.2.2.2.1 >>= fun y=>
    (if(q.2.2.2.1+1== b.size)=true then pure (.done (some (dn a b (q.2.1.push y) q.2.2.1 (q.2.2.2.1+1)),q.2.1.push y,q.2.2.1,q.2.2.2.1+1,0,q.2.2.2.2.2+1))
     else if q.2.2.2.2.2+1 >= g then pure (.done (none,q.2.1.push y,q.2.2.1,q.2.2.2.1+1,0,q.2.2.2.2.2+1)) else pure (.yield (none,q.2.1.push y,q.2.2.1,q.2.2.2.1+1,0,q.2.2.2.2.2+1)))
   else elem' a q.2.2.1 >>= λx=>
    (if(q.2.2.1+1+1== a.size)=true then pure (.done (some (la a b (q.2.1.push x) (q.2.2.1+1) q.2.2.2.1),q.2.1.push x,q.2.2.1+1,q.2.2.2.1,q.2.2.2.2.1+1,0))
     else if q.2.2.2.2.1+1 >= g then pure (.done (none,q.2.1.push x,q.2.2.1+1,q.2.2.2.1,q.2.2.2.2.1+1,0)) else pure (.yield (none,q.2.1.push x,q.2.2.1+1,q.2.2.2.1,q.2.2.2.2.1+1,0)))
  |_=>pure (.done (some (dn a b q.2.1 q.2.2.1 q.2.2.2.1),q.2.1,q.2.2.1,q.2.2.2.1,q.2.2.2.2.1,q.2.2.2.2.2))
def loC(g na nb:Nat)(i:Nat)(o:Array Keyed)(j:Nat):SM (ForInStep S2):=
 elem' a i >>= λx=>if(i+1+1== a.size)=true then pure (.done (some (la a b (o.push x) (i+1) j),o.push x,i+1,j,g,na,nb))
  else if(decide (na<7) && decide (nb<7))=true then pure (.done (none,o.push x,i+1,j,g,na,nb)) else pure (.yield (none,o.push x,i+1,j,g,na,nb))
def loB(g na nb0:Nat)(j:Nat)(o:Array Keyed)(i:Nat):SM (ForInStep S2):=
 elem' b j >>= λy=>if(j+1== b.size)=true then pure (.done (some (dn a b (o.push y) i (j+1)),o.push y,i,j+1,g,na,nb0))
  else elem' a i >>= λx=>aA true x b (j+1) (b.size-(j+1)) 0 >>= λr=>match r with
   |some m=>if m>0 then(if(j+1+m== b.size)=true then pure (.done (some (dn a b (o.push y++b.extract (j+1) (j+1+m)) i (j+1+m)),o.push y++b.extract (j+1) (j+1+m),i,j+1+m,g,na,m)) else loC a b g na m i (o.push y++b.extract (j+1) (j+1+m)) (j+1+m))
    else loC a b g na m i (o.push y) (j+1)
   |_=>pure (.done (some (dn a b (o.push y) i (j+1)),o.push y,i,j+1,g,na,nb0))
def Uk(q:S2)(g:Nat):SM (ForInStep S2):=
 oV g >>= λ_=>elem' b q.2.2.2.1 >>= λy=>aA false y a q.2.2.1 (a.size-q.2.2.1) 0 >>= λr=>match r with
  |some m=>if m>0 then(if(q.2.2.1+m+1== a.size)=true then pure (.done (some (la a b (q.2.1++a.extract q.2.2.1 (q.2.2.1+m)) (q.2.2.1+m) q.2.2.2.1),q.2.1++a.extract q.2.2.1 (q.2.2.1+m),q.2.2.1+m,q.2.2.2.1,g,m,q.2.2.2.2.2.2))
    else if(q.2.2.1+m== a.size)=true then pure (.done (some (dn a b (q.2.1++a.extract q.2.2.1 (q.2.2.1+m)) (q.2.2.1+m) q.2.2.2.1),q.2.1++a.extract q.2.2.1 (q.2.2.1+m),q.2.2.1+m,q.2.2.2.1,g,m,q.2.2.2.2.2.2))
    else loB a b g m q.2.2.2.2.2.2 q.2.2.2.1 (q.2.1++a.extract q.2.2.1 (q.2.2.1+m)) (q.2.2.1+m))
   else loB a b g m q.2.2.2.2.2.2 q.2.2.2.1 q.2.1 q.2.2.1
  |_=>pure (.done (some (dn a b q.2.1 q.2.2.1 q.2.2.2.1),q.2.1,q.2.2.1,q.2.2.2.1,g,q.2.2.2.2.2.1,q.2.2.2.2.2.2))
def lo2(q:S2):SM (ForInStep S2):=if q.2.2.2.2.1>1 then Uk a b q (q.2.2.2.2.1-1) else Uk a b q q.2.2.2.2.1
def lo3(q:S3):SM (ForInStep S3):=
 (forIn [:a.size+b.size] ((none,q.2.1,q.2.2.1,q.2.2.2.1,0,0):S1) fun _ p=>lo1 a b q.2.2.2.2 p) >>= fun p=>match p.1 with
   |some r=>pure (.done (some r,p.2.1,p.2.2.1,p.2.2.2.1,q.2.2.2.2))
   |none=>liftM (rule "list.sort.gallop") >>= λ_=>(forIn [:a.size+b.size] ((none,p.2.1,p.2.2.1,p.2.2.2.1,q.2.2.2.2+1,p.2.2.2.2.1,p.2.2.2.2.2):S2) λ_ z=>lo2 a b z) >>= λz=>match z.1 with
    |some r=>pure (.done (some r,z.2.1,z.2.2.1,z.2.2.2.1,z.2.2.2.2.1))
    |none=>oV (z.2.2.2.2.1+1) >>= λ_=>pure (.yield (none,z.2.1,z.2.2.1,z.2.2.2.1,z.2.2.2.2.1+1))
def mlo:SM (Array Keyed):=
 liftM (rule "list.sort.merge-lo") >>= λ_=>elem' b 0 >>= λy=>if(1== b.size)=true then pure (dn a b #[y] 0 1) else if(0+1== a.size)=true then pure (la a b #[y] 0 1)
  else get >>= λst=>(forIn [:a.size+b.size] ((none,#[y],0,1,gallopOf st):S3) λ_ q=>lo3 a b q) >>= λq=>match q.1 with
   |some r=>pure r
   |none=>liftM (unsupported "internal:list.sort.merge-bound")
end
def Rr(a b:Array Keyed):lC a b=mlo a b:=by kernel_rfl
end gF
namespace gF
open PySem PyProof.Rows
def Iu(g:Nat):oV g=modify λs=>SortSt.mk' (kindOf s) (arrOf s) (pendingOf s) g (failedOf s):=by kernel_rfl
structure Sv(st st':SortSt):Prop where
 kind:kindOf st'=kindOf st
 arr:arrOf st'=arrOf st
 pend:pendingOf st'=pendingOf st
 fail:failedOf st'=failedOf st
def Sv.refl(st:SortSt):Sv st st:=⟨rfl,rfl,rfl,rfl⟩
theorem Sv.trans{a b c:SortSt}(h:Sv a b)(g:Sv b c):Sv a c:=⟨g.kind.trans h.kind,g.arr.trans h.arr,g.pend.trans h.pend,g.fail.trans h.fail⟩
section
variable{prog:Program}{w:World}{A:Around}{E:Value->Shared->Prop}{s:Shared}{st:SortSt}{κ:SortKind}{k:Keyed->Int}{D:Keyed->Prop}{a b o:Array Keyed}{N:List Keyed}{i j g m na nb:Nat}
def qg{Q:Unit->SortSt->Prop}(h:∀st',Sv st st'->Q () st'):wpS (model prog w) A E s (oV g) Q st:=by
 rw[Iu]
 exact wpS_modify (h _ ⟨rfl,rfl,rfl,rfl⟩)
def ig{x:String}{Q:PUnit->SortSt->Prop}(h:Q ⟨⟩ st):wpS (model prog w) A E s (liftM (rule x):SM PUnit) Q st:=wpS_lift (wpAny_rule ⟨rfl,h⟩)
structure qQ(k:Keyed->Int)(N:List Keyed)(a b o:Array Keyed)(i j:Nat):Prop where
 ia:i+1<a.size
 jb:j<b.size
 mi:MI k N o.toList (a.toList.drop i) (b.toList.drop j)
def Km(a b o:Array Keyed)(i j:Nat):(dn a b o i j).toList=o.toList++a.toList.drop i++b.toList.drop j:=by
 unfold dn
 rw[Array.toList_append,Array.toList_append,jJ,jJ]
def Xb(a b o:Array Keyed)(i j:Nat):(la a b o i j).toList=o.toList++b.toList.drop j++a.toList.drop i:=by
 unfold la
 rw[Array.toList_append,Array.toList_append,jJ,jJ]
def Iv(h:MI k N o.toList (a.toList.drop i) (b.toList.drop j))(hj:j=b.size):Good k N (dn a b o i j).toList:=by
 have e:b.toList.drop j=[]:=List.drop_eq_nil_of_le (by simp[hj])
 rw[Km,e]
 rw[e] at h
 exact h.Dl
def Zcc(h:MI k N o.toList (a.toList.drop i) (b.toList.drop j))(hi:i=a.size):Good k N (dn a b o i j).toList:=by
 have e:a.toList.drop i=[]:=List.drop_eq_nil_of_le (by simp[hi])
 rw[Km,e]
 rw[e] at h
 exact h.Dp
def Iw(hL:∀y∈b.toList,∀x∈a.toList.drop (a.size-1),k y<=k x)(h:MI k N o.toList (a.toList.drop i) (b.toList.drop j))(hi:i+1=a.size):Good k N (la a b o i j).toList:=by
 rw[Xb]
 refine h.Xa λy hy x hx=>hL y (List.mem_of_mem_drop hy) x ?_
 have:i=a.size-1:=by omega
 rw[<-this]
 exact hx
def Ko(h:MI k N o.toList (a.toList.drop i) (b.toList.drop j))(hi:i<a.size)(hle:∀y∈b.toList.drop j,k a[i]<=k y):MI k N (o.push a[i]).toList (a.toList.drop (i+1)) (b.toList.drop j):=by
 rw[Array.toList_push]
 rw[dw hi] at h
 exact MI.sS (p:=[a[i]]) h λx hx y hy=>by rw[List.mem_singleton.mp hx];exact hle y hy
def Dq(h:MI k N o.toList (a.toList.drop i) (b.toList.drop j))(hj:j<b.size)(hle:∀x∈a.toList.drop i,k b[j]<=k x):MI k N (o.push b[j]).toList (a.toList.drop i) (b.toList.drop (j+1)):=by
 rw[Array.toList_push]
 rw[dw hj] at h
 exact MI.sU (p:=[b[j]]) h λx hx y hy=>by rw[List.mem_singleton.mp hx];exact hle y hy
def Kp(h:MI k N o.toList (a.toList.drop i) (b.toList.drop j))(hj:j<b.size):∀y∈b.toList.drop j,k b[j]<=k y:=by
 have:=h.sb
 rw[dw hj] at this ⊢
 intro y hy
 rcases List.mem_cons.mp hy with rfl|hy
 ·exact Int.le_refl _
 ·exact(List.pairwise_cons.mp this).1 y hy
def Kq(h:MI k N o.toList (a.toList.drop i) (b.toList.drop j))(hi:i<a.size):∀x∈a.toList.drop i,k a[i]<=k x:=by
 have:=h.sa
 rw[dw hi] at this ⊢
 intro y hy
 rcases List.mem_cons.mp hy with rfl|hy
 ·exact Int.le_refl _
 ·exact(List.pairwise_cons.mp this).1 y hy
def Rt(hc:h_ prog w A s κ k D)(hk:kindOf st=κ)(ha:∀x∈a.toList,D x)(hb:∀x∈b.toList,D x)(hL:∀y∈b.toList,∀x∈a.toList.drop (a.size-1),k y<=k x)(h:qQ k N a b o i j)(hm:m<=i+j) :
 wpS (model prog w) A E s (lo1 a b g (none,o,i,j,na,nb)) (λr st'=>st'=st/\match r with
  | .done q=>(∃r,q.1=some r/\Good k N r.toList)\/(q.1=none/\qQ k N a b q.2.1 q.2.2.1 q.2.2.2.1/\m<=q.2.2.1+q.2.2.2.1)
  | .yield q=>q.1=none/\qQ k N a b q.2.1 q.2.2.1 q.2.2.2.1/\m<=q.2.2.1+q.2.2.2.1) st:=by
 obtain⟨hi,hj,mi⟩:=h
 have hi':i<a.size:=by omega
 unfold lo1
 dsimp only
 refine wpS_bind (Ĺ hj (wpS_bind (Ĺ hi' (wpS_bind (w_lt hc hk (hb _ (by simp)) (ha _ (by simp)) ?_)))))
 dsimp only
 by_cases hw:k b[j]<k a[i]
 ·rw[decide_eq_true hw,if_pos rfl]
  refine wpS_bind (Ĺ hj ?_)
  have xP:=Dq mi hj λx hx=>Int.le_trans (Int.le_of_lt hw) (Kq mi hi' x hx)
  by_cases he:j+1=b.size
  ·rw[if_pos (by simpa using he)]
   exact wpS_pure ⟨rfl,.inl ⟨_,rfl,Iv xP he⟩⟩
  ·rw[if_neg (by simpa using he)]
   have I2:qQ k N a b (o.push b[j]) i (j+1):=⟨hi,by omega,xP⟩
   split
   ·exact wpS_pure ⟨rfl,.inr ⟨rfl,I2,by dsimp only;omega⟩⟩
   ·exact wpS_pure ⟨rfl,rfl,I2,by dsimp only;omega⟩
 ·rw[decide_eq_false hw,if_neg Bool.false_ne_true]
  refine wpS_bind (Ĺ hi' ?_)
  have xP:=Ko mi hi' λy hy=>Int.le_trans (Int.not_lt.mp hw) (Kp mi hj y hy)
  by_cases he:i+1+1=a.size
  ·rw[if_pos (by simpa using he)]
   exact wpS_pure ⟨rfl,.inl ⟨_,rfl,Iw hL xP he⟩⟩
  ·rw[if_neg (by simpa using he)]
   have I2:qQ k N a b (o.push a[i]) (i+1) j:=⟨by omega,hj,xP⟩
   split
   ·exact wpS_pure ⟨rfl,.inr ⟨rfl,I2,by dsimp only;omega⟩⟩
   ·exact wpS_pure ⟨rfl,rfl,I2,by dsimp only;omega⟩
def G2(k:Keyed->Int)(N:List Keyed)(a b:Array Keyed)(m:Nat)(r:ForInStep S2):Prop:=match r with
 | .done q=>(∃r,q.1=some r/\Good k N r.toList)\/(q.1=none/\qQ k N a b q.2.1 q.2.2.1 q.2.2.2.1/\m<=q.2.2.1+q.2.2.2.1)
 | .yield q=>q.1=none/\qQ k N a b q.2.1 q.2.2.1 q.2.2.2.1/\m<=q.2.2.1+q.2.2.2.1
def Dr(hL:∀y∈b.toList,∀x∈a.toList.drop (a.size-1),k y<=k x)(hi:i+1<a.size)(hj:j<b.size)(mi:MI k N o.toList (a.toList.drop i) (b.toList.drop j))(hx:∀y∈b.toList.drop j,k (a[i]'(by omega))<=k y)(hm:m<=i+1+j) :
 wpS (model prog w) A E s (loC a b g na nb i o j) (λr st'=>st'=st/\G2 k N a b m r) st:=by
 unfold loC
 refine wpS_bind (Ĺ (by omega) ?_)
 have xP:=Ko mi (by omega) hx
 by_cases he:i+1+1=a.size
 ·rw[if_pos (by simpa using he)]
  exact wpS_pure ⟨rfl,.inl ⟨_,rfl,Iw hL xP he⟩⟩
 ·rw[if_neg (by simpa using he)]
  have I2:qQ k N a b (o.push (a[i]'(by omega))) (i+1) j:=⟨by omega,hj,xP⟩
  split
  ·exact wpS_pure ⟨rfl,.inr ⟨rfl,I2,hm⟩⟩
  ·exact wpS_pure ⟨rfl,rfl,I2,hm⟩
def Ds(hc:h_ prog w A s κ k D)(hk:kindOf st=κ)(ha:∀x∈a.toList,D x)(hb:∀x∈b.toList,D x)(hL:∀y∈b.toList,∀x∈a.toList.drop (a.size-1),k y<=k x)(hi:i+1<a.size)(hj:j<b.size)(mi:MI k N o.toList (a.toList.drop i) (b.toList.drop j))(hy:∀x∈a.toList.drop i,k b[j]<=k x)(hm:m<=i+j+1) :
 wpS (model prog w) A E s (loB a b g na nb j o i) (λr st'=>st'=st/\G2 k N a b m r) st:=by
 unfold loB
 refine wpS_bind (Ĺ hj ?_)
 have xP:=Dq mi hj hy
 by_cases he:j+1=b.size
 ·rw[if_pos (by simpa using he)]
  exact wpS_pure ⟨rfl,.inl ⟨_,rfl,Iv xP he⟩⟩
 ·rw[if_neg (by simpa using he)]
  have hi':i<a.size:=by omega
  refine wpS_bind (Ĺ hi' ?_)
  have ent:(b.toList.drop (j+1)).take (b.size-(j+1))=b.toList.drop (j+1):=List.take_of_length_le (by simp)
  refine wpS_bind (oU hc hk (ha _ (by simp)) hb (by omega) (by omega) (by rw[ent];exact xP.sb) λr hr c1 c2=>?_)
  simp only[if_true] at c1 c2
  rw[ent,List.drop_drop] at c2
  dsimp only
  by_cases hr0:r>0
  ·rw[if_pos hr0]
   have Ul:MI k N (o.push b[j]++b.extract (j+1) (j+1+r)).toList (a.toList.drop i) (b.toList.drop (j+1+r)):=by
    rw[Array.toList_append,ź]
    have e:j+1+r-(j+1)=r:=by omega
    rw[e]
    have Xc:=xP
    rw[lu b.toList (j+1) r] at Xc
    exact Xc.sU λy hy' x hx=>Int.le_trans (Int.le_of_lt (c1 y hy')) (Kq xP hi' x hx)
   by_cases he2:j+1+r=b.size
   ·rw[if_pos (by simpa using he2)]
    exact wpS_pure ⟨rfl,.inl ⟨_,rfl,Iv Ul he2⟩⟩
   ·rw[if_neg (by simpa using he2)]
    exact Dr hL hi (by omega) Ul c2 (by omega)
  ·rw[if_neg hr0]
   have e:r=0:=by omega
   subst e
   exact Dr hL hi (by omega) xP c2 (by omega)
def Ru(hc:h_ prog w A s κ k D)(hk:kindOf st=κ)(ha:∀x∈a.toList,D x)(hb:∀x∈b.toList,D x)(hL:∀y∈b.toList,∀x∈a.toList.drop (a.size-1),k y<=k x)(h:qQ k N a b o i j)(hm:m<=i+j+1){g0:Nat} :
 wpS (model prog w) A E s (Uk a b (none,o,i,j,g0,na,nb) g) (λr st'=>Sv st st'/\G2 k N a b m r) st:=by
 obtain⟨hi,hj,mi⟩:=h
 have hi':i<a.size:=by omega
 unfold Uk
 dsimp only
 refine wpS_bind (qg λst1 sv=>wpS_bind (Ĺ hj ?_))
 have hk1:kindOf st1=κ:= sv.kind.trans hk
 have ent:(a.toList.drop i).take (a.size-i)=a.toList.drop i:=List.take_of_length_le (by simp)
 refine wpS_bind (oU hc hk1 (hb _ (by simp)) ha (by omega) (by omega) (by rw[ent];exact mi.sa) λr hr c1 c2=>?_)
 simp only[Bool.false_eq_true,if_false] at c1 c2
 rw[ent,List.drop_drop] at c2
 dsimp only
 by_cases hr0:r>0
 ·rw[if_pos hr0]
  have Ul:MI k N (o++a.extract i (i+r)).toList (a.toList.drop (i+r)) (b.toList.drop j):=by
   rw[Array.toList_append,ź]
   have e:i+r-i=r:=by omega
   rw[e]
   have Xc:=mi
   rw[lu a.toList i r] at Xc
   exact Xc.sS λx hx y hy=>Int.le_trans (c1 x hx) (Kp mi hj y hy)
  by_cases he:i+r+1=a.size
  ·rw[if_pos (by simpa using he)]
   exact wpS_pure ⟨sv,.inl ⟨_,rfl,Iw hL Ul he⟩⟩
  ·rw[if_neg (by simpa using he)]
   by_cases he2:i+r=a.size
   ·rw[if_pos (by simpa using he2)]
    exact wpS_pure ⟨sv,.inl ⟨_,rfl,Zcc Ul he2⟩⟩
   ·rw[if_neg (by simpa using he2)]
    exact wpS_mono (Ds hc hk1 ha hb hL (by omega) hj Ul (λx hx=>Int.le_of_lt (c2 x hx)) (by omega)) λr st' ⟨e,z⟩=>⟨e▸sv,z⟩
 ·rw[if_neg hr0]
  have e:r=0:=by omega
  subst e
  exact wpS_mono (Ds hc hk1 ha hb hL hi hj mi (λx hx=>Int.le_of_lt (c2 x hx)) hm) λr st' ⟨e,z⟩=>⟨e▸sv,z⟩
def Rv(hc:h_ prog w A s κ k D)(hk:kindOf st=κ)(ha:∀x∈a.toList,D x)(hb:∀x∈b.toList,D x)(hL:∀y∈b.toList,∀x∈a.toList.drop (a.size-1),k y<=k x)(h:qQ k N a b o i j)(hm:m<=i+j) :
 wpS (model prog w) A E s (lo3 a b (none,o,i,j,g)) (λr st'=>Sv st st'/\match r with
  | .done q=>∃r,q.1=some r/\Good k N r.toList
  | .yield q=>q.1=none/\qQ k N a b q.2.1 q.2.2.1 q.2.2.2.1/\m+1<=q.2.2.1+q.2.2.2.1) st:=by
 unfold lo3
 dsimp only
 refine wpS_bind (wpS_mono (wpS_forRange (I:=λ_ (c:S1) st'=>st'=st/\c.1=none/\qQ k N a b c.2.1 c.2.2.1 c.2.2.2.1/\m<=c.2.2.1+c.2.2.2.1) (Q:=λ(c:S1) st'=>st'=st/\((∃r,c.1=some r/\Good k N r.toList)\/(c.1=none/\qQ k N a b c.2.1 c.2.2.1 c.2.2.2.1/\m<=c.2.2.1+c.2.2.2.1))) ?step ?fin ⟨rfl,rfl,h,hm⟩) ?post)
 case fin=>rintro c st' ⟨rfl,z⟩;exact⟨rfl,.inr z⟩
 case step=>
  rintro x ⟨c1,o',i',j',na',nb'⟩ st' _ _ ⟨rfl,rfl,h',hm'⟩
  refine wpS_mono (Rt hc hk ha hb hL h' hm') λr st2 ⟨e,z⟩=>?_
  subst e
  cases r with
  |done q=>exact⟨rfl,z⟩
  |yield q=>exact⟨rfl,z⟩
 case post=>
  rintro ⟨c1,o',i',j',na',nb'⟩ st' ⟨rfl,z⟩
  rcases z with⟨r,e,hg⟩|⟨e,h',hm'⟩
  ·dsimp only at e
   subst e
   exact wpS_pure ⟨Sv.refl _,r,rfl,hg⟩
  ·dsimp only at e h' hm'
   subst e
   refine wpS_bind (ig ?_)
   refine wpS_bind (wpS_mono (wpS_forRange (I:=λx (c:S2) st2=>Sv st' st2/\c.1=none/\qQ k N a b c.2.1 c.2.2.1 c.2.2.2.1/\m+min x 1<=c.2.2.1+c.2.2.2.1) (Q:=λ(c:S2) st2=>Sv st' st2/\((∃r,c.1=some r/\Good k N r.toList)\/(c.1=none/\qQ k N a b c.2.1 c.2.2.1 c.2.2.2.1/\m+1<=c.2.2.1+c.2.2.2.1))) ?sV ?fin2 ⟨Sv.refl _,rfl,h',by dsimp only;omega⟩) ?post2)
   case fin2=>
    rintro c st2 ⟨sv,z1,z2,z3⟩
    refine⟨sv,.inr ⟨z1,z2,?_⟩⟩
    have:=z2.ia
    rw[show min (max 0 (a.size+b.size)) 1=1 by omega] at z3
    exact z3
   case sV=>
    rintro x ⟨c1,o2,i2,j2,g2,Um,Uo⟩ st2 _ _ ⟨sv,rfl,h2,hm2⟩
    dsimp only at h2 hm2
    have key:∀g',wpS (model prog w) A E s (Uk a b (none,o2,i2,j2,g2,Um,Uo) g') (λr st3=>Sv st2 st3/\G2 k N a b (m+1) r) st2:=λg'=>Ru hc (sv.kind.trans hk) ha hb hL h2 (by omega)
    have fin:∀g',wpS (model prog w) A E s (Uk a b (none,o2,i2,j2,g2,Um,Uo) g') _ st2:=λg'=>wpS_mono (key g') (Q':=λr st3=>match r with
     | .done c'=>Sv st' st3/\((∃r,c'.1=some r/\Good k N r.toList)\/(c'.1=none/\qQ k N a b c'.2.1 c'.2.2.1 c'.2.2.2.1/\m+1<=c'.2.2.1+c'.2.2.2.1))
     | .yield c'=>Sv st' st3/\c'.1=none/\qQ k N a b c'.2.1 c'.2.2.1 c'.2.2.2.1/\m+min (x+1) 1<=c'.2.2.1+c'.2.2.2.1) (by
     rintro r st3 ⟨Aj,z⟩
     cases r with
     |done q=>exact⟨sv.trans Aj,z⟩
     |yield q=>exact⟨sv.trans Aj,z.1,z.2.1,by rw[show min (x+1) 1=1 by omega];exact z.2.2⟩)
    unfold lo2
    dsimp only
    split
    ·refine wpS_mono (fin _) λr st3 z=>?_
     cases r<;>exact z
    ·refine wpS_mono (fin _) λr st3 z=>?_
     cases r<;>exact z
   case post2=>
    rintro ⟨c1,o2,i2,j2,g2,Um,Uo⟩ st2 ⟨sv,z⟩
    rcases z with⟨r,e,hg⟩|⟨e,h2,hm2⟩
    ·dsimp only at e
     subst e
     exact wpS_pure ⟨sv,r,rfl,hg⟩
    ·dsimp only at e h2 hm2
     subst e
     exact wpS_bind (qg λst3 Aj=>wpS_pure ⟨sv.trans Aj,rfl,h2,hm2⟩)
def Rw{Q:Array Keyed->SortSt->Prop}(hc:h_ prog w A s κ k D)(hk:kindOf st=κ)(ha:∀x∈a.toList,D x)(hb:∀x∈b.toList,D x)(sa:cL k a.toList)(sb:cL k b.toList)(h1:0<a.size)(h2:0<b.size)
 (hF:∀x∈a.toList,k b[0]<=k x)(hL:∀y∈b.toList,∀x∈a.toList.drop (a.size-1),k y<=k x)(hq:∀r st',Sv st st'->Good k (a.toList++b.toList) r.toList->Q r st'):wpS (model prog w) A E s (lC a b) Q st:=by
 rw[Rr]
 unfold mlo
 refine wpS_bind (ig (wpS_bind (Ĺ h2 ?_)))
 have mi0:MI k (a.toList++b.toList) (#[]:Array Keyed).toList (a.toList.drop 0) (b.toList.drop 0):=⟨by simp,.nil,sa,sb,λx hx=>by simp at hx,λx hx=>by simp at hx⟩
 have mi:MI k (a.toList++b.toList) (#[b[0]]:Array Keyed).toList (a.toList.drop 0) (b.toList.drop 1):=Dq mi0 h2 (by simpa using hF)
 by_cases he:1=b.size
 ·rw[if_pos (by simpa using he)]
  exact wpS_pure (hq _ _ (Sv.refl _) (Iv mi he))
 ·rw[if_neg (by simpa using he)]
  by_cases he2:0+1=a.size
  ·rw[if_pos (by simpa using he2)]
   exact wpS_pure (hq _ _ (Sv.refl _) (Iw hL mi he2))
  ·rw[if_neg (by simpa using he2)]
   refine wpS_bind (wpS_get ?_)
   refine wpS_bind (wpS_mono (wpS_forRange (I:=λx (c:S3) st'=>Sv st st'/\c.1=none/\qQ k (a.toList++b.toList) a b c.2.1 c.2.2.1 c.2.2.2.1/\x<=c.2.2.1+c.2.2.2.1) (Q:=λ(c:S3) st'=>Sv st st'/\∃r,c.1=some r/\Good k (a.toList++b.toList) r.toList) ?step ?fin ⟨Sv.refl _,rfl,⟨by dsimp only;omega,by dsimp only;omega,mi⟩,by omega⟩) ?post)
   case fin=>
    rintro c st' ⟨_,_,z,z2⟩
    have:=z.ia
    have:=z.jb
    omega
   case step=>
    rintro x ⟨c1,o',i',j',g'⟩ st' _ _ ⟨sv,rfl,h',hx⟩
    refine wpS_mono (Rv hc (sv.kind.trans hk) ha hb hL h' hx) λr st2 ⟨Xd,z⟩=>?_
    cases r with
    |done q=>exact⟨sv.trans Xd,z⟩
    |yield q=>exact⟨sv.trans Xd,z⟩
   case post=>
    rintro ⟨c1,c2⟩ st' ⟨sv,r,e,hg⟩
    dsimp only at e
    subst e
    exact wpS_pure (hq r st' sv hg)
end
end gF
namespace gF
open PySem PyProof.Rows
def lE:Array Keyed->Array Keyed->SM (Array Keyed):=sortPriv% PySem.Builtin.mergeHi
abbrev T1:=OA×Nat×Nat×Array Keyed×Nat×Nat
abbrev T2:=OA×Nat×Nat×Array Keyed×Nat×Nat×Nat
abbrev T3:=OA×Nat×Nat×Array Keyed×Nat
section
variable(a b:Array Keyed)
def dh(o:Array Keyed)(i j:Nat):Array Keyed:=a.extract 0 i++b.extract 0 j++o.reverse
def fb(o:Array Keyed)(i j:Nat):Array Keyed:=b.extract 0 j++a.extract 0 i++o.reverse
def hi1(g:Nat)(q:T1):SM (ForInStep T1):=
 elem' b (q.2.2.1-1) >>= λy=>elem' a (q.2.1-1) >>= λx=>lt' y x >>= λr=>match r with
  |some c=>if c=true then elem' a (q.2.1-1) >>= fun x=>
    (if(q.2.1-1== 0)=true then pure (.done (some (dh a b (q.2.2.2.1.push x) (q.2.1-1) q.2.2.1),q.2.1-1,q.2.2.1,q.2.2.2.1.push x,q.2.2.2.2.1+1,0))
     else if q.2.2.2.2.1+1 >= g then pure (.done (none,q.2.1-1,q.2.2.1,q.2.2.2.1.push x,q.2.2.2.2.1+1,0)) else pure (.yield (none,q.2.1-1,q.2.2.1,q.2.2.2.1.push x,q.2.2.2.2.1+1,0)))
   else elem' b (q.2.2.1-1) >>= λy=>
    (if(q.2.2.1-1== 1)=true then pure (.done (some (fb a b (q.2.2.2.1.push y) q.2.1 (q.2.2.1-1)),q.2.1,q.2.2.1-1,q.2.2.2.1.push y,0,q.2.2.2.2.2+1))
     else if q.2.2.2.2.2+1 >= g then pure (.done (none,q.2.1,q.2.2.1-1,q.2.2.2.1.push y,0,q.2.2.2.2.2+1)) else pure (.yield (none,q.2.1,q.2.2.1-1,q.2.2.2.1.push y,0,q.2.2.2.2.2+1)))
  |_=>pure (.done (some (dh a b q.2.2.2.1 q.2.1 q.2.2.1),q.2.1,q.2.2.1,q.2.2.2.1,q.2.2.2.2.1,q.2.2.2.2.2))
def hiC(g na nb:Nat)(i j:Nat)(o:Array Keyed):SM (ForInStep T2):=
 elem' a (i-1) >>= λx=>if(i-1== 0)=true then pure (.done (some (dh a b (o.push x) (i-1) j),i-1,j,o.push x,g,na,nb))
  else if(decide (na<7) && decide (nb<7))=true then pure (.done (none,i-1,j,o.push x,g,na,nb)) else pure (.yield (none,i-1,j,o.push x,g,na,nb))
def hiB(g na nb0:Nat)(j i:Nat)(o:Array Keyed):SM (ForInStep T2):=
 elem' b (j-1) >>= λy=>if(j-1== 1)=true then pure (.done (some (fb a b (o.push y) i (j-1)),i,j-1,o.push y,g,na,nb0))
  else elem' a (i-1) >>= λx=>aA true x b 0 (j-1) (j-1-1) >>= λr=>match r with
   |some m=>if j-1-m>0 then(if(m== 1)=true then pure (.done (some (fb a b (o.push y++(b.extract m (j-1)).reverse) i m),i,m,o.push y++(b.extract m (j-1)).reverse,g,na,j-1-m))
     else if(m== 0)=true then pure (.done (some (dh a b (o.push y++(b.extract m (j-1)).reverse) i m),i,m,o.push y++(b.extract m (j-1)).reverse,g,na,j-1-m))
     else hiC a b g na (j-1-m) i m (o.push y++(b.extract m (j-1)).reverse))
    else hiC a b g na (j-1-m) i (j-1) (o.push y)
   |_=>pure (.done (some (dh a b (o.push y) i (j-1)),i,j-1,o.push y,g,na,nb0))
def Xe(q:T2)(g:Nat):SM (ForInStep T2):=
 oV g >>= λ_=>elem' b (q.2.2.1-1) >>= λy=>aA false y a 0 q.2.1 (q.2.1-1) >>= λr=>match r with
  |some m=>if q.2.1-m>0 then(if(m== 0)=true then pure (.done (some (dh a b (q.2.2.2.1++(a.extract m q.2.1).reverse) m q.2.2.1),m,q.2.2.1,q.2.2.2.1++(a.extract m q.2.1).reverse,g,q.2.1-m,q.2.2.2.2.2.2))
    else hiB a b g (q.2.1-m) q.2.2.2.2.2.2 q.2.2.1 m (q.2.2.2.1++(a.extract m q.2.1).reverse))
   else hiB a b g (q.2.1-m) q.2.2.2.2.2.2 q.2.2.1 q.2.1 q.2.2.2.1
  |_=>pure (.done (some (dh a b q.2.2.2.1 q.2.1 q.2.2.1),q.2.1,q.2.2.1,q.2.2.2.1,g,q.2.2.2.2.2.1,q.2.2.2.2.2.2))
def hi2(q:T2):SM (ForInStep T2):=if q.2.2.2.2.1>1 then Xe a b q (q.2.2.2.2.1-1) else Xe a b q q.2.2.2.2.1
def hi3(q:T3):SM (ForInStep T3):=
 (forIn [:a.size+b.size] ((none,q.2.1,q.2.2.1,q.2.2.2.1,0,0):T1) fun _ p=>hi1 a b q.2.2.2.2 p) >>= fun p=>match p.1 with
   |some r=>pure (.done (some r,p.2.1,p.2.2.1,p.2.2.2.1,q.2.2.2.2))
   |none=>liftM (rule "list.sort.gallop") >>= λ_=>(forIn [:a.size+b.size] ((none,p.2.1,p.2.2.1,p.2.2.2.1,q.2.2.2.2+1,p.2.2.2.2.1,p.2.2.2.2.2):T2) λ_ z=>hi2 a b z) >>= λz=>match z.1 with
    |some r=>pure (.done (some r,z.2.1,z.2.2.1,z.2.2.2.1,z.2.2.2.2.1))
    |none=>oV (z.2.2.2.2.1+1) >>= λ_=>pure (.yield (none,z.2.1,z.2.2.1,z.2.2.2.1,z.2.2.2.2.1+1))
def mhi:SM (Array Keyed):=
 liftM (rule "list.sort.merge-hi") >>= λ_=>elem' a (a.size-1) >>= λx=>if(a.size-1== 0)=true then pure (dh a b #[x] (a.size-1) b.size) else if(b.size== 1)=true then pure (fb a b #[x] (a.size-1) b.size)
  else get >>= λst=>(forIn [:a.size+b.size] ((none,a.size-1,b.size,#[x],gallopOf st):T3) λ_ q=>hi3 a b q) >>= λq=>match q.1 with
   |some r=>pure r
   |none=>liftM (unsupported "internal:list.sort.merge-bound")
end
def Rx(a b:Array Keyed):lE a b=mhi a b:=by kernel_rfl
structure MH(k:Keyed->Int)(N ra rb out:List Keyed):Prop where
 perm:(ra++rb++out).Perm N
 so:cL k out
 sa:cL k ra
 sb:cL k rb
 oa:∀x∈ra,∀y∈out,k x<=k y
 ob:∀x∈rb,∀y∈out,k x<=k y
section
variable{k:Keyed->Int}{N out ra rb p r:List Keyed}
def MH.sS(h:MH k N (r++p) rb out)(hp:∀y∈rb,∀x∈p,k y<=k x):MH k N r rb (p++out):=by
 obtain⟨h1,h2,h3⟩:=List.pairwise_append.mp h.sa
 refine⟨?_,cL.app h2 h.so λx hx y hy=>h.oa x (List.mem_append_right _ hx) y hy,h1,h.sb,λx hx y hy=>?_,λx hx y hy=>?_⟩
 ·refine List.Perm.trans ?_ h.perm
  rw[List.append_assoc,List.append_assoc,List.append_assoc]
  refine List.Perm.append_left _ ?_
  rw[<-List.append_assoc,<-List.append_assoc]
  exact List.perm_append_comm.append_right _
 ·rcases List.mem_append.mp hy with z|z
  ·exact h3 x hx y z
  ·exact h.oa x (List.mem_append_left _ hx) y z
 ·rcases List.mem_append.mp hy with z|z
  ·exact hp x hx y z
  ·exact h.ob x hx y z
def MH.sU(h:MH k N ra (r++p) out)(hp:∀x∈ra,∀y∈p,k x<=k y):MH k N ra r (p++out):=by
 obtain⟨h1,h2,h3⟩:=List.pairwise_append.mp h.sb
 refine⟨?_,cL.app h2 h.so λx hx y hy=>h.ob x (List.mem_append_right _ hx) y hy,h.sa,h1,λx hx y hy=>?_,λx hx y hy=>?_⟩
 ·have:=h.perm
  simpa[List.append_assoc] using this
 ·rcases List.mem_append.mp hy with z|z
  ·exact hp x hx y z
  ·exact h.oa x hx y z
 ·rcases List.mem_append.mp hy with z|z
  ·exact h3 x hx y z
  ·exact h.ob x (List.mem_append_left _ hx) y z
def MH.Dp(h:MH k N [] rb out):Good k N ([]++rb++out):=⟨h.perm,by rw[List.nil_append];exact h.sb.app h.so h.ob⟩
def MH.Dl(h:MH k N ra [] out):Good k N (ra ++ []++out):=⟨h.perm,by rw[List.append_nil];exact h.sa.app h.so h.oa⟩
def MH.Ry(h:MH k N ra rb out)(hl:∀y∈rb,∀x∈ra,k y<=k x):Good k N (rb++ra++out):=by
 refine⟨List.Perm.trans (List.perm_append_comm.append_right _) h.perm,(h.sb.app h.sa hl).app h.so λx hx y hy=>?_⟩
 rcases List.mem_append.mp hx with z|z
 ·exact h.ob x z y hy
 ·exact h.oa x z y hy
end
def jK{a:Array Keyed}{i:Nat}(h:i<a.size):a.toList.take (i+1)=a.toList.take i ++ [a[i]]:=by
 rw[List.take_add_one,Array.getElem?_toList,Array.getElem?_eq_getElem h]
 rfl
def lF(l:List Keyed){i m:Nat}(h:m<=i):l.take i=l.take m++(l.drop m).take (i-m):=by
 have e:i=m+(i-m):=by omega
 conv=>lhs;rw[e,List.take_add]
section
variable{prog:Program}{w:World}{A:Around}{E:Value->Shared->Prop}{s:Shared}{st:SortSt}{κ:SortKind}{k:Keyed->Int}{D:Keyed->Prop}{a b o:Array Keyed}{N:List Keyed}{i j g m na nb:Nat}
abbrev lG(k:Keyed->Int)(N:List Keyed)(a b o:Array Keyed)(i j:Nat):Prop:=MH k N (a.toList.take i) (b.toList.take j) o.toList.reverse
structure uH(k:Keyed->Int)(N:List Keyed)(a b o:Array Keyed)(i j:Nat):Prop where
 i0:0<i
 ia:i<=a.size
 j1:1<j
 jb:j<=b.size
 mh:lG k N a b o i j
def Kr(a b o:Array Keyed)(i j:Nat):(dh a b o i j).toList=a.toList.take i++b.toList.take j++o.toList.reverse:=by
 unfold dh
 rw[Array.toList_append,Array.toList_append,ź,ź,Array.toList_reverse]
 simp
def Xf(a b o:Array Keyed)(i j:Nat):(fb a b o i j).toList=b.toList.take j++a.toList.take i++o.toList.reverse:=by
 unfold fb
 rw[Array.toList_append,Array.toList_append,ź,ź,Array.toList_reverse]
 simp
def Iz(h:lG k N a b o 0 j):Good k N (dh a b o 0 j).toList:=by
 rw[Kr]
 exact MH.Dp h
def Zcd(h:lG k N a b o i 0):Good k N (dh a b o i 0).toList:=by
 rw[Kr]
 exact MH.Dl h
def IK(hF:∀y∈b.toList.take 1,∀x∈a.toList,k y<=k x)(h:lG k N a b o i 1):Good k N (fb a b o i 1).toList:=by
 rw[Xf]
 exact MH.Ry h λy hy x hx=>hF y hy x (List.mem_of_mem_take hx)
def vJ(h:lG k N a b o (i+1) j)(hi:i<a.size)(hle:∀y∈b.toList.take j,k y<=k a[i]):lG k N a b (o.push a[i]) i j:=by
 unfold lG
 rw[Array.toList_push,List.reverse_append]
 unfold lG at h
 rw[jK hi] at h
 exact MH.sS (p:=[a[i]]) h λy hy x hx=>by rw[List.mem_singleton.mp hx];exact hle y hy
def Dt(h:lG k N a b o i (j+1))(hj:j<b.size)(hle:∀x∈a.toList.take i,k x<=k b[j]):lG k N a b (o.push b[j]) i j:=by
 unfold lG
 rw[Array.toList_push,List.reverse_append]
 unfold lG at h
 rw[jK hj] at h
 exact MH.sU (p:=[b[j]]) h λx hx y hy=>by rw[List.mem_singleton.mp hy];exact hle x hx
def lastOfA(h:lG k N a b o (i+1) j)(hi:i<a.size):∀x∈a.toList.take (i+1),k x<=k a[i]:=by
 have:=h.sa
 rw[jK hi] at this ⊢
 obtain⟨_,_,h3⟩:=List.pairwise_append.mp this
 intro x hx
 rcases List.mem_append.mp hx with z|z
 ·exact h3 x z _ (.head _)
 ·rw[List.mem_singleton.mp z];exact Int.le_refl _
def xQ(h:lG k N a b o i (j+1))(hj:j<b.size):∀x∈b.toList.take (j+1),k x<=k b[j]:=by
 have:=h.sb
 rw[jK hj] at this ⊢
 obtain⟨_,_,h3⟩:=List.pairwise_append.mp this
 intro x hx
 rcases List.mem_append.mp hx with z|z
 ·exact h3 x z _ (.head _)
 ·rw[List.mem_singleton.mp z];exact Int.le_refl _
def Rz(hc:h_ prog w A s κ k D)(hk:kindOf st=κ)(ha:∀x∈a.toList,D x)(hb:∀x∈b.toList,D x)(hF:∀y∈b.toList.take 1,∀x∈a.toList,k y<=k x)(h:uH k N a b o i j)(hm:i+j<=m) :
 wpS (model prog w) A E s (hi1 a b g (none,i,j,o,na,nb)) (λr st'=>st'=st/\match r with
  | .done q=>(∃r,q.1=some r/\Good k N r.toList)\/(q.1=none/\uH k N a b q.2.2.2.1 q.2.1 q.2.2.1/\q.2.1+q.2.2.1<=m)
  | .yield q=>q.1=none/\uH k N a b q.2.2.2.1 q.2.1 q.2.2.1/\q.2.1+q.2.2.1<=m) st:=by
 obtain⟨h1,h2,h3,h4,mh⟩:=h
 obtain⟨i,rfl⟩:∃i',i=i'+1:=⟨i-1,by omega⟩
 obtain⟨j,rfl⟩:∃j',j=j'+1:=⟨j-1,by omega⟩
 have hi:i<a.size:=by omega
 have hj:j<b.size:=by omega
 unfold hi1
 dsimp only
 simp only[Nat.add_sub_cancel]
 refine wpS_bind (Ĺ hj (wpS_bind (Ĺ hi (wpS_bind (w_lt hc hk (hb _ (by simp)) (ha _ (by simp)) ?_)))))
 dsimp only
 by_cases hw:k b[j]<k a[i]
 ·rw[decide_eq_true hw,if_pos rfl]
  refine wpS_bind (Ĺ hi ?_)
  have xR:=vJ mh hi λy hy=>Int.le_trans (xQ mh hj y hy) (Int.le_of_lt hw)
  by_cases he:i=0
  ·subst he
   rw[if_pos (by decide)]
   exact wpS_pure ⟨rfl,.inl ⟨_,rfl,Iz xR⟩⟩
  ·rw[if_neg (by simpa using he)]
   have I2:uH k N a b (o.push a[i]) i (j+1):=⟨by omega,by omega,h3,h4,xR⟩
   split
   ·exact wpS_pure ⟨rfl,.inr ⟨rfl,I2,by dsimp only;omega⟩⟩
   ·exact wpS_pure ⟨rfl,rfl,I2,by dsimp only;omega⟩
 ·rw[decide_eq_false hw,if_neg Bool.false_ne_true]
  refine wpS_bind (Ĺ hj ?_)
  have xR:=Dt mh hj λx hx=>Int.le_trans (lastOfA mh hi x hx) (Int.not_lt.mp hw)
  by_cases he:j=1
  ·subst he
   rw[if_pos (by decide)]
   exact wpS_pure ⟨rfl,.inl ⟨_,rfl,IK hF xR⟩⟩
  ·rw[if_neg (by simpa using he)]
   have I2:uH k N a b (o.push b[j]) (i+1) j:=⟨by omega,h2,by omega,by omega,xR⟩
   split
   ·exact wpS_pure ⟨rfl,.inr ⟨rfl,I2,by dsimp only;omega⟩⟩
   ·exact wpS_pure ⟨rfl,rfl,I2,by dsimp only;omega⟩
def H2(k:Keyed->Int)(N:List Keyed)(a b:Array Keyed)(m:Nat)(r:ForInStep T2):Prop:=match r with
 | .done q=>(∃r,q.1=some r/\Good k N r.toList)\/(q.1=none/\uH k N a b q.2.2.2.1 q.2.1 q.2.2.1/\q.2.1+q.2.2.1<=m)
 | .yield q=>q.1=none/\uH k N a b q.2.2.2.1 q.2.1 q.2.2.1/\q.2.1+q.2.2.1<=m
def Du(hi:i<a.size)(hj:1<j)(hjb:j<=b.size)(mh:lG k N a b o (i+1) j)(hx:∀y∈b.toList.take j,k y<=k a[i])(hm:i+j<=m) :
 wpS (model prog w) A E s (hiC a b g na nb (i+1) j o) (λr st'=>st'=st/\H2 k N a b m r) st:=by
 unfold hiC
 simp only[Nat.add_sub_cancel]
 refine wpS_bind (Ĺ hi ?_)
 have xR:=vJ mh hi hx
 by_cases he:i=0
 ·subst he
  rw[if_pos (by decide)]
  exact wpS_pure ⟨rfl,.inl ⟨_,rfl,Iz xR⟩⟩
 ·rw[if_neg (by simpa using he)]
  have I2:uH k N a b (o.push a[i]) i j:=⟨by omega,by omega,hj,hjb,xR⟩
  split
  ·exact wpS_pure ⟨rfl,.inr ⟨rfl,I2,hm⟩⟩
  ·exact wpS_pure ⟨rfl,rfl,I2,hm⟩
def Dv(hc:h_ prog w A s κ k D)(hk:kindOf st=κ)(ha:∀x∈a.toList,D x)(hb:∀x∈b.toList,D x)(hF:∀y∈b.toList.take 1,∀x∈a.toList,k y<=k x)(hi:i<a.size)(h1:0<j)(hj:j<b.size)(mh:lG k N a b o (i+1) (j+1))(hy:∀x∈a.toList.take (i+1),k x<=k b[j])(hm:i+j<=m) :
 wpS (model prog w) A E s (hiB a b g na nb (j+1) (i+1) o) (λr st'=>st'=st/\H2 k N a b m r) st:=by
 unfold hiB
 simp only[Nat.add_sub_cancel]
 refine wpS_bind (Ĺ hj ?_)
 have xR:=Dt mh hj hy
 by_cases he:j=1
 ·subst he
  rw[if_pos (by decide)]
  exact wpS_pure ⟨rfl,.inl ⟨_,rfl,IK hF xR⟩⟩
 ·rw[if_neg (by simpa using he)]
  refine wpS_bind (Ĺ hi ?_)
  refine wpS_bind (oU hc hk (ha _ (by simp)) hb (by omega) (by omega) xR.sb λr hr c1 c2=>?_)
  simp only[if_true,List.drop_zero] at c1 c2
  dsimp only
  by_cases hr0:j-r>0
  ·rw[if_pos hr0]
   have Uq:lG k N a b (o.push b[j]++(b.extract r j).reverse) (i+1) r:=by
    unfold lG at xR ⊢
    rw[Array.toList_append,Array.toList_reverse,ź,List.reverse_append,List.reverse_reverse]
    have Xg:=xR
    rw[lF b.toList hr] at Xg
    refine Xg.sU λx hx y hy'=>Int.le_trans (lastOfA mh hi x hx) (c2 y ?_)
    rw[List.drop_take]
    exact hy'
   by_cases he2:r=1
   ·subst he2
    rw[if_pos (by decide)]
    exact wpS_pure ⟨rfl,.inl ⟨_,rfl,IK hF Uq⟩⟩
   ·rw[if_neg (by simpa using he2)]
    by_cases he3:r=0
    ·subst he3
     rw[if_pos (by decide)]
     exact wpS_pure ⟨rfl,.inl ⟨_,rfl,Zcd Uq⟩⟩
    ·rw[if_neg (by simpa using he3)]
     exact Du hi (by omega) (by omega) Uq (λy hy'=>Int.le_of_lt (c1 y hy')) (by omega)
  ·rw[if_neg hr0]
   have e:r=j:=by omega
   subst e
   exact Du hi (by omega) (by omega) xR (λy hy'=>Int.le_of_lt (c1 y hy')) (by omega)
def RB(hc:h_ prog w A s κ k D)(hk:kindOf st=κ)(ha:∀x∈a.toList,D x)(hb:∀x∈b.toList,D x)(hF:∀y∈b.toList.take 1,∀x∈a.toList,k y<=k x)(h:uH k N a b o i j)(hm:i+j<=m+1){g0:Nat} :
 wpS (model prog w) A E s (Xe a b (none,i,j,o,g0,na,nb) g) (λr st'=>Sv st st'/\H2 k N a b m r) st:=by
 obtain⟨h1,h2,h3,h4,mh⟩:=h
 obtain⟨j,rfl⟩:∃j',j=j'+1:=⟨j-1,by omega⟩
 have hj:j<b.size:=by omega
 unfold Xe
 dsimp only
 simp only[Nat.add_sub_cancel]
 refine wpS_bind (qg λst1 sv=>wpS_bind (Ĺ hj ?_))
 have hk1:kindOf st1=κ:= sv.kind.trans hk
 refine wpS_bind (oU hc hk1 (hb _ (by simp)) ha (by omega) (by omega) mh.sa λr hr c1 c2=>?_)
 simp only[Bool.false_eq_true,if_false,List.drop_zero] at c1 c2
 dsimp only
 by_cases hr0:i-r>0
 ·rw[if_pos hr0]
  have Uq:lG k N a b (o++(a.extract r i).reverse) r (j+1):=by
   unfold lG at mh ⊢
   rw[Array.toList_append,Array.toList_reverse,ź,List.reverse_append,List.reverse_reverse]
   have Xg:=mh
   rw[lF a.toList hr] at Xg
   refine Xg.sS λy hy x hx=>Int.le_trans (xQ mh hj y hy) (Int.le_of_lt (c2 x ?_))
   rw[List.drop_take]
   exact hx
  by_cases he:r=0
  ·subst he
   rw[if_pos (by decide)]
   exact wpS_pure ⟨sv,.inl ⟨_,rfl,Iz Uq⟩⟩
  ·rw[if_neg (by simpa using he)]
   obtain⟨r,rfl⟩:∃r',r=r'+1:=⟨r-1,by omega⟩
   exact wpS_mono (Dv hc hk1 ha hb hF (by omega) (by omega) hj Uq c1 (by omega)) λr st' ⟨e,z⟩=>⟨e▸sv,z⟩
 ·rw[if_neg hr0]
  have e:r=i:=by omega
  subst e
  obtain⟨r,rfl⟩:∃r',r=r'+1:=⟨r-1,by omega⟩
  exact wpS_mono (Dv hc hk1 ha hb hF (by omega) (by omega) hj mh c1 (by omega)) λr st' ⟨e,z⟩=>⟨e▸sv,z⟩
def RD(hc:h_ prog w A s κ k D)(hk:kindOf st=κ)(ha:∀x∈a.toList,D x)(hb:∀x∈b.toList,D x)(hF:∀y∈b.toList.take 1,∀x∈a.toList,k y<=k x)(h:uH k N a b o i j)(hm:i+j<=m+1) :
 wpS (model prog w) A E s (hi3 a b (none,i,j,o,g)) (λr st'=>Sv st st'/\match r with
  | .done q=>∃r,q.1=some r/\Good k N r.toList
  | .yield q=>q.1=none/\uH k N a b q.2.2.2.1 q.2.1 q.2.2.1/\q.2.1+q.2.2.1<=m) st:=by
 unfold hi3
 dsimp only
 refine wpS_bind (wpS_mono (wpS_forRange (I:=λ_ (c:T1) st'=>st'=st/\c.1=none/\uH k N a b c.2.2.2.1 c.2.1 c.2.2.1/\c.2.1+c.2.2.1<=m+1) (Q:=λ(c:T1) st'=>st'=st/\((∃r,c.1=some r/\Good k N r.toList)\/(c.1=none/\uH k N a b c.2.2.2.1 c.2.1 c.2.2.1/\c.2.1+c.2.2.1<=m+1))) ?step ?fin ⟨rfl,rfl,h,hm⟩) ?post)
 case fin=>rintro c st' ⟨rfl,z⟩;exact⟨rfl,.inr z⟩
 case step=>
  rintro x ⟨c1,i',j',o',na',nb'⟩ st' _ _ ⟨rfl,rfl,h',hm'⟩
  refine wpS_mono (Rz hc hk ha hb hF h' hm') λr st2 ⟨e,z⟩=>?_
  subst e
  cases r with
  |done q=>exact⟨rfl,z⟩
  |yield q=>exact⟨rfl,z⟩
 case post=>
  rintro ⟨c1,i',j',o',na',nb'⟩ st' ⟨rfl,z⟩
  rcases z with⟨r,e,hg⟩|⟨e,h',hm'⟩
  ·dsimp only at e
   subst e
   exact wpS_pure ⟨Sv.refl _,r,rfl,hg⟩
  ·dsimp only at e h' hm'
   subst e
   refine wpS_bind (ig ?_)
   refine wpS_bind (wpS_mono (wpS_forRange (I:=λx (c:T2) st2=>Sv st' st2/\c.1=none/\uH k N a b c.2.2.2.1 c.2.1 c.2.2.1/\c.2.1+c.2.2.1+min x 1<=m+1) (Q:=λ(c:T2) st2=>Sv st' st2/\((∃r,c.1=some r/\Good k N r.toList)\/(c.1=none/\uH k N a b c.2.2.2.1 c.2.1 c.2.2.1/\c.2.1+c.2.2.1<=m))) ?sV ?fin2 ⟨Sv.refl _,rfl,h',by dsimp only;omega⟩) ?post2)
   case fin2=>
    rintro c st2 ⟨sv,z1,z2,z3⟩
    refine⟨sv,.inr ⟨z1,z2,?_⟩⟩
    have:=z2.i0
    have:=z2.ia
    rw[show min (max 0 (a.size+b.size)) 1=1 by omega] at z3
    omega
   case sV=>
    rintro x ⟨c1,i2,j2,o2,g2,Um,Uo⟩ st2 _ _ ⟨sv,rfl,h2,hm2⟩
    dsimp only at h2 hm2
    have key:∀g',wpS (model prog w) A E s (Xe a b (none,i2,j2,o2,g2,Um,Uo) g') (λr st3=>Sv st2 st3/\H2 k N a b m r) st2:=λg'=>RB hc (sv.kind.trans hk) ha hb hF h2 (by omega)
    unfold hi2
    dsimp only
    split
    ·refine wpS_mono (key _) λr st3 ⟨Aj,z⟩=>?_
     cases r with
     |done q=>exact⟨sv.trans Aj,z⟩
     |yield q=>exact⟨sv.trans Aj,z.1,z.2.1,by rw[show min (x+1) 1=1 by omega];exact Nat.succ_le_succ z.2.2⟩
    ·refine wpS_mono (key _) λr st3 ⟨Aj,z⟩=>?_
     cases r with
     |done q=>exact⟨sv.trans Aj,z⟩
     |yield q=>exact⟨sv.trans Aj,z.1,z.2.1,by rw[show min (x+1) 1=1 by omega];exact Nat.succ_le_succ z.2.2⟩
   case post2=>
    rintro ⟨c1,i2,j2,o2,g2,Um,Uo⟩ st2 ⟨sv,z⟩
    rcases z with⟨r,e,hg⟩|⟨e,h2,hm2⟩
    ·dsimp only at e
     subst e
     exact wpS_pure ⟨sv,r,rfl,hg⟩
    ·dsimp only at e h2 hm2
     subst e
     exact wpS_bind (qg λst3 Aj=>wpS_pure ⟨sv.trans Aj,rfl,h2,hm2⟩)
def RJ{Q:Array Keyed->SortSt->Prop}(hc:h_ prog w A s κ k D)(hk:kindOf st=κ)(ha:∀x∈a.toList,D x)(hb:∀x∈b.toList,D x)(sa:cL k a.toList)(sb:cL k b.toList)(h1:0<a.size)(h2:0<b.size)
 (hF:∀y∈b.toList.take 1,∀x∈a.toList,k y<=k x)(hL:∀y∈b.toList,∀x∈a.toList.drop (a.size-1),k y<=k x)(hq:∀r st',Sv st st'->Good k (a.toList++b.toList) r.toList->Q r st'):wpS (model prog w) A E s (lE a b) Q st:=by
 rw[Rx]
 unfold mhi
 obtain⟨n,hn⟩:∃n,a.size=n+1:=⟨a.size-1,by omega⟩
 have hna:n<a.size:=by omega
 have en:a.size-1=n:=by omega
 rw[en] at hL ⊢
 refine wpS_bind (ig (wpS_bind (Ĺ hna ?_)))
 have mh0:lG k (a.toList++b.toList) a b #[] (n+1) b.size:=by
  unfold lG
  rw[List.take_of_length_le (by simp;omega),List.take_of_length_le (by simp)]
  exact⟨by simp,.nil,sa,sb,λx _ y hy=>by simp at hy,λx _ y hy=>by simp at hy⟩
 have mh:lG k (a.toList++b.toList) a b #[a[n]] n b.size:=vJ mh0 hna λy hy=>hL y (List.mem_of_mem_take hy) _ (by rw[dw hna];exact .head _)
 by_cases he:n=0
 ·subst he
  rw[if_pos (by decide)]
  exact wpS_pure (hq _ _ (Sv.refl _) (Iz mh))
 ·rw[if_neg (by simpa using he)]
  by_cases he2:b.size=1
  ·rw[if_pos (by simpa using he2)]
   rw[he2] at mh ⊢
   exact wpS_pure (hq _ _ (Sv.refl _) (IK hF mh))
  ·rw[if_neg (by simpa using he2)]
   refine wpS_bind (wpS_get ?_)
   refine wpS_bind (wpS_mono (wpS_forRange (I:=λx (c:T3) st'=>Sv st st'/\c.1=none/\uH k (a.toList++b.toList) a b c.2.2.2.1 c.2.1 c.2.2.1/\x+(c.2.1+c.2.2.1)<=a.size+b.size) (Q:=λ(c:T3) st'=>Sv st st'/\∃r,c.1=some r/\Good k (a.toList++b.toList) r.toList) ?step ?fin ⟨Sv.refl _,rfl,⟨by dsimp only;omega,by dsimp only;omega,by dsimp only;omega,Nat.le_refl _,mh⟩,by dsimp only;omega⟩) ?post)
   case fin=>
    rintro c st' ⟨_,_,z,z2⟩
    have:=z.i0
    omega
   case step=>
    rintro x ⟨c1,i',j',o',g'⟩ st' _ hxn ⟨sv,rfl,h',hx⟩
    dsimp only at h' hx
    obtain⟨m,hm⟩:∃m,a.size+b.size-x=m+1:=⟨a.size+b.size-x-1,by omega⟩
    refine wpS_mono (RD (m:=m) hc (sv.kind.trans hk) ha hb hF h' (by omega)) λr st2 ⟨Xd,z⟩=>?_
    cases r with
    |done q=>exact⟨sv.trans Xd,z⟩
    |yield q=>exact⟨sv.trans Xd,z.1,z.2.1,by have:=z.2.2;omega⟩
   case post=>
    rintro ⟨c1,c2⟩ st' ⟨sv,r,e,hg⟩
    dsimp only at e
    subst e
    exact wpS_pure (hq r st' sv hg)
end
end gF
namespace gF
open PySem PyProof.Rows
abbrev CA:=Option (Option Nat)×Nat
abbrev CD:=Option (Option Nat)×Nat×Nat
def IV(lo a nrem:Nat):SM CA:=
 forIn [a:nrem] ((none,a):CA) λ_ q=>ltAt' (lo+q.2) (lo+q.2-1) >>= λr=>match r with
  |some c=>if c=true then pure (.done (none,q.2)) else pure (.yield (none,q.2+1))
  |_=>pure (.done (some none,q.2))
def xT(lo n nrem:Nat):SM (Option Nat):=
 reverseSlice' lo (lo+n) >>= λ_=>IV lo n nrem >>= λq=>match q.1 with
  |some r=>pure r
  |none=>pure (some q.2)
def Dw(lo n nrem:Nat):SM CD:=
 forIn [n:nrem] ((none,n,0):CD) λ_ q=>ltAt' (lo+q.2.1) (lo+q.2.1-1) >>= λr=>match r with
  |some c=>if c=true then(if q.2.2>0 then reverseSlice' (lo+q.2.1-(q.2.2+1)) (lo+q.2.1) >>= λ_=>pure (.yield (none,q.2.1+1,0)) else pure (.yield (none,q.2.1+1,0)))
   else ltAt' (lo+q.2.1-1) (lo+q.2.1) >>= λr=>match r with
    |some c=>if c=true then pure (.done (none,q.2.1,q.2.2)) else pure (.yield (none,q.2.1+1,q.2.2+1))
    |_=>pure (.done (some none,q.2.1,q.2.2))
  |_=>pure (.done (some none,q.2.1,q.2.2))
def xU(lo n nrem:Nat):SM (Option Nat):=
 liftM (rule "list.sort.descending-run") >>= λ_=>Dw lo (n+1) nrem >>= λq=>match q.1 with
  |some r=>pure r
  |none=>if q.2.2>0 then reverseSlice' (lo+q.2.1-(q.2.2+1)) (lo+q.2.1) >>= λ_=>xT lo q.2.1 nrem else xT lo q.2.1 nrem
def Xh(lo nrem:Nat):SM (Option Nat):=
 IV lo 1 nrem >>= λq=>match q.1 with
  |some r=>pure r
  |none=>if(q.2== nrem)=true then pure (some q.2) else if q.2>1 then ltAt' lo (lo+q.2-1) >>= fun r=>(match r with
    |some c=>if c=true then pure (some q.2) else reverseSlice' lo (lo+q.2) >>= λ_=>xU lo q.2 nrem
    |_=>pure none)
   else xU lo q.2 nrem
def IW(lo nrem:Nat):countRun' lo nrem=Xh lo nrem:=by kernel_rfl
section
variable{prog:Program}{w:World}{A:Around}{E:Value->Shared->Prop}{s:Shared}{st st0:SortSt}{κ:SortKind}{k:Keyed->Int}{D:Keyed->Prop}{lo n nrem:Nat}
def kx(k:Keyed->Int)(xs:Array Keyed)(i:Nat):Int:=match xs[i]? with
 |some x=>k x
 |none=>0
def cM{xs ys:Array Keyed}{i j:Nat}(h:xs[i]?=ys[j]?):kx k xs i=kx k ys j:=by unfold kx;rw[h]
structure Fm(κ:SortKind)(D:Keyed->Prop)(lo:Nat)(st0 st:SortSt):Prop where
 kind:kindOf st=κ
 pend:pendingOf st=pendingOf st0
 fail:failedOf st=failedOf st0
 perm:(arrOf st).Perm (arrOf st0)
 low:∀i,i<lo->(arrOf st)[i]?=(arrOf st0)[i]?
 dom:∀x∈(arrOf st0).toList,D x
theorem Fm.size(h:Fm κ D lo st0 st):(arrOf st).size=(arrOf st0).size:=h.perm.size_eq
def Fm.set{xs:Array Keyed}(h:Fm κ D lo st0 st)(hp:xs.Perm (arrOf st))(hl:∀i,i<lo->xs[i]?=(arrOf st)[i]?):Fm κ D lo st0 (setArr st xs):=
 ⟨h.kind,h.pend,h.fail,hp.trans h.perm,λi hi=>(hl i hi).trans (h.low i hi),h.dom⟩
def DN(hc:h_ prog w A s κ k D)(h:Fm κ D lo st0 st){i j:Nat}(hi:i<(arrOf st0).size)(hj:j<(arrOf st0).size){Q:Option Bool->SortSt->Prop}(hq:Q (some (decide (kx k (arrOf st) i<kx k (arrOf st) j))) st):wpS (model prog w) A E s (ltAt' i j) Q st:=by
 have hi':i<(arrOf st).size:=by rw[h.size];exact hi
 have hj':j<(arrOf st).size:=by rw[h.size];exact hj
 have hd:∀x∈(arrOf st).toList,D x:=λx hx=>h.dom x (h.perm.toList.mem_iff.mp hx)
 rw[ltAt'_eq]
 refine wpS_bind (wpS_get (wpS_bind (Ĺ hi' (wpS_bind (Ĺ hj' (w_lt hc h.kind (hd _ (by simp)) (hd _ (by simp)) ?_))))))
 unfold kx at hq
 rw[Array.getElem?_eq_getElem hi',Array.getElem?_eq_getElem hj'] at hq
 exact hq
def w_rev{i j:Nat}{Q:Unit->SortSt->Prop}(h:Q () (setArr st (mirror (arrOf st) i j ((j-i) / 2)))):wpS (model prog w) A E s (reverseSlice' i j) Q st:=by
 rw[reverseSlice'_eq]
 exact wpS_modify h
def vK{xs:Array Keyed}{i j:Nat}(hj:j<=xs.size)(m:Nat):kx k (mirror xs i j ((j-i) / 2)) m=if i<=m/\m<j then kx k xs (i+j-1-m) else kx k xs m:=by
 have e:=getElem?_mirror_all (i:=i) hj m
 by_cases h1:i<=m/\m<j
 ·rw[if_pos h1] at e ⊢;exact cM e
 ·rw[if_neg h1] at e ⊢;exact cM e
def aY{xs:Array Keyed}{i j:Nat}(hj:j<=xs.size)(heq:∀m,i<=m->m<j->kx k xs m=kx k xs (j-1))(m:Nat):kx k (mirror xs i j ((j-i) / 2)) m=kx k xs m:=by
 rw[vK hj]
 split
 ·rw[heq _ (by omega) (by omega),heq m (by omega) (by omega)]
 ·rfl
def Fm.mir(h:Fm κ D lo st0 st){i j:Nat}(hi:lo<=i)(hj:j<=(arrOf st0).size):Fm κ D lo st0 (setArr st (mirror (arrOf st) i j ((j-i) / 2))):=
 h.set (mirror_perm _ _ _ _) λm hm=>by rw[getElem?_mirror_all (by rw[h.size];exact hj),if_neg (by omega)]
def Up(k:Keyed->Int)(xs:Array Keyed)(lo n:Nat):Prop:=∀i j,i<=j->j<n->kx k xs (lo+i)<=kx k xs (lo+j)
def Dn(k:Keyed->Int)(xs:Array Keyed)(lo n:Nat):Prop:=∀i j,i<=j->j<n->kx k xs (lo+j)<=kx k xs (lo+i)
def Up.one(xs:Array Keyed)(lo:Nat):Up k xs lo 1:=λi j h1 h2=>by
 have:i=j:=by omega
 subst this
 exact Int.le_refl _
def xV{a:Nat}{Q:CA->SortSt->Prop}(hc:h_ prog w A s κ k D)(hn:lo+nrem<=(arrOf st0).size)(ha:1<=a)(han:a<=nrem)(hF:Fm κ D lo st0 st)(hs:Up k (arrOf st) lo a)
 (h:∀n,a<=n->n<=nrem->Up k (arrOf st) lo n->(n=nrem\/kx k (arrOf st) (lo+n)<kx k (arrOf st) (lo+n-1))->Q (none,n) st):wpS (model prog w) A E s (IV lo a nrem) Q st:=by
 unfold IV
 refine wpS_forRange (I:=λx c st'=>st'=st/\c=(none,x)/\Up k (arrOf st) lo x) ?step ?fin ⟨rfl,rfl,hs⟩
 case fin=>
  rintro c st' ⟨rfl,rfl,hs'⟩
  rw[show max a nrem=nrem by omega] at hs' ⊢
  exact h nrem han (Nat.le_refl _) hs' (.inl rfl)
 case step=>
  rintro x c st' hax hxn ⟨rfl,rfl,hs'⟩
  dsimp only
  refine wpS_bind (DN hc hF (by omega) (by omega) ?_)
  by_cases hl:kx k (arrOf st') (lo+x)<kx k (arrOf st') (lo+x-1)
  ·rw[decide_eq_true hl]
   dsimp only
   rw[if_pos rfl]
   exact wpS_pure (h x hax (by omega) hs' (.inr hl))
  ·rw[decide_eq_false hl]
   dsimp only
   rw[if_neg Bool.false_ne_true]
   refine wpS_pure ⟨rfl,rfl,λi j hij hj=>?_⟩
   by_cases hjx:j<x
   ·exact hs' i j hij hjx
   ·have e:j=x:=by omega
    subst e
    by_cases e2:i=j
    ·subst e2;exact Int.le_refl _
    ·have z:=hs' i (j-1) (by omega) (by omega)
     rw[show lo+(j-1)=lo+j-1 by omega] at z
     omega
def sW{Q:Option Nat->SortSt->Prop}(hc:h_ prog w A s κ k D)(hn:lo+nrem<=(arrOf st0).size)(h1:1<=n)(hnn:n<=nrem)(hF:Fm κ D lo st0 st)(hs:Dn k (arrOf st) lo n)
 (h:∀m st',Fm κ D lo st0 st'->1<=m->m<=nrem->Up k (arrOf st') lo m->Q (some m) st'):wpS (model prog w) A E s (xT lo n nrem) Q st:=by
 unfold xT
 have hsz:lo+n<=(arrOf st).size:=by rw[hF.size];omega
 refine wpS_bind (w_rev ?_)
 have hF':=hF.mir (i:=lo) (j:=lo+n) (Nat.le_refl _) (by omega)
 refine wpS_bind (xV hc hn h1 hnn hF' ?_ λm m1 m2 m3 _=>wpS_pure (h m _ hF' (by omega) m2 m3))
 intro i j hij hj
 show kx k (mirror (arrOf st) lo (lo+n) ((lo+n-lo) / 2)) (lo+i)<=kx k (mirror (arrOf st) lo (lo+n) ((lo+n-lo) / 2)) (lo+j)
 rw[vK hsz,vK hsz,if_pos (by omega),if_pos (by omega)]
 have:=hs (n-1-j) (n-1-i) (by omega) (by omega)
 rw[show lo+(lo+n)-1-(lo+i)=lo+(n-1-i) by omega,show lo+(lo+n)-1-(lo+j)=lo+(n-1-j) by omega]
 exact this
def DP{Q:CD->SortSt->Prop}(hc:h_ prog w A s κ k D)(hn:lo+nrem<=(arrOf st0).size)(h1:1<=n)(hnn:n<=nrem)(hF:Fm κ D lo st0 st)(hs:Dn k (arrOf st) lo n)
 (h:∀m q st',Fm κ D lo st0 st'->n<=m->m<=nrem->Dn k (arrOf st') lo m->q+1<=m->(∀i,lo+m-(q+1)<=i->i<lo+m->kx k (arrOf st') i=kx k (arrOf st') (lo+m-1))->Q (none,m,q) st'):wpS (model prog w) A E s (Dw lo n nrem) Q st:=by
 unfold Dw
 refine wpS_forRange (I:=λx c st'=>∃q,c=(none,x,q)/\Fm κ D lo st0 st'/\Dn k (arrOf st') lo x/\q+1<=x/\(∀i,lo+x-(q+1)<=i->i<lo+x->kx k (arrOf st') i=kx k (arrOf st') (lo+x-1))) ?step ?fin ⟨0,rfl,hF,hs,by omega,λi z1 z2=>by congr 1;omega⟩
 case fin=>
  rintro c st' ⟨q,rfl,hF',hs',hq,he⟩
  rw[show max n nrem=nrem by omega] at hs' hq he ⊢
  exact h nrem q st' hF' hnn (Nat.le_refl _) hs' hq he
 case step=>
  rintro x c st' hax hxn ⟨q,rfl,hF',hs',hq,he⟩
  dsimp only
  have hsz:lo+x<=(arrOf st').size:=by rw[hF'.size];omega
  refine wpS_bind (DN hc hF' (by omega) (by omega) ?_)
  by_cases hl:kx k (arrOf st') (lo+x)<kx k (arrOf st') (lo+x-1)
  ·rw[decide_eq_true hl]
   dsimp only
   rw[if_pos rfl]
   have step1:∀xs:Array Keyed,(∀m,kx k xs m=kx k (arrOf st') m)->Dn k xs lo (x+1):=by
    intro xs hk i j hij hj
    rw[hk,hk]
    by_cases hjx:j<x
    ·exact hs' i j hij hjx
    ·have e:j=x:=by omega
     subst e
     by_cases e2:i=j
     ·subst e2;exact Int.le_refl _
     ·have z:=hs' i (j-1) (by omega) (by omega)
      rw[show lo+(j-1)=lo+j-1 by omega] at z
      omega
   by_cases hq0:q>0
   ·rw[if_pos hq0]
    exact wpS_bind (w_rev (wpS_pure ⟨0,rfl,hF'.mir (by omega) (by omega),step1 _ (aY hsz he),by omega,λi z1 z2=>by congr 1;omega⟩))
   ·rw[if_neg hq0]
    exact wpS_pure ⟨0,rfl,hF',step1 _ (λ_=>rfl),by omega,λi z1 z2=>by congr 1;omega⟩
  ·rw[decide_eq_false hl]
   dsimp only
   rw[if_neg Bool.false_ne_true]
   refine wpS_bind (DN hc hF' (by omega) (by omega) ?_)
   by_cases hg:kx k (arrOf st') (lo+x-1)<kx k (arrOf st') (lo+x)
   ·rw[decide_eq_true hg]
    dsimp only
    rw[if_pos rfl]
    exact wpS_pure (h x q st' hF' hax (by omega) hs' hq he)
   ·rw[decide_eq_false hg]
    dsimp only
    rw[if_neg Bool.false_ne_true]
    have heq:kx k (arrOf st') (lo+x)=kx k (arrOf st') (lo+x-1):=by omega
    refine wpS_pure ⟨q+1,rfl,hF',λi j hij hj=>?_,by omega,λi z1 z2=>?_⟩
    ·by_cases hjx:j<x
     ·exact hs' i j hij hjx
     ·have e:j=x:=by omega
      subst e
      by_cases e2:i=j
      ·subst e2;exact Int.le_refl _
      ·rw[heq]
       have z:=hs' i (j-1) (by omega) (by omega)
       rw[show lo+(j-1)=lo+j-1 by omega] at z
       exact z
    ·rw[show lo+(x+1)-1=lo+x by omega]
     by_cases e:i=lo+x
     ·subst e;rfl
     ·rw[heq];exact he i (by omega) (by omega)
def sZ{Q:Option Nat->SortSt->Prop}(hc:h_ prog w A s κ k D)(hn:lo+nrem<=(arrOf st0).size)(hnn:n+1<=nrem)(hF:Fm κ D lo st0 st)(hs:Dn k (arrOf st) lo (n+1))
 (h:∀m st',Fm κ D lo st0 st'->1<=m->m<=nrem->Up k (arrOf st') lo m->Q (some m) st'):wpS (model prog w) A E s (xU lo n nrem) Q st:=by
 unfold xU
 refine wpS_bind (ig ?_)
 refine wpS_bind (DP hc hn (by omega) hnn hF hs λm q st' hF' m1 m2 hs' hq he=>?_)
 dsimp only
 have hsz:lo+m<=(arrOf st').size:=by rw[hF'.size];omega
 by_cases hq0:q>0
 ·rw[if_pos hq0]
  refine wpS_bind (w_rev (sW hc hn (by omega) m2 (hF'.mir (by omega) (by omega)) ?_ h))
  intro i j hij hj
  show kx k (mirror (arrOf st') _ _ _) (lo+j)<=kx k (mirror (arrOf st') _ _ _) (lo+i)
  rw[aY hsz he,aY hsz he]
  exact hs' i j hij hj
 ·rw[if_neg hq0]
  exact sW hc hn (by omega) m2 hF' hs' h
def I_{Q:Option Nat->SortSt->Prop}(hc:h_ prog w A s κ k D)(hn:lo+nrem<=(arrOf st0).size)(h1:1<=nrem)(hF:Fm κ D lo st0 st)
 (h:∀m st',Fm κ D lo st0 st'->1<=m->m<=nrem->Up k (arrOf st') lo m->Q (some m) st'):wpS (model prog w) A E s (countRun' lo nrem) Q st:=by
 rw[IW]
 unfold Xh
 refine wpS_bind (xV hc hn (Nat.le_refl 1) h1 hF (Up.one _ _) λn n1 n2 hsn hor=>?_)
 dsimp only
 by_cases hnn:n=nrem
 ·rw[if_pos (by simpa using hnn)]
  exact wpS_pure (h n st hF n1 n2 hsn)
 ·rw[if_neg (by simpa using hnn)]
  have hlt:=hor.resolve_left hnn
  by_cases hgt:n>1
  ·rw[if_pos hgt]
   refine wpS_bind (DN hc hF (by omega) (by omega) ?_)
   by_cases hr:kx k (arrOf st) lo<kx k (arrOf st) (lo+n-1)
   ·rw[decide_eq_true hr]
    dsimp only
    rw[if_pos rfl]
    exact wpS_pure (h n st hF n1 n2 hsn)
   ·rw[decide_eq_false hr]
    dsimp only
    rw[if_neg Bool.false_ne_true]
    have hsz:lo+n<=(arrOf st).size:=by rw[hF.size];omega
    have hall:∀m,lo<=m->m<lo+n->kx k (arrOf st) m=kx k (arrOf st) (lo+n-1):=by
     intro m m1 m2
     have a1:=hsn 0 (m-lo) (by omega) (by omega)
     have a2:=hsn (m-lo) (n-1) (by omega) (by omega)
     rw[show lo+(m-lo)=m by omega] at a1 a2
     rw[show lo+(n-1)=lo+n-1 by omega] at a2
     rw[Nat.add_zero] at a1
     omega
    refine wpS_bind (w_rev (sZ hc hn (by omega) (hF.mir (Nat.le_refl _) (by omega)) ?_ h))
    intro i j hij hj
    show kx k (mirror (arrOf st) _ _ _) (lo+j)<=kx k (mirror (arrOf st) _ _ _) (lo+i)
    rw[aY hsz hall,aY hsz hall]
    by_cases hjn:j<n
    ·rw[hall (lo+i) (by omega) (by omega),hall (lo+j) (by omega) (by omega)];exact Int.le_refl _
    ·have e:j=n:=by omega
     subst e
     by_cases e2:i=j
     ·subst e2;exact Int.le_refl _
     ·rw[hall (lo+i) (by omega) (by omega)];exact Int.le_of_lt hlt
  ·rw[if_neg hgt]
   have e:n=1:=by omega
   subst e
   refine sZ hc hn (by omega) hF ?_ h
   intro i j hij hj
   by_cases e2:i=j
   ·subst e2;exact Int.le_refl _
   ·have i0:i=0:=by omega
    have j1:j=1:=by omega
    subst i0;subst j1
    exact Int.le_of_lt hlt
end
end gF
namespace gF
open PySem PyProof.Rows
def DQ:Nat->Nat->Nat->SM Bool:=sortPriv% PySem.Builtin.binarySort
abbrev BS:=Option Bool×Nat×Nat
def vL(lo n:Nat):SM BS:=
 forIn [:n] ((none,0,n):BS) λ_ q=>if q.2.1 >= q.2.2 then pure (.done (none,q.2.1,q.2.2)) else ltAt' (lo+n) (lo+(q.2.1+q.2.2) / 2) >>= λr=>match r with
  |some c=>if c=true then pure (.yield (none,q.2.1,(q.2.1+q.2.2) / 2)) else pure (.yield (none,(q.2.1+q.2.2) / 2+1,q.2.2))
  |_=>pure (.done (some false,q.2.1,q.2.2))
def Ks(lo n ok:Nat):SM Bool:=
 (forIn [max ok 1:n] ((none,()):Option Bool×Unit) fun i _=>vL lo i >>= fun q=>match q.1 with
   |some r=>pure (.done (some r,()))
   |none=>moveDown' (lo+i) (lo+q.2.1) >>= λ_=>pure (.yield (none,()))) >>= λq=>match q.1 with
   |some r=>pure r
   |none=>pure true
def DR(lo n ok:Nat):DQ lo n ok=Ks lo n ok:=by kernel_rfl
section
variable{prog:Program}{w:World}{A:Around}{E:Value->Shared->Prop}{s:Shared}{st st0:SortSt}{κ:SortKind}{k:Keyed->Int}{D:Keyed->Prop}{lo n:Nat}
def zN{Q:BS->SortSt->Prop}(hc:h_ prog w A s κ k D)(hn:lo+n<(arrOf st0).size)(hF:Fm κ D lo st0 st)(hs:Up k (arrOf st) lo n)
 (h:∀l,l<=n->(∀i,i<l->kx k (arrOf st) (lo+i)<=kx k (arrOf st) (lo+n))->(∀i,l<=i->i<n->kx k (arrOf st) (lo+n)<kx k (arrOf st) (lo+i))->Q (none,l,l) st):wpS (model prog w) A E s (vL lo n) Q st:=by
 unfold vL
 refine wpS_mono (wpS_forRange (I:=λx (c:BS) st'=>st'=st/\∃l r,c=(none,l,r)/\l<=r/\r<=n/\r-l<=n-x/\(∀i,i<l->kx k (arrOf st) (lo+i)<=kx k (arrOf st) (lo+n))/\(∀i,r<=i->i<n->kx k (arrOf st) (lo+n)<kx k (arrOf st) (lo+i)))
  (Q:=λ(c:BS) st'=>st'=st/\∃l,c=(none,l,l)/\l<=n/\(∀i,i<l->kx k (arrOf st) (lo+i)<=kx k (arrOf st) (lo+n))/\(∀i,l<=i->i<n->kx k (arrOf st) (lo+n)<kx k (arrOf st) (lo+i))) ?step ?fin ⟨rfl,0,n,rfl,by omega,by omega,by omega,λi z=>by omega,λi z1 z2=>by omega⟩) ?post
 case fin=>
  rintro c st' ⟨rfl,l,r,rfl,a1,a2,a3,a4,a5⟩
  have e:l=r:=by omega
  subst e
  exact⟨rfl,l,rfl,a2,a4,a5⟩
 case step=>
  rintro x c st' _ hx ⟨rfl,l,r,rfl,a1,a2,a3,a4,a5⟩
  dsimp only
  by_cases hl:l >= r
  ·rw[if_pos hl]
   have e:l=r:=by omega
   subst e
   exact wpS_pure ⟨rfl,l,rfl,a2,a4,a5⟩
  ·rw[if_neg hl]
   refine wpS_bind (DN hc hF (by omega) (by omega) ?_)
   by_cases hw:kx k (arrOf st') (lo+n)<kx k (arrOf st') (lo+(l+r) / 2)
   ·rw[decide_eq_true hw]
    dsimp only
    rw[if_pos rfl]
    refine wpS_pure ⟨rfl,_,_,rfl,by omega,by omega,by omega,a4,λi z1 z2=>?_⟩
    exact Int.lt_of_lt_of_le hw (hs _ i z1 z2)
   ·rw[decide_eq_false hw]
    dsimp only
    rw[if_neg Bool.false_ne_true]
    refine wpS_pure ⟨rfl,_,_,rfl,by omega,by omega,by omega,λi z=>?_,a5⟩
    exact Int.le_trans (hs i _ (by omega) (by omega)) (Int.not_lt.mp hw)
 case post=>
  rintro c st' ⟨rfl,l,rfl,z1,z2,z3⟩
  exact h l z1 z2 z3
def DW{xs:Array Keyed}{src d:Nat}(hs:src<xs.size)(hd:d<=src)(m:Nat):kx k (bubble xs src d) m=if m=src-d then kx k xs src else if src-d<m/\m<=src then kx k xs (m-1) else kx k xs m:=by
 have e:=getElem?_bubble hs d hd m
 by_cases h1:m=src-d
 ·rw[if_pos h1] at e ⊢;exact cM e
 ·rw[if_neg h1] at e ⊢
  by_cases h2:src-d<m/\m<=src
  ·rw[if_pos h2] at e ⊢;exact cM e
  ·rw[if_neg h2] at e ⊢;exact cM e
def D_{ok:Nat}{Q:Bool->SortSt->Prop}(hc:h_ prog w A s κ k D)(hn:lo+n<=(arrOf st0).size)(h1:1<=ok)(hok:ok<=n)(hF:Fm κ D lo st0 st)(hs:Up k (arrOf st) lo ok)
 (h:∀st',Fm κ D lo st0 st'->Up k (arrOf st') lo n->Q true st'):wpS (model prog w) A E s (DQ lo n ok) Q st:=by
 rw[DR]
 unfold Ks
 refine wpS_bind (wpS_mono (wpS_forRange (I:=λx (c:Option Bool×Unit) st'=>c=(none,())/\Fm κ D lo st0 st'/\Up k (arrOf st') lo x) (Q:=λc st'=>c=(none,())/\Fm κ D lo st0 st'/\Up k (arrOf st') lo n) ?step ?fin ⟨rfl,hF,by rw[show max ok 1=ok by omega];exact hs⟩) ?post)
 case fin=>
  rintro c st' ⟨rfl,z1,z2⟩
  rw[show max (max ok 1) n=n by omega] at z2
  exact⟨rfl,z1,z2⟩
 case step=>
  rintro x c st' hax hxn ⟨rfl,hF',hs'⟩
  refine wpS_bind (zN hc (by omega) hF' hs' λl hl c1 c2=>?_)
  dsimp only
  have hsz:lo+x<(arrOf st').size:=by rw[hF'.size];omega
  rw[moveDown'_eq]
  refine wpS_bind (wpS_modify (wpS_pure ⟨rfl,hF'.set (bubble_perm _ _ _) λi hi=>?_,λi j hij hj=>?_⟩))
  ·rw[getElem?_bubble hsz _ (by omega),if_neg (by omega),if_neg (by omega)]
  ·show kx k (bubble (arrOf st') (lo+x) (lo+x-(lo+l))) (lo+i)<=kx k (bubble (arrOf st') (lo+x) (lo+x-(lo+l))) (lo+j)
   rw[DW hsz (by omega),DW hsz (by omega)]
   have e0:lo+x-(lo+x-(lo+l))=lo+l:=by omega
   rw[e0]
   by_cases i1:i=l
   ·rw[if_pos (by omega)]
    by_cases j1:j=l
    ·rw[if_pos (by omega)];exact Int.le_refl _
    ·rw[if_neg (by omega),if_pos (by omega)]
     have:=c2 (j-1) (by omega) (by omega)
     rw[show lo+(j-1)=lo+j-1 by omega] at this
     exact Int.le_of_lt this
   ·rw[if_neg (by omega)]
    by_cases i2:l<i
    ·rw[if_pos (by omega),if_neg (by omega),if_pos (by omega)]
     have:=hs' (i-1) (j-1) (by omega) (by omega)
     rw[show lo+(i-1)=lo+i-1 by omega,show lo+(j-1)=lo+j-1 by omega] at this
     exact this
    ·rw[if_neg (by omega)]
     by_cases j1:j=l
     ·rw[if_pos (by omega)]
      exact c1 i (by omega)
     ·rw[if_neg (by omega)]
      by_cases j2:l<j
      ·rw[if_pos (by omega)]
       have:=hs' i (j-1) (by omega) (by omega)
       rw[show lo+(j-1)=lo+j-1 by omega] at this
       exact this
      ·rw[if_neg (by omega)]
       exact hs' i j hij (by omega)
 case post=>
  rintro c st' ⟨rfl,z1,z2⟩
  exact wpS_pure (h st' z1 z2)
end
end gF
namespace gF
open PySem PyProof.Rows
def wr(sa:Nat)(m:Array Keyed)(xs:Array Keyed):Array Keyed:=m.toList.zipIdx.foldl (λa z=>match z with|(p,j)=>a.setIfInBounds (sa+j) p) xs
def mWr(sa:Nat)(m:Array Keyed):SM Bool:=modify (λs=>setArr s (wr sa m (arrOf s))) >>= λ_=>get >>= λs=>pure (failedOf s).isNone
def mAt(i:Nat):SM Bool:=get >>= λs=>match((pendingOf s)[i]?,(pendingOf s)[i+1]?) with
 |(some (sa,na,p),some (sb,nb,_))=>set (setPending s (((pendingOf s).setIfInBounds i (sa,na+nb,p)).eraseIdxIfInBounds (i+1))) >>= λ_=>
  elem' (arrOf s) sb >>= λy=>aA false y (arrOf s) sa na 0 >>= λr=>match r with
   |some r=>if(na-r== 0)=true then pure true else elem' (arrOf s) (sa+r+(na-r)-1) >>= λx=>aA true x (arrOf s) sb nb (nb-1) >>= λq=>(match q with
    |some q=>if(q== 0)=true then pure true else if na-r<=q then lC ((arrOf s).extract (sa+r) sb) ((arrOf s).extract sb (sb+q)) >>= λm=>mWr (sa+r) m
     else lE ((arrOf s).extract (sa+r) sb) ((arrOf s).extract sb (sb+q)) >>= λm=>mWr (sa+r) m
    |_=>pure false)
   |_=>pure false
 |_=>liftM (unsupported "internal:list.sort.pending")
def RK(i:Nat):mergeAt' i=mAt i:=by kernel_rfl
theorem Ku(sa:Nat):∀(l:List Keyed) (o:Nat) (xs:Array Keyed),sa+o+l.length<=xs.size->((l.zipIdx o).foldl (λ(a:Array Keyed) (z:Keyed×Nat)=>match z with|(p,j)=>a.setIfInBounds (sa+j) p) xs).toList=xs.toList.take (sa+o)++l++xs.toList.drop (sa+o+l.length)
 | [],o,xs,_=>by simp
 |x::l,o,xs,h=>by
  rw[List.zipIdx_cons,List.foldl_cons]
  dsimp only
  have hl:sa+o<xs.toList.length:=by simp at h ⊢;omega
  rw[show sa+o+(x::l).length=sa+(o+1)+l.length by simp;omega] at h ⊢
  rw[Ku sa l (o+1) _ (by simpa using h)]
  have e1:(xs.setIfInBounds (sa+o) x).toList=xs.toList.set (sa+o) x:=by simp
  rw[e1,List.drop_set_of_lt (by omega),show sa+(o+1)=(sa+o)+1 by omega,List.take_add_one,List.take_set_of_le (Nat.le_refl _),List.getElem?_set_self hl]
  simp
def Xi(sa:Nat)(m xs:Array Keyed)(h:sa+m.size<=xs.size):(wr sa m xs).toList=xs.toList.take sa++m.toList++xs.toList.drop (sa+m.size):=by
 have:=Ku sa m.toList 0 xs (by simpa using h)
 simpa[wr] using this
section
variable{prog:Program}{w:World}{A:Around}{E:Value->Shared->Prop}{s:Shared}{st:SortSt}{κ:SortKind}{k:Keyed->Int}{D:Keyed->Prop}
def Ea{xs:Array Keyed}{P:List Keyed}{x:Keyed}{T:List Keyed}(h:xs.toList=P++x::T){i:Nat}(hi:P.length=i):∃(hl:i<xs.size),xs[i]=x:=by
 have hl:i<xs.size:=by
  have:=congrArg List.length h
  simp at this
  omega
 refine⟨hl,?_⟩
 have:xs.toList[i]?=some x:=by
  rw[h,List.getElem?_append_right (by omega),hi,Nat.sub_self]
  rfl
 rw[Array.getElem?_toList,Array.getElem?_eq_getElem hl] at this
 exact Option.some.inj this
def RM{i sa na p nb p2:Nat}{P Al Bl T:List Keyed}{Q:Bool->SortSt->Prop}(hc:h_ prog w A s κ k D)(hk:kindOf st=κ)(hf:failedOf st=none)(hD:∀x∈(arrOf st).toList,D x)(h1:(pendingOf st)[i]?=some (sa,na,p))(h2:(pendingOf st)[i+1]?=some (sa+na,nb,p2))
 (hL:(arrOf st).toList=P++(Al++(Bl++T)))(lP:P.length=sa)(lA:Al.length=na)(lB:Bl.length=nb)(a0:0<na)(b0:0<nb)(sA:cL k Al)(sB:cL k Bl)
 (hq:∀st' C,kindOf st'=κ->failedOf st'=none->pendingOf st'=((pendingOf st).setIfInBounds i (sa,na+nb,p)).eraseIdxIfInBounds (i+1)->(arrOf st').toList=P++(C++T)->C.Perm (Al++Bl)->cL k C->Q true st'):wpS (model prog w) A E s (mergeAt' i) Q st:=by
 rw[RK]
 unfold mAt
 refine wpS_bind (wpS_get ?_)
 rw[h1,h2]
 dsimp only
 obtain⟨y,B',hB⟩:∃y B',Bl=y::B':=by cases Bl with
  |nil=>simp at lB;omega
  |cons y B'=>exact⟨y,B',rfl⟩
 obtain⟨A',z,hA⟩:∃A' z,Al=A' ++ [z]:=⟨Al.dropLast,Al.getLast (by intro e;subst e;simp at lA;omega),(List.dropLast_concat_getLast _).symm⟩
 have Zce:∀{Q:PUnit->SortSt->Prop} (st1:SortSt),Q ⟨⟩ st1->wpS (model prog w) A E s (set st1:SM PUnit) Q st:=λst1 hq=>by
  unfold wpS
  rw[StateT.run_set]
  exact wpAny_pure ⟨rfl,hq⟩
 refine wpS_bind (Zce _ ?_)
 generalize Ja:setPending st (((pendingOf st).setIfInBounds i (sa,na+nb,p)).eraseIdxIfInBounds (i+1))=st1
 have k1:kindOf st1=κ:= by rw[<-Ja];exact hk
 have f1:failedOf st1=none:=by rw[<-Ja];exact hf
 have p1:pendingOf st1=((pendingOf st).setIfInBounds i (sa,na+nb,p)).eraseIdxIfInBounds (i+1):=by rw[<-Ja]
 have r1:arrOf st1=arrOf st:=by rw[<-Ja]
 generalize hxs:arrOf st=xs at *
 have hsz:sa+na+nb<=xs.size:=by
  have:=congrArg List.length hL
  simp at this
  omega
 have hdA:(xs.toList.drop sa).take na=Al:=by rw[hL,<-lP,List.drop_left,<-lA,List.take_left]
 have hdB:(xs.toList.drop (sa+na)).take nb=Bl:=by
  rw[hL,<-lP,<-lA,<-List.drop_drop,List.drop_left,List.drop_left,<-lB,List.take_left]
 obtain⟨hyl,hy⟩:=Ea (xs:=xs) (P:=P++Al) (x:=y) (T:=B'++T) (i:=sa+na) (by rw[hL,hB];simp) (by simp[lP,lA])
 refine wpS_bind (Ĺ hyl ?_)
 rw[hy]
 have Dy:D y:=hD y (by rw[hL,hB];simp)
 have Dz:D z:=hD z (by rw[hL,hA];simp)
 refine wpS_bind (oU hc k1 Dy hD (by omega) a0 (by rw[hdA];exact sA) λr hr c1 c2=>?_)
 simp only[Bool.false_eq_true,if_false] at c1 c2
 rw[hdA] at c2
 have c1':∀x∈Al.take r,k x<=k y:=λx hx=>c1 x (by
  rw[<-hdA,List.take_take,Nat.min_eq_left hr] at hx
  exact hx)
 dsimp only
 have yB:∀x∈Bl,k y<=k x:=by
  rw[hB] at sB ⊢
  intro x hx
  rcases List.mem_cons.mp hx with rfl|hx
  ·exact Int.le_refl _
  ·exact(List.pairwise_cons.mp sB).1 x hx
 have zA:∀x∈Al,k x<=k z:=by
  rw[hA] at sA ⊢
  intro x hx
  rcases List.mem_append.mp hx with hx|hx
  ·exact(List.pairwise_append.mp sA).2.2 x hx z (.head _)
  ·rw[List.mem_singleton.mp hx];exact Int.le_refl _
 by_cases e0:na-r=0
 ·rw[if_pos (by simpa using e0)]
  have er:Al.take r=Al:=List.take_of_length_le (by omega)
  rw[er] at c1'
  refine wpS_pure (hq st1 (Al++Bl) k1 f1 p1 (by rw[r1,hL];simp) (.refl _) (sA.app sB λx hx b hb=>Int.le_trans (c1' x hx) (yB b hb)))
 ·rw[if_neg (by simpa using e0)]
  obtain⟨hzl,hz⟩:=Ea (xs:=xs) (P:=P++A') (x:=z) (T:=Bl++T) (i:=sa+r+(na-r)-1) (by rw[hL,hA];simp) (by rw[hA] at lA;simp at lA ⊢;omega)
  refine wpS_bind (Ĺ hzl ?_)
  rw[hz]
  refine wpS_bind (oU hc k1 Dz hD (by omega) (by omega) (by rw[hdB];exact sB) λq hqn d1 d2=>?_)
  simp only[if_true] at d1 d2
  rw[hdB] at d2
  have d1':∀x∈Bl.take q,k x<k z:=λx hx=>d1 x (by
   rw[<-hdB,List.take_take,Nat.min_eq_left hqn] at hx
   exact hx)
  dsimp only
  by_cases q0:q=0
  ·rw[if_pos (by simpa using q0)]
   subst q0
   refine wpS_pure (hq st1 (Al++Bl) k1 f1 p1 (by rw[r1,hL];simp) (.refl _) (sA.app sB λx hx b hb=>Int.le_trans (zA x hx) (d2 b hb)))
  ·rw[if_neg (by simpa using q0)]
   have ex:(xs.extract (sa+r) (sa+na)).toList=Al.drop r:=by
    rw[ź,show sa+na-(sa+r)=na-r by omega,<-List.drop_drop,<-List.drop_take]
    rw[hdA]
   have ey:(xs.extract (sa+na) (sa+na+q)).toList=Bl.take q:=by
    rw[ź,show sa+na+q-(sa+na)=q by omega,<-hdB,List.take_take,Nat.min_eq_left hqn]
   generalize hX:xs.extract (sa+r) (sa+na)=X at ex
   generalize hY:xs.extract (sa+na) (sa+na+q)=Y at ey
   have zX:X.size=na-r:=by rw[<-Array.length_toList,ex,List.length_drop,lA]
   have zY:Y.size=q:=by rw[<-Array.length_toList,ey,List.length_take,lB];omega
   have DX:∀x∈X.toList,D x:=λx hx=>hD x (by rw[ex] at hx;rw[hL];simp[List.mem_of_mem_drop hx])
   have DY:∀x∈Y.toList,D x:=λx hx=>hD x (by rw[ey] at hx;rw[hL];simp[List.mem_of_mem_take hx])
   have sX:cL k X.toList:=by rw[ex];exact sA.sublist (List.drop_sublist _ _)
   have sY:cL k Y.toList:=by rw[ey];exact sB.sublist (List.take_sublist _ _)
   have hFh:∀b∈Y.toList.take 1,∀x∈X.toList,k b<=k x:=λb hb x hx=>by
    rw[ey,hB] at hb
    rw[ex] at hx
    have:b=y:=by
     have hq1:q=(q-1)+1:=by omega
     rw[hq1] at hb
     simpa using hb
    rw[this]
    exact Int.le_of_lt (c2 x hx)
   have hFl:∀(h0:0<Y.size),∀x∈X.toList,k Y[0]<=k x:=λh0 x hx=>hFh Y[0] (by
    rw[show Y.toList=Y[0]::Y.toList.drop 1 from by simpa using dw h0]
    exact .head _) x hx
   have hLl:∀b∈Y.toList,∀x∈X.toList.drop (X.size-1),k b<=k x:=λb hb x hx=>by
    rw[ex,zX,hA,List.drop_drop] at hx
    have la:A'.length+1=na:=by rw[hA] at lA;simpa using lA
    have:x=z:=by
     rw[show r+(na-r-1)=A'.length by omega,List.drop_left] at hx
     simpa using hx
    rw[this]
    rw[ey] at hb
    exact Int.le_of_lt (d1' b hb)
   have fin:∀(m:Array Keyed) (st2:SortSt),Sv st1 st2->Good k (X.toList++Y.toList) m.toList->wpS (model prog w) A E s (mWr (sa+r) m) Q st2:=by
    intro m st2 sv hg
    have mz:m.size=(na-r)+q:=by
     have:=hg.1.length_eq
     simp at this
     omega
    unfold mWr
    refine wpS_bind (wpS_modify (wpS_bind (wpS_get ?_)))
    have f2:failedOf st2=none:=sv.fail.trans f1
    show wpS _ _ _ _ (pure (failedOf st2).isNone) Q _
    rw[f2]
    have a2:arrOf st2=xs:=sv.arr.trans r1
    have hC:(wr (sa+r) m (arrOf st2)).toList=P++((Al.take r++m.toList++Bl.drop q)++T):=by
     rw[a2,Xi _ _ _ (by omega),hL]
     have t1:(P++(Al++(Bl++T))).take (sa+r)=P++Al.take r:=by
      rw[<-lP,List.take_length_add_append,List.take_append_of_le_length (by omega)]
     have t2:(P++(Al++(Bl++T))).drop (sa+r+m.size)=Bl.drop q++T:=by
      rw[show sa+r+m.size=P.length+(Al.length+q) by omega,<-List.drop_drop,List.drop_left,<-List.drop_drop,List.drop_left,List.drop_append_of_le_length (by omega)]
     rw[t1,t2]
     simp
    refine wpS_pure (hq _ (Al.take r++m.toList++Bl.drop q) (sv.kind.trans k1) f2 (sv.pend.trans p1) hC ?_ ?_)
    ·have g1:=hg.1
     rw[ex,ey] at g1
     refine((g1.append_left (Al.take r)).append_right (Bl.drop q)).trans ?_
     have e1:Al.take r++(Al.drop r++Bl.take q)++Bl.drop q=Al++Bl:=by
      rw[<-List.append_assoc,List.take_append_drop,List.append_assoc,List.take_append_drop]
     rw[e1]
    ·have mem:∀x∈m.toList,x∈Al.drop r∨x∈Bl.take q:=fun x hx=>by
      have:=hg.1.mem_iff.mp hx
      rw[ex,ey] at this
      exact List.mem_append.mp this
     refine cL.app (cL.app (sA.sublist (List.take_sublist _ _)) hg.2 λx hx b hb=>?_) (sB.sublist (List.drop_sublist _ _)) λx hx b hb=>?_
     ·rcases mem b hb with z1|z1
      ·have:=sA
       rw[<-List.take_append_drop r Al] at this
       exact(List.pairwise_append.mp this).2.2 x hx b z1
      ·exact Int.le_trans (c1' x hx) (yB b (List.mem_of_mem_take z1))
     ·rcases List.mem_append.mp hx with z1|z1
      ·exact Int.le_trans (zA x (List.mem_of_mem_take z1)) (d2 b hb)
      ·rcases mem x z1 with z2|z2
       ·exact Int.le_trans (zA x (List.mem_of_mem_drop z2)) (d2 b hb)
       ·have:=sB
        rw[<-List.take_append_drop q Bl] at this
        exact(List.pairwise_append.mp this).2.2 x z2 b hb
   split
   ·exact wpS_bind (Rw hc k1 DX DY sX sY (by omega) (by omega) (hFl (by omega)) hLl fin)
   ·exact wpS_bind (RJ hc k1 DX DY sX sY (by omega) (by omega) hFh hLl fin)
end
end gF
namespace gF
open PySem PyProof.Rows
abbrev OU:=Option Unit×Unit
def xW(lo n:Nat):SM (ForInStep (Option Unit×Nat)):=modify (λs=>setPending s ((pendingOf s).push (lo,n,0))) >>= λ_=>pure (.yield (none,lo+n))
def vM(size pw:Nat):SM OU:=forIn [:size] ((none,()):OU) λ_ _=>get >>= λs=>match(if(pendingOf s).size>1 then(pendingOf s)[(pendingOf s).size-2]? else none) with
 |some (_,_,o)=>if o<=pw then pure (.done (none,())) else mergeAt' ((pendingOf s).size-2) >>= λc=>if(!c)=true then pure (.done (some (),())) else pure (.yield (none,()))
 |_=>pure (.done (none,()))
def Jb(size lo n:Nat):SM (ForInStep (Option Unit×Nat)):=get >>= λs=>match(pendingOf s).back? with
 |some (s1,n1,_)=>vM size (power' size (2*s1+n1) (2*s1+n1+n1+n) size) >>= λq=>(match q.1 with
  |some r=>pure (.done (some r,lo))
  |none=>modify (λs=>setPending s ((pendingOf s).modify ((pendingOf s).size-1) λz=>match z with|(st,len,_)=>(st,len,power' size (2*s1+n1) (2*s1+n1+n1+n) size))) >>= λ_=>xW lo n)
 |_=>xW lo n
def Eb(size minrun:Nat)(q:Option Unit×Nat):SM (ForInStep (Option Unit×Nat)):=
 if q.2 >= size then pure (.done (none,q.2)) else countRun' q.2 (size-q.2) >>= λr=>match r with
  |some n=>if n<minrun then liftM (rule "list.sort.binary-insertion") >>= λ_=>DQ q.2 (min (size-q.2) minrun) n >>= λc=>(if(!c)=true then pure (.done (some (),q.2)) else Jb size q.2 (min (size-q.2) minrun)) else Jb size q.2 n
  |_=>pure (.done (some (),q.2))
def Ec(p:Array (Nat×Nat×Nat)):Nat:=if Option.any (λx=>decide (x<p[p.size-2+1]?.elim 0 λx=>x.2.1)) (if p.size-2>0 then Option.map (λx=>x.2.1) p[p.size-2-1]? else none)=true then p.size-2-1 else p.size-2
def Xj(size:Nat):SM OU:=forIn [:size] ((none,()):OU) λ_ _=>get >>= λs=>if(pendingOf s).size<=1 then pure (.done (none,())) else mergeAt' (Ec (pendingOf s)) >>= λc=>if(!c)=true then pure (.done (some (),())) else pure (.yield (none,()))
def Xk:SM Unit:=get >>= λs=>(forIn [:(arrOf s).size] ((none,0):Option Unit×Nat) λ_ q=>Eb (arrOf s).size (minRun' (arrOf s).size (arrOf s).size 0) q) >>= λq=>match q.1 with
 |some r=>pure r
 |none=>Xj (arrOf s).size >>= λq=>match q.1 with
  |some r=>pure r
  |none=>pure ()
def Jc:sortRuns'=Xk:=by kernel_rfl
def Ō(k:Keyed->Int):Nat->List (Nat×Nat×Nat)->List (List Keyed)->Prop
 |_,[],[]=>True
 |s,r::rs,g::gs=>r.1=s/\r.2.1=g.length/\0<g.length/\cL k g/\Ō k (s+g.length) rs gs
 |_,_,_=>False
section
variable{k:Keyed->Int}
theorem Ō.len:∀{s:Nat} {rs:List (Nat×Nat×Nat)} {gs:List (List Keyed)},Ō k s rs gs->rs.length=gs.length/\gs.length<=gs.flatten.length
 |_,[],[],_=>⟨rfl,by simp⟩
 |s,r::rs,g::gs,h=>by
  obtain⟨h1,h2⟩:=Ō.len h.2.2.2.2
  have:=h.2.2.1
  simp[-List.length_flatten]
  omega
 |_,[],_::_,h=>h.elim
 |_,_::_,[],h=>h.elim
theorem Ō.push{g:List Keyed}(h0:0<g.length)(hg:cL k g){p:Nat}:∀{s:Nat} {rs:List (Nat×Nat×Nat)} {gs:List (List Keyed)},Ō k s rs gs->Ō k s (rs ++ [(s+gs.flatten.length,g.length,p)]) (gs ++ [g])
 |s,[],[],_=>⟨by simp,rfl,h0,hg,trivial⟩
 |s,r::rs,g'::gs,h=>by
  refine⟨h.1,h.2.1,h.2.2.1,h.2.2.2.1,?_⟩
  have:=Ō.push h0 hg (p:=p) h.2.2.2.2
  rw[show s+(g'::gs).flatten.length=s+g'.length+gs.flatten.length by simp[-List.length_flatten];omega]
  exact this
 |_,[],_::_,h=>h.elim
 |_,_::_,[],h=>h.elim
theorem Ō.mod{f:Nat×Nat×Nat->Nat×Nat×Nat}(hf:∀r,(f r).1=r.1/\(f r).2.1=r.2.1):∀{s:Nat} {rs:List (Nat×Nat×Nat)} {gs:List (List Keyed)} (j:Nat),Ō k s rs gs->Ō k s (rs.modify j f) gs
 |s,[],[],j,_=>by cases j<;>exact trivial
 |s,r::rs,g::gs,0,h=>⟨(hf r).1.trans h.1,(hf r).2.trans h.2.1,h.2.2.1,h.2.2.2.1,h.2.2.2.2⟩
 |s,r::rs,g::gs,j+1,h=>⟨h.1,h.2.1,h.2.2.1,h.2.2.2.1,Ō.mod hf j h.2.2.2.2⟩
 |_,[],_::_,_,h=>h.elim
 |_,_::_,[],_,h=>h.elim
theorem Ō.split:∀(i:Nat) {s:Nat} {rs:List (Nat×Nat×Nat)} {gs:List (List Keyed)},Ō k s rs gs->i+1<rs.length->
 ∃R1 R2 G1 G2 Al Bl p p2,rs=R1++(s+G1.flatten.length,Al.length,p)::(s+G1.flatten.length+Al.length,Bl.length,p2)::R2/\R1.length=i/\gs=G1++Al::Bl::G2/\0<Al.length/\0<Bl.length/\cL k Al/\cL k Bl/\
  ∀C:List Keyed,C.length=Al.length+Bl.length->cL k C->Ō k s (R1++(s+G1.flatten.length,Al.length+Bl.length,p)::R2) (G1++C::G2)
 |0,s,r::r2::rs,g::g2::gs,h,_=>by
  obtain⟨a,n,p⟩:=r
  obtain⟨b,m,p2⟩:=r2
  obtain⟨h1,h2,h3,h4,k1,k2,k3,k4,k5⟩:=h
  dsimp only at h1 h2 k1 k2
  subst h1 h2 k1 k2
  refine⟨[],rs,[],gs,g,g2,p,p2,by simp,rfl,rfl,h3,k3,h4,k4,λC hC sC=>⟨by simp,by simp[hC],by omega,sC,?_⟩⟩
  rw[hC,<-Nat.add_assoc]
  exact k5
 |i+1,s,r::rs,g::gs,h,hl=>by
  obtain⟨R1,R2,G1,G2,Al,Bl,p,p2,e1,e2,e3,e4,e5,e6,e7,e8⟩:=Ō.split i h.2.2.2.2 (by simpa using hl)
  have ea:s+(g::G1).flatten.length=s+g.length+G1.flatten.length:=by simp[-List.length_flatten];omega
  refine⟨r::R1,R2,g::G1,G2,Al,Bl,p,p2,by rw[ea,e1];rfl,by simp[e2],by rw[e3];rfl,e4,e5,e6,e7,λC hC sC=>⟨h.1,h.2.1,h.2.2.1,h.2.2.2.1,?_⟩⟩
  rw[ea]
  exact e8 C hC sC
 |_,_,[],[],_,hl=>by simp at hl
 |0,_,[_],[_],_,hl=>by simp at hl
 |_,_,[],_::_,h,_=>h.elim
 |_,_,_::_,[],h,_=>h.elim
 |0,_,[_],_::_::_,h,_=>h.2.2.2.2.elim
 |0,_,_::_::_,[_],h,_=>h.2.2.2.2.elim
end
section
variable{prog:Program}{w:World}{A:Around}{E:Value->Shared->Prop}{s:Shared}{st:SortSt}{κ:SortKind}{k:Keyed->Int}{D:Keyed->Prop}{N rest:List Keyed}
structure SI(κ:SortKind)(k:Keyed->Int)(D:Keyed->Prop)(N:List Keyed)(st:SortSt)(rest:List Keyed)(n:Nat):Prop where
 kind:kindOf st=κ
 fail:failedOf st=none
 perm:(arrOf st).toList.Perm N
 dom:∀x∈N,D x
 runs:∃gs,Ō k 0 (pendingOf st).toList gs/\(arrOf st).toList=gs.flatten++rest/\gs.flatten.length=n
def Kv{i n:Nat}{Q:Bool->SortSt->Prop}(hc:h_ prog w A s κ k D)(h:SI κ k D N st rest n)(hi:i+1<(pendingOf st).size)(hq:∀st',SI κ k D N st' rest n->(pendingOf st').size+1=(pendingOf st).size->Q true st'):wpS (model prog w) A E s (mergeAt' i) Q st:=by
 obtain⟨gs,r1,r2,r3⟩:=h.runs
 obtain⟨R1,R2,G1,G2,Al,Bl,p,p2,e1,e2,e3,e4,e5,e6,e7,e8⟩:=Ō.split i r1 (by simpa using hi)
 rw[Nat.zero_add] at e1 e8
 have i1:(pendingOf st)[i]?=some (G1.flatten.length,Al.length,p):=by
  rw[<-Array.getElem?_toList,e1,<-e2,List.getElem?_append_right (Nat.le_refl _),Nat.sub_self];rfl
 have i2:(pendingOf st)[i+1]?=some (G1.flatten.length+Al.length,Bl.length,p2):=by
  rw[<-Array.getElem?_toList,e1,<-e2,List.getElem?_append_right (by omega),show R1.length+1-R1.length=1 by omega];rfl
 have hL:(arrOf st).toList=G1.flatten++(Al++(Bl++(G2.flatten++rest))):=by rw[r2,e3];simp
 refine RM hc h.kind h.fail (λx hx=>h.dom x (h.perm.mem_iff.mp hx)) i1 i2 hL rfl rfl rfl e4 e5 e6 e7 λst' C c1 c2 c3 c4 c5 c6=>?_
 have cl:C.length=Al.length+Bl.length:=by rw[c5.length_eq,List.length_append]
 have ep:(pendingOf st').toList=R1++(G1.flatten.length,Al.length+Bl.length,p)::R2:=by
  rw[c3,Array.toList_eraseIdxIfInBounds,Array.toList_setIfInBounds,e1,List.set_append_right _ _ (by omega),e2,Nat.sub_self,List.set_cons_zero,List.eraseIdx_append_of_length_le (by omega),e2,show i+1-i=1 by omega]
  rfl
 refine hq st' ⟨c1,c2,?_,h.dom,G1++C::G2,by rw[ep];exact e8 C cl c6,by rw[c4];simp,?_⟩ ?_
 ·rw[c4]
  refine List.Perm.trans ?_ h.perm
  rw[hL]
  refine List.Perm.append_left _ ?_
  rw[<-List.append_assoc Al]
  exact c5.append_right _
 ·rw[<-r3,e3]
  simp[cl,-List.length_flatten]
  omega
 ·have z1:=congrArg List.length ep
  have z2:=congrArg List.length e1
  simp at z1 z2
  omega
def Ed{size pw n:Nat}{Q:OU->SortSt->Prop}(hc:h_ prog w A s κ k D)(h:SI κ k D N st rest n)(hq:∀st',SI κ k D N st' rest n->Q (none,()) st'):wpS (model prog w) A E s (vM size pw) Q st:=by
 unfold vM
 refine wpS_mono (wpS_forRange (I:=λ_ (c:OU) st'=>c=(none,())/\SI κ k D N st' rest n) (Q:=λ(c:OU) st'=>c=(none,())/\SI κ k D N st' rest n) ?step ?fin ⟨rfl,h⟩) ?post
 case fin=>rintro c st' z;exact z
 case post=>rintro c st' ⟨rfl,z⟩;exact hq st' z
 case step=>
  rintro x c st' _ _ ⟨rfl,h'⟩
  refine wpS_bind (wpS_get ?_)
  split
  ·rename_i a b o e
   split
   ·exact wpS_pure ⟨rfl,h'⟩
   ·have hs:(pendingOf st').size>1:=by
     by_cases z:(pendingOf st').size>1
     ·exact z
     ·rw[if_neg z] at e;cases e
    exact wpS_bind (Kv hc h' (by omega) λst2 h2 _=>wpS_pure ⟨rfl,h2⟩)
  ·exact wpS_pure ⟨rfl,h'⟩
def xX{lo n:Nat}{Q:ForInStep (Option Unit×Nat)->SortSt->Prop}(h:SI κ k D N st rest lo)(h0:0<n)(hn:n<=rest.length)(hs:cL k (rest.take n))(hq:∀st',SI κ k D N st' (rest.drop n) (lo+n)->Q (.yield (none,lo+n)) st'):wpS (model prog w) A E s (xW lo n) Q st:=by
 unfold xW
 refine wpS_bind (wpS_modify (wpS_pure (hq _ ?_)))
 obtain⟨gs,r1,r2,r3⟩:=h.runs
 have hl:(rest.take n).length=n:=by rw[List.length_take];omega
 refine⟨h.kind,h.fail,h.perm,h.dom,gs ++ [rest.take n],?_,?_,?_⟩
 ·have:=Ō.push (k:=k) (g:=rest.take n) (p:=0) (by omega) hs r1
  rw[hl,r3,Nat.zero_add] at this
  show Ō k 0 ((pendingOf st).push (lo,n,0)).toList _
  rw[Array.toList_push]
  exact this
 ·show(arrOf st).toList=_
  rw[r2]
  simp
 ·simp only[List.flatten_append,List.length_append,List.flatten_cons,List.flatten_nil,List.append_nil,hl]
  omega
def Ef{size lo n:Nat}{Q:ForInStep (Option Unit×Nat)->SortSt->Prop}(hc:h_ prog w A s κ k D)(h:SI κ k D N st rest lo)(h0:0<n)(hn:n<=rest.length)(hs:cL k (rest.take n))(hq:∀st',SI κ k D N st' (rest.drop n) (lo+n)->Q (.yield (none,lo+n)) st'):wpS (model prog w) A E s (Jb size lo n) Q st:=by
 unfold Jb
 refine wpS_bind (wpS_get ?_)
 split
 ·refine wpS_bind (Ed hc h λst1 h1=>?_)
  dsimp only
  refine wpS_bind (wpS_modify (xX (rest:=rest) ?_ h0 hn hs hq))
  obtain⟨gs,r1,r2,r3⟩:=h1.runs
  refine⟨h1.kind,h1.fail,h1.perm,h1.dom,gs,?_,r2,r3⟩
  show Ō k 0 ((pendingOf st1).modify _ _).toList gs
  rw[Array.toList_modify]
  refine Ō.mod ?_ _ r1
  intro r
  exact⟨rfl,rfl⟩
 ·exact xX h h0 hn hs hq
def Eh{xs:Array Keyed}{F rest:List Keyed}{lo m:Nat}(hL:xs.toList=F++rest)(hF:F.length=lo)(hm:m<=rest.length)(h:Up k xs lo m):cL k (rest.take m):=by
 refine List.pairwise_iff_getElem.mpr λi j hi hj hij=>?_
 have at_:∀i (hi:i<(rest.take m).length),kx k xs (lo+i)=k (rest.take m)[i]:=λi hi=>by
  unfold kx
  have:xs[lo+i]?=some (rest.take m)[i]:=by
   rw[<-Array.getElem?_toList,hL,<-hF,List.getElem?_append_right (by omega),show F.length+i-F.length=i by omega,List.getElem_take,List.getElem?_eq_getElem]
  rw[this]
 rw[<-at_ i hi,<-at_ j hj]
 exact h i j (by omega) (by simp at hj;omega)
def SI.fm{lo:Nat}{st':SortSt}(h:SI κ k D N st rest lo)(f:Fm κ D lo st st'):∃rest',SI κ k D N st' rest' lo/\rest'.length=rest.length/\∃F:List Keyed,F.length=lo/\(arrOf st').toList=F++rest':=by
 obtain⟨gs,r1,r2,r3⟩:=h.runs
 have tk:(arrOf st').toList.take lo=gs.flatten:=by
  have e:(arrOf st').toList.take lo=(arrOf st).toList.take lo:=by
   refine List.ext_getElem? λi=>?_
   by_cases hi:i<lo
   ·rw[List.getElem?_take_of_lt hi,List.getElem?_take_of_lt hi,Array.getElem?_toList,Array.getElem?_toList]
    exact f.low i hi
   ·rw[List.getElem?_take_eq_none (by omega),List.getElem?_take_eq_none (by omega)]
  rw[e,r2,<-r3,List.take_left]
 have eL:(arrOf st').toList=gs.flatten++(arrOf st').toList.drop lo:=by rw[<-tk,List.take_append_drop]
 refine⟨(arrOf st').toList.drop lo,⟨f.kind,f.fail.trans h.fail,f.perm.toList.trans h.perm,h.dom,gs,by rw[f.pend];exact r1,eL,r3⟩,?_,gs.flatten,r3,eL⟩
 have z1:=f.perm.toList.length_eq
 have z2:=congrArg List.length r2
 simp[-List.length_flatten] at z1 z2
 rw[List.length_drop]
 simp
 omega
def Jd{size mr lo:Nat}(hc:h_ prog w A s κ k D)(h:SI κ k D N st rest lo)(hz:N.length=size) :
 wpS (model prog w) A E s (Eb size mr (none,lo)) (λr st'=>match r with
  | .done q=>q=(none,lo)/\lo >= size/\SI κ k D N st' rest lo
  | .yield q=>∃lo' rest',q=(none,lo')/\lo<lo'/\SI κ k D N st' rest' lo') st:=by
 unfold Eb
 dsimp only
 by_cases hl:lo >= size
 ·rw[if_pos hl]
  exact wpS_pure ⟨rfl,hl,h⟩
 ·rw[if_neg hl]
  have hsz:(arrOf st).size=size:=by rw[<-Array.length_toList,h.perm.length_eq,hz]
  have hrl:rest.length=size-lo:=by
   obtain⟨gs,r1,r2,r3⟩:=h.runs
   have:=congrArg List.length r2
   simp[-List.length_flatten] at this
   omega
  have fm0:Fm κ D lo st st:=⟨h.kind,rfl,rfl,.refl _,λ_ _=>rfl,λx hx=>h.dom x (h.perm.mem_iff.mp hx)⟩
  refine wpS_bind (I_ hc (by omega) (by omega) fm0 λm st1 f1 m1 m2 u1=>?_)
  dsimp only
  by_cases hm:m<mr
  ·rw[if_pos hm]
   refine wpS_bind (ig ?_)
   refine wpS_bind (D_ hc (by omega) m1 (by omega) f1 u1 λst2 f2 u2=>?_)
   rw[if_neg (by simp)]
   obtain⟨Xl,h2,l2,F,hF,hL⟩:=h.fm f2
   exact Ef hc h2 (by omega) (by omega) (Eh hL hF (by omega) u2) λst3 h3=>⟨_,_,rfl,by omega,h3⟩
  ·rw[if_neg hm]
   obtain⟨Xl,h2,l2,F,hF,hL⟩:=h.fm f1
   exact Ef hc h2 (by omega) (by omega) (Eh hL hF (by omega) u1) λst3 h3=>⟨_,_,rfl,by omega,h3⟩
def Ei(p:Array (Nat×Nat×Nat))(h:¬p.size<=1):Ec p+1<p.size:=by
 unfold Ec
 generalize Option.any _ _=c
 cases c<;>simp<;>omega
def Je{Q:Unit->SortSt->Prop}(hc:h_ prog w A s κ k D)(hk:kindOf st=κ)(hf:failedOf st=none)(hp:pendingOf st= #[])(hD:∀x∈(arrOf st).toList,D x)
 (hq:∀st',(arrOf st').toList.Perm (arrOf st).toList->failedOf st'=none->cL k (arrOf st').toList->Q () st'):wpS (model prog w) A E s sortRuns' Q st:=by
 rw[Jc]
 unfold Xk
 refine wpS_bind (wpS_get ?_)
 have h0:SI κ k D (arrOf st).toList st (arrOf st).toList 0:=⟨hk,hf,.refl _,hD,[],by rw[hp];exact trivial,by simp,rfl⟩
 refine wpS_bind (wpS_mono (wpS_forRange (I:=λx (c:Option Unit×Nat) st'=>∃lo rest,c=(none,lo)/\x<=lo/\SI κ k D (arrOf st).toList st' rest lo) (Q:=λ(c:Option Unit×Nat) st'=>∃lo rest,c=(none,lo)/\(arrOf st).size<=lo/\SI κ k D (arrOf st).toList st' rest lo) ?step ?fin ⟨0,_,rfl,Nat.le_refl _,h0⟩) ?post)
 case fin=>
  rintro c st' ⟨lo,rest,rfl,z1,z2⟩
  exact⟨lo,rest,rfl,by omega,z2⟩
 case step=>
  rintro x c st' _ _ ⟨lo,rest,rfl,z1,z2⟩
  refine wpS_mono (Jd hc z2 (by simp)) λr st2 z=>?_
  cases r with
  |done q=>obtain⟨rfl,y1,y2⟩:=z;exact⟨lo,rest,rfl,y1,y2⟩
  |yield q=>obtain⟨lo',rest',rfl,y1,y2⟩:=z;exact⟨lo',rest',rfl,by omega,y2⟩
 case post=>
  rintro c st1 ⟨lo,rest,rfl,z1,z2⟩
  dsimp only
  have hrest:rest=[]:=by
   obtain⟨gs,r1,r2,r3⟩:=z2.runs
   have y1:=congrArg List.length r2
   have y2:=z2.perm.length_eq
   simp[-List.length_flatten] at y1 y2
   exact List.length_eq_zero_iff.mp (by omega)
  subst hrest
  have hlo:lo=(arrOf st).size:=by
   obtain⟨gs,r1,r2,r3⟩:=z2.runs
   have y1:=congrArg List.length r2
   have y2:=z2.perm.length_eq
   simp[-List.length_flatten] at y1 y2
   omega
  unfold Xj
  refine wpS_bind (wpS_mono (wpS_forRange (I:=λx (c:OU) st'=>c=(none,())/\SI κ k D (arrOf st).toList st' [] lo/\(pendingOf st').size+x<=(arrOf st).size+1) (Q:=λ(c:OU) st'=>c=(none,())/\SI κ k D (arrOf st).toList st' [] lo/\(pendingOf st').size<=1) ?sV ?fin2 ⟨rfl,z2,?init⟩) ?post2)
  case init=>
   obtain⟨gs,r1,r2,r3⟩:=z2.runs
   have:=Ō.len r1
   simp[-List.length_flatten] at this
   omega
  case fin2=>
   rintro c st' ⟨rfl,y1,y2⟩
   exact⟨rfl,y1,by omega⟩
  case sV=>
   rintro x c st' _ _ ⟨rfl,y1,y2⟩
   refine wpS_bind (wpS_get ?_)
   by_cases hs:(pendingOf st').size<=1
   ·rw[if_pos hs]
    exact wpS_pure ⟨rfl,y1,hs⟩
   ·rw[if_neg hs]
    exact wpS_bind (Kv hc y1 (Ei _ hs) λst2 h2 e2=>wpS_pure ⟨rfl,h2,by omega⟩)
  case post2=>
   rintro c st2 ⟨rfl,y1,y2⟩
   dsimp only
   refine wpS_pure (hq st2 y1.perm y1.fail ?_)
   obtain⟨gs,r1,r2,r3⟩:=y1.runs
   rw[r2,List.append_nil]
   have:=(Ō.len r1).1
   match gs,r1 with
   | [],_=>exact .nil
   | [g],r1=>
     match hh:(pendingOf st2).toList,r1 with
     | [r],r1=>simpa using r1.2.2.2.1
     | [],r1=>exact r1.elim
     |_::_::_,r1=>exact r1.2.2.2.2.elim
   |_::_::_,_=>simp at this;omega
end
end gF
namespace gF
open PySem PyProof.Rows
theorem tD:∀vs:List Value,vs.zip vs=vs.map λv=>(v,v)
 | []=>rfl
 |v::vs=>by rw[List.zip_cons_cons,List.map_cons,tD vs]
def xY(vs:List Value):(vs.toArray.zip vs.toArray).toList=vs.map λv=>(v,v):=by
 rw[<-tD]
 simp
section
variable{prog:Program}{w:World}{A:Around}{E:Value->Shared->Prop}{s:Shared}
def Xm{a:Addr}{vs:List Value}{n:Nat}{κ:SortKind}{kv:Value->Int}{P:PySem.Fin->Shared->Prop}(ho:s.heap.get? a=some (seqObj "list" vs.toArray n))(hz:vs.length<=sizeLine)
 (hkd:2<=vs.length->∀(h':Heap),(∀b o,b≠a->s.heap.get? b=some o->h'.get? b=some o)->∀(Q:SortKind->Shared->Prop),Q κ {s with heap:=h'}->wpAny (model prog w) A (keyKind' vs.toArray) Q E {s with heap:=h'})
 (hcm:∀(h':Heap),(∀b o,b≠a->s.heap.get? b=some o->h'.get? b=some o)->h_ prog w A {s with heap:=h'} κ (λx=>kv x.1) (λx=>x.1∈vs))
 (h:∀out:List Value,out.Perm vs->out.Pairwise (λx y=>kv x<=kv y)->P (.done (.ret .none)) {s with heap:=sortedHeap s.heap a vs out.toArray}) :
 wpAny (model prog w) A (Builtin.«list.sort» ⟨[.ref a],[]⟩) P E s:=by
 rw[list_sort_plain]
 have ha:a<s.heap.objs.size:=Heap.lt_size ho
 refine wpAny_bind (listItems_at ho rfl ?_)
 refine wpAny_bind (listUpdate_at ho rfl ?_ (by simpa using hz))
 obtain⟨e1,ho1⟩:∃e1,(s.heap.update a (Obj.mapSeq λ_=> #[])).get? a=some (seqObj "list" #[] e1):=⟨_,get?_update_seq ho (λ_=> #[])⟩
 refine wpAny_bind (seqEpoch_at ho1 rfl ?_)
 refine wpAny_bind (wpAny_newTuple ?_ (by simpa using hz))
 refine wpAny_bind (wpAny_newList ?_)
 refine wpAny_holding ?_
 have kp:∀b o,b≠a->s.heap.get? b=some o->(((s.heap.update a (Obj.mapSeq λ_=> #[])).push (seqObj "tuple" vs.toArray 0)).push (seqObj "list" #[] 0)).get? b=some o:=λb o hb e=>
  Heap.get?_push_of_some _ (Heap.get?_push_of_some _ ((Heap.get?_update_other _ _ (Ne.symm hb)).trans e))
 have ho6:(((s.heap.update a (Obj.mapSeq λ_=> #[])).push (seqObj "tuple" vs.toArray 0)).push (seqObj "list" #[] 0)).get? a=some (seqObj "list" #[] e1):=Heap.get?_push_of_some _ (Heap.get?_push_of_some _ ho1)
 show wpAny (model prog w) A _ P E {s with heap:=((s.heap.update a (Obj.mapSeq λ_=> #[])).push (seqObj "tuple" vs.toArray 0)).push (seqObj "list" #[] 0)}
 dsimp only
 by_cases h2:vs.toArray.size<2
 ·rw[if_pos h2,if_pos h2]
  refine wpAny_bind (wpAny_pure ?_)
  rw[StateT.run_pure]
  refine wpAny_bind (wpAny_pure ?_)
  dsimp only
  refine wpAny_bind (seqEpoch_at ho6 rfl ?_)
  have eo:(arrOf (SortSt.mk' general' (vs.toArray.zip vs.toArray) #[] 7 none)).map (·.2)=vs.toArray:=by
   show(vs.toArray.zip vs.toArray).map (·.2)=vs.toArray
   apply Array.toList_inj.mp
   rw[Array.toList_map,xY,List.map_map]
   exact List.map_id _
  refine wpAny_bind (listUpdate_at ho6 rfl ?_ (hsz2:=by rw[eo];simp;omega))
  simp only[bne_self_eq_false,Bool.false_eq_true,if_false]
  rw[eo]
  refine wpAny_pure (h vs (.refl _) ?_)
  match vs,h2 with
  | [],_=>exact .nil
  | [_],_=>exact List.pairwise_singleton _ _
  |_::_::_,h2=>simp at h2;omega
 ·rw[if_neg h2,if_neg h2]
  have h2':2<=vs.length:=by simpa using h2
  refine wpAny_bind (hkd h2' _ kp _ ?_)
  have mp:((vs.toArray.zip vs.toArray).toList.map (·.1))=vs/\((vs.toArray.zip vs.toArray).toList.map (·.2))=vs/\∀x∈(vs.toArray.zip vs.toArray).toList,x.1=x.2:=by
   rw[xY]
   refine⟨by rw[List.map_map];exact List.map_id _,by rw[List.map_map];exact List.map_id _,λx hx=>?_⟩
   obtain⟨v,_,rfl⟩:=List.mem_map.mp hx
   rfl
  refine wpAny_bind (wpAny_mono (Je (E:=E) (st:=SortSt.mk' κ (vs.toArray.zip vs.toArray) #[] 7 none) (Q:=λ_ st'=>(arrOf st').toList.Perm (vs.toArray.zip vs.toArray).toList/\failedOf st'=none/\cL (λx=>kv x.1) (arrOf st').toList)
   (hcm _ kp) rfl rfl rfl (fun x hx=>by
     have:=List.mem_map_of_mem (f:=λz:Keyed=>z.1) hx
     rw[mp.1] at this
     exact this) λst' a1 a2 a3=>⟨a1,a2,a3⟩) ?_ λ_ _ e=>e)
  rintro ⟨⟨⟩,st'⟩ s' ⟨rfl,hp,hf,hs⟩
  dsimp only
  refine wpAny_bind (seqEpoch_at ho6 rfl ?_)
  have pm:((arrOf st').map (·.2)).toList.Perm vs:=by
   rw[Array.toList_map]
   have:=hp.map (λz:Keyed=>z.2)
   rw[mp.2.1] at this
   exact this
  refine wpAny_bind (listUpdate_at ho6 rfl ?_ (hsz2:=by rw[<-Array.length_toList,pm.length_eq];omega))
  rw[hf]
  simp only[bne_self_eq_false,Bool.false_eq_true,if_false]
  have eq2:((arrOf st').map (·.2))=((arrOf st').map (·.2)).toList.toArray:=(Array.toArray_toList ..).symm
  rw[eq2]
  refine wpAny_pure (h _ pm ?_)
  rw[Array.toList_map,List.pairwise_map]
  refine hs.imp_of_mem fun{x y} hx hy hxy=>?_
  have z1:=mp.2.2 x (hp.mem_iff.mp hx)
  have z2:=mp.2.2 y (hp.mem_iff.mp hy)
  show kv x.2<=kv y.2
  rw[<-z1,<-z2]
  exact hxy
end
end gF
namespace gF
open PySem PyProof.Rows PySem.W
section
variable{prog:Program}{w:World}{A:Around}{E:Value->Shared->Prop}{s:Shared}
def lH(h:Heap)(M:Int)(v:Value)(p:Int×Int):Prop:=∃b o c t u,v=.ref b/\h.get? b=some o/\o.cls=.type "tuple" /\o.data=.seq #[.int p.1 t,.int p.2 u] c/\0<=p.2/\p.2<M
inductive ķ(h:Heap)(M:Int):List Value->List (Int×Int)->Prop
 |nil:ķ h M [] []
 |cons {v:Value} {p:Int×Int} {vs:List Value} {ps:List (Int×Int)} (x:lH h M v p) (r:ķ h M vs ps):ķ h M (v::vs) (p::ps)
theorem ķ.mem{h:Heap}{M:Int}:∀{vs:List Value} {ps:List (Int×Int)},ķ h M vs ps->∀v∈vs,∃p,lH h M v p
 |_,_,.nil,v,hv=>by cases hv
 |_,_,.cons x r,v,hv=>by
  rcases List.mem_cons.mp hv with rfl|hv
  ·exact⟨_,x⟩
  ·exact r.mem v hv
def ķ.perm{h:Heap}{M:Int}:∀{ws vs:List Value} {ps:List (Int×Int)},ws.Perm vs->ķ h M vs ps->∃qs,ķ h M ws qs/\qs.Perm ps:=by
 intro ws vs ps h
 induction h generalizing ps with
 |nil=>intro hi;exact⟨ps,hi,.refl _⟩
 |cons x _ ih=>
  intro hi
  cases hi with
  |cons z r=>obtain⟨ms,m1,m2⟩:=ih r;exact⟨_::ms,.cons z m1,m2.cons _⟩
 |swap x y _=>
  intro hi
  cases hi with
  |cons z r=>
   cases r with
   |cons z2 r=>exact⟨_::_::_,.cons z2 (.cons z r),.swap _ _ _⟩
 |trans _ _ ih1 ih2=>
  intro hi
  obtain⟨ms,m1,m2⟩:=ih2 hi
  obtain⟨ks,k1,k2⟩:=ih1 m1
  exact⟨ks,k1,k2.trans m2⟩
def Ur(h:Heap)(M:Int):Value->Int
 | .ref b=>match h.get? b with
   |some o=>match o.data with
    | .seq xs _=>match xs.toList with
      | [.int p _,.int q _]=>p*M+q
      |_=>0
    |_=>0
   |none=>0
 |_=>0
def vN{h:Heap}{M:Int}{v:Value}{p:Int×Int}(x:lH h M v p):Ur h M v=p.1*M+p.2:=by
 obtain⟨b,o,c,t,u,rfl,ho,hc,hd,_⟩:=x
 unfold Ur
 dsimp only
 rw[ho]
 dsimp only
 rw[hd]
theorem ķ.keys{h:Heap}{M:Int}:∀{vs:List Value} {ps:List (Int×Int)},ķ h M vs ps->vs.map (Ur h M)=ps.map λp=>p.1*M+p.2
 |_,_,.nil=>rfl
 |_,_,.cons x r=>by rw[List.map_cons,List.map_cons,r.keys,vN x]
theorem ķ.tups{h h':Heap}{M:Int}:∀{vs:List Value} {ps:List (Int×Int)},ķ h M vs ps->(∀b o,h.get? b=some o->o.cls=.type "tuple" ->h'.get? b=some o)->∃fs,KatTups h' vs fs/\fs.length=vs.length/\∀v∈fs,∃n t,v=.int n t
 |_,_,.nil,_=>⟨[],KatTups.nil,rfl,λv hv=>by cases hv⟩
 |_,_,.cons x r,k=>by
  obtain⟨fs,f1,f2,f3⟩:=r.tups k
  obtain⟨b,o,c,t,u,rfl,ho,hc,hd,_⟩:=x
  refine⟨_::fs,KatTups.cons (k b o ho hc) hc hd rfl f1,by simp[f2],λv hv=>?_⟩
  rcases List.mem_cons.mp hv with rfl|hv
  ·exact⟨_,_,rfl⟩
  ·exact f3 v hv
def Jf{M p q p' q':Int}(h1:0<=q)(h2:q<M)(h3:0<=q')(h4:q'<M):decide (p*M+q<p'*M+q')=if p=p' then decide (q<q') else decide (p<p'):=by
 have hM:0<M:=by omega
 by_cases e:p=p'
 ·subst e
  rw[if_pos rfl]
  simp
 ·rw[if_neg e]
  by_cases l:p<p'
  ·have:=Int.mul_le_mul_of_nonneg_right (show p+1<=p' by omega) (Int.le_of_lt hM)
   rw[Int.add_mul,Int.one_mul] at this
   simp[l]
   omega
  ·have:=Int.mul_le_mul_of_nonneg_right (show p'+1<=p by omega) (Int.le_of_lt hM)
   rw[Int.add_mul,Int.one_mul] at this
   simp[l]
   omega
def Jg{h:Heap}{M:Int}{x y:Value}{p q:Int×Int}{Q:Bool->Shared->Prop}(hx:lH h M x p)(hy:lH h M y q)(k:∀b o,h.get? b=some o->o.cls=.type "tuple" ->s.heap.get? b=some o)(hq:Q (decide (p.1*M+p.2<q.1*M+q.2)) s):wpAny (model prog w) A (keyLt' (tuples' true) x y) Q E s:=by
 obtain⟨b,o,c,t,u,rfl,ho,hc,hd,l1,l2⟩:=hx
 obtain⟨b',o',c',t',u',rfl,ho',hc',hd',l3,l4⟩:=hy
 rw[Jf l1 l2 l3 l4] at hq
 refine kat_lt (k b o ho hc) hd (k b' o' ho' hc') hd' ?_
 show KatLex prog w A true _ Q [(.int p.1 t,.int q.1 t'),(.int p.2 u,.int q.2 u')] 0 s
 refine kat_cons (wpAny_eqBool_int (kat_go (λe=>?_) λe=>?_))
 ·have e1:p.1=q.1:=by simpa using e
  rw[if_pos e1] at hq
  refine kat_yes (kat_cons (wpAny_eqBool_int (kat_go (λe2=>?_) λe2=>?_)))
  ·have e3:p.2=q.2:=by simpa using e2
   rw[e3] at hq
   refine kat_yes (kat_nil ?_)
   simpa using hq
  ·refine kat_no (kat_one _ _ (wpAny_lt_int ?_))
   exact hq
 ·have e1:¬p.1=q.1:=by simpa using e
  rw[if_neg e1] at hq
  refine kat_no ?_
  exact oneLt_int hq
def i_{a:Addr}{vs:List Value}{ps:List (Int×Int)}{n:Nat}{M:Int}{R:PySem.Fin->Shared->Prop}(ho:s.heap.get? a=some (seqObj "list" vs.toArray n))(hz:vs.length<=sizeLine)(hI:ķ s.heap M vs ps)
 (h:∀(out:List Value) (qs:List (Int×Int)),out.Perm vs->ķ s.heap M out qs->qs.Perm ps->(qs.map λp=>p.1*M+p.2).Pairwise (·<= ·)->R (.done (.ret .none)) {s with heap:=sortedHeap s.heap a vs out.toArray}):wpAny (model prog w) A (Builtin.«list.sort» ⟨[.ref a],[]⟩) R E s:=by
 have na:∀b o,s.heap.get? b=some o->o.cls=.type "tuple" ->b≠a:=λb o e hc z=>by
  subst z
  rw[ho] at e
  cases e
  simp at hc
 refine Xm (κ:= tuples' true) (kv:=Ur s.heap M) ho hz (λh2 h' kp Q hq=>?_) (λh' kp x y hx hy Q E' hq=>?_) (λout hp hs=>?_)
 ·obtain⟨fs,f1,f2,f3⟩:=hI.tups (h':=h') λb o e hc=>kp b o (na b o e hc) e
  refine kat_kind (s:={s with heap:=h'}) (T:=.type "int") f1 (by omega) (λv hv=>?_) (by decide) hq
  obtain⟨m,t,rfl⟩:=f3 v hv
  exact Looks.of_pure rfl
 ·obtain⟨p,hp⟩:=hI.mem _ hx
  obtain⟨q,hq'⟩:=hI.mem _ hy
  refine Jg (s:={s with heap:=h'}) hp hq' (λb o e hc=>kp b o (na b o e hc) e) ?_
  have e:decide (Ur s.heap M x.1<Ur s.heap M y.1)=decide (p.1*M+p.2<q.1*M+q.2):=by rw[vN hp,vN hq']
  rw[<-e]
  exact hq
 ·obtain⟨qs,q1,q2⟩:=hI.perm hp
  refine h out qs hp q1 q2 ?_
  rw[<-q1.keys,List.pairwise_map]
  exact hs
end
end gF
namespace P
open PySem PySem.Spec PyProof.Rows L2 M2 M3 M4
section
variable{X:Cx}{cm:String->Addr}{E:L2.St->XK}{e:Expr}{pos:Pos}
def nD(H:Hp):List (Addr×(Int×Int))->Hp
 | []=>H
 |x::r=>nD (upd H x.1 (.tup [.int x.2.1,.int x.2.2])) r
theorem cO{b:Addr}:∀(ls:List (Addr×(Int×Int))) (H:Hp),b∉ls.map (·.1)->nD H ls b=H b
 | [],_,_=>rfl
 |x::r,H,hb=>by
  rw[nD,cO r _ λz=>hb (.tail _ z),č λz=>hb (by rw[z];exact .head _)]
theorem xZ:∀(ls:List (Addr×(Int×Int))) (H:Hp),(ls.map (·.1)).Nodup->∀x∈ls,nD H ls x.1=some (.tup [.int x.2.1,.int x.2.2])
 | [],_,_,x,hx=>by cases hx
 |y::r,H,hn,x,hx=>by
  obtain⟨n1,n2⟩:=List.nodup_cons.mp hn
  rcases List.mem_cons.mp hx with rfl|hx
  ·rw[nD,cO r _ n1,ē]
  ·exact xZ r _ n2 x hx
def Inv.laidN{pins:List (Addr×Obj)}{σ:List (Option V)}{H H':Hp}{s:Shared}{h':Heap}{t':Nat}(I:Inv X pins σ H s)(k:∀b u,s.heap.get? b=some u->h'.get? b=some u)(old:∀b,b<s.heap.objs.size->H' b=H b)(new:∀b u,s.heap.objs.size<=b->H' b=some u->ń X.prog X.w H' h' b u) :
 Inv X pins σ H' {s with heap:=h',toks:=t'}:=by
 have up:∀b u,H b=some u->H' b=some u:=λb u e=>(old b (I.hok b u e).lt).trans e
 refine I.un ⟨λb ob q _ _ _=>k b ob q,λb ob q _ _ _=>⟨ob.slots,k b ob q⟩,λb ob q n _=>(old b (Heap.lt_size q)).trans n,λb ob q _=>⟨ob,k b ob q⟩,λb xs q=>up _ _ q,λb o u q=>up _ _ q,λb q z=>up _ _ z⟩ λb u e=>?_
 by_cases hb:b<s.heap.objs.size
 ·have e':=e
  rw[old b hb] at e'
  exact(I.hok b u e').stay (λc v _ q=>k c v q) (λc q=>up _ _ q) (λc xs q=>up _ _ q) λc q z=>up _ _ z
 ·exact new b u (Nat.le_of_not_lt hb) e
abbrev MP:Int:=4294967296
def lJ(p:Int×Int):Int:=p.1*MP+p.2
def tSI(i:Nat):TE:=λσ H Q=>pB i σ H λx H1=>∃a ks,∃ps:List (Int×Int),x=.ref a/\Rd H1 a (.dK ks)/\ks=ps.map (λp=>(Sum.inl p.1,V.int p.2))/\(∀p∈ps,0<=p.2/\p.2<MP)/\
 ∀(ls:List (Addr×(Int×Int))) (q:Addr),(ls.map (·.2)).Perm ps->((ls.map (·.2)).map lJ).Pairwise (·<= ·)->(ls.map (·.1)).Nodup->(∀a∈ls.map (·.1),H1 a=none)->q∉ls.map (·.1)->H1 q=none->Q (.ref q) (upd (nD H1 ls) q (.lst (ls.map λx=>.ref x.1)))
theorem pairs_at{prog:Program}{w:World}{h:Heap}{lo:Addr}:∀{ps:List (Int×Int)} {vs:List (Key×Value)} {as:List Addr},KV (ps.map λp=>((Sum.inl p.1:Key),V.int p.2)) vs->(∀p∈ps,0<=p.2/\p.2<MP)->as.length=vs.length->(∀(j:Nat) (a:Addr),as[j]?=some a->∃key k x,vs[j]?=some (k,x)/\(ĺ prog w).is k key=true/\h.get? a=some {cls:=.type "tuple",data:=.seq #[key,x]})->gF.ķ h MP (as.map Value.ref) ps
 | [],_,as,hk,_,hl,_=>by
   cases hk
   have:as=[]:=List.length_eq_zero_iff.mp (by simpa using hl)
   subst this
   exact .nil
 |p::ps,_,as,hk,hb,hl,hp=>by
  cases hk with
  |cons r t=>
   cases as with
   |nil=>simp at hl
   |cons a as=>
    obtain⟨key,k,x,h1,h2,h3⟩:=hp 0 a rfl
    have e1:=Option.some.inj h1
    rw[e1] at r
    obtain⟨r1,r2⟩:=r
    have ek:k=.inl p.1:=r1.symm
    subst ek
    have hk2:Value.isInt p.1 key=true:=h2
    obtain⟨tk,rfl⟩:∃t,key=.int p.1 t:=by
     cases key<;>simp[Value.isInt] at hk2
     exact⟨_,by rw[hk2]⟩
    obtain⟨tx,rfl⟩:=r2
    refine .cons ⟨a,_,0,tk,tx,rfl,h3,rfl,rfl,(hb p (.head _)).1,(hb p (.head _)).2⟩ (pairs_at (prog:=prog) (w:=w) (lo:=lo) t (λq hq=>hb q (.tail _ hq)) (by simpa using hl) λj a' hj=>?_)
    obtain⟨key',k',x',z1,z2⟩:=hp (j+1) a' (by simpa using hj)
    exact⟨key',k',x',by simpa using z1,z2⟩
theorem cP{h:Heap}:∀{vs:List Value} {ps:List (Int×Int)},gF.ķ h MP vs ps->∃ls:List (Addr×(Int×Int)),vs=ls.map (λx=>.ref x.1)/\ls.map (·.2)=ps/\∀x∈ls,∃o c t u,h.get? x.1=some o/\o.cls=.type "tuple" /\o.data=.seq #[.int x.2.1 t,.int x.2.2 u] c
 |_,_,.nil=>⟨[],rfl,rfl,λx hx=>by cases hx⟩
 |_,_,.cons (p:=p) x r=>by
  obtain⟨ls,h1,h2,h3⟩:=cP r
  obtain⟨b,o,c,t,u,rfl,ho,hc,hd,_⟩:=x
  refine⟨(b,p)::ls,by rw[h1];rfl,by rw[List.map_cons,h2],λy hy=>?_⟩
  rcases List.mem_cons.mp hy with rfl|hy
  ·exact⟨o,c,t,u,ho,hc,hd⟩
  ·exact h3 y hy
def zO(i:Nat){x:Str}{px p1 ap cp:Pos}(hc:X.calm=true)(hg:Gl X "sorted")(hm:X.mg "sorted" =none)(hN:X.N[i]?=some x)(hv:wz X.env.scope x)(hd:(x== ("__debug__" :Str))=false)(hcd:(x== ("__classdict__" :Str))=false)
 (hbase:attributeBase (.Name x px) "items" X.env (eval (.Name x px) X.env)=eval (.Name x px) X.env)(hline:(ap.endLine== cp.line)=true) :
 PE X (.Call (.Name "sorted" p1) [.Call (.Attribute (.Name x px) "items" ap) [] [] cp] [] pos) (tSI i):=by
 intro pins s σ H Q I h
 refine Call_ (gG I hg hm PyProof.Rows.boot_sorted (PyProof.Rows.callWith_builtin1 ?_ rfl rfl))
 refine Calls.spliced_cons ?_
 refine wpAny_Call_method0_late hbase hline (Ń (aZ (X:=X) hN hv hd hcd pins s σ H _ I h) λv s1 ⟨xv,H1,I1,r1,q1⟩=>?_)
 obtain⟨a,ks,ps,e,ha,hks,hb,q⟩:=q1
 subst e
 cases r1
 obtain⟨hz,lo,vs,hKV,hD⟩:=CT I1.hok ha
 obtain⟨ep,hat⟩:=hD.dictAt
 have hh:X.A.handled=none:=I1.ok.hd hc
 obtain⟨od,es,hod,hexd,_⟩:=id hat
 refine⟨"dict","dict.items",PySem.F.plainAttrs_dict,PySem.F.slot_dict_items,PySem.F.type_dict_items,hD.typeIs,λb e2=>by cases e2;exact⟨od,hod,hexd.2.1⟩,Calls.callWith_builtin rfl (PySem.evalArgs_none ?_)⟩
 refine call_meetsIn PySem.F.slot_dict_items hD.typeIs PySem.F.entry_dict_items (PySem.F.args_dict_items_1 _) (meets_dict_items (ĺ X.prog X.w) a lo) ⟨⟨vs,hD⟩,?_⟩
 show wpAny _ _ _ _ _ _
 refine Calls.spliced_nil ?_
 have hvl:=Paired.length hKV
 have hvz:vs.length<=sizeLine:=by omega
 have hsz1:(s1.heap.push {cls:=.type "dict_items",data:=.fields #[.ref a]}).objs.size=s1.heap.objs.size+1:=size_push' ..
 refine Calls.call_function_entry kind_sorted plain_sorted entry_sorted (args_sorted1 _) ?_
 unfold Builtin.«sorted»
 refine wpAny_bind (m:=checkCount "sorted" 1 1 _) (wpAny_pure ?_)
 refine wpAny_bind (PySem.W.kdx_collect (A:=X.A.in1) (s:={s1 with heap:=s1.heap.push {cls:=.type "dict_items",data:=.fields #[.ref a]}}) (knd:=ĺ X.prog X.w) (kvs:=vs) (ep:=ep) hh ⟨_,Heap.get?_push_size _ rfl,rfl,rfl⟩ (hat.push _) hvz λh2 tk as k2 hal hG=>?_)
 subst hks
 have hP:gF.ķ h2 MP (as.map Value.ref) ps:=pairs_at (prog:=X.prog) (w:=X.w) (lo:=0) hKV hb hal hG.pairs
 refine wpAny_bind (wpAny_newList ?_ (by rw[List.length_map,hal];exact hvz))
 have hoL:(h2.push (seqObj "list" (as.map Value.ref).toArray 0)).get? h2.objs.size=some (seqObj "list" (as.map Value.ref).toArray 0):=Heap.get?_push_size _ rfl
 have hP2:gF.ķ (h2.push (seqObj "list" (as.map Value.ref).toArray 0)) MP (as.map Value.ref) ps:=pairs_at (prog:=X.prog) (w:=X.w) (lo:=0) hKV hb hal λj b hj=>let ⟨key,k,x,z1,z2,z3⟩:=hG.pairs j b hj;⟨key,k,x,z1,z2,Heap.get?_push_of_some _ z3⟩
 refine wpAny_bind (wpAny_holding (wpAny_call_entry slot_list_sort ⟨_,hoL,rfl⟩ entry_list_sort (gF.i_ (M:=MP) (s:={s1 with heap:=h2.push (seqObj "list" (as.map Value.ref).toArray 0),toks:=tk}) hoL (by rw[List.length_map,hal];exact hvz) hP2 λout qs op o1 o2 o3=>⟨_,rfl,?_⟩) (args_list_sort _)))
 refine wpAny_pure ⟨_,rfl,?_⟩
 obtain⟨ls,l1,l2,l3⟩:=cP o1
 subst l2
 have Zcf:ls.length=ps.length:=by have:=o2.length_eq;simpa using this
 have kp0:∀b u,s1.heap.get? b=some u->h2.get? b=some u:=λb u e=>k2 b u (Heap.get?_push_of_some _ e)
 have hlt2:∀b u,s1.heap.get? b=some u->b<h2.objs.size:=λb u e=>Heap.lt_size (kp0 b u e)
 have kp:∀b u,h2.get? b=some u->(sortedHeap (h2.push (seqObj "list" (as.map Value.ref).toArray 0)) h2.objs.size (as.map Value.ref) out.toArray).get? b=some u:=λb u e=>by
  have hlt:=Heap.lt_size e
  rw[sortedHeap_old (Nat.ne_of_lt hlt) (by rw[size_push'];exact Nat.lt_succ_of_lt hlt)]
  exact Heap.get?_push_of_some _ e
 obtain⟨ec,he⟩:=sortedHeap_at (out:=out.toArray) hoL
 have inj:∀{as bs:List Addr},(as.map Value.ref).Perm (bs.map Value.ref)->as.Perm bs:=fun{as bs} hp=>by
  have:=hp.map λv:Value=>match v with| .ref a=>a|_=>0
  rw[List.map_map,List.map_map] at this
  simpa[Function.comp_def] using this
 have opa:(ls.map (·.1)).Perm as:=inj (by
  rw[l1] at op
  rw[List.map_map]
  exact op)
 have hnd:(ls.map (·.1)).Nodup:=opa.nodup_iff.mpr (hG.rise.imp Nat.ne_of_lt)
 have hab:∀b∈ls.map (·.1),s1.heap.objs.size<=b/\b<h2.objs.size:=λb hb=>by
  have hb':=opa.mem_iff.mp hb
  have:=hG.above b hb'
  refine⟨?_,hG.there hb'⟩
  have h0:s1.heap.objs.size+1<b:=by rw[<-hsz1];exact this
  exact Nat.le_of_lt (Nat.lt_of_succ_lt h0)
 have hq0:h2.objs.size∉ls.map (·.1):=λz=>Nat.lt_irrefl _ (hab _ z).2
 have Kw:s1.heap.objs.size<=h2.objs.size:=Nat.le_trans (Nat.le_of_lt (Nat.lt_succ_self _)) (by
  have:h2.get? s1.heap.objs.size=some _:=k2 _ _ (Heap.get?_push_size _ rfl)
  exact Heap.lt_size this)
 have lK:∀b,s1.heap.objs.size<=b->H1 b=none:=λb hb=>I1.hok.fresh hb
 have I3:Inv X pins σ (upd (nD H1 ls) h2.objs.size (.lst (ls.map λx=>.ref x.1))) {s1 with heap:=sortedHeap (h2.push (seqObj "list" (as.map Value.ref).toArray 0)) h2.objs.size (as.map Value.ref) out.toArray,toks:=tk}:=by
  refine Inv.laidN I1 (λb u e=>kp b u (kp0 b u e)) (λb hb=>?_) (λb u hb e=>?_)
  ·rw[č (Nat.ne_of_lt (Nat.lt_of_lt_of_le hb Kw)),cO _ _ λz=>Nat.not_lt_of_le (hab b z).1 hb]
  ·by_cases e0:b=h2.objs.size
   ·subst e0
    rw[ē] at e
    cases e
    refine⟨by rw[List.length_map,Zcf];have:=congrArg List.length (rfl:ps=ps);simp at hvl;omega,out,ec,?_,?_⟩
    ·rw[l1]
     have vr:∀l:List (Addr×(Int×Int)),Vals (l.map λx=>V.ref x.1) (l.map λx=>Value.ref x.1):=λl=>by
      induction l with
      |nil=>exact .nil
      |cons y l ih=>exact .cons rfl ih
     exact vr ls
    ·rw[he]
   ·rw[č e0] at e
    by_cases hm':b∈ls.map (·.1)
    ·obtain⟨y,hy,rfl⟩:=List.mem_map.mp hm'
     rw[xZ ls H1 hnd y hy] at e
     cases e
     obtain⟨o,c,t,u2,z1,z2,z3⟩:=l3 y hy
     have z1':h2.get? y.1=some o:=by
      have hne:y.1≠h2.objs.size:=Nat.ne_of_lt (hab _ hm').2
      rw[Heap.get?_push_ne _ _ _ hne] at z1
      exact z1
     exact⟨by show 2<=sizeLine;rw[ğ];omega,[.int y.2.1 t,.int y.2.2 u2],.cons ⟨t,rfl⟩ (.cons ⟨u2,rfl⟩ .nil),o,kp _ _ z1',z2,c,z3⟩
    ·rw[cO ls H1 hm',lK b hb] at e
     cases e
 refine⟨.ref h2.objs.size,_,I3,rfl,q ls h2.objs.size o2 ?_ hnd (λb hb=>lK b (hab b hb).1) hq0 (lK _ Kw)⟩
 exact o3
def bJ:List (DK×PV)->Option (List (Int×Int))
 | []=>some []
 |(.inl k,.int v)::r=>if 0<=v/\v<MP then(bJ r).map ((k,v):: ·) else none
 |_=>none
def Xn(k:Int):Int×Int:=(k / MP,k % MP)
def yc{p:Int×Int}(h1:0<=p.2)(h2:p.2<MP):Xn (lJ p)=p:=by
 unfold Xn lJ
 obtain⟨a,b⟩:=p
 dsimp only at h1 h2 ⊢
 rw[Int.add_comm,Int.add_mul_ediv_right _ _ (by decide),Int.add_mul_emod_self_right,Int.ediv_eq_zero_of_lt h1 h2,Int.emod_eq_of_lt h1 h2,Int.zero_add]
def tupP(p:Int×Int):PV:=.tup [.int p.1,.int p.2]
def bZ(ps:List (Int×Int)):List (Int×Int):=(Dk (ps.map lJ)).map Xn
def yg{ls ps:List (Int×Int)}(hp:ls.Perm ps)(hs:(ls.map lJ).Pairwise (·<= ·))(hb:∀p∈ps,0<=p.2/\p.2<MP):ls=bZ ps:=by
 have e:ls.map lJ=Dk (ps.map lJ):=oR hs (iZ _) ((hp.map lJ).trans (g_ _).symm)
 unfold bZ
 rw[<-e,List.map_map]
 conv=>lhs;rw[<-List.map_id ls]
 refine List.map_congr_left λp hq=>?_
 have:=hb p (hp.mem_iff.mp hq)
 exact(yc this.1 this.2).symm
theorem oW{K:KK}{F:Hp}:∀{kvs:List (DK×PV)} {ks:List (Key×V)} {ps:List (Int×Int)},bJ kvs=some ps->Paired (DG K F (Sum.inl:Int->DK) (Sum.inl:Int->Key)) kvs ks->ks=ps.map (λp=>(Sum.inl p.1,V.int p.2))/\∀p∈ps,0<=p.2/\p.2<MP
 |_,_,ps,h,.nil=>by
  cases h
  exact⟨rfl,λp hp=>by cases hp⟩
 |(a,b)::kvs,(c,d)::ks,ps,h,.cons ⟨⟨j,r1,r2⟩,r3⟩ t=>by
  dsimp only at r1 r2 r3
  cases a with
  |inr l=>cases r1
  |inl k=>
   cases b with
   |int v=>
    unfold bJ at h
    split at h
    ·rename_i hv
     obtain⟨qs,h1,rfl⟩:=Option.map_eq_some_iff.mp h
     obtain⟨e1,e2⟩:=oW h1 t
     have ek:k=j:=jH r1
     unfold Rep at r3
     refine⟨by rw[e1,r2,r3,ek];rfl,λp hp=>?_⟩
     rcases List.mem_cons.mp hp with rfl|hp
     ·exact hv
     ·exact e2 p hp
    ·cases h
   |_=>cases h
theorem tE{K:KK}{c:Ctx}{σ:L2.St}{ρ:ĸ}:∀(ls:List (Addr×(Int×Int))) {F H:Hp},Rel K c F H σ ρ->(ls.map (·.1)).Nodup->(∀a∈ls.map (·.1),H a=none)->∃F',Rel K c F' (nD H ls) σ ρ/\Same F F'/\Same H (nD H ls)/\ĉ K F' (ls.map λx=>tupP x.2) (ls.map λx=>V.ref x.1)
 | [],F,H,rel,_,_=>⟨F,rel,Same.refl _,Same.refl _,ĉ.nil⟩
 |x::r,F,H,rel,hn,hz=>by
  obtain⟨n1,n2⟩:=List.nodup_cons.mp hn
  have h0:=hz x.1 (.head _)
  obtain⟨F',r1,r2,r3,r4⟩:=tE r (rel.alloc (o:=.tup [.int x.2.1,.int x.2.2]) h0) n2 λa ha=>by
   rw[č (λz:a=x.1=>n1 (by show x.1∈_;rw[<-z];exact ha))]
   exact hz a (.tail _ ha)
  refine⟨F',r1,(Same.upd (rel.sub.free h0)).trans r2,(Same.upd h0).trans r3,ĉ.cons ?_ r4⟩
  unfold tupP Rep
  refine⟨x.1,[.int x.2.1,.int x.2.2],rfl,r2 _ _ ē,ĉ.cons (by unfold Rep;rfl) (ĉ.cons (by unfold Rep;rfl) ĉ.nil)⟩
def jL(i:Nat):M RV:=λρ=>match Uj ρ i with
 |some kvs=>match bJ kvs with
  |some ps=>.ok (.ow ((bZ ps).map tupP)) ρ
  |none=>.bad
 |none=>.bad
@[simp] theorem Us{i:Nat}{ρ:ĸ}:jL i ρ=(match Uj ρ i with
  |some kvs=>match bJ kvs with
   |some ps=>.ok (.ow ((bZ ps).map tupP)) ρ
   |none=>.bad
  |none=>.bad):=rfl
def Ej(i:Nat){x:Str}{px p1 ap cp:Pos}(hc:X.calm=true)(hg:Gl X "sorted")(hm:X.mg "sorted" =none)(hN:X.N[i]?=some x:=by rfl)(hv:wz X.env.scope x:=by first|exact Or.inl rfl|exact Or.inr (Or.inl rfl)|exact Or.inr (Or.inr rfl))(hd:(x== ("__debug__" :Str))=false:=by decide)(hcd:(x== ("__classdict__" :Str))=false:=by decide)
 (hbase:attributeBase (.Name x px) "items" X.env (eval (.Name x px) X.env)=eval (.Name x px) X.env:=by rfl)(hline:(ap.endLine== cp.line)=true:=by rfl) :
 PE X (.Call (.Name "sorted" p1) [.Call (.Attribute (.Name x px) "items" ap) [] [] cp] [] pos) (tO (kk X cm) E (jL i)):=PE.wk (zO i hc hg hm hN hv hd hcd hbase hline) λσ H Q ⟨c,F,ρ,rel,h⟩=>by
 unfold jL at h
 cases e1:Uj ρ i with
 |none=>rw[e1] at h;exact h.elim
 |some kvs=>
  rw[e1] at h
  dsimp only at h
  cases e2:bJ kvs with
  |none=>rw[e2] at h;exact h.elim
  |some ps=>
   rw[e2] at h
   obtain⟨a,ks,z1,z2,z3⟩:=Rm rel e1
   obtain⟨k1,k2⟩:=oW e2 z3
   refine⟨.ref a,z1,a,ks,ps,rfl,z2,k1,k2,λls q p1 p2 p3 p4 p5 p6=>?_⟩
   obtain⟨F',r1,r2,r3,r4⟩:=tE (K:=kk X cm) ls rel p3 p4
   have em:=yg p1 p2 k2
   have er:ls.map (λx=>tupP x.2)=(bZ ps).map tupP:=by rw[<-em,List.map_map];rfl
   rw[er] at r4
   have hq:nD H ls q=none:=(cO ls H p5).trans p6
   obtain⟨q1,q2⟩:=Ŷ r1 hq r4
   exact h _ _ _ q1 r2 (r3.trans (Same.upd hq)) q2
end
end P
namespace PySem
section
variable{prog:Program}{w:World}{K:Type}[DecidableEq K]{knd:HeapKind prog w K}{A:Around}{E:Value->Shared->Prop}{s:Shared}
def zP{d a:Addr}{xs:List (K×Addr×Value)}{k:K}{v:Value}{Q:Value->Shared->Prop}(hu:knd.room A)(hkey:knd.is s.heap k a)(hm:s.heap.DictOfH knd d xs)
 (h1:∀p,atKey xs k=some p->Q p.2 {s with toks:=s.toks+knd.draws k})
 (h2:atKey xs k=none->∀h',h'.DictOfH knd d (storedH xs k a v)->Heap.SameBut d s.heap h'->Q v {s with heap:=h',toks:=s.toks+knd.draws k})
 (hsz:xs.length<=sizeLine) :
 wpAny (model prog w) A (dictSetDefault d (.ref a) v) Q E s:=by
 obtain⟨o,es,ep,ho,hc,hd,he,his,hn⟩:=hm
 unfold dictSetDefault
 try with_reducible refine wpAny_holding ?_
 refine wpAny_bind (knd.pyHash hu hkey (wpAny_bind (wpAny_dictFind_heap (s:={s with toks:=s.toks+knd.draws k}) hu hkey ho hd he his hn ?_ ?_)))
 ·intro hno
  have hnot:k∉xs.map (·.1):=not_mem_keys_of_get hno
  have hat:=atKey_none_of_get hno
  refine wpAny_bind (wpAny_rule (wpAny_bind (wpAny_updateDictKeys (hz:=by have e:=size_of_entries he;omega) (s:={s with toks:=s.toks+knd.draws k}) ho hd (wpAny_pure (h2 hat _ ⟨_,_,ep+1,Heap.get?_update_self _ ho (Obj.isFreed_of_dict (Obj.data_mapDictKeys hd _)),
   hc.mapDictKeys _,Obj.data_mapDictKeys hd _,?_,?_,?_⟩ (Heap.SameBut.update ..))))))
  ·rw[storedH_new hat]
   simp[he,entryOfKey]
  ·rw[storedH_new hat]
   intro x hx
   rcases List.mem_append.mp hx with hx|hx
   ·exact knd.keeps (his x hx) ho hd (Heap.SameBut.update ..)
   ·simp only[List.mem_singleton] at hx
    subst hx
    exact knd.keeps hkey ho hd (Heap.SameBut.update ..)
  ·rw[storedH_new hat]
   rw[List.map_append,List.nodup_append]
   refine⟨hn,by simp,?_⟩
   intro x hx y hy
   simp only[List.map_cons,List.map_nil,List.mem_singleton] at hy
   subst hy
   exact λe=>hnot (e▸hx)
 ·intro j p hj
  have h:=h1 _ (atKey_of_get hn hj)
  refine wpAny_bind (wpAny_dictEntries (s:={s with toks:=s.toks+knd.draws k}) ho hd ?_)
  rw[entry_at he j,hj]
  exact wpAny_bind (wpAny_rule (wpAny_pure h))
def zQ(d a:Addr)(hd:(d== sysModules)=false)(dflt:Value) :
 MeetsIn prog w (Builtin.«dict.setdefault» ⟨[.ref d,.ref a,dflt],[]⟩) (λA R s=>knd.room A.in1/\∃k xs,knd.is s.heap k a/\s.heap.DictOfH knd d xs/\xs.length<=sizeLine/\
  (∀p,atKey xs k=some p->R (.ok (.ret p.2)) {s with toks:=s.toks+knd.draws k})/\
  (atKey xs k=none->∀h',h'.DictOfH knd d (storedH xs k a dflt)->Heap.SameBut d s.heap h'->R (.ok (.ret dflt)) {s with heap:=h',toks:=s.toks+knd.draws k})):=
 .of_wp fun A R s ⟨hu,k,xs,hkey,hm,hz,h1,h2⟩=>by
   unfold Builtin.«dict.setdefault»
   refine wpAny_bind ?_
   unfold Builtin.Dict.keyAndDefault
   refine wpAny_bind (wpAny_notOrdered_dict hm.typeIs ?_)
   show wpAny _ _ (pure (d,Value.ref a,some dflt)) _ _ s
   refine wpAny_pure ?_
   show wpAny _ _ (if(d== sysModules)=true then _ else(dictSetDefault d (.ref a) dflt >>= _)) _ _ s
   rw[if_neg (by rw[hd];exact Bool.false_ne_true)]
   exact wpAny_bind (zP hu hkey hm (λp hp=>wpAny_pure ⟨p.2,rfl,h1 p hp⟩) (λhn h' hm' hs'=>wpAny_pure ⟨dflt,rfl,h2 hn h' hm' hs'⟩) hz)
end
end PySem
namespace P
open PySem PySem.Spec PyProof.Rows L2 M2 M3 M4
section
variable{X:Cx}{pins:List (Addr×Obj)}{σ:L2.St}{H:Hp}{s:Shared}{a b:Addr}{d:V}{r:Value}{A:Around}{E:Value->Shared->Prop}{kvs:List (List Key×V)}{k:List Key}
def Ek{Q:Value->Shared->Prop}(hu:A.units+1<cLine)(I:Inv X pins σ H s)(e:H a=some (.dT kvs))(eb:H b=some (.tup (k.map kV)))(rd:RelV d r)
 (h1:∀v,bI kvs k=some v->∀w' s',Inv X pins σ H s'->RelV v w'->Q w' s')
 (h2:bI kvs k=none->kvs.length<sizeLine/\∀s',Inv X pins σ (upd H a (.dT (putK kvs k d))) s'->Q r s') :
 wpAny (model X.prog X.w) A (call (.builtin "dict.setdefault") [.ref a,.ref b,r]) Q E s:=by
 obtain⟨z,hd,xs,rel,dd⟩:=Kl I.hok e
 have hz:xs.length<=sizeLine:=by rw[<-Paired.length rel];exact z
 refine call_meetsIn PySem.F.slot_dict_setdefault dd.typeIs PySem.F.entry_dict_setdefault (PySem.F.args_dict_setdefault_3 _ _ _) (zQ (knd:=tupleKind (ĺ X.prog X.w)) a b hd r) ⟨tupleKind_room_in1 hu,k,xs,vD I.hok eb,dd,hz,λp hp=>?_,λhn h' Ui hs=>?_⟩
 ·have q:=rel.val k
  rw[hp] at q
  cases e1:bI kvs k with
  |none=>rw[e1] at q;exact(show False from q).elim
  |some v=>rw[e1] at q;exact h1 v e1 _ _ (I.tok _) q
 ·have q:=rel.val k
  rw[hn] at q
  cases e1:bI kvs k with
  |some v=>rw[e1] at q;exact(show False from q).elim
  |none=>
   obtain⟨hl,h2⟩:=h2 e1
   have hl':(putK kvs k d).length<=sizeLine:=by have:=cJ kvs k d;omega
   obtain⟨q,es,ep,hq,g2,g3,g4,_,g5⟩:=Ui
   refine h2 _ (qe I (by rw[e];exact True.intro) hs ⟨q,hq⟩ ⟨hl',hd,_,(rel.put k eb rd).keeps λc ys ec=>?_,q,es,ep,hq,g2,g3,g4,g5⟩)
   rw[č (Jx ec e (λz=>nomatch z))]
   exact ec
end
def Zcg(td ty tx:TE):TE:=λσ H Q=>td σ H λx H1=>∃a,x=.ref a/\IsD H1 a/\ty σ H1 λy H2=>tx σ H2 λz H3=>∃kvs k b,H3 a=some (.dT kvs)/\y=.ref b/\H3 b=some (.tup (k.map kV))/\
 (∀v,bI kvs k=some v->Q v H3)/\(bI kvs k=none->kvs.length<sizeLine/\Q z (upd H3 a (.dT (putK kvs k z))))
section
variable{X:Cx}{o e f:Expr}{apos cpos:Pos}{td ty tx:TE}
def RN(hu:X.A.units+1<cLine)(ho:PE X o td)(he:PE X e ty)(hf:PE X f tx)(m:L2.M2 X o "setdefault" apos e f cpos):PE X (.Call (.Attribute o "setdefault" apos) [e,f] [] cpos) (Zcg td ty tx):=by
 intro pins s σ H Q I h
 refine wpAny_Call_method m.base m.few m.line PySem.F.plainAttrs_dict PySem.F.slot_dict_setdefault PySem.F.type_dict_setdefault (Ń (ho pins s σ H _ I h) λu s1 ⟨x,H1,I1,rx,a,ex,d,q1⟩=>?_)
 subst ex
 obtain rfl:u=Value.ref a:=rx
 obtain⟨t1,t2,_⟩:=Rk I1 d
 refine⟨t1,t2,?_⟩
 rw[m.trees]
 refine Calls.callWith_builtin rfl (Calls.evalArgs_plain (Calls.spliced_cons (Ń (he pins s1 σ H1 _ I1 q1) λiv s2 ⟨y,H2,I2,ry,q2⟩=>
  Calls.spliced_cons (Ń (hf pins s2 σ H2 _ I2 q2) λfv s3 ⟨z,H3,I3,rz,kvs,k,b,ea,ey,eb,q3,q4⟩=>Calls.spliced_nil ?_))))
 subst ey
 cases(show iv=Value.ref b from ry)
 exact Ek hu I3 ea eb rz (λv l w' s' I4 Vq=>⟨v,H3,I4,Vq,q3 v l⟩) λl=>⟨(q4 l).1,λs4 I4=>⟨z,_,I4,rz,(q4 l).2⟩⟩
end
theorem oX{K:KK}{F:Hp}:∀{ps:List PV} {is:List Int} {xs:List V},oO ps=some is->ĉ K F ps xs->xs=(is.map (Sum.inl:Int->Key)).map kV
 | [],is,xs,h,r=>by
   cases h
   unfold ĉ at r
   rw[r];rfl
 |p::ps,is,xs,h,r=>by
  unfold ĉ at r
  obtain⟨x,r',rfl,r1,r2⟩:=r
  cases p with
  |int i=>
   unfold oO at h
   obtain⟨js,e1,e2⟩:=Option.map_eq_some_iff.mp h
   subst e2
   have ex:x=.int i:=by unfold Rep at r1;exact r1
   rw[List.map_cons,List.map_cons,<-oX e1 r2,ex]
   rfl
  |_=>exact nomatch h
def Zch{p:PV}{k:DK}(h:nC true p=some k):∃ps is,p=.tup ps/\oO ps=some is/\k=.inr is:=by
 cases p with
 |tup ps=>
  have h:(oO ps).map Sum.inr=some k:=h
  obtain⟨is,e1,e2⟩:=Option.map_eq_some_iff.mp h
  exact⟨ps,is,rfl,e1,e2.symm⟩
 |int i=>exact nomatch h
 |_=>exact nomatch h
def tH{K:KK}{F:Hp}{p:PV}{k:DK}{y:V}(h:nC true p=some k)(r:Rep K F p y):∃is b,k=.inr is/\y=.ref b/\F b=some (.tup ((is.map (Sum.inl:Int->Key)).map kV)):=by
 obtain⟨ps,is,rfl,e1,e2⟩:=Zch h
 unfold Rep at r
 obtain⟨b,xs,r1,r2,r3⟩:=r
 exact⟨is,b,e2,r1,by rw[r2,oX e1 r3]⟩
abbrev zR:List Int->List Key:=λis=>is.map Sum.inl
def jM{β γ:Type}{x y:γ}(h:(Sum.inr x:Sum β γ)=.inr y):x=y:=by injection h
theorem gk:∀{x y:List Int},zR x=zR y->x=y
 | [],[],_=>rfl
 | [],_::_,h=>nomatch h
 |_::_,[],h=>nomatch h
 |a::x,b::y,h=>by
  have h':(Sum.inl a:Key)::zR x=Sum.inl b::zR y:=h
  injection h' with h1 h2
  rw[jH h1,gk h2]
def lM{K:KK}{F:Hp}{kvs:List (DK×PV)}{u:HO}(h:pN K F true kvs u):∃ks:List (List Key×V),u=.dT ks/\Paired (DG K F (Sum.inr:List Int->DK) zR) kvs ks:=by
 rcases h with⟨h0,_⟩|⟨_,ks,h1,h2⟩
 ·cases h0
 ·exact⟨ks,h1,h2⟩
def lN{K:KK}{F:Hp}{kvs:List (DK×PV)}{ks:List (List Key×V)}(h:Paired (DG K F (Sum.inr:List Int->DK) zR) kvs ks):pN K F true kvs (.dT ks):=.inr ⟨rfl,ks,rfl,h⟩
section
variable{X:Cx}{cm:String->Addr}{E:L2.St->XK}{e f:Expr}{pos:Pos}{mk mv:M PV}
def qj(i:Nat):M Fl:=λρ=>.ok .nx (ρ.set i (.od true []))
def yj{i:Nat}{x:Str}{pos' p0:Pos}(hN:X.N.Nodup)(hi:X.N[i]?=some x)(hx:Loc X.env.scope x)(hs:swapsWith (.Dict [] [] p0) (some (.Name x pos')) pos.line X.env=pure false:=by rfl)(hf:X.fn x=true\/X.env.scope.names.lookup x=some .local:=by first|exact .inl rfl|exact .inr rfl|assumption) :
 PS X (.Assign [.Name x pos'] (.Dict [] [] p0) pos) (tS (kk X cm) E (qj i)):=PS.wk (pD hN hi hx Dc hs hf) λD σ H ⟨c,F,ρ,rel,h⟩ p hp=>by
 have Ċ:=rel.made (o:=.dT []) hp
 exact h _ F _ (Ċ.zy (s:=.od true []) ⟨p,.dT [],rfl,ē,rel.sub.free hp,rel.base.free hp,lN .nil⟩ λ_ z=>V.ref.inj z▸rel.fresh hp) (Same.refl _)
def Jh(j i:Nat)(mk mv:M PV):M Fl:=λρ=>match ρ[i]? with
 |some (.od true _)=>(mk ρ).bind λk ρ1=>(mv ρ1).bind λp ρ2=>match ρ2[i]?,nC true k with
  |some (.od true kvs),some dk=>match dval kvs dk with
   |some q=>.ok .nx (ρ2.set j (.sh q))
   |none=>if kvs.length<16777216 then .ok .nx ((ρ2.set i (.od true (dput kvs dk p))).set j (.sh p)) else .bad
  |_,_=>.bad
 |_=>.bad
def Xo{j i:Nat}{x y:Str}{px pos' ap cp:Pos}(hu:X.A.units+64<cLine)(hN:X.N.Nodup)(hj:X.N[j]?=some y)(hy:Loc X.env.scope y)(he:PE X e (tV (kk X cm) E mk))(hf:PE X f (tV (kk X cm) E mv))(ho:PE X (.Name x px) (pB i))
 (m:L2.M2 X (.Name x px) "setdefault" ap e f cp:=by exact⟨rfl,rfl,rfl,rfl⟩)
 (hs:swapsWith (.Call (.Attribute (.Name x px) "setdefault" ap) [e,f] [] cp) (some (.Name y pos')) pos.line X.env=pure false:=by rfl)(hfn:X.fn y=true\/X.env.scope.names.lookup y=some .local:=by first|exact .inl rfl|exact .inr rfl|assumption) :
 PS X (.Assign [.Name y pos'] (.Call (.Attribute (.Name x px) "setdefault" ap) [e,f] [] cp) pos) (tS (kk X cm) E (Jh j i mk mv)):=PS.wk (pD hN hj hy (RN (by omega) ho he hf m) hs hfn) λD σ H ⟨c,F,ρ,rel,h⟩=>by
 unfold Jh at h
 cases e0:ρ[i]? with
 |none=>rw[e0] at h;exact h.elim
 |some sl=>
  rw[e0] at h
  cases sl with
  |od t0 WY=>
   cases t0 with
   |false=>exact h.elim
   |true=>
    obtain⟨a,u0,z1,z2,z3,z4,z5⟩:=rel.slot i _ e0
    obtain⟨ks0,rfl,_⟩:=lM z5
    refine⟨.ref a,at_of z1,a,rfl,.inr ⟨ks0,.inl z2⟩,c,F,ρ,rel,Ř.bind h λk ρ1 y1 F1 H1 Ċ s1 r1 h1=>⟨c,F1,ρ1,Ċ,Ř.bind h1 λp ρ2 v F2 H2 Ĩ s2 r2 h2=>?_⟩⟩
    cases e2:ρ2[i]? with
    |none=>rw[e2] at h2;exact h2.elim
    |some sl2=>
     rw[e2] at h2
     cases sl2 with
     |od t kvs=>
      cases t with
      |false=>exact h2.elim
      |true=>
       cases ek:nC true k with
       |none=>rw[ek] at h2;exact h2.elim
       |some dk=>
        rw[ek] at h2
        dsimp only at h2
        obtain⟨is,b,rfl,ey,eb⟩:=tH ek (Rep.same s2 k y1 r1)
        obtain⟨a2,u,w1,w2,w3,w4,w5⟩:=Ĩ.slot i _ e2
        obtain⟨ks,rfl,w6⟩:=lM w5
        have e3:=at_of z1
        rw[at_of w1] at e3
        have e3':a2=a:=by injection e3 with e3;injection e3 with e3;injection e3
        subst e3'
        refine⟨ks,zR is,b,w2,ey,Ĩ.sub _ _ eb,λv' l=>?_,λl=>?_⟩
        ·rcases vG (c:=(Sum.inr:List Int->DK)) (kf:=zR) jM gk is w6 with⟨_,q2⟩|⟨p',v2,q1,q2,q3⟩
         ·rw[q2] at l;cases l
         ·rw[q2] at l
          cases l
          rw[q1] at h2
          exact h2 _ F2 _ (Ĩ.put rfl ⟨_,rfl,q3⟩) (Same.refl _)
        ·rcases vG (c:=(Sum.inr:List Int->DK)) (kf:=zR) jM gk is w6 with⟨q1,_⟩|⟨p',v2,_,q2,_⟩
         ·rw[q1] at h2
          dsimp only at h2
          split at h2
          ·rename_i hz
           refine⟨by rw[<-Paired.length w6,ğ];exact hz,h2 _ F2 _ ?_ (Same.refl _)⟩
           have aP:=Ĩ.pP ⟨_,_,e2,at_of w1,rfl⟩ (o:=.dT (putK ks (zR is) v)) (s:=.od true (dput kvs (.inr is) p)) ⟨a2,_,w1,ē,w3,w4,lN (vH jM gk is r2 w6)⟩ λx' b ex z=>by
            rw[at_of w1] at ex
            cases ex
            have:a2=b:=V.ref.inj z
            subst this
            exact⟨_,_,e2,at_of w1,rfl⟩
           exact aP.put rfl ⟨_,rfl,r2⟩
          ·exact h2.elim
         ·rw[q2] at l;cases l
     |_=>exact h2.elim
  |_=>exact h.elim
@[simp] theorem Xp{i:Nat}{ρ:ĸ}:qj i ρ=.ok .nx (ρ.set i (.od true [])):=rfl
@[simp] theorem Zci{j i:Nat}{ρ:ĸ}:Jh j i mk mv ρ=(match ρ[i]? with
  |some (.od true _)=>(mk ρ).bind λk ρ1=>(mv ρ1).bind λp ρ2=>match ρ2[i]?,nC true k with
   |some (.od true kvs),some dk=>match dval kvs dk with
    |some q=>.ok .nx (ρ2.set j (.sh q))
    |none=>if kvs.length<16777216 then .ok .nx ((ρ2.set i (.od true (dput kvs dk p))).set j (.sh p)) else .bad
   |_,_=>.bad
  |_=>.bad):=rfl
def vO(i:Nat)(mk mv:M PV):M Fl:=λρ=>(mv ρ).bind λp ρ1=>match ρ1[i]? with
 |some (.od true _)=>(mk ρ1).bind λk ρ2=>match ρ2[i]?,nC true k with
  |some (.od true kvs),some dk=>if kvs.length<16777216 then .ok .nx (ρ2.set i (.od true (dput kvs dk p))) else .bad
  |_,_=>.bad
 |_=>.bad
def Ji{i:Nat}{x:Str}{ix:Expr}{px Dj:Pos}(hu:X.A.units+64<cLine)(he:PE X e (tV (kk X cm) E mv))(hi:PE X ix (tV (kk X cm) E mk))(ho:PE X (.Name x px) (pB i))
 (hs:swapsWith e (some (.Subscript (.Name x px) ix Dj)) pos.line X.env=pure false:=by rfl) :
 PS X (.Assign [.Subscript (.Name x px) ix Dj] e pos) (tS (kk X cm) E (vO i mk mv)):=PS.wk (xJ (by omega) ho hi he hs) λD σ H ⟨c,F,ρ,rel,h⟩=>⟨c,F,ρ,rel,Ř.bind h λp ρ1 v F1 H1 Ċ s1 q h1=>by
 cases e1:ρ1[i]? with
 |none=>rw[e1] at h1;exact h1.elim
 |some sl=>
  rw[e1] at h1
  cases sl with
  |od t0 WY=>
   cases t0 with
   |false=>exact h1.elim
   |true=>
    obtain⟨a,u0,z1,_,_,_,_⟩:=Ċ.slot i _ e1
    refine⟨.ref a,at_of z1,c,F1,ρ1,Ċ,Ř.bind h1 λk ρ2 y F2 H2 Ĩ s2 r2 h2=>?_⟩
    cases e2:ρ2[i]? with
    |none=>rw[e2] at h2;exact h2.elim
    |some sl2=>
     rw[e2] at h2
     cases sl2 with
     |od t kvs=>
      cases t with
      |false=>exact h2.elim
      |true=>
       cases ek:nC true k with
       |none=>rw[ek] at h2;exact h2.elim
       |some dk=>
        rw[ek] at h2
        dsimp only at h2
        obtain⟨is,b,rfl,ey,eb⟩:=tH ek r2
        obtain⟨a2,u,w1,w2,w3,w4,w5⟩:=Ĩ.slot i _ e2
        obtain⟨ks,rfl,w6⟩:=lM w5
        have e3:=at_of z1
        rw[at_of w1] at e3
        have e3':a2=a:=by injection e3 with e3;injection e3 with e3;injection e3
        subst e3' ey
        split at h2
        ·rename_i hz
         have hl:ks.length<sizeLine:=by rw[<-Paired.length w6,ğ];exact hz
         refine⟨a2,_,rfl,sO.t (k:=zR is) w2 (Ĩ.sub _ _ eb) hl,h2 σ F2 _ (Ĩ.pP ⟨_,_,e2,at_of w1,rfl⟩ ⟨a2,_,w1,ē,w3,w4,lN (vH jM gk is (Rep.same s2 p v q) w6)⟩ λx' b ex z=>?_) (Same.refl _)⟩
         rw[at_of w1] at ex
         cases ex
         have:a2=b:=V.ref.inj z
         subst this
         exact⟨_,_,e2,at_of w1,rfl⟩
        ·exact h2.elim
     |_=>exact h2.elim
  |_=>exact h1.elim⟩
@[simp] theorem Xq{i:Nat}{ρ:ĸ}:vO i mk mv ρ=(mv ρ).bind fun p ρ1=>match ρ1[i]? with
  |some (.od true _)=>(mk ρ1).bind λk ρ2=>match ρ2[i]?,nC true k with
   |some (.od true kvs),some dk=>if kvs.length<16777216 then .ok .nx (ρ2.set i (.od true (dput kvs dk p))) else .bad
   |_,_=>.bad
  |_=>.bad:=rfl
end
end P
namespace P
open PySem PySem.Spec PyProof.Rows L2 M2 M3 M4
def tK(h:Heap)(d:Addr)(es:Array DictEntry)(ep:Nat):Prop:=∃o,h.get? d=some o/\o.ExactDict/\o.data=.dict es ep
section
variable{prog:Program}{w:World}{A:Around}{E:Value->Shared->Prop}{s:Shared}{d it:Addr}{es:Array DictEntry}{ep i:Nat}
def tK.tp(h:tK s.heap d es ep):s.TypeIs (.ref d) "dict" := let ⟨o,ho,hc,_⟩:=h;⟨o,ho,hc.1⟩
def tK.lt{h:Heap}(x:tK h d es ep):d<h.objs.size:=let ⟨_,ho,_⟩:=x;Heap.lt_size ho
def El{Q:Value->Shared->Prop}(hd:(d== sysModules)=false)(hm:tK s.heap d es ep)
 (hQ:Q (.ref s.heap.objs.size) {s with heap:=s.heap.push {cls:=.type "dict_keyiterator",data:=.fields #[.ref d,.int 0 0,.int es.size 0,.int ep 0]}}) :
 wpAny (model prog w) A (pyIter (.ref d)) Q E s:=by
 have hT:=hm.tp
 obtain⟨o,ho,hc,hdat⟩:=hm
 refine wpAny_pyIter_slot hT F.slot_dict_iter (wpAny_call_entry F.slot_dict_iter hT F.entry_dict_iter ?_ (F.args_dict_iter_1 _))
 unfold Builtin.«dict.__iter__»
 refine wpAny_bind ?_
 unfold Builtin.Dict.dictSlotNone
 refine wpAny_bind (wpAny_notOrdered_dict hT ?_)
 show wpAny _ _ (pure (Value.ref d)) _ _ s
 refine wpAny_pure ?_
 show wpAny _ _ (Builtin.Dict.showsAll d >>= _) _ _ s
 unfold Builtin.Dict.showsAll
 rw[if_neg (by rw[hd];exact Bool.false_ne_true)]
 refine wpAny_bind (wpAny_pure (wpAny_bind (wpAny_dictEntries ho hdat (wpAny_bind (wpAny_dictEpoch ho hdat ?_)))))
 refine wpAny_bind (wpAny_newObj_type (wpAny_pure ⟨_,rfl,"dict_keyiterator",_,⟨_,Heap.get?_push_size _ rfl,rfl⟩,F.slot_dict_keyiterator_next.lookup,?_⟩))
 simpa[rawInt] using hQ
def tM{Q:Option Value->Shared->Prop}(hh:A.handled=none)(hit:s.heap.IsKeyIter it d i es.size ep)(hm:tK s.heap d es ep)
 (hI:∀e,es[i]?=some e->∀h',h'.IsKeyIter it d (i+1) es.size ep->Heap.SameBut it s.heap h'->Q (some e.key) {s with heap:=h'})
 (hE:es[i]?=none->∀h',Heap.ExtBut it s.heap h'->Q none {s with heap:=h'}) :
 wpAny (model prog w) A (pyNext (.ref it)) Q E s:=by
 obtain⟨o,ho,hc,hd⟩:=id hit
 obtain⟨od,hod,hcd,hdd⟩:=hm
 unfold pyNext
 refine wpAny_bind (wpAny_attempt (wpAny_callSpecial?_slot (name:=Str.ofString "__next__") hit.typeIs F.slot_dict_keyiterator_next
  (wpAny_call_entry F.slot_dict_keyiterator_next hit.typeIs F.entry_dict_keyiterator_next ?_ (F.args_dict_keyiterator_next_1 _))))
 refine wpAny_bind (wpAny_pure ?_)
 refine wpAny_bind (wpAny_bind ?_)
 first|refine wpAny_bind (wpAny_typeNameOfWhole_keyiter hit.typeIs (wpAny_pure ?_))|refine wpAny_bind (wpAny_typeNameOf_keyiter hit.typeIs (wpAny_pure ?_))
 refine wpAny_bind (wpAny_fieldsOf ho hd ?_)
 have hown:Builtin.Dict_items.ownsTuple "dict_keyiterator" =false:=by decide
 simp only[hown,Bool.false_eq_true,if_false]
 show wpAny _ _ (if(Value.ref d== Value.none)=true then _ else _) _ _ s
 rw[if_neg (show ¬((Value.ref d== Value.none)=true) from Bool.false_ne_true)]
 refine wpAny_bind (wpAny_pure (wpAny_bind (wpAny_dictEntries hod hdd ?_)))
 rw[if_neg (by simp)]
 refine wpAny_bind (wpAny_pure (wpAny_bind (wpAny_dictEpoch hod hdd ?_)))
 rw[if_neg (by simp)]
 refine wpAny_pure ?_
 by_cases hlt:i<es.size
 ·simp only[show ¬((i:Int)<0) from by omega,if_false,Int.toNat_natCast,Array.getElem?_eq_getElem hlt]
  refine wpAny_bind ?_
  first|refine wpAny_bind (wpAny_typeNameOfWhole_keyiter hit.typeIs (wpAny_pure ?_))|refine wpAny_bind (wpAny_typeNameOf_keyiter hit.typeIs (wpAny_pure ?_))
  refine wpAny_bind (wpAny_isOneOf_keyiter hit.typeIs ?_)
  show wpAny _ _ (setField (.ref it) 1 (rawInt ((i:Int)+1)) >>= _) _ _ s
  refine wpAny_bind (wpAny_setField ho hd (by simp) ?_)
  have hit':(s.heap.update it (Obj.mapFields (·.setIfInBounds 1 (rawInt ((i:Int)+1))))).IsKeyIter it d (i+1) es.size ep:=
   ⟨_,Heap.get?_update_self _ ho (Obj.isFreed_of_fields (Obj.data_mapFields hd _)),(Obj.cls_mapFields ..).trans hc,by rw[Obj.data_mapFields hd];simp[rawInt]⟩
  refine wpAny_bind (wpAny_holding ?_)
  refine wpAny_bind (wpAny_isOneOf_keyiter (s:={s with heap:=s.heap.update it (Obj.mapFields (·.setIfInBounds 1 (rawInt ((i:Int)+1))))}) hit'.typeIs ?_)
  show wpAny _ _ (pure es[i].key) _ _ _
  exact wpAny_pure (wpAny_pure ⟨_,rfl,wpAny_pure (hI es[i] (Array.getElem?_eq_getElem hlt) _ hit' (Heap.SameBut.update ..))⟩)
 ·have hn:es[i]?=none:=Array.getElem?_eq_none (Nat.le_of_not_lt hlt)
  simp only[show ¬((i:Int)<0) from by omega,if_false,Int.toNat_natCast,hn]
  refine wpAny_bind ?_
  first|refine wpAny_bind (wpAny_typeNameOfWhole_keyiter hit.typeIs (wpAny_pure ?_))|refine wpAny_bind (wpAny_typeNameOf_keyiter hit.typeIs (wpAny_pure ?_))
  show wpAny _ _ (setField (.ref it) 0 .none >>= _) _ _ s
  refine wpAny_bind (wpAny_setField ho hd (by simp) ?_)
  show wpAny _ _ (newExc (.type "StopIteration") [] >>= _) _ _ _
  refine wpAny_bind ?_
  simp only[newExc,newTuple]
  refine wpAny_bind (wpAny_newObj_type ?_ (by size_fits))
  refine wpAny_bind (m:=firstArgMember _ _) (wpAny_of_eq (a:=Value.none) (by first|rfl|(simp only[firstArgMember];rfl)) ?_)
  refine wpAny_newObj_type ?_ (by size_fits)
  simp only[raiseNew]
  refine wpAny_bind (wpAny_handled ?_)
  rw[show A.in1.handled=none from hh]
  refine wpAny_bind (wpAny_pure (wpAny_throw ?_))
  refine wpAny_bind (wpAny_isInstance (T:= "StopIteration") (b:=true) ⟨_,Heap.get?_push_size _ rfl,rfl⟩ isSubtype_stop ?_)
  exact wpAny_pure (hE hn _ (((Heap.SameBut.update ..).extBut.push _).push _))
def zT(hh:A.handled=none)(hne:d≠it):Walks prog w A it [it,d] [it] es.size (λi v=>∃e,es[i]?=some e/\v=e.key) (λi h=>h.IsKeyIter it d i es.size ep/\tK h d es ep) where
 sub:=λb hb=>by simp at hb;simp[hb]
 frame:=λ_ _ _ st hk=>⟨st.1.at λo e=>hk it (by simp) o e,let ⟨o,ho,r⟩:=st.2;⟨o,hk d (by simp) o ho,r⟩⟩
 item:=λi s Q E hi st hQ=>by
  refine tM hh st.1 st.2 (λe he h' hit' hs'=>?_) λhn=>?_
  ·exact hQ _ h' s.toks ⟨e,he,rfl⟩ ⟨hit',let ⟨o,ho,r⟩:=st.2;⟨o,hs'.extBut d o hne ho,r⟩⟩ λb o hb e=>hs'.extBut b o (λh=>hb (by simp[h])) e
  ·rw[Array.getElem?_eq_getElem hi] at hn;cases hn
 done:=λs Q E st hQ=>by
  refine tM hh st.1 st.2 (λe he=>?_) λ_ h' he'=>hQ h' s.toks λb o hb e=>he' b o (λh=>hb (by simp[h])) e
  rw[Array.getElem?_eq_none (Nat.le_refl _)] at he;cases he
 self:=λ_ _ _ _ st hQ=>wpAny_pyIter_keyiter st.1 hQ
def Jj(lo:(d== sysModules)=false):PySem.W.KdlSrc prog w "dict" d d es.size (λi v=>∃e,es[i]?=some e/\v=e.key) (λh=>tK h d es ep) where
 type:=λ_ hm=>hm.tp
 there:=λ_ hm=>⟨hm.lt,hm.lt⟩
 keep:=λ_ _ hm hk=>let ⟨o,ho,r⟩:=hm;⟨o,hk d (.inl rfl) o ho,r⟩
 notList:=by decide
 notTuple:=by decide
 hint:=λ_ _ _ _ hm hq=>PySem.W.kdl_hint_dict hm.tp hq
 iter:=λ_ _ hh hm=>⟨_,_,(λ_ _ hq=>El lo hm hq),zT hh (Nat.ne_of_lt hm.lt),⟨⟨_,Heap.get?_push_size _ rfl,rfl,rfl⟩,let ⟨o,ho,r⟩:=hm;⟨o,Heap.get?_push_of_some _ ho,r⟩⟩⟩
end
theorem tQ{P:Program}{w:World}{H:Hp}{h h':Heap}(ok:cg P w H h)(kp:∀b o,h.get? b=some o->h'.get? b=some o):∀{ks:List (List Key×V)} {xs:List (List Key×Addr×Value)} {ps:List (Int×Int)},KT H ks xs->ks.map (·.1)=ps.map (λp=>[.inl p.1,.inl p.2])->(∀p∈ps,0<=p.2/\p.2<MP)->gF.ķ h' MP (xs.map λx=>.ref x.2.1) ps
 | [],_,[],r,_,_=>by cases r;exact .nil
 | [],_,_::_,_,e,_=>nomatch e
 |_::_,_,[],_,e,_=>nomatch e
 |k::ks,_,p::ps,r,e,hb=>by
  cases r with
  |cons r1 r2=>
   rw[List.map_cons,List.map_cons] at e
   injection e with e1 e2
   obtain⟨_,g2,_⟩:=r1
   rw[e1] at g2
   obtain⟨_,its,rv,o,h1,h2,n,h3⟩:=(show ń P w H h _ (.tup [.int p.1,.int p.2]) from ok _ _ g2)
   cases rv with
   |cons a1 a2=>
    cases a2 with
    |cons a3 a4=>
     cases a4
     obtain⟨t,rfl⟩:=a1
     obtain⟨u,rfl⟩:=a3
     exact .cons ⟨_,o,n,t,u,rfl,kp _ _ h1,h2,h3,(hb p (.head _)).1,(hb p (.head _)).2⟩ (tQ ok kp r2 e2 λq hq=>hb q (.tail _ hq))
theorem Em{H:Hp}{q:List Key×Addr×Value}:∀{ks:List (List Key×V)} {xs:List (List Key×Addr×Value)},KT H ks xs->q∈xs->H q.2.1=some (.tup (q.1.map kV))/\q.1∈ks.map (·.1)
 | [],_,r,hq=>by cases r;cases hq
 |k::ks,_,r,hq=>by
  cases r with
  |cons r1 r2=>
   rcases List.mem_cons.mp hq with rfl|hq
   ·exact⟨by rw[<-r1.1];exact r1.2.1,by rw[<-r1.1];exact .head _⟩
   ·obtain⟨a,b⟩:=Em r2 hq;exact⟨a,.tail _ b⟩
theorem tU:∀ls:List (Addr×(Int×Int)),Vals (ls.map λx=>V.ref x.1) (ls.map λx=>Value.ref x.1)
 | []=>.nil
 |x::ls=>.cons rfl (tU ls)
section
variable{X:Cx}{cm:String->Addr}{E:L2.St->XK}{e:Expr}{pos:Pos}
def tW(hc:X.calm=true):Ŝ X (.builtin "sorted") (λxs H Q=>∃a ks,∃ps:List (Int×Int),xs=[V.ref a]/\Rd H a (.dT ks)/\ks.map (·.1)=ps.map (λp=>[.inl p.1,.inl p.2])/\(∀p∈ps,0<=p.2/\p.2<MP)/\
 ∀q (ls:List (Addr×(Int×Int))),(ls.map (·.2)).Perm ps->((ls.map (·.2)).map lJ).Pairwise (·<= ·)->(∀x∈ls,H x.1=some (.tup [.int x.2.1,.int x.2.2]))->H q=none->Q (.ref q) (upd H q (.lst (ls.map λx=>.ref x.1)))):=by
 intro pins s σ H vs us Q I r h
 obtain⟨a,ks,ps,rfl,ha,hks,hb,q⟩:=h
 obtain⟨u,rfl,ru⟩:=vals1 r
 cases ru
 obtain⟨hz,lo,xs,hKT,o,es,ep,ho,hcl,hda,hes,his,hnd⟩:=CV I.hok ha
 have hh:X.A.handled=none:=I.ok.hd hc
 have hxl:xs.length=ps.length:=by
  have h1:=Paired.length hKT
  have h2:=congrArg List.length hks
  simp at h2
  omega
 have hsz:es.size=xs.length:=by rw[<-Array.length_toList,hes,List.length_map]
 have hxz:xs.length<=sizeLine:=by rw[<-Paired.length hKT];exact hz
 refine Calls.call_function_entry kind_sorted plain_sorted entry_sorted (args_sorted1 _) ?_
 unfold Builtin.«sorted»
 refine wpAny_bind (m:=checkCount "sorted" 1 1 _) (wpAny_pure ?_)
 refine wpAny_bind (PySem.W.kdu_collect (A:=X.A.in1) (Jj (es:=es) (ep:=ep) lo) hh ⟨o,ho,hcl,hda⟩ (by omega) λh' tk acc hk hacc=>?_)
 have hl:acc.toList.length=xs.length:=by rw[Array.length_toList,<-hsz];exact hacc.1
 have hae:acc.toList=xs.map λx=>Value.ref x.2.1:=by
  refine List.ext_getElem (by simpa using hl) λj h1 h2=>?_
  have h3:acc.toList[j]?=some acc.toList[j]:=List.getElem?_eq_getElem h1
  obtain⟨e,he,hv⟩:=hacc.2 j acc.toList[j] (by rw[<-Array.getElem?_toList];exact h3)
  rw[<-Array.getElem?_toList,hes] at he
  have hj:j<xs.length:=by simpa using h2
  rw[List.getElem?_map,List.getElem?_eq_getElem hj] at he
  cases he
  rw[hv,List.getElem_map]
  rfl
 rw[hae]
 rw[hae] at hl
 refine wpAny_bind (wpAny_newList ?_ (by rw[hl];exact hxz))
 have hoL:(h'.push (seqObj "list" (xs.map λx=>Value.ref x.2.1).toArray 0)).get? h'.objs.size=some (seqObj "list" (xs.map λx=>Value.ref x.2.1).toArray 0):=Heap.get?_push_size _ rfl
 have hP:=tQ I.hok (h':=h'.push (seqObj "list" (xs.map λx=>Value.ref x.2.1).toArray 0)) (λb o e=>Heap.get?_push_of_some _ (hk b o e)) hKT hks hb
 refine wpAny_bind (wpAny_holding (wpAny_call_entry slot_list_sort ⟨_,hoL,rfl⟩ entry_list_sort (gF.i_ (M:=MP) (s:={s with heap:=h'.push (seqObj "list" (xs.map λx=>Value.ref x.2.1).toArray 0),toks:=tk}) hoL (by rw[hl];exact hxz) hP λout qs op o1 o2 o3=>⟨_,rfl,?_⟩) (args_list_sort _)))
 refine wpAny_pure ⟨_,rfl,?_⟩
 obtain⟨ls,l1,l2,l3⟩:=cP o1
 subst l2
 have I':=I.kept (t':=tk) hk
 have kp:∀b o,h'.get? b=some o->(sortedHeap (h'.push (seqObj "list" (xs.map λx=>Value.ref x.2.1).toArray 0)) h'.objs.size (xs.map λx=>Value.ref x.2.1) out.toArray).get? b=some o:=λb o e=>by
  have hlt:=Heap.lt_size e
  rw[sortedHeap_old (Nat.ne_of_lt hlt) (by rw[size_push'];exact Nat.lt_succ_of_lt hlt)]
  exact Heap.get?_push_of_some _ e
 obtain⟨ec,he⟩:=sortedHeap_at (out:=out.toArray) hoL
 have hH:∀x∈ls,H x.1=some (.tup [.int x.2.1,.int x.2.2]):=λx hx=>by
  have hm:Value.ref x.1∈xs.map λx=>Value.ref x.2.1:=op.mem_iff.mp (by rw[l1];exact List.mem_map.mpr ⟨x,hx,rfl⟩)
  obtain⟨y,hy,ey⟩:=List.mem_map.mp hm
  injection ey with ey
  obtain⟨g1,g2⟩:=Em hKT hy
  rw[hks] at g2
  obtain⟨p,_,ep'⟩:=List.mem_map.mp g2
  rw[<-ep',ey] at g1
  obtain⟨o,c,t,u,w1,w2,w3⟩:=l3 x hx
  obtain⟨_,its,rv,o',h1,h2,n,h3⟩:=(show ń X.prog X.w H s.heap _ (.tup [.int p.1,.int p.2]) from I.hok _ _ g1)
  have w4:=Heap.get?_push_of_some (seqObj "list" (xs.map λx=>Value.ref x.2.1).toArray 0) (hk _ _ h1)
  rw[w1] at w4
  cases w4
  rw[w3] at h3
  cases rv with
  |cons a1 a2=>
   cases a2 with
   |cons a3 a4=>
    cases a4
    obtain⟨t',rfl⟩:=a1
    obtain⟨u',rfl⟩:=a3
    injection h3 with h3 _
    have h4:=congrArg Array.toList h3
    simp at h4
    rw[g1]
    show some (HO.tup [.int p.1,.int p.2])=_
    rw[h4.1.1,h4.2.1]
 refine⟨.ref h'.objs.size,_,I'.laid (o:=.lst (ls.map λx=>.ref x.1)) (t':=tk) kp (Nat.le_refl _) ⟨?_,out,ec,?_,?_⟩,rfl,q _ ls o2 o3 hH (I'.hok.fresh (Nat.le_refl _))⟩
 ·have:=o2.length_eq
  simp at this ⊢
  omega
 ·rw[l1]
  exact tU ls
 ·rw[he]
def bK:List (DK×PV)->Option (List (Int×Int))
 | []=>some []
 |(.inr [a,b],_)::r=>if 0<=b/\b<MP then(bK r).map ((a,b):: ·) else none
 |_=>none
def zU(ρ:ĸ)(i:Nat):Option (List (DK×PV)):=match ρ[i]? with
 |some (.od true kvs)=>some kvs
 |some (.bd true kvs)=>some kvs
 |_=>none
def Jk{c:Ctx}{F H:Hp}{σ:L2.St}{ρ:ĸ}{i:Nat}{kvs:List (DK×PV)}{K:KK}(rel:Rel K c F H σ ρ)(h:zU ρ i=some kvs):∃a ks,σ[i]?=some (some (.ref a))/\Rd H a (.dT ks)/\Paired (DG K F (Sum.inr:List Int->DK) zR) kvs ks:=by
 unfold zU at h
 split at h
 ·rename_i kvs' e
  cases h
  obtain⟨a,u,h1,h2,h3,h4,h5⟩:=rel.slot i _ e
  obtain⟨ks,rfl,h6⟩:=lM h5
  exact⟨a,ks,at_of h1,.inl h2,h6⟩
 ·rename_i kvs' e
  cases h
  obtain⟨a,u,h1,h2,h3⟩:=rel.slot i _ e
  obtain⟨ks,rfl,h6⟩:=lM h3
  exact⟨a,ks,at_of h1,h2.elim (λh2=>.inl (rel.lent a _ h2).1) λ⟨ob,e⟩=>.inr ⟨ob,rel.sub _ _ e⟩,h6⟩
 ·cases h
theorem oY{K:KK}{F:Hp}:∀{kvs:List (DK×PV)} {ks:List (List Key×V)} {ps:List (Int×Int)},bK kvs=some ps->Paired (DG K F (Sum.inr:List Int->DK) zR) kvs ks->ks.map (·.1)=ps.map (λp=>[.inl p.1,.inl p.2])/\∀p∈ps,0<=p.2/\p.2<MP
 |_,_,_,h,.nil=>by cases h;exact⟨rfl,by simp⟩
 |kv::kvs,k::ks,ps,h,.cons ⟨⟨is,r1,r2⟩,_⟩ t=>by
  obtain⟨k1,v1⟩:=kv
  dsimp only at r1
  subst r1
  match is,h,r2 with
  | [a,b],h,r2=>
    unfold bK at h
    split at h
    ·rename_i hb
     obtain⟨qs,e1,e2⟩:=Option.map_eq_some_iff.mp h
     subst e2
     obtain⟨g1,g2⟩:=oY e1 t
     refine⟨by rw[List.map_cons,List.map_cons,g1,r2];rfl,λp hp=>?_⟩
     rcases List.mem_cons.mp hp with rfl|hp
     ·exact hb
     ·exact g2 p hp
    ·cases h
  | [],h,_=>cases h
  | [_],h,_=>cases h
  |_::_::_::_,h,_=>cases h
def Eo(i:Nat)(ma:M PV):M PV:=λρ=>(ma ρ).bind λp ρ1=>match zU ρ1 i with
 |some kvs=>match bK kvs with
  |some ps=>Res.iR (į p (.lst ((bZ ps).map tupP))) ρ1
  |none=>.bad
 |none=>.bad
theorem tX{K:KK}{H:Hp}:∀(ls:List (Addr×(Int×Int))),(∀x∈ls,H x.1=some (.tup [.int x.2.1,.int x.2.2]))->ĉ K H ((ls.map (·.2)).map tupP) (ls.map λx=>.ref x.1)
 | [],_=>ĉ.nil
 |x::ls,h=>by
  refine ĉ.cons ?_ (tX ls λy hy=>h y (.tail _ hy))
  unfold tupP Rep
  exact⟨x.1,[.int x.2.1,.int x.2.2],rfl,h x (.head _),ĉ.cons (by unfold Rep;rfl) (ĉ.cons (by unfold Rep;rfl) ĉ.nil)⟩
def RP(i:Nat){ma:M PV}{x:Str}{px p pos2:Pos}(hu:X.A.units+64<cLine)(hc:X.calm=true)(hg:Gl X "sorted")(hm:X.mg "sorted" =none)(ha:PE X e (tR (kk X cm) E ma))(hN:X.N[i]?=some x:=by rfl)(hv:wz X.env.scope x:=by first|exact Or.inl rfl|exact Or.inr (Or.inl rfl)|exact Or.inr (Or.inr rfl))(hd:(x== ("__debug__" :Str))=false:=by decide)
 (hcd:(x== ("__classdict__" :Str))=false:=by decide)(hs:starEach [.Name x px] X.env=(false,eval (.Name x px) X.env)::starEach [] X.env:=by exact ŵ rfl)(hb:behindInMarks .Eq (.Call (.Name "sorted" p) [.Name x px] [] pos2)=false:=by exact ō _) :
 PE X (.Compare e [.Eq] [.Call (.Name "sorted" p) [.Name x px] [] pos2] pos) (tV (kk X cm) E (Eo i ma)):=
 PE.wk (wF (u_ hu) ha (q_ (tW hc) hg hm PyProof.Rows.boot_sorted (cY (aZ hN hv hd hcd) jR hs) (he:=hs)) hb) fun σ H Q ⟨c,F,ρ,rel,h⟩=>by
   refine⟨c,F,ρ,rel,h.bind λk ρ1 y F1 H1 Ċ s1 s2 r1 h1=>?_⟩
   cases e1:zU ρ1 i with
   |none=>rw[e1] at h1;exact h1.elim
   |some kvs=>
    rw[e1] at h1
    dsimp only at h1
    cases e2:bK kvs with
    |none=>rw[e2] at h1;exact h1.elim
    |some ps=>
     rw[e2] at h1
     dsimp only at h1
     obtain⟨a,ks,z1,z2,z3⟩:=Jk Ċ e1
     obtain⟨k1,k2⟩:=oY e2 z3
     refine⟨.ref a,z1,a,ks,ps,rfl,z2,k1,k2,λq ls p1 p2 p3 p4=>?_⟩
     have em:=yg p1 p2 k2
     rw[<-em] at h1
     unfold į at h1
     split at h1
     ·rename_i hz
      unfold nA at hz
      simp only[Bool.and_eq_true,decide_eq_true_eq] at hz
      have sH:Same H1 (upd H1 q (.lst (ls.map λx=>.ref x.1))):=Same.upd p4
      have rr:Rep (kk X cm) (upd H1 q (.lst (ls.map λx=>.ref x.1))) (.lst ((ls.map (·.2)).map tupP)) (.ref q):=by
       unfold Rep
       exact⟨q,_,rfl,.inl (.inl ē),tX ls λx hx=>sH _ _ (p3 x hx)⟩
      refine⟨toD k,toD (.lst ((ls.map (·.2)).map tupP)),Rp.same sH _ _ (fW Ċ.sub hz.1.1 r1),vo _ _ hz.1.2 rr,bG k hz.1.1,bG _ hz.1.2,by rw[bH,bH];exact hz.2,?_⟩
      rw[pX k _ hz.1.1 hz.1.2]
      exact h1 _ F1 _ (Ċ.made p4) (Same.refl _) sH Rep.bl
     ·exact h1.elim
@[simp] theorem Zay{i:Nat}{ma:M PV}{ρ:ĸ}:Eo i ma ρ=(ma ρ).bind fun p ρ1=>match zU ρ1 i with
  |some kvs=>match bK kvs with
   |some ps=>Res.iR (į p (.lst ((bZ ps).map tupP))) ρ1
   |none=>.bad
  |none=>.bad:=rfl
end
end P
namespace My
end My
namespace T
open PySem L2 M2 M3 M4 P
noncomputable section
def top(i:Nat):Stmt:=PySem.Challenge.pw_shadowpost_k57_whole_dials_tell_the_turn.main.body.getD i (.Pass ⟨0,0,0,0⟩)
abbrev Ky:Stmt:=top 45
abbrev Kz:Stmt:=top 39
abbrev KC:Stmt:=top 40
abbrev KD:Stmt:=top 41
abbrev KH:Stmt:=top 42
abbrev KJ:Stmt:=top 43
abbrev KN:Stmt:=top 10
abbrev KQ:Stmt:=top 11
abbrev KR:Stmt:=top 13
abbrev Xr:Stmt:=inClass (top 18) 0
abbrev Xu:Stmt:=top 14
abbrev KY:Stmt:=top 15
abbrev Xv:Stmt:=top 16
abbrev Xw:Stmt:=top 12
abbrev Xx:Stmt:=top 17
abbrev KZ:Stmt:=top 24
abbrev Xy:Stmt:=top 44
abbrev Xz:Stmt:=inClass (top 26) 0
abbrev K_:Stmt:=top 28
abbrev La:Stmt:=top 3
abbrev Lb:Stmt:=top 30
abbrev XC:Stmt:=top 31
abbrev Ld:Stmt:=top 27
abbrev Le:Stmt:=top 32
abbrev XD:Stmt:=top 33
abbrev Lf:Stmt:=top 2
abbrev Lg:Stmt:=top 34
abbrev Li:Stmt:=top 35
abbrev XF:Stmt:=top 37
abbrev Lj:Stmt:=top 47
abbrev Lk:Stmt:=top 36
abbrev Ln:Stmt:=top 49
abbrev Lp:Stmt:=top 46
abbrev Lq:Stmt:=top 48
abbrev Lr:Stmt:=top 50
def cmB(c0:Addr)(c1:Addr)(c2:Addr)(c3:Addr)(c4:Addr)(c5:Addr)(c6:Addr):String->Addr:=λs=>match s with
 | "Thing" =>c0
 | "Post" =>c1
 | "Fence" =>c2
 | "Sail" =>c3
 | "Cloth" =>c4
 | "House" =>c5
 | "Yard" =>c6
 |_=>0
def vP:M Fl:=(Ę (Ĳ 0 (Ŕ (ă Ġ (ā 0) (ă aU (mC (.int 10)) (mC (.int 12))))))
 (Ę (dM (aO (ă į (ă Ġ (ā 0) (mC (.int 6))) (mC (.int 5))))
 (ĩ (Ŕ (ň (Ą (ĕ (ģ Ģ (mC (.int 1)) (ă Ġ (ă ı (ā 0) (mC (.int 6))) (mC (.int 20))))) (Ą (ĕ (ģ Ģ (mC (.int 1)) (ă Ġ (ă ı (ā 0) (mC (.int 120))) (mC (.int 20))))) Ĝ)))))
 eU)
 (ĩ (Ŕ (ň (Ą (ĕ (ģ Ģ (mC (.int 1)) (ă Ġ (ă ı (ā 0) (mC (.int 6))) (mC (.int 6))))) (Ą (ĕ (ģ Ģ (mC (.int 1)) (ă Ġ (ă ı (ā 0) (mC (.int 36))) (mC (.int 6))))) Ĝ)))))))
def tY:MF:=Ł 1 1 vP
def vQ:M Fl:=(Ę (dM (aO (ă nq (ā 1) (pR eY (Ą (ā 0) Ĝ))))
 (ĩ (Ŕ (ă Ē (ā 0) (ā 1))))
 eU)
 (ĩ (Ŕ (mC (.int 0)))))
def ũ:MF:=Ł 2 2 vQ
def Ep:M Fl:=(Ę (Ĳ 0 (ģ Ģ (ĕ (ģ Ģ (ă Ġ (ā 0) (mC (.int 1073741789))) (ă ħ (mC (.int 3)) (ā 1)))) (mC (.int 1))))
 (Ę (HS (gS 2 (Ć (gN 2) (Ć (gN 3) Į))) (pR fY (Ą (ĕ (ģ Ģ (ă ħ (ā 0) (mC (.int 40009))) (ă ħ (ā 1) (mC (.int 5501))))) (Ą (mC (.int 32749)) Ĝ))))
 (ĩ (Ŕ (ă Ġ (ĕ (ģ Ģ (ĕ (ģ Ģ (ă ħ (ā 2) (ā 2)) (ă ħ (ā 3) (ĕ (ģ Ģ (ā 3) (mC (.int 613))))))) (ā 1))) (mC (.int 1500450271)))))))
def tZ:MF:=Ł 2 4 Ep
def iu:M Fl:=(dM (aO (ă į (ā 2) (mC (.int 0))))
 (Ę (pU 3 (ă Ġ (ā 0) (ă aU (mC (.int 10)) (mC (.int 6)))))
 (Ĳ 0 (Ŕ (ă ı (ā 0) (ă aU (mC (.int 10)) (mC (.int 6)))))))
 (pU 3 (ĕ (ě tZ (ĝ (ĕ (ģ Ģ (ĕ (ě tZ (Ĉ 0 (Ĉ 4 Ė)))) (ā 0))) (Ĉ 4 Ė))))))
def Er:M Fl:=(Ę (Ĳ 2 (Ŕ (ă Ġ (ā 0) (mC (.int 2)))))
 (Ę (Ĳ 0 (Ŕ (ă Ġ (ă ı (ā 0) (mC (.int 2))) (ă ħ (ă ħ (ă aU (mC (.int 10)) (mC (.int 60))) (ă aU (mC (.int 10)) (mC (.int 60)))) (ă aU (mC (.int 10)) (mC (.int 60)))))))
 (Ę (Ĳ 3 (dB Ĝ))
 (Ę (eV (ŷ dN (Ą (Ď 1) Ĝ)) (gN 4) iu)
 (ĩ (fM 3))))))
def yq:MF:=Ł 2 5 Er
def ql:M Fl:=(Ę (HS (gS 3 (Ć (gN 4) (Ć (gN 5) (Ć (gN 6) Į)))) (Ď 2))
 (Ę (dM (aO (ă į (ă Ġ (ā 0) (mC (.int 7))) (mC (.int 6))))
 (ĩ (Ŕ (mC .non)))
 eU)
 (Ę (dM (aO (ă nq (ă Ġ (ā 0) (mC (.int 5))) (mC (.int 3))))
 (ĩ (Ŕ (ň (Ą (ĕ (ģ Ģ (ă ħ (ă ħ (mC (.int 2)) (ā 6)) (ā 1)) (ā 4))) (Ą (ĕ (ģ Ģ (ā 5) (ă ħ (ă ħ (mC (.int 2)) (ā 6)) (ă ı (ă Ġ (ă ı (ā 0) (mC (.int 35))) (mC (.int 9))) (mC (.int 8)))))) (Ą (Ď 6) Ĝ))))))
 eU)
 (Ę (Ĳ 3 (Ŕ (ă Ē (ĕ (dB (Ą (mC (.int 1)) (Ą (mC (.int 1)) (Ą (ă aU (mC (.int 10)) (mC (.int 5))) Ĝ))))) (ă Ġ (ă ı (ā 0) (mC (.int 35))) (mC (.int 3))))))
 (ĩ (Ŕ (ň (Ą (ă ħ (ā 3) (ă ao (ă Ġ (ă ı (ā 0) (mC (.int 105))) (mC (.int 9))) (mC (.int 4)))) (Ą (ă ħ (ā 3) (ă ao (ă Ġ (ă ı (ā 0) (mC (.int 945))) (mC (.int 9))) (mC (.int 4)))) (Ą (ă ħ (ā 3) (ĕ (ģ Ģ (mC (.int 1)) (ă Ġ (ă ı (ā 0) (mC (.int 8505))) (mC (.int 2)))))) Ĝ))))))))))
def dU:MF:=Ł 3 7 ql
def iw:M Fl:=(Ę (Ĳ 7 (ě ũ (Ĉ 0 (ĝ (ĕ (ģ Ģ (ĕ (ģ Ģ (ā 1) (mC (.int 1)))) (ā 6))) Ė))))
 (Ę (Ĳ 8 (Ŕ (ň (Ą (ă ao (ă Ġ (ă ı (ā 7) (mC (.int 12))) (mC (.int 5))) (mC (.int 2))) (Ą (ă ao (ă Ġ (ă ı (ā 7) (mC (.int 60))) (mC (.int 5))) (mC (.int 2))) (Ą (ĕ (ģ Ģ (mC (.int 1)) (ă Ġ (ă ı (ā 3) (mC (.int 36))) (mC (.int 3))))) Ĝ))))))
 (Ę (Ĳ 9 (ģ Ģ (ĕ (ģ Ģ (mC (.int 1)) (ă Ġ (ā 7) (mC (.int 4))))) (ă ħ (ă Ġ (ă ı (ā 7) (mC (.int 4))) (mC (.int 3))) (ă ı (ă Ġ (ă ı (ā 3) (mC (.int 3))) (mC (.int 4))) (mC (.int 3))))))
 (Ę (dM (aO (ă į (ā 5) (mC (.int 1))))
 (Ĳ 9 (ģ Ģ (mC (.int 1)) (ă Ġ (ā 7) (mC (.int 24)))))
 eU)
 (Ę (Ĳ 10 (ě yq (ĝ (ă ı (ā 7) (mC (.int 300))) (Ĉ 9 Ė))))
 (Ę (Ĳ 11 (Ÿ [8,10] 1 (ŷ dN (Ą (Ď 9) Ĝ)) (gN 2) kj (ĕ (ě dU (ĝ (ă Ē (ā 1) (ā 2)) (Ĉ 2 (Ĉ 0 Ė)))))))
 (Ę (Ĳ 12 (ģ Ģ (ă Ē (mC (.str "abcdefghijkl")) (ā 6)) (ă ħ (mC (.str "ab")) (ă Ġ (ă ı (ā 3) (mC (.int 108))) (mC (.int 4))))))
 (pU 4 (ň (Ą (Ď 12) (Ą (ĕ (ģ Ģ (mC (.int 1)) (ă Ġ (ă ı (ā 3) (mC (.int 7))) (ă ao (ă aU (mC (.int 10)) (mC (.int 9))) (mC (.int 1)))))) (Ą (Ď 11) Ĝ))))))))))))
def lO:M Fl:=(Ę (Ĳ 3 (Ŕ (ă Ġ (ĕ (ě ũ (Ĉ 0 (Ĉ 1 Ė)))) (ă aU (mC (.int 10)) (mC (.int 12))))))
 (Ę (Ĳ 4 (dB Ĝ))
 (Ę (Ĳ 5 (Ŕ (pR pZ (Ą (ă į (ă Ġ (ă ı (ā 3) (mC (.int 1009))) (mC (.int 16))) (mC (.int 3))) Ĝ))))
 (Ę (dM (aO (ă į (ă Ġ (ă ı (ā 3) (mC (.int 16144))) (mC (.int 16))) (mC (.int 9))))
 (ĩ (dB Ĝ))
 eU)
 (Ę (eV (ŷ dN (Ą (ĕ (ģ Ģ (mC (.int 1)) (ă Ġ (ā 3) (ă Ē (ĕ (dB (Ą (Ď 2) (Ą (mC (.int 12)) Ĝ)))) (ā 5))))) Ĝ)) (gN 6) iw)
 (ĩ (fM 4)))))))
def gn:MF:=Ł 3 13 lO
def Es:M Fl:=(ĩ (Ŕ (ni jr jr (Gq rY (mC (.int (1000000000)))) (ā 0) (mC (.int (1000000000))))))
def jc:MF:=Ł 1 1 Es
def Et:M Fl:=(ĩ (Ŕ (ni jr jr (mC (.int 1)) (ā 0) (mC (.int (1000000000))))))
def t_:MF:=Ł 1 1 Et
def vR:M Fl:=(ĩ (Ŕ (bV (ă į (pR eY (Ą (ā 0) Ĝ)) (mC (.int 3))) (bV (ĕ (ě jc (ĝ (ă Ē (ā 0) (mC (.int 0))) Ė))) (bV (ĕ (ě jc (ĝ (ă Ē (ā 0) (mC (.int 1))) Ė))) (ĕ (ě t_ (ĝ (ă Ē (ā 0) (mC (.int 2))) Ė))))))))
def uc:MF:=Ł 1 1 vR
def bO:M Fl:=(Ę (dR 0 ["Thing","Post","Fence","Sail","Cloth","House"] "word" (Ď 1))
 (dR 0 ["Thing","Post","Fence","Sail","Cloth","House"] "numbers" (ĕ (nj cF (Ą (ā 2) Ĝ)))))
def qm:MI:=aq 3 3 "Post" bO
def lQ:MI:=aq 3 3 "Fence" bO
def qt:MI:=aq 3 3 "Sail" bO
def lR:MI:=aq 3 3 "Cloth" bO
def lU:MI:=aq 3 3 "House" bO
def Eu:M Fl:=(ĩ (Ŕ (bV (ă į (pR eY (Ą (ā 0) Ĝ)) (mC (.int 5))) (bV (pR zB (Ą (ĕ (Ÿ [] 1 (bF (ĕ (Uc (ā 0) Cv (mP (mC (.int 4)))))) (gN 0) kj (ĕ (ě jc (Ĉ 0 Ė))))) Ĝ)) (ĕ (ě t_ (ĝ (ă Ē (ā 0) (mC (.int 4))) Ė)))))))
def zV:MF:=Ł 1 1 Eu
def vU:M Fl:=(ĩ (Ŕ (bV (ĕ (ě zV (Ĉ 0 Ė))) (ă aN (ĕ (Uc (ā 0) Cv (mP (mC (.int 2))))) (ĕ (Uc (ā 0) (mP (mC (.int 2))) (mP (mC (.int 4)))))))))
def ud:MF:=Ł 1 1 vU
def Ew:M Fl:=(ĩ (Ŕ (bV (ĕ (ě zV (Ĉ 0 Ė))) (bV (ă nq (ă Ē (ā 0) (mC (.int 0))) (ă Ē (ā 0) (mC (.int 2)))) (ă nq (ă Ē (ā 0) (mC (.int 1))) (ă Ē (ā 0) (mC (.int 3))))))))
def zW:MF:=Ł 1 1 Ew
def Ls:M Fl:=(ĩ (Ŕ (bV (ĕ (ě jc (ĝ (ă Ē (ā 0) (mC (.int 0))) Ė))) (bV (ĕ (ě jc (ĝ (ă Ē (ā 0) (mC (.int 1))) Ė))) (ni jr jr (mC (.int 0)) (ă Ē (ā 0) (mC (.int 2))) (mC (.int (1000000000))))))))
def Jl:MF:=Ł 1 1 Ls
def Ey:M Fl:=(ĩ (Ŕ (bV (ă į (pR eY (Ą (ā 0) Ĝ)) (mC (.int 9))) (pR zB (Ą (ĕ (Ÿ [0] 1 (bF (ň (Ą (mC (.int 0)) (Ą (mC (.int 3)) (Ą (mC (.int 6)) Ĝ))))) (gN 1) kj (ĕ (ě Jl (ĝ (ĕ (Uc (ā 0) (mP (Ď 1)) (mP (ĕ (ģ Ģ (ā 1) (mC (.int 3))))))) Ė))))) Ĝ)))))
def Ez:MF:=Ł 1 1 Ey
def fj:M Fl:=(Ę (dM (iT (aO (ă į (ā 0) (mC (.str "post")))) (gP (ĕ (ě uc (Ĉ 1 Ė)))))
 (ĩ (Ŕ (au "Post" qm (Ĉ 0 (Ĉ 1 Ė)))))
 eU)
 (Ę (dM (iT (aO (ă į (ā 0) (mC (.str "fence")))) (gP (ĕ (ě ud (Ĉ 1 Ė)))))
 (ĩ (Ŕ (au "Fence" lQ (Ĉ 0 (Ĉ 1 Ė)))))
 eU)
 (Ę (dM (iT (aO (ă į (ā 0) (mC (.str "sail")))) (gP (ĕ (ě zW (Ĉ 1 Ė)))))
 (ĩ (Ŕ (au "Sail" qt (Ĉ 0 (Ĉ 1 Ė)))))
 eU)
 (Ę (dM (iT (aO (ă į (ā 0) (mC (.str "cloth")))) (gP (ĕ (ě Ez (Ĉ 1 Ė)))))
 (ĩ (Ŕ (au "Cloth" lR (Ĉ 0 (Ĉ 1 Ė)))))
 eU)
 (Ę (dM (iT (aO (ă į (ā 0) (mC (.str "house")))) (gP (ĕ (ě zW (Ĉ 1 Ė)))))
 (ĩ (Ŕ (au "House" lU (Ĉ 0 (Ĉ 1 Ė)))))
 eU)
 Qz)))))
def dW:MF:=Ł 2 2 fj
def EY:M Fl:=(Ę (Ĳ 0 (Ŕ (ă Ġ (ā 0) (ă aU (mC (.int 10)) (mC (.int 9))))))
 (Ę (dM (aO (ă į (ă Ġ (ā 0) (mC (.int 2))) (mC (.int 0))))
 (ĩ (dB Ĝ))
 eU)
 (Ę (Ĳ 1 (Ŕ (ă ao (ă Ġ (ă ı (ā 0) (mC (.int 2))) (mC (.int 9))) (mC (.int 4)))))
 (Ę (Ĳ 2 (Ŕ (ă ao (ă Ġ (ă ı (ā 0) (mC (.int 18))) (mC (.int 9))) (mC (.int 4)))))
 (Ę (Ĳ 3 (Ŕ (ă Ē (ĕ (dB (Ą (mC (.str "house")) (Ą (mC (.str "sail")) Ĝ)))) (ă Ġ (ă ı (ā 0) (mC (.int 162))) (mC (.int 2))))))
 (ĩ (dB (Ą (ĕ (ě dW (Ĉ 3 (ĝ (ĕ (dB (Ą (Ď 1) (Ą (Ď 2) (Ą (ĕ (ģ Ģ (ā 1) (mC (.int 30)))) (Ą (ĕ (ģ Ģ (ā 2) (mC (.int 30)))) (Ą (ĕ (ģ Ģ (mC (.int 1)) (ă Ġ (ă ı (ā 0) (mC (.int 324))) (mC (.int 9))))) Ĝ))))))) Ė)))) Ĝ))))))))
def zZ:MF:=Ł 1 4 EY
def E_:M Fl:=(Ę (dR 0 ["Yard"] "width" (Ď 1))
 (Ę (dR 0 ["Yard"] "height" (Ď 2))
 (Ę (dR 0 ["Yard"] "things" (ĕ (nj cF (Ą (ā 3) Ĝ))))
 (dR 0 ["Yard"] "days" (ĕ (Ÿ [] 3 (ŝ 4) (gT 3 (Ć (gN 0) (Ć (gN 1) (Ć (gN 2) Į)))) kj (ň (Ą (Ď 0) (Ą (Ď 1) (Ą (ĕ (nj cF (Ą (ā 2) Ĝ))) Ĝ))))))))))
def jN:MI:=aq 5 5 "Yard" E_
def Fb:M Fl:=(ĩ (Ŕ (ă Ē (ă Ē (Gq (gb ["Yard"] "days") (ā 0)) (ā 1)) (mC (.int 2)))))
def uf:MF:=Ł 2 2 Fb
def Fd:M Fl:=(ĩ (Ŕ (ň (Ą (ĕ (ģ Ģ (ă ħ (ă Ē (ā 1) (mC (.int 2))) (ă Ē (ā 0) (mC (.int 0)))) (ă ħ (ă Ē (ā 1) (mC (.int 0))) (ă Ē (ā 0) (mC (.int 2)))))) (Ą (ĕ (ģ Ģ (ă ħ (ă Ē (ā 1) (mC (.int 2))) (ă Ē (ā 0) (mC (.int 1)))) (ă ħ (ă Ē (ā 1) (mC (.int 1))) (ă Ē (ā 0) (mC (.int 2)))))) Ĝ)))))
def yr:MF:=Ł 2 2 Fd
def Fe:M Fl:=(Ę (Ĳ 2 (ě yr (Ĉ 0 (Ĉ 1 Ė))))
 (Ę (Ĳ 3 (Ŕ (ă Ē (ā 1) (mC (.int 2)))))
 (ĩ (Ŕ (ň (Ą (ă ı (ĕ (ģ Ģ (ă Ē (ā 2) (mC (.int 0))) (ā 3))) (ă ħ (mC (.int 2)) (ā 3))) (Ą (ă ı (ĕ (ģ Ģ (ă Ē (ā 2) (mC (.int 1))) (ā 3))) (ă ħ (mC (.int 2)) (ā 3))) Ĝ)))))))
def ug:MF:=Ł 2 4 Fe
def oZ:M Fl:=(dM (aO (ă fX (ā 5) (mC .non)))
 (pU 2 (ň (Ą (Ď 3) (Ą (Ď 4) (Ą (ĕ (ě ug (Ĉ 1 (Ĉ 5 Ė)))) Ĝ)))))
 eU)
def yt:M Fl:=(eV (CK (mLs (ĕ (ě uf (Ĉ 0 (Ĉ 3 Ė)))))) (gT 2 (Ć (gN 4) (Ć (gN 5) Į))) oZ)
def Lw:M Fl:=(Ę (Ĳ 2 (dB Ĝ))
 (Ę (eV (ŷ dN (Ą (pR eY (Ą (Gq (gb ["Yard"] "days") (ā 0)) Ĝ)) Ĝ)) (gN 3) yt)
 (ĩ (fM 2))))
def Jm:MF:=Ł 2 6 Lw
def iy:M Fl:=(ĩ (Ŕ (bV (ni jr nq (mC (.int 0)) (ă Ē (ā 1) (mC (.int 0))) (Gq (gb ["Yard"] "width") (ā 0))) (ni jr nq (mC (.int 0)) (ă Ē (ā 1) (mC (.int 1))) (Gq (gb ["Yard"] "height") (ā 0))))))
def jd:MF:=Ł 2 2 iy
def iz:M Fl:=(dM (fQ (gP (ĕ (ě jd (Ĉ 0 (Ĉ 4 Ė))))))
 (ĩ (Ŕ (ň (Ą (mC (.str "off")) (Ą (Ď 2) (Ą (Ď 3) Ĝ))))))
 eU)
def vV:M Fl:=(Ę (eV (ŝ 1) (gT 3 (Ć (gN 2) (Ć (gN 3) (Ć (gN 4) Į)))) iz)
 (ĩ (Ŕ (mC .non))))
def uh:MF:=Ł 2 5 vV
def je:M Fl:=(Ę (Jh 5 1 (Ď 4) (ň (Ą (Ď 2) (Ą (Ď 3) Ĝ))))
 (dM (aO (ă aN (ă Ē (ā 5) (mC (.int 1))) (ā 3)))
 (ĩ (Ŕ (ň (Ą (mC (.str "alike")) (Ą (Ď 5) (Ą (ň (Ą (Ď 2) (Ą (Ď 3) Ĝ))) Ĝ))))))
 eU))
def Fg:M Fl:=(Ę (qj 1)
 (Ę (eV (ŝ 0) (gT 3 (Ć (gN 2) (Ć (gN 3) (Ć (gN 4) Į)))) je)
 (ĩ (Ŕ (mC .non)))))
def Fi:MF:=Ł 1 6 Fg
def Fj:M Fl:=(ĩ (ģ Ģ (ă ħ (ă Ē (ā 0) (mC (.int 1))) (ā 1)) (ă Ē (ā 0) (mC (.int 0)))))
def yu:MF:=Ł 2 2 Fj
def qu:M Fl:=(Di 2 (ĕ (ě yu (Ĉ 5 (ĝ (Gq (gb ["Yard"] "width") (ā 0)) Ė)))) (Ď 4))
def Fo:M Fl:=(Ę (Dh 2)
 (Ę (eV (ŝ 1) (gT 3 (Ć (gN 3) (Ć (gN 4) (Ć (gN 5) Į)))) qu)
 (ĩ (jL 2))))
def yx:MF:=Ł 2 6 Fo
def qw:M Fl:=(Ę (Ĳ 2 (ě Jm (Ĉ 0 (Ĉ 1 Ė))))
 (Ę (Ĳ 3 (ě uh (Ĉ 0 (Ĉ 2 Ė))))
 (Ę (dM (aO (ă Cu (ā 3) (mC .non)))
 (Ĳ 3 (ě Fi (Ĉ 2 Ė)))
 eU)
 (Ę (dM (aO (ă Cu (ā 3) (mC .non)))
 (ĩ (Ŕ (ň (Ą (mC (.str "marks")) (Ą (ĕ (ě yx (Ĉ 0 (Ĉ 2 Ė)))) Ĝ)))))
 eU)
 (ĩ (fM 3))))))
def jf:MF:=Ł 2 4 qw
def lV:M Fl:=(Ę (Ĳ 6 (ě jf (Ĉ 0 (ĝ (ň (Ą (Ď 1) (Ą (Ď 2) (Ą (Ď 5) Ĝ)))) Ė))))
 (Ę (dM (aO (ă į (ă Ē (ā 6) (mC (.int 0))) (mC (.str "marks"))))
 (ĩ (Ŕ (ň (Ą (mC (.str "height")) (Ą (Ď 5) (Ą (ă Ē (ā 6) (mC (.int 1))) (Ą (Ď 4) Ĝ)))))))
 eU)
 (pU 4 (Ď 6))))
def Fp:M Fl:=(Ę (Ĳ 4 (dB Ĝ))
 (Ę (eV (ŷ oA (Ą (mC (.int 1)) (Ą (ĕ (ģ Ģ (ā 3) (mC (.int 1)))) Ĝ))) (gN 5) lV)
 (ĩ (Ŕ (ň (Ą (mC (.str "none")) (Ą (Ď 4) Ĝ)))))))
def z_:MF:=Ł 4 7 Fp
def iB:M Fl:=(ĩ (Ŕ (bV (ni jr nq (mC (.int 0)) (ă Ē (ā 0) (mC (.int 0))) (ă Ē (ā 1) (mC (.int 0)))) (ni jr nq (mC (.int 0)) (ă Ē (ā 0) (mC (.int 1))) (ă Ē (ā 1) (mC (.int 1)))))))
def cQ:MF:=Ł 2 2 iB
def iC:M Fl:=(dM (aO (ă į (ā 2) (ā 1)))
 (ĩ (fM 3))
 eU)
def Fq:M Fl:=(Ę (eV (ŝ 0) (gT 2 (Ć (gN 2) (Ć (gN 3) Į))) iC)
 (ĩ (Ŕ (mC .non))))
def yC:MF:=Ł 2 4 Fq
def qy:M Fl:=(Ę (dM (fQ (gP (ĕ (ě cQ (Ĉ 6 (Ĉ 2 Ė))))))
 (ĩ (Ŕ (mC (.bl false))))
 eU)
 (Ę (Ĳ 7 (ģ Ģ (ă ħ (ă Ē (ā 6) (mC (.int 1))) (ă Ē (ā 2) (mC (.int 0)))) (ă Ē (ā 6) (mC (.int 0)))))
 (Ę (dM (aO (ă aN (ĕ (ě yC (Ĉ 0 (Ĉ 7 Ė)))) (ā 5)))
 (ĩ (Ŕ (mC (.bl false))))
 eU)
 (vO 3 (ň (Ą (Ď 7) (Ą (Ď 5) Ĝ))) (mC (.bl true))))))
def Ft:M Fl:=(Ę (qj 3)
 (Ę (eV (ŝ 1) (gT 3 (Ć (gN 4) (Ć (gN 5) (Ć (gN 6) Į)))) qy)
 (ĩ (Ŕ (Eo 3 (ĕ (nj cF (Ą (ā 0) Ĝ))))))))
def um:MF:=Ł 3 8 Ft
def cR:M Fl:=(dM (aO (ă fX (ă Ē (ă Ē (ă Ē (ā 0) (ā 3)) (mC (.int 2))) (ā 4)) (mC .non)))
 (pU 2 (ň (Ą (Ď 3) (Ą (Ď 4) (Ą (ĕ (ě ug (Ĉ 1 (ĝ (ă Ē (ă Ē (ă Ē (ā 0) (ā 3)) (mC (.int 2))) (ā 4)) Ė)))) Ĝ)))))
 eU)
def lW:M Fl:=(eV (ŷ dN (Ą (pR eY (Ą (ă Ē (ă Ē (ā 0) (ā 3)) (mC (.int 2))) Ĝ)) Ĝ)) (gN 4) cR)
def Fv:M Fl:=(Ę (Ĳ 2 (dB Ĝ))
 (Ę (eV (ŷ dN (Ą (pR eY (Ą (ā 0) Ĝ)) Ĝ)) (gN 3) lW)
 (ĩ (fM 2))))
def lX:MF:=Ł 2 5 Fv
def vW:M Fl:=(Ę (Ĳ 3 (Ÿ [2] 3 (ŝ 1) (gT 3 (Ć (gN 1) (Ć (gN 2) (Ć (gN 3) Į)))) (fQ (gP (ĕ (ě cQ (Ĉ 3 (Ĉ 0 Ė)))))) (ň (Ą (Ď 1) (Ą (Ď 2) Ĝ)))))
 (Ę (dM (aO (ă į (ă Ē (ā 0) (mC (.int 0))) (mC (.str "off"))))
 (ĩ (Ŕ (bV (ă sE (ā 3) (ĕ (dB Ĝ))) (ă į (ĕ (Rg (ā 0) (mP (mC (.int 1))) Cv)) (ă Ē (ā 3) (mC (.int 0)))))))
 eU)
 (Ę (dM (vd (aO (ă aN (ă Ē (ā 0) (mC (.int 0))) (mC (.str "alike")))) (vd (aO (ă sE (ā 3) (ĕ (dB Ĝ)))) (vd (aO (ă į (ă Ē (ă Ē (ā 0) (mC (.int 1))) (mC (.int 1))) (ă Ē (ă Ē (ā 0) (mC (.int 2))) (mC (.int 1))))) (fQ (aO (ă xu (ă Ē (ā 0) (mC (.int 1))) (ă Ē (ā 0) (mC (.int 2)))))))))
 (ĩ (Ŕ (mC (.bl false))))
 eU)
 (Ę (Ĳ 4 (Ÿ [0] 3 (ŝ 1) (gT 3 (Ć (gN 1) (Ć (gN 2) (Ć (gN 3) Į)))) (aO (ă į (ň (Ą (Ď 1) (Ą (Ď 2) Ĝ))) (ă Ē (ā 0) (mC (.int 1))))) (Ď 3)))
 (Ę (Ĳ 5 (Ÿ [0] 3 (ŝ 1) (gT 3 (Ć (gN 1) (Ć (gN 2) (Ć (gN 3) Į)))) (aO (ă į (ň (Ą (Ď 1) (Ą (Ď 2) Ĝ))) (ă Ē (ā 0) (mC (.int 2))))) (Ď 3)))
 (ĩ (Ŕ (bV (ă į (pR eY (Ą (ā 4) Ĝ)) (mC (.int 1))) (ă į (ā 4) (ā 5))))))))))
def jg:MF:=Ł 3 6 vW
def qz:M Fl:=(dM (fQ (gP (ĕ (ě jg (ĝ (ă Ē (ā 9) (ă ao (ā 10) (mC (.int 1)))) (ĝ (ĕ (ě lX (Ĉ 2 (ĝ (ň (Ą (Ď 5) (Ą (Ď 6) (Ą (Ď 10) Ĝ)))) Ė)))) (Ĉ 1 Ė)))))))
 (ĩ (Ŕ (mC (.bl false))))
 eU)
def vX:M Fl:=(Ę (Ĳ 1 (ě tY (ĝ (ĕ (ě ũ (Ĉ 0 (ĝ (mC (.int 0)) Ė)))) Ė)))
 (Ę (Ĳ 2 (ě gn (Ĉ 0 (ĝ (mC (.int 4)) (ĝ (mC (.int 4)) Ė)))))
 (Ę (Ĳ 3 (ě zZ (ĝ (ă ı (ĕ (ě ũ (Ĉ 0 (ĝ (mC (.int 0)) Ė)))) (mC (.int 7))) Ė)))
 (Ę (Ĳ 4 (Ŕ (au "Yard" jN (ĝ (ă Ē (ā 1) (mC (.int 0))) (ĝ (ă Ē (ā 1) (mC (.int 1))) (Ĉ 3 (ĝ (ĕ (Ÿ [] 3 (ŝ 2) (gT 3 (Ć (gN 0) (Ć (gN 1) (Ć (gN 2) Į)))) kj (ň (Ą (Ď 0) (Ą (Ď 1) (Ą (ĕ (nj cF (Ą (ā 2) Ĝ))) Ĝ)))))) Ė)))))))
 (Ę (Ĳ 5 (Ŕ (ă ao (ă Ġ (ĕ (ě ũ (Ĉ 0 (ĝ (mC (.int 1)) Ė)))) (mC (.int 19))) (mC (.int 4)))))
 (Ę (Ĳ 6 (Ŕ (ă ao (ă Ġ (ĕ (ě ũ (Ĉ 0 (ĝ (mC (.int 2)) Ė)))) (mC (.int 19))) (mC (.int 4)))))
 (Ę (Ĳ 7 (ģ Ģ (mC (.int 1)) (ă Ġ (ĕ (ě ũ (Ĉ 0 (ĝ (mC (.int 3)) Ė)))) (mC (.int 8)))))
 (Ę (Ĳ 8 (ě z_ (Ĉ 4 (Ĉ 5 (Ĉ 6 (Ĉ 7 Ė))))))
 (Ę (Ĳ 9 (Ŕ (ă Ē (ā 8) (Gq rY (mC (.int 1))))))
 (Ę (dM (iT (aO (ă į (ă Ē (ā 8) (mC (.int 0))) (mC (.str "none")))) (aO (ă aN (pR eY (Ą (ā 9) Ĝ)) (ā 7))))
 (ĩ (Ŕ (mC (.bl false))))
 eU)
 (Ę (eV (ŷ oA (Ą (mC (.int 1)) (Ą (ĕ (ģ Ģ (pR eY (Ą (ā 9) Ĝ)) (mC (.int 1)))) Ĝ))) (gN 10) qz)
 (Ę (dM (aO (ă į (ă Ē (ā 8) (mC (.int 0))) (mC (.str "none"))))
 (ĩ (Ŕ (mC (.bl true))))
 eU)
 (Ę (Ĳ 10 (Ŕ (ă Ē (ā 8) (mC (.int 1)))))
 (Ę (dM (vd (aO (ă aN (ă Ē (ā 8) (mC (.int 0))) (mC (.str "height")))) (vd (aO (ă aN (ā 10) (ĕ (ģ Ģ (pR eY (Ą (ā 9) Ĝ)) (mC (.int 1)))))) (aO (ă QM (ā 10) (ā 7)))))
 (ĩ (Ŕ (mC (.bl false))))
 eU)
 (Ę (dM (aO (ă aN (ĕ (ě jf (Ĉ 4 (ĝ (ň (Ą (Ď 5) (Ą (Ď 6) (Ą (Ď 10) Ĝ)))) Ė)))) (ň (Ą (mC (.str "marks")) (Ą (ă Ē (ā 8) (mC (.int 2))) Ĝ)))))
 (ĩ (Ŕ (mC (.bl false))))
 eU)
 (ĩ (ě um (ĝ (ă Ē (ā 8) (mC (.int 2))) (ĝ (ĕ (ě lX (Ĉ 2 (ĝ (ň (Ą (Ď 5) (Ą (Ď 6) (Ą (Ď 10) Ĝ)))) Ė)))) (Ĉ 1 Ė))))))))))))))))))))
def lY:MF:=Ł 1 11 vX
set_option genInjectivity false
set_option genSizeOf false
structure Fw where
 {Lx Ly Lz LC LK LQ LR L_ Ma jt XH Mf XJ XM XQ Mg XR RQ Mh Mi Mj X_ Ml Mp Yb Mq Mr Ms Yc Mt Mu Mv Mw Mx Mz qC Fx yD Fy yE yF vY:Addr}
 {MJ MK MN M_ Nb Nf Ng Nh Ni Aa Yd Nj Ye Yg Yh Nk Yi Yj Nm Np Nq Yk Nr Nt Yl Nu Nv Nx Ym Ny Nz NK NP NQ Fz:FuncData}
 {nF qD:Tok}
def ļ(a:Fw):String->Addr:=cmB a.qC a.Fx a.yD a.Fy a.yE a.yF a.vY
structure Tx(K:PySem.W.Frag)(mg:Str->Option Value)(a:Fw):Prop where
 Zaz:mg "Thing" =some (.ref a.qC)
 RT:mg "Post" =some (.ref a.Fx)
 Jo:mg "Fence" =some (.ref a.yD)
 RW:mg "Sail" =some (.ref a.Fy)
 Jp:mg "Cloth" =some (.ref a.yE)
 Jq:mg "House" =some (.ref a.yF)
 RX:mg "Yard" =some (.ref a.vY)
 gq:Df K mg "_law_sides" Ky ["_law_cell_here"] a.Lx a.MJ
 ł:Df K mg "_law_cell" Kz ["_law_script","_law_at"] a.Ly a.MK
 bL:Df K mg "_law_churn" KC ["_law_number","_law_k"] a.Lz a.MN
 lZ:Df K mg "_law_row" KD ["_law_cell_here","_law_many"] a.LC a.M_
 jh:Df K mg "_law_turn" KH ["_law_number","_law_t","_law_kind"] a.LK a.Nb
 ji:Df K mg "_law_days" KJ ["_law_script","_law_at","_law_many"] a.LQ a.Nf
 ť:Df K mg "is_place" KN ["number"] a.LR a.Ng
 cT:Df K mg "is_height" KQ ["number"] a.L_ a.Nh
 gw:Df K mg "makes_post" KR ["numbers"] a.Ma a.Ni
 Ğ:Dm K a.qC "__init__" "Thing.__init__" Xr ["self","word","numbers"] a.jt a.Aa
 Ż:Df K mg "has_two_ends" Xu ["numbers"] a.XH a.Yd
 dX:Df K mg "makes_fence" KY ["numbers"] a.Mf a.Nj
 Ŋ:Df K mg "makes_sail_or_house" Xv ["numbers"] a.XJ a.Ye
 aB:Df K mg "is_cloth_corner" Xw ["numbers"] a.XM a.Yg
 dY:Df K mg "makes_cloth" Xx ["numbers"] a.XQ a.Yh
 mj:Df K mg "thing_of" KZ ["word","numbers"] a.Mg a.Nk
 bQ:Df K mg "_law_standing" Xy ["_law_cell_here"] a.XR a.Yi
 bR:Dm K a.vY "__init__" "Yard.__init__" Xz ["self","width","height","things","days"] a.RQ a.Yj
 mq:Df K mg "turns_of" K_ ["yard","day"] a.Mh a.Nm
 FJ:Df K mg "cast" La ["point","ray"] a.Mi a.Np
 mD:Df K mg "end_of" Lb ["pointer","ray"] a.Mj a.Nq
 cU:Df K mg "ends_by_turn" XC ["yard","pointer"] a.X_ a.Yk
 jj:Df K mg "has_stone" Ld ["yard","stone"] a.Ml a.Nr
 jk:Df K mg "first_off" Le ["yard","ends"] a.Mp a.Nt
 dZ:Df K mg "first_alike" XD ["ends"] a.Yb a.Yl
 jl:Df K mg "number_of" Lf ["stone","width"] a.Mq a.Nu
 mF:Df K mg "marks_of" Lg ["yard","ends"] a.Mr a.Nv
 vZ:Df K mg "dial" Li ["yard","pointer"] a.Ms a.Nx
 bT:Df K mg "least_pointer" XF ["yard","x","y","most"] a.Yc a.Ym
 iD:Df K mg "_law_on" Lj ["_law_stone","_law_sides_here"] a.Mt a.Ny
 o_:Df K mg "turn_at" Lk ["marks","number"] a.Mu a.Nz
 gA:Df K mg "_law_marks" Ln ["_law_marks_here","_law_ends_here","_law_sides_here"] a.Mv a.NK
 cV:Df K mg "_law_ends" Lp ["_law_days_here","_law_pointer"] a.Mw a.NP
 gB:Df K mg "_law_fault" Lq ["_law_fault_here","_law_ends_here","_law_sides_here"] a.Mx a.NQ
 FN:Df K mg "law" Lr ["_law_script"] a.Mz a.Fz
 eE:mg "MOST_HEIGHT" =some (.int (1000000000) a.nF)
 gC:mg "MOST_PLACE" =some (.int (1000000000) a.qD)
 NT:mg "all" =none
 FP:mg "divmod" =none
 uo:mg "enumerate" =none
 Yn:mg "int" =none
 cW:mg "len" =none
 bM:mg "list" =none
 aC:mg "range" =none
 uq:mg "sorted" =none
 yG:Cls K (ļ a "Thing")
 ZaA:Mk K (ļ a "Thing") a.jt
 qF:ĥ K (ļ a "Thing") "word"
 ju:ĥ K (ļ a "Thing") "numbers"
 FQ:Cls K (ļ a "Post")
 RZ:Mk K (ļ a "Post") a.jt
 ur:ĥ K (ļ a "Post") "word"
 mG:ĥ K (ļ a "Post") "numbers"
 yH:Cls K (ļ a "Fence")
 Jr:Mk K (ļ a "Fence") a.jt
 qG:ĥ K (ļ a "Fence") "word"
 jw:ĥ K (ļ a "Fence") "numbers"
 FT:Cls K (ļ a "Sail")
 R_:Mk K (ļ a "Sail") a.jt
 uw:ĥ K (ļ a "Sail") "word"
 mH:ĥ K (ļ a "Sail") "numbers"
 yI:Cls K (ļ a "Cloth")
 Js:Mk K (ļ a "Cloth") a.jt
 qH:ĥ K (ļ a "Cloth") "word"
 jx:ĥ K (ļ a "Cloth") "numbers"
 yJ:Cls K (ļ a "House")
 Jt:Mk K (ļ a "House") a.jt
 qI:ĥ K (ļ a "House") "word"
 jy:ĥ K (ļ a "House") "numbers"
 qJ:Cls K (ļ a "Yard")
 Sd:Mk K (ļ a "Yard") a.RQ
 qK:ĥ K (ļ a "Yard") "width"
 nG:ĥ K (ļ a "Yard") "height"
 nH:ĥ K (ļ a "Yard") "things"
 ux:ĥ K (ļ a "Yard") "days"
def Z1d{K:PySem.W.Frag}{mg:Str->Option Value}{a:Fw}(T:Tx K mg a):mg "Post" =some (.ref (ļ a "Post")):=T.RT
def Z0V{K:PySem.W.Frag}{mg:Str->Option Value}{a:Fw}(T:Tx K mg a):mg "Fence" =some (.ref (ļ a "Fence")):=T.Jo
def Z1e{K:PySem.W.Frag}{mg:Str->Option Value}{a:Fw}(T:Tx K mg a):mg "Sail" =some (.ref (ļ a "Sail")):=T.RW
def Z0W{K:PySem.W.Frag}{mg:Str->Option Value}{a:Fw}(T:Tx K mg a):mg "Cloth" =some (.ref (ļ a "Cloth")):=T.Jp
def Z0X{K:PySem.W.Frag}{mg:Str->Option Value}{a:Fw}(T:Tx K mg a):mg "House" =some (.ref (ļ a "House")):=T.Jq
def Z1f{K:PySem.W.Frag}{mg:Str->Option Value}{a:Fw}(T:Tx K mg a):mg "Yard" =some (.ref (ļ a "Yard")):=T.RX
def FW:ď ["_law_cell_here"] ["_law_cell_here"] (ć Ky):=cH
def Sg:ď ["_law_script","_law_at"] ["_law_script","_law_at"] (ć Kz):=cH
def qL:ď ["_law_number","_law_k","_law_high","_law_low"] ["_law_number","_law_k"] (ć KC):=cH
def iG:ď ["_law_cell_here","_law_many","_law_by","_law_found","_law_k"] ["_law_cell_here","_law_many"] (ć KD):=cH
def mJ:ď ["_law_number","_law_t","_law_kind","_law_by","_law_a","_law_b","_law_c"] ["_law_number","_law_t","_law_kind"] (ć KH):=cH
def ū:ď ["_law_script","_law_at","_law_many","_law_first","_law_days_here","_law_long","_law_k","_law_cell_here","_law_kind","_law_size","_law_xs","_law_turns","_law_name"] ["_law_script","_law_at","_law_many"] (ć KJ):=cH
def Sh:ď ["number"] ["number"] (ć KN):=cH
def Sq:ď ["number"] ["number"] (ć KQ):=cH
def Ss:ď ["numbers"] ["numbers"] (ć KR):=cH
def uy:ď ["self","word","numbers"] ["self","word","numbers"] (ć Xr):=cH
def Yo:ď ["numbers"] ["numbers"] (ć Xu):=cH
def Sw:ď ["numbers"] ["numbers"] (ć KY):=cH
def Yp:ď ["numbers"] ["numbers"] (ć Xv):=cH
def Yq:ď ["numbers"] ["numbers"] (ć Xw):=cH
def Yr:ď ["numbers"] ["numbers"] (ć Xx):=cH
def Sx:ď ["word","numbers"] ["word","numbers"] (ć KZ):=cH
def uz:ď ["_law_cell_here","_law_x","_law_y","_law_word"] ["_law_cell_here"] (ć Xy):=cH
def Ys:ď ["self","width","height","things","days"] ["self","width","height","things","days"] (ć Xz):=cH
def Sy:ď ["yard","day"] ["yard","day"] (ć K_):=cH
def SJ:ď ["point","ray"] ["point","ray"] (ć La):=cH
def wg:ď ["pointer","ray","end","unit"] ["pointer","ray"] (ć Lb):=cH
def uD:ď ["yard","pointer","ends","day","number","turn"] ["yard","pointer"] (ć XC):=cH
def SN:ď ["yard","stone"] ["yard","stone"] (ć Ld):=cH
def qM:ď ["yard","ends","day","turn","stone"] ["yard","ends"] (ć Le):=cH
def pq:ď ["ends","seen","day","turn","stone","ahead"] ["ends"] (ć XD):=cH
def SQ:ď ["stone","width"] ["stone","width"] (ć Lf):=cH
def mK:ď ["yard","ends","marks","day","turn","stone"] ["yard","ends"] (ć Lg):=cH
def qN:ď ["yard","pointer","ends","fault"] ["yard","pointer"] (ć Li):=cH
def yK:ď ["yard","x","y","most","faults","h","told"] ["yard","x","y","most"] (ć XF):=cH
def SX:ď ["_law_stone","_law_sides_here"] ["_law_stone","_law_sides_here"] (ć Lj):=cH
def wj:ď ["marks","number","marked","turn"] ["marks","number"] (ć Lk):=cH
def iH:ď ["_law_marks_here","_law_ends_here","_law_sides_here","_law_met","_law_day","_law_turn_here","_law_stone","_law_number"] ["_law_marks_here","_law_ends_here","_law_sides_here"] (ć Ln):=cH
def qO:ď ["_law_days_here","_law_pointer","_law_found","_law_day","_law_turn_here"] ["_law_days_here","_law_pointer"] (ć Lp):=cH
def qP:ď ["_law_fault_here","_law_ends_here","_law_sides_here","_law_off","_law_one","_law_other"] ["_law_fault_here","_law_ends_here","_law_sides_here"] (ć Lq):=cH
def Ŭ:ď ["_law_script","_law_sides_here","_law_days_here","_law_things","_law_yard","_law_x","_law_y","_law_most","_law_found","_law_faults","_law_h"] ["_law_script"] (ć Lr):=cH
section
variable{P:Program}{w:World}{K:PySem.W.Frag}{mg:Str->Option Value}{base:Heap}{a:Fw}
seal PE PT PW PA PS fB PG uG PI Af
def Zp(T:Tx K mg a):kO (λC=>Cls K (ļ a C)/\ĥ K (ļ a C) "word") ["Thing","Post","Fence","Sail","Cloth","House"]:=⟨⟨T.yG,T.qF⟩,⟨⟨T.FQ,T.ur⟩,⟨⟨T.yH,T.qG⟩,⟨⟨T.FT,T.uw⟩,⟨⟨T.yI,T.qH⟩,⟨⟨T.yJ,T.qI⟩,trivial⟩⟩⟩⟩⟩⟩
def Zh(T:Tx K mg a):kO (λC=>Cls K (ļ a C)/\ĥ K (ļ a C) "numbers") ["Thing","Post","Fence","Sail","Cloth","House"]:=⟨⟨T.yG,T.ju⟩,⟨⟨T.FQ,T.mG⟩,⟨⟨T.yH,T.jw⟩,⟨⟨T.FT,T.mH⟩,⟨⟨T.yI,T.jx⟩,⟨⟨T.yJ,T.jy⟩,trivial⟩⟩⟩⟩⟩⟩
def Zv(T:Tx K mg a):kO (λC=>Cls K (ļ a C)/\ĥ K (ļ a C) "width") ["Yard"]:=⟨⟨T.qJ,T.qK⟩,trivial⟩
def ZH(T:Tx K mg a):kO (λC=>Cls K (ļ a C)/\ĥ K (ļ a C) "height") ["Yard"]:=⟨⟨T.qJ,T.nG⟩,trivial⟩
def Z0p(T:Tx K mg a):kO (λC=>Cls K (ļ a C)/\ĥ K (ļ a C) "things") ["Yard"]:=⟨⟨T.qJ,T.nH⟩,trivial⟩
def Zz(T:Tx K mg a):kO (λC=>Cls K (ļ a C)/\ĥ K (ļ a C) "days") ["Yard"]:=⟨⟨T.qJ,T.ux⟩,trivial⟩
def S_(T:Tx K mg a):Ĭ P w K mg base aD 1 a.Lx a.MJ ["_law_cell_here"] (aH ⟨K,ļ a⟩ 1 tY):=by
 refine Œ T.gq.F FW λ_ _ _ _ _ _ _ hu=>?_
 exact ŉ FW (bD (v_mod (Ă 0) (ġ (aj aM aF Ā Ā)))) (ċ (ś (t_eq hu (Ĵ (Ă 0) Ā) Ā) (Ľ (Ŀ (ą (v_add Ā (Ĵ (ņ (Ă 0) Ā) Ā)) (ą (v_add Ā (Ĵ (ņ (Ă 0) Ā) Ā)) Ě)))) ī) (Ľ (Ŀ (ą (v_add Ā (Ĵ (ņ (Ă 0) Ā) Ā)) (ą (v_add Ā (Ĵ (ņ (Ă 0) Ā) Ā)) Ě)))))
def fu(T:Tx K mg a):Ĭ P w K mg base aD 1 a.Ly a.MK ["_law_script","_law_at"] (aH ⟨K,ļ a⟩ 2 ũ):=by
 refine Œ T.ł.F Sg λ_ _ _ _ _ _ _ _=>?_
 exact ċ (ś (cB iV iM (Ă 1) (ġ (gj Ŵ Ź T.cW PySem.boot_len (Ĥ (Ă 0) Ķ))) (ō _)) (Ľ (Ž (Ă 0) (Ă 1))) ī) (Ľ ŏ)
def FZ(T:Tx K mg a):Ĭ P w K mg base aD 1 a.Lz a.MN ["_law_number","_law_k"] (aH ⟨K,ļ a⟩ 2 tZ):=by
 refine Œ T.bL.F qL λ_ _ _ _ _ _ _ _=>?_
 exact ŉ qL (iW (cI (Ĵ (Ă 0) Ā) (Ŗ Ā (Ă 1))) Ā) (ċ (JN (gj zE zF T.FP PyProof.Rows.boot_divmod (Ĥ (cI (Ŗ (Ă 0) Ā) (Ŗ (Ă 1) Ā)) (Ĥ Ā Ķ))) (Ke rfl (ė (š qL) (ė (š qL) Ť)))) (Ľ (v_mod (cI (cI (Ŗ (Ă 2) (Ă 2)) (Ŗ (Ă 3) (cI (Ă 3) Ā))) (Ă 1)) Ā)))
def Tc(T:Tx K mg a):Ĭ P w K mg base aD 2 a.LC a.M_ ["_law_cell_here","_law_many"] (aH ⟨K,ļ a⟩ 2 yq):=by
 refine Œ T.lZ.F iG λ_ _ _ _ _ _ hr hu=>?_
 exact ŉ iG (bD (v_mod (Ă 0) Ā)) (ŉ iG (bD (v_mod (ņ (Ă 0) Ā) (Ŗ (Ŗ (ġ (aj aM aF Ā Ā)) (ġ (aj aM aF Ā Ā))) (ġ (aj aM aF Ā Ā))))) (ŉ iG (ak Ě) (ċ (aQ PassesOwn.leaving rfl (aR rfl T.aC (ą (v_var 1) Ě)) (š iG) (ĭ (ś (t_eq hu (Ă 2) Ā) (ċ (PS.wk (cX (nU PySem.F.plainAttrs_list PySem.F.slot_list_append PySem.F.type_list_append ř (pv 3) (ą (v_mod (Ă 0) (ġ (aj aM aF Ā Ā))) Ě))) λ_ _ _ h=>cZ h) (ĭ (Il iG (bD (oM (Ă 0) (ġ (aj aM aF Ā Ā))))))) (ĭ (PS.wk (cX (nU PySem.F.plainAttrs_list PySem.F.slot_list_append PySem.F.type_list_append ř (pv 3) (ą (Ħ (Č (FZ T) T.bL hr đ (ę (v_add (ġ (Ħ (Č (FZ T) T.bL hr đ (Ĕ 0 (Ĕ 4 Đ))))) (Ă 0)) (Ĕ 4 Đ)))) Ě))) λ_ _ _ h=>cZ h))))) (aX (ou 3)))))
def Td(T:Tx K mg a):Ĭ P w K mg base aD 1 a.LK a.Nb ["_law_number","_law_t","_law_kind"] (aH ⟨K,ļ a⟩ 3 dU):=by
 refine Œ T.jh.F mJ λ_ _ _ _ _ _ _ hu=>?_
 exact ċ (JN (v_var 2) (Ke rfl (ė (š mJ) (ė (š mJ) (ė (š mJ) Ť))))) (ċ (ś (t_eq hu (Ĵ (Ă 0) Ā) Ā) (Ľ rJ) ī) (ċ (ś (cB iV iM (Ĵ (Ă 0) Ā) Ā (ō _)) (Ľ (Ŀ (ą (v_add (Ŗ (Ŗ Ā (Ă 6)) (Ă 1)) (Ă 4)) (ą (v_add (Ă 5) (Ŗ (Ŗ Ā (Ă 6)) (ņ (Ĵ (ņ (Ă 0) Ā) Ā) Ā))) (ą (v_var 6) Ě))))) ī) (ŉ mJ (bD (Ž (ġ (Ħ (ak (ą ŏ (ą ŏ (ą (aj aM aF Ā Ā) Ě)))))) (Ĵ (ņ (Ă 0) Ā) Ā))) (Ľ (Ŀ (ą (v_mul (Ă 3) (xH (Ĵ (ņ (Ă 0) Ā) Ā) Ā)) (ą (v_mul (Ă 3) (xH (Ĵ (ņ (Ă 0) Ā) Ā) Ā)) (ą (v_mul (Ă 3) (cI Ā (Ĵ (ņ (Ă 0) Ā) Ā))) Ě))))))))
def Te(T:Tx K mg a):Ĭ P w K mg base aD 3 a.LQ a.Nf ["_law_script","_law_at","_law_many"] (aH ⟨K,ļ a⟩ 3 gn):=by
 refine Œ T.ji.F ū λ_ _ _ _ _ _ hr hu=>?_
 exact ŉ ū (bD (v_mod (ġ (Ħ (Č (fu T) T.ł hr đ (Ĕ 0 (Ĕ 1 Đ))))) (ġ (aj aM aF Ā Ā)))) (ŉ ū (ak Ě) (ŉ ū (bD (Zb_ QV QW T.Yn PyProof.Rows.boot_int (Ĥ (ġ (v_eq hu (Ĵ (ņ (Ă 3) Ā) Ā) Ā)) Ķ))) (ċ (ś (t_eq hu (Ĵ (ņ (Ă 3) Ā) Ā) Ā) (aX (ak Ě)) ī) (ċ (aQ PassesOwn.leaving rfl (aR rfl T.aC (ą (v_add Ā (Ĵ (Ă 3) (İ (ġ (Ħ (ak (ą (v_var 2) (ą ŏ Ě))))) (Ă 5)))) Ě)) (š ū) (ŉ ū (Č (fu T) T.ł hr đ (Ĕ 0 (ę (v_add (cI (Ă 1) Ā) (Ă 6)) Đ))) (ŉ ū (bD (Ŀ (ą (v_sub (Ĵ (ņ (Ă 7) Ā) Ā) Ā) (ą (v_sub (Ĵ (ņ (Ă 7) Ā) Ā) Ā) (ą (v_add Ā (Ĵ (ņ (Ă 3) Ā) Ā)) Ě))))) (ŉ ū (iW (cI Ā (Ĵ (Ă 7) Ā)) (Ŗ (Ĵ (ņ (Ă 7) Ā) Ā) (ņ (Ĵ (ņ (Ă 3) Ā) Ā) Ā))) (ċ (ś (t_eq hu (Ă 5) Ā) (ĭ (Il ū (iW Ā (Ĵ (Ă 7) Ā)))) ī) (ŉ ū (Č (Tc T) T.lZ hr đ (ę (oM (Ă 7) Ā) (Ĕ 9 Đ))) (ċ (Io ū (aR rfl T.aC (ą (v_var 9) Ě)) bY kE (Ħ (Č (Td T) T.jh hr đ (ę (Ž (Ă 1) (Ă 2)) (Ĕ 2 (Ĕ 0 Đ)))))) (ŉ ū (iW (İ aW (Ă 6)) (Ŗ aW (Ĵ (ņ (Ă 3) Ā) Ā))) (ĭ (PS.wk (cX (nU PySem.F.plainAttrs_list PySem.F.slot_list_append PySem.F.type_list_append ř (pv 4) (ą (Ŀ (ą (v_var 12) (ą (v_add Ā (Ĵ (ņ (Ă 3) Ā) (xH (ġ (aj aM aF Ā Ā)) Ā))) (ą (v_var 11) Ě)))) Ě))) λ_ _ _ h=>cZ h)))))))))) (aX (ou 4))))))
def mL(T:Tx K mg a):Ĭ P w K mg base aD 1 a.LR a.Ng ["number"] (aH ⟨K,ļ a⟩ 1 jc):=by
 refine Œ T.ť.F Sh λ_ _ _ _ _ _ _ _=>?_
 exact Ľ (jZ dO dO dH dH (ġ (VN Cr Bq (ġ (JL (.int 1000000000) (jz (v:=.int 1000000000) rfl T.gC ⟨_,rfl⟩))))) (Ă 0) (ġ (JL (.int 1000000000) (jz (v:=.int 1000000000) rfl T.gC ⟨_,rfl⟩))))
def Ga(T:Tx K mg a):Ĭ P w K mg base aD 1 a.L_ a.Nh ["number"] (aH ⟨K,ļ a⟩ 1 t_):=by
 refine Œ T.cT.F Sq λ_ _ _ _ _ _ _ _=>?_
 exact Ľ (jZ dO dO dH dH Ā (Ă 0) (ġ (JL (.int 1000000000) (jz (v:=.int 1000000000) rfl T.eE ⟨_,rfl⟩))))
def Tf(T:Tx K mg a):Ĭ P w K mg base aD 2 a.Ma a.Ni ["numbers"] (aH ⟨K,ļ a⟩ 1 uc):=by
 refine Œ T.gw.F Ss λ_ _ _ _ _ _ hr hu=>?_
 exact Ľ (v_and (v_eq hu (ġ (gj Ŵ Ź T.cW PySem.boot_len (Ĥ (Ă 0) Ķ))) Ā) (v_and (Ħ (Č (mL T) T.ť hr đ (ę (Ž (Ă 0) Ā) Đ))) (v_and (Ħ (Č (mL T) T.ť hr đ (ę (Ž (Ă 0) Ā) Đ))) (dJ (Ħ (Č (Ga T) T.cT hr đ (ę (Ž (Ă 0) Ā) Đ)))))))
def Gb(T:Tx K mg a):Ĭ P w K mg base aD 1 a.jt a.Aa ["self","word","numbers"] (Gu ⟨K,ļ a⟩ 3 "Post" qm):=by
 refine Ug (cm:=ļ a) (mb:=bO) T.Ğ.F uy rfl rfl rfl λcdv A outer s H E hr=>?_
 have hu:=hr.units
 exact ċ (Ş ["Thing","Post","Fence","Sail","Cloth","House"] (Zp T) (pv 0) (v_var 1)) (ĭ (Ş ["Thing","Post","Fence","Sail","Cloth","House"] (Zh T) (pv 0) (Ħ (qd Ű ű T.bM PyProof.Rows.boot_list (Ĥ (Ă 2) Ķ)))))
def Ab(T:Tx K mg a):Ĭ P w K mg base aD 1 a.jt a.Aa ["self","word","numbers"] (Gu ⟨K,ļ a⟩ 3 "Fence" lQ):=by
 refine Ug (cm:=ļ a) (mb:=bO) T.Ğ.F uy rfl rfl rfl λcdv A outer s H E hr=>?_
 have hu:=hr.units
 exact ċ (Ş ["Thing","Post","Fence","Sail","Cloth","House"] (Zp T) (pv 0) (v_var 1)) (ĭ (Ş ["Thing","Post","Fence","Sail","Cloth","House"] (Zh T) (pv 0) (Ħ (qd Ű ű T.bM PyProof.Rows.boot_list (Ĥ (Ă 2) Ķ)))))
def Gd(T:Tx K mg a):Ĭ P w K mg base aD 1 a.jt a.Aa ["self","word","numbers"] (Gu ⟨K,ļ a⟩ 3 "Sail" qt):=by
 refine Ug (cm:=ļ a) (mb:=bO) T.Ğ.F uy rfl rfl rfl λcdv A outer s H E hr=>?_
 have hu:=hr.units
 exact ċ (Ş ["Thing","Post","Fence","Sail","Cloth","House"] (Zp T) (pv 0) (v_var 1)) (ĭ (Ş ["Thing","Post","Fence","Sail","Cloth","House"] (Zh T) (pv 0) (Ħ (qd Ű ű T.bM PyProof.Rows.boot_list (Ĥ (Ă 2) Ķ)))))
def Ac(T:Tx K mg a):Ĭ P w K mg base aD 1 a.jt a.Aa ["self","word","numbers"] (Gu ⟨K,ļ a⟩ 3 "Cloth" lR):=by
 refine Ug (cm:=ļ a) (mb:=bO) T.Ğ.F uy rfl rfl rfl λcdv A outer s H E hr=>?_
 have hu:=hr.units
 exact ċ (Ş ["Thing","Post","Fence","Sail","Cloth","House"] (Zp T) (pv 0) (v_var 1)) (ĭ (Ş ["Thing","Post","Fence","Sail","Cloth","House"] (Zh T) (pv 0) (Ħ (qd Ű ű T.bM PyProof.Rows.boot_list (Ĥ (Ă 2) Ķ)))))
def Ad(T:Tx K mg a):Ĭ P w K mg base aD 1 a.jt a.Aa ["self","word","numbers"] (Gu ⟨K,ļ a⟩ 3 "House" lU):=by
 refine Ug (cm:=ļ a) (mb:=bO) T.Ğ.F uy rfl rfl rfl λcdv A outer s H E hr=>?_
 have hu:=hr.units
 exact ċ (Ş ["Thing","Post","Fence","Sail","Cloth","House"] (Zp T) (pv 0) (v_var 1)) (ĭ (Ş ["Thing","Post","Fence","Sail","Cloth","House"] (Zh T) (pv 0) (Ħ (qd Ű ű T.bM PyProof.Rows.boot_list (Ĥ (Ă 2) Ķ)))))
def NZ(T:Tx K mg a):Ĭ P w K mg base aD 2 a.XH a.Yd ["numbers"] (aH ⟨K,ļ a⟩ 1 zV):=by
 refine Œ T.Ż.F Yo λ_ _ _ _ _ _ hr hu=>?_
 exact Ľ (v_and (v_eq hu (ġ (gj Ŵ Ź T.cW PySem.boot_len (Ĥ (Ă 0) Ķ))) Ā) (v_and (gj (Bx rfl) Cy T.NT PyProof.Rows.boot_all (Ĥ (ġ (Ħ (Im (Ck (Ħ (jG (Ă 0) vp (eX ŏ)))) bY kE (Ħ (Č (mL T) T.ť hr đ (Ĕ 0 Đ)))))) Ķ)) (dJ (Ħ (Č (Ga T) T.cT hr đ (ę (Ž (Ă 0) Ā) Đ))))))
def Ti(T:Tx K mg a):Ĭ P w K mg base aD 3 a.Mf a.Nj ["numbers"] (aH ⟨K,ļ a⟩ 1 ud):=by
 refine Œ T.dX.F Sw λ_ _ _ _ _ _ hr hu=>?_
 exact Ľ (v_and (Ħ (Č (NZ T) T.Ż hr đ (Ĕ 0 Đ))) (dJ (rK JX (Bt hu) (ġ (Ħ (jG (Ă 0) vp (eX ŏ)))) (ġ (Ħ (jG (Ă 0) (eX ŏ) (eX ŏ)))) (ō _))))
def N_(T:Tx K mg a):Ĭ P w K mg base aD 3 a.XJ a.Ye ["numbers"] (aH ⟨K,ļ a⟩ 1 zW):=by
 refine Œ T.Ŋ.F Yp λ_ _ _ _ _ _ hr _=>?_
 exact Ľ (v_and (Ħ (Č (NZ T) T.Ż hr đ (Ĕ 0 Đ))) (v_and (rK iV iM (İ (Ă 0) Ā) (İ (Ă 0) Ā) (ō _)) (dJ (rK iV iM (İ (Ă 0) Ā) (İ (Ă 0) Ā) (ō _)))))
def Yt(T:Tx K mg a):Ĭ P w K mg base aD 2 a.XM a.Yg ["numbers"] (aH ⟨K,ļ a⟩ 1 Jl):=by
 refine Œ T.aB.F Yq λ_ _ _ _ _ _ hr _=>?_
 exact Ľ (v_and (Ħ (Č (mL T) T.ť hr đ (ę (Ž (Ă 0) Ā) Đ))) (v_and (Ħ (Č (mL T) T.ť hr đ (ę (Ž (Ă 0) Ā) Đ))) (dJ (jZ dO dO dH dH Ā (İ (Ă 0) Ā) (ġ (JL (.int 1000000000) (jz (v:=.int 1000000000) rfl T.eE ⟨_,rfl⟩)))))))
def Yu(T:Tx K mg a):Ĭ P w K mg base aD 3 a.XQ a.Yh ["numbers"] (aH ⟨K,ļ a⟩ 1 Ez):=by
 refine Œ T.dY.F Yr λ_ _ _ _ _ _ hr hu=>?_
 exact Ľ (v_and (v_eq hu (ġ (gj Ŵ Ź T.cW PySem.boot_len (Ĥ (Ă 0) Ķ))) Ā) (dJ (gj (Bx rfl) Cy T.NT PyProof.Rows.boot_all (Ĥ (ġ (Ħ (Im (Ck (Ŀ (ą ŏ (ą ŏ (ą ŏ Ě))))) bY kE (Ħ (Č (Yt T) T.aB hr đ (ę (Ħ (jG (Ă 0) (eX (v_var 1)) (eX (v_add (Ă 1) Ā)))) Đ)))))) Ķ))))
def Tj(T:Tx K mg a):Ĭ P w K mg base aD 4 a.Mg a.Nk ["word","numbers"] (aH ⟨K,ļ a⟩ 2 dW):=by
 refine Œ T.mj.F Sx λ_ _ _ _ _ _ hr hu=>?_
 exact ċ (ś (PW.pt (w_and (t_eq hu (Ă 0) aW) (gQ (fP (ġ (Ħ (Č (Tf T) T.gw hr đ (Ĕ 1 Đ)))))))) (Ľ (gZ T.RZ (Gb T) ų hr.mo rfl (Z1d T) T.Ğ.b đ (Ĕ 0 (Ĕ 1 Đ)))) ī) (ċ (ś (PW.pt (w_and (t_eq hu (Ă 0) aW) (gQ (fP (ġ (Ħ (Č (Ti T) T.dX hr đ (Ĕ 1 Đ)))))))) (Ľ (gZ T.Jr (Ab T) ų hr.mo rfl (Z0V T) T.Ğ.b đ (Ĕ 0 (Ĕ 1 Đ)))) ī) (ċ (ś (PW.pt (w_and (t_eq hu (Ă 0) aW) (gQ (fP (ġ (Ħ (Č (N_ T) T.Ŋ hr đ (Ĕ 1 Đ)))))))) (Ľ (gZ T.R_ (Gd T) ų hr.mo rfl (Z1e T) T.Ğ.b đ (Ĕ 0 (Ĕ 1 Đ)))) ī) (ċ (ś (PW.pt (w_and (t_eq hu (Ă 0) aW) (gQ (fP (ġ (Ħ (Č (Yu T) T.dY hr đ (Ĕ 1 Đ)))))))) (Ľ (gZ T.Js (Ac T) ų hr.mo rfl (Z0W T) T.Ğ.b đ (Ĕ 0 (Ĕ 1 Đ)))) ī) (ċ (ś (PW.pt (w_and (t_eq hu (Ă 0) aW) (gQ (fP (ġ (Ħ (Č (N_ T) T.Ŋ hr đ (Ĕ 1 Đ)))))))) (Ľ (gZ T.Jt (Ad T) ų hr.mo rfl (Z0X T) T.Ğ.b đ (Ĕ 0 (Ĕ 1 Đ)))) ī) (ĭ HN)))))
def Yw(T:Tx K mg a):Ĭ P w K mg base aD 5 a.XR a.Yi ["_law_cell_here"] (aH ⟨K,ļ a⟩ 1 zZ):=by
 refine Œ T.bQ.F uz λ_ _ _ _ _ _ hr hu=>?_
 exact ŉ uz (bD (v_mod (Ă 0) (ġ (aj aM aF Ā Ā)))) (ċ (ś (t_eq hu (Ĵ (Ă 0) Ā) Ā) (aX (ak Ě)) ī) (ŉ uz (bD (v_sub (Ĵ (ņ (Ă 0) Ā) Ā) Ā)) (ŉ uz (bD (v_sub (Ĵ (ņ (Ă 0) Ā) Ā) Ā)) (ŉ uz (bD (Ž (ġ (Ħ (ak (ą fO (ą fO Ě))))) (Ĵ (ņ (Ă 0) Ā) Ā))) (aX (ak (ą (Ħ (Č (Tj T) T.mj hr đ (Ĕ 3 (ę (Ħ (ak (ą (v_var 1) (ą (v_var 2) (ą (v_add (Ă 1) Ā) (ą (v_add (Ă 2) Ā) (ą (v_add Ā (Ĵ (ņ (Ă 0) Ā) Ā)) Ě))))))) Đ)))) Ě)))))))
def Ge(T:Tx K mg a):Ĭ P w K mg base aD 1 a.RQ a.Yj ["self","width","height","things","days"] (Gu ⟨K,ļ a⟩ 5 "Yard" jN):=by
 refine Ug (cm:=ļ a) (mb:=E_) T.bR.F Ys rfl rfl rfl λcdv A outer s H E hr=>?_
 have hu:=hr.units
 exact ċ (Ş ["Yard"] (Zv T) (pv 0) (v_var 1)) (ċ (Ş ["Yard"] (ZH T) (pv 0) (v_var 2)) (ċ (Ş ["Yard"] (Z0p T) (pv 0) (Ħ (qd Ű ű T.bM PyProof.Rows.boot_list (Ĥ (Ă 3) Ķ)))) (ĭ (Ş ["Yard"] (Zz T) (pv 0) (Ħ (Im (aJ 4) (cC rfl (ė bY (ė bY (ė bY Ť)))) kE (Ŀ (ą (v_var 0) (ą (v_var 1) (ą (Ħ (qd Ű ű T.bM PyProof.Rows.boot_list (Ĥ (Ă 2) Ķ))) Ě))))))))))
def Tn(T:Tx K mg a):Ĭ P w K mg base aD 1 a.Mh a.Nm ["yard","day"] (aH ⟨K,ļ a⟩ 2 uf):=by
 refine Œ T.mq.F Sy λ_ _ _ _ _ _ _ _=>?_
 exact Ľ (Ž (İ (ġ (sy ["Yard"] (Zz T) (Ă 0))) (Ă 1)) Ā)
def Tp(T:Tx K mg a):Ĭ P w K mg base aD 1 a.Mi a.Np ["point","ray"] (aH ⟨K,ļ a⟩ 2 yr):=by
 refine Œ T.FJ.F SJ λ_ _ _ _ _ _ _ _=>?_
 exact Ľ (Ŀ (ą (v_add (Ŗ (İ (Ă 1) Ā) (İ (Ă 0) Ā)) (Ŗ (İ (Ă 1) Ā) (İ (Ă 0) Ā))) (ą (v_add (Ŗ (İ (Ă 1) Ā) (İ (Ă 0) Ā)) (Ŗ (İ (Ă 1) Ā) (İ (Ă 0) Ā))) Ě)))
def Gf(T:Tx K mg a):Ĭ P w K mg base aD 2 a.Mj a.Nq ["pointer","ray"] (aH ⟨K,ļ a⟩ 2 ug):=by
 refine Œ T.mD.F wg λ_ _ _ _ _ _ hr _=>?_
 exact ŉ wg (Č (Tp T) T.FJ hr đ (Ĕ 0 (Ĕ 1 Đ))) (ŉ wg (bD (Ž (Ă 1) Ā)) (Ľ (Ŀ (ą (oM (cI (İ (Ă 2) Ā) (Ă 3)) (Ŗ Ā (Ă 3))) (ą (oM (cI (İ (Ă 2) Ā) (Ă 3)) (Ŗ Ā (Ă 3))) Ě)))))
def Yx(T:Tx K mg a):Ĭ P w K mg base aD 3 a.X_ a.Yk ["yard","pointer"] (aH ⟨K,ļ a⟩ 2 Jm):=by
 refine Œ T.cU.F uD λ_ _ _ _ _ _ hr _=>?_
 exact ŉ uD (ak Ě) (ċ (aQ PassesOwn.leaving rfl (aR rfl T.aC (ą (gj Ŵ Ź T.cW PySem.boot_len (Ĥ (ġ (sy ["Yard"] (Zz T) (Ă 0))) Ķ)) Ě)) (š uD) (ĭ (aQ PassesOwn.leaving rfl (Q_ rfl T.uo (Zb3 (Ħ (Č (Tn T) T.mq hr đ (Ĕ 0 (Ĕ 3 Đ)))))) (cC rfl (ė (š uD) (ė (š uD) Ť))) (ĭ (ś (cB rZ wD (Ă 5) xG (ō _)) (ĭ (PS.wk (cX (nU PySem.F.plainAttrs_list PySem.F.slot_list_append PySem.F.type_list_append ř (pv 2) (ą (Ŀ (ą (v_var 3) (ą (v_var 4) (ą (Ħ (Č (Gf T) T.mD hr đ (Ĕ 1 (Ĕ 5 Đ)))) Ě)))) Ě))) λ_ _ _ h=>cZ h)) ī))))) (aX (ou 2)))
def Tq(T:Tx K mg a):Ĭ P w K mg base aD 1 a.Ml a.Nr ["yard","stone"] (aH ⟨K,ļ a⟩ 2 jd):=by
 refine Œ T.jj.F SN λ_ _ _ _ _ _ _ _=>?_
 exact Ľ (v_and (jZ dO iV dH iM Ā (İ (Ă 1) Ā) (ġ (sy ["Yard"] (Zv T) (Ă 0)))) (dJ (jZ dO iV dH iM Ā (İ (Ă 1) Ā) (ġ (sy ["Yard"] (ZH T) (Ă 0))))))
def Tr(T:Tx K mg a):Ĭ P w K mg base aD 2 a.Mp a.Nt ["yard","ends"] (aH ⟨K,ļ a⟩ 2 uh):=by
 refine Œ T.jk.F qM λ_ _ _ _ _ _ hr _=>?_
 exact ċ (aQ PassesOwn.leaving rfl (aJ 1) (cC rfl (ė (š qM) (ė (š qM) (ė (š qM) Ť)))) (ĭ (ś (rM (fP (ġ (Ħ (Č (Tq T) T.jj hr đ (Ĕ 0 (Ĕ 4 Đ))))))) (Ľ (Ŀ (ą fO (ą (v_var 2) (ą (v_var 3) Ě))))) ī))) (Ľ rJ)
def Yy(T:Tx K mg a):Ĭ P w K mg base aD 1 a.Yb a.Yl ["ends"] (aH ⟨K,ļ a⟩ 1 Fi):=by
 refine Œ T.dZ.F pq λ_ _ _ _ _ _ _ hu=>?_
 exact ċ (yj (i:=1) pq.nd rfl (Or.inl rfl)) (ċ (aQ PassesOwn.leaving rfl (aJ 0) (cC rfl (ė (š pq) (ė (š pq) (ė (š pq) Ť)))) (ċ (Xo (j:=5) (i:=1) hu pq.nd rfl (Or.inl rfl) (v_var 4) (Ŀ (ą (v_var 2) (ą (v_var 3) Ě))) (pv 1)) (ĭ (ś (vC hu (İ (Ă 5) Ā) (Ă 3)) (Ľ (Ŀ (ą fO (ą (v_var 5) (ą (Ŀ (ą (v_var 2) (ą (v_var 3) Ě))) Ě))))) ī)))) (Ľ rJ))
def Tt(T:Tx K mg a):Ĭ P w K mg base aD 1 a.Mq a.Nu ["stone","width"] (aH ⟨K,ļ a⟩ 2 yu):=by
 refine Œ T.jl.F SQ λ_ _ _ _ _ _ _ _=>?_
 exact aX (iW (Ŗ (İ (Ă 0) Ā) (Ă 1)) (İ (Ă 0) Ā))
def Tv(T:Tx K mg a):Ĭ P w K mg base aD 2 a.Mr a.Nv ["yard","ends"] (aH ⟨K,ļ a⟩ 2 yx):=by
 refine Œ T.mF.F mK λ_ _ _ _ _ _ hr hu=>?_
 exact ċ (Rn (i:=2) mK.nd rfl (Or.inl rfl)) (ċ (aQ PassesOwn.leaving rfl (aJ 1) (cC rfl (ė (š mK) (ė (š mK) (ė (š mK) Ť)))) (ĭ (Ro (i:=2) hu (v_var 4) (Ħ (Č (Tt T) T.jl hr đ (Ĕ 5 (ę (sy ["Yard"] (Zv T) (Ă 0)) Đ)))) (pv 2)))) (aX (Ej 2 rfl rfl T.uq)))
def Gg(T:Tx K mg a):Ĭ P w K mg base aD 4 a.Ms a.Nx ["yard","pointer"] (aH ⟨K,ļ a⟩ 2 jf):=by
 refine Œ T.vZ.F qN λ_ _ _ _ _ _ hr _=>?_
 exact ŉ qN (Č (Yx T) T.cU hr đ (Ĕ 0 (Ĕ 1 Đ))) (ŉ qN (Č (Tr T) T.jk hr đ (Ĕ 0 (Ĕ 2 Đ))) (ċ (ś (cB JZ Ba (Ă 3) xG (ō _)) (ĭ (Il qN (Č (Yy T) T.dZ hr đ (Ĕ 2 Đ)))) ī) (ċ (ś (cB JZ Ba (Ă 3) xG (ō _)) (Ľ (Ŀ (ą fO (ą (Ħ (Č (Tv T) T.mF hr đ (Ĕ 0 (Ĕ 2 Đ)))) Ě)))) ī) (aX (ou 3)))))
def Yz(T:Tx K mg a):Ĭ P w K mg base aD 5 a.Yc a.Ym ["yard","x","y","most"] (aH ⟨K,ļ a⟩ 4 z_):=by
 refine Œ T.bT.F yK λ_ _ _ _ _ _ hr hu=>?_
 exact ŉ yK (ak Ě) (ċ (aQ PassesOwn.leaving rfl (rP rfl T.aC (ą ŏ (ą (v_add (Ă 3) Ā) Ě))) (š yK) (ŉ yK (Č (Gg T) T.vZ hr đ (Ĕ 0 (ę (Ŀ (ą (v_var 1) (ą (v_var 2) (ą (v_var 5) Ě)))) Đ))) (ċ (ś (t_eq hu (İ (Ă 6) Ā) aW) (Ľ (Ŀ (ą fO (ą (v_var 5) (ą (Ž (Ă 6) Ā) (ą (v_var 4) Ě)))))) ī) (ĭ (PS.wk (cX (nU PySem.F.plainAttrs_list PySem.F.slot_list_append PySem.F.type_list_append ř (pv 4) (ą (v_var 6) Ě))) λ_ _ _ h=>cZ h))))) (Ľ (Ŀ (ą fO (ą (v_var 4) Ě)))))
def Gh(T:Tx K mg a):Ĭ P w K mg base aD 1 a.Mt a.Ny ["_law_stone","_law_sides_here"] (aH ⟨K,ļ a⟩ 2 cQ):=by
 refine Œ T.iD.F SX λ_ _ _ _ _ _ _ _=>?_
 exact Ľ (v_and (jZ dO iV dH iM Ā (İ (Ă 0) Ā) (İ (Ă 1) Ā)) (dJ (jZ dO iV dH iM Ā (İ (Ă 0) Ā) (İ (Ă 1) Ā))))
def Tw(T:Tx K mg a):Ĭ P w K mg base aD 1 a.Mu a.Nz ["marks","number"] (aH ⟨K,ļ a⟩ 2 yC):=by
 refine Œ T.o_.F wj λ_ _ _ _ _ _ _ hu=>?_
 exact ċ (aQ PassesOwn.leaving rfl (aJ 0) (cC rfl (ė (š wj) (ė (š wj) Ť))) (ĭ (ś (t_eq hu (Ă 2) (Ă 1)) (aX (ou 3)) ī))) (Ľ rJ)
def Tz(T:Tx K mg a):Ĭ P w K mg base aD 2 a.Mv a.NK ["_law_marks_here","_law_ends_here","_law_sides_here"] (aH ⟨K,ļ a⟩ 3 um):=by
 refine Œ T.gA.F iH λ_ _ _ _ _ _ hr hu=>?_
 exact ċ (yj (i:=3) iH.nd rfl (Or.inl rfl)) (ċ (aQ PassesOwn.leaving rfl (aJ 1) (cC rfl (ė (š iH) (ė (š iH) (ė (š iH) Ť)))) (ċ (ś (rM (fP (ġ (Ħ (Č (Gh T) T.iD hr đ (Ĕ 6 (Ĕ 2 Đ))))))) (Ľ pQ) ī) (ŉ iH (iW (Ŗ (İ (Ă 6) Ā) (İ (Ă 2) Ā)) (İ (Ă 6) Ā)) (ċ (ś (vC hu (ġ (Ħ (Č (Tw T) T.o_ hr đ (Ĕ 0 (Ĕ 7 Đ))))) (Ă 5)) (Ľ pQ) ī) (ĭ (Ji (i:=3) hu pQ (Ŀ (ą (v_var 7) (ą (v_var 5) Ě))) (pv 3))))))) (Ľ (RP 3 hu rfl rfl T.uq (ġ (Ħ (qd Ű ű T.bM PyProof.Rows.boot_list (Ĥ (Ă 0) Ķ)))))))
def Gi(T:Tx K mg a):Ĭ P w K mg base aD 3 a.Mw a.NP ["_law_days_here","_law_pointer"] (aH ⟨K,ļ a⟩ 2 lX):=by
 refine Œ T.cV.F qO λ_ _ _ _ _ _ hr _=>?_
 exact ŉ qO (ak Ě) (ċ (aQ PassesOwn.leaving rfl (aR rfl T.aC (ą (gj Ŵ Ź T.cW PySem.boot_len (Ĥ (Ă 0) Ķ)) Ě)) (š qO) (ĭ (aQ PassesOwn.leaving rfl (aR rfl T.aC (ą (gj Ŵ Ź T.cW PySem.boot_len (Ĥ (İ (İ (Ă 0) (Ă 3)) Ā) Ķ)) Ě)) (š qO) (ĭ (ś (cB rZ wD (İ (İ (İ (Ă 0) (Ă 3)) Ā) (Ă 4)) xG (ō _)) (ĭ (PS.wk (cX (nU PySem.F.plainAttrs_list PySem.F.slot_list_append PySem.F.type_list_append ř (pv 2) (ą (Ŀ (ą (v_var 3) (ą (v_var 4) (ą (Ħ (Č (Gf T) T.mD hr đ (Ĕ 1 (ę (Ž (İ (İ (Ă 0) (Ă 3)) Ā) (Ă 4)) Đ)))) Ě)))) Ě))) λ_ _ _ h=>cZ h)) ī))))) (aX (ou 2)))
def TF(T:Tx K mg a):Ĭ P w K mg base aD 2 a.Mx a.NQ ["_law_fault_here","_law_ends_here","_law_sides_here"] (aH ⟨K,ļ a⟩ 3 jg):=by
 refine Œ T.gB.F qP λ_ _ _ _ _ _ hr hu=>?_
 exact ċ (Io qP (aJ 1) (cC rfl (ė bY (ė bY (ė bY Ť)))) (vm (rM (fP (ġ (Ħ (Č (Gh T) T.iD hr đ (Ĕ 3 (Ĕ 0 Đ)))))))) (Ŀ (ą (v_var 1) (ą (v_var 2) Ě)))) (ċ (ś (t_eq hu (İ (Ă 0) Ā) aW) (Ľ (v_and (rK CP (CN hu) (Ă 3) (ġ (Ħ (ak Ě))) (ō _)) (dJ (v_eq hu (ġ (Ħ (CQ (Ă 0) (eX ŏ) vp))) (İ (Ă 3) Ā))))) ī) (ċ (ś (PW.pt (w_or (vC hu (İ (Ă 0) Ā) aW) (w_or (cB CP (CN hu) (Ă 3) (ġ (Ħ (ak Ě))) (ō _)) (w_or (t_eq hu (İ (İ (Ă 0) Ā) Ā) (İ (İ (Ă 0) Ā) Ā)) (JM (rM (cB Rf (Rb hu) (İ (Ă 0) Ā) (İ (Ă 0) Ā) (ō _)))))))) (Ľ pQ) ī) (ċ (Io qP (aJ 1) (cC rfl (ė bY (ė bY (ė bY Ť)))) (vm (t_eq hu (ġ (Ŀ (ą (v_var 1) (ą (v_var 2) Ě)))) (İ (Ă 0) Ā))) (v_var 3)) (ċ (Io qP (aJ 1) (cC rfl (ė bY (ė bY (ė bY Ť)))) (vm (t_eq hu (ġ (Ŀ (ą (v_var 1) (ą (v_var 2) Ě)))) (İ (Ă 0) Ā))) (v_var 3)) (Ľ (v_and (v_eq hu (ġ (gj Ŵ Ź T.cW PySem.boot_len (Ĥ (Ă 4) Ķ))) Ā) (dJ (v_eq hu (Ă 4) (Ă 5)))))))))
def TJ(T:Tx K mg a):Ĭ P w K mg base aD 6 a.Mz a.Fz ["_law_script"] (aH ⟨K,ļ a⟩ 1 lY):=by
 refine Œ T.FN.F Ŭ λ_ _ _ _ _ _ hr hu=>?_
 exact ŉ Ŭ (Č (S_ T) T.gq hr đ (ę (Ħ (Č (fu T) T.ł hr đ (Ĕ 0 (ę ŏ Đ)))) Đ)) (ŉ Ŭ (Č (Te T) T.ji hr đ (Ĕ 0 (ę ŏ (ę ŏ Đ)))) (ŉ Ŭ (Č (Yw T) T.bQ hr đ (ę (oM (ġ (Ħ (Č (fu T) T.ł hr đ (Ĕ 0 (ę ŏ Đ))))) Ā) Đ)) (ŉ Ŭ (bD (gZ T.Sd (Ge T) ų hr.mo rfl (Z1f T) T.bR.b đ (ę (Ž (Ă 1) Ā) (ę (Ž (Ă 1) Ā) (Ĕ 3 (ę (Ħ (Im (aJ 2) (cC rfl (ė bY (ė bY (ė bY Ť)))) kE (Ŀ (ą (v_var 0) (ą (v_var 1) (ą (Ħ (qd Ű ű T.bM PyProof.Rows.boot_list (Ĥ (Ă 2) Ķ))) Ě)))))) Đ)))))) (ŉ Ŭ (bD (v_sub (Ĵ (ġ (Ħ (Č (fu T) T.ł hr đ (Ĕ 0 (ę ŏ Đ))))) Ā) Ā)) (ŉ Ŭ (bD (v_sub (Ĵ (ġ (Ħ (Č (fu T) T.ł hr đ (Ĕ 0 (ę ŏ Đ))))) Ā) Ā)) (ŉ Ŭ (iW Ā (Ĵ (ġ (Ħ (Č (fu T) T.ł hr đ (Ĕ 0 (ę ŏ Đ))))) Ā)) (ŉ Ŭ (Č (Yz T) T.bT hr đ (Ĕ 4 (Ĕ 5 (Ĕ 6 (Ĕ 7 Đ))))) (ŉ Ŭ (bD (Ž (Ă 8) (ġ (VN Cr Bq Ā)))) (ċ (ś (PW.pt (w_and (t_eq hu (İ (Ă 8) Ā) aW) (gQ (vC hu (ġ (gj Ŵ Ź T.cW PySem.boot_len (Ĥ (Ă 9) Ķ))) (Ă 7))))) (Ľ pQ) ī) (ċ (aQ PassesOwn.leaving rfl (rP rfl T.aC (ą ŏ (ą (v_add (ġ (gj Ŵ Ź T.cW PySem.boot_len (Ĥ (Ă 9) Ķ))) Ā) Ě))) (š Ŭ) (ĭ (ś (rM (fP (ġ (Ħ (Č (TF T) T.gB hr đ (ę (Ž (Ă 9) (xH (Ă 10) Ā)) (ę (Ħ (Č (Gi T) T.cV hr đ (Ĕ 2 (ę (Ŀ (ą (v_var 5) (ą (v_var 6) (ą (v_var 10) Ě)))) Đ)))) (Ĕ 1 Đ)))))))) (Ľ pQ) ī))) (ċ (ś (t_eq hu (İ (Ă 8) Ā) aW) (Ľ pQ) ī) (ŉ Ŭ (bD (Ž (Ă 8) Ā)) (ċ (ś (PW.pt (w_or (vC hu (İ (Ă 8) Ā) aW) (w_or (vC hu (Ă 10) (cI (ġ (gj Ŵ Ź T.cW PySem.boot_len (Ĥ (Ă 9) Ķ))) Ā)) (JM (cB Wm Vu (Ă 10) (Ă 7) (ō _)))))) (Ľ pQ) ī) (ċ (ś (vC hu (ġ (Ħ (Č (Gg T) T.vZ hr đ (Ĕ 4 (ę (Ŀ (ą (v_var 5) (ą (v_var 6) (ą (v_var 10) Ě)))) Đ))))) (ġ (Ŀ (ą fO (ą (Ž (Ă 8) Ā) Ě))))) (Ľ pQ) ī) (aX (Č (Tz T) T.gA hr đ (ę (Ž (Ă 8) Ā) (ę (Ħ (Č (Gi T) T.cV hr đ (Ĕ 2 (ę (Ŀ (ą (v_var 5) (ą (v_var 6) (ą (v_var 10) Ě)))) Đ)))) (Ĕ 1 Đ)))))))))))))))))))
end
def Zl(ns:List Int)(k:Nat):ũ [.sh (.lst (ns.map .int)),.sh (.int k)]=.ret (.sh (.int (ns.getD k 0))):=by
 by_cases h:k<ns.length
 ·have h':(k:Int)<(ns.length:Int):=by omega
  simp[ũ,vQ,List.replicate,h',List.getElem?_eq_getElem h]
 ·have h':¬(k:Int)<(ns.length:Int):=by omega
  simp[ũ,vQ,List.replicate,h',List.getElem?_eq_none (Nat.le_of_not_lt h)]
@[simp] theorem Zn(ns:List Int)(k:Nat):ũ [.sh (.lst (ns.map .int)),.sh (.int (no_index (OfNat.ofNat k)))]=.ret (.sh (.int (ns.getD k 0))):=Zl ns k
@[simp] theorem Z1Q{x:Int}{n:Nat}(h:n≠0)(h2:n<1073741824):wZ x (no_index (OfNat.ofNat n):Int)=true:=by
  have e:(no_index (OfNat.ofNat n):Int)=(n:Int):=rfl
  rw[e]
  unfold wZ
  simp
  omega
def Z0d(n k:Int)(h0:0<=k)(hk:k<1000):∃x:Int,tZ [.sh (.int n),.sh (.int k)]=.ret (.sh (.int x))/\0<=x/\x<1500450271:=by
 have h1:=Int.emod_nonneg n (show(1073741789:Int)≠0 by decide)
 have h2:=Int.emod_lt_of_pos n (show(0:Int)<1073741789 by decide)
 obtain⟨N,hN⟩:∃N,(n % 1073741789+3*k+1)*40009+k*5501=N:=⟨_,rfl⟩
 have b0:0<=N / 32749:=by omega
 have b1:N / 32749<18446744073709551616:=by omega
 have b2:0<=N % 32749:=by omega
 have b3:N % 32749<32749:=by omega
 obtain⟨h,hh⟩:∃h,N / 32749=h:=⟨_,rfl⟩
 obtain⟨l,hl⟩:∃l,N % 32749=l:=⟨_,rfl⟩
 rw[hh] at b0 b1
 rw[hl] at b2 b3
 have m1:Ő h h=true:=fZ (by omega) (by omega)
 have m2:Ő l (l+613)=true:=fZ (by omega) (by omega)
 have hd:fY [.int N,.int 32749]=some (.tup [.int h,.int l]):=by rw[<-hh,<-hl];simp[fY]
 obtain⟨S,hS⟩:∃S,h*h+l*(l+613)+k=S:=⟨_,rfl⟩
 refine⟨S % 1500450271,?_,by omega,by omega⟩
 simp[tZ,Ep,List.replicate,hN,hd,m1,m2,hS]
def Sl(s:P.Slot)(ps:List PV):Prop:=s=.sh (.lst ps)\/s=.bw ps
def Z0D(n:Nat):aK 0 n 1=(List.range n).map λ(i:Nat)=>PV.int (i:Int):=by
 unfold aK
 refine List.map_congr_left λi _=>?_
 simp
def ZW{n:Nat}(h:n<=1000):dN [.int (n:Int)]=some ((List.range n).map λ(i:Nat)=>PV.int (i:Int)):=by
 have hs:aL (n:Int)=true:=by unfold aL;simp;omega
 unfold dN
 simp[hs,Z0D]
theorem ZJ(b:Int)(s1:P.Slot):∀(ks:List Nat) (acc:List Int) (c:Int) (s4:P.Slot),acc.length+ks.length<=100000->(∀k∈ks,k<1000)->∃(acc':List Int) (c':Int) (Ae:P.Slot),forL (gN 4) iu (ks.map λ(i:Nat)=>PV.int (i:Int)) [.sh (.int c),s1,.sh (.int b),.ow (acc.map .int),s4]=.ok .nx [.sh (.int c'),s1,.sh (.int b),.ow (acc'.map .int),Ae]/\acc'.length=acc.length+ks.length
 | [],acc,c,s4,_,_=>⟨acc,c,s4,rfl,rfl⟩
 |k::ks,acc,c,s4,hl,hk=>by
  have hk0:=hk k List.mem_cons_self
  have hl0:acc.length<16777216:=by simp at hl;omega
  rw[List.map_cons,forL]
  have hg:gN 4 (PV.int (k:Int)) [.sh (.int c),s1,.sh (.int b),.ow (acc.map .int),s4]=some [.sh (.int c),s1,.sh (.int b),.ow (acc.map .int),.sh (.int k)]:=rfl
  rw[hg]
  dsimp only
  by_cases h0:b=0
  ·have e:iu [.sh (.int c),s1,.sh (.int b),.ow (acc.map .int),.sh (.int k)]=.ok .nx [.sh (.int (c / 1000000)),s1,.sh (.int b),.ow ((acc ++ [c % 1000000]).map .int),.sh (.int k)]:=by
    simp[iu,h0,hl0]
   rw[e]
   obtain⟨a,b',d,q1,q2⟩:=ZJ b s1 ks (acc ++ [c % 1000000]) (c / 1000000) (.sh (.int k)) (by simp at hl ⊢;omega) (λx hx=>hk x (List.mem_cons_of_mem _ hx))
   exact⟨a,b',d,q1,by simp at q2 ⊢;omega⟩
  ·obtain⟨m,e1,_⟩:=Z0d c k (by omega) (by omega)
   obtain⟨m2,e2,_⟩:=Z0d (m+c) k (by omega) (by omega)
   have e:iu [.sh (.int c),s1,.sh (.int b),.ow (acc.map .int),.sh (.int k)]=.ok .nx [.sh (.int c),s1,.sh (.int b),.ow ((acc ++ [m2]).map .int),.sh (.int k)]:=by
    simp[iu,h0,hl0,e1,e2]
   rw[e]
   obtain⟨a,b',d,q1,q2⟩:=ZJ b s1 ks (acc ++ [m2]) c (.sh (.int k)) (by simp at hl ⊢;omega) (λx hx=>hk x (List.mem_cons_of_mem _ hx))
   exact⟨a,b',d,q1,by simp at q2 ⊢;omega⟩
def Z1q(c:Int){n:Nat}(hn:n<=1000):∃xs:List Int,yq [.sh (.int c),.sh (.int n)]=.ret (.ow (xs.map .int))/\xs.length=n:=by
 have rr:=ZW hn
 obtain⟨B,hB⟩:∃B:Int,B=10 ^ 60:=⟨_,rfl⟩
 have p0:aU (.int 10) (.int 60)=some (.int B):=by rw[hB];rfl
 have b1:Ő B B=true:=by rw[hB];decide +kernel
 have b2:Ő (B*B) B=true:=by rw[hB];decide +kernel
 have b3:¬(B*B*B=0):=by rw[hB];decide +kernel
 obtain⟨c2,hc2⟩:∃c2,Ġ (.int (c / 2)) (.int (B*B*B))=some (.int c2):=⟨_,by rw[xq,if_pos (by simp[rT,b3])]⟩
 have m2:Ġ (.int c) (.int 2)=some (.int (c % 2)):=by simp
 obtain⟨a,b,d,q1,q2⟩:=ZJ (c % 2) (.sh (.int n)) (List.range n) [] c2 .no (by simp;omega) (λk hk=>by have:=List.mem_range.mp hk;omega)
 refine⟨a,?_,by simpa using q2⟩
 rw[List.map_nil] at q1
 simp[yq,Er,List.replicate,rr,q1,p0,b1,b2,hc2,m2,-xq,-Ib]
abbrev P3:=Int×Int×Int
def c3(p:P3):PV:=.tup [.int p.1,.int p.2.1,.int p.2.2]
def Oa(s:P.Slot)(ps:List PV):Prop:=s=.sh (.lst ps)\/s=.bw ps
def Ū(x:Int):Bool:=decide (-1000000000<=x/\x<=1000000000)
def Ju(x:Int):Bool:=decide (1<=x/\x<=1000000000)
def yL(x:Int):Bool:=decide (0<=x/\x<=1000000000)
def ZK(x:Int):jc [.sh (.int x)]=.ret (.sh (.bl (Ū x))):=by
 unfold Ū
 by_cases h1: -1000000000<=x<;>by_cases h2:x<=1000000000<;>simp[jc,Es,List.replicate,h1,h2]
def Z07(x:Int):t_ [.sh (.int x)]=.ret (.sh (.bl (Ju x))):=by
 unfold Ju
 by_cases h1:1<=x<;>by_cases h2:x<=1000000000<;>simp[t_,Et,List.replicate,h1,h2]
def Zk:List Int->Bool
 | [p,q,h]=>Ū p && Ū q && Ju h
 |_=>false
def Zi:List Int->Bool
 | [x,y,u,v,h]=>Ū x && Ū y && Ū u && Ū v && Ju h
 |_=>false
def Zf:List Int->Bool
 | [x,y,u,v,h]=>Zi [x,y,u,v,h] && !(decide (x=u) && decide (y=v))
 |_=>false
def Z7:List Int->Bool
 | [x,y,u,v,h]=>Zi [x,y,u,v,h] && decide (x<u) && decide (y<v)
 |_=>false
def Zg:List Int->Bool
 | [a,b,c,d,e,f,g,h,i]=>Ū a && Ū b && yL c && (Ū d && Ū e && yL f) && (Ū g && Ū h && yL i)
 |_=>false
def Z1r(a b c:Bool):zB [.lst [.bl a,.bl b,.bl c]]=some (.bl (a && b && c)):=by cases a<;>cases b<;>cases c<;>rfl
def Z1s(a b c d:Bool):zB [.lst [.bl a,.bl b,.bl c,.bl d]]=some (.bl (a && b && c && d)):=by cases a<;>cases b<;>cases c<;>cases d<;>rfl
def Z0c{xs:List Int}{sl:P.Slot}(hs:Oa sl (xs.map .int)):uc [sl]=.ret (.sh (.bl (Zk xs))):=by
 by_cases hl:xs.length=3
 ·match xs,hl with
  | [a,b,c],_=>
    have h:Zk [a,b,c]=(Ū a && Ū b && Ju c):=rfl
    rw[h]
    rcases hs with rfl|rfl<;>cases ea:Ū a<;>cases eb:Ū b<;>cases ec:Ju c<;>simp[uc,vR,List.replicate,ZK,Z07,ea,eb,ec]
 ·have h:Zk xs=false:=by
   unfold Zk
   split
   ·simp at hl
   ·rfl
  rw[h]
  have hl':¬((xs.length:Nat):Int)=3:=by omega
  rcases hs with rfl|rfl<;>simp[uc,vR,List.replicate,hl']
def Z0r{xs:List Int}{sl:P.Slot}(hs:Oa sl (xs.map .int)):zV [sl]=.ret (.sh (.bl (Zi xs))):=by
 by_cases hl:xs.length=5
 ·match xs,hl with
  | [a,b,c,d,e],_=>
    have h:Zi [a,b,c,d,e]=(Ū a && Ū b && Ū c && Ū d && Ju e):=rfl
    rw[h]
    have hc:cD ([.int a,.int b,.int c,.int d,.int e]:List PV) none (some 4)=[.int a,.int b,.int c,.int d]:=rfl
    have hb:=Z1s (Ū a) (Ū b) (Ū c) (Ū d)
    rcases hs with rfl|rfl<;>cases ea:(Ū a && Ū b && Ū c && Ū d)<;>cases ec:Ju e<;>rw[ea] at hb<;>simp[zV,Eu,List.replicate,ZK,Z07,hc,ŕ,hb,ec]
 ·have h:Zi xs=false:=by
   unfold Zi
   split
   ·simp at hl
   ·rfl
  rw[h]
  have hl':¬((xs.length:Nat):Int)=5:=by omega
  rcases hs with rfl|rfl<;>simp[zV,Eu,List.replicate,hl']
def Z1t(a b c d:Int):aN (.lst [.int a,.int b]) (.lst [.int c,.int d])=some (.bl (!(decide (a=c) && decide (b=d)))):=by
 have h:eqB (.lst [.int a,.int b]) (.lst [.int c,.int d])=(decide (a=c) && decide (b=d)):=by
  simp[eqB,aV]
  rw[Bool.eq_iff_iff]
  simp
 unfold aN nA
 rw[h]
 simp[Š,bW,dep,fV]
def Z1b{xs:List Int}(hl:¬xs.length=5):Zi xs=false:=by
 unfold Zi
 split
 ·simp at hl
 ·rfl
def Z0E{s:P.Slot}{ps:List PV}(h:Oa s ps):bN s=some s:=by rcases h with rfl|rfl<;>rfl
def Z0Y{xs:List Int}{sl:P.Slot}(hs:Oa sl (xs.map .int)):ud [sl]=.ret (.sh (.bl (Zf xs))):=by
 have he:=Z0r hs
 by_cases hl:xs.length=5
 ·match xs,hl with
  | [a,b,c,d,e],_=>
    have h:Zf [a,b,c,d,e]=(Zi [a,b,c,d,e] && !(decide (a=c) && decide (b=d))):=rfl
    rw[h]
    have h1:cD ([.int a,.int b,.int c,.int d,.int e]:List PV) none (some 2)=[.int a,.int b]:=rfl
    have h2:cD ([.int a,.int b,.int c,.int d,.int e]:List PV) (some 2) (some 4)=[.int c,.int d]:=rfl
    have h3:=Z1t a b c d
    generalize Zi [a,b,c,d,e]=q at *
    generalize (!(decide (a=c) && decide (b=d)))=r at *
    rcases hs with rfl|rfl<;>cases q<;>simp_all [ud,vU,List.replicate]
 ·have h:Zf xs=false:=by
   unfold Zf
   split
   ·simp at hl
   ·rfl
  rw[h]
  rw[Z1b hl] at he
  simp[ud,vU,List.replicate,Z0E hs,he]
def Z1g{xs:List Int}{sl:P.Slot}(hs:Oa sl (xs.map .int)):zW [sl]=.ret (.sh (.bl (Z7 xs))):=by
 have he:=Z0r hs
 by_cases hl:xs.length=5
 ·match xs,hl with
  | [a,b,c,d,e],_=>
    have h:Z7 [a,b,c,d,e]=(Zi [a,b,c,d,e] && decide (a<c) && decide (b<d)):=rfl
    rw[h]
    generalize Zi [a,b,c,d,e]=q at *
    rcases hs with rfl|rfl<;>simp only[List.map_cons,List.map_nil] at he<;>cases q<;>by_cases h1:a<c<;>by_cases h2:b<d<;>simp[zW,Ew,List.replicate,he,h1,h2]
 ·have h:Z7 xs=false:=by
   unfold Z7
   split
   ·simp at hl
   ·rfl
  rw[h]
  rw[Z1b hl] at he
  simp[zW,Ew,List.replicate,Z0E hs,he]
def ZA(a b c:Int):Jl [.sh (.lst [.int a,.int b,.int c])]=.ret (.sh (.bl (Ū a && Ū b && yL c))):=by
 unfold yL
 cases ea:Ū a<;>cases eb:Ū b<;>by_cases h1:0<=c<;>by_cases h2:c<=1000000000<;>simp[Jl,Ls,List.replicate,ZK,ea,eb,h1,h2]
def Z0Z{xs:List Int}{sl:P.Slot}(hs:Oa sl (xs.map .int)):Ez [sl]=.ret (.sh (.bl (Zg xs))):=by
 by_cases hl:xs.length=9
 ·match xs,hl with
  | [a,b,c,d,e,f,g,h,i],_=>
    have hc:Zg [a,b,c,d,e,f,g,h,i]=((Ū a && Ū b && yL c) && (Ū d && Ū e && yL f) && (Ū g && Ū h && yL i)):=rfl
    rw[hc]
    have h1:cD ([.int a,.int b,.int c,.int d,.int e,.int f,.int g,.int h,.int i]:List PV) (some 0) (some 3)=[.int a,.int b,.int c]:=rfl
    have h2:cD ([.int a,.int b,.int c,.int d,.int e,.int f,.int g,.int h,.int i]:List PV) (some 3) (some 6)=[.int d,.int e,.int f]:=rfl
    have h3:cD ([.int a,.int b,.int c,.int d,.int e,.int f,.int g,.int h,.int i]:List PV) (some 6) (some 9)=[.int g,.int h,.int i]:=rfl
    have hb:=Z1r (Ū a && Ū b && yL c) (Ū d && Ū e && yL f) (Ū g && Ū h && yL i)
    have k1:=ZA a b c
    have k2:=ZA d e f
    have k3:=ZA g h i
    generalize (Ū a && Ū b && yL c)=q1 at *
    generalize (Ū d && Ū e && yL f)=q2 at *
    generalize (Ū g && Ū h && yL i)=q3 at *
    rcases hs with rfl|rfl<;>simp[Ez,Ey,List.replicate,ŕ,h1,h2,h3,k1,k2,k3,hb]
 ·have h:Zg xs=false:=by
   unfold Zg
   split
   ·simp at hl
   ·rfl
  rw[h]
  have hl':¬((xs.length:Nat):Int)=9:=by omega
  rcases hs with rfl|rfl<;>simp[Ez,Ey,List.replicate,hl']
def Z0F(w:Str):String:=if w= "post" then "Post" else if w= "fence" then "Fence" else if w= "sail" then "Sail" else if w= "cloth" then "Cloth" else "House"
def Z0e(C:String)(w:Str)(xs:List Int):PV:=.ins C ["word","numbers"] [.str w,.lst (xs.map .int)]
def ZU(w:Str)(xs:List Int):Bool:=if w= "post" then Zk xs else if w= "fence" then Zf xs else if w= "sail" then Z7 xs else if w= "cloth" then Zg xs else if w= "house" then Z7 xs else false
def wn:((Str.ofString "word")=(Str.ofString "numbers"))=False:=eq_false (by decide +kernel)
def Zt{C:String}(hC:(["Thing","Post","Fence","Sail","Cloth","House"]:List String).contains C=true)(w:Str){xs:List Int}{sl:P.Slot}(hs:Oa sl (xs.map .int)):aq 3 3 C bO [.sh (.str w),sl]=.ok ["word","numbers"] [.str w,.lst (xs.map .int)]:=by
 rcases hs with rfl|rfl<;>simp[aq,bO,dR,IR.of,List.replicate,putN,vA,hC,wn,-List.contains_eq_mem,-List.contains_cons]
def s1:PyData.strOk (Str.ofString "post")=true:=by decide +kernel
def s2:PyData.strOk (Str.ofString "fence")=true:=by decide +kernel
def s3:PyData.strOk (Str.ofString "sail")=true:=by decide +kernel
def s4:PyData.strOk (Str.ofString "cloth")=true:=by decide +kernel
def s5:PyData.strOk (Str.ofString "house")=true:=by decide +kernel
def d12:(Str.ofString "post" =Str.ofString "fence")=False:=eq_false (by decide +kernel)
def d13:(Str.ofString "post" =Str.ofString "sail")=False:=eq_false (by decide +kernel)
def d14:(Str.ofString "post" =Str.ofString "cloth")=False:=eq_false (by decide +kernel)
def d15:(Str.ofString "post" =Str.ofString "house")=False:=eq_false (by decide +kernel)
def d23:(Str.ofString "fence" =Str.ofString "sail")=False:=eq_false (by decide +kernel)
def d24:(Str.ofString "fence" =Str.ofString "cloth")=False:=eq_false (by decide +kernel)
def d25:(Str.ofString "fence" =Str.ofString "house")=False:=eq_false (by decide +kernel)
def d31:(Str.ofString "sail" =Str.ofString "post")=False:=eq_false (by decide +kernel)
def d32:(Str.ofString "sail" =Str.ofString "fence")=False:=eq_false (by decide +kernel)
def d34:(Str.ofString "sail" =Str.ofString "cloth")=False:=eq_false (by decide +kernel)
def d35:(Str.ofString "sail" =Str.ofString "house")=False:=eq_false (by decide +kernel)
def d45:(Str.ofString "cloth" =Str.ofString "house")=False:=eq_false (by decide +kernel)
def d51:(Str.ofString "house" =Str.ofString "post")=False:=eq_false (by decide +kernel)
def d52:(Str.ofString "house" =Str.ofString "fence")=False:=eq_false (by decide +kernel)
def d53:(Str.ofString "house" =Str.ofString "sail")=False:=eq_false (by decide +kernel)
def d54:(Str.ofString "house" =Str.ofString "cloth")=False:=eq_false (by decide +kernel)
def Z10{w:Str}(hw:PyData.strOk w=true){xs:List Int}{sl:P.Slot}(hs:Oa sl (xs.map .int)):dW [.sh (.str w),sl]=if ZU w xs=true then .ret (.sh (Z0e (Z0F w) w xs)) else .bad:=by
 have e1:=Ņ hw s1
 have e2:=Ņ hw s2
 have e3:=Ņ hw s3
 have e4:=Ņ hw s4
 have e5:=Ņ hw s5
 have p1:=Z0c hs
 have p2:=Z0Y hs
 have p3:=Z1g hs
 have p4:=Z0Z hs
 have i1:qm [.sh (.str w),sl]=_:=Zt (by decide) w hs
 have i2:lQ [.sh (.str w),sl]=_:=Zt (by decide) w hs
 have i3:qt [.sh (.str w),sl]=_:=Zt (by decide) w hs
 have i4:lR [.sh (.str w),sl]=_:=Zt (by decide) w hs
 have i5:lU [.sh (.str w),sl]=_:=Zt (by decide) w hs
 have hle:=Z0E hs
 unfold ZU Z0F Z0e
 by_cases h1:w=Str.ofString "post"
 ·have n2:¬w=Str.ofString "fence" := λz=>(d12▸(h1.symm.trans z):False)
  have n3:¬w=Str.ofString "sail" := λz=>(d13▸(h1.symm.trans z):False)
  have n4:¬w=Str.ofString "cloth" := λz=>(d14▸(h1.symm.trans z):False)
  have n5:¬w=Str.ofString "house" := λz=>(d15▸(h1.symm.trans z):False)
  rw[decide_eq_true h1] at e1
  rw[decide_eq_false n2] at e2
  rw[decide_eq_false n3] at e3
  rw[decide_eq_false n4] at e4
  rw[decide_eq_false n5] at e5
  have hg:(if w=Str.ofString "post" then Zk xs else if w=Str.ofString "fence" then Zf xs else if w=Str.ofString "sail" then Z7 xs else if w=Str.ofString "cloth" then Zg xs else if w=Str.ofString "house" then Z7 xs else false)=Zk xs:=by rw[if_pos h1]
  have hc:(if w=Str.ofString "post" then "Post" else if w=Str.ofString "fence" then "Fence" else if w=Str.ofString "sail" then "Sail" else if w=Str.ofString "cloth" then "Cloth" else "House")= "Post" := by rw[if_pos h1]
  rw[hg,hc]
  cases q:Zk xs<;>rw[q] at p1<;>simp[dW,fj,au,List.replicate,e1,e2,e3,e4,e5,hle,p1,i1]
 ·skip
  by_cases h2:w=Str.ofString "fence"
  ·have n1:=h1
   have n3:¬w=Str.ofString "sail" := λz=>(d23▸(h2.symm.trans z):False)
   have n4:¬w=Str.ofString "cloth" := λz=>(d24▸(h2.symm.trans z):False)
   have n5:¬w=Str.ofString "house" := λz=>(d25▸(h2.symm.trans z):False)
   rw[decide_eq_true h2] at e2
   rw[decide_eq_false n1] at e1
   rw[decide_eq_false n3] at e3
   rw[decide_eq_false n4] at e4
   rw[decide_eq_false n5] at e5
   have hg:(if w=Str.ofString "post" then Zk xs else if w=Str.ofString "fence" then Zf xs else if w=Str.ofString "sail" then Z7 xs else if w=Str.ofString "cloth" then Zg xs else if w=Str.ofString "house" then Z7 xs else false)=Zf xs:=by rw[if_neg n1,if_pos h2]
   have hc:(if w=Str.ofString "post" then "Post" else if w=Str.ofString "fence" then "Fence" else if w=Str.ofString "sail" then "Sail" else if w=Str.ofString "cloth" then "Cloth" else "House")= "Fence" := by rw[if_neg n1,if_pos h2]
   rw[hg,hc]
   cases q:Zf xs<;>rw[q] at p2<;>simp[dW,fj,au,List.replicate,e1,e2,e3,e4,e5,hle,p2,i2]
  ·skip
   by_cases h3:w=Str.ofString "sail"
   ·have n1:=h1
    have n2:=h2
    have n4:¬w=Str.ofString "cloth" := λz=>(d34▸(h3.symm.trans z):False)
    have n5:¬w=Str.ofString "house" := λz=>(d35▸(h3.symm.trans z):False)
    rw[decide_eq_true h3] at e3
    rw[decide_eq_false n1] at e1
    rw[decide_eq_false n2] at e2
    rw[decide_eq_false n4] at e4
    rw[decide_eq_false n5] at e5
    have hg:(if w=Str.ofString "post" then Zk xs else if w=Str.ofString "fence" then Zf xs else if w=Str.ofString "sail" then Z7 xs else if w=Str.ofString "cloth" then Zg xs else if w=Str.ofString "house" then Z7 xs else false)=Z7 xs:=by rw[if_neg n1,if_neg n2,if_pos h3]
    have hc:(if w=Str.ofString "post" then "Post" else if w=Str.ofString "fence" then "Fence" else if w=Str.ofString "sail" then "Sail" else if w=Str.ofString "cloth" then "Cloth" else "House")= "Sail" := by rw[if_neg n1,if_neg n2,if_pos h3]
    rw[hg,hc]
    cases q:Z7 xs<;>rw[q] at p3<;>simp[dW,fj,au,List.replicate,e1,e2,e3,e4,e5,hle,p3,i3]
   ·skip
    by_cases h4:w=Str.ofString "cloth"
    ·have n1:=h1
     have n2:=h2
     have n3:=h3
     have n5:¬w=Str.ofString "house" := λz=>(d45▸(h4.symm.trans z):False)
     rw[decide_eq_true h4] at e4
     rw[decide_eq_false n1] at e1
     rw[decide_eq_false n2] at e2
     rw[decide_eq_false n3] at e3
     rw[decide_eq_false n5] at e5
     have hg:(if w=Str.ofString "post" then Zk xs else if w=Str.ofString "fence" then Zf xs else if w=Str.ofString "sail" then Z7 xs else if w=Str.ofString "cloth" then Zg xs else if w=Str.ofString "house" then Z7 xs else false)=Zg xs:=by rw[if_neg n1,if_neg n2,if_neg n3,if_pos h4]
     have hc:(if w=Str.ofString "post" then "Post" else if w=Str.ofString "fence" then "Fence" else if w=Str.ofString "sail" then "Sail" else if w=Str.ofString "cloth" then "Cloth" else "House")= "Cloth" := by rw[if_neg n1,if_neg n2,if_neg n3,if_pos h4]
     rw[hg,hc]
     cases q:Zg xs<;>rw[q] at p4<;>simp[dW,fj,au,List.replicate,e1,e2,e3,e4,e5,hle,p4,i4]
    ·skip
     by_cases h5:w=Str.ofString "house"
     ·have n1:=h1
      have n2:=h2
      have n3:=h3
      have n4:=h4
      rw[decide_eq_true h5] at e5
      rw[decide_eq_false n1] at e1
      rw[decide_eq_false n2] at e2
      rw[decide_eq_false n3] at e3
      rw[decide_eq_false n4] at e4
      have hg:(if w=Str.ofString "post" then Zk xs else if w=Str.ofString "fence" then Zf xs else if w=Str.ofString "sail" then Z7 xs else if w=Str.ofString "cloth" then Zg xs else if w=Str.ofString "house" then Z7 xs else false)=Z7 xs:=by rw[if_neg n1,if_neg n2,if_neg n3,if_neg n4,if_pos h5]
      have hc:(if w=Str.ofString "post" then "Post" else if w=Str.ofString "fence" then "Fence" else if w=Str.ofString "sail" then "Sail" else if w=Str.ofString "cloth" then "Cloth" else "House")= "House" := by rw[if_neg n1,if_neg n2,if_neg n3,if_neg n4]
      rw[hg,hc]
      cases q:Z7 xs<;>rw[q] at p3<;>simp[dW,fj,au,List.replicate,e1,e2,e3,e4,e5,hle,p3,i5]
     ·skip
      rw[decide_eq_false h1] at e1
      rw[decide_eq_false h2] at e2
      rw[decide_eq_false h3] at e3
      rw[decide_eq_false h4] at e4
      rw[decide_eq_false h5] at e5
      rw[if_neg h1,if_neg h2,if_neg h3,if_neg h4,if_neg h5]
      simp[dW,fj,au,List.replicate,e1,e2,e3,e4,e5]
abbrev Th:=Str×List Int
def yM(t:Th):PV:=Z0e (Z0F t.1) t.1 t.2
def eG:Option P3->PV
 |none=>.non
 |some r=>c3 r
abbrev Dy:=Str×Int×List (Option P3)
def ŗ(d:Dy):PV:=.tup [.str d.1,.int d.2.1,.lst (d.2.2.map eG)]
def Z0(w h:Int)(T:List Th)(D:List Dy):PV:=.ins "Yard" ["width","height","things","days"] [.int w,.int h,.lst (T.map yM),.lst (D.map ŗ)]
def ywh:(Str.ofString "width" =Str.ofString "height")=False:=eq_false (by decide +kernel)
def ywt:(Str.ofString "width" =Str.ofString "things")=False:=eq_false (by decide +kernel)
def ywd:(Str.ofString "width" =Str.ofString "days")=False:=eq_false (by decide +kernel)
def yht:(Str.ofString "height" =Str.ofString "things")=False:=eq_false (by decide +kernel)
def yhd:(Str.ofString "height" =Str.ofString "days")=False:=eq_false (by decide +kernel)
def ytd:(Str.ofString "things" =Str.ofString "days")=False:=eq_false (by decide +kernel)
def y_w(w h:Int)(T:List Th)(D:List Dy):gb ["Yard"] (Str.ofString "width") (Z0 w h T D)=some (.int w):=by
 unfold gb Z0
 simp
def y_h(w h:Int)(T:List Th)(D:List Dy):gb ["Yard"] (Str.ofString "height") (Z0 w h T D)=some (.int h):=by
 have:(Str.ofString "height" == Str.ofString "width")=false:=by decide +kernel
 unfold gb Z0
 simp[List.lookup_cons,this]
def y_d(w h:Int)(T:List Th)(D:List Dy):gb ["Yard"] (Str.ofString "days") (Z0 w h T D)=some (.lst (D.map ŗ)):=by
 have e1:(Str.ofString "days" == Str.ofString "width")=false:=by decide +kernel
 have e2:(Str.ofString "days" == Str.ofString "height")=false:=by decide +kernel
 have e3:(Str.ofString "days" == Str.ofString "things")=false:=by decide +kernel
 unfold gb Z0
 simp[List.lookup_cons,e1,e2,e3]
def Z08(D:List Dy)(hD:D.length<=100000)(s0 s1 s2:P.Slot):ŕ (gT 3 (Ć (gN 0) (Ć (gN 1) (Ć (gN 2) Į)))) kj (ň (Ą (Ď 0) (Ą (Ď 1) (Ą (ĕ (nj cF (Ą (ā 2) Ĝ))) Ĝ)))) (D.map ŗ) [s0,s1,s2] []=some (D.map ŗ):=by
 have h:=gY (g:=gT 3 (Ć (gN 0) (Ć (gN 1) (Ć (gN 2) Į)))) (mt:=kj) (me:=ň (Ą (Ď 0) (Ą (Ď 1) (Ą (ĕ (nj cF (Ą (ā 2) Ĝ))) Ĝ)))) ŗ ŗ (λρ=>∃a b c,ρ=[a,b,c]) D [s0,s1,s2] [] ⟨_,_,_,rfl⟩ (by simp;omega) (by
  rintro d _ ρ ⟨a,b,c,rfl⟩
  refine⟨[.sh (.str d.1),.sh (.int d.2.1),.sh (.lst (d.2.2.map eG))],[.sh (.str d.1),.sh (.int d.2.1),.sh (.lst (d.2.2.map eG))],[.sh (.str d.1),.sh (.int d.2.1),.sh (.lst (d.2.2.map eG))],by simp[ŗ],rfl,by simp[ŗ],_,_,_,rfl⟩)
 simpa using h
def Z1h(w h:Int){T:List Th}{D:List Dy}(hT:T.length<=100000)(hD:D.length<=100000){s3 s4:P.Slot}(h3:Sl s3 (T.map yM))(h4:Sl s4 (D.map ŗ)):jN [.sh (.int w),.sh (.int h),s3,s4]=.ok ["width","height","things","days"] [.int w,.int h,.lst (T.map yM),.lst (D.map ŗ)]:=by
 have c:=Z08 D hD .no .no .no
 generalize hx:T.map yM=tx at *
 generalize hy:D.map ŗ=dx at *
 rcases h3 with rfl|rfl<;>rcases h4 with rfl|rfl<;>simp[jN,aq,E_,dR,IR.of,List.replicate,putN,vA,ywh,ywt,ywd,yht,yhd,ytd,c]
def Z0G{w h:Int}{T:List Th}{D:List Dy}{i:Nat}(hi:i<D.length):uf [.sh (Z0 w h T D),.sh (.int i)]=.ret (.sh (.lst (D[i].2.2.map eG))):=by
 have yd:=y_d w h T D
 have hx:(D.map ŗ)[i]?=some (ŗ D[i]):=by simp[hi]
 generalize Z0 w h T D=Yv at *
 generalize D.map ŗ=DV at *
 simp[uf,Fb,List.replicate,yd,hx]
 simp[ŗ]
def Z11(c:Int):∃W H:Int,tY [.sh (.int c)]=.ret (.sh (.tup [.int W,.int H]))/\1<=W/\W<=20/\1<=H/\H<=20:=by
 by_cases h:c % 1000000000000 % 6=5
 ·refine⟨1+c % 1000000000000 / 6 % 20,1+c % 1000000000000 / 120 % 20,?_,by omega,by omega,by omega,by omega⟩
  simp[tY,vP,List.replicate,h,-Int.emod_emod_of_dvd]
 ·refine⟨1+c % 1000000000000 / 6 % 6,1+c % 1000000000000 / 36 % 6,?_,by omega,by omega,by omega,by omega⟩
  simp[tY,vP,List.replicate,h,-Int.emod_emod_of_dvd]
def RG(r:P3):Prop:=-1000000<=r.1/\r.1<=1000000/\ -1000000<=r.2.1/\r.2.1<=1000000/\1<=r.2.2/\r.2.2<=1000000
def OG(o:Option P3):Prop:=∀r,o=some r->RG r
def Z1i{n a b c:Int}{t:Nat}(ht:t<=24)(ha: -2<=a/\a<=2)(hb: -2<=b/\b<=2)(hc:1<=c/\c<=3):∃o,dU [.sh (.int n),.sh (.int t),.sh (.tup [.int a,.int b,.int c])]=.ret (.sh (eG o))/\OG o:=by
 by_cases h1:n % 7=6
 ·refine⟨none,?_,by intro r h;cases h⟩
  simp[dU,ql,List.replicate,h1,eG]
 ·by_cases h2:n % 5<3
  ·have mc:∀x,Ő (2*c) x=true:=λx=>fZ (by omega) (by omega)
   refine⟨some (2*c*t+a,b+2*c*(n / 35 % 9 / 8),c),?_,?_⟩
   ·simp[dU,ql,List.replicate,h1,h2,eG,c3,mc]
   ·intro r h
    cases h
    have:c=1\/c=2\/c=3:=by omega
    unfold RG
    rcases this with rfl|rfl|rfl<;>dsimp only<;>omega
  ·have key:∀B:Int,(B=1∨B=100000)→Ē (.lst [.int 1,.int 1,.int 100000]) (.int (n / 35 % 3))=some (.int B)→∃o,dU [.sh (.int n),.sh (.int t),.sh (.tup [.int a,.int b,.int c])]=.ret (.sh (eG o))∧OG o:=by
    intro B hB hi
    have mB:∀x,Ő B x=true:=λx=>fZ (by omega) (by omega)
    refine⟨some (B*(n / 105 % 9-4),B*(n / 945 % 9-4),B*(1+n / 8505 % 2)),?_,?_⟩
    ·simp[dU,ql,List.replicate,h1,h2,eG,c3,mB,hi,-vq]
    ·intro r h
     cases h
     unfold RG
     rcases hB with rfl|rfl<;>dsimp only<;>omega
   have h3:n / 35 % 3=0\/n / 35 % 3=1\/n / 35 % 3=2:=by omega
   rcases h3 with e|e|e
   ·exact key 1 (.inl rfl) (by rw[e];rfl)
   ·exact key 1 (.inl rfl) (by rw[e];rfl)
   ·exact key 100000 (.inr rfl) (by rw[e];rfl)
def YB(k:Nat):Str:=Str.ofString ((["a","b","c","d","e","f","g","h","i","j","k","l"]:List String).getD k "")
def Z1j{k:Nat}(hk:k<12):Ē (.str "abcdefghijkl") (.int (k:Int))=some (.str (YB k)):=by
 have:k=0\/k=1\/k=2\/k=3\/k=4\/k=5\/k=6\/k=7\/k=8\/k=9\/k=10\/k=11:=by omega
 rcases this with rfl|rfl|rfl|rfl|rfl|rfl|rfl|rfl|rfl|rfl|rfl|rfl<;>rfl
def Z1k{k:Nat}(hk:k<12){m:Int}(h0:0<=m)(h3:m<=3):∃s u:Str,ħ (.str "ab") (.int m)=some (.str s)/\Ģ (.str (YB k)) (.str s)=some (.sh (.str u)):=by
 have hm:m=0\/m=1\/m=2\/m=3:=by omega
 have h1:(YB k).length<=1:=by
  have:k=0\/k=1\/k=2\/k=3\/k=4\/k=5\/k=6\/k=7\/k=8\/k=9\/k=10\/k=11:=by omega
  rcases this with rfl|rfl|rfl|rfl|rfl|rfl|rfl|rfl|rfl|rfl|rfl|rfl<;>decide +kernel
 have key:∀s:Str,s.length<=6->∃u:Str,Ģ (.str (YB k)) (.str s)=some (.sh (.str u)):=λs hs=>⟨_,if_pos (by omega)⟩
 have z:∀m:Int,(m=0\/m=1\/m=2\/m=3)->∃s:Str,ħ (.str "ab") (.int m)=some (.str s)/\s.length<=6:=by
  intro m hm
  rcases hm with rfl|rfl|rfl|rfl
  ·exact⟨_,rfl,by decide +kernel⟩
  ·exact⟨_,rfl,by decide +kernel⟩
  ·exact⟨_,rfl,by decide +kernel⟩
  ·exact⟨_,rfl,by decide +kernel⟩
 obtain⟨s,e1,e2⟩:=z m hm
 obtain⟨u,e3⟩:=key s e2
 exact⟨s,u,e1,e3⟩
def uE(d:Dy):Prop:=d.2.2.length<=24/\∀o∈d.2.2,OG o
def Z0H{xs:List Int}{a b c:Int}{m:Nat}(hx:xs.length=m)(hm:m<=24)(ha: -2<=a/\a<=2)(hb: -2<=b/\b<=2)(hc:1<=c/\c<=3):∃os:List (Option P3),os.length=m/\(∀o∈os,OG o)/\
 ∀s:P.Slot,ŕ (gN 2) kj (ĕ (ě dU (ĝ (ă Ē (ā 1) (ā 2)) (Ĉ 2 (Ĉ 0 Ė))))) ((List.range m).map λ(i:Nat)=>PV.int (i:Int)) [.sh (.tup [.int a,.int b,.int c]),.bw (xs.map .int),s] []=some (os.map eG):=by
 have h:∀k:Nat,∃o,(k<m->dU [.sh (.int (xs.getD k 0)),.sh (.int k),.sh (.tup [.int a,.int b,.int c])]=.ret (.sh (eG o)))/\OG o:=by
  intro k
  by_cases hk:k<=24
  ·obtain⟨o,h1,h2⟩:=Z1i (n:=xs.getD k 0) hk ha hb hc
   exact⟨o,λ_=>h1,h2⟩
  ·exact⟨none,λz=>absurd z (by omega),by intro r h;cases h⟩
 obtain⟨f,hf⟩:=Classical.skolem.mp h
 refine⟨(List.range m).map f,by simp,?_,λs=>?_⟩
 ·intro o ho
  obtain⟨k,_,rfl⟩:=List.mem_map.mp ho
  exact(hf k).2
 ·have:=gY (g:=gN 2) (mt:=kj) (me:=ĕ (ě dU (ĝ (ă Ē (ā 1) (ā 2)) (Ĉ 2 (Ĉ 0 Ė))))) (fun(i:Nat)=>PV.int (i:Int)) (fun k=>eG (f k)) (fun ρ=>∃s,ρ=[.sh (.tup [.int a,.int b,.int c]),.bw (xs.map .int),s]) (List.range m) [.sh (.tup [.int a,.int b,.int c]),.bw (xs.map .int),s] [] ⟨_,rfl⟩ (by simp;omega) (by
   rintro k hk ρ ⟨s,rfl⟩
   have hk:=List.mem_range.mp hk
   have e:=(hf k).1 hk
   have hx':(xs.map PV.int)[k]?=some (.int (xs.getD k 0)):=by
    have:k<xs.length:=by omega
    simp[this]
   generalize xs.getD k 0=x at *
   generalize xs.map PV.int=X at *
   refine⟨[.sh (.tup [.int a,.int b,.int c]),.bw X,.sh (.int k)],[.sh (.tup [.int a,.int b,.int c]),.bw X,.sh (.int k)],[.sh (.tup [.int a,.int b,.int c]),.bw X,.sh (.int k)],by simp,by simp,?_,_,rfl⟩
   simp[hx',e])
  rw[this,List.nil_append,List.map_map]
  rfl
def Z0J(ns:List Int)(A k:Nat)(hk:k<12)(f lg:Int)(Ut:lg=0\/lg=1)(s2:P.Slot)(acc:List Dy)(hl:acc.length<=100)(s7 s8 s9 oh Ag s12:P.Slot):∃(d:Dy) (TQ YC YD wu Gj Gk:P.Slot),uE d/\iw [.sh (.lst (ns.map .int)),.sh (.int (A:Nat)),s2,.sh (.int f),.ow (acc.map ŗ),.sh (.int lg),.sh (.int k),s7,s8,s9,oh,Ag,s12]=.ok .nx [.sh (.lst (ns.map .int)),.sh (.int (A:Nat)),s2,.sh (.int f),.ow ((acc ++ [d]).map ŗ),.sh (.int lg),.sh (.int k),TQ,YC,YD,wu,Gj,Gk]:=by
 have hc:=Zl ns (A+1+k)
 rw[Int.natCast_add,Int.natCast_add] at hc
 generalize ns.getD (A+1+k) 0=c at hc
 have hc:ũ [.sh (.lst (ns.map .int)),.sh (.int ((A:Int)+1+(k:Int)))]=.ret (.sh (.int c)):=hc
 have hw:∀sz:Int,1<=sz->sz<=24->(sz=if lg=1 then 1+c % 24 else 1+c % 4+c / 4 % 3*(f / 3 % 4 / 3))->∃(d:Dy) (TQ YC YD wu Gj Gk:P.Slot),uE d/\iw [.sh (.lst (ns.map .int)),.sh (.int (A:Nat)),s2,.sh (.int f),.ow (acc.map ŗ),.sh (.int lg),.sh (.int k),s7,s8,s9,oh,Ag,s12]=.ok .nx [.sh (.lst (ns.map .int)),.sh (.int (A:Nat)),s2,.sh (.int f),.ow ((acc ++ [d]).map ŗ),.sh (.int lg),.sh (.int k),TQ,YC,YD,wu,Gj,Gk]:=by
  intro sz z1 z2 z3
  obtain⟨m,rfl⟩:∃m:Nat,sz=m:=⟨sz.toNat,by omega⟩
  obtain⟨xs,x1,x2⟩:=Z1q (c / 300) (n:=m) (by omega)
  obtain⟨os,o1,o2,o3⟩:=Z0H (xs:=xs) (a:=c / 12 % 5-2) (b:=c / 60 % 5-2) (c:=1+f / 36 % 3) x2 (by omega) (by omega) (by omega) (by omega)
  obtain⟨s,u,u1,u2⟩:=Z1k hk (m:=f / 108 % 4) (by omega) (by omega)
  have ui:=Z1j hk
  have rr:=ZW (n:=m) (by omega)
  have o3:=o3 .no
  have hm:Ő (c / 4 % 3) (f / 3 % 4 / 3)=true:=fZ (by omega) (by omega)
  have hla:(acc.map ŗ).length<16777216:=by simp;omega
  refine⟨(u,1+f / 7 % 999999999,os),.sh (.int c),.sh (.tup [.int (c / 12 % 5-2),.int (c / 60 % 5-2),.int (1+f / 36 % 3)]),.sh (.int m),.ow (xs.map .int),.sh (.lst (os.map eG)),.sh (.str u),⟨by dsimp only;omega,o2⟩,?_⟩
  have e2:(acc ++ [((u,1+f / 7 % 999999999,os):Dy)]).map ŗ=acc.map ŗ ++ [.tup [.str u,.int (1+f / 7 % 999999999),.lst (os.map eG)]]:=by simp[ŗ]
  rw[e2]
  clear e2 o1 o2 x2
  generalize (List.range m).map (λ(i:Nat)=>PV.int (i:Int))=RR at *
  generalize os.map eG=OS at *
  generalize acc.map ŗ=AC at *
  generalize xs.map PV.int=XS at *
  generalize ns.map PV.int=NS at *
  generalize YB k=nm at *
  rcases Ut with rfl|rfl
  ·simp at z3
   simp[iw,hc,hm,z3.symm,x1,rr,fU,gW,o3,ui,u1,u2,hla,-Zn]
  ·simp at z3
   simp[iw,hc,hm,z3.symm,x1,rr,fU,gW,o3,ui,u1,u2,hla,-Zn]
 by_cases h1:lg=1
 ·exact hw (1+c % 24) (by omega) (by omega) (by rw[if_pos h1])
 ·refine hw (1+c % 4+c / 4 % 3*(f / 3 % 4 / 3)) ?_ ?_ (by rw[if_neg h1])
  ·have:f / 3 % 4 / 3=0\/f / 3 % 4 / 3=1:=by omega
   rcases this with e|e<;>rw[e]<;>omega
  ·have:f / 3 % 4 / 3=0\/f / 3 % 4 / 3=1:=by omega
   rcases this with e|e<;>rw[e]<;>omega
theorem Z09(ns:List Int)(A:Nat)(f lg:Int)(Ut:lg=0\/lg=1)(s2:P.Slot):∀(ks:List Nat) (acc:List Dy) (s6 s7 s8 s9 oh Ag s12:P.Slot),(∀k∈ks,k<12)->acc.length+ks.length<=100->∃(D:List Dy) (Ua TQ YC YD wu Gj Gk:P.Slot),D.length=ks.length/\(∀d∈D,uE d)/\
 forL (gN 6) iw (ks.map λ(i:Nat)=>PV.int (i:Int)) [.sh (.lst (ns.map .int)),.sh (.int (A:Nat)),s2,.sh (.int f),.ow (acc.map ŗ),.sh (.int lg),s6,s7,s8,s9,oh,Ag,s12]=.ok .nx [.sh (.lst (ns.map .int)),.sh (.int (A:Nat)),s2,.sh (.int f),.ow ((acc++D).map ŗ),.sh (.int lg),Ua,TQ,YC,YD,wu,Gj,Gk]
 | [],acc,s6,s7,s8,s9,oh,Ag,s12,_,_=>⟨[],s6,s7,s8,s9,oh,Ag,s12,rfl,by simp,by simp[forL]⟩
 |k::ks,acc,s6,s7,s8,s9,oh,Ag,s12,hk,hl=>by
  obtain⟨d,a7,a8,a9,a10,a11,a12,hd,e1⟩:=Z0J ns A k (hk k List.mem_cons_self) f lg Ut s2 acc (by simp at hl;omega) s7 s8 s9 oh Ag s12
  obtain⟨D,b6,b7,b8,b9,b10,b11,b12,h1,h2,e2⟩:=Z09 ns A f lg Ut s2 ks (acc ++ [d]) (.sh (.int k)) a7 a8 a9 a10 a11 a12 (λx hx=>hk x (List.mem_cons_of_mem _ hx)) (by simp at hl ⊢;omega)
  refine⟨d::D,b6,b7,b8,b9,b10,b11,b12,by simp[h1],?_,?_⟩
  ·intro x hx
   rcases List.mem_cons.mp hx with rfl|hx
   ·exact hd
   ·exact h2 x hx
  ·rw[List.append_assoc] at e2
   rw[List.map_cons,forL]
   have g1:gN 6 (.int (k:Int)) [.sh (.lst (ns.map .int)),.sh (.int (A:Nat)),s2,.sh (.int f),.ow (acc.map ŗ),.sh (.int lg),s6,s7,s8,s9,oh,Ag,s12]=some [.sh (.lst (ns.map .int)),.sh (.int (A:Nat)),s2,.sh (.int f),.ow (acc.map ŗ),.sh (.int lg),.sh (.int k),s7,s8,s9,oh,Ag,s12]:=rfl
   rw[g1]
   dsimp only
   rw[e1]
   exact e2
def Z1l(ns:List Int)(A:Nat):∃D:List Dy,D.length<=12/\(∀d∈D,uE d)/\gn [.sh (.lst (ns.map .int)),.sh (.int (A:Nat)),.sh (.int 4)]=.ret (.ow (D.map ŗ)):=by
 have hc:=Zl ns A
 generalize ns.getD A 0=c at hc
 obtain⟨f,hf⟩:∃f,c % 1000000000000=f:=⟨_,rfl⟩
 by_cases h9:f / 16144 % 16=9
 ·refine⟨[],by simp,by simp,?_⟩
  by_cases h3:f / 1009 % 16=3
  ·simp[gn,lO,List.replicate,hc,hf,h9,h3,pZ]
  ·simp[gn,lO,List.replicate,hc,hf,h9,h3,pZ]
 ·have key:∀(lg:Int) (m:Int),(lg=0∨lg=1)→(m=4∨m=12)→(m=if lg=1 then 12 else 4)→(lg=if f / 1009 % 16=3 then 1 else 0)→∃D:List Dy,D.length≤12∧(∀d∈D,uE d)∧gn [.sh (.lst (ns.map .int)),.sh (.int (A:Nat)),.sh (.int 4)]=.ret (.ow (D.map ŗ)):=by
   intro lg m Ut hm hi hq
   have hm0:m≠0:=by omega
   have b1:0<=f % m:=Int.emod_nonneg _ hm0
   have b2:f % m<m:=Int.emod_lt_of_pos _ (by omega)
   obtain⟨n,hn⟩:∃n:Nat,1+f % m=n:=⟨(1+f % m).toNat,by omega⟩
   have Zcj:n<=12:=by omega
   obtain⟨D,b6,b7,b8,b9,b10,b11,b12,h1,h2,e⟩:=Z09 ns A f lg Ut (.sh (.int 4)) (List.range n) [] .no .no .no .no .no .no .no (by intro k hk;have:=List.mem_range.mp hk;omega) (by simp;omega)
   refine⟨D,by rw[h1];simpa using Zcj,h2,?_⟩
   have rr:=ZW (n:=n) (by omega)
   rw[List.map_nil,List.nil_append] at e
   generalize (List.range n).map (λ(i:Nat)=>PV.int (i:Int))=RR at *
   generalize D.map ŗ=DV at *
   generalize ns.map PV.int=NS at *
   by_cases h3:f / 1009 % 16=3
   ·rw[if_pos h3] at hq
    subst hq
    rw[if_pos rfl] at hi
    subst hi
    simp[gn,lO,List.replicate,hc,hf,h9,h3,pZ,hn,rr,e,-Zn]
   ·rw[if_neg h3] at hq
    subst hq
    rw[if_neg (by decide)] at hi
    subst hi
    simp[gn,lO,List.replicate,hc,hf,h9,h3,pZ,hn,rr,e,-Zn]
  by_cases h3:f / 1009 % 16=3
  ·exact key 1 12 (.inr rfl) (.inr rfl) (by rw[if_pos rfl]) (by rw[if_pos h3])
  ·exact key 0 4 (.inl rfl) (.inl rfl) (by rw[if_neg (by decide)]) (by rw[if_neg h3])
def Z12(x y:Int)(hx: -4<=x/\x<=4)(hy: -4<=y/\y<=4)(z:Int)(hz:1<=z/\z<=9):Z7 [x,y,x+30,y+30,z]=true:=by
 simp[Z7,Zi,Ū,Ju]
 omega
def Z0q(c:Int):∃T:List Th,T.length<=1/\zZ [.sh (.int c)]=.ret (.ow (T.map yM)):=by
 obtain⟨f,hf⟩:∃f,c % 1000000000=f:=⟨_,rfl⟩
 by_cases h:f % 2=0
 ·refine⟨[],by simp,?_⟩
  simp[zZ,EY,List.replicate,hf,h]
 ·have key:∀w:Str,PyData.strOk w=true→(ZU w [f / 2 % 9-4,f / 18 % 9-4,f / 2 % 9-4+30,f / 18 % 9-4+30,1+f / 324 % 9]=true)→Ē (.lst [.str "house",.str "sail"]) (.int (f / 162 % 2))=some (.str w)→∃T:List Th,T.length≤1∧zZ [.sh (.int c)]=.ret (.ow (T.map yM)):=by
   intro w hw hg hi
   have te:=Z10 hw (xs:=[f / 2 % 9-4,f / 18 % 9-4,f / 2 % 9-4+30,f / 18 % 9-4+30,1+f / 324 % 9]) (sl:=.sh (.lst ([f / 2 % 9-4,f / 18 % 9-4,f / 2 % 9-4+30,f / 18 % 9-4+30,1+f / 324 % 9].map .int))) (.inl rfl)
   rw[if_pos hg] at te
   refine⟨[(w,[f / 2 % 9-4,f / 18 % 9-4,f / 2 % 9-4+30,f / 18 % 9-4+30,1+f / 324 % 9])],by simp,?_⟩
   have te':dW [.sh (.str w),.sh (.lst [.int (f / 2 % 9-4),.int (f / 18 % 9-4),.int (f / 2 % 9-4+30),.int (f / 18 % 9-4+30),.int (1+f / 324 % 9)])]=.ret (.sh (yM (w,[f / 2 % 9-4,f / 18 % 9-4,f / 2 % 9-4+30,f / 18 % 9-4+30,1+f / 324 % 9]))):=te
   rw[List.map_cons,List.map_nil]
   generalize yM (w,[f / 2 % 9-4,f / 18 % 9-4,f / 2 % 9-4+30,f / 18 % 9-4+30,1+f / 324 % 9])=TV at *
   simp[zZ,EY,List.replicate,hf,h,hi,te',-vq]
  have hb:=Z12 (f / 2 % 9-4) (f / 18 % 9-4) (by omega) (by omega) (1+f / 324 % 9) (by omega)
  have h2:f / 162 % 2=0\/f / 162 % 2=1:=by omega
  rcases h2 with e|e
  ·refine key "house" s5 ?_ (by rw[e];rfl)
   unfold ZU
   rw[if_neg (by rw[d51];exact id),if_neg (by rw[d52];exact id),if_neg (by rw[d53];exact id),if_neg (by rw[d54];exact id),if_pos rfl]
   exact hb
  ·refine key "sail" s3 ?_ (by rw[e];rfl)
   unfold ZU
   rw[if_neg (by rw[d31];exact id),if_neg (by rw[d32];exact id),if_pos rfl]
   exact hb
def ZB(q:P3)(r:P3):Int×Int:=((r.2.2*q.1+r.1*q.2.2+r.2.2) / (2*r.2.2),(r.2.2*q.2.1+r.2.1*q.2.2+r.2.2) / (2*r.2.2))
def Z0K(q:P3){r:P3}(h:RG r):ug [.sh (c3 q),.sh (c3 r)]=.ret (.sh (.tup [.int (ZB q r).1,.int (ZB q r).2])):=by
 obtain⟨x,y,z⟩:=q
 obtain⟨a,b,c⟩:=r
 obtain⟨a1,a2,b1,b2,c1,c2⟩:=h
 dsimp only at a1 a2 b1 b2 c1 c2
 have mc:∀x,Ő c x=true:=λx=>fZ (by omega) (by omega)
 have ma:∀x,Ő a x=true:=λx=>fZ (by omega) (by omega)
 have mb:∀x,Ő b x=true:=λx=>fZ (by omega) (by omega)
 have hf:∀x,iU x (2*c)=true:=λx=>Kd (by omega) (by omega) (by omega)
 have he:∀x:Int,x.fdiv (2*c)=x / (2*c):=λx=>Int.fdiv_eq_ediv_of_nonneg x (by omega)
 have h1:yr [.sh (.tup [.int x,.int y,.int z]),.sh (.tup [.int a,.int b,.int c])]=.ret (.sh (.tup [.int (c*x+a*z),.int (c*y+b*z)])):=by
  simp[yr,Fd,List.replicate,mc,ma,mb]
 simp[ug,Fe,List.replicate,c3,h1,hf,he,ZB]
abbrev En:=Nat×Nat×Int×Int
def Ļ(e:En):PV:=.tup [.int e.1,.int e.2.1,.tup [.int e.2.2.1,.int e.2.2.2]]
def Z8(q:P3)(d:Nat):Nat->List (Option P3)->List En
 |_,[]=>[]
 |t,none::r=>Z8 q d (t+1) r
 |t,some x::r=>(d,t,ZB q x)::Z8 q d (t+1) r
def Z9(q:P3):Nat->List Dy->List En
 |_,[]=>[]
 |d,x::D=>Z8 q d 0 x.2.2++Z9 q (d+1) D
theorem Zq(q:P3)(d:Nat):∀(os:List (Option P3)) (t:Nat),(Z8 q d t os).length<=os.length
 | [],t=>by simp[Z8]
 |none::r,t=>by have:=Zq q d r (t+1);simp[Z8];omega
 |some x::r,t=>by have:=Zq q d r (t+1);simp[Z8];omega
theorem ZL(q:P3):∀(D:List Dy) (d:Nat),(∀x∈D,uE x)->(Z9 q d D).length<=D.length*24
 | [],d,_=>by simp[Z9]
 |x::D,d,h=>by
  have h1:=ZL q D (d+1) λy hy=>h y (List.mem_cons_of_mem _ hy)
  have h2:=Zq q d x.2.2 0
  have h3:=(h x List.mem_cons_self).1
  simp[Z9]
  omega
theorem ZC(q:P3)(d:Nat)(s0:P.Slot):∀(os:List (Option P3)) (t:Nat) (acc:List En) (s4 s5:P.Slot),(∀o∈os,OG o)->acc.length+os.length<=1000000->∃Ae Gs,forL (gT 2 (Ć (gN 4) (Ć (gN 5) Į))) oZ (cG t (os.map eG)) [s0,.sh (c3 q),.ow (acc.map Ļ),.sh (.int d),s4,s5]=.ok .nx [s0,.sh (c3 q),.ow ((acc++Z8 q d t os).map Ļ),.sh (.int d),Ae,Gs]
 | [],t,acc,s4,s5,_,_=>⟨s4,s5,by simp[forL,cG,Z8]⟩
 |none::os,t,acc,s4,s5,ho,hl=>by
  obtain⟨a,b,e⟩:=ZC q d s0 os (t+1) acc (.sh (.int t)) (.sh .non) (λo h=>ho o (List.mem_cons_of_mem _ h)) (by simp at hl;omega)
  refine⟨a,b,?_⟩
  rw[List.map_cons,Z8]
  show forL _ _ (.tup [.int t,.non]::cG (t+1) (os.map eG)) _=_
  rw[forL]
  have g1:gT 2 (Ć (gN 4) (Ć (gN 5) Į)) (.tup [.int (t:Int),.non]) [s0,.sh (c3 q),.ow (acc.map Ļ),.sh (.int d),s4,s5]=some [s0,.sh (c3 q),.ow (acc.map Ļ),.sh (.int d),.sh (.int t),.sh .non]:=by simp
  rw[g1]
  dsimp only
  have e1:oZ [s0,.sh (c3 q),.ow (acc.map Ļ),.sh (.int d),.sh (.int t),.sh .non]=.ok .nx [s0,.sh (c3 q),.ow (acc.map Ļ),.sh (.int d),.sh (.int t),.sh .non]:=by simp[oZ,Ai]
  rw[e1]
  exact e
 |some r::os,t,acc,s4,s5,ho,hl=>by
  have he:=Z0K q (ho _ List.mem_cons_self r rfl)
  obtain⟨a,b,e⟩:=ZC q d s0 os (t+1) (acc ++ [(d,t,ZB q r)]) (.sh (.int t)) (.sh (c3 r)) (λo h=>ho o (List.mem_cons_of_mem _ h)) (by simp at hl ⊢;omega)
  have hla:(acc.map Ļ).length<16777216:=by simp at hl ⊢;omega
  refine⟨a,b,?_⟩
  rw[List.append_assoc] at e
  rw[List.map_cons,Z8]
  show forL _ _ (.tup [.int t,c3 r]::cG (t+1) (os.map eG)) _=_
  rw[forL]
  have g1:gT 2 (Ć (gN 4) (Ć (gN 5) Į)) (.tup [.int (t:Int),c3 r]) [s0,.sh (c3 q),.ow (acc.map Ļ),.sh (.int d),s4,s5]=some [s0,.sh (c3 q),.ow (acc.map Ļ),.sh (.int d),.sh (.int t),.sh (c3 r)]:=by simp
  rw[g1]
  dsimp only
  have e1:oZ [s0,.sh (c3 q),.ow (acc.map Ļ),.sh (.int d),.sh (.int t),.sh (c3 r)]=.ok .nx [s0,.sh (c3 q),.ow ((acc ++ [(d,t,ZB q r)]).map Ļ),.sh (.int d),.sh (.int t),.sh (c3 r)]:=by
   rw[List.map_append]
   have hn:Ai (c3 r)=false:=rfl
   generalize acc.map Ļ=AC at *
   generalize hq:c3 r=C at *
   generalize c3 q=Q at *
   simp[oZ,hn,he,hla,Ļ]
  rw[e1]
  exact e
def Z13{w h:Int}{T:List Th}{D:List Dy}{i:Nat}{x:Dy}(hi:D[i]?=some x):uf [.sh (Z0 w h T D),.sh (.int i)]=.ret (.sh (.lst (x.2.2.map eG))):=by
 obtain⟨h1,h2⟩:=List.getElem?_eq_some_iff.mp hi
 have:=Z0G (w:=w) (h:=h) (T:=T) h1
 rw[h2] at this
 exact this
theorem Z0a{w h:Int}{T:List Th}{D:List Dy}(q:P3)(hD:∀x∈D,uE x):∀(r:List Dy) (d:Nat) (acc:List En) (s3 s4 s5:P.Slot),D.drop d=r->acc.length+r.length*24<=100000->∃s3' Ae Gs,forL (gN 3) yt ((List.range' d r.length).map λ(i:Nat)=>PV.int (i:Int)) [.sh (Z0 w h T D),.sh (c3 q),.ow (acc.map Ļ),s3,s4,s5]=.ok .nx [.sh (Z0 w h T D),.sh (c3 q),.ow ((acc++Z9 q d r).map Ļ),s3',Ae,Gs]
 | [],d,acc,s3,s4,s5,_,_=>⟨s3,s4,s5,by simp[forL,Z9]⟩
 |x::r,d,acc,s3,s4,s5,hr,hl=>by
  have hx:D[d]?=some x:=by
   have:=congrArg (λl=>l[0]?) hr
   simpa using this
  have hr':D.drop (d+1)=r:=by
   have:=congrArg List.tail hr
   simpa using this
  have hk:=hD x (List.mem_of_getElem? hx)
  have tu:=Z13 (w:=w) (h:=h) (T:=T) hx
  obtain⟨a,b,e1⟩:=ZC q d (.sh (Z0 w h T D)) x.2.2 0 acc s4 s5 hk.2 (by have:=hk.1;simp at hl;omega)
  have hz:=Zq q d x.2.2 0
  obtain⟨a3,a4,a5,e2⟩:=Z0a (w:=w) (h:=h) (T:=T) q hD r (d+1) (acc++Z8 q d 0 x.2.2) (.sh (.int d)) a b hr' (by have:=hk.1;simp at hl ⊢;omega)
  refine⟨a3,a4,a5,?_⟩
  rw[List.append_assoc] at e2
  rw[List.length_cons,List.range'_succ,List.map_cons,forL]
  have g1:gN 3 (.int (d:Int)) [.sh (Z0 w h T D),.sh (c3 q),.ow (acc.map Ļ),s3,s4,s5]=some [.sh (Z0 w h T D),.sh (c3 q),.ow (acc.map Ļ),.sh (.int d),s4,s5]:=rfl
  rw[g1]
  dsimp only
  have e3:yt [.sh (Z0 w h T D),.sh (c3 q),.ow (acc.map Ļ),.sh (.int d),s4,s5]=.ok .nx [.sh (Z0 w h T D),.sh (c3 q),.ow ((acc++Z8 q d 0 x.2.2).map Ļ),.sh (.int d),a,b]:=by
   generalize (acc++Z8 q d 0 x.2.2).map Ļ=AE at *
   generalize acc.map Ļ=AC at *
   generalize x.2.2.map eG=OS at *
   generalize Z0 w h T D=Yv at *
   generalize c3 q=Q at *
   simp[yt,tu,e1]
  rw[e3]
  exact e2
def Z1u{w h:Int}{T:List Th}{D:List Dy}(q:P3)(hD:∀x∈D,uE x)(hl:D.length<=12):Jm [.sh (Z0 w h T D),.sh (c3 q)]=.ret (.ow ((Z9 q 0 D).map Ļ)):=by
 obtain⟨a,b,c,e⟩:=Z0a (w:=w) (h:=h) (T:=T) q hD D 0 [] .no .no .no rfl (by simp;omega)
 have yd:=y_d w h T D
 have rr:=ZW (n:=D.length) (by omega)
 have hl:(D.map ŗ).length=D.length:=by simp
 rw[List.nil_append,List.map_nil,<-List.range_eq_range'] at e
 generalize (Z9 q 0 D).map Ļ=Q at *
 generalize Z0 w h T D=Yv at *
 generalize (List.range D.length).map (λ(i:Nat)=>PV.int (i:Int))=RR at *
 generalize D.map ŗ=DV at *
 generalize c3 q=QQ at *
 simp[Jm,Lw,List.replicate,yd,hl,rr,e]
section
variable{α β:Type}[DecidableEq α]
def dF(K:List (α×β))(a:α):Option β:= (K.find? λp=>decide (p.1=a)).map (·.2)
def Z1(f:α->DK)(g:β->PV)(K:List (α×β)):List (DK×PV):=K.map λx=>(f x.1,g x.2)
variable{f:α->DK}{g:β->PV}
def Zm{p:α×β}{K:List (α×β)}{a:α}(e:p.1=a):dF (p::K) a=some p.2:=by simp[dF,List.find?_cons,e]
def Zo{p:α×β}{K:List (α×β)}{a:α}(e:¬p.1=a):dF (p::K) a=dF K a:=by simp[dF,List.find?_cons,e]
def Z0f{p:DK×PV}{K:List (DK×PV)}{a:DK}(e:p.1=a):dval (p::K) a=some p.2:=by simp[dval,List.find?_cons,e]
def Z0g{p:DK×PV}{K:List (DK×PV)}{a:DK}(e:¬p.1=a):dval (p::K) a=dval K a:=by simp[dval,List.find?_cons,e]
theorem Zs(a:α):∀K:List (α×β),(∀x∈K,f x.1=f a->x.1=a)->dval (Z1 f g K) (f a)=(dF K a).map g
 | [],_=>rfl
 |p::K,h=>by
  have ih:=Zs a K λx hx=>h x (List.mem_cons_of_mem _ hx)
  by_cases e:p.1=a
  ·rw[Zm e]
   exact Z0f (p:=(f p.1,g p.2)) (by rw[e])
  ·rw[Zo e,<-ih]
   exact Z0g (p:=(f p.1,g p.2)) λz=>e (h p List.mem_cons_self z)
theorem ZM(a:DK):∀K:List (DK×PV),(K.any λkv=>decide (kv.1=a))=(dval K a).isSome
 | []=>rfl
 |p::K=>by
  by_cases e:p.1=a
  ·rw[Z0f e,List.any_cons,decide_eq_true e];rfl
  ·rw[Z0g e,List.any_cons,decide_eq_false e,ZM a K];rfl
def ZN{a:α}{K:List (α×β)}{v:β}(h:∀x∈K,f x.1=f a->x.1=a)(hn:dF K a=none):dput (Z1 f g K) (f a) (g v)=Z1 f g (K ++ [(a,v)]):=by
 unfold dput
 rw[ZM,Zs a K h,hn,if_neg (by simp)]
 simp[Z1]
theorem ZX{a:α}{v:β}:∀{K:List (α×β)},(K.map (·.1)).Nodup->dF K a=some v->∀x∈K,x.1=a->x.2=v
 | [],_,_,x,hx,_=>nomatch hx
 |p::K,hn,hv,x,hx,ex=>by
  rw[List.map_cons,List.nodup_cons] at hn
  by_cases e:p.1=a
  ·rw[Zm e] at hv
   cases hv
   rcases List.mem_cons.mp hx with rfl|hx
   ·rfl
   ·exact absurd (List.mem_map.mpr ⟨x,hx,by rw[ex,e]⟩) hn.1
  ·rw[Zo e] at hv
   rcases List.mem_cons.mp hx with rfl|hx
   ·exact absurd ex e
   ·exact ZX hn.2 hv x hx ex
def Z0h{a:α}{K:List (α×β)}{v:β}{p:PV}(h:∀x∈K,f x.1=f a->x.1=a)(hn:(K.map (·.1)).Nodup)(hv:dF K a=some v)(hp:g v=p):dput (Z1 f g K) (f a) p=Z1 f g K:=by
 unfold dput
 rw[ZM,Zs a K h,hv,if_pos (by simp)]
 conv=>rhs;rw[<-List.map_id (Z1 f g K)]
 refine List.map_congr_left λkv hk=>?_
 obtain⟨x,hx,rfl⟩:=List.mem_map.mp hk
 by_cases e:f x.1=f a
 ·have:=ZX hn hv x hx (h x hx e)
  rw[if_pos e,<-hp,this];rfl
 ·rw[if_neg e];rfl
theorem ZO{a:α}:∀{K:List (α×β)},dF K a=none->a∉K.map (·.1)
 | [],_=>by simp
 |p::K,h=>by
  by_cases e:p.1=a
  ·rw[Zm e] at h;cases h
  ·rw[Zo e] at h
   rw[List.map_cons,List.mem_cons]
   rintro (z|z)
   ·exact e z.symm
   ·exact ZO h z
def Z0s{a:α}{v:β}{K:List (α×β)}(h:dF K a=some v):(a,v)∈K:=by
 unfold dF at h
 obtain⟨p,h1,h2⟩:=Option.map_eq_some_iff.mp h
 have h3:=List.mem_of_find?_eq_some h1
 have h4:=List.find?_some h1
 have:p.1=a:=by simpa using h4
 rw[<-this,<-h2]
 exact h3
end
abbrev Sn:=Int×Int
abbrev TT:=Nat×Nat
def gD(W H:Int)(s:Sn):Prop:=0<=s.1/\s.1<W/\0<=s.2/\s.2<H
instance(W H:Int)(s:Sn):Decidable (gD W H s):=by unfold gD;infer_instance
def num(W:Int)(s:Sn):Int:=s.2*W+s.1
def ZG{W H:Int}{s u:Sn}(h1:gD W H s)(h2:gD W H u)(e:num W s=num W u):s=u:=by
 obtain⟨a,b⟩:=s
 obtain⟨c,d⟩:=u
 obtain⟨x1,x2,x3,x4⟩:=h1
 obtain⟨y1,y2,y3,y4⟩:=h2
 unfold num at e
 dsimp only at *
 have e1:(b*W+a) / W=b:=by rw[Int.add_comm,Int.add_mul_ediv_right _ _ (by omega),Int.ediv_eq_zero_of_lt x1 x2,Int.zero_add]
 have e2:(d*W+c) / W=d:=by rw[Int.add_comm,Int.add_mul_ediv_right _ _ (by omega),Int.ediv_eq_zero_of_lt y1 y2,Int.zero_add]
 rw[e,e2] at e1
 subst e1
 have:a=c:=by omega
 rw[this]
def Ŏ(s:Sn):PV:=.tup [.int s.1,.int s.2]
def Ũ(s:TT):PV:=.tup [.int s.1,.int s.2]
def stK(e:En):Sn:=e.2.2
def ŭ(e:En):TT:=(e.1,e.2.1)
def Z6(s:Sn):DK:=.inr [s.1,s.2]
def Zc(W:Int)(s:Sn):DK:=.inl (num W s)
def Z14{s u:Sn}(h:Z6 s=Z6 u):s=u:=by
 unfold Z6 at h
 injection h with h
 injection h with h1 h2
 injection h2 with h2
 exact Prod.ext h1 h2
def Z15{W H:Int}{s u:Sn}(h1:gD W H s)(h2:gD W H u)(h:Zc W s=Zc W u):s=u:=by
 unfold Zc at h
 injection h with h
 exact ZG h1 h2 h
def Zr(e:En):PV:=.tup [.str "off",.int e.1,.int e.2.1]
def yN(a:TT×TT):PV:=.tup [.str "alike",Ũ a.1,Ũ a.2]
def Z1J{w h:Int}{T:List Th}{D:List Dy}(s:Sn):jd [.sh (Z0 w h T D),.sh (Ŏ s)]=.ret (.sh (.bl (decide (gD w h s)))):=by
 have yw:=y_w w h T D
 have yh:=y_h w h T D
 generalize Z0 w h T D=Yv at *
 obtain⟨a,b⟩:=s
 unfold gD
 dsimp only
 by_cases h1:0<=a
 ·by_cases h2:a<w
  ·by_cases h3:0<=b
   ·by_cases h4:b<h
    ·simp[jd,iy,List.replicate,Ŏ,yw,yh,h1,h2,h3,h4]
    ·simp[jd,iy,List.replicate,Ŏ,yw,yh,h1,h2,h3,h4]
   ·simp[jd,iy,List.replicate,Ŏ,yw,yh,h1,h2,h3]
  ·simp[jd,iy,List.replicate,Ŏ,yw,yh,h1,h2]
 ·simp[jd,iy,List.replicate,Ŏ,yw,yh,h1]
def Zd(W H:Int)(e:En):Bool:=!decide (gD W H (stK e))
theorem Z0i{w h:Int}{T:List Th}{D:List Dy}(s1:P.Slot):∀(E:List En) (s2 s3 s4:P.Slot),∃ρ',forL (gT 3 (Ć (gN 2) (Ć (gN 3) (Ć (gN 4) Į)))) iz (E.map Ļ) [.sh (Z0 w h T D),s1,s2,s3,s4]=(match E.find? (Zd w h) with
 |some e=>.ok (.rt (.sh (Zr e))) ρ'
 |none=>.ok .nx ρ')
 | [],s2,s3,s4=>⟨_,rfl⟩
 |e::E,s2,s3,s4=>by
  have hs:=Z1J (w:=w) (h:=h) (T:=T) (D:=D) (stK e)
  rw[List.map_cons,forL]
  have g1:gT 3 (Ć (gN 2) (Ć (gN 3) (Ć (gN 4) Į))) (Ļ e) [.sh (Z0 w h T D),s1,s2,s3,s4]=some [.sh (Z0 w h T D),s1,.sh (.int e.1),.sh (.int e.2.1),.sh (Ŏ (stK e))]:=by simp[Ļ,Ŏ,stK]
  rw[g1]
  dsimp only
  obtain⟨ρ',ih⟩:=Z0i (w:=w) (h:=h) (T:=T) (D:=D) s1 E (.sh (.int e.1)) (.sh (.int e.2.1)) (.sh (Ŏ (stK e)))
  by_cases ho:gD w h (stK e)
  ·have e0:Zd w h e=false:=by simp[Zd,ho]
   rw[decide_eq_true ho] at hs
   have e1:iz [.sh (Z0 w h T D),s1,.sh (.int e.1),.sh (.int e.2.1),.sh (Ŏ (stK e))]=.ok .nx [.sh (Z0 w h T D),s1,.sh (.int e.1),.sh (.int e.2.1),.sh (Ŏ (stK e))]:=by
    generalize Z0 w h T D=Yv at *
    generalize Ŏ (stK e)=S at *
    simp[iz,hs]
   rw[e1,List.find?_cons,e0]
   exact⟨ρ',ih⟩
  ·have e0:Zd w h e=true:=by simp[Zd,ho]
   rw[decide_eq_false ho] at hs
   have e1:iz [.sh (Z0 w h T D),s1,.sh (.int e.1),.sh (.int e.2.1),.sh (Ŏ (stK e))]=.ok (.rt (.sh (Zr e))) [.sh (Z0 w h T D),s1,.sh (.int e.1),.sh (.int e.2.1),.sh (Ŏ (stK e))]:=by
    generalize Z0 w h T D=Yv at *
    generalize Ŏ (stK e)=S at *
    simp[iz,hs,Zr]
   rw[e1,List.find?_cons,e0]
   exact⟨_,rfl⟩
theorem Z1v{w h:Int}{T:List Th}{D:List Dy}(E:List En):uh [.sh (Z0 w h T D),.bw (E.map Ļ)]=.ret (.sh (match E.find? (Zd w h) with
 |some e=>Zr e
 |none=>.non)):=by
 obtain⟨ρ',e⟩:=Z0i (w:=w) (h:=h) (T:=T) (D:=D) (.bw (E.map Ļ)) E .no .no .no
 cases hf:E.find? (Zd w h) with
 |some x=>
  rw[hf] at e
  dsimp only at e ⊢
  generalize Z0 w h T D=Yv at *
  generalize E.map Ļ=EV at *
  simp[uh,vV,List.replicate,e]
 |none=>
  rw[hf] at e
  dsimp only at e ⊢
  generalize Z0 w h T D=Yv at *
  generalize E.map Ļ=EV at *
  simp[uh,vV,List.replicate,e]
abbrev mO:=List (Sn×TT)
def Z3:List En->mO->Option (TT×TT)
 | [],_=>none
 |e::r,K=>match dF K (stK e) with
  |none=>Z3 r (K ++ [(stK e,ŭ e)])
  |some v=>if v.2=e.2.1 then Z3 r K else some (v,ŭ e)
def Z2(K:mO)(e:En):mO:=match dF K (stK e) with
 |none=>K ++ [(stK e,ŭ e)]
 |some _=>K
theorem Zw(s0:P.Slot):∀(E:List En) (K:mO) (s2 s3 s4 s5:P.Slot),K.length+E.length<=100000->∃ρ',forL (gT 3 (Ć (gN 2) (Ć (gN 3) (Ć (gN 4) Į)))) je (E.map Ļ) [s0,.od true (Z1 Z6 Ũ K),s2,s3,s4,s5]=(match Z3 E K with
 |some a=>.ok (.rt (.sh (yN a))) ρ'
 |none=>.ok .nx ρ')
 | [],K,s2,s3,s4,s5,_=>⟨_,rfl⟩
 |e::E,K,s2,s3,s4,s5,hl=>by
  have hi:∀x∈K,Z6 x.1=Z6 (stK e)->x.1=stK e:=λ_ _ h=>Z14 h
  have hv:=Zs (g:=Ũ) (stK e) K hi
  have hk:nC true (Ŏ (stK e))=some (Z6 (stK e)):=rfl
  have hlen:(Z1 Z6 Ũ K).length<16777216:=by simp[Z1] at hl ⊢;omega
  rw[List.map_cons,forL]
  have g1:gT 3 (Ć (gN 2) (Ć (gN 3) (Ć (gN 4) Į))) (Ļ e) [s0,.od true (Z1 Z6 Ũ K),s2,s3,s4,s5]=some [s0,.od true (Z1 Z6 Ũ K),.sh (.int e.1),.sh (.int e.2.1),.sh (Ŏ (stK e)),s5]:=by simp[Ļ,Ŏ,stK]
  rw[g1]
  dsimp only
  have ht:PV.tup [.int e.1,.int e.2.1]=Ũ (ŭ e):=rfl
  cases hx:dF K (stK e) with
  |none=>
   rw[hx] at hv
   obtain⟨ρ',ih⟩:=Zw s0 E (K ++ [(stK e,ŭ e)]) (.sh (.int e.1)) (.sh (.int e.2.1)) (.sh (Ŏ (stK e))) (.sh (Ũ (ŭ e))) (by simp at hl ⊢;omega)
   have hp:=ZN (g:=Ũ) (v:=ŭ e) hi hx
   have e1:je [s0,.od true (Z1 Z6 Ũ K),.sh (.int e.1),.sh (.int e.2.1),.sh (Ŏ (stK e)),s5]=.ok .nx [s0,.od true (Z1 Z6 Ũ (K ++ [(stK e,ŭ e)])),.sh (.int e.1),.sh (.int e.2.1),.sh (Ŏ (stK e)),.sh (Ũ (ŭ e))]:=by
    rw[<-hp]
    have hix:Ē (Ũ (ŭ e)) (.int 1)=some (.int e.2.1):=rfl
    generalize Ŏ (stK e)=S at *
    generalize Z1 Z6 Ũ K=EK at *
    generalize Z6 (stK e)=KS at *
    simp[je,hk,hv,hlen,ht,hix]
   rw[e1]
   refine⟨ρ',?_⟩
   simp only[Z3,hx]
   exact ih
  |some v=>
   rw[hx,Option.map_some] at hv
   have hix:Ē (Ũ v) (.int 1)=some (.int v.2):=rfl
   by_cases h:v.2=e.2.1
   ·obtain⟨ρ',ih⟩:=Zw s0 E K (.sh (.int e.1)) (.sh (.int e.2.1)) (.sh (Ŏ (stK e))) (.sh (Ũ v)) (by simp at hl ⊢;omega)
    have e1:je [s0,.od true (Z1 Z6 Ũ K),.sh (.int e.1),.sh (.int e.2.1),.sh (Ŏ (stK e)),s5]=.ok .nx [s0,.od true (Z1 Z6 Ũ K),.sh (.int e.1),.sh (.int e.2.1),.sh (Ŏ (stK e)),.sh (Ũ v)]:=by
     generalize Ŏ (stK e)=S at *
     generalize Z1 Z6 Ũ K=EK at *
     generalize Z6 (stK e)=KS at *
     generalize Ũ v=VV at *
     simp[je,hk,hv,hix,h]
    rw[e1]
    refine⟨ρ',?_⟩
    simp only[Z3,hx,h]
    exact ih
   ·have h':¬(v.2:Int)=(e.2.1:Int):=λz=>h (by omega)
    have e1:je [s0,.od true (Z1 Z6 Ũ K),.sh (.int e.1),.sh (.int e.2.1),.sh (Ŏ (stK e)),s5]=.ok (.rt (.sh (yN (v,ŭ e)))) [s0,.od true (Z1 Z6 Ũ K),.sh (.int e.1),.sh (.int e.2.1),.sh (Ŏ (stK e)),.sh (Ũ v)]:=by
     unfold yN
     rw[<-ht]
     generalize Ŏ (stK e)=S at *
     generalize Z1 Z6 Ũ K=EK at *
     generalize Z6 (stK e)=KS at *
     dsimp only
     generalize Ũ v=VV at *
     simp[je,hk,hv,hix,h,h']
    rw[e1]
    refine⟨[s0,.od true (Z1 Z6 Ũ K),.sh (.int e.1),.sh (.int e.2.1),.sh (Ŏ (stK e)),.sh (Ũ v)],?_⟩
    simp only[Z3,hx,if_neg h]
    rfl
theorem Z16(E:List En)(hl:E.length<=1000):Fi [.bw (E.map Ļ)]=.ret (.sh (match Z3 E [] with
 |some a=>yN a
 |none=>.non)):=by
 obtain⟨ρ',e⟩:=Zw (.bw (E.map Ļ)) E [] .no .no .no .no (by simp;omega)
 have e0:Z1 Z6 Ũ []=[]:=rfl
 rw[e0] at e
 cases hf:Z3 E [] with
 |some x=>
  rw[hf] at e
  dsimp only at e ⊢
  generalize E.map Ļ=EV at *
  simp[Fi,Fg,List.replicate,e]
 |none=>
  rw[hf] at e
  dsimp only at e ⊢
  generalize E.map Ļ=EV at *
  simp[Fi,Fg,List.replicate,e]
def uF(v:TT):PV:=.int v.2
def Z1w(s:Sn)(w:Int)(hw:0<=w/\w<=1000):yu [.sh (Ŏ s),.sh (.int w)]=.ret (.sh (.int (num w s))):=by
 have mb:Ő s.2 w=true:=mul_r (by omega) (by omega)
 simp[yu,Fj,List.replicate,Ŏ,num,mb]
def ZY{w h:Int}{K:mO}{e:En}(hK:∀x∈K,gD w h x.1)(he:gD w h (stK e)):∀x∈Z2 K e,gD w h x.1:=by
 intro x hx
 unfold Z2 at hx
 split at hx
 ·rcases List.mem_append.mp hx with hx|hx
  ·exact hK x hx
  ·rw[List.mem_singleton.mp hx];exact he
 ·exact hK x hx
def ZZ{K:mO}{e:En}(hK:(K.map (·.1)).Nodup):((Z2 K e).map (·.1)).Nodup:=by
 unfold Z2
 split
 ·rename_i hn
  rw[List.map_append,List.nodup_append]
  refine⟨hK,by simp,λa ha b hb z=>?_⟩
  have:b=stK e:=by simpa using hb
  exact ZO hn (by rw[<-this,<-z];exact ha)
 ·exact hK
def Z0j(K:mO)(e:En):(Z2 K e).length<=K.length+1:=by
 unfold Z2
 split<;>simp
theorem ZV{w h:Int}{T:List Th}{D:List Dy}(hw:0<=w/\w<=1000)(s1:P.Slot):∀(E:List En) (K:mO) (s3 s4 s5:P.Slot),K.length+E.length<=100000->(∀e∈E,gD w h (stK e))->(∀x∈K,gD w h x.1)->(K.map (·.1)).Nodup->Z3 E K=none->∃s3' Ae Gs,forL (gT 3 (Ć (gN 3) (Ć (gN 4) (Ć (gN 5) Į)))) qu (E.map Ļ) [.sh (Z0 w h T D),s1,.od false (Z1 (Zc w) uF K),s3,s4,s5]=.ok .nx [.sh (Z0 w h T D),s1,.od false (Z1 (Zc w) uF (E.foldl Z2 K)),s3',Ae,Gs]
 | [],K,s3,s4,s5,_,_,_,_,_=>⟨s3,s4,s5,rfl⟩
 |e::E,K,s3,s4,s5,hl,hE,hK,hN,hA=>by
  have he:=hE e List.mem_cons_self
  have hi:∀x∈K,Zc w x.1=Zc w (stK e)->x.1=stK e:=λx hx h=>Z15 (hK x hx) he h
  have hlen:(Z1 (Zc w) uF K).length<16777216:=by simp[Z1] at hl ⊢;omega
  have yw:=y_w w h T D
  have nu:=Z1w (stK e) w hw
  have hp:dput (Z1 (Zc w) uF K) (.inl (num w (stK e))) (.int e.2.1)=Z1 (Zc w) uF (Z2 K e)/\Z3 E (Z2 K e)=none:=by
   unfold Z2
   unfold Z3 at hA
   cases hx:dF K (stK e) with
   |none=>
    rw[hx] at hA
    exact⟨ZN (g:=uF) (v:=ŭ e) hi hx,hA⟩
   |some v=>
    rw[hx] at hA
    dsimp only at hA ⊢
    by_cases h:v.2=e.2.1
    ·rw[if_pos h] at hA
     exact⟨Z0h (g:=uF) hi hN hx (by unfold uF;rw[h]),hA⟩
    ·rw[if_neg h] at hA;cases hA
  obtain⟨a,b,c,ih⟩:=ZV (w:=w) (h:=h) (T:=T) (D:=D) hw s1 E (Z2 K e) (.sh (.int e.1)) (.sh (.int e.2.1)) (.sh (Ŏ (stK e))) (by have:=Z0j K e;simp at hl;omega) (λx hx=>hE x (List.mem_cons_of_mem _ hx)) (ZY hK he) (ZZ hN) hp.2
  refine⟨a,b,c,?_⟩
  rw[List.map_cons,forL]
  have g1:gT 3 (Ć (gN 3) (Ć (gN 4) (Ć (gN 5) Į))) (Ļ e) [.sh (Z0 w h T D),s1,.od false (Z1 (Zc w) uF K),s3,s4,s5]=some [.sh (Z0 w h T D),s1,.od false (Z1 (Zc w) uF K),.sh (.int e.1),.sh (.int e.2.1),.sh (Ŏ (stK e))]:=by simp[Ļ,Ŏ,stK]
  rw[g1]
  dsimp only
  have e1:qu [.sh (Z0 w h T D),s1,.od false (Z1 (Zc w) uF K),.sh (.int e.1),.sh (.int e.2.1),.sh (Ŏ (stK e))]=.ok .nx [.sh (Z0 w h T D),s1,.od false (Z1 (Zc w) uF (Z2 K e)),.sh (.int e.1),.sh (.int e.2.1),.sh (Ŏ (stK e))]:=by
   rw[<-hp.1]
   generalize Ŏ (stK e)=S at *
   generalize Z1 (Zc w) uF K=EK at *
   generalize Z0 w h T D=Yv at *
   generalize num w (stK e)=N at *
   simp[qu,yw,nu,hlen]
  rw[e1]
  exact ih
def Ze(w:Int)(K:mO):List (Int×Int):=K.map λx=>(num w x.1,(x.2.2:Int))
theorem Z0t(w:Int):∀K:mO,(∀x∈K,x.2.2<1000)->bJ (Z1 (Zc w) uF K)=some (Ze w K)
 | [],_=>rfl
 |x::K,h=>by
  have ih:=Z0t w K λy hy=>h y (List.mem_cons_of_mem _ hy)
  have h0:=h x List.mem_cons_self
  have hM:(1000:Int)<=MP:=by decide
  have hb:0<=(x.2.2:Int)/\(x.2.2:Int)<MP:=⟨by omega,by omega⟩
  show bJ ((.inl (num w x.1),.int x.2.2)::Z1 (Zc w) uF K)=_
  rw[bJ,if_pos hb,ih]
  rfl
theorem Z0u{w h:Int}:∀(E:List En) (K:mO),(∀e∈E,gD w h (stK e))->(∀x∈K,gD w h x.1)->∀x∈E.foldl Z2 K,gD w h x.1
 | [],K,_,h=>h
 |e::E,K,hE,h=>Z0u E (Z2 K e) (λx hx=>hE x (List.mem_cons_of_mem _ hx)) (ZY h (hE e List.mem_cons_self))
theorem Z0v:∀(E:List En) (K:mO),(K.map (·.1)).Nodup->((E.foldl Z2 K).map (·.1)).Nodup
 | [],K,h=>h
 |e::E,K,h=>Z0v E (Z2 K e) (ZZ h)
theorem Z00:∀(E:List En) (K:mO),(∀e∈E,e.2.1<1000)->(∀x∈K,x.2.2<1000)->∀x∈E.foldl Z2 K,x.2.2<1000
 | [],K,_,h=>h
 |e::E,K,hE,h=>Z00 E (Z2 K e) (λx hx=>hE x (List.mem_cons_of_mem _ hx)) (by
  intro x hx
  unfold Z2 at hx
  split at hx
  ·rcases List.mem_append.mp hx with hx|hx
   ·exact h x hx
   ·rw[List.mem_singleton.mp hx];exact hE e List.mem_cons_self
  ·exact h x hx)
def Z17{w h:Int}{T:List Th}{D:List Dy}(hw:0<=w/\w<=1000)(E:List En)(hl:E.length<=1000)(hE:∀e∈E,gD w h (stK e))(ht:∀e∈E,e.2.1<1000)(hA:Z3 E []=none):yx [.sh (Z0 w h T D),.bw (E.map Ļ)]=.ret (.ow ((bZ (Ze w (E.foldl Z2 []))).map tupP)):=by
 obtain⟨a,b,c,e⟩:=ZV (w:=w) (h:=h) (T:=T) (D:=D) hw (.bw (E.map Ļ)) E [] .no .no .no (by simp;omega) hE (by simp) (by simp) hA
 have e0:Z1 (Zc w) uF []=[]:=rfl
 have hp:=Z0t w (E.foldl Z2 []) (Z00 E [] ht (by simp))
 rw[e0] at e
 generalize E.map Ļ=EV at *
 generalize Z0 w h T D=Yv at *
 generalize Z1 (Zc w) uF (E.foldl Z2 [])=EK at *
 generalize Ze w (E.foldl Z2 [])=PK at *
 simp[yx,Fo,List.replicate,e,Uj,hp]
def Z0L{ps:List (Int×Int)}(hb:∀p∈ps,0<=p.2/\p.2<MP):(bZ ps).Perm ps:=by
 unfold bZ
 have h:=(g_ (ps.map lJ)).map Xn
 have e:(ps.map lJ).map Xn=ps:=by
  rw[List.map_map]
  conv=>rhs;rw[<-List.map_id ps]
  refine List.map_congr_left λp hp=>?_
  exact yc (hb p hp).1 (hb p hp).2
 rw[e] at h
 exact h
def Z1K{w:Int}{K:mO}(ht:∀x∈K,x.2.2<1000):∀p∈Ze w K,0<=p.2/\p.2<MP:=by
 intro p hp
 obtain⟨x,hx,rfl⟩:=List.mem_map.mp hp
 have:=ht x hx
 have hM:MP=4294967296:=rfl
 rw[hM]
 dsimp only
 omega
theorem Z01(q:P3)(d:Nat):∀(os:List (Option P3)) (t:Nat),∀e∈Z8 q d t os,e.2.1<t+os.length
 | [],t,e,h=>nomatch h
 |none::r,t,e,h=>by
  have:=Z01 q d r (t+1) e h
  simp;omega
 |some x::r,t,e,h=>by
  rcases List.mem_cons.mp h with rfl|h
  ·simp
  ·have:=Z01 q d r (t+1) e h
   simp;omega
theorem Z02(q:P3):∀(D:List Dy) (d:Nat),(∀x∈D,uE x)->∀e∈Z9 q d D,e.2.1<1000
 | [],d,_,e,h=>nomatch h
 |x::D,d,hD,e,h=>by
  rcases List.mem_append.mp h with h|h
  ·have:=Z01 q d x.2.2 0 e h
   have:=(hD x List.mem_cons_self).1
   omega
  ·exact Z02 q D (d+1) (λy hy=>hD y (List.mem_cons_of_mem _ hy)) e h
def ZD(w h:Int)(E:List En):PV:=match E.find? (Zd w h) with
 |some e=>Zr e
 |none=>match Z3 E [] with
  |some a=>yN a
  |none=>.tup [.str "marks",.lst ((bZ (Ze w (E.foldl Z2 []))).map tupP)]
def Z1m{w h:Int}{T:List Th}{D:List Dy}(hw:0<=w/\w<=1000)(q:P3)(hD:∀x∈D,uE x)(hl:D.length<=12):jf [.sh (Z0 w h T D),.sh (c3 q)]=.ret (.sh (ZD w h (Z9 q 0 D))):=by
 have h1:=Z1u (w:=w) (h:=h) (T:=T) q hD hl
 have hel:(Z9 q 0 D).length<=1000:=by have:=ZL q D 0 hD;omega
 have h2:=Z1v (w:=w) (h:=h) (T:=T) (D:=D) (Z9 q 0 D)
 have h3:=Z16 (Z9 q 0 D) hel
 have h4:=Z02 q D 0 hD
 have h5:=Z17 (w:=w) (h:=h) (T:=T) (D:=D) hw (Z9 q 0 D) hel
 unfold ZD
 generalize Z9 q 0 D=E at *
 have hnn:Ai .non=true:=rfl
 cases hf:E.find? (Zd w h) with
 |some e=>
  rw[hf] at h2
  dsimp only at h2 ⊢
  have hn:Ai (Zr e)=false:=rfl
  generalize Zr e=O at *
  generalize E.map Ļ=EV at *
  generalize Z0 w h T D=Yv at *
  generalize c3 q=Q at *
  simp[jf,qw,List.replicate,h1,h2,hn]
 |none=>
  rw[hf] at h2
  have hon:∀e∈E,gD w h (stK e):=by
   intro e he
   have:=List.find?_eq_none.mp hf e he
   simpa[Zd] using this
  cases ha:Z3 E [] with
  |some a=>
   rw[ha] at h3
   dsimp only at h2 h3 ⊢
   have hn:Ai (yN a)=false:=rfl
   generalize yN a=O at *
   generalize E.map Ļ=EV at *
   generalize Z0 w h T D=Yv at *
   generalize c3 q=Q at *
   simp[jf,qw,List.replicate,h1,h2,h3,hn,hnn]
  |none=>
   rw[ha] at h3
   have h6:=h5 hon h4 ha
   dsimp only at h2 h3 ⊢
   generalize (bZ (Ze w (E.foldl Z2 []))).map tupP=MM at *
   generalize E.map Ļ=EV at *
   generalize Z0 w h T D=Yv at *
   generalize c3 q=Q at *
   simp[jf,qw,List.replicate,h1,h2,h3,h6,hnn]
def yO(a b:TT):Prop:=a.1<b.1\/(a.1=b.1/\a.2<b.2)
def Z0w(a:TT):¬yO a a:=by unfold yO;omega
theorem Zu(q:P3)(d:Nat):∀(os:List (Option P3)) (t:Nat),∀e∈Z8 q d t os,e.1=d/\t<=e.2.1
 | [],t,e,h=>nomatch h
 |none::r,t,e,h=>by
  have:=Zu q d r (t+1) e h
  exact⟨this.1,by omega⟩
 |some x::r,t,e,h=>by
  rcases List.mem_cons.mp h with rfl|h
  ·exact⟨rfl,Nat.le_refl _⟩
  ·have:=Zu q d r (t+1) e h
   exact⟨this.1,by omega⟩
theorem Z03(q:P3)(d:Nat):∀(os:List (Option P3)) (t:Nat),(Z8 q d t os).Pairwise λa b=>yO (ŭ a) (ŭ b)
 | [],t=>.nil
 |none::r,t=>Z03 q d r (t+1)
 |some x::r,t=>by
  refine List.Pairwise.cons (λe he=>?_) (Z03 q d r (t+1))
  have:=Zu q d r (t+1) e he
  unfold yO ŭ
  dsimp only
  omega
theorem Z0x(q:P3):∀(D:List Dy) (d:Nat),∀e∈Z9 q d D,d<=e.1
 | [],d,e,h=>nomatch h
 |x::D,d,e,h=>by
  rcases List.mem_append.mp h with h|h
  ·have:=Zu q d x.2.2 0 e h
   omega
  ·have:=Z0x q D (d+1) e h
   omega
theorem Z04(q:P3):∀(D:List Dy) (d:Nat),(Z9 q d D).Pairwise λa b=>yO (ŭ a) (ŭ b)
 | [],d=>.nil
 |x::D,d=>by
  refine List.pairwise_append.mpr ⟨Z03 q d x.2.2 0,Z04 q D (d+1),λa ha b hb=>?_⟩
  have h1:=Zu q d x.2.2 0 a ha
  have h2:=Z0x q D (d+1) b hb
  unfold yO ŭ
  dsimp only
  omega
theorem Zx{e:En}:∀{E:List En},(E.Pairwise λa b=>yO (ŭ a) (ŭ b))->e∈E->E.filter (λx=>decide (ŭ x=ŭ e))=[e]
 | [],_,h=>nomatch h
 |x::E,hp,h=>by
  cases hp with
  |cons h1 h2=>
   rcases List.mem_cons.mp h with rfl|h
   ·rw[List.filter_cons,if_pos (by simp)]
    have:E.filter (λx=>decide (ŭ x=ŭ e))=[]:=by
     refine List.filter_eq_nil_iff.mpr λy hy=>?_
     have:=h1 y hy
     simp only[decide_eq_true_eq]
     intro z
     rw[z] at this
     exact Z0w _ this
    rw[this]
   ·have hne:¬ŭ x=ŭ e:=fun z=>by
     have:=h1 e h
     rw[z] at this
     exact Z0w _ this
    rw[List.filter_cons,if_neg (by simpa using hne)]
    exact Zx h2 h
theorem Zy(G:Sn×TT->Prop){v u:TT}:∀(E:List En) (K:mO),(E.Pairwise λa b=>yO (ŭ a) (ŭ b))->(∀x∈K,G x/\∀e∈E,yO x.2 (ŭ e))->(∀e∈E,G (stK e,ŭ e))->Z3 E K=some (v,u)->∃s,G (s,v)/\G (s,u)/\v.2≠u.2/\yO v u
 | [],K,_,_,_,h=>nomatch h
 |e::E,K,hp,hK,hE,h=>by
  cases hp with
  |cons h1 h2=>
   unfold Z3 at h
   cases hx:dF K (stK e) with
   |none=>
    rw[hx] at h
    refine Zy G E _ h2 (λx hx'=>?_) (λy hy=>hE y (List.mem_cons_of_mem _ hy)) h
    rcases List.mem_append.mp hx' with hx'|hx'
    ·exact⟨(hK x hx').1,λy hy=>(hK x hx').2 y (List.mem_cons_of_mem _ hy)⟩
    ·rw[List.mem_singleton.mp hx']
     exact⟨hE e List.mem_cons_self,λy hy=>h1 y hy⟩
   |some w=>
    rw[hx] at h
    dsimp only at h
    by_cases hc:w.2=e.2.1
    ·rw[if_pos hc] at h
     exact Zy G E K h2 (λx hx'=>⟨(hK x hx').1,λy hy=>(hK x hx').2 y (List.mem_cons_of_mem _ hy)⟩) (λy hy=>hE y (List.mem_cons_of_mem _ hy)) h
    ·rw[if_neg hc] at h
     cases h
     have hm:=Z0s hx
     exact⟨stK e,(hK _ hm).1,hE e List.mem_cons_self,hc,(hK _ hm).2 e List.mem_cons_self⟩
def Z1n(p:Int×Int):eqB (tupP p) (tupP p)=true:=by
 unfold tupP
 rw[eqB.eq_def]
 show aV [.int p.1,.int p.2] [.int p.1,.int p.2]=true
 simp[aV,eqB]
theorem Z0b:∀R:List (Int×Int),aV (R.map tupP) (R.map tupP)=true
 | []=>by unfold aV;rfl
 |p::R=>by
  rw[List.map_cons,aV,Z1n p,Z0b R]
  rfl
def Z0y(R:List (Int×Int)):eqB (.lst (R.map tupP)) (.lst (R.map tupP))=true:=by
 rw[eqB.eq_def]
 exact Z0b R
def Z0M{p:PV}(he:eqB p p=true)(h:Š p=true)(hd:dep p<=60):į p p=some (.bl true):=by
 unfold į nA
 rw[h,he,if_pos (by simp;exact hd)]
def ZE{p:PV}(he:eqB p p=true)(h:Š p=true)(hd:dep p<=60):aN p p=some (.bl false):=by
 unfold aN nA
 rw[h,he,if_pos (by simp;exact hd)]
 rfl
theorem ZP:∀R:List (Int×Int),bW (R.map tupP)=true
 | []=>rfl
 |p::R=>by
  rw[List.map_cons,bW,ZP R]
  simp[tupP,Š,bW]
theorem ZQ:∀R:List (Int×Int),fV (R.map tupP)<=1
 | []=>by simp[fV]
 |p::R=>by
  have:=ZQ R
  rw[List.map_cons,fV]
  have h2:dep (tupP p)=1:=by simp[tupP,dep,fV]
  omega
def Z0N(a b:TT):į (Ũ a) (Ũ b)=some (.bl (decide (a=b))):=by
 obtain⟨a1,a2⟩:=a
 obtain⟨b1,b2⟩:=b
 have h:eqB (Ũ (a1,a2)) (Ũ (b1,b2))=decide ((a1,a2)=(b1,b2)):=by
  unfold Ũ
  rw[eqB.eq_def]
  show aV [.int a1,.int a2] [.int b1,.int b2]=_
  simp[aV,eqB]
  by_cases h1:a1=b1
  ·by_cases h2:a2=b2
   ·simp[h1,h2]
   ·have:¬(a2:Int)=b2:=λz=>h2 (by omega)
    simp[h1,h2,this]
  ·have:¬(a1:Int)=b1:=λz=>h1 (by omega)
   simp[h1,this]
 unfold į nA
 rw[h]
 simp[Ũ,Š,bW,dep,fV]
def Z1x{a b:TT}(h:yO a b):xu (Ũ a) (Ũ b)=some (.bl true):=by
 obtain⟨a1,a2⟩:=a
 obtain⟨b1,b2⟩:=b
 show some (PV.bl (HT.lexLt [(a1:Int),(a2:Int)] [(b1:Int),(b2:Int)]))=_
 have:HT.lexLt [(a1:Int),(a2:Int)] [(b1:Int),(b2:Int)]=true:=by
  unfold yO at h
  dsimp only at h
  rcases h with h|⟨h1,h2⟩
  ·have e1:(a1:Int)<b1:=by omega
   have e2:¬(a1:Int)=b1:=by omega
   simp[HT.lexLt,e1,e2]
  ·have e1:(a2:Int)<b2:=by omega
   have e2:¬(a2:Int)=b2:=by omega
   simp[HT.lexLt,h1,e1,e2]
 rw[this]
def Z0O(R:List (Int×Int)):į (.lst (R.map tupP)) (.lst (R.map tupP))=some (.bl true):=by
 refine Z0M (Z0y R) (by unfold Š;exact ZP R) ?_
 have:=ZQ R
 unfold dep
 omega
def Z1L(R:List (Int×Int)):aN (.tup [.str "marks",.lst (R.map tupP)]) (.tup [.str "marks",.lst (R.map tupP)])=some (.bl false):=by
 have hd:=ZQ R
 have hk:=ZP R
 have hb:=Z0y R
 have hl:Š (.lst (R.map tupP))=true:=by unfold Š;exact hk
 have hs:PyData.strOk (Str.ofString "marks")=true:=by decide +kernel
 generalize R.map tupP=L at *
 refine ZE ?_ ?_ ?_
 ·rw[eqB.eq_def]
  show aV [.str "marks",.lst L] [.str "marks",.lst L]=true
  rw[aV,aV,aV,hb]
  simp[eqB]
 ·rw[Š,bW,bW,bW,hl,Š,hs]
  rfl
 ·rw[dep,fV,fV,fV,dep,dep]
  ·omega
  ·intro xs h;cases h
  ·intro xs h;cases h
def Z1M(s:Sn):į (.lst [Ŏ s]) (.lst [Ŏ s])=some (.bl true):=Z0O [s]
def Z0P{w h:Int}(s:Sn):cQ [.sh (Ŏ s),.sh (.tup [.int w,.int h])]=.ret (.sh (.bl (decide (gD w h s)))):=by
 obtain⟨a,b⟩:=s
 unfold gD
 dsimp only
 by_cases h1:0<=a
 ·by_cases h2:a<w
  ·by_cases h3:0<=b
   ·by_cases h4:b<h
    ·simp[cQ,iB,List.replicate,Ŏ,h1,h2,h3,h4]
    ·simp[cQ,iB,List.replicate,Ŏ,h1,h2,h3,h4]
   ·simp[cQ,iB,List.replicate,Ŏ,h1,h2,h3]
  ·simp[cQ,iB,List.replicate,Ŏ,h1,h2]
 ·simp[cQ,iB,List.replicate,Ŏ,h1]
theorem ZR{D:List Dy}{s0:P.Slot}(hs:Sl s0 (D.map ŗ))(q:P3){d:Nat}{x:Dy}(hx:D[d]?=some x):∀(r:List (Option P3)) (t:Nat) (acc:List En) (s4:P.Slot),x.2.2.drop t=r->(∀o∈r,OG o)->acc.length+r.length<=10000->∃Ae,forL (gN 4) cR ((List.range' t r.length).map λ(i:Nat)=>PV.int (i:Int)) [s0,.sh (c3 q),.ow (acc.map Ļ),.sh (.int d),s4]=.ok .nx [s0,.sh (c3 q),.ow ((acc++Z8 q d t r).map Ļ),.sh (.int d),Ae]
 | [],t,acc,s4,_,_,_=>⟨s4,by simp[forL,Z8]⟩
 |o::r,t,acc,s4,hr,ho,hl=>by
  have hx2:x.2.2[t]?=some o:=by
   have:=congrArg (λl=>l[0]?) hr
   simpa using this
  have hr':x.2.2.drop (t+1)=r:=by
   have:=congrArg List.tail hr
   simpa using this
  have ho':∀o∈r,OG o:=λy hy=>ho y (List.mem_cons_of_mem _ hy)
  have hla:(acc.map Ļ).length<16777216:=by simp at hl ⊢;omega
  have h1:(D.map ŗ)[d]?=some (ŗ x):=by simp[hx]
  have h2:(x.2.2.map eG)[t]?=some (eG o):=by simp[hx2]
  have h3:Ē (ŗ x) (.int 2)=some (.lst (x.2.2.map eG)):=rfl
  rw[List.length_cons,List.range'_succ,List.map_cons,forL]
  have g1:gN 4 (.int (t:Int)) [s0,.sh (c3 q),.ow (acc.map Ļ),.sh (.int d),s4]=some [s0,.sh (c3 q),.ow (acc.map Ļ),.sh (.int d),.sh (.int t)]:=rfl
  rw[g1]
  dsimp only
  cases o with
  |none=>
   obtain⟨b,e⟩:=ZR hs q hx r (t+1) acc (.sh (.int t)) hr' ho' (by simp at hl;omega)
   have e1:cR [s0,.sh (c3 q),.ow (acc.map Ļ),.sh (.int d),.sh (.int t)]=.ok .nx [s0,.sh (c3 q),.ow (acc.map Ļ),.sh (.int d),.sh (.int t)]:=by
    have hn:Ai (eG none)=true:=rfl
    generalize eG none=C at *
    generalize acc.map Ļ=AC at *
    generalize c3 q=Q at *
    generalize x.2.2.map eG=OS at *
    generalize ŗ x=X at *
    generalize D.map ŗ=DV at *
    rcases hs with rfl|rfl
    ·simp[cR,h1,h2,h3,hn]
    ·simp[cR,h1,h2,h3,hn]
   rw[e1]
   exact⟨b,e⟩
  |some y=>
   obtain⟨b,e⟩:=ZR hs q hx r (t+1) (acc ++ [(d,t,ZB q y)]) (.sh (.int t)) hr' ho' (by simp at hl ⊢;omega)
   have he:=Z0K q (ho _ List.mem_cons_self y rfl)
   have e1:cR [s0,.sh (c3 q),.ow (acc.map Ļ),.sh (.int d),.sh (.int t)]=.ok .nx [s0,.sh (c3 q),.ow ((acc ++ [(d,t,ZB q y)]).map Ļ),.sh (.int d),.sh (.int t)]:=by
    rw[List.map_append]
    have hn:Ai (c3 y)=false:=rfl
    have h2:(x.2.2.map eG)[t]?=some (c3 y):=h2
    generalize c3 y=C at *
    generalize acc.map Ļ=AC at *
    generalize c3 q=Q at *
    generalize x.2.2.map eG=OS at *
    generalize ŗ x=X at *
    generalize D.map ŗ=DV at *
    rcases hs with rfl|rfl
    ·simp[cR,h1,h2,h3,hn,he,hla,Ļ]
    ·simp[cR,h1,h2,h3,hn,he,hla,Ļ]
   rw[e1]
   rw[List.append_assoc] at e
   exact⟨b,e⟩
theorem Z0k{D:List Dy}{s0:P.Slot}(hs:Sl s0 (D.map ŗ))(q:P3)(hD:∀x∈D,uE x):∀(r:List Dy) (d:Nat) (acc:List En) (s3 s4:P.Slot),D.drop d=r->acc.length+r.length*24<=10000->∃s3' Ae,forL (gN 3) lW ((List.range' d r.length).map λ(i:Nat)=>PV.int (i:Int)) [s0,.sh (c3 q),.ow (acc.map Ļ),s3,s4]=.ok .nx [s0,.sh (c3 q),.ow ((acc++Z9 q d r).map Ļ),s3',Ae]
 | [],d,acc,s3,s4,_,_=>⟨s3,s4,by simp[forL,Z9]⟩
 |x::r,d,acc,s3,s4,hr,hl=>by
  have hx:D[d]?=some x:=by
   have:=congrArg (λl=>l[0]?) hr
   simpa using this
  have hr':D.drop (d+1)=r:=by
   have:=congrArg List.tail hr
   simpa using this
  have hk:=hD x (List.mem_of_getElem? hx)
  have hk1:=hk.1
  have hz:=Zq q d x.2.2 0
  have rr:=ZW (n:=x.2.2.length) (by omega)
  have h1:(D.map ŗ)[d]?=some (ŗ x):=by simp[hx]
  have h3:Ē (ŗ x) (.int 2)=some (.lst (x.2.2.map eG)):=rfl
  have h4:(x.2.2.map eG).length=x.2.2.length:=by simp
  obtain⟨a,e1⟩:=ZR hs q hx x.2.2 0 acc s4 rfl hk.2 (by simp at hl;omega)
  obtain⟨a3,a4,e2⟩:=Z0k hs q hD r (d+1) (acc++Z8 q d 0 x.2.2) (.sh (.int d)) a hr' (by simp at hl ⊢;omega)
  rw[<-List.range_eq_range'] at e1
  refine⟨a3,a4,?_⟩
  rw[List.append_assoc] at e2
  rw[List.length_cons,List.range'_succ,List.map_cons,forL]
  have g1:gN 3 (.int (d:Int)) [s0,.sh (c3 q),.ow (acc.map Ļ),s3,s4]=some [s0,.sh (c3 q),.ow (acc.map Ļ),.sh (.int d),s4]:=rfl
  rw[g1]
  dsimp only
  have e3:lW [s0,.sh (c3 q),.ow (acc.map Ļ),.sh (.int d),s4]=.ok .nx [s0,.sh (c3 q),.ow ((acc++Z8 q d 0 x.2.2).map Ļ),.sh (.int d),a]:=by
   generalize (acc++Z8 q d 0 x.2.2).map Ļ=AE at *
   generalize acc.map Ļ=AC at *
   generalize c3 q=Q at *
   generalize (List.range x.2.2.length).map (λ(i:Nat)=>PV.int (i:Int))=RR at *
   generalize x.2.2.map eG=OS at *
   generalize ŗ x=X at *
   generalize D.map ŗ=DV at *
   rcases hs with rfl|rfl
   ·simp[lW,h1,h3,h4,rr,e1]
   ·simp[lW,h1,h3,h4,rr,e1]
  rw[e3]
  exact e2
def Z0l{D:List Dy}(q:P3)(hD:∀x∈D,uE x)(hl:D.length<=12):lX [.sh (.lst (D.map ŗ)),.sh (c3 q)]=.ret (.ow ((Z9 q 0 D).map Ļ)):=by
 obtain⟨a,b,e⟩:=Z0k (s0:=.sh (.lst (D.map ŗ))) (.inl rfl) q hD D 0 [] .no .no rfl (by simp;omega)
 have rr:=ZW (n:=D.length) (by omega)
 have hl:(D.map ŗ).length=D.length:=by simp
 rw[List.nil_append,List.map_nil,<-List.range_eq_range'] at e
 generalize (Z9 q 0 D).map Ļ=Q at *
 generalize (List.range D.length).map (λ(i:Nat)=>PV.int (i:Int))=RR at *
 generalize D.map ŗ=DV at *
 generalize c3 q=QQ at *
 simp[lX,Fv,List.replicate,hl,rr,e]
theorem Z0z(s0:P.Slot)(n:Int):∀(R:List (Int×Int)) (s2 s3:P.Slot),∃ρ',forL (gT 2 (Ć (gN 2) (Ć (gN 3) Į))) iC (R.map tupP) [s0,.sh (.int n),s2,s3]=(match R.find? (λp=>decide (p.1=n)) with
 |some p=>.ok (.rt (.sh (.int p.2))) ρ'
 |none=>.ok .nx ρ')
 | [],s2,s3=>⟨_,rfl⟩
 |p::R,s2,s3=>by
  rw[List.map_cons,forL]
  have g1:gT 2 (Ć (gN 2) (Ć (gN 3) Į)) (tupP p) [s0,.sh (.int n),s2,s3]=some [s0,.sh (.int n),.sh (.int p.1),.sh (.int p.2)]:=by simp[tupP]
  rw[g1]
  dsimp only
  by_cases h:p.1=n
  ·have e1:iC [s0,.sh (.int n),.sh (.int p.1),.sh (.int p.2)]=.ok (.rt (.sh (.int p.2))) [s0,.sh (.int n),.sh (.int p.1),.sh (.int p.2)]:=by
    simp[iC,h]
   rw[e1,List.find?_cons,decide_eq_true h]
   exact⟨_,rfl⟩
  ·have e1:iC [s0,.sh (.int n),.sh (.int p.1),.sh (.int p.2)]=.ok .nx [s0,.sh (.int n),.sh (.int p.1),.sh (.int p.2)]:=by
    simp[iC,h]
   rw[e1,List.find?_cons,decide_eq_false h]
   exact Z0z s0 n R _ _
def Z1N{R:List (Int×Int)}{n:Int}{p:Int×Int}(hf:R.find? (λp=>decide (p.1=n))=some p):yC [.sh (.lst (R.map tupP)),.sh (.int n)]=.ret (.sh (.int p.2)):=by
 obtain⟨ρ',e⟩:=Z0z (.sh (.lst (R.map tupP))) n R .no .no
 rw[hf] at e
 dsimp only at e
 generalize R.map tupP=L at *
 simp[yC,Fq,List.replicate,e]
theorem Z0A{p:Int×Int}:∀{R:List (Int×Int)},(R.map (·.1)).Nodup->p∈R->R.find? (λx=>decide (x.1=p.1))=some p
 | [],_,h=>nomatch h
 |x::R,hn,h=>by
  rw[List.map_cons,List.nodup_cons] at hn
  rcases List.mem_cons.mp h with rfl|h
  ·rw[List.find?_cons,decide_eq_true rfl]
  ·have:¬x.1=p.1:=λz=>hn.1 (by rw[z];exact List.mem_map.mpr ⟨p,h,rfl⟩)
   rw[List.find?_cons,decide_eq_false this]
   exact Z0A hn.2 h
def Za(p:Int×Int):DK:=.inr [p.1,p.2]
def Z18{p q:Int×Int}(h:Za p=Za q):p=q:=by
 unfold Za at h
 injection h with h
 injection h with h1 h2
 injection h2 with h2
 exact Prod.ext h1 h2
def Zj(_:Unit):PV:=.bl true
def Zb(w:Int)(K:mO):List ((Int×Int)×Unit):=(Ze w K).map λp=>(p,())
theorem Z05{w h:Int}:∀{K:mO},(K.map (·.1)).Nodup->(∀x∈K,gD w h x.1)->((Ze w K).map (·.1)).Nodup
 | [],_,_=>by simp[Ze]
 |x::K,hn,hK=>by
  rw[List.map_cons,List.nodup_cons] at hn
  show(num w x.1::(Ze w K).map (·.1)).Nodup
  rw[List.nodup_cons]
  refine⟨λhm=>?_,Z05 hn.2 λy hy=>hK y (List.mem_cons_of_mem _ hy)⟩
  obtain⟨p,hp,e1⟩:=List.mem_map.mp hm
  obtain⟨y,hy,rfl⟩:=List.mem_map.mp hp
  have:=ZG (hK y (List.mem_cons_of_mem _ hy)) (hK x List.mem_cons_self) e1
  exact hn.1 (by rw[<-this];exact List.mem_map.mpr ⟨y,hy,rfl⟩)
theorem Z0m(w:Int)(s:Sn)(t:Nat):∀K:mO,(∀x∈K,((num w x.1,(x.2.2:Int))=(num w s,(t:Int))↔x.1=s))->dF (Zb w K) (num w s,(t:Int))=(dF K s).map λ_=>()
 | [],_=>rfl
 |x::K,h=>by
  have ih:=Z0m w s t K λy hy=>h y (List.mem_cons_of_mem _ hy)
  have h0:=h x List.mem_cons_self
  show dF (((num w x.1,(x.2.2:Int)),())::Zb w K) _=_
  by_cases e:x.1=s
  ·rw[Zm e,Zm (p:=((num w x.1,(x.2.2:Int)),())) (h0.mpr e)];rfl
  ·rw[Zo e,Zo (p:=((num w x.1,(x.2.2:Int)),())) (λz=>e (h0.mp z)),ih]
def Z1o{w h:Int}{K:mO}{e:En}(he:gD w h (stK e))(hK:∀x∈K,gD w h x.1)(hN:(K.map (·.1)).Nodup)(hv:∀v,dF K (stK e)=some v->v.2=e.2.1) :
 dput (Z1 Za Zj (Zb w K)) (.inr [num w (stK e),(e.2.1:Int)]) (.bl true)=Z1 Za Zj (Zb w (Z2 K e)):=by
 have hi:∀x∈Zb w K,Za x.1=Za (num w (stK e),(e.2.1:Int))->x.1=(num w (stK e),(e.2.1:Int)):=λ_ _ z=>Z18 z
 unfold Z2
 cases hx:dF K (stK e) with
 |none=>
  have hl:=Z0m w (stK e) e.2.1 K λx hx'=>⟨λz=>ZG (hK x hx') he (by injection z),λz=>absurd (List.mem_map.mpr ⟨x,hx',z⟩) (ZO hx)⟩
  rw[hx] at hl
  have:=ZN (f:=Za) (g:=Zj) (v:=()) hi hl
  refine this.trans ?_
  unfold Zb Ze
  rw[List.map_append,List.map_append]
  rfl
 |some v=>
  have hl:=Z0m w (stK e) e.2.1 K λx hx'=>⟨λz=>ZG (hK x hx') he (by injection z),λz=>by
   have h1:=ZX hN hx x hx' z
   rw[z,h1,hv v hx]⟩
  rw[hx] at hl
  have hn2:((Zb w K).map (·.1)).Nodup:=by
   have h1:=Z05 (w:=w) hN hK
   unfold Zb
   rw[List.map_map]
   have:((λx=>x.1) ∘ λp:Int×Int=>(p,()))=id:=rfl
   rw[this,List.map_id]
   exact List.Pairwise.of_map _ (λa b z y=>z (by rw[y])) h1
  exact Z0h (f:=Za) (g:=Zj) (v:=()) hi hn2 hl rfl
def Z1y{α β:Type}[DecidableEq α]{K L:List (α×β)}{a:α}{v:β}(h:dF K a=some v):dF (K++L) a=some v:=by
 induction K with
 |nil=>cases h
 |cons p K ih=>
  rw[List.cons_append]
  by_cases e:p.1=a
  ·rw[Zm e] at h ⊢;exact h
  ·rw[Zo e] at h ⊢;exact ih h
def Z1z{α β:Type}[DecidableEq α]{K:List (α×β)}{a:α}{v:β}(h:dF K a=none):dF (K ++ [(a,v)]) a=some v:=by
 induction K with
 |nil=>exact Zm rfl
 |cons p K ih=>
  rw[List.cons_append]
  by_cases e:p.1=a
  ·rw[Zm e] at h;cases h
  ·rw[Zo e] at h ⊢;exact ih h
theorem ZF{s:Sn}{v:TT}:∀(E:List En) (K:mO),dF K s=some v->dF (E.foldl Z2 K) s=some v
 | [],K,h=>h
 |e::E,K,h=>by
  refine ZF E (Z2 K e) ?_
  unfold Z2
  split
  ·exact Z1y h
  ·exact h
theorem ZS:∀(E:List En) (K:mO),Z3 E K=none->∀e∈E,∃v,dF (E.foldl Z2 K) (stK e)=some v/\v.2=e.2.1
 | [],K,_,e,h=>nomatch h
 |x::E,K,hA,e,h=>by
  unfold Z3 at hA
  show ∃v,dF (E.foldl Z2 (Z2 K x)) (stK e)=some v/\v.2=e.2.1
  cases hx:dF K (stK x) with
  |none=>
   rw[hx] at hA
   have hp:Z2 K x=K ++ [(stK x,ŭ x)]:=by unfold Z2;rw[hx]
   rcases List.mem_cons.mp h with rfl|h
   ·refine⟨ŭ e,ZF E _ ?_,rfl⟩
    rw[hp]
    exact Z1z hx
   ·rw[hp]
    exact ZS E _ hA e h
  |some v=>
   rw[hx] at hA
   dsimp only at hA
   have hp:Z2 K x=K:=by unfold Z2;rw[hx]
   by_cases hc:v.2=x.2.1
   ·rw[if_pos hc] at hA
    rcases List.mem_cons.mp h with rfl|h
    ·refine⟨v,ZF E _ ?_,hc⟩
     rw[hp]
     exact hx
    ·rw[hp]
     exact ZS E _ hA e h
   ·rw[if_neg hc] at hA;cases hA
theorem Z0B{w h:Int}(hw:0<=w/\w<=1000)(R:List (Int×Int))(s1:P.Slot):∀(E:List En) (K:mO) (s4 s5 s6 s7:P.Slot),K.length+E.length<=10000->(∀e∈E,gD w h (stK e))->(∀e∈E,R.find? (λp=>decide (p.1=num w (stK e)))=some (num w (stK e),(e.2.1:Int)))->(∀x∈K,gD w h x.1)->(K.map (·.1)).Nodup->Z3 E K=none->∃Ae Gs Ua TQ,forL (gT 3 (Ć (gN 4) (Ć (gN 5) (Ć (gN 6) Į)))) qy (E.map Ļ) [.sh (.lst (R.map tupP)),s1,.sh (.tup [.int w,.int h]),.od true (Z1 Za Zj (Zb w K)),s4,s5,s6,s7]=.ok .nx [.sh (.lst (R.map tupP)),s1,.sh (.tup [.int w,.int h]),.od true (Z1 Za Zj (Zb w (E.foldl Z2 K))),Ae,Gs,Ua,TQ]
 | [],K,s4,s5,s6,s7,_,_,_,_,_,_=>⟨s4,s5,s6,s7,rfl⟩
 |e::E,K,s4,s5,s6,s7,hl,hE,hR,hK,hN,hA=>by
  have he:=hE e List.mem_cons_self
  have h1:=Z0P (w:=w) (h:=h) (stK e)
  rw[decide_eq_true he] at h1
  have h2:=Z1N (hR e List.mem_cons_self)
  have hlen:(Z1 Za Zj (Zb w K)).length<16777216:=by simp[Z1,Zb,Ze] at hl ⊢;omega
  have hA':Z3 E (Z2 K e)=none/\∀v,dF K (stK e)=some v->v.2=e.2.1:=by
   unfold Z3 at hA
   unfold Z2
   cases hx:dF K (stK e) with
   |none=>rw[hx] at hA;exact⟨hA,λv z=>nomatch z⟩
   |some v=>
    rw[hx] at hA
    dsimp only at hA ⊢
    by_cases hc:v.2=e.2.1
    ·rw[if_pos hc] at hA
     exact⟨hA,λv' z=>by cases z;exact hc⟩
    ·rw[if_neg hc] at hA;cases hA
  have hp:=Z1o he hK hN hA'.2
  obtain⟨a4,a5,a6,a7,ih⟩:=Z0B hw R s1 E (Z2 K e) (.sh (.int e.1)) (.sh (.int e.2.1)) (.sh (Ŏ (stK e))) (.sh (.int (num w (stK e)))) (by have:=Z0j K e;simp at hl;omega) (λx hx=>hE x (List.mem_cons_of_mem _ hx)) (λx hx=>hR x (List.mem_cons_of_mem _ hx)) (ZY hK he) (ZZ hN) hA'.1
  refine⟨a4,a5,a6,a7,?_⟩
  rw[List.map_cons,forL]
  have g1:gT 3 (Ć (gN 4) (Ć (gN 5) (Ć (gN 6) Į))) (Ļ e) [.sh (.lst (R.map tupP)),s1,.sh (.tup [.int w,.int h]),.od true (Z1 Za Zj (Zb w K)),s4,s5,s6,s7]=some [.sh (.lst (R.map tupP)),s1,.sh (.tup [.int w,.int h]),.od true (Z1 Za Zj (Zb w K)),.sh (.int e.1),.sh (.int e.2.1),.sh (Ŏ (stK e)),s7]:=by simp[Ļ,Ŏ,stK]
  rw[g1]
  dsimp only
  have e1:qy [.sh (.lst (R.map tupP)),s1,.sh (.tup [.int w,.int h]),.od true (Z1 Za Zj (Zb w K)),.sh (.int e.1),.sh (.int e.2.1),.sh (Ŏ (stK e)),s7]=.ok .nx [.sh (.lst (R.map tupP)),s1,.sh (.tup [.int w,.int h]),.od true (Z1 Za Zj (Zb w (Z2 K e))),.sh (.int e.1),.sh (.int e.2.1),.sh (Ŏ (stK e)),.sh (.int (num w (stK e)))]:=by
   rw[<-hp]
   have i0:Ē (Ŏ (stK e)) (.int 0)=some (.int (stK e).1):=rfl
   have i1:Ē (Ŏ (stK e)) (.int 1)=some (.int (stK e).2):=rfl
   have mb:Ő (stK e).2 w=true:=mul_r (by omega) (by omega)
   have hnum:(stK e).2*w+(stK e).1=num w (stK e):=rfl
   have hk:∀a b:Int,nC true (.tup [.int a,.int b])=some (.inr [a,b]):=λ_ _=>rfl
   generalize Ŏ (stK e)=S at *
   generalize Z1 Za Zj (Zb w K)=EK at *
   generalize R.map tupP=RL at *
   generalize num w (stK e)=N at *
   simp[qy,h1,h2,i0,i1,mb,hnum,hlen,hk]
  rw[e1]
  exact ih
theorem Z0Q(w:Int):∀K:mO,(∀x∈K,x.2.2<1000)->bK (Z1 Za Zj (Zb w K))=some (Ze w K)
 | [],_=>rfl
 |x::K,h=>by
  have ih:=Z0Q w K λy hy=>h y (List.mem_cons_of_mem _ hy)
  have h0:=h x List.mem_cons_self
  have hM:(1000:Int)<=MP:=by decide
  have hb:0<=(x.2.2:Int)/\(x.2.2:Int)<MP:=⟨by omega,by omega⟩
  show bK ((.inr [num w x.1,(x.2.2:Int)],.bl true)::Z1 Za Zj (Zb w K))=_
  rw[bK,if_pos hb,ih]
  rfl
def Z0R{w h:Int}(hw:0<=w/\w<=1000){E:List En}(hl:E.length<=1000)(hE:∀e∈E,gD w h (stK e))(ht:∀e∈E,e.2.1<1000)(hA:Z3 E []=none):um [.sh (.lst ((bZ (Ze w (E.foldl Z2 []))).map tupP)),.sh (.lst (E.map Ļ)),.sh (.tup [.int w,.int h])]=.ret (.sh (.bl true)):=by
 have hon:=Z0u E [] hE (by simp)
 have hnd:=Z0v E [] (by simp)
 have htm:=Z00 E [] ht (by simp)
 have hbb:=Z1K (w:=w) htm
 have hpm:=Z0L hbb
 have hRn:((bZ (Ze w (E.foldl Z2 []))).map (·.1)).Nodup:=((hpm.map _).nodup_iff).mpr (Z05 (h:=h) hnd hon)
 obtain⟨a,b,c,d,e⟩:=Z0B (h:=h) hw (bZ (Ze w (E.foldl Z2 []))) (.sh (.lst (E.map Ļ))) E [] .no .no .no .no (by simp;omega) hE (λe he=>by
  obtain⟨v,h1,h2⟩:=ZS E [] hA e he
  have hm:=Z0s h1
  exact Z0A (p:=(num w (stK e),(e.2.1:Int))) hRn (hpm.mem_iff.mpr (List.mem_map.mpr ⟨_,hm,by rw[h2]⟩))) (by simp) (by simp) hA
 have hp:=Z0Q w (E.foldl Z2 []) htm
 have he:=Z0O (bZ (Ze w (E.foldl Z2 [])))
 have e0:Z1 Za Zj (Zb w [])=[]:=rfl
 rw[e0] at e
 generalize E.map Ļ=EV at *
 generalize Z1 Za Zj (Zb w (E.foldl Z2 []))=EK at *
 generalize Ze w (E.foldl Z2 [])=PK at *
 generalize hL:(bZ PK).map tupP=L at *
 simp[um,Ft,List.replicate,e,zU,hp,hL,he]
def Z0n{w h:Int}{E:List En}(hl:E.length<=1000):ŕ (gT 3 (Ć (gN 1) (Ć (gN 2) (Ć (gN 3) Į)))) (fQ (gP (ĕ (ě cQ (Ĉ 3 (Ĉ 0 Ė)))))) (ň (Ą (Ď 1) (Ą (Ď 2) Ĝ))) (E.map Ļ) [.sh (.tup [.int w,.int h]),.no,.no,.no] []=some ((E.filter (Zd w h)).map λe=>Ũ (ŭ e)):=by
 have:=Ų (g:=gT 3 (Ć (gN 1) (Ć (gN 2) (Ć (gN 3) Į)))) (mt:=fQ (gP (ĕ (ě cQ (Ĉ 3 (Ĉ 0 Ė)))))) (me:=ň (Ą (Ď 1) (Ą (Ď 2) Ĝ))) Ļ (λe=>Ũ (ŭ e)) (Zd w h) (λρ=>∃a b c,ρ=[.sh (.tup [.int w,.int h]),a,b,c]) E [.sh (.tup [.int w,.int h]),.no,.no,.no] [] ⟨_,_,_,rfl⟩ (by simp;omega) (by
  rintro e _ ρ ⟨a,b,c,rfl⟩
  have h1:=Z0P (w:=w) (h:=h) (stK e)
  have g1:gT 3 (Ć (gN 1) (Ć (gN 2) (Ć (gN 3) Į))) (Ļ e) [.sh (.tup [.int w,.int h]),a,b,c]=some [.sh (.tup [.int w,.int h]),.sh (.int e.1),.sh (.int e.2.1),.sh (Ŏ (stK e))]:=by simp[Ļ,Ŏ,stK]
  refine⟨_,[.sh (.tup [.int w,.int h]),.sh (.int e.1),.sh (.int e.2.1),.sh (Ŏ (stK e))],g1,?_,λ_=>⟨_,_,_,rfl⟩,λ_=>⟨[.sh (.tup [.int w,.int h]),.sh (.int e.1),.sh (.int e.2.1),.sh (Ŏ (stK e))],?_,_,_,_,rfl⟩⟩
  ·unfold Zd
   generalize Ŏ (stK e)=S at *
   simp[h1]
  ·generalize Ŏ (stK e)=S at *
   simp[Ũ,ŭ])
 rw[List.nil_append] at this
 exact this
def Z0o{E:List En}(hl:E.length<=1000)(f:PV)(j:Int)(a:TT)(hf:Ē f (.int j)=some (Ũ a)):ŕ (gT 3 (Ć (gN 1) (Ć (gN 2) (Ć (gN 3) Į)))) (aO (ă į (ň (Ą (Ď 1) (Ą (Ď 2) Ĝ))) (ă Ē (ā 0) (mC (.int j))))) (Ď 3) (E.map Ļ) [.sh f,.no,.no,.no] []=some ((E.filter λe=>decide (ŭ e=a)).map λe=>Ŏ (stK e)):=by
 have:=Ų (g:=gT 3 (Ć (gN 1) (Ć (gN 2) (Ć (gN 3) Į)))) (mt:=aO (ă į (ň (Ą (Ď 1) (Ą (Ď 2) Ĝ))) (ă Ē (ā 0) (mC (.int j))))) (me:=Ď 3) Ļ (λe=>Ŏ (stK e)) (λe=>decide (ŭ e=a)) (λρ=>∃a b c,ρ=[.sh f,a,b,c]) E [.sh f,.no,.no,.no] [] ⟨_,_,_,rfl⟩ (by simp;omega) (by
  rintro e _ ρ ⟨b,c,d,rfl⟩
  have h1:=Z0N (ŭ e) a
  have ht:PV.tup [.int (e.1:Int),.int (e.2.1:Int)]=Ũ (ŭ e):=rfl
  have g1:gT 3 (Ć (gN 1) (Ć (gN 2) (Ć (gN 3) Į))) (Ļ e) [.sh f,b,c,d]=some [.sh f,.sh (.int e.1),.sh (.int e.2.1),.sh (Ŏ (stK e))]:=by simp[Ļ,Ŏ,stK]
  refine⟨_,[.sh f,.sh (.int e.1),.sh (.int e.2.1),.sh (Ŏ (stK e))],g1,?_,λ_=>⟨_,_,_,rfl⟩,λ_=>⟨[.sh f,.sh (.int e.1),.sh (.int e.2.1),.sh (Ŏ (stK e))],?_,_,_,_,rfl⟩⟩
  ·generalize Ŏ (stK e)=S at *
   generalize Ũ (ŭ e)=A at *
   generalize Ũ a=B at *
   simp[ht,hf,h1]
  ·generalize Ŏ (stK e)=S at *
   simp)
 rw[List.nil_append] at this
 exact this
theorem ZI{α:Type}{p:α->Bool}{x:α}:∀{E:List α},E.find? p=some x->∃r,E.filter p=x::r
 | [],h=>nomatch h
 |y::E,h=>by
  cases hp:p y with
  |true=>
   rw[List.find?_cons,hp] at h
   cases h
   exact⟨_,by rw[List.filter_cons,hp];rfl⟩
  |false=>
   rw[List.find?_cons,hp] at h
   rw[List.filter_cons,hp]
   exact ZI h
def Z1p:į (.str "off") (.str "off")=some (.bl true):=by rw[Ņ (by decide +kernel) (by decide +kernel)];rfl
def Z1A:į (.str "alike") (.str "off")=some (.bl false):=by rw[Ņ (by decide +kernel) (by decide +kernel)];rfl
def Z1B:aN (.str "alike") (.str "alike")=some (.bl false):=by
 refine ZE ?_ ?_ ?_
 ·rw[eqB.eq_def];simp
 ·rw[Š];decide +kernel
 ·rw[dep]
  ·omega
  ·intro xs h;cases h
  ·intro xs h;cases h
def Z0I{w h:Int}{E:List En}(hl:E.length<=1000){e:En}(hf:E.find? (Zd w h)=some e):jg [.sh (Zr e),.sh (.lst (E.map Ļ)),.sh (.tup [.int w,.int h])]=.ret (.sh (.bl true)):=by
 have c1:=Z0n (w:=w) (h:=h) hl
 obtain⟨r,hr⟩:=ZI hf
 rw[hr,List.map_cons] at c1
 have i0:Ē (Zr e) (.int 0)=some (.str "off"):=rfl
 have i1:Uh (Zr e) (some 1) none=some (.sh (Ũ (ŭ e))):=rfl
 have i2:=Z0N (ŭ e) (ŭ e)
 rw[decide_eq_true rfl] at i2
 generalize r.map (λe=>Ũ (ŭ e))=RR at *
 generalize E.map Ļ=EV at *
 generalize Zr e=O at *
 generalize Ũ (ŭ e)=TE at *
 simp[jg,vW,List.replicate,fU,gW,c1,i0,i1,i2,Z1p]
def Z0S{w h:Int}{E:List En}(hl:E.length<=1000)(hp:E.Pairwise λa b=>yO (ŭ a) (ŭ b))(hf:E.find? (Zd w h)=none){a:TT×TT}(ha:Z3 E []=some a):jg [.sh (yN a),.sh (.lst (E.map Ļ)),.sh (.tup [.int w,.int h])]=.ret (.sh (.bl true)):=by
 obtain⟨v,u⟩:=a
 obtain⟨s,⟨e1,m1,s1,t1⟩,⟨e2,m2,s2,t2⟩,hne,hlt⟩:=Zy (λx=>∃e∈E,stK e=x.1/\ŭ e=x.2) E [] hp (by simp) (λe he=>⟨e,he,rfl,rfl⟩) ha
 dsimp only at s1 t1 s2 t2
 have c1:=Z0n (w:=w) (h:=h) hl
 have hz:E.filter (Zd w h)=[]:=List.filter_eq_nil_iff.mpr (List.find?_eq_none.mp hf)
 rw[hz,List.map_nil] at c1
 have i0:Ē (yN (v,u)) (.int 0)=some (.str "alike"):=rfl
 have i1:Ē (yN (v,u)) (.int 1)=some (Ũ v):=rfl
 have i2:Ē (yN (v,u)) (.int 2)=some (Ũ u):=rfl
 have j1:Ē (Ũ v) (.int 1)=some (.int v.2):=rfl
 have j2:Ē (Ũ u) (.int 1)=some (.int u.2):=rfl
 have c2:=Z0o hl (yN (v,u)) 1 v i1
 have c3:=Z0o hl (yN (v,u)) 2 u i2
 have f1:=Zx hp m1
 have f2:=Zx hp m2
 rw[t1] at f1
 rw[t2] at f2
 rw[f1] at c2
 rw[f2] at c3
 rw[List.map_cons,List.map_nil,s1] at c2
 rw[List.map_cons,List.map_nil,s2] at c3
 have q1:=Z1M s
 have q2:=Z1x hlt
 have q3:¬(v.2:Int)=(u.2:Int):=λz=>hne (by omega)
 generalize E.map Ļ=EV at *
 generalize yN (v,u)=O at *
 generalize Ũ v=TV at *
 generalize Ũ u=TU at *
 generalize Ŏ s=S at *
 simp[jg,vW,List.replicate,fU,gW,c1,c2,c3,i0,i1,i2,j1,j2,q1,q2,q3,Z1A,Z1B]
def Ak(w h:Int)(E:List En):Prop:=E.find? (Zd w h)=none/\Z3 E []=none
def Gm(w:Int)(E:List En):List PV:=(bZ (Ze w (E.foldl Z2 []))).map tupP
def Z0T{w h:Int}{E:List En}(hm:Ak w h E):ZD w h E=.tup [.str "marks",.lst (Gm w E)]:=by
 unfold ZD Gm
 rw[hm.1,hm.2]
def Z1C:į (.str "off") (.str "marks")=some (.bl false):=by rw[Ņ (by decide +kernel) (by decide +kernel)];rfl
def Z1D:į (.str "alike") (.str "marks")=some (.bl false):=by rw[Ņ (by decide +kernel) (by decide +kernel)];rfl
def Z1E:į (.str "marks") (.str "marks")=some (.bl true):=by rw[Ņ (by decide +kernel) (by decide +kernel)];rfl
def Z0U{w h:Int}{E:List En}(hl:E.length<=1000)(hp:E.Pairwise λa b=>yO (ŭ a) (ŭ b))(hm:¬Ak w h E):(∃z,Ē (ZD w h E) (.int 0)=some z/\į z (.str "marks")=some (.bl false))/\jg [.sh (ZD w h E),.sh (.lst (E.map Ļ)),.sh (.tup [.int w,.int h])]=.ret (.sh (.bl true)):=by
 unfold ZD
 cases hf:E.find? (Zd w h) with
 |some e=>exact⟨⟨_,rfl,Z1C⟩,Z0I hl hf⟩
 |none=>
  cases ha:Z3 E [] with
  |some a=>exact⟨⟨_,rfl,Z1D⟩,Z0S hl hp hf ha⟩
  |none=>exact absurd ⟨hf,ha⟩ hm
def Z4(x y:Int)(D:List Dy)(k:Nat):List En:=Z9 (x,y,(k:Int)) 0 D
def Z5(w h x y:Int)(D:List Dy)(k:Nat):PV:=ZD w h (Z4 x y D k)
def ZT{D:List Dy}(hD:∀x∈D,uE x)(hl:D.length<=12)(x y:Int)(k:Nat):(Z4 x y D k).length<=1000:=by have:=ZL (x,y,(k:Int)) D 0 hD;unfold Z4;omega
def Z1c{w h:Int}{T:List Th}{D:List Dy}(hw:0<=w/\w<=1000)(hD:∀x∈D,uE x)(hl:D.length<=12)(x y:Int)(k:Nat):jf [.sh (Z0 w h T D),.sh (.tup [.int x,.int y,.int k])]=.ret (.sh (Z5 w h x y D k)):=Z1m hw (x,y,(k:Int)) hD hl
def Gn(w x y:Int)(D:List Dy)(k:Nat)(F:List PV):PV:=.tup [.str "height",.int k,.lst (Gm w (Z4 x y D k)),.lst F]
theorem Z0C{w h:Int}{T:List Th}{D:List Dy}(hw:0<=w/\w<=1000)(hD:∀x∈D,uE x)(hl:D.length<=12)(x y:Int)(s3:P.Slot):∀(n k:Nat) (acc:List PV) (s5 s6:P.Slot),acc.length+n<=1000->
 (∃m ρ',k<=m/\m<k+n/\Ak w h (Z4 x y D m)/\(∀j,k<=j->j<m->¬Ak w h (Z4 x y D j))/\forL (gN 5) lV ((List.range' k n).map λ(i:Nat)=>PV.int (i:Int)) [.sh (Z0 w h T D),.sh (.int x),.sh (.int y),s3,.ow acc,s5,s6]=.ok (.rt (.sh (Gn w x y D m (acc++(List.range' k (m-k)).map (Z5 w h x y D))))) ρ')\/
 (∃Gs Ua,(∀j,k<=j->j<k+n->¬Ak w h (Z4 x y D j))/\forL (gN 5) lV ((List.range' k n).map λ(i:Nat)=>PV.int (i:Int)) [.sh (Z0 w h T D),.sh (.int x),.sh (.int y),s3,.ow acc,s5,s6]=.ok .nx [.sh (Z0 w h T D),.sh (.int x),.sh (.int y),s3,.ow (acc++(List.range' k n).map (Z5 w h x y D)),Gs,Ua])
 |0,k,acc,s5,s6,_=>.inr ⟨s5,s6,λj h1 h2=>absurd h2 (by omega),by simp[forL]⟩
 |n+1,k,acc,s5,s6,hz=>by
  have hd:=Z1c (h:=h) (T:=T) hw hD hl x y k
  have hla:acc.length<16777216:=by omega
  rw[List.range'_succ,List.map_cons,forL]
  have g1:gN 5 (.int (k:Int)) [.sh (Z0 w h T D),.sh (.int x),.sh (.int y),s3,.ow acc,s5,s6]=some [.sh (Z0 w h T D),.sh (.int x),.sh (.int y),s3,.ow acc,.sh (.int k),s6]:=rfl
  rw[g1]
  dsimp only
  by_cases hm:Ak w h (Z4 x y D k)
  ·refine .inl ⟨k,[.sh (Z0 w h T D),.sh (.int x),.sh (.int y),s3,.sh (.lst acc),.sh (.int k),.sh (Z5 w h x y D k)],Nat.le_refl _,by omega,hm,λj h1 h2=>absurd h2 (by omega),?_⟩
   have hr:Z5 w h x y D k=.tup [.str "marks",.lst (Gm w (Z4 x y D k))]:=Z0T hm
   rw[Nat.sub_self]
   have e1:lV [.sh (Z0 w h T D),.sh (.int x),.sh (.int y),s3,.ow acc,.sh (.int k),s6]=.ok (.rt (.sh (Gn w x y D k acc))) [.sh (Z0 w h T D),.sh (.int x),.sh (.int y),s3,.sh (.lst acc),.sh (.int k),.sh (Z5 w h x y D k)]:=by
    rw[hr] at hd ⊢
    unfold Gn
    generalize Gm w (Z4 x y D k)=ML at *
    generalize Z0 w h T D=Yv at *
    simp[lV,hd,Z1E]
   rw[e1]
   simp
  ·obtain⟨⟨z,z1,z2⟩,_⟩:=Z0U (ZT hD hl x y k) (Z04 _ D 0) hm
   have z1:Ē (Z5 w h x y D k) (.int 0)=some z:=z1
   have e1:lV [.sh (Z0 w h T D),.sh (.int x),.sh (.int y),s3,.ow acc,.sh (.int k),s6]=.ok .nx [.sh (Z0 w h T D),.sh (.int x),.sh (.int y),s3,.ow (acc ++ [Z5 w h x y D k]),.sh (.int k),.sh (Z5 w h x y D k)]:=by
    generalize Z5 w h x y D k=R at *
    generalize Z0 w h T D=Yv at *
    simp[lV,hd,z1,z2,hla]
   rw[e1]
   rcases Z0C (T:=T) hw hD hl x y s3 n (k+1) (acc ++ [Z5 w h x y D k]) (.sh (.int k)) (.sh (Z5 w h x y D k)) (by simp;omega) with⟨m,ρ',h1,h2,h3,h4,h5⟩|⟨a,b,h1,h2⟩
   ·refine .inl ⟨m,ρ',by omega,by omega,h3,λj j1 j2=>?_,?_⟩
    ·by_cases e:j=k
     ·rw[e];exact hm
     ·exact h4 j (by omega) j2
    ·have e2:m-k=(m-(k+1))+1:=by omega
     rw[e2,List.range'_succ,List.map_cons]
     rw[List.append_assoc] at h5
     exact h5
   ·refine .inr ⟨a,b,λj j1 j2=>?_,?_⟩
    ·by_cases e:j=k
     ·rw[e];exact hm
     ·exact h1 j (by omega) (by omega)
    ·rw[List.map_cons]
     rw[List.append_assoc] at h2
     exact h2
def Z19{n:Nat}(hn:n<=1000):oA [.int 1,.int ((n:Int)+1)]=some ((List.range' 1 n).map λ(i:Nat)=>PV.int (i:Int)):=by
 have hs2:aL ((n:Int)+1)=true:=by unfold aL;simp;omega
 have hs1:aL 1=true:=rfl
 have e:((n:Int)+1-1).toNat=n:=by omega
 unfold oA
 simp[hs1,hs2,aK,e,List.range'_eq_map_range]
def Z1O{w h:Int}{T:List Th}{D:List Dy}(hw:0<=w/\w<=1000)(hD:∀x∈D,uE x)(hl:D.length<=12)(x y:Int){most:Nat}(hm:most<=8) :
 (∃m,1<=m/\m<=most/\Ak w h (Z4 x y D m)/\(∀j,1<=j->j<m->¬Ak w h (Z4 x y D j))/\z_ [.sh (Z0 w h T D),.sh (.int x),.sh (.int y),.sh (.int most)]=.ret (.sh (Gn w x y D m ((List.range' 1 (m-1)).map (Z5 w h x y D)))))\/
 ((∀j,1<=j->j<=most->¬Ak w h (Z4 x y D j))/\z_ [.sh (Z0 w h T D),.sh (.int x),.sh (.int y),.sh (.int most)]=.ret (.sh (.tup [.str "none",.lst ((List.range' 1 most).map (Z5 w h x y D))]))):=by
 have rr:=Z19 (n:=most) (by omega)
 rcases Z0C (h:=h) (T:=T) hw hD hl x y (.sh (.int most)) most 1 [] .no .no (by simp;omega) with⟨m,ρ',h1,h2,h3,h4,h5⟩|⟨a,b,h1,h2⟩
 ·refine .inl ⟨m,h1,by omega,h3,h4,?_⟩
  rw[List.nil_append] at h5
  generalize Gn w x y D m ((List.range' 1 (m-1)).map (Z5 w h x y D))=HV at *
  generalize (List.range' 1 most).map (λ(i:Nat)=>PV.int (i:Int))=RR at *
  generalize Z0 w h T D=Yv at *
  simp[z_,Fp,List.replicate,rr,h5]
 ·refine .inr ⟨λj j1 j2=>h1 j j1 (by omega),?_⟩
  rw[List.nil_append] at h2
  generalize (List.range' 1 most).map (Z5 w h x y D)=HV at *
  generalize (List.range' 1 most).map (λ(i:Nat)=>PV.int (i:Int))=RR at *
  generalize Z0 w h T D=Yv at *
  simp[z_,Fp,List.replicate,rr,h2]
theorem Z06{w h:Int}{D:List Dy}(hw:0<=w/\w<=1000)(hD:∀x∈D,uE x)(hl:D.length<=12)(x y:Int)(FL:List PV)(s0 s3 s4 s7 s8:P.Slot):∀(n k:Nat) (oh:P.Slot),1<=k->(∀j,k<=j->j<k+n->¬Ak w h (Z4 x y D j)/\FL[j-1]?=some (Z5 w h x y D j))->∃wu,forL (gN 10) qz ((List.range' k n).map λ(i:Nat)=>PV.int (i:Int)) [s0,.sh (.tup [.int w,.int h]),.sh (.lst (D.map ŗ)),s3,s4,.sh (.int x),.sh (.int y),s7,s8,.sh (.lst FL),oh]=.ok .nx [s0,.sh (.tup [.int w,.int h]),.sh (.lst (D.map ŗ)),s3,s4,.sh (.int x),.sh (.int y),s7,s8,.sh (.lst FL),wu]
 |0,k,oh,_,_=>⟨oh,by simp[forL]⟩
 |n+1,k,oh,hk,hj=>by
  obtain⟨b,ih⟩:= Z06 hw hD hl x y FL s0 s3 s4 s7 s8 n (k+1) (.sh (.int k)) (by omega) λj h1 h2=>hj j (by omega) (by omega)
  obtain⟨h1,h2⟩:=hj k (Nat.le_refl _) (by omega)
  obtain⟨_,h3⟩:=Z0U (ZT hD hl x y k) (Z04 _ D 0) h1
  have h3:jg [.sh (Z5 w h x y D k),.sh (.lst ((Z4 x y D k).map Ļ)),.sh (.tup [.int w,.int h])]=.ret (.sh (.bl true)):=h3
  have h4:lX [.sh (.lst (D.map ŗ)),.sh (.tup [.int x,.int y,.int k])]=.ret (.ow ((Z4 x y D k).map Ļ)):=Z0l (x,y,(k:Int)) hD hl
  have h5:Ē (.lst FL) (.int ((k:Int)-1))=some (Z5 w h x y D k):=by
   have e:((k:Int)-1)=((k-1:Nat):Int):=by omega
   rw[e]
   simp[h2]
  refine⟨b,?_⟩
  rw[List.range'_succ,List.map_cons,forL]
  have g1:gN 10 (.int (k:Int)) [s0,.sh (.tup [.int w,.int h]),.sh (.lst (D.map ŗ)),s3,s4,.sh (.int x),.sh (.int y),s7,s8,.sh (.lst FL),oh]=some [s0,.sh (.tup [.int w,.int h]),.sh (.lst (D.map ŗ)),s3,s4,.sh (.int x),.sh (.int y),s7,s8,.sh (.lst FL),.sh (.int k)]:=rfl
  rw[g1]
  dsimp only
  have e1:qz [s0,.sh (.tup [.int w,.int h]),.sh (.lst (D.map ŗ)),s3,s4,.sh (.int x),.sh (.int y),s7,s8,.sh (.lst FL),.sh (.int k)]=.ok .nx [s0,.sh (.tup [.int w,.int h]),.sh (.lst (D.map ŗ)),s3,s4,.sh (.int x),.sh (.int y),s7,s8,.sh (.lst FL),.sh (.int k)]:=by
   generalize Z5 w h x y D k=R at *
   generalize (Z4 x y D k).map Ļ=EV at *
   generalize D.map ŗ=DV at *
   simp[qz,h3,h4,h5,-vq]
  rw[e1]
  exact ih
def Z1F{l:PySem.W.OpenLaw}{w:World}{K:PySem.W.Frag}{mg:Str->Option Value}{fa:Addr}{a:Fw}(T:Tx K mg a)(hfa:mg "law" =some (.ref fa)):∃fd:FuncData,(∀(s:Shared) (v:Value),BindsTo s fd ⟨[v],[]⟩ [("_law_script",v)])/\∀base:Heap,K.In base->base.Ns mainGlobals mg->∃cm,Ĭ l.prog w K mg base aD 6 fa fd ["_law_script"] (aH ⟨K,cm⟩ 1 lY):=by
 have e:=hfa.symm.trans T.FN.m
 cases e
 exact⟨a.Fz,λs v=>T.FN.bb s [v] rfl,λbase _ _=>⟨_,TJ T⟩⟩
def Z1G:į (.str "height") (.str "none")=some (.bl false):=by rw[Ņ (by decide +kernel) (by decide +kernel)];rfl
def Z1H:į (.str "none") (.str "none")=some (.bl true):=by rw[Ņ (by decide +kernel) (by decide +kernel)];rfl
def Z1I:aN (.str "height") (.str "height")=some (.bl false):=by
 refine ZE ?_ ?_ ?_
 ·rw[eqB.eq_def];simp
 ·rw[Š];decide +kernel
 ·rw[dep]
  ·omega
  ·intro xs h;cases h
  ·intro xs h;cases h
def Z1a(ns:List Int)(hn:ns.length<=63):lY [.sh (.lst (ns.map .int))]=.ret (.sh (.bl true)):=by
 obtain⟨w,h,e1,w1,w2,_,_⟩:=Z11 (ns.getD 0 0)
 obtain⟨D,hl,hD,e2⟩:=Z1l ns 4
 obtain⟨T,hT,e3⟩:=Z0q (ns.getD 0 0 / 7)
 have e2:gn [.sh (.lst (ns.map .int)),.sh (.int 4),.sh (.int 4)]=.ret (.ow (D.map ŗ)):=e2
 have e4:=Z1h w h (T:=T) (D:=D) (by omega) (by omega) (s3:=.bw (T.map yM)) (s4:=.sh (.lst (D.map ŗ))) (.inr rfl) (.inl rfl)
 have e5:=Z08 D (by omega) .no .no .no
 have yv:PV.ins "Yard" ["width","height","things","days"] [.int w,.int h,.lst (T.map yM),.lst (D.map ŗ)]=Z0 w h T D:=rfl
 have hc0:ũ [.sh (.lst (ns.map .int)),.sh (.int 0)]=.ret (.sh (.int (ns.getD 0 0))):=Zl ns 0
 have hc1:ũ [.sh (.lst (ns.map .int)),.sh (.int 1)]=.ret (.sh (.int (ns.getD 1 0))):=Zl ns 1
 have hc2:ũ [.sh (.lst (ns.map .int)),.sh (.int 2)]=.ret (.sh (.int (ns.getD 2 0))):=Zl ns 2
 have hc3:ũ [.sh (.lst (ns.map .int)),.sh (.int 3)]=.ret (.sh (.int (ns.getD 3 0))):=Zl ns 3
 generalize ns.getD 0 0=c0 at *
 generalize ns.getD 1 0=c1 at *
 generalize ns.getD 2 0=c2 at *
 generalize ns.getD 3 0=c3' at *
 obtain⟨x,hx⟩:∃x,c1 % 19-4=x:=⟨_,rfl⟩
 obtain⟨y,hy⟩:∃y,c2 % 19-4=y:=⟨_,rfl⟩
 obtain⟨most,hm⟩:∃most:Nat,1+c3' % 8=most:=⟨(1+c3' % 8).toNat,by omega⟩
 have hm8:most<=8:=by omega
 have hw:0<=w/\w<=1000:=by omega
 rcases Z1O (h:=h) (T:=T) hw hD hl x y hm8 with⟨m,m1,m2,m3,m4,lp⟩|⟨m4,lp⟩
 ·obtain⟨FL,Jv⟩:∃FL,(List.range' 1 (m-1)).map (Z5 w h x y D)=FL:=⟨_,rfl⟩
  have hfl:FL.length=m-1:=by rw[<-Jv];simp
  have hget:∀j,1<=j->j<1+(m-1)->¬Ak w h (Z4 x y D j)/\FL[j-1]?=some (Z5 w h x y D j):=by
   intro j j1 j2
   refine⟨m4 j j1 (by omega),?_⟩
   rw[<-Jv]
   have:1+(j-1)=j:=by omega
   simp[List.getElem?_range',show j-1<m-1 by omega,this]
  obtain⟨b,lo⟩:=Z06 hw hD hl x y FL (.sh (.lst (ns.map .int))) (.ow (T.map yM)) (.sh (Z0 w h T D)) (.sh (.int most)) (.sh (Gn w x y D m FL)) (m-1) 1 .no (Nat.le_refl _) hget
  have rr:=Z19 (n:=m-1) (by omega)
  rw[Jv] at lp
  have q0:Ē (Gn w x y D m FL) (.int 0)=some (.str "height"):=rfl
  have q1:Ē (Gn w x y D m FL) (.int 1)=some (.int m):=rfl
  have q2:Ē (Gn w x y D m FL) (.int 2)=some (.lst (Gm w (Z4 x y D m))):=rfl
  have q3:Ē (Gn w x y D m FL) (.int (-1))=some (.lst FL):=rfl
  have dk:=Z1c (h:=h) (T:=T) hw hD hl x y m
  have hr:Z5 w h x y D m=.tup [.str "marks",.lst (Gm w (Z4 x y D m))]:=Z0T m3
  rw[hr] at dk
  have ne:aN (.tup [.str "marks",.lst (Gm w (Z4 x y D m))]) (.tup [.str "marks",.lst (Gm w (Z4 x y D m))])=some (.bl false):=Z1L _
  have h4:lX [.sh (.lst (D.map ŗ)),.sh (.tup [.int x,.int y,.int m])]=.ret (.ow ((Z4 x y D m).map Ļ)):=Z0l (x,y,(m:Int)) hD hl
  have hon:∀e∈Z4 x y D m,gD w h (stK e):=by
   intro e he
   have:=List.find?_eq_none.mp m3.1 e he
   simpa[Zd] using this
  have h5:um [.sh (.lst (Gm w (Z4 x y D m))),.sh (.lst ((Z4 x y D m).map Ļ)),.sh (.tup [.int w,.int h])]=.ret (.sh (.bl true)):=Z0R hw (ZT hD hl x y m) hon (Z02 _ D 0 hD) m3.2
  have hln:((FL.length:Nat):Int)=((m-1:Nat):Int):=by rw[hfl]
  have k1:(m:Int)=((m-1:Nat):Int)+1:=by omega
  have k2:¬((m-1:Nat):Int)+1>(most:Int):=by omega
  have k2':¬(most:Int)<((m-1:Nat):Int)+1:=by omega
  clear hD hl hT w1 w2 hget Jv m4 m3 hon hr hfl
  rw[k1] at q1 dk h4
  generalize ((m-1:Nat):Int)=M at *
  generalize Gn w x y D m FL=HV at *
  generalize Gm w (Z4 x y D m)=ML at *
  generalize (Z4 x y D m).map Ļ=EV at *
  generalize (List.range' 1 (m-1)).map (λ(i:Nat)=>PV.int (i:Int))=RR at *
  generalize ns.map PV.int=NS at *
  generalize D.map ŗ=DV at *
  generalize T.map yM=TV at *
  generalize Z0 w h T D=Yv at *
  simp[lY,vX,List.replicate,hc0,hc1,hc2,hc3,e1,e2,e3,e4,e5,yv,fU,hx,hy,hm,lp,q0,q1,q2,q3,Z1G,hln,rr,lo,Z1I,k2,k2',dk,ne,h4,h5,-Zn]
 ·obtain⟨FL,Jv⟩:∃FL,(List.range' 1 most).map (Z5 w h x y D)=FL:=⟨_,rfl⟩
  have hfl:FL.length=most:=by rw[<-Jv];simp
  have hget:∀j,1<=j->j<1+most->¬Ak w h (Z4 x y D j)/\FL[j-1]?=some (Z5 w h x y D j):=by
   intro j j1 j2
   refine⟨m4 j j1 (by omega),?_⟩
   rw[<-Jv]
   have:1+(j-1)=j:=by omega
   simp[List.getElem?_range',show j-1<most by omega,this]
  obtain⟨b,lo⟩:=Z06 hw hD hl x y FL (.sh (.lst (ns.map .int))) (.ow (T.map yM)) (.sh (Z0 w h T D)) (.sh (.int most)) (.sh (.tup [.str "none",.lst FL])) most 1 .no (Nat.le_refl _) hget
  have rr:=Z19 (n:=most) (by omega)
  rw[Jv] at lp
  have q0:Ē (.tup [.str "none",.lst FL]) (.int 0)=some (.str "none"):=rfl
  have q3:Ē (.tup [.str "none",.lst FL]) (.int (-1))=some (.lst FL):=rfl
  have hln:((FL.length:Nat):Int)=(most:Int):=by rw[hfl]
  clear hD hl hT w1 w2 hget Jv m4 hfl
  generalize hHV:PV.tup [.str "none",.lst FL]=HV at *
  generalize (List.range' 1 most).map (λ(i:Nat)=>PV.int (i:Int))=RR at *
  generalize ns.map PV.int=NS at *
  generalize D.map ŗ=DV at *
  generalize T.map yM=TV at *
  generalize Z0 w h T D=Yv at *
  simp[lY,vX,List.replicate,hc0,hc1,hc2,hc3,e1,e2,e3,e4,e5,yv,fU,hx,hy,hm,lp,q0,q3,Z1H,hln,rr,lo,-Zn]
def Z1P{l:PySem.W.OpenLaw}{q:Program}{loose:List Str}{XP:(Str->Option Value)->Heap->Prop}{YP:World->Heap->Prop}{d:DefRec}{K:Params->PySem.W.Frag}(hn:l.most=some 63)(hdf:d.params.defaults=[])
 (hY:∀(w:World) (h:Heap),YP w h->(K w.params).In h)
 (F:∀(w:World) (mg:Str→Option Value) (fa:Addr) (h:Heap),(K w.params).In h→h.Ns mainGlobals mg→mg d.name=some (.ref fa)→
   ∃fd:FuncData,(∀(s:Shared) (u:Value),BindsTo s fd ⟨[u],[]⟩ [("_law_script",u)])/\∀base:Heap,(K w.params).In base->base.Ns mainGlobals mg->∃cm,Ĭ l.prog w (K w.params) mg base aD 6 fa fd ["_law_script"] (aH ⟨K w.params,cm⟩ 1 lY)) :
 PySem.W.WalkO q loose XP YP l.row.toRowW d [] (λf vs=>PySem.call f vs):=
 P.Cw (k:=6) (x:= "_law_script") (CX:=aD) (m:=lY) hn hdf ⟨rfl,by decide,by decide⟩ hY F Z1a (λ_ _ _ _ z=>z)
end
end T
namespace PySem.W.Fast
def tw5354744355558926701:=0
def tw7213117925323932917:=0
def tw11105681709490032762:=0
def tw7307588818514566081:=0
def tw5423345139372614416:=0
def tw7335572916961793253:=0
def tw9644185737495611626:=0
def tw8013192806625082049:=0
def tw18058307271099314182:=0
def tw147189656902197034:=0
def tw14322011092445929332:=0
def tw14359049194788527687:=0
def tw8591253511239827172:=0
def tw4415240803519262111:=0
def tw9540162357299459295:=0
def tw16746098822455396576:=0
def tw5528180094676620325:=0
def tw4329545285743963845:=0
def tw8197429112402139912:=0
def tw7317693523103413268:=0
def tw13316849205152892429:=0
def tw14069539468964004080:=0
def tw11758829037657699160:=0
def tw1069994345844068729:=0
def tw17815440037532241489:=0
def tw9215263746976358441:=0
def tw2011343237789470567:=0
def tw9765894897070142522:=0
def tw3561143154691779168:=0
def tw14567015784896292212:=0
def tw14378657959641938653:=0
def tw6354646978520806194:=0
def tw8895156789135376607:=0
def tw14794972964317064919:=0
def tw11486517625045125086:=0
def tw18385181733886043163:=0
def tw15389955608064952502:=0
def tw9937715328858354043:=0
def tw1911540961006335732:=0
def tw6407197689179822340:=0
def tw9125323883302461645:=0
def tw5211760287987208211:=0
def tw7739765091794654873:=0
def tw4101480862766002070:=0
def tw9679136190373488593:=0
def tw7662263713735339249:=0
def tw10202982667664741107:=0
def tw7298429439390775098:=0
def tw9284061636282207895:=0
def tw12400901129405512032:=0
def tw1608617381630321623:=0
def tw8937095838898496472:=0
def tw18172684698173318957:=0
def tw16705046087542601199:=0
def tw4843384021532623028:=0
def tw89979927306712354:=0
def tw10653871359589099958:=0
def tw16798680964566042610:=0
def tw13906215457883370473:=0
def tw307570755176920431:=0
def tw5725788115680824133:=0
def tw1606833922915061523:=0
def tw1164083737953825924:=0
def tw8746302818698039624:=0
def tw471674875389214366:=0
def tw14810652105962258713:=0
def tw12404083758118661376:=0
def tw5934910212807973426:=0
def tw15382904623501829904:=0
def tw13174217060610008496:=0
def tw10588590867284510178:=0
def tw10879278931973766651:=0
def tw14330836499516428744:=0
def tw15614830111041690805:=0
def tw12265416098927558172:=0
def tw8562818349983748422:=0
def tw5511193649593390129:=0
def tw8034416096326354361:=0
def tw11674219181969110797:=0
def tw15009802904301597280:=0
def tw11163876596506777805:=0
def tw1139140007718329180:=0
def tw6372418671184054291:=0
def tw1053550693855007428:=0
def tw18431067680993418049:=0
def tw6209706670765976783:=0
def tw16173943587855134126:=0
def tw8678764512822382941:=0
def tw16508554113999492480:=0
def tw13548558989214660826:=0
def tw13690377082544800150:=0
def tw2726766373595240120:=0
def tw6121134832242723305:=0
def tw7230200237196699179:=0
def tw12376543909630017902:=0
def tw5511323392525636349:=0
def tw3447679058418911590:=0
def tw7713238871854674385:=0
def tw5851669185829262361:=0
def tw4651846718278087859:=0
def tw6617788436589697396:=0
def tw9418722339433771411:=0
def tw15141542775454792820:=0
def tw16679029772719852229:=0
def tw16039339759673028960:=0
def tw6214050684476147309:=0
def tw983026125082175817:=0
def tw5133674742208711218:=0
def tw2772676881649731138:=0
def tw4344832151135814191:=0
def tw5915034328365342422:=0
def tw1979855420843884738:=0
def tw4091122342012558947:=0
def tw5679074210495665946:=0
def tw11339484106819870001:=0
def tw5857055764006839153:=0
def tw13454910259887633961:=0
def tw7568924011037760168:=0
def tw1142701044449886804:=0
def tw6211449251716167899:=0
def tw12009809032449498232:=0
def tw14587797579810326345:=0
def tw17733871801042013415:=0
def tw5761710835860327796:=0
def tw5893112023336860438:=0
def tw3854798312532302634:=0
def tw7051105880957987950:=0
def tw8568882618383083846:=0
def tw8722679015370068214:=0
def tw15702936669780047836:=0
def tw6159757135180647655:=0
def tw245567224242933644:=0
def tw7383431042175700087:=0
def tw10790486344304829267:=0
def tw16437721596393805336:=0
def tw5558650687881814328:=0
def tw5314601441668244875:=0
def tw1057018079852236377:=0
def tw15045771274051917676:=0
def tw5086138984957931582:=0
def tw17450613698072399479:=0
def tw4741302160386023760:=0
def tw18114771828702669339:=0
def tw15864391910289305475:=0
def tw12787627551572283339:=0
def tw274580869507477726:=0
def tw6633368098429371435:=0
def tw9780383110379666968:=0
def tw4144116009889130904:=0
def tw4264846397762006527:=0
def tw18433398490406735574:=0
def tw458237692748329038:=0
def tw5724039875579438942:=0
def tw14199883760135167009:=0
def tw7537525937473477485:=0
def tw11733387547937458768:=0
def tw986089811927186330:=0
def tw12529763251676454937:=0
def tw7984420783000135629:=0
def tw12786309156945007720:=0
def tw2920419805450590551:=0
def tw8316931915800941401:=0
def tw14141234904024751989:=0
def tw4795901914352618094:=0
def tw6183559665446626976:=0
def tw6059112190705076143:=0
def tw8102029494021377430:=0
def tw8000700746408112210:=0
def tw11287694554533418920:=0
def tw807174753089399865:=0
def tw8037392807133346410:=0
def tw14054348147270585092:=0
def tw17332931945149893870:=0
def tw14827608367360020018:=0
def tw14530296537918015192:=0
def tw10283402640419360183:=0
def tw13577445090857498616:=0
def tw6209268749943279302:=0
def tw13095506400805065402:=0
def tw16994798806708463221:=0
def tw14023957706340739710:=0
def tw15903007818753031213:=0
def tw16257129032035444723:=0
def tw17931586951052168494:=0
def tw4061987652103878223:=0
def tw14414099258826898606:=0
def tw8716248009673807125:=0
def tw18106072425618345768:=0
def tw10479360211232463069:=0
def tw4464794511212991884:=0
def tw10637530980372363624:=0
def tw10710975276644524630:=0
def tw11626040470351779824:=0
def tw6030625002577564097:=0
def tw1956715403505608724:=0
def tw10231815519119841122:=0
def tw11670317730160268767:=0
def tw1914901316937317074:=0
def tw11554049205074011497:=0
def tw14010367339846438755:=0
def tw12621162492651531106:=0
def tw5664847979846853835:=0
def tw345398384285465669:=0
def tw18358830246891705922:=0
def tw10208781458946974122:=0
def tw11690052177013042680:=0
def tw1734410707155562796:=0
def tw12064402899748178382:=0
def tw3545434549193781357:=0
def tw12539570045463209621:=0
def tw17177591303250484386:=0
def tw3374972520600888970:=0
def tw1323165898872192091:=0
def tw2553114262596999023:=0
def tw8578886886486508888:=0
def tw10976802722370672897:=0
def tw16982112826717944116:=0
def tw16772613065440007227:=0
def tw15008563145484170021:=0
def tw18002078284179430316:=0
def tw17837097936898760541:=0
def tw14337767182323950851:=0
def tw16467367053579663856:=0
def tw16956276327097353133:=0
def tw13939184842818849001:=0
def tw17643639054616701094:=0
def tw2669297053720501174:=0
def tw13570537922988241940:=0
def tw174194740082993203:=0
def tw14695293878919086464:=0
def tw6180073020458532686:=0
def tw5964347769513273550:=0
def tw7171133753896934010:=0
def tw2264761922931466642:=0
def tw17738055029403359869:=0
def tw6271358216378047624:=0
def tw18075257720824697973:=0
def tw11155855302188348961:=0
def tw9758504501471441054:=0
def tw4390995198543653614:=0
def tw7948006610041656150:=0
def tw7657775416518493161:=0
def tw4196844667070197566:=0
def tw2426951356798492180:=0
def tw14958608645665772853:=0
def tw6214855590969003243:=0
def tw2165772756393396615:=0
def tw9021324848886391541:=0
def tw10168692367536763327:=0
def tw4554092412135996723:=0
def tw7094584864494320418:=0
def tw11211366239888872958:=0
def tw2983302342909836962:=0
def tw8521399532969063810:=0
def tw10068587625217833681:=0
def tw18261209150016891255:=0
def tw2762161615105455328:=0
def tw5452730450025440863:=0
def tw12435247947404676949:=0
def tw13755696903281546035:=0
def tw17112400374571318004:=0
def tw11826444573770144201:=0
def tw11687161097842232699:=0
def tw7292370904968909862:=0
def tw15008637478090751918:=0
def tw5365822231932973703:=0
def tw10208023129379149555:=0
def tw18136547771350725471:=0
def tw14939328546047902437:=0
def tw8324904026876959851:=0
def tw17394805757424934338:=0
def tw12985659032770926885:=0
def tw8027213794737992631:=0
def tw5629234841108942241:=0
def tw13007469405054021375:=0
def tw3363207715193427165:=0
def tw17032298963063362540:=0
def tw2323408727021451621:=0
def tw2182855555405579690:=0
def tw9970936518049474779:=0
def tw2981206058325888129:=0
def tw8400700002564243154:=0
def tw13436731029032859025:=0
def tw7777727304673406035:=0
def tw14648276527743766689:=0
def tw4163502073725294625:=0
def tw17662499937713896224:=0
def tw6413571195662669573:=0
def tw5451302566286281143:=0
def tw13449534609196598377:=0
def tw9465552535339730260:=0
def tw2502075260522302185:=0
def tw13150179164447466403:=0
def tw6010884023605789841:=0
def tw3186738809015652591:=0
def tw10518438712189530323:=0
def tw8669556475682699875:=0
def tw7800322075735773998:=0
def tw9297084894785503225:=0
def tw2247640850409030333:=0
def tw18366851732563539828:=0
def tw1396574881450428064:=0
def tw15780615551239564833:=0
def tw5806552614193771630:=0
def tw13815327626161638903:=0
def tw2427315223706452284:=0
def tw6933365983614701353:=0
def tw9283026317205403901:=0
def tw5429570410739916528:=0
def tw8361708455859524822:=0
def tw1605655075859696556:=0
def tw5372316603861187515:=0
def tw2991648842124395675:=0
def tw6457872258018873479:=0
def tw5240063609636849888:=0
def tw13088380723077021782:=0
def tw4481947427654114505:=0
def tw17065719664853638750:=0
def tw2332397297039719296:=0
def tw3571686910676867633:=0
def tw15558581426680237643:=0
def tw10807233039392687882:=0
def tw5043981515524280404:=0
def tw18188481208442649134:=0
def tw13622092377412179558:=0
def tw13260182951861507961:=0
def tw8434747128681890791:=0
def tw15008563490534565541:=0
def tw15263935957940739402:=0
def tw6247428545296063214:=0
def tw17686084668747422296:=0
def tw5349458386755082206:=0
def tw18016569789895749436:=0
def tw1050399923212362746:=0
def tw10843143701423336800:=0
def tw14355534055558637213:=0
def tw16280054988911969320:=0
def tw9670558964037184115:=0
def tw2107072686911621095:=0
def tw12866661408387819252:=0
def tw5034821394374958638:=0
def tw6009923883138343285:=0
def tw299094178361980239:=0
def tw15251860999163272245:=0
def tw6284417046013808622:=0
def tw16276818918641721249:=0
def tw14514835910875651431:=0
def tw10541224944859961597:=0
def tw6972954910252760321:=0
def tw14493058513618043646:=0
def tw5851614563123032807:=0
def tw9512400893979932852:=0
def tw16366953297753216557:=0
def tw6402723334603499313:=0
def tw17487199133481317174:=0
def tw2577127412777319404:=0
def tw7567040230109346738:=0
def tw558107350408201221:=0
def tw7640042617270993403:=0
def tw15072143063096375415:=0
def tw14263666549584630108:=0
def tw183086805453532785:=0
def tw13117532101398934585:=0
def tw5437009927184273352:=0
def tw7976149591470014766:=0
def tw17351139169006181669:=0
def tw11155800436298730919:=0
def tw17917559830615316249:=0
def tw5968469910113697646:=0
def tw18208703023014060354:=0
def tw16807421171233522566:=0
def tw2402188799134301340:=0
def tw8384030781364441760:=0
def tw17685209557673525239:=0
def tw15330460214262116467:=0
def tw5483974232702689713:=0
def tw8399570870808027985:=0
def tw1603943443933909008:=0
def tw1936950089038867421:=0
def tw3521185690734066258:=0
def tw11148548857768254845:=0
def tw4800407521994117351:=0
def tw14125400953123617971:=0
def tw10485874221865150016:=0
def tw9393425919519052480:=0
def tw1916665418924245565:=0
def tw9586850902122505684:=0
def tw1417217523957450063:=0
def tw15313069988275090841:=0
def tw9524186463902732300:=0
def tw7342340435719951802:=0
def tw12492034291446021089:=0
def tw277080184947208432:=0
def tw9528251433148957410:=0
end PySem.W.Fast
open PySem PySem.W PyProof.Rows
set_option maxRecDepth 100000 in
set_option maxHeartbeats 0 in
theorem PySem.Challenge.cw_shadowpost_k57_whole_dials_tell_the_turn_holds : PySem.Challenge.rw_shadowpost_k57_whole_dials_tell_the_turn.Holds := by
 w_on;o_law;k_head;(case hw=>w_witness2)
 k_fill
 refine T.Z1P (l:=PySem.Challenge.rw_shadowpost_k57_whole_dials_tell_the_turn) rfl rfl (λw h Y=>by first|exact PySem.W.kIn_of Y|exact PySem.W.km_in_of Y) ?F
 case F=>
  intro w mg fa h KX G hmg
  refine' T.Z1F (a:=T.Fw.mk) (T.Tx.mk (mg_of KX G ?_) (mg_of KX G ?_) (mg_of KX G ?_) (mg_of KX G ?_) (mg_of KX G ?_) (mg_of KX G ?_) (mg_of KX G ?_) (P.ĳ KX G (λ_ _ _ _ _ _ _=>rfl) ?_ ?_ ?_ ?_) (P.ĳ KX G (λ_ _ _ _ _ _ _ _=>rfl) ?_ ?_ ?_ ?_) (P.ĳ KX G (λ_ _ _ _ _ _ _ _=>rfl) ?_ ?_ ?_ ?_) (P.ĳ KX G (λ_ _ _ _ _ _ _ _=>rfl) ?_ ?_ ?_ ?_) (P.ĳ KX G (λ_ _ _ _ _ _ _ _ _=>rfl) ?_ ?_ ?_ ?_) (P.ĳ KX G (λ_ _ _ _ _ _ _ _ _=>rfl) ?_ ?_ ?_ ?_) (P.ĳ KX G (λ_ _ _ _ _ _ _=>rfl) ?_ ?_ ?_ ?_) (P.ĳ KX G (λ_ _ _ _ _ _ _=>rfl) ?_ ?_ ?_ ?_) (P.ĳ KX G (λ_ _ _ _ _ _ _=>rfl) ?_ ?_ ?_ ?_) (P.Kf (λ_ _ _ _ _ _ _ _ _=>rfl) ?_ ?_ ?_ ?_) (P.ĳ KX G (λ_ _ _ _ _ _ _=>rfl) ?_ ?_ ?_ ?_) (P.ĳ KX G (λ_ _ _ _ _ _ _=>rfl) ?_ ?_ ?_ ?_) (P.ĳ KX G (λ_ _ _ _ _ _ _=>rfl) ?_ ?_ ?_ ?_) (P.ĳ KX G (λ_ _ _ _ _ _ _=>rfl) ?_ ?_ ?_ ?_) (P.ĳ KX G (λ_ _ _ _ _ _ _=>rfl) ?_ ?_ ?_ ?_) (P.ĳ KX G (λ_ _ _ _ _ _ _ _=>rfl) ?_ ?_ ?_ ?_) (P.ĳ KX G (λ_ _ _ _ _ _ _=>rfl) ?_ ?_ ?_ ?_) (P.Kf (λ_ _ _ _ _ _ _ _ _ _ _=>rfl) ?_ ?_ ?_ ?_) (P.ĳ KX G (λ_ _ _ _ _ _ _ _=>rfl) ?_ ?_ ?_ ?_) (P.ĳ KX G (λ_ _ _ _ _ _ _ _=>rfl) ?_ ?_ ?_ ?_) (P.ĳ KX G (λ_ _ _ _ _ _ _ _=>rfl) ?_ ?_ ?_ ?_) (P.ĳ KX G (λ_ _ _ _ _ _ _ _=>rfl) ?_ ?_ ?_ ?_) (P.ĳ KX G (λ_ _ _ _ _ _ _ _=>rfl) ?_ ?_ ?_ ?_) (P.ĳ KX G (λ_ _ _ _ _ _ _ _=>rfl) ?_ ?_ ?_ ?_) (P.ĳ KX G (λ_ _ _ _ _ _ _=>rfl) ?_ ?_ ?_ ?_) (P.ĳ KX G (λ_ _ _ _ _ _ _ _=>rfl) ?_ ?_ ?_ ?_) (P.ĳ KX G (λ_ _ _ _ _ _ _ _=>rfl) ?_ ?_ ?_ ?_) (P.ĳ KX G (λ_ _ _ _ _ _ _ _=>rfl) ?_ ?_ ?_ ?_) (P.ĳ KX G (λ_ _ _ _ _ _ _ _ _ _=>rfl) ?_ ?_ ?_ ?_) (P.ĳ KX G (λ_ _ _ _ _ _ _ _=>rfl) ?_ ?_ ?_ ?_) (P.ĳ KX G (λ_ _ _ _ _ _ _ _=>rfl) ?_ ?_ ?_ ?_) (P.ĳ KX G (λ_ _ _ _ _ _ _ _ _=>rfl) ?_ ?_ ?_ ?_) (P.ĳ KX G (λ_ _ _ _ _ _ _ _=>rfl) ?_ ?_ ?_ ?_) (P.ĳ KX G (λ_ _ _ _ _ _ _ _ _=>rfl) ?_ ?_ ?_ ?_) (P.ĳ KX G (λ_ _ _ _ _ _ _=>rfl) ?_ ?_ ?_ ?_) (mg_of KX G ?_) (mg_of KX G ?_) (mg_none_of KX G ?_) (mg_none_of KX G ?_) (mg_none_of KX G ?_) (mg_none_of KX G ?_) (mg_none_of KX G ?_) (mg_none_of KX G ?_) (mg_none_of KX G ?_) (mg_none_of KX G ?_) (P.eZ ?_) (P.kY ?_) ?_ ?_ (P.eZ ?_) (P.kY ?_) ?_ ?_ (P.eZ ?_) (P.kY ?_) ?_ ?_ (P.eZ ?_) (P.kY ?_) ?_ ?_ (P.eZ ?_) (P.kY ?_) ?_ ?_ (P.eZ ?_) (P.kY ?_) ?_ ?_ (P.eZ ?_) (P.kY ?_) ?_ ?_ ?_ ?_) hmg
  any_goals (dsimp only;k_is)
  any_goals first|kernel_rfl|(unfold L2.ĥ;kernel_rfl)
  all_goals skip
