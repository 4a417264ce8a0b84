import PyProof.Rows.All
import Wide.All
import OpenK.AllK
import Wide.FinOn
import Lean
import PyProof.EqAt
import PyProof.EqKinds
import PyProof.TupleCall
import PySem.Challenge.RW_shadowpost_k54_the_least_pointer
set_option Elab.async false
set_option linter.all false
set_option maxRecDepth 100000
set_option maxHeartbeats 4000000
namespace L2
open PySem PySem.Spec PyProof.Rows
abbrev Key:=Sum Int Str
def pF:Key->Value->Bool
 | .inl k,v=>Value.isInt k v
 | .inr x,v=>Value.isStrOf x v
def Zbt(w:World):Key->Int
 | .inl k=>hashInt k
 | .inr x=>hashStr w x
theorem Ŀ:∀{k:Key} {v:Value},pF k v=true->(∃i t,k=Sum.inl i/\v=Value.int i t)\/(∃x t,k=Sum.inr x/\v=Value.str x t)
 | .inl i,v,h=>by
   obtain⟨t,e⟩:=Value.isInt_shape (k:=i) (v:=v) h
   exact .inl ⟨i,t,rfl,e⟩
 | .inr x,v,h=>by
   obtain⟨t,e⟩:=Value.isStrOf_shape (x:=x) (v:=v) h
   exact .inr ⟨x,t,rfl,e⟩
def Ak(i:Int)(t:Tok):pF (.inl i) (.int i t)=true:=by simp[pF,Value.isInt]
def Am(x:Str)(t:Tok):pF (.inr x) (.str x t)=true:=by simp[pF,Value.isStrOf]
def QC(a b:Int):decide ((Sum.inl a:Key)=Sum.inl b)=(a== b):=by
 by_cases e:a=b
 ·subst e;simp
 ·have h:¬(Sum.inl a:Key)=Sum.inl b:=λq=>e (Sum.inl.inj q)
  rw[decide_eq_false h]
  exact(beq_eq_false_iff_ne.mpr e).symm
def QD(a b:Str):decide ((Sum.inr a:Key)=Sum.inr b)=decide (a=b):=by
 by_cases e:a=b
 ·subst e;simp
 ·have h:¬(Sum.inr a:Key)=Sum.inr b:=λq=>e (Sum.inr.inj q)
  rw[decide_eq_false h,decide_eq_false e]
def QF(a:Int)(b:Str):decide ((Sum.inl a:Key)=Sum.inr b)=false:=decide_eq_false (λq=>nomatch q)
def QG(a:Str)(b:Int):decide ((Sum.inr a:Key)=Sum.inl b)=false:=decide_eq_false (λq=>nomatch q)
def Ĵ(prog:Program)(w:World):PySem.KeyKind prog w Key where
 is:=pF
 hash:=Zbt w
 inj:=λv a b ha hb=>by
  rcases Ŀ ha with⟨i,t,rfl,rfl⟩|⟨x,t,rfl,rfl⟩
  ·rcases Ŀ hb with⟨j,u,rfl,e⟩|⟨y,u,rfl,e⟩
   ·injection e with e1 _;rw[e1]
   ·exact nomatch e
  ·rcases Ŀ hb with⟨j,u,rfl,e⟩|⟨y,u,rfl,e⟩
   ·exact nomatch e
   ·injection e with e1 _;rw[e1]
 byValue:=λk v h=>by
  rcases Ŀ h with⟨i,t,rfl,rfl⟩|⟨x,t,rfl,rfl⟩<;>rfl
 pyHash:=λhv h=>by
  rcases Ŀ hv with⟨i,t,rfl,rfl⟩|⟨x,t,rfl,rfl⟩
  ·exact wpAny_pyHash_int h
  ·exact wpAny_pyHash_str h
 eqBool:=λhu hv h=>by
  rcases Ŀ hu with⟨i,t,rfl,rfl⟩|⟨x,t,rfl,rfl⟩
  ·rcases Ŀ hv with⟨j,u,rfl,rfl⟩|⟨y,u,rfl,rfl⟩
   ·rw[QC] at h;exact wpAny_eqBool_int h
   ·rw[QF] at h;exact SeqAt.EqAt.int_str i t y u _ _ _ _ h
  ·rcases Ŀ hv with⟨j,u,rfl,rfl⟩|⟨y,u,rfl,rfl⟩
   ·rw[QG] at h;exact SeqAt.EqAt.str_int x t j u _ _ _ _ h
   ·rw[QD] at h;exact wpAny_eqBool_str h
 «strs» := fun k x t v h=>by
   rcases Ŀ h with⟨i,u,rfl,e⟩|⟨y,u,rfl,e⟩
   ·exact nomatch e
   ·injection e with e1 _
    subst e1
    cases v<;>rfl
def tX(prog:Program)(w:World)(i:Int)(t:Tok):(Ĵ prog w).is (.inl i) (.int i t)=true:=Ak i t
def tY(prog:Program)(w:World)(x:Str)(t:Tok):(Ĵ prog w).is (.inr x) (.str x t)=true:=Am x t
end L2
namespace L2
open PySem PySem.Spec PyProof.Rows
inductive V where
 |non|bl (b:Bool)|int (i:Int)|str (x:Str)|Lz (b:Array UInt8)|flt (b:UInt64)|ref (a:Addr)|ty (n:String)
 deriving DecidableEq
def RelV:V->Value->Prop
 | .non,u=>u=Value.none
 | .bl b,u=>u=Value.bool b
 | .int i,u=>∃t,u=Value.int i t
 | .str x,u=>∃t,u=Value.str x t
 | .Lz b,u=>∃t,u=Value.bytes b t
 | .flt b,u=>∃t,u=Value.float b t
 | .ref a,u=>u=Value.ref a
 | .ty n,u=>u=Value.type n
abbrev Vals:List V->List Value->Prop:=Paired RelV
theorem Vals.length{xs:List V}{us:List Value}(r:Vals xs us):xs.length=us.length:=Paired.length r
theorem Vals.get:∀{xs:List V} {us:List Value} {i:Nat} {x:V},Vals xs us->xs[i]?=some x->∃u,us[i]?=some u/\RelV x u
 |_,_,_,_,.nil,e=>by simp at e
 |_,_,0,_,.cons r _,e=>by simp at e;subst e;exact⟨_,rfl,r⟩
 |_,_,i+1,x,.cons _ t,e=>by
  obtain⟨u,h1,h2⟩:=Vals.get (i:=i) (x:=x) t (by simpa using e)
  exact⟨u,by simpa using h1,h2⟩
theorem Vals.append:∀{xs ys:List V} {us ws:List Value},Vals xs us->Vals ys ws->Vals (xs++ys) (us++ws)
 |_,_,_,_,.nil,s=>s
 |_,_,_,_,.cons r t,s=>.cons r (Vals.append t s)
theorem Vals.take:∀{xs:List V} {us:List Value} (n:Nat),Vals xs us->Vals (xs.take n) (us.take n)
 |_,_,0,_=>.nil
 |_,_,_+1,.nil=>.nil
 |_,_,n+1,.cons r t=>.cons r (Vals.take n t)
theorem Vals.drop:∀{xs:List V} {us:List Value} (n:Nat),Vals xs us->Vals (xs.drop n) (us.drop n)
 |_,_,0,r=>r
 |_,_,_+1,.nil=>.nil
 |_,_,n+1,.cons _ t=>Vals.drop n t
def iz:Option V->Option Value->Prop
 |some v,some u=>RelV v u
 |none,none=>True
 |_,_=>False
def KV{κ:Type}:List (κ×V)->List (κ×Value)->Prop:=Paired λ(p:κ×V) (q:κ×Value)=>p.1=q.1/\RelV p.2 q.2
def kV:Key->V
 | .inl i=>.int i
 | .inr x=>.str x
inductive HO where
 /-- a list -/
 |lst (xs:List V)
 /-- a tuple (never changes) -/
 |tup (xs:List V)
 /-- a dict whose keys are ints and texts;one whose keys are tuples of ints and texts (the empty one is both) -/
 |dK (kvs:List (Key×V))|dT (kvs:List (List Key×V))
 /-- a set of ints:its members,its size -/
 |set (S:Int->Bool) (n:Nat)
 /-- an instance of the class at C,its dict at dx,its attributes -/
 |ins (C dx:Addr) (fs:List (Str×V))
 /-- the dict of the instance at x -/
 |own (x:Addr)
 /-- the dict of an exception -/
 |xd (fs:List (Str×V))
 /-- a bound method,f of x -/
 |met (f x:Addr)
 /-- a range object lo,lo+1,.. below hi -/
 |rng (lo hi:Int)
 /-- a thing that is known to the object (the script;a dict while a loop walks it):read,never written while it is so -/
 |bU (o:Obj) (u:HO)
 /-- a code object's table -/
 |oK (q:Str)
 /-- a code made of such a table,by its name -/
 |QH (q:Str)
 /-- any other thing,by what is true of its one object (a def of one's own:Zdw a S n:=HO.ext λh=>..) -/
 |ext (φ:Heap->Prop)
abbrev Hp:=Addr->Option HO
def upd(H:Hp)(a:Addr)(o:HO):Hp:=λb=>if b=a then some o else H b
def č{H:Hp}{a:Addr}{o:HO}:upd H a o a=some o:=by unfold upd;rw[if_pos rfl]
def Ċ{H:Hp}{a b:Addr}{o:HO}(h:b≠a):upd H a o b=H b:=by unfold upd;rw[if_neg h]
def LC{H:Hp}{a b:Addr}{o u:HO}(h:H a=some o)(h':H b=some u)(d:o≠u):a≠b:=by
 intro e;subst e;rw[h] at h';exact d (Option.some.inj h')
def Ī{H:Hp}{a b:Addr}{o:HO}(h:H a=some o)(h':H b=none):a≠b:=by
 intro e;subst e;rw[h] at h';cases h'
section
variable(P:Program)(w:World)
def Ł(H:Hp)(h:Heap)(a:Addr):HO->Prop
 | .lst xs=>xs.length<=sizeLine/\∃(its:List Value) (n:Nat),Vals xs its/\h.get? a=some {cls:=.type "list",data:=.seq its.toArray n}
 | .tup xs=>xs.length<=sizeLine/\∃its:List Value,Vals xs its/\IsTup h a its.toArray
 | .dK kvs=>kvs.length<=sizeLine/\(a== sysModules)=false/\∃vs,KV kvs vs/\h.DictOf (Ĵ P w) a vs
 | .dT kvs=>kvs.length≤sizeLine∧(a== sysModules)=false∧∃xs:List (List Key×Addr×Value),
     Paired (λ(p:List Key×V) (q:List Key×Addr×Value)=>p.1=q.1/\H q.2.1=some (.tup (p.1.map kV))/\RelV p.2 q.2.2) kvs xs/\
     ∃o es ep,h.get? a=some o/\o.ExactDict/\o.data=.dict es ep/\es.toList=xs.map (entryOfKey (tupleKind (Ĵ P w)))/\(xs.map (·.1)).Nodup
 | .set S n=>h.SetOf (intKind P w) a S n
 | .ins C dx fs=>H dx=some (.own a)∧fs.length≤1000∧dx≠a∧h.get? a=some (PySem.W.instObj C dx)∧
     ∃mA,h.Ns1 dx mA/\(∀f,iz (fs.lookup f) (mA f))/\PySem.Within mA (fs.map (·.1))
 | .own _=>∃o,h.get? a=some o
 | .xd fs=>∃mA,h.Ns1 a mA/\∀f,iz (fs.lookup f) (mA f)
 | .rng lo hi=>∃t u v,h.get? a=some {cls:=.type "range",data:=.fields #[.int lo t,.int hi u,.int 1 v]}
 | .bU o u=>h.get? a=some o/\Ł H h a u
 | .oK q=>∃ps:Array Value,h.get? a=some {cls:=.none,data:=.fields ps}/\TriplesOk ps.toList/\∀pos cv,codeAmong pos ps.toList=some cv->∃c,cv=.ref c/\H c=some (.QH q)
 | .QH q=>h.CodeRec (.ref a) q
 | .met f x=>h.get? a=some (PySem.W.methodObj (.ref f) (.ref x))
 | .ext φ=>φ h/\(∃o,h.get? a=some o)/\∀h1 h2:Heap,φ h1->(∀o,h1.get? a=some o->h2.get? a=some o)->φ h2
def cR(H:Hp)(h:Heap):Prop:=∀a o,H a=some o->Ł P w H h a o
end
section
variable{P:Program}{w:World}{H H':Hp}{h h':Heap}{a:Addr}{o:HO}
theorem Ł.lt(x:Ł P w H h a o):a<h.objs.size:=by
 cases o with
 |lst xs=>obtain⟨_,_,_,_,e⟩:=x;exact Heap.lt_size e
 |tup xs=>obtain⟨_,_,_,p⟩:=x;exact p.lt
 |dK kvs=>obtain⟨_,_,_,_,o,_,_,e,_⟩:=x;exact Heap.lt_size e
 |dT kvs=>obtain⟨_,_,_,_,o,_,_,e,_⟩:=x;exact Heap.lt_size e
 |set S n=>obtain⟨o,_,_,_,e,_⟩:=x;exact Heap.lt_size e
 |ins C dx fs=>obtain⟨_,_,_,e,_⟩:=x;exact Heap.lt_size e
 |own y=>obtain⟨_,e⟩:=x;exact Heap.lt_size e
 |xd fs=>obtain⟨_,⟨_,_,_,e,_⟩,_⟩:=x;exact Heap.lt_size e
 |rng lo hi=>obtain⟨_,_,_,e⟩:=x;exact Heap.lt_size e
 |bU ob u=>obtain⟨e,_⟩:=x;exact Heap.lt_size e
 |oK q=>obtain⟨_,e,_⟩:=x;exact Heap.lt_size e
 |QH q=>obtain⟨c,o,_,_,z,e,_⟩:=x;cases z;exact Heap.lt_size e
 |met f y=>exact Heap.lt_size (show h.get? a=some _ from x)
 |ext φ=>obtain⟨_,⟨_,e⟩,_⟩:=x;exact Heap.lt_size e
theorem Paired.QJ{α β:Type}{F G:α->β->Prop}:∀{l₁:List α} {l₂:List β},Paired F l₁ l₂->(∀a b,F a b->G a b)->Paired G l₁ l₂
 |_,_,.nil,_=>.nil
 |_,_,.cons r t,f=>.cons (f _ _ r) (Paired.QJ t f)
def Ł.stay(x:Ł P w H h a o)(k:∀b u,(b=a\/H b=some (.own a))->h.get? b=some u->h'.get? b=some u)
 (ho:∀b,H b=some (.own a)->H' b=some (.own a))(ht:∀b xs,H b=some (.tup xs)->H' b=some (.tup xs))(hc:∀b q,H b=some (.QH q)->H' b=some (.QH q):=by exact λ_ _ z=>z):Ł P w H' h' a o:=by
 induction o with
 |lst xs=>obtain⟨z,its,n,r,e⟩:=x;exact⟨z,its,n,r,k _ _ (.inl rfl) e⟩
 |tup xs=>obtain⟨z,its,r,ob,e,c⟩:=x;exact⟨z,its,r,ob,k _ _ (.inl rfl) e,c⟩
 |dK kvs=>obtain⟨z,y,vs,r,ob,es,ep,e,c⟩:=x;exact⟨z,y,vs,r,ob,es,ep,k _ _ (.inl rfl) e,c⟩
 |dT kvs=>
  obtain⟨z,y,xs,r,ob,es,ep,e,c⟩:=x
  exact⟨z,y,xs,Paired.QJ r λp q z=>⟨z.1,ht _ _ z.2.1,z.2.2⟩,ob,es,ep,k _ _ (.inl rfl) e,c⟩
 |set S n=>obtain⟨ob,es,ep,t,e,c⟩:=x;exact⟨ob,es,ep,t,k _ _ (.inl rfl) e,c⟩
 |ins C dx fs=>
  obtain⟨d,z,ne,e,mA,⟨od,es,ep,e2,c⟩,r⟩:=x
  exact⟨ho _ d,z,ne,k _ _ (.inl rfl) e,mA,⟨od,es,ep,k _ _ (.inr d) e2,c⟩,r⟩
 |own y=>obtain⟨ob,e⟩:=x;exact⟨ob,k _ _ (.inl rfl) e⟩
 |xd fs=>obtain⟨mA,⟨od,es,ep,e,c⟩,r⟩:=x;exact⟨mA,⟨od,es,ep,k _ _ (.inl rfl) e,c⟩,r⟩
 |rng lo hi=>obtain⟨t,u,v,e⟩:=x;exact⟨t,u,v,k _ _ (.inl rfl) e⟩
 |bU ob u ih=>obtain⟨e,q⟩:=x;exact⟨k _ _ (.inl rfl) e,ih q⟩
 |oK q=>
  obtain⟨ps,e,t,r⟩:=x
  exact⟨ps,k a _ (.inl rfl) e,t,λpos cv z=>let ⟨c,z1,z2⟩:=r pos cv z;⟨c,z1,hc c q z2⟩⟩
 |QH q=>
  obtain⟨c,o,vs,t,z,e,r⟩:=x
  cases z
  exact⟨a,o,vs,t,rfl,k a _ (.inl rfl) e,r⟩
 |met f y=>
  have e:h.get? a=some (PySem.W.methodObj (.ref f) (.ref y)):=x
  show h'.get? a=some (PySem.W.methodObj (.ref f) (.ref y))
  exact k a _ (.inl rfl) e
 |ext φ=>obtain⟨p,⟨o,e⟩,st⟩:=x;exact⟨st _ _ p λo q=>k _ _ (.inl rfl) q,⟨o,k _ _ (.inl rfl) e⟩,st⟩
theorem cR.lt(x:cR P w H h)(e:H a=some o):a<h.objs.size:=(x a o e).lt
def cR.fresh(x:cR P w H h)(e:h.objs.size<=a):H a=none:=by
 cases q:H a with
 |none=>rfl
 |some u=>exact absurd (Nat.lt_of_lt_of_le (x.lt q) e) (Nat.lt_irrefl _)
def cR.kept(x:cR P w H h)(k:∀b u,h.get? b=some u->h'.get? b=some u):cR P w H h':=λa o e=>
 (x a o e).stay (λb u _ q=>k b u q) (λ_ q=>q) λ_ _ q=>q
def cR.laid(x:cR P w H h)(k:∀b u,h.get? b=some u->h'.get? b=some u)(hp:h.objs.size<=a)(new:Ł P w (upd H a o) h' a o):cR P w (upd H a o) h':=λb u e=>by
 have hn:=x.fresh hp
 by_cases hb:b=a
 ·subst hb;rw[č] at e;cases e;exact new
 ·rw[Ċ hb] at e
  exact(x b u e).stay (λc v _ q=>k c v q) (λc q=>by rw[Ċ (Ī q hn)];exact q) (λc xs q=>by rw[Ċ (Ī q hn)];exact q) λc xs q=>by rw[Ċ (Ī q hn)];exact q
end
def Rd(H:Hp)(a:Addr)(u:HO):Prop:=H a=some u\/∃o,H a=some (.bU o u)
def Rd.ok{P:Program}{w:World}{H:Hp}{h:Heap}{a:Addr}{u:HO}(r:Rd H a u)(x:cR P w H h):Ł P w H h a u:=by
 rcases r with r|⟨o,r⟩
 ·exact x a u r
 ·obtain⟨_,q⟩:=x a _ r
  exact q
def Wt:Option HO->Prop
 |some (.lst _)=>True
 |some (.dK _)=>True
 |some (.dT _)=>True
 |some (.set _ _)=>True
 |some (.ins _ _ _)=>True
 |some (.ext _)=>True
 |some (.xd _)=>True
 |_=>False
section
variable{P:Program}{w:World}{H:Hp}{h h':Heap}{x e:Addr}{o':HO}
def cR.write(ok:cR P w H h)(mu:Wt (H x))(he:e=x\/H e=some (.own x))(k:∀b u,b≠e->h.get? b=some u->h'.get? b=some u)(heo:∃u,h'.get? e=some u)
 (new:Ł P w (upd H x o') h' x o'):cR P w (upd H x o') h':=λb u q=>by
 have Wu:∀c y,H c=some (.own y)->c≠x:=λc y r z=>by subst z;rw[r] at mu;exact mu
 have Zbu:∀c xs,H c=some (.tup xs)->c≠x:=λc xs r z=>by subst z;rw[r] at mu;exact mu
 have Zbv:∀c q,H c=some (.QH q)->c≠x:=λc xs r z=>by subst z;rw[r] at mu;exact mu
 by_cases hb:b=x
 ·subst hb;rw[č] at q;cases q;exact new
 ·rw[Ċ hb] at q
  by_cases hbe:b=e
  ·have q':H b=some (.own x):=by
    rcases he with z|z
    ·exact absurd (hbe.trans z) hb
    ·rw[hbe];exact z
   rw[q] at q';cases q'
   obtain⟨v,hv⟩:=heo
   exact⟨v,by rw[hbe];exact hv⟩
  ·refine(ok b u q).stay (λc v hc r=>k c v ?_ r) (λc r=>by rw[Ċ (Wu c b r)];exact r) (λc xs r=>by rw[Ċ (Zbu c xs r)];exact r) λc xs r=>by rw[Ċ (Zbv c xs r)];exact r
   rcases hc with rfl|hc
   ·exact hbe
   ·rintro rfl
    rcases he with z|z
    ·exact Wu c b hc z
    ·rw[hc] at z;cases z;exact hb rfl
end
structure Un(fs ex:List Addr)(H H':Hp)(h h':Heap):Prop where
 keep:∀b o,h.get? b=some o->H b=none->b∉fs->b∉ex->h'.get? b=some o
 slot:∀b o,h.get? b=some o->H b=none->b∈fs->b∉ex->∃sl,h'.get? b=some {o with slots:=sl}
 free:∀b o,h.get? b=some o->H b=none->b∉ex->H' b=none
 there:∀b o,h.get? b=some o->b∉ex->∃o',h'.get? b=some o'
 tups:∀b xs,H b=some (.tup xs)->H' b=some (.tup xs)
 oO:∀b o u,H b=some (.bU o u)->H' b=some (.bU o u)
 jR:∀b q,H b=some (.oK q)->H' b=some (.oK q)
section
variable{fs fs' ex ex':List Addr}{H H1 H2:Hp}{h h1 h2 h':Heap}{a x e:Addr}{o:HO}
def Un.any(u:Un fs ex H H1 h h1){b:Addr}{ob:Obj}(q:h.get? b=some ob)(n:H b=none)(hx:b∉ex):∃sl,h1.get? b=some {ob with slots:=sl}:=by
 by_cases hb:b∈fs
 ·exact u.slot b ob q n hb hx
 ·exact⟨ob.slots,u.keep b ob q n hb hx⟩
def Un.kept(k:∀b u,h.get? b=some u->h'.get? b=some u):Un fs ex H H h h':=
 ⟨λb ob q _ _ _=>k b ob q,λb ob q _ _ _=>⟨ob.slots,k b ob q⟩,λ_ _ _ n _=>n,λb ob q _=>⟨ob,k b ob q⟩,λ_ _ q=>q,λ_ _ _ q=>q,λ_ _ q=>q⟩
def Un.refl:Un fs ex H H h h:=Un.kept λ_ _ q=>q
def Un.laid(k:∀b u,h.get? b=some u->h'.get? b=some u)(hp:h.objs.size<=a)(hn:H a=none):Un fs ex H (upd H a o) h h' where
 keep:=λb u q _ _ _=>k b u q
 slot:=λb u q _ _ _=>⟨u.slots,k b u q⟩
 free:=λb u q n _=>by rw[Ċ (Nat.ne_of_lt (Nat.lt_of_lt_of_le (Heap.lt_size q) hp))];exact n
 there:=λb u q _=>⟨u,k b u q⟩
 tups:=λb xs q=>by rw[Ċ (Ī q hn)];exact q
 oO:=λb u xs q=>by rw[Ċ (Ī q hn)];exact q
 jR:=λb ps q=>by rw[Ċ (Ī q hn)];exact q
def Un.write(mu:Wt (H x))(he:e=x\/H e=some (.own x))(k:∀b u,b≠e->h.get? b=some u->h'.get? b=some u)(heo:∃u,h'.get? e=some u):Un fs ex H (upd H x o) h h':=by
 have hx:∀b,H b=none->b≠x:=λb n z=>by subst z;rw[n] at mu;exact mu
 have hb:∀b,H b=none->b≠e:=λb n z=>by
  subst z
  rcases he with r|r
  ·exact hx b n r
  ·rw[n] at r;cases r
 have hm:∀b u,H b=some u->¬Wt (some u)->b≠x:=λb u q nm z=>by subst z;rw[q] at mu;exact nm mu
 refine⟨λb u q n _ _=>k b u (hb b n) q,λb u q n _ _=>⟨u.slots,k b u (hb b n) q⟩,λb u q n _=>by rw[Ċ (hx b n)];exact n,λb u q _=>?_,
  λb xs q=>by rw[Ċ (hm b _ q λz=>z)];exact q,λb u xs q=>by rw[Ċ (hm b _ q λz=>z)];exact q,λb ps q=>by rw[Ċ (hm b _ q λz=>z)];exact q⟩
 by_cases hbe:b=e
 ·subst hbe;exact heo
 ·exact⟨u,k b u hbe q⟩
end
def trk(h:Heap)(H:Hp):List Addr:=(List.range h.objs.size).filter λa=>(H a).isSome
def oR(h:Heap)(H:Hp):Heap:=PySem.W.hideAll h (trk h H)
def Ao(h:Heap)(H:Hp):(oR h H).objs.size=h.objs.size:=PySem.W.hideAll_size _ _
def Cy{h:Heap}{H:Hp}{b:Addr}{o:Obj}(e:h.get? b=some o)(n:H b=none):(oR h H).get? b=some o:=
 PySem.W.hideAll_get _ e λhm=>by
  have q:(H b).isSome=true:=(List.mem_filter.mp hm).2
  rw[n] at q;simp at q
def IK{h:Heap}{H:Hp}{b:Addr}{o:Obj}(e:(oR h H).get? b=some o):h.get? b=some o/\H b=none:=by
 have e':h.get? b=some o:=PySem.W.of_hideAll (trk h H) e
 refine⟨e',?_⟩
 cases q:H b with
 |none=>rfl
 |some x=>
  have hm:b∈trk h H:=List.mem_filter.mpr ⟨List.mem_range.mpr (Heap.lt_size e'),by simp[q]⟩
  have z:(oR h H).get? b=none:=PySem.W.hideAll_none (trk h H) hm
  rw[z] at e;cases e
def IV(g h:Heap)(L:Addr):List (Addr×Obj):=(List.range h.objs.size).filterMap λa=>if a=L\/(g.get? a).isSome=true then none else(h.get? a).map λo=>(a,o)
def rest(g h:Heap)(L d:Addr):List (Addr×Obj):=(IV g h L).filter λp=>decide (p.1≠d)
end L2
namespace L2
open PySem PySem.Spec PyProof.Rows
structure Mod(K:PySem.W.Frag)(mg:Str->Option Value)(base:Heap):Prop where
 Wv:K.In base
 glob:base.Ns mainGlobals mg
 blt:∃mb,base.Ns builtinsNs mb/\∀x:Str,x≠ "__name__" ->mb x=bootBuiltins x
 nolimit:base.NoLimit
def lams:List Str:=[]
abbrev qI(x:Str):Str:=(x ++ ".<locals>.") ++ "<lambda>"
def TabsOk(K:PySem.W.Frag)(mg:Str->Option Value)(base:Heap)(H:Hp):Prop:=∀x c P,x∈lams->PySem.W.tabIn K x=some (c,P)->PySem.W.CodeHd base c P/\H P=some (.oK (qI x))/\base.BuiltinsAt mg P
structure Cx where
 prog:Program
 w:World
 K:PySem.W.Frag
 mg:Str->Option Value
 base:Heap
 A:Around
 N:List Str
 s₀:Shared
 H₀:Hp
 env:Env
 outer:List Env
 stack:List Env
 ex:List Addr
 fn:Str->Bool
 calm:Bool
 pn:List (Addr×Obj)
 xe:Value->Shared->Prop
def frs(l:List Env):List Addr:=l.filterMap (·.frame)
abbrev Cx.fs(X:Cx):List Addr:=frs X.outer
def qJ(sc:Scope)(x:Str):Prop:=sc.names.lookup x=some .local\/sc.names.lookup x=some .cell\/sc.names.lookup x=some .free
def Loc(sc:Scope)(x:Str):Prop:=sc.names.lookup x=some .local\/sc.names.lookup x=some .cell
def Look(env:Env)(h:Heap)(m:Str->Option Value)(x:Str)(u:Value):Prop:=
 (env.kindOf x=some .local/\m x=some u)\/((env.kindOf x=some .cell\/env.kindOf x=some .free)/\∃c,env.cells.lookup x=some c/\h.IsCell c (some u))
structure Cx.Ok(X:Cx):Prop where
 mod:Mod X.K X.mg X.base
 kind:X.env.scope.kind=.function
 glob:X.env.globals=mainGlobals
 blt:X.env.builtins=builtinsNs
 above:X.s₀.heap.objs.size<=X.env.locals
 inj:∀x y c,X.env.cells.lookup x=some c->X.env.cells.lookup y=some c->x=y
 has:∀x,(X.env.kindOf x=some .cell\/X.env.kindOf x=some .free)->∃c,X.env.cells.lookup x=some c
 cab:∀x c,X.fn x=true->X.env.cells.lookup x=some c->X.s₀.heap.objs.size<=c
 hd:X.calm=true->X.A.handled=none
 frames:X.A.frames=some X.stack
 stk:X.stack=X.outer\/(X.stack=X.env::X.outer/\X.env.frame=some X.env.locals)
 exf:∀b∈X.ex,b≠X.env.locals/\∀x c,X.env.cells.lookup x=some c->c≠b
 bs:∀b o,X.base.get? b=some o->X.s₀.heap.get? b=some o/\X.H₀ b=none
 IW:X.base.objs.size<=X.s₀.heap.objs.size
 Aq:∀b o,X.base.get? b=some o->b∉X.ex
 I_:∀b∈X.ex,b∉X.fs
 jT:X.s₀.heap.FunFrames X.base X.outer
 QK:∀b∈X.fs,X.H₀ b=none
 tb:TabsOk X.K X.mg X.base X.H₀
structure Inv(X:Cx)(pins:List (Addr×Obj))(σ:List (Option V))(H:Hp)(s:Shared):Prop where
 ok:X.Ok
 os:s.os=X.s₀.os
 bare:AllBare s.gens
 base:Un X.fs X.ex X.H₀ H X.s₀.heap s.heap
 loc:∃m,s.heap.Ns X.env.locals m/\∀(i:Nat) (x:Str) (v:V),X.N[i]?=some x->σ[i]?=some (some v)->qJ X.env.scope x->∃u,RelV v u/\Look X.env s.heap m x u
 cell:∀x c,X.env.cells.lookup x=some c->∃v,s.heap.IsCell c v
 free:H X.env.locals=none
 dZ:∀x c,X.env.cells.lookup x=some c->H c=none
 pin:∀p∈X.pn++pins,s.heap.get? p.1=some p.2/\H p.1=none/\p.1≠X.env.locals/\p.1∉X.fs/\∀v,p.2.data≠ .cell v
 hok:cR X.prog X.w H s.heap
 len:σ.length=X.N.length
section
variable{X:Cx}{pins:List (Addr×Obj)}{σ:List (Option V)}{H H':Hp}{s:Shared}{h':Heap}
def Cx.Ok.Zbw(ok:X.Ok){b:Addr}{o:Obj}(e:X.base.get? b=some o):b∉X.fs:=λhb=>by
 have:=(ok.jT.mem hb).1
 rw[e] at this;cases this
theorem Inv.bs(I:Inv X pins σ H s):∀b o,X.base.get? b=some o->s.heap.get? b=some o/\H b=none:=λb o e=>
 ⟨I.base.keep b o (I.ok.bs b o e).1 (I.ok.bs b o e).2 (I.ok.Zbw e) (I.ok.Aq b o e),I.base.free b o (I.ok.bs b o e).1 (I.ok.bs b o e).2 (I.ok.Aq b o e)⟩
def Inv.bk(I:Inv X pins σ H s):∀b o,X.base.get? b=some o->s.heap.get? b=some o:=λb o e=>(I.bs b o e).1
theorem Inv.tb(I:Inv X pins σ H s):TabsOk X.K X.mg X.base H:=λx c P hx e=>⟨(I.ok.tb x c P hx e).1,I.base.jR _ _ (I.ok.tb x c P hx e).2.1,(I.ok.tb x c P hx e).2.2⟩
theorem Inv.mod(I:Inv X pins σ H s):Mod X.K X.mg X.base:=I.ok.mod
def Inv.kI(I:Inv X pins σ H s):X.K.In s.heap:=I.ok.mod.Wv.keeps I.bk
theorem Inv.lt(I:Inv X pins σ H s):X.env.locals<s.heap.objs.size:=let ⟨_,hn,_⟩:=I.loc;hn.lt
def Inv.sz(I:Inv X pins σ H s):X.s₀.heap.objs.size<=s.heap.objs.size:=Nat.le_trans I.ok.above (Nat.le_of_lt I.lt)
def Inv.Zbx(I:Inv X pins σ H s){a:Addr}(h:s.heap.objs.size<=a):a∉X.fs:=λhb=>by
 obtain⟨_,o,ho,_⟩:=I.ok.jT.mem hb
 exact absurd (Nat.lt_of_lt_of_le (Heap.lt_size ho) (Nat.le_trans I.sz h)) (Nat.lt_irrefl _)
def Inv.QL(I:Inv X pins σ H s):∀x c,X.env.cells.lookup x=some c->c≠X.env.locals:=λx c e z=>by
 obtain⟨v,o,ho,hd⟩:=I.cell x c e
 obtain⟨m,⟨o',es,ep,ho',hd',_⟩,_⟩:=I.loc
 rw[z,ho'] at ho;cases ho;rw[hd'] at hd;cases hd
theorem Inv.jT(I:Inv X pins σ H s):s.heap.FunFrames X.base X.outer:=by
 have all:∀(l:List Env),(∀b∈frs l,b∈X.fs)->X.s₀.heap.FunFrames X.base l->s.heap.FunFrames X.base l:=by
  intro l
  induction l with
  |nil=>intro _ _;trivial
  |cons env r ih=>
   intro hs hl
   obtain⟨hk,⟨L,o,hf,hn,ho,hd⟩,hr⟩:=hl
   have hL:L∈X.fs:=hs L (by unfold frs;rw[List.filterMap_cons,hf];exact List.mem_cons_self)
   obtain⟨sl,e⟩:=I.base.slot L o ho (I.ok.QK L hL) hL λz=>I.ok.I_ L z hL
   exact⟨hk,⟨L,_,hf,hn,e,hd⟩,ih (λb hb=>hs b (by unfold frs;rw[List.filterMap_cons,hf];exact List.mem_cons_of_mem _ hb)) hr⟩
 exact all X.outer (λ_ hb=>hb) I.ok.jT
theorem Inv.stack(I:Inv X pins σ H s):s.heap.FunFrames X.base X.stack:=by
 rcases I.ok.stk with e|⟨e,hf⟩
 ·rw[e];exact I.jT
 ·rw[e]
  obtain⟨m,hn,_⟩:=I.loc
  refine .cons (by rw[I.ok.kind];decide) hf hn ?_ I.jT
  exact Heap.get?_none_of_le (Nat.le_trans I.ok.IW I.ok.above)
def Inv.lM(I:Inv X pins σ H s):∀b∈frs X.stack,b∈X.env.locals::X.fs:=λb hb=>by
 rcases I.ok.stk with e|⟨e,hf⟩
 ·rw[e] at hb;exact List.mem_cons_of_mem _ hb
 ·rw[e] at hb
  unfold frs at hb
  rw[List.filterMap_cons,hf] at hb
  exact hb
def Inv.yg(I:Inv X pins σ H s):∀b∈frs X.stack,H b=none:=λb hb=>by
 rcases List.mem_cons.mp (I.lM b hb) with e|hb
 ·rw[e];exact I.free
 ·obtain⟨_,o,ho,_⟩:=I.ok.jT.mem hb
  exact I.base.free b o ho (I.ok.QK b hb) λz=>I.ok.I_ b z hb
def Inv.step{g':Array GenState}{t':Nat}{d':Drawn}{ch:List Addr}(I:Inv X pins σ H s)
 (hch:∀b∈ch,(b∈X.ex\/X.s₀.heap.objs.size<=b)/\b≠X.env.locals/\(∀x c,X.env.cells.lookup x=some c->c≠b)/\∀p∈X.pn++pins,p.1≠b)
 (keep:∀b o,b≠X.env.locals->b∉X.fs->b∉ch->s.heap.get? b=some o->H b=none->h'.get? b=some o)
 (slot:∀b o,b≠X.env.locals->b∈X.fs->b∉ch->s.heap.get? b=some o->H b=none->∃sl,h'.get? b=some {o with slots:=sl})(free:∀b o,b∉ch->s.heap.get? b=some o->H b=none->H' b=none)
 (there:∀b o,b∉ch->s.heap.get? b=some o->∃o',h'.get? b=some o')
 (tups:∀b xs,H b=some (.tup xs)->H' b=some (.tup xs))(oO:∀b o u,H b=some (.bU o u)->H' b=some (.bU o u))(jR:∀b q,H b=some (.oK q)->H' b=some (.oK q))
 (ns:∀m,s.heap.Ns X.env.locals m->h'.Ns X.env.locals m)(hok:cR X.prog X.w H' h')(hg:AllBare g') :
 Inv X pins σ H' {s with heap:=h',gens:=g',drawn:=d',toks:=t'}:=by
 have neL:∀b o,X.s₀.heap.get? b=some o->b≠X.env.locals:=λb o e=>Nat.ne_of_lt (Nat.lt_of_lt_of_le (Heap.lt_size e) I.ok.above)
 have neC:∀b o,X.s₀.heap.get? b=some o->b∉X.ex->b∉ch:=λb o e hx hb=>by
  rcases(hch b hb).1 with z|z
  ·exact hx z
  ·exact absurd (Nat.lt_of_lt_of_le (Heap.lt_size e) z) (Nat.lt_irrefl _)
 have cellK:∀x c,X.env.cells.lookup x=some c->∀v,s.heap.IsCell c v->h'.IsCell c v:=λx c e v ⟨o,ho,hd⟩=>by
  have Ww:c∉ch:=λz=>(hch c z).2.2.1 x c e rfl
  by_cases hc:c∈X.fs
  ·obtain⟨sl,q⟩:=slot c o (I.QL x c e) hc Ww ho (I.dZ x c e)
   exact⟨_,q,hd⟩
  ·exact⟨o,keep c o (I.QL x c e) hc Ww ho (I.dZ x c e),hd⟩
 refine⟨I.ok,I.os,hg,⟨λb o e n hb hx=>?_,λb o e n hb hx=>?_,λb o e n hx=>?_,λb o e hx=>?_,λb xs e=>tups b xs (I.base.tups b xs e),λb o xs e=>oO b o xs (I.base.oO b o xs e),λb ps e=>?_⟩,?_,λx c e=>?_,?_,λx c e=>?_,λp hp=>?_,hok,I.len⟩
 ·exact keep b o (neL b o e) hb (neC b o e hx) (I.base.keep b o e n hb hx) (I.base.free b o e n hx)
 ·obtain⟨sl,e1⟩:=I.base.slot b o e n hb hx
  obtain⟨sl',e2⟩:=slot b _ (neL b o e) hb (neC b o e hx) e1 (I.base.free b o e n hx)
  exact⟨sl',e2⟩
 ·obtain⟨o',e1⟩:=I.base.there b o e hx
  exact free b o' (neC b o e hx) e1 (I.base.free b o e n hx)
 ·obtain⟨o',e1⟩:=I.base.there b o e hx
  exact there b o' (neC b o e hx) e1
 ·exact jR b ps (I.base.jR b ps e)
 ·obtain⟨m,hn,hl⟩:=I.loc
  refine⟨m,ns m hn,λi x v e1 e2 e3=>?_⟩
  obtain⟨u,r,l⟩:=hl i x v e1 e2 e3
  refine⟨u,r,?_⟩
  rcases l with l|⟨k,c,e,z⟩
  ·exact .inl l
  ·exact .inr ⟨k,c,e,cellK x c e _ z⟩
 ·obtain⟨v,z⟩:=I.cell x c e
  exact⟨v,cellK x c e v z⟩
 ·obtain⟨m,⟨o,_,_,ho,_⟩,_⟩:=I.loc
  exact free _ o (λz=>(hch _ z).2.1 rfl) ho I.free
 ·obtain⟨v,o,ho,hd⟩:=I.cell x c e
  exact free c o (λz=>(hch c z).2.2.1 x c e rfl) ho (I.dZ x c e)
 ·obtain⟨e,n,ne,nf,d⟩:=I.pin p hp
  have Ww:p.1∉ch:=λz=>(hch p.1 z).2.2.2 p hp rfl
  exact⟨keep p.1 p.2 ne nf Ww e n,free p.1 p.2 Ww e n,ne,nf,d⟩
def Inv.un{t':Nat}(I:Inv X pins σ H s)(u:Un X.fs [] H H' s.heap h')(hok:cR X.prog X.w H' h'):Inv X pins σ H' {s with heap:=h',toks:=t'}:=by
 obtain⟨m,⟨o,es,ep,ho,r⟩,_⟩:=id I.loc
 obtain⟨sl,hL⟩:=u.any ho I.free (by simp)
 exact I.step (g':=s.gens) (d':=s.drawn) (ch:=[]) (λ_ z=>nomatch z) (λb o _ hb _ e n=>u.keep b o e n hb (by simp)) (λb o _ hb _ e n=>u.slot b o e n hb (by simp)) (λb o _ e n=>u.free b o e n (by simp)) (λb o _ e=>u.there b o e (by simp)) u.tups u.oO u.jR (λm' hm=>by
  obtain⟨o',es',ep',ho',r'⟩:=hm
  rw[ho] at ho';cases ho'
  exact⟨_,es',ep',hL,r'⟩) hok I.bare
def Inv.call{g':Array GenState}{t':Nat}{d':Drawn}{ch:List Addr}(I:Inv X pins σ H s)(u:Un (frs X.stack) ch H H' s.heap h')(hok:cR X.prog X.w H' h')(hg:AllBare g')
 (hch:∀b∈ch,(b∈X.ex\/X.s₀.heap.objs.size<=b)/\b≠X.env.locals/\(∀x c,X.env.cells.lookup x=some c->c≠b)/\∀p∈X.pn++pins,p.1≠b) :
 Inv X pins σ H' {s with heap:=h',gens:=g',drawn:=d',toks:=t'}:=by
 obtain⟨m,⟨o,es,ep,ho,r⟩,_⟩:=id I.loc
 obtain⟨sl,hL⟩:=u.any ho I.free λz=>(hch _ z).2.1 rfl
 exact I.step (ch:=ch) hch (λb o hL hb hc e n=>u.keep b o e n (λz=>(List.mem_cons.mp (I.lM b z)).elim hL hb) hc) (λb o _ _ hc e n=>u.any e n hc) (λb o hc e n=>u.free b o e n hc) (λb o hc e=>u.there b o e hc) u.tups u.oO u.jR (λm' hm=>by
  obtain⟨o',es',ep',ho',r'⟩:=hm
  rw[ho] at ho';cases ho'
  exact⟨_,es',ep',hL,r'⟩) hok hg
def Inv.turned{t':Nat}{it:Addr}(I:Inv X pins σ H s)(k:∀b o,b≠it->s.heap.get? b=some o->h'.get? b=some o)(hn:H it=none)(hL:it≠X.env.locals)
 (h1:it∈X.ex\/X.s₀.heap.objs.size<=it)(h2:∀x c,X.env.cells.lookup x=some c->c≠it)(h3:∀p∈X.pn++pins,p.1≠it):Inv X pins σ H {s with heap:=h',toks:=t'}:=by
 have Wx:∀b u,H b=some u->b≠it:=λb u e z=>by rw[z,hn] at e;cases e
 refine I.step (g':=s.gens) (d':=s.drawn) (ch:=[it]) (λb hb=>?_) (λb o _ _ hc e _=>k b o (λz=>hc (by simp[z])) e) (λb o _ _ hc e _=>⟨o.slots,k b o (λz=>hc (by simp[z])) e⟩) (λ_ _ _ _ n=>n)
  (λb o hc e=>⟨o,k b o (λz=>hc (by simp[z])) e⟩) (λ_ _ e=>e) (λ_ _ _ e=>e) (λ_ _ e=>e) (λm hm=>?_) (λb u e=>?_) I.bare
 ·have e:b=it:=by simpa using hb
  subst e
  exact⟨h1,hL,h2,h3⟩
 ·obtain⟨o,es,ep,ho,r⟩:=hm
  exact⟨o,es,ep,k _ o (Ne.symm hL) ho,r⟩
 ·refine(I.hok b u e).stay (λc v hc q=>k c v ?_ q) (λ_ q=>q) λ_ _ q=>q
  rcases hc with z|z
  ·rw[z];exact Wx b u e
  ·exact Wx c _ z
def Inv.tok(I:Inv X pins σ H s)(t:Nat):Inv X pins σ H {s with toks:=t}:=I.un (h':=s.heap) (t':=t) Un.refl I.hok
theorem Inv.kept{t':Nat}(I:Inv X pins σ H s)(k:∀b u,s.heap.get? b=some u->h'.get? b=some u):Inv X pins σ H {s with heap:=h',toks:=t'}:=I.un (Un.kept k) (I.hok.kept k)
theorem Inv.laid{a:Addr}{o:HO}{t':Nat}(I:Inv X pins σ H s)(k:∀b u,s.heap.get? b=some u->h'.get? b=some u)(hp:s.heap.objs.size<=a)(new:Ł X.prog X.w (upd H a o) h' a o) :
 Inv X pins σ (upd H a o) {s with heap:=h',toks:=t'}:=I.un (Un.laid k hp (I.hok.fresh hp)) (I.hok.laid k hp new)
theorem Inv.write{x e:Addr}{o:HO}{t':Nat}(I:Inv X pins σ H s)(mu:Wt (H x))(he:e=x\/H e=some (.own x))(k:∀b u,b≠e->s.heap.get? b=some u->h'.get? b=some u)(heo:∃u,h'.get? e=some u)
 (new:Ł X.prog X.w (upd H x o) h' x o):Inv X pins σ (upd H x o) {s with heap:=h',toks:=t'}:=I.un (Un.write mu he k heo) (I.hok.write mu he k heo new)
def Inv.yj{LK:List (Addr×Obj)}(I:Inv X pins σ H s)(h:∀p∈LK,s.heap.get? p.1=some p.2/\H p.1=none/\p.1≠X.env.locals/\p.1∉X.fs/\∀v,p.2.data≠ .cell v):Inv X LK σ H s:=
 ⟨I.ok,I.os,I.bare,I.base,I.loc,I.cell,I.free,I.dZ,λp hp=>(List.mem_append.mp hp).elim (λz=>I.pin p (List.mem_append_left _ z)) (h p),I.hok,I.len⟩
def tZ{N:List Str}(hN:N.Nodup){i j:Nat}{x:Str}(a:N[i]?=some x)(b:N[j]?=some x):i=j:=by
 obtain⟨h1,e1⟩:=List.getElem?_eq_some_iff.mp a
 obtain⟨h2,e2⟩:=List.getElem?_eq_some_iff.mp b
 exact(List.getElem_inj hN).mp (e1.trans e2.symm)
def pG{M:Model}{A:Around}{E:Value->Shared->Prop}{i:Nat}{x:Str}{v:V}{u:Value}{Q:Unit->Shared->Prop}(I:Inv X pins σ H s)(hN:X.N.Nodup)(hi:X.N[i]?=some x)(hx:Loc X.env.scope x)(r:RelV v u)
 (h:∀s',Inv X pins (σ.set i (some v)) H s'->(∃a,Heap.SameBut a s.heap s'.heap/\(a=X.env.locals\/X.env.cells.lookup x=some a))->Q () s')(hf:X.fn x=true\/X.env.scope.names.lookup x=some .local:=by first|exact .inl rfl|exact .inr rfl|assumption):wpAny M A (storeName X.env x u) Q E s:=by
 obtain⟨m,hn,hl⟩:=id I.loc
 have hcls:(X.env.scope.kind== .class || (X.env.scope.kind== .module && X.env.locals != X.env.globals))=false:=by rw[I.ok.kind];rfl
 have Zdh:i < σ.length:=by rw[I.len];exact(List.getElem?_eq_some_iff.mp hi).1
 have QL:=I.QL
 have tracked:∀{a:Addr} {h':Heap},(∃o,s.heap.get? a=some o/\H a=none)->Heap.SameBut a s.heap h'->cR X.prog X.w H h':=fun{a h'} ha hs b ob e=>by
  obtain⟨_,_,hfree⟩:=ha
  refine(I.hok b ob e).stay (λc w' hc q=>(hs.2 c ?_).trans q) (λ_ q=>q) λ_ _ q=>q
  rintro rfl
  rcases hc with rfl|hc
  ·rw[hfree] at e;cases e
  ·rw[hfree] at hc;cases hc
 rcases hx with hk|hk
 ·refine wpAny_storeName_local hk hn (λh' hn' hs=>?_) hcls
  obtain⟨oL,_,_,hoL,_⟩:=id hn
  refine h _ ⟨I.ok,I.os,I.bare,⟨λb o e n hb hx=>?_,λb o e n hb hx=>?_,I.base.free,λb o e hx=>?_,I.base.tups,I.base.oO,I.base.jR⟩,⟨_,hn',λj y v' e1 e2 e3=>?_⟩,λy c e=>?_,I.free,I.dZ,λp hp=>?_,tracked ⟨oL,hoL,I.free⟩ hs,by simpa using I.len⟩ ⟨_,hs,.inl rfl⟩
  ·exact(hs.2 b (Nat.ne_of_lt (Nat.lt_of_lt_of_le (Heap.lt_size e) I.ok.above))).trans (I.base.keep b o e n hb hx)
  ·obtain⟨sl,e1⟩:=I.base.slot b o e n hb hx
   exact⟨sl,(hs.2 b (Nat.ne_of_lt (Nat.lt_of_lt_of_le (Heap.lt_size e) I.ok.above))).trans e1⟩
  ·obtain⟨o',e1⟩:=I.base.there b o e hx
   exact⟨o',(hs.2 b (Nat.ne_of_lt (Nat.lt_of_lt_of_le (Heap.lt_size e) I.ok.above))).trans e1⟩
  ·by_cases hj:j=i
   ·subst hj
    rw[hi] at e1;cases e1
    rw[List.getElem?_set_self Zdh] at e2
    cases e2
    exact⟨u,r,.inl ⟨hk,by simp⟩⟩
   ·rw[List.getElem?_set_ne (Ne.symm hj)] at e2
    obtain⟨u',r',q⟩:=hl j y v' e1 e2 e3
    refine⟨u',r',?_⟩
    rcases q with⟨k,e⟩|⟨k,c,e,z⟩
    ·refine .inl ⟨k,?_⟩
     have:y≠x:=λe=>hj (tZ hN e1 (e▸hi))
     simp[this,e]
    ·exact .inr ⟨k,c,e,z.sameBut hs (QL y c e)⟩
  ·obtain⟨w',z⟩:=I.cell y c e
   exact⟨w',z.sameBut hs (QL y c e)⟩
  ·obtain⟨e,n,ne,nf,d⟩:=I.pin p hp
   exact⟨(hs.2 p.1 ne).trans e,n,ne,nf,d⟩
 ·have hfn:X.fn x=true:=by
   rcases hf with z|z
   ·exact z
   ·rw[z] at hk;cases hk
  obtain⟨c,hc⟩:=I.ok.has x (.inl hk)
  obtain⟨w',z⟩:=I.cell x c hc
  refine wpAny_storeName_cell I.ok.kind hk hc z (λh' hc' hs=>?_)
  obtain⟨oc,hoc,Zby⟩:=id z
  refine h {s with heap:=h'} ⟨I.ok,I.os,I.bare,⟨λb o e n hb hx=>?_,λb o e n hb hx=>?_,I.base.free,λb o e hx=>?_,I.base.tups,I.base.oO,I.base.jR⟩,⟨m,hn.sameBut hs (Ne.symm (QL x c hc)),λj y v' e1 e2 e3=>?_⟩,λy c' e=>?_,I.free,I.dZ,λp hp=>?_,tracked ⟨oc,hoc,I.dZ x c hc⟩ hs,by simpa using I.len⟩ ⟨c,hs,.inr hc⟩
  ·exact(hs.2 b (Nat.ne_of_lt (Nat.lt_of_lt_of_le (Heap.lt_size e) (I.ok.cab x c hfn hc)))).trans (I.base.keep b o e n hb hx)
  ·obtain⟨sl,e1⟩:=I.base.slot b o e n hb hx
   exact⟨sl,(hs.2 b (Nat.ne_of_lt (Nat.lt_of_lt_of_le (Heap.lt_size e) (I.ok.cab x c hfn hc)))).trans e1⟩
  ·obtain⟨o',e1⟩:=I.base.there b o e hx
   exact⟨o',(hs.2 b (Nat.ne_of_lt (Nat.lt_of_lt_of_le (Heap.lt_size e) (I.ok.cab x c hfn hc)))).trans e1⟩
  ·by_cases hj:j=i
   ·subst hj
    rw[hi] at e1;cases e1
    rw[List.getElem?_set_self Zdh] at e2
    cases e2
    exact⟨u,r,.inr ⟨.inl hk,c,hc,hc'⟩⟩
   ·rw[List.getElem?_set_ne (Ne.symm hj)] at e2
    obtain⟨u',r',q⟩:=hl j y v' e1 e2 e3
    refine⟨u',r',?_⟩
    rcases q with q|⟨k,c',e,z'⟩
    ·exact .inl q
    ·refine .inr ⟨k,c',e,z'.sameBut hs ?_⟩
     rintro rfl
     exact hj (tZ hN e1 (I.ok.inj _ _ _ e hc▸hi))
  ·by_cases hcc:c'=c
   ·subst hcc;exact⟨_,hc'⟩
   ·obtain⟨w2,z2⟩:=I.cell y c' e
    exact⟨w2,z2.sameBut hs hcc⟩
  ·obtain⟨e,n,ne,nf,d⟩:=I.pin p hp
   refine⟨(hs.2 p.1 ?_).trans e,n,ne,nf,d⟩
   intro q
   rw[q,hoc] at e
   have q':oc=p.2:=Option.some.inj e
   exact d w' (by rw[<-q'];exact Zby)
def t_{M:Model}{A:Around}{E:Value->Shared->Prop}{i:Nat}{x:Str}{v:V}{u:Value}{Q:Unit->Shared->Prop}(I:Inv X pins σ H s)(hN:X.N.Nodup)(hi:X.N[i]?=some x)(hx:Loc X.env.scope x)(r:RelV v u)
 (h:∀s',Inv X pins (σ.set i (some v)) H s'->Q () s')(hf:X.fn x=true\/X.env.scope.names.lookup x=some .local:=by first|exact .inl rfl|exact .inr rfl|assumption):wpAny M A (storeName X.env x u) Q E s:=
 pG I hN hi hx r (λs' I' _=>h s' I') hf
def Inv.call'{s':Shared}{ch:List Addr}(I:Inv X pins σ H s)(ho:s'.os=s.os)(u:Un (frs X.stack) ch H H' s.heap s'.heap)(hok:cR X.prog X.w H' s'.heap)(hg:AllBare s'.gens)
 (hch:∀b∈ch,(b∈X.ex\/X.s₀.heap.objs.size<=b)/\b≠X.env.locals/\(∀x c,X.env.cells.lookup x=some c->c≠b)/\∀p∈X.pn++pins,p.1≠b):Inv X pins σ H' s':=by
 obtain⟨h',g',d',t',o'⟩:=s'
 have e:o'=s.os:=ho
 subst e
 exact I.call (g':=g') (t':=t') (d':=d') u hok hg hch
end
abbrev XK:=Value->Option Addr->Hp->Prop
abbrev St:=List (Option V)
abbrev VK:=V->Hp->Prop
abbrev TE:=St->Hp->VK->Prop
abbrev TT:=St->Hp->(Bool->Hp->Prop)->Prop
abbrev TA:=St->Hp->(List V->Hp->Prop)->Prop
structure Ends where
 nx:St->Hp->Prop
 rt:VK
 bk:St->Hp->Prop:=λ_ _=>False
 ct:St->Hp->Prop:=λ_ _=>False
abbrev TS:=Ends->St->Hp->Prop
def EP(X:Cx)(pins:List (Addr×Obj))(σ:St)(Q:VK)(u:Value)(s':Shared):Prop:=∃v H',Inv X pins σ H' s'/\RelV v u/\Q v H'
def TP(X:Cx)(pins:List (Addr×Obj))(σ:St)(Q:Bool->Hp->Prop)(b:Bool)(s':Shared):Prop:=∃H',Inv X pins σ H' s'/\Q b H'
def AP(X:Cx)(pins:List (Addr×Obj))(σ:St)(Q:List V->Hp->Prop)(us:List Value)(s':Shared):Prop:=∃vs H',Inv X pins σ H' s'/\Vals vs us/\Q vs H'
def SP(X:Cx)(pins:List (Addr×Obj))(D:Ends)(f:Flow)(s':Shared):Prop:=
 match f with
 | .next=>∃σ' H',Inv X pins σ' H' s'/\D.nx σ' H'
 | .brk=>∃σ' H',Inv X pins σ' H' s'/\D.bk σ' H'
 | .cont=>∃σ' H',Inv X pins σ' H' s'/\D.ct σ' H'
 | .ret u=>∃v σ' H',Inv X pins σ' H' s'/\RelV v u/\D.rt v H'
def PE(X:Cx)(e:Expr)(t:TE):Prop:=
 ∀(pins:List (Addr×Obj)) (s:Shared) (σ:St) (H:Hp) (Q:VK),Inv X pins σ H s->t σ H Q->wpAny (model X.prog X.w) X.A (eval e X.env) (EP X pins σ Q) X.xe s
def PT(X:Cx)(e:Expr)(t:TT):Prop:=
 ∀(pins:List (Addr×Obj)) (s:Shared) (σ:St) (H:Hp) (Q:Bool->Hp->Prop),Inv X pins σ H s->t σ H Q->wpAny (model X.prog X.w) X.A (isTrue e X.env (eval e X.env)) (TP X pins σ Q) X.xe s
def PW(X:Cx)(e:Expr)(t:TT):Prop:=
 ∀(whole:Sem Value) (pins:List (Addr×Obj)) (s:Shared) (σ:St) (H:Hp) (Q:Bool->Hp->Prop),Inv X pins σ H s->t σ H Q->wpAny (model X.prog X.w) X.A (isTrue e X.env whole) (TP X pins σ Q) X.xe s
def PW.pt{X:Cx}{e:Expr}{t:TT}(h:PW X e t):PT X e t:=h _
def PA(X:Cx)(es:List Expr)(t:TA):Prop:=
 ∀(pos:Pos) (pins:List (Addr×Obj)) (s:Shared) (σ:St) (H:Hp) (Q:List V->Hp->Prop),Inv X pins σ H s->t σ H Q->wpAny (model X.prog X.w) X.A (spliced (backTo pos (starEach es X.env))) (AP X pins σ Q) X.xe s
def PS(X:Cx)(st:Stmt)(t:TS):Prop:=
 ∀(pins:List (Addr×Obj)) (s:Shared) (σ:St) (H:Hp) (D:Ends),Inv X pins σ H s->t D σ H->wpAny (model X.prog X.w) X.A (exec st X.env) (SP X pins D) X.xe s
def fY(X:Cx)(st:List Stmt)(t:TS):Prop:=
 ∀(pins:List (Addr×Obj)) (s:Shared) (σ:St) (H:Hp) (D:Ends),Inv X pins σ H s->t D σ H->wpAny (model X.prog X.w) X.A (execs st X.env) (SP X pins D) X.xe s
def Ľ{α:Type}{t:Sem α}{Q Q':α->Shared->Prop}{M:Model}{A:Around}{E:Value->Shared->Prop}{s:Shared}(h:wpAny M A t Q E s)(hQ:∀a s,Q a s->Q' a s):wpAny M A t Q' E s:=wpAny_mono h hQ λ_ _ x=>x
end L2
namespace L2
open PySem PySem.Spec PyProof.Rows
section
variable{X:Cx}
def lN(i:Nat):TE:=λσ H Q=>∃v,σ[i]?=some (some v)/\Q v H
def tC(v:V):TE:=λ_ H Q=>Q v H
def ş{i:Nat}{x:Str}{pos:Pos}(hN:X.N[i]?=some x)(hv:qJ X.env.scope x)(hd:(x== ("__debug__" :Str))=false:=by decide)(hcd:(x== ("__classdict__" :Str))=false:=by decide):PE X (.Name x pos) (lN i):=by
 intro pins s σ H Q I h
 obtain⟨v,e,h⟩:=h
 obtain⟨m,hn,hl⟩:=I.loc
 obtain⟨u,r,l⟩:=hl i x v hN e hv
 have fin:EP X pins σ Q u s:=⟨v,H,I,r,h⟩
 rcases l with⟨hk,hm⟩|⟨hk,c,hc,hcell⟩
 ·exact wpAny_Name (wpAny_loadName_local I.ok.kind hk hn hm fin) hd
 ·rcases hk with hk|hk
  ·exact wpAny_Name (wpAny_loadName_cell I.ok.kind hk hc hcell fin) hd
  ·exact wpAny_Name (wpAny_loadName_free I.ok.kind hk hc hcell fin hcd) hd
def qK{i j pos}:PE X (.Constant (.int i) j pos) (tC (.int i)):=λ_ _ _ H _ I h=>wpAny_Constant_int ⟨.int i,H,I.tok _,⟨_,rfl⟩,h⟩
def Wy{b j pos}:PE X (.Constant (.bool b) j pos) (tC (.bl b)):=λ_ _ _ H _ I h=>Constant_bool ⟨.bl b,H,I,rfl,h⟩
def QM{j pos}:PE X (.Constant .none j pos) (tC .non):=λ_ _ _ H _ I h=>Constant_none ⟨.non,H,I,rfl,h⟩
def QS{x j pos}:PE X (.Constant (.str x) j pos) (tC (.str x)):=λ_ _ _ H _ I h=>Calls.Constant_str ⟨.str x,H,I.tok _,⟨_,rfl⟩,h⟩
def Gl(X:Cx)(x:Str):Prop:=X.env.kindOf x=some .globalImplicit
def qL{E:Value->Shared->Prop}{pins:List (Addr×Obj)}{s:Shared}{σ:St}{H:Hp}{x:Str}{u:Value}{pos:Pos}{Q:Value->Shared->Prop}(I:Inv X pins σ H s)(hg:Gl X x)(hm:X.mg x=some u)(h:Q u s)
 (hd:(x== ("__debug__" :Str))=false:=by decide):wpAny (model X.prog X.w) X.A (eval (.Name x pos) X.env) Q E s:=
 Calls.Name_function_global I.ok.kind hg (Calls.loadGlobal_global (by rw[I.ok.glob];exact I.mod.glob.keeps I.bk) hm h) hd
def cT{E:Value->Shared->Prop}{pins:List (Addr×Obj)}{s:Shared}{σ:St}{H:Hp}{x:Str}{u:Value}{pos:Pos}{Q:Value->Shared->Prop}(I:Inv X pins σ H s)(hg:Gl X x)(hm:X.mg x=none)(hv:bootBuiltins x=some u)(h:Q u s)
 (hn:x≠ "__name__" := by decide)(hd:(x== ("__debug__" :Str))=false:=by decide):wpAny (model X.prog X.w) X.A (eval (.Name x pos) X.env) Q E s:=by
 obtain⟨mb,h1,h2⟩:=I.mod.blt
 exact Calls.Name_function_global I.ok.kind hg (Calls.loadGlobal_builtin (by rw[I.ok.glob];exact I.mod.glob.keeps I.bk) hm (by rw[I.ok.blt];exact h1.keeps I.bk) ((h2 x hn).trans hv) h) hd
def kJ{x:Str}{v:V}{u:Value}{pos:Pos}(hg:Gl X x)(hm:X.mg x=some u)(r:RelV v u)(hd:(x== ("__debug__" :Str))=false:=by decide):PE X (.Name x pos) (tC v):=
 λ_ _ _ H _ I h=>qL I hg hm ⟨v,H,I,r,h⟩ hd
def Ū{x:Str}{v:V}{u:Value}{pos:Pos}(hg:Gl X x)(hm:X.mg x=none)(hv:bootBuiltins x=some u)(r:RelV v u)(hn:x≠ "__name__" := by decide)(hd:(x== ("__debug__" :Str))=false:=by decide):PE X (.Name x pos) (tC v):=
 λ_ _ _ H _ I h=>cT I hg hm hv ⟨v,H,I,r,h⟩ hn hd
variable{a b:Expr}{ta tb:TE}{pos:Pos}
def PC(X:Cx)(op:CmpOp)(a b:Expr)(t:TE):Prop:=
 ∀(pins:List (Addr×Obj)) (s:Shared) (σ:St) (H:Hp) (Q:VK),Inv X pins σ H s->t σ H Q->
  wpAny (model X.prog X.w) X.A (eval a X.env) (λv s₁=>wpAny (model X.prog X.w) X.A (eval b X.env) (λu s₂=>wpAny (model X.prog X.w) X.A (compareOp op v u) (EP X pins σ Q) X.xe s₂) X.xe s₁) X.xe s
def tB(t:TE):TT:=λσ H Q=>t σ H λx H1=>∃c,x=.bl c/\Q c H1
def QT{op:CmpOp}{t:TE}(h:PC X op a b t)(h1:behindInMarks op b=false:=by first|exact Cz _ (by decide) (by decide)|rfl):PT X (.Compare a [op] [b] pos) (tB t):=by
 intro pins s σ H Q I hw
 refine wpAny_isTrue_Compare1 (Ľ (h pins s σ H _ I hw) λv s1 h1=>Ľ h1 λu s2 h2=>Ľ h2 λc s3 ⟨x,H1,I1,r1,q1⟩=>?_) h1
 obtain⟨d,rfl,q⟩:=q1
 cases r1
 exact wpAny_truthy_bool ⟨H1,I1,q⟩
variable{tA Wz:TT}{rest:List Expr}
def Zbz(t u:TT):TT:=λσ H Q=>t σ H λc H1=>if c=true then u σ H1 Q else Q false H1
def tOr(t u:TT):TT:=λσ H Q=>t σ H λc H1=>if c=true then Q true H1 else u σ H1 Q
def ZbA(t:TT):TT:=λσ H Q=>t σ H λc H1=>Q (!c) H1
def Ja(ha:PT X a tA):PW X (.BoolOp .And [a] pos) tA:=by
 intro wh pins s σ H Q I h
 refine isTrue_and (Ľ (ha pins s σ H Q I h) λc s1 e=>?_)
 cases c with
 |true=>exact isTrue_and_nil e
 |false=>exact e
def QV(ha:PT X a tA):PW X (.BoolOp .Or [a] pos) tA:=by
 intro wh pins s σ H Q I h
 refine isTrue_or (Ľ (ha pins s σ H Q I h) λc s1 e=>?_)
 cases c with
 |false=>exact isTrue_or_nil e
 |true=>exact e
def QW(ha:PT X a tA)(hb:PW X (.BoolOp .And (b::rest) pos) Wz):PW X (.BoolOp .And (a::b::rest) pos) (Zbz tA Wz):=by
 intro wh pins s σ H Q I h
 refine isTrue_and (Ľ (ha pins s σ H _ I h) λc s1 ⟨H1,I1,q1⟩=>?_)
 cases c with
 |true=>exact hb wh pins s1 σ H1 Q I1 q1
 |false=>exact⟨H1,I1,q1⟩
def WD(ha:PT X a tA)(hb:PW X (.BoolOp .Or (b::rest) pos) Wz):PW X (.BoolOp .Or (a::b::rest) pos) (tOr tA Wz):=by
 intro wh pins s σ H Q I h
 refine isTrue_or (Ľ (ha pins s σ H _ I h) λc s1 ⟨H1,I1,q1⟩=>?_)
 cases c with
 |true=>exact⟨H1,I1,q1⟩
 |false=>exact hb wh pins s1 σ H1 Q I1 q1
def QX(ha:PT X a tA):PT X (.UnaryOp .Not a pos) (ZbA tA):=by
 intro pins s σ H Q I h
 exact isTrue_not (ha pins s σ H (λc H1=>Q (!c) H1) I h)
def QZ{op}{t:TE}(h:PE X a t):PE X (.BoolOp op [a] pos) t:=λpins s σ H Q I hw=>BoolOp_one (h pins s σ H Q I hw)
end
end L2
namespace L2
open PySem PySem.Spec PyProof.Rows
def ř(K:PySem.W.Frag)(H:Hp)(a:Addr)(xs:List V):Prop:=
 Rd H a (.lst xs)\/
  ∃(o:Obj) (its:Array Value) (n:Nat),K.lookup a=some o/\o.cls=.type "list" /\o.dict=none/\o.data=.seq its n/\its.size<=sizeLine/\Vals xs its.toList
def aG(K:PySem.W.Frag)(H:Hp)(a:Addr)(xs:List V):Prop:=
 Rd H a (.tup xs)\/
  ∃(o:Obj) (its:Array Value) (n:Nat),K.lookup a=some o/\o.cls=.type "tuple" /\o.data=.seq its n/\its.size<=sizeLine/\Vals xs its.toList
def ZbB:Value->Option V
 | .none=>some .non
 | .bool b=>some (.bl b)
 | .int i _=>some (.int i)
 | .str x _=>some (.str x)
 | .bytes b _=>some (.Lz b)
 | .float b _=>some (.flt b)
 | .ref a=>some (.ref a)
 | .type n=>some (.ty n)
 |_=>none
def RelV.abs{x:V}{u:Value}(r:RelV x u):ZbB u=some x:=by
 cases x with
 |non=>cases r;rfl
 |bl _=>cases r;rfl
 |int _=>obtain⟨t,rfl⟩:=r;rfl
 |str _=>obtain⟨t,rfl⟩:=r;rfl
 |Lz _=>obtain⟨t,rfl⟩:=r;rfl
 |flt _=>obtain⟨t,rfl⟩:=r;rfl
 |ref _=>cases r;rfl
 |ty _=>cases r;rfl
theorem RelV.inj{x y:V}{u:Value}(r:RelV x u)(q:RelV y u):x=y:=Option.some.inj (r.abs.symm.trans q.abs)
theorem Vals.inj:∀{xs ys:List V} {us:List Value},Vals xs us->Vals ys us->xs=ys
 |_,_,_,.nil,.nil=>rfl
 |_,_,_,.cons r t,.cons r' t'=>by rw[r.inj r',Vals.inj t t']
section
variable{X:Cx}{pins:List (Addr×Obj)}{σ:St}{H:Hp}{s:Shared}{a:Addr}{xs ys:List V}
def ř.of{K:PySem.W.Frag}(h:H a=some (.lst xs)):ř K H a xs:=.inl (.inl h)
def aG.of{K:PySem.W.Frag}(h:H a=some (.tup xs)):aG K H a xs:=.inl (.inl h)
def Inv.list(I:Inv X pins σ H s)(h:ř X.K H a xs):∃its:List Value,Vals xs its/\PlainL s.heap a its.toArray/\xs.length<=sizeLine:=by
 rcases h with h|⟨o,its,n,hk,hc,hd,hs,hz,r⟩
 ·obtain⟨z,its,n,r,e⟩:=h.ok I.hok
  exact⟨its,r,⟨_,n,e,rfl,rfl,rfl⟩,z⟩
 ·refine⟨its.toList,r,⟨o,n,I.kI a o hk,hc,hd,by simpa using hs⟩,?_⟩
  have e:=r.length
  simp only[Array.length_toList] at e
  omega
def Inv.tuple(I:Inv X pins σ H s)(h:aG X.K H a xs):∃its:List Value,Vals xs its/\IsTup s.heap a its.toArray/\xs.length<=sizeLine:=by
 rcases h with h|⟨o,its,n,hk,hc,hs,hz,r⟩
 ·obtain⟨z,its,r,p⟩:=h.ok I.hok
  exact⟨its,r,p,z⟩
 ·refine⟨its.toList,r,⟨o,I.kI a o hk,hc,n,by simpa using hs⟩,?_⟩
  have e:=r.length
  simp only[Array.length_toList] at e
  omega
def Inv.lO(I:Inv X pins σ H s)(h:ř X.K H a xs)(h':ř X.K H a ys):xs=ys:=by
 obtain⟨its,r,⟨o,n,e,_,_,d⟩,_⟩:=I.list h
 obtain⟨its',r',⟨o',n',e',_,_,d'⟩,_⟩:=I.list h'
 rw[e] at e';cases e'
 rw[d] at d'
 injection d' with d1 _
 have:its=its':=by simpa using congrArg Array.toList d1
 subst this
 exact r.inj r'
def Inv.pH(I:Inv X pins σ H s)(h:aG X.K H a xs)(h':aG X.K H a ys):xs=ys:=by
 obtain⟨its,r,⟨o,e,_,n,d⟩,_⟩:=I.tuple h
 obtain⟨its',r',⟨o',e',_,n',d'⟩,_⟩:=I.tuple h'
 rw[e] at e';cases e'
 rw[d] at d'
 injection d' with d1 _
 have:its=its':=by simpa using congrArg Array.toList d1
 subst this
 exact r.inj r'
end
abbrev Cx.wish(X:Cx)(E:Value->Shared->Prop):Cx:={X with xe:=E}
abbrev Cx.Ň(X:Cx):Cx:=X.wish λ_ _=>False
theorem Cx.Ok.wish{X:Cx}(ok:X.Ok)(E:Value->Shared->Prop):(X.wish E).Ok:=
 ⟨ok.mod,ok.kind,ok.glob,ok.blt,ok.above,ok.inj,ok.has,ok.cab,ok.hd,ok.frames,ok.stk,ok.exf,ok.bs,ok.IW,ok.Aq,ok.I_,ok.jT,ok.QK,ok.tb⟩
def Cx.Ok.bV{X:Cx}{E:Value->Shared->Prop}(ok:(X.wish E).Ok):X.Ok:=
 ⟨ok.mod,ok.kind,ok.glob,ok.blt,ok.above,ok.inj,ok.has,ok.cab,ok.hd,ok.frames,ok.stk,ok.exf,ok.bs,ok.IW,ok.Aq,ok.I_,ok.jT,ok.QK,ok.tb⟩
section
variable{X:Cx}{pins:List (Addr×Obj)}{σ:St}{H:Hp}{s:Shared}{E:Value->Shared->Prop}
theorem Inv.wish(I:Inv X pins σ H s)(E:Value->Shared->Prop):Inv (X.wish E) pins σ H s:=⟨I.ok.wish E,I.os,I.bare,I.base,I.loc,I.cell,I.free,I.dZ,I.pin,I.hok,I.len⟩
theorem Inv.bV(I:Inv (X.wish E) pins σ H s):Inv X pins σ H s:=⟨I.ok.bV,I.os,I.bare,I.base,I.loc,I.cell,I.free,I.dZ,I.pin,I.hok,I.len⟩
theorem SP.bV{D:Ends}{f:Flow}{s':Shared}(h:SP (X.wish E) pins D f s'):SP X pins D f s':=by
 cases f with
 |next=>obtain⟨σ',H',I,q⟩:=h;exact⟨σ',H',I.bV,q⟩
 |brk=>obtain⟨σ',H',I,q⟩:=h;exact⟨σ',H',I.bV,q⟩
 |cont=>obtain⟨σ',H',I,q⟩:=h;exact⟨σ',H',I.bV,q⟩
 |ret u=>obtain⟨v,σ',H',I,r,q⟩:=h;exact⟨v,σ',H',I.bV,r,q⟩
theorem PE.Ň{e:Expr}{t:TE}(h:PE X.Ň e t):PE X e t:=λpins s σ H Q I hw=>
 wpAny_mono (h pins s σ H Q (I.wish _) hw) (λ_ _ ⟨v,H',I',r,q⟩=>⟨v,H',I'.bV,r,q⟩) λ_ _ z=>False.elim z
end
section
variable{X:Cx}{st:Stmt}{rest:List Stmt}{t u:TS}{e:Expr}{te:TE}{pos:Pos}
def WK:TS:=λD σ H=>D.nx σ H
def ZbC(t u:TS):TS:=λD σ H=>t {D with nx:=u D} σ H
def Jb:fY X [] WK:=λ_ _ σ H _ I h=>wpAny_execs_nil ⟨σ,H,I,h⟩
def CG(h1:PS X st t)(h2:fY X rest u):fY X (st::rest) (ZbC t u):=by
 intro pins s σ H D I h
 refine wpAny_execs_cons (Ľ (h1 pins s σ H {D with nx:=u D} I h) λf s1 q=>?_)
 cases f with
 |next=>
  obtain⟨σ',H',I',q⟩:=q
  exact h2 pins s1 σ' H' D I' q
 |ret v=>exact q
 |brk=>exact q
 |cont=>exact q
def Jc(h1:PS X st t):fY X [st] t:=by
 intro pins s σ H D I h
 refine wpAny_execs_cons (Ľ (h1 pins s σ H D I h) λf s1 q=>?_)
 cases f with
 |next=>exact wpAny_execs_nil q
 |ret v=>exact q
 |brk=>exact q
 |cont=>exact q
def WL:TS:=λD σ H=>D.ct σ H
def uc:PS X (.Continue pos) WL:=λ_ _ σ H _ I h=>wpAny_Continue ⟨σ,H,I,h⟩
def Inv.quiet{pins:List (Addr×Obj)}{σ:St}{H:Hp}{s:Shared}(I:Inv X pins σ H s):interactive X.env=false:=by simp[interactive,I.ok.kind]
def yq(te:TE):TS:=λD σ H=>te σ H λ_ H1=>D.nx σ H1
def Ŵ(he:PE X e te)(hs:swapsWith e none pos.line X.env=pure false:=by rfl):PS X (.Expr e pos) (yq te):=by
 intro pins s σ H D I h
 exact wpAny_Expr_any (Ľ (he pins s σ H _ I h) λv s1 ⟨x,H1,I1,r1,q1⟩=>⟨σ,H1,I1,q1⟩) I.quiet hs
def ZbD(te:TE):TS:=λD σ H=>te σ H D.rt
def Q_(he:PE X e te):PS X (.Return (some e) pos) (ZbD te):=by
 intro pins s σ H D I h
 exact wpAny_Return_some (Ľ (he pins s σ H _ I h) λv s1 ⟨x,H1,I1,r1,q1⟩=>⟨x,σ,H1,I1,r1,q1⟩)
def ZbE(c:TT)(t u:TS):TS:=λD σ H=>c σ H λb H1=>if b=true then t D σ H1 else u D σ H1
def WM{c:Expr}{a b:List Stmt}{tc:TT}(hc:PT X c tc)(ha:fY X a t)(hb:fY X b u):PS X (.If c a b pos) (ZbE tc t u):=by
 intro pins s σ H D I h
 refine wpAny_If (Ľ (hc pins s σ H _ I h) λd s1 ⟨H1,I1,q1⟩=>?_)
 cases d with
 |true=>exact ha pins s1 σ H1 D I1 q1
 |false=>exact hb pins s1 σ H1 D I1 q1
def Ra:TS:=λ_ _ _=>False
def CJ:PS X st Ra:=λ_ _ _ _ _ _ h=>h.elim
end
abbrev TG:=V->St->Hp->(St->Hp->Prop)->Prop
abbrev CK:=List V->St->Hp->(St->Hp->Prop)->Prop
def PG(X:Cx)(target:Expr)(t:TG):Prop:=
 ∀(pins:List (Addr×Obj)) (s:Shared) (σ:St) (H:Hp) (v:V) (u:Value) (Q:St->Hp->Prop),Inv X pins σ H s->RelV v u->t v σ H Q->
  wpAny (model X.prog X.w) X.A (assign target X.env u) (λ_ s'=>∃σ' H',Inv X pins σ' H' s'/\Q σ' H') X.xe s
def vY(X:Cx)(ts:List Expr)(t:CK):Prop:=
 ∀(pins:List (Addr×Obj)) (s:Shared) (σ:St) (H:Hp) (vs:List V) (us:List Value) (Q:St->Hp->Prop),Inv X pins σ H s->Vals vs us->t vs σ H Q->
  wpAny (model X.prog X.w) X.A (assignInOrder ((assignEach ts X.env).map (·.2)) us) (λ_ s'=>∃σ' H',Inv X pins σ' H' s'/\Q σ' H') X.xe s
section
variable{X:Cx}{pos:Pos}
def LQ(i:Nat):TG:=λv σ H Q=>Q (σ.set i (some v)) H
def Jd{i:Nat}{x:Str}(hN:X.N.Nodup)(hi:X.N[i]?=some x)(hx:Loc X.env.scope x)(hf:X.fn x=true\/X.env.scope.names.lookup x=some .local:=by first|exact .inl rfl|exact .inr rfl|assumption):PG X (.Name x pos) (LQ i):=by
 intro pins s σ H v u Q I r h
 exact wpAny_assign_Name (t_ I hN hi hx r (λs' I'=>⟨_,H,I',h⟩) hf)
def ZbF:CK:=λvs σ H Q=>vs=[]/\Q σ H
def WQ(t:TG)(u:CK):CK:=λvs σ H Q=>∃v r,vs=v::r/\t v σ H λσ' H'=>u r σ' H' Q
def Je:vY X [] ZbF:=by
 intro pins s σ H vs us Q I r h
 obtain⟨e,h⟩:=h
 subst e
 cases r
 exact assignInOrder_nil ⟨σ,H,I,h⟩
def CN{e:Expr}{es:List Expr}{t:TG}{u:CK}(h1:PG X e t)(h2:vY X es u)
 (hs:(assignEach (e::es) X.env).map (·.2)=assign e X.env::(assignEach es X.env).map (·.2):=by rfl):vY X (e::es) (WQ t u):=by
 intro pins s σ H vs us Q I r h
 obtain⟨v,vr,e1,h⟩:=h
 subst e1
 cases r with
 |cons r rr=>
  rw[hs]
  refine assignInOrder_cons (Ľ (h1 pins s σ H _ _ _ I r h) λ_ s1 ⟨σ1,H1,I1,q1⟩=>?_)
  exact h2 pins s1 σ1 H1 _ _ Q I1 rr q1
def ZbG(K:PySem.W.Frag)(n:Nat)(t:CK):TG:=λv σ H Q=>∃a xs,v=.ref a/\aG K H a xs/\xs.length=n/\t xs σ H Q
def CP{es:List Expr}{k:Nat}{t:CK}{n:Nat}(hc:X.calm=true)(h:vY X es t)
 (hn:(assignEach es X.env).length=n:=by rfl)(hst:(assignEach es X.env).findIdx? (·.1)=none:=by rfl):PG X (.Tuple es k pos) (ZbG X.K n t):=by
 intro pins s σ H v u Q I r hw
 obtain⟨a,xs,e1,hq,hl,hw⟩:=hw
 subst e1
 cases r
 obtain⟨its,rv,ht,hz⟩:=I.tuple hq
 refine assign_Tuple_tuple (I.ok.hd hc) ht (by simp[hn,<-hl,rv.length]) hst λh' hx=>?_
 have I1:Inv X pins σ H {s with heap:=h'}:=I.kept (t':=s.toks) λb o e=>hx b o (Nat.ne_of_lt (Heap.lt_size e)) e
 exact h pins _ σ H xs _ Q I1 (by simpa using rv) hw
def WR(te:TE)(g:TG):TS:=λD σ H=>te σ H λx H1=>g x σ H1 D.nx
def Rb{tg e:Expr}{te:TE}{g:TG}(he:PE X e te)(hg:PG X tg g)(hs:swapsWithSole [tg] e pos.line X.env=pure false:=by rfl)(hw:swappedStores [tg] e X.env=pure none:=by rfl)
 (h1:(assignEach [tg] X.env).map (·.2)=[assign tg X.env]:=by rfl):PS X (.Assign [tg] e pos) (WR te g):=by
 intro pins s σ H D I h
 refine wpAny_Assign_stores (Ľ (he pins s σ H _ I h) λv s1 ⟨x,H1,I1,r1,q1⟩=>?_) hs hw
 rw[h1]
 exact Ľ (hg pins s1 σ H1 x v _ I1 r1 q1) λ_ s2 q=>q
def qM{i:Nat}{x:Str}{e:Expr}{te:TE}{pos':Pos}(hN:X.N.Nodup)(hi:X.N[i]?=some x)(hx:Loc X.env.scope x)(he:PE X e te)(hs:swapsWith e (some (.Name x pos')) pos.line X.env=pure false:=by rfl)(hf:X.fn x=true\/X.env.scope.names.lookup x=some .local:=by first|exact .inl rfl|exact .inr rfl|assumption) :
 PS X (.Assign [.Name x pos'] e pos) (WR te (LQ i)):=by
 intro pins s σ H D I h
 refine wpAny_Assign_Name (Ľ (he pins s σ H _ I h) λv s1 ⟨y,H1,I1,r1,q1⟩=>?_) hs
 exact t_ I1 hN hi hx r1 (λs2 I2=>⟨_,H1,I2,q1⟩) hf
end
section
variable{X:Cx}{pos:Pos}
end
structure It where
 go:Nat->Hp->Prop
 yld:Nat->Hp->V->Hp->Prop
 stop:Nat->Hp->Prop
def cU(X:Cx)(pins:List (Addr×Obj))(H:Hp)(b:Addr):Prop:=
 H b=none/\b≠X.env.locals/\b∉X.fs/\(b∈X.ex\/X.s₀.heap.objs.size<=b)/\(∀x c,X.env.cells.lookup x=some c->c≠b)/\∀p∈X.pn++pins,p.1≠b
def Inv.Ar{X:Cx}{pins:List (Addr×Obj)}{σ:St}{H H':Hp}{s:Shared}{b:Addr}(I:Inv X pins σ H s)(hb:s.heap.objs.size<=b)(hn:H' b=none):cU X pins H' b:=by
 refine⟨hn,Nat.ne_of_gt (Nat.lt_of_lt_of_le I.lt hb),I.Zbx hb,.inr (Nat.le_trans I.sz hb),λx c e z=>?_,λp hp z=>?_⟩
 ·obtain⟨v,q⟩:=I.cell x c e
  exact absurd (Nat.lt_of_lt_of_le q.lt (by rw[z];exact hb)) (Nat.lt_irrefl _)
 ·exact absurd (Nat.lt_of_lt_of_le (Heap.lt_size (I.pin p hp).1) (by rw[z];exact hb)) (Nat.lt_irrefl _)
structure Turn(P:Program)(w:World)(K:PySem.W.Frag)(tg:Expr)(J:It)(fp:List Addr)(it:Addr)(tn:Nat->Heap->Prop):Prop where
 mem:it∈fp
 obj:∀i h,tn i h->∀b∈fp,∃o,h.get? b=some o/\∀v,o.data≠ .cell v
 keep:∀i h h',tn i h->(∀b∈fp,∀o,h.get? b=some o->h'.get? b=some o)->tn i h'
 item:∀(X:Cx),X.prog=P->X.w=w->X.K=K->X.calm=true->∀(i:Nat) (pins:List (Addr×Obj)) (s:Shared) (σ:St) (H:Hp) (E:Value->Shared->Prop),Inv X pins σ H s->(∀b∈fp,cU X pins H b)->tn i s.heap->J.go i H->
  wpAny (model P w) X.A (pyNext (.ref it)) (λr s1=>∃u,r=some u/\
   wpAny (model P w) X.A (letOwnedTupleGo tg (.ref it) u) (λ_ s2=>∃x H',Inv X pins σ H' s2/\RelV x u/\J.yld i H x H'/\tn (i+1) s2.heap/\∀b∈fp,H' b=none) E s1) E s
 done:∀(X:Cx),X.prog=P->X.w=w->X.K=K->X.calm=true->∀(i:Nat) (pins:List (Addr×Obj)) (s:Shared) (σ:St) (H:Hp) (E:Value->Shared->Prop),Inv X pins σ H s->(∀b∈fp,cU X pins H b)->tn i s.heap->J.stop i H->
  wpAny (model P w) X.A (pyNext (.ref it)) (λr s1=>r=none/\Inv X pins σ H s1) E s
 self:∀(A:Around) (i:Nat) (s:Shared) (Q:Value->Shared->Prop) (E:Value->Shared->Prop),tn i s.heap->Q (.ref it) s->wpAny (model P w) A (pyIter (.ref it)) Q E s
abbrev TI:=St->Hp->(It->Hp->Prop)->Prop
def PIE(X:Cx)(pins:List (Addr×Obj))(σ:St)(tg:Expr)(R:It->Hp->Prop)(itv:Value)(s2:Shared):Prop:=
 ∃(it:Addr) (fp:List Addr) (tn:Nat->Heap->Prop) (J:It) (H':Hp),itv=.ref it/\Inv X pins σ H' s2/\Turn X.prog X.w X.K tg J fp it tn/\tn 0 s2.heap/\(∀b∈fp,cU X pins H' b)/\R J H'
def PI(X:Cx)(tg iter:Expr)(wi:TI):Prop:=
 ∀(pins:List (Addr×Obj)) (s:Shared) (σ:St) (H:Hp) (R:It->Hp->Prop),Inv X pins σ H s->wi σ H R->
  wpAny (model X.prog X.w) X.A (eval iter X.env) (λv s1=>wpAny (model X.prog X.w) X.A (pyIter v) (PIE X pins σ tg R) X.xe s1) X.xe s
def yr{M:Model}{A:Around}{E:Value->Shared->Prop}{s:Shared}{tg:Expr}{it:Addr}{u:Value}{o:Obj}{n:String}{vs:Array Value}{Q:Unit->Shared->Prop}(ho:s.heap.get? it=some o)(hc:o.cls=.type n)(hd:o.data=.fields vs)
 (hn:["enumerate","zip","dict_itemiterator","dict_reverseitemiterator","odict_iterator","itertools.zip_longest","itertools.pairwise"].contains n=false)(hQ:Q () s):wpAny M A (letOwnedTupleGo tg (.ref it) u) Q E s:=by
 unfold letOwnedTupleGo
 cases tg<;>first
  |exact wpAny_pure hQ
  |(cases u<;>first
     |exact wpAny_pure hQ
     |(refine wpAny_bind (wpAny_load ho ?_)
       rw[hc,hd]
       show wpAny M A (if(["enumerate","zip","dict_itemiterator","dict_reverseitemiterator","odict_iterator","itertools.zip_longest","itertools.pairwise"].contains n && vs[0]?== some (rawInt _))=true then _ else _) Q E s
       rw[if_neg (by intro h;rw[hn,Bool.false_and] at h;cases h)]
       exact wpAny_pure hQ))
def Rf(K:PySem.W.Frag)(a:Addr):It:=
 ⟨λi H=>∃xs x,ř K H a xs/\xs[i]?=some x,λi H x H'=>H'=H/\∀xs,ř K H a xs->xs[i]?=some x,λi H=>∃xs,ř K H a xs/\xs.length<=i⟩
def WT(K:PySem.W.Frag)(a:Addr):It:=
 ⟨λi H=>∃xs x,aG K H a xs/\xs[i]?=some x,λi H x H'=>H'=H/\∀xs,aG K H a xs->xs[i]?=some x,λi H=>∃xs,aG K H a xs/\xs.length<=i⟩
def WW(lo:Int)(n:Nat):It:=⟨λi _=>i<n,λi H x H'=>H'=H/\x=.int (lo+i),λi _=>n<=i⟩
def Av{P:Program}{w:World}{K:PySem.W.Frag}{tg:Expr}(a it:Addr):Turn P w K tg (Rf K a) [it] it (λi h=>h.IsListIter it a i) where
 mem:=by simp
 obj:=λi h st b hb=>by
  have e:b=it:=by simpa using hb
  subst e
  obtain⟨o,e,c,d⟩:=st
  exact⟨o,e,λv z=>by rw[d] at z;cases z⟩
 keep:=λi h h' st k=>st.at λo e=>k it (by simp) o e
 item:=by
  intro X hP hw hK hc i pins s σ H E I hf st hg
  subst hP hw hK
  obtain⟨xs,x,hq,hx⟩:=hg
  obtain⟨its,rv,p,hz⟩:=I.list hq
  obtain⟨u,hu,ru⟩:=rv.get hx
  obtain⟨f0,f1,f2,f3,f4,f5⟩:=hf it (by simp)
  refine wpAny_pyNext_list_item st p.isList (x:=u) (by simpa using hu) λh' st' sb=>?_
  have I1:Inv X pins σ H {s with heap:=h'}:=I.turned (t':=s.toks) (λb o hb e=>(sb.2 b hb).trans e) f0 f1 f3 f4 f5
  obtain⟨o,e,c,d⟩:=id st'
  exact⟨u,rfl,yr (s:={s with heap:=h'}) e c d (by decide) ⟨x,H,I1,ru,⟨rfl,λys hy=>by rw[I.lO hy hq];exact hx⟩,st',λb hb=>(hf b hb).1⟩⟩
 done:=by
  intro X hP hw hK hc i pins s σ H E I hf st hg
  subst hP hw hK
  obtain⟨xs,hq,hx⟩:=hg
  obtain⟨its,rv,p,hz⟩:=I.list hq
  obtain⟨f0,f1,f2,f3,f4,f5⟩:=hf it (by simp)
  have hl:=rv.length
  exact wpAny_pyNext_list_end (I.ok.hd hc) st p.isList (by simp;omega) λh' eb=>⟨rfl,I.turned (t':=s.toks) (λb o hb e=>eb b o hb e) f0 f1 f3 f4 f5⟩
 self:=λ_ _ _ _ _ st h=>wpAny_pyIter_listiter st h
def wg{P:Program}{w:World}{K:PySem.W.Frag}{tg:Expr}(a it:Addr):Turn P w K tg (WT K a) [it] it (λi h=>h.IsTupleIter it a i) where
 mem:=by simp
 obj:=λi h st b hb=>by
  have e:b=it:=by simpa using hb
  subst e
  obtain⟨o,e,c,d⟩:=st
  exact⟨o,e,λv z=>by rw[d] at z;cases z⟩
 keep:=λi h h' st k=>st.at λo e=>k it (by simp) o e
 item:=by
  intro X hP hw hK hc i pins s σ H E I hf st hg
  subst hP hw hK
  obtain⟨xs,x,hq,hx⟩:=hg
  obtain⟨its,rv,p,hz⟩:=I.tuple hq
  obtain⟨u,hu,ru⟩:=rv.get hx
  obtain⟨f0,f1,f2,f3,f4,f5⟩:=hf it (by simp)
  refine wpAny_pyNext_tuple_item st (show s.heap.IsTuple a its.toArray from p) (x:=u) (by simpa using hu) λh' st' sb=>?_
  have I1:Inv X pins σ H {s with heap:=h'}:=I.turned (t':=s.toks) (λb o hb e=>(sb.2 b hb).trans e) f0 f1 f3 f4 f5
  obtain⟨o,e,c,d⟩:=id st'
  exact⟨u,rfl,yr (s:={s with heap:=h'}) e c d (by decide) ⟨x,H,I1,ru,⟨rfl,λys hy=>by rw[I.pH hy hq];exact hx⟩,st',λb hb=>(hf b hb).1⟩⟩
 done:=by
  intro X hP hw hK hc i pins s σ H E I hf st hg
  subst hP hw hK
  obtain⟨xs,hq,hx⟩:=hg
  obtain⟨its,rv,p,hz⟩:=I.tuple hq
  obtain⟨f0,f1,f2,f3,f4,f5⟩:=hf it (by simp)
  have hl:=rv.length
  exact wpAny_pyNext_tuple_end (I.ok.hd hc) st (show s.heap.IsTuple a its.toArray from p) (by simp;omega) λh' eb=>⟨rfl,I.turned (t':=s.toks) (λb o hb e=>eb b o hb e) f0 f1 f3 f4 f5⟩
 self:=λ_ _ _ _ _ st h=>wpAny_pyIter_tupleiter st h
def wj{P:Program}{w:World}{K:PySem.W.Frag}{tg:Expr}(it:Addr)(lo:Int)(n:Nat):Turn P w K tg (WW lo n) [it] it (λi h=>IsRangeIter h it (lo+(i:Nat)*1) ((n:Int)-(i:Nat)) 1) where
 mem:=by simp
 obj:=λi h st b hb=>by
  have e:b=it:=by simpa using hb
  subst e
  exact⟨_,st,λv z=>by
   have z':Data.fields _=Data.cell v:=z
   cases z'⟩
 keep:=λi h h' st k=>k it (by simp) _ st
 item:=by
  intro X hP hw hK hc i pins s σ H E I hf st hg
  subst hP hw hK
  obtain⟨f0,f1,f2,f3,f4,f5⟩:=hf it (by simp)
  have W:=Walks.range (prog:=X.prog) (w:=X.w) (I.ok.hd hc) it lo 1 n
  refine W.item i s _ _ hg st λv h' tk hv st' kk=>?_
  obtain⟨t,rfl⟩:=hv
  have I1:Inv X pins σ H {s with heap:=h',toks:=tk}:=I.turned (λb o hb e=>kk b o (by simpa using hb) e) f0 f1 f3 f4 f5
  refine⟨_,rfl,yr (s:={s with heap:=h',toks:=tk}) (n:= "range_iterator") st' rfl rfl (by decide) ⟨.int (lo+i),H,I1,⟨t,?_⟩,⟨rfl,rfl⟩,st',λb hb=>(hf b hb).1⟩⟩
  rw[Int.mul_one]
 done:=by
  intro X hP hw hK hc i pins s σ H E I hf st hg
  subst hP hw hK
  obtain⟨f0,f1,f2,f3,f4,f5⟩:=hf it (by simp)
  exact wpAny_pyNext_range_end (I.ok.hd hc) st (by have:n<=i:=hg;omega) λh' eb=>⟨rfl,I.turned (t':=s.toks) (λb o hb e=>eb b o hb e) f0 f1 f3 f4 f5⟩
 self:=λ_ _ _ _ _ st h=>wpAny_pyIter_rangeiter st h
end L2
namespace L2
open PySem PySem.Spec PyProof.Rows
section
variable{X:Cx}{tg:Expr}
def ud{pins:List (Addr×Obj)}{σ:St}{H:Hp}{s:Shared}{R:It->Hp->Prop}{E:Value->Shared->Prop}{lo hi:Int}{t u v:Tok}{tk:Nat}(I:Inv X pins σ H s)(h1: -(2 ^ 62)<=lo)(h2:lo<2 ^ 62)(h3: -(2 ^ 62)<=hi)(h4:hi<2 ^ 62)
 (q:R (WW lo (hi-lo).toNat) H):wpAny (model X.prog X.w) X.A (pyIter (.ref s.heap.objs.size)) (PIE X pins σ tg R) E {s with heap:=s.heap.push {cls:=.type "range",data:=.fields #[.int lo t,.int hi u,.int 1 v]},toks:=tk}:=by
 refine wpAny_pyIter_range (IsRange.new ..) (small_one h1 h2 h3 h4) ?_
 have I1:Inv X pins σ H {s with heap:=s.heap.push {cls:=.type "range",data:=.fields #[.int lo t,.int hi u,.int 1 v]},toks:=tk}:=I.kept λb o e=>Heap.get?_push_of_some _ e
 refine⟨(s.heap.push {cls:=.type "range",data:=.fields #[.int lo t,.int hi u,.int 1 v]}).objs.size,[(s.heap.push {cls:=.type "range",data:=.fields #[.int lo t,.int hi u,.int 1 v]}).objs.size],_,_,H,rfl,
  I1.kept (t':=tk) λb o e=>Heap.get?_push_of_some _ e,wj _ lo (hi-lo).toNat,?_,λb hb=>?_,q⟩
 ·have e1:lo+((0:Nat):Int)*1=lo:=by simp
  have e2:(((hi-lo).toNat:Nat):Int)-((0:Nat):Int)=Builtin.Range.rangeSize lo hi 1:=by rw[rangeSize_one];split<;>omega
  show IsRangeIter _ _ (lo+((0:Nat):Int)*1) ((((hi-lo).toNat:Nat):Int)-((0:Nat):Int)) 1
  rw[e1,e2]
  exact Heap.get?_push_size _ rfl
 ·have e:b=(s.heap.push {cls:=.type "range",data:=.fields #[.int lo t,.int hi u,.int 1 v]}).objs.size:=by simpa using hb
  subst e
  exact I1.Ar (Nat.le_refl _) (I1.hok.fresh (Nat.le_refl _))
def WX(ta:TA):TI:=λσ H R=>ta σ H λvs H1=>∃j:Int,vs=[.int j]/\ -(2 ^ 62)<=j/\j<2 ^ 62/\R (WW 0 j.toNat) H1
def WY(ta:TA):TI:=λσ H R=>ta σ H λvs H1=>∃i j:Int,vs=[.int i,.int j]/\(-(2 ^ 62)<=i/\i<2 ^ 62/\ -(2 ^ 62)<=j/\j<2 ^ 62)/\R (WW i (j-i).toNat) H1
def Aw{a:Expr}{ta:TA}{p pos:Pos}(hg:Gl X "range")(hm:X.mg "range" =none)(ha:PA X [a] ta)(hs:starEach [a] X.env=[(false,eval a X.env)]:=by rfl):PI X tg (.Call (.Name "range" p) [a] [] pos) (WX ta):=by
 intro pins s σ H R I h
 refine Call_ (cT I hg hm boot_range (PyProof.Rows.callWith_type1 (Ľ (ha pos pins s σ H _ I h) λus s1 ⟨vs,H1,I1,r1,q1⟩=>?_) hs rfl))
 obtain⟨j,e,q1,q2,q⟩:=q1
 subst e
 cases r1 with
 |cons r rr=>
  cases rr
  obtain⟨t,rfl⟩:=r
  exact call_range_1 (ud I1 (by omega) (by omega) q1 q2 (by simpa using q))
def Ax{a b:Expr}{ta:TA}{p pos:Pos}(hg:Gl X "range")(hm:X.mg "range" =none)(ha:PA X [a,b] ta)(hs:starEach [a,b] X.env=[(false,eval a X.env),(false,eval b X.env)]:=by rfl)(hs2:starEach [b] X.env=[(false,eval b X.env)]:=by rfl) :
 PI X tg (.Call (.Name "range" p) [a,b] [] pos) (WY ta):=by
 intro pins s σ H R I h
 refine Call_ (cT I hg hm boot_range (PyProof.Rows.callWith_type1 (Ľ (ha pos pins s σ H _ I h) λus s1 ⟨vs,H1,I1,r1,q1⟩=>?_) (by rw[hs,hs2]) (by rw[hs2];rfl)))
 obtain⟨i,j,e,⟨q1,q2,q3,q4⟩,q⟩:=q1
 subst e
 cases r1 with
 |cons r rr=>
  cases rr with
  |cons r' rr=>
   cases rr
   obtain⟨t,rfl⟩:=r
   obtain⟨t',rfl⟩:=r'
   exact call_range_2 (ud I1 q1 q2 q3 q4 q)
def W_(wi:TI)(g:TG)(tb:TS):TS:=λD σ H=>wi σ H λJ H1=>∃W:Nat->Nat->St->Hp->Prop,(∃m,W 0 m σ H1)/\∀i m σ H,W i m σ H->
 (J.stop i H/\D.nx σ H)\/(J.go i H/\∃N:St->Hp->Prop,(∀σ' H',N σ' H'->∃m',m'<m/\W (i+1) m' σ' H')/\∀x H',J.yld i H x H'->g x σ H' λσ2 H2=>tb {D with nx:=N,ct:=N,bk:=D.nx} σ2 H2)
def iB(fp:List Addr)(h:Heap):List (Addr×Obj):=fp.filterMap λb=>(h.get? b).map λo=>(b,o)
def ť{fp:List Addr}{h:Heap}{b:Addr}{o:Obj}(hb:b∈fp)(e:h.get? b=some o):(b,o)∈iB fp h:=List.mem_filterMap.mpr ⟨b,hb,by rw[e];rfl⟩
def Ay{fp:List Addr}{h:Heap}{p:Addr×Obj}(hp:p∈iB fp h):p.1∈fp/\h.get? p.1=some p.2:=by
 obtain⟨b,hb,e⟩:=List.mem_filterMap.mp hp
 cases q:h.get? b with
 |none=>rw[q] at e;cases e
 |some o=>
  rw[q] at e
  have e':(b,o)=p:=Option.some.inj e
  subst e'
  exact⟨hb,q⟩
def Inv.pinned{pins:List (Addr×Obj)}{σ:St}{H:Hp}{s:Shared}{fp:List Addr}(I:Inv X pins σ H s)(hf:∀b∈fp,cU X pins H b)(ho:∀b∈fp,∃o,s.heap.get? b=some o/\∀v,o.data≠ .cell v):Inv X (pins++iB fp s.heap) σ H s:=
 I.yj fun p hp=>(List.mem_append.mp hp).elim (fun z=>I.pin p (List.mem_append_right _ z)) fun z=>by
   obtain⟨hb,e⟩:=Ay z
   obtain⟨f0,f1,f2,_⟩:=hf p.1 hb
   obtain⟨o,e',d⟩:=ho p.1 hb
   rw[e] at e';cases e'
   exact⟨e,f0,f1,f2,d⟩
def Inv.cV{pins pl:List (Addr×Obj)}{σ:St}{H:Hp}{s:Shared}(I:Inv X (pins++pl) σ H s):Inv X pins σ H s:=I.yj λp hp=>I.pin p (List.mem_append_right _ (List.mem_append_left _ hp))
def Rg{iter:Expr}{body:List Stmt}{wi:TI}{g:TG}{tb:TS}{pos:Pos}(hp:PassesOwn (model X.prog X.w) X.A X.env X.xe)(hc:X.calm=true)(hi:PI X tg iter wi)(hg:PG X tg g)(hb:fY X body tb)
 (hs:∀x,foldedSetIterable iter X.env x=pure x:=by intro _;rfl):PS X (.For tg iter body [] pos) (W_ wi g tb):=by
 intro pins s σ H D I h
 refine wpAny_For (Ľ (hi pins s σ H _ I h) λv s1 h1=>Ľ h1 λitv s2 h2=>?_) hs
 obtain⟨it,fp,tn,J,H2,e,I2,T,st2,f2,W,⟨m0,w0⟩,turn⟩:=h2
 subst e
 -- what stays true of the iterator's objects through the loop
 have stat:∀{H':Hp},(∀b∈fp,H' b=none)->∀b∈fp,cU X pins H' b:=λhn b hb=>⟨hn b hb,(f2 b hb).2⟩
 refine codeAny_forLoop_any (λn s'=>∃i σ' H',Inv X pins σ' H' s'/\tn i s'.heap/\(∀b∈fp,H' b=none)/\W i n σ' H') ?_ m0 ⟨0,σ,H2,I2,st2,λb hb=>(f2 b hb).1,w0⟩
 rintro n s3 ⟨i,σ3,H3,I3,st3,fr3,w3⟩
 rcases turn i n σ3 H3 w3 with⟨stop,qn⟩|⟨go,N,hN,step⟩
 ·refine wpAny_passesOwn hp (Ľ (T.done X rfl rfl rfl hc i pins s3 σ3 H3 X.xe I3 (stat fr3) st3 stop) λr s4 ⟨hr,I4⟩=>?_)
  subst hr
  exact wpAny_execs_nil ⟨σ3,H3,I4,qn⟩
 ·refine wpAny_passesOwn hp (Ľ (T.item X rfl rfl rfl hc i pins s3 σ3 H3 X.xe I3 (stat fr3) st3 go) λr s4 ⟨u,hr,h4⟩=>?_)
  subst hr
  refine wpAny_passesOwn hp (Ľ h4 λ_ s5 ⟨x,H5,I5,r5,y5,Jf,Rh⟩=>?_)
  have I5':=I5.pinned (stat Rh) (T.obj _ _ Jf)
  refine wpAny_passesOwn hp (Ľ (hg _ s5 σ3 H5 x u _ I5' r5 (step x H5 y5)) λ_ s6 ⟨σ6,H6,I6,q6⟩=>?_)
  refine wpAny_passesOwn hp (Ľ (hb _ s6 σ6 H6 _ I6 q6) λf s7 q7=>?_)
  have again:∀{σ7:St} {H7:Hp},Inv X (pins++iB fp s5.heap) σ7 H7 s7->N σ7 H7->∃m,m<n/\∃i σ' H',Inv X pins σ' H' s7/\tn i s7.heap/\(∀b∈fp,H' b=none)/\W i m σ' H':=fun{σ7 H7} I7 n7=>by
   obtain⟨m',hm,w7⟩:=hN σ7 H7 n7
   refine⟨m',hm,i+1,σ7,H7,I7.cV,T.keep _ _ _ Jf λb hb o e=>(I7.pin (b,o) (List.mem_append_right _ (List.mem_append_right _ (ť hb e)))).1,λb hb=>?_,w7⟩
   obtain⟨o,e,d⟩:=T.obj _ _ Jf b hb
   exact(I7.pin (b,o) (List.mem_append_right _ (List.mem_append_right _ (ť hb e)))).2.1
  cases f with
  |next=>obtain⟨σ7,H7,I7,n7⟩:=q7;exact again I7 n7
  |cont=>obtain⟨σ7,H7,I7,n7⟩:=q7;exact again I7 n7
  |brk=>obtain⟨σ7,H7,I7,q7⟩:=q7;exact⟨σ7,H7,I7.cV,q7⟩
  |ret v=>obtain⟨x7,σ7,H7,I7,r7,q7⟩:=q7;exact⟨x7,σ7,H7,I7.cV,r7,q7⟩
end
end L2
namespace L2
open PySem PySem.Spec PyProof.Rows
abbrev R2:=V->V->Hp->VK->Prop
def ţ(X:Cx)(f:Value->Value->Sem Value)(r:R2):Prop:=
 ∀(pins:List (Addr×Obj)) (s:Shared) (σ:St) (H:Hp) (x y:V) (v u:Value) (Q:VK),Inv X pins σ H s->RelV x v->RelV y u->r x y H Q->
  wpAny (model X.prog X.w) X.A (f v u) (EP X pins σ Q) X.xe s
def Jg(X:Cx)(f:Value->Sem Value)(r:V->Hp->VK->Prop):Prop:=
 ∀(pins:List (Addr×Obj)) (s:Shared) (σ:St) (H:Hp) (x:V) (v:Value) (Q:VK),Inv X pins σ H s->RelV x v->r x H Q->
  wpAny (model X.prog X.w) X.A (f v) (EP X pins σ Q) X.xe s
def ŝ(X:Cx)(f:Value)(r:List V->Hp->VK->Prop):Prop:=
 ∀(pins:List (Addr×Obj)) (s:Shared) (σ:St) (H:Hp) (xs:List V) (us:List Value) (Q:VK),Inv X pins σ H s->Vals xs us->r xs H Q->
  wpAny (model X.prog X.w) X.A (call f us) (EP X pins σ Q) X.xe s
def ZbH(X:Cx)(r:V->Hp->(Bool->Hp->Prop)->Prop):Prop:=
 ∀(pins:List (Addr×Obj)) (s:Shared) (σ:St) (H:Hp) (x:V) (v:Value) (Q:Bool->Hp->Prop),Inv X pins σ H s->RelV x v->r x H Q->
  wpAny (model X.prog X.w) X.A (truthy v) (TP X pins σ Q) X.xe s
def LR(r:R2)(ta tb:TE):TE:=λσ H Q=>ta σ H λx H1=>tb σ H1 λy H2=>r x y H2 Q
def tUn(r:V->Hp->VK->Prop)(ta:TE):TE:=λσ H Q=>ta σ H λx H1=>r x H1 Q
def rI(C:Int->Int->Prop)(g:Int->Int->V):R2:=λx y H Q=>∃i j,x=.int i/\y=.int j/\C i j/\Q (g i j) H
def Ri(g:Int->Int->V):R2:=λx y H Q=>∃i j,x=.int i/\y=.int j/\Q (g i j) H
def rU(g:Int->V):V->Hp->VK->Prop:=λx H Q=>∃i,x=.int i/\Q (g i) H
section
variable{X:Cx}{a b c:Expr}{ta tb tc:TE}{pos:Pos}
def Rj(ha:PE X a ta)(hb:PE X b tb){pins:List (Addr×Obj)}{s:Shared}{σ:St}{H:Hp}{R:V->V->Hp->Prop}(I:Inv X pins σ H s)
 (h:ta σ H λx H1=>tb σ H1 λy H2=>R x y H2){Q:Value->Shared->Prop}{f:Value->Value->Sem Value}
 (hf:∀v u s2 x y H2,Inv X pins σ H2 s2->RelV x v->RelV y u->R x y H2->wpAny (model X.prog X.w) X.A (f v u) Q X.xe s2) :
 wpAny (model X.prog X.w) X.A (eval a X.env) (λv s₁=>wpAny (model X.prog X.w) X.A (eval b X.env) (λu s₂=>wpAny (model X.prog X.w) X.A (f v u) Q X.xe s₂) X.xe s₁) X.xe s:=by
 refine Ľ (ha pins s σ H _ I h) λv s1 ⟨x,H1,I1,r1,q1⟩=>?_
 refine Ľ (hb pins s1 σ H1 _ I1 q1) λu s2 ⟨y,H2,I2,r2,q2⟩=>?_
 exact hf v u s2 x y H2 I2 r1 r2 q2
def L_{op:Operator}{r:R2}(ho:ţ X (binaryOp op) r)(ha:PE X a ta)(hb:PE X b tb):PE X (.BinOp a op b pos) (LR r ta tb):=by
 intro pins s σ H Q I h
 exact wpAny_BinOp (Rj ha hb I h λv u s2 x y H2 I2 rx ry q=>ho pins s2 σ H2 x y v u Q I2 rx ry q)
def Ma{op:UnaryOp}{r:V->Hp->VK->Prop}(ho:Jg X (unaryOp op) r)(ha:PE X a ta):PE X (.UnaryOp op a pos) (tUn r ta):=by
 intro pins s σ H Q I h
 exact UnaryOp_ (Ľ (ha pins s σ H _ I h) λv s1 ⟨x,H1,I1,r1,q1⟩=>ho pins s1 σ H1 x v Q I1 r1 q1)
def Ir{f:Value->Value->Sem Value}{C:Int->Int->Prop}{g:Int->Int->Int}
 (rule:∀(i j:Int) (t u:Tok) (s:Shared) (Q:Value->Shared->Prop) (E:Value->Shared->Prop),C i j->Q (.int (g i j) s.toks) {s with toks:=s.toks+1}->wpAny (model X.prog X.w) X.A (f (.int i t) (.int j u)) Q E s) :
 ţ X f (rI C λi j=>.int (g i j)):=by
 intro pins s σ H x y v u Q I rx ry h
 obtain⟨i,j,rfl,rfl,hc,q⟩:=h
 obtain⟨t,rfl⟩:=rx
 obtain⟨t',rfl⟩:=ry
 exact rule i j t t' s _ _ hc ⟨.int (g i j),H,I.tok _,⟨_,rfl⟩,q⟩
def Az{f:Value->Value->Sem Value}{g:Int->Int->Int}
 (rule:∀(i j:Int) (t u:Tok) (s:Shared) (Q:Value->Shared->Prop) (E:Value->Shared->Prop),Q (.int (g i j) s.toks) {s with toks:=s.toks+1}->wpAny (model X.prog X.w) X.A (f (.int i t) (.int j u)) Q E s) :
 ţ X f (Ri λi j=>.int (g i j)):=by
 intro pins s σ H x y v u Q I rx ry h
 obtain⟨i,j,rfl,rfl,q⟩:=h
 obtain⟨t,rfl⟩:=rx
 obtain⟨t',rfl⟩:=ry
 exact rule i j t t' s _ _ ⟨.int (g i j),H,I.tok _,⟨_,rfl⟩,q⟩
def Xa{f:Value->Value->Sem Value}{g:Int->Int->Bool}
 (rule:∀(i j:Int) (t u:Tok) (s:Shared) (Q:Value->Shared->Prop) (E:Value->Shared->Prop),Q (.bool (g i j)) s->wpAny (model X.prog X.w) X.A (f (.int i t) (.int j u)) Q E s) :
 ţ X f (Ri λi j=>.bl (g i j)):=by
 intro pins s σ H x y v u Q I rx ry h
 obtain⟨i,j,rfl,rfl,q⟩:=h
 obtain⟨t,rfl⟩:=rx
 obtain⟨t',rfl⟩:=ry
 exact rule i j t t' s _ _ ⟨.bl (g i j),H,I,rfl,q⟩
def Xb(i j:Int):Prop:=0<j/\j<1073741824
def Rk(i j:Int):Prop:=0<=j/\j<=1000000/\i.natAbs<2 ^ 64
def Rm(i j:Int):Prop:=(-(2 ^ 64)<i/\i<2 ^ 64)\/(-(2 ^ 64)<j/\j<2 ^ 64)
def Rm.ok{i j:Int}(h:Rm i j):IntMulOk i j:=by
 rcases h with⟨h1,h2⟩|⟨h1,h2⟩
 ·exact .of_left (intBits_le_64 h1 h2)
 ·exact .of_right (intBits_le_64 h1 h2)
def Rn:ţ X (binaryOp .Add) (Ri λi j=>.int (i+j)):=Az λ_ _ _ _ _ _ _ q=>add_int q
def Ro:ţ X (binaryOp .Sub) (Ri λi j=>.int (i-j)):=Az λ_ _ _ _ _ _ _ q=>sub_int q
def Jh:ţ X (binaryOp .Mod) (rI (λ_ j=>j≠0) λi j=>.int (i.fmod j)):=Ir λ_ _ _ _ _ _ _ hc q=>mod_int' hc q
def Rq:ţ X (binaryOp .Pow) (rI Rk λi j=>.int (i ^ j.toNat)):=Ir λ_ _ _ _ _ _ _ hc q=>pow_int_small hc.1 hc.2.1 hc.2.2 q
def unI{f:Value->Sem Value}{g:Int->Int}
 (rule:∀(i:Int) (t:Tok) (s:Shared) (Q:Value->Shared->Prop) (E:Value->Shared->Prop),Q (.int (g i) s.toks) {s with toks:=s.toks+1}->wpAny (model X.prog X.w) X.A (f (.int i t)) Q E s) :
 Jg X f (rU λi=>.int (g i)):=by
 intro pins s σ H x v Q I rx h
 obtain⟨i,rfl,q⟩:=h
 obtain⟨t,rfl⟩:=rx
 exact rule i t s _ _ ⟨.int (g i),H,I.tok _,⟨_,rfl⟩,q⟩
def Rr:Jg X (unaryOp .USub) (rU λi=>.int (-i)):=unI λ_ _ _ _ _ q=>neg_int q
end
section
variable{X:Cx}{a b c:Expr}{ta tb tc:TE}{pos:Pos}
def CQ{pins:List (Addr×Obj)}{σ:St}{H:Hp}{s:Shared}{Q:VK}{k k':Bool}(I:Inv X pins σ H s)(q:Q (.bl k) H)(e:k=k'):EP X pins σ Q (.bool k') s:=by
 subst e
 exact⟨.bl k,H,I,rfl,q⟩
def Xc:ţ X (compareOp .Lt) (Ri λi j=>.bl (decide (i<j))):=Xa λ_ _ _ _ _ _ _ q=>lt_int q
def Xd:ţ X (compareOp .LtE) (Ri λi j=>.bl (decide (i<=j))):=Xa λ_ _ _ _ _ _ _ q=>le_int q
def iC:ţ X (compareOp .Is) (λx y H Q=>y=.non/\Q (.bl (decide (x=.non))) H):=by
 intro pins s σ H x y v u Q I rx ry h
 obtain⟨rfl,q⟩:=h
 cases ry
 refine is_none_gen (CQ I q ?_)
 cases x<;>first
  |(cases rx;rfl)
  |(obtain⟨t,rfl⟩:=rx;rfl)
def yt:ţ X (compareOp .IsNot) (λx y H Q=>y=.non/\Q (.bl (!decide (x=.non))) H):=by
 intro pins s σ H x y v u Q I rx ry h
 obtain⟨rfl,q⟩:=h
 cases ry
 refine isnot_none_gen (CQ I q ?_)
 cases x<;>first
  |(cases rx;rfl)
  |(obtain⟨t,rfl⟩:=rx;rfl)
def ţ.or{f:Value->Value->Sem Value}{r r':R2}(h:ţ X f r)(h':ţ X f r'):ţ X f (λx y H Q=>r x y H Q\/r' x y H Q):=by
 intro pins s σ H x y v u Q I rx ry q
 rcases q with q|q
 ·exact h pins s σ H x y v u Q I rx ry q
 ·exact h' pins s σ H x y v u Q I rx ry q
def ŗ(b:Expr){op:CmpOp}(h:op≠ .In:=by decide)(h2:op≠ .NotIn:=by decide):behindInMarks op b=false:=by
 have e1:(op== CmpOp.In)=false:=by cases op<;>first|rfl|exact absurd rfl h
 have e2:(op== CmpOp.NotIn)=false:=by cases op<;>first|rfl|exact absurd rfl h2
 cases b<;>simp[behindInMarks,e1,e2]
def Ji{op:CmpOp}{r:R2}(ho:ţ X (compareOp op) r)(ha:PE X a ta)(hb:PE X b tb)(hm:behindInMarks op b=false):PE X (.Compare a [op] [b] pos) (LR r ta tb):=by
 intro pins s σ H Q I h
 exact wpAny_Compare1 (Rj ha hb I h λv u s2 x y H2 I2 rx ry q=>ho pins s2 σ H2 x y v u Q I2 rx ry q) hm
def Rt(K:PySem.W.Frag)(x:V)(H:Hp)(k:Bool):Prop:=
 match x with
 | .non=>k=false
 | .bl b=>k=b
 | .int i=>k=(i != 0)
 | .str y=>y.length<=sizeLine/\k=((y.length:Int) != 0)
 | .Lz y=>y.size<=sizeLine/\k=((y.size:Int) != 0)
 | .ref p=>(∃xs,ř K H p xs/\k=!xs.isEmpty)\/(∃xs,aG K H p xs/\k=!xs.isEmpty)\/∃kvs,H p=some (.dK kvs)/\k=!kvs.isEmpty
 |_=>False
def wu{κ:Type}{kvs:List (κ×V)}{vs:List (κ×Value)}(r:KV kvs vs):(!vs.isEmpty)=!kvs.isEmpty:=by
 cases r<;>rfl
def lQ{xs:List V}{its:List Value}(r:Vals xs its):(!its.toArray.isEmpty)=!xs.isEmpty:=by
 cases r<;>simp
def lR:(sizeLine:Nat)<2 ^ 63:=by rw[sizeLine_eq];decide
def Ru:ZbH X (λx H Q=>∃k,Rt X.K x H k/\Q k H):=by
 intro pins s σ H x v Q I rx h
 obtain⟨k,e,q⟩:=h
 have hl:=lR
 have hs:sizeLine=16777216:=sizeLine_eq
 cases x with
 |non=>
  cases rx
  have e':k=false:=e
  subst e'
  exact truthy_none ⟨H,I,q⟩
 |bl b=>
  cases rx
  have e':k=b:=e
  subst e'
  exact wpAny_truthy_bool ⟨H,I,q⟩
 |int i=>
  obtain⟨t,rfl⟩:=rx
  have e':k=(i != 0):=e
  subst e'
  exact PySem.P.truthy_int ⟨H,I,q⟩
 |str y=>
  obtain⟨t,rfl⟩:=rx
  obtain⟨hy,e'⟩:y.length<=sizeLine/\k=((y.length:Int) != 0):=e
  subst e'
  exact PySem.P.truthy_str (by omega) ⟨H,I.tok _,q⟩
 |Lz y=>
  obtain⟨t,rfl⟩:=rx
  obtain⟨hy,e'⟩:y.size<=sizeLine/\k=((y.size:Int) != 0):=e
  subst e'
  exact PySem.W.truthy_bytes (by omega) ⟨H,I.tok _,q⟩
 |ref p=>
  cases rx
  have e':(∃xs,ř X.K H p xs/\k=!xs.isEmpty)\/(∃xs,aG X.K H p xs/\k=!xs.isEmpty)\/∃kvs,H p=some (.dK kvs)/\k=!kvs.isEmpty:=e
  rcases e' with⟨xs,hx,e'⟩|⟨xs,hx,e'⟩|⟨kvs,hx,e'⟩
  ·subst e'
   obtain⟨its,r,pl,hz⟩:=I.list hx
   have hlen:=r.length
   exact wpAny_truthy_list pl.isList (by simp only[List.size_toArray];omega) ⟨H,I.tok _,by rw[lQ r];exact q⟩
  ·subst e'
   obtain⟨its,r,pl,hz⟩:=I.tuple hx
   have hlen:=r.length
   exact truthy_tuple pl (by simp only[List.size_toArray];omega) ⟨H,I.tok _,by rw[lQ r];exact q⟩
  ·subst e'
   obtain⟨hz,hS,vs,r,m⟩:kvs.length<=sizeLine/\(p== sysModules)=false/\∃vs,KV kvs vs/\s.heap.DictOf (Ĵ X.prog X.w) p vs:=I.hok p _ hx
   have hlen:kvs.length=vs.length:=Paired.length r
   exact wpAny_truthy_dict hS m (by omega) ⟨H,I.tok _,by rw[wu r];exact q⟩
 |_=>exact(show False from e).elim
def CT(ha:PE X a ta)(he:∀whole,isTrue a X.env whole=(do let v <-whole;standAt a.pos;holding [v] (truthy v))) :
 PT X a (λσ H Q=>ta σ H λx H'=>∃k,Rt X.K x H' k/\Q k H'):=by
 intro pins s σ H Q I h
 exact isTrue_plain (Ľ (ha pins s σ H _ I h) λv s1 ⟨x,H1,I1,r1,q1⟩=>Ru pins s1 σ H1 x v Q I1 r1 q1) (he _)
def wz:ţ X (binaryOp .Add) (λx y H Q=>∃i j,x=.str i/\y=.str j/\i.length+j.length<=sizeLine/\Q (.str (i++j)) H):=by
 intro pins s σ H x y v u Q I rx ry h
 obtain⟨i,j,rfl,rfl,hz,q⟩:=h
 obtain⟨t,rfl⟩:=rx
 obtain⟨t',rfl⟩:=ry
 exact add_str (λt' tk=>⟨.str (i++j),H,I.tok _,⟨_,rfl⟩,q⟩) hz
def vals1{x:V}{us:List Value}(r:Vals [x] us):∃u,us=[u]/\RelV x u:=by
 cases r with
 |cons r1 r2=>cases r2;exact⟨_,rfl,r1⟩
def vals2{x y:V}{us:List Value}(r:Vals [x,y] us):∃u w',us=[u,w']/\RelV x u/\RelV y w':=by
 cases r with
 |cons r1 r2=>
  cases r2 with
  |cons r3 r4=>cases r4;exact⟨_,_,rfl,r1,r3⟩
def A_:ŝ X (.type "int") (λxs H Q=>(∃i,xs=[.int i]/\Q (.int i) H)\/∃k,xs=[.bl k]/\Q (.int (if k then 1 else 0)) H):=by
 intro pins s σ H xs us Q I r h
 rcases h with⟨i,rfl,q⟩|⟨k,rfl,q⟩
 ·obtain⟨u,rfl,t,rfl⟩:=vals1 r
  exact call_int_int ⟨.int i,H,I,⟨_,rfl⟩,q⟩
 ·obtain⟨u,rfl,r1⟩:=vals1 r
  cases r1
  exact call_int_bool ⟨.int (if k then 1 else 0),H,I.tok _,⟨_,rfl⟩,q⟩
def ZbI(K:PySem.W.Frag)(x:V)(H:Hp)(n:Nat):Prop:=
 match x with
 | .str y=>y.length<=sizeLine/\n=y.length
 | .Lz y=>y.size<=sizeLine/\n=y.size
 | .ref p=>(∃xs,ř K H p xs/\n=xs.length)\/∃xs,aG K H p xs/\n=xs.length
 |_=>False
def CV:ŝ X (.builtin "len") (λxs H Q=>∃x n,xs=[x]/\ZbI X.K x H n/\Q (.int n) H):=by
 intro pins s σ H xs us Q I r h
 obtain⟨x,n,rfl,e,q⟩:=h
 obtain⟨u,rfl,rx⟩:=vals1 r
 have hl:=lR
 have hs:sizeLine=16777216:=sizeLine_eq
 cases x with
 |str y=>
  obtain⟨t,rfl⟩:=rx
  obtain⟨hy,e'⟩:y.length<=sizeLine/\n=y.length:=e
  subst e'
  exact len_str (by omega) ⟨.int _,H,I.tok _,⟨_,rfl⟩,q⟩
 |Lz y=>
  obtain⟨t,rfl⟩:=rx
  obtain⟨hy,e'⟩:y.size<=sizeLine/\n=y.size:=e
  subst e'
  exact PySem.W.len_bytes (by omega) ⟨.int _,H,I.tok _,⟨_,rfl⟩,q⟩
 |ref p=>
  cases rx
  have e':(∃xs,ř X.K H p xs/\n=xs.length)\/∃xs,aG X.K H p xs/\n=xs.length:=e
  rcases e' with⟨xs,hx,e'⟩|⟨xs,hx,e'⟩
  ·subst e'
   obtain⟨its,r',pl,hz⟩:=I.list hx
   have hlen:=r'.length
   exact Calls.call_len_list pl.isList (by simp only[List.size_toArray];omega) ⟨.int xs.length,H,I.tok _,⟨_,by simp only[List.size_toArray];rw[hlen]⟩,q⟩
  ·subst e'
   obtain⟨its,r',pl,hz⟩:=I.tuple hx
   have hlen:=r'.length
   exact len_tuple pl (by simp only[List.size_toArray];omega) ⟨.int xs.length,H,I.tok _,⟨_,by simp only[List.size_toArray];rw[hlen]⟩,q⟩
 |_=>exact(show False from e).elim
def uf:ŝ X (.builtin "divmod") (λxs H Q=>∃i j,xs=[.int i,.int j]/\Xb i j/\∀p,H p=none->Q (.ref p) (upd H p (.tup [.int (i / j),.int (i % j)]))):=by
 intro pins s σ H xs us Q I r h
 obtain⟨i,j,rfl,⟨h1,h2⟩,q⟩:=h
 obtain⟨u,w',rfl,⟨t,rfl⟩,⟨t',rfl⟩⟩:=vals2 r
 refine divmod_int (by omega) ?_ (.inl (PyProof.noPylong_small (by omega)))
 rw[Int.fdiv_eq_ediv_of_nonneg i (by omega),Int.fmod_eq_emod_of_nonneg i (by omega)]
 have hn:H s.heap.objs.size=none:=I.hok.fresh (Nat.le_refl _)
 refine⟨.ref s.heap.objs.size,_,?_,rfl,q _ hn⟩
 refine I.laid (λb o e=>Heap.get?_push_of_some _ e) (Nat.le_refl _) ⟨by simp only[List.length_cons,List.length_nil];rw[sizeLine_eq];decide,[.int (i / j) s.toks,.int (i % j) (s.toks+1)],.cons ⟨_,rfl⟩ (.cons ⟨_,rfl⟩ .nil),?_⟩
 exact⟨_,Heap.get?_push_size s.heap rfl,rfl,0,rfl⟩
end
end L2
namespace L2
open PySem PySem.Spec PyProof.Rows
structure Ba(h:Heap)(x dx C:Addr)(mA:Str->Option Value):Prop where
 obj:h.get? x=some (PySem.W.instObj C dx)
 ns:h.Ns1 dx mA
 ne:dx≠x
def Bb{h:Heap}{dx:Addr}{mA:Str->Option Value}(n:h.Ns1 dx mA):∃od,h.get? dx=some od/\∀name,PySem.W.lookIn name od=some (mA name):=by
 obtain⟨o,es,ep,ho,hd,hk,_,hm⟩:=n
 refine⟨o,ho,λname=>?_⟩
 have e:=hm name
 unfold nsFind findBy at e
 rw[<-Array.find?_toList] at e
 unfold PySem.W.lookIn
 rw[hd]
 dsimp only
 split
 ·rename_i y q
  rw[q] at e
  exact congrArg some e
 ·rename_i q
  rw[q] at e
  have a:es.toList.any (·.refKey)=false:=by
   rw[List.any_eq_false]
   intro y hy
   obtain⟨z,t,hkey⟩:=hk y (Array.mem_toList_iff.mp hy)
   simp[DictEntry.refKey,hkey]
  have a':¬es.toList.any (·.refKey)=true:=by rw[a];exact Bool.false_ne_true
  rw[if_neg a']
  exact congrArg some e
def Ba.look{h:Heap}{x dx C:Addr}{mA:Str->Option Value}(I:Ba h x dx C mA):∃od,PySem.W.InstAt h x (PySem.W.instObj C dx) C (some od)/\∀name,PySem.W.lookIn name od=some (mA name):=
 let ⟨od,ho,hl⟩:=Bb I.ns
 ⟨od,⟨I.obj,rfl,rfl,ho⟩,hl⟩
section
variable{prog:Program}{w:World}{A:Around}{E:Value->Shared->Prop}{s:Shared}{K:PySem.W.Frag}{x dx C f:Addr}{mA:Str->Option Value}{name:Str}{v:Value}
def get_map{expr:Bool}{Q:Value->Shared->Prop}(X:K.In s.heap)(I:Ba s.heap x dx C mA)(hg:PySem.W.plainGet K C name=true)(hh:PySem.W.hasDictIn K C=true)
 (ha:PySem.W.findIn K (.ref C) name=some none)(hv:mA name=some v)(hv':PySem.W.handedIn v=true)(h:Q v {s with toks:=s.toks+1}) :
 wpAny (model prog w) A (getAttr (.ref x) name expr) Q E s:=by
 obtain⟨od,J,hl⟩:=I.look
 exact PySem.W.get_value X J (PySem.W.plainGet_of hg).1 (PySem.W.findObj_own hh ha rfl (by rw[hl,hv])) hv' h
def Jj{ns:List Str}{Q:Unit->Shared->Prop}(X:K.In s.heap)(I:Ba s.heap x dx C mA)
 (hs:PySem.W.findIn K (.ref C) "__setattr__" =some (some (.builtin "object.__setattr__")))(hp:PySem.W.plainOver K C=true)(ht:PySem.W.takerIn K C name=some none)(hh:PySem.W.hasDictIn K C=true)
 (hw:PySem.Within mA ns)(hsz:ns.length<=sizeLine)
 (h:∀h',Ba h' x dx C (λy=>if y=name then some v else mA y)->Heap.SameBut dx s.heap h'->Q () {s with heap:=h',toks:=s.toks+2}) :
 wpAny (model prog w) A (setAttr (.ref x) name v) Q E s:=by
 obtain⟨od,J,hl⟩:=I.look
 refine PySem.W.set_plain X J hs (PySem.W.osa_open (s:={s with toks:=s.toks+1}) (r:=none) X J hp ht λb=>?_)
 obtain⟨cd,hc,hd'⟩:=PySem.W.any_some hh
 have hx:s.heap.get? x=some ⟨.ref C,some dx,.plain,#[]⟩:=I.obj
 refine wpAny_bind (wpAny_pure (wpAny_bind (wpAny_bind (wpAny_loadPart hx (wpAny_bind (PySem.W.Looks.here (s:={s with toks:=s.toks+1}) (PySem.W.looks_clsIn X hc) ?_))))))
 rw[hd']
 refine wpAny_pure (a:=some dx) (wpAny_bind (wpAny_pure (wpAny_bind ?_)))
 refine wpAny_nsSet1 (s:={s with toks:=s.toks+1}) I.ns λh' hn2 hs2=>?_
 obtain⟨oD,esD,epD,hoD,hdD,hcD⟩:=hn2.count (PySem.Within.cons name v hw)
 refine wpAny_bind (wpAny_lookBehind hoD (by rw[hdD];exact pastItsLine_dict (Nat.le_trans hcD (by rw[List.length_cons];omega))) ?_)
 exact wpAny_pure (h _ ⟨(hs2.2 _ (Ne.symm I.ne)).trans I.obj,hn2,I.ne⟩ hs2)
def CW{R:Result->Shared->Prop}{vs:List Value}{kw:List (Str×Value)}(X:K.In s.heap)(hm:PySem.W.makesIn K C=true)
 (hi:PySem.W.findIn K (.ref C) "__init__" =some (some (.ref f)))(hf:PySem.W.typeIn K (.ref f)=some (.type "function"))
 (h:codeAny (model prog w) (A.under (.builtin "type.__call__" ⟨.ref C::vs,kw⟩)) (.call (.ref f) ⟨.ref (s.heap.objs.size+1)::vs,kw⟩) (PySem.W.InitBack (s.heap.objs.size+1) R)
   {s with heap:=(s.heap.push PySem.W.emptyDict).push (PySem.W.instObj C s.heap.objs.size)}) :
 codeAny (model prog w) A (.call (.ref C) ⟨vs,kw⟩) R s:=by
 obtain⟨hh,g,d,t,os⟩:=s
 exact PySem.W.make_core (PySem.W.makes_of X hm) (PySem.W.looks_findIn X hi) (λself=>PySem.W.bind_fn X self hf) (.inl rfl) h
end
def bW(f:Str)(v:V):List (Str×V)->List (Str×V)
 | []=>[(f,v)]
 |(g,x)::r=>if g=f then(g,v)::r else(g,x)::bW f v r
theorem ju(f g:Str)(v:V):∀fs:List (Str×V),(bW f v fs).lookup g=if g=f then some v else fs.lookup g
 | []=>by
   show List.lookup g [(f,v)]=_
   by_cases h:g=f
   ·have hb:(g== f)=true:=beq_iff_eq.mpr h
    simp only[List.lookup,hb,if_pos h]
   ·have hb:(g== f)=false:=beq_eq_false_iff_ne.mpr h
    simp only[List.lookup,hb,if_neg h]
 |(k,x)::r=>by
  have ih:=ju f g v r
  rw[show bW f v ((k,x)::r)=(if k=f then(k,v)::r else(k,x)::bW f v r) from rfl]
  by_cases hk:k=f
  ·rw[if_pos hk]
   by_cases h:g=k
   ·have hb:(g== k)=true:=beq_iff_eq.mpr h
    simp only[List.lookup,hb,if_pos (h.trans hk)]
   ·have hb:(g== k)=false:=beq_eq_false_iff_ne.mpr h
    simp only[List.lookup,hb,if_neg (λe:g=f=>h (e.trans hk.symm))]
  ·rw[if_neg hk]
   by_cases h:g=k
   ·have hb:(g== k)=true:=beq_iff_eq.mpr h
    simp only[List.lookup,hb,if_neg (λe:g=f=>hk (h.symm.trans e))]
   ·have hb:(g== k)=false:=beq_eq_false_iff_ne.mpr h
    simp only[List.lookup,hb]
    exact ih
theorem iD(f:Str)(v:V):∀fs:List (Str×V),f∈(bW f v fs).map (·.1)/\∀g,g∈fs.map (·.1)->g∈(bW f v fs).map (·.1)
 | []=>⟨by simp[bW],λg h=>by simp at h⟩
 |(k,x)::r=>by
  obtain⟨i1,i2⟩:=iD f v r
  rw[show bW f v ((k,x)::r)=(if k=f then(k,v)::r else(k,x)::bW f v r) from rfl]
  by_cases hk:k=f
  ·rw[if_pos hk]
   subst hk
   exact⟨by simp,λg h=>by simpa using h⟩
  ·rw[if_neg hk]
   refine⟨?_,λg h=>?_⟩
   ·rw[List.map_cons]
    exact List.mem_cons_of_mem _ i1
   ·rw[List.map_cons] at h ⊢
    rcases List.mem_cons.mp h with e|e
    ·exact List.mem_cons.mpr (.inl e)
    ·exact List.mem_cons_of_mem _ (i2 g e)
theorem jw(f:Str)(v:V):∀fs:List (Str×V),(bW f v fs).length<=fs.length+1
 | []=>by simp[bW]
 |(k,x)::r=>by
  have ih:=jw f v r
  rw[show bW f v ((k,x)::r)=(if k=f then(k,v)::r else(k,x)::bW f v r) from rfl]
  by_cases hk:k=f
  ·rw[if_pos hk,List.length_cons,List.length_cons];omega
  ·rw[if_neg hk,List.length_cons,List.length_cons];omega
def iz.some_of{v:V}{o:Option Value}(r:iz (some v) o):∃u,o=some u/\RelV v u:=by
 cases o with
 |none=>exact(show False from r).elim
 |some u=>exact⟨u,rfl,r⟩
def Bc{v:V}{u:Value}(r:RelV v u):PySem.W.handedIn u=true:=by
 cases v with
 |non=>cases(show u=Value.none from r);rfl
 |bl b=>cases(show u=Value.bool b from r);rfl
 |int i=>obtain⟨t,e⟩:=(show ∃t,u=Value.int i t from r);cases e;rfl
 |str x=>obtain⟨t,e⟩:=(show ∃t,u=Value.str x t from r);cases e;rfl
 |Lz b=>obtain⟨t,e⟩:=(show ∃t,u=Value.bytes b t from r);cases e;rfl
 |flt b=>obtain⟨t,e⟩:=(show ∃t,u=Value.float b t from r);cases e;rfl
 |ref a=>cases(show u=Value.ref a from r);rfl
 |ty n=>cases(show u=Value.type n from r);rfl
section
variable{P:Program}{w:World}{H H':Hp}{h h':Heap}{a C dx:Addr}{fs fs':List (Str×V)}
def qN(hok:cR P w H h)(e:H a=some (.ins C dx fs)):∃mA,Ba h a dx C mA/\(∀f,iz (fs.lookup f) (mA f))/\PySem.Within mA (fs.map (·.1))/\fs.length<=1000/\H dx=some (.own a):=by
 obtain⟨d,z,ne,ob,mA,n,r,q⟩:=(show Ł P w H h a (.ins C dx fs) from hok a _ e)
 exact⟨mA,⟨ob,n,ne⟩,r,q,z,d⟩
end
structure Cls(K:PySem.W.Frag)(C:Addr):Prop where
 pg:PySem.W.plainGet K C Str.empty=true
 hd:PySem.W.hasDictIn K C=true
 po:PySem.W.plainOver K C=true
 sa:PySem.W.findIn K (.ref C) "__setattr__" =some (some (.builtin "object.__setattr__"))
def Cls.get{K:PySem.W.Frag}{C:Addr}(c:Cls K C)(f:Str):PySem.W.plainGet K C f=true:=c.pg
def Ĩ(K:PySem.W.Frag)(C:Addr)(f:Str):Prop:=PySem.W.findIn K (.ref C) f=some none
def Ĩ.taker{K:PySem.W.Frag}{C:Addr}{f:Str}(n:Ĩ K C f):PySem.W.takerIn K C f=some none:=by
 unfold PySem.W.takerIn
 rw[show PySem.W.findIn K (.ref C) f=some none from n]
 rfl
section
variable{X:Cx}{pins:List (Addr×Obj)}{σ:St}{H:Hp}{s:Shared}{a C dx:Addr}{fs:List (Str×V)}{f:Str}{v:V}{A:Around}{E:Value->Shared->Prop}
def wA{b:Bool}{Q:Value->Shared->Prop}(I:Inv X pins σ H s)(e:H a=some (.ins C dx fs))(c:Cls X.K C)(n:Ĩ X.K C f)(l:fs.lookup f=some v)
 (h:∀u s',Inv X pins σ H s'->RelV v u->Q u s'):wpAny (model X.prog X.w) A (getAttr (.ref a) f b) Q E s:=by
 obtain⟨mA,O,r,_,_,_⟩:=qN I.hok e
 obtain⟨u,hu,ru⟩:=iz.some_of (v:=v) (o:=mA f) (by rw[<-l];exact r f)
 exact get_map I.kI O (c.get f) c.hd n hu (Bc ru) (h u _ (I.tok _) ru)
def wB{y:V}{u:Value}{Q:Unit->Shared->Prop}(I:Inv X pins σ H s)(e:H a=some (.ins C dx fs))(c:Cls X.K C)(n:Ĩ X.K C f)(hl:fs.length<1000)(ry:RelV y u)
 (h:∀s',Inv X pins σ (upd H a (.ins C dx (bW f y fs))) s'->Q () s'):wpAny (model X.prog X.w) A (setAttr (.ref a) f u) Q E s:=by
 obtain⟨mA,O,r,wi,_,ho⟩:=qN I.hok e
 have hz:(fs.map (·.1)).length<=sizeLine:=by rw[List.length_map,sizeLine_eq];omega
 refine Jj I.kI O c.sa c.po n.taker c.hd wi hz λh' O' sb=>h _ ?_
 have hd:∃o,h'.get? dx=some o:=let ⟨o,_,_,e',_⟩:=O'.ns;⟨o,e'⟩
 refine I.write (x:=a) (e:=dx) (by rw[e];exact True.intro) (.inr ho) (λb q hb z=>(sb.2 b hb).trans z) hd ?_
 refine⟨by rw[Ċ O.ne];exact ho,?_,O.ne,O'.obj,_,O'.ns,λg=>?_,λg hg=>?_⟩
 ·have:=jw f y fs;omega
 ·show iz ((bW f y fs).lookup g) (if g=f then some u else mA g)
  rw[ju]
  by_cases q:g=f
  ·rw[if_pos q,if_pos q];exact ry
  ·rw[if_neg q,if_neg q];exact r g
 ·by_cases q:g=f
  ·rw[q];exact(iD f y fs).1
  ·refine(iD f y fs).2 g (wi g λz=>hg ?_)
   show(if g=f then some u else mA g)=none
   rw[if_neg q];exact z
def Inv.made(I:Inv X pins σ H s):Inv X pins σ (upd (upd H s.heap.objs.size (.own (s.heap.objs.size+1))) (s.heap.objs.size+1) (.ins C s.heap.objs.size []))
 {s with heap:=(s.heap.push PySem.W.emptyDict).push (PySem.W.instObj C s.heap.objs.size)}:=by
 have e1:(s.heap.push PySem.W.emptyDict).get? s.heap.objs.size=some PySem.W.emptyDict:=Heap.get?_push_size s.heap rfl
 have e2:((s.heap.push PySem.W.emptyDict).push (PySem.W.instObj C s.heap.objs.size)).get? (s.heap.objs.size+1)=some (PySem.W.instObj C s.heap.objs.size):=by
  have:=Heap.get?_push_size (s.heap.push PySem.W.emptyDict) (o:=PySem.W.instObj C s.heap.objs.size) rfl
  rwa [Heap.size_push] at this
 have e3:(s.heap.push PySem.W.emptyDict).Ns s.heap.objs.size (λ_=>none):=⟨PySem.W.emptyDict,#[],_,e1,rfl,(λe he=>absurd he (by simp)),λ_=>rfl⟩
 have I1:=I.laid (a:=s.heap.objs.size) (o:=.own (s.heap.objs.size+1)) (h':=s.heap.push PySem.W.emptyDict) (t':=s.toks) (λb u q=>Heap.get?_push_of_some _ q) (Nat.le_refl _) ⟨_,e1⟩
 refine I1.laid (a:=s.heap.objs.size+1) (o:=.ins C s.heap.objs.size []) (t':=s.toks) (λb u q=>Heap.get?_push_of_some _ q) (Nat.le_of_eq (Heap.size_push _ _)) ?_
 have ne:s.heap.objs.size≠s.heap.objs.size+1:=Nat.ne_of_lt (Nat.lt_succ_self _)
 refine⟨by rw[Ċ ne,č],Nat.zero_le _,ne,e2,λ_=>none,(Heap.Ns1.of_empty e3).at λo q=>Heap.get?_push_of_some _ q,λ_=>True.intro,λy hy=>absurd rfl hy⟩
def Jk{prog:Program}{w:World}{env:Env}{e:Expr}{f:Str}{pos:Pos}{s:Shared}{Q:Value->Shared->Prop}(hb:attributeBase e f env (eval e env)=eval e env)
 (h:wpAny (model prog w) A (eval e env) (λo s₁=>wpAny (model prog w) A (getAttr o f true) Q E s₁) E s):wpAny (model prog w) A (eval (.Attribute e f pos) env) Q E s:=
 Attribute_any_ h (by rw[arm_eval_Attribute,hb])
end
def ZbJ(K:PySem.W.Frag)(ta:TE)(f:Str):TE:=λσ H Q=>ta σ H λx H1=>∃a C dx fs v,x=.ref a/\H1 a=some (.ins C dx fs)/\Cls K C/\Ĩ K C f/\fs.lookup f=some v/\Q v H1
def ZbK(K:PySem.W.Frag)(ta tv:TE)(f:Str):TS:=λD σ H=>tv σ H λy H1=>ta σ H1 λx H2=>∃a C dx fs,x=.ref a/\H2 a=some (.ins C dx fs)/\Cls K C/\Ĩ K C f/\fs.length<1000/\
 D.nx σ (upd H2 a (.ins C dx (bW f y fs)))
section
variable{X:Cx}{o e value:Expr}{f:Str}{pos pos' tpos:Pos}{ta tv:TE}
def Rv(he:PE X e ta)(hb:attributeBase e f X.env (eval e X.env)=eval e X.env):PE X (.Attribute e f pos) (ZbJ X.K ta f):=by
 intro pins s σ H Q I h
 refine Jk hb (Ľ (he pins s σ H _ I h) λu s1 ⟨x,H1,I1,rx,a,C,dx,fs,v,ex,ea,c,n,l,q⟩=>?_)
 subst ex
 obtain rfl:u=Value.ref a:=rx
 exact wA I1 ea c n l λu' s2 I2 ru=>⟨v,H1,I2,ru,q⟩
def Rw(ha:PE X o ta)(hv:PE X value tv)(hs:swapsWith value (some (.Attribute o f pos')) pos.line X.env=pure false):PS X (.Assign [.Attribute o f pos'] value pos) (ZbK X.K ta tv f):=by
 intro pins s σ H D I h
 refine plainObj_wpAny_Assign_Attribute (Ľ (hv pins s σ H _ I h) λu s1 ⟨y,H1,I1,ry,q⟩=>Ľ (ha pins s1 σ H1 _ I1 q) λov s2 ⟨x,H2,I2,rx,a,C,dx,fs,ex,ea,c,n,l,q2⟩=>?_) hs
 subst ex
 obtain rfl:ov=Value.ref a:=rx
 exact wB I2 ea c n l ry λs3 I3=>⟨σ,_,I3,q2⟩
end
section
variable{X:Cx}{pins:List (Addr×Obj)}{σ:St}{H:Hp}{s:Shared}{A:Around}{E:Value->Shared->Prop}{Q:Value->Shared->Prop}{c:Value}{b:Bool}
inductive iG(K:PySem.W.Frag)(H:Hp):V->Value->Prop where
 |non:iG K H .non (.type "NoneType")
 |bl (x:Bool):iG K H (.bl x) (.type "bool")
 |int (i:Int):iG K H (.int i) (.type "int")
 |str (x:Str):iG K H (.str x) (.type "str")
 |flt (x:UInt64):iG K H (.flt x) (.type "float")
 |lst {a:Addr} {xs:List V} (e:H a=some (.lst xs)):iG K H (.ref a) (.type "list")
 |bU {a:Addr} {o:Obj} {xs:List V} (e:H a=some (.bU o (.lst xs))):iG K H (.ref a) (.type "list")
 |tup {a:Addr} {xs:List V} (e:H a=some (.tup xs)):iG K H (.ref a) (.type "tuple")
 |dK {a:Addr} {kvs:List (Key×V)} (e:H a=some (.dK kvs)):iG K H (.ref a) (.type "dict")
 |dT {a:Addr} {kvs:List (List Key×V)} (e:H a=some (.dT kvs)):iG K H (.ref a) (.type "dict")
 |ins {a C dx:Addr} {fs:List (Str×V)} (e:H a=some (.ins C dx fs)) (cl:Cls K C) (ha:PySem.W.findIn K (.ref C) "__class__" =some (some (.builtin "object.__class__")))
   (hn:PySem.W.specialIn K (.builtin "object.__class__") "__get__" =some (some (.builtin "getset_descriptor.__get__"))) (htk:PySem.W.takesIn K (.builtin "object.__class__")=some true)
   (hm:PySem.W.mroIn K C (.type "object")=some true):iG K H (.ref a) (.ref C)
def bH{x:V}{u t:Value}(I:Inv X pins σ H s)(rx:RelV x u)(ty:iG X.K H x t)(e:PySem.W.kitOne X.K t c=some b)(h:∀tk,Q (.bool b) {s with toks:=tk}) :
 wpAny (model X.prog X.w) A (call (.builtin "isinstance") [u,c]) Q E s:=by
 cases ty with
 |non=>cases(show u=Value.none from rx);exact PySem.W.kia_one PySem.W.kitx_none I.kI True.intro e (λz=>nomatch z) h
 |bl y=>cases(show u=Value.bool y from rx);exact PySem.W.kia_one PySem.W.kitx_bool I.kI True.intro e (λz=>nomatch z) h
 |int i=>obtain⟨t,q⟩:=(show ∃t,u=Value.int i t from rx);cases q;exact PySem.W.kia_one PySem.W.kitx_int I.kI True.intro e (λz=>nomatch z) h
 |str y=>obtain⟨t,q⟩:=(show ∃t,u=Value.str y t from rx);cases q;exact PySem.W.kia_one PySem.W.kitx_str I.kI True.intro e (λz=>nomatch z) h
 |flt y=>obtain⟨t,q⟩:=(show ∃t,u=Value.float y t from rx);cases q;exact PySem.W.kia_one PySem.W.kitx_float I.kI True.intro e (λz=>nomatch z) h
 |@lst a xs ea=>
  cases(show u=Value.ref a from rx)
  obtain⟨_,_,n,_,h1⟩:=(show Ł X.prog X.w H s.heap a (.lst xs) from I.hok a _ ea)
  exact PySem.W.kia_one PySem.W.kitx_list I.kI ⟨_,h1,rfl⟩ e (λz=>nomatch z) h
 |@bU a ob xs ea=>
  cases(show u=Value.ref a from rx)
  obtain⟨_,_,_,n,_,h1⟩:=(show Ł X.prog X.w H s.heap a (.bU ob (.lst xs)) from I.hok a _ ea)
  exact PySem.W.kia_one PySem.W.kitx_list I.kI ⟨_,h1,rfl⟩ e (λz=>nomatch z) h
 |@tup a xs ea=>
  cases(show u=Value.ref a from rx)
  obtain⟨_,_,_,p⟩:=(show Ł X.prog X.w H s.heap a (.tup xs) from I.hok a _ ea)
  obtain⟨o,h1,h2,_⟩:=p
  exact PySem.W.kia_one PySem.W.kitx_tuple I.kI ⟨o,h1,h2⟩ e (λz=>nomatch z) h
 |@dK a kvs ea=>
  cases(show u=Value.ref a from rx)
  obtain⟨_,_,vs,_,p⟩:=(show Ł X.prog X.w H s.heap a (.dK kvs) from I.hok a _ ea)
  obtain⟨o,es,ep,h1,h2,_⟩:=p
  exact PySem.W.kia_one PySem.W.kitx_dict I.kI ⟨o,h1,h2.1⟩ e (λz=>nomatch z) h
 |@dT a kvs ea=>
  cases(show u=Value.ref a from rx)
  obtain⟨_,_,xs,_,o,es,ep,h1,h2,_⟩:=(show Ł X.prog X.w H s.heap a (.dT kvs) from I.hok a _ ea)
  exact PySem.W.kia_one PySem.W.kitx_dict I.kI ⟨o,h1,h2.1⟩ e (λz=>nomatch z) h
 |@ins a C dx fs ea cl ha hn htk hm=>
  cases(show u=Value.ref a from rx)
  obtain⟨mA,O,_⟩:=qN I.hok ea
  obtain⟨od,J,_⟩:=O.look
  exact PySem.W.kia_one (PySem.W.kitx_own (cl.get _) cl.hd ha hn htk hm) I.kI J e (λz=>nomatch z) h
end
end L2
namespace L2
open PySem PySem.Spec PyProof.Rows
structure Ş(k:Nat)(A:Around):Prop where
 hd:A.handled=none
 dp:A.depth+3*k+5<recursionLimit
 un:A.units+16*k+200<cLine
def Ş.mono{j k:Nat}{A:Around}(r:Ş k A)(h:j<=k):Ş j A:=⟨r.hd,by have:=r.dp;omega,by have:=r.un;omega⟩
def Ş.mo{j k:Nat}{A:Around}(r:Ş k A)(h:j<=k:= by decide):Ş j A:= r.mono h
theorem Ş.deeper{k:Nat}{A:Around}(r:Ş (k+1) A)(env:Env):Ş k (A.deeper env):=
 ⟨r.hd,by have:=r.dp;show A.depth+1+3*k+5<_;omega,by have:=r.un;show A.units+3+16*k+200<_;omega⟩
def wC{A:Around}{C:Addr}{us:List Value}{kw:List (Str×Value)}:(A.under (.builtin "type.__call__" ⟨.ref C::us,kw⟩)).depth=A.depth+1:=by
 first|rfl|simp[Around.under,Code.weight,Code.isCreation,Code.isGuard,Code.isCaller,Code.frames,Code.isFrame,guardIds]
def wD{A:Around}{C:Addr}{us:List Value}{kw:List (Str×Value)}:(A.under (.builtin "type.__call__" ⟨.ref C::us,kw⟩)).units=A.units+1:=by
 first|rfl|simp[Around.under,Code.cUnits,Code.frames,Code.isFrame]
def Ş.make{k:Nat}{A:Around}(r:Ş (k+1) A)(C:Addr)(us:List Value)(kw:List (Str×Value)):Ş k (A.under (.builtin "type.__call__" ⟨.ref C::us,kw⟩)):=
 ⟨r.hd,by have:=r.dp;rw[wC];omega,by have:=r.un;rw[wD];omega⟩
theorem Ş.depth{k:Nat}{A:Around}(r:Ş k A):A.depth<recursionLimit:=by have:=r.dp;omega
theorem Ş.units{k:Nat}{A:Around}(r:Ş k A):A.units+64<cLine:=by have:=r.un;omega
def ZbL:TA:=λ_ H Q=>Q [] H
def Xe(ta:TE)(tr:TA):TA:=λσ H Q=>ta σ H λx H1=>tr σ H1 λxs H2=>Q (x::xs) H2
section
variable{X:Cx}{e:Expr}{es:List Expr}{te:TE}{t:TA}{pos:Pos}
def cW:PA X [] ZbL:=λ_ _ _ _ H Q I h=>Calls.spliced_nil ⟨[],H,I,.nil,h⟩
def ŕ(ha:PE X e te)(hr:PA X es t)(hs:starEach (e::es) X.env=(false,eval e X.env)::starEach es X.env:=by rfl):PA X (e::es) (Xe te t):=by
 intro pos pins s σ H Q I h
 rw[hs]
 show wpAny _ _ (spliced ((false,eval e X.env)::backTo pos (starEach es X.env))) _ _ s
 refine Calls.spliced_cons (Ľ (ha pins s σ H _ I h) λu s1 ⟨x,H1,I1,r1,q1⟩=>?_)
 exact Ľ (hr pos pins s1 σ H1 _ I1 q1) λus s2 ⟨xs,H2,I2,r2,q2⟩=>⟨x::xs,H2,I2,.cons r1 r2,q2⟩
def ZbM(t:TA):TE:=λσ H Q=>t σ H λxs H1=>xs.length<=sizeLine/\∀p,H1 p=none->Q (.ref p) (upd H1 p (.tup xs))
def ZbN(t:TA):TE:=λσ H Q=>t σ H λxs H1=>xs.length<=sizeLine/\∀p,H1 p=none->Q (.ref p) (upd H1 p (.lst xs))
def wF{x1}(h:PA X es t):PE X (.Tuple es x1 pos) (ZbM t):=by
 intro pins s σ H Q I hq
 refine wpAny_Tuple_spliced (Ľ (h pos pins s σ H _ I hq) λus s1 ⟨xs,H1,I1,r,z,q⟩=>⟨by rw[<-r.length];exact z,?_⟩)
 have hf:H1 s1.heap.objs.size=none:=I1.hok.fresh (Nat.le_refl _)
 refine⟨.ref s1.heap.objs.size,upd H1 s1.heap.objs.size (.tup xs),I1.laid (t':=s1.toks) (λb u e=>Heap.get?_push_of_some _ e) (Nat.le_refl _) ?_,rfl,q _ hf⟩
 exact⟨z,us,r,⟨_,Heap.get?_push_size _ rfl,rfl,_,rfl⟩⟩
def Rx(h:PA X es t):PE X (.List es pos) (ZbN t):=by
 intro pins s σ H Q I hq
 refine wpAny_List_spliced (Ľ (h pos pins s σ H _ I hq) λus s1 ⟨xs,H1,I1,r,z,q⟩=>⟨by rw[<-r.length];exact z,?_⟩)
 have hf:H1 s1.heap.objs.size=none:=I1.hok.fresh (Nat.le_refl _)
 refine⟨.ref s1.heap.objs.size,upd H1 s1.heap.objs.size (.lst xs),I1.laid (t':=s1.toks) (λb u e=>Heap.get?_push_of_some _ e) (Nat.le_refl _) ?_,rfl,q _ hf⟩
 exact⟨z,us,0,r,Heap.get?_push_size _ rfl⟩
end
abbrev Sp:=List V->Hp->VK->XK->Prop
abbrev iH:=List Env->Hp->Shared->XK->Value->Shared->Prop
structure wG(P:Program)(w:World)(K:PySem.W.Frag)(mg:Str->Option Value)(base:Heap)(A:Around)(outer:List Env)(s:Shared)(H:Hp):Prop where
 frames:A.frames=some outer
 mod:Mod K mg base
 bs:∀b o,base.get? b=some o->s.heap.get? b=some o/\H b=none
 IW:base.objs.size<=s.heap.objs.size
 jT:s.heap.FunFrames base outer
 QK:∀b∈frs outer,H b=none
 hok:cR P w H s.heap
 bare:AllBare s.gens
 tb:TabsOk K mg base H
def CE(outer:List Env)(P:Program)(w:World)(H:Hp)(s:Shared)(Q:VK)(u:Value)(s':Shared):Prop:=
 ∃v H',s'.os=s.os/\AllBare s'.gens/\Un (frs outer) [] H H' s.heap s'.heap/\cR P w H' s'.heap/\RelV v u/\Q v H'
def CR(CX:iH)(outer:List Env)(P:Program)(w:World)(H:Hp)(s:Shared)(Q:VK)(E:XK)(r:Result)(s':Shared):Prop:=
 match r with
 | .ok (.ret u)=>CE outer P w H s Q u s'
 | .ok _=>False
 | .error e=>CX outer H s E e s'
structure ī(P:Program)(w:World)(K:PySem.W.Frag)(mg:Str->Option Value)(base:Heap)(CX:iH)(k:Nat)(f:Addr)(fd:FuncData)(ps:List Str)(sp:Sp):Prop where
 len:∀vs H Q E,sp vs H Q E->vs.length=ps.length
 run:∀(A:Around) (outer:List Env) (s:Shared) (H:Hp) (args:Args) (us:List Value) (vs:List V) (Q:VK) (E:XK),Ş k A->wG P w K mg base A outer s H->BindsTo s fd args (ps.zip us)->Vals vs us->sp vs H Q E->
  codeAny (model P w) A (.call (.ref f) args) (CR CX outer P w H s Q E) s
def ī.imp{P:Program}{w:World}{K:PySem.W.Frag}{mg:Str->Option Value}{base:Heap}{CX:iH}{k:Nat}{f:Addr}{fd:FuncData}{ps:List Str}{sp sp':Sp}(F:ī P w K mg base CX k f fd ps sp)
 (h:∀vs H Q E,sp' vs H Q E->sp vs H Q E):ī P w K mg base CX k f fd ps sp':=
 ⟨λvs H Q E q=>F.len vs H Q E (h _ _ _ _ q),λA outer s H args us vs Q E hr he hb hv hs=>F.run A outer s H args us vs Q E hr he hb hv (h _ _ _ _ hs)⟩
def wG.make{P:Program}{w:World}{K:PySem.W.Frag}{mg:Str->Option Value}{base:Heap}{A:Around}{outer:List Env}{s:Shared}{H:Hp}(e:wG P w K mg base A outer s H)(C:Addr)(us:List Value)(kw:List (Str×Value)) :
 wG P w K mg base (A.under (.builtin "type.__call__" ⟨.ref C::us,kw⟩)) outer s H:=⟨by first|exact e.frames|(simpa[Around.under,Code.envs,Code.isFrame,pushEnvs] using e.frames),e.mod,e.bs,e.IW,e.jT,e.QK,e.hok,e.bare,e.tb⟩
section
variable{X:Cx}{pins:List (Addr×Obj)}{σ:St}{H:Hp}{s s':Shared}
def Inv.env0(I:Inv X pins σ H s):wG X.prog X.w X.K X.mg X.base X.A X.stack s H:=
 ⟨I.ok.frames,I.ok.mod,I.bs,Nat.le_trans I.ok.IW I.sz,I.stack,I.yg,I.hok,I.bare,I.tb⟩
def Inv.after{Q:VK}{u:Value}(I:Inv X pins σ H s)(h:CE X.stack X.prog X.w H s Q u s'):EP X pins σ Q u s':=by
 obtain⟨v,H',os,bare,un,hok,r,q⟩:=h
 obtain⟨hh,g,d,t,os'⟩:=s'
 obtain rfl:os'=s.os:=os
 exact⟨v,H',I.call (h':=hh) (g':=g) (d':=d) (t':=t) (ch:=[]) un hok bare (λb z=>absurd z (by simp)),r,q⟩
end
def Binds(K:PySem.W.Frag)(fd:FuncData)(ps:List Str)(ds:List Value):Prop:=
 ∀(s:Shared) (us:List Value),K.In s.heap->(us++ds).length=ps.length->BindsTo s fd ⟨us,[]⟩ (ps.zip (us++ds))
def Binds.all{K:PySem.W.Frag}{fd:FuncData}{ps:List Str}(h:∀us:List Value,us.length=ps.length->bindArgs fd ⟨us,[]⟩=pure (ps.zip us)):Binds K fd ps []:=λs us _ hl=>by
 rw[List.append_nil] at hl ⊢
 exact .of_eq (h us hl)
section
variable{X:Cx}{CX:iH}{k:Nat}{f C:Addr}{fd:FuncData}{ps:List Str}{sp:Sp}{dvs:List V}{ds:List Value}{E:XK}{x m:Str}{p pos apos:Pos}{e o:Expr}{es:List Expr}{ta:TE}{t:TA}
structure Mk(K:PySem.W.Frag)(C f:Addr):Prop where
 makes:PySem.W.makesIn K C=true
 init:PySem.W.findIn K (.ref C) "__init__" =some (some (.ref f))
 fn:PySem.W.isFn K (.ref f)=true
 kp:PySem.W.keepIn K (.ref C)=true
end
section
variable{X:Cx}{CX:iH}{k:Nat}{f C:Addr}{fd:FuncData}{ps ks:List Str}{sp:Sp}{E:XK}{x m:Str}{p pos apos kpos:Pos}{e o:Expr}{es:List Expr}{kws:List Keyword}{te ta:TE}{t tk:TA}{nm:Option Str}
variable{g:List Value->List Value->List Value}{gV:List V->List V->List V}
end
structure Ď(N P:List Str)(sc:Scope):Prop where
 kind:sc.kind=.function
 co:sc.isCoroutine=false
 gen:sc.isGenerator=false
 nd:N.Nodup
 pre:N.take P.length=P
 par:∀x∈P,sc.names.lookup x=some .local\/sc.names.lookup x=some .cell
 Ry:∀y∈sc.names,y.2≠ .free
theorem pI{kindOf:Str->Option NameKind}{x:Str}:∀{binds:List (Str×Value)} {m:Str->Option Value},(∀v,(x,v)∉binds)->bindL kindOf binds m x=m x
 | [],_,_=>rfl
 |(n,v)::r,m,h=>by
  unfold bindL
  rw[pI λw hw=>h w (List.mem_cons_of_mem _ hw)]
  split
  ·have:x≠n:=by rintro rfl;exact h v List.mem_cons_self
   simp[this]
  ·rfl
theorem pJ{kindOf:Str->Option NameKind}{x:Str}:∀{binds:List (Str×Value)} {m:Str->Option Value},(∀v,(x,v)∉binds)->bindC kindOf binds m x=m x
 | [],_,_=>rfl
 |(n,v)::r,m,h=>by
  unfold bindC
  rw[pJ λw hw=>h w (List.mem_cons_of_mem _ hw)]
  split
  ·rfl
  ·have:x≠n:=by rintro rfl;exact h v List.mem_cons_self
   simp[this]
theorem pK{kindOf:Str->Option NameKind}{x:Str}{v:Value}:∀{P:List Str} {vs:List Value} {i:Nat} {m:Str->Option Value},P.Nodup->P[i]?=some x->vs[i]?=some v->kindOf x=some .local->
 bindL kindOf (P.zip vs) m x=some v
 | [],_,_,_,_,h,_,_=>by simp at h
 |_::_,[],_,_,_,_,h,_=>by simp at h
 |p::P,w::vs,0,m,nd,h1,h2,hk=>by
  simp at h1 h2;subst h1;subst h2
  show bindL kindOf ((p,w)::P.zip vs) m p=_
  unfold bindL
  rw[pI λv hv=>(List.nodup_cons.mp nd).1 (List.of_mem_zip hv).1,if_pos hk]
  simp
 |p::P,w::vs,i+1,m,nd,h1,h2,hk=>by
  show bindL kindOf ((p,w)::P.zip vs) m x=_
  unfold bindL
  exact pK (i:=i) (List.nodup_cons.mp nd).2 (by simpa using h1) (by simpa using h2) hk
theorem pL{kindOf:Str->Option NameKind}{x:Str}{v:Value}:∀{P:List Str} {vs:List Value} {i:Nat} {m:Str->Option Value},P.Nodup->P[i]?=some x->vs[i]?=some v->kindOf x≠some .local->
 bindC kindOf (P.zip vs) m x=some v
 | [],_,_,_,_,h,_,_=>by simp at h
 |_::_,[],_,_,_,_,h,_=>by simp at h
 |p::P,w::vs,0,m,nd,h1,h2,hk=>by
  simp at h1 h2;subst h1;subst h2
  show bindC kindOf ((p,w)::P.zip vs) m p=_
  unfold bindC
  rw[pJ λv hv=>(List.nodup_cons.mp nd).1 (List.of_mem_zip hv).1,if_neg hk]
  simp
 |p::P,w::vs,i+1,m,nd,h1,h2,hk=>by
  show bindC kindOf ((p,w)::P.zip vs) m x=_
  unfold bindC
  exact pL (i:=i) (List.nodup_cons.mp nd).2 (by simpa using h1) (by simpa using h2) hk
def start(N:List Str)(vs:List V):St:=vs.map some++List.replicate (N.length-vs.length) none
def qO(CX:iH)(P:Program)(w:World)(K:PySem.W.Frag)(mg:Str->Option Value)(base:Heap)(N:List Str)(qual:Str)(scope:Scope)(f:Addr)(cd:Value)(A:Around)(outer:List Env)(s:Shared)(H:Hp)(E:XK):Cx where
 prog:=P
 w:=w
 K:=K
 mg:=mg
 base:=base
 A:=A.deeper (envOfC qual scope s.heap.objs.size f cd)
 N:=N
 s₀:= s
 H₀:= H
 env:=envOfC qual scope s.heap.objs.size f cd
 outer:=outer
 stack:=envOfC qual scope s.heap.objs.size f cd::outer
 ex:=[]
 calm:=true
 fn:=λ_=>true
 pn:=[]
 xe:=λe s'=>wpAny (model P w) (A.deeper (envOfC qual scope s.heap.objs.size f cd)) (leaving (envOfC qual scope s.heap.objs.size f cd) e) (λ_ s''=>CX outer H s E e s'') (λe' s''=>CX outer H s E e' s'') s'
def fZ{sc:Scope}{n:Nat}{x:Str}(h:sc.names.lookup x=some .cell):∃c,(cellsFrom n sc.names []).lookup x=some c:=by
 have q:=PySem.W.cellsFrom_some sc.names n [] (.inl h)
 exact Option.isSome_iff_exists.mp q
def Bd{CX:iH}{P:Program}{w:World}{K:PySem.W.Frag}{mg:Str->Option Value}{base:Heap}{N ps:List Str}{qual:Str}{scope:Scope}{f:Addr}{cd:Value}{A:Around}{outer:List Env}{s s1:Shared}{H:Hp}{E:XK}{us:List Value}{vs:List V}
 (S:Ď N ps scope)(hd:A.handled=none)(e0:wG P w K mg base A outer s H)(hl:vs.length=ps.length)(r:Vals vs us)
 (x:InCallC s s.heap.objs.size (bindL (envOfC qual scope s.heap.objs.size f cd).kindOf (ps.zip us) λ_=>none) (cellsFrom (s.heap.objs.size+1) scope.names []) (bindC (envOfC qual scope s.heap.objs.size f cd).kindOf (ps.zip us) λ_=>none) s1) :
 Inv (qO CX P w K mg base N qual scope f cd A outer s H E) [] (start N vs) H s1:=by
 have hpl:ps.length<=N.length:=by have:=congrArg List.length S.pre;rw[List.length_take] at this;omega
 obtain⟨h1,tk,rfl,hk⟩:=x.done
 have Xf:∀b:Addr,b∉(qO CX P w K mg base N qual scope f cd A outer s H E).ex:=λb z=>absurd (show b∈([]:List Addr) from z) (by simp)
 refine⟨⟨e0.mod,S.kind,rfl,rfl,Nat.le_refl _,λy z c h1 h2=>?_,λy hy=>?_,λy c _ h=>?_,λ_=>hd,Around.frames_deeper e0.frames,.inr ⟨rfl,rfl⟩,λb z=>absurd z (Xf b),e0.bs,e0.IW,λb _ _=>Xf b,λb z=>absurd z (Xf b),e0.jT,e0.QK,e0.tb⟩,
  rfl,e0.bare,Un.kept hk,⟨_,x.toInCall.ns,λi y v h1 h2 h3=>?_⟩,λy c h=>⟨_,x.cell y c h⟩,e0.hok.fresh (Nat.le_refl _),λy c h=>?_,λp hp=>absurd (show p∈([]:List (Addr×Obj)) from hp) (by simp),e0.hok.kept hk,?_⟩
 ·exact name_of_addr x.apart (PySem.mem_of_lookup h1) (PySem.mem_of_lookup h2)
 ·have hy:scope.names.lookup y=some .cell\/scope.names.lookup y=some .free:=hy
  rcases hy with hy|hy
  ·exact fZ hy
  ·exact absurd rfl (S.Ry _ (PySem.mem_of_lookup hy))
 ·exact Nat.le_of_lt (x.above y c (PySem.mem_of_lookup h))
 ·have hi:i<vs.length:=by
   unfold start at h2
   by_cases hi:i<vs.length
   ·exact hi
   ·rw[List.getElem?_append_right (by simpa using hi)] at h2
    rw[List.getElem?_replicate] at h2
    split at h2<;>cases h2
  have ha:vs[i]?=some v:=by
   unfold start at h2
   rw[List.getElem?_append_left (by simpa using hi),List.getElem?_map] at h2
   cases e:vs[i]? with
   |none=>rw[e] at h2;cases h2
   |some a=>rw[e] at h2;cases h2;rfl
  obtain⟨u,hu,rv⟩:=r.get ha
  have hp:ps[i]?=some y:=by
   rw[<-S.pre,List.getElem?_take_of_lt (by omega)];exact h1
  have ndP:ps.Nodup:=by rw[<-S.pre];exact S.nd.sublist (List.take_sublist _ _)
  refine⟨u,rv,?_⟩
  rcases S.par y (List.mem_of_getElem? hp) with k|k
  ·exact .inl ⟨k,pK ndP hp hu k⟩
  ·obtain⟨c,e⟩:=fZ (n:=s.heap.objs.size+1) k
   refine .inr ⟨.inl k,c,e,?_⟩
   have q:=x.cell y c e
   rw[pL ndP hp hu (by show scope.names.lookup y≠_;rw[k];decide)] at q
   exact q
 ·exact e0.hok.fresh (Nat.le_of_lt (x.above y c (PySem.mem_of_lookup h)))
 ·unfold start
  show _=N.length
  rw[List.length_append,List.length_map,List.length_replicate]
  omega
def Mf{CX:iH}{P:Program}{w:World}{K:PySem.W.Frag}{mg:Str->Option Value}{base:Heap}{k:Nat}{f:Addr}{name qual:Str}{params:Arguments}{body:List Stmt}{scope:Scope}{dV kV doc pm cdv ct oc:Value}{an od:Option Addr}
 {osl:Array (Option Value)}{N ps:List Str}{sp:Sp}(lk:K.lookup f=some ⟨oc,od,.func (PySem.W.fnOf name qual params body scope dV kV doc pm an cdv ct),osl⟩)(hcd:PySem.W.codeIn K cdv qual=true)(S:Ď N ps scope)
 (len:∀vs H Q E,sp vs H Q E->vs.length=ps.length)
 (hbody:∀(A:Around) (outer:List Env) (s:Shared) (H:Hp) (vs:List V) (Q:VK) (E:XK),Ş k (A.deeper (envOfC qual scope s.heap.objs.size f cdv))→sp vs H Q E→
   ∃t,fY (qO CX P w K mg base N qual scope f cdv A outer s H E) body t/\t {nx:=λ_ H'=>Q .non H',rt:=Q} (start N vs) H) :
 ī P w K mg base CX (k+1) f (PySem.W.fnOf name qual params body scope dV kV doc pm an cdv ct) ps sp:=by
 refine⟨len,λA outer s H args us vs Q E hr e0 hb r hsp=>?_⟩
 have hl:=len _ _ _ _ hsp
 have KX:K.In s.heap:=e0.mod.Wv.keeps λb o e=>(e0.bs b o e).1
 have lim:s.heap.NoLimit:=e0.mod.nolimit.keeps λb o e=>(e0.bs b o e).1
 have hkind:∀y∈ps.zip us,scope.names.lookup y.1=some .local\/(scope.names.lookup y.1=some .cell/\((cellsFrom (s.heap.objs.size+1) scope.names []).lookup y.1).isSome=true):=λ⟨n,v⟩ hy=>by
  rcases S.par n (List.of_mem_zip hy).1 with q|q
  ·exact .inl q
  ·exact .inr ⟨q,PySem.W.cellsFrom_some _ _ _ (.inl q)⟩
 refine codeAny_call_function hr.depth (KX _ _ lk) rfl S.co S.gen rfl (PySem.W.codeRec_of KX hcd) (hb _ _ _ _ ?_)
 refine wpAny_newFunctionEnv_cells S.kind hkind λenv he s1 x=>?_
 subst he
 refine⟨lim.keeps x.toInCall.keep,codeAny_func ?_⟩
 obtain⟨t,ht,hq⟩:=hbody A outer s H vs Q E (hr.deeper _) hsp
 have I:Inv (qO CX P w K mg base N qual scope f cdv A outer s H E) [] (start N vs) H s1:=Bd S hr.hd e0 hl r x
 refine wpAny_mono (ht [] s1 (start N vs) H _ I hq) (λfl s' hs=>?_) λe s' hs=>hs
 have fin:∀{σ':St} {H':Hp} {v:V} {u:Value},Inv (qO CX P w K mg base N qual scope f cdv A outer s H E) [] σ' H' s'->RelV v u->Q v H'->CE outer P w H s Q u s':=
  fun{σ' H' v u} J rv q=>⟨v,H',J.os,J.bare,J.base,J.hok,rv,q⟩
 cases fl with
 |ret u=>
  obtain⟨v,σ',H',J,rv,q⟩:=hs
  exact fin J rv q
 |next=>
  obtain⟨σ',H',J,q⟩:=hs
  exact fin (v:=V.non) (u:=Value.none) J rfl q
 |brk=>
  obtain⟨_,_,_,q⟩:=hs
  exact False.elim q
 |cont=>
  obtain⟨_,_,_,q⟩:=hs
  exact False.elim q
end L2
namespace L2
open PySem PySem.Spec PyProof.Rows
section
variable{X:Cx}{x:Str}{p pos:Pos}{e:Expr}{es:List Expr}{t:TA}{id T:String}{r:List V->Hp->VK->Prop}
def tCB(r:List V->Hp->VK->Prop)(t:TA):TE:=λσ H Q=>t σ H λvs H1=>r vs H1 Q
def ug(hc:ŝ X (.builtin id) r)(hg:Gl X x)(hm:X.mg x=none)(hv:bootBuiltins x=some (.builtin id))(ha:PA X (e::es) t)(hn:x≠ "__name__" := by decide)(hdb:(x== ("__debug__" :Str))=false:=by decide)
 (he:starEach (e::es) X.env=(false,eval e X.env)::starEach es X.env:=by rfl)(hpl:(backTo pos (starEach es X.env)).any (·.1)=false:=by rfl):PE X (.Call (.Name x p) (e::es) [] pos) (tCB r t):=by
 intro pins s σ H Q I h
 refine wpAny_Call_Name_kw (cT I hg hm hv ?_ hn hdb)
 exact PyProof.Rows.callWith_builtin1 (Ľ (ha pos pins s σ H _ I h) λus s1 ⟨vs,H1,I1,r1,q1⟩=>hc pins s1 σ H1 vs us Q I1 r1 q1) he hpl
def pN(hc:ŝ X (.type T) r)(hg:Gl X x)(hm:X.mg x=none)(hv:bootBuiltins x=some (.type T))(ha:PA X (e::es) t)(hn:x≠ "__name__" := by decide)(hdb:(x== ("__debug__" :Str))=false:=by decide)
 (he:starEach (e::es) X.env=(false,eval e X.env)::starEach es X.env:=by rfl)(hpl:(backTo pos (starEach es X.env)).any (·.1)=false:=by rfl):PE X (.Call (.Name x p) (e::es) [] pos) (tCB r t):=by
 intro pins s σ H Q I h
 refine wpAny_Call_Name_kw (cT I hg hm hv ?_ hn hdb)
 exact PyProof.Rows.callWith_type1 (Ľ (ha pos pins s σ H _ I h) λus s1 ⟨vs,H1,I1,r1,q1⟩=>hc pins s1 σ H1 vs us Q I1 r1 q1) he hpl
end
end L2
namespace HT
open PySem PyProof.Rows
section
open PySem.SeqAt
open PySem.AutoSeq1 (wpAny_loadPart')
open PySem.MeetsSeq PySem.MeetsSeq2 PySem.MeetsSeq3
end
section
variable{prog:Program}{w:World}{A:Around}{E:Value->Shared->Prop}{s:Shared}
def gb(n d:Nat):Option Int->Nat
 |none=>d
 |some v=>if v<0 then(v+(n:Int)).toNat else min v.toNat n
def CZ(n d:Nat)(hd:d<=n)(o:Option Int):gb n d o<=n:=by
 cases o with
 |none=>exact hd
 |some v=>
  show(if v<0 then(v+(n:Int)).toNat else min v.toNat n)<=n
  by_cases hv:v<0
  ·rw[if_pos hv];omega
  ·rw[if_neg hv];exact Nat.min_le_right _ _
end
end HT
namespace L2
open PySem PySem.Spec PyProof.Rows
abbrev TO:=St->Hp->(Option Int->Hp->Prop)->Prop
def PO(X:Cx)(e:Option Expr)(t:TO):Prop:=
 ∀(pins:List (Addr×Obj)) (s:Shared) (σ:St) (H:Hp) (Q:Option Int->Hp->Prop),Inv X pins σ H s->t σ H Q->
  wpAny (model X.prog X.w) X.A (evalPart e X.env) (λu s'=>∃o H',Inv X pins σ H' s'/\IsPart u o/\Q o H') X.xe s
def Jl:TO:=λ_ H Q=>Q none H
section
variable{X:Cx}{e:Expr}{te:TE}{lo hi:Option Expr}{tl th:TO}{pos p2:Pos}
def Jm:PO X none Jl:=by
 intro pins s σ H Q I h
 rw[evalPart_none]
 exact wpAny_pure ⟨none,H,I,.none,h⟩
def yu(X:Cx)(r:V->Option Int->Option Int->Hp->VK->Prop):Prop:=
 ∀(pins:List (Addr×Obj)) (s:Shared) (σ:St) (H:Hp) (x:V) (v vl vu:Value) (lo hi:Option Int) (sl:Addr) (Q:VK),Inv X pins σ H s->RelV x v->s.heap.IsSliceOf sl vl vu .none->IsPart vl lo->IsPart vu hi->r x lo hi H Q->
  ∃T id,typeLookup (.type T) "__getitem__" =pure (some (.builtin id))/\s.TypeIs v T/\wpAny (model X.prog X.w) X.A (getItem v (.ref sl)) (EP X pins σ Q) X.xe s
def yu.or{r r':V->Option Int->Option Int->Hp->VK->Prop}(h:yu X r)(h':yu X r'):yu X (λx lo hi H Q=>r x lo hi H Q\/r' x lo hi H Q):=by
 intro pins s σ H x v vl vu lo hi sl Q I rx hs pl pu q
 rcases q with q|q
 ·exact h pins s σ H x v vl vu lo hi sl Q I rx hs pl pu q
 ·exact h' pins s σ H x v vl vu lo hi sl Q I rx hs pl pu q
def tSl(r:V->Option Int->Option Int->Hp->VK->Prop)(te:TE)(tl th:TO):TE:=λσ H Q=>te σ H λx H1=>tl σ H1 λl H2=>th σ H2 λu H3=>r x l u H3 Q
def C_{r:V->Option Int->Option Int->Hp->VK->Prop}(hr:yu X r)(he:PE X e te)(hl:PO X lo tl)(hu:PO X hi th):PE X (.Subscript e (.Slice lo hi none p2) pos) (tSl r te tl th):=by
 intro pins s σ H Q I h
 refine Subscript_ (Ľ (he pins s σ H _ I h) λv s1 ⟨x,H1,I1,r1,q1⟩=>?_)
 refine wpAny_Slice (Ľ (hl pins s1 σ H1 _ I1 q1) λvl s2 ⟨l,H2,I2,pl,q2⟩=>Ľ (hu pins s2 σ H2 _ I2 q2) λvu s3 ⟨u,H3,I3,pu,q3⟩=>?_)
 rw[evalPart_none]
 refine wpAny_pure ?_
 have I4:Inv X pins σ H3 {s3 with heap:=s3.heap.push {cls:=.type "slice",data:=.fields #[vl,vu,.none]}}:=I3.kept (t':=s3.toks) λb ob q=>Heap.get?_push_of_some _ q
 obtain⟨T,id,hT,ht,hg⟩:=hr pins {s3 with heap:=s3.heap.push {cls:=.type "slice",data:=.fields #[vl,vu,.none]}} σ H3 x v vl vu l u s3.heap.objs.size Q I4 r1 (Heap.IsSliceOf.new ..) pl pu q3
 show wpAny (model X.prog X.w) X.A (subscriptTail e (.Slice lo hi none p2) v (.ref s3.heap.objs.size)) (EP X pins σ Q) X.xe {s3 with heap:=s3.heap.push {cls:=.type "slice",data:=.fields #[vl,vu,.none]}}
 exact tail_any (ops:=[.ref s3.heap.objs.size,v]) ht hT hg (by with_unfolding_all rfl)
def uh(xs:List V)(lo hi:Option Int):List V:=(xs.drop (HT.gb xs.length 0 lo)).take (HT.gb xs.length xs.length hi-HT.gb xs.length 0 lo)
def um(xs:List V)(lo hi:Option Int):(uh xs lo hi).length<=xs.length:=by
 unfold uh
 rw[List.length_take,List.length_drop]
 omega
end
end L2
namespace L2
open PySem PySem.Spec PyProof.Rows
def Mg(n:Nat)(i:Int):Option Nat:=if 0<=i then(if i<n then some i.toNat else none) else if -(n:Int)<=i then some (i+n).toNat else none
def lU{α:Type}(xs:List α)(i:Int):Option α:= (Mg xs.length i).bind λj=>xs[j]?
def Jo{n:Nat}{i:Int}{j:Nat}(h:Mg n i=some j):seqIndex? i n=some j/\j<n/\ -(n:Int)<=i/\i<n:=by
 unfold Mg at h
 by_cases h0:0<=i
 ·rw[if_pos h0] at h
  by_cases h1:i<n
  ·rw[if_pos h1] at h
   have e:i.toNat=j:=Option.some.inj h
   exact⟨by rw[seqIndex_of h0 h1,e],by omega,by omega,h1⟩
  ·rw[if_neg h1] at h;cases h
 ·rw[if_neg h0] at h
  by_cases h1: -(n:Int)<=i
  ·rw[if_pos h1] at h
   have e:(i+n).toNat=j:=Option.some.inj h
   exact⟨by rw[seqIndex_neg (by omega) h1,e],by omega,h1,by omega⟩
  ·rw[if_neg h1] at h;cases h
def qP{α:Type}{xs:List α}{i:Int}{v:α}(h:lU xs i=some v):∃j,seqIndex? i xs.length=some j/\xs[j]?=some v/\j<xs.length/\ -(xs.length:Int)<=i/\i<xs.length:=by
 unfold lU at h
 cases e:Mg xs.length i with
 |none=>rw[e] at h;cases h
 |some j=>
  rw[e] at h
  obtain⟨h1,h2,h3,h4⟩:=Jo e
  exact⟨j,h1,h,h2,h3,h4⟩
def kO(b:Expr):Prop:=∀o i,subscripted b false o i=operate [o,i] (getItem o i)
def wH(X:Cx)(r:R2):Prop:=
 ∀(value slice:Expr) (pins:List (Addr×Obj)) (s:Shared) (σ:St) (H:Hp) (x y:V) (v u:Value) (Q:VK),Inv X pins σ H s->RelV x v->RelV y u->r x y H Q->
  subscripted slice false v u=operate [v,u] (getItem v u)->wpAny (model X.prog X.w) X.A (subscriptTail value slice v u) (EP X pins σ Q) X.xe s
def MtR(X:Cx)(id:String)(r:V->List V->Hp->VK->Prop):Prop:=
 ∀(pins:List (Addr×Obj)) (s:Shared) (σ:St) (H:Hp) (x:V) (xs:List V) (v:Value) (us:List Value) (Q:VK),Inv X pins σ H s->RelV x v->Vals xs us->r x xs H Q->
  wpAny (model X.prog X.w) X.A (call (.builtin id) (v::us)) (EP X pins σ Q) X.xe s
section
variable{X:Cx}{a b:Expr}{ta tb:TE}{pos:Pos}
def wH.or{r r':R2}(h:wH X r)(h':wH X r'):wH X (λx y H Q=>r x y H Q\/r' x y H Q):=by
 intro value slice pins s σ H x y v u Q I rx ry q hs
 rcases q with q|q
 ·exact h value slice pins s σ H x y v u Q I rx ry q hs
 ·exact h' value slice pins s σ H x y v u Q I rx ry q hs
def yx{r:R2}(hr:wH X r)(ha:PE X a ta)(hb:PE X b tb)(hs:kO b):PE X (.Subscript a b pos) (LR r ta tb):=by
 intro pins s σ H Q I h
 exact Subscript_ (Rj ha hb I h λv u s2 x y H2 I2 rx ry q=>hr a b pins s2 σ H2 x y v u Q I2 rx ry q (hs _ _))
def Xg(K:PySem.W.Frag):R2:=λx y H Q=>∃p xs i v,x=.ref p/\y=.int i/\ř K H p xs/\lU xs i=some v/\Q v H
def Xh(K:PySem.W.Frag):R2:=λx y H Q=>∃p xs i v,x=.ref p/\y=.int i/\aG K H p xs/\lU xs i=some v/\Q v H
def Xi:R2:=λx y H Q=>∃z i c,x=.str z/\y=.int i/\z.length<=sizeLine/\lU z.cps.toList i=some c/\Q (.str ⟨#[c]⟩) H
def Jp:wH X (Xg X.K):=by
 intro value slice pins s σ H x y v u Q I rx ry h hs
 obtain⟨p,xs,i,z,rfl,rfl,hq,he,q⟩:=h
 cases rx
 obtain⟨t,rfl⟩:=ry
 obtain⟨its,r,pl,hz⟩:=I.list hq
 obtain⟨j,h1,h2,h3,h4,h5⟩:=qP he
 obtain⟨w,ew,Dc⟩:=r.get h2
 have hl:=r.length
 have hn:=lR
 have fin:EP X pins σ Q w s:=⟨z,H,I,Dc,q⟩
 by_cases h0:0<=i
 ·have hj:i.toNat=j:=by
   rw[seqIndex_of h0 h5] at h1
   exact Option.some.inj h1
  exact item_listR pl.isList h0 (by omega) (by rw[hj];simpa using ew) fin hs
 ·have hj:(i+(its.toArray.size:Int)).toNat=j:=by
   rw[seqIndex_neg (by omega) h4] at h1
   rw[List.size_toArray,<-hl]
   exact Option.some.inj h1
  exact subscriptTail_builtinR (x:=w) pl.isList.typeIs slot_list_getitem.lookup
   (wpAny_getItem_list_neg (Q:=λr s'=>r=w/\EP X pins σ Q r s') pl.isList (by omega) (by rw[List.size_toArray]<;>omega) (by omega) (by rw[hj];simpa using ew) ⟨rfl,fin⟩) hs
def Rz:wH X (Xh X.K):=by
 intro value slice pins s σ H x y v u Q I rx ry h hs
 obtain⟨p,xs,i,z,rfl,rfl,hq,he,q⟩:=h
 cases rx
 obtain⟨t,rfl⟩:=ry
 obtain⟨its,r,pl,hz⟩:=I.tuple hq
 obtain⟨j,h1,h2,h3,h4,h5⟩:=qP he
 obtain⟨w,ew,Dc⟩:=r.get h2
 have hl:=r.length
 have hn:=lR
 have fin:EP X pins σ Q w s:=⟨z,H,I,Dc,q⟩
 exact subscriptTail_builtinR (x:=w) pl.typeIs slot_tuple_getitem.lookup
  (getItem_tuple (j:=j) (Q:=λr s'=>r=w/\EP X pins σ Q r s') pl (by omega) (by omega) (by rw[List.size_toArray,<-hl];exact h1) (by simpa using ew) ⟨rfl,fin⟩) hs
def RB:wH X Xi:=by
 intro value slice pins s σ H x y v u Q I rx ry h hs
 obtain⟨z,i,c,rfl,rfl,hz,he,q⟩:=h
 obtain⟨t,rfl⟩:=rx
 obtain⟨t',rfl⟩:=ry
 obtain⟨j,h1,h2,h3,h4,h5⟩:=qP he
 have hl:z.cps.toList.length=z.length:=by simp[Str.length]
 rw[hl] at h1 h4 h5
 have hn:=lR
 exact tail_any (typeIs_str s z t) slot_str_getitem.lookup (getItem_str (c:=c) (by
  have e1:decide (i < -(2 ^ 63:Int))=false:=decide_eq_false (by omega)
  have e2:decide (i >= 2 ^ 63)=false:=decide_eq_false (by omega)
  rw[e1,e2,Bool.or_false]) (by rw[h1];simpa using h2) ⟨.str ⟨#[c]⟩,H,I.tok _,⟨_,rfl⟩,q⟩) hs
def rIx(K:PySem.W.Frag):R2:=λx y H Q=>Xg K x y H Q\/Xh K x y H Q\/Xi x y H Q
def qQ:wH X (rIx X.K):=Jp.or (Rz.or RB)
def qR(lo hi:Option Int)(n:Nat):(sliceBounds lo hi none n).1=((HT.gb n 0 lo:Nat):Int)/\(sliceBounds lo hi none n).2.1=((HT.gb n n hi:Nat):Int)/\(sliceBounds lo hi none n).2.2=1:=by
 refine⟨?_,?_,rfl⟩
 ·cases lo with
  |none=>simp[sliceBounds,HT.gb]
  |some i=>
   simp only[sliceBounds,HT.gb,Option.getD_none,show(1:Int)>0 by decide,if_true]
   by_cases h:i<0
   ·simp only[h,if_true]<;>omega
   ·simp only[h,if_false]<;>omega
 ·cases hi with
  |none=>simp[sliceBounds,HT.gb]
  |some i=>
   simp only[sliceBounds,HT.gb,Option.getD_none,show(1:Int)>0 by decide,if_true]
   by_cases h:i<0
   ·simp only[h,if_true]<;>omega
   ·simp only[h,if_false]<;>omega
def oU(its:List Value)(lo hi:Option Int):slicePick its.toArray lo hi none=((its.drop (HT.gb its.length 0 lo)).take (HT.gb its.length its.length hi-HT.gb its.length 0 lo)).toArray:=by
 obtain⟨h1,h2,h3⟩:=qR lo hi its.toArray.size
 unfold slicePick
 rw[h1,h2,h3]
 simp only[sliceRange_one,pick_run,List.size_toArray]<;>rfl
def ZbO(K:PySem.W.Frag):V->Option Int->Option Int->Hp->VK->Prop:=λx lo hi H Q=>∃a xs,x=.ref a/\ř K H a xs/\∀p,H p=none->Q (.ref p) (upd H p (.lst (uh xs lo hi)))
def Jq:yu X (ZbO X.K):=by
 intro pins s σ H x v vl vu lo hi sl Q I rx hs pl pu h
 obtain⟨a,xs,rfl,hx,q⟩:=h
 cases rx
 obtain⟨its,r,ht,hz⟩:=I.list hx
 have hlen:=r.length
 refine⟨"list",_,slot_list_getitem.lookup,ht.isList.typeIs,?_⟩
 refine wpAny_getItem_list_slice ht.isList hs pl pu .none (by simp) ?_ (by rw[List.size_toArray]<;>omega)
 rw[oU,<-hlen]
 refine⟨.ref s.heap.objs.size,_,I.laid (t':=s.toks) (o:=.lst (uh xs lo hi)) (λb ob q=>Heap.get?_push_of_some _ q) (Nat.le_refl _) ?_,rfl,q _ (I.hok.fresh (Nat.le_refl _))⟩
 exact⟨Nat.le_trans (um xs lo hi) hz,_,0,(r.drop (HT.gb xs.length 0 lo)).take (HT.gb xs.length xs.length hi-HT.gb xs.length 0 lo),Heap.get?_push_size _ rfl⟩
def qT:ŝ X (.type "list") (λxs H Q=>∃p ys,xs=[.ref p]/\(ř X.K H p ys\/aG X.K H p ys)/\∀l,H l=none->Q (.ref l) (upd H l (.lst ys))):=by
 intro pins s σ H xs us Q I r h
 obtain⟨p,ys,rfl,hq,q⟩:=h
 obtain⟨u,rfl,rx⟩:=vals1 r
 cases rx
 have fin:∀(its:List Value),Vals ys its->ys.length<=sizeLine->∀(h':Heap) (c':Nat),(∀b o',s.heap.get? b=some o'->h'.get? b=some o')->
  h'.get? s.heap.objs.size=some {cls:=.type "list",dict:=none,data:=.seq its.toArray c',slots:=#[]}->EP X pins σ Q (.ref s.heap.objs.size) {s with heap:=h'}:=λits r' hz h' c' kp e=>
  ⟨.ref s.heap.objs.size,_,I.laid (t':=s.toks) kp (Nat.le_refl _) (show Ł X.prog X.w _ h' _ (.lst ys) from⟨hz,its,c',r',e⟩),rfl,q _ (I.hok.fresh (Nat.le_refl _))⟩
 rcases hq with hq|hq
 ·obtain⟨its,r',pl,hz⟩:=I.list hq
  have hlen:=r'.length
  obtain⟨o,ho,hc,n,hd⟩:=pl.isList
  exact call_list_seq p (.inl rfl) ho hc hd (λh' c' kp e=>fin its r' hz h' c' kp e) (by simp only[List.size_toArray]<;>omega)
 ·obtain⟨its,r',pl,hz⟩:=I.tuple hq
  have hlen:=r'.length
  obtain⟨o,ho,hc,n,hd⟩:=pl
  exact call_list_seq p (.inr rfl) ho hc hd (λh' c' kp e=>fin its r' hz h' c' kp e) (by simp only[List.size_toArray]<;>omega)
def tyV(K:PySem.W.Frag)(T:String)(x:V)(H:Hp):Prop:=match x with
 | .str _=>T= "str"
 | .int _=>T= "int"
 | .ref p=>(T= "list" ∧∃xs,ř K H p xs)∨(T= "tuple" ∧∃o,K.lookup p=some o∧o.cls=.type "tuple" ∧o.dict=none)∨
     (T= "dict" /\((∃kvs,H p=some (.dK kvs))\/∃kvs,H p=some (.dT kvs)))\/(T= "set" /\∃S n,H p=some (.set S n))
 |_=>False
def RD{pins:List (Addr×Obj)}{σ:St}{H:Hp}{s:Shared}{T:String}{x:V}{v:Value}(I:Inv X pins σ H s)(r:RelV x v)(ty:tyV X.K T x H) :
 s.TypeIs v T/\∀a,v=.ref a->∃ob,s.heap.get? a=some ob/\ob.dict=none:=by
 cases x with
 |str z=>
  obtain⟨t,rfl⟩:=r
  cases(show T= "str" from ty)
  exact⟨typeIs_str s z t,λ_ e=>nomatch e⟩
 |int i=>
  obtain⟨t,rfl⟩:=r
  cases(show T= "int" from ty)
  exact⟨typeIs_int s i t,λ_ e=>nomatch e⟩
 |ref p=>
  cases r
  rcases ty with⟨rfl,xs,hq⟩|⟨rfl,o,hk,hc,hd⟩|⟨rfl,hk⟩|⟨rfl,S,n,hk⟩
  ·obtain⟨its,_,pl,_⟩:=I.list hq
   refine⟨pl.isList.typeIs,λa e=>?_⟩
   cases e
   obtain⟨o,n,e,c,hd,_⟩:=pl
   exact⟨o,e,hd⟩
  ·refine⟨⟨o,I.kI p o hk,hc⟩,λa e=>?_⟩
   cases e
   exact⟨o,I.kI _ o hk,hd⟩
  ·have z:∃o,s.heap.get? p=some o∧o.ExactDict:=by
    rcases hk with⟨kvs,hk⟩|⟨kvs,hk⟩
    ·obtain⟨_,_,_,_,o,_,_,e,ex,_⟩:=I.hok p _ hk
     exact⟨o,e,ex⟩
    ·obtain⟨_,_,_,_,o,_,_,e,ex,_⟩:=I.hok p _ hk
     exact⟨o,e,ex⟩
   obtain⟨o,e,ex⟩:=z
   refine⟨⟨o,e,ex.1⟩,λa e2=>?_⟩
   cases e2
   exact⟨o,e,ex.2.1⟩
  ·obtain⟨o,_,_,_,e,ex,_⟩:=I.hok p _ hk
   refine⟨⟨o,e,ex.1⟩,λa e2=>?_⟩
   cases e2
   exact⟨o,e,ex.2.1⟩
 |_=>exact False.elim ty
def tBM(K:PySem.W.Frag)(T:String)(r:V->List V->Hp->VK->Prop)(to:TE)(t:TA):TE:=λσ H Q=>to σ H λx H1=>tyV K T x H1/\t σ H1 λxs H2=>r x xs H2 Q
variable{o e:Expr}{es:List Expr}{to:TE}{t:TA}{name:Str}{apos cpos:Pos}{T id:String}{r:V->List V->Hp->VK->Prop}
def gj(pa:PlainAttrs T)(slot:Slot T name id)(hty:typeOf (.builtin id)=pure (.type "method_descriptor"))(hm:MtR X id r)(ho:PE X o to)(ha:PA X (e::es) t)
 (hbase:attributeBase o name X.env (eval o X.env)=eval o X.env:=by rfl)
 (hfew:((backTo cpos (starEach (e::es) X.env)).all (fun x=>!x.1) && (backToKw cpos (keywordEach [] X.env)).all (fun x=>x.1.isSome)
   && decide ((e::es).length+([]:List Keyword).length+(if([]:List Keyword).isEmpty then 0 else 1)<30))=true:=by rfl)
 (hline:(apos.endLine== cpos.line)=true:=by rfl)(hs:starEach (e::es) X.env=(false,eval e X.env)::starEach es X.env:=by rfl)(hplain:(backTo cpos (starEach es X.env)).any (·.1)=false:=by rfl) :
 PE X (.Call (.Attribute o name apos) (e::es) [] cpos) (tBM X.K T r to t):=by
 intro pins s σ H Q I h
 refine wpAny_Call_method_late hbase hfew hline rfl (Ľ (ho pins s σ H _ I h) λv s1 ⟨x,H1,I1,r1,ty,q1⟩=>?_)
 obtain⟨h1,h2⟩:=RD I1 r1 ty
 refine⟨T,id,pa,slot,hty,h1,h2,?_⟩
 have hA:=ha cpos pins s1 σ H1 _ I1 q1
 rw[hs] at hA ⊢
 refine Calls.callWith_builtin (by show(false || (backTo cpos (starEach es X.env)).any (·.1))=false;rw[hplain]<;>rfl) (Calls.evalArgs_plain ?_)
 exact Ľ hA λus s2 ⟨vs,H2,I2,r2,q2⟩=>hm pins s2 σ H2 x vs v us Q I2 r1 r2 q2
end
end L2
namespace L2
open PySem PySem.Spec PyProof.Rows
def MtM(X:Cx)(id:String)(r:V->List V->Hp->VK->Prop):Prop:=
 ∀(pins:List (Addr×Obj)) (s:Shared) (σ:St) (H:Hp) (x:V) (xs:List V) (v:Value) (us:List Value) (Q:VK),Inv X pins σ H s->RelV x v->Vals xs us->r x xs H Q->
  wpAny (model X.prog X.w) X.A (call (.builtin id) (v::us)) (EP X pins σ Q) X.xe s
theorem Vals.one:∀{x:V} {us:List Value},Vals [x] us->∃u,us=[u]/\RelV x u
 |_,_,.cons r .nil=>⟨_,rfl,r⟩
section
variable{X:Cx}{pins:List (Addr×Obj)}{σ:St}{H:Hp}{s:Shared}{l b:Addr}{xs ys zs:List V}
def Inv.ZbP{its its':List Value}{n:Nat}{f:Array Value->Array Value}{t':Nat}(I:Inv X pins σ H s)(hH:H l=some (.lst xs))
 (e:s.heap.get? l=some {cls:=.type "list",data:=.seq its.toArray n})(hf:f its.toArray=its'.toArray)(hv:Vals ys its')(hz:ys.length<=sizeLine) :
 Inv X pins σ (upd H l (.lst ys)) {s with heap:=s.heap.update l (Obj.mapSeq f),toks:=t'}:=by
 have q:=PySem.IsL.update e f
 rw[hf] at q
 refine I.write (x:=l) (e:=l) (by rw[hH];exact trivial) (.inl rfl) (λb' u hb hu=>(Heap.get?_update_other s.heap (Obj.mapSeq f) (Ne.symm hb)).trans hu) ⟨_,q⟩ ?_
 exact⟨hz,its',_,hv,q⟩
def Inv.ZbQ{its:List Value}{t':Nat}(I:Inv X pins σ H s)(hv:Vals ys its)(hz:ys.length<=sizeLine) :
 Inv X pins σ (upd H s.heap.objs.size (.lst ys)) {s with heap:=s.heap.push {cls:=.type "list",data:=.seq its.toArray},toks:=t'}:=
 I.laid (λ_ _ q=>Heap.get?_push_of_some _ q) (Nat.le_refl _) ⟨hz,its,0,hv,Heap.get?_push_size _ rfl⟩
theorem Inv.fresh(I:Inv X pins σ H s):H s.heap.objs.size=none:=I.hok.fresh (Nat.le_refl _)
def Inv.ZbR(I:Inv X pins σ H s)(hH:H l=some (.lst xs)):xs.length<=sizeLine/\∃(its:List Value) (n:Nat),Vals xs its/\xs.length=its.length/\s.heap.get? l=some {cls:=.type "list",data:=.seq its.toArray n}:=by
 obtain⟨z,its,n,r,e⟩:=I.hok l _ hH
 exact⟨z,its,n,r,r.length,e⟩
end
section
variable{X:Cx}
def kW:V->List V->Hp->VK->Prop:=λx vs H Q=>∃l xs y,x=.ref l/\vs=[y]/\H l=some (.lst xs)/\xs.length<sizeLine/\Q .non (upd H l (.lst (xs ++ [y])))
def ł:MtM X "list.append" kW:=by
 intro pins s σ H x vs v us Q I rx rv h
 obtain⟨l,xs,y,rfl,rfl,hH,hz,q⟩:=h
 cases rx
 obtain⟨u,rfl,ru⟩:=rv.one
 obtain⟨z,its,n,r,hl,e⟩:=I.ZbR hH
 refine call_meets F.slot_list_append ⟨_,e,rfl⟩ F.entry_list_append (F.args_list_append_2 _ _) (PySem.list_append l its.toArray n u (by rw[List.size_toArray];omega)) ⟨e,?_⟩
 refine⟨.non,_,I.ZbP (its':=its ++ [u]) hH e (by simp) (r.append (.cons ru .nil)) ?_,rfl,q⟩
 rw[List.length_append,List.length_singleton]
 omega
end
section
variable{prog:Program}{w:World}{A:Around}{E:Value->Shared->Prop}{s:Shared}
end
section
variable{X:Cx}
end
end L2
namespace Att
open PySem PySem.W PySem.Calls PyProof.Rows
def jU{P:Params}{h:Heap}:∀(ns:List Int) (vs:List Value),WellAll P h vs (ns.map WData.int)->IntsAre vs ns:=by
 intro ns
 induction ns with
 |nil=>
  intro vs w
  rw[List.map_nil] at w
  cases w
  exact .nil
 |cons n ns ih=>
  intro vs w
  rw[List.map_cons] at w
  cases w with
  |cons a b=>
   cases a
   exact .cons _ _ (ih _ b)
def Bf{l:OpenLaw}{n:Nat}(hn:l.most=some n){P:Params}{h:Heap}{args:List WData}{vals:List Value}
 (hpre:l.row.toRowW.claim.pre args=true)(hwl:WellAll P h vals args) :
 ∃a vs ns,vals=[Value.ref a]/\args=[WData.list (ns.map WData.int)]/\h.get? a=some {cls:=.type "list",data:=.seq vs.toArray}/\IntsAre vs ns/\ns.length<=n:=by
 have hsh:WShape.hasAll [] args [.list .int]=true:=(pre_splitW hpre).1
 have hc:l.pre.holds [] {args:=args}=true:=(pre_splitW hpre).2
 obtain⟨d,r,rfl,h1,h2⟩:=hasAllW_cons hsh
 obtain rfl:=hasAllW_nil h2
 obtain⟨xs,rfl,h3⟩:=hasW_list h1
 obtain⟨ns,rfl⟩:=items_int h3
 have hlen:ns.length<=n:=by
  unfold OpenLaw.pre at hc
  have h4:(WTm.not (.lt (.lit (.int (n:Int))) (.len (.arg 0)))).holds [] {args:=[.list (ns.map .int)]}=true:=by
   have h4:=(holds_andW hc).1
   rw[hn] at h4
   exact h4
  have h5:=condW_of h4 (w_not (w_lt w_lit (w_len_list (w_arg rfl))))
  rw[List.length_map] at h5
  refine Nat.le_of_not_lt λq=>?_
  have q':(n:Int)<((ns.length:Nat):Int):=by omega
  first
   |(rw[decide_eq_true q'] at h5;exact absurd h5 (by decide))
   |(simp at h5;omega)
 cases hwl with
 |cons w1 w2=>
  cases w2
  cases w1 with
  |list ho hall=>exact⟨_,_,ns,rfl,rfl,ho,jU ns _ hall,hlen⟩
def Bg(l:OpenLaw)(args:List WData):l.row.toRowW.claim.post args (.bool true) args=true:=
 postW_of (r:=l.row.toRowW) (X:=(true== true))
  (show WShape.has [] (.bool true) .bool=true by first|rfl|decide|simp[WShape.has,WShape.arms,WShape.armsAll])
  (show(WTm.eq .res (.lit (.bool true))).value [] {args:=args,res:=some (.bool true),after:=args}=some (.bool (true== true)) from w_eq_bool (w_res rfl) w_lit) rfl
def uo{l:OpenLaw}{n:Nat}{q:Program}{loose:List Str}{XP:(Str->Option Value)->Heap->Prop}{YP:World->Heap->Prop}{d:DefRec}
 (hn:l.most=some n)(hdf:d.params.defaults=[])
 (call:∀(w:World) (s₀ s₁:Shared) (mg mb:Str→Option Value) (fa:Addr) (o:Obj) (pm cd doc:Value) (a:Addr) (vs:List Value) (ns:List Int),
   Ground q loose [] XP w s₀ mg mb s₁.heap->YP w s₁.heap->
   s₁.heap.get? fa=some o->o.data=.func (docDef d.name d.params d.body d.scope pm cd doc)->s₁.heap.CodeRec cd d.name->mg d.name=some (.ref fa)->
   s₁.heap.get? a=some {cls:=.type "list",data:=.seq vs.toArray}->IntsAre vs ns->ns.length<=n->s₁.gens= #[]->
   codeAny (model l.prog w) callerA (.call (.ref fa) ⟨[.ref a],[]⟩) (λr s'=>r=.ok (.ret (.bool true))/\OldK s₁.heap s'.heap/\s'.os=s₁.os/\AllBare s'.gens) s₁) :
 WalkO q loose XP YP l.row.toRowW d [] (λf vs=>PySem.call f vs):=by
 intro w s₀ s₁ mg mb G Y fa o pm cd doc dV kV ho hd hcd hD hmg hg args vals as hpre hlay hrd hwl hlo
 obtain rfl:dV=.none:=Dflts.none hD hdf
 obtain rfl:kV=.none:=Dflts.noKw hD
 obtain⟨a,vs,ns,rfl,rfl,hobj,hints,hlen⟩:=Bf hn hpre hwl
 refine enter_call (codeAny_mono (call w s₀ s₁ mg mb fa o pm cd doc a vs ns G Y ho (fd_plain hd) hcd hmg hobj hints hlen hg) λr s' hq=>?_)
 obtain⟨rfl,h2,h3,h4⟩:=hq
 exact⟨.inl ⟨.bool true,.bool true,[],rfl,λ_=>rfl,.bool true,Bg l _,λ_=>⟨List.Pairwise.nil,λ_ hm=>(nomatch hm)⟩⟩,h2,h3,h4⟩
section
variable{prog:Program}{w:World}{A:Around}{E:Value->Shared->Prop}{s:Shared}{K:Frag}
end
end Att
namespace L2
open PySem PySem.Spec PyProof.Rows
theorem iI:∀{vs:List Value} {ns:List Int},IntsAre vs ns->Vals (ns.map V.int) vs
 |_,_,.nil=>.nil
 |_,_,.cons n t h=>.cons ⟨t,rfl⟩ (iI h)
def Only(H:Hp):Prop:=∀b,H b=none\/(∃o xs,H b=some (.bU o (.lst xs)))\/∃q,H b=some (.oK q)
def cX(K:PySem.W.Frag):List Str->Hp
 | []=>λ_=>none
 |y::r=>λb=>match PySem.W.tabIn K y with
  |some (_,P)=>if b=P then some (.oK (qI y)) else cX K r b
  |none=>cX K r b
theorem aH{K:PySem.W.Frag}:∀{l:List Str} {b:Addr} {u:HO},cX K l b=some u->∃y c,y∈l/\PySem.W.tabIn K y=some (c,b)/\u=.oK (qI y)
 | [],_,_,h=>by cases(show(none:Option HO)=some _ from h)
 |y::r,b,u,h=>by
  have h':(match PySem.W.tabIn K y with
   |some (_,P)=>if b=P then some (.oK (qI y)) else cX K r b
   |none=>cX K r b)=some u:=h
  have rc:cX K r b=some u->∃z c,z∈y::r/\PySem.W.tabIn K z=some (c,b)/\u=.oK (qI z):=λq=>
   let ⟨z,c,h1,h2,h3⟩:=aH q
   ⟨z,c,List.mem_cons_of_mem _ h1,h2,h3⟩
  cases e:PySem.W.tabIn K y with
  |none=>rw[e] at h';exact rc h'
  |some p=>
   obtain⟨c,P⟩:=p
   rw[e] at h'
   have h2:(if b=P then some (HO.oK (qI y)) else cX K r b)=some u:=h'
   by_cases hb:b=P
   ·rw[if_pos hb] at h2
    cases h2
    exact⟨y,c,List.mem_cons_self,by rw[hb];exact e,rfl⟩
   ·rw[if_neg hb] at h2
    exact rc h2
theorem yC{K:PySem.W.Frag}{y:Str}{c P:Addr}(e:PySem.W.tabIn K y=some (c,P)):∀{l:List Str},(∀z∈l,z=y)->y∈l->cX K l P=some (.oK (qI y))
 | [],_,h=>by cases h
 |z::r,h1,_=>by
  have hz:=h1 z List.mem_cons_self
  subst hz
  show(match PySem.W.tabIn K z with
   |some (_,Q)=>if P=Q then some (HO.oK (qI z)) else cX K r P
   |none=>cX K r P)=_
  rw[e]
  exact if_pos rfl
def Dd{P:Program}{w:World}{K:PySem.W.Frag}{mg mb:Str->Option Value}{CX:iH}{k:Nat}{fa a:Addr}{fd:FuncData}{x:Str}{sp:Sp}{s₁:Shared}{vs:List Value}{ns:List Int}
 (KX:K.In s₁.heap)(hns:s₁.heap.Ns mainGlobals mg)(hb:s₁.heap.Ns builtinsNs mb)(hbb:∀x:Str,x≠ "__name__" ->mb x=bootBuiltins x)(hlim:s₁.heap.NoLimit)(hg:s₁.gens= #[])
 (ha:s₁.heap.get? a=some {cls:=.type "list",data:=.seq vs.toArray})(hi:IntsAre vs ns)(hl:ns.length<=sizeLine)(hr:Ş k callerA)
 (F:∀base:Heap,K.In base->base.Ns mainGlobals mg->ī P w K mg base CX k fa fd [x] sp)(hbind:∀(s:Shared) (u:Value),BindsTo s fd ⟨[u],[]⟩ [(x,u)])
 (hsp:∀H:Hp,Only H->ř K H a (ns.map V.int)->sp [.ref a] H (λv _=>v=.bl true) λ_ _ _=>False)
 (Xj:∀H e s',CX [] H s₁ (λ_ _ _=>False) e s'->False)
 (hnt:lams≠[]->PySem.W.noTabs K=true)(hone:∀y z,y∈lams->z∈lams->y=z)(htb:∀y c Pt,y∈lams->PySem.W.tabIn K y=some (c,Pt)->PySem.W.CodeHd s₁.heap c Pt/\s₁.heap.get? Pt=some (PySem.W.tabObj #[])/\s₁.heap.BuiltinsAt mg Pt) :
 codeAny (model P w) callerA (.call (.ref fa) ⟨[.ref a],[]⟩) (λr s'=>r=.ok (.ret (.bool true))/\OldK s₁.heap s'.heap/\s'.os=s₁.os/\AllBare s'.gens) s₁:= by
 have rv:=iI hi
 have lenV:=hi.length
 -- from an abstract heap in which nothing but the script may be tracked
 have core:∀H:Hp,Only H->ř K H a (ns.map V.int)->cR P w H s₁.heap->(∀b,H b≠none->b=a\/∃y c,y∈lams/\PySem.W.tabIn K y=some (c,b))->(H a≠none->K.lookup a=none)->(∀y c Pt,y∈lams->PySem.W.tabIn K y=some (c,Pt)->H Pt=some (.oK (qI y)))->
  codeAny (model P w) callerA (.call (.ref fa) ⟨[.ref a],[]⟩) (λr s'=>r=.ok (.ret (.bool true))/\OldK s₁.heap s'.heap/\s'.os=s₁.os/\AllBare s'.gens) s₁:= by
  intro H hO hS hok hA hK hT
  have kY:∀{b:Addr} {o:Obj},s₁.heap.get? b=some o->H b=none->(oR s₁.heap H).get? b=some o:=λe n=>Cy e n
  have Xf:∀{b:Addr} {o:Obj} {es:Array DictEntry} {ep:Nat},s₁.heap.get? b=some o->o.data=.dict es ep->H b=none:=fun{b o es ep} e d=>by
   cases q:H b with
   |none=>rfl
   |some u=>
    rcases hA b (by rw[q];simp) with e'|⟨y,c,hy,hty⟩
    ·subst e'
     rw[ha] at e;cases e
     have d':Data.seq vs.toArray _=Data.dict es ep:=d
     cases d'
    ·have e2:=(htb y c b hy hty).2.1
     rw[e] at e2;cases e2;cases d
  have nsK:∀{b:Addr} {m:Str->Option Value},s₁.heap.Ns b m->(oR s₁.heap H).Ns b m:=fun{b m} ⟨o,es,ep,e,d,r⟩=>⟨o,es,ep,kY e (Xf e d),d,r⟩
  have hKb:K.In (oR s₁.heap H):=λb o e=>kY (KX b o e) (by
   cases q:H b with
   |none=>rfl
   |some u=>
    rcases hA b (by rw[q];simp) with e'|⟨y,c,hy,hty⟩
    ·subst e'
     rw[hK (by rw[q];simp)] at e;cases e
    ·have e2:=(htb y c b hy hty).2.1
     rw[KX b o e] at e2
     cases e2
     have h2:=List.all_eq_true.mp (hnt (λz=>by rw[z] at hy;cases hy)) (b,_) (PySem.W.mem_of_lookupK e)
     exact absurd (show false=true from h2) Bool.false_ne_true)
  have hM:Mod K mg (oR s₁.heap H):=⟨hKb,nsK hns,⟨mb,nsK hb,hbb⟩,let ⟨mc,h1,h2⟩:=hlim;⟨mc,nsK h1,h2⟩⟩
  have hTB:TabsOk K mg (oR s₁.heap H) H:=λy c Pt hy hty=>by
   obtain⟨⟨o,us,file,tf,flags,tg,inF,text,tt,e1,r1,r2⟩,_,bm,ob,b1,b2,b3,b4,b5,b6,b7⟩:=htb y c Pt hy hty
   refine⟨⟨o,us,file,tf,flags,tg,inF,text,tt,kY e1 ?_,r1,r2⟩,hT y c Pt hy hty,bm,ob,b1,b2,b3,b4,kY b5 ?_,b6,b7⟩
   rotate_left
   ·cases q:H bm with
    |none=>rfl
    |some u=>
     rcases hA bm (by rw[q];simp) with e'|⟨z,c2,hz,htz⟩
     ·rw[e',ha] at b5;cases b5;exact absurd (Value.type.inj b6) (by decide)
     ·have e2:=(htb z c2 bm hz htz).2.1
      rw[b5] at e2;cases e2;cases b6
   cases q:H c with
   |none=>rfl
   |some u=>
    rcases hA c (by rw[q];simp) with e'|⟨z,c2,hz,htz⟩
    ·rw[e',ha] at e1;cases e1;exact absurd (Value.type.inj r1) (by decide)
    ·have e2:=(htb z c2 c hz htz).2.1
     rw[e1] at e2;cases e2;cases r1
  have e0:wG P w K mg (oR s₁.heap H) callerA [] s₁ H:=⟨rfl,hM,λb o e=>IK e,Nat.le_of_eq (Ao _ _),trivial,λb hb=>absurd (show b∈([]:List Addr) from hb) (by simp),hok,.of_eq hg,hTB⟩
  refine codeAny_mono ((F _ hKb (nsK hns)).run callerA [] s₁ H ⟨[.ref a],[]⟩ [.ref a] [.ref a] _ _ hr e0 (hbind s₁ (.ref a)) (.cons rfl .nil) (hsp H hO hS)) λr s' h=>?_
  cases r with
  |error e=>exact(Xj H e s' h).elim
  |ok fl=>
   cases fl with
   |next=>exact False.elim h
   |brk=>exact False.elim h
   |cont=>exact False.elim h
   |ret u=>
    obtain⟨v,H',os,bare,un,hok',r',q⟩:=h
    have q':v=.bl true:=q
    subst q'
    obtain rfl:u=Value.bool true:=r'
    have old:∀b o,s₁.heap.get? b=some o->(∀t,H b≠some (.oK t))->s'.heap.get? b=some o:=?_
    ·refine⟨rfl,⟨λb o e=>?_,λb o e=>?_⟩,os,bare⟩
     ·by_cases ht:∃t,H b=some (.oK t)
      ·obtain⟨t,ht⟩:=ht
       obtain⟨ps,e1,_⟩:=hok' b _ (un.jR b t ht)
       rcases hA b (by rw[ht];simp) with e'|⟨y,c,hy,hty⟩
       ·subst e'
        obtain⟨ps2,e3,_⟩:=hok b _ ht
        rw[ha] at e3;cases e3
       ·obtain⟨⟨o2,us,file,tf,flags,tg,inF,text,tt,f1,f2,f3,f4,_⟩,e2,_⟩:=htb y c b hy hty
        rw[e] at e2;cases e2
        exact .inr (.inl ⟨⟨c,o2,us,f1,f2,f3,f4⟩,rfl,#[],ps,rfl,by rw[e1];simp⟩)
      ·exact .inl (old b o e λt z=>ht ⟨t,z⟩)
     ·by_cases ht:∃t,H b=some (.oK t)
      ·obtain⟨t,ht⟩:=ht
       obtain⟨ps,e1,_⟩:=hok' b _ (un.jR b t ht)
       exact⟨_,e1⟩
      ·exact⟨o,old b o e λt z=>ht ⟨t,z⟩⟩
    intro b o e nt
    cases q:H b with
    |none=>exact un.keep b o e q (by intro z;exact absurd (show b∈([]:List Addr) from z) (by simp)) (by simp)
    |some u=>
     rcases hO b with z|⟨ob,xs,z⟩|⟨t,z⟩
     ·rw[q] at z;cases z
     rotate_left
     ·exact absurd z (nt t)
     ·have z2:=un.oO b ob _ z
      obtain⟨e1,_⟩:=hok b _ z
      obtain⟨e2,_⟩:=hok' b _ z2
      rw[e] at e1;cases e1
      exact e2
 cases hk:K.lookup a with
 |some o=>
  -- the script is one of the module's own objects
  have e:=KX a o hk
  rw[ha] at e
  cases e
  refine core (cX K lams) (λb=>?_) (.inr ⟨_,vs.toArray,_,hk,rfl,rfl,rfl,by rw[List.size_toArray,lenV];exact hl,by simpa using rv⟩) (λb u z=>?_) (λb z=>?_) (λz=>?_) λy c Pt hy hty=>yC hty (λz hz=>hone z y hz hy) hy
  ·cases q:cX K lams b with
   |none=>exact .inl rfl
   |some u=>obtain⟨y,c,_,_,rfl⟩:=aH q;exact .inr (.inr ⟨_,rfl⟩)
  ·obtain⟨y,c,hy,hty,rfl⟩:=aH z
   exact⟨#[],(htb y c b hy hty).2.1,trivial,λpos cv z=>by cases z⟩
  ·cases q:cX K lams b with
   |none=>exact absurd q z
   |some u=>obtain⟨y,c,hy,hty,_⟩:=aH q;exact .inr ⟨y,c,hy,hty⟩
  ·cases q:cX K lams a with
   |none=>exact absurd q z
   |some u=>
    obtain⟨y,c,hy,hty,_⟩:=aH q
    have e2:=(htb y c a hy hty).2.1
    rw[ha] at e2;cases e2
 |none=>
  refine core (λb=>if b=a then some (.bU {cls:=.type "list",data:=.seq vs.toArray} (.lst (ns.map V.int))) else cX K lams b) (λb=>?_) (.inl (.inr ⟨{cls:=.type "list",data:=.seq vs.toArray},if_pos rfl⟩)) (λb u z=>?_) (λb z=>?_) (λ_=>hk) λy c Pt hy hty=>?_
  ·by_cases hb:b=a
   ·exact .inr (.inl ⟨_,_,if_pos hb⟩)
   ·cases q:cX K lams b with
    |none=>exact .inl ((if_neg hb).trans q)
    |some u=>obtain⟨y,c,_,_,rfl⟩:=aH q;exact .inr (.inr ⟨_,(if_neg hb).trans q⟩)
  ·by_cases hb:b=a
   ·have z':=(if_pos hb).symm.trans z
    cases z'
    subst hb
    exact⟨ha,by rw[List.length_map];exact hl,vs,_,rv,ha⟩
   ·have z':=(if_neg hb).symm.trans z
    obtain⟨y,c,hy,hty,rfl⟩:=aH z'
    exact⟨#[],(htb y c b hy hty).2.1,trivial,λpos cv z=>by cases z⟩
  ·by_cases hb:b=a
   ·exact .inl hb
   ·cases q:cX K lams b with
    |none=>exact absurd ((if_neg hb).trans q) z
    |some u=>obtain⟨y,c,hy,hty,_⟩:=aH q;exact .inr ⟨y,c,hy,hty⟩
  ·have ne:Pt≠a:=fun z=>by
    subst z
    have e2:=(htb y c _ hy hty).2.1
    rw[ha] at e2;cases e2
   exact(if_neg ne).trans (yC hty (λz hz=>hone z y hz hy) hy)
end L2
namespace L2
open PySem PySem.Spec PyProof.Rows
def Jr{p:Program}{loose:List Str}{mean:ExcName->Option Value}{mg mb:Str->Option Value}{h:Heap}{K:PySem.W.Frag}{d:DefRec}{x:Str}{c P:Addr}(T:Top p loose mean mg mb h)(X:K.In h)(hr:(recsOf p).find? (λe=>e.name== x)=some d)(ht:PySem.W.tabIn K x=some (c,P)) :
 PySem.W.CodeHd h c P/\h.get? P=some (PySem.W.tabObj #[])/\h.BuiltinsAt mg P:=by
 obtain⟨h1,h2⟩:=PySem.W.tab_of T X hr ht
 obtain⟨bm,ob,b1,b2,b3,b4,b5,b6⟩:=T.bmain
 have hbP:bm≠P:=λq=>by rw[q,h2] at b3;cases b3;cases b4
 have hbG:bm≠mainGlobals:=λq=>by
  obtain⟨o,es,ep,e,hd,_⟩:=T.g
  rw[q,e] at b3;cases b3;rw[hd] at b6;cases b6
 exact⟨h1,h2,bm,ob,b1,b2,hbG,hbP,b3,b4,b5,b6⟩
def Js{l:PySem.W.OpenLaw}{n k:Nat}{q:Program}{loose:List Str}{XP:(Str->Option Value)->Heap->Prop}{YP:World->Heap->Prop}{d:DefRec}{K:Params->PySem.W.Frag}{CX:World->iH}{sp:World->Sp}{x:Str}
 (hn:l.most=some n)(hn2:n<=sizeLine)(hdf:d.params.defaults=[])(hr:Ş k callerA)
 (hY:∀(w:World) (h:Heap),YP w h->(K w.params).In h)
 (F:∀(w:World) (mg:Str→Option Value) (fa:Addr) (h:Heap),(K w.params).In h→h.Ns mainGlobals mg→mg d.name=some (.ref fa)→
   ∃fd:FuncData,(∀(s:Shared) (u:Value),BindsTo s fd ⟨[u],[]⟩ [(x,u)])/\
    ∀base:Heap,(K w.params).In base->base.Ns mainGlobals mg->ī l.prog w (K w.params) mg base (CX w) k fa fd [x] (sp w))
 (hsp:∀(w:World) (H:Hp) (a:Addr) (ns:List Int),ns.length<=n->Only H->ř (K w.params) H a (ns.map V.int)->sp w [.ref a] H (λv _=>v=.bl true) λ_ _ _=>False)
 (Xj:∀(w:World) (H:Hp) (s:Shared) (e:Value) (s':Shared),CX w [] H s (λ_ _ _=>False) e s'->False)
 (hnt:lams≠[]->∀w:World,PySem.W.noTabs (K w.params)=true:=by intro z;exact absurd rfl z)(hone:∀y z,y∈lams->z∈lams->y=z:=by simp[lams])(hrec:∀y,y∈lams->∃d,(recsOf q).find? (λe=>e.name== y)=some d:=by simp[lams]) :
 PySem.W.WalkO q loose XP YP l.row.toRowW d [] (λf vs=>PySem.call f vs):=by
 refine Att.uo hn hdf λw s₀ s₁ mg mb fa o pm cd doc a vs ns G Y ho hd hcd hmg hobj hints hlen hg=>?_
 have KX:=hY w _ Y
 obtain⟨fd,hb,hF⟩:=F w mg fa _ KX G.T.g hmg
 exact Dd KX G.T.g G.T.b G.T.builtins G.T.nolimit hg hobj hints (Nat.le_trans hlen hn2) hr hF hb (λH hO hS=>hsp w H a ns hlen hO hS) (λH e s'=>Xj w H s₁ e s') (λz=>hnt z w) hone λy c Pt hy hty=>let ⟨_,hr'⟩:=hrec y hy;Jr G.T KX hr' hty
end L2
namespace L2
open PySem PySem.Spec PyProof.Rows
def inClass(s:Stmt)(j:Nat):Stmt:=match s with
 | .ClassDef _ _ _ body _ _ _ _ _ _ _=>body.getD j (.Pass ⟨0,0,0,0⟩)
 |_=>.Pass ⟨0,0,0,0⟩
def ū(s:Stmt):Arguments:=match s with
 | .FunctionDef _ a _ _ _ _ _ _ _ _=>a
 |_=> {posonlyargs:=[],args:=[],vararg:=none,kwonlyargs:=[],kw_defaults:=[],kwarg:=none,defaults:=[]}
def ő(s:Stmt):List Stmt:=match s with
 | .FunctionDef _ _ b _ _ _ _ _ _ _=>b
 |_=>[]
def Ĉ(s:Stmt):Scope:=match s with
 | .FunctionDef _ _ _ _ _ _ sc _ _ _=>sc
 |_=> {kind:=.function,names:=[],isGenerator:=false,isCoroutine:=false}
abbrev aA:iH:=λ_ _ _ _ _ _=>False
structure Jt(K:PySem.W.Frag)(x qual:Str)(st:Stmt)(f:Addr)(fd:FuncData):Prop where
 ex:∃(oc:Value) (od:Option Addr) (kV doc pm:Value) (an:Option Addr) (cdv ct:Value) (osl:Array (Option Value)),
   fd=PySem.W.fnOf x qual (ū st) (ő st) (Ĉ st) .none kV doc pm an cdv ct/\K.lookup f=some ⟨oc,od,.func fd,osl⟩/\PySem.W.codeIn K cdv qual=true
 kp:PySem.W.keepIn K (.ref f)=true
section
variable{P:Program}{w:World}{K:PySem.W.Frag}{mg:Str->Option Value}{base:Heap}
def Jt.binds{x qual:Str}{st:Stmt}{f:Addr}{fd:FuncData}{ps:List Str}(F:Jt K x qual st f fd)
 (h:∀(kV doc pm:Value) (an:Option Addr) (cdv ct:Value) (us:List Value),us.length=ps.length->bindArgs (PySem.W.fnOf x qual (ū st) (ő st) (Ĉ st) .none kV doc pm an cdv ct) ⟨us,[]⟩=pure (ps.zip us)):Binds K fd ps []:=by
 obtain⟨oc,od,kV,doc,pm,an,cdv,ct,osl,rfl,lk,hcd⟩:=F.ex
 exact .all (h kV doc pm an cdv ct)
def Dg{x qual:Str}{st:Stmt}{f:Addr}{oc:Value}{od an:Option Addr}{osl:Array (Option Value)}{kV doc pm cdv ct:Value}(l:K.lookup f=some ⟨oc,od,.func (PySem.W.fnOf x qual (ū st) (ő st) (Ĉ st) .none kV doc pm an cdv ct),osl⟩)
 (c:PySem.W.codeIn K cdv qual=true)(k:PySem.W.keepIn K (.ref f)=true):Jt K x qual st f (PySem.W.fnOf x qual (ū st) (ő st) (Ĉ st) .none kV doc pm an cdv ct):=⟨⟨oc,od,kV,doc,pm,an,cdv,ct,osl,rfl,l,c⟩,k⟩
end
section
variable{X:Cx}
def pv(i:Nat){x:Str}{pos:Pos}(hN:X.N[i]?=some x:=by rfl)(hv:qJ X.env.scope x:=by first|exact Or.inl rfl|exact Or.inr (Or.inl rfl)|exact Or.inr (Or.inr rfl))(hd:(x== ("__debug__" :Str))=false:=by decide)
 (hcd:(x== ("__classdict__" :Str))=false:=by decide):PE X (.Name x pos) (lN i):=ş hN hv hd hcd
end
def Same(H H':Hp):Prop:=∀b o,H b=some o->H' b=some o
def Same.refl(H:Hp):Same H H:=λ_ _ h=>h
def Same.trans{H H1 H2:Hp}(a:Same H H1)(b:Same H1 H2):Same H H2:=λc o h=>b c o (a c o h)
def Same.free{H H':Hp}(e:Same H H'){l:Addr}(h:H' l=Option.none):H l=Option.none:=by
 cases q:H l with
 |none=>rfl
 |some o=>
  rw[e l o q] at h
  cases h
def Same.seq{K:PySem.W.Frag}{H H':Hp}{a:Addr}{xs:List V}(e:Same H H')(h:ř K H a xs):ř K H' a xs:=by
 rcases h with(h|⟨o,h⟩)|h
 ·exact .inl (.inl (e _ _ h))
 ·exact .inl (.inr ⟨o,e _ _ h⟩)
 ·exact .inr h
end L2
namespace M2
open PySem PySem.Spec PyProof.Rows L2
section
variable{X:Cx}{a b c e:Expr}{ta tb tc te:TE}{pos:Pos}
def PE.wk{t t':TE}(h:PE X e t)(i:∀σ H Q,t' σ H Q->t σ H Q):PE X e t':=λpins s σ H Q I q=>h pins s σ H Q I (i σ H Q q)
def PS.wk{st:Stmt}{t t':TS}(h:PS X st t)(i:∀D σ H,t' D σ H->t D σ H):PS X st t':=λpins s σ H D I q=>h pins s σ H D I (i D σ H q)
def ţ.wk{f:Value->Value->Sem Value}{r r':R2}(h:ţ X f r)(i:∀x y H Q,r' x y H Q->r x y H Q):ţ X f r':=λpins s σ H x y v u Q I rx ry q=>h pins s σ H x y v u Q I rx ry (i x y H Q q)
def Jg.wk{f:Value->Sem Value}{r r':V->Hp->VK->Prop}(h:Jg X f r)(i:∀x H Q,r' x H Q->r x H Q):Jg X f r':=λpins s σ H x v Q I rx q=>h pins s σ H x v Q I rx (i x H Q q)
def ŝ.wk{f:Value}{r r':List V->Hp->VK->Prop}(h:ŝ X f r)(i:∀xs H Q,r' xs H Q->r xs H Q):ŝ X f r':=λpins s σ H xs us Q I r q=>h pins s σ H xs us Q I r (i xs H Q q)
def wH.wk{r r':R2}(h:wH X r)(i:∀x y H Q,r' x y H Q->r x y H Q):wH X r':=λva sl pins s σ H x y v u Q I rx ry q=>h va sl pins s σ H x y v u Q I rx ry (i x y H Q q)
def yu.wk{r r':V->Option Int->Option Int->Hp->VK->Prop}(h:yu X r)(i:∀x lo hi H Q,r' x lo hi H Q->r x lo hi H Q):yu X r':=λpins s σ H x v vl vu lo hi sl Q I rx hs pl pu q=>h pins s σ H x v vl vu lo hi sl Q I rx hs pl pu (i x lo hi H Q q)
def RJ(i:Nat):TE:=λσ H Q=>match σ[i]? with
 |some (some v)=>Q v H
 |_=>False
def Ju{i:Nat}{σ:L2.St}{H:Hp}{Q:VK}(h:RJ i σ H Q):lN i σ H Q:=by
 unfold RJ at h
 split at h
 ·exact⟨_,by assumption,h⟩
 ·exact h.elim
def mv(i:Nat){x:Str}{pos:Pos}(hN:X.N[i]?=some x:=by rfl)(hv:qJ X.env.scope x:=by first|exact Or.inl rfl|exact Or.inr (Or.inl rfl)|exact Or.inr (Or.inr rfl))(hd:(x== ("__debug__" :Str))=false:=by decide)
 (hcd:(x== ("__classdict__" :Str))=false:=by decide):PE X (.Name x pos) (RJ i):=PE.wk (ş hN hv hd hcd) λ_ _ _ h=>Ju h
def Xk(x:V)(k:Bool->Prop):Prop:=match x with
 | .bl c=>k c
 |_=>False
def iJ{x:V}{k:Bool->Prop}(h:Xk x k):∃c,x=.bl c/\k c:=by
 cases x with
 |bl c=>exact⟨c,rfl,h⟩
 |_=>exact h.elim
def Dh(t:TE):TT:=λσ H Q=>t σ H λx H1=>Xk x λc=>Q c H1
def RK{op:CmpOp}{r:R2}(ho:ţ X (compareOp op) r)(ha:PE X a ta)(hb:PE X b tb)(hm:behindInMarks op b=false):PT X (.Compare a [op] [b] pos) (Dh (LR r ta tb)):=by
 intro pins s σ H Q I h
 refine wpAny_isTrue_Compare1 (Ľ (ha pins s σ H _ I h) λv s1 ⟨x,H1,I1,r1,q1⟩=>Ľ (hb pins s1 σ H1 _ I1 q1) λu s2 ⟨y,H2,I2,r2,q2⟩=>
  Ľ (ho pins s2 σ H2 x y v u _ I2 r1 r2 q2) λc s3 ⟨z,H3,I3,r3,q3⟩=>?_) hm
 obtain⟨k,e,q3⟩:=iJ q3
 subst e
 cases r3
 exact wpAny_truthy_bool ⟨H3,I3,q3⟩
def wI(r r':R2)(ta tb tc:TE):TE:=λσ H Q=>ta σ H λx H1=>tb σ H1 λy H2=>r x y H2 λz H3=>Xk z λk=>
 (if k=true then tc σ H3 λw' H4=>r' y w' H4 Q else Q (.bl false) H3)
def Di{op op':CmpOp}{r r':R2}(ho:ţ X (compareOp op) r)(ho':ţ X (compareOp op') r')(ha:PE X a ta)(hb:PE X b tb)(hc:PE X c tc)
 (hm:lastMarks [op,op'] [b,c]=false:=by with_unfolding_all rfl):PE X (.Compare a [op,op'] [b,c] pos) (wI r r' ta tb tc):=by
 intro pins s σ H Q I h
 refine Compare_chain (Ľ (ha pins s σ H _ I h) λv s1 ⟨x,H1,I1,r1,q1⟩=>chain_link (Ľ (hb pins s1 σ H1 _ I1 q1) λu s2 ⟨y,H2,I2,r2,q2⟩=>
  Ľ (ho pins s2 σ H2 x y v u _ I2 r1 r2 q2) λd s3 ⟨z,H3,I3,r3,q3⟩=>?_)) hm
 obtain⟨k,e,q3⟩:=iJ q3
 subst e
 cases r3
 refine wpAny_truthy_bool ?_
 cases k with
 |false=>exact ite_ff ⟨.bl false,H3,I3,rfl,q3⟩
 |true=>exact ite_tt (chain_last (Ľ (hc pins s3 σ H3 _ I3 q3) λw' s4 ⟨z',H4,I4,r4,q4⟩=>ho' pins s4 σ H4 y z' u w' Q I4 r2 r4 q4))
def Dj{op op':CmpOp}{r r':R2}(ho:ţ X (compareOp op) r)(ho':ţ X (compareOp op') r')(ha:PE X a ta)(hb:PE X b tb)(hc:PE X c tc)
 (hm:lastMarks [op,op'] [b,c]=false:=by with_unfolding_all rfl):PT X (.Compare a [op,op'] [b,c] pos) (Dh (wI r r' ta tb tc)):=by
 intro pins s σ H Q I h
 refine isTrue_chain (Ľ (ha pins s σ H _ I h) λv s1 ⟨x,H1,I1,r1,q1⟩=>test_link (Ľ (hb pins s1 σ H1 _ I1 q1) λu s2 ⟨y,H2,I2,r2,q2⟩=>
  Ľ (ho pins s2 σ H2 x y v u _ I2 r1 r2 q2) λd s3 ⟨z,H3,I3,r3,q3⟩=>?_)) hm
 obtain⟨k,e,q3⟩:=iJ q3
 subst e
 cases r3
 refine wpAny_truthy_bool ?_
 cases k with
 |false=>exact ite_ff ⟨H3,I3,q3⟩
 |true=>
  refine ite_tt (test_last (Ľ (hc pins s3 σ H3 _ I3 q3) λw' s4 ⟨z',H4,I4,r4,q4⟩=>Ľ (ho' pins s4 σ H4 y z' u w' _ I4 r2 r4 q4) λd' s5 ⟨z2,H5,I5,r5,q5⟩=>?_))
  obtain⟨k2,e2,q5⟩:=iJ q5
  subst e2
  cases r5
  exact wpAny_truthy_bool ⟨H5,I5,q5⟩
def Xl(ta tb:TE):TE:=λσ H Q=>ta σ H λx H1=>Xk x λc=>if c=true then tb σ H1 Q else Q (.bl false) H1
def Xm(ta:TE):TE:=λσ H Q=>ta σ H λx H1=>Xk x λc=>Q (.bl (!c)) H1
variable{rest:List Expr}
def RL(ha:PE X a ta)(hb:PE X (.BoolOp .And (b::rest) pos) tb):PE X (.BoolOp .And (a::b::rest) pos) (Xl ta tb):=by
 intro pins s σ H Q I h
 refine BoolOp_and (Ľ (ha pins s σ H _ I h) λv s1 ⟨x,H1,I1,r1,q1⟩=>?_)
 obtain⟨c,rfl,q1⟩:=iJ q1
 cases r1
 refine wpAny_truthy_bool ?_
 cases c with
 |true=>exact hb pins s1 σ H1 Q I1 q1
 |false=>exact⟨.bl false,H1,I1,rfl,q1⟩
def RM(ha:PE X a ta):PE X (.UnaryOp .Not a pos) (Xm ta):=by
 intro pins s σ H Q I h
 refine UnaryOp_ (Ľ (ha pins s σ H _ I h) λv s1 ⟨x,H1,I1,r1,q1⟩=>?_)
 obtain⟨c,rfl,q1⟩:=iJ q1
 cases r1
 exact not_of (wpAny_truthy_bool ⟨.bl (!c),H1,I1,rfl,q1⟩)
def mI(C:Int->Int->Prop)(g:Int->Int->V):R2:=λx y H Q=>match x,y with
 | .int i,.int j=>C i j/\Q (g i j) H
 |_,_=>False
def Jv(g:Int->Int->V):R2:=λx y H Q=>match x,y with
 | .int i,.int j=>Q (g i j) H
 |_,_=>False
def yD{C:Int->Int->Prop}{g:Int->Int->V}(x y:V)(H:Hp)(Q:VK)(h:mI C g x y H Q):rI C g x y H Q:=by
 cases x with
 |int i=>
  cases y with
  |int j=>exact⟨i,j,rfl,rfl,h.1,h.2⟩
  |_=>exact h.elim
 |_=>exact h.elim
def wJ{g:Int->Int->V}(x y:V)(H:Hp)(Q:VK)(h:Jv g x y H Q):Ri g x y H Q:=by
 cases x with
 |int i=>
  cases y with
  |int j=>exact⟨i,j,rfl,rfl,h⟩
  |_=>exact h.elim
 |_=>exact h.elim
def Xn:R2:=λx y H Q=>match x,y with
 | .int i,.int j=>Q (.int (i+j)) H
 | .str i,.str j=>i.length+j.length<=sizeLine/\Q (.str (i++j)) H
 |_,_=>False
def RN:ţ X (binaryOp .Add) Xn:=ţ.wk (Rn.or wz) λx y H Q h=>by
 cases x with
 |int i=>
  cases y with
  |int j=>exact .inl ⟨i,j,rfl,rfl,h⟩
  |_=>exact h.elim
 |str i=>
  cases y with
  |str j=>exact .inr ⟨i,j,rfl,rfl,h.1,h.2⟩
  |_=>exact h.elim
 |_=>exact h.elim
def RP:ţ X (binaryOp .Sub) (Jv λi j=>.int (i-j)):=ţ.wk Ro wJ
def pO(i j:Int):Prop:=Rm i j\/(Builtin.Int.intBits i<=1048576/\Builtin.Int.intBits j<=1048576)
theorem pO.ok{i j:Int}(h:pO i j):IntMulOk i j:=by
 rcases h with h|⟨h1,h2⟩
 ·exact h.ok
 ·exact IntMulOk.of_le h1 h2 (by decide)
def RQ:ţ X (binaryOp .Mult) (mI pO λi j=>.int (i*j)):=ţ.wk (Ir (C:=pO) (g:=λi j=>i*j) λ_ _ _ _ _ _ _ hc q=>mul_int q hc.ok) yD
def Bh(_ j:Int):Prop:=j≠0/\Builtin.Int.intBits j<=8000
def Bh.py{i j:Int}(h:Bh i j):Builtin.divisionGoesByPylong i j=false:=by
 refine PyProof.noPylong_of_log2 ?_
 have hb:=intBits_le_iff.mp h.2
 have h0:j.natAbs≠0:=by have:=h.1;omega
 exact Nat.lt_of_lt_of_le ((Nat.log2_lt h0).mpr hb) (by decide)
def Jw:ţ X (binaryOp .FloorDiv) (mI Bh λi j=>.int (i.fdiv j)):=ţ.wk (Ir (C:=Bh) (g:=λi j=>i.fdiv j) λ_ _ _ _ _ _ _ hc q=>floordiv_int hc.1 q (.inl hc.py)) yD
def RT:ţ X (binaryOp .Mod) (mI (λ_ j=>j≠0) λi j=>.int (i.fmod j)):=ţ.wk Jh yD
def bf:ţ X (binaryOp .Pow) (mI Rk λi j=>.int (i ^ j.toNat)):=ţ.wk Rq yD
def jx:ţ X (compareOp .Lt) (Jv λi j=>.bl (decide (i<j))):=ţ.wk Xc wJ
def eE:ţ X (compareOp .LtE) (Jv λi j=>.bl (decide (i<=j))):=ţ.wk Xd wJ
def mU(g:Int->V):V->Hp->VK->Prop:=λx H Q=>match x with
 | .int i=>Q (g i) H
 |_=>False
def Dk:Jg X (unaryOp .USub) (mU λi=>.int (-i)):=Jg.wk Rr λx H Q h=>by
 cases x with
 |int i=>exact⟨i,rfl,h⟩
 |_=>exact h.elim
def RW(K:PySem.W.Frag):List V->Hp->VK->Prop:=λxs H Q=>match xs with
 | [.str y]=>y.length<=sizeLine/\Q (.int (y.length:Int)) H
 | [.ref p]=>∃ys,(ř K H p ys\/aG K H p ys)/\Q (.int (ys.length:Int)) H
 |_=>False
def bY:ŝ X (.builtin "len") (RW X.K):=ŝ.wk CV λxs H Q h=>by
 unfold RW at h
 split at h
 ·exact⟨_,_,rfl,⟨h.1,rfl⟩,h.2⟩
 ·obtain⟨ys,h1,h2⟩:=h
  refine⟨_,ys.length,rfl,?_,h2⟩
  rcases h1 with h1|h1
  ·exact .inl ⟨ys,h1,rfl⟩
  ·exact .inr ⟨ys,h1,rfl⟩
 ·exact h.elim
def mIx(K:PySem.W.Frag):R2:=λx y H Q=>match x,y with
 | .ref p,.int i=>∃xs v,(ř K H p xs\/aG K H p xs)/\lU xs i=some v/\Q v H
 | .str z,.int i=>∃c,z.length<=sizeLine/\lU z.cps.toList i=some c/\Q (.str ⟨#[c]⟩) H
 |_,_=>False
def Xo:wH X (mIx X.K):=wH.wk qQ λx y H Q h=>by
 cases x with
 |ref p=>
  cases y with
  |int i=>
   obtain⟨xs,v,h1,h2,h3⟩:=h
   rcases h1 with h1|h1
   ·exact .inl ⟨p,xs,i,v,rfl,rfl,h1,h2,h3⟩
   ·exact .inr (.inl ⟨p,xs,i,v,rfl,rfl,h1,h2,h3⟩)
  |_=>exact h.elim
 |str z=>
  cases y with
  |int i=>
   obtain⟨c,h1,h2,h3⟩:=h
   exact .inr (.inr ⟨z,i,c,rfl,rfl,h1,h2,h3⟩)
  |_=>exact h.elim
 |_=>exact h.elim
def iOf(x:V)(k:Int->Prop):Prop:=match x with
 | .int i=>k i
 |_=>False
def Xp(t:TE):TO:=λσ H Q=>t σ H λx H1=>iOf x λi=>Q (some i) H1
def Dl(h:PE X e te):PO X (some e) (Xp te):=by
 intro pins s σ H Q I hw
 rw[evalPart_some]
 refine Ľ (h pins s σ H _ I hw) λu s1 ⟨x,H1,I1,r1,q1⟩=>?_
 cases x with
 |int i=>
  obtain⟨t,rfl⟩:=r1
  exact⟨some i,H1,I1,.int i t,q1⟩
 |_=>exact q1.elim
def ZbS(K:PySem.W.Frag):V->Option Int->Option Int->Hp->VK->Prop:=λx lo hi H Q=>match x with
 | .ref a=>∃xs,ř K H a xs/\∀p,H p=none->Q (.ref p) (upd H p (.lst (uh xs lo hi)))
 |_=>False
def Dp:yu X (ZbS X.K):=yu.wk Jq λx lo hi H Q h=>by
 cases x with
 |ref a=>
  obtain⟨xs,h1,h2⟩:=h
  exact⟨a,xs,rfl,h1,h2⟩
 |_=>exact h.elim
end
end M2
namespace M2
open PySem PySem.Spec PyProof.Rows L2
section
variable{X:Cx}{tg:Expr}
end
mutual
def Rp(K:PySem.W.Frag)(H:Hp):PyData->V->Prop
 | .none,v=>v=.non
 | .bool b,v=>v=.bl b
 | .int i,v=>v=.int i
 | .str x,v=>v=.str x
 | .tuple ds,v=>∃a xs,v=.ref a/\aG K H a xs/\oM K H ds xs
 | .list ds,v=>∃a xs,v=.ref a/\ř K H a xs/\oM K H ds xs
 | .dict _,_=>False
def oM(K:PySem.W.Frag)(H:Hp):List PyData->List V->Prop
 | [],xs=>xs=[]
 |d::ds,xs=>∃x r,xs=x::r/\Rp K H d x/\oM K H ds r
end
def Same.tup{K:PySem.W.Frag}{H H':Hp}{a:Addr}{xs:List V}(e:Same H H')(h:aG K H a xs):aG K H' a xs:=by
 rcases h with(h|⟨o,h⟩)|h
 ·exact .inl (.inl (e _ _ h))
 ·exact .inl (.inr ⟨o,e _ _ h⟩)
 ·exact .inr h
theorem Same.upd{H:Hp}{p:Addr}{o:HO}(h:H p=none):Same H (upd H p o):=λb u e=>by
 rw[Ċ (Ī e h)]
 exact e
mutual
theorem Rp.same{K:PySem.W.Frag}{H H':Hp}(e:Same H H'):∀(d:PyData) (v:V),Rp K H d v->Rp K H' d v
 | .none,_,h=>by unfold Rp at h ⊢;exact h
 | .bool _,_,h=>by unfold Rp at h ⊢;exact h
 | .int _,_,h=>by unfold Rp at h ⊢;exact h
 | .str _,_,h=>by unfold Rp at h ⊢;exact h
 | .tuple ds,_,h=>by
   unfold Rp at h ⊢
   obtain⟨a,xs,h1,h2,h3⟩:=h
   exact⟨a,xs,h1,Same.tup e h2,oM.same e ds xs h3⟩
 | .list ds,_,h=>by
   unfold Rp at h ⊢
   obtain⟨a,xs,h1,h2,h3⟩:=h
   exact⟨a,xs,h1,e.seq h2,oM.same e ds xs h3⟩
 | .dict _,_,h=>by unfold Rp at h;exact h.elim
theorem oM.same{K:PySem.W.Frag}{H H':Hp}(e:Same H H'):∀(ds:List PyData) (xs:List V),oM K H ds xs->oM K H' ds xs
 | [],_,h=>by unfold oM at h ⊢;exact h
 |d::ds,_,h=>by
  unfold oM at h ⊢
  obtain⟨x,r,h1,h2,h3⟩:=h
  exact⟨x,r,h1,Rp.same e d x h2,oM.same e ds r h3⟩
end
section
variable{X:Cx}{pins:List (Addr×Obj)}{σ:L2.St}{H:Hp}{s:Shared}
mutual
theorem Rp.reads(I:Inv X pins σ H s):∀(d:PyData) (v:V) (u:Value),Rp X.K H d v->RelV v u->∃as,Reads s.heap u d as
 | .none,v,u,h,r=>by
   unfold Rp at h;subst h;cases r;exact⟨_,.none⟩
 | .bool b,v,u,h,r=>by
   unfold Rp at h;subst h;cases r;exact⟨_,.bool b⟩
 | .int i,v,u,h,r=>by
   unfold Rp at h;subst h;obtain⟨t,rfl⟩:=r;exact⟨_,.int i t⟩
 | .str x,v,u,h,r=>by
   unfold Rp at h;subst h;obtain⟨t,rfl⟩:=r;exact⟨_,.str x t⟩
 | .tuple ds,v,u,h,r=>by
   unfold Rp at h
   obtain⟨a,xs,h1,h2,h3⟩:=h
   subst h1
   cases r
   obtain⟨its,rv,⟨o,e,hc,n,hd⟩,hz⟩:=I.tuple h2
   obtain⟨as,ra⟩:=oM.reads I ds xs its h3 rv
   exact⟨_,.tuple e hc hd (by simpa using ra)⟩
 | .list ds,v,u,h,r=>by
   unfold Rp at h
   obtain⟨a,xs,h1,h2,h3⟩:=h
   subst h1
   cases r
   obtain⟨its,rv,⟨o,n,e,hc,hdd,hd⟩,hz⟩:=I.list h2
   obtain⟨as,ra⟩:=oM.reads I ds xs its h3 rv
   exact⟨_,.list e hc hd (by simpa using ra)⟩
 | .dict _,_,_,h,_=>by unfold Rp at h;exact h.elim
theorem oM.reads(I:Inv X pins σ H s):∀(ds:List PyData) (xs:List V) (us:List Value),oM X.K H ds xs->Vals xs us->∃as,ReadsAll s.heap us ds as
 | [],xs,us,h,r=>by
   unfold oM at h;subst h;cases r;exact⟨_,.nil⟩
 |d::ds,xs,us,h,r=>by
  unfold oM at h
  obtain⟨x,q,h1,h2,h3⟩:=h
  subst h1
  cases r with
  |cons r1 r2=>
   obtain⟨as,ra⟩:=Rp.reads I d x _ h2 r1
   obtain⟨bs,rb⟩:=oM.reads I ds q _ h3 r2
   exact⟨_,.cons ra rb⟩
end
end
def Jx(K:PySem.W.Frag)(neg:Bool):R2:=λx y H Q=>∃d e,Rp K H d x/\Rp K H e y/\d.canLay0=true/\e.canLay0=true/\min d.depth e.depth<=60/\Q (.bl (if neg then !PyData.eqv d e else PyData.eqv d e)) H
section
variable{X:Cx}
def Dq(hu:X.A.units+64<cLine):ţ X (compareOp .Eq) (Jx X.K false):=by
 intro pins s σ H x y v u Q I rx ry h
 obtain⟨d,e,h1,h2,h3,h4,h5,q⟩:=h
 obtain⟨as,ra⟩:=Rp.reads I d x v h1 rx
 obtain⟨bs,rb⟩:=Rp.reads I e y u h2 ry
 exact SeqAt.compareEq_reads ra rb h3 h4 (by omega) ⟨.bl _,H,I,rfl,q⟩
def Dr(hu:X.A.units+64<cLine):ţ X (compareOp .NotEq) (Jx X.K true):=by
 intro pins s σ H x y v u Q I rx ry h
 obtain⟨d,e,h1,h2,h3,h4,h5,q⟩:=h
 obtain⟨as,ra⟩:=Rp.reads I d x v h1 rx
 obtain⟨bs,rb⟩:=Rp.reads I e y u h2 ry
 exact SeqAt.compareNe_reads ra rb h3 h4 (by omega) ⟨.bl _,H,I,rfl,q⟩
end
section
variable{K:PySem.W.Frag}
end
end M2
namespace M3
open PySem PySem.Spec PyProof.Rows L2 M2
def yE{P:Program}{w:World}{H:Hp}{h h':Heap}{C:Addr}(x:cR P w H h)(hC:H C=none)(k:∀b u,b≠C->h.get? b=some u->h'.get? b=some u):cR P w H h':=λa o e=>
 (x a o e).stay (fun b u hb q=>k b u (by
   rcases hb with hb|hb
   ·rw[hb];exact Ī e hC
   ·exact Ī hb hC) q) (λ_ q=>q) λ_ _ q=>q
theorem fL{env:Env}:∀(ns:List (Str×NameKind)) (cs:List (Str×Addr)),(∀y∈ns,y.2=.free->∃c,env.cells.lookup y.1=some c)->(∀x c,cs.lookup x=some c->env.cells.lookup x=some c)->
 ∃cl,(forIn ns cs (λ(x:Str×NameKind) r=>if(x.2== .free)=true then(do let c <-cellOf env x.1;pure (ForInStep.yield ((x.1,c)::r))) else pure (ForInStep.yield r)):Sem (List (Str×Addr)))=pure cl/\
  (∀x c,cl.lookup x=some c->env.cells.lookup x=some c)/\(∀x,(∃c,cs.lookup x=some c)->∃c,cl.lookup x=some c)/\∀y∈ns,y.2=.free->∃c,cl.lookup y.1=some c
 | [],cs,_,h2=>⟨cs,rfl,h2,λ_ z=>z,λ_ z=>nomatch z⟩
 |(n,k)::ns,cs,h1,h2=>by
  by_cases hk:k=.free
  ·subst hk
   obtain⟨c,hc⟩:=h1 (n,.free) List.mem_cons_self rfl
   have e:cellOf env n=pure c:=by unfold cellOf;rw[hc]
   have h2':∀x d,((n,c)::cs).lookup x=some d->env.cells.lookup x=some d:=λx d q=>by
    rw[List.lookup_cons] at q
    cases hx:x== n with
    |true=>
     rw[hx] at q
     have:x=n:=eq_of_beq hx
     subst this
     cases q
     exact hc
    |false=>
     rw[hx] at q
     exact h2 x d q
   obtain⟨cl,q1,q2,q3,q4⟩:=fL ns ((n,c)::cs) (λy hy=>h1 y (List.mem_cons_of_mem _ hy)) h2'
   refine⟨cl,?_,q2,λx ⟨d,hd⟩=>q3 x ?_,λy hy hf=>?_⟩
   ·rw[List.forIn_cons]
    simp only[beq_self_eq_true,if_true,e,pure_bind]
    exact q1
   ·rw[List.lookup_cons]
    cases hx:x== n with
    |true=>exact⟨c,rfl⟩
    |false=>exact⟨d,hd⟩
   ·rcases List.mem_cons.mp hy with rfl|hy
    ·exact q3 n ⟨c,by rw[List.lookup_cons,beq_self_eq_true]⟩
    ·exact q4 y hy hf
  ·have hb:(k== NameKind.free)=false:=by simpa using hk
   obtain⟨cl,q1,q2,q3,q4⟩:=fL ns cs (λy hy=>h1 y (List.mem_cons_of_mem _ hy)) h2
   refine⟨cl,?_,q2,q3,λy hy hf=>?_⟩
   ·rw[List.forIn_cons]
    simp only[hb,Bool.false_eq_true,if_false,pure_bind]
    exact q1
   ·rcases List.mem_cons.mp hy with rfl|hy
    ·exact absurd hf hk
    ·exact q4 y hy hf
def gk{scope:Scope}{env:Env}(h:∀y∈scope.names,y.2=.free->∃c,env.cells.lookup y.1=some c) :
 ∃cl,closureFor scope env=pure cl/\(∀x c,cl.lookup x=some c->env.cells.lookup x=some c)/\∀y∈scope.names,y.2=.free->∃c,cl.lookup y.1=some c:=by
 obtain⟨cl,q1,q2,_,q4⟩:=fL (env:=env) scope.names [] h (λx c z=>by simp at z)
 refine⟨cl,?_,q2,q4⟩
 unfold closureFor
 have e:(forIn scope.names [] (λ(x:Str×NameKind) (r:List (Str×Addr))=>match x with
  |(name,kind)=>if(kind== .free)=true then(do let a <-cellOf env name;pure (ForInStep.yield ((name,a)::r))) else pure (ForInStep.yield r)):Sem (List (Str×Addr)))=pure cl:=q1
 first
  |(simp only[bind_pure];exact q1)
  |(rw[show ∀(t:Sem (List (Str×Addr))),(do let r <-t;pure r)=t from λt=>by simp];exact q1)
  |(simp only[q1,pure_bind])
def bh(X:Cx)(N':List Str)(scope:Scope)(cl:List (Str×Addr))(C:Addr)(s:Shared)(H:Hp)(fp:List Addr):Cx where
 prog:=X.prog
 w:=X.w
 K:=X.K
 mg:=X.mg
 base:=X.base
 A:=X.A
 N:=N'
 s₀:= s
 H₀:= H
 env:=compEnvC scope cl C X.env
 outer:=X.stack
 stack:=X.stack
 ex:=fp
 fn:=λx=>scope.names.lookup x== some .cell
 calm:=X.calm
 pn:=[]
 xe:=λ_ _=>False
def gn(X:Cx)(sc scope:Scope):List Str->List Nat->Prop
 |x::xs,j::js=>X.N[j]?=some x/\(scope.names.lookup x=some .free/\(sc.names.lookup x=some .cell\/sc.names.lookup x=some .free))/\gn X sc scope xs js
 |_,[]=>True
 | [],_::_=>False
def cY(js:List Nat)(nl:Nat)(σ:L2.St):L2.St:=js.map (λj:Nat=>(σ[j]?).getD none)++List.replicate nl none
theorem pP{X:Cx}{sc scope:Scope}{σ:L2.St}{nl:Nat}:∀{N':List Str} {js:List Nat} {i:Nat} {x:Str} {v:V},gn X sc scope N' js->N'[i]?=some x->(cY js nl σ)[i]?=some (some v)->
 ∃j:Nat,X.N[j]?=some x/\σ[j]?=some (some v)/\scope.names.lookup x=some .free/\(sc.names.lookup x=some .cell\/sc.names.lookup x=some .free)
 |N',[],i,x,v,_,_,h=>by
  unfold cY at h
  rw[List.map_nil,List.nil_append,List.getElem?_replicate] at h
  split at h<;>cases h
 | [],_::_,_,_,_,c,_,_=>c.elim
 |y::N',j::js,0,x,v,c,h1,h2=>by
  obtain⟨c1,c2,_⟩:=c
  simp at h1
  subst h1
  have e:(σ[j]?).getD none=some v:=by simpa[cY] using h2
  refine⟨j,c1,?_,c2⟩
  cases q:σ[j]? with
  |none=>rw[q] at e;cases e
  |some o=>rw[q] at e;exact congrArg some e
 |y::N',j::js,i+1,x,v,c,h1,h2=>by
  exact pP (N':=N') (js:=js) (i:=i) c.2.2 (by simpa using h1) (by simpa[cY] using h2)
section
variable{prog:Program}{w:World}{A:Around}{R:Result->Shared->Prop}{s:Shared}
def gq{elt target iter:Expr}{ifs:List Expr}{scope:Scope}{pos:Pos}{it acc:Value}{env:Env}(I:Nat->Shared->Prop)
 (turn:∀n s,I n s→wpAny (model prog w) A (pyNext it) (fun r s₁=>match r with
   |none=>R (.ok .next) s₁
   |some v=>wpAny (model prog w) A (letOwnedTupleGo target it v) (fun _ s₁'=>wpAny (model prog w) A (assign target env v) (fun _ s₂=>
     wpAny (model prog w) A (forIn ifs true λc r=>if r=true then do let ok <-isTrue c env (eval c env);pure (ForInStep.yield ok) else pure (ForInStep.yield r)) (λok s₃=>
      if ok=true then wpAny (model prog w) A (eval elt env) (λx s₄=>
       wpAny (model prog w) A (call (.builtin "list.append") [acc,x]) (λ_ s₅=>∃m,m<n/\I m s₅) (λ_ _=>False) s₄) (λ_ _=>False) s₃
      else ∃m,m<n/\I m s₃) (λ_ _=>False) s₂) (λ_ _=>False) s₁') (λ_ _=>False) s₁) (λ_ _=>False) s)
 (n:Nat)(h:I n s) :
 codeAny (model prog w) A (.compLoop (.ListComp elt [⟨target,iter,ifs,0⟩] scope pos) 0 it acc env) R s:=by
 refine codeAny_loop rfl I (λn s hI=>?_) n h
 show wpAny _ A ((compTurn (.ListComp elt [⟨target,iter,ifs,0⟩] scope pos) 0 it acc env).onRaise (λx=>do noteFrame x env;theTreesLotGoes x)) _ _ s
 refine wpAny_noted (wpAny_noRaise ?_)
 rw[compTurn_list]
 refine wpAny_bind (wpAny_standAt (wpAny_bind (wpAny_mono (turn n s hI) (λr s₁ h₁=>?_) λ_ _ h'=>h')))
 cases r with
 |none=>exact wpAny_pure h₁
 |some v=>
  refine wpAny_bind (wpAny_mono h₁ (λ_ s₁' h₁'=>?_) λ_ _ h'=>h')
  refine wpAny_bind (wpAny_mono h₁' (λ_ s₂ h₂=>wpAny_bind (wpAny_mono h₂ (λok s₃ h₃=>?_) λ_ _ h'=>h')) λ_ _ h'=>h')
  cases ok with
  |false=>exact wpAny_pure ⟨rfl,h₃⟩
  |true=>
   exact wpAny_bind (wpAny_bind (wpAny_mono h₃ (λx s₄ h₄=>wpAny_bind (wpAny_mono h₄ (λ_ s₅ h₅=>wpAny_pure (wpAny_pure ⟨rfl,h₅⟩)) λ_ _ h'=>h')) λ_ _ h'=>h'))
end
def Iu(X:Cx)(ifs:List Expr)(t:TT):Prop:=
 ∀(pins:List (Addr×Obj)) (s:Shared) (σ:L2.St) (H:Hp) (Q:Bool->Hp->Prop),Inv X pins σ H s->t σ H Q->
  wpAny (model X.prog X.w) X.A (forIn ifs true λc r=>if r=true then do let ok <-isTrue c X.env (eval c X.env);pure (ForInStep.yield ok) else pure (ForInStep.yield r)) (TP X pins σ Q) X.xe s
def ZbT:TT:=λ_ H Q=>Q true H
def Jy{X:Cx}:Iu X [] ZbT:=λ_ _ _ H _ I h=>wpAny_tests_nil ⟨H,I,h⟩
def Ds(js:List Nat)(nl:Nat)(wi:TI)(g:TG)(tt:TT)(te:TE):TE:=λσ H Q=>wi σ H λJ H1=>∀D,H1 D=none->
 ∃W:Nat->Nat->L2.St->Hp->Prop,(∃m,W 0 m (cY js nl σ) (upd H1 D (.lst [])))/\∀i m σ' H',W i m σ' H'->
  (J.stop i H'∧Q (.ref D) H')∨(J.go i H'∧∃N:L2.St→Hp→Prop,(∀σ2 H2,N σ2 H2→∃m',m'<m∧W (i+1) m' σ2 H2)∧∀x H2,J.yld i H' x H2→g x σ' H2 fun σ2 H3=>tt σ2 H3 fun c H4=>
    if c=true then te σ2 H4 λy H5=>∃ys,H5 D=some (.lst ys)/\ys.length<sizeLine/\N σ2 (upd H5 D (.lst (ys ++ [y]))) else N σ2 H4)
section
variable{X:Cx}{elt tg iter:Expr}{ifs:List Expr}{scope:Scope}{pos:Pos}{wi:TI}{g:TG}{tt:TT}{te:TE}
theorem bZ{env:Env}:∀{names:List (Str×NameKind)} {x:Str} {k:NameKind},(k=.cell\/k=.free)->
 (names.map λ(n,k)=>if(k== NameKind.free && env.scope.kind== .function && env.kindOf n== some .cell) then(n,NameKind.cell) else(n,k)).lookup x=some k->(x,NameKind.free)∈names\/(x,NameKind.cell)∈names
 | [],x,k,_,h=>by simp at h
 |(n,q)::r,x,k,hk,h=>by
  have ih:=@bZ env r x k hk
  rw[List.map_cons] at h
  by_cases hx:x=n
  ·subst hx
   by_cases hf:q=.free
   ·subst hf
    exact .inl List.mem_cons_self
   ·have hb:(q== NameKind.free)=false:=by simpa using hf
    have e:(if(q== NameKind.free && env.scope.kind== .function && env.kindOf x== some .cell)=true then(x,NameKind.cell) else(x,q))=(x,q):=by
     rw[hb];rfl
    have h2:=h
    simp only[e,List.lookup_cons,beq_self_eq_true] at h2
    have:q=k:=Option.some.inj h2
    rcases hk with hk|hk
    ·rw[this,hk]
     exact .inr List.mem_cons_self
    ·exact absurd (this.trans hk) hf
  ·have hn:(x== n)=false:=by simpa using hx
   have h3:(x,NameKind.free)∈r\/(x,NameKind.cell)∈r:=ih (by
    by_cases c:(q== NameKind.free && env.scope.kind== .function && env.kindOf n== some .cell)=true
    ·simp only[c,if_true,List.lookup_cons,hn] at h
     exact h
    ·simp only[c,if_false,Bool.false_eq_true,List.lookup_cons,hn] at h
     exact h)
   rcases h3 with h3|h3
   ·exact .inl (List.mem_cons_of_mem _ h3)
   ·exact .inr (List.mem_cons_of_mem _ h3)
theorem Ŏ:∀(names:List (Str×NameKind)) (n:Nat) (acc:List (Str×Addr)),cellsFrom n names acc=cellsFrom n names []++acc
 | [],_,_=>rfl
 |(x,k)::r,n,acc=>by
  unfold cellsFrom
  split
  ·rw[Ŏ r (n+1) ((x,n)::acc),Ŏ r (n+1) [(x,n)],List.append_assoc]
   rfl
  ·exact Ŏ r n acc
theorem b_:∀(names:List (Str×NameKind)) (n:Nat) {x:Str} {c:Addr},(x,c)∈cellsFrom n names []->(x,NameKind.cell)∈names
 | [],_,_,_,h=>by simp[cellsFrom] at h
 |(y,k)::r,n,x,c,h=>by
  unfold cellsFrom at h
  split at h
  ·rename_i hk
   rw[Ŏ r (n+1) [(y,n)]] at h
   rcases List.mem_append.mp h with h|h
   ·exact List.mem_cons_of_mem _ (b_ r _ h)
   ·have e:(x,c)=(y,n):=by simpa using h
    cases e
    rw[beq_iff_eq.mp hk]
    exact List.mem_cons_self
  ·exact List.mem_cons_of_mem _ (b_ r _ h)
structure Blk(X:Cx)(scope:Scope)(n:Nat)(h:Heap)(cl:List (Str×Addr)):Prop where
 at_:∀x c,cl.lookup x=some c->(X.env.cells.lookup x=some c/\scope.names.lookup x≠some .cell)\/(n<c/\h.IsCell c none/\scope.names.lookup x=some .cell)
 inj:∀x y c,cl.lookup x=some c->cl.lookup y=some c->n<c->x=y
 has:∀x,((x,NameKind.free)∈scope.names\/(x,NameKind.cell)∈scope.names)->∃c,cl.lookup x=some c
def Dt{X:Cx}{scope:Scope}{n:Nat}{h:Heap}{cl:List (Str×Addr)}(hcell:∀y∈scope.names,y.2=.cell->scope.names.lookup y.1=some .cell)
 (h1:∀x c,cl.lookup x=some c->X.env.cells.lookup x=some c)(h2:∀y∈scope.names,y.2=.free->∃c,cl.lookup y.1=some c)(hlt:∀x c,X.env.cells.lookup x=some c->c<n)
 (ok:CellsOk h (n+1) (cellsFrom (n+1) scope.names [])):Blk X scope n h (cellsFrom (n+1) scope.names cl):=by
 have sp:∀x c,(cellsFrom (n+1) scope.names cl).lookup x=some c->(cl.lookup x=some c/\(cellsFrom (n+1) scope.names []).lookup x=none)\/(cellsFrom (n+1) scope.names []).lookup x=some c:=λx c e=>by
  rw[Ŏ,List.lookup_append] at e
  cases q:(cellsFrom (n+1) scope.names []).lookup x with
  |none=>rw[q] at e;exact .inl ⟨by simpa using e,rfl⟩
  |some d=>rw[q] at e;exact .inr (by simpa using e)
 refine⟨λx c e=>?_,λx y c e1 e2 hc=>?_,λx hx=>?_⟩
 ·rcases sp x c e with⟨e,q⟩|e
  ·refine .inl ⟨h1 x c e,λz=>?_⟩
   obtain⟨d,hd⟩:=fZ (sc:=scope) (n:=n+1) z
   rw[hd] at q
   cases q
  ·have m:=mem_of_lookup e
   exact .inr ⟨(ok.empty x c m).2,(ok.empty x c m).1,hcell _ (b_ _ _ m) rfl⟩
 ·have nw:∀z,(cellsFrom (n+1) scope.names cl).lookup z=some c→(cellsFrom (n+1) scope.names []).lookup z=some c:=fun z e=>by
   rcases sp z c e with⟨e,q⟩|e
   ·exact absurd (hlt z c (h1 z c e)) (Nat.lt_asymm hc)
   ·exact e
  exact name_of_addr ok.apart (mem_of_lookup (nw x e1)) (mem_of_lookup (nw y e2))
 ·rw[Ŏ,List.lookup_append]
  rcases hx with hx|hx
  ·obtain⟨c,hc⟩:=h2 _ hx rfl
   cases q:(cellsFrom (n+1) scope.names []).lookup x with
   |none=>exact⟨c,by simpa using hc⟩
   |some d=>exact⟨d,rfl⟩
  ·obtain⟨d,hd⟩:=fZ (sc:=scope) (n:=n+1) (hcell _ hx rfl)
   rw[hd]
   exact⟨d,rfl⟩
def eG{M:Model}{A:Around}{E:Value->Shared->Prop}{s:Shared}{scope:Scope}{globals:Addr}{closure:List (Str×Addr)}{qual:Str}
 {func:Option Addr}{code:Value}{env0:Env}{builtins:Addr}{Q:Env->Shared->Prop}
 (hQ:∀h',h'.Ns s.heap.objs.size (fun _=>none)→(∀b o,s.heap.get? b=some o→h'.get? b=some o)→CellsOk h' (s.heap.objs.size+1) (cellsFrom (s.heap.objs.size+1) scope.names [])→
   Q (newEnv scope s.heap.objs.size globals (cellsFrom (s.heap.objs.size+1) scope.names closure) qual func code (some env0) builtins) {s with heap:=h'}) :
 wpAny M A (newFunctionEnv scope globals closure [] qual func code (some env0) builtins) Q E s:=by
 simp only[newFunctionEnv,Option.isSome_some,if_true]
 refine wpAny_bind (wpAny_alloc ?_)
 refine wpAny_bind (wpAny_layCells _ (λname kind cells=>by cases hkc:kind== NameKind.cell<;>simp[hkc]) _ _ _ _ ?_)
 have ok:=cellsFrom_ok scope.names (s.heap.push {cls:=.type "dict",data:=.dict #[]}) (s.heap.objs.size+1) [] ⟨λ_ _ hm=>(nomatch hm),List.Pairwise.nil⟩ (by rw[Heap.size_push];exact Nat.le_refl _)
 rw[Heap.size_push] at ok
 rw[show({s with heap:=s.heap.push {cls:=.type "dict",data:=.dict #[]}}:Shared).heap.objs.size=s.heap.objs.size+1 from Heap.size_push ..]
 refine wpAny_bind ?_
 rw[List.forIn_nil]
 exact wpAny_pure (wpAny_pure (hQ _ ((Heap.Ns.new s.heap (.type "dict")).keeps (pushCells_keeps _ _)) (λb o e=>pushCells_keeps _ _ b o (Heap.get?_push_of_some _ e)) ok))
theorem gw{env:Env}:∀{names:List (Str×NameKind)} {x:Str},names.lookup x=some .free->
 ¬(names.map λ(n,k)=>if(k== NameKind.free && env.scope.kind== .function && env.kindOf n== some .cell) then(n,NameKind.cell) else(n,k)).lookup x=some .local
 | [],x,h=>by simp at h
 |(n,q)::r,x,h=>by
  intro h2
  rw[List.map_cons] at h2
  rw[List.lookup_cons] at h
  cases hx:x== n with
  |true=>
   rw[hx] at h
   cases h
   by_cases c:(NameKind.free== NameKind.free && env.scope.kind== .function && env.kindOf n== some .cell)=true
   ·simp only[c,if_true,List.lookup_cons,hx] at h2
    cases h2
   ·simp only[c,if_false,Bool.false_eq_true,List.lookup_cons,hx] at h2
    cases h2
  |false=>
   rw[hx] at h
   have ih:=gw (env:=env) h
   by_cases c:(q== NameKind.free && env.scope.kind== .function && env.kindOf n== some .cell)=true
   ·simp only[c,if_true,List.lookup_cons,hx] at h2
    exact ih h2
   ·simp only[c,if_false,Bool.false_eq_true,List.lookup_cons,hx] at h2
    exact ih h2
def pQ{pins:List (Addr×Obj)}{σ:L2.St}{H:Hp}{s:Shared}{N':List Str}{js:List Nat}{nl:Nat}{sc:Scope}{cl:List (Str×Addr)}{fp:List Addr}{h':Heap}{tk:Nat}
 (hsc:X.env.scope=sc)(hk:scope.kind=.function)(hcap:gn X sc scope N' js)(hlen:js.length+nl=N'.length)(B:Blk X scope s.heap.objs.size h' cl)
 (I:Inv X pins σ H s)(hf:∀b∈fp,cU X pins H b)(hlt:∀b∈fp,b<s.heap.objs.size)
 (hn:h'.Ns s.heap.objs.size (λ_=>none))(kp:∀b o,s.heap.get? b=some o->h'.get? b=some o) :
 Inv (bh X N' scope cl s.heap.objs.size s H fp) [] (cY js nl σ) H {s with heap:=h',toks:=tk}:=by
 have Du:∀x,((bh X N' scope cl s.heap.objs.size s H fp).env.kindOf x=some .cell\/(bh X N' scope cl s.heap.objs.size s H fp).env.kindOf x=some .free)->∃c,cl.lookup x=some c:=λx hx=>by
  rcases hx with hx|hx
  ·exact B.has x (bZ (.inl rfl) hx)
  ·exact B.has x (bZ (.inr rfl) hx)
 have lt:∀x c,X.env.cells.lookup x=some c->c<s.heap.objs.size:=λx c e=>by
  obtain⟨v,o,ho,_⟩:=I.cell x c e
  exact Heap.lt_size ho
 have inj:∀x y c,cl.lookup x=some c->cl.lookup y=some c->x=y:=λx y c e1 e2=>by
  rcases B.at_ x c e1 with⟨q1,_⟩|⟨q1,_⟩
  ·rcases B.at_ y c e2 with⟨q2,_⟩|⟨q2,_⟩
   ·exact I.ok.inj x y c q1 q2
   ·exact absurd (lt x c q1) (Nat.lt_asymm q2)
  ·exact B.inj x y c e1 e2 q1
 refine⟨⟨I.ok.mod,hk,I.ok.glob,I.ok.blt,Nat.le_refl _,inj,Du,λx c z e=>by
  rcases B.at_ x c e with⟨_,q⟩|⟨q,_⟩
  ·exact absurd (beq_iff_eq.mp z) q
  ·exact Nat.le_of_lt q,I.ok.hd,I.ok.frames,.inl rfl,λb hb=>⟨Nat.ne_of_lt (hlt b hb),λx c e=>by
  rcases B.at_ x c e with⟨q,_⟩|⟨q,_⟩
  ·exact(hf b hb).2.2.2.2.1 x c q
  ·exact Nat.ne_of_gt (Nat.lt_trans (hlt b hb) q)⟩,
  I.bs,Nat.le_trans I.ok.IW I.sz,fun b o e hb=>?_,fun b hb hz=>?_,I.stack,I.yg,I.tb⟩,rfl,I.bare,Un.kept kp,⟨_,hn,fun i x v e1 e2 e3=>?_⟩,fun x c e=>?_,I.hok.fresh (Nat.le_refl _),fun x c e=>by
    rcases B.at_ x c e with⟨q,_⟩|⟨q,_⟩
    ·exact I.dZ x c q
    ·exact I.hok.fresh (Nat.le_of_lt q),λp hp=>?_,I.hok.kept kp,?_⟩
 ·rcases(hf b hb).2.2.2.1 with z|z
  ·exact I.ok.Aq b o e z
  ·exact absurd (Nat.lt_of_lt_of_le (Heap.lt_size e) (Nat.le_trans I.ok.IW z)) (Nat.lt_irrefl _)
 ·rcases List.mem_cons.mp (I.lM b hz) with z|z
  ·exact(hf b hb).2.1 z
  ·exact(hf b hb).2.2.1 z
 ·obtain⟨j,q1,q2,q0,q3⟩:=pP hcap e1 e2
  obtain⟨m,hm,hl⟩:=I.loc
  have ZbU:qJ X.env.scope x:=by
   rw[hsc]
   rcases q3 with q3|q3
   ·exact .inr (.inl q3)
   ·exact .inr (.inr q3)
  obtain⟨u,ru,lk⟩:=hl j x v q1 q2 ZbU
  refine⟨u,ru,?_⟩
  rcases lk with⟨k1,_⟩|⟨k1,c,hc,ic⟩
  ·exfalso
   have k1':sc.names.lookup x=some .local:=by rw[<-hsc];exact k1
   rcases q3 with q3|q3<;>(rw[k1'] at q3;cases q3)
  ·have e3':(bh X N' scope cl s.heap.objs.size s H fp).env.kindOf x=some .local\/(bh X N' scope cl s.heap.objs.size s H fp).env.kindOf x=some .cell\/(bh X N' scope cl s.heap.objs.size s H fp).env.kindOf x=some .free:=e3
   rcases e3' with z|z
   ·exact absurd z (gw (env:=X.env) q0)
   ·obtain⟨d,hd⟩:=Du x z
    have:d=c:=by
     rcases B.at_ x d hd with⟨q,_⟩|⟨_,_,q⟩
     ·rw[hc] at q
      exact(Option.some.inj q).symm
     ·rw[q0] at q
      cases q
    subst this
    exact .inr ⟨z,d,hd,by
     obtain⟨o,ho,hd'⟩:=ic
     exact⟨o,kp _ _ ho,hd'⟩⟩
 ·rcases B.at_ x c e with⟨q,_⟩|⟨_,q,_⟩
  ·obtain⟨v,o,ho,hd⟩:=I.cell x c q
   exact⟨v,o,kp _ _ ho,hd⟩
  ·exact⟨none,q⟩
 ·exact absurd hp (by simp[bh])
 ·show _=N'.length
  rw[<-hlen]
  simp[cY]
def lV{pins:List (Addr×Obj)}{σ σ':L2.St}{H H':Hp}{s s':Shared}{N':List Str}{cl:List (Str×Addr)}{fp:List Addr}{h':Heap}(I:Inv X pins σ H s)(hf:∀b∈fp,cU X pins H b)
 (J:Inv (bh X N' scope cl s.heap.objs.size s H fp) [] σ' H' s')(kp:∀b u,b≠s.heap.objs.size->s'.heap.get? b=some u->h'.get? b=some u):Inv X pins σ H' {s' with heap:=h'}:=by
 have ne:∀{b:Addr} {o:Obj},s.heap.get? b=some o->b≠s.heap.objs.size:=λe=>Nat.ne_of_lt (Heap.lt_size e)
 have u:=J.base
 refine I.call' (ch:=fp) J.os ⟨λb o e n hb hx=>kp b o (ne e) (u.keep b o e n hb hx),λb o e n hb hx=>?_,λb o e n hx=>u.free b o e n hx,λb o e hx=>?_,u.tups,u.oO,u.jR⟩ (yE J.hok J.free kp) J.bare λb hb=>?_
 ·obtain⟨sl,q⟩:=u.slot b o e n hb hx
  exact⟨sl,kp b _ (ne e) q⟩
 ·obtain⟨o',q⟩:=u.there b o e hx
  exact⟨o',kp b _ (ne e) q⟩
 ·exact⟨(hf b hb).2.2.2.1,(hf b hb).2.1,(hf b hb).2.2.2.2.1,(hf b hb).2.2.2.2.2⟩
def Jz(N':List Str)(js:List Nat)(nl:Nat)(sc:Scope)(hsc:X.env.scope=sc)(hcalm:X.calm=true)
 (hi:PI X.Ň tg iter wi)(hg:∀cl C s H fp,PG (bh X.Ň N' scope cl C s H fp) tg g)(ht:∀cl C s H fp,Iu (bh X.Ň N' scope cl C s H fp) ifs tt)(he:∀cl C s H fp,PE (bh X.Ň N' scope cl C s H fp) elt te)
 (hcap:gn X.Ň sc scope N' js)(hlen:js.length+nl=N'.length:=by rfl)
 (hk:scope.kind=.function:=by rfl)(hcell:∀y∈scope.names,y.2=.cell->scope.names.lookup y.1=some .cell:=by decide +kernel)(hnames:∀y∈scope.names,y.2=.local->scope.names.lookup y.1=some .local:=by decide +kernel)
 (hfree:∀y∈scope.names,y.2=.free->(sc.names.lookup y.1=some .cell\/sc.names.lookup y.1=some .free):=by decide +kernel)
 (hs:∀x,foldedSetIterable iter X.env x=pure x:=by intro _;rfl) :
 PE X.Ň (.ListComp elt [⟨tg,iter,ifs,0⟩] scope pos) (Ds js nl wi g tt te):=by
 intro pins s σ H Q I h
 obtain⟨Xq,c1,c2,c3⟩:=gk (scope:=scope) (env:=X.Ň.env) λy hy hf=>I.ok.has y.1 (by
  have:=hfree y hy hf
  rw[<-hsc] at this
  exact this)
 rw[eval_ListComp]
 refine wpAny_comprehension_free (use:=none) rfl hs c1 hk hnames (Ľ (hi pins s σ H _ I h) λv s1 h1=>Ľ h1 λitv s2 h2=>?_)
 obtain⟨it,fp,tn,J,H2,e,I2,T,st2,f2,q2⟩:=h2
 subst e
 refine wpAny_newObj_type (eG (λh₁ hns₁ old RX=>?_))
 dsimp only at hns₁ old RX ⊢
 generalize RZ:s2.heap.push {cls:=.type "list",dict:=none,data:=.seq ([]:List Value).toArray}=ŵ at hns₁ old RX ⊢
 have hD:H2 s2.heap.objs.size=none:=I2.hok.fresh (Nat.le_refl _)
 have I3:Inv X.Ň pins σ (upd H2 s2.heap.objs.size (.lst [])) {s2 with heap:=ŵ}:=by
  rw[<-RZ]
  exact I2.laid (t':=s2.toks) (λb u e=>Heap.get?_push_of_some _ e) (Nat.le_refl _) ⟨Nat.zero_le _,[],0,.nil,Heap.get?_push_size _ rfl⟩
 have Dv:∀b∈fp,b<s2.heap.objs.size:=λb hb=>by
  obtain⟨o,ho,_⟩:=T.obj 0 _ st2 b hb
  exact Heap.lt_size ho
 have R_:ŵ.objs.size=s2.heap.objs.size+1:=by rw[<-RZ,Heap.size_push]
 have f3:∀b∈fp,cU X.Ň pins (upd H2 s2.heap.objs.size (.lst [])) b:=λb hb=>by
  obtain⟨g0,g1⟩:=f2 b hb
  exact⟨by rw[Ċ (Nat.ne_of_lt (Dv b hb))];exact g0,g1⟩
 have B:=Dt (X:=X.Ň) (cl:=Xq) hcell c2 c3 (λx c e=>by
  obtain⟨v,o,ho,_⟩:=I3.cell x c e
  exact Heap.lt_size ho) RX
 generalize cellsFrom (ŵ.objs.size+1) scope.names Xq=cl at B ⊢
 obtain⟨W,⟨m0,w0⟩,turn⟩:=q2 s2.heap.objs.size hD
 have I4:=pQ (X:=X.Ň) (N':=N') (js:=js) (nl:=nl) (sc:=sc) (scope:=scope) (cl:=cl) (fp:=fp) (h':=h₁) (tk:=s2.toks) hsc hk hcap hlen B I3 f3 (λb hb=>by show b<ŵ.objs.size;rw[R_];exact Nat.lt_succ_of_lt (Dv b hb)) hns₁ old
 have Xr:tn 0 h₁:= T.keep 0 _ _ st2 λb hb o e=>old b o (by rw[<-RZ];exact Heap.get?_push_of_some _ e)
 have fr4:∀b∈fp,(upd H2 s2.heap.objs.size (.lst [])) b=none:=λb hb=>(f3 b hb).1
 have stat:∀{H':Hp},(∀b∈fp,H' b=none)->∀b∈fp,cU (bh X.Ň N' scope cl ŵ.objs.size {s2 with heap:=ŵ} (upd H2 s2.heap.objs.size (.lst [])) fp) [] H' b:=fun{H'} hn b hb=>by
  obtain⟨g0,g1,g2,g3,g4,g5⟩:=f3 b hb
  refine⟨hn b hb,Nat.ne_of_lt (by show b<ŵ.objs.size;rw[R_];exact Nat.lt_succ_of_lt (Dv b hb)),λz=>?_,.inl hb,λx c e=>by
   rcases B.at_ x c e with⟨q,_⟩|⟨q,_⟩
   ·exact g4 x c q
   ·exact Nat.ne_of_gt (Nat.lt_trans (by show b<ŵ.objs.size;rw[R_];exact Nat.lt_succ_of_lt (Dv b hb)) q),λp hp=>absurd hp (by simp[bh])⟩
  rcases List.mem_cons.mp (I3.lM b z) with z|z
  ·exact g1 z
  ·exact g2 z
 have loop:∀s₃:Shared,s₃= {s2 with heap:=h₁}->
  codeAny (model X.prog X.w) X.A (.compLoop (.ListComp elt [⟨tg,iter,ifs,0⟩] scope pos) 0 (.ref it) (.ref s2.heap.objs.size) (compEnvC scope cl ŵ.objs.size X.Ň.env))
   (compPost (model X.prog X.w) X.A X.Ň.xe none (EP X.Ň pins σ Q) (.ref s2.heap.objs.size) ŵ.objs.size) s₃:= by
  rintro s₃ rfl
  refine gq (λn s'=>∃i σ' H',Inv (bh X.Ň N' scope cl ŵ.objs.size {s2 with heap:=ŵ} (upd H2 s2.heap.objs.size (.lst [])) fp) [] σ' H' s'/\tn i s'.heap/\(∀b∈fp,H' b=none)/\W i n σ' H') ?_ m0 ⟨0,_,_,I4,Xr,fr4,w0⟩
  rintro n s5 ⟨i,σ5,H5,I5,Jf,Rh,w5⟩
  rcases turn i n σ5 H5 w5 with⟨stop,qn⟩|⟨go,N,hN,step⟩
  ·refine Ľ (T.done (bh X.Ň N' scope cl ŵ.objs.size {s2 with heap:=ŵ} (upd H2 s2.heap.objs.size (.lst [])) fp) rfl rfl rfl hcalm i [] s5 σ5 H5 (λ_ _=>False) I5 (stat Rh) Jf stop) λr s6 ⟨hr,I6⟩=>?_
   subst hr
   obtain⟨m,hm,_⟩:=I6.loc
   refine⟨m,hm,λh' hs'=>⟨.ref s2.heap.objs.size,H5,lV I3 f3 I6 (λb u hb e=>hs'.extBut b u hb e),rfl,qn⟩⟩
  ·refine Ľ (T.item (bh X.Ň N' scope cl ŵ.objs.size {s2 with heap:=ŵ} (upd H2 s2.heap.objs.size (.lst [])) fp) rfl rfl rfl hcalm i [] s5 σ5 H5 (λ_ _=>False) I5 (stat Rh) Jf go) λr s6 ⟨u,hr,h6⟩=>?_
   subst hr
   refine Ľ h6 λ_ s7 ⟨x,H7,I7,r7,y7,Sd,fr7⟩=>?_
   have I7':=I7.pinned (stat fr7) (T.obj _ _ Sd)
   have again:∀{s8:Shared} {σ8:L2.St} {H8:Hp},Inv (bh X.Ň N' scope cl ŵ.objs.size {s2 with heap:=ŵ} (upd H2 s2.heap.objs.size (.lst [])) fp) ([]++iB fp s7.heap) σ8 H8 s8->
    Inv (bh X.Ň N' scope cl ŵ.objs.size {s2 with heap:=ŵ} (upd H2 s2.heap.objs.size (.lst [])) fp) [] σ8 H8 s8/\tn (i+1) s8.heap/\∀b∈fp,H8 b=none:=fun{s8 σ8 H8} I8=>by
    refine⟨I8.cV,T.keep _ _ _ Sd λb hb o e=>(I8.pin (b,o) (List.mem_append_right _ (List.mem_append_right _ (ť hb e)))).1,λb hb=>?_⟩
    obtain⟨o,e,d⟩:=T.obj _ _ Sd b hb
    exact(I8.pin (b,o) (List.mem_append_right _ (List.mem_append_right _ (ť hb e)))).2.1
   refine Ľ (hg cl _ _ _ fp _ s7 σ5 H7 x u _ I7' r7 (step x H7 y7)) λ_ s8 ⟨σ8,H8,I8,q8⟩=>?_
   refine Ľ (ht cl _ _ _ fp _ s8 σ8 H8 _ I8 q8) λc s9 ⟨H9,I9,q9⟩=>?_
   cases c with
   |false=>
    rw[if_neg Bool.false_ne_true] at q9 ⊢
    obtain⟨m',hm',w9⟩:=hN _ _ q9
    obtain⟨a1,a2,a3⟩:=again I9
    exact⟨m',hm',i+1,σ8,H9,a1,a2,a3,w9⟩
   |true=>
    rw[if_pos rfl] at q9 ⊢
    refine Ľ (he cl _ _ _ fp _ s9 σ8 H9 _ I9 q9) λyv Ÿ ⟨y,H10,I10,r10,ys,e10,l10,w10⟩=>?_
    refine Ľ (ł _ Ÿ σ8 H10 (.ref s2.heap.objs.size) [y] (.ref s2.heap.objs.size) [yv] (λ_ Sg=>N σ8 Sg) I10 rfl (.cons r10 .nil) ⟨_,ys,y,rfl,rfl,e10,l10,w10⟩) λ_ Cq ⟨v11,Sg,I11,_,w11⟩=>?_
    obtain⟨a1,a2,a3⟩:=again I11
    obtain⟨m',hm',w11⟩:=hN _ _ w11
    exact⟨m',hm',i+1,σ8,Sg,a1,a2,a3,w11⟩
 exact codeAny_compStart_list (loop _ rfl) (T.self _ 0 _ _ _ Xr (loop _ rfl))
end
def Its(z:Str):It:=⟨λi _=>i<z.cps.size,λi H x H'=>H'=H/\∃c,z.cps.toList[i]?=some c/\x=.str ⟨#[c]⟩,λi _=>i=z.cps.size⟩
def Bj{P:Program}{w:World}{K:PySem.W.Frag}{tg:Expr}(it:Addr)(z:Str)(t:Tok)(ty:String)
 (hW:∀A:Around,A.handled=none->Walks P w A it [it] [it] z.cps.size (SignAt z) (λi h=>h.IsStrIter it ty z t i))
 (hS:∀(A:Around) (i:Nat) (s:Shared) (Q:Value->Shared->Prop) (E:Value->Shared->Prop),s.heap.IsStrIter it ty z t i->Q (.ref it) s->wpAny (model P w) A (pyIter (.ref it)) Q E s)
 (hty:["enumerate","zip","dict_itemiterator","dict_reverseitemiterator","odict_iterator","itertools.zip_longest","itertools.pairwise"].contains ty=false):Turn P w K tg (Its z) [it] it (λi h=>h.IsStrIter it ty z t i) where
 mem:=by simp
 obj:=λi h st b hb=>by
  have e:b=it:=by simpa using hb
  subst e
  obtain⟨o,e,c,d⟩:=st
  exact⟨o,e,λv z=>by rw[d] at z;cases z⟩
 keep:=λi h h' st k=>by
  obtain⟨o,e,c,d⟩:=st
  exact⟨o,k it (by simp) o e,c,d⟩
 item:=by
  intro X hP hw hK hc i pins s σ H E I hf st hg
  subst hP hw hK
  obtain⟨f0,f1,f2,f3,f4,f5⟩:=hf it (by simp)
  refine(hW X.A (I.ok.hd hc)).item i s _ _ hg st λv h' tk hv st' kk=>?_
  obtain⟨c,u,hcu,rfl⟩:=hv
  have I1:Inv X pins σ H {s with heap:=h',toks:=tk}:=I.turned (λb o hb e=>kk b o (by simpa using hb) e) f0 f1 f3 f4 f5
  obtain⟨o,e,cl,d⟩:=id st'
  exact⟨_,rfl,yr (s:={s with heap:=h',toks:=tk}) e cl d hty ⟨.str ⟨#[c]⟩,H,I1,⟨u,rfl⟩,⟨rfl,c,by simpa using hcu,rfl⟩,st',λb hb=>(hf b hb).1⟩⟩
 done:=by
  intro X hP hw hK hc i pins s σ H E I hf st hg
  subst hP hw hK
  obtain⟨f0,f1,f2,f3,f4,f5⟩:=hf it (by simp)
  have e:i=z.cps.size:=hg
  subst e
  exact(hW X.A (I.ok.hd hc)).done s _ _ st λh' tk kk=>⟨rfl,I.turned (λb o hb e=>kk b o (by simpa using hb) e) f0 f1 f3 f4 f5⟩
 self:=hS
section
variable{X:Cx}{tg:Expr}
end
end M3
namespace M4
open PySem PySem.Spec PyProof.Rows L2 M2 M3
section
variable{X:Cx}
def JB{bs:List Bool}:∀{us:List Value},Vals (bs.map V.bl) us->us=bs.map Value.bool:=by
 induction bs with
 |nil=>intro us r;rw[List.map_nil] at r;cases r;rfl
 |cons b bs ih=>
  intro us r
  rw[List.map_cons] at r
  cases r with
  |cons r1 r2=>
   cases r1
   rw[ih r2]
   rfl
def all_range(bs:List Bool):(List.range (bs.map Value.bool).toArray.size).all (λi=>bs.getD i false)=bs.all id:=by
 have e:(bs.map Value.bool).toArray.size=bs.length:=by simp
 rw[e,Bool.eq_iff_iff]
 simp only[List.all_eq_true,List.mem_range,id]
 constructor
 ·intro h b hb
  obtain⟨i,hi,rfl⟩:=List.mem_iff_getElem.mp hb
  have:=h i hi
  rw[List.getD_eq_getElem?_getD,List.getElem?_eq_getElem hi] at this
  exact this
 ·intro h i hi
  rw[List.getD_eq_getElem?_getD,List.getElem?_eq_getElem hi]
  exact h _ (List.getElem_mem hi)
def uq{prog:Program}{w:World}{A:Around}(bs:List Bool):TruthOf prog w A (λi v=>(bs.map Value.bool).toArray[i]?=some v) (λi=>bs.getD i false):=by
 intro i v s Q E hv hq
 have hv':bs[i]?.map Value.bool=some v:=by
  rw[<-List.getElem?_map]
  simpa using hv
 cases hb:bs[i]? with
 |none=>rw[hb] at hv';cases hv'
 |some b=>
  rw[hb] at hv'
  cases hv'
  dsimp only at hq
  rw[List.getD_eq_getElem?_getD,hb] at hq
  exact wpAny_truthy_bool hq
def Sh(K:PySem.W.Frag):List V->Hp->VK->Prop:=λxs H Q=>match xs with
 | [.ref p]=>∃bs:List Bool,ř K H p (bs.map V.bl)/\Q (.bl (bs.all id)) H
 |_=>False
def wK(hc:X.calm=true):ŝ X (.builtin "all") (Sh X.K):=by
 intro pins s σ H xs us Q I r h
 unfold Sh at h
 split at h
 ·rename_i p
  obtain⟨bs,hS,q⟩:=h
  obtain⟨u,rfl,ru⟩:=vals1 r
  cases ru
  obtain⟨its,rv,pl,hz⟩:=I.list hS
  have e:=JB rv
  subst e
  have hp:p≠s.heap.objs.size:=by
   obtain⟨o,n,e,_⟩:=pl
   exact Nat.ne_of_lt (Heap.lt_size e)
  refine call_all_walk (wpAny_pyIter_list pl.isList ?_)
  refine⟨s.heap.objs.size,_,_,_,_,_,_,rfl,Walks.list (A:=X.A.in1) (show X.A.in1.handled=none from I.ok.hd hc) s.heap.objs.size p hp (bs.map Value.bool).toArray,⟨⟨_,Heap.get?_push_size _ rfl,rfl,rfl⟩,pl.isList.at λo e=>Heap.get?_push_of_some _ e⟩,uq bs,λh' tk k=>?_⟩
  rw[all_range]
  exact⟨.bl _,H,I.kept λb o e=>k b o (by simpa using Nat.ne_of_lt (Heap.lt_size e)) (Heap.get?_push_of_some _ e),rfl,q⟩
 ·exact h.elim
end
abbrev S(l:List Nat):Str:=⟨l.toArray⟩
def ZbV(z:Str):S z.cps.toList=z:=by
 cases z
 simp
def Xu(l:List Nat):(S l).length=l.length:=by simp[Str.length]
def ur(z:Str):z.cps.toList.length=z.length:=by simp[Str.length]
def qU(xs:List Nat)(lo hi:Option Int):List Nat:=(xs.drop (HT.gb xs.length 0 lo)).take (HT.gb xs.length xs.length hi-HT.gb xs.length 0 lo)
def idx_eq(z:Str)(lo hi:Option Int):Builtin.Str.strSliceIndices lo hi 1 z.length=(List.range (HT.gb z.length z.length hi-HT.gb z.length 0 lo)).map (HT.gb z.length 0 lo + ·):=by
 have hc:∀(o:Option Int) (d:Nat),d<=z.length->(match o with|none=>((d:Nat):Int)|some i=>max 0 (min (if i<0 then i+(z.length:Int) else i) (z.length:Int)))=((HT.gb z.length d o:Nat):Int):=by
  intro o d hd
  cases o with
  |none=>rfl
  |some i=>
   show max 0 (min (if i<0 then i+(z.length:Int) else i) (z.length:Int))=((if i<0 then(i+(z.length:Int)).toNat else min i.toNat z.length:Nat):Int)
   by_cases h:i<0
   ·rw[if_pos h,if_pos h];omega
   ·rw[if_neg h,if_neg h];omega
 have e:Builtin.Str.strSliceIndices lo hi 1 z.length=sliceRange ((HT.gb z.length 0 lo:Nat):Int) ((HT.gb z.length z.length hi:Nat):Int) 1:=by
  have h1:=hc lo 0 (Nat.zero_le _)
  have h2:=hc hi z.length (Nat.le_refl _)
  unfold Builtin.Str.strSliceIndices
  simp only[show(1:Int)>0 by decide,if_true]
  rw[<-h1,<-h2]
  cases lo<;>cases hi<;>rfl
 rw[e,sliceRange_one]
def JC(z:Str)(lo hi:Option Int):(Builtin.Str.strSliceIndices lo hi 1 z.length).filterMap (z.cps[·]?)=qU z.cps.toList lo hi:=by
 rw[idx_eq,pick_run]
 unfold qU
 rw[ur]
def JD(xs:List Nat)(lo hi:Option Int):(qU xs lo hi).length<=xs.length:=by
 unfold qU
 rw[List.length_take,List.length_drop]
 omega
def Dw{z:Str}{t:Tok}{l u:Option (Int×Tok)}{Q:Value->Shared->Prop}{s:Shared}(hz:z.length<=sizeLine)
 (h:∀t' k,Q (.str (S (qU z.cps.toList (l.map (·.1)) (u.map (·.1)))) t') {s with toks:=k}):(sliceMade z t l u none).post Q s:=by
 have e:=JC z (l.map (·.1)) (u.map (·.1))
 unfold sliceMade
 have ep:slicePicked z l u none=Builtin.Str.strSliceIndices (l.map (·.1)) (u.map (·.1)) 1 z.length:=rfl
 rw[ep]
 split
 ·rename_i hc
  have hl:(Builtin.Str.strSliceIndices (l.map (·.1)) (u.map (·.1)) 1 z.length).length=z.length:=by simpa using hc
  have hz2:qU z.cps.toList (l.map (·.1)) (u.map (·.1))=z.cps.toList:=by
   rw[idx_eq,List.length_map,List.length_range] at hl
   have hi:=HT.CZ z.length 0 (Nat.zero_le _) (l.map (·.1))
   have hj:=HT.CZ z.length z.length (Nat.le_refl _) (u.map (·.1))
   unfold qU
   rw[ur]
   have hl2:=ur z
   have a0:HT.gb z.length 0 (l.map (·.1))=0\/z.length=0:=by omega
   rcases a0 with a0|a0
   ·rw[a0] at hl ⊢
    rw[List.drop_zero]
    exact List.take_of_length_le (by omega)
   ·have:z.cps.toList=[]:=List.eq_nil_of_length_eq_zero (by omega)
    rw[this]
    simp
  have:=h t s.toks
  rw[hz2,ZbV] at this
  exact this
 ·rw[e]
  exact⟨by rw[Xu];have:=JD z.cps.toList (l.map (·.1)) (u.map (·.1));rw[ur] at this;omega,h _ _⟩
section
variable{X:Cx}
def ZbW:V->Option Int->Option Int->Hp->VK->Prop:=λx lo hi H Q=>match x with
 | .str z=>z.length<=sizeLine/\Q (.str (S (qU z.cps.toList lo hi))) H
 |_=>False
def JF:yu X ZbW:=by
 intro pins s σ H x v vl vu lo hi sl Q I rx hs pl pu h
 cases x with
 |str z=>
  obtain⟨t,rfl⟩:=rx
  obtain⟨hz,q⟩:=h
  obtain⟨l,el,el2⟩:∃l:Option (Int×Tok),partValue l=vl/\l.map (·.1)=lo:=by
   cases pl with
   |none=>exact⟨none,rfl,rfl⟩
   |int i t=>exact⟨some (i,t),rfl,rfl⟩
  obtain⟨u,eu,eu2⟩:∃u:Option (Int×Tok),partValue u=vu/\u.map (·.1)=hi:=by
   cases pu with
   |none=>exact⟨none,rfl,rfl⟩
   |int i t=>exact⟨some (i,t),rfl,rfl⟩
  subst el el2 eu eu2
  exact⟨"str",_,F.slot_str_getitem.lookup,typeIs_str s z t,wpAny_getItem_str_slice (l:=l) (u:=u) (st:=none) hs rfl (Dw hz λt' k=>⟨.str _,H,I.tok _,⟨_,rfl⟩,q⟩)⟩
 |_=>exact h.elim
def ZbX(K:PySem.W.Frag):V->Option Int->Option Int->Hp->VK->Prop:=λx lo hi H Q=>match x with
 | .ref a=>∃xs,ř K H a xs/\∀p,H p=none->Q (.ref p) (upd H p (.lst (uh xs lo hi)))
 | .str z=>z.length<=sizeLine/\Q (.str (S (qU z.cps.toList lo hi))) H
 |_=>False
def slm:yu X (ZbX X.K):=yu.wk (Dp.or JF) λx lo hi H Q h=>by
 cases x with
 |ref a=>exact .inl h
 |str z=>exact .inr h
 |_=>exact h.elim
def mul_eq(z:Str){n:Int}(h:0<=n):Txt.mul z n=S (List.replicate n.toNat z.cps.toList).flatten:=by
 have key:∀(k:Nat) (acc:Array Nat),((List.replicate k z.cps).foldl (·++ ·) acc).toList=acc.toList++(List.replicate k z.cps.toList).flatten:=by
  intro k
  induction k with
  |zero=>intro acc;simp
  |succ k ih=>
   intro acc
   rw[List.replicate_succ,List.foldl_cons,ih,List.replicate_succ,List.flatten_cons]
   simp
 unfold Txt.mul
 refine PyProof.Rows.ext_toList ?_
 by_cases h1:n<1
 ·rw[if_pos h1]
  have:n.toNat=0:=by omega
  rw[this]
  simp[Str.empty]
 ·rw[if_neg h1]
  split
  ·rename_i hc
   rw[Bool.or_eq_true] at hc
   rcases hc with hc|hc
   ·have:n=1:=by simpa using hc
    subst this
    simp
   ·have h0:z.cps.toList=[]:=List.eq_nil_of_length_eq_zero (by rw[ur];simpa using hc)
    rw[h0]
    simp
  ·rw[key]
   simp
def DN(z:Str)(n:Int):Prop:=0<=n/\n<=1000/\z.length<=1000
def DN.ok{z:Str}{n:Int}(h:DN z n):MulOk z n:=by
 obtain⟨h0,h1,h2⟩:=h
 refine⟨?_,λhn _=>?_,λhn _=>?_⟩
 ·rw[decide_eq_false (by omega),decide_eq_false (by omega)]
  rfl
 ·have:(9000000000000000:Int)≤(2 ^ 63-1) / n:=by
   rw[Int.le_ediv_iff_mul_le (by omega)]
   omega
  omega
 ·have:z.length*n.toNat<=1000*1000:=Nat.mul_le_mul h2 (by omega)
  unfold Builtin.Str.tooLong
  simp
  rw[sizeLine_eq]
  omega
def DP:R2:=λx y H Q=>match x,y with
 | .int i,.int j=>pO i j/\Q (.int (i*j)) H
 | .str z,.int n=>DN z n/\Q (.str (S (List.replicate n.toNat z.cps.toList).flatten)) H
 |_,_=>False
def JG:ţ X (binaryOp .Mult) DP:=by
 intro pins s σ H x y v u Q I rx ry h
 unfold DP at h
 split at h
 ·exact RQ pins s σ H _ _ v u Q I rx ry h
 ·obtain⟨t,rfl⟩:=rx
  obtain⟨t',rfl⟩:=ry
  exact SB.mul h.1.ok λt' k=>⟨.str _,H,I.tok _,⟨_,by rw[mul_eq _ h.1.1]⟩,h.2⟩
 ·exact h.elim
end
end M4
namespace M5
open PySem PySem.Spec PyProof.Rows L2 M2 M3
section
variable{X:Cx}{pins:List (Addr×Obj)}{σ:L2.St}{H:Hp}{s:Shared}{x:Str}{c P:Addr}{params:Arguments}{body:Expr}{scope:Scope}{pos:Pos}{cl:List (Str×Addr)}
end
section
variable{X:Cx}{pins:List (Addr×Obj)}{σ:L2.St}{H:Hp}{s:Shared}{params:Arguments}{body:Expr}{scope sc:Scope}{cl:List (Str×Addr)}{N0:List Str}{js:List Nat}{qual px:Str}{f c':Addr}{A:Around}
end
section
variable{X:Cx}{pins:List (Addr×Obj)}{σ:L2.St}{H:Hp}{s:Shared}
variable{R:Result->Shared->Prop}{f l S It:Addr}{oF:Obj}{xs:List V}(ks:Nat->Int)(W:Nat->Hp->Prop)
end
section
variable{X:Cx}{x px:Str}{c P:Addr}{params:Arguments}{body e:Expr}{scope:Scope}{p pos Sq kpos:Pos}{ta:TA}{te:TE}
end
end M5
namespace P
def nst:PySem.Expr->Bool
 | .Starred .. =>false
 |_=>true
def Ŗ{e:PySem.Expr}{es:List PySem.Expr}{env:PySem.Env}(h:nst e=true):PySem.starEach (e::es) env=(false,PySem.eval e env)::PySem.starEach es env:=by
 cases e<;>first|rfl|cases h
def wL{a b:PySem.Expr}{env:PySem.Env}(h:nst a=true)(h2:nst b=true):PySem.starEach [a,b] env=[(false,PySem.eval a env),(false,PySem.eval b env)]:=by
 rw[Ŗ h,Ŗ h2];rfl
open PySem PySem.Spec PyProof.Rows L2 M2
structure KK where
 K:PySem.W.Frag
 cm:String->Addr
abbrev kk(X:Cx)(cm:String->Addr):KK:=⟨X.K,cm⟩
inductive PV where
 |non|bl (b:Bool)|int (i:Int)|str (x:Str)|tup (xs:List PV)|lst (xs:List PV)
 |ins (C:String) (ns:List Str) (xs:List PV)|xc (C:String) (ns:List Str) (xs:List PV)|ty (n:String)|cls (C:String)
def xo(a C:Addr)(d:Option Addr):HO:=.ext λh=>∃o vs,h.get? a=some o/\o.cls=.ref C/\o.dict=d/\o.data=.fields vs
def uw(F:Hp)(d:Option Addr)(fs:List (Str×V)):Prop:=(d=none/\fs=[])\/∃a,d=some a/\F a=some (.xd fs)
mutual
def Rep(K:KK)(F:Hp):PV->V->Prop
 | .non,v=>v=.non
 | .bl b,v=>v=.bl b
 | .int i,v=>v=.int i
 | .str x,v=>v=.str x
 | .tup ps,v=>∃a xs,v=.ref a/\F a=some (.tup xs)/\Ć K F ps xs
 | .lst ps,v=>∃a xs,v=.ref a/\ř K.K F a xs/\Ć K F ps xs
 | .ins C ns ps,v=>∃a dx fs,v=.ref a/\F a=some (.ins (K.cm C) dx fs)/\fs.map (·.1)=ns/\Ć K F ps (fs.map (·.2))
 | .xc C ns ps,v=>∃a d fs,v=.ref a/\F a=some (xo a (K.cm C) d)/\uw F d fs/\fs.map (·.1)=ns/\Ć K F ps (fs.map (·.2))
 | .ty n,v=>v=.ty n
 | .cls C,v=>v=.ref (K.cm C)
def Ć(K:KK)(F:Hp):List PV->List V->Prop
 | [],xs=>xs=[]
 |p::ps,xs=>∃x r,xs=x::r/\Rep K F p x/\Ć K F ps r
end
section
variable{K:KK}{F F' H H':Hp}
def uw.same{d:Option Addr}{fs:List (Str×V)}(e:Same F F')(h:uw F d fs):uw F' d fs:=by
 rcases h with h|⟨a,h1,h2⟩
 ·exact .inl h
 ·exact .inr ⟨a,h1,e _ _ h2⟩
mutual
theorem Rep.same(e:Same F F'):∀(p:PV) (v:V),Rep K F p v->Rep K F' p v
 | .non,_,h=>by unfold Rep at h ⊢;exact h
 | .bl _,_,h=>by unfold Rep at h ⊢;exact h
 | .int _,_,h=>by unfold Rep at h ⊢;exact h
 | .str _,_,h=>by unfold Rep at h ⊢;exact h
 | .ty _,_,h=>by unfold Rep at h ⊢;exact h
 | .cls _,_,h=>by unfold Rep at h ⊢;exact h
 | .tup ps,_,h=>by
   unfold Rep at h ⊢
   obtain⟨a,xs,h1,h2,h3⟩:=h
   exact⟨a,xs,h1,e _ _ h2,Ć.same e ps xs h3⟩
 | .lst ps,_,h=>by
   unfold Rep at h ⊢
   obtain⟨a,xs,h1,h2,h3⟩:=h
   exact⟨a,xs,h1,e.seq h2,Ć.same e ps xs h3⟩
 | .ins C ns ps,_,h=>by
   unfold Rep at h ⊢
   obtain⟨a,dx,fs,h1,h2,h3,h4⟩:=h
   exact⟨a,dx,fs,h1,e _ _ h2,h3,Ć.same e ps _ h4⟩
 | .xc C ns ps,_,h=>by
   unfold Rep at h ⊢
   obtain⟨a,d,fs,h1,h2,hd,h3,h4⟩:=h
   exact⟨a,d,fs,h1,e _ _ h2,hd.same e,h3,Ć.same e ps _ h4⟩
theorem Ć.same(e:Same F F'):∀(ps:List PV) (xs:List V),Ć K F ps xs->Ć K F' ps xs
 | [],_,h=>by unfold Ć at h ⊢;exact h
 |p::ps,_,h=>by
  unfold Ć at h ⊢
  obtain⟨x,r,h1,h2,h3⟩:=h
  exact⟨x,r,h1,Rep.same e p x h2,Ć.same e ps r h3⟩
end
theorem Ć.pr:∀{ps:List PV} {vs:List V},Ć K F ps vs->Paired (Rep K F) ps vs
 | [],_,h=>by unfold Ć at h;subst h;exact .nil
 |p::ps,_,h=>by
  unfold Ć at h
  obtain⟨x,r,rfl,h2,h3⟩:=h
  exact .cons h2 (Ć.pr h3)
theorem Ć.of:∀{ps:List PV} {vs:List V},Paired (Rep K F) ps vs->Ć K F ps vs
 | [],_,.nil=>by unfold Ć;rfl
 |p::ps,_,.cons h t=>by unfold Ć;exact⟨_,_,rfl,h,Ć.of t⟩
theorem Ć.nil:Ć K F [] []:=Ć.of .nil
theorem Ć.cons{p:PV}{v:V}{ps:List PV}{vs:List V}(h:Rep K F p v)(t:Ć K F ps vs):Ć K F (p::ps) (v::vs):=Ć.of (.cons h t.pr)
theorem Ć.length{ps:List PV}{vs:List V}(h:Ć K F ps vs):ps.length=vs.length:=Paired.length h.pr
theorem ź{α β:Type}{G:α->β->Prop}:∀{l:List α} {m:List β} {i:Nat} {x:α},Paired G l m->l[i]?=some x->∃y,m[i]?=some y/\G x y
 |_,_,_,_,.nil,e=>by simp at e
 |_,_,0,_,.cons r _,e=>by simp at e;subst e;exact⟨_,rfl,r⟩
 |_,_,i+1,x,.cons _ t,e=>by
  obtain⟨y,h1,h2⟩:=ź (i:=i) (x:=x) t (by simpa using e)
  exact⟨y,by simpa using h1,h2⟩
theorem DQ{α β:Type}{G:α->β->Prop}:∀{l l2:List α} {m m2:List β},Paired G l m->Paired G l2 m2->Paired G (l++l2) (m++m2)
 |_,_,_,_,.nil,t=>t
 |_,_,_,_,.cons r s,t=>.cons r (DQ s t)
theorem yF{α β:Type}{G:α->β->Prop}:∀{l:List α} {m:List β} (n:Nat),Paired G l m->Paired G (l.take n) (m.take n)
 |_,_,0,_=>.nil
 |_,_,_+1,.nil=>.nil
 |_,_,n+1,.cons r t=>.cons r (yF n t)
theorem yG{α β:Type}{G:α->β->Prop}:∀{l:List α} {m:List β} (n:Nat),Paired G l m->Paired G (l.drop n) (m.drop n)
 |_,_,0,h=>h
 |_,_,_+1,.nil=>.nil
 |_,_,n+1,.cons _ t=>yG n t
def Ć.append{ps qs:List PV}{vs us:List V}(h:Ć K F ps vs)(t:Ć K F qs us):Ć K F (ps++qs) (vs++us):=Ć.of (DQ h.pr t.pr)
end
abbrev DK:=Sum Int (List Int)
inductive Slot where
 |no|sh (p:PV)|ow (ps:List PV)|bw (ps:List PV)|rc (C:String) (ns:List Str) (ps:List PV)|ot (ps qs rs:List PV)|o2 (ps qs rs ts:List PV)|ol (Cr:List (List PV))|od (t:Bool) (kvs:List (DK×PV))|bd (t:Bool) (kvs:List (DK×PV))
abbrev Ĳ:=List Slot
def Slot.own:Slot->Bool
 | .ow _=>true
 | .rc _ _ _=>true
 | .ot _ _ _=>true
 | .o2 _ _ _ _=>true
 | .ol _=>true
 | .od _ _=>true
 |_=>false
structure Ctx where
 B:Hp
 F₀:Hp
 /-- what is lent here:read,never changed,never kept -/
 L:Hp
 /-- which objects may be held as one's own:address,dict,class -/
 S:Addr->Addr->String->Prop
def qW(K:KK)(F:Hp)(t:Bool)(kvs:List (DK×PV))(u:HO):Prop:=
 (t=false/\∃ks:List (Key×V),u=.dK ks/\Paired (λ(p:DK×PV) (q:Key×V)=>(∃i:Int,p.1=.inl i/\q.1=.inl i)/\Rep K F p.2 q.2) kvs ks)\/
 t=true/\∃ks:List (List Key×V),u=.dT ks/\Paired (λ(p:DK×PV) (q:List Key×V)=>(∃is:List Int,p.1=.inr is/\q.1=is.map .inl)/\Rep K F p.2 q.2) kvs ks
def ŏ(K:KK)(c:Ctx)(F H:Hp)(o:Option V):Slot->Prop
 | .no=>True
 | .sh p=>∃v,o=some v/\Rep K F p v
 | .ow ps=>∃a vs,o=some (.ref a)/\H a=some (.lst vs)/\F a=none/\c.B a=none/\Ć K F ps vs
 | .bw ps=>∃a vs,o=some (.ref a)/\c.L a=some (.lst vs)/\Ć K F ps vs
 | .rc C ns ps=>∃a dx fs,o=some (.ref a)/\H a=some (.ins (K.cm C) dx fs)/\F a=none/\c.B a=none/\fs.map (·.1)=ns/\Ć K F ps (fs.map (·.2))/\c.S a dx C
 | .ot ps qs rs=>∃p a xs vs ys,o=some (.ref p)/\F p=some (.tup (xs ++ .ref a::ys))/\Ć K F ps xs/\H a=some (.lst vs)/\F a=none/\c.B a=none/\Ć K F qs vs/\Ć K F rs ys
 | .o2 ps qs rs ts=>∃p a b xs vs ys us,o=some (.ref p)/\F p=some (.tup (xs ++ .ref a::(ys ++ [.ref b])))/\Ć K F ps xs/\Ć K F rs ys/\(H a=some (.lst vs)/\F a=none/\c.B a=none/\Ć K F qs vs)/\(H b=some (.lst us)/\F b=none/\c.B b=none/\Ć K F ts us)/\a≠b
 | .ol Cr=>∃(p:Addr) (as:List Addr),o=some (.ref p)/\F p=some (.lst (as.map V.ref))/\as.Nodup/\Paired (λ(a:Addr) (ps:List PV)=>∃vs,H a=some (.lst vs)/\F a=none/\c.B a=none/\Ć K F ps vs) as Cr
 | .od t kvs=>∃a u,o=some (.ref a)/\H a=some u/\F a=none/\c.B a=none/\qW K F t kvs u
 | .bd t kvs=>∃a u,o=some (.ref a)/\(c.L a=some u\/∃ob,F a=some (.bU ob u))/\qW K F t kvs u
def Slot.at_(F:Hp)(x:V)(a:Addr):Slot->Prop
 | .ot ps _ _=>∃p xs ys,x=.ref p/\F p=some (.tup (xs ++ .ref a::ys))/\xs.length=ps.length
 | .o2 ps _ _ _=>∃p a' b' xs ys,x=.ref p/\F p=some (.tup (xs ++ .ref a'::(ys ++ [.ref b'])))/\xs.length=ps.length/\(a=a'\/a=b')
 | .ol _=>∃(p:Addr) (as:List Addr),x=.ref p/\F p=some (.lst (as.map V.ref))/\a∈as
 | .ow _=>x=.ref a
 | .od _ _=>x=.ref a
 | .rc _ _ _=>x=.ref a
 |_=>False
def Ĭ(F:Hp)(σ:L2.St)(ρ:Ĳ)(i:Nat)(a:Addr):Prop:=∃s x,ρ[i]?=some s/\σ[i]?=some (some x)/\s.at_ F x a
structure Rel(K:KK)(c:Ctx)(F H:Hp)(σ:L2.St)(ρ:Ĳ):Prop where
 sub:Same F H
 base:Same c.B H
 f0:Same c.F₀ F
 bU:∀a,c.B a≠none->c.F₀ a=none->F a=none
 lent:∀a u,c.L a=some u->H a=some u/\F a=none
 lb:∀a,c.B a=none->c.L a=none
 len:σ.length=ρ.length
 slot:∀(i:Nat) s,ρ[i]?=some s->ŏ K c F H ((σ[i]?).getD none) s
 sep:∀i j a,Ĭ F σ ρ i a->Ĭ F σ ρ j a->i=j
def bI(F:Hp)(σ:L2.St)(ρ:Ĳ)(a:Addr):Prop:=∀i,¬Ĭ F σ ρ i a
section
variable{K:KK}{c:Ctx}{F F' H H':Hp}{σ:L2.St}{ρ:Ĳ}{a:Addr}{o:HO}
def lW{s:Slot}{x:V}(h:s.at_ F x a):s.own=true:=by
 cases s<;>first|rfl|exact h.elim
theorem lX:∀{as bs:List Addr},as.map V.ref=bs.map V.ref->as=bs
 | [],[],_=>rfl
 | [],_::_,h=>by cases h
 |_::_,[],h=>by cases h
 |a::as,b::bs,h=>by
  injection h with h1 h2
  injection h1 with h1
  rw[h1,lX h2]
def gA{ps qs rs:List PV}{x:V}{b:Addr}(h:(Slot.ot ps qs rs).at_ F x a)(h':(Slot.ot ps qs rs).at_ F x b):a=b:=by
 obtain⟨p,xs,us,h1,h2,l1⟩:=h
 obtain⟨q,ys,ws,h3,h4,l2⟩:=h'
 rw[h1] at h3
 cases h3
 rw[h2] at h4
 have e:xs++V.ref a::us=ys++V.ref b::ws:=by
  injection h4 with h4
  injection h4
 have e2:=(List.append_inj e (by omega)).2
 injection e2 with e2
 injection e2
def iK{ps qs rs ts:List PV}{p a1 b1:Addr}{xs ys:List V}(h:(Slot.o2 ps qs rs ts).at_ F (.ref p) a)(h2:F p=some (.tup (xs ++ .ref a1::(ys ++ [.ref b1]))))(hl:xs.length=ps.length):a=a1\/a=b1:=by
 obtain⟨q,a',b',us,ws,e1,e2,l1,e3⟩:=h
 cases e1
 rw[h2] at e2
 have e:xs++V.ref a1::(ys ++ [V.ref b1])=us++V.ref a'::(ws ++ [V.ref b']):=by
  injection e2 with e2
  injection e2
 have e4:=(List.append_inj e (by omega)).2
 injection e4 with e4 e5
 injection e4 with e4
 have e6:=(List.append_inj' e5 rfl).2
 injection e6 with e6
 injection e6 with e6
 rcases e3 with rfl|rfl
 ·exact .inl e4.symm
 ·exact .inr e6.symm
theorem DR{α β:Type}{G:α->β->Prop}:∀{l:List α} {m:List β} {x:α},Paired G l m->x∈l->∃y,y∈m/\G x y
 |_,_,_,.nil,h=>by simp at h
 |_,_,x,.cons r t,h=>by
  rcases List.mem_cons.mp h with rfl|h
  ·exact⟨_,List.mem_cons_self,r⟩
  ·obtain⟨y,h1,h2⟩:=DR t h
   exact⟨y,List.mem_cons_of_mem _ h1,h2⟩
theorem ux{α β:Type}{G G':α->β->Prop}:∀{l:List α} {m:List β},Paired G l m->(∀x y,x∈l->G x y->G' x y)->Paired G' l m
 |_,_,.nil,_=>.nil
 |_,_,.cons r t,h=>.cons (h _ _ List.mem_cons_self r) (ux t λx y hx=>h x y (List.mem_cons_of_mem _ hx))
theorem qW.same{t:Bool}{kvs:List (DK×PV)}{u:HO}(h:qW K F t kvs u)(e:Same F F'):qW K F' t kvs u:=by
 rcases h with⟨ht,ks,h1,h2⟩|⟨ht,ks,h1,h2⟩
 ·exact .inl ⟨ht,ks,h1,ux h2 λp q _ ⟨r1,r2⟩=>⟨r1,r2.same e p.2 q.2⟩⟩
 ·exact .inr ⟨ht,ks,h1,ux h2 λp q _ ⟨r1,r2⟩=>⟨r1,r2.same e p.2 q.2⟩⟩
def ŏ.grow{s:Slot}{x:Option V}(h:ŏ K c F H x s)(eF:Same F F')(eH:∀b vs,(∃y,x=some y/\s.at_ F y b)->H b=some vs->F b=none->c.B b=none->H' b=some vs/\F' b=none):ŏ K c F' H' x s:=by
 cases s with
 |no=>trivial
 |sh p=>obtain⟨v,h1,h2⟩:=h;exact⟨v,h1,h2.same eF p v⟩
 |ow ps=>
  obtain⟨b,vs,h1,h2,h3,h4,h5⟩:=h
  obtain⟨e1,e2⟩:=eH b _ ⟨_,h1,rfl⟩ h2 h3 h4
  exact⟨b,vs,h1,e1,e2,h4,h5.same eF ps vs⟩
 |bw ps=>obtain⟨b,vs,h1,h2,h3⟩:=h;exact⟨b,vs,h1,h2,h3.same eF ps vs⟩
 |bd t kvs=>obtain⟨b,u,h1,h2,h3⟩:=h;exact⟨b,u,h1,h2.imp id λ⟨ob,e⟩=>⟨ob,eF _ _ e⟩,h3.same eF⟩
 |od t kvs=>
  obtain⟨b,u,h1,h2,h3,h4,h5⟩:=h
  obtain⟨e1,e2⟩:=eH b _ ⟨_,h1,rfl⟩ h2 h3 h4
  exact⟨b,u,h1,e1,e2,h4,h5.same eF⟩
 |rc C ns ps=>
  obtain⟨b,dx,fs,h1,h2,h3,h4,h5,h6⟩:=h
  obtain⟨e1,e2⟩:=eH b _ ⟨_,h1,rfl⟩ h2 h3 h4
  exact⟨b,dx,fs,h1,e1,e2,h4,h5,h6.1.same eF ps _,h6.2⟩
 |ot ps qs rs=>
  obtain⟨p,b,xs,vs,ys,h1,h2,h3,h4,h5,h6,h7,h8⟩:=h
  obtain⟨e1,e2⟩:=eH b _ ⟨_,h1,p,xs,ys,rfl,h2,h3.length.symm⟩ h4 h5 h6
  exact⟨p,b,xs,vs,ys,h1,eF _ _ h2,h3.same eF ps xs,e1,e2,h6,h7.same eF qs vs,h8.same eF rs ys⟩
 |o2 ps qs rs ts=>
  obtain⟨p,a1,b1,xs,vs,ys,us,h1,h2,h3,h4,⟨k1,k2,k3,k4⟩,⟨l1,l2,l3,l4⟩,h5⟩:=h
  obtain⟨e1,e2⟩:=eH a1 _ ⟨_,h1,p,a1,b1,xs,ys,rfl,h2,h3.length.symm,.inl rfl⟩ k1 k2 k3
  obtain⟨e3,e4⟩:=eH b1 _ ⟨_,h1,p,a1,b1,xs,ys,rfl,h2,h3.length.symm,.inr rfl⟩ l1 l2 l3
  exact⟨p,a1,b1,xs,vs,ys,us,h1,eF _ _ h2,h3.same eF ps xs,h4.same eF rs ys,⟨e1,e2,k3,k4.same eF qs vs⟩,⟨e3,e4,l3,l4.same eF ts us⟩,h5⟩
 |ol Cr=>
  obtain⟨p,as,h1,h2,h3,h4⟩:=h
  refine⟨p,as,h1,eF _ _ h2,h3,ux h4 λb ps hb ⟨vs,k1,k2,k3,k4⟩=>?_⟩
  obtain⟨e1,e2⟩:=eH b _ ⟨_,h1,p,as,rfl,h2,hb⟩ k1 k2 k3
  exact⟨vs,e1,e2,k3,k4.same eF ps vs⟩
def ŏ.owned{s:Slot}{y:V}(h:ŏ K c F H (some y) s)(ha:s.at_ F y a):∃u,H a=some u/\F a=none/\c.B a=none:=by
 cases s with
 |no=>exact ha.elim
 |sh p=>exact ha.elim
 |bw ps=>exact ha.elim
 |bd t kvs=>exact ha.elim
 |od t kvs=>
  obtain⟨b,u,h1,h2,h3,h4,h5⟩:=h
  rw[show y=.ref a from ha] at h1
  cases h1
  exact⟨_,h2,h3,h4⟩
 |ow ps=>
  obtain⟨b,vs,h1,h2,h3,h4,h5⟩:=h
  rw[show y=.ref a from ha] at h1
  cases h1
  exact⟨_,h2,h3,h4⟩
 |rc C ns ps=>
  obtain⟨b,dx,fs,h1,h2,h3,h4,h5,h6⟩:=h
  rw[show y=.ref a from ha] at h1
  cases h1
  exact⟨_,h2,h3,h4⟩
 |ot ps qs rs=>
  obtain⟨p,b,xs,vs,ys,h1,h2,h3,h4,h5,h6,h7,h8⟩:=h
  cases h1
  cases gA (ps:=ps) (qs:=qs) (rs:=rs) ha ⟨p,xs,ys,rfl,h2,h3.length.symm⟩
  exact⟨_,h4,h5,h6⟩
 |o2 ps qs rs ts=>
  obtain⟨p,a1,b1,xs,vs,ys,us,h1,h2,h3,h4,⟨k1,k2,k3,k4⟩,⟨l1,l2,l3,l4⟩,h5⟩:=h
  cases h1
  rcases iK ha h2 h3.length.symm with rfl|rfl
  ·exact⟨_,k1,k2,k3⟩
  ·exact⟨_,l1,l2,l3⟩
 |ol Cr=>
  obtain⟨p,as,h1,h2,h3,h4⟩:=h
  cases h1
  obtain⟨q,bs,e1,e2,e3⟩:=ha
  cases e1
  rw[h2] at e2
  have e:as=bs:=lX (by injection e2 with e2;injection e2)
  subst e
  obtain⟨ps,_,vs,k1,k2,k3,_⟩:=DR h4 e3
  exact⟨_,k1,k2,k3⟩
def ŏ.back{s:Slot}{y:V}(h:ŏ K c F H (some y) s)(e:Same F F')(ha:s.at_ F' y a):s.at_ F y a:=by
 cases s with
 |ot ps qs rs=>
  obtain⟨p,b,xs,vs,ys,h1,h2,h3,h4,h5,h6,h7,h8⟩:=h
  cases h1
  cases gA (ps:=ps) (qs:=qs) (rs:=rs) ha ⟨p,xs,ys,rfl,e _ _ h2,h3.length.symm⟩
  exact⟨p,xs,ys,rfl,h2,h3.length.symm⟩
 |o2 ps qs rs ts=>
  obtain⟨p,a1,b1,xs,vs,ys,us,h1,h2,h3,h4,_,_,h5⟩:=h
  cases h1
  exact⟨p,a1,b1,xs,ys,rfl,h2,h3.length.symm,iK ha (e _ _ h2) h3.length.symm⟩
 |ol Cr=>
  obtain⟨p,as,h1,h2,h3,h4⟩:=h
  cases h1
  obtain⟨q,bs,e1,e2,e3⟩:=ha
  cases e1
  rw[e _ _ h2] at e2
  have z:as=bs:=lX (by injection e2 with e2;injection e2)
  subst z
  exact⟨p,as,rfl,h2,e3⟩
 |_=>exact ha
def DW{i:Nat}{x:V}(e:σ[i]?=some (some x)):(σ[i]?).getD none=some x:=by rw[e];rfl
def D_{i:Nat}{x:V}(e:(σ[i]?).getD none=some x):σ[i]?=some (some x):=by
 cases q:σ[i]? with
 |none=>rw[q] at e;cases e
 |some y=>rw[q] at e;exact congrArg some e
theorem Rel.owned(r:Rel K c F H σ ρ){i:Nat}(h:Ĭ F σ ρ i a):(∃u,H a=some u)/\F a=none/\c.B a=none:=by
 obtain⟨s,x,h1,h2,h3⟩:=h
 have q:=r.slot i s h1
 rw[DW h2] at q
 obtain⟨u,q⟩:=q.owned h3
 exact⟨⟨u,q.1⟩,q.2⟩
theorem Rel.back(r:Rel K c F H σ ρ)(e:Same F F'){i:Nat}(h:Ĭ F' σ ρ i a):Ĭ F σ ρ i a:=by
 obtain⟨s,x,h1,h2,h3⟩:=h
 have q:=r.slot i s h1
 rw[DW h2] at q
 exact⟨s,x,h1,h2,q.back e h3⟩
def Rel.Ss(r:Rel K c F H σ ρ)(e:Same F F'):∀i j a,Ĭ F' σ ρ i a->Ĭ F' σ ρ j a->i=j:=λi j a h1 h2=>r.sep i j a (r.back e h1) (r.back e h2)
def Rel.bx(r:Rel K c F H σ ρ)(e:Same F F')(h:bI F σ ρ a):bI F' σ ρ a:=λi q=>h i (r.back e q)
def Rel.fresh(r:Rel K c F H σ ρ)(h:H a=none):bI F σ ρ a:=λi q=>by
 obtain⟨⟨u,e⟩,_⟩:=r.owned q
 rw[h] at e;cases e
def Rel.alloc(r:Rel K c F H σ ρ)(h:H a=none):Rel K c (upd F a o) (upd H a o) σ ρ where
 sub:=λb u e=>by
  by_cases hb:b=a
  ·subst hb;rw[č] at e ⊢;exact e
  ·rw[Ċ hb] at e ⊢;exact r.sub b u e
 base:=λb u e=>by
  have hb:b≠a:=λz=>by rw[z] at e;rw[r.base _ _ e] at h;cases h
  rw[Ċ hb];exact r.base b u e
 f0:=fun b u e=>by
   have hb:b≠a:=λz=>by rw[z] at e;rw[r.sub _ _ (r.f0 _ _ e)] at h;cases h
   rw[Ċ hb];exact r.f0 b u e
 bU:=λb h1 h2=>by
  have hb:b≠a:=λz=>by
   subst z
   cases q:c.B b with
   |none=>exact h1 q
   |some u=>rw[r.base _ _ q] at h;cases h
  rw[Ċ hb];exact r.bU b h1 h2
 lent:=λb u e=>by
  obtain⟨h1,h2⟩:=r.lent b u e
  have hb:b≠a:=λz=>by rw[z,h] at h1;cases h1
  rw[Ċ hb,Ċ hb];exact⟨h1,h2⟩
 lb:=r.lb
 len:=r.len
 slot:=λi s e=>by
  have hF:F a=none:=r.sub.free h
  refine(r.slot i s e).grow (Same.upd hF) λb u _ h1 h2 h3=>?_
  have hb:b≠a:=λz=>by rw[z,h] at h1;cases h1
  rw[Ċ hb,Ċ hb];exact⟨h1,h2⟩
 sep:=r.Ss (Same.upd (r.sub.free h))
def Rel.made(r:Rel K c F H σ ρ)(h:H a=none):Rel K c F (upd H a o) σ ρ where
 sub:=r.sub.trans (Same.upd h)
 base:=r.base.trans (Same.upd h)
 f0:=r.f0
 bU:=r.bU
 lent:=λb u e=>⟨Same.upd h b u (r.lent b u e).1,(r.lent b u e).2⟩
 lb:=r.lb
 len:=r.len
 slot:=λi s e=>(r.slot i s e).grow (Same.refl F) λb u _ h1 h2 h3=>⟨Same.upd h b u h1,h2⟩
 sep:=r.sep
def Rel.freeze(r:Rel K c F H σ ρ)(h:H a=some o)(hB:c.B a=none)(hF:F a=none)(hf:bI F σ ρ a):Rel K c (upd F a o) H σ ρ where
 sub:=λb u e=>by
  by_cases hb:b=a
  ·subst hb;rw[č] at e;rw[h];exact e
  ·rw[Ċ hb] at e;exact r.sub b u e
 base:=r.base
 f0:=r.f0.trans (Same.upd hF)
 bU:=λb h1 h2=>by
  have hb:b≠a:=λz=>h1 (by rw[z];exact hB)
  rw[Ċ hb];exact r.bU b h1 h2
 lent:=λb u e=>by
  have hb:b≠a:=λz=>by rw[z,r.lb a hB] at e;cases e
  rw[Ċ hb];exact r.lent b u e
 lb:=r.lb
 len:=r.len
 slot:=λi s e=>(r.slot i s e).grow (Same.upd hF) λb' u' ⟨y,e1',ha⟩ h1 h2 h3=>by
  have hb:b'≠a:=λz=>by
   subst z
   exact hf i ⟨s,y,e,D_ e1',ha⟩
  rw[Ċ hb];exact⟨h1,h2⟩
 sep:=r.Ss (Same.upd hF)
def Š{α:Type}{l:List α}{i j:Nat}{x y:α}(h:(l.set i x)[j]?=some y):(j=i/\y=x/\i<l.length)\/(j≠i/\l[j]?=some y):=by
 by_cases hj:j=i
 ·subst hj
  have hl:j<l.length:=by
   have:=(List.getElem?_eq_some_iff.mp h).1
   simpa using this
  rw[List.getElem?_set_self hl] at h
  exact .inl ⟨rfl,(Option.some.inj h).symm,hl⟩
 ·rw[List.getElem?_set_ne (Ne.symm hj)] at h
  exact .inr ⟨hj,h⟩
def Ea{l:L2.St}{i:Nat}{x:Option V}(h:i<l.length):((l.set i x)[i]?).getD none=x:=by rw[List.getElem?_set_self h];rfl
def yH{l:L2.St}{i j:Nat}{x:Option V}(h:j≠i):((l.set i x)[j]?).getD none=(l[j]?).getD none:=by rw[List.getElem?_set_ne (Ne.symm h)]
def Ĭ.off{i j:Nat}{x:Option V}{s:Slot}(h:Ĭ F (σ.set i x) (ρ.set i s) j a)(hj:j≠i):Ĭ F σ ρ j a:=by
 obtain⟨s',y,h1,h2,h3⟩:=h
 rw[List.getElem?_set_ne (Ne.symm hj)] at h1 h2
 exact⟨s',y,h1,h2,h3⟩
def Rel.put(r:Rel K c F H σ ρ){i:Nat}{x:Option V}{s:Slot}(hs:s.own=false)(h:ŏ K c F H x s):Rel K c F H (σ.set i x) (ρ.set i s) where
 sub:=r.sub
 base:=r.base
 f0:=r.f0
 bU:=r.bU
 lent:=r.lent
 lb:=r.lb
 len:=by simpa using r.len
 slot:=λj s' e=>by
  rcases Š e with⟨rfl,rfl,hl⟩|⟨hj,e⟩
  ·rw[Ea (by rw[r.len];exact hl)];exact h
  ·rw[yH hj];exact r.slot j s' e
 sep:=λj k b h1 h2=>by
  have off:∀{j},Ĭ F (σ.set i x) (ρ.set i s) j b->j≠i:=fun{j} q z=>by
   subst z
   obtain⟨s',y,q1,_,q2⟩:=q
   rcases Š q1 with⟨_,rfl,_⟩|⟨q,_⟩
   ·have:=lW q2;rw[hs] at this;cases this
   ·exact q rfl
  exact r.sep j k b (h1.off (off h1)) (h2.off (off h2))
def Rel.yI(r:Rel K c F H σ ρ){i:Nat}{s:Slot}(hs:s.own=false)(h:ŏ K c F H ((σ[i]?).getD none) s):Rel K c F H σ (ρ.set i s) where
 sub:=r.sub
 base:=r.base
 f0:=r.f0
 bU:=r.bU
 lent:=r.lent
 lb:=r.lb
 len:=by simpa using r.len
 slot:=λj s' e=>by
  rcases Š e with⟨rfl,rfl,hl⟩|⟨hj,e⟩
  ·exact h
  ·exact r.slot j s' e
 sep:=λj k b h1 h2=>by
  have off:∀{j},Ĭ F σ (ρ.set i s) j b->Ĭ F σ ρ j b:=fun{j} ⟨s',y,q1,q3,q2⟩=>by
   rcases Š q1 with⟨_,rfl,_⟩|⟨_,q⟩
   ·have:=lW q2;rw[hs] at this;cases this
   ·exact⟨s',y,q,q3,q2⟩
  exact r.sep j k b (off h1) (off h2)
def Rel.uy(r:Rel K c F H σ ρ){i:Nat}{x:V}{s:Slot}(h:ŏ K c F H (some x) s)(hf:∀a,s.at_ F x a->bI F σ ρ a):Rel K c F H (σ.set i (some x)) (ρ.set i s) where
 sub:=r.sub
 base:=r.base
 f0:=r.f0
 bU:=r.bU
 lent:=r.lent
 lb:=r.lb
 len:=by simpa using r.len
 slot:=λj s' e=>by
  rcases Š e with⟨rfl,rfl,hl⟩|⟨hj,e⟩
  ·rw[Ea (by rw[r.len];exact hl)];exact h
  ·rw[yH hj];exact r.slot j s' e
 sep:=λj k b h1 h2=>by
  have Sw:∀{j},Ĭ F (σ.set i (some x)) (ρ.set i s) j b->(j=i/\s.at_ F x b)\/(j≠i/\Ĭ F σ ρ j b):=fun{j} q=>by
   by_cases hj:j=i
   ·subst hj
    obtain⟨s',y,q1,q2,q3⟩:=q
    rcases Š q2 with⟨_,e,_⟩|⟨z,_⟩
    ·cases e
     rcases Š q1 with⟨_,e,_⟩|⟨z,_⟩
     ·cases e
      exact .inl ⟨rfl,q3⟩
     ·exact absurd rfl z
    ·exact absurd rfl z
   ·exact .inr ⟨hj,q.off hj⟩
  rcases Sw h1 with⟨e1,z1⟩|⟨e1,o1⟩
  ·rcases Sw h2 with⟨e2,z2⟩|⟨e2,o2⟩
   ·rw[e1,e2]
   ·exact absurd o2 (hf b z1 k)
  ·rcases Sw h2 with⟨e2,z2⟩|⟨e2,o2⟩
   ·exact absurd o1 (hf b z2 j)
   ·exact r.sep j k b o1 o2
def Rel.iM(r:Rel K c F H σ ρ){i:Nat}{s:Slot}(ho:Ĭ F σ ρ i a)(h:ŏ K c F (upd H a o) ((σ[i]?).getD none) s)(hs:∀x b,σ[i]?=some (some x)->s.at_ F x b->Ĭ F σ ρ i b):Rel K c F (upd H a o) σ (ρ.set i s) where
 sub:=λb u e=>by
  have hb:b≠a:=λz=>by rw[z,(r.owned ho).2.1] at e;cases e
  rw[Ċ hb];exact r.sub b u e
 base:=λb u e=>by
  have hb:b≠a:=λz=>by rw[z,(r.owned ho).2.2] at e;cases e
  rw[Ċ hb];exact r.base b u e
 f0:=r.f0
 bU:=r.bU
 lent:=λb u e=>by
  have hb:b≠a:=λz=>by rw[z,r.lb a (r.owned ho).2.2] at e;cases e
  rw[Ċ hb];exact r.lent b u e
 lb:=r.lb
 len:=by simpa using r.len
 slot:=λj s' e=>by
  rcases Š e with⟨rfl,rfl,hl⟩|⟨hj,e⟩
  ·exact h
  ·refine(r.slot j s' e).grow (Same.refl F) λb u ⟨y,e1,e2⟩ h1 h2 h3=>?_
   have hb:b≠a:=λz=>by
    subst z
    exact hj (r.sep j i b ⟨s',y,e,D_ e1,e2⟩ ho)
   exact⟨by rw[Ċ hb];exact h1,h2⟩
 sep:=λj k b h1 h2=>by
  have off:∀{j},Ĭ F σ (ρ.set i s) j b->Ĭ F σ ρ j b:=fun{j} ⟨s',y,q1,q3,q2⟩=>by
   rcases Š q1 with⟨e,rfl,_⟩|⟨_,q⟩
   ·subst e
    exact hs y b q3 q2
   ·exact⟨s',y,q,q3,q2⟩
  exact r.sep j k b (off h1) (off h2)
def Rel.write(r:Rel K c F H σ ρ){i:Nat}{s:Slot}(ho:Ĭ F σ ρ i a)(hx:σ[i]?=some (some (.ref a)))(h:ŏ K c F (upd H a o) (some (.ref a)) s)(hs:∀b,s.at_ F (.ref a) b->b=a):Rel K c F (upd H a o) σ (ρ.set i s):=
 r.iM ho (by rw[hx];exact h) λx b e q=>by rw[hx] at e;cases e;rw[hs b q];exact ho
structure Gr(F H F' H':Hp):Prop where
 h:Same H H'
 f:Same F F'
 sub:Same F' H'
 out:∀a,H a≠none->F a=none->F' a=none
def Rel.call(r:Rel K c F H σ ρ)(g:Gr F H F' H'):Rel K c F' H' σ ρ where
 sub:=g.sub
 base:=r.base.trans g.h
 f0:=r.f0.trans g.f
 bU:=λb h1 h2=>by
  refine g.out b (λz=>h1 ?_) (r.bU b h1 h2)
  cases q:c.B b with
  |none=>rfl
  |some u=>rw[r.base _ _ q] at z;cases z
 lent:=λb u e=>⟨g.h b u (r.lent b u e).1,g.out b (by rw[(r.lent b u e).1];intro z;cases z) (r.lent b u e).2⟩
 lb:=r.lb
 len:=r.len
 slot:=λi s e=>(r.slot i s e).grow g.f λb u _ h1 h2 h3=>⟨g.h b u h1,g.out b (by rw[h1];intro z;cases z) h2⟩
 sep:=r.Ss g.f
def ctx0(F H:Hp):Ctx:=⟨H,F,λa=>match F a with
 |none=>H a
 |some _=>none,λ_ _ _=>True⟩
def cg{a:Addr}{u:HO}(h:(ctx0 F H).L a=some u):H a=some u/\F a=none:=by
 unfold ctx0 at h
 dsimp only at h
 cases q:F a with
 |none=>rw[q] at h;exact⟨h,rfl⟩
 |some o=>rw[q] at h;cases h
def Rel.gr(r:Rel K (ctx0 F H) F' H' σ ρ):Gr F H F' H':=⟨r.base,r.f0,r.sub,r.bU⟩
def aJ(K:KK)(F H:Hp):Slot->V->Prop
 | .sh p,v=>Rep K F p v
 | .bw ps,v=>∃a vs,v=.ref a/\H a=some (.lst vs)/\F a=none/\Ć K F ps vs
 |_,_=>False
def aJ.slot{s:Slot}{v:V}(h:aJ K F H s v):ŏ K (ctx0 F H) F H (some v) s/\s.own=false:=by
 cases s with
 |sh p=>exact⟨⟨v,rfl,h⟩,rfl⟩
 |bw ps=>
  obtain⟨a,vs,rfl,h1,h2,h3⟩:=h
  refine⟨⟨a,vs,rfl,?_,h3⟩,rfl⟩
  show(match F a with|none=>H a|some _=>none)=_
  rw[h2]
  exact h1
 |no=>exact h.elim
 |ow ps=>exact h.elim
 |rc C ns ps=>exact h.elim
 |ot ps qs rs=>exact h.elim
 |o2 ps qs rs ts=>exact h.elim
 |ol Cr=>exact h.elim
 |od t kvs=>exact h.elim
 |bd t kvs=>exact h.elim
def startP(n:Nat)(as:List Slot):Ĳ:=as++List.replicate (n-as.length) .no
theorem Rel.start{N:List Str}{as:List Slot}{vs:List V}(s:Same F H)(h:Paired (aJ K F H) as vs):Rel K (ctx0 F H) F H (L2.start N vs) (startP N.length as) where
 sub:=s
 base:=Same.refl H
 f0:=Same.refl F
 bU:=λ_ _ h=>h
 lent:=λ_ _ e=>cg e
 lb:=fun a e=>by
   cases q:(ctx0 F H).L a with
   |none=>rfl
   |some u=>
    have e':H a=none:=e
    rw[(cg q).1] at e'
    cases e'
 len:=by unfold L2.start startP;simp[Paired.length h]
 slot:=λi s' e=>by
  unfold startP at e
  by_cases hi:i<as.length
  ·rw[List.getElem?_append_left hi] at e
   obtain⟨v,h1,h2⟩:=ź h e
   have hv:((L2.start N vs)[i]?).getD none=some v:=by
    unfold L2.start
    rw[List.getElem?_append_left (by simpa[<-Paired.length h] using hi),List.getElem?_map,h1];rfl
   rw[hv]
   exact(aJ.slot h2).1
  ·rw[List.getElem?_append_right (by omega),List.getElem?_replicate] at e
   split at e
   ·cases e;trivial
   ·cases e
 sep:=λi j a h1 _=>by
  obtain⟨s',y,h1,_,h2⟩:=h1
  have h2:=lW h2
  exfalso
  unfold startP at h1
  by_cases hi:i<as.length
  ·rw[List.getElem?_append_left hi] at h1
   obtain⟨v,_,h3⟩:=ź h h1
   rw[(aJ.slot h3).2] at h2
   cases h2
  ·rw[List.getElem?_append_right (by omega),List.getElem?_replicate] at h1
   split at h1
   ·cases h1;cases h2
   ·cases h1
end
structure PX where
 C:String
 ns:List Str
 ps:List PV
def JH(K:KK)(F:Hp)(x:PX)(C:Value)(d:Option Addr):Prop:=C=.ref (K.cm x.C)/\∃fs,uw F d fs/\fs.map (·.1)=x.ns/\Ć K F x.ps (fs.map (·.2))
inductive Res(α:Type) where
 |ok (a:α) (ρ:Ĳ)|exc (x:PX) (ρ:Ĳ)|bad
def Res.bind{α β:Type}(r:Res α)(f:α->Ĳ->Res β):Res β:= match r with
 | .ok a ρ=>f a ρ
 | .exc x ρ=>.exc x ρ
 | .bad=>.bad
@[simp] theorem Res.aK{α β:Type}{a:α}{ρ:Ĳ}{f:α->Ĳ->Res β}:(Res.ok a ρ).bind f=f a ρ:= rfl
@[simp] theorem Res.Xv{α β:Type}{x:PX}{ρ:Ĳ}{f:α->Ĳ->Res β}:(Res.exc x ρ:Res α).bind f=.exc x ρ:= rfl
@[simp] theorem Res.Xw{α β:Type}{f:α->Ĳ->Res β}:(Res.bad:Res α).bind f=.bad:=rfl
def Res.kZ{α:Type}(o:Option α)(ρ:Ĳ):Res α:= match o with
 |some a=>.ok a ρ
 |none=>.bad
@[simp] theorem Res.Xx{α:Type}{a:α}{ρ:Ĳ}:Res.kZ (some a) ρ=.ok a ρ:= rfl
@[simp] theorem Res.Xy{α:Type}{ρ:Ĳ}:Res.kZ (none:Option α) ρ=.bad:=rfl
abbrev M(α:Type):=Ĳ->Res α
inductive RV where
 |sh (p:PV)|ow (ps:List PV)|ot (ps qs rs:List PV)|o2 (ps qs rs ts:List PV)
def RV.val:RV->PV
 | .sh p=>p
 | .ow ps=>.lst ps
 | .ot ps qs rs=>.tup (ps ++ .lst qs::rs)
 | .o2 ps qs rs ts=>.tup (ps ++ .lst qs::(rs ++ [.lst ts]))
def RV.slot:RV->Slot
 | .sh p=>.sh p
 | .ow ps=>.ow ps
 | .ot ps qs rs=>.ot ps qs rs
 | .o2 ps qs rs ts=>.o2 ps qs rs ts
abbrev RR(α β:Type):=Ctx->L2.St->Ĳ->Hp->Hp->α->β->Prop
def rV(K:KK):RR PV V:=λ_ _ _ F _ p v=>Rep K F p v
def yJ(K:KK)(F H:Hp)(p:PV)(v:V):Prop:=match p with
 | .lst ps=>∃a vs,v=.ref a/\H a=some (.lst vs)/\Ć K F ps vs
 | .ins C ns ps=>∃a dx fs,v=.ref a/\H a=some (.ins (K.cm C) dx fs)/\fs.map (·.1)=ns/\Ć K F ps (fs.map (·.2))
 |_=>False
def rR(K:KK):RR PV V:=λ_ _ _ F H p v=>Rep K F p v\/yJ K F H p v
def rA(K:KK):RR (List Slot) (List V):=λ_ _ _ F H as vs=>Paired (aJ K F H) as vs
def Held(K:KK)(c:Ctx)(σ:L2.St)(ρ:Ĳ)(F H:Hp)(ps:List PV)(v:V):Prop:=∃a vs,v=.ref a/\H a=some (.lst vs)/\F a=none/\c.B a=none/\bI F σ ρ a/\Ć K F ps vs
def yK(K:KK)(c:Ctx)(σ:L2.St)(ρ:Ĳ)(F H:Hp)(ps qs rs:List PV)(v:V):Prop:=∃p a xs vs ys,v=.ref p/\F p=some (.tup (xs ++ .ref a::ys))/\Ć K F ps xs/\H a=some (.lst vs)/\F a=none/\c.B a=none/\bI F σ ρ a/\Ć K F qs vs/\Ć K F rs ys
def uz(K:KK)(c:Ctx)(σ:L2.St)(ρ:Ĳ)(F H:Hp)(ps qs rs ts:List PV)(v:V):Prop:=∃p a b xs vs ys us,v=.ref p/\F p=some (.tup (xs ++ .ref a::(ys ++ [.ref b])))/\Ć K F ps xs/\Ć K F rs ys/\(H a=some (.lst vs)/\F a=none/\c.B a=none/\bI F σ ρ a/\Ć K F qs vs)/\(H b=some (.lst us)/\F b=none/\c.B b=none/\bI F σ ρ b/\Ć K F ts us)/\a≠b
def rO(K:KK):RR RV V:=λc σ ρ F H r v=>match r with
 | .sh p=>Rep K F p v
 | .ow ps=>Held K c σ ρ F H ps v
 | .ot ps qs rs=>yK K c σ ρ F H ps qs rs v
 | .o2 ps qs rs ts=>uz K c σ ρ F H ps qs rs ts v
def rL(K:KK):RR (List PV) (List V):=λ_ _ _ F _ p v=>Ć K F p v
def Xz(K:KK):RR (List PV) (List V):=λc σ ρ F H p v=>Paired (rR K c σ ρ F H) p v
def rB:RR Bool Bool:=λ_ _ _ _ _ p v=>p=v
def rI:RR (Option Int) (Option Int):=λ_ _ _ _ _ p v=>p=v
def Ŷ{α β:Type}(K:KK)(E:L2.St->XK)(R:RR α β)(c:Ctx)(F H:Hp)(σ:L2.St)(Q:β->Hp->Prop):Res α->Prop
 | .ok p ρ'=>∀v F' H',Rel K c F' H' σ ρ'->Same F F'->Same H H'->R c σ ρ' F' H' p v->Q v H'
 | .exc x ρ'=>∀C d F' H',Rel K c F' H' σ ρ'->Same F F'->JH K F' x C d->E σ C d H'
 | .bad=>False
def tG{α β:Type}(K:KK)(E:L2.St->XK)(R:RR α β)(m:M α):L2.St->Hp->(β->Hp->Prop)->Prop:=λσ H Q=>∃c F ρ,Rel K c F H σ ρ/\Ŷ K E R c F H σ Q (m ρ)
section
variable{α β α' β':Type}{K:KK}{E:L2.St->XK}{R:RR α β}{R':RR α' β'}{c:Ctx}{F F1 H H1:Hp}{σ:L2.St}
def Ŷ.mono{Q:β->Hp->Prop}{r:Res α}(h:Ŷ K E R c F H σ Q r)(sF:Same F F1)(sH:Same H H1):Ŷ K E R c F1 H1 σ Q r:=by
 cases r with
 |ok p ρ'=>exact λv F' H' rel s1 s2 q=>h v F' H' rel (sF.trans s1) (sH.trans s2) q
 |exc x ρ'=>exact λC d F' H' rel s1 q=>h C d F' H' rel (sF.trans s1) q
 |bad=>exact h
theorem Ŷ.bind{Q:β->Hp->Prop}{Q':β'->Hp->Prop}{r:Res α}{f:α->Ĳ->Res α'}(h:Ŷ K E R' c F H σ Q' (r.bind f))
 (k:∀p ρ1 v F1 H1,Rel K c F1 H1 σ ρ1->Same F F1->Same H H1->R c σ ρ1 F1 H1 p v->Ŷ K E R' c F1 H1 σ Q' (f p ρ1)->Q v H1):Ŷ K E R c F H σ Q r:=by
 cases r with
 |ok p ρ'=>exact λv F' H' rel s1 s2 q=>k p ρ' v F' H' rel s1 s2 q (Ŷ.mono (show Ŷ K E R' c F H σ Q' (f p ρ') from h) s1 s2)
 |exc x ρ'=>exact h
 |bad=>exact h
theorem Ŷ.rel{R2:RR α β}{Q:β->Hp->Prop}{r:Res α}(h:Ŷ K E R c F H σ Q r)(k:∀p ρ' v F' H',Rel K c F' H' σ ρ'->R2 c σ ρ' F' H' p v->R c σ ρ' F' H' p v):Ŷ K E R2 c F H σ Q r:=by
 cases r with
 |ok p ρ'=>exact λv F' H' rel s1 s2 q=>h v F' H' rel s1 s2 (k p ρ' v F' H' rel q)
 |exc x ρ'=>exact h
 |bad=>exact h
end
abbrev tV(K:KK)(E:L2.St->XK)(m:M PV):TE:=tG K E (rV K) m
abbrev tR(K:KK)(E:L2.St->XK)(m:M PV):TE:=tG K E (rR K) m
abbrev tO(K:KK)(E:L2.St->XK)(m:M RV):TE:=tG K E (rO K) m
abbrev tL(K:KK)(E:L2.St->XK)(m:M (List PV)):TA:=tG K E (rL K) m
abbrev tA(K:KK)(E:L2.St->XK)(m:M (List Slot)):TA:=tG K E (rA K) m
abbrev Mh(K:KK)(E:L2.St->XK)(m:M (List PV)):TA:=tG K E (Xz K) m
abbrev tB(K:KK)(E:L2.St->XK)(m:M Bool):TT:=tG K E rB m
inductive Fl where
 |nx|bk|ct|rt (r:RV)
def š(K:KK)(E:L2.St->XK)(c:Ctx)(F:Hp)(D:Ends):Res Fl->Prop
 | .ok .nx ρ'=>∀σ' F' H',Rel K c F' H' σ' ρ'->Same F F'->D.nx σ' H'
 | .ok .bk ρ'=>∀σ' F' H',Rel K c F' H' σ' ρ'->Same F F'->D.bk σ' H'
 | .ok .ct ρ'=>∀σ' F' H',Rel K c F' H' σ' ρ'->Same F F'->D.ct σ' H'
 | .ok (.rt r) ρ'=>∀v σ' F' H',Rel K c F' H' σ' ρ'->Same F F'->rO K c σ' ρ' F' H' r v->D.rt v H'
 | .exc x ρ'=>∀σ' C d F' H',Rel K c F' H' σ' ρ'->Same F F'->JH K F' x C d->E σ' C d H'
 | .bad=>False
def tS(K:KK)(E:L2.St->XK)(m:M Fl):TS:=λD σ H=>∃c F ρ,Rel K c F H σ ρ/\š K E c F D (m ρ)
section
variable{K:KK}{E:L2.St->XK}{c:Ctx}{F F1:Hp}{D:Ends}
def š.mono{r:Res Fl}(h:š K E c F D r)(sF:Same F F1):š K E c F1 D r:=by
 cases r with
 |ok f ρ'=>
  cases f with
  |rt v=>exact λv σ' F' H' rel s1 q=>h v σ' F' H' rel (sF.trans s1) q
  |nx=>exact λσ' F' H' rel s1=>h σ' F' H' rel (sF.trans s1)
  |bk=>exact λσ' F' H' rel s1=>h σ' F' H' rel (sF.trans s1)
  |ct=>exact λσ' F' H' rel s1=>h σ' F' H' rel (sF.trans s1)
 |exc x ρ'=>exact λσ' C d F' H' rel s1 q=>h σ' C d F' H' rel (sF.trans s1) q
 |bad=>exact h
theorem š.bind{α β:Type}{R:RR α β}{σ:L2.St}{H:Hp}{Q:β->Hp->Prop}{r:Res α}{f:α->Ĳ->Res Fl}(h:š K E c F D (r.bind f))
 (k:∀p ρ1 v F1 H1,Rel K c F1 H1 σ ρ1->Same F F1->R c σ ρ1 F1 H1 p v->š K E c F1 D (f p ρ1)->Q v H1):Ŷ K E R c F H σ Q r:=by
 cases r with
 |ok p ρ'=>exact λv F' H' rel s1 s2 q=>k p ρ' v F' H' rel s1 q (š.mono (show š K E c F D (f p ρ') from h) s1)
 |exc x ρ'=>exact λC d F' H' rel s1 q=>h σ C d F' H' rel s1 q
 |bad=>exact h
end
end P
namespace P
open PySem PySem.Spec PyProof.Rows L2 M2
def ē(i:Nat):M PV:=λρ=>match ρ[i]? with
 |some (.sh p)=>.ok p ρ
 |some (.ow ps)=>.ok (.lst ps) (ρ.set i (.sh (.lst ps)))
 |_=>.bad
def Ā(i:Nat):M PV:=λρ=>match ρ[i]? with
 |some (.sh p)=>.ok p ρ
 |some (.ow ps)=>.ok (.lst ps) ρ
 |some (.bw ps)=>.ok (.lst ps) ρ
 |some (.rc C ns ps)=>.ok (.ins C ns ps) ρ
 |_=>.bad
def gB(i:Nat):M RV:=λρ=>match ρ[i]? with
 |some (.sh p)=>.ok (.sh p) ρ
 |some (.ow ps)=>.ok (.ow ps) (ρ.set i .no)
 |_=>.bad
def mC(p:PV):M PV:=λρ=>.ok p ρ
def Ś(m:M PV):M RV:=λρ=>(m ρ).bind λp ρ1=>.ok (.sh p) ρ1
def Ę(m:M RV):M PV:=λρ=>(m ρ).bind λr ρ1=>.ok r.val ρ1
section
variable{K:KK}{c:Ctx}{F H:Hp}{σ:L2.St}{ρ:Ĳ}
def at_of{i:Nat}{x:V}(h:(σ[i]?).getD none=some x):σ[i]?=some (some x):=by
 cases q:σ[i]? with
 |none=>rw[q] at h;cases h
 |some y=>rw[q] at h;exact congrArg some h
theorem Rel.ow(r:Rel K c F H σ ρ){i:Nat}{ps:List PV}(e:ρ[i]?=some (.ow ps)):∃a vs,σ[i]?=some (some (.ref a))/\H a=some (.lst vs)/\F a=none/\c.B a=none/\Ć K F ps vs/\Ĭ F σ ρ i a:=by
 obtain⟨a,vs,h1,h2,h3,h4,h5⟩:=r.slot i _ e
 exact⟨a,vs,at_of h1,h2,h3,h4,h5,⟨_,_,e,at_of h1,rfl⟩⟩
def Rel.move(r:Rel K c F H σ ρ){i:Nat}{a:Addr}(h:Ĭ F σ ρ i a):Rel K c F H σ (ρ.set i .no)/\bI F σ (ρ.set i .no) a:=by
 refine⟨r.yI rfl trivial,λj ⟨s,y,q1,q3,q2⟩=>?_⟩
 rcases Š q1 with⟨_,rfl,_⟩|⟨hj,q⟩
 ·exact q2.elim
 ·exact hj (r.sep j i a ⟨s,y,q,q3,q2⟩ h)
def Rel.share(r:Rel K c F H σ ρ){i:Nat}{ps:List PV}(e:ρ[i]?=some (.ow ps)):∃a vs,σ[i]?=some (some (.ref a))/\F a=none/\Rep K (upd F a (.lst vs)) (.lst ps) (.ref a)/\Rel K c (upd F a (.lst vs)) H σ (ρ.set i (.sh (.lst ps))):=by
 obtain⟨a,vs,h1,h2,h3,h4,h5,ho⟩:=r.ow e
 obtain⟨m1,m2⟩:=r.move ho
 have rp:Rep K (upd F a (.lst vs)) (.lst ps) (.ref a):=by
  unfold Rep
  exact⟨a,vs,rfl,ř.of č,h5.same (Same.upd h3) ps vs⟩
 have q:=(m1.freeze h2 h4 h3 m2).yI (i:=i) (s:=.sh (.lst ps)) rfl (show ŏ K c _ H _ (.sh (.lst ps)) from⟨.ref a,by rw[h1];rfl,rp⟩)
 rw[List.set_set] at q
 exact⟨a,vs,h1,h3,rp,q⟩
def yJ.mono{F1 H1:Hp}{p:PV}{v:V}(h:yJ K F H p v)(sF:Same F F1)(sH:Same H H1):yJ K F1 H1 p v:=by
 cases p with
 |lst ps=>
  obtain⟨a,vs,h2,h3,h4⟩:=h
  exact⟨a,vs,h2,sH _ _ h3,h4.same sF ps vs⟩
 |ins C ns ps=>
  obtain⟨a,dx,fs,h2,h3,h4,h5⟩:=h
  exact⟨a,dx,fs,h2,sH _ _ h3,h4,h5.same sF ps _⟩
 |_=>exact h.elim
theorem rR.mono{c:Ctx}{σ:L2.St}{ρ ρ':Ĳ}{F1 H1:Hp}{p:PV}{v:V}(h:rR K c σ ρ F H p v)(sF:Same F F1)(sH:Same H H1):rR K c σ ρ' F1 H1 p v:=by
 rcases h with h|h
 ·exact .inl (h.same sF p v)
 ·exact .inr (h.mono sF sH)
theorem rR.lst{c:Ctx}{σ:L2.St}{ρ:Ĳ}{ps:List PV}{v:V}(s:Same F H)(h:rR K c σ ρ F H (.lst ps) v):∃a vs,v=.ref a/\ř K.K H a vs/\Ć K F ps vs:=by
 rcases h with h|⟨a,vs,h2,h3,h4⟩
 ·unfold Rep at h
  obtain⟨a,xs,h1,h2,h3⟩:=h
  exact⟨a,xs,h1,s.seq h2,h3⟩
 ·exact⟨a,vs,h2,ř.of h3,h4⟩
theorem rR.tup{c:Ctx}{σ:L2.St}{ρ:Ĳ}{ps:List PV}{v:V}(s:Same F H)(h:rR K c σ ρ F H (.tup ps) v):∃a vs,v=.ref a/\aG K.K H a vs/\Ć K F ps vs:=by
 rcases h with h|h
 ·unfold Rep at h
  obtain⟨a,xs,h1,h2,h3⟩:=h
  exact⟨a,xs,h1,aG.of (s _ _ h2),h3⟩
 ·exact h.elim
theorem rR.int{c:Ctx}{σ:L2.St}{ρ:Ĳ}{i:Int}{v:V}(h:rR K c σ ρ F H (.int i) v):v=.int i:=by
 rcases h with h|h
 ·unfold Rep at h;exact h
 ·exact h.elim
theorem rR.str{c:Ctx}{σ:L2.St}{ρ:Ĳ}{i:Str}{v:V}(h:rR K c σ ρ F H (.str i) v):v=.str i:=by
 rcases h with h|h
 ·unfold Rep at h;exact h
 ·exact h.elim
theorem rR.bl{c:Ctx}{σ:L2.St}{ρ:Ĳ}{i:Bool}{v:V}(h:rR K c σ ρ F H (.bl i) v):v=.bl i:=by
 rcases h with h|h
 ·unfold Rep at h;exact h
 ·exact h.elim
theorem rR.non{c:Ctx}{σ:L2.St}{ρ:Ĳ}{v:V}(h:rR K c σ ρ F H .non v):v=.non:=by
 rcases h with h|h
 ·unfold Rep at h;exact h
 ·exact h.elim
theorem rR.ty{c:Ctx}{σ:L2.St}{ρ:Ĳ}{n:String}{v:V}(h:rR K c σ ρ F H (.ty n) v):v=.ty n:=by
 rcases h with h|h
 ·unfold Rep at h;exact h
 ·exact h.elim
theorem Rep.int{i:Int}:Rep K F (.int i) (.int i):=by unfold Rep;rfl
theorem Rep.str{i:Str}:Rep K F (.str i) (.str i):=by unfold Rep;rfl
theorem Rep.bl{i:Bool}:Rep K F (.bl i) (.bl i):=by unfold Rep;rfl
theorem Rep.non:Rep K F .non .non:=by unfold Rep;rfl
end
section
variable{X:Cx}{cm:String->Addr}{E:L2.St->XK}{a b e:Expr}{es:List Expr}{pos:Pos}{m ma mb mc:M PV}{mo:M RV}
def PT.wk{t t':TT}(h:PT X e t)(i:∀σ H Q,t' σ H Q->t σ H Q):PT X e t':=λpins s σ H Q I q=>h pins s σ H Q I (i σ H Q q)
def PA.wk{t t':TA}(h:PA X es t)(i:∀σ H Q,t' σ H Q->t σ H Q):PA X es t':=λpos pins s σ H Q I q=>h pos pins s σ H Q I (i σ H Q q)
def PW.wk{t t':TT}(h:PW X e t)(i:∀σ H Q,t' σ H Q->t σ H Q):PW X e t':=λwh pins s σ H Q I q=>h wh pins s σ H Q I (i σ H Q q)
def fY.wk{st:List Stmt}{t t':TS}(h:fY X st t)(i:∀D σ H,t' D σ H->t D σ H):fY X st t':=λpins s σ H D I q=>h pins s σ H D I (i D σ H q)
def v_var(i:Nat){x:Str}{pos:Pos}(hN:X.N[i]?=some x:=by rfl)(hv:qJ X.env.scope x:=by first|exact Or.inl rfl|exact Or.inr (Or.inl rfl)|exact Or.inr (Or.inr rfl))(hd:(x== ("__debug__" :Str))=false:=by decide)
 (hcd:(x== ("__classdict__" :Str))=false:=by decide):PE X (.Name x pos) (tV (kk X cm) E (ē i)):=PE.wk (ş hN hv hd hcd) λσ H Q ⟨c,F,ρ,rel,h⟩=>by
 unfold ē at h
 split at h
 ·rename_i p e
  obtain⟨v,h1,h2⟩:=rel.slot i _ e
  exact⟨v,at_of h1,h v F H rel (Same.refl F) (Same.refl H) h2⟩
 ·rename_i ps e
  obtain⟨a,vs,h1,h2,h3,h4⟩:=rel.share e
  exact⟨.ref a,h1,h _ _ H h4 (Same.upd h2) (Same.refl H) h3⟩
 ·exact h.elim
def ā(i:Nat){x:Str}{pos:Pos}(hN:X.N[i]?=some x:=by rfl)(hv:qJ X.env.scope x:=by first|exact Or.inl rfl|exact Or.inr (Or.inl rfl)|exact Or.inr (Or.inr rfl))(hd:(x== ("__debug__" :Str))=false:=by decide)
 (hcd:(x== ("__classdict__" :Str))=false:=by decide):PE X (.Name x pos) (tR (kk X cm) E (Ā i)):=PE.wk (ş hN hv hd hcd) λσ H Q ⟨c,F,ρ,rel,h⟩=>by
 unfold Ā at h
 split at h
 ·rename_i p e
  obtain⟨v,h1,h2⟩:=rel.slot i _ e
  exact⟨v,at_of h1,h v F H rel (Same.refl F) (Same.refl H) (.inl h2)⟩
 ·rename_i ps e
  obtain⟨a,vs,h1,h2,h3,h4,h5,_⟩:=rel.ow e
  exact⟨.ref a,h1,h _ F H rel (Same.refl F) (Same.refl H) (.inr ⟨a,vs,rfl,h2,h5⟩)⟩
 ·rename_i ps e
  obtain⟨a,vs,h1,h2,h3⟩:=rel.slot i _ e
  exact⟨.ref a,at_of h1,h _ F H rel (Same.refl F) (Same.refl H) (.inr ⟨a,vs,rfl,(rel.lent a _ h2).1,h3⟩)⟩
 ·rename_i C ns ps e
  obtain⟨a,dx,fs,h1,h2,h3,h4,h5,h6⟩:=rel.slot i _ e
  exact⟨.ref a,at_of h1,h _ F H rel (Same.refl F) (Same.refl H) (.inr ⟨a,dx,fs,rfl,h2,h5,h6.1⟩)⟩
 ·exact h.elim
def pR(i:Nat){x:Str}{pos:Pos}(hN:X.N[i]?=some x:=by rfl)(hv:qJ X.env.scope x:=by first|exact Or.inl rfl|exact Or.inr (Or.inl rfl)|exact Or.inr (Or.inr rfl))(hd:(x== ("__debug__" :Str))=false:=by decide)
 (hcd:(x== ("__classdict__" :Str))=false:=by decide):PE X (.Name x pos) (tO (kk X cm) E (gB i)):=PE.wk (ş hN hv hd hcd) λσ H Q ⟨c,F,ρ,rel,h⟩=>by
 unfold gB at h
 split at h
 ·rename_i p e
  obtain⟨v,h1,h2⟩:=rel.slot i _ e
  exact⟨v,at_of h1,h v F H rel (Same.refl F) (Same.refl H) h2⟩
 ·rename_i ps e
  obtain⟨a,vs,h1,h2,h3,h4,h5,h6⟩:=rel.ow e
  obtain⟨m1,m2⟩:=rel.move h6
  exact⟨.ref a,h1,h _ F H m1 (Same.refl F) (Same.refl H) ⟨a,vs,rfl,h2,h3,h4,m2,h5⟩⟩
 ·exact h.elim
def tQ{v:V}(p:PV)(h:PE X e (tC v))(hr:∀F,Rep (kk X cm) F p v:=by intro _;unfold Rep;rfl):PE X e (tV (kk X cm) E (mC p)):=PE.wk h λσ H Q ⟨c,F,ρ,rel,h⟩=>h v F H rel (Same.refl F) (Same.refl H) (hr F)
def Ķ{i j pos}:PE X (.Constant (.int i) j pos) (tV (kk X cm) E (mC (.int i))):=tQ _ qK
def Sx{i j pos}:PE X (.Constant (.bool i) j pos) (tV (kk X cm) E (mC (.bl i))):=tQ _ Wy
def uD{j pos}:PE X (.Constant .none j pos) (tV (kk X cm) E (mC .non)):=tQ _ QM
def aL{x j pos}:PE X (.Constant (.str x) j pos) (tV (kk X cm) E (mC (.str x))):=tQ _ QS
def Ġ(h:PE X e (tV (kk X cm) E m)):PE X e (tR (kk X cm) E m):=PE.wk h λσ H Q ⟨c,F,ρ,rel,h⟩=>⟨c,F,ρ,rel,h.rel λ_ _ _ _ _ _ q=>.inl q⟩
def bJ(h:PE X e (tV (kk X cm) E m)):PE X e (tO (kk X cm) E (Ś m)):=PE.wk h λσ H Q ⟨c,F,ρ,rel,h⟩=>⟨c,F,ρ,rel,h.bind λp ρ1 v F1 H1 ć s1 s2 q h1=>h1 v F1 H1 ć (Same.refl _) (Same.refl _) q⟩
def Held.share{K:KK}{c:Ctx}{F H:Hp}{σ:L2.St}{ρ:Ĳ}{ps:List PV}{v:V}(rel:Rel K c F H σ ρ)(h:Held K c σ ρ F H ps v):∃F1,Same F F1/\Rel K c F1 H σ ρ/\Rep K F1 (.lst ps) v:=by
 obtain⟨a,vs,rfl,h1,h2,h3,h4,h5⟩:=h
 refine⟨_,Same.upd h2,rel.freeze h1 h3 h2 h4,?_⟩
 unfold Rep
 exact⟨a,vs,rfl,ř.of č,h5.same (Same.upd h2) ps vs⟩
def yK.share{K:KK}{c:Ctx}{F H:Hp}{σ:L2.St}{ρ:Ĳ}{ps qs rs:List PV}{v:V}(rel:Rel K c F H σ ρ)(h:yK K c σ ρ F H ps qs rs v):∃F1,Same F F1/\Rel K c F1 H σ ρ/\Rep K F1 (.tup (ps ++ .lst qs::rs)) v:=by
 obtain⟨p,a,xs,vs,ys,rfl,h0,hx,h1,h2,h3,h4,h5,h6⟩:=h
 refine⟨_,Same.upd h2,rel.freeze h1 h3 h2 h4,?_⟩
 have ra:Rep K (upd F a (.lst vs)) (.lst qs) (.ref a):=by
  unfold Rep
  exact⟨a,vs,rfl,ř.of č,h5.same (Same.upd h2) qs vs⟩
 unfold Rep
 exact⟨p,_,rfl,Same.upd h2 _ _ h0,Ć.append (hx.same (Same.upd h2) ps xs) (Ć.cons ra (h6.same (Same.upd h2) rs ys))⟩
def uz.share{K:KK}{c:Ctx}{F H:Hp}{σ:L2.St}{ρ:Ĳ}{ps qs rs ts:List PV}{v:V}(rel:Rel K c F H σ ρ)(h:uz K c σ ρ F H ps qs rs ts v):∃F1,Same F F1/\Rel K c F1 H σ ρ/\Rep K F1 (.tup (ps ++ .lst qs::(rs ++ [.lst ts]))) v:=by
 obtain⟨p,a,b,xs,vs,ys,us,rfl,h0,hx,hy,⟨k1,k2,k3,k4,k5⟩,⟨l1,l2,l3,l4,l5⟩,hab⟩:=h
 have r1:=rel.freeze k1 k3 k2 k4
 have hb:upd F a (.lst vs) b=none:=by rw[Ċ (Ne.symm hab)];exact l2
 have r2:=r1.freeze l1 l3 hb (rel.bx (Same.upd k2) l4)
 have s1:Same F (upd (upd F a (.lst vs)) b (.lst us)):=(Same.upd k2).trans (Same.upd hb)
 refine⟨_,s1,r2,?_⟩
 have ra:Rep K (upd (upd F a (.lst vs)) b (.lst us)) (.lst qs) (.ref a):=by
  unfold Rep
  exact⟨a,vs,rfl,ř.of (Same.upd hb _ _ č),k5.same s1 qs vs⟩
 have rb:Rep K (upd (upd F a (.lst vs)) b (.lst us)) (.lst ts) (.ref b):=by
  unfold Rep
  exact⟨b,us,rfl,ř.of č,l5.same s1 ts us⟩
 unfold Rep
 exact⟨p,_,rfl,s1 _ _ h0,Ć.append (hx.same s1 ps xs) (Ć.cons ra (Ć.append (hy.same s1 rs ys) (Ć.cons rb Ć.nil)))⟩
def į(h:PE X e (tO (kk X cm) E mo)):PE X e (tV (kk X cm) E (Ę mo)):=PE.wk h λσ H Q ⟨c,F,ρ,rel,h⟩=>⟨c,F,ρ,rel,h.bind λr ρ1 v F1 H1 ć s1 s2 q h1=>by
 cases r with
 |sh p=>exact h1 v F1 H1 ć (Same.refl _) (Same.refl _) q
 |ow ps=>
  obtain⟨F2,s3,Ğ,rp⟩:=Held.share ć q
  exact h1 v F2 H1 Ğ s3 (Same.refl _) rp
 |ot ps qs rs=>
  obtain⟨F2,s3,Ğ,rp⟩:=yK.share ć q
  exact h1 v F2 H1 Ğ s3 (Same.refl _) rp
 |o2 ps qs rs ts=>
  obtain⟨F2,s3,Ğ,rp⟩:=uz.share ć q
  exact h1 v F2 H1 Ğ s3 (Same.refl _) rp⟩
def Ą(f:PV->PV->Option PV)(ma mb:M PV):M PV:=λρ=>(ma ρ).bind λp ρ1=>(mb ρ1).bind λq ρ2=>Res.kZ (f p q) ρ2
def ĥ(f:PV->PV->Option RV)(ma mb:M PV):M RV:=λρ=>(ma ρ).bind λp ρ1=>(mb ρ1).bind λq ρ2=>Res.kZ (f p q) ρ2
def jy(K:KK)(r:R2)(f:PV->PV->Option PV):Prop:=∀{c:Ctx} {F H:Hp} {σ:L2.St} {ρ:Ĳ} {p q pv:PV} {v u:V} {Q:VK},Rel K c F H σ ρ->rR K c σ ρ F H p v->rR K c σ ρ F H q u->f p q=some pv->
 (∀z F' H',Rel K c F' H' σ ρ->Same F F'->Same H H'->Rep K F' pv z->Q z H')->r v u H Q
def OpO(K:KK)(r:R2)(f:PV->PV->Option RV):Prop:=∀{c:Ctx} {F H:Hp} {σ:L2.St} {ρ:Ĳ} {p q:PV} {pv:RV} {v u:V} {Q:VK},Rel K c F H σ ρ->rR K c σ ρ F H p v->rR K c σ ρ F H q u->f p q=some pv->
 (∀z F' H',Rel K c F' H' σ ρ->Same F F'->Same H H'->rO K c σ ρ F' H' pv z->Q z H')->r v u H Q
def yL{r:R2}{f:PV->PV->Option PV}(hf:jy (kk X cm) r f){σ:L2.St}{H:Hp}{Q:VK}(h:tV (kk X cm) E (Ą f ma mb) σ H Q):LR r (tR (kk X cm) E ma) (tR (kk X cm) E mb) σ H Q:=by
 obtain⟨c,F,ρ,rel,h⟩:=h
 refine⟨c,F,ρ,rel,h.bind λp ρ1 v F1 H1 ć _ _ r1 h1=>⟨c,F1,ρ1,ć,h1.bind λq ρ2 u F2 H2 Ğ sF sH r2 h2=>?_⟩⟩
 cases e:f p q with
 |none=>rw[e] at h2;exact h2.elim
 |some pv=>rw[e] at h2;exact hf Ğ (r1.mono sF sH) r2 e λz F' H' ŋ s1 s2 q'=>h2 z F' H' ŋ s1 s2 q'
def XC{r:R2}{f:PV->PV->Option RV}(hf:OpO (kk X cm) r f){σ:L2.St}{H:Hp}{Q:VK}(h:tO (kk X cm) E (ĥ f ma mb) σ H Q):LR r (tR (kk X cm) E ma) (tR (kk X cm) E mb) σ H Q:=by
 obtain⟨c,F,ρ,rel,h⟩:=h
 refine⟨c,F,ρ,rel,h.bind λp ρ1 v F1 H1 ć _ _ r1 h1=>⟨c,F1,ρ1,ć,h1.bind λq ρ2 u F2 H2 Ğ sF sH r2 h2=>?_⟩⟩
 cases e:f p q with
 |none=>rw[e] at h2;exact h2.elim
 |some pv=>rw[e] at h2;exact hf Ğ (r1.mono sF sH) r2 e λz F' H' ŋ s1 s2 q'=>h2 z F' H' ŋ s1 s2 q'
def aM{op:Operator}{r:R2}{f:PV->PV->Option PV}(hf:jy (kk X cm) r f)(ho:ţ X (binaryOp op) r)(ha:PE X a (tR (kk X cm) E ma))(hb:PE X b (tR (kk X cm) E mb)):PE X (.BinOp a op b pos) (tV (kk X cm) E (Ą f ma mb)):=PE.wk (L_ ho ha hb) λ_ _ _ h=>yL hf h
def XD{op:Operator}{r:R2}{f:PV->PV->Option RV}(hf:OpO (kk X cm) r f)(ho:ţ X (binaryOp op) r)(ha:PE X a (tR (kk X cm) E ma))(hb:PE X b (tR (kk X cm) E mb)):PE X (.BinOp a op b pos) (tO (kk X cm) E (ĥ f ma mb)):=PE.wk (L_ ho ha hb) λ_ _ _ h=>XC hf h
def uE{op:CmpOp}{r:R2}{f:PV->PV->Option PV}(hf:jy (kk X cm) r f)(ho:ţ X (compareOp op) r)(ha:PE X a (tR (kk X cm) E ma))(hb:PE X b (tR (kk X cm) E mb))(hm:behindInMarks op b=false):PE X (.Compare a [op] [b] pos) (tV (kk X cm) E (Ą f ma mb)):=
 PE.wk (Ji ho ha hb hm) λ_ _ _ h=>yL hf h
def ZbY{r:R2}{f:PV->PV->Option PV}(hf:jy (kk X cm) r f)(hr:wH X r)(ha:PE X a (tR (kk X cm) E ma))(hb:PE X b (tR (kk X cm) E mb))(hs:kO b):PE X (.Subscript a b pos) (tV (kk X cm) E (Ą f ma mb)):=
 PE.wk (yx hr ha hb hs) λ_ _ _ h=>yL hf h
def JK(f:PV->Option PV)(ma:M PV):M PV:=λρ=>(ma ρ).bind λp ρ1=>Res.kZ (f p) ρ1
def UnV(K:KK)(r:V->Hp->VK->Prop)(f:PV->Option PV):Prop:=∀{c:Ctx} {F H:Hp} {σ:L2.St} {ρ:Ĳ} {p pv:PV} {v:V} {Q:VK},Rel K c F H σ ρ->rR K c σ ρ F H p v->f p=some pv->
 (∀z F' H',Rel K c F' H' σ ρ->Same F F'->Same H H'->Rep K F' pv z->Q z H')->r v H Q
def ZbZ{op:UnaryOp}{r:V->Hp->VK->Prop}{f:PV->Option PV}(hf:UnV (kk X cm) r f)(ho:Jg X (unaryOp op) r)(ha:PE X a (tR (kk X cm) E ma)):PE X (.UnaryOp op a pos) (tV (kk X cm) E (JK f ma)):=PE.wk (Ma ho ha) λσ H Q ⟨c,F,ρ,rel,h⟩=>
 ⟨c,F,ρ,rel,h.bind fun p ρ1 v F1 H1 ć _ _ r1 h1=>by
   cases e:f p with
   |none=>rw[e] at h1;exact h1.elim
   |some pv=>rw[e] at h1;exact hf ć r1 e λz F' H' ŋ s1 s2 q'=>h1 z F' H' ŋ s1 s2 q'⟩
def Sy:PV->Option Bool
 | .bl b=>some b
 | .int i=>some (i != 0)
 | .non=>some false
 | .str y=>if y.length<=sizeLine then some ((y.length:Int) != 0) else none
 | .lst ps=>some (!ps.isEmpty)
 | .tup ps=>some (!ps.isEmpty)
 |_=>none
def jV(m:M PV):M Bool:=λρ=>(m ρ).bind λp ρ1=>Res.kZ (Sy p) ρ1
def XF{K:KK}{c:Ctx}{F H:Hp}{σ:L2.St}{ρ:Ĳ}{p:PV}{v:V}{k:Bool}(s:Same F H)(r:rR K c σ ρ F H p v)(h:Sy p=some k):Rt K.K v H k:=by
 cases p with
 |bl b=>cases r.bl;cases h;rfl
 |int i=>cases r.int;cases h;rfl
 |non=>cases r.non;cases h;rfl
 |str y=>
  cases r.str
  have h':(if y.length<=sizeLine then some ((y.length:Int) != 0) else none)=some k:=h
  split at h'
  ·rename_i hy;cases h';exact⟨hy,rfl⟩
  ·cases h'
 |lst ps=>
  obtain⟨a,vs,rfl,h1,h2⟩:=r.lst s
  cases h
  have e:ps.isEmpty=vs.isEmpty:=by cases h2.pr<;>rfl
  exact .inl ⟨vs,h1,by rw[e]⟩
 |tup ps=>
  obtain⟨a,vs,rfl,h1,h2⟩:=r.tup s
  cases h
  have e:ps.isEmpty=vs.isEmpty:=by cases h2.pr<;>rfl
  exact .inr (.inl ⟨vs,h1,by rw[e]⟩)
 |ins C ns ps=>cases h
 |xc C ns ps=>cases h
 |ty n=>cases h
 |cls C=>cases h
def eN(ha:PE X a (tR (kk X cm) E ma))(he:∀whole,isTrue a X.env whole=(do let v <-whole;standAt a.pos;holding [v] (truthy v)):=by intro _;rfl):PT X a (tB (kk X cm) E (jV ma)):=PT.wk (CT ha he) λσ H Q ⟨c,F,ρ,rel,h⟩=>
 ⟨c,F,ρ,rel,h.bind fun p ρ1 v F1 H1 ć _ _ r1 h1=>by
   cases e:Sy p with
   |none=>rw[e] at h1;exact h1.elim
   |some k=>rw[e] at h1;exact⟨k,XF ć.sub r1 e,h1 k F1 H1 ć (Same.refl _) (Same.refl _) rfl⟩⟩
def cF(m:M PV):M Bool:=λρ=>(m ρ).bind λp ρ1=>match p with
 | .bl b=>.ok b ρ1
 |_=>.bad
def Mi{σ:L2.St}{H:Hp}{Q:Bool->Hp->Prop}(h:tB (kk X cm) E (cF m) σ H Q):M2.Dh (tV (kk X cm) E m) σ H Q:=by
 obtain⟨c,F,ρ,rel,h⟩:=h
 refine⟨c,F,ρ,rel,h.bind λp ρ1 v F1 H1 ć _ _ r1 h1=>?_⟩
 cases p with
 |bl b=>
  have e:v=.bl b:=by have r1':Rep (kk X cm) F1 (.bl b) v:=r1;unfold Rep at r1';exact r1'
  subst e
  exact h1 b F1 H1 ć (Same.refl _) (Same.refl _) rfl
 |_=>exact h1.elim
def cZ{op:CmpOp}{r:R2}{f:PV->PV->Option PV}(hf:jy (kk X cm) r f)(ho:ţ X (compareOp op) r)(ha:PE X a (tR (kk X cm) E ma))(hb:PE X b (tR (kk X cm) E mb))(hm:behindInMarks op b=false):PT X (.Compare a [op] [b] pos) (tB (kk X cm) E (cF (Ą f ma mb))):=
 PT.wk (RK ho ha hb hm) fun σ H Q h=>by
   obtain⟨c,F,ρ,rel,h⟩:=Mi h
   exact yL hf ⟨c,F,ρ,rel,h⟩
def lY(f g:PV->PV->Option PV)(ma mb mc:M PV):M PV:=λρ=>(ma ρ).bind λp ρ1=>(mb ρ1).bind λq ρ2=>(Res.kZ (f p q) ρ2).bind λz ρ3=>match z with
 | .bl true=>(mc ρ3).bind λw ρ4=>Res.kZ (g q w) ρ4
 | .bl false=>.ok (.bl false) ρ3
 |_=>.bad
def Mj{r r':R2}{f g:PV->PV->Option PV}(hf:jy (kk X cm) r f)(hg:jy (kk X cm) r' g){σ:L2.St}{H:Hp}{Q:VK}(h:tV (kk X cm) E (lY f g ma mb mc) σ H Q):M2.wI r r' (tR (kk X cm) E ma) (tR (kk X cm) E mb) (tR (kk X cm) E mc) σ H Q:=by
 obtain⟨c,F,ρ,rel,h⟩:=h
 refine⟨c,F,ρ,rel,h.bind λp ρ1 v F1 H1 ć _ _ r1 h1=>⟨c,F1,ρ1,ć,h1.bind λq ρ2 u F2 H2 Ğ sF sH r2 h2=>?_⟩⟩
 cases e:f p q with
 |none=>rw[e] at h2;exact h2.elim
 |some pv=>
  rw[e] at h2
  refine hf Ğ (r1.mono sF sH) r2 e λz F' H' ŋ s1 s2 q'=>?_
  cases pv with
  |bl k=>
   have ez:z=.bl k:=by unfold Rep at q';exact q'
   subst ez
   cases k with
   |false=>exact h2 _ F' H' ŋ s1 s2 q'
   |true=>
    refine⟨c,F',ρ2,ŋ,Ŷ.bind (Ŷ.mono h2 s1 s2) λw ρ4 x F4 H4 uF s3 s4 r4 h4=>?_⟩
    cases e':g q w with
    |none=>rw[e'] at h4;exact h4.elim
    |some pv'=>rw[e'] at h4;exact hg uF (r2.mono (s1.trans s3) (s2.trans s4)) r4 e' λz F' H' ŋ s1 s2 q'=>h4 z F' H' ŋ s1 s2 q'
  |_=>exact h2.elim
def uG{op op':CmpOp}{r r':R2}{f g:PV->PV->Option PV}{c:Expr}(hf:jy (kk X cm) r f)(hg:jy (kk X cm) r' g)(ho:ţ X (compareOp op) r)(ho':ţ X (compareOp op') r')(ha:PE X a (tR (kk X cm) E ma))(hb:PE X b (tR (kk X cm) E mb))(hc:PE X c (tR (kk X cm) E mc))
 (hm:lastMarks [op,op'] [b,c]=false:=by with_unfolding_all rfl):PE X (.Compare a [op,op'] [b,c] pos) (tV (kk X cm) E (lY f g ma mb mc)):=PE.wk (Di ho ho' ha hb hc hm) λ_ _ _ h=>Mj hf hg h
def Ml{op op':CmpOp}{r r':R2}{f g:PV->PV->Option PV}{c:Expr}(hf:jy (kk X cm) r f)(hg:jy (kk X cm) r' g)(ho:ţ X (compareOp op) r)(ho':ţ X (compareOp op') r')(ha:PE X a (tR (kk X cm) E ma))(hb:PE X b (tR (kk X cm) E mb))(hc:PE X c (tR (kk X cm) E mc))
 (hm:lastMarks [op,op'] [b,c]=false:=by with_unfolding_all rfl):PT X (.Compare a [op,op'] [b,c] pos) (tB (kk X cm) E (cF (lY f g ma mb mc))):=PT.wk (Dj ho ho' ha hb hc hm) λσ H Q h=>by
 obtain⟨c,F,ρ,rel,h⟩:=Mi h
 exact Mj hf hg ⟨c,F,ρ,rel,h⟩
def pU(m:M Bool):M Bool:=λρ=>(m ρ).bind λb ρ1=>.ok (!b) ρ1
def yM{m:M Bool}(h:PT X a (tB (kk X cm) E m)):PT X (.UnaryOp .Not a pos) (tB (kk X cm) E (pU m)):=PT.wk (QX h) λσ H Q ⟨c,F,ρ,rel,h⟩=>
 ⟨c,F,ρ,rel,h.bind λp ρ1 v F1 H1 ć _ _ r1 h1=>h1 _ F1 H1 ć (Same.refl _) (Same.refl _) (by have e:p=v:=r1;rw[e];rfl)⟩
def jz(ma mb:M Bool):M Bool:=λρ=>(ma ρ).bind λb ρ1=>if b=true then mb ρ1 else .ok false ρ1
def Eb(ma mb:M Bool):M Bool:=λρ=>(ma ρ).bind λb ρ1=>if b=true then .ok true ρ1 else mb ρ1
variable{ta tb:M Bool}{rest:List Expr}
def iQ(h:PT X a (tB (kk X cm) E ta)):PW X (.BoolOp .And [a] pos) (tB (kk X cm) E ta):=Ja h
def Ec(h:PT X a (tB (kk X cm) E ta)):PW X (.BoolOp .Or [a] pos) (tB (kk X cm) E ta):=QV h
def w_and(ha:PT X a (tB (kk X cm) E ta))(hb:PW X (.BoolOp .And (b::rest) pos) (tB (kk X cm) E tb)):PW X (.BoolOp .And (a::b::rest) pos) (tB (kk X cm) E (jz ta tb)):=PW.wk (QW ha hb) λσ H Q ⟨c,F,ρ,rel,h⟩=>
 ⟨c,F,ρ,rel,h.bind fun p ρ1 v F1 H1 ć _ _ r1 h1=>by
   have e:p=v:=r1
   subst e
   cases p with
   |true=>exact⟨c,F1,ρ1,ć,h1⟩
   |false=>exact h1 false F1 H1 ć (Same.refl _) (Same.refl _) rfl⟩
def w_or(ha:PT X a (tB (kk X cm) E ta))(hb:PW X (.BoolOp .Or (b::rest) pos) (tB (kk X cm) E tb)):PW X (.BoolOp .Or (a::b::rest) pos) (tB (kk X cm) E (Eb ta tb)):=PW.wk (WD ha hb) λσ H Q ⟨c,F,ρ,rel,h⟩=>
 ⟨c,F,ρ,rel,h.bind fun p ρ1 v F1 H1 ć _ _ r1 h1=>by
   have e:p=v:=r1
   subst e
   cases p with
   |false=>exact⟨c,F1,ρ1,ć,h1⟩
   |true=>exact h1 true F1 H1 ć (Same.refl _) (Same.refl _) rfl⟩
def cj(ma mb:M PV):M PV:=λρ=>(ma ρ).bind λp ρ1=>match p with
 | .bl true=>mb ρ1
 | .bl false=>.ok (.bl false) ρ1
 |_=>.bad
def SJ(ma:M PV):M PV:=λρ=>(ma ρ).bind λp ρ1=>match p with
 | .bl b=>.ok (.bl (!b)) ρ1
 |_=>.bad
def qX{K:KK}{F:Hp}{b:Bool}{v:V}(h:Rep K F (.bl b) v):v=.bl b:=by unfold Rep at h;exact h
def eO{op}(h:PE X a (tV (kk X cm) E ma)):PE X (.BoolOp op [a] pos) (tV (kk X cm) E ma):=QZ h
def v_and(ha:PE X a (tV (kk X cm) E ma))(hb:PE X (.BoolOp .And (b::rest) pos) (tV (kk X cm) E mb)):PE X (.BoolOp .And (a::b::rest) pos) (tV (kk X cm) E (cj ma mb)):=PE.wk (RL ha hb) λσ H Q ⟨c,F,ρ,rel,h⟩=>
 ⟨c,F,ρ,rel,h.bind fun p ρ1 v F1 H1 ć _ _ r1 h1=>by
   cases p with
   |bl k=>
    cases qX r1
    cases k with
    |true=>exact⟨c,F1,ρ1,ć,h1⟩
    |false=>exact h1 _ F1 H1 ć (Same.refl _) (Same.refl _) r1
   |_=>exact h1.elim⟩
def v_not(ha:PE X a (tV (kk X cm) E ma)):PE X (.UnaryOp .Not a pos) (tV (kk X cm) E (SJ ma)):=PE.wk (RM ha) λσ H Q ⟨c,F,ρ,rel,h⟩=>
 ⟨c,F,ρ,rel,h.bind fun p ρ1 v F1 H1 ć _ _ r1 h1=>by
   cases p with
   |bl k=>
    cases qX r1
    exact h1 _ F1 H1 ć (Same.refl _) (Same.refl _) Rep.bl
   |_=>exact h1.elim⟩
def dW{α:Type}(t:M Bool)(ma mb:M α):M α:= λρ=>(t ρ).bind λb ρ1=>if b=true then ma ρ1 else mb ρ1
def Ė:M (List PV):=λρ=>.ok [] ρ
def ă(ma:M PV)(mr:M (List PV)):M (List PV):=λρ=>(ma ρ).bind λp ρ1=>(mr ρ1).bind λps ρ2=>.ok (p::ps) ρ2
variable{mr:M (List PV)}
def ĕ:PA X [] (tL (kk X cm) E Ė):=PA.wk cW λσ H Q ⟨c,F,ρ,rel,h⟩=>h [] F H rel (Same.refl _) (Same.refl _) Ć.nil
def ą(ha:PE X e (tV (kk X cm) E ma))(hr:PA X es (tL (kk X cm) E mr))(hs:starEach (e::es) X.env=(false,eval e X.env)::starEach es X.env:=by exact Ŗ rfl):PA X (e::es) (tL (kk X cm) E (ă ma mr)):=PA.wk (ŕ ha hr hs) λσ H Q ⟨c,F,ρ,rel,h⟩=>
 ⟨c,F,ρ,rel,h.bind λp ρ1 v F1 H1 ć _ _ r1 h1=>⟨c,F1,ρ1,ć,h1.bind λps ρ2 vs F2 H2 Ğ sF sH r2 h2=>h2 _ F2 H2 Ğ (Same.refl _) (Same.refl _) (Ć.cons (Rep.same sF p v r1) r2)⟩⟩
def ħ:PA X [] (Mh (kk X cm) E Ė):=PA.wk cW λσ H Q ⟨c,F,ρ,rel,h⟩=>h [] F H rel (Same.refl _) (Same.refl _) .nil
def Đ(ha:PE X e (tR (kk X cm) E ma))(hr:PA X es (Mh (kk X cm) E mr))(hs:starEach (e::es) X.env=(false,eval e X.env)::starEach es X.env:=by exact Ŗ rfl):PA X (e::es) (Mh (kk X cm) E (ă ma mr)):=PA.wk (ŕ ha hr hs) λσ H Q ⟨c,F,ρ,rel,h⟩=>
 ⟨c,F,ρ,rel,h.bind λp ρ1 v F1 H1 ć _ _ r1 h1=>⟨c,F1,ρ1,ć,h1.bind λps ρ2 vs F2 H2 Ğ sF sH r2 h2=>h2 _ F2 H2 Ğ (Same.refl _) (Same.refl _) (.cons (rR.mono r1 sF sH) r2)⟩⟩
def Ě:M (List Slot):=λρ=>.ok [] ρ
def Ĥ(ma:M PV)(mr:M (List Slot)):M (List Slot):=λρ=>(ma ρ).bind λp ρ1=>(mr ρ1).bind λas ρ2=>.ok (.sh p::as) ρ2
def cG:Slot->Option Slot
 | .sh p=>some (.sh p)
 | .ow ps=>some (.bw ps)
 | .bw ps=>some (.bw ps)
 |_=>none
def ĉ(i:Nat)(mr:M (List Slot)):M (List Slot):=λρ=>match(ρ[i]?).bind cG with
 |none=>.bad
 |some _=>(mr ρ).bind λas ρ2=>match(ρ2[i]?).bind cG with
  |some s=>.ok (s::as) ρ2
  |none=>.bad
variable{ms:M (List Slot)}
def đ:PA X [] (tA (kk X cm) E Ě):=PA.wk cW λσ H Q ⟨c,F,ρ,rel,h⟩=>h [] F H rel (Same.refl _) (Same.refl _) .nil
def ġ(ha:PE X e (tV (kk X cm) E ma))(hr:PA X es (tA (kk X cm) E ms))(hs:starEach (e::es) X.env=(false,eval e X.env)::starEach es X.env:=by exact Ŗ rfl):PA X (e::es) (tA (kk X cm) E (Ĥ ma ms)):=PA.wk (ŕ ha hr hs) λσ H Q ⟨c,F,ρ,rel,h⟩=>
 ⟨c,F,ρ,rel,h.bind λp ρ1 v F1 H1 ć _ _ r1 h1=>⟨c,F1,ρ1,ć,h1.bind λas ρ2 vs F2 H2 Ğ sF sH r2 h2=>h2 _ F2 H2 Ğ (Same.refl _) (Same.refl _) (.cons (show aJ _ _ _ (.sh p) v from Rep.same sF p v r1) r2)⟩⟩
def yN{K:KK}{c:Ctx}{F H:Hp}{σ:L2.St}{ρ:Ĳ}{i:Nat}{s:Slot}(rel:Rel K c F H σ ρ)(h:(ρ[i]?).bind cG=some s):∃v,σ[i]?=some (some v)/\aJ K F H s v:=by
 cases e:ρ[i]? with
 |none=>rw[e] at h;cases h
 |some sl=>
  rw[e] at h
  have h':cG sl=some s:=h
  cases sl with
  |sh p=>
   cases h'
   obtain⟨v,h1,h2⟩:=rel.slot i _ e
   exact⟨v,at_of h1,h2⟩
  |ow ps=>
   cases h'
   obtain⟨a,vs,h1,h2,h3,h4,h5,_⟩:=rel.ow e
   exact⟨.ref a,h1,a,vs,rfl,h2,h3,h5⟩
  |bw ps=>
   cases h'
   obtain⟨a,vs,h1,h2,h3⟩:=rel.slot i _ e
   exact⟨.ref a,at_of h1,a,vs,rfl,(rel.lent a _ h2).1,(rel.lent a _ h2).2,h3⟩
  |no=>cases h'
  |rc C ns ps=>cases h'
  |ot ps qs rs=>cases h'
  |o2 ps qs rs ts=>cases h'
  |ol Cr=>cases h'
  |od _ _=>cases h'
  |bd _ _=>cases h'
def JL(i:Nat){x:Str}{px:Pos}(hN:X.N[i]?=some x:=by rfl)(hv:qJ X.env.scope x:=by first|exact Or.inl rfl|exact Or.inr (Or.inl rfl)|exact Or.inr (Or.inr rfl))(hd:(x== ("__debug__" :Str))=false:=by decide)
 (hcd:(x== ("__classdict__" :Str))=false:=by decide)(hr:PA X es (tA (kk X cm) E ms))(hs:starEach (.Name x px::es) X.env=(false,eval (.Name x px) X.env)::starEach es X.env:=by exact Ŗ rfl):PA X (.Name x px::es) (tA (kk X cm) E (ĉ i ms)):=
 PA.wk (ŕ (ş hN hv hd hcd) hr hs) fun σ H Q ⟨c,F,ρ,rel,h⟩=>by
   unfold ĉ at h
   cases e:(ρ[i]?).bind cG with
   |none=>rw[e] at h;exact h.elim
   |some s0=>
    rw[e] at h
    obtain⟨v,hv,_⟩:=yN rel e
    refine⟨v,hv,c,F,ρ,rel,Ŷ.bind h λas ρ2 vs F2 H2 Ğ sF sH r2 h2=>?_⟩
    cases e2:(ρ2[i]?).bind cG with
    |none=>simp only[e2] at h2;exact h2.elim
    |some s=>
     simp only[e2] at h2
     obtain⟨v',hv',r1⟩:=yN Ğ e2
     rw[hv] at hv'
     cases hv'
     exact h2 _ F2 H2 Ğ (Same.refl _) (Same.refl _) (.cons r1 r2)
def Ŕ(mr:M (List PV)):M PV:=λρ=>(mr ρ).bind λps ρ1=>if ps.length<=16777216 then .ok (.tup ps) ρ1 else .bad
def dX(mr:M (List PV)):M RV:=λρ=>(mr ρ).bind λps ρ1=>if ps.length<=16777216 then .ok (.ow ps) ρ1 else .bad
def ě:sizeLine=16777216:=sizeLine_eq
def ľ{x1}(h:PA X es (tL (kk X cm) E mr)):PE X (.Tuple es x1 pos) (tV (kk X cm) E (Ŕ mr)):=PE.wk (wF h) λσ H Q ⟨c,F,ρ,rel,h⟩=>
 ⟨c,F,ρ,rel,h.bind fun ps ρ1 vs F1 H1 ć _ _ r1 h1=>by
   split at h1
   ·rename_i hz
    refine⟨by rw[<-Ć.length r1,ě];exact hz,λp hp=>h1 _ _ _ (ć.alloc hp) (Same.upd (ć.sub.free hp)) (Same.upd hp) ?_⟩
    show Rep _ _ _ _
    unfold Rep
    exact⟨p,vs,rfl,č,Ć.same (Same.upd (ć.sub.free hp)) ps vs r1⟩
   ·exact h1.elim⟩
def Ż{K:KK}{c:Ctx}{F H:Hp}{σ:L2.St}{ρ:Ĳ}{ps:List PV}{vs:List V}{a:Addr}(rel:Rel K c F H σ ρ)(ha:H a=none)(r:Ć K F ps vs):Rel K c F (upd H a (.lst vs)) σ ρ/\Held K c σ ρ F (upd H a (.lst vs)) ps (.ref a):=
 ⟨rel.made ha,a,vs,rfl,č,rel.sub.free ha,rel.base.free ha,rel.fresh ha,r⟩
def aN(h:PA X es (tL (kk X cm) E mr)):PE X (.List es pos) (tO (kk X cm) E (dX mr)):=PE.wk (Rx h) λσ H Q ⟨c,F,ρ,rel,h⟩=>
 ⟨c,F,ρ,rel,h.bind fun ps ρ1 vs F1 H1 ć _ _ r1 h1=>by
   split at h1
   ·rename_i hz
    refine⟨by rw[<-Ć.length r1,ě];exact hz,λp hp=>?_⟩
    obtain⟨q1,q2⟩:=Ż ć hp r1
    exact h1 _ _ _ q1 (Same.refl _) (Same.upd hp) q2
   ·exact h1.elim⟩
def iy(f:List PV->Option PV)(mr:M (List PV)):M PV:=λρ=>(mr ρ).bind λps ρ1=>Res.kZ (f ps) ρ1
def qY(f:List PV->Option RV)(mr:M (List PV)):M RV:=λρ=>(mr ρ).bind λps ρ1=>Res.kZ (f ps) ρ1
def jA(K:KK)(r:List V->Hp->VK->Prop)(f:List PV->Option PV):Prop:=∀{c:Ctx} {F H:Hp} {σ:L2.St} {ρ:Ĳ} {ps:List PV} {pv:PV} {vs:List V} {Q:VK},Rel K c F H σ ρ->Xz K c σ ρ F H ps vs->f ps=some pv->
 (∀z F' H',Rel K c F' H' σ ρ->Same F F'->Same H H'->Rep K F' pv z->Q z H')->r vs H Q
def Ed(K:KK)(r:List V->Hp->VK->Prop)(f:List PV->Option RV):Prop:=∀{c:Ctx} {F H:Hp} {σ:L2.St} {ρ:Ĳ} {ps:List PV} {pv:RV} {vs:List V} {Q:VK},Rel K c F H σ ρ->Xz K c σ ρ F H ps vs->f ps=some pv->
 (∀z F' H',Rel K c F' H' σ ρ->Same F F'->Same H H'->rO K c σ ρ F' H' pv z->Q z H')->r vs H Q
def XH{r:List V->Hp->VK->Prop}{f:List PV->Option PV}(hf:jA (kk X cm) r f){σ:L2.St}{H:Hp}{Q:VK}(h:tV (kk X cm) E (iy f mr) σ H Q):tCB r (Mh (kk X cm) E mr) σ H Q:=by
 obtain⟨c,F,ρ,rel,h⟩:=h
 refine⟨c,F,ρ,rel,h.bind λp ρ1 v F1 H1 ć _ _ r1 h1=>?_⟩
 cases e:f p with
 |none=>rw[e] at h1;exact h1.elim
 |some pv=>rw[e] at h1;exact hf ć r1 e λz F' H' ŋ s1 s2 q'=>h1 z F' H' ŋ s1 s2 q'
def Zb0{r:List V->Hp->VK->Prop}{f:List PV->Option RV}(hf:Ed (kk X cm) r f){σ:L2.St}{H:Hp}{Q:VK}(h:tO (kk X cm) E (qY f mr) σ H Q):tCB r (Mh (kk X cm) E mr) σ H Q:=by
 obtain⟨c,F,ρ,rel,h⟩:=h
 refine⟨c,F,ρ,rel,h.bind λp ρ1 v F1 H1 ć _ _ r1 h1=>?_⟩
 cases e:f p with
 |none=>rw[e] at h1;exact h1.elim
 |some pv=>rw[e] at h1;exact hf ć r1 e λz F' H' ŋ s1 s2 q'=>h1 z F' H' ŋ s1 s2 q'
end
end P
namespace P
open PySem PySem.Spec PyProof.Rows L2 M2 M3
def fM:M Fl:=λρ=>.ok .nx ρ
def mCt:M Fl:=λρ=>.ok .ct ρ
def ė(a b:M Fl):M Fl:=λρ=>(a ρ).bind λf ρ1=>match f with
 | .nx=>b ρ1
 |f=>.ok f ρ1
def ĳ(i:Nat)(m:M RV):M Fl:=λρ=>(m ρ).bind λr ρ1=>.ok .nx (ρ1.set i r.slot)
def Į(m:M RV):M Fl:=λρ=>(m ρ).bind λr ρ1=>.ok (.rt r) ρ1
section
variable{X:Cx}{cm:String->Addr}{E:L2.St->XK}{a b e:Expr}{st:Stmt}{rest:List Stmt}{es:List Expr}{pos:Pos}{m1 m2:M Fl}{mo:M RV}{mv:M PV}
def ĭ:fY X [] (tS (kk X cm) E fM):=fY.wk Jb λD σ H ⟨c,F,ρ,rel,h⟩=>h σ F H rel (Same.refl F)
def wM:PS X (.Continue pos) (tS (kk X cm) E mCt):=PS.wk uc λD σ H ⟨c,F,ρ,rel,h⟩=>h σ F H rel (Same.refl F)
def ĩ(h:PS X st (tS (kk X cm) E m1)):fY X [st] (tS (kk X cm) E m1):=Jc h
def JM{c:Ctx}{F:Hp}{D:Ends}{r:Res Fl}(h:š (kk X cm) E c F D (r.bind λf ρ1=>match f with| .nx=>m2 ρ1|f=>.ok f ρ1)):š (kk X cm) E c F {D with nx:=tS (kk X cm) E m2 D} r:=by
 cases r with
 |ok f ρ1=>
  cases f with
  |nx=>exact λσ' F' H' ŋ s=>⟨c,F',ρ1,ŋ,š.mono h s⟩
  |bk=>exact h
  |ct=>exact h
  |rt v=>exact h
 |exc x ρ1=>exact h
 |bad=>exact h
def ċ(h1:PS X st (tS (kk X cm) E m1))(h2:fY X rest (tS (kk X cm) E m2)):fY X (st::rest) (tS (kk X cm) E (ė m1 m2)):=fY.wk (CG h1 h2) λD σ H ⟨c,F,ρ,rel,h⟩=>⟨c,F,ρ,rel,JM h⟩
def XJ{i:Nat}{x:Str}{pos':Pos}(hN:X.N.Nodup)(hi:X.N[i]?=some x)(hx:Loc X.env.scope x)(he:PE X e (tO (kk X cm) E mo))(hs:swapsWith e (some (.Name x pos')) pos.line X.env=pure false:=by rfl)(hf:X.fn x=true\/X.env.scope.names.lookup x=some .local:=by first|exact .inl rfl|exact .inr rfl|assumption) :
 PS X (.Assign [.Name x pos'] e pos) (tS (kk X cm) E (ĳ i mo)):=PS.wk (qM hN hi hx he hs hf) λD σ H ⟨c,F,ρ,rel,h⟩=>⟨c,F,ρ,rel,š.bind h λr ρ1 v F1 H1 ć s1 q h1=>by
 cases r with
 |sh p=>exact h1 _ F1 H1 (ć.put rfl ⟨v,rfl,q⟩) (Same.refl _)
 |ow ps=>
  obtain⟨a,vs,rfl,q1,q2,q3,q4,q5⟩:=q
  exact h1 _ F1 H1 (ć.uy ⟨a,vs,rfl,q1,q2,q3,q5⟩ λ_ z=>V.ref.inj z▸q4) (Same.refl _)
 |ot ps qs rs=>
  obtain⟨p,a,xs,vs,ys,rfl,q0,qx,q1,q2,q3,q4,q5,q6⟩:=q
  exact h1 _ F1 H1 (ć.uy (s:=.ot ps qs rs) ⟨p,a,xs,vs,ys,rfl,q0,qx,q1,q2,q3,q5,q6⟩ λ_ z=>gA (ps:=ps) (qs:=qs) (rs:=rs) z ⟨p,xs,ys,rfl,q0,qx.length.symm⟩▸q4) (Same.refl _)
 |o2 ps qs rs ts=>
  obtain⟨p,a,b,xs,vs,ys,us,rfl,q0,qx,qy,⟨k1,k2,k3,k4,k5⟩,⟨l1,l2,l3,l4,l5⟩,hab⟩:=q
  exact h1 _ F1 H1 (ć.uy (s:=.o2 ps qs rs ts) ⟨p,a,b,xs,vs,ys,us,rfl,q0,qx,qy,⟨k1,k2,k3,k5⟩,⟨l1,l2,l3,l5⟩,hab⟩ λd z=>by
   rcases iK z q0 qx.length.symm with rfl|rfl
   ·exact k4
   ·exact l4) (Same.refl _)⟩
def XM(he:PE X e (tO (kk X cm) E mo)):PS X (.Return (some e) pos) (tS (kk X cm) E (Į mo)):=PS.wk (Q_ he) λD σ H ⟨c,F,ρ,rel,h⟩=>⟨c,F,ρ,rel,š.bind h λr ρ1 v F1 H1 ć s1 q h1=>h1 v σ F1 H1 ć (Same.refl _) q⟩
def ś{t:M Bool}{ss ss':List Stmt}(hc:PT X a (tB (kk X cm) E t))(ha:fY X ss (tS (kk X cm) E m1))(hb:fY X ss' (tS (kk X cm) E m2)):PS X (.If a ss ss' pos) (tS (kk X cm) E (dW t m1 m2)):=PS.wk (WM hc ha hb) λD σ H ⟨c,F,ρ,rel,h⟩=>⟨c,F,ρ,rel,š.bind h λr ρ1 v F1 H1 ć s1 q h1=>by
 have e:r=v:=q
 subst e
 cases r with
 |true=>exact⟨c,F1,ρ1,ć,h1⟩
 |false=>exact⟨c,F1,ρ1,ć,h1⟩⟩
def SN{α:Type}:M α:= λ_=>.bad
def JN:PS X st (tS (kk X cm) E SN):=PS.wk CJ λD σ H ⟨c,F,ρ,rel,h⟩=>h
abbrev Tg:=PV->Ĳ->Option Ĳ
abbrev Cu:=List PV->Ĳ->Option Ĳ
def XQ(K:KK)(c:Ctx)(F H:Hp)(Q:L2.St->Hp->Prop):Option Ĳ->Prop
 |some ρ'=>∀σ',Rel K c F H σ' ρ'->Q σ' H
 |none=>False
def tT(K:KK)(g:Tg):TG:=λv σ H Q=>∃c F ρ p,Rel K c F H σ ρ/\Rep K F p v/\XQ K c F H Q (g p ρ)
def XR(K:KK)(g:Cu):CK:=λv σ H Q=>∃c F ρ p,Rel K c F H σ ρ/\Ć K F p v/\XQ K c F H Q (g p ρ)
def gN(i:Nat):Tg:=λp ρ=>some (ρ.set i (.sh p))
def Ō:Cu:=λps ρ=>match ps with
 | []=>some ρ
 |_=>none
def Č(g:Tg)(gs:Cu):Cu:=λps ρ=>match ps with
 |p::ps=>(g p ρ).bind λρ1=>gs ps ρ1
 | []=>none
def gT(n:Nat)(gs:Cu):Tg:=λp ρ=>match p with
 | .tup ps=>if ps.length=n then gs ps ρ else none
 |_=>none
def PG.wk'{tg:Expr}{t t':TG}(h:PG X tg t)(i:∀v σ H Q,t' v σ H Q->t v σ H Q):PG X tg t':=λpins s σ H v u Q I r q=>h pins s σ H v u Q I r (i v σ H Q q)
def vY.wk{tg:List Expr}{t t':CK}(h:vY X tg t)(i:∀v σ H Q,t' v σ H Q->t v σ H Q):vY X tg t':=λpins s σ H v u Q I r q=>h pins s σ H v u Q I r (i v σ H Q q)
def Ef{i:Nat}{x:Str}(hN:X.N.Nodup)(hi:X.N[i]?=some x)(hx:Loc X.env.scope x)(hf:X.fn x=true\/X.env.scope.names.lookup x=some .local:=by first|exact .inl rfl|exact .inr rfl|assumption):PG X (.Name x pos) (tT (kk X cm) (gN i)):=
 PG.wk' (Jd hN hi hx hf) λv σ H Q ⟨c,F,ρ,p,rel,rp,h⟩=>h _ (rel.put rfl ⟨v,rfl,rp⟩)
def bA:vY X [] (XR (kk X cm) Ō):=vY.wk Je λv σ H Q ⟨c,F,ρ,p,rel,rp,h⟩=>by
 cases p with
 |nil=>
  have e:v=[]:=by have:=rp;unfold Ć at this;exact this
  exact⟨e,h σ rel⟩
 |cons _ _=>exact h.elim
def Ħ{es:List Expr}{g:Tg}{gs:Cu}(h1:PG X e (tT (kk X cm) g))(h2:vY X es (XR (kk X cm) gs))(hs:(assignEach (e::es) X.env).map (·.2)=assign e X.env::(assignEach es X.env).map (·.2):=by rfl):vY X (e::es) (XR (kk X cm) (Č g gs)):=
 vY.wk (CN h1 h2 hs) λv σ H Q ⟨c,F,ρ,p,rel,rp,h⟩=>by
  cases p with
  |nil=>exact h.elim
  |cons p ps=>
   unfold Ć at rp
   obtain⟨x,r,rfl,r1,r2⟩:=rp
   refine⟨x,r,rfl,c,F,ρ,p,rel,r1,?_⟩
   unfold Č at h
   dsimp only at h
   cases eg:g p ρ with
   |none=>rw[eg] at h;exact h.elim
   |some ρ1=>rw[eg] at h;exact λσ' ŋ=>⟨c,F,ρ1,ps,ŋ,r2,h⟩
def lZ{es:List Expr}{k:Nat}{gs:Cu}{n:Nat}(hc:X.calm=true)(h:vY X es (XR (kk X cm) gs))(hn:(assignEach es X.env).length=n:=by rfl)(hst:(assignEach es X.env).findIdx? (·.1)=none:=by rfl):PG X (.Tuple es k pos) (tT (kk X cm) (gT n gs)):=
 PG.wk' (CP hc h hn hst) fun v σ H Q ⟨c,F,ρ,p,rel,rp,h⟩=>by
   cases p with
   |tup ps=>
    unfold Rep at rp
    obtain⟨a,xs,h1,h2,h3⟩:=rp
    unfold gT at h
    dsimp only at h
    split at h
    ·rename_i hl
     exact⟨a,xs,h1,aG.of (rel.sub _ _ h2),by rw[<-h3.length];exact hl,c,F,ρ,ps,rel,h3,h⟩
    ·exact h.elim
   |_=>exact h.elim
def Eh(g:Tg)(m:M PV):M Fl:=λρ=>(m ρ).bind λp ρ1=>match g p ρ1 with
 |some ρ2=>.ok .nx ρ2
 |none=>.bad
def Ei{tg:Expr}{g:Tg}(he:PE X e (tV (kk X cm) E mv))(hg:PG X tg (tT (kk X cm) g))(hs:swapsWithSole [tg] e pos.line X.env=pure false:=by rfl)(hw:swappedStores [tg] e X.env=pure none:=by rfl)
 (h1:(assignEach [tg] X.env).map (·.2)=[assign tg X.env]:=by rfl):PS X (.Assign [tg] e pos) (tS (kk X cm) E (Eh g mv)):=PS.wk (Rb he hg hs hw h1) λD σ H ⟨c,F,ρ,rel,h⟩=>⟨c,F,ρ,rel,š.bind h λr ρ1 v F1 H1 ć s1 q h1=>by
 refine⟨c,F1,ρ1,r,ć,q,?_⟩
 cases eg:g r ρ1 with
 |none=>rw[eg] at h1;exact h1.elim
 |some ρ2=>rw[eg] at h1;exact λσ' ŋ=>h1 σ' F1 H1 ŋ (Same.refl _)⟩
def oV(i:Nat)(m:M PV):M Fl:=λρ=>match ρ[i]? with
 |some (.ow _)=>(m ρ).bind λp ρ1=>match ρ1[i]? with
  |some (.ow ps)=>if ps.length<16777216 then .ok .nx (ρ1.set i (.ow (ps ++ [p]))) else .bad
  |_=>.bad
 |_=>.bad
def cu{i:Nat}{D:Ends}{σ:L2.St}{H:Hp}(h:tS (kk X cm) E (oV i mv) D σ H):yq (tBM X.K "list" kW (lN i) (tL (kk X cm) E (ă mv Ė))) D σ H:=by
 obtain⟨c,F,ρ,rel,h⟩:=h
 unfold oV at h
 cases e1:ρ[i]? with
 |none=>rw[e1] at h;exact h.elim
 |some sl=>
  rw[e1] at h
  cases sl with
  |ow X_=>
   obtain⟨a,vs0,z1,z2,z3,z4,z5,z6⟩:=rel.ow e1
   refine⟨.ref a,z1,.inl ⟨rfl,_,ř.of z2⟩,c,F,ρ,rel,?_⟩
   dsimp only at h
   unfold ă
   cases em:mv ρ with
   |bad=>rw[em] at h;exact h
   |exc x ρ1=>rw[em] at h;exact λC d F' H' ŋ s1 q=>h σ C d F' H' ŋ s1 q
   |ok p ρ1=>
    rw[em] at h
    intro us F1 H1 ć s1 s2 r1
    have r1':Ć (kk X cm) F1 [p] us:=r1
    cases r1'.pr with
    |cons rp t=>
     rename_i v vs'
     cases t
     cases e2:ρ1[i]? with
     |none=>simp only[Res.aK,e2] at h;exact h.elim
     |some sl2=>
      simp only[Res.aK,e2] at h
      cases sl2 with
      |ow ps=>
       obtain⟨a2,vs,w1,w2,w3,w4,w5,w6⟩:=ć.ow e2
       rw[z1] at w1
       cases w1
       dsimp only at h
       split at h
       ·rename_i hz
        refine⟨a,vs,v,rfl,rfl,w2,by rw[<-w5.length,ě];exact hz,h σ F1 _ (ć.write w6 z1 ⟨a,vs ++ [v],rfl,č,w3,w4,Ć.append w5 (Ć.cons rp Ć.nil)⟩ λ_ z=>(V.ref.inj z).symm) s1⟩
       ·exact h.elim
      |_=>exact h.elim
  |_=>exact h.elim
def bK(K:KK)(Lh F:Hp)(J:It)(items:List PV):Prop:=∀(c:Ctx) (i:Nat) (F2 H:Hp) (σ:L2.St) (ρ:Ĳ),Rel K c F2 H σ ρ->Same F F2->Same Lh H->
 (∀p,items[i]?=some p->J.go i H/\∀x H',J.yld i H x H'->∃F3,Rel K c F3 H' σ ρ/\Same F2 F3/\Same H H'/\Rep K F3 p x)/\(i=items.length->J.stop i H)
def rIt(K:KK):RR (List PV) It:=λc _ _ F _ items J=>bK K c.L F J items
abbrev tI(K:KK)(E:L2.St->XK)(m:M (List PV)):TI:=tG K E (rIt K) m
def forL(g:Tg)(mb:M Fl):List PV->M Fl
 | [],ρ=>.ok .nx ρ
 |p::ps,ρ=>match g p ρ with
  |none=>.bad
  |some ρ1=>(mb ρ1).bind λf ρ2=>match f with
   | .nx=>forL g mb ps ρ2
   | .ct=>forL g mb ps ρ2
   | .bk=>.ok .nx ρ2
   | .rt r=>.ok (.rt r) ρ2
def fO(mi:M (List PV))(g:Tg)(mb:M Fl):M Fl:=λρ=>(mi ρ).bind λitems ρ1=>forL g mb items ρ1
def SQ{c:Ctx}{F1 H1:Hp}{σ:L2.St}{ρ1:Ĳ}{D:Ends}{J:It}{items:List PV}{g:Tg}{mb:M Fl}(ć:Rel (kk X cm) c F1 H1 σ ρ1)(ito:bK (kk X cm) c.L F1 J items)(h1:š (kk X cm) E c F1 D (forL g mb items ρ1)):W_ (λ_ H' R=>R J H') (tT (kk X cm) g) (tS (kk X cm) E mb) D σ H1:=by
 refine⟨λi m σ' H'=>∃F2 ρ2,i<=items.length/\m=items.length-i/\Rel (kk X cm) c F2 H' σ' ρ2/\Same F1 F2/\š (kk X cm) E c F2 D (forL g mb (items.drop i) ρ2),⟨_,F1,ρ1,Nat.zero_le _,rfl,ć,Same.refl _,h1⟩,?_⟩
 rintro i m σ2 H2 ⟨F2,ρ2,hle,rfl,Ğ,s2,h2⟩
 obtain⟨go,stop⟩:=ito c i F2 H2 σ2 ρ2 Ğ s2 λb u e=>(Ğ.lent b u e).1
 by_cases hlt:i<items.length
 ·obtain⟨g1,g2⟩:=go items[i] (List.getElem?_eq_getElem hlt)
  rw[List.drop_eq_getElem_cons hlt] at h2
  unfold forL at h2
  refine .inr ⟨g1,_,λσ' H' z=>z,λx H3 hy=>?_⟩
  obtain⟨F3,gC,s3,_,rp⟩:=g2 x H3 hy
  refine⟨c,F3,ρ2,items[i],gC,rp,?_⟩
  cases eg:g items[i] ρ2 with
  |none=>rw[eg] at h2;exact h2.elim
  |some ρ3=>
   rw[eg] at h2
   dsimp only at h2
   intro σ4 uF
   refine⟨c,F3,ρ3,uF,?_⟩
   have nxt:∀{ρ4:Ĳ},š (kk X cm) E c F2 D (forL g mb (items.drop (i+1)) ρ4)->∀σ' F' H',Rel (kk X cm) c F' H' σ' ρ4->Same F3 F'->∃m',m'<items.length-i/\∃F2 ρ2,i+1<=items.length/\m'=items.length-(i+1)/\Rel (kk X cm) c F2 H' σ' ρ2/\Same F1 F2/\š (kk X cm) E c F2 D (forL g mb (items.drop (i+1)) ρ2):=
    fun{ρ4} h3 σ' F' H' ŋ s'=>⟨items.length-(i+1),by omega,F',ρ4,hlt,rfl,ŋ,(s2.trans s3).trans s',š.mono h3 (s3.trans s')⟩
   have h2':=š.mono h2 s3
   cases e2:mb ρ3 with
   |bad=>rw[e2] at h2;exact h2
   |exc x ρ4=>rw[e2] at h2';exact h2'
   |ok f ρ4=>
    rw[e2] at h2 h2'
    cases f with
    |nx=>exact nxt h2
    |ct=>exact nxt h2
    |bk=>exact h2'
    |rt r=>exact h2'
 ·have e:i=items.length:=by omega
  refine .inl ⟨stop e,?_⟩
  rw[List.drop_eq_nil_of_le (by omega)] at h2
  unfold forL at h2
  exact h2 σ2 F2 H2 Ğ (Same.refl _)
def bL{iter tg:Expr}{body:List Stmt}{mi:M (List PV)}{g:Tg}{mb:M Fl}(hp:PassesOwn (model X.prog X.w) X.A X.env X.xe)(hc:X.calm=true)(hi:PI X tg iter (tI (kk X cm) E mi))(hg:PG X tg (tT (kk X cm) g))(hb:fY X body (tS (kk X cm) E mb))
 (hs:∀x,foldedSetIterable iter X.env x=pure x:=by intro _;rfl):PS X (.For tg iter body [] pos) (tS (kk X cm) E (fO mi g mb)):=PS.wk (Rg hp hc hi hg hb hs) λD σ H ⟨c,F,ρ,rel,h⟩=>⟨c,F,ρ,rel,š.bind h λitems ρ1 J F1 H1 ć s1 ito h1=>SQ ć ito h1⟩
end
end P
namespace P
open PySem PySem.Spec PyProof.Rows L2 M2 M3
inductive FR where
 |ret (r:RV)|exc (x:PX)|bad
abbrev MF:=List Slot->FR
def FR.of:Res Fl->FR
 | .ok (.rt r) _=>.ret r
 | .ok .nx _=>.ret (.sh .non)
 | .exc x _=>.exc x
 |_=>.bad
def ķ(n k:Nat)(mb:M Fl):MF:=λas=>if as.length=n then FR.of (mb (startP k as)) else .bad
def rF(K:KK)(H F' H':Hp):RV->V->Prop
 | .sh p,v=>Rep K F' p v
 | .ow ps,v=>∃a vs,v=.ref a/\H' a=some (.lst vs)/\F' a=none/\H a=none/\Ć K F' ps vs
 | .ot ps qs rs,v=>∃p a xs vs ys,v=.ref p/\F' p=some (.tup (xs ++ .ref a::ys))/\Ć K F' ps xs/\H' a=some (.lst vs)/\F' a=none/\H a=none/\Ć K F' qs vs/\Ć K F' rs ys
 | .o2 ps qs rs ts,v=>∃p a b xs vs ys us,v=.ref p/\F' p=some (.tup (xs ++ .ref a::(ys ++ [.ref b])))/\Ć K F' ps xs/\Ć K F' rs ys/\(H' a=some (.lst vs)/\F' a=none/\H a=none/\Ć K F' qs vs)/\(H' b=some (.lst us)/\F' b=none/\H b=none/\Ć K F' ts us)/\a≠b
def Zb1(K:KK)(E:XK)(F H:Hp)(Q:VK):FR->Prop
 | .ret r=>∀v F' H',Gr F H F' H'->rF K H F' H' r v->Q v H'
 | .exc x=>∀C d F' H',Gr F H F' H'->JH K F' x C d->E C d H'
 | .bad=>False
def aB(K:KK)(n:Nat)(mf:MF):Sp:=λvs H Q E=>∃F as,as.length=n/\Same F H/\Paired (aJ K F H) as vs/\Zb1 K E F H Q (mf as)
def dN(CX:iH)(X:Cx)(E:L2.St->XK):Prop:=∀(pins:List (Addr×Obj)) (σ:L2.St) (H:Hp) (s:Shared) (e:Value) (s':Shared),Inv X pins σ H s->CX X.stack H s (E σ) e s'->X.xe e s'
def Ē{X:Cx}{E:L2.St->XK}:dN aA X E:=λ_ _ _ _ _ _ _ h=>h.elim
section
variable{P:Program}{w:World}{K:PySem.W.Frag}{cm:String->Addr}{mg:Str->Option Value}{base:Heap}{CX:iH}
def fnP{x qual:Str}{st:Stmt}{f:Addr}{fd:FuncData}{N ps:List Str}{k:Nat}{mb:M Fl}(F:Jt K x qual st f fd)(S:Ď N ps (Ĉ st))
 (hbody:∀(cdv:Value) (A:Around) (outer:List Env) (s:Shared) (H:Hp) (E:XK),Ş k (A.deeper (envOfC qual (Ĉ st) s.heap.objs.size f cdv))→
   fY (qO CX P w K mg base N qual (Ĉ st) f cdv A outer s H E) (ő st) (tS ⟨K,cm⟩ (λ_=>E) mb)):ī P w K mg base CX (k+1) f fd ps (aB ⟨K,cm⟩ ps.length (ķ ps.length N.length mb)):=by
 obtain⟨oc,od,kV,doc,pm,an,cdv,ct,osl,rfl,lk,hcd⟩:=F.ex
 refine Mf lk hcd S (λvs H Q E ⟨F,ps',h1,_,h2,_⟩=>by rw[<-Paired.length h2];exact h1) λA outer s H vs Q E hr hsp=>?_
 obtain⟨F,ps',h1,h2,h3,h4⟩:=hsp
 refine⟨_,hbody cdv A outer s H E hr,ctx0 F H,F,startP N.length ps',Rel.start h2 h3,?_⟩
 unfold ķ at h4
 rw[if_pos h1] at h4
 cases e:mb (startP N.length ps') with
 |bad=>rw[e] at h4;exact h4
 |exc x ρ'=>rw[e] at h4;exact λσ' C d F' H' rel s1 q=>h4 C d F' H' rel.gr q
 |ok fl ρ'=>
  rw[e] at h4
  cases fl with
  |nx=>exact λσ' F' H' rel s1=>h4 .non F' H' rel.gr (Rep.non (K:=⟨K,cm⟩) (F:=F'))
  |bk=>exact h4.elim
  |ct=>exact h4.elim
  |rt r=>
   intro v σ' F' H' rel s1 q
   refine h4 v F' H' rel.gr ?_
   cases r with
   |sh p=>exact q
   |ow qs=>
    obtain⟨a,vs',e1,e2,e3,e4,_,e5⟩:=q
    exact⟨a,vs',e1,e2,e3,e4,e5⟩
   |ot qs ts rs=>
    obtain⟨p,a,xs,vs',ys,e1,e0,ex,e2,e3,e4,_,e5⟩:=q
    exact⟨p,a,xs,vs',ys,e1,e0,ex,e2,e3,e4,e5⟩
   |o2 qs ts rs us=>
    obtain⟨p,a,b,xs,vs',ys,ws,e1,e0,ex,ey,⟨k1,k2,k3,_,k5⟩,⟨l1,l2,l3,_,l5⟩,hab⟩:=q
    exact⟨p,a,b,xs,vs',ys,ws,e1,e0,ex,ey,⟨k1,k2,k3,k5⟩,⟨l1,l2,l3,l5⟩,hab⟩
def fnQ{x qual:Str}{st:Stmt}{f:Addr}{fd:FuncData}{N ps:List Str}{k n j:Nat}{mb:M Fl}{mf:MF}(F:Jt K x qual st f fd)(S:Ď N ps (Ĉ st))(hn:ps.length=n)(hj:N.length=j)(hf:mf=ķ n j mb)
 (hbody:∀(cdv:Value) (A:Around) (outer:List Env) (s:Shared) (H:Hp) (E:XK),Ş k (A.deeper (envOfC qual (Ĉ st) s.heap.objs.size f cdv))→
   fY (qO CX P w K mg base N qual (Ĉ st) f cdv A outer s H E) (ő st) (tS ⟨K,cm⟩ (λ_=>E) mb)):ī P w K mg base CX (k+1) f fd ps (aB ⟨K,cm⟩ n mf):=by
 subst hn hj hf
 exact fnP F S hbody
end
def Ĝ(mf:MF)(mr:M (List Slot)):M RV:=λρ=>(mr ρ).bind λps ρ1=>match mf ps with
 | .ret r=>.ok r ρ1
 | .exc x=>.exc x ρ1
 | .bad=>.bad
section
variable{X:Cx}{cm:String->Addr}{E:L2.St->XK}{CX:iH}{k n:Nat}{f:Addr}{fd:FuncData}{ps:List Str}{mf:MF}{mr:M (List Slot)}{x:Str}{p pos:Pos}{e:Expr}{es:List Expr}
def JQ{sp:Sp}{pins:List (Addr×Obj)}{σ:L2.St}{H:Hp}{s:Shared}{Q:VK}{us:List Value}{vs:List V}(F:ī X.prog X.w X.K X.mg X.base CX k f fd ps sp)(hr:Ş k X.A)(hb:Binds X.K fd ps [])(hx:dN CX X E)
 (I:Inv X pins σ H s)(r:Vals vs us)(h:sp vs H Q (E σ)):wpAny (model X.prog X.w) X.A (call (.ref f) us) (EP X pins σ Q) X.xe s:=by
 have hl:(us ++ []).length=ps.length:=by rw[List.append_nil,<-r.length];exact F.len _ _ _ _ h
 have hbd:=hb s us I.kI hl
 rw[List.append_nil] at hbd
 refine wpAny_call (codeAny_mono (F.run X.A X.stack s H ⟨us,[]⟩ us vs Q (E σ) hr I.env0 hbd r h) λr s' hq=>?_)
 cases r with
 |error e=>exact hx pins σ H s e s' I hq
 |ok fl=>
  cases fl with
  |ret u=>exact I.after hq
  |next=>exact False.elim hq
  |brk=>exact False.elim hq
  |cont=>exact False.elim hq
def Ej{c:Ctx}{F1 H1:Hp}{σ:L2.St}{ρ1:Ĳ}{Q:VK}{ps:List Slot}{vs:List V}(hlen:(∃r,mf ps=r/\∀z,r=z->z≠ .bad)->ps.length=n)(ć:Rel (kk X cm) c F1 H1 σ ρ1)(r1:Paired (aJ (kk X cm) F1 H1) ps vs)
 (h:Ŷ (kk X cm) E (rO (kk X cm)) c F1 H1 σ Q (match mf ps with| .ret r=>.ok r ρ1| .exc x=>.exc x ρ1| .bad=>.bad)):aB (kk X cm) n mf vs H1 Q (E σ):=by
 refine⟨F1,ps,?_,ć.sub,r1,?_⟩
 ·refine hlen ⟨_,rfl,λz hz hb=>?_⟩
  rw[hz,hb] at h
  exact h
 ·cases em:mf ps with
  |bad=>rw[em] at h;exact h
  |exc x=>rw[em] at h;exact λC d F' H' g rx=>h C d F' H' (ć.call g) g.f rx
  |ret r=>
   rw[em] at h
   intro v F' H' g rf
   refine h v F' H' (ć.call g) g.f g.h ?_
   cases r with
   |sh p=>exact rf
   |ow qs=>
    obtain⟨a,vs',e1,e2,e3,e4,e5⟩:=rf
    exact⟨a,vs',e1,e2,e3,ć.base.free e4,ć.bx g.f (ć.fresh e4),e5⟩
   |ot qs ts rs=>
    obtain⟨p,a,xs,vs',ys,e1,e0,ex,e2,e3,e4,e5⟩:=rf
    exact⟨p,a,xs,vs',ys,e1,e0,ex,e2,e3,ć.base.free e4,ć.bx g.f (ć.fresh e4),e5⟩
   |o2 qs ts rs us=>
    obtain⟨p,a,b,xs,vs',ys,ws,e1,e0,ex,ey,⟨k1,k2,k3,k5⟩,⟨l1,l2,l3,l5⟩,hab⟩:=rf
    exact⟨p,a,b,xs,vs',ys,ws,e1,e0,ex,ey,⟨k1,k2,ć.base.free k3,ć.bx g.f (ć.fresh k3),k5⟩,⟨l1,l2,ć.base.free l3,ć.bx g.f (ć.fresh l3),l5⟩,hab⟩
def dg{n k:Nat}{mb:M Fl}{ps:List Slot}(h:∃r,ķ n k mb ps=r/\∀z,r=z->z≠ .bad):ps.length=n:=by
 obtain⟨r,h1,h2⟩:=h
 unfold ķ at h1
 by_cases hl:ps.length=n
 ·exact hl
 ·rw[if_neg hl] at h1
  exact absurd h1.symm (λz=>h2 .bad (by rw[<-h1]) rfl)
def Ek(F:ī X.prog X.w X.K X.mg X.base CX k f fd ps (aB (kk X cm) n mf))(hlen:∀{ps:List Slot},(∃r,mf ps=r/\∀z,r=z->z≠ .bad)->ps.length=n)(hr:Ş k X.A)(hg:Gl X x)(hm:X.mg x=some (.ref f))(hk:PySem.W.keepIn X.K (.ref f)=true)(hb:Binds X.K fd ps [])(hx:dN CX X E)
 (ha:PA X (e::es) (tA (kk X cm) E mr))(hdb:(x== ("__debug__" :Str))=false:=by decide)(he:starEach (e::es) X.env=(false,eval e X.env)::starEach es X.env:=by exact Ŗ rfl)(hpl:(backTo pos (starEach es X.env)).any (·.1)=false:=by rfl) :
 PE X (.Call (.Name x p) (e::es) [] pos) (tO (kk X cm) E (Ĝ mf mr)):=by
 intro pins s σ H Q I h
 obtain⟨c,F,ρ,rel,h⟩:=h
 refine wpAny_Call_Name_kw (qL I hg hm ?_ hdb)
 refine PySem.W.callWith_K (h₀:= X.base) I.ok.mod.Wv hk (Ľ (ha pos pins s σ H (λvs H1=>aB (kk X cm) n mf vs H1 Q (E σ)) I ⟨c,F,ρ,rel,h.bind λps' ρ1 vs F1 H1 ć _ _ r1 h1=>Ej hlen ć r1 h1⟩) λus s1 ⟨vs,H1,I1,r,q⟩=>⟨I1.kI,?_⟩) he hpl
 exact JQ (by assumption) hr hb hx I1 r q
end
def bB(m:M PV):M (List PV):=λρ=>(m ρ).bind λp ρ1=>match p with
 | .lst ps=>.ok ps ρ1
 | .tup ps=>.ok ps ρ1
 | .str z=>.ok (z.cps.toList.map λc=>.str ⟨#[c]⟩) ρ1
 |_=>.bad
section
variable{X:Cx}{cm:String->Addr}{E:L2.St->XK}{tg:Expr}
def Zb2(K:PySem.W.Frag)(tl:TE):TI:=λσ H R=>tl σ H λx H1=>(∃a,x=.ref a/\(∃xs,ř K H1 a xs)/\R (Rf K a) H1)\/(∃a,x=.ref a/\(∃xs,aG K H1 a xs)/\R (WT K a) H1)\/∃z,x=.str z/\R (Its z) H1
def El{l:Expr}{tl:TE}(hl:PE X l tl):PI X tg l (Zb2 X.K tl):=by
 intro pins s σ H R I h
 refine Ľ (hl pins s σ H _ I h) λv s1 ⟨x,H1,I1,r1,q1⟩=>?_
 rcases q1 with⟨a,e,⟨xs,hq⟩,q⟩|⟨a,e,⟨xs,hq⟩,q⟩|⟨z,e,q⟩
 ·subst e
  cases r1
  obtain⟨its,rv,p,hz⟩:=I1.list hq
  refine wpAny_pyIter_list p.isList ?_
  refine⟨s1.heap.objs.size,[s1.heap.objs.size],_,_,H1,rfl,I1.kept (t':=s1.toks) λb o e=>Heap.get?_push_of_some _ e,Av a _,⟨_,Heap.get?_push_size _ rfl,rfl,rfl⟩,λb hb=>?_,q⟩
  have e:b=s1.heap.objs.size:=by simpa using hb
  subst e
  exact I1.Ar (Nat.le_refl _) (I1.hok.fresh (Nat.le_refl _))
 ·subst e
  cases r1
  obtain⟨its,rv,p,hz⟩:=I1.tuple hq
  refine wpAny_pyIter_tuple (show s1.heap.IsTuple a its.toArray from p) ?_
  refine⟨s1.heap.objs.size,[s1.heap.objs.size],_,_,H1,rfl,I1.kept (t':=s1.toks) λb o e=>Heap.get?_push_of_some _ e,wg a _,⟨_,Heap.get?_push_size _ rfl,rfl,rfl⟩,λb hb=>?_,q⟩
  have e:b=s1.heap.objs.size:=by simpa using hb
  subst e
  exact I1.Ar (Nat.le_refl _) (I1.hok.fresh (Nat.le_refl _))
 ·subst e
  obtain⟨t,rfl⟩:=r1
  have fin:∀ty,(∀A:Around,A.handled=none->Walks X.prog X.w A s1.heap.objs.size [s1.heap.objs.size] [s1.heap.objs.size] z.cps.size (SignAt z) (λi h=>h.IsStrIter s1.heap.objs.size ty z t i))->
   (∀(A:Around) (i:Nat) (s:Shared) (Q:Value->Shared->Prop) (E:Value->Shared->Prop),s.heap.IsStrIter s1.heap.objs.size ty z t i->Q (.ref s1.heap.objs.size) s->wpAny (model X.prog X.w) A (pyIter (.ref s1.heap.objs.size)) Q E s)->
   (["enumerate","zip","dict_itemiterator","dict_reverseitemiterator","odict_iterator","itertools.zip_longest","itertools.pairwise"].contains ty=false)->
   PIE X pins σ tg R (.ref s1.heap.objs.size) {s1 with heap:=s1.heap.push {cls:=.type ty,data:=.fields #[.str z t,.int 0 0]}}:=λty hW hS hty=>by
   refine⟨s1.heap.objs.size,[s1.heap.objs.size],_,_,H1,rfl,I1.kept (t':=s1.toks) λb o e=>Heap.get?_push_of_some _ e,Bj _ z t ty hW hS hty,⟨_,Heap.get?_push_size _ rfl,rfl,rfl⟩,λb hb=>?_,q⟩
   have e:b=s1.heap.objs.size:=by simpa using hb
   subst e
   exact I1.Ar (Nat.le_refl _) (I1.hok.fresh (Nat.le_refl _))
  cases ha:z.cps.all (·< 128) with
  |true=>exact wpAny_pyIter_ascii ha (fin _ (λA hA=>Walks.strAscii hA _ z t) (λA i s Q E st q=>wpAny_pyIter_striter_ascii st q) (by decide))
  |false=>exact wpAny_pyIter_wide ha (fin _ (λA hA=>Walks.strWide hA _ z t) (λA i s Q E st q=>wpAny_pyIter_striter_wide st q) (by decide))
def yO{l:Expr}{m:M PV}(hl:PE X l (tV (kk X cm) E m)):PI X tg l (tI (kk X cm) E (bB m)):=λpins s σ H R I h=>El hl pins s σ H R I (by
 obtain⟨c,F,ρ,rel,h⟩:=h
 refine⟨c,F,ρ,rel,h.bind λp ρ1 v F1 H1 ć s1 s2 q h1=>?_⟩
 cases p with
 |lst ps=>
  have q':Rep (kk X cm) F1 (.lst ps) v:=q
  unfold Rep at q'
  obtain⟨a,vs,rfl,e1,e2⟩:=q'
  refine .inl ⟨a,rfl,⟨vs,ć.sub.seq e1⟩,h1 _ F1 H1 ć (Same.refl _) (Same.refl _) ?_⟩
  intro c' i F2 H2 σ2 ρ2 Ğ sF _
  have hq:ř X.K H2 a vs:=(sF.trans Ğ.sub).seq e1
  refine⟨λp hp=>?_,λhi=>⟨vs,hq,by rw[hi,e2.length];exact Nat.le_refl _⟩⟩
  obtain⟨u,hu,ru⟩:=ź e2.pr hp
  refine⟨⟨vs,u,hq,hu⟩,λx H' ⟨hH,hx⟩=>?_⟩
  subst hH
  have:vs[i]?=some x:=hx vs hq
  rw[hu] at this
  cases this
  exact⟨F2,Ğ,Same.refl _,Same.refl _,Rep.same sF p u ru⟩
 |tup ps=>
  have q':Rep (kk X cm) F1 (.tup ps) v:=q
  unfold Rep at q'
  obtain⟨a,vs,rfl,e1,e2⟩:=q'
  refine .inr (.inl ⟨a,rfl,⟨vs,aG.of (ć.sub _ _ e1)⟩,h1 _ F1 H1 ć (Same.refl _) (Same.refl _) ?_⟩)
  intro c' i F2 H2 σ2 ρ2 Ğ sF _
  have hq:aG X.K H2 a vs:=aG.of ((sF.trans Ğ.sub) _ _ e1)
  refine⟨λp hp=>?_,λhi=>⟨vs,hq,by rw[hi,e2.length];exact Nat.le_refl _⟩⟩
  obtain⟨u,hu,ru⟩:=ź e2.pr hp
  refine⟨⟨vs,u,hq,hu⟩,λx H' ⟨hH,hx⟩=>?_⟩
  subst hH
  have:vs[i]?=some x:=hx vs hq
  rw[hu] at this
  cases this
  exact⟨F2,Ğ,Same.refl _,Same.refl _,Rep.same sF p u ru⟩
 |str z=>
  have q':v=.str z:=by have q':Rep (kk X cm) F1 (.str z) v:=q;unfold Rep at q';exact q'
  subst q'
  refine .inr (.inr ⟨z,rfl,h1 _ F1 H1 ć (Same.refl _) (Same.refl _) ?_⟩)
  intro c' i F2 H2 σ2 ρ2 Ğ sF _
  refine⟨λp hp=>?_,λhi=>by rw[hi,List.length_map];show _=_;simp⟩
  rw[List.getElem?_map] at hp
  cases ez:z.cps.toList[i]? with
  |none=>rw[ez] at hp;cases hp
  |some cc=>
   rw[ez] at hp
   cases hp
   refine⟨by have:=(List.getElem?_eq_some_iff.mp ez).1;show i<z.cps.size;simpa using this,λx H' ⟨hH,c2,hc,hx⟩=>?_⟩
   subst hH hx
   rw[ez] at hc
   cases hc
   exact⟨F2,Ğ,Same.refl _,Same.refl _,Rep.str⟩
 |_=>exact h1.elim)
def cA(i:Nat):M (List PV):=λρ=>match ρ[i]? with
 |some (.bw ps)=>.ok ps ρ
 |some (.sh (.lst ps))=>.ok ps ρ
 |some (.sh (.tup ps))=>.ok ps ρ
 |some (.sh (.str z))=>.ok (z.cps.toList.map λc=>.str ⟨#[c]⟩) ρ
 |some (.ow ps)=>.ok ps (ρ.set i (.sh (.lst ps)))
 |_=>.bad
def mj(i:Nat){x:Str}{px:Pos}(hN:X.N[i]?=some x:=by rfl)(hv:qJ X.env.scope x:=by first|exact Or.inl rfl|exact Or.inr (Or.inl rfl)|exact Or.inr (Or.inr rfl))(hd:(x== ("__debug__" :Str))=false:=by decide)
 (hcd:(x== ("__classdict__" :Str))=false:=by decide):PI X tg (.Name x px) (tI (kk X cm) E (cA i)):=λpins s σ H R I h=>by
 obtain⟨c,F,ρ,rel,h⟩:=h
 cases e:ρ[i]? with
 |none=>unfold cA at h;rw[e] at h;exact h.elim
 |some sl=>
  have JR:Ŷ (kk X cm) E (rIt (kk X cm)) c F H σ R (bB (ē i) ρ)->wpAny (model X.prog X.w) X.A (eval (.Name x px) X.env) (λv s1=>wpAny (model X.prog X.w) X.A (pyIter v) (PIE X pins σ tg R) X.xe s1) X.xe s:=λh'=>
   yO (v_var i hN hv hd hcd) pins s σ H R I ⟨c,F,ρ,rel,h'⟩
  unfold cA at h
  rw[e] at h
  cases sl with
  |no=>exact h.elim
  |rc C ns ps=>exact h.elim
  |ot ps qs rs=>exact h.elim
  |o2 _ _ _ _=>exact h.elim
  |ol Cr=>exact h.elim
  |od _ _=>exact h.elim
  |bd _ _=>exact h.elim
  |ow ps=>exact JR (by unfold bB ē;rw[e];exact h)
  |sh p=>
   cases p with
   |lst ps=>exact JR (by unfold bB ē;rw[e];exact h)
   |tup ps=>exact JR (by unfold bB ē;rw[e];exact h)
   |str z=>exact JR (by unfold bB ē;rw[e];exact h)
   |_=>exact h.elim
  |bw ps=>
   obtain⟨a,vs,h1,h2,h3⟩:=rel.slot i _ e
   refine El (ş hN hv hd hcd) pins s σ H R I ⟨.ref a,at_of h1,.inl ⟨a,rfl,⟨vs,ř.of (rel.lent a _ h2).1⟩,h _ F H rel (Same.refl _) (Same.refl _) ?_⟩⟩
   intro c' j F2 H2 σ2 ρ2 Ğ sF sL
   have hq:ř X.K H2 a vs:=ř.of (sL a _ h2)
   refine⟨λp hp=>?_,λhi=>⟨vs,hq,by rw[hi,h3.length];exact Nat.le_refl _⟩⟩
   obtain⟨u,hu,ru⟩:=ź h3.pr hp
   refine⟨⟨vs,u,hq,hu⟩,λx H' ⟨hH,hx⟩=>?_⟩
   subst hH
   have:vs[j]?=some x:=hx vs hq
   rw[hu] at this
   cases this
   exact⟨F2,Ğ,Same.refl _,Same.refl _,Rep.same sF p u ru⟩
def ż(lo:Int)(n:Nat)(c:Int):List PV:=(List.range n).map λ(i:Nat)=>.int (lo+i*c)
def Ž(i:Int):Bool:=decide (i.natAbs<1152921504606846976)
def aO:List PV->Option (List PV)
 | [.int j]=>if Ž j=true then some (ż 0 j.toNat 1) else none
 |_=>none
def pW:List PV->Option (List PV)
 | [.int i,.int j]=>if Ž i=true/\Ž j=true then some (ż i (j-i).toNat 1) else none
 |_=>none
def Ŧ(f:List PV->Option (List PV))(mr:M (List PV)):M (List PV):=λρ=>(mr ρ).bind λps ρ1=>Res.kZ (f ps) ρ1
def wN{lo c:Int}{n i:Nat}{p:PV}(h:(ż lo n c)[i]?=some p):i<n/\p=.int (lo+i*c):=by
 unfold ż at h
 by_cases hn:i<n
 ·rw[List.getElem?_map,List.getElem?_range hn] at h
  exact⟨hn,(Option.some.inj h).symm⟩
 ·rw[List.getElem?_eq_none (by simpa using hn)] at h
  cases h
def wO{lo c:Int}{n:Nat}:(ż lo n c).length=n:=by simp[ż]
def Em{K:KK}{Lh F:Hp}(lo:Int)(n:Nat):bK K Lh F (WW lo n) (ż lo n 1):=λc i F2 H σ ρ rel sF _=>
 ⟨fun p hp=>by
   obtain⟨h1,rfl⟩:=wN hp
   refine⟨h1,λx H' ⟨e1,e2⟩=>?_⟩
   subst e1 e2
   exact⟨F2,rel,Same.refl _,Same.refl _,by rw[Int.mul_one];exact Rep.int⟩,λhi=>by rw[wO] at hi;subst hi;exact Nat.le_refl _⟩
def iR{i:Int}(h:Ž i=true): -(2 ^ 60)<=i/\i<2 ^ 60:=by
 unfold Ž at h
 rw[decide_eq_true_eq] at h
 omega
variable{a b d:Expr}{p pos:Pos}{mr:M (List PV)}
def mq{K:KK}{F:Hp}{ps:List PV}{vs:List V}(h:Ć K F ps vs):(∀i r,ps=.int i::r->∃r',vs=.int i::r'/\Ć K F r r')/\(ps=[]->vs=[]):=by
 refine⟨λi r e=>?_,λe=>?_⟩
 ·subst e
  unfold Ć at h
  obtain⟨x,r',h1,h2,h3⟩:=h
  unfold Rep at h2
  exact⟨r',by rw[h1,h2],h3⟩
 ·subst e
  unfold Ć at h
  exact h
def ŭ(hg:Gl X "range")(hm:X.mg "range" =none)(ha:PA X [a] (tL (kk X cm) E mr))(hs:starEach [a] X.env=[(false,eval a X.env)]:=by exact Ŗ rfl):PI X tg (.Call (.Name "range" p) [a] [] pos) (tI (kk X cm) E (Ŧ aO mr)):=
 λpins s σ H R I h=>Aw hg hm ha hs pins s σ H R I (by
  obtain⟨c,F,ρ,rel,h⟩:=h
  refine⟨c,F,ρ,rel,h.bind λps ρ1 vs F1 H1 ć s1 s2 q h1=>?_⟩
  have q':Ć (kk X cm) F1 ps vs:=q
  unfold aO at h1
  split at h1
  ·rename_i j
   split at h1
   ·rename_i hj
    obtain⟨r',e1,e2⟩:=(mq q').1 _ _ rfl
    cases(mq e2).2 rfl
    obtain⟨k1,k2⟩:=iR hj
    exact⟨j,e1,by omega,by omega,h1 _ F1 H1 ć (Same.refl _) (Same.refl _) (Em 0 j.toNat)⟩
   ·exact h1.elim
  ·exact h1.elim)
def uH(hg:Gl X "range")(hm:X.mg "range" =none)(ha:PA X [a,b] (tL (kk X cm) E mr))(hs:starEach [a,b] X.env=[(false,eval a X.env),(false,eval b X.env)]:=by exact wL rfl rfl)(hs2:starEach [b] X.env=[(false,eval b X.env)]:=by exact Ŗ rfl) :
 PI X tg (.Call (.Name "range" p) [a,b] [] pos) (tI (kk X cm) E (Ŧ pW mr)):=
 λpins s σ H R I h=>Ax hg hm ha hs hs2 pins s σ H R I (by
  obtain⟨c,F,ρ,rel,h⟩:=h
  refine⟨c,F,ρ,rel,h.bind λps ρ1 vs F1 H1 ć s1 s2 q h1=>?_⟩
  have q':Ć (kk X cm) F1 ps vs:=q
  unfold pW at h1
  split at h1
  ·rename_i i j
   split at h1
   ·rename_i hj
    obtain⟨r',e1,e2⟩:=(mq q').1 _ _ rfl
    obtain⟨r2,e3,e4⟩:=(mq e2).1 _ _ rfl
    cases(mq e4).2 rfl
    subst e3
    obtain⟨k1,k2⟩:=iR hj.1
    obtain⟨k3,k4⟩:=iR hj.2
    exact⟨i,j,e1,⟨by omega,by omega,by omega,by omega⟩,h1 _ F1 H1 ć (Same.refl _) (Same.refl _) (Em i (j-i).toNat)⟩
   ·exact h1.elim
  ·exact h1.elim)
end
def iT:Slot->Slot
 | .sh p=>.sh p
 | .ow ps=>.bw ps
 | .bw ps=>.bw ps
 | .od t kvs=>.bd t kvs
 | .bd t kvs=>.bd t kvs
 |_=>.no
def iU(js:List Nat)(nl:Nat)(ρ:Ĳ):Ĳ:=js.map (λ(j:Nat)=>iT ((ρ[j]?).getD .no))++List.replicate nl .no
def Ů(g:Tg)(mt:M Bool)(me:M PV):List PV->Ĳ->List PV->Option (List PV)
 | [],_,acc=>some acc
 |p::ps,ρ,acc=>match g p ρ with
  |none=>none
  |some ρ1=>match mt ρ1 with
   | .ok true ρ2=>match me ρ2 with
     | .ok q ρ3=>if acc.length<16777216 then Ů g mt me ps ρ3 (acc ++ [q]) else none
     |_=>none
   | .ok false ρ2=>Ů g mt me ps ρ2 acc
   |_=>none
def aP(js:List Nat)(nl:Nat)(mi:M (List PV))(g:Tg)(mt:M Bool)(me:M PV):M RV:=λρ=>(mi ρ).bind λitems ρ1=>match Ů g mt me items (iU js nl ρ1) [] with
 |some ps=>.ok (.ow ps) ρ1
 |none=>.bad
abbrev EF:L2.St->XK:=λ_ _ _ _=>False
def dw:M Bool:=λρ=>.ok true ρ
section
variable{K:KK}{c:Ctx}{F H:Hp}{σ:L2.St}{ρ:Ĳ}
def qZ(F H H1:Hp):Ctx:=⟨H1,F,(ctx0 F H).L,λ_ _ _=>True⟩
def Rel.cap(js:List Nat)(nl:Nat)(rel:Rel K c F H σ ρ){D:Addr}{o:HO}(hD:H D=none):Rel K (qZ F H (upd H D o)) F (upd H D o) (cY js nl σ) (iU js nl ρ) where
 sub:=rel.sub.trans (Same.upd hD)
 base:=Same.refl _
 f0:=Same.refl _
 bU:=λ_ _ z=>z
 lent:=λa u e=>⟨Same.upd hD a u (cg e).1,(cg e).2⟩
 lb:=fun a e=>by
   cases q:(qZ F H (upd H D o)).L a with
   |none=>rfl
   |some u=>
    have e':upd H D o a=none:=e
    rw[Same.upd hD a u (cg q).1] at e'
    cases e'
 len:=by simp[cY,iU]
 slot:= λi s e=>by
  unfold iU at e
  by_cases hi:i<js.length
  ·rw[List.getElem?_append_left (by simpa using hi),List.getElem?_map] at e
   cases ej:js[i]? with
   |none=>rw[ej] at e;cases e
   |some j=>
    rw[ej] at e
    have e':iT ((ρ[j]?).getD .no)=s:=Option.some.inj e
    subst e'
    have hx:((cY js nl σ)[i]?).getD none=(σ[j]?).getD none:=by
     unfold cY
     rw[List.getElem?_append_left (by simpa using hi),List.getElem?_map,ej]
     rfl
    rw[hx]
    cases er:ρ[j]? with
    |none=>trivial
    |some sl=>
     have q:=rel.slot j sl er
     cases sl with
     |no=>trivial
     |sh p=>exact q
     |ow ps=>
      obtain⟨a,vs,h1,h2,h3,h4,h5⟩:=q
      refine⟨a,vs,h1,?_,h5⟩
      show(match F a with|none=>H a|some _=>none)=_
      rw[h3]
      exact h2
     |bw ps=>
      obtain⟨a,vs,h1,h2,h3⟩:=q
      obtain⟨l1,l2⟩:=rel.lent a _ h2
      refine⟨a,vs,h1,?_,h3⟩
      show(match F a with|none=>H a|some _=>none)=_
      rw[l2]
      exact l1
     |rc C ns ps=>trivial
     |ot ps qs rs=>trivial
     |o2 _ _ _ _=>trivial
     |ol Cr=>trivial
     |od t kvs=>
      obtain⟨a,u,h1,h2,h3,h4,h5⟩:=q
      refine⟨a,u,h1,.inl ?_,h5⟩
      show(match F a with|none=>H a|some _=>none)=_
      rw[h3]
      exact h2
     |bd t kvs=>
      obtain⟨a,u,h1,h2,h3⟩:=q
      refine⟨a,u,h1,h2.imp (λh2=>?_) id,h3⟩
      obtain⟨l1,l2⟩:=rel.lent a _ h2
      show(match F a with|none=>H a|some _=>none)=_
      rw[l2]
      exact l1
  ·rw[List.getElem?_append_right (by simpa using hi),List.getElem?_replicate] at e
   split at e
   ·cases e;trivial
   ·cases e
 sep:=λi j a h1 _=>by
  exfalso
  obtain⟨s,y,h1,_,h2⟩:=h1
  have h2:=lW h2
  unfold iU at h1
  by_cases hi:i<js.length
  ·rw[List.getElem?_append_left (by simpa using hi),List.getElem?_map] at h1
   cases ej:js[i]? with
   |none=>rw[ej] at h1;cases h1
   |some j=>
    rw[ej] at h1
    have e':iT ((ρ[j]?).getD .no)=s:=Option.some.inj h1
    subst e'
    cases q:(ρ[j]?).getD .no<;>rw[q] at h2<;>cases h2
  ·rw[List.getElem?_append_right (by simpa using hi),List.getElem?_replicate] at h1
   split at h1
   ·cases h1;cases h2
   ·cases h1
def Rel.rebase{H1 F1:Hp}{D:Addr}{ys zs:List V}(hD:H1 D=none)(hF:F1 D=none)(rel:Rel K (qZ F1 H1 (upd H1 D (.lst ys))) F H σ ρ):Rel K (qZ F1 H1 (upd H1 D (.lst zs))) F (upd H D (.lst zs)) σ ρ:= by
 have fD:F D=none:=rel.bU D (by show upd H1 D _ D≠none;rw[č];intro z;cases z) hF
 have lD:∀b u,(qZ F1 H1 (upd H1 D (.lst ys))).L b=some u->b≠D:=λb u e z=>by
  have q:=(cg (F:=F1) (H:=H1) (a:=b) (u:=u) e).1
  rw[z,hD] at q
  cases q
 have ne:∀b,(qZ F1 H1 (upd H1 D (.lst ys))).B b=none->b≠D:=λb z q=>by
  subst q
  have z':upd H1 b (.lst ys) b=none:=z
  rw[č] at z';cases z'
 have back:∀b,b≠D->(qZ F1 H1 (upd H1 D (.lst ys))).B b=none->(qZ F1 H1 (upd H1 D (.lst zs))).B b=none:=λb hb z=>by
  have z':upd H1 D (.lst ys) b=none:=z
  show upd H1 D (.lst zs) b=none
  rw[Ċ hb] at z' ⊢;exact z'
 refine⟨λb u e=>?_,λb u e=>?_,rel.f0,λb h1 h2=>?_,λb u e=>?_,λb e=>?_,rel.len,λi s e=>?_,rel.sep⟩
 ·have hb:b≠D:=λz=>by rw[z,fD] at e;cases e
  rw[Ċ hb];exact rel.sub b u e
 ·by_cases hb:b=D
  ·subst hb
   have e':upd H1 b (.lst zs) b=some u:=e
   rw[č] at e' ⊢;exact e'
  ·have e':upd H1 D (.lst zs) b=some u:=e
   rw[Ċ hb] at e' ⊢
   exact rel.base b u (by show upd H1 D _ b=some u;rw[Ċ hb];exact e')
 ·refine rel.bU b (λz=>h1 ?_) h2
  exact back b (ne b z) z
 ·rw[Ċ (lD b u e)]
  exact rel.lent b u e
 ·refine rel.lb b ?_
  have z':upd H1 D (.lst zs) b=none:=e
  have hb:b≠D:=λq=>by rw[q,č] at z';cases z'
  show upd H1 D (.lst ys) b=none
  rw[Ċ hb] at z' ⊢;exact z'
 ·have q:=rel.slot i s e
  cases s with
  |no=>trivial
  |sh p=>exact q
  |bw ps=>exact q
  |ow ps=>
   obtain⟨a,vs,q1,q2,q3,q4,q5⟩:=q
   have hb:=ne a q4
   exact⟨a,vs,q1,by rw[Ċ hb];exact q2,q3,back a hb q4,q5⟩
  |bd t kvs=>exact q
  |od t kvs=>
   obtain⟨a,u,q1,q2,q3,q4,q5⟩:=q
   have hb:=ne a q4
   exact⟨a,u,q1,by rw[Ċ hb];exact q2,q3,back a hb q4,q5⟩
  |rc C ns ps=>
   obtain⟨a,dx,fs,q1,q2,q3,q4,q5⟩:=q
   have hb:=ne a q4
   exact⟨a,dx,fs,q1,by rw[Ċ hb];exact q2,q3,back a hb q4,q5⟩
  |ot ps qs rs=>
   obtain⟨p,a,xs,vs,ys,q1,q0,qx,q2,q3,q4,q5⟩:=q
   have hb:=ne a q4
   exact⟨p,a,xs,vs,ys,q1,q0,qx,by rw[Ċ hb];exact q2,q3,back a hb q4,q5⟩
  |o2 ps qs rs ts=>
   obtain⟨p,a,b,xs,vs,ys,us,q1,q0,qx,qy,⟨k1,k2,k3,k5⟩,⟨l1,l2,l3,l5⟩,hab⟩:=q
   have ha':=ne a k3
   have hb':=ne b l3
   exact⟨p,a,b,xs,vs,ys,us,q1,q0,qx,qy,⟨by rw[Ċ ha'];exact k1,k2,back a ha' k3,k5⟩,⟨by rw[Ċ hb'];exact l1,l2,back b hb' l3,l5⟩,hab⟩
  |ol Cr=>
   obtain⟨p,as,q1,q0,qn,qp⟩:=q
   refine⟨p,as,q1,q0,qn,ux qp λa ps _ ⟨vs,q2,q3,q4,q5⟩=>?_⟩
   have hb:=ne a q4
   exact⟨vs,by rw[Ċ hb];exact q2,q3,back a hb q4,q5⟩
end
section
variable{X:Cx}{cm:String->Addr}{E:L2.St->XK}{elt tg iter:Expr}{ifs:List Expr}{scope:Scope}{pos:Pos}{mi:M (List PV)}{g:Tg}{mt:M Bool}{me:M PV}
def fP:Iu X [] (tB (kk X cm) E dw):=λpins s σ H Q I h=>Jy pins s σ H Q I (by
 obtain⟨c,F,ρ,rel,h⟩:=h
 exact h true F H rel (Same.refl _) (Same.refl _) rfl)
def Eo(K:KK):RR (List PV) It:=λ_ _ _ F H items J=>bK K (ctx0 F H).L F J items
def Yb{K:KK}{c:Ctx}{F H:Hp}{σ:L2.St}{ρ:Ĳ}(rel:Rel K c F H σ ρ){b:Addr}{u:HO}(e:c.L b=some u):(ctx0 F H).L b=some u:=by
 obtain⟨l1,l2⟩:=rel.lent b u e
 show(match F b with|none=>H b|some _=>none)=some u
 rw[l2]
 exact l1
def Mp(h:PI X tg iter (tI (kk X cm) E mi)):PI X tg iter (tG (kk X cm) E (Eo (kk X cm)) mi):=λpins s σ H R I ⟨c,F,ρ,rel,q⟩=>h pins s σ H R I ⟨c,F,ρ,rel,Ŷ.bind (R':=Eo (kk X cm)) (f:=λp ρ=>.ok p ρ) (by revert q;cases mi ρ <;> exact id) λp ρ1 v F1 H1 ć s1 s2 q h1=>h1 v F1 H1 ć (Same.refl _) (Same.refl _) λc' i F2 H2 σ2 ρ2 Ğ sF sL=>q c' i F2 H2 σ2 ρ2 Ğ sF λb u e=>sL b u (Yb ć e)⟩
def uI{js:List Nat}{nl:Nat}{σ:L2.St}{H:Hp}{Q:VK}(h:tO (kk X cm) E (aP js nl mi g mt me) σ H Q):Ds js nl (tG (kk X cm) E (Eo (kk X cm)) mi) (tT (kk X cm) g) (tB (kk X cm) EF mt) (tV (kk X cm) EF me) σ H Q:=by
 obtain⟨c,F,ρ,rel,h⟩:=h
 refine⟨c,F,ρ,rel,h.bind λitems ρ1 J F1 H1 ć s1 s2 ito h1=>?_⟩
 intro D hD
 have hF:F1 D=none:=ć.sub.free hD
 cases ec:Ů g mt me items (iU js nl ρ1) [] with
 |none=>rw[ec] at h1;exact h1.elim
 |some res=>
  rw[ec] at h1
  refine⟨λi m σ' H'=>∃F' ρ' ys acc,i<=items.length/\m=items.length-i/\Rel (kk X cm) (qZ F1 H1 (upd H1 D (.lst ys))) F' H' σ' ρ'/\Ć (kk X cm) F' acc ys/\Ů g mt me (items.drop i) ρ' acc=some res,
   ⟨_,F1,_,[],[],Nat.zero_le _,rfl,?_,Ć.nil,ec⟩,?_⟩
  ·exact ć.cap js nl hD
  ·rintro i m σ2 H2 ⟨F2,ρ2,ys,acc,hle,rfl,Ğ,ra,h2⟩
   have s12:Same F1 F2:=Ğ.f0
   obtain⟨go,stop⟩:=ito _ i F2 H2 σ2 ρ2 Ğ s12 λb u e=>(Ğ.lent b u e).1
   have hH2:H2 D=some (.lst ys):=Ğ.base D _ (show upd H1 D _ D=_ from č)
   have fD:F2 D=none:=Ğ.bU D (by show upd H1 D _ D≠none;rw[č];intro z;cases z) hF
   by_cases hlt:i<items.length
   ·obtain⟨g1,g2⟩:=go items[i] (List.getElem?_eq_getElem hlt)
    rw[List.drop_eq_getElem_cons hlt] at h2
    unfold Ů at h2
    refine .inr ⟨g1,_,λσ' H' z=>z,λx H3 hy=>?_⟩
    obtain⟨F3,gC,s3,sH3,rp⟩:=g2 x H3 hy
    refine⟨_,F3,ρ2,items[i],gC,rp,?_⟩
    cases eg:g items[i] ρ2 with
    |none=>rw[eg] at h2;cases h2
    |some ρ3=>
     rw[eg] at h2
     dsimp only at h2
     intro σ4 uF
     refine⟨_,F3,ρ3,uF,?_⟩
     cases em:mt ρ3 with
     |bad=>rw[em] at h2;cases h2
     |exc x ρ4=>rw[em] at h2;cases h2
     |ok b ρ4=>
      rw[em] at h2
      intro b' F5 H5 Yc s5 Cv eb
      have eb':b=b':=eb
      subst eb'
      cases b with
      |false=>
       rw[if_neg Bool.false_ne_true]
       dsimp only at h2
       exact⟨items.length-(i+1),by omega,F5,ρ4,ys,acc,hlt,rfl,Yc,Ć.same (s3.trans s5) acc ys ra,h2⟩
      |true=>
       rw[if_pos rfl]
       dsimp only at h2
       refine⟨_,F5,ρ4,Yc,?_⟩
       cases ee:me ρ4 with
       |bad=>rw[ee] at h2;cases h2
       |exc x ρ5=>rw[ee] at h2;cases h2
       |ok q ρ5=>
        rw[ee] at h2
        dsimp only at h2
        intro y F6 H6 Yd s6 Iv rq
        split at h2
        ·rename_i hz
         have ra6:=Ć.same ((s3.trans s5).trans s6) acc ys ra
         refine⟨ys,Yd.base D _ (show upd H1 D _ D=_ from č),by rw[<-ra6.length,ě];exact hz,?_⟩
         exact⟨items.length-(i+1),by omega,F6,ρ5,ys ++ [y],acc ++ [q],hlt,rfl,Yd.rebase hD hF,Ć.append ra6 (Ć.cons rq Ć.nil),h2⟩
        ·cases h2
   ·have e:i=items.length:=by omega
    refine .inl ⟨stop e,?_⟩
    rw[List.drop_eq_nil_of_le (by omega)] at h2
    unfold Ů at h2
    cases h2
    have gr:Gr F1 H1 F2 H2:=⟨λb u e=>Ğ.base b u (by show upd H1 D _ b=_;rw[Ċ (Ī e hD)];exact e),s12,Ğ.sub,λb hb hf=>Ğ.bU b (by
     show upd H1 D _ b≠none
     by_cases hbD:b=D
     ·rw[hbD,č];intro z;cases z
     ·rw[Ċ hbD];exact hb) hf⟩
    have Zb3:=ć.call gr
    exact h1 _ F2 H2 Zb3 s12 gr.h ⟨D,ys,rfl,hH2,fD,ć.base.free hD,ć.bx gr.f (ć.fresh hD),ra⟩
def JT(N':List Str)(js:List Nat)(nl:Nat)(sc:Scope)(hsc:X.env.scope=sc)(hcalm:X.calm=true)
 (hi:PI X.Ň tg iter (tG (kk X cm) E (Eo (kk X cm)) mi))(hg:∀cl C s H fp,PG (bh X.Ň N' scope cl C s H fp) tg (tT (kk X cm) g))(ht:∀cl C s H fp,Iu (bh X.Ň N' scope cl C s H fp) ifs (tB (kk X cm) EF mt))(he:∀cl C s H fp,PE (bh X.Ň N' scope cl C s H fp) elt (tV (kk X cm) EF me))
 (hcap:gn X.Ň sc scope N' js)(hlen:js.length+nl=N'.length:=by rfl)
 (hk:scope.kind=.function:=by rfl)(hcell:∀y∈scope.names,y.2=.cell->scope.names.lookup y.1=some .cell:=by decide +kernel)(hnames:∀y∈scope.names,y.2=.local->scope.names.lookup y.1=some .local:=by decide +kernel)
 (hfree:∀y∈scope.names,y.2=.free->(sc.names.lookup y.1=some .cell\/sc.names.lookup y.1=some .free):=by decide +kernel)
 (hs:∀x,foldedSetIterable iter X.env x=pure x:=by intro _;rfl) :
 PE X (.ListComp elt [⟨tg,iter,ifs,0⟩] scope pos) (tO (kk X cm) E (aP js nl mi g mt me)):=
 PE.wk (PE.Ň (Jz N' js nl sc hsc hcalm hi hg ht he hcap hlen hk hcell hnames hfree hs)) λ_ _ _ h=>uI h
end
end P
namespace P
open PySem PySem.Spec PyProof.Rows L2 M2 M3 M4
abbrev bits(x:Int):Nat:=Builtin.Int.intBits x
section
variable{X:Cx}{cm:String->Addr}{K:KK}
def Mq(K:PySem.W.Frag):R2:=λx y H Q=>∃l b xs zs,x=.ref l/\y=.ref b/\ř K H l xs/\ř K H b zs/\xs.length+zs.length<=sizeLine/\∀p,H p=none->Q (.ref p) (upd H p (.lst (xs++zs)))
def JV:ţ X (binaryOp .Add) (Mq X.K):=by
 intro pins s σ H x y v u Q I rx ry h
 obtain⟨l,b,xs,zs,rfl,rfl,hH,hB,hz,q⟩:=h
 cases rx
 cases ry
 obtain⟨its,r,pl,z⟩:=I.list hH
 obtain⟨its2,r2,pl2,z2⟩:=I.list hB
 obtain⟨⟨c1,d1,t1,sl1⟩,n,e,hc,hd,hs⟩:=pl
 obtain⟨⟨c2,d2,t2,sl2⟩,n2,e2,hc2,hd2,hs2⟩:=pl2
 simp only at hc hd hs hc2 hd2 hs2
 subst hc hd hs hc2 hd2 hs2
 have hl:=r.length
 have hl2:=r2.length
 have ea:its.toArray++its2.toArray=(its++its2).toArray:=by simp
 refine concat_meets ⟨_,e,rfl⟩ ⟨_,e2,rfl⟩ noFill_list_add seq_list_add PySem.F.slot_list_add PySem.F.entry_list_add (PySem.F.args_list_add_2 _ _) (list_addW l b its.toArray its2.toArray n n2 none none sl1 sl2 (by simp only[List.size_toArray];omega)) ⟨e,e2,?_⟩
 rw[ea]
 exact⟨.ref _,_,I.ZbQ (t':=s.toks) (r.append r2) (by rw[List.length_append];omega),rfl,q _ I.fresh⟩
def Mr(K:PySem.W.Frag):R2:=λx y H Q=>∃l b xs zs,x=.ref l/\y=.ref b/\aG K H l xs/\aG K H b zs/\xs≠[]/\zs≠[]/\xs.length+zs.length<=sizeLine/\∀p,H p=none->Q (.ref p) (upd H p (.tup (xs++zs)))
def JW:ţ X (binaryOp .Add) (Mr X.K):=by
 intro pins s σ H x y v u Q I rx ry h
 obtain⟨l,b,xs,zs,rfl,rfl,hH,hB,nx,nz,hz,q⟩:=h
 cases rx
 cases ry
 obtain⟨its,r,pl,z⟩:=I.tuple hH
 obtain⟨its2,r2,pl2,z2⟩:=I.tuple hB
 obtain⟨⟨c1,d1,t1,sl1⟩,e,hc,n,hd⟩:=pl
 obtain⟨⟨c2,d2,t2,sl2⟩,e2,hc2,n2,hd2⟩:=pl2
 simp only at hc hd hc2 hd2
 subst hc hd hc2 hd2
 have hl:=r.length
 have hl2:=r2.length
 have ne1:its≠[]:=λz=>by rw[z] at hl;exact nx (List.length_eq_zero_iff.mp hl)
 have ne2:its2≠[]:=λz=>by rw[z] at hl2;exact nz (List.length_eq_zero_iff.mp hl2)
 have ea:its.toArray++its2.toArray=(its++its2).toArray:=by simp
 refine concat_meets ⟨_,e,rfl⟩ ⟨_,e2,rfl⟩ noFill_tuple_add seq_tuple_add PySem.F.slot_tuple_add PySem.F.entry_tuple_add (PySem.F.args_tuple_add_2 _ _) (tuple_addW2 l b its.toArray its2.toArray n n2 d1 d2 sl1 sl2 (by simpa using ne1) (by simpa using ne2) (by simp only[List.size_toArray];omega)) ⟨e,e2,?_⟩
 rw[ea]
 exact⟨.ref _,_,I.laid (o:=.tup (xs++zs)) (t':=s.toks) (λ_ _ q=>Heap.get?_push_of_some _ q) (Nat.le_refl _) ⟨by rw[List.length_append];omega,(its++its2),r.append r2,⟨_,Heap.get?_push_size _ rfl,rfl,_,rfl⟩⟩,rfl,q _ I.fresh⟩
def Ģ:PV->PV->Option RV
 | .int i,.int j=>some (.sh (.int (i+j)))
 | .str i,.str j=>if i.length+j.length<=16777216 then some (.sh (.str (i++j))) else none
 | .lst ps,.lst qs=>if ps.length+qs.length<=16777216 then some (.ow (ps++qs)) else none
 | .tup (p::ps),.tup (q::qs)=>if(p::ps).length+(q::qs).length<=16777216 then some (.sh (.tup ((p::ps)++(q::qs)))) else none
 |_,_=>none
def Ms(K:PySem.W.Frag):R2:=λx y H Q=>Xn x y H Q\/(Mq K x y H Q\/Mr K x y H Q)
def SX:ţ X (binaryOp .Add) (Ms X.K):=RN.or (JV.or JW)
def S_:OpO K (Ms K.K) Ģ:=by
 intro c F H σ ρ p q pv v u Q rel r1 r2 e k
 unfold Ģ at e
 split at e
 ·cases e
  cases r1.int
  cases r2.int
  exact .inl (k _ F H rel (Same.refl _) (Same.refl _) (Rep.int (K:=K) (F:=F)))
 ·split at e
  ·rename_i hz
   cases e
   cases r1.str
   cases r2.str
   exact .inl ⟨by rw[ě];exact hz,k _ F H rel (Same.refl _) (Same.refl _) (Rep.str (K:=K) (F:=F))⟩
  ·cases e
 ·split at e
  ·rename_i hz
   cases e
   obtain⟨a,xs,rfl,h1,h2⟩:=r1.lst rel.sub
   obtain⟨b,ys,rfl,h3,h4⟩:=r2.lst rel.sub
   refine .inr (.inl ⟨a,b,xs,ys,rfl,rfl,h1,h3,by rw[<-h2.length,<-h4.length,ě];exact hz,λd hd=>?_⟩)
   obtain⟨q1,q2⟩:=Ż rel hd (Ć.append h2 h4)
   exact k _ F _ q1 (Same.refl _) (Same.upd hd) q2
  ·cases e
 ·split at e
  ·rename_i hz
   cases e
   obtain⟨a,xs,rfl,h1,h2⟩:=r1.tup rel.sub
   obtain⟨b,ys,rfl,h3,h4⟩:=r2.tup rel.sub
   have l1:=h2.length
   have l2:=h4.length
   refine .inr (.inr ⟨a,b,xs,ys,rfl,rfl,h1,h3,(λz=>by rw[z] at l1;cases l1),(λz=>by rw[z] at l2;cases l2),by rw[<-l1,<-l2,ě];exact hz,λl hl=>k _ _ _ (rel.alloc hl) (Same.upd (rel.sub.free hl)) (Same.upd hl) ?_⟩)
   show Rep K _ _ _
   unfold Rep
   exact⟨l,xs++ys,rfl,č,Ć.same (Same.upd (rel.sub.free hl)) _ _ (Ć.append h2 h4)⟩
  ·cases e
 ·cases e
def Az(g:Int->Int->Int):PV->PV->Option PV
 | .int i,.int j=>some (.int (g i j))
 |_,_=>none
def Ir(C:Int->Int->Bool)(g:Int->Int->Int):PV->PV->Option PV
 | .int i,.int j=>if C i j=true then some (.int (g i j)) else none
 |_,_=>none
def opC(g:Int->Int->Bool):PV->PV->Option PV
 | .int i,.int j=>some (.bl (g i j))
 |_,_=>none
def Ye{g:Int->Int->Int}:jy K (Jv λi j=>.int (g i j)) (Az g):=by
 intro c F H σ ρ p q pv v u Q rel r1 r2 e k
 unfold Az at e
 split at e
 ·cases e
  cases r1.int
  cases r2.int
  exact k _ F H rel (Same.refl _) (Same.refl _) Rep.int
 ·cases e
def Yg{g:Int->Int->Bool}:jy K (Jv λi j=>.bl (g i j)) (opC g):=by
 intro c F H σ ρ p q pv v u Q rel r1 r2 e k
 unfold opC at e
 split at e
 ·cases e
  cases r1.int
  cases r2.int
  exact k _ F H rel (Same.refl _) (Same.refl _) Rep.bl
 ·cases e
def Tc{C:Int->Int->Bool}{C':Int->Int->Prop}{g:Int->Int->Int}(hC:∀i j,C i j=true->C' i j):jy K (mI C' λi j=>.int (g i j)) (Ir C g):=by
 intro c F H σ ρ p q pv v u Q rel r1 r2 e k
 unfold Ir at e
 split at e
 ·split at e
  ·rename_i hc
   cases e
   cases r1.int
   cases r2.int
   exact⟨hC _ _ hc,k _ F H rel (Same.refl _) (Same.refl _) Rep.int⟩
  ·cases e
 ·cases e
def bM:=Az λi j=>i-j
def Td:jy K (Jv λi j=>.int (i-j)) bM:=Ye
def gD(_ j:Int):Bool:=decide (j≠0) && decide (bits j<=8000)
def İ:=Ir gD λi j=>i.fdiv j
def Te:jy K (mI Bh λi j=>.int (i.fdiv j)) İ:=Tc λi j h=>by unfold gD at h;simpa[Bh] using h
def uJ(_ j:Int):Bool:=decide (j≠0)
def ĝ:=Ir uJ λi j=>i.fmod j
def Tf:jy K (mI (λ_ j=>j≠0) λi j=>.int (i.fmod j)) ĝ:=Tc λi j h=>by unfold uJ at h;simpa using h
def uK(i j:Int):Bool:=decide (0<=j) && decide (j.natAbs<=1000000) && decide (i.natAbs<18446744073709551616)
def bN:=Ir uK λi j=>i ^ j.toNat
def bC:jy K (mI Rk λi j=>.int (i ^ j.toNat)) bN:=Tc λi j h=>by
 unfold uK at h
 simp only[Bool.and_eq_true,decide_eq_true_eq] at h
 exact⟨h.1.1,by omega,by have:=h.2;simpa using this⟩
def oW:=opC λi j=>decide (i<j)
def jW:=opC λi j=>decide (i<=j)
def jB:jy K (Jv λi j=>.bl (decide (i<j))) oW:=Yg
def eU:jy K (Jv λi j=>.bl (decide (i<=j))) jW:=Yg
def ō(i j:Int):Bool:=decide (i.natAbs<18446744073709551616) || decide (j.natAbs<18446744073709551616) || (decide (bits i<=1048576) && decide (bits j<=1048576))
def Ep{i j:Int}(h:ō i j=true):pO i j:=by
 unfold ō at h
 simp only[Bool.or_eq_true,Bool.and_eq_true,decide_eq_true_eq] at h
 rcases h with(h|h)|h
 ·exact .inl (.inl ⟨by omega,by omega⟩)
 ·exact .inl (.inr ⟨by omega,by omega⟩)
 ·exact .inr h
def ģ:PV->PV->Option PV
 | .int i,.int j=>if ō i j=true then some (.int (i*j)) else none
 | .str z,.int n=>if 0<=n/\n<=1000/\z.length<=1000 then some (.str (S (List.replicate n.toNat z.cps.toList).flatten)) else none
 |_,_=>none
def Ti:jy K DP ģ:=by
 intro c F H σ ρ p q pv v u Q rel r1 r2 e k
 unfold ģ at e
 split at e
 ·split at e
  ·rename_i hc
   cases e
   cases r1.int
   cases r2.int
   exact⟨Ep hc,k _ F H rel (Same.refl _) (Same.refl _) Rep.int⟩
  ·cases e
 ·split at e
  ·rename_i hc
   cases e
   cases r1.str
   cases r2.int
   exact⟨hc,k _ F H rel (Same.refl _) (Same.refl _) Rep.str⟩
  ·cases e
 ·cases e
variable{E:L2.St->XK}{a b e:Expr}{es:List Expr}{pos:Pos}{ma mb:M PV}{mr:M (List PV)}
def yP:PV->Option PV
 | .int i=>some (.int (-i))
 |_=>none
def Tj:UnV K (mU λi=>.int (-i)) yP:=by
 intro c F H σ ρ p pv v Q rel r1 e k
 unfold yP at e
 split at e
 ·cases e
  cases r1.int
  exact k _ F H rel (Same.refl _) (Same.refl _) Rep.int
 ·cases e
mutual
def eqB:PV->PV->Bool
 | .non,.non=>true
 | .bl a,.bl b=>a== b
 | .bl a,.int j=>(if a then 1 else 0)== j
 | .int i,.bl b=>i== (if b then 1 else 0)
 | .int i,.int j=>i== j
 | .str x,.str y=>x== y
 | .lst xs,.lst ys=>q_ xs ys
 | .tup xs,.tup ys=>q_ xs ys
 |_,_=>false
def q_:List PV->List PV->Bool
 | [],[]=>true
 |x::xs,y::ys=>eqB x y && q_ xs ys
 |_,_=>false
end
mutual
def aq:PV->Bool
 | .non| .bl _| .int _=>true
 | .str x=>PyData.strOk x
 | .lst xs=>mD xs
 | .tup xs=>mD xs
 |_=>false
def mD:List PV->Bool
 | []=>true
 |x::xs=>aq x && mD xs
end
mutual
def dep:PV->Nat
 | .lst xs=>Bk xs+1
 | .tup xs=>Bk xs+1
 |_=>0
def Bk:List PV->Nat
 | []=>0
 |x::xs=>max (dep x) (Bk xs)
end
mutual
def toD:PV->PyData
 | .non=>.none
 | .bl b=>.bool b
 | .int i=>.int i
 | .str x=>.str x
 | .lst xs=>.list (dY xs)
 | .tup xs=>.tuple (dY xs)
 |_=>.none
def dY:List PV->List PyData
 | []=>[]
 |x::xs=>toD x::dY xs
end
mutual
theorem gF:∀p:PV,aq p=true->(toD p).canLay0=true
 | .non,_=>rfl
 | .bl _,_=>rfl
 | .int _,_=>rfl
 | .str x,h=>by unfold aq at h;unfold toD PyData.canLay0;exact h
 | .lst xs,h=>by unfold aq at h;unfold toD PyData.canLay0;exact mF xs h
 | .tup xs,h=>by unfold aq at h;unfold toD PyData.canLay0;exact mF xs h
 | .ins _ _ _,h=>by simp[aq] at h
 | .xc _ _ _,h=>by simp[aq] at h
 | .ty _,h=>by simp[aq] at h
 | .cls _,h=>by simp[aq] at h
theorem mF:∀ps:List PV,mD ps=true->PyData.canLayAll0 (dY ps)=true
 | [],_=>rfl
 |p::ps,h=>by
  unfold mD at h
  rw[Bool.and_eq_true] at h
  unfold dY PyData.canLayAll0
  rw[gF p h.1,mF ps h.2]
  rfl
end
mutual
theorem gG:∀p:PV,(toD p).depth=dep p
 | .non=>rfl
 | .bl _=>rfl
 | .int _=>rfl
 | .str x=>rfl
 | .lst xs=>by unfold toD PyData.depth dep;rw[mG xs]
 | .tup xs=>by unfold toD PyData.depth dep;rw[mG xs]
 | .ins _ _ _=>rfl
 | .xc _ _ _=>rfl
 | .ty _=>rfl
 | .cls _=>rfl
theorem mG:∀ps:List PV,PyData.depthAll (dY ps)=Bk ps
 | []=>rfl
 |p::ps=>by unfold dY PyData.depthAll Bk;rw[gG p,mG ps]
end
mutual
theorem wQ:∀p q:PV,aq p=true->aq q=true->PyData.eqv (toD p) (toD q)=eqB p q
 | .lst xs,.lst ys,h1,h2=>by
   unfold aq at h1 h2
   unfold toD eqB PyData.eqv
   exact rm xs ys h1 h2
 | .tup xs,.tup ys,h1,h2=>by
   unfold aq at h1 h2
   unfold toD eqB PyData.eqv
   exact rm xs ys h1 h2
 | .ins _ _ _,_,h,_=>by simp[aq] at h
 | .xc _ _ _,_,h,_=>by simp[aq] at h
 | .ty _,_,h,_=>by simp[aq] at h
 | .cls _,_,h,_=>by simp[aq] at h
 | .non,q,_,h=>by cases q<;>first|rfl|(simp[aq] at h)|(simp[toD,eqB,PyData.eqv])
 | .bl _,q,_,h=>by cases q<;>first|rfl|(simp[aq] at h)|(simp[toD,eqB,PyData.eqv])
 | .int _,q,_,h=>by cases q<;>first|rfl|(simp[aq] at h)|(simp[toD,eqB,PyData.eqv])
 | .str _,q,_,h=>by cases q<;>first|rfl|(simp[aq] at h;done)|(simp[toD,eqB,PyData.eqv])
 | .lst _,.non,_,_=>by simp[toD,eqB,PyData.eqv]
 | .lst _,.bl _,_,_=>by simp[toD,eqB,PyData.eqv]
 | .lst _,.int _,_,_=>by simp[toD,eqB,PyData.eqv]
 | .lst _,.str _,_,_=>by simp[toD,eqB,PyData.eqv]
 | .lst _,.tup _,_,_=>by simp[toD,eqB,PyData.eqv]
 | .lst _,.ins _ _ _,_,h=>by simp[aq] at h
 | .lst _,.xc _ _ _,_,h=>by simp[aq] at h
 | .lst _,.ty _,_,h=>by simp[aq] at h
 | .lst _,.cls _,_,h=>by simp[aq] at h
 | .tup _,.non,_,_=>by simp[toD,eqB,PyData.eqv]
 | .tup _,.bl _,_,_=>by simp[toD,eqB,PyData.eqv]
 | .tup _,.int _,_,_=>by simp[toD,eqB,PyData.eqv]
 | .tup _,.str _,_,_=>by simp[toD,eqB,PyData.eqv]
 | .tup _,.lst _,_,_=>by simp[toD,eqB,PyData.eqv]
 | .tup _,.ins _ _ _,_,h=>by simp[aq] at h
 | .tup _,.xc _ _ _,_,h=>by simp[aq] at h
 | .tup _,.ty _,_,h=>by simp[aq] at h
 | .tup _,.cls _,_,h=>by simp[aq] at h
theorem rm:∀ps qs:List PV,mD ps=true->mD qs=true->PyData.eqvAll (dY ps) (dY qs)=q_ ps qs
 | [],[],_,_=>by simp[dY,q_,PyData.eqvAll]
 | [],_::_,_,_=>by simp[dY,q_,PyData.eqvAll]
 |_::_,[],_,_=>by simp[dY,q_,PyData.eqvAll]
 |p::ps,q::qs,h1,h2=>by
  unfold mD at h1 h2
  rw[Bool.and_eq_true] at h1 h2
  unfold dY q_ PyData.eqvAll
  rw[wQ p q h1.1 h2.1,rm ps qs h1.2 h2.2]
end
mutual
theorem Er{F:Hp}:∀(p:PV) (v:V),aq p=true->Rep K F p v->Rp K.K F (toD p) v
 | .non,_,_,r=>by unfold Rep at r;unfold toD Rp;exact r
 | .bl _,_,_,r=>by unfold Rep at r;unfold toD Rp;exact r
 | .int _,_,_,r=>by unfold Rep at r;unfold toD Rp;exact r
 | .str _,_,_,r=>by unfold Rep at r;unfold toD Rp;exact r
 | .lst xs,_,h,r=>by
   unfold aq at h
   unfold Rep at r
   unfold toD Rp
   obtain⟨a,vs,h1,h2,h3⟩:=r
   exact⟨a,vs,h1,h2,k_ xs vs h h3⟩
 | .tup xs,_,h,r=>by
   unfold aq at h
   unfold Rep at r
   unfold toD Rp
   obtain⟨a,vs,h1,h2,h3⟩:=r
   exact⟨a,vs,h1,aG.of h2,k_ xs vs h h3⟩
 | .ins _ _ _,_,h,_=>by simp[aq] at h
 | .xc _ _ _,_,h,_=>by simp[aq] at h
 | .ty _,_,h,_=>by simp[aq] at h
 | .cls _,_,h,_=>by simp[aq] at h
theorem k_{F:Hp}:∀(ps:List PV) (vs:List V),mD ps=true->Ć K F ps vs->oM K.K F (dY ps) vs
 | [],_,_,r=>by unfold Ć at r;unfold dY oM;exact r
 |p::ps,_,h,r=>by
  unfold mD at h
  rw[Bool.and_eq_true] at h
  unfold Ć at r
  unfold dY oM
  obtain⟨x,t,h1,h2,h3⟩:=r
  exact⟨x,t,h1,Er p x h.1 h2,k_ ps t h.2 h3⟩
end
def lq{c:Ctx}{F H:Hp}{σ:L2.St}{ρ:Ĳ}{p:PV}{v:V}(s:Same F H)(h:aq p=true)(r:rR K c σ ρ F H p v):Rp K.K H (toD p) v:=by
 rcases r with r|r
 ·exact Rp.same s _ _ (Er p v h r)
 ·cases p with
  |lst ps=>
   obtain⟨a,vs,rfl,h3,h4⟩:=r
   unfold aq at h
   unfold toD Rp
   exact⟨a,vs,rfl,ř.of h3,oM.same s _ _ (k_ ps vs h h4)⟩
  |ins C ns ps=>simp[aq] at h
  |_=>exact r.elim
def Bm(p q:PV):Bool:=aq p && aq q && decide (min (dep p) (dep q)<=60)
def Ŋ(p q:PV):Option PV:=if Bm p q=true then some (.bl (eqB p q)) else none
def gH(p q:PV):Option PV:=if Bm p q=true then some (.bl (!eqB p q)) else none
def Mt:jy K (Jx K.K false) Ŋ:=by
 intro c F H σ ρ p q pv v u Q rel r1 r2 e k
 unfold Ŋ at e
 split at e
 ·rename_i hz
  cases e
  unfold Bm at hz
  simp only[Bool.and_eq_true,decide_eq_true_eq] at hz
  refine⟨toD p,toD q,lq rel.sub hz.1.1 r1,lq rel.sub hz.1.2 r2,gF p hz.1.1,gF q hz.1.2,by rw[gG,gG];exact hz.2,?_⟩
  rw[wQ p q hz.1.1 hz.1.2]
  exact k _ F H rel (Same.refl _) (Same.refl _) Rep.bl
 ·cases e
def Mu:jy K (Jx K.K true) gH:=by
 intro c F H σ ρ p q pv v u Q rel r1 r2 e k
 unfold gH at e
 split at e
 ·rename_i hz
  cases e
  unfold Bm at hz
  simp only[Bool.and_eq_true,decide_eq_true_eq] at hz
  refine⟨toD p,toD q,lq rel.sub hz.1.1 r1,lq rel.sub hz.1.2 r2,gF p hz.1.1,gF q hz.1.2,by rw[gG,gG];exact hz.2,?_⟩
  rw[wQ p q hz.1.1 hz.1.2]
  exact k _ F H rel (Same.refl _) (Same.refl _) Rep.bl
 ·cases e
def pX:PV->Bool
 | .non=>true
 |_=>false
def rC(p q:PV):Option PV:=match q with
 | .non=>some (.bl (pX p))
 |_=>none
def gJ(p q:PV):Option PV:=match q with
 | .non=>some (.bl (!pX p))
 |_=>none
def yQ{c:Ctx}{F H:Hp}{σ:L2.St}{ρ:Ĳ}{p:PV}{v:V}(r:rR K c σ ρ F H p v):decide (v=.non)=pX p:=by
 rcases r with r|r
 ·cases p<;>unfold Rep at r<;>first
   |(subst r;rfl)
   |(obtain⟨a,xs,rfl,_⟩:=r;rfl)
   |(obtain⟨a,xs,ys,rfl,_⟩:=r;rfl)
 ·cases p with
  |lst ps=>obtain⟨a,vs,rfl,_⟩:=r;rfl
  |ins C ns ps=>obtain⟨a,dx,fs,rfl,_⟩:=r;rfl
  |_=>exact r.elim
def pY:jy K (λx y H Q=>y=.non/\Q (.bl (decide (x=.non))) H) rC:=by
 intro c F H σ ρ p q pv v u Q rel r1 r2 e k
 unfold rC at e
 split at e
 ·cases e
  refine⟨r2.non,?_⟩
  rw[yQ r1]
  exact k _ F H rel (Same.refl _) (Same.refl _) Rep.bl
 ·cases e
def uL:jy K (λx y H Q=>y=.non/\Q (.bl (!decide (x=.non))) H) gJ:=by
 intro c F H σ ρ p q pv v u Q rel r1 r2 e k
 unfold gJ at e
 split at e
 ·cases e
  refine⟨r2.non,?_⟩
  rw[yQ r1]
  exact k _ F H rel (Same.refl _) (Same.refl _) Rep.bl
 ·cases e
def ę:PV->PV->Option PV
 | .lst ps,.int i=>lU ps i
 | .tup ps,.int i=>lU ps i
 | .str z,.int i=>if z.length<=16777216 then(lU z.cps.toList i).map λc=>.str ⟨#[c]⟩ else none
 |_,_=>none
def yR{F:Hp}{ps:List PV}{vs:List V}{i:Int}{p:PV}(r:Ć K F ps vs)(h:lU ps i=some p):∃v,lU vs i=some v/\Rep K F p v:=by
 unfold lU at h ⊢
 rw[r.length] at h
 cases e:Mg vs.length i with
 |none=>rw[e] at h;cases h
 |some j=>
  rw[e] at h
  obtain⟨v,h1,h2⟩:=ź r.pr h
  exact⟨v,h1,h2⟩
def Yh:jy K (mIx K.K) ę:=by
 intro c F H σ ρ p q pv v u Q rel r1 r2 e k
 unfold ę at e
 split at e
 ·obtain⟨a,vs,rfl,h1,h2⟩:=r1.lst rel.sub
  cases r2.int
  obtain⟨x,h3,h4⟩:=yR h2 e
  exact⟨vs,x,.inl h1,h3,k _ F H rel (Same.refl _) (Same.refl _) h4⟩
 ·obtain⟨a,vs,rfl,h1,h2⟩:=r1.tup rel.sub
  cases r2.int
  obtain⟨x,h3,h4⟩:=yR h2 e
  exact⟨vs,x,.inr h1,h3,k _ F H rel (Same.refl _) (Same.refl _) h4⟩
 ·split at e
  ·rename_i z i hz
   cases r1.str
   cases r2.int
   cases ea:lU z.cps.toList i with
   |none=>rw[ea] at e;cases e
   |some cc=>
    rw[ea] at e
    cases e
    exact⟨cc,by rw[ě];exact hz,ea,k _ F H rel (Same.refl _) (Same.refl _) Rep.str⟩
  ·cases e
 ·cases e
def JX:M (Option Int):=λρ=>.ok none ρ
def mP(m:M PV):M (Option Int):=λρ=>(m ρ).bind λp ρ1=>match p with
 | .int i=>.ok (some i) ρ1
 |_=>.bad
abbrev tP(K:KK)(E:L2.St->XK)(m:M (Option Int)):TO:=tG K E rI m
def Es:PO X none (tP (kk X cm) E JX):=λpins s σ H Q I h=>Jm pins s σ H Q I (by
 obtain⟨c,F,ρ,rel,h⟩:=h
 exact h none F H rel (Same.refl _) (Same.refl _) rfl)
def iV(ha:PE X e (tV (kk X cm) E ma)):PO X (some e) (tP (kk X cm) E (mP ma)):=λpins s σ H Q I h=>Dl ha pins s σ H Q I (by
 obtain⟨c,F,ρ,rel,h⟩:=h
 refine⟨c,F,ρ,rel,h.bind λp ρ1 v F1 H1 ć _ _ r1 h1=>?_⟩
 cases p with
 |int i=>
  have e:v=.int i:=by have r1':Rep (kk X cm) F1 (.int i) v:=r1;unfold Rep at r1';exact r1'
  subst e
  exact h1 (some i) F1 H1 ć (Same.refl _) (Same.refl _) rfl
 |_=>exact h1.elim)
def mH{α:Type}(xs:List α)(lo hi:Option Int):List α:= (xs.drop (HT.gb xs.length 0 lo)).take (HT.gb xs.length xs.length hi-HT.gb xs.length 0 lo)
def slF(p:PV)(lo hi:Option Int):Option RV:=match p with
 | .lst ps=>some (.ow (mH ps lo hi))
 | .str z=>if z.length<=16777216 then some (.sh (.str (S (mH z.cps.toList lo hi)))) else none
 |_=>none
def Wa(ma:M PV)(ml mh:M (Option Int)):M RV:=λρ=>(ma ρ).bind λp ρ1=>(ml ρ1).bind λlo ρ2=>(mh ρ2).bind λhi ρ3=>Res.kZ (slF p lo hi) ρ3
def lu{ml mh:M (Option Int)}{lo hi:Option Expr}{p2:Pos}(ha:PE X a (tR (kk X cm) E ma))(hl:PO X lo (tP (kk X cm) E ml))(hh:PO X hi (tP (kk X cm) E mh)):PE X (.Subscript a (.Slice lo hi none p2) pos) (tO (kk X cm) E (Wa ma ml mh)):=
 PE.wk (C_ slm ha hl hh) fun σ H Q ⟨c,F,ρ,rel,h⟩=>⟨c,F,ρ,rel,h.bind fun p ρ1 v F1 H1 ć _ _ r1 h1=>⟨c,F1,ρ1,ć,h1.bind fun lo ρ2 lo' F2 H2 Ğ sF sH r2 h2=>⟨c,F2,ρ2,Ğ,h2.bind fun hi ρ3 hi' F3 H3 gC sF3 sH3 r3 h3=>by
   have e2:lo=lo':=r2
   have e3:hi=hi':=r3
   subst e2 e3
   have r1':rR (kk X cm) c σ ρ3 F3 H3 p v:=r1.mono (sF.trans sF3) (sH.trans sH3)
   cases p with
   |lst ps=>
    obtain⟨a,vs,rfl,q1,q2⟩:=r1'.lst gC.sub
    refine⟨vs,q1,λd hd=>?_⟩
    have e:Ć (kk X cm) F3 (mH ps lo hi) (uh vs lo hi):=by
     unfold mH uh
     rw[q2.length]
     exact Ć.of (yF _ (yG _ q2.pr))
    obtain⟨z1,z2⟩:=Ż gC hd e
    exact h3 _ F3 _ z1 (Same.refl _) (Same.upd hd) z2
   |str z=>
    cases r1'.str
    unfold slF at h3
    dsimp only at h3
    split at h3
    ·rename_i hz
     exact⟨by rw[ě];exact hz,h3 _ F3 H3 gC (Same.refl _) (Same.refl _) (Rep.str (K:=kk X cm) (F:=F3))⟩
    ·exact h3.elim
   |_=>exact h3.elim⟩⟩⟩
def Mv{c:Ctx}{F H:Hp}{σ:L2.St}{ρ:Ĳ}{p:PV}{vs:List V}(h:Xz K c σ ρ F H [p] vs):∃v,vs=[v]/\rR K c σ ρ F H p v:=by
 cases h with
 |cons r t=>cases t;exact⟨_,rfl,r⟩
def rl2{c:Ctx}{F H:Hp}{σ:L2.St}{ρ:Ĳ}{p q:PV}{vs:List V}(h:Xz K c σ ρ F H [p,q] vs):∃v u,vs=[v,u]/\rR K c σ ρ F H p v/\rR K c σ ρ F H q u:=by
 cases h with
 |cons r t=>
  cases t with
  |cons r' t=>cases t;exact⟨_,_,rfl,r,r'⟩
def iW:List PV->Option PV
 | [.lst ps]=>some (.int ps.length)
 | [.tup ps]=>some (.int ps.length)
 | [.str z]=>if z.length<=16777216 then some (.int z.length) else none
 |_=>none
def cB:jA K (RW K.K) iW:=by
 intro c F H σ ρ ps pv vs Q rel r e k
 unfold iW at e
 split at e
 ·cases e
  obtain⟨v,rfl,r1⟩:=Mv r
  obtain⟨a,xs,rfl,h1,h2⟩:=r1.lst rel.sub
  refine⟨xs,.inl h1,?_⟩
  rw[<-h2.length]
  exact k _ F H rel (Same.refl _) (Same.refl _) Rep.int
 ·cases e
  obtain⟨v,rfl,r1⟩:=Mv r
  obtain⟨a,xs,rfl,h1,h2⟩:=r1.tup rel.sub
  refine⟨xs,.inr h1,?_⟩
  rw[<-h2.length]
  exact k _ F H rel (Same.refl _) (Same.refl _) Rep.int
 ·split at e
  ·rename_i hz
   cases e
   obtain⟨v,rfl,r1⟩:=Mv r
   cases r1.str
   exact⟨by rw[ě];exact hz,k _ F H rel (Same.refl _) (Same.refl _) Rep.int⟩
  ·cases e
 ·cases e
def eV:List PV->Option RV
 | [.lst ps]=>some (.ow ps)
 | [.tup ps]=>some (.ow ps)
 |_=>none
def yS(K:PySem.W.Frag):List V->Hp->VK->Prop:=λxs H Q=>∃p ys,xs=[.ref p]/\(ř K H p ys\/aG K H p ys)/\∀l,H l=none->Q (.ref l) (upd H l (.lst ys))
def aQ:ŝ X (.type "list") (yS X.K):=qT
def aR:Ed K (yS K.K) eV:=by
 intro c F H σ ρ ps pv vs Q rel r e k
 unfold eV at e
 split at e
 ·cases e
  obtain⟨v,rfl,r1⟩:=Mv r
  obtain⟨a,xs,rfl,h1,h2⟩:=r1.lst rel.sub
  refine⟨a,xs,rfl,.inl h1,λl hl=>?_⟩
  obtain⟨q1,q2⟩:=Ż rel hl h2
  exact k _ F _ q1 (Same.refl _) (Same.upd hl) q2
 ·cases e
  obtain⟨v,rfl,r1⟩:=Mv r
  obtain⟨a,xs,rfl,h1,h2⟩:=r1.tup rel.sub
  refine⟨a,xs,rfl,.inr h1,λl hl=>?_⟩
  obtain⟨q1,q2⟩:=Ż rel hl h2
  exact k _ F _ q1 (Same.refl _) (Same.upd hl) q2
 ·cases e
def aC:PV->String->Option Bool
 | .int _,"int" =>some true
 | .int _,"bool" =>some false
 | .int _,"str" =>some false
 | .int _,"tuple" =>some false
 | .int _,"list" =>some false
 | .bl _,"int" =>some true
 | .bl _,"bool" =>some true
 | .lst _,"list" =>some true
 | .lst _,"tuple" =>some false
 | .lst _,"int" =>some false
 | .lst _,"str" =>some false
 | .tup _,"tuple" =>some true
 | .tup _,"list" =>some false
 | .tup _,"int" =>some false
 | .tup _,"str" =>some false
 | .str _,"str" =>some true
 | .str _,"int" =>some false
 | .str _,"list" =>some false
 | .str _,"tuple" =>some false
 | .non,"int" =>some false
 | .non,"str" =>some false
 | .non,"tuple" =>some false
 | .non,"list" =>some false
 |_,_=>none
end
theorem uM{K:KK}{F:Hp}:∀ns:List Int,Ć K F (ns.map .int) (ns.map V.int)
 | []=>Ć.nil
 |n::ns=>Ć.cons Rep.int (uM ns)
def Yi(K:PySem.W.Frag):Sp:=λvs H Q _=>∃(sa:Addr) (ns:List Int),vs=[.ref sa]/\ř K H sa (ns.map V.int)/\ns.length<=63/\∀v H',v=.bl true->Q v H'
def Et{l:PySem.W.OpenLaw}{k:Nat}{x:Str}{CX:iH}{m:MF}{q:Program}{loose:List Str}{XP:(Str->Option Value)->Heap->Prop}{YP:World->Heap->Prop}{d:DefRec}{K:Params->PySem.W.Frag}(hn:l.most=some 63)(hdf:d.params.defaults=[])(hr:Ş k callerA)
 (hY:∀(w:World) (h:Heap),YP w h->(K w.params).In h)
 (F:∀(w:World) (mg:Str→Option Value) (fa:Addr) (h:Heap),(K w.params).In h→h.Ns mainGlobals mg→mg d.name=some (.ref fa)→
   ∃fd:FuncData,(∀(s:Shared) (u:Value),BindsTo s fd ⟨[u],[]⟩ [(x,u)])/\∀base:Heap,(K w.params).In base->base.Ns mainGlobals mg->∃cm,ī l.prog w (K w.params) mg base CX k fa fd [x] (aB ⟨K w.params,cm⟩ 1 m))
 (ht:∀ns:List Int,ns.length<=63->m [.sh (.lst (ns.map .int))]=.ret (.sh (.bl true)))
 (Xj:∀(H:Hp) (s:Shared) (e:Value) (s':Shared),CX [] H s (λ_ _ _=>False) e s'->False)
 (hnt:lams≠[]->∀w:World,PySem.W.noTabs (K w.params)=true:=by intro z;exact absurd rfl z)(hone:∀y z,y∈lams->z∈lams->y=z:=by simp[lams])(hrec:∀y,y∈lams->∃d,(recsOf q).find? (λe=>e.name== y)=some d:=by simp[lams]) :
 PySem.W.WalkO q loose XP YP l.row.toRowW d [] (λf vs=>PySem.call f vs):=by
 refine L2.Js (n:=63) (k:=k) (x:=x) (CX:=λ_=>CX) (sp:=λw=>Yi (K w.params)) hn (by decide) hdf hr hY (λw mg fa h h1 h2 h3=>?_) (λw H a ns hl _ hS=>⟨a,ns,rfl,hS,hl,λ_ _ z=>z⟩) (λw H s e s' z=>Xj H s e s' z) hnt hone hrec
 obtain⟨fd,hb,hF⟩:=F w mg fa h h1 h2 h3
 refine⟨fd,hb,λbase k1 k2=>?_⟩
 obtain⟨cm,G⟩:=hF base k1 k2
 refine G.imp λvs H Q E hs=>?_
 obtain⟨sa,ns,rfl,hS,hl,hq⟩:=hs
 refine⟨H,[.sh (.lst (ns.map .int))],rfl,Same.refl _,.cons ?_ .nil,?_⟩
 ·show Rep _ _ _ _
  unfold Rep
  exact⟨sa,_,rfl,hS,uM ns⟩
 ·rw[ht ns hl]
  intro v F' H' g rf
  have e:v=.bl true:=qX (K:=⟨K w.params,cm⟩) (F:=F') rf
  exact hq v H' e
end P
namespace P
open PySem PySem.Spec PyProof.Rows L2 M2 M3 M4
section
variable{X:Cx}{cm:String->Addr}{K:KK}
def TyP(K:PySem.W.Frag)(H:Hp)(x:V)(t:Value):Prop:=match x with
 | .non=>t=.type "NoneType"
 | .bl _=>t=.type "bool"
 | .int _=>t=.type "int"
 | .str _=>t=.type "str"
 | .ref a=>(t=.type "list" /\∃xs,ř K H a xs)\/(t=.type "tuple" /\∃xs,aG K H a xs)\/iG K H (.ref a) t
 |_=>False
def Eu(K:PySem.W.Frag):List V->Hp->VK->Prop:=λxs H Q=>match xs with
 | [x,.ty n]=>∃t b,TyP K H x t/\PySem.W.kitOne K t (.type n)=some b/\Q (.bl b) H
 | [x,.ref C]=>∃t b,TyP K H x t/\PySem.W.kitOne K t (.ref C)=some b/\Q (.bl b) H
 |_=>False
def yU{pins:List (Addr×Obj)}{σ:L2.St}{H:Hp}{s:Shared}{A:Around}{E:Value->Shared->Prop}{Q:Value->Shared->Prop}{c:Value}{b:Bool}{x:V}{u t:Value}(I:Inv X pins σ H s)(rx:RelV x u)(ty:TyP X.K H x t)(e:PySem.W.kitOne X.K t c=some b)(h:∀tk,Q (.bool b) {s with toks:=tk}) :
 wpAny (model X.prog X.w) A (call (.builtin "isinstance") [u,c]) Q E s:=by
 cases x with
 |non=>cases(show t=_ from ty);exact bH I rx .non e h
 |bl y=>cases(show t=_ from ty);exact bH I rx (.bl y) e h
 |int y=>cases(show t=_ from ty);exact bH I rx (.int y) e h
 |str y=>cases(show t=_ from ty);exact bH I rx (.str y) e h
 |ref a=>
  cases(show u=Value.ref a from rx)
  rcases ty with⟨rfl,xs,hS⟩|⟨rfl,xs,hS⟩|ty
  ·obtain⟨its,r,⟨o,n,h1,h2,_⟩,_⟩:=I.list hS
   exact PySem.W.kia_one PySem.W.kitx_list I.kI ⟨o,h1,h2⟩ e (λz=>nomatch z) h
  ·obtain⟨its,r,⟨o,h1,h2,_⟩,_⟩:=I.tuple hS
   exact PySem.W.kia_one PySem.W.kitx_tuple I.kI ⟨o,h1,h2⟩ e (λz=>nomatch z) h
  ·exact bH I rx ty e h
 |_=>exact ty.elim
def bD:ŝ X (.builtin "isinstance") (Eu X.K):=by
 intro pins s σ H xs us Q I r h
 unfold Eu at h
 split at h
 ·obtain⟨t,b,h1,h2,h3⟩:=h
  obtain⟨u,w',rfl,r1,r2⟩:=vals2 r
  cases r2
  exact yU I r1 h1 h2 λtk=>⟨.bl b,H,I.tok _,rfl,h3⟩
 ·obtain⟨t,b,h1,h2,h3⟩:=h
  obtain⟨u,w',rfl,r1,r2⟩:=vals2 r
  cases r2
  exact yU I r1 h1 h2 λtk=>⟨.bl b,H,I.tok _,rfl,h3⟩
 ·exact h.elim
def tyN:PV->String
 | .non=> "NoneType"
 | .bl _=> "bool"
 | .int _=> "int"
 | .str _=> "str"
 | .lst _=> "list"
 | .tup _=> "tuple"
 |_=> ""
def Ew{F:PySem.W.Frag}{p:PV}{n:String}{b:Bool}(h:aC p n=some b):PySem.W.kitOne F (.type (tyN p)) (.type n)=some b:=by
 unfold aC at h
 split at h<;>first
  |(cases h;first|rfl|decide +kernel|kernel_rfl)
  |cases h
def JZ{c:Ctx}{F H:Hp}{σ:L2.St}{ρ:Ĳ}{p:PV}{v:V}(s:Same F H)(r:rR K c σ ρ F H p v)(h:∃n b,aC p n=some b):TyP K.K H v (.type (tyN p)):=by
 obtain⟨n,b,h⟩:=h
 cases p with
 |non=>cases r.non;rfl
 |bl _=>cases r.bl;rfl
 |int _=>cases r.int;rfl
 |str _=>cases r.str;rfl
 |lst ps=>
  obtain⟨a,vs,rfl,h1,h2⟩:=r.lst s
  exact .inl ⟨rfl,vs,h1⟩
 |tup ps=>
  obtain⟨a,vs,rfl,h1,h2⟩:=r.tup s
  exact .inr (.inl ⟨rfl,vs,h1⟩)
 |ins _ _ _=>simp[aC] at h
 |xc _ _ _=>simp[aC] at h
 |ty _=>simp[aC] at h
 |cls _=>simp[aC] at h
def iY:List PV->Option PV
 | [p,.ty n]=>(aC p n).map .bl
 |_=>none
def bF:jA K (Eu K.K) iY:=by
 intro c F H σ ρ ps pv vs Q rel r e k
 unfold iY at e
 split at e
 ·rename_i p n
  obtain⟨v,u,rfl,r1,r2⟩:=rl2 r
  cases r2.ty
  cases eb:aC p n with
  |none=>rw[eb] at e;cases e
  |some b=>
   rw[eb] at e
   cases e
   exact⟨_,b,JZ rel.sub r1 ⟨n,b,eb⟩,Ew eb,k _ F H rel (Same.refl _) (Same.refl _) Rep.bl⟩
 ·cases e
def boolsOf:List PV->Option (List Bool)
 | []=>some []
 | .bl b::ps=>(boolsOf ps).map (b:: ·)
 |_::_=>none
theorem pZ{F:Hp}:∀{ps:List PV} {vs:List V} {bs:List Bool},Ć K F ps vs->boolsOf ps=some bs->vs=bs.map V.bl
 | [],vs,bs,r,h=>by
   cases h
   have r':=r.pr
   cases r'
   rfl
 |p::ps,vs,bs,r,h=>by
  cases p with
  |bl b=>
   unfold boolsOf at h
   cases eb:boolsOf ps with
   |none=>rw[eb] at h;cases h
   |some cs=>
    rw[eb] at h
    cases h
    have r':=r.pr
    cases r' with
    |cons r1 t=>
     rw[qX r1,pZ (Ć.of t) eb]
     rfl
  |_=>simp[boolsOf] at h
def uN:List PV->Option PV
 | [.lst ps]=>(boolsOf ps).map λbs=>.bl (bs.all id)
 |_=>none
def wR:jA K (Sh K.K) uN:=by
 intro c F H σ ρ ps pv vs Q rel r e k
 unfold uN at e
 split at e
 ·rename_i ps
  obtain⟨v,rfl,r1⟩:=Mv r
  obtain⟨a,xs,rfl,h1,h2⟩:=r1.lst rel.sub
  cases eb:boolsOf ps with
  |none=>rw[eb] at e;cases e
  |some bs=>
   rw[eb] at e
   cases e
   refine⟨bs,by rw[<-pZ h2 eb];exact h1,k _ F H rel (Same.refl _) (Same.refl _) Rep.bl⟩
 ·cases e
def yV(_ j:Int):Bool:=decide (0<j) && decide (j.natAbs<1073741824)
def gK:List PV->Option PV
 | [.int i,.int j]=>if yV i j=true then some (.tup [.int (i / j),.int (i % j)]) else none
 |_=>none
def yW:List V->Hp->VK->Prop:=λxs H Q=>∃i j,xs=[.int i,.int j]/\Xb i j/\∀p,H p=none->Q (.ref p) (upd H p (.tup [.int (i / j),.int (i % j)]))
def Bo:ŝ X (.builtin "divmod") yW:=uf
def Bp:jA K yW gK:=by
 intro c F H σ ρ ps pv vs Q rel r e k
 unfold gK at e
 split at e
 ·split at e
  ·rename_i i j hd
   cases e
   obtain⟨v,u,rfl,r1,r2⟩:=rl2 r
   cases r1.int
   cases r2.int
   unfold yV at hd
   simp only[Bool.and_eq_true,decide_eq_true_eq] at hd
   refine⟨i,j,rfl,⟨hd.1,by omega⟩,λl hl=>k _ _ _ (rel.alloc hl) (Same.upd (rel.sub.free hl)) (Same.upd hl) ?_⟩
   unfold Rep
   exact⟨l,_,rfl,č,Ć.cons Rep.int (Ć.cons Rep.int Ć.nil)⟩
  ·cases e
 ·cases e
end
end P
namespace P
open PySem PySem.Spec PyProof.Rows L2 M2 M3 M4
section
variable{α β:Type}{ρ:Ĳ}{i j n k:Nat}{p q:PV}{ps:List PV}{m ma mb mc:M PV}{mo:M RV}{a b:M Fl}{ta tb:M Bool}{mr:M (List PV)}{f:PV->PV->Option PV}{fo:PV->PV->Option RV}{fl:List PV->Option PV}{flo:List PV->Option RV}{g:Tg}{gs:Cu}
@[simp] theorem Zdi:fM ρ=.ok .nx ρ:= rfl
@[simp] theorem Zdj:mCt ρ=.ok .ct ρ:= rfl
@[simp] theorem Zb4:(SN:M α) ρ=.bad:=rfl
@[simp] theorem Zb5:ė a b ρ=(a ρ).bind λf ρ1=>match f with| .nx=>b ρ1|f=>.ok f ρ1:=rfl
@[simp] theorem Zb6:ĳ i mo ρ=(mo ρ).bind λr ρ1=>.ok .nx (ρ1.set i r.slot):=rfl
@[simp] theorem Zb7:Į mo ρ=(mo ρ).bind λr ρ1=>.ok (.rt r) ρ1:=rfl
@[simp] theorem Zdx:mC p ρ=.ok p ρ:= rfl
@[simp] theorem Zdk:Ś m ρ=(m ρ).bind λp ρ1=>.ok (.sh p) ρ1:=rfl
@[simp] theorem Zb8:Ę mo ρ=(mo ρ).bind λr ρ1=>.ok r.val ρ1:=rfl
@[simp] theorem Zb9:(RV.sh p).val=p:=rfl
@[simp] theorem Zb_:(RV.ow ps).val=.lst ps:=rfl
@[simp] theorem Zca:(RV.sh p).slot=.sh p:=rfl
@[simp] theorem Zcb:(RV.ow ps).slot=.ow ps:=rfl
@[simp] theorem Zcc:Ą f ma mb ρ=(ma ρ).bind λp ρ1=>(mb ρ1).bind λq ρ2=>Res.kZ (f p q) ρ2:=rfl
@[simp] theorem ZaW:ĥ fo ma mb ρ=(ma ρ).bind λp ρ1=>(mb ρ1).bind λq ρ2=>Res.kZ (fo p q) ρ2:=rfl
@[simp] theorem Zdl{u:PV->Option PV}:JK u ma ρ=(ma ρ).bind λp ρ1=>Res.kZ (u p) ρ1:=rfl
@[simp] theorem Zcd:jV m ρ=(m ρ).bind λp ρ1=>Res.kZ (Sy p) ρ1:=rfl
@[simp] theorem Zdm:cF m ρ=(m ρ).bind λp ρ1=>match p with| .bl b=>.ok b ρ1|_=>.bad:=rfl
@[simp] theorem ZaX:pU ta ρ=(ta ρ).bind λb ρ1=>.ok (!b) ρ1:=rfl
@[simp] theorem ZaY:jz ta tb ρ=(ta ρ).bind λb ρ1=>if b=true then tb ρ1 else .ok false ρ1:=rfl
@[simp] theorem Zce:Eb ta tb ρ=(ta ρ).bind λb ρ1=>if b=true then .ok true ρ1 else tb ρ1:=rfl
@[simp] theorem Zcf:cj ma mb ρ=(ma ρ).bind fun p ρ1=>match p with| .bl b=>if b=true then mb ρ1 else .ok (.bl false) ρ1|_=>.bad:=by
  unfold cj
  congr
  funext p ρ1
  cases p with
  |bl b=>cases b<;>rfl
  |_=>rfl
@[simp] theorem Zcg:SJ ma ρ=(ma ρ).bind λp ρ1=>match p with| .bl b=>.ok (.bl (!b)) ρ1|_=>.bad:=rfl
@[simp] theorem Zdn{x y:M α}:dW ta x y ρ=(ta ρ).bind λb ρ1=>if b=true then x ρ1 else y ρ1:=rfl
@[simp] theorem Zch{f g:PV→PV→Option PV}:lY f g ma mb mc ρ=(ma ρ).bind fun p ρ1=>(mb ρ1).bind fun q ρ2=>(Res.kZ (f p q) ρ2).bind fun z ρ3=>match z with
  | .bl true=>(mc ρ3).bind λw ρ4=>Res.kZ (g q w) ρ4
  | .bl false=>.ok (.bl false) ρ3
  |_=>.bad:=rfl
@[simp] theorem Zci:Ė ρ=.ok [] ρ:= rfl
@[simp] theorem ZaZ:ă ma mr ρ=(ma ρ).bind λp ρ1=>(mr ρ1).bind λps ρ2=>.ok (p::ps) ρ2:=rfl
@[simp] theorem Zcj:Ŕ mr ρ=(mr ρ).bind λps ρ1=>if ps.length<=16777216 then .ok (.tup ps) ρ1 else .bad:=rfl
@[simp] theorem Zck:dX mr ρ=(mr ρ).bind λps ρ1=>if ps.length<=16777216 then .ok (.ow ps) ρ1 else .bad:=rfl
@[simp] theorem Zdo:iy fl mr ρ=(mr ρ).bind λps ρ1=>Res.kZ (fl ps) ρ1:=rfl
@[simp] theorem Zcl:qY flo mr ρ=(mr ρ).bind λps ρ1=>Res.kZ (flo ps) ρ1:=rfl
@[simp] theorem Za0{mf:MF}{ms:M (List Slot)}:Ĝ mf ms ρ=(ms ρ).bind λps ρ1=>match mf ps with| .ret r=>.ok r ρ1| .exc x=>.exc x ρ1| .bad=>.bad:=rfl
@[simp] theorem Zdp:ē i ρ=(match ρ[i]? with|some (.sh p)=>.ok p ρ|some (.ow ps)=>.ok (.lst ps) (ρ.set i (.sh (.lst ps)))|_=>.bad):=rfl
@[simp] theorem Zdq:Ā i ρ=(match ρ[i]? with|some (.sh p)=>.ok p ρ|some (.ow ps)=>.ok (.lst ps) ρ|some (.bw ps)=>.ok (.lst ps) ρ|some (.rc C ns ps)=>.ok (.ins C ns ps) ρ|_=>.bad):=rfl
@[simp] theorem Zdr:gB i ρ=(match ρ[i]? with|some (.sh p)=>.ok (.sh p) ρ|some (.ow ps)=>.ok (.ow ps) (ρ.set i .no)|_=>.bad):=rfl
@[simp] theorem Zcm:Eh g m ρ=(m ρ).bind λp ρ1=>match g p ρ1 with|some ρ2=>.ok .nx ρ2|none=>.bad:=rfl
@[simp] theorem Zds:gN i p ρ=some (ρ.set i (.sh p)):=rfl
@[simp] theorem Yj:Ō [] ρ=some ρ:= rfl
@[simp] theorem Wb:Č g gs (p::ps) ρ=(g p ρ).bind λρ1=>gs ps ρ1:=rfl
@[simp] theorem Zdt:gT n gs (.tup ps) ρ=if ps.length=n then gs ps ρ else none:=rfl
@[simp] theorem Zcn:oV i m ρ=(match ρ[i]? with
  |some (.ow _)=>(m ρ).bind λp ρ1=>match ρ1[i]? with
   |some (.ow ps)=>if ps.length<16777216 then .ok .nx (ρ1.set i (.ow (ps ++ [p]))) else .bad
   |_=>.bad
  |_=>.bad):=rfl
@[simp] theorem Zco:JX ρ=.ok none ρ:= rfl
@[simp] theorem Zdy:mP m ρ=(m ρ).bind λp ρ1=>match p with| .int i=>.ok (some i) ρ1|_=>.bad:=rfl
@[simp] theorem Zdu{ml mh:M (Option Int)}:Wa ma ml mh ρ=(ma ρ).bind λp ρ1=>(ml ρ1).bind λlo ρ2=>(mh ρ2).bind λhi ρ3=>Res.kZ (slF p lo hi) ρ3:=rfl
@[simp] theorem Zcp{lo hi:Option Int}:slF (.lst ps) lo hi=some (.ow (mH ps lo hi)):=rfl
@[simp] theorem Yk:bB m ρ=(m ρ).bind fun p ρ1=>match p with
  | .lst ps=>.ok ps ρ1
  | .tup ps=>.ok ps ρ1
  | .str z=>.ok (z.cps.toList.map λc=>.str ⟨#[c]⟩) ρ1
  |_=>.bad:=rfl
@[simp] theorem Yl{h:List PV->Option (List PV)}:Ŧ h mr ρ=(mr ρ).bind λps ρ1=>Res.kZ (h ps) ρ1:=rfl
@[simp] theorem Zcq{mi:M (List PV)}:fO mi g b ρ=(mi ρ).bind λitems ρ1=>forL g b items ρ1:=rfl
@[simp] theorem Za1{js:List Nat}{nl:Nat}{mi:M (List PV)}{mt:M Bool}{me:M PV}:aP js nl mi g mt me ρ=(mi ρ).bind fun items ρ1=>match Ů g mt me items (iU js nl ρ1) [] with
  |some ps=>.ok (.ow ps) ρ1
  |none=>.bad:=rfl
@[simp] theorem Zcr:dw ρ=.ok true ρ:= rfl
@[simp] theorem Zcs{mbd:M Fl}{as:List Slot}:ķ n k mbd as=if as.length=n then FR.of (mbd (startP k as)) else .bad:=rfl
@[simp] theorem Zct{r:RV}:FR.of (.ok (.rt r) ρ)=.ret r:=rfl
@[simp] theorem Zcu:FR.of (.ok .nx ρ)=.ret (.sh .non):=rfl
@[simp] theorem Zcv{x:PX}:FR.of (.exc x ρ)=.exc x:=rfl
@[simp] theorem Zcw:FR.of .bad=.bad:=rfl
@[simp] theorem Ym{as:List Slot}:startP k as=as++List.replicate (k-as.length) .no:=rfl
@[simp] theorem Za2:Ě ρ=.ok [] ρ:= rfl
@[simp] theorem Yn{ms:M (List Slot)}:Ĥ ma ms ρ=(ma ρ).bind λp ρ1=>(ms ρ1).bind λas ρ2=>.ok (.sh p::as) ρ2:=rfl
@[simp] theorem Yo{ms:M (List Slot)}:ĉ i ms ρ=(match(ρ[i]?).bind cG with
  |none=>.bad
  |some _=>(ms ρ).bind λas ρ2=>match(ρ2[i]?).bind cG with
   |some s=>.ok (s::as) ρ2
   |none=>.bad):=rfl
@[simp] theorem Zcx:cG (.sh p)=some (.sh p):=rfl
@[simp] theorem Zcy:cG (.ow ps)=some (.bw ps):=rfl
@[simp] theorem Zcz:cG (.bw ps)=some (.bw ps):=rfl
@[simp] theorem ZcA:iT (.sh p)=.sh p:=rfl
@[simp] theorem ZcB:iT (.ow ps)=.bw ps:=rfl
@[simp] theorem ZcC:iT (.bw ps)=.bw ps:=rfl
@[simp] theorem ZcD{t:Bool}{kvs:List (DK×PV)}:iT (.od t kvs)=.bd t kvs:=rfl
@[simp] theorem ZcE{t:Bool}{kvs:List (DK×PV)}:iT (.bd t kvs)=.bd t kvs:=rfl
@[simp] theorem ZcF{js:List Nat}{nl:Nat}:iU js nl ρ=js.map (λ(j:Nat)=>iT ((ρ[j]?).getD .no))++List.replicate nl .no:=rfl
@[simp] theorem ZcG:cA i ρ=(match ρ[i]? with
  |some (.bw ps)=>.ok ps ρ
  |some (.sh (.lst ps))=>.ok ps ρ
  |some (.sh (.tup ps))=>.ok ps ρ
  |some (.sh (.str z))=>.ok (z.cps.toList.map λc=>.str ⟨#[c]⟩) ρ
  |some (.ow ps)=>.ok ps (ρ.set i (.sh (.lst ps)))
  |_=>.bad):=rfl
@[simp] theorem Za3{x y:Int}:Ģ (.int x) (.int y)=some (.sh (.int (x+y))):=rfl
@[simp] theorem Za4{x y:Int}:bM (.int x) (.int y)=some (.int (x-y)):=rfl
@[simp] theorem Za5{x y:Int}:ģ (.int x) (.int y)=if ō x y=true then some (.int (x*y)) else none:=rfl
@[simp] theorem Za6{x y:Int}:İ (.int x) (.int y)=if gD x y=true then some (.int (x.fdiv y)) else none:=rfl
@[simp] theorem rD{x y:Int}:ĝ (.int x) (.int y)=if uJ x y=true then some (.int (x.fmod y)) else none:=rfl
@[simp] theorem J_{x y:Int}:bN (.int x) (.int y)=if uK x y=true then some (.int (x ^ y.toNat)) else none:=rfl
@[simp] theorem Za7{x:Int}:yP (.int x)=some (.int (-x)):=rfl
@[simp] theorem ZcH{x y:Int}:oW (.int x) (.int y)=some (.bl (decide (x<y))):=rfl
@[simp] theorem ZcI{x y:Int}:jW (.int x) (.int y)=some (.bl (decide (x<=y))):=rfl
@[simp] theorem ZcJ{x y:Int}:Ŋ (.int x) (.int y)=some (.bl (decide (x=y))):=by
  have h:eqB (.int x) (.int y)=decide (x=y):=by rw[eqB.eq_def];rfl
  rw[<-h];rfl
@[simp] theorem ZcK{x y:Int}:gH (.int x) (.int y)=some (.bl (!decide (x=y))):=by
  have h:eqB (.int x) (.int y)=decide (x=y):=by rw[eqB.eq_def];rfl
  rw[<-h];rfl
@[simp] theorem ZcL{x y:Bool}:Ŋ (.bl x) (.bl y)=some (.bl (x== y)):=rfl
@[simp] theorem ZcM{x y:Bool}:gH (.bl x) (.bl y)=some (.bl (!(x== y))):=rfl
@[simp] theorem ZcN{p:PV}:rC p .non=some (.bl (pX p)):=rfl
@[simp] theorem Za8{p:PV}:gJ p .non=some (.bl (!pX p)):=rfl
@[simp] theorem wU{x:Int}:ę (.lst ps) (.int x)=lU ps x:=rfl
@[simp] theorem ZcO{x:Int}:ę (.tup ps) (.int x)=lU ps x:=rfl
@[simp] theorem Za9:iW [.lst ps]=some (.int ps.length):=rfl
@[simp] theorem Za_:iW [.tup ps]=some (.int ps.length):=rfl
@[simp] theorem Yp:eV [.lst ps]=some (.ow ps):=rfl
@[simp] theorem Yq:eV [.tup ps]=some (.ow ps):=rfl
@[simp] theorem ZcP{t:String}:iY [p,.ty t]=(aC p t).map .bl:=rfl
@[simp] theorem Zba{x:Bool}:Sy (.bl x)=some x:=rfl
@[simp] theorem Zbb{x:Int}:Sy (.int x)=some (x != 0):=rfl
@[simp] theorem Zbc:Sy (.lst ps)=some (!ps.isEmpty):=rfl
@[simp] theorem Ey(xs:List α)(n:Nat):lU xs (n:Int)=xs[n]?:= by
  unfold lU Mg
  rw[if_pos (by omega)]
  by_cases h:n<xs.length
  ·rw[if_pos (by omega)]
   simp
  ·rw[if_neg (by omega)]
   simp
   omega
@[simp] theorem Zbd(xs:List α)(n:Nat):lU xs (no_index (OfNat.ofNat n):Int)=xs[(no_index (OfNat.ofNat n):Nat)]?:= Ey xs n
@[simp] theorem Wc{x y:Int}:uJ x y=decide (y≠0):=rfl
end
def cH{x y:Int}(h1: -(2 ^ 64)<x)(h2:x<2 ^ 64):ō x y=true:=by unfold ō;rw[decide_eq_true (by omega:x.natAbs<18446744073709551616)];rfl
def mul_r{x y:Int}(h1: -(2 ^ 64)<y)(h2:y<2 ^ 64):ō x y=true:=by unfold ō;rw[decide_eq_true (by omega:y.natAbs<18446744073709551616)];simp
def Yr{x y:Int}(h1:y≠0)(h2:bits y<=8000):gD x y=true:=by unfold gD;simp[h1,h2]
section
variable{g:Tg}{mb:M Fl}{mc mt:M Bool}{me:M PV}{items:List PV}{ρ:Ĳ}
theorem bO{α:Type}(c f:α->PV)(I:Ĳ->Prop):∀(xs:List α) (ρ:Ĳ) (acc:List PV),I ρ->acc.length+xs.length<=16777216->
 (∀x∈xs,∀ρ,I ρ->∃ρ1 ρ2 ρ3,g (c x) ρ=some ρ1/\mt ρ1=.ok true ρ2/\me ρ2=.ok (f x) ρ3/\I ρ3)->Ů g mt me (xs.map c) ρ acc=some (acc++xs.map f)
 | [],ρ,acc,_,_,_=>by simp[Ů]
 |x::xs,ρ,acc,h,hz,hs=>by
  obtain⟨ρ1,ρ2,ρ3,h1,h2,h3,h4⟩:=hs x List.mem_cons_self ρ h
  rw[List.map_cons,Ů,h1]
  dsimp only
  rw[h2]
  dsimp only
  rw[h3]
  dsimp only
  rw[if_pos (by simp at hz;omega),bO c f I xs ρ3 (acc ++ [f x]) h4 (by simp at hz ⊢;omega) λy hy=>hs y (List.mem_cons_of_mem _ hy)]
  simp
end
end P
namespace P
open PySem PySem.Spec PyProof.Rows L2 M2 M3 M4
def mJ(Q:String->Prop):List String->Prop
 | []=>True
 |c::cs=>Q c/\mJ Q cs
theorem mJ.get{Q:String->Prop}:∀{cs:List String} {C:String},mJ Q cs->cs.contains C=true->Q C
 | [],_,_,h=>by simp at h
 |c::cs,C,⟨h1,h2⟩,h=>by
  by_cases e:C=c
  ·rw[e];exact h1
  ·refine h2.get ?_
   rw[List.contains_cons] at h
   have:(C== c)=false:=by simpa using e
   rw[this,Bool.false_or] at h
   exact h
section
variable{X:Cx}{cm:String->Addr}{K:KK}{E:L2.St->XK}{a b e o:Expr}{es:List Expr}{pos apos:Pos}{m ma mb:M PV}{f:Str}
theorem mK{F:Hp}:∀{fs:List (Str×V)} {ps:List PV} {p:PV},Ć K F ps (fs.map (·.2))->((fs.map (·.1)).zip ps).lookup f=some p->∃v,fs.lookup f=some v/\Rep K F p v
 | [],ps,p,_,h=>by simp at h
 |(g,v)::fs,ps,p,r,h=>by
  have r':=r.pr
  rw[List.map_cons] at r'
  cases r' with
  |cons r1 t=>
   rename_i q qs
   rw[List.map_cons,List.zip_cons_cons,List.lookup_cons] at h
   rw[List.lookup_cons]
   cases hg:f== g with
   |true=>
    simp only[hg] at h
    cases h
    exact⟨v,rfl,r1⟩
   |false=>
    simp only[hg] at h
    exact mK (Ć.of t) h
theorem rR.ins{c:Ctx}{F H:Hp}{σ:L2.St}{ρ:Ĳ}{C:String}{ns:List Str}{ps:List PV}{v:V}(s:Same F H)(h:rR K c σ ρ F H (.ins C ns ps) v):∃a dx fs,v=.ref a/\H a=some (.ins (K.cm C) dx fs)/\fs.map (·.1)=ns/\Ć K F ps (fs.map (·.2)):=by
 rcases h with h|h
 ·unfold Rep at h
  obtain⟨a,dx,fs,h1,h2,h3,h4⟩:=h
  exact⟨a,dx,fs,h1,s _ _ h2,h3,h4⟩
 ·exact h
def gM(cs:List String)(f:Str):PV->Option PV
 | .ins C ns ps=>if cs.contains C=true then(ns.zip ps).lookup f else none
 |_=>none
def uO(cs:List String)(hcs:mJ (λC=>Cls X.K (cm C)/\Ĩ X.K (cm C) f) cs)(he:PE X e (tR (kk X cm) E m))(hb:attributeBase e f X.env (eval e X.env)=eval e X.env:=by rfl):PE X (.Attribute e f pos) (tV (kk X cm) E (JK (gM cs f) m)):=
 PE.wk (Rv he hb) fun σ H Q ⟨c,F,ρ,rel,h⟩=>⟨c,F,ρ,rel,h.bind fun p ρ1 v F1 H1 ć _ _ r1 h1=>by
   cases p with
   |ins C ns ps=>
    unfold gM at h1
    dsimp only at h1
    split at h1
    ·rename_i hc
     obtain⟨a,dx,fs,rfl,q2,q3,q4⟩:=r1.ins ć.sub
     cases el:(ns.zip ps).lookup f with
     |none=>rw[el] at h1;exact h1.elim
     |some q=>
      rw[el] at h1
      subst q3
      obtain⟨v,e1,e2⟩:=mK q4 el
      obtain⟨k1,k2⟩:=hcs.get hc
      exact⟨a,_,dx,fs,v,rfl,q2,k1,k2,e1,h1 v F1 H1 ć (Same.refl _) (Same.refl _) e2⟩
    ·exact h1.elim
   |_=>exact h1.elim⟩
variable{CX:iH}{k n:Nat}{mth:Str}{oK:List (String×MF)}{ms:M (List Slot)}
def putN(f:Str):List Str->List Str
 | []=>[f]
 |g::r=>if g=f then g::r else g::putN f r
def wV(f:Str)(p:PV):List Str->List PV->List PV
 | [],_=>[p]
 |g::r,q::qs=>if g=f then p::qs else q::wV f p r qs
 |_::_,[]=>[]
theorem yX{F:Hp}{p:PV}{y:V}(ry:Rep K F p y):∀{fs:List (Str×V)} {ps:List PV},Ć K F ps (fs.map (·.2))->(bW f y fs).map (·.1)=putN f (fs.map (·.1))/\Ć K F (wV f p (fs.map (·.1)) ps) ((bW f y fs).map (·.2))
 | [],ps,r=>⟨rfl,Ć.cons ry Ć.nil⟩
 |(g,v)::fs,ps,r=>by
  have r':=r.pr
  rw[List.map_cons] at r'
  cases r' with
  |cons r1 t=>
   rename_i q qs
   unfold bW
   rw[List.map_cons]
   unfold putN wV
   by_cases hg:g=f
   ·rw[if_pos hg,if_pos hg,if_pos hg]
    exact⟨rfl,Ć.cons ry (Ć.of t)⟩
   ·rw[if_neg hg,if_neg hg,if_neg hg]
    obtain⟨h1,h2⟩:=yX ry (Ć.of t)
    exact⟨by rw[List.map_cons,h1],Ć.cons r1 h2⟩
def eX(i:Nat)(cs:List String)(f:Str)(mv:M PV):M Fl:=λρ=>(mv ρ).bind λp ρ1=>match ρ1[i]? with
 |some (.rc C ns ps)=>if cs.contains C=true/\ns.length<1000 then .ok .nx (ρ1.set i (.rc C (putN f ns) (wV f p ns ps))) else .bad
 |_=>.bad
def Ţ{i:Nat}{x:Str}{px pos':Pos}(cs:List String)(hcs:mJ (λC=>Cls X.K (cm C)/\Ĩ X.K (cm C) f) cs)(ho:PE X (.Name x px) (lN i))(he:PE X e (tV (kk X cm) E m))(hs:swapsWith e (some (.Attribute (.Name x px) f pos')) pos.line X.env=pure false:=by rfl) :
 PS X (.Assign [.Attribute (.Name x px) f pos'] e pos) (tS (kk X cm) E (eX i cs f m)):=PS.wk (Rw ho he hs) λD σ H ⟨c,F,ρ,rel,h⟩=>⟨c,F,ρ,rel,š.bind h λp ρ1 y F1 H1 ć s1 ry h1=>by
 cases e1:ρ1[i]? with
 |none=>rw[e1] at h1;exact h1.elim
 |some sl=>
  rw[e1] at h1
  cases sl with
  |rc C ns ps=>
   dsimp only at h1
   split at h1
   ·rename_i hc
    obtain⟨a,dx,fs,q1,q2,q3,q4,q5,q6,q7⟩:=ć.slot i _ e1
    subst q5
    obtain⟨k1,k2⟩:=hcs.get hc.1
    refine⟨.ref a,at_of q1,a,_,dx,fs,rfl,q2,k1,k2,by simpa using hc.2,?_⟩
    obtain⟨z1,z2⟩:=yX (f:=f) (p:=p) ry q6
    exact h1 σ F1 _ (ć.write ⟨_,_,e1,at_of q1,rfl⟩ (at_of q1) ⟨a,dx,_,rfl,č,q3,q4,z1,z2,q7⟩ λ_ z=>(V.ref.inj z).symm) (Same.refl _)
   ·exact h1.elim
  |_=>exact h1.elim⟩
inductive IR where
 |ok (ns:List Str) (ps:List PV)|exc (x:PX)|bad
abbrev MI:=List Slot->IR
def IR.of:Res Fl->IR
 | .ok .nx (.rc _ ns ps::_)=>.ok ns ps
 | .exc x _=>.exc x
 |_=>.bad
def aU(n k:Nat)(C:String)(mb:M Fl):MI:=λas=>if as.length+1=n then IR.of (mb (.rc C [] []::startP (k-1) as)) else .bad
structure GrB(a:Addr)(F H F' H':Hp):Prop where
 h:∀b u,b≠a->H b=some u->H' b=some u
 f:Same F F'
 sub:Same F' H'
 out:∀b,b≠a->H b≠none->F b=none->F' b=none
def ZcQ(K:KK)(E:XK)(F H:Hp)(Q:VK)(a dx:Addr)(C:String):IR->Prop
 | .ok ns ps=>∀F' H' fs,GrB a F H F' H'->H' a=some (.ins (K.cm C) dx fs)->F' a=none->fs.map (·.1)=ns->Ć K F' ps (fs.map (·.2))->Q .non H'
 | .exc x=>∀C' d F' H',GrB a F H F' H'->JH K F' x C' d->E C' d H'
 | .bad=>False
def Iw(K:KK)(n:Nat)(C:String)(mi:MI):Sp:=λvs H Q E=>∃F a dx vs' as,vs=.ref a::vs'/\as.length+1=n/\H a=some (.ins (K.cm C) dx [])/\F a=none/\Same F H/\Paired (aJ K F H) as vs'/\ZcQ K E F H Q a dx C (mi as)
def Ka(a dx:Addr)(C:String)(F H:Hp):Ctx:=⟨λb=>if b=a then none else H b,F,λb=>if b=a then none else(ctx0 F H).L b,λa' dx' C'=>a'=a/\dx'=dx/\C'=C⟩
def Rel.gri{σ:L2.St}{ρ:Ĳ}{a dx:Addr}{C:String}{F H F' H':Hp}(r:Rel K (Ka a dx C F H) F' H' σ ρ):GrB a F H F' H':=
 ⟨λb u hb e=>r.base b u (by show(if b=a then none else H b)=_;rw[if_neg hb];exact e),r.f0,r.sub,λb hb h1 h2=>r.bU b (by show(if b=a then none else H b)≠none;rw[if_neg hb];exact h1) h2⟩
def Rel.Tn{F H:Hp}{N:List Str}{as:List Slot}{vs:List V}{a dx:Addr}{C:String}(s:Same F H)(ha:H a=some (.ins (K.cm C) dx []))(hF:F a=none)(h:Paired (aJ K F H) as vs) :
 Rel K (Ka a dx C F H) F H (L2.start N (.ref a::vs)) (.rc C [] []::startP (N.length-1) as):=by
 have r0:=Rel.start (N:=N) (K:=K) s (as:=.sh (.int 0)::as) (vs:=.int 0::vs) (.cons (Rep.int (K:=K) (F:=F) (i:=0)) h)
 have est:L2.start N (.ref a::vs)=some (.ref a)::(L2.start N (.int 0::vs)).tail:=by unfold L2.start;simp
 have ZcR:(L2.start N (V.int 0::vs)).tail.length=(startP (N.length-1) as).length:=by
  unfold L2.start startP
  simp[Paired.length h]
  omega
 have tl:∀i:Nat,(L2.start N (.int 0::vs)).tail[i]?=(L2.start N (.int 0::vs))[i+1]?:= λi=>by simp
 have sp:∀i:Nat,(startP (N.length-1) as)[i]?=(startP N.length (.sh (.int 0)::as))[i+1]?:= λi=>by
  unfold startP
  simp only[List.cons_append,List.getElem?_cons_succ,List.length_cons]
  rw[show N.length-1-as.length=N.length-(as.length+1) by omega]
 have mL:∀(i:Nat) (s':Slot),(startP (N.length-1) as)[i]?=some s'->s'.own=false:=λi s' e=>by
  unfold startP at e
  by_cases hi:i<as.length
  ·rw[List.getElem?_append_left hi] at e
   obtain⟨v,_,h3⟩:=ź h e
   exact(aJ.slot h3).2
  ·rw[List.getElem?_append_right (by omega),List.getElem?_replicate] at e
   split at e
   ·cases e;rfl
   ·cases e
 rw[est]
 refine⟨s,λb u e=>?_,Same.refl _,λ_ _ z=>z,λb u e=>?_,λb e=>?_,?_,λi s' e=>?_,λi j b h1 h2=>?_⟩
 ·have e':(if b=a then none else H b)=some u:=e
  split at e'
  ·cases e'
  ·exact e'
 ·have e':(if b=a then none else(ctx0 F H).L b)=some u:=e
  split at e'
  ·cases e'
  ·exact cg e'
 ·show(if b=a then none else(ctx0 F H).L b)=none
  have e':(if b=a then none else H b)=none:=e
  split
  ·rfl
  ·rename_i hb
   rw[if_neg hb] at e'
   exact r0.lb b e'
 ·simp[ZcR]
 ·cases i with
  |zero=>
   cases e
   exact⟨a,dx,[],rfl,ha,hF,by show(if a=a then none else H a)=none;rw[if_pos rfl],rfl,Ć.nil,rfl,rfl,rfl⟩
  |succ i=>
   have e':(startP (N.length-1) as)[i]?=some s':=by simpa using e
   have q:=r0.slot (i+1) s' (by rw[<-sp];exact e')
   rw[<-tl] at q
   show ŏ K (Ka a dx C F H) F H (((some (V.ref a)::(L2.start N (.int 0::vs)).tail)[i+1]?).getD none) s'
   rw[List.getElem?_cons_succ]
   cases s' with
   |no=>trivial
   |sh p=>exact q
   |bw ps=>
    obtain⟨b,ws,q1,q2,q3⟩:=q
    refine⟨b,ws,q1,?_,q3⟩
    show(if b=a then none else(ctx0 F H).L b)=_
    rw[if_neg (λz=>by
     have:=(cg q2).1
     rw[z,ha] at this
     cases this)]
    exact q2
   |ow ps=>have:=mL i _ e';cases this
   |rc C ns ps=>have:=mL i _ e';cases this
   |ot ps qs rs=>have:=mL i _ e';cases this
   |o2 _ _ _ _=>have:=mL i _ e';cases this
   |ol Cr=>have:=mL i _ e';cases this
   |od t kvs=>have:=mL i _ e';cases this
   |bd t kvs=>
    obtain⟨b,u,q1,q2,q3⟩:=q
    refine⟨b,u,q1,q2.imp (λq2=>?_) id,q3⟩
    show(if b=a then none else(ctx0 F H).L b)=_
    rw[if_neg (λz=>by
     have:=(cg q2).1
     rw[z,ha] at this
     rcases q3 with⟨_,ks,rfl,_⟩|⟨_,ks,rfl,_⟩<;>cases this)]
    exact q2
 ·have at0:∀{i},Ĭ F (some (.ref a)::(L2.start N (.int 0::vs)).tail) (Slot.rc C [] []::startP (N.length-1) as) i b→i=0:=fun{i} ⟨s',y,q1,_,q2⟩=>by
   have q2:=lW q2
   cases i with
   |zero=>rfl
   |succ i=>
    have:=mL i s' (by simpa using q1)
    rw[this] at q2
    cases q2
  rw[at0 h1,at0 h2]
end
section
variable{P:Program}{w:World}{K:PySem.W.Frag}{cm:String->Addr}{mg:Str->Option Value}{base:Heap}{CX:iH}
def Wd{x qual:Str}{st:Stmt}{f:Addr}{fd:FuncData}{N ps:List Str}{k n j:Nat}{C:String}{mb:M Fl}{mi:MI}(F:Jt K x qual st f fd)(S:Ď N ps (Ĉ st))(hn:ps.length=n)(hj:N.length=j)(hf:mi=aU n j C mb)
 (hbody:∀(cdv:Value) (A:Around) (outer:List Env) (s:Shared) (H:Hp) (E:XK),Ş k (A.deeper (envOfC qual (Ĉ st) s.heap.objs.size f cdv))→
   fY (qO CX P w K mg base N qual (Ĉ st) f cdv A outer s H E) (ő st) (tS ⟨K,cm⟩ (λ_=>E) mb)):ī P w K mg base CX (k+1) f fd ps (Iw ⟨K,cm⟩ n C mi):=by
 subst hn hj hf
 obtain⟨oc,od,kV,doc,pm,an,cdv,ct,osl,rfl,lk,hcd⟩:=F.ex
 refine Mf lk hcd S (λvs H Q E ⟨F,a,dx,vs',as,h1,h2,_,_,_,h3,_⟩=>by rw[h1,List.length_cons,<-Paired.length h3];exact h2) λA outer s H vs Q E hr hsp=>?_
 obtain⟨F,a,dx,vs',as,rfl,h2,h3,h4,h5,h6,h7⟩:=hsp
 refine⟨_,hbody cdv A outer s H E hr,Ka a dx C F H,F,_,Rel.Tn h5 h3 h4 h6,?_⟩
 unfold aU at h7
 rw[if_pos h2] at h7
 cases e:mb (.rc C [] []::startP (N.length-1) as) with
 |bad=>rw[e] at h7;exact h7
 |exc x ρ'=>rw[e] at h7;exact λσ' C' d F' H' rel s1 q=>h7 C' d F' H' rel.gri q
 |ok fl ρ'=>
  rw[e] at h7
  cases fl with
  |nx=>
   cases ρ' with
   |nil=>exact h7.elim
   |cons sl ρ'=>
    cases sl with
    |rc C' ns qs=>
     intro σ' F' H' rel s1
     obtain⟨b,dy,fs,q1,q2,q3,q4,q5,q6,rfl,rfl,rfl⟩:=rel.slot 0 _ rfl
     exact h7 F' H' fs rel.gri q2 q3 q5 q6
    |_=>exact h7.elim
  |bk=>exact h7.elim
  |ct=>exact h7.elim
  |rt r=>exact h7.elim
end
def aV(C:String)(mi:MI)(ms:M (List Slot)):M PV:=λρ=>(ms ρ).bind λas ρ1=>match mi as with
 | .ok ns ps=>.ok (.ins C ns ps) ρ1
 | .exc x=>.exc x ρ1
 | .bad=>.bad
section
variable{X:Cx}{cm:String->Addr}{E:L2.St->XK}{e:Expr}{es:List Expr}{pos p:Pos}{CX:iH}{k n:Nat}{f:Addr}{fd:FuncData}{ps:List Str}{C:String}{mi:MI}{ms:M (List Slot)}{x:Str}
def Ez{c:Ctx}{F1 H1:Hp}{σ:L2.St}{ρ1:Ĳ}{Q:VK}{as:List Slot}{vs:List V}(hlen:(∃r,mi as=r/\∀z,r=z->z≠ .bad)->as.length+1=n)(ć:Rel (kk X cm) c F1 H1 σ ρ1)(r1:Paired (aJ (kk X cm) F1 H1) as vs)
 (h:Ŷ (kk X cm) E (rV (kk X cm)) c F1 H1 σ Q (match mi as with| .ok ns ps=>.ok (.ins C ns ps) ρ1| .exc x=>.exc x ρ1| .bad=>.bad)) :
 ∀x dx,H1 x=none->H1 dx=none->dx≠x->Iw (kk X cm) n C mi (.ref x::vs) (upd (upd H1 dx (.own x)) x (.ins (cm C) dx [])) (λv H2=>v=.non/\Q (.ref x) H2) (E σ):=by
 intro x dx hx hdx hne
 have up:∀b u,H1 b=some u->upd (upd H1 dx (.own x)) x (.ins (cm C) dx []) b=some u:=λb u e=>by
  rw[Ċ (Ī e hx),Ċ (Ī e hdx)];exact e
 have Kc:∀{F' H':Hp},GrB x F1 (upd (upd H1 dx (.own x)) x (.ins (cm C) dx [])) F' H'->Gr F1 H1 F' H':=fun{F' H'} g=>
  ⟨fun b u e=>g.h b u (Ī e hx) (up b u e),g.f,g.sub,fun b hb hf=>by
    obtain⟨u,hu⟩:∃u,H1 b=some u:=by
     cases q:H1 b with
     |none=>exact absurd q hb
     |some u=>exact⟨u,rfl⟩
    exact g.out b (Ī hu hx) (by rw[up b u hu];intro z;cases z) hf⟩
 refine⟨F1,x,dx,vs,as,rfl,?_,č,ć.sub.free hx,λb u e=>up b u (ć.sub b u e),?_,?_⟩
 ·refine hlen ⟨_,rfl,λz hz hb=>?_⟩
  rw[hz,hb] at h
  exact h
 ·refine Paired.mono (λs v hs=>?_) r1
  cases s with
  |sh p=>exact hs
  |bw qs=>
   obtain⟨b,ws,q1,q2,q3,q4⟩:=hs
   exact⟨b,ws,q1,up b _ q2,q3,q4⟩
  |_=>exact hs.elim
 ·cases em:mi as with
  |bad=>rw[em] at h;exact h
  |exc y=>rw[em] at h;exact λC' d F' H' g rx=>h C' d F' H' (ć.call (Kc g)) g.f rx
  |ok ns qs=>
   rw[em] at h
   intro F' H' fs g hx' hF' hn hr
   have r2:=ć.call (Kc g)
   have r3:=r2.freeze hx' (ć.base.free hx) hF' (ć.bx (Kc g).f (ć.fresh hx))
   refine⟨rfl,h _ _ H' r3 (g.f.trans (Same.upd hF')) (Kc g).h ?_⟩
   show Rep _ _ _ _
   unfold Rep
   exact⟨x,dx,fs,rfl,č,hn,Ć.same (Same.upd hF') qs _ hr⟩
def Bq{pins:List (Addr×Obj)}{σ:L2.St}{H:Hp}{s:Shared}{Q:VK}{us:List Value}{vs:List V}{sp:Sp}{C:Addr}(M:Mk X.K C f)(F:ī X.prog X.w X.K X.mg X.base CX k f fd ps sp)(hr:Ş (k+1) X.A)(hb:Binds X.K fd ps [])
 (hx:dN CX X E)(I:Inv X pins σ H s)(r:Vals vs us)
 (h:∀x dx,H x=none->H dx=none->dx≠x->sp (.ref x::vs) (upd (upd H dx (.own x)) x (.ins C dx [])) (λv H2=>v=.non/\Q (.ref x) H2) (E σ)) :
 wpAny (model X.prog X.w) X.A (call (.ref C) us) (EP X pins σ Q) X.xe s:=by
 have hq:=h (s.heap.objs.size+1) s.heap.objs.size (I.hok.fresh (Nat.le_succ _)) (I.hok.fresh (Nat.le_refl _)) (Nat.ne_of_lt (Nat.lt_succ_self _))
 have I2:=Inv.made (C:=C) I
 have r2:Vals (V.ref (s.heap.objs.size+1)::vs) (Value.ref (s.heap.objs.size+1)::us):=.cons rfl r
 have hl:(Value.ref (s.heap.objs.size+1)::us ++ []).length=ps.length:=by
  have e:=r2.length
  rw[F.len _ _ _ _ hq] at e
  rw[List.append_nil]
  exact e.symm
 have hbd:=hb {s with heap:=(s.heap.push PySem.W.emptyDict).push (PySem.W.instObj C s.heap.objs.size)} (Value.ref (s.heap.objs.size+1)::us) I2.kI hl
 rw[List.append_nil] at hbd
 refine wpAny_call (CW (f:=f) I.kI M.makes M.init (beq_iff_eq.mp M.fn) (codeAny_mono (F.run _ X.stack _ _ ⟨Value.ref (s.heap.objs.size+1)::us,[]⟩ _ _ _ (E σ) (hr.make C us []) (I2.env0.make C us []) hbd r2 hq) λr s' hq'=>?_))
 cases r with
 |error e=>exact hx pins σ _ _ e s' I2 hq'
 |ok fl=>
  cases fl with
  |ret u=>
   obtain⟨v,H',I3,rv,ev,q3⟩:=I2.after hq'
   subst ev
   exact⟨rv,⟨V.ref (s.heap.objs.size+1),H',I3,rfl,q3⟩⟩
  |next=>exact False.elim hq'
  |brk=>exact False.elim hq'
  |cont=>exact False.elim hq'
def Ź{n k:Nat}{C:String}{mb:M Fl}{as:List Slot}(h:∃r,aU n k C mb as=r/\∀z,r=z->z≠ .bad):as.length+1=n:=by
 obtain⟨r,h1,h2⟩:=h
 unfold aU at h1
 by_cases hl:as.length+1=n
 ·exact hl
 ·rw[if_neg hl] at h1
  exact absurd h1.symm (λz=>h2 .bad (by rw[<-h1]) rfl)
def iZ(M:Mk X.K (cm C) f)(F:ī X.prog X.w X.K X.mg X.base CX k f fd ps (Iw (kk X cm) n C mi))(hlen:∀{as:List Slot},(∃r,mi as=r/\∀z,r=z->z≠ .bad)->as.length+1=n)(hr:Ş (k+1) X.A)(hg:Gl X x)(hm:X.mg x=some (.ref (cm C)))(hb:Binds X.K fd ps [])(hx:dN CX X E)
 (ha:PA X (e::es) (tA (kk X cm) E ms))(hdb:(x== ("__debug__" :Str))=false:=by decide)(he:starEach (e::es) X.env=(false,eval e X.env)::starEach es X.env:=by exact Ŗ rfl)(hpl:(backTo pos (starEach es X.env)).any (·.1)=false:=by rfl) :
 PE X (.Call (.Name x p) (e::es) [] pos) (tV (kk X cm) E (aV C mi ms)):=by
 intro pins s σ H Q I ⟨c,F',ρ,rel,h⟩
 refine wpAny_Call_Name_kw (qL I hg hm ?_ hdb)
 refine PySem.W.callWith_K (h₀:= X.base) I.ok.mod.Wv M.kp (Ľ (ha pos pins s σ H (λvs H1=>∀x dx,H1 x=none->H1 dx=none->dx≠x->Iw (kk X cm) n C mi (.ref x::vs) (upd (upd H1 dx (.own x)) x (.ins (cm C) dx [])) (λv H2=>v=.non/\Q (.ref x) H2) (E σ)) I
  ⟨c,F',ρ,rel,Ŷ.bind h λas ρ1 vs F1 H1 ć _ _ r1 h1=>Ez hlen ć r1 h1⟩) λus s1 ⟨vs,H1,I1,r,q⟩=>⟨I1.kI,?_⟩) he hpl
 exact Bq M F hr hb hx I1 r q
end
end P
namespace P
open PySem PySem.Spec PyProof.Rows L2 M2 M3 M4
section
variable{M:Model}{A:Around}{E:Value->Shared->Prop}{s:Shared}{B:Heap}{env:Env}{outer:List Env}{L e:Addr}{Q:Unit->Shared->Prop}
end
def cR.sub{P:Program}{w:World}{H:Hp}{h B:Heap}(x:cR P w H h)(k:∀b o u,H b=some u->h.get? b=some o->B.get? b=some o):cR P w H B:=λa o e=>
 (x a o e).stay (fun b u hb q=>by
   rcases hb with rfl|hb
   ·exact k _ _ _ e q
   ·exact k _ _ _ hb q) (λ_ q=>q) λ_ _ q=>q
section
variable{P:Program}{w:World}{K:PySem.W.Frag}{mg:Str->Option Value}{base:Heap}{N:List Str}{qual:Str}{scope:Scope}{f:Addr}{cdv:Value}{A:Around}{outer:List Env}{s₀:Shared}{H₀:Hp}{E:XK}
end
end P
namespace P
open PySem PySem.Spec PyProof.Rows L2 M2 M3 M4
section
variable{K:PySem.W.Frag}{h:Heap}{C:Addr}{bmB:List Value}{newId:String}
end
section
variable{X:Cx}{cm:String->Addr}{E:L2.St->XK}{x:Str}{C:String}{np cpos pos:Pos}
end
section
variable{M:Model}{A:Around}{E:Value->Shared->Prop}{s:Shared}{K:PySem.W.Frag}{e C D:Addr}{oe:Obj}{b:Bool}{Q:Bool->Shared->Prop}
end
section
variable{X:Cx}{pins:List (Addr×Obj)}{σ:L2.St}{H:Hp}{s:Shared}{xe:Value->Shared->Prop}
end
end P
namespace P
open PySem PySem.Spec PyProof.Rows L2 M2 M3 M4
abbrev MH:=PX->Ĳ->Res Fl
section
variable{X:Cx}{cm:String->Addr}{E:L2.St->XK}{pins:List (Addr×Obj)}{σ:L2.St}{H Hc:Hp}{s sc:Shared}{ea:Addr}{C:Value}{d:Option Addr}{B:Heap}
variable{y n:Str}{Dn:String}{i:Nat}{yp hpos:Pos}{b₀:Stmt}{suite:List Stmt}{rest:List ExceptHandler}{yes no:List String}{mh:M Fl}{mr:MH}
end
end P
namespace P
open PySem PySem.Spec PyProof.Rows L2 M2 M3 M4 Builtin Builtin.ObjectAttr
section
variable{K:PySem.W.Frag}{h:Heap}{C:Addr}{cd:ClassData}{bm:List Value}
end
section
variable{prog:Program}{w:World}{A:Around}{E:Value->Shared->Prop}{h:Heap}{g:Array GenState}{d:Drawn}{t:Nat}{os:OsState}
variable{nm q:Str}{C N:Addr}{bs bm bmB:List Value}{hdct:Bool}{sn:List Str}{sub:List Value}{ab:Bool}{col:Option Bool}{dd:Option Addr}{k0 k1 k2 k3 k5:Option Value}{B newId initId:String}
end
section
variable{prog:Program}{w:World}{A:Around}{E:Value->Shared->Prop}{s:Shared}{K:PySem.W.Frag}{x C:Addr}{cd:ClassData}{bm:List Value}{ox:Obj}{od:Option Obj}{name:Str}{v:Value}
end
end P
namespace P
open PySem PySem.Spec PyProof.Rows L2 M2 M3 M4
section
variable{X:Cx}{pins:List (Addr×Obj)}{σ:L2.St}{H:Hp}{s:Shared}{a C:Addr}{cd:ClassData}{bm:List Value}{d:Option Addr}{fs:List (Str×V)}{f:Str}{y:V}{u:Value}{A:Around}{E:Value->Shared->Prop}
variable{o value:Expr}{pos pos':Pos}{j:Nat}{ss:List Stmt}{r:List (Str×Nat)}
end
section
variable{P:Program}{w:World}{K:PySem.W.Frag}{mg:Str->Option Value}{base:Heap}{CX:iH}
end
section
variable{X:Cx}{cm:String->Addr}{E:L2.St->XK}{e:Expr}{es:List Expr}{pos p:Pos}{CX:iH}{k n:Nat}{f:Addr}{fd:FuncData}{ps:List Str}{C:String}{fl:List (Str×Nat)}{ms:M (List PV)}{x:Str}
end
section
variable{M:Model}{A:Around}{E:Value->Shared->Prop}{s:Shared}{K:PySem.W.Frag}{env:Env}
end
section
variable{X:Cx}{cm:String->Addr}{E:L2.St->XK}{e:Expr}{es:List Expr}{pos cpos np:Pos}{CX:iH}{k n:Nat}{f:Addr}{fd:FuncData}{ps:List Str}{C:String}{fl:List (Str×Nat)}{ms:M (List PV)}{x:Str}
end
end P
namespace P
open PySem PySem.Spec PyProof.Rows L2 M2 M3 M4 Builtin Builtin.ObjectAttr
section
variable{prog:Program}{w:World}{A:Around}{E:Value->Shared->Prop}{s:Shared}{K:PySem.W.Frag}{x C:Addr}{ox:Obj}{od:Option Obj}
end
section
variable{X:Cx}{cm:String->Addr}{K:KK}
end
section
variable{ρ:Ĳ}{C:String}{n i:Nat}{fl:List (Str×Nat)}{ms:M (List PV)}{mb mh:M Fl}{mr:MH}{yes no:List String}{x:PX}
end
end P
namespace P
open PySem PySem.Spec PyProof.Rows L2 M2 M3 M4
section
variable{X:Cx}{cm:String->Addr}{E:L2.St->XK}{y:Str}{Dn:String}{yp hpos:Pos}{b₀:Stmt}{suite:List Stmt}{rest:List ExceptHandler}{yes no:List String}{mh:M Fl}{mr:MH}
end
end P
namespace P
open PySem PySem.Spec PyProof.Rows L2 M2 M3 M4
section
variable{X:Cx}{cm:String->Addr}{K:KK}
def Mw:List V->Hp->VK->Prop:=λxs H Q=>(∃i,xs=[.int i]/\Q (.int i) H)\/∃k,xs=[.bl k]/\Q (.int (if k then 1 else 0)) H
def Tp:ŝ X (.type "int") Mw:=A_
def rE:List PV->Option PV
 | [.int i]=>some (.int i)
 | [.bl k]=>some (.int (if k then 1 else 0))
 |_=>none
def Tq:jA K Mw rE:=by
 intro c F H σ ρ ps pv vs Q rel r e k
 unfold rE at e
 split at e
 ·cases e
  obtain⟨v,rfl,r1⟩:=Mv r
  cases r1.int
  exact .inl ⟨_,rfl,k _ F H rel (Same.refl _) (Same.refl _) Rep.int⟩
 ·cases e
  obtain⟨v,rfl,r1⟩:=Mv r
  cases r1.bl
  exact .inr ⟨_,rfl,k _ F H rel (Same.refl _) (Same.refl _) Rep.int⟩
 ·cases e
section
variable{prog:Program}{w:World}{A:Around}{E:Value->Shared->Prop}{s:Shared}{l:Addr}{xs:Array (Int×Tok)}
end
@[simp] theorem Zbe{i:Int}:rE [.int i]=some (.int i):=rfl
@[simp] theorem Zbf{b:Bool}:rE [.bl b]=some (.int (if b then 1 else 0)):=rfl
end
end P
namespace P
open PySem PySem.Spec PyProof.Rows L2 M2 M3 M4
def Ys(K:PySem.W.Frag)(C:Addr):Bool:=PySem.W.plainGet K C Str.empty && PySem.W.hasDictIn K C && PySem.W.plainOver K C && PySem.W.findIn K (.ref C) "__setattr__" == some (some (.builtin "object.__setattr__"))
def fQ{K:PySem.W.Frag}{C:Addr}(h:Ys K C=true):Cls K C:=by
 unfold Ys at h
 simp only[Bool.and_eq_true,beq_iff_eq] at h
 exact⟨h.1.1.1,h.1.1.2,h.1.2,h.2⟩
def mkB(K:PySem.W.Frag)(C f:Addr):Bool:=PySem.W.makesIn K C && PySem.W.findIn K (.ref C) "__init__" == some (some (.ref f)) && PySem.W.isFn K (.ref f) && PySem.W.keepIn K (.ref C)
def mO{K:PySem.W.Frag}{C f:Addr}(h:mkB K C f=true):Mk K C f:=by
 unfold mkB at h
 simp only[Bool.and_eq_true,beq_iff_eq] at h
 exact⟨h.1.1.1,h.1.1.2,h.1.2,h.2⟩
section
variable{ρ:Ĳ}{i n k:Nat}{C:String}{cs:List String}{f m:Str}{mv mo:M PV}{mi:MI}{ms:M (List Slot)}{mb:M Fl}{oK:List (String×MF)}{as:List Slot}{ns:List Str}{ps:List PV}
@[simp] theorem Zbg:eX i cs f mv ρ=(mv ρ).bind fun p ρ1=>match ρ1[i]? with
  |some (.rc C ns ps)=>if cs.contains C=true/\ns.length<1000 then .ok .nx (ρ1.set i (.rc C (putN f ns) (wV f p ns ps))) else .bad
  |_=>.bad:=rfl
@[simp] theorem Zbh:aU n k C mb as=if as.length+1=n then IR.of (mb (.rc C [] []::startP (k-1) as)) else .bad:=rfl
@[simp] theorem ZcS{C:String}:IR.of (.ok .nx (.rc C ns ps::ρ))=.ok ns ps:=rfl
@[simp] theorem Zbi:aV C mi ms ρ=(ms ρ).bind fun as ρ1=>match mi as with
  | .ok ns ps=>.ok (.ins C ns ps) ρ1
  | .exc x=>.exc x ρ1
  | .bad=>.bad:=rfl
@[simp] theorem ZcT:gM cs f (.ins C ns ps)=if cs.contains C=true then(ns.zip ps).lookup f else none:=rfl
end
end P
namespace M3
open PySem PySem.Spec PyProof.Rows L2 M2
section
variable{X:Cx}{elt tg iter:Expr}{ifs:List Expr}{scope:Scope}{pos:Pos}{wi:TI}{g:TG}{tt:TT}{te:TE}
def Kd{iv:Nat}{y:Str}{py spos:Pos}(hN:X.N.Nodup)(hiN:X.N[iv]?=some y)(hy:X.env.scope.names.lookup y=some .local)(hsw:swapsWith (.ListComp elt [⟨tg,iter,ifs,0⟩] scope pos) (some (.Name y py)) spos.line X.env=pure true)(N':List Str)(js:List Nat)(nl:Nat)(sc:Scope)(hsc:X.env.scope=sc)(hcalm:X.calm=true)
 (hi:PI X.Ň tg iter wi)(hg:∀cl C s H fp,PG (bh X.Ň N' scope cl C s H fp) tg g)(ht:∀cl C s H fp,Iu (bh X.Ň N' scope cl C s H fp) ifs tt)(he:∀cl C s H fp,PE (bh X.Ň N' scope cl C s H fp) elt te)
 (hcap:gn X.Ň sc scope N' js)(hlen:js.length+nl=N'.length:=by rfl)
 (hk:scope.kind=.function:=by rfl)(hcell:∀y∈scope.names,y.2=.cell->scope.names.lookup y.1=some .cell:=by decide +kernel)(hnames:∀y∈scope.names,y.2=.local->scope.names.lookup y.1=some .local:=by decide +kernel)
 (hfree:∀y∈scope.names,y.2=.free->(sc.names.lookup y.1=some .cell\/sc.names.lookup y.1=some .free):=by decide +kernel)
 (hs:∀x,foldedSetIterable iter X.env x=pure x:=by intro _;rfl) :
 PS X.Ň (.Assign [.Name y py] (.ListComp elt [⟨tg,iter,ifs,0⟩] scope pos) spos) (λD σ H=>Ds js nl wi g tt te σ H λv H'=>D.nx (σ.set iv (some v)) H'):=by
 intro pins s σ H D I h
 obtain⟨Xq,c1,c2,c3⟩:=gk (scope:=scope) (env:=X.Ň.env) λy hy hf=>I.ok.has y.1 (by
  have:=hfree y hy hf
  rw[<-hsc] at this
  exact this)
 rw[exec_Assign_Name_used _ _ _ _ (show swapsWith _ _ _ X.Ň.env=pure true from hsw)]
 refine wpAny_bind (wpAny_standAt (wpAny_bind ?_))
 show wpAny _ X.A (do let _ <-comprehension (.ListComp elt [⟨tg,iter,ifs,0⟩] scope pos) scope X.Ň.env _ (newList []) false (eval iter X.Ň.env) (some (assign (.Name y py) X.Ň.env))) _ _ s
 refine wpAny_bind (wpAny_mono (wpAny_comprehension_free (Q:=λ_ s'=>SP X.Ň pins D .next s') (use:=some (assign (.Name y py) X.Ň.env)) rfl hs c1 hk hnames (Ľ (hi pins s σ H _ I h) λv s1 h1=>Ľ h1 λitv s2 h2=>?_)) (λ_ s' hq=>wpAny_pure (wpAny_pure hq)) λ_ _ e=>e)
 obtain⟨it,fp,tn,J,H2,e,I2,T,st2,f2,q2⟩:=h2
 subst e
 refine wpAny_newObj_type (eG (λh₁ hns₁ old RX=>?_))
 dsimp only at hns₁ old RX ⊢
 generalize RZ:s2.heap.push {cls:=.type "list",dict:=none,data:=.seq ([]:List Value).toArray}=ŵ at hns₁ old RX ⊢
 have hD:H2 s2.heap.objs.size=none:=I2.hok.fresh (Nat.le_refl _)
 have I3:Inv X.Ň pins σ (upd H2 s2.heap.objs.size (.lst [])) {s2 with heap:=ŵ}:=by
  rw[<-RZ]
  exact I2.laid (t':=s2.toks) (λb u e=>Heap.get?_push_of_some _ e) (Nat.le_refl _) ⟨Nat.zero_le _,[],0,.nil,Heap.get?_push_size _ rfl⟩
 have Dv:∀b∈fp,b<s2.heap.objs.size:=λb hb=>by
  obtain⟨o,ho,_⟩:=T.obj 0 _ st2 b hb
  exact Heap.lt_size ho
 have R_:ŵ.objs.size=s2.heap.objs.size+1:=by rw[<-RZ,Heap.size_push]
 have f3:∀b∈fp,cU X.Ň pins (upd H2 s2.heap.objs.size (.lst [])) b:=λb hb=>by
  obtain⟨g0,g1⟩:=f2 b hb
  exact⟨by rw[Ċ (Nat.ne_of_lt (Dv b hb))];exact g0,g1⟩
 have B:=Dt (X:=X.Ň) (cl:=Xq) hcell c2 c3 (λx c e=>by
  obtain⟨v,o,ho,_⟩:=I3.cell x c e
  exact Heap.lt_size ho) RX
 generalize cellsFrom (ŵ.objs.size+1) scope.names Xq=cl at B ⊢
 obtain⟨W,⟨m0,w0⟩,turn⟩:=q2 s2.heap.objs.size hD
 have I4:=pQ (X:=X.Ň) (N':=N') (js:=js) (nl:=nl) (sc:=sc) (scope:=scope) (cl:=cl) (fp:=fp) (h':=h₁) (tk:=s2.toks) hsc hk hcap hlen B I3 f3 (λb hb=>by show b<ŵ.objs.size;rw[R_];exact Nat.lt_succ_of_lt (Dv b hb)) hns₁ old
 have Xr:tn 0 h₁:= T.keep 0 _ _ st2 λb hb o e=>old b o (by rw[<-RZ];exact Heap.get?_push_of_some _ e)
 have fr4:∀b∈fp,(upd H2 s2.heap.objs.size (.lst [])) b=none:=λb hb=>(f3 b hb).1
 have stat:∀{H':Hp},(∀b∈fp,H' b=none)->∀b∈fp,cU (bh X.Ň N' scope cl ŵ.objs.size {s2 with heap:=ŵ} (upd H2 s2.heap.objs.size (.lst [])) fp) [] H' b:=fun{H'} hn b hb=>by
  obtain⟨g0,g1,g2,g3,g4,g5⟩:=f3 b hb
  refine⟨hn b hb,Nat.ne_of_lt (by show b<ŵ.objs.size;rw[R_];exact Nat.lt_succ_of_lt (Dv b hb)),λz=>?_,.inl hb,λx c e=>by
   rcases B.at_ x c e with⟨q,_⟩|⟨q,_⟩
   ·exact g4 x c q
   ·exact Nat.ne_of_gt (Nat.lt_trans (by show b<ŵ.objs.size;rw[R_];exact Nat.lt_succ_of_lt (Dv b hb)) q),λp hp=>absurd hp (by simp[bh])⟩
  rcases List.mem_cons.mp (I3.lM b z) with z|z
  ·exact g1 z
  ·exact g2 z
 have loop:∀s₃:Shared,s₃= {s2 with heap:=h₁}->
  codeAny (model X.prog X.w) X.A (.compLoop (.ListComp elt [⟨tg,iter,ifs,0⟩] scope pos) 0 (.ref it) (.ref s2.heap.objs.size) (compEnvC scope cl ŵ.objs.size X.Ň.env))
   (compPost (model X.prog X.w) X.A X.Ň.xe (some (assign (.Name y py) X.Ň.env)) (λ_ s'=>SP X.Ň pins D .next s') (.ref s2.heap.objs.size) ŵ.objs.size) s₃:= by
  rintro s₃ rfl
  refine gq (λn s'=>∃i σ' H',Inv (bh X.Ň N' scope cl ŵ.objs.size {s2 with heap:=ŵ} (upd H2 s2.heap.objs.size (.lst [])) fp) [] σ' H' s'/\tn i s'.heap/\(∀b∈fp,H' b=none)/\W i n σ' H') ?_ m0 ⟨0,_,_,I4,Xr,fr4,w0⟩
  rintro n s5 ⟨i,σ5,H5,I5,Jf,Rh,w5⟩
  rcases turn i n σ5 H5 w5 with⟨stop,qn⟩|⟨go,N,hN,step⟩
  ·refine Ľ (T.done (bh X.Ň N' scope cl ŵ.objs.size {s2 with heap:=ŵ} (upd H2 s2.heap.objs.size (.lst [])) fp) rfl rfl rfl hcalm i [] s5 σ5 H5 (λ_ _=>False) I5 (stat Rh) Jf stop) λr s6 ⟨hr,I6⟩=>?_
   subst hr
   obtain⟨m,hm,_⟩:=I6.loc
   have I7:Inv X.Ň pins σ H5 s6:=lV (h':=s6.heap) I3 f3 I6 (λb u hb e=>e)
   have hCL:ŵ.objs.size≠X.Ň.env.locals:=Nat.ne_of_gt I3.lt
   have hcC:∀x c,X.Ň.env.cells.lookup x=some c->c≠ŵ.objs.size:=λx c e z=>by
    obtain⟨v,o,ho,_⟩:=I3.cell x c e
    exact absurd (Heap.lt_size ho) (by rw[z];exact Nat.lt_irrefl _)
   have hpC:∀p∈X.Ň.pn++pins,p.1≠ŵ.objs.size:=λp hp z=>by
    have:=Heap.lt_size (I3.pin p hp).1
    rw[z] at this
    exact Nat.lt_irrefl _ this
   have hnC:H5 ŵ.objs.size=none:=I6.free
   refine wpAny_assign_Name (pG (X:=X.Ň) (i:=iv) I7 hN hiN (.inl hy) (v:=.ref s2.heap.objs.size) rfl (λs8 I8 ⟨a8,sb8,ha8⟩=>?_) (.inr hy))
   have ne8:ŵ.objs.size≠a8:=by
    rcases ha8 with rfl|ha8
    ·exact hCL
    ·exact λz=>hcC _ _ ha8 z.symm
   refine⟨m,hm.sameBut sb8 ne8,λh' hs'=>⟨_,H5,?_,qn⟩⟩
   have kp:∀b o,b≠ŵ.objs.size->s8.heap.get? b=some o->h'.get? b=some o:=λb o hb e=>hs'.extBut b o hb e
   have kp':∀b o,b∉[ŵ.objs.size]->s8.heap.get? b=some o->h'.get? b=some o:=λb o hb e=>kp b o (λz=>hb (by rw[z];exact List.mem_cons_self)) e
   refine I8.call' (ch:=[ŵ.objs.size]) (s':={s8 with heap:=h'}) rfl ⟨λb o e _ _ hx=>kp' b o hx e,λb o e _ _ hx=>⟨o.slots,kp' b o hx e⟩,λb o _ n _=>n,λb o e hx=>⟨o,kp' b o hx e⟩,λ_ _ q=>q,λ_ _ _ q=>q,λ_ ps q=>q⟩ (yE I8.hok hnC kp) I8.bare λb hb=>?_
   cases List.mem_singleton.mp hb
   exact⟨.inr I3.sz,hCL,hcC,hpC⟩
  ·refine Ľ (T.item (bh X.Ň N' scope cl ŵ.objs.size {s2 with heap:=ŵ} (upd H2 s2.heap.objs.size (.lst [])) fp) rfl rfl rfl hcalm i [] s5 σ5 H5 (λ_ _=>False) I5 (stat Rh) Jf go) λr s6 ⟨u,hr,h6⟩=>?_
   subst hr
   refine Ľ h6 λ_ s7 ⟨x,H7,I7,r7,y7,Sd,fr7⟩=>?_
   have I7':=I7.pinned (stat fr7) (T.obj _ _ Sd)
   have again:∀{s8:Shared} {σ8:L2.St} {H8:Hp},Inv (bh X.Ň N' scope cl ŵ.objs.size {s2 with heap:=ŵ} (upd H2 s2.heap.objs.size (.lst [])) fp) ([]++iB fp s7.heap) σ8 H8 s8->
    Inv (bh X.Ň N' scope cl ŵ.objs.size {s2 with heap:=ŵ} (upd H2 s2.heap.objs.size (.lst [])) fp) [] σ8 H8 s8/\tn (i+1) s8.heap/\∀b∈fp,H8 b=none:=fun{s8 σ8 H8} I8=>by
    refine⟨I8.cV,T.keep _ _ _ Sd λb hb o e=>(I8.pin (b,o) (List.mem_append_right _ (List.mem_append_right _ (ť hb e)))).1,λb hb=>?_⟩
    obtain⟨o,e,d⟩:=T.obj _ _ Sd b hb
    exact(I8.pin (b,o) (List.mem_append_right _ (List.mem_append_right _ (ť hb e)))).2.1
   refine Ľ (hg cl _ _ _ fp _ s7 σ5 H7 x u _ I7' r7 (step x H7 y7)) λ_ s8 ⟨σ8,H8,I8,q8⟩=>?_
   refine Ľ (ht cl _ _ _ fp _ s8 σ8 H8 _ I8 q8) λc s9 ⟨H9,I9,q9⟩=>?_
   cases c with
   |false=>
    rw[if_neg Bool.false_ne_true] at q9 ⊢
    obtain⟨m',hm',w9⟩:=hN _ _ q9
    obtain⟨a1,a2,a3⟩:=again I9
    exact⟨m',hm',i+1,σ8,H9,a1,a2,a3,w9⟩
   |true=>
    rw[if_pos rfl] at q9 ⊢
    refine Ľ (he cl _ _ _ fp _ s9 σ8 H9 _ I9 q9) λyv Ÿ ⟨y,H10,I10,r10,ys,e10,l10,w10⟩=>?_
    refine Ľ (ł _ Ÿ σ8 H10 (.ref s2.heap.objs.size) [y] (.ref s2.heap.objs.size) [yv] (λ_ Sg=>N σ8 Sg) I10 rfl (.cons r10 .nil) ⟨_,ys,y,rfl,rfl,e10,l10,w10⟩) λ_ Cq ⟨v11,Sg,I11,_,w11⟩=>?_
    obtain⟨a1,a2,a3⟩:=again I11
    obtain⟨m',hm',w11⟩:=hN _ _ w11
    exact⟨m',hm',i+1,σ8,Sg,a1,a2,a3,w11⟩
 exact codeAny_compStart_list (loop _ rfl) (T.self _ 0 _ _ _ Xr (loop _ rfl))
end
end M3
namespace P
open PySem PySem.Spec PyProof.Rows L2 M2 M3 M4
section
variable{X:Cx}{cm:String->Addr}{E:L2.St->XK}{elt tg iter:Expr}{ifs:List Expr}{scope:Scope}{pos:Pos}{mi:M (List PV)}{g:Tg}{mt:M Bool}{me:M PV}
theorem PS.Ň{st:Stmt}{t:TS}(h:PS X.Ň st t):PS X st t:=λpins s σ H D I hw=>
 wpAny_mono (h pins s σ H D (I.wish _) hw) (λ_ _ q=>q.bV) λ_ _ z=>False.elim z
def Tr{i:Nat}{y:Str}{py spos:Pos}(hN:X.N.Nodup)(hi0:X.N[i]?=some y)(hy:X.env.scope.names.lookup y=some .local)(N':List Str)(js:List Nat)(nl:Nat)(sc:Scope)(hsc:X.env.scope=sc)(hcalm:X.calm=true)
 (hi:PI X.Ň tg iter (tI (kk X cm) E mi))(hg:∀cl C s H fp,PG (bh X.Ň N' scope cl C s H fp) tg (tT (kk X cm) g))(ht:∀cl C s H fp,Iu (bh X.Ň N' scope cl C s H fp) ifs (tB (kk X cm) EF mt))(he:∀cl C s H fp,PE (bh X.Ň N' scope cl C s H fp) elt (tV (kk X cm) EF me))
 (hcap:gn X.Ň sc scope N' js)(hlen:js.length+nl=N'.length:=by rfl)
 (hk:scope.kind=.function:=by rfl)(hcell:∀y∈scope.names,y.2=.cell->scope.names.lookup y.1=some .cell:=by decide +kernel)(hnames:∀y∈scope.names,y.2=.local->scope.names.lookup y.1=some .local:=by decide +kernel)
 (hfree:∀y∈scope.names,y.2=.free->(sc.names.lookup y.1=some .cell\/sc.names.lookup y.1=some .free):=by decide +kernel)
 (hs:∀x,foldedSetIterable iter X.env x=pure x:=by intro _;rfl)(hsw:swapsWith (.ListComp elt [⟨tg,iter,ifs,0⟩] scope pos) (some (.Name y py)) spos.line X.env=pure true:=by rfl) :
 PS X (.Assign [.Name y py] (.ListComp elt [⟨tg,iter,ifs,0⟩] scope pos) spos) (tS (kk X cm) E (ĳ i (aP js nl mi g mt me))):=
 PS.wk (PS.Ň (Kd hN hi0 hy hsw N' js nl sc hsc hcalm (Mp hi) hg ht he hcap hlen hk hcell hnames hfree hs)) fun D σ H ⟨c,F,ρ,rel,h⟩=>uI ⟨c,F,ρ,rel,š.bind h fun r ρ1 v F1 H1 ć s1 q h1=>by
   cases r with
   |sh p=>exact h1 _ F1 H1 (ć.put rfl ⟨v,rfl,q⟩) (Same.refl _)
   |ow ps=>
    obtain⟨a,vs,rfl,q1,q2,q3,q4,q5⟩:=q
    exact h1 _ F1 H1 (ć.uy ⟨a,vs,rfl,q1,q2,q3,q5⟩ λ_ z=>V.ref.inj z▸q4) (Same.refl _)
   |ot ps qs rs=>
    obtain⟨p,a,xs,vs,ys,rfl,q0,qx,q1,q2,q3,q4,q5,q6⟩:=q
    exact h1 _ F1 H1 (ć.uy (s:=.ot ps qs rs) ⟨p,a,xs,vs,ys,rfl,q0,qx,q1,q2,q3,q5,q6⟩ λ_ z=>gA (ps:=ps) (qs:=qs) (rs:=rs) z ⟨p,xs,ys,rfl,q0,qx.length.symm⟩▸q4) (Same.refl _)
   |o2 ps qs rs ts=>
    obtain⟨p,a,b,xs,vs,ys,us,rfl,q0,qx,qy,⟨k1,k2,k3,k4,k5⟩,⟨l1,l2,l3,l4,l5⟩,hab⟩:=q
    exact h1 _ F1 H1 (ć.uy (s:=.o2 ps qs rs ts) ⟨p,a,b,xs,vs,ys,us,rfl,q0,qx,qy,⟨k1,k2,k3,k5⟩,⟨l1,l2,l3,l5⟩,hab⟩ λd z=>by
     rcases iK z q0 qx.length.symm with rfl|rfl
     ·exact k4
     ·exact l4) (Same.refl _)⟩
end
end P
namespace P
open PySem PySem.Spec PyProof.Rows L2 M2 M3 M4
section
variable{X:Cx}{cm:String->Addr}{K:KK}{E:L2.St->XK}{o e:Expr}{es:List Expr}{name:Str}{apos cpos:Pos}{id:String}{r:V->List V->Hp->VK->Prop}{f:PV->List PV->Option PV}{mo:M PV}{ms:M (List PV)}
end
end P
namespace P
open PySem PySem.Spec PyProof.Rows L2 M2 M3 M4
section
variable{X:Cx}{pins:List (Addr×Obj)}{σ:L2.St}{H:Hp}{s:Shared}{h':Heap}
def turns{t':Nat}{fp:List Addr}(I:Inv X pins σ H s)(k:∀b o,b∉fp->s.heap.get? b=some o->h'.get? b=some o)(hf:∀b∈fp,cU X pins H b):Inv X pins σ H {s with heap:=h',toks:=t'}:=by
 have Wx:∀b u,H b=some u->b∉fp:=λb u e z=>by rw[(hf b z).1] at e;cases e
 have hL:X.env.locals∉fp:=λz=>(hf _ z).2.1 rfl
 refine I.step (g':=s.gens) (d':=s.drawn) (ch:=fp) (λb hb=>?_) (λb o _ _ hc e _=>k b o hc e) (λb o _ _ hc e _=>⟨o.slots,k b o hc e⟩) (λ_ _ _ _ n=>n)
  (λb o hc e=>⟨o,k b o hc e⟩) (λ_ _ e=>e) (λ_ _ _ e=>e) (λb ps e=>e) (λm hm=>?_) (λb u e=>?_) I.bare
 ·obtain⟨f0,f1,f2,f3,f4,f5⟩:=hf b hb
  exact⟨f3,f1,f4,f5⟩
 ·obtain⟨o,es,ep,ho,r⟩:=hm
  exact⟨o,es,ep,k _ o hL ho,r⟩
 ·refine(I.hok b u e).stay (λc v hc q=>k c v ?_ q) (λ_ q=>q) λ_ _ q=>q
  rcases hc with z|z
  ·rw[z];exact Wx b u e
  ·exact Wx c _ z
def Tt{a b:Addr}{o:HO}(f:cU X pins H b)(h:b≠a):cU X pins (upd H a o) b:=⟨by rw[Ċ h];exact f.1,f.2⟩
def mQ{t':Nat}{fp:List Addr}{u1 u2:Value}{x1 x2:V}(I:Inv X pins σ H s)(r1:RelV x1 u1)(r2:RelV x2 u2)(ht:∃o,h'.get? s.heap.objs.size=some o/\o= {cls:=.type "tuple",data:=.seq #[u1,u2]})
 (k:∀b o,b∉fp->s.heap.get? b=some o->h'.get? b=some o)(hf:∀b∈fp,cU X pins H b)(hlt:∀b∈fp,b<s.heap.objs.size) :
 Inv X pins σ (upd H s.heap.objs.size (.tup [x1,x2])) {s with heap:=h',toks:=t'}:=by
 have I1:Inv X pins σ (upd H s.heap.objs.size (.tup [x1,x2])) {s with heap:=s.heap.push {cls:=.type "tuple",data:=.seq #[u1,u2]},toks:=s.toks}:=
  I.laid (t':=s.toks) (λb u e=>Heap.get?_push_of_some _ e) (Nat.le_refl _) ⟨by show 2<=sizeLine;decide,[u1,u2],.cons r1 (.cons r2 .nil),⟨_,Heap.get?_push_size _ rfl,rfl,_,rfl⟩⟩
 refine turns (fp:=fp) (s:={s with heap:=s.heap.push {cls:=.type "tuple",data:=.seq #[u1,u2]},toks:=s.toks}) (h':=h') (t':=t') I1 (λb o hb e=>?_) λb hb=>Tt (hf b hb) (Nat.ne_of_lt (hlt b hb))
 rcases Heap.get?_push_cases e with⟨rfl,rfl⟩|e
 ·obtain⟨o,h1,h2⟩:=ht
  rw[h1,h2]
 ·exact k b o hb e
end
def Ite(K:PySem.W.Frag)(a:Addr):It:=
 ⟨λi H=>∃xs x,ř K H a xs/\xs[i]?=some x,λi H y H'=>∃x T,(∀xs,ř K H a xs->xs[i]?=some x)/\H T=none/\y=.ref T/\H'=upd H T (.tup [.int i,x]),λi H=>∃xs,ř K H a xs/\xs.length<=i⟩
def Br{P:Program}{w:World}{K:PySem.W.Frag}{elts:List Expr}{k:Nat}{pos:Pos}(a e it:Addr)(hne:e≠it):Turn P w K (.Tuple elts k pos) (Ite K a) [e,it] e (λi h=>(∃old,IsEnum h e it i old)/\h.IsListIter it a i) where
 mem:=by simp
 obj:=λi h st b hb=>by
  obtain⟨⟨old,he⟩,hit⟩:=st
  rcases List.mem_cons.mp hb with rfl|hb
  ·exact⟨_,he,fun v z=>by
    have z':Data.fields _=Data.cell v:=z
    cases z'⟩
  ·have e':b=it:=by simpa using hb
   subst e'
   obtain⟨o,e1,c,d⟩:=hit
   exact⟨o,e1,λv z=>by rw[d] at z;cases z⟩
 keep:=λi h h' st k=>⟨let ⟨old,he⟩:=st.1;⟨old,k e (by simp) _ he⟩,st.2.at λo q=>k it (by simp) o q⟩
 item:=by
  intro X hP hw hK hc i pins s σ H E I hf st hg
  subst hP hw hK
  obtain⟨⟨old,he⟩,hit⟩:=st
  obtain⟨xs,x,hq,hx⟩:=hg
  obtain⟨its,rv,p,hz⟩:=I.list hq
  obtain⟨u,hu,ru⟩:=rv.get hx
  have elt:e<s.heap.objs.size:=Heap.lt_size he
  have ilt:it<s.heap.objs.size:=by obtain⟨_,q,_⟩:=hit;exact Heap.lt_size q
  refine wpAny_pyNext_enum_item he hit p.isList (x:=u) (by simpa using hu) hne λh' ho hit' hT hsz hk=>?_
  refine⟨.ref s.heap.objs.size,rfl,wpAny_letOwnedTupleGo_enum ho λh'' he' hs'=>?_⟩
  have hs2:Heap.SameBut e h' h'':=hs'
  have hlt:∀b∈[e,it],b<s.heap.objs.size:=λb hb=>by
   rcases List.mem_cons.mp hb with rfl|hb
   ·exact elt
   ·have e':b=it:=by simpa using hb
    subst e';exact ilt
  have I2:=mQ (fp:=[e,it]) (h':=h'') (t':=s.toks+1) (x1:=.int i) I ⟨s.toks,rfl⟩ ru ⟨_,(hs2.2 _ (Nat.ne_of_gt elt)).trans hT,rfl⟩ (λb o hb q=>by
   have hbe:b≠e:=λz=>hb (by simp[z])
   have hbi:b≠it:=λz=>hb (by simp[z])
   exact(hs2.2 b hbe).trans (hk b o hbe hbi q)) hf hlt
  refine⟨.ref s.heap.objs.size,_,I2,rfl,⟨x,s.heap.objs.size,λys hy=>by rw[I.lO hy hq];exact hx,I.fresh,rfl,rfl⟩,⟨⟨u,?_⟩,hit'.at λo q=>(hs2.2 it hne.symm).trans q⟩,λb hb=>?_⟩
  ·have he2:IsEnum h'' e it ((i:Int)+1) u:=he'
   show IsEnum h'' e it (((i+1:Nat):Int)) u
   rw[Int.natCast_add]
   exact he2
  ·rw[Ċ (Nat.ne_of_lt (hlt b hb))];exact(hf b hb).1
 done:=by
  intro X hP hw hK hc i pins s σ H E I hf st hg
  subst hP hw hK
  obtain⟨⟨old,he⟩,hit⟩:=st
  obtain⟨xs,hq,hx⟩:=hg
  obtain⟨its,rv,p,hz⟩:=I.list hq
  have hl:=rv.length
  refine wpAny_pyNext_enum_end (I.ok.hd hc) he hit p.isList (by simp;omega) λh' eb=>⟨rfl,turns (fp:=[e,it]) (t':=s.toks) I (λb o hb q=>eb b o (λz=>hb (by simp[z])) q) hf⟩
 self:=λ_ _ _ _ _ st h=>let ⟨_,he⟩:=st.1;wpAny_pyIter_enum he h
section
variable{X:Cx}{elts:List Expr}{k:Nat}{tp:Pos}
def Yt(K:PySem.W.Frag)(ta:TA):TI:=λσ H R=>ta σ H λvs H1=>∃a,vs=[.ref a]/\(∃xs,ř K H1 a xs)/\R (Ite K a) H1
def Ke{l:Expr}{ta:TA}{p pos:Pos}(hg:Gl X "enumerate")(hm:X.mg "enumerate" =none)(ha:PA X [l] ta)(hs:starEach [l] X.env=[(false,eval l X.env)]:=by exact Ŗ rfl):PI X (.Tuple elts k tp) (.Call (.Name "enumerate" p) [l] [] pos) (Yt X.K ta):=by
 intro pins s σ H R I h
 refine Call_ (cT I hg hm boot_enumerate (PyProof.Rows.callWith_type1 (Ľ (ha pos pins s σ H _ I h) λus s1 ⟨vs,H1,I1,r1,q1⟩=>?_) hs rfl))
 obtain⟨a,e,⟨xs,hq⟩,q⟩:=q1
 subst e
 obtain⟨u,rfl,ru⟩:=r1.one
 cases ru
 obtain⟨its,rv,pl,hz⟩:=I1.list hq
 refine call_enumerate_list pl.isList λh' he hit hsz hk=>?_
 have I2:Inv X pins σ H1 {s1 with heap:=h'}:=I1.kept (t':=s1.toks) hk
 refine wpAny_pyIter_enum (s:={s1 with heap:=h'}) he ⟨s1.heap.objs.size+1,[s1.heap.objs.size+1,s1.heap.objs.size],_,_,H1,rfl,I2,Br a _ _ (Nat.succ_ne_self _),⟨⟨_,he⟩,hit⟩,λb hb=>?_,q⟩
 have hb':s1.heap.objs.size<=b:=by
  rcases List.mem_cons.mp hb with rfl|hb
  ·exact Nat.le_succ _
  ·have e':b=s1.heap.objs.size:=by simpa using hb
   exact Nat.le_of_eq e'.symm
 exact I1.Ar hb' (I1.hok.fresh hb')
end
def rLs(K:KK):RR (List PV) V:=λc _ _ F H items v=>∃a,v=.ref a/\(∃xs,ř K.K H a xs)/\bK K c.L F (Rf K.K a) items
def rTs(K:KK):RR (List PV) V:=λc _ _ F H items v=>∃a,v=.ref a/\(∃xs,aG K.K H a xs)/\bK K c.L F (WT K.K a) items
def rSq(K:KK):RR (List PV) V:=λc σ ρ F H items v=>rLs K c σ ρ F H items v\/rTs K c σ ρ F H items v
def mR{K:KK}{L F:Hp}{ps:List PV}{v:V}(h:Rep K F (.lst ps) v):∃a,v=.ref a/\(∃xs,ř K.K F a xs)/\bK K L F (Rf K.K a) ps:=by
 unfold Rep at h
 obtain⟨a,vs,rfl,e1,e2⟩:=h
 refine⟨a,rfl,⟨vs,e1⟩,?_⟩
 intro c' i F2 H2 σ2 ρ2 Ğ sF _
 have hq:ř K.K H2 a vs:=(sF.trans Ğ.sub).seq e1
 refine⟨λp hp=>?_,λhi=>⟨vs,hq,by rw[hi,e2.length];exact Nat.le_refl _⟩⟩
 obtain⟨u,hu,ru⟩:=ź e2.pr hp
 refine⟨⟨vs,u,hq,hu⟩,λx H' ⟨hH,hx⟩=>?_⟩
 subst hH
 have:vs[i]?=some x:=hx vs hq
 rw[hu] at this
 cases this
 exact⟨F2,Ğ,Same.refl _,Same.refl _,Rep.same sF p u ru⟩
def EY{K:KK}{L F:Hp}{ps:List PV}{v:V}(h:Rep K F (.tup ps) v):∃a,v=.ref a/\(∃xs,aG K.K F a xs)/\bK K L F (WT K.K a) ps:=by
 unfold Rep at h
 obtain⟨a,vs,rfl,e1,e2⟩:=h
 refine⟨a,rfl,⟨vs,aG.of e1⟩,?_⟩
 intro c' i F2 H2 σ2 ρ2 Ğ sF _
 have hq:aG K.K H2 a vs:=aG.of ((sF.trans Ğ.sub) _ _ e1)
 refine⟨λp hp=>?_,λhi=>⟨vs,hq,by rw[hi,e2.length];exact Nat.le_refl _⟩⟩
 obtain⟨u,hu,ru⟩:=ź e2.pr hp
 refine⟨⟨vs,u,hq,hu⟩,λx H' ⟨hH,hx⟩=>?_⟩
 subst hH
 have:vs[i]?=some x:=hx vs hq
 rw[hu] at this
 cases this
 exact⟨F2,Ğ,Same.refl _,Same.refl _,Rep.same sF p u ru⟩
def Bs{K:KK}{c:Ctx}{F:Hp}{a:Addr}{vs:List V}{ps:List PV}(h2:c.L a=some (.lst vs))(h3:Ć K F ps vs):bK K c.L F (Rf K.K a) ps:=by
 intro c' j F2 H2 σ2 ρ2 Ğ sF sL
 have hq:ř K.K H2 a vs:=ř.of (sL a _ h2)
 refine⟨λp hp=>?_,λhi=>⟨vs,hq,by rw[hi,h3.length];exact Nat.le_refl _⟩⟩
 obtain⟨u,hu,ru⟩:=ź h3.pr hp
 refine⟨⟨vs,u,hq,hu⟩,λx H' ⟨hH,hx⟩=>?_⟩
 subst hH
 have:vs[j]?=some x:=hx vs hq
 rw[hu] at this
 cases this
 exact⟨F2,Ğ,Same.refl _,Same.refl _,Rep.same sF p u ru⟩
def bK.mono{K:KK}{L F F1:Hp}{J:It}{ps:List PV}(h:bK K L F J ps)(s:Same F F1):bK K L F1 J ps:=λc i F2 H σ ρ rel sF sL=>h c i F2 H σ ρ rel (s.trans sF) sL
def mLs(m:M PV):M (List PV):=λρ=>(m ρ).bind λp ρ1=>match p with
 | .lst ps=>.ok ps ρ1
 |_=>.bad
def wW(i:Nat):M (List PV):=λρ=>match ρ[i]? with
 |some (.bw ps)=>.ok ps ρ
 |some (.sh (.lst ps))=>.ok ps ρ
 |some (.sh (.tup ps))=>.ok ps ρ
 |some (.ow ps)=>.ok ps (ρ.set i (.sh (.lst ps)))
 |_=>.bad
section
variable{X:Cx}{cm:String->Addr}{E:L2.St->XK}{e:Expr}{m:M PV}
def ZcU(h:PE X e (tV (kk X cm) E m)):PE X e (tG (kk X cm) E (rLs (kk X cm)) (mLs m)):=PE.wk h λσ H Q ⟨c,F,ρ,rel,h⟩=>⟨c,F,ρ,rel,h.bind λp ρ1 v F1 H1 ć s1 s2 q h1=>by
 cases p with
 |lst ps=>
  obtain⟨a,e1,⟨xs,e2⟩,e3⟩:=mR (L:=c.L) (show Rep (kk X cm) F1 (.lst ps) v from q)
  exact h1 v F1 H1 ć (Same.refl _) (Same.refl _) ⟨a,e1,⟨xs,ć.sub.seq e2⟩,e3⟩
 |_=>exact h1.elim⟩
def Mx(i:Nat){x:Str}{px:Pos}(hN:X.N[i]?=some x:=by rfl)(hv:qJ X.env.scope x:=by first|exact Or.inl rfl|exact Or.inr (Or.inl rfl)|exact Or.inr (Or.inr rfl))(hd:(x== ("__debug__" :Str))=false:=by decide)
 (hcd:(x== ("__classdict__" :Str))=false:=by decide):PE X (.Name x px) (tG (kk X cm) E (rSq (kk X cm)) (wW i)):=PE.wk (ş hN hv hd hcd) λσ H Q ⟨c,F,ρ,rel,h⟩=>by
 unfold wW at h
 cases e:ρ[i]? with
 |none=>rw[e] at h;exact h.elim
 |some sl=>
  rw[e] at h
  cases sl with
  |no=>exact h.elim
  |rc C ns ps=>exact h.elim
  |ot ps qs rs=>exact h.elim
  |o2 _ _ _ _=>exact h.elim
  |ol Cr=>exact h.elim
  |od _ _=>exact h.elim
  |bd _ _=>exact h.elim
  |ow ps=>
   obtain⟨a,vs,z1,z2,z3,z4⟩:=rel.share e
   obtain⟨a',e1,⟨xs,e2⟩,e3⟩:=mR (L:=c.L) z3
   cases e1
   exact⟨.ref a,z1,h _ _ H z4 (Same.upd z2) (Same.refl _) (.inl ⟨a,rfl,⟨xs,z4.sub.seq e2⟩,e3⟩)⟩
  |bw ps=>
   obtain⟨a,vs,h1,h2,h3⟩:=rel.slot i _ e
   exact⟨.ref a,at_of h1,h _ F H rel (Same.refl _) (Same.refl _) (.inl ⟨a,rfl,⟨vs,ř.of (rel.lent a _ h2).1⟩,Bs h2 h3⟩)⟩
  |sh p=>
   obtain⟨v,h1,h2⟩:=rel.slot i _ e
   cases p with
   |lst ps=>
    obtain⟨a,e1,⟨xs,e2⟩,e3⟩:=mR (L:=c.L) h2
    exact⟨v,at_of h1,h v F H rel (Same.refl _) (Same.refl _) (.inl ⟨a,e1,⟨xs,rel.sub.seq e2⟩,e3⟩)⟩
   |tup ps=>
    obtain⟨a,e1,⟨xs,e2⟩,e3⟩:=EY (L:=c.L) h2
    exact⟨v,at_of h1,h v F H rel (Same.refl _) (Same.refl _) (.inr ⟨a,e1,⟨xs,Same.tup rel.sub e2⟩,e3⟩)⟩
   |_=>exact h.elim
def dz:Nat->List PV->List PV
 |_,[]=>[]
 |k,p::ps=>.tup [.int k,p]::dz (k+1) ps
theorem qb:∀(k:Nat) (ps:List PV),(dz k ps).length=ps.length
 |_,[]=>rfl
 |k,_::ps=>congrArg (·+ 1) (qb (k+1) ps)
theorem qd:∀(k:Nat) (ps:List PV) (i:Nat),(dz k ps)[i]?=ps[i]?.map λp=>.tup [.int ((k+i:Nat):Int),p]
 |_,[],_=>rfl
 |k,p::ps,0=>rfl
 |k,p::ps,i+1=>by
  show(dz (k+1) ps)[i]?=_
  rw[qd (k+1) ps i,List.getElem?_cons_succ,show k+1+i=k+(i+1) by omega]
def E_(m:M (List PV)):M (List PV):=λρ=>(m ρ).bind λps ρ1=>.ok (dz 0 ps) ρ1
def yZ{K:KK}{c:Ctx}{F H:Hp}{σ:L2.St}{ρ:Ĳ}{T:Addr}{p q:PV}{x y:V}(rel:Rel K c F H σ ρ)(hT:H T=none)(r1:Rep K F p x)(r2:Rep K F q y):Rel K c (upd F T (.tup [x,y])) (upd H T (.tup [x,y])) σ ρ/\Rep K (upd F T (.tup [x,y])) (.tup [p,q]) (.ref T):=by
 have hF:=rel.sub.free hT
 refine⟨rel.alloc hT,?_⟩
 unfold Rep
 exact⟨T,[x,y],rfl,č,Ć.cons (Rep.same (Same.upd hF) p x r1) (Ć.cons (Rep.same (Same.upd hF) q y r2) Ć.nil)⟩
def Bt{K:KK}{L F:Hp}{a:Addr}{ps:List PV}(h:bK K L F (Rf K.K a) ps):bK K L F (Ite K.K a) (dz 0 ps):=by
 intro c i F2 H σ ρ rel sF sL
 obtain⟨g,st⟩:=h c i F2 H σ ρ rel sF sL
 refine⟨λp hp=>?_,λhi=>st (by rw[hi,qb])⟩
 rw[qd] at hp
 cases eq:ps[i]? with
 |none=>rw[eq] at hp;cases hp
 |some q=>
  rw[eq] at hp
  have hp':PV.tup [.int ((0+i:Nat):Int),q]=p:=Option.some.inj hp
  subst hp'
  obtain⟨⟨xs,x,hq,hx⟩,g2⟩:=g q eq
  refine⟨⟨xs,x,hq,hx⟩,λy H' ⟨x',T,h1,hT,ey,eH⟩=>?_⟩
  subst ey eH
  obtain⟨F3,gC,s3,_,rp⟩:=g2 x' H ⟨rfl,h1⟩
  obtain⟨r1,r2⟩:=yZ (p:=.int i) (x:=.int i) gC hT (by unfold Rep;rfl) rp
  refine⟨_,r1,s3.trans (Same.upd (gC.sub.free hT)),Same.upd hT,?_⟩
  rw[Nat.zero_add]
  exact r2
def Tv{elts:List Expr}{k:Nat}{tp p pos:Pos}{mi:M (List PV)}(hg:Gl X "enumerate")(hm:X.mg "enumerate" =none)(hl:PE X e (tG (kk X cm) E (rLs (kk X cm)) mi))(hs:starEach [e] X.env=[(false,eval e X.env)]:=by exact Ŗ rfl) :
 PI X (.Tuple elts k tp) (.Call (.Name "enumerate" p) [e] [] pos) (tI (kk X cm) E (E_ mi)):=λpins s σ H R I h=>Ke hg hm (ŕ hl cW hs) hs pins s σ H R I (by
 obtain⟨c,F,ρ,rel,h⟩:=h
 refine⟨c,F,ρ,rel,h.bind λps ρ1 v F1 H1 ć s1 s2 q h1=>?_⟩
 obtain⟨a,e1,e2,e3⟩:=q
 subst e1
 exact⟨a,rfl,e2,h1 _ F1 H1 ć (Same.refl _) (Same.refl _) (Bt e3)⟩)
@[simp] theorem Zbj{mi:M (List PV)}{ρ:Ĳ}:E_ mi ρ=(mi ρ).bind λps ρ1=>.ok (dz 0 ps) ρ1:=rfl
@[simp] theorem Zdv{ρ:Ĳ}:mLs m ρ=(m ρ).bind fun p ρ1=>match p with
  | .lst ps=>.ok ps ρ1
  |_=>.bad:=rfl
@[simp] theorem ZcV{i:Nat}{ρ:Ĳ}:wW i ρ=(match ρ[i]? with
  |some (.bw ps)=>.ok ps ρ
  |some (.sh (.lst ps))=>.ok ps ρ
  |some (.sh (.tup ps))=>.ok ps ρ
  |some (.ow ps)=>.ok ps (ρ.set i (.sh (.lst ps)))
  |_=>.bad):=rfl
end
end P
namespace P
open PySem PySem.Spec PyProof.Rows L2 M2 M3 M4
section
variable{X:Cx}{cm:String->Addr}{E:L2.St->XK}{e a b:Expr}{m ma mb:M PV}{pos:Pos}
end
section
variable{X:Cx}{K:KK}
end
end P
namespace P
open PySem PySem.Spec PyProof.Rows L2 M2 M3 M4
section
variable{prog:Program}{w:World}{A:Around}{E:Value->Shared->Prop}{s:Shared}
def gO{it l:Addr}{i:Nat}{items}{x:Value}{Q:Value->Shared->Prop}(hit:s.heap.IsTupleIter it l i)
 (hl:s.heap.IsTuple l items)(hx:items[i]?=some x)
 (hQ:∀h',h'.IsTupleIter it l (i+1)->Heap.SameBut it s.heap h'->Q x {s with heap:=h'}) :
 wpAny (model prog w) A (Builtin.SmallTypes.nextOf (.ref it)) Q E s:=by
 obtain⟨o,ho,hc,hd⟩:=id hit
 obtain⟨ol,hol,_,nl,hdl⟩:=hl
 unfold Builtin.SmallTypes.nextOf
 refine wpAny_bind (wpAny_callSpecial?_slot (name:=Str.ofString "__next__") hit.typeIs F.slot_tuple_iterator_next
  (wpAny_call_entry F.slot_tuple_iterator_next hit.typeIs F.entry_tuple_iterator_next ?_ (F.args_tuple_iterator_next_1 _)))
 show wpAny _ _ (field (.ref it) 0 >>= _) _ _ s
 refine wpAny_bind (wpAny_field ho hd (x:=.ref l) rfl ?_)
 show wpAny _ _ (if(Value.ref l== Value.none)=true then _ else _) _ _ s
 rw[if_neg (show ¬((Value.ref l== Value.none)=true) from Bool.false_ne_true)]
 show wpAny _ _ (field (.ref it) 1 >>= _) _ _ s
 refine wpAny_bind (wpAny_field ho hd (x:=.int i 0) rfl ?_)
 show wpAny _ _ (seqItems? (.ref l) >>= _) _ _ s
 refine wpAny_bind (wpAny_seqItems hol hdl ?_)
 simp only[Int.toNat_natCast,hx]
 refine wpAny_bind (wpAny_setField ho hd (by simp) (wpAny_pure ⟨x,rfl,wpAny_pure (hQ _ ?_ (Heap.SameBut.update ..))⟩))
 exact⟨_,Heap.get?_update_self _ ho (Obj.isFreed_of_fields (Obj.data_mapFields hd _)),(Obj.cls_mapFields ..).trans hc,by
  rw[Obj.data_mapFields hd];simp[rawInt]⟩
def i_{it l:Addr}{i:Nat}{items}{Q:Value->Shared->Prop}(hh:A.handled=none)
 (hit:s.heap.IsTupleIter it l i)(hl:s.heap.IsTuple l items)(hx:items[i]?=none)
 (hE:∀h' e,Heap.ExtBut it s.heap h'->(∃o,h'.get? e=some o/\o.cls=.type "StopIteration")->E (.ref e) {s with heap:=h'}) :
 wpAny (model prog w) A (Builtin.SmallTypes.nextOf (.ref it)) Q E s:=by
 obtain⟨o,ho,hc,hd⟩:=id hit
 obtain⟨ol,hol,_,nl,hdl⟩:=hl
 unfold Builtin.SmallTypes.nextOf
 refine wpAny_bind (wpAny_callSpecial?_slot (name:=Str.ofString "__next__") hit.typeIs F.slot_tuple_iterator_next
  (wpAny_call_entry F.slot_tuple_iterator_next hit.typeIs F.entry_tuple_iterator_next ?_ (F.args_tuple_iterator_next_1 _)))
 show wpAny _ _ (field (.ref it) 0 >>= _) _ _ s
 refine wpAny_bind (wpAny_field ho hd (x:=.ref l) rfl ?_)
 show wpAny _ _ (if(Value.ref l== Value.none)=true then _ else _) _ _ s
 rw[if_neg (show ¬((Value.ref l== Value.none)=true) from Bool.false_ne_true)]
 show wpAny _ _ (field (.ref it) 1 >>= _) _ _ s
 refine wpAny_bind (wpAny_field ho hd (x:=.int i 0) rfl ?_)
 show wpAny _ _ (seqItems? (.ref l) >>= _) _ _ s
 refine wpAny_bind (wpAny_seqItems hol hdl ?_)
 simp only[Int.toNat_natCast,hx]
 refine wpAny_bind (wpAny_rule (wpAny_bind (wpAny_setField ho hd (by simp) ?_)))
 show wpAny _ _ (newExc (.type "StopIteration") [] >>= _) _ _ _
 refine wpAny_bind ?_
 simp only[newExc,newTuple]
 refine wpAny_bind (wpAny_newObj_type ?_ (by size_fits))
 refine wpAny_bind (m:=firstArgMember _ _) (wpAny_of_eq (a:=Value.none) (by first|rfl|(simp only[firstArgMember];rfl)) ?_)
 refine wpAny_newObj_type ?_ (by size_fits)
 simp only[raiseNew]
 refine wpAny_bind (wpAny_handled ?_)
 first|rw[show A.in1.handled=none from hh]|rw[hh]
 refine wpAny_bind (wpAny_pure (wpAny_throw ?_))
 exact hE _ _ (((Heap.SameBut.update ..).extBut.push _).push _) ⟨_,Heap.get?_push_size _ rfl,rfl⟩
end
def uP{prog:Program}{w:World}{A:Around}(hh:A.handled=none)(it l:Addr)(hne:l≠it)(items:Array Value) :
 Draws prog w A it [it,l] items.size (λi v=>items[i]?=some v) (λi h=>h.IsTupleIter it l i/\h.IsTuple l items) where
 live:=λ_ _ st=>let ⟨o,ho,_⟩:=st.1;⟨o,ho⟩
 frame:=λ_ _ _ st hk=>⟨let ⟨o,ho,r⟩:=st.1;⟨o,hk it (by simp) o ho,r⟩,let ⟨o,ho,r⟩:=st.2;⟨o,hk l (by simp) o ho,r⟩⟩
 item:=λi s Q E hi st hQ=>by
  refine gO st.1 st.2 (x:=items[i]) (by simp[hi]) λh' hit' hs'=>?_
  exact hQ _ h' s.toks (by simp[hi]) ⟨hit',st.2.extBut hs'.extBut hne⟩ hs'
 done:=λs Q E st hE=>i_ hh st.1 st.2 (by simp) hE
structure Wf(z TI TO i1 i2:Addr)(f1 f2:List Addr):Prop where
 TIz:TI≠z
 TOz:TO≠z
 i1z:i1≠z
 i2z:i2≠z
 TITO:TI≠TO
 TIi1:TI≠i1
 TIi2:TI≠i2
 TOi1:TO≠i1
 TOi2:TO≠i2
 i12:i1≠i2
 z1:z∉f1
 z2:z∉f2
 t1:TO∉f1
 t2:TO∉f2
 a1:i1∉f2
 a2:i2∉f1
section
variable{prog:Program}{w:World}{A:Around}{E:Value->Shared->Prop}{s:Shared}
def mV{z TI TO i1 i2:Addr}{f1 f2:List Addr}{n1 n2 k1 k2:Nat}{P1 P2:Nat->Value->Prop}{S1 S2:Nat->Heap->Prop}{a b:Value}{Q:Value->Shared->Prop}(D:Wf z TI TO i1 i2 f1 f2)
 (D1:Draws prog w A i1 f1 n1 P1 S1)(D2:Draws prog w A i2 f2 n2 P2 S2)
 (hz:IsZip s.heap z TI TO .none)(hTI:IsPair s.heap TI (.ref i1) (.ref i2))(hTO:IsPair s.heap TO a b)(h1:S1 k1 s.heap)(h2:S2 k2 s.heap)(hk1:k1<n1)(hk2:k2<n2)
 (hQ:∀x y h' tk,P1 k1 x→P2 k2 y→IsZip h' z TI TO (rawInt s.heap.objs.size)→IsPair h' TO x y→S1 (k1+1) h'→S2 (k2+1) h'→IsPair h' s.heap.objs.size x y→h'.objs.size=s.heap.objs.size+1→
   (∀c o,c≠z->c≠TO->c≠i1->c≠i2->s.heap.get? c=some o->h'.get? c=some o)->Q (.ref s.heap.objs.size) {s with heap:=h',toks:=tk}) :
 wpAny (model prog w) A (Builtin.«zip.__next__» ⟨[.ref z],[]⟩) (λfin s'=>∃v,fin=.done (.ret v)/\Q v s') E s:=by
 have Mz:∀{b},b∈f1->b≠z/\b≠TO/\b≠i2:=λhb=>⟨λe=>D.z1 (e▸hb),λe=>D.t1 (e▸hb),λe=>D.a2 (e▸hb)⟩
 have Kf:∀{b},b∈f2->b≠z/\b≠TO/\b≠i1:=λhb=>⟨λe=>D.z2 (e▸hb),λe=>D.t2 (e▸hb),λe=>D.a1 (e▸hb)⟩
 obtain⟨hp,g,d,tk0,os⟩:=s
 show wpAny _ _ (field (.ref z) 2 >>= _) _ _ _
 refine wpAny_bind (wpAny_field hz rfl (x:=.bool false) rfl ?_)
 show wpAny _ _ (field (.ref z) 3 >>= _) _ _ _
 refine wpAny_bind (wpAny_field hz rfl (x:=.ref TI) rfl ?_)
 refine wpAny_bind (wpAny_seqItems hTI rfl ?_)
 show wpAny _ _ (Builtin.SmallTypes.ownedTupleIsFree (.ref z) >>= _) _ _ _
 refine wpAny_bind ?_
 unfold Builtin.SmallTypes.ownedTupleIsFree
 refine wpAny_bind (wpAny_field hz rfl (x:=.none) rfl (wpAny_pure ?_))
 simp only[if_true]
 refine wpAny_bind (wpAny_rule ?_)
 refine wpAny_bind (wpAny_field hz rfl (x:=.ref TO) rfl ?_)
 refine wpAny_bind (wpAny_setField_rec hz (by simp) λh₁ hz₁ hs₁=>?_)
 replace hs₁:Heap.SameBut z hp h₁:= hs₁
 replace hz₁:IsZip h₁ z TI TO .ellipsis:=hz₁
 refine wpAny_bind ?_
 simp only[List.zipIdx_cons,List.zipIdx_nil,List.forIn_cons,List.forIn_nil]
 refine wpAny_bind (wpAny_bind (wpAny_onRaise ?_))
 show wpAny _ _ (Builtin.SmallTypes.nextOf (.ref i1) >>= _) _ _ _
 refine wpAny_bind (D1.item k1 _ _ _ hk1 (D1.frame _ _ _ h1 λb hb o e=>hs₁.extBut b o (Mz hb).1 e) λx h₂ tk hPx h1₂ hs₂=>wpAny_pure ?_)
 replace hs₂:Heap.SameBut i1 h₁ h₂:= hs₂
 have hTO₂:IsPair h₂ TO a b:=hs₂.extBut _ _ D.TOi1 (hs₁.extBut _ _ D.TOz hTO)
 refine wpAny_bind (wpAny_seqItems hTO₂ rfl ?_)
 refine wpAny_bind (wpAny_updateSeq_pair hTO₂ λh₃ hTO₃ hs₃=>?_)
 replace hs₃:Heap.SameBut TO h₂ h₃:= hs₃
 replace hTO₃:IsPair h₃ TO x b:=hTO₃
 refine wpAny_bind (wpAny_letGo (wpAny_pure ?_))
 refine wpAny_bind (wpAny_bind (wpAny_onRaise ?_))
 show wpAny _ _ (Builtin.SmallTypes.nextOf (.ref i2) >>= _) _ _ _
 refine wpAny_bind (D2.item k2 _ _ _ hk2 (D2.frame _ _ _ h2 λb hb o e=>hs₃.extBut b o (Kf hb).2.1 (hs₂.extBut b o (Kf hb).2.2 (hs₁.extBut b o (Kf hb).1 e))) λy h₄ tk' hPy h2₄ hs₄=>wpAny_pure ?_)
 replace hs₄:Heap.SameBut i2 h₃ h₄:= hs₄
 have hTO₄:IsPair h₄ TO x b:=hs₄.extBut _ _ D.TOi2 hTO₃
 refine wpAny_bind (wpAny_seqItems hTO₄ rfl ?_)
 refine wpAny_bind (wpAny_updateSeq_pair hTO₄ λh₅ hTO₅ hs₅=>?_)
 replace hs₅:Heap.SameBut TO h₄ h₅:= hs₅
 replace hTO₅:IsPair h₅ TO x y:=hTO₅
 refine wpAny_bind (wpAny_letGo (wpAny_pure (wpAny_pure ?_)))
 refine wpAny_bind (wpAny_seqItems hTO₅ rfl ?_)
 refine wpAny_bind (wpAny_newTuple ?_)
 have hsz:h₅.objs.size=hp.objs.size:=by rw[hs₅.1,hs₄.1,hs₃.1,hs₂.1,hs₁.1]
 have hz₅:IsZip h₅ z TI TO .ellipsis:=hs₅.extBut _ _ D.TOz.symm (hs₄.extBut _ _ D.i2z.symm (hs₃.extBut _ _ D.TOz.symm (hs₂.extBut _ _ D.i1z.symm hz₁)))
 have hk₅:∀c o,c≠z->c≠TO->c≠i1->c≠i2->hp.get? c=some o->h₅.get? c=some o:=λc o c1 c2 c3 c4 e=>
  hs₅.extBut _ _ c2 (hs₄.extBut _ _ c4 (hs₃.extBut _ _ c2 (hs₂.extBut _ _ c3 (hs₁.extBut _ _ c1 e))))
 have h1₅:S1 (k1+1) h₅:= D1.frame _ _ _ h1₂ λb hb o e=>hs₅.extBut b o (Mz hb).2.1 (hs₄.extBut b o (Mz hb).2.2 (hs₃.extBut b o (Mz hb).2.1 e))
 have h2₅:S2 (k2+1) h₅:= D2.frame _ _ _ h2₄ λb hb o e=>hs₅.extBut b o (Kf hb).2.1 e
 have hzlt:z<h₅.objs.size:=Heap.lt_size hz₅
 show wpAny _ _ (Builtin.SmallTypes.ownedTupleHandOut (.ref z) (.ref h₅.objs.size) >>= _) _ _ _
 refine wpAny_bind ?_
 unfold Builtin.SmallTypes.ownedTupleHandOut
 have hz₆:IsZip (h₅.push {cls:=.type "tuple",data:=.seq #[x,y]}) z TI TO .ellipsis:=Heap.get?_push_of_some _ hz₅
 refine wpAny_bind (wpAny_setField_rec hz₆ (by simp) λh₇ hz₇ hs₇=>?_)
 replace hz₇:IsZip h₇ z TI TO (rawInt h₅.objs.size):=hz₇
 refine wpAny_setField_rec hz₇ (by simp) λh₈ hz₈ hs₈=>?_
 replace hz₈:IsZip h₈ z TI TO (rawInt h₅.objs.size):=hz₈
 have up:∀c o,c≠z->h₅.get? c=some o->h₈.get? c=some o:=λc o c1 e=>hs₈.extBut _ _ c1 (hs₇.extBut _ _ c1 (Heap.get?_push_of_some _ e))
 have hT₈:IsPair h₈ h₅.objs.size x y:=hs₈.extBut _ _ (Nat.ne_of_gt hzlt) (hs₇.extBut _ _ (Nat.ne_of_gt hzlt) (Heap.get?_push_size _ rfl))
 have hz8:h₈.objs.size=h₅.objs.size+1:=by rw[hs₈.1,hs₇.1,Heap.size_push]
 rw[hsz] at hz₈ hT₈ hz8
 refine wpAny_pure ⟨_,rfl,?_⟩
 show Q (.ref h₅.objs.size) _
 rw[hsz]
 exact hQ x y h₈ tk' hPx hPy hz₈ (up _ _ D.TOz hTO₅) (D1.frame _ _ _ h1₅ λb hb o e=>up b o (Mz hb).1 e) (D2.frame _ _ _ h2₅ λb hb o e=>up b o (Kf hb).1 e) hT₈ hz8 λc o c1 c2 c3 c4 e=>up c o c1 (hk₅ c o c1 c2 c3 c4 e)
def oX{z TI TO i1 i2:Addr}{f1 f2:List Addr}{n1 n2 k1 k2:Nat}{P1 P2:Nat->Value->Prop}{S1 S2:Nat->Heap->Prop}{a b:Value}{Q:Fin->Shared->Prop}(D:Wf z TI TO i1 i2 f1 f2)
 (D1:Draws prog w A i1 f1 n1 P1 S1)(D2:Draws prog w A i2 f2 n2 P2 S2)
 (hz:IsZip s.heap z TI TO .none)(hTI:IsPair s.heap TI (.ref i1) (.ref i2))(hTO:IsPair s.heap TO a b)(h1:S1 k1 s.heap)(h2:S2 k2 s.heap)(hend:k1=n1\/(k1<n1/\k2=n2))
 (hE:∀h' e tk,(∀c o,c≠z->c≠TO->c≠i1->c≠i2->s.heap.get? c=some o->h'.get? c=some o)->(∃o,h'.get? e=some o/\o.cls=.type "StopIteration")->E (.ref e) {s with heap:=h',toks:=tk}) :
 wpAny (model prog w) A (Builtin.«zip.__next__» ⟨[.ref z],[]⟩) Q E s:=by
 have Mz:∀{b},b∈f1->b≠z/\b≠TO/\b≠i2:=λhb=>⟨λe=>D.z1 (e▸hb),λe=>D.t1 (e▸hb),λe=>D.a2 (e▸hb)⟩
 have Kf:∀{b},b∈f2->b≠z/\b≠TO/\b≠i1:=λhb=>⟨λe=>D.z2 (e▸hb),λe=>D.t2 (e▸hb),λe=>D.a1 (e▸hb)⟩
 obtain⟨hp,g,d,tk0,os⟩:=s
 show wpAny _ _ (field (.ref z) 2 >>= _) _ _ _
 refine wpAny_bind (wpAny_field hz rfl (x:=.bool false) rfl ?_)
 show wpAny _ _ (field (.ref z) 3 >>= _) _ _ _
 refine wpAny_bind (wpAny_field hz rfl (x:=.ref TI) rfl ?_)
 refine wpAny_bind (wpAny_seqItems hTI rfl ?_)
 show wpAny _ _ (Builtin.SmallTypes.ownedTupleIsFree (.ref z) >>= _) _ _ _
 refine wpAny_bind ?_
 unfold Builtin.SmallTypes.ownedTupleIsFree
 refine wpAny_bind (wpAny_field hz rfl (x:=.none) rfl (wpAny_pure ?_))
 simp only[if_true]
 refine wpAny_bind (wpAny_rule ?_)
 refine wpAny_bind (wpAny_field hz rfl (x:=.ref TO) rfl ?_)
 refine wpAny_bind (wpAny_setField_rec hz (by simp) λh₁ hz₁ hs₁=>?_)
 replace hs₁:Heap.SameBut z hp h₁:= hs₁
 replace hz₁:IsZip h₁ z TI TO .ellipsis:=hz₁
 refine wpAny_bind ?_
 simp only[List.zipIdx_cons,List.zipIdx_nil,List.forIn_cons,List.forIn_nil]
 refine wpAny_bind (wpAny_bind (wpAny_onRaise ?_))
 show wpAny _ _ (Builtin.SmallTypes.nextOf (.ref i1) >>= _) _ _ _
 rcases hend with rfl|⟨hk1,rfl⟩
 ·refine wpAny_bind (D1.done _ _ _ (D1.frame _ _ _ h1 λb hb o e=>hs₁.extBut b o (Mz hb).1 e) λh₂ e hs₂ he=>?_)
  obtain⟨oe,hoe,hce⟩:=he
  replace hs₂:Heap.ExtBut i1 h₁ h₂:= hs₂
  have hz₂:IsZip h₂ z TI TO .ellipsis:=hs₂ _ _ D.i1z.symm hz₁
  have hez:e≠z:=λx=>by subst x;rw[hz₂] at hoe;cases hoe;simp at hce
  exact wpAny_setField_rec hz₂ (by simp) λh₃ _ hs₃=>hE h₃ e tk0 (λc o c1 _ c3 _ x=>hs₃.extBut _ _ c1 (hs₂ _ _ c3 (hs₁.extBut _ _ c1 x))) ⟨oe,hs₃.extBut _ _ hez hoe,hce⟩
 ·refine wpAny_bind (D1.item k1 _ _ _ hk1 (D1.frame _ _ _ h1 λb hb o e=>hs₁.extBut b o (Mz hb).1 e) λx h₂ tk hPx h1₂ hs₂=>wpAny_pure ?_)
  replace hs₂:Heap.SameBut i1 h₁ h₂:= hs₂
  have hTO₂:IsPair h₂ TO a b:=hs₂.extBut _ _ D.TOi1 (hs₁.extBut _ _ D.TOz hTO)
  refine wpAny_bind (wpAny_seqItems hTO₂ rfl ?_)
  refine wpAny_bind (wpAny_updateSeq_pair hTO₂ λh₃ hTO₃ hs₃=>?_)
  replace hs₃:Heap.SameBut TO h₂ h₃:= hs₃
  refine wpAny_bind (wpAny_letGo (wpAny_pure ?_))
  refine wpAny_bind (wpAny_bind (wpAny_onRaise ?_))
  show wpAny _ _ (Builtin.SmallTypes.nextOf (.ref i2) >>= _) _ _ _
  refine wpAny_bind (D2.done _ _ _ (D2.frame _ _ _ h2 λb hb o e=>hs₃.extBut b o (Kf hb).2.1 (hs₂.extBut b o (Kf hb).2.2 (hs₁.extBut b o (Kf hb).1 e))) λh₄ e hs₄ he=>?_)
  obtain⟨oe,hoe,hce⟩:=he
  replace hs₄:Heap.ExtBut i2 h₃ h₄:= hs₄
  have hz₄:IsZip h₄ z TI TO .ellipsis:=hs₄ _ _ D.i2z.symm (hs₃.extBut _ _ D.TOz.symm (hs₂.extBut _ _ D.i1z.symm hz₁))
  have hez:e≠z:=λx=>by subst x;rw[hz₄] at hoe;cases hoe;simp at hce
  exact wpAny_setField_rec hz₄ (by simp) λh₅ _ hs₅=>hE h₅ e tk (λc o c1 c2 c3 c4 x=>hs₅.extBut _ _ c1 (hs₄ _ _ c4 (hs₃.extBut _ _ c2 (hs₂.extBut _ _ c3 (hs₁.extBut _ _ c1 x))))) ⟨oe,hs₅.extBut _ _ hez hoe,hce⟩
end
section
variable{prog:Program}{w:World}{A:Around}{E:Value->Shared->Prop}{s:Shared}
def jc{z TI TO i1 i2:Addr}{f1 f2:List Addr}{n1 n2 k1 k2:Nat}{P1 P2:Nat->Value->Prop}{S1 S2:Nat->Heap->Prop}{a b:Value}{Q:Option Value->Shared->Prop}(D:Wf z TI TO i1 i2 f1 f2)
 (D1:Draws prog w A.in1 i1 f1 n1 P1 S1)(D2:Draws prog w A.in1 i2 f2 n2 P2 S2)
 (hz:IsZip s.heap z TI TO .none)(hTI:IsPair s.heap TI (.ref i1) (.ref i2))(hTO:IsPair s.heap TO a b)(h1:S1 k1 s.heap)(h2:S2 k2 s.heap)(hk1:k1<n1)(hk2:k2<n2)
 (hQ:∀x y h' tk,P1 k1 x→P2 k2 y→IsZip h' z TI TO (rawInt s.heap.objs.size)→IsPair h' TO x y→S1 (k1+1) h'→S2 (k2+1) h'→IsPair h' s.heap.objs.size x y→h'.objs.size=s.heap.objs.size+1→
   (∀c o,c≠z->c≠TO->c≠i1->c≠i2->s.heap.get? c=some o->h'.get? c=some o)->Q (some (.ref s.heap.objs.size)) {s with heap:=h',toks:=tk}) :
 wpAny (model prog w) A (pyNext (.ref z)) Q E s:=by
 have hT:s.TypeIs (.ref z) "zip" := ⟨_,hz,rfl⟩
 unfold pyNext
 exact wpAny_bind (wpAny_attempt (wpAny_callSpecial?_slot (name:=Str.ofString "__next__") hT F.slot_zip_next
  (wpAny_call_entry F.slot_zip_next hT F.entry_zip_next
    (mV D D1 D2 hz hTI hTO h1 h2 hk1 hk2 λx y h' tk a0 b0 a1 a2 a3 a4 a5 a6 a7=>wpAny_pure (hQ x y h' tk a0 b0 a1 a2 a3 a4 a5 a6 a7)) (F.args_zip_next_1 _))))
def jX{z TI TO i1 i2:Addr}{f1 f2:List Addr}{n1 n2 k1 k2:Nat}{P1 P2:Nat->Value->Prop}{S1 S2:Nat->Heap->Prop}{a b:Value}{Q:Option Value->Shared->Prop}(D:Wf z TI TO i1 i2 f1 f2)
 (D1:Draws prog w A.in1 i1 f1 n1 P1 S1)(D2:Draws prog w A.in1 i2 f2 n2 P2 S2)
 (hz:IsZip s.heap z TI TO .none)(hTI:IsPair s.heap TI (.ref i1) (.ref i2))(hTO:IsPair s.heap TO a b)(h1:S1 k1 s.heap)(h2:S2 k2 s.heap)(hend:k1=n1\/(k1<n1/\k2=n2))
 (hQ:∀h' tk,(∀c o,c≠z->c≠TO->c≠i1->c≠i2->s.heap.get? c=some o->h'.get? c=some o)->Q none {s with heap:=h',toks:=tk}):wpAny (model prog w) A (pyNext (.ref z)) Q E s:=by
 have hT:s.TypeIs (.ref z) "zip" := ⟨_,hz,rfl⟩
 unfold pyNext
 refine wpAny_bind (wpAny_attempt (wpAny_callSpecial?_slot (name:=Str.ofString "__next__") hT F.slot_zip_next
  (wpAny_call_entry F.slot_zip_next hT F.entry_zip_next (oX D D1 D2 hz hTI hTO h1 h2 hend λh' e tk hk he=>?_) (F.args_zip_next_1 _))))
 obtain⟨o,ho,hc⟩:=he
 refine wpAny_bind (wpAny_isInstance (T:= "StopIteration") (b:=true) ⟨o,ho,hc⟩ isSubtype_stop ?_)
 exact wpAny_pure (hQ _ _ hk)
end
def oN(K:PySem.W.Frag)(b:Bool)(H:Hp)(a:Addr)(xs:List V):Prop:=if b=true then aG K H a xs else ř K H a xs
def cI(b:Bool)(h:Heap)(it l:Addr)(i:Nat):Prop:=if b=true then h.IsTupleIter it l i else h.IsListIter it l i
def Bu(b:Bool)(h:Heap)(l:Addr)(its:Array Value):Prop:=if b=true then h.IsTuple l its else h.IsList l its
def Wg(b:Bool):String:=if b=true then "tuple_iterator" else "list_iterator"
def lC{prog:Program}{w:World}{A:Around}(b:Bool)(hh:A.handled=none)(it l:Addr)(hne:l≠it)(items:Array Value) :
 Draws prog w A it [it,l] items.size (λi v=>items[i]?=some v) (λi h=>cI b h it l i/\Bu b h l items):=by
 cases b with
 |true=>exact uP hh it l hne items
 |false=>exact Draws.list hh it l hne items
def cI.ex{b:Bool}{h:Heap}{it l:Addr}{i:Nat}(x:cI b h it l i):∃o,h.get? it=some o/\o.cls=.type (Wg b)/\o.data=.fields #[.ref l,.int i 0]:=by
 cases b with
 |true=>exact x
 |false=>exact x
def cI.of{b:Bool}{h:Heap}{it l:Addr}{i:Nat}{o:Obj}(h1:h.get? it=some o)(h2:o.cls=.type (Wg b))(h3:o.data=.fields #[.ref l,.int i 0]):cI b h it l i:=by
 cases b with
 |true=>exact⟨o,h1,h2,h3⟩
 |false=>exact⟨o,h1,h2,h3⟩
def cI.keep{b:Bool}{h h':Heap}{it l:Addr}{i:Nat}(x:cI b h it l i)(k:∀o,h.get? it=some o->h'.get? it=some o):cI b h' it l i:=by
 obtain⟨o,h1,h2,h3⟩:=x.ex
 exact .of (k o h1) h2 h3
def Kg(K:PySem.W.Frag)(b:Bool)(H:Hp)(l:Addr)(i:Nat)(xs:List V):Prop:=xs.length<=i/\∀j,j<i->∃ys y,oN K b H l ys/\ys[j]?=some y
def Itz(K:PySem.W.Frag)(b1 b2:Bool)(l1 l2:Addr):It:=
 ⟨λi H=>(∃xs x,oN K b1 H l1 xs/\xs[i]?=some x)/\∃ys y,oN K b2 H l2 ys/\ys[i]?=some y,
  λi H z H'=>∃x y T,(∀xs,oN K b1 H l1 xs->xs[i]?=some x)/\(∀ys,oN K b2 H l2 ys->ys[i]?=some y)/\H T=none/\z=.ref T/\H'=upd H T (.tup [x,y]),
  λi H=>(∃xs,oN K b1 H l1 xs)/\(∃ys,oN K b2 H l2 ys)/\((∃xs,oN K b1 H l1 xs/\Kg K b1 H l1 i xs)\/((∃xs x,oN K b1 H l1 xs/\xs[i]?=some x)/\∃ys,oN K b2 H l2 ys/\Kg K b2 H l2 i ys))⟩
section
variable{X:Cx}{pins:List (Addr×Obj)}{σ:L2.St}{H:Hp}{s:Shared}
def qe{b:Bool}{a:Addr}{xs:List V}(I:Inv X pins σ H s)(h:oN X.K b H a xs):∃its:List Value,Vals xs its/\Bu b s.heap a its.toArray/\xs.length<=sizeLine:=by
 cases b with
 |true=>
  obtain⟨its,r,p,z⟩:=I.tuple h
  exact⟨its,r,p,z⟩
 |false=>
  obtain⟨its,r,p,z⟩:=I.list h
  exact⟨its,r,p.isList,z⟩
def qg{b:Bool}{a:Addr}{xs ys:List V}(I:Inv X pins σ H s)(h:oN X.K b H a xs)(h':oN X.K b H a ys):xs=ys:=by
 cases b with
 |true=>exact I.pH h h'
 |false=>exact I.lO h h'
def MJ{b:Bool}{l:Addr}{i:Nat}{xs:List V}(I:Inv X pins σ H s)(h:oN X.K b H l xs)(q:Kg X.K b H l i xs):xs.length=i:=by
 obtain⟨h1,h2⟩:=q
 refine Nat.le_antisymm h1 ?_
 cases i with
 |zero=>omega
 |succ i=>
  obtain⟨ys,y,e1,e2⟩:=h2 i (by omega)
  rw[qg I e1 h] at e2
  have:=(List.getElem?_eq_some_iff.mp e2).1
  omega
def za{bb:Bool}{a b:Addr}{xs:List V}(I:Inv X pins σ H s)(f:cU X pins H b)(h:oN X.K bb H a xs):a≠b:=by
 intro e
 subst e
 have hk:∀o,X.K.lookup a=some o->False:=λo e=>by
  have hb:=I.ok.mod.Wv a o e
  rcases f.2.2.2.1 with z|z
  ·exact I.ok.Aq a o hb z
  ·exact absurd (Nat.lt_of_lt_of_le (Heap.lt_size (I.ok.bs a o hb).1) z) (Nat.lt_irrefl _)
 have hr:∀u,Rd H a u->False:=λu r=>by
  rcases r with r|⟨o,r⟩<;>(rw[f.1] at r;cases r)
 cases bb with
 |true=>
  have h':aG X.K H a xs:=h
  rcases h' with q|⟨o,_,_,q,_⟩
  ·exact hr _ q
  ·exact hk o q
 |false=>
  have h':ř X.K H a xs:=h
  rcases h' with q|⟨o,_,_,q,_⟩
  ·exact hr _ q
  ·exact hk o q
end
def Fb{P:Program}{w:World}{K:PySem.W.Frag}{elts:List Expr}{k:Nat}{pos:Pos}(b1 b2:Bool)(l1 l2 z TI TO i1 i2:Addr)(nd:[z,TI,TO,i1,i2].Nodup) :
 Turn P w K (.Tuple elts k pos) (Itz K b1 b2 l1 l2) [z,TI,TO,i1,i2] z (λi h=>IsZip h z TI TO .none/\IsPair h TI (.ref i1) (.ref i2)/\(∃a b,IsPair h TO a b)/\cI b1 h i1 l1 i/\cI b2 h i2 l2 i) where
 mem:=by simp
 obj:=λi h st b hb=>by
  obtain⟨hz,hTI,⟨x,y,hTO⟩,h1,h2⟩:=st
  simp only[List.mem_cons,List.not_mem_nil,or_false] at hb
  rcases hb with rfl|rfl|rfl|rfl|rfl
  ·exact⟨_,hz,λv z=>by have z':Data.fields _=Data.cell v:=z;cases z'⟩
  ·exact⟨_,hTI,λv z=>by have z':Data.seq _ _=Data.cell v:=z;cases z'⟩
  ·exact⟨_,hTO,λv z=>by have z':Data.seq _ _=Data.cell v:=z;cases z'⟩
  ·obtain⟨o,e1,c,d⟩:=h1.ex
   exact⟨o,e1,λv z=>by rw[d] at z;cases z⟩
  ·obtain⟨o,e1,c,d⟩:=h2.ex
   exact⟨o,e1,λv z=>by rw[d] at z;cases z⟩
 keep:=λi h h' st k=>by
  obtain⟨hz,hTI,⟨x,y,hTO⟩,h1,h2⟩:=st
  exact⟨k z (by simp) _ hz,k TI (by simp) _ hTI,⟨x,y,k TO (by simp) _ hTO⟩,h1.keep λo q=>k i1 (by simp) o q,h2.keep λo q=>k i2 (by simp) o q⟩
 item:=by
  intro X hP hw hK hc i pins s σ H E I hf st hg
  subst hP hw hK
  obtain⟨hz,hTI,⟨a,b,hTO⟩,h1,h2⟩:=st
  obtain⟨⟨xs,x,hq1,hx⟩,ys,y,hq2,hy⟩:=hg
  obtain⟨wX,rv1,p1,_⟩:=qe I hq1
  obtain⟨its2,rv2,p2,_⟩:=qe I hq2
  obtain⟨u1,hu1,ru1⟩:=rv1.get hx
  obtain⟨u2,hu2,ru2⟩:=rv2.get hy
  have ne1:∀b∈[z,TI,TO,i1,i2],l1≠b:=λb hb=>za I (hf b hb) hq1
  have ne2:∀b∈[z,TI,TO,i1,i2],l2≠b:=λb hb=>za I (hf b hb) hq2
  have hh:X.A.in1.handled=none:=I.ok.hd hc
  simp only[List.nodup_cons,List.mem_cons,List.not_mem_nil,or_false,not_or,List.nodup_nil,not_false_eq_true,and_true] at nd
  obtain⟨⟨n1,n2,n3,n4⟩,⟨n5,n6,n7⟩,⟨n8,n9⟩,n10⟩:=nd
  have D:Wf z TI TO i1 i2 [i1,l1] [i2,l2]:=by
   refine⟨Ne.symm n1,Ne.symm n2,Ne.symm n3,Ne.symm n4,n5,n6,n7,n8,n9,n10,?_,?_,?_,?_,?_,?_⟩<;>simp only[List.mem_cons,List.not_mem_nil,or_false,not_or]
   ·exact⟨n3,(ne1 z (by simp)).symm⟩
   ·exact⟨n4,(ne2 z (by simp)).symm⟩
   ·exact⟨n8,(ne1 TO (by simp)).symm⟩
   ·exact⟨n9,(ne2 TO (by simp)).symm⟩
   ·exact⟨n10,(ne2 i1 (by simp)).symm⟩
   ·exact⟨Ne.symm n10,(ne1 i2 (by simp)).symm⟩
  have lt1:i<wX.toArray.size:=by
   rw[List.size_toArray]
   exact(List.getElem?_eq_some_iff.mp hu1).1
  have Dv:i<its2.toArray.size:=by
   rw[List.size_toArray]
   exact(List.getElem?_eq_some_iff.mp hu2).1
  have hlt:∀b∈[z,TI,TO,i1,i2],b<s.heap.objs.size:=λb hb=>by
   simp only[List.mem_cons,List.not_mem_nil,or_false] at hb
   rcases hb with rfl|rfl|rfl|rfl|rfl
   ·exact Heap.lt_size hz
   ·exact Heap.lt_size hTI
   ·exact Heap.lt_size hTO
   ·obtain⟨o,e1,_⟩:=h1.ex;exact Heap.lt_size e1
   ·obtain⟨o,e1,_⟩:=h2.ex;exact Heap.lt_size e1
  refine jc D (lC (A:=X.A.in1) b1 hh i1 l1 (ne1 i1 (by simp)) wX.toArray) (lC (A:=X.A.in1) b2 hh i2 l2 (ne2 i2 (by simp)) its2.toArray) hz hTI hTO ⟨h1,p1⟩ ⟨h2,p2⟩ lt1 Dv λx' y' h' tk hPx hPy hz' ZcW s1 s2 hT hsz hk=>?_
  have ex:x'=u1:=by
   have:wX.toArray[i]?=some x':=hPx
   rw[show wX.toArray[i]?=some u1 by simpa using hu1] at this
   exact(Option.some.inj this).symm
  have ey:y'=u2:=by
   have:its2.toArray[i]?=some y':=hPy
   rw[show its2.toArray[i]?=some u2 by simpa using hu2] at this
   exact(Option.some.inj this).symm
  subst ex ey
  refine⟨.ref s.heap.objs.size,rfl,wpAny_letOwnedTupleGo_zip hz' λh'' hz'' hs'=>?_⟩
  have hs2:Heap.SameBut z h' h'':=hs'
  have I2:=mQ (fp:=[z,TI,TO,i1,i2]) (h':=h'') (t':=tk) I ru1 ru2 ⟨_,(hs2.2 _ (Nat.ne_of_gt (hlt z (by simp)))).trans hT,rfl⟩ (λb o hb q=>by
   have hne:∀c∈[z,TI,TO,i1,i2],b≠c:=λc hc e=>hb (e▸hc)
   exact(hs2.2 b (hne z (by simp))).trans (hk b o (hne z (by simp)) (hne TO (by simp)) (hne i1 (by simp)) (hne i2 (by simp)) q)) hf hlt
  refine⟨.ref s.heap.objs.size,_,I2,rfl,⟨x,y,s.heap.objs.size,λzs hzs=>by rw[qg I hzs hq1];exact hx,λzs hzs=>by rw[qg I hzs hq2];exact hy,I.fresh,rfl,rfl⟩,
   ⟨hz'',(hs2.2 TI (Ne.symm n1)).trans (hk TI _ (Ne.symm n1) n5 n6 n7 hTI),⟨_,_,(hs2.2 TO (Ne.symm n2)).trans ZcW⟩,s1.1.keep λo q=>(hs2.2 i1 (Ne.symm n3)).trans q,s2.1.keep λo q=>(hs2.2 i2 (Ne.symm n4)).trans q⟩,λb hb=>?_⟩
  rw[Ċ (Nat.ne_of_lt (hlt b hb))];exact(hf b hb).1
 done:=by
  intro X hP hw hK hc i pins s σ H E I hf st hg
  subst hP hw hK
  obtain⟨hz,hTI,⟨a,b,hTO⟩,h1,h2⟩:=st
  obtain⟨⟨xs,hq1⟩,⟨ys,hq2⟩,hend'⟩:=hg
  have hend:xs.length=i\/(i<xs.length/\ys.length=i):=by
   rcases hend' with⟨xs',q1,q2⟩|⟨⟨xs',x,q1,q2⟩,ys',q3,q4⟩
   ·left;rw[qg I hq1 q1];exact MJ I q1 q2
   ·right
    rw[qg I hq1 q1,qg I hq2 q3]
    exact⟨(List.getElem?_eq_some_iff.mp q2).1,MJ I q3 q4⟩
  obtain⟨wX,rv1,p1,_⟩:=qe I hq1
  obtain⟨its2,rv2,p2,_⟩:=qe I hq2
  have hl1:=rv1.length
  have hl2:=rv2.length
  have ne1:∀b∈[z,TI,TO,i1,i2],l1≠b:=λb hb=>za I (hf b hb) hq1
  have ne2:∀b∈[z,TI,TO,i1,i2],l2≠b:=λb hb=>za I (hf b hb) hq2
  have hh:X.A.in1.handled=none:=I.ok.hd hc
  simp only[List.nodup_cons,List.mem_cons,List.not_mem_nil,or_false,not_or,List.nodup_nil,not_false_eq_true,and_true] at nd
  obtain⟨⟨n1,n2,n3,n4⟩,⟨n5,n6,n7⟩,⟨n8,n9⟩,n10⟩:=nd
  have D:Wf z TI TO i1 i2 [i1,l1] [i2,l2]:=by
   refine⟨Ne.symm n1,Ne.symm n2,Ne.symm n3,Ne.symm n4,n5,n6,n7,n8,n9,n10,?_,?_,?_,?_,?_,?_⟩<;>simp only[List.mem_cons,List.not_mem_nil,or_false,not_or]
   ·exact⟨n3,(ne1 z (by simp)).symm⟩
   ·exact⟨n4,(ne2 z (by simp)).symm⟩
   ·exact⟨n8,(ne1 TO (by simp)).symm⟩
   ·exact⟨n9,(ne2 TO (by simp)).symm⟩
   ·exact⟨n10,(ne2 i1 (by simp)).symm⟩
   ·exact⟨Ne.symm n10,(ne1 i2 (by simp)).symm⟩
  refine jX D (lC (A:=X.A.in1) b1 hh i1 l1 (ne1 i1 (by simp)) wX.toArray) (lC (A:=X.A.in1) b2 hh i2 l2 (ne2 i2 (by simp)) its2.toArray) hz hTI hTO ⟨h1,p1⟩ ⟨h2,p2⟩ ?_ λh' tk hk=>⟨rfl,turns (fp:=[z,TI,TO,i1,i2]) (t':=tk) I (λb o hb q=>?_) hf⟩
  ·rw[List.size_toArray,List.size_toArray]
   omega
  ·have hne:∀c∈[z,TI,TO,i1,i2],b≠c:=λc hc e=>hb (e▸hc)
   exact hk b o (hne z (by simp)) (hne TO (by simp)) (hne i1 (by simp)) (hne i2 (by simp)) q
 self:=λ_ _ _ _ _ st h=>wpAny_pyIter_zip st.1 h
section
abbrev zB1(b:Bool)(h:Heap)(l1:Addr):Heap:=h.push {cls:=.type (Wg b),data:=.fields #[.ref l1,.int 0 0]}
abbrev zB2(b b':Bool)(h:Heap)(l1 l2:Addr):Heap:=(zB1 b h l1).push {cls:=.type (Wg b'),data:=.fields #[.ref l2,.int 0 0]}
abbrev zB3(b b':Bool)(h:Heap)(l1 l2:Addr):Heap:=(zB2 b b' h l1 l2).push {cls:=.type "tuple",data:=.seq #[.ref h.objs.size,.ref (zB1 b h l1).objs.size]}
abbrev zB4(b b':Bool)(h:Heap)(l1 l2:Addr):Heap:=(zB3 b b' h l1 l2).push {cls:=.type "tuple",data:=.seq #[.none,.none]}
abbrev Tw(b b':Bool)(h:Heap)(l1 l2:Addr):Heap:=(zB4 b b' h l1 l2).push {cls:=.type "zip",data:=.fields #[.none,.bool false,.bool false,.ref (zB2 b b' h l1 l2).objs.size,.ref (zB3 b b' h l1 l2).objs.size]}
def uQ{prog:Program}{w:World}{A:Around}{E:Value->Shared->Prop}{s:Shared}{b:Bool}{l:Addr}{its:Array Value}{Q:Value->Shared->Prop}(hl:Bu b s.heap l its)
 (hQ:Q (.ref s.heap.objs.size) {s with heap:=s.heap.push {cls:=.type (Wg b),data:=.fields #[.ref l,.int 0 0]}}):wpAny (model prog w) A (pyIter (.ref l)) Q E s:=by
 cases b with
 |true=>exact wpAny_pyIter_tuple hl hQ
 |false=>exact wpAny_pyIter_list hl hQ
theorem Bu.push{b:Bool}{h:Heap}{l:Addr}{its:Array Value}(x:Bu b h l its)(o:Obj):Bu b (h.push o) l its:=by
 cases b with
 |true=>exact Heap.IsTuple.push x o
 |false=>exact Heap.IsList.push x o
def uR(b b':Bool)(l1 l2:Addr)(xs ys:Array Value) :
 Meets (Builtin.«zip.__new__» ⟨[.type "zip",.ref l1,.ref l2],[]⟩) (λ_ R s=>Bu b s.heap l1 xs/\Bu b' s.heap l2 ys/\
  R (.ok (.ret (.ref (zB4 b b' s.heap l1 l2).objs.size))) {s with heap:=Tw b b' s.heap l1 l2}):=
 .of_wp fun prog w A R s h=>by
   obtain⟨hp,g,d,tk,os⟩:=s;obtain⟨hl1,hl2,h⟩:=h
   have hsub:=sub_zip
   have hL1:Bu b (Shared.heap ⟨hp,g,d,tk,os⟩) l1 xs:=hl1
   have hL2:Bu b' (Shared.heap ⟨hp.push {cls:=.type (Wg b),data:=.fields #[.ref l1,.int 0 0]},g,d,tk,os⟩) l2 ys:=Bu.push hl2 _
   wp_walk using uQ hL1,uQ hL2
   exact⟨_,rfl,h⟩
variable{prog:Program}{w:World}{A:Around}{E:Value->Shared->Prop}{s:Shared}
def wY{b b':Bool}{l1 l2:Addr}{xs ys:Array Value}{Q:Value->Shared->Prop}(hl1:Bu b s.heap l1 xs)(hl2:Bu b' s.heap l2 ys)
 (h:∀h',IsZip h' (s.heap.objs.size+4) (s.heap.objs.size+2) (s.heap.objs.size+3) .none→IsPair h' (s.heap.objs.size+2) (.ref s.heap.objs.size) (.ref (s.heap.objs.size+1))→
   IsPair h' (s.heap.objs.size+3) .none .none->cI b h' s.heap.objs.size l1 0->cI b' h' (s.heap.objs.size+1) l2 0->h'.objs.size=s.heap.objs.size+5->
   (∀c o,s.heap.get? c=some o->h'.get? c=some o)->Q (.ref (s.heap.objs.size+4)) {s with heap:=h'}) :
 wpAny (model prog w) A (call (.type "zip") [.ref l1,.ref l2]) Q E s:=by
 refine callType_new F.called_zip (by decide) (F.typeCall_zip_2 _ _) (F.newCall_zip_2 _ _) (λobj=>F.args_object_init_3 obj _ _) F.entry_zip_new
  (uR b b' l1 l2 xs ys) ⟨hl1,hl2,?_⟩
 have z1:(zB1 b s.heap l1).objs.size=s.heap.objs.size+1:=Heap.size_push ..
 have z2:(zB2 b b' s.heap l1 l2).objs.size=s.heap.objs.size+2:=by rw[Heap.size_push,z1]
 have z3:(zB3 b b' s.heap l1 l2).objs.size=s.heap.objs.size+3:=by rw[Heap.size_push,z2]
 have z4:(zB4 b b' s.heap l1 l2).objs.size=s.heap.objs.size+4:=by rw[Heap.size_push,z3]
 have z5:(Tw b b' s.heap l1 l2).objs.size=s.heap.objs.size+5:=by rw[Heap.size_push,z4]
 have g5:(Tw b b' s.heap l1 l2).get? (zB4 b b' s.heap l1 l2).objs.size=some _:=Heap.get?_push_size _ rfl
 have g4:(Tw b b' s.heap l1 l2).get? (zB3 b b' s.heap l1 l2).objs.size=some _:=Heap.get?_push_of_some _ (Heap.get?_push_size _ rfl)
 have g3:(Tw b b' s.heap l1 l2).get? (zB2 b b' s.heap l1 l2).objs.size=some _:=Heap.get?_push_of_some _ (Heap.get?_push_of_some _ (Heap.get?_push_size _ rfl))
 have g2:(Tw b b' s.heap l1 l2).get? (zB1 b s.heap l1).objs.size=some _:=Heap.get?_push_of_some _ (Heap.get?_push_of_some _ (Heap.get?_push_of_some _ (Heap.get?_push_size _ rfl)))
 have g1:(Tw b b' s.heap l1 l2).get? s.heap.objs.size=some _:=Heap.get?_push_of_some _ (Heap.get?_push_of_some _ (Heap.get?_push_of_some _ (Heap.get?_push_of_some _ (Heap.get?_push_size _ rfl))))
 show _/\_
 rw[z2,z3,z4] at g5
 rw[z1,z2] at g3
 rw[z3] at g4
 rw[z1] at g2
 rw[z4]
 exact⟨⟨_,g5,rfl⟩,h _ g5 g3 g4 (.of g1 rfl rfl) (.of g2 rfl rfl) z5 λc o x=>
  Heap.get?_push_of_some _ (Heap.get?_push_of_some _ (Heap.get?_push_of_some _ (Heap.get?_push_of_some _ (Heap.get?_push_of_some _ x))))⟩
end
section
variable{X:Cx}{elts:List Expr}{k:Nat}{tp:Pos}
def ZcX(K:PySem.W.Frag)(ta:TA):TI:=λσ H R=>ta σ H λvs H1=>∃b1 b2 l1 l2,vs=[.ref l1,.ref l2]/\(∃xs,oN K b1 H1 l1 xs)/\(∃xs,oN K b2 H1 l2 xs)/\R (Itz K b1 b2 l1 l2) H1
def Tz{e1 e2:Expr}{ta:TA}{p pos:Pos}(hg:Gl X "zip")(hm:X.mg "zip" =none)(ha:PA X [e1,e2] ta)(hs:starEach [e1,e2] X.env=[(false,eval e1 X.env),(false,eval e2 X.env)]:=by exact wL rfl rfl)(hs2:starEach [e2] X.env=[(false,eval e2 X.env)]:=by exact Ŗ rfl) :
 PI X (.Tuple elts k tp) (.Call (.Name "zip" p) [e1,e2] [] pos) (ZcX X.K ta):=by
 intro pins s σ H R I h
 refine Call_ (cT I hg hm boot_zip (PyProof.Rows.callWith_type1 (Ľ (ha pos pins s σ H _ I h) λus s1 ⟨vs,H1,I1,r1,q1⟩=>?_) (by rw[hs,hs2]) (by rw[hs2];rfl)))
 obtain⟨b1,b2,l1,l2,e,⟨xs,hq1⟩,⟨ys,hq2⟩,q⟩:=q1
 subst e
 obtain⟨u1,u2,rfl,ru1,ru2⟩:=vals2 r1
 cases ru1
 cases ru2
 obtain⟨wX,rv1,p1,_⟩:=qe I1 hq1
 obtain⟨its2,rv2,p2,_⟩:=qe I1 hq2
 refine wY p1 p2 λh' hz hTI hTO h1 h2 hsz hk=>?_
 have I2:Inv X pins σ H1 {s1 with heap:=h'}:=I1.kept (t':=s1.toks) hk
 refine wpAny_pyIter_zip (s:={s1 with heap:=h'}) hz ⟨s1.heap.objs.size+4,[s1.heap.objs.size+4,s1.heap.objs.size+2,s1.heap.objs.size+3,s1.heap.objs.size,s1.heap.objs.size+1],_,_,H1,rfl,I2,Fb b1 b2 l1 l2 _ _ _ _ _ (by simp),⟨hz,hTI,⟨_,_,hTO⟩,h1,h2⟩,λb hb=>?_,q⟩
 have hb':s1.heap.objs.size<=b:=by
  simp only[List.mem_cons,List.not_mem_nil,or_false] at hb
  rcases hb with rfl|rfl|rfl|rfl|rfl<;>omega
 exact I1.Ar hb' (I1.hok.fresh hb')
end
def jd:List PV->List PV->List PV
 |p::ps,q::qs=>.tup [p,q]::jd ps qs
 |_,_=>[]
theorem uT:∀(ps qs:List PV) (i:Nat) (r:PV),(jd ps qs)[i]?=some r->∃p q,ps[i]?=some p/\qs[i]?=some q/\r=.tup [p,q]
 | [],_,_,_,h=>by simp[jd] at h
 |_::_,[],_,_,h=>by simp[jd] at h
 |p::ps,q::qs,0,r,h=>by
  have h':some (PV.tup [p,q])=some r:=h
  cases h'
  exact⟨p,q,rfl,rfl,rfl⟩
 |p::ps,q::qs,i+1,r,h=>uT ps qs i r h
theorem uU:∀(ps qs:List PV),(jd ps qs).length=min ps.length qs.length
 | [],_=>by simp[jd]
 |_::_,[]=>by simp[jd]
 |_::ps,_::qs=>by
  show(jd ps qs).length+1=_
  rw[uU ps qs,List.length_cons,List.length_cons]
  omega
def Kh(m1 m2:M (List PV)):M (List PV):=λρ=>(m1 ρ).bind λps ρ1=>(m2 ρ1).bind λqs ρ2=>.ok (jd ps qs) ρ2
def Yu(K:PySem.W.Frag)(b:Bool)(a:Addr):It:=if b=true then WT K a else Rf K a
def mW{K:KK}{L F:Hp}{b:Bool}{a:Addr}{ps:List PV}(h:bK K L F (Yu K.K b a) ps){c:Ctx}{F2 H:Hp}{σ:L2.St}{ρ:Ĳ}(rel:Rel K c F2 H σ ρ)(sF:Same F F2)(sL:Same L H)(i:Nat)(p:PV)(hp:ps[i]?=some p) :
 (∃xs x,oN K.K b H a xs/\xs[i]?=some x)/\∀x,(∀xs,oN K.K b H a xs->xs[i]?=some x)->∃F3,Rel K c F3 H σ ρ/\Same F2 F3/\Rep K F3 p x:=by
 obtain⟨g,_⟩:=h c i F2 H σ ρ rel sF sL
 obtain⟨g1,g2⟩:=g p hp
 cases b with
 |true=>exact⟨g1,λx hx=>let ⟨F3,r3,s3,_,rp⟩:=g2 x H ⟨rfl,hx⟩;⟨F3,r3,s3,rp⟩⟩
 |false=>exact⟨g1,λx hx=>let ⟨F3,r3,s3,_,rp⟩:=g2 x H ⟨rfl,hx⟩;⟨F3,r3,s3,rp⟩⟩
def rG{K:KK}{L F:Hp}{b:Bool}{a:Addr}{ps:List PV}(h:bK K L F (Yu K.K b a) ps){c:Ctx}{F2 H:Hp}{σ:L2.St}{ρ:Ĳ}(rel:Rel K c F2 H σ ρ)(sF:Same F F2)(sL:Same L H) :
 ∃xs,oN K.K b H a xs/\Kg K.K b H a ps.length xs:=by
 obtain⟨_,st⟩:=h c ps.length F2 H σ ρ rel sF sL
 have st':∃xs,oN K.K b H a xs/\xs.length<=ps.length:=by
  cases b with
  |true=>exact st rfl
  |false=>exact st rfl
 obtain⟨xs,h1,h2⟩:=st'
 exact⟨xs,h1,h2,λj hj=>(mW h rel sF sL j _ (List.getElem?_eq_getElem hj)).1⟩
def Fd{K:KK}{L F:Hp}{b1 b2:Bool}{a1 a2:Addr}{ps qs:List PV}(h1:bK K L F (Yu K.K b1 a1) ps)(h2:bK K L F (Yu K.K b2 a2) qs):bK K L F (Itz K.K b1 b2 a1 a2) (jd ps qs):=by
 intro c i F2 H σ ρ rel sF sL
 refine⟨λr hr=>?_,λhi=>?_⟩
 ·obtain⟨p,q,hp,hq,rfl⟩:=uT ps qs i r hr
  obtain⟨g1,y1⟩:=mW h1 rel sF sL i p hp
  refine⟨⟨g1,(mW h2 rel sF sL i q hq).1⟩,λz H' ⟨x,y,T,e1,e2,hT,ez,eH⟩=>?_⟩
  subst ez eH
  obtain⟨F3,gC,s3,rp⟩:=y1 x e1
  obtain⟨F4,uF,s4,rq⟩:=(mW h2 gC (sF.trans s3) sL i q hq).2 y e2
  obtain⟨r1,r2⟩:=yZ uF hT (Rep.same s4 p x rp) rq
  exact⟨_,r1,(s3.trans s4).trans (Same.upd (uF.sub.free hT)),Same.upd hT,r2⟩
 ·rw[uU] at hi
  obtain⟨xs,x1,x2⟩:=rG h1 rel sF sL
  obtain⟨ys,y1,y2⟩:=rG h2 rel sF sL
  refine⟨⟨xs,x1⟩,⟨ys,y1⟩,?_⟩
  by_cases hl:ps.length<=qs.length
  ·left
   have e:i=ps.length:=by omega
   exact⟨xs,x1,e▸x2⟩
  ·right
   have e:i=qs.length:=by omega
   exact⟨(mW h1 rel sF sL i _ (List.getElem?_eq_getElem (by omega))).1,ys,y1,e▸y2⟩
def Yw{K:KK}{c:Ctx}{σ:L2.St}{ρ:Ĳ}{F H:Hp}{ps:List PV}{v:V}(h:rSq K c σ ρ F H ps v):∃b a,v=.ref a/\(∃xs,oN K.K b H a xs)/\bK K c.L F (Yu K.K b a) ps:=by
 rcases h with⟨a,e1,e2,e3⟩|⟨a,e1,e2,e3⟩
 ·exact⟨false,a,e1,e2,e3⟩
 ·exact⟨true,a,e1,e2,e3⟩
section
variable{X:Cx}{cm:String->Addr}{E:L2.St->XK}{e e2:Expr}
def Yx{elts:List Expr}{k:Nat}{tp p pos:Pos}{m1 m2:M (List PV)}(hg:Gl X "zip")(hm:X.mg "zip" =none)(h1:PE X e (tG (kk X cm) E (rSq (kk X cm)) m1))(h2:PE X e2 (tG (kk X cm) E (rSq (kk X cm)) m2))
 (hs:starEach [e,e2] X.env=[(false,eval e X.env),(false,eval e2 X.env)]:=by exact wL rfl rfl)(hs2:starEach [e2] X.env=[(false,eval e2 X.env)]:=by exact Ŗ rfl) :
 PI X (.Tuple elts k tp) (.Call (.Name "zip" p) [e,e2] [] pos) (tI (kk X cm) E (Kh m1 m2)):=λpins s σ H R I h=>Tz hg hm (ŕ h1 (ŕ h2 cW hs2) (by rw[hs,hs2])) hs hs2 pins s σ H R I (by
 obtain⟨c,F,ρ,rel,h⟩:=h
 refine⟨c,F,ρ,rel,Ŷ.bind h λps ρ1 v F1 H1 ć s1 s2 q h1=>⟨c,F1,ρ1,ć,Ŷ.bind h1 λqs ρ2 u F2 H2 Ğ s3 s4 q2 h2=>?_⟩⟩
 obtain⟨b1,a1,e1,_,e3⟩:=Yw q
 obtain⟨b2,a2,f1,f2,f3⟩:=Yw q2
 subst e1 f1
 obtain⟨xs,x1,_⟩:=rG (e3.mono s3) Ğ (Same.refl _) λb u e=>(Ğ.lent b u e).1
 exact⟨b1,b2,a1,a2,rfl,⟨xs,x1⟩,f2,h2 _ F2 H2 Ğ (Same.refl _) (Same.refl _) (Fd (e3.mono s3) f3)⟩)
end
end P
namespace P
open PySem PySem.Spec PyProof.Rows L2 M2 M3 M4
section
variable{X:Cx}
end
end P
namespace P
open PySem PySem.Spec PyProof.Rows L2 M2 M3 M4
def Kl{x:Int}{n:Nat}(h1: -(2 ^ n:Int)<x)(h2:x<2 ^ n):bits x<=n:=by
 refine intBits_le_iff.mpr ?_
 have e:((2 ^ n:Nat):Int)=(2:Int) ^ n:=by simp
 have:((x.natAbs:Nat):Int)<((2 ^ n:Nat):Int):=by rw[e];omega
 omega
def Fe{x y:Int}(h:y≠0)(h1: -18446744073709551616<y)(h2:y<18446744073709551616):gD x y=true:=Yr h (Nat.le_trans (Kl (n:=64) (by omega) (by omega)) (by decide))
@[simp] theorem Zbk{x:Int}{n:Nat}(h:n≠0)(h2:n<18446744073709551616):gD x (no_index (OfNat.ofNat n):Int)=true:=by
  have e:(no_index (OfNat.ofNat n):Int)=(n:Int):=rfl
  rw[e]
  exact Fe (by omega) (by omega) (by omega)
@[simp] theorem Yy{x:Int}{n:Nat}(h:n<18446744073709551616):ō x (no_index (OfNat.ofNat n):Int)=true:=by
  have e:(no_index (OfNat.ofNat n):Int)=(n:Int):=rfl
  rw[e]
  exact mul_r (by omega) (by omega)
@[simp] theorem Yz{x:Int}{n:Nat}(h:n<18446744073709551616):ō (no_index (OfNat.ofNat n):Int) x=true:=by
  have e:(no_index (OfNat.ofNat n):Int)=(n:Int):=rfl
  rw[e]
  exact cH (by omega) (by omega)
@[simp] theorem Zbl{m n:Nat}(h:m<18446744073709551616)(h2:n≤1000000):uK (no_index (OfNat.ofNat m):Int) (no_index (OfNat.ofNat n):Int)=true:=by
  have e:(no_index (OfNat.ofNat m):Int)=(m:Int):=rfl
  have e2:(no_index (OfNat.ofNat n):Int)=(n:Int):=rfl
  rw[e,e2]
  unfold uK
  simp
  omega
@[simp] theorem YB{x:Int}{n:Nat}:x.fdiv (no_index (OfNat.ofNat n):Int)=x / (no_index (OfNat.ofNat n):Int):=Int.fdiv_eq_ediv_of_nonneg x (Int.natCast_nonneg n)
@[simp] theorem YC{x:Int}{n:Nat}:x.fmod (no_index (OfNat.ofNat n):Int)=x % (no_index (OfNat.ofNat n):Int):=Int.fmod_eq_emod_of_nonneg x (Int.natCast_nonneg n)
end P
namespace P
open PySem PySem.Spec PyProof.Rows L2 M2 M3 M4
def Ń{a b:Str}(ha:PyData.strOk a=true)(hb:PyData.strOk b=true):Ŋ (.str a) (.str b)=some (.bl (decide (a=b))):=by
 have h:eqB (.str a) (.str b)=decide (a=b):=by unfold eqB;rfl
 unfold Ŋ Bm
 rw[show aq (.str a)=true by unfold aq;exact ha,show aq (.str b)=true by unfold aq;exact hb,h]
 rfl
end P
namespace P
open PySem PySem.Spec PyProof.Rows L2 M2 M3 M4
section
variable{g:Tg}{mb:M Fl}{mt:M Bool}{me:M PV}
end
end P
namespace P
open PySem PySem.Spec PyProof.Rows L2 M2 M3 M4
def ZcY(K:PySem.W.Frag)(n:Nat)(t:CK):TG:=λv σ H Q=>∃a xs,v=.ref a/\ř K H a xs/\xs.length=n/\t xs σ H Q
section
variable{X:Cx}{cm:String->Addr}{pos:Pos}
def TF{es:List Expr}{k:Nat}{t:CK}{n:Nat}(hc:X.calm=true)(h:vY X es t)
 (hn:(assignEach es X.env).length=n:=by rfl)(hst:(assignEach es X.env).findIdx? (·.1)=none:=by rfl):PG X (.Tuple es k pos) (ZcY X.K n t):=by
 intro pins s σ H v u Q I r hw
 obtain⟨a,xs,e1,hq,hl,hw⟩:=hw
 subst e1
 cases r
 obtain⟨its,rv,ht,hz⟩:=I.list hq
 rw[assign_Tuple]
 refine wpAny_bind (wpAny_standAt ?_)
 unfold unpack
 rw[show(assignEach es X.env).length=its.toArray.size by simp[hn,<-hl,rv.length],hst]
 refine wpAny_bind (wpAny_holding (PySem.W.kun_itemsOf (I.ok.hd hc) ht.isList λh' hx=>?_))
 have I1:Inv X pins σ H {s with heap:=h'}:=I.kept (t':=s.toks) λb o e=>hx b o (Nat.ne_of_lt (Heap.lt_size e)) e
 exact h pins _ σ H xs _ Q I1 (by simpa using rv) hw
def gS(n:Nat)(gs:Cu):Tg:=λp ρ=>match p with
 | .tup ps=>if ps.length=n then gs ps ρ else none
 | .lst ps=>if ps.length=n then gs ps ρ else none
 |_=>none
@[simp] theorem ZcZ{n:Nat}{gs:Cu}{ps:List PV}{ρ:Ĳ}:gS n gs (.tup ps) ρ=if ps.length=n then gs ps ρ else none:=rfl
@[simp] theorem Zc0{n:Nat}{gs:Cu}{ps:List PV}{ρ:Ĳ}:gS n gs (.lst ps) ρ=if ps.length=n then gs ps ρ else none:=rfl
def Fg{es:List Expr}{k:Nat}{gs:Cu}{n:Nat}(hc:X.calm=true)(h:vY X es (XR (kk X cm) gs))(hn:(assignEach es X.env).length=n:=by rfl)(hst:(assignEach es X.env).findIdx? (·.1)=none:=by rfl):PG X (.Tuple es k pos) (tT (kk X cm) (gS n gs)):=by
 intro pins s σ H v u Q I r hw
 obtain⟨c,F,ρ,p,rel,rp,hw⟩:=hw
 cases p with
 |tup ps=>
  unfold Rep at rp
  obtain⟨a,xs,h1,h2,h3⟩:=rp
  unfold gS at hw
  dsimp only at hw
  split at hw
  ·rename_i hl
   exact CP hc h hn hst pins s σ H v u Q I r ⟨a,xs,h1,aG.of (rel.sub _ _ h2),by rw[<-h3.length];exact hl,c,F,ρ,ps,rel,h3,hw⟩
  ·exact hw.elim
 |lst ps=>
  unfold Rep at rp
  obtain⟨a,xs,h1,h2,h3⟩:=rp
  unfold gS at hw
  dsimp only at hw
  split at hw
  ·rename_i hl
   exact TF hc h hn hst pins s σ H v u Q I r ⟨a,xs,h1,rel.sub.seq h2,by rw[<-h3.length];exact hl,c,F,ρ,ps,rel,h3,hw⟩
  ·exact hw.elim
 |_=>exact hw.elim
end
end P
namespace P
open PySem PySem.Spec PyProof.Rows L2 M2 M3 M4
section
variable{X:Cx}{cm:String->Addr}{E:L2.St->XK}{a:Expr}{p p1 pos pos1:Pos}{mr:M (List PV)}
end
end P
namespace P
open PySem PySem.Spec PyProof.Rows L2 M2 M3 M4
def Rel.keep{K:KK}{c:Ctx}{F H H':Hp}{σ:L2.St}{ρ:Ĳ}(r:Rel K c F H σ ρ)(e:Same H H'):Rel K c F H' σ ρ:= r.call ⟨e,Same.refl F,r.sub.trans e,λ_ _ h=>h⟩
def Rel.Fi{K:KK}{c:Ctx}{F H:Hp}{σ:L2.St}{ρ:Ĳ}(r:Rel K c F H σ ρ){i:Nat}{ps qs rs:List PV}(e:ρ[i]?=some (.ot ps qs rs)):∃F',Same F F'/\Rel K c F' H σ (ρ.set i (.sh (.tup (ps ++ .lst qs::rs)))):=by
 obtain⟨p,a,xs,vs,ys,h1,h2,h3,h4,h5,h6,h7,h8⟩:=r.slot i _ e
 obtain⟨m1,m2⟩:=r.move (a:=a) ⟨_,_,e,at_of h1,p,xs,ys,rfl,h2,h3.length.symm⟩
 have ra:Rep K (upd F a (.lst vs)) (.lst qs) (.ref a):=by
  unfold Rep
  exact⟨a,vs,rfl,ř.of č,h7.same (Same.upd h5) qs vs⟩
 have rp:Rep K (upd F a (.lst vs)) (.tup (ps ++ .lst qs::rs)) (.ref p):=by
  unfold Rep
  exact⟨p,_,rfl,Same.upd h5 _ _ h2,Ć.append (h3.same (Same.upd h5) ps xs) (Ć.cons ra (h8.same (Same.upd h5) rs ys))⟩
 have q:=(m1.freeze h4 h6 h5 m2).yI (i:=i) (s:=.sh (.tup (ps ++ .lst qs::rs))) rfl (show ŏ K c _ H _ (.sh (.tup (ps ++ .lst qs::rs))) from⟨.ref p,by rw[at_of h1];rfl,rp⟩)
 rw[List.set_set] at q
 exact⟨_,Same.upd h5,q⟩
def jC(i:Nat)(m:M Bool):M Bool:=λρ=>match ρ[i]? with
 |some (.ot ps qs rs)=>match m (ρ.set i (.sh (.tup (ps ++ .lst qs::rs)))) with
  | .ok b _=>.ok b ρ
  |_=>.bad
 |_=>m ρ
section
variable{X:Cx}{cm:String->Addr}{E:L2.St->XK}{e o:Expr}{es:List Expr}{pos:Pos}{m:M Bool}{mo:M RV}{ma:M PV}
def TJ(i:Nat)(h:PT X e (tB (kk X cm) E m)):PT X e (tB (kk X cm) E (jC i m)):=PT.wk h λσ H Q ⟨c,F,ρ,rel,h⟩=>by
 unfold jC at h
 cases e1:ρ[i]? with
 |none=>rw[e1] at h;exact⟨c,F,ρ,rel,h⟩
 |some s=>
  rw[e1] at h
  cases s with
  |ot ps qs rs=>
   obtain⟨F',sF,ŋ⟩:=rel.Fi e1
   refine⟨c,F',_,ŋ,?_⟩
   dsimp only at h
   cases em:m (ρ.set i (.sh (.tup (ps ++ .lst qs::rs)))) with
   |ok b ρ1=>rw[em] at h;exact λv F2 H2 r1 s1 s2 q=>h v F H2 (rel.keep s2) (Same.refl _) s2 q
   |exc x ρ1=>rw[em] at h;exact h.elim
   |bad=>rw[em] at h;exact h.elim
  |_=>exact⟨c,F,ρ,rel,h⟩
structure Km where
 ps:List PV
 r:RV
 rs:List PV
def rLO(K:KK):RR Km (List V):=λc σ ρ F H r vs=>∃xs v ys,vs=xs++v::ys/\Ć K F r.ps xs/\rO K c σ ρ F H r.r v/\Ć K F r.rs ys
def qj(mo:M RV):M Km:=λρ=>(mo ρ).bind λr ρ1=>.ok ⟨[],r,[]⟩ ρ1
def je(ma:M PV)(mr:M Km):M Km:=λρ=>(ma ρ).bind λp ρ1=>(mr ρ1).bind λr ρ2=>.ok ⟨p::r.ps,r.r,r.rs⟩ ρ2
def Fj(he:PE X e (tO (kk X cm) E mo))(hs:starEach [e] X.env=(false,eval e X.env)::starEach [] X.env:=by exact Ŗ rfl):PA X [e] (tG (kk X cm) E (rLO (kk X cm)) (qj mo)):=
 PA.wk (ŕ he cW hs) λσ H Q ⟨c,F,ρ,rel,h⟩=>⟨c,F,ρ,rel,h.bind λr ρ1 v F1 H1 ć _ _ r1 h1=>h1 _ F1 H1 ć (Same.refl _) (Same.refl _) ⟨[],v,[],rfl,Ć.nil,r1,Ć.nil⟩⟩
def zc{mr:M Km}(ha:PE X e (tV (kk X cm) E ma))(hr:PA X es (tG (kk X cm) E (rLO (kk X cm)) mr))(hs:starEach (e::es) X.env=(false,eval e X.env)::starEach es X.env:=by exact Ŗ rfl):PA X (e::es) (tG (kk X cm) E (rLO (kk X cm)) (je ma mr)):=
 PA.wk (ŕ ha hr hs) λσ H Q ⟨c,F,ρ,rel,h⟩=>⟨c,F,ρ,rel,h.bind λp ρ1 v F1 H1 ć _ _ r1 h1=>⟨c,F1,ρ1,ć,h1.bind λr ρ2 vs F2 H2 Ğ sF sH ⟨xs,u,ys,e1,e2,e3,e4⟩ h2=>h2 _ F2 H2 Ğ (Same.refl _) (Same.refl _) ⟨v::xs,u,ys,by rw[e1];rfl,Ć.cons (Rep.same sF p v r1) e2,e3,e4⟩⟩⟩
def ql(mr:M Km):M RV:=λρ=>(mr ρ).bind λr ρ1=>if r.ps.length+r.rs.length<16777216 then(match r.r with
 | .ow qs=>.ok (.ot r.ps qs r.rs) ρ1
 | .sh p=>.ok (.sh (.tup (r.ps++p::r.rs))) ρ1
 |_=>.bad) else .bad
def Fo{x1}{mr:M Km}(h:PA X es (tG (kk X cm) E (rLO (kk X cm)) mr)):PE X (.Tuple es x1 pos) (tO (kk X cm) E (ql mr)):=PE.wk (wF h) λσ H Q ⟨c,F,ρ,rel,h⟩=>
 ⟨c,F,ρ,rel,h.bind fun r ρ1 vs F1 H1 ć _ _ ⟨xs,v,ys,e1,e2,e3,e4⟩ h1=>by
   subst e1
   split at h1
   ·rename_i hz
    refine⟨by rw[List.length_append,<-e2.length,ě];simp only[List.length_cons,<-e4.length];omega,λp hp=>?_⟩
    have Ğ:=ć.alloc (o:=.tup (xs++v::ys)) hp
    have sF:Same F1 (upd F1 p (.tup (xs++v::ys))):=Same.upd (ć.sub.free hp)
    obtain⟨ps,rv,rs⟩:=r
    cases rv with
    |sh q=>
     refine h1 _ _ _ Ğ sF (Same.upd hp) ?_
     show Rep _ _ _ _
     unfold Rep
     exact⟨p,_,rfl,č,Ć.append (e2.same sF ps xs) (Ć.cons (Rep.same sF q v e3) (e4.same sF rs ys))⟩
    |ow qs=>
     obtain⟨a,vs,rfl,q1,q2,q3,q4,q5⟩:=e3
     have na:a≠p:=λz=>by rw[z,hp] at q1;cases q1
     exact h1 _ _ _ Ğ sF (Same.upd hp) ⟨p,a,xs,vs,ys,rfl,č,e2.same sF ps xs,by rw[Ċ na];exact q1,by rw[Ċ na];exact q2,q3,ć.bx sF q4,q5.same sF qs vs,e4.same sF rs ys⟩
    |ot _ _ _=>exact h1.elim
    |o2 _ _ _ _=>exact h1.elim
   ·exact h1.elim⟩
def uV{xs ys:List V}{v:V}{j:Nat}(h:xs.length=j):lU (xs++v::ys) (j:Int)=some v:=by
 subst h
 have h1:((xs.length:Nat):Int)<((xs++v::ys).length:Int):=by simp;omega
 unfold lU Mg
 rw[if_pos (by omega),if_pos h1]
 simp
@[simp] theorem Zc1{ps qs rs:List PV}:(RV.ot ps qs rs).val=.tup (ps ++ .lst qs::rs):=rfl
@[simp] theorem Zc2{ps qs rs:List PV}:(RV.ot ps qs rs).slot=.ot ps qs rs:=rfl
@[simp] theorem Zbm{i:Nat}{ρ:Ĳ}:jC i m ρ=(match ρ[i]? with
  |some (.ot ps qs rs)=>match m (ρ.set i (.sh (.tup (ps ++ .lst qs::rs)))) with
   | .ok b _=>.ok b ρ
   |_=>.bad
  |_=>m ρ):=rfl
@[simp] theorem Zbn{ρ:Ĳ}:qj mo ρ=(mo ρ).bind λr ρ1=>.ok ⟨[],r,[]⟩ ρ1:=rfl
@[simp] theorem YD{mr:M Km}{ρ:Ĳ}:je ma mr ρ=(ma ρ).bind λp ρ1=>(mr ρ1).bind λr ρ2=>.ok ⟨p::r.ps,r.r,r.rs⟩ ρ2:=rfl
@[simp] theorem YF{mr:M Km}{ρ:Ĳ}:ql mr ρ=(mr ρ).bind fun r ρ1=>if r.ps.length+r.rs.length<16777216 then(match r.r with
  | .ow qs=>.ok (.ot r.ps qs r.rs) ρ1
  | .sh p=>.ok (.sh (.tup (r.ps++p::r.rs))) ρ1
  |_=>.bad) else .bad:=rfl
end
end P
namespace P
open PySem PySem.Spec PyProof.Rows L2 M2 M3 M4
section
variable{X:Cx}{K:KK}
end
end P
namespace P
open PySem PySem.Spec PyProof.Rows L2 M2 M3 M4
section
variable{K:KK}{c c':Ctx}{F F' H H':Hp}{σ:L2.St}{ρ:Ĳ}
end
section
variable{X:Cx}{cm:String->Addr}{E:L2.St->XK}{elt tg iter:Expr}{ifs:List Expr}{scope:Scope}{pos:Pos}{mi:M (List PV)}{g:Tg}{mt:M Bool}{me:M RV}
end
section
variable{K:KK}{c:Ctx}{F H:Hp}{σ:L2.St}{ρ:Ĳ}
end
section
variable{X:Cx}{cm:String->Addr}{E:L2.St->XK}{e:Expr}{es:List Expr}{m:M Bool}{mv:M PV}{ms:M (List Slot)}
end
end P
namespace P
open PySem PySem.Spec PyProof.Rows L2 M2 M3 M4
section
variable{X:Cx}{K:KK}
end
section
variable{ρ:Ĳ}{i x j:Nat}{m:M Bool}{mv:M PV}{ms:M (List Slot)}{mp:M (List (List PV))}{g:Tg}{mt:M Bool}{me:M RV}{mi:M (List PV)}{js:List Nat}{nl:Nat}
end
end P
namespace P
open PySem PySem.Spec PyProof.Rows L2 M2 M3 M5
section
variable{K:KK}{c:Ctx}{F H:Hp}{σ:L2.St}{ρ:Ĳ}
end
section
variable{X:Cx}{cm:String->Addr}{E:L2.St->XK}{x px:Str}{c Pt:Addr}{params:Arguments}{body e:Expr}{scope:Scope}{p pos Sq kpos:Pos}{mr:M (List PV)}{me:M PV}
end
section
variable{P:Program}{w:World}{K:PySem.W.Frag}{cm:String->Addr}{mg:Str->Option Value}{base:Heap}{CX:iH}
end
section
variable{js:List Nat}{me:M PV}{mr:M (List PV)}{ρ:Ĳ}
end
end P
namespace P
open PySem PySem.Spec PyProof.Rows L2 M2 M3 M5
end P
namespace P
open PySem PySem.Spec PyProof.Rows L2 M2 M3 M5
section
variable{X:Cx}{cm:String->Addr}{E:L2.St->XK}{CX:iH}{k n:Nat}{f:Addr}{fd:FuncData}{ps:List Str}{mf:MF}{mr:M (List Slot)}{x:Str}{p pos:Pos}{e:Expr}{es:List Expr}{ds:List Value}{dvs:List V}{dps:List Slot}
end
end P
namespace P
open PySem PySem.Spec PyProof.Rows L2 M2 M3 M5
def BN:Nat->(List Value->Prop)->Prop
 |0,p=>p []
 |n+1,p=>∀u,BN n λus=>p (u::us)
theorem rH:∀{n:Nat} {p:List Value->Prop},BN n p->∀us,us.length=n->p us
 |0,p,h,[],_=>h
 |0,p,h,_::_,e=>by cases e
 |n+1,p,h,[],e=>by cases e
 |n+1,p,h,u::us,e=>rH (h u) us (Nat.succ.inj e)
structure Df(K:PySem.W.Frag)(mg:Str->Option Value)(x:Str)(st:Stmt)(ps:List Str)(f:Addr)(fd:FuncData):Prop where
 F:Jt K x x st f fd
 m:mg x=some (.ref f)
 b:Binds K fd ps []
 bb:∀(s:Shared) (us:List Value),us.length=ps.length->BindsTo s fd ⟨us,[]⟩ (ps.zip us)
structure Dm(K:PySem.W.Frag)(C:Addr)(x q:Str)(st:Stmt)(ps:List Str)(f:Addr)(fd:FuncData):Prop where
 F:Jt K x q st f fd
 b:Binds K fd ps []
section
variable{K:PySem.W.Frag}{h:Heap}{mg:Str->Option Value}{x q:Str}{st:Stmt}{ps:List Str}{f C:Addr}{oc kV dc pm cd ct:Value}{od an:Option Addr}{sl:Array (Option Value)}
def Ĺ(X:K.In h)(G:h.Ns mainGlobals mg)(hb:∀(kV dc pm:Value) (an:Option Addr) (cd ct:Value),BN ps.length λus=>bindArgs (PySem.W.fnOf x x (ū st) (ő st) (Ĉ st) .none kV dc pm an cd ct) ⟨us,[]⟩=pure (ps.zip us))
 (a:PySem.W.nsIn K mainGlobals x=some (some (.ref f)))(l:K.lookup f=some ⟨oc,od,.func (PySem.W.fnOf x x (ū st) (ő st) (Ĉ st) .none kV dc pm an cd ct),sl⟩)(c:PySem.W.codeIn K cd x=true)(k:PySem.W.keepIn K (.ref f)=true) :
 Df K mg x st ps f (PySem.W.fnOf x x (ū st) (ő st) (Ĉ st) .none kV dc pm an cd ct):=
 have F:=Dg (st:=st) l c k
 ⟨F,PySem.W.mg_of X G a,F.binds λkV dc pm an cd ct us hl=>rH (hb kV dc pm an cd ct) us hl,λs us hl=>.of_eq (rH (hb kV dc pm an cd ct) us hl)⟩
def MK(hb:∀(kV dc pm:Value) (an:Option Addr) (cd ct:Value),BN ps.length λus=>bindArgs (PySem.W.fnOf x q (ū st) (ő st) (Ĉ st) .none kV dc pm an cd ct) ⟨us,[]⟩=pure (ps.zip us))
 (a:PySem.W.findIn K (.ref C) x=some (some (.ref f)))(l:K.lookup f=some ⟨oc,od,.func (PySem.W.fnOf x q (ū st) (ő st) (Ĉ st) .none kV dc pm an cd ct),sl⟩)(c:PySem.W.codeIn K cd q=true)(k:PySem.W.keepIn K (.ref f)=true) :
 Dm K C x q st ps f (PySem.W.fnOf x q (ū st) (ő st) (Ĉ st) .none kV dc pm an cd ct):=
 have F:=Dg (st:=st) l c k
 ⟨F,F.binds λkV dc pm an cd ct us hl=>rH (hb kV dc pm an cd ct) us hl⟩
end
end P
namespace P
open PySem PySem.Spec PyProof.Rows L2 M2 M3 M5
def dO{N ps:List Str}{sc:Scope}(h1:sc.kind=.function:=by rfl)(h2:sc.isCoroutine=false:=by rfl)(h3:sc.isGenerator=false:=by rfl)(h4:N.Nodup:=by decide +kernel)(h5:N.take ps.length=ps:=by rfl)(h6:∀x∈ps,sc.names.lookup x=some .local\/sc.names.lookup x=some .cell:=by decide +kernel)
 (h7:∀y∈sc.names,y.2≠ .free:=by decide +kernel):Ď N ps sc:=⟨h1,h2,h3,h4,h5,h6,h7⟩
section
variable{X:Cx}{cm:String->Addr}{E:L2.St->XK}{CX:iH}{k j n:Nat}{f:Addr}{fd:FuncData}{ps:List Str}{mf:MF}{mr:M (List Slot)}{x:Str}{st:Stmt}{p pos:Pos}{e:Expr}{es:List Expr}
def ď(F:ī X.prog X.w X.K X.mg X.base CX k f fd ps (aB (kk X cm) n mf))(D:Df X.K X.mg x st ps f fd)(hr:Ş j X.A)(hx:dN CX X E)
 (ha:PA X (e::es) (tA (kk X cm) E mr))(hlen:∀{ps:List Slot},(∃r,mf ps=r/\∀z,r=z->z≠ .bad)->ps.length=n:=by exact dg)(hg:Gl X x:=by rfl)(hkj:k<=j:=by decide)(hdb:(x== ("__debug__" :Str))=false:=by decide)(he:starEach (e::es) X.env=(false,eval e X.env)::starEach es X.env:=by exact Ŗ rfl)(hpl:(backTo pos (starEach es X.env)).any (·.1)=false:=by rfl) :
 PE X (.Call (.Name x p) (e::es) [] pos) (tO (kk X cm) E (Ĝ mf mr)):=Ek F hlen (hr.mono hkj) hg D.m D.F.kp D.b hx ha hdb he hpl
end
section
variable{Pg:Program}{w:World}{K:PySem.W.Frag}{mg:Str->Option Value}{base:Heap}{CX:iH}{cm:String->Addr}
def Ŝ{x qual:Str}{st:Stmt}{f:Addr}{fd:FuncData}{N ps:List Str}{k n j:Nat}{mb:M Fl}{mf:MF}(F:Jt K x qual st f fd)(S:Ď N ps (Ĉ st))
 (hbody:∀(cdv:Value) (A:Around) (outer:List Env) (s:Shared) (H:Hp) (E:XK),Ş k (A.deeper (envOfC qual (Ĉ st) s.heap.objs.size f cdv))→(A.deeper (envOfC qual (Ĉ st) s.heap.objs.size f cdv)).units+64<cLine→
   fY (qO CX Pg w K mg base N qual (Ĉ st) f cdv A outer s H E) (ő st) (tS ⟨K,cm⟩ (λ_=>E) mb))(hn:ps.length=n:=by rfl)(hj:N.length=j:=by rfl)(hf:mf=ķ n j mb:=by rfl):ī Pg w K mg base CX (k+1) f fd ps (aB ⟨K,cm⟩ n mf):=
 fnQ F S hn hj hf λcdv A outer s H E hr=>hbody cdv A outer s H E hr hr.units
end
end P
namespace P
open PySem PySem.Spec PyProof.Rows L2 M2 M3 M4
section
variable{X:Cx}{cm:String->Addr}{E:L2.St->XK}{e:Expr}{m:M PV}
end
end P
namespace P
open PySem PySem.Spec PyProof.Rows L2 M2 M3 M4
def tgN:Expr->List Str
 | .Name x _=>[x]
 | .Tuple es _ _=>es.flatMap fun e=>match e with
   | .Name x _=>[x]
   |_=>[]
 |_=>[]
def cN(X:Cx)(js:List Nat)(tg:Expr):List Str:=js.map (λ(j:Nat)=>(X.N[j]?).getD "")++tgN tg
def ndB{l:List Str}(h:decide l.Nodup=true):l.Nodup:=of_decide_eq_true h
def frB{a b:Scope}(h:(a.names.all λy=>decide (y.2=.free->(b.names.lookup y.1=some .cell\/b.names.lookup y.1=some .free)))=true):∀y∈a.names,y.2=.free->(b.names.lookup y.1=some .cell\/b.names.lookup y.1=some .free):=λy hy=>of_decide_eq_true (List.all_eq_true.mp h y hy)
section
variable{X:Cx}{cm:String->Addr}{E:L2.St->XK}{elt tg iter:Expr}{ifs:List Expr}{scope:Scope}{pos:Pos}{mi:M (List PV)}{g:Tg}{mt:M Bool}{me:M PV}{js:List Nat}{nl:Nat}
end
end P
namespace P
open PySem PySem.Spec PyProof.Rows L2 M2 M3 M4
section
variable{X:Cx}
end
section
variable{X:Cx}{cm:String->Addr}{K:KK}{E:L2.St->XK}{o e:Expr}{es:List Expr}{name:Str}{apos cpos:Pos}{id:String}{r:V->List V->Hp->VK->Prop}{f:PV->List PV->Option PV}{mo:M PV}{ms:M (List PV)}
end
end P
namespace P
open PySem PySem.Spec PyProof.Rows L2 M2 M3 M4
section
variable{X:Cx}{cm:String->Addr}{E:L2.St->XK}{a b e:Expr}{es:List Expr}{ma mb m:M PV}{mo:M RV}{pos p:Pos}
def Ă{i j pos}:PE X (.Constant (.int i) j pos) (tR (kk X cm) E (mC (.int i))):=Ġ Ķ
def jD{j pos}:PE X (.Constant .none j pos) (tR (kk X cm) E (mC .non)):=Ġ uD
def eY{x j pos}:PE X (.Constant (.str x) j pos) (tR (kk X cm) E (mC (.str x))):=Ġ aL
def ŷ(ha:PE X a (tR (kk X cm) E ma))(hb:PE X b (tR (kk X cm) E mb))(hs:kO b:=by exact λ_ _=>rfl):PE X (.Subscript a b pos) (tV (kk X cm) E (Ą ę ma mb)):=ZbY Yh Xo ha hb hs
def ń(ha:PE X a (tR (kk X cm) E ma))(hb:PE X b (tR (kk X cm) E mb))(hs:kO b:=by exact λ_ _=>rfl):PE X (.Subscript a b pos) (tR (kk X cm) E (Ą ę ma mb)):=Ġ (ŷ ha hb hs)
def v_mod(ha:PE X a (tR (kk X cm) E ma))(hb:PE X b (tR (kk X cm) E mb)):PE X (.BinOp a .Mod b pos) (tV (kk X cm) E (Ą ĝ ma mb)):=aM Tf RT ha hb
def ĵ(ha:PE X a (tR (kk X cm) E ma))(hb:PE X b (tR (kk X cm) E mb)):PE X (.BinOp a .Mod b pos) (tR (kk X cm) E (Ą ĝ ma mb)):=Ġ (v_mod ha hb)
def v_mul(ha:PE X a (tR (kk X cm) E ma))(hb:PE X b (tR (kk X cm) E mb)):PE X (.BinOp a .Mult b pos) (tV (kk X cm) E (Ą ģ ma mb)):=aM Ti JG ha hb
def Œ(ha:PE X a (tR (kk X cm) E ma))(hb:PE X b (tR (kk X cm) E mb)):PE X (.BinOp a .Mult b pos) (tR (kk X cm) E (Ą ģ ma mb)):=Ġ (v_mul ha hb)
def v_sub(ha:PE X a (tR (kk X cm) E ma))(hb:PE X b (tR (kk X cm) E mb)):PE X (.BinOp a .Sub b pos) (tV (kk X cm) E (Ą bM ma mb)):=aM Td RP ha hb
def Fp(ha:PE X a (tR (kk X cm) E ma))(hb:PE X b (tR (kk X cm) E mb)):PE X (.BinOp a .Sub b pos) (tR (kk X cm) E (Ą bM ma mb)):=Ġ (v_sub ha hb)
def mX(ha:PE X a (tR (kk X cm) E ma))(hb:PE X b (tR (kk X cm) E mb)):PE X (.BinOp a .FloorDiv b pos) (tV (kk X cm) E (Ą İ ma mb)):=aM Te Jw ha hb
def ň(ha:PE X a (tR (kk X cm) E ma))(hb:PE X b (tR (kk X cm) E mb)):PE X (.BinOp a .FloorDiv b pos) (tR (kk X cm) E (Ą İ ma mb)):=Ġ (mX ha hb)
def gP(ha:PE X a (tR (kk X cm) E ma))(hb:PE X b (tR (kk X cm) E mb)):PE X (.BinOp a .Add b pos) (tO (kk X cm) E (ĥ Ģ ma mb)):=XD S_ SX ha hb
def v_add(ha:PE X a (tR (kk X cm) E ma))(hb:PE X b (tR (kk X cm) E mb)):PE X (.BinOp a .Add b pos) (tV (kk X cm) E (Ę (ĥ Ģ ma mb))):=į (gP ha hb)
def dB(ha:PE X a (tR (kk X cm) E ma))(hb:PE X b (tR (kk X cm) E mb)):PE X (.BinOp a .Add b pos) (tR (kk X cm) E (Ę (ĥ Ģ ma mb))):=Ġ (v_add ha hb)
def t_eq(hu:X.A.units+64<cLine)(ha:PE X a (tR (kk X cm) E ma))(hb:PE X b (tR (kk X cm) E mb)):PT X (.Compare a [.Eq] [b] pos) (tB (kk X cm) E (cF (Ą Ŋ ma mb))):=cZ Mt (Dq hu) ha hb (ŗ _)
def Ko(hu:X.A.units+64<cLine)(ha:PE X a (tR (kk X cm) E ma))(hb:PE X b (tR (kk X cm) E mb)):PT X (.Compare a [.NotEq] [b] pos) (tB (kk X cm) E (cF (Ą gH ma mb))):=cZ Mu (Dr hu) ha hb (ŗ _)
def v_eq(hu:X.A.units+64<cLine)(ha:PE X a (tR (kk X cm) E ma))(hb:PE X b (tR (kk X cm) E mb)):PE X (.Compare a [.Eq] [b] pos) (tV (kk X cm) E (Ą Ŋ ma mb)):=uE Mt (Dq hu) ha hb (ŗ _)
def aW(he:PE X e (tO (kk X cm) E mo)):fY X [.Return (some e) pos] (tS (kk X cm) E (Į mo)):=ĩ (XM he)
def Ņ(he:PE X e (tV (kk X cm) E m)):fY X [.Return (some e) pos] (tS (kk X cm) E (Į (Ś m))):=aW (bJ he)
def Fq{N ps:List Str}{sc:Scope}{i:Nat}{x:Str}{pos':Pos}(S:Ď N ps sc)(he:PE X e (tO (kk X cm) E mo))(hN:X.N=N:=by rfl)(hi:X.N[i]?=some x:=by rfl)(hx:Loc X.env.scope x:=by first|exact Or.inl rfl|exact Or.inr rfl)(hs:swapsWith e (some (.Name x pos')) pos.line X.env=pure false:=by rfl)(hf:X.fn x=true\/X.env.scope.names.lookup x=some .local:=by first|exact .inl rfl|exact .inr rfl|assumption) :
 PS X (.Assign [.Name x pos'] e pos) (tS (kk X cm) E (ĳ i mo)):=XJ (hN▸S.nd) hi hx he hs hf
def ņ{N ps:List Str}{sc:Scope}{i:Nat}{x:Str}{pos':Pos}{rest:List Stmt}{m2:M Fl}(S:Ď N ps sc)(he:PE X e (tO (kk X cm) E mo))(h2:fY X rest (tS (kk X cm) E m2))(hN:X.N=N:=by rfl)(hi:X.N[i]?=some x:=by rfl)(hx:Loc X.env.scope x:=by first|exact Or.inl rfl|exact Or.inr rfl)(hs:swapsWith e (some (.Name x pos')) pos.line X.env=pure false:=by rfl)(hf:X.fn x=true\/X.env.scope.names.lookup x=some .local:=by first|exact .inl rfl|exact .inr rfl|assumption) :
 fY X (.Assign [.Name x pos'] e pos::rest) (tS (kk X cm) E (ė (ĳ i mo) m2)):=ċ (Fq S he hN hi hx hs hf) h2
def ŧ{N ps:List Str}{sc:Scope}{i:Nat}{x:Str}(S:Ď N ps sc)(hN:X.N=N:=by rfl)(hi:X.N[i]?=some x:=by rfl)(hx:Loc X.env.scope x:=by first|exact Or.inl rfl|exact Or.inr rfl)(hf:X.fn x=true\/X.env.scope.names.lookup x=some .local:=by first|exact .inl rfl|exact .inr rfl|assumption):PG X (.Name x pos) (tT (kk X cm) (gN i)):=Ef (hN▸S.nd) hi hx hf
def jY{i:Nat}{x:Str}(hN:X.N.Nodup:=by exact ndB (by kernel_rfl))(hi:X.N[i]?=some x:=by rfl)(hx:Loc X.env.scope x:=by first|exact Or.inl rfl|exact Or.inr rfl)(hf:X.fn x=true\/X.env.scope.names.lookup x=some .local:=by first|exact .inl rfl|exact .inr rfl):PG X (.Name x pos) (tT (kk X cm) (gN i)):=Ef hN hi hx hf
def Ĕ(i:Nat){x:Str}{px:Pos}{ms:M (List Slot)}(hr:PA X es (tA (kk X cm) E ms))(hN:X.N[i]?=some x:=by rfl)(hv:qJ X.env.scope x:=by first|exact Or.inl rfl|exact Or.inr (Or.inl rfl)|exact Or.inr (Or.inr rfl))(hd:(x== ("__debug__" :Str))=false:=by decide)
 (hcd:(x== ("__classdict__" :Str))=false:=by decide)(hs:starEach (.Name x px::es) X.env=(false,eval (.Name x px) X.env)::starEach es X.env:=by exact Ŗ rfl):PA X (.Name x px::es) (tA (kk X cm) E (ĉ i ms)):=JL i hN hv hd hcd hr hs
def ž{id:String}{x:Str}{r:List V->Hp->VK->Prop}{f:List PV->Option PV}{mr:M (List PV)}(hc:ŝ X (.builtin id) r)(hf:jA (kk X cm) r f)(hm:X.mg x=none)(hv:bootBuiltins x=some (.builtin id))(ha:PA X (e::es) (Mh (kk X cm) E mr))(hg:Gl X x:=by rfl)(hn:x≠ "__name__" := by decide)(hdb:(x== ("__debug__" :Str))=false:=by decide)
 (he:starEach (e::es) X.env=(false,eval e X.env)::starEach es X.env:=by rfl)(hpl:(backTo pos (starEach es X.env)).any (·.1)=false:=by rfl):PE X (.Call (.Name x p) (e::es) [] pos) (tV (kk X cm) E (iy f mr)):=PE.wk (ug hc hg hm hv ha hn hdb he hpl) λ_ _ _ h=>XH hf h
def Zc3{T:String}{x:Str}{r:List V->Hp->VK->Prop}{f:List PV->Option PV}{mr:M (List PV)}(hc:ŝ X (.type T) r)(hf:jA (kk X cm) r f)(hm:X.mg x=none)(hv:bootBuiltins x=some (.type T))(ha:PA X (e::es) (Mh (kk X cm) E mr))(hg:Gl X x:=by rfl)(hn:x≠ "__name__" := by decide)(hdb:(x== ("__debug__" :Str))=false:=by decide)
 (he:starEach (e::es) X.env=(false,eval e X.env)::starEach es X.env:=by rfl)(hpl:(backTo pos (starEach es X.env)).any (·.1)=false:=by rfl):PE X (.Call (.Name x p) (e::es) [] pos) (tV (kk X cm) E (iy f mr)):=PE.wk (pN hc hg hm hv ha hn hdb he hpl) λ_ _ _ h=>XH hf h
def uW{T:String}{x:Str}{r:List V->Hp->VK->Prop}{f:List PV->Option RV}{mr:M (List PV)}(hc:ŝ X (.type T) r)(hf:Ed (kk X cm) r f)(hm:X.mg x=none)(hv:bootBuiltins x=some (.type T))(ha:PA X (e::es) (Mh (kk X cm) E mr))(hg:Gl X x:=by rfl)(hn:x≠ "__name__" := by decide)(hdb:(x== ("__debug__" :Str))=false:=by decide)
 (he:starEach (e::es) X.env=(false,eval e X.env)::starEach es X.env:=by rfl)(hpl:(backTo pos (starEach es X.env)).any (·.1)=false:=by rfl):PE X (.Call (.Name x p) (e::es) [] pos) (tO (kk X cm) E (qY f mr)):=PE.wk (pN hc hg hm hv ha hn hdb he hpl) λ_ _ _ h=>Zb0 hf h
end
section
variable{X:Cx}{cm:String->Addr}{E:L2.St->XK}{elt tg iter t:Expr}{ifs:List Expr}{scope:Scope}{pos:Pos}{mi:M (List PV)}{g:Tg}{mt:M Bool}{me:M PV}{js:List Nat}{nl:Nat}
structure CF(X:Cx)(js:List Nat)(nl:Nat)(tg iter:Expr)(scope:Scope):Prop where
 hcap:gn X.Ň X.env.scope scope (cN X js tg) js
 hcalm:X.calm=true
 hlen:js.length+nl=(cN X js tg).length
 hk:scope.kind=.function
 hcell:∀y∈scope.names,y.2=.cell->scope.names.lookup y.1=some .cell
 hnames:∀y∈scope.names,y.2=.local->scope.names.lookup y.1=some .local
 hfree:∀y∈scope.names,y.2=.free->(X.env.scope.names.lookup y.1=some .cell\/X.env.scope.names.lookup y.1=some .free)
 hs:∀x,foldedSetIterable iter X.env x=pure x
def cf(hcap:gn X.Ň X.env.scope scope (cN X js tg) js:=by repeat' first|exact True.intro|refine⟨rfl,⟨rfl,by first|exact Or.inl rfl|exact Or.inr rfl⟩,?_⟩)(hcalm:X.calm=true:=by rfl)(hlen:js.length+nl=(cN X js tg).length:=by rfl)
 (hk:scope.kind=.function:=by rfl)(hcell:∀y∈scope.names,y.2=.cell->scope.names.lookup y.1=some .cell:=by decide +kernel)(hnames:∀y∈scope.names,y.2=.local->scope.names.lookup y.1=some .local:=by decide +kernel)
 (hfree:∀y∈scope.names,y.2=.free->(X.env.scope.names.lookup y.1=some .cell\/X.env.scope.names.lookup y.1=some .free):=by exact frB (by kernel_rfl))(hs:∀x,foldedSetIterable iter X.env x=pure x:=by intro _;rfl):CF X js nl tg iter scope:=⟨hcap,hcalm,hlen,hk,hcell,hnames,hfree,hs⟩
def Zc4(hi:PI X.Ň tg iter (tG (kk X cm) E (Eo (kk X cm)) mi))(hg:∀{cl C s H fp},PG (bh X.Ň (cN X js tg) scope cl C s H fp) tg (tT (kk X cm) g))(ht:∀{cl C s H fp},Iu (bh X.Ň (cN X js tg) scope cl C s H fp) ifs (tB (kk X cm) EF mt))(he:∀{cl C s H fp},PE (bh X.Ň (cN X js tg) scope cl C s H fp) elt (tV (kk X cm) EF me))(h:CF X js nl tg iter scope:=by exact cf) :
 PE X (.ListComp elt [⟨tg,iter,ifs,0⟩] scope pos) (tO (kk X cm) E (aP js nl mi g mt me)):=JT (cN X js tg) js nl X.env.scope rfl h.hcalm hi (λ_ _ _ _ _=>hg) (λ_ _ _ _ _=>ht) (λ_ _ _ _ _=>he) h.hcap h.hlen h.hk h.hcell h.hnames h.hfree h.hs
def Bv(hi:PI X.Ň tg iter (tI (kk X cm) E mi))(hg:∀{cl C s H fp},PG (bh X.Ň (cN X js tg) scope cl C s H fp) tg (tT (kk X cm) g))(ht:∀{cl C s H fp},Iu (bh X.Ň (cN X js tg) scope cl C s H fp) ifs (tB (kk X cm) EF mt))(he:∀{cl C s H fp},PE (bh X.Ň (cN X js tg) scope cl C s H fp) elt (tV (kk X cm) EF me))(h:CF X js nl tg iter scope:=by exact cf) :
 PE X (.ListComp elt [⟨tg,iter,ifs,0⟩] scope pos) (tO (kk X cm) E (aP js nl mi g mt me)):=Zc4 (Mp hi) hg ht he h
def Zc5{N ps:List Str}{sc:Scope}{i:Nat}{y:Str}{py spos:Pos}(S:Ď N ps sc)(hi:PI X.Ň tg iter (tI (kk X cm) E mi))(hg:∀{cl C s H fp},PG (bh X.Ň (cN X js tg) scope cl C s H fp) tg (tT (kk X cm) g))(ht:∀{cl C s H fp},Iu (bh X.Ň (cN X js tg) scope cl C s H fp) ifs (tB (kk X cm) EF mt))(he:∀{cl C s H fp},PE (bh X.Ň (cN X js tg) scope cl C s H fp) elt (tV (kk X cm) EF me))
 (h:CF X js nl tg iter scope:=by exact cf)(hN:X.N=N:=by rfl)(hi0:X.N[i]?=some y:=by rfl)(hy:X.env.scope.names.lookup y=some .local:=by rfl)(hsw:swapsWith (.ListComp elt [⟨tg,iter,ifs,0⟩] scope pos) (some (.Name y py)) spos.line X.env=pure true:=by rfl) :
 PS X (.Assign [.Name y py] (.ListComp elt [⟨tg,iter,ifs,0⟩] scope pos) spos) (tS (kk X cm) E (ĳ i (aP js nl mi g mt me))):=Tr (hN▸S.nd) hi0 hy (cN X js tg) js nl X.env.scope rfl h.hcalm hi (λ_ _ _ _ _=>hg) (λ_ _ _ _ _=>ht) (λ_ _ _ _ _=>he) h.hcap h.hlen h.hk h.hcell h.hnames h.hfree h.hs hsw
end
end P
namespace P
open PySem PySem.Spec PyProof.Rows L2 M2 M3 M5
end P
namespace P
open PySem PySem.Spec PyProof.Rows L2 M2 M3 M4 M5
variable{X:Cx}{cm:String->Addr}{E:L2.St->XK}{a:Expr}{pos:Pos}{ma:M PV}
end P
namespace M5
open PySem PySem.Spec PyProof.Rows L2 M2 M3
section
variable{X:Cx}{pins:List (Addr×Obj)}{σ:L2.St}{H:Hp}{s:Shared}
variable{R:Result->Shared->Prop}{f l S It:Addr}{oF:Obj}{xs:List V}(ks:Nat->Int)(W:Nat->Hp->Prop)
end
section
variable{X:Cx}{x px:Str}{c P:Addr}{params:Arguments}{body e:Expr}{scope:Scope}{p pos Sq kpos dpos YG:Pos}{dj:Nat}{ta:TA}{te:TE}
end
end M5
namespace P
open PySem PySem.Spec PyProof.Rows L2 M2 M3 M5
section
variable{X:Cx}{cm:String->Addr}{E:L2.St->XK}{x px:Str}{c Pt:Addr}{params:Arguments}{body e:Expr}{scope:Scope}{p pos Sq kpos dpos YG:Pos}{dj:Nat}{mr:M (List PV)}{me:M PV}
end
end P
namespace PySem
namespace F
end F
section
variable{prog:Program}{w:World}{A:Around}{E:Value->Shared->Prop}{s:Shared}
end
end PySem
namespace P
open PySem PySem.Spec PyProof.Rows L2 M2 M3 M4
section
variable{X:Cx}{cm:String->Addr}{E:L2.St->XK}{tg e l:Expr}{p pos p1 pos1:Pos}{mi:M (List PV)}
end
end P
namespace P
open PySem PySem.Spec PyProof.Rows L2 M2 M3 M4
section
variable{X:Cx}{cm:String->Addr}{E:L2.St->XK}{tg:Expr}{a b d:Expr}{p pos:Pos}{mr:M (List PV)}
end
end P
namespace P
open PySem PySem.Spec PyProof.Rows L2 M2 M3 M4
section
variable{X:Cx}{cm:String->Addr}{E:L2.St->XK}
end
end P
namespace L2
open PySem PySem.Spec PyProof.Rows
end L2
namespace L2
open PySem PySem.Spec PyProof.Rows
section
variable(P:Program)(w:World)
end
section
variable{P:Program}{w:World}{H H':Hp}{h h':Heap}{a:Addr}{o:HO}
end
section
variable{P:Program}{w:World}{H:Hp}{h h':Heap}{x e:Addr}{o':HO}
end
section
variable{fs fs' ex ex':List Addr}{H H1 H2:Hp}{h h1 h2 h':Heap}{a x e:Addr}{o:HO}
end
end L2
namespace L2
open PySem PySem.Spec PyProof.Rows
section
variable{X:Cx}{pins:List (Addr×Obj)}{σ:List (Option V)}{H H':Hp}{s:Shared}{h':Heap}
end
end L2
namespace L2
open PySem PySem.Spec PyProof.Rows
section
variable{X:Cx}
variable{a b:Expr}{ta tb:TE}{pos:Pos}
variable{tA Wz:TT}{rest:List Expr}
end
end L2
namespace L2
open PySem PySem.Spec PyProof.Rows
section
variable{X:Cx}{pins:List (Addr×Obj)}{σ:St}{H:Hp}{s:Shared}{a:Addr}{xs ys:List V}
end
section
variable{X:Cx}{pins:List (Addr×Obj)}{σ:St}{H:Hp}{s:Shared}{E:Value->Shared->Prop}
end
section
variable{X:Cx}{st:Stmt}{rest:List Stmt}{t u:TS}{e:Expr}{te:TE}{pos:Pos}
end
section
variable{X:Cx}{pos:Pos}
end
section
variable{X:Cx}{pos:Pos}
end
end L2
namespace L2
open PySem PySem.Spec PyProof.Rows
section
variable{X:Cx}{tg:Expr}
end
end L2
namespace L2
open PySem PySem.Spec PyProof.Rows
section
variable{X:Cx}{a b c:Expr}{ta tb tc:TE}{pos:Pos}
end
section
variable{X:Cx}{a b c:Expr}{ta tb tc:TE}{pos:Pos}
end
end L2
namespace L2
open PySem PySem.Spec PyProof.Rows
section
variable{prog:Program}{w:World}{A:Around}{E:Value->Shared->Prop}{s:Shared}{K:PySem.W.Frag}{x dx C f:Addr}{mA:Str->Option Value}{name:Str}{v:Value}
end
section
variable{P:Program}{w:World}{H H':Hp}{h h':Heap}{a C dx:Addr}{fs fs':List (Str×V)}
end
section
variable{X:Cx}{pins:List (Addr×Obj)}{σ:St}{H:Hp}{s:Shared}{a C dx:Addr}{fs:List (Str×V)}{f:Str}{v:V}{A:Around}{E:Value->Shared->Prop}
end
section
variable{X:Cx}{o e value:Expr}{f:Str}{pos pos' tpos:Pos}{ta tv:TE}
end
section
variable{X:Cx}{pins:List (Addr×Obj)}{σ:St}{H:Hp}{s:Shared}{A:Around}{E:Value->Shared->Prop}{Q:Value->Shared->Prop}{c:Value}{b:Bool}
end
end L2
namespace L2
open PySem PySem.Spec PyProof.Rows
section
variable{X:Cx}{e:Expr}{es:List Expr}{te:TE}{t:TA}{pos:Pos}
end
section
variable{X:Cx}{pins:List (Addr×Obj)}{σ:St}{H:Hp}{s s':Shared}
end
section
variable{X:Cx}{CX:iH}{k:Nat}{f C:Addr}{fd:FuncData}{ps:List Str}{sp:Sp}{dvs:List V}{ds:List Value}{E:XK}{x m:Str}{p pos apos:Pos}{e o:Expr}{es:List Expr}{ta:TE}{t:TA}
end
section
variable{X:Cx}{CX:iH}{k:Nat}{f C:Addr}{fd:FuncData}{ps ks:List Str}{sp:Sp}{E:XK}{x m:Str}{p pos apos kpos:Pos}{e o:Expr}{es:List Expr}{kws:List Keyword}{te ta:TE}{t tk:TA}{nm:Option Str}
variable{g:List Value->List Value->List Value}{gV:List V->List V->List V}
end
end L2
namespace L2
open PySem PySem.Spec PyProof.Rows
section
variable{X:Cx}{x:Str}{p pos:Pos}{e:Expr}{es:List Expr}{t:TA}{id T:String}{r:List V->Hp->VK->Prop}
end
end L2
namespace L2
open PySem PySem.Spec PyProof.Rows
section
variable{κ:Type}[DecidableEq κ]
def aD(kvs:List (κ×V))(k:κ):Option V:=(kvs.find? λkv=>decide (kv.1=k)).map (·.2)
def putK(kvs:List (κ×V))(k:κ)(v:V):List (κ×V):=
 if(kvs.any λkv=>decide (kv.1=k))=true then kvs.map (λkv=>if kv.1=k then(kv.1,v) else kv) else kvs ++ [(k,v)]
def gQ{p:κ×V}{r:List (κ×V)}{k:κ}(e:p.1=k):aD (p::r) k=some p.2:=by simp[aD,List.find?_cons,e]
def gU{p:κ×V}{r:List (κ×V)}{k:κ}(e:¬p.1=k):aD (p::r) k=aD r k:=by simp[aD,List.find?_cons,e]
theorem uX(k:κ):∀kvs:List (κ×V),(kvs.any λkv=>decide (kv.1=k))=(aD kvs k).isSome
 | []=>rfl
 |p::r=>by
  rw[List.any_cons]
  by_cases e:p.1=k
  ·simp only[gQ e,decide_eq_true e,Bool.true_or,Option.isSome_some]
  ·rw[gU e,decide_eq_false e,Bool.false_or];exact uX k r
def dD(kvs:List (κ×V))(k:κ)(v:V):(putK kvs k v).length<=kvs.length+1:=by
 unfold putK
 split
 ·rw[List.length_map];omega
 ·rw[List.length_append,List.length_cons,List.length_nil];omega
def iz.jf{o:Option V}{u:Option Value}(r:iz o u):o.isSome=u.isSome:=by
 cases o with
 |none=>cases u with
  |none=>rfl
  |some _=>exact(show False from r).elim
 |some _=>cases u with
  |none=>exact(show False from r).elim
  |some _=>rfl
def KV.val{kvs:List (κ×V)}{vs:List (κ×Value)}(r:KV kvs vs)(k:κ):iz (aD kvs k) (valueAt vs k):=by
 unfold KV at r
 induction r with
 |nil=>exact True.intro
 |@cons p q ps qs h t ih=>
  obtain⟨h1,h2⟩:=h
  by_cases e:p.1=k
  ·have e':q.1=k:=h1.symm.trans e
   have b:valueAt (q::qs) k=some q.2:=by simp[valueAt,List.find?_cons,e']
   rw[gQ e,b];exact h2
  ·have e':¬q.1=k:=λz=>e (h1.trans z)
   have b:valueAt (q::qs) k=valueAt qs k:=by simp[valueAt,List.find?_cons,e']
   rw[gU e,b];exact ih
theorem KV.any{kvs:List (κ×V)}{vs:List (κ×Value)}(r:KV kvs vs)(k:κ):(kvs.any λkv=>decide (kv.1=k))=vs.any λkv=>decide (kv.1=k):=by
 unfold KV at r
 induction r with
 |nil=>rfl
 |cons h t ih=>rw[List.any_cons,List.any_cons,ih,h.1]
def KV.repl{kvs:List (κ×V)}{vs:List (κ×Value)}(r:KV kvs vs)(k:κ){y:V}{u:Value}(ry:RelV y u) :
 KV (kvs.map λkv=>if kv.1=k then(kv.1,y) else kv) (vs.map λkv=>if kv.1=k then(kv.1,u) else kv):=by
 unfold KV at r ⊢
 induction r with
 |nil=>exact .nil
 |@cons p q ps qs h t ih=>
  rw[List.map_cons,List.map_cons]
  refine .cons ?_ ih
  obtain⟨h1,h2⟩:=h
  by_cases e:p.1=k
  ·rw[if_pos e,if_pos (h1.symm.trans e)];exact⟨h1,ry⟩
  ·rw[if_neg e,if_neg (λz=>e (h1.trans z))];exact⟨h1,h2⟩
def KV.put{kvs:List (κ×V)}{vs:List (κ×Value)}(r:KV kvs vs)(k:κ){y:V}{u:Value}(ry:RelV y u):KV (putK kvs k y) (stored vs k u):=by
 unfold putK stored
 rw[r.any k]
 by_cases e:(vs.any λkv=>decide (kv.1=k))=true
 ·rw[if_pos e,if_pos e];exact r.repl k ry
 ·rw[if_neg e,if_neg e];exact Paired.snoc r ⟨rfl,ry⟩
theorem KV.length{kvs:List (κ×V)}{vs:List (κ×Value)}(r:KV kvs vs):kvs.length=vs.length:=Paired.length r
end
def zf{P:Program}{w:World}{k:Key}{u:Value}(r:RelV (kV k) u):(Ĵ P w).is k u=true:=by
 cases k with
 |inl i=>obtain⟨t,e⟩:=(show ∃t,u=Value.int i t from r);subst e;exact tX P w i t
 |inr x=>obtain⟨t,e⟩:=(show ∃t,u=Value.str x t from r);subst e;exact tY P w x t
theorem qm{P:Program}{w:World}:∀{ks:List Key} {us:List Value},Vals (ks.map kV) us->ItemsAre (Ĵ P w) ks us
 | [],_,r=>by rw[List.map_nil] at r;cases r;exact .nil
 |k::ks,_,r=>by
  rw[List.map_cons] at r
  cases r with
  |cons h t=>exact .cons (zf h) (qm t)
abbrev KT(H:Hp):List (List Key×V)->List (List Key×Addr×Value)->Prop:=Paired λp q=>p.1=q.1/\H q.2.1=some (.tup (p.1.map kV))/\RelV p.2 q.2.2
def KT.val{H:Hp}{kvs:List (List Key×V)}{xs:List (List Key×Addr×Value)}(r:KT H kvs xs)(k:List Key):iz (aD kvs k) ((atKey xs k).map (·.2)):=by
 induction r with
 |nil=>exact True.intro
 |@cons p q ps qs h t ih=>
  obtain⟨h1,_,h2⟩:=h
  by_cases e:p.1=k
  ·have e':q.1=k:=h1.symm.trans e
   have b:atKey (q::qs) k=some q.2:=by simp[atKey,List.find?_cons,e']
   rw[gQ e,b];exact h2
  ·have e':¬q.1=k:=λz=>e (h1.trans z)
   have b:atKey (q::qs) k=atKey qs k:=by simp[atKey,List.find?_cons,e']
   rw[gU e,b];exact ih
def KT.repl{H:Hp}{kvs:List (List Key×V)}{xs:List (List Key×Addr×Value)}(r:KT H kvs xs)(k:List Key){y:V}{u:Value}(ry:RelV y u) :
 KT H (kvs.map λkv=>if kv.1=k then(kv.1,y) else kv) (xs.map (putAt k u)):=by
 induction r with
 |nil=>exact .nil
 |@cons p q ps qs h t ih=>
  rw[List.map_cons,List.map_cons]
  refine .cons ?_ ih
  obtain⟨h1,h2,h3⟩:=h
  unfold putAt
  by_cases e:p.1=k
  ·rw[if_pos e,if_pos (h1.symm.trans e)];exact⟨h1,h2,ry⟩
  ·rw[if_neg e,if_neg (λz=>e (h1.trans z))];exact⟨h1,h2,h3⟩
def KT.put{H:Hp}{kvs:List (List Key×V)}{xs:List (List Key×Addr×Value)}(r:KT H kvs xs)(k:List Key){b:Addr}{y:V}{u:Value}(hb:H b=some (.tup (k.map kV)))(ry:RelV y u) :
 KT H (putK kvs k y) (storedH xs k b u):=by
 have e:(kvs.any λkv=>decide (kv.1=k))=(atKey xs k).isSome:=by
  rw[uX,(r.val k).jf,Option.isSome_map]
 unfold putK storedH
 rw[e]
 by_cases q:(atKey xs k).isSome=true
 ·rw[if_pos q,if_pos q];exact r.repl k ry
 ·rw[if_neg q,if_neg q];exact Paired.snoc r ⟨rfl,hb,ry⟩
def KT.keeps{H H':Hp}{kvs:List (List Key×V)}{xs:List (List Key×Addr×Value)}(r:KT H kvs xs)(ht:∀b ys,H b=some (.tup ys)->H' b=some (.tup ys)):KT H' kvs xs:=
 Paired.QJ r λ_ _ z=>⟨z.1,ht _ _ z.2.1,z.2.2⟩
section
variable{P:Program}{w:World}{H:Hp}{h:Heap}{a:Addr}
def MN{u:HO}(ok:cR P w H h)(e:Rd H a u):Ł P w H h a u:=e.ok ok
def mY{kvs:List (Key×V)}(ok:cR P w H h)(e:Rd H a (.dK kvs)):kvs.length<=sizeLine/\(a== sysModules)=false/\∃vs,KV kvs vs/\h.DictOf (Ĵ P w) a vs:=
 show Ł P w H h a (.dK kvs) from MN ok e
def YH{kvs:List (Key×V)}(ok:cR P w H h)(e:H a=some (.dK kvs)):kvs.length<=sizeLine/\(a== sysModules)=false/\∃vs,KV kvs vs/\h.DictOf (Ĵ P w) a vs:=mY ok (.inl e)
def mZ{ks:List Key}(ok:cR P w H h)(e:H a=some (.tup (ks.map kV))):(tupleKind (Ĵ P w)).is h ks a:=by
 obtain⟨_,its,r,o,h1,h2,n,h3⟩:=(show Ł P w H h a (.tup (ks.map kV)) from ok a _ e)
 exact⟨o,its.toArray,n,h1,h2,h3,by simpa using qm r⟩
def uY{kvs:List (List Key×V)}(ok:cR P w H h)(e:Rd H a (.dT kvs)):kvs.length<=sizeLine/\(a== sysModules)=false/\
 ∃xs,KT H kvs xs/\h.DictOfH (tupleKind (Ĵ P w)) a xs:=by
 obtain⟨z,y,xs,r,o,es,ep,h1,h2,h3,h4,h5⟩:=(show Ł P w H h a (.dT kvs) from MN ok e)
 refine⟨z,y,xs,r,o,es,ep,h1,h2,h3,h4,λx hx=>?_,h5⟩
 have all:∀{l:List (List Key×V)} {m:List (List Key×Addr×Value)},KT H l m->∀x∈m,(tupleKind (Ĵ P w)).is h x.1 x.2.1:=by
  intro l m q
  induction q with
  |nil=>intro x hx;exact nomatch hx
  |@cons p q ps qs hq t ih=>
   intro x hx
   rcases List.mem_cons.mp hx with e|hx
   ·subst e
    exact mZ ok (by rw[<-hq.1];exact hq.2.1)
   ·exact ih x hx
 exact all r x hx
def M_{kvs:List (List Key×V)}(ok:cR P w H h)(e:H a=some (.dT kvs)):kvs.length<=sizeLine/\(a== sysModules)=false/\
 ∃xs,KT H kvs xs/\h.DictOfH (tupleKind (Ĵ P w)) a xs:=uY ok (.inl e)
end
def oY(H:Hp)(a:Addr)(y:V)(r:Option V):Prop:=
 (∃kvs k,Rd H a (.dK kvs)/\y=kV k/\r=aD kvs k)\/∃kvs k b,Rd H a (.dT kvs)/\y=.ref b/\H b=some (.tup (k.map kV))/\r=aD kvs k
def wZ(H:Hp)(a:Addr)(y v:V)(H':Hp):Prop:=
 (∃kvs k,H a=some (.dK kvs)/\y=kV k/\kvs.length<sizeLine/\H'=upd H a (.dK (putK kvs k v)))\/
 ∃kvs k b,H a=some (.dT kvs)/\y=.ref b/\H b=some (.tup (k.map kV))/\kvs.length<sizeLine/\H'=upd H a (.dT (putK kvs k v))
theorem oY.k{H:Hp}{a:Addr}{kvs:List (Key×V)}{k:Key}(e:H a=some (.dK kvs)):oY H a (kV k) (aD kvs k):=.inl ⟨kvs,k,.inl e,rfl,rfl⟩
def oY.t{H:Hp}{a b:Addr}{kvs:List (List Key×V)}{k:List Key}(e:H a=some (.dT kvs))(eb:H b=some (.tup (k.map kV))):oY H a (.ref b) (aD kvs k):=.inr ⟨kvs,k,b,.inl e,rfl,eb,rfl⟩
theorem wZ.k{H:Hp}{a:Addr}{kvs:List (Key×V)}{k:Key}{v:V}(e:H a=some (.dK kvs))(hl:kvs.length<sizeLine):wZ H a (kV k) v (upd H a (.dK (putK kvs k v))):=.inl ⟨kvs,k,e,rfl,hl,rfl⟩
def wZ.t{H:Hp}{a b:Addr}{kvs:List (List Key×V)}{k:List Key}{v:V}(e:H a=some (.dT kvs))(eb:H b=some (.tup (k.map kV)))(hl:kvs.length<sizeLine) :
 wZ H a (.ref b) v (upd H a (.dT (putK kvs k v))):=.inr ⟨kvs,k,b,e,rfl,eb,hl,rfl⟩
section
variable{X:Cx}{pins:List (Addr×Obj)}{σ:St}{H:Hp}{s:Shared}{a:Addr}{y v:V}{u r:Value}{o:Option V}{A:Around}{E:Value->Shared->Prop}
def Inv.big(I:Inv X pins σ H s):sysModules<s.heap.objs.size:=by
 have h:mainGlobals<s.heap.objs.size:=(I.mod.glob.keeps I.bk).lt
 exact Nat.lt_trans (by decide) h
def Bw{Q:Value->Shared->Prop}(hu:A.units+1<cLine)(I:Inv X pins σ H s)(g:oY H a y (some v))(ry:RelV y u)(h:∀w' s',Inv X pins σ H s'->RelV v w'->Q w' s') :
 wpAny (model X.prog X.w) A (getItem (.ref a) u) Q E s:=by
 rcases g with⟨kvs,k,e,ey,l⟩|⟨kvs,k,b,e,ey,eb,l⟩
 ·subst ey
  obtain⟨z,hd,vs,rel,dd⟩:=mY I.hok e
  obtain⟨w',hw,Dc⟩:=iz.some_of (v:=v) (o:=valueAt vs k) (by rw[l];exact rel.val k)
  exact wpAny_getItem_of (zf ry) dd.mapOf hw (h w' _ (I.tok _) Dc)
 ·subst ey
  cases(show u=Value.ref b from ry)
  obtain⟨z,hd,xs,rel,dd⟩:=uY I.hok e
  obtain⟨w',hw,Dc⟩:=iz.some_of (v:=v) (o:=(atKey xs k).map (·.2)) (by rw[l];exact rel.val k)
  obtain⟨p,hp,hp2⟩:=Option.map_eq_some_iff.mp hw
  refine wpAny_getItem_heap (tupleKind_room_in1 hu) (mZ I.hok eb) dd hp ?_
  rw[hp2]
  exact h w' _ (I.tok _) Dc
def Kp{Q:Value->Shared->Prop}(hu:A.units+1<cLine)(I:Inv X pins σ H s)(g:oY H a y o)(ry:RelV y u)(h:∀s',Inv X pins σ H s'->Q (.bool (!o.isSome)) s') :
 wpAny (model X.prog X.w) A (compareOp .NotIn u (.ref a)) Q E s:=by
 rcases g with⟨kvs,k,e,ey,l⟩|⟨kvs,k,b,e,ey,eb,l⟩
 ·subst ey
  obtain⟨z,hd,vs,rel,dd⟩:=mY I.hok e
  refine wpAny_notIn_of (zf ry) hd dd.mapOf ?_
  rw[<-(rel.val k).jf,<-l]
  exact h _ (I.tok _)
 ·subst ey
  cases(show u=Value.ref b from ry)
  obtain⟨z,hd,xs,rel,dd⟩:=uY I.hok e
  refine wpAny_notIn_heap (tupleKind_room_in1 hu) (mZ I.hok eb) hd dd ?_
  have q:=(rel.val k).jf
  rw[Option.isSome_map] at q
  rw[<-q,<-l]
  exact h _ (I.tok _)
def rJ{h':Heap}{t':Nat}{ob:HO}(I:Inv X pins σ H s)(mu:Wt (H a))(hs:Heap.SameBut a s.heap h')(he:∃q,h'.get? a=some q)(new:Ł X.prog X.w (upd H a ob) h' a ob) :
 Inv X pins σ (upd H a ob) {s with heap:=h',toks:=t'}:=
 I.write (x:=a) (e:=a) mu (.inl rfl) (λb q hb z=>(hs.2 b hb).trans z) he new
def TQ{P:Program}{w:World}{H':Hp}{h':Heap}{kvs:List (Key×V)}{vs:List (Key×Value)}(z:kvs.length<=sizeLine)(hd:(a== sysModules)=false)(rel:KV kvs vs)(dd:h'.DictOf (Ĵ P w) a vs) :
 Ł P w H' h' a (.dK kvs):=⟨z,hd,vs,rel,dd⟩
def Bx{H':Hp}{Q:Unit->Shared->Prop}(hu:A.units+1<cLine)(I:Inv X pins σ H s)(g:wZ H a y v H')(ry:RelV y u)(rv:RelV v r)(h:∀s',Inv X pins σ H' s'->Q () s') :
 wpAny (model X.prog X.w) A (setItem (.ref a) u r) Q E s:=by
 rcases g with⟨kvs,k,e,ey,l,eH⟩|⟨kvs,k,b,e,ey,eb,l,eH⟩
 ·subst ey eH
  obtain⟨z,hd,vs,rel,dd⟩:=YH I.hok e
  have hz:vs.length<=sizeLine:=by rw[<-rel.length];exact z
  have hl:(putK kvs k v).length<=sizeLine:=by have:=dD kvs k v;omega
  refine wpAny_setItem_pairs (hsz:=hz) (zf ry) dd λh' Wh hs=>h _ ?_
  have he:∃q,h'.get? a=some q:=let ⟨q,_,_,hq,_⟩:=Wh;⟨q,hq⟩
  exact rJ I (by rw[e];exact True.intro) hs he (TQ hl hd (rel.put k rv) Wh)
 ·subst ey eH
  cases(show u=Value.ref b from ry)
  obtain⟨z,hd,xs,rel,dd⟩:=M_ I.hok e
  have hz:xs.length<=sizeLine:=by rw[<-Paired.length rel];exact z
  have hl:(putK kvs k v).length<=sizeLine:=by have:=dD kvs k v;omega
  refine wpAny_setItem_heap (hsz:=hz) (tupleKind_room_in1 hu) (mZ I.hok eb) dd λh' Wh hs=>h _ ?_
  obtain⟨q,es,ep,hq,h2,h3,h4,_,h5⟩:=Wh
  refine rJ I (by rw[e];exact True.intro) hs ⟨q,hq⟩ ⟨hl,hd,_,(rel.put k eb rv).keeps λc ys ec=>?_,q,es,ep,hq,h2,h3,h4,h5⟩
  rw[Ċ (LC ec e (λz=>nomatch z))]
  exact ec
end
section
variable{X:Cx}{pins:List (Addr×Obj)}{σ:St}{H:Hp}{s:Shared}{a:Addr}{kvs:List (Key×V)}{k:Key}{u:Value}{A:Around}{E:Value->Shared->Prop}
end
def TX(i:Expr):Prop:=∀ov iv,subscripted i false ov iv=operate [ov,iv] (getItem ov iv)
def Kq{prog:Program}{w:World}{A:Around}{E:Value->Shared->Prop}{s:Shared}{env:Env}{value slice:Expr}{pos:Pos}{T id:String}{Q:Value->Shared->Prop}
 (hl:typeLookup (.type T) "__getitem__" =pure (some (.builtin id)))(hs:TX slice)
 (h:wpAny (model prog w) A (eval value env) (λo s₁=>wpAny (model prog w) A (eval slice env) (λi s₂=>s₂.TypeIs o T/\wpAny (model prog w) A (getItem o i) Q E s₂) E s₁) E s) :
 wpAny (model prog w) A (eval (.Subscript value slice pos) env) Q E s:=by
 refine Subscript_ (wpAny_mono h (λo s₁ h₁=>wpAny_mono h₁ (λi s₂ h₂=>?_) λ_ _ x=>x) λ_ _ x=>x)
 obtain⟨hT,h₂⟩:=h₂
 unfold subscriptTail
 refine wpAny_bind ?_
 rw[getitemInPython_of_ne hT.not_modules]
 refine wpAny_bind (wpAny_specialOf hT hl ?_)
 have fin:wpAny (model prog w) A (subscripted slice false o i) (λr s₃=>wpAny (model prog w) A (letTemporaryGo value o r >>= λ_=>pure r) Q E s₃) E s₂:= by
  rw[hs o i]
  exact wpAny_operating (wpAny_mono h₂ (λr s₃ h₃=>wpAny_bind (wpAny_letTemporaryGo (wpAny_pure h₃))) λ_ _ x=>x)
 first
  |exact wpAny_pure (wpAny_bind fin)
  |exact wpAny_bind (wpAny_pure (wpAny_bind fin))
  |exact wpAny_bind fin
def uZ{X:Cx}{pins:List (Addr×Obj)}{σ:St}{H:Hp}{s:Shared}{a:Addr}{y:V}{o:Option V}(I:Inv X pins σ H s)(g:oY H a y o):s.TypeIs (.ref a) "dict" := by
 rcases g with⟨kvs,k,e,_,_⟩|⟨kvs,k,b,e,_,_,_⟩
 ·obtain⟨_,_,vs,_,dd⟩:=mY I.hok e
  exact dd.typeIs
 ·obtain⟨_,_,xs,_,dd⟩:=uY I.hok e
  exact dd.typeIs
def YJ(td ty:TE):TE:=λσ H Q=>td σ H λx H1=>ty σ H1 λy H2=>∃a v,x=.ref a/\oY H2 a y (some v)/\Q v H2
def zj(ty td:TE):TE:=λσ H Q=>ty σ H λy H1=>td σ H1 λx H2=>∃a o,x=.ref a/\oY H2 a y o/\Q (.bl (!o.isSome)) H2
def YK(td ty tv:TE):TS:=λD σ H=>tv σ H λv H1=>td σ H1 λx H2=>ty σ H2 λy H3=>∃a H4,x=.ref a/\wZ H3 a y v H4/\D.nx σ H4
section
variable{X:Cx}{o i e value:Expr}{pos pos' tpos:Pos}{td ty tv:TE}
def Kr(hu:X.A.units+1<cLine)(ho:PE X o td)(hi:PE X i ty)(hs:TX i):PE X (.Subscript o i pos) (YJ td ty):=by
 intro pins s σ H Q I h
 refine Kq PySem.F.slot_dict_getitem.lookup hs (Ľ (ho pins s σ H _ I h) λu s1 ⟨x,H1,I1,rx,q1⟩=>Ľ (hi pins s1 σ H1 _ I1 q1) λiv s2 ⟨y,H2,I2,ry,a,v,ex,g,q2⟩=>?_)
 subst ex
 obtain rfl:u=Value.ref a:=rx
 exact⟨uZ I2 g,Bw hu I2 g ry λw' s3 I3 Dc=>⟨v,H2,I3,Dc,q2⟩⟩
def BJ(hu:X.A.units+1<cLine)(hi:PE X i ty)(ho:PE X o td):PC X .NotIn i o (zj ty td):=by
 intro pins s σ H Q I h
 refine Ľ (hi pins s σ H _ I h) λiv s1 ⟨y,H1,I1,ry,q1⟩=>Ľ (ho pins s1 σ H1 _ I1 q1) λu s2 ⟨x,H2,I2,rx,a,ov,ex,g,q2⟩=>?_
 subst ex
 obtain rfl:u=Value.ref a:=rx
 exact Kp hu I2 g ry λs3 I3=>⟨.bl (!ov.isSome),H2,I3,rfl,q2⟩
def Ks(hu:X.A.units+1<cLine)(ho:PE X o td)(hi:PE X i ty)(hv:PE X value tv)(hs:swapsWith value (some (.Subscript o i pos')) pos.line X.env=pure false) :
 PS X (.Assign [.Subscript o i pos'] value pos) (YK td ty tv):=by
 intro pins s σ H D I h
 refine wpAny_Assign_Subscript (Ľ (hv pins s σ H _ I h) λr s1 ⟨v,H1,I1,rv,q1⟩=>Ľ (ho pins s1 σ H1 _ I1 q1) λu s2 ⟨x,H2,I2,rx,q2⟩=>Ľ (hi pins s2 σ H2 _ I2 q2) λiv s3 ⟨y,H3,I3,ry,a,H4,ex,g,q3⟩=>?_) hs
 subst ex
 obtain rfl:u=Value.ref a:=rx
 exact Bx hu I3 g ry rv λs4 I4=>⟨σ,H4,I4,q3⟩
end
def Ft{P:Program}{w:World}{H:Hp}(h:Heap)(hb:sysModules<h.objs.size):Ł P w H (h.push {cls:=.type "dict",data:=.dict #[]}) h.objs.size (.dK []):=
 ⟨Nat.zero_le _,beq_eq_false_iff_ne.mpr (Ne.symm (Nat.ne_of_lt hb)),[],.nil,Heap.DictOf.new h⟩
def Fv{P:Program}{w:World}{H:Hp}(h:Heap)(hb:sysModules<h.objs.size):Ł P w H (h.push {cls:=.type "dict",data:=.dict #[]}) h.objs.size (.dT []):=
 ⟨Nat.zero_le _,beq_eq_false_iff_ne.mpr (Ne.symm (Nat.ne_of_lt hb)),[],.nil,_,#[],0,Heap.get?_push_size _ rfl,⟨rfl,rfl,rfl⟩,rfl,rfl,List.nodup_nil⟩
def TY:TE:=λ_ H Q=>∀p,H p=none->Q (.ref p) (upd H p (.dK []))
def T_:TE:=λ_ H Q=>∀p,H p=none->Q (.ref p) (upd H p (.dT []))
section
variable{X:Cx}{pos:Pos}
def Fw:PE X (.Dict [] [] pos) TY:=λpins s σ H Q I h=>
 wpAny_Dict_empty ⟨.ref s.heap.objs.size,_,I.laid (a:=s.heap.objs.size) (o:=.dK []) (t':=s.toks) (λ_ _ q=>Heap.get?_push_of_some _ q) (Nat.le_refl _) (Ft s.heap I.big),rfl,h _ (I.hok.fresh (Nat.le_refl _))⟩
def Fx:PE X (.Dict [] [] pos) T_:=λpins s σ H Q I h=>
 wpAny_Dict_empty ⟨.ref s.heap.objs.size,_,I.laid (a:=s.heap.objs.size) (o:=.dT []) (t':=s.toks) (λ_ _ q=>Heap.get?_push_of_some _ q) (Nat.le_refl _) (Fv s.heap I.big),rfl,h _ (I.hok.fresh (Nat.le_refl _))⟩
end
structure M2(X:Cx)(o:Expr)(m:Str)(apos:Pos)(e f:Expr)(cpos:Pos):Prop where
 base:attributeBase o m X.env (eval o X.env)=eval o X.env
 few:((backTo cpos (starEach [e,f] X.env)).all (λx=>!x.1) && (backToKw cpos (keywordEach [] X.env)).all (λx=>x.1.isSome)
  && decide (([e,f]:List Expr).length+([]:List Keyword).length+(if([]:List Keyword).isEmpty then 0 else 1)<30))=true
 line:(apos.endLine== cpos.line)=true
 trees:backTo cpos (starEach [e,f] X.env)=[(false,eval e X.env),(false,eval f X.env)]
def IsD(H:Hp)(a:Addr):Prop:=(∃kvs,Rd H a (.dK kvs))\/∃kvs,Rd H a (.dT kvs)
def Ua{X:Cx}{pins:List (Addr×Obj)}{σ:St}{H:Hp}{s:Shared}{a:Addr}(I:Inv X pins σ H s)(d:IsD H a) :
 s.TypeIs (.ref a) "dict" /\(∀b,Value.ref a=.ref b->∃ob,s.heap.get? b=some ob/\ob.dict=none)/\(a== sysModules)=false:=by
 rcases d with⟨kvs,e⟩|⟨kvs,e⟩
 ·obtain⟨_,hd,vs,_,dd⟩:=mY I.hok e
  refine⟨dd.typeIs,λb q=>?_,hd⟩
  cases q
  obtain⟨ob,_,_,h1,h2,_⟩:=dd
  exact⟨ob,h1,h2.2.1⟩
 ·obtain⟨_,hd,xs,_,dd⟩:=uY I.hok e
  refine⟨dd.typeIs,λb q=>?_,hd⟩
  cases q
  obtain⟨ob,_,_,h1,h2,_⟩:=dd
  exact⟨ob,h1,h2.2.1⟩
section
variable{X:Cx}{pins:List (Addr×Obj)}{σ:St}{H:Hp}{s:Shared}{a:Addr}{y d:V}{u r:Value}{o:Option V}{A:Around}{E:Value->Shared->Prop}
end
section
variable{X:Cx}{o e f:Expr}{apos cpos:Pos}{td ty tx:TE}
end
section
variable{X:Cx}{pins:List (Addr×Obj)}{σ:St}{H:Hp}{s:Shared}{a:Addr}{kvs:List (Key×V)}{A:Around}{E:Value->Shared->Prop}
end
section
variable{X:Cx}{pins:List (Addr×Obj)}{σ:St}{H:Hp}{s:Shared}{a:Addr}{y:V}{u:Value}{A:Around}{E:Value->Shared->Prop}
end
end L2
namespace Att
open PySem PySem.W PySem.Calls PyProof.Rows
section
variable{prog:Program}{w:World}{A:Around}{E:Value->Shared->Prop}{s:Shared}{K:Frag}
end
end Att
namespace L2
open PySem PySem.Spec PyProof.Rows
end L2
namespace L2
open PySem PySem.Spec PyProof.Rows
end L2
namespace L2
open PySem PySem.Spec PyProof.Rows
section
variable{P:Program}{w:World}{K:PySem.W.Frag}{mg:Str->Option Value}{base:Heap}
end
section
variable{X:Cx}
end
section
variable{κ:Type}[DecidableEq κ]
end
end L2
namespace P
open PySem PySem.Spec PyProof.Rows L2 M2 M3 M4
def qt:List PV->Option (List Int)
 | []=>some []
 | .int i::ps=>(qt ps).map (i:: ·)
 |_::_=>none
def BK(t:Bool):PV->Option DK
 | .int i=>if t then none else some (.inl i)
 | .tup ps=>if t then(qt ps).map .inr else none
 |_=>none
def dval(kvs:List (DK×PV))(k:DK):Option PV:=(kvs.find? λkv=>decide (kv.1=k)).map (·.2)
def dput(kvs:List (DK×PV))(k:DK)(v:PV):List (DK×PV):=
 if(kvs.any λkv=>decide (kv.1=k))=true then kvs.map λkv=>if kv.1=k then(kv.1,v) else kv else kvs ++ [(k,v)]
section
variable{K:KK}{F:Hp}{α κ:Type}[DecidableEq κ]{c:α->DK}{kf:α->κ}(hc:∀{x y},c x=c y->x=y)(hk:∀{x y},kf x=kf y->x=y)
abbrev DG(K:KK)(F:Hp)(c:α->DK)(kf:α->κ):DK×PV->κ×V->Prop:=λp q=>(∃i,p.1=c i/\q.1=kf i)/\Rep K F p.2 q.2
include hc hk in
def m_{p:DK×PV}{q:κ×V}(h:DG K F c kf p q)(i:α):(p.1=c i)↔(q.1=kf i):=by
 obtain⟨⟨j,h1,h2⟩,_⟩:=h
 rw[h1,h2]
 exact⟨λe=>by rw[hc e],λe=>by rw[hk e]⟩
include hc hk in
theorem ni(i:α):∀{kvs:List (DK×PV)} {ks:List (κ×V)},Paired (DG K F c kf) kvs ks->(dval kvs (c i)=none/\aD ks (kf i)=none)\/∃p v,dval kvs (c i)=some p/\aD ks (kf i)=some v/\Rep K F p v
 |_,_,.nil=>.inl ⟨rfl,rfl⟩
 |p::kvs,q::ks,.cons r t=>by
  by_cases e:p.1=c i
  ·refine .inr ⟨p.2,q.2,?_,gQ ((m_ hc hk r i).mp e),r.2⟩
   simp[dval,List.find?_cons,e]
  ·have e2:=λz=>e ((m_ hc hk r i).mpr z)
   have h1:dval (p::kvs) (c i)=dval kvs (c i):=by simp[dval,List.find?_cons,e]
   rw[h1,gU e2]
   exact ni i t
include hc hk in
theorem Fy(i:α):∀{kvs:List (DK×PV)} {ks:List (κ×V)},Paired (DG K F c kf) kvs ks->(kvs.any λkv=>decide (kv.1=c i))=ks.any λkv=>decide (kv.1=kf i)
 |_,_,.nil=>rfl
 |p::kvs,q::ks,.cons r t=>by
  rw[List.any_cons,List.any_cons,Fy i t]
  congr 1
  exact decide_eq_decide.mpr (m_ hc hk r i)
theorem zm{α β:Type}{G:α->β->Prop}{x:α}{y:β}(h:G x y):∀{l:List α} {m:List β},Paired G l m->Paired G (l ++ [x]) (m ++ [y])
 |_,_,.nil=>.cons h .nil
 |_,_,.cons r t=>.cons r (zm h t)
include hc hk in
theorem Fz(i:α){p:PV}{v:V}(hr:Rep K F p v):∀{kvs:List (DK×PV)} {ks:List (κ×V)},Paired (DG K F c kf) kvs ks->Paired (DG K F c kf) (kvs.map λkv=>if kv.1=c i then(kv.1,p) else kv) (ks.map λkv=>if kv.1=kf i then(kv.1,v) else kv)
 |_,_,.nil=>.nil
 |a::kvs,b::ks,.cons r t=>by
  refine .cons ?_ (Fz i hr t)
  dsimp only
  by_cases e:a.1=c i
  ·rw[if_pos e,if_pos ((m_ hc hk r i).mp e)]
   exact⟨r.1,hr⟩
  ·rw[if_neg e,if_neg λz=>e ((m_ hc hk r i).mpr z)]
   exact r
include hc hk in
def FJ(i:α){p:PV}{v:V}(hr:Rep K F p v){kvs:List (DK×PV)}{ks:List (κ×V)}(h:Paired (DG K F c kf) kvs ks):Paired (DG K F c kf) (dput kvs (c i) p) (putK ks (kf i) v):=by
 unfold dput putK
 rw[Fy hc hk i h]
 split
 ·exact Fz hc hk i hr h
 ·exact zm ⟨⟨i,rfl,rfl⟩,hr⟩ h
end
def aX{β γ:Type}{x y:β}(h:(Sum.inl x:Sum β γ)=.inl y):x=y:=by injection h
def xg{K:KK}{F:Hp}{kvs:List (DK×PV)}{u:HO}(h:qW K F false kvs u):∃ks:List (Key×V),u=.dK ks/\Paired (DG K F (Sum.inl:Int->DK) (Sum.inl:Int->Key)) kvs ks:=by
 rcases h with⟨_,ks,h1,h2⟩|⟨h0,_⟩
 ·exact⟨ks,h1,h2⟩
 ·cases h0
def zp{K:KK}{F:Hp}{kvs:List (DK×PV)}{ks:List (Key×V)}(h:Paired (DG K F (Sum.inl:Int->DK) (Sum.inl:Int->Key)) kvs ks):qW K F false kvs (.dK ks):=.inl ⟨rfl,ks,rfl,h⟩
section
variable{X:Cx}{cm:String->Addr}{E:L2.St->XK}{e o:Expr}{pos:Pos}{ma mk mv:M PV}
def FN{H:Hp}{a:Addr}{kvs:List (Key×V)}{k:Key}(e:Rd H a (.dK kvs)):oY H a (kV k) (aD kvs k):=.inl ⟨kvs,k,e,rfl,rfl⟩
def gW(ρ:Ĳ)(i:Nat):Option (List (DK×PV)):=match ρ[i]? with
 |some (.od false kvs)=>some kvs
 |some (.bd false kvs)=>some kvs
 |_=>none
def nj{c:Ctx}{F H:Hp}{σ:L2.St}{ρ:Ĳ}{i:Nat}{kvs:List (DK×PV)}{K:KK}(rel:Rel K c F H σ ρ)(h:gW ρ i=some kvs):∃a ks,σ[i]?=some (some (.ref a))/\Rd H a (.dK ks)/\Paired (DG K F (Sum.inl:Int->DK) (Sum.inl:Int->Key)) kvs ks:=by
 unfold gW at h
 split at h
 ·rename_i kvs' e
  cases h
  obtain⟨a,u,h1,h2,h3,h4,h5⟩:=rel.slot i _ e
  obtain⟨ks,rfl,h6⟩:=xg h5
  exact⟨a,ks,at_of h1,.inl h2,h6⟩
 ·rename_i kvs' e
  cases h
  obtain⟨a,u,h1,h2,h3⟩:=rel.slot i _ e
  obtain⟨ks,rfl,h6⟩:=xg h3
  exact⟨a,ks,at_of h1,h2.elim (λh2=>.inl (rel.lent a _ h2).1) λ⟨ob,e⟩=>.inr ⟨ob,rel.sub _ _ e⟩,h6⟩
 ·cases h
def jE(i:Nat)(mk:M PV):M PV:=λρ=>match gW ρ i with
 |some _=>(mk ρ).bind λk ρ1=>match gW ρ1 i,k with
  |some kvs,.int j=>Res.kZ (dval kvs (.inl j)) ρ1
  |_,_=>.bad
 |none=>.bad
def xq(i:Nat){x:Str}{px:Pos}(hu:X.A.units+64<cLine)(hk:PE X e (tV (kk X cm) E mk))(hs:TX e:=by intro _ _;rfl)(hN:X.N[i]?=some x:=by rfl)(hv:qJ X.env.scope x:=by first|exact Or.inl rfl|exact Or.inr (Or.inl rfl)|exact Or.inr (Or.inr rfl))(hd:(x== ("__debug__" :Str))=false:=by decide)
 (hcd:(x== ("__classdict__" :Str))=false:=by decide):PE X (.Subscript (.Name x px) e pos) (tV (kk X cm) E (jE i mk)):=PE.wk (Kr (by omega) (ş hN hv hd hcd) hk hs) λσ H Q ⟨c,F,ρ,rel,h⟩=>by
 unfold jE at h
 cases e1:gW ρ i with
 |none=>rw[e1] at h;exact h.elim
 |some YL=>
  rw[e1] at h
  obtain⟨a,ks0,z1,_,_⟩:=nj rel e1
  refine⟨.ref a,z1,c,F,ρ,rel,h.bind λk ρ1 y F1 H1 ć s1 s2 r1 h1=>?_⟩
  cases e2:gW ρ1 i with
  |none=>rw[e2] at h1;exact h1.elim
  |some kvs=>
   rw[e2] at h1
   cases k with
   |int j=>
    obtain⟨b,ks,w1,w2,w3⟩:=nj ć e2
    rw[z1] at w1
    cases w1
    have ey:y=.int j:=by have:Rep (kk X cm) F1 (.int j) y:=r1;unfold Rep at this;exact this
    subst ey
    dsimp only at h1
    rcases ni (c:=(Sum.inl:Int->DK)) (kf:=(Sum.inl:Int->Key)) aX aX j w3 with⟨q1,_⟩|⟨p,v,q1,q2,q3⟩
    ·rw[q1] at h1;exact h1.elim
    ·rw[q1] at h1
     refine⟨a,v,rfl,?_,h1 v F1 H1 ć (Same.refl _) (Same.refl _) q3⟩
     have:=FN (k:=.inl j) w2
     rw[q2] at this
     exact this
   |_=>exact h1.elim
def Ku(b:Bool)(i:Nat)(mk:M PV):M PV:=λρ=>(mk ρ).bind λk ρ1=>match gW ρ1 i,k with
 |some kvs,.int j=>.ok (.bl ((dval kvs (.inl j)).isSome != b)) ρ1
 |_,_=>.bad
def Ub{m:M PV}{σ:L2.St}{H:Hp}{Q:Bool->Hp->Prop}(h:tB (kk X cm) E (cF m) σ H Q):tV (kk X cm) E m σ H λx H1=>∃b,x=.bl b/\Q b H1:=by
 obtain⟨c,F,ρ,rel,h⟩:=h
 refine⟨c,F,ρ,rel,h.bind λp ρ1 v F1 H1 ć _ _ r1 h1=>?_⟩
 cases p with
 |bl b=>
  have e:v=.bl b:=by have r1':Rep (kk X cm) F1 (.bl b) v:=r1;unfold Rep at r1';exact r1'
  subst e
  exact⟨b,rfl,h1 b F1 H1 ć (Same.refl _) (Same.refl _) rfl⟩
 |_=>exact h1.elim
def Uc{i:Nat}{σ:L2.St}{H:Hp}{Q:V->Hp->Prop}(h:tV (kk X cm) E (Ku true i mk) σ H Q):zj (tV (kk X cm) E mk) (lN i) σ H Q:=by
 obtain⟨c,F,ρ,rel,h⟩:=h
 exact⟨c,F,ρ,rel,h.bind λk ρ1 y F1 H1 ć s1 s2 r1 h1=>by
  cases e2:gW ρ1 i with
  |none=>rw[e2] at h1;exact h1.elim
  |some kvs=>
   rw[e2] at h1
   cases k with
   |int j=>
    obtain⟨b,ks,w1,w2,w3⟩:=nj ć e2
    have ey:y=.int j:=by have:Rep (kk X cm) F1 (.int j) y:=r1;unfold Rep at this;exact this
    subst ey
    dsimp only at h1
    refine⟨.ref b,w1,b,_,rfl,FN (k:=.inl j) w2,?_⟩
    have eq:(!(aD ks (Sum.inl j)).isSome)=((dval kvs (.inl j)).isSome != true):=by
     rcases ni (c:=(Sum.inl:Int->DK)) (kf:=(Sum.inl:Int->Key)) aX aX j w3 with⟨q1,q2⟩|⟨p,v,q1,q2,_⟩<;>rw[q1,q2]<;>rfl
    rw[eq]
    exact h1 _ F1 H1 ć (Same.refl _) (Same.refl _) (by show Rep _ _ _ _;unfold Rep;rfl)
   |_=>exact h1.elim⟩
def Ud(i:Nat){x:Str}{px:Pos}(hu:X.A.units+64<cLine)(hk:PE X e (tV (kk X cm) E mk))(hN:X.N[i]?=some x:=by rfl)(hv:qJ X.env.scope x:=by first|exact Or.inl rfl|exact Or.inr (Or.inl rfl)|exact Or.inr (Or.inr rfl))(hd:(x== ("__debug__" :Str))=false:=by decide)
 (hcd:(x== ("__classdict__" :Str))=false:=by decide)(h1:behindInMarks .NotIn (.Name x px)=false:=by first|exact Cz _ (by decide) (by decide)|rfl):PT X (.Compare e [.NotIn] [.Name x px] pos) (tB (kk X cm) E (cF (Ku true i mk))):=PT.wk (QT (BJ (by omega) hk (ş hN hv hd hcd)) h1) λσ H Q h=>Uc (Ub h)
def zq(i:Nat):M Fl:=λρ=>.ok .nx (ρ.set i (.od false []))
def FP{i:Nat}{x:Str}{pos' p0:Pos}(hN:X.N.Nodup)(hi:X.N[i]?=some x)(hx:Loc X.env.scope x)(hs:swapsWith (.Dict [] [] p0) (some (.Name x pos')) pos.line X.env=pure false:=by rfl)(hf:X.fn x=true\/X.env.scope.names.lookup x=some .local:=by first|exact .inl rfl|exact .inr rfl|assumption) :
 PS X (.Assign [.Name x pos'] (.Dict [] [] p0) pos) (tS (kk X cm) E (zq i)):=PS.wk (qM hN hi hx Fw hs hf) λD σ H ⟨c,F,ρ,rel,h⟩ p hp=>by
 have ć:=rel.made (o:=.dK []) hp
 exact h _ F _ (ć.uy (s:=.od false []) ⟨p,.dK [],rfl,č,rel.sub.free hp,rel.base.free hp,zp .nil⟩ λ_ z=>V.ref.inj z▸rel.fresh hp) (Same.refl _)
def zu(i:Nat)(mk mv:M PV):M Fl:=λρ=>(mv ρ).bind λp ρ1=>match ρ1[i]? with
 |some (.od false _)=>(mk ρ1).bind λk ρ2=>match ρ2[i]?,k with
  |some (.od false kvs),.int j=>if kvs.length<16777216 then .ok .nx (ρ2.set i (.od false (dput kvs (.inl j) p))) else .bad
  |_,_=>.bad
 |_=>.bad
def FQ{i:Nat}{x:Str}{ix:Expr}{px YM:Pos}(hu:X.A.units+64<cLine)(he:PE X e (tV (kk X cm) E mv))(hi:PE X ix (tV (kk X cm) E mk))(ho:PE X (.Name x px) (lN i))
 (hs:swapsWith e (some (.Subscript (.Name x px) ix YM)) pos.line X.env=pure false:=by rfl) :
 PS X (.Assign [.Subscript (.Name x px) ix YM] e pos) (tS (kk X cm) E (zu i mk mv)):=PS.wk (Ks (by omega) ho hi he hs) λD σ H ⟨c,F,ρ,rel,h⟩=>⟨c,F,ρ,rel,š.bind h λp ρ1 v F1 H1 ć s1 q h1=>by
 cases e1:ρ1[i]? with
 |none=>rw[e1] at h1;exact h1.elim
 |some sl=>
  rw[e1] at h1
  cases sl with
  |od t0 YL=>
   cases t0 with
   |true=>exact h1.elim
   |false=>
    obtain⟨a,u0,z1,_,_,_,_⟩:=ć.slot i _ e1
    refine⟨.ref a,at_of z1,c,F1,ρ1,ć,š.bind h1 λq' ρ2 y F2 H2 Ğ s2 r2 h2=>?_⟩
    cases e2:ρ2[i]? with
    |none=>rw[e2] at h2;exact h2.elim
    |some sl2=>
     rw[e2] at h2
     cases sl2 with
     |od t kvs=>
      cases t with
      |true=>exact h2.elim
      |false=>
       cases q' with
       |int j=>
        have ey:y=.int j:=by have:Rep (kk X cm) F2 (.int j) y:=r2;unfold Rep at this;exact this
        subst ey
        dsimp only at h2
        obtain⟨a2,u,w1,w2,w3,w4,w5⟩:=Ğ.slot i _ e2
        obtain⟨ks,rfl,w6⟩:=xg w5
        have e3:=at_of z1
        rw[at_of w1] at e3
        have e3':a2=a:=by injection e3 with e3;injection e3 with e3;injection e3
        subst e3'
        split at h2
        ·rename_i hz
         have hl:ks.length<sizeLine:=by rw[<-Paired.length w6,ě];exact hz
         refine⟨a2,_,rfl,wZ.k (k:=.inl j) w2 hl,h2 σ F2 _ (Ğ.iM ⟨_,_,e2,at_of w1,rfl⟩ ⟨a2,_,w1,č,w3,w4,zp (FJ aX aX j (Rep.same s2 p v q) w6)⟩ λx' b ex z=>?_) (Same.refl _)⟩
         rw[at_of w1] at ex
         cases ex
         have:a2=b:=V.ref.inj z
         subst this
         exact⟨_,_,e2,at_of w1,rfl⟩
        ·exact h2.elim
       |_=>exact h2.elim
     |_=>exact h2.elim
  |_=>exact h1.elim⟩
@[simp] theorem Zbo{i:Nat}{ρ:Ĳ}:zq i ρ=.ok .nx (ρ.set i (.od false [])):=rfl
@[simp] theorem Zbp{i:Nat}{ρ:Ĳ}:zu i mk mv ρ=(mv ρ).bind fun p ρ1=>match ρ1[i]? with
  |some (.od false _)=>(mk ρ1).bind λk ρ2=>match ρ2[i]?,k with
   |some (.od false kvs),.int j=>if kvs.length<16777216 then .ok .nx (ρ2.set i (.od false (dput kvs (.inl j) p))) else .bad
   |_,_=>.bad
  |_=>.bad:=rfl
@[simp] theorem Zbq{i:Nat}{ρ:Ĳ}:jE i mk ρ=(match gW ρ i with
  |some _=>(mk ρ).bind λk ρ1=>match gW ρ1 i,k with
   |some kvs,.int j=>Res.kZ (dval kvs (.inl j)) ρ1
   |_,_=>.bad
  |none=>.bad):=rfl
@[simp] theorem Zc6{b:Bool}{i:Nat}{ρ:Ĳ}:Ku b i mk ρ=(mk ρ).bind fun k ρ1=>match gW ρ1 i,k with
  |some kvs,.int j=>.ok (.bl ((dval kvs (.inl j)).isSome != b)) ρ1
  |_,_=>.bad:=rfl
end
end P
namespace P
open PySem PySem.Spec PyProof.Rows L2 M2 M3 M4
theorem gY{P:Program}{w:World}:∀{kvs:List (Key×V)} {vs:List (Key×Value)} {acc:List Value} {ns:List Int},KV kvs vs->kvs.map (·.1)=ns.map .inl->acc.length=vs.length->(∀(j:Nat) v,acc[j]?=some v->∃k x,vs[j]?=some (k,x)/\(Ĵ P w).is k v=true)->IntsAre acc ns
 | [],[],acc,ns,_,h1,h2,_=>by
   cases ns with
   |cons n ns=>cases h1
   |nil=>
    cases acc with
    |nil=>exact .nil
    |cons a acc=>simp at h2
 |kv::kvs,q::vs,acc,ns,.cons r t,h1,h2,h3=>by
  cases ns with
  |nil=>cases h1
  |cons n ns=>
   cases acc with
   |nil=>simp at h2
   |cons a acc=>
    injection h1 with e1 e2
    obtain⟨k,x,hx,hk⟩:=h3 0 a rfl
    have eq:q=(k,x):=by simpa using hx
    have ek:k=.inl n:=by
     have h:=r.1
     rw[eq] at h
     exact h.symm.trans e1
    subst ek
    have ih:=gY t e2 (by simpa using h2) λj v hv=>by simpa using h3 (j+1) v (by simpa using hv)
    have hk:Value.isInt n a=true:=hk
    obtain⟨t,rfl⟩:∃t,a=.int n t:=by
     cases a<;>simp[Value.isInt] at hk
     exact⟨_,by rw[hk]⟩
    exact .cons n t ih
section
variable{X:Cx}{cm:String->Addr}{E:L2.St->XK}{e:Expr}{pos:Pos}
end
end P
namespace P
open PySem PySem.Spec PyProof.Rows L2 M2 M3 M4
def insI(n:Int):List Int->List Int
 | []=>[n]
 |m::ms=>if n<=m then n::m::ms else m::insI n ms
def gZ:List Int->List Int
 | []=>[]
 |n::ns=>insI n (gZ ns)
theorem insI_perm(n:Int):∀ms,(insI n ms).Perm (n::ms)
 | []=>.refl _
 |m::ms=>by
  unfold insI
  split
  ·exact .refl _
  ·exact((insI_perm n ms).cons m).trans (.swap n m ms)
theorem Ũ:∀ns,(gZ ns).Perm ns
 | []=>.refl _
 |n::ns=>(insI_perm n _).trans ((Ũ ns).cons n)
theorem jF(n:Int):∀{ms:List Int},ms.Pairwise (·<= ·)->(insI n ms).Pairwise (·<= ·)
 | [],_=>by simp[insI]
 |m::ms,h=>by
  obtain⟨h1,h2⟩:=List.pairwise_cons.mp h
  unfold insI
  split
  ·rename_i hn
   refine List.pairwise_cons.mpr ⟨λx hx=>?_,h⟩
   rcases List.mem_cons.mp hx with rfl|hx
   ·exact hn
   ·exact Int.le_trans hn (h1 x hx)
  ·rename_i hn
   refine List.pairwise_cons.mpr ⟨λx hx=>?_,jF n h2⟩
   rcases List.mem_cons.mp ((insI_perm n ms).mem_iff.mp hx) with rfl|hx
   ·omega
   ·exact h1 x hx
theorem ů:∀ns,(gZ ns).Pairwise (·<= ·)
 | []=>.nil
 |n::ns=>jF n (ů ns)
theorem dR:∀{l m:List Int},l.Pairwise (·<= ·)->m.Pairwise (·<= ·)->l.Perm m->l=m
 | [],m,_,_,h=>(List.nil_perm.mp h).symm
 |a::l,[],_,_,h=>by simpa using h.length_eq
 |a::l,b::m,h1,h2,h=>by
  obtain⟨p1,p2⟩:=List.pairwise_cons.mp h1
  obtain⟨q1,q2⟩:=List.pairwise_cons.mp h2
  have ab:a=b:=by
   have m1:a∈b::m:=h.mem_iff.mp List.mem_cons_self
   have m2:b∈a::l:=h.mem_iff.mpr List.mem_cons_self
   rcases List.mem_cons.mp m1 with e|m1
   ·exact e
   ·rcases List.mem_cons.mp m2 with e|m2
    ·exact e.symm
    ·have:=p1 b m2
     have:=q1 a m1
     omega
  subst ab
  rw[dR p2 q2 (h.cons_inv)]
def bQ(kvs:List (DK×PV)):List Int:=kvs.filterMap λkv=>match kv.1 with
 | .inl i=>some i
 | .inr _=>none
theorem zx{K:KK}{F:Hp}:∀{kvs:List (DK×PV)} {ks:List (Key×V)},Paired (DG K F (Sum.inl:Int->DK) (Sum.inl:Int->Key)) kvs ks->ks.map (·.1)=(bQ kvs).map .inl/\(bQ kvs).length=kvs.length
 |_,_,.nil=>⟨rfl,rfl⟩
 |p::kvs,q::ks,.cons ⟨⟨i,r1,r2⟩,_⟩ t=>by
  obtain⟨h1,h2⟩:=zx t
  have e:bQ (p::kvs)=i::bQ kvs:=by
   unfold bQ
   rw[List.filterMap_cons,r1]
  rw[e,List.map_cons,List.map_cons,h1,r2]
  exact⟨rfl,by simp[h2]⟩
section
variable{X:Cx}{cm:String->Addr}{E:L2.St->XK}{pos:Pos}
theorem qu{K:KK}{F:Hp}:∀ms:List Int,Ć K F (ms.map .int) (ms.map V.int)
 | []=>Ć.nil
 |m::ms=>Ć.cons (by unfold Rep;rfl) (qu ms)
end
end P
namespace P
open PySem PySem.Spec PyProof.Rows L2 M2 M3 M4
section
variable{X:Cx}{cm:String->Addr}{E:L2.St->XK}{tg:Expr}{pos:Pos}
end
end P
namespace P
open PySem PySem.Spec PyProof.Rows L2 M2 M3 M4
def keyV:Value->Int
 | .int n _=>n
 |_=>0
section
variable{prog:Program}{w:World}{A:Around}{E:Value->Shared->Prop}{s:Shared}
end
end P
namespace P
open PySem PySem.Spec PyProof.Rows L2 M2 M3 M4
section
variable{prog:Program}{w:World}{A:Around}{E:Value->Shared->Prop}{s:Shared}{it a:Addr}{es:Array (Int×Value)}{ep:Nat}{t:SetTable}
end
end P
namespace P
open PySem PySem.Spec PyProof.Rows L2 M2 M3 M4
section
variable{prog:Program}{w:World}{A:Around}{E:Value->Shared->Prop}{s:Shared}{it a:Addr}{es:Array (Int×Value)}{ep:Nat}{t:SetTable}
end
end P
namespace P
open PySem PySem.Spec PyProof.Rows L2 M2 M3 M4
section
variable{prog:Program}{w:World}{A:Around}{E:Value->Shared->Prop}{s:Shared}{it a:Addr}{es:Array (Int×Value)}{ep:Nat}{t:SetTable}
end
end P
namespace P
open PySem PySem.Spec PyProof.Rows L2 M2 M3 M4
section
variable{prog:Program}{w:World}{A:Around}{E:Value->Shared->Prop}{s:Shared}{a:Addr}{es:Array (Int×Value)}{ep:Nat}{t:SetTable}
end
end P
namespace P
open PySem PySem.Spec PyProof.Rows L2 M2 M3 M4
section
variable{prog:Program}{w:World}{A:Around}{E:Value->Shared->Prop}{s:Shared}{a:Addr}{es:Array (Int×Value)}{ep:Nat}{t:SetTable}
end
end P
namespace P
open PySem PySem.Spec PyProof.Rows L2 M2 M3 M4
section
variable{X:Cx}{cm:String->Addr}{E:L2.St->XK}{l:Expr}{p pos p1 pos1:Pos}
def rK:∀{ws vs:List Value} {ns:List Int},ws.Perm vs->IntsAre vs ns->∃ms,IntsAre ws ms/\ms.Perm ns:=by
 intro ws vs ns h
 induction h generalizing ns with
 |nil=>intro hi;exact⟨ns,hi,.refl _⟩
 |cons x _ ih=>
  intro hi
  cases hi with
  |cons n t r=>obtain⟨ms,m1,m2⟩:=ih r;exact⟨n::ms,.cons n t m1,m2.cons n⟩
 |swap x y _=>
  intro hi
  cases hi with
  |cons n t r=>
   cases r with
   |cons m t2 r=>exact⟨m::n::_,.cons m t2 (.cons n t r),.swap _ _ _⟩
 |trans _ _ ih1 ih2=>
  intro hi
  obtain⟨ms,m1,m2⟩:=ih2 hi
  obtain⟨ks,k1,k2⟩:=ih1 m1
  exact⟨ks,k1,k2.trans m2⟩
end
end P
namespace jg
open PySem PyProof.Rows
abbrev SM:=StateT SortSt Sem
def aY:Bool->Keyed->Array Keyed->Nat->Nat->Nat->SM (Option Nat):=sortPriv% PySem.Builtin.gallop
abbrev GS:=Option (Option Nat)×Nat×Nat
def Kv(f:Nat->SM (Option Bool))(n lo hi:Nat):SM (Option Nat):=
 (forIn [:n] ((none,lo,hi):GS) fun _ q=>if q.2.1 ≥ q.2.2 then pure (ForInStep.done (none,q.2.1,q.2.2)) else f (q.2.1+(q.2.2-q.2.1) / 2) >>= fun r=>match r with
   |some c=>if c=true then pure (.yield (none,q.2.1+(q.2.2-q.2.1) / 2+1,q.2.2)) else pure (.yield (none,q.2.1,q.2.1+(q.2.2-q.2.1) / 2))
   |_=>pure (.done (some none,q.2.1,q.2.2))) >>= λq=>match q.1 with
   |some r=>pure r
   |none=>pure (some q.2.2)
def gR(f:Nat->SM (Option Bool))(n h:Nat):SM GS:=
 forIn [:n] ((none,0,1):GS) λ_ q=>if q.2.2 >= n-h then pure (.done (none,q.2.1,q.2.2)) else f (h+q.2.2) >>= λr=>match r with
  |some c=>if(!c)=true then pure (.done (none,q.2.1,q.2.2)) else pure (.yield (none,q.2.2,2*q.2.2+1))
  |_=>pure (.done (some none,q.2.1,q.2.2))
def gL(f:Nat->SM (Option Bool))(n h:Nat):SM GS:=
 forIn [:n] ((none,0,1):GS) λ_ q=>if q.2.2 >= h+1 then pure (.done (none,q.2.1,q.2.2)) else f (h-q.2.2) >>= λr=>match r with
  |some c=>if c=true then pure (.done (none,q.2.1,q.2.2)) else pure (.yield (none,q.2.2,2*q.2.2+1))
  |_=>pure (.done (some none,q.2.1,q.2.2))
def gal(f:Nat->SM (Option Bool))(n h:Nat):SM (Option Nat):=
 f h >>= fun r=>match r with
   |some c=>if c=true then gR f n h >>= fun q=>(match q.1 with
     |some r=>pure r
     |none=>Kv f n (h+q.2.1+1) (h+min q.2.2 (n-h)))
    else gL f n h >>= λq=>(match q.1 with
     |some r=>pure r
     |none=>Kv f n (h+1-min q.2.2 (h+1)) (h-q.2.1))
   |_=>pure none
def bey(left:Bool)(k:Keyed)(arr:Array Keyed)(base:Nat)(i:Nat):SM (Option Bool):=
 elem' arr (base+i) >>= λx=>if left=true then lt' x k else lt' k x >>= λr=>pure (r.map (!·))
def BL(left:Bool)(k:Keyed)(arr:Array Keyed)(base n h:Nat):aY left k arr base n h=gal (bey left k arr base) n h:=by kernel_rfl
section
variable{M:Model}{A:Around}{E:Value->Shared->Prop}{s:Shared}{st:SortSt}{f:Nat->SM (Option Bool)}{b:Nat->Bool}{n h:Nat}
structure Cut(b:Nat->Bool)(n r:Nat):Prop where
 le:r<=n
 yes:∀i,i<r->b i=true
 no:∀i,r<=i->i<n->b i=false
def zy{lo hi:Nat}{Q:Option Nat->SortSt->Prop}(hf:∀i,i<n->∀Q:Option Bool->SortSt->Prop,Q (some (b i)) st->wpS M A E s (f i) Q st)(mono:∀i j,i<=j->j<n->b j=true->b i=true)
 (h1:lo<=hi)(h2:hi<=n)(h3:∀i,i<lo->b i=true)(h4:∀i,hi<=i->i<n->b i=false)(h:∀r,Cut b n r->Q (some r) st):wpS M A E s (Kv f n lo hi) Q st:=by
 unfold Kv
 refine wpS_bind (wpS_mono (wpS_forRange (I:=λx c st'=>st'=st/\∃lo hi,c=(none,lo,hi)/\lo<=hi/\hi<=n/\hi-lo<=n-x/\(∀i,i<lo->b i=true)/\(∀i,hi<=i->i<n->b i=false)) (Q:=λc st'=>st'=st/\∃r,c=(none,r,r)/\Cut b n r) ?step ?fin ⟨rfl,lo,hi,rfl,h1,h2,by omega,h3,h4⟩) ?post)
 case fin=>
  rintro c st' ⟨rfl,lo,hi,rfl,a1,a2,a3,a4,a5⟩
  have e:lo=hi:=by omega
  subst e
  exact⟨rfl,lo,rfl,a2,a4,a5⟩
 case step=>
  rintro x c st' _ hx ⟨rfl,lo,hi,rfl,a1,a2,a3,a4,a5⟩
  dsimp only
  by_cases hl:lo >= hi
  ·rw[if_pos hl]
   have e:lo=hi:=by omega
   subst e
   exact wpS_pure ⟨rfl,lo,rfl,a2,a4,a5⟩
  ·rw[if_neg hl]
   refine wpS_bind (hf _ (by omega) _ ?_)
   dsimp only
   cases hb:b (lo+(hi-lo) / 2) with
   |true=>
    rw[if_pos rfl]
    refine wpS_pure ⟨rfl,_,_,rfl,by omega,a2,by omega,λi hi'=>mono i _ (by omega) (by omega) hb,a5⟩
   |false=>
    rw[if_neg Bool.false_ne_true]
    refine wpS_pure ⟨rfl,_,_,rfl,by omega,by omega,by omega,a4,λi hi' hn=>?_⟩
    cases hc:b i with
    |false=>rfl
    |true=>rw[mono _ i hi' hn hc] at hb;cases hb
 case post=>
  rintro c st' ⟨rfl,r,rfl,hc⟩
  exact wpS_pure (h r hc)
def Ue{Q:Option Nat->SortSt->Prop}(hf:∀i,i<n->∀Q:Option Bool->SortSt->Prop,Q (some (b i)) st->wpS M A E s (f i) Q st)(mono:∀i j,i<=j->j<n->b j=true->b i=true)
 (hn:h<n)(hq:∀r,Cut b n r->Q (some r) st):wpS M A E s (gal f n h) Q st:=by
 have YQ:∀i j,i<=j->j<n->b i=false->b j=false:=λi j z1 z2 z3=>by
  cases hc:b j with
  |false=>rfl
  |true=>rw[mono i j z1 z2 hc] at z3;cases z3
 unfold gal
 refine wpS_bind (hf h hn _ ?_)
 dsimp only
 cases hb:b h with
 |true=>
  rw[if_pos rfl]
  unfold gR
  refine wpS_bind (wpS_mono (wpS_forRange (I:=λx c st'=>st'=st/\∃lo ofs,c=(none,lo,ofs)/\lo<ofs/\x+1<=ofs/\lo<n-h/\b (h+lo)=true) (Q:=λc st'=>st'=st/\∃lo ofs,c=(none,lo,ofs)/\lo<ofs/\lo<n-h/\b (h+lo)=true/\(ofs<n-h->b (h+ofs)=false)) ?step ?fin ⟨rfl,0,1,rfl,by omega,by omega,by omega,hb⟩) ?post)
  case fin=>
   rintro c st' ⟨rfl,lo,ofs,rfl,a1,a2,a3,a4⟩
   exact⟨rfl,lo,ofs,rfl,a1,a3,a4,λz=>by omega⟩
  case step=>
   rintro x c st' _ hx ⟨rfl,lo,ofs,rfl,a1,a2,a3,a4⟩
   dsimp only
   by_cases hl:ofs >= n-h
   ·rw[if_pos hl]
    exact wpS_pure ⟨rfl,lo,ofs,rfl,a1,a3,a4,λz=>by omega⟩
   ·rw[if_neg hl]
    refine wpS_bind (hf _ (by omega) _ ?_)
    dsimp only
    cases hc:b (h+ofs) with
    |true=>
     rw[if_neg (by simp)]
     exact wpS_pure ⟨rfl,ofs,_,rfl,by omega,by omega,by omega,hc⟩
    |false=>
     rw[if_pos (show(!false)=true from rfl)]
     exact wpS_pure ⟨rfl,lo,ofs,rfl,a1,a3,a4,λ_=>hc⟩
  case post=>
   rintro c st' ⟨rfl,lo,ofs,rfl,a1,a2,a3,a4⟩
   dsimp only
   refine zy hf mono (by omega) (by omega) (λi hi=>mono i _ (by omega) (by omega) a3) (λi hi hin=>?_) hq
   by_cases hz:ofs<n-h
   ·exact YQ _ i (by omega) hin (a4 hz)
   ·omega
 |false=>
  rw[if_neg Bool.false_ne_true]
  unfold gL
  refine wpS_bind (wpS_mono (wpS_forRange (I:=λx c st'=>st'=st/\∃lo ofs,c=(none,lo,ofs)/\lo<ofs/\x+1<=ofs/\lo<=h/\b (h-lo)=false) (Q:=λc st'=>st'=st/\∃lo ofs,c=(none,lo,ofs)/\lo<ofs/\lo<=h/\b (h-lo)=false/\(ofs<=h->b (h-ofs)=true)) ?step ?fin ⟨rfl,0,1,rfl,by omega,by omega,by omega,hb⟩) ?post)
  case fin=>
   rintro c st' ⟨rfl,lo,ofs,rfl,a1,a2,a3,a4⟩
   exact⟨rfl,lo,ofs,rfl,a1,a3,a4,λz=>by omega⟩
  case step=>
   rintro x c st' _ hx ⟨rfl,lo,ofs,rfl,a1,a2,a3,a4⟩
   dsimp only
   by_cases hl:ofs >= h+1
   ·rw[if_pos hl]
    exact wpS_pure ⟨rfl,lo,ofs,rfl,a1,a3,a4,λz=>by omega⟩
   ·rw[if_neg hl]
    refine wpS_bind (hf _ (by omega) _ ?_)
    dsimp only
    cases hc:b (h-ofs) with
    |true=>
     rw[if_pos rfl]
     exact wpS_pure ⟨rfl,lo,ofs,rfl,a1,a3,a4,λ_=>hc⟩
    |false=>
     rw[if_neg Bool.false_ne_true]
     exact wpS_pure ⟨rfl,ofs,_,rfl,by omega,by omega,by omega,hc⟩
  case post=>
   rintro c st' ⟨rfl,lo,ofs,rfl,a1,a2,a3,a4⟩
   dsimp only
   refine zy hf mono (by omega) (by omega) (λi hi=>?_) (λi hi hin=>YQ _ i (by omega) hin a3) hq
   by_cases hz:ofs<=h
   ·exact mono i _ (by omega) (by omega) (a4 hz)
   ·omega
end
end jg
namespace jg
open PySem PyProof.Rows
def dF(k:Keyed->Int)(l:List Keyed):Prop:=l.Pairwise λx y=>k x<=k y
def dF.app{k:Keyed->Int}{l m:List Keyed}(h1:dF k l)(h2:dF k m)(h:∀x∈l,∀y∈m,k x<=k y):dF k (l++m):=List.pairwise_append.mpr ⟨h1,h2,h⟩
structure MI(k:Keyed->Int)(N out ra rb:List Keyed):Prop where
 perm:(out++ra++rb).Perm N
 so:dF k out
 sa:dF k ra
 sb:dF k rb
 oa:∀x∈out,∀y∈ra,k x<=k y
 ob:∀x∈out,∀y∈rb,k x<=k y
section
variable{k:Keyed->Int}{N out ra rb p r:List Keyed}
def MI.u_(h:MI k N out (p++r) rb)(hp:∀x∈p,∀y∈rb,k x<=k y):MI k N (out++p) r rb:=by
 obtain⟨h1,h2,h3⟩:=List.pairwise_append.mp h.sa
 refine⟨?_,h.so.app h1 λx hx y hy=>h.oa x hx y (List.mem_append_left _ hy),h2,h.sb,λx hx y hy=>?_,λx hx y hy=>?_⟩
 ·have:=h.perm
  simpa[List.append_assoc] using this
 ·rcases List.mem_append.mp hx with z|z
  ·exact h.oa x z y (List.mem_append_right _ hy)
  ·exact h3 x z y hy
 ·rcases List.mem_append.mp hx with z|z
  ·exact h.ob x z y hy
  ·exact hp x z y hy
def MI.vd(h:MI k N out ra (p++r))(hp:∀x∈p,∀y∈ra,k x<=k y):MI k N (out++p) ra r:=by
 obtain⟨h1,h2,h3⟩:=List.pairwise_append.mp h.sb
 refine⟨?_,h.so.app h1 λx hx y hy=>h.ob x hx y (List.mem_append_left _ hy),h.sa,h2,λx hx y hy=>?_,λx hx y hy=>?_⟩
 ·refine List.Perm.trans ?_ h.perm
  rw[List.append_assoc,List.append_assoc,List.append_assoc]
  refine List.Perm.append_left _ ?_
  rw[<-List.append_assoc,<-List.append_assoc]
  exact List.perm_append_comm.append_right _
 ·rcases List.mem_append.mp hx with z|z
  ·exact h.oa x z y hy
  ·exact hp x z y hy
 ·rcases List.mem_append.mp hx with z|z
  ·exact h.ob x z y (List.mem_append_right _ hy)
  ·exact h3 x z y hy
def Good(k:Keyed->Int)(N:List Keyed)(l:List Keyed):Prop:=l.Perm N/\dF k l
def MI.FT(h:MI k N out ra []):Good k N (out++ra ++ []):=⟨h.perm,by rw[List.append_nil];exact h.so.app h.sa h.oa⟩
def MI.FW(h:MI k N out [] rb):Good k N (out ++ []++rb):=⟨h.perm,by rw[List.append_nil];exact h.so.app h.sb h.ob⟩
def MI.YS(h:MI k N out ra rb)(hl:∀y∈rb,∀x∈ra,k y<=k x):Good k N (out++rb++ra):=by
 refine⟨List.Perm.trans ?_ h.perm,(h.so.app h.sb h.ob).app h.sa λx hx y hy=>?_⟩
 ·rw[List.append_assoc,List.append_assoc]
  exact List.Perm.append_left _ List.perm_append_comm
 ·rcases List.mem_append.mp hx with z|z
  ·exact h.oa x z y hy
  ·exact hl x z y hy
end
def dU{a:Array Keyed}{i:Nat}(h:i<a.size):a.toList.drop i=a[i]::a.toList.drop (i+1):=by
 rw[List.drop_eq_getElem_cons (by simpa using h)]
 simp
def ſ(a:Array Keyed)(i j:Nat):(a.extract i j).toList=(a.toList.drop i).take (j-i):=by
 rw[Array.toList_extract]
 first|done|simp[List.extract_eq_take_drop]
def lE(a:Array Keyed)(i:Nat):(a.extract i a.size).toList=a.toList.drop i:=by
 rw[ſ,List.take_of_length_le (by simp)]
def nq(l:List Keyed)(i m:Nat):l.drop i=(l.drop i).take m++l.drop (i+m):=by
 conv=>lhs;rw[<-List.take_append_drop m (l.drop i)]
 rw[List.drop_drop]
section
variable{prog:Program}{w:World}{A:Around}{E:Value->Shared->Prop}{s:Shared}{st:SortSt}{κ:SortKind}{k:Keyed->Int}{D:Keyed->Prop}
def jh(prog:Program)(w:World)(A:Around)(s:Shared)(κ:SortKind)(k:Keyed->Int)(D:Keyed->Prop):Prop:=
 ∀x y,D x->D y->∀(Q:Bool->Shared->Prop) (E:Value->Shared->Prop),Q (decide (k x<k y)) s->wpAny (model prog w) A (keyLt' κ x.1 y.1) Q E s
def w_lt(hc:jh prog w A s κ k D)(hk:kindOf st=κ){x y:Keyed}(hx:D x)(hy:D y){Q:Option Bool->SortSt->Prop}(h:Q (some (decide (k x<k y))) st):wpS (model prog w) A E s (lt' x y) Q st:=by
 rw[lt'_eq]
 refine wpS_bind (wpS_get ?_)
 rw[hk]
 refine wpS_bind (wpS_lift (wpAny_attempt (hc x y hx hy _ _ ⟨rfl,?_⟩)))
 exact wpS_pure h
def Ļ{arr:Array Keyed}{i:Nat}(hi:i<arr.size){Q:Keyed->SortSt->Prop}(h:Q arr[i] st):wpS (model prog w) A E s (elem' arr i) Q st:=by
 rw[elem'_eq,Array.getElem?_eq_getElem hi]
 exact wpS_pure h
def qw(hc:jh prog w A s κ k D)(hk:kindOf st=κ){left:Bool}{y:Keyed}{arr:Array Keyed}{base n h:Nat}{Q:Option Nat->SortSt->Prop}(hy:D y)(ha:∀x∈arr.toList,D x)(hz:base+n<=arr.size)(hn:h<n)(hs:dF k ((arr.toList.drop base).take n))
 (hq:∀r,r<=n->(∀x∈(arr.toList.drop base).take r,if left=true then k x<k y else k x<=k y)->(∀x∈((arr.toList.drop base).take n).drop r,if left=true then k y<=k x else k y<k x)->Q (some r) st):wpS (model prog w) A E s (aY left y arr base n h) Q st:=by
 rw[BL]
 have at_:∀i (hi:i<n),((arr.toList.drop base).take n)[i]?=some (arr[base+i]'(by omega)):=λi hi=>by
  rw[List.getElem?_take_of_lt hi,List.getElem?_drop,Array.getElem?_toList,Array.getElem?_eq_getElem (by omega)]
 let b:Nat->Bool:=λi=>match arr[base+i]? with
  |some x=>if left=true then decide (k x<k y) else !decide (k y<k x)
  |none=>false
 have bi:∀i (hi:i<n),b i=if left=true then decide (k (arr[base+i]'(by omega))<k y) else !decide (k y<k (arr[base+i]'(by omega))):=λi hi=>by
  show(match arr[base+i]? with|some x=>if left=true then decide (k x<k y) else !decide (k y<k x)|none=>false)=_
  rw[Array.getElem?_eq_getElem (by omega)]
 have le:∀i j (hij:i<=j) (hj:j<n),k (arr[base+i]'(by omega))<=k (arr[base+j]'(by omega)):=λi j hij hj=>by
  by_cases e:i=j
  ·subst e;exact Int.le_refl _
  ·obtain⟨i1,i2⟩:=List.getElem?_eq_some_iff.mp (at_ i (by omega))
   obtain⟨j1,j2⟩:=List.getElem?_eq_some_iff.mp (at_ j hj)
   have:=List.pairwise_iff_getElem.mp hs i j i1 j1 (by omega)
   rw[i2,j2] at this
   exact this
 refine Ue (b:=b) (λi hi Q' h'=>?_) (λi j hij hj hb=>?_) hn (λr hr=>?_)
 ·unfold bey
  rw[bi i hi] at h'
  have hD:D (arr[base+i]'(by omega)):=ha _ (by simp)
  refine wpS_bind (Ļ (by omega) ?_)
  cases left with
  |true=>rw[if_pos rfl] at h' ⊢;exact w_lt hc hk hD hy h'
  |false=>rw[if_neg Bool.false_ne_true] at h' ⊢;exact wpS_bind (w_lt hc hk hy hD (wpS_pure h'))
 ·rw[bi j hj] at hb
  rw[bi i (by omega)]
  have:=le i j hij hj
  cases left with
  |true=>simp at hb ⊢;omega
  |false=>simp at hb ⊢;omega
 ·refine hq r hr.le (λx hx=>?_) (λx hx=>?_)
  ·obtain⟨i,hi⟩:=List.getElem?_of_mem hx
   have hir:i<r:=by have:=(List.getElem?_eq_some_iff.mp hi).1;simp at this;omega
   have hin:i<n:=by have:=hr.le;omega
   rw[List.getElem?_take_of_lt hir,<-List.getElem?_take_of_lt hin,at_ i hin] at hi
   cases hi
   have:=hr.yes i hir
   rw[bi i hin] at this
   cases left with
   |true=>simpa using this
   |false=>simp at this ⊢;omega
  ·obtain⟨i,hi⟩:=List.getElem?_of_mem hx
   rw[List.getElem?_drop] at hi
   have hin:r+i<n:=by have:=(List.getElem?_eq_some_iff.mp hi).1;simp at this;omega
   rw[at_ _ hin] at hi
   cases hi
   have:=hr.no (r+i) (by omega) hin
   rw[bi _ hin] at this
   cases left with
   |true=>simp at this ⊢;omega
   |false=>simp at this ⊢;omega
end
end jg
namespace jg
open PySem PyProof.Rows
def nA:Array Keyed->Array Keyed->SM (Array Keyed):=sortPriv% PySem.Builtin.mergeLo
def qz:Nat->SM Unit:=sortPriv% PySem.Builtin.setMinGallop
abbrev OA:=Option (Array Keyed)
abbrev S1:=OA×Array Keyed×Nat×Nat×Nat×Nat
abbrev S2:=OA×Array Keyed×Nat×Nat×Nat×Nat×Nat
abbrev S3:=OA×Array Keyed×Nat×Nat×Nat
section
variable(a b:Array Keyed)
def dn(o:Array Keyed)(i j:Nat):Array Keyed:=o++a.extract i a.size++b.extract j b.size
def la(o:Array Keyed)(i j:Nat):Array Keyed:=o++b.extract j b.size++a.extract i a.size
def lo1(g:Nat)(q:S1):SM (ForInStep S1):=
 elem' b q.2.2.2.1 >>= λy=>elem' a q.2.2.1 >>= λx=>lt' y x >>= λr=>match r with
  |some c=>if c=true then elem' b q.2.2.2.1 >>= fun y=>
    (if(q.2.2.2.1+1== b.size)=true then pure (.done (some (dn a b (q.2.1.push y) q.2.2.1 (q.2.2.2.1+1)),q.2.1.push y,q.2.2.1,q.2.2.2.1+1,0,q.2.2.2.2.2+1))
     else if q.2.2.2.2.2+1 >= g then pure (.done (none,q.2.1.push y,q.2.2.1,q.2.2.2.1+1,0,q.2.2.2.2.2+1)) else pure (.yield (none,q.2.1.push y,q.2.2.1,q.2.2.2.1+1,0,q.2.2.2.2.2+1)))
   else elem' a q.2.2.1 >>= λx=>
    (if(q.2.2.1+1+1== a.size)=true then pure (.done (some (la a b (q.2.1.push x) (q.2.2.1+1) q.2.2.2.1),q.2.1.push x,q.2.2.1+1,q.2.2.2.1,q.2.2.2.2.1+1,0))
     else if q.2.2.2.2.1+1 >= g then pure (.done (none,q.2.1.push x,q.2.2.1+1,q.2.2.2.1,q.2.2.2.2.1+1,0)) else pure (.yield (none,q.2.1.push x,q.2.2.1+1,q.2.2.2.1,q.2.2.2.2.1+1,0)))
  |_=>pure (.done (some (dn a b q.2.1 q.2.2.1 q.2.2.2.1),q.2.1,q.2.2.1,q.2.2.2.1,q.2.2.2.2.1,q.2.2.2.2.2))
def loC(g na nb:Nat)(i:Nat)(o:Array Keyed)(j:Nat):SM (ForInStep S2):=
 elem' a i >>= λx=>if(i+1+1== a.size)=true then pure (.done (some (la a b (o.push x) (i+1) j),o.push x,i+1,j,g,na,nb))
  else if(decide (na<7) && decide (nb<7))=true then pure (.done (none,o.push x,i+1,j,g,na,nb)) else pure (.yield (none,o.push x,i+1,j,g,na,nb))
def loB(g na nb0:Nat)(j:Nat)(o:Array Keyed)(i:Nat):SM (ForInStep S2):=
 elem' b j >>= λy=>if(j+1== b.size)=true then pure (.done (some (dn a b (o.push y) i (j+1)),o.push y,i,j+1,g,na,nb0))
  else elem' a i >>= λx=>aY true x b (j+1) (b.size-(j+1)) 0 >>= λr=>match r with
   |some m=>if m>0 then(if(j+1+m== b.size)=true then pure (.done (some (dn a b (o.push y++b.extract (j+1) (j+1+m)) i (j+1+m)),o.push y++b.extract (j+1) (j+1+m),i,j+1+m,g,na,m)) else loC a b g na m i (o.push y++b.extract (j+1) (j+1+m)) (j+1+m))
    else loC a b g na m i (o.push y) (j+1)
   |_=>pure (.done (some (dn a b (o.push y) i (j+1)),o.push y,i,j+1,g,na,nb0))
def Wi(q:S2)(g:Nat):SM (ForInStep S2):=
 qz g >>= λ_=>elem' b q.2.2.2.1 >>= λy=>aY false y a q.2.2.1 (a.size-q.2.2.1) 0 >>= λr=>match r with
  |some m=>if m>0 then(if(q.2.2.1+m+1== a.size)=true then pure (.done (some (la a b (q.2.1++a.extract q.2.2.1 (q.2.2.1+m)) (q.2.2.1+m) q.2.2.2.1),q.2.1++a.extract q.2.2.1 (q.2.2.1+m),q.2.2.1+m,q.2.2.2.1,g,m,q.2.2.2.2.2.2))
    else if(q.2.2.1+m== a.size)=true then pure (.done (some (dn a b (q.2.1++a.extract q.2.2.1 (q.2.2.1+m)) (q.2.2.1+m) q.2.2.2.1),q.2.1++a.extract q.2.2.1 (q.2.2.1+m),q.2.2.1+m,q.2.2.2.1,g,m,q.2.2.2.2.2.2))
    else loB a b g m q.2.2.2.2.2.2 q.2.2.2.1 (q.2.1++a.extract q.2.2.1 (q.2.2.1+m)) (q.2.2.1+m))
   else loB a b g m q.2.2.2.2.2.2 q.2.2.2.1 q.2.1 q.2.2.1
  |_=>pure (.done (some (dn a b q.2.1 q.2.2.1 q.2.2.2.1),q.2.1,q.2.2.1,q.2.2.2.1,g,q.2.2.2.2.2.1,q.2.2.2.2.2.2))
def lo2(q:S2):SM (ForInStep S2):=if q.2.2.2.2.1>1 then Wi a b q (q.2.2.2.2.1-1) else Wi a b q q.2.2.2.2.1
def lo3(q:S3):SM (ForInStep S3):=
 (forIn [:a.size+b.size] ((none,q.2.1,q.2.2.1,q.2.2.2.1,0,0):S1) fun _ p=>lo1 a b q.2.2.2.2 p) >>= fun p=>match p.1 with
   |some r=>pure (.done (some r,p.2.1,p.2.2.1,p.2.2.2.1,q.2.2.2.2))
   |none=>liftM (rule "list.sort.gallop") >>= λ_=>(forIn [:a.size+b.size] ((none,p.2.1,p.2.2.1,p.2.2.2.1,q.2.2.2.2+1,p.2.2.2.2.1,p.2.2.2.2.2):S2) λ_ z=>lo2 a b z) >>= λz=>match z.1 with
    |some r=>pure (.done (some r,z.2.1,z.2.2.1,z.2.2.2.1,z.2.2.2.2.1))
    |none=>qz (z.2.2.2.2.1+1) >>= λ_=>pure (.yield (none,z.2.1,z.2.2.1,z.2.2.2.1,z.2.2.2.2.1+1))
def mlo:SM (Array Keyed):=
 liftM (rule "list.sort.merge-lo") >>= λ_=>elem' b 0 >>= λy=>if(1== b.size)=true then pure (dn a b #[y] 0 1) else if(0+1== a.size)=true then pure (la a b #[y] 0 1)
  else get >>= λst=>(forIn [:a.size+b.size] ((none,#[y],0,1,gallopOf st):S3) λ_ q=>lo3 a b q) >>= λq=>match q.1 with
   |some r=>pure r
   |none=>liftM (unsupported "internal:list.sort.merge-bound")
end
def Ug(a b:Array Keyed):nA a b=mlo a b:=by kernel_rfl
end jg
namespace jg
open PySem PyProof.Rows
def Kw(g:Nat):qz g=modify λs=>SortSt.mk' (kindOf s) (arrOf s) (pendingOf s) g (failedOf s):=by kernel_rfl
structure Sv(st st':SortSt):Prop where
 kind:kindOf st'=kindOf st
 arr:arrOf st'=arrOf st
 pend:pendingOf st'=pendingOf st
 fail:failedOf st'=failedOf st
def Sv.refl(st:SortSt):Sv st st:=⟨rfl,rfl,rfl,rfl⟩
theorem Sv.trans{a b c:SortSt}(h:Sv a b)(g:Sv b c):Sv a c:=⟨g.kind.trans h.kind,g.arr.trans h.arr,g.pend.trans h.pend,g.fail.trans h.fail⟩
section
variable{prog:Program}{w:World}{A:Around}{E:Value->Shared->Prop}{s:Shared}{st:SortSt}{κ:SortKind}{k:Keyed->Int}{D:Keyed->Prop}{a b o:Array Keyed}{N:List Keyed}{i j g m na nb:Nat}
def rM{Q:Unit->SortSt->Prop}(h:∀st',Sv st st'->Q () st'):wpS (model prog w) A E s (qz g) Q st:=by
 rw[Kw]
 exact wpS_modify (h _ ⟨rfl,rfl,rfl,rfl⟩)
def ji{x:String}{Q:PUnit->SortSt->Prop}(h:Q ⟨⟩ st):wpS (model prog w) A E s (liftM (rule x):SM PUnit) Q st:=wpS_lift (wpAny_rule ⟨rfl,h⟩)
structure tU(k:Keyed->Int)(N:List Keyed)(a b o:Array Keyed)(i j:Nat):Prop where
 ia:i+1<a.size
 jb:j<b.size
 mi:MI k N o.toList (a.toList.drop i) (b.toList.drop j)
def Nb(a b o:Array Keyed)(i j:Nat):(dn a b o i j).toList=o.toList++a.toList.drop i++b.toList.drop j:=by
 unfold dn
 rw[Array.toList_append,Array.toList_append,lE,lE]
def YT(a b o:Array Keyed)(i j:Nat):(la a b o i j).toList=o.toList++b.toList.drop j++a.toList.drop i:=by
 unfold la
 rw[Array.toList_append,Array.toList_append,lE,lE]
def Ky(h:MI k N o.toList (a.toList.drop i) (b.toList.drop j))(hj:j=b.size):Good k N (dn a b o i j).toList:=by
 have e:b.toList.drop j=[]:=List.drop_eq_nil_of_le (by simp[hj])
 rw[Nb,e]
 rw[e] at h
 exact h.FT
def Zc7(h:MI k N o.toList (a.toList.drop i) (b.toList.drop j))(hi:i=a.size):Good k N (dn a b o i j).toList:=by
 have e:a.toList.drop i=[]:=List.drop_eq_nil_of_le (by simp[hi])
 rw[Nb,e]
 rw[e] at h
 exact h.FW
def Kz(hL:∀y∈b.toList,∀x∈a.toList.drop (a.size-1),k y<=k x)(h:MI k N o.toList (a.toList.drop i) (b.toList.drop j))(hi:i+1=a.size):Good k N (la a b o i j).toList:=by
 rw[YT]
 refine h.YS λy hy x hx=>hL y (List.mem_of_mem_drop hy) x ?_
 have:i=a.size-1:=by omega
 rw[<-this]
 exact hx
def Nf(h:MI k N o.toList (a.toList.drop i) (b.toList.drop j))(hi:i<a.size)(hle:∀y∈b.toList.drop j,k a[i]<=k y):MI k N (o.push a[i]).toList (a.toList.drop (i+1)) (b.toList.drop j):=by
 rw[Array.toList_push]
 rw[dU hi] at h
 exact MI.u_ (p:=[a[i]]) h λx hx y hy=>by rw[List.mem_singleton.mp hx];exact hle y hy
def FZ(h:MI k N o.toList (a.toList.drop i) (b.toList.drop j))(hj:j<b.size)(hle:∀x∈a.toList.drop i,k b[j]<=k x):MI k N (o.push b[j]).toList (a.toList.drop i) (b.toList.drop (j+1)):=by
 rw[Array.toList_push]
 rw[dU hj] at h
 exact MI.vd (p:=[b[j]]) h λx hx y hy=>by rw[List.mem_singleton.mp hx];exact hle y hy
def Ng(h:MI k N o.toList (a.toList.drop i) (b.toList.drop j))(hj:j<b.size):∀y∈b.toList.drop j,k b[j]<=k y:=by
 have:=h.sb
 rw[dU hj] at this ⊢
 intro y hy
 rcases List.mem_cons.mp hy with rfl|hy
 ·exact Int.le_refl _
 ·exact(List.pairwise_cons.mp this).1 y hy
def Nh(h:MI k N o.toList (a.toList.drop i) (b.toList.drop j))(hi:i<a.size):∀x∈a.toList.drop i,k a[i]<=k x:=by
 have:=h.sa
 rw[dU hi] at this ⊢
 intro y hy
 rcases List.mem_cons.mp hy with rfl|hy
 ·exact Int.le_refl _
 ·exact(List.pairwise_cons.mp this).1 y hy
def Uh(hc:jh prog w A s κ k D)(hk:kindOf st=κ)(ha:∀x∈a.toList,D x)(hb:∀x∈b.toList,D x)(hL:∀y∈b.toList,∀x∈a.toList.drop (a.size-1),k y<=k x)(h:tU k N a b o i j)(hm:m<=i+j) :
 wpS (model prog w) A E s (lo1 a b g (none,o,i,j,na,nb)) (λr st'=>st'=st/\match r with
  | .done q=>(∃r,q.1=some r/\Good k N r.toList)\/(q.1=none/\tU k N a b q.2.1 q.2.2.1 q.2.2.2.1/\m<=q.2.2.1+q.2.2.2.1)
  | .yield q=>q.1=none/\tU k N a b q.2.1 q.2.2.1 q.2.2.2.1/\m<=q.2.2.1+q.2.2.2.1) st:=by
 obtain⟨hi,hj,mi⟩:=h
 have hi':i<a.size:=by omega
 unfold lo1
 dsimp only
 refine wpS_bind (Ļ hj (wpS_bind (Ļ hi' (wpS_bind (w_lt hc hk (hb _ (by simp)) (ha _ (by simp)) ?_)))))
 dsimp only
 by_cases hw:k b[j]<k a[i]
 ·rw[decide_eq_true hw,if_pos rfl]
  refine wpS_bind (Ļ hj ?_)
  have zB:=FZ mi hj λx hx=>Int.le_trans (Int.le_of_lt hw) (Nh mi hi' x hx)
  by_cases he:j+1=b.size
  ·rw[if_pos (by simpa using he)]
   exact wpS_pure ⟨rfl,.inl ⟨_,rfl,Ky zB he⟩⟩
  ·rw[if_neg (by simpa using he)]
   have I2:tU k N a b (o.push b[j]) i (j+1):=⟨hi,by omega,zB⟩
   split
   ·exact wpS_pure ⟨rfl,.inr ⟨rfl,I2,by dsimp only;omega⟩⟩
   ·exact wpS_pure ⟨rfl,rfl,I2,by dsimp only;omega⟩
 ·rw[decide_eq_false hw,if_neg Bool.false_ne_true]
  refine wpS_bind (Ļ hi' ?_)
  have zB:=Nf mi hi' λy hy=>Int.le_trans (Int.not_lt.mp hw) (Ng mi hj y hy)
  by_cases he:i+1+1=a.size
  ·rw[if_pos (by simpa using he)]
   exact wpS_pure ⟨rfl,.inl ⟨_,rfl,Kz hL zB he⟩⟩
  ·rw[if_neg (by simpa using he)]
   have I2:tU k N a b (o.push a[i]) (i+1) j:=⟨by omega,hj,zB⟩
   split
   ·exact wpS_pure ⟨rfl,.inr ⟨rfl,I2,by dsimp only;omega⟩⟩
   ·exact wpS_pure ⟨rfl,rfl,I2,by dsimp only;omega⟩
def G2(k:Keyed->Int)(N:List Keyed)(a b:Array Keyed)(m:Nat)(r:ForInStep S2):Prop:=match r with
 | .done q=>(∃r,q.1=some r/\Good k N r.toList)\/(q.1=none/\tU k N a b q.2.1 q.2.2.1 q.2.2.2.1/\m<=q.2.2.1+q.2.2.2.1)
 | .yield q=>q.1=none/\tU k N a b q.2.1 q.2.2.1 q.2.2.2.1/\m<=q.2.2.1+q.2.2.2.1
def Ga(hL:∀y∈b.toList,∀x∈a.toList.drop (a.size-1),k y<=k x)(hi:i+1<a.size)(hj:j<b.size)(mi:MI k N o.toList (a.toList.drop i) (b.toList.drop j))(hx:∀y∈b.toList.drop j,k (a[i]'(by omega))<=k y)(hm:m<=i+1+j) :
 wpS (model prog w) A E s (loC a b g na nb i o j) (λr st'=>st'=st/\G2 k N a b m r) st:=by
 unfold loC
 refine wpS_bind (Ļ (by omega) ?_)
 have zB:=Nf mi (by omega) hx
 by_cases he:i+1+1=a.size
 ·rw[if_pos (by simpa using he)]
  exact wpS_pure ⟨rfl,.inl ⟨_,rfl,Kz hL zB he⟩⟩
 ·rw[if_neg (by simpa using he)]
  have I2:tU k N a b (o.push (a[i]'(by omega))) (i+1) j:=⟨by omega,hj,zB⟩
  split
  ·exact wpS_pure ⟨rfl,.inr ⟨rfl,I2,hm⟩⟩
  ·exact wpS_pure ⟨rfl,rfl,I2,hm⟩
def Gb(hc:jh prog w A s κ k D)(hk:kindOf st=κ)(ha:∀x∈a.toList,D x)(hb:∀x∈b.toList,D x)(hL:∀y∈b.toList,∀x∈a.toList.drop (a.size-1),k y<=k x)(hi:i+1<a.size)(hj:j<b.size)(mi:MI k N o.toList (a.toList.drop i) (b.toList.drop j))(hy:∀x∈a.toList.drop i,k b[j]<=k x)(hm:m<=i+j+1) :
 wpS (model prog w) A E s (loB a b g na nb j o i) (λr st'=>st'=st/\G2 k N a b m r) st:=by
 unfold loB
 refine wpS_bind (Ļ hj ?_)
 have zB:=FZ mi hj hy
 by_cases he:j+1=b.size
 ·rw[if_pos (by simpa using he)]
  exact wpS_pure ⟨rfl,.inl ⟨_,rfl,Ky zB he⟩⟩
 ·rw[if_neg (by simpa using he)]
  have hi':i<a.size:=by omega
  refine wpS_bind (Ļ hi' ?_)
  have ent:(b.toList.drop (j+1)).take (b.size-(j+1))=b.toList.drop (j+1):=List.take_of_length_le (by simp)
  refine wpS_bind (qw hc hk (ha _ (by simp)) hb (by omega) (by omega) (by rw[ent];exact zB.sb) λr hr c1 c2=>?_)
  simp only[if_true] at c1 c2
  rw[ent,List.drop_drop] at c2
  dsimp only
  by_cases hr0:r>0
  ·rw[if_pos hr0]
   have Wj:MI k N (o.push b[j]++b.extract (j+1) (j+1+r)).toList (a.toList.drop i) (b.toList.drop (j+1+r)):=by
    rw[Array.toList_append,ſ]
    have e:j+1+r-(j+1)=r:=by omega
    rw[e]
    have YW:=zB
    rw[nq b.toList (j+1) r] at YW
    exact YW.vd λy hy' x hx=>Int.le_trans (Int.le_of_lt (c1 y hy')) (Nh zB hi' x hx)
   by_cases he2:j+1+r=b.size
   ·rw[if_pos (by simpa using he2)]
    exact wpS_pure ⟨rfl,.inl ⟨_,rfl,Ky Wj he2⟩⟩
   ·rw[if_neg (by simpa using he2)]
    exact Ga hL hi (by omega) Wj c2 (by omega)
  ·rw[if_neg hr0]
   have e:r=0:=by omega
   subst e
   exact Ga hL hi (by omega) zB c2 (by omega)
def Ui(hc:jh prog w A s κ k D)(hk:kindOf st=κ)(ha:∀x∈a.toList,D x)(hb:∀x∈b.toList,D x)(hL:∀y∈b.toList,∀x∈a.toList.drop (a.size-1),k y<=k x)(h:tU k N a b o i j)(hm:m<=i+j+1){g0:Nat} :
 wpS (model prog w) A E s (Wi a b (none,o,i,j,g0,na,nb) g) (λr st'=>Sv st st'/\G2 k N a b m r) st:=by
 obtain⟨hi,hj,mi⟩:=h
 have hi':i<a.size:=by omega
 unfold Wi
 dsimp only
 refine wpS_bind (rM λst1 sv=>wpS_bind (Ļ hj ?_))
 have hk1:kindOf st1=κ:= sv.kind.trans hk
 have ent:(a.toList.drop i).take (a.size-i)=a.toList.drop i:=List.take_of_length_le (by simp)
 refine wpS_bind (qw hc hk1 (hb _ (by simp)) ha (by omega) (by omega) (by rw[ent];exact mi.sa) λr hr c1 c2=>?_)
 simp only[Bool.false_eq_true,if_false] at c1 c2
 rw[ent,List.drop_drop] at c2
 dsimp only
 by_cases hr0:r>0
 ·rw[if_pos hr0]
  have Wj:MI k N (o++a.extract i (i+r)).toList (a.toList.drop (i+r)) (b.toList.drop j):=by
   rw[Array.toList_append,ſ]
   have e:i+r-i=r:=by omega
   rw[e]
   have YW:=mi
   rw[nq a.toList i r] at YW
   exact YW.u_ λx hx y hy=>Int.le_trans (c1 x hx) (Ng mi hj y hy)
  by_cases he:i+r+1=a.size
  ·rw[if_pos (by simpa using he)]
   exact wpS_pure ⟨sv,.inl ⟨_,rfl,Kz hL Wj he⟩⟩
  ·rw[if_neg (by simpa using he)]
   by_cases he2:i+r=a.size
   ·rw[if_pos (by simpa using he2)]
    exact wpS_pure ⟨sv,.inl ⟨_,rfl,Zc7 Wj he2⟩⟩
   ·rw[if_neg (by simpa using he2)]
    exact wpS_mono (Gb hc hk1 ha hb hL (by omega) hj Wj (λx hx=>Int.le_of_lt (c2 x hx)) (by omega)) λr st' ⟨e,z⟩=>⟨e▸sv,z⟩
 ·rw[if_neg hr0]
  have e:r=0:=by omega
  subst e
  exact wpS_mono (Gb hc hk1 ha hb hL hi hj mi (λx hx=>Int.le_of_lt (c2 x hx)) hm) λr st' ⟨e,z⟩=>⟨e▸sv,z⟩
def Uj(hc:jh prog w A s κ k D)(hk:kindOf st=κ)(ha:∀x∈a.toList,D x)(hb:∀x∈b.toList,D x)(hL:∀y∈b.toList,∀x∈a.toList.drop (a.size-1),k y<=k x)(h:tU k N a b o i j)(hm:m<=i+j) :
 wpS (model prog w) A E s (lo3 a b (none,o,i,j,g)) (λr st'=>Sv st st'/\match r with
  | .done q=>∃r,q.1=some r/\Good k N r.toList
  | .yield q=>q.1=none/\tU k N a b q.2.1 q.2.2.1 q.2.2.2.1/\m+1<=q.2.2.1+q.2.2.2.1) st:=by
 unfold lo3
 dsimp only
 refine wpS_bind (wpS_mono (wpS_forRange (I:=λ_ (c:S1) st'=>st'=st/\c.1=none/\tU k N a b c.2.1 c.2.2.1 c.2.2.2.1/\m<=c.2.2.1+c.2.2.2.1) (Q:=λ(c:S1) st'=>st'=st/\((∃r,c.1=some r/\Good k N r.toList)\/(c.1=none/\tU k N a b c.2.1 c.2.2.1 c.2.2.2.1/\m<=c.2.2.1+c.2.2.2.1))) ?step ?fin ⟨rfl,rfl,h,hm⟩) ?post)
 case fin=>rintro c st' ⟨rfl,z⟩;exact⟨rfl,.inr z⟩
 case step=>
  rintro x ⟨c1,o',i',j',na',nb'⟩ st' _ _ ⟨rfl,rfl,h',hm'⟩
  refine wpS_mono (Uh hc hk ha hb hL h' hm') λr st2 ⟨e,z⟩=>?_
  subst e
  cases r with
  |done q=>exact⟨rfl,z⟩
  |yield q=>exact⟨rfl,z⟩
 case post=>
  rintro ⟨c1,o',i',j',na',nb'⟩ st' ⟨rfl,z⟩
  rcases z with⟨r,e,hg⟩|⟨e,h',hm'⟩
  ·dsimp only at e
   subst e
   exact wpS_pure ⟨Sv.refl _,r,rfl,hg⟩
  ·dsimp only at e h' hm'
   subst e
   refine wpS_bind (ji ?_)
   refine wpS_bind (wpS_mono (wpS_forRange (I:=λx (c:S2) st2=>Sv st' st2/\c.1=none/\tU k N a b c.2.1 c.2.2.1 c.2.2.2.1/\m+min x 1<=c.2.2.1+c.2.2.2.1) (Q:=λ(c:S2) st2=>Sv st' st2/\((∃r,c.1=some r/\Good k N r.toList)\/(c.1=none/\tU k N a b c.2.1 c.2.2.1 c.2.2.2.1/\m+1<=c.2.2.1+c.2.2.2.1))) ?vf ?fin2 ⟨Sv.refl _,rfl,h',by dsimp only;omega⟩) ?post2)
   case fin2=>
    rintro c st2 ⟨sv,z1,z2,z3⟩
    refine⟨sv,.inr ⟨z1,z2,?_⟩⟩
    have:=z2.ia
    rw[show min (max 0 (a.size+b.size)) 1=1 by omega] at z3
    exact z3
   case vf=>
    rintro x ⟨c1,o2,i2,j2,g2,Wk,Wm⟩ st2 _ _ ⟨sv,rfl,h2,hm2⟩
    dsimp only at h2 hm2
    have key:∀g',wpS (model prog w) A E s (Wi a b (none,o2,i2,j2,g2,Wk,Wm) g') (λr st3=>Sv st2 st3/\G2 k N a b (m+1) r) st2:=λg'=>Ui hc (sv.kind.trans hk) ha hb hL h2 (by omega)
    have fin:∀g',wpS (model prog w) A E s (Wi a b (none,o2,i2,j2,g2,Wk,Wm) g') _ st2:=λg'=>wpS_mono (key g') (Q':=λr st3=>match r with
     | .done c'=>Sv st' st3/\((∃r,c'.1=some r/\Good k N r.toList)\/(c'.1=none/\tU k N a b c'.2.1 c'.2.2.1 c'.2.2.2.1/\m+1<=c'.2.2.1+c'.2.2.2.1))
     | .yield c'=>Sv st' st3/\c'.1=none/\tU k N a b c'.2.1 c'.2.2.1 c'.2.2.2.1/\m+min (x+1) 1<=c'.2.2.1+c'.2.2.2.1) (by
     rintro r st3 ⟨Cw,z⟩
     cases r with
     |done q=>exact⟨sv.trans Cw,z⟩
     |yield q=>exact⟨sv.trans Cw,z.1,z.2.1,by rw[show min (x+1) 1=1 by omega];exact z.2.2⟩)
    unfold lo2
    dsimp only
    split
    ·refine wpS_mono (fin _) λr st3 z=>?_
     cases r<;>exact z
    ·refine wpS_mono (fin _) λr st3 z=>?_
     cases r<;>exact z
   case post2=>
    rintro ⟨c1,o2,i2,j2,g2,Wk,Wm⟩ st2 ⟨sv,z⟩
    rcases z with⟨r,e,hg⟩|⟨e,h2,hm2⟩
    ·dsimp only at e
     subst e
     exact wpS_pure ⟨sv,r,rfl,hg⟩
    ·dsimp only at e h2 hm2
     subst e
     exact wpS_bind (rM λst3 Cw=>wpS_pure ⟨sv.trans Cw,rfl,h2,hm2⟩)
def Uk{Q:Array Keyed->SortSt->Prop}(hc:jh prog w A s κ k D)(hk:kindOf st=κ)(ha:∀x∈a.toList,D x)(hb:∀x∈b.toList,D x)(sa:dF k a.toList)(sb:dF k b.toList)(h1:0<a.size)(h2:0<b.size)
 (hF:∀x∈a.toList,k b[0]<=k x)(hL:∀y∈b.toList,∀x∈a.toList.drop (a.size-1),k y<=k x)(hq:∀r st',Sv st st'->Good k (a.toList++b.toList) r.toList->Q r st'):wpS (model prog w) A E s (nA a b) Q st:=by
 rw[Ug]
 unfold mlo
 refine wpS_bind (ji (wpS_bind (Ļ h2 ?_)))
 have mi0:MI k (a.toList++b.toList) (#[]:Array Keyed).toList (a.toList.drop 0) (b.toList.drop 0):=⟨by simp,.nil,sa,sb,λx hx=>by simp at hx,λx hx=>by simp at hx⟩
 have mi:MI k (a.toList++b.toList) (#[b[0]]:Array Keyed).toList (a.toList.drop 0) (b.toList.drop 1):=FZ mi0 h2 (by simpa using hF)
 by_cases he:1=b.size
 ·rw[if_pos (by simpa using he)]
  exact wpS_pure (hq _ _ (Sv.refl _) (Ky mi he))
 ·rw[if_neg (by simpa using he)]
  by_cases he2:0+1=a.size
  ·rw[if_pos (by simpa using he2)]
   exact wpS_pure (hq _ _ (Sv.refl _) (Kz hL mi he2))
  ·rw[if_neg (by simpa using he2)]
   refine wpS_bind (wpS_get ?_)
   refine wpS_bind (wpS_mono (wpS_forRange (I:=λx (c:S3) st'=>Sv st st'/\c.1=none/\tU k (a.toList++b.toList) a b c.2.1 c.2.2.1 c.2.2.2.1/\x<=c.2.2.1+c.2.2.2.1) (Q:=λ(c:S3) st'=>Sv st st'/\∃r,c.1=some r/\Good k (a.toList++b.toList) r.toList) ?step ?fin ⟨Sv.refl _,rfl,⟨by dsimp only;omega,by dsimp only;omega,mi⟩,by omega⟩) ?post)
   case fin=>
    rintro c st' ⟨_,_,z,z2⟩
    have:=z.ia
    have:=z.jb
    omega
   case step=>
    rintro x ⟨c1,o',i',j',g'⟩ st' _ _ ⟨sv,rfl,h',hx⟩
    refine wpS_mono (Uj hc (sv.kind.trans hk) ha hb hL h' hx) λr st2 ⟨YX,z⟩=>?_
    cases r with
    |done q=>exact⟨sv.trans YX,z⟩
    |yield q=>exact⟨sv.trans YX,z⟩
   case post=>
    rintro ⟨c1,c2⟩ st' ⟨sv,r,e,hg⟩
    dsimp only at e
    subst e
    exact wpS_pure (hq r st' sv hg)
end
end jg
namespace jg
open PySem PyProof.Rows
def nC:Array Keyed->Array Keyed->SM (Array Keyed):=sortPriv% PySem.Builtin.mergeHi
abbrev T1:=OA×Nat×Nat×Array Keyed×Nat×Nat
abbrev T2:=OA×Nat×Nat×Array Keyed×Nat×Nat×Nat
abbrev T3:=OA×Nat×Nat×Array Keyed×Nat
section
variable(a b:Array Keyed)
def dh(o:Array Keyed)(i j:Nat):Array Keyed:=a.extract 0 i++b.extract 0 j++o.reverse
def fb(o:Array Keyed)(i j:Nat):Array Keyed:=b.extract 0 j++a.extract 0 i++o.reverse
def hi1(g:Nat)(q:T1):SM (ForInStep T1):=
 elem' b (q.2.2.1-1) >>= λy=>elem' a (q.2.1-1) >>= λx=>lt' y x >>= λr=>match r with
  |some c=>if c=true then elem' a (q.2.1-1) >>= fun x=>
    (if(q.2.1-1== 0)=true then pure (.done (some (dh a b (q.2.2.2.1.push x) (q.2.1-1) q.2.2.1),q.2.1-1,q.2.2.1,q.2.2.2.1.push x,q.2.2.2.2.1+1,0))
     else if q.2.2.2.2.1+1 >= g then pure (.done (none,q.2.1-1,q.2.2.1,q.2.2.2.1.push x,q.2.2.2.2.1+1,0)) else pure (.yield (none,q.2.1-1,q.2.2.1,q.2.2.2.1.push x,q.2.2.2.2.1+1,0)))
   else elem' b (q.2.2.1-1) >>= λy=>
    (if(q.2.2.1-1== 1)=true then pure (.done (some (fb a b (q.2.2.2.1.push y) q.2.1 (q.2.2.1-1)),q.2.1,q.2.2.1-1,q.2.2.2.1.push y,0,q.2.2.2.2.2+1))
     else if q.2.2.2.2.2+1 >= g then pure (.done (none,q.2.1,q.2.2.1-1,q.2.2.2.1.push y,0,q.2.2.2.2.2+1)) else pure (.yield (none,q.2.1,q.2.2.1-1,q.2.2.2.1.push y,0,q.2.2.2.2.2+1)))
  |_=>pure (.done (some (dh a b q.2.2.2.1 q.2.1 q.2.2.1),q.2.1,q.2.2.1,q.2.2.2.1,q.2.2.2.2.1,q.2.2.2.2.2))
def hiC(g na nb:Nat)(i j:Nat)(o:Array Keyed):SM (ForInStep T2):=
 elem' a (i-1) >>= λx=>if(i-1== 0)=true then pure (.done (some (dh a b (o.push x) (i-1) j),i-1,j,o.push x,g,na,nb))
  else if(decide (na<7) && decide (nb<7))=true then pure (.done (none,i-1,j,o.push x,g,na,nb)) else pure (.yield (none,i-1,j,o.push x,g,na,nb))
def hiB(g na nb0:Nat)(j i:Nat)(o:Array Keyed):SM (ForInStep T2):=
 elem' b (j-1) >>= λy=>if(j-1== 1)=true then pure (.done (some (fb a b (o.push y) i (j-1)),i,j-1,o.push y,g,na,nb0))
  else elem' a (i-1) >>= λx=>aY true x b 0 (j-1) (j-1-1) >>= λr=>match r with
   |some m=>if j-1-m>0 then(if(m== 1)=true then pure (.done (some (fb a b (o.push y++(b.extract m (j-1)).reverse) i m),i,m,o.push y++(b.extract m (j-1)).reverse,g,na,j-1-m))
     else if(m== 0)=true then pure (.done (some (dh a b (o.push y++(b.extract m (j-1)).reverse) i m),i,m,o.push y++(b.extract m (j-1)).reverse,g,na,j-1-m))
     else hiC a b g na (j-1-m) i m (o.push y++(b.extract m (j-1)).reverse))
    else hiC a b g na (j-1-m) i (j-1) (o.push y)
   |_=>pure (.done (some (dh a b (o.push y) i (j-1)),i,j-1,o.push y,g,na,nb0))
def YZ(q:T2)(g:Nat):SM (ForInStep T2):=
 qz g >>= λ_=>elem' b (q.2.2.1-1) >>= λy=>aY false y a 0 q.2.1 (q.2.1-1) >>= λr=>match r with
  |some m=>if q.2.1-m>0 then(if(m== 0)=true then pure (.done (some (dh a b (q.2.2.2.1++(a.extract m q.2.1).reverse) m q.2.2.1),m,q.2.2.1,q.2.2.2.1++(a.extract m q.2.1).reverse,g,q.2.1-m,q.2.2.2.2.2.2))
    else hiB a b g (q.2.1-m) q.2.2.2.2.2.2 q.2.2.1 m (q.2.2.2.1++(a.extract m q.2.1).reverse))
   else hiB a b g (q.2.1-m) q.2.2.2.2.2.2 q.2.2.1 q.2.1 q.2.2.2.1
  |_=>pure (.done (some (dh a b q.2.2.2.1 q.2.1 q.2.2.1),q.2.1,q.2.2.1,q.2.2.2.1,g,q.2.2.2.2.2.1,q.2.2.2.2.2.2))
def hi2(q:T2):SM (ForInStep T2):=if q.2.2.2.2.1>1 then YZ a b q (q.2.2.2.2.1-1) else YZ a b q q.2.2.2.2.1
def hi3(q:T3):SM (ForInStep T3):=
 (forIn [:a.size+b.size] ((none,q.2.1,q.2.2.1,q.2.2.2.1,0,0):T1) fun _ p=>hi1 a b q.2.2.2.2 p) >>= fun p=>match p.1 with
   |some r=>pure (.done (some r,p.2.1,p.2.2.1,p.2.2.2.1,q.2.2.2.2))
   |none=>liftM (rule "list.sort.gallop") >>= λ_=>(forIn [:a.size+b.size] ((none,p.2.1,p.2.2.1,p.2.2.2.1,q.2.2.2.2+1,p.2.2.2.2.1,p.2.2.2.2.2):T2) λ_ z=>hi2 a b z) >>= λz=>match z.1 with
    |some r=>pure (.done (some r,z.2.1,z.2.2.1,z.2.2.2.1,z.2.2.2.2.1))
    |none=>qz (z.2.2.2.2.1+1) >>= λ_=>pure (.yield (none,z.2.1,z.2.2.1,z.2.2.2.1,z.2.2.2.2.1+1))
def mhi:SM (Array Keyed):=
 liftM (rule "list.sort.merge-hi") >>= λ_=>elem' a (a.size-1) >>= λx=>if(a.size-1== 0)=true then pure (dh a b #[x] (a.size-1) b.size) else if(b.size== 1)=true then pure (fb a b #[x] (a.size-1) b.size)
  else get >>= λst=>(forIn [:a.size+b.size] ((none,a.size-1,b.size,#[x],gallopOf st):T3) λ_ q=>hi3 a b q) >>= λq=>match q.1 with
   |some r=>pure r
   |none=>liftM (unsupported "internal:list.sort.merge-bound")
end
def Ul(a b:Array Keyed):nC a b=mhi a b:=by kernel_rfl
structure MH(k:Keyed->Int)(N ra rb out:List Keyed):Prop where
 perm:(ra++rb++out).Perm N
 so:dF k out
 sa:dF k ra
 sb:dF k rb
 oa:∀x∈ra,∀y∈out,k x<=k y
 ob:∀x∈rb,∀y∈out,k x<=k y
section
variable{k:Keyed->Int}{N out ra rb p r:List Keyed}
def MH.u_(h:MH k N (r++p) rb out)(hp:∀y∈rb,∀x∈p,k y<=k x):MH k N r rb (p++out):=by
 obtain⟨h1,h2,h3⟩:=List.pairwise_append.mp h.sa
 refine⟨?_,dF.app h2 h.so λx hx y hy=>h.oa x (List.mem_append_right _ hx) y hy,h1,h.sb,λx hx y hy=>?_,λx hx y hy=>?_⟩
 ·refine List.Perm.trans ?_ h.perm
  rw[List.append_assoc,List.append_assoc,List.append_assoc]
  refine List.Perm.append_left _ ?_
  rw[<-List.append_assoc,<-List.append_assoc]
  exact List.perm_append_comm.append_right _
 ·rcases List.mem_append.mp hy with z|z
  ·exact h3 x hx y z
  ·exact h.oa x (List.mem_append_left _ hx) y z
 ·rcases List.mem_append.mp hy with z|z
  ·exact hp x hx y z
  ·exact h.ob x hx y z
def MH.vd(h:MH k N ra (r++p) out)(hp:∀x∈ra,∀y∈p,k x<=k y):MH k N ra r (p++out):=by
 obtain⟨h1,h2,h3⟩:=List.pairwise_append.mp h.sb
 refine⟨?_,dF.app h2 h.so λx hx y hy=>h.ob x (List.mem_append_right _ hx) y hy,h.sa,h1,λx hx y hy=>?_,λx hx y hy=>?_⟩
 ·have:=h.perm
  simpa[List.append_assoc] using this
 ·rcases List.mem_append.mp hy with z|z
  ·exact hp x hx y z
  ·exact h.oa x hx y z
 ·rcases List.mem_append.mp hy with z|z
  ·exact h3 x hx y z
  ·exact h.ob x (List.mem_append_left _ hx) y z
def MH.FW(h:MH k N [] rb out):Good k N ([]++rb++out):=⟨h.perm,by rw[List.nil_append];exact h.sb.app h.so h.ob⟩
def MH.FT(h:MH k N ra [] out):Good k N (ra ++ []++out):=⟨h.perm,by rw[List.append_nil];exact h.sa.app h.so h.oa⟩
def MH.Um(h:MH k N ra rb out)(hl:∀y∈rb,∀x∈ra,k y<=k x):Good k N (rb++ra++out):=by
 refine⟨List.Perm.trans (List.perm_append_comm.append_right _) h.perm,(h.sb.app h.sa hl).app h.so λx hx y hy=>?_⟩
 rcases List.mem_append.mp hx with z|z
 ·exact h.ob x z y hy
 ·exact h.oa x z y hy
end
def lF{a:Array Keyed}{i:Nat}(h:i<a.size):a.toList.take (i+1)=a.toList.take i ++ [a[i]]:=by
 rw[List.take_add_one,Array.getElem?_toList,Array.getElem?_eq_getElem h]
 rfl
def nD(l:List Keyed){i m:Nat}(h:m<=i):l.take i=l.take m++(l.drop m).take (i-m):=by
 have e:i=m+(i-m):=by omega
 conv=>lhs;rw[e,List.take_add]
section
variable{prog:Program}{w:World}{A:Around}{E:Value->Shared->Prop}{s:Shared}{st:SortSt}{κ:SortKind}{k:Keyed->Int}{D:Keyed->Prop}{a b o:Array Keyed}{N:List Keyed}{i j g m na nb:Nat}
abbrev nF(k:Keyed->Int)(N:List Keyed)(a b o:Array Keyed)(i j:Nat):Prop:=MH k N (a.toList.take i) (b.toList.take j) o.toList.reverse
structure vZ(k:Keyed->Int)(N:List Keyed)(a b o:Array Keyed)(i j:Nat):Prop where
 i0:0<i
 ia:i<=a.size
 j1:1<j
 jb:j<=b.size
 mh:nF k N a b o i j
def Ni(a b o:Array Keyed)(i j:Nat):(dh a b o i j).toList=a.toList.take i++b.toList.take j++o.toList.reverse:=by
 unfold dh
 rw[Array.toList_append,Array.toList_append,ſ,ſ,Array.toList_reverse]
 simp
def Y_(a b o:Array Keyed)(i j:Nat):(fb a b o i j).toList=b.toList.take j++a.toList.take i++o.toList.reverse:=by
 unfold fb
 rw[Array.toList_append,Array.toList_append,ſ,ſ,Array.toList_reverse]
 simp
def KC(h:nF k N a b o 0 j):Good k N (dh a b o 0 j).toList:=by
 rw[Ni]
 exact MH.FW h
def Zc8(h:nF k N a b o i 0):Good k N (dh a b o i 0).toList:=by
 rw[Ni]
 exact MH.FT h
def KD(hF:∀y∈b.toList.take 1,∀x∈a.toList,k y<=k x)(h:nF k N a b o i 1):Good k N (fb a b o i 1).toList:=by
 rw[Y_]
 exact MH.Um h λy hy x hx=>hF y hy x (List.mem_of_mem_take hx)
def xr(h:nF k N a b o (i+1) j)(hi:i<a.size)(hle:∀y∈b.toList.take j,k y<=k a[i]):nF k N a b (o.push a[i]) i j:=by
 unfold nF
 rw[Array.toList_push,List.reverse_append]
 unfold nF at h
 rw[lF hi] at h
 exact MH.u_ (p:=[a[i]]) h λy hy x hx=>by rw[List.mem_singleton.mp hx];exact hle y hy
def Gd(h:nF k N a b o i (j+1))(hj:j<b.size)(hle:∀x∈a.toList.take i,k x<=k b[j]):nF k N a b (o.push b[j]) i j:=by
 unfold nF
 rw[Array.toList_push,List.reverse_append]
 unfold nF at h
 rw[lF hj] at h
 exact MH.vd (p:=[b[j]]) h λx hx y hy=>by rw[List.mem_singleton.mp hy];exact hle x hx
def lastOfA(h:nF k N a b o (i+1) j)(hi:i<a.size):∀x∈a.toList.take (i+1),k x<=k a[i]:=by
 have:=h.sa
 rw[lF hi] at this ⊢
 obtain⟨_,_,h3⟩:=List.pairwise_append.mp this
 intro x hx
 rcases List.mem_append.mp hx with z|z
 ·exact h3 x z _ (.head _)
 ·rw[List.mem_singleton.mp z];exact Int.le_refl _
def zE(h:nF k N a b o i (j+1))(hj:j<b.size):∀x∈b.toList.take (j+1),k x<=k b[j]:=by
 have:=h.sb
 rw[lF hj] at this ⊢
 obtain⟨_,_,h3⟩:=List.pairwise_append.mp this
 intro x hx
 rcases List.mem_append.mp hx with z|z
 ·exact h3 x z _ (.head _)
 ·rw[List.mem_singleton.mp z];exact Int.le_refl _
def Uo(hc:jh prog w A s κ k D)(hk:kindOf st=κ)(ha:∀x∈a.toList,D x)(hb:∀x∈b.toList,D x)(hF:∀y∈b.toList.take 1,∀x∈a.toList,k y<=k x)(h:vZ k N a b o i j)(hm:i+j<=m) :
 wpS (model prog w) A E s (hi1 a b g (none,i,j,o,na,nb)) (λr st'=>st'=st/\match r with
  | .done q=>(∃r,q.1=some r/\Good k N r.toList)\/(q.1=none/\vZ k N a b q.2.2.2.1 q.2.1 q.2.2.1/\q.2.1+q.2.2.1<=m)
  | .yield q=>q.1=none/\vZ k N a b q.2.2.2.1 q.2.1 q.2.2.1/\q.2.1+q.2.2.1<=m) st:=by
 obtain⟨h1,h2,h3,h4,mh⟩:=h
 obtain⟨i,rfl⟩:∃i',i=i'+1:=⟨i-1,by omega⟩
 obtain⟨j,rfl⟩:∃j',j=j'+1:=⟨j-1,by omega⟩
 have hi:i<a.size:=by omega
 have hj:j<b.size:=by omega
 unfold hi1
 dsimp only
 simp only[Nat.add_sub_cancel]
 refine wpS_bind (Ļ hj (wpS_bind (Ļ hi (wpS_bind (w_lt hc hk (hb _ (by simp)) (ha _ (by simp)) ?_)))))
 dsimp only
 by_cases hw:k b[j]<k a[i]
 ·rw[decide_eq_true hw,if_pos rfl]
  refine wpS_bind (Ļ hi ?_)
  have zF:=xr mh hi λy hy=>Int.le_trans (zE mh hj y hy) (Int.le_of_lt hw)
  by_cases he:i=0
  ·subst he
   rw[if_pos (by decide)]
   exact wpS_pure ⟨rfl,.inl ⟨_,rfl,KC zF⟩⟩
  ·rw[if_neg (by simpa using he)]
   have I2:vZ k N a b (o.push a[i]) i (j+1):=⟨by omega,by omega,h3,h4,zF⟩
   split
   ·exact wpS_pure ⟨rfl,.inr ⟨rfl,I2,by dsimp only;omega⟩⟩
   ·exact wpS_pure ⟨rfl,rfl,I2,by dsimp only;omega⟩
 ·rw[decide_eq_false hw,if_neg Bool.false_ne_true]
  refine wpS_bind (Ļ hj ?_)
  have zF:=Gd mh hj λx hx=>Int.le_trans (lastOfA mh hi x hx) (Int.not_lt.mp hw)
  by_cases he:j=1
  ·subst he
   rw[if_pos (by decide)]
   exact wpS_pure ⟨rfl,.inl ⟨_,rfl,KD hF zF⟩⟩
  ·rw[if_neg (by simpa using he)]
   have I2:vZ k N a b (o.push b[j]) (i+1) j:=⟨by omega,h2,by omega,by omega,zF⟩
   split
   ·exact wpS_pure ⟨rfl,.inr ⟨rfl,I2,by dsimp only;omega⟩⟩
   ·exact wpS_pure ⟨rfl,rfl,I2,by dsimp only;omega⟩
def H2(k:Keyed->Int)(N:List Keyed)(a b:Array Keyed)(m:Nat)(r:ForInStep T2):Prop:=match r with
 | .done q=>(∃r,q.1=some r/\Good k N r.toList)\/(q.1=none/\vZ k N a b q.2.2.2.1 q.2.1 q.2.2.1/\q.2.1+q.2.2.1<=m)
 | .yield q=>q.1=none/\vZ k N a b q.2.2.2.1 q.2.1 q.2.2.1/\q.2.1+q.2.2.1<=m
def Ge(hi:i<a.size)(hj:1<j)(hjb:j<=b.size)(mh:nF k N a b o (i+1) j)(hx:∀y∈b.toList.take j,k y<=k a[i])(hm:i+j<=m) :
 wpS (model prog w) A E s (hiC a b g na nb (i+1) j o) (λr st'=>st'=st/\H2 k N a b m r) st:=by
 unfold hiC
 simp only[Nat.add_sub_cancel]
 refine wpS_bind (Ļ hi ?_)
 have zF:=xr mh hi hx
 by_cases he:i=0
 ·subst he
  rw[if_pos (by decide)]
  exact wpS_pure ⟨rfl,.inl ⟨_,rfl,KC zF⟩⟩
 ·rw[if_neg (by simpa using he)]
  have I2:vZ k N a b (o.push a[i]) i j:=⟨by omega,by omega,hj,hjb,zF⟩
  split
  ·exact wpS_pure ⟨rfl,.inr ⟨rfl,I2,hm⟩⟩
  ·exact wpS_pure ⟨rfl,rfl,I2,hm⟩
def Gf(hc:jh prog w A s κ k D)(hk:kindOf st=κ)(ha:∀x∈a.toList,D x)(hb:∀x∈b.toList,D x)(hF:∀y∈b.toList.take 1,∀x∈a.toList,k y<=k x)(hi:i<a.size)(h1:0<j)(hj:j<b.size)(mh:nF k N a b o (i+1) (j+1))(hy:∀x∈a.toList.take (i+1),k x<=k b[j])(hm:i+j<=m) :
 wpS (model prog w) A E s (hiB a b g na nb (j+1) (i+1) o) (λr st'=>st'=st/\H2 k N a b m r) st:=by
 unfold hiB
 simp only[Nat.add_sub_cancel]
 refine wpS_bind (Ļ hj ?_)
 have zF:=Gd mh hj hy
 by_cases he:j=1
 ·subst he
  rw[if_pos (by decide)]
  exact wpS_pure ⟨rfl,.inl ⟨_,rfl,KD hF zF⟩⟩
 ·rw[if_neg (by simpa using he)]
  refine wpS_bind (Ļ hi ?_)
  refine wpS_bind (qw hc hk (ha _ (by simp)) hb (by omega) (by omega) zF.sb λr hr c1 c2=>?_)
  simp only[if_true,List.drop_zero] at c1 c2
  dsimp only
  by_cases hr0:j-r>0
  ·rw[if_pos hr0]
   have Wn:nF k N a b (o.push b[j]++(b.extract r j).reverse) (i+1) r:=by
    unfold nF at zF ⊢
    rw[Array.toList_append,Array.toList_reverse,ſ,List.reverse_append,List.reverse_reverse]
    have Z_:=zF
    rw[nD b.toList hr] at Z_
    refine Z_.vd λx hx y hy'=>Int.le_trans (lastOfA mh hi x hx) (c2 y ?_)
    rw[List.drop_take]
    exact hy'
   by_cases he2:r=1
   ·subst he2
    rw[if_pos (by decide)]
    exact wpS_pure ⟨rfl,.inl ⟨_,rfl,KD hF Wn⟩⟩
   ·rw[if_neg (by simpa using he2)]
    by_cases he3:r=0
    ·subst he3
     rw[if_pos (by decide)]
     exact wpS_pure ⟨rfl,.inl ⟨_,rfl,Zc8 Wn⟩⟩
    ·rw[if_neg (by simpa using he3)]
     exact Ge hi (by omega) (by omega) Wn (λy hy'=>Int.le_of_lt (c1 y hy')) (by omega)
  ·rw[if_neg hr0]
   have e:r=j:=by omega
   subst e
   exact Ge hi (by omega) (by omega) zF (λy hy'=>Int.le_of_lt (c1 y hy')) (by omega)
def Uq(hc:jh prog w A s κ k D)(hk:kindOf st=κ)(ha:∀x∈a.toList,D x)(hb:∀x∈b.toList,D x)(hF:∀y∈b.toList.take 1,∀x∈a.toList,k y<=k x)(h:vZ k N a b o i j)(hm:i+j<=m+1){g0:Nat} :
 wpS (model prog w) A E s (YZ a b (none,i,j,o,g0,na,nb) g) (λr st'=>Sv st st'/\H2 k N a b m r) st:=by
 obtain⟨h1,h2,h3,h4,mh⟩:=h
 obtain⟨j,rfl⟩:∃j',j=j'+1:=⟨j-1,by omega⟩
 have hj:j<b.size:=by omega
 unfold YZ
 dsimp only
 simp only[Nat.add_sub_cancel]
 refine wpS_bind (rM λst1 sv=>wpS_bind (Ļ hj ?_))
 have hk1:kindOf st1=κ:= sv.kind.trans hk
 refine wpS_bind (qw hc hk1 (hb _ (by simp)) ha (by omega) (by omega) mh.sa λr hr c1 c2=>?_)
 simp only[Bool.false_eq_true,if_false,List.drop_zero] at c1 c2
 dsimp only
 by_cases hr0:i-r>0
 ·rw[if_pos hr0]
  have Wn:nF k N a b (o++(a.extract r i).reverse) r (j+1):=by
   unfold nF at mh ⊢
   rw[Array.toList_append,Array.toList_reverse,ſ,List.reverse_append,List.reverse_reverse]
   have Z_:=mh
   rw[nD a.toList hr] at Z_
   refine Z_.u_ λy hy x hx=>Int.le_trans (zE mh hj y hy) (Int.le_of_lt (c2 x ?_))
   rw[List.drop_take]
   exact hx
  by_cases he:r=0
  ·subst he
   rw[if_pos (by decide)]
   exact wpS_pure ⟨sv,.inl ⟨_,rfl,KC Wn⟩⟩
  ·rw[if_neg (by simpa using he)]
   obtain⟨r,rfl⟩:∃r',r=r'+1:=⟨r-1,by omega⟩
   exact wpS_mono (Gf hc hk1 ha hb hF (by omega) (by omega) hj Wn c1 (by omega)) λr st' ⟨e,z⟩=>⟨e▸sv,z⟩
 ·rw[if_neg hr0]
  have e:r=i:=by omega
  subst e
  obtain⟨r,rfl⟩:∃r',r=r'+1:=⟨r-1,by omega⟩
  exact wpS_mono (Gf hc hk1 ha hb hF (by omega) (by omega) hj mh c1 (by omega)) λr st' ⟨e,z⟩=>⟨e▸sv,z⟩
def Ur(hc:jh prog w A s κ k D)(hk:kindOf st=κ)(ha:∀x∈a.toList,D x)(hb:∀x∈b.toList,D x)(hF:∀y∈b.toList.take 1,∀x∈a.toList,k y<=k x)(h:vZ k N a b o i j)(hm:i+j<=m+1) :
 wpS (model prog w) A E s (hi3 a b (none,i,j,o,g)) (λr st'=>Sv st st'/\match r with
  | .done q=>∃r,q.1=some r/\Good k N r.toList
  | .yield q=>q.1=none/\vZ k N a b q.2.2.2.1 q.2.1 q.2.2.1/\q.2.1+q.2.2.1<=m) st:=by
 unfold hi3
 dsimp only
 refine wpS_bind (wpS_mono (wpS_forRange (I:=λ_ (c:T1) st'=>st'=st/\c.1=none/\vZ k N a b c.2.2.2.1 c.2.1 c.2.2.1/\c.2.1+c.2.2.1<=m+1) (Q:=λ(c:T1) st'=>st'=st/\((∃r,c.1=some r/\Good k N r.toList)\/(c.1=none/\vZ k N a b c.2.2.2.1 c.2.1 c.2.2.1/\c.2.1+c.2.2.1<=m+1))) ?step ?fin ⟨rfl,rfl,h,hm⟩) ?post)
 case fin=>rintro c st' ⟨rfl,z⟩;exact⟨rfl,.inr z⟩
 case step=>
  rintro x ⟨c1,i',j',o',na',nb'⟩ st' _ _ ⟨rfl,rfl,h',hm'⟩
  refine wpS_mono (Uo hc hk ha hb hF h' hm') λr st2 ⟨e,z⟩=>?_
  subst e
  cases r with
  |done q=>exact⟨rfl,z⟩
  |yield q=>exact⟨rfl,z⟩
 case post=>
  rintro ⟨c1,i',j',o',na',nb'⟩ st' ⟨rfl,z⟩
  rcases z with⟨r,e,hg⟩|⟨e,h',hm'⟩
  ·dsimp only at e
   subst e
   exact wpS_pure ⟨Sv.refl _,r,rfl,hg⟩
  ·dsimp only at e h' hm'
   subst e
   refine wpS_bind (ji ?_)
   refine wpS_bind (wpS_mono (wpS_forRange (I:=λx (c:T2) st2=>Sv st' st2/\c.1=none/\vZ k N a b c.2.2.2.1 c.2.1 c.2.2.1/\c.2.1+c.2.2.1+min x 1<=m+1) (Q:=λ(c:T2) st2=>Sv st' st2/\((∃r,c.1=some r/\Good k N r.toList)\/(c.1=none/\vZ k N a b c.2.2.2.1 c.2.1 c.2.2.1/\c.2.1+c.2.2.1<=m))) ?vf ?fin2 ⟨Sv.refl _,rfl,h',by dsimp only;omega⟩) ?post2)
   case fin2=>
    rintro c st2 ⟨sv,z1,z2,z3⟩
    refine⟨sv,.inr ⟨z1,z2,?_⟩⟩
    have:=z2.i0
    have:=z2.ia
    rw[show min (max 0 (a.size+b.size)) 1=1 by omega] at z3
    omega
   case vf=>
    rintro x ⟨c1,i2,j2,o2,g2,Wk,Wm⟩ st2 _ _ ⟨sv,rfl,h2,hm2⟩
    dsimp only at h2 hm2
    have key:∀g',wpS (model prog w) A E s (YZ a b (none,i2,j2,o2,g2,Wk,Wm) g') (λr st3=>Sv st2 st3/\H2 k N a b m r) st2:=λg'=>Uq hc (sv.kind.trans hk) ha hb hF h2 (by omega)
    unfold hi2
    dsimp only
    split
    ·refine wpS_mono (key _) λr st3 ⟨Cw,z⟩=>?_
     cases r with
     |done q=>exact⟨sv.trans Cw,z⟩
     |yield q=>exact⟨sv.trans Cw,z.1,z.2.1,by rw[show min (x+1) 1=1 by omega];exact Nat.succ_le_succ z.2.2⟩
    ·refine wpS_mono (key _) λr st3 ⟨Cw,z⟩=>?_
     cases r with
     |done q=>exact⟨sv.trans Cw,z⟩
     |yield q=>exact⟨sv.trans Cw,z.1,z.2.1,by rw[show min (x+1) 1=1 by omega];exact Nat.succ_le_succ z.2.2⟩
   case post2=>
    rintro ⟨c1,i2,j2,o2,g2,Wk,Wm⟩ st2 ⟨sv,z⟩
    rcases z with⟨r,e,hg⟩|⟨e,h2,hm2⟩
    ·dsimp only at e
     subst e
     exact wpS_pure ⟨sv,r,rfl,hg⟩
    ·dsimp only at e h2 hm2
     subst e
     exact wpS_bind (rM λst3 Cw=>wpS_pure ⟨sv.trans Cw,rfl,h2,hm2⟩)
def Us{Q:Array Keyed->SortSt->Prop}(hc:jh prog w A s κ k D)(hk:kindOf st=κ)(ha:∀x∈a.toList,D x)(hb:∀x∈b.toList,D x)(sa:dF k a.toList)(sb:dF k b.toList)(h1:0<a.size)(h2:0<b.size)
 (hF:∀y∈b.toList.take 1,∀x∈a.toList,k y<=k x)(hL:∀y∈b.toList,∀x∈a.toList.drop (a.size-1),k y<=k x)(hq:∀r st',Sv st st'->Good k (a.toList++b.toList) r.toList->Q r st'):wpS (model prog w) A E s (nC a b) Q st:=by
 rw[Ul]
 unfold mhi
 obtain⟨n,hn⟩:∃n,a.size=n+1:=⟨a.size-1,by omega⟩
 have hna:n<a.size:=by omega
 have en:a.size-1=n:=by omega
 rw[en] at hL ⊢
 refine wpS_bind (ji (wpS_bind (Ļ hna ?_)))
 have mh0:nF k (a.toList++b.toList) a b #[] (n+1) b.size:=by
  unfold nF
  rw[List.take_of_length_le (by simp;omega),List.take_of_length_le (by simp)]
  exact⟨by simp,.nil,sa,sb,λx _ y hy=>by simp at hy,λx _ y hy=>by simp at hy⟩
 have mh:nF k (a.toList++b.toList) a b #[a[n]] n b.size:=xr mh0 hna λy hy=>hL y (List.mem_of_mem_take hy) _ (by rw[dU hna];exact .head _)
 by_cases he:n=0
 ·subst he
  rw[if_pos (by decide)]
  exact wpS_pure (hq _ _ (Sv.refl _) (KC mh))
 ·rw[if_neg (by simpa using he)]
  by_cases he2:b.size=1
  ·rw[if_pos (by simpa using he2)]
   rw[he2] at mh ⊢
   exact wpS_pure (hq _ _ (Sv.refl _) (KD hF mh))
  ·rw[if_neg (by simpa using he2)]
   refine wpS_bind (wpS_get ?_)
   refine wpS_bind (wpS_mono (wpS_forRange (I:=λx (c:T3) st'=>Sv st st'/\c.1=none/\vZ k (a.toList++b.toList) a b c.2.2.2.1 c.2.1 c.2.2.1/\x+(c.2.1+c.2.2.1)<=a.size+b.size) (Q:=λ(c:T3) st'=>Sv st st'/\∃r,c.1=some r/\Good k (a.toList++b.toList) r.toList) ?step ?fin ⟨Sv.refl _,rfl,⟨by dsimp only;omega,by dsimp only;omega,by dsimp only;omega,Nat.le_refl _,mh⟩,by dsimp only;omega⟩) ?post)
   case fin=>
    rintro c st' ⟨_,_,z,z2⟩
    have:=z.i0
    omega
   case step=>
    rintro x ⟨c1,i',j',o',g'⟩ st' _ hxn ⟨sv,rfl,h',hx⟩
    dsimp only at h' hx
    obtain⟨m,hm⟩:∃m,a.size+b.size-x=m+1:=⟨a.size+b.size-x-1,by omega⟩
    refine wpS_mono (Ur (m:=m) hc (sv.kind.trans hk) ha hb hF h' (by omega)) λr st2 ⟨YX,z⟩=>?_
    cases r with
    |done q=>exact⟨sv.trans YX,z⟩
    |yield q=>exact⟨sv.trans YX,z.1,z.2.1,by have:=z.2.2;omega⟩
   case post=>
    rintro ⟨c1,c2⟩ st' ⟨sv,r,e,hg⟩
    dsimp only at e
    subst e
    exact wpS_pure (hq r st' sv hg)
end
end jg
namespace jg
open PySem PyProof.Rows
abbrev CA:=Option (Option Nat)×Nat
abbrev CD:=Option (Option Nat)×Nat×Nat
def KH(lo a nrem:Nat):SM CA:=
 forIn [a:nrem] ((none,a):CA) λ_ q=>ltAt' (lo+q.2) (lo+q.2-1) >>= λr=>match r with
  |some c=>if c=true then pure (.done (none,q.2)) else pure (.yield (none,q.2+1))
  |_=>pure (.done (some none,q.2))
def zG(lo n nrem:Nat):SM (Option Nat):=
 reverseSlice' lo (lo+n) >>= λ_=>KH lo n nrem >>= λq=>match q.1 with
  |some r=>pure r
  |none=>pure (some q.2)
def Gg(lo n nrem:Nat):SM CD:=
 forIn [n:nrem] ((none,n,0):CD) λ_ q=>ltAt' (lo+q.2.1) (lo+q.2.1-1) >>= λr=>match r with
  |some c=>if c=true then(if q.2.2>0 then reverseSlice' (lo+q.2.1-(q.2.2+1)) (lo+q.2.1) >>= λ_=>pure (.yield (none,q.2.1+1,0)) else pure (.yield (none,q.2.1+1,0)))
   else ltAt' (lo+q.2.1-1) (lo+q.2.1) >>= λr=>match r with
    |some c=>if c=true then pure (.done (none,q.2.1,q.2.2)) else pure (.yield (none,q.2.1+1,q.2.2+1))
    |_=>pure (.done (some none,q.2.1,q.2.2))
  |_=>pure (.done (some none,q.2.1,q.2.2))
def zH(lo n nrem:Nat):SM (Option Nat):=
 liftM (rule "list.sort.descending-run") >>= λ_=>Gg lo (n+1) nrem >>= λq=>match q.1 with
  |some r=>pure r
  |none=>if q.2.2>0 then reverseSlice' (lo+q.2.1-(q.2.2+1)) (lo+q.2.1) >>= λ_=>zG lo q.2.1 nrem else zG lo q.2.1 nrem
def Zaa(lo nrem:Nat):SM (Option Nat):=
 KH lo 1 nrem >>= λq=>match q.1 with
  |some r=>pure r
  |none=>if(q.2== nrem)=true then pure (some q.2) else if q.2>1 then ltAt' lo (lo+q.2-1) >>= fun r=>(match r with
    |some c=>if c=true then pure (some q.2) else reverseSlice' lo (lo+q.2) >>= λ_=>zH lo q.2 nrem
    |_=>pure none)
   else zH lo q.2 nrem
def KJ(lo nrem:Nat):countRun' lo nrem=Zaa lo nrem:=by kernel_rfl
section
variable{prog:Program}{w:World}{A:Around}{E:Value->Shared->Prop}{s:Shared}{st st0:SortSt}{κ:SortKind}{k:Keyed->Int}{D:Keyed->Prop}{lo n nrem:Nat}
def kx(k:Keyed->Int)(xs:Array Keyed)(i:Nat):Int:=match xs[i]? with
 |some x=>k x
 |none=>0
def dG{xs ys:Array Keyed}{i j:Nat}(h:xs[i]?=ys[j]?):kx k xs i=kx k ys j:=by unfold kx;rw[h]
structure Fm(κ:SortKind)(D:Keyed->Prop)(lo:Nat)(st0 st:SortSt):Prop where
 kind:kindOf st=κ
 pend:pendingOf st=pendingOf st0
 fail:failedOf st=failedOf st0
 perm:(arrOf st).Perm (arrOf st0)
 low:∀i,i<lo->(arrOf st)[i]?=(arrOf st0)[i]?
 dom:∀x∈(arrOf st0).toList,D x
theorem Fm.size(h:Fm κ D lo st0 st):(arrOf st).size=(arrOf st0).size:=h.perm.size_eq
def Fm.set{xs:Array Keyed}(h:Fm κ D lo st0 st)(hp:xs.Perm (arrOf st))(hl:∀i,i<lo->xs[i]?=(arrOf st)[i]?):Fm κ D lo st0 (setArr st xs):=
 ⟨h.kind,h.pend,h.fail,hp.trans h.perm,λi hi=>(hl i hi).trans (h.low i hi),h.dom⟩
def Gh(hc:jh prog w A s κ k D)(h:Fm κ D lo st0 st){i j:Nat}(hi:i<(arrOf st0).size)(hj:j<(arrOf st0).size){Q:Option Bool->SortSt->Prop}(hq:Q (some (decide (kx k (arrOf st) i<kx k (arrOf st) j))) st):wpS (model prog w) A E s (ltAt' i j) Q st:=by
 have hi':i<(arrOf st).size:=by rw[h.size];exact hi
 have hj':j<(arrOf st).size:=by rw[h.size];exact hj
 have hd:∀x∈(arrOf st).toList,D x:=λx hx=>h.dom x (h.perm.toList.mem_iff.mp hx)
 rw[ltAt'_eq]
 refine wpS_bind (wpS_get (wpS_bind (Ļ hi' (wpS_bind (Ļ hj' (w_lt hc h.kind (hd _ (by simp)) (hd _ (by simp)) ?_))))))
 unfold kx at hq
 rw[Array.getElem?_eq_getElem hi',Array.getElem?_eq_getElem hj'] at hq
 exact hq
def w_rev{i j:Nat}{Q:Unit->SortSt->Prop}(h:Q () (setArr st (mirror (arrOf st) i j ((j-i) / 2)))):wpS (model prog w) A E s (reverseSlice' i j) Q st:=by
 rw[reverseSlice'_eq]
 exact wpS_modify h
def xu{xs:Array Keyed}{i j:Nat}(hj:j<=xs.size)(m:Nat):kx k (mirror xs i j ((j-i) / 2)) m=if i<=m/\m<j then kx k xs (i+j-1-m) else kx k xs m:=by
 have e:=getElem?_mirror_all (i:=i) hj m
 by_cases h1:i<=m/\m<j
 ·rw[if_pos h1] at e ⊢;exact dG e
 ·rw[if_neg h1] at e ⊢;exact dG e
def bR{xs:Array Keyed}{i j:Nat}(hj:j<=xs.size)(heq:∀m,i<=m->m<j->kx k xs m=kx k xs (j-1))(m:Nat):kx k (mirror xs i j ((j-i) / 2)) m=kx k xs m:=by
 rw[xu hj]
 split
 ·rw[heq _ (by omega) (by omega),heq m (by omega) (by omega)]
 ·rfl
def Fm.mir(h:Fm κ D lo st0 st){i j:Nat}(hi:lo<=i)(hj:j<=(arrOf st0).size):Fm κ D lo st0 (setArr st (mirror (arrOf st) i j ((j-i) / 2))):=
 h.set (mirror_perm _ _ _ _) λm hm=>by rw[getElem?_mirror_all (by rw[h.size];exact hj),if_neg (by omega)]
def Up(k:Keyed->Int)(xs:Array Keyed)(lo n:Nat):Prop:=∀i j,i<=j->j<n->kx k xs (lo+i)<=kx k xs (lo+j)
def Dn(k:Keyed->Int)(xs:Array Keyed)(lo n:Nat):Prop:=∀i j,i<=j->j<n->kx k xs (lo+j)<=kx k xs (lo+i)
def Up.one(xs:Array Keyed)(lo:Nat):Up k xs lo 1:=λi j h1 h2=>by
 have:i=j:=by omega
 subst this
 exact Int.le_refl _
def zJ{a:Nat}{Q:CA->SortSt->Prop}(hc:jh prog w A s κ k D)(hn:lo+nrem<=(arrOf st0).size)(ha:1<=a)(han:a<=nrem)(hF:Fm κ D lo st0 st)(hs:Up k (arrOf st) lo a)
 (h:∀n,a<=n->n<=nrem->Up k (arrOf st) lo n->(n=nrem\/kx k (arrOf st) (lo+n)<kx k (arrOf st) (lo+n-1))->Q (none,n) st):wpS (model prog w) A E s (KH lo a nrem) Q st:=by
 unfold KH
 refine wpS_forRange (I:=λx c st'=>st'=st/\c=(none,x)/\Up k (arrOf st) lo x) ?step ?fin ⟨rfl,rfl,hs⟩
 case fin=>
  rintro c st' ⟨rfl,rfl,hs'⟩
  rw[show max a nrem=nrem by omega] at hs' ⊢
  exact h nrem han (Nat.le_refl _) hs' (.inl rfl)
 case step=>
  rintro x c st' hax hxn ⟨rfl,rfl,hs'⟩
  dsimp only
  refine wpS_bind (Gh hc hF (by omega) (by omega) ?_)
  by_cases hl:kx k (arrOf st') (lo+x)<kx k (arrOf st') (lo+x-1)
  ·rw[decide_eq_true hl]
   dsimp only
   rw[if_pos rfl]
   exact wpS_pure (h x hax (by omega) hs' (.inr hl))
  ·rw[decide_eq_false hl]
   dsimp only
   rw[if_neg Bool.false_ne_true]
   refine wpS_pure ⟨rfl,rfl,λi j hij hj=>?_⟩
   by_cases hjx:j<x
   ·exact hs' i j hij hjx
   ·have e:j=x:=by omega
    subst e
    by_cases e2:i=j
    ·subst e2;exact Int.le_refl _
    ·have z:=hs' i (j-1) (by omega) (by omega)
     rw[show lo+(j-1)=lo+j-1 by omega] at z
     omega
def vg{Q:Option Nat->SortSt->Prop}(hc:jh prog w A s κ k D)(hn:lo+nrem<=(arrOf st0).size)(h1:1<=n)(hnn:n<=nrem)(hF:Fm κ D lo st0 st)(hs:Dn k (arrOf st) lo n)
 (h:∀m st',Fm κ D lo st0 st'->1<=m->m<=nrem->Up k (arrOf st') lo m->Q (some m) st'):wpS (model prog w) A E s (zG lo n nrem) Q st:=by
 unfold zG
 have hsz:lo+n<=(arrOf st).size:=by rw[hF.size];omega
 refine wpS_bind (w_rev ?_)
 have hF':=hF.mir (i:=lo) (j:=lo+n) (Nat.le_refl _) (by omega)
 refine wpS_bind (zJ hc hn h1 hnn hF' ?_ λm m1 m2 m3 _=>wpS_pure (h m _ hF' (by omega) m2 m3))
 intro i j hij hj
 show kx k (mirror (arrOf st) lo (lo+n) ((lo+n-lo) / 2)) (lo+i)<=kx k (mirror (arrOf st) lo (lo+n) ((lo+n-lo) / 2)) (lo+j)
 rw[xu hsz,xu hsz,if_pos (by omega),if_pos (by omega)]
 have:=hs (n-1-j) (n-1-i) (by omega) (by omega)
 rw[show lo+(lo+n)-1-(lo+i)=lo+(n-1-i) by omega,show lo+(lo+n)-1-(lo+j)=lo+(n-1-j) by omega]
 exact this
def Gi{Q:CD->SortSt->Prop}(hc:jh prog w A s κ k D)(hn:lo+nrem<=(arrOf st0).size)(h1:1<=n)(hnn:n<=nrem)(hF:Fm κ D lo st0 st)(hs:Dn k (arrOf st) lo n)
 (h:∀m q st',Fm κ D lo st0 st'->n<=m->m<=nrem->Dn k (arrOf st') lo m->q+1<=m->(∀i,lo+m-(q+1)<=i->i<lo+m->kx k (arrOf st') i=kx k (arrOf st') (lo+m-1))->Q (none,m,q) st'):wpS (model prog w) A E s (Gg lo n nrem) Q st:=by
 unfold Gg
 refine wpS_forRange (I:=λx c st'=>∃q,c=(none,x,q)/\Fm κ D lo st0 st'/\Dn k (arrOf st') lo x/\q+1<=x/\(∀i,lo+x-(q+1)<=i->i<lo+x->kx k (arrOf st') i=kx k (arrOf st') (lo+x-1))) ?step ?fin ⟨0,rfl,hF,hs,by omega,λi z1 z2=>by congr 1;omega⟩
 case fin=>
  rintro c st' ⟨q,rfl,hF',hs',hq,he⟩
  rw[show max n nrem=nrem by omega] at hs' hq he ⊢
  exact h nrem q st' hF' hnn (Nat.le_refl _) hs' hq he
 case step=>
  rintro x c st' hax hxn ⟨q,rfl,hF',hs',hq,he⟩
  dsimp only
  have hsz:lo+x<=(arrOf st').size:=by rw[hF'.size];omega
  refine wpS_bind (Gh hc hF' (by omega) (by omega) ?_)
  by_cases hl:kx k (arrOf st') (lo+x)<kx k (arrOf st') (lo+x-1)
  ·rw[decide_eq_true hl]
   dsimp only
   rw[if_pos rfl]
   have step1:∀xs:Array Keyed,(∀m,kx k xs m=kx k (arrOf st') m)->Dn k xs lo (x+1):=by
    intro xs hk i j hij hj
    rw[hk,hk]
    by_cases hjx:j<x
    ·exact hs' i j hij hjx
    ·have e:j=x:=by omega
     subst e
     by_cases e2:i=j
     ·subst e2;exact Int.le_refl _
     ·have z:=hs' i (j-1) (by omega) (by omega)
      rw[show lo+(j-1)=lo+j-1 by omega] at z
      omega
   by_cases hq0:q>0
   ·rw[if_pos hq0]
    exact wpS_bind (w_rev (wpS_pure ⟨0,rfl,hF'.mir (by omega) (by omega),step1 _ (bR hsz he),by omega,λi z1 z2=>by congr 1;omega⟩))
   ·rw[if_neg hq0]
    exact wpS_pure ⟨0,rfl,hF',step1 _ (λ_=>rfl),by omega,λi z1 z2=>by congr 1;omega⟩
  ·rw[decide_eq_false hl]
   dsimp only
   rw[if_neg Bool.false_ne_true]
   refine wpS_bind (Gh hc hF' (by omega) (by omega) ?_)
   by_cases hg:kx k (arrOf st') (lo+x-1)<kx k (arrOf st') (lo+x)
   ·rw[decide_eq_true hg]
    dsimp only
    rw[if_pos rfl]
    exact wpS_pure (h x q st' hF' hax (by omega) hs' hq he)
   ·rw[decide_eq_false hg]
    dsimp only
    rw[if_neg Bool.false_ne_true]
    have heq:kx k (arrOf st') (lo+x)=kx k (arrOf st') (lo+x-1):=by omega
    refine wpS_pure ⟨q+1,rfl,hF',λi j hij hj=>?_,by omega,λi z1 z2=>?_⟩
    ·by_cases hjx:j<x
     ·exact hs' i j hij hjx
     ·have e:j=x:=by omega
      subst e
      by_cases e2:i=j
      ·subst e2;exact Int.le_refl _
      ·rw[heq]
       have z:=hs' i (j-1) (by omega) (by omega)
       rw[show lo+(j-1)=lo+j-1 by omega] at z
       exact z
    ·rw[show lo+(x+1)-1=lo+x by omega]
     by_cases e:i=lo+x
     ·subst e;rfl
     ·rw[heq];exact he i (by omega) (by omega)
def vh{Q:Option Nat->SortSt->Prop}(hc:jh prog w A s κ k D)(hn:lo+nrem<=(arrOf st0).size)(hnn:n+1<=nrem)(hF:Fm κ D lo st0 st)(hs:Dn k (arrOf st) lo (n+1))
 (h:∀m st',Fm κ D lo st0 st'->1<=m->m<=nrem->Up k (arrOf st') lo m->Q (some m) st'):wpS (model prog w) A E s (zH lo n nrem) Q st:=by
 unfold zH
 refine wpS_bind (ji ?_)
 refine wpS_bind (Gi hc hn (by omega) hnn hF hs λm q st' hF' m1 m2 hs' hq he=>?_)
 dsimp only
 have hsz:lo+m<=(arrOf st').size:=by rw[hF'.size];omega
 by_cases hq0:q>0
 ·rw[if_pos hq0]
  refine wpS_bind (w_rev (vg hc hn (by omega) m2 (hF'.mir (by omega) (by omega)) ?_ h))
  intro i j hij hj
  show kx k (mirror (arrOf st') _ _ _) (lo+j)<=kx k (mirror (arrOf st') _ _ _) (lo+i)
  rw[bR hsz he,bR hsz he]
  exact hs' i j hij hj
 ·rw[if_neg hq0]
  exact vg hc hn (by omega) m2 hF' hs' h
def KN{Q:Option Nat->SortSt->Prop}(hc:jh prog w A s κ k D)(hn:lo+nrem<=(arrOf st0).size)(h1:1<=nrem)(hF:Fm κ D lo st0 st)
 (h:∀m st',Fm κ D lo st0 st'->1<=m->m<=nrem->Up k (arrOf st') lo m->Q (some m) st'):wpS (model prog w) A E s (countRun' lo nrem) Q st:=by
 rw[KJ]
 unfold Zaa
 refine wpS_bind (zJ hc hn (Nat.le_refl 1) h1 hF (Up.one _ _) λn n1 n2 hsn hor=>?_)
 dsimp only
 by_cases hnn:n=nrem
 ·rw[if_pos (by simpa using hnn)]
  exact wpS_pure (h n st hF n1 n2 hsn)
 ·rw[if_neg (by simpa using hnn)]
  have hlt:=hor.resolve_left hnn
  by_cases hgt:n>1
  ·rw[if_pos hgt]
   refine wpS_bind (Gh hc hF (by omega) (by omega) ?_)
   by_cases hr:kx k (arrOf st) lo<kx k (arrOf st) (lo+n-1)
   ·rw[decide_eq_true hr]
    dsimp only
    rw[if_pos rfl]
    exact wpS_pure (h n st hF n1 n2 hsn)
   ·rw[decide_eq_false hr]
    dsimp only
    rw[if_neg Bool.false_ne_true]
    have hsz:lo+n<=(arrOf st).size:=by rw[hF.size];omega
    have hall:∀m,lo<=m->m<lo+n->kx k (arrOf st) m=kx k (arrOf st) (lo+n-1):=by
     intro m m1 m2
     have a1:=hsn 0 (m-lo) (by omega) (by omega)
     have a2:=hsn (m-lo) (n-1) (by omega) (by omega)
     rw[show lo+(m-lo)=m by omega] at a1 a2
     rw[show lo+(n-1)=lo+n-1 by omega] at a2
     rw[Nat.add_zero] at a1
     omega
    refine wpS_bind (w_rev (vh hc hn (by omega) (hF.mir (Nat.le_refl _) (by omega)) ?_ h))
    intro i j hij hj
    show kx k (mirror (arrOf st) _ _ _) (lo+j)<=kx k (mirror (arrOf st) _ _ _) (lo+i)
    rw[bR hsz hall,bR hsz hall]
    by_cases hjn:j<n
    ·rw[hall (lo+i) (by omega) (by omega),hall (lo+j) (by omega) (by omega)];exact Int.le_refl _
    ·have e:j=n:=by omega
     subst e
     by_cases e2:i=j
     ·subst e2;exact Int.le_refl _
     ·rw[hall (lo+i) (by omega) (by omega)];exact Int.le_of_lt hlt
  ·rw[if_neg hgt]
   have e:n=1:=by omega
   subst e
   refine vh hc hn (by omega) hF ?_ h
   intro i j hij hj
   by_cases e2:i=j
   ·subst e2;exact Int.le_refl _
   ·have i0:i=0:=by omega
    have j1:j=1:=by omega
    subst i0;subst j1
    exact Int.le_of_lt hlt
end
end jg
namespace jg
open PySem PyProof.Rows
def Gj:Nat->Nat->Nat->SM Bool:=sortPriv% PySem.Builtin.binarySort
abbrev BS:=Option Bool×Nat×Nat
def xG(lo n:Nat):SM BS:=
 forIn [:n] ((none,0,n):BS) λ_ q=>if q.2.1 >= q.2.2 then pure (.done (none,q.2.1,q.2.2)) else ltAt' (lo+n) (lo+(q.2.1+q.2.2) / 2) >>= λr=>match r with
  |some c=>if c=true then pure (.yield (none,q.2.1,(q.2.1+q.2.2) / 2)) else pure (.yield (none,(q.2.1+q.2.2) / 2+1,q.2.2))
  |_=>pure (.done (some false,q.2.1,q.2.2))
def Nj(lo n ok:Nat):SM Bool:=
 (forIn [max ok 1:n] ((none,()):Option Bool×Unit) fun i _=>xG lo i >>= fun q=>match q.1 with
   |some r=>pure (.done (some r,()))
   |none=>moveDown' (lo+i) (lo+q.2.1) >>= λ_=>pure (.yield (none,()))) >>= λq=>match q.1 with
   |some r=>pure r
   |none=>pure true
def Gk(lo n ok:Nat):Gj lo n ok=Nj lo n ok:=by kernel_rfl
section
variable{prog:Program}{w:World}{A:Around}{E:Value->Shared->Prop}{s:Shared}{st st0:SortSt}{κ:SortKind}{k:Keyed->Int}{D:Keyed->Prop}{lo n:Nat}
def BP{Q:BS->SortSt->Prop}(hc:jh prog w A s κ k D)(hn:lo+n<(arrOf st0).size)(hF:Fm κ D lo st0 st)(hs:Up k (arrOf st) lo n)
 (h:∀l,l<=n->(∀i,i<l->kx k (arrOf st) (lo+i)<=kx k (arrOf st) (lo+n))->(∀i,l<=i->i<n->kx k (arrOf st) (lo+n)<kx k (arrOf st) (lo+i))->Q (none,l,l) st):wpS (model prog w) A E s (xG lo n) Q st:=by
 unfold xG
 refine wpS_mono (wpS_forRange (I:=λx (c:BS) st'=>st'=st/\∃l r,c=(none,l,r)/\l<=r/\r<=n/\r-l<=n-x/\(∀i,i<l->kx k (arrOf st) (lo+i)<=kx k (arrOf st) (lo+n))/\(∀i,r<=i->i<n->kx k (arrOf st) (lo+n)<kx k (arrOf st) (lo+i)))
  (Q:=λ(c:BS) st'=>st'=st/\∃l,c=(none,l,l)/\l<=n/\(∀i,i<l->kx k (arrOf st) (lo+i)<=kx k (arrOf st) (lo+n))/\(∀i,l<=i->i<n->kx k (arrOf st) (lo+n)<kx k (arrOf st) (lo+i))) ?step ?fin ⟨rfl,0,n,rfl,by omega,by omega,by omega,λi z=>by omega,λi z1 z2=>by omega⟩) ?post
 case fin=>
  rintro c st' ⟨rfl,l,r,rfl,a1,a2,a3,a4,a5⟩
  have e:l=r:=by omega
  subst e
  exact⟨rfl,l,rfl,a2,a4,a5⟩
 case step=>
  rintro x c st' _ hx ⟨rfl,l,r,rfl,a1,a2,a3,a4,a5⟩
  dsimp only
  by_cases hl:l >= r
  ·rw[if_pos hl]
   have e:l=r:=by omega
   subst e
   exact wpS_pure ⟨rfl,l,rfl,a2,a4,a5⟩
  ·rw[if_neg hl]
   refine wpS_bind (Gh hc hF (by omega) (by omega) ?_)
   by_cases hw:kx k (arrOf st') (lo+n)<kx k (arrOf st') (lo+(l+r) / 2)
   ·rw[decide_eq_true hw]
    dsimp only
    rw[if_pos rfl]
    refine wpS_pure ⟨rfl,_,_,rfl,by omega,by omega,by omega,a4,λi z1 z2=>?_⟩
    exact Int.lt_of_lt_of_le hw (hs _ i z1 z2)
   ·rw[decide_eq_false hw]
    dsimp only
    rw[if_neg Bool.false_ne_true]
    refine wpS_pure ⟨rfl,_,_,rfl,by omega,by omega,by omega,λi z=>?_,a5⟩
    exact Int.le_trans (hs i _ (by omega) (by omega)) (Int.not_lt.mp hw)
 case post=>
  rintro c st' ⟨rfl,l,rfl,z1,z2,z3⟩
  exact h l z1 z2 z3
def Gm{xs:Array Keyed}{src d:Nat}(hs:src<xs.size)(hd:d<=src)(m:Nat):kx k (bubble xs src d) m=if m=src-d then kx k xs src else if src-d<m/\m<=src then kx k xs (m-1) else kx k xs m:=by
 have e:=getElem?_bubble hs d hd m
 by_cases h1:m=src-d
 ·rw[if_pos h1] at e ⊢;exact dG e
 ·rw[if_neg h1] at e ⊢
  by_cases h2:src-d<m/\m<=src
  ·rw[if_pos h2] at e ⊢;exact dG e
  ·rw[if_neg h2] at e ⊢;exact dG e
def Gn{ok:Nat}{Q:Bool->SortSt->Prop}(hc:jh prog w A s κ k D)(hn:lo+n<=(arrOf st0).size)(h1:1<=ok)(hok:ok<=n)(hF:Fm κ D lo st0 st)(hs:Up k (arrOf st) lo ok)
 (h:∀st',Fm κ D lo st0 st'->Up k (arrOf st') lo n->Q true st'):wpS (model prog w) A E s (Gj lo n ok) Q st:=by
 rw[Gk]
 unfold Nj
 refine wpS_bind (wpS_mono (wpS_forRange (I:=λx (c:Option Bool×Unit) st'=>c=(none,())/\Fm κ D lo st0 st'/\Up k (arrOf st') lo x) (Q:=λc st'=>c=(none,())/\Fm κ D lo st0 st'/\Up k (arrOf st') lo n) ?step ?fin ⟨rfl,hF,by rw[show max ok 1=ok by omega];exact hs⟩) ?post)
 case fin=>
  rintro c st' ⟨rfl,z1,z2⟩
  rw[show max (max ok 1) n=n by omega] at z2
  exact⟨rfl,z1,z2⟩
 case step=>
  rintro x c st' hax hxn ⟨rfl,hF',hs'⟩
  refine wpS_bind (BP hc (by omega) hF' hs' λl hl c1 c2=>?_)
  dsimp only
  have hsz:lo+x<(arrOf st').size:=by rw[hF'.size];omega
  rw[moveDown'_eq]
  refine wpS_bind (wpS_modify (wpS_pure ⟨rfl,hF'.set (bubble_perm _ _ _) λi hi=>?_,λi j hij hj=>?_⟩))
  ·rw[getElem?_bubble hsz _ (by omega),if_neg (by omega),if_neg (by omega)]
  ·show kx k (bubble (arrOf st') (lo+x) (lo+x-(lo+l))) (lo+i)<=kx k (bubble (arrOf st') (lo+x) (lo+x-(lo+l))) (lo+j)
   rw[Gm hsz (by omega),Gm hsz (by omega)]
   have e0:lo+x-(lo+x-(lo+l))=lo+l:=by omega
   rw[e0]
   by_cases i1:i=l
   ·rw[if_pos (by omega)]
    by_cases j1:j=l
    ·rw[if_pos (by omega)];exact Int.le_refl _
    ·rw[if_neg (by omega),if_pos (by omega)]
     have:=c2 (j-1) (by omega) (by omega)
     rw[show lo+(j-1)=lo+j-1 by omega] at this
     exact Int.le_of_lt this
   ·rw[if_neg (by omega)]
    by_cases i2:l<i
    ·rw[if_pos (by omega),if_neg (by omega),if_pos (by omega)]
     have:=hs' (i-1) (j-1) (by omega) (by omega)
     rw[show lo+(i-1)=lo+i-1 by omega,show lo+(j-1)=lo+j-1 by omega] at this
     exact this
    ·rw[if_neg (by omega)]
     by_cases j1:j=l
     ·rw[if_pos (by omega)]
      exact c1 i (by omega)
     ·rw[if_neg (by omega)]
      by_cases j2:l<j
      ·rw[if_pos (by omega)]
       have:=hs' i (j-1) (by omega) (by omega)
       rw[show lo+(j-1)=lo+j-1 by omega] at this
       exact this
      ·rw[if_neg (by omega)]
       exact hs' i j hij (by omega)
 case post=>
  rintro c st' ⟨rfl,z1,z2⟩
  exact wpS_pure (h st' z1 z2)
end
end jg
namespace jg
open PySem PyProof.Rows
def wr(sa:Nat)(m:Array Keyed)(xs:Array Keyed):Array Keyed:=m.toList.zipIdx.foldl (λa z=>match z with|(p,j)=>a.setIfInBounds (sa+j) p) xs
def mWr(sa:Nat)(m:Array Keyed):SM Bool:=modify (λs=>setArr s (wr sa m (arrOf s))) >>= λ_=>get >>= λs=>pure (failedOf s).isNone
def mAt(i:Nat):SM Bool:=get >>= λs=>match((pendingOf s)[i]?,(pendingOf s)[i+1]?) with
 |(some (sa,na,p),some (sb,nb,_))=>set (setPending s (((pendingOf s).setIfInBounds i (sa,na+nb,p)).eraseIdxIfInBounds (i+1))) >>= λ_=>
  elem' (arrOf s) sb >>= λy=>aY false y (arrOf s) sa na 0 >>= λr=>match r with
   |some r=>if(na-r== 0)=true then pure true else elem' (arrOf s) (sa+r+(na-r)-1) >>= λx=>aY true x (arrOf s) sb nb (nb-1) >>= λq=>(match q with
    |some q=>if(q== 0)=true then pure true else if na-r<=q then nA ((arrOf s).extract (sa+r) sb) ((arrOf s).extract sb (sb+q)) >>= λm=>mWr (sa+r) m
     else nC ((arrOf s).extract (sa+r) sb) ((arrOf s).extract sb (sb+q)) >>= λm=>mWr (sa+r) m
    |_=>pure false)
   |_=>pure false
 |_=>liftM (unsupported "internal:list.sort.pending")
def Ut(i:Nat):mergeAt' i=mAt i:=by kernel_rfl
theorem Nk(sa:Nat):∀(l:List Keyed) (o:Nat) (xs:Array Keyed),sa+o+l.length<=xs.size->((l.zipIdx o).foldl (λ(a:Array Keyed) (z:Keyed×Nat)=>match z with|(p,j)=>a.setIfInBounds (sa+j) p) xs).toList=xs.toList.take (sa+o)++l++xs.toList.drop (sa+o+l.length)
 | [],o,xs,_=>by simp
 |x::l,o,xs,h=>by
  rw[List.zipIdx_cons,List.foldl_cons]
  dsimp only
  have hl:sa+o<xs.toList.length:=by simp at h ⊢;omega
  rw[show sa+o+(x::l).length=sa+(o+1)+l.length by simp;omega] at h ⊢
  rw[Nk sa l (o+1) _ (by simpa using h)]
  have e1:(xs.setIfInBounds (sa+o) x).toList=xs.toList.set (sa+o) x:=by simp
  rw[e1,List.drop_set_of_lt (by omega),show sa+(o+1)=(sa+o)+1 by omega,List.take_add_one,List.take_set_of_le (Nat.le_refl _),List.getElem?_set_self hl]
  simp
def Zab(sa:Nat)(m xs:Array Keyed)(h:sa+m.size<=xs.size):(wr sa m xs).toList=xs.toList.take sa++m.toList++xs.toList.drop (sa+m.size):=by
 have:=Nk sa m.toList 0 xs (by simpa using h)
 simpa[wr] using this
section
variable{prog:Program}{w:World}{A:Around}{E:Value->Shared->Prop}{s:Shared}{st:SortSt}{κ:SortKind}{k:Keyed->Int}{D:Keyed->Prop}
def Gp{xs:Array Keyed}{P:List Keyed}{x:Keyed}{T:List Keyed}(h:xs.toList=P++x::T){i:Nat}(hi:P.length=i):∃(hl:i<xs.size),xs[i]=x:=by
 have hl:i<xs.size:=by
  have:=congrArg List.length h
  simp at this
  omega
 refine⟨hl,?_⟩
 have:xs.toList[i]?=some x:=by
  rw[h,List.getElem?_append_right (by omega),hi,Nat.sub_self]
  rfl
 rw[Array.getElem?_toList,Array.getElem?_eq_getElem hl] at this
 exact Option.some.inj this
def Uu{i sa na p nb p2:Nat}{P Al Bl T:List Keyed}{Q:Bool->SortSt->Prop}(hc:jh prog w A s κ k D)(hk:kindOf st=κ)(hf:failedOf st=none)(hD:∀x∈(arrOf st).toList,D x)(h1:(pendingOf st)[i]?=some (sa,na,p))(h2:(pendingOf st)[i+1]?=some (sa+na,nb,p2))
 (hL:(arrOf st).toList=P++(Al++(Bl++T)))(lP:P.length=sa)(lA:Al.length=na)(lB:Bl.length=nb)(a0:0<na)(b0:0<nb)(sA:dF k Al)(sB:dF k Bl)
 (hq:∀st' C,kindOf st'=κ->failedOf st'=none->pendingOf st'=((pendingOf st).setIfInBounds i (sa,na+nb,p)).eraseIdxIfInBounds (i+1)->(arrOf st').toList=P++(C++T)->C.Perm (Al++Bl)->dF k C->Q true st'):wpS (model prog w) A E s (mergeAt' i) Q st:=by
 rw[Ut]
 unfold mAt
 refine wpS_bind (wpS_get ?_)
 rw[h1,h2]
 dsimp only
 obtain⟨y,B',hB⟩:∃y B',Bl=y::B':=by cases Bl with
  |nil=>simp at lB;omega
  |cons y B'=>exact⟨y,B',rfl⟩
 obtain⟨A',z,hA⟩:∃A' z,Al=A' ++ [z]:=⟨Al.dropLast,Al.getLast (by intro e;subst e;simp at lA;omega),(List.dropLast_concat_getLast _).symm⟩
 have Zc9:∀{Q:PUnit->SortSt->Prop} (st1:SortSt),Q ⟨⟩ st1->wpS (model prog w) A E s (set st1:SM PUnit) Q st:=λst1 hq=>by
  unfold wpS
  rw[StateT.run_set]
  exact wpAny_pure ⟨rfl,hq⟩
 refine wpS_bind (Zc9 _ ?_)
 generalize KQ:setPending st (((pendingOf st).setIfInBounds i (sa,na+nb,p)).eraseIdxIfInBounds (i+1))=st1
 have k1:kindOf st1=κ:= by rw[<-KQ];exact hk
 have f1:failedOf st1=none:=by rw[<-KQ];exact hf
 have p1:pendingOf st1=((pendingOf st).setIfInBounds i (sa,na+nb,p)).eraseIdxIfInBounds (i+1):=by rw[<-KQ]
 have r1:arrOf st1=arrOf st:=by rw[<-KQ]
 generalize hxs:arrOf st=xs at *
 have hsz:sa+na+nb<=xs.size:=by
  have:=congrArg List.length hL
  simp at this
  omega
 have hdA:(xs.toList.drop sa).take na=Al:=by rw[hL,<-lP,List.drop_left,<-lA,List.take_left]
 have hdB:(xs.toList.drop (sa+na)).take nb=Bl:=by
  rw[hL,<-lP,<-lA,<-List.drop_drop,List.drop_left,List.drop_left,<-lB,List.take_left]
 obtain⟨hyl,hy⟩:=Gp (xs:=xs) (P:=P++Al) (x:=y) (T:=B'++T) (i:=sa+na) (by rw[hL,hB];simp) (by simp[lP,lA])
 refine wpS_bind (Ļ hyl ?_)
 rw[hy]
 have Dy:D y:=hD y (by rw[hL,hB];simp)
 have Dz:D z:=hD z (by rw[hL,hA];simp)
 refine wpS_bind (qw hc k1 Dy hD (by omega) a0 (by rw[hdA];exact sA) λr hr c1 c2=>?_)
 simp only[Bool.false_eq_true,if_false] at c1 c2
 rw[hdA] at c2
 have c1':∀x∈Al.take r,k x<=k y:=λx hx=>c1 x (by
  rw[<-hdA,List.take_take,Nat.min_eq_left hr] at hx
  exact hx)
 dsimp only
 have yB:∀x∈Bl,k y<=k x:=by
  rw[hB] at sB ⊢
  intro x hx
  rcases List.mem_cons.mp hx with rfl|hx
  ·exact Int.le_refl _
  ·exact(List.pairwise_cons.mp sB).1 x hx
 have zA:∀x∈Al,k x<=k z:=by
  rw[hA] at sA ⊢
  intro x hx
  rcases List.mem_append.mp hx with hx|hx
  ·exact(List.pairwise_append.mp sA).2.2 x hx z (.head _)
  ·rw[List.mem_singleton.mp hx];exact Int.le_refl _
 by_cases e0:na-r=0
 ·rw[if_pos (by simpa using e0)]
  have er:Al.take r=Al:=List.take_of_length_le (by omega)
  rw[er] at c1'
  refine wpS_pure (hq st1 (Al++Bl) k1 f1 p1 (by rw[r1,hL];simp) (.refl _) (sA.app sB λx hx b hb=>Int.le_trans (c1' x hx) (yB b hb)))
 ·rw[if_neg (by simpa using e0)]
  obtain⟨hzl,hz⟩:=Gp (xs:=xs) (P:=P++A') (x:=z) (T:=Bl++T) (i:=sa+r+(na-r)-1) (by rw[hL,hA];simp) (by rw[hA] at lA;simp at lA ⊢;omega)
  refine wpS_bind (Ļ hzl ?_)
  rw[hz]
  refine wpS_bind (qw hc k1 Dz hD (by omega) (by omega) (by rw[hdB];exact sB) λq hqn d1 d2=>?_)
  simp only[if_true] at d1 d2
  rw[hdB] at d2
  have d1':∀x∈Bl.take q,k x<k z:=λx hx=>d1 x (by
   rw[<-hdB,List.take_take,Nat.min_eq_left hqn] at hx
   exact hx)
  dsimp only
  by_cases q0:q=0
  ·rw[if_pos (by simpa using q0)]
   subst q0
   refine wpS_pure (hq st1 (Al++Bl) k1 f1 p1 (by rw[r1,hL];simp) (.refl _) (sA.app sB λx hx b hb=>Int.le_trans (zA x hx) (d2 b hb)))
  ·rw[if_neg (by simpa using q0)]
   have ex:(xs.extract (sa+r) (sa+na)).toList=Al.drop r:=by
    rw[ſ,show sa+na-(sa+r)=na-r by omega,<-List.drop_drop,<-List.drop_take]
    rw[hdA]
   have ey:(xs.extract (sa+na) (sa+na+q)).toList=Bl.take q:=by
    rw[ſ,show sa+na+q-(sa+na)=q by omega,<-hdB,List.take_take,Nat.min_eq_left hqn]
   generalize hX:xs.extract (sa+r) (sa+na)=X at ex
   generalize hY:xs.extract (sa+na) (sa+na+q)=Y at ey
   have zX:X.size=na-r:=by rw[<-Array.length_toList,ex,List.length_drop,lA]
   have zY:Y.size=q:=by rw[<-Array.length_toList,ey,List.length_take,lB];omega
   have DX:∀x∈X.toList,D x:=λx hx=>hD x (by rw[ex] at hx;rw[hL];simp[List.mem_of_mem_drop hx])
   have DY:∀x∈Y.toList,D x:=λx hx=>hD x (by rw[ey] at hx;rw[hL];simp[List.mem_of_mem_take hx])
   have sX:dF k X.toList:=by rw[ex];exact sA.sublist (List.drop_sublist _ _)
   have sY:dF k Y.toList:=by rw[ey];exact sB.sublist (List.take_sublist _ _)
   have hFh:∀b∈Y.toList.take 1,∀x∈X.toList,k b<=k x:=λb hb x hx=>by
    rw[ey,hB] at hb
    rw[ex] at hx
    have:b=y:=by
     have hq1:q=(q-1)+1:=by omega
     rw[hq1] at hb
     simpa using hb
    rw[this]
    exact Int.le_of_lt (c2 x hx)
   have hFl:∀(h0:0<Y.size),∀x∈X.toList,k Y[0]<=k x:=λh0 x hx=>hFh Y[0] (by
    rw[show Y.toList=Y[0]::Y.toList.drop 1 from by simpa using dU h0]
    exact .head _) x hx
   have hLl:∀b∈Y.toList,∀x∈X.toList.drop (X.size-1),k b<=k x:=λb hb x hx=>by
    rw[ex,zX,hA,List.drop_drop] at hx
    have la:A'.length+1=na:=by rw[hA] at lA;simpa using lA
    have:x=z:=by
     rw[show r+(na-r-1)=A'.length by omega,List.drop_left] at hx
     simpa using hx
    rw[this]
    rw[ey] at hb
    exact Int.le_of_lt (d1' b hb)
   have fin:∀(m:Array Keyed) (st2:SortSt),Sv st1 st2->Good k (X.toList++Y.toList) m.toList->wpS (model prog w) A E s (mWr (sa+r) m) Q st2:=by
    intro m st2 sv hg
    have mz:m.size=(na-r)+q:=by
     have:=hg.1.length_eq
     simp at this
     omega
    unfold mWr
    refine wpS_bind (wpS_modify (wpS_bind (wpS_get ?_)))
    have f2:failedOf st2=none:=sv.fail.trans f1
    show wpS _ _ _ _ (pure (failedOf st2).isNone) Q _
    rw[f2]
    have a2:arrOf st2=xs:=sv.arr.trans r1
    have hC:(wr (sa+r) m (arrOf st2)).toList=P++((Al.take r++m.toList++Bl.drop q)++T):=by
     rw[a2,Zab _ _ _ (by omega),hL]
     have t1:(P++(Al++(Bl++T))).take (sa+r)=P++Al.take r:=by
      rw[<-lP,List.take_length_add_append,List.take_append_of_le_length (by omega)]
     have t2:(P++(Al++(Bl++T))).drop (sa+r+m.size)=Bl.drop q++T:=by
      rw[show sa+r+m.size=P.length+(Al.length+q) by omega,<-List.drop_drop,List.drop_left,<-List.drop_drop,List.drop_left,List.drop_append_of_le_length (by omega)]
     rw[t1,t2]
     simp
    refine wpS_pure (hq _ (Al.take r++m.toList++Bl.drop q) (sv.kind.trans k1) f2 (sv.pend.trans p1) hC ?_ ?_)
    ·have g1:=hg.1
     rw[ex,ey] at g1
     refine((g1.append_left (Al.take r)).append_right (Bl.drop q)).trans ?_
     have e1:Al.take r++(Al.drop r++Bl.take q)++Bl.drop q=Al++Bl:=by
      rw[<-List.append_assoc,List.take_append_drop,List.append_assoc,List.take_append_drop]
     rw[e1]
    ·have mem:∀x∈m.toList,x∈Al.drop r∨x∈Bl.take q:=fun x hx=>by
      have:=hg.1.mem_iff.mp hx
      rw[ex,ey] at this
      exact List.mem_append.mp this
     refine dF.app (dF.app (sA.sublist (List.take_sublist _ _)) hg.2 λx hx b hb=>?_) (sB.sublist (List.drop_sublist _ _)) λx hx b hb=>?_
     ·rcases mem b hb with z1|z1
      ·have:=sA
       rw[<-List.take_append_drop r Al] at this
       exact(List.pairwise_append.mp this).2.2 x hx b z1
      ·exact Int.le_trans (c1' x hx) (yB b (List.mem_of_mem_take z1))
     ·rcases List.mem_append.mp hx with z1|z1
      ·exact Int.le_trans (zA x (List.mem_of_mem_take z1)) (d2 b hb)
      ·rcases mem x z1 with z2|z2
       ·exact Int.le_trans (zA x (List.mem_of_mem_drop z2)) (d2 b hb)
       ·have:=sB
        rw[<-List.take_append_drop q Bl] at this
        exact(List.pairwise_append.mp this).2.2 x z2 b hb
   split
   ·exact wpS_bind (Uk hc k1 DX DY sX sY (by omega) (by omega) (hFl (by omega)) hLl fin)
   ·exact wpS_bind (Us hc k1 DX DY sX sY (by omega) (by omega) hFh hLl fin)
end
end jg
namespace jg
open PySem PyProof.Rows
abbrev OU:=Option Unit×Unit
def zK(lo n:Nat):SM (ForInStep (Option Unit×Nat)):=modify (λs=>setPending s ((pendingOf s).push (lo,n,0))) >>= λ_=>pure (.yield (none,lo+n))
def xH(size pw:Nat):SM OU:=forIn [:size] ((none,()):OU) λ_ _=>get >>= λs=>match(if(pendingOf s).size>1 then(pendingOf s)[(pendingOf s).size-2]? else none) with
 |some (_,_,o)=>if o<=pw then pure (.done (none,())) else mergeAt' ((pendingOf s).size-2) >>= λc=>if(!c)=true then pure (.done (some (),())) else pure (.yield (none,()))
 |_=>pure (.done (none,()))
def KR(size lo n:Nat):SM (ForInStep (Option Unit×Nat)):=get >>= λs=>match(pendingOf s).back? with
 |some (s1,n1,_)=>xH size (power' size (2*s1+n1) (2*s1+n1+n1+n) size) >>= λq=>(match q.1 with
  |some r=>pure (.done (some r,lo))
  |none=>modify (λs=>setPending s ((pendingOf s).modify ((pendingOf s).size-1) λz=>match z with|(st,len,_)=>(st,len,power' size (2*s1+n1) (2*s1+n1+n1+n) size))) >>= λ_=>zK lo n)
 |_=>zK lo n
def Gq(size minrun:Nat)(q:Option Unit×Nat):SM (ForInStep (Option Unit×Nat)):=
 if q.2 >= size then pure (.done (none,q.2)) else countRun' q.2 (size-q.2) >>= λr=>match r with
  |some n=>if n<minrun then liftM (rule "list.sort.binary-insertion") >>= λ_=>Gj q.2 (min (size-q.2) minrun) n >>= λc=>(if(!c)=true then pure (.done (some (),q.2)) else KR size q.2 (min (size-q.2) minrun)) else KR size q.2 n
  |_=>pure (.done (some (),q.2))
def Gs(p:Array (Nat×Nat×Nat)):Nat:=if Option.any (λx=>decide (x<p[p.size-2+1]?.elim 0 λx=>x.2.1)) (if p.size-2>0 then Option.map (λx=>x.2.1) p[p.size-2-1]? else none)=true then p.size-2-1 else p.size-2
def Zac(size:Nat):SM OU:=forIn [:size] ((none,()):OU) λ_ _=>get >>= λs=>if(pendingOf s).size<=1 then pure (.done (none,())) else mergeAt' (Gs (pendingOf s)) >>= λc=>if(!c)=true then pure (.done (some (),())) else pure (.yield (none,()))
def Zad:SM Unit:=get >>= λs=>(forIn [:(arrOf s).size] ((none,0):Option Unit×Nat) λ_ q=>Gq (arrOf s).size (minRun' (arrOf s).size (arrOf s).size 0) q) >>= λq=>match q.1 with
 |some r=>pure r
 |none=>Zac (arrOf s).size >>= λq=>match q.1 with
  |some r=>pure r
  |none=>pure ()
def KY:sortRuns'=Zad:=by kernel_rfl
def œ(k:Keyed->Int):Nat->List (Nat×Nat×Nat)->List (List Keyed)->Prop
 |_,[],[]=>True
 |s,r::rs,g::gs=>r.1=s/\r.2.1=g.length/\0<g.length/\dF k g/\œ k (s+g.length) rs gs
 |_,_,_=>False
section
variable{k:Keyed->Int}
theorem œ.len:∀{s:Nat} {rs:List (Nat×Nat×Nat)} {gs:List (List Keyed)},œ k s rs gs->rs.length=gs.length/\gs.length<=gs.flatten.length
 |_,[],[],_=>⟨rfl,by simp⟩
 |s,r::rs,g::gs,h=>by
  obtain⟨h1,h2⟩:=œ.len h.2.2.2.2
  have:=h.2.2.1
  simp[-List.length_flatten]
  omega
 |_,[],_::_,h=>h.elim
 |_,_::_,[],h=>h.elim
theorem œ.push{g:List Keyed}(h0:0<g.length)(hg:dF k g){p:Nat}:∀{s:Nat} {rs:List (Nat×Nat×Nat)} {gs:List (List Keyed)},œ k s rs gs->œ k s (rs ++ [(s+gs.flatten.length,g.length,p)]) (gs ++ [g])
 |s,[],[],_=>⟨by simp,rfl,h0,hg,trivial⟩
 |s,r::rs,g'::gs,h=>by
  refine⟨h.1,h.2.1,h.2.2.1,h.2.2.2.1,?_⟩
  have:=œ.push h0 hg (p:=p) h.2.2.2.2
  rw[show s+(g'::gs).flatten.length=s+g'.length+gs.flatten.length by simp[-List.length_flatten];omega]
  exact this
 |_,[],_::_,h=>h.elim
 |_,_::_,[],h=>h.elim
theorem œ.mod{f:Nat×Nat×Nat->Nat×Nat×Nat}(hf:∀r,(f r).1=r.1/\(f r).2.1=r.2.1):∀{s:Nat} {rs:List (Nat×Nat×Nat)} {gs:List (List Keyed)} (j:Nat),œ k s rs gs->œ k s (rs.modify j f) gs
 |s,[],[],j,_=>by cases j<;>exact trivial
 |s,r::rs,g::gs,0,h=>⟨(hf r).1.trans h.1,(hf r).2.trans h.2.1,h.2.2.1,h.2.2.2.1,h.2.2.2.2⟩
 |s,r::rs,g::gs,j+1,h=>⟨h.1,h.2.1,h.2.2.1,h.2.2.2.1,œ.mod hf j h.2.2.2.2⟩
 |_,[],_::_,_,h=>h.elim
 |_,_::_,[],_,h=>h.elim
theorem œ.split:∀(i:Nat) {s:Nat} {rs:List (Nat×Nat×Nat)} {gs:List (List Keyed)},œ k s rs gs->i+1<rs.length->
 ∃R1 R2 G1 G2 Al Bl p p2,rs=R1++(s+G1.flatten.length,Al.length,p)::(s+G1.flatten.length+Al.length,Bl.length,p2)::R2/\R1.length=i/\gs=G1++Al::Bl::G2/\0<Al.length/\0<Bl.length/\dF k Al/\dF k Bl/\
  ∀C:List Keyed,C.length=Al.length+Bl.length->dF k C->œ k s (R1++(s+G1.flatten.length,Al.length+Bl.length,p)::R2) (G1++C::G2)
 |0,s,r::r2::rs,g::g2::gs,h,_=>by
  obtain⟨a,n,p⟩:=r
  obtain⟨b,m,p2⟩:=r2
  obtain⟨h1,h2,h3,h4,k1,k2,k3,k4,k5⟩:=h
  dsimp only at h1 h2 k1 k2
  subst h1 h2 k1 k2
  refine⟨[],rs,[],gs,g,g2,p,p2,by simp,rfl,rfl,h3,k3,h4,k4,λC hC sC=>⟨by simp,by simp[hC],by omega,sC,?_⟩⟩
  rw[hC,<-Nat.add_assoc]
  exact k5
 |i+1,s,r::rs,g::gs,h,hl=>by
  obtain⟨R1,R2,G1,G2,Al,Bl,p,p2,e1,e2,e3,e4,e5,e6,e7,e8⟩:=œ.split i h.2.2.2.2 (by simpa using hl)
  have ea:s+(g::G1).flatten.length=s+g.length+G1.flatten.length:=by simp[-List.length_flatten];omega
  refine⟨r::R1,R2,g::G1,G2,Al,Bl,p,p2,by rw[ea,e1];rfl,by simp[e2],by rw[e3];rfl,e4,e5,e6,e7,λC hC sC=>⟨h.1,h.2.1,h.2.2.1,h.2.2.2.1,?_⟩⟩
  rw[ea]
  exact e8 C hC sC
 |_,_,[],[],_,hl=>by simp at hl
 |0,_,[_],[_],_,hl=>by simp at hl
 |_,_,[],_::_,h,_=>h.elim
 |_,_,_::_,[],h,_=>h.elim
 |0,_,[_],_::_::_,h,_=>h.2.2.2.2.elim
 |0,_,_::_::_,[_],h,_=>h.2.2.2.2.elim
end
section
variable{prog:Program}{w:World}{A:Around}{E:Value->Shared->Prop}{s:Shared}{st:SortSt}{κ:SortKind}{k:Keyed->Int}{D:Keyed->Prop}{N rest:List Keyed}
structure SI(κ:SortKind)(k:Keyed->Int)(D:Keyed->Prop)(N:List Keyed)(st:SortSt)(rest:List Keyed)(n:Nat):Prop where
 kind:kindOf st=κ
 fail:failedOf st=none
 perm:(arrOf st).toList.Perm N
 dom:∀x∈N,D x
 runs:∃gs,œ k 0 (pendingOf st).toList gs/\(arrOf st).toList=gs.flatten++rest/\gs.flatten.length=n
def Nm{i n:Nat}{Q:Bool->SortSt->Prop}(hc:jh prog w A s κ k D)(h:SI κ k D N st rest n)(hi:i+1<(pendingOf st).size)(hq:∀st',SI κ k D N st' rest n->(pendingOf st').size+1=(pendingOf st).size->Q true st'):wpS (model prog w) A E s (mergeAt' i) Q st:=by
 obtain⟨gs,r1,r2,r3⟩:=h.runs
 obtain⟨R1,R2,G1,G2,Al,Bl,p,p2,e1,e2,e3,e4,e5,e6,e7,e8⟩:=œ.split i r1 (by simpa using hi)
 rw[Nat.zero_add] at e1 e8
 have i1:(pendingOf st)[i]?=some (G1.flatten.length,Al.length,p):=by
  rw[<-Array.getElem?_toList,e1,<-e2,List.getElem?_append_right (Nat.le_refl _),Nat.sub_self];rfl
 have i2:(pendingOf st)[i+1]?=some (G1.flatten.length+Al.length,Bl.length,p2):=by
  rw[<-Array.getElem?_toList,e1,<-e2,List.getElem?_append_right (by omega),show R1.length+1-R1.length=1 by omega];rfl
 have hL:(arrOf st).toList=G1.flatten++(Al++(Bl++(G2.flatten++rest))):=by rw[r2,e3];simp
 refine Uu hc h.kind h.fail (λx hx=>h.dom x (h.perm.mem_iff.mp hx)) i1 i2 hL rfl rfl rfl e4 e5 e6 e7 λst' C c1 c2 c3 c4 c5 c6=>?_
 have cl:C.length=Al.length+Bl.length:=by rw[c5.length_eq,List.length_append]
 have ep:(pendingOf st').toList=R1++(G1.flatten.length,Al.length+Bl.length,p)::R2:=by
  rw[c3,Array.toList_eraseIdxIfInBounds,Array.toList_setIfInBounds,e1,List.set_append_right _ _ (by omega),e2,Nat.sub_self,List.set_cons_zero,List.eraseIdx_append_of_length_le (by omega),e2,show i+1-i=1 by omega]
  rfl
 refine hq st' ⟨c1,c2,?_,h.dom,G1++C::G2,by rw[ep];exact e8 C cl c6,by rw[c4];simp,?_⟩ ?_
 ·rw[c4]
  refine List.Perm.trans ?_ h.perm
  rw[hL]
  refine List.Perm.append_left _ ?_
  rw[<-List.append_assoc Al]
  exact c5.append_right _
 ·rw[<-r3,e3]
  simp[cl,-List.length_flatten]
  omega
 ·have z1:=congrArg List.length ep
  have z2:=congrArg List.length e1
  simp at z1 z2
  omega
def Gu{size pw n:Nat}{Q:OU->SortSt->Prop}(hc:jh prog w A s κ k D)(h:SI κ k D N st rest n)(hq:∀st',SI κ k D N st' rest n->Q (none,()) st'):wpS (model prog w) A E s (xH size pw) Q st:=by
 unfold xH
 refine wpS_mono (wpS_forRange (I:=λ_ (c:OU) st'=>c=(none,())/\SI κ k D N st' rest n) (Q:=λ(c:OU) st'=>c=(none,())/\SI κ k D N st' rest n) ?step ?fin ⟨rfl,h⟩) ?post
 case fin=>rintro c st' z;exact z
 case post=>rintro c st' ⟨rfl,z⟩;exact hq st' z
 case step=>
  rintro x c st' _ _ ⟨rfl,h'⟩
  refine wpS_bind (wpS_get ?_)
  split
  ·rename_i a b o e
   split
   ·exact wpS_pure ⟨rfl,h'⟩
   ·have hs:(pendingOf st').size>1:=by
     by_cases z:(pendingOf st').size>1
     ·exact z
     ·rw[if_neg z] at e;cases e
    exact wpS_bind (Nm hc h' (by omega) λst2 h2 _=>wpS_pure ⟨rfl,h2⟩)
  ·exact wpS_pure ⟨rfl,h'⟩
def zL{lo n:Nat}{Q:ForInStep (Option Unit×Nat)->SortSt->Prop}(h:SI κ k D N st rest lo)(h0:0<n)(hn:n<=rest.length)(hs:dF k (rest.take n))(hq:∀st',SI κ k D N st' (rest.drop n) (lo+n)->Q (.yield (none,lo+n)) st'):wpS (model prog w) A E s (zK lo n) Q st:=by
 unfold zK
 refine wpS_bind (wpS_modify (wpS_pure (hq _ ?_)))
 obtain⟨gs,r1,r2,r3⟩:=h.runs
 have hl:(rest.take n).length=n:=by rw[List.length_take];omega
 refine⟨h.kind,h.fail,h.perm,h.dom,gs ++ [rest.take n],?_,?_,?_⟩
 ·have:=œ.push (k:=k) (g:=rest.take n) (p:=0) (by omega) hs r1
  rw[hl,r3,Nat.zero_add] at this
  show œ k 0 ((pendingOf st).push (lo,n,0)).toList _
  rw[Array.toList_push]
  exact this
 ·show(arrOf st).toList=_
  rw[r2]
  simp
 ·simp only[List.flatten_append,List.length_append,List.flatten_cons,List.flatten_nil,List.append_nil,hl]
  omega
def Gv{size lo n:Nat}{Q:ForInStep (Option Unit×Nat)->SortSt->Prop}(hc:jh prog w A s κ k D)(h:SI κ k D N st rest lo)(h0:0<n)(hn:n<=rest.length)(hs:dF k (rest.take n))(hq:∀st',SI κ k D N st' (rest.drop n) (lo+n)->Q (.yield (none,lo+n)) st'):wpS (model prog w) A E s (KR size lo n) Q st:=by
 unfold KR
 refine wpS_bind (wpS_get ?_)
 split
 ·refine wpS_bind (Gu hc h λst1 h1=>?_)
  dsimp only
  refine wpS_bind (wpS_modify (zL (rest:=rest) ?_ h0 hn hs hq))
  obtain⟨gs,r1,r2,r3⟩:=h1.runs
  refine⟨h1.kind,h1.fail,h1.perm,h1.dom,gs,?_,r2,r3⟩
  show œ k 0 ((pendingOf st1).modify _ _).toList gs
  rw[Array.toList_modify]
  refine œ.mod ?_ _ r1
  intro r
  exact⟨rfl,rfl⟩
 ·exact zL h h0 hn hs hq
def Gw{xs:Array Keyed}{F rest:List Keyed}{lo m:Nat}(hL:xs.toList=F++rest)(hF:F.length=lo)(hm:m<=rest.length)(h:Up k xs lo m):dF k (rest.take m):=by
 refine List.pairwise_iff_getElem.mpr λi j hi hj hij=>?_
 have at_:∀i (hi:i<(rest.take m).length),kx k xs (lo+i)=k (rest.take m)[i]:=λi hi=>by
  unfold kx
  have:xs[lo+i]?=some (rest.take m)[i]:=by
   rw[<-Array.getElem?_toList,hL,<-hF,List.getElem?_append_right (by omega),show F.length+i-F.length=i by omega,List.getElem_take,List.getElem?_eq_getElem]
  rw[this]
 rw[<-at_ i hi,<-at_ j hj]
 exact h i j (by omega) (by simp at hj;omega)
def SI.fm{lo:Nat}{st':SortSt}(h:SI κ k D N st rest lo)(f:Fm κ D lo st st'):∃rest',SI κ k D N st' rest' lo/\rest'.length=rest.length/\∃F:List Keyed,F.length=lo/\(arrOf st').toList=F++rest':=by
 obtain⟨gs,r1,r2,r3⟩:=h.runs
 have tk:(arrOf st').toList.take lo=gs.flatten:=by
  have e:(arrOf st').toList.take lo=(arrOf st).toList.take lo:=by
   refine List.ext_getElem? λi=>?_
   by_cases hi:i<lo
   ·rw[List.getElem?_take_of_lt hi,List.getElem?_take_of_lt hi,Array.getElem?_toList,Array.getElem?_toList]
    exact f.low i hi
   ·rw[List.getElem?_take_eq_none (by omega),List.getElem?_take_eq_none (by omega)]
  rw[e,r2,<-r3,List.take_left]
 have eL:(arrOf st').toList=gs.flatten++(arrOf st').toList.drop lo:=by rw[<-tk,List.take_append_drop]
 refine⟨(arrOf st').toList.drop lo,⟨f.kind,f.fail.trans h.fail,f.perm.toList.trans h.perm,h.dom,gs,by rw[f.pend];exact r1,eL,r3⟩,?_,gs.flatten,r3,eL⟩
 have z1:=f.perm.toList.length_eq
 have z2:=congrArg List.length r2
 simp[-List.length_flatten] at z1 z2
 rw[List.length_drop]
 simp
 omega
def KZ{size mr lo:Nat}(hc:jh prog w A s κ k D)(h:SI κ k D N st rest lo)(hz:N.length=size) :
 wpS (model prog w) A E s (Gq size mr (none,lo)) (λr st'=>match r with
  | .done q=>q=(none,lo)/\lo >= size/\SI κ k D N st' rest lo
  | .yield q=>∃lo' rest',q=(none,lo')/\lo<lo'/\SI κ k D N st' rest' lo') st:=by
 unfold Gq
 dsimp only
 by_cases hl:lo >= size
 ·rw[if_pos hl]
  exact wpS_pure ⟨rfl,hl,h⟩
 ·rw[if_neg hl]
  have hsz:(arrOf st).size=size:=by rw[<-Array.length_toList,h.perm.length_eq,hz]
  have hrl:rest.length=size-lo:=by
   obtain⟨gs,r1,r2,r3⟩:=h.runs
   have:=congrArg List.length r2
   simp[-List.length_flatten] at this
   omega
  have fm0:Fm κ D lo st st:=⟨h.kind,rfl,rfl,.refl _,λ_ _=>rfl,λx hx=>h.dom x (h.perm.mem_iff.mp hx)⟩
  refine wpS_bind (KN hc (by omega) (by omega) fm0 λm st1 f1 m1 m2 u1=>?_)
  dsimp only
  by_cases hm:m<mr
  ·rw[if_pos hm]
   refine wpS_bind (ji ?_)
   refine wpS_bind (Gn hc (by omega) m1 (by omega) f1 u1 λst2 f2 u2=>?_)
   rw[if_neg (by simp)]
   obtain⟨Zae,h2,l2,F,hF,hL⟩:=h.fm f2
   exact Gv hc h2 (by omega) (by omega) (Gw hL hF (by omega) u2) λst3 h3=>⟨_,_,rfl,by omega,h3⟩
  ·rw[if_neg hm]
   obtain⟨Zae,h2,l2,F,hF,hL⟩:=h.fm f1
   exact Gv hc h2 (by omega) (by omega) (Gw hL hF (by omega) u1) λst3 h3=>⟨_,_,rfl,by omega,h3⟩
def Gx(p:Array (Nat×Nat×Nat))(h:¬p.size<=1):Gs p+1<p.size:=by
 unfold Gs
 generalize Option.any _ _=c
 cases c<;>simp<;>omega
def K_{Q:Unit->SortSt->Prop}(hc:jh prog w A s κ k D)(hk:kindOf st=κ)(hf:failedOf st=none)(hp:pendingOf st= #[])(hD:∀x∈(arrOf st).toList,D x)
 (hq:∀st',(arrOf st').toList.Perm (arrOf st).toList->failedOf st'=none->dF k (arrOf st').toList->Q () st'):wpS (model prog w) A E s sortRuns' Q st:=by
 rw[KY]
 unfold Zad
 refine wpS_bind (wpS_get ?_)
 have h0:SI κ k D (arrOf st).toList st (arrOf st).toList 0:=⟨hk,hf,.refl _,hD,[],by rw[hp];exact trivial,by simp,rfl⟩
 refine wpS_bind (wpS_mono (wpS_forRange (I:=λx (c:Option Unit×Nat) st'=>∃lo rest,c=(none,lo)/\x<=lo/\SI κ k D (arrOf st).toList st' rest lo) (Q:=λ(c:Option Unit×Nat) st'=>∃lo rest,c=(none,lo)/\(arrOf st).size<=lo/\SI κ k D (arrOf st).toList st' rest lo) ?step ?fin ⟨0,_,rfl,Nat.le_refl _,h0⟩) ?post)
 case fin=>
  rintro c st' ⟨lo,rest,rfl,z1,z2⟩
  exact⟨lo,rest,rfl,by omega,z2⟩
 case step=>
  rintro x c st' _ _ ⟨lo,rest,rfl,z1,z2⟩
  refine wpS_mono (KZ hc z2 (by simp)) λr st2 z=>?_
  cases r with
  |done q=>obtain⟨rfl,y1,y2⟩:=z;exact⟨lo,rest,rfl,y1,y2⟩
  |yield q=>obtain⟨lo',rest',rfl,y1,y2⟩:=z;exact⟨lo',rest',rfl,by omega,y2⟩
 case post=>
  rintro c st1 ⟨lo,rest,rfl,z1,z2⟩
  dsimp only
  have hrest:rest=[]:=by
   obtain⟨gs,r1,r2,r3⟩:=z2.runs
   have y1:=congrArg List.length r2
   have y2:=z2.perm.length_eq
   simp[-List.length_flatten] at y1 y2
   exact List.length_eq_zero_iff.mp (by omega)
  subst hrest
  have hlo:lo=(arrOf st).size:=by
   obtain⟨gs,r1,r2,r3⟩:=z2.runs
   have y1:=congrArg List.length r2
   have y2:=z2.perm.length_eq
   simp[-List.length_flatten] at y1 y2
   omega
  unfold Zac
  refine wpS_bind (wpS_mono (wpS_forRange (I:=λx (c:OU) st'=>c=(none,())/\SI κ k D (arrOf st).toList st' [] lo/\(pendingOf st').size+x<=(arrOf st).size+1) (Q:=λ(c:OU) st'=>c=(none,())/\SI κ k D (arrOf st).toList st' [] lo/\(pendingOf st').size<=1) ?vf ?fin2 ⟨rfl,z2,?init⟩) ?post2)
  case init=>
   obtain⟨gs,r1,r2,r3⟩:=z2.runs
   have:=œ.len r1
   simp[-List.length_flatten] at this
   omega
  case fin2=>
   rintro c st' ⟨rfl,y1,y2⟩
   exact⟨rfl,y1,by omega⟩
  case vf=>
   rintro x c st' _ _ ⟨rfl,y1,y2⟩
   refine wpS_bind (wpS_get ?_)
   by_cases hs:(pendingOf st').size<=1
   ·rw[if_pos hs]
    exact wpS_pure ⟨rfl,y1,hs⟩
   ·rw[if_neg hs]
    exact wpS_bind (Nm hc y1 (Gx _ hs) λst2 h2 e2=>wpS_pure ⟨rfl,h2,by omega⟩)
  case post2=>
   rintro c st2 ⟨rfl,y1,y2⟩
   dsimp only
   refine wpS_pure (hq st2 y1.perm y1.fail ?_)
   obtain⟨gs,r1,r2,r3⟩:=y1.runs
   rw[r2,List.append_nil]
   have:=(œ.len r1).1
   match gs,r1 with
   | [],_=>exact .nil
   | [g],r1=>
     match hh:(pendingOf st2).toList,r1 with
     | [r],r1=>simpa using r1.2.2.2.1
     | [],r1=>exact r1.elim
     |_::_::_,r1=>exact r1.2.2.2.2.elim
   |_::_::_,_=>simp at this;omega
end
end jg
namespace jg
open PySem PyProof.Rows
theorem dH:∀vs:List Value,vs.zip vs=vs.map λv=>(v,v)
 | []=>rfl
 |v::vs=>by rw[List.zip_cons_cons,List.map_cons,dH vs]
def zM(vs:List Value):(vs.toArray.zip vs.toArray).toList=vs.map λv=>(v,v):=by
 rw[<-dH]
 simp
section
variable{prog:Program}{w:World}{A:Around}{E:Value->Shared->Prop}{s:Shared}
def Np{a:Addr}{vs:List Value}{n:Nat}{κ:SortKind}{kv:Value->Int}{P:PySem.Fin->Shared->Prop}(ho:s.heap.get? a=some (seqObj "list" vs.toArray n))(hz:vs.length<=sizeLine)
 (hkd:2<=vs.length->∀(h':Heap),(∀b o,b≠a->s.heap.get? b=some o->h'.get? b=some o)->∀(Q:SortKind->Shared->Prop),Q κ {s with heap:=h'}->wpAny (model prog w) A (keyKind' vs.toArray) Q E {s with heap:=h'})
 (hcm:∀(h':Heap),(∀b o,b≠a->s.heap.get? b=some o->h'.get? b=some o)->jh prog w A {s with heap:=h'} κ (λx=>kv x.1) (λx=>x.1∈vs))
 (h:∀out:List Value,out.Perm vs->out.Pairwise (λx y=>kv x<=kv y)->P (.done (.ret .none)) {s with heap:=sortedHeap s.heap a vs out.toArray}) :
 wpAny (model prog w) A (Builtin.«list.sort» ⟨[.ref a],[]⟩) P E s:=by
 rw[list_sort_plain]
 have ha:a<s.heap.objs.size:=Heap.lt_size ho
 refine wpAny_bind (listItems_at ho rfl ?_)
 refine wpAny_bind (listUpdate_at ho rfl ?_ (by simpa using hz))
 obtain⟨e1,ho1⟩:∃e1,(s.heap.update a (Obj.mapSeq λ_=> #[])).get? a=some (seqObj "list" #[] e1):=⟨_,get?_update_seq ho (λ_=> #[])⟩
 refine wpAny_bind (seqEpoch_at ho1 rfl ?_)
 refine wpAny_bind (wpAny_newTuple ?_ (by simpa using hz))
 refine wpAny_bind (wpAny_newList ?_)
 refine wpAny_holding ?_
 have kp:∀b o,b≠a->s.heap.get? b=some o->(((s.heap.update a (Obj.mapSeq λ_=> #[])).push (seqObj "tuple" vs.toArray 0)).push (seqObj "list" #[] 0)).get? b=some o:=λb o hb e=>
  Heap.get?_push_of_some _ (Heap.get?_push_of_some _ ((Heap.get?_update_other _ _ (Ne.symm hb)).trans e))
 have ho6:(((s.heap.update a (Obj.mapSeq λ_=> #[])).push (seqObj "tuple" vs.toArray 0)).push (seqObj "list" #[] 0)).get? a=some (seqObj "list" #[] e1):=Heap.get?_push_of_some _ (Heap.get?_push_of_some _ ho1)
 show wpAny (model prog w) A _ P E {s with heap:=((s.heap.update a (Obj.mapSeq λ_=> #[])).push (seqObj "tuple" vs.toArray 0)).push (seqObj "list" #[] 0)}
 dsimp only
 by_cases h2:vs.toArray.size<2
 ·rw[if_pos h2,if_pos h2]
  refine wpAny_bind (wpAny_pure ?_)
  rw[StateT.run_pure]
  refine wpAny_bind (wpAny_pure ?_)
  dsimp only
  refine wpAny_bind (seqEpoch_at ho6 rfl ?_)
  have eo:(arrOf (SortSt.mk' general' (vs.toArray.zip vs.toArray) #[] 7 none)).map (·.2)=vs.toArray:=by
   show(vs.toArray.zip vs.toArray).map (·.2)=vs.toArray
   apply Array.toList_inj.mp
   rw[Array.toList_map,zM,List.map_map]
   exact List.map_id _
  refine wpAny_bind (listUpdate_at ho6 rfl ?_ (hsz2:=by rw[eo];simp;omega))
  simp only[bne_self_eq_false,Bool.false_eq_true,if_false]
  rw[eo]
  refine wpAny_pure (h vs (.refl _) ?_)
  match vs,h2 with
  | [],_=>exact .nil
  | [_],_=>exact List.pairwise_singleton _ _
  |_::_::_,h2=>simp at h2;omega
 ·rw[if_neg h2,if_neg h2]
  have h2':2<=vs.length:=by simpa using h2
  refine wpAny_bind (hkd h2' _ kp _ ?_)
  have mp:((vs.toArray.zip vs.toArray).toList.map (·.1))=vs/\((vs.toArray.zip vs.toArray).toList.map (·.2))=vs/\∀x∈(vs.toArray.zip vs.toArray).toList,x.1=x.2:=by
   rw[zM]
   refine⟨by rw[List.map_map];exact List.map_id _,by rw[List.map_map];exact List.map_id _,λx hx=>?_⟩
   obtain⟨v,_,rfl⟩:=List.mem_map.mp hx
   rfl
  refine wpAny_bind (wpAny_mono (K_ (E:=E) (st:=SortSt.mk' κ (vs.toArray.zip vs.toArray) #[] 7 none) (Q:=λ_ st'=>(arrOf st').toList.Perm (vs.toArray.zip vs.toArray).toList/\failedOf st'=none/\dF (λx=>kv x.1) (arrOf st').toList)
   (hcm _ kp) rfl rfl rfl (fun x hx=>by
     have:=List.mem_map_of_mem (f:=λz:Keyed=>z.1) hx
     rw[mp.1] at this
     exact this) λst' a1 a2 a3=>⟨a1,a2,a3⟩) ?_ λ_ _ e=>e)
  rintro ⟨⟨⟩,st'⟩ s' ⟨rfl,hp,hf,hs⟩
  dsimp only
  refine wpAny_bind (seqEpoch_at ho6 rfl ?_)
  have pm:((arrOf st').map (·.2)).toList.Perm vs:=by
   rw[Array.toList_map]
   have:=hp.map (λz:Keyed=>z.2)
   rw[mp.2.1] at this
   exact this
  refine wpAny_bind (listUpdate_at ho6 rfl ?_ (hsz2:=by rw[<-Array.length_toList,pm.length_eq];omega))
  rw[hf]
  simp only[bne_self_eq_false,Bool.false_eq_true,if_false]
  have eq2:((arrOf st').map (·.2))=((arrOf st').map (·.2)).toList.toArray:=(Array.toArray_toList ..).symm
  rw[eq2]
  refine wpAny_pure (h _ pm ?_)
  rw[Array.toList_map,List.pairwise_map]
  refine hs.imp_of_mem fun{x y} hx hy hxy=>?_
  have z1:=mp.2.2 x (hp.mem_iff.mp hx)
  have z2:=mp.2.2 y (hp.mem_iff.mp hy)
  show kv x.2<=kv y.2
  rw[<-z1,<-z2]
  exact hxy
end
end jg
namespace jg
open PySem PyProof.Rows PySem.W
section
variable{prog:Program}{w:World}{A:Around}{E:Value->Shared->Prop}{s:Shared}
theorem nG:∀{vs:List Value} {ns:List Int},IntsAre vs ns->∀v∈vs,∃n t,v=.int n t
 |_,_,.nil,v,h=>by cases h
 |_,_,.cons n t r,v,h=>by
  rcases List.mem_cons.mp h with rfl|h
  ·exact⟨n,t,rfl⟩
  ·exact nG r v h
theorem qC:∀{vs:List Value} {ns:List Int},IntsAre vs ns->vs.map P.keyV=ns
 |_,_,.nil=>rfl
 |_,_,.cons n t r=>by rw[List.map_cons,qC r];rfl
def xJ{a:Addr}{vs:List Value}{ns:List Int}{n:Nat}{R:PySem.Fin->Shared->Prop}(ho:s.heap.get? a=some (seqObj "list" vs.toArray n))(hz:vs.length<=sizeLine)(hI:IntsAre vs ns)
 (h:∀(out:Array Value) (ns':List Int),IntsAre out.toList ns'->ns'.Perm ns->ns'.Pairwise (·<= ·)->R (.done (.ret .none)) {s with heap:=sortedHeap s.heap a vs out}):wpAny (model prog w) A (Builtin.«list.sort» ⟨[.ref a],[]⟩) R E s:=by
 refine Np (κ:= oneType') (kv:=P.keyV) ho hz (λh2 h' _ Q hq=>?_) (λh' _ x y hx hy Q E' hq=>?_) (λout hp hs=>?_)
 ·match vs,h2,hI with
  |v1::v2::rest,_,hI=>
   rw[keyKind_ints hI]
   exact wpAny_pure hq
  | [_],h2,_=>simp at h2
  | [],h2,_=>simp at h2
 ·obtain⟨n1,t1,e1⟩:=nG hI _ hx
  obtain⟨n2,t2,e2⟩:=nG hI _ hy
  have hq':Q (decide (n1<n2)) {s with heap:=h'}:=by
   have e:decide (P.keyV x.1<P.keyV y.1)=decide (n1<n2):=by rw[e1,e2];rfl
   rw[<-e]
   exact hq
  rw[e1,e2,keyLt'_oneType]
  exact oneLt_int hq'
 ·obtain⟨ms,m1,m2⟩:=P.rK hp hI
  refine h out.toArray ms (by simpa using m1) m2 ?_
  rw[<-qC m1,List.pairwise_map]
  exact hs
def nH(h:Heap)(M:Int)(v:Value)(p:Int×Int):Prop:=∃b o c t u,v=.ref b/\h.get? b=some o/\o.cls=.type "tuple" /\o.data=.seq #[.int p.1 t,.int p.2 u] c/\0<=p.2/\p.2<M
inductive ļ(h:Heap)(M:Int):List Value->List (Int×Int)->Prop
 |nil:ļ h M [] []
 |cons {v:Value} {p:Int×Int} {vs:List Value} {ps:List (Int×Int)} (x:nH h M v p) (r:ļ h M vs ps):ļ h M (v::vs) (p::ps)
theorem ļ.mem{h:Heap}{M:Int}:∀{vs:List Value} {ps:List (Int×Int)},ļ h M vs ps->∀v∈vs,∃p,nH h M v p
 |_,_,.nil,v,hv=>by cases hv
 |_,_,.cons x r,v,hv=>by
  rcases List.mem_cons.mp hv with rfl|hv
  ·exact⟨_,x⟩
  ·exact r.mem v hv
def ļ.perm{h:Heap}{M:Int}:∀{ws vs:List Value} {ps:List (Int×Int)},ws.Perm vs->ļ h M vs ps->∃qs,ļ h M ws qs/\qs.Perm ps:=by
 intro ws vs ps h
 induction h generalizing ps with
 |nil=>intro hi;exact⟨ps,hi,.refl _⟩
 |cons x _ ih=>
  intro hi
  cases hi with
  |cons z r=>obtain⟨ms,m1,m2⟩:=ih r;exact⟨_::ms,.cons z m1,m2.cons _⟩
 |swap x y _=>
  intro hi
  cases hi with
  |cons z r=>
   cases r with
   |cons z2 r=>exact⟨_::_::_,.cons z2 (.cons z r),.swap _ _ _⟩
 |trans _ _ ih1 ih2=>
  intro hi
  obtain⟨ms,m1,m2⟩:=ih2 hi
  obtain⟨ks,k1,k2⟩:=ih1 m1
  exact⟨ks,k1,k2.trans m2⟩
def Wo(h:Heap)(M:Int):Value->Int
 | .ref b=>match h.get? b with
   |some o=>match o.data with
    | .seq xs _=>match xs.toList with
      | [.int p _,.int q _]=>p*M+q
      |_=>0
    |_=>0
   |none=>0
 |_=>0
def xK{h:Heap}{M:Int}{v:Value}{p:Int×Int}(x:nH h M v p):Wo h M v=p.1*M+p.2:=by
 obtain⟨b,o,c,t,u,rfl,ho,hc,hd,_⟩:=x
 unfold Wo
 dsimp only
 rw[ho]
 dsimp only
 rw[hd]
theorem ļ.keys{h:Heap}{M:Int}:∀{vs:List Value} {ps:List (Int×Int)},ļ h M vs ps->vs.map (Wo h M)=ps.map λp=>p.1*M+p.2
 |_,_,.nil=>rfl
 |_,_,.cons x r=>by rw[List.map_cons,List.map_cons,r.keys,xK x]
theorem ļ.tups{h h':Heap}{M:Int}:∀{vs:List Value} {ps:List (Int×Int)},ļ h M vs ps->(∀b o,h.get? b=some o->o.cls=.type "tuple" ->h'.get? b=some o)->∃fs,KatTups h' vs fs/\fs.length=vs.length/\∀v∈fs,∃n t,v=.int n t
 |_,_,.nil,_=>⟨[],KatTups.nil,rfl,λv hv=>by cases hv⟩
 |_,_,.cons x r,k=>by
  obtain⟨fs,f1,f2,f3⟩:=r.tups k
  obtain⟨b,o,c,t,u,rfl,ho,hc,hd,_⟩:=x
  refine⟨_::fs,KatTups.cons (k b o ho hc) hc hd rfl f1,by simp[f2],λv hv=>?_⟩
  rcases List.mem_cons.mp hv with rfl|hv
  ·exact⟨_,_,rfl⟩
  ·exact f3 v hv
def La{M p q p' q':Int}(h1:0<=q)(h2:q<M)(h3:0<=q')(h4:q'<M):decide (p*M+q<p'*M+q')=if p=p' then decide (q<q') else decide (p<p'):=by
 have hM:0<M:=by omega
 by_cases e:p=p'
 ·subst e
  rw[if_pos rfl]
  simp
 ·rw[if_neg e]
  by_cases l:p<p'
  ·have:=Int.mul_le_mul_of_nonneg_right (show p+1<=p' by omega) (Int.le_of_lt hM)
   rw[Int.add_mul,Int.one_mul] at this
   simp[l]
   omega
  ·have:=Int.mul_le_mul_of_nonneg_right (show p'+1<=p by omega) (Int.le_of_lt hM)
   rw[Int.add_mul,Int.one_mul] at this
   simp[l]
   omega
def Lb{h:Heap}{M:Int}{x y:Value}{p q:Int×Int}{Q:Bool->Shared->Prop}(hx:nH h M x p)(hy:nH h M y q)(k:∀b o,h.get? b=some o->o.cls=.type "tuple" ->s.heap.get? b=some o)(hq:Q (decide (p.1*M+p.2<q.1*M+q.2)) s):wpAny (model prog w) A (keyLt' (tuples' true) x y) Q E s:=by
 obtain⟨b,o,c,t,u,rfl,ho,hc,hd,l1,l2⟩:=hx
 obtain⟨b',o',c',t',u',rfl,ho',hc',hd',l3,l4⟩:=hy
 rw[La l1 l2 l3 l4] at hq
 refine kat_lt (k b o ho hc) hd (k b' o' ho' hc') hd' ?_
 show KatLex prog w A true _ Q [(.int p.1 t,.int q.1 t'),(.int p.2 u,.int q.2 u')] 0 s
 refine kat_cons (wpAny_eqBool_int (kat_go (λe=>?_) λe=>?_))
 ·have e1:p.1=q.1:=by simpa using e
  rw[if_pos e1] at hq
  refine kat_yes (kat_cons (wpAny_eqBool_int (kat_go (λe2=>?_) λe2=>?_)))
  ·have e3:p.2=q.2:=by simpa using e2
   rw[e3] at hq
   refine kat_yes (kat_nil ?_)
   simpa using hq
  ·refine kat_no (kat_one _ _ (wpAny_lt_int ?_))
   exact hq
 ·have e1:¬p.1=q.1:=by simpa using e
  rw[if_neg e1] at hq
  refine kat_no ?_
  exact oneLt_int hq
def vm{a:Addr}{vs:List Value}{ps:List (Int×Int)}{n:Nat}{M:Int}{R:PySem.Fin->Shared->Prop}(ho:s.heap.get? a=some (seqObj "list" vs.toArray n))(hz:vs.length<=sizeLine)(hI:ļ s.heap M vs ps)
 (h:∀(out:List Value) (qs:List (Int×Int)),out.Perm vs->ļ s.heap M out qs->qs.Perm ps->(qs.map λp=>p.1*M+p.2).Pairwise (·<= ·)->R (.done (.ret .none)) {s with heap:=sortedHeap s.heap a vs out.toArray}):wpAny (model prog w) A (Builtin.«list.sort» ⟨[.ref a],[]⟩) R E s:=by
 have na:∀b o,s.heap.get? b=some o->o.cls=.type "tuple" ->b≠a:=λb o e hc z=>by
  subst z
  rw[ho] at e
  cases e
  simp at hc
 refine Np (κ:= tuples' true) (kv:=Wo s.heap M) ho hz (λh2 h' kp Q hq=>?_) (λh' kp x y hx hy Q E' hq=>?_) (λout hp hs=>?_)
 ·obtain⟨fs,f1,f2,f3⟩:=hI.tups (h':=h') λb o e hc=>kp b o (na b o e hc) e
  refine kat_kind (s:={s with heap:=h'}) (T:=.type "int") f1 (by omega) (λv hv=>?_) (by decide) hq
  obtain⟨m,t,rfl⟩:=f3 v hv
  exact Looks.of_pure rfl
 ·obtain⟨p,hp⟩:=hI.mem _ hx
  obtain⟨q,hq'⟩:=hI.mem _ hy
  refine Lb (s:={s with heap:=h'}) hp hq' (λb o e hc=>kp b o (na b o e hc) e) ?_
  have e:decide (Wo s.heap M x.1<Wo s.heap M y.1)=decide (p.1*M+p.2<q.1*M+q.2):=by rw[xK hp,xK hq']
  rw[<-e]
  exact hq
 ·obtain⟨qs,q1,q2⟩:=hI.perm hp
  refine h out qs hp q1 q2 ?_
  rw[<-q1.keys,List.pairwise_map]
  exact hs
end
end jg
namespace P
open PySem PySem.Spec PyProof.Rows L2 M2 M3 M4
section
variable{X:Cx}{cm:String->Addr}{E:L2.St->XK}{e:Expr}{pos:Pos}
def vo(hc:X.calm=true):ŝ X (.builtin "sorted") (λxs H Q=>∃a ks,∃ns:List Int,xs=[V.ref a]/\Rd H a (.dK ks)/\ks.map (·.1)=ns.map .inl/\∀p (ms:List Int),ms.Perm ns->ms.Pairwise (·<= ·)->H p=none->Q (.ref p) (upd H p (.lst (ms.map .int)))):=by
 intro pins s σ H xs us Q I r h
 obtain⟨a,ks,ns,rfl,ha,hks,q⟩:=h
 obtain⟨u,rfl,ru⟩:=vals1 r
 cases ru
 obtain⟨hz,lo,vs,Uv,hD⟩:=mY I.hok ha
 obtain⟨ep,hat⟩:=hD.dictAt
 have hh:X.A.handled=none:=I.ok.hd hc
 have hvl:vs.length=ns.length:=by
  have h1:=Paired.length Uv
  have h2:=congrArg List.length hks
  simp at h2
  omega
 have Uw:vs.length<=sizeLine:=by rw[<-Paired.length Uv];exact hz
 refine Calls.call_function_entry kind_sorted plain_sorted entry_sorted (args_sorted1 _) ?_
 unfold Builtin.«sorted»
 refine wpAny_bind (m:=checkCount "sorted" 1 1 _) (wpAny_pure ?_)
 refine wpAny_bind (PySem.W.kdu_collect (A:=X.A.in1) (PySem.W.kdl_dict (knd:=Ĵ X.prog X.w) (kvs:=vs) (ep:=ep) lo) hh hat Uw λh' tk acc hk hacc=>?_)
 have hl:acc.toList.length=vs.length:=by rw[Array.length_toList];exact hacc.1
 have hI:IntsAre acc.toList ns:=gY (P:=X.prog) (w:=X.w) Uv hks hl λj v hv=>hacc.2 j v (by rw[<-Array.getElem?_toList];exact hv)
 refine wpAny_bind (wpAny_newList ?_ (by rw[hl];exact Uw))
 have hoL:(h'.push (seqObj "list" acc.toList.toArray 0)).get? h'.objs.size=some (seqObj "list" acc.toList.toArray 0):=Heap.get?_push_size _ rfl
 refine wpAny_bind (wpAny_holding (wpAny_call_entry slot_list_sort ⟨_,hoL,rfl⟩ entry_list_sort (jg.xJ hoL (by rw[hl];exact Uw) hI λout ns' a1 a2 a3=>⟨_,rfl,?_⟩) (args_list_sort _)))
 refine wpAny_pure ⟨_,rfl,?_⟩
 have I':=I.kept (t':=tk) hk
 have kp:∀b o,h'.get? b=some o->(sortedHeap (h'.push (seqObj "list" acc.toList.toArray 0)) h'.objs.size acc.toList out).get? b=some o:=λb o e=>by
  have hlt:=Heap.lt_size e
  rw[sortedHeap_old (Nat.ne_of_lt hlt) (by rw[size_push'];exact Nat.lt_succ_of_lt hlt)]
  exact Heap.get?_push_of_some _ e
 obtain⟨ec,he⟩:=sortedHeap_at (out:=out) hoL
 refine⟨.ref h'.objs.size,_,I'.laid (o:=.lst (ns'.map .int)) (t':=tk) kp (Nat.le_refl _) ⟨?_,out.toList,ec,L2.iI a1,?_⟩,rfl,q _ ns' a2 a3 (I'.hok.fresh (Nat.le_refl _))⟩
 ·have:=a2.length_eq
  simp
  omega
 ·rw[he]
def lG(i:Nat):M RV:=λρ=>match gW ρ i with
 |some kvs=>.ok (.ow ((gZ (bQ kvs)).map .int)) ρ
 |none=>.bad
def Gy(i:Nat){x:Str}{px p:Pos}(hc:X.calm=true)(hg:Gl X "sorted")(hm:X.mg "sorted" =none)(hN:X.N[i]?=some x:=by rfl)(hv:qJ X.env.scope x:=by first|exact Or.inl rfl|exact Or.inr (Or.inl rfl)|exact Or.inr (Or.inr rfl))(hd:(x== ("__debug__" :Str))=false:=by decide)
 (hcd:(x== ("__classdict__" :Str))=false:=by decide)(hs:starEach [.Name x px] X.env=(false,eval (.Name x px) X.env)::starEach [] X.env:=by exact Ŗ rfl):PE X (.Call (.Name "sorted" p) [.Name x px] [] pos) (tO (kk X cm) E (lG i)):=
 PE.wk (ug (vo hc) hg hm PyProof.Rows.boot_sorted (ŕ (ş hN hv hd hcd) cW hs) (he:=hs)) fun σ H Q ⟨c,F,ρ,rel,h⟩=>by
   unfold lG at h
   cases e1:gW ρ i with
   |none=>rw[e1] at h;exact h.elim
   |some kvs=>
    rw[e1] at h
    obtain⟨a,ks,z1,z2,z3⟩:=nj rel e1
    obtain⟨k1,k2⟩:=zx z3
    refine⟨.ref a,z1,a,ks,bQ kvs,rfl,z2,k1,λp ms m1 m2 hp=>?_⟩
    have em:ms=gZ (bQ kvs):=dR m2 (ů _) (m1.trans (Ũ _).symm)
    subst em
    obtain⟨q1,q2⟩:=Ż rel hp (qu (K:=kk X cm) (F:=F) (gZ (bQ kvs)))
    exact h _ _ _ q1 (Same.refl _) (Same.upd hp) q2
@[simp] theorem Wq{i:Nat}{ρ:Ĳ}:lG i ρ=(match gW ρ i with
  |some kvs=>.ok (.ow ((gZ (bQ kvs)).map .int)) ρ
  |none=>.bad):=rfl
def oZ(H:Hp):List (Addr×(Int×Int))->Hp
 | []=>H
 |x::r=>oZ (upd H x.1 (.tup [.int x.2.1,.int x.2.2])) r
theorem dI{b:Addr}:∀(ls:List (Addr×(Int×Int))) (H:Hp),b∉ls.map (·.1)->oZ H ls b=H b
 | [],_,_=>rfl
 |x::r,H,hb=>by
  rw[oZ,dI r _ λz=>hb (.tail _ z),Ċ λz=>hb (by rw[z];exact .head _)]
theorem zN:∀(ls:List (Addr×(Int×Int))) (H:Hp),(ls.map (·.1)).Nodup->∀x∈ls,oZ H ls x.1=some (.tup [.int x.2.1,.int x.2.2])
 | [],_,_,x,hx=>by cases hx
 |y::r,H,hn,x,hx=>by
  obtain⟨n1,n2⟩:=List.nodup_cons.mp hn
  rcases List.mem_cons.mp hx with rfl|hx
  ·rw[oZ,dI r _ n1,č]
  ·exact zN r _ n2 x hx
def Inv.laidN{pins:List (Addr×Obj)}{σ:List (Option V)}{H H':Hp}{s:Shared}{h':Heap}{t':Nat}(I:Inv X pins σ H s)(k:∀b u,s.heap.get? b=some u->h'.get? b=some u)(old:∀b,b<s.heap.objs.size->H' b=H b)(new:∀b u,s.heap.objs.size<=b->H' b=some u->Ł X.prog X.w H' h' b u) :
 Inv X pins σ H' {s with heap:=h',toks:=t'}:=by
 have up:∀b u,H b=some u->H' b=some u:=λb u e=>(old b (I.hok b u e).lt).trans e
 refine I.un ⟨λb ob q _ _ _=>k b ob q,λb ob q _ _ _=>⟨ob.slots,k b ob q⟩,λb ob q n _=>(old b (Heap.lt_size q)).trans n,λb ob q _=>⟨ob,k b ob q⟩,λb xs q=>up _ _ q,λb o u q=>up _ _ q,λb q z=>up _ _ z⟩ λb u e=>?_
 by_cases hb:b<s.heap.objs.size
 ·have e':=e
  rw[old b hb] at e'
  exact(I.hok b u e').stay (λc v _ q=>k c v q) (λc q=>up _ _ q) (λc xs q=>up _ _ q) λc q z=>up _ _ z
 ·exact new b u (Nat.le_of_not_lt hb) e
abbrev MP:Int:=4294967296
def cP(p:Int×Int):Int:=p.1*MP+p.2
def tSI(i:Nat):TE:=λσ H Q=>lN i σ H λx H1=>∃a ks,∃ps:List (Int×Int),x=.ref a/\Rd H1 a (.dK ks)/\ks=ps.map (λp=>(Sum.inl p.1,V.int p.2))/\(∀p∈ps,0<=p.2/\p.2<MP)/\
 ∀(ls:List (Addr×(Int×Int))) (q:Addr),(ls.map (·.2)).Perm ps->((ls.map (·.2)).map cP).Pairwise (·<= ·)->(ls.map (·.1)).Nodup->(∀a∈ls.map (·.1),H1 a=none)->q∉ls.map (·.1)->H1 q=none->Q (.ref q) (upd (oZ H1 ls) q (.lst (ls.map λx=>.ref x.1)))
theorem pairs_at{prog:Program}{w:World}{h:Heap}{lo:Addr}:∀{ps:List (Int×Int)} {vs:List (Key×Value)} {as:List Addr},KV (ps.map λp=>((Sum.inl p.1:Key),V.int p.2)) vs->(∀p∈ps,0<=p.2/\p.2<MP)->as.length=vs.length->(∀(j:Nat) (a:Addr),as[j]?=some a->∃key k x,vs[j]?=some (k,x)/\(Ĵ prog w).is k key=true/\h.get? a=some {cls:=.type "tuple",data:=.seq #[key,x]})->jg.ļ h MP (as.map Value.ref) ps
 | [],_,as,hk,_,hl,_=>by
   cases hk
   have:as=[]:=List.length_eq_zero_iff.mp (by simpa using hl)
   subst this
   exact .nil
 |p::ps,_,as,hk,hb,hl,hp=>by
  cases hk with
  |cons r t=>
   cases as with
   |nil=>simp at hl
   |cons a as=>
    obtain⟨key,k,x,h1,h2,h3⟩:=hp 0 a rfl
    have e1:=Option.some.inj h1
    rw[e1] at r
    obtain⟨r1,r2⟩:=r
    have ek:k=.inl p.1:=r1.symm
    subst ek
    have hk2:Value.isInt p.1 key=true:=h2
    obtain⟨tk,rfl⟩:∃t,key=.int p.1 t:=by
     cases key<;>simp[Value.isInt] at hk2
     exact⟨_,by rw[hk2]⟩
    obtain⟨tx,rfl⟩:=r2
    refine .cons ⟨a,_,0,tk,tx,rfl,h3,rfl,rfl,(hb p (.head _)).1,(hb p (.head _)).2⟩ (pairs_at (prog:=prog) (w:=w) (lo:=lo) t (λq hq=>hb q (.tail _ hq)) (by simpa using hl) λj a' hj=>?_)
    obtain⟨key',k',x',z1,z2⟩:=hp (j+1) a' (by simpa using hj)
    exact⟨key',k',x',by simpa using z1,z2⟩
theorem jG{h:Heap}:∀{vs:List Value} {ps:List (Int×Int)},jg.ļ h MP vs ps->∃ls:List (Addr×(Int×Int)),vs=ls.map (λx=>.ref x.1)/\ls.map (·.2)=ps/\∀x∈ls,∃o c t u,h.get? x.1=some o/\o.cls=.type "tuple" /\o.data=.seq #[.int x.2.1 t,.int x.2.2 u] c
 |_,_,.nil=>⟨[],rfl,rfl,λx hx=>by cases hx⟩
 |_,_,.cons (p:=p) x r=>by
  obtain⟨ls,h1,h2,h3⟩:=jG r
  obtain⟨b,o,c,t,u,rfl,ho,hc,hd,_⟩:=x
  refine⟨(b,p)::ls,by rw[h1];rfl,by rw[List.map_cons,h2],λy hy=>?_⟩
  rcases List.mem_cons.mp hy with rfl|hy
  ·exact⟨o,c,t,u,ho,hc,hd⟩
  ·exact h3 y hy
def BR(i:Nat){x:Str}{px p1 ap cp:Pos}(hc:X.calm=true)(hg:Gl X "sorted")(hm:X.mg "sorted" =none)(hN:X.N[i]?=some x)(hv:qJ X.env.scope x)(hd:(x== ("__debug__" :Str))=false)(hcd:(x== ("__classdict__" :Str))=false)
 (hbase:attributeBase (.Name x px) "items" X.env (eval (.Name x px) X.env)=eval (.Name x px) X.env)(hline:(ap.endLine== cp.line)=true) :
 PE X (.Call (.Name "sorted" p1) [.Call (.Attribute (.Name x px) "items" ap) [] [] cp] [] pos) (tSI i):=by
 intro pins s σ H Q I h
 refine Call_ (cT I hg hm PyProof.Rows.boot_sorted (PyProof.Rows.callWith_builtin1 ?_ rfl rfl))
 refine Calls.spliced_cons ?_
 refine wpAny_Call_method0_late hbase hline (Ľ (ş (X:=X) hN hv hd hcd pins s σ H _ I h) λv s1 ⟨xv,H1,I1,r1,q1⟩=>?_)
 obtain⟨a,ks,ps,e,ha,hks,hb,q⟩:=q1
 subst e
 cases r1
 obtain⟨hz,lo,vs,Uv,hD⟩:=mY I1.hok ha
 obtain⟨ep,hat⟩:=hD.dictAt
 have hh:X.A.handled=none:=I1.ok.hd hc
 obtain⟨od,es,hod,hexd,_⟩:=id hat
 refine⟨"dict","dict.items",PySem.F.plainAttrs_dict,PySem.F.slot_dict_items,PySem.F.type_dict_items,hD.typeIs,λb e2=>by cases e2;exact⟨od,hod,hexd.2.1⟩,Calls.callWith_builtin rfl (PySem.evalArgs_none ?_)⟩
 refine call_meetsIn PySem.F.slot_dict_items hD.typeIs PySem.F.entry_dict_items (PySem.F.args_dict_items_1 _) (meets_dict_items (Ĵ X.prog X.w) a lo) ⟨⟨vs,hD⟩,?_⟩
 show wpAny _ _ _ _ _ _
 refine Calls.spliced_nil ?_
 have hvl:=Paired.length Uv
 have Uw:vs.length<=sizeLine:=by omega
 have hsz1:(s1.heap.push {cls:=.type "dict_items",data:=.fields #[.ref a]}).objs.size=s1.heap.objs.size+1:=size_push' ..
 refine Calls.call_function_entry kind_sorted plain_sorted entry_sorted (args_sorted1 _) ?_
 unfold Builtin.«sorted»
 refine wpAny_bind (m:=checkCount "sorted" 1 1 _) (wpAny_pure ?_)
 refine wpAny_bind (PySem.W.kdx_collect (A:=X.A.in1) (s:={s1 with heap:=s1.heap.push {cls:=.type "dict_items",data:=.fields #[.ref a]}}) (knd:=Ĵ X.prog X.w) (kvs:=vs) (ep:=ep) hh ⟨_,Heap.get?_push_size _ rfl,rfl,rfl⟩ (hat.push _) Uw λh2 tk as k2 hal hG=>?_)
 subst hks
 have hP:jg.ļ h2 MP (as.map Value.ref) ps:=pairs_at (prog:=X.prog) (w:=X.w) (lo:=0) Uv hb hal hG.pairs
 refine wpAny_bind (wpAny_newList ?_ (by rw[List.length_map,hal];exact Uw))
 have hoL:(h2.push (seqObj "list" (as.map Value.ref).toArray 0)).get? h2.objs.size=some (seqObj "list" (as.map Value.ref).toArray 0):=Heap.get?_push_size _ rfl
 have hP2:jg.ļ (h2.push (seqObj "list" (as.map Value.ref).toArray 0)) MP (as.map Value.ref) ps:=pairs_at (prog:=X.prog) (w:=X.w) (lo:=0) Uv hb hal λj b hj=>let ⟨key,k,x,z1,z2,z3⟩:=hG.pairs j b hj;⟨key,k,x,z1,z2,Heap.get?_push_of_some _ z3⟩
 refine wpAny_bind (wpAny_holding (wpAny_call_entry slot_list_sort ⟨_,hoL,rfl⟩ entry_list_sort (jg.vm (M:=MP) (s:={s1 with heap:=h2.push (seqObj "list" (as.map Value.ref).toArray 0),toks:=tk}) hoL (by rw[List.length_map,hal];exact Uw) hP2 λout qs op o1 o2 o3=>⟨_,rfl,?_⟩) (args_list_sort _)))
 refine wpAny_pure ⟨_,rfl,?_⟩
 obtain⟨ls,l1,l2,l3⟩:=jG o1
 subst l2
 have Zc_:ls.length=ps.length:=by have:=o2.length_eq;simpa using this
 have kp0:∀b u,s1.heap.get? b=some u->h2.get? b=some u:=λb u e=>k2 b u (Heap.get?_push_of_some _ e)
 have hlt2:∀b u,s1.heap.get? b=some u->b<h2.objs.size:=λb u e=>Heap.lt_size (kp0 b u e)
 have kp:∀b u,h2.get? b=some u->(sortedHeap (h2.push (seqObj "list" (as.map Value.ref).toArray 0)) h2.objs.size (as.map Value.ref) out.toArray).get? b=some u:=λb u e=>by
  have hlt:=Heap.lt_size e
  rw[sortedHeap_old (Nat.ne_of_lt hlt) (by rw[size_push'];exact Nat.lt_succ_of_lt hlt)]
  exact Heap.get?_push_of_some _ e
 obtain⟨ec,he⟩:=sortedHeap_at (out:=out.toArray) hoL
 have inj:∀{as bs:List Addr},(as.map Value.ref).Perm (bs.map Value.ref)->as.Perm bs:=fun{as bs} hp=>by
  have:=hp.map λv:Value=>match v with| .ref a=>a|_=>0
  rw[List.map_map,List.map_map] at this
  simpa[Function.comp_def] using this
 have opa:(ls.map (·.1)).Perm as:=inj (by
  rw[l1] at op
  rw[List.map_map]
  exact op)
 have hnd:(ls.map (·.1)).Nodup:=opa.nodup_iff.mpr (hG.rise.imp Nat.ne_of_lt)
 have hab:∀b∈ls.map (·.1),s1.heap.objs.size<=b/\b<h2.objs.size:=λb hb=>by
  have hb':=opa.mem_iff.mp hb
  have:=hG.above b hb'
  refine⟨?_,hG.there hb'⟩
  have h0:s1.heap.objs.size+1<b:=by rw[<-hsz1];exact this
  exact Nat.le_of_lt (Nat.lt_of_succ_lt h0)
 have hq0:h2.objs.size∉ls.map (·.1):=λz=>Nat.lt_irrefl _ (hab _ z).2
 have Nq:s1.heap.objs.size<=h2.objs.size:=Nat.le_trans (Nat.le_of_lt (Nat.lt_succ_self _)) (by
  have:h2.get? s1.heap.objs.size=some _:=k2 _ _ (Heap.get?_push_size _ rfl)
  exact Heap.lt_size this)
 have nJ:∀b,s1.heap.objs.size<=b->H1 b=none:=λb hb=>I1.hok.fresh hb
 have I3:Inv X pins σ (upd (oZ H1 ls) h2.objs.size (.lst (ls.map λx=>.ref x.1))) {s1 with heap:=sortedHeap (h2.push (seqObj "list" (as.map Value.ref).toArray 0)) h2.objs.size (as.map Value.ref) out.toArray,toks:=tk}:=by
  refine Inv.laidN I1 (λb u e=>kp b u (kp0 b u e)) (λb hb=>?_) (λb u hb e=>?_)
  ·rw[Ċ (Nat.ne_of_lt (Nat.lt_of_lt_of_le hb Nq)),dI _ _ λz=>Nat.not_lt_of_le (hab b z).1 hb]
  ·by_cases e0:b=h2.objs.size
   ·subst e0
    rw[č] at e
    cases e
    refine⟨by rw[List.length_map,Zc_];have:=congrArg List.length (rfl:ps=ps);simp at hvl;omega,out,ec,?_,?_⟩
    ·rw[l1]
     have vr:∀l:List (Addr×(Int×Int)),Vals (l.map λx=>V.ref x.1) (l.map λx=>Value.ref x.1):=λl=>by
      induction l with
      |nil=>exact .nil
      |cons y l ih=>exact .cons rfl ih
     exact vr ls
    ·rw[he]
   ·rw[Ċ e0] at e
    by_cases hm':b∈ls.map (·.1)
    ·obtain⟨y,hy,rfl⟩:=List.mem_map.mp hm'
     rw[zN ls H1 hnd y hy] at e
     cases e
     obtain⟨o,c,t,u2,z1,z2,z3⟩:=l3 y hy
     have z1':h2.get? y.1=some o:=by
      have hne:y.1≠h2.objs.size:=Nat.ne_of_lt (hab _ hm').2
      rw[Heap.get?_push_ne _ _ _ hne] at z1
      exact z1
     exact⟨by show 2<=sizeLine;rw[ě];omega,[.int y.2.1 t,.int y.2.2 u2],.cons ⟨t,rfl⟩ (.cons ⟨u2,rfl⟩ .nil),o,kp _ _ z1',z2,c,z3⟩
    ·rw[dI ls H1 hm',nJ b hb] at e
     cases e
 refine⟨.ref h2.objs.size,_,I3,rfl,q ls h2.objs.size o2 ?_ hnd (λb hb=>nJ b (hab b hb).1) hq0 (nJ _ Nq)⟩
 exact o3
def cC:List (DK×PV)->Option (List (Int×Int))
 | []=>some []
 |(.inl k,.int v)::r=>if 0<=v/\v<MP then(cC r).map ((k,v):: ·) else none
 |_=>none
def Nr(k:Int):Int×Int:=(k / MP,k % MP)
def zO{p:Int×Int}(h1:0<=p.2)(h2:p.2<MP):Nr (cP p)=p:=by
 unfold Nr cP
 obtain⟨a,b⟩:=p
 dsimp only at h1 h2 ⊢
 rw[Int.add_comm,Int.add_mul_ediv_right _ _ (by decide),Int.add_mul_emod_self_right,Int.ediv_eq_zero_of_lt h1 h2,Int.emod_eq_of_lt h1 h2,Int.zero_add]
def tupP(p:Int×Int):PV:=.tup [.int p.1,.int p.2]
def aF(ps:List (Int×Int)):List (Int×Int):=(gZ (ps.map cP)).map Nr
def Ld{ls ps:List (Int×Int)}(hp:ls.Perm ps)(hs:(ls.map cP).Pairwise (·<= ·))(hb:∀p∈ps,0<=p.2/\p.2<MP):ls=aF ps:=by
 have e:ls.map cP=gZ (ps.map cP):=dR hs (ů _) ((hp.map cP).trans (Ũ _).symm)
 unfold aF
 rw[<-e,List.map_map]
 conv=>lhs;rw[<-List.map_id ls]
 refine List.map_congr_left λp hq=>?_
 have:=hb p (hp.mem_iff.mp hq)
 exact(zO this.1 this.2).symm
theorem qD{K:KK}{F:Hp}:∀{kvs:List (DK×PV)} {ks:List (Key×V)} {ps:List (Int×Int)},cC kvs=some ps->Paired (DG K F (Sum.inl:Int->DK) (Sum.inl:Int->Key)) kvs ks->ks=ps.map (λp=>(Sum.inl p.1,V.int p.2))/\∀p∈ps,0<=p.2/\p.2<MP
 |_,_,ps,h,.nil=>by
  cases h
  exact⟨rfl,λp hp=>by cases hp⟩
 |(a,b)::kvs,(c,d)::ks,ps,h,.cons ⟨⟨j,r1,r2⟩,r3⟩ t=>by
  dsimp only at r1 r2 r3
  cases a with
  |inr l=>cases r1
  |inl k=>
   cases b with
   |int v=>
    unfold cC at h
    split at h
    ·rename_i hv
     obtain⟨qs,h1,rfl⟩:=Option.map_eq_some_iff.mp h
     obtain⟨e1,e2⟩:=qD h1 t
     have ek:k=j:=aX r1
     unfold Rep at r3
     refine⟨by rw[e1,r2,r3,ek];rfl,λp hp=>?_⟩
     rcases List.mem_cons.mp hp with rfl|hp
     ·exact hv
     ·exact e2 p hp
    ·cases h
   |_=>cases h
theorem vp{K:KK}{c:Ctx}{σ:L2.St}{ρ:Ĳ}:∀(ls:List (Addr×(Int×Int))) {F H:Hp},Rel K c F H σ ρ->(ls.map (·.1)).Nodup->(∀a∈ls.map (·.1),H a=none)->∃F',Rel K c F' (oZ H ls) σ ρ/\Same F F'/\Same H (oZ H ls)/\Ć K F' (ls.map λx=>tupP x.2) (ls.map λx=>V.ref x.1)
 | [],F,H,rel,_,_=>⟨F,rel,Same.refl _,Same.refl _,Ć.nil⟩
 |x::r,F,H,rel,hn,hz=>by
  obtain⟨n1,n2⟩:=List.nodup_cons.mp hn
  have h0:=hz x.1 (.head _)
  obtain⟨F',r1,r2,r3,r4⟩:=vp r (rel.alloc (o:=.tup [.int x.2.1,.int x.2.2]) h0) n2 λa ha=>by
   rw[Ċ (λz:a=x.1=>n1 (by show x.1∈_;rw[<-z];exact ha))]
   exact hz a (.tail _ ha)
  refine⟨F',r1,(Same.upd (rel.sub.free h0)).trans r2,(Same.upd h0).trans r3,Ć.cons ?_ r4⟩
  unfold tupP Rep
  refine⟨x.1,[.int x.2.1,.int x.2.2],rfl,r2 _ _ č,Ć.cons (by unfold Rep;rfl) (Ć.cons (by unfold Rep;rfl) Ć.nil)⟩
def lH(i:Nat):M RV:=λρ=>match gW ρ i with
 |some kvs=>match cC kvs with
  |some ps=>.ok (.ow ((aF ps).map tupP)) ρ
  |none=>.bad
 |none=>.bad
@[simp] theorem Wr{i:Nat}{ρ:Ĳ}:lH i ρ=(match gW ρ i with
  |some kvs=>match cC kvs with
   |some ps=>.ok (.ow ((aF ps).map tupP)) ρ
   |none=>.bad
  |none=>.bad):=rfl
def Gz(i:Nat){x:Str}{px p1 ap cp:Pos}(hc:X.calm=true)(hg:Gl X "sorted")(hm:X.mg "sorted" =none)(hN:X.N[i]?=some x:=by rfl)(hv:qJ X.env.scope x:=by first|exact Or.inl rfl|exact Or.inr (Or.inl rfl)|exact Or.inr (Or.inr rfl))(hd:(x== ("__debug__" :Str))=false:=by decide)(hcd:(x== ("__classdict__" :Str))=false:=by decide)
 (hbase:attributeBase (.Name x px) "items" X.env (eval (.Name x px) X.env)=eval (.Name x px) X.env:=by rfl)(hline:(ap.endLine== cp.line)=true:=by rfl) :
 PE X (.Call (.Name "sorted" p1) [.Call (.Attribute (.Name x px) "items" ap) [] [] cp] [] pos) (tO (kk X cm) E (lH i)):=PE.wk (BR i hc hg hm hN hv hd hcd hbase hline) λσ H Q ⟨c,F,ρ,rel,h⟩=>by
 unfold lH at h
 cases e1:gW ρ i with
 |none=>rw[e1] at h;exact h.elim
 |some kvs=>
  rw[e1] at h
  dsimp only at h
  cases e2:cC kvs with
  |none=>rw[e2] at h;exact h.elim
  |some ps=>
   rw[e2] at h
   obtain⟨a,ks,z1,z2,z3⟩:=nj rel e1
   obtain⟨k1,k2⟩:=qD e2 z3
   refine⟨.ref a,z1,a,ks,ps,rfl,z2,k1,k2,λls q p1 p2 p3 p4 p5 p6=>?_⟩
   obtain⟨F',r1,r2,r3,r4⟩:=vp (K:=kk X cm) ls rel p3 p4
   have em:=Ld p1 p2 k2
   have er:ls.map (λx=>tupP x.2)=(aF ps).map tupP:=by rw[<-em,List.map_map];rfl
   rw[er] at r4
   have hq:oZ H ls q=none:=(dI ls H p5).trans p6
   obtain⟨q1,q2⟩:=Ż r1 hq r4
   exact h _ _ _ q1 r2 (r3.trans (Same.upd hq)) q2
end
end P
namespace PySem
section
variable{prog:Program}{w:World}{K:Type}[DecidableEq K]{knd:HeapKind prog w K}{A:Around}{E:Value->Shared->Prop}{s:Shared}
def BW{d a:Addr}{xs:List (K×Addr×Value)}{k:K}{v:Value}{Q:Value->Shared->Prop}(hu:knd.room A)(hkey:knd.is s.heap k a)(hm:s.heap.DictOfH knd d xs)
 (h1:∀p,atKey xs k=some p->Q p.2 {s with toks:=s.toks+knd.draws k})
 (h2:atKey xs k=none->∀h',h'.DictOfH knd d (storedH xs k a v)->Heap.SameBut d s.heap h'->Q v {s with heap:=h',toks:=s.toks+knd.draws k})
 (hsz:xs.length<=sizeLine) :
 wpAny (model prog w) A (dictSetDefault d (.ref a) v) Q E s:=by
 obtain⟨o,es,ep,ho,hc,hd,he,his,hn⟩:=hm
 unfold dictSetDefault
 try with_reducible refine wpAny_holding ?_
 refine wpAny_bind (knd.pyHash hu hkey (wpAny_bind (wpAny_dictFind_heap (s:={s with toks:=s.toks+knd.draws k}) hu hkey ho hd he his hn ?_ ?_)))
 ·intro hno
  have hnot:k∉xs.map (·.1):=not_mem_keys_of_get hno
  have hat:=atKey_none_of_get hno
  refine wpAny_bind (wpAny_rule (wpAny_bind (wpAny_updateDictKeys (hz:=by have e:=size_of_entries he;omega) (s:={s with toks:=s.toks+knd.draws k}) ho hd (wpAny_pure (h2 hat _ ⟨_,_,ep+1,Heap.get?_update_self _ ho (Obj.isFreed_of_dict (Obj.data_mapDictKeys hd _)),
   hc.mapDictKeys _,Obj.data_mapDictKeys hd _,?_,?_,?_⟩ (Heap.SameBut.update ..))))))
  ·rw[storedH_new hat]
   simp[he,entryOfKey]
  ·rw[storedH_new hat]
   intro x hx
   rcases List.mem_append.mp hx with hx|hx
   ·exact knd.keeps (his x hx) ho hd (Heap.SameBut.update ..)
   ·simp only[List.mem_singleton] at hx
    subst hx
    exact knd.keeps hkey ho hd (Heap.SameBut.update ..)
  ·rw[storedH_new hat]
   rw[List.map_append,List.nodup_append]
   refine⟨hn,by simp,?_⟩
   intro x hx y hy
   simp only[List.map_cons,List.map_nil,List.mem_singleton] at hy
   subst hy
   exact λe=>hnot (e▸hx)
 ·intro j p hj
  have h:=h1 _ (atKey_of_get hn hj)
  refine wpAny_bind (wpAny_dictEntries (s:={s with toks:=s.toks+knd.draws k}) ho hd ?_)
  rw[entry_at he j,hj]
  exact wpAny_bind (wpAny_rule (wpAny_pure h))
def BX(d a:Addr)(hd:(d== sysModules)=false)(dflt:Value) :
 MeetsIn prog w (Builtin.«dict.setdefault» ⟨[.ref d,.ref a,dflt],[]⟩) (λA R s=>knd.room A.in1/\∃k xs,knd.is s.heap k a/\s.heap.DictOfH knd d xs/\xs.length<=sizeLine/\
  (∀p,atKey xs k=some p->R (.ok (.ret p.2)) {s with toks:=s.toks+knd.draws k})/\
  (atKey xs k=none->∀h',h'.DictOfH knd d (storedH xs k a dflt)->Heap.SameBut d s.heap h'->R (.ok (.ret dflt)) {s with heap:=h',toks:=s.toks+knd.draws k})):=
 .of_wp fun A R s ⟨hu,k,xs,hkey,hm,hz,h1,h2⟩=>by
   unfold Builtin.«dict.setdefault»
   refine wpAny_bind ?_
   unfold Builtin.Dict.keyAndDefault
   refine wpAny_bind (wpAny_notOrdered_dict hm.typeIs ?_)
   show wpAny _ _ (pure (d,Value.ref a,some dflt)) _ _ s
   refine wpAny_pure ?_
   show wpAny _ _ (if(d== sysModules)=true then _ else(dictSetDefault d (.ref a) dflt >>= _)) _ _ s
   rw[if_neg (by rw[hd];exact Bool.false_ne_true)]
   exact wpAny_bind (BW hu hkey hm (λp hp=>wpAny_pure ⟨p.2,rfl,h1 p hp⟩) (λhn h' hm' hs'=>wpAny_pure ⟨dflt,rfl,h2 hn h' hm' hs'⟩) hz)
end
end PySem
namespace P
open PySem PySem.Spec PyProof.Rows L2 M2 M3 M4
section
variable{X:Cx}{pins:List (Addr×Obj)}{σ:L2.St}{H:Hp}{s:Shared}{a b:Addr}{d:V}{r:Value}{A:Around}{E:Value->Shared->Prop}{kvs:List (List Key×V)}{k:List Key}
def GC{Q:Value->Shared->Prop}(hu:A.units+1<cLine)(I:Inv X pins σ H s)(e:H a=some (.dT kvs))(eb:H b=some (.tup (k.map kV)))(rd:RelV d r)
 (h1:∀v,aD kvs k=some v->∀w' s',Inv X pins σ H s'->RelV v w'->Q w' s')
 (h2:aD kvs k=none->kvs.length<sizeLine/\∀s',Inv X pins σ (upd H a (.dT (putK kvs k d))) s'->Q r s') :
 wpAny (model X.prog X.w) A (call (.builtin "dict.setdefault") [.ref a,.ref b,r]) Q E s:=by
 obtain⟨z,hd,xs,rel,dd⟩:=M_ I.hok e
 have hz:xs.length<=sizeLine:=by rw[<-Paired.length rel];exact z
 refine call_meetsIn PySem.F.slot_dict_setdefault dd.typeIs PySem.F.entry_dict_setdefault (PySem.F.args_dict_setdefault_3 _ _ _) (BX (knd:=tupleKind (Ĵ X.prog X.w)) a b hd r) ⟨tupleKind_room_in1 hu,k,xs,mZ I.hok eb,dd,hz,λp hp=>?_,λhn h' Wh hs=>?_⟩
 ·have q:=rel.val k
  rw[hp] at q
  cases e1:aD kvs k with
  |none=>rw[e1] at q;exact(show False from q).elim
  |some v=>rw[e1] at q;exact h1 v e1 _ _ (I.tok _) q
 ·have q:=rel.val k
  rw[hn] at q
  cases e1:aD kvs k with
  |some v=>rw[e1] at q;exact(show False from q).elim
  |none=>
   obtain⟨hl,h2⟩:=h2 e1
   have hl':(putK kvs k d).length<=sizeLine:=by have:=dD kvs k d;omega
   obtain⟨q,es,ep,hq,g2,g3,g4,_,g5⟩:=Wh
   refine h2 _ (rJ I (by rw[e];exact True.intro) hs ⟨q,hq⟩ ⟨hl',hd,_,(rel.put k eb rd).keeps λc ys ec=>?_,q,es,ep,hq,g2,g3,g4,g5⟩)
   rw[Ċ (LC ec e (λz=>nomatch z))]
   exact ec
end
def Zda(td ty tx:TE):TE:=λσ H Q=>td σ H λx H1=>∃a,x=.ref a/\IsD H1 a/\ty σ H1 λy H2=>tx σ H2 λz H3=>∃kvs k b,H3 a=some (.dT kvs)/\y=.ref b/\H3 b=some (.tup (k.map kV))/\
 (∀v,aD kvs k=some v->Q v H3)/\(aD kvs k=none->kvs.length<sizeLine/\Q z (upd H3 a (.dT (putK kvs k z))))
section
variable{X:Cx}{o e f:Expr}{apos cpos:Pos}{td ty tx:TE}
def Ux(hu:X.A.units+1<cLine)(ho:PE X o td)(he:PE X e ty)(hf:PE X f tx)(m:L2.M2 X o "setdefault" apos e f cpos):PE X (.Call (.Attribute o "setdefault" apos) [e,f] [] cpos) (Zda td ty tx):=by
 intro pins s σ H Q I h
 refine wpAny_Call_method m.base m.few m.line PySem.F.plainAttrs_dict PySem.F.slot_dict_setdefault PySem.F.type_dict_setdefault (Ľ (ho pins s σ H _ I h) λu s1 ⟨x,H1,I1,rx,a,ex,d,q1⟩=>?_)
 subst ex
 obtain rfl:u=Value.ref a:=rx
 obtain⟨t1,t2,_⟩:=Ua I1 d
 refine⟨t1,t2,?_⟩
 rw[m.trees]
 refine Calls.callWith_builtin rfl (Calls.evalArgs_plain (Calls.spliced_cons (Ľ (he pins s1 σ H1 _ I1 q1) λiv s2 ⟨y,H2,I2,ry,q2⟩=>
  Calls.spliced_cons (Ľ (hf pins s2 σ H2 _ I2 q2) λfv s3 ⟨z,H3,I3,rz,kvs,k,b,ea,ey,eb,q3,q4⟩=>Calls.spliced_nil ?_))))
 subst ey
 cases(show iv=Value.ref b from ry)
 exact GC hu I3 ea eb rz (λv l w' s' I4 Dc=>⟨v,H3,I4,Dc,q3 v l⟩) λl=>⟨(q4 l).1,λs4 I4=>⟨z,_,I4,rz,(q4 l).2⟩⟩
end
theorem qF{K:KK}{F:Hp}:∀{ps:List PV} {is:List Int} {xs:List V},qt ps=some is->Ć K F ps xs->xs=(is.map (Sum.inl:Int->Key)).map kV
 | [],is,xs,h,r=>by
   cases h
   unfold Ć at r
   rw[r];rfl
 |p::ps,is,xs,h,r=>by
  unfold Ć at r
  obtain⟨x,r',rfl,r1,r2⟩:=r
  cases p with
  |int i=>
   unfold qt at h
   obtain⟨js,e1,e2⟩:=Option.map_eq_some_iff.mp h
   subst e2
   have ex:x=.int i:=by unfold Rep at r1;exact r1
   rw[List.map_cons,List.map_cons,<-qF e1 r2,ex]
   rfl
  |_=>exact nomatch h
def Zdb{p:PV}{k:DK}(h:BK true p=some k):∃ps is,p=.tup ps/\qt ps=some is/\k=.inr is:=by
 cases p with
 |tup ps=>
  have h:(qt ps).map Sum.inr=some k:=h
  obtain⟨is,e1,e2⟩:=Option.map_eq_some_iff.mp h
  exact⟨ps,is,rfl,e1,e2.symm⟩
 |int i=>exact nomatch h
 |_=>exact nomatch h
def GD{K:KK}{F:Hp}{p:PV}{k:DK}{y:V}(h:BK true p=some k)(r:Rep K F p y):∃is b,k=.inr is/\y=.ref b/\F b=some (.tup ((is.map (Sum.inl:Int->Key)).map kV)):=by
 obtain⟨ps,is,rfl,e1,e2⟩:=Zdb h
 unfold Rep at r
 obtain⟨b,xs,r1,r2,r3⟩:=r
 exact⟨is,b,e2,r1,by rw[r2,qF e1 r3]⟩
abbrev Iz:List Int->List Key:=λis=>is.map Sum.inl
def rN{β γ:Type}{x y:γ}(h:(Sum.inr x:Sum β γ)=.inr y):x=y:=by injection h
theorem lJ:∀{x y:List Int},Iz x=Iz y->x=y
 | [],[],_=>rfl
 | [],_::_,h=>nomatch h
 |_::_,[],h=>nomatch h
 |a::x,b::y,h=>by
  have h':(Sum.inl a:Key)::Iz x=Sum.inl b::Iz y:=h
  injection h' with h1 h2
  rw[aX h1,lJ h2]
def GF{K:KK}{F:Hp}{kvs:List (DK×PV)}{u:HO}(h:qW K F true kvs u):∃ks:List (List Key×V),u=.dT ks/\Paired (DG K F (Sum.inr:List Int->DK) Iz) kvs ks:=by
 rcases h with⟨h0,_⟩|⟨_,ks,h1,h2⟩
 ·cases h0
 ·exact⟨ks,h1,h2⟩
def vq{K:KK}{F:Hp}{kvs:List (DK×PV)}{ks:List (List Key×V)}(h:Paired (DG K F (Sum.inr:List Int->DK) Iz) kvs ks):qW K F true kvs (.dT ks):=.inr ⟨rfl,ks,rfl,h⟩
section
variable{X:Cx}{cm:String->Addr}{E:L2.St->XK}{e f:Expr}{pos:Pos}{mk mv:M PV}
def xM(i:Nat):M Fl:=λρ=>.ok .nx (ρ.set i (.od true []))
def Le{i:Nat}{x:Str}{pos' p0:Pos}(hN:X.N.Nodup)(hi:X.N[i]?=some x)(hx:Loc X.env.scope x)(hs:swapsWith (.Dict [] [] p0) (some (.Name x pos')) pos.line X.env=pure false:=by rfl)(hf:X.fn x=true\/X.env.scope.names.lookup x=some .local:=by first|exact .inl rfl|exact .inr rfl|assumption) :
 PS X (.Assign [.Name x pos'] (.Dict [] [] p0) pos) (tS (kk X cm) E (xM i)):=PS.wk (qM hN hi hx Fx hs hf) λD σ H ⟨c,F,ρ,rel,h⟩ p hp=>by
 have ć:=rel.made (o:=.dT []) hp
 exact h _ F _ (ć.uy (s:=.od true []) ⟨p,.dT [],rfl,č,rel.sub.free hp,rel.base.free hp,vq .nil⟩ λ_ z=>V.ref.inj z▸rel.fresh hp) (Same.refl _)
def Lf(j i:Nat)(mk mv:M PV):M Fl:=λρ=>match ρ[i]? with
 |some (.od true _)=>(mk ρ).bind λk ρ1=>(mv ρ1).bind λp ρ2=>match ρ2[i]?,BK true k with
  |some (.od true kvs),some dk=>match dval kvs dk with
   |some q=>.ok .nx (ρ2.set j (.sh q))
   |none=>if kvs.length<16777216 then .ok .nx ((ρ2.set i (.od true (dput kvs dk p))).set j (.sh p)) else .bad
  |_,_=>.bad
 |_=>.bad
def Zaf{j i:Nat}{x y:Str}{px pos' ap cp:Pos}(hu:X.A.units+64<cLine)(hN:X.N.Nodup)(hj:X.N[j]?=some y)(hy:Loc X.env.scope y)(he:PE X e (tV (kk X cm) E mk))(hf:PE X f (tV (kk X cm) E mv))(ho:PE X (.Name x px) (lN i))
 (m:L2.M2 X (.Name x px) "setdefault" ap e f cp:=by exact⟨rfl,rfl,rfl,rfl⟩)
 (hs:swapsWith (.Call (.Attribute (.Name x px) "setdefault" ap) [e,f] [] cp) (some (.Name y pos')) pos.line X.env=pure false:=by rfl)(hfn:X.fn y=true\/X.env.scope.names.lookup y=some .local:=by first|exact .inl rfl|exact .inr rfl|assumption) :
 PS X (.Assign [.Name y pos'] (.Call (.Attribute (.Name x px) "setdefault" ap) [e,f] [] cp) pos) (tS (kk X cm) E (Lf j i mk mv)):=PS.wk (qM hN hj hy (Ux (by omega) ho he hf m) hs hfn) λD σ H ⟨c,F,ρ,rel,h⟩=>by
 unfold Lf at h
 cases e0:ρ[i]? with
 |none=>rw[e0] at h;exact h.elim
 |some sl=>
  rw[e0] at h
  cases sl with
  |od t0 YL=>
   cases t0 with
   |false=>exact h.elim
   |true=>
    obtain⟨a,u0,z1,z2,z3,z4,z5⟩:=rel.slot i _ e0
    obtain⟨ks0,rfl,_⟩:=GF z5
    refine⟨.ref a,at_of z1,a,rfl,.inr ⟨ks0,.inl z2⟩,c,F,ρ,rel,š.bind h λk ρ1 y1 F1 H1 ć s1 r1 h1=>⟨c,F1,ρ1,ć,š.bind h1 λp ρ2 v F2 H2 Ğ s2 r2 h2=>?_⟩⟩
    cases e2:ρ2[i]? with
    |none=>rw[e2] at h2;exact h2.elim
    |some sl2=>
     rw[e2] at h2
     cases sl2 with
     |od t kvs=>
      cases t with
      |false=>exact h2.elim
      |true=>
       cases ek:BK true k with
       |none=>rw[ek] at h2;exact h2.elim
       |some dk=>
        rw[ek] at h2
        dsimp only at h2
        obtain⟨is,b,rfl,ey,eb⟩:=GD ek (Rep.same s2 k y1 r1)
        obtain⟨a2,u,w1,w2,w3,w4,w5⟩:=Ğ.slot i _ e2
        obtain⟨ks,rfl,w6⟩:=GF w5
        have e3:=at_of z1
        rw[at_of w1] at e3
        have e3':a2=a:=by injection e3 with e3;injection e3 with e3;injection e3
        subst e3'
        refine⟨ks,Iz is,b,w2,ey,Ğ.sub _ _ eb,λv' l=>?_,λl=>?_⟩
        ·rcases ni (c:=(Sum.inr:List Int->DK)) (kf:=Iz) rN lJ is w6 with⟨_,q2⟩|⟨p',v2,q1,q2,q3⟩
         ·rw[q2] at l;cases l
         ·rw[q2] at l
          cases l
          rw[q1] at h2
          exact h2 _ F2 _ (Ğ.put rfl ⟨_,rfl,q3⟩) (Same.refl _)
        ·rcases ni (c:=(Sum.inr:List Int->DK)) (kf:=Iz) rN lJ is w6 with⟨q1,_⟩|⟨p',v2,_,q2,_⟩
         ·rw[q1] at h2
          dsimp only at h2
          split at h2
          ·rename_i hz
           refine⟨by rw[<-Paired.length w6,ě];exact hz,h2 _ F2 _ ?_ (Same.refl _)⟩
           have gC:=Ğ.iM ⟨_,_,e2,at_of w1,rfl⟩ (o:=.dT (putK ks (Iz is) v)) (s:=.od true (dput kvs (.inr is) p)) ⟨a2,_,w1,č,w3,w4,vq (FJ rN lJ is r2 w6)⟩ λx' b ex z=>by
            rw[at_of w1] at ex
            cases ex
            have:a2=b:=V.ref.inj z
            subst this
            exact⟨_,_,e2,at_of w1,rfl⟩
           exact gC.put rfl ⟨_,rfl,r2⟩
          ·exact h2.elim
         ·rw[q2] at l;cases l
     |_=>exact h2.elim
  |_=>exact h.elim
@[simp] theorem Zag{i:Nat}{ρ:Ĳ}:xM i ρ=.ok .nx (ρ.set i (.od true [])):=rfl
@[simp] theorem Zdc{j i:Nat}{ρ:Ĳ}:Lf j i mk mv ρ=(match ρ[i]? with
  |some (.od true _)=>(mk ρ).bind λk ρ1=>(mv ρ1).bind λp ρ2=>match ρ2[i]?,BK true k with
   |some (.od true kvs),some dk=>match dval kvs dk with
    |some q=>.ok .nx (ρ2.set j (.sh q))
    |none=>if kvs.length<16777216 then .ok .nx ((ρ2.set i (.od true (dput kvs dk p))).set j (.sh p)) else .bad
   |_,_=>.bad
  |_=>.bad):=rfl
end
end P
namespace P
open PySem PySem.Spec PyProof.Rows L2 M2 M3 M4
def Rel.Uy{K:KK}{c:Ctx}{F H:Hp}{σ:L2.St}{ρ:Ĳ}(r:Rel K c F H σ ρ){i:Nat}{ps qs rs ts:List PV}(e:ρ[i]?=some (.o2 ps qs rs ts)):∃F',Same F F'/\Rel K c F' H σ (ρ.set i (.sh (.tup (ps ++ .lst qs::(rs ++ [.lst ts]))))):=by
 obtain⟨p,a,b,xs,vs,ys,us,h1,h2,h3,h4,⟨k1,k2,k3,k4⟩,⟨l1,l2,l3,l4⟩,h5⟩:=r.slot i _ e
 obtain⟨m1,m2⟩:=r.move (a:=a) ⟨_,_,e,at_of h1,p,a,b,xs,ys,rfl,h2,h3.length.symm,.inl rfl⟩
 obtain⟨_,m3⟩:=r.move (a:=b) ⟨_,_,e,at_of h1,p,a,b,xs,ys,rfl,h2,h3.length.symm,.inr rfl⟩
 obtain⟨F',sF,ŋ,rp⟩:=uz.share m1 ⟨p,a,b,xs,vs,ys,us,rfl,h2,h3,h4,⟨k1,k2,k3,m2,k4⟩,⟨l1,l2,l3,m3,l4⟩,h5⟩
 have q:=ŋ.yI (i:=i) (s:=.sh (.tup (ps ++ .lst qs::(rs ++ [.lst ts])))) rfl (show ŏ K c _ H _ (.sh (.tup (ps ++ .lst qs::(rs ++ [.lst ts])))) from⟨.ref p,by rw[at_of h1];rfl,rp⟩)
 rw[List.set_set] at q
 exact⟨F',sF,q⟩
def jj(i:Nat)(m:M Bool):M Bool:=λρ=>match ρ[i]? with
 |some (.o2 ps qs rs ts)=>match m (ρ.set i (.sh (.tup (ps ++ .lst qs::(rs ++ [.lst ts]))))) with
  | .ok b _=>.ok b ρ
  |_=>.bad
 |_=>jC i m ρ
section
variable{X:Cx}{cm:String->Addr}{E:L2.St->XK}{e o:Expr}{es:List Expr}{pos:Pos}{m:M Bool}{mo:M RV}{ma:M PV}
def zP(i:Nat)(h:PT X e (tB (kk X cm) E m)):PT X e (tB (kk X cm) E (jj i m)):=PT.wk h λσ H Q ⟨c,F,ρ,rel,h⟩=>by
 unfold jj jC at h
 cases e1:ρ[i]? with
 |none=>rw[e1] at h;exact⟨c,F,ρ,rel,h⟩
 |some s=>
  rw[e1] at h
  cases s with
  |o2 ps qs rs ts=>
   obtain⟨F',sF,ŋ⟩:=rel.Uy e1
   refine⟨c,F',_,ŋ,?_⟩
   dsimp only at h
   cases em:m (ρ.set i (.sh (.tup (ps ++ .lst qs::(rs ++ [.lst ts]))))) with
   |ok b ρ1=>rw[em] at h;exact λv F2 H2 r1 s1 s2 q=>h v F H2 (rel.keep s2) (Same.refl _) s2 q
   |exc x ρ1=>rw[em] at h;exact h.elim
   |bad=>rw[em] at h;exact h.elim
  |ot ps qs rs=>
   obtain⟨F',sF,ŋ⟩:=rel.Fi e1
   refine⟨c,F',_,ŋ,?_⟩
   dsimp only at h
   cases em:m (ρ.set i (.sh (.tup (ps ++ .lst qs::rs)))) with
   |ok b ρ1=>rw[em] at h;exact λv F2 H2 r1 s1 s2 q=>h v F H2 (rel.keep s2) (Same.refl _) s2 q
   |exc x ρ1=>rw[em] at h;exact h.elim
   |bad=>rw[em] at h;exact h.elim
  |_=>exact⟨c,F,ρ,rel,h⟩
structure TI2 where
 ps:List PV
 qs:List PV
 ts:List PV
def rLD(K:KK):RR TI2 (List V):=λc σ ρ F H r vs=>∃xs a b ws us,vs=xs ++ .ref a::[.ref b]/\Ć K F r.ps xs/\(H a=some (.lst ws)/\F a=none/\c.B a=none/\bI F σ ρ a/\Ć K F r.qs ws)/\(H b=some (.lst us)/\F b=none/\c.B b=none/\bI F σ ρ b/\Ć K F r.ts us)/\a≠b
def mL2(i j k:Nat):M TI2:=λρ=>match ρ[i]? with
 |some (.ot ps qs _)=>match(ρ.set i .no)[k]? with
  |some (.ow ts)=>if ps.length=j then .ok ⟨[],qs,ts⟩ ((ρ.set i .no).set k .no) else .bad
  |_=>.bad
 |_=>.bad
def Uz(i j k:Nat){x y:Str}{px py p1 p2:Pos}{z}(hN:X.N[i]?=some x:=by rfl)(hv:qJ X.env.scope x:=by first|exact Or.inl rfl|exact Or.inr (Or.inl rfl)|exact Or.inr (Or.inr rfl))(hd:(x== ("__debug__" :Str))=false:=by decide)(hcd:(x== ("__classdict__" :Str))=false:=by decide)
 (hN2:X.N[k]?=some y:=by rfl)(hv2:qJ X.env.scope y:=by first|exact Or.inl rfl|exact Or.inr (Or.inl rfl)|exact Or.inr (Or.inr rfl))(hd2:(y== ("__debug__" :Str))=false:=by decide)(Zdd:(y== ("__classdict__" :Str))=false:=by decide)
 (hs:starEach [.Subscript (.Name x px) (.Constant (.int (j:Int)) z p1) p2,.Name y py] X.env=(false,eval (.Subscript (.Name x px) (.Constant (.int (j:Int)) z p1) p2) X.env)::starEach [.Name y py] X.env:=by exact Ŗ rfl)(hs2:starEach [.Name y py] X.env=(false,eval (.Name y py) X.env)::starEach [] X.env:=by exact Ŗ rfl) :
 PA X [.Subscript (.Name x px) (.Constant (.int (j:Int)) z p1) p2,.Name y py] (tG (kk X cm) E (rLD (kk X cm)) (mL2 i j k)):=
 PA.wk (ŕ (yx qQ (ş hN hv hd hcd) qK (fun _ _=>rfl)) (ŕ (ş hN2 hv2 hd2 Zdd) cW hs2) hs) fun σ H Q ⟨c,F,ρ,rel,h⟩=>by
   unfold mL2 at h
   cases e1:ρ[i]? with
   |none=>rw[e1] at h;exact h.elim
   |some s1=>
    rw[e1] at h
    cases s1 with
    |ot ps qs rs=>
     dsimp only at h
     obtain⟨p,a,xs,vs,ys,z1,z2,z3,z4,z5,z6,z7,z8⟩:=rel.slot i _ e1
     obtain⟨m1,m2⟩:=rel.move (a:=a) ⟨_,_,e1,at_of z1,p,xs,ys,rfl,z2,z3.length.symm⟩
     cases e2:(ρ.set i .no)[k]? with
     |none=>rw[e2] at h;exact h.elim
     |some s2=>
      rw[e2] at h
      cases s2 with
      |ow ts=>
       dsimp only at h
       split at h
       ·rename_i hj
        obtain⟨b,us,w1,w2,w3,w4,w5,w6⟩:=m1.ow e2
        obtain⟨n1,n2⟩:=m1.move w6
        have nab:a≠b:=λq=>m2 k (q▸w6)
        have fa:bI F σ ((ρ.set i .no).set k .no) a:=by
         intro l hl
         obtain⟨s',y',y1,y2,y3⟩:=hl
         rcases Š y1 with⟨_,rfl,_⟩|⟨_,y1⟩
         ·exact y3.elim
         ·exact m2 l ⟨s',y',y1,y2,y3⟩
        refine⟨.ref p,at_of z1,.inr (.inl ⟨p,xs ++ .ref a::ys,(j:Int),.ref a,rfl,rfl,aG.of (rel.sub _ _ z2),uV (by rw[<-z3.length];exact hj),?_⟩)⟩
        exact⟨.ref b,w1,h _ F H n1 (Same.refl _) (Same.refl _) ⟨[],a,b,vs,us,rfl,Ć.nil,⟨z4,z5,z6,fa,z7⟩,⟨w2,w3,w4,n2,w5⟩,nab⟩⟩
       ·exact h.elim
      |_=>exact h.elim
    |_=>exact h.elim
def Lg(ma:M PV)(mr:M TI2):M TI2:=λρ=>(ma ρ).bind λp ρ1=>(mr ρ1).bind λr ρ2=>.ok ⟨p::r.ps,r.qs,r.ts⟩ ρ2
def zQ{mr:M TI2}(ha:PE X e (tV (kk X cm) E ma))(hr:PA X es (tG (kk X cm) E (rLD (kk X cm)) mr))(hs:starEach (e::es) X.env=(false,eval e X.env)::starEach es X.env:=by exact Ŗ rfl):PA X (e::es) (tG (kk X cm) E (rLD (kk X cm)) (Lg ma mr)):=
 PA.wk (ŕ ha hr hs) λσ H Q ⟨c,F,ρ,rel,h⟩=>⟨c,F,ρ,rel,h.bind λp ρ1 v F1 H1 ć _ _ r1 h1=>⟨c,F1,ρ1,ć,h1.bind λr ρ2 vs F2 H2 Ğ sF sH ⟨xs,a,b,ws,us,e1,e2,e3⟩ h2=>h2 _ F2 H2 Ğ (Same.refl _) (Same.refl _) ⟨v::xs,a,b,ws,us,by rw[e1];rfl,Ć.cons (Rep.same sF p v r1) e2,e3⟩⟩⟩
def GJ(mr:M TI2):M RV:=λρ=>(mr ρ).bind λr ρ1=>if r.ps.length+2<16777216 then .ok (.o2 r.ps r.qs [] r.ts) ρ1 else .bad
def UG{x1}{mr:M TI2}(h:PA X es (tG (kk X cm) E (rLD (kk X cm)) mr)):PE X (.Tuple es x1 pos) (tO (kk X cm) E (GJ mr)):=PE.wk (wF h) λσ H Q ⟨c,F,ρ,rel,h⟩=>
 ⟨c,F,ρ,rel,h.bind fun r ρ1 vs F1 H1 ć _ _ ⟨xs,a,b,ws,us,e1,e2,⟨k1,k2,k3,k4,k5⟩,⟨l1,l2,l3,l4,l5⟩,hab⟩ h1=>by
   subst e1
   split at h1
   ·rename_i hz
    refine⟨by rw[List.length_append,<-e2.length,ě];simp only[List.length_cons,List.length_nil];omega,λp hp=>?_⟩
    have Ğ:=ć.alloc (o:=.tup (xs ++ .ref a::[.ref b])) hp
    have sF:Same F1 (upd F1 p (.tup (xs ++ .ref a::[.ref b]))):=Same.upd (ć.sub.free hp)
    have na:a≠p:=λz=>by rw[z,hp] at k1;cases k1
    have nb:b≠p:=λz=>by rw[z,hp] at l1;cases l1
    exact h1 _ _ _ Ğ sF (Same.upd hp) ⟨p,a,b,xs,ws,[],us,rfl,č,e2.same sF r.ps xs,Ć.nil,⟨by rw[Ċ na];exact k1,by rw[Ċ na];exact k2,k3,ć.bx sF k4,k5.same sF r.qs ws⟩,⟨by rw[Ċ nb];exact l1,by rw[Ċ nb];exact l2,l3,ć.bx sF l4,l5.same sF r.ts us⟩,hab⟩
   ·exact h1.elim⟩
def GK{xs:List V}{v:V}:lU (xs ++ [v]) (-1)=some v:=by
 unfold lU Mg
 simp
 rw[if_pos (by omega)]
 have e:(-1+((xs.length:Int)+1)).toNat=xs.length:=by omega
 simp[e]
def nM(i:Nat)(m:M PV):M Fl:=λρ=>match ρ[i]? with
 |some (.ot _ _ [])=>(m ρ).bind λp ρ1=>(match ρ1[i]? with
  |some (.ot ps qs [])=>if qs.length<16777216 then .ok .nx (ρ1.set i (.ot ps (qs ++ [p]) [])) else .bad
  |_=>.bad)
 |some (.o2 _ _ _ _)=>(m ρ).bind λp ρ1=>(match ρ1[i]? with
  |some (.o2 ps qs rs ts)=>if ts.length<16777216 then .ok .nx (ρ1.set i (.o2 ps qs rs (ts ++ [p]))) else .bad
  |_=>.bad)
 |_=>.bad
def xO{σ:L2.St}{i:Nat}{p q:Addr}(h1:(σ[i]?).getD none=some (.ref p))(h2:(σ[i]?).getD none=some (.ref q)):p=q:=by
 rw[h1] at h2
 injection h2 with h2
 injection h2
def BZ{i:Nat}{D:Ends}{σ:L2.St}{H:Hp}(h:tS (kk X cm) E (nM i ma) D σ H):yq (tBM X.K "list" kW (LR (rIx X.K) (lN i) (tUn (mU λi=>.int (-i)) (tC (.int 1)))) (tL (kk X cm) E (ă ma Ė))) D σ H:=by
 obtain⟨c,F,ρ,rel,h⟩:=h
 unfold nM at h
 cases e1:ρ[i]? with
 |none=>rw[e1] at h;exact h.elim
 |some sl=>
  rw[e1] at h
  cases sl with
  |ot X_ qs0 rs0=>
   cases rs0 with
   |cons _ _=>exact h.elim
   |nil=>
    obtain⟨p,a,xs,vs0,ys,z1,z2,z3,z4,z5,z6,z7,z8⟩:=rel.slot i _ e1
    unfold Ć at z8
    subst z8
    dsimp only at h
    refine⟨.ref p,at_of z1,.inr (.inl ⟨p,xs ++ [.ref a],-1,.ref a,rfl,rfl,aG.of (rel.sub _ _ z2),GK,.inl ⟨rfl,_,ř.of z4⟩,c,F,ρ,rel,?_⟩)⟩
    unfold ă
    cases em:ma ρ with
    |bad=>rw[em] at h;exact h
    |exc x ρ1=>rw[em] at h;exact λC d F' H' ŋ s1 q=>h σ C d F' H' ŋ s1 q
    |ok p1 ρ1=>
     rw[em] at h
     intro us F1 H1 ć s1 s2 r1
     have r1':Ć (kk X cm) F1 [p1] us:=r1
     cases r1'.pr with
     |cons rp t=>
      rename_i v vs'
      cases t
      cases e2:ρ1[i]? with
      |none=>simp only[Res.aK,e2] at h;exact h.elim
      |some sl2=>
       simp only[Res.aK,e2] at h
       cases sl2 with
       |ot ps qs rs=>
        cases rs with
        |cons _ _=>exact h.elim
        |nil=>
         obtain⟨p2,a2,xs2,vs,ys2,w1,w2,w3,w4,w5,w6,w7,w8⟩:=ć.slot i _ e2
         have own:Ĭ F1 σ ρ1 i a2:=⟨_,_,e2,at_of w1,p2,xs2,ys2,rfl,w2,w3.length.symm⟩
         have w8':=w8
         unfold Ć at w8'
         subst w8'
         cases xO w1 z1
         dsimp only at h
         split at h
         ·rename_i hz
          have e4:a2=a:=by
           have q:=s1 _ _ z2
           rw[w2] at q
           injection q with q
           injection q with q
           have q:=(List.append_inj' q rfl).2
           injection q with q
           injection q
          subst e4
          refine⟨a2,vs,v,rfl,rfl,w4,by rw[<-w7.length,ě];exact hz,h σ F1 _ (ć.iM own ⟨p,a2,xs2,vs ++ [v],[],w1,w2,w3,č,w5,w6,Ć.append w7 (Ć.cons rp Ć.nil),w8⟩ λx b ex q=>?_) s1⟩
          rw[at_of w1] at ex
          cases ex
          rw[gA (ps:=ps) (qs:=qs ++ [p1]) (rs:=[]) q ⟨p,xs2,[],rfl,w2,w3.length.symm⟩]
          exact own
         ·exact h.elim
       |_=>exact h.elim
  |o2 X_ qs0 rs0 ts0=>
   obtain⟨p,a,b,xs,vs0,ys,us0,z1,z2,z3,z4,⟨k1,k2,k3,k4⟩,⟨l1,l2,l3,l4⟩,z5⟩:=rel.slot i _ e1
   dsimp only at h
   refine⟨.ref p,at_of z1,.inr (.inl ⟨p,xs ++ .ref a::(ys ++ [.ref b]),-1,.ref b,rfl,rfl,aG.of (rel.sub _ _ z2),by rw[<-List.cons_append,<-List.append_assoc];exact GK,.inl ⟨rfl,_,ř.of l1⟩,c,F,ρ,rel,?_⟩)⟩
   unfold ă
   cases em:ma ρ with
   |bad=>rw[em] at h;exact h
   |exc x ρ1=>rw[em] at h;exact λC d F' H' ŋ s1 q=>h σ C d F' H' ŋ s1 q
   |ok p1 ρ1=>
    rw[em] at h
    intro us F1 H1 ć s1 s2 r1
    have r1':Ć (kk X cm) F1 [p1] us:=r1
    cases r1'.pr with
    |cons rp t=>
     rename_i v vs'
     cases t
     cases e2:ρ1[i]? with
     |none=>simp only[Res.aK,e2] at h;exact h.elim
     |some sl2=>
      simp only[Res.aK,e2] at h
      cases sl2 with
      |o2 ps qs rs ts=>
       obtain⟨p2,a2,b2,xs2,vs,ys2,us2,w1,w2,w3,w4,⟨k1',k2',k3',k4'⟩,⟨l1',l2',l3',l4'⟩,w5⟩:=ć.slot i _ e2
       have own:Ĭ F1 σ ρ1 i b2:=⟨_,_,e2,at_of w1,p2,a2,b2,xs2,ys2,rfl,w2,w3.length.symm,.inr rfl⟩
       have own':Ĭ F1 σ ρ1 i a2:=⟨_,_,e2,at_of w1,p2,a2,b2,xs2,ys2,rfl,w2,w3.length.symm,.inl rfl⟩
       cases xO w1 z1
       dsimp only at h
       split at h
       ·rename_i hz
        have e4:b2=b:=by
         have q:=s1 _ _ z2
         rw[w2] at q
         injection q with q
         injection q with q
         rw[<-List.cons_append,<-List.append_assoc,<-List.cons_append,<-List.append_assoc] at q
         have q:=(List.append_inj' q rfl).2
         injection q with q
         injection q
        subst e4
        refine⟨b2,us2,v,rfl,rfl,l1',by rw[<-l4'.length,ě];exact hz,h σ F1 _ (ć.iM own (s:=.o2 ps qs rs (ts ++ [p1])) ⟨p,a2,b2,xs2,vs,ys2,us2 ++ [v],w1,w2,w3,w4,⟨by rw[Ċ w5];exact k1',k2',k3',k4'⟩,⟨č,l2',l3',Ć.append l4' (Ć.cons rp Ć.nil)⟩,w5⟩ λx d ex q=>?_) s1⟩
        rw[at_of w1] at ex
        cases ex
        rcases iK q w2 w3.length.symm with rfl|rfl
        ·exact own'
        ·exact own
       ·exact h.elim
      |_=>exact h.elim
  |_=>exact h.elim
def rP(i j:Nat)(m:M PV):M Fl:=λρ=>match ρ[i]? with
 |some (.o2 X_ _ _ _)=>if X_.length=j then(m ρ).bind λp ρ1=>(match ρ1[i]? with
  |some (.o2 ps qs rs ts)=>if ps.length=j/\qs.length<16777216 then .ok .nx (ρ1.set i (.o2 ps (qs ++ [p]) rs ts)) else .bad
  |_=>.bad) else .bad
 |_=>.bad
def B_{i j:Nat}{D:Ends}{σ:L2.St}{H:Hp}(h:tS (kk X cm) E (rP i j ma) D σ H):yq (tBM X.K "list" kW (LR (rIx X.K) (lN i) (tC (.int j))) (tL (kk X cm) E (ă ma Ė))) D σ H:=by
 obtain⟨c,F,ρ,rel,h⟩:=h
 unfold rP at h
 cases e1:ρ[i]? with
 |none=>rw[e1] at h;exact h.elim
 |some sl=>
  rw[e1] at h
  cases sl with
  |o2 X_ qs0 rs0 ts0=>
   obtain⟨p,a,b,xs,vs0,ys,us0,z1,z2,z3,z4,⟨k1,k2,k3,k4⟩,⟨l1,l2,l3,l4⟩,z5⟩:=rel.slot i _ e1
   dsimp only at h
   split at h
   ·rename_i hj
    refine⟨.ref p,at_of z1,.inr (.inl ⟨p,xs ++ .ref a::(ys ++ [.ref b]),(j:Int),.ref a,rfl,rfl,aG.of (rel.sub _ _ z2),uV (by rw[<-z3.length];exact hj),.inl ⟨rfl,_,ř.of k1⟩,c,F,ρ,rel,?_⟩)⟩
    unfold ă
    cases em:ma ρ with
    |bad=>rw[em] at h;exact h
    |exc x ρ1=>rw[em] at h;exact λC d F' H' ŋ s1 q=>h σ C d F' H' ŋ s1 q
    |ok p1 ρ1=>
     rw[em] at h
     intro us F1 H1 ć s1 s2 r1
     have r1':Ć (kk X cm) F1 [p1] us:=r1
     cases r1'.pr with
     |cons rp t=>
      rename_i v vs'
      cases t
      cases e2:ρ1[i]? with
      |none=>simp only[Res.aK,e2] at h;exact h.elim
      |some sl2=>
       simp only[Res.aK,e2] at h
       cases sl2 with
       |o2 ps qs rs ts=>
        obtain⟨p2,a2,b2,xs2,vs,ys2,us2,w1,w2,w3,w4,⟨k1',k2',k3',k4'⟩,⟨l1',l2',l3',l4'⟩,w5⟩:=ć.slot i _ e2
        have own:Ĭ F1 σ ρ1 i b2:=⟨_,_,e2,at_of w1,p2,a2,b2,xs2,ys2,rfl,w2,w3.length.symm,.inr rfl⟩
        have own':Ĭ F1 σ ρ1 i a2:=⟨_,_,e2,at_of w1,p2,a2,b2,xs2,ys2,rfl,w2,w3.length.symm,.inl rfl⟩
        cases xO w1 z1
        dsimp only at h
        split at h
        ·rename_i hz
         have e4:a2=a:=by
          have q:=s1 _ _ z2
          rw[w2] at q
          injection q with q
          injection q with q
          have q:=(List.append_inj q (by rw[<-w3.length,hz.1,<-hj,z3.length])).2
          injection q with q
          injection q
         subst e4
         refine⟨a2,vs,v,rfl,rfl,k1',by rw[<-k4'.length,ě];exact hz.2,h σ F1 _ (ć.iM own' (s:=.o2 ps (qs ++ [p1]) rs ts) ⟨p,a2,b2,xs2,vs ++ [v],ys2,us2,w1,w2,w3,w4,⟨č,k2',k3',Ć.append k4' (Ć.cons rp Ć.nil)⟩,⟨by rw[Ċ (Ne.symm w5)];exact l1',l2',l3',l4'⟩,w5⟩ λx d ex q=>?_) s1⟩
         rw[at_of w1] at ex
         cases ex
         rcases iK q w2 w3.length.symm with rfl|rfl
         ·exact own'
         ·exact own
        ·exact h.elim
       |_=>exact h.elim
   ·exact h.elim
  |_=>exact h.elim
@[simp] theorem Zde{ps qs rs ts:List PV}:(RV.o2 ps qs rs ts).val=.tup (ps ++ .lst qs::(rs ++ [.lst ts])):=rfl
@[simp] theorem Zdf{ps qs rs ts:List PV}:(RV.o2 ps qs rs ts).slot=.o2 ps qs rs ts:=rfl
end
end P
namespace My
end My
namespace T
open PySem L2 M2 M3 M4 P
noncomputable section
def top(i:Nat):Stmt:=PySem.Challenge.pw_shadowpost_k54_the_least_pointer.main.body.getD i (.Pass ⟨0,0,0,0⟩)
abbrev Nt:Stmt:=top 44
abbrev Nu:Stmt:=top 38
abbrev Nv:Stmt:=top 39
abbrev Nx:Stmt:=top 40
abbrev Ny:Stmt:=top 41
abbrev Nz:Stmt:=top 42
abbrev NK:Stmt:=top 10
abbrev NP:Stmt:=top 11
abbrev NQ:Stmt:=top 13
abbrev Zah:Stmt:=inClass (top 18) 0
abbrev Zai:Stmt:=top 14
abbrev Zaj:Stmt:=top 15
abbrev Zak:Stmt:=top 16
abbrev Zal:Stmt:=top 12
abbrev NT:Stmt:=top 17
abbrev NZ:Stmt:=top 24
abbrev Zam:Stmt:=top 43
abbrev Zan:Stmt:=inClass (top 26) 0
abbrev N_:Stmt:=top 45
abbrev Oa:Stmt:=top 46
abbrev Ob:Stmt:=top 48
abbrev Oc:Stmt:=top 28
abbrev Od:Stmt:=top 3
abbrev Oe:Stmt:=top 30
abbrev Zao:Stmt:=top 31
abbrev Og:Stmt:=top 27
abbrev Oh:Stmt:=top 32
abbrev Zap:Stmt:=top 33
abbrev Oi:Stmt:=top 2
abbrev Oj:Stmt:=top 34
abbrev Ol:Stmt:=top 35
abbrev Zaq:Stmt:=top 36
abbrev Om:Stmt:=top 47
abbrev Oo:Stmt:=top 49
def cmB(c0:Addr)(c1:Addr)(c2:Addr)(c3:Addr)(c4:Addr)(c5:Addr)(c6:Addr):String->Addr:=λs=>match s with
 | "Thing" =>c0
 | "Post" =>c1
 | "Fence" =>c2
 | "Sail" =>c3
 | "Cloth" =>c4
 | "House" =>c5
 | "Yard" =>c6
 |_=>0
def xP:M Fl:=(ė (ĳ 0 (Ś (Ą ĝ (Ā 0) (Ą bN (mC (.int 10)) (mC (.int 12))))))
 (ė (dW (cF (Ą Ŋ (Ą ĝ (Ā 0) (mC (.int 6))) (mC (.int 5))))
 (Į (Ś (Ŕ (ă (Ę (ĥ Ģ (mC (.int 1)) (Ą ĝ (Ą İ (Ā 0) (mC (.int 6))) (mC (.int 20))))) (ă (Ę (ĥ Ģ (mC (.int 1)) (Ą ĝ (Ą İ (Ā 0) (mC (.int 120))) (mC (.int 20))))) Ė)))))
 fM)
 (Į (Ś (Ŕ (ă (Ę (ĥ Ģ (mC (.int 1)) (Ą ĝ (Ą İ (Ā 0) (mC (.int 6))) (mC (.int 6))))) (ă (Ę (ĥ Ģ (mC (.int 1)) (Ą ĝ (Ą İ (Ā 0) (mC (.int 36))) (mC (.int 6))))) Ė)))))))
def vA:MF:=ķ 1 1 xP
def xQ:M Fl:=(ė (dW (cF (Ą oW (Ā 1) (iy iW (ă (Ā 0) Ė))))
 (Į (Ś (Ą ę (Ā 0) (Ā 1))))
 fM)
 (Į (Ś (mC (.int 0)))))
def Ű:MF:=ķ 2 2 xQ
def GP:M Fl:=(ė (ĳ 0 (ĥ Ģ (Ę (ĥ Ģ (Ą ĝ (Ā 0) (mC (.int 1073741789))) (Ą ģ (mC (.int 3)) (Ā 1)))) (mC (.int 1))))
 (ė (Eh (gS 2 (Č (gN 2) (Č (gN 3) Ō))) (iy gK (ă (Ę (ĥ Ģ (Ą ģ (Ā 0) (mC (.int 40009))) (Ą ģ (Ā 1) (mC (.int 5501))))) (ă (mC (.int 32749)) Ė))))
 (Į (Ś (Ą ĝ (Ę (ĥ Ģ (Ę (ĥ Ģ (Ą ģ (Ā 2) (Ā 2)) (Ą ģ (Ā 3) (Ę (ĥ Ģ (Ā 3) (mC (.int 613))))))) (Ā 1))) (mC (.int 1500450271)))))))
def vB:MF:=ķ 2 4 GP
def jk:M Fl:=(dW (cF (Ą Ŋ (Ā 2) (mC (.int 0))))
 (ė (oV 3 (Ą ĝ (Ā 0) (Ą bN (mC (.int 10)) (mC (.int 6)))))
 (ĳ 0 (Ś (Ą İ (Ā 0) (Ą bN (mC (.int 10)) (mC (.int 6)))))))
 (oV 3 (Ę (Ĝ vB (Ĥ (Ę (ĥ Ģ (Ę (Ĝ vB (ĉ 0 (ĉ 4 Ě)))) (Ā 0))) (ĉ 4 Ě))))))
def GQ:M Fl:=(ė (ĳ 2 (Ś (Ą ĝ (Ā 0) (mC (.int 2)))))
 (ė (ĳ 0 (Ś (Ą ĝ (Ą İ (Ā 0) (mC (.int 2))) (Ą ģ (Ą ģ (Ą bN (mC (.int 10)) (mC (.int 60))) (Ą bN (mC (.int 10)) (mC (.int 60)))) (Ą bN (mC (.int 10)) (mC (.int 60)))))))
 (ė (ĳ 3 (dX Ė))
 (ė (fO (Ŧ aO (ă (ē 1) Ė)) (gN 4) jk)
 (Į (gB 3))))))
def zR:MF:=ķ 2 5 GQ
def rQ:M Fl:=(ė (Eh (gS 3 (Č (gN 4) (Č (gN 5) (Č (gN 6) Ō)))) (ē 2))
 (ė (dW (cF (Ą Ŋ (Ą ĝ (Ā 0) (mC (.int 7))) (mC (.int 6))))
 (Į (Ś (mC .non)))
 fM)
 (ė (dW (cF (Ą oW (Ą ĝ (Ā 0) (mC (.int 5))) (mC (.int 3))))
 (Į (Ś (Ŕ (ă (Ę (ĥ Ģ (Ą ģ (Ą ģ (mC (.int 2)) (Ā 6)) (Ā 1)) (Ā 4))) (ă (Ę (ĥ Ģ (Ā 5) (Ą ģ (Ą ģ (mC (.int 2)) (Ā 6)) (Ą İ (Ą ĝ (Ą İ (Ā 0) (mC (.int 35))) (mC (.int 9))) (mC (.int 8)))))) (ă (ē 6) Ė))))))
 fM)
 (ė (ĳ 3 (Ś (Ą ę (Ę (dX (ă (mC (.int 1)) (ă (mC (.int 1)) (ă (Ą bN (mC (.int 10)) (mC (.int 5))) Ė))))) (Ą ĝ (Ą İ (Ā 0) (mC (.int 35))) (mC (.int 3))))))
 (Į (Ś (Ŕ (ă (Ą ģ (Ā 3) (Ą bM (Ą ĝ (Ą İ (Ā 0) (mC (.int 105))) (mC (.int 9))) (mC (.int 4)))) (ă (Ą ģ (Ā 3) (Ą bM (Ą ĝ (Ą İ (Ā 0) (mC (.int 945))) (mC (.int 9))) (mC (.int 4)))) (ă (Ą ģ (Ā 3) (Ę (ĥ Ģ (mC (.int 1)) (Ą ĝ (Ą İ (Ā 0) (mC (.int 8505))) (mC (.int 2)))))) Ė))))))))))
def eZ:MF:=ķ 3 7 rQ
def jl:M Fl:=(ė (ĳ 7 (Ĝ Ű (ĉ 0 (Ĥ (Ę (ĥ Ģ (Ę (ĥ Ģ (Ā 1) (mC (.int 1)))) (Ā 6))) Ě))))
 (ė (ĳ 8 (Ś (Ŕ (ă (Ą bM (Ą ĝ (Ą İ (Ā 7) (mC (.int 12))) (mC (.int 5))) (mC (.int 2))) (ă (Ą bM (Ą ĝ (Ą İ (Ā 7) (mC (.int 60))) (mC (.int 5))) (mC (.int 2))) (ă (Ę (ĥ Ģ (mC (.int 1)) (Ą ĝ (Ą İ (Ā 3) (mC (.int 36))) (mC (.int 3))))) Ė))))))
 (ė (ĳ 9 (ĥ Ģ (Ę (ĥ Ģ (mC (.int 1)) (Ą ĝ (Ā 7) (mC (.int 4))))) (Ą ģ (Ą ĝ (Ą İ (Ā 7) (mC (.int 4))) (mC (.int 3))) (Ą İ (Ą ĝ (Ą İ (Ā 3) (mC (.int 3))) (mC (.int 4))) (mC (.int 3))))))
 (ė (dW (cF (Ą Ŋ (Ā 5) (mC (.int 1))))
 (ĳ 9 (ĥ Ģ (mC (.int 1)) (Ą ĝ (Ā 7) (mC (.int 24)))))
 fM)
 (ė (ĳ 10 (Ĝ zR (Ĥ (Ą İ (Ā 7) (mC (.int 300))) (ĉ 9 Ě))))
 (ė (ĳ 11 (aP [8,10] 1 (Ŧ aO (ă (ē 9) Ė)) (gN 2) dw (Ę (Ĝ eZ (Ĥ (Ą ę (Ā 1) (Ā 2)) (ĉ 2 (ĉ 0 Ě)))))))
 (ė (ĳ 12 (ĥ Ģ (Ą ę (mC (.str "abcdefghijkl")) (Ā 6)) (Ą ģ (mC (.str "ab")) (Ą ĝ (Ą İ (Ā 3) (mC (.int 108))) (mC (.int 4))))))
 (oV 4 (Ŕ (ă (ē 12) (ă (Ę (ĥ Ģ (mC (.int 1)) (Ą ĝ (Ą İ (Ā 3) (mC (.int 7))) (Ą bM (Ą bN (mC (.int 10)) (mC (.int 9))) (mC (.int 1)))))) (ă (ē 11) Ė))))))))))))
def nO:M Fl:=(ė (ĳ 3 (Ś (Ą ĝ (Ę (Ĝ Ű (ĉ 0 (ĉ 1 Ě)))) (Ą bN (mC (.int 10)) (mC (.int 12))))))
 (ė (ĳ 4 (dX Ė))
 (ė (ĳ 5 (Ś (iy rE (ă (Ą Ŋ (Ą ĝ (Ą İ (Ā 3) (mC (.int 1009))) (mC (.int 16))) (mC (.int 3))) Ė))))
 (ė (dW (cF (Ą Ŋ (Ą ĝ (Ą İ (Ā 3) (mC (.int 16144))) (mC (.int 16))) (mC (.int 9))))
 (Į (dX Ė))
 fM)
 (ė (fO (Ŧ aO (ă (Ę (ĥ Ģ (mC (.int 1)) (Ą ĝ (Ā 3) (Ą ę (Ę (dX (ă (ē 2) (ă (mC (.int 12)) Ė)))) (Ā 5))))) Ė)) (gN 6) jl)
 (Į (gB 4)))))))
def g_:MF:=ķ 3 13 nO
def GR:M Fl:=(Į (Ś (lY jW jW (JK yP (mC (.int (1000000000)))) (Ā 0) (mC (.int (1000000000))))))
def jH:MF:=ķ 1 1 GR
def GX:M Fl:=(Į (Ś (lY jW jW (mC (.int 1)) (Ā 0) (mC (.int (1000000000))))))
def vC:MF:=ķ 1 1 GX
def xR:M Fl:=(Į (Ś (cj (Ą Ŋ (iy iW (ă (Ā 0) Ė)) (mC (.int 3))) (cj (Ę (Ĝ jH (Ĥ (Ą ę (Ā 0) (mC (.int 0))) Ě))) (cj (Ę (Ĝ jH (Ĥ (Ą ę (Ā 0) (mC (.int 1))) Ě))) (Ę (Ĝ vC (Ĥ (Ą ę (Ā 0) (mC (.int 2))) Ě))))))))
def vD:MF:=ķ 1 1 xR
def cJ:M Fl:=(ė (eX 0 ["Thing","Post","Fence","Sail","Cloth","House"] "word" (ē 1))
 (eX 0 ["Thing","Post","Fence","Sail","Cloth","House"] "numbers" (Ę (qY eV (ă (Ā 2) Ė)))))
def rT:MI:=aU 3 3 "Post" cJ
def nP:MI:=aU 3 3 "Fence" cJ
def rW:MI:=aU 3 3 "Sail" cJ
def nQ:MI:=aU 3 3 "Cloth" cJ
def nR:MI:=aU 3 3 "House" cJ
def GZ:M Fl:=(Į (Ś (cj (Ą Ŋ (iy iW (ă (Ā 0) Ė)) (mC (.int 5))) (cj (iy uN (ă (Ę (aP [] 1 (bB (Ę (Wa (Ā 0) JX (mP (mC (.int 4)))))) (gN 0) dw (Ę (Ĝ jH (ĉ 0 Ě))))) Ė)) (Ę (Ĝ vC (Ĥ (Ą ę (Ā 0) (mC (.int 4))) Ě)))))))
def Ca:MF:=ķ 1 1 GZ
def G_:M Fl:=(Į (Ś (cj (Ę (Ĝ Ca (ĉ 0 Ě))) (Ą gH (Ę (Wa (Ā 0) JX (mP (mC (.int 2))))) (Ę (Wa (Ā 0) (mP (mC (.int 2))) (mP (mC (.int 4)))))))))
def Hf:MF:=ķ 1 1 G_
def Hg:M Fl:=(Į (Ś (cj (Ę (Ĝ Ca (ĉ 0 Ě))) (cj (Ą oW (Ą ę (Ā 0) (mC (.int 0))) (Ą ę (Ā 0) (mC (.int 2)))) (Ą oW (Ą ę (Ā 0) (mC (.int 1))) (Ą ę (Ā 0) (mC (.int 3))))))))
def Cd:MF:=ķ 1 1 Hg
def Oq:M Fl:=(Į (Ś (cj (Ę (Ĝ jH (Ĥ (Ą ę (Ā 0) (mC (.int 0))) Ě))) (cj (Ę (Ĝ jH (Ĥ (Ą ę (Ā 0) (mC (.int 1))) Ě))) (lY jW jW (mC (.int 0)) (Ą ę (Ā 0) (mC (.int 2))) (mC (.int (1000000000))))))))
def Li:MF:=ķ 1 1 Oq
def xT:M Fl:=(Į (Ś (cj (Ą Ŋ (iy iW (ă (Ā 0) Ė)) (mC (.int 9))) (iy uN (ă (Ę (aP [0] 1 (bB (Ŕ (ă (mC (.int 0)) (ă (mC (.int 3)) (ă (mC (.int 6)) Ė))))) (gN 1) dw (Ę (Ĝ Li (Ĥ (Ę (Wa (Ā 0) (mP (ē 1)) (mP (Ę (ĥ Ģ (Ā 1) (mC (.int 3))))))) Ě))))) Ė)))))
def vG:MF:=ķ 1 1 xT
def fU:M Fl:=(ė (dW (jz (cF (Ą Ŋ (Ā 0) (mC (.str "post")))) (jV (Ę (Ĝ vD (ĉ 1 Ě)))))
 (Į (Ś (aV "Post" rT (ĉ 0 (ĉ 1 Ě)))))
 fM)
 (ė (dW (jz (cF (Ą Ŋ (Ā 0) (mC (.str "fence")))) (jV (Ę (Ĝ Hf (ĉ 1 Ě)))))
 (Į (Ś (aV "Fence" nP (ĉ 0 (ĉ 1 Ě)))))
 fM)
 (ė (dW (jz (cF (Ą Ŋ (Ā 0) (mC (.str "sail")))) (jV (Ę (Ĝ Cd (ĉ 1 Ě)))))
 (Į (Ś (aV "Sail" rW (ĉ 0 (ĉ 1 Ě)))))
 fM)
 (ė (dW (jz (cF (Ą Ŋ (Ā 0) (mC (.str "cloth")))) (jV (Ę (Ĝ vG (ĉ 1 Ě)))))
 (Į (Ś (aV "Cloth" nQ (ĉ 0 (ĉ 1 Ě)))))
 fM)
 (ė (dW (jz (cF (Ą Ŋ (Ā 0) (mC (.str "house")))) (jV (Ę (Ĝ Cd (ĉ 1 Ě)))))
 (Į (Ś (aV "House" nR (ĉ 0 (ĉ 1 Ě)))))
 fM)
 SN)))))
def fj:MF:=ķ 2 2 fU
def Hh:M Fl:=(ė (ĳ 0 (Ś (Ą ĝ (Ā 0) (Ą bN (mC (.int 10)) (mC (.int 9))))))
 (ė (dW (cF (Ą Ŋ (Ą ĝ (Ā 0) (mC (.int 2))) (mC (.int 0))))
 (Į (dX Ė))
 fM)
 (ė (ĳ 1 (Ś (Ą bM (Ą ĝ (Ą İ (Ā 0) (mC (.int 2))) (mC (.int 9))) (mC (.int 4)))))
 (ė (ĳ 2 (Ś (Ą bM (Ą ĝ (Ą İ (Ā 0) (mC (.int 18))) (mC (.int 9))) (mC (.int 4)))))
 (ė (ĳ 3 (Ś (Ą ę (Ę (dX (ă (mC (.str "house")) (ă (mC (.str "sail")) Ė)))) (Ą ĝ (Ą İ (Ā 0) (mC (.int 162))) (mC (.int 2))))))
 (Į (dX (ă (Ę (Ĝ fj (ĉ 3 (Ĥ (Ę (dX (ă (ē 1) (ă (ē 2) (ă (Ę (ĥ Ģ (Ā 1) (mC (.int 30)))) (ă (Ę (ĥ Ģ (Ā 2) (mC (.int 30)))) (ă (Ę (ĥ Ģ (mC (.int 1)) (Ą ĝ (Ą İ (Ā 0) (mC (.int 324))) (mC (.int 9))))) Ė))))))) Ě)))) Ė))))))))
def Ce:MF:=ķ 1 4 Hh
def Hi:M Fl:=(ė (eX 0 ["Yard"] "width" (ē 1))
 (ė (eX 0 ["Yard"] "height" (ē 2))
 (ė (eX 0 ["Yard"] "things" (Ę (qY eV (ă (Ā 3) Ė))))
 (eX 0 ["Yard"] "days" (Ę (aP [] 3 (cA 4) (gT 3 (Č (gN 0) (Č (gN 1) (Č (gN 2) Ō)))) dw (Ŕ (ă (ē 0) (ă (ē 1) (ă (Ę (qY eV (ă (Ā 2) Ė))) Ė))))))))))
def lK:MI:=aU 5 5 "Yard" Hi
def Hj:M Fl:=(ė (ĳ 4 (ĥ Ģ (Ą ģ (Ą ę (Ā 1) (mC (.int 2))) (Ą ę (Ā 0) (Ā 3))) (Ą ģ (Ą ę (Ā 1) (Ā 3)) (Ą ę (Ā 0) (mC (.int 2))))))
 (oV 2 (Ą İ (Ę (ĥ Ģ (Ā 4) (Ą ę (Ā 1) (mC (.int 2))))) (Ą ģ (mC (.int 2)) (Ą ę (Ā 1) (mC (.int 2)))))))
def Hl:M Fl:=(ė (ĳ 2 (dX Ė))
 (ė (fO (Ŧ aO (ă (mC (.int 2)) Ė)) (gN 3) Hj)
 (Į (Ś (Ŕ (ă (Ą ę (Ā 2) (mC (.int 0))) (ă (Ą ę (Ā 2) (mC (.int 1))) Ė)))))))
def zT:MF:=ķ 2 5 Hl
def ĸ:M Fl:=(ė (ĳ 7 (Ś (Ą ę (Ą ę (Ą ę (Ā 1) (Ā 5)) (mC (.int 2))) (Ā 6))))
 (ė (dW (cF (Ą rC (Ā 7) (mC .non)))
 mCt
 fM)
 (ė (Eh (gS 2 (Č (gN 9) (Č (gN 10) Ō))) (Ę (Ĝ zT (ĉ 2 (ĉ 7 Ě)))))
 (ė (dW (Eb (pU (cF (lY jW oW (mC (.int 0)) (Ā 9) (Ą ę (Ā 0) (mC (.int 0)))))) (pU (cF (lY jW oW (mC (.int 0)) (Ā 10) (Ą ę (Ā 0) (mC (.int 1)))))))
 (Į (Ś (Ŕ (ă (mC (.str "off")) (ă (ē 5) (ă (ē 6) Ė))))))
 fM)
 (ė (ĳ 8 (ĥ Ģ (Ą ģ (Ā 10) (Ą ę (Ā 0) (mC (.int 0)))) (Ā 9)))
 (dW (cF (Ku true 3 (ē 8)))
 (zu 3 (ē 8) (Ŕ (ă (ē 5) (ă (ē 6) Ė))))
 (dW (jz (cF (Ą gH (Ą ę (jE 3 (ē 8)) (mC (.int 1))) (Ā 6))) (cF (Ą rC (Ā 4) (mC .non))))
 (ĳ 4 (Ś (Ŕ (ă (mC (.str "alike")) (ă (jE 3 (ē 8)) (ă (Ŕ (ă (ē 5) (ă (ē 6) Ė))) Ė))))))
 fM)))))))
def jm:M Fl:=(fO (Ŧ aO (ă (iy iW (ă (Ą ę (Ą ę (Ā 1) (Ā 5)) (mC (.int 2))) Ė)) Ė)) (gN 6) ĸ)
def fV:M Fl:=(ė (zq 3)
 (ė (ĳ 4 (Ś (mC .non)))
 (ė (fO (Ŧ aO (ă (iy iW (ă (Ā 1) Ė)) Ė)) (gN 5) jm)
 (ė (dW (cF (Ą gJ (Ā 4) (mC .non)))
 (Į (gB 4))
 fM)
 (Į (Ś (Ŕ (ă (mC (.str "marks")) (ă (Ę (aP [3] 1 (bB (Ę (lG 3))) (gN 1) dw (Ŕ (ă (ē 1) (ă (Ą ę (jE 0 (ē 1)) (mC (.int 1))) Ė))))) Ė)))))))))
def fu:MF:=ķ 3 11 fV
def fW:M Fl:=(ė (ĳ 6 (Ĝ fu (ĉ 0 (ĉ 1 (Ĥ (Ŕ (ă (Ą ę (Ā 2) (mC (.int 0))) (ă (Ą ę (Ā 2) (mC (.int 1))) (ă (ē 5) Ė)))) Ě)))))
 (ė (dW (cF (Ą Ŋ (Ą ę (Ā 6) (mC (.int 0))) (mC (.str "marks"))))
 (Į (Ś (Ŕ (ă (mC (.str "height")) (ă (ē 5) (ă (Ą ę (Ā 6) (mC (.int 1))) (ă (ē 4) Ė)))))))
 fM)
 (oV 4 (ē 6))))
def xU:M Fl:=(ė (ĳ 4 (dX Ė))
 (ė (fO (Ŧ pW (ă (mC (.int 1)) (ă (Ę (ĥ Ģ (Ā 3) (mC (.int 1)))) Ė))) (gN 5) fW)
 (Į (Ś (Ŕ (ă (mC (.str "none")) (ă (ē 4) Ė)))))))
def vH:MF:=ķ 4 7 xU
def Ho:M Fl:=(Į (Ś (Ą ę (Ą ę (JK (gM ["Yard"] "days") (Ā 0)) (Ā 1)) (mC (.int 2)))))
def vI:MF:=ķ 2 2 Ho
def Hq:M Fl:=(Į (Ś (Ŕ (ă (Ę (ĥ Ģ (Ą ģ (Ą ę (Ā 1) (mC (.int 2))) (Ą ę (Ā 0) (mC (.int 0)))) (Ą ģ (Ą ę (Ā 1) (mC (.int 0))) (Ą ę (Ā 0) (mC (.int 2)))))) (ă (Ę (ĥ Ģ (Ą ģ (Ą ę (Ā 1) (mC (.int 2))) (Ą ę (Ā 0) (mC (.int 1)))) (Ą ģ (Ą ę (Ā 1) (mC (.int 1))) (Ą ę (Ā 0) (mC (.int 2)))))) Ė)))))
def zU:MF:=ķ 2 2 Hq
def Hr:M Fl:=(ė (ĳ 2 (Ĝ zU (ĉ 0 (ĉ 1 Ě))))
 (ė (ĳ 3 (Ś (Ą ę (Ā 1) (mC (.int 2)))))
 (Į (Ś (Ŕ (ă (Ą İ (Ę (ĥ Ģ (Ą ę (Ā 2) (mC (.int 0))) (Ā 3))) (Ą ģ (mC (.int 2)) (Ā 3))) (ă (Ą İ (Ę (ĥ Ģ (Ą ę (Ā 2) (mC (.int 1))) (Ā 3))) (Ą ģ (mC (.int 2)) (Ā 3))) Ė)))))))
def zV:MF:=ķ 2 4 Hr
def qG:M Fl:=(dW (cF (Ą gJ (Ā 5) (mC .non)))
 (oV 2 (Ŕ (ă (ē 3) (ă (ē 4) (ă (Ę (Ĝ zV (ĉ 1 (ĉ 5 Ě)))) Ė)))))
 fM)
def zW:M Fl:=(fO (E_ (mLs (Ę (Ĝ vI (ĉ 0 (ĉ 3 Ě)))))) (gT 2 (Č (gN 4) (Č (gN 5) Ō))) qG)
def Ot:M Fl:=(ė (ĳ 2 (dX Ė))
 (ė (fO (Ŧ aO (ă (iy iW (ă (JK (gM ["Yard"] "days") (Ā 0)) Ė)) Ė)) (gN 3) zW)
 (Į (gB 2))))
def Lj:MF:=ķ 2 6 Ot
def jo:M Fl:=(Į (Ś (cj (lY jW oW (mC (.int 0)) (Ą ę (Ā 1) (mC (.int 0))) (JK (gM ["Yard"] "width") (Ā 0))) (lY jW oW (mC (.int 0)) (Ą ę (Ā 1) (mC (.int 1))) (JK (gM ["Yard"] "height") (Ā 0))))))
def jJ:MF:=ķ 2 2 jo
def jq:M Fl:=(dW (pU (jV (Ę (Ĝ jJ (ĉ 0 (ĉ 4 Ě))))))
 (Į (Ś (Ŕ (ă (mC (.str "off")) (ă (ē 2) (ă (ē 3) Ė))))))
 fM)
def xV:M Fl:=(ė (fO (cA 1) (gT 3 (Č (gN 2) (Č (gN 3) (Č (gN 4) Ō)))) jq)
 (Į (Ś (mC .non))))
def vJ:MF:=ķ 2 5 xV
def jK:M Fl:=(ė (Lf 5 1 (ē 4) (Ŕ (ă (ē 2) (ă (ē 3) Ė))))
 (dW (cF (Ą gH (Ą ę (Ā 5) (mC (.int 1))) (Ā 3)))
 (Į (Ś (Ŕ (ă (mC (.str "alike")) (ă (ē 5) (ă (Ŕ (ă (ē 2) (ă (ē 3) Ė))) Ė))))))
 fM))
def Hs:M Fl:=(ė (xM 1)
 (ė (fO (cA 0) (gT 3 (Č (gN 2) (Č (gN 3) (Č (gN 4) Ō)))) jK)
 (Į (Ś (mC .non)))))
def Ht:MF:=ķ 1 6 Hs
def Hu:M Fl:=(Į (ĥ Ģ (Ą ģ (Ą ę (Ā 0) (mC (.int 1))) (Ā 1)) (Ą ę (Ā 0) (mC (.int 0)))))
def zZ:MF:=ķ 2 2 Hu
def rY:M Fl:=(zu 2 (Ę (Ĝ zZ (ĉ 5 (Ĥ (JK (gM ["Yard"] "width") (Ā 0)) Ě)))) (ē 4))
def Hv:M Fl:=(ė (zq 2)
 (ė (fO (cA 1) (gT 3 (Č (gN 3) (Č (gN 4) (Č (gN 5) Ō)))) rY)
 (Į (lH 2))))
def z_:MF:=ķ 2 6 Hv
def rZ:M Fl:=(ė (ĳ 2 (Ĝ Lj (ĉ 0 (ĉ 1 Ě))))
 (ė (ĳ 3 (Ĝ vJ (ĉ 0 (ĉ 2 Ě))))
 (ė (dW (cF (Ą rC (Ā 3) (mC .non)))
 (ĳ 3 (Ĝ Ht (ĉ 2 Ě)))
 fM)
 (ė (dW (cF (Ą rC (Ā 3) (mC .non)))
 (Į (ql (je (mC (.str "marks")) (qj (Ĝ z_ (ĉ 0 (ĉ 2 Ě)))))))
 fM)
 (Į (gB 3))))))
def fB:MF:=ķ 2 4 rZ
def nT:M Fl:=(ė (ĳ 6 (Ĝ fB (ĉ 0 (Ĥ (Ŕ (ă (ē 1) (ă (ē 2) (ă (ē 5) Ė)))) Ě))))
 (ė (dW (jC 6 (cF (Ą Ŋ (Ą ę (Ā 6) (mC (.int 0))) (mC (.str "marks")))))
 (Į (GJ (Lg (mC (.str "height")) (Lg (ē 5) (mL2 6 1 4)))))
 fM)
 (oV 4 (ē 6))))
def Hw:M Fl:=(ė (ĳ 4 (dX Ė))
 (ė (fO (Ŧ pW (ă (mC (.int 1)) (ă (Ę (ĥ Ģ (Ā 3) (mC (.int 1)))) Ė))) (gN 5) nT)
 (Į (ql (je (mC (.str "none")) (qj (gB 4)))))))
def Cg:MF:=ķ 4 7 Hw
def Z2(mf:MF):M Fl:=(ė (dW (Eb (jV (iy iY (ă (Ā 1) (ă (mC (.ty "tuple")) Ė)))) (jV (iy iY (ă (Ā 1) (ă (mC (.ty "list")) Ė)))))
     (ė (dW (Eb (cF (Ą gH (iy iY (ă (Ā 1) (ă (mC (.ty "tuple")) Ė))) (iy iY (ă (Ā 0) (ă (mC (.ty "tuple")) Ė))))) (cF (Ą gH (iy iY (ă (Ā 1) (ă (mC (.ty "list")) Ė))) (iy iY (ă (Ā 0) (ă (mC (.ty "list")) Ė))))))
     (Į (Ś (mC (.bl false))))
     fM)
     (Į (Ś (cj (Ą Ŋ (iy iW (ă (Ā 0) Ė)) (iy iW (ă (Ā 1) Ė))) (iy uN (ă (Ę (aP [] 2 (Kh (wW 0) (wW 1)) (gT 2 (Č (gN 0) (Č (gN 1) Ō))) dw (Ę (Ĝ mf (ĉ 0 (ĉ 1 Ě)))))) Ė))))))
     fM)
     (ė (dW (jV (iy iY (ă (Ā 1) (ă (mC (.ty "str")) Ė))))
     (Į (Ś (cj (iy iY (ă (Ā 0) (ă (mC (.ty "str")) Ė))) (Ą Ŋ (Ā 0) (Ā 1)))))
     fM)
     (ė (dW (cF (Ą rC (Ā 1) (mC .non)))
     (Į (Ś (Ą rC (Ā 0) (mC .non))))
     fM)
     (Į (Ś (cj (iy iY (ă (Ā 0) (ă (mC (.ty "int")) Ė))) (cj (SJ (iy iY (ă (Ā 0) (ă (mC (.ty "bool")) Ė)))) (Ą Ŋ (Ā 0) (Ā 1)))))))))
def Lk:MF:=ķ 2 2 (Z2 λ_=>.bad)
def o_:MF:=ķ 2 2 (Z2 Lk)
def pq:MF:=ķ 2 2 (Z2 o_)
def pA:MF:=ķ 2 2 (Z2 pq)
def Aa:MF:=ķ 2 2 (Z2 pA)
def su:M Fl:=(ė (ĳ 10 (Ĝ Cg (ĉ 4 (Ĥ (Ą ę (Ā 5) (mC (.int 0))) (Ĥ (Ą ę (Ā 5) (mC (.int 1))) (ĉ 7 Ě))))))
 (ė (dW (jj 10 (pU (jV (Ę (Ĝ Aa (ĉ 10 (ĉ 8 Ě)))))))
 (Į (Ś (mC (.bl false))))
 fM)
 (ė (nM 10 (Ŕ (ă (mC (.str "off")) (ă (mC (.int 0)) (ă (mC (.int 0)) Ė)))))
 (dW (jj 10 (cF (Ą Ŋ (Ą ę (Ā 10) (mC (.int 0))) (mC (.str "height")))))
 (rP 10 2 (Ŕ (ă (mC (.int 0)) (ă (mC (.int 0)) Ė))))
 fM))))
def Hx:M Fl:=(ė (ĳ 1 (Ĝ vA (Ĥ (Ę (Ĝ Ű (ĉ 0 (Ĥ (mC (.int 0)) Ě)))) Ě)))
 (ė (ĳ 2 (Ĝ g_ (ĉ 0 (Ĥ (mC (.int 4)) (Ĥ (mC (.int 4)) Ě)))))
 (ė (ĳ 3 (Ĝ Ce (Ĥ (Ą İ (Ę (Ĝ Ű (ĉ 0 (Ĥ (mC (.int 0)) Ě)))) (mC (.int 7))) Ě)))
 (ė (ĳ 4 (Ś (aV "Yard" lK (Ĥ (Ą ę (Ā 1) (mC (.int 0))) (Ĥ (Ą ę (Ā 1) (mC (.int 1))) (ĉ 3 (Ĥ (Ę (aP [] 3 (cA 2) (gT 3 (Č (gN 0) (Č (gN 1) (Č (gN 2) Ō)))) dw (Ŕ (ă (ē 0) (ă (ē 1) (ă (Ę (qY eV (ă (Ā 2) Ė))) Ė)))))) Ě)))))))
 (ė (ĳ 5 (Ś (Ŕ (ă (Ą bM (Ą ĝ (Ę (Ĝ Ű (ĉ 0 (Ĥ (mC (.int 1)) Ě)))) (mC (.int 19))) (mC (.int 4))) (ă (Ą bM (Ą ĝ (Ę (Ĝ Ű (ĉ 0 (Ĥ (mC (.int 2)) Ě)))) (mC (.int 19))) (mC (.int 4))) Ė)))))
 (ė (ĳ 6 (Ś (Ą ĝ (Ę (Ĝ Ű (ĉ 0 (Ĥ (mC (.int 3)) Ě)))) (mC (.int 1080)))))
 (ė (ĳ 7 (ĥ Ģ (mC (.int 1)) (Ą ĝ (Ą İ (Ā 6) (mC (.int 6))) (Ą ę (Ę (dX (ă (mC (.int 6)) (ă (mC (.int 6)) (ă (mC (.int 6)) (ă (mC (.int 6)) (ă (mC (.int 6)) (ă (mC (.int 30)) Ė)))))))) (Ą ĝ (Ā 6) (mC (.int 6)))))))
 (ė (ĳ 8 (Ĝ vH (ĉ 1 (ĉ 2 (ĉ 5 (ĉ 7 Ě))))))
 (ė (fO (Ŧ aO (ă (mC (.int 2)) Ė)) (gN 9) su)
 (Į (Ś (mC (.bl true)))))))))))))
def nU:MF:=ķ 1 11 Hx
set_option genInjectivity false
set_option genSizeOf false
structure Hy where
 {Ou Ov Ow Ox Oz OD OJ O_ Pa jZ Zar Zas Zat Zau Pb Ph Zav UJ Pj Pk Pn Pq Pr Pu Zaw Px Py Zax Pz PB PJ Zay vK PL sy Hz Ab HB Ac Ad xW:Addr}
 {PN P_ Qa Qc Qd Qe Qf Qg Qh Ci Zaz ZaA ZaB ZaC Qi Qj ZaD ZaE Qk Ql Qm Qn Qo Qp ZaF Qq Qs ZaG Qt Qu Qv ZaH vL HD:FuncData}
 {pB sE:Tok}
def ĺ(a:Hy):String->Addr:=cmB a.sy a.Hz a.Ab a.HB a.Ac a.Ad a.xW
structure Tx(K:PySem.W.Frag)(mg:Str->Option Value)(a:Hy):Prop where
 Zbr:mg "Thing" =some (.ref a.sy)
 UL:mg "Post" =some (.ref a.Hz)
 Ln:mg "Fence" =some (.ref a.Ab)
 UW:mg "Sail" =some (.ref a.HB)
 Lp:mg "Cloth" =some (.ref a.Ac)
 Lq:mg "House" =some (.ref a.Ad)
 U_:mg "Yard" =some (.ref a.xW)
 h_:Df K mg "_law_sides" Nt ["_law_cell_here"] a.Ou a.PN
 ŉ:Df K mg "_law_cell" Nu ["_law_script","_law_at"] a.Ov a.P_
 cD:Df K mg "_law_churn" Nv ["_law_number","_law_k"] a.Ow a.Qa
 nW:Df K mg "_law_row" Nx ["_law_cell_here","_law_many"] a.Ox a.Qc
 jL:Df K mg "_law_turn" Ny ["_law_number","_law_t","_law_kind"] a.Oz a.Qd
 jM:Df K mg "_law_days" Nz ["_law_script","_law_at","_law_many"] a.OD a.Qe
 ũ:Df K mg "is_place" NK ["number"] a.OJ a.Qf
 dJ:Df K mg "is_height" NP ["number"] a.O_ a.Qg
 ig:Df K mg "makes_post" NQ ["numbers"] a.Pa a.Qh
 ğ:Dm K a.sy "__init__" "Thing.__init__" Zah ["self","word","numbers"] a.jZ a.Ci
 aj:Df K mg "has_two_ends" Zai ["numbers"] a.Zar a.Zaz
 fC:Df K mg "makes_fence" Zaj ["numbers"] a.Zas a.ZaA
 Ő:Df K mg "makes_sail_or_house" Zak ["numbers"] a.Zat a.ZaB
 aZ:Df K mg "is_cloth_corner" Zal ["numbers"] a.Zau a.ZaC
 fG:Df K mg "makes_cloth" NT ["numbers"] a.Pb a.Qi
 nY:Df K mg "thing_of" NZ ["word","numbers"] a.Ph a.Qj
 cL:Df K mg "_law_standing" Zam ["_law_cell_here"] a.Zav a.ZaD
 cM:Dm K a.xW "__init__" "Yard.__init__" Zan ["self","width","height","things","days"] a.UJ a.ZaE
 nZ:Df K mg "_law_end" N_ ["_law_pointer","_law_ray"] a.Pj a.Qk
 jN:Df K mg "_law_dial" Oa ["_law_sides_here","_law_days_here","_law_pointer"] a.Pk a.Ql
 n_:Df K mg "_law_due" Ob ["_law_sides_here","_law_days_here","_law_spot","_law_most"] a.Pn a.Qm
 oh:Df K mg "turns_of" Oc ["yard","day"] a.Pq a.Qn
 HF:Df K mg "cast" Od ["point","ray"] a.Pr a.Qo
 vM:Df K mg "end_of" Oe ["pointer","ray"] a.Pu a.Qp
 dM:Df K mg "ends_by_turn" Zao ["yard","pointer"] a.Zaw a.ZaF
 jO:Df K mg "has_stone" Og ["yard","stone"] a.Px a.Qq
 jP:Df K mg "first_off" Oh ["yard","ends"] a.Py a.Qs
 fH:Df K mg "first_alike" Zap ["ends"] a.Zax a.ZaG
 jQ:Df K mg "number_of" Oi ["stone","width"] a.Pz a.Qt
 ou:Df K mg "marks_of" Oj ["yard","ends"] a.PB a.Qu
 HJ:Df K mg "dial" Ol ["yard","pointer"] a.PJ a.Qv
 cO:Df K mg "least_pointer" Zaq ["yard","x","y","most"] a.Zay a.ZaH
 ű:Df K mg "_law_same" Om ["_law_found","_law_due_here"] a.vK a.vL
 HN:Df K mg "law" Oo ["_law_script"] a.PL a.HD
 fJ:mg "MOST_HEIGHT" =some (.int (1000000000) a.pB)
 iu:mg "MOST_PLACE" =some (.int (1000000000) a.sE)
 HS:mg "all" =none
 Va:mg "bool" =none
 HW:mg "divmod" =none
 vN:mg "enumerate" =none
 Qw:mg "int" =none
 ı:mg "isinstance" =none
 iw:mg "len" =none
 ak:mg "list" =none
 Ŭ:mg "range" =none
 vO:mg "sorted" =none
 Qx:mg "str" =none
 sG:mg "tuple" =none
 ZaI:mg "zip" =none
 Ae:Cls K (ĺ a "Thing")
 Zbs:Mk K (ĺ a "Thing") a.jZ
 sI:Ĩ K (ĺ a "Thing") "word"
 j_:Ĩ K (ĺ a "Thing") "numbers"
 HX:Cls K (ĺ a "Post")
 Vb:Mk K (ĺ a "Post") a.jZ
 vP:Ĩ K (ĺ a "Post") "word"
 oA:Ĩ K (ĺ a "Post") "numbers"
 Af:Cls K (ĺ a "Fence")
 Lr:Mk K (ĺ a "Fence") a.jZ
 sJ:Ĩ K (ĺ a "Fence") "word"
 kh:Ĩ K (ĺ a "Fence") "numbers"
 HY:Cls K (ĺ a "Sail")
 Vc:Mk K (ĺ a "Sail") a.jZ
 vQ:Ĩ K (ĺ a "Sail") "word"
 oE:Ĩ K (ĺ a "Sail") "numbers"
 Ag:Cls K (ĺ a "Cloth")
 Ls:Mk K (ĺ a "Cloth") a.jZ
 sO:Ĩ K (ĺ a "Cloth") "word"
 kj:Ĩ K (ĺ a "Cloth") "numbers"
 Ah:Cls K (ĺ a "House")
 Lw:Mk K (ĺ a "House") a.jZ
 sS:Ĩ K (ĺ a "House") "word"
 kE:Ĩ K (ĺ a "House") "numbers"
 sU:Cls K (ĺ a "Yard")
 Vd:Mk K (ĺ a "Yard") a.UJ
 sV:Ĩ K (ĺ a "Yard") "width"
 pC:Ĩ K (ĺ a "Yard") "height"
 pD:Ĩ K (ĺ a "Yard") "things"
 vR:Ĩ K (ĺ a "Yard") "days"
def Z13{K:PySem.W.Frag}{mg:Str->Option Value}{a:Hy}(T:Tx K mg a):mg "Post" =some (.ref (ĺ a "Post")):=T.UL
def Z0I{K:PySem.W.Frag}{mg:Str->Option Value}{a:Hy}(T:Tx K mg a):mg "Fence" =some (.ref (ĺ a "Fence")):=T.Ln
def Z14{K:PySem.W.Frag}{mg:Str->Option Value}{a:Hy}(T:Tx K mg a):mg "Sail" =some (.ref (ĺ a "Sail")):=T.UW
def Z0J{K:PySem.W.Frag}{mg:Str->Option Value}{a:Hy}(T:Tx K mg a):mg "Cloth" =some (.ref (ĺ a "Cloth")):=T.Lp
def Z0K{K:PySem.W.Frag}{mg:Str->Option Value}{a:Hy}(T:Tx K mg a):mg "House" =some (.ref (ĺ a "House")):=T.Lq
def Z15{K:PySem.W.Frag}{mg:Str->Option Value}{a:Hy}(T:Tx K mg a):mg "Yard" =some (.ref (ĺ a "Yard")):=T.U_
def H_:Ď ["_law_cell_here"] ["_law_cell_here"] (Ĉ Nt):=dO
def Ve:Ď ["_law_script","_law_at"] ["_law_script","_law_at"] (Ĉ Nu):=dO
def sW:Ď ["_law_number","_law_k","_law_high","_law_low"] ["_law_number","_law_k"] (Ĉ Nv):=dO
def jr:Ď ["_law_cell_here","_law_many","_law_by","_law_found","_law_k"] ["_law_cell_here","_law_many"] (Ĉ Nx):=dO
def oG:Ď ["_law_number","_law_t","_law_kind","_law_by","_law_a","_law_b","_law_c"] ["_law_number","_law_t","_law_kind"] (Ĉ Ny):=dO
def ų:Ď ["_law_script","_law_at","_law_many","_law_first","_law_days_here","_law_long","_law_k","_law_cell_here","_law_kind","_law_size","_law_xs","_law_turns","_law_name"] ["_law_script","_law_at","_law_many"] (Ĉ Nz):=dO
def Vf:Ď ["number"] ["number"] (Ĉ NK):=dO
def Vg:Ď ["number"] ["number"] (Ĉ NP):=dO
def Vh:Ď ["numbers"] ["numbers"] (Ĉ NQ):=dO
def vU:Ď ["self","word","numbers"] ["self","word","numbers"] (Ĉ Zah):=dO
def ZaJ:Ď ["numbers"] ["numbers"] (Ĉ Zai):=dO
def ZaK:Ď ["numbers"] ["numbers"] (Ĉ Zaj):=dO
def ZaL:Ď ["numbers"] ["numbers"] (Ĉ Zak):=dO
def ZaM:Ď ["numbers"] ["numbers"] (Ĉ Zal):=dO
def Vi:Ď ["numbers"] ["numbers"] (Ĉ NT):=dO
def Vj:Ď ["word","numbers"] ["word","numbers"] (Ĉ NZ):=dO
def vV:Ď ["_law_cell_here","_law_x","_law_y","_law_word"] ["_law_cell_here"] (Ĉ Zam):=dO
def ZaN:Ď ["self","width","height","things","days"] ["self","width","height","things","days"] (Ĉ Zan):=dO
def sZ:Ď ["_law_pointer","_law_ray","_law_found","_law_axis","_law_fell"] ["_law_pointer","_law_ray"] (Ĉ N_):=dO
def bG:Ď ["_law_sides_here","_law_days_here","_law_pointer","_law_known","_law_late","_law_day","_law_turn_here","_law_ray","_law_number","_law_p","_law_q"] ["_law_sides_here","_law_days_here","_law_pointer"] (Ĉ Oa):=dO
def tD:Ď ["_law_sides_here","_law_days_here","_law_spot","_law_most","_law_faults","_law_h","_law_told"] ["_law_sides_here","_law_days_here","_law_spot","_law_most"] (Ĉ Ob):=dO
def Vk:Ď ["yard","day"] ["yard","day"] (Ĉ Oc):=dO
def Vl:Ď ["point","ray"] ["point","ray"] (Ĉ Od):=dO
def xX:Ď ["pointer","ray","end","unit"] ["pointer","ray"] (Ĉ Oe):=dO
def vW:Ď ["yard","pointer","ends","day","number","turn"] ["yard","pointer"] (Ĉ Zao):=dO
def Vm:Ď ["yard","stone"] ["yard","stone"] (Ĉ Og):=dO
def tE:Ď ["yard","ends","day","turn","stone"] ["yard","ends"] (Ĉ Oh):=dO
def qH:Ď ["ends","seen","day","turn","stone","ahead"] ["ends"] (Ĉ Zap):=dO
def Vn:Ď ["stone","width"] ["stone","width"] (Ĉ Oi):=dO
def oH:Ď ["yard","ends","marks","day","turn","stone"] ["yard","ends"] (Ĉ Oj):=dO
def tH:Ď ["yard","pointer","ends","fault"] ["yard","pointer"] (Ĉ Ol):=dO
def Ai:Ď ["yard","x","y","most","faults","h","told"] ["yard","x","y","most"] (Ĉ Zaq):=dO
def Vo:Ď ["_law_found","_law_due_here"] ["_law_found","_law_due_here"] (Ĉ Om):=dO
def ao:Ď ["_law_script","_law_sides_here","_law_days_here","_law_things","_law_yard","_law_spot","_law_high","_law_most","_law_due_here","_law_k","_law_found"] ["_law_script"] (Ĉ Oo):=dO
section
variable{P:Program}{w:World}{K:PySem.W.Frag}{mg:Str->Option Value}{base:Heap}{a:Hy}
seal PE PT PW PA PS fY PG vY PI Iu
def Zq(T:Tx K mg a):mJ (λC=>Cls K (ĺ a C)/\Ĩ K (ĺ a C) "word") ["Thing","Post","Fence","Sail","Cloth","House"]:=⟨⟨T.Ae,T.sI⟩,⟨⟨T.HX,T.vP⟩,⟨⟨T.Af,T.sJ⟩,⟨⟨T.HY,T.vQ⟩,⟨⟨T.Ag,T.sO⟩,⟨⟨T.Ah,T.sS⟩,trivial⟩⟩⟩⟩⟩⟩
def Zj(T:Tx K mg a):mJ (λC=>Cls K (ĺ a C)/\Ĩ K (ĺ a C) "numbers") ["Thing","Post","Fence","Sail","Cloth","House"]:=⟨⟨T.Ae,T.j_⟩,⟨⟨T.HX,T.oA⟩,⟨⟨T.Af,T.kh⟩,⟨⟨T.HY,T.oE⟩,⟨⟨T.Ag,T.kj⟩,⟨⟨T.Ah,T.kE⟩,trivial⟩⟩⟩⟩⟩⟩
def Zu(T:Tx K mg a):mJ (λC=>Cls K (ĺ a C)/\Ĩ K (ĺ a C) "width") ["Yard"]:=⟨⟨T.sU,T.sV⟩,trivial⟩
def ZH(T:Tx K mg a):mJ (λC=>Cls K (ĺ a C)/\Ĩ K (ĺ a C) "height") ["Yard"]:=⟨⟨T.sU,T.pC⟩,trivial⟩
def Z0j(T:Tx K mg a):mJ (λC=>Cls K (ĺ a C)/\Ĩ K (ĺ a C) "things") ["Yard"]:=⟨⟨T.sU,T.pD⟩,trivial⟩
def ZA(T:Tx K mg a):mJ (λC=>Cls K (ĺ a C)/\Ĩ K (ĺ a C) "days") ["Yard"]:=⟨⟨T.sU,T.vR⟩,trivial⟩
def Vp(T:Tx K mg a):ī P w K mg base aA 1 a.Ou a.PN ["_law_cell_here"] (aB ⟨K,ĺ a⟩ 1 vA):=by
 refine Ŝ T.h_.F H_ λ_ _ _ _ _ _ _ hu=>?_
 exact ņ H_ (bJ (v_mod (ā 0) (Ġ (aM bC bf Ă Ă)))) (ċ (ś (t_eq hu (ĵ (ā 0) Ă) Ă) (Ņ (ľ (ą (v_add Ă (ĵ (ň (ā 0) Ă) Ă)) (ą (v_add Ă (ĵ (ň (ā 0) Ă) Ă)) ĕ)))) ĭ) (Ņ (ľ (ą (v_add Ă (ĵ (ň (ā 0) Ă) Ă)) (ą (v_add Ă (ĵ (ň (ā 0) Ă) Ă)) ĕ)))))
def fX(T:Tx K mg a):ī P w K mg base aA 1 a.Ov a.P_ ["_law_script","_law_at"] (aB ⟨K,ĺ a⟩ 2 Ű):=by
 refine Ŝ T.ŉ.F Ve λ_ _ _ _ _ _ _ _=>?_
 exact ċ (ś (cZ jB jx (ā 1) (Ġ (ž bY cB T.iw PySem.boot_len (Đ (ā 0) ħ))) (ŗ _)) (Ņ (ŷ (ā 0) (ā 1))) ĭ) (Ņ Ķ)
def Ia(T:Tx K mg a):ī P w K mg base aA 1 a.Ow a.Qa ["_law_number","_law_k"] (aB ⟨K,ĺ a⟩ 2 vB):=by
 refine Ŝ T.cD.F sW λ_ _ _ _ _ _ _ _=>?_
 exact ņ sW (gP (dB (ĵ (ā 0) Ă) (Œ Ă (ā 1))) Ă) (ċ (Ei (ž Bo Bp T.HW PyProof.Rows.boot_divmod (Đ (dB (Œ (ā 0) Ă) (Œ (ā 1) Ă)) (Đ Ă ħ))) (Fg rfl (Ħ (ŧ sW) (Ħ (ŧ sW) bA)))) (Ņ (v_mod (dB (dB (Œ (ā 2) (ā 2)) (Œ (ā 3) (dB (ā 3) Ă))) (ā 1)) Ă)))
def Vq(T:Tx K mg a):ī P w K mg base aA 2 a.Ox a.Qc ["_law_cell_here","_law_many"] (aB ⟨K,ĺ a⟩ 2 zR):=by
 refine Ŝ T.nW.F jr λ_ _ _ _ _ _ hr hu=>?_
 exact ņ jr (bJ (v_mod (ā 0) Ă)) (ņ jr (bJ (v_mod (ň (ā 0) Ă) (Œ (Œ (Ġ (aM bC bf Ă Ă)) (Ġ (aM bC bf Ă Ă))) (Ġ (aM bC bf Ă Ă))))) (ņ jr (aN ĕ) (ċ (bL PassesOwn.leaving rfl (ŭ rfl T.Ŭ (ą (v_var 1) ĕ)) (ŧ jr) (ĩ (ś (t_eq hu (ā 2) Ă) (ċ (PS.wk (Ŵ (gj PySem.F.plainAttrs_list PySem.F.slot_list_append PySem.F.type_list_append ł (pv 3) (ą (v_mod (ā 0) (Ġ (aM bC bf Ă Ă))) ĕ))) λ_ _ _ h=>cu h) (ĩ (Fq jr (bJ (mX (ā 0) (Ġ (aM bC bf Ă Ă))))))) (ĩ (PS.wk (Ŵ (gj PySem.F.plainAttrs_list PySem.F.slot_list_append PySem.F.type_list_append ł (pv 3) (ą (į (ď (Ia T) T.cD hr Ē (ġ (v_add (Ġ (į (ď (Ia T) T.cD hr Ē (Ĕ 0 (Ĕ 4 đ))))) (ā 0)) (Ĕ 4 đ)))) ĕ))) λ_ _ _ h=>cu h))))) (aW (pR 3)))))
def Vr(T:Tx K mg a):ī P w K mg base aA 1 a.Oz a.Qd ["_law_number","_law_t","_law_kind"] (aB ⟨K,ĺ a⟩ 3 eZ):=by
 refine Ŝ T.jL.F oG λ_ _ _ _ _ _ _ hu=>?_
 exact ċ (Ei (v_var 2) (Fg rfl (Ħ (ŧ oG) (Ħ (ŧ oG) (Ħ (ŧ oG) bA))))) (ċ (ś (t_eq hu (ĵ (ā 0) Ă) Ă) (Ņ uD) ĭ) (ċ (ś (cZ jB jx (ĵ (ā 0) Ă) Ă (ŗ _)) (Ņ (ľ (ą (v_add (Œ (Œ Ă (ā 6)) (ā 1)) (ā 4)) (ą (v_add (ā 5) (Œ (Œ Ă (ā 6)) (ň (ĵ (ň (ā 0) Ă) Ă) Ă))) (ą (v_var 6) ĕ))))) ĭ) (ņ oG (bJ (ŷ (Ġ (į (aN (ą Ķ (ą Ķ (ą (aM bC bf Ă Ă) ĕ)))))) (ĵ (ň (ā 0) Ă) Ă))) (Ņ (ľ (ą (v_mul (ā 3) (Fp (ĵ (ň (ā 0) Ă) Ă) Ă)) (ą (v_mul (ā 3) (Fp (ĵ (ň (ā 0) Ă) Ă) Ă)) (ą (v_mul (ā 3) (dB Ă (ĵ (ň (ā 0) Ă) Ă))) ĕ))))))))
def Vs(T:Tx K mg a):ī P w K mg base aA 3 a.OD a.Qe ["_law_script","_law_at","_law_many"] (aB ⟨K,ĺ a⟩ 3 g_):=by
 refine Ŝ T.jM.F ų λ_ _ _ _ _ _ hr hu=>?_
 exact ņ ų (bJ (v_mod (Ġ (į (ď (fX T) T.ŉ hr Ē (Ĕ 0 (Ĕ 1 đ))))) (Ġ (aM bC bf Ă Ă)))) (ņ ų (aN ĕ) (ņ ų (bJ (Zc3 Tp Tq T.Qw PyProof.Rows.boot_int (Đ (Ġ (v_eq hu (ĵ (ň (ā 3) Ă) Ă) Ă)) ħ))) (ċ (ś (t_eq hu (ĵ (ň (ā 3) Ă) Ă) Ă) (aW (aN ĕ)) ĭ) (ċ (bL PassesOwn.leaving rfl (ŭ rfl T.Ŭ (ą (v_add Ă (ĵ (ā 3) (ń (Ġ (į (aN (ą (v_var 2) (ą Ķ ĕ))))) (ā 5)))) ĕ)) (ŧ ų) (ņ ų (ď (fX T) T.ŉ hr Ē (Ĕ 0 (ġ (v_add (dB (ā 1) Ă) (ā 6)) đ))) (ņ ų (bJ (ľ (ą (v_sub (ĵ (ň (ā 7) Ă) Ă) Ă) (ą (v_sub (ĵ (ň (ā 7) Ă) Ă) Ă) (ą (v_add Ă (ĵ (ň (ā 3) Ă) Ă)) ĕ))))) (ņ ų (gP (dB Ă (ĵ (ā 7) Ă)) (Œ (ĵ (ň (ā 7) Ă) Ă) (ň (ĵ (ň (ā 3) Ă) Ă) Ă))) (ċ (ś (t_eq hu (ā 5) Ă) (ĩ (Fq ų (gP Ă (ĵ (ā 7) Ă)))) ĭ) (ņ ų (ď (Vq T) T.nW hr Ē (ġ (mX (ā 7) Ă) (Ĕ 9 đ))) (ċ (Zc5 ų (ŭ rfl T.Ŭ (ą (v_var 9) ĕ)) jY fP (į (ď (Vr T) T.jL hr Ē (ġ (ŷ (ā 1) (ā 2)) (Ĕ 2 (Ĕ 0 đ)))))) (ņ ų (gP (ń eY (ā 6)) (Œ eY (ĵ (ň (ā 3) Ă) Ă))) (ĩ (PS.wk (Ŵ (gj PySem.F.plainAttrs_list PySem.F.slot_list_append PySem.F.type_list_append ł (pv 4) (ą (ľ (ą (v_var 12) (ą (v_add Ă (ĵ (ň (ā 3) Ă) (Fp (Ġ (aM bC bf Ă Ă)) Ă))) (ą (v_var 11) ĕ)))) ĕ))) λ_ _ _ h=>cu h)))))))))) (aW (pR 4))))))
def oJ(T:Tx K mg a):ī P w K mg base aA 1 a.OJ a.Qf ["number"] (aB ⟨K,ĺ a⟩ 1 jH):=by
 refine Ŝ T.ũ.F Vf λ_ _ _ _ _ _ _ _=>?_
 exact Ņ (uG eU eU eE eE (Ġ (ZbZ Tj Dk (Ġ (tQ (.int 1000000000) (kJ (v:=.int 1000000000) rfl T.iu ⟨_,rfl⟩))))) (ā 0) (Ġ (tQ (.int 1000000000) (kJ (v:=.int 1000000000) rfl T.iu ⟨_,rfl⟩))))
def Ib(T:Tx K mg a):ī P w K mg base aA 1 a.O_ a.Qg ["number"] (aB ⟨K,ĺ a⟩ 1 vC):=by
 refine Ŝ T.dJ.F Vg λ_ _ _ _ _ _ _ _=>?_
 exact Ņ (uG eU eU eE eE Ă (ā 0) (Ġ (tQ (.int 1000000000) (kJ (v:=.int 1000000000) rfl T.fJ ⟨_,rfl⟩))))
def Vt(T:Tx K mg a):ī P w K mg base aA 2 a.Pa a.Qh ["numbers"] (aB ⟨K,ĺ a⟩ 1 vD):=by
 refine Ŝ T.ig.F Vh λ_ _ _ _ _ _ hr hu=>?_
 exact Ņ (v_and (v_eq hu (Ġ (ž bY cB T.iw PySem.boot_len (Đ (ā 0) ħ))) Ă) (v_and (į (ď (oJ T) T.ũ hr Ē (ġ (ŷ (ā 0) Ă) đ))) (v_and (į (ď (oJ T) T.ũ hr Ē (ġ (ŷ (ā 0) Ă) đ))) (eO (į (ď (Ib T) T.dJ hr Ē (ġ (ŷ (ā 0) Ă) đ)))))))
def Ie(T:Tx K mg a):ī P w K mg base aA 1 a.jZ a.Ci ["self","word","numbers"] (Iw ⟨K,ĺ a⟩ 3 "Post" rT):=by
 refine Wd (cm:=ĺ a) (mb:=cJ) T.ğ.F vU rfl rfl rfl λcdv A outer s H E hr=>?_
 have hu:=hr.units
 exact ċ (Ţ ["Thing","Post","Fence","Sail","Cloth","House"] (Zq T) (pv 0) (v_var 1)) (ĩ (Ţ ["Thing","Post","Fence","Sail","Cloth","House"] (Zj T) (pv 0) (į (uW aQ aR T.ak PyProof.Rows.boot_list (Đ (ā 2) ħ)))))
def Cj(T:Tx K mg a):ī P w K mg base aA 1 a.jZ a.Ci ["self","word","numbers"] (Iw ⟨K,ĺ a⟩ 3 "Fence" nP):=by
 refine Wd (cm:=ĺ a) (mb:=cJ) T.ğ.F vU rfl rfl rfl λcdv A outer s H E hr=>?_
 have hu:=hr.units
 exact ċ (Ţ ["Thing","Post","Fence","Sail","Cloth","House"] (Zq T) (pv 0) (v_var 1)) (ĩ (Ţ ["Thing","Post","Fence","Sail","Cloth","House"] (Zj T) (pv 0) (į (uW aQ aR T.ak PyProof.Rows.boot_list (Đ (ā 2) ħ)))))
def Ig(T:Tx K mg a):ī P w K mg base aA 1 a.jZ a.Ci ["self","word","numbers"] (Iw ⟨K,ĺ a⟩ 3 "Sail" rW):=by
 refine Wd (cm:=ĺ a) (mb:=cJ) T.ğ.F vU rfl rfl rfl λcdv A outer s H E hr=>?_
 have hu:=hr.units
 exact ċ (Ţ ["Thing","Post","Fence","Sail","Cloth","House"] (Zq T) (pv 0) (v_var 1)) (ĩ (Ţ ["Thing","Post","Fence","Sail","Cloth","House"] (Zj T) (pv 0) (į (uW aQ aR T.ak PyProof.Rows.boot_list (Đ (ā 2) ħ)))))
def Ck(T:Tx K mg a):ī P w K mg base aA 1 a.jZ a.Ci ["self","word","numbers"] (Iw ⟨K,ĺ a⟩ 3 "Cloth" nQ):=by
 refine Wd (cm:=ĺ a) (mb:=cJ) T.ğ.F vU rfl rfl rfl λcdv A outer s H E hr=>?_
 have hu:=hr.units
 exact ċ (Ţ ["Thing","Post","Fence","Sail","Cloth","House"] (Zq T) (pv 0) (v_var 1)) (ĩ (Ţ ["Thing","Post","Fence","Sail","Cloth","House"] (Zj T) (pv 0) (į (uW aQ aR T.ak PyProof.Rows.boot_list (Đ (ā 2) ħ)))))
def Cm(T:Tx K mg a):ī P w K mg base aA 1 a.jZ a.Ci ["self","word","numbers"] (Iw ⟨K,ĺ a⟩ 3 "House" nR):=by
 refine Wd (cm:=ĺ a) (mb:=cJ) T.ğ.F vU rfl rfl rfl λcdv A outer s H E hr=>?_
 have hu:=hr.units
 exact ċ (Ţ ["Thing","Post","Fence","Sail","Cloth","House"] (Zq T) (pv 0) (v_var 1)) (ĩ (Ţ ["Thing","Post","Fence","Sail","Cloth","House"] (Zj T) (pv 0) (į (uW aQ aR T.ak PyProof.Rows.boot_list (Đ (ā 2) ħ)))))
def Qy(T:Tx K mg a):ī P w K mg base aA 2 a.Zar a.Zaz ["numbers"] (aB ⟨K,ĺ a⟩ 1 Ca):=by
 refine Ŝ T.aj.F ZaJ λ_ _ _ _ _ _ hr hu=>?_
 exact Ņ (v_and (v_eq hu (Ġ (ž bY cB T.iw PySem.boot_len (Đ (ā 0) ħ))) Ă) (v_and (ž (wK rfl) wR T.HS PyProof.Rows.boot_all (Đ (Ġ (į (Bv (yO (į (lu (ā 0) Es (iV Ķ)))) jY fP (į (ď (oJ T) T.ũ hr Ē (Ĕ 0 đ)))))) ħ)) (eO (į (ď (Ib T) T.dJ hr Ē (ġ (ŷ (ā 0) Ă) đ))))))
def ZaO(T:Tx K mg a):ī P w K mg base aA 3 a.Zas a.ZaA ["numbers"] (aB ⟨K,ĺ a⟩ 1 Hf):=by
 refine Ŝ T.fC.F ZaK λ_ _ _ _ _ _ hr hu=>?_
 exact Ņ (v_and (į (ď (Qy T) T.aj hr Ē (Ĕ 0 đ))) (eO (uE Mu (Dr hu) (Ġ (į (lu (ā 0) Es (iV Ķ)))) (Ġ (į (lu (ā 0) (iV Ķ) (iV Ķ)))) (ŗ _))))
def Qz(T:Tx K mg a):ī P w K mg base aA 3 a.Zat a.ZaB ["numbers"] (aB ⟨K,ĺ a⟩ 1 Cd):=by
 refine Ŝ T.Ő.F ZaL λ_ _ _ _ _ _ hr _=>?_
 exact Ņ (v_and (į (ď (Qy T) T.aj hr Ē (Ĕ 0 đ))) (v_and (uE jB jx (ń (ā 0) Ă) (ń (ā 0) Ă) (ŗ _)) (eO (uE jB jx (ń (ā 0) Ă) (ń (ā 0) Ă) (ŗ _)))))
def ZaP(T:Tx K mg a):ī P w K mg base aA 2 a.Zau a.ZaC ["numbers"] (aB ⟨K,ĺ a⟩ 1 Li):=by
 refine Ŝ T.aZ.F ZaM λ_ _ _ _ _ _ hr _=>?_
 exact Ņ (v_and (į (ď (oJ T) T.ũ hr Ē (ġ (ŷ (ā 0) Ă) đ))) (v_and (į (ď (oJ T) T.ũ hr Ē (ġ (ŷ (ā 0) Ă) đ))) (eO (uG eU eU eE eE Ă (ń (ā 0) Ă) (Ġ (tQ (.int 1000000000) (kJ (v:=.int 1000000000) rfl T.fJ ⟨_,rfl⟩)))))))
def Vu(T:Tx K mg a):ī P w K mg base aA 3 a.Pb a.Qi ["numbers"] (aB ⟨K,ĺ a⟩ 1 vG):=by
 refine Ŝ T.fG.F Vi λ_ _ _ _ _ _ hr hu=>?_
 exact Ņ (v_and (v_eq hu (Ġ (ž bY cB T.iw PySem.boot_len (Đ (ā 0) ħ))) Ă) (eO (ž (wK rfl) wR T.HS PyProof.Rows.boot_all (Đ (Ġ (į (Bv (yO (ľ (ą Ķ (ą Ķ (ą Ķ ĕ))))) jY fP (į (ď (ZaP T) T.aZ hr Ē (ġ (į (lu (ā 0) (iV (v_var 1)) (iV (v_add (ā 1) Ă)))) đ)))))) ħ))))
def Vv(T:Tx K mg a):ī P w K mg base aA 4 a.Ph a.Qj ["word","numbers"] (aB ⟨K,ĺ a⟩ 2 fj):=by
 refine Ŝ T.nY.F Vj λ_ _ _ _ _ _ hr hu=>?_
 exact ċ (ś (PW.pt (w_and (t_eq hu (ā 0) eY) (iQ (eN (Ġ (į (ď (Vt T) T.ig hr Ē (Ĕ 1 đ)))))))) (Ņ (iZ T.Vb (Ie T) Ź hr.mo rfl (Z13 T) T.ğ.b Ē (Ĕ 0 (Ĕ 1 đ)))) ĭ) (ċ (ś (PW.pt (w_and (t_eq hu (ā 0) eY) (iQ (eN (Ġ (į (ď (ZaO T) T.fC hr Ē (Ĕ 1 đ)))))))) (Ņ (iZ T.Lr (Cj T) Ź hr.mo rfl (Z0I T) T.ğ.b Ē (Ĕ 0 (Ĕ 1 đ)))) ĭ) (ċ (ś (PW.pt (w_and (t_eq hu (ā 0) eY) (iQ (eN (Ġ (į (ď (Qz T) T.Ő hr Ē (Ĕ 1 đ)))))))) (Ņ (iZ T.Vc (Ig T) Ź hr.mo rfl (Z14 T) T.ğ.b Ē (Ĕ 0 (Ĕ 1 đ)))) ĭ) (ċ (ś (PW.pt (w_and (t_eq hu (ā 0) eY) (iQ (eN (Ġ (į (ď (Vu T) T.fG hr Ē (Ĕ 1 đ)))))))) (Ņ (iZ T.Ls (Ck T) Ź hr.mo rfl (Z0J T) T.ğ.b Ē (Ĕ 0 (Ĕ 1 đ)))) ĭ) (ċ (ś (PW.pt (w_and (t_eq hu (ā 0) eY) (iQ (eN (Ġ (į (ď (Qz T) T.Ő hr Ē (Ĕ 1 đ)))))))) (Ņ (iZ T.Lw (Cm T) Ź hr.mo rfl (Z0K T) T.ğ.b Ē (Ĕ 0 (Ĕ 1 đ)))) ĭ) (ĩ JN)))))
def ZaQ(T:Tx K mg a):ī P w K mg base aA 5 a.Zav a.ZaD ["_law_cell_here"] (aB ⟨K,ĺ a⟩ 1 Ce):=by
 refine Ŝ T.cL.F vV λ_ _ _ _ _ _ hr hu=>?_
 exact ņ vV (bJ (v_mod (ā 0) (Ġ (aM bC bf Ă Ă)))) (ċ (ś (t_eq hu (ĵ (ā 0) Ă) Ă) (aW (aN ĕ)) ĭ) (ņ vV (bJ (v_sub (ĵ (ň (ā 0) Ă) Ă) Ă)) (ņ vV (bJ (v_sub (ĵ (ň (ā 0) Ă) Ă) Ă)) (ņ vV (bJ (ŷ (Ġ (į (aN (ą aL (ą aL ĕ))))) (ĵ (ň (ā 0) Ă) Ă))) (aW (aN (ą (į (ď (Vv T) T.nY hr Ē (Ĕ 3 (ġ (į (aN (ą (v_var 1) (ą (v_var 2) (ą (v_add (ā 1) Ă) (ą (v_add (ā 2) Ă) (ą (v_add Ă (ĵ (ň (ā 0) Ă) Ă)) ĕ))))))) đ)))) ĕ)))))))
def Ih(T:Tx K mg a):ī P w K mg base aA 1 a.UJ a.ZaE ["self","width","height","things","days"] (Iw ⟨K,ĺ a⟩ 5 "Yard" lK):=by
 refine Wd (cm:=ĺ a) (mb:=Hi) T.cM.F ZaN rfl rfl rfl λcdv A outer s H E hr=>?_
 have hu:=hr.units
 exact ċ (Ţ ["Yard"] (Zu T) (pv 0) (v_var 1)) (ċ (Ţ ["Yard"] (ZH T) (pv 0) (v_var 2)) (ċ (Ţ ["Yard"] (Z0j T) (pv 0) (į (uW aQ aR T.ak PyProof.Rows.boot_list (Đ (ā 3) ħ)))) (ĩ (Ţ ["Yard"] (ZA T) (pv 0) (į (Bv (mj 4) (lZ rfl (Ħ jY (Ħ jY (Ħ jY bA)))) fP (ľ (ą (v_var 0) (ą (v_var 1) (ą (į (uW aQ aR T.ak PyProof.Rows.boot_list (Đ (ā 2) ħ))) ĕ))))))))))
def Vw(T:Tx K mg a):ī P w K mg base aA 1 a.Pj a.Qk ["_law_pointer","_law_ray"] (aB ⟨K,ĺ a⟩ 2 zT):=by
 refine Ŝ T.nZ.F sZ λ_ _ _ _ _ _ _ _=>?_
 exact ņ sZ (aN ĕ) (ċ (bL PassesOwn.leaving rfl (ŭ rfl T.Ŭ (ą Ķ ĕ)) (ŧ sZ) (ņ sZ (gP (Œ (ń (ā 1) Ă) (ń (ā 0) (ā 3))) (Œ (ń (ā 1) (ā 3)) (ń (ā 0) Ă))) (ĩ (PS.wk (Ŵ (gj PySem.F.plainAttrs_list PySem.F.slot_list_append PySem.F.type_list_append ł (pv 2) (ą (mX (dB (ā 4) (ń (ā 1) Ă)) (Œ Ă (ń (ā 1) Ă))) ĕ))) λ_ _ _ h=>cu h)))) (Ņ (ľ (ą (ŷ (ā 2) Ă) (ą (ŷ (ā 2) Ă) ĕ)))))
def Vx(T:Tx K mg a):ī P w K mg base aA 2 a.Pk a.Ql ["_law_sides_here","_law_days_here","_law_pointer"] (aB ⟨K,ĺ a⟩ 3 fu):=by
 refine Ŝ T.jN.F bG λ_ _ _ _ _ _ hr hu=>?_
 exact ċ (FP (i:=3) bG.nd rfl (by first|exact Or.inl rfl|exact Or.inr rfl)) (ņ bG (bJ uD) (ċ (bL PassesOwn.leaving rfl (ŭ rfl T.Ŭ (ą (ž bY cB T.iw PySem.boot_len (Đ (ā 1) ħ)) ĕ)) (ŧ bG) (ĩ (bL PassesOwn.leaving rfl (ŭ rfl T.Ŭ (ą (ž bY cB T.iw PySem.boot_len (Đ (ń (ń (ā 1) (ā 5)) Ă) ħ)) ĕ)) (ŧ bG) (ņ bG (bJ (ŷ (ń (ń (ā 1) (ā 5)) Ă) (ā 6))) (ċ (ś (cZ pY iC (ā 7) jD (ŗ _)) (ĩ wM) ĭ) (ċ (Ei (į (ď (Vw T) T.nZ hr Ē (Ĕ 2 (Ĕ 7 đ)))) (Fg rfl (Ħ (ŧ bG) (Ħ (ŧ bG) bA)))) (ċ (ś (PW.pt (w_or (yM (Ml eU jB eE jx Ă (ā 9) (ń (ā 0) Ă))) (Ec (yM (Ml eU jB eE jx Ă (ā 10) (ń (ā 0) Ă)))))) (Ņ (ľ (ą aL (ą (v_var 5) (ą (v_var 6) ĕ))))) ĭ) (ņ bG (gP (Œ (ā 10) (ń (ā 0) Ă)) (ā 9)) (ĩ (ś (Ud 3 hu (v_var 8)) (ĩ (FQ (i:=3) hu (ľ (ą (v_var 5) (ą (v_var 6) ĕ))) (v_var 8) (pv 3))) (ĩ (ś (PW.pt (w_and (Ko hu (ń (Ġ (xq 3 hu (v_var 8))) Ă) (ā 6)) (iQ (cZ pY iC (ā 4) jD (ŗ _))))) (ĩ (Fq bG (bJ (ľ (ą aL (ą (xq 3 hu (v_var 8)) (ą (ľ (ą (v_var 5) (ą (v_var 6) ĕ))) ĕ))))))) ĭ)))))))))))) (ċ (ś (cZ uL yt (ā 4) jD (ŗ _)) (aW (pR 4)) ĭ) (Ņ (ľ (ą aL (ą (į (Bv (yO (į (Gy 3 rfl rfl T.vO))) jY fP (ľ (ą (v_var 1) (ą (ŷ (Ġ (xq 0 hu (v_var 1))) Ă) ĕ))))) ĕ)))))))
def Vy(T:Tx K mg a):ī P w K mg base aA 3 a.Pn a.Qm ["_law_sides_here","_law_days_here","_law_spot","_law_most"] (aB ⟨K,ĺ a⟩ 4 vH):=by
 refine Ŝ T.n_.F tD λ_ _ _ _ _ _ hr hu=>?_
 exact ņ tD (aN ĕ) (ċ (bL PassesOwn.leaving rfl (uH rfl T.Ŭ (ą Ķ (ą (v_add (ā 3) Ă) ĕ))) (ŧ tD) (ņ tD (ď (Vx T) T.jN hr Ē (Ĕ 0 (Ĕ 1 (ġ (ľ (ą (ŷ (ā 2) Ă) (ą (ŷ (ā 2) Ă) (ą (v_var 5) ĕ)))) đ)))) (ċ (ś (t_eq hu (ń (ā 6) Ă) eY) (Ņ (ľ (ą aL (ą (v_var 5) (ą (ŷ (ā 6) Ă) (ą (v_var 4) ĕ)))))) ĭ) (ĩ (PS.wk (Ŵ (gj PySem.F.plainAttrs_list PySem.F.slot_list_append PySem.F.type_list_append ł (pv 4) (ą (v_var 6) ĕ))) λ_ _ _ h=>cu h))))) (Ņ (ľ (ą aL (ą (v_var 4) ĕ)))))
def Vz(T:Tx K mg a):ī P w K mg base aA 1 a.Pq a.Qn ["yard","day"] (aB ⟨K,ĺ a⟩ 2 vI):=by
 refine Ŝ T.oh.F Vk λ_ _ _ _ _ _ _ _=>?_
 exact Ņ (ŷ (ń (Ġ (uO ["Yard"] (ZA T) (ā 0))) (ā 1)) Ă)
def VB(T:Tx K mg a):ī P w K mg base aA 1 a.Pr a.Qo ["point","ray"] (aB ⟨K,ĺ a⟩ 2 zU):=by
 refine Ŝ T.HF.F Vl λ_ _ _ _ _ _ _ _=>?_
 exact Ņ (ľ (ą (v_add (Œ (ń (ā 1) Ă) (ń (ā 0) Ă)) (Œ (ń (ā 1) Ă) (ń (ā 0) Ă))) (ą (v_add (Œ (ń (ā 1) Ă) (ń (ā 0) Ă)) (Œ (ń (ā 1) Ă) (ń (ā 0) Ă))) ĕ)))
def VD(T:Tx K mg a):ī P w K mg base aA 2 a.Pu a.Qp ["pointer","ray"] (aB ⟨K,ĺ a⟩ 2 zV):=by
 refine Ŝ T.vM.F xX λ_ _ _ _ _ _ hr _=>?_
 exact ņ xX (ď (VB T) T.HF hr Ē (Ĕ 0 (Ĕ 1 đ))) (ņ xX (bJ (ŷ (ā 1) Ă)) (Ņ (ľ (ą (mX (dB (ń (ā 2) Ă) (ā 3)) (Œ Ă (ā 3))) (ą (mX (dB (ń (ā 2) Ă) (ā 3)) (Œ Ă (ā 3))) ĕ)))))
def ZaR(T:Tx K mg a):ī P w K mg base aA 3 a.Zaw a.ZaF ["yard","pointer"] (aB ⟨K,ĺ a⟩ 2 Lj):=by
 refine Ŝ T.dM.F vW λ_ _ _ _ _ _ hr _=>?_
 exact ņ vW (aN ĕ) (ċ (bL PassesOwn.leaving rfl (ŭ rfl T.Ŭ (ą (ž bY cB T.iw PySem.boot_len (Đ (Ġ (uO ["Yard"] (ZA T) (ā 0))) ħ)) ĕ)) (ŧ vW) (ĩ (bL PassesOwn.leaving rfl (Tv rfl T.vN (ZcU (į (ď (Vz T) T.oh hr Ē (Ĕ 0 (Ĕ 3 đ)))))) (lZ rfl (Ħ (ŧ vW) (Ħ (ŧ vW) bA))) (ĩ (ś (cZ uL yt (ā 5) jD (ŗ _)) (ĩ (PS.wk (Ŵ (gj PySem.F.plainAttrs_list PySem.F.slot_list_append PySem.F.type_list_append ł (pv 2) (ą (ľ (ą (v_var 3) (ą (v_var 4) (ą (į (ď (VD T) T.vM hr Ē (Ĕ 1 (Ĕ 5 đ)))) ĕ)))) ĕ))) λ_ _ _ h=>cu h)) ĭ))))) (aW (pR 2)))
def VF(T:Tx K mg a):ī P w K mg base aA 1 a.Px a.Qq ["yard","stone"] (aB ⟨K,ĺ a⟩ 2 jJ):=by
 refine Ŝ T.jO.F Vm λ_ _ _ _ _ _ _ _=>?_
 exact Ņ (v_and (uG eU jB eE jx Ă (ń (ā 1) Ă) (Ġ (uO ["Yard"] (Zu T) (ā 0)))) (eO (uG eU jB eE jx Ă (ń (ā 1) Ă) (Ġ (uO ["Yard"] (ZH T) (ā 0))))))
def VG(T:Tx K mg a):ī P w K mg base aA 2 a.Py a.Qs ["yard","ends"] (aB ⟨K,ĺ a⟩ 2 vJ):=by
 refine Ŝ T.jP.F tE λ_ _ _ _ _ _ hr _=>?_
 exact ċ (bL PassesOwn.leaving rfl (mj 1) (lZ rfl (Ħ (ŧ tE) (Ħ (ŧ tE) (Ħ (ŧ tE) bA)))) (ĩ (ś (yM (eN (Ġ (į (ď (VF T) T.jO hr Ē (Ĕ 0 (Ĕ 4 đ))))))) (Ņ (ľ (ą aL (ą (v_var 2) (ą (v_var 3) ĕ))))) ĭ))) (Ņ uD)
def ZaS(T:Tx K mg a):ī P w K mg base aA 1 a.Zax a.ZaG ["ends"] (aB ⟨K,ĺ a⟩ 1 Ht):=by
 refine Ŝ T.fH.F qH λ_ _ _ _ _ _ _ hu=>?_
 exact ċ (Le (i:=1) qH.nd rfl (Or.inl rfl)) (ċ (bL PassesOwn.leaving rfl (mj 0) (lZ rfl (Ħ (ŧ qH) (Ħ (ŧ qH) (Ħ (ŧ qH) bA)))) (ċ (Zaf (j:=5) (i:=1) hu qH.nd rfl (Or.inl rfl) (v_var 4) (ľ (ą (v_var 2) (ą (v_var 3) ĕ))) (pv 1)) (ĩ (ś (Ko hu (ń (ā 5) Ă) (ā 3)) (Ņ (ľ (ą aL (ą (v_var 5) (ą (ľ (ą (v_var 2) (ą (v_var 3) ĕ))) ĕ))))) ĭ)))) (Ņ uD))
def VH(T:Tx K mg a):ī P w K mg base aA 1 a.Pz a.Qt ["stone","width"] (aB ⟨K,ĺ a⟩ 2 zZ):=by
 refine Ŝ T.jQ.F Vn λ_ _ _ _ _ _ _ _=>?_
 exact aW (gP (Œ (ń (ā 0) Ă) (ā 1)) (ń (ā 0) Ă))
def VJ(T:Tx K mg a):ī P w K mg base aA 2 a.PB a.Qu ["yard","ends"] (aB ⟨K,ĺ a⟩ 2 z_):=by
 refine Ŝ T.ou.F oH λ_ _ _ _ _ _ hr hu=>?_
 exact ċ (FP (i:=2) oH.nd rfl (Or.inl rfl)) (ċ (bL PassesOwn.leaving rfl (mj 1) (lZ rfl (Ħ (ŧ oH) (Ħ (ŧ oH) (Ħ (ŧ oH) bA)))) (ĩ (FQ (i:=2) hu (v_var 4) (į (ď (VH T) T.jQ hr Ē (Ĕ 5 (ġ (uO ["Yard"] (Zu T) (ā 0)) đ)))) (pv 2)))) (aW (Gz 2 rfl rfl T.vO)))
def VL(T:Tx K mg a):ī P w K mg base aA 4 a.PJ a.Qv ["yard","pointer"] (aB ⟨K,ĺ a⟩ 2 fB):=by
 refine Ŝ T.HJ.F tH λ_ _ _ _ _ _ hr _=>?_
 exact ņ tH (ď (ZaR T) T.dM hr Ē (Ĕ 0 (Ĕ 1 đ))) (ņ tH (ď (VG T) T.jP hr Ē (Ĕ 0 (Ĕ 2 đ))) (ċ (ś (cZ pY iC (ā 3) jD (ŗ _)) (ĩ (Fq tH (ď (ZaS T) T.fH hr Ē (Ĕ 2 đ)))) ĭ) (ċ (ś (cZ pY iC (ā 3) jD (ŗ _)) (aW (Fo (zc aL (Fj (ď (VJ T) T.ou hr Ē (Ĕ 0 (Ĕ 2 đ))))))) ĭ) (aW (pR 3)))))
def ZaT(T:Tx K mg a):ī P w K mg base aA 5 a.Zay a.ZaH ["yard","x","y","most"] (aB ⟨K,ĺ a⟩ 4 Cg):=by
 refine Ŝ T.cO.F Ai λ_ _ _ _ _ _ hr hu=>?_
 exact ņ Ai (aN ĕ) (ċ (bL PassesOwn.leaving rfl (uH rfl T.Ŭ (ą Ķ (ą (v_add (ā 3) Ă) ĕ))) (ŧ Ai) (ņ Ai (ď (VL T) T.HJ hr Ē (Ĕ 0 (ġ (ľ (ą (v_var 1) (ą (v_var 2) (ą (v_var 5) ĕ)))) đ))) (ċ (ś (TJ 6 (t_eq hu (ń (ā 6) Ă) eY)) (aW (UG (zQ aL (zQ (v_var 5) (Uz 6 1 4))))) ĭ) (ĩ (PS.wk (Ŵ (gj PySem.F.plainAttrs_list PySem.F.slot_list_append PySem.F.type_list_append ł (pv 4) (ą (v_var 6) ĕ))) λ_ _ _ h=>cu h))))) (aW (Fo (zc aL (Fj (pR 4))))))
def Zd(T:Tx K mg a){k:Nat}{mf:MF}(hok:ī P w K mg base aA k a.vK a.vL ["_law_found","_law_due_here"] (aB ⟨K,ĺ a⟩ 2 mf))(hlf:∀{ps:List Slot},(∃r,mf ps=r/\∀z,r=z->z≠ .bad)->ps.length=2):ī P w K mg base aA (k+1) a.vK a.vL ["_law_found","_law_due_here"] (aB ⟨K,ĺ a⟩ 2 (ķ 2 2 (Z2 mf))):=by
 refine fnQ (cm:=ĺ a) (mb:=Z2 mf) T.ű.F Vo rfl rfl rfl λcdv A outer s H E hr=>?_
 have hu:=hr.units
 exact ċ (ś (PW.pt (w_or (eN (Ġ (ž bD bF T.ı PyProof.Rows.boot_isinstance (Đ (ā 1) (Đ (Ġ (tQ (.ty "tuple") (Ū (v:=.ty "tuple") rfl T.sG PyProof.Rows.boot_tuple rfl))) ħ))))) (Ec (eN (Ġ (ž bD bF T.ı PyProof.Rows.boot_isinstance (Đ (ā 1) (Đ (Ġ (tQ (.ty "list") (Ū (v:=.ty "list") rfl T.ak PyProof.Rows.boot_list rfl))) ħ)))))))) (ċ (ś (PW.pt (w_or (Ko hu (Ġ (ž bD bF T.ı PyProof.Rows.boot_isinstance (Đ (ā 1) (Đ (Ġ (tQ (.ty "tuple") (Ū (v:=.ty "tuple") rfl T.sG PyProof.Rows.boot_tuple rfl))) ħ)))) (Ġ (ž bD bF T.ı PyProof.Rows.boot_isinstance (Đ (ā 0) (Đ (Ġ (tQ (.ty "tuple") (Ū (v:=.ty "tuple") rfl T.sG PyProof.Rows.boot_tuple rfl))) ħ))))) (Ec (Ko hu (Ġ (ž bD bF T.ı PyProof.Rows.boot_isinstance (Đ (ā 1) (Đ (Ġ (tQ (.ty "list") (Ū (v:=.ty "list") rfl T.ak PyProof.Rows.boot_list rfl))) ħ)))) (Ġ (ž bD bF T.ı PyProof.Rows.boot_isinstance (Đ (ā 0) (Đ (Ġ (tQ (.ty "list") (Ū (v:=.ty "list") rfl T.ak PyProof.Rows.boot_list rfl))) ħ)))))))) (Ņ Sx) ĭ) (Ņ (v_and (v_eq hu (Ġ (ž bY cB T.iw PySem.boot_len (Đ (ā 0) ħ))) (Ġ (ž bY cB T.iw PySem.boot_len (Đ (ā 1) ħ)))) (eO (ž (wK rfl) wR T.HS PyProof.Rows.boot_all (Đ (Ġ (į (Bv (Yx rfl T.ZaI (Mx 0) (Mx 1)) (lZ rfl (Ħ jY (Ħ jY bA))) fP (į (Ek hok hlf hr rfl T.ű.m T.ű.F.kp T.ű.b Ē (Ĕ 0 (Ĕ 1 đ))))))) ħ)))))) ĭ) (ċ (ś (eN (Ġ (ž bD bF T.ı PyProof.Rows.boot_isinstance (Đ (ā 1) (Đ (Ġ (tQ (.ty "str") (Ū (v:=.ty "str") rfl T.Qx PyProof.Rows.boot_str rfl))) ħ))))) (Ņ (v_and (ž bD bF T.ı PyProof.Rows.boot_isinstance (Đ (ā 0) (Đ (Ġ (tQ (.ty "str") (Ū (v:=.ty "str") rfl T.Qx PyProof.Rows.boot_str rfl))) ħ))) (eO (v_eq hu (ā 0) (ā 1))))) ĭ) (ċ (ś (cZ pY iC (ā 1) jD (ŗ _)) (Ņ (uE pY iC (ā 0) jD (ŗ _))) ĭ) (Ņ (v_and (ž bD bF T.ı PyProof.Rows.boot_isinstance (Đ (ā 0) (Đ (Ġ (tQ (.ty "int") (Ū (v:=.ty "int") rfl T.Qw PyProof.Rows.boot_int rfl))) ħ))) (v_and (v_not (ž bD bF T.ı PyProof.Rows.boot_isinstance (Đ (ā 0) (Đ (Ġ (tQ (.ty "bool") (Ū (v:=.ty "bool") rfl T.Va PyProof.Rows.boot_bool rfl))) ħ)))) (eO (v_eq hu (ā 0) (ā 1))))))))
def Z06(T:Tx K mg a):ī P w K mg base aA 0 a.vK a.vL ["_law_found","_law_due_here"] (aB ⟨K,ĺ a⟩ 2 λ_=>.bad):=⟨λ_ _ _ _ ⟨_,_,_,_,_,h⟩=>(show False from h).elim,λ_ _ _ _ _ _ _ _ _ _ _ _ _ ⟨_,_,_,_,_,h⟩=>(show False from h).elim⟩
def VN(T:Tx K mg a):ī P w K mg base aA 5 a.vK a.vL ["_law_found","_law_due_here"] (aB ⟨K,ĺ a⟩ 2 Aa):=Zd T (Zd T (Zd T (Zd T (Zd T (Z06 T) (λ⟨_,e,h⟩=>(h _ e.symm rfl).elim)) dg) dg) dg) dg
def VP(T:Tx K mg a):ī P w K mg base aA 6 a.PL a.HD ["_law_script"] (aB ⟨K,ĺ a⟩ 1 nU):=by
 refine Ŝ T.HN.F ao λ_ _ _ _ _ _ hr hu=>?_
 exact ņ ao (ď (Vp T) T.h_ hr Ē (ġ (į (ď (fX T) T.ŉ hr Ē (Ĕ 0 (ġ Ķ đ)))) đ)) (ņ ao (ď (Vs T) T.jM hr Ē (Ĕ 0 (ġ Ķ (ġ Ķ đ)))) (ņ ao (ď (ZaQ T) T.cL hr Ē (ġ (mX (Ġ (į (ď (fX T) T.ŉ hr Ē (Ĕ 0 (ġ Ķ đ))))) Ă) đ)) (ņ ao (bJ (iZ T.Vd (Ih T) Ź hr.mo rfl (Z15 T) T.cM.b Ē (ġ (ŷ (ā 1) Ă) (ġ (ŷ (ā 1) Ă) (Ĕ 3 (ġ (į (Bv (mj 2) (lZ rfl (Ħ jY (Ħ jY (Ħ jY bA)))) fP (ľ (ą (v_var 0) (ą (v_var 1) (ą (į (uW aQ aR T.ak PyProof.Rows.boot_list (Đ (ā 2) ħ))) ĕ)))))) đ)))))) (ņ ao (bJ (ľ (ą (v_sub (ĵ (Ġ (į (ď (fX T) T.ŉ hr Ē (Ĕ 0 (ġ Ķ đ))))) Ă) Ă) (ą (v_sub (ĵ (Ġ (į (ď (fX T) T.ŉ hr Ē (Ĕ 0 (ġ Ķ đ))))) Ă) Ă) ĕ)))) (ņ ao (bJ (v_mod (Ġ (į (ď (fX T) T.ŉ hr Ē (Ĕ 0 (ġ Ķ đ))))) Ă)) (ņ ao (gP Ă (ĵ (ň (ā 6) Ă) (ń (Ġ (į (aN (ą Ķ (ą Ķ (ą Ķ (ą Ķ (ą Ķ (ą Ķ ĕ))))))))) (ĵ (ā 6) Ă)))) (ņ ao (ď (Vy T) T.n_ hr Ē (Ĕ 1 (Ĕ 2 (Ĕ 5 (Ĕ 7 đ))))) (ċ (bL PassesOwn.leaving rfl (ŭ rfl T.Ŭ (ą Ķ ĕ)) (ŧ ao) (ņ ao (ď (ZaT T) T.cO hr Ē (Ĕ 4 (ġ (ŷ (ā 5) Ă) (ġ (ŷ (ā 5) Ă) (Ĕ 7 đ))))) (ċ (ś (zP 10 (yM (eN (Ġ (į (ď (VN T) T.ű hr Ē (Ĕ 10 (Ĕ 8 đ)))))))) (Ņ Sx) ĭ) (ċ (PS.wk (Ŵ (gj PySem.F.plainAttrs_list PySem.F.slot_list_append PySem.F.type_list_append ł (yx qQ (pv 10) (Ma Dk qK) (λ_ _=>rfl)) (ą (ľ (ą aL (ą Ķ (ą Ķ ĕ)))) ĕ))) λ_ _ _ h=>BZ h) (ĩ (ś (zP 10 (t_eq hu (ń (ā 10) Ă) eY)) (ĩ (PS.wk (Ŵ (gj PySem.F.plainAttrs_list PySem.F.slot_list_append PySem.F.type_list_append ł (yx qQ (pv 10) qK (λ_ _=>rfl)) (ą (ľ (ą Ķ (ą Ķ ĕ))) ĕ))) λ_ _ _ h=>B_ h)) ĭ)))))) (Ņ Sx)))))))))
end
def Zn(ns:List Int)(k:Nat):Ű [.sh (.lst (ns.map .int)),.sh (.int k)]=.ret (.sh (.int (ns.getD k 0))):=by
 by_cases h:k<ns.length
 ·have h':(k:Int)<(ns.length:Int):=by omega
  simp[Ű,xQ,List.replicate,h',List.getElem?_eq_getElem h]
 ·have h':¬(k:Int)<(ns.length:Int):=by omega
  simp[Ű,xQ,List.replicate,h',List.getElem?_eq_none (Nat.le_of_not_lt h)]
@[simp] theorem Zr(ns:List Int)(k:Nat):Ű [.sh (.lst (ns.map .int)),.sh (.int (no_index (OfNat.ofNat k)))]=.ret (.sh (.int (ns.getD k 0))):=Zn ns k
@[simp] theorem Z1R{x:Int}{n:Nat}(h:n≠0)(h2:n<1073741824):yV x (no_index (OfNat.ofNat n):Int)=true:=by
  have e:(no_index (OfNat.ofNat n):Int)=(n:Int):=rfl
  rw[e]
  unfold yV
  simp
  omega
def Z08(n k:Int)(h0:0<=k)(hk:k<1000):∃x:Int,vB [.sh (.int n),.sh (.int k)]=.ret (.sh (.int x))/\0<=x/\x<1500450271:=by
 have h1:=Int.emod_nonneg n (show(1073741789:Int)≠0 by decide)
 have h2:=Int.emod_lt_of_pos n (show(0:Int)<1073741789 by decide)
 obtain⟨N,hN⟩:∃N,(n % 1073741789+3*k+1)*40009+k*5501=N:=⟨_,rfl⟩
 have b0:0<=N / 32749:=by omega
 have b1:N / 32749<18446744073709551616:=by omega
 have b2:0<=N % 32749:=by omega
 have b3:N % 32749<32749:=by omega
 obtain⟨h,hh⟩:∃h,N / 32749=h:=⟨_,rfl⟩
 obtain⟨l,hl⟩:∃l,N % 32749=l:=⟨_,rfl⟩
 rw[hh] at b0 b1
 rw[hl] at b2 b3
 have m1:ō h h=true:=cH (by omega) (by omega)
 have m2:ō l (l+613)=true:=cH (by omega) (by omega)
 have hd:gK [.int N,.int 32749]=some (.tup [.int h,.int l]):=by rw[<-hh,<-hl];simp[gK]
 obtain⟨S,hS⟩:∃S,h*h+l*(l+613)+k=S:=⟨_,rfl⟩
 refine⟨S % 1500450271,?_,by omega,by omega⟩
 simp[vB,GP,List.replicate,hN,hd,m1,m2,hS]
def Sl(s:P.Slot)(ps:List PV):Prop:=s=.sh (.lst ps)\/s=.bw ps
def Z0w(n:Nat):ż 0 n 1=(List.range n).map λ(i:Nat)=>PV.int (i:Int):=by
 unfold ż
 refine List.map_congr_left λi _=>?_
 simp
def ZU{n:Nat}(h:n<=1000):aO [.int (n:Int)]=some ((List.range n).map λ(i:Nat)=>PV.int (i:Int)):=by
 have hs:Ž (n:Int)=true:=by unfold Ž;simp;omega
 unfold aO
 simp[hs,Z0w]
theorem ZI(b:Int)(s1:P.Slot):∀(ks:List Nat) (acc:List Int) (c:Int) (s4:P.Slot),acc.length+ks.length<=100000->(∀k∈ks,k<1000)->∃(acc':List Int) (c':Int) (VR:P.Slot),forL (gN 4) jk (ks.map λ(i:Nat)=>PV.int (i:Int)) [.sh (.int c),s1,.sh (.int b),.ow (acc.map .int),s4]=.ok .nx [.sh (.int c'),s1,.sh (.int b),.ow (acc'.map .int),VR]/\acc'.length=acc.length+ks.length
 | [],acc,c,s4,_,_=>⟨acc,c,s4,rfl,rfl⟩
 |k::ks,acc,c,s4,hl,hk=>by
  have hk0:=hk k List.mem_cons_self
  have hl0:acc.length<16777216:=by simp at hl;omega
  rw[List.map_cons,forL]
  have hg:gN 4 (PV.int (k:Int)) [.sh (.int c),s1,.sh (.int b),.ow (acc.map .int),s4]=some [.sh (.int c),s1,.sh (.int b),.ow (acc.map .int),.sh (.int k)]:=rfl
  rw[hg]
  dsimp only
  by_cases h0:b=0
  ·have e:jk [.sh (.int c),s1,.sh (.int b),.ow (acc.map .int),.sh (.int k)]=.ok .nx [.sh (.int (c / 1000000)),s1,.sh (.int b),.ow ((acc ++ [c % 1000000]).map .int),.sh (.int k)]:=by
    simp[jk,h0,hl0]
   rw[e]
   obtain⟨a,b',d,q1,q2⟩:=ZI b s1 ks (acc ++ [c % 1000000]) (c / 1000000) (.sh (.int k)) (by simp at hl ⊢;omega) (λx hx=>hk x (List.mem_cons_of_mem _ hx))
   exact⟨a,b',d,q1,by simp at q2 ⊢;omega⟩
  ·obtain⟨m,e1,_⟩:=Z08 c k (by omega) (by omega)
   obtain⟨m2,e2,_⟩:=Z08 (m+c) k (by omega) (by omega)
   have e:jk [.sh (.int c),s1,.sh (.int b),.ow (acc.map .int),.sh (.int k)]=.ok .nx [.sh (.int c),s1,.sh (.int b),.ow ((acc ++ [m2]).map .int),.sh (.int k)]:=by
    simp[jk,h0,hl0,e1,e2]
   rw[e]
   obtain⟨a,b',d,q1,q2⟩:=ZI b s1 ks (acc ++ [m2]) c (.sh (.int k)) (by simp at hl ⊢;omega) (λx hx=>hk x (List.mem_cons_of_mem _ hx))
   exact⟨a,b',d,q1,by simp at q2 ⊢;omega⟩
def Z1f(c:Int){n:Nat}(hn:n<=1000):∃xs:List Int,zR [.sh (.int c),.sh (.int n)]=.ret (.ow (xs.map .int))/\xs.length=n:=by
 have rr:=ZU hn
 obtain⟨B,hB⟩:∃B:Int,B=10 ^ 60:=⟨_,rfl⟩
 have p0:bN (.int 10) (.int 60)=some (.int B):=by rw[hB];rfl
 have b1:ō B B=true:=by rw[hB];decide +kernel
 have b2:ō (B*B) B=true:=by rw[hB];decide +kernel
 have b3:¬(B*B*B=0):=by rw[hB];decide +kernel
 obtain⟨c2,hc2⟩:∃c2,ĝ (.int (c / 2)) (.int (B*B*B))=some (.int c2):=⟨_,by rw[rD,if_pos (by simp[uJ,b3])]⟩
 have m2:ĝ (.int c) (.int 2)=some (.int (c % 2)):=by simp
 obtain⟨a,b,d,q1,q2⟩:=ZI (c % 2) (.sh (.int n)) (List.range n) [] c2 .no (by simp;omega) (λk hk=>by have:=List.mem_range.mp hk;omega)
 refine⟨a,?_,by simpa using q2⟩
 rw[List.map_nil] at q1
 simp[zR,GQ,List.replicate,rr,q1,p0,b1,b2,hc2,m2,-rD,-J_]
abbrev P3:=Int×Int×Int
def c3(p:P3):PV:=.tup [.int p.1,.int p.2.1,.int p.2.2]
def QB(s:P.Slot)(ps:List PV):Prop:=s=.sh (.lst ps)\/s=.bw ps
def Ų(x:Int):Bool:=decide (-1000000000<=x/\x<=1000000000)
def Lx(x:Int):Bool:=decide (1<=x/\x<=1000000000)
def Aj(x:Int):Bool:=decide (0<=x/\x<=1000000000)
def ZJ(x:Int):jH [.sh (.int x)]=.ret (.sh (.bl (Ų x))):=by
 unfold Ų
 by_cases h1: -1000000000<=x<;>by_cases h2:x<=1000000000<;>simp[jH,GR,List.replicate,h1,h2]
def ZY(x:Int):vC [.sh (.int x)]=.ret (.sh (.bl (Lx x))):=by
 unfold Lx
 by_cases h1:1<=x<;>by_cases h2:x<=1000000000<;>simp[vC,GX,List.replicate,h1,h2]
def Zl:List Int->Bool
 | [p,q,h]=>Ų p && Ų q && Lx h
 |_=>false
def Zk:List Int->Bool
 | [x,y,u,v,h]=>Ų x && Ų y && Ų u && Ų v && Lx h
 |_=>false
def Ze:List Int->Bool
 | [x,y,u,v,h]=>Zk [x,y,u,v,h] && !(decide (x=u) && decide (y=v))
 |_=>false
def Zb:List Int->Bool
 | [x,y,u,v,h]=>Zk [x,y,u,v,h] && decide (x<u) && decide (y<v)
 |_=>false
def Zf:List Int->Bool
 | [a,b,c,d,e,f,g,h,i]=>Ų a && Ų b && Aj c && (Ų d && Ų e && Aj f) && (Ų g && Ų h && Aj i)
 |_=>false
def Z1g(a b c:Bool):uN [.lst [.bl a,.bl b,.bl c]]=some (.bl (a && b && c)):=by cases a<;>cases b<;>cases c<;>rfl
def Z1h(a b c d:Bool):uN [.lst [.bl a,.bl b,.bl c,.bl d]]=some (.bl (a && b && c && d)):=by cases a<;>cases b<;>cases c<;>cases d<;>rfl
def Z07{xs:List Int}{sl:P.Slot}(hs:QB sl (xs.map .int)):vD [sl]=.ret (.sh (.bl (Zl xs))):=by
 by_cases hl:xs.length=3
 ·match xs,hl with
  | [a,b,c],_=>
    have h:Zl [a,b,c]=(Ų a && Ų b && Lx c):=rfl
    rw[h]
    rcases hs with rfl|rfl<;>cases ea:Ų a<;>cases eb:Ų b<;>cases ec:Lx c<;>simp[vD,xR,List.replicate,ZJ,ZY,ea,eb,ec]
 ·have h:Zl xs=false:=by
   unfold Zl
   split
   ·simp at hl
   ·rfl
  rw[h]
  have hl':¬((xs.length:Nat):Int)=3:=by omega
  rcases hs with rfl|rfl<;>simp[vD,xR,List.replicate,hl']
def Z0l{xs:List Int}{sl:P.Slot}(hs:QB sl (xs.map .int)):Ca [sl]=.ret (.sh (.bl (Zk xs))):=by
 by_cases hl:xs.length=5
 ·match xs,hl with
  | [a,b,c,d,e],_=>
    have h:Zk [a,b,c,d,e]=(Ų a && Ų b && Ų c && Ų d && Lx e):=rfl
    rw[h]
    have hc:mH ([.int a,.int b,.int c,.int d,.int e]:List PV) none (some 4)=[.int a,.int b,.int c,.int d]:=rfl
    have hb:=Z1h (Ų a) (Ų b) (Ų c) (Ų d)
    rcases hs with rfl|rfl<;>cases ea:(Ų a && Ų b && Ų c && Ų d)<;>cases ec:Lx e<;>rw[ea] at hb<;>simp[Ca,GZ,List.replicate,ZJ,ZY,hc,Ů,hb,ec]
 ·have h:Zk xs=false:=by
   unfold Zk
   split
   ·simp at hl
   ·rfl
  rw[h]
  have hl':¬((xs.length:Nat):Int)=5:=by omega
  rcases hs with rfl|rfl<;>simp[Ca,GZ,List.replicate,hl']
def Z1i(a b c d:Int):gH (.lst [.int a,.int b]) (.lst [.int c,.int d])=some (.bl (!(decide (a=c) && decide (b=d)))):=by
 have h:eqB (.lst [.int a,.int b]) (.lst [.int c,.int d])=(decide (a=c) && decide (b=d)):=by
  simp[eqB,q_]
  rw[Bool.eq_iff_iff]
  simp
 unfold gH Bm
 rw[h]
 simp[aq,mD,dep,Bk]
def Z11{xs:List Int}(hl:¬xs.length=5):Zk xs=false:=by
 unfold Zk
 split
 ·simp at hl
 ·rfl
def Z0x{s:P.Slot}{ps:List PV}(h:QB s ps):cG s=some s:=by rcases h with rfl|rfl<;>rfl
def Z0L{xs:List Int}{sl:P.Slot}(hs:QB sl (xs.map .int)):Hf [sl]=.ret (.sh (.bl (Ze xs))):=by
 have he:=Z0l hs
 by_cases hl:xs.length=5
 ·match xs,hl with
  | [a,b,c,d,e],_=>
    have h:Ze [a,b,c,d,e]=(Zk [a,b,c,d,e] && !(decide (a=c) && decide (b=d))):=rfl
    rw[h]
    have h1:mH ([.int a,.int b,.int c,.int d,.int e]:List PV) none (some 2)=[.int a,.int b]:=rfl
    have h2:mH ([.int a,.int b,.int c,.int d,.int e]:List PV) (some 2) (some 4)=[.int c,.int d]:=rfl
    have h3:=Z1i a b c d
    generalize Zk [a,b,c,d,e]=q at *
    generalize (!(decide (a=c) && decide (b=d)))=r at *
    rcases hs with rfl|rfl<;>cases q<;>simp_all [Hf,G_,List.replicate]
 ·have h:Ze xs=false:=by
   unfold Ze
   split
   ·simp at hl
   ·rfl
  rw[h]
  rw[Z11 hl] at he
  simp[Hf,G_,List.replicate,Z0x hs,he]
def Z16{xs:List Int}{sl:P.Slot}(hs:QB sl (xs.map .int)):Cd [sl]=.ret (.sh (.bl (Zb xs))):=by
 have he:=Z0l hs
 by_cases hl:xs.length=5
 ·match xs,hl with
  | [a,b,c,d,e],_=>
    have h:Zb [a,b,c,d,e]=(Zk [a,b,c,d,e] && decide (a<c) && decide (b<d)):=rfl
    rw[h]
    generalize Zk [a,b,c,d,e]=q at *
    rcases hs with rfl|rfl<;>simp only[List.map_cons,List.map_nil] at he<;>cases q<;>by_cases h1:a<c<;>by_cases h2:b<d<;>simp[Cd,Hg,List.replicate,he,h1,h2]
 ·have h:Zb xs=false:=by
   unfold Zb
   split
   ·simp at hl
   ·rfl
  rw[h]
  rw[Z11 hl] at he
  simp[Cd,Hg,List.replicate,Z0x hs,he]
def ZB(a b c:Int):Li [.sh (.lst [.int a,.int b,.int c])]=.ret (.sh (.bl (Ų a && Ų b && Aj c))):=by
 unfold Aj
 cases ea:Ų a<;>cases eb:Ų b<;>by_cases h1:0<=c<;>by_cases h2:c<=1000000000<;>simp[Li,Oq,List.replicate,ZJ,ea,eb,h1,h2]
def Z0M{xs:List Int}{sl:P.Slot}(hs:QB sl (xs.map .int)):vG [sl]=.ret (.sh (.bl (Zf xs))):=by
 by_cases hl:xs.length=9
 ·match xs,hl with
  | [a,b,c,d,e,f,g,h,i],_=>
    have hc:Zf [a,b,c,d,e,f,g,h,i]=((Ų a && Ų b && Aj c) && (Ų d && Ų e && Aj f) && (Ų g && Ų h && Aj i)):=rfl
    rw[hc]
    have h1:mH ([.int a,.int b,.int c,.int d,.int e,.int f,.int g,.int h,.int i]:List PV) (some 0) (some 3)=[.int a,.int b,.int c]:=rfl
    have h2:mH ([.int a,.int b,.int c,.int d,.int e,.int f,.int g,.int h,.int i]:List PV) (some 3) (some 6)=[.int d,.int e,.int f]:=rfl
    have h3:mH ([.int a,.int b,.int c,.int d,.int e,.int f,.int g,.int h,.int i]:List PV) (some 6) (some 9)=[.int g,.int h,.int i]:=rfl
    have hb:=Z1g (Ų a && Ų b && Aj c) (Ų d && Ų e && Aj f) (Ų g && Ų h && Aj i)
    have k1:=ZB a b c
    have k2:=ZB d e f
    have k3:=ZB g h i
    generalize (Ų a && Ų b && Aj c)=q1 at *
    generalize (Ų d && Ų e && Aj f)=q2 at *
    generalize (Ų g && Ų h && Aj i)=q3 at *
    rcases hs with rfl|rfl<;>simp[vG,xT,List.replicate,Ů,h1,h2,h3,k1,k2,k3,hb]
 ·have h:Zf xs=false:=by
   unfold Zf
   split
   ·simp at hl
   ·rfl
  rw[h]
  have hl':¬((xs.length:Nat):Int)=9:=by omega
  rcases hs with rfl|rfl<;>simp[vG,xT,List.replicate,hl']
def Z0y(w:Str):String:=if w= "post" then "Post" else if w= "fence" then "Fence" else if w= "sail" then "Sail" else if w= "cloth" then "Cloth" else "House"
def Z09(C:String)(w:Str)(xs:List Int):PV:=.ins C ["word","numbers"] [.str w,.lst (xs.map .int)]
def ZQ(w:Str)(xs:List Int):Bool:=if w= "post" then Zl xs else if w= "fence" then Ze xs else if w= "sail" then Zb xs else if w= "cloth" then Zf xs else if w= "house" then Zb xs else false
def wn:((Str.ofString "word")=(Str.ofString "numbers"))=False:=eq_false (by decide +kernel)
def Zt{C:String}(hC:(["Thing","Post","Fence","Sail","Cloth","House"]:List String).contains C=true)(w:Str){xs:List Int}{sl:P.Slot}(hs:QB sl (xs.map .int)):aU 3 3 C cJ [.sh (.str w),sl]=.ok ["word","numbers"] [.str w,.lst (xs.map .int)]:=by
 rcases hs with rfl|rfl<;>simp[aU,cJ,eX,IR.of,List.replicate,putN,wV,hC,wn,-List.contains_eq_mem,-List.contains_cons]
def s1:PyData.strOk (Str.ofString "post")=true:=by decide +kernel
def s2:PyData.strOk (Str.ofString "fence")=true:=by decide +kernel
def s3:PyData.strOk (Str.ofString "sail")=true:=by decide +kernel
def s4:PyData.strOk (Str.ofString "cloth")=true:=by decide +kernel
def s5:PyData.strOk (Str.ofString "house")=true:=by decide +kernel
def d12:(Str.ofString "post" =Str.ofString "fence")=False:=eq_false (by decide +kernel)
def d13:(Str.ofString "post" =Str.ofString "sail")=False:=eq_false (by decide +kernel)
def d14:(Str.ofString "post" =Str.ofString "cloth")=False:=eq_false (by decide +kernel)
def d15:(Str.ofString "post" =Str.ofString "house")=False:=eq_false (by decide +kernel)
def d23:(Str.ofString "fence" =Str.ofString "sail")=False:=eq_false (by decide +kernel)
def d24:(Str.ofString "fence" =Str.ofString "cloth")=False:=eq_false (by decide +kernel)
def d25:(Str.ofString "fence" =Str.ofString "house")=False:=eq_false (by decide +kernel)
def d31:(Str.ofString "sail" =Str.ofString "post")=False:=eq_false (by decide +kernel)
def d32:(Str.ofString "sail" =Str.ofString "fence")=False:=eq_false (by decide +kernel)
def d34:(Str.ofString "sail" =Str.ofString "cloth")=False:=eq_false (by decide +kernel)
def d35:(Str.ofString "sail" =Str.ofString "house")=False:=eq_false (by decide +kernel)
def d45:(Str.ofString "cloth" =Str.ofString "house")=False:=eq_false (by decide +kernel)
def d51:(Str.ofString "house" =Str.ofString "post")=False:=eq_false (by decide +kernel)
def d52:(Str.ofString "house" =Str.ofString "fence")=False:=eq_false (by decide +kernel)
def d53:(Str.ofString "house" =Str.ofString "sail")=False:=eq_false (by decide +kernel)
def d54:(Str.ofString "house" =Str.ofString "cloth")=False:=eq_false (by decide +kernel)
def Z0N{w:Str}(hw:PyData.strOk w=true){xs:List Int}{sl:P.Slot}(hs:QB sl (xs.map .int)):fj [.sh (.str w),sl]=if ZQ w xs=true then .ret (.sh (Z09 (Z0y w) w xs)) else .bad:=by
 have e1:=Ń hw s1
 have e2:=Ń hw s2
 have e3:=Ń hw s3
 have e4:=Ń hw s4
 have e5:=Ń hw s5
 have p1:=Z07 hs
 have p2:=Z0L hs
 have p3:=Z16 hs
 have p4:=Z0M hs
 have i1:rT [.sh (.str w),sl]=_:=Zt (by decide) w hs
 have i2:nP [.sh (.str w),sl]=_:=Zt (by decide) w hs
 have i3:rW [.sh (.str w),sl]=_:=Zt (by decide) w hs
 have i4:nQ [.sh (.str w),sl]=_:=Zt (by decide) w hs
 have i5:nR [.sh (.str w),sl]=_:=Zt (by decide) w hs
 have hle:=Z0x hs
 unfold ZQ Z0y Z09
 by_cases h1:w=Str.ofString "post"
 ·have n2:¬w=Str.ofString "fence" := λz=>(d12▸(h1.symm.trans z):False)
  have n3:¬w=Str.ofString "sail" := λz=>(d13▸(h1.symm.trans z):False)
  have n4:¬w=Str.ofString "cloth" := λz=>(d14▸(h1.symm.trans z):False)
  have n5:¬w=Str.ofString "house" := λz=>(d15▸(h1.symm.trans z):False)
  rw[decide_eq_true h1] at e1
  rw[decide_eq_false n2] at e2
  rw[decide_eq_false n3] at e3
  rw[decide_eq_false n4] at e4
  rw[decide_eq_false n5] at e5
  have hg:(if w=Str.ofString "post" then Zl xs else if w=Str.ofString "fence" then Ze xs else if w=Str.ofString "sail" then Zb xs else if w=Str.ofString "cloth" then Zf xs else if w=Str.ofString "house" then Zb xs else false)=Zl xs:=by rw[if_pos h1]
  have hc:(if w=Str.ofString "post" then "Post" else if w=Str.ofString "fence" then "Fence" else if w=Str.ofString "sail" then "Sail" else if w=Str.ofString "cloth" then "Cloth" else "House")= "Post" := by rw[if_pos h1]
  rw[hg,hc]
  cases q:Zl xs<;>rw[q] at p1<;>simp[fj,fU,aV,List.replicate,e1,e2,e3,e4,e5,hle,p1,i1]
 ·skip
  by_cases h2:w=Str.ofString "fence"
  ·have n1:=h1
   have n3:¬w=Str.ofString "sail" := λz=>(d23▸(h2.symm.trans z):False)
   have n4:¬w=Str.ofString "cloth" := λz=>(d24▸(h2.symm.trans z):False)
   have n5:¬w=Str.ofString "house" := λz=>(d25▸(h2.symm.trans z):False)
   rw[decide_eq_true h2] at e2
   rw[decide_eq_false n1] at e1
   rw[decide_eq_false n3] at e3
   rw[decide_eq_false n4] at e4
   rw[decide_eq_false n5] at e5
   have hg:(if w=Str.ofString "post" then Zl xs else if w=Str.ofString "fence" then Ze xs else if w=Str.ofString "sail" then Zb xs else if w=Str.ofString "cloth" then Zf xs else if w=Str.ofString "house" then Zb xs else false)=Ze xs:=by rw[if_neg n1,if_pos h2]
   have hc:(if w=Str.ofString "post" then "Post" else if w=Str.ofString "fence" then "Fence" else if w=Str.ofString "sail" then "Sail" else if w=Str.ofString "cloth" then "Cloth" else "House")= "Fence" := by rw[if_neg n1,if_pos h2]
   rw[hg,hc]
   cases q:Ze xs<;>rw[q] at p2<;>simp[fj,fU,aV,List.replicate,e1,e2,e3,e4,e5,hle,p2,i2]
  ·skip
   by_cases h3:w=Str.ofString "sail"
   ·have n1:=h1
    have n2:=h2
    have n4:¬w=Str.ofString "cloth" := λz=>(d34▸(h3.symm.trans z):False)
    have n5:¬w=Str.ofString "house" := λz=>(d35▸(h3.symm.trans z):False)
    rw[decide_eq_true h3] at e3
    rw[decide_eq_false n1] at e1
    rw[decide_eq_false n2] at e2
    rw[decide_eq_false n4] at e4
    rw[decide_eq_false n5] at e5
    have hg:(if w=Str.ofString "post" then Zl xs else if w=Str.ofString "fence" then Ze xs else if w=Str.ofString "sail" then Zb xs else if w=Str.ofString "cloth" then Zf xs else if w=Str.ofString "house" then Zb xs else false)=Zb xs:=by rw[if_neg n1,if_neg n2,if_pos h3]
    have hc:(if w=Str.ofString "post" then "Post" else if w=Str.ofString "fence" then "Fence" else if w=Str.ofString "sail" then "Sail" else if w=Str.ofString "cloth" then "Cloth" else "House")= "Sail" := by rw[if_neg n1,if_neg n2,if_pos h3]
    rw[hg,hc]
    cases q:Zb xs<;>rw[q] at p3<;>simp[fj,fU,aV,List.replicate,e1,e2,e3,e4,e5,hle,p3,i3]
   ·skip
    by_cases h4:w=Str.ofString "cloth"
    ·have n1:=h1
     have n2:=h2
     have n3:=h3
     have n5:¬w=Str.ofString "house" := λz=>(d45▸(h4.symm.trans z):False)
     rw[decide_eq_true h4] at e4
     rw[decide_eq_false n1] at e1
     rw[decide_eq_false n2] at e2
     rw[decide_eq_false n3] at e3
     rw[decide_eq_false n5] at e5
     have hg:(if w=Str.ofString "post" then Zl xs else if w=Str.ofString "fence" then Ze xs else if w=Str.ofString "sail" then Zb xs else if w=Str.ofString "cloth" then Zf xs else if w=Str.ofString "house" then Zb xs else false)=Zf xs:=by rw[if_neg n1,if_neg n2,if_neg n3,if_pos h4]
     have hc:(if w=Str.ofString "post" then "Post" else if w=Str.ofString "fence" then "Fence" else if w=Str.ofString "sail" then "Sail" else if w=Str.ofString "cloth" then "Cloth" else "House")= "Cloth" := by rw[if_neg n1,if_neg n2,if_neg n3,if_pos h4]
     rw[hg,hc]
     cases q:Zf xs<;>rw[q] at p4<;>simp[fj,fU,aV,List.replicate,e1,e2,e3,e4,e5,hle,p4,i4]
    ·skip
     by_cases h5:w=Str.ofString "house"
     ·have n1:=h1
      have n2:=h2
      have n3:=h3
      have n4:=h4
      rw[decide_eq_true h5] at e5
      rw[decide_eq_false n1] at e1
      rw[decide_eq_false n2] at e2
      rw[decide_eq_false n3] at e3
      rw[decide_eq_false n4] at e4
      have hg:(if w=Str.ofString "post" then Zl xs else if w=Str.ofString "fence" then Ze xs else if w=Str.ofString "sail" then Zb xs else if w=Str.ofString "cloth" then Zf xs else if w=Str.ofString "house" then Zb xs else false)=Zb xs:=by rw[if_neg n1,if_neg n2,if_neg n3,if_neg n4,if_pos h5]
      have hc:(if w=Str.ofString "post" then "Post" else if w=Str.ofString "fence" then "Fence" else if w=Str.ofString "sail" then "Sail" else if w=Str.ofString "cloth" then "Cloth" else "House")= "House" := by rw[if_neg n1,if_neg n2,if_neg n3,if_neg n4]
      rw[hg,hc]
      cases q:Zb xs<;>rw[q] at p3<;>simp[fj,fU,aV,List.replicate,e1,e2,e3,e4,e5,hle,p3,i5]
     ·skip
      rw[decide_eq_false h1] at e1
      rw[decide_eq_false h2] at e2
      rw[decide_eq_false h3] at e3
      rw[decide_eq_false h4] at e4
      rw[decide_eq_false h5] at e5
      rw[if_neg h1,if_neg h2,if_neg h3,if_neg h4,if_neg h5]
      simp[fj,fU,aV,List.replicate,e1,e2,e3,e4,e5]
abbrev Th:=Str×List Int
def Cp(t:Th):PV:=Z09 (Z0y t.1) t.1 t.2
def cQ:Option P3->PV
 |none=>.non
 |some r=>c3 r
abbrev Dy:=Str×Int×List (Option P3)
def ŀ(d:Dy):PV:=.tup [.str d.1,.int d.2.1,.lst (d.2.2.map cQ)]
def Z0(w h:Int)(T:List Th)(D:List Dy):PV:=.ins "Yard" ["width","height","things","days"] [.int w,.int h,.lst (T.map Cp),.lst (D.map ŀ)]
def ywh:(Str.ofString "width" =Str.ofString "height")=False:=eq_false (by decide +kernel)
def ywt:(Str.ofString "width" =Str.ofString "things")=False:=eq_false (by decide +kernel)
def ywd:(Str.ofString "width" =Str.ofString "days")=False:=eq_false (by decide +kernel)
def yht:(Str.ofString "height" =Str.ofString "things")=False:=eq_false (by decide +kernel)
def yhd:(Str.ofString "height" =Str.ofString "days")=False:=eq_false (by decide +kernel)
def ytd:(Str.ofString "things" =Str.ofString "days")=False:=eq_false (by decide +kernel)
def y_w(w h:Int)(T:List Th)(D:List Dy):gM ["Yard"] (Str.ofString "width") (Z0 w h T D)=some (.int w):=by
 unfold gM Z0
 simp
def y_h(w h:Int)(T:List Th)(D:List Dy):gM ["Yard"] (Str.ofString "height") (Z0 w h T D)=some (.int h):=by
 have:(Str.ofString "height" == Str.ofString "width")=false:=by decide +kernel
 unfold gM Z0
 simp[List.lookup_cons,this]
def y_d(w h:Int)(T:List Th)(D:List Dy):gM ["Yard"] (Str.ofString "days") (Z0 w h T D)=some (.lst (D.map ŀ)):=by
 have e1:(Str.ofString "days" == Str.ofString "width")=false:=by decide +kernel
 have e2:(Str.ofString "days" == Str.ofString "height")=false:=by decide +kernel
 have e3:(Str.ofString "days" == Str.ofString "things")=false:=by decide +kernel
 unfold gM Z0
 simp[List.lookup_cons,e1,e2,e3]
def ZZ(D:List Dy)(hD:D.length<=100000)(s0 s1 s2:P.Slot):Ů (gT 3 (Č (gN 0) (Č (gN 1) (Č (gN 2) Ō)))) dw (Ŕ (ă (ē 0) (ă (ē 1) (ă (Ę (qY eV (ă (Ā 2) Ė))) Ė)))) (D.map ŀ) [s0,s1,s2] []=some (D.map ŀ):=by
 have h:=bO (g:=gT 3 (Č (gN 0) (Č (gN 1) (Č (gN 2) Ō)))) (mt:=dw) (me:=Ŕ (ă (ē 0) (ă (ē 1) (ă (Ę (qY eV (ă (Ā 2) Ė))) Ė)))) ŀ ŀ (λρ=>∃a b c,ρ=[a,b,c]) D [s0,s1,s2] [] ⟨_,_,_,rfl⟩ (by simp;omega) (by
  rintro d _ ρ ⟨a,b,c,rfl⟩
  refine⟨[.sh (.str d.1),.sh (.int d.2.1),.sh (.lst (d.2.2.map cQ))],[.sh (.str d.1),.sh (.int d.2.1),.sh (.lst (d.2.2.map cQ))],[.sh (.str d.1),.sh (.int d.2.1),.sh (.lst (d.2.2.map cQ))],by simp[ŀ],rfl,by simp[ŀ],_,_,_,rfl⟩)
 simpa using h
def Z17(w h:Int){T:List Th}{D:List Dy}(hT:T.length<=100000)(hD:D.length<=100000){s3 s4:P.Slot}(h3:Sl s3 (T.map Cp))(h4:Sl s4 (D.map ŀ)):lK [.sh (.int w),.sh (.int h),s3,s4]=.ok ["width","height","things","days"] [.int w,.int h,.lst (T.map Cp),.lst (D.map ŀ)]:=by
 have c:=ZZ D hD .no .no .no
 generalize hx:T.map Cp=tx at *
 generalize hy:D.map ŀ=dx at *
 rcases h3 with rfl|rfl<;>rcases h4 with rfl|rfl<;>simp[lK,aU,Hi,eX,IR.of,List.replicate,putN,wV,ywh,ywt,ywd,yht,yhd,ytd,c]
def Z0z{w h:Int}{T:List Th}{D:List Dy}{i:Nat}(hi:i<D.length):vI [.sh (Z0 w h T D),.sh (.int i)]=.ret (.sh (.lst (D[i].2.2.map cQ))):=by
 have yd:=y_d w h T D
 have hx:(D.map ŀ)[i]?=some (ŀ D[i]):=by simp[hi]
 generalize Z0 w h T D=Yv at *
 generalize D.map ŀ=DV at *
 simp[vI,Ho,List.replicate,yd,hx]
 simp[ŀ]
def Z0O(c:Int):∃W H:Int,vA [.sh (.int c)]=.ret (.sh (.tup [.int W,.int H]))/\1<=W/\W<=20/\1<=H/\H<=20:=by
 by_cases h:c % 1000000000000 % 6=5
 ·refine⟨1+c % 1000000000000 / 6 % 20,1+c % 1000000000000 / 120 % 20,?_,by omega,by omega,by omega,by omega⟩
  simp[vA,xP,List.replicate,h,-Int.emod_emod_of_dvd]
 ·refine⟨1+c % 1000000000000 / 6 % 6,1+c % 1000000000000 / 36 % 6,?_,by omega,by omega,by omega,by omega⟩
  simp[vA,xP,List.replicate,h,-Int.emod_emod_of_dvd]
def RG(r:P3):Prop:=-1000000<=r.1/\r.1<=1000000/\ -1000000<=r.2.1/\r.2.1<=1000000/\1<=r.2.2/\r.2.2<=1000000
def OG(o:Option P3):Prop:=∀r,o=some r->RG r
def Z18{n a b c:Int}{t:Nat}(ht:t<=24)(ha: -2<=a/\a<=2)(hb: -2<=b/\b<=2)(hc:1<=c/\c<=3):∃o,eZ [.sh (.int n),.sh (.int t),.sh (.tup [.int a,.int b,.int c])]=.ret (.sh (cQ o))/\OG o:=by
 by_cases h1:n % 7=6
 ·refine⟨none,?_,by intro r h;cases h⟩
  simp[eZ,rQ,List.replicate,h1,cQ]
 ·by_cases h2:n % 5<3
  ·have mc:∀x,ō (2*c) x=true:=λx=>cH (by omega) (by omega)
   refine⟨some (2*c*t+a,b+2*c*(n / 35 % 9 / 8),c),?_,?_⟩
   ·simp[eZ,rQ,List.replicate,h1,h2,cQ,c3,mc]
   ·intro r h
    cases h
    have:c=1\/c=2\/c=3:=by omega
    unfold RG
    rcases this with rfl|rfl|rfl<;>dsimp only<;>omega
  ·have key:∀B:Int,(B=1∨B=100000)→ę (.lst [.int 1,.int 1,.int 100000]) (.int (n / 35 % 3))=some (.int B)→∃o,eZ [.sh (.int n),.sh (.int t),.sh (.tup [.int a,.int b,.int c])]=.ret (.sh (cQ o))∧OG o:=by
    intro B hB hi
    have mB:∀x,ō B x=true:=λx=>cH (by omega) (by omega)
    refine⟨some (B*(n / 105 % 9-4),B*(n / 945 % 9-4),B*(1+n / 8505 % 2)),?_,?_⟩
    ·simp[eZ,rQ,List.replicate,h1,h2,cQ,c3,mB,hi,-wU]
    ·intro r h
     cases h
     unfold RG
     rcases hB with rfl|rfl<;>dsimp only<;>omega
   have h3:n / 35 % 3=0\/n / 35 % 3=1\/n / 35 % 3=2:=by omega
   rcases h3 with e|e|e
   ·exact key 1 (.inl rfl) (by rw[e];rfl)
   ·exact key 1 (.inl rfl) (by rw[e];rfl)
   ·exact key 100000 (.inr rfl) (by rw[e];rfl)
def nmV(k:Nat):Str:=Str.ofString ((["a","b","c","d","e","f","g","h","i","j","k","l"]:List String).getD k "")
def Z19{k:Nat}(hk:k<12):ę (.str "abcdefghijkl") (.int (k:Int))=some (.str (nmV k)):=by
 have:k=0\/k=1\/k=2\/k=3\/k=4\/k=5\/k=6\/k=7\/k=8\/k=9\/k=10\/k=11:=by omega
 rcases this with rfl|rfl|rfl|rfl|rfl|rfl|rfl|rfl|rfl|rfl|rfl|rfl<;>rfl
def Z1a{k:Nat}(hk:k<12){m:Int}(h0:0<=m)(h3:m<=3):∃s u:Str,ģ (.str "ab") (.int m)=some (.str s)/\Ģ (.str (nmV k)) (.str s)=some (.sh (.str u)):=by
 have hm:m=0\/m=1\/m=2\/m=3:=by omega
 have h1:(nmV k).length<=1:=by
  have:k=0\/k=1\/k=2\/k=3\/k=4\/k=5\/k=6\/k=7\/k=8\/k=9\/k=10\/k=11:=by omega
  rcases this with rfl|rfl|rfl|rfl|rfl|rfl|rfl|rfl|rfl|rfl|rfl|rfl<;>decide +kernel
 have key:∀s:Str,s.length<=6->∃u:Str,Ģ (.str (nmV k)) (.str s)=some (.sh (.str u)):=λs hs=>⟨_,if_pos (by omega)⟩
 have z:∀m:Int,(m=0\/m=1\/m=2\/m=3)->∃s:Str,ģ (.str "ab") (.int m)=some (.str s)/\s.length<=6:=by
  intro m hm
  rcases hm with rfl|rfl|rfl|rfl
  ·exact⟨_,rfl,by decide +kernel⟩
  ·exact⟨_,rfl,by decide +kernel⟩
  ·exact⟨_,rfl,by decide +kernel⟩
  ·exact⟨_,rfl,by decide +kernel⟩
 obtain⟨s,e1,e2⟩:=z m hm
 obtain⟨u,e3⟩:=key s e2
 exact⟨s,u,e1,e3⟩
def tK(d:Dy):Prop:=d.2.2.length<=24/\∀o∈d.2.2,OG o
def Z0A{xs:List Int}{a b c:Int}{m:Nat}(hx:xs.length=m)(hm:m<=24)(ha: -2<=a/\a<=2)(hb: -2<=b/\b<=2)(hc:1<=c/\c<=3):∃os:List (Option P3),os.length=m/\(∀o∈os,OG o)/\
 ∀s:P.Slot,Ů (gN 2) dw (Ę (Ĝ eZ (Ĥ (Ą ę (Ā 1) (Ā 2)) (ĉ 2 (ĉ 0 Ě))))) ((List.range m).map λ(i:Nat)=>PV.int (i:Int)) [.sh (.tup [.int a,.int b,.int c]),.bw (xs.map .int),s] []=some (os.map cQ):=by
 have h:∀k:Nat,∃o,(k<m->eZ [.sh (.int (xs.getD k 0)),.sh (.int k),.sh (.tup [.int a,.int b,.int c])]=.ret (.sh (cQ o)))/\OG o:=by
  intro k
  by_cases hk:k<=24
  ·obtain⟨o,h1,h2⟩:=Z18 (n:=xs.getD k 0) hk ha hb hc
   exact⟨o,λ_=>h1,h2⟩
  ·exact⟨none,λz=>absurd z (by omega),by intro r h;cases h⟩
 obtain⟨f,hf⟩:=Classical.skolem.mp h
 refine⟨(List.range m).map f,by simp,?_,λs=>?_⟩
 ·intro o ho
  obtain⟨k,_,rfl⟩:=List.mem_map.mp ho
  exact(hf k).2
 ·have:=bO (g:=gN 2) (mt:=dw) (me:=Ę (Ĝ eZ (Ĥ (Ą ę (Ā 1) (Ā 2)) (ĉ 2 (ĉ 0 Ě))))) (fun(i:Nat)=>PV.int (i:Int)) (fun k=>cQ (f k)) (fun ρ=>∃s,ρ=[.sh (.tup [.int a,.int b,.int c]),.bw (xs.map .int),s]) (List.range m) [.sh (.tup [.int a,.int b,.int c]),.bw (xs.map .int),s] [] ⟨_,rfl⟩ (by simp;omega) (by
   rintro k hk ρ ⟨s,rfl⟩
   have hk:=List.mem_range.mp hk
   have e:=(hf k).1 hk
   have hx':(xs.map PV.int)[k]?=some (.int (xs.getD k 0)):=by
    have:k<xs.length:=by omega
    simp[this]
   generalize xs.getD k 0=x at *
   generalize xs.map PV.int=X at *
   refine⟨[.sh (.tup [.int a,.int b,.int c]),.bw X,.sh (.int k)],[.sh (.tup [.int a,.int b,.int c]),.bw X,.sh (.int k)],[.sh (.tup [.int a,.int b,.int c]),.bw X,.sh (.int k)],by simp,by simp,?_,_,rfl⟩
   simp[hx',e])
  rw[this,List.nil_append,List.map_map]
  rfl
def Z0B(ns:List Int)(A k:Nat)(hk:k<12)(f lg:Int)(Ws:lg=0\/lg=1)(s2:P.Slot)(acc:List Dy)(hl:acc.length<=100)(s7 s8 s9 Ÿ Cq s12:P.Slot):∃(d:Dy) (Ii Ij Ik jt Il Im:P.Slot),tK d/\jl [.sh (.lst (ns.map .int)),.sh (.int (A:Nat)),s2,.sh (.int f),.ow (acc.map ŀ),.sh (.int lg),.sh (.int k),s7,s8,s9,Ÿ,Cq,s12]=.ok .nx [.sh (.lst (ns.map .int)),.sh (.int (A:Nat)),s2,.sh (.int f),.ow ((acc ++ [d]).map ŀ),.sh (.int lg),.sh (.int k),Ii,Ij,Ik,jt,Il,Im]:=by
 have hc:=Zn ns (A+1+k)
 rw[Int.natCast_add,Int.natCast_add] at hc
 generalize ns.getD (A+1+k) 0=c at hc
 have hc:Ű [.sh (.lst (ns.map .int)),.sh (.int ((A:Int)+1+(k:Int)))]=.ret (.sh (.int c)):=hc
 have hw:∀sz:Int,1<=sz->sz<=24->(sz=if lg=1 then 1+c % 24 else 1+c % 4+c / 4 % 3*(f / 3 % 4 / 3))->∃(d:Dy) (Ii Ij Ik jt Il Im:P.Slot),tK d/\jl [.sh (.lst (ns.map .int)),.sh (.int (A:Nat)),s2,.sh (.int f),.ow (acc.map ŀ),.sh (.int lg),.sh (.int k),s7,s8,s9,Ÿ,Cq,s12]=.ok .nx [.sh (.lst (ns.map .int)),.sh (.int (A:Nat)),s2,.sh (.int f),.ow ((acc ++ [d]).map ŀ),.sh (.int lg),.sh (.int k),Ii,Ij,Ik,jt,Il,Im]:=by
  intro sz z1 z2 z3
  obtain⟨m,rfl⟩:∃m:Nat,sz=m:=⟨sz.toNat,by omega⟩
  obtain⟨xs,x1,x2⟩:=Z1f (c / 300) (n:=m) (by omega)
  obtain⟨os,o1,o2,o3⟩:=Z0A (xs:=xs) (a:=c / 12 % 5-2) (b:=c / 60 % 5-2) (c:=1+f / 36 % 3) x2 (by omega) (by omega) (by omega) (by omega)
  obtain⟨s,u,u1,u2⟩:=Z1a hk (m:=f / 108 % 4) (by omega) (by omega)
  have ui:=Z19 hk
  have rr:=ZU (n:=m) (by omega)
  have o3:=o3 .no
  have hm:ō (c / 4 % 3) (f / 3 % 4 / 3)=true:=cH (by omega) (by omega)
  have hla:(acc.map ŀ).length<16777216:=by simp;omega
  refine⟨(u,1+f / 7 % 999999999,os),.sh (.int c),.sh (.tup [.int (c / 12 % 5-2),.int (c / 60 % 5-2),.int (1+f / 36 % 3)]),.sh (.int m),.ow (xs.map .int),.sh (.lst (os.map cQ)),.sh (.str u),⟨by dsimp only;omega,o2⟩,?_⟩
  have e2:(acc ++ [((u,1+f / 7 % 999999999,os):Dy)]).map ŀ=acc.map ŀ ++ [.tup [.str u,.int (1+f / 7 % 999999999),.lst (os.map cQ)]]:=by simp[ŀ]
  rw[e2]
  clear e2 o1 o2 x2
  generalize (List.range m).map (λ(i:Nat)=>PV.int (i:Int))=RR at *
  generalize os.map cQ=OS at *
  generalize acc.map ŀ=AC at *
  generalize xs.map PV.int=XS at *
  generalize ns.map PV.int=NS at *
  generalize nmV k=nm at *
  rcases Ws with rfl|rfl
  ·simp at z3
   simp[jl,hc,hm,z3.symm,x1,rr,iU,iT,o3,ui,u1,u2,hla,-Zr]
  ·simp at z3
   simp[jl,hc,hm,z3.symm,x1,rr,iU,iT,o3,ui,u1,u2,hla,-Zr]
 by_cases h1:lg=1
 ·exact hw (1+c % 24) (by omega) (by omega) (by rw[if_pos h1])
 ·refine hw (1+c % 4+c / 4 % 3*(f / 3 % 4 / 3)) ?_ ?_ (by rw[if_neg h1])
  ·have:f / 3 % 4 / 3=0\/f / 3 % 4 / 3=1:=by omega
   rcases this with e|e<;>rw[e]<;>omega
  ·have:f / 3 % 4 / 3=0\/f / 3 % 4 / 3=1:=by omega
   rcases this with e|e<;>rw[e]<;>omega
theorem Z00(ns:List Int)(A:Nat)(f lg:Int)(Ws:lg=0\/lg=1)(s2:P.Slot):∀(ks:List Nat) (acc:List Dy) (s6 s7 s8 s9 Ÿ Cq s12:P.Slot),(∀k∈ks,k<12)->acc.length+ks.length<=100->∃(D:List Dy) (Iv Ii Ij Ik jt Il Im:P.Slot),D.length=ks.length/\(∀d∈D,tK d)/\
 forL (gN 6) jl (ks.map λ(i:Nat)=>PV.int (i:Int)) [.sh (.lst (ns.map .int)),.sh (.int (A:Nat)),s2,.sh (.int f),.ow (acc.map ŀ),.sh (.int lg),s6,s7,s8,s9,Ÿ,Cq,s12]=.ok .nx [.sh (.lst (ns.map .int)),.sh (.int (A:Nat)),s2,.sh (.int f),.ow ((acc++D).map ŀ),.sh (.int lg),Iv,Ii,Ij,Ik,jt,Il,Im]
 | [],acc,s6,s7,s8,s9,Ÿ,Cq,s12,_,_=>⟨[],s6,s7,s8,s9,Ÿ,Cq,s12,rfl,by simp,by simp[forL]⟩
 |k::ks,acc,s6,s7,s8,s9,Ÿ,Cq,s12,hk,hl=>by
  obtain⟨d,a7,a8,a9,a10,a11,a12,hd,e1⟩:=Z0B ns A k (hk k List.mem_cons_self) f lg Ws s2 acc (by simp at hl;omega) s7 s8 s9 Ÿ Cq s12
  obtain⟨D,b6,b7,b8,b9,b10,b11,b12,h1,h2,e2⟩:=Z00 ns A f lg Ws s2 ks (acc ++ [d]) (.sh (.int k)) a7 a8 a9 a10 a11 a12 (λx hx=>hk x (List.mem_cons_of_mem _ hx)) (by simp at hl ⊢;omega)
  refine⟨d::D,b6,b7,b8,b9,b10,b11,b12,by simp[h1],?_,?_⟩
  ·intro x hx
   rcases List.mem_cons.mp hx with rfl|hx
   ·exact hd
   ·exact h2 x hx
  ·rw[List.append_assoc] at e2
   rw[List.map_cons,forL]
   have g1:gN 6 (.int (k:Int)) [.sh (.lst (ns.map .int)),.sh (.int (A:Nat)),s2,.sh (.int f),.ow (acc.map ŀ),.sh (.int lg),s6,s7,s8,s9,Ÿ,Cq,s12]=some [.sh (.lst (ns.map .int)),.sh (.int (A:Nat)),s2,.sh (.int f),.ow (acc.map ŀ),.sh (.int lg),.sh (.int k),s7,s8,s9,Ÿ,Cq,s12]:=rfl
   rw[g1]
   dsimp only
   rw[e1]
   exact e2
def Z1b(ns:List Int)(A:Nat):∃D:List Dy,D.length<=12/\(∀d∈D,tK d)/\g_ [.sh (.lst (ns.map .int)),.sh (.int (A:Nat)),.sh (.int 4)]=.ret (.ow (D.map ŀ)):=by
 have hc:=Zn ns A
 generalize ns.getD A 0=c at hc
 obtain⟨f,hf⟩:∃f,c % 1000000000000=f:=⟨_,rfl⟩
 by_cases h9:f / 16144 % 16=9
 ·refine⟨[],by simp,by simp,?_⟩
  by_cases h3:f / 1009 % 16=3
  ·simp[g_,nO,List.replicate,hc,hf,h9,h3,rE]
  ·simp[g_,nO,List.replicate,hc,hf,h9,h3,rE]
 ·have key:∀(lg:Int) (m:Int),(lg=0∨lg=1)→(m=4∨m=12)→(m=if lg=1 then 12 else 4)→(lg=if f / 1009 % 16=3 then 1 else 0)→∃D:List Dy,D.length≤12∧(∀d∈D,tK d)∧g_ [.sh (.lst (ns.map .int)),.sh (.int (A:Nat)),.sh (.int 4)]=.ret (.ow (D.map ŀ)):=by
   intro lg m Ws hm hi hq
   have hm0:m≠0:=by omega
   have b1:0<=f % m:=Int.emod_nonneg _ hm0
   have b2:f % m<m:=Int.emod_lt_of_pos _ (by omega)
   obtain⟨n,hn⟩:∃n:Nat,1+f % m=n:=⟨(1+f % m).toNat,by omega⟩
   have Zdg:n<=12:=by omega
   obtain⟨D,b6,b7,b8,b9,b10,b11,b12,h1,h2,e⟩:=Z00 ns A f lg Ws (.sh (.int 4)) (List.range n) [] .no .no .no .no .no .no .no (by intro k hk;have:=List.mem_range.mp hk;omega) (by simp;omega)
   refine⟨D,by rw[h1];simpa using Zdg,h2,?_⟩
   have rr:=ZU (n:=n) (by omega)
   rw[List.map_nil,List.nil_append] at e
   generalize (List.range n).map (λ(i:Nat)=>PV.int (i:Int))=RR at *
   generalize D.map ŀ=DV at *
   generalize ns.map PV.int=NS at *
   by_cases h3:f / 1009 % 16=3
   ·rw[if_pos h3] at hq
    subst hq
    rw[if_pos rfl] at hi
    subst hi
    simp[g_,nO,List.replicate,hc,hf,h9,h3,rE,hn,rr,e,-Zr]
   ·rw[if_neg h3] at hq
    subst hq
    rw[if_neg (by decide)] at hi
    subst hi
    simp[g_,nO,List.replicate,hc,hf,h9,h3,rE,hn,rr,e,-Zr]
  by_cases h3:f / 1009 % 16=3
  ·exact key 1 12 (.inr rfl) (.inr rfl) (by rw[if_pos rfl]) (by rw[if_pos h3])
  ·exact key 0 4 (.inl rfl) (.inl rfl) (by rw[if_neg (by decide)]) (by rw[if_neg h3])
def Z0P(x y:Int)(hx: -4<=x/\x<=4)(hy: -4<=y/\y<=4)(z:Int)(hz:1<=z/\z<=9):Zb [x,y,x+30,y+30,z]=true:=by
 simp[Zb,Zk,Ų,Lx]
 omega
def Z0k(c:Int):∃T:List Th,T.length<=1/\Ce [.sh (.int c)]=.ret (.ow (T.map Cp)):=by
 obtain⟨f,hf⟩:∃f,c % 1000000000=f:=⟨_,rfl⟩
 by_cases h:f % 2=0
 ·refine⟨[],by simp,?_⟩
  simp[Ce,Hh,List.replicate,hf,h]
 ·have key:∀w:Str,PyData.strOk w=true→(ZQ w [f / 2 % 9-4,f / 18 % 9-4,f / 2 % 9-4+30,f / 18 % 9-4+30,1+f / 324 % 9]=true)→ę (.lst [.str "house",.str "sail"]) (.int (f / 162 % 2))=some (.str w)→∃T:List Th,T.length≤1∧Ce [.sh (.int c)]=.ret (.ow (T.map Cp)):=by
   intro w hw hg hi
   have te:=Z0N hw (xs:=[f / 2 % 9-4,f / 18 % 9-4,f / 2 % 9-4+30,f / 18 % 9-4+30,1+f / 324 % 9]) (sl:=.sh (.lst ([f / 2 % 9-4,f / 18 % 9-4,f / 2 % 9-4+30,f / 18 % 9-4+30,1+f / 324 % 9].map .int))) (.inl rfl)
   rw[if_pos hg] at te
   refine⟨[(w,[f / 2 % 9-4,f / 18 % 9-4,f / 2 % 9-4+30,f / 18 % 9-4+30,1+f / 324 % 9])],by simp,?_⟩
   have te':fj [.sh (.str w),.sh (.lst [.int (f / 2 % 9-4),.int (f / 18 % 9-4),.int (f / 2 % 9-4+30),.int (f / 18 % 9-4+30),.int (1+f / 324 % 9)])]=.ret (.sh (Cp (w,[f / 2 % 9-4,f / 18 % 9-4,f / 2 % 9-4+30,f / 18 % 9-4+30,1+f / 324 % 9]))):=te
   rw[List.map_cons,List.map_nil]
   generalize Cp (w,[f / 2 % 9-4,f / 18 % 9-4,f / 2 % 9-4+30,f / 18 % 9-4+30,1+f / 324 % 9])=TV at *
   simp[Ce,Hh,List.replicate,hf,h,hi,te',-wU]
  have hb:=Z0P (f / 2 % 9-4) (f / 18 % 9-4) (by omega) (by omega) (1+f / 324 % 9) (by omega)
  have h2:f / 162 % 2=0\/f / 162 % 2=1:=by omega
  rcases h2 with e|e
  ·refine key "house" s5 ?_ (by rw[e];rfl)
   unfold ZQ
   rw[if_neg (by rw[d51];exact id),if_neg (by rw[d52];exact id),if_neg (by rw[d53];exact id),if_neg (by rw[d54];exact id),if_pos rfl]
   exact hb
  ·refine key "sail" s3 ?_ (by rw[e];rfl)
   unfold ZQ
   rw[if_neg (by rw[d31];exact id),if_neg (by rw[d32];exact id),if_pos rfl]
   exact hb
def Zc(q:P3)(r:P3):Int×Int:=((r.2.2*q.1+r.1*q.2.2+r.2.2) / (2*r.2.2),(r.2.2*q.2.1+r.2.1*q.2.2+r.2.2) / (2*r.2.2))
def Z1j(q:P3){r:P3}(h:RG r):zV [.sh (c3 q),.sh (c3 r)]=.ret (.sh (.tup [.int (Zc q r).1,.int (Zc q r).2])):=by
 obtain⟨x,y,z⟩:=q
 obtain⟨a,b,c⟩:=r
 obtain⟨a1,a2,b1,b2,c1,c2⟩:=h
 dsimp only at a1 a2 b1 b2 c1 c2
 have mc:∀x,ō c x=true:=λx=>cH (by omega) (by omega)
 have ma:∀x,ō a x=true:=λx=>cH (by omega) (by omega)
 have mb:∀x,ō b x=true:=λx=>cH (by omega) (by omega)
 have hf:∀x,gD x (2*c)=true:=λx=>Fe (by omega) (by omega) (by omega)
 have he:∀x:Int,x.fdiv (2*c)=x / (2*c):=λx=>Int.fdiv_eq_ediv_of_nonneg x (by omega)
 have h1:zU [.sh (.tup [.int x,.int y,.int z]),.sh (.tup [.int a,.int b,.int c])]=.ret (.sh (.tup [.int (c*x+a*z),.int (c*y+b*z)])):=by
  simp[zU,Hq,List.replicate,mc,ma,mb]
 simp[zV,Hr,List.replicate,c3,h1,hf,he,Zc]
abbrev En:=Nat×Nat×Int×Int
def au(e:En):PV:=.tup [.int e.1,.int e.2.1,.tup [.int e.2.2.1,.int e.2.2.2]]
def Zg(q:P3)(d:Nat):Nat->List (Option P3)->List En
 |_,[]=>[]
 |t,none::r=>Zg q d (t+1) r
 |t,some x::r=>(d,t,Zc q x)::Zg q d (t+1) r
def Z8(q:P3):Nat->List Dy->List En
 |_,[]=>[]
 |d,x::D=>Zg q d 0 x.2.2++Z8 q (d+1) D
theorem Zv(q:P3)(d:Nat):∀(os:List (Option P3)) (t:Nat),(Zg q d t os).length<=os.length
 | [],t=>by simp[Zg]
 |none::r,t=>by have:=Zv q d r (t+1);simp[Zg];omega
 |some x::r,t=>by have:=Zv q d r (t+1);simp[Zg];omega
theorem Zw(q:P3):∀(D:List Dy) (d:Nat),(∀x∈D,tK x)->(Z8 q d D).length<=D.length*24
 | [],d,_=>by simp[Z8]
 |x::D,d,h=>by
  have h1:=Zw q D (d+1) λy hy=>h y (List.mem_cons_of_mem _ hy)
  have h2:=Zv q d x.2.2 0
  have h3:=(h x List.mem_cons_self).1
  simp[Z8]
  omega
theorem ZC(q:P3)(d:Nat)(s0:P.Slot):∀(os:List (Option P3)) (t:Nat) (acc:List En) (s4 s5:P.Slot),(∀o∈os,OG o)->acc.length+os.length<=1000000->∃VR Cv,forL (gT 2 (Č (gN 4) (Č (gN 5) Ō))) qG (dz t (os.map cQ)) [s0,.sh (c3 q),.ow (acc.map au),.sh (.int d),s4,s5]=.ok .nx [s0,.sh (c3 q),.ow ((acc++Zg q d t os).map au),.sh (.int d),VR,Cv]
 | [],t,acc,s4,s5,_,_=>⟨s4,s5,by simp[forL,dz,Zg]⟩
 |none::os,t,acc,s4,s5,ho,hl=>by
  obtain⟨a,b,e⟩:=ZC q d s0 os (t+1) acc (.sh (.int t)) (.sh .non) (λo h=>ho o (List.mem_cons_of_mem _ h)) (by simp at hl;omega)
  refine⟨a,b,?_⟩
  rw[List.map_cons,Zg]
  show forL _ _ (.tup [.int t,.non]::dz (t+1) (os.map cQ)) _=_
  rw[forL]
  have g1:gT 2 (Č (gN 4) (Č (gN 5) Ō)) (.tup [.int (t:Int),.non]) [s0,.sh (c3 q),.ow (acc.map au),.sh (.int d),s4,s5]=some [s0,.sh (c3 q),.ow (acc.map au),.sh (.int d),.sh (.int t),.sh .non]:=by simp
  rw[g1]
  dsimp only
  have e1:qG [s0,.sh (c3 q),.ow (acc.map au),.sh (.int d),.sh (.int t),.sh .non]=.ok .nx [s0,.sh (c3 q),.ow (acc.map au),.sh (.int d),.sh (.int t),.sh .non]:=by simp[qG,pX]
  rw[e1]
  exact e
 |some r::os,t,acc,s4,s5,ho,hl=>by
  have he:=Z1j q (ho _ List.mem_cons_self r rfl)
  obtain⟨a,b,e⟩:=ZC q d s0 os (t+1) (acc ++ [(d,t,Zc q r)]) (.sh (.int t)) (.sh (c3 r)) (λo h=>ho o (List.mem_cons_of_mem _ h)) (by simp at hl ⊢;omega)
  have hla:(acc.map au).length<16777216:=by simp at hl ⊢;omega
  refine⟨a,b,?_⟩
  rw[List.append_assoc] at e
  rw[List.map_cons,Zg]
  show forL _ _ (.tup [.int t,c3 r]::dz (t+1) (os.map cQ)) _=_
  rw[forL]
  have g1:gT 2 (Č (gN 4) (Č (gN 5) Ō)) (.tup [.int (t:Int),c3 r]) [s0,.sh (c3 q),.ow (acc.map au),.sh (.int d),s4,s5]=some [s0,.sh (c3 q),.ow (acc.map au),.sh (.int d),.sh (.int t),.sh (c3 r)]:=by simp
  rw[g1]
  dsimp only
  have e1:qG [s0,.sh (c3 q),.ow (acc.map au),.sh (.int d),.sh (.int t),.sh (c3 r)]=.ok .nx [s0,.sh (c3 q),.ow ((acc ++ [(d,t,Zc q r)]).map au),.sh (.int d),.sh (.int t),.sh (c3 r)]:=by
   rw[List.map_append]
   have hn:pX (c3 r)=false:=rfl
   generalize acc.map au=AC at *
   generalize hq:c3 r=C at *
   generalize c3 q=Q at *
   simp[qG,hn,he,hla,au]
  rw[e1]
  exact e
def Z0Q{w h:Int}{T:List Th}{D:List Dy}{i:Nat}{x:Dy}(hi:D[i]?=some x):vI [.sh (Z0 w h T D),.sh (.int i)]=.ret (.sh (.lst (x.2.2.map cQ))):=by
 obtain⟨h1,h2⟩:=List.getElem?_eq_some_iff.mp hi
 have:=Z0z (w:=w) (h:=h) (T:=T) h1
 rw[h2] at this
 exact this
theorem Z01{w h:Int}{T:List Th}{D:List Dy}(q:P3)(hD:∀x∈D,tK x):∀(r:List Dy) (d:Nat) (acc:List En) (s3 s4 s5:P.Slot),D.drop d=r->acc.length+r.length*24<=100000->∃s3' VR Cv,forL (gN 3) zW ((List.range' d r.length).map λ(i:Nat)=>PV.int (i:Int)) [.sh (Z0 w h T D),.sh (c3 q),.ow (acc.map au),s3,s4,s5]=.ok .nx [.sh (Z0 w h T D),.sh (c3 q),.ow ((acc++Z8 q d r).map au),s3',VR,Cv]
 | [],d,acc,s3,s4,s5,_,_=>⟨s3,s4,s5,by simp[forL,Z8]⟩
 |x::r,d,acc,s3,s4,s5,hr,hl=>by
  have hx:D[d]?=some x:=by
   have:=congrArg (λl=>l[0]?) hr
   simpa using this
  have hr':D.drop (d+1)=r:=by
   have:=congrArg List.tail hr
   simpa using this
  have hk:=hD x (List.mem_of_getElem? hx)
  have tu:=Z0Q (w:=w) (h:=h) (T:=T) hx
  obtain⟨a,b,e1⟩:=ZC q d (.sh (Z0 w h T D)) x.2.2 0 acc s4 s5 hk.2 (by have:=hk.1;simp at hl;omega)
  have hz:=Zv q d x.2.2 0
  obtain⟨a3,a4,a5,e2⟩:=Z01 (w:=w) (h:=h) (T:=T) q hD r (d+1) (acc++Zg q d 0 x.2.2) (.sh (.int d)) a b hr' (by have:=hk.1;simp at hl ⊢;omega)
  refine⟨a3,a4,a5,?_⟩
  rw[List.append_assoc] at e2
  rw[List.length_cons,List.range'_succ,List.map_cons,forL]
  have g1:gN 3 (.int (d:Int)) [.sh (Z0 w h T D),.sh (c3 q),.ow (acc.map au),s3,s4,s5]=some [.sh (Z0 w h T D),.sh (c3 q),.ow (acc.map au),.sh (.int d),s4,s5]:=rfl
  rw[g1]
  dsimp only
  have e3:zW [.sh (Z0 w h T D),.sh (c3 q),.ow (acc.map au),.sh (.int d),s4,s5]=.ok .nx [.sh (Z0 w h T D),.sh (c3 q),.ow ((acc++Zg q d 0 x.2.2).map au),.sh (.int d),a,b]:=by
   generalize (acc++Zg q d 0 x.2.2).map au=AE at *
   generalize acc.map au=AC at *
   generalize x.2.2.map cQ=OS at *
   generalize Z0 w h T D=Yv at *
   generalize c3 q=Q at *
   simp[zW,tu,e1]
  rw[e3]
  exact e2
def Z1k{w h:Int}{T:List Th}{D:List Dy}(q:P3)(hD:∀x∈D,tK x)(hl:D.length<=12):Lj [.sh (Z0 w h T D),.sh (c3 q)]=.ret (.ow ((Z8 q 0 D).map au)):=by
 obtain⟨a,b,c,e⟩:=Z01 (w:=w) (h:=h) (T:=T) q hD D 0 [] .no .no .no rfl (by simp;omega)
 have yd:=y_d w h T D
 have rr:=ZU (n:=D.length) (by omega)
 have hl:(D.map ŀ).length=D.length:=by simp
 rw[List.nil_append,List.map_nil,<-List.range_eq_range'] at e
 generalize (Z8 q 0 D).map au=Q at *
 generalize Z0 w h T D=Yv at *
 generalize (List.range D.length).map (λ(i:Nat)=>PV.int (i:Int))=RR at *
 generalize D.map ŀ=DV at *
 generalize c3 q=QQ at *
 simp[Lj,Ot,List.replicate,yd,hl,rr,e]
section
variable{α β:Type}[DecidableEq α]
def tM(K:List (α×β))(a:α):Option β:= (K.find? λp=>decide (p.1=a)).map (·.2)
def Z1(f:α->DK)(g:β->PV)(K:List (α×β)):List (DK×PV):=K.map λx=>(f x.1,g x.2)
variable{f:α->DK}{g:β->PV}
def ZF{p:α×β}{K:List (α×β)}{a:α}(e:p.1=a):tM (p::K) a=some p.2:=by simp[tM,List.find?_cons,e]
def ZG{p:α×β}{K:List (α×β)}{a:α}(e:¬p.1=a):tM (p::K) a=tM K a:=by simp[tM,List.find?_cons,e]
def Z0a{p:DK×PV}{K:List (DK×PV)}{a:DK}(e:p.1=a):dval (p::K) a=some p.2:=by simp[dval,List.find?_cons,e]
def Z0b{p:DK×PV}{K:List (DK×PV)}{a:DK}(e:¬p.1=a):dval (p::K) a=dval K a:=by simp[dval,List.find?_cons,e]
theorem Zo(a:α):∀K:List (α×β),(∀x∈K,f x.1=f a->x.1=a)->dval (Z1 f g K) (f a)=(tM K a).map g
 | [],_=>rfl
 |p::K,h=>by
  have ih:=Zo a K λx hx=>h x (List.mem_cons_of_mem _ hx)
  by_cases e:p.1=a
  ·rw[ZF e]
   exact Z0a (p:=(f p.1,g p.2)) (by rw[e])
  ·rw[ZG e,<-ih]
   exact Z0b (p:=(f p.1,g p.2)) λz=>e (h p List.mem_cons_self z)
theorem ZK(a:DK):∀K:List (DK×PV),(K.any λkv=>decide (kv.1=a))=(dval K a).isSome
 | []=>rfl
 |p::K=>by
  by_cases e:p.1=a
  ·rw[Z0a e,List.any_cons,decide_eq_true e];rfl
  ·rw[Z0b e,List.any_cons,decide_eq_false e,ZK a K];rfl
def ZL{a:α}{K:List (α×β)}{v:β}(h:∀x∈K,f x.1=f a->x.1=a)(hn:tM K a=none):dput (Z1 f g K) (f a) (g v)=Z1 f g (K ++ [(a,v)]):=by
 unfold dput
 rw[ZK,Zo a K h,hn,if_neg (by simp)]
 simp[Z1]
theorem Z0m{a:α}{v:β}:∀{K:List (α×β)},(K.map (·.1)).Nodup->tM K a=some v->∀x∈K,x.1=a->x.2=v
 | [],_,_,x,hx,_=>nomatch hx
 |p::K,hn,hv,x,hx,ex=>by
  rw[List.map_cons,List.nodup_cons] at hn
  by_cases e:p.1=a
  ·rw[ZF e] at hv
   cases hv
   rcases List.mem_cons.mp hx with rfl|hx
   ·rfl
   ·exact absurd (List.mem_map.mpr ⟨x,hx,by rw[ex,e]⟩) hn.1
  ·rw[ZG e] at hv
   rcases List.mem_cons.mp hx with rfl|hx
   ·exact absurd ex e
   ·exact Z0m hn.2 hv x hx ex
def Z0R{a:α}{K:List (α×β)}{v:β}{p:PV}(h:∀x∈K,f x.1=f a->x.1=a)(hn:(K.map (·.1)).Nodup)(hv:tM K a=some v)(hp:g v=p):dput (Z1 f g K) (f a) p=Z1 f g K:=by
 unfold dput
 rw[ZK,Zo a K h,hv,if_pos (by simp)]
 conv=>rhs;rw[<-List.map_id (Z1 f g K)]
 refine List.map_congr_left λkv hk=>?_
 obtain⟨x,hx,rfl⟩:=List.mem_map.mp hk
 by_cases e:f x.1=f a
 ·have:=Z0m hn hv x hx (h x hx e)
  rw[if_pos e,<-hp,this];rfl
 ·rw[if_neg e];rfl
theorem Z0c{a:α}:∀{K:List (α×β)},tM K a=none->a∉K.map (·.1)
 | [],_=>by simp
 |p::K,h=>by
  by_cases e:p.1=a
  ·rw[ZF e] at h;cases h
  ·rw[ZG e] at h
   rw[List.map_cons,List.mem_cons]
   rintro (z|z)
   ·exact e z.symm
   ·exact Z0c h z
end
abbrev Sn:=Int×Int
abbrev TT:=Nat×Nat
def bT(W H:Int)(s:Sn):Prop:=0<=s.1/\s.1<W/\0<=s.2/\s.2<H
instance(W H:Int)(s:Sn):Decidable (bT W H s):=by unfold bT;infer_instance
def num(W:Int)(s:Sn):Int:=s.2*W+s.1
def Z1c{W H:Int}{s u:Sn}(h1:bT W H s)(h2:bT W H u)(e:num W s=num W u):s=u:=by
 obtain⟨a,b⟩:=s
 obtain⟨c,d⟩:=u
 obtain⟨x1,x2,x3,x4⟩:=h1
 obtain⟨y1,y2,y3,y4⟩:=h2
 unfold num at e
 dsimp only at *
 have e1:(b*W+a) / W=b:=by rw[Int.add_comm,Int.add_mul_ediv_right _ _ (by omega),Int.ediv_eq_zero_of_lt x1 x2,Int.zero_add]
 have e2:(d*W+c) / W=d:=by rw[Int.add_comm,Int.add_mul_ediv_right _ _ (by omega),Int.ediv_eq_zero_of_lt y1 y2,Int.zero_add]
 rw[e,e2] at e1
 subst e1
 have:a=c:=by omega
 rw[this]
def Ť(s:Sn):PV:=.tup [.int s.1,.int s.2]
def Ř(s:TT):PV:=.tup [.int s.1,.int s.2]
def stK(e:En):Sn:=e.2.2
def xY(e:En):TT:=(e.1,e.2.1)
def Z9(s:Sn):DK:=.inr [s.1,s.2]
def Z3(W:Int)(s:Sn):DK:=.inl (num W s)
def Z0S{s u:Sn}(h:Z9 s=Z9 u):s=u:=by
 unfold Z9 at h
 injection h with h
 injection h with h1 h2
 injection h2 with h2
 exact Prod.ext h1 h2
def ZM{W H:Int}{s u:Sn}(h1:bT W H s)(h2:bT W H u)(h:Z3 W s=Z3 W u):s=u:=by
 unfold Z3 at h
 injection h with h
 exact Z1c h1 h2 h
def Zp(e:En):PV:=.tup [.str "off",.int e.1,.int e.2.1]
def Io(a:TT×TT):PV:=.tup [.str "alike",Ř a.1,Ř a.2]
def Z1w{w h:Int}{T:List Th}{D:List Dy}(s:Sn):jJ [.sh (Z0 w h T D),.sh (Ť s)]=.ret (.sh (.bl (decide (bT w h s)))):=by
 have yw:=y_w w h T D
 have yh:=y_h w h T D
 generalize Z0 w h T D=Yv at *
 obtain⟨a,b⟩:=s
 unfold bT
 dsimp only
 by_cases h1:0<=a
 ·by_cases h2:a<w
  ·by_cases h3:0<=b
   ·by_cases h4:b<h
    ·simp[jJ,jo,List.replicate,Ť,yw,yh,h1,h2,h3,h4]
    ·simp[jJ,jo,List.replicate,Ť,yw,yh,h1,h2,h3,h4]
   ·simp[jJ,jo,List.replicate,Ť,yw,yh,h1,h2,h3]
  ·simp[jJ,jo,List.replicate,Ť,yw,yh,h1,h2]
 ·simp[jJ,jo,List.replicate,Ť,yw,yh,h1]
def Za(W H:Int)(e:En):Bool:=!decide (bT W H (stK e))
theorem Z0d{w h:Int}{T:List Th}{D:List Dy}(s1:P.Slot):∀(E:List En) (s2 s3 s4:P.Slot),∃ρ',forL (gT 3 (Č (gN 2) (Č (gN 3) (Č (gN 4) Ō)))) jq (E.map au) [.sh (Z0 w h T D),s1,s2,s3,s4]=(match E.find? (Za w h) with
 |some e=>.ok (.rt (.sh (Zp e))) ρ'
 |none=>.ok .nx ρ')
 | [],s2,s3,s4=>⟨_,rfl⟩
 |e::E,s2,s3,s4=>by
  have hs:=Z1w (w:=w) (h:=h) (T:=T) (D:=D) (stK e)
  rw[List.map_cons,forL]
  have g1:gT 3 (Č (gN 2) (Č (gN 3) (Č (gN 4) Ō))) (au e) [.sh (Z0 w h T D),s1,s2,s3,s4]=some [.sh (Z0 w h T D),s1,.sh (.int e.1),.sh (.int e.2.1),.sh (Ť (stK e))]:=by simp[au,Ť,stK]
  rw[g1]
  dsimp only
  obtain⟨ρ',ih⟩:=Z0d (w:=w) (h:=h) (T:=T) (D:=D) s1 E (.sh (.int e.1)) (.sh (.int e.2.1)) (.sh (Ť (stK e)))
  by_cases ho:bT w h (stK e)
  ·have e0:Za w h e=false:=by simp[Za,ho]
   rw[decide_eq_true ho] at hs
   have e1:jq [.sh (Z0 w h T D),s1,.sh (.int e.1),.sh (.int e.2.1),.sh (Ť (stK e))]=.ok .nx [.sh (Z0 w h T D),s1,.sh (.int e.1),.sh (.int e.2.1),.sh (Ť (stK e))]:=by
    generalize Z0 w h T D=Yv at *
    generalize Ť (stK e)=S at *
    simp[jq,hs]
   rw[e1,List.find?_cons,e0]
   exact⟨ρ',ih⟩
  ·have e0:Za w h e=true:=by simp[Za,ho]
   rw[decide_eq_false ho] at hs
   have e1:jq [.sh (Z0 w h T D),s1,.sh (.int e.1),.sh (.int e.2.1),.sh (Ť (stK e))]=.ok (.rt (.sh (Zp e))) [.sh (Z0 w h T D),s1,.sh (.int e.1),.sh (.int e.2.1),.sh (Ť (stK e))]:=by
    generalize Z0 w h T D=Yv at *
    generalize Ť (stK e)=S at *
    simp[jq,hs,Zp]
   rw[e1,List.find?_cons,e0]
   exact⟨_,rfl⟩
theorem Z1l{w h:Int}{T:List Th}{D:List Dy}(E:List En):vJ [.sh (Z0 w h T D),.bw (E.map au)]=.ret (.sh (match E.find? (Za w h) with
 |some e=>Zp e
 |none=>.non)):=by
 obtain⟨ρ',e⟩:=Z0d (w:=w) (h:=h) (T:=T) (D:=D) (.bw (E.map au)) E .no .no .no
 cases hf:E.find? (Za w h) with
 |some x=>
  rw[hf] at e
  dsimp only at e ⊢
  generalize Z0 w h T D=Yv at *
  generalize E.map au=EV at *
  simp[vJ,xV,List.replicate,e]
 |none=>
  rw[hf] at e
  dsimp only at e ⊢
  generalize Z0 w h T D=Yv at *
  generalize E.map au=EV at *
  simp[vJ,xV,List.replicate,e]
abbrev fK:=List (Sn×TT)
def Z6:List En->fK->Option (TT×TT)
 | [],_=>none
 |e::r,K=>match tM K (stK e) with
  |none=>Z6 r (K ++ [(stK e,xY e)])
  |some v=>if v.2=e.2.1 then Z6 r K else some (v,xY e)
def Z4(K:fK)(e:En):fK:=match tM K (stK e) with
 |none=>K ++ [(stK e,xY e)]
 |some _=>K
theorem Zx(s0:P.Slot):∀(E:List En) (K:fK) (s2 s3 s4 s5:P.Slot),K.length+E.length<=100000->∃ρ',forL (gT 3 (Č (gN 2) (Č (gN 3) (Č (gN 4) Ō)))) jK (E.map au) [s0,.od true (Z1 Z9 Ř K),s2,s3,s4,s5]=(match Z6 E K with
 |some a=>.ok (.rt (.sh (Io a))) ρ'
 |none=>.ok .nx ρ')
 | [],K,s2,s3,s4,s5,_=>⟨_,rfl⟩
 |e::E,K,s2,s3,s4,s5,hl=>by
  have hi:∀x∈K,Z9 x.1=Z9 (stK e)->x.1=stK e:=λ_ _ h=>Z0S h
  have hv:=Zo (g:=Ř) (stK e) K hi
  have hk:BK true (Ť (stK e))=some (Z9 (stK e)):=rfl
  have hlen:(Z1 Z9 Ř K).length<16777216:=by simp[Z1] at hl ⊢;omega
  rw[List.map_cons,forL]
  have g1:gT 3 (Č (gN 2) (Č (gN 3) (Č (gN 4) Ō))) (au e) [s0,.od true (Z1 Z9 Ř K),s2,s3,s4,s5]=some [s0,.od true (Z1 Z9 Ř K),.sh (.int e.1),.sh (.int e.2.1),.sh (Ť (stK e)),s5]:=by simp[au,Ť,stK]
  rw[g1]
  dsimp only
  have ht:PV.tup [.int e.1,.int e.2.1]=Ř (xY e):=rfl
  cases hx:tM K (stK e) with
  |none=>
   rw[hx] at hv
   obtain⟨ρ',ih⟩:=Zx s0 E (K ++ [(stK e,xY e)]) (.sh (.int e.1)) (.sh (.int e.2.1)) (.sh (Ť (stK e))) (.sh (Ř (xY e))) (by simp at hl ⊢;omega)
   have hp:=ZL (g:=Ř) (v:=xY e) hi hx
   have e1:jK [s0,.od true (Z1 Z9 Ř K),.sh (.int e.1),.sh (.int e.2.1),.sh (Ť (stK e)),s5]=.ok .nx [s0,.od true (Z1 Z9 Ř (K ++ [(stK e,xY e)])),.sh (.int e.1),.sh (.int e.2.1),.sh (Ť (stK e)),.sh (Ř (xY e))]:=by
    rw[<-hp]
    have hix:ę (Ř (xY e)) (.int 1)=some (.int e.2.1):=rfl
    generalize Ť (stK e)=S at *
    generalize Z1 Z9 Ř K=EK at *
    generalize Z9 (stK e)=KS at *
    simp[jK,hk,hv,hlen,ht,hix]
   rw[e1]
   refine⟨ρ',?_⟩
   simp only[Z6,hx]
   exact ih
  |some v=>
   rw[hx,Option.map_some] at hv
   have hix:ę (Ř v) (.int 1)=some (.int v.2):=rfl
   by_cases h:v.2=e.2.1
   ·obtain⟨ρ',ih⟩:=Zx s0 E K (.sh (.int e.1)) (.sh (.int e.2.1)) (.sh (Ť (stK e))) (.sh (Ř v)) (by simp at hl ⊢;omega)
    have e1:jK [s0,.od true (Z1 Z9 Ř K),.sh (.int e.1),.sh (.int e.2.1),.sh (Ť (stK e)),s5]=.ok .nx [s0,.od true (Z1 Z9 Ř K),.sh (.int e.1),.sh (.int e.2.1),.sh (Ť (stK e)),.sh (Ř v)]:=by
     generalize Ť (stK e)=S at *
     generalize Z1 Z9 Ř K=EK at *
     generalize Z9 (stK e)=KS at *
     generalize Ř v=VV at *
     simp[jK,hk,hv,hix,h]
    rw[e1]
    refine⟨ρ',?_⟩
    simp only[Z6,hx,h]
    exact ih
   ·have h':¬(v.2:Int)=(e.2.1:Int):=λz=>h (by omega)
    have e1:jK [s0,.od true (Z1 Z9 Ř K),.sh (.int e.1),.sh (.int e.2.1),.sh (Ť (stK e)),s5]=.ok (.rt (.sh (Io (v,xY e)))) [s0,.od true (Z1 Z9 Ř K),.sh (.int e.1),.sh (.int e.2.1),.sh (Ť (stK e)),.sh (Ř v)]:=by
     unfold Io
     rw[<-ht]
     generalize Ť (stK e)=S at *
     generalize Z1 Z9 Ř K=EK at *
     generalize Z9 (stK e)=KS at *
     dsimp only
     generalize Ř v=VV at *
     simp[jK,hk,hv,hix,h,h']
    rw[e1]
    refine⟨[s0,.od true (Z1 Z9 Ř K),.sh (.int e.1),.sh (.int e.2.1),.sh (Ť (stK e)),.sh (Ř v)],?_⟩
    simp only[Z6,hx,if_neg h]
    rfl
theorem Z0T(E:List En)(hl:E.length<=1000):Ht [.bw (E.map au)]=.ret (.sh (match Z6 E [] with
 |some a=>Io a
 |none=>.non)):=by
 obtain⟨ρ',e⟩:=Zx (.bw (E.map au)) E [] .no .no .no .no (by simp;omega)
 have e0:Z1 Z9 Ř []=[]:=rfl
 rw[e0] at e
 cases hf:Z6 E [] with
 |some x=>
  rw[hf] at e
  dsimp only at e ⊢
  generalize E.map au=EV at *
  simp[Ht,Hs,List.replicate,e]
 |none=>
  rw[hf] at e
  dsimp only at e ⊢
  generalize E.map au=EV at *
  simp[Ht,Hs,List.replicate,e]
def vX(v:TT):PV:=.int v.2
def Z1m(s:Sn)(w:Int)(hw:0<=w/\w<=1000):zZ [.sh (Ť s),.sh (.int w)]=.ret (.sh (.int (num w s))):=by
 have mb:ō s.2 w=true:=mul_r (by omega) (by omega)
 simp[zZ,Hu,List.replicate,Ť,num,mb]
def Z0n{w h:Int}{K:fK}{e:En}(hK:∀x∈K,bT w h x.1)(he:bT w h (stK e)):∀x∈Z4 K e,bT w h x.1:=by
 intro x hx
 unfold Z4 at hx
 split at hx
 ·rcases List.mem_append.mp hx with hx|hx
  ·exact hK x hx
  ·rw[List.mem_singleton.mp hx];exact he
 ·exact hK x hx
def Z0o{K:fK}{e:En}(hK:(K.map (·.1)).Nodup):((Z4 K e).map (·.1)).Nodup:=by
 unfold Z4
 split
 ·rename_i hn
  rw[List.map_append,List.nodup_append]
  refine⟨hK,by simp,λa ha b hb z=>?_⟩
  have:b=stK e:=by simpa using hb
  exact Z0c hn (by rw[<-this,<-z];exact ha)
 ·exact hK
def Z0e(K:fK)(e:En):(Z4 K e).length<=K.length+1:=by
 unfold Z4
 split<;>simp
theorem ZR{w h:Int}{T:List Th}{D:List Dy}(hw:0<=w/\w<=1000)(s1:P.Slot):∀(E:List En) (K:fK) (s3 s4 s5:P.Slot),K.length+E.length<=100000->(∀e∈E,bT w h (stK e))->(∀x∈K,bT w h x.1)->(K.map (·.1)).Nodup->Z6 E K=none->∃s3' VR Cv,forL (gT 3 (Č (gN 3) (Č (gN 4) (Č (gN 5) Ō)))) rY (E.map au) [.sh (Z0 w h T D),s1,.od false (Z1 (Z3 w) vX K),s3,s4,s5]=.ok .nx [.sh (Z0 w h T D),s1,.od false (Z1 (Z3 w) vX (E.foldl Z4 K)),s3',VR,Cv]
 | [],K,s3,s4,s5,_,_,_,_,_=>⟨s3,s4,s5,rfl⟩
 |e::E,K,s3,s4,s5,hl,hE,hK,hN,hA=>by
  have he:=hE e List.mem_cons_self
  have hi:∀x∈K,Z3 w x.1=Z3 w (stK e)->x.1=stK e:=λx hx h=>ZM (hK x hx) he h
  have hlen:(Z1 (Z3 w) vX K).length<16777216:=by simp[Z1] at hl ⊢;omega
  have yw:=y_w w h T D
  have nu:=Z1m (stK e) w hw
  have hp:dput (Z1 (Z3 w) vX K) (.inl (num w (stK e))) (.int e.2.1)=Z1 (Z3 w) vX (Z4 K e)/\Z6 E (Z4 K e)=none:=by
   unfold Z4
   unfold Z6 at hA
   cases hx:tM K (stK e) with
   |none=>
    rw[hx] at hA
    exact⟨ZL (g:=vX) (v:=xY e) hi hx,hA⟩
   |some v=>
    rw[hx] at hA
    dsimp only at hA ⊢
    by_cases h:v.2=e.2.1
    ·rw[if_pos h] at hA
     exact⟨Z0R (g:=vX) hi hN hx (by unfold vX;rw[h]),hA⟩
    ·rw[if_neg h] at hA;cases hA
  obtain⟨a,b,c,ih⟩:=ZR (w:=w) (h:=h) (T:=T) (D:=D) hw s1 E (Z4 K e) (.sh (.int e.1)) (.sh (.int e.2.1)) (.sh (Ť (stK e))) (by have:=Z0e K e;simp at hl;omega) (λx hx=>hE x (List.mem_cons_of_mem _ hx)) (Z0n hK he) (Z0o hN) hp.2
  refine⟨a,b,c,?_⟩
  rw[List.map_cons,forL]
  have g1:gT 3 (Č (gN 3) (Č (gN 4) (Č (gN 5) Ō))) (au e) [.sh (Z0 w h T D),s1,.od false (Z1 (Z3 w) vX K),s3,s4,s5]=some [.sh (Z0 w h T D),s1,.od false (Z1 (Z3 w) vX K),.sh (.int e.1),.sh (.int e.2.1),.sh (Ť (stK e))]:=by simp[au,Ť,stK]
  rw[g1]
  dsimp only
  have e1:rY [.sh (Z0 w h T D),s1,.od false (Z1 (Z3 w) vX K),.sh (.int e.1),.sh (.int e.2.1),.sh (Ť (stK e))]=.ok .nx [.sh (Z0 w h T D),s1,.od false (Z1 (Z3 w) vX (Z4 K e)),.sh (.int e.1),.sh (.int e.2.1),.sh (Ť (stK e))]:=by
   rw[<-hp.1]
   generalize Ť (stK e)=S at *
   generalize Z1 (Z3 w) vX K=EK at *
   generalize Z0 w h T D=Yv at *
   generalize num w (stK e)=N at *
   simp[rY,yw,nu,hlen]
  rw[e1]
  exact ih
def Zh(w:Int)(K:fK):List (Int×Int):=K.map λx=>(num w x.1,(x.2.2:Int))
theorem Z0p(w:Int):∀K:fK,(∀x∈K,x.2.2<1000)->cC (Z1 (Z3 w) vX K)=some (Zh w K)
 | [],_=>rfl
 |x::K,h=>by
  have ih:=Z0p w K λy hy=>h y (List.mem_cons_of_mem _ hy)
  have h0:=h x List.mem_cons_self
  have hM:(1000:Int)<=MP:=by decide
  have hb:0<=(x.2.2:Int)/\(x.2.2:Int)<MP:=⟨by omega,by omega⟩
  show cC ((.inl (num w x.1),.int x.2.2)::Z1 (Z3 w) vX K)=_
  rw[cC,if_pos hb,ih]
  rfl
theorem Z0q{w h:Int}:∀(E:List En) (K:fK),(∀e∈E,bT w h (stK e))->(∀x∈K,bT w h x.1)->∀x∈E.foldl Z4 K,bT w h x.1
 | [],K,_,h=>h
 |e::E,K,hE,h=>Z0q E (Z4 K e) (λx hx=>hE x (List.mem_cons_of_mem _ hx)) (Z0n h (hE e List.mem_cons_self))
theorem Z0r:∀(E:List En) (K:fK),(K.map (·.1)).Nodup->((E.foldl Z4 K).map (·.1)).Nodup
 | [],K,h=>h
 |e::E,K,h=>Z0r E (Z4 K e) (Z0o h)
theorem Zy:∀(E:List En) (K:fK),(E.foldl Z4 K).length<=K.length+E.length
 | [],K=>by simp
 |e::E,K=>by have h1:=Zy E (Z4 K e);have h2:=Z0e K e;simp;omega
theorem ZV:∀(E:List En) (K:fK),(∀e∈E,e.2.1<1000)->(∀x∈K,x.2.2<1000)->∀x∈E.foldl Z4 K,x.2.2<1000
 | [],K,_,h=>h
 |e::E,K,hE,h=>ZV E (Z4 K e) (λx hx=>hE x (List.mem_cons_of_mem _ hx)) (by
  intro x hx
  unfold Z4 at hx
  split at hx
  ·rcases List.mem_append.mp hx with hx|hx
   ·exact h x hx
   ·rw[List.mem_singleton.mp hx];exact hE e List.mem_cons_self
  ·exact h x hx)
def Z0U{w h:Int}{T:List Th}{D:List Dy}(hw:0<=w/\w<=1000)(E:List En)(hl:E.length<=1000)(hE:∀e∈E,bT w h (stK e))(ht:∀e∈E,e.2.1<1000)(hA:Z6 E []=none):z_ [.sh (Z0 w h T D),.bw (E.map au)]=.ret (.ow ((aF (Zh w (E.foldl Z4 []))).map tupP)):=by
 obtain⟨a,b,c,e⟩:=ZR (w:=w) (h:=h) (T:=T) (D:=D) hw (.bw (E.map au)) E [] .no .no .no (by simp;omega) hE (by simp) (by simp) hA
 have e0:Z1 (Z3 w) vX []=[]:=rfl
 have hp:=Z0p w (E.foldl Z4 []) (ZV E [] ht (by simp))
 rw[e0] at e
 generalize E.map au=EV at *
 generalize Z0 w h T D=Yv at *
 generalize Z1 (Z3 w) vX (E.foldl Z4 [])=EK at *
 generalize Zh w (E.foldl Z4 [])=PK at *
 simp[z_,Hv,List.replicate,e,gW,hp]
theorem ZW(q:P3)(d:Nat):∀(os:List (Option P3)) (t:Nat),∀e∈Zg q d t os,e.2.1<t+os.length
 | [],t,e,h=>nomatch h
 |none::r,t,e,h=>by
  have:=ZW q d r (t+1) e h
  simp;omega
 |some x::r,t,e,h=>by
  rcases List.mem_cons.mp h with rfl|h
  ·simp
  ·have:=ZW q d r (t+1) e h
   simp;omega
theorem ZX(q:P3):∀(D:List Dy) (d:Nat),(∀x∈D,tK x)->∀e∈Z8 q d D,e.2.1<1000
 | [],d,_,e,h=>nomatch h
 |x::D,d,hD,e,h=>by
  rcases List.mem_append.mp h with h|h
  ·have:=ZW q d x.2.2 0 e h
   have:=(hD x List.mem_cons_self).1
   omega
  ·exact ZX q D (d+1) (λy hy=>hD y (List.mem_cons_of_mem _ hy)) e h
theorem Z0s{w h:Int}{T:List Th}{D:List Dy}(hw:0<=w/\w<=1000)(q:P3)(hD:∀x∈D,tK x)(hl:D.length<=12):fB [.sh (Z0 w h T D),.sh (c3 q)]=.ret (match(Z8 q 0 D).find? (Za w h) with
 |some e=>.sh (Zp e)
 |none=>match Z6 (Z8 q 0 D) [] with
  |some a=>.sh (Io a)
  |none=>.ot [.str "marks"] ((aF (Zh w ((Z8 q 0 D).foldl Z4 []))).map tupP) []):=by
 have h1:=Z1k (w:=w) (h:=h) (T:=T) q hD hl
 have hel:(Z8 q 0 D).length<=1000:=by have:=Zw q D 0 hD;omega
 have h2:=Z1l (w:=w) (h:=h) (T:=T) (D:=D) (Z8 q 0 D)
 have h3:=Z0T (Z8 q 0 D) hel
 have h4:=ZX q D 0 hD
 have h5:=Z0U (w:=w) (h:=h) (T:=T) (D:=D) hw (Z8 q 0 D) hel
 generalize Z8 q 0 D=E at *
 cases hf:E.find? (Za w h) with
 |some e=>
  rw[hf] at h2
  dsimp only at h2 ⊢
  have hn:pX (Zp e)=false:=rfl
  generalize Zp e=O at *
  generalize E.map au=EV at *
  generalize Z0 w h T D=Yv at *
  generalize c3 q=Q at *
  simp[fB,rZ,List.replicate,h1,h2,hn]
 |none=>
  rw[hf] at h2
  have hon:∀e∈E,bT w h (stK e):=by
   intro e he
   have:=List.find?_eq_none.mp hf e he
   simpa[Za] using this
  cases ha:Z6 E [] with
  |some a=>
   rw[ha] at h3
   dsimp only at h2 h3 ⊢
   have hn:pX (Io a)=false:=rfl
   generalize Io a=O at *
   generalize E.map au=EV at *
   generalize Z0 w h T D=Yv at *
   generalize c3 q=Q at *
   have hnn:pX .non=true:=rfl
   simp[fB,rZ,List.replicate,h1,h2,h3,hn,hnn]
  |none=>
   rw[ha] at h3
   have h6:=h5 hon h4 ha
   dsimp only at h2 h3 ⊢
   generalize (aF (Zh w (E.foldl Z4 []))).map tupP=MM at *
   generalize E.map au=EV at *
   generalize Z0 w h T D=Yv at *
   generalize c3 q=Q at *
   simp[fB,rZ,List.replicate,h1,h2,h3,h6,pX,ql,je,qj,Res.bind]
def Zm(S:fK×Option (TT×TT))(e:En):fK×Option (TT×TT):=match tM S.1 (stK e) with
 |none=>(S.1 ++ [(stK e,xY e)],S.2)
 |some v=>if v.2≠e.2.1/\S.2=none then(S.1,some (v,xY e)) else S
def Zi(w h:Int):List En->fK×Option (TT×TT)->Sum En (fK×Option (TT×TT))
 | [],S=>.inr S
 |e::r,S=>if bT w h (stK e) then Zi w h r (Zm S e) else .inl e
theorem Z0f(w h:Int):∀(a b:List En) (S:fK×Option (TT×TT)),Zi w h (a++b) S=(match Zi w h a S with
 | .inl e=>.inl e
 | .inr S'=>Zi w h b S')
 | [],b,S=>rfl
 |e::a,b,S=>by
  rw[List.cons_append,Zi,Zi]
  split
  ·exact Z0f w h a b _
  ·rfl
def Z1d(q:P3){r:P3}(h:RG r):zT [.sh (c3 q),.sh (c3 r)]=.ret (.sh (Ť (Zc q r))):=by
 obtain⟨x,y,z⟩:=q
 obtain⟨a,b,c⟩:=r
 obtain⟨a1,a2,b1,b2,c1,c2⟩:=h
 dsimp only at a1 a2 b1 b2 c1 c2
 have mc:∀x,ō c x=true:=λx=>cH (by omega) (by omega)
 have ma:∀x,ō a x=true:=λx=>cH (by omega) (by omega)
 have mb:∀x,ō b x=true:=λx=>cH (by omega) (by omega)
 have hf:∀x,gD x (2*c)=true:=λx=>Fe (by omega) (by omega) (by omega)
 have he:∀x:Int,x.fdiv (2*c)=x / (2*c):=λx=>Int.fdiv_eq_ediv_of_nonneg x (by omega)
 simp[zT,Hl,List.replicate,c3,aO,Ž,ż,List.range,List.range.loop,forL,Hj,mc,ma,mb,hf,he,Zc,Ť]
def ltV:Option (TT×TT)->PV
 |none=>.non
 |some a=>Io a
def xZ(w h:Int)(s1:P.Slot)(q:P3)(S:fK×Option (TT×TT))(d:Nat)(s6 s7 s8 s9 Ÿ:P.Slot):Ĳ:=[.sh (.tup [.int w,.int h]),s1,.sh (c3 q),.od false (Z1 (Z3 w) Ř S.1),.sh (ltV S.2),.sh (.int d),s6,s7,s8,s9,Ÿ]
def Z0V{w h:Int}{D:List Dy}{s1:P.Slot}(hs:Sl s1 (D.map ŀ))(q:P3)(S:fK×Option (TT×TT)){d t:Nat}{x:Dy}(hx:D[d]?=some x)(ho:x.2.2[t]?=some none)(s7 s8 s9 Ÿ:P.Slot) :
 ĸ (xZ w h s1 q S d (.sh (.int t)) s7 s8 s9 Ÿ)=.ok .ct (xZ w h s1 q S d (.sh (.int t)) (.sh .non) s8 s9 Ÿ):=by
 have h1:(D.map ŀ)[d]?=some (ŀ x):=by simp[hx]
 have h2:(x.2.2.map cQ)[t]?=some .non:=by simp[ho,cQ]
 have h3:ę (ŀ x) (.int 2)=some (.lst (x.2.2.map cQ)):=rfl
 unfold xZ
 generalize Z1 (Z3 w) Ř S.1=EK at *
 generalize ltV S.2=L at *
 generalize c3 q=Q at *
 generalize x.2.2.map cQ=OS at *
 generalize ŀ x=X at *
 generalize D.map ŀ=DV at *
 rcases hs with rfl|rfl
 ·simp[ĸ,h1,h2,h3,pX]
 ·simp[ĸ,h1,h2,h3,pX]
def Z0W{w h:Int}(hw:0<=w/\w<=1000){D:List Dy}{s1:P.Slot}(hs:Sl s1 (D.map ŀ))(q:P3)(S:fK×Option (TT×TT))(hK:∀x∈S.1,bT w h x.1)(hl:S.1.length<=100000){d t:Nat}{x:Dy}{r:P3}(hx:D[d]?=some x)(ho:x.2.2[t]?=some (some r))(hr:RG r)(s7 s8 s9 Ÿ:P.Slot) :
 ∃Ii Ij Ik jt ρ',ĸ (xZ w h s1 q S d (.sh (.int t)) s7 s8 s9 Ÿ)=if bT w h (Zc q r) then .ok .nx (xZ w h s1 q (Zm S (d,t,Zc q r)) d (.sh (.int t)) Ii Ij Ik jt) else .ok (.rt (.sh (Zp (d,t,Zc q r)))) ρ':=by
 have h1:(D.map ŀ)[d]?=some (ŀ x):=by simp[hx]
 have h2:(x.2.2.map cQ)[t]?=some (c3 r):=by simp[ho,cQ]
 have h3:ę (ŀ x) (.int 2)=some (.lst (x.2.2.map cQ)):=rfl
 have he:=Z1d q hr
 have hn:pX (c3 r)=false:=rfl
 have hst:stK (d,t,Zc q r)=Zc q r:=rfl
 have htm:xY (d,t,Zc q r)=(d,t):=rfl
 generalize Zc q r=u at *
 obtain⟨a,b⟩:=u
 have mb:ō b w=true:=mul_r (by omega) (by omega)
 unfold xZ
 by_cases hon:bT w h (a,b)
 ·have hi:∀x∈S.1,Z3 w x.1=Z3 w (a,b)->x.1=(a,b):=λx hx h=>ZM (hK x hx) hon h
  have hv:=Zo (g:=Ř) (a,b) S.1 hi
  have hlen:(Z1 (Z3 w) Ř S.1).length<16777216:=by simp[Z1];omega
  have hkN:Z3 w (a,b)=.inl (b*w+a):=rfl
  rw[hkN] at hv
  obtain⟨p1,p2,p3,p4⟩:=hon
  have hon:bT w h (a,b):=⟨p1,p2,p3,p4⟩
  dsimp only at p1 p2 p3 p4
  refine⟨.sh (c3 r),.sh (.int (b*w+a)),.sh (.int a),.sh (.int b),[],?_⟩
  rw[if_pos hon]
  unfold Zm
  rw[hst,htm]
  cases hk:tM S.1 (a,b) with
  |none=>
   rw[hk] at hv
   have hp:=ZL (g:=Ř) (v:=(d,t)) hi hk
   dsimp only
   rw[<-hp,hkN]
   have ht:Ř (d,t)=.tup [.int (d:Int),.int (t:Int)]:=rfl
   rw[ht]
   generalize Z1 (Z3 w) Ř S.1=EK at *
   generalize ltV S.2=L at *
   generalize c3 q=Q at *
   generalize x.2.2.map cQ=OS at *
   generalize ŀ x=X at *
   generalize D.map ŀ=DV at *
   generalize c3 r=R at *
   rcases hs with rfl|rfl
   ·simp[ĸ,h1,h2,h3,hn,he,Ť,mb,p1,p2,p3,p4,gW,hv,hlen]
   ·simp[ĸ,h1,h2,h3,hn,he,Ť,mb,p1,p2,p3,p4,gW,hv,hlen]
  |some v=>
   rw[hk,Option.map_some] at hv
   have hix:ę (Ř v) (.int 1)=some (.int v.2):=rfl
   dsimp only
   by_cases hc:v.2=t
   ·rw[if_neg (λz=>z.1 hc)]
    generalize Z1 (Z3 w) Ř S.1=EK at *
    generalize ltV S.2=L at *
    generalize c3 q=Q at *
    generalize x.2.2.map cQ=OS at *
    generalize ŀ x=X at *
    generalize D.map ŀ=DV at *
    generalize c3 r=R at *
    generalize Ř v=VV at *
    rcases hs with rfl|rfl
    ·simp[ĸ,h1,h2,h3,hn,he,Ť,mb,p1,p2,p3,p4,gW,hv,hlen,hix,hc]
    ·simp[ĸ,h1,h2,h3,hn,he,Ť,mb,p1,p2,p3,p4,gW,hv,hlen,hix,hc]
   ·have hc':¬(v.2:Int)=(t:Int):=λz=>hc (by omega)
    cases hS:S.2 with
    |none=>
     rw[if_pos ⟨hc,rfl⟩]
     have hlt:ltV none=.non:=rfl
     have hlt2:ltV (some (v,(d,t)))=.tup [.str "alike",Ř v,.tup [.int (d:Int),.int (t:Int)]]:=rfl
     dsimp only
     rw[hlt,hlt2]
     generalize Z1 (Z3 w) Ř S.1=EK at *
     generalize c3 q=Q at *
     generalize x.2.2.map cQ=OS at *
     generalize ŀ x=X at *
     generalize D.map ŀ=DV at *
     generalize c3 r=R at *
     generalize Ř v=VV at *
     have hnn:pX .non=true:=rfl
     rcases hs with rfl|rfl
     ·simp[ĸ,h1,h2,h3,hn,he,Ť,mb,p1,p2,p3,p4,gW,hv,hlen,hix,hc,hc',hnn]
     ·simp[ĸ,h1,h2,h3,hn,he,Ť,mb,p1,p2,p3,p4,gW,hv,hlen,hix,hc,hc',hnn]
    |some l=>
     rw[if_neg (λz=>nomatch z.2),hS]
     have hnl:pX (ltV (some l))=false:=rfl
     generalize Z1 (Z3 w) Ř S.1=EK at *
     generalize ltV (some l)=L at *
     generalize c3 q=Q at *
     generalize x.2.2.map cQ=OS at *
     generalize ŀ x=X at *
     generalize D.map ŀ=DV at *
     generalize c3 r=R at *
     generalize Ř v=VV at *
     rcases hs with rfl|rfl
     ·simp[ĸ,h1,h2,h3,hn,he,Ť,mb,p1,p2,p3,p4,gW,hv,hlen,hix,hc,hc',hnl]
     ·simp[ĸ,h1,h2,h3,hn,he,Ť,mb,p1,p2,p3,p4,gW,hv,hlen,hix,hc,hc',hnl]
 ·refine⟨s7,s8,s9,Ÿ,[.sh (.tup [.int w,.int h]),s1,.sh (c3 q),.od false (Z1 (Z3 w) Ř S.1),.sh (ltV S.2),.sh (.int d),.sh (.int t),.sh (c3 r),s8,.sh (.int a),.sh (.int b)],?_⟩
  rw[if_neg hon]
  have hof:Zp (d,t,(a,b))=.tup [.str "off",.int (d:Int),.int (t:Int)]:=rfl
  rw[hof]
  have hon:¬(0<=a/\a<w/\0<=b/\b<h):=hon
  generalize Z1 (Z3 w) Ř S.1=EK at *
  generalize ltV S.2=L at *
  generalize c3 q=Q at *
  generalize x.2.2.map cQ=OS at *
  generalize ŀ x=X at *
  generalize D.map ŀ=DV at *
  generalize c3 r=R at *
  by_cases p1:0<=a
  ·by_cases p2:a<w
   ·by_cases p3:0<=b
    ·have p4:¬b<h:=λz=>hon ⟨p1,p2,p3,z⟩
     rcases hs with rfl|rfl
     ·simp[ĸ,h1,h2,h3,hn,he,Ť,p1,p2,p3,p4]
     ·simp[ĸ,h1,h2,h3,hn,he,Ť,p1,p2,p3,p4]
    ·rcases hs with rfl|rfl
     ·simp[ĸ,h1,h2,h3,hn,he,Ť,p1,p2,p3]
     ·simp[ĸ,h1,h2,h3,hn,he,Ť,p1,p2,p3]
   ·rcases hs with rfl|rfl
    ·simp[ĸ,h1,h2,h3,hn,he,Ť,p1,p2]
    ·simp[ĸ,h1,h2,h3,hn,he,Ť,p1,p2]
  ·rcases hs with rfl|rfl
   ·simp[ĸ,h1,h2,h3,hn,he,Ť,p1]
   ·simp[ĸ,h1,h2,h3,hn,he,Ť,p1]
def Z0X{w h:Int}{S:fK×Option (TT×TT)}{e:En}(hK:∀x∈S.1,bT w h x.1)(he:bT w h (stK e)):∀x∈(Zm S e).1,bT w h x.1:=by
 intro x hx
 unfold Zm at hx
 split at hx
 ·rcases List.mem_append.mp hx with hx|hx
  ·exact hK x hx
  ·rw[List.mem_singleton.mp hx];exact he
 ·split at hx<;>exact hK x hx
def Z0C(S:fK×Option (TT×TT))(e:En):(Zm S e).1.length<=S.1.length+1:=by
 unfold Zm
 split
 ·simp
 ·split<;>simp
theorem ZN{w h:Int}(hw:0<=w/\w<=1000){D:List Dy}{s1:P.Slot}(hs:Sl s1 (D.map ŀ))(q:P3){d:Nat}{x:Dy}(hx:D[d]?=some x):∀(r:List (Option P3)) (t:Nat) (S:fK×Option (TT×TT)) (s6 s7 s8 s9 Ÿ:P.Slot),x.2.2.drop t=r->(∀o∈r,OG o)->(∀x∈S.1,bT w h x.1)->S.1.length+r.length<=10000->
 (∃e ρ',Zi w h (Zg q d t r) S=.inl e/\forL (gN 6) ĸ ((List.range' t r.length).map λ(i:Nat)=>PV.int (i:Int)) (xZ w h s1 q S d s6 s7 s8 s9 Ÿ)=.ok (.rt (.sh (Zp e))) ρ')\/
 ∃S' Iv Ii Ij Ik jt,Zi w h (Zg q d t r) S=.inr S'/\(∀x∈S'.1,bT w h x.1)/\S'.1.length<=S.1.length+r.length/\forL (gN 6) ĸ ((List.range' t r.length).map λ(i:Nat)=>PV.int (i:Int)) (xZ w h s1 q S d s6 s7 s8 s9 Ÿ)=.ok .nx (xZ w h s1 q S' d Iv Ii Ij Ik jt)
 | [],t,S,s6,s7,s8,s9,Ÿ,_,_,hS,_=>.inr ⟨S,s6,s7,s8,s9,Ÿ,rfl,hS,by simp,rfl⟩
 |o::r,t,S,s6,s7,s8,s9,Ÿ,hr,ho,hS,hl=>by
  have hx2:x.2.2[t]?=some o:=by
   have:=congrArg (λl=>l[0]?) hr
   simpa using this
  have hr':x.2.2.drop (t+1)=r:=by
   have:=congrArg List.tail hr
   simpa using this
  rw[List.length_cons,List.range'_succ,List.map_cons,forL]
  have g1:gN 6 (.int (t:Int)) (xZ w h s1 q S d s6 s7 s8 s9 Ÿ)=some (xZ w h s1 q S d (.sh (.int t)) s7 s8 s9 Ÿ):=rfl
  rw[g1]
  dsimp only
  have ho':∀o∈r,OG o:=λy hy=>ho y (List.mem_cons_of_mem _ hy)
  cases o with
  |none=>
   rw[Z0V hs q S hx hx2 s7 s8 s9 Ÿ]
   rcases ZN hw hs q hx r (t+1) S (.sh (.int t)) (.sh .non) s8 s9 Ÿ hr' ho' hS (by simp at hl;omega) with⟨e,ρ',h1,h2⟩|⟨S',a,b,c,f,g,h1,h2,h3,h4⟩
   ·exact .inl ⟨e,ρ',h1,h2⟩
   ·exact .inr ⟨S',a,b,c,f,g,h1,h2,by omega,h4⟩
  |some y=>
   obtain⟨a7,a8,a9,a10,ρ',e1⟩:=Z0W hw hs q S hS (by omega) hx hx2 (ho _ List.mem_cons_self y rfl) s7 s8 s9 Ÿ
   rw[Zg,Zi]
   by_cases hon:bT w h (Zc q y)
   ·rw[if_pos hon] at e1
    have Ly:bT w h (stK (d,t,Zc q y)):=hon
    rw[if_pos Ly,e1]
    have hz:=Z0C S (d,t,Zc q y)
    rcases ZN hw hs q hx r (t+1) (Zm S (d,t,Zc q y)) (.sh (.int t)) a7 a8 a9 a10 hr' ho' (Z0X hS Ly) (by simp at hl;omega) with⟨e,ρ',h1,h2⟩|⟨S',a,b,c,f,g,h1,h2,h3,h4⟩
    ·exact .inl ⟨e,ρ',h1,h2⟩
    ·exact .inr ⟨S',a,b,c,f,g,h1,h2,by omega,h4⟩
   ·rw[if_neg hon] at e1
    have Ly:¬bT w h (stK (d,t,Zc q y)):=hon
    rw[if_neg Ly,e1]
    exact .inl ⟨_,ρ',rfl,rfl⟩
theorem Z0g{w h:Int}(hw:0<=w/\w<=1000){D:List Dy}{s1:P.Slot}(hs:Sl s1 (D.map ŀ))(q:P3)(hD:∀x∈D,tK x):∀(r:List Dy) (d:Nat) (S:fK×Option (TT×TT)) (s5 s6 s7 s8 s9 Ÿ:P.Slot),D.drop d=r->(∀x∈S.1,bT w h x.1)->S.1.length+r.length*24<=10000->
 (∃e ρ',Zi w h (Z8 q d r) S=.inl e/\forL (gN 5) jm ((List.range' d r.length).map λ(i:Nat)=>PV.int (i:Int)) [.sh (.tup [.int w,.int h]),s1,.sh (c3 q),.od false (Z1 (Z3 w) Ř S.1),.sh (ltV S.2),s5,s6,s7,s8,s9,Ÿ]=.ok (.rt (.sh (Zp e))) ρ')\/
 ∃S' Cv Iv Ii Ij Ik jt,Zi w h (Z8 q d r) S=.inr S'/\forL (gN 5) jm ((List.range' d r.length).map λ(i:Nat)=>PV.int (i:Int)) [.sh (.tup [.int w,.int h]),s1,.sh (c3 q),.od false (Z1 (Z3 w) Ř S.1),.sh (ltV S.2),s5,s6,s7,s8,s9,Ÿ]=.ok .nx [.sh (.tup [.int w,.int h]),s1,.sh (c3 q),.od false (Z1 (Z3 w) Ř S'.1),.sh (ltV S'.2),Cv,Iv,Ii,Ij,Ik,jt]
 | [],d,S,s5,s6,s7,s8,s9,Ÿ,_,hS,_=>.inr ⟨S,s5,s6,s7,s8,s9,Ÿ,rfl,rfl⟩
 |x::r,d,S,s5,s6,s7,s8,s9,Ÿ,hr,hS,hl=>by
  have hx:D[d]?=some x:=by
   have:=congrArg (λl=>l[0]?) hr
   simpa using this
  have hr':D.drop (d+1)=r:=by
   have:=congrArg List.tail hr
   simpa using this
  have hk:=hD x (List.mem_of_getElem? hx)
  rw[List.length_cons,List.range'_succ,List.map_cons,forL]
  have g1:gN 5 (.int (d:Int)) [.sh (.tup [.int w,.int h]),s1,.sh (c3 q),.od false (Z1 (Z3 w) Ř S.1),.sh (ltV S.2),s5,s6,s7,s8,s9,Ÿ]=some (xZ w h s1 q S d s6 s7 s8 s9 Ÿ):=rfl
  rw[g1]
  dsimp only
  have h1:(D.map ŀ)[d]?=some (ŀ x):=by simp[hx]
  have h3:ę (ŀ x) (.int 2)=some (.lst (x.2.2.map cQ)):=rfl
  have h4:(x.2.2.map cQ).length=x.2.2.length:=by simp
  have rr:=ZU (n:=x.2.2.length) (by have:=hk.1;omega)
  have e0:jm (xZ w h s1 q S d s6 s7 s8 s9 Ÿ)=forL (gN 6) ĸ ((List.range' 0 x.2.2.length).map λ(i:Nat)=>PV.int (i:Int)) (xZ w h s1 q S d s6 s7 s8 s9 Ÿ):=by
   rw[<-List.range_eq_range']
   unfold xZ
   generalize Z1 (Z3 w) Ř S.1=EK at *
   generalize ltV S.2=L at *
   generalize c3 q=Q at *
   generalize (List.range x.2.2.length).map (λ(i:Nat)=>PV.int (i:Int))=RR at *
   generalize x.2.2.map cQ=OS at *
   generalize ŀ x=X at *
   generalize D.map ŀ=DV at *
   rcases hs with rfl|rfl
   ·simp[jm,h1,h3,h4,rr]
   ·simp[jm,h1,h3,h4,rr]
  rw[e0]
  have hk1:=hk.1
  rw[Z8,Z0f]
  rcases ZN hw hs q hx x.2.2 0 S s6 s7 s8 s9 Ÿ rfl hk.2 hS (by simp at hl;omega) with⟨e,ρ',i1,i2⟩|⟨S',b6,b7,b8,b9,b10,i1,i2,i3,i4⟩
  ·rw[i1,i2]
   exact .inl ⟨e,ρ',rfl,rfl⟩
  ·rw[i1,i4]
   exact Z0g hw hs q hD r (d+1) S' (.sh (.int d)) b6 b7 b8 b9 b10 hr' i2 (by simp at hl;omega)
def Z1n(k:Int):cP (Nr k)=k:=by
 unfold cP Nr
 dsimp only
 have h1:=Int.emod_def k MP
 have h2:=Int.mul_comm MP (k / MP)
 omega
def Z02{ps:List (Int×Int)}(hb:∀p∈ps,0<=p.2/\p.2<MP):(aF ps).Perm ps:=by
 unfold aF
 have h:=(Ũ (ps.map cP)).map Nr
 have e:(ps.map cP).map Nr=ps:=by
  rw[List.map_map]
  conv=>rhs;rw[<-List.map_id ps]
  refine List.map_congr_left λp hp=>?_
  exact zO (hb p hp).1 (hb p hp).2
 rw[e] at h
 exact h
def Z0Y{ps:List (Int×Int)}(hb:∀p∈ps,0<=p.2/\p.2<MP):(aF ps).map (·.1)=gZ (ps.map (·.1)):=by
 have hp:=Z02 hb
 refine dR ?_ (ů _) ((hp.map _).trans (Ũ _).symm)
 have hs:((aF ps).map cP).Pairwise (·<= ·):=by
  unfold aF
  rw[List.map_map]
  have:(gZ (ps.map cP)).map (cP ∘ Nr)=gZ (ps.map cP):=by
   conv=>rhs;rw[<-List.map_id (gZ (ps.map cP))]
   exact List.map_congr_left λk _=>Z1n k
  rw[this]
  exact ů _
 rw[List.pairwise_map] at hs ⊢
 refine List.Pairwise.imp_of_mem ?_ hs
 intro a b ha hb' h
 have h1:=hb a (hp.mem_iff.mp ha)
 have h2:=hb b (hp.mem_iff.mp hb')
 unfold cP at h
 have hM:MP=4294967296:=rfl
 rw[hM] at h h1 h2
 omega
def Z1x{w:Int}{K:fK}(ht:∀x∈K,x.2.2<1000):∀p∈Zh w K,0<=p.2/\p.2<MP:=by
 intro p hp
 obtain⟨x,hx,rfl⟩:=List.mem_map.mp hp
 have:=ht x hx
 have hM:MP=4294967296:=rfl
 rw[hM]
 dsimp only
 omega
theorem Z0D{α β:Type}[DecidableEq α]:∀{K:List (α×β)},(K.map (·.1)).Nodup->∀x∈K,tM K x.1=some x.2
 | [],_,x,hx=>nomatch hx
 |p::K,hn,x,hx=>by
  rw[List.map_cons,List.nodup_cons] at hn
  rcases List.mem_cons.mp hx with rfl|hx
  ·exact ZF rfl
  ·by_cases e:p.1=x.1
   ·exact absurd (List.mem_map.mpr ⟨x,hx,e.symm⟩) hn.1
   ·rw[ZG e];exact Z0D hn.2 x hx
theorem Z03(w:Int):∀K:fK,bQ (Z1 (Z3 w) Ř K)=(Zh w K).map (·.1)
 | []=>rfl
 |x::K=>by
  have ih:=Z03 w K
  show bQ ((.inl (num w x.1),Ř x.2)::Z1 (Z3 w) Ř K)=num w x.1::(Zh w K).map (·.1)
  rw[<-ih]
  rfl
def Z0E{w h:Int}{K:fK}(hK:∀x∈K,bT w h x.1)(hn:(K.map (·.1)).Nodup)(ht:∀x∈K,x.2.2<1000)(hl:K.length<=10000)(s:P.Slot):Ů (gN 1) dw (Ŕ (ă (ē 1) (ă (Ą ę (jE 0 (ē 1)) (mC (.int 1))) Ė))) ((gZ (bQ (Z1 (Z3 w) Ř K))).map .int) [.bd false (Z1 (Z3 w) Ř K),s] []=some ((aF (Zh w K)).map tupP):=by
 have hb:=Z1x (w:=w) ht
 have hp:=Z02 hb
 rw[Z03,<-Z0Y hb,List.map_map]
 have:=bO (g:=gN 1) (mt:=dw) (me:=Ŕ (ă (ē 1) (ă (Ą ę (jE 0 (ē 1)) (mC (.int 1))) Ė))) (λ(p:Int×Int)=>PV.int p.1) tupP (λρ=>∃s,ρ=[.bd false (Z1 (Z3 w) Ř K),s]) (aF (Zh w K)) [.bd false (Z1 (Z3 w) Ř K),s] [] ⟨_,rfl⟩ (by rw[hp.length_eq];simp[Zh];omega) (by
  rintro p hp' ρ ⟨s,rfl⟩
  obtain⟨x,hx,rfl⟩:=List.mem_map.mp (hp.mem_iff.mp hp')
  have hv:=Zo (f:=Z3 w) (g:=Ř) x.1 K λy hy h=>ZM (hK y hy) (hK x hx) h
  rw[Z0D hn x hx,Option.map_some] at hv
  have hkN:Z3 w x.1=.inl (num w x.1):=rfl
  rw[hkN] at hv
  have hix:ę (Ř x.2) (.int 1)=some (.int x.2.2):=rfl
  dsimp only
  generalize Z1 (Z3 w) Ř K=EK at *
  generalize Ř x.2=VV at *
  refine⟨[.bd false EK,.sh (.int (num w x.1))],[.bd false EK,.sh (.int (num w x.1))],[.bd false EK,.sh (.int (num w x.1))],by simp,by simp,?_,_,rfl⟩
  generalize num w x.1=N at *
  simp[gW,hv,hix,tupP])
 rw[List.nil_append] at this
 exact this
theorem Z04(w h:Int)(a:TT×TT):∀(E:List En) (K:fK),(∀e∈E,bT w h (stK e))->Zi w h E (K,some a)=.inr (E.foldl Z4 K,some a)
 | [],K,_=>rfl
 |e::E,K,hE=>by
  rw[Zi,if_pos (hE e List.mem_cons_self)]
  have:Zm (K,some a) e=(Z4 K e,some a):=by
   unfold Zm Z4
   dsimp only
   cases hx:tM K (stK e) with
   |none=>rfl
   |some v=>dsimp only;rw[if_neg (λz=>nomatch z.2)]
  rw[this]
  exact Z04 w h a E (Z4 K e) λx hx=>hE x (List.mem_cons_of_mem _ hx)
theorem Zs(w h:Int):∀(E:List En) (K:fK),(∀e∈E,bT w h (stK e))->Zi w h E (K,none)=.inr (E.foldl Z4 K,Z6 E K)
 | [],K,_=>rfl
 |e::E,K,hE=>by
  have hE':∀x∈E,bT w h (stK x):=λx hx=>hE x (List.mem_cons_of_mem _ hx)
  rw[Zi,if_pos (hE e List.mem_cons_self),Z6]
  show Zi w h E (Zm (K,none) e)=.inr (E.foldl Z4 (Z4 K e),_)
  unfold Zm Z4
  dsimp only
  cases hx:tM K (stK e) with
  |none=>exact Zs w h E _ hE'
  |some v=>
   dsimp only
   by_cases hc:v.2=e.2.1
   ·rw[if_neg (λz=>z.1 hc),if_pos hc]
    exact Zs w h E _ hE'
   ·rw[if_pos ⟨hc,rfl⟩,if_neg hc]
    exact Z04 w h _ E _ hE'
theorem ZO(w h:Int){x:En}:∀(E:List En) (S:fK×Option (TT×TT)),E.find? (Za w h)=some x->Zi w h E S=.inl x
 | [],S,hf=>nomatch hf
 |e::E,S,hf=>by
  rw[Zi]
  by_cases ho:bT w h (stK e)
  ·have e0:Za w h e=false:=by simp[Za,ho]
   rw[List.find?_cons,e0] at hf
   rw[if_pos ho]
   exact ZO w h E _ hf
  ·have e0:Za w h e=true:=by simp[Za,ho]
   rw[List.find?_cons,e0] at hf
   cases hf
   rw[if_neg ho]
def Zz(w h:Int)(E:List En):PV:=match E.find? (Za w h) with
 |some e=>Zp e
 |none=>match Z6 E [] with
  |some a=>Io a
  |none=>.tup [.str "marks",.lst ((aF (Zh w (E.foldl Z4 []))).map tupP)]
def Z0Z{w h:Int}(hw:0<=w/\w<=1000){D:List Dy}{s1:P.Slot}(hs:Sl s1 (D.map ŀ))(q:P3)(hD:∀x∈D,tK x)(hl:D.length<=12):fu [.sh (.tup [.int w,.int h]),s1,.sh (c3 q)]=.ret (.sh (Zz w h (Z8 q 0 D))):=by
 have rr:=ZU (n:=D.length) (by omega)
 have hlen:(D.map ŀ).length=D.length:=by simp
 have hel:=Zw q D 0 hD
 have hot:=Z0g (h:=h) hw hs q hD D 0 ([],none) .no .no .no .no .no .no rfl (by simp) (by simp;omega)
 have h4:=ZX q D 0 hD
 have z1:Z1 (Z3 w) Ř []=[]:=rfl
 have z2:ltV none=.non:=rfl
 rw[<-List.range_eq_range',z1,z2] at hot
 unfold Zz
 generalize Z8 q 0 D=E at *
 rcases hot with⟨e,ρ',i1,i2⟩|⟨S',b5,b6,b7,b8,b9,b10,i1,i2⟩
 ·cases hf:E.find? (Za w h) with
  |none=>
   have hon:∀e∈E,bT w h (stK e):=by
    intro e he
    have:=List.find?_eq_none.mp hf e he
    simpa[Za] using this
   rw[Zs w h E [] hon] at i1
   cases i1
  |some y=>
   rw[ZO w h E _ hf] at i1
   cases i1
   dsimp only
   generalize Zp e=O at *
   generalize (List.range D.length).map (λ(i:Nat)=>PV.int (i:Int))=RR at *
   generalize D.map ŀ=DV at *
   generalize c3 q=Q at *
   rcases hs with rfl|rfl
   ·simp[fu,fV,List.replicate,hlen,rr,i2]
   ·simp[fu,fV,List.replicate,hlen,rr,i2]
 ·cases hf:E.find? (Za w h) with
  |some y=>
   rw[ZO w h E _ hf] at i1
   cases i1
  |none=>
   have hon:∀e∈E,bT w h (stK e):=by
    intro e he
    have:=List.find?_eq_none.mp hf e he
    simpa[Za] using this
   rw[Zs w h E [] hon] at i1
   injection i1 with i1
   subst i1
   dsimp only at i2 ⊢
   cases ha:Z6 E [] with
   |some a=>
    rw[ha] at i2
    have hn:pX (ltV (some a))=false:=rfl
    have hq:ltV (some a)=Io a:=rfl
    dsimp only
    rw[<-hq]
    generalize ltV (some a)=L at *
    generalize Z1 (Z3 w) Ř (E.foldl Z4 [])=EK at *
    generalize (List.range D.length).map (λ(i:Nat)=>PV.int (i:Int))=RR at *
    generalize D.map ŀ=DV at *
    generalize c3 q=Q at *
    rcases hs with rfl|rfl
    ·simp[fu,fV,List.replicate,hlen,rr,i2,hn]
    ·simp[fu,fV,List.replicate,hlen,rr,i2,hn]
   |none=>
    rw[ha] at i2
    have hc:=Z0E (w:=w) (h:=h) (K:=E.foldl Z4 []) (Z0q E [] hon (by simp)) (Z0r E [] (by simp)) (ZV E [] h4 (by simp)) (by have:=Zy E [];simp at this;omega) .no
    rw[z2] at i2
    dsimp only
    generalize (aF (Zh w (E.foldl Z4 []))).map tupP=MM at *
    generalize Z1 (Z3 w) Ř (E.foldl Z4 [])=EK at *
    generalize (List.range D.length).map (λ(i:Nat)=>PV.int (i:Int))=RR at *
    generalize D.map ŀ=DV at *
    generalize c3 q=Q at *
    have hnn:pX .non=true:=rfl
    rcases hs with rfl|rfl
    ·simp[fu,fV,List.replicate,hlen,rr,i2,hnn,iU,iT,gW,hc]
    ·simp[fu,fV,List.replicate,hlen,rr,i2,hnn,iU,iT,gW,hc]
def Z1D(i:Int):aC (.int i) "tuple" =some false:=by rfl
def Z1E(i:Int):aC (.int i) "list" =some false:=by rfl
def Z1F(i:Int):aC (.int i) "str" =some false:=by rfl
def Z1G(i:Int):aC (.int i) "int" =some true:=by rfl
def Z1H(i:Int):aC (.int i) "bool" =some false:=by rfl
def Z1I(s:Str):aC (.str s) "tuple" =some false:=by rfl
def Z1J(s:Str):aC (.str s) "list" =some false:=by rfl
def Z1K(s:Str):aC (.str s) "str" =some true:=by rfl
def Z1L(l:List PV):aC (.lst l) "tuple" =some false:=by rfl
def Z1M(l:List PV):aC (.lst l) "list" =some true:=by rfl
def Z1N(l:List PV):aC (.tup l) "tuple" =some true:=by rfl
def Z1O(l:List PV):aC (.tup l) "list" =some false:=by rfl
def Z0F:gH (.bl true) (.bl true)=some (.bl false):=rfl
def Z0G:gH (.bl false) (.bl false)=some (.bl false):=rfl
theorem Z05:∀l:List Bool,boolsOf (l.map .bl)=some l
 | []=>rfl
 |b::l=>by
  show(boolsOf (l.map .bl)).map (b:: ·)=_
  rw[Z05 l];rfl
def Z0t{α:Type}(l:List α):uN [.lst (l.map λ_=>PV.bl true)]=some (.bl true):=by
 have e:(l.map λ_=>PV.bl true)=(l.map λ_=>true).map .bl:=by rw[List.map_map];rfl
 rw[e]
 show(boolsOf ((l.map λ_=>true).map .bl)).map (λbs=>PV.bl (bs.all id))=_
 rw[Z05]
 simp
theorem dH:∀l:List PV,jd l l=l.map λx=>PV.tup [x,x]
 | []=>rfl
 |x::l=>by
  rw[jd,dH l]
  rfl
def ZD(mf:MF)(i:Int):ķ 2 2 (Z2 mf) [.sh (.int i),.sh (.int i)]=.ret (.sh (.bl true)):=by
 simp[Z2,List.replicate,Z1D,Z1E,Z1F,Z1G,Z1H,pX]
def ZS(mf:MF){s:Str}(h:Ŋ (.str s) (.str s)=some (.bl true)):ķ 2 2 (Z2 mf) [.sh (.str s),.sh (.str s)]=.ret (.sh (.bl true)):=by
 simp[Z2,List.replicate,Z1I,Z1J,Z1K,pX,h]
def Z0u(mf:MF){L:List PV}(hl:L.length<=1000000)(h:∀p∈L,mf [.sh p,.sh p]=.ret (.sh (.bl true))):Ů (gT 2 (Č (gN 0) (Č (gN 1) Ō))) dw (Ę (Ĝ mf (ĉ 0 (ĉ 1 Ě)))) (jd L L) [.no,.no] []=some (L.map λ_=>PV.bl true):=by
 rw[dH]
 have c:=bO (g:=gT 2 (Č (gN 0) (Č (gN 1) Ō))) (mt:=dw) (me:=Ę (Ĝ mf (ĉ 0 (ĉ 1 Ě)))) (λb=>PV.tup [b,b]) (λ_=>PV.bl true) (λρ=>∃a b,ρ=[a,b]) L [.no,.no] [] ⟨_,_,rfl⟩ (by simp;omega) (by
  rintro B hB ρ ⟨x,y,rfl⟩
  have e:=h B hB
  exact⟨[.sh B,.sh B],[.sh B,.sh B],[.sh B,.sh B],by simp,by simp,by simp[e],_,_,rfl⟩)
 rw[List.nil_append] at c
 exact c
def ZE(mf:MF){L:List PV}(hl:L.length<=1000000)(h:∀p∈L,mf [.sh p,.sh p]=.ret (.sh (.bl true))):ķ 2 2 (Z2 mf) [.sh (.tup L),.sh (.tup L)]=.ret (.sh (.bl true)):=by
 have c:=Z0u mf hl h
 have al:=Z0t L
 generalize (L.map λ_=>PV.bl true)=Q at *
 simp[Z2,List.replicate,Z1N,Z1O,Z0F,Z0G,Kh,wW,c,al]
def Z0h(mf:MF){L:List PV}(hl:L.length<=1000000)(h:∀p∈L,mf [.sh p,.sh p]=.ret (.sh (.bl true))):ķ 2 2 (Z2 mf) [.sh (.lst L),.sh (.lst L)]=.ret (.sh (.bl true)):=by
 have c:=Z0u mf hl h
 have al:=Z0t L
 generalize (L.map λ_=>PV.bl true)=Q at *
 simp[Z2,List.replicate,Z1L,Z1M,Z0F,Z0G,Kh,wW,c,al]
def yc(w h:Int)(E:List En):Prop:=E.find? (Za w h)=none/\Z6 E []=none
def tW(w:Int)(E:List En):List PV:=(aF (Zh w (E.foldl Z4 []))).map tupP
def Z1o{w h:Int}{E:List En}(hm:yc w h E):Zz w h E=.tup [.str "marks",.lst (tW w E)]:=by
 unfold Zz tW
 rw[hm.1,hm.2]
def Z1y:Ŋ (.str "off") (.str "off")=some (.bl true):=by rw[Ń (by decide +kernel) (by decide +kernel)];rfl
def Z1z:Ŋ (.str "alike") (.str "alike")=some (.bl true):=by rw[Ń (by decide +kernel) (by decide +kernel)];rfl
def Z12:Ŋ (.str "height") (.str "height")=some (.bl true):=by rw[Ń (by decide +kernel) (by decide +kernel)];rfl
def Z1A:Ŋ (.str "none") (.str "none")=some (.bl true):=by rw[Ń (by decide +kernel) (by decide +kernel)];rfl
def Z1p:Ŋ (.str "none") (.str "height")=some (.bl false):=by rw[Ń (by decide +kernel) (by decide +kernel)];rfl
def Z1q:Ŋ (.str "off") (.str "marks")=some (.bl false):=by rw[Ń (by decide +kernel) (by decide +kernel)];rfl
def Z1r:Ŋ (.str "alike") (.str "marks")=some (.bl false):=by rw[Ń (by decide +kernel) (by decide +kernel)];rfl
def Z0H:Ŋ (.str "marks") (.str "marks")=some (.bl true):=by rw[Ń (by decide +kernel) (by decide +kernel)];rfl
def Ok(mf:MF)(p:PV):Prop:=mf [.sh p,.sh p]=.ret (.sh (.bl true))
abbrev Sm(mf:MF):MF:=ķ 2 2 (Z2 mf)
def Ip(mf:MF)(a b:Int):Ok (Sm (Sm mf)) (.tup [.int a,.int b]):=by
 refine ZE _ (by simp) ?_
 intro p hp
 simp at hp
 rcases hp with rfl|rfl
 ·exact ZD _ _
 ·exact ZD _ _
def V_(mf:MF)(e:En):Ok (Sm (Sm mf)) (Zp e):=by
 refine ZE _ (by simp) ?_
 intro p hp
 simp at hp
 rcases hp with rfl|rfl|rfl
 ·exact ZS _ Z1y
 ·exact ZD _ _
 ·exact ZD _ _
def ZaU(mf:MF)(a:TT×TT):Ok (Sm (Sm (Sm mf))) (Io a):=by
 refine ZE _ (by simp) ?_
 intro p hp
 simp at hp
 rcases hp with rfl|rfl|rfl
 ·exact ZS _ Z1z
 ·exact Ip _ _ _
 ·exact Ip _ _ _
def ZaV(mf:MF){R:List (Int×Int)}(hl:R.length<=1000000):Ok (Sm (Sm (Sm mf))) (.lst (R.map tupP)):=by
 refine Z0h _ (by simpa using hl) ?_
 intro p hp
 obtain⟨x,_,rfl⟩:=List.mem_map.mp hp
 exact Ip _ _ _
def Z7(x y:Int)(D:List Dy)(k:Nat):List En:=Z8 (x,y,(k:Int)) 0 D
def Z5(w h x y:Int)(D:List Dy)(k:Nat):PV:=Zz w h (Z7 x y D k)
def Z0i{D:List Dy}(hD:∀x∈D,tK x)(hl:D.length<=12)(x y:Int)(k:Nat):(Z7 x y D k).length<=1000:=by have:=Zw (x,y,(k:Int)) D 0 hD;unfold Z7;omega
def Z1s(mf:MF)(w:Int){E:List En}(hl:E.length<=1000):Ok (Sm (Sm (Sm mf))) (.lst (tW w E)):=by
 refine ZaV mf ?_
 have hK:=Zy E []
 have:(aF (Zh w (E.foldl Z4 []))).length=(E.foldl Z4 []).length:=by
  unfold aF
  rw[List.length_map,(Ũ _).length_eq]
  simp[Zh]
 rw[this]
 simp at hK
 omega
def Z1e(w:Int){E:List En}(hl:E.length<=1000):(tW w E).length<=1000:=by
 have hK:=Zy E []
 have:(aF (Zh w (E.foldl Z4 []))).length=(E.foldl Z4 []).length:=by
  unfold aF
  rw[List.length_map,(Ũ _).length_eq]
  simp[Zh]
 unfold tW
 rw[List.length_map,this]
 simp at hK
 omega
def ZT{w h:Int}{E:List En}(hm:¬yc w h E):(∃z,ę (Zz w h E) (.int 0)=some z/\Ŋ z (.str "marks")=some (.bl false))/\∀mf,Ok (Sm (Sm (Sm mf))) (Zz w h E):=by
 unfold Zz
 cases hf:E.find? (Za w h) with
 |some e=>exact⟨⟨_,rfl,Z1q⟩,λmf=>V_ _ _⟩
 |none=>
  cases ha:Z6 E [] with
  |some a=>exact⟨⟨_,rfl,Z1r⟩,λmf=>ZaU _ _⟩
  |none=>exact absurd ⟨hf,ha⟩ hm
def Z1B{w h:Int}{T:List Th}{D:List Dy}(hw:0<=w/\w<=1000)(hD:∀x∈D,tK x)(hl:D.length<=12)(x y:Int){k:Nat}(hm:¬yc w h (Z7 x y D k)):fB [.sh (Z0 w h T D),.sh (.tup [.int x,.int y,.int k])]=.ret (.sh (Z5 w h x y D k)):=by
 have h1:fB [.sh (Z0 w h T D),.sh (.tup [.int x,.int y,.int k])]=_:=Z0s (w:=w) (h:=h) (T:=T) hw (x,y,(k:Int)) hD hl
 rw[h1]
 unfold Z5 Zz
 have e:Z8 (x,y,(k:Int)) 0 D=Z7 x y D k:=rfl
 rw[e]
 unfold yc at hm
 cases hf:(Z7 x y D k).find? (Za w h) with
 |some e=>rfl
 |none=>
  cases ha:Z6 (Z7 x y D k) [] with
  |some a=>rfl
  |none=>exact absurd ⟨hf,ha⟩ hm
def Z1C{w h:Int}{T:List Th}{D:List Dy}(hw:0<=w/\w<=1000)(hD:∀x∈D,tK x)(hl:D.length<=12)(x y:Int){k:Nat}(hm:yc w h (Z7 x y D k)):fB [.sh (Z0 w h T D),.sh (.tup [.int x,.int y,.int k])]=.ret (.ot [.str "marks"] (tW w (Z7 x y D k)) []):=by
 have h1:fB [.sh (Z0 w h T D),.sh (.tup [.int x,.int y,.int k])]=_:=Z0s (w:=w) (h:=h) (T:=T) hw (x,y,(k:Int)) hD hl
 rw[h1]
 have e:Z8 (x,y,(k:Int)) 0 D=Z7 x y D k:=rfl
 rw[e,hm.1,hm.2]
 rfl
theorem Z0v{w h:Int}{T:List Th}{D:List Dy}(hw:0<=w/\w<=1000)(hD:∀x∈D,tK x)(hl:D.length<=12)(x y:Int)(s3:P.Slot):∀(n k:Nat) (acc:List PV) (s5 s6:P.Slot),acc.length+n<=1000->
 (∃m ρ',k<=m/\m<k+n/\yc w h (Z7 x y D m)/\(∀j,k<=j->j<m->¬yc w h (Z7 x y D j))/\forL (gN 5) nT ((List.range' k n).map λ(i:Nat)=>PV.int (i:Int)) [.sh (Z0 w h T D),.sh (.int x),.sh (.int y),s3,.ow acc,s5,s6]=.ok (.rt (.o2 [.str "height",.int m] (tW w (Z7 x y D m)) [] (acc++(List.range' k (m-k)).map (Z5 w h x y D)))) ρ')\/
 (∃Cv Iv,(∀j,k<=j->j<k+n->¬yc w h (Z7 x y D j))/\forL (gN 5) nT ((List.range' k n).map λ(i:Nat)=>PV.int (i:Int)) [.sh (Z0 w h T D),.sh (.int x),.sh (.int y),s3,.ow acc,s5,s6]=.ok .nx [.sh (Z0 w h T D),.sh (.int x),.sh (.int y),s3,.ow (acc++(List.range' k n).map (Z5 w h x y D)),Cv,Iv])
 |0,k,acc,s5,s6,_=>.inr ⟨s5,s6,λj h1 h2=>absurd h2 (by omega),by simp[forL]⟩
 |n+1,k,acc,s5,s6,hz=>by
  have hla:acc.length<16777216:=by omega
  rw[List.range'_succ,List.map_cons,forL]
  have g1:gN 5 (.int (k:Int)) [.sh (Z0 w h T D),.sh (.int x),.sh (.int y),s3,.ow acc,s5,s6]=some [.sh (Z0 w h T D),.sh (.int x),.sh (.int y),s3,.ow acc,.sh (.int k),s6]:=rfl
  rw[g1]
  dsimp only
  by_cases hm:yc w h (Z7 x y D k)
  ·have hd:=Z1C (h:=h) (T:=T) hw hD hl x y hm
   refine .inl ⟨k,[.sh (Z0 w h T D),.sh (.int x),.sh (.int y),s3,.no,.sh (.int k),.no],Nat.le_refl _,by omega,hm,λj h1 h2=>absurd h2 (by omega),?_⟩
   rw[Nat.sub_self]
   have e1:nT [.sh (Z0 w h T D),.sh (.int x),.sh (.int y),s3,.ow acc,.sh (.int k),s6]=.ok (.rt (.o2 [.str "height",.int k] (tW w (Z7 x y D k)) [] acc)) [.sh (Z0 w h T D),.sh (.int x),.sh (.int y),s3,.no,.sh (.int k),.no]:=by
    generalize tW w (Z7 x y D k)=ML at *
    generalize Z0 w h T D=Yv at *
    simp[nT,hd,Z0H,GJ,Lg,mL2,Res.bind]
   rw[e1]
   simp
  ·have hd:=Z1B (h:=h) (T:=T) hw hD hl x y hm
   obtain⟨⟨z,z1,z2⟩,_⟩:=ZT hm
   have z1:ę (Z5 w h x y D k) (.int 0)=some z:=z1
   have e1:nT [.sh (Z0 w h T D),.sh (.int x),.sh (.int y),s3,.ow acc,.sh (.int k),s6]=.ok .nx [.sh (Z0 w h T D),.sh (.int x),.sh (.int y),s3,.ow (acc ++ [Z5 w h x y D k]),.sh (.int k),.sh (Z5 w h x y D k)]:=by
    generalize Z5 w h x y D k=R at *
    generalize Z0 w h T D=Yv at *
    simp[nT,hd,z1,z2,hla]
   rw[e1]
   rcases Z0v (T:=T) hw hD hl x y s3 n (k+1) (acc ++ [Z5 w h x y D k]) (.sh (.int k)) (.sh (Z5 w h x y D k)) (by simp;omega) with⟨m,ρ',h1,h2,h3,h4,h5⟩|⟨a,b,h1,h2⟩
   ·refine .inl ⟨m,ρ',by omega,by omega,h3,λj j1 j2=>?_,?_⟩
    ·by_cases e:j=k
     ·rw[e];exact hm
     ·exact h4 j (by omega) j2
    ·have e2:m-k=(m-(k+1))+1:=by omega
     rw[e2,List.range'_succ,List.map_cons]
     rw[List.append_assoc] at h5
     exact h5
   ·refine .inr ⟨a,b,λj j1 j2=>?_,?_⟩
    ·by_cases e:j=k
     ·rw[e];exact hm
     ·exact h1 j (by omega) (by omega)
    ·rw[List.map_cons]
     rw[List.append_assoc] at h2
     exact h2
def Z1P{n:Nat}(hn:n<=1000):pW [.int 1,.int ((n:Int)+1)]=some ((List.range' 1 n).map λ(i:Nat)=>PV.int (i:Int)):=by
 have hs2:Ž ((n:Int)+1)=true:=by unfold Ž;simp;omega
 have hs1:Ž 1=true:=rfl
 have e:((n:Int)+1-1).toNat=n:=by omega
 unfold pW
 simp[hs1,hs2,ż,e,List.range'_eq_map_range]
theorem ZP{w h:Int}{D:List Dy}(hw:0<=w/\w<=1000)(hD:∀x∈D,tK x)(hl:D.length<=12)(x y:Int)(s3:P.Slot):∀(n k:Nat) (acc:List PV) (s5 s6:P.Slot),acc.length+n<=1000->
 (∃m ρ',k<=m/\m<k+n/\yc w h (Z7 x y D m)/\(∀j,k<=j->j<m->¬yc w h (Z7 x y D j))/\forL (gN 5) fW ((List.range' k n).map λ(i:Nat)=>PV.int (i:Int)) [.sh (.tup [.int w,.int h]),.sh (.lst (D.map ŀ)),.sh (.tup [.int x,.int y]),s3,.ow acc,s5,s6]=.ok (.rt (.sh (.tup [.str "height",.int m,.lst (tW w (Z7 x y D m)),.lst (acc++(List.range' k (m-k)).map (Z5 w h x y D))]))) ρ')\/
 (∃Cv Iv,(∀j,k<=j->j<k+n->¬yc w h (Z7 x y D j))/\forL (gN 5) fW ((List.range' k n).map λ(i:Nat)=>PV.int (i:Int)) [.sh (.tup [.int w,.int h]),.sh (.lst (D.map ŀ)),.sh (.tup [.int x,.int y]),s3,.ow acc,s5,s6]=.ok .nx [.sh (.tup [.int w,.int h]),.sh (.lst (D.map ŀ)),.sh (.tup [.int x,.int y]),s3,.ow (acc++(List.range' k n).map (Z5 w h x y D)),Cv,Iv])
 |0,k,acc,s5,s6,_=>.inr ⟨s5,s6,λj h1 h2=>absurd h2 (by omega),by simp[forL]⟩
 |n+1,k,acc,s5,s6,hz=>by
  have hla:acc.length<16777216:=by omega
  have hd:fu [.sh (.tup [.int w,.int h]),.sh (.lst (D.map ŀ)),.sh (.tup [.int x,.int y,.int k])]=.ret (.sh (Z5 w h x y D k)):=Z0Z hw (.inl rfl) (x,y,(k:Int)) hD hl
  rw[List.range'_succ,List.map_cons,forL]
  have g1:gN 5 (.int (k:Int)) [.sh (.tup [.int w,.int h]),.sh (.lst (D.map ŀ)),.sh (.tup [.int x,.int y]),s3,.ow acc,s5,s6]=some [.sh (.tup [.int w,.int h]),.sh (.lst (D.map ŀ)),.sh (.tup [.int x,.int y]),s3,.ow acc,.sh (.int k),s6]:=rfl
  rw[g1]
  dsimp only
  by_cases hm:yc w h (Z7 x y D k)
  ·have hr:Z5 w h x y D k=.tup [.str "marks",.lst (tW w (Z7 x y D k))]:=Z1o hm
   refine .inl ⟨k,[.sh (.tup [.int w,.int h]),.sh (.lst (D.map ŀ)),.sh (.tup [.int x,.int y]),s3,.sh (.lst acc),.sh (.int k),.sh (Z5 w h x y D k)],Nat.le_refl _,by omega,hm,λj h1 h2=>absurd h2 (by omega),?_⟩
   rw[Nat.sub_self]
   have e1:fW [.sh (.tup [.int w,.int h]),.sh (.lst (D.map ŀ)),.sh (.tup [.int x,.int y]),s3,.ow acc,.sh (.int k),s6]=.ok (.rt (.sh (.tup [.str "height",.int k,.lst (tW w (Z7 x y D k)),.lst acc]))) [.sh (.tup [.int w,.int h]),.sh (.lst (D.map ŀ)),.sh (.tup [.int x,.int y]),s3,.sh (.lst acc),.sh (.int k),.sh (Z5 w h x y D k)]:=by
    rw[hr] at hd ⊢
    generalize tW w (Z7 x y D k)=ML at *
    generalize D.map ŀ=DV at *
    simp[fW,hd,Z0H]
   rw[e1]
   simp
  ·obtain⟨⟨z,z1,z2⟩,_⟩:=ZT hm
   have z1:ę (Z5 w h x y D k) (.int 0)=some z:=z1
   have e1:fW [.sh (.tup [.int w,.int h]),.sh (.lst (D.map ŀ)),.sh (.tup [.int x,.int y]),s3,.ow acc,.sh (.int k),s6]=.ok .nx [.sh (.tup [.int w,.int h]),.sh (.lst (D.map ŀ)),.sh (.tup [.int x,.int y]),s3,.ow (acc ++ [Z5 w h x y D k]),.sh (.int k),.sh (Z5 w h x y D k)]:=by
    generalize Z5 w h x y D k=R at *
    generalize D.map ŀ=DV at *
    simp[fW,hd,z1,z2,hla]
   rw[e1]
   rcases ZP hw hD hl x y s3 n (k+1) (acc ++ [Z5 w h x y D k]) (.sh (.int k)) (.sh (Z5 w h x y D k)) (by simp;omega) with⟨m,ρ',h1,h2,h3,h4,h5⟩|⟨a,b,h1,h2⟩
   ·refine .inl ⟨m,ρ',by omega,by omega,h3,λj j1 j2=>?_,?_⟩
    ·by_cases e:j=k
     ·rw[e];exact hm
     ·exact h4 j (by omega) j2
    ·have e2:m-k=(m-(k+1))+1:=by omega
     rw[e2,List.range'_succ,List.map_cons]
     rw[List.append_assoc] at h5
     exact h5
   ·refine .inr ⟨a,b,λj j1 j2=>?_,?_⟩
    ·by_cases e:j=k
     ·rw[e];exact hm
     ·exact h1 j (by omega) (by omega)
    ·rw[List.map_cons]
     rw[List.append_assoc] at h2
     exact h2
def Z1t(w h x y:Int){D:List Dy}(hD:∀x∈D,tK x)(hl:D.length<=12)(m n:Nat)(hn:n<=1000)(hj:∀j,1<=j->j<1+n->¬yc w h (Z7 x y D j)):Aa [.sh (.tup [.str "height",.int m,.lst (tW w (Z7 x y D m)),.lst ((List.range' 1 n).map (Z5 w h x y D))]),.sh (.tup [.str "height",.int m,.lst (tW w (Z7 x y D m)),.lst ((List.range' 1 n).map (Z5 w h x y D))])]=.ret (.sh (.bl true)):=by
 refine ZE _ (by simp) ?_
 intro p hp
 rcases List.mem_cons.mp hp with rfl|hp
 ·exact ZS _ Z12
 rcases List.mem_cons.mp hp with rfl|hp
 ·exact ZD _ _
 rcases List.mem_cons.mp hp with rfl|hp
 ·exact Z1s (Sm λ_=>.bad) w (Z0i hD hl x y m)
 rw[List.mem_singleton.mp hp]
 refine Z0h _ (by simp;omega) ?_
 intro p hp
 obtain⟨j,hj',rfl⟩:=List.mem_map.mp hp
 have:=List.mem_range'_1.mp hj'
 exact(ZT (hj j this.1 this.2)).2 λ_=>.bad
def Z1u(w h x y:Int){D:List Dy}(n:Nat)(hn:n<=1000)(hj:∀j,1<=j->j<1+n->¬yc w h (Z7 x y D j)):Aa [.sh (.tup [.str "none",.lst ((List.range' 1 n).map (Z5 w h x y D))]),.sh (.tup [.str "none",.lst ((List.range' 1 n).map (Z5 w h x y D))])]=.ret (.sh (.bl true)):=by
 refine ZE _ (by simp) ?_
 intro p hp
 rcases List.mem_cons.mp hp with rfl|hp
 ·exact ZS _ Z1A
 rw[List.mem_singleton.mp hp]
 refine Z0h _ (by simp;omega) ?_
 intro p hp
 obtain⟨j,hj',rfl⟩:=List.mem_map.mp hp
 have:=List.mem_range'_1.mp hj'
 exact(ZT (hj j this.1 this.2)).2 λ_=>.bad
def both{w h:Int}{T:List Th}{D:List Dy}(hw:0<=w/\w<=1000)(hD:∀x∈D,tK x)(hl:D.length<=12)(x y:Int){most:Nat}(hm:most<=30):∃due:PV,vH [.sh (.tup [.int w,.int h]),.sh (.lst (D.map ŀ)),.sh (.tup [.int x,.int y]),.sh (.int most)]=.ret (.sh due)/\
 ∀s0 s1 s2 s3 s6 s9 Ÿ:P.Slot,∃jt,su [s0,s1,s2,s3,.sh (Z0 w h T D),.sh (.tup [.int x,.int y]),s6,.sh (.int most),.sh due,s9,Ÿ]=.ok .nx [s0,s1,s2,s3,.sh (Z0 w h T D),.sh (.tup [.int x,.int y]),s6,.sh (.int most),.sh due,s9,jt]:=by
 have rr:=Z1P (n:=most) (by omega)
 rcases Z0v (h:=h) (T:=T) hw hD hl x y (.sh (.int most)) most 1 [] .no .no (by simp;omega) with⟨m,ρ',h1,h2,h3,h4,h5⟩|⟨a,b,h1,h2⟩
 ·rcases ZP (h:=h) hw hD hl x y (.sh (.int most)) most 1 [] .no .no (by simp;omega) with⟨m',ρ2,i1,i2,i3,i4,i5⟩|⟨a',b',i1,i2⟩
  ·have em:m'=m:=by
    rcases Nat.lt_trichotomy m' m with z|z|z
    ·exact absurd i3 (h4 m' i1 z)
    ·exact z
    ·exact absurd h3 (i4 m h1 z)
   subst em
   rw[List.nil_append] at h5 i5
   have sm:=Z1t w h x y hD hl m' (m'-1) (by omega) λj j1 j2=>h4 j j1 (by omega)
   have hML:=Z1e w (Z0i hD hl x y m')
   have hFL:((List.range' 1 (m'-1)).map (Z5 w h x y D)).length<=1000:=by simp;omega
   refine⟨.tup [.str "height",.int m',.lst (tW w (Z7 x y D m')),.lst ((List.range' 1 (m'-1)).map (Z5 w h x y D))],?_,λs0 s1 s2 s3 s6 s9 Ÿ=>?_⟩
   ·generalize (List.range' 1 (m'-1)).map (Z5 w h x y D)=FL at *
    generalize (List.range' 1 most).map (λ(i:Nat)=>PV.int (i:Int))=RR at *
    generalize tW w (Z7 x y D m')=ML at *
    generalize D.map ŀ=DV at *
    simp[vH,xU,List.replicate,rr,i5]
   ·generalize (List.range' 1 (m'-1)).map (Z5 w h x y D)=FL at *
    generalize (List.range' 1 most).map (λ(i:Nat)=>PV.int (i:Int))=RR at *
    generalize tW w (Z7 x y D m')=ML at *
    generalize Z0 w h T D=Yv at *
    have lp:Cg [.sh Yv,.sh (.int x),.sh (.int y),.sh (.int most)]=.ret (.o2 [.str "height",.int m'] ML [] FL):=by
     simp[Cg,Hw,List.replicate,rr,h5]
    have l1:FL.length<16777216:=by omega
    have l2:ML.length<16777216:=by omega
    exact⟨.o2 [.str "height",.int m'] (ML ++ [.tup [.int 0,.int 0]]) [] (FL ++ [.tup [.str "off",.int 0,.int 0]]),by
     simp[su,lp,jj,jC,nM,rP,sm,Z12,l1,l2]⟩
  ·exact absurd h3 (i1 m h1 h2)
 ·rcases ZP (h:=h) hw hD hl x y (.sh (.int most)) most 1 [] .no .no (by simp;omega) with⟨m',ρ2,i1,i2,i3,i4,i5⟩|⟨a',b',i1,i2⟩
  ·exact absurd i3 (h1 m' i1 i2)
  ·rw[List.nil_append] at h2 i2
   have sm:=Z1u w h x y (D:=D) most (by omega) h1
   have hFL:((List.range' 1 most).map (Z5 w h x y D)).length<=1000:=by simp;omega
   refine⟨.tup [.str "none",.lst ((List.range' 1 most).map (Z5 w h x y D))],?_,λs0 s1 s2 s3 s6 s9 Ÿ=>?_⟩
   ·generalize (List.range' 1 most).map (Z5 w h x y D)=FL at *
    generalize (List.range' 1 most).map (λ(i:Nat)=>PV.int (i:Int))=RR at *
    generalize D.map ŀ=DV at *
    simp[vH,xU,List.replicate,rr,i2]
   ·generalize (List.range' 1 most).map (Z5 w h x y D)=FL at *
    generalize (List.range' 1 most).map (λ(i:Nat)=>PV.int (i:Int))=RR at *
    generalize Z0 w h T D=Yv at *
    have lp:Cg [.sh Yv,.sh (.int x),.sh (.int y),.sh (.int most)]=.ret (.ot [.str "none"] FL []):=by
     simp[Cg,Hw,List.replicate,rr,h2,ql,je,qj,Res.bind]
    have l1:FL.length<16777216:=by omega
    exact⟨.ot [.str "none"] (FL ++ [.tup [.str "off",.int 0,.int 0]]) [],by
     simp[su,lp,jj,jC,nM,sm,Z1p,l1]⟩
def Z1v{l:PySem.W.OpenLaw}{w:World}{K:PySem.W.Frag}{mg:Str->Option Value}{fa:Addr}{a:Hy}(T:Tx K mg a)(hfa:mg "law" =some (.ref fa)):∃fd:FuncData,(∀(s:Shared) (v:Value),BindsTo s fd ⟨[v],[]⟩ [("_law_script",v)])/\∀base:Heap,K.In base->base.Ns mainGlobals mg->∃cm,ī l.prog w K mg base aA 6 fa fd ["_law_script"] (aB ⟨K,cm⟩ 1 nU):=by
 have e:=hfa.symm.trans T.HN.m
 cases e
 exact⟨a.HD,λs v=>T.HN.bb s [v] rfl,λbase _ _=>⟨_,VP T⟩⟩
def Z10(ns:List Int)(hn:ns.length<=63):nU [.sh (.lst (ns.map .int))]=.ret (.sh (.bl true)):=by
 obtain⟨w,h,e1,w1,w2,_,_⟩:=Z0O (ns.getD 0 0)
 obtain⟨D,hl,hD,e2⟩:=Z1b ns 4
 obtain⟨T,hT,e3⟩:=Z0k (ns.getD 0 0 / 7)
 have e2:g_ [.sh (.lst (ns.map .int)),.sh (.int 4),.sh (.int 4)]=.ret (.ow (D.map ŀ)):=e2
 have e4:=Z17 w h (T:=T) (D:=D) (by omega) (by omega) (s3:=.bw (T.map Cp)) (s4:=.sh (.lst (D.map ŀ))) (.inr rfl) (.inl rfl)
 have e5:=ZZ D (by omega) .no .no .no
 have yv:PV.ins "Yard" ["width","height","things","days"] [.int w,.int h,.lst (T.map Cp),.lst (D.map ŀ)]=Z0 w h T D:=rfl
 have hc0:Ű [.sh (.lst (ns.map .int)),.sh (.int 0)]=.ret (.sh (.int (ns.getD 0 0))):=Zn ns 0
 have hc1:Ű [.sh (.lst (ns.map .int)),.sh (.int 1)]=.ret (.sh (.int (ns.getD 1 0))):=Zn ns 1
 have hc2:Ű [.sh (.lst (ns.map .int)),.sh (.int 2)]=.ret (.sh (.int (ns.getD 2 0))):=Zn ns 2
 have hc3:Ű [.sh (.lst (ns.map .int)),.sh (.int 3)]=.ret (.sh (.int (ns.getD 3 0))):=Zn ns 3
 generalize ns.getD 0 0=c0 at *
 generalize ns.getD 1 0=c1 at *
 generalize ns.getD 2 0=c2 at *
 generalize ns.getD 3 0=c3' at *
 obtain⟨x,hx⟩:∃x,c1 % 19-4=x:=⟨_,rfl⟩
 obtain⟨y,hy⟩:∃y,c2 % 19-4=y:=⟨_,rfl⟩
 obtain⟨f,hf⟩:∃f,c3' % 1080=f:=⟨_,rfl⟩
 have hw:0<=w/\w<=1000:=by omega
 have key:∀B:Int,(B=6\/B=30)->ę (.lst [.int 6,.int 6,.int 6,.int 6,.int 6,.int 30]) (.int (f % 6))=some (.int B)->nU [.sh (.lst (ns.map .int))]=.ret (.sh (.bl true)):=by
  intro B hB hi
  have b1:0<=f / 6 % B:=Int.emod_nonneg _ (by omega)
  have b2:f / 6 % B<B:=Int.emod_lt_of_pos _ (by omega)
  obtain⟨most,hm⟩:∃most:Nat,1+f / 6 % B=most:=⟨(1+f / 6 % B).toNat,by omega⟩
  have hmo:ĝ (.int (f / 6)) (.int B)=some (.int (f / 6 % B)):=by
   rcases hB with rfl|rfl<;>simp
  obtain⟨due,d1,d2⟩:=both (h:=h) (T:=T) hw hD hl x y (most:=most) (by omega)
  obtain⟨a1,r1⟩:=d2 (.sh (.lst (ns.map .int))) (.sh (.tup [.int w,.int h])) (.sh (.lst (D.map ŀ))) (.ow (T.map Cp)) (.sh (.int f)) (.sh (.int 0)) .no
  obtain⟨a2,r2⟩:=d2 (.sh (.lst (ns.map .int))) (.sh (.tup [.int w,.int h])) (.sh (.lst (D.map ŀ))) (.ow (T.map Cp)) (.sh (.int f)) (.sh (.int 1)) a1
  have hr:aO [.int 2]=some [.int 0,.int 1]:=rfl
  have hmf:ĝ (.int c3') (.int 1080)=some (.int f):=by rw[<-hf];simp
  have hm6:ĝ (.int f) (.int 6)=some (.int (f % 6)):=by simp
  have hx':ĝ (.int c1) (.int 19)=some (.int (c1 % 19)):=by simp
  have hy':ĝ (.int c2) (.int 19)=some (.int (c2 % 19)):=by simp
  clear hD hl hT w1 w2 d2 hw
  generalize ns.map PV.int=NS at *
  generalize D.map ŀ=DV at *
  generalize T.map Cp=TV at *
  generalize Z0 w h T D=Yv at *
  simp[nU,Hx,List.replicate,hc0,hc1,hc2,hc3,e1,e2,e3,e4,e5,yv,iU,hx,hy,hx',hy',hmf,hm6,hi,hmo,hm,d1,hr,forL,r1,r2,-Zr,-wU,-rD]
 have h6:f % 6=0\/f % 6=1\/f % 6=2\/f % 6=3\/f % 6=4\/f % 6=5:=by omega
 rcases h6 with e|e|e|e|e|e
 ·exact key 6 (.inl rfl) (by rw[e];rfl)
 ·exact key 6 (.inl rfl) (by rw[e];rfl)
 ·exact key 6 (.inl rfl) (by rw[e];rfl)
 ·exact key 6 (.inl rfl) (by rw[e];rfl)
 ·exact key 6 (.inl rfl) (by rw[e];rfl)
 ·exact key 30 (.inr rfl) (by rw[e];rfl)
def Z1Q{l:PySem.W.OpenLaw}{q:Program}{loose:List Str}{XP:(Str->Option Value)->Heap->Prop}{YP:World->Heap->Prop}{d:DefRec}{K:Params->PySem.W.Frag}(hn:l.most=some 63)(hdf:d.params.defaults=[])
 (hY:∀(w:World) (h:Heap),YP w h->(K w.params).In h)
 (F:∀(w:World) (mg:Str→Option Value) (fa:Addr) (h:Heap),(K w.params).In h→h.Ns mainGlobals mg→mg d.name=some (.ref fa)→
   ∃fd:FuncData,(∀(s:Shared) (u:Value),BindsTo s fd ⟨[u],[]⟩ [("_law_script",u)])/\∀base:Heap,(K w.params).In base->base.Ns mainGlobals mg->∃cm,ī l.prog w (K w.params) mg base aA 6 fa fd ["_law_script"] (aB ⟨K w.params,cm⟩ 1 nU)) :
 PySem.W.WalkO q loose XP YP l.row.toRowW d [] (λf vs=>PySem.call f vs):=
 P.Et (k:=6) (x:= "_law_script") (CX:=aA) (m:=nU) hn hdf ⟨rfl,by decide,by decide⟩ hY F Z10 (λ_ _ _ _ z=>z)
end
end T
namespace PySem.W.Fast
def tw13271583916608770916:=0
def tw13596228722271333145:=0
def tw7573935453968509247:=0
def tw387868931869240733:=0
def tw6799276046423184532:=0
def tw8181812374407342907:=0
def tw17506425907298444558:=0
def tw9227481843522887325:=0
def tw17555818320034593922:=0
def tw15909157265000973390:=0
def tw2605342469020893936:=0
def tw15479416160069067115:=0
def tw5392755684049795264:=0
def tw5194699522072455363:=0
def tw8249234760378328835:=0
def tw3430137253734573060:=0
def tw7129166133386029868:=0
def tw13855444089331532688:=0
def tw13854190087620977553:=0
def tw5220132304512434929:=0
def tw12047808248247177144:=0
def tw3245253513851511388:=0
def tw11026506962730888146:=0
def tw12263656258578563419:=0
def tw6489275382233381205:=0
def tw16551351708370815655:=0
def tw15120249313677425317:=0
def tw9526968839586322548:=0
def tw5121074862489171979:=0
def tw15481221265803524542:=0
def tw1792559091169411716:=0
def tw6959992354691955952:=0
def tw5812710333358724097:=0
def tw10082426015652821334:=0
def tw18287837427074505475:=0
def tw11316027197230265947:=0
def tw5134970593699957594:=0
def tw3925807249379564439:=0
def tw7941895573449272978:=0
def tw3172223719767212171:=0
def tw2997585411885374320:=0
def tw14181853347880686560:=0
def tw17328902581783802513:=0
def tw1220140279125138160:=0
def tw7309326261676499570:=0
def tw11162037672649012926:=0
def tw3584233902135647341:=0
def tw12417909695593713778:=0
def tw5756541589379107354:=0
def tw8665467851569176859:=0
def tw13495507045144179588:=0
def tw14926888334666526835:=0
def tw17870194388389220724:=0
def tw10939663558601146726:=0
def tw8405119823959682096:=0
def tw11543977065964177318:=0
def tw6530521344950365592:=0
def tw10921273403464519058:=0
def tw13465921848675357404:=0
def tw2579722033332702309:=0
def tw2397224689926877427:=0
def tw6137966481137464521:=0
def tw535103861263853455:=0
def tw17130399482768698244:=0
def tw4896362209848883296:=0
def tw437862230446074476:=0
def tw3726823862151375576:=0
def tw8169920366158360309:=0
def tw735468547993063460:=0
def tw7461901644470800982:=0
def tw12013362338030375060:=0
def tw2837473994912823092:=0
def tw7956463925092494818:=0
def tw5048364682290629751:=0
def tw861448782211066348:=0
def tw8708376950841252057:=0
def tw9944272077608015793:=0
def tw16463721754863075522:=0
def tw8560049267296742061:=0
def tw11726660347313670805:=0
def tw17624182983727114884:=0
def tw17042202158916143953:=0
def tw10696238976670356305:=0
def tw15324510204359118752:=0
def tw7583662882150215197:=0
def tw3692775051384394835:=0
def tw10420948531874026890:=0
def tw5964814463959657857:=0
def tw13934533077806688164:=0
def tw3394823798509521502:=0
def tw1291012241175005756:=0
def tw6262480125039441509:=0
def tw5808389354591256327:=0
def tw15211662979189475146:=0
def tw3121255258280026401:=0
def tw10374182249746797423:=0
def tw6461219816652943949:=0
def tw4391869406680964085:=0
def tw14661483891605608239:=0
def tw12977250627238463728:=0
def tw7241892657960776975:=0
def tw9909457762621904368:=0
def tw8810890030868096329:=0
def tw11669256742179412502:=0
def tw11415584093542897349:=0
def tw12715117771867021910:=0
def tw16591712341533477299:=0
def tw7733257056540478406:=0
def tw9094199608517234098:=0
def tw2544182885360226630:=0
def tw700412477715509662:=0
def tw3576199578419650989:=0
def tw15128247187399992813:=0
def tw18418481648469141701:=0
def tw10028111789885580453:=0
def tw3228562996079229648:=0
def tw14051765429591714764:=0
def tw1519017958850083324:=0
def tw1267517209369574487:=0
def tw16420311066202583819:=0
def tw16204226846096460499:=0
def tw18187289051395310832:=0
def tw16828131339493152498:=0
def tw3799299900364261454:=0
def tw4428618225780251722:=0
def tw18299697292295436482:=0
def tw8671103492407704988:=0
def tw3691273223918390872:=0
def tw8646897039324934923:=0
def tw2293850908146744168:=0
def tw888077527644241403:=0
def tw7367166316600843727:=0
def tw5121344367344555420:=0
def tw2330447195737325500:=0
def tw8341728720797690471:=0
def tw4657338722095474485:=0
def tw8295010032596587592:=0
def tw4099811370339188154:=0
def tw3251780620571053051:=0
def tw14099472181597264852:=0
def tw1848301963910321559:=0
def tw3975055869498027103:=0
def tw14324053052751109035:=0
def tw10752437989184049754:=0
def tw12775620702177173767:=0
def tw6826187786469084123:=0
def tw10765756273485582876:=0
def tw7000332622560023331:=0
def tw14454751231626517938:=0
def tw146297690924770090:=0
def tw17117976129534208986:=0
def tw6694047390054324221:=0
def tw18346229760809971185:=0
def tw836663066157347540:=0
def tw13966463791996521758:=0
def tw5228259799856304117:=0
def tw11800808457461103697:=0
def tw10338848799505020773:=0
def tw6942065346222918796:=0
def tw9361601146127442485:=0
def tw5683199483394991617:=0
def tw15364875582312327052:=0
def tw4949440608081941249:=0
def tw11015713763625305139:=0
def tw9498894762710406258:=0
def tw13015469702963871436:=0
def tw6884560254913858678:=0
def tw14740485272337134478:=0
def tw17448919161054027350:=0
def tw4851974155796020170:=0
def tw3114082033106469435:=0
def tw16957426944345624729:=0
def tw15551758361973523978:=0
def tw7041171355920359036:=0
def tw18370550570619982658:=0
def tw8967804543465659198:=0
def tw12859891771386384864:=0
def tw622733025237633433:=0
def tw18060226732669802105:=0
def tw17323434593585644209:=0
def tw13847857810649558876:=0
def tw17881256579038735946:=0
def tw5816655115605153418:=0
def tw4955439778961243759:=0
def tw2353844309778532172:=0
def tw10479304167156864410:=0
def tw15353680104841022404:=0
def tw16139296489321941554:=0
def tw14380419474008176541:=0
def tw16469744911215239056:=0
def tw11441938357645221862:=0
def tw10414011541617359911:=0
def tw10954793894184790757:=0
def tw10275700042994927107:=0
def tw7983749797849760246:=0
def tw2082272705457166143:=0
def tw4732113139186244582:=0
def tw830868647435154855:=0
def tw2974695254674401778:=0
def tw8646842613957308878:=0
def tw14323195740677028806:=0
def tw636301722471098492:=0
def tw1577396776297600264:=0
def tw12673896165941500330:=0
def tw18244861764752300273:=0
def tw11840597237768137902:=0
def tw16447843174896668710:=0
def tw3139619411589212601:=0
def tw3210952633857763543:=0
def tw3135428276814069491:=0
def tw14725534902082401757:=0
def tw4668664903904116956:=0
def tw341147443282144183:=0
def tw17089962471926231984:=0
def tw9143351528514594729:=0
def tw5792965877572709000:=0
def tw1397360925110300545:=0
def tw12107614572635535071:=0
def tw8690223205426531121:=0
def tw1208639012593058152:=0
def tw16165297254084471698:=0
def tw14219861423313540130:=0
def tw14256114873710588847:=0
def tw10750081909401418410:=0
def tw16973743082573129142:=0
def tw9287568708579129598:=0
def tw9413082381981664144:=0
def tw12840957754573077412:=0
def tw7958938297779594282:=0
def tw7470289669316528545:=0
def tw14275309097424067481:=0
def tw9809077083942218156:=0
def tw13863457828839374333:=0
def tw9043138684633630746:=0
def tw4650136661606424010:=0
def tw16492301650153179842:=0
def tw1975566595829922917:=0
def tw338334819264735632:=0
def tw7273077194618470074:=0
def tw1520900285213118553:=0
def tw7623143865603699399:=0
def tw6924261510952787225:=0
def tw4196206444640414660:=0
def tw9190827974366999779:=0
def tw17860313183294882214:=0
def tw4061295665296121519:=0
def tw10554324977255775782:=0
def tw3669358560785829242:=0
def tw11060038051912689997:=0
def tw322307201459906310:=0
def tw5595240817541249028:=0
def tw5037987787602758521:=0
def tw17618210193730762115:=0
def tw14681786878584502447:=0
def tw18295627503292753776:=0
def tw1157693422774677755:=0
def tw1610742706581333573:=0
def tw4569604033446952183:=0
def tw1983926672999628137:=0
def tw11312294618273317289:=0
def tw12325973589698025634:=0
def tw13701004521448951663:=0
def tw10496256298926572203:=0
def tw17015395690615260042:=0
def tw14322871401365543043:=0
def tw2091506361104614470:=0
def tw3035323182095344455:=0
def tw14651390064608719453:=0
def tw4442411024091915901:=0
def tw2377728931995602007:=0
def tw5282455334765746120:=0
def tw9978734258185215438:=0
def tw5783147299721632827:=0
def tw12510465331623761641:=0
def tw14222000310383448611:=0
def tw4232156360959719937:=0
def tw14434496706613095926:=0
def tw5616304098130092925:=0
def tw14796159163843958596:=0
def tw14844051319497147599:=0
def tw7529191709985956877:=0
def tw4236453541100904073:=0
def tw10261938877390298109:=0
def tw9291905724065842547:=0
def tw465530439016695355:=0
def tw9303523246103396431:=0
def tw9948352405212831103:=0
def tw15185968644049298701:=0
def tw1816554624099042661:=0
def tw10976016989966493648:=0
def tw4464287890100009957:=0
def tw8719401361343900735:=0
def tw2817428859595904055:=0
def tw15982988271606772596:=0
def tw10826841410806360944:=0
def tw12578923506229287637:=0
def tw15539249518163476420:=0
def tw7390122945705920336:=0
def tw17739632442750278677:=0
def tw10049693613237562351:=0
def tw17677585756783789130:=0
def tw5009364766582500307:=0
def tw14917526572872476589:=0
def tw12177244695751556005:=0
def tw50043472350536385:=0
def tw16282077164317464225:=0
def tw16116989958648608660:=0
def tw2838676204741666529:=0
def tw11292652923919893522:=0
def tw12938859472026057683:=0
def tw425364047487827844:=0
def tw1283668935329250507:=0
def tw10349532890041334585:=0
def tw15063039464557920454:=0
def tw6948352233433244155:=0
def tw12787114692416810409:=0
def tw557723006041177880:=0
def tw18173344015998248202:=0
def tw3401286540618609766:=0
def tw2349922004122618122:=0
def tw2881730000127290145:=0
def tw1335744061102686628:=0
def tw6982740820633993693:=0
def tw4004608541843066521:=0
def tw6590817550798465282:=0
def tw9152850944250321015:=0
def tw16159122906415574474:=0
def tw7351403623329200986:=0
def tw1021106349442166061:=0
def tw6908777557375378480:=0
def tw187411926949646858:=0
def tw6339952480451495858:=0
def tw16399642042275187835:=0
def tw1083673911534591184:=0
def tw4460250202600264517:=0
def tw13209434679015561732:=0
def tw684270186996706749:=0
def tw11732166460495704917:=0
def tw17166519675769004683:=0
def tw2330578117703296041:=0
def tw8991253447989574261:=0
def tw9557524924257119196:=0
def tw7415386414905224172:=0
def tw14809192570732898481:=0
def tw5567010834174681481:=0
def tw5051242184352569979:=0
def tw14945379289221593418:=0
def tw17057075377383218991:=0
def tw14717473871497649202:=0
def tw16852840635143900206:=0
def tw17361414334538196833:=0
def tw16030314849494982870:=0
def tw15503555219871527352:=0
def tw16791999246942895115:=0
def tw796561184682221199:=0
def tw15131509887996426888:=0
def tw7665110996755042509:=0
def tw10992768520691206206:=0
def tw4480872453953650920:=0
def tw14401511152662402219:=0
def tw5808395330298003326:=0
def tw13042402738344876781:=0
def tw9346207746103904601:=0
def tw9901519079237006831:=0
def tw16078059377756769547:=0
def tw3396060222066730212:=0
def tw12333305434245622005:=0
def tw5590061515845698685:=0
def tw14927000375376641992:=0
def tw5157503657677778954:=0
def tw2778324439180993540:=0
def tw12377955358798591149:=0
def tw332830972175437946:=0
def tw1866868549708444278:=0
def tw1325045060746832750:=0
def tw3156869536830460949:=0
def tw4735272217189858071:=0
def tw10104672022398806218:=0
def tw13224673132134086141:=0
def tw5966041017446419233:=0
def tw15027357867887839860:=0
def tw14999735129585153242:=0
def tw2825934616516867288:=0
def tw15119889143173505380:=0
def tw5143510136730505804:=0
def tw7093347765720481547:=0
end PySem.W.Fast
open PySem PySem.W PyProof.Rows
set_option maxRecDepth 100000 in
set_option maxHeartbeats 0 in
theorem PySem.Challenge.cw_shadowpost_k54_the_least_pointer_holds : PySem.Challenge.rw_shadowpost_k54_the_least_pointer.Holds := by
 w_on;o_law;k_head;(case hw=>w_witness2)
 k_fill
 refine T.Z1Q (l:=PySem.Challenge.rw_shadowpost_k54_the_least_pointer) rfl rfl (λw h Y=>by first|exact PySem.W.kIn_of Y|exact PySem.W.km_in_of Y) ?F
 case F=>
  intro w mg fa h KX G hmg
  refine' T.Z1v (a:=T.Hy.mk) (T.Tx.mk (mg_of KX G ?_) (mg_of KX G ?_) (mg_of KX G ?_) (mg_of KX G ?_) (mg_of KX G ?_) (mg_of KX G ?_) (mg_of KX G ?_) (P.Ĺ KX G (λ_ _ _ _ _ _ _=>rfl) ?_ ?_ ?_ ?_) (P.Ĺ KX G (λ_ _ _ _ _ _ _ _=>rfl) ?_ ?_ ?_ ?_) (P.Ĺ KX G (λ_ _ _ _ _ _ _ _=>rfl) ?_ ?_ ?_ ?_) (P.Ĺ KX G (λ_ _ _ _ _ _ _ _=>rfl) ?_ ?_ ?_ ?_) (P.Ĺ KX G (λ_ _ _ _ _ _ _ _ _=>rfl) ?_ ?_ ?_ ?_) (P.Ĺ KX G (λ_ _ _ _ _ _ _ _ _=>rfl) ?_ ?_ ?_ ?_) (P.Ĺ KX G (λ_ _ _ _ _ _ _=>rfl) ?_ ?_ ?_ ?_) (P.Ĺ KX G (λ_ _ _ _ _ _ _=>rfl) ?_ ?_ ?_ ?_) (P.Ĺ KX G (λ_ _ _ _ _ _ _=>rfl) ?_ ?_ ?_ ?_) (P.MK (λ_ _ _ _ _ _ _ _ _=>rfl) ?_ ?_ ?_ ?_) (P.Ĺ KX G (λ_ _ _ _ _ _ _=>rfl) ?_ ?_ ?_ ?_) (P.Ĺ KX G (λ_ _ _ _ _ _ _=>rfl) ?_ ?_ ?_ ?_) (P.Ĺ KX G (λ_ _ _ _ _ _ _=>rfl) ?_ ?_ ?_ ?_) (P.Ĺ KX G (λ_ _ _ _ _ _ _=>rfl) ?_ ?_ ?_ ?_) (P.Ĺ KX G (λ_ _ _ _ _ _ _=>rfl) ?_ ?_ ?_ ?_) (P.Ĺ KX G (λ_ _ _ _ _ _ _ _=>rfl) ?_ ?_ ?_ ?_) (P.Ĺ KX G (λ_ _ _ _ _ _ _=>rfl) ?_ ?_ ?_ ?_) (P.MK (λ_ _ _ _ _ _ _ _ _ _ _=>rfl) ?_ ?_ ?_ ?_) (P.Ĺ KX G (λ_ _ _ _ _ _ _ _=>rfl) ?_ ?_ ?_ ?_) (P.Ĺ KX G (λ_ _ _ _ _ _ _ _ _=>rfl) ?_ ?_ ?_ ?_) (P.Ĺ KX G (λ_ _ _ _ _ _ _ _ _ _=>rfl) ?_ ?_ ?_ ?_) (P.Ĺ KX G (λ_ _ _ _ _ _ _ _=>rfl) ?_ ?_ ?_ ?_) (P.Ĺ KX G (λ_ _ _ _ _ _ _ _=>rfl) ?_ ?_ ?_ ?_) (P.Ĺ KX G (λ_ _ _ _ _ _ _ _=>rfl) ?_ ?_ ?_ ?_) (P.Ĺ KX G (λ_ _ _ _ _ _ _ _=>rfl) ?_ ?_ ?_ ?_) (P.Ĺ KX G (λ_ _ _ _ _ _ _ _=>rfl) ?_ ?_ ?_ ?_) (P.Ĺ KX G (λ_ _ _ _ _ _ _ _=>rfl) ?_ ?_ ?_ ?_) (P.Ĺ KX G (λ_ _ _ _ _ _ _=>rfl) ?_ ?_ ?_ ?_) (P.Ĺ KX G (λ_ _ _ _ _ _ _ _=>rfl) ?_ ?_ ?_ ?_) (P.Ĺ KX G (λ_ _ _ _ _ _ _ _=>rfl) ?_ ?_ ?_ ?_) (P.Ĺ KX G (λ_ _ _ _ _ _ _ _=>rfl) ?_ ?_ ?_ ?_) (P.Ĺ KX G (λ_ _ _ _ _ _ _ _ _ _=>rfl) ?_ ?_ ?_ ?_) (P.Ĺ KX G (λ_ _ _ _ _ _ _ _=>rfl) ?_ ?_ ?_ ?_) (P.Ĺ KX G (λ_ _ _ _ _ _ _=>rfl) ?_ ?_ ?_ ?_) (mg_of KX G ?_) (mg_of KX G ?_) (mg_none_of KX G ?_) (mg_none_of KX G ?_) (mg_none_of KX G ?_) (mg_none_of KX G ?_) (mg_none_of KX G ?_) (mg_none_of KX G ?_) (mg_none_of KX G ?_) (mg_none_of KX G ?_) (mg_none_of KX G ?_) (mg_none_of KX G ?_) (mg_none_of KX G ?_) (mg_none_of KX G ?_) (mg_none_of KX G ?_) (P.fQ ?_) (P.mO ?_) ?_ ?_ (P.fQ ?_) (P.mO ?_) ?_ ?_ (P.fQ ?_) (P.mO ?_) ?_ ?_ (P.fQ ?_) (P.mO ?_) ?_ ?_ (P.fQ ?_) (P.mO ?_) ?_ ?_ (P.fQ ?_) (P.mO ?_) ?_ ?_ (P.fQ ?_) (P.mO ?_) ?_ ?_ ?_ ?_) hmg
  any_goals (dsimp only;k_is)
  any_goals first|kernel_rfl|(unfold L2.Ĩ;kernel_rfl)
  all_goals skip
