import PyProof.Rows.All
import Wide.All
import OpenK.AllK
import Wide.FinOn
import Lean
import PyProof.EqAt
import PyProof.EqKinds
import PyProof.TupleCall
import PySem.Challenge.RW_shadowpost_k37_whole_turned_yards
set_option Elab.async false
set_option linter.all false
set_option maxRecDepth 100000
set_option maxHeartbeats 4000000
namespace L2
open PySem PySem.Spec PyProof.Rows
abbrev Key:=Sum Int Str
def mQ:Key->Value->Bool
 | .inl k,v=>Value.isInt k v
 | .inr x,v=>Value.isStrOf x v
def Zar(w:World):Key->Int
 | .inl k=>hashInt k
 | .inr x=>hashStr w x
theorem ł:∀{k:Key} {v:Value},mQ k v=true->(∃i t,k=Sum.inl i/\v=Value.int i t)\/(∃x t,k=Sum.inr x/\v=Value.str x t)
 | .inl i,v,h=>by
   obtain⟨t,e⟩:=Value.isInt_shape (k:=i) (v:=v) h
   exact .inl ⟨i,t,rfl,e⟩
 | .inr x,v,h=>by
   obtain⟨t,e⟩:=Value.isStrOf_shape (x:=x) (v:=v) h
   exact .inr ⟨x,t,rfl,e⟩
def yF(i:Int)(t:Tok):mQ (.inl i) (.int i t)=true:=by simp[mQ,Value.isInt]
def yG(x:Str)(t:Tok):mQ (.inr x) (.str x t)=true:=by simp[mQ,Value.isStrOf]
def Oh(a b:Int):decide ((Sum.inl a:Key)=Sum.inl b)=(a== b):=by
 by_cases e:a=b
 ·subst e;simp
 ·have h:¬(Sum.inl a:Key)=Sum.inl b:=λq=>e (Sum.inl.inj q)
  rw[decide_eq_false h]
  exact(beq_eq_false_iff_ne.mpr e).symm
def Oi(a b:Str):decide ((Sum.inr a:Key)=Sum.inr b)=decide (a=b):=by
 by_cases e:a=b
 ·subst e;simp
 ·have h:¬(Sum.inr a:Key)=Sum.inr b:=λq=>e (Sum.inr.inj q)
  rw[decide_eq_false h,decide_eq_false e]
def Oj(a:Int)(b:Str):decide ((Sum.inl a:Key)=Sum.inr b)=false:=decide_eq_false (λq=>nomatch q)
def Ol(a:Str)(b:Int):decide ((Sum.inr a:Key)=Sum.inl b)=false:=decide_eq_false (λq=>nomatch q)
def Ŏ(prog:Program)(w:World):PySem.KeyKind prog w Key where
 is:=mQ
 hash:=Zar w
 inj:=λv a b ha hb=>by
  rcases ł ha with⟨i,t,rfl,rfl⟩|⟨x,t,rfl,rfl⟩
  ·rcases ł hb with⟨j,u,rfl,e⟩|⟨y,u,rfl,e⟩
   ·injection e with e1 _;rw[e1]
   ·exact nomatch e
  ·rcases ł hb with⟨j,u,rfl,e⟩|⟨y,u,rfl,e⟩
   ·exact nomatch e
   ·injection e with e1 _;rw[e1]
 byValue:=λk v h=>by
  rcases ł h with⟨i,t,rfl,rfl⟩|⟨x,t,rfl,rfl⟩<;>rfl
 pyHash:=λhv h=>by
  rcases ł hv with⟨i,t,rfl,rfl⟩|⟨x,t,rfl,rfl⟩
  ·exact wpAny_pyHash_int h
  ·exact wpAny_pyHash_str h
 eqBool:=λhu hv h=>by
  rcases ł hu with⟨i,t,rfl,rfl⟩|⟨x,t,rfl,rfl⟩
  ·rcases ł hv with⟨j,u,rfl,rfl⟩|⟨y,u,rfl,rfl⟩
   ·rw[Oh] at h;exact wpAny_eqBool_int h
   ·rw[Oj] at h;exact SeqAt.EqAt.int_str i t y u _ _ _ _ h
  ·rcases ł hv with⟨j,u,rfl,rfl⟩|⟨y,u,rfl,rfl⟩
   ·rw[Ol] at h;exact SeqAt.EqAt.str_int x t j u _ _ _ _ h
   ·rw[Oi] at h;exact wpAny_eqBool_str h
 «strs» := fun k x t v h=>by
   rcases ł h with⟨i,u,rfl,e⟩|⟨y,u,rfl,e⟩
   ·exact nomatch e
   ·injection e with e1 _
    subst e1
    cases v<;>rfl
def qW(prog:Program)(w:World)(i:Int)(t:Tok):(Ŏ prog w).is (.inl i) (.int i t)=true:=yF i t
def qX(prog:Program)(w:World)(x:Str)(t:Tok):(Ŏ prog w).is (.inr x) (.str x t)=true:=yG x t
end L2
namespace L2
open PySem PySem.Spec PyProof.Rows
inductive V where
 |non|bl (b:Bool)|int (i:Int)|str (x:Str)|IV (b:Array UInt8)|flt (b:UInt64)|ref (a:Addr)|ty (n:String)
 deriving DecidableEq
def RelV:V->Value->Prop
 | .non,u=>u=Value.none
 | .bl b,u=>u=Value.bool b
 | .int i,u=>∃t,u=Value.int i t
 | .str x,u=>∃t,u=Value.str x t
 | .IV b,u=>∃t,u=Value.bytes b t
 | .flt b,u=>∃t,u=Value.float b t
 | .ref a,u=>u=Value.ref a
 | .ty n,u=>u=Value.type n
abbrev Vals:List V->List Value->Prop:=Paired RelV
theorem Vals.length{xs:List V}{us:List Value}(r:Vals xs us):xs.length=us.length:=Paired.length r
theorem Vals.get:∀{xs:List V} {us:List Value} {i:Nat} {x:V},Vals xs us->xs[i]?=some x->∃u,us[i]?=some u/\RelV x u
 |_,_,_,_,.nil,e=>by simp at e
 |_,_,0,_,.cons r _,e=>by simp at e;subst e;exact⟨_,rfl,r⟩
 |_,_,i+1,x,.cons _ t,e=>by
  obtain⟨u,h1,h2⟩:=Vals.get (i:=i) (x:=x) t (by simpa using e)
  exact⟨u,by simpa using h1,h2⟩
theorem Vals.set{x:V}{u:Value}(r:RelV x u):∀{xs:List V} {us:List Value} (i:Nat),Vals xs us->Vals (xs.set i x) (us.set i u)
 |_,_,_,.nil=>.nil
 |_,_,0,.cons _ t=>.cons r t
 |_,_,i+1,.cons q t=>.cons q (Vals.set r i t)
theorem Vals.append:∀{xs ys:List V} {us ws:List Value},Vals xs us->Vals ys ws->Vals (xs++ys) (us++ws)
 |_,_,_,_,.nil,s=>s
 |_,_,_,_,.cons r t,s=>.cons r (Vals.append t s)
theorem Vals.take:∀{xs:List V} {us:List Value} (n:Nat),Vals xs us->Vals (xs.take n) (us.take n)
 |_,_,0,_=>.nil
 |_,_,_+1,.nil=>.nil
 |_,_,n+1,.cons r t=>.cons r (Vals.take n t)
theorem Vals.drop:∀{xs:List V} {us:List Value} (n:Nat),Vals xs us->Vals (xs.drop n) (us.drop n)
 |_,_,0,r=>r
 |_,_,_+1,.nil=>.nil
 |_,_,n+1,.cons _ t=>Vals.drop n t
def eG:Option V->Option Value->Prop
 |some v,some u=>RelV v u
 |none,none=>True
 |_,_=>False
def KV{κ:Type}:List (κ×V)->List (κ×Value)->Prop:=Paired λ(p:κ×V) (q:κ×Value)=>p.1=q.1/\RelV p.2 q.2
def kV:Key->V
 | .inl i=>.int i
 | .inr x=>.str x
inductive HO where
 /-- a list -/
 |lst (xs:List V)
 /-- a tuple (never changes) -/
 |tup (xs:List V)
 /-- a dict whose keys are ints and texts;one whose keys are tuples of ints and texts (the empty one is both) -/
 |dK (kvs:List (Key×V))|dT (kvs:List (List Key×V))
 /-- a set of ints:its members,its size -/
 |set (S:Int->Bool) (n:Nat)
 /-- an instance of the class at C,its dict at dx,its attributes -/
 |ins (C dx:Addr) (fs:List (Str×V))
 /-- the dict of the instance at x -/
 |own (x:Addr)
 /-- the dict of an exception -/
 |xd (fs:List (Str×V))
 /-- a bound method,f of x -/
 |met (f x:Addr)
 /-- a range object lo,lo+1,.. below hi -/
 |rng (lo hi:Int)
 /-- a thing that is known to the object (the script;a dict while a loop walks it):read,never written while it is so -/
 |ak (o:Obj) (u:HO)
 /-- a code object's table -/
 |eO (q:Str)
 /-- a code made of such a table,by its name -/
 |Om (q:Str)
 /-- any other thing,by what is true of its one object (a def of one's own:Zcf a S n:=HO.ext λh=>..) -/
 |ext (φ:Heap->Prop)
abbrev Hp:=Addr->Option HO
def upd(H:Hp)(a:Addr)(o:HO):Hp:=λb=>if b=a then some o else H b
def ĝ{H:Hp}{a:Addr}{o:HO}:upd H a o a=some o:=by unfold upd;rw[if_pos rfl]
def Ě{H:Hp}{a b:Addr}{o:HO}(h:b≠a):upd H a o b=H b:=by unfold upd;rw[if_neg h]
def Ur{H:Hp}{a b:Addr}{o u:HO}(h:H a=some o)(h':H b=some u)(d:o≠u):a≠b:=by
 intro e;subst e;rw[h] at h';exact d (Option.some.inj h')
def ı{H:Hp}{a b:Addr}{o:HO}(h:H a=some o)(h':H b=none):a≠b:=by
 intro e;subst e;rw[h] at h';cases h'
section
variable(P:Program)(w:World)
def ō(H:Hp)(h:Heap)(a:Addr):HO->Prop
 | .lst xs=>xs.length<=sizeLine/\∃(its:List Value) (n:Nat),Vals xs its/\h.get? a=some {cls:=.type "list",data:=.seq its.toArray n}
 | .tup xs=>xs.length<=sizeLine/\∃its:List Value,Vals xs its/\IsTup h a its.toArray
 | .dK kvs=>kvs.length<=sizeLine/\(a== sysModules)=false/\∃vs,KV kvs vs/\h.DictOf (Ŏ P w) a vs
 | .dT kvs=>kvs.length≤sizeLine∧(a== sysModules)=false∧∃xs:List (List Key×Addr×Value),
     Paired (λ(p:List Key×V) (q:List Key×Addr×Value)=>p.1=q.1/\H q.2.1=some (.tup (p.1.map kV))/\RelV p.2 q.2.2) kvs xs/\
     ∃o es ep,h.get? a=some o/\o.ExactDict/\o.data=.dict es ep/\es.toList=xs.map (entryOfKey (tupleKind (Ŏ P w)))/\(xs.map (·.1)).Nodup
 | .set S n=>h.SetOf (intKind P w) a S n
 | .ins C dx fs=>H dx=some (.own a)∧fs.length≤1000∧dx≠a∧h.get? a=some (PySem.W.instObj C dx)∧
     ∃mA,h.Ns1 dx mA/\(∀f,eG (fs.lookup f) (mA f))/\PySem.Within mA (fs.map (·.1))
 | .own _=>∃o,h.get? a=some o
 | .xd fs=>∃mA,h.Ns1 a mA/\∀f,eG (fs.lookup f) (mA f)
 | .rng lo hi=>∃t u v,h.get? a=some {cls:=.type "range",data:=.fields #[.int lo t,.int hi u,.int 1 v]}
 | .ak o u=>h.get? a=some o/\ō H h a u
 | .eO q=>∃ps:Array Value,h.get? a=some {cls:=.none,data:=.fields ps}/\TriplesOk ps.toList/\∀pos cv,codeAmong pos ps.toList=some cv->∃c,cv=.ref c/\H c=some (.Om q)
 | .Om q=>h.CodeRec (.ref a) q
 | .met f x=>h.get? a=some (PySem.W.methodObj (.ref f) (.ref x))
 | .ext φ=>φ h/\(∃o,h.get? a=some o)/\∀h1 h2:Heap,φ h1->(∀o,h1.get? a=some o->h2.get? a=some o)->φ h2
def cQ(H:Hp)(h:Heap):Prop:=∀a o,H a=some o->ō P w H h a o
end
section
variable{P:Program}{w:World}{H H':Hp}{h h':Heap}{a:Addr}{o:HO}
theorem ō.lt(x:ō P w H h a o):a<h.objs.size:=by
 cases o with
 |lst xs=>obtain⟨_,_,_,_,e⟩:=x;exact Heap.lt_size e
 |tup xs=>obtain⟨_,_,_,p⟩:=x;exact p.lt
 |dK kvs=>obtain⟨_,_,_,_,o,_,_,e,_⟩:=x;exact Heap.lt_size e
 |dT kvs=>obtain⟨_,_,_,_,o,_,_,e,_⟩:=x;exact Heap.lt_size e
 |set S n=>obtain⟨o,_,_,_,e,_⟩:=x;exact Heap.lt_size e
 |ins C dx fs=>obtain⟨_,_,_,e,_⟩:=x;exact Heap.lt_size e
 |own y=>obtain⟨_,e⟩:=x;exact Heap.lt_size e
 |xd fs=>obtain⟨_,⟨_,_,_,e,_⟩,_⟩:=x;exact Heap.lt_size e
 |rng lo hi=>obtain⟨_,_,_,e⟩:=x;exact Heap.lt_size e
 |ak ob u=>obtain⟨e,_⟩:=x;exact Heap.lt_size e
 |eO q=>obtain⟨_,e,_⟩:=x;exact Heap.lt_size e
 |Om q=>obtain⟨c,o,_,_,z,e,_⟩:=x;cases z;exact Heap.lt_size e
 |met f y=>exact Heap.lt_size (show h.get? a=some _ from x)
 |ext φ=>obtain⟨_,⟨_,e⟩,_⟩:=x;exact Heap.lt_size e
theorem Paired.Fy{α β:Type}{F G:α->β->Prop}:∀{l₁:List α} {l₂:List β},Paired F l₁ l₂->(∀a b,F a b->G a b)->Paired G l₁ l₂
 |_,_,.nil,_=>.nil
 |_,_,.cons r t,f=>.cons (f _ _ r) (Paired.Fy t f)
def ō.stay(x:ō P w H h a o)(k:∀b u,(b=a\/H b=some (.own a))->h.get? b=some u->h'.get? b=some u)
 (ho:∀b,H b=some (.own a)->H' b=some (.own a))(ht:∀b xs,H b=some (.tup xs)->H' b=some (.tup xs))(hc:∀b q,H b=some (.Om q)->H' b=some (.Om q):=by exact λ_ _ z=>z):ō P w H' h' a o:=by
 induction o with
 |lst xs=>obtain⟨z,its,n,r,e⟩:=x;exact⟨z,its,n,r,k _ _ (.inl rfl) e⟩
 |tup xs=>obtain⟨z,its,r,ob,e,c⟩:=x;exact⟨z,its,r,ob,k _ _ (.inl rfl) e,c⟩
 |dK kvs=>obtain⟨z,y,vs,r,ob,es,ep,e,c⟩:=x;exact⟨z,y,vs,r,ob,es,ep,k _ _ (.inl rfl) e,c⟩
 |dT kvs=>
  obtain⟨z,y,xs,r,ob,es,ep,e,c⟩:=x
  exact⟨z,y,xs,Paired.Fy r λp q z=>⟨z.1,ht _ _ z.2.1,z.2.2⟩,ob,es,ep,k _ _ (.inl rfl) e,c⟩
 |set S n=>obtain⟨ob,es,ep,t,e,c⟩:=x;exact⟨ob,es,ep,t,k _ _ (.inl rfl) e,c⟩
 |ins C dx fs=>
  obtain⟨d,z,ne,e,mA,⟨od,es,ep,e2,c⟩,r⟩:=x
  exact⟨ho _ d,z,ne,k _ _ (.inl rfl) e,mA,⟨od,es,ep,k _ _ (.inr d) e2,c⟩,r⟩
 |own y=>obtain⟨ob,e⟩:=x;exact⟨ob,k _ _ (.inl rfl) e⟩
 |xd fs=>obtain⟨mA,⟨od,es,ep,e,c⟩,r⟩:=x;exact⟨mA,⟨od,es,ep,k _ _ (.inl rfl) e,c⟩,r⟩
 |rng lo hi=>obtain⟨t,u,v,e⟩:=x;exact⟨t,u,v,k _ _ (.inl rfl) e⟩
 |ak ob u ih=>obtain⟨e,q⟩:=x;exact⟨k _ _ (.inl rfl) e,ih q⟩
 |eO q=>
  obtain⟨ps,e,t,r⟩:=x
  exact⟨ps,k a _ (.inl rfl) e,t,λpos cv z=>let ⟨c,z1,z2⟩:=r pos cv z;⟨c,z1,hc c q z2⟩⟩
 |Om q=>
  obtain⟨c,o,vs,t,z,e,r⟩:=x
  cases z
  exact⟨a,o,vs,t,rfl,k a _ (.inl rfl) e,r⟩
 |met f y=>
  have e:h.get? a=some (PySem.W.methodObj (.ref f) (.ref y)):=x
  show h'.get? a=some (PySem.W.methodObj (.ref f) (.ref y))
  exact k a _ (.inl rfl) e
 |ext φ=>obtain⟨p,⟨o,e⟩,st⟩:=x;exact⟨st _ _ p λo q=>k _ _ (.inl rfl) q,⟨o,k _ _ (.inl rfl) e⟩,st⟩
theorem cQ.lt(x:cQ P w H h)(e:H a=some o):a<h.objs.size:=(x a o e).lt
def cQ.fresh(x:cQ P w H h)(e:h.objs.size<=a):H a=none:=by
 cases q:H a with
 |none=>rfl
 |some u=>exact absurd (Nat.lt_of_lt_of_le (x.lt q) e) (Nat.lt_irrefl _)
def cQ.kept(x:cQ P w H h)(k:∀b u,h.get? b=some u->h'.get? b=some u):cQ P w H h':=λa o e=>
 (x a o e).stay (λb u _ q=>k b u q) (λ_ q=>q) λ_ _ q=>q
def cQ.laid(x:cQ P w H h)(k:∀b u,h.get? b=some u->h'.get? b=some u)(hp:h.objs.size<=a)(new:ō P w (upd H a o) h' a o):cQ P w (upd H a o) h':=λb u e=>by
 have hn:=x.fresh hp
 by_cases hb:b=a
 ·subst hb;rw[ĝ] at e;cases e;exact new
 ·rw[Ě hb] at e
  exact(x b u e).stay (λc v _ q=>k c v q) (λc q=>by rw[Ě (ı q hn)];exact q) (λc xs q=>by rw[Ě (ı q hn)];exact q) λc xs q=>by rw[Ě (ı q hn)];exact q
end
def Rd(H:Hp)(a:Addr)(u:HO):Prop:=H a=some u\/∃o,H a=some (.ak o u)
def Rd.ok{P:Program}{w:World}{H:Hp}{h:Heap}{a:Addr}{u:HO}(r:Rd H a u)(x:cQ P w H h):ō P w H h a u:=by
 rcases r with r|⟨o,r⟩
 ·exact x a u r
 ·obtain⟨_,q⟩:=x a _ r
  exact q
def Us:Option HO->Prop
 |some (.lst _)=>True
 |some (.dK _)=>True
 |some (.dT _)=>True
 |some (.set _ _)=>True
 |some (.ins _ _ _)=>True
 |some (.ext _)=>True
 |some (.xd _)=>True
 |_=>False
section
variable{P:Program}{w:World}{H:Hp}{h h':Heap}{x e:Addr}{o':HO}
def cQ.write(ok:cQ P w H h)(mu:Us (H x))(he:e=x\/H e=some (.own x))(k:∀b u,b≠e->h.get? b=some u->h'.get? b=some u)(heo:∃u,h'.get? e=some u)
 (new:ō P w (upd H x o') h' x o'):cQ P w (upd H x o') h':=λb u q=>by
 have Ut:∀c y,H c=some (.own y)->c≠x:=λc y r z=>by subst z;rw[r] at mu;exact mu
 have Zas:∀c xs,H c=some (.tup xs)->c≠x:=λc xs r z=>by subst z;rw[r] at mu;exact mu
 have Zat:∀c q,H c=some (.Om q)->c≠x:=λc xs r z=>by subst z;rw[r] at mu;exact mu
 by_cases hb:b=x
 ·subst hb;rw[ĝ] at q;cases q;exact new
 ·rw[Ě hb] at q
  by_cases hbe:b=e
  ·have q':H b=some (.own x):=by
    rcases he with z|z
    ·exact absurd (hbe.trans z) hb
    ·rw[hbe];exact z
   rw[q] at q';cases q'
   obtain⟨v,hv⟩:=heo
   exact⟨v,by rw[hbe];exact hv⟩
  ·refine(ok b u q).stay (λc v hc r=>k c v ?_ r) (λc r=>by rw[Ě (Ut c b r)];exact r) (λc xs r=>by rw[Ě (Zas c xs r)];exact r) λc xs r=>by rw[Ě (Zat c xs r)];exact r
   rcases hc with rfl|hc
   ·exact hbe
   ·rintro rfl
    rcases he with z|z
    ·exact Ut c b hc z
    ·rw[hc] at z;cases z;exact hb rfl
end
structure Un(fs ex:List Addr)(H H':Hp)(h h':Heap):Prop where
 keep:∀b o,h.get? b=some o->H b=none->b∉fs->b∉ex->h'.get? b=some o
 slot:∀b o,h.get? b=some o->H b=none->b∈fs->b∉ex->∃sl,h'.get? b=some {o with slots:=sl}
 free:∀b o,h.get? b=some o->H b=none->b∉ex->H' b=none
 there:∀b o,h.get? b=some o->b∉ex->∃o',h'.get? b=some o'
 tups:∀b xs,H b=some (.tup xs)->H' b=some (.tup xs)
 mj:∀b o u,H b=some (.ak o u)->H' b=some (.ak o u)
 jl:∀b q,H b=some (.eO q)->H' b=some (.eO q)
section
variable{fs fs' ex ex':List Addr}{H H1 H2:Hp}{h h1 h2 h':Heap}{a x e:Addr}{o:HO}
def Un.any(u:Un fs ex H H1 h h1){b:Addr}{ob:Obj}(q:h.get? b=some ob)(n:H b=none)(hx:b∉ex):∃sl,h1.get? b=some {ob with slots:=sl}:=by
 by_cases hb:b∈fs
 ·exact u.slot b ob q n hb hx
 ·exact⟨ob.slots,u.keep b ob q n hb hx⟩
def Un.kept(k:∀b u,h.get? b=some u->h'.get? b=some u):Un fs ex H H h h':=
 ⟨λb ob q _ _ _=>k b ob q,λb ob q _ _ _=>⟨ob.slots,k b ob q⟩,λ_ _ _ n _=>n,λb ob q _=>⟨ob,k b ob q⟩,λ_ _ q=>q,λ_ _ _ q=>q,λ_ _ q=>q⟩
def Un.refl:Un fs ex H H h h:=Un.kept λ_ _ q=>q
def Un.laid(k:∀b u,h.get? b=some u->h'.get? b=some u)(hp:h.objs.size<=a)(hn:H a=none):Un fs ex H (upd H a o) h h' where
 keep:=λb u q _ _ _=>k b u q
 slot:=λb u q _ _ _=>⟨u.slots,k b u q⟩
 free:=λb u q n _=>by rw[Ě (Nat.ne_of_lt (Nat.lt_of_lt_of_le (Heap.lt_size q) hp))];exact n
 there:=λb u q _=>⟨u,k b u q⟩
 tups:=λb xs q=>by rw[Ě (ı q hn)];exact q
 mj:=λb u xs q=>by rw[Ě (ı q hn)];exact q
 jl:=λb ps q=>by rw[Ě (ı q hn)];exact q
def Un.write(mu:Us (H x))(he:e=x\/H e=some (.own x))(k:∀b u,b≠e->h.get? b=some u->h'.get? b=some u)(heo:∃u,h'.get? e=some u):Un fs ex H (upd H x o) h h':=by
 have hx:∀b,H b=none->b≠x:=λb n z=>by subst z;rw[n] at mu;exact mu
 have hb:∀b,H b=none->b≠e:=λb n z=>by
  subst z
  rcases he with r|r
  ·exact hx b n r
  ·rw[n] at r;cases r
 have hm:∀b u,H b=some u->¬Us (some u)->b≠x:=λb u q nm z=>by subst z;rw[q] at mu;exact nm mu
 refine⟨λb u q n _ _=>k b u (hb b n) q,λb u q n _ _=>⟨u.slots,k b u (hb b n) q⟩,λb u q n _=>by rw[Ě (hx b n)];exact n,λb u q _=>?_,
  λb xs q=>by rw[Ě (hm b _ q λz=>z)];exact q,λb u xs q=>by rw[Ě (hm b _ q λz=>z)];exact q,λb ps q=>by rw[Ě (hm b _ q λz=>z)];exact q⟩
 by_cases hbe:b=e
 ·subst hbe;exact heo
 ·exact⟨u,k b u hbe q⟩
end
def Yn(h:Heap)(H:Hp):List Addr:=(List.range h.objs.size).filter λa=>(H a).isSome
def mq(h:Heap)(H:Hp):Heap:=PySem.W.hideAll h (Yn h H)
def yH(h:Heap)(H:Hp):(mq h H).objs.size=h.objs.size:=PySem.W.hideAll_size _ _
def zY{h:Heap}{H:Hp}{b:Addr}{o:Obj}(e:h.get? b=some o)(n:H b=none):(mq h H).get? b=some o:=
 PySem.W.hideAll_get _ e λhm=>by
  have q:(H b).isSome=true:=(List.mem_filter.mp hm).2
  rw[n] at q;simp at q
def Fz{h:Heap}{H:Hp}{b:Addr}{o:Obj}(e:(mq h H).get? b=some o):h.get? b=some o/\H b=none:=by
 have e':h.get? b=some o:=PySem.W.of_hideAll (Yn h H) e
 refine⟨e',?_⟩
 cases q:H b with
 |none=>rfl
 |some x=>
  have hm:b∈Yn h H:=List.mem_filter.mpr ⟨List.mem_range.mpr (Heap.lt_size e'),by simp[q]⟩
  have z:(mq h H).get? b=none:=PySem.W.hideAll_none (Yn h H) hm
  rw[z] at e;cases e
def FJ(g h:Heap)(L:Addr):List (Addr×Obj):=(List.range h.objs.size).filterMap λa=>if a=L\/(g.get? a).isSome=true then none else(h.get? a).map λo=>(a,o)
def rest(g h:Heap)(L d:Addr):List (Addr×Obj):=(FJ g h L).filter λp=>decide (p.1≠d)
end L2
namespace L2
open PySem PySem.Spec PyProof.Rows
structure Mod(K:PySem.W.Frag)(mg:Str->Option Value)(base:Heap):Prop where
 Yo:K.In base
 glob:base.Ns mainGlobals mg
 blt:∃mb,base.Ns builtinsNs mb/\∀x:Str,x≠ "__name__" ->mb x=bootBuiltins x
 nolimit:base.NoLimit
def lams:List Str:=[]
abbrev oO(x:Str):Str:=(x ++ ".<locals>.") ++ "<lambda>"
def TabsOk(K:PySem.W.Frag)(mg:Str->Option Value)(base:Heap)(H:Hp):Prop:=∀x c P,x∈lams->PySem.W.tabIn K x=some (c,P)->PySem.W.CodeHd base c P/\H P=some (.eO (oO x))/\base.BuiltinsAt mg P
structure Cx where
 prog:Program
 w:World
 K:PySem.W.Frag
 mg:Str->Option Value
 base:Heap
 A:Around
 N:List Str
 s₀:Shared
 H₀:Hp
 env:Env
 outer:List Env
 stack:List Env
 ex:List Addr
 fn:Str->Bool
 calm:Bool
 pn:List (Addr×Obj)
 xe:Value->Shared->Prop
def frs(l:List Env):List Addr:=l.filterMap (·.frame)
abbrev Cx.fs(X:Cx):List Addr:=frs X.outer
def uf(sc:Scope)(x:Str):Prop:=sc.names.lookup x=some .local\/sc.names.lookup x=some .cell\/sc.names.lookup x=some .free
def Loc(sc:Scope)(x:Str):Prop:=sc.names.lookup x=some .local\/sc.names.lookup x=some .cell
def Look(env:Env)(h:Heap)(m:Str->Option Value)(x:Str)(u:Value):Prop:=
 (env.kindOf x=some .local/\m x=some u)\/((env.kindOf x=some .cell\/env.kindOf x=some .free)/\∃c,env.cells.lookup x=some c/\h.IsCell c (some u))
structure Cx.Ok(X:Cx):Prop where
 mod:Mod X.K X.mg X.base
 kind:X.env.scope.kind=.function
 glob:X.env.globals=mainGlobals
 blt:X.env.builtins=builtinsNs
 above:X.s₀.heap.objs.size<=X.env.locals
 inj:∀x y c,X.env.cells.lookup x=some c->X.env.cells.lookup y=some c->x=y
 has:∀x,(X.env.kindOf x=some .cell\/X.env.kindOf x=some .free)->∃c,X.env.cells.lookup x=some c
 cab:∀x c,X.fn x=true->X.env.cells.lookup x=some c->X.s₀.heap.objs.size<=c
 hd:X.calm=true->X.A.handled=none
 frames:X.A.frames=some X.stack
 stk:X.stack=X.outer\/(X.stack=X.env::X.outer/\X.env.frame=some X.env.locals)
 exf:∀b∈X.ex,b≠X.env.locals/\∀x c,X.env.cells.lookup x=some c->c≠b
 bs:∀b o,X.base.get? b=some o->X.s₀.heap.get? b=some o/\X.H₀ b=none
 FN:X.base.objs.size<=X.s₀.heap.objs.size
 zZ:∀b o,X.base.get? b=some o->b∉X.ex
 FP:∀b∈X.ex,b∉X.fs
 jm:X.s₀.heap.FunFrames X.base X.outer
 Oo:∀b∈X.fs,X.H₀ b=none
 tb:TabsOk X.K X.mg X.base X.H₀
structure Inv(X:Cx)(pins:List (Addr×Obj))(σ:List (Option V))(H:Hp)(s:Shared):Prop where
 ok:X.Ok
 os:s.os=X.s₀.os
 bare:AllBare s.gens
 base:Un X.fs X.ex X.H₀ H X.s₀.heap s.heap
 loc:∃m,s.heap.Ns X.env.locals m/\∀(i:Nat) (x:Str) (v:V),X.N[i]?=some x->σ[i]?=some (some v)->uf X.env.scope x->∃u,RelV v u/\Look X.env s.heap m x u
 cell:∀x c,X.env.cells.lookup x=some c->∃v,s.heap.IsCell c v
 free:H X.env.locals=none
 eU:∀x c,X.env.cells.lookup x=some c->H c=none
 pin:∀p∈X.pn++pins,s.heap.get? p.1=some p.2/\H p.1=none/\p.1≠X.env.locals/\p.1∉X.fs/\∀v,p.2.data≠ .cell v
 hok:cQ X.prog X.w H s.heap
 len:σ.length=X.N.length
section
variable{X:Cx}{pins:List (Addr×Obj)}{σ:List (Option V)}{H H':Hp}{s:Shared}{h':Heap}
def Cx.Ok.Zau(ok:X.Ok){b:Addr}{o:Obj}(e:X.base.get? b=some o):b∉X.fs:=λhb=>by
 have:=(ok.jm.mem hb).1
 rw[e] at this;cases this
theorem Inv.bs(I:Inv X pins σ H s):∀b o,X.base.get? b=some o->s.heap.get? b=some o/\H b=none:=λb o e=>
 ⟨I.base.keep b o (I.ok.bs b o e).1 (I.ok.bs b o e).2 (I.ok.Zau e) (I.ok.zZ b o e),I.base.free b o (I.ok.bs b o e).1 (I.ok.bs b o e).2 (I.ok.zZ b o e)⟩
def Inv.bk(I:Inv X pins σ H s):∀b o,X.base.get? b=some o->s.heap.get? b=some o:=λb o e=>(I.bs b o e).1
theorem Inv.tb(I:Inv X pins σ H s):TabsOk X.K X.mg X.base H:=λx c P hx e=>⟨(I.ok.tb x c P hx e).1,I.base.jl _ _ (I.ok.tb x c P hx e).2.1,(I.ok.tb x c P hx e).2.2⟩
theorem Inv.mod(I:Inv X pins σ H s):Mod X.K X.mg X.base:=I.ok.mod
def Inv.yI(I:Inv X pins σ H s):X.K.In s.heap:=I.ok.mod.Yo.keeps I.bk
theorem Inv.lt(I:Inv X pins σ H s):X.env.locals<s.heap.objs.size:=let ⟨_,hn,_⟩:=I.loc;hn.lt
def Inv.sz(I:Inv X pins σ H s):X.s₀.heap.objs.size<=s.heap.objs.size:=Nat.le_trans I.ok.above (Nat.le_of_lt I.lt)
def Inv.Zav(I:Inv X pins σ H s){a:Addr}(h:s.heap.objs.size<=a):a∉X.fs:=λhb=>by
 obtain⟨_,o,ho,_⟩:=I.ok.jm.mem hb
 exact absurd (Nat.lt_of_lt_of_le (Heap.lt_size ho) (Nat.le_trans I.sz h)) (Nat.lt_irrefl _)
def Inv.Oq(I:Inv X pins σ H s):∀x c,X.env.cells.lookup x=some c->c≠X.env.locals:=λx c e z=>by
 obtain⟨v,o,ho,hd⟩:=I.cell x c e
 obtain⟨m,⟨o',es,ep,ho',hd',_⟩,_⟩:=I.loc
 rw[z,ho'] at ho;cases ho;rw[hd'] at hd;cases hd
theorem Inv.jm(I:Inv X pins σ H s):s.heap.FunFrames X.base X.outer:=by
 have all:∀(l:List Env),(∀b∈frs l,b∈X.fs)->X.s₀.heap.FunFrames X.base l->s.heap.FunFrames X.base l:=by
  intro l
  induction l with
  |nil=>intro _ _;trivial
  |cons env r ih=>
   intro hs hl
   obtain⟨hk,⟨L,o,hf,hn,ho,hd⟩,hr⟩:=hl
   have hL:L∈X.fs:=hs L (by unfold frs;rw[List.filterMap_cons,hf];exact List.mem_cons_self)
   obtain⟨sl,e⟩:=I.base.slot L o ho (I.ok.Oo L hL) hL λz=>I.ok.FP L z hL
   exact⟨hk,⟨L,_,hf,hn,e,hd⟩,ih (λb hb=>hs b (by unfold frs;rw[List.filterMap_cons,hf];exact List.mem_cons_of_mem _ hb)) hr⟩
 exact all X.outer (λ_ hb=>hb) I.ok.jm
theorem Inv.stack(I:Inv X pins σ H s):s.heap.FunFrames X.base X.stack:=by
 rcases I.ok.stk with e|⟨e,hf⟩
 ·rw[e];exact I.jm
 ·rw[e]
  obtain⟨m,hn,_⟩:=I.loc
  refine .cons (by rw[I.ok.kind];decide) hf hn ?_ I.jm
  exact Heap.get?_none_of_le (Nat.le_trans I.ok.FN I.ok.above)
def Inv.jN(I:Inv X pins σ H s):∀b∈frs X.stack,b∈X.env.locals::X.fs:=λb hb=>by
 rcases I.ok.stk with e|⟨e,hf⟩
 ·rw[e] at hb;exact List.mem_cons_of_mem _ hb
 ·rw[e] at hb
  unfold frs at hb
  rw[List.filterMap_cons,hf] at hb
  exact hb
def Inv.wI(I:Inv X pins σ H s):∀b∈frs X.stack,H b=none:=λb hb=>by
 rcases List.mem_cons.mp (I.jN b hb) with e|hb
 ·rw[e];exact I.free
 ·obtain⟨_,o,ho,_⟩:=I.ok.jm.mem hb
  exact I.base.free b o ho (I.ok.Oo b hb) λz=>I.ok.FP b z hb
def Inv.step{g':Array GenState}{t':Nat}{d':Drawn}{ch:List Addr}(I:Inv X pins σ H s)
 (hch:∀b∈ch,(b∈X.ex\/X.s₀.heap.objs.size<=b)/\b≠X.env.locals/\(∀x c,X.env.cells.lookup x=some c->c≠b)/\∀p∈X.pn++pins,p.1≠b)
 (keep:∀b o,b≠X.env.locals->b∉X.fs->b∉ch->s.heap.get? b=some o->H b=none->h'.get? b=some o)
 (slot:∀b o,b≠X.env.locals->b∈X.fs->b∉ch->s.heap.get? b=some o->H b=none->∃sl,h'.get? b=some {o with slots:=sl})(free:∀b o,b∉ch->s.heap.get? b=some o->H b=none->H' b=none)
 (there:∀b o,b∉ch->s.heap.get? b=some o->∃o',h'.get? b=some o')
 (tups:∀b xs,H b=some (.tup xs)->H' b=some (.tup xs))(mj:∀b o u,H b=some (.ak o u)->H' b=some (.ak o u))(jl:∀b q,H b=some (.eO q)->H' b=some (.eO q))
 (ns:∀m,s.heap.Ns X.env.locals m->h'.Ns X.env.locals m)(hok:cQ X.prog X.w H' h')(hg:AllBare g') :
 Inv X pins σ H' {s with heap:=h',gens:=g',drawn:=d',toks:=t'}:=by
 have neL:∀b o,X.s₀.heap.get? b=some o->b≠X.env.locals:=λb o e=>Nat.ne_of_lt (Nat.lt_of_lt_of_le (Heap.lt_size e) I.ok.above)
 have Yp:∀b o,X.s₀.heap.get? b=some o->b∉X.ex->b∉ch:=λb o e hx hb=>by
  rcases(hch b hb).1 with z|z
  ·exact hx z
  ·exact absurd (Nat.lt_of_lt_of_le (Heap.lt_size e) z) (Nat.lt_irrefl _)
 have cellK:∀x c,X.env.cells.lookup x=some c->∀v,s.heap.IsCell c v->h'.IsCell c v:=λx c e v ⟨o,ho,hd⟩=>by
  have Uu:c∉ch:=λz=>(hch c z).2.2.1 x c e rfl
  by_cases hc:c∈X.fs
  ·obtain⟨sl,q⟩:=slot c o (I.Oq x c e) hc Uu ho (I.eU x c e)
   exact⟨_,q,hd⟩
  ·exact⟨o,keep c o (I.Oq x c e) hc Uu ho (I.eU x c e),hd⟩
 refine⟨I.ok,I.os,hg,⟨λb o e n hb hx=>?_,λb o e n hb hx=>?_,λb o e n hx=>?_,λb o e hx=>?_,λb xs e=>tups b xs (I.base.tups b xs e),λb o xs e=>mj b o xs (I.base.mj b o xs e),λb ps e=>?_⟩,?_,λx c e=>?_,?_,λx c e=>?_,λp hp=>?_,hok,I.len⟩
 ·exact keep b o (neL b o e) hb (Yp b o e hx) (I.base.keep b o e n hb hx) (I.base.free b o e n hx)
 ·obtain⟨sl,e1⟩:=I.base.slot b o e n hb hx
  obtain⟨sl',e2⟩:=slot b _ (neL b o e) hb (Yp b o e hx) e1 (I.base.free b o e n hx)
  exact⟨sl',e2⟩
 ·obtain⟨o',e1⟩:=I.base.there b o e hx
  exact free b o' (Yp b o e hx) e1 (I.base.free b o e n hx)
 ·obtain⟨o',e1⟩:=I.base.there b o e hx
  exact there b o' (Yp b o e hx) e1
 ·exact jl b ps (I.base.jl b ps e)
 ·obtain⟨m,hn,hl⟩:=I.loc
  refine⟨m,ns m hn,λi x v e1 e2 e3=>?_⟩
  obtain⟨u,r,l⟩:=hl i x v e1 e2 e3
  refine⟨u,r,?_⟩
  rcases l with l|⟨k,c,e,z⟩
  ·exact .inl l
  ·exact .inr ⟨k,c,e,cellK x c e _ z⟩
 ·obtain⟨v,z⟩:=I.cell x c e
  exact⟨v,cellK x c e v z⟩
 ·obtain⟨m,⟨o,_,_,ho,_⟩,_⟩:=I.loc
  exact free _ o (λz=>(hch _ z).2.1 rfl) ho I.free
 ·obtain⟨v,o,ho,hd⟩:=I.cell x c e
  exact free c o (λz=>(hch c z).2.2.1 x c e rfl) ho (I.eU x c e)
 ·obtain⟨e,n,ne,nf,d⟩:=I.pin p hp
  have Uu:p.1∉ch:=λz=>(hch p.1 z).2.2.2 p hp rfl
  exact⟨keep p.1 p.2 ne nf Uu e n,free p.1 p.2 Uu e n,ne,nf,d⟩
def Inv.un{t':Nat}(I:Inv X pins σ H s)(u:Un X.fs [] H H' s.heap h')(hok:cQ X.prog X.w H' h'):Inv X pins σ H' {s with heap:=h',toks:=t'}:=by
 obtain⟨m,⟨o,es,ep,ho,r⟩,_⟩:=id I.loc
 obtain⟨sl,hL⟩:=u.any ho I.free (by simp)
 exact I.step (g':=s.gens) (d':=s.drawn) (ch:=[]) (λ_ z=>nomatch z) (λb o _ hb _ e n=>u.keep b o e n hb (by simp)) (λb o _ hb _ e n=>u.slot b o e n hb (by simp)) (λb o _ e n=>u.free b o e n (by simp)) (λb o _ e=>u.there b o e (by simp)) u.tups u.mj u.jl (λm' hm=>by
  obtain⟨o',es',ep',ho',r'⟩:=hm
  rw[ho] at ho';cases ho'
  exact⟨_,es',ep',hL,r'⟩) hok I.bare
def Inv.call{g':Array GenState}{t':Nat}{d':Drawn}{ch:List Addr}(I:Inv X pins σ H s)(u:Un (frs X.stack) ch H H' s.heap h')(hok:cQ X.prog X.w H' h')(hg:AllBare g')
 (hch:∀b∈ch,(b∈X.ex\/X.s₀.heap.objs.size<=b)/\b≠X.env.locals/\(∀x c,X.env.cells.lookup x=some c->c≠b)/\∀p∈X.pn++pins,p.1≠b) :
 Inv X pins σ H' {s with heap:=h',gens:=g',drawn:=d',toks:=t'}:=by
 obtain⟨m,⟨o,es,ep,ho,r⟩,_⟩:=id I.loc
 obtain⟨sl,hL⟩:=u.any ho I.free λz=>(hch _ z).2.1 rfl
 exact I.step (ch:=ch) hch (λb o hL hb hc e n=>u.keep b o e n (λz=>(List.mem_cons.mp (I.jN b z)).elim hL hb) hc) (λb o _ _ hc e n=>u.any e n hc) (λb o hc e n=>u.free b o e n hc) (λb o hc e=>u.there b o e hc) u.tups u.mj u.jl (λm' hm=>by
  obtain⟨o',es',ep',ho',r'⟩:=hm
  rw[ho] at ho';cases ho'
  exact⟨_,es',ep',hL,r'⟩) hok hg
def Inv.turned{t':Nat}{it:Addr}(I:Inv X pins σ H s)(k:∀b o,b≠it->s.heap.get? b=some o->h'.get? b=some o)(hn:H it=none)(hL:it≠X.env.locals)
 (h1:it∈X.ex\/X.s₀.heap.objs.size<=it)(h2:∀x c,X.env.cells.lookup x=some c->c≠it)(h3:∀p∈X.pn++pins,p.1≠it):Inv X pins σ H {s with heap:=h',toks:=t'}:=by
 have Uv:∀b u,H b=some u->b≠it:=λb u e z=>by rw[z,hn] at e;cases e
 refine I.step (g':=s.gens) (d':=s.drawn) (ch:=[it]) (λb hb=>?_) (λb o _ _ hc e _=>k b o (λz=>hc (by simp[z])) e) (λb o _ _ hc e _=>⟨o.slots,k b o (λz=>hc (by simp[z])) e⟩) (λ_ _ _ _ n=>n)
  (λb o hc e=>⟨o,k b o (λz=>hc (by simp[z])) e⟩) (λ_ _ e=>e) (λ_ _ _ e=>e) (λ_ _ e=>e) (λm hm=>?_) (λb u e=>?_) I.bare
 ·have e:b=it:=by simpa using hb
  subst e
  exact⟨h1,hL,h2,h3⟩
 ·obtain⟨o,es,ep,ho,r⟩:=hm
  exact⟨o,es,ep,k _ o (Ne.symm hL) ho,r⟩
 ·refine(I.hok b u e).stay (λc v hc q=>k c v ?_ q) (λ_ q=>q) λ_ _ q=>q
  rcases hc with z|z
  ·rw[z];exact Uv b u e
  ·exact Uv c _ z
def Inv.tok(I:Inv X pins σ H s)(t:Nat):Inv X pins σ H {s with toks:=t}:=I.un (h':=s.heap) (t':=t) Un.refl I.hok
theorem Inv.kept{t':Nat}(I:Inv X pins σ H s)(k:∀b u,s.heap.get? b=some u->h'.get? b=some u):Inv X pins σ H {s with heap:=h',toks:=t'}:=I.un (Un.kept k) (I.hok.kept k)
theorem Inv.laid{a:Addr}{o:HO}{t':Nat}(I:Inv X pins σ H s)(k:∀b u,s.heap.get? b=some u->h'.get? b=some u)(hp:s.heap.objs.size<=a)(new:ō X.prog X.w (upd H a o) h' a o) :
 Inv X pins σ (upd H a o) {s with heap:=h',toks:=t'}:=I.un (Un.laid k hp (I.hok.fresh hp)) (I.hok.laid k hp new)
theorem Inv.write{x e:Addr}{o:HO}{t':Nat}(I:Inv X pins σ H s)(mu:Us (H x))(he:e=x\/H e=some (.own x))(k:∀b u,b≠e->s.heap.get? b=some u->h'.get? b=some u)(heo:∃u,h'.get? e=some u)
 (new:ō X.prog X.w (upd H x o) h' x o):Inv X pins σ (upd H x o) {s with heap:=h',toks:=t'}:=I.un (Un.write mu he k heo) (I.hok.write mu he k heo new)
def Inv.wJ{IW:List (Addr×Obj)}(I:Inv X pins σ H s)(h:∀p∈IW,s.heap.get? p.1=some p.2/\H p.1=none/\p.1≠X.env.locals/\p.1∉X.fs/\∀v,p.2.data≠ .cell v):Inv X IW σ H s:=
 ⟨I.ok,I.os,I.bare,I.base,I.loc,I.cell,I.free,I.eU,λp hp=>(List.mem_append.mp hp).elim (λz=>I.pin p (List.mem_append_left _ z)) (h p),I.hok,I.len⟩
def qY{N:List Str}(hN:N.Nodup){i j:Nat}{x:Str}(a:N[i]?=some x)(b:N[j]?=some x):i=j:=by
 obtain⟨h1,e1⟩:=List.getElem?_eq_some_iff.mp a
 obtain⟨h2,e2⟩:=List.getElem?_eq_some_iff.mp b
 exact(List.getElem_inj hN).mp (e1.trans e2.symm)
def mR{M:Model}{A:Around}{E:Value->Shared->Prop}{i:Nat}{x:Str}{v:V}{u:Value}{Q:Unit->Shared->Prop}(I:Inv X pins σ H s)(hN:X.N.Nodup)(hi:X.N[i]?=some x)(hx:Loc X.env.scope x)(r:RelV v u)
 (h:∀s',Inv X pins (σ.set i (some v)) H s'->(∃a,Heap.SameBut a s.heap s'.heap/\(a=X.env.locals\/X.env.cells.lookup x=some a))->Q () s')(hf:X.fn x=true\/X.env.scope.names.lookup x=some .local:=by first|exact .inl rfl|exact .inr rfl|assumption):wpAny M A (storeName X.env x u) Q E s:=by
 obtain⟨m,hn,hl⟩:=id I.loc
 have hcls:(X.env.scope.kind== .class || (X.env.scope.kind== .module && X.env.locals != X.env.globals))=false:=by rw[I.ok.kind];rfl
 have Zb4:i < σ.length:=by rw[I.len];exact(List.getElem?_eq_some_iff.mp hi).1
 have Oq:=I.Oq
 have tracked:∀{a:Addr} {h':Heap},(∃o,s.heap.get? a=some o/\H a=none)->Heap.SameBut a s.heap h'->cQ X.prog X.w H h':=fun{a h'} ha hs b ob e=>by
  obtain⟨_,_,hfree⟩:=ha
  refine(I.hok b ob e).stay (λc w' hc q=>(hs.2 c ?_).trans q) (λ_ q=>q) λ_ _ q=>q
  rintro rfl
  rcases hc with rfl|hc
  ·rw[hfree] at e;cases e
  ·rw[hfree] at hc;cases hc
 rcases hx with hk|hk
 ·refine wpAny_storeName_local hk hn (λh' hn' hs=>?_) hcls
  obtain⟨oL,_,_,hoL,_⟩:=id hn
  refine h _ ⟨I.ok,I.os,I.bare,⟨λb o e n hb hx=>?_,λb o e n hb hx=>?_,I.base.free,λb o e hx=>?_,I.base.tups,I.base.mj,I.base.jl⟩,⟨_,hn',λj y v' e1 e2 e3=>?_⟩,λy c e=>?_,I.free,I.eU,λp hp=>?_,tracked ⟨oL,hoL,I.free⟩ hs,by simpa using I.len⟩ ⟨_,hs,.inl rfl⟩
  ·exact(hs.2 b (Nat.ne_of_lt (Nat.lt_of_lt_of_le (Heap.lt_size e) I.ok.above))).trans (I.base.keep b o e n hb hx)
  ·obtain⟨sl,e1⟩:=I.base.slot b o e n hb hx
   exact⟨sl,(hs.2 b (Nat.ne_of_lt (Nat.lt_of_lt_of_le (Heap.lt_size e) I.ok.above))).trans e1⟩
  ·obtain⟨o',e1⟩:=I.base.there b o e hx
   exact⟨o',(hs.2 b (Nat.ne_of_lt (Nat.lt_of_lt_of_le (Heap.lt_size e) I.ok.above))).trans e1⟩
  ·by_cases hj:j=i
   ·subst hj
    rw[hi] at e1;cases e1
    rw[List.getElem?_set_self Zb4] at e2
    cases e2
    exact⟨u,r,.inl ⟨hk,by simp⟩⟩
   ·rw[List.getElem?_set_ne (Ne.symm hj)] at e2
    obtain⟨u',r',q⟩:=hl j y v' e1 e2 e3
    refine⟨u',r',?_⟩
    rcases q with⟨k,e⟩|⟨k,c,e,z⟩
    ·refine .inl ⟨k,?_⟩
     have:y≠x:=λe=>hj (qY hN e1 (e▸hi))
     simp[this,e]
    ·exact .inr ⟨k,c,e,z.sameBut hs (Oq y c e)⟩
  ·obtain⟨w',z⟩:=I.cell y c e
   exact⟨w',z.sameBut hs (Oq y c e)⟩
  ·obtain⟨e,n,ne,nf,d⟩:=I.pin p hp
   exact⟨(hs.2 p.1 ne).trans e,n,ne,nf,d⟩
 ·have hfn:X.fn x=true:=by
   rcases hf with z|z
   ·exact z
   ·rw[z] at hk;cases hk
  obtain⟨c,hc⟩:=I.ok.has x (.inl hk)
  obtain⟨w',z⟩:=I.cell x c hc
  refine wpAny_storeName_cell I.ok.kind hk hc z (λh' hc' hs=>?_)
  obtain⟨oc,hoc,Zaw⟩:=id z
  refine h {s with heap:=h'} ⟨I.ok,I.os,I.bare,⟨λb o e n hb hx=>?_,λb o e n hb hx=>?_,I.base.free,λb o e hx=>?_,I.base.tups,I.base.mj,I.base.jl⟩,⟨m,hn.sameBut hs (Ne.symm (Oq x c hc)),λj y v' e1 e2 e3=>?_⟩,λy c' e=>?_,I.free,I.eU,λp hp=>?_,tracked ⟨oc,hoc,I.eU x c hc⟩ hs,by simpa using I.len⟩ ⟨c,hs,.inr hc⟩
  ·exact(hs.2 b (Nat.ne_of_lt (Nat.lt_of_lt_of_le (Heap.lt_size e) (I.ok.cab x c hfn hc)))).trans (I.base.keep b o e n hb hx)
  ·obtain⟨sl,e1⟩:=I.base.slot b o e n hb hx
   exact⟨sl,(hs.2 b (Nat.ne_of_lt (Nat.lt_of_lt_of_le (Heap.lt_size e) (I.ok.cab x c hfn hc)))).trans e1⟩
  ·obtain⟨o',e1⟩:=I.base.there b o e hx
   exact⟨o',(hs.2 b (Nat.ne_of_lt (Nat.lt_of_lt_of_le (Heap.lt_size e) (I.ok.cab x c hfn hc)))).trans e1⟩
  ·by_cases hj:j=i
   ·subst hj
    rw[hi] at e1;cases e1
    rw[List.getElem?_set_self Zb4] at e2
    cases e2
    exact⟨u,r,.inr ⟨.inl hk,c,hc,hc'⟩⟩
   ·rw[List.getElem?_set_ne (Ne.symm hj)] at e2
    obtain⟨u',r',q⟩:=hl j y v' e1 e2 e3
    refine⟨u',r',?_⟩
    rcases q with q|⟨k,c',e,z'⟩
    ·exact .inl q
    ·refine .inr ⟨k,c',e,z'.sameBut hs ?_⟩
     rintro rfl
     exact hj (qY hN e1 (I.ok.inj _ _ _ e hc▸hi))
  ·by_cases hcc:c'=c
   ·subst hcc;exact⟨_,hc'⟩
   ·obtain⟨w2,z2⟩:=I.cell y c' e
    exact⟨w2,z2.sameBut hs hcc⟩
  ·obtain⟨e,n,ne,nf,d⟩:=I.pin p hp
   refine⟨(hs.2 p.1 ?_).trans e,n,ne,nf,d⟩
   intro q
   rw[q,hoc] at e
   have q':oc=p.2:=Option.some.inj e
   exact d w' (by rw[<-q'];exact Zaw)
def cR{M:Model}{A:Around}{E:Value->Shared->Prop}{i:Nat}{x:Str}{v:V}{u:Value}{Q:Unit->Shared->Prop}(I:Inv X pins σ H s)(hN:X.N.Nodup)(hi:X.N[i]?=some x)(hx:Loc X.env.scope x)(r:RelV v u)
 (h:∀s',Inv X pins (σ.set i (some v)) H s'->Q () s')(hf:X.fn x=true\/X.env.scope.names.lookup x=some .local:=by first|exact .inl rfl|exact .inr rfl|assumption):wpAny M A (storeName X.env x u) Q E s:=
 mR I hN hi hx r (λs' I' _=>h s' I') hf
def Inv.call'{s':Shared}{ch:List Addr}(I:Inv X pins σ H s)(ho:s'.os=s.os)(u:Un (frs X.stack) ch H H' s.heap s'.heap)(hok:cQ X.prog X.w H' s'.heap)(hg:AllBare s'.gens)
 (hch:∀b∈ch,(b∈X.ex\/X.s₀.heap.objs.size<=b)/\b≠X.env.locals/\(∀x c,X.env.cells.lookup x=some c->c≠b)/\∀p∈X.pn++pins,p.1≠b):Inv X pins σ H' s':=by
 obtain⟨h',g',d',t',o'⟩:=s'
 have e:o'=s.os:=ho
 subst e
 exact I.call (g':=g') (t':=t') (d':=d') u hok hg hch
end
abbrev XK:=Value->Option Addr->Hp->Prop
abbrev St:=List (Option V)
abbrev VK:=V->Hp->Prop
abbrev TE:=St->Hp->VK->Prop
abbrev TT:=St->Hp->(Bool->Hp->Prop)->Prop
abbrev TA:=St->Hp->(List V->Hp->Prop)->Prop
structure Ends where
 nx:St->Hp->Prop
 rt:VK
 bk:St->Hp->Prop:=λ_ _=>False
 ct:St->Hp->Prop:=λ_ _=>False
abbrev TS:=Ends->St->Hp->Prop
def EP(X:Cx)(pins:List (Addr×Obj))(σ:St)(Q:VK)(u:Value)(s':Shared):Prop:=∃v H',Inv X pins σ H' s'/\RelV v u/\Q v H'
def TP(X:Cx)(pins:List (Addr×Obj))(σ:St)(Q:Bool->Hp->Prop)(b:Bool)(s':Shared):Prop:=∃H',Inv X pins σ H' s'/\Q b H'
def AP(X:Cx)(pins:List (Addr×Obj))(σ:St)(Q:List V->Hp->Prop)(us:List Value)(s':Shared):Prop:=∃vs H',Inv X pins σ H' s'/\Vals vs us/\Q vs H'
def SP(X:Cx)(pins:List (Addr×Obj))(D:Ends)(f:Flow)(s':Shared):Prop:=
 match f with
 | .next=>∃σ' H',Inv X pins σ' H' s'/\D.nx σ' H'
 | .brk=>∃σ' H',Inv X pins σ' H' s'/\D.bk σ' H'
 | .cont=>∃σ' H',Inv X pins σ' H' s'/\D.ct σ' H'
 | .ret u=>∃v σ' H',Inv X pins σ' H' s'/\RelV v u/\D.rt v H'
def PE(X:Cx)(e:Expr)(t:TE):Prop:=
 ∀(pins:List (Addr×Obj)) (s:Shared) (σ:St) (H:Hp) (Q:VK),Inv X pins σ H s->t σ H Q->wpAny (model X.prog X.w) X.A (eval e X.env) (EP X pins σ Q) X.xe s
def PT(X:Cx)(e:Expr)(t:TT):Prop:=
 ∀(pins:List (Addr×Obj)) (s:Shared) (σ:St) (H:Hp) (Q:Bool->Hp->Prop),Inv X pins σ H s->t σ H Q->wpAny (model X.prog X.w) X.A (isTrue e X.env (eval e X.env)) (TP X pins σ Q) X.xe s
def PW(X:Cx)(e:Expr)(t:TT):Prop:=
 ∀(whole:Sem Value) (pins:List (Addr×Obj)) (s:Shared) (σ:St) (H:Hp) (Q:Bool->Hp->Prop),Inv X pins σ H s->t σ H Q->wpAny (model X.prog X.w) X.A (isTrue e X.env whole) (TP X pins σ Q) X.xe s
def PW.pt{X:Cx}{e:Expr}{t:TT}(h:PW X e t):PT X e t:=h _
def PA(X:Cx)(es:List Expr)(t:TA):Prop:=
 ∀(pos:Pos) (pins:List (Addr×Obj)) (s:Shared) (σ:St) (H:Hp) (Q:List V->Hp->Prop),Inv X pins σ H s->t σ H Q->wpAny (model X.prog X.w) X.A (spliced (backTo pos (starEach es X.env))) (AP X pins σ Q) X.xe s
def PS(X:Cx)(st:Stmt)(t:TS):Prop:=
 ∀(pins:List (Addr×Obj)) (s:Shared) (σ:St) (H:Hp) (D:Ends),Inv X pins σ H s->t D σ H->wpAny (model X.prog X.w) X.A (exec st X.env) (SP X pins D) X.xe s
def eV(X:Cx)(st:List Stmt)(t:TS):Prop:=
 ∀(pins:List (Addr×Obj)) (s:Shared) (σ:St) (H:Hp) (D:Ends),Inv X pins σ H s->t D σ H->wpAny (model X.prog X.w) X.A (execs st X.env) (SP X pins D) X.xe s
def Ň{α:Type}{t:Sem α}{Q Q':α->Shared->Prop}{M:Model}{A:Around}{E:Value->Shared->Prop}{s:Shared}(h:wpAny M A t Q E s)(hQ:∀a s,Q a s->Q' a s):wpAny M A t Q' E s:=wpAny_mono h hQ λ_ _ x=>x
end L2
namespace L2
open PySem PySem.Spec PyProof.Rows
section
variable{X:Cx}
def uq(i:Nat):TE:=λσ H Q=>∃v,σ[i]?=some (some v)/\Q v H
def tC(v:V):TE:=λ_ H Q=>Q v H
def au{i:Nat}{x:Str}{pos:Pos}(hN:X.N[i]?=some x)(hv:uf X.env.scope x)(hd:(x== ("__debug__" :Str))=false:=by decide)(hcd:(x== ("__classdict__" :Str))=false:=by decide):PE X (.Name x pos) (uq i):=by
 intro pins s σ H Q I h
 obtain⟨v,e,h⟩:=h
 obtain⟨m,hn,hl⟩:=I.loc
 obtain⟨u,r,l⟩:=hl i x v hN e hv
 have fin:EP X pins σ Q u s:=⟨v,H,I,r,h⟩
 rcases l with⟨hk,hm⟩|⟨hk,c,hc,hcell⟩
 ·exact wpAny_Name (wpAny_loadName_local I.ok.kind hk hn hm fin) hd
 ·rcases hk with hk|hk
  ·exact wpAny_Name (wpAny_loadName_cell I.ok.kind hk hc hcell fin) hd
  ·exact wpAny_Name (wpAny_loadName_free I.ok.kind hk hc hcell fin hcd) hd
def Ot{i j pos}:PE X (.Constant (.int i) j pos) (tC (.int i)):=λ_ _ _ H _ I h=>wpAny_Constant_int ⟨.int i,H,I.tok _,⟨_,rfl⟩,h⟩
def Uw{b j pos}:PE X (.Constant (.bool b) j pos) (tC (.bl b)):=λ_ _ _ H _ I h=>Constant_bool ⟨.bl b,H,I,rfl,h⟩
def Ou{j pos}:PE X (.Constant .none j pos) (tC .non):=λ_ _ _ H _ I h=>Constant_none ⟨.non,H,I,rfl,h⟩
def Ov{x j pos}:PE X (.Constant (.str x) j pos) (tC (.str x)):=λ_ _ _ H _ I h=>Calls.Constant_str ⟨.str x,H,I.tok _,⟨_,rfl⟩,h⟩
def Gl(X:Cx)(x:Str):Prop:=X.env.kindOf x=some .globalImplicit
def oR{E:Value->Shared->Prop}{pins:List (Addr×Obj)}{s:Shared}{σ:St}{H:Hp}{x:Str}{u:Value}{pos:Pos}{Q:Value->Shared->Prop}(I:Inv X pins σ H s)(hg:Gl X x)(hm:X.mg x=some u)(h:Q u s)
 (hd:(x== ("__debug__" :Str))=false:=by decide):wpAny (model X.prog X.w) X.A (eval (.Name x pos) X.env) Q E s:=
 Calls.Name_function_global I.ok.kind hg (Calls.loadGlobal_global (by rw[I.ok.glob];exact I.mod.glob.keeps I.bk) hm h) hd
def oU{E:Value->Shared->Prop}{pins:List (Addr×Obj)}{s:Shared}{σ:St}{H:Hp}{x:Str}{u:Value}{pos:Pos}{Q:Value->Shared->Prop}(I:Inv X pins σ H s)(hg:Gl X x)(hm:X.mg x=none)(hv:bootBuiltins x=some u)(h:Q u s)
 (hn:x≠ "__name__" := by decide)(hd:(x== ("__debug__" :Str))=false:=by decide):wpAny (model X.prog X.w) X.A (eval (.Name x pos) X.env) Q E s:=by
 obtain⟨mb,h1,h2⟩:=I.mod.blt
 exact Calls.Name_function_global I.ok.kind hg (Calls.loadGlobal_builtin (by rw[I.ok.glob];exact I.mod.glob.keeps I.bk) hm (by rw[I.ok.blt];exact h1.keeps I.bk) ((h2 x hn).trans hv) h) hd
def jC{x:Str}{v:V}{u:Value}{pos:Pos}(hg:Gl X x)(hm:X.mg x=some u)(r:RelV v u)(hd:(x== ("__debug__" :Str))=false:=by decide):PE X (.Name x pos) (tC v):=
 λ_ _ _ H _ I h=>oR I hg hm ⟨v,H,I,r,h⟩ hd
variable{a b:Expr}{ta tb:TE}{pos:Pos}
variable{tA Ux:TT}{rest:List Expr}
def Zax(t u:TT):TT:=λσ H Q=>t σ H λc H1=>if c=true then u σ H1 Q else Q false H1
def tOr(t u:TT):TT:=λσ H Q=>t σ H λc H1=>if c=true then Q true H1 else u σ H1 Q
def FQ(ha:PT X a tA):PW X (.BoolOp .And [a] pos) tA:=by
 intro wh pins s σ H Q I h
 refine isTrue_and (Ň (ha pins s σ H Q I h) λc s1 e=>?_)
 cases c with
 |true=>exact isTrue_and_nil e
 |false=>exact e
def Ow(ha:PT X a tA):PW X (.BoolOp .Or [a] pos) tA:=by
 intro wh pins s σ H Q I h
 refine isTrue_or (Ň (ha pins s σ H Q I h) λc s1 e=>?_)
 cases c with
 |false=>exact isTrue_or_nil e
 |true=>exact e
def Ox(ha:PT X a tA)(hb:PW X (.BoolOp .And (b::rest) pos) Ux):PW X (.BoolOp .And (a::b::rest) pos) (Zax tA Ux):=by
 intro wh pins s σ H Q I h
 refine isTrue_and (Ň (ha pins s σ H _ I h) λc s1 ⟨H1,I1,q1⟩=>?_)
 cases c with
 |true=>exact hb wh pins s1 σ H1 Q I1 q1
 |false=>exact⟨H1,I1,q1⟩
def Uy(ha:PT X a tA)(hb:PW X (.BoolOp .Or (b::rest) pos) Ux):PW X (.BoolOp .Or (a::b::rest) pos) (tOr tA Ux):=by
 intro wh pins s σ H Q I h
 refine isTrue_or (Ň (ha pins s σ H _ I h) λc s1 ⟨H1,I1,q1⟩=>?_)
 cases c with
 |true=>exact⟨H1,I1,q1⟩
 |false=>exact hb wh pins s1 σ H1 Q I1 q1
def Oz{op}{t:TE}(h:PE X a t):PE X (.BoolOp op [a] pos) t:=λpins s σ H Q I hw=>BoolOp_one (h pins s σ H Q I hw)
end
end L2
namespace L2
open PySem PySem.Spec PyProof.Rows
def Ũ(K:PySem.W.Frag)(H:Hp)(a:Addr)(xs:List V):Prop:=
 Rd H a (.lst xs)\/
  ∃(o:Obj) (its:Array Value) (n:Nat),K.lookup a=some o/\o.cls=.type "list" /\o.dict=none/\o.data=.seq its n/\its.size<=sizeLine/\Vals xs its.toList
def cL(K:PySem.W.Frag)(H:Hp)(a:Addr)(xs:List V):Prop:=
 Rd H a (.tup xs)\/
  ∃(o:Obj) (its:Array Value) (n:Nat),K.lookup a=some o/\o.cls=.type "tuple" /\o.data=.seq its n/\its.size<=sizeLine/\Vals xs its.toList
def Zay:Value->Option V
 | .none=>some .non
 | .bool b=>some (.bl b)
 | .int i _=>some (.int i)
 | .str x _=>some (.str x)
 | .bytes b _=>some (.IV b)
 | .float b _=>some (.flt b)
 | .ref a=>some (.ref a)
 | .type n=>some (.ty n)
 |_=>none
def RelV.abs{x:V}{u:Value}(r:RelV x u):Zay u=some x:=by
 cases x with
 |non=>cases r;rfl
 |bl _=>cases r;rfl
 |int _=>obtain⟨t,rfl⟩:=r;rfl
 |str _=>obtain⟨t,rfl⟩:=r;rfl
 |IV _=>obtain⟨t,rfl⟩:=r;rfl
 |flt _=>obtain⟨t,rfl⟩:=r;rfl
 |ref _=>cases r;rfl
 |ty _=>cases r;rfl
theorem RelV.inj{x y:V}{u:Value}(r:RelV x u)(q:RelV y u):x=y:=Option.some.inj (r.abs.symm.trans q.abs)
theorem Vals.inj:∀{xs ys:List V} {us:List Value},Vals xs us->Vals ys us->xs=ys
 |_,_,_,.nil,.nil=>rfl
 |_,_,_,.cons r t,.cons r' t'=>by rw[r.inj r',Vals.inj t t']
section
variable{X:Cx}{pins:List (Addr×Obj)}{σ:St}{H:Hp}{s:Shared}{a:Addr}{xs ys:List V}
def Ũ.of{K:PySem.W.Frag}(h:H a=some (.lst xs)):Ũ K H a xs:=.inl (.inl h)
def cL.of{K:PySem.W.Frag}(h:H a=some (.tup xs)):cL K H a xs:=.inl (.inl h)
def Inv.list(I:Inv X pins σ H s)(h:Ũ X.K H a xs):∃its:List Value,Vals xs its/\PlainL s.heap a its.toArray/\xs.length<=sizeLine:=by
 rcases h with h|⟨o,its,n,hk,hc,hd,hs,hz,r⟩
 ·obtain⟨z,its,n,r,e⟩:=h.ok I.hok
  exact⟨its,r,⟨_,n,e,rfl,rfl,rfl⟩,z⟩
 ·refine⟨its.toList,r,⟨o,n,I.yI a o hk,hc,hd,by simpa using hs⟩,?_⟩
  have e:=r.length
  simp only[Array.length_toList] at e
  omega
def Inv.tuple(I:Inv X pins σ H s)(h:cL X.K H a xs):∃its:List Value,Vals xs its/\IsTup s.heap a its.toArray/\xs.length<=sizeLine:=by
 rcases h with h|⟨o,its,n,hk,hc,hs,hz,r⟩
 ·obtain⟨z,its,r,p⟩:=h.ok I.hok
  exact⟨its,r,p,z⟩
 ·refine⟨its.toList,r,⟨o,I.yI a o hk,hc,n,by simpa using hs⟩,?_⟩
  have e:=r.length
  simp only[Array.length_toList] at e
  omega
def Inv.qZ(I:Inv X pins σ H s)(h:Ũ X.K H a xs)(h':Ũ X.K H a ys):xs=ys:=by
 obtain⟨its,r,⟨o,n,e,_,_,d⟩,_⟩:=I.list h
 obtain⟨its',r',⟨o',n',e',_,_,d'⟩,_⟩:=I.list h'
 rw[e] at e';cases e'
 rw[d] at d'
 injection d' with d1 _
 have:its=its':=by simpa using congrArg Array.toList d1
 subst this
 exact r.inj r'
def Inv.yJ(I:Inv X pins σ H s)(h:cL X.K H a xs)(h':cL X.K H a ys):xs=ys:=by
 obtain⟨its,r,⟨o,e,_,n,d⟩,_⟩:=I.tuple h
 obtain⟨its',r',⟨o',e',_,n',d'⟩,_⟩:=I.tuple h'
 rw[e] at e';cases e'
 rw[d] at d'
 injection d' with d1 _
 have:its=its':=by simpa using congrArg Array.toList d1
 subst this
 exact r.inj r'
end
abbrev Cx.wish(X:Cx)(E:Value->Shared->Prop):Cx:={X with xe:=E}
abbrev Cx.Ō(X:Cx):Cx:=X.wish λ_ _=>False
theorem Cx.Ok.wish{X:Cx}(ok:X.Ok)(E:Value->Shared->Prop):(X.wish E).Ok:=
 ⟨ok.mod,ok.kind,ok.glob,ok.blt,ok.above,ok.inj,ok.has,ok.cab,ok.hd,ok.frames,ok.stk,ok.exf,ok.bs,ok.FN,ok.zZ,ok.FP,ok.jm,ok.Oo,ok.tb⟩
def Cx.Ok.bI{X:Cx}{E:Value->Shared->Prop}(ok:(X.wish E).Ok):X.Ok:=
 ⟨ok.mod,ok.kind,ok.glob,ok.blt,ok.above,ok.inj,ok.has,ok.cab,ok.hd,ok.frames,ok.stk,ok.exf,ok.bs,ok.FN,ok.zZ,ok.FP,ok.jm,ok.Oo,ok.tb⟩
section
variable{X:Cx}{pins:List (Addr×Obj)}{σ:St}{H:Hp}{s:Shared}{E:Value->Shared->Prop}
theorem Inv.wish(I:Inv X pins σ H s)(E:Value->Shared->Prop):Inv (X.wish E) pins σ H s:=⟨I.ok.wish E,I.os,I.bare,I.base,I.loc,I.cell,I.free,I.eU,I.pin,I.hok,I.len⟩
theorem Inv.bI(I:Inv (X.wish E) pins σ H s):Inv X pins σ H s:=⟨I.ok.bI,I.os,I.bare,I.base,I.loc,I.cell,I.free,I.eU,I.pin,I.hok,I.len⟩
theorem SP.bI{D:Ends}{f:Flow}{s':Shared}(h:SP (X.wish E) pins D f s'):SP X pins D f s':=by
 cases f with
 |next=>obtain⟨σ',H',I,q⟩:=h;exact⟨σ',H',I.bI,q⟩
 |brk=>obtain⟨σ',H',I,q⟩:=h;exact⟨σ',H',I.bI,q⟩
 |cont=>obtain⟨σ',H',I,q⟩:=h;exact⟨σ',H',I.bI,q⟩
 |ret u=>obtain⟨v,σ',H',I,r,q⟩:=h;exact⟨v,σ',H',I.bI,r,q⟩
theorem PE.Ō{e:Expr}{t:TE}(h:PE X.Ō e t):PE X e t:=λpins s σ H Q I hw=>
 wpAny_mono (h pins s σ H Q (I.wish _) hw) (λ_ _ ⟨v,H',I',r,q⟩=>⟨v,H',I'.bI,r,q⟩) λ_ _ z=>False.elim z
end
section
variable{X:Cx}{st:Stmt}{rest:List Stmt}{t u:TS}{e:Expr}{te:TE}{pos:Pos}
def Uz:TS:=λD σ H=>D.nx σ H
def Zaz(t u:TS):TS:=λD σ H=>t {D with nx:=u D} σ H
def FT:eV X [] Uz:=λ_ _ σ H _ I h=>wpAny_execs_nil ⟨σ,H,I,h⟩
def z_(h1:PS X st t)(h2:eV X rest u):eV X (st::rest) (Zaz t u):=by
 intro pins s σ H D I h
 refine wpAny_execs_cons (Ň (h1 pins s σ H {D with nx:=u D} I h) λf s1 q=>?_)
 cases f with
 |next=>
  obtain⟨σ',H',I',q⟩:=q
  exact h2 pins s1 σ' H' D I' q
 |ret v=>exact q
 |brk=>exact q
 |cont=>exact q
def FW(h1:PS X st t):eV X [st] t:=by
 intro pins s σ H D I h
 refine wpAny_execs_cons (Ň (h1 pins s σ H D I h) λf s1 q=>?_)
 cases f with
 |next=>exact wpAny_execs_nil q
 |ret v=>exact q
 |brk=>exact q
 |cont=>exact q
def Inv.quiet{pins:List (Addr×Obj)}{σ:St}{H:Hp}{s:Shared}(I:Inv X pins σ H s):interactive X.env=false:=by simp[interactive,I.ok.kind]
def I_(te:TE):TS:=λD σ H=>te σ H λ_ H1=>D.nx σ H1
def jD(he:PE X e te)(hs:swapsWith e none pos.line X.env=pure false:=by rfl):PS X (.Expr e pos) (I_ te):=by
 intro pins s σ H D I h
 exact wpAny_Expr_any (Ň (he pins s σ H _ I h) λv s1 ⟨x,H1,I1,r1,q1⟩=>⟨σ,H1,I1,q1⟩) I.quiet hs
def ZaA(te:TE):TS:=λD σ H=>te σ H D.rt
def OD(he:PE X e te):PS X (.Return (some e) pos) (ZaA te):=by
 intro pins s σ H D I h
 exact wpAny_Return_some (Ň (he pins s σ H _ I h) λv s1 ⟨x,H1,I1,r1,q1⟩=>⟨x,σ,H1,I1,r1,q1⟩)
def ZaB(c:TT)(t u:TS):TS:=λD σ H=>c σ H λb H1=>if b=true then t D σ H1 else u D σ H1
def UG{c:Expr}{a b:List Stmt}{tc:TT}(hc:PT X c tc)(ha:eV X a t)(hb:eV X b u):PS X (.If c a b pos) (ZaB tc t u):=by
 intro pins s σ H D I h
 refine wpAny_If (Ň (hc pins s σ H _ I h) λd s1 ⟨H1,I1,q1⟩=>?_)
 cases d with
 |true=>exact ha pins s1 σ H1 D I1 q1
 |false=>exact hb pins s1 σ H1 D I1 q1
def OJ:TS:=λ_ _ _=>False
def Aa:PS X st OJ:=λ_ _ _ _ _ _ h=>h.elim
end
abbrev TG:=V->St->Hp->(St->Hp->Prop)->Prop
abbrev Ab:=List V->St->Hp->(St->Hp->Prop)->Prop
def PG(X:Cx)(target:Expr)(t:TG):Prop:=
 ∀(pins:List (Addr×Obj)) (s:Shared) (σ:St) (H:Hp) (v:V) (u:Value) (Q:St->Hp->Prop),Inv X pins σ H s->RelV v u->t v σ H Q->
  wpAny (model X.prog X.w) X.A (assign target X.env u) (λ_ s'=>∃σ' H',Inv X pins σ' H' s'/\Q σ' H') X.xe s
def q_(X:Cx)(ts:List Expr)(t:Ab):Prop:=
 ∀(pins:List (Addr×Obj)) (s:Shared) (σ:St) (H:Hp) (vs:List V) (us:List Value) (Q:St->Hp->Prop),Inv X pins σ H s->Vals vs us->t vs σ H Q->
  wpAny (model X.prog X.w) X.A (assignInOrder ((assignEach ts X.env).map (·.2)) us) (λ_ s'=>∃σ' H',Inv X pins σ' H' s'/\Q σ' H') X.xe s
abbrev O_:=V->V->V->Hp->(Hp->Prop)->Prop
def UJ(X:Cx)(t:O_):Prop:=
 ∀(pins:List (Addr×Obj)) (s:Shared) (σ:St) (H:Hp) (o i v:V) (ov iv u:Value) (Q:Hp->Prop),Inv X pins σ H s->RelV o ov->RelV i iv->RelV v u->t o i v H Q->
  wpAny (model X.prog X.w) X.A (setItem ov iv u) (λ_ s'=>∃H',Inv X pins σ H' s'/\Q H') X.xe s
abbrev Yq:=V->V->Hp->VK->Prop
def PIp(X:Cx)(op:Operator)(t:Yq):Prop:=
 ∀(pins:List (Addr×Obj)) (s:Shared) (σ:St) (H:Hp) (x y:V) (v u:Value) (Q:VK),Inv X pins σ H s->RelV x v->RelV y u->t x y H Q->
  wpAny (model X.prog X.w) X.A (inplaceOp op v u) (EP X pins σ Q) X.xe s
section
variable{X:Cx}{pos:Pos}
def Ja(i:Nat):TG:=λv σ H Q=>Q (σ.set i (some v)) H
def FZ{i:Nat}{x:Str}(hN:X.N.Nodup)(hi:X.N[i]?=some x)(hx:Loc X.env.scope x)(hf:X.fn x=true\/X.env.scope.names.lookup x=some .local:=by first|exact .inl rfl|exact .inr rfl|assumption):PG X (.Name x pos) (Ja i):=by
 intro pins s σ H v u Q I r h
 exact wpAny_assign_Name (cR I hN hi hx r (λs' I'=>⟨_,H,I',h⟩) hf)
def ZaC:Ab:=λvs σ H Q=>vs=[]/\Q σ H
def UL(t:TG)(u:Ab):Ab:=λvs σ H Q=>∃v r,vs=v::r/\t v σ H λσ' H'=>u r σ' H' Q
def Ga:q_ X [] ZaC:=by
 intro pins s σ H vs us Q I r h
 obtain⟨e,h⟩:=h
 subst e
 cases r
 exact assignInOrder_nil ⟨σ,H,I,h⟩
def Ac{e:Expr}{es:List Expr}{t:TG}{u:Ab}(h1:PG X e t)(h2:q_ X es u)
 (hs:(assignEach (e::es) X.env).map (·.2)=assign e X.env::(assignEach es X.env).map (·.2):=by rfl):q_ X (e::es) (UL t u):=by
 intro pins s σ H vs us Q I r h
 obtain⟨v,vr,e1,h⟩:=h
 subst e1
 cases r with
 |cons r rr=>
  rw[hs]
  refine assignInOrder_cons (Ň (h1 pins s σ H _ _ _ I r h) λ_ s1 ⟨σ1,H1,I1,q1⟩=>?_)
  exact h2 pins s1 σ1 H1 _ _ Q I1 rr q1
def UW(K:PySem.W.Frag)(n:Nat)(t:Ab):TG:=λv σ H Q=>∃a xs,v=.ref a/\cL K H a xs/\xs.length=n/\t xs σ H Q
def ur{es:List Expr}{k:Nat}{t:Ab}{n:Nat}(hc:X.calm=true)(h:q_ X es t)
 (hn:(assignEach es X.env).length=n:=by rfl)(hst:(assignEach es X.env).findIdx? (·.1)=none:=by rfl):PG X (.Tuple es k pos) (UW X.K n t):=by
 intro pins s σ H v u Q I r hw
 obtain⟨a,xs,e1,hq,hl,hw⟩:=hw
 subst e1
 cases r
 obtain⟨its,rv,ht,hz⟩:=I.tuple hq
 refine assign_Tuple_tuple (I.ok.hd hc) ht (by simp[hn,<-hl,rv.length]) hst λh' hx=>?_
 have I1:Inv X pins σ H {s with heap:=h'}:=I.kept (t':=s.toks) λb o e=>hx b o (Nat.ne_of_lt (Heap.lt_size e)) e
 exact h pins _ σ H xs _ Q I1 (by simpa using rv) hw
def ZaD(to ti:TE)(t:O_):TG:=λv σ H Q=>to σ H λo H1=>ti σ H1 λi H2=>t o i v H2 λH3=>Q σ H3
def Pa{o i:Expr}{to ti:TE}{t:O_}(ho:PE X o to)(hi:PE X i ti)(hs:UJ X t)
 (ha:∀v,assign (.Subscript o i pos) X.env v=(do
   let ov <-holding [v] (eval o X.env)
   let iv <-holding [v,ov] (eval i X.env)
   standAt pos
   holding [v,ov,iv] (setItem ov iv v)
   release [v,ov,iv] []):=by intro _;rfl):PG X (.Subscript o i pos) (ZaD to ti t):=by
 intro pins s σ H v u Q I r h
 rw[ha]
 refine wpAny_bind (wpAny_holding (Ň (ho pins s σ H _ I h) λov s1 ⟨x,H1,I1,r1,q1⟩=>?_))
 refine wpAny_bind (wpAny_holding (Ň (hi pins s1 σ H1 _ I1 q1) λiv s2 ⟨y,H2,I2,r2,q2⟩=>?_))
 refine wpAny_bind (wpAny_standAt (wpAny_bind (wpAny_holding (Ň (hs pins s2 σ H2 x y v ov iv u _ I2 r1 r2 r q2) λ_ s3 ⟨H3,I3,q3⟩=>?_))))
 exact wpAny_release ⟨σ,H3,I3,q3⟩
def U_(te:TE)(g:TG):TS:=λD σ H=>te σ H λx H1=>g x σ H1 D.nx
def Ad{tg e:Expr}{te:TE}{g:TG}(he:PE X e te)(hg:PG X tg g)(hs:swapsWithSole [tg] e pos.line X.env=pure false:=by rfl)(hw:swappedStores [tg] e X.env=pure none:=by rfl)
 (h1:(assignEach [tg] X.env).map (·.2)=[assign tg X.env]:=by rfl):PS X (.Assign [tg] e pos) (U_ te g):=by
 intro pins s σ H D I h
 refine wpAny_Assign_stores (Ň (he pins s σ H _ I h) λv s1 ⟨x,H1,I1,r1,q1⟩=>?_) hs hw
 rw[h1]
 exact Ň (hg pins s1 σ H1 x v _ I1 r1 q1) λ_ s2 q=>q
def Ae{i:Nat}{x:Str}{e:Expr}{te:TE}{pos':Pos}(hN:X.N.Nodup)(hi:X.N[i]?=some x)(hx:Loc X.env.scope x)(he:PE X e te)(hs:swapsWith e (some (.Name x pos')) pos.line X.env=pure false:=by rfl)(hf:X.fn x=true\/X.env.scope.names.lookup x=some .local:=by first|exact .inl rfl|exact .inr rfl|assumption) :
 PS X (.Assign [.Name x pos'] e pos) (U_ te (Ja i)):=by
 intro pins s σ H D I h
 refine wpAny_Assign_Name (Ň (he pins s σ H _ I h) λv s1 ⟨y,H1,I1,r1,q1⟩=>?_) hs
 exact cR I1 hN hi hx r1 (λs2 I2=>⟨_,H1,I2,q1⟩) hf
def Va(i j:Nat)(ta:TA):TS:=λD σ H=>ta σ H λvs H1=>∃v w,vs=[v,w]/\D.nx ((σ.set i (some v)).set j (some w)) H1
def Pb{i j:Nat}{x y:Str}{a b:Expr}{ta:TA}{px py pt:Pos}{kt k2 pt2}(hc:X.calm=true)(hN:X.N.Nodup)(hi:X.N[i]?=some x)(hj:X.N[j]?=some y)(hij:i≠j)
 (hx:X.env.scope.names.lookup x=some .local)(hy:X.env.scope.names.lookup y=some .local)(ha:PA X [a,b] ta)
 (hw:swappedStores [.Tuple [.Name x px,.Name y py] kt pt] (.Tuple [a,b] k2 pt2) X.env=pure (some [x,y]))
 (hs:swapsWithSole [.Tuple [.Name x px,.Name y py] kt pt] (.Tuple [a,b] k2 pt2) pos.line X.env=pure false:=by rfl) :
 PS X (.Assign [.Tuple [.Name x px,.Name y py] kt pt] (.Tuple [a,b] k2 pt2) pos) (Va i j ta):=by
 intro pins s σ H D I h
 rw[exec_Assign_arm]
 refine wpAny_bind (wpAny_standAt ?_)
 rw[hs]
 refine wpAny_bind (wpAny_pure ?_)
 rw[if_neg (by decide)]
 refine wpAny_bind (Tuple_ (Ň (ha _ pins s σ H _ I h) λus s1 ⟨vs,H1,I1,r1,q1⟩=>?_))
 obtain⟨v,w,e1,q1⟩:=q1
 subst e1
 obtain⟨u1,u2,rfl,rv,Af⟩:∃u1 u2,us=[u1,u2]/\RelV v u1/\RelV w u2:=by
  cases r1 with
  |cons p q=>
   cases q with
   |cons p' q'=>
    cases q'
    exact⟨_,_,rfl,p,p'⟩
 refine wpAny_newObj_type ?_ (by show 2<=sizeLine;decide)
 have I2:Inv X pins σ H1 {s1 with heap:=s1.heap.push {cls:=.type "tuple",data:=.seq [u1,u2].toArray}}:=I1.kept (t':=s1.toks) λb o e=>Heap.get?_push_of_some _ e
 rw[hw]
 refine wpAny_bind (wpAny_pure ?_)
 show wpAny (model X.prog X.w) X.A (do rule "assign.swapped-stores";let items <-unpackItems (.ref s1.heap.objs.size) 2 none;assignInOrder [λv=>bindName X.env y v,λv=>bindName X.env x v] items.reverse;pure Flow.next) _ _ _
 refine wpAny_bind (wpAny_rule (wpAny_bind (unpackItems_tuple (items:=#[u1,u2]) (I.ok.hd hc) (IsTup.new s1.heap _) λh' hx'=>?_)))
 have I3:=I2.kept (h':=h') (t':=s1.toks) λb o e=>hx' b o (Nat.ne_of_lt (Heap.lt_size e)) e
 show wpAny _ _ (assignInOrder [λv=>bindName X.env y v,λv=>bindName X.env x v] [u2,u1] >>= λ_=>pure Flow.next) _ _ _
 refine wpAny_bind (assignInOrder_cons (wpAny_bindName (cR I3 hN hj (.inl hy) Af (λs2 I4=>?_) (.inr hy))))
 refine assignInOrder_cons (wpAny_bindName (cR I4 hN hi (.inl hx) rv (λs3 I5=>assignInOrder_nil (wpAny_pure ?_)) (.inr hx)))
 rw[List.set_comm _ _ (Ne.symm hij)] at I5
 exact⟨_,H1,I5,q1⟩
def ZaE(i:Nat)(te:TE)(ti:Yq):TS:=λD σ H=>∃x,σ[i]?=some (some x)/\te σ H λy H1=>ti x y H1 λz H2=>D.nx (σ.set i (some z)) H2
def Ph{i:Nat}{x:Str}{e:Expr}{te:TE}{op:Operator}{ti:Yq}{pos':Pos}(hN:X.N.Nodup)(hi:X.N[i]?=some x)(hx:Loc X.env.scope x)(he:PE X e te)(ho:PIp X op ti)(hf:X.fn x=true\/X.env.scope.names.lookup x=some .local:=by first|exact .inl rfl|exact .inr rfl|assumption) :
 PS X (.AugAssign (.Name x pos') op e pos) (ZaE i te ti):=by
 intro pins s σ H D I h
 obtain⟨v,e1,h⟩:=h
 obtain⟨m,hn,hl⟩:=I.loc
 have vis:uf X.env.scope x:=by rcases hx with k|k;exact .inl k;exact .inr (.inl k)
 obtain⟨u,r,l⟩:=hl i x v hi e1 vis
 refine wpAny_AugAssign_Name ?_
 have go:wpAny (model X.prog X.w) X.A (eval e X.env) (λw s₂=>wpAny (model X.prog X.w) X.A (inplaceOp op u w) (λr s₃=>wpAny (model X.prog X.w) X.A (storeName X.env x r) (λ_=>SP X pins D .next) X.xe s₃) X.xe s₂) X.xe s:=by
  refine Ň (he pins s σ H _ I h) λw s1 ⟨y,H1,I1,r1,q1⟩=>?_
  refine Ň (ho pins s1 σ H1 v y u w _ I1 r r1 q1) λz s2 ⟨zv,H2,I2,r2,q2⟩=>?_
  exact cR I2 hN hi hx r2 (λs3 I3=>⟨_,H2,I3,q2⟩) hf
 rcases l with⟨hk,hm⟩|⟨hk,c,hc,hcell⟩
 ·exact wpAny_loadName_local I.ok.kind hk hn hm go
 ·rcases hk with hk|hk
  ·exact wpAny_loadName_cell I.ok.kind hk hc hcell go
  ·rcases hx with k|k
   ·have:X.env.scope.names.lookup x=some .free:=hk
    rw[k] at this;cases this
   ·have:X.env.scope.names.lookup x=some .free:=hk
    rw[k] at this;cases this
def ipI(f:Int->Int->Int):Yq:=λx y H Q=>∃i j,x=.int i/\y=.int j/\Q (.int (f i j)) H
end
section
variable{X:Cx}{pos:Pos}
def Pj(c:TT)(tb:TS):TS:=λD σ H=>∃W:Nat->St->Hp->Prop,(∃m,W m σ H)/\∀m σ H,W m σ H->
 c σ H λb H1=>if b=true then ∃N:St->Hp->Prop,(∀σ' H',N σ' H'->∃m',m'<m/\W m' σ' H')/\tb {D with nx:=N,ct:=N,bk:=D.nx} σ H1 else D.nx σ H1
def Ag{c:Expr}{body:List Stmt}{tc:TT}{tb:TS}(hp:PassesOwn (model X.prog X.w) X.A X.env X.xe)(hc:PT X c tc)(hb:eV X body tb):PS X (.While c body [] pos) (Pj tc tb):=by
 intro pins s σ H D I h
 obtain⟨W,⟨m0,w0⟩,turn⟩:=h
 refine wpAny_While (codeAny_whileLoop (λn s'=>∃σ' H',Inv X pins σ' H' s'/\W n σ' H') ?_ m0 ⟨σ,H,I,w0⟩)
 rintro n s1 ⟨σ1,H1,I1,w1⟩
 refine wpAny_passesOwn hp (Ň (hc pins s1 σ1 H1 _ I1 (turn n σ1 H1 w1)) λb s2 ⟨H2,I2,q2⟩=>?_)
 cases b with
 |true=>
  obtain⟨N,hN,q2⟩:=q2
  rw[if_pos rfl]
  refine wpAny_passesOwn hp (Ň (hb pins s2 σ1 H2 _ I2 q2) λf s3 q3=>?_)
  cases f with
  |next=>
   obtain⟨σ3,H3,I3,n3⟩:=q3
   obtain⟨m',hm,w3⟩:=hN σ3 H3 n3
   exact⟨m',hm,σ3,H3,I3,w3⟩
  |cont=>
   obtain⟨σ3,H3,I3,n3⟩:=q3
   obtain⟨m',hm,w3⟩:=hN σ3 H3 n3
   exact⟨m',hm,σ3,H3,I3,w3⟩
  |brk=>exact q3
  |ret v=>exact q3
 |false=>
  rw[if_neg Bool.false_ne_true]
  exact wpAny_execs_nil ⟨σ1,H2,I2,q2⟩
end
structure It where
 go:Nat->Hp->Prop
 Yr:Nat->Hp->V->Hp->Prop
 stop:Nat->Hp->Prop
def eN(X:Cx)(pins:List (Addr×Obj))(H:Hp)(b:Addr):Prop:=
 H b=none/\b≠X.env.locals/\b∉X.fs/\(b∈X.ex\/X.s₀.heap.objs.size<=b)/\(∀x c,X.env.cells.lookup x=some c->c≠b)/\∀p∈X.pn++pins,p.1≠b
def Inv.yK{X:Cx}{pins:List (Addr×Obj)}{σ:St}{H H':Hp}{s:Shared}{b:Addr}(I:Inv X pins σ H s)(hb:s.heap.objs.size<=b)(hn:H' b=none):eN X pins H' b:=by
 refine⟨hn,Nat.ne_of_gt (Nat.lt_of_lt_of_le I.lt hb),I.Zav hb,.inr (Nat.le_trans I.sz hb),λx c e z=>?_,λp hp z=>?_⟩
 ·obtain⟨v,q⟩:=I.cell x c e
  exact absurd (Nat.lt_of_lt_of_le q.lt (by rw[z];exact hb)) (Nat.lt_irrefl _)
 ·exact absurd (Nat.lt_of_lt_of_le (Heap.lt_size (I.pin p hp).1) (by rw[z];exact hb)) (Nat.lt_irrefl _)
structure Turn(P:Program)(w:World)(K:PySem.W.Frag)(tg:Expr)(J:It)(fp:List Addr)(it:Addr)(tn:Nat->Heap->Prop):Prop where
 mem:it∈fp
 obj:∀i h,tn i h->∀b∈fp,∃o,h.get? b=some o/\∀v,o.data≠ .cell v
 keep:∀i h h',tn i h->(∀b∈fp,∀o,h.get? b=some o->h'.get? b=some o)->tn i h'
 item:∀(X:Cx),X.prog=P->X.w=w->X.K=K->X.calm=true->∀(i:Nat) (pins:List (Addr×Obj)) (s:Shared) (σ:St) (H:Hp) (E:Value->Shared->Prop),Inv X pins σ H s->(∀b∈fp,eN X pins H b)->tn i s.heap->J.go i H->
  wpAny (model P w) X.A (pyNext (.ref it)) (λr s1=>∃u,r=some u/\
   wpAny (model P w) X.A (letOwnedTupleGo tg (.ref it) u) (λ_ s2=>∃x H',Inv X pins σ H' s2/\RelV x u/\J.Yr i H x H'/\tn (i+1) s2.heap/\∀b∈fp,H' b=none) E s1) E s
 done:∀(X:Cx),X.prog=P->X.w=w->X.K=K->X.calm=true->∀(i:Nat) (pins:List (Addr×Obj)) (s:Shared) (σ:St) (H:Hp) (E:Value->Shared->Prop),Inv X pins σ H s->(∀b∈fp,eN X pins H b)->tn i s.heap->J.stop i H->
  wpAny (model P w) X.A (pyNext (.ref it)) (λr s1=>r=none/\Inv X pins σ H s1) E s
 self:∀(A:Around) (i:Nat) (s:Shared) (Q:Value->Shared->Prop) (E:Value->Shared->Prop),tn i s.heap->Q (.ref it) s->wpAny (model P w) A (pyIter (.ref it)) Q E s
abbrev TI:=St->Hp->(It->Hp->Prop)->Prop
def PIE(X:Cx)(pins:List (Addr×Obj))(σ:St)(tg:Expr)(R:It->Hp->Prop)(itv:Value)(s2:Shared):Prop:=
 ∃(it:Addr) (fp:List Addr) (tn:Nat->Heap->Prop) (J:It) (H':Hp),itv=.ref it/\Inv X pins σ H' s2/\Turn X.prog X.w X.K tg J fp it tn/\tn 0 s2.heap/\(∀b∈fp,eN X pins H' b)/\R J H'
def PI(X:Cx)(tg iter:Expr)(wi:TI):Prop:=
 ∀(pins:List (Addr×Obj)) (s:Shared) (σ:St) (H:Hp) (R:It->Hp->Prop),Inv X pins σ H s->wi σ H R->
  wpAny (model X.prog X.w) X.A (eval iter X.env) (λv s1=>wpAny (model X.prog X.w) X.A (pyIter v) (PIE X pins σ tg R) X.xe s1) X.xe s
def rm{M:Model}{A:Around}{E:Value->Shared->Prop}{s:Shared}{tg:Expr}{it:Addr}{u:Value}{o:Obj}{n:String}{vs:Array Value}{Q:Unit->Shared->Prop}(ho:s.heap.get? it=some o)(hc:o.cls=.type n)(hd:o.data=.fields vs)
 (hn:["enumerate","zip","dict_itemiterator","dict_reverseitemiterator","odict_iterator","itertools.zip_longest","itertools.pairwise"].contains n=false)(hQ:Q () s):wpAny M A (letOwnedTupleGo tg (.ref it) u) Q E s:=by
 unfold letOwnedTupleGo
 cases tg<;>first
  |exact wpAny_pure hQ
  |(cases u<;>first
     |exact wpAny_pure hQ
     |(refine wpAny_bind (wpAny_load ho ?_)
       rw[hc,hd]
       show wpAny M A (if(["enumerate","zip","dict_itemiterator","dict_reverseitemiterator","odict_iterator","itertools.zip_longest","itertools.pairwise"].contains n && vs[0]?== some (rawInt _))=true then _ else _) Q E s
       rw[if_neg (by intro h;rw[hn,Bool.false_and] at h;cases h)]
       exact wpAny_pure hQ))
def Uh(K:PySem.W.Frag)(a:Addr):It:=
 ⟨λi H=>∃xs x,Ũ K H a xs/\xs[i]?=some x,λi H x H'=>H'=H/\∀xs,Ũ K H a xs->xs[i]?=some x,λi H=>∃xs,Ũ K H a xs/\xs.length<=i⟩
def Itt(K:PySem.W.Frag)(a:Addr):It:=
 ⟨λi H=>∃xs x,cL K H a xs/\xs[i]?=some x,λi H x H'=>H'=H/\∀xs,cL K H a xs->xs[i]?=some x,λi H=>∃xs,cL K H a xs/\xs.length<=i⟩
def Ys(lo:Int)(n:Nat):It:=⟨λi _=>i<n,λi H x H'=>H'=H/\x=.int (lo+i),λi _=>n<=i⟩
def yL{P:Program}{w:World}{K:PySem.W.Frag}{tg:Expr}(a it:Addr):Turn P w K tg (Uh K a) [it] it (λi h=>h.IsListIter it a i) where
 mem:=by simp
 obj:=λi h st b hb=>by
  have e:b=it:=by simpa using hb
  subst e
  obtain⟨o,e,c,d⟩:=st
  exact⟨o,e,λv z=>by rw[d] at z;cases z⟩
 keep:=λi h h' st k=>st.at λo e=>k it (by simp) o e
 item:=by
  intro X hP hw hK hc i pins s σ H E I hf st hg
  subst hP hw hK
  obtain⟨xs,x,hq,hx⟩:=hg
  obtain⟨its,rv,p,hz⟩:=I.list hq
  obtain⟨u,hu,ru⟩:=rv.get hx
  obtain⟨f0,f1,f2,f3,f4,f5⟩:=hf it (by simp)
  refine wpAny_pyNext_list_item st p.isList (x:=u) (by simpa using hu) λh' st' sb=>?_
  have I1:Inv X pins σ H {s with heap:=h'}:=I.turned (t':=s.toks) (λb o hb e=>(sb.2 b hb).trans e) f0 f1 f3 f4 f5
  obtain⟨o,e,c,d⟩:=id st'
  exact⟨u,rfl,rm (s:={s with heap:=h'}) e c d (by decide) ⟨x,H,I1,ru,⟨rfl,λys hy=>by rw[I.qZ hy hq];exact hx⟩,st',λb hb=>(hf b hb).1⟩⟩
 done:=by
  intro X hP hw hK hc i pins s σ H E I hf st hg
  subst hP hw hK
  obtain⟨xs,hq,hx⟩:=hg
  obtain⟨its,rv,p,hz⟩:=I.list hq
  obtain⟨f0,f1,f2,f3,f4,f5⟩:=hf it (by simp)
  have hl:=rv.length
  exact wpAny_pyNext_list_end (I.ok.hd hc) st p.isList (by simp;omega) λh' eb=>⟨rfl,I.turned (t':=s.toks) (λb o hb e=>eb b o hb e) f0 f1 f3 f4 f5⟩
 self:=λ_ _ _ _ _ st h=>wpAny_pyIter_listiter st h
def uw{P:Program}{w:World}{K:PySem.W.Frag}{tg:Expr}(a it:Addr):Turn P w K tg (Itt K a) [it] it (λi h=>h.IsTupleIter it a i) where
 mem:=by simp
 obj:=λi h st b hb=>by
  have e:b=it:=by simpa using hb
  subst e
  obtain⟨o,e,c,d⟩:=st
  exact⟨o,e,λv z=>by rw[d] at z;cases z⟩
 keep:=λi h h' st k=>st.at λo e=>k it (by simp) o e
 item:=by
  intro X hP hw hK hc i pins s σ H E I hf st hg
  subst hP hw hK
  obtain⟨xs,x,hq,hx⟩:=hg
  obtain⟨its,rv,p,hz⟩:=I.tuple hq
  obtain⟨u,hu,ru⟩:=rv.get hx
  obtain⟨f0,f1,f2,f3,f4,f5⟩:=hf it (by simp)
  refine wpAny_pyNext_tuple_item st (show s.heap.IsTuple a its.toArray from p) (x:=u) (by simpa using hu) λh' st' sb=>?_
  have I1:Inv X pins σ H {s with heap:=h'}:=I.turned (t':=s.toks) (λb o hb e=>(sb.2 b hb).trans e) f0 f1 f3 f4 f5
  obtain⟨o,e,c,d⟩:=id st'
  exact⟨u,rfl,rm (s:={s with heap:=h'}) e c d (by decide) ⟨x,H,I1,ru,⟨rfl,λys hy=>by rw[I.yJ hy hq];exact hx⟩,st',λb hb=>(hf b hb).1⟩⟩
 done:=by
  intro X hP hw hK hc i pins s σ H E I hf st hg
  subst hP hw hK
  obtain⟨xs,hq,hx⟩:=hg
  obtain⟨its,rv,p,hz⟩:=I.tuple hq
  obtain⟨f0,f1,f2,f3,f4,f5⟩:=hf it (by simp)
  have hl:=rv.length
  exact wpAny_pyNext_tuple_end (I.ok.hd hc) st (show s.heap.IsTuple a its.toArray from p) (by simp;omega) λh' eb=>⟨rfl,I.turned (t':=s.toks) (λb o hb e=>eb b o hb e) f0 f1 f3 f4 f5⟩
 self:=λ_ _ _ _ _ st h=>wpAny_pyIter_tupleiter st h
def ux{P:Program}{w:World}{K:PySem.W.Frag}{tg:Expr}(it:Addr)(lo:Int)(n:Nat):Turn P w K tg (Ys lo n) [it] it (λi h=>IsRangeIter h it (lo+(i:Nat)*1) ((n:Int)-(i:Nat)) 1) where
 mem:=by simp
 obj:=λi h st b hb=>by
  have e:b=it:=by simpa using hb
  subst e
  exact⟨_,st,λv z=>by
   have z':Data.fields _=Data.cell v:=z
   cases z'⟩
 keep:=λi h h' st k=>k it (by simp) _ st
 item:=by
  intro X hP hw hK hc i pins s σ H E I hf st hg
  subst hP hw hK
  obtain⟨f0,f1,f2,f3,f4,f5⟩:=hf it (by simp)
  have W:=Walks.range (prog:=X.prog) (w:=X.w) (I.ok.hd hc) it lo 1 n
  refine W.item i s _ _ hg st λv h' tk hv st' kk=>?_
  obtain⟨t,rfl⟩:=hv
  have I1:Inv X pins σ H {s with heap:=h',toks:=tk}:=I.turned (λb o hb e=>kk b o (by simpa using hb) e) f0 f1 f3 f4 f5
  refine⟨_,rfl,rm (s:={s with heap:=h',toks:=tk}) (n:= "range_iterator") st' rfl rfl (by decide) ⟨.int (lo+i),H,I1,⟨t,?_⟩,⟨rfl,rfl⟩,st',λb hb=>(hf b hb).1⟩⟩
  rw[Int.mul_one]
 done:=by
  intro X hP hw hK hc i pins s σ H E I hf st hg
  subst hP hw hK
  obtain⟨f0,f1,f2,f3,f4,f5⟩:=hf it (by simp)
  exact wpAny_pyNext_range_end (I.ok.hd hc) st (by have:n<=i:=hg;omega) λh' eb=>⟨rfl,I.turned (t':=s.toks) (λb o hb e=>eb b o hb e) f0 f1 f3 f4 f5⟩
 self:=λ_ _ _ _ _ st h=>wpAny_pyIter_rangeiter st h
end L2
namespace L2
open PySem PySem.Spec PyProof.Rows
section
variable{X:Cx}{tg:Expr}
def Ah{pins:List (Addr×Obj)}{σ:St}{H:Hp}{s:Shared}{R:It->Hp->Prop}{E:Value->Shared->Prop}{lo hi:Int}{t u v:Tok}{tk:Nat}(I:Inv X pins σ H s)(h1: -(2 ^ 62)<=lo)(h2:lo<2 ^ 62)(h3: -(2 ^ 62)<=hi)(h4:hi<2 ^ 62)
 (q:R (Ys lo (hi-lo).toNat) H):wpAny (model X.prog X.w) X.A (pyIter (.ref s.heap.objs.size)) (PIE X pins σ tg R) E {s with heap:=s.heap.push {cls:=.type "range",data:=.fields #[.int lo t,.int hi u,.int 1 v]},toks:=tk}:=by
 refine wpAny_pyIter_range (IsRange.new ..) (small_one h1 h2 h3 h4) ?_
 have I1:Inv X pins σ H {s with heap:=s.heap.push {cls:=.type "range",data:=.fields #[.int lo t,.int hi u,.int 1 v]},toks:=tk}:=I.kept λb o e=>Heap.get?_push_of_some _ e
 refine⟨(s.heap.push {cls:=.type "range",data:=.fields #[.int lo t,.int hi u,.int 1 v]}).objs.size,[(s.heap.push {cls:=.type "range",data:=.fields #[.int lo t,.int hi u,.int 1 v]}).objs.size],_,_,H,rfl,
  I1.kept (t':=tk) λb o e=>Heap.get?_push_of_some _ e,ux _ lo (hi-lo).toNat,?_,λb hb=>?_,q⟩
 ·have e1:lo+((0:Nat):Int)*1=lo:=by simp
  have e2:(((hi-lo).toNat:Nat):Int)-((0:Nat):Int)=Builtin.Range.rangeSize lo hi 1:=by rw[rangeSize_one];split<;>omega
  show IsRangeIter _ _ (lo+((0:Nat):Int)*1) ((((hi-lo).toNat:Nat):Int)-((0:Nat):Int)) 1
  rw[e1,e2]
  exact Heap.get?_push_size _ rfl
 ·have e:b=(s.heap.push {cls:=.type "range",data:=.fields #[.int lo t,.int hi u,.int 1 v]}).objs.size:=by simpa using hb
  subst e
  exact I1.yK (Nat.le_refl _) (I1.hok.fresh (Nat.le_refl _))
def Vb(ta:TA):TI:=λσ H R=>ta σ H λvs H1=>∃j:Int,vs=[.int j]/\ -(2 ^ 62)<=j/\j<2 ^ 62/\R (Ys 0 j.toNat) H1
def yM{a:Expr}{ta:TA}{p pos:Pos}(hg:Gl X "range")(hm:X.mg "range" =none)(ha:PA X [a] ta)(hs:starEach [a] X.env=[(false,eval a X.env)]:=by rfl):PI X tg (.Call (.Name "range" p) [a] [] pos) (Vb ta):=by
 intro pins s σ H R I h
 refine Call_ (oU I hg hm boot_range (PyProof.Rows.callWith_type1 (Ň (ha pos pins s σ H _ I h) λus s1 ⟨vs,H1,I1,r1,q1⟩=>?_) hs rfl))
 obtain⟨j,e,q1,q2,q⟩:=q1
 subst e
 cases r1 with
 |cons r rr=>
  cases rr
  obtain⟨t,rfl⟩:=r
  exact call_range_1 (Ah I1 (by omega) (by omega) q1 q2 (by simpa using q))
def Pk(wi:TI)(g:TG)(tb:TS):TS:=λD σ H=>wi σ H λJ H1=>∃W:Nat->Nat->St->Hp->Prop,(∃m,W 0 m σ H1)/\∀i m σ H,W i m σ H->
 (J.stop i H/\D.nx σ H)\/(J.go i H/\∃N:St->Hp->Prop,(∀σ' H',N σ' H'->∃m',m'<m/\W (i+1) m' σ' H')/\∀x H',J.Yr i H x H'->g x σ H' λσ2 H2=>tb {D with nx:=N,ct:=N,bk:=D.nx} σ2 H2)
def iw(fp:List Addr)(h:Heap):List (Addr×Obj):=fp.filterMap λb=>(h.get? b).map λo=>(b,o)
def ų{fp:List Addr}{h:Heap}{b:Addr}{o:Obj}(hb:b∈fp)(e:h.get? b=some o):(b,o)∈iw fp h:=List.mem_filterMap.mpr ⟨b,hb,by rw[e];rfl⟩
def yN{fp:List Addr}{h:Heap}{p:Addr×Obj}(hp:p∈iw fp h):p.1∈fp/\h.get? p.1=some p.2:=by
 obtain⟨b,hb,e⟩:=List.mem_filterMap.mp hp
 cases q:h.get? b with
 |none=>rw[q] at e;cases e
 |some o=>
  rw[q] at e
  have e':(b,o)=p:=Option.some.inj e
  subst e'
  exact⟨hb,q⟩
def Inv.pinned{pins:List (Addr×Obj)}{σ:St}{H:Hp}{s:Shared}{fp:List Addr}(I:Inv X pins σ H s)(hf:∀b∈fp,eN X pins H b)(ho:∀b∈fp,∃o,s.heap.get? b=some o/\∀v,o.data≠ .cell v):Inv X (pins++iw fp s.heap) σ H s:=
 I.wJ fun p hp=>(List.mem_append.mp hp).elim (fun z=>I.pin p (List.mem_append_right _ z)) fun z=>by
   obtain⟨hb,e⟩:=yN z
   obtain⟨f0,f1,f2,_⟩:=hf p.1 hb
   obtain⟨o,e',d⟩:=ho p.1 hb
   rw[e] at e';cases e'
   exact⟨e,f0,f1,f2,d⟩
def Inv.cT{pins pl:List (Addr×Obj)}{σ:St}{H:Hp}{s:Shared}(I:Inv X (pins++pl) σ H s):Inv X pins σ H s:=I.wJ λp hp=>I.pin p (List.mem_append_right _ (List.mem_append_left _ hp))
def Ai{iter:Expr}{body:List Stmt}{wi:TI}{g:TG}{tb:TS}{pos:Pos}(hp:PassesOwn (model X.prog X.w) X.A X.env X.xe)(hc:X.calm=true)(hi:PI X tg iter wi)(hg:PG X tg g)(hb:eV X body tb)
 (hs:∀x,foldedSetIterable iter X.env x=pure x:=by intro _;rfl):PS X (.For tg iter body [] pos) (Pk wi g tb):=by
 intro pins s σ H D I h
 refine wpAny_For (Ň (hi pins s σ H _ I h) λv s1 h1=>Ň h1 λitv s2 h2=>?_) hs
 obtain⟨it,fp,tn,J,H2,e,I2,T,st2,f2,W,⟨m0,w0⟩,turn⟩:=h2
 subst e
 -- what stays true of the iterator's objects through the loop
 have stat:∀{H':Hp},(∀b∈fp,H' b=none)->∀b∈fp,eN X pins H' b:=λhn b hb=>⟨hn b hb,(f2 b hb).2⟩
 refine codeAny_forLoop_any (λn s'=>∃i σ' H',Inv X pins σ' H' s'/\tn i s'.heap/\(∀b∈fp,H' b=none)/\W i n σ' H') ?_ m0 ⟨0,σ,H2,I2,st2,λb hb=>(f2 b hb).1,w0⟩
 rintro n s3 ⟨i,σ3,H3,I3,st3,fr3,w3⟩
 rcases turn i n σ3 H3 w3 with⟨stop,qn⟩|⟨go,N,hN,step⟩
 ·refine wpAny_passesOwn hp (Ň (T.done X rfl rfl rfl hc i pins s3 σ3 H3 X.xe I3 (stat fr3) st3 stop) λr s4 ⟨hr,I4⟩=>?_)
  subst hr
  exact wpAny_execs_nil ⟨σ3,H3,I4,qn⟩
 ·refine wpAny_passesOwn hp (Ň (T.item X rfl rfl rfl hc i pins s3 σ3 H3 X.xe I3 (stat fr3) st3 go) λr s4 ⟨u,hr,h4⟩=>?_)
  subst hr
  refine wpAny_passesOwn hp (Ň h4 λ_ s5 ⟨x,H5,I5,r5,y5,Gb,Pn⟩=>?_)
  have I5':=I5.pinned (stat Pn) (T.obj _ _ Gb)
  refine wpAny_passesOwn hp (Ň (hg _ s5 σ3 H5 x u _ I5' r5 (step x H5 y5)) λ_ s6 ⟨σ6,H6,I6,q6⟩=>?_)
  refine wpAny_passesOwn hp (Ň (hb _ s6 σ6 H6 _ I6 q6) λf s7 q7=>?_)
  have again:∀{σ7:St} {H7:Hp},Inv X (pins++iw fp s5.heap) σ7 H7 s7->N σ7 H7->∃m,m<n/\∃i σ' H',Inv X pins σ' H' s7/\tn i s7.heap/\(∀b∈fp,H' b=none)/\W i m σ' H':=fun{σ7 H7} I7 n7=>by
   obtain⟨m',hm,w7⟩:=hN σ7 H7 n7
   refine⟨m',hm,i+1,σ7,H7,I7.cT,T.keep _ _ _ Gb λb hb o e=>(I7.pin (b,o) (List.mem_append_right _ (List.mem_append_right _ (ų hb e)))).1,λb hb=>?_,w7⟩
   obtain⟨o,e,d⟩:=T.obj _ _ Gb b hb
   exact(I7.pin (b,o) (List.mem_append_right _ (List.mem_append_right _ (ų hb e)))).2.1
  cases f with
  |next=>obtain⟨σ7,H7,I7,n7⟩:=q7;exact again I7 n7
  |cont=>obtain⟨σ7,H7,I7,n7⟩:=q7;exact again I7 n7
  |brk=>obtain⟨σ7,H7,I7,q7⟩:=q7;exact⟨σ7,H7,I7.cT,q7⟩
  |ret v=>obtain⟨x7,σ7,H7,I7,r7,q7⟩:=q7;exact⟨x7,σ7,H7,I7.cT,r7,q7⟩
end
end L2
namespace L2
open PySem PySem.Spec PyProof.Rows
abbrev R2:=V->V->Hp->VK->Prop
def ş(X:Cx)(f:Value->Value->Sem Value)(r:R2):Prop:=
 ∀(pins:List (Addr×Obj)) (s:Shared) (σ:St) (H:Hp) (x y:V) (v u:Value) (Q:VK),Inv X pins σ H s->RelV x v->RelV y u->r x y H Q->
  wpAny (model X.prog X.w) X.A (f v u) (EP X pins σ Q) X.xe s
def Gd(X:Cx)(f:Value->Sem Value)(r:V->Hp->VK->Prop):Prop:=
 ∀(pins:List (Addr×Obj)) (s:Shared) (σ:St) (H:Hp) (x:V) (v:Value) (Q:VK),Inv X pins σ H s->RelV x v->r x H Q->
  wpAny (model X.prog X.w) X.A (f v) (EP X pins σ Q) X.xe s
def Ń(X:Cx)(f:Value)(r:List V->Hp->VK->Prop):Prop:=
 ∀(pins:List (Addr×Obj)) (s:Shared) (σ:St) (H:Hp) (xs:List V) (us:List Value) (Q:VK),Inv X pins σ H s->Vals xs us->r xs H Q->
  wpAny (model X.prog X.w) X.A (call f us) (EP X pins σ Q) X.xe s
def ZaF(X:Cx)(r:V->Hp->(Bool->Hp->Prop)->Prop):Prop:=
 ∀(pins:List (Addr×Obj)) (s:Shared) (σ:St) (H:Hp) (x:V) (v:Value) (Q:Bool->Hp->Prop),Inv X pins σ H s->RelV x v->r x H Q->
  wpAny (model X.prog X.w) X.A (truthy v) (TP X pins σ Q) X.xe s
def Ui(r:R2)(ta tb:TE):TE:=λσ H Q=>ta σ H λx H1=>tb σ H1 λy H2=>r x y H2 Q
def tUn(r:V->Hp->VK->Prop)(ta:TE):TE:=λσ H Q=>ta σ H λx H1=>r x H1 Q
def rI(C:Int->Int->Prop)(g:Int->Int->V):R2:=λx y H Q=>∃i j,x=.int i/\y=.int j/\C i j/\Q (g i j) H
def Ge(g:Int->Int->V):R2:=λx y H Q=>∃i j,x=.int i/\y=.int j/\Q (g i j) H
def rU(g:Int->V):V->Hp->VK->Prop:=λx H Q=>∃i,x=.int i/\Q (g i) H
section
variable{X:Cx}{a b c:Expr}{ta tb tc:TE}{pos:Pos}
def Pq(ha:PE X a ta)(hb:PE X b tb){pins:List (Addr×Obj)}{s:Shared}{σ:St}{H:Hp}{R:V->V->Hp->Prop}(I:Inv X pins σ H s)
 (h:ta σ H λx H1=>tb σ H1 λy H2=>R x y H2){Q:Value->Shared->Prop}{f:Value->Value->Sem Value}
 (hf:∀v u s2 x y H2,Inv X pins σ H2 s2->RelV x v->RelV y u->R x y H2->wpAny (model X.prog X.w) X.A (f v u) Q X.xe s2) :
 wpAny (model X.prog X.w) X.A (eval a X.env) (λv s₁=>wpAny (model X.prog X.w) X.A (eval b X.env) (λu s₂=>wpAny (model X.prog X.w) X.A (f v u) Q X.xe s₂) X.xe s₁) X.xe s:=by
 refine Ň (ha pins s σ H _ I h) λv s1 ⟨x,H1,I1,r1,q1⟩=>?_
 refine Ň (hb pins s1 σ H1 _ I1 q1) λu s2 ⟨y,H2,I2,r2,q2⟩=>?_
 exact hf v u s2 x y H2 I2 r1 r2 q2
def Jb{op:Operator}{r:R2}(ho:ş X (binaryOp op) r)(ha:PE X a ta)(hb:PE X b tb):PE X (.BinOp a op b pos) (Ui r ta tb):=by
 intro pins s σ H Q I h
 exact wpAny_BinOp (Pq ha hb I h λv u s2 x y H2 I2 rx ry q=>ho pins s2 σ H2 x y v u Q I2 rx ry q)
def Vc{op:UnaryOp}{r:V->Hp->VK->Prop}(ho:Gd X (unaryOp op) r)(ha:PE X a ta):PE X (.UnaryOp op a pos) (tUn r ta):=by
 intro pins s σ H Q I h
 exact UnaryOp_ (Ň (ha pins s σ H _ I h) λv s1 ⟨x,H1,I1,r1,q1⟩=>ho pins s1 σ H1 x v Q I1 r1 q1)
def wK{f:Value->Value->Sem Value}{C:Int->Int->Prop}{g:Int->Int->Int}
 (rule:∀(i j:Int) (t u:Tok) (s:Shared) (Q:Value->Shared->Prop) (E:Value->Shared->Prop),C i j->Q (.int (g i j) s.toks) {s with toks:=s.toks+1}->wpAny (model X.prog X.w) X.A (f (.int i t) (.int j u)) Q E s) :
 ş X f (rI C λi j=>.int (g i j)):=by
 intro pins s σ H x y v u Q I rx ry h
 obtain⟨i,j,rfl,rfl,hc,q⟩:=h
 obtain⟨t,rfl⟩:=rx
 obtain⟨t',rfl⟩:=ry
 exact rule i j t t' s _ _ hc ⟨.int (g i j),H,I.tok _,⟨_,rfl⟩,q⟩
def rC{f:Value->Value->Sem Value}{g:Int->Int->Int}
 (rule:∀(i j:Int) (t u:Tok) (s:Shared) (Q:Value->Shared->Prop) (E:Value->Shared->Prop),Q (.int (g i j) s.toks) {s with toks:=s.toks+1}->wpAny (model X.prog X.w) X.A (f (.int i t) (.int j u)) Q E s) :
 ş X f (Ge λi j=>.int (g i j)):=by
 intro pins s σ H x y v u Q I rx ry h
 obtain⟨i,j,rfl,rfl,q⟩:=h
 obtain⟨t,rfl⟩:=rx
 obtain⟨t',rfl⟩:=ry
 exact rule i j t t' s _ _ ⟨.int (g i j),H,I.tok _,⟨_,rfl⟩,q⟩
def Pr{f:Value->Value->Sem Value}{g:Int->Int->Bool}
 (rule:∀(i j:Int) (t u:Tok) (s:Shared) (Q:Value->Shared->Prop) (E:Value->Shared->Prop),Q (.bool (g i j)) s->wpAny (model X.prog X.w) X.A (f (.int i t) (.int j u)) Q E s) :
 ş X f (Ge λi j=>.bl (g i j)):=by
 intro pins s σ H x y v u Q I rx ry h
 obtain⟨i,j,rfl,rfl,q⟩:=h
 obtain⟨t,rfl⟩:=rx
 obtain⟨t',rfl⟩:=ry
 exact rule i j t t' s _ _ ⟨.bl (g i j),H,I,rfl,q⟩
def yO(i j:Int):Prop:=0<=j/\j<=1000000/\i.natAbs<2 ^ 64
def Pu(i j:Int):Prop:=(-(2 ^ 64)<i/\i<2 ^ 64)\/(-(2 ^ 64)<j/\j<2 ^ 64)
def Pu.ok{i j:Int}(h:Pu i j):IntMulOk i j:=by
 rcases h with⟨h1,h2⟩|⟨h1,h2⟩
 ·exact .of_left (intBits_le_64 h1 h2)
 ·exact .of_right (intBits_le_64 h1 h2)
def uy(k:Nat):(0:Int)<=2 ^ k:=by
 rw[two_pow_cast]
 exact Int.natCast_nonneg _
def Px:ş X (binaryOp .Add) (Ge λi j=>.int (i+j)):=rC λ_ _ _ _ _ _ _ q=>add_int q
def Py:ş X (binaryOp .Sub) (Ge λi j=>.int (i-j)):=rC λ_ _ _ _ _ _ _ q=>sub_int q
def Gf:ş X (binaryOp .Mod) (rI (λ_ j=>j≠0) λi j=>.int (i.fmod j)):=wK λ_ _ _ _ _ _ _ hc q=>mod_int' hc q
def Pz:ş X (binaryOp .Pow) (rI yO λi j=>.int (i ^ j.toNat)):=wK λ_ _ _ _ _ _ _ hc q=>pow_int_small hc.1 hc.2.1 hc.2.2 q
def PJ:ş X (binaryOp .LShift) (rI yO λi j=>.int (i*2 ^ j.toNat)):=wK λ_ _ _ _ _ _ _ hc q=>lshift_int_small hc.1 hc.2.1 hc.2.2 q
def PK:ş X (binaryOp .RShift) (rI (λ_ j=>0<=j) λi j=>.int (i / 2 ^ j.toNat)):=wK λi j _ _ _ _ _ hc q=>
 rshift_int hc (by rw[Int.fdiv_eq_ediv_of_nonneg i (uy _)];exact q)
def PL:ş X (binaryOp .BitAnd) (Ge λi j=>.int (Builtin.bitAnd i j)):=rC λ_ _ _ _ _ _ _ q=>and_int q
def unI{f:Value->Sem Value}{g:Int->Int}
 (rule:∀(i:Int) (t:Tok) (s:Shared) (Q:Value->Shared->Prop) (E:Value->Shared->Prop),Q (.int (g i) s.toks) {s with toks:=s.toks+1}->wpAny (model X.prog X.w) X.A (f (.int i t)) Q E s) :
 Gd X f (rU λi=>.int (g i)):=by
 intro pins s σ H x v Q I rx h
 obtain⟨i,rfl,q⟩:=h
 obtain⟨t,rfl⟩:=rx
 exact rule i t s _ _ ⟨.int (g i),H,I.tok _,⟨_,rfl⟩,q⟩
def PN:Gd X (unaryOp .USub) (rU λi=>.int (-i)):=unI λ_ _ _ _ _ q=>neg_int q
end
section
variable{X:Cx}{a b c:Expr}{ta tb tc:TE}{pos:Pos}
def P_{pins:List (Addr×Obj)}{σ:St}{H:Hp}{s:Shared}{Q:VK}{k k':Bool}(I:Inv X pins σ H s)(q:Q (.bl k) H)(e:k=k'):EP X pins σ Q (.bool k') s:=by
 subst e
 exact⟨.bl k,H,I,rfl,q⟩
def Vd:ş X (compareOp .Lt) (Ge λi j=>.bl (decide (i<j))):=Pr λ_ _ _ _ _ _ _ q=>lt_int q
def Ve:ş X (compareOp .LtE) (Ge λi j=>.bl (decide (i<=j))):=Pr λ_ _ _ _ _ _ _ q=>le_int q
def Vf:ş X (compareOp .Gt) (Ge λi j=>.bl (decide (j<i))):=Pr λ_ _ _ _ _ _ _ q=>gt_int q
def Qa:ş X (compareOp .Is) (λx y H Q=>y=.non/\Q (.bl (decide (x=.non))) H):=by
 intro pins s σ H x y v u Q I rx ry h
 obtain⟨rfl,q⟩:=h
 cases ry
 refine is_none_gen (P_ I q ?_)
 cases x<;>first
  |(cases rx;rfl)
  |(obtain⟨t,rfl⟩:=rx;rfl)
def ş.or{f:Value->Value->Sem Value}{r r':R2}(h:ş X f r)(h':ş X f r'):ş X f (λx y H Q=>r x y H Q\/r' x y H Q):=by
 intro pins s σ H x y v u Q I rx ry q
 rcases q with q|q
 ·exact h pins s σ H x y v u Q I rx ry q
 ·exact h' pins s σ H x y v u Q I rx ry q
def š(b:Expr){op:CmpOp}(h:op≠ .In:=by decide)(h2:op≠ .NotIn:=by decide):behindInMarks op b=false:=by
 have e1:(op== CmpOp.In)=false:=by cases op<;>first|rfl|exact absurd rfl h
 have e2:(op== CmpOp.NotIn)=false:=by cases op<;>first|rfl|exact absurd rfl h2
 cases b<;>simp[behindInMarks,e1,e2]
def Gg{op:CmpOp}{r:R2}(ho:ş X (compareOp op) r)(ha:PE X a ta)(hb:PE X b tb)(hm:behindInMarks op b=false):PE X (.Compare a [op] [b] pos) (Ui r ta tb):=by
 intro pins s σ H Q I h
 exact wpAny_Compare1 (Pq ha hb I h λv u s2 x y H2 I2 rx ry q=>ho pins s2 σ H2 x y v u Q I2 rx ry q) hm
def Qc(K:PySem.W.Frag)(x:V)(H:Hp)(k:Bool):Prop:=
 match x with
 | .non=>k=false
 | .bl b=>k=b
 | .int i=>k=(i != 0)
 | .str y=>y.length<=sizeLine/\k=((y.length:Int) != 0)
 | .IV y=>y.size<=sizeLine/\k=((y.size:Int) != 0)
 | .ref p=>(∃xs,Ũ K H p xs/\k=!xs.isEmpty)\/(∃xs,cL K H p xs/\k=!xs.isEmpty)\/∃kvs,H p=some (.dK kvs)/\k=!kvs.isEmpty
 |_=>False
def uz{κ:Type}{kvs:List (κ×V)}{vs:List (κ×Value)}(r:KV kvs vs):(!vs.isEmpty)=!kvs.isEmpty:=by
 cases r<;>rfl
def jO{xs:List V}{its:List Value}(r:Vals xs its):(!its.toArray.isEmpty)=!xs.isEmpty:=by
 cases r<;>simp
def iy:(sizeLine:Nat)<2 ^ 63:=by rw[sizeLine_eq];decide
def Qd:ZaF X (λx H Q=>∃k,Qc X.K x H k/\Q k H):=by
 intro pins s σ H x v Q I rx h
 obtain⟨k,e,q⟩:=h
 have hl:=iy
 have hs:sizeLine=16777216:=sizeLine_eq
 cases x with
 |non=>
  cases rx
  have e':k=false:=e
  subst e'
  exact truthy_none ⟨H,I,q⟩
 |bl b=>
  cases rx
  have e':k=b:=e
  subst e'
  exact wpAny_truthy_bool ⟨H,I,q⟩
 |int i=>
  obtain⟨t,rfl⟩:=rx
  have e':k=(i != 0):=e
  subst e'
  exact PySem.P.truthy_int ⟨H,I,q⟩
 |str y=>
  obtain⟨t,rfl⟩:=rx
  obtain⟨hy,e'⟩:y.length<=sizeLine/\k=((y.length:Int) != 0):=e
  subst e'
  exact PySem.P.truthy_str (by omega) ⟨H,I.tok _,q⟩
 |IV y=>
  obtain⟨t,rfl⟩:=rx
  obtain⟨hy,e'⟩:y.size<=sizeLine/\k=((y.size:Int) != 0):=e
  subst e'
  exact PySem.W.truthy_bytes (by omega) ⟨H,I.tok _,q⟩
 |ref p=>
  cases rx
  have e':(∃xs,Ũ X.K H p xs/\k=!xs.isEmpty)\/(∃xs,cL X.K H p xs/\k=!xs.isEmpty)\/∃kvs,H p=some (.dK kvs)/\k=!kvs.isEmpty:=e
  rcases e' with⟨xs,hx,e'⟩|⟨xs,hx,e'⟩|⟨kvs,hx,e'⟩
  ·subst e'
   obtain⟨its,r,pl,hz⟩:=I.list hx
   have hlen:=r.length
   exact wpAny_truthy_list pl.isList (by simp only[List.size_toArray];omega) ⟨H,I.tok _,by rw[jO r];exact q⟩
  ·subst e'
   obtain⟨its,r,pl,hz⟩:=I.tuple hx
   have hlen:=r.length
   exact truthy_tuple pl (by simp only[List.size_toArray];omega) ⟨H,I.tok _,by rw[jO r];exact q⟩
  ·subst e'
   obtain⟨hz,hS,vs,r,m⟩:kvs.length<=sizeLine/\(p== sysModules)=false/\∃vs,KV kvs vs/\s.heap.DictOf (Ŏ X.prog X.w) p vs:=I.hok p _ hx
   have hlen:kvs.length=vs.length:=Paired.length r
   exact wpAny_truthy_dict hS m (by omega) ⟨H,I.tok _,by rw[uz r];exact q⟩
 |_=>exact(show False from e).elim
def Aj(ha:PE X a ta)(he:∀whole,isTrue a X.env whole=(do let v <-whole;standAt a.pos;holding [v] (truthy v))) :
 PT X a (λσ H Q=>ta σ H λx H'=>∃k,Qc X.K x H' k/\Q k H'):=by
 intro pins s σ H Q I h
 exact isTrue_plain (Ň (ha pins s σ H _ I h) λv s1 ⟨x,H1,I1,r1,q1⟩=>Qd pins s1 σ H1 x v Q I1 r1 q1) (he _)
def uD:ş X (binaryOp .Add) (λx y H Q=>∃i j,x=.str i/\y=.str j/\i.length+j.length<=sizeLine/\Q (.str (i++j)) H):=by
 intro pins s σ H x y v u Q I rx ry h
 obtain⟨i,j,rfl,rfl,hz,q⟩:=h
 obtain⟨t,rfl⟩:=rx
 obtain⟨t',rfl⟩:=ry
 exact add_str (λt' tk=>⟨.str (i++j),H,I.tok _,⟨_,rfl⟩,q⟩) hz
def vals1{x:V}{us:List Value}(r:Vals [x] us):∃u,us=[u]/\RelV x u:=by
 cases r with
 |cons r1 r2=>cases r2;exact⟨_,rfl,r1⟩
def vals2{x y:V}{us:List Value}(r:Vals [x,y] us):∃u w',us=[u,w']/\RelV x u/\RelV y w':=by
 cases r with
 |cons r1 r2=>
  cases r2 with
  |cons r3 r4=>cases r4;exact⟨_,_,rfl,r1,r3⟩
def Ak:Ń X (.builtin "abs") (λxs H Q=>∃i,xs=[.int i]/\Q (.int (if i<0 then -i else i)) H):=by
 intro pins s σ H xs us Q I r h
 obtain⟨i,rfl,q⟩:=h
 obtain⟨u,rfl,t,rfl⟩:=vals1 r
 exact call_abs_int λu tk=>⟨.int (if i<0 then -i else i),H,I.tok _,⟨_,rfl⟩,q⟩
def yP(hc:X.calm=true):Ń X (.builtin "max") (λxs H Q=>∃i j,xs=[.int i,.int j]/\Q (.int (if j>i then j else i)) H):=by
 intro pins s σ H xs us Q I r h
 obtain⟨i,j,rfl,q⟩:=h
 obtain⟨u,w',rfl,⟨t,rfl⟩,⟨t',rfl⟩⟩:=vals2 r
 refine max_two_ints (I.ok.hd hc) λh' tk k=>⟨_,H,I.kept k,?_,q⟩
 by_cases hj:j>i
 ·rw[if_pos hj,if_pos hj];exact⟨_,rfl⟩
 ·rw[if_neg hj,if_neg hj];exact⟨_,rfl⟩
def yQ(hc:X.calm=true):Ń X (.builtin "min") (λxs H Q=>∃i j,xs=[.int i,.int j]/\Q (.int (if j<i then j else i)) H):=by
 intro pins s σ H xs us Q I r h
 obtain⟨i,j,rfl,q⟩:=h
 obtain⟨u,w',rfl,⟨t,rfl⟩,⟨t',rfl⟩⟩:=vals2 r
 refine min_two_ints (I.ok.hd hc) λh' tk k=>⟨_,H,I.kept k,?_,q⟩
 by_cases hj:j<i
 ·rw[if_pos hj,if_pos hj];exact⟨_,rfl⟩
 ·rw[if_neg hj,if_neg hj];exact⟨_,rfl⟩
def yR:Ń X (.type "int") (λxs H Q=>(∃i,xs=[.int i]/\Q (.int i) H)\/∃k,xs=[.bl k]/\Q (.int (if k then 1 else 0)) H):=by
 intro pins s σ H xs us Q I r h
 rcases h with⟨i,rfl,q⟩|⟨k,rfl,q⟩
 ·obtain⟨u,rfl,t,rfl⟩:=vals1 r
  exact call_int_int ⟨.int i,H,I,⟨_,rfl⟩,q⟩
 ·obtain⟨u,rfl,r1⟩:=vals1 r
  cases r1
  exact call_int_bool ⟨.int (if k then 1 else 0),H,I.tok _,⟨_,rfl⟩,q⟩
def ZaG(K:PySem.W.Frag)(x:V)(H:Hp)(n:Nat):Prop:=
 match x with
 | .str y=>y.length<=sizeLine/\n=y.length
 | .IV y=>y.size<=sizeLine/\n=y.size
 | .ref p=>(∃xs,Ũ K H p xs/\n=xs.length)\/∃xs,cL K H p xs/\n=xs.length
 |_=>False
def Al:Ń X (.builtin "len") (λxs H Q=>∃x n,xs=[x]/\ZaG X.K x H n/\Q (.int n) H):=by
 intro pins s σ H xs us Q I r h
 obtain⟨x,n,rfl,e,q⟩:=h
 obtain⟨u,rfl,rx⟩:=vals1 r
 have hl:=iy
 have hs:sizeLine=16777216:=sizeLine_eq
 cases x with
 |str y=>
  obtain⟨t,rfl⟩:=rx
  obtain⟨hy,e'⟩:y.length<=sizeLine/\n=y.length:=e
  subst e'
  exact len_str (by omega) ⟨.int _,H,I.tok _,⟨_,rfl⟩,q⟩
 |IV y=>
  obtain⟨t,rfl⟩:=rx
  obtain⟨hy,e'⟩:y.size<=sizeLine/\n=y.size:=e
  subst e'
  exact PySem.W.len_bytes (by omega) ⟨.int _,H,I.tok _,⟨_,rfl⟩,q⟩
 |ref p=>
  cases rx
  have e':(∃xs,Ũ X.K H p xs/\n=xs.length)\/∃xs,cL X.K H p xs/\n=xs.length:=e
  rcases e' with⟨xs,hx,e'⟩|⟨xs,hx,e'⟩
  ·subst e'
   obtain⟨its,r',pl,hz⟩:=I.list hx
   have hlen:=r'.length
   exact Calls.call_len_list pl.isList (by simp only[List.size_toArray];omega) ⟨.int xs.length,H,I.tok _,⟨_,by simp only[List.size_toArray];rw[hlen]⟩,q⟩
  ·subst e'
   obtain⟨its,r',pl,hz⟩:=I.tuple hx
   have hlen:=r'.length
   exact len_tuple pl (by simp only[List.size_toArray];omega) ⟨.int xs.length,H,I.tok _,⟨_,by simp only[List.size_toArray];rw[hlen]⟩,q⟩
 |_=>exact(show False from e).elim
end
end L2
namespace L2
open PySem PySem.Spec PyProof.Rows
structure uE(h:Heap)(x dx C:Addr)(mA:Str->Option Value):Prop where
 obj:h.get? x=some (PySem.W.instObj C dx)
 ns:h.Ns1 dx mA
 ne:dx≠x
def yS{h:Heap}{dx:Addr}{mA:Str->Option Value}(n:h.Ns1 dx mA):∃od,h.get? dx=some od/\∀name,PySem.W.lookIn name od=some (mA name):=by
 obtain⟨o,es,ep,ho,hd,hk,_,hm⟩:=n
 refine⟨o,ho,λname=>?_⟩
 have e:=hm name
 unfold nsFind findBy at e
 rw[<-Array.find?_toList] at e
 unfold PySem.W.lookIn
 rw[hd]
 dsimp only
 split
 ·rename_i y q
  rw[q] at e
  exact congrArg some e
 ·rename_i q
  rw[q] at e
  have a:es.toList.any (·.refKey)=false:=by
   rw[List.any_eq_false]
   intro y hy
   obtain⟨z,t,hkey⟩:=hk y (Array.mem_toList_iff.mp hy)
   simp[DictEntry.refKey,hkey]
  have a':¬es.toList.any (·.refKey)=true:=by rw[a];exact Bool.false_ne_true
  rw[if_neg a']
  exact congrArg some e
def uE.look{h:Heap}{x dx C:Addr}{mA:Str->Option Value}(I:uE h x dx C mA):∃od,PySem.W.InstAt h x (PySem.W.instObj C dx) C (some od)/\∀name,PySem.W.lookIn name od=some (mA name):=
 let ⟨od,ho,hl⟩:=yS I.ns
 ⟨od,⟨I.obj,rfl,rfl,ho⟩,hl⟩
section
variable{prog:Program}{w:World}{A:Around}{E:Value->Shared->Prop}{s:Shared}{K:PySem.W.Frag}{x dx C f:Addr}{mA:Str->Option Value}{name:Str}{v:Value}
def get_map{expr:Bool}{Q:Value->Shared->Prop}(X:K.In s.heap)(I:uE s.heap x dx C mA)(hg:PySem.W.plainGet K C name=true)(hh:PySem.W.hasDictIn K C=true)
 (ha:PySem.W.findIn K (.ref C) name=some none)(hv:mA name=some v)(hv':PySem.W.handedIn v=true)(h:Q v {s with toks:=s.toks+1}) :
 wpAny (model prog w) A (getAttr (.ref x) name expr) Q E s:=by
 obtain⟨od,J,hl⟩:=I.look
 exact PySem.W.get_value X J (PySem.W.plainGet_of hg).1 (PySem.W.findObj_own hh ha rfl (by rw[hl,hv])) hv' h
def Am{pl:Sem Bool}{Q:Value×List Value->Shared->Prop}(X:K.In s.heap)(I:uE s.heap x dx C mA)(hg:PySem.W.plainGet K C name=true)
 (hf:PySem.W.findIn K (.ref C) name=some (some (.ref f)))(ht:PySem.W.isFn K (.ref f)=true)(hv:mA name=none)(h:Q (.ref f,[.ref x]) s) :
 wpAny (model prog w) A (getMethod (.ref x) name pl) Q E s:=by
 obtain⟨od,J,hl⟩:=I.look
 exact PySem.W.method_fn X J (PySem.W.plainGet_of hg).1 (PySem.W.plainGet_of hg).2 hf (beq_iff_eq.mp ht) (by show(PySem.W.lookIn name od).map (·.isSome)=some false;rw[hl,hv];rfl) h
def Gh{ns:List Str}{Q:Unit->Shared->Prop}(X:K.In s.heap)(I:uE s.heap x dx C mA)
 (hs:PySem.W.findIn K (.ref C) "__setattr__" =some (some (.builtin "object.__setattr__")))(hp:PySem.W.plainOver K C=true)(ht:PySem.W.takerIn K C name=some none)(hh:PySem.W.hasDictIn K C=true)
 (hw:PySem.Within mA ns)(hsz:ns.length<=sizeLine)
 (h:∀h',uE h' x dx C (λy=>if y=name then some v else mA y)->Heap.SameBut dx s.heap h'->Q () {s with heap:=h',toks:=s.toks+2}) :
 wpAny (model prog w) A (setAttr (.ref x) name v) Q E s:=by
 obtain⟨od,J,hl⟩:=I.look
 refine PySem.W.set_plain X J hs (PySem.W.osa_open (s:={s with toks:=s.toks+1}) (r:=none) X J hp ht λb=>?_)
 obtain⟨cd,hc,hd'⟩:=PySem.W.any_some hh
 have hx:s.heap.get? x=some ⟨.ref C,some dx,.plain,#[]⟩:=I.obj
 refine wpAny_bind (wpAny_pure (wpAny_bind (wpAny_bind (wpAny_loadPart hx (wpAny_bind (PySem.W.Looks.here (s:={s with toks:=s.toks+1}) (PySem.W.looks_clsIn X hc) ?_))))))
 rw[hd']
 refine wpAny_pure (a:=some dx) (wpAny_bind (wpAny_pure (wpAny_bind ?_)))
 refine wpAny_nsSet1 (s:={s with toks:=s.toks+1}) I.ns λh' hn2 hs2=>?_
 obtain⟨oD,esD,epD,hoD,hdD,hcD⟩:=hn2.count (PySem.Within.cons name v hw)
 refine wpAny_bind (wpAny_lookBehind hoD (by rw[hdD];exact pastItsLine_dict (Nat.le_trans hcD (by rw[List.length_cons];omega))) ?_)
 exact wpAny_pure (h _ ⟨(hs2.2 _ (Ne.symm I.ne)).trans I.obj,hn2,I.ne⟩ hs2)
def Ao{R:Result->Shared->Prop}{vs:List Value}{kw:List (Str×Value)}(X:K.In s.heap)(hm:PySem.W.makesIn K C=true)
 (hi:PySem.W.findIn K (.ref C) "__init__" =some (some (.ref f)))(hf:PySem.W.typeIn K (.ref f)=some (.type "function"))
 (h:codeAny (model prog w) (A.under (.builtin "type.__call__" ⟨.ref C::vs,kw⟩)) (.call (.ref f) ⟨.ref (s.heap.objs.size+1)::vs,kw⟩) (PySem.W.InitBack (s.heap.objs.size+1) R)
   {s with heap:=(s.heap.push PySem.W.emptyDict).push (PySem.W.instObj C s.heap.objs.size)}) :
 codeAny (model prog w) A (.call (.ref C) ⟨vs,kw⟩) R s:=by
 obtain⟨hh,g,d,t,os⟩:=s
 exact PySem.W.make_core (PySem.W.makes_of X hm) (PySem.W.looks_findIn X hi) (λself=>PySem.W.bind_fn X self hf) (.inl rfl) h
end
def bJ(f:Str)(v:V):List (Str×V)->List (Str×V)
 | []=>[(f,v)]
 |(g,x)::r=>if g=f then(g,v)::r else(g,x)::bJ f v r
theorem iY(f g:Str)(v:V):∀fs:List (Str×V),(bJ f v fs).lookup g=if g=f then some v else fs.lookup g
 | []=>by
   show List.lookup g [(f,v)]=_
   by_cases h:g=f
   ·have hb:(g== f)=true:=beq_iff_eq.mpr h
    simp only[List.lookup,hb,if_pos h]
   ·have hb:(g== f)=false:=beq_eq_false_iff_ne.mpr h
    simp only[List.lookup,hb,if_neg h]
 |(k,x)::r=>by
  have ih:=iY f g v r
  rw[show bJ f v ((k,x)::r)=(if k=f then(k,v)::r else(k,x)::bJ f v r) from rfl]
  by_cases hk:k=f
  ·rw[if_pos hk]
   by_cases h:g=k
   ·have hb:(g== k)=true:=beq_iff_eq.mpr h
    simp only[List.lookup,hb,if_pos (h.trans hk)]
   ·have hb:(g== k)=false:=beq_eq_false_iff_ne.mpr h
    simp only[List.lookup,hb,if_neg (λe:g=f=>h (e.trans hk.symm))]
  ·rw[if_neg hk]
   by_cases h:g=k
   ·have hb:(g== k)=true:=beq_iff_eq.mpr h
    simp only[List.lookup,hb,if_neg (λe:g=f=>hk (h.symm.trans e))]
   ·have hb:(g== k)=false:=beq_eq_false_iff_ne.mpr h
    simp only[List.lookup,hb]
    exact ih
theorem iz(f:Str)(v:V):∀fs:List (Str×V),f∈(bJ f v fs).map (·.1)/\∀g,g∈fs.map (·.1)->g∈(bJ f v fs).map (·.1)
 | []=>⟨by simp[bJ],λg h=>by simp at h⟩
 |(k,x)::r=>by
  obtain⟨i1,i2⟩:=iz f v r
  rw[show bJ f v ((k,x)::r)=(if k=f then(k,v)::r else(k,x)::bJ f v r) from rfl]
  by_cases hk:k=f
  ·rw[if_pos hk]
   subst hk
   exact⟨by simp,λg h=>by simpa using h⟩
  ·rw[if_neg hk]
   refine⟨?_,λg h=>?_⟩
   ·rw[List.map_cons]
    exact List.mem_cons_of_mem _ i1
   ·rw[List.map_cons] at h ⊢
    rcases List.mem_cons.mp h with e|e
    ·exact List.mem_cons.mpr (.inl e)
    ·exact List.mem_cons_of_mem _ (i2 g e)
theorem iZ(f:Str)(v:V):∀fs:List (Str×V),(bJ f v fs).length<=fs.length+1
 | []=>by simp[bJ]
 |(k,x)::r=>by
  have ih:=iZ f v r
  rw[show bJ f v ((k,x)::r)=(if k=f then(k,v)::r else(k,x)::bJ f v r) from rfl]
  by_cases hk:k=f
  ·rw[if_pos hk,List.length_cons,List.length_cons];omega
  ·rw[if_neg hk,List.length_cons,List.length_cons];omega
def eG.some_of{v:V}{o:Option Value}(r:eG (some v) o):∃u,o=some u/\RelV v u:=by
 cases o with
 |none=>exact(show False from r).elim
 |some u=>exact⟨u,rfl,r⟩
def eG.none_of{o:Option Value}(r:eG none o):o=none:=by
 cases o with
 |none=>rfl
 |some u=>exact(show False from r).elim
def yU{v:V}{u:Value}(r:RelV v u):PySem.W.handedIn u=true:=by
 cases v with
 |non=>cases(show u=Value.none from r);rfl
 |bl b=>cases(show u=Value.bool b from r);rfl
 |int i=>obtain⟨t,e⟩:=(show ∃t,u=Value.int i t from r);cases e;rfl
 |str x=>obtain⟨t,e⟩:=(show ∃t,u=Value.str x t from r);cases e;rfl
 |IV b=>obtain⟨t,e⟩:=(show ∃t,u=Value.bytes b t from r);cases e;rfl
 |flt b=>obtain⟨t,e⟩:=(show ∃t,u=Value.float b t from r);cases e;rfl
 |ref a=>cases(show u=Value.ref a from r);rfl
 |ty n=>cases(show u=Value.type n from r);rfl
section
variable{P:Program}{w:World}{H H':Hp}{h h':Heap}{a C dx:Addr}{fs fs':List (Str×V)}
def oW(hok:cQ P w H h)(e:H a=some (.ins C dx fs)):∃mA,uE h a dx C mA/\(∀f,eG (fs.lookup f) (mA f))/\PySem.Within mA (fs.map (·.1))/\fs.length<=1000/\H dx=some (.own a):=by
 obtain⟨d,z,ne,ob,mA,n,r,q⟩:=(show ō P w H h a (.ins C dx fs) from hok a _ e)
 exact⟨mA,⟨ob,n,ne⟩,r,q,z,d⟩
end
structure Cls(K:PySem.W.Frag)(C:Addr):Prop where
 pg:PySem.W.plainGet K C Str.empty=true
 hd:PySem.W.hasDictIn K C=true
 po:PySem.W.plainOver K C=true
 sa:PySem.W.findIn K (.ref C) "__setattr__" =some (some (.builtin "object.__setattr__"))
def Cls.get{K:PySem.W.Frag}{C:Addr}(c:Cls K C)(f:Str):PySem.W.plainGet K C f=true:=c.pg
def ĭ(K:PySem.W.Frag)(C:Addr)(f:Str):Prop:=PySem.W.findIn K (.ref C) f=some none
def ĭ.taker{K:PySem.W.Frag}{C:Addr}{f:Str}(n:ĭ K C f):PySem.W.takerIn K C f=some none:=by
 unfold PySem.W.takerIn
 rw[show PySem.W.findIn K (.ref C) f=some none from n]
 rfl
structure Meth(K:PySem.W.Frag)(C:Addr)(m:Str)(f:Addr):Prop where
 at_:PySem.W.findIn K (.ref C) m=some (some (.ref f))
 fn:PySem.W.isFn K (.ref f)=true
 kp:PySem.W.keepIn K (.ref f)=true
section
variable{X:Cx}{pins:List (Addr×Obj)}{σ:St}{H:Hp}{s:Shared}{a C dx:Addr}{fs:List (Str×V)}{f:Str}{v:V}{A:Around}{E:Value->Shared->Prop}
def uF{b:Bool}{Q:Value->Shared->Prop}(I:Inv X pins σ H s)(e:H a=some (.ins C dx fs))(c:Cls X.K C)(n:ĭ X.K C f)(l:fs.lookup f=some v)
 (h:∀u s',Inv X pins σ H s'->RelV v u->Q u s'):wpAny (model X.prog X.w) A (getAttr (.ref a) f b) Q E s:=by
 obtain⟨mA,O,r,_,_,_⟩:=oW I.hok e
 obtain⟨u,hu,ru⟩:=eG.some_of (v:=v) (o:=mA f) (by rw[<-l];exact r f)
 exact get_map I.yI O (c.get f) c.hd n hu (yU ru) (h u _ (I.tok _) ru)
def uG{m:Str}{g:Addr}{pl:Sem Bool}{Q:Value×List Value->Shared->Prop}(I:Inv X pins σ H s)(e:H a=some (.ins C dx fs))(c:Cls X.K C)(k:Meth X.K C m g)(l:fs.lookup m=none)
 (h:Q (.ref g,[.ref a]) s):wpAny (model X.prog X.w) A (getMethod (.ref a) m pl) Q E s:=by
 obtain⟨mA,O,r,_,_,_⟩:=oW I.hok e
 have hn:mA m=none:=eG.none_of (by rw[<-l];exact r m)
 exact Am I.yI O (c.get m) k.at_ k.fn hn h
def uH{y:V}{u:Value}{Q:Unit->Shared->Prop}(I:Inv X pins σ H s)(e:H a=some (.ins C dx fs))(c:Cls X.K C)(n:ĭ X.K C f)(hl:fs.length<1000)(ry:RelV y u)
 (h:∀s',Inv X pins σ (upd H a (.ins C dx (bJ f y fs))) s'->Q () s'):wpAny (model X.prog X.w) A (setAttr (.ref a) f u) Q E s:=by
 obtain⟨mA,O,r,wi,_,ho⟩:=oW I.hok e
 have hz:(fs.map (·.1)).length<=sizeLine:=by rw[List.length_map,sizeLine_eq];omega
 refine Gh I.yI O c.sa c.po n.taker c.hd wi hz λh' O' sb=>h _ ?_
 have hd:∃o,h'.get? dx=some o:=let ⟨o,_,_,e',_⟩:=O'.ns;⟨o,e'⟩
 refine I.write (x:=a) (e:=dx) (by rw[e];exact True.intro) (.inr ho) (λb q hb z=>(sb.2 b hb).trans z) hd ?_
 refine⟨by rw[Ě O.ne];exact ho,?_,O.ne,O'.obj,_,O'.ns,λg=>?_,λg hg=>?_⟩
 ·have:=iZ f y fs;omega
 ·show eG ((bJ f y fs).lookup g) (if g=f then some u else mA g)
  rw[iY]
  by_cases q:g=f
  ·rw[if_pos q,if_pos q];exact ry
  ·rw[if_neg q,if_neg q];exact r g
 ·by_cases q:g=f
  ·rw[q];exact(iz f y fs).1
  ·refine(iz f y fs).2 g (wi g λz=>hg ?_)
   show(if g=f then some u else mA g)=none
   rw[if_neg q];exact z
def Inv.made(I:Inv X pins σ H s):Inv X pins σ (upd (upd H s.heap.objs.size (.own (s.heap.objs.size+1))) (s.heap.objs.size+1) (.ins C s.heap.objs.size []))
 {s with heap:=(s.heap.push PySem.W.emptyDict).push (PySem.W.instObj C s.heap.objs.size)}:=by
 have e1:(s.heap.push PySem.W.emptyDict).get? s.heap.objs.size=some PySem.W.emptyDict:=Heap.get?_push_size s.heap rfl
 have e2:((s.heap.push PySem.W.emptyDict).push (PySem.W.instObj C s.heap.objs.size)).get? (s.heap.objs.size+1)=some (PySem.W.instObj C s.heap.objs.size):=by
  have:=Heap.get?_push_size (s.heap.push PySem.W.emptyDict) (o:=PySem.W.instObj C s.heap.objs.size) rfl
  rwa [Heap.size_push] at this
 have e3:(s.heap.push PySem.W.emptyDict).Ns s.heap.objs.size (λ_=>none):=⟨PySem.W.emptyDict,#[],_,e1,rfl,(λe he=>absurd he (by simp)),λ_=>rfl⟩
 have I1:=I.laid (a:=s.heap.objs.size) (o:=.own (s.heap.objs.size+1)) (h':=s.heap.push PySem.W.emptyDict) (t':=s.toks) (λb u q=>Heap.get?_push_of_some _ q) (Nat.le_refl _) ⟨_,e1⟩
 refine I1.laid (a:=s.heap.objs.size+1) (o:=.ins C s.heap.objs.size []) (t':=s.toks) (λb u q=>Heap.get?_push_of_some _ q) (Nat.le_of_eq (Heap.size_push _ _)) ?_
 have ne:s.heap.objs.size≠s.heap.objs.size+1:=Nat.ne_of_lt (Nat.lt_succ_self _)
 refine⟨by rw[Ě ne,ĝ],Nat.zero_le _,ne,e2,λ_=>none,(Heap.Ns1.of_empty e3).at λo q=>Heap.get?_push_of_some _ q,λ_=>True.intro,λy hy=>absurd rfl hy⟩
def Gi{prog:Program}{w:World}{env:Env}{e:Expr}{f:Str}{pos:Pos}{s:Shared}{Q:Value->Shared->Prop}(hb:attributeBase e f env (eval e env)=eval e env)
 (h:wpAny (model prog w) A (eval e env) (λo s₁=>wpAny (model prog w) A (getAttr o f true) Q E s₁) E s):wpAny (model prog w) A (eval (.Attribute e f pos) env) Q E s:=
 Attribute_any_ h (by rw[arm_eval_Attribute,hb])
end
def ZaH(K:PySem.W.Frag)(ta:TE)(f:Str):TE:=λσ H Q=>ta σ H λx H1=>∃a C dx fs v,x=.ref a/\H1 a=some (.ins C dx fs)/\Cls K C/\ĭ K C f/\fs.lookup f=some v/\Q v H1
def ZaI(K:PySem.W.Frag)(ta tv:TE)(f:Str):TS:=λD σ H=>tv σ H λy H1=>ta σ H1 λx H2=>∃a C dx fs,x=.ref a/\H2 a=some (.ins C dx fs)/\Cls K C/\ĭ K C f/\fs.length<1000/\
 D.nx σ (upd H2 a (.ins C dx (bJ f y fs)))
section
variable{X:Cx}{o e value:Expr}{f:Str}{pos pos' tpos:Pos}{ta tv:TE}
def Qe(he:PE X e ta)(hb:attributeBase e f X.env (eval e X.env)=eval e X.env):PE X (.Attribute e f pos) (ZaH X.K ta f):=by
 intro pins s σ H Q I h
 refine Gi hb (Ň (he pins s σ H _ I h) λu s1 ⟨x,H1,I1,rx,a,C,dx,fs,v,ex,ea,c,n,l,q⟩=>?_)
 subst ex
 obtain rfl:u=Value.ref a:=rx
 exact uF I1 ea c n l λu' s2 I2 ru=>⟨v,H1,I2,ru,q⟩
def Qf(ha:PE X o ta)(hv:PE X value tv)(hs:swapsWith value (some (.Attribute o f pos')) pos.line X.env=pure false):PS X (.Assign [.Attribute o f pos'] value pos) (ZaI X.K ta tv f):=by
 intro pins s σ H D I h
 refine plainObj_wpAny_Assign_Attribute (Ň (hv pins s σ H _ I h) λu s1 ⟨y,H1,I1,ry,q⟩=>Ň (ha pins s1 σ H1 _ I1 q) λov s2 ⟨x,H2,I2,rx,a,C,dx,fs,ex,ea,c,n,l,q2⟩=>?_) hs
 subst ex
 obtain rfl:ov=Value.ref a:=rx
 exact uH I2 ea c n l ry λs3 I3=>⟨σ,_,I3,q2⟩
end
section
variable{X:Cx}{pins:List (Addr×Obj)}{σ:St}{H:Hp}{s:Shared}{A:Around}{E:Value->Shared->Prop}{Q:Value->Shared->Prop}{c:Value}{b:Bool}
end
end L2
namespace L2
open PySem PySem.Spec PyProof.Rows
structure Ţ(k:Nat)(A:Around):Prop where
 hd:A.handled=none
 dp:A.depth+3*k+5<recursionLimit
 un:A.units+16*k+200<cLine
def Ţ.mono{j k:Nat}{A:Around}(r:Ţ k A)(h:j<=k):Ţ j A:=⟨r.hd,by have:=r.dp;omega,by have:=r.un;omega⟩
def Ţ.mo{j k:Nat}{A:Around}(r:Ţ k A)(h:j<=k:= by decide):Ţ j A:= r.mono h
theorem Ţ.deeper{k:Nat}{A:Around}(r:Ţ (k+1) A)(env:Env):Ţ k (A.deeper env):=
 ⟨r.hd,by have:=r.dp;show A.depth+1+3*k+5<_;omega,by have:=r.un;show A.units+3+16*k+200<_;omega⟩
def uI{A:Around}{C:Addr}{us:List Value}{kw:List (Str×Value)}:(A.under (.builtin "type.__call__" ⟨.ref C::us,kw⟩)).depth=A.depth+1:=by
 first|rfl|simp[Around.under,Code.weight,Code.isCreation,Code.isGuard,Code.isCaller,Code.frames,Code.isFrame,guardIds]
def uJ{A:Around}{C:Addr}{us:List Value}{kw:List (Str×Value)}:(A.under (.builtin "type.__call__" ⟨.ref C::us,kw⟩)).units=A.units+1:=by
 first|rfl|simp[Around.under,Code.cUnits,Code.frames,Code.isFrame]
def Ţ.make{k:Nat}{A:Around}(r:Ţ (k+1) A)(C:Addr)(us:List Value)(kw:List (Str×Value)):Ţ k (A.under (.builtin "type.__call__" ⟨.ref C::us,kw⟩)):=
 ⟨r.hd,by have:=r.dp;rw[uI];omega,by have:=r.un;rw[uJ];omega⟩
theorem Ţ.depth{k:Nat}{A:Around}(r:Ţ k A):A.depth<recursionLimit:=by have:=r.dp;omega
theorem Ţ.units{k:Nat}{A:Around}(r:Ţ k A):A.units+64<cLine:=by have:=r.un;omega
def ZaJ:TA:=λ_ H Q=>Q [] H
def Vg(ta:TE)(tr:TA):TA:=λσ H Q=>ta σ H λx H1=>tr σ H1 λxs H2=>Q (x::xs) H2
section
variable{X:Cx}{e:Expr}{es:List Expr}{te:TE}{t:TA}{pos:Pos}
def oX:PA X [] ZaJ:=λ_ _ _ _ H Q I h=>Calls.spliced_nil ⟨[],H,I,.nil,h⟩
def gj(ha:PE X e te)(hr:PA X es t)(hs:starEach (e::es) X.env=(false,eval e X.env)::starEach es X.env:=by rfl):PA X (e::es) (Vg te t):=by
 intro pos pins s σ H Q I h
 rw[hs]
 show wpAny _ _ (spliced ((false,eval e X.env)::backTo pos (starEach es X.env))) _ _ s
 refine Calls.spliced_cons (Ň (ha pins s σ H _ I h) λu s1 ⟨x,H1,I1,r1,q1⟩=>?_)
 exact Ň (hr pos pins s1 σ H1 _ I1 q1) λus s2 ⟨xs,H2,I2,r2,q2⟩=>⟨x::xs,H2,I2,.cons r1 r2,q2⟩
def ZaK(t:TA):TE:=λσ H Q=>t σ H λxs H1=>xs.length<=sizeLine/\∀p,H1 p=none->Q (.ref p) (upd H1 p (.tup xs))
def ZaL(t:TA):TE:=λσ H Q=>t σ H λxs H1=>xs.length<=sizeLine/\∀p,H1 p=none->Q (.ref p) (upd H1 p (.lst xs))
def Qg{x1}(h:PA X es t):PE X (.Tuple es x1 pos) (ZaK t):=by
 intro pins s σ H Q I hq
 refine wpAny_Tuple_spliced (Ň (h pos pins s σ H _ I hq) λus s1 ⟨xs,H1,I1,r,z,q⟩=>⟨by rw[<-r.length];exact z,?_⟩)
 have hf:H1 s1.heap.objs.size=none:=I1.hok.fresh (Nat.le_refl _)
 refine⟨.ref s1.heap.objs.size,upd H1 s1.heap.objs.size (.tup xs),I1.laid (t':=s1.toks) (λb u e=>Heap.get?_push_of_some _ e) (Nat.le_refl _) ?_,rfl,q _ hf⟩
 exact⟨z,us,r,⟨_,Heap.get?_push_size _ rfl,rfl,_,rfl⟩⟩
def Qh(h:PA X es t):PE X (.List es pos) (ZaL t):=by
 intro pins s σ H Q I hq
 refine wpAny_List_spliced (Ň (h pos pins s σ H _ I hq) λus s1 ⟨xs,H1,I1,r,z,q⟩=>⟨by rw[<-r.length];exact z,?_⟩)
 have hf:H1 s1.heap.objs.size=none:=I1.hok.fresh (Nat.le_refl _)
 refine⟨.ref s1.heap.objs.size,upd H1 s1.heap.objs.size (.lst xs),I1.laid (t':=s1.toks) (λb u e=>Heap.get?_push_of_some _ e) (Nat.le_refl _) ?_,rfl,q _ hf⟩
 exact⟨z,us,0,r,Heap.get?_push_size _ rfl⟩
end
abbrev Sp:=List V->Hp->VK->XK->Prop
abbrev gk:=List Env->Hp->Shared->XK->Value->Shared->Prop
structure uK(P:Program)(w:World)(K:PySem.W.Frag)(mg:Str->Option Value)(base:Heap)(A:Around)(outer:List Env)(s:Shared)(H:Hp):Prop where
 frames:A.frames=some outer
 mod:Mod K mg base
 bs:∀b o,base.get? b=some o->s.heap.get? b=some o/\H b=none
 FN:base.objs.size<=s.heap.objs.size
 jm:s.heap.FunFrames base outer
 Oo:∀b∈frs outer,H b=none
 hok:cQ P w H s.heap
 bare:AllBare s.gens
 tb:TabsOk K mg base H
def CE(outer:List Env)(P:Program)(w:World)(H:Hp)(s:Shared)(Q:VK)(u:Value)(s':Shared):Prop:=
 ∃v H',s'.os=s.os/\AllBare s'.gens/\Un (frs outer) [] H H' s.heap s'.heap/\cQ P w H' s'.heap/\RelV v u/\Q v H'
def CR(CX:gk)(outer:List Env)(P:Program)(w:World)(H:Hp)(s:Shared)(Q:VK)(E:XK)(r:Result)(s':Shared):Prop:=
 match r with
 | .ok (.ret u)=>CE outer P w H s Q u s'
 | .ok _=>False
 | .error e=>CX outer H s E e s'
structure ĥ(P:Program)(w:World)(K:PySem.W.Frag)(mg:Str->Option Value)(base:Heap)(CX:gk)(k:Nat)(f:Addr)(fd:FuncData)(ps:List Str)(sp:Sp):Prop where
 len:∀vs H Q E,sp vs H Q E->vs.length=ps.length
 run:∀(A:Around) (outer:List Env) (s:Shared) (H:Hp) (args:Args) (us:List Value) (vs:List V) (Q:VK) (E:XK),Ţ k A->uK P w K mg base A outer s H->BindsTo s fd args (ps.zip us)->Vals vs us->sp vs H Q E->
  codeAny (model P w) A (.call (.ref f) args) (CR CX outer P w H s Q E) s
theorem ĥ.mono{P:Program}{w:World}{K:PySem.W.Frag}{mg:Str->Option Value}{base:Heap}{CX:gk}{j k:Nat}{f:Addr}{fd:FuncData}{ps:List Str}{sp:Sp}(F:ĥ P w K mg base CX j f fd ps sp)(h:j<=k) :
 ĥ P w K mg base CX k f fd ps sp:=⟨F.len,λA outer s H args us vs Q E hr=>F.run A outer s H args us vs Q E (hr.mono h)⟩
def ĥ.imp{P:Program}{w:World}{K:PySem.W.Frag}{mg:Str->Option Value}{base:Heap}{CX:gk}{k:Nat}{f:Addr}{fd:FuncData}{ps:List Str}{sp sp':Sp}(F:ĥ P w K mg base CX k f fd ps sp)
 (h:∀vs H Q E,sp' vs H Q E->sp vs H Q E):ĥ P w K mg base CX k f fd ps sp':=
 ⟨λvs H Q E q=>F.len vs H Q E (h _ _ _ _ q),λA outer s H args us vs Q E hr he hb hv hs=>F.run A outer s H args us vs Q E hr he hb hv (h _ _ _ _ hs)⟩
def uK.make{P:Program}{w:World}{K:PySem.W.Frag}{mg:Str->Option Value}{base:Heap}{A:Around}{outer:List Env}{s:Shared}{H:Hp}(e:uK P w K mg base A outer s H)(C:Addr)(us:List Value)(kw:List (Str×Value)) :
 uK P w K mg base (A.under (.builtin "type.__call__" ⟨.ref C::us,kw⟩)) outer s H:=⟨by first|exact e.frames|(simpa[Around.under,Code.envs,Code.isFrame,pushEnvs] using e.frames),e.mod,e.bs,e.FN,e.jm,e.Oo,e.hok,e.bare,e.tb⟩
section
variable{X:Cx}{pins:List (Addr×Obj)}{σ:St}{H:Hp}{s s':Shared}
def Inv.env0(I:Inv X pins σ H s):uK X.prog X.w X.K X.mg X.base X.A X.stack s H:=
 ⟨I.ok.frames,I.ok.mod,I.bs,Nat.le_trans I.ok.FN I.sz,I.stack,I.wI,I.hok,I.bare,I.tb⟩
def Inv.after{Q:VK}{u:Value}(I:Inv X pins σ H s)(h:CE X.stack X.prog X.w H s Q u s'):EP X pins σ Q u s':=by
 obtain⟨v,H',os,bare,un,hok,r,q⟩:=h
 obtain⟨hh,g,d,t,os'⟩:=s'
 obtain rfl:os'=s.os:=os
 exact⟨v,H',I.call (h':=hh) (g':=g) (d':=d) (t':=t) (ch:=[]) un hok bare (λb z=>absurd z (by simp)),r,q⟩
end
def Binds(K:PySem.W.Frag)(fd:FuncData)(ps:List Str)(ds:List Value):Prop:=
 ∀(s:Shared) (us:List Value),K.In s.heap->(us++ds).length=ps.length->BindsTo s fd ⟨us,[]⟩ (ps.zip (us++ds))
def Binds.all{K:PySem.W.Frag}{fd:FuncData}{ps:List Str}(h:∀us:List Value,us.length=ps.length->bindArgs fd ⟨us,[]⟩=pure (ps.zip us)):Binds K fd ps []:=λs us _ hl=>by
 rw[List.append_nil] at hl ⊢
 exact .of_eq (h us hl)
section
variable{X:Cx}{CX:gk}{k:Nat}{f C:Addr}{fd:FuncData}{ps:List Str}{sp:Sp}{dvs:List V}{ds:List Value}{E:XK}{x m:Str}{p pos apos:Pos}{e o:Expr}{es:List Expr}{ta:TE}{t:TA}
structure Mk(K:PySem.W.Frag)(C f:Addr):Prop where
 makes:PySem.W.makesIn K C=true
 init:PySem.W.findIn K (.ref C) "__init__" =some (some (.ref f))
 fn:PySem.W.isFn K (.ref f)=true
 kp:PySem.W.keepIn K (.ref C)=true
end
section
variable{X:Cx}{CX:gk}{k:Nat}{f C:Addr}{fd:FuncData}{ps ks:List Str}{sp:Sp}{E:XK}{x m:Str}{p pos apos kpos:Pos}{e o:Expr}{es:List Expr}{kws:List Keyword}{te ta:TE}{t tk:TA}{nm:Option Str}
variable{g:List Value->List Value->List Value}{gV:List V->List V->List V}
end
structure ď(N P:List Str)(sc:Scope):Prop where
 kind:sc.kind=.function
 co:sc.isCoroutine=false
 gen:sc.isGenerator=false
 nd:N.Nodup
 pre:N.take P.length=P
 par:∀x∈P,sc.names.lookup x=some .local\/sc.names.lookup x=some .cell
 Qi:∀y∈sc.names,y.2≠ .free
theorem mV{kindOf:Str->Option NameKind}{x:Str}:∀{binds:List (Str×Value)} {m:Str->Option Value},(∀v,(x,v)∉binds)->bindL kindOf binds m x=m x
 | [],_,_=>rfl
 |(n,v)::r,m,h=>by
  unfold bindL
  rw[mV λw hw=>h w (List.mem_cons_of_mem _ hw)]
  split
  ·have:x≠n:=by rintro rfl;exact h v List.mem_cons_self
   simp[this]
  ·rfl
theorem mW{kindOf:Str->Option NameKind}{x:Str}:∀{binds:List (Str×Value)} {m:Str->Option Value},(∀v,(x,v)∉binds)->bindC kindOf binds m x=m x
 | [],_,_=>rfl
 |(n,v)::r,m,h=>by
  unfold bindC
  rw[mW λw hw=>h w (List.mem_cons_of_mem _ hw)]
  split
  ·rfl
  ·have:x≠n:=by rintro rfl;exact h v List.mem_cons_self
   simp[this]
theorem mX{kindOf:Str->Option NameKind}{x:Str}{v:Value}:∀{P:List Str} {vs:List Value} {i:Nat} {m:Str->Option Value},P.Nodup->P[i]?=some x->vs[i]?=some v->kindOf x=some .local->
 bindL kindOf (P.zip vs) m x=some v
 | [],_,_,_,_,h,_,_=>by simp at h
 |_::_,[],_,_,_,_,h,_=>by simp at h
 |p::P,w::vs,0,m,nd,h1,h2,hk=>by
  simp at h1 h2;subst h1;subst h2
  show bindL kindOf ((p,w)::P.zip vs) m p=_
  unfold bindL
  rw[mV λv hv=>(List.nodup_cons.mp nd).1 (List.of_mem_zip hv).1,if_pos hk]
  simp
 |p::P,w::vs,i+1,m,nd,h1,h2,hk=>by
  show bindL kindOf ((p,w)::P.zip vs) m x=_
  unfold bindL
  exact mX (i:=i) (List.nodup_cons.mp nd).2 (by simpa using h1) (by simpa using h2) hk
theorem mY{kindOf:Str->Option NameKind}{x:Str}{v:Value}:∀{P:List Str} {vs:List Value} {i:Nat} {m:Str->Option Value},P.Nodup->P[i]?=some x->vs[i]?=some v->kindOf x≠some .local->
 bindC kindOf (P.zip vs) m x=some v
 | [],_,_,_,_,h,_,_=>by simp at h
 |_::_,[],_,_,_,_,h,_=>by simp at h
 |p::P,w::vs,0,m,nd,h1,h2,hk=>by
  simp at h1 h2;subst h1;subst h2
  show bindC kindOf ((p,w)::P.zip vs) m p=_
  unfold bindC
  rw[mW λv hv=>(List.nodup_cons.mp nd).1 (List.of_mem_zip hv).1,if_neg hk]
  simp
 |p::P,w::vs,i+1,m,nd,h1,h2,hk=>by
  show bindC kindOf ((p,w)::P.zip vs) m x=_
  unfold bindC
  exact mY (i:=i) (List.nodup_cons.mp nd).2 (by simpa using h1) (by simpa using h2) hk
def start(N:List Str)(vs:List V):St:=vs.map some++List.replicate (N.length-vs.length) none
def oY(CX:gk)(P:Program)(w:World)(K:PySem.W.Frag)(mg:Str->Option Value)(base:Heap)(N:List Str)(qual:Str)(scope:Scope)(f:Addr)(cd:Value)(A:Around)(outer:List Env)(s:Shared)(H:Hp)(E:XK):Cx where
 prog:=P
 w:=w
 K:=K
 mg:=mg
 base:=base
 A:=A.deeper (envOfC qual scope s.heap.objs.size f cd)
 N:=N
 s₀:= s
 H₀:= H
 env:=envOfC qual scope s.heap.objs.size f cd
 outer:=outer
 stack:=envOfC qual scope s.heap.objs.size f cd::outer
 ex:=[]
 calm:=true
 fn:=λ_=>true
 pn:=[]
 xe:=λe s'=>wpAny (model P w) (A.deeper (envOfC qual scope s.heap.objs.size f cd)) (leaving (envOfC qual scope s.heap.objs.size f cd) e) (λ_ s''=>CX outer H s E e s'') (λe' s''=>CX outer H s E e' s'') s'
def gn{sc:Scope}{n:Nat}{x:Str}(h:sc.names.lookup x=some .cell):∃c,(cellsFrom n sc.names []).lookup x=some c:=by
 have q:=PySem.W.cellsFrom_some sc.names n [] (.inl h)
 exact Option.isSome_iff_exists.mp q
def yV{CX:gk}{P:Program}{w:World}{K:PySem.W.Frag}{mg:Str->Option Value}{base:Heap}{N ps:List Str}{qual:Str}{scope:Scope}{f:Addr}{cd:Value}{A:Around}{outer:List Env}{s s1:Shared}{H:Hp}{E:XK}{us:List Value}{vs:List V}
 (S:ď N ps scope)(hd:A.handled=none)(e0:uK P w K mg base A outer s H)(hl:vs.length=ps.length)(r:Vals vs us)
 (x:InCallC s s.heap.objs.size (bindL (envOfC qual scope s.heap.objs.size f cd).kindOf (ps.zip us) λ_=>none) (cellsFrom (s.heap.objs.size+1) scope.names []) (bindC (envOfC qual scope s.heap.objs.size f cd).kindOf (ps.zip us) λ_=>none) s1) :
 Inv (oY CX P w K mg base N qual scope f cd A outer s H E) [] (start N vs) H s1:=by
 have hpl:ps.length<=N.length:=by have:=congrArg List.length S.pre;rw[List.length_take] at this;omega
 obtain⟨h1,tk,rfl,hk⟩:=x.done
 have Vh:∀b:Addr,b∉(oY CX P w K mg base N qual scope f cd A outer s H E).ex:=λb z=>absurd (show b∈([]:List Addr) from z) (by simp)
 refine⟨⟨e0.mod,S.kind,rfl,rfl,Nat.le_refl _,λy z c h1 h2=>?_,λy hy=>?_,λy c _ h=>?_,λ_=>hd,Around.frames_deeper e0.frames,.inr ⟨rfl,rfl⟩,λb z=>absurd z (Vh b),e0.bs,e0.FN,λb _ _=>Vh b,λb z=>absurd z (Vh b),e0.jm,e0.Oo,e0.tb⟩,
  rfl,e0.bare,Un.kept hk,⟨_,x.toInCall.ns,λi y v h1 h2 h3=>?_⟩,λy c h=>⟨_,x.cell y c h⟩,e0.hok.fresh (Nat.le_refl _),λy c h=>?_,λp hp=>absurd (show p∈([]:List (Addr×Obj)) from hp) (by simp),e0.hok.kept hk,?_⟩
 ·exact name_of_addr x.apart (PySem.mem_of_lookup h1) (PySem.mem_of_lookup h2)
 ·have hy:scope.names.lookup y=some .cell\/scope.names.lookup y=some .free:=hy
  rcases hy with hy|hy
  ·exact gn hy
  ·exact absurd rfl (S.Qi _ (PySem.mem_of_lookup hy))
 ·exact Nat.le_of_lt (x.above y c (PySem.mem_of_lookup h))
 ·have hi:i<vs.length:=by
   unfold start at h2
   by_cases hi:i<vs.length
   ·exact hi
   ·rw[List.getElem?_append_right (by simpa using hi)] at h2
    rw[List.getElem?_replicate] at h2
    split at h2<;>cases h2
  have ha:vs[i]?=some v:=by
   unfold start at h2
   rw[List.getElem?_append_left (by simpa using hi),List.getElem?_map] at h2
   cases e:vs[i]? with
   |none=>rw[e] at h2;cases h2
   |some a=>rw[e] at h2;cases h2;rfl
  obtain⟨u,hu,rv⟩:=r.get ha
  have hp:ps[i]?=some y:=by
   rw[<-S.pre,List.getElem?_take_of_lt (by omega)];exact h1
  have ndP:ps.Nodup:=by rw[<-S.pre];exact S.nd.sublist (List.take_sublist _ _)
  refine⟨u,rv,?_⟩
  rcases S.par y (List.mem_of_getElem? hp) with k|k
  ·exact .inl ⟨k,mX ndP hp hu k⟩
  ·obtain⟨c,e⟩:=gn (n:=s.heap.objs.size+1) k
   refine .inr ⟨.inl k,c,e,?_⟩
   have q:=x.cell y c e
   rw[mY ndP hp hu (by show scope.names.lookup y≠_;rw[k];decide)] at q
   exact q
 ·exact e0.hok.fresh (Nat.le_of_lt (x.above y c (PySem.mem_of_lookup h)))
 ·unfold start
  show _=N.length
  rw[List.length_append,List.length_map,List.length_replicate]
  omega
def Jc{CX:gk}{P:Program}{w:World}{K:PySem.W.Frag}{mg:Str->Option Value}{base:Heap}{k:Nat}{f:Addr}{name qual:Str}{params:Arguments}{body:List Stmt}{scope:Scope}{dV kV doc pm cdv ct oc:Value}{an od:Option Addr}
 {osl:Array (Option Value)}{N ps:List Str}{sp:Sp}(lk:K.lookup f=some ⟨oc,od,.func (PySem.W.fnOf name qual params body scope dV kV doc pm an cdv ct),osl⟩)(hcd:PySem.W.codeIn K cdv qual=true)(S:ď N ps scope)
 (len:∀vs H Q E,sp vs H Q E->vs.length=ps.length)
 (hbody:∀(A:Around) (outer:List Env) (s:Shared) (H:Hp) (vs:List V) (Q:VK) (E:XK),Ţ k (A.deeper (envOfC qual scope s.heap.objs.size f cdv))→sp vs H Q E→
   ∃t,eV (oY CX P w K mg base N qual scope f cdv A outer s H E) body t/\t {nx:=λ_ H'=>Q .non H',rt:=Q} (start N vs) H) :
 ĥ P w K mg base CX (k+1) f (PySem.W.fnOf name qual params body scope dV kV doc pm an cdv ct) ps sp:=by
 refine⟨len,λA outer s H args us vs Q E hr e0 hb r hsp=>?_⟩
 have hl:=len _ _ _ _ hsp
 have KX:K.In s.heap:=e0.mod.Yo.keeps λb o e=>(e0.bs b o e).1
 have lim:s.heap.NoLimit:=e0.mod.nolimit.keeps λb o e=>(e0.bs b o e).1
 have hkind:∀y∈ps.zip us,scope.names.lookup y.1=some .local\/(scope.names.lookup y.1=some .cell/\((cellsFrom (s.heap.objs.size+1) scope.names []).lookup y.1).isSome=true):=λ⟨n,v⟩ hy=>by
  rcases S.par n (List.of_mem_zip hy).1 with q|q
  ·exact .inl q
  ·exact .inr ⟨q,PySem.W.cellsFrom_some _ _ _ (.inl q)⟩
 refine codeAny_call_function hr.depth (KX _ _ lk) rfl S.co S.gen rfl (PySem.W.codeRec_of KX hcd) (hb _ _ _ _ ?_)
 refine wpAny_newFunctionEnv_cells S.kind hkind λenv he s1 x=>?_
 subst he
 refine⟨lim.keeps x.toInCall.keep,codeAny_func ?_⟩
 obtain⟨t,ht,hq⟩:=hbody A outer s H vs Q E (hr.deeper _) hsp
 have I:Inv (oY CX P w K mg base N qual scope f cdv A outer s H E) [] (start N vs) H s1:=yV S hr.hd e0 hl r x
 refine wpAny_mono (ht [] s1 (start N vs) H _ I hq) (λfl s' hs=>?_) λe s' hs=>hs
 have fin:∀{σ':St} {H':Hp} {v:V} {u:Value},Inv (oY CX P w K mg base N qual scope f cdv A outer s H E) [] σ' H' s'->RelV v u->Q v H'->CE outer P w H s Q u s':=
  fun{σ' H' v u} J rv q=>⟨v,H',J.os,J.bare,J.base,J.hok,rv,q⟩
 cases fl with
 |ret u=>
  obtain⟨v,σ',H',J,rv,q⟩:=hs
  exact fin J rv q
 |next=>
  obtain⟨σ',H',J,q⟩:=hs
  exact fin (v:=V.non) (u:=Value.none) J rfl q
 |brk=>
  obtain⟨_,_,_,q⟩:=hs
  exact False.elim q
 |cont=>
  obtain⟨_,_,_,q⟩:=hs
  exact False.elim q
end L2
namespace L2
open PySem PySem.Spec PyProof.Rows
section
variable{X:Cx}{x:Str}{p pos:Pos}{e:Expr}{es:List Expr}{t:TA}{id T:String}{r:List V->Hp->VK->Prop}
def Yt(r:List V->Hp->VK->Prop)(t:TA):TE:=λσ H Q=>t σ H λvs H1=>r vs H1 Q
def Aq(hc:Ń X (.builtin id) r)(hg:Gl X x)(hm:X.mg x=none)(hv:bootBuiltins x=some (.builtin id))(ha:PA X (e::es) t)(hn:x≠ "__name__" := by decide)(hdb:(x== ("__debug__" :Str))=false:=by decide)
 (he:starEach (e::es) X.env=(false,eval e X.env)::starEach es X.env:=by rfl)(hpl:(backTo pos (starEach es X.env)).any (·.1)=false:=by rfl):PE X (.Call (.Name x p) (e::es) [] pos) (Yt r t):=by
 intro pins s σ H Q I h
 refine wpAny_Call_Name_kw (oU I hg hm hv ?_ hn hdb)
 exact PyProof.Rows.callWith_builtin1 (Ň (ha pos pins s σ H _ I h) λus s1 ⟨vs,H1,I1,r1,q1⟩=>hc pins s1 σ H1 vs us Q I1 r1 q1) he hpl
def mZ(hc:Ń X (.type T) r)(hg:Gl X x)(hm:X.mg x=none)(hv:bootBuiltins x=some (.type T))(ha:PA X (e::es) t)(hn:x≠ "__name__" := by decide)(hdb:(x== ("__debug__" :Str))=false:=by decide)
 (he:starEach (e::es) X.env=(false,eval e X.env)::starEach es X.env:=by rfl)(hpl:(backTo pos (starEach es X.env)).any (·.1)=false:=by rfl):PE X (.Call (.Name x p) (e::es) [] pos) (Yt r t):=by
 intro pins s σ H Q I h
 refine wpAny_Call_Name_kw (oU I hg hm hv ?_ hn hdb)
 exact PyProof.Rows.callWith_type1 (Ň (ha pos pins s σ H _ I h) λus s1 ⟨vs,H1,I1,r1,q1⟩=>hc pins s1 σ H1 vs us Q I1 r1 q1) he hpl
end
end L2
namespace HT
open PySem PyProof.Rows
section
open PySem.SeqAt
open PySem.AutoSeq1 (wpAny_loadPart')
open PySem.MeetsSeq PySem.MeetsSeq2 PySem.MeetsSeq3
end
section
variable{prog:Program}{w:World}{A:Around}{E:Value->Shared->Prop}{s:Shared}
def gq(n d:Nat):Option Int->Nat
 |none=>d
 |some v=>if v<0 then(v+(n:Int)).toNat else min v.toNat n
def Ar(n d:Nat)(hd:d<=n)(o:Option Int):gq n d o<=n:=by
 cases o with
 |none=>exact hd
 |some v=>
  show(if v<0 then(v+(n:Int)).toNat else min v.toNat n)<=n
  by_cases hv:v<0
  ·rw[if_pos hv];omega
  ·rw[if_neg hv];exact Nat.min_le_right _ _
end
end HT
namespace L2
open PySem PySem.Spec PyProof.Rows
abbrev TO:=St->Hp->(Option Int->Hp->Prop)->Prop
def PO(X:Cx)(e:Option Expr)(t:TO):Prop:=
 ∀(pins:List (Addr×Obj)) (s:Shared) (σ:St) (H:Hp) (Q:Option Int->Hp->Prop),Inv X pins σ H s->t σ H Q->
  wpAny (model X.prog X.w) X.A (evalPart e X.env) (λu s'=>∃o H',Inv X pins σ H' s'/\IsPart u o/\Q o H') X.xe s
def Gj:TO:=λ_ H Q=>Q none H
section
variable{X:Cx}{e:Expr}{te:TE}{lo hi:Option Expr}{tl th:TO}{pos p2:Pos}
def Gk:PO X none Gj:=by
 intro pins s σ H Q I h
 rw[evalPart_none]
 exact wpAny_pure ⟨none,H,I,.none,h⟩
def wL(X:Cx)(r:V->Option Int->Option Int->Hp->VK->Prop):Prop:=
 ∀(pins:List (Addr×Obj)) (s:Shared) (σ:St) (H:Hp) (x:V) (v vl vu:Value) (lo hi:Option Int) (sl:Addr) (Q:VK),Inv X pins σ H s->RelV x v->s.heap.IsSliceOf sl vl vu .none->IsPart vl lo->IsPart vu hi->r x lo hi H Q->
  ∃T id,typeLookup (.type T) "__getitem__" =pure (some (.builtin id))/\s.TypeIs v T/\wpAny (model X.prog X.w) X.A (getItem v (.ref sl)) (EP X pins σ Q) X.xe s
def wL.or{r r':V->Option Int->Option Int->Hp->VK->Prop}(h:wL X r)(h':wL X r'):wL X (λx lo hi H Q=>r x lo hi H Q\/r' x lo hi H Q):=by
 intro pins s σ H x v vl vu lo hi sl Q I rx hs pl pu q
 rcases q with q|q
 ·exact h pins s σ H x v vl vu lo hi sl Q I rx hs pl pu q
 ·exact h' pins s σ H x v vl vu lo hi sl Q I rx hs pl pu q
def tSl(r:V->Option Int->Option Int->Hp->VK->Prop)(te:TE)(tl th:TO):TE:=λσ H Q=>te σ H λx H1=>tl σ H1 λl H2=>th σ H2 λu H3=>r x l u H3 Q
def Av{r:V->Option Int->Option Int->Hp->VK->Prop}(hr:wL X r)(he:PE X e te)(hl:PO X lo tl)(hu:PO X hi th):PE X (.Subscript e (.Slice lo hi none p2) pos) (tSl r te tl th):=by
 intro pins s σ H Q I h
 refine Subscript_ (Ň (he pins s σ H _ I h) λv s1 ⟨x,H1,I1,r1,q1⟩=>?_)
 refine wpAny_Slice (Ň (hl pins s1 σ H1 _ I1 q1) λvl s2 ⟨l,H2,I2,pl,q2⟩=>Ň (hu pins s2 σ H2 _ I2 q2) λvu s3 ⟨u,H3,I3,pu,q3⟩=>?_)
 rw[evalPart_none]
 refine wpAny_pure ?_
 have I4:Inv X pins σ H3 {s3 with heap:=s3.heap.push {cls:=.type "slice",data:=.fields #[vl,vu,.none]}}:=I3.kept (t':=s3.toks) λb ob q=>Heap.get?_push_of_some _ q
 obtain⟨T,id,hT,ht,hg⟩:=hr pins {s3 with heap:=s3.heap.push {cls:=.type "slice",data:=.fields #[vl,vu,.none]}} σ H3 x v vl vu l u s3.heap.objs.size Q I4 r1 (Heap.IsSliceOf.new ..) pl pu q3
 show wpAny (model X.prog X.w) X.A (subscriptTail e (.Slice lo hi none p2) v (.ref s3.heap.objs.size)) (EP X pins σ Q) X.xe {s3 with heap:=s3.heap.push {cls:=.type "slice",data:=.fields #[vl,vu,.none]}}
 exact tail_any (ops:=[.ref s3.heap.objs.size,v]) ht hT hg (by with_unfolding_all rfl)
def rD(xs:List V)(lo hi:Option Int):List V:=(xs.drop (HT.gq xs.length 0 lo)).take (HT.gq xs.length xs.length hi-HT.gq xs.length 0 lo)
def rE(xs:List V)(lo hi:Option Int):(rD xs lo hi).length<=xs.length:=by
 unfold rD
 rw[List.length_take,List.length_drop]
 omega
end
end L2
namespace L2
open PySem PySem.Spec PyProof.Rows
def zN(n:Nat)(i:Int):Option Nat:=if 0<=i then(if i<n then some i.toNat else none) else if -(n:Int)<=i then some (i+n).toNat else none
def oZ{α:Type}(xs:List α)(i:Int):Option α:= (zN xs.length i).bind λj=>xs[j]?
def wM{n:Nat}{i:Int}{j:Nat}(h:zN n i=some j):seqIndex? i n=some j/\j<n/\ -(n:Int)<=i/\i<n:=by
 unfold zN at h
 by_cases h0:0<=i
 ·rw[if_pos h0] at h
  by_cases h1:i<n
  ·rw[if_pos h1] at h
   have e:i.toNat=j:=Option.some.inj h
   exact⟨by rw[seqIndex_of h0 h1,e],by omega,by omega,h1⟩
  ·rw[if_neg h1] at h;cases h
 ·rw[if_neg h0] at h
  by_cases h1: -(n:Int)<=i
  ·rw[if_pos h1] at h
   have e:(i+n).toNat=j:=Option.some.inj h
   exact⟨by rw[seqIndex_neg (by omega) h1,e],by omega,h1,by omega⟩
  ·rw[if_neg h1] at h;cases h
def o_{α:Type}{xs:List α}{i:Int}{v:α}(h:oZ xs i=some v):∃j,seqIndex? i xs.length=some j/\xs[j]?=some v/\j<xs.length/\ -(xs.length:Int)<=i/\i<xs.length:=by
 unfold oZ at h
 cases e:zN xs.length i with
 |none=>rw[e] at h;cases h
 |some j=>
  rw[e] at h
  obtain⟨h1,h2,h3,h4⟩:=wM e
  exact⟨j,h1,h,h2,h3,h4⟩
def jE(b:Expr):Prop:=∀o i,subscripted b false o i=operate [o,i] (getItem o i)
def uL(X:Cx)(r:R2):Prop:=
 ∀(value slice:Expr) (pins:List (Addr×Obj)) (s:Shared) (σ:St) (H:Hp) (x y:V) (v u:Value) (Q:VK),Inv X pins σ H s->RelV x v->RelV y u->r x y H Q->
  subscripted slice false v u=operate [v,u] (getItem v u)->wpAny (model X.prog X.w) X.A (subscriptTail value slice v u) (EP X pins σ Q) X.xe s
def MtR(X:Cx)(id:String)(r:V->List V->Hp->VK->Prop):Prop:=
 ∀(pins:List (Addr×Obj)) (s:Shared) (σ:St) (H:Hp) (x:V) (xs:List V) (v:Value) (us:List Value) (Q:VK),Inv X pins σ H s->RelV x v->Vals xs us->r x xs H Q->
  wpAny (model X.prog X.w) X.A (call (.builtin id) (v::us)) (EP X pins σ Q) X.xe s
section
variable{X:Cx}{a b:Expr}{ta tb:TE}{pos:Pos}
def uL.or{r r':R2}(h:uL X r)(h':uL X r'):uL X (λx y H Q=>r x y H Q\/r' x y H Q):=by
 intro value slice pins s σ H x y v u Q I rx ry q hs
 rcases q with q|q
 ·exact h value slice pins s σ H x y v u Q I rx ry q hs
 ·exact h' value slice pins s σ H x y v u Q I rx ry q hs
def Vi{r:R2}(hr:uL X r)(ha:PE X a ta)(hb:PE X b tb)(hs:jE b):PE X (.Subscript a b pos) (Ui r ta tb):=by
 intro pins s σ H Q I h
 exact Subscript_ (Pq ha hb I h λv u s2 x y H2 I2 rx ry q=>hr a b pins s2 σ H2 x y v u Q I2 rx ry q (hs _ _))
def Vj(K:PySem.W.Frag):R2:=λx y H Q=>∃p xs i v,x=.ref p/\y=.int i/\Ũ K H p xs/\oZ xs i=some v/\Q v H
def Vk(K:PySem.W.Frag):R2:=λx y H Q=>∃p xs i v,x=.ref p/\y=.int i/\cL K H p xs/\oZ xs i=some v/\Q v H
def Vl:R2:=λx y H Q=>∃z i c,x=.str z/\y=.int i/\z.length<=sizeLine/\oZ z.cps.toList i=some c/\Q (.str ⟨#[c]⟩) H
def Gm:uL X (Vj X.K):=by
 intro value slice pins s σ H x y v u Q I rx ry h hs
 obtain⟨p,xs,i,z,rfl,rfl,hq,he,q⟩:=h
 cases rx
 obtain⟨t,rfl⟩:=ry
 obtain⟨its,r,pl,hz⟩:=I.list hq
 obtain⟨j,h1,h2,h3,h4,h5⟩:=o_ he
 obtain⟨w,ew,Af⟩:=r.get h2
 have hl:=r.length
 have hn:=iy
 have fin:EP X pins σ Q w s:=⟨z,H,I,Af,q⟩
 by_cases h0:0<=i
 ·have hj:i.toNat=j:=by
   rw[seqIndex_of h0 h5] at h1
   exact Option.some.inj h1
  exact item_listR pl.isList h0 (by omega) (by rw[hj];simpa using ew) fin hs
 ·have hj:(i+(its.toArray.size:Int)).toNat=j:=by
   rw[seqIndex_neg (by omega) h4] at h1
   rw[List.size_toArray,<-hl]
   exact Option.some.inj h1
  exact subscriptTail_builtinR (x:=w) pl.isList.typeIs slot_list_getitem.lookup
   (wpAny_getItem_list_neg (Q:=λr s'=>r=w/\EP X pins σ Q r s') pl.isList (by omega) (by rw[List.size_toArray]<;>omega) (by omega) (by rw[hj];simpa using ew) ⟨rfl,fin⟩) hs
def Qj:uL X (Vk X.K):=by
 intro value slice pins s σ H x y v u Q I rx ry h hs
 obtain⟨p,xs,i,z,rfl,rfl,hq,he,q⟩:=h
 cases rx
 obtain⟨t,rfl⟩:=ry
 obtain⟨its,r,pl,hz⟩:=I.tuple hq
 obtain⟨j,h1,h2,h3,h4,h5⟩:=o_ he
 obtain⟨w,ew,Af⟩:=r.get h2
 have hl:=r.length
 have hn:=iy
 have fin:EP X pins σ Q w s:=⟨z,H,I,Af,q⟩
 exact subscriptTail_builtinR (x:=w) pl.typeIs slot_tuple_getitem.lookup
  (getItem_tuple (j:=j) (Q:=λr s'=>r=w/\EP X pins σ Q r s') pl (by omega) (by omega) (by rw[List.size_toArray,<-hl];exact h1) (by simpa using ew) ⟨rfl,fin⟩) hs
def Qk:uL X Vl:=by
 intro value slice pins s σ H x y v u Q I rx ry h hs
 obtain⟨z,i,c,rfl,rfl,hz,he,q⟩:=h
 obtain⟨t,rfl⟩:=rx
 obtain⟨t',rfl⟩:=ry
 obtain⟨j,h1,h2,h3,h4,h5⟩:=o_ he
 have hl:z.cps.toList.length=z.length:=by simp[Str.length]
 rw[hl] at h1 h4 h5
 have hn:=iy
 exact tail_any (typeIs_str s z t) slot_str_getitem.lookup (getItem_str (c:=c) (by
  have e1:decide (i < -(2 ^ 63:Int))=false:=decide_eq_false (by omega)
  have e2:decide (i >= 2 ^ 63)=false:=decide_eq_false (by omega)
  rw[e1,e2,Bool.or_false]) (by rw[h1];simpa using h2) ⟨.str ⟨#[c]⟩,H,I.tok _,⟨_,rfl⟩,q⟩) hs
def rIx(K:PySem.W.Frag):R2:=λx y H Q=>Vj K x y H Q\/Vk K x y H Q\/Vl x y H Q
def Ql:uL X (rIx X.K):=Gm.or (Qj.or Qk)
def uM(its:List Value)(n j:Nat)(u:Value):Obj.mapSeq (·.setIfInBounds j u) {cls:=.type "list",data:=.seq its.toArray n}= {cls:=.type "list",data:=.seq (its.set j u).toArray n}:=by
 simp[Obj.mapSeq]
theorem Inv.lst{pins:List (Addr×Obj)}{σ:St}{H:Hp}{s:Shared}{p:Addr}{xs:List V}(I:Inv X pins σ H s)(h:H p=some (.lst xs)) :
 ∃(its:List Value) (n:Nat),Vals xs its/\s.heap.get? p=some {cls:=.type "list",data:=.seq its.toArray n}/\xs.length<=sizeLine:=by
 obtain⟨z,its,n,r,e⟩:=I.hok p _ h
 exact⟨its,n,r,e,z⟩
def Inv.Qm{pins:List (Addr×Obj)}{σ:St}{H:Hp}{s:Shared}{p:Addr}{xs ys:List V}{its its':List Value}{n n':Nat}{f:Obj->Obj}(I:Inv X pins σ H s)(h:H p=some (.lst xs))
 (ho:s.heap.get? p=some {cls:=.type "list",data:=.seq its.toArray n})(hf:f {cls:=.type "list",data:=.seq its.toArray n}= {cls:=.type "list",data:=.seq its'.toArray n'})(r:Vals ys its')(hz:ys.length<=sizeLine)(t:Nat) :
 Inv X pins σ (upd H p (.lst ys)) {s with heap:=s.heap.update p f,toks:=t}:=by
 have e:(s.heap.update p f).get? p=some {cls:=.type "list",data:=.seq its'.toArray n'}:=by
  rw[Heap.get?_update_self f ho (by rw[hf]<;>rfl),hf]
 refine I.write (x:=p) (e:=p) (by rw[h];trivial) (.inl rfl) (λb u hb q=>(Heap.get?_update_other _ _ (Ne.symm hb)).trans q) ⟨_,e⟩ ?_
 exact⟨hz,its',n',r,e⟩
def Vm:V->V->V->Hp->(Hp->Prop)->Prop:=λo i v H Q=>∃p xs k j,o=.ref p/\i=.int k/\H p=some (.lst xs)/\zN xs.length k=some j/\Q (upd H p (.lst (xs.set j v)))
def set_list:UJ X Vm:=by
 intro pins s σ H o i v ov iv u Q I ro ri rv h
 obtain⟨p,xs,k,j,rfl,rfl,hp,hj,q⟩:=h
 cases ro
 obtain⟨t,rfl⟩:=ri
 obtain⟨its,n,r,ho,hz⟩:=I.lst hp
 obtain⟨h1,h2,h3,h4⟩:=wM hj
 have hl:=r.length
 have hn:=iy
 have I':Inv X pins σ (upd H p (.lst (xs.set j v))) {s with heap:=s.heap.update p (Obj.mapSeq (·.setIfInBounds j u))}:=
  I.Qm hp ho (uM its n j u) (r.set rv j) (by rw[List.length_set];exact hz) s.toks
 by_cases h0:0<=k
 ·have hk:k.toNat=j:=by
   rw[seqIndex_of h0 h4] at h1
   exact Option.some.inj h1
  exact PySem.W.ki_setAt ho h0 (by omega) (by rw[List.size_toArray,<-hl];exact h4) (by rw[hk];exact⟨_,I',q⟩)
 ·have hk:(k+(its.toArray.size:Int)).toNat=j:=by
   rw[seqIndex_neg (by omega) h3] at h1
   rw[List.size_toArray,<-hl]
   exact Option.some.inj h1
  exact PySem.W.ki_setBack ho (by omega) (by rw[List.size_toArray,<-hl];exact h3) (by omega) (by rw[hk];exact⟨_,I',q⟩)
def pq(lo hi:Option Int)(n:Nat):(sliceBounds lo hi none n).1=((HT.gq n 0 lo:Nat):Int)/\(sliceBounds lo hi none n).2.1=((HT.gq n n hi:Nat):Int)/\(sliceBounds lo hi none n).2.2=1:=by
 refine⟨?_,?_,rfl⟩
 ·cases lo with
  |none=>simp[sliceBounds,HT.gq]
  |some i=>
   simp only[sliceBounds,HT.gq,Option.getD_none,show(1:Int)>0 by decide,if_true]
   by_cases h:i<0
   ·simp only[h,if_true]<;>omega
   ·simp only[h,if_false]<;>omega
 ·cases hi with
  |none=>simp[sliceBounds,HT.gq]
  |some i=>
   simp only[sliceBounds,HT.gq,Option.getD_none,show(1:Int)>0 by decide,if_true]
   by_cases h:i<0
   ·simp only[h,if_true]<;>omega
   ·simp only[h,if_false]<;>omega
def mz(its:List Value)(lo hi:Option Int):slicePick its.toArray lo hi none=((its.drop (HT.gq its.length 0 lo)).take (HT.gq its.length its.length hi-HT.gq its.length 0 lo)).toArray:=by
 obtain⟨h1,h2,h3⟩:=pq lo hi its.toArray.size
 unfold slicePick
 rw[h1,h2,h3]
 simp only[sliceRange_one,pick_run,List.size_toArray]<;>rfl
def ZaM(K:PySem.W.Frag):V->Option Int->Option Int->Hp->VK->Prop:=λx lo hi H Q=>∃a xs,x=.ref a/\Ũ K H a xs/\∀p,H p=none->Q (.ref p) (upd H p (.lst (rD xs lo hi)))
def Gn:wL X (ZaM X.K):=by
 intro pins s σ H x v vl vu lo hi sl Q I rx hs pl pu h
 obtain⟨a,xs,rfl,hx,q⟩:=h
 cases rx
 obtain⟨its,r,ht,hz⟩:=I.list hx
 have hlen:=r.length
 refine⟨"list",_,slot_list_getitem.lookup,ht.isList.typeIs,?_⟩
 refine wpAny_getItem_list_slice ht.isList hs pl pu .none (by simp) ?_ (by rw[List.size_toArray]<;>omega)
 rw[mz,<-hlen]
 refine⟨.ref s.heap.objs.size,_,I.laid (t':=s.toks) (o:=.lst (rD xs lo hi)) (λb ob q=>Heap.get?_push_of_some _ q) (Nat.le_refl _) ?_,rfl,q _ (I.hok.fresh (Nat.le_refl _))⟩
 exact⟨Nat.le_trans (rE xs lo hi) hz,_,0,(r.drop (HT.gq xs.length 0 lo)).take (HT.gq xs.length xs.length hi-HT.gq xs.length 0 lo),Heap.get?_push_size _ rfl⟩
def pA:Ń X (.type "list") (λxs H Q=>∃p ys,xs=[.ref p]/\(Ũ X.K H p ys\/cL X.K H p ys)/\∀l,H l=none->Q (.ref l) (upd H l (.lst ys))):=by
 intro pins s σ H xs us Q I r h
 obtain⟨p,ys,rfl,hq,q⟩:=h
 obtain⟨u,rfl,rx⟩:=vals1 r
 cases rx
 have fin:∀(its:List Value),Vals ys its->ys.length<=sizeLine->∀(h':Heap) (c':Nat),(∀b o',s.heap.get? b=some o'->h'.get? b=some o')->
  h'.get? s.heap.objs.size=some {cls:=.type "list",dict:=none,data:=.seq its.toArray c',slots:=#[]}->EP X pins σ Q (.ref s.heap.objs.size) {s with heap:=h'}:=λits r' hz h' c' kp e=>
  ⟨.ref s.heap.objs.size,_,I.laid (t':=s.toks) kp (Nat.le_refl _) (show ō X.prog X.w _ h' _ (.lst ys) from⟨hz,its,c',r',e⟩),rfl,q _ (I.hok.fresh (Nat.le_refl _))⟩
 rcases hq with hq|hq
 ·obtain⟨its,r',pl,hz⟩:=I.list hq
  have hlen:=r'.length
  obtain⟨o,ho,hc,n,hd⟩:=pl.isList
  exact call_list_seq p (.inl rfl) ho hc hd (λh' c' kp e=>fin its r' hz h' c' kp e) (by simp only[List.size_toArray]<;>omega)
 ·obtain⟨its,r',pl,hz⟩:=I.tuple hq
  have hlen:=r'.length
  obtain⟨o,ho,hc,n,hd⟩:=pl
  exact call_list_seq p (.inr rfl) ho hc hd (λh' c' kp e=>fin its r' hz h' c' kp e) (by simp only[List.size_toArray]<;>omega)
def mD:Ń X (.type "tuple") (λxs H Q=>∃p ys,xs=[.ref p]/\((Ũ X.K H p ys/\∀l,H l=none->Q (.ref l) (upd H l (.tup ys)))\/(cL X.K H p ys/\Q (.ref p) H))):=by
 intro pins s σ H xs us Q I r h
 obtain⟨p,ys,rfl,h⟩:=h
 obtain⟨u,rfl,rx⟩:=vals1 r
 cases rx
 rcases h with⟨hq,q⟩|⟨hq,q⟩
 ·obtain⟨its,r',pl,hz⟩:=I.list hq
  have hlen:=r'.length
  refine call_tuple_list pl.isList (λh' kp=>?_) (by simp only[List.size_toArray]<;>omega)
  have I1:Inv X pins σ H {s with heap:=h'}:=I.kept (t':=s.toks) kp
  have I2:Inv X pins σ (upd H h'.objs.size (.tup ys)) {s with heap:=h'.push {cls:=.type "tuple",data:=.seq its.toArray}}:=
   I1.laid (t':=s.toks) (λb o e=>Heap.get?_push_of_some _ e) (Nat.le_refl _) (show ō X.prog X.w _ _ _ (.tup ys) from⟨hz,its,r',IsTup.new _ _⟩)
  exact⟨.ref h'.objs.size,_,I2,rfl,q _ (I1.hok.fresh (Nat.le_refl _))⟩
 ·obtain⟨its,r',pl,hz⟩:=I.tuple hq
  exact call_tuple_same pl ⟨.ref p,H,I,rfl,q⟩
def tyV(K:PySem.W.Frag)(T:String)(x:V)(H:Hp):Prop:=match x with
 | .str _=>T= "str"
 | .int _=>T= "int"
 | .ref p=>(T= "list" ∧∃xs,Ũ K H p xs)∨(T= "tuple" ∧∃o,K.lookup p=some o∧o.cls=.type "tuple" ∧o.dict=none)∨
     (T= "dict" /\((∃kvs,H p=some (.dK kvs))\/∃kvs,H p=some (.dT kvs)))\/(T= "set" /\∃S n,H p=some (.set S n))
 |_=>False
def Qn{pins:List (Addr×Obj)}{σ:St}{H:Hp}{s:Shared}{T:String}{x:V}{v:Value}(I:Inv X pins σ H s)(r:RelV x v)(ty:tyV X.K T x H) :
 s.TypeIs v T/\∀a,v=.ref a->∃ob,s.heap.get? a=some ob/\ob.dict=none:=by
 cases x with
 |str z=>
  obtain⟨t,rfl⟩:=r
  cases(show T= "str" from ty)
  exact⟨typeIs_str s z t,λ_ e=>nomatch e⟩
 |int i=>
  obtain⟨t,rfl⟩:=r
  cases(show T= "int" from ty)
  exact⟨typeIs_int s i t,λ_ e=>nomatch e⟩
 |ref p=>
  cases r
  rcases ty with⟨rfl,xs,hq⟩|⟨rfl,o,hk,hc,hd⟩|⟨rfl,hk⟩|⟨rfl,S,n,hk⟩
  ·obtain⟨its,_,pl,_⟩:=I.list hq
   refine⟨pl.isList.typeIs,λa e=>?_⟩
   cases e
   obtain⟨o,n,e,c,hd,_⟩:=pl
   exact⟨o,e,hd⟩
  ·refine⟨⟨o,I.yI p o hk,hc⟩,λa e=>?_⟩
   cases e
   exact⟨o,I.yI _ o hk,hd⟩
  ·have z:∃o,s.heap.get? p=some o∧o.ExactDict:=by
    rcases hk with⟨kvs,hk⟩|⟨kvs,hk⟩
    ·obtain⟨_,_,_,_,o,_,_,e,ex,_⟩:=I.hok p _ hk
     exact⟨o,e,ex⟩
    ·obtain⟨_,_,_,_,o,_,_,e,ex,_⟩:=I.hok p _ hk
     exact⟨o,e,ex⟩
   obtain⟨o,e,ex⟩:=z
   refine⟨⟨o,e,ex.1⟩,λa e2=>?_⟩
   cases e2
   exact⟨o,e,ex.2.1⟩
  ·obtain⟨o,_,_,_,e,ex,_⟩:=I.hok p _ hk
   refine⟨⟨o,e,ex.1⟩,λa e2=>?_⟩
   cases e2
   exact⟨o,e,ex.2.1⟩
 |_=>exact False.elim ty
def tBM(K:PySem.W.Frag)(T:String)(r:V->List V->Hp->VK->Prop)(to:TE)(t:TA):TE:=λσ H Q=>to σ H λx H1=>tyV K T x H1/\t σ H1 λxs H2=>r x xs H2 Q
variable{o e:Expr}{es:List Expr}{to:TE}{t:TA}{name:Str}{apos cpos:Pos}{T id:String}{r:V->List V->Hp->VK->Prop}
def wN(pa:PlainAttrs T)(slot:Slot T name id)(hty:typeOf (.builtin id)=pure (.type "method_descriptor"))(hm:MtR X id r)(ho:PE X o to)(ha:PA X (e::es) t)
 (hbase:attributeBase o name X.env (eval o X.env)=eval o X.env:=by rfl)
 (hfew:((backTo cpos (starEach (e::es) X.env)).all (fun x=>!x.1) && (backToKw cpos (keywordEach [] X.env)).all (fun x=>x.1.isSome)
   && decide ((e::es).length+([]:List Keyword).length+(if([]:List Keyword).isEmpty then 0 else 1)<30))=true:=by rfl)
 (hline:(apos.endLine== cpos.line)=true:=by rfl)(hs:starEach (e::es) X.env=(false,eval e X.env)::starEach es X.env:=by rfl)(hplain:(backTo cpos (starEach es X.env)).any (·.1)=false:=by rfl) :
 PE X (.Call (.Attribute o name apos) (e::es) [] cpos) (tBM X.K T r to t):=by
 intro pins s σ H Q I h
 refine wpAny_Call_method_late hbase hfew hline rfl (Ň (ho pins s σ H _ I h) λv s1 ⟨x,H1,I1,r1,ty,q1⟩=>?_)
 obtain⟨h1,h2⟩:=Qn I1 r1 ty
 refine⟨T,id,pa,slot,hty,h1,h2,?_⟩
 have hA:=ha cpos pins s1 σ H1 _ I1 q1
 rw[hs] at hA ⊢
 refine Calls.callWith_builtin (by show(false || (backTo cpos (starEach es X.env)).any (·.1))=false;rw[hplain]<;>rfl) (Calls.evalArgs_plain ?_)
 exact Ň hA λus s2 ⟨vs,H2,I2,r2,q2⟩=>hm pins s2 σ H2 x vs v us Q I2 r1 r2 q2
end
end L2
namespace L2
open PySem PySem.Spec PyProof.Rows
def MtM(X:Cx)(id:String)(r:V->List V->Hp->VK->Prop):Prop:=
 ∀(pins:List (Addr×Obj)) (s:Shared) (σ:St) (H:Hp) (x:V) (xs:List V) (v:Value) (us:List Value) (Q:VK),Inv X pins σ H s->RelV x v->Vals xs us->r x xs H Q->
  wpAny (model X.prog X.w) X.A (call (.builtin id) (v::us)) (EP X pins σ Q) X.xe s
theorem Vals.one:∀{x:V} {us:List Value},Vals [x] us->∃u,us=[u]/\RelV x u
 |_,_,.cons r .nil=>⟨_,rfl,r⟩
section
variable{X:Cx}{pins:List (Addr×Obj)}{σ:St}{H:Hp}{s:Shared}{l b:Addr}{xs ys zs:List V}
def Inv.ZaN{its its':List Value}{n:Nat}{f:Array Value->Array Value}{t':Nat}(I:Inv X pins σ H s)(hH:H l=some (.lst xs))
 (e:s.heap.get? l=some {cls:=.type "list",data:=.seq its.toArray n})(hf:f its.toArray=its'.toArray)(hv:Vals ys its')(hz:ys.length<=sizeLine) :
 Inv X pins σ (upd H l (.lst ys)) {s with heap:=s.heap.update l (Obj.mapSeq f),toks:=t'}:=by
 have q:=PySem.IsL.update e f
 rw[hf] at q
 refine I.write (x:=l) (e:=l) (by rw[hH];exact trivial) (.inl rfl) (λb' u hb hu=>(Heap.get?_update_other s.heap (Obj.mapSeq f) (Ne.symm hb)).trans hu) ⟨_,q⟩ ?_
 exact⟨hz,its',_,hv,q⟩
def Inv.ZaO{its:List Value}{t':Nat}(I:Inv X pins σ H s)(hv:Vals ys its)(hz:ys.length<=sizeLine) :
 Inv X pins σ (upd H s.heap.objs.size (.lst ys)) {s with heap:=s.heap.push {cls:=.type "list",data:=.seq its.toArray},toks:=t'}:=
 I.laid (λ_ _ q=>Heap.get?_push_of_some _ q) (Nat.le_refl _) ⟨hz,its,0,hv,Heap.get?_push_size _ rfl⟩
theorem Inv.fresh(I:Inv X pins σ H s):H s.heap.objs.size=none:=I.hok.fresh (Nat.le_refl _)
def Inv.ZaP(I:Inv X pins σ H s)(hH:H l=some (.lst xs)):xs.length<=sizeLine/\∃(its:List Value) (n:Nat),Vals xs its/\xs.length=its.length/\s.heap.get? l=some {cls:=.type "list",data:=.seq its.toArray n}:=by
 obtain⟨z,its,n,r,e⟩:=I.hok l _ hH
 exact⟨z,its,n,r,r.length,e⟩
end
section
variable{X:Cx}
def wO:V->List V->Hp->VK->Prop:=λx vs H Q=>∃l xs y,x=.ref l/\vs=[y]/\H l=some (.lst xs)/\xs.length<sizeLine/\Q .non (upd H l (.lst (xs ++ [y])))
def ao:MtM X "list.append" wO:=by
 intro pins s σ H x vs v us Q I rx rv h
 obtain⟨l,xs,y,rfl,rfl,hH,hz,q⟩:=h
 cases rx
 obtain⟨u,rfl,ru⟩:=rv.one
 obtain⟨z,its,n,r,hl,e⟩:=I.ZaP hH
 refine call_meets F.slot_list_append ⟨_,e,rfl⟩ F.entry_list_append (F.args_list_append_2 _ _) (PySem.list_append l its.toArray n u (by rw[List.size_toArray];omega)) ⟨e,?_⟩
 refine⟨.non,_,I.ZaN (its':=its ++ [u]) hH e (by simp) (r.append (.cons ru .nil)) ?_,rfl,q⟩
 rw[List.length_append,List.length_singleton]
 omega
end
section
variable{prog:Program}{w:World}{A:Around}{E:Value->Shared->Prop}{s:Shared}
end
section
variable{X:Cx}
end
end L2
namespace Yu
open PySem PySem.W PySem.Calls PyProof.Rows
def jo{P:Params}{h:Heap}:∀(ns:List Int) (vs:List Value),WellAll P h vs (ns.map WData.int)->IntsAre vs ns:=by
 intro ns
 induction ns with
 |nil=>
  intro vs w
  rw[List.map_nil] at w
  cases w
  exact .nil
 |cons n ns ih=>
  intro vs w
  rw[List.map_cons] at w
  cases w with
  |cons a b=>
   cases a
   exact .cons _ _ (ih _ b)
def yW{l:OpenLaw}{n:Nat}(hn:l.most=some n){P:Params}{h:Heap}{args:List WData}{vals:List Value}
 (hpre:l.row.toRowW.claim.pre args=true)(hwl:WellAll P h vals args) :
 ∃a vs ns,vals=[Value.ref a]/\args=[WData.list (ns.map WData.int)]/\h.get? a=some {cls:=.type "list",data:=.seq vs.toArray}/\IntsAre vs ns/\ns.length<=n:=by
 have hsh:WShape.hasAll [] args [.list .int]=true:=(pre_splitW hpre).1
 have hc:l.pre.holds [] {args:=args}=true:=(pre_splitW hpre).2
 obtain⟨d,r,rfl,h1,h2⟩:=hasAllW_cons hsh
 obtain rfl:=hasAllW_nil h2
 obtain⟨xs,rfl,h3⟩:=hasW_list h1
 obtain⟨ns,rfl⟩:=items_int h3
 have hlen:ns.length<=n:=by
  unfold OpenLaw.pre at hc
  have h4:(WTm.not (.lt (.lit (.int (n:Int))) (.len (.arg 0)))).holds [] {args:=[.list (ns.map .int)]}=true:=by
   have h4:=(holds_andW hc).1
   rw[hn] at h4
   exact h4
  have h5:=condW_of h4 (w_not (w_lt w_lit (w_len_list (w_arg rfl))))
  rw[List.length_map] at h5
  refine Nat.le_of_not_lt λq=>?_
  have q':(n:Int)<((ns.length:Nat):Int):=by omega
  first
   |(rw[decide_eq_true q'] at h5;exact absurd h5 (by decide))
   |(simp at h5;omega)
 cases hwl with
 |cons w1 w2=>
  cases w2
  cases w1 with
  |list ho hall=>exact⟨_,_,ns,rfl,rfl,ho,jo ns _ hall,hlen⟩
def yX(l:OpenLaw)(args:List WData):l.row.toRowW.claim.post args (.bool true) args=true:=
 postW_of (r:=l.row.toRowW) (X:=(true== true))
  (show WShape.has [] (.bool true) .bool=true by first|rfl|decide|simp[WShape.has,WShape.arms,WShape.armsAll])
  (show(WTm.eq .res (.lit (.bool true))).value [] {args:=args,res:=some (.bool true),after:=args}=some (.bool (true== true)) from w_eq_bool (w_res rfl) w_lit) rfl
def rG{l:OpenLaw}{n:Nat}{q:Program}{loose:List Str}{XP:(Str->Option Value)->Heap->Prop}{YP:World->Heap->Prop}{d:DefRec}
 (hn:l.most=some n)(hdf:d.params.defaults=[])
 (call:∀(w:World) (s₀ s₁:Shared) (mg mb:Str→Option Value) (fa:Addr) (o:Obj) (pm cd doc:Value) (a:Addr) (vs:List Value) (ns:List Int),
   Ground q loose [] XP w s₀ mg mb s₁.heap->YP w s₁.heap->
   s₁.heap.get? fa=some o->o.data=.func (docDef d.name d.params d.body d.scope pm cd doc)->s₁.heap.CodeRec cd d.name->mg d.name=some (.ref fa)->
   s₁.heap.get? a=some {cls:=.type "list",data:=.seq vs.toArray}->IntsAre vs ns->ns.length<=n->s₁.gens= #[]->
   codeAny (model l.prog w) callerA (.call (.ref fa) ⟨[.ref a],[]⟩) (λr s'=>r=.ok (.ret (.bool true))/\OldK s₁.heap s'.heap/\s'.os=s₁.os/\AllBare s'.gens) s₁) :
 WalkO q loose XP YP l.row.toRowW d [] (λf vs=>PySem.call f vs):=by
 intro w s₀ s₁ mg mb G Y fa o pm cd doc dV kV ho hd hcd hD hmg hg args vals as hpre hlay hrd hwl hlo
 obtain rfl:dV=.none:=Dflts.none hD hdf
 obtain rfl:kV=.none:=Dflts.noKw hD
 obtain⟨a,vs,ns,rfl,rfl,hobj,hints,hlen⟩:=yW hn hpre hwl
 refine enter_call (codeAny_mono (call w s₀ s₁ mg mb fa o pm cd doc a vs ns G Y ho (fd_plain hd) hcd hmg hobj hints hlen hg) λr s' hq=>?_)
 obtain⟨rfl,h2,h3,h4⟩:=hq
 exact⟨.inl ⟨.bool true,.bool true,[],rfl,λ_=>rfl,.bool true,yX l _,λ_=>⟨List.Pairwise.nil,λ_ hm=>(nomatch hm)⟩⟩,h2,h3,h4⟩
section
variable{prog:Program}{w:World}{A:Around}{E:Value->Shared->Prop}{s:Shared}{K:Frag}
end
end Yu
namespace L2
open PySem PySem.Spec PyProof.Rows
theorem Ŵ:∀{vs:List Value} {ns:List Int},IntsAre vs ns->Vals (ns.map V.int) vs
 |_,_,.nil=>.nil
 |_,_,.cons n t h=>.cons ⟨t,rfl⟩ (Ŵ h)
def Only(H:Hp):Prop:=∀b,H b=none\/(∃o xs,H b=some (.ak o (.lst xs)))\/∃q,H b=some (.eO q)
def cU(K:PySem.W.Frag):List Str->Hp
 | []=>λ_=>none
 |y::r=>λb=>match PySem.W.tabIn K y with
  |some (_,P)=>if b=P then some (.eO (oO y)) else cU K r b
  |none=>cU K r b
theorem aL{K:PySem.W.Frag}:∀{l:List Str} {b:Addr} {u:HO},cU K l b=some u->∃y c,y∈l/\PySem.W.tabIn K y=some (c,b)/\u=.eO (oO y)
 | [],_,_,h=>by cases(show(none:Option HO)=some _ from h)
 |y::r,b,u,h=>by
  have h':(match PySem.W.tabIn K y with
   |some (_,P)=>if b=P then some (.eO (oO y)) else cU K r b
   |none=>cU K r b)=some u:=h
  have rc:cU K r b=some u->∃z c,z∈y::r/\PySem.W.tabIn K z=some (c,b)/\u=.eO (oO z):=λq=>
   let ⟨z,c,h1,h2,h3⟩:=aL q
   ⟨z,c,List.mem_cons_of_mem _ h1,h2,h3⟩
  cases e:PySem.W.tabIn K y with
  |none=>rw[e] at h';exact rc h'
  |some p=>
   obtain⟨c,P⟩:=p
   rw[e] at h'
   have h2:(if b=P then some (HO.eO (oO y)) else cU K r b)=some u:=h'
   by_cases hb:b=P
   ·rw[if_pos hb] at h2
    cases h2
    exact⟨y,c,List.mem_cons_self,by rw[hb];exact e,rfl⟩
   ·rw[if_neg hb] at h2
    exact rc h2
theorem wQ{K:PySem.W.Frag}{y:Str}{c P:Addr}(e:PySem.W.tabIn K y=some (c,P)):∀{l:List Str},(∀z∈l,z=y)->y∈l->cU K l P=some (.eO (oO y))
 | [],_,h=>by cases h
 |z::r,h1,_=>by
  have hz:=h1 z List.mem_cons_self
  subst hz
  show(match PySem.W.tabIn K z with
   |some (_,Q)=>if P=Q then some (HO.eO (oO z)) else cU K r P
   |none=>cU K r P)=_
  rw[e]
  exact if_pos rfl
def Aw{P:Program}{w:World}{K:PySem.W.Frag}{mg mb:Str->Option Value}{CX:gk}{k:Nat}{fa a:Addr}{fd:FuncData}{x:Str}{sp:Sp}{s₁:Shared}{vs:List Value}{ns:List Int}
 (KX:K.In s₁.heap)(hns:s₁.heap.Ns mainGlobals mg)(hb:s₁.heap.Ns builtinsNs mb)(hbb:∀x:Str,x≠ "__name__" ->mb x=bootBuiltins x)(hlim:s₁.heap.NoLimit)(hg:s₁.gens= #[])
 (ha:s₁.heap.get? a=some {cls:=.type "list",data:=.seq vs.toArray})(hi:IntsAre vs ns)(hl:ns.length<=sizeLine)(hr:Ţ k callerA)
 (F:∀base:Heap,K.In base->base.Ns mainGlobals mg->ĥ P w K mg base CX k fa fd [x] sp)(hbind:∀(s:Shared) (u:Value),BindsTo s fd ⟨[u],[]⟩ [(x,u)])
 (hsp:∀H:Hp,Only H->Ũ K H a (ns.map V.int)->sp [.ref a] H (λv _=>v=.bl true) λ_ _ _=>False)
 (Vn:∀H e s',CX [] H s₁ (λ_ _ _=>False) e s'->False)
 (hnt:lams≠[]->PySem.W.noTabs K=true)(hone:∀y z,y∈lams->z∈lams->y=z)(htb:∀y c Pt,y∈lams->PySem.W.tabIn K y=some (c,Pt)->PySem.W.CodeHd s₁.heap c Pt/\s₁.heap.get? Pt=some (PySem.W.tabObj #[])/\s₁.heap.BuiltinsAt mg Pt) :
 codeAny (model P w) callerA (.call (.ref fa) ⟨[.ref a],[]⟩) (λr s'=>r=.ok (.ret (.bool true))/\OldK s₁.heap s'.heap/\s'.os=s₁.os/\AllBare s'.gens) s₁:= by
 have rv:=Ŵ hi
 have lenV:=hi.length
 -- from an abstract heap in which nothing but the script may be tracked
 have core:∀H:Hp,Only H->Ũ K H a (ns.map V.int)->cQ P w H s₁.heap->(∀b,H b≠none->b=a\/∃y c,y∈lams/\PySem.W.tabIn K y=some (c,b))->(H a≠none->K.lookup a=none)->(∀y c Pt,y∈lams->PySem.W.tabIn K y=some (c,Pt)->H Pt=some (.eO (oO y)))->
  codeAny (model P w) callerA (.call (.ref fa) ⟨[.ref a],[]⟩) (λr s'=>r=.ok (.ret (.bool true))/\OldK s₁.heap s'.heap/\s'.os=s₁.os/\AllBare s'.gens) s₁:= by
  intro H hO hS hok hA hK hT
  have jF:∀{b:Addr} {o:Obj},s₁.heap.get? b=some o->H b=none->(mq s₁.heap H).get? b=some o:=λe n=>zY e n
  have Vh:∀{b:Addr} {o:Obj} {es:Array DictEntry} {ep:Nat},s₁.heap.get? b=some o->o.data=.dict es ep->H b=none:=fun{b o es ep} e d=>by
   cases q:H b with
   |none=>rfl
   |some u=>
    rcases hA b (by rw[q];simp) with e'|⟨y,c,hy,hty⟩
    ·subst e'
     rw[ha] at e;cases e
     have d':Data.seq vs.toArray _=Data.dict es ep:=d
     cases d'
    ·have e2:=(htb y c b hy hty).2.1
     rw[e] at e2;cases e2;cases d
  have Yw:∀{b:Addr} {m:Str->Option Value},s₁.heap.Ns b m->(mq s₁.heap H).Ns b m:=fun{b m} ⟨o,es,ep,e,d,r⟩=>⟨o,es,ep,jF e (Vh e d),d,r⟩
  have hKb:K.In (mq s₁.heap H):=λb o e=>jF (KX b o e) (by
   cases q:H b with
   |none=>rfl
   |some u=>
    rcases hA b (by rw[q];simp) with e'|⟨y,c,hy,hty⟩
    ·subst e'
     rw[hK (by rw[q];simp)] at e;cases e
    ·have e2:=(htb y c b hy hty).2.1
     rw[KX b o e] at e2
     cases e2
     have h2:=List.all_eq_true.mp (hnt (λz=>by rw[z] at hy;cases hy)) (b,_) (PySem.W.mem_of_lookupK e)
     exact absurd (show false=true from h2) Bool.false_ne_true)
  have hM:Mod K mg (mq s₁.heap H):=⟨hKb,Yw hns,⟨mb,Yw hb,hbb⟩,let ⟨mc,h1,h2⟩:=hlim;⟨mc,Yw h1,h2⟩⟩
  have hTB:TabsOk K mg (mq s₁.heap H) H:=λy c Pt hy hty=>by
   obtain⟨⟨o,us,file,tf,flags,tg,inF,text,tt,e1,r1,r2⟩,_,bm,ob,b1,b2,b3,b4,b5,b6,b7⟩:=htb y c Pt hy hty
   refine⟨⟨o,us,file,tf,flags,tg,inF,text,tt,jF e1 ?_,r1,r2⟩,hT y c Pt hy hty,bm,ob,b1,b2,b3,b4,jF b5 ?_,b6,b7⟩
   rotate_left
   ·cases q:H bm with
    |none=>rfl
    |some u=>
     rcases hA bm (by rw[q];simp) with e'|⟨z,c2,hz,htz⟩
     ·rw[e',ha] at b5;cases b5;exact absurd (Value.type.inj b6) (by decide)
     ·have e2:=(htb z c2 bm hz htz).2.1
      rw[b5] at e2;cases e2;cases b6
   cases q:H c with
   |none=>rfl
   |some u=>
    rcases hA c (by rw[q];simp) with e'|⟨z,c2,hz,htz⟩
    ·rw[e',ha] at e1;cases e1;exact absurd (Value.type.inj r1) (by decide)
    ·have e2:=(htb z c2 c hz htz).2.1
     rw[e1] at e2;cases e2;cases r1
  have e0:uK P w K mg (mq s₁.heap H) callerA [] s₁ H:=⟨rfl,hM,λb o e=>Fz e,Nat.le_of_eq (yH _ _),trivial,λb hb=>absurd (show b∈([]:List Addr) from hb) (by simp),hok,.of_eq hg,hTB⟩
  refine codeAny_mono ((F _ hKb (Yw hns)).run callerA [] s₁ H ⟨[.ref a],[]⟩ [.ref a] [.ref a] _ _ hr e0 (hbind s₁ (.ref a)) (.cons rfl .nil) (hsp H hO hS)) λr s' h=>?_
  cases r with
  |error e=>exact(Vn H e s' h).elim
  |ok fl=>
   cases fl with
   |next=>exact False.elim h
   |brk=>exact False.elim h
   |cont=>exact False.elim h
   |ret u=>
    obtain⟨v,H',os,bare,un,hok',r',q⟩:=h
    have q':v=.bl true:=q
    subst q'
    obtain rfl:u=Value.bool true:=r'
    have old:∀b o,s₁.heap.get? b=some o->(∀t,H b≠some (.eO t))->s'.heap.get? b=some o:=?_
    ·refine⟨rfl,⟨λb o e=>?_,λb o e=>?_⟩,os,bare⟩
     ·by_cases ht:∃t,H b=some (.eO t)
      ·obtain⟨t,ht⟩:=ht
       obtain⟨ps,e1,_⟩:=hok' b _ (un.jl b t ht)
       rcases hA b (by rw[ht];simp) with e'|⟨y,c,hy,hty⟩
       ·subst e'
        obtain⟨ps2,e3,_⟩:=hok b _ ht
        rw[ha] at e3;cases e3
       ·obtain⟨⟨o2,us,file,tf,flags,tg,inF,text,tt,f1,f2,f3,f4,_⟩,e2,_⟩:=htb y c b hy hty
        rw[e] at e2;cases e2
        exact .inr (.inl ⟨⟨c,o2,us,f1,f2,f3,f4⟩,rfl,#[],ps,rfl,by rw[e1];simp⟩)
      ·exact .inl (old b o e λt z=>ht ⟨t,z⟩)
     ·by_cases ht:∃t,H b=some (.eO t)
      ·obtain⟨t,ht⟩:=ht
       obtain⟨ps,e1,_⟩:=hok' b _ (un.jl b t ht)
       exact⟨_,e1⟩
      ·exact⟨o,old b o e λt z=>ht ⟨t,z⟩⟩
    intro b o e nt
    cases q:H b with
    |none=>exact un.keep b o e q (by intro z;exact absurd (show b∈([]:List Addr) from z) (by simp)) (by simp)
    |some u=>
     rcases hO b with z|⟨ob,xs,z⟩|⟨t,z⟩
     ·rw[q] at z;cases z
     rotate_left
     ·exact absurd z (nt t)
     ·have z2:=un.mj b ob _ z
      obtain⟨e1,_⟩:=hok b _ z
      obtain⟨e2,_⟩:=hok' b _ z2
      rw[e] at e1;cases e1
      exact e2
 cases hk:K.lookup a with
 |some o=>
  -- the script is one of the module's own objects
  have e:=KX a o hk
  rw[ha] at e
  cases e
  refine core (cU K lams) (λb=>?_) (.inr ⟨_,vs.toArray,_,hk,rfl,rfl,rfl,by rw[List.size_toArray,lenV];exact hl,by simpa using rv⟩) (λb u z=>?_) (λb z=>?_) (λz=>?_) λy c Pt hy hty=>wQ hty (λz hz=>hone z y hz hy) hy
  ·cases q:cU K lams b with
   |none=>exact .inl rfl
   |some u=>obtain⟨y,c,_,_,rfl⟩:=aL q;exact .inr (.inr ⟨_,rfl⟩)
  ·obtain⟨y,c,hy,hty,rfl⟩:=aL z
   exact⟨#[],(htb y c b hy hty).2.1,trivial,λpos cv z=>by cases z⟩
  ·cases q:cU K lams b with
   |none=>exact absurd q z
   |some u=>obtain⟨y,c,hy,hty,_⟩:=aL q;exact .inr ⟨y,c,hy,hty⟩
  ·cases q:cU K lams a with
   |none=>exact absurd q z
   |some u=>
    obtain⟨y,c,hy,hty,_⟩:=aL q
    have e2:=(htb y c a hy hty).2.1
    rw[ha] at e2;cases e2
 |none=>
  refine core (λb=>if b=a then some (.ak {cls:=.type "list",data:=.seq vs.toArray} (.lst (ns.map V.int))) else cU K lams b) (λb=>?_) (.inl (.inr ⟨{cls:=.type "list",data:=.seq vs.toArray},if_pos rfl⟩)) (λb u z=>?_) (λb z=>?_) (λ_=>hk) λy c Pt hy hty=>?_
  ·by_cases hb:b=a
   ·exact .inr (.inl ⟨_,_,if_pos hb⟩)
   ·cases q:cU K lams b with
    |none=>exact .inl ((if_neg hb).trans q)
    |some u=>obtain⟨y,c,_,_,rfl⟩:=aL q;exact .inr (.inr ⟨_,(if_neg hb).trans q⟩)
  ·by_cases hb:b=a
   ·have z':=(if_pos hb).symm.trans z
    cases z'
    subst hb
    exact⟨ha,by rw[List.length_map];exact hl,vs,_,rv,ha⟩
   ·have z':=(if_neg hb).symm.trans z
    obtain⟨y,c,hy,hty,rfl⟩:=aL z'
    exact⟨#[],(htb y c b hy hty).2.1,trivial,λpos cv z=>by cases z⟩
  ·by_cases hb:b=a
   ·exact .inl hb
   ·cases q:cU K lams b with
    |none=>exact absurd ((if_neg hb).trans q) z
    |some u=>obtain⟨y,c,hy,hty,_⟩:=aL q;exact .inr ⟨y,c,hy,hty⟩
  ·have ne:Pt≠a:=fun z=>by
    subst z
    have e2:=(htb y c _ hy hty).2.1
    rw[ha] at e2;cases e2
   exact(if_neg ne).trans (wQ hty (λz hz=>hone z y hz hy) hy)
end L2
namespace L2
open PySem PySem.Spec PyProof.Rows
def Gp{p:Program}{loose:List Str}{mean:ExcName->Option Value}{mg mb:Str->Option Value}{h:Heap}{K:PySem.W.Frag}{d:DefRec}{x:Str}{c P:Addr}(T:Top p loose mean mg mb h)(X:K.In h)(hr:(recsOf p).find? (λe=>e.name== x)=some d)(ht:PySem.W.tabIn K x=some (c,P)) :
 PySem.W.CodeHd h c P/\h.get? P=some (PySem.W.tabObj #[])/\h.BuiltinsAt mg P:=by
 obtain⟨h1,h2⟩:=PySem.W.tab_of T X hr ht
 obtain⟨bm,ob,b1,b2,b3,b4,b5,b6⟩:=T.bmain
 have hbP:bm≠P:=λq=>by rw[q,h2] at b3;cases b3;cases b4
 have hbG:bm≠mainGlobals:=λq=>by
  obtain⟨o,es,ep,e,hd,_⟩:=T.g
  rw[q,e] at b3;cases b3;rw[hd] at b6;cases b6
 exact⟨h1,h2,bm,ob,b1,b2,hbG,hbP,b3,b4,b5,b6⟩
def Gq{l:PySem.W.OpenLaw}{n k:Nat}{q:Program}{loose:List Str}{XP:(Str->Option Value)->Heap->Prop}{YP:World->Heap->Prop}{d:DefRec}{K:Params->PySem.W.Frag}{CX:World->gk}{sp:World->Sp}{x:Str}
 (hn:l.most=some n)(hn2:n<=sizeLine)(hdf:d.params.defaults=[])(hr:Ţ k callerA)
 (hY:∀(w:World) (h:Heap),YP w h->(K w.params).In h)
 (F:∀(w:World) (mg:Str→Option Value) (fa:Addr) (h:Heap),(K w.params).In h→h.Ns mainGlobals mg→mg d.name=some (.ref fa)→
   ∃fd:FuncData,(∀(s:Shared) (u:Value),BindsTo s fd ⟨[u],[]⟩ [(x,u)])/\
    ∀base:Heap,(K w.params).In base->base.Ns mainGlobals mg->ĥ l.prog w (K w.params) mg base (CX w) k fa fd [x] (sp w))
 (hsp:∀(w:World) (H:Hp) (a:Addr) (ns:List Int),ns.length<=n->Only H->Ũ (K w.params) H a (ns.map V.int)->sp w [.ref a] H (λv _=>v=.bl true) λ_ _ _=>False)
 (Vn:∀(w:World) (H:Hp) (s:Shared) (e:Value) (s':Shared),CX w [] H s (λ_ _ _=>False) e s'->False)
 (hnt:lams≠[]->∀w:World,PySem.W.noTabs (K w.params)=true:=by intro z;exact absurd rfl z)(hone:∀y z,y∈lams->z∈lams->y=z:=by simp[lams])(hrec:∀y,y∈lams->∃d,(recsOf q).find? (λe=>e.name== y)=some d:=by simp[lams]) :
 PySem.W.WalkO q loose XP YP l.row.toRowW d [] (λf vs=>PySem.call f vs):=by
 refine Yu.rG hn hdf λw s₀ s₁ mg mb fa o pm cd doc a vs ns G Y ho hd hcd hmg hobj hints hlen hg=>?_
 have KX:=hY w _ Y
 obtain⟨fd,hb,hF⟩:=F w mg fa _ KX G.T.g hmg
 exact Aw KX G.T.g G.T.b G.T.builtins G.T.nolimit hg hobj hints (Nat.le_trans hlen hn2) hr hF hb (λH hO hS=>hsp w H a ns hlen hO hS) (λH e s'=>Vn w H s₁ e s') (λz=>hnt z w) hone λy c Pt hy hty=>let ⟨_,hr'⟩:=hrec y hy;Gp G.T KX hr' hty
end L2
namespace L2
open PySem PySem.Spec PyProof.Rows
def inClass(s:Stmt)(j:Nat):Stmt:=match s with
 | .ClassDef _ _ _ body _ _ _ _ _ _ _=>body.getD j (.Pass ⟨0,0,0,0⟩)
 |_=>.Pass ⟨0,0,0,0⟩
def ŷ(s:Stmt):Arguments:=match s with
 | .FunctionDef _ a _ _ _ _ _ _ _ _=>a
 |_=> {posonlyargs:=[],args:=[],vararg:=none,kwonlyargs:=[],kw_defaults:=[],kwarg:=none,defaults:=[]}
def œ(s:Stmt):List Stmt:=match s with
 | .FunctionDef _ _ b _ _ _ _ _ _ _=>b
 |_=>[]
def ć(s:Stmt):Scope:=match s with
 | .FunctionDef _ _ _ _ _ _ sc _ _ _=>sc
 |_=> {kind:=.function,names:=[],isGenerator:=false,isCoroutine:=false}
abbrev Ÿ:gk:=λ_ _ _ _ _ _=>False
structure Gs(K:PySem.W.Frag)(x qual:Str)(st:Stmt)(f:Addr)(fd:FuncData):Prop where
 ex:∃(oc:Value) (od:Option Addr) (kV doc pm:Value) (an:Option Addr) (cdv ct:Value) (osl:Array (Option Value)),
   fd=PySem.W.fnOf x qual (ŷ st) (œ st) (ć st) .none kV doc pm an cdv ct/\K.lookup f=some ⟨oc,od,.func fd,osl⟩/\PySem.W.codeIn K cdv qual=true
 kp:PySem.W.keepIn K (.ref f)=true
section
variable{P:Program}{w:World}{K:PySem.W.Frag}{mg:Str->Option Value}{base:Heap}
def Gs.binds{x qual:Str}{st:Stmt}{f:Addr}{fd:FuncData}{ps:List Str}(F:Gs K x qual st f fd)
 (h:∀(kV doc pm:Value) (an:Option Addr) (cdv ct:Value) (us:List Value),us.length=ps.length->bindArgs (PySem.W.fnOf x qual (ŷ st) (œ st) (ć st) .none kV doc pm an cdv ct) ⟨us,[]⟩=pure (ps.zip us)):Binds K fd ps []:=by
 obtain⟨oc,od,kV,doc,pm,an,cdv,ct,osl,rfl,lk,hcd⟩:=F.ex
 exact .all (h kV doc pm an cdv ct)
def Ax{x qual:Str}{st:Stmt}{f:Addr}{oc:Value}{od an:Option Addr}{osl:Array (Option Value)}{kV doc pm cdv ct:Value}(l:K.lookup f=some ⟨oc,od,.func (PySem.W.fnOf x qual (ŷ st) (œ st) (ć st) .none kV doc pm an cdv ct),osl⟩)
 (c:PySem.W.codeIn K cdv qual=true)(k:PySem.W.keepIn K (.ref f)=true):Gs K x qual st f (PySem.W.fnOf x qual (ŷ st) (œ st) (ć st) .none kV doc pm an cdv ct):=⟨⟨oc,od,kV,doc,pm,an,cdv,ct,osl,rfl,l,c⟩,k⟩
end
section
variable{X:Cx}
def pv(i:Nat){x:Str}{pos:Pos}(hN:X.N[i]?=some x:=by rfl)(hv:uf X.env.scope x:=by first|exact Or.inl rfl|exact Or.inr (Or.inl rfl)|exact Or.inr (Or.inr rfl))(hd:(x== ("__debug__" :Str))=false:=by decide)
 (hcd:(x== ("__classdict__" :Str))=false:=by decide):PE X (.Name x pos) (uq i):=au hN hv hd hcd
end
def Same(H H':Hp):Prop:=∀b o,H b=some o->H' b=some o
def Same.refl(H:Hp):Same H H:=λ_ _ h=>h
def Same.trans{H H1 H2:Hp}(a:Same H H1)(b:Same H1 H2):Same H H2:=λc o h=>b c o (a c o h)
def Same.free{H H':Hp}(e:Same H H'){l:Addr}(h:H' l=Option.none):H l=Option.none:=by
 cases q:H l with
 |none=>rfl
 |some o=>
  rw[e l o q] at h
  cases h
def Same.seq{K:PySem.W.Frag}{H H':Hp}{a:Addr}{xs:List V}(e:Same H H')(h:Ũ K H a xs):Ũ K H' a xs:=by
 rcases h with(h|⟨o,h⟩)|h
 ·exact .inl (.inl (e _ _ h))
 ·exact .inl (.inr ⟨o,e _ _ h⟩)
 ·exact .inr h
end L2
namespace M2
open PySem PySem.Spec PyProof.Rows L2
section
variable{X:Cx}{a b c e:Expr}{ta tb tc te:TE}{pos:Pos}
def PE.wk{t t':TE}(h:PE X e t)(i:∀σ H Q,t' σ H Q->t σ H Q):PE X e t':=λpins s σ H Q I q=>h pins s σ H Q I (i σ H Q q)
def PS.wk{st:Stmt}{t t':TS}(h:PS X st t)(i:∀D σ H,t' D σ H->t D σ H):PS X st t':=λpins s σ H D I q=>h pins s σ H D I (i D σ H q)
def ş.wk{f:Value->Value->Sem Value}{r r':R2}(h:ş X f r)(i:∀x y H Q,r' x y H Q->r x y H Q):ş X f r':=λpins s σ H x y v u Q I rx ry q=>h pins s σ H x y v u Q I rx ry (i x y H Q q)
def Gd.wk{f:Value->Sem Value}{r r':V->Hp->VK->Prop}(h:Gd X f r)(i:∀x H Q,r' x H Q->r x H Q):Gd X f r':=λpins s σ H x v Q I rx q=>h pins s σ H x v Q I rx (i x H Q q)
def Ń.wk{f:Value}{r r':List V->Hp->VK->Prop}(h:Ń X f r)(i:∀xs H Q,r' xs H Q->r xs H Q):Ń X f r':=λpins s σ H xs us Q I r q=>h pins s σ H xs us Q I r (i xs H Q q)
def uL.wk{r r':R2}(h:uL X r)(i:∀x y H Q,r' x y H Q->r x y H Q):uL X r':=λva sl pins s σ H x y v u Q I rx ry q=>h va sl pins s σ H x y v u Q I rx ry (i x y H Q q)
def wL.wk{r r':V->Option Int->Option Int->Hp->VK->Prop}(h:wL X r)(i:∀x lo hi H Q,r' x lo hi H Q->r x lo hi H Q):wL X r':=λpins s σ H x v vl vu lo hi sl Q I rx hs pl pu q=>h pins s σ H x v vl vu lo hi sl Q I rx hs pl pu (i x lo hi H Q q)
def Qo(i:Nat):TE:=λσ H Q=>match σ[i]? with
 |some (some v)=>Q v H
 |_=>False
def Gu{i:Nat}{σ:L2.St}{H:Hp}{Q:VK}(h:Qo i σ H Q):uq i σ H Q:=by
 unfold Qo at h
 split at h
 ·exact⟨_,by assumption,h⟩
 ·exact h.elim
def mv(i:Nat){x:Str}{pos:Pos}(hN:X.N[i]?=some x:=by rfl)(hv:uf X.env.scope x:=by first|exact Or.inl rfl|exact Or.inr (Or.inl rfl)|exact Or.inr (Or.inr rfl))(hd:(x== ("__debug__" :Str))=false:=by decide)
 (hcd:(x== ("__classdict__" :Str))=false:=by decide):PE X (.Name x pos) (Qo i):=PE.wk (au hN hv hd hcd) λ_ _ _ h=>Gu h
def Yx(x:V)(k:Bool->Prop):Prop:=match x with
 | .bl c=>k c
 |_=>False
def uN{x:V}{k:Bool->Prop}(h:Yx x k):∃c,x=.bl c/\k c:=by
 cases x with
 |bl c=>exact⟨c,rfl,h⟩
 |_=>exact h.elim
def Jd(t:TE):TT:=λσ H Q=>t σ H λx H1=>Yx x λc=>Q c H1
def Qp{op:CmpOp}{r:R2}(ho:ş X (compareOp op) r)(ha:PE X a ta)(hb:PE X b tb)(hm:behindInMarks op b=false):PT X (.Compare a [op] [b] pos) (Jd (Ui r ta tb)):=by
 intro pins s σ H Q I h
 refine wpAny_isTrue_Compare1 (Ň (ha pins s σ H _ I h) λv s1 ⟨x,H1,I1,r1,q1⟩=>Ň (hb pins s1 σ H1 _ I1 q1) λu s2 ⟨y,H2,I2,r2,q2⟩=>
  Ň (ho pins s2 σ H2 x y v u _ I2 r1 r2 q2) λc s3 ⟨z,H3,I3,r3,q3⟩=>?_) hm
 obtain⟨k,e,q3⟩:=uN q3
 subst e
 cases r3
 exact wpAny_truthy_bool ⟨H3,I3,q3⟩
def Ay(r r':R2)(ta tb tc:TE):TE:=λσ H Q=>ta σ H λx H1=>tb σ H1 λy H2=>r x y H2 λz H3=>Yx z λk=>
 (if k=true then tc σ H3 λw' H4=>r' y w' H4 Q else Q (.bl false) H3)
def Az{op op':CmpOp}{r r':R2}(ho:ş X (compareOp op) r)(ho':ş X (compareOp op') r')(ha:PE X a ta)(hb:PE X b tb)(hc:PE X c tc)
 (hm:lastMarks [op,op'] [b,c]=false:=by with_unfolding_all rfl):PE X (.Compare a [op,op'] [b,c] pos) (Ay r r' ta tb tc):=by
 intro pins s σ H Q I h
 refine Compare_chain (Ň (ha pins s σ H _ I h) λv s1 ⟨x,H1,I1,r1,q1⟩=>chain_link (Ň (hb pins s1 σ H1 _ I1 q1) λu s2 ⟨y,H2,I2,r2,q2⟩=>
  Ň (ho pins s2 σ H2 x y v u _ I2 r1 r2 q2) λd s3 ⟨z,H3,I3,r3,q3⟩=>?_)) hm
 obtain⟨k,e,q3⟩:=uN q3
 subst e
 cases r3
 refine wpAny_truthy_bool ?_
 cases k with
 |false=>exact ite_ff ⟨.bl false,H3,I3,rfl,q3⟩
 |true=>exact ite_tt (chain_last (Ň (hc pins s3 σ H3 _ I3 q3) λw' s4 ⟨z',H4,I4,r4,q4⟩=>ho' pins s4 σ H4 y z' u w' Q I4 r2 r4 q4))
def Vo(ta tb:TE):TE:=λσ H Q=>ta σ H λx H1=>Yx x λc=>if c=true then tb σ H1 Q else Q (.bl false) H1
variable{rest:List Expr}
def Qq(ha:PE X a ta)(hb:PE X (.BoolOp .And (b::rest) pos) tb):PE X (.BoolOp .And (a::b::rest) pos) (Vo ta tb):=by
 intro pins s σ H Q I h
 refine BoolOp_and (Ň (ha pins s σ H _ I h) λv s1 ⟨x,H1,I1,r1,q1⟩=>?_)
 obtain⟨c,rfl,q1⟩:=uN q1
 cases r1
 refine wpAny_truthy_bool ?_
 cases c with
 |true=>exact hb pins s1 σ H1 Q I1 q1
 |false=>exact⟨.bl false,H1,I1,rfl,q1⟩
def mI(C:Int->Int->Prop)(g:Int->Int->V):R2:=λx y H Q=>match x,y with
 | .int i,.int j=>C i j/\Q (g i j) H
 |_,_=>False
def yZ(g:Int->Int->V):R2:=λx y H Q=>match x,y with
 | .int i,.int j=>Q (g i j) H
 |_,_=>False
def m_{C:Int->Int->Prop}{g:Int->Int->V}(x y:V)(H:Hp)(Q:VK)(h:mI C g x y H Q):rI C g x y H Q:=by
 cases x with
 |int i=>
  cases y with
  |int j=>exact⟨i,j,rfl,rfl,h.1,h.2⟩
  |_=>exact h.elim
 |_=>exact h.elim
def jP{g:Int->Int->V}(x y:V)(H:Hp)(Q:VK)(h:yZ g x y H Q):Ge g x y H Q:=by
 cases x with
 |int i=>
  cases y with
  |int j=>exact⟨i,j,rfl,rfl,h⟩
  |_=>exact h.elim
 |_=>exact h.elim
def Vp:R2:=λx y H Q=>match x,y with
 | .int i,.int j=>Q (.int (i+j)) H
 | .str i,.str j=>i.length+j.length<=sizeLine/\Q (.str (i++j)) H
 |_,_=>False
def Qs:ş X (binaryOp .Add) Vp:=ş.wk (Px.or uD) λx y H Q h=>by
 cases x with
 |int i=>
  cases y with
  |int j=>exact .inl ⟨i,j,rfl,rfl,h⟩
  |_=>exact h.elim
 |str i=>
  cases y with
  |str j=>exact .inr ⟨i,j,rfl,rfl,h.1,h.2⟩
  |_=>exact h.elim
 |_=>exact h.elim
def Qt:ş X (binaryOp .Sub) (yZ λi j=>.int (i-j)):=ş.wk Py jP
def ni(i j:Int):Prop:=Pu i j\/(Builtin.Int.intBits i<=1048576/\Builtin.Int.intBits j<=1048576)
theorem ni.ok{i j:Int}(h:ni i j):IntMulOk i j:=by
 rcases h with h|⟨h1,h2⟩
 ·exact h.ok
 ·exact IntMulOk.of_le h1 h2 (by decide)
def Qu:ş X (binaryOp .Mult) (mI ni λi j=>.int (i*j)):=ş.wk (wK (C:=ni) (g:=λi j=>i*j) λ_ _ _ _ _ _ _ hc q=>mul_int q hc.ok) m_
def za(_ j:Int):Prop:=j≠0/\Builtin.Int.intBits j<=8000
def za.py{i j:Int}(h:za i j):Builtin.divisionGoesByPylong i j=false:=by
 refine PyProof.noPylong_of_log2 ?_
 have hb:=intBits_le_iff.mp h.2
 have h0:j.natAbs≠0:=by have:=h.1;omega
 exact Nat.lt_of_lt_of_le ((Nat.log2_lt h0).mpr hb) (by decide)
def Gv:ş X (binaryOp .FloorDiv) (mI za λi j=>.int (i.fdiv j)):=ş.wk (wK (C:=za) (g:=λi j=>i.fdiv j) λ_ _ _ _ _ _ _ hc q=>floordiv_int hc.1 q (.inl hc.py)) m_
def Qv:ş X (binaryOp .Mod) (mI (λ_ j=>j≠0) λi j=>.int (i.fmod j)):=ş.wk Gf m_
def pC:ş X (binaryOp .Pow) (mI yO λi j=>.int (i ^ j.toNat)):=ş.wk Pz m_
def jQ:ş X (compareOp .Lt) (yZ λi j=>.bl (decide (i<j))):=ş.wk Vd jP
def jR:ş X (compareOp .LtE) (yZ λi j=>.bl (decide (i<=j))):=ş.wk Ve jP
def Je:ş X (compareOp .Gt) (yZ λi j=>.bl (decide (j<i))):=ş.wk Vf jP
def mU(g:Int->V):V->Hp->VK->Prop:=λx H Q=>match x with
 | .int i=>Q (g i) H
 |_=>False
def fO:Gd X (unaryOp .USub) (mU λi=>.int (-i)):=Gd.wk PN λx H Q h=>by
 cases x with
 |int i=>exact⟨i,rfl,h⟩
 |_=>exact h.elim
def mAbs:List V->Hp->VK->Prop:=λxs H Q=>match xs with
 | [.int i]=>Q (.int (if i<0 then -i else i)) H
 |_=>False
def A_:Ń X (.builtin "abs") mAbs:=Ń.wk Ak λxs H Q h=>by
 unfold mAbs at h
 split at h
 ·exact⟨_,rfl,h⟩
 ·exact h.elim
def Ba:List V->Hp->VK->Prop:=λxs H Q=>match xs with
 | [.int i,.int j]=>Q (.int (if j<i then j else i)) H
 |_=>False
def jG(hc:X.calm=true):Ń X (.builtin "min") Ba:=Ń.wk (yQ hc) λxs H Q h=>by
 unfold Ba at h
 split at h
 ·exact⟨_,_,rfl,h⟩
 ·exact h.elim
def Bb:List V->Hp->VK->Prop:=λxs H Q=>match xs with
 | [.int i,.int j]=>Q (.int (if j>i then j else i)) H
 |_=>False
def Gw(hc:X.calm=true):Ń X (.builtin "max") Bb:=Ń.wk (yP hc) λxs H Q h=>by
 unfold Bb at h
 split at h
 ·exact⟨_,_,rfl,h⟩
 ·exact h.elim
def Qw(K:PySem.W.Frag):List V->Hp->VK->Prop:=λxs H Q=>match xs with
 | [.str y]=>y.length<=sizeLine/\Q (.int (y.length:Int)) H
 | [.ref p]=>∃ys,(Ũ K H p ys\/cL K H p ys)/\Q (.int (ys.length:Int)) H
 |_=>False
def pD:Ń X (.builtin "len") (Qw X.K):=Ń.wk Al λxs H Q h=>by
 unfold Qw at h
 split at h
 ·exact⟨_,_,rfl,⟨h.1,rfl⟩,h.2⟩
 ·obtain⟨ys,h1,h2⟩:=h
  refine⟨_,ys.length,rfl,?_,h2⟩
  rcases h1 with h1|h1
  ·exact .inl ⟨ys,h1,rfl⟩
  ·exact .inr ⟨ys,h1,rfl⟩
 ·exact h.elim
def mIx(K:PySem.W.Frag):R2:=λx y H Q=>match x,y with
 | .ref p,.int i=>∃xs v,(Ũ K H p xs\/cL K H p xs)/\oZ xs i=some v/\Q v H
 | .str z,.int i=>∃c,z.length<=sizeLine/\oZ z.cps.toList i=some c/\Q (.str ⟨#[c]⟩) H
 |_,_=>False
def Vq:uL X (mIx X.K):=uL.wk Ql λx y H Q h=>by
 cases x with
 |ref p=>
  cases y with
  |int i=>
   obtain⟨xs,v,h1,h2,h3⟩:=h
   rcases h1 with h1|h1
   ·exact .inl ⟨p,xs,i,v,rfl,rfl,h1,h2,h3⟩
   ·exact .inr (.inl ⟨p,xs,i,v,rfl,rfl,h1,h2,h3⟩)
  |_=>exact h.elim
 |str z=>
  cases y with
  |int i=>
   obtain⟨c,h1,h2,h3⟩:=h
   exact .inr (.inr ⟨z,i,c,rfl,rfl,h1,h2,h3⟩)
  |_=>exact h.elim
 |_=>exact h.elim
def iOf(x:V)(k:Int->Prop):Prop:=match x with
 | .int i=>k i
 |_=>False
def Vr(t:TE):TO:=λσ H Q=>t σ H λx H1=>iOf x λi=>Q (some i) H1
def Bc(h:PE X e te):PO X (some e) (Vr te):=by
 intro pins s σ H Q I hw
 rw[evalPart_some]
 refine Ň (h pins s σ H _ I hw) λu s1 ⟨x,H1,I1,r1,q1⟩=>?_
 cases x with
 |int i=>
  obtain⟨t,rfl⟩:=r1
  exact⟨some i,H1,I1,.int i t,q1⟩
 |_=>exact q1.elim
def ZaQ(K:PySem.W.Frag):V->Option Int->Option Int->Hp->VK->Prop:=λx lo hi H Q=>match x with
 | .ref a=>∃xs,Ũ K H a xs/\∀p,H p=none->Q (.ref p) (upd H p (.lst (rD xs lo hi)))
 |_=>False
def Bd:wL X (ZaQ X.K):=wL.wk Gn λx lo hi H Q h=>by
 cases x with
 |ref a=>
  obtain⟨xs,h1,h2⟩:=h
  exact⟨a,xs,rfl,h1,h2⟩
 |_=>exact h.elim
end
end M2
namespace M2
open PySem PySem.Spec PyProof.Rows L2
section
variable{X:Cx}{tg:Expr}
end
mutual
def Rp(K:PySem.W.Frag)(H:Hp):PyData->V->Prop
 | .none,v=>v=.non
 | .bool b,v=>v=.bl b
 | .int i,v=>v=.int i
 | .str x,v=>v=.str x
 | .tuple ds,v=>∃a xs,v=.ref a/\cL K H a xs/\iB K H ds xs
 | .list ds,v=>∃a xs,v=.ref a/\Ũ K H a xs/\iB K H ds xs
 | .dict _,_=>False
def iB(K:PySem.W.Frag)(H:Hp):List PyData->List V->Prop
 | [],xs=>xs=[]
 |d::ds,xs=>∃x r,xs=x::r/\Rp K H d x/\iB K H ds r
end
def Same.tup{K:PySem.W.Frag}{H H':Hp}{a:Addr}{xs:List V}(e:Same H H')(h:cL K H a xs):cL K H' a xs:=by
 rcases h with(h|⟨o,h⟩)|h
 ·exact .inl (.inl (e _ _ h))
 ·exact .inl (.inr ⟨o,e _ _ h⟩)
 ·exact .inr h
theorem Same.upd{H:Hp}{p:Addr}{o:HO}(h:H p=none):Same H (upd H p o):=λb u e=>by
 rw[Ě (ı e h)]
 exact e
mutual
theorem Rp.same{K:PySem.W.Frag}{H H':Hp}(e:Same H H'):∀(d:PyData) (v:V),Rp K H d v->Rp K H' d v
 | .none,_,h=>by unfold Rp at h ⊢;exact h
 | .bool _,_,h=>by unfold Rp at h ⊢;exact h
 | .int _,_,h=>by unfold Rp at h ⊢;exact h
 | .str _,_,h=>by unfold Rp at h ⊢;exact h
 | .tuple ds,_,h=>by
   unfold Rp at h ⊢
   obtain⟨a,xs,h1,h2,h3⟩:=h
   exact⟨a,xs,h1,Same.tup e h2,iB.same e ds xs h3⟩
 | .list ds,_,h=>by
   unfold Rp at h ⊢
   obtain⟨a,xs,h1,h2,h3⟩:=h
   exact⟨a,xs,h1,e.seq h2,iB.same e ds xs h3⟩
 | .dict _,_,h=>by unfold Rp at h;exact h.elim
theorem iB.same{K:PySem.W.Frag}{H H':Hp}(e:Same H H'):∀(ds:List PyData) (xs:List V),iB K H ds xs->iB K H' ds xs
 | [],_,h=>by unfold iB at h ⊢;exact h
 |d::ds,_,h=>by
  unfold iB at h ⊢
  obtain⟨x,r,h1,h2,h3⟩:=h
  exact⟨x,r,h1,Rp.same e d x h2,iB.same e ds r h3⟩
end
section
variable{X:Cx}{pins:List (Addr×Obj)}{σ:L2.St}{H:Hp}{s:Shared}
mutual
theorem Rp.reads(I:Inv X pins σ H s):∀(d:PyData) (v:V) (u:Value),Rp X.K H d v->RelV v u->∃as,Reads s.heap u d as
 | .none,v,u,h,r=>by
   unfold Rp at h;subst h;cases r;exact⟨_,.none⟩
 | .bool b,v,u,h,r=>by
   unfold Rp at h;subst h;cases r;exact⟨_,.bool b⟩
 | .int i,v,u,h,r=>by
   unfold Rp at h;subst h;obtain⟨t,rfl⟩:=r;exact⟨_,.int i t⟩
 | .str x,v,u,h,r=>by
   unfold Rp at h;subst h;obtain⟨t,rfl⟩:=r;exact⟨_,.str x t⟩
 | .tuple ds,v,u,h,r=>by
   unfold Rp at h
   obtain⟨a,xs,h1,h2,h3⟩:=h
   subst h1
   cases r
   obtain⟨its,rv,⟨o,e,hc,n,hd⟩,hz⟩:=I.tuple h2
   obtain⟨as,ra⟩:=iB.reads I ds xs its h3 rv
   exact⟨_,.tuple e hc hd (by simpa using ra)⟩
 | .list ds,v,u,h,r=>by
   unfold Rp at h
   obtain⟨a,xs,h1,h2,h3⟩:=h
   subst h1
   cases r
   obtain⟨its,rv,⟨o,n,e,hc,hdd,hd⟩,hz⟩:=I.list h2
   obtain⟨as,ra⟩:=iB.reads I ds xs its h3 rv
   exact⟨_,.list e hc hd (by simpa using ra)⟩
 | .dict _,_,_,h,_=>by unfold Rp at h;exact h.elim
theorem iB.reads(I:Inv X pins σ H s):∀(ds:List PyData) (xs:List V) (us:List Value),iB X.K H ds xs->Vals xs us->∃as,ReadsAll s.heap us ds as
 | [],xs,us,h,r=>by
   unfold iB at h;subst h;cases r;exact⟨_,.nil⟩
 |d::ds,xs,us,h,r=>by
  unfold iB at h
  obtain⟨x,q,h1,h2,h3⟩:=h
  subst h1
  cases r with
  |cons r1 r2=>
   obtain⟨as,ra⟩:=Rp.reads I d x _ h2 r1
   obtain⟨bs,rb⟩:=iB.reads I ds q _ h3 r2
   exact⟨_,.cons ra rb⟩
end
end
def Gx(K:PySem.W.Frag)(neg:Bool):R2:=λx y H Q=>∃d e,Rp K H d x/\Rp K H e y/\d.canLay0=true/\e.canLay0=true/\min d.depth e.depth<=60/\Q (.bl (if neg then !PyData.eqv d e else PyData.eqv d e)) H
section
variable{X:Cx}
def Bf(hu:X.A.units+64<cLine):ş X (compareOp .Eq) (Gx X.K false):=by
 intro pins s σ H x y v u Q I rx ry h
 obtain⟨d,e,h1,h2,h3,h4,h5,q⟩:=h
 obtain⟨as,ra⟩:=Rp.reads I d x v h1 rx
 obtain⟨bs,rb⟩:=Rp.reads I e y u h2 ry
 exact SeqAt.compareEq_reads ra rb h3 h4 (by omega) ⟨.bl _,H,I,rfl,q⟩
def Bg(hu:X.A.units+64<cLine):ş X (compareOp .NotEq) (Gx X.K true):=by
 intro pins s σ H x y v u Q I rx ry h
 obtain⟨d,e,h1,h2,h3,h4,h5,q⟩:=h
 obtain⟨as,ra⟩:=Rp.reads I d x v h1 rx
 obtain⟨bs,rb⟩:=Rp.reads I e y u h2 ry
 exact SeqAt.compareNe_reads ra rb h3 h4 (by omega) ⟨.bl _,H,I,rfl,q⟩
end
section
variable{K:PySem.W.Frag}
end
end M2
namespace M3
open PySem PySem.Spec PyProof.Rows L2 M2
def wR{P:Program}{w:World}{H:Hp}{h h':Heap}{C:Addr}(x:cQ P w H h)(hC:H C=none)(k:∀b u,b≠C->h.get? b=some u->h'.get? b=some u):cQ P w H h':=λa o e=>
 (x a o e).stay (fun b u hb q=>k b u (by
   rcases hb with hb|hb
   ·rw[hb];exact ı e hC
   ·exact ı hb hC) q) (λ_ q=>q) λ_ _ q=>q
theorem fP{env:Env}:∀(ns:List (Str×NameKind)) (cs:List (Str×Addr)),(∀y∈ns,y.2=.free->∃c,env.cells.lookup y.1=some c)->(∀x c,cs.lookup x=some c->env.cells.lookup x=some c)->
 ∃cl,(forIn ns cs (λ(x:Str×NameKind) r=>if(x.2== .free)=true then(do let c <-cellOf env x.1;pure (ForInStep.yield ((x.1,c)::r))) else pure (ForInStep.yield r)):Sem (List (Str×Addr)))=pure cl/\
  (∀x c,cl.lookup x=some c->env.cells.lookup x=some c)/\(∀x,(∃c,cs.lookup x=some c)->∃c,cl.lookup x=some c)/\∀y∈ns,y.2=.free->∃c,cl.lookup y.1=some c
 | [],cs,_,h2=>⟨cs,rfl,h2,λ_ z=>z,λ_ z=>nomatch z⟩
 |(n,k)::ns,cs,h1,h2=>by
  by_cases hk:k=.free
  ·subst hk
   obtain⟨c,hc⟩:=h1 (n,.free) List.mem_cons_self rfl
   have e:cellOf env n=pure c:=by unfold cellOf;rw[hc]
   have h2':∀x d,((n,c)::cs).lookup x=some d->env.cells.lookup x=some d:=λx d q=>by
    rw[List.lookup_cons] at q
    cases hx:x== n with
    |true=>
     rw[hx] at q
     have:x=n:=eq_of_beq hx
     subst this
     cases q
     exact hc
    |false=>
     rw[hx] at q
     exact h2 x d q
   obtain⟨cl,q1,q2,q3,q4⟩:=fP ns ((n,c)::cs) (λy hy=>h1 y (List.mem_cons_of_mem _ hy)) h2'
   refine⟨cl,?_,q2,λx ⟨d,hd⟩=>q3 x ?_,λy hy hf=>?_⟩
   ·rw[List.forIn_cons]
    simp only[beq_self_eq_true,if_true,e,pure_bind]
    exact q1
   ·rw[List.lookup_cons]
    cases hx:x== n with
    |true=>exact⟨c,rfl⟩
    |false=>exact⟨d,hd⟩
   ·rcases List.mem_cons.mp hy with rfl|hy
    ·exact q3 n ⟨c,by rw[List.lookup_cons,beq_self_eq_true]⟩
    ·exact q4 y hy hf
  ·have hb:(k== NameKind.free)=false:=by simpa using hk
   obtain⟨cl,q1,q2,q3,q4⟩:=fP ns cs (λy hy=>h1 y (List.mem_cons_of_mem _ hy)) h2
   refine⟨cl,?_,q2,q3,λy hy hf=>?_⟩
   ·rw[List.forIn_cons]
    simp only[hb,Bool.false_eq_true,if_false,pure_bind]
    exact q1
   ·rcases List.mem_cons.mp hy with rfl|hy
    ·exact absurd hf hk
    ·exact q4 y hy hf
def gw{scope:Scope}{env:Env}(h:∀y∈scope.names,y.2=.free->∃c,env.cells.lookup y.1=some c) :
 ∃cl,closureFor scope env=pure cl/\(∀x c,cl.lookup x=some c->env.cells.lookup x=some c)/\∀y∈scope.names,y.2=.free->∃c,cl.lookup y.1=some c:=by
 obtain⟨cl,q1,q2,_,q4⟩:=fP (env:=env) scope.names [] h (λx c z=>by simp at z)
 refine⟨cl,?_,q2,q4⟩
 unfold closureFor
 have e:(forIn scope.names [] (λ(x:Str×NameKind) (r:List (Str×Addr))=>match x with
  |(name,kind)=>if(kind== .free)=true then(do let a <-cellOf env name;pure (ForInStep.yield ((name,a)::r))) else pure (ForInStep.yield r)):Sem (List (Str×Addr)))=pure cl:=q1
 first
  |(simp only[bind_pure];exact q1)
  |(rw[show ∀(t:Sem (List (Str×Addr))),(do let r <-t;pure r)=t from λt=>by simp];exact q1)
  |(simp only[q1,pure_bind])
def aU(X:Cx)(N':List Str)(scope:Scope)(cl:List (Str×Addr))(C:Addr)(s:Shared)(H:Hp)(fp:List Addr):Cx where
 prog:=X.prog
 w:=X.w
 K:=X.K
 mg:=X.mg
 base:=X.base
 A:=X.A
 N:=N'
 s₀:= s
 H₀:= H
 env:=compEnvC scope cl C X.env
 outer:=X.stack
 stack:=X.stack
 ex:=fp
 fn:=λx=>scope.names.lookup x== some .cell
 calm:=X.calm
 pn:=[]
 xe:=λ_ _=>False
def gA(X:Cx)(sc scope:Scope):List Str->List Nat->Prop
 |x::xs,j::js=>X.N[j]?=some x/\(scope.names.lookup x=some .free/\(sc.names.lookup x=some .cell\/sc.names.lookup x=some .free))/\gA X sc scope xs js
 |_,[]=>True
 | [],_::_=>False
def cV(js:List Nat)(nl:Nat)(σ:L2.St):L2.St:=js.map (λj:Nat=>(σ[j]?).getD none)++List.replicate nl none
theorem nj{X:Cx}{sc scope:Scope}{σ:L2.St}{nl:Nat}:∀{N':List Str} {js:List Nat} {i:Nat} {x:Str} {v:V},gA X sc scope N' js->N'[i]?=some x->(cV js nl σ)[i]?=some (some v)->
 ∃j:Nat,X.N[j]?=some x/\σ[j]?=some (some v)/\scope.names.lookup x=some .free/\(sc.names.lookup x=some .cell\/sc.names.lookup x=some .free)
 |N',[],i,x,v,_,_,h=>by
  unfold cV at h
  rw[List.map_nil,List.nil_append,List.getElem?_replicate] at h
  split at h<;>cases h
 | [],_::_,_,_,_,c,_,_=>c.elim
 |y::N',j::js,0,x,v,c,h1,h2=>by
  obtain⟨c1,c2,_⟩:=c
  simp at h1
  subst h1
  have e:(σ[j]?).getD none=some v:=by simpa[cV] using h2
  refine⟨j,c1,?_,c2⟩
  cases q:σ[j]? with
  |none=>rw[q] at e;cases e
  |some o=>rw[q] at e;exact congrArg some e
 |y::N',j::js,i+1,x,v,c,h1,h2=>by
  exact nj (N':=N') (js:=js) (i:=i) c.2.2 (by simpa using h1) (by simpa[cV] using h2)
section
variable{prog:Program}{w:World}{A:Around}{R:Result->Shared->Prop}{s:Shared}
def gB{elt target iter:Expr}{ifs:List Expr}{scope:Scope}{pos:Pos}{it acc:Value}{env:Env}(I:Nat->Shared->Prop)
 (turn:∀n s,I n s→wpAny (model prog w) A (pyNext it) (fun r s₁=>match r with
   |none=>R (.ok .next) s₁
   |some v=>wpAny (model prog w) A (letOwnedTupleGo target it v) (fun _ s₁'=>wpAny (model prog w) A (assign target env v) (fun _ s₂=>
     wpAny (model prog w) A (forIn ifs true λc r=>if r=true then do let ok <-isTrue c env (eval c env);pure (ForInStep.yield ok) else pure (ForInStep.yield r)) (λok s₃=>
      if ok=true then wpAny (model prog w) A (eval elt env) (λx s₄=>
       wpAny (model prog w) A (call (.builtin "list.append") [acc,x]) (λ_ s₅=>∃m,m<n/\I m s₅) (λ_ _=>False) s₄) (λ_ _=>False) s₃
      else ∃m,m<n/\I m s₃) (λ_ _=>False) s₂) (λ_ _=>False) s₁') (λ_ _=>False) s₁) (λ_ _=>False) s)
 (n:Nat)(h:I n s) :
 codeAny (model prog w) A (.compLoop (.ListComp elt [⟨target,iter,ifs,0⟩] scope pos) 0 it acc env) R s:=by
 refine codeAny_loop rfl I (λn s hI=>?_) n h
 show wpAny _ A ((compTurn (.ListComp elt [⟨target,iter,ifs,0⟩] scope pos) 0 it acc env).onRaise (λx=>do noteFrame x env;theTreesLotGoes x)) _ _ s
 refine wpAny_noted (wpAny_noRaise ?_)
 rw[compTurn_list]
 refine wpAny_bind (wpAny_standAt (wpAny_bind (wpAny_mono (turn n s hI) (λr s₁ h₁=>?_) λ_ _ h'=>h')))
 cases r with
 |none=>exact wpAny_pure h₁
 |some v=>
  refine wpAny_bind (wpAny_mono h₁ (λ_ s₁' h₁'=>?_) λ_ _ h'=>h')
  refine wpAny_bind (wpAny_mono h₁' (λ_ s₂ h₂=>wpAny_bind (wpAny_mono h₂ (λok s₃ h₃=>?_) λ_ _ h'=>h')) λ_ _ h'=>h')
  cases ok with
  |false=>exact wpAny_pure ⟨rfl,h₃⟩
  |true=>
   exact wpAny_bind (wpAny_bind (wpAny_mono h₃ (λx s₄ h₄=>wpAny_bind (wpAny_mono h₄ (λ_ s₅ h₅=>wpAny_pure (wpAny_pure ⟨rfl,h₅⟩)) λ_ _ h'=>h')) λ_ _ h'=>h'))
end
def Fp(X:Cx)(ifs:List Expr)(t:TT):Prop:=
 ∀(pins:List (Addr×Obj)) (s:Shared) (σ:L2.St) (H:Hp) (Q:Bool->Hp->Prop),Inv X pins σ H s->t σ H Q->
  wpAny (model X.prog X.w) X.A (forIn ifs true λc r=>if r=true then do let ok <-isTrue c X.env (eval c X.env);pure (ForInStep.yield ok) else pure (ForInStep.yield r)) (TP X pins σ Q) X.xe s
def ZaR:TT:=λ_ H Q=>Q true H
def Gy{X:Cx}:Fp X [] ZaR:=λ_ _ _ H _ I h=>wpAny_tests_nil ⟨H,I,h⟩
def Bh(js:List Nat)(nl:Nat)(wi:TI)(g:TG)(tt:TT)(te:TE):TE:=λσ H Q=>wi σ H λJ H1=>∀D,H1 D=none->
 ∃W:Nat->Nat->L2.St->Hp->Prop,(∃m,W 0 m (cV js nl σ) (upd H1 D (.lst [])))/\∀i m σ' H',W i m σ' H'->
  (J.stop i H'∧Q (.ref D) H')∨(J.go i H'∧∃N:L2.St→Hp→Prop,(∀σ2 H2,N σ2 H2→∃m',m'<m∧W (i+1) m' σ2 H2)∧∀x H2,J.Yr i H' x H2→g x σ' H2 fun σ2 H3=>tt σ2 H3 fun c H4=>
    if c=true then te σ2 H4 λy H5=>∃ys,H5 D=some (.lst ys)/\ys.length<sizeLine/\N σ2 (upd H5 D (.lst (ys ++ [y]))) else N σ2 H4)
section
variable{X:Cx}{elt tg iter:Expr}{ifs:List Expr}{scope:Scope}{pos:Pos}{wi:TI}{g:TG}{tt:TT}{te:TE}
theorem bK{env:Env}:∀{names:List (Str×NameKind)} {x:Str} {k:NameKind},(k=.cell\/k=.free)->
 (names.map λ(n,k)=>if(k== NameKind.free && env.scope.kind== .function && env.kindOf n== some .cell) then(n,NameKind.cell) else(n,k)).lookup x=some k->(x,NameKind.free)∈names\/(x,NameKind.cell)∈names
 | [],x,k,_,h=>by simp at h
 |(n,q)::r,x,k,hk,h=>by
  have ih:=@bK env r x k hk
  rw[List.map_cons] at h
  by_cases hx:x=n
  ·subst hx
   by_cases hf:q=.free
   ·subst hf
    exact .inl List.mem_cons_self
   ·have hb:(q== NameKind.free)=false:=by simpa using hf
    have e:(if(q== NameKind.free && env.scope.kind== .function && env.kindOf x== some .cell)=true then(x,NameKind.cell) else(x,q))=(x,q):=by
     rw[hb];rfl
    have h2:=h
    simp only[e,List.lookup_cons,beq_self_eq_true] at h2
    have:q=k:=Option.some.inj h2
    rcases hk with hk|hk
    ·rw[this,hk]
     exact .inr List.mem_cons_self
    ·exact absurd (this.trans hk) hf
  ·have hn:(x== n)=false:=by simpa using hx
   have h3:(x,NameKind.free)∈r\/(x,NameKind.cell)∈r:=ih (by
    by_cases c:(q== NameKind.free && env.scope.kind== .function && env.kindOf n== some .cell)=true
    ·simp only[c,if_true,List.lookup_cons,hn] at h
     exact h
    ·simp only[c,if_false,Bool.false_eq_true,List.lookup_cons,hn] at h
     exact h)
   rcases h3 with h3|h3
   ·exact .inl (List.mem_cons_of_mem _ h3)
   ·exact .inr (List.mem_cons_of_mem _ h3)
theorem ő:∀(names:List (Str×NameKind)) (n:Nat) (acc:List (Str×Addr)),cellsFrom n names acc=cellsFrom n names []++acc
 | [],_,_=>rfl
 |(x,k)::r,n,acc=>by
  unfold cellsFrom
  split
  ·rw[ő r (n+1) ((x,n)::acc),ő r (n+1) [(x,n)],List.append_assoc]
   rfl
  ·exact ő r n acc
theorem bM:∀(names:List (Str×NameKind)) (n:Nat) {x:Str} {c:Addr},(x,c)∈cellsFrom n names []->(x,NameKind.cell)∈names
 | [],_,_,_,h=>by simp[cellsFrom] at h
 |(y,k)::r,n,x,c,h=>by
  unfold cellsFrom at h
  split at h
  ·rename_i hk
   rw[ő r (n+1) [(y,n)]] at h
   rcases List.mem_append.mp h with h|h
   ·exact List.mem_cons_of_mem _ (bM r _ h)
   ·have e:(x,c)=(y,n):=by simpa using h
    cases e
    rw[beq_iff_eq.mp hk]
    exact List.mem_cons_self
  ·exact List.mem_cons_of_mem _ (bM r _ h)
structure Blk(X:Cx)(scope:Scope)(n:Nat)(h:Heap)(cl:List (Str×Addr)):Prop where
 at_:∀x c,cl.lookup x=some c->(X.env.cells.lookup x=some c/\scope.names.lookup x≠some .cell)\/(n<c/\h.IsCell c none/\scope.names.lookup x=some .cell)
 inj:∀x y c,cl.lookup x=some c->cl.lookup y=some c->n<c->x=y
 has:∀x,((x,NameKind.free)∈scope.names\/(x,NameKind.cell)∈scope.names)->∃c,cl.lookup x=some c
def Bj{X:Cx}{scope:Scope}{n:Nat}{h:Heap}{cl:List (Str×Addr)}(hcell:∀y∈scope.names,y.2=.cell->scope.names.lookup y.1=some .cell)
 (h1:∀x c,cl.lookup x=some c->X.env.cells.lookup x=some c)(h2:∀y∈scope.names,y.2=.free->∃c,cl.lookup y.1=some c)(hlt:∀x c,X.env.cells.lookup x=some c->c<n)
 (ok:CellsOk h (n+1) (cellsFrom (n+1) scope.names [])):Blk X scope n h (cellsFrom (n+1) scope.names cl):=by
 have sp:∀x c,(cellsFrom (n+1) scope.names cl).lookup x=some c->(cl.lookup x=some c/\(cellsFrom (n+1) scope.names []).lookup x=none)\/(cellsFrom (n+1) scope.names []).lookup x=some c:=λx c e=>by
  rw[ő,List.lookup_append] at e
  cases q:(cellsFrom (n+1) scope.names []).lookup x with
  |none=>rw[q] at e;exact .inl ⟨by simpa using e,rfl⟩
  |some d=>rw[q] at e;exact .inr (by simpa using e)
 refine⟨λx c e=>?_,λx y c e1 e2 hc=>?_,λx hx=>?_⟩
 ·rcases sp x c e with⟨e,q⟩|e
  ·refine .inl ⟨h1 x c e,λz=>?_⟩
   obtain⟨d,hd⟩:=gn (sc:=scope) (n:=n+1) z
   rw[hd] at q
   cases q
  ·have m:=mem_of_lookup e
   exact .inr ⟨(ok.empty x c m).2,(ok.empty x c m).1,hcell _ (bM _ _ m) rfl⟩
 ·have nw:∀z,(cellsFrom (n+1) scope.names cl).lookup z=some c→(cellsFrom (n+1) scope.names []).lookup z=some c:=fun z e=>by
   rcases sp z c e with⟨e,q⟩|e
   ·exact absurd (hlt z c (h1 z c e)) (Nat.lt_asymm hc)
   ·exact e
  exact name_of_addr ok.apart (mem_of_lookup (nw x e1)) (mem_of_lookup (nw y e2))
 ·rw[ő,List.lookup_append]
  rcases hx with hx|hx
  ·obtain⟨c,hc⟩:=h2 _ hx rfl
   cases q:(cellsFrom (n+1) scope.names []).lookup x with
   |none=>exact⟨c,by simpa using hc⟩
   |some d=>exact⟨d,rfl⟩
  ·obtain⟨d,hd⟩:=gn (sc:=scope) (n:=n+1) (hcell _ hx rfl)
   rw[hd]
   exact⟨d,rfl⟩
def eX{M:Model}{A:Around}{E:Value->Shared->Prop}{s:Shared}{scope:Scope}{globals:Addr}{closure:List (Str×Addr)}{qual:Str}
 {func:Option Addr}{code:Value}{env0:Env}{builtins:Addr}{Q:Env->Shared->Prop}
 (hQ:∀h',h'.Ns s.heap.objs.size (fun _=>none)→(∀b o,s.heap.get? b=some o→h'.get? b=some o)→CellsOk h' (s.heap.objs.size+1) (cellsFrom (s.heap.objs.size+1) scope.names [])→
   Q (newEnv scope s.heap.objs.size globals (cellsFrom (s.heap.objs.size+1) scope.names closure) qual func code (some env0) builtins) {s with heap:=h'}) :
 wpAny M A (newFunctionEnv scope globals closure [] qual func code (some env0) builtins) Q E s:=by
 simp only[newFunctionEnv,Option.isSome_some,if_true]
 refine wpAny_bind (wpAny_alloc ?_)
 refine wpAny_bind (wpAny_layCells _ (λname kind cells=>by cases hkc:kind== NameKind.cell<;>simp[hkc]) _ _ _ _ ?_)
 have ok:=cellsFrom_ok scope.names (s.heap.push {cls:=.type "dict",data:=.dict #[]}) (s.heap.objs.size+1) [] ⟨λ_ _ hm=>(nomatch hm),List.Pairwise.nil⟩ (by rw[Heap.size_push];exact Nat.le_refl _)
 rw[Heap.size_push] at ok
 rw[show({s with heap:=s.heap.push {cls:=.type "dict",data:=.dict #[]}}:Shared).heap.objs.size=s.heap.objs.size+1 from Heap.size_push ..]
 refine wpAny_bind ?_
 rw[List.forIn_nil]
 exact wpAny_pure (wpAny_pure (hQ _ ((Heap.Ns.new s.heap (.type "dict")).keeps (pushCells_keeps _ _)) (λb o e=>pushCells_keeps _ _ b o (Heap.get?_push_of_some _ e)) ok))
theorem gC{env:Env}:∀{names:List (Str×NameKind)} {x:Str},names.lookup x=some .free->
 ¬(names.map λ(n,k)=>if(k== NameKind.free && env.scope.kind== .function && env.kindOf n== some .cell) then(n,NameKind.cell) else(n,k)).lookup x=some .local
 | [],x,h=>by simp at h
 |(n,q)::r,x,h=>by
  intro h2
  rw[List.map_cons] at h2
  rw[List.lookup_cons] at h
  cases hx:x== n with
  |true=>
   rw[hx] at h
   cases h
   by_cases c:(NameKind.free== NameKind.free && env.scope.kind== .function && env.kindOf n== some .cell)=true
   ·simp only[c,if_true,List.lookup_cons,hx] at h2
    cases h2
   ·simp only[c,if_false,Bool.false_eq_true,List.lookup_cons,hx] at h2
    cases h2
  |false=>
   rw[hx] at h
   have ih:=gC (env:=env) h
   by_cases c:(q== NameKind.free && env.scope.kind== .function && env.kindOf n== some .cell)=true
   ·simp only[c,if_true,List.lookup_cons,hx] at h2
    exact ih h2
   ·simp only[c,if_false,Bool.false_eq_true,List.lookup_cons,hx] at h2
    exact ih h2
def nq{pins:List (Addr×Obj)}{σ:L2.St}{H:Hp}{s:Shared}{N':List Str}{js:List Nat}{nl:Nat}{sc:Scope}{cl:List (Str×Addr)}{fp:List Addr}{h':Heap}{tk:Nat}
 (hsc:X.env.scope=sc)(hk:scope.kind=.function)(hcap:gA X sc scope N' js)(hlen:js.length+nl=N'.length)(B:Blk X scope s.heap.objs.size h' cl)
 (I:Inv X pins σ H s)(hf:∀b∈fp,eN X pins H b)(hlt:∀b∈fp,b<s.heap.objs.size)
 (hn:h'.Ns s.heap.objs.size (λ_=>none))(kp:∀b o,s.heap.get? b=some o->h'.get? b=some o) :
 Inv (aU X N' scope cl s.heap.objs.size s H fp) [] (cV js nl σ) H {s with heap:=h',toks:=tk}:=by
 have Bk:∀x,((aU X N' scope cl s.heap.objs.size s H fp).env.kindOf x=some .cell\/(aU X N' scope cl s.heap.objs.size s H fp).env.kindOf x=some .free)->∃c,cl.lookup x=some c:=λx hx=>by
  rcases hx with hx|hx
  ·exact B.has x (bK (.inl rfl) hx)
  ·exact B.has x (bK (.inr rfl) hx)
 have lt:∀x c,X.env.cells.lookup x=some c->c<s.heap.objs.size:=λx c e=>by
  obtain⟨v,o,ho,_⟩:=I.cell x c e
  exact Heap.lt_size ho
 have inj:∀x y c,cl.lookup x=some c->cl.lookup y=some c->x=y:=λx y c e1 e2=>by
  rcases B.at_ x c e1 with⟨q1,_⟩|⟨q1,_⟩
  ·rcases B.at_ y c e2 with⟨q2,_⟩|⟨q2,_⟩
   ·exact I.ok.inj x y c q1 q2
   ·exact absurd (lt x c q1) (Nat.lt_asymm q2)
  ·exact B.inj x y c e1 e2 q1
 refine⟨⟨I.ok.mod,hk,I.ok.glob,I.ok.blt,Nat.le_refl _,inj,Bk,λx c z e=>by
  rcases B.at_ x c e with⟨_,q⟩|⟨q,_⟩
  ·exact absurd (beq_iff_eq.mp z) q
  ·exact Nat.le_of_lt q,I.ok.hd,I.ok.frames,.inl rfl,λb hb=>⟨Nat.ne_of_lt (hlt b hb),λx c e=>by
  rcases B.at_ x c e with⟨q,_⟩|⟨q,_⟩
  ·exact(hf b hb).2.2.2.2.1 x c q
  ·exact Nat.ne_of_gt (Nat.lt_trans (hlt b hb) q)⟩,
  I.bs,Nat.le_trans I.ok.FN I.sz,fun b o e hb=>?_,fun b hb hz=>?_,I.stack,I.wI,I.tb⟩,rfl,I.bare,Un.kept kp,⟨_,hn,fun i x v e1 e2 e3=>?_⟩,fun x c e=>?_,I.hok.fresh (Nat.le_refl _),fun x c e=>by
    rcases B.at_ x c e with⟨q,_⟩|⟨q,_⟩
    ·exact I.eU x c q
    ·exact I.hok.fresh (Nat.le_of_lt q),λp hp=>?_,I.hok.kept kp,?_⟩
 ·rcases(hf b hb).2.2.2.1 with z|z
  ·exact I.ok.zZ b o e z
  ·exact absurd (Nat.lt_of_lt_of_le (Heap.lt_size e) (Nat.le_trans I.ok.FN z)) (Nat.lt_irrefl _)
 ·rcases List.mem_cons.mp (I.jN b hz) with z|z
  ·exact(hf b hb).2.1 z
  ·exact(hf b hb).2.2.1 z
 ·obtain⟨j,q1,q2,q0,q3⟩:=nj hcap e1 e2
  obtain⟨m,hm,hl⟩:=I.loc
  have ZaS:uf X.env.scope x:=by
   rw[hsc]
   rcases q3 with q3|q3
   ·exact .inr (.inl q3)
   ·exact .inr (.inr q3)
  obtain⟨u,ru,lk⟩:=hl j x v q1 q2 ZaS
  refine⟨u,ru,?_⟩
  rcases lk with⟨k1,_⟩|⟨k1,c,hc,ic⟩
  ·exfalso
   have k1':sc.names.lookup x=some .local:=by rw[<-hsc];exact k1
   rcases q3 with q3|q3<;>(rw[k1'] at q3;cases q3)
  ·have e3':(aU X N' scope cl s.heap.objs.size s H fp).env.kindOf x=some .local\/(aU X N' scope cl s.heap.objs.size s H fp).env.kindOf x=some .cell\/(aU X N' scope cl s.heap.objs.size s H fp).env.kindOf x=some .free:=e3
   rcases e3' with z|z
   ·exact absurd z (gC (env:=X.env) q0)
   ·obtain⟨d,hd⟩:=Bk x z
    have:d=c:=by
     rcases B.at_ x d hd with⟨q,_⟩|⟨_,_,q⟩
     ·rw[hc] at q
      exact(Option.some.inj q).symm
     ·rw[q0] at q
      cases q
    subst this
    exact .inr ⟨z,d,hd,by
     obtain⟨o,ho,hd'⟩:=ic
     exact⟨o,kp _ _ ho,hd'⟩⟩
 ·rcases B.at_ x c e with⟨q,_⟩|⟨_,q,_⟩
  ·obtain⟨v,o,ho,hd⟩:=I.cell x c q
   exact⟨v,o,kp _ _ ho,hd⟩
  ·exact⟨none,q⟩
 ·exact absurd hp (by simp[aU])
 ·show _=N'.length
  rw[<-hlen]
  simp[cV]
def jT{pins:List (Addr×Obj)}{σ σ':L2.St}{H H':Hp}{s s':Shared}{N':List Str}{cl:List (Str×Addr)}{fp:List Addr}{h':Heap}(I:Inv X pins σ H s)(hf:∀b∈fp,eN X pins H b)
 (J:Inv (aU X N' scope cl s.heap.objs.size s H fp) [] σ' H' s')(kp:∀b u,b≠s.heap.objs.size->s'.heap.get? b=some u->h'.get? b=some u):Inv X pins σ H' {s' with heap:=h'}:=by
 have ne:∀{b:Addr} {o:Obj},s.heap.get? b=some o->b≠s.heap.objs.size:=λe=>Nat.ne_of_lt (Heap.lt_size e)
 have u:=J.base
 refine I.call' (ch:=fp) J.os ⟨λb o e n hb hx=>kp b o (ne e) (u.keep b o e n hb hx),λb o e n hb hx=>?_,λb o e n hx=>u.free b o e n hx,λb o e hx=>?_,u.tups,u.mj,u.jl⟩ (wR J.hok J.free kp) J.bare λb hb=>?_
 ·obtain⟨sl,q⟩:=u.slot b o e n hb hx
  exact⟨sl,kp b _ (ne e) q⟩
 ·obtain⟨o',q⟩:=u.there b o e hx
  exact⟨o',kp b _ (ne e) q⟩
 ·exact⟨(hf b hb).2.2.2.1,(hf b hb).2.1,(hf b hb).2.2.2.2.1,(hf b hb).2.2.2.2.2⟩
def Gz(N':List Str)(js:List Nat)(nl:Nat)(sc:Scope)(hsc:X.env.scope=sc)(hcalm:X.calm=true)
 (hi:PI X.Ō tg iter wi)(hg:∀cl C s H fp,PG (aU X.Ō N' scope cl C s H fp) tg g)(ht:∀cl C s H fp,Fp (aU X.Ō N' scope cl C s H fp) ifs tt)(he:∀cl C s H fp,PE (aU X.Ō N' scope cl C s H fp) elt te)
 (hcap:gA X.Ō sc scope N' js)(hlen:js.length+nl=N'.length:=by rfl)
 (hk:scope.kind=.function:=by rfl)(hcell:∀y∈scope.names,y.2=.cell->scope.names.lookup y.1=some .cell:=by decide +kernel)(hnames:∀y∈scope.names,y.2=.local->scope.names.lookup y.1=some .local:=by decide +kernel)
 (hfree:∀y∈scope.names,y.2=.free->(sc.names.lookup y.1=some .cell\/sc.names.lookup y.1=some .free):=by decide +kernel)
 (hs:∀x,foldedSetIterable iter X.env x=pure x:=by intro _;rfl) :
 PE X.Ō (.ListComp elt [⟨tg,iter,ifs,0⟩] scope pos) (Bh js nl wi g tt te):=by
 intro pins s σ H Q I h
 obtain⟨Vs,c1,c2,c3⟩:=gw (scope:=scope) (env:=X.Ō.env) λy hy hf=>I.ok.has y.1 (by
  have:=hfree y hy hf
  rw[<-hsc] at this
  exact this)
 rw[eval_ListComp]
 refine wpAny_comprehension_free (use:=none) rfl hs c1 hk hnames (Ň (hi pins s σ H _ I h) λv s1 h1=>Ň h1 λitv s2 h2=>?_)
 obtain⟨it,fp,tn,J,H2,e,I2,T,st2,f2,q2⟩:=h2
 subst e
 refine wpAny_newObj_type (eX (λh₁ hns₁ old Qx=>?_))
 dsimp only at hns₁ old Qx ⊢
 generalize Qy:s2.heap.push {cls:=.type "list",dict:=none,data:=.seq ([]:List Value).toArray}=aj at hns₁ old Qx ⊢
 have hD:H2 s2.heap.objs.size=none:=I2.hok.fresh (Nat.le_refl _)
 have I3:Inv X.Ō pins σ (upd H2 s2.heap.objs.size (.lst [])) {s2 with heap:=aj}:=by
  rw[<-Qy]
  exact I2.laid (t':=s2.toks) (λb u e=>Heap.get?_push_of_some _ e) (Nat.le_refl _) ⟨Nat.zero_le _,[],0,.nil,Heap.get?_push_size _ rfl⟩
 have GC:∀b∈fp,b<s2.heap.objs.size:=λb hb=>by
  obtain⟨o,ho,_⟩:=T.obj 0 _ st2 b hb
  exact Heap.lt_size ho
 have Qz:aj.objs.size=s2.heap.objs.size+1:=by rw[<-Qy,Heap.size_push]
 have f3:∀b∈fp,eN X.Ō pins (upd H2 s2.heap.objs.size (.lst [])) b:=λb hb=>by
  obtain⟨g0,g1⟩:=f2 b hb
  exact⟨by rw[Ě (Nat.ne_of_lt (GC b hb))];exact g0,g1⟩
 have B:=Bj (X:=X.Ō) (cl:=Vs) hcell c2 c3 (λx c e=>by
  obtain⟨v,o,ho,_⟩:=I3.cell x c e
  exact Heap.lt_size ho) Qx
 generalize cellsFrom (aj.objs.size+1) scope.names Vs=cl at B ⊢
 obtain⟨W,⟨m0,w0⟩,turn⟩:=q2 s2.heap.objs.size hD
 have I4:=nq (X:=X.Ō) (N':=N') (js:=js) (nl:=nl) (sc:=sc) (scope:=scope) (cl:=cl) (fp:=fp) (h':=h₁) (tk:=s2.toks) hsc hk hcap hlen B I3 f3 (λb hb=>by show b<aj.objs.size;rw[Qz];exact Nat.lt_succ_of_lt (GC b hb)) hns₁ old
 have Vt:tn 0 h₁:= T.keep 0 _ _ st2 λb hb o e=>old b o (by rw[<-Qy];exact Heap.get?_push_of_some _ e)
 have fr4:∀b∈fp,(upd H2 s2.heap.objs.size (.lst [])) b=none:=λb hb=>(f3 b hb).1
 have stat:∀{H':Hp},(∀b∈fp,H' b=none)->∀b∈fp,eN (aU X.Ō N' scope cl aj.objs.size {s2 with heap:=aj} (upd H2 s2.heap.objs.size (.lst [])) fp) [] H' b:=fun{H'} hn b hb=>by
  obtain⟨g0,g1,g2,g3,g4,g5⟩:=f3 b hb
  refine⟨hn b hb,Nat.ne_of_lt (by show b<aj.objs.size;rw[Qz];exact Nat.lt_succ_of_lt (GC b hb)),λz=>?_,.inl hb,λx c e=>by
   rcases B.at_ x c e with⟨q,_⟩|⟨q,_⟩
   ·exact g4 x c q
   ·exact Nat.ne_of_gt (Nat.lt_trans (by show b<aj.objs.size;rw[Qz];exact Nat.lt_succ_of_lt (GC b hb)) q),λp hp=>absurd hp (by simp[aU])⟩
  rcases List.mem_cons.mp (I3.jN b z) with z|z
  ·exact g1 z
  ·exact g2 z
 have loop:∀s₃:Shared,s₃= {s2 with heap:=h₁}->
  codeAny (model X.prog X.w) X.A (.compLoop (.ListComp elt [⟨tg,iter,ifs,0⟩] scope pos) 0 (.ref it) (.ref s2.heap.objs.size) (compEnvC scope cl aj.objs.size X.Ō.env))
   (compPost (model X.prog X.w) X.A X.Ō.xe none (EP X.Ō pins σ Q) (.ref s2.heap.objs.size) aj.objs.size) s₃:= by
  rintro s₃ rfl
  refine gB (λn s'=>∃i σ' H',Inv (aU X.Ō N' scope cl aj.objs.size {s2 with heap:=aj} (upd H2 s2.heap.objs.size (.lst [])) fp) [] σ' H' s'/\tn i s'.heap/\(∀b∈fp,H' b=none)/\W i n σ' H') ?_ m0 ⟨0,_,_,I4,Vt,fr4,w0⟩
  rintro n s5 ⟨i,σ5,H5,I5,Gb,Pn,w5⟩
  rcases turn i n σ5 H5 w5 with⟨stop,qn⟩|⟨go,N,hN,step⟩
  ·refine Ň (T.done (aU X.Ō N' scope cl aj.objs.size {s2 with heap:=aj} (upd H2 s2.heap.objs.size (.lst [])) fp) rfl rfl rfl hcalm i [] s5 σ5 H5 (λ_ _=>False) I5 (stat Pn) Gb stop) λr s6 ⟨hr,I6⟩=>?_
   subst hr
   obtain⟨m,hm,_⟩:=I6.loc
   refine⟨m,hm,λh' hs'=>⟨.ref s2.heap.objs.size,H5,jT I3 f3 I6 (λb u hb e=>hs'.extBut b u hb e),rfl,qn⟩⟩
  ·refine Ň (T.item (aU X.Ō N' scope cl aj.objs.size {s2 with heap:=aj} (upd H2 s2.heap.objs.size (.lst [])) fp) rfl rfl rfl hcalm i [] s5 σ5 H5 (λ_ _=>False) I5 (stat Pn) Gb go) λr s6 ⟨u,hr,h6⟩=>?_
   subst hr
   refine Ň h6 λ_ s7 ⟨x,H7,I7,r7,y7,QB,fr7⟩=>?_
   have I7':=I7.pinned (stat fr7) (T.obj _ _ QB)
   have again:∀{s8:Shared} {σ8:L2.St} {H8:Hp},Inv (aU X.Ō N' scope cl aj.objs.size {s2 with heap:=aj} (upd H2 s2.heap.objs.size (.lst [])) fp) ([]++iw fp s7.heap) σ8 H8 s8->
    Inv (aU X.Ō N' scope cl aj.objs.size {s2 with heap:=aj} (upd H2 s2.heap.objs.size (.lst [])) fp) [] σ8 H8 s8/\tn (i+1) s8.heap/\∀b∈fp,H8 b=none:=fun{s8 σ8 H8} I8=>by
    refine⟨I8.cT,T.keep _ _ _ QB λb hb o e=>(I8.pin (b,o) (List.mem_append_right _ (List.mem_append_right _ (ų hb e)))).1,λb hb=>?_⟩
    obtain⟨o,e,d⟩:=T.obj _ _ QB b hb
    exact(I8.pin (b,o) (List.mem_append_right _ (List.mem_append_right _ (ų hb e)))).2.1
   refine Ň (hg cl _ _ _ fp _ s7 σ5 H7 x u _ I7' r7 (step x H7 y7)) λ_ s8 ⟨σ8,H8,I8,q8⟩=>?_
   refine Ň (ht cl _ _ _ fp _ s8 σ8 H8 _ I8 q8) λc s9 ⟨H9,I9,q9⟩=>?_
   cases c with
   |false=>
    rw[if_neg Bool.false_ne_true] at q9 ⊢
    obtain⟨m',hm',w9⟩:=hN _ _ q9
    obtain⟨a1,a2,a3⟩:=again I9
    exact⟨m',hm',i+1,σ8,H9,a1,a2,a3,w9⟩
   |true=>
    rw[if_pos rfl] at q9 ⊢
    refine Ň (he cl _ _ _ fp _ s9 σ8 H9 _ I9 q9) λyv ug ⟨y,H10,I10,r10,ys,e10,l10,w10⟩=>?_
    refine Ň (ao _ ug σ8 H10 (.ref s2.heap.objs.size) [y] (.ref s2.heap.objs.size) [yv] (λ_ QC=>N σ8 QC) I10 rfl (.cons r10 .nil) ⟨_,ys,y,rfl,rfl,e10,l10,w10⟩) λ_ s11 ⟨v11,QC,I11,_,w11⟩=>?_
    obtain⟨a1,a2,a3⟩:=again I11
    obtain⟨m',hm',w11⟩:=hN _ _ w11
    exact⟨m',hm',i+1,σ8,QC,a1,a2,a3,w11⟩
 exact codeAny_compStart_list (loop _ rfl) (T.self _ 0 _ _ _ Vt (loop _ rfl))
end
def Its(z:Str):It:=⟨λi _=>i<z.cps.size,λi H x H'=>H'=H/\∃c,z.cps.toList[i]?=some c/\x=.str ⟨#[c]⟩,λi _=>i=z.cps.size⟩
def zc{P:Program}{w:World}{K:PySem.W.Frag}{tg:Expr}(it:Addr)(z:Str)(t:Tok)(ty:String)
 (hW:∀A:Around,A.handled=none->Walks P w A it [it] [it] z.cps.size (SignAt z) (λi h=>h.IsStrIter it ty z t i))
 (hS:∀(A:Around) (i:Nat) (s:Shared) (Q:Value->Shared->Prop) (E:Value->Shared->Prop),s.heap.IsStrIter it ty z t i->Q (.ref it) s->wpAny (model P w) A (pyIter (.ref it)) Q E s)
 (hty:["enumerate","zip","dict_itemiterator","dict_reverseitemiterator","odict_iterator","itertools.zip_longest","itertools.pairwise"].contains ty=false):Turn P w K tg (Its z) [it] it (λi h=>h.IsStrIter it ty z t i) where
 mem:=by simp
 obj:=λi h st b hb=>by
  have e:b=it:=by simpa using hb
  subst e
  obtain⟨o,e,c,d⟩:=st
  exact⟨o,e,λv z=>by rw[d] at z;cases z⟩
 keep:=λi h h' st k=>by
  obtain⟨o,e,c,d⟩:=st
  exact⟨o,k it (by simp) o e,c,d⟩
 item:=by
  intro X hP hw hK hc i pins s σ H E I hf st hg
  subst hP hw hK
  obtain⟨f0,f1,f2,f3,f4,f5⟩:=hf it (by simp)
  refine(hW X.A (I.ok.hd hc)).item i s _ _ hg st λv h' tk hv st' kk=>?_
  obtain⟨c,u,hcu,rfl⟩:=hv
  have I1:Inv X pins σ H {s with heap:=h',toks:=tk}:=I.turned (λb o hb e=>kk b o (by simpa using hb) e) f0 f1 f3 f4 f5
  obtain⟨o,e,cl,d⟩:=id st'
  exact⟨_,rfl,rm (s:={s with heap:=h',toks:=tk}) e cl d hty ⟨.str ⟨#[c]⟩,H,I1,⟨u,rfl⟩,⟨rfl,c,by simpa using hcu,rfl⟩,st',λb hb=>(hf b hb).1⟩⟩
 done:=by
  intro X hP hw hK hc i pins s σ H E I hf st hg
  subst hP hw hK
  obtain⟨f0,f1,f2,f3,f4,f5⟩:=hf it (by simp)
  have e:i=z.cps.size:=hg
  subst e
  exact(hW X.A (I.ok.hd hc)).done s _ _ st λh' tk kk=>⟨rfl,I.turned (λb o hb e=>kk b o (by simpa using hb) e) f0 f1 f3 f4 f5⟩
 self:=hS
section
variable{X:Cx}{tg:Expr}
end
end M3
namespace M4
open PySem PySem.Spec PyProof.Rows L2 M2 M3
section
variable{X:Cx}
def GD{bs:List Bool}:∀{us:List Value},Vals (bs.map V.bl) us->us=bs.map Value.bool:=by
 induction bs with
 |nil=>intro us r;rw[List.map_nil] at r;cases r;rfl
 |cons b bs ih=>
  intro us r
  rw[List.map_cons] at r
  cases r with
  |cons r1 r2=>
   cases r1
   rw[ih r2]
   rfl
def all_range(bs:List Bool):(List.range (bs.map Value.bool).toArray.size).all (λi=>bs.getD i false)=bs.all id:=by
 have e:(bs.map Value.bool).toArray.size=bs.length:=by simp
 rw[e,Bool.eq_iff_iff]
 simp only[List.all_eq_true,List.mem_range,id]
 constructor
 ·intro h b hb
  obtain⟨i,hi,rfl⟩:=List.mem_iff_getElem.mp hb
  have:=h i hi
  rw[List.getD_eq_getElem?_getD,List.getElem?_eq_getElem hi] at this
  exact this
 ·intro h i hi
  rw[List.getD_eq_getElem?_getD,List.getElem?_eq_getElem hi]
  exact h _ (List.getElem_mem hi)
def rH{prog:Program}{w:World}{A:Around}(bs:List Bool):TruthOf prog w A (λi v=>(bs.map Value.bool).toArray[i]?=some v) (λi=>bs.getD i false):=by
 intro i v s Q E hv hq
 have hv':bs[i]?.map Value.bool=some v:=by
  rw[<-List.getElem?_map]
  simpa using hv
 cases hb:bs[i]? with
 |none=>rw[hb] at hv';cases hv'
 |some b=>
  rw[hb] at hv'
  cases hv'
  dsimp only at hq
  rw[List.getD_eq_getElem?_getD,hb] at hq
  exact wpAny_truthy_bool hq
def QD(K:PySem.W.Frag):List V->Hp->VK->Prop:=λxs H Q=>match xs with
 | [.ref p]=>∃bs:List Bool,Ũ K H p (bs.map V.bl)/\Q (.bl (bs.all id)) H
 |_=>False
def uO(hc:X.calm=true):Ń X (.builtin "all") (QD X.K):=by
 intro pins s σ H xs us Q I r h
 unfold QD at h
 split at h
 ·rename_i p
  obtain⟨bs,hS,q⟩:=h
  obtain⟨u,rfl,ru⟩:=vals1 r
  cases ru
  obtain⟨its,rv,pl,hz⟩:=I.list hS
  have e:=GD rv
  subst e
  have hp:p≠s.heap.objs.size:=by
   obtain⟨o,n,e,_⟩:=pl
   exact Nat.ne_of_lt (Heap.lt_size e)
  refine call_all_walk (wpAny_pyIter_list pl.isList ?_)
  refine⟨s.heap.objs.size,_,_,_,_,_,_,rfl,Walks.list (A:=X.A.in1) (show X.A.in1.handled=none from I.ok.hd hc) s.heap.objs.size p hp (bs.map Value.bool).toArray,⟨⟨_,Heap.get?_push_size _ rfl,rfl,rfl⟩,pl.isList.at λo e=>Heap.get?_push_of_some _ e⟩,rH bs,λh' tk k=>?_⟩
  rw[all_range]
  exact⟨.bl _,H,I.kept λb o e=>k b o (by simpa using Nat.ne_of_lt (Heap.lt_size e)) (Heap.get?_push_of_some _ e),rfl,q⟩
 ·exact h.elim
end
abbrev S(l:List Nat):Str:=⟨l.toArray⟩
def ZaT(z:Str):S z.cps.toList=z:=by
 cases z
 simp
def Vu(l:List Nat):(S l).length=l.length:=by simp[Str.length]
def rJ(z:Str):z.cps.toList.length=z.length:=by simp[Str.length]
def pF(xs:List Nat)(lo hi:Option Int):List Nat:=(xs.drop (HT.gq xs.length 0 lo)).take (HT.gq xs.length xs.length hi-HT.gq xs.length 0 lo)
def idx_eq(z:Str)(lo hi:Option Int):Builtin.Str.strSliceIndices lo hi 1 z.length=(List.range (HT.gq z.length z.length hi-HT.gq z.length 0 lo)).map (HT.gq z.length 0 lo + ·):=by
 have hc:∀(o:Option Int) (d:Nat),d<=z.length->(match o with|none=>((d:Nat):Int)|some i=>max 0 (min (if i<0 then i+(z.length:Int) else i) (z.length:Int)))=((HT.gq z.length d o:Nat):Int):=by
  intro o d hd
  cases o with
  |none=>rfl
  |some i=>
   show max 0 (min (if i<0 then i+(z.length:Int) else i) (z.length:Int))=((if i<0 then(i+(z.length:Int)).toNat else min i.toNat z.length:Nat):Int)
   by_cases h:i<0
   ·rw[if_pos h,if_pos h];omega
   ·rw[if_neg h,if_neg h];omega
 have e:Builtin.Str.strSliceIndices lo hi 1 z.length=sliceRange ((HT.gq z.length 0 lo:Nat):Int) ((HT.gq z.length z.length hi:Nat):Int) 1:=by
  have h1:=hc lo 0 (Nat.zero_le _)
  have h2:=hc hi z.length (Nat.le_refl _)
  unfold Builtin.Str.strSliceIndices
  simp only[show(1:Int)>0 by decide,if_true]
  rw[<-h1,<-h2]
  cases lo<;>cases hi<;>rfl
 rw[e,sliceRange_one]
def GF(z:Str)(lo hi:Option Int):(Builtin.Str.strSliceIndices lo hi 1 z.length).filterMap (z.cps[·]?)=pF z.cps.toList lo hi:=by
 rw[idx_eq,pick_run]
 unfold pF
 rw[rJ]
def GJ(xs:List Nat)(lo hi:Option Int):(pF xs lo hi).length<=xs.length:=by
 unfold pF
 rw[List.length_take,List.length_drop]
 omega
def Bl{z:Str}{t:Tok}{l u:Option (Int×Tok)}{Q:Value->Shared->Prop}{s:Shared}(hz:z.length<=sizeLine)
 (h:∀t' k,Q (.str (S (pF z.cps.toList (l.map (·.1)) (u.map (·.1)))) t') {s with toks:=k}):(sliceMade z t l u none).post Q s:=by
 have e:=GF z (l.map (·.1)) (u.map (·.1))
 unfold sliceMade
 have ep:slicePicked z l u none=Builtin.Str.strSliceIndices (l.map (·.1)) (u.map (·.1)) 1 z.length:=rfl
 rw[ep]
 split
 ·rename_i hc
  have hl:(Builtin.Str.strSliceIndices (l.map (·.1)) (u.map (·.1)) 1 z.length).length=z.length:=by simpa using hc
  have hz2:pF z.cps.toList (l.map (·.1)) (u.map (·.1))=z.cps.toList:=by
   rw[idx_eq,List.length_map,List.length_range] at hl
   have hi:=HT.Ar z.length 0 (Nat.zero_le _) (l.map (·.1))
   have hj:=HT.Ar z.length z.length (Nat.le_refl _) (u.map (·.1))
   unfold pF
   rw[rJ]
   have hl2:=rJ z
   have a0:HT.gq z.length 0 (l.map (·.1))=0\/z.length=0:=by omega
   rcases a0 with a0|a0
   ·rw[a0] at hl ⊢
    rw[List.drop_zero]
    exact List.take_of_length_le (by omega)
   ·have:z.cps.toList=[]:=List.eq_nil_of_length_eq_zero (by omega)
    rw[this]
    simp
  have:=h t s.toks
  rw[hz2,ZaT] at this
  exact this
 ·rw[e]
  exact⟨by rw[Vu];have:=GJ z.cps.toList (l.map (·.1)) (u.map (·.1));rw[rJ] at this;omega,h _ _⟩
section
variable{X:Cx}
def ZaU:V->Option Int->Option Int->Hp->VK->Prop:=λx lo hi H Q=>match x with
 | .str z=>z.length<=sizeLine/\Q (.str (S (pF z.cps.toList lo hi))) H
 |_=>False
def GK:wL X ZaU:=by
 intro pins s σ H x v vl vu lo hi sl Q I rx hs pl pu h
 cases x with
 |str z=>
  obtain⟨t,rfl⟩:=rx
  obtain⟨hz,q⟩:=h
  obtain⟨l,el,el2⟩:∃l:Option (Int×Tok),partValue l=vl/\l.map (·.1)=lo:=by
   cases pl with
   |none=>exact⟨none,rfl,rfl⟩
   |int i t=>exact⟨some (i,t),rfl,rfl⟩
  obtain⟨u,eu,eu2⟩:∃u:Option (Int×Tok),partValue u=vu/\u.map (·.1)=hi:=by
   cases pu with
   |none=>exact⟨none,rfl,rfl⟩
   |int i t=>exact⟨some (i,t),rfl,rfl⟩
  subst el el2 eu eu2
  exact⟨"str",_,F.slot_str_getitem.lookup,typeIs_str s z t,wpAny_getItem_str_slice (l:=l) (u:=u) (st:=none) hs rfl (Bl hz λt' k=>⟨.str _,H,I.tok _,⟨_,rfl⟩,q⟩)⟩
 |_=>exact h.elim
def ZaV(K:PySem.W.Frag):V->Option Int->Option Int->Hp->VK->Prop:=λx lo hi H Q=>match x with
 | .ref a=>∃xs,Ũ K H a xs/\∀p,H p=none->Q (.ref p) (upd H p (.lst (rD xs lo hi)))
 | .str z=>z.length<=sizeLine/\Q (.str (S (pF z.cps.toList lo hi))) H
 |_=>False
def slm:wL X (ZaV X.K):=wL.wk (Bd.or GK) λx lo hi H Q h=>by
 cases x with
 |ref a=>exact .inl h
 |str z=>exact .inr h
 |_=>exact h.elim
def mul_eq(z:Str){n:Int}(h:0<=n):Txt.mul z n=S (List.replicate n.toNat z.cps.toList).flatten:=by
 have key:∀(k:Nat) (acc:Array Nat),((List.replicate k z.cps).foldl (·++ ·) acc).toList=acc.toList++(List.replicate k z.cps.toList).flatten:=by
  intro k
  induction k with
  |zero=>intro acc;simp
  |succ k ih=>
   intro acc
   rw[List.replicate_succ,List.foldl_cons,ih,List.replicate_succ,List.flatten_cons]
   simp
 unfold Txt.mul
 refine PyProof.Rows.ext_toList ?_
 by_cases h1:n<1
 ·rw[if_pos h1]
  have:n.toNat=0:=by omega
  rw[this]
  simp[Str.empty]
 ·rw[if_neg h1]
  split
  ·rename_i hc
   rw[Bool.or_eq_true] at hc
   rcases hc with hc|hc
   ·have:n=1:=by simpa using hc
    subst this
    simp
   ·have h0:z.cps.toList=[]:=List.eq_nil_of_length_eq_zero (by rw[rJ];simpa using hc)
    rw[h0]
    simp
  ·rw[key]
   simp
def Bm(z:Str)(n:Int):Prop:=0<=n/\n<=1000/\z.length<=1000
def Bm.ok{z:Str}{n:Int}(h:Bm z n):MulOk z n:=by
 obtain⟨h0,h1,h2⟩:=h
 refine⟨?_,λhn _=>?_,λhn _=>?_⟩
 ·rw[decide_eq_false (by omega),decide_eq_false (by omega)]
  rfl
 ·have:(9000000000000000:Int)≤(2 ^ 63-1) / n:=by
   rw[Int.le_ediv_iff_mul_le (by omega)]
   omega
  omega
 ·have:z.length*n.toNat<=1000*1000:=Nat.mul_le_mul h2 (by omega)
  unfold Builtin.Str.tooLong
  simp
  rw[sizeLine_eq]
  omega
def Bo:R2:=λx y H Q=>match x,y with
 | .int i,.int j=>ni i j/\Q (.int (i*j)) H
 | .str z,.int n=>Bm z n/\Q (.str (S (List.replicate n.toNat z.cps.toList).flatten)) H
 |_,_=>False
def GP:ş X (binaryOp .Mult) Bo:=by
 intro pins s σ H x y v u Q I rx ry h
 unfold Bo at h
 split at h
 ·exact Qu pins s σ H _ _ v u Q I rx ry h
 ·obtain⟨t,rfl⟩:=rx
  obtain⟨t',rfl⟩:=ry
  exact SB.mul h.1.ok λt' k=>⟨.str _,H,I.tok _,⟨_,by rw[mul_eq _ h.1.1]⟩,h.2⟩
 ·exact h.elim
end
end M4
namespace M5
open PySem PySem.Spec PyProof.Rows L2 M2 M3
section
variable{X:Cx}{pins:List (Addr×Obj)}{σ:L2.St}{H:Hp}{s:Shared}{x:Str}{c P:Addr}{params:Arguments}{body:Expr}{scope:Scope}{pos:Pos}{cl:List (Str×Addr)}
end
section
variable{X:Cx}{pins:List (Addr×Obj)}{σ:L2.St}{H:Hp}{s:Shared}{params:Arguments}{body:Expr}{scope sc:Scope}{cl:List (Str×Addr)}{N0:List Str}{js:List Nat}{qual px:Str}{f c':Addr}{A:Around}
end
section
variable{X:Cx}{pins:List (Addr×Obj)}{σ:L2.St}{H:Hp}{s:Shared}
variable{R:Result->Shared->Prop}{f l S It:Addr}{oF:Obj}{xs:List V}(ks:Nat->Int)(W:Nat->Hp->Prop)
end
section
variable{X:Cx}{x px:Str}{c P:Addr}{params:Arguments}{body e:Expr}{scope:Scope}{p pos QF kpos:Pos}{ta:TA}{te:TE}
end
end M5
namespace P
def nst:PySem.Expr->Bool
 | .Starred .. =>false
 |_=>true
def cW{e:PySem.Expr}{es:List PySem.Expr}{env:PySem.Env}(h:nst e=true):PySem.starEach (e::es) env=(false,PySem.eval e env)::PySem.starEach es env:=by
 cases e<;>first|rfl|cases h
open PySem PySem.Spec PyProof.Rows L2 M2
structure KK where
 K:PySem.W.Frag
 cm:String->Addr
abbrev kk(X:Cx)(cm:String->Addr):KK:=⟨X.K,cm⟩
abbrev DK:=Sum Int (List Int)
inductive PV where
 |non|bl (b:Bool)|int (i:Int)|str (x:Str)|tup (xs:List PV)|lst (xs:List PV)
 |ins (C:String) (ns:List Str) (xs:List PV)|xc (C:String) (ns:List Str) (xs:List PV)|ty (n:String)|cls (C:String)|cM (ks:List DK) (xs:List PV)
def xo(a C:Addr)(d:Option Addr):HO:=.ext λh=>∃o vs,h.get? a=some o/\o.cls=.ref C/\o.dict=d/\o.data=.fields vs
def rK(F:Hp)(d:Option Addr)(fs:List (Str×V)):Prop:=(d=none/\fs=[])\/∃a,d=some a/\F a=some (.xd fs)
mutual
def Rep(K:KK)(F:Hp):PV->V->Prop
 | .non,v=>v=.non
 | .bl b,v=>v=.bl b
 | .int i,v=>v=.int i
 | .str x,v=>v=.str x
 | .tup ps,v=>∃a xs,v=.ref a/\F a=some (.tup xs)/\đ K F ps xs
 | .lst ps,v=>∃a xs,v=.ref a/\Ũ K.K F a xs/\đ K F ps xs
 | .ins C ns ps,v=>∃a dx fs,v=.ref a/\F a=some (.ins (K.cm C) dx fs)/\fs.map (·.1)=ns/\đ K F ps (fs.map (·.2))
 | .xc C ns ps,v=>∃a d fs,v=.ref a/\F a=some (xo a (K.cm C) d)/\rK F d fs/\fs.map (·.1)=ns/\đ K F ps (fs.map (·.2))
 | .ty n,v=>v=.ty n
 | .cls C,v=>v=.ref (K.cm C)
 | .cM ks ps,v=>∃a ob us,v=.ref a/\F a=some (.ak ob (.dT us))/\Paired (λ(k:DK) (q:List Key)=>∃is:List Int,k=.inr is/\q=is.map .inl) ks (us.map (·.1))/\đ K F ps (us.map (·.2))
def đ(K:KK)(F:Hp):List PV->List V->Prop
 | [],xs=>xs=[]
 |p::ps,xs=>∃x r,xs=x::r/\Rep K F p x/\đ K F ps r
end
section
variable{K:KK}{F F' H H':Hp}
def rK.same{d:Option Addr}{fs:List (Str×V)}(e:Same F F')(h:rK F d fs):rK F' d fs:=by
 rcases h with h|⟨a,h1,h2⟩
 ·exact .inl h
 ·exact .inr ⟨a,h1,e _ _ h2⟩
mutual
theorem Rep.same(e:Same F F'):∀(p:PV) (v:V),Rep K F p v->Rep K F' p v
 | .non,_,h=>by unfold Rep at h ⊢;exact h
 | .bl _,_,h=>by unfold Rep at h ⊢;exact h
 | .int _,_,h=>by unfold Rep at h ⊢;exact h
 | .str _,_,h=>by unfold Rep at h ⊢;exact h
 | .ty _,_,h=>by unfold Rep at h ⊢;exact h
 | .cls _,_,h=>by unfold Rep at h ⊢;exact h
 | .tup ps,_,h=>by
   unfold Rep at h ⊢
   obtain⟨a,xs,h1,h2,h3⟩:=h
   exact⟨a,xs,h1,e _ _ h2,đ.same e ps xs h3⟩
 | .lst ps,_,h=>by
   unfold Rep at h ⊢
   obtain⟨a,xs,h1,h2,h3⟩:=h
   exact⟨a,xs,h1,e.seq h2,đ.same e ps xs h3⟩
 | .ins C ns ps,_,h=>by
   unfold Rep at h ⊢
   obtain⟨a,dx,fs,h1,h2,h3,h4⟩:=h
   exact⟨a,dx,fs,h1,e _ _ h2,h3,đ.same e ps _ h4⟩
 | .xc C ns ps,_,h=>by
   unfold Rep at h ⊢
   obtain⟨a,d,fs,h1,h2,hd,h3,h4⟩:=h
   exact⟨a,d,fs,h1,e _ _ h2,hd.same e,h3,đ.same e ps _ h4⟩
 | .cM ks ps,_,h=>by
   unfold Rep at h ⊢
   obtain⟨a,ob,us,h1,h2,h3,h4⟩:=h
   exact⟨a,ob,us,h1,e _ _ h2,h3,đ.same e ps _ h4⟩
theorem đ.same(e:Same F F'):∀(ps:List PV) (xs:List V),đ K F ps xs->đ K F' ps xs
 | [],_,h=>by unfold đ at h ⊢;exact h
 |p::ps,_,h=>by
  unfold đ at h ⊢
  obtain⟨x,r,h1,h2,h3⟩:=h
  exact⟨x,r,h1,Rep.same e p x h2,đ.same e ps r h3⟩
end
theorem đ.pr:∀{ps:List PV} {vs:List V},đ K F ps vs->Paired (Rep K F) ps vs
 | [],_,h=>by unfold đ at h;subst h;exact .nil
 |p::ps,_,h=>by
  unfold đ at h
  obtain⟨x,r,rfl,h2,h3⟩:=h
  exact .cons h2 (đ.pr h3)
theorem đ.of:∀{ps:List PV} {vs:List V},Paired (Rep K F) ps vs->đ K F ps vs
 | [],_,.nil=>by unfold đ;rfl
 |p::ps,_,.cons h t=>by unfold đ;exact⟨_,_,rfl,h,đ.of t⟩
theorem đ.nil:đ K F [] []:=đ.of .nil
theorem đ.cons{p:PV}{v:V}{ps:List PV}{vs:List V}(h:Rep K F p v)(t:đ K F ps vs):đ K F (p::ps) (v::vs):=đ.of (.cons h t.pr)
theorem đ.length{ps:List PV}{vs:List V}(h:đ K F ps vs):ps.length=vs.length:=Paired.length h.pr
theorem aA{α β:Type}{G:α->β->Prop}:∀{l:List α} {m:List β} {i:Nat} {x:α},Paired G l m->l[i]?=some x->∃y,m[i]?=some y/\G x y
 |_,_,_,_,.nil,e=>by simp at e
 |_,_,0,_,.cons r _,e=>by simp at e;subst e;exact⟨_,rfl,r⟩
 |_,_,i+1,x,.cons _ t,e=>by
  obtain⟨y,h1,h2⟩:=aA (i:=i) (x:=x) t (by simpa using e)
  exact⟨y,by simpa using h1,h2⟩
theorem wU{α β:Type}{G:α->β->Prop}:∀{l:List α} {m:List β} {i:Nat} {y:β},Paired G l m->m[i]?=some y->∃x,l[i]?=some x/\G x y
 |_,_,_,_,.nil,e=>by simp at e
 |_,_,0,_,.cons r _,e=>by simp at e;subst e;exact⟨_,rfl,r⟩
 |_,_,i+1,y,.cons _ t,e=>by
  obtain⟨x,h1,h2⟩:=wU (i:=i) (y:=y) t (by simpa using e)
  exact⟨x,by simpa using h1,h2⟩
theorem Bp{α β:Type}{G:α->β->Prop}:∀{l l2:List α} {m m2:List β},Paired G l m->Paired G l2 m2->Paired G (l++l2) (m++m2)
 |_,_,_,_,.nil,t=>t
 |_,_,_,_,.cons r s,t=>.cons r (Bp s t)
theorem Bq{α β:Type}{G:α->β->Prop}{x:α}{y:β}(r:G x y):∀{l:List α} {m:List β} (i:Nat),Paired G l m->Paired G (l.set i x) (m.set i y)
 |_,_,_,.nil=>.nil
 |_,_,0,.cons _ t=>.cons r t
 |_,_,i+1,.cons q t=>.cons q (Bq r i t)
theorem wV{α β:Type}{G:α->β->Prop}:∀{l:List α} {m:List β} (n:Nat),Paired G l m->Paired G (l.take n) (m.take n)
 |_,_,0,_=>.nil
 |_,_,_+1,.nil=>.nil
 |_,_,n+1,.cons r t=>.cons r (wV n t)
theorem wW{α β:Type}{G:α->β->Prop}:∀{l:List α} {m:List β} (n:Nat),Paired G l m->Paired G (l.drop n) (m.drop n)
 |_,_,0,h=>h
 |_,_,_+1,.nil=>.nil
 |_,_,n+1,.cons _ t=>wW n t
def đ.append{ps qs:List PV}{vs us:List V}(h:đ K F ps vs)(t:đ K F qs us):đ K F (ps++qs) (vs++us):=đ.of (Bp h.pr t.pr)
end
inductive Slot where
 |no|sh (p:PV)|ow (ps:List PV)|bw (ps:List PV)|rc (C:String) (ns:List Str) (ps:List PV)|ot (ps qs rs:List PV)|ol (zO:List (List PV))|od (t:Bool) (kvs:List (DK×PV))|bd (t:Bool) (kvs:List (DK×PV))
abbrev ļ:=List Slot
def Slot.own:Slot->Bool
 | .ow _=>true
 | .rc _ _ _=>true
 | .ot _ _ _=>true
 | .ol _=>true
 | .od _ _=>true
 |_=>false
structure Ctx where
 B:Hp
 F₀:Hp
 /-- what is lent here:read,never changed,never kept -/
 L:Hp
 /-- which objects may be held as one's own:address,dict,class -/
 S:Addr->Addr->String->Prop
def uP(K:KK)(F:Hp)(t:Bool)(kvs:List (DK×PV))(u:HO):Prop:=
 (t=false/\∃ks:List (Key×V),u=.dK ks/\Paired (λ(p:DK×PV) (q:Key×V)=>(∃i:Int,p.1=.inl i/\q.1=.inl i)/\Rep K F p.2 q.2) kvs ks)\/
 t=true/\∃ks:List (List Key×V),u=.dT ks/\Paired (λ(p:DK×PV) (q:List Key×V)=>(∃is:List Int,p.1=.inr is/\q.1=is.map .inl)/\Rep K F p.2 q.2) kvs ks
def ś(K:KK)(c:Ctx)(F H:Hp)(o:Option V):Slot->Prop
 | .no=>True
 | .sh p=>∃v,o=some v/\Rep K F p v
 | .ow ps=>∃a vs,o=some (.ref a)/\H a=some (.lst vs)/\F a=none/\c.B a=none/\đ K F ps vs
 | .bw ps=>∃a vs,o=some (.ref a)/\c.L a=some (.lst vs)/\đ K F ps vs
 | .rc C ns ps=>∃a dx fs,o=some (.ref a)/\H a=some (.ins (K.cm C) dx fs)/\F a=none/\c.B a=none/\fs.map (·.1)=ns/\đ K F ps (fs.map (·.2))/\c.S a dx C
 | .ot ps qs rs=>∃p a xs vs ys,o=some (.ref p)/\F p=some (.tup (xs ++ .ref a::ys))/\đ K F ps xs/\H a=some (.lst vs)/\F a=none/\c.B a=none/\đ K F qs vs/\đ K F rs ys
 | .ol zO=>∃(p:Addr) (as:List Addr),o=some (.ref p)/\F p=some (.lst (as.map V.ref))/\as.Nodup/\Paired (λ(a:Addr) (ps:List PV)=>∃vs,H a=some (.lst vs)/\F a=none/\c.B a=none/\đ K F ps vs) as zO
 | .od t kvs=>∃a u,o=some (.ref a)/\H a=some u/\F a=none/\c.B a=none/\uP K F t kvs u
 | .bd t kvs=>∃a u,o=some (.ref a)/\(c.L a=some u\/∃ob,F a=some (.ak ob u))/\uP K F t kvs u
def Slot.at_(F:Hp)(x:V)(a:Addr):Slot->Prop
 | .ot ps _ _=>∃p xs ys,x=.ref p/\F p=some (.tup (xs ++ .ref a::ys))/\xs.length=ps.length
 | .ol _=>∃(p:Addr) (as:List Addr),x=.ref p/\F p=some (.lst (as.map V.ref))/\a∈as
 | .ow _=>x=.ref a
 | .od _ _=>x=.ref a
 | .rc _ _ _=>x=.ref a
 |_=>False
def ĺ(F:Hp)(σ:L2.St)(ρ:ļ)(i:Nat)(a:Addr):Prop:=∃s x,ρ[i]?=some s/\σ[i]?=some (some x)/\s.at_ F x a
structure Rel(K:KK)(c:Ctx)(F H:Hp)(σ:L2.St)(ρ:ļ):Prop where
 sub:Same F H
 base:Same c.B H
 f0:Same c.F₀ F
 ak:∀a,c.B a≠none->c.F₀ a=none->F a=none
 lent:∀a u,c.L a=some u->H a=some u/\F a=none
 lb:∀a,c.B a=none->c.L a=none
 len:σ.length=ρ.length
 slot:∀(i:Nat) s,ρ[i]?=some s->ś K c F H ((σ[i]?).getD none) s
 sep:∀i j a,ĺ F σ ρ i a->ĺ F σ ρ j a->i=j
def gD(F:Hp)(σ:L2.St)(ρ:ļ)(a:Addr):Prop:=∀i,¬ĺ F σ ρ i a
section
variable{K:KK}{c:Ctx}{F F' H H':Hp}{σ:L2.St}{ρ:ļ}{a:Addr}{o:HO}
def jU{s:Slot}{x:V}(h:s.at_ F x a):s.own=true:=by
 cases s<;>first|rfl|exact h.elim
theorem jV:∀{as bs:List Addr},as.map V.ref=bs.map V.ref->as=bs
 | [],[],_=>rfl
 | [],_::_,h=>by cases h
 |_::_,[],h=>by cases h
 |a::as,b::bs,h=>by
  injection h with h1 h2
  injection h1 with h1
  rw[h1,jV h2]
def jH{ps qs rs:List PV}{x:V}{b:Addr}(h:(Slot.ot ps qs rs).at_ F x a)(h':(Slot.ot ps qs rs).at_ F x b):a=b:=by
 obtain⟨p,xs,us,h1,h2,l1⟩:=h
 obtain⟨q,ys,ws,h3,h4,l2⟩:=h'
 rw[h1] at h3
 cases h3
 rw[h2] at h4
 have e:xs++V.ref a::us=ys++V.ref b::ws:=by
  injection h4 with h4
  injection h4
 have e2:=(List.append_inj e (by omega)).2
 injection e2 with e2
 injection e2
theorem Br{α β:Type}{G:α->β->Prop}:∀{l:List α} {m:List β} {x:α},Paired G l m->x∈l->∃y,y∈m/\G x y
 |_,_,_,.nil,h=>by simp at h
 |_,_,x,.cons r t,h=>by
  rcases List.mem_cons.mp h with rfl|h
  ·exact⟨_,List.mem_cons_self,r⟩
  ·obtain⟨y,h1,h2⟩:=Br t h
   exact⟨y,List.mem_cons_of_mem _ h1,h2⟩
theorem rM{α β:Type}{G G':α->β->Prop}:∀{l:List α} {m:List β},Paired G l m->(∀x y,x∈l->G x y->G' x y)->Paired G' l m
 |_,_,.nil,_=>.nil
 |_,_,.cons r t,h=>.cons (h _ _ List.mem_cons_self r) (rM t λx y hx=>h x y (List.mem_cons_of_mem _ hx))
theorem uP.same{t:Bool}{kvs:List (DK×PV)}{u:HO}(h:uP K F t kvs u)(e:Same F F'):uP K F' t kvs u:=by
 rcases h with⟨ht,ks,h1,h2⟩|⟨ht,ks,h1,h2⟩
 ·exact .inl ⟨ht,ks,h1,rM h2 λp q _ ⟨r1,r2⟩=>⟨r1,r2.same e p.2 q.2⟩⟩
 ·exact .inr ⟨ht,ks,h1,rM h2 λp q _ ⟨r1,r2⟩=>⟨r1,r2.same e p.2 q.2⟩⟩
def ś.grow{s:Slot}{x:Option V}(h:ś K c F H x s)(eF:Same F F')(eH:∀b vs,(∃y,x=some y/\s.at_ F y b)->H b=some vs->F b=none->c.B b=none->H' b=some vs/\F' b=none):ś K c F' H' x s:=by
 cases s with
 |no=>trivial
 |sh p=>obtain⟨v,h1,h2⟩:=h;exact⟨v,h1,h2.same eF p v⟩
 |ow ps=>
  obtain⟨b,vs,h1,h2,h3,h4,h5⟩:=h
  obtain⟨e1,e2⟩:=eH b _ ⟨_,h1,rfl⟩ h2 h3 h4
  exact⟨b,vs,h1,e1,e2,h4,h5.same eF ps vs⟩
 |bw ps=>obtain⟨b,vs,h1,h2,h3⟩:=h;exact⟨b,vs,h1,h2,h3.same eF ps vs⟩
 |bd t kvs=>obtain⟨b,u,h1,h2,h3⟩:=h;exact⟨b,u,h1,h2.imp id λ⟨ob,e⟩=>⟨ob,eF _ _ e⟩,h3.same eF⟩
 |od t kvs=>
  obtain⟨b,u,h1,h2,h3,h4,h5⟩:=h
  obtain⟨e1,e2⟩:=eH b _ ⟨_,h1,rfl⟩ h2 h3 h4
  exact⟨b,u,h1,e1,e2,h4,h5.same eF⟩
 |rc C ns ps=>
  obtain⟨b,dx,fs,h1,h2,h3,h4,h5,h6⟩:=h
  obtain⟨e1,e2⟩:=eH b _ ⟨_,h1,rfl⟩ h2 h3 h4
  exact⟨b,dx,fs,h1,e1,e2,h4,h5,h6.1.same eF ps _,h6.2⟩
 |ot ps qs rs=>
  obtain⟨p,b,xs,vs,ys,h1,h2,h3,h4,h5,h6,h7,h8⟩:=h
  obtain⟨e1,e2⟩:=eH b _ ⟨_,h1,p,xs,ys,rfl,h2,h3.length.symm⟩ h4 h5 h6
  exact⟨p,b,xs,vs,ys,h1,eF _ _ h2,h3.same eF ps xs,e1,e2,h6,h7.same eF qs vs,h8.same eF rs ys⟩
 |ol zO=>
  obtain⟨p,as,h1,h2,h3,h4⟩:=h
  refine⟨p,as,h1,eF _ _ h2,h3,rM h4 λb ps hb ⟨vs,k1,k2,k3,k4⟩=>?_⟩
  obtain⟨e1,e2⟩:=eH b _ ⟨_,h1,p,as,rfl,h2,hb⟩ k1 k2 k3
  exact⟨vs,e1,e2,k3,k4.same eF ps vs⟩
def ś.owned{s:Slot}{y:V}(h:ś K c F H (some y) s)(ha:s.at_ F y a):∃u,H a=some u/\F a=none/\c.B a=none:=by
 cases s with
 |no=>exact ha.elim
 |sh p=>exact ha.elim
 |bw ps=>exact ha.elim
 |bd t kvs=>exact ha.elim
 |od t kvs=>
  obtain⟨b,u,h1,h2,h3,h4,h5⟩:=h
  rw[show y=.ref a from ha] at h1
  cases h1
  exact⟨_,h2,h3,h4⟩
 |ow ps=>
  obtain⟨b,vs,h1,h2,h3,h4,h5⟩:=h
  rw[show y=.ref a from ha] at h1
  cases h1
  exact⟨_,h2,h3,h4⟩
 |rc C ns ps=>
  obtain⟨b,dx,fs,h1,h2,h3,h4,h5,h6⟩:=h
  rw[show y=.ref a from ha] at h1
  cases h1
  exact⟨_,h2,h3,h4⟩
 |ot ps qs rs=>
  obtain⟨p,b,xs,vs,ys,h1,h2,h3,h4,h5,h6,h7,h8⟩:=h
  cases h1
  cases jH (ps:=ps) (qs:=qs) (rs:=rs) ha ⟨p,xs,ys,rfl,h2,h3.length.symm⟩
  exact⟨_,h4,h5,h6⟩
 |ol zO=>
  obtain⟨p,as,h1,h2,h3,h4⟩:=h
  cases h1
  obtain⟨q,bs,e1,e2,e3⟩:=ha
  cases e1
  rw[h2] at e2
  have e:as=bs:=jV (by injection e2 with e2;injection e2)
  subst e
  obtain⟨ps,_,vs,k1,k2,k3,_⟩:=Br h4 e3
  exact⟨_,k1,k2,k3⟩
def ś.back{s:Slot}{y:V}(h:ś K c F H (some y) s)(e:Same F F')(ha:s.at_ F' y a):s.at_ F y a:=by
 cases s with
 |ot ps qs rs=>
  obtain⟨p,b,xs,vs,ys,h1,h2,h3,h4,h5,h6,h7,h8⟩:=h
  cases h1
  cases jH (ps:=ps) (qs:=qs) (rs:=rs) ha ⟨p,xs,ys,rfl,e _ _ h2,h3.length.symm⟩
  exact⟨p,xs,ys,rfl,h2,h3.length.symm⟩
 |ol zO=>
  obtain⟨p,as,h1,h2,h3,h4⟩:=h
  cases h1
  obtain⟨q,bs,e1,e2,e3⟩:=ha
  cases e1
  rw[e _ _ h2] at e2
  have z:as=bs:=jV (by injection e2 with e2;injection e2)
  subst z
  exact⟨p,as,rfl,h2,e3⟩
 |_=>exact ha
def Bt{i:Nat}{x:V}(e:σ[i]?=some (some x)):(σ[i]?).getD none=some x:=by rw[e];rfl
def Bu{i:Nat}{x:V}(e:(σ[i]?).getD none=some x):σ[i]?=some (some x):=by
 cases q:σ[i]? with
 |none=>rw[q] at e;cases e
 |some y=>rw[q] at e;exact congrArg some e
theorem Rel.owned(r:Rel K c F H σ ρ){i:Nat}(h:ĺ F σ ρ i a):(∃u,H a=some u)/\F a=none/\c.B a=none:=by
 obtain⟨s,x,h1,h2,h3⟩:=h
 have q:=r.slot i s h1
 rw[Bt h2] at q
 obtain⟨u,q⟩:=q.owned h3
 exact⟨⟨u,q.1⟩,q.2⟩
theorem Rel.back(r:Rel K c F H σ ρ)(e:Same F F'){i:Nat}(h:ĺ F' σ ρ i a):ĺ F σ ρ i a:=by
 obtain⟨s,x,h1,h2,h3⟩:=h
 have q:=r.slot i s h1
 rw[Bt h2] at q
 exact⟨s,x,h1,h2,q.back e h3⟩
def Rel.QG(r:Rel K c F H σ ρ)(e:Same F F'):∀i j a,ĺ F' σ ρ i a->ĺ F' σ ρ j a->i=j:=λi j a h1 h2=>r.sep i j a (r.back e h1) (r.back e h2)
def Rel.pG(r:Rel K c F H σ ρ)(e:Same F F')(h:gD F σ ρ a):gD F' σ ρ a:=λi q=>h i (r.back e q)
def Rel.fresh(r:Rel K c F H σ ρ)(h:H a=none):gD F σ ρ a:=λi q=>by
 obtain⟨⟨u,e⟩,_⟩:=r.owned q
 rw[h] at e;cases e
def Rel.alloc(r:Rel K c F H σ ρ)(h:H a=none):Rel K c (upd F a o) (upd H a o) σ ρ where
 sub:=λb u e=>by
  by_cases hb:b=a
  ·subst hb;rw[ĝ] at e ⊢;exact e
  ·rw[Ě hb] at e ⊢;exact r.sub b u e
 base:=λb u e=>by
  have hb:b≠a:=λz=>by rw[z] at e;rw[r.base _ _ e] at h;cases h
  rw[Ě hb];exact r.base b u e
 f0:=fun b u e=>by
   have hb:b≠a:=λz=>by rw[z] at e;rw[r.sub _ _ (r.f0 _ _ e)] at h;cases h
   rw[Ě hb];exact r.f0 b u e
 ak:=λb h1 h2=>by
  have hb:b≠a:=λz=>by
   subst z
   cases q:c.B b with
   |none=>exact h1 q
   |some u=>rw[r.base _ _ q] at h;cases h
  rw[Ě hb];exact r.ak b h1 h2
 lent:=λb u e=>by
  obtain⟨h1,h2⟩:=r.lent b u e
  have hb:b≠a:=λz=>by rw[z,h] at h1;cases h1
  rw[Ě hb,Ě hb];exact⟨h1,h2⟩
 lb:=r.lb
 len:=r.len
 slot:=λi s e=>by
  have hF:F a=none:=r.sub.free h
  refine(r.slot i s e).grow (Same.upd hF) λb u _ h1 h2 h3=>?_
  have hb:b≠a:=λz=>by rw[z,h] at h1;cases h1
  rw[Ě hb,Ě hb];exact⟨h1,h2⟩
 sep:=r.QG (Same.upd (r.sub.free h))
def Rel.made(r:Rel K c F H σ ρ)(h:H a=none):Rel K c F (upd H a o) σ ρ where
 sub:=r.sub.trans (Same.upd h)
 base:=r.base.trans (Same.upd h)
 f0:=r.f0
 ak:=r.ak
 lent:=λb u e=>⟨Same.upd h b u (r.lent b u e).1,(r.lent b u e).2⟩
 lb:=r.lb
 len:=r.len
 slot:=λi s e=>(r.slot i s e).grow (Same.refl F) λb u _ h1 h2 h3=>⟨Same.upd h b u h1,h2⟩
 sep:=r.sep
def Rel.freeze(r:Rel K c F H σ ρ)(h:H a=some o)(hB:c.B a=none)(hF:F a=none)(hf:gD F σ ρ a):Rel K c (upd F a o) H σ ρ where
 sub:=λb u e=>by
  by_cases hb:b=a
  ·subst hb;rw[ĝ] at e;rw[h];exact e
  ·rw[Ě hb] at e;exact r.sub b u e
 base:=r.base
 f0:=r.f0.trans (Same.upd hF)
 ak:=λb h1 h2=>by
  have hb:b≠a:=λz=>h1 (by rw[z];exact hB)
  rw[Ě hb];exact r.ak b h1 h2
 lent:=λb u e=>by
  have hb:b≠a:=λz=>by rw[z,r.lb a hB] at e;cases e
  rw[Ě hb];exact r.lent b u e
 lb:=r.lb
 len:=r.len
 slot:=λi s e=>(r.slot i s e).grow (Same.upd hF) λb' u' ⟨y,e1',ha⟩ h1 h2 h3=>by
  have hb:b'≠a:=λz=>by
   subst z
   exact hf i ⟨s,y,e,Bu e1',ha⟩
  rw[Ě hb];exact⟨h1,h2⟩
 sep:=r.QG (Same.upd hF)
def ũ{α:Type}{l:List α}{i j:Nat}{x y:α}(h:(l.set i x)[j]?=some y):(j=i/\y=x/\i<l.length)\/(j≠i/\l[j]?=some y):=by
 by_cases hj:j=i
 ·subst hj
  have hl:j<l.length:=by
   have:=(List.getElem?_eq_some_iff.mp h).1
   simpa using this
  rw[List.getElem?_set_self hl] at h
  exact .inl ⟨rfl,(Option.some.inj h).symm,hl⟩
 ·rw[List.getElem?_set_ne (Ne.symm hj)] at h
  exact .inr ⟨hj,h⟩
def Bv{l:L2.St}{i:Nat}{x:Option V}(h:i<l.length):((l.set i x)[i]?).getD none=x:=by rw[List.getElem?_set_self h];rfl
def wX{l:L2.St}{i j:Nat}{x:Option V}(h:j≠i):((l.set i x)[j]?).getD none=(l[j]?).getD none:=by rw[List.getElem?_set_ne (Ne.symm h)]
def ĺ.off{i j:Nat}{x:Option V}{s:Slot}(h:ĺ F (σ.set i x) (ρ.set i s) j a)(hj:j≠i):ĺ F σ ρ j a:=by
 obtain⟨s',y,h1,h2,h3⟩:=h
 rw[List.getElem?_set_ne (Ne.symm hj)] at h1 h2
 exact⟨s',y,h1,h2,h3⟩
def Rel.put(r:Rel K c F H σ ρ){i:Nat}{x:Option V}{s:Slot}(hs:s.own=false)(h:ś K c F H x s):Rel K c F H (σ.set i x) (ρ.set i s) where
 sub:=r.sub
 base:=r.base
 f0:=r.f0
 ak:=r.ak
 lent:=r.lent
 lb:=r.lb
 len:=by simpa using r.len
 slot:=λj s' e=>by
  rcases ũ e with⟨rfl,rfl,hl⟩|⟨hj,e⟩
  ·rw[Bv (by rw[r.len];exact hl)];exact h
  ·rw[wX hj];exact r.slot j s' e
 sep:=λj k b h1 h2=>by
  have off:∀{j},ĺ F (σ.set i x) (ρ.set i s) j b->j≠i:=fun{j} q z=>by
   subst z
   obtain⟨s',y,q1,_,q2⟩:=q
   rcases ũ q1 with⟨_,rfl,_⟩|⟨q,_⟩
   ·have:=jU q2;rw[hs] at this;cases this
   ·exact q rfl
  exact r.sep j k b (h1.off (off h1)) (h2.off (off h2))
def Rel.Jf(r:Rel K c F H σ ρ){i:Nat}{s:Slot}(hs:s.own=false)(h:ś K c F H ((σ[i]?).getD none) s):Rel K c F H σ (ρ.set i s) where
 sub:=r.sub
 base:=r.base
 f0:=r.f0
 ak:=r.ak
 lent:=r.lent
 lb:=r.lb
 len:=by simpa using r.len
 slot:=λj s' e=>by
  rcases ũ e with⟨rfl,rfl,hl⟩|⟨hj,e⟩
  ·exact h
  ·exact r.slot j s' e
 sep:=λj k b h1 h2=>by
  have off:∀{j},ĺ F σ (ρ.set i s) j b->ĺ F σ ρ j b:=fun{j} ⟨s',y,q1,q3,q2⟩=>by
   rcases ũ q1 with⟨_,rfl,_⟩|⟨_,q⟩
   ·have:=jU q2;rw[hs] at this;cases this
   ·exact⟨s',y,q,q3,q2⟩
  exact r.sep j k b (off h1) (off h2)
def Rel.Bw(r:Rel K c F H σ ρ){i:Nat}{x:V}{s:Slot}(h:ś K c F H (some x) s)(hf:∀a,s.at_ F x a->gD F σ ρ a):Rel K c F H (σ.set i (some x)) (ρ.set i s) where
 sub:=r.sub
 base:=r.base
 f0:=r.f0
 ak:=r.ak
 lent:=r.lent
 lb:=r.lb
 len:=by simpa using r.len
 slot:=λj s' e=>by
  rcases ũ e with⟨rfl,rfl,hl⟩|⟨hj,e⟩
  ·rw[Bv (by rw[r.len];exact hl)];exact h
  ·rw[wX hj];exact r.slot j s' e
 sep:=λj k b h1 h2=>by
  have QH:∀{j},ĺ F (σ.set i (some x)) (ρ.set i s) j b->(j=i/\s.at_ F x b)\/(j≠i/\ĺ F σ ρ j b):=fun{j} q=>by
   by_cases hj:j=i
   ·subst hj
    obtain⟨s',y,q1,q2,q3⟩:=q
    rcases ũ q2 with⟨_,e,_⟩|⟨z,_⟩
    ·cases e
     rcases ũ q1 with⟨_,e,_⟩|⟨z,_⟩
     ·cases e
      exact .inl ⟨rfl,q3⟩
     ·exact absurd rfl z
    ·exact absurd rfl z
   ·exact .inr ⟨hj,q.off hj⟩
  rcases QH h1 with⟨e1,z1⟩|⟨e1,o1⟩
  ·rcases QH h2 with⟨e2,z2⟩|⟨e2,o2⟩
   ·rw[e1,e2]
   ·exact absurd o2 (hf b z1 k)
  ·rcases QH h2 with⟨e2,z2⟩|⟨e2,o2⟩
   ·exact absurd o1 (hf b z2 j)
   ·exact r.sep j k b o1 o2
def Rel.uQ(r:Rel K c F H σ ρ){i:Nat}{s:Slot}(ho:ĺ F σ ρ i a)(h:ś K c F (upd H a o) ((σ[i]?).getD none) s)(hs:∀x b,σ[i]?=some (some x)->s.at_ F x b->ĺ F σ ρ i b):Rel K c F (upd H a o) σ (ρ.set i s) where
 sub:=λb u e=>by
  have hb:b≠a:=λz=>by rw[z,(r.owned ho).2.1] at e;cases e
  rw[Ě hb];exact r.sub b u e
 base:=λb u e=>by
  have hb:b≠a:=λz=>by rw[z,(r.owned ho).2.2] at e;cases e
  rw[Ě hb];exact r.base b u e
 f0:=r.f0
 ak:=r.ak
 lent:=λb u e=>by
  have hb:b≠a:=λz=>by rw[z,r.lb a (r.owned ho).2.2] at e;cases e
  rw[Ě hb];exact r.lent b u e
 lb:=r.lb
 len:=by simpa using r.len
 slot:=λj s' e=>by
  rcases ũ e with⟨rfl,rfl,hl⟩|⟨hj,e⟩
  ·exact h
  ·refine(r.slot j s' e).grow (Same.refl F) λb u ⟨y,e1,e2⟩ h1 h2 h3=>?_
   have hb:b≠a:=λz=>by
    subst z
    exact hj (r.sep j i b ⟨s',y,e,Bu e1,e2⟩ ho)
   exact⟨by rw[Ě hb];exact h1,h2⟩
 sep:=λj k b h1 h2=>by
  have off:∀{j},ĺ F σ (ρ.set i s) j b->ĺ F σ ρ j b:=fun{j} ⟨s',y,q1,q3,q2⟩=>by
   rcases ũ q1 with⟨e,rfl,_⟩|⟨_,q⟩
   ·subst e
    exact hs y b q3 q2
   ·exact⟨s',y,q,q3,q2⟩
  exact r.sep j k b (off h1) (off h2)
def Rel.write(r:Rel K c F H σ ρ){i:Nat}{s:Slot}(ho:ĺ F σ ρ i a)(hx:σ[i]?=some (some (.ref a)))(h:ś K c F (upd H a o) (some (.ref a)) s)(hs:∀b,s.at_ F (.ref a) b->b=a):Rel K c F (upd H a o) σ (ρ.set i s):=
 r.uQ ho (by rw[hx];exact h) λx b e q=>by rw[hx] at e;cases e;rw[hs b q];exact ho
structure Gr(F H F' H':Hp):Prop where
 h:Same H H'
 f:Same F F'
 sub:Same F' H'
 out:∀a,H a≠none->F a=none->F' a=none
def Rel.call(r:Rel K c F H σ ρ)(g:Gr F H F' H'):Rel K c F' H' σ ρ where
 sub:=g.sub
 base:=r.base.trans g.h
 f0:=r.f0.trans g.f
 ak:=λb h1 h2=>by
  refine g.out b (λz=>h1 ?_) (r.ak b h1 h2)
  cases q:c.B b with
  |none=>rfl
  |some u=>rw[r.base _ _ q] at z;cases z
 lent:=λb u e=>⟨g.h b u (r.lent b u e).1,g.out b (by rw[(r.lent b u e).1];intro z;cases z) (r.lent b u e).2⟩
 lb:=r.lb
 len:=r.len
 slot:=λi s e=>(r.slot i s e).grow g.f λb u _ h1 h2 h3=>⟨g.h b u h1,g.out b (by rw[h1];intro z;cases z) h2⟩
 sep:=r.QG g.f
def ctx0(F H:Hp):Ctx:=⟨H,F,λa=>match F a with
 |none=>H a
 |some _=>none,λ_ _ _=>True⟩
def bN{a:Addr}{u:HO}(h:(ctx0 F H).L a=some u):H a=some u/\F a=none:=by
 unfold ctx0 at h
 dsimp only at h
 cases q:F a with
 |none=>rw[q] at h;exact⟨h,rfl⟩
 |some o=>rw[q] at h;cases h
def Rel.gr(r:Rel K (ctx0 F H) F' H' σ ρ):Gr F H F' H':=⟨r.base,r.f0,r.sub,r.ak⟩
def aB(K:KK)(F H:Hp):Slot->V->Prop
 | .sh p,v=>Rep K F p v
 | .bw ps,v=>∃a vs,v=.ref a/\H a=some (.lst vs)/\F a=none/\đ K F ps vs
 |_,_=>False
def aB.slot{s:Slot}{v:V}(h:aB K F H s v):ś K (ctx0 F H) F H (some v) s/\s.own=false:=by
 cases s with
 |sh p=>exact⟨⟨v,rfl,h⟩,rfl⟩
 |bw ps=>
  obtain⟨a,vs,rfl,h1,h2,h3⟩:=h
  refine⟨⟨a,vs,rfl,?_,h3⟩,rfl⟩
  show(match F a with|none=>H a|some _=>none)=_
  rw[h2]
  exact h1
 |no=>exact h.elim
 |ow ps=>exact h.elim
 |rc C ns ps=>exact h.elim
 |ot ps qs rs=>exact h.elim
 |ol zO=>exact h.elim
 |od t kvs=>exact h.elim
 |bd t kvs=>exact h.elim
def startP(n:Nat)(as:List Slot):ļ:=as++List.replicate (n-as.length) .no
theorem Rel.start{N:List Str}{as:List Slot}{vs:List V}(s:Same F H)(h:Paired (aB K F H) as vs):Rel K (ctx0 F H) F H (L2.start N vs) (startP N.length as) where
 sub:=s
 base:=Same.refl H
 f0:=Same.refl F
 ak:=λ_ _ h=>h
 lent:=λ_ _ e=>bN e
 lb:=fun a e=>by
   cases q:(ctx0 F H).L a with
   |none=>rfl
   |some u=>
    have e':H a=none:=e
    rw[(bN q).1] at e'
    cases e'
 len:=by unfold L2.start startP;simp[Paired.length h]
 slot:=λi s' e=>by
  unfold startP at e
  by_cases hi:i<as.length
  ·rw[List.getElem?_append_left hi] at e
   obtain⟨v,h1,h2⟩:=aA h e
   have hv:((L2.start N vs)[i]?).getD none=some v:=by
    unfold L2.start
    rw[List.getElem?_append_left (by simpa[<-Paired.length h] using hi),List.getElem?_map,h1];rfl
   rw[hv]
   exact(aB.slot h2).1
  ·rw[List.getElem?_append_right (by omega),List.getElem?_replicate] at e
   split at e
   ·cases e;trivial
   ·cases e
 sep:=λi j a h1 _=>by
  obtain⟨s',y,h1,_,h2⟩:=h1
  have h2:=jU h2
  exfalso
  unfold startP at h1
  by_cases hi:i<as.length
  ·rw[List.getElem?_append_left hi] at h1
   obtain⟨v,_,h3⟩:=aA h h1
   rw[(aB.slot h3).2] at h2
   cases h2
  ·rw[List.getElem?_append_right (by omega),List.getElem?_replicate] at h1
   split at h1
   ·cases h1;cases h2
   ·cases h1
end
structure PX where
 C:String
 ns:List Str
 ps:List PV
def GQ(K:KK)(F:Hp)(x:PX)(C:Value)(d:Option Addr):Prop:=C=.ref (K.cm x.C)/\∃fs,rK F d fs/\fs.map (·.1)=x.ns/\đ K F x.ps (fs.map (·.2))
inductive Res(α:Type) where
 |ok (a:α) (ρ:ļ)|exc (x:PX) (ρ:ļ)|bad
def Res.bind{α β:Type}(r:Res α)(f:α->ļ->Res β):Res β:= match r with
 | .ok a ρ=>f a ρ
 | .exc x ρ=>.exc x ρ
 | .bad=>.bad
@[simp] theorem Res.Ū{α β:Type}{a:α}{ρ:ļ}{f:α->ļ->Res β}:(Res.ok a ρ).bind f=f a ρ:= rfl
@[simp] theorem Res.Vv{α β:Type}{x:PX}{ρ:ļ}{f:α->ļ->Res β}:(Res.exc x ρ:Res α).bind f=.exc x ρ:= rfl
@[simp] theorem Res.Vw{α β:Type}{f:α->ļ->Res β}:(Res.bad:Res α).bind f=.bad:=rfl
def Res.jJ{α:Type}(o:Option α)(ρ:ļ):Res α:= match o with
 |some a=>.ok a ρ
 |none=>.bad
@[simp] theorem Res.Vx{α:Type}{a:α}{ρ:ļ}:Res.jJ (some a) ρ=.ok a ρ:= rfl
@[simp] theorem Res.Vy{α:Type}{ρ:ļ}:Res.jJ (none:Option α) ρ=.bad:=rfl
abbrev M(α:Type):=ļ->Res α
inductive RV where
 |sh (p:PV)|ow (ps:List PV)|ot (ps qs rs:List PV)
def RV.val:RV->PV
 | .sh p=>p
 | .ow ps=>.lst ps
 | .ot ps qs rs=>.tup (ps ++ .lst qs::rs)
def RV.slot:RV->Slot
 | .sh p=>.sh p
 | .ow ps=>.ow ps
 | .ot ps qs rs=>.ot ps qs rs
abbrev RR(α β:Type):=Ctx->L2.St->ļ->Hp->Hp->α->β->Prop
def rV(K:KK):RR PV V:=λ_ _ _ F _ p v=>Rep K F p v
def wY(K:KK)(F H:Hp)(p:PV)(v:V):Prop:=match p with
 | .lst ps=>∃a vs,v=.ref a/\H a=some (.lst vs)/\đ K F ps vs
 | .ins C ns ps=>∃a dx fs,v=.ref a/\H a=some (.ins (K.cm C) dx fs)/\fs.map (·.1)=ns/\đ K F ps (fs.map (·.2))
 |_=>False
def rR(K:KK):RR PV V:=λ_ _ _ F H p v=>Rep K F p v\/wY K F H p v
def rA(K:KK):RR (List Slot) (List V):=λ_ _ _ F H as vs=>Paired (aB K F H) as vs
def Held(K:KK)(c:Ctx)(σ:L2.St)(ρ:ļ)(F H:Hp)(ps:List PV)(v:V):Prop:=∃a vs,v=.ref a/\H a=some (.lst vs)/\F a=none/\c.B a=none/\gD F σ ρ a/\đ K F ps vs
def wZ(K:KK)(c:Ctx)(σ:L2.St)(ρ:ļ)(F H:Hp)(ps qs rs:List PV)(v:V):Prop:=∃p a xs vs ys,v=.ref p/\F p=some (.tup (xs ++ .ref a::ys))/\đ K F ps xs/\H a=some (.lst vs)/\F a=none/\c.B a=none/\gD F σ ρ a/\đ K F qs vs/\đ K F rs ys
def rO(K:KK):RR RV V:=λc σ ρ F H r v=>match r with
 | .sh p=>Rep K F p v
 | .ow ps=>Held K c σ ρ F H ps v
 | .ot ps qs rs=>wZ K c σ ρ F H ps qs rs v
def rL(K:KK):RR (List PV) (List V):=λ_ _ _ F _ p v=>đ K F p v
def Vz(K:KK):RR (List PV) (List V):=λc σ ρ F H p v=>Paired (rR K c σ ρ F H) p v
def rB:RR Bool Bool:=λ_ _ _ _ _ p v=>p=v
def rI:RR (Option Int) (Option Int):=λ_ _ _ _ _ p v=>p=v
def Ż{α β:Type}(K:KK)(E:L2.St->XK)(R:RR α β)(c:Ctx)(F H:Hp)(σ:L2.St)(Q:β->Hp->Prop):Res α->Prop
 | .ok p ρ'=>∀v F' H',Rel K c F' H' σ ρ'->Same F F'->Same H H'->R c σ ρ' F' H' p v->Q v H'
 | .exc x ρ'=>∀C d F' H',Rel K c F' H' σ ρ'->Same F F'->GQ K F' x C d->E σ C d H'
 | .bad=>False
def tG{α β:Type}(K:KK)(E:L2.St->XK)(R:RR α β)(m:M α):L2.St->Hp->(β->Hp->Prop)->Prop:=λσ H Q=>∃c F ρ,Rel K c F H σ ρ/\Ż K E R c F H σ Q (m ρ)
section
variable{α β α' β':Type}{K:KK}{E:L2.St->XK}{R:RR α β}{R':RR α' β'}{c:Ctx}{F F1 H H1:Hp}{σ:L2.St}
def Ż.mono{Q:β->Hp->Prop}{r:Res α}(h:Ż K E R c F H σ Q r)(sF:Same F F1)(sH:Same H H1):Ż K E R c F1 H1 σ Q r:=by
 cases r with
 |ok p ρ'=>exact λv F' H' rel s1 s2 q=>h v F' H' rel (sF.trans s1) (sH.trans s2) q
 |exc x ρ'=>exact λC d F' H' rel s1 q=>h C d F' H' rel (sF.trans s1) q
 |bad=>exact h
theorem Ż.bind{Q:β->Hp->Prop}{Q':β'->Hp->Prop}{r:Res α}{f:α->ļ->Res α'}(h:Ż K E R' c F H σ Q' (r.bind f))
 (k:∀p ρ1 v F1 H1,Rel K c F1 H1 σ ρ1->Same F F1->Same H H1->R c σ ρ1 F1 H1 p v->Ż K E R' c F1 H1 σ Q' (f p ρ1)->Q v H1):Ż K E R c F H σ Q r:=by
 cases r with
 |ok p ρ'=>exact λv F' H' rel s1 s2 q=>k p ρ' v F' H' rel s1 s2 q (Ż.mono (show Ż K E R' c F H σ Q' (f p ρ') from h) s1 s2)
 |exc x ρ'=>exact h
 |bad=>exact h
theorem Ż.rel{R2:RR α β}{Q:β->Hp->Prop}{r:Res α}(h:Ż K E R c F H σ Q r)(k:∀p ρ' v F' H',Rel K c F' H' σ ρ'->R2 c σ ρ' F' H' p v->R c σ ρ' F' H' p v):Ż K E R2 c F H σ Q r:=by
 cases r with
 |ok p ρ'=>exact λv F' H' rel s1 s2 q=>h v F' H' rel s1 s2 (k p ρ' v F' H' rel q)
 |exc x ρ'=>exact h
 |bad=>exact h
end
abbrev tV(K:KK)(E:L2.St->XK)(m:M PV):TE:=tG K E (rV K) m
abbrev tR(K:KK)(E:L2.St->XK)(m:M PV):TE:=tG K E (rR K) m
abbrev tO(K:KK)(E:L2.St->XK)(m:M RV):TE:=tG K E (rO K) m
abbrev tL(K:KK)(E:L2.St->XK)(m:M (List PV)):TA:=tG K E (rL K) m
abbrev tA(K:KK)(E:L2.St->XK)(m:M (List Slot)):TA:=tG K E (rA K) m
abbrev Jg(K:KK)(E:L2.St->XK)(m:M (List PV)):TA:=tG K E (Vz K) m
abbrev tB(K:KK)(E:L2.St->XK)(m:M Bool):TT:=tG K E rB m
inductive Fl where
 |nx|bk|ct|rt (r:RV)
def Ŋ(K:KK)(E:L2.St->XK)(c:Ctx)(F:Hp)(D:Ends):Res Fl->Prop
 | .ok .nx ρ'=>∀σ' F' H',Rel K c F' H' σ' ρ'->Same F F'->D.nx σ' H'
 | .ok .bk ρ'=>∀σ' F' H',Rel K c F' H' σ' ρ'->Same F F'->D.bk σ' H'
 | .ok .ct ρ'=>∀σ' F' H',Rel K c F' H' σ' ρ'->Same F F'->D.ct σ' H'
 | .ok (.rt r) ρ'=>∀v σ' F' H',Rel K c F' H' σ' ρ'->Same F F'->rO K c σ' ρ' F' H' r v->D.rt v H'
 | .exc x ρ'=>∀σ' C d F' H',Rel K c F' H' σ' ρ'->Same F F'->GQ K F' x C d->E σ' C d H'
 | .bad=>False
def tS(K:KK)(E:L2.St->XK)(m:M Fl):TS:=λD σ H=>∃c F ρ,Rel K c F H σ ρ/\Ŋ K E c F D (m ρ)
section
variable{K:KK}{E:L2.St->XK}{c:Ctx}{F F1:Hp}{D:Ends}
def Ŋ.mono{r:Res Fl}(h:Ŋ K E c F D r)(sF:Same F F1):Ŋ K E c F1 D r:=by
 cases r with
 |ok f ρ'=>
  cases f with
  |rt v=>exact λv σ' F' H' rel s1 q=>h v σ' F' H' rel (sF.trans s1) q
  |nx=>exact λσ' F' H' rel s1=>h σ' F' H' rel (sF.trans s1)
  |bk=>exact λσ' F' H' rel s1=>h σ' F' H' rel (sF.trans s1)
  |ct=>exact λσ' F' H' rel s1=>h σ' F' H' rel (sF.trans s1)
 |exc x ρ'=>exact λσ' C d F' H' rel s1 q=>h σ' C d F' H' rel (sF.trans s1) q
 |bad=>exact h
theorem Ŋ.bind{α β:Type}{R:RR α β}{σ:L2.St}{H:Hp}{Q:β->Hp->Prop}{r:Res α}{f:α->ļ->Res Fl}(h:Ŋ K E c F D (r.bind f))
 (k:∀p ρ1 v F1 H1,Rel K c F1 H1 σ ρ1->Same F F1->R c σ ρ1 F1 H1 p v->Ŋ K E c F1 D (f p ρ1)->Q v H1):Ż K E R c F H σ Q r:=by
 cases r with
 |ok p ρ'=>exact λv F' H' rel s1 s2 q=>k p ρ' v F' H' rel s1 q (Ŋ.mono (show Ŋ K E c F D (f p ρ') from h) s1)
 |exc x ρ'=>exact λC d F' H' rel s1 q=>h σ C d F' H' rel s1 q
 |bad=>exact h
end
end P
namespace P
open PySem PySem.Spec PyProof.Rows L2 M2
def ė(i:Nat):M PV:=λρ=>match ρ[i]? with
 |some (.sh p)=>.ok p ρ
 |some (.ow ps)=>.ok (.lst ps) (ρ.set i (.sh (.lst ps)))
 |_=>.bad
def Ā(i:Nat):M PV:=λρ=>match ρ[i]? with
 |some (.sh p)=>.ok p ρ
 |some (.ow ps)=>.ok (.lst ps) ρ
 |some (.bw ps)=>.ok (.lst ps) ρ
 |some (.rc C ns ps)=>.ok (.ins C ns ps) ρ
 |_=>.bad
def cX(i:Nat):M RV:=λρ=>match ρ[i]? with
 |some (.sh p)=>.ok (.sh p) ρ
 |some (.ow ps)=>.ok (.ow ps) (ρ.set i .no)
 |_=>.bad
def mC(p:PV):M PV:=λρ=>.ok p ρ
def ŝ(m:M PV):M RV:=λρ=>(m ρ).bind λp ρ1=>.ok (.sh p) ρ1
def ċ(m:M RV):M PV:=λρ=>(m ρ).bind λr ρ1=>.ok r.val ρ1
section
variable{K:KK}{c:Ctx}{F H:Hp}{σ:L2.St}{ρ:ļ}
def at_of{i:Nat}{x:V}(h:(σ[i]?).getD none=some x):σ[i]?=some (some x):=by
 cases q:σ[i]? with
 |none=>rw[q] at h;cases h
 |some y=>rw[q] at h;exact congrArg some h
theorem Rel.ow(r:Rel K c F H σ ρ){i:Nat}{ps:List PV}(e:ρ[i]?=some (.ow ps)):∃a vs,σ[i]?=some (some (.ref a))/\H a=some (.lst vs)/\F a=none/\c.B a=none/\đ K F ps vs/\ĺ F σ ρ i a:=by
 obtain⟨a,vs,h1,h2,h3,h4,h5⟩:=r.slot i _ e
 exact⟨a,vs,at_of h1,h2,h3,h4,h5,⟨_,_,e,at_of h1,rfl⟩⟩
def Rel.move(r:Rel K c F H σ ρ){i:Nat}{a:Addr}(h:ĺ F σ ρ i a):Rel K c F H σ (ρ.set i .no)/\gD F σ (ρ.set i .no) a:=by
 refine⟨r.Jf rfl trivial,λj ⟨s,y,q1,q3,q2⟩=>?_⟩
 rcases ũ q1 with⟨_,rfl,_⟩|⟨hj,q⟩
 ·exact q2.elim
 ·exact hj (r.sep j i a ⟨s,y,q,q3,q2⟩ h)
def Rel.share(r:Rel K c F H σ ρ){i:Nat}{ps:List PV}(e:ρ[i]?=some (.ow ps)):∃a vs,σ[i]?=some (some (.ref a))/\F a=none/\Rep K (upd F a (.lst vs)) (.lst ps) (.ref a)/\Rel K c (upd F a (.lst vs)) H σ (ρ.set i (.sh (.lst ps))):=by
 obtain⟨a,vs,h1,h2,h3,h4,h5,ho⟩:=r.ow e
 obtain⟨m1,m2⟩:=r.move ho
 have rp:Rep K (upd F a (.lst vs)) (.lst ps) (.ref a):=by
  unfold Rep
  exact⟨a,vs,rfl,Ũ.of ĝ,h5.same (Same.upd h3) ps vs⟩
 have q:=(m1.freeze h2 h4 h3 m2).Jf (i:=i) (s:=.sh (.lst ps)) rfl (show ś K c _ H _ (.sh (.lst ps)) from⟨.ref a,by rw[h1];rfl,rp⟩)
 rw[List.set_set] at q
 exact⟨a,vs,h1,h3,rp,q⟩
def wY.mono{F1 H1:Hp}{p:PV}{v:V}(h:wY K F H p v)(sF:Same F F1)(sH:Same H H1):wY K F1 H1 p v:=by
 cases p with
 |lst ps=>
  obtain⟨a,vs,h2,h3,h4⟩:=h
  exact⟨a,vs,h2,sH _ _ h3,h4.same sF ps vs⟩
 |ins C ns ps=>
  obtain⟨a,dx,fs,h2,h3,h4,h5⟩:=h
  exact⟨a,dx,fs,h2,sH _ _ h3,h4,h5.same sF ps _⟩
 |_=>exact h.elim
theorem rR.mono{c:Ctx}{σ:L2.St}{ρ ρ':ļ}{F1 H1:Hp}{p:PV}{v:V}(h:rR K c σ ρ F H p v)(sF:Same F F1)(sH:Same H H1):rR K c σ ρ' F1 H1 p v:=by
 rcases h with h|h
 ·exact .inl (h.same sF p v)
 ·exact .inr (h.mono sF sH)
theorem rR.lst{c:Ctx}{σ:L2.St}{ρ:ļ}{ps:List PV}{v:V}(s:Same F H)(h:rR K c σ ρ F H (.lst ps) v):∃a vs,v=.ref a/\Ũ K.K H a vs/\đ K F ps vs:=by
 rcases h with h|⟨a,vs,h2,h3,h4⟩
 ·unfold Rep at h
  obtain⟨a,xs,h1,h2,h3⟩:=h
  exact⟨a,xs,h1,s.seq h2,h3⟩
 ·exact⟨a,vs,h2,Ũ.of h3,h4⟩
theorem rR.tup{c:Ctx}{σ:L2.St}{ρ:ļ}{ps:List PV}{v:V}(s:Same F H)(h:rR K c σ ρ F H (.tup ps) v):∃a vs,v=.ref a/\cL K.K H a vs/\đ K F ps vs:=by
 rcases h with h|h
 ·unfold Rep at h
  obtain⟨a,xs,h1,h2,h3⟩:=h
  exact⟨a,xs,h1,cL.of (s _ _ h2),h3⟩
 ·exact h.elim
theorem rR.int{c:Ctx}{σ:L2.St}{ρ:ļ}{i:Int}{v:V}(h:rR K c σ ρ F H (.int i) v):v=.int i:=by
 rcases h with h|h
 ·unfold Rep at h;exact h
 ·exact h.elim
theorem rR.str{c:Ctx}{σ:L2.St}{ρ:ļ}{i:Str}{v:V}(h:rR K c σ ρ F H (.str i) v):v=.str i:=by
 rcases h with h|h
 ·unfold Rep at h;exact h
 ·exact h.elim
theorem rR.bl{c:Ctx}{σ:L2.St}{ρ:ļ}{i:Bool}{v:V}(h:rR K c σ ρ F H (.bl i) v):v=.bl i:=by
 rcases h with h|h
 ·unfold Rep at h;exact h
 ·exact h.elim
theorem rR.non{c:Ctx}{σ:L2.St}{ρ:ļ}{v:V}(h:rR K c σ ρ F H .non v):v=.non:=by
 rcases h with h|h
 ·unfold Rep at h;exact h
 ·exact h.elim
theorem rR.ty{c:Ctx}{σ:L2.St}{ρ:ļ}{n:String}{v:V}(h:rR K c σ ρ F H (.ty n) v):v=.ty n:=by
 rcases h with h|h
 ·unfold Rep at h;exact h
 ·exact h.elim
theorem Rep.int{i:Int}:Rep K F (.int i) (.int i):=by unfold Rep;rfl
theorem Rep.str{i:Str}:Rep K F (.str i) (.str i):=by unfold Rep;rfl
theorem Rep.bl{i:Bool}:Rep K F (.bl i) (.bl i):=by unfold Rep;rfl
theorem Rep.non:Rep K F .non .non:=by unfold Rep;rfl
end
section
variable{X:Cx}{cm:String->Addr}{E:L2.St->XK}{a b e:Expr}{es:List Expr}{pos:Pos}{m ma mb mc:M PV}{mo:M RV}
def PT.wk{t t':TT}(h:PT X e t)(i:∀σ H Q,t' σ H Q->t σ H Q):PT X e t':=λpins s σ H Q I q=>h pins s σ H Q I (i σ H Q q)
def PA.wk{t t':TA}(h:PA X es t)(i:∀σ H Q,t' σ H Q->t σ H Q):PA X es t':=λpos pins s σ H Q I q=>h pos pins s σ H Q I (i σ H Q q)
def PW.wk{t t':TT}(h:PW X e t)(i:∀σ H Q,t' σ H Q->t σ H Q):PW X e t':=λwh pins s σ H Q I q=>h wh pins s σ H Q I (i σ H Q q)
def eV.wk{st:List Stmt}{t t':TS}(h:eV X st t)(i:∀D σ H,t' D σ H->t D σ H):eV X st t':=λpins s σ H D I q=>h pins s σ H D I (i D σ H q)
def v_var(i:Nat){x:Str}{pos:Pos}(hN:X.N[i]?=some x:=by rfl)(hv:uf X.env.scope x:=by first|exact Or.inl rfl|exact Or.inr (Or.inl rfl)|exact Or.inr (Or.inr rfl))(hd:(x== ("__debug__" :Str))=false:=by decide)
 (hcd:(x== ("__classdict__" :Str))=false:=by decide):PE X (.Name x pos) (tV (kk X cm) E (ė i)):=PE.wk (au hN hv hd hcd) λσ H Q ⟨c,F,ρ,rel,h⟩=>by
 unfold ė at h
 split at h
 ·rename_i p e
  obtain⟨v,h1,h2⟩:=rel.slot i _ e
  exact⟨v,at_of h1,h v F H rel (Same.refl F) (Same.refl H) h2⟩
 ·rename_i ps e
  obtain⟨a,vs,h1,h2,h3,h4⟩:=rel.share e
  exact⟨.ref a,h1,h _ _ H h4 (Same.upd h2) (Same.refl H) h3⟩
 ·exact h.elim
def Ă(i:Nat){x:Str}{pos:Pos}(hN:X.N[i]?=some x:=by rfl)(hv:uf X.env.scope x:=by first|exact Or.inl rfl|exact Or.inr (Or.inl rfl)|exact Or.inr (Or.inr rfl))(hd:(x== ("__debug__" :Str))=false:=by decide)
 (hcd:(x== ("__classdict__" :Str))=false:=by decide):PE X (.Name x pos) (tR (kk X cm) E (Ā i)):=PE.wk (au hN hv hd hcd) λσ H Q ⟨c,F,ρ,rel,h⟩=>by
 unfold Ā at h
 split at h
 ·rename_i p e
  obtain⟨v,h1,h2⟩:=rel.slot i _ e
  exact⟨v,at_of h1,h v F H rel (Same.refl F) (Same.refl H) (.inl h2)⟩
 ·rename_i ps e
  obtain⟨a,vs,h1,h2,h3,h4,h5,_⟩:=rel.ow e
  exact⟨.ref a,h1,h _ F H rel (Same.refl F) (Same.refl H) (.inr ⟨a,vs,rfl,h2,h5⟩)⟩
 ·rename_i ps e
  obtain⟨a,vs,h1,h2,h3⟩:=rel.slot i _ e
  exact⟨.ref a,at_of h1,h _ F H rel (Same.refl F) (Same.refl H) (.inr ⟨a,vs,rfl,(rel.lent a _ h2).1,h3⟩)⟩
 ·rename_i C ns ps e
  obtain⟨a,dx,fs,h1,h2,h3,h4,h5,h6⟩:=rel.slot i _ e
  exact⟨.ref a,at_of h1,h _ F H rel (Same.refl F) (Same.refl H) (.inr ⟨a,dx,fs,rfl,h2,h5,h6.1⟩)⟩
 ·exact h.elim
def i_(i:Nat){x:Str}{pos:Pos}(hN:X.N[i]?=some x:=by rfl)(hv:uf X.env.scope x:=by first|exact Or.inl rfl|exact Or.inr (Or.inl rfl)|exact Or.inr (Or.inr rfl))(hd:(x== ("__debug__" :Str))=false:=by decide)
 (hcd:(x== ("__classdict__" :Str))=false:=by decide):PE X (.Name x pos) (tO (kk X cm) E (cX i)):=PE.wk (au hN hv hd hcd) λσ H Q ⟨c,F,ρ,rel,h⟩=>by
 unfold cX at h
 split at h
 ·rename_i p e
  obtain⟨v,h1,h2⟩:=rel.slot i _ e
  exact⟨v,at_of h1,h v F H rel (Same.refl F) (Same.refl H) h2⟩
 ·rename_i ps e
  obtain⟨a,vs,h1,h2,h3,h4,h5,h6⟩:=rel.ow e
  obtain⟨m1,m2⟩:=rel.move h6
  exact⟨.ref a,h1,h _ F H m1 (Same.refl F) (Same.refl H) ⟨a,vs,rfl,h2,h3,h4,m2,h5⟩⟩
 ·exact h.elim
def Jh{v:V}(p:PV)(h:PE X e (tC v))(hr:∀F,Rep (kk X cm) F p v:=by intro _;unfold Rep;rfl):PE X e (tV (kk X cm) E (mC p)):=PE.wk h λσ H Q ⟨c,F,ρ,rel,h⟩=>h v F H rel (Same.refl F) (Same.refl H) (hr F)
def Ĝ{i j pos}:PE X (.Constant (.int i) j pos) (tV (kk X cm) E (mC (.int i))):=Jh _ Ot
def GR{i j pos}:PE X (.Constant (.bool i) j pos) (tV (kk X cm) E (mC (.bl i))):=Jh _ Uw
def Ji{j pos}:PE X (.Constant .none j pos) (tV (kk X cm) E (mC .non)):=Jh _ Ou
def nu{x j pos}:PE X (.Constant (.str x) j pos) (tV (kk X cm) E (mC (.str x))):=Jh _ Ov
def ğ(h:PE X e (tV (kk X cm) E m)):PE X e (tR (kk X cm) E m):=PE.wk h λσ H Q ⟨c,F,ρ,rel,h⟩=>⟨c,F,ρ,rel,h.rel λ_ _ _ _ _ _ q=>.inl q⟩
def ŵ(h:PE X e (tV (kk X cm) E m)):PE X e (tO (kk X cm) E (ŝ m)):=PE.wk h λσ H Q ⟨c,F,ρ,rel,h⟩=>⟨c,F,ρ,rel,h.bind λp ρ1 v F1 H1 Đ s1 s2 q h1=>h1 v F1 H1 Đ (Same.refl _) (Same.refl _) q⟩
def Held.share{K:KK}{c:Ctx}{F H:Hp}{σ:L2.St}{ρ:ļ}{ps:List PV}{v:V}(rel:Rel K c F H σ ρ)(h:Held K c σ ρ F H ps v):∃F1,Same F F1/\Rel K c F1 H σ ρ/\Rep K F1 (.lst ps) v:=by
 obtain⟨a,vs,rfl,h1,h2,h3,h4,h5⟩:=h
 refine⟨_,Same.upd h2,rel.freeze h1 h3 h2 h4,?_⟩
 unfold Rep
 exact⟨a,vs,rfl,Ũ.of ĝ,h5.same (Same.upd h2) ps vs⟩
def wZ.share{K:KK}{c:Ctx}{F H:Hp}{σ:L2.St}{ρ:ļ}{ps qs rs:List PV}{v:V}(rel:Rel K c F H σ ρ)(h:wZ K c σ ρ F H ps qs rs v):∃F1,Same F F1/\Rel K c F1 H σ ρ/\Rep K F1 (.tup (ps ++ .lst qs::rs)) v:=by
 obtain⟨p,a,xs,vs,ys,rfl,h0,hx,h1,h2,h3,h4,h5,h6⟩:=h
 refine⟨_,Same.upd h2,rel.freeze h1 h3 h2 h4,?_⟩
 have ra:Rep K (upd F a (.lst vs)) (.lst qs) (.ref a):=by
  unfold Rep
  exact⟨a,vs,rfl,Ũ.of ĝ,h5.same (Same.upd h2) qs vs⟩
 unfold Rep
 exact⟨p,_,rfl,Same.upd h2 _ _ h0,đ.append (hx.same (Same.upd h2) ps xs) (đ.cons ra (h6.same (Same.upd h2) rs ys))⟩
def Ġ(h:PE X e (tO (kk X cm) E mo)):PE X e (tV (kk X cm) E (ċ mo)):=PE.wk h λσ H Q ⟨c,F,ρ,rel,h⟩=>⟨c,F,ρ,rel,h.bind λr ρ1 v F1 H1 Đ s1 s2 q h1=>by
 cases r with
 |sh p=>exact h1 v F1 H1 Đ (Same.refl _) (Same.refl _) q
 |ow ps=>
  obtain⟨F2,s3,ī,rp⟩:=Held.share Đ q
  exact h1 v F2 H1 ī s3 (Same.refl _) rp
 |ot ps qs rs=>
  obtain⟨F2,s3,ī,rp⟩:=wZ.share Đ q
  exact h1 v F2 H1 ī s3 (Same.refl _) rp⟩
def ą(f:PV->PV->Option PV)(ma mb:M PV):M PV:=λρ=>(ma ρ).bind λp ρ1=>(mb ρ1).bind λq ρ2=>Res.jJ (f p q) ρ2
def Ģ(f:PV->PV->Option RV)(ma mb:M PV):M RV:=λρ=>(ma ρ).bind λp ρ1=>(mb ρ1).bind λq ρ2=>Res.jJ (f p q) ρ2
def iu(K:KK)(r:R2)(f:PV->PV->Option PV):Prop:=∀{c:Ctx} {F H:Hp} {σ:L2.St} {ρ:ļ} {p q pv:PV} {v u:V} {Q:VK},Rel K c F H σ ρ->rR K c σ ρ F H p v->rR K c σ ρ F H q u->f p q=some pv->
 (∀z F' H',Rel K c F' H' σ ρ->Same F F'->Same H H'->Rep K F' pv z->Q z H')->r v u H Q
def OpO(K:KK)(r:R2)(f:PV->PV->Option RV):Prop:=∀{c:Ctx} {F H:Hp} {σ:L2.St} {ρ:ļ} {p q:PV} {pv:RV} {v u:V} {Q:VK},Rel K c F H σ ρ->rR K c σ ρ F H p v->rR K c σ ρ F H q u->f p q=some pv->
 (∀z F' H',Rel K c F' H' σ ρ->Same F F'->Same H H'->rO K c σ ρ F' H' pv z->Q z H')->r v u H Q
def xg{r:R2}{f:PV->PV->Option PV}(hf:iu (kk X cm) r f){σ:L2.St}{H:Hp}{Q:VK}(h:tV (kk X cm) E (ą f ma mb) σ H Q):Ui r (tR (kk X cm) E ma) (tR (kk X cm) E mb) σ H Q:=by
 obtain⟨c,F,ρ,rel,h⟩:=h
 refine⟨c,F,ρ,rel,h.bind λp ρ1 v F1 H1 Đ _ _ r1 h1=>⟨c,F1,ρ1,Đ,h1.bind λq ρ2 u F2 H2 ī sF sH r2 h2=>?_⟩⟩
 cases e:f p q with
 |none=>rw[e] at h2;exact h2.elim
 |some pv=>rw[e] at h2;exact hf ī (r1.mono sF sH) r2 e λz F' H' Ű s1 s2 q'=>h2 z F' H' Ű s1 s2 q'
def VB{r:R2}{f:PV->PV->Option RV}(hf:OpO (kk X cm) r f){σ:L2.St}{H:Hp}{Q:VK}(h:tO (kk X cm) E (Ģ f ma mb) σ H Q):Ui r (tR (kk X cm) E ma) (tR (kk X cm) E mb) σ H Q:=by
 obtain⟨c,F,ρ,rel,h⟩:=h
 refine⟨c,F,ρ,rel,h.bind λp ρ1 v F1 H1 Đ _ _ r1 h1=>⟨c,F1,ρ1,Đ,h1.bind λq ρ2 u F2 H2 ī sF sH r2 h2=>?_⟩⟩
 cases e:f p q with
 |none=>rw[e] at h2;exact h2.elim
 |some pv=>rw[e] at h2;exact hf ī (r1.mono sF sH) r2 e λz F' H' Ű s1 s2 q'=>h2 z F' H' Ű s1 s2 q'
def aM{op:Operator}{r:R2}{f:PV->PV->Option PV}(hf:iu (kk X cm) r f)(ho:ş X (binaryOp op) r)(ha:PE X a (tR (kk X cm) E ma))(hb:PE X b (tR (kk X cm) E mb)):PE X (.BinOp a op b pos) (tV (kk X cm) E (ą f ma mb)):=PE.wk (Jb ho ha hb) λ_ _ _ h=>xg hf h
def VD{op:Operator}{r:R2}{f:PV->PV->Option RV}(hf:OpO (kk X cm) r f)(ho:ş X (binaryOp op) r)(ha:PE X a (tR (kk X cm) E ma))(hb:PE X b (tR (kk X cm) E mb)):PE X (.BinOp a op b pos) (tO (kk X cm) E (Ģ f ma mb)):=PE.wk (Jb ho ha hb) λ_ _ _ h=>VB hf h
def rN{op:CmpOp}{r:R2}{f:PV->PV->Option PV}(hf:iu (kk X cm) r f)(ho:ş X (compareOp op) r)(ha:PE X a (tR (kk X cm) E ma))(hb:PE X b (tR (kk X cm) E mb))(hm:behindInMarks op b=false):PE X (.Compare a [op] [b] pos) (tV (kk X cm) E (ą f ma mb)):=
 PE.wk (Gg ho ha hb hm) λ_ _ _ h=>xg hf h
def ZaW{r:R2}{f:PV->PV->Option PV}(hf:iu (kk X cm) r f)(hr:uL X r)(ha:PE X a (tR (kk X cm) E ma))(hb:PE X b (tR (kk X cm) E mb))(hs:jE b):PE X (.Subscript a b pos) (tV (kk X cm) E (ą f ma mb)):=
 PE.wk (Vi hr ha hb hs) λ_ _ _ h=>xg hf h
def jq(f:PV->Option PV)(ma:M PV):M PV:=λρ=>(ma ρ).bind λp ρ1=>Res.jJ (f p) ρ1
def UnV(K:KK)(r:V->Hp->VK->Prop)(f:PV->Option PV):Prop:=∀{c:Ctx} {F H:Hp} {σ:L2.St} {ρ:ļ} {p pv:PV} {v:V} {Q:VK},Rel K c F H σ ρ->rR K c σ ρ F H p v->f p=some pv->
 (∀z F' H',Rel K c F' H' σ ρ->Same F F'->Same H H'->Rep K F' pv z->Q z H')->r v H Q
def uR{op:UnaryOp}{r:V->Hp->VK->Prop}{f:PV->Option PV}(hf:UnV (kk X cm) r f)(ho:Gd X (unaryOp op) r)(ha:PE X a (tR (kk X cm) E ma)):PE X (.UnaryOp op a pos) (tV (kk X cm) E (jq f ma)):=PE.wk (Vc ho ha) λσ H Q ⟨c,F,ρ,rel,h⟩=>
 ⟨c,F,ρ,rel,h.bind fun p ρ1 v F1 H1 Đ _ _ r1 h1=>by
   cases e:f p with
   |none=>rw[e] at h1;exact h1.elim
   |some pv=>rw[e] at h1;exact hf Đ r1 e λz F' H' Ű s1 s2 q'=>h1 z F' H' Ű s1 s2 q'⟩
def GX:PV->Option Bool
 | .bl b=>some b
 | .int i=>some (i != 0)
 | .non=>some false
 | .str y=>if y.length<=sizeLine then some ((y.length:Int) != 0) else none
 | .lst ps=>some (!ps.isEmpty)
 | .tup ps=>some (!ps.isEmpty)
 |_=>none
def pH(m:M PV):M Bool:=λρ=>(m ρ).bind λp ρ1=>Res.jJ (GX p) ρ1
def VF{K:KK}{c:Ctx}{F H:Hp}{σ:L2.St}{ρ:ļ}{p:PV}{v:V}{k:Bool}(s:Same F H)(r:rR K c σ ρ F H p v)(h:GX p=some k):Qc K.K v H k:=by
 cases p with
 |bl b=>cases r.bl;cases h;rfl
 |int i=>cases r.int;cases h;rfl
 |non=>cases r.non;cases h;rfl
 |str y=>
  cases r.str
  have h':(if y.length<=sizeLine then some ((y.length:Int) != 0) else none)=some k:=h
  split at h'
  ·rename_i hy;cases h';exact⟨hy,rfl⟩
  ·cases h'
 |lst ps=>
  obtain⟨a,vs,rfl,h1,h2⟩:=r.lst s
  cases h
  have e:ps.isEmpty=vs.isEmpty:=by cases h2.pr<;>rfl
  exact .inl ⟨vs,h1,by rw[e]⟩
 |tup ps=>
  obtain⟨a,vs,rfl,h1,h2⟩:=r.tup s
  cases h
  have e:ps.isEmpty=vs.isEmpty:=by cases h2.pr<;>rfl
  exact .inr (.inl ⟨vs,h1,by rw[e]⟩)
 |ins C ns ps=>cases h
 |xc C ns ps=>cases h
 |ty n=>cases h
 |cls C=>cases h
 |cM _ _=>cases h
def jW(ha:PE X a (tR (kk X cm) E ma))(he:∀whole,isTrue a X.env whole=(do let v <-whole;standAt a.pos;holding [v] (truthy v)):=by intro _;rfl):PT X a (tB (kk X cm) E (pH ma)):=PT.wk (Aj ha he) λσ H Q ⟨c,F,ρ,rel,h⟩=>
 ⟨c,F,ρ,rel,h.bind fun p ρ1 v F1 H1 Đ _ _ r1 h1=>by
   cases e:GX p with
   |none=>rw[e] at h1;exact h1.elim
   |some k=>rw[e] at h1;exact⟨k,VF Đ.sub r1 e,h1 k F1 H1 Đ (Same.refl _) (Same.refl _) rfl⟩⟩
def bA(m:M PV):M Bool:=λρ=>(m ρ).bind λp ρ1=>match p with
 | .bl b=>.ok b ρ1
 |_=>.bad
def VG{σ:L2.St}{H:Hp}{Q:Bool->Hp->Prop}(h:tB (kk X cm) E (bA m) σ H Q):M2.Jd (tV (kk X cm) E m) σ H Q:=by
 obtain⟨c,F,ρ,rel,h⟩:=h
 refine⟨c,F,ρ,rel,h.bind λp ρ1 v F1 H1 Đ _ _ r1 h1=>?_⟩
 cases p with
 |bl b=>
  have e:v=.bl b:=by have r1':Rep (kk X cm) F1 (.bl b) v:=r1;unfold Rep at r1';exact r1'
  subst e
  exact h1 b F1 H1 Đ (Same.refl _) (Same.refl _) rfl
 |_=>exact h1.elim
def cY{op:CmpOp}{r:R2}{f:PV->PV->Option PV}(hf:iu (kk X cm) r f)(ho:ş X (compareOp op) r)(ha:PE X a (tR (kk X cm) E ma))(hb:PE X b (tR (kk X cm) E mb))(hm:behindInMarks op b=false):PT X (.Compare a [op] [b] pos) (tB (kk X cm) E (bA (ą f ma mb))):=
 PT.wk (Qp ho ha hb hm) fun σ H Q h=>by
   obtain⟨c,F,ρ,rel,h⟩:=VG h
   exact xg hf ⟨c,F,ρ,rel,h⟩
def zf(f g:PV->PV->Option PV)(ma mb mc:M PV):M PV:=λρ=>(ma ρ).bind λp ρ1=>(mb ρ1).bind λq ρ2=>(Res.jJ (f p q) ρ2).bind λz ρ3=>match z with
 | .bl true=>(mc ρ3).bind λw ρ4=>Res.jJ (g q w) ρ4
 | .bl false=>.ok (.bl false) ρ3
 |_=>.bad
def VH{r r':R2}{f g:PV->PV->Option PV}(hf:iu (kk X cm) r f)(hg:iu (kk X cm) r' g){σ:L2.St}{H:Hp}{Q:VK}(h:tV (kk X cm) E (zf f g ma mb mc) σ H Q):M2.Ay r r' (tR (kk X cm) E ma) (tR (kk X cm) E mb) (tR (kk X cm) E mc) σ H Q:=by
 obtain⟨c,F,ρ,rel,h⟩:=h
 refine⟨c,F,ρ,rel,h.bind λp ρ1 v F1 H1 Đ _ _ r1 h1=>⟨c,F1,ρ1,Đ,h1.bind λq ρ2 u F2 H2 ī sF sH r2 h2=>?_⟩⟩
 cases e:f p q with
 |none=>rw[e] at h2;exact h2.elim
 |some pv=>
  rw[e] at h2
  refine hf ī (r1.mono sF sH) r2 e λz F' H' Ű s1 s2 q'=>?_
  cases pv with
  |bl k=>
   have ez:z=.bl k:=by unfold Rep at q';exact q'
   subst ez
   cases k with
   |false=>exact h2 _ F' H' Ű s1 s2 q'
   |true=>
    refine⟨c,F',ρ2,Ű,Ż.bind (Ż.mono h2 s1 s2) λw ρ4 x F4 H4 uT s3 s4 r4 h4=>?_⟩
    cases e':g q w with
    |none=>rw[e'] at h4;exact h4.elim
    |some pv'=>rw[e'] at h4;exact hg uT (r2.mono (s1.trans s3) (s2.trans s4)) r4 e' λz F' H' Ű s1 s2 q'=>h4 z F' H' Ű s1 s2 q'
  |_=>exact h2.elim
def Bx{op op':CmpOp}{r r':R2}{f g:PV->PV->Option PV}{c:Expr}(hf:iu (kk X cm) r f)(hg:iu (kk X cm) r' g)(ho:ş X (compareOp op) r)(ho':ş X (compareOp op') r')(ha:PE X a (tR (kk X cm) E ma))(hb:PE X b (tR (kk X cm) E mb))(hc:PE X c (tR (kk X cm) E mc))
 (hm:lastMarks [op,op'] [b,c]=false:=by with_unfolding_all rfl):PE X (.Compare a [op,op'] [b,c] pos) (tV (kk X cm) E (zf f g ma mb mc)):=PE.wk (Az ho ho' ha hb hc hm) λ_ _ _ h=>VH hf hg h
def eY(ma mb:M Bool):M Bool:=λρ=>(ma ρ).bind λb ρ1=>if b=true then mb ρ1 else .ok false ρ1
def QJ(ma mb:M Bool):M Bool:=λρ=>(ma ρ).bind λb ρ1=>if b=true then .ok true ρ1 else mb ρ1
variable{ta tb:M Bool}{rest:List Expr}
def cZ(h:PT X a (tB (kk X cm) E ta)):PW X (.BoolOp .And [a] pos) (tB (kk X cm) E ta):=FQ h
def VJ(h:PT X a (tB (kk X cm) E ta)):PW X (.BoolOp .Or [a] pos) (tB (kk X cm) E ta):=Ow h
def w_and(ha:PT X a (tB (kk X cm) E ta))(hb:PW X (.BoolOp .And (b::rest) pos) (tB (kk X cm) E tb)):PW X (.BoolOp .And (a::b::rest) pos) (tB (kk X cm) E (eY ta tb)):=PW.wk (Ox ha hb) λσ H Q ⟨c,F,ρ,rel,h⟩=>
 ⟨c,F,ρ,rel,h.bind fun p ρ1 v F1 H1 Đ _ _ r1 h1=>by
   have e:p=v:=r1
   subst e
   cases p with
   |true=>exact⟨c,F1,ρ1,Đ,h1⟩
   |false=>exact h1 false F1 H1 Đ (Same.refl _) (Same.refl _) rfl⟩
def w_or(ha:PT X a (tB (kk X cm) E ta))(hb:PW X (.BoolOp .Or (b::rest) pos) (tB (kk X cm) E tb)):PW X (.BoolOp .Or (a::b::rest) pos) (tB (kk X cm) E (QJ ta tb)):=PW.wk (Uy ha hb) λσ H Q ⟨c,F,ρ,rel,h⟩=>
 ⟨c,F,ρ,rel,h.bind fun p ρ1 v F1 H1 Đ _ _ r1 h1=>by
   have e:p=v:=r1
   subst e
   cases p with
   |false=>exact⟨c,F1,ρ1,Đ,h1⟩
   |true=>exact h1 true F1 H1 Đ (Same.refl _) (Same.refl _) rfl⟩
def gF(ma mb:M PV):M PV:=λρ=>(ma ρ).bind λp ρ1=>match p with
 | .bl true=>mb ρ1
 | .bl false=>.ok (.bl false) ρ1
 |_=>.bad
def uU{K:KK}{F:Hp}{b:Bool}{v:V}(h:Rep K F (.bl b) v):v=.bl b:=by unfold Rep at h;exact h
def nA{op}(h:PE X a (tV (kk X cm) E ma)):PE X (.BoolOp op [a] pos) (tV (kk X cm) E ma):=Oz h
def v_and(ha:PE X a (tV (kk X cm) E ma))(hb:PE X (.BoolOp .And (b::rest) pos) (tV (kk X cm) E mb)):PE X (.BoolOp .And (a::b::rest) pos) (tV (kk X cm) E (gF ma mb)):=PE.wk (Qq ha hb) λσ H Q ⟨c,F,ρ,rel,h⟩=>
 ⟨c,F,ρ,rel,h.bind fun p ρ1 v F1 H1 Đ _ _ r1 h1=>by
   cases p with
   |bl k=>
    cases uU r1
    cases k with
    |true=>exact⟨c,F1,ρ1,Đ,h1⟩
    |false=>exact h1 _ F1 H1 Đ (Same.refl _) (Same.refl _) r1
   |_=>exact h1.elim⟩
def dX{α:Type}(t:M Bool)(ma mb:M α):M α:= λρ=>(t ρ).bind λb ρ1=>if b=true then ma ρ1 else mb ρ1
def Ē:M (List PV):=λρ=>.ok [] ρ
def ā(ma:M PV)(mr:M (List PV)):M (List PV):=λρ=>(ma ρ).bind λp ρ1=>(mr ρ1).bind λps ρ2=>.ok (p::ps) ρ2
variable{mr:M (List PV)}
def Ę:PA X [] (tL (kk X cm) E Ē):=PA.wk oX λσ H Q ⟨c,F,ρ,rel,h⟩=>h [] F H rel (Same.refl _) (Same.refl _) đ.nil
def ă(ha:PE X e (tV (kk X cm) E ma))(hr:PA X es (tL (kk X cm) E mr))(hs:starEach (e::es) X.env=(false,eval e X.env)::starEach es X.env:=by exact cW rfl):PA X (e::es) (tL (kk X cm) E (ā ma mr)):=PA.wk (gj ha hr hs) λσ H Q ⟨c,F,ρ,rel,h⟩=>
 ⟨c,F,ρ,rel,h.bind λp ρ1 v F1 H1 Đ _ _ r1 h1=>⟨c,F1,ρ1,Đ,h1.bind λps ρ2 vs F2 H2 ī sF sH r2 h2=>h2 _ F2 H2 ī (Same.refl _) (Same.refl _) (đ.cons (Rep.same sF p v r1) r2)⟩⟩
def Į:PA X [] (Jg (kk X cm) E Ē):=PA.wk oX λσ H Q ⟨c,F,ρ,rel,h⟩=>h [] F H rel (Same.refl _) (Same.refl _) .nil
def Ğ(ha:PE X e (tR (kk X cm) E ma))(hr:PA X es (Jg (kk X cm) E mr))(hs:starEach (e::es) X.env=(false,eval e X.env)::starEach es X.env:=by exact cW rfl):PA X (e::es) (Jg (kk X cm) E (ā ma mr)):=PA.wk (gj ha hr hs) λσ H Q ⟨c,F,ρ,rel,h⟩=>
 ⟨c,F,ρ,rel,h.bind λp ρ1 v F1 H1 Đ _ _ r1 h1=>⟨c,F1,ρ1,Đ,h1.bind λps ρ2 vs F2 H2 ī sF sH r2 h2=>h2 _ F2 H2 ī (Same.refl _) (Same.refl _) (.cons (rR.mono r1 sF sH) r2)⟩⟩
def Ĉ:M (List Slot):=λρ=>.ok [] ρ
def Ċ(ma:M PV)(mr:M (List Slot)):M (List Slot):=λρ=>(ma ρ).bind λp ρ1=>(mr ρ1).bind λas ρ2=>.ok (.sh p::as) ρ2
def bB:Slot->Option Slot
 | .sh p=>some (.sh p)
 | .ow ps=>some (.bw ps)
 | .bw ps=>some (.bw ps)
 |_=>none
def Ć(i:Nat)(mr:M (List Slot)):M (List Slot):=λρ=>match(ρ[i]?).bind bB with
 |none=>.bad
 |some _=>(mr ρ).bind λas ρ2=>match(ρ2[i]?).bind bB with
  |some s=>.ok (s::as) ρ2
  |none=>.bad
variable{ms:M (List Slot)}
def Ė:PA X [] (tA (kk X cm) E Ĉ):=PA.wk oX λσ H Q ⟨c,F,ρ,rel,h⟩=>h [] F H rel (Same.refl _) (Same.refl _) .nil
def ĕ(ha:PE X e (tV (kk X cm) E ma))(hr:PA X es (tA (kk X cm) E ms))(hs:starEach (e::es) X.env=(false,eval e X.env)::starEach es X.env:=by exact cW rfl):PA X (e::es) (tA (kk X cm) E (Ċ ma ms)):=PA.wk (gj ha hr hs) λσ H Q ⟨c,F,ρ,rel,h⟩=>
 ⟨c,F,ρ,rel,h.bind λp ρ1 v F1 H1 Đ _ _ r1 h1=>⟨c,F1,ρ1,Đ,h1.bind λas ρ2 vs F2 H2 ī sF sH r2 h2=>h2 _ F2 H2 ī (Same.refl _) (Same.refl _) (.cons (show aB _ _ _ (.sh p) v from Rep.same sF p v r1) r2)⟩⟩
def xq{K:KK}{c:Ctx}{F H:Hp}{σ:L2.St}{ρ:ļ}{i:Nat}{s:Slot}(rel:Rel K c F H σ ρ)(h:(ρ[i]?).bind bB=some s):∃v,σ[i]?=some (some v)/\aB K F H s v:=by
 cases e:ρ[i]? with
 |none=>rw[e] at h;cases h
 |some sl=>
  rw[e] at h
  have h':bB sl=some s:=h
  cases sl with
  |sh p=>
   cases h'
   obtain⟨v,h1,h2⟩:=rel.slot i _ e
   exact⟨v,at_of h1,h2⟩
  |ow ps=>
   cases h'
   obtain⟨a,vs,h1,h2,h3,h4,h5,_⟩:=rel.ow e
   exact⟨.ref a,h1,a,vs,rfl,h2,h3,h5⟩
  |bw ps=>
   cases h'
   obtain⟨a,vs,h1,h2,h3⟩:=rel.slot i _ e
   exact⟨.ref a,at_of h1,a,vs,rfl,(rel.lent a _ h2).1,(rel.lent a _ h2).2,h3⟩
  |no=>cases h'
  |rc C ns ps=>cases h'
  |ot ps qs rs=>cases h'
  |ol zO=>cases h'
  |od _ _=>cases h'
  |bd _ _=>cases h'
def GZ(i:Nat){x:Str}{px:Pos}(hN:X.N[i]?=some x:=by rfl)(hv:uf X.env.scope x:=by first|exact Or.inl rfl|exact Or.inr (Or.inl rfl)|exact Or.inr (Or.inr rfl))(hd:(x== ("__debug__" :Str))=false:=by decide)
 (hcd:(x== ("__classdict__" :Str))=false:=by decide)(hr:PA X es (tA (kk X cm) E ms))(hs:starEach (.Name x px::es) X.env=(false,eval (.Name x px) X.env)::starEach es X.env:=by exact cW rfl):PA X (.Name x px::es) (tA (kk X cm) E (Ć i ms)):=
 PA.wk (gj (au hN hv hd hcd) hr hs) fun σ H Q ⟨c,F,ρ,rel,h⟩=>by
   unfold Ć at h
   cases e:(ρ[i]?).bind bB with
   |none=>rw[e] at h;exact h.elim
   |some s0=>
    rw[e] at h
    obtain⟨v,hv,_⟩:=xq rel e
    refine⟨v,hv,c,F,ρ,rel,Ż.bind h λas ρ2 vs F2 H2 ī sF sH r2 h2=>?_⟩
    cases e2:(ρ2[i]?).bind bB with
    |none=>simp only[e2] at h2;exact h2.elim
    |some s=>
     simp only[e2] at h2
     obtain⟨v',hv',r1⟩:=xq ī e2
     rw[hv] at hv'
     cases hv'
     exact h2 _ F2 H2 ī (Same.refl _) (Same.refl _) (.cons r1 r2)
def ĩ(mr:M (List PV)):M PV:=λρ=>(mr ρ).bind λps ρ1=>if ps.length<=16777216 then .ok (.tup ps) ρ1 else .bad
def ŧ(mr:M (List PV)):M RV:=λρ=>(mr ρ).bind λps ρ1=>if ps.length<=16777216 then .ok (.ow ps) ρ1 else .bad
def ķ:sizeLine=16777216:=sizeLine_eq
def ħ{x1}(h:PA X es (tL (kk X cm) E mr)):PE X (.Tuple es x1 pos) (tV (kk X cm) E (ĩ mr)):=PE.wk (Qg h) λσ H Q ⟨c,F,ρ,rel,h⟩=>
 ⟨c,F,ρ,rel,h.bind fun ps ρ1 vs F1 H1 Đ _ _ r1 h1=>by
   split at h1
   ·rename_i hz
    refine⟨by rw[<-đ.length r1,ķ];exact hz,λp hp=>h1 _ _ _ (Đ.alloc hp) (Same.upd (Đ.sub.free hp)) (Same.upd hp) ?_⟩
    show Rep _ _ _ _
    unfold Rep
    exact⟨p,vs,rfl,ĝ,đ.same (Same.upd (Đ.sub.free hp)) ps vs r1⟩
   ·exact h1.elim⟩
def dg{K:KK}{c:Ctx}{F H:Hp}{σ:L2.St}{ρ:ļ}{ps:List PV}{vs:List V}{a:Addr}(rel:Rel K c F H σ ρ)(ha:H a=none)(r:đ K F ps vs):Rel K c F (upd H a (.lst vs)) σ ρ/\Held K c σ ρ F (upd H a (.lst vs)) ps (.ref a):=
 ⟨rel.made ha,a,vs,rfl,ĝ,rel.sub.free ha,rel.base.free ha,rel.fresh ha,r⟩
def ň(h:PA X es (tL (kk X cm) E mr)):PE X (.List es pos) (tO (kk X cm) E (ŧ mr)):=PE.wk (Qh h) λσ H Q ⟨c,F,ρ,rel,h⟩=>
 ⟨c,F,ρ,rel,h.bind fun ps ρ1 vs F1 H1 Đ _ _ r1 h1=>by
   split at h1
   ·rename_i hz
    refine⟨by rw[<-đ.length r1,ķ];exact hz,λp hp=>?_⟩
    obtain⟨q1,q2⟩:=dg Đ hp r1
    exact h1 _ _ _ q1 (Same.refl _) (Same.upd hp) q2
   ·exact h1.elim⟩
def gG(f:List PV->Option PV)(mr:M (List PV)):M PV:=λρ=>(mr ρ).bind λps ρ1=>Res.jJ (f ps) ρ1
def iC(f:List PV->Option RV)(mr:M (List PV)):M RV:=λρ=>(mr ρ).bind λps ρ1=>Res.jJ (f ps) ρ1
def bW(K:KK)(r:List V->Hp->VK->Prop)(f:List PV->Option PV):Prop:=∀{c:Ctx} {F H:Hp} {σ:L2.St} {ρ:ļ} {ps:List PV} {pv:PV} {vs:List V} {Q:VK},Rel K c F H σ ρ->Vz K c σ ρ F H ps vs->f ps=some pv->
 (∀z F' H',Rel K c F' H' σ ρ->Same F F'->Same H H'->Rep K F' pv z->Q z H')->r vs H Q
def BJ(K:KK)(r:List V->Hp->VK->Prop)(f:List PV->Option RV):Prop:=∀{c:Ctx} {F H:Hp} {σ:L2.St} {ρ:ļ} {ps:List PV} {pv:RV} {vs:List V} {Q:VK},Rel K c F H σ ρ->Vz K c σ ρ F H ps vs->f ps=some pv->
 (∀z F' H',Rel K c F' H' σ ρ->Same F F'->Same H H'->rO K c σ ρ F' H' pv z->Q z H')->r vs H Q
def VL{r:List V->Hp->VK->Prop}{f:List PV->Option PV}(hf:bW (kk X cm) r f){σ:L2.St}{H:Hp}{Q:VK}(h:tV (kk X cm) E (gG f mr) σ H Q):Yt r (Jg (kk X cm) E mr) σ H Q:=by
 obtain⟨c,F,ρ,rel,h⟩:=h
 refine⟨c,F,ρ,rel,h.bind λp ρ1 v F1 H1 Đ _ _ r1 h1=>?_⟩
 cases e:f p with
 |none=>rw[e] at h1;exact h1.elim
 |some pv=>rw[e] at h1;exact hf Đ r1 e λz F' H' Ű s1 s2 q'=>h1 z F' H' Ű s1 s2 q'
def ZaX{r:List V->Hp->VK->Prop}{f:List PV->Option RV}(hf:BJ (kk X cm) r f){σ:L2.St}{H:Hp}{Q:VK}(h:tO (kk X cm) E (iC f mr) σ H Q):Yt r (Jg (kk X cm) E mr) σ H Q:=by
 obtain⟨c,F,ρ,rel,h⟩:=h
 refine⟨c,F,ρ,rel,h.bind λp ρ1 v F1 H1 Đ _ _ r1 h1=>?_⟩
 cases e:f p with
 |none=>rw[e] at h1;exact h1.elim
 |some pv=>rw[e] at h1;exact hf Đ r1 e λz F' H' Ű s1 s2 q'=>h1 z F' H' Ű s1 s2 q'
end
end P
namespace P
open PySem PySem.Spec PyProof.Rows L2 M2 M3
def fQ:M Fl:=λρ=>.ok .nx ρ
def ě(a b:M Fl):M Fl:=λρ=>(a ρ).bind λf ρ1=>match f with
 | .nx=>b ρ1
 |f=>.ok f ρ1
def Ĩ(i:Nat)(m:M RV):M Fl:=λρ=>(m ρ).bind λr ρ1=>.ok .nx (ρ1.set i r.slot)
def Ħ(m:M RV):M Fl:=λρ=>(m ρ).bind λr ρ1=>.ok (.rt r) ρ1
section
variable{X:Cx}{cm:String->Addr}{E:L2.St->XK}{a b e:Expr}{st:Stmt}{rest:List Stmt}{es:List Expr}{pos:Pos}{m1 m2:M Fl}{mo:M RV}{mv:M PV}
def Ĳ:eV X [] (tS (kk X cm) E fQ):=eV.wk FT λD σ H ⟨c,F,ρ,rel,h⟩=>h σ F H rel (Same.refl F)
def Ĭ(h:PS X st (tS (kk X cm) E m1)):eV X [st] (tS (kk X cm) E m1):=FW h
def G_{c:Ctx}{F:Hp}{D:Ends}{r:Res Fl}(h:Ŋ (kk X cm) E c F D (r.bind λf ρ1=>match f with| .nx=>m2 ρ1|f=>.ok f ρ1)):Ŋ (kk X cm) E c F {D with nx:=tS (kk X cm) E m2 D} r:=by
 cases r with
 |ok f ρ1=>
  cases f with
  |nx=>exact λσ' F' H' Ű s=>⟨c,F',ρ1,Ű,Ŋ.mono h s⟩
  |bk=>exact h
  |ct=>exact h
  |rt v=>exact h
 |exc x ρ1=>exact h
 |bad=>exact h
def ē(h1:PS X st (tS (kk X cm) E m1))(h2:eV X rest (tS (kk X cm) E m2)):eV X (st::rest) (tS (kk X cm) E (ě m1 m2)):=eV.wk (z_ h1 h2) λD σ H ⟨c,F,ρ,rel,h⟩=>⟨c,F,ρ,rel,G_ h⟩
def VN{i:Nat}{x:Str}{pos':Pos}(hN:X.N.Nodup)(hi:X.N[i]?=some x)(hx:Loc X.env.scope x)(he:PE X e (tO (kk X cm) E mo))(hs:swapsWith e (some (.Name x pos')) pos.line X.env=pure false:=by rfl)(hf:X.fn x=true\/X.env.scope.names.lookup x=some .local:=by first|exact .inl rfl|exact .inr rfl|assumption) :
 PS X (.Assign [.Name x pos'] e pos) (tS (kk X cm) E (Ĩ i mo)):=PS.wk (Ae hN hi hx he hs hf) λD σ H ⟨c,F,ρ,rel,h⟩=>⟨c,F,ρ,rel,Ŋ.bind h λr ρ1 v F1 H1 Đ s1 q h1=>by
 cases r with
 |sh p=>exact h1 _ F1 H1 (Đ.put rfl ⟨v,rfl,q⟩) (Same.refl _)
 |ow ps=>
  obtain⟨a,vs,rfl,q1,q2,q3,q4,q5⟩:=q
  exact h1 _ F1 H1 (Đ.Bw ⟨a,vs,rfl,q1,q2,q3,q5⟩ λ_ z=>V.ref.inj z▸q4) (Same.refl _)
 |ot ps qs rs=>
  obtain⟨p,a,xs,vs,ys,rfl,q0,qx,q1,q2,q3,q4,q5,q6⟩:=q
  exact h1 _ F1 H1 (Đ.Bw (s:=.ot ps qs rs) ⟨p,a,xs,vs,ys,rfl,q0,qx,q1,q2,q3,q5,q6⟩ λ_ z=>jH (ps:=ps) (qs:=qs) (rs:=rs) z ⟨p,xs,ys,rfl,q0,qx.length.symm⟩▸q4) (Same.refl _)⟩
def VP(he:PE X e (tO (kk X cm) E mo)):PS X (.Return (some e) pos) (tS (kk X cm) E (Ħ mo)):=PS.wk (OD he) λD σ H ⟨c,F,ρ,rel,h⟩=>⟨c,F,ρ,rel,Ŋ.bind h λr ρ1 v F1 H1 Đ s1 q h1=>h1 v σ F1 H1 Đ (Same.refl _) q⟩
def Ş{t:M Bool}{ss ss':List Stmt}(hc:PT X a (tB (kk X cm) E t))(ha:eV X ss (tS (kk X cm) E m1))(hb:eV X ss' (tS (kk X cm) E m2)):PS X (.If a ss ss' pos) (tS (kk X cm) E (dX t m1 m2)):=PS.wk (UG hc ha hb) λD σ H ⟨c,F,ρ,rel,h⟩=>⟨c,F,ρ,rel,Ŋ.bind h λr ρ1 v F1 H1 Đ s1 q h1=>by
 have e:r=v:=q
 subst e
 cases r with
 |true=>exact⟨c,F1,ρ1,Đ,h1⟩
 |false=>exact⟨c,F1,ρ1,Đ,h1⟩⟩
def QK{α:Type}:M α:= λ_=>.bad
def Hf:PS X st (tS (kk X cm) E QK):=PS.wk Aa λD σ H ⟨c,F,ρ,rel,h⟩=>h
abbrev Tg:=PV->ļ->Option ļ
abbrev uh:=List PV->ļ->Option ļ
def VR(K:KK)(c:Ctx)(F H:Hp)(Q:L2.St->Hp->Prop):Option ļ->Prop
 |some ρ'=>∀σ',Rel K c F H σ' ρ'->Q σ' H
 |none=>False
def tT(K:KK)(g:Tg):TG:=λv σ H Q=>∃c F ρ p,Rel K c F H σ ρ/\Rep K F p v/\VR K c F H Q (g p ρ)
def QL(K:KK)(g:uh):Ab:=λv σ H Q=>∃c F ρ p,Rel K c F H σ ρ/\đ K F p v/\VR K c F H Q (g p ρ)
def gN(i:Nat):Tg:=λp ρ=>some (ρ.set i (.sh p))
def ĸ:uh:=λps ρ=>match ps with
 | []=>some ρ
 |_=>none
def Č(g:Tg)(gs:uh):uh:=λps ρ=>match ps with
 |p::ps=>(g p ρ).bind λρ1=>gs ps ρ1
 | []=>none
def gT(n:Nat)(gs:uh):Tg:=λp ρ=>match p with
 | .tup ps=>if ps.length=n then gs ps ρ else none
 |_=>none
def PG.wk'{tg:Expr}{t t':TG}(h:PG X tg t)(i:∀v σ H Q,t' v σ H Q->t v σ H Q):PG X tg t':=λpins s σ H v u Q I r q=>h pins s σ H v u Q I r (i v σ H Q q)
def q_.wk{tg:List Expr}{t t':Ab}(h:q_ X tg t)(i:∀v σ H Q,t' v σ H Q->t v σ H Q):q_ X tg t':=λpins s σ H v u Q I r q=>h pins s σ H v u Q I r (i v σ H Q q)
def BK{i:Nat}{x:Str}(hN:X.N.Nodup)(hi:X.N[i]?=some x)(hx:Loc X.env.scope x)(hf:X.fn x=true\/X.env.scope.names.lookup x=some .local:=by first|exact .inl rfl|exact .inr rfl|assumption):PG X (.Name x pos) (tT (kk X cm) (gN i)):=
 PG.wk' (FZ hN hi hx hf) λv σ H Q ⟨c,F,ρ,p,rel,rp,h⟩=>h _ (rel.put rfl ⟨v,rfl,rp⟩)
def aV:q_ X [] (QL (kk X cm) ĸ):=q_.wk Ga λv σ H Q ⟨c,F,ρ,p,rel,rp,h⟩=>by
 cases p with
 |nil=>
  have e:v=[]:=by have:=rp;unfold đ at this;exact this
  exact⟨e,h σ rel⟩
 |cons _ _=>exact h.elim
def ĵ{es:List Expr}{g:Tg}{gs:uh}(h1:PG X e (tT (kk X cm) g))(h2:q_ X es (QL (kk X cm) gs))(hs:(assignEach (e::es) X.env).map (·.2)=assign e X.env::(assignEach es X.env).map (·.2):=by rfl):q_ X (e::es) (QL (kk X cm) (Č g gs)):=
 q_.wk (Ac h1 h2 hs) λv σ H Q ⟨c,F,ρ,p,rel,rp,h⟩=>by
  cases p with
  |nil=>exact h.elim
  |cons p ps=>
   unfold đ at rp
   obtain⟨x,r,rfl,r1,r2⟩:=rp
   refine⟨x,r,rfl,c,F,ρ,p,rel,r1,?_⟩
   unfold Č at h
   dsimp only at h
   cases eg:g p ρ with
   |none=>rw[eg] at h;exact h.elim
   |some ρ1=>rw[eg] at h;exact λσ' Ű=>⟨c,F,ρ1,ps,Ű,r2,h⟩
def jX{es:List Expr}{k:Nat}{gs:uh}{n:Nat}(hc:X.calm=true)(h:q_ X es (QL (kk X cm) gs))(hn:(assignEach es X.env).length=n:=by rfl)(hst:(assignEach es X.env).findIdx? (·.1)=none:=by rfl):PG X (.Tuple es k pos) (tT (kk X cm) (gT n gs)):=
 PG.wk' (ur hc h hn hst) fun v σ H Q ⟨c,F,ρ,p,rel,rp,h⟩=>by
   cases p with
   |tup ps=>
    unfold Rep at rp
    obtain⟨a,xs,h1,h2,h3⟩:=rp
    unfold gT at h
    dsimp only at h
    split at h
    ·rename_i hl
     exact⟨a,xs,h1,cL.of (rel.sub _ _ h2),by rw[<-h3.length];exact hl,c,F,ρ,ps,rel,h3,h⟩
    ·exact h.elim
   |_=>exact h.elim
def Hg(g:Tg)(m:M PV):M Fl:=λρ=>(m ρ).bind λp ρ1=>match g p ρ1 with
 |some ρ2=>.ok .nx ρ2
 |none=>.bad
def Jj{tg:Expr}{g:Tg}(he:PE X e (tV (kk X cm) E mv))(hg:PG X tg (tT (kk X cm) g))(hs:swapsWithSole [tg] e pos.line X.env=pure false:=by rfl)(hw:swappedStores [tg] e X.env=pure none:=by rfl)
 (h1:(assignEach [tg] X.env).map (·.2)=[assign tg X.env]:=by rfl):PS X (.Assign [tg] e pos) (tS (kk X cm) E (Hg g mv)):=PS.wk (Ad he hg hs hw h1) λD σ H ⟨c,F,ρ,rel,h⟩=>⟨c,F,ρ,rel,Ŋ.bind h λr ρ1 v F1 H1 Đ s1 q h1=>by
 refine⟨c,F1,ρ1,r,Đ,q,?_⟩
 cases eg:g r ρ1 with
 |none=>rw[eg] at h1;exact h1.elim
 |some ρ2=>rw[eg] at h1;exact λσ' Ű=>h1 σ' F1 H1 Ű (Same.refl _)⟩
def Hh(i j:Nat)(mr:M (List PV)):M Fl:=λρ=>(mr ρ).bind λps ρ1=>match ps with
 | [p,q]=>.ok .nx ((ρ1.set i (.sh p)).set j (.sh q))
 |_=>.bad
def Hi{i j:Nat}{mr:M (List PV)}{D:Ends}{σ:L2.St}{H:Hp}(h:tS (kk X cm) E (Hh i j mr) D σ H):Va i j (tL (kk X cm) E mr) D σ H:=by
 obtain⟨c,F,ρ,rel,h⟩:=h
 refine⟨c,F,ρ,rel,Ŋ.bind h λps ρ1 vs F1 H1 Đ s1 q h1=>?_⟩
 cases ps with
 |nil=>exact h1.elim
 |cons p ps=>
  cases ps with
  |nil=>exact h1.elim
  |cons p2 ps=>
   cases ps with
   |nil=>
    have q':đ (kk X cm) F1 [p,p2] vs:=q
    cases q'.pr with
    |cons r1 t=>
     cases t with
     |cons r2 t=>
      cases t
      exact⟨_,_,rfl,h1 _ F1 H1 ((Đ.put (s:=.sh p) rfl ⟨_,rfl,r1⟩).put (s:=.sh p2) rfl ⟨_,rfl,r2⟩) (Same.refl _)⟩
   |cons _ _=>exact h1.elim
def pI(i:Nat)(mi:M PV)(m:M PV):M Fl:=λρ=>(m ρ).bind λp ρ1=>match ρ1[i]? with
 |some (.ow _)=>(mi ρ1).bind λq ρ2=>match ρ2[i]?,q with
  |some (.ow ps),.int k=>match zN ps.length k with
   |some j=>.ok .nx (ρ2.set i (.ow (ps.set j p)))
   |none=>.bad
  |_,_=>.bad
 |_=>.bad
def xr{i:Nat}{x:Str}{ix:Expr}{mi:M PV}{px mF:Pos}(he:PE X e (tV (kk X cm) E mv))(hi:PE X ix (tV (kk X cm) E mi))(ho:PE X (.Name x px) (uq i))
 (hsub:∀v,assign (.Subscript (.Name x px) ix mF) X.env v=(do
   let ov <-holding [v] (eval (.Name x px) X.env)
   let iv <-holding [v,ov] (eval ix X.env)
   standAt mF
   holding [v,ov,iv] (setItem ov iv v)
   release [v,ov,iv] []):=by intro _;rfl)
 (hs:swapsWithSole [.Subscript (.Name x px) ix mF] e pos.line X.env=pure false:=by rfl)(hw:swappedStores [.Subscript (.Name x px) ix mF] e X.env=pure none:=by rfl)
 (h1:(assignEach [.Subscript (.Name x px) ix mF] X.env).map (·.2)=[assign (.Subscript (.Name x px) ix mF) X.env]:=by rfl) :
 PS X (.Assign [.Subscript (.Name x px) ix mF] e pos) (tS (kk X cm) E (pI i mi mv)):=PS.wk (Ad he (Pa ho hi set_list hsub) hs hw h1) λD σ H ⟨c,F,ρ,rel,h⟩=>⟨c,F,ρ,rel,Ŋ.bind h λp ρ1 v F1 H1 Đ s1 q h1=>by
 cases e1:ρ1[i]? with
 |none=>rw[e1] at h1;exact h1.elim
 |some sl=>
  rw[e1] at h1
  cases sl with
  |ow ps0=>
   obtain⟨a,vs0,z1,_,_,_,_,_⟩:=Đ.ow e1
   refine⟨.ref a,z1,c,F1,ρ1,Đ,Ŋ.bind h1 λq' ρ2 u F2 H2 ī s2 r2 h2=>?_⟩
   cases e2:ρ2[i]? with
   |none=>rw[e2] at h2;exact h2.elim
   |some sl2=>
    rw[e2] at h2
    cases sl2 with
    |ow ps=>
     cases q' with
     |int k=>
      have eu:u=.int k:=by have:Rep (kk X cm) F2 (.int k) u:=r2;unfold Rep at this;exact this
      subst eu
      dsimp only at h2
      obtain⟨a2,vs,w1,w2,w3,w4,w5,w6⟩:=ī.ow e2
      rw[z1] at w1
      cases w1
      cases ej:zN ps.length k with
      |none=>rw[ej] at h2;exact h2.elim
      |some j=>
       rw[ej] at h2
       refine⟨a,vs,k,j,rfl,rfl,w2,by rw[<-w5.length];exact ej,h2 σ F2 _ (ī.write w6 z1 ⟨a,vs.set j v,rfl,ĝ,w3,w4,?_⟩ λ_ z=>(V.ref.inj z).symm) (Same.refl _)⟩
       exact đ.of (Bq (Rep.same s2 p v q) j w5.pr)
     |_=>exact h2.elim
    |_=>exact h2.elim
  |_=>exact h1.elim⟩
def uV(i:Nat)(m:M PV):M Fl:=λρ=>match ρ[i]? with
 |some (.ow _)=>(m ρ).bind λp ρ1=>match ρ1[i]? with
  |some (.ow ps)=>if ps.length<16777216 then .ok .nx (ρ1.set i (.ow (ps ++ [p]))) else .bad
  |_=>.bad
 |_=>.bad
def jK{i:Nat}{D:Ends}{σ:L2.St}{H:Hp}(h:tS (kk X cm) E (uV i mv) D σ H):I_ (tBM X.K "list" wO (uq i) (tL (kk X cm) E (ā mv Ē))) D σ H:=by
 obtain⟨c,F,ρ,rel,h⟩:=h
 unfold uV at h
 cases e1:ρ[i]? with
 |none=>rw[e1] at h;exact h.elim
 |some sl=>
  rw[e1] at h
  cases sl with
  |ow ps0=>
   obtain⟨a,vs0,z1,z2,z3,z4,z5,z6⟩:=rel.ow e1
   refine⟨.ref a,z1,.inl ⟨rfl,_,Ũ.of z2⟩,c,F,ρ,rel,?_⟩
   dsimp only at h
   unfold ā
   cases em:mv ρ with
   |bad=>rw[em] at h;exact h
   |exc x ρ1=>rw[em] at h;exact λC d F' H' Ű s1 q=>h σ C d F' H' Ű s1 q
   |ok p ρ1=>
    rw[em] at h
    intro us F1 H1 Đ s1 s2 r1
    have r1':đ (kk X cm) F1 [p] us:=r1
    cases r1'.pr with
    |cons rp t=>
     rename_i v vs'
     cases t
     cases e2:ρ1[i]? with
     |none=>simp only[Res.Ū,e2] at h;exact h.elim
     |some sl2=>
      simp only[Res.Ū,e2] at h
      cases sl2 with
      |ow ps=>
       obtain⟨a2,vs,w1,w2,w3,w4,w5,w6⟩:=Đ.ow e2
       rw[z1] at w1
       cases w1
       dsimp only at h
       split at h
       ·rename_i hz
        refine⟨a,vs,v,rfl,rfl,w2,by rw[<-w5.length,ķ];exact hz,h σ F1 _ (Đ.write w6 z1 ⟨a,vs ++ [v],rfl,ĝ,w3,w4,đ.append w5 (đ.cons rp đ.nil)⟩ λ_ z=>(V.ref.inj z).symm) s1⟩
       ·exact h.elim
      |_=>exact h.elim
  |_=>exact h.elim
def Ĥ(mc:M Bool)(mb:M Fl):Nat->ļ->Res Fl
 |0,_=>.bad
 |n+1,ρ=>(mc ρ).bind λb ρ1=>if b=true then(mb ρ1).bind λf ρ2=>match f with
  | .nx=>Ĥ mc mb n ρ2
  | .ct=>Ĥ mc mb n ρ2
  | .bk=>.ok .nx ρ2
  | .rt r=>.ok (.rt r) ρ2 else .ok .nx ρ1
theorem Ŕ{mc:M Bool}{mb:M Fl}(n:Nat)(ρ:ļ):Ĥ mc mb (n+1) ρ=(mc ρ).bind λb ρ1=>if b=true then(mb ρ1).bind λf ρ2=>match f with
 | .nx=>Ĥ mc mb n ρ2
 | .ct=>Ĥ mc mb n ρ2
 | .bk=>.ok .nx ρ2
 | .rt r=>.ok (.rt r) ρ2 else .ok .nx ρ1:=rfl
open Classical in
noncomputable def ŕ(mc:M Bool)(mb:M Fl):M Fl:=λρ=>if h:∃n,Ĥ mc mb n ρ≠ .bad then Ĥ mc mb (Classical.choose h) ρ else .bad
theorem dh{mc:M Bool}{mb:M Fl}:∀(n:Nat) (ρ:ļ),Ĥ mc mb n ρ≠ .bad->Ĥ mc mb (n+1) ρ=Ĥ mc mb n ρ
 |0,ρ,h=>absurd rfl h
 |n+1,ρ,h=>by
  rw[Ŕ] at h
  rw[Ŕ (n+1),Ŕ n]
  cases e:mc ρ with
  |bad=>rfl
  |exc x ρ1=>rfl
  |ok b ρ1=>
   rw[e] at h
   simp only[Res.Ū] at h ⊢
   cases b with
   |false=>rfl
   |true=>
    simp only[if_true] at h ⊢
    cases e2:mb ρ1 with
    |bad=>rfl
    |exc x ρ2=>rfl
    |ok f ρ2=>
     rw[e2] at h
     simp only[Res.Ū] at h ⊢
     cases f with
     |nx=>exact dh n ρ2 h
     |ct=>exact dh n ρ2 h
     |bk=>rfl
     |rt r=>rfl
def nC{mc:M Bool}{mb:M Fl}{n m:Nat}{ρ:ļ}(h:Ĥ mc mb n ρ≠ .bad)(hm:n<=m):Ĥ mc mb m ρ=Ĥ mc mb n ρ:= by
 induction hm with
 |refl=>rfl
 |step _ ih=>rw[dh _ _ (by rw[ih];exact h),ih]
def Ř{mc:M Bool}{mb:M Fl}{ρ:ļ}(n:Nat)(h:Ĥ mc mb n ρ≠ .bad):ŕ mc mb ρ=Ĥ mc mb n ρ:= by
 unfold ŕ
 have hx:∃n,Ĥ mc mb n ρ≠ .bad:=⟨n,h⟩
 rw[dif_pos hx]
 have hc:=Classical.choose_spec hx
 rcases Nat.le_total n (Classical.choose hx) with hle|hle
 ·exact nC h hle
 ·exact(nC hc hle).symm
theorem dw{mc:M Bool}{mb:M Fl}{ρ:ļ}:ŕ mc mb ρ=(mc ρ).bind λb ρ1=>if b=true then(mb ρ1).bind λf ρ2=>match f with
 | .nx=>ŕ mc mb ρ2
 | .ct=>ŕ mc mb ρ2
 | .bk=>.ok .nx ρ2
 | .rt r=>.ok (.rt r) ρ2 else .ok .nx ρ1:=by
 have go:∀ρ2,ŕ mc mb ρ2=.bad\/∃n,ŕ mc mb ρ2=Ĥ mc mb n ρ2/\Ĥ mc mb n ρ2≠ .bad:=λρ2=>by
  by_cases hx:∃n,Ĥ mc mb n ρ2≠ .bad
  ·obtain⟨n,h⟩:=hx
   exact .inr ⟨n,Ř n h,h⟩
  ·left;unfold ŕ;rw[dif_neg hx]
 have ZaY:∀ρ2,ŕ mc mb ρ2=.bad->∀n,Ĥ mc mb n ρ2=.bad:=λρ2 h n=>by
  refine Classical.byContradiction λz=>?_
  rw[Ř n z] at h
  exact z h
 have fin:∀n,Ĥ mc mb (n+1) ρ≠ .bad->ŕ mc mb ρ=Ĥ mc mb (n+1) ρ:= λn h=>Ř _ h
 cases e:mc ρ with
 |bad=>rcases go ρ with h|⟨n,h1,h2⟩
       ·rw[h];rfl
       ·cases n with
        |zero=>exact absurd rfl h2
        |succ n=>rw[Ŕ,e] at h2;exact absurd rfl h2
 |exc x ρ1=>
  have h:Ĥ mc mb 1 ρ=.exc x ρ1:=by rw[Ŕ,e];rfl
  rw[Ř 1 (by rw[h];intro z;cases z),h];rfl
 |ok b ρ1=>
  simp only[Res.Ū]
  cases b with
  |false=>
   have h:Ĥ mc mb 1 ρ=.ok .nx ρ1:=by rw[Ŕ,e];rfl
   rw[Ř 1 (by rw[h];intro z;cases z),h];rfl
  |true=>
   simp only[if_true]
   have one:∀n,Ĥ mc mb (n+1) ρ=(mb ρ1).bind λf ρ2=>match f with
    | .nx=>Ĥ mc mb n ρ2
    | .ct=>Ĥ mc mb n ρ2
    | .bk=>.ok .nx ρ2
    | .rt r=>.ok (.rt r) ρ2:=λn=>by rw[Ŕ,e];rfl
   cases e2:mb ρ1 with
   |bad=>
    rcases go ρ with h|⟨n,h1,h2⟩
    ·rw[h];rfl
    ·cases n with
     |zero=>exact absurd rfl h2
     |succ n=>rw[one,e2] at h2;exact absurd rfl h2
   |exc x ρ2=>
    have h:Ĥ mc mb 1 ρ=.exc x ρ2:=by rw[one,e2];rfl
    rw[Ř 1 (by rw[h];intro z;cases z),h];rfl
   |ok f ρ2=>
    have turn:(∀n,Ĥ mc mb (n+1) ρ=Ĥ mc mb n ρ2)->ŕ mc mb ρ=ŕ mc mb ρ2:=λhn=>by
     rcases go ρ2 with h|⟨n,h1,h2⟩
     ·rcases go ρ with h'|⟨n,h1,h2⟩
      ·rw[h,h']
      ·cases n with
       |zero=>exact absurd rfl h2
       |succ n=>rw[hn,ZaY ρ2 h n] at h2;exact absurd rfl h2
     ·rw[h1,<-hn n]
      exact fin n (by rw[hn n];exact h2)
    cases f with
    |nx=>exact turn λn=>by rw[one,e2];rfl
    |ct=>exact turn λn=>by rw[one,e2];rfl
    |bk=>
     have h:Ĥ mc mb 1 ρ=.ok .nx ρ2:=by rw[one,e2];rfl
     rw[Ř 1 (by rw[h];intro z;cases z),h];rfl
    |rt r=>
     have h:Ĥ mc mb 1 ρ=.ok (.rt r) ρ2:=by rw[one,e2];rfl
     rw[Ř 1 (by rw[h];intro z;cases z),h];rfl
def Hj{c:Expr}{body:List Stmt}{mc:M Bool}{mb:M Fl}(hp:PassesOwn (model X.prog X.w) X.A X.env X.xe)(hc:PT X c (tB (kk X cm) E mc))(hb:eV X body (tS (kk X cm) E mb)):PS X (.While c body [] pos) (tS (kk X cm) E (ŕ mc mb)):=PS.wk (Ag hp hc hb) λD σ H ⟨c,F,ρ,rel,h⟩=>by
 obtain⟨n,hn⟩:∃n,Ŋ (kk X cm) E c F D (Ĥ mc mb n ρ):=by
  by_cases hx:∃n,Ĥ mc mb n ρ≠ .bad
  ·obtain⟨n,hn⟩:=hx
   rw[Ř n hn] at h
   exact⟨n,h⟩
  ·unfold ŕ at h
   rw[dif_neg hx] at h
   exact h.elim
 refine⟨λm σ' H'=>∃F2 ρ2,Rel (kk X cm) c F2 H' σ' ρ2/\Same F F2/\Ŋ (kk X cm) E c F2 D (Ĥ mc mb m ρ2),⟨n,F,ρ,rel,Same.refl _,hn⟩,?_⟩
 rintro m σ1 H1 ⟨F1,ρ1,Đ,s1,h1⟩
 cases m with
 |zero=>exact h1.elim
 |succ m=>
  rw[Ŕ] at h1
  refine⟨c,F1,ρ1,Đ,Ŋ.bind h1 λk ρ2 v F2 H2 ī s2 q h2=>?_⟩
  have e:k=v:=q
  subst e
  cases k with
  |false=>
   rw[if_neg Bool.false_ne_true]
   rw[if_neg Bool.false_ne_true] at h2
   exact h2 σ1 F2 H2 ī (Same.refl _)
  |true=>
   rw[if_pos rfl]
   rw[if_pos rfl] at h2
   refine⟨_,λσ' H' z=>z,c,F2,ρ2,ī,?_⟩
   have nxt:∀{ρ3:ļ},Ŋ (kk X cm) E c F2 D (Ĥ mc mb m ρ3)->∀σ' F' H',Rel (kk X cm) c F' H' σ' ρ3->Same F2 F'->∃m',m'<m+1/\∃F2 ρ2,Rel (kk X cm) c F2 H' σ' ρ2/\Same F F2/\Ŋ (kk X cm) E c F2 D (Ĥ mc mb m' ρ2):=
    fun{ρ3} h3 σ' F' H' Ű s'=>⟨m,Nat.lt_succ_self m,F',ρ3,Ű,(s1.trans s2).trans s',Ŋ.mono h3 s'⟩
   cases e2:mb ρ2 with
   |bad=>rw[e2] at h2;exact h2
   |exc x ρ3=>rw[e2] at h2;exact h2
   |ok f ρ3=>
    rw[e2] at h2
    cases f with
    |nx=>exact nxt h2
    |ct=>exact nxt h2
    |bk=>exact h2
    |rt r=>exact h2
def pJ(K:KK)(Lh F:Hp)(J:It)(items:List PV):Prop:=∀(c:Ctx) (i:Nat) (F2 H:Hp) (σ:L2.St) (ρ:ļ),Rel K c F2 H σ ρ->Same F F2->Same Lh H->
 (∀p,items[i]?=some p->J.go i H/\∀x H',J.Yr i H x H'->∃F3,Rel K c F3 H' σ ρ/\Same F2 F3/\Same H H'/\Rep K F3 p x)/\(i=items.length->J.stop i H)
def rIt(K:KK):RR (List PV) It:=λc _ _ F _ items J=>pJ K c.L F J items
abbrev tI(K:KK)(E:L2.St->XK)(m:M (List PV)):TI:=tG K E (rIt K) m
def forL(g:Tg)(mb:M Fl):List PV->M Fl
 | [],ρ=>.ok .nx ρ
 |p::ps,ρ=>match g p ρ with
  |none=>.bad
  |some ρ1=>(mb ρ1).bind λf ρ2=>match f with
   | .nx=>forL g mb ps ρ2
   | .ct=>forL g mb ps ρ2
   | .bk=>.ok .nx ρ2
   | .rt r=>.ok (.rt r) ρ2
def gH(mi:M (List PV))(g:Tg)(mb:M Fl):M Fl:=λρ=>(mi ρ).bind λitems ρ1=>forL g mb items ρ1
def QM{c:Ctx}{F1 H1:Hp}{σ:L2.St}{ρ1:ļ}{D:Ends}{J:It}{items:List PV}{g:Tg}{mb:M Fl}(Đ:Rel (kk X cm) c F1 H1 σ ρ1)(ito:pJ (kk X cm) c.L F1 J items)(h1:Ŋ (kk X cm) E c F1 D (forL g mb items ρ1)):Pk (λ_ H' R=>R J H') (tT (kk X cm) g) (tS (kk X cm) E mb) D σ H1:=by
 refine⟨λi m σ' H'=>∃F2 ρ2,i<=items.length/\m=items.length-i/\Rel (kk X cm) c F2 H' σ' ρ2/\Same F1 F2/\Ŋ (kk X cm) E c F2 D (forL g mb (items.drop i) ρ2),⟨_,F1,ρ1,Nat.zero_le _,rfl,Đ,Same.refl _,h1⟩,?_⟩
 rintro i m σ2 H2 ⟨F2,ρ2,hle,rfl,ī,s2,h2⟩
 obtain⟨go,stop⟩:=ito c i F2 H2 σ2 ρ2 ī s2 λb u e=>(ī.lent b u e).1
 by_cases hlt:i<items.length
 ·obtain⟨g1,g2⟩:=go items[i] (List.getElem?_eq_getElem hlt)
  rw[List.drop_eq_getElem_cons hlt] at h2
  unfold forL at h2
  refine .inr ⟨g1,_,λσ' H' z=>z,λx H3 hy=>?_⟩
  obtain⟨F3,mG,s3,_,rp⟩:=g2 x H3 hy
  refine⟨c,F3,ρ2,items[i],mG,rp,?_⟩
  cases eg:g items[i] ρ2 with
  |none=>rw[eg] at h2;exact h2.elim
  |some ρ3=>
   rw[eg] at h2
   dsimp only at h2
   intro σ4 uT
   refine⟨c,F3,ρ3,uT,?_⟩
   have nxt:∀{ρ4:ļ},Ŋ (kk X cm) E c F2 D (forL g mb (items.drop (i+1)) ρ4)->∀σ' F' H',Rel (kk X cm) c F' H' σ' ρ4->Same F3 F'->∃m',m'<items.length-i/\∃F2 ρ2,i+1<=items.length/\m'=items.length-(i+1)/\Rel (kk X cm) c F2 H' σ' ρ2/\Same F1 F2/\Ŋ (kk X cm) E c F2 D (forL g mb (items.drop (i+1)) ρ2):=
    fun{ρ4} h3 σ' F' H' Ű s'=>⟨items.length-(i+1),by omega,F',ρ4,hlt,rfl,Ű,(s2.trans s3).trans s',Ŋ.mono h3 (s3.trans s')⟩
   have h2':=Ŋ.mono h2 s3
   cases e2:mb ρ3 with
   |bad=>rw[e2] at h2;exact h2
   |exc x ρ4=>rw[e2] at h2';exact h2'
   |ok f ρ4=>
    rw[e2] at h2 h2'
    cases f with
    |nx=>exact nxt h2
    |ct=>exact nxt h2
    |bk=>exact h2'
    |rt r=>exact h2'
 ·have e:i=items.length:=by omega
  refine .inl ⟨stop e,?_⟩
  rw[List.drop_eq_nil_of_le (by omega)] at h2
  unfold forL at h2
  exact h2 σ2 F2 H2 ī (Same.refl _)
def bY{iter tg:Expr}{body:List Stmt}{mi:M (List PV)}{g:Tg}{mb:M Fl}(hp:PassesOwn (model X.prog X.w) X.A X.env X.xe)(hc:X.calm=true)(hi:PI X tg iter (tI (kk X cm) E mi))(hg:PG X tg (tT (kk X cm) g))(hb:eV X body (tS (kk X cm) E mb))
 (hs:∀x,foldedSetIterable iter X.env x=pure x:=by intro _;rfl):PS X (.For tg iter body [] pos) (tS (kk X cm) E (gH mi g mb)):=PS.wk (Ai hp hc hi hg hb hs) λD σ H ⟨c,F,ρ,rel,h⟩=>⟨c,F,ρ,rel,Ŋ.bind h λitems ρ1 J F1 H1 Đ s1 ito h1=>QM Đ ito h1⟩
end
end P
namespace P
open PySem PySem.Spec PyProof.Rows L2 M2 M3
inductive FR where
 |ret (r:RV)|exc (x:PX)|bad
abbrev MF:=List Slot->FR
def FR.of:Res Fl->FR
 | .ok (.rt r) _=>.ret r
 | .ok .nx _=>.ret (.sh .non)
 | .exc x _=>.exc x
 |_=>.bad
def Ļ(n k:Nat)(mb:M Fl):MF:=λas=>if as.length=n then FR.of (mb (startP k as)) else .bad
def rF(K:KK)(H F' H':Hp):RV->V->Prop
 | .sh p,v=>Rep K F' p v
 | .ow ps,v=>∃a vs,v=.ref a/\H' a=some (.lst vs)/\F' a=none/\H a=none/\đ K F' ps vs
 | .ot ps qs rs,v=>∃p a xs vs ys,v=.ref p/\F' p=some (.tup (xs ++ .ref a::ys))/\đ K F' ps xs/\H' a=some (.lst vs)/\F' a=none/\H a=none/\đ K F' qs vs/\đ K F' rs ys
def ZaZ(K:KK)(E:XK)(F H:Hp)(Q:VK):FR->Prop
 | .ret r=>∀v F' H',Gr F H F' H'->rF K H F' H' r v->Q v H'
 | .exc x=>∀C d F' H',Gr F H F' H'->GQ K F' x C d->E C d H'
 | .bad=>False
def ű(K:KK)(n:Nat)(mf:MF):Sp:=λvs H Q E=>∃F as,as.length=n/\Same F H/\Paired (aB K F H) as vs/\ZaZ K E F H Q (mf as)
def bO(CX:gk)(X:Cx)(E:L2.St->XK):Prop:=∀(pins:List (Addr×Obj)) (σ:L2.St) (H:Hp) (s:Shared) (e:Value) (s':Shared),Inv X pins σ H s->CX X.stack H s (E σ) e s'->X.xe e s'
def Ĕ{X:Cx}{E:L2.St->XK}:bO Ÿ X E:=λ_ _ _ _ _ _ _ h=>h.elim
section
variable{P:Program}{w:World}{K:PySem.W.Frag}{cm:String->Addr}{mg:Str->Option Value}{base:Heap}{CX:gk}
def fnP{x qual:Str}{st:Stmt}{f:Addr}{fd:FuncData}{N ps:List Str}{k:Nat}{mb:M Fl}(F:Gs K x qual st f fd)(S:ď N ps (ć st))
 (hbody:∀(cdv:Value) (A:Around) (outer:List Env) (s:Shared) (H:Hp) (E:XK),Ţ k (A.deeper (envOfC qual (ć st) s.heap.objs.size f cdv))→
   eV (oY CX P w K mg base N qual (ć st) f cdv A outer s H E) (œ st) (tS ⟨K,cm⟩ (λ_=>E) mb)):ĥ P w K mg base CX (k+1) f fd ps (ű ⟨K,cm⟩ ps.length (Ļ ps.length N.length mb)):=by
 obtain⟨oc,od,kV,doc,pm,an,cdv,ct,osl,rfl,lk,hcd⟩:=F.ex
 refine Jc lk hcd S (λvs H Q E ⟨F,ps',h1,_,h2,_⟩=>by rw[<-Paired.length h2];exact h1) λA outer s H vs Q E hr hsp=>?_
 obtain⟨F,ps',h1,h2,h3,h4⟩:=hsp
 refine⟨_,hbody cdv A outer s H E hr,ctx0 F H,F,startP N.length ps',Rel.start h2 h3,?_⟩
 unfold Ļ at h4
 rw[if_pos h1] at h4
 cases e:mb (startP N.length ps') with
 |bad=>rw[e] at h4;exact h4
 |exc x ρ'=>rw[e] at h4;exact λσ' C d F' H' rel s1 q=>h4 C d F' H' rel.gr q
 |ok fl ρ'=>
  rw[e] at h4
  cases fl with
  |nx=>exact λσ' F' H' rel s1=>h4 .non F' H' rel.gr (Rep.non (K:=⟨K,cm⟩) (F:=F'))
  |bk=>exact h4.elim
  |ct=>exact h4.elim
  |rt r=>
   intro v σ' F' H' rel s1 q
   refine h4 v F' H' rel.gr ?_
   cases r with
   |sh p=>exact q
   |ow qs=>
    obtain⟨a,vs',e1,e2,e3,e4,_,e5⟩:=q
    exact⟨a,vs',e1,e2,e3,e4,e5⟩
   |ot qs ts rs=>
    obtain⟨p,a,xs,vs',ys,e1,e0,ex,e2,e3,e4,_,e5⟩:=q
    exact⟨p,a,xs,vs',ys,e1,e0,ex,e2,e3,e4,e5⟩
def fnQ{x qual:Str}{st:Stmt}{f:Addr}{fd:FuncData}{N ps:List Str}{k n j:Nat}{mb:M Fl}{mf:MF}(F:Gs K x qual st f fd)(S:ď N ps (ć st))(hn:ps.length=n)(hj:N.length=j)(hf:mf=Ļ n j mb)
 (hbody:∀(cdv:Value) (A:Around) (outer:List Env) (s:Shared) (H:Hp) (E:XK),Ţ k (A.deeper (envOfC qual (ć st) s.heap.objs.size f cdv))→
   eV (oY CX P w K mg base N qual (ć st) f cdv A outer s H E) (œ st) (tS ⟨K,cm⟩ (λ_=>E) mb)):ĥ P w K mg base CX (k+1) f fd ps (ű ⟨K,cm⟩ n mf):=by
 subst hn hj hf
 exact fnP F S hbody
end
def Ď(mf:MF)(mr:M (List Slot)):M RV:=λρ=>(mr ρ).bind λps ρ1=>match mf ps with
 | .ret r=>.ok r ρ1
 | .exc x=>.exc x ρ1
 | .bad=>.bad
section
variable{X:Cx}{cm:String->Addr}{E:L2.St->XK}{CX:gk}{k n:Nat}{f:Addr}{fd:FuncData}{ps:List Str}{mf:MF}{mr:M (List Slot)}{x:Str}{p pos:Pos}{e:Expr}{es:List Expr}
def xu{sp:Sp}{pins:List (Addr×Obj)}{σ:L2.St}{H:Hp}{s:Shared}{Q:VK}{us:List Value}{vs:List V}(F:ĥ X.prog X.w X.K X.mg X.base CX k f fd ps sp)(hr:Ţ k X.A)(hb:Binds X.K fd ps [])(hx:bO CX X E)
 (I:Inv X pins σ H s)(r:Vals vs us)(h:sp vs H Q (E σ)):wpAny (model X.prog X.w) X.A (call (.ref f) us) (EP X pins σ Q) X.xe s:=by
 have hl:(us ++ []).length=ps.length:=by rw[List.append_nil,<-r.length];exact F.len _ _ _ _ h
 have hbd:=hb s us I.yI hl
 rw[List.append_nil] at hbd
 refine wpAny_call (codeAny_mono (F.run X.A X.stack s H ⟨us,[]⟩ us vs Q (E σ) hr I.env0 hbd r h) λr s' hq=>?_)
 cases r with
 |error e=>exact hx pins σ H s e s' I hq
 |ok fl=>
  cases fl with
  |ret u=>exact I.after hq
  |next=>exact False.elim hq
  |brk=>exact False.elim hq
  |cont=>exact False.elim hq
def rP{c:Ctx}{F1 H1:Hp}{σ:L2.St}{ρ1:ļ}{Q:VK}{ps:List Slot}{vs:List V}(hlen:(∃r,mf ps=r/\∀z,r=z->z≠ .bad)->ps.length=n)(Đ:Rel (kk X cm) c F1 H1 σ ρ1)(r1:Paired (aB (kk X cm) F1 H1) ps vs)
 (h:Ż (kk X cm) E (rO (kk X cm)) c F1 H1 σ Q (match mf ps with| .ret r=>.ok r ρ1| .exc x=>.exc x ρ1| .bad=>.bad)):ű (kk X cm) n mf vs H1 Q (E σ):=by
 refine⟨F1,ps,?_,Đ.sub,r1,?_⟩
 ·refine hlen ⟨_,rfl,λz hz hb=>?_⟩
  rw[hz,hb] at h
  exact h
 ·cases em:mf ps with
  |bad=>rw[em] at h;exact h
  |exc x=>rw[em] at h;exact λC d F' H' g rx=>h C d F' H' (Đ.call g) g.f rx
  |ret r=>
   rw[em] at h
   intro v F' H' g rf
   refine h v F' H' (Đ.call g) g.f g.h ?_
   cases r with
   |sh p=>exact rf
   |ow qs=>
    obtain⟨a,vs',e1,e2,e3,e4,e5⟩:=rf
    exact⟨a,vs',e1,e2,e3,Đ.base.free e4,Đ.pG g.f (Đ.fresh e4),e5⟩
   |ot qs ts rs=>
    obtain⟨p,a,xs,vs',ys,e1,e0,ex,e2,e3,e4,e5⟩:=rf
    exact⟨p,a,xs,vs',ys,e1,e0,ex,e2,e3,Đ.base.free e4,Đ.pG g.f (Đ.fresh e4),e5⟩
def bC{n k:Nat}{mb:M Fl}{ps:List Slot}(h:∃r,Ļ n k mb ps=r/\∀z,r=z->z≠ .bad):ps.length=n:=by
 obtain⟨r,h1,h2⟩:=h
 unfold Ļ at h1
 by_cases hl:ps.length=n
 ·exact hl
 ·rw[if_neg hl] at h1
  exact absurd h1.symm (λz=>h2 .bad (by rw[<-h1]) rfl)
def QS(F:ĥ X.prog X.w X.K X.mg X.base CX k f fd ps (ű (kk X cm) n mf))(hlen:∀{ps:List Slot},(∃r,mf ps=r/\∀z,r=z->z≠ .bad)->ps.length=n)(hr:Ţ k X.A)(hg:Gl X x)(hm:X.mg x=some (.ref f))(hk:PySem.W.keepIn X.K (.ref f)=true)(hb:Binds X.K fd ps [])(hx:bO CX X E)
 (ha:PA X (e::es) (tA (kk X cm) E mr))(hdb:(x== ("__debug__" :Str))=false:=by decide)(he:starEach (e::es) X.env=(false,eval e X.env)::starEach es X.env:=by exact cW rfl)(hpl:(backTo pos (starEach es X.env)).any (·.1)=false:=by rfl) :
 PE X (.Call (.Name x p) (e::es) [] pos) (tO (kk X cm) E (Ď mf mr)):=by
 intro pins s σ H Q I h
 obtain⟨c,F,ρ,rel,h⟩:=h
 refine wpAny_Call_Name_kw (oR I hg hm ?_ hdb)
 refine PySem.W.callWith_K (h₀:= X.base) I.ok.mod.Yo hk (Ň (ha pos pins s σ H (λvs H1=>ű (kk X cm) n mf vs H1 Q (E σ)) I ⟨c,F,ρ,rel,h.bind λps' ρ1 vs F1 H1 Đ _ _ r1 h1=>rP hlen Đ r1 h1⟩) λus s1 ⟨vs,H1,I1,r,q⟩=>⟨I1.yI,?_⟩) he hpl
 exact xu (by assumption) hr hb hx I1 r q
end
def ŏ(m:M PV):M (List PV):=λρ=>(m ρ).bind λp ρ1=>match p with
 | .lst ps=>.ok ps ρ1
 | .tup ps=>.ok ps ρ1
 | .str z=>.ok (z.cps.toList.map λc=>.str ⟨#[c]⟩) ρ1
 |_=>.bad
section
variable{X:Cx}{cm:String->Addr}{E:L2.St->XK}{tg:Expr}
def Za0(K:PySem.W.Frag)(tl:TE):TI:=λσ H R=>tl σ H λx H1=>(∃a,x=.ref a/\(∃xs,Ũ K H1 a xs)/\R (Uh K a) H1)\/(∃a,x=.ref a/\(∃xs,cL K H1 a xs)/\R (Itt K a) H1)\/∃z,x=.str z/\R (Its z) H1
def BL{l:Expr}{tl:TE}(hl:PE X l tl):PI X tg l (Za0 X.K tl):=by
 intro pins s σ H R I h
 refine Ň (hl pins s σ H _ I h) λv s1 ⟨x,H1,I1,r1,q1⟩=>?_
 rcases q1 with⟨a,e,⟨xs,hq⟩,q⟩|⟨a,e,⟨xs,hq⟩,q⟩|⟨z,e,q⟩
 ·subst e
  cases r1
  obtain⟨its,rv,p,hz⟩:=I1.list hq
  refine wpAny_pyIter_list p.isList ?_
  refine⟨s1.heap.objs.size,[s1.heap.objs.size],_,_,H1,rfl,I1.kept (t':=s1.toks) λb o e=>Heap.get?_push_of_some _ e,yL a _,⟨_,Heap.get?_push_size _ rfl,rfl,rfl⟩,λb hb=>?_,q⟩
  have e:b=s1.heap.objs.size:=by simpa using hb
  subst e
  exact I1.yK (Nat.le_refl _) (I1.hok.fresh (Nat.le_refl _))
 ·subst e
  cases r1
  obtain⟨its,rv,p,hz⟩:=I1.tuple hq
  refine wpAny_pyIter_tuple (show s1.heap.IsTuple a its.toArray from p) ?_
  refine⟨s1.heap.objs.size,[s1.heap.objs.size],_,_,H1,rfl,I1.kept (t':=s1.toks) λb o e=>Heap.get?_push_of_some _ e,uw a _,⟨_,Heap.get?_push_size _ rfl,rfl,rfl⟩,λb hb=>?_,q⟩
  have e:b=s1.heap.objs.size:=by simpa using hb
  subst e
  exact I1.yK (Nat.le_refl _) (I1.hok.fresh (Nat.le_refl _))
 ·subst e
  obtain⟨t,rfl⟩:=r1
  have fin:∀ty,(∀A:Around,A.handled=none->Walks X.prog X.w A s1.heap.objs.size [s1.heap.objs.size] [s1.heap.objs.size] z.cps.size (SignAt z) (λi h=>h.IsStrIter s1.heap.objs.size ty z t i))->
   (∀(A:Around) (i:Nat) (s:Shared) (Q:Value->Shared->Prop) (E:Value->Shared->Prop),s.heap.IsStrIter s1.heap.objs.size ty z t i->Q (.ref s1.heap.objs.size) s->wpAny (model X.prog X.w) A (pyIter (.ref s1.heap.objs.size)) Q E s)->
   (["enumerate","zip","dict_itemiterator","dict_reverseitemiterator","odict_iterator","itertools.zip_longest","itertools.pairwise"].contains ty=false)->
   PIE X pins σ tg R (.ref s1.heap.objs.size) {s1 with heap:=s1.heap.push {cls:=.type ty,data:=.fields #[.str z t,.int 0 0]}}:=λty hW hS hty=>by
   refine⟨s1.heap.objs.size,[s1.heap.objs.size],_,_,H1,rfl,I1.kept (t':=s1.toks) λb o e=>Heap.get?_push_of_some _ e,zc _ z t ty hW hS hty,⟨_,Heap.get?_push_size _ rfl,rfl,rfl⟩,λb hb=>?_,q⟩
   have e:b=s1.heap.objs.size:=by simpa using hb
   subst e
   exact I1.yK (Nat.le_refl _) (I1.hok.fresh (Nat.le_refl _))
  cases ha:z.cps.all (·< 128) with
  |true=>exact wpAny_pyIter_ascii ha (fin _ (λA hA=>Walks.strAscii hA _ z t) (λA i s Q E st q=>wpAny_pyIter_striter_ascii st q) (by decide))
  |false=>exact wpAny_pyIter_wide ha (fin _ (λA hA=>Walks.strWide hA _ z t) (λA i s Q E st q=>wpAny_pyIter_striter_wide st q) (by decide))
def bZ{l:Expr}{m:M PV}(hl:PE X l (tV (kk X cm) E m)):PI X tg l (tI (kk X cm) E (ŏ m)):=λpins s σ H R I h=>BL hl pins s σ H R I (by
 obtain⟨c,F,ρ,rel,h⟩:=h
 refine⟨c,F,ρ,rel,h.bind λp ρ1 v F1 H1 Đ s1 s2 q h1=>?_⟩
 cases p with
 |lst ps=>
  have q':Rep (kk X cm) F1 (.lst ps) v:=q
  unfold Rep at q'
  obtain⟨a,vs,rfl,e1,e2⟩:=q'
  refine .inl ⟨a,rfl,⟨vs,Đ.sub.seq e1⟩,h1 _ F1 H1 Đ (Same.refl _) (Same.refl _) ?_⟩
  intro c' i F2 H2 σ2 ρ2 ī sF _
  have hq:Ũ X.K H2 a vs:=(sF.trans ī.sub).seq e1
  refine⟨λp hp=>?_,λhi=>⟨vs,hq,by rw[hi,e2.length];exact Nat.le_refl _⟩⟩
  obtain⟨u,hu,ru⟩:=aA e2.pr hp
  refine⟨⟨vs,u,hq,hu⟩,λx H' ⟨hH,hx⟩=>?_⟩
  subst hH
  have:vs[i]?=some x:=hx vs hq
  rw[hu] at this
  cases this
  exact⟨F2,ī,Same.refl _,Same.refl _,Rep.same sF p u ru⟩
 |tup ps=>
  have q':Rep (kk X cm) F1 (.tup ps) v:=q
  unfold Rep at q'
  obtain⟨a,vs,rfl,e1,e2⟩:=q'
  refine .inr (.inl ⟨a,rfl,⟨vs,cL.of (Đ.sub _ _ e1)⟩,h1 _ F1 H1 Đ (Same.refl _) (Same.refl _) ?_⟩)
  intro c' i F2 H2 σ2 ρ2 ī sF _
  have hq:cL X.K H2 a vs:=cL.of ((sF.trans ī.sub) _ _ e1)
  refine⟨λp hp=>?_,λhi=>⟨vs,hq,by rw[hi,e2.length];exact Nat.le_refl _⟩⟩
  obtain⟨u,hu,ru⟩:=aA e2.pr hp
  refine⟨⟨vs,u,hq,hu⟩,λx H' ⟨hH,hx⟩=>?_⟩
  subst hH
  have:vs[i]?=some x:=hx vs hq
  rw[hu] at this
  cases this
  exact⟨F2,ī,Same.refl _,Same.refl _,Rep.same sF p u ru⟩
 |str z=>
  have q':v=.str z:=by have q':Rep (kk X cm) F1 (.str z) v:=q;unfold Rep at q';exact q'
  subst q'
  refine .inr (.inr ⟨z,rfl,h1 _ F1 H1 Đ (Same.refl _) (Same.refl _) ?_⟩)
  intro c' i F2 H2 σ2 ρ2 ī sF _
  refine⟨λp hp=>?_,λhi=>by rw[hi,List.length_map];show _=_;simp⟩
  rw[List.getElem?_map] at hp
  cases ez:z.cps.toList[i]? with
  |none=>rw[ez] at hp;cases hp
  |some cc=>
   rw[ez] at hp
   cases hp
   refine⟨by have:=(List.getElem?_eq_some_iff.mp ez).1;show i<z.cps.size;simpa using this,λx H' ⟨hH,c2,hc,hx⟩=>?_⟩
   subst hH hx
   rw[ez] at hc
   cases hc
   exact⟨F2,ī,Same.refl _,Same.refl _,Rep.str⟩
 |_=>exact h1.elim)
def ņ(i:Nat):M (List PV):=λρ=>match ρ[i]? with
 |some (.bw ps)=>.ok ps ρ
 |some (.sh (.lst ps))=>.ok ps ρ
 |some (.sh (.tup ps))=>.ok ps ρ
 |some (.sh (.str z))=>.ok (z.cps.toList.map λc=>.str ⟨#[c]⟩) ρ
 |some (.ow ps)=>.ok ps (ρ.set i (.sh (.lst ps)))
 |_=>.bad
def Ž(i:Nat){x:Str}{px:Pos}(hN:X.N[i]?=some x:=by rfl)(hv:uf X.env.scope x:=by first|exact Or.inl rfl|exact Or.inr (Or.inl rfl)|exact Or.inr (Or.inr rfl))(hd:(x== ("__debug__" :Str))=false:=by decide)
 (hcd:(x== ("__classdict__" :Str))=false:=by decide):PI X tg (.Name x px) (tI (kk X cm) E (ņ i)):=λpins s σ H R I h=>by
 obtain⟨c,F,ρ,rel,h⟩:=h
 cases e:ρ[i]? with
 |none=>unfold ņ at h;rw[e] at h;exact h.elim
 |some sl=>
  have Hl:Ż (kk X cm) E (rIt (kk X cm)) c F H σ R (ŏ (ė i) ρ)->wpAny (model X.prog X.w) X.A (eval (.Name x px) X.env) (λv s1=>wpAny (model X.prog X.w) X.A (pyIter v) (PIE X pins σ tg R) X.xe s1) X.xe s:=λh'=>
   bZ (v_var i hN hv hd hcd) pins s σ H R I ⟨c,F,ρ,rel,h'⟩
  unfold ņ at h
  rw[e] at h
  cases sl with
  |no=>exact h.elim
  |rc C ns ps=>exact h.elim
  |ot ps qs rs=>exact h.elim
  |ol zO=>exact h.elim
  |od _ _=>exact h.elim
  |bd _ _=>exact h.elim
  |ow ps=>exact Hl (by unfold ŏ ė;rw[e];exact h)
  |sh p=>
   cases p with
   |lst ps=>exact Hl (by unfold ŏ ė;rw[e];exact h)
   |tup ps=>exact Hl (by unfold ŏ ė;rw[e];exact h)
   |str z=>exact Hl (by unfold ŏ ė;rw[e];exact h)
   |_=>exact h.elim
  |bw ps=>
   obtain⟨a,vs,h1,h2,h3⟩:=rel.slot i _ e
   refine BL (au hN hv hd hcd) pins s σ H R I ⟨.ref a,at_of h1,.inl ⟨a,rfl,⟨vs,Ũ.of (rel.lent a _ h2).1⟩,h _ F H rel (Same.refl _) (Same.refl _) ?_⟩⟩
   intro c' j F2 H2 σ2 ρ2 ī sF sL
   have hq:Ũ X.K H2 a vs:=Ũ.of (sL a _ h2)
   refine⟨λp hp=>?_,λhi=>⟨vs,hq,by rw[hi,h3.length];exact Nat.le_refl _⟩⟩
   obtain⟨u,hu,ru⟩:=aA h3.pr hp
   refine⟨⟨vs,u,hq,hu⟩,λx H' ⟨hH,hx⟩=>?_⟩
   subst hH
   have:vs[j]?=some x:=hx vs hq
   rw[hu] at this
   cases this
   exact⟨F2,ī,Same.refl _,Same.refl _,Rep.same sF p u ru⟩
def dz(lo:Int)(n:Nat)(c:Int):List PV:=(List.range n).map λ(i:Nat)=>.int (lo+i*c)
def jY(i:Int):Bool:=decide (i.natAbs<1152921504606846976)
def eZ:List PV->Option (List PV)
 | [.int j]=>if jY j=true then some (dz 0 j.toNat 1) else none
 |_=>none
def fU(f:List PV->Option (List PV))(mr:M (List PV)):M (List PV):=λρ=>(mr ρ).bind λps ρ1=>Res.jJ (f ps) ρ1
def uW{lo c:Int}{n i:Nat}{p:PV}(h:(dz lo n c)[i]?=some p):i<n/\p=.int (lo+i*c):=by
 unfold dz at h
 by_cases hn:i<n
 ·rw[List.getElem?_map,List.getElem?_range hn] at h
  exact⟨hn,(Option.some.inj h).symm⟩
 ·rw[List.getElem?_eq_none (by simpa using hn)] at h
  cases h
def uX{lo c:Int}{n:Nat}:(dz lo n c).length=n:=by simp[dz]
def QT{K:KK}{Lh F:Hp}(lo:Int)(n:Nat):pJ K Lh F (Ys lo n) (dz lo n 1):=λc i F2 H σ ρ rel sF _=>
 ⟨fun p hp=>by
   obtain⟨h1,rfl⟩:=uW hp
   refine⟨h1,λx H' ⟨e1,e2⟩=>?_⟩
   subst e1 e2
   exact⟨F2,rel,Same.refl _,Same.refl _,by rw[Int.mul_one];exact Rep.int⟩,λhi=>by rw[uX] at hi;subst hi;exact Nat.le_refl _⟩
def zj{i:Int}(h:jY i=true): -(2 ^ 60)<=i/\i<2 ^ 60:=by
 unfold jY at h
 rw[decide_eq_true_eq] at h
 omega
variable{a b d:Expr}{p pos:Pos}{mr:M (List PV)}
def BP{K:KK}{F:Hp}{ps:List PV}{vs:List V}(h:đ K F ps vs):(∀i r,ps=.int i::r->∃r',vs=.int i::r'/\đ K F r r')/\(ps=[]->vs=[]):=by
 refine⟨λi r e=>?_,λe=>?_⟩
 ·subst e
  unfold đ at h
  obtain⟨x,r',h1,h2,h3⟩:=h
  unfold Rep at h2
  exact⟨r',by rw[h1,h2],h3⟩
 ·subst e
  unfold đ at h
  exact h
def dB(hg:Gl X "range")(hm:X.mg "range" =none)(ha:PA X [a] (tL (kk X cm) E mr))(hs:starEach [a] X.env=[(false,eval a X.env)]:=by exact cW rfl):PI X tg (.Call (.Name "range" p) [a] [] pos) (tI (kk X cm) E (fU eZ mr)):=
 λpins s σ H R I h=>yM hg hm ha hs pins s σ H R I (by
  obtain⟨c,F,ρ,rel,h⟩:=h
  refine⟨c,F,ρ,rel,h.bind λps ρ1 vs F1 H1 Đ s1 s2 q h1=>?_⟩
  have q':đ (kk X cm) F1 ps vs:=q
  unfold eZ at h1
  split at h1
  ·rename_i j
   split at h1
   ·rename_i hj
    obtain⟨r',e1,e2⟩:=(BP q').1 _ _ rfl
    cases(BP e2).2 rfl
    obtain⟨k1,k2⟩:=zj hj
    exact⟨j,e1,by omega,by omega,h1 _ F1 H1 Đ (Same.refl _) (Same.refl _) (QT 0 j.toNat)⟩
   ·exact h1.elim
  ·exact h1.elim)
end
def pK:Slot->Slot
 | .sh p=>.sh p
 | .ow ps=>.bw ps
 | .bw ps=>.bw ps
 | .od t kvs=>.bd t kvs
 | .bd t kvs=>.bd t kvs
 |_=>.no
def rQ(js:List Nat)(nl:Nat)(ρ:ļ):ļ:=js.map (λ(j:Nat)=>pK ((ρ[j]?).getD .no))++List.replicate nl .no
def Ľ(g:Tg)(mt:M Bool)(me:M PV):List PV->ļ->List PV->Option (List PV)
 | [],_,acc=>some acc
 |p::ps,ρ,acc=>match g p ρ with
  |none=>none
  |some ρ1=>match mt ρ1 with
   | .ok true ρ2=>match me ρ2 with
     | .ok q ρ3=>if acc.length<16777216 then Ľ g mt me ps ρ3 (acc ++ [q]) else none
     |_=>none
   | .ok false ρ2=>Ľ g mt me ps ρ2 acc
   |_=>none
def ŉ(js:List Nat)(nl:Nat)(mi:M (List PV))(g:Tg)(mt:M Bool)(me:M PV):M RV:=λρ=>(mi ρ).bind λitems ρ1=>match Ľ g mt me items (rQ js nl ρ1) [] with
 |some ps=>.ok (.ow ps) ρ1
 |none=>.bad
abbrev EF:L2.St->XK:=λ_ _ _ _=>False
def Ŀ:M Bool:=λρ=>.ok true ρ
section
variable{K:KK}{c:Ctx}{F H:Hp}{σ:L2.St}{ρ:ļ}
def pL(F H H1:Hp):Ctx:=⟨H1,F,(ctx0 F H).L,λ_ _ _=>True⟩
def Rel.cap(js:List Nat)(nl:Nat)(rel:Rel K c F H σ ρ){D:Addr}{o:HO}(hD:H D=none):Rel K (pL F H (upd H D o)) F (upd H D o) (cV js nl σ) (rQ js nl ρ) where
 sub:=rel.sub.trans (Same.upd hD)
 base:=Same.refl _
 f0:=Same.refl _
 ak:=λ_ _ z=>z
 lent:=λa u e=>⟨Same.upd hD a u (bN e).1,(bN e).2⟩
 lb:=fun a e=>by
   cases q:(pL F H (upd H D o)).L a with
   |none=>rfl
   |some u=>
    have e':upd H D o a=none:=e
    rw[Same.upd hD a u (bN q).1] at e'
    cases e'
 len:=by simp[cV,rQ]
 slot:= λi s e=>by
  unfold rQ at e
  by_cases hi:i<js.length
  ·rw[List.getElem?_append_left (by simpa using hi),List.getElem?_map] at e
   cases ej:js[i]? with
   |none=>rw[ej] at e;cases e
   |some j=>
    rw[ej] at e
    have e':pK ((ρ[j]?).getD .no)=s:=Option.some.inj e
    subst e'
    have hx:((cV js nl σ)[i]?).getD none=(σ[j]?).getD none:=by
     unfold cV
     rw[List.getElem?_append_left (by simpa using hi),List.getElem?_map,ej]
     rfl
    rw[hx]
    cases er:ρ[j]? with
    |none=>trivial
    |some sl=>
     have q:=rel.slot j sl er
     cases sl with
     |no=>trivial
     |sh p=>exact q
     |ow ps=>
      obtain⟨a,vs,h1,h2,h3,h4,h5⟩:=q
      refine⟨a,vs,h1,?_,h5⟩
      show(match F a with|none=>H a|some _=>none)=_
      rw[h3]
      exact h2
     |bw ps=>
      obtain⟨a,vs,h1,h2,h3⟩:=q
      obtain⟨l1,l2⟩:=rel.lent a _ h2
      refine⟨a,vs,h1,?_,h3⟩
      show(match F a with|none=>H a|some _=>none)=_
      rw[l2]
      exact l1
     |rc C ns ps=>trivial
     |ot ps qs rs=>trivial
     |ol zO=>trivial
     |od t kvs=>
      obtain⟨a,u,h1,h2,h3,h4,h5⟩:=q
      refine⟨a,u,h1,.inl ?_,h5⟩
      show(match F a with|none=>H a|some _=>none)=_
      rw[h3]
      exact h2
     |bd t kvs=>
      obtain⟨a,u,h1,h2,h3⟩:=q
      refine⟨a,u,h1,h2.imp (λh2=>?_) id,h3⟩
      obtain⟨l1,l2⟩:=rel.lent a _ h2
      show(match F a with|none=>H a|some _=>none)=_
      rw[l2]
      exact l1
  ·rw[List.getElem?_append_right (by simpa using hi),List.getElem?_replicate] at e
   split at e
   ·cases e;trivial
   ·cases e
 sep:=λi j a h1 _=>by
  exfalso
  obtain⟨s,y,h1,_,h2⟩:=h1
  have h2:=jU h2
  unfold rQ at h1
  by_cases hi:i<js.length
  ·rw[List.getElem?_append_left (by simpa using hi),List.getElem?_map] at h1
   cases ej:js[i]? with
   |none=>rw[ej] at h1;cases h1
   |some j=>
    rw[ej] at h1
    have e':pK ((ρ[j]?).getD .no)=s:=Option.some.inj h1
    subst e'
    cases q:(ρ[j]?).getD .no<;>rw[q] at h2<;>cases h2
  ·rw[List.getElem?_append_right (by simpa using hi),List.getElem?_replicate] at h1
   split at h1
   ·cases h1;cases h2
   ·cases h1
def Rel.rebase{H1 F1:Hp}{D:Addr}{ys zs:List V}(hD:H1 D=none)(hF:F1 D=none)(rel:Rel K (pL F1 H1 (upd H1 D (.lst ys))) F H σ ρ):Rel K (pL F1 H1 (upd H1 D (.lst zs))) F (upd H D (.lst zs)) σ ρ:= by
 have fD:F D=none:=rel.ak D (by show upd H1 D _ D≠none;rw[ĝ];intro z;cases z) hF
 have lD:∀b u,(pL F1 H1 (upd H1 D (.lst ys))).L b=some u->b≠D:=λb u e z=>by
  have q:=(bN (F:=F1) (H:=H1) (a:=b) (u:=u) e).1
  rw[z,hD] at q
  cases q
 have ne:∀b,(pL F1 H1 (upd H1 D (.lst ys))).B b=none->b≠D:=λb z q=>by
  subst q
  have z':upd H1 b (.lst ys) b=none:=z
  rw[ĝ] at z';cases z'
 have back:∀b,b≠D->(pL F1 H1 (upd H1 D (.lst ys))).B b=none->(pL F1 H1 (upd H1 D (.lst zs))).B b=none:=λb hb z=>by
  have z':upd H1 D (.lst ys) b=none:=z
  show upd H1 D (.lst zs) b=none
  rw[Ě hb] at z' ⊢;exact z'
 refine⟨λb u e=>?_,λb u e=>?_,rel.f0,λb h1 h2=>?_,λb u e=>?_,λb e=>?_,rel.len,λi s e=>?_,rel.sep⟩
 ·have hb:b≠D:=λz=>by rw[z,fD] at e;cases e
  rw[Ě hb];exact rel.sub b u e
 ·by_cases hb:b=D
  ·subst hb
   have e':upd H1 b (.lst zs) b=some u:=e
   rw[ĝ] at e' ⊢;exact e'
  ·have e':upd H1 D (.lst zs) b=some u:=e
   rw[Ě hb] at e' ⊢
   exact rel.base b u (by show upd H1 D _ b=some u;rw[Ě hb];exact e')
 ·refine rel.ak b (λz=>h1 ?_) h2
  exact back b (ne b z) z
 ·rw[Ě (lD b u e)]
  exact rel.lent b u e
 ·refine rel.lb b ?_
  have z':upd H1 D (.lst zs) b=none:=e
  have hb:b≠D:=λq=>by rw[q,ĝ] at z';cases z'
  show upd H1 D (.lst ys) b=none
  rw[Ě hb] at z' ⊢;exact z'
 ·have q:=rel.slot i s e
  cases s with
  |no=>trivial
  |sh p=>exact q
  |bw ps=>exact q
  |ow ps=>
   obtain⟨a,vs,q1,q2,q3,q4,q5⟩:=q
   have hb:=ne a q4
   exact⟨a,vs,q1,by rw[Ě hb];exact q2,q3,back a hb q4,q5⟩
  |bd t kvs=>exact q
  |od t kvs=>
   obtain⟨a,u,q1,q2,q3,q4,q5⟩:=q
   have hb:=ne a q4
   exact⟨a,u,q1,by rw[Ě hb];exact q2,q3,back a hb q4,q5⟩
  |rc C ns ps=>
   obtain⟨a,dx,fs,q1,q2,q3,q4,q5⟩:=q
   have hb:=ne a q4
   exact⟨a,dx,fs,q1,by rw[Ě hb];exact q2,q3,back a hb q4,q5⟩
  |ot ps qs rs=>
   obtain⟨p,a,xs,vs,ys,q1,q0,qx,q2,q3,q4,q5⟩:=q
   have hb:=ne a q4
   exact⟨p,a,xs,vs,ys,q1,q0,qx,by rw[Ě hb];exact q2,q3,back a hb q4,q5⟩
  |ol zO=>
   obtain⟨p,as,q1,q0,qn,qp⟩:=q
   refine⟨p,as,q1,q0,qn,rM qp λa ps _ ⟨vs,q2,q3,q4,q5⟩=>?_⟩
   have hb:=ne a q4
   exact⟨vs,by rw[Ě hb];exact q2,q3,back a hb q4,q5⟩
end
section
variable{X:Cx}{cm:String->Addr}{E:L2.St->XK}{elt tg iter:Expr}{ifs:List Expr}{scope:Scope}{pos:Pos}{mi:M (List PV)}{g:Tg}{mt:M Bool}{me:M PV}
def Ŗ:Fp X [] (tB (kk X cm) E Ŀ):=λpins s σ H Q I h=>Gy pins s σ H Q I (by
 obtain⟨c,F,ρ,rel,h⟩:=h
 exact h true F H rel (Same.refl _) (Same.refl _) rfl)
def BR(K:KK):RR (List PV) It:=λ_ _ _ F H items J=>pJ K (ctx0 F H).L F J items
def V_{K:KK}{c:Ctx}{F H:Hp}{σ:L2.St}{ρ:ļ}(rel:Rel K c F H σ ρ){b:Addr}{u:HO}(e:c.L b=some u):(ctx0 F H).L b=some u:=by
 obtain⟨l1,l2⟩:=rel.lent b u e
 show(match F b with|none=>H b|some _=>none)=some u
 rw[l2]
 exact l1
def Jk(h:PI X tg iter (tI (kk X cm) E mi)):PI X tg iter (tG (kk X cm) E (BR (kk X cm)) mi):=λpins s σ H R I ⟨c,F,ρ,rel,q⟩=>h pins s σ H R I ⟨c,F,ρ,rel,Ż.bind (R':=BR (kk X cm)) (f:=λp ρ=>.ok p ρ) (by revert q;cases mi ρ <;> exact id) λp ρ1 v F1 H1 Đ s1 s2 q h1=>h1 v F1 H1 Đ (Same.refl _) (Same.refl _) λc' i F2 H2 σ2 ρ2 ī sF sL=>q c' i F2 H2 σ2 ρ2 ī sF λb u e=>sL b u (V_ Đ e)⟩
def rT{js:List Nat}{nl:Nat}{σ:L2.St}{H:Hp}{Q:VK}(h:tO (kk X cm) E (ŉ js nl mi g mt me) σ H Q):Bh js nl (tG (kk X cm) E (BR (kk X cm)) mi) (tT (kk X cm) g) (tB (kk X cm) EF mt) (tV (kk X cm) EF me) σ H Q:=by
 obtain⟨c,F,ρ,rel,h⟩:=h
 refine⟨c,F,ρ,rel,h.bind λitems ρ1 J F1 H1 Đ s1 s2 ito h1=>?_⟩
 intro D hD
 have hF:F1 D=none:=Đ.sub.free hD
 cases ec:Ľ g mt me items (rQ js nl ρ1) [] with
 |none=>rw[ec] at h1;exact h1.elim
 |some res=>
  rw[ec] at h1
  refine⟨λi m σ' H'=>∃F' ρ' ys acc,i<=items.length/\m=items.length-i/\Rel (kk X cm) (pL F1 H1 (upd H1 D (.lst ys))) F' H' σ' ρ'/\đ (kk X cm) F' acc ys/\Ľ g mt me (items.drop i) ρ' acc=some res,
   ⟨_,F1,_,[],[],Nat.zero_le _,rfl,?_,đ.nil,ec⟩,?_⟩
  ·exact Đ.cap js nl hD
  ·rintro i m σ2 H2 ⟨F2,ρ2,ys,acc,hle,rfl,ī,ra,h2⟩
   have s12:Same F1 F2:=ī.f0
   obtain⟨go,stop⟩:=ito _ i F2 H2 σ2 ρ2 ī s12 λb u e=>(ī.lent b u e).1
   have hH2:H2 D=some (.lst ys):=ī.base D _ (show upd H1 D _ D=_ from ĝ)
   have fD:F2 D=none:=ī.ak D (by show upd H1 D _ D≠none;rw[ĝ];intro z;cases z) hF
   by_cases hlt:i<items.length
   ·obtain⟨g1,g2⟩:=go items[i] (List.getElem?_eq_getElem hlt)
    rw[List.drop_eq_getElem_cons hlt] at h2
    unfold Ľ at h2
    refine .inr ⟨g1,_,λσ' H' z=>z,λx H3 hy=>?_⟩
    obtain⟨F3,mG,s3,sH3,rp⟩:=g2 x H3 hy
    refine⟨_,F3,ρ2,items[i],mG,rp,?_⟩
    cases eg:g items[i] ρ2 with
    |none=>rw[eg] at h2;cases h2
    |some ρ3=>
     rw[eg] at h2
     dsimp only at h2
     intro σ4 uT
     refine⟨_,F3,ρ3,uT,?_⟩
     cases em:mt ρ3 with
     |bad=>rw[em] at h2;cases h2
     |exc x ρ4=>rw[em] at h2;cases h2
     |ok b ρ4=>
      rw[em] at h2
      intro b' F5 H5 Wa s5 Jl eb
      have eb':b=b':=eb
      subst eb'
      cases b with
      |false=>
       rw[if_neg Bool.false_ne_true]
       dsimp only at h2
       exact⟨items.length-(i+1),by omega,F5,ρ4,ys,acc,hlt,rfl,Wa,đ.same (s3.trans s5) acc ys ra,h2⟩
      |true=>
       rw[if_pos rfl]
       dsimp only at h2
       refine⟨_,F5,ρ4,Wa,?_⟩
       cases ee:me ρ4 with
       |bad=>rw[ee] at h2;cases h2
       |exc x ρ5=>rw[ee] at h2;cases h2
       |ok q ρ5=>
        rw[ee] at h2
        dsimp only at h2
        intro y F6 H6 Wb s6 Ho rq
        split at h2
        ·rename_i hz
         have ra6:=đ.same ((s3.trans s5).trans s6) acc ys ra
         refine⟨ys,Wb.base D _ (show upd H1 D _ D=_ from ĝ),by rw[<-ra6.length,ķ];exact hz,?_⟩
         exact⟨items.length-(i+1),by omega,F6,ρ5,ys ++ [y],acc ++ [q],hlt,rfl,Wb.rebase hD hF,đ.append ra6 (đ.cons rq đ.nil),h2⟩
        ·cases h2
   ·have e:i=items.length:=by omega
    refine .inl ⟨stop e,?_⟩
    rw[List.drop_eq_nil_of_le (by omega)] at h2
    unfold Ľ at h2
    cases h2
    have gr:Gr F1 H1 F2 H2:=⟨λb u e=>ī.base b u (by show upd H1 D _ b=_;rw[Ě (ı e hD)];exact e),s12,ī.sub,λb hb hf=>ī.ak b (by
     show upd H1 D _ b≠none
     by_cases hbD:b=D
     ·rw[hbD,ĝ];intro z;cases z
     ·rw[Ě hbD];exact hb) hf⟩
    have Za1:=Đ.call gr
    exact h1 _ F2 H2 Za1 s12 gr.h ⟨D,ys,rfl,hH2,fD,Đ.base.free hD,Đ.pG gr.f (Đ.fresh hD),ra⟩
def Hq(N':List Str)(js:List Nat)(nl:Nat)(sc:Scope)(hsc:X.env.scope=sc)(hcalm:X.calm=true)
 (hi:PI X.Ō tg iter (tG (kk X cm) E (BR (kk X cm)) mi))(hg:∀cl C s H fp,PG (aU X.Ō N' scope cl C s H fp) tg (tT (kk X cm) g))(ht:∀cl C s H fp,Fp (aU X.Ō N' scope cl C s H fp) ifs (tB (kk X cm) EF mt))(he:∀cl C s H fp,PE (aU X.Ō N' scope cl C s H fp) elt (tV (kk X cm) EF me))
 (hcap:gA X.Ō sc scope N' js)(hlen:js.length+nl=N'.length:=by rfl)
 (hk:scope.kind=.function:=by rfl)(hcell:∀y∈scope.names,y.2=.cell->scope.names.lookup y.1=some .cell:=by decide +kernel)(hnames:∀y∈scope.names,y.2=.local->scope.names.lookup y.1=some .local:=by decide +kernel)
 (hfree:∀y∈scope.names,y.2=.free->(sc.names.lookup y.1=some .cell\/sc.names.lookup y.1=some .free):=by decide +kernel)
 (hs:∀x,foldedSetIterable iter X.env x=pure x:=by intro _;rfl) :
 PE X (.ListComp elt [⟨tg,iter,ifs,0⟩] scope pos) (tO (kk X cm) E (ŉ js nl mi g mt me)):=
 PE.wk (PE.Ō (Gz N' js nl sc hsc hcalm hi hg ht he hcap hlen hk hcell hnames hfree hs)) λ_ _ _ h=>rT h
end
end P
namespace P
open PySem PySem.Spec PyProof.Rows L2 M2 M3 M4
abbrev bits(x:Int):Nat:=Builtin.Int.intBits x
section
variable{X:Cx}{cm:String->Addr}{K:KK}
def Jm(K:PySem.W.Frag):R2:=λx y H Q=>∃l b xs zs,x=.ref l/\y=.ref b/\Ũ K H l xs/\Ũ K H b zs/\xs.length+zs.length<=sizeLine/\∀p,H p=none->Q (.ref p) (upd H p (.lst (xs++zs)))
def Hr:ş X (binaryOp .Add) (Jm X.K):=by
 intro pins s σ H x y v u Q I rx ry h
 obtain⟨l,b,xs,zs,rfl,rfl,hH,hB,hz,q⟩:=h
 cases rx
 cases ry
 obtain⟨its,r,pl,z⟩:=I.list hH
 obtain⟨its2,r2,pl2,z2⟩:=I.list hB
 obtain⟨⟨c1,d1,t1,sl1⟩,n,e,hc,hd,hs⟩:=pl
 obtain⟨⟨c2,d2,t2,sl2⟩,n2,e2,hc2,hd2,hs2⟩:=pl2
 simp only at hc hd hs hc2 hd2 hs2
 subst hc hd hs hc2 hd2 hs2
 have hl:=r.length
 have hl2:=r2.length
 have ea:its.toArray++its2.toArray=(its++its2).toArray:=by simp
 refine concat_meets ⟨_,e,rfl⟩ ⟨_,e2,rfl⟩ noFill_list_add seq_list_add PySem.F.slot_list_add PySem.F.entry_list_add (PySem.F.args_list_add_2 _ _) (list_addW l b its.toArray its2.toArray n n2 none none sl1 sl2 (by simp only[List.size_toArray];omega)) ⟨e,e2,?_⟩
 rw[ea]
 exact⟨.ref _,_,I.ZaO (t':=s.toks) (r.append r2) (by rw[List.length_append];omega),rfl,q _ I.fresh⟩
def Jo(K:PySem.W.Frag):R2:=λx y H Q=>∃l b xs zs,x=.ref l/\y=.ref b/\cL K H l xs/\cL K H b zs/\xs≠[]/\zs≠[]/\xs.length+zs.length<=sizeLine/\∀p,H p=none->Q (.ref p) (upd H p (.tup (xs++zs)))
def Hs:ş X (binaryOp .Add) (Jo X.K):=by
 intro pins s σ H x y v u Q I rx ry h
 obtain⟨l,b,xs,zs,rfl,rfl,hH,hB,nx,nz,hz,q⟩:=h
 cases rx
 cases ry
 obtain⟨its,r,pl,z⟩:=I.tuple hH
 obtain⟨its2,r2,pl2,z2⟩:=I.tuple hB
 obtain⟨⟨c1,d1,t1,sl1⟩,e,hc,n,hd⟩:=pl
 obtain⟨⟨c2,d2,t2,sl2⟩,e2,hc2,n2,hd2⟩:=pl2
 simp only at hc hd hc2 hd2
 subst hc hd hc2 hd2
 have hl:=r.length
 have hl2:=r2.length
 have ne1:its≠[]:=λz=>by rw[z] at hl;exact nx (List.length_eq_zero_iff.mp hl)
 have ne2:its2≠[]:=λz=>by rw[z] at hl2;exact nz (List.length_eq_zero_iff.mp hl2)
 have ea:its.toArray++its2.toArray=(its++its2).toArray:=by simp
 refine concat_meets ⟨_,e,rfl⟩ ⟨_,e2,rfl⟩ noFill_tuple_add seq_tuple_add PySem.F.slot_tuple_add PySem.F.entry_tuple_add (PySem.F.args_tuple_add_2 _ _) (tuple_addW2 l b its.toArray its2.toArray n n2 d1 d2 sl1 sl2 (by simpa using ne1) (by simpa using ne2) (by simp only[List.size_toArray];omega)) ⟨e,e2,?_⟩
 rw[ea]
 exact⟨.ref _,_,I.laid (o:=.tup (xs++zs)) (t':=s.toks) (λ_ _ q=>Heap.get?_push_of_some _ q) (Nat.le_refl _) ⟨by rw[List.length_append];omega,(its++its2),r.append r2,⟨_,Heap.get?_push_size _ rfl,rfl,_,rfl⟩⟩,rfl,q _ I.fresh⟩
def ġ:PV->PV->Option RV
 | .int i,.int j=>some (.sh (.int (i+j)))
 | .str i,.str j=>if i.length+j.length<=16777216 then some (.sh (.str (i++j))) else none
 | .lst ps,.lst qs=>if ps.length+qs.length<=16777216 then some (.ow (ps++qs)) else none
 | .tup (p::ps),.tup (q::qs)=>if(p::ps).length+(q::qs).length<=16777216 then some (.sh (.tup ((p::ps)++(q::qs)))) else none
 |_,_=>none
def Jp(K:PySem.W.Frag):R2:=λx y H Q=>Vp x y H Q\/(Jm K x y H Q\/Jo K x y H Q)
def QV:ş X (binaryOp .Add) (Jp X.K):=Qs.or (Hr.or Hs)
def QW:OpO K (Jp K.K) ġ:=by
 intro c F H σ ρ p q pv v u Q rel r1 r2 e k
 unfold ġ at e
 split at e
 ·cases e
  cases r1.int
  cases r2.int
  exact .inl (k _ F H rel (Same.refl _) (Same.refl _) (Rep.int (K:=K) (F:=F)))
 ·split at e
  ·rename_i hz
   cases e
   cases r1.str
   cases r2.str
   exact .inl ⟨by rw[ķ];exact hz,k _ F H rel (Same.refl _) (Same.refl _) (Rep.str (K:=K) (F:=F))⟩
  ·cases e
 ·split at e
  ·rename_i hz
   cases e
   obtain⟨a,xs,rfl,h1,h2⟩:=r1.lst rel.sub
   obtain⟨b,ys,rfl,h3,h4⟩:=r2.lst rel.sub
   refine .inr (.inl ⟨a,b,xs,ys,rfl,rfl,h1,h3,by rw[<-h2.length,<-h4.length,ķ];exact hz,λd hd=>?_⟩)
   obtain⟨q1,q2⟩:=dg rel hd (đ.append h2 h4)
   exact k _ F _ q1 (Same.refl _) (Same.upd hd) q2
  ·cases e
 ·split at e
  ·rename_i hz
   cases e
   obtain⟨a,xs,rfl,h1,h2⟩:=r1.tup rel.sub
   obtain⟨b,ys,rfl,h3,h4⟩:=r2.tup rel.sub
   have l1:=h2.length
   have l2:=h4.length
   refine .inr (.inr ⟨a,b,xs,ys,rfl,rfl,h1,h3,(λz=>by rw[z] at l1;cases l1),(λz=>by rw[z] at l2;cases l2),by rw[<-l1,<-l2,ķ];exact hz,λl hl=>k _ _ _ (rel.alloc hl) (Same.upd (rel.sub.free hl)) (Same.upd hl) ?_⟩)
   show Rep K _ _ _
   unfold Rep
   exact⟨l,xs++ys,rfl,ĝ,đ.same (Same.upd (rel.sub.free hl)) _ _ (đ.append h2 h4)⟩
  ·cases e
 ·cases e
def rC(g:Int->Int->Int):PV->PV->Option PV
 | .int i,.int j=>some (.int (g i j))
 |_,_=>none
def wK(C:Int->Int->Bool)(g:Int->Int->Int):PV->PV->Option PV
 | .int i,.int j=>if C i j=true then some (.int (g i j)) else none
 |_,_=>none
def Wc(g:Int->Int->Bool):PV->PV->Option PV
 | .int i,.int j=>some (.bl (g i j))
 |_,_=>none
def Jq{g:Int->Int->Int}:iu K (yZ λi j=>.int (g i j)) (rC g):=by
 intro c F H σ ρ p q pv v u Q rel r1 r2 e k
 unfold rC at e
 split at e
 ·cases e
  cases r1.int
  cases r2.int
  exact k _ F H rel (Same.refl _) (Same.refl _) Rep.int
 ·cases e
def QX{g:Int->Int->Bool}:iu K (yZ λi j=>.bl (g i j)) (Wc g):=by
 intro c F H σ ρ p q pv v u Q rel r1 r2 e k
 unfold Wc at e
 split at e
 ·cases e
  cases r1.int
  cases r2.int
  exact k _ F H rel (Same.refl _) (Same.refl _) Rep.bl
 ·cases e
def BW{C:Int->Int->Bool}{C':Int->Int->Prop}{g:Int->Int->Int}(hC:∀i j,C i j=true->C' i j):iu K (mI C' λi j=>.int (g i j)) (wK C g):=by
 intro c F H σ ρ p q pv v u Q rel r1 r2 e k
 unfold wK at e
 split at e
 ·split at e
  ·rename_i hc
   cases e
   cases r1.int
   cases r2.int
   exact⟨hC _ _ hc,k _ F H rel (Same.refl _) (Same.refl _) Rep.int⟩
  ·cases e
 ·cases e
def ŀ:=rC λi j=>i-j
def QZ:iu K (yZ λi j=>.int (i-j)) ŀ:=Jq
def dD(_ j:Int):Bool:=decide (j≠0) && decide (bits j<=8000)
def Ť:=wK dD λi j=>i.fdiv j
def Q_:iu K (mI za λi j=>.int (i.fdiv j)) Ť:=BW λi j h=>by unfold dD at h;simpa[za] using h
def rW(_ j:Int):Bool:=decide (j≠0)
def ľ:=wK rW λi j=>i.fmod j
def Ra:iu K (mI (λ_ j=>j≠0) λi j=>.int (i.fmod j)) ľ:=BW λi j h=>by unfold rW at h;simpa using h
def rY(i j:Int):Bool:=decide (0<=j) && decide (j.natAbs<=1000000) && decide (i.natAbs<18446744073709551616)
def nD:=wK rY λi j=>i ^ j.toNat
def pN:iu K (mI yO λi j=>.int (i ^ j.toNat)) nD:=BW λi j h=>by
 unfold rY at h
 simp only[Bool.and_eq_true,decide_eq_true_eq] at h
 exact⟨h.1.1,by omega,by have:=h.2;simpa using this⟩
def jZ(i j:Int):Bool:=decide (0<=j) && decide (j.natAbs<=1000000) && decide (i.natAbs<18446744073709551616)
def rZ:=wK jZ λi j=>i*2 ^ j.toNat
def uY:iu K (mI yO λi j=>.int (i*2 ^ j.toNat)) rZ:=BW λi j h=>by
 unfold jZ at h
 simp only[Bool.and_eq_true,decide_eq_true_eq] at h
 exact⟨h.1.1,by omega,by have:=h.2;simpa using this⟩
def nF(_ j:Int):Bool:=decide (0<=j)
def xG:=wK nF λi j=>i / 2 ^ j.toNat
def BX:iu K (mI (λ_ j=>0<=j) λi j=>.int (i / 2 ^ j.toNat)) xG:=BW λi j h=>by unfold nF at h;simpa using h
def uZ:=rC λi j=>Builtin.bitAnd i j
def Ht:iu K (yZ λi j=>.int (Builtin.bitAnd i j)) uZ:=Jq
def u_:ş X (binaryOp .LShift) (mI yO λi j=>.int (i*2 ^ j.toNat)):=ş.wk PJ m_
def BZ:ş X (binaryOp .RShift) (mI (λ_ j=>0<=j) λi j=>.int (i / 2 ^ j.toNat)):=ş.wk PK m_
def Hv:ş X (binaryOp .BitAnd) (yZ λi j=>.int (Builtin.bitAnd i j)):=ş.wk PL jP
def pO:=Wc λi j=>decide (i<j)
def pP:=Wc λi j=>decide (i<=j)
def Hw:=Wc λi j=>decide (j<i)
def j_:iu K (yZ λi j=>.bl (decide (i<j))) pO:=QX
def kh:iu K (yZ λi j=>.bl (decide (i<=j))) pP:=QX
def Jr:iu K (yZ λi j=>.bl (decide (j<i))) Hw:=QX
def ŋ(i j:Int):Bool:=decide (i.natAbs<18446744073709551616) || decide (j.natAbs<18446744073709551616) || (decide (bits i<=1048576) && decide (bits j<=1048576))
def B_{i j:Int}(h:ŋ i j=true):ni i j:=by
 unfold ŋ at h
 simp only[Bool.or_eq_true,Bool.and_eq_true,decide_eq_true_eq] at h
 rcases h with(h|h)|h
 ·exact .inl (.inl ⟨by omega,by omega⟩)
 ·exact .inl (.inr ⟨by omega,by omega⟩)
 ·exact .inr h
def Ī:PV->PV->Option PV
 | .int i,.int j=>if ŋ i j=true then some (.int (i*j)) else none
 | .str z,.int n=>if 0<=n/\n<=1000/\z.length<=1000 then some (.str (S (List.replicate n.toNat z.cps.toList).flatten)) else none
 |_,_=>none
def Rb:iu K Bo Ī:=by
 intro c F H σ ρ p q pv v u Q rel r1 r2 e k
 unfold Ī at e
 split at e
 ·split at e
  ·rename_i hc
   cases e
   cases r1.int
   cases r2.int
   exact⟨B_ hc,k _ F H rel (Same.refl _) (Same.refl _) Rep.int⟩
  ·cases e
 ·split at e
  ·rename_i hc
   cases e
   cases r1.str
   cases r2.int
   exact⟨hc,k _ F H rel (Same.refl _) (Same.refl _) Rep.str⟩
  ·cases e
 ·cases e
variable{E:L2.St->XK}{a b e:Expr}{es:List Expr}{pos:Pos}{ma mb:M PV}{mr:M (List PV)}
def fj:PV->Option PV
 | .int i=>some (.int (-i))
 |_=>none
def fV:UnV K (mU λi=>.int (-i)) fj:=by
 intro c F H σ ρ p pv v Q rel r1 e k
 unfold fj at e
 split at e
 ·cases e
  cases r1.int
  exact k _ F H rel (Same.refl _) (Same.refl _) Rep.int
 ·cases e
mutual
def eqB:PV->PV->Bool
 | .non,.non=>true
 | .bl a,.bl b=>a== b
 | .bl a,.int j=>(if a then 1 else 0)== j
 | .int i,.bl b=>i== (if b then 1 else 0)
 | .int i,.int j=>i== j
 | .str x,.str y=>x== y
 | .lst xs,.lst ys=>bQ xs ys
 | .tup xs,.tup ys=>bQ xs ys
 |_,_=>false
def bQ:List PV->List PV->Bool
 | [],[]=>true
 |x::xs,y::ys=>eqB x y && bQ xs ys
 |_,_=>false
end
mutual
def Ŝ:PV->Bool
 | .non| .bl _| .int _=>true
 | .str x=>PyData.strOk x
 | .lst xs=>aK xs
 | .tup xs=>aK xs
 |_=>false
def aK:List PV->Bool
 | []=>true
 |x::xs=>Ŝ x && aK xs
end
mutual
def dep:PV->Nat
 | .lst xs=>su xs+1
 | .tup xs=>su xs+1
 |_=>0
def su:List PV->Nat
 | []=>0
 |x::xs=>max (dep x) (su xs)
end
mutual
def toD:PV->PyData
 | .non=>.none
 | .bl b=>.bool b
 | .int i=>.int i
 | .str x=>.str x
 | .lst xs=>.list (bD xs)
 | .tup xs=>.tuple (bD xs)
 |_=>.none
def bD:List PV->List PyData
 | []=>[]
 |x::xs=>toD x::bD xs
end
mutual
theorem bR:∀p:PV,Ŝ p=true->(toD p).canLay0=true
 | .non,_=>rfl
 | .bl _,_=>rfl
 | .int _,_=>rfl
 | .str x,h=>by unfold Ŝ at h;unfold toD PyData.canLay0;exact h
 | .lst xs,h=>by unfold Ŝ at h;unfold toD PyData.canLay0;exact dF xs h
 | .tup xs,h=>by unfold Ŝ at h;unfold toD PyData.canLay0;exact dF xs h
 | .ins _ _ _,h=>by simp[Ŝ] at h
 | .xc _ _ _,h=>by simp[Ŝ] at h
 | .ty _,h=>by simp[Ŝ] at h
 | .cls _,h=>by simp[Ŝ] at h
 | .cM _ _,h=>by simp[Ŝ] at h
theorem dF:∀ps:List PV,aK ps=true->PyData.canLayAll0 (bD ps)=true
 | [],_=>rfl
 |p::ps,h=>by
  unfold aK at h
  rw[Bool.and_eq_true] at h
  unfold bD PyData.canLayAll0
  rw[bR p h.1,dF ps h.2]
  rfl
end
mutual
theorem bT:∀p:PV,(toD p).depth=dep p
 | .non=>rfl
 | .bl _=>rfl
 | .int _=>rfl
 | .str x=>rfl
 | .lst xs=>by unfold toD PyData.depth dep;rw[kj xs]
 | .tup xs=>by unfold toD PyData.depth dep;rw[kj xs]
 | .ins _ _ _=>rfl
 | .xc _ _ _=>rfl
 | .ty _=>rfl
 | .cls _=>rfl
 | .cM _ _=>rfl
theorem kj:∀ps:List PV,PyData.depthAll (bD ps)=su ps
 | []=>rfl
 |p::ps=>by unfold bD PyData.depthAll su;rw[bT p,kj ps]
end
mutual
theorem pQ:∀p q:PV,Ŝ p=true->Ŝ q=true->PyData.eqv (toD p) (toD q)=eqB p q
 | .lst xs,.lst ys,h1,h2=>by
   unfold Ŝ at h1 h2
   unfold toD eqB PyData.eqv
   exact pR xs ys h1 h2
 | .tup xs,.tup ys,h1,h2=>by
   unfold Ŝ at h1 h2
   unfold toD eqB PyData.eqv
   exact pR xs ys h1 h2
 | .ins _ _ _,_,h,_=>by simp[Ŝ] at h
 | .xc _ _ _,_,h,_=>by simp[Ŝ] at h
 | .ty _,_,h,_=>by simp[Ŝ] at h
 | .cls _,_,h,_=>by simp[Ŝ] at h
 | .cM _ _,_,h,_=>by simp[Ŝ] at h
 | .non,q,_,h=>by cases q<;>first|rfl|(simp[Ŝ] at h)|(simp[toD,eqB,PyData.eqv])
 | .bl _,q,_,h=>by cases q<;>first|rfl|(simp[Ŝ] at h)|(simp[toD,eqB,PyData.eqv])
 | .int _,q,_,h=>by cases q<;>first|rfl|(simp[Ŝ] at h)|(simp[toD,eqB,PyData.eqv])
 | .str _,q,_,h=>by cases q<;>first|rfl|(simp[Ŝ] at h;done)|(simp[toD,eqB,PyData.eqv])
 | .lst _,.non,_,_=>by simp[toD,eqB,PyData.eqv]
 | .lst _,.bl _,_,_=>by simp[toD,eqB,PyData.eqv]
 | .lst _,.int _,_,_=>by simp[toD,eqB,PyData.eqv]
 | .lst _,.str _,_,_=>by simp[toD,eqB,PyData.eqv]
 | .lst _,.tup _,_,_=>by simp[toD,eqB,PyData.eqv]
 | .lst _,.ins _ _ _,_,h=>by simp[Ŝ] at h
 | .lst _,.xc _ _ _,_,h=>by simp[Ŝ] at h
 | .lst _,.ty _,_,h=>by simp[Ŝ] at h
 | .lst _,.cls _,_,h=>by simp[Ŝ] at h
 | .lst _,.cM _ _,_,h=>by simp[Ŝ] at h
 | .tup _,.non,_,_=>by simp[toD,eqB,PyData.eqv]
 | .tup _,.bl _,_,_=>by simp[toD,eqB,PyData.eqv]
 | .tup _,.int _,_,_=>by simp[toD,eqB,PyData.eqv]
 | .tup _,.str _,_,_=>by simp[toD,eqB,PyData.eqv]
 | .tup _,.lst _,_,_=>by simp[toD,eqB,PyData.eqv]
 | .tup _,.ins _ _ _,_,h=>by simp[Ŝ] at h
 | .tup _,.xc _ _ _,_,h=>by simp[Ŝ] at h
 | .tup _,.ty _,_,h=>by simp[Ŝ] at h
 | .tup _,.cls _,_,h=>by simp[Ŝ] at h
 | .tup _,.cM _ _,_,h=>by simp[Ŝ] at h
theorem pR:∀ps qs:List PV,aK ps=true->aK qs=true->PyData.eqvAll (bD ps) (bD qs)=bQ ps qs
 | [],[],_,_=>by simp[bD,bQ,PyData.eqvAll]
 | [],_::_,_,_=>by simp[bD,bQ,PyData.eqvAll]
 |_::_,[],_,_=>by simp[bD,bQ,PyData.eqvAll]
 |p::ps,q::qs,h1,h2=>by
  unfold aK at h1 h2
  rw[Bool.and_eq_true] at h1 h2
  unfold bD bQ PyData.eqvAll
  rw[pQ p q h1.1 h2.1,pR ps qs h1.2 h2.2]
end
mutual
theorem Ca{F:Hp}:∀(p:PV) (v:V),Ŝ p=true->Rep K F p v->Rp K.K F (toD p) v
 | .non,_,_,r=>by unfold Rep at r;unfold toD Rp;exact r
 | .bl _,_,_,r=>by unfold Rep at r;unfold toD Rp;exact r
 | .int _,_,_,r=>by unfold Rep at r;unfold toD Rp;exact r
 | .str _,_,_,r=>by unfold Rep at r;unfold toD Rp;exact r
 | .lst xs,_,h,r=>by
   unfold Ŝ at h
   unfold Rep at r
   unfold toD Rp
   obtain⟨a,vs,h1,h2,h3⟩:=r
   exact⟨a,vs,h1,h2,dY xs vs h h3⟩
 | .tup xs,_,h,r=>by
   unfold Ŝ at h
   unfold Rep at r
   unfold toD Rp
   obtain⟨a,vs,h1,h2,h3⟩:=r
   exact⟨a,vs,h1,cL.of h2,dY xs vs h h3⟩
 | .ins _ _ _,_,h,_=>by simp[Ŝ] at h
 | .xc _ _ _,_,h,_=>by simp[Ŝ] at h
 | .ty _,_,h,_=>by simp[Ŝ] at h
 | .cls _,_,h,_=>by simp[Ŝ] at h
 | .cM _ _,_,h,_=>by simp[Ŝ] at h
theorem dY{F:Hp}:∀(ps:List PV) (vs:List V),aK ps=true->đ K F ps vs->iB K.K F (bD ps) vs
 | [],_,_,r=>by unfold đ at r;unfold bD iB;exact r
 |p::ps,_,h,r=>by
  unfold aK at h
  rw[Bool.and_eq_true] at h
  unfold đ at r
  unfold bD iB
  obtain⟨x,t,h1,h2,h3⟩:=r
  exact⟨x,t,h1,Ca p x h.1 h2,dY ps t h.2 h3⟩
end
def dZ{c:Ctx}{F H:Hp}{σ:L2.St}{ρ:ļ}{p:PV}{v:V}(s:Same F H)(h:Ŝ p=true)(r:rR K c σ ρ F H p v):Rp K.K H (toD p) v:=by
 rcases r with r|r
 ·exact Rp.same s _ _ (Ca p v h r)
 ·cases p with
  |lst ps=>
   obtain⟨a,vs,rfl,h3,h4⟩:=r
   unfold Ŝ at h
   unfold toD Rp
   exact⟨a,vs,rfl,Ũ.of h3,iB.same s _ _ (dY ps vs h h4)⟩
  |ins C ns ps=>simp[Ŝ] at h
  |_=>exact r.elim
def pU(p q:PV):Bool:=Ŝ p && Ŝ q && decide (min (dep p) (dep q)<=60)
def ř(p q:PV):Option PV:=if pU p q=true then some (.bl (eqB p q)) else none
def bU(p q:PV):Option PV:=if pU p q=true then some (.bl (!eqB p q)) else none
def Js:iu K (Gx K.K false) ř:=by
 intro c F H σ ρ p q pv v u Q rel r1 r2 e k
 unfold ř at e
 split at e
 ·rename_i hz
  cases e
  unfold pU at hz
  simp only[Bool.and_eq_true,decide_eq_true_eq] at hz
  refine⟨toD p,toD q,dZ rel.sub hz.1.1 r1,dZ rel.sub hz.1.2 r2,bR p hz.1.1,bR q hz.1.2,by rw[bT,bT];exact hz.2,?_⟩
  rw[pQ p q hz.1.1 hz.1.2]
  exact k _ F H rel (Same.refl _) (Same.refl _) Rep.bl
 ·cases e
def Jt:iu K (Gx K.K true) bU:=by
 intro c F H σ ρ p q pv v u Q rel r1 r2 e k
 unfold bU at e
 split at e
 ·rename_i hz
  cases e
  unfold pU at hz
  simp only[Bool.and_eq_true,decide_eq_true_eq] at hz
  refine⟨toD p,toD q,dZ rel.sub hz.1.1 r1,dZ rel.sub hz.1.2 r2,bR p hz.1.1,bR q hz.1.2,by rw[bT,bT];exact hz.2,?_⟩
  rw[pQ p q hz.1.1 hz.1.2]
  exact k _ F H rel (Same.refl _) (Same.refl _) Rep.bl
 ·cases e
def Uj:PV->Bool
 | .non=>true
 |_=>false
def Cd(p q:PV):Option PV:=match q with
 | .non=>some (.bl (Uj p))
 |_=>none
def Hx{c:Ctx}{F H:Hp}{σ:L2.St}{ρ:ļ}{p:PV}{v:V}(r:rR K c σ ρ F H p v):decide (v=.non)=Uj p:=by
 rcases r with r|r
 ·cases p<;>unfold Rep at r<;>first
   |(subst r;rfl)
   |(obtain⟨a,xs,rfl,_⟩:=r;rfl)
   |(obtain⟨a,xs,ys,rfl,_⟩:=r;rfl)
 ·cases p with
  |lst ps=>obtain⟨a,vs,rfl,_⟩:=r;rfl
  |ins C ns ps=>obtain⟨a,dx,fs,rfl,_⟩:=r;rfl
  |_=>exact r.elim
def Wd:iu K (λx y H Q=>y=.non/\Q (.bl (decide (x=.non))) H) Cd:=by
 intro c F H σ ρ p q pv v u Q rel r1 r2 e k
 unfold Cd at e
 split at e
 ·cases e
  refine⟨r2.non,?_⟩
  rw[Hx r1]
  exact k _ F H rel (Same.refl _) (Same.refl _) Rep.bl
 ·cases e
def č:PV->PV->Option PV
 | .lst ps,.int i=>oZ ps i
 | .tup ps,.int i=>oZ ps i
 | .str z,.int i=>if z.length<=16777216 then(oZ z.cps.toList i).map λc=>.str ⟨#[c]⟩ else none
 |_,_=>none
def xH{F:Hp}{ps:List PV}{vs:List V}{i:Int}{p:PV}(r:đ K F ps vs)(h:oZ ps i=some p):∃v,oZ vs i=some v/\Rep K F p v:=by
 unfold oZ at h ⊢
 rw[r.length] at h
 cases e:zN vs.length i with
 |none=>rw[e] at h;cases h
 |some j=>
  rw[e] at h
  obtain⟨v,h1,h2⟩:=aA r.pr h
  exact⟨v,h1,h2⟩
def Wf:iu K (mIx K.K) č:=by
 intro c F H σ ρ p q pv v u Q rel r1 r2 e k
 unfold č at e
 split at e
 ·obtain⟨a,vs,rfl,h1,h2⟩:=r1.lst rel.sub
  cases r2.int
  obtain⟨x,h3,h4⟩:=xH h2 e
  exact⟨vs,x,.inl h1,h3,k _ F H rel (Same.refl _) (Same.refl _) h4⟩
 ·obtain⟨a,vs,rfl,h1,h2⟩:=r1.tup rel.sub
  cases r2.int
  obtain⟨x,h3,h4⟩:=xH h2 e
  exact⟨vs,x,.inr h1,h3,k _ F H rel (Same.refl _) (Same.refl _) h4⟩
 ·split at e
  ·rename_i z i hz
   cases r1.str
   cases r2.int
   cases ea:oZ z.cps.toList i with
   |none=>rw[ea] at e;cases e
   |some cc=>
    rw[ea] at e
    cases e
    exact⟨cc,by rw[ķ];exact hz,ea,k _ F H rel (Same.refl _) (Same.refl _) Rep.str⟩
  ·cases e
 ·cases e
def pW:M (Option Int):=λρ=>.ok none ρ
def mP(m:M PV):M (Option Int):=λρ=>(m ρ).bind λp ρ1=>match p with
 | .int i=>.ok (some i) ρ1
 |_=>.bad
abbrev tP(K:KK)(E:L2.St->XK)(m:M (Option Int)):TO:=tG K E rI m
def fW:PO X none (tP (kk X cm) E pW):=λpins s σ H Q I h=>Gk pins s σ H Q I (by
 obtain⟨c,F,ρ,rel,h⟩:=h
 exact h none F H rel (Same.refl _) (Same.refl _) rfl)
def ţ(ha:PE X e (tV (kk X cm) E ma)):PO X (some e) (tP (kk X cm) E (mP ma)):=λpins s σ H Q I h=>Bc ha pins s σ H Q I (by
 obtain⟨c,F,ρ,rel,h⟩:=h
 refine⟨c,F,ρ,rel,h.bind λp ρ1 v F1 H1 Đ _ _ r1 h1=>?_⟩
 cases p with
 |int i=>
  have e:v=.int i:=by have r1':Rep (kk X cm) F1 (.int i) v:=r1;unfold Rep at r1';exact r1'
  subst e
  exact h1 (some i) F1 H1 Đ (Same.refl _) (Same.refl _) rfl
 |_=>exact h1.elim)
def aC{α:Type}(xs:List α)(lo hi:Option Int):List α:= (xs.drop (HT.gq xs.length 0 lo)).take (HT.gq xs.length xs.length hi-HT.gq xs.length 0 lo)
def xJ(p:PV)(lo hi:Option Int):Option RV:=match p with
 | .lst ps=>some (.ow (aC ps lo hi))
 | .str z=>if z.length<=16777216 then some (.sh (.str (S (aC z.cps.toList lo hi)))) else none
 |_=>none
def xK(ma:M PV)(ml mh:M (Option Int)):M RV:=λρ=>(ma ρ).bind λp ρ1=>(ml ρ1).bind λlo ρ2=>(mh ρ2).bind λhi ρ3=>Res.jJ (xJ p lo hi) ρ3
def ū{ml mh:M (Option Int)}{lo hi:Option Expr}{p2:Pos}(ha:PE X a (tR (kk X cm) E ma))(hl:PO X lo (tP (kk X cm) E ml))(hh:PO X hi (tP (kk X cm) E mh)):PE X (.Subscript a (.Slice lo hi none p2) pos) (tO (kk X cm) E (xK ma ml mh)):=
 PE.wk (Av slm ha hl hh) fun σ H Q ⟨c,F,ρ,rel,h⟩=>⟨c,F,ρ,rel,h.bind fun p ρ1 v F1 H1 Đ _ _ r1 h1=>⟨c,F1,ρ1,Đ,h1.bind fun lo ρ2 lo' F2 H2 ī sF sH r2 h2=>⟨c,F2,ρ2,ī,h2.bind fun hi ρ3 hi' F3 H3 mG sF3 sH3 r3 h3=>by
   have e2:lo=lo':=r2
   have e3:hi=hi':=r3
   subst e2 e3
   have r1':rR (kk X cm) c σ ρ3 F3 H3 p v:=r1.mono (sF.trans sF3) (sH.trans sH3)
   cases p with
   |lst ps=>
    obtain⟨a,vs,rfl,q1,q2⟩:=r1'.lst mG.sub
    refine⟨vs,q1,λd hd=>?_⟩
    have e:đ (kk X cm) F3 (aC ps lo hi) (rD vs lo hi):=by
     unfold aC rD
     rw[q2.length]
     exact đ.of (wV _ (wW _ q2.pr))
    obtain⟨z1,z2⟩:=dg mG hd e
    exact h3 _ F3 _ z1 (Same.refl _) (Same.upd hd) z2
   |str z=>
    cases r1'.str
    unfold xJ at h3
    dsimp only at h3
    split at h3
    ·rename_i hz
     exact⟨by rw[ķ];exact hz,h3 _ F3 H3 mG (Same.refl _) (Same.refl _) (Rep.str (K:=kk X cm) (F:=F3))⟩
    ·exact h3.elim
   |_=>exact h3.elim⟩⟩⟩
def xM{c:Ctx}{F H:Hp}{σ:L2.St}{ρ:ļ}{p:PV}{vs:List V}(h:Vz K c σ ρ F H [p] vs):∃v,vs=[v]/\rR K c σ ρ F H p v:=by
 cases h with
 |cons r t=>cases t;exact⟨_,rfl,r⟩
def rl2{c:Ctx}{F H:Hp}{σ:L2.St}{ρ:ļ}{p q:PV}{vs:List V}(h:Vz K c σ ρ F H [p,q] vs):∃v u,vs=[v,u]/\rR K c σ ρ F H p v/\rR K c σ ρ F H q u:=by
 cases h with
 |cons r t=>
  cases t with
  |cons r' t=>cases t;exact⟨_,_,rfl,r,r'⟩
def sy:List PV->Option PV
 | [.lst ps]=>some (.int ps.length)
 | [.tup ps]=>some (.int ps.length)
 | [.str z]=>if z.length<=16777216 then some (.int z.length) else none
 |_=>none
def pX:bW K (Qw K.K) sy:=by
 intro c F H σ ρ ps pv vs Q rel r e k
 unfold sy at e
 split at e
 ·cases e
  obtain⟨v,rfl,r1⟩:=xM r
  obtain⟨a,xs,rfl,h1,h2⟩:=r1.lst rel.sub
  refine⟨xs,.inl h1,?_⟩
  rw[<-h2.length]
  exact k _ F H rel (Same.refl _) (Same.refl _) Rep.int
 ·cases e
  obtain⟨v,rfl,r1⟩:=xM r
  obtain⟨a,xs,rfl,h1,h2⟩:=r1.tup rel.sub
  refine⟨xs,.inr h1,?_⟩
  rw[<-h2.length]
  exact k _ F H rel (Same.refl _) (Same.refl _) Rep.int
 ·split at e
  ·rename_i hz
   cases e
   obtain⟨v,rfl,r1⟩:=xM r
   cases r1.str
   exact⟨by rw[ķ];exact hz,k _ F H rel (Same.refl _) (Same.refl _) Rep.int⟩
  ·cases e
 ·cases e
def vd:List PV->Option PV
 | [.int i]=>some (.int (if i<0 then -i else i))
 |_=>none
def Ce:bW K mAbs vd:=by
 intro c F H σ ρ ps pv vs Q rel r e k
 unfold vd at e
 split at e
 ·cases e
  obtain⟨v,rfl,r1⟩:=xM r
  cases r1.int
  exact k _ F H rel (Same.refl _) (Same.refl _) Rep.int
 ·cases e
def fu:List PV->Option PV
 | [.int i,.int j]=>some (.int (if j<i then j else i))
 |_=>none
def xO:List PV->Option PV
 | [.int i,.int j]=>some (.int (if j>i then j else i))
 |_=>none
def jL:bW K Ba fu:=by
 intro c F H σ ρ ps pv vs Q rel r e k
 unfold fu at e
 split at e
 ·cases e
  obtain⟨v,u,rfl,r1,r2⟩:=rl2 r
  cases r1.int
  cases r2.int
  exact k _ F H rel (Same.refl _) (Same.refl _) Rep.int
 ·cases e
def Hy:bW K Bb xO:=by
 intro c F H σ ρ ps pv vs Q rel r e k
 unfold xO at e
 split at e
 ·cases e
  obtain⟨v,u,rfl,r1,r2⟩:=rl2 r
  cases r1.int
  cases r2.int
  exact k _ F H rel (Same.refl _) (Same.refl _) Rep.int
 ·cases e
def aN:List PV->Option RV
 | [.lst ps]=>some (.ow ps)
 | [.tup ps]=>some (.ow ps)
 |_=>none
def xP(K:PySem.W.Frag):List V->Hp->VK->Prop:=λxs H Q=>∃p ys,xs=[.ref p]/\(Ũ K H p ys\/cL K H p ys)/\∀l,H l=none->Q (.ref l) (upd H l (.lst ys))
def Ź:Ń X (.type "list") (xP X.K):=pA
def ź:BJ K (xP K.K) aN:=by
 intro c F H σ ρ ps pv vs Q rel r e k
 unfold aN at e
 split at e
 ·cases e
  obtain⟨v,rfl,r1⟩:=xM r
  obtain⟨a,xs,rfl,h1,h2⟩:=r1.lst rel.sub
  refine⟨a,xs,rfl,.inl h1,λl hl=>?_⟩
  obtain⟨q1,q2⟩:=dg rel hl h2
  exact k _ F _ q1 (Same.refl _) (Same.upd hl) q2
 ·cases e
  obtain⟨v,rfl,r1⟩:=xM r
  obtain⟨a,xs,rfl,h1,h2⟩:=r1.tup rel.sub
  refine⟨a,xs,rfl,.inr h1,λl hl=>?_⟩
  obtain⟨q1,q2⟩:=dg rel hl h2
  exact k _ F _ q1 (Same.refl _) (Same.upd hl) q2
 ·cases e
end
theorem sE{K:KK}{F:Hp}:∀ns:List Int,đ K F (ns.map .int) (ns.map V.int)
 | []=>đ.nil
 |n::ns=>đ.cons Rep.int (sE ns)
def Wg(K:PySem.W.Frag):Sp:=λvs H Q _=>∃(sa:Addr) (ns:List Int),vs=[.ref sa]/\Ũ K H sa (ns.map V.int)/\ns.length<=63/\∀v H',v=.bl true->Q v H'
def Cg{l:PySem.W.OpenLaw}{k:Nat}{x:Str}{CX:gk}{m:MF}{q:Program}{loose:List Str}{XP:(Str->Option Value)->Heap->Prop}{YP:World->Heap->Prop}{d:DefRec}{K:Params->PySem.W.Frag}(hn:l.most=some 63)(hdf:d.params.defaults=[])(hr:Ţ k callerA)
 (hY:∀(w:World) (h:Heap),YP w h->(K w.params).In h)
 (F:∀(w:World) (mg:Str→Option Value) (fa:Addr) (h:Heap),(K w.params).In h→h.Ns mainGlobals mg→mg d.name=some (.ref fa)→
   ∃fd:FuncData,(∀(s:Shared) (u:Value),BindsTo s fd ⟨[u],[]⟩ [(x,u)])/\∀base:Heap,(K w.params).In base->base.Ns mainGlobals mg->∃cm,ĥ l.prog w (K w.params) mg base CX k fa fd [x] (ű ⟨K w.params,cm⟩ 1 m))
 (ht:∀ns:List Int,ns.length<=63->m [.sh (.lst (ns.map .int))]=.ret (.sh (.bl true)))
 (Vn:∀(H:Hp) (s:Shared) (e:Value) (s':Shared),CX [] H s (λ_ _ _=>False) e s'->False)
 (hnt:lams≠[]->∀w:World,PySem.W.noTabs (K w.params)=true:=by intro z;exact absurd rfl z)(hone:∀y z,y∈lams->z∈lams->y=z:=by simp[lams])(hrec:∀y,y∈lams->∃d,(recsOf q).find? (λe=>e.name== y)=some d:=by simp[lams]) :
 PySem.W.WalkO q loose XP YP l.row.toRowW d [] (λf vs=>PySem.call f vs):=by
 refine L2.Gq (n:=63) (k:=k) (x:=x) (CX:=λ_=>CX) (sp:=λw=>Wg (K w.params)) hn (by decide) hdf hr hY (λw mg fa h h1 h2 h3=>?_) (λw H a ns hl _ hS=>⟨a,ns,rfl,hS,hl,λ_ _ z=>z⟩) (λw H s e s' z=>Vn H s e s' z) hnt hone hrec
 obtain⟨fd,hb,hF⟩:=F w mg fa h h1 h2 h3
 refine⟨fd,hb,λbase k1 k2=>?_⟩
 obtain⟨cm,G⟩:=hF base k1 k2
 refine G.imp λvs H Q E hs=>?_
 obtain⟨sa,ns,rfl,hS,hl,hq⟩:=hs
 refine⟨H,[.sh (.lst (ns.map .int))],rfl,Same.refl _,.cons ?_ .nil,?_⟩
 ·show Rep _ _ _ _
  unfold Rep
  exact⟨sa,_,rfl,hS,sE ns⟩
 ·rw[ht ns hl]
  intro v F' H' g rf
  have e:v=.bl true:=uU (K:=⟨K w.params,cm⟩) (F:=F') rf
  exact hq v H' e
end P
namespace P
open PySem PySem.Spec PyProof.Rows L2 M2 M3 M4
section
variable{X:Cx}{cm:String->Addr}{K:KK}
def kE:List PV->Option PV
 | [.lst ps]=>some (.tup ps)
 | [.tup ps]=>some (.tup ps)
 |_=>none
def Ci(K:PySem.W.Frag):List V->Hp->VK->Prop:=λxs H Q=>∃p ys,xs=[.ref p]/\((Ũ K H p ys/\∀l,H l=none->Q (.ref l) (upd H l (.tup ys)))\/(cL K H p ys/\Q (.ref p) H))
def Cj:Ń X (.type "tuple") (Ci X.K):=mD
def Ck:bW K (Ci K.K) kE:=by
 intro c F H σ ρ ps pv vs Q rel r e k
 unfold kE at e
 split at e
 ·cases e
  obtain⟨v,rfl,r1⟩:=xM r
  obtain⟨a,xs,rfl,h1,h2⟩:=r1.lst rel.sub
  refine⟨a,xs,rfl,.inl ⟨h1,λl hl=>k _ _ _ (rel.alloc hl) (Same.upd (rel.sub.free hl)) (Same.upd hl) ?_⟩⟩
  unfold Rep
  exact⟨l,xs,rfl,ĝ,đ.same (Same.upd (rel.sub.free hl)) _ _ h2⟩
 ·cases e
  obtain⟨v,rfl,r1⟩:=xM r
  have r1':=r1
  obtain⟨a,xs,rfl,h1,h2⟩:=r1.tup rel.sub
  refine⟨a,xs,rfl,.inr ⟨h1,k _ F H rel (Same.refl _) (Same.refl _) ?_⟩⟩
  rcases r1' with q|q
  ·exact q
  ·exact q.elim
 ·cases e
def boolsOf:List PV->Option (List Bool)
 | []=>some []
 | .bl b::ps=>(boolsOf ps).map (b:: ·)
 |_::_=>none
theorem nG{F:Hp}:∀{ps:List PV} {vs:List V} {bs:List Bool},đ K F ps vs->boolsOf ps=some bs->vs=bs.map V.bl
 | [],vs,bs,r,h=>by
   cases h
   have r':=r.pr
   cases r'
   rfl
 |p::ps,vs,bs,r,h=>by
  cases p with
  |bl b=>
   unfold boolsOf at h
   cases eb:boolsOf ps with
   |none=>rw[eb] at h;cases h
   |some cs=>
    rw[eb] at h
    cases h
    have r':=r.pr
    cases r' with
    |cons r1 t=>
     rw[uU r1,nG (đ.of t) eb]
     rfl
  |_=>simp[boolsOf] at h
def sG:List PV->Option PV
 | [.lst ps]=>(boolsOf ps).map λbs=>.bl (bs.all id)
 |_=>none
def vf:bW K (QD K.K) sG:=by
 intro c F H σ ρ ps pv vs Q rel r e k
 unfold sG at e
 split at e
 ·rename_i ps
  obtain⟨v,rfl,r1⟩:=xM r
  obtain⟨a,xs,rfl,h1,h2⟩:=r1.lst rel.sub
  cases eb:boolsOf ps with
  |none=>rw[eb] at e;cases e
  |some bs=>
   rw[eb] at e
   cases e
   refine⟨bs,by rw[<-nG h2 eb];exact h1,k _ F H rel (Same.refl _) (Same.refl _) Rep.bl⟩
 ·cases e
end
end P
namespace P
open PySem PySem.Spec PyProof.Rows L2 M2 M3 M4
section
variable{α β:Type}{ρ:ļ}{i j n k:Nat}{p q:PV}{ps:List PV}{m ma mb mc:M PV}{mo:M RV}{a b:M Fl}{ta tb:M Bool}{mr:M (List PV)}{f:PV->PV->Option PV}{fo:PV->PV->Option RV}{fl:List PV->Option PV}{flo:List PV->Option RV}{g:Tg}{gs:uh}
@[simp] theorem Zb5:fQ ρ=.ok .nx ρ:= rfl
@[simp] theorem Za2:(QK:M α) ρ=.bad:=rfl
@[simp] theorem Za3:ě a b ρ=(a ρ).bind λf ρ1=>match f with| .nx=>b ρ1|f=>.ok f ρ1:=rfl
@[simp] theorem Za4:Ĩ i mo ρ=(mo ρ).bind λr ρ1=>.ok .nx (ρ1.set i r.slot):=rfl
@[simp] theorem Za5:Ħ mo ρ=(mo ρ).bind λr ρ1=>.ok (.rt r) ρ1:=rfl
@[simp] theorem Zcg:mC p ρ=.ok p ρ:= rfl
@[simp] theorem Zb6:ŝ m ρ=(m ρ).bind λp ρ1=>.ok (.sh p) ρ1:=rfl
@[simp] theorem Za6:ċ mo ρ=(mo ρ).bind λr ρ1=>.ok r.val ρ1:=rfl
@[simp] theorem Za7:(RV.sh p).val=p:=rfl
@[simp] theorem Za8:(RV.ow ps).val=.lst ps:=rfl
@[simp] theorem Za9:(RV.sh p).slot=.sh p:=rfl
@[simp] theorem Za_:(RV.ow ps).slot=.ow ps:=rfl
@[simp] theorem Zba:ą f ma mb ρ=(ma ρ).bind λp ρ1=>(mb ρ1).bind λq ρ2=>Res.jJ (f p q) ρ2:=rfl
@[simp] theorem Yy:Ģ fo ma mb ρ=(ma ρ).bind λp ρ1=>(mb ρ1).bind λq ρ2=>Res.jJ (fo p q) ρ2:=rfl
@[simp] theorem Zb7{u:PV->Option PV}:jq u ma ρ=(ma ρ).bind λp ρ1=>Res.jJ (u p) ρ1:=rfl
@[simp] theorem Zbb:pH m ρ=(m ρ).bind λp ρ1=>Res.jJ (GX p) ρ1:=rfl
@[simp] theorem Zb8:bA m ρ=(m ρ).bind λp ρ1=>match p with| .bl b=>.ok b ρ1|_=>.bad:=rfl
@[simp] theorem Yz:eY ta tb ρ=(ta ρ).bind λb ρ1=>if b=true then tb ρ1 else .ok false ρ1:=rfl
@[simp] theorem Zbc:QJ ta tb ρ=(ta ρ).bind λb ρ1=>if b=true then .ok true ρ1 else tb ρ1:=rfl
@[simp] theorem Zbd:gF ma mb ρ=(ma ρ).bind fun p ρ1=>match p with| .bl b=>if b=true then mb ρ1 else .ok (.bl false) ρ1|_=>.bad:=by
  unfold gF
  congr
  funext p ρ1
  cases p with
  |bl b=>cases b<;>rfl
  |_=>rfl
@[simp] theorem Zb9{x y:M α}:dX ta x y ρ=(ta ρ).bind λb ρ1=>if b=true then x ρ1 else y ρ1:=rfl
@[simp] theorem Zbe{f g:PV→PV→Option PV}:zf f g ma mb mc ρ=(ma ρ).bind fun p ρ1=>(mb ρ1).bind fun q ρ2=>(Res.jJ (f p q) ρ2).bind fun z ρ3=>match z with
  | .bl true=>(mc ρ3).bind λw ρ4=>Res.jJ (g q w) ρ4
  | .bl false=>.ok (.bl false) ρ3
  |_=>.bad:=rfl
@[simp] theorem Zbf:Ē ρ=.ok [] ρ:= rfl
@[simp] theorem YB:ā ma mr ρ=(ma ρ).bind λp ρ1=>(mr ρ1).bind λps ρ2=>.ok (p::ps) ρ2:=rfl
@[simp] theorem Zbg:ĩ mr ρ=(mr ρ).bind λps ρ1=>if ps.length<=16777216 then .ok (.tup ps) ρ1 else .bad:=rfl
@[simp] theorem Zbh:ŧ mr ρ=(mr ρ).bind λps ρ1=>if ps.length<=16777216 then .ok (.ow ps) ρ1 else .bad:=rfl
@[simp] theorem Zb_:gG fl mr ρ=(mr ρ).bind λps ρ1=>Res.jJ (fl ps) ρ1:=rfl
@[simp] theorem Zbi:iC flo mr ρ=(mr ρ).bind λps ρ1=>Res.jJ (flo ps) ρ1:=rfl
@[simp] theorem YC{mf:MF}{ms:M (List Slot)}:Ď mf ms ρ=(ms ρ).bind λps ρ1=>match mf ps with| .ret r=>.ok r ρ1| .exc x=>.exc x ρ1| .bad=>.bad:=rfl
@[simp] theorem Zca:ė i ρ=(match ρ[i]? with|some (.sh p)=>.ok p ρ|some (.ow ps)=>.ok (.lst ps) (ρ.set i (.sh (.lst ps)))|_=>.bad):=rfl
@[simp] theorem Zcb:Ā i ρ=(match ρ[i]? with|some (.sh p)=>.ok p ρ|some (.ow ps)=>.ok (.lst ps) ρ|some (.bw ps)=>.ok (.lst ps) ρ|some (.rc C ns ps)=>.ok (.ins C ns ps) ρ|_=>.bad):=rfl
@[simp] theorem Zcc:cX i ρ=(match ρ[i]? with|some (.sh p)=>.ok (.sh p) ρ|some (.ow ps)=>.ok (.ow ps) (ρ.set i .no)|_=>.bad):=rfl
@[simp] theorem Zbj:Hg g m ρ=(m ρ).bind λp ρ1=>match g p ρ1 with|some ρ2=>.ok .nx ρ2|none=>.bad:=rfl
@[simp] theorem Zbk:Hh i j mr ρ=(mr ρ).bind λps ρ1=>match ps with| [p,q]=>.ok .nx ((ρ1.set i (.sh p)).set j (.sh q))|_=>.bad:=rfl
@[simp] theorem xQ:gN i p ρ=some (ρ.set i (.sh p)):=rfl
@[simp] theorem Wh:ĸ [] ρ=some ρ:= rfl
@[simp] theorem Uk:Č g gs (p::ps) ρ=(g p ρ).bind λρ1=>gs ps ρ1:=rfl
@[simp] theorem Zcd:gT n gs (.tup ps) ρ=if ps.length=n then gs ps ρ else none:=rfl
@[simp] theorem Zbl:uV i m ρ=(match ρ[i]? with
  |some (.ow _)=>(m ρ).bind λp ρ1=>match ρ1[i]? with
   |some (.ow ps)=>if ps.length<16777216 then .ok .nx (ρ1.set i (.ow (ps ++ [p]))) else .bad
   |_=>.bad
  |_=>.bad):=rfl
@[simp] theorem Wi{mi:M PV}:pI i mi m ρ=(m ρ).bind fun p ρ1=>match ρ1[i]? with
  |some (.ow _)=>(mi ρ1).bind λq ρ2=>match ρ2[i]?,q with
   |some (.ow ps),.int k=>match zN ps.length k with
    |some j=>.ok .nx (ρ2.set i (.ow (ps.set j p)))
    |none=>.bad
   |_,_=>.bad
  |_=>.bad:=rfl
@[simp] theorem Zbm:pW ρ=.ok none ρ:= rfl
@[simp] theorem Zch:mP m ρ=(m ρ).bind λp ρ1=>match p with| .int i=>.ok (some i) ρ1|_=>.bad:=rfl
@[simp] theorem Zce{ml mh:M (Option Int)}:xK ma ml mh ρ=(ma ρ).bind λp ρ1=>(ml ρ1).bind λlo ρ2=>(mh ρ2).bind λhi ρ3=>Res.jJ (xJ p lo hi) ρ3:=rfl
@[simp] theorem Zbn{lo hi:Option Int}:xJ (.lst ps) lo hi=some (.ow (aC ps lo hi)):=rfl
@[simp] theorem Wj:ŏ m ρ=(m ρ).bind fun p ρ1=>match p with
  | .lst ps=>.ok ps ρ1
  | .tup ps=>.ok ps ρ1
  | .str z=>.ok (z.cps.toList.map λc=>.str ⟨#[c]⟩) ρ1
  |_=>.bad:=rfl
@[simp] theorem Wk{h:List PV->Option (List PV)}:fU h mr ρ=(mr ρ).bind λps ρ1=>Res.jJ (h ps) ρ1:=rfl
@[simp] theorem Rf{mi:M (List PV)}:gH mi g b ρ=(mi ρ).bind λitems ρ1=>forL g b items ρ1:=rfl
@[simp] theorem YD{js:List Nat}{nl:Nat}{mi:M (List PV)}{mt:M Bool}{me:M PV}:ŉ js nl mi g mt me ρ=(mi ρ).bind fun items ρ1=>match Ľ g mt me items (rQ js nl ρ1) [] with
  |some ps=>.ok (.ow ps) ρ1
  |none=>.bad:=rfl
@[simp] theorem Zbo:Ŀ ρ=.ok true ρ:= rfl
@[simp] theorem Zbp{mbd:M Fl}{as:List Slot}:Ļ n k mbd as=if as.length=n then FR.of (mbd (startP k as)) else .bad:=rfl
@[simp] theorem Zbq{r:RV}:FR.of (.ok (.rt r) ρ)=.ret r:=rfl
@[simp] theorem Zbr:FR.of (.ok .nx ρ)=.ret (.sh .non):=rfl
@[simp] theorem Zbs{x:PX}:FR.of (.exc x ρ)=.exc x:=rfl
@[simp] theorem Zbt:FR.of .bad=.bad:=rfl
@[simp] theorem Wm{as:List Slot}:startP k as=as++List.replicate (k-as.length) .no:=rfl
@[simp] theorem YF:Ĉ ρ=.ok [] ρ:= rfl
@[simp] theorem Wn{ms:M (List Slot)}:Ċ ma ms ρ=(ma ρ).bind λp ρ1=>(ms ρ1).bind λas ρ2=>.ok (.sh p::as) ρ2:=rfl
@[simp] theorem Wo{ms:M (List Slot)}:Ć i ms ρ=(match(ρ[i]?).bind bB with
  |none=>.bad
  |some _=>(ms ρ).bind λas ρ2=>match(ρ2[i]?).bind bB with
   |some s=>.ok (s::as) ρ2
   |none=>.bad):=rfl
@[simp] theorem Zbu:bB (.sh p)=some (.sh p):=rfl
@[simp] theorem Zbv:bB (.ow ps)=some (.bw ps):=rfl
@[simp] theorem Zbw:bB (.bw ps)=some (.bw ps):=rfl
@[simp] theorem Zbx:pK (.sh p)=.sh p:=rfl
@[simp] theorem Zby:pK (.ow ps)=.bw ps:=rfl
@[simp] theorem Zbz:pK (.bw ps)=.bw ps:=rfl
@[simp] theorem ZbA{t:Bool}{kvs:List (DK×PV)}:pK (.od t kvs)=.bd t kvs:=rfl
@[simp] theorem ZbB{t:Bool}{kvs:List (DK×PV)}:pK (.bd t kvs)=.bd t kvs:=rfl
@[simp] theorem ZbC{js:List Nat}{nl:Nat}:rQ js nl ρ=js.map (λ(j:Nat)=>pK ((ρ[j]?).getD .no))++List.replicate nl .no:=rfl
@[simp] theorem pY:ņ i ρ=(match ρ[i]? with
  |some (.bw ps)=>.ok ps ρ
  |some (.sh (.lst ps))=>.ok ps ρ
  |some (.sh (.tup ps))=>.ok ps ρ
  |some (.sh (.str z))=>.ok (z.cps.toList.map λc=>.str ⟨#[c]⟩) ρ
  |some (.ow ps)=>.ok ps (ρ.set i (.sh (.lst ps)))
  |_=>.bad):=rfl
@[simp] theorem YG{x y:Int}:ġ (.int x) (.int y)=some (.sh (.int (x+y))):=rfl
@[simp] theorem YH{x y:Int}:ŀ (.int x) (.int y)=some (.int (x-y)):=rfl
@[simp] theorem YJ{x y:Int}:Ī (.int x) (.int y)=if ŋ x y=true then some (.int (x*y)) else none:=rfl
@[simp] theorem YK{x y:Int}:Ť (.int x) (.int y)=if dD x y=true then some (.int (x.fdiv y)) else none:=rfl
@[simp] theorem YL{x y:Int}:ľ (.int x) (.int y)=if rW x y=true then some (.int (x.fmod y)) else none:=rfl
@[simp] theorem YM{x y:Int}:nD (.int x) (.int y)=if rY x y=true then some (.int (x ^ y.toNat)) else none:=rfl
@[simp] theorem YQ{x y:Int}:rZ (.int x) (.int y)=if jZ x y=true then some (.int (x*2 ^ y.toNat)) else none:=rfl
@[simp] theorem YT{x y:Int}:xG (.int x) (.int y)=if nF x y=true then some (.int (x / 2 ^ y.toNat)) else none:=rfl
@[simp] theorem YW{x:Int}:fj (.int x)=some (.int (-x)):=rfl
@[simp] theorem ZbD{x y:Int}:pO (.int x) (.int y)=some (.bl (decide (x<y))):=rfl
@[simp] theorem ZbE{x y:Int}:pP (.int x) (.int y)=some (.bl (decide (x<=y))):=rfl
@[simp] theorem ZbF{x y:Int}:Hw (.int x) (.int y)=some (.bl (decide (y<x))):=rfl
@[simp] theorem ZbG{x y:Int}:ř (.int x) (.int y)=some (.bl (decide (x=y))):=by
  have h:eqB (.int x) (.int y)=decide (x=y):=by rw[eqB.eq_def];rfl
  rw[<-h];rfl
@[simp] theorem ZbH{x y:Int}:bU (.int x) (.int y)=some (.bl (!decide (x=y))):=by
  have h:eqB (.int x) (.int y)=decide (x=y):=by rw[eqB.eq_def];rfl
  rw[<-h];rfl
@[simp] theorem ZbI{x y:Bool}:ř (.bl x) (.bl y)=some (.bl (x== y)):=rfl
@[simp] theorem ZbJ{x y:Bool}:bU (.bl x) (.bl y)=some (.bl (!(x== y))):=rfl
@[simp] theorem ZbK{p:PV}:Cd p .non=some (.bl (Uj p)):=rfl
@[simp] theorem ZbL{x:Int}:č (.lst ps) (.int x)=oZ ps x:=rfl
@[simp] theorem ZbM{x:Int}:č (.tup ps) (.int x)=oZ ps x:=rfl
@[simp] theorem YX:sy [.lst ps]=some (.int ps.length):=rfl
@[simp] theorem YZ:sy [.tup ps]=some (.int ps.length):=rfl
@[simp] theorem Rg{x:Int}:vd [.int x]=some (.int (if x<0 then -x else x)):=rfl
@[simp] theorem ZbN{x y:Int}:fu [.int x,.int y]=some (.int (if y<x then y else x)):=rfl
@[simp] theorem ZbO{x y:Int}:xO [.int x,.int y]=some (.int (if y>x then y else x)):=rfl
@[simp] theorem Wq:aN [.lst ps]=some (.ow ps):=rfl
@[simp] theorem Wr:aN [.tup ps]=some (.ow ps):=rfl
@[simp] theorem Y_:kE [.lst ps]=some (.tup ps):=rfl
@[simp] theorem Z_:kE [.tup ps]=some (.tup ps):=rfl
@[simp] theorem Zaa{x:Bool}:GX (.bl x)=some x:=rfl
@[simp] theorem Zab{x:Int}:GX (.int x)=some (x != 0):=rfl
@[simp] theorem Zac:GX (.lst ps)=some (!ps.isEmpty):=rfl
@[simp] theorem Cm(xs:List α)(n:Nat):oZ xs (n:Int)=xs[n]?:= by
  unfold oZ zN
  rw[if_pos (by omega)]
  by_cases h:n<xs.length
  ·rw[if_pos (by omega)]
   simp
  ·rw[if_neg (by omega)]
   simp
   omega
@[simp] theorem Zad(xs:List α)(n:Nat):oZ xs (no_index (OfNat.ofNat n):Int)=xs[(no_index (OfNat.ofNat n):Nat)]?:= Cm xs n
@[simp] theorem Ul{x y:Int}:rW x y=decide (y≠0):=rfl
end
def ſ{x y:Int}(h1: -(2 ^ 64)<x)(h2:x<2 ^ 64):ŋ x y=true:=by unfold ŋ;rw[decide_eq_true (by omega:x.natAbs<18446744073709551616)];rfl
def mul_r{x y:Int}(h1: -(2 ^ 64)<y)(h2:y<2 ^ 64):ŋ x y=true:=by unfold ŋ;rw[decide_eq_true (by omega:y.natAbs<18446744073709551616)];simp
def sI{x y:Int}(h1:y≠0)(h2:bits y<=8000):dD x y=true:=by unfold dD;simp[h1,h2]
section
variable{g:Tg}{mb:M Fl}{mc mt:M Bool}{me:M PV}{items:List PV}{ρ:ļ}
theorem Ł{α:Type}(c f:α->PV)(I:ļ->Prop):∀(xs:List α) (ρ:ļ) (acc:List PV),I ρ->acc.length+xs.length<=16777216->
 (∀x∈xs,∀ρ,I ρ->∃ρ1 ρ2 ρ3,g (c x) ρ=some ρ1/\mt ρ1=.ok true ρ2/\me ρ2=.ok (f x) ρ3/\I ρ3)->Ľ g mt me (xs.map c) ρ acc=some (acc++xs.map f)
 | [],ρ,acc,_,_,_=>by simp[Ľ]
 |x::xs,ρ,acc,h,hz,hs=>by
  obtain⟨ρ1,ρ2,ρ3,h1,h2,h3,h4⟩:=hs x List.mem_cons_self ρ h
  rw[List.map_cons,Ľ,h1]
  dsimp only
  rw[h2]
  dsimp only
  rw[h3]
  dsimp only
  rw[if_pos (by simp at hz;omega),Ł c f I xs ρ3 (acc ++ [f x]) h4 (by simp at hz ⊢;omega) λy hy=>hs y (List.mem_cons_of_mem _ hy)]
  simp
def vg{β:Type}(st:β->ļ)(I:β->Prop)(μ:β->Nat)(hs:∀b,I b->mc (st b)=.ok false (st b)\/(mc (st b)=.ok true (st b)/\∃b',mb (st b)=.ok .nx (st b')/\I b'/\μ b' < μ b)){b:β}(h0:I b) :
 ∃b',ŕ mc mb (st b)=.ok .nx (st b')/\I b'/\mc (st b')=.ok false (st b'):=by
 have go:∀n b,μ b<=n->I b->∃b',ŕ mc mb (st b)=.ok .nx (st b')/\I b'/\mc (st b')=.ok false (st b'):=by
  intro n
  induction n with
  |zero=>
   intro b hn hi
   rcases hs b hi with e|⟨e,b',_,_,hl⟩
   ·exact⟨b,by rw[dw,e];rfl,hi,e⟩
   ·omega
  |succ n ih=>
   intro b hn hi
   rcases hs b hi with e|⟨e,b',e2,hi',hl⟩
   ·exact⟨b,by rw[dw,e];rfl,hi,e⟩
   ·obtain⟨b2,q1,q2⟩:=ih b' (by omega) hi'
    refine⟨b2,?_,q2⟩
    rw[dw,e]
    simp only[Res.Ū,if_true,e2]
    exact q1
 exact go (μ b) b (Nat.le_refl _) h0
end
end P
namespace P
open PySem PySem.Spec PyProof.Rows L2 M2 M3 M4
def kI(Q:String->Prop):List String->Prop
 | []=>True
 |c::cs=>Q c/\kI Q cs
theorem kI.get{Q:String->Prop}:∀{cs:List String} {C:String},kI Q cs->cs.contains C=true->Q C
 | [],_,_,h=>by simp at h
 |c::cs,C,⟨h1,h2⟩,h=>by
  by_cases e:C=c
  ·rw[e];exact h1
  ·refine h2.get ?_
   rw[List.contains_cons] at h
   have:(C== c)=false:=by simpa using e
   rw[this,Bool.false_or] at h
   exact h
section
variable{X:Cx}{cm:String->Addr}{K:KK}{E:L2.St->XK}{a b e o:Expr}{es:List Expr}{pos apos:Pos}{m ma mb:M PV}{f:Str}
theorem kJ{F:Hp}:∀{fs:List (Str×V)} {ps:List PV} {p:PV},đ K F ps (fs.map (·.2))->((fs.map (·.1)).zip ps).lookup f=some p->∃v,fs.lookup f=some v/\Rep K F p v
 | [],ps,p,_,h=>by simp at h
 |(g,v)::fs,ps,p,r,h=>by
  have r':=r.pr
  rw[List.map_cons] at r'
  cases r' with
  |cons r1 t=>
   rename_i q qs
   rw[List.map_cons,List.zip_cons_cons,List.lookup_cons] at h
   rw[List.lookup_cons]
   cases hg:f== g with
   |true=>
    simp only[hg] at h
    cases h
    exact⟨v,rfl,r1⟩
   |false=>
    simp only[hg] at h
    exact kJ (đ.of t) h
theorem rR.ins{c:Ctx}{F H:Hp}{σ:L2.St}{ρ:ļ}{C:String}{ns:List Str}{ps:List PV}{v:V}(s:Same F H)(h:rR K c σ ρ F H (.ins C ns ps) v):∃a dx fs,v=.ref a/\H a=some (.ins (K.cm C) dx fs)/\fs.map (·.1)=ns/\đ K F ps (fs.map (·.2)):=by
 rcases h with h|h
 ·unfold Rep at h
  obtain⟨a,dx,fs,h1,h2,h3,h4⟩:=h
  exact⟨a,dx,fs,h1,s _ _ h2,h3,h4⟩
 ·exact h
def ż(cs:List String)(f:Str):PV->Option PV
 | .ins C ns ps=>if cs.contains C=true then(ns.zip ps).lookup f else none
 |_=>none
def aD(cs:List String)(hcs:kI (λC=>Cls X.K (cm C)/\ĭ X.K (cm C) f) cs)(he:PE X e (tR (kk X cm) E m))(hb:attributeBase e f X.env (eval e X.env)=eval e X.env:=by rfl):PE X (.Attribute e f pos) (tV (kk X cm) E (jq (ż cs f) m)):=
 PE.wk (Qe he hb) fun σ H Q ⟨c,F,ρ,rel,h⟩=>⟨c,F,ρ,rel,h.bind fun p ρ1 v F1 H1 Đ _ _ r1 h1=>by
   cases p with
   |ins C ns ps=>
    unfold ż at h1
    dsimp only at h1
    split at h1
    ·rename_i hc
     obtain⟨a,dx,fs,rfl,q2,q3,q4⟩:=r1.ins Đ.sub
     cases el:(ns.zip ps).lookup f with
     |none=>rw[el] at h1;exact h1.elim
     |some q=>
      rw[el] at h1
      subst q3
      obtain⟨v,e1,e2⟩:=kJ q4 el
      obtain⟨k1,k2⟩:=hcs.get hc
      exact⟨a,_,dx,fs,v,rfl,q2,k1,k2,e1,h1 v F1 H1 Đ (Same.refl _) (Same.refl _) e2⟩
    ·exact h1.elim
   |_=>exact h1.elim⟩
def Cp(X:Cx)(cm:String->Addr)(CX:gk)(k n:Nat)(m:Str)(C:String)(mf:MF):Prop:=Cls X.K (cm C)/\∃f fd ps,Meth X.K (cm C) m f/\ĥ X.prog X.w X.K X.mg X.base CX k f fd ps (ű (kk X cm) n mf)/\Binds X.K fd ps []/\
 ∀{ps:List Slot},(∃r,mf ps=r/\∀z,r=z->z≠ .bad)->ps.length=n
def Cq(Q:String->MF->Prop):List (String×MF)->Prop
 | []=>True
 |(c,mf)::cs=>Q c mf/\Cq Q cs
theorem Cq.get{Q:String->MF->Prop}:∀{cs:List (String×MF)} {C:String} {mf:MF},Cq Q cs->cs.lookup C=some mf->Q C mf
 | [],_,_,_,h=>by simp at h
 |(c,g)::cs,C,mf,⟨h1,h2⟩,h=>by
  rw[List.lookup_cons] at h
  cases hc:C== c with
  |true=>
   rw[hc] at h
   cases h
   have:C=c:=by simpa using hc
   rw[this];exact h1
  |false=>
   rw[hc] at h
   exact h2.get h
def kO(m:Str)(eO:List (String×MF))(mo:M PV)(ms:M (List Slot)):M RV:=λρ=>(mo ρ).bind λp ρ1=>match p with
 | .ins C ns ps=>match eO.lookup C with
   |some mf=>if ns.contains m=true then .bad else(ms ρ1).bind λas ρ2=>match mf (.sh (.ins C ns ps)::as) with
    | .ret r=>.ok r ρ2
    | .exc x=>.exc x ρ2
    | .bad=>.bad
   |none=>.bad
 |_=>.bad
theorem nH{m:Str}:∀{fs:List (Str×V)},(fs.map (·.1)).contains m=false->fs.lookup m=none
 | [],_=>rfl
 |(g,v)::fs,h=>by
  rw[List.map_cons,List.contains_cons,Bool.or_eq_false_iff] at h
  rw[List.lookup_cons,h.1]
  exact nH h.2
variable{CX:gk}{k n:Nat}{Fq:Str}{eO:List (String×MF)}{ms:M (List Slot)}
def Cr{c:Ctx}{F H:Hp}{σ:L2.St}{ρ:ļ}{Q:VK}(rel:Rel (kk X cm) c F H σ ρ)(h:Ż (kk X cm) E (rO (kk X cm)) c F H σ Q (kO Fq eO m ms ρ))(Rh:Cq (λC mf=>Cp X cm CX k n Fq C mf) eO) :
 Ż (kk X cm) E (rV (kk X cm)) c F H σ (λx H1=>∃a C dx fs g fd ps mf,x=.ref a/\H1 a=some (.ins C dx fs)/\Cls X.K C/\Meth X.K C Fq g/\fs.lookup Fq=none/\ĥ X.prog X.w X.K X.mg X.base CX k g fd ps (ű (kk X cm) n mf)/\Binds X.K fd ps []/\
  tA (kk X cm) E ms σ H1 λvs H2=>ű (kk X cm) n mf (.ref a::vs) H2 Q (E σ)) (m ρ):=
 Ż.bind h λp ρ1 v F1 H1 Đ _ _ r1 h1=>by
  cases p with
  |ins C ns ps=>
   dsimp only at h1
   cases el:eO.lookup C with
   |none=>rw[el] at h1;exact h1.elim
   |some mf=>
    rw[el] at h1
    dsimp only at h1
    split at h1
    ·exact h1.elim
    ·rename_i hn
     obtain⟨k1,f,fd,qs,k2,k3,k4,k5⟩:=Rh.get el
     have r1':Rep (kk X cm) F1 (.ins C ns ps) v:=r1
     have r2:=r1'
     unfold Rep at r2
     obtain⟨a,dx,fs,rfl,q2,q3,q4⟩:=r2
     refine⟨a,_,dx,fs,f,fd,qs,mf,rfl,Đ.sub _ _ q2,k1,k2,nH (by rw[q3];simpa using hn),k3,k4,c,F1,ρ1,Đ,Ż.bind h1 λas ρ2 vs F2 H2 ī sF sH r3 h3=>?_⟩
     exact rP (vs:=.ref a::vs) k5 ī (.cons (show aB _ _ _ (.sh _) _ from Rep.same sF _ _ r1') r3) h3
  |_=>exact h1.elim
def Hz{pl:Sem Bool}(Rh:Cq (λC mf=>Cp X cm CX k n Fq C mf) eO)(hr:Ţ k X.A)(hx:bO CX X E)(he:PE X o (tV (kk X cm) E m))
 (ht:eval (.Call (.Attribute o Fq apos) [] [] pos) X.env=(do
   let ov <-eval o X.env
   standAt apos.atName
   let (f,first) <-holding [ov] (getMethod ov Fq pl)
   callWith pos f first (backTo pos (starEach [] X.env)) (backToKw pos (keywordEach [] X.env))):=by rfl) :
 PE X (.Call (.Attribute o Fq apos) [] [] pos) (tO (kk X cm) E (kO Fq eO m Ĉ)):=by
 intro pins s σ H Q I ⟨c,F,ρ,rel,h⟩
 refine PySem.W.methodCall_KW (pl:=pl) (Ň (he pins s σ H _ I ⟨c,F,ρ,rel,Cr rel h Rh⟩) λu s1 ⟨x,H1,I1,rx,a,C,dx,fs,g,fd,ps,mf,ex,ea,cl,k2,l,k3,k4,q⟩=>?_) ht
 subst ex
 obtain rfl:u=Value.ref a:=rx
 refine uG I1 ea cl k2 l ?_
 obtain⟨c1,F1,ρ1,Đ,q⟩:=q
 exact PySem.W.callWith_K0 (first:=[.ref a]) I1.yI k2.kp (xu (us:=[.ref a]) (vs:=[.ref a]) k3 hr k4 hx I1 (.cons rfl .nil) (q [] F1 H1 Đ (Same.refl _) (Same.refl _) .nil))
def putN(f:Str):List Str->List Str
 | []=>[f]
 |g::r=>if g=f then g::r else g::putN f r
def vh(f:Str)(p:PV):List Str->List PV->List PV
 | [],_=>[p]
 |g::r,q::qs=>if g=f then p::qs else q::vh f p r qs
 |_::_,[]=>[]
theorem xR{F:Hp}{p:PV}{y:V}(ry:Rep K F p y):∀{fs:List (Str×V)} {ps:List PV},đ K F ps (fs.map (·.2))->(bJ f y fs).map (·.1)=putN f (fs.map (·.1))/\đ K F (vh f p (fs.map (·.1)) ps) ((bJ f y fs).map (·.2))
 | [],ps,r=>⟨rfl,đ.cons ry đ.nil⟩
 |(g,v)::fs,ps,r=>by
  have r':=r.pr
  rw[List.map_cons] at r'
  cases r' with
  |cons r1 t=>
   rename_i q qs
   unfold bJ
   rw[List.map_cons]
   unfold putN vh
   by_cases hg:g=f
   ·rw[if_pos hg,if_pos hg,if_pos hg]
    exact⟨rfl,đ.cons ry (đ.of t)⟩
   ·rw[if_neg hg,if_neg hg,if_neg hg]
    obtain⟨h1,h2⟩:=xR ry (đ.of t)
    exact⟨by rw[List.map_cons,h1],đ.cons r1 h2⟩
def fB(i:Nat)(cs:List String)(f:Str)(mv:M PV):M Fl:=λρ=>(mv ρ).bind λp ρ1=>match ρ1[i]? with
 |some (.rc C ns ps)=>if cs.contains C=true/\ns.length<1000 then .ok .nx (ρ1.set i (.rc C (putN f ns) (vh f p ns ps))) else .bad
 |_=>.bad
def Ŭ{i:Nat}{x:Str}{px pos':Pos}(cs:List String)(hcs:kI (λC=>Cls X.K (cm C)/\ĭ X.K (cm C) f) cs)(ho:PE X (.Name x px) (uq i))(he:PE X e (tV (kk X cm) E m))(hs:swapsWith e (some (.Attribute (.Name x px) f pos')) pos.line X.env=pure false:=by rfl) :
 PS X (.Assign [.Attribute (.Name x px) f pos'] e pos) (tS (kk X cm) E (fB i cs f m)):=PS.wk (Qf ho he hs) λD σ H ⟨c,F,ρ,rel,h⟩=>⟨c,F,ρ,rel,Ŋ.bind h λp ρ1 y F1 H1 Đ s1 ry h1=>by
 cases e1:ρ1[i]? with
 |none=>rw[e1] at h1;exact h1.elim
 |some sl=>
  rw[e1] at h1
  cases sl with
  |rc C ns ps=>
   dsimp only at h1
   split at h1
   ·rename_i hc
    obtain⟨a,dx,fs,q1,q2,q3,q4,q5,q6,q7⟩:=Đ.slot i _ e1
    subst q5
    obtain⟨k1,k2⟩:=hcs.get hc.1
    refine⟨.ref a,at_of q1,a,_,dx,fs,rfl,q2,k1,k2,by simpa using hc.2,?_⟩
    obtain⟨z1,z2⟩:=xR (f:=f) (p:=p) ry q6
    exact h1 σ F1 _ (Đ.write ⟨_,_,e1,at_of q1,rfl⟩ (at_of q1) ⟨a,dx,_,rfl,ĝ,q3,q4,z1,z2,q7⟩ λ_ z=>(V.ref.inj z).symm) (Same.refl _)
   ·exact h1.elim
  |_=>exact h1.elim⟩
inductive IR where
 |ok (ns:List Str) (ps:List PV)|exc (x:PX)|bad
abbrev MI:=List Slot->IR
def IR.of:Res Fl->IR
 | .ok .nx (.rc _ ns ps::_)=>.ok ns ps
 | .exc x _=>.exc x
 |_=>.bad
def aO(n k:Nat)(C:String)(mb:M Fl):MI:=λas=>if as.length+1=n then IR.of (mb (.rc C [] []::startP (k-1) as)) else .bad
structure GrB(a:Addr)(F H F' H':Hp):Prop where
 h:∀b u,b≠a->H b=some u->H' b=some u
 f:Same F F'
 sub:Same F' H'
 out:∀b,b≠a->H b≠none->F b=none->F' b=none
def ZbP(K:KK)(E:XK)(F H:Hp)(Q:VK)(a dx:Addr)(C:String):IR->Prop
 | .ok ns ps=>∀F' H' fs,GrB a F H F' H'->H' a=some (.ins (K.cm C) dx fs)->F' a=none->fs.map (·.1)=ns->đ K F' ps (fs.map (·.2))->Q .non H'
 | .exc x=>∀C' d F' H',GrB a F H F' H'->GQ K F' x C' d->E C' d H'
 | .bad=>False
def Ft(K:KK)(n:Nat)(C:String)(mi:MI):Sp:=λvs H Q E=>∃F a dx vs' as,vs=.ref a::vs'/\as.length+1=n/\H a=some (.ins (K.cm C) dx [])/\F a=none/\Same F H/\Paired (aB K F H) as vs'/\ZbP K E F H Q a dx C (mi as)
def HB(a dx:Addr)(C:String)(F H:Hp):Ctx:=⟨λb=>if b=a then none else H b,F,λb=>if b=a then none else(ctx0 F H).L b,λa' dx' C'=>a'=a/\dx'=dx/\C'=C⟩
def Rel.gri{σ:L2.St}{ρ:ļ}{a dx:Addr}{C:String}{F H F' H':Hp}(r:Rel K (HB a dx C F H) F' H' σ ρ):GrB a F H F' H':=
 ⟨λb u hb e=>r.base b u (by show(if b=a then none else H b)=_;rw[if_neg hb];exact e),r.f0,r.sub,λb hb h1 h2=>r.ak b (by show(if b=a then none else H b)≠none;rw[if_neg hb];exact h1) h2⟩
def Rel.Ri{F H:Hp}{N:List Str}{as:List Slot}{vs:List V}{a dx:Addr}{C:String}(s:Same F H)(ha:H a=some (.ins (K.cm C) dx []))(hF:F a=none)(h:Paired (aB K F H) as vs) :
 Rel K (HB a dx C F H) F H (L2.start N (.ref a::vs)) (.rc C [] []::startP (N.length-1) as):=by
 have r0:=Rel.start (N:=N) (K:=K) s (as:=.sh (.int 0)::as) (vs:=.int 0::vs) (.cons (Rep.int (K:=K) (F:=F) (i:=0)) h)
 have est:L2.start N (.ref a::vs)=some (.ref a)::(L2.start N (.int 0::vs)).tail:=by unfold L2.start;simp
 have ZbQ:(L2.start N (V.int 0::vs)).tail.length=(startP (N.length-1) as).length:=by
  unfold L2.start startP
  simp[Paired.length h]
  omega
 have tl:∀i:Nat,(L2.start N (.int 0::vs)).tail[i]?=(L2.start N (.int 0::vs))[i+1]?:= λi=>by simp
 have sp:∀i:Nat,(startP (N.length-1) as)[i]?=(startP N.length (.sh (.int 0)::as))[i+1]?:= λi=>by
  unfold startP
  simp only[List.cons_append,List.getElem?_cons_succ,List.length_cons]
  rw[show N.length-1-as.length=N.length-(as.length+1) by omega]
 have nJ:∀(i:Nat) (s':Slot),(startP (N.length-1) as)[i]?=some s'->s'.own=false:=λi s' e=>by
  unfold startP at e
  by_cases hi:i<as.length
  ·rw[List.getElem?_append_left hi] at e
   obtain⟨v,_,h3⟩:=aA h e
   exact(aB.slot h3).2
  ·rw[List.getElem?_append_right (by omega),List.getElem?_replicate] at e
   split at e
   ·cases e;rfl
   ·cases e
 rw[est]
 refine⟨s,λb u e=>?_,Same.refl _,λ_ _ z=>z,λb u e=>?_,λb e=>?_,?_,λi s' e=>?_,λi j b h1 h2=>?_⟩
 ·have e':(if b=a then none else H b)=some u:=e
  split at e'
  ·cases e'
  ·exact e'
 ·have e':(if b=a then none else(ctx0 F H).L b)=some u:=e
  split at e'
  ·cases e'
  ·exact bN e'
 ·show(if b=a then none else(ctx0 F H).L b)=none
  have e':(if b=a then none else H b)=none:=e
  split
  ·rfl
  ·rename_i hb
   rw[if_neg hb] at e'
   exact r0.lb b e'
 ·simp[ZbQ]
 ·cases i with
  |zero=>
   cases e
   exact⟨a,dx,[],rfl,ha,hF,by show(if a=a then none else H a)=none;rw[if_pos rfl],rfl,đ.nil,rfl,rfl,rfl⟩
  |succ i=>
   have e':(startP (N.length-1) as)[i]?=some s':=by simpa using e
   have q:=r0.slot (i+1) s' (by rw[<-sp];exact e')
   rw[<-tl] at q
   show ś K (HB a dx C F H) F H (((some (V.ref a)::(L2.start N (.int 0::vs)).tail)[i+1]?).getD none) s'
   rw[List.getElem?_cons_succ]
   cases s' with
   |no=>trivial
   |sh p=>exact q
   |bw ps=>
    obtain⟨b,ws,q1,q2,q3⟩:=q
    refine⟨b,ws,q1,?_,q3⟩
    show(if b=a then none else(ctx0 F H).L b)=_
    rw[if_neg (λz=>by
     have:=(bN q2).1
     rw[z,ha] at this
     cases this)]
    exact q2
   |ow ps=>have:=nJ i _ e';cases this
   |rc C ns ps=>have:=nJ i _ e';cases this
   |ot ps qs rs=>have:=nJ i _ e';cases this
   |ol zO=>have:=nJ i _ e';cases this
   |od t kvs=>have:=nJ i _ e';cases this
   |bd t kvs=>
    obtain⟨b,u,q1,q2,q3⟩:=q
    refine⟨b,u,q1,q2.imp (λq2=>?_) id,q3⟩
    show(if b=a then none else(ctx0 F H).L b)=_
    rw[if_neg (λz=>by
     have:=(bN q2).1
     rw[z,ha] at this
     rcases q3 with⟨_,ks,rfl,_⟩|⟨_,ks,rfl,_⟩<;>cases this)]
    exact q2
 ·have at0:∀{i},ĺ F (some (.ref a)::(L2.start N (.int 0::vs)).tail) (Slot.rc C [] []::startP (N.length-1) as) i b→i=0:=fun{i} ⟨s',y,q1,_,q2⟩=>by
   have q2:=jU q2
   cases i with
   |zero=>rfl
   |succ i=>
    have:=nJ i s' (by simpa using q1)
    rw[this] at q2
    cases q2
  rw[at0 h1,at0 h2]
end
section
variable{P:Program}{w:World}{K:PySem.W.Frag}{cm:String->Addr}{mg:Str->Option Value}{base:Heap}{CX:gk}
def Um{x qual:Str}{st:Stmt}{f:Addr}{fd:FuncData}{N ps:List Str}{k n j:Nat}{C:String}{mb:M Fl}{mi:MI}(F:Gs K x qual st f fd)(S:ď N ps (ć st))(hn:ps.length=n)(hj:N.length=j)(hf:mi=aO n j C mb)
 (hbody:∀(cdv:Value) (A:Around) (outer:List Env) (s:Shared) (H:Hp) (E:XK),Ţ k (A.deeper (envOfC qual (ć st) s.heap.objs.size f cdv))→
   eV (oY CX P w K mg base N qual (ć st) f cdv A outer s H E) (œ st) (tS ⟨K,cm⟩ (λ_=>E) mb)):ĥ P w K mg base CX (k+1) f fd ps (Ft ⟨K,cm⟩ n C mi):=by
 subst hn hj hf
 obtain⟨oc,od,kV,doc,pm,an,cdv,ct,osl,rfl,lk,hcd⟩:=F.ex
 refine Jc lk hcd S (λvs H Q E ⟨F,a,dx,vs',as,h1,h2,_,_,_,h3,_⟩=>by rw[h1,List.length_cons,<-Paired.length h3];exact h2) λA outer s H vs Q E hr hsp=>?_
 obtain⟨F,a,dx,vs',as,rfl,h2,h3,h4,h5,h6,h7⟩:=hsp
 refine⟨_,hbody cdv A outer s H E hr,HB a dx C F H,F,_,Rel.Ri h5 h3 h4 h6,?_⟩
 unfold aO at h7
 rw[if_pos h2] at h7
 cases e:mb (.rc C [] []::startP (N.length-1) as) with
 |bad=>rw[e] at h7;exact h7
 |exc x ρ'=>rw[e] at h7;exact λσ' C' d F' H' rel s1 q=>h7 C' d F' H' rel.gri q
 |ok fl ρ'=>
  rw[e] at h7
  cases fl with
  |nx=>
   cases ρ' with
   |nil=>exact h7.elim
   |cons sl ρ'=>
    cases sl with
    |rc C' ns qs=>
     intro σ' F' H' rel s1
     obtain⟨b,dy,fs,q1,q2,q3,q4,q5,q6,rfl,rfl,rfl⟩:=rel.slot 0 _ rfl
     exact h7 F' H' fs rel.gri q2 q3 q5 q6
    |_=>exact h7.elim
  |bk=>exact h7.elim
  |ct=>exact h7.elim
  |rt r=>exact h7.elim
end
def aP(C:String)(mi:MI)(ms:M (List Slot)):M PV:=λρ=>(ms ρ).bind λas ρ1=>match mi as with
 | .ok ns ps=>.ok (.ins C ns ps) ρ1
 | .exc x=>.exc x ρ1
 | .bad=>.bad
section
variable{X:Cx}{cm:String->Addr}{E:L2.St->XK}{e:Expr}{es:List Expr}{pos p:Pos}{CX:gk}{k n:Nat}{f:Addr}{fd:FuncData}{ps:List Str}{C:String}{mi:MI}{ms:M (List Slot)}{x:Str}
def Cu{c:Ctx}{F1 H1:Hp}{σ:L2.St}{ρ1:ļ}{Q:VK}{as:List Slot}{vs:List V}(hlen:(∃r,mi as=r/\∀z,r=z->z≠ .bad)->as.length+1=n)(Đ:Rel (kk X cm) c F1 H1 σ ρ1)(r1:Paired (aB (kk X cm) F1 H1) as vs)
 (h:Ż (kk X cm) E (rV (kk X cm)) c F1 H1 σ Q (match mi as with| .ok ns ps=>.ok (.ins C ns ps) ρ1| .exc x=>.exc x ρ1| .bad=>.bad)) :
 ∀x dx,H1 x=none->H1 dx=none->dx≠x->Ft (kk X cm) n C mi (.ref x::vs) (upd (upd H1 dx (.own x)) x (.ins (cm C) dx [])) (λv H2=>v=.non/\Q (.ref x) H2) (E σ):=by
 intro x dx hx hdx hne
 have up:∀b u,H1 b=some u->upd (upd H1 dx (.own x)) x (.ins (cm C) dx []) b=some u:=λb u e=>by
  rw[Ě (ı e hx),Ě (ı e hdx)];exact e
 have HD:∀{F' H':Hp},GrB x F1 (upd (upd H1 dx (.own x)) x (.ins (cm C) dx [])) F' H'->Gr F1 H1 F' H':=fun{F' H'} g=>
  ⟨fun b u e=>g.h b u (ı e hx) (up b u e),g.f,g.sub,fun b hb hf=>by
    obtain⟨u,hu⟩:∃u,H1 b=some u:=by
     cases q:H1 b with
     |none=>exact absurd q hb
     |some u=>exact⟨u,rfl⟩
    exact g.out b (ı hu hx) (by rw[up b u hu];intro z;cases z) hf⟩
 refine⟨F1,x,dx,vs,as,rfl,?_,ĝ,Đ.sub.free hx,λb u e=>up b u (Đ.sub b u e),?_,?_⟩
 ·refine hlen ⟨_,rfl,λz hz hb=>?_⟩
  rw[hz,hb] at h
  exact h
 ·refine Paired.mono (λs v hs=>?_) r1
  cases s with
  |sh p=>exact hs
  |bw qs=>
   obtain⟨b,ws,q1,q2,q3,q4⟩:=hs
   exact⟨b,ws,q1,up b _ q2,q3,q4⟩
  |_=>exact hs.elim
 ·cases em:mi as with
  |bad=>rw[em] at h;exact h
  |exc y=>rw[em] at h;exact λC' d F' H' g rx=>h C' d F' H' (Đ.call (HD g)) g.f rx
  |ok ns qs=>
   rw[em] at h
   intro F' H' fs g hx' hF' hn hr
   have r2:=Đ.call (HD g)
   have r3:=r2.freeze hx' (Đ.base.free hx) hF' (Đ.pG (HD g).f (Đ.fresh hx))
   refine⟨rfl,h _ _ H' r3 (g.f.trans (Same.upd hF')) (HD g).h ?_⟩
   show Rep _ _ _ _
   unfold Rep
   exact⟨x,dx,fs,rfl,ĝ,hn,đ.same (Same.upd hF') qs _ hr⟩
def zm{pins:List (Addr×Obj)}{σ:L2.St}{H:Hp}{s:Shared}{Q:VK}{us:List Value}{vs:List V}{sp:Sp}{C:Addr}(M:Mk X.K C f)(F:ĥ X.prog X.w X.K X.mg X.base CX k f fd ps sp)(hr:Ţ (k+1) X.A)(hb:Binds X.K fd ps [])
 (hx:bO CX X E)(I:Inv X pins σ H s)(r:Vals vs us)
 (h:∀x dx,H x=none->H dx=none->dx≠x->sp (.ref x::vs) (upd (upd H dx (.own x)) x (.ins C dx [])) (λv H2=>v=.non/\Q (.ref x) H2) (E σ)) :
 wpAny (model X.prog X.w) X.A (call (.ref C) us) (EP X pins σ Q) X.xe s:=by
 have hq:=h (s.heap.objs.size+1) s.heap.objs.size (I.hok.fresh (Nat.le_succ _)) (I.hok.fresh (Nat.le_refl _)) (Nat.ne_of_lt (Nat.lt_succ_self _))
 have I2:=Inv.made (C:=C) I
 have r2:Vals (V.ref (s.heap.objs.size+1)::vs) (Value.ref (s.heap.objs.size+1)::us):=.cons rfl r
 have hl:(Value.ref (s.heap.objs.size+1)::us ++ []).length=ps.length:=by
  have e:=r2.length
  rw[F.len _ _ _ _ hq] at e
  rw[List.append_nil]
  exact e.symm
 have hbd:=hb {s with heap:=(s.heap.push PySem.W.emptyDict).push (PySem.W.instObj C s.heap.objs.size)} (Value.ref (s.heap.objs.size+1)::us) I2.yI hl
 rw[List.append_nil] at hbd
 refine wpAny_call (Ao (f:=f) I.yI M.makes M.init (beq_iff_eq.mp M.fn) (codeAny_mono (F.run _ X.stack _ _ ⟨Value.ref (s.heap.objs.size+1)::us,[]⟩ _ _ _ (E σ) (hr.make C us []) (I2.env0.make C us []) hbd r2 hq) λr s' hq'=>?_))
 cases r with
 |error e=>exact hx pins σ _ _ e s' I2 hq'
 |ok fl=>
  cases fl with
  |ret u=>
   obtain⟨v,H',I3,rv,ev,q3⟩:=I2.after hq'
   subst ev
   exact⟨rv,⟨V.ref (s.heap.objs.size+1),H',I3,rfl,q3⟩⟩
  |next=>exact False.elim hq'
  |brk=>exact False.elim hq'
  |cont=>exact False.elim hq'
def aq{n k:Nat}{C:String}{mb:M Fl}{as:List Slot}(h:∃r,aO n k C mb as=r/\∀z,r=z->z≠ .bad):as.length+1=n:=by
 obtain⟨r,h1,h2⟩:=h
 unfold aO at h1
 by_cases hl:as.length+1=n
 ·exact hl
 ·rw[if_neg hl] at h1
  exact absurd h1.symm (λz=>h2 .bad (by rw[<-h1]) rfl)
def iD(M:Mk X.K (cm C) f)(F:ĥ X.prog X.w X.K X.mg X.base CX k f fd ps (Ft (kk X cm) n C mi))(hlen:∀{as:List Slot},(∃r,mi as=r/\∀z,r=z->z≠ .bad)->as.length+1=n)(hr:Ţ (k+1) X.A)(hg:Gl X x)(hm:X.mg x=some (.ref (cm C)))(hb:Binds X.K fd ps [])(hx:bO CX X E)
 (ha:PA X (e::es) (tA (kk X cm) E ms))(hdb:(x== ("__debug__" :Str))=false:=by decide)(he:starEach (e::es) X.env=(false,eval e X.env)::starEach es X.env:=by exact cW rfl)(hpl:(backTo pos (starEach es X.env)).any (·.1)=false:=by rfl) :
 PE X (.Call (.Name x p) (e::es) [] pos) (tV (kk X cm) E (aP C mi ms)):=by
 intro pins s σ H Q I ⟨c,F',ρ,rel,h⟩
 refine wpAny_Call_Name_kw (oR I hg hm ?_ hdb)
 refine PySem.W.callWith_K (h₀:= X.base) I.ok.mod.Yo M.kp (Ň (ha pos pins s σ H (λvs H1=>∀x dx,H1 x=none->H1 dx=none->dx≠x->Ft (kk X cm) n C mi (.ref x::vs) (upd (upd H1 dx (.own x)) x (.ins (cm C) dx [])) (λv H2=>v=.non/\Q (.ref x) H2) (E σ)) I
  ⟨c,F',ρ,rel,Ż.bind h λas ρ1 vs F1 H1 Đ _ _ r1 h1=>Cu hlen Đ r1 h1⟩) λus s1 ⟨vs,H1,I1,r,q⟩=>⟨I1.yI,?_⟩) he hpl
 exact zm M F hr hb hx I1 r q
end
end P
namespace P
open PySem PySem.Spec PyProof.Rows L2 M2 M3 M4
section
variable{M:Model}{A:Around}{E:Value->Shared->Prop}{s:Shared}{B:Heap}{env:Env}{outer:List Env}{L e:Addr}{Q:Unit->Shared->Prop}
end
def cQ.sub{P:Program}{w:World}{H:Hp}{h B:Heap}(x:cQ P w H h)(k:∀b o u,H b=some u->h.get? b=some o->B.get? b=some o):cQ P w H B:=λa o e=>
 (x a o e).stay (fun b u hb q=>by
   rcases hb with rfl|hb
   ·exact k _ _ _ e q
   ·exact k _ _ _ hb q) (λ_ q=>q) λ_ _ q=>q
section
variable{P:Program}{w:World}{K:PySem.W.Frag}{mg:Str->Option Value}{base:Heap}{N:List Str}{qual:Str}{scope:Scope}{f:Addr}{cdv:Value}{A:Around}{outer:List Env}{s₀:Shared}{H₀:Hp}{E:XK}
end
end P
namespace P
open PySem PySem.Spec PyProof.Rows L2 M2 M3 M4
section
variable{K:PySem.W.Frag}{h:Heap}{C:Addr}{bmB:List Value}{newId:String}
end
section
variable{X:Cx}{cm:String->Addr}{E:L2.St->XK}{x:Str}{C:String}{np cpos pos:Pos}
end
section
variable{M:Model}{A:Around}{E:Value->Shared->Prop}{s:Shared}{K:PySem.W.Frag}{e C D:Addr}{oe:Obj}{b:Bool}{Q:Bool->Shared->Prop}
end
section
variable{X:Cx}{pins:List (Addr×Obj)}{σ:L2.St}{H:Hp}{s:Shared}{xe:Value->Shared->Prop}
end
end P
namespace P
open PySem PySem.Spec PyProof.Rows L2 M2 M3 M4
abbrev MH:=PX->ļ->Res Fl
section
variable{X:Cx}{cm:String->Addr}{E:L2.St->XK}{pins:List (Addr×Obj)}{σ:L2.St}{H Hc:Hp}{s sc:Shared}{ea:Addr}{C:Value}{d:Option Addr}{B:Heap}
variable{y n:Str}{Dn:String}{i:Nat}{yp hpos:Pos}{b₀:Stmt}{suite:List Stmt}{rest:List ExceptHandler}{yes no:List String}{mh:M Fl}{mr:MH}
end
end P
namespace P
open PySem PySem.Spec PyProof.Rows L2 M2 M3 M4 Builtin Builtin.ObjectAttr
section
variable{K:PySem.W.Frag}{h:Heap}{C:Addr}{cd:ClassData}{bm:List Value}
end
section
variable{prog:Program}{w:World}{A:Around}{E:Value->Shared->Prop}{h:Heap}{g:Array GenState}{d:Drawn}{t:Nat}{os:OsState}
variable{nm q:Str}{C N:Addr}{bs bm bmB:List Value}{hdct:Bool}{sn:List Str}{sub:List Value}{ab:Bool}{col:Option Bool}{dd:Option Addr}{k0 k1 k2 k3 k5:Option Value}{B newId initId:String}
end
section
variable{prog:Program}{w:World}{A:Around}{E:Value->Shared->Prop}{s:Shared}{K:PySem.W.Frag}{x C:Addr}{cd:ClassData}{bm:List Value}{ox:Obj}{od:Option Obj}{name:Str}{v:Value}
end
end P
namespace P
open PySem PySem.Spec PyProof.Rows L2 M2 M3 M4
section
variable{X:Cx}{pins:List (Addr×Obj)}{σ:L2.St}{H:Hp}{s:Shared}{a C:Addr}{cd:ClassData}{bm:List Value}{d:Option Addr}{fs:List (Str×V)}{f:Str}{y:V}{u:Value}{A:Around}{E:Value->Shared->Prop}
variable{o value:Expr}{pos pos':Pos}{j:Nat}{ss:List Stmt}{r:List (Str×Nat)}
end
section
variable{P:Program}{w:World}{K:PySem.W.Frag}{mg:Str->Option Value}{base:Heap}{CX:gk}
end
section
variable{X:Cx}{cm:String->Addr}{E:L2.St->XK}{e:Expr}{es:List Expr}{pos p:Pos}{CX:gk}{k n:Nat}{f:Addr}{fd:FuncData}{ps:List Str}{C:String}{fl:List (Str×Nat)}{ms:M (List PV)}{x:Str}
end
section
variable{M:Model}{A:Around}{E:Value->Shared->Prop}{s:Shared}{K:PySem.W.Frag}{env:Env}
end
section
variable{X:Cx}{cm:String->Addr}{E:L2.St->XK}{e:Expr}{es:List Expr}{pos cpos np:Pos}{CX:gk}{k n:Nat}{f:Addr}{fd:FuncData}{ps:List Str}{C:String}{fl:List (Str×Nat)}{ms:M (List PV)}{x:Str}
end
end P
namespace P
open PySem PySem.Spec PyProof.Rows L2 M2 M3 M4 Builtin Builtin.ObjectAttr
section
variable{prog:Program}{w:World}{A:Around}{E:Value->Shared->Prop}{s:Shared}{K:PySem.W.Frag}{x C:Addr}{ox:Obj}{od:Option Obj}
end
section
variable{X:Cx}{cm:String->Addr}{K:KK}
end
section
variable{ρ:ļ}{C:String}{n i:Nat}{fl:List (Str×Nat)}{ms:M (List PV)}{mb mh:M Fl}{mr:MH}{yes no:List String}{x:PX}
end
end P
namespace P
open PySem PySem.Spec PyProof.Rows L2 M2 M3 M4
section
variable{X:Cx}{cm:String->Addr}{E:L2.St->XK}{y:Str}{Dn:String}{yp hpos:Pos}{b₀:Stmt}{suite:List Stmt}{rest:List ExceptHandler}{yes no:List String}{mh:M Fl}{mr:MH}
end
end P
namespace P
open PySem PySem.Spec PyProof.Rows L2 M2 M3 M4
section
variable{X:Cx}{cm:String->Addr}{K:KK}
def Ju:List V->Hp->VK->Prop:=λxs H Q=>(∃i,xs=[.int i]/\Q (.int i) H)\/∃k,xs=[.bl k]/\Q (.int (if k then 1 else 0)) H
def Rj:Ń X (.type "int") Ju:=yR
def Cv:List PV->Option PV
 | [.int i]=>some (.int i)
 | [.bl k]=>some (.int (if k then 1 else 0))
 |_=>none
def Rk:bW K Ju Cv:=by
 intro c F H σ ρ ps pv vs Q rel r e k
 unfold Cv at e
 split at e
 ·cases e
  obtain⟨v,rfl,r1⟩:=xM r
  cases r1.int
  exact .inl ⟨_,rfl,k _ F H rel (Same.refl _) (Same.refl _) Rep.int⟩
 ·cases e
  obtain⟨v,rfl,r1⟩:=xM r
  cases r1.bl
  exact .inr ⟨_,rfl,k _ F H rel (Same.refl _) (Same.refl _) Rep.int⟩
 ·cases e
theorem Ŵ:∀{ns:List Int} {its:List Value},Vals (ns.map V.int) its->IntsAre its ns
 | [],its,h=>by cases h;exact .nil
 |n::ns,its,h=>by
  cases h with
  |cons r t=>
   obtain⟨k,e⟩:=(show ∃k,_=Value.int n k from r)
   subst e
   exact .cons n k (Ŵ t)
section
variable{prog:Program}{w:World}{A:Around}{E:Value->Shared->Prop}{s:Shared}{l:Addr}{xs:Array (Int×Tok)}
def sJ{Q:Value->Shared->Prop}(hl:s.heap.IsTuple l (intItems xs))
 (h:∀s₂:Shared,s₂= {s with heap:=s.heap.push {cls:=.type "tuple_iterator",data:=.fields #[.ref l,.int 0 0]}}→
   (s₂.heap.IsTupleIter s.heap.objs.size l 0/\s₂.heap.IsTuple l (intItems xs))->(∀b∈[s.heap.objs.size,l],b<s₂.heap.objs.size)->l≠s.heap.objs.size->(∀h':Heap,(∀b o,b∉[s.heap.objs.size]->s₂.heap.get? b=some o->h'.get? b=some o)->∀b o,s.heap.get? b=some o->h'.get? b=some o)->Q (.ref s.heap.objs.size) s₂) :
 wpAny (model prog w) A (pyIter (.ref l)) Q E s:=by
 have hlt:l<s.heap.objs.size:=by obtain⟨_,e,_⟩:=hl;exact Heap.lt_size e
 refine wpAny_pyIter_tuple hl (h _ rfl ⟨⟨_,Heap.get?_push_size _ rfl,rfl,rfl⟩,hl.push _⟩ (λb hb=>?_) (Nat.ne_of_lt hlt) λh' hk b o e=>?_)
 ·show b<(s.heap.push _).objs.size
  rw[Heap.size_push]
  rcases List.mem_cons.mp hb with rfl|hb
  ·exact Nat.lt_succ_self _
  ·rcases List.mem_cons.mp hb with rfl|hb
   ·exact Nat.lt_succ_of_lt hlt
   ·cases hb
 ·refine hk b o (λhm=>?_) (Heap.get?_push_of_some _ e)
  rcases List.mem_cons.mp hm with e1|hm
  ·exact absurd (e1▸Heap.lt_size e) (Nat.lt_irrefl _)
  ·cases hm
def vm{Q:Value->Shared->Prop}(hh:A.handled=none)(hl:s.heap.IsTuple l (intItems xs))(hne:0<xs.size)
 (h:∀v h' tk,(intItems xs)[argBest (λi j=>decide (numAt xs i>numAt xs j)) (xs.size-1)]?=some v->(∀b o,s.heap.get? b=some o->h'.get? b=some o)->Q v {s with heap:=h',toks:=tk}) :
 wpAny (model prog w) A (call (.builtin "max") [.ref l]) Q E s:=by
 refine call_max_walk (sJ hl λs₂ e st hfp hlI hk0=>?_)
 subst e
 refine⟨_,_,_,_,_,_,_,rfl,Walks.tuple (A:=A.in1) hh _ l hlI (intItems xs),st,hfp,by simpa[intItems] using hne,CmpOf.ints_gt (numAt xs) (λ_ _=>intItems_at),λv h' tk hP hk=>?_⟩
 exact h v h' tk (by simpa[intItems] using hP) (hk0 h' hk)
end
def Ws(K:PySem.W.Frag):List V->Hp->VK->Prop:=λxs H Q=>∃(p:Addr) (ns:List Int),xs=[.ref p]/\(Ũ K H p (ns.map V.int)\/cL K H p (ns.map V.int))/\0<ns.length/\∀M,M∈ns->(∀a∈ns,a<=M)->Q (.int M) H
def vo(hc:X.calm=true):Ń X (.builtin "max") (Ws X.K):=by
 intro pins s σ H xs us Q I r h
 obtain⟨p,ns,rfl,hS,hne,q⟩:=h
 obtain⟨u,rfl,ru⟩:=vals1 r
 cases ru
 have fin:∀(ys:Array (Int×Tok)),ns=ys.toList.map (·.1)->0<ys.size->∀v h' tk,(intItems ys)[argBest (λi j=>decide (numAt ys i>numAt ys j)) (ys.size-1)]?=some v->(∀b o,s.heap.get? b=some o->h'.get? b=some o)->EP X pins σ Q v {s with heap:=h',toks:=tk}:=by
  intro ys hns hsz v h' tk hv hk
  obtain⟨t,rfl⟩:=intItems_at hv
  obtain⟨h1,h2⟩:=argBest_gt (numAt ys) (ys.size-1)
  refine⟨.int _,H,I.kept hk,⟨t,rfl⟩,q _ ?_ λa ha=>?_⟩
  ·rw[hns,numAt_eq]
   have hj:argBest (λi j=>decide (numAt ys i>numAt ys j)) (ys.size-1)<(ys.toList.map (·.1)).length:=by rw[List.length_map,Array.length_toList];omega
   rw[List.getD_eq_getElem?_getD,List.getElem?_eq_getElem hj]
   exact List.getElem_mem _
  ·rw[hns] at ha
   obtain⟨j,hj,rfl⟩:=List.mem_iff_getElem.mp ha
   rw[List.length_map,Array.length_toList] at hj
   have:=h2 j (by omega)
   rw[numAt_eq ys j,List.getD_eq_getElem?_getD,List.getElem?_eq_getElem (by rw[List.length_map,Array.length_toList];exact hj)] at this
   exact this
 rcases hS with hS|hS
 ·obtain⟨its,rv,pl,hz⟩:=I.list hS
  have hi:=Ŵ rv
  obtain⟨ys,e⟩:=hi.allInts.items
  have hns:ns=ys.toList.map (·.1):=by rw[<-hi.numsOf,<-nums_intItems,<-e]
  have hl:=pl.isList
  rw[e] at hl
  have hsz:0<ys.size:=by rw[hns,List.length_map,Array.length_toList] at hne;exact hne
  exact max_intList (show X.A.handled=none from I.ok.hd hc) hl hsz (fin ys hns hsz)
 ·obtain⟨its,rv,pl,hz⟩:=I.tuple hS
  have hi:=Ŵ rv
  obtain⟨ys,e⟩:=hi.allInts.items
  have hns:ns=ys.toList.map (·.1):=by rw[<-hi.numsOf,<-nums_intItems,<-e]
  have hl:s.heap.IsTuple p its.toArray:=pl
  rw[e] at hl
  have hsz:0<ys.size:=by rw[hns,List.length_map,Array.length_toList] at hne;exact hne
  exact vm (show X.A.handled=none from I.ok.hd hc) hl hsz (fin ys hns hsz)
def Wt(K:PySem.W.Frag):List V->Hp->VK->Prop:=λxs H Q=>∃(p:Addr) (ns:List Int),xs=[.ref p]/\Ũ K H p (ns.map V.int)/\0<ns.length/\∀M,M∈ns->(∀a∈ns,M<=a)->Q (.int M) H
def Cw(hc:X.calm=true):Ń X (.builtin "min") (Wt X.K):=by
 intro pins s σ H xs us Q I r h
 obtain⟨p,ns,rfl,hS,hne,q⟩:=h
 obtain⟨u,rfl,ru⟩:=vals1 r
 cases ru
 obtain⟨its,rv,pl,hz⟩:=I.list hS
 have hi:=Ŵ rv
 obtain⟨ys,e⟩:=hi.allInts.items
 have hns:ns=ys.toList.map (·.1):=by rw[<-hi.numsOf,<-nums_intItems,<-e]
 have hl:=pl.isList
 rw[e] at hl
 have hsz:0<ys.size:=by rw[hns,List.length_map,Array.length_toList] at hne;exact hne
 refine min_intList (show X.A.handled=none from I.ok.hd hc) hl hsz λv h' tk hv hk=>?_
 obtain⟨t,rfl⟩:=intItems_at hv
 obtain⟨h1,h2⟩:=argBest_lt (numAt ys) (ys.size-1)
 refine⟨.int _,H,I.kept hk,⟨t,rfl⟩,q _ ?_ λa ha=>?_⟩
 ·rw[hns,numAt_eq]
  have hj:argBest (λi j=>decide (numAt ys i<numAt ys j)) (ys.size-1)<(ys.toList.map (·.1)).length:=by rw[List.length_map,Array.length_toList];omega
  rw[List.getD_eq_getElem?_getD,List.getElem?_eq_getElem hj]
  exact List.getElem_mem _
 ·rw[hns] at ha
  obtain⟨j,hj,rfl⟩:=List.mem_iff_getElem.mp ha
  rw[List.length_map,Array.length_toList] at hj
  have:=h2 j (by omega)
  rw[numAt_eq ys j,List.getD_eq_getElem?_getD,List.getElem?_eq_getElem (by rw[List.length_map,Array.length_toList];exact hj)] at this
  exact this
def intsOf:List PV->Option (List Int)
 | []=>some []
 | .int b::ps=>(intsOf ps).map (b:: ·)
 |_::_=>none
@[simp] theorem fX:∀ns:List Int,intsOf (ns.map PV.int)=some ns
  | []=>rfl
  |n::ns=>by rw[List.map_cons,intsOf,fX ns];rfl
theorem ints_rep{F:Hp}:∀{ps:List PV} {vs:List V} {bs:List Int},đ K F ps vs->intsOf ps=some bs->vs=bs.map V.int
 | [],vs,bs,r,h=>by
   cases h
   cases r.pr
   rfl
 |p::ps,vs,bs,r,h=>by
  cases r.pr with
  |cons r1 t=>
   cases p with
   |int b=>
    unfold intsOf at h
    obtain⟨cs,e,rfl⟩:=Option.map_eq_some_iff.mp h
    rw[ints_rep (đ.of t) e,show _=V.int b from r1]
    rfl
   |_=>cases h
def best(f:Int->Int->Int):List Int->Option Int
 | []=>none
 |n::ns=>some (ns.foldl f n)
theorem foldl_max:∀(ns:List Int) (n:Int),ns.foldl max n∈n::ns/\∀a∈n::ns,a<=ns.foldl max n
 | [],n=>by simp
 |m::ns,n=>by
  obtain⟨h1,h2⟩:=foldl_max ns (max n m)
  rw[List.foldl_cons]
  refine⟨?_,λa ha=>?_⟩
  ·rcases List.mem_cons.mp h1 with e|e
   ·rw[e]
    by_cases h:n<=m
    ·rw[Int.max_eq_right h];simp
    ·rw[Int.max_eq_left (by omega)];simp
   ·simp[e]
  ·have hm:=h2 (max n m) List.mem_cons_self
   rcases List.mem_cons.mp ha with rfl|ha
   ·omega
   ·rcases List.mem_cons.mp ha with rfl|ha
    ·omega
    ·exact h2 a (List.mem_cons_of_mem _ ha)
theorem foldl_min:∀(ns:List Int) (n:Int),ns.foldl min n∈n::ns/\∀a∈n::ns,ns.foldl min n<=a
 | [],n=>by simp
 |m::ns,n=>by
  obtain⟨h1,h2⟩:=foldl_min ns (min n m)
  rw[List.foldl_cons]
  refine⟨?_,λa ha=>?_⟩
  ·rcases List.mem_cons.mp h1 with e|e
   ·rw[e]
    by_cases h:n<=m
    ·rw[Int.min_eq_left h];simp
    ·rw[Int.min_eq_right (by omega)];simp
   ·simp[e]
  ·have hm:=h2 (min n m) List.mem_cons_self
   rcases List.mem_cons.mp ha with rfl|ha
   ·omega
   ·rcases List.mem_cons.mp ha with rfl|ha
    ·omega
    ·exact h2 a (List.mem_cons_of_mem _ ha)
def dG:List PV->Option PV
 | [.lst ps]=>((intsOf ps).bind (best max)).map .int
 | [.tup ps]=>((intsOf ps).bind (best max)).map .int
 |_=>none
def nM:List PV->Option PV
 | [.lst ps]=>((intsOf ps).bind (best min)).map .int
 |_=>none
def vp:bW K (Ws K.K) dG:=by
 intro c F H σ ρ ps pv vs Q rel r e k
 have fin:∀(ps:List PV) (xs:List V),đ K F ps xs->((intsOf ps).bind (best max)).map PV.int=some pv->∃ns:List Int,xs=ns.map V.int/\0<ns.length/\∀M,M∈ns->(∀a∈ns,a<=M)->Q (.int M) H:=by
  intro ps xs h2 e
  obtain⟨m,em,rfl⟩:=Option.map_eq_some_iff.mp e
  obtain⟨ns,eb,hb⟩:=Option.bind_eq_some_iff.mp em
  cases ns with
  |nil=>cases hb
  |cons n ns=>
   cases hb
   obtain⟨z1,z2⟩:=foldl_max ns n
   refine⟨n::ns,ints_rep h2 eb,by simp,λM m1 m2=>?_⟩
   have:M=ns.foldl max n:=Int.le_antisymm (z2 M m1) (m2 _ z1)
   rw[this]
   exact k _ F H rel (Same.refl _) (Same.refl _) Rep.int
 unfold dG at e
 split at e
 ·rename_i ps
  obtain⟨v,rfl,r1⟩:=xM r
  obtain⟨a,xs,rfl,h1,h2⟩:=r1.lst rel.sub
  obtain⟨ns,rfl,hl,hq⟩:=fin ps xs h2 e
  exact⟨a,ns,rfl,.inl h1,hl,hq⟩
 ·rename_i ps
  obtain⟨v,rfl,r1⟩:=xM r
  obtain⟨a,xs,rfl,h1,h2⟩:=r1.tup rel.sub
  obtain⟨ns,rfl,hl,hq⟩:=fin ps xs h2 e
  exact⟨a,ns,rfl,.inr h1,hl,hq⟩
 ·cases e
def Cy:bW K (Wt K.K) nM:=by
 intro c F H σ ρ ps pv vs Q rel r e k
 unfold nM at e
 split at e
 ·rename_i ps
  obtain⟨v,rfl,r1⟩:=xM r
  obtain⟨a,xs,rfl,h1,h2⟩:=r1.lst rel.sub
  obtain⟨m,em,rfl⟩:=Option.map_eq_some_iff.mp e
  obtain⟨ns,eb,hb⟩:=Option.bind_eq_some_iff.mp em
  cases ns with
  |nil=>cases hb
  |cons n ns=>
   cases hb
   obtain⟨z1,z2⟩:=foldl_min ns n
   refine⟨a,n::ns,rfl,by rw[<-ints_rep h2 eb];exact h1,by simp,λM m1 m2=>?_⟩
   have:M=ns.foldl min n:=Int.le_antisymm (m2 _ z1) (z2 M m1)
   rw[this]
   exact k _ F H rel (Same.refl _) (Same.refl _) Rep.int
 ·cases e
@[simp] theorem Zae{i:Int}:Cv [.int i]=some (.int i):=rfl
@[simp] theorem Zaf{b:Bool}:Cv [.bl b]=some (.int (if b then 1 else 0)):=rfl
@[simp] theorem HF{ps:List PV}:dG [.lst ps]=((intsOf ps).bind (best max)).map .int:=rfl
@[simp] theorem HJ{ps:List PV}:nM [.lst ps]=((intsOf ps).bind (best min)).map .int:=rfl
@[simp] theorem Zag{f:Int->Int->Int}{n:Int}{ns:List Int}:best f (n::ns)=some (ns.foldl f n):=rfl
end
end P
namespace P
open PySem PySem.Spec PyProof.Rows L2 M2 M3 M4
def Wu(K:PySem.W.Frag)(C:Addr):Bool:=PySem.W.plainGet K C Str.empty && PySem.W.hasDictIn K C && PySem.W.plainOver K C && PySem.W.findIn K (.ref C) "__setattr__" == some (some (.builtin "object.__setattr__"))
def fY{K:PySem.W.Frag}{C:Addr}(h:Wu K C=true):Cls K C:=by
 unfold Wu at h
 simp only[Bool.and_eq_true,beq_iff_eq] at h
 exact⟨h.1.1.1,h.1.1.2,h.1.2,h.2⟩
def Jv(K:PySem.W.Frag)(C:Addr)(m:Str)(f:Addr):Bool:=PySem.W.findIn K (.ref C) m== some (some (.ref f)) && PySem.W.isFn K (.ref f) && PySem.W.keepIn K (.ref f)
def gJ{K:PySem.W.Frag}{C f:Addr}{m:Str}(h:Jv K C m f=true):Meth K C m f:=by
 unfold Jv at h
 simp only[Bool.and_eq_true,beq_iff_eq] at h
 exact⟨h.1.1,h.1.2,h.2⟩
def mkB(K:PySem.W.Frag)(C f:Addr):Bool:=PySem.W.makesIn K C && PySem.W.findIn K (.ref C) "__init__" == some (some (.ref f)) && PySem.W.isFn K (.ref f) && PySem.W.keepIn K (.ref C)
def kW{K:PySem.W.Frag}{C f:Addr}(h:mkB K C f=true):Mk K C f:=by
 unfold mkB at h
 simp only[Bool.and_eq_true,beq_iff_eq] at h
 exact⟨h.1.1.1,h.1.1.2,h.1.2,h.2⟩
section
variable{ρ:ļ}{i n k:Nat}{C:String}{cs:List String}{f m:Str}{mv mo:M PV}{mi:MI}{ms:M (List Slot)}{mb:M Fl}{eO:List (String×MF)}{as:List Slot}{ns:List Str}{ps:List PV}
@[simp] theorem Zah:fB i cs f mv ρ=(mv ρ).bind fun p ρ1=>match ρ1[i]? with
  |some (.rc C ns ps)=>if cs.contains C=true/\ns.length<1000 then .ok .nx (ρ1.set i (.rc C (putN f ns) (vh f p ns ps))) else .bad
  |_=>.bad:=rfl
@[simp] theorem Zai:aO n k C mb as=if as.length+1=n then IR.of (mb (.rc C [] []::startP (k-1) as)) else .bad:=rfl
@[simp] theorem ZbR{C:String}:IR.of (.ok .nx (.rc C ns ps::ρ))=.ok ns ps:=rfl
@[simp] theorem Zaj:aP C mi ms ρ=(ms ρ).bind fun as ρ1=>match mi as with
  | .ok ns ps=>.ok (.ins C ns ps) ρ1
  | .exc x=>.exc x ρ1
  | .bad=>.bad:=rfl
@[simp] theorem ZbS:ż cs f (.ins C ns ps)=if cs.contains C=true then(ns.zip ps).lookup f else none:=rfl
@[simp] theorem HN:kO m eO mo ms ρ=(mo ρ).bind fun p ρ1=>match p with
  | .ins C ns ps=>match eO.lookup C with
    |some mf=>if ns.contains m=true then .bad else(ms ρ1).bind λas ρ2=>match mf (.sh (.ins C ns ps)::as) with
     | .ret r=>.ok r ρ2
     | .exc x=>.exc x ρ2
     | .bad=>.bad
    |none=>.bad
  |_=>.bad:=rfl
end
end P
namespace M3
open PySem PySem.Spec PyProof.Rows L2 M2
section
variable{X:Cx}{elt tg iter:Expr}{ifs:List Expr}{scope:Scope}{pos:Pos}{wi:TI}{g:TG}{tt:TT}{te:TE}
def HS{iv:Nat}{y:Str}{py spos:Pos}(hN:X.N.Nodup)(hiN:X.N[iv]?=some y)(hy:X.env.scope.names.lookup y=some .local)(hsw:swapsWith (.ListComp elt [⟨tg,iter,ifs,0⟩] scope pos) (some (.Name y py)) spos.line X.env=pure true)(N':List Str)(js:List Nat)(nl:Nat)(sc:Scope)(hsc:X.env.scope=sc)(hcalm:X.calm=true)
 (hi:PI X.Ō tg iter wi)(hg:∀cl C s H fp,PG (aU X.Ō N' scope cl C s H fp) tg g)(ht:∀cl C s H fp,Fp (aU X.Ō N' scope cl C s H fp) ifs tt)(he:∀cl C s H fp,PE (aU X.Ō N' scope cl C s H fp) elt te)
 (hcap:gA X.Ō sc scope N' js)(hlen:js.length+nl=N'.length:=by rfl)
 (hk:scope.kind=.function:=by rfl)(hcell:∀y∈scope.names,y.2=.cell->scope.names.lookup y.1=some .cell:=by decide +kernel)(hnames:∀y∈scope.names,y.2=.local->scope.names.lookup y.1=some .local:=by decide +kernel)
 (hfree:∀y∈scope.names,y.2=.free->(sc.names.lookup y.1=some .cell\/sc.names.lookup y.1=some .free):=by decide +kernel)
 (hs:∀x,foldedSetIterable iter X.env x=pure x:=by intro _;rfl) :
 PS X.Ō (.Assign [.Name y py] (.ListComp elt [⟨tg,iter,ifs,0⟩] scope pos) spos) (λD σ H=>Bh js nl wi g tt te σ H λv H'=>D.nx (σ.set iv (some v)) H'):=by
 intro pins s σ H D I h
 obtain⟨Vs,c1,c2,c3⟩:=gw (scope:=scope) (env:=X.Ō.env) λy hy hf=>I.ok.has y.1 (by
  have:=hfree y hy hf
  rw[<-hsc] at this
  exact this)
 rw[exec_Assign_Name_used _ _ _ _ (show swapsWith _ _ _ X.Ō.env=pure true from hsw)]
 refine wpAny_bind (wpAny_standAt (wpAny_bind ?_))
 show wpAny _ X.A (do let _ <-comprehension (.ListComp elt [⟨tg,iter,ifs,0⟩] scope pos) scope X.Ō.env _ (newList []) false (eval iter X.Ō.env) (some (assign (.Name y py) X.Ō.env))) _ _ s
 refine wpAny_bind (wpAny_mono (wpAny_comprehension_free (Q:=λ_ s'=>SP X.Ō pins D .next s') (use:=some (assign (.Name y py) X.Ō.env)) rfl hs c1 hk hnames (Ň (hi pins s σ H _ I h) λv s1 h1=>Ň h1 λitv s2 h2=>?_)) (λ_ s' hq=>wpAny_pure (wpAny_pure hq)) λ_ _ e=>e)
 obtain⟨it,fp,tn,J,H2,e,I2,T,st2,f2,q2⟩:=h2
 subst e
 refine wpAny_newObj_type (eX (λh₁ hns₁ old Qx=>?_))
 dsimp only at hns₁ old Qx ⊢
 generalize Qy:s2.heap.push {cls:=.type "list",dict:=none,data:=.seq ([]:List Value).toArray}=aj at hns₁ old Qx ⊢
 have hD:H2 s2.heap.objs.size=none:=I2.hok.fresh (Nat.le_refl _)
 have I3:Inv X.Ō pins σ (upd H2 s2.heap.objs.size (.lst [])) {s2 with heap:=aj}:=by
  rw[<-Qy]
  exact I2.laid (t':=s2.toks) (λb u e=>Heap.get?_push_of_some _ e) (Nat.le_refl _) ⟨Nat.zero_le _,[],0,.nil,Heap.get?_push_size _ rfl⟩
 have GC:∀b∈fp,b<s2.heap.objs.size:=λb hb=>by
  obtain⟨o,ho,_⟩:=T.obj 0 _ st2 b hb
  exact Heap.lt_size ho
 have Qz:aj.objs.size=s2.heap.objs.size+1:=by rw[<-Qy,Heap.size_push]
 have f3:∀b∈fp,eN X.Ō pins (upd H2 s2.heap.objs.size (.lst [])) b:=λb hb=>by
  obtain⟨g0,g1⟩:=f2 b hb
  exact⟨by rw[Ě (Nat.ne_of_lt (GC b hb))];exact g0,g1⟩
 have B:=Bj (X:=X.Ō) (cl:=Vs) hcell c2 c3 (λx c e=>by
  obtain⟨v,o,ho,_⟩:=I3.cell x c e
  exact Heap.lt_size ho) Qx
 generalize cellsFrom (aj.objs.size+1) scope.names Vs=cl at B ⊢
 obtain⟨W,⟨m0,w0⟩,turn⟩:=q2 s2.heap.objs.size hD
 have I4:=nq (X:=X.Ō) (N':=N') (js:=js) (nl:=nl) (sc:=sc) (scope:=scope) (cl:=cl) (fp:=fp) (h':=h₁) (tk:=s2.toks) hsc hk hcap hlen B I3 f3 (λb hb=>by show b<aj.objs.size;rw[Qz];exact Nat.lt_succ_of_lt (GC b hb)) hns₁ old
 have Vt:tn 0 h₁:= T.keep 0 _ _ st2 λb hb o e=>old b o (by rw[<-Qy];exact Heap.get?_push_of_some _ e)
 have fr4:∀b∈fp,(upd H2 s2.heap.objs.size (.lst [])) b=none:=λb hb=>(f3 b hb).1
 have stat:∀{H':Hp},(∀b∈fp,H' b=none)->∀b∈fp,eN (aU X.Ō N' scope cl aj.objs.size {s2 with heap:=aj} (upd H2 s2.heap.objs.size (.lst [])) fp) [] H' b:=fun{H'} hn b hb=>by
  obtain⟨g0,g1,g2,g3,g4,g5⟩:=f3 b hb
  refine⟨hn b hb,Nat.ne_of_lt (by show b<aj.objs.size;rw[Qz];exact Nat.lt_succ_of_lt (GC b hb)),λz=>?_,.inl hb,λx c e=>by
   rcases B.at_ x c e with⟨q,_⟩|⟨q,_⟩
   ·exact g4 x c q
   ·exact Nat.ne_of_gt (Nat.lt_trans (by show b<aj.objs.size;rw[Qz];exact Nat.lt_succ_of_lt (GC b hb)) q),λp hp=>absurd hp (by simp[aU])⟩
  rcases List.mem_cons.mp (I3.jN b z) with z|z
  ·exact g1 z
  ·exact g2 z
 have loop:∀s₃:Shared,s₃= {s2 with heap:=h₁}->
  codeAny (model X.prog X.w) X.A (.compLoop (.ListComp elt [⟨tg,iter,ifs,0⟩] scope pos) 0 (.ref it) (.ref s2.heap.objs.size) (compEnvC scope cl aj.objs.size X.Ō.env))
   (compPost (model X.prog X.w) X.A X.Ō.xe (some (assign (.Name y py) X.Ō.env)) (λ_ s'=>SP X.Ō pins D .next s') (.ref s2.heap.objs.size) aj.objs.size) s₃:= by
  rintro s₃ rfl
  refine gB (λn s'=>∃i σ' H',Inv (aU X.Ō N' scope cl aj.objs.size {s2 with heap:=aj} (upd H2 s2.heap.objs.size (.lst [])) fp) [] σ' H' s'/\tn i s'.heap/\(∀b∈fp,H' b=none)/\W i n σ' H') ?_ m0 ⟨0,_,_,I4,Vt,fr4,w0⟩
  rintro n s5 ⟨i,σ5,H5,I5,Gb,Pn,w5⟩
  rcases turn i n σ5 H5 w5 with⟨stop,qn⟩|⟨go,N,hN,step⟩
  ·refine Ň (T.done (aU X.Ō N' scope cl aj.objs.size {s2 with heap:=aj} (upd H2 s2.heap.objs.size (.lst [])) fp) rfl rfl rfl hcalm i [] s5 σ5 H5 (λ_ _=>False) I5 (stat Pn) Gb stop) λr s6 ⟨hr,I6⟩=>?_
   subst hr
   obtain⟨m,hm,_⟩:=I6.loc
   have I7:Inv X.Ō pins σ H5 s6:=jT (h':=s6.heap) I3 f3 I6 (λb u hb e=>e)
   have hCL:aj.objs.size≠X.Ō.env.locals:=Nat.ne_of_gt I3.lt
   have hcC:∀x c,X.Ō.env.cells.lookup x=some c->c≠aj.objs.size:=λx c e z=>by
    obtain⟨v,o,ho,_⟩:=I3.cell x c e
    exact absurd (Heap.lt_size ho) (by rw[z];exact Nat.lt_irrefl _)
   have hpC:∀p∈X.Ō.pn++pins,p.1≠aj.objs.size:=λp hp z=>by
    have:=Heap.lt_size (I3.pin p hp).1
    rw[z] at this
    exact Nat.lt_irrefl _ this
   have hnC:H5 aj.objs.size=none:=I6.free
   refine wpAny_assign_Name (mR (X:=X.Ō) (i:=iv) I7 hN hiN (.inl hy) (v:=.ref s2.heap.objs.size) rfl (λs8 I8 ⟨a8,sb8,ha8⟩=>?_) (.inr hy))
   have ne8:aj.objs.size≠a8:=by
    rcases ha8 with rfl|ha8
    ·exact hCL
    ·exact λz=>hcC _ _ ha8 z.symm
   refine⟨m,hm.sameBut sb8 ne8,λh' hs'=>⟨_,H5,?_,qn⟩⟩
   have kp:∀b o,b≠aj.objs.size->s8.heap.get? b=some o->h'.get? b=some o:=λb o hb e=>hs'.extBut b o hb e
   have kp':∀b o,b∉[aj.objs.size]->s8.heap.get? b=some o->h'.get? b=some o:=λb o hb e=>kp b o (λz=>hb (by rw[z];exact List.mem_cons_self)) e
   refine I8.call' (ch:=[aj.objs.size]) (s':={s8 with heap:=h'}) rfl ⟨λb o e _ _ hx=>kp' b o hx e,λb o e _ _ hx=>⟨o.slots,kp' b o hx e⟩,λb o _ n _=>n,λb o e hx=>⟨o,kp' b o hx e⟩,λ_ _ q=>q,λ_ _ _ q=>q,λ_ ps q=>q⟩ (wR I8.hok hnC kp) I8.bare λb hb=>?_
   cases List.mem_singleton.mp hb
   exact⟨.inr I3.sz,hCL,hcC,hpC⟩
  ·refine Ň (T.item (aU X.Ō N' scope cl aj.objs.size {s2 with heap:=aj} (upd H2 s2.heap.objs.size (.lst [])) fp) rfl rfl rfl hcalm i [] s5 σ5 H5 (λ_ _=>False) I5 (stat Pn) Gb go) λr s6 ⟨u,hr,h6⟩=>?_
   subst hr
   refine Ň h6 λ_ s7 ⟨x,H7,I7,r7,y7,QB,fr7⟩=>?_
   have I7':=I7.pinned (stat fr7) (T.obj _ _ QB)
   have again:∀{s8:Shared} {σ8:L2.St} {H8:Hp},Inv (aU X.Ō N' scope cl aj.objs.size {s2 with heap:=aj} (upd H2 s2.heap.objs.size (.lst [])) fp) ([]++iw fp s7.heap) σ8 H8 s8->
    Inv (aU X.Ō N' scope cl aj.objs.size {s2 with heap:=aj} (upd H2 s2.heap.objs.size (.lst [])) fp) [] σ8 H8 s8/\tn (i+1) s8.heap/\∀b∈fp,H8 b=none:=fun{s8 σ8 H8} I8=>by
    refine⟨I8.cT,T.keep _ _ _ QB λb hb o e=>(I8.pin (b,o) (List.mem_append_right _ (List.mem_append_right _ (ų hb e)))).1,λb hb=>?_⟩
    obtain⟨o,e,d⟩:=T.obj _ _ QB b hb
    exact(I8.pin (b,o) (List.mem_append_right _ (List.mem_append_right _ (ų hb e)))).2.1
   refine Ň (hg cl _ _ _ fp _ s7 σ5 H7 x u _ I7' r7 (step x H7 y7)) λ_ s8 ⟨σ8,H8,I8,q8⟩=>?_
   refine Ň (ht cl _ _ _ fp _ s8 σ8 H8 _ I8 q8) λc s9 ⟨H9,I9,q9⟩=>?_
   cases c with
   |false=>
    rw[if_neg Bool.false_ne_true] at q9 ⊢
    obtain⟨m',hm',w9⟩:=hN _ _ q9
    obtain⟨a1,a2,a3⟩:=again I9
    exact⟨m',hm',i+1,σ8,H9,a1,a2,a3,w9⟩
   |true=>
    rw[if_pos rfl] at q9 ⊢
    refine Ň (he cl _ _ _ fp _ s9 σ8 H9 _ I9 q9) λyv ug ⟨y,H10,I10,r10,ys,e10,l10,w10⟩=>?_
    refine Ň (ao _ ug σ8 H10 (.ref s2.heap.objs.size) [y] (.ref s2.heap.objs.size) [yv] (λ_ QC=>N σ8 QC) I10 rfl (.cons r10 .nil) ⟨_,ys,y,rfl,rfl,e10,l10,w10⟩) λ_ s11 ⟨v11,QC,I11,_,w11⟩=>?_
    obtain⟨a1,a2,a3⟩:=again I11
    obtain⟨m',hm',w11⟩:=hN _ _ w11
    exact⟨m',hm',i+1,σ8,QC,a1,a2,a3,w11⟩
 exact codeAny_compStart_list (loop _ rfl) (T.self _ 0 _ _ _ Vt (loop _ rfl))
end
end M3
namespace P
open PySem PySem.Spec PyProof.Rows L2 M2 M3 M4
section
variable{X:Cx}{cm:String->Addr}{E:L2.St->XK}{elt tg iter:Expr}{ifs:List Expr}{scope:Scope}{pos:Pos}{mi:M (List PV)}{g:Tg}{mt:M Bool}{me:M PV}
theorem PS.Ō{st:Stmt}{t:TS}(h:PS X.Ō st t):PS X st t:=λpins s σ H D I hw=>
 wpAny_mono (h pins s σ H D (I.wish _) hw) (λ_ _ q=>q.bI) λ_ _ z=>False.elim z
def Rm{i:Nat}{y:Str}{py spos:Pos}(hN:X.N.Nodup)(hi0:X.N[i]?=some y)(hy:X.env.scope.names.lookup y=some .local)(N':List Str)(js:List Nat)(nl:Nat)(sc:Scope)(hsc:X.env.scope=sc)(hcalm:X.calm=true)
 (hi:PI X.Ō tg iter (tI (kk X cm) E mi))(hg:∀cl C s H fp,PG (aU X.Ō N' scope cl C s H fp) tg (tT (kk X cm) g))(ht:∀cl C s H fp,Fp (aU X.Ō N' scope cl C s H fp) ifs (tB (kk X cm) EF mt))(he:∀cl C s H fp,PE (aU X.Ō N' scope cl C s H fp) elt (tV (kk X cm) EF me))
 (hcap:gA X.Ō sc scope N' js)(hlen:js.length+nl=N'.length:=by rfl)
 (hk:scope.kind=.function:=by rfl)(hcell:∀y∈scope.names,y.2=.cell->scope.names.lookup y.1=some .cell:=by decide +kernel)(hnames:∀y∈scope.names,y.2=.local->scope.names.lookup y.1=some .local:=by decide +kernel)
 (hfree:∀y∈scope.names,y.2=.free->(sc.names.lookup y.1=some .cell\/sc.names.lookup y.1=some .free):=by decide +kernel)
 (hs:∀x,foldedSetIterable iter X.env x=pure x:=by intro _;rfl)(hsw:swapsWith (.ListComp elt [⟨tg,iter,ifs,0⟩] scope pos) (some (.Name y py)) spos.line X.env=pure true:=by rfl) :
 PS X (.Assign [.Name y py] (.ListComp elt [⟨tg,iter,ifs,0⟩] scope pos) spos) (tS (kk X cm) E (Ĩ i (ŉ js nl mi g mt me))):=
 PS.wk (PS.Ō (HS hN hi0 hy hsw N' js nl sc hsc hcalm (Jk hi) hg ht he hcap hlen hk hcell hnames hfree hs)) fun D σ H ⟨c,F,ρ,rel,h⟩=>rT ⟨c,F,ρ,rel,Ŋ.bind h fun r ρ1 v F1 H1 Đ s1 q h1=>by
   cases r with
   |sh p=>exact h1 _ F1 H1 (Đ.put rfl ⟨v,rfl,q⟩) (Same.refl _)
   |ow ps=>
    obtain⟨a,vs,rfl,q1,q2,q3,q4,q5⟩:=q
    exact h1 _ F1 H1 (Đ.Bw ⟨a,vs,rfl,q1,q2,q3,q5⟩ λ_ z=>V.ref.inj z▸q4) (Same.refl _)
   |ot ps qs rs=>
    obtain⟨p,a,xs,vs,ys,rfl,q0,qx,q1,q2,q3,q4,q5,q6⟩:=q
    exact h1 _ F1 H1 (Đ.Bw (s:=.ot ps qs rs) ⟨p,a,xs,vs,ys,rfl,q0,qx,q1,q2,q3,q5,q6⟩ λ_ z=>jH (ps:=ps) (qs:=qs) (rs:=rs) z ⟨p,xs,ys,rfl,q0,qx.length.symm⟩▸q4) (Same.refl _)⟩
end
end P
namespace P
open PySem PySem.Spec PyProof.Rows L2 M2 M3 M4
section
variable{X:Cx}{cm:String->Addr}{K:KK}{E:L2.St->XK}{o e:Expr}{es:List Expr}{name:Str}{apos cpos:Pos}{id:String}{r:V->List V->Hp->VK->Prop}{f:PV->List PV->Option PV}{mo:M PV}{ms:M (List PV)}
end
end P
namespace P
open PySem PySem.Spec PyProof.Rows L2 M2 M3 M4
section
variable{X:Cx}{pins:List (Addr×Obj)}{σ:L2.St}{H:Hp}{s:Shared}{h':Heap}
def turns{t':Nat}{fp:List Addr}(I:Inv X pins σ H s)(k:∀b o,b∉fp->s.heap.get? b=some o->h'.get? b=some o)(hf:∀b∈fp,eN X pins H b):Inv X pins σ H {s with heap:=h',toks:=t'}:=by
 have Uv:∀b u,H b=some u->b∉fp:=λb u e z=>by rw[(hf b z).1] at e;cases e
 have hL:X.env.locals∉fp:=λz=>(hf _ z).2.1 rfl
 refine I.step (g':=s.gens) (d':=s.drawn) (ch:=fp) (λb hb=>?_) (λb o _ _ hc e _=>k b o hc e) (λb o _ _ hc e _=>⟨o.slots,k b o hc e⟩) (λ_ _ _ _ n=>n)
  (λb o hc e=>⟨o,k b o hc e⟩) (λ_ _ e=>e) (λ_ _ _ e=>e) (λb ps e=>e) (λm hm=>?_) (λb u e=>?_) I.bare
 ·obtain⟨f0,f1,f2,f3,f4,f5⟩:=hf b hb
  exact⟨f3,f1,f4,f5⟩
 ·obtain⟨o,es,ep,ho,r⟩:=hm
  exact⟨o,es,ep,k _ o hL ho,r⟩
 ·refine(I.hok b u e).stay (λc v hc q=>k c v ?_ q) (λ_ q=>q) λ_ _ q=>q
  rcases hc with z|z
  ·rw[z];exact Uv b u e
  ·exact Uv c _ z
def Rn{a b:Addr}{o:HO}(f:eN X pins H b)(h:b≠a):eN X pins (upd H a o) b:=⟨by rw[Ě h];exact f.1,f.2⟩
def vq{t':Nat}{fp:List Addr}{u1 u2:Value}{x1 x2:V}(I:Inv X pins σ H s)(r1:RelV x1 u1)(r2:RelV x2 u2)(ht:∃o,h'.get? s.heap.objs.size=some o/\o= {cls:=.type "tuple",data:=.seq #[u1,u2]})
 (k:∀b o,b∉fp->s.heap.get? b=some o->h'.get? b=some o)(hf:∀b∈fp,eN X pins H b)(hlt:∀b∈fp,b<s.heap.objs.size) :
 Inv X pins σ (upd H s.heap.objs.size (.tup [x1,x2])) {s with heap:=h',toks:=t'}:=by
 have I1:Inv X pins σ (upd H s.heap.objs.size (.tup [x1,x2])) {s with heap:=s.heap.push {cls:=.type "tuple",data:=.seq #[u1,u2]},toks:=s.toks}:=
  I.laid (t':=s.toks) (λb u e=>Heap.get?_push_of_some _ e) (Nat.le_refl _) ⟨by show 2<=sizeLine;decide,[u1,u2],.cons r1 (.cons r2 .nil),⟨_,Heap.get?_push_size _ rfl,rfl,_,rfl⟩⟩
 refine turns (fp:=fp) (s:={s with heap:=s.heap.push {cls:=.type "tuple",data:=.seq #[u1,u2]},toks:=s.toks}) (h':=h') (t':=t') I1 (λb o hb e=>?_) λb hb=>Rn (hf b hb) (Nat.ne_of_lt (hlt b hb))
 rcases Heap.get?_push_cases e with⟨rfl,rfl⟩|e
 ·obtain⟨o,h1,h2⟩:=ht
  rw[h1,h2]
 ·exact k b o hb e
end
def Ite(K:PySem.W.Frag)(a:Addr):It:=
 ⟨λi H=>∃xs x,Ũ K H a xs/\xs[i]?=some x,λi H y H'=>∃x T,(∀xs,Ũ K H a xs->xs[i]?=some x)/\H T=none/\y=.ref T/\H'=upd H T (.tup [.int i,x]),λi H=>∃xs,Ũ K H a xs/\xs.length<=i⟩
def zp{P:Program}{w:World}{K:PySem.W.Frag}{elts:List Expr}{k:Nat}{pos:Pos}(a e it:Addr)(hne:e≠it):Turn P w K (.Tuple elts k pos) (Ite K a) [e,it] e (λi h=>(∃old,IsEnum h e it i old)/\h.IsListIter it a i) where
 mem:=by simp
 obj:=λi h st b hb=>by
  obtain⟨⟨old,he⟩,hit⟩:=st
  rcases List.mem_cons.mp hb with rfl|hb
  ·exact⟨_,he,fun v z=>by
    have z':Data.fields _=Data.cell v:=z
    cases z'⟩
  ·have e':b=it:=by simpa using hb
   subst e'
   obtain⟨o,e1,c,d⟩:=hit
   exact⟨o,e1,λv z=>by rw[d] at z;cases z⟩
 keep:=λi h h' st k=>⟨let ⟨old,he⟩:=st.1;⟨old,k e (by simp) _ he⟩,st.2.at λo q=>k it (by simp) o q⟩
 item:=by
  intro X hP hw hK hc i pins s σ H E I hf st hg
  subst hP hw hK
  obtain⟨⟨old,he⟩,hit⟩:=st
  obtain⟨xs,x,hq,hx⟩:=hg
  obtain⟨its,rv,p,hz⟩:=I.list hq
  obtain⟨u,hu,ru⟩:=rv.get hx
  have elt:e<s.heap.objs.size:=Heap.lt_size he
  have ilt:it<s.heap.objs.size:=by obtain⟨_,q,_⟩:=hit;exact Heap.lt_size q
  refine wpAny_pyNext_enum_item he hit p.isList (x:=u) (by simpa using hu) hne λh' ho hit' hT hsz hk=>?_
  refine⟨.ref s.heap.objs.size,rfl,wpAny_letOwnedTupleGo_enum ho λh'' he' hs'=>?_⟩
  have hs2:Heap.SameBut e h' h'':=hs'
  have hlt:∀b∈[e,it],b<s.heap.objs.size:=λb hb=>by
   rcases List.mem_cons.mp hb with rfl|hb
   ·exact elt
   ·have e':b=it:=by simpa using hb
    subst e';exact ilt
  have I2:=vq (fp:=[e,it]) (h':=h'') (t':=s.toks+1) (x1:=.int i) I ⟨s.toks,rfl⟩ ru ⟨_,(hs2.2 _ (Nat.ne_of_gt elt)).trans hT,rfl⟩ (λb o hb q=>by
   have hbe:b≠e:=λz=>hb (by simp[z])
   have hbi:b≠it:=λz=>hb (by simp[z])
   exact(hs2.2 b hbe).trans (hk b o hbe hbi q)) hf hlt
  refine⟨.ref s.heap.objs.size,_,I2,rfl,⟨x,s.heap.objs.size,λys hy=>by rw[I.qZ hy hq];exact hx,I.fresh,rfl,rfl⟩,⟨⟨u,?_⟩,hit'.at λo q=>(hs2.2 it hne.symm).trans q⟩,λb hb=>?_⟩
  ·have he2:IsEnum h'' e it ((i:Int)+1) u:=he'
   show IsEnum h'' e it (((i+1:Nat):Int)) u
   rw[Int.natCast_add]
   exact he2
  ·rw[Ě (Nat.ne_of_lt (hlt b hb))];exact(hf b hb).1
 done:=by
  intro X hP hw hK hc i pins s σ H E I hf st hg
  subst hP hw hK
  obtain⟨⟨old,he⟩,hit⟩:=st
  obtain⟨xs,hq,hx⟩:=hg
  obtain⟨its,rv,p,hz⟩:=I.list hq
  have hl:=rv.length
  refine wpAny_pyNext_enum_end (I.ok.hd hc) he hit p.isList (by simp;omega) λh' eb=>⟨rfl,turns (fp:=[e,it]) (t':=s.toks) I (λb o hb q=>eb b o (λz=>hb (by simp[z])) q) hf⟩
 self:=λ_ _ _ _ _ st h=>let ⟨_,he⟩:=st.1;wpAny_pyIter_enum he h
section
variable{X:Cx}{elts:List Expr}{k:Nat}{tp:Pos}
def Wv(K:PySem.W.Frag)(ta:TA):TI:=λσ H R=>ta σ H λvs H1=>∃a,vs=[.ref a]/\(∃xs,Ũ K H1 a xs)/\R (Ite K a) H1
def HW{l:Expr}{ta:TA}{p pos:Pos}(hg:Gl X "enumerate")(hm:X.mg "enumerate" =none)(ha:PA X [l] ta)(hs:starEach [l] X.env=[(false,eval l X.env)]:=by exact cW rfl):PI X (.Tuple elts k tp) (.Call (.Name "enumerate" p) [l] [] pos) (Wv X.K ta):=by
 intro pins s σ H R I h
 refine Call_ (oU I hg hm boot_enumerate (PyProof.Rows.callWith_type1 (Ň (ha pos pins s σ H _ I h) λus s1 ⟨vs,H1,I1,r1,q1⟩=>?_) hs rfl))
 obtain⟨a,e,⟨xs,hq⟩,q⟩:=q1
 subst e
 obtain⟨u,rfl,ru⟩:=r1.one
 cases ru
 obtain⟨its,rv,pl,hz⟩:=I1.list hq
 refine call_enumerate_list pl.isList λh' he hit hsz hk=>?_
 have I2:Inv X pins σ H1 {s1 with heap:=h'}:=I1.kept (t':=s1.toks) hk
 refine wpAny_pyIter_enum (s:={s1 with heap:=h'}) he ⟨s1.heap.objs.size+1,[s1.heap.objs.size+1,s1.heap.objs.size],_,_,H1,rfl,I2,zp a _ _ (Nat.succ_ne_self _),⟨⟨_,he⟩,hit⟩,λb hb=>?_,q⟩
 have hb':s1.heap.objs.size<=b:=by
  rcases List.mem_cons.mp hb with rfl|hb
  ·exact Nat.le_succ _
  ·have e':b=s1.heap.objs.size:=by simpa using hb
   exact Nat.le_of_eq e'.symm
 exact I1.yK hb' (I1.hok.fresh hb')
end
def rLs(K:KK):RR (List PV) V:=λc _ _ F H items v=>∃a,v=.ref a/\(∃xs,Ũ K.K H a xs)/\pJ K c.L F (Uh K.K a) items
def sO{K:KK}{L F:Hp}{ps:List PV}{v:V}(h:Rep K F (.lst ps) v):∃a,v=.ref a/\(∃xs,Ũ K.K F a xs)/\pJ K L F (Uh K.K a) ps:=by
 unfold Rep at h
 obtain⟨a,vs,rfl,e1,e2⟩:=h
 refine⟨a,rfl,⟨vs,e1⟩,?_⟩
 intro c' i F2 H2 σ2 ρ2 ī sF _
 have hq:Ũ K.K H2 a vs:=(sF.trans ī.sub).seq e1
 refine⟨λp hp=>?_,λhi=>⟨vs,hq,by rw[hi,e2.length];exact Nat.le_refl _⟩⟩
 obtain⟨u,hu,ru⟩:=aA e2.pr hp
 refine⟨⟨vs,u,hq,hu⟩,λx H' ⟨hH,hx⟩=>?_⟩
 subst hH
 have:vs[i]?=some x:=hx vs hq
 rw[hu] at this
 cases this
 exact⟨F2,ī,Same.refl _,Same.refl _,Rep.same sF p u ru⟩
def zq{K:KK}{c:Ctx}{F:Hp}{a:Addr}{vs:List V}{ps:List PV}(h2:c.L a=some (.lst vs))(h3:đ K F ps vs):pJ K c.L F (Uh K.K a) ps:=by
 intro c' j F2 H2 σ2 ρ2 ī sF sL
 have hq:Ũ K.K H2 a vs:=Ũ.of (sL a _ h2)
 refine⟨λp hp=>?_,λhi=>⟨vs,hq,by rw[hi,h3.length];exact Nat.le_refl _⟩⟩
 obtain⟨u,hu,ru⟩:=aA h3.pr hp
 refine⟨⟨vs,u,hq,hu⟩,λx H' ⟨hH,hx⟩=>?_⟩
 subst hH
 have:vs[j]?=some x:=hx vs hq
 rw[hu] at this
 cases this
 exact⟨F2,ī,Same.refl _,Same.refl _,Rep.same sF p u ru⟩
def HX(i:Nat):M (List PV):=λρ=>match ρ[i]? with
 |some (.bw ps)=>.ok ps ρ
 |some (.sh (.lst ps))=>.ok ps ρ
 |some (.ow ps)=>.ok ps (ρ.set i (.sh (.lst ps)))
 |_=>.bad
section
variable{X:Cx}{cm:String->Addr}{E:L2.St->XK}{e:Expr}{m:M PV}
def Ww(i:Nat){x:Str}{px:Pos}(hN:X.N[i]?=some x:=by rfl)(hv:uf X.env.scope x:=by first|exact Or.inl rfl|exact Or.inr (Or.inl rfl)|exact Or.inr (Or.inr rfl))(hd:(x== ("__debug__" :Str))=false:=by decide)
 (hcd:(x== ("__classdict__" :Str))=false:=by decide):PE X (.Name x px) (tG (kk X cm) E (rLs (kk X cm)) (HX i)):=PE.wk (au hN hv hd hcd) λσ H Q ⟨c,F,ρ,rel,h⟩=>by
 unfold HX at h
 cases e:ρ[i]? with
 |none=>rw[e] at h;exact h.elim
 |some sl=>
  rw[e] at h
  cases sl with
  |no=>exact h.elim
  |rc C ns ps=>exact h.elim
  |ot ps qs rs=>exact h.elim
  |ol zO=>exact h.elim
  |od _ _=>exact h.elim
  |bd _ _=>exact h.elim
  |ow ps=>
   obtain⟨a,vs,z1,z2,z3,z4⟩:=rel.share e
   obtain⟨a',e1,⟨xs,e2⟩,e3⟩:=sO (L:=c.L) z3
   cases e1
   exact⟨.ref a,z1,h _ _ H z4 (Same.upd z2) (Same.refl _) ⟨a,rfl,⟨xs,z4.sub.seq e2⟩,e3⟩⟩
  |bw ps=>
   obtain⟨a,vs,h1,h2,h3⟩:=rel.slot i _ e
   exact⟨.ref a,at_of h1,h _ F H rel (Same.refl _) (Same.refl _) ⟨a,rfl,⟨vs,Ũ.of (rel.lent a _ h2).1⟩,zq h2 h3⟩⟩
  |sh p=>
   obtain⟨v,h1,h2⟩:=rel.slot i _ e
   cases p with
   |lst ps=>
    obtain⟨a,e1,⟨xs,e2⟩,e3⟩:=sO (L:=c.L) h2
    exact⟨v,at_of h1,h v F H rel (Same.refl _) (Same.refl _) ⟨a,e1,⟨xs,rel.sub.seq e2⟩,e3⟩⟩
   |_=>exact h.elim
def fC:Nat->List PV->List PV
 |_,[]=>[]
 |k,p::ps=>.tup [.int k,p]::fC (k+1) ps
theorem nO:∀(k:Nat) (ps:List PV),(fC k ps).length=ps.length
 |_,[]=>rfl
 |k,_::ps=>congrArg (·+ 1) (nO (k+1) ps)
theorem nP:∀(k:Nat) (ps:List PV) (i:Nat),(fC k ps)[i]?=ps[i]?.map λp=>.tup [.int ((k+i:Nat):Int),p]
 |_,[],_=>rfl
 |k,p::ps,0=>rfl
 |k,p::ps,i+1=>by
  show(fC (k+1) ps)[i]?=_
  rw[nP (k+1) ps i,List.getElem?_cons_succ,show k+1+i=k+(i+1) by omega]
def Cz(m:M (List PV)):M (List PV):=λρ=>(m ρ).bind λps ρ1=>.ok (fC 0 ps) ρ1
def HY{K:KK}{c:Ctx}{F H:Hp}{σ:L2.St}{ρ:ļ}{T:Addr}{p q:PV}{x y:V}(rel:Rel K c F H σ ρ)(hT:H T=none)(r1:Rep K F p x)(r2:Rep K F q y):Rel K c (upd F T (.tup [x,y])) (upd H T (.tup [x,y])) σ ρ/\Rep K (upd F T (.tup [x,y])) (.tup [p,q]) (.ref T):=by
 have hF:=rel.sub.free hT
 refine⟨rel.alloc hT,?_⟩
 unfold Rep
 exact⟨T,[x,y],rfl,ĝ,đ.cons (Rep.same (Same.upd hF) p x r1) (đ.cons (Rep.same (Same.upd hF) q y r2) đ.nil)⟩
def zu{K:KK}{L F:Hp}{a:Addr}{ps:List PV}(h:pJ K L F (Uh K.K a) ps):pJ K L F (Ite K.K a) (fC 0 ps):=by
 intro c i F2 H σ ρ rel sF sL
 obtain⟨g,st⟩:=h c i F2 H σ ρ rel sF sL
 refine⟨λp hp=>?_,λhi=>st (by rw[hi,nO])⟩
 rw[nP] at hp
 cases eq:ps[i]? with
 |none=>rw[eq] at hp;cases hp
 |some q=>
  rw[eq] at hp
  have hp':PV.tup [.int ((0+i:Nat):Int),q]=p:=Option.some.inj hp
  subst hp'
  obtain⟨⟨xs,x,hq,hx⟩,g2⟩:=g q eq
  refine⟨⟨xs,x,hq,hx⟩,λy H' ⟨x',T,h1,hT,ey,eH⟩=>?_⟩
  subst ey eH
  obtain⟨F3,mG,s3,_,rp⟩:=g2 x' H ⟨rfl,h1⟩
  obtain⟨r1,r2⟩:=HY (p:=.int i) (x:=.int i) mG hT (by unfold Rep;rfl) rp
  refine⟨_,r1,s3.trans (Same.upd (mG.sub.free hT)),Same.upd hT,?_⟩
  rw[Nat.zero_add]
  exact r2
def Ro{elts:List Expr}{k:Nat}{tp p pos:Pos}{mi:M (List PV)}(hg:Gl X "enumerate")(hm:X.mg "enumerate" =none)(hl:PE X e (tG (kk X cm) E (rLs (kk X cm)) mi))(hs:starEach [e] X.env=[(false,eval e X.env)]:=by exact cW rfl) :
 PI X (.Tuple elts k tp) (.Call (.Name "enumerate" p) [e] [] pos) (tI (kk X cm) E (Cz mi)):=λpins s σ H R I h=>HW hg hm (gj hl oX hs) hs pins s σ H R I (by
 obtain⟨c,F,ρ,rel,h⟩:=h
 refine⟨c,F,ρ,rel,h.bind λps ρ1 v F1 H1 Đ s1 s2 q h1=>?_⟩
 obtain⟨a,e1,e2,e3⟩:=q
 subst e1
 exact⟨a,rfl,e2,h1 _ F1 H1 Đ (Same.refl _) (Same.refl _) (zu e3)⟩)
@[simp] theorem Zak{mi:M (List PV)}{ρ:ļ}:Cz mi ρ=(mi ρ).bind λps ρ1=>.ok (fC 0 ps) ρ1:=rfl
@[simp] theorem ZbT{i:Nat}{ρ:ļ}:HX i ρ=(match ρ[i]? with
  |some (.bw ps)=>.ok ps ρ
  |some (.sh (.lst ps))=>.ok ps ρ
  |some (.ow ps)=>.ok ps (ρ.set i (.sh (.lst ps)))
  |_=>.bad):=rfl
end
end P
namespace P
open PySem PySem.Spec PyProof.Rows L2 M2 M3 M4
def Wx{X:Cx}:PIp X .BitOr (ipI λi j=>Builtin.bitOr i j):=by
 intro pins s σ H x y v u Q I r1 r2 h
 obtain⟨i,j,e1,e2,q⟩:=h
 subst e1;subst e2
 obtain⟨t,rfl⟩:=r1
 obtain⟨t',rfl⟩:=r2
 exact ior_int ⟨.int _,H,I.tok _,⟨_,rfl⟩,q⟩
def sS(i:Nat)(m:M PV):M Fl:=λρ=>match ρ[i]? with
 |some (.sh (.int _))=>(m ρ).bind λq ρ1=>match ρ1[i]?,q with
  |some (.sh (.int k)),.int j=>.ok .nx (ρ1.set i (.sh (.int (Builtin.bitOr k j))))
  |_,_=>.bad
 |_=>.bad
@[simp] theorem Zal{i:Nat}{m:M PV}{ρ:ļ}:sS i m ρ=(match ρ[i]? with
  |some (.sh (.int _))=>(m ρ).bind λq ρ1=>match ρ1[i]?,q with
   |some (.sh (.int k)),.int j=>.ok .nx (ρ1.set i (.sh (.int (Builtin.bitOr k j))))
   |_,_=>.bad
  |_=>.bad):=rfl
section
variable{X:Cx}{cm:String->Addr}{E:L2.St->XK}{e a b:Expr}{m ma mb:M PV}{pos:Pos}
def pZ{K:KK}{F:Hp}{i:Int}{v:V}(h:Rep K F (.int i) v):v=.int i:=by unfold Rep at h;exact h
def CG{i:Nat}{x:Str}{pos':Pos}(hN:X.N.Nodup)(hi:X.N[i]?=some x)(hx:Loc X.env.scope x)(he:PE X e (tV (kk X cm) E m))(hf:X.fn x=true\/X.env.scope.names.lookup x=some .local:=by first|exact .inl rfl|exact .inr rfl|assumption) :
 PS X (.AugAssign (.Name x pos') .BitOr e pos) (tS (kk X cm) E (sS i m)):=PS.wk (Ph hN hi hx he Wx hf) λD σ H ⟨c,F,ρ,rel,h⟩=>by
 unfold sS at h
 cases e1:ρ[i]? with
 |none=>rw[e1] at h;exact h.elim
 |some sl=>
  rw[e1] at h
  cases sl with
  |sh p=>
   cases p with
   |int k0=>
    obtain⟨v,h1,h2⟩:=rel.slot i _ e1
    cases pZ h2
    refine⟨.int k0,at_of h1,c,F,ρ,rel,Ŋ.bind h λq ρ1 u F1 H1 Đ s1 rq h1'=>?_⟩
    cases e2:ρ1[i]? with
    |none=>simp only[e2] at h1';exact h1'.elim
    |some sl2=>
     simp only[e2] at h1'
     cases sl2 with
     |sh p2=>
      cases p2 with
      |int k=>
       cases q with
       |int j=>
        obtain⟨v2,w1,w2⟩:=Đ.slot i _ e2
        cases pZ w2
        rw[h1] at w1
        cases w1
        cases pZ rq
        exact⟨k0,j,rfl,rfl,h1' _ F1 H1 (Đ.put rfl ⟨_,rfl,Rep.int⟩) (Same.refl _)⟩
       |_=>exact h1'.elim
      |_=>exact h1'.elim
     |_=>exact h1'.elim
   |_=>exact h.elim
  |_=>exact h.elim
end
section
variable{X:Cx}{K:KK}
end
end P
namespace P
open PySem PySem.Spec PyProof.Rows L2 M2 M3 M4
section
variable{prog:Program}{w:World}{A:Around}{E:Value->Shared->Prop}{s:Shared}
end
section
variable{prog:Program}{w:World}{A:Around}{E:Value->Shared->Prop}{s:Shared}
end
section
variable{prog:Program}{w:World}{A:Around}{E:Value->Shared->Prop}{s:Shared}
end
def Jw(b:Bool)(h:Heap)(it l:Addr)(i:Nat):Prop:=if b=true then h.IsTupleIter it l i else h.IsListIter it l i
def nmB(b:Bool):String:=if b=true then "tuple_iterator" else "list_iterator"
def Jw.ex{b:Bool}{h:Heap}{it l:Addr}{i:Nat}(x:Jw b h it l i):∃o,h.get? it=some o/\o.cls=.type (nmB b)/\o.data=.fields #[.ref l,.int i 0]:=by
 cases b with
 |true=>exact x
 |false=>exact x
section
variable{X:Cx}{pins:List (Addr×Obj)}{σ:L2.St}{H:Hp}{s:Shared}
end
section
variable{prog:Program}{w:World}{A:Around}{E:Value->Shared->Prop}{s:Shared}
end
section
variable{X:Cx}{elts:List Expr}{k:Nat}{tp:Pos}
end
section
variable{X:Cx}{cm:String->Addr}{E:L2.St->XK}{e e2:Expr}
end
end P
namespace P
open PySem PySem.Spec PyProof.Rows L2 M2 M3 M4
def Wy(K:PySem.W.Frag)(neg:Bool):R2:=λx y H Q=>∃d es a xs,Rp K H d x/\y=.ref a/\(Ũ K H a xs\/cL K H a xs)/\iB K H es xs/\d.canLay0=true/\PyData.canLayAll0 es=true/\d.depth<=60/\Q (.bl (if neg then !(es.any λe=>PyData.eqv e d) else es.any λe=>PyData.eqv e d)) H
open Classical in
noncomputable def Fv(h:Heap)(d:PyData)(y:Value):Bool:=if ∃e as,Reads h y e as/\e.canLay0=true/\PyData.eqv e d=true then true else false
def CJ{h:Heap}{d e:PyData}{y:Value}{as:List Addr}(r:Reads h y e as)(hc:e.canLay0=true):Fv h d y=PyData.eqv e d:=by
 unfold Fv
 cases q:PyData.eqv e d with
 |true=>rw[if_pos ⟨e,as,r,hc,q⟩]
 |false=>
  rw[if_neg]
  rintro ⟨e',as',r',hc',q'⟩
  have:=SeqAt.Reads.unique e e' y as as' hc r r'
  subst this
  rw[q] at q'
  cases q'
theorem qb{h:Heap}{d:PyData}:∀{us:List Value} {es:List PyData} {as:List Addr},ReadsAll h us es as->PyData.canLayAll0 es=true->us.any (Fv h d)=es.any λe=>PyData.eqv e d
 |_,_,_,.nil,_=>rfl
 |_,_,_,.cons r rs,hc=>by
  unfold PyData.canLayAll0 at hc
  rw[Bool.and_eq_true] at hc
  rw[List.any_cons,List.any_cons,CJ r hc.1,qb rs hc.2]
theorem qd{A:Around}{s:Shared}{d:PyData}{v:Value}{bs:List Addr}(rv:Reads s.heap v d bs)(hd:d.canLay0=true)(hu:A.units+d.depth<cLine):∀{us:List Value} {es:List PyData} {as:List Addr},ReadsAll s.heap us es as->PyData.canLayAll0 es=true->∀u∈us,SeqAt.EqAt A s u v (Fv s.heap d u)
 |_,_,_,.nil,_=>λu hu=>by cases hu
 |_,_,_,.cons r rs,hc=>λu hm=>by
  unfold PyData.canLayAll0 at hc
  rw[Bool.and_eq_true] at hc
  rcases List.mem_cons.mp hm with rfl|hm
  ·rw[CJ r hc.1]
   exact SeqAt.eqAt_reads _ _ A s _ _ _ _ r rv hc.1 hd (by omega)
  ·exact qd rv hd hu rs hc.2 u hm
section
variable{X:Cx}
def zx(hu:X.A.units+64<cLine):ş X (compareOp .NotIn) (Wy X.K true):=by
 intro pins s σ H x y v u Q I rx ry h
 obtain⟨d,es,a,xs,h1,rfl,hq,h3,h4,h5,h6,q⟩:=h
 cases ry
 obtain⟨as,ra⟩:=Rp.reads I d x v h1 rx
 have hu1:X.A.in1.units+d.depth<cLine:=by
  have:X.A.in1.units=X.A.units+1:=rfl
  omega
 rcases hq with hq|hq
 ·obtain⟨its,r,pl,hz⟩:=I.list hq
  obtain⟨bs,rb⟩:=iB.reads I es xs its h3 r
  refine SeqAt.notIn_listAt (Fv s.heap d) pl.isList (λw hw=>qd ra h4 hu1 rb h5 w (by simpa using hw)) ⟨.bl _,H,I,rfl,?_⟩
  rw[show its.toArray.any (Fv s.heap d)=its.any (Fv s.heap d) by simp,qb rb h5]
  exact q
 ·obtain⟨its,r,pl,hz⟩:=I.tuple hq
  obtain⟨bs,rb⟩:=iB.reads I es xs its h3 r
  refine SeqAt.notIn_tupleAt (Fv s.heap d) pl (λw hw=>qd ra h4 hu1 rb h5 w (by simpa using hw)) ⟨.bl _,H,I,rfl,?_⟩
  rw[show its.toArray.any (Fv s.heap d)=its.any (Fv s.heap d) by simp,qb rb h5]
  exact q
end
def inD(neg:Bool)(p q:PV):Option PV:=match q with
 | .lst ps=>if Ŝ p && aK ps && decide (dep p<=60) then some (.bl (if neg then !(ps.any λy=>eqB y p) else ps.any λy=>eqB y p)) else none
 | .tup ps=>if Ŝ p && aK ps && decide (dep p<=60) then some (.bl (if neg then !(ps.any λy=>eqB y p) else ps.any λy=>eqB y p)) else none
 |_=>none
theorem qe{p:PV}(h:Ŝ p=true):∀{ps:List PV},aK ps=true->(bD ps).any (λe=>PyData.eqv e (toD p))=ps.any λy=>eqB y p
 | [],_=>rfl
 |y::ps,hp=>by
  unfold aK at hp
  rw[Bool.and_eq_true] at hp
  unfold bD
  rw[List.any_cons,List.any_cons,pQ y p hp.1 h,qe h hp.2]
def Rq{K:KK}{neg:Bool}:iu K (Wy K.K neg) (inD neg):=by
 intro c F H σ ρ p q pv v u Q rel r1 r2 e k
 unfold inD at e
 split at e
 ·rename_i ps
  split at e
  ·rename_i hc
   rw[Bool.and_eq_true,Bool.and_eq_true,decide_eq_true_eq] at hc
   cases e
   obtain⟨a,xs,rfl,h1,h2⟩:=r2.lst rel.sub
   refine⟨toD p,bD ps,a,xs,dZ rel.sub hc.1.1 r1,rfl,.inl h1,iB.same rel.sub _ _ (dY ps xs hc.1.2 h2),bR p hc.1.1,dF ps hc.1.2,by rw[bT];exact hc.2,?_⟩
   rw[qe hc.1.1 hc.1.2]
   exact k _ F H rel (Same.refl _) (Same.refl _) Rep.bl
  ·cases e
 ·rename_i ps
  split at e
  ·rename_i hc
   rw[Bool.and_eq_true,Bool.and_eq_true,decide_eq_true_eq] at hc
   cases e
   obtain⟨a,xs,rfl,h1,h2⟩:=r2.tup rel.sub
   refine⟨toD p,bD ps,a,xs,dZ rel.sub hc.1.1 r1,rfl,.inr h1,iB.same rel.sub _ _ (dY ps xs hc.1.2 h2),bR p hc.1.1,dF ps hc.1.2,by rw[bT];exact hc.2,?_⟩
   rw[qe hc.1.1 hc.1.2]
   exact k _ F H rel (Same.refl _) (Same.refl _) Rep.bl
  ·cases e
 ·cases e
end P
namespace P
open PySem PySem.Spec PyProof.Rows L2 M2 M3 M4
def qg{x:Int}{n:Nat}(h1: -(2 ^ n:Int)<x)(h2:x<2 ^ n):bits x<=n:=by
 refine intBits_le_iff.mpr ?_
 have e:((2 ^ n:Nat):Int)=(2:Int) ^ n:=by simp
 have:((x.natAbs:Nat):Int)<((2 ^ n:Nat):Int):=by rw[e];omega
 omega
def Wz{x y:Int}(h:y≠0)(h1: -18446744073709551616<y)(h2:y<18446744073709551616):dD x y=true:=sI h (Nat.le_trans (qg (n:=64) (by omega) (by omega)) (by decide))
@[simp] theorem Zam{x:Int}{n:Nat}(h:n≠0)(h2:n<18446744073709551616):dD x (no_index (OfNat.ofNat n):Int)=true:=by
  have e:(no_index (OfNat.ofNat n):Int)=(n:Int):=rfl
  rw[e]
  exact Wz (by omega) (by omega) (by omega)
@[simp] theorem WD{x:Int}{n:Nat}(h:n<18446744073709551616):ŋ x (no_index (OfNat.ofNat n):Int)=true:=by
  have e:(no_index (OfNat.ofNat n):Int)=(n:Int):=rfl
  rw[e]
  exact mul_r (by omega) (by omega)
@[simp] theorem WK{x:Int}{n:Nat}(h:n<18446744073709551616):ŋ (no_index (OfNat.ofNat n):Int) x=true:=by
  have e:(no_index (OfNat.ofNat n):Int)=(n:Int):=rfl
  rw[e]
  exact ſ (by omega) (by omega)
@[simp] theorem Zan{m n:Nat}(h:m<18446744073709551616)(h2:n≤1000000):rY (no_index (OfNat.ofNat m):Int) (no_index (OfNat.ofNat n):Int)=true:=by
  have e:(no_index (OfNat.ofNat m):Int)=(m:Int):=rfl
  have e2:(no_index (OfNat.ofNat n):Int)=(n:Int):=rfl
  rw[e,e2]
  unfold rY
  simp
  omega
@[simp] theorem WL{x:Int}{n:Nat}:x.fdiv (no_index (OfNat.ofNat n):Int)=x / (no_index (OfNat.ofNat n):Int):=Int.fdiv_eq_ediv_of_nonneg x (Int.natCast_nonneg n)
@[simp] theorem WM{x:Int}{n:Nat}:x.fmod (no_index (OfNat.ofNat n):Int)=x % (no_index (OfNat.ofNat n):Int):=Int.fmod_eq_emod_of_nonneg x (Int.natCast_nonneg n)
end P
namespace P
open PySem PySem.Spec PyProof.Rows L2 M2 M3 M4
def add_l{xs ys:List PV}(h:xs.length+ys.length<=16777216):ġ (.lst xs) (.lst ys)=some (.ow (xs++ys)):=by
 unfold ġ
 simp[h]
def Rr{x y z w:Int}:eqB (.tup [.int x,.int y]) (.tup [.int z,.int w])=(decide (x=z) && decide (y=w)):=by
 rw[eqB.eq_def]
 show bQ [.int x,.int y] [.int z,.int w]=_
 rw[bQ.eq_def]
 show(eqB (.int x) (.int z) && bQ [.int y] [.int w])=_
 rw[bQ.eq_def]
 show(eqB (.int x) (.int z) && (eqB (.int y) (.int w) && bQ [] []))=_
 have h1:eqB (.int x) (.int z)=decide (x=z):=by rw[eqB.eq_def];rfl
 have h2:eqB (.int y) (.int w)=decide (y=w):=by rw[eqB.eq_def];rfl
 have h3:bQ [] []=true:=by rw[bQ.eq_def]
 rw[h1,h2,h3,Bool.and_true]
mutual
theorem sU:∀p:PV,Ŝ p=true->eqB p p=true
 | .non,_=>by unfold eqB;rfl
 | .bl b,_=>by unfold eqB;simp
 | .int i,_=>by unfold eqB;simp
 | .str x,_=>by unfold eqB;simp
 | .lst xs,h=>by unfold Ŝ at h;unfold eqB;exact iG xs h
 | .tup xs,h=>by unfold Ŝ at h;unfold eqB;exact iG xs h
 | .ins _ _ _,h=>by simp[Ŝ] at h
 | .xc _ _ _,h=>by simp[Ŝ] at h
 | .ty _,h=>by simp[Ŝ] at h
 | .cls _,h=>by simp[Ŝ] at h
 | .cM _ _,h=>by simp[Ŝ] at h
theorem iG:∀ps:List PV,aK ps=true->bQ ps ps=true
 | [],_=>by unfold bQ;rfl
 |p::ps,h=>by
  unfold aK at h
  rw[Bool.and_eq_true] at h
  unfold bQ
  rw[sU p h.1,iG ps h.2]
  rfl
end
def į{a b:Str}(ha:PyData.strOk a=true)(hb:PyData.strOk b=true):ř (.str a) (.str b)=some (.bl (decide (a=b))):=by
 have h:eqB (.str a) (.str b)=decide (a=b):=by unfold eqB;rfl
 unfold ř pU
 rw[show Ŝ (.str a)=true by unfold Ŝ;exact ha,show Ŝ (.str b)=true by unfold Ŝ;exact hb,h]
 rfl
end P
namespace P
open PySem PySem.Spec PyProof.Rows L2 M2 M3 M4
section
variable{g:Tg}{mb:M Fl}{mt:M Bool}{me:M PV}
theorem eE{α β:Type}(c:α->PV)(step:β->α->β)(J:β->ļ->Prop):∀(xs:List α),(∀x∈xs,∀b ρ,J b ρ->∃ρ1 ρ2,g (c x) ρ=some ρ1/\mb ρ1=.ok .nx ρ2/\J (step b x) ρ2)->∀b ρ,J b ρ->∃ρ',forL g mb (xs.map c) ρ=.ok .nx ρ'/\J (xs.foldl step b) ρ'
 | [],_,b,ρ,h=>⟨ρ,rfl,h⟩
 |x::xs,hs,b,ρ,h=>by
  obtain⟨ρ1,ρ2,h1,h2,h3⟩:=hs x (by simp) b ρ h
  obtain⟨ρ',e,h4⟩:=eE c step J xs (λy hy=>hs y (List.mem_cons_of_mem _ hy)) (step b x) ρ2 h3
  refine⟨ρ',?_,h4⟩
  rw[List.map_cons,forL,h1]
  dsimp only
  rw[h2]
  exact e
theorem nQ{α γ:Type}(c:α->PV)(t:α->Option γ)(v:γ->RV)(J:ļ->Prop):∀(xs:List α),(∀x∈xs,∀ρ,J ρ->∃ρ1,g (c x) ρ=some ρ1/\((∃r ρ2,t x=some r/\mb ρ1=.ok (.rt (v r)) ρ2)\/(∃ρ2,t x=none/\mb ρ1=.ok .nx ρ2/\J ρ2)))->∀ρ,J ρ->
 (∃r ρ',xs.findSome? t=some r/\forL g mb (xs.map c) ρ=.ok (.rt (v r)) ρ')\/(∃ρ',xs.findSome? t=none/\forL g mb (xs.map c) ρ=.ok .nx ρ'/\J ρ')
 | [],_,ρ,h=>.inr ⟨ρ,rfl,rfl,h⟩
 |x::xs,hs,ρ,h=>by
  obtain⟨ρ1,h1,h2⟩:=hs x (by simp) ρ h
  rcases h2 with⟨r,ρ2,e1,e2⟩|⟨ρ2,e1,e2,e3⟩
  ·refine .inl ⟨r,ρ2,by rw[List.findSome?_cons,e1],?_⟩
   rw[List.map_cons,forL,h1]
   dsimp only
   rw[e2]
   rfl
  ·have hf:List.findSome? t (x::xs)=List.findSome? t xs:=by rw[List.findSome?_cons,e1]
   have hl:forL g mb ((x::xs).map c) ρ=forL g mb (xs.map c) ρ2:=by
    rw[List.map_cons,forL,h1]
    dsimp only
    rw[e2]
    rfl
   rw[hf,hl]
   exact nQ c t v J xs (λy hy=>hs y (List.mem_cons_of_mem _ hy)) ρ2 e3
end
end P
namespace P
open PySem PySem.Spec PyProof.Rows L2 M2 M3 M4
def ZbU(K:PySem.W.Frag)(n:Nat)(t:Ab):TG:=λv σ H Q=>∃a xs,v=.ref a/\Ũ K H a xs/\xs.length=n/\t xs σ H Q
section
variable{X:Cx}{cm:String->Addr}{pos:Pos}
def Rt{es:List Expr}{k:Nat}{t:Ab}{n:Nat}(hc:X.calm=true)(h:q_ X es t)
 (hn:(assignEach es X.env).length=n:=by rfl)(hst:(assignEach es X.env).findIdx? (·.1)=none:=by rfl):PG X (.Tuple es k pos) (ZbU X.K n t):=by
 intro pins s σ H v u Q I r hw
 obtain⟨a,xs,e1,hq,hl,hw⟩:=hw
 subst e1
 cases r
 obtain⟨its,rv,ht,hz⟩:=I.list hq
 rw[assign_Tuple]
 refine wpAny_bind (wpAny_standAt ?_)
 unfold unpack
 rw[show(assignEach es X.env).length=its.toArray.size by simp[hn,<-hl,rv.length],hst]
 refine wpAny_bind (wpAny_holding (PySem.W.kun_itemsOf (I.ok.hd hc) ht.isList λh' hx=>?_))
 have I1:Inv X pins σ H {s with heap:=h'}:=I.kept (t':=s.toks) λb o e=>hx b o (Nat.ne_of_lt (Heap.lt_size e)) e
 exact h pins _ σ H xs _ Q I1 (by simpa using rv) hw
def gS(n:Nat)(gs:uh):Tg:=λp ρ=>match p with
 | .tup ps=>if ps.length=n then gs ps ρ else none
 | .lst ps=>if ps.length=n then gs ps ρ else none
 |_=>none
@[simp] theorem ZbV{n:Nat}{gs:uh}{ps:List PV}{ρ:ļ}:gS n gs (.tup ps) ρ=if ps.length=n then gs ps ρ else none:=rfl
@[simp] theorem ZbW{n:Nat}{gs:uh}{ps:List PV}{ρ:ļ}:gS n gs (.lst ps) ρ=if ps.length=n then gs ps ρ else none:=rfl
def Jx{es:List Expr}{k:Nat}{gs:uh}{n:Nat}(hc:X.calm=true)(h:q_ X es (QL (kk X cm) gs))(hn:(assignEach es X.env).length=n:=by rfl)(hst:(assignEach es X.env).findIdx? (·.1)=none:=by rfl):PG X (.Tuple es k pos) (tT (kk X cm) (gS n gs)):=by
 intro pins s σ H v u Q I r hw
 obtain⟨c,F,ρ,p,rel,rp,hw⟩:=hw
 cases p with
 |tup ps=>
  unfold Rep at rp
  obtain⟨a,xs,h1,h2,h3⟩:=rp
  unfold gS at hw
  dsimp only at hw
  split at hw
  ·rename_i hl
   exact ur hc h hn hst pins s σ H v u Q I r ⟨a,xs,h1,cL.of (rel.sub _ _ h2),by rw[<-h3.length];exact hl,c,F,ρ,ps,rel,h3,hw⟩
  ·exact hw.elim
 |lst ps=>
  unfold Rep at rp
  obtain⟨a,xs,h1,h2,h3⟩:=rp
  unfold gS at hw
  dsimp only at hw
  split at hw
  ·rename_i hl
   exact Rt hc h hn hst pins s σ H v u Q I r ⟨a,xs,h1,rel.sub.seq h2,by rw[<-h3.length];exact hl,c,F,ρ,ps,rel,h3,hw⟩
  ·exact hw.elim
 |_=>exact hw.elim
end
end P
namespace P
open PySem PySem.Spec PyProof.Rows L2 M2 M3 M4
section
variable{X:Cx}{cm:String->Addr}{E:L2.St->XK}{a:Expr}{p p1 pos pos1:Pos}{mr:M (List PV)}
end
end P
namespace P
open PySem PySem.Spec PyProof.Rows L2 M2 M3 M4
section
variable{X:Cx}{cm:String->Addr}{E:L2.St->XK}{e o:Expr}{es:List Expr}{pos:Pos}{m:M Bool}{mo:M RV}{ma:M PV}
@[simp] theorem ZbX{ps qs rs:List PV}:(RV.ot ps qs rs).val=.tup (ps ++ .lst qs::rs):=rfl
@[simp] theorem ZbY{ps qs rs:List PV}:(RV.ot ps qs rs).slot=.ot ps qs rs:=rfl
end
end P
namespace P
open PySem PySem.Spec PyProof.Rows L2 M2 M3 M4
section
variable{X:Cx}{K:KK}
end
end P
namespace P
open PySem PySem.Spec PyProof.Rows L2 M2 M3 M4
section
variable{K:KK}{c c':Ctx}{F F' H H':Hp}{σ:L2.St}{ρ:ļ}
end
section
variable{X:Cx}{cm:String->Addr}{E:L2.St->XK}{elt tg iter:Expr}{ifs:List Expr}{scope:Scope}{pos:Pos}{mi:M (List PV)}{g:Tg}{mt:M Bool}{me:M RV}
end
section
variable{K:KK}{c:Ctx}{F H:Hp}{σ:L2.St}{ρ:ļ}
end
section
variable{X:Cx}{cm:String->Addr}{E:L2.St->XK}{e:Expr}{es:List Expr}{m:M Bool}{mv:M PV}{ms:M (List Slot)}
end
end P
namespace P
open PySem PySem.Spec PyProof.Rows L2 M2 M3 M4
section
variable{X:Cx}{K:KK}
end
section
variable{ρ:ļ}{i x j:Nat}{m:M Bool}{mv:M PV}{ms:M (List Slot)}{mp:M (List (List PV))}{g:Tg}{mt:M Bool}{me:M RV}{mi:M (List PV)}{js:List Nat}{nl:Nat}
end
end P
namespace P
open PySem PySem.Spec PyProof.Rows L2 M2 M3 M5
section
variable{K:KK}{c:Ctx}{F H:Hp}{σ:L2.St}{ρ:ļ}
end
section
variable{X:Cx}{cm:String->Addr}{E:L2.St->XK}{x px:Str}{c Pt:Addr}{params:Arguments}{body e:Expr}{scope:Scope}{p pos QF kpos:Pos}{mr:M (List PV)}{me:M PV}
end
section
variable{P:Program}{w:World}{K:PySem.W.Frag}{cm:String->Addr}{mg:Str->Option Value}{base:Heap}{CX:gk}
end
section
variable{js:List Nat}{me:M PV}{mr:M (List PV)}{ρ:ļ}
end
end P
namespace P
open PySem PySem.Spec PyProof.Rows L2 M2 M3 M5
end P
namespace P
open PySem PySem.Spec PyProof.Rows L2 M2 M3 M5
section
variable{X:Cx}{cm:String->Addr}{E:L2.St->XK}{CX:gk}{k n:Nat}{f:Addr}{fd:FuncData}{ps:List Str}{mf:MF}{mr:M (List Slot)}{x:Str}{p pos:Pos}{e:Expr}{es:List Expr}{ds:List Value}{dvs:List V}{dps:List Slot}
end
end P
namespace P
open PySem PySem.Spec PyProof.Rows L2 M2 M3 M5
def BN:Nat->(List Value->Prop)->Prop
 |0,p=>p []
 |n+1,p=>∀u,BN n λus=>p (u::us)
theorem qj:∀{n:Nat} {p:List Value->Prop},BN n p->∀us,us.length=n->p us
 |0,p,h,[],_=>h
 |0,p,h,_::_,e=>by cases e
 |n+1,p,h,[],e=>by cases e
 |n+1,p,h,u::us,e=>qj (h u) us (Nat.succ.inj e)
structure Df(K:PySem.W.Frag)(mg:Str->Option Value)(x:Str)(st:Stmt)(ps:List Str)(f:Addr)(fd:FuncData):Prop where
 F:Gs K x x st f fd
 m:mg x=some (.ref f)
 b:Binds K fd ps []
 bb:∀(s:Shared) (us:List Value),us.length=ps.length->BindsTo s fd ⟨us,[]⟩ (ps.zip us)
structure Dm(K:PySem.W.Frag)(C:Addr)(x q:Str)(st:Stmt)(ps:List Str)(f:Addr)(fd:FuncData):Prop where
 F:Gs K x q st f fd
 b:Binds K fd ps []
section
variable{K:PySem.W.Frag}{h:Heap}{mg:Str->Option Value}{x q:Str}{st:Stmt}{ps:List Str}{f C:Addr}{oc kV dc pm cd ct:Value}{od an:Option Addr}{sl:Array (Option Value)}
def ĳ(X:K.In h)(G:h.Ns mainGlobals mg)(hb:∀(kV dc pm:Value) (an:Option Addr) (cd ct:Value),BN ps.length λus=>bindArgs (PySem.W.fnOf x x (ŷ st) (œ st) (ć st) .none kV dc pm an cd ct) ⟨us,[]⟩=pure (ps.zip us))
 (a:PySem.W.nsIn K mainGlobals x=some (some (.ref f)))(l:K.lookup f=some ⟨oc,od,.func (PySem.W.fnOf x x (ŷ st) (œ st) (ć st) .none kV dc pm an cd ct),sl⟩)(c:PySem.W.codeIn K cd x=true)(k:PySem.W.keepIn K (.ref f)=true) :
 Df K mg x st ps f (PySem.W.fnOf x x (ŷ st) (œ st) (ć st) .none kV dc pm an cd ct):=
 have F:=Ax (st:=st) l c k
 ⟨F,PySem.W.mg_of X G a,F.binds λkV dc pm an cd ct us hl=>qj (hb kV dc pm an cd ct) us hl,λs us hl=>.of_eq (qj (hb kV dc pm an cd ct) us hl)⟩
def kY(hb:∀(kV dc pm:Value) (an:Option Addr) (cd ct:Value),BN ps.length λus=>bindArgs (PySem.W.fnOf x q (ŷ st) (œ st) (ć st) .none kV dc pm an cd ct) ⟨us,[]⟩=pure (ps.zip us))
 (a:PySem.W.findIn K (.ref C) x=some (some (.ref f)))(l:K.lookup f=some ⟨oc,od,.func (PySem.W.fnOf x q (ŷ st) (œ st) (ć st) .none kV dc pm an cd ct),sl⟩)(c:PySem.W.codeIn K cd q=true)(k:PySem.W.keepIn K (.ref f)=true) :
 Dm K C x q st ps f (PySem.W.fnOf x q (ŷ st) (œ st) (ć st) .none kV dc pm an cd ct):=
 have F:=Ax (st:=st) l c k
 ⟨F,F.binds λkV dc pm an cd ct us hl=>qj (hb kV dc pm an cd ct) us hl⟩
end
end P
namespace P
open PySem PySem.Spec PyProof.Rows L2 M2 M3 M5
def aJ{N ps:List Str}{sc:Scope}(h1:sc.kind=.function:=by rfl)(h2:sc.isCoroutine=false:=by rfl)(h3:sc.isGenerator=false:=by rfl)(h4:N.Nodup:=by decide +kernel)(h5:N.take ps.length=ps:=by rfl)(h6:∀x∈ps,sc.names.lookup x=some .local\/sc.names.lookup x=some .cell:=by decide +kernel)
 (h7:∀y∈sc.names,y.2≠ .free:=by decide +kernel):ď N ps sc:=⟨h1,h2,h3,h4,h5,h6,h7⟩
section
variable{X:Cx}{cm:String->Addr}{E:L2.St->XK}{CX:gk}{k j n:Nat}{f:Addr}{fd:FuncData}{ps:List Str}{mf:MF}{mr:M (List Slot)}{x:Str}{st:Stmt}{p pos:Pos}{e:Expr}{es:List Expr}
def ĉ(F:ĥ X.prog X.w X.K X.mg X.base CX k f fd ps (ű (kk X cm) n mf))(D:Df X.K X.mg x st ps f fd)(hr:Ţ j X.A)(hx:bO CX X E)
 (ha:PA X (e::es) (tA (kk X cm) E mr))(hlen:∀{ps:List Slot},(∃r,mf ps=r/\∀z,r=z->z≠ .bad)->ps.length=n:=by exact bC)(hg:Gl X x:=by rfl)(hkj:k<=j:=by decide)(hdb:(x== ("__debug__" :Str))=false:=by decide)(he:starEach (e::es) X.env=(false,eval e X.env)::starEach es X.env:=by exact cW rfl)(hpl:(backTo pos (starEach es X.env)).any (·.1)=false:=by rfl) :
 PE X (.Call (.Name x p) (e::es) [] pos) (tO (kk X cm) E (Ď mf mr)):=QS F hlen (hr.mono hkj) hg D.m D.F.kp D.b hx ha hdb he hpl
end
section
variable{Pg:Program}{w:World}{K:PySem.W.Frag}{mg:Str->Option Value}{base:Heap}{CX:gk}{cm:String->Addr}
def ń{x qual:Str}{st:Stmt}{f:Addr}{fd:FuncData}{N ps:List Str}{k n j:Nat}{mb:M Fl}{mf:MF}(F:Gs K x qual st f fd)(S:ď N ps (ć st))
 (hbody:∀(cdv:Value) (A:Around) (outer:List Env) (s:Shared) (H:Hp) (E:XK),Ţ k (A.deeper (envOfC qual (ć st) s.heap.objs.size f cdv))→(A.deeper (envOfC qual (ć st) s.heap.objs.size f cdv)).units+64<cLine→
   eV (oY CX Pg w K mg base N qual (ć st) f cdv A outer s H E) (œ st) (tS ⟨K,cm⟩ (λ_=>E) mb))(hn:ps.length=n:=by rfl)(hj:N.length=j:=by rfl)(hf:mf=Ļ n j mb:=by rfl):ĥ Pg w K mg base CX (k+1) f fd ps (ű ⟨K,cm⟩ n mf):=
 fnQ F S hn hj hf λcdv A outer s H E hr=>hbody cdv A outer s H E hr hr.units
end
end P
namespace P
open PySem PySem.Spec PyProof.Rows L2 M2 M3 M4
section
variable{X:Cx}{cm:String->Addr}{E:L2.St->XK}{e:Expr}{m:M PV}
end
end P
namespace P
open PySem PySem.Spec PyProof.Rows L2 M2 M3 M4
def tgN:Expr->List Str
 | .Name x _=>[x]
 | .Tuple es _ _=>es.flatMap fun e=>match e with
   | .Name x _=>[x]
   |_=>[]
 |_=>[]
def cN(X:Cx)(js:List Nat)(tg:Expr):List Str:=js.map (λ(j:Nat)=>(X.N[j]?).getD "")++tgN tg
def ndB{l:List Str}(h:decide l.Nodup=true):l.Nodup:=of_decide_eq_true h
def frB{a b:Scope}(h:(a.names.all λy=>decide (y.2=.free->(b.names.lookup y.1=some .cell\/b.names.lookup y.1=some .free)))=true):∀y∈a.names,y.2=.free->(b.names.lookup y.1=some .cell\/b.names.lookup y.1=some .free):=λy hy=>of_decide_eq_true (List.all_eq_true.mp h y hy)
section
variable{X:Cx}{cm:String->Addr}{E:L2.St->XK}{elt tg iter:Expr}{ifs:List Expr}{scope:Scope}{pos:Pos}{mi:M (List PV)}{g:Tg}{mt:M Bool}{me:M PV}{js:List Nat}{nl:Nat}
end
end P
namespace P
open PySem PySem.Spec PyProof.Rows L2 M2 M3 M4
section
variable{X:Cx}
end
section
variable{X:Cx}{cm:String->Addr}{K:KK}{E:L2.St->XK}{o e:Expr}{es:List Expr}{name:Str}{apos cpos:Pos}{id:String}{r:V->List V->Hp->VK->Prop}{f:PV->List PV->Option PV}{mo:M PV}{ms:M (List PV)}
end
end P
namespace P
open PySem PySem.Spec PyProof.Rows L2 M2 M3 M4
section
variable{X:Cx}{cm:String->Addr}{E:L2.St->XK}{a b e:Expr}{es:List Expr}{ma mb m:M PV}{mo:M RV}{pos p:Pos}
def Ą{i j pos}:PE X (.Constant (.int i) j pos) (tR (kk X cm) E (mC (.int i))):=ğ Ĝ
def WQ{j pos}:PE X (.Constant .none j pos) (tR (kk X cm) E (mC .non)):=ğ Ji
def b_{x j pos}:PE X (.Constant (.str x) j pos) (tR (kk X cm) E (mC (.str x))):=ğ nu
def İ(ha:PE X a (tR (kk X cm) E ma))(hb:PE X b (tR (kk X cm) E mb))(hs:jE b:=by exact λ_ _=>rfl):PE X (.Subscript a b pos) (tV (kk X cm) E (ą č ma mb)):=ZaW Wf Vq ha hb hs
def Ĵ(ha:PE X a (tR (kk X cm) E ma))(hb:PE X b (tR (kk X cm) E mb))(hs:jE b:=by exact λ_ _=>rfl):PE X (.Subscript a b pos) (tR (kk X cm) E (ą č ma mb)):=ğ (İ ha hb hs)
def v_mod(ha:PE X a (tR (kk X cm) E ma))(hb:PE X b (tR (kk X cm) E mb)):PE X (.BinOp a .Mod b pos) (tV (kk X cm) E (ą ľ ma mb)):=aM Ra Qv ha hb
def ť(ha:PE X a (tR (kk X cm) E ma))(hb:PE X b (tR (kk X cm) E mb)):PE X (.BinOp a .Mod b pos) (tR (kk X cm) E (ą ľ ma mb)):=ğ (v_mod ha hb)
def v_mul(ha:PE X a (tR (kk X cm) E ma))(hb:PE X b (tR (kk X cm) E mb)):PE X (.BinOp a .Mult b pos) (tV (kk X cm) E (ą Ī ma mb)):=aM Rb GP ha hb
def ŭ(ha:PE X a (tR (kk X cm) E ma))(hb:PE X b (tR (kk X cm) E mb)):PE X (.BinOp a .Mult b pos) (tR (kk X cm) E (ą Ī ma mb)):=ğ (v_mul ha hb)
def v_sub(ha:PE X a (tR (kk X cm) E ma))(hb:PE X b (tR (kk X cm) E mb)):PE X (.BinOp a .Sub b pos) (tV (kk X cm) E (ą ŀ ma mb)):=aM QZ Qt ha hb
def kZ(ha:PE X a (tR (kk X cm) E ma))(hb:PE X b (tR (kk X cm) E mb)):PE X (.BinOp a .Sub b pos) (tR (kk X cm) E (ą ŀ ma mb)):=ğ (v_sub ha hb)
def fG(ha:PE X a (tR (kk X cm) E ma))(hb:PE X b (tR (kk X cm) E mb)):PE X (.BinOp a .FloorDiv b pos) (tV (kk X cm) E (ą Ť ma mb)):=aM Q_ Gv ha hb
def k_(ha:PE X a (tR (kk X cm) E ma))(hb:PE X b (tR (kk X cm) E mb)):PE X (.BinOp a .FloorDiv b pos) (tR (kk X cm) E (ą Ť ma mb)):=ğ (fG ha hb)
def cg(ha:PE X a (tR (kk X cm) E ma))(hb:PE X b (tR (kk X cm) E mb)):PE X (.BinOp a .Add b pos) (tO (kk X cm) E (Ģ ġ ma mb)):=VD QW QV ha hb
def v_add(ha:PE X a (tR (kk X cm) E ma))(hb:PE X b (tR (kk X cm) E mb)):PE X (.BinOp a .Add b pos) (tV (kk X cm) E (ċ (Ģ ġ ma mb))):=Ġ (cg ha hb)
def cj(ha:PE X a (tR (kk X cm) E ma))(hb:PE X b (tR (kk X cm) E mb)):PE X (.BinOp a .Add b pos) (tR (kk X cm) E (ċ (Ģ ġ ma mb))):=ğ (v_add ha hb)
def t_eq(hu:X.A.units+64<cLine)(ha:PE X a (tR (kk X cm) E ma))(hb:PE X b (tR (kk X cm) E mb)):PT X (.Compare a [.Eq] [b] pos) (tB (kk X cm) E (bA (ą ř ma mb))):=cY Js (Bf hu) ha hb (š _)
def zy(hu:X.A.units+64<cLine)(ha:PE X a (tR (kk X cm) E ma))(hb:PE X b (tR (kk X cm) E mb)):PT X (.Compare a [.NotEq] [b] pos) (tB (kk X cm) E (bA (ą bU ma mb))):=cY Jt (Bg hu) ha hb (š _)
def v_eq(hu:X.A.units+64<cLine)(ha:PE X a (tR (kk X cm) E ma))(hb:PE X b (tR (kk X cm) E mb)):PE X (.Compare a [.Eq] [b] pos) (tV (kk X cm) E (ą ř ma mb)):=rN Js (Bf hu) ha hb (š _)
def Ĺ(he:PE X e (tO (kk X cm) E mo)):eV X [.Return (some e) pos] (tS (kk X cm) E (Ħ mo)):=Ĭ (VP he)
def ŗ(he:PE X e (tV (kk X cm) E m)):eV X [.Return (some e) pos] (tS (kk X cm) E (Ħ (ŝ m))):=Ĺ (ŵ he)
def CK{N ps:List Str}{sc:Scope}{i:Nat}{x:Str}{pos':Pos}(S:ď N ps sc)(he:PE X e (tO (kk X cm) E mo))(hN:X.N=N:=by rfl)(hi:X.N[i]?=some x:=by rfl)(hx:Loc X.env.scope x:=by first|exact Or.inl rfl|exact Or.inr rfl)(hs:swapsWith e (some (.Name x pos')) pos.line X.env=pure false:=by rfl)(hf:X.fn x=true\/X.env.scope.names.lookup x=some .local:=by first|exact .inl rfl|exact .inr rfl|assumption) :
 PS X (.Assign [.Name x pos'] e pos) (tS (kk X cm) E (Ĩ i mo)):=VN (hN▸S.nd) hi hx he hs hf
def Ņ{N ps:List Str}{sc:Scope}{i:Nat}{x:Str}{pos':Pos}{rest:List Stmt}{m2:M Fl}(S:ď N ps sc)(he:PE X e (tO (kk X cm) E mo))(h2:eV X rest (tS (kk X cm) E m2))(hN:X.N=N:=by rfl)(hi:X.N[i]?=some x:=by rfl)(hx:Loc X.env.scope x:=by first|exact Or.inl rfl|exact Or.inr rfl)(hs:swapsWith e (some (.Name x pos')) pos.line X.env=pure false:=by rfl)(hf:X.fn x=true\/X.env.scope.names.lookup x=some .local:=by first|exact .inl rfl|exact .inr rfl|assumption) :
 eV X (.Assign [.Name x pos'] e pos::rest) (tS (kk X cm) E (ě (Ĩ i mo) m2)):=ē (CK S he hN hi hx hs hf) h2
def aW{N ps:List Str}{sc:Scope}{i:Nat}{x:Str}(S:ď N ps sc)(hN:X.N=N:=by rfl)(hi:X.N[i]?=some x:=by rfl)(hx:Loc X.env.scope x:=by first|exact Or.inl rfl|exact Or.inr rfl)(hf:X.fn x=true\/X.env.scope.names.lookup x=some .local:=by first|exact .inl rfl|exact .inr rfl|assumption):PG X (.Name x pos) (tT (kk X cm) (gN i)):=BK (hN▸S.nd) hi hx hf
def aF{i:Nat}{x:Str}(hN:X.N.Nodup:=by exact ndB (by kernel_rfl))(hi:X.N[i]?=some x:=by rfl)(hx:Loc X.env.scope x:=by first|exact Or.inl rfl|exact Or.inr rfl)(hf:X.fn x=true\/X.env.scope.names.lookup x=some .local:=by first|exact .inl rfl|exact .inr rfl):PG X (.Name x pos) (tT (kk X cm) (gN i)):=BK hN hi hx hf
def ę(i:Nat){x:Str}{px:Pos}{ms:M (List Slot)}(hr:PA X es (tA (kk X cm) E ms))(hN:X.N[i]?=some x:=by rfl)(hv:uf X.env.scope x:=by first|exact Or.inl rfl|exact Or.inr (Or.inl rfl)|exact Or.inr (Or.inr rfl))(hd:(x== ("__debug__" :Str))=false:=by decide)
 (hcd:(x== ("__classdict__" :Str))=false:=by decide)(hs:starEach (.Name x px::es) X.env=(false,eval (.Name x px) X.env)::starEach es X.env:=by exact cW rfl):PA X (.Name x px::es) (tA (kk X cm) E (Ć i ms)):=GZ i hN hv hd hcd hr hs
def bV{id:String}{x:Str}{r:List V->Hp->VK->Prop}{f:List PV->Option PV}{mr:M (List PV)}(hc:Ń X (.builtin id) r)(hf:bW (kk X cm) r f)(hm:X.mg x=none)(hv:bootBuiltins x=some (.builtin id))(ha:PA X (e::es) (Jg (kk X cm) E mr))(hg:Gl X x:=by rfl)(hn:x≠ "__name__" := by decide)(hdb:(x== ("__debug__" :Str))=false:=by decide)
 (he:starEach (e::es) X.env=(false,eval e X.env)::starEach es X.env:=by rfl)(hpl:(backTo pos (starEach es X.env)).any (·.1)=false:=by rfl):PE X (.Call (.Name x p) (e::es) [] pos) (tV (kk X cm) E (gG f mr)):=PE.wk (Aq hc hg hm hv ha hn hdb he hpl) λ_ _ _ h=>VL hf h
def WR{T:String}{x:Str}{r:List V->Hp->VK->Prop}{f:List PV->Option PV}{mr:M (List PV)}(hc:Ń X (.type T) r)(hf:bW (kk X cm) r f)(hm:X.mg x=none)(hv:bootBuiltins x=some (.type T))(ha:PA X (e::es) (Jg (kk X cm) E mr))(hg:Gl X x:=by rfl)(hn:x≠ "__name__" := by decide)(hdb:(x== ("__debug__" :Str))=false:=by decide)
 (he:starEach (e::es) X.env=(false,eval e X.env)::starEach es X.env:=by rfl)(hpl:(backTo pos (starEach es X.env)).any (·.1)=false:=by rfl):PE X (.Call (.Name x p) (e::es) [] pos) (tV (kk X cm) E (gG f mr)):=PE.wk (mZ hc hg hm hv ha hn hdb he hpl) λ_ _ _ h=>VL hf h
def mH{T:String}{x:Str}{r:List V->Hp->VK->Prop}{f:List PV->Option RV}{mr:M (List PV)}(hc:Ń X (.type T) r)(hf:BJ (kk X cm) r f)(hm:X.mg x=none)(hv:bootBuiltins x=some (.type T))(ha:PA X (e::es) (Jg (kk X cm) E mr))(hg:Gl X x:=by rfl)(hn:x≠ "__name__" := by decide)(hdb:(x== ("__debug__" :Str))=false:=by decide)
 (he:starEach (e::es) X.env=(false,eval e X.env)::starEach es X.env:=by rfl)(hpl:(backTo pos (starEach es X.env)).any (·.1)=false:=by rfl):PE X (.Call (.Name x p) (e::es) [] pos) (tO (kk X cm) E (iC f mr)):=PE.wk (mZ hc hg hm hv ha hn hdb he hpl) λ_ _ _ h=>ZaX hf h
end
section
variable{X:Cx}{cm:String->Addr}{E:L2.St->XK}{elt tg iter t:Expr}{ifs:List Expr}{scope:Scope}{pos:Pos}{mi:M (List PV)}{g:Tg}{mt:M Bool}{me:M PV}{js:List Nat}{nl:Nat}
structure CF(X:Cx)(js:List Nat)(nl:Nat)(tg iter:Expr)(scope:Scope):Prop where
 hcap:gA X.Ō X.env.scope scope (cN X js tg) js
 hcalm:X.calm=true
 hlen:js.length+nl=(cN X js tg).length
 hk:scope.kind=.function
 hcell:∀y∈scope.names,y.2=.cell->scope.names.lookup y.1=some .cell
 hnames:∀y∈scope.names,y.2=.local->scope.names.lookup y.1=some .local
 hfree:∀y∈scope.names,y.2=.free->(X.env.scope.names.lookup y.1=some .cell\/X.env.scope.names.lookup y.1=some .free)
 hs:∀x,foldedSetIterable iter X.env x=pure x
def cf(hcap:gA X.Ō X.env.scope scope (cN X js tg) js:=by repeat' first|exact True.intro|refine⟨rfl,⟨rfl,by first|exact Or.inl rfl|exact Or.inr rfl⟩,?_⟩)(hcalm:X.calm=true:=by rfl)(hlen:js.length+nl=(cN X js tg).length:=by rfl)
 (hk:scope.kind=.function:=by rfl)(hcell:∀y∈scope.names,y.2=.cell->scope.names.lookup y.1=some .cell:=by decide +kernel)(hnames:∀y∈scope.names,y.2=.local->scope.names.lookup y.1=some .local:=by decide +kernel)
 (hfree:∀y∈scope.names,y.2=.free->(X.env.scope.names.lookup y.1=some .cell\/X.env.scope.names.lookup y.1=some .free):=by exact frB (by kernel_rfl))(hs:∀x,foldedSetIterable iter X.env x=pure x:=by intro _;rfl):CF X js nl tg iter scope:=⟨hcap,hcalm,hlen,hk,hcell,hnames,hfree,hs⟩
def ZbZ(hi:PI X.Ō tg iter (tG (kk X cm) E (BR (kk X cm)) mi))(hg:∀{cl C s H fp},PG (aU X.Ō (cN X js tg) scope cl C s H fp) tg (tT (kk X cm) g))(ht:∀{cl C s H fp},Fp (aU X.Ō (cN X js tg) scope cl C s H fp) ifs (tB (kk X cm) EF mt))(he:∀{cl C s H fp},PE (aU X.Ō (cN X js tg) scope cl C s H fp) elt (tV (kk X cm) EF me))(h:CF X js nl tg iter scope:=by exact cf) :
 PE X (.ListComp elt [⟨tg,iter,ifs,0⟩] scope pos) (tO (kk X cm) E (ŉ js nl mi g mt me)):=Hq (cN X js tg) js nl X.env.scope rfl h.hcalm hi (λ_ _ _ _ _=>hg) (λ_ _ _ _ _=>ht) (λ_ _ _ _ _=>he) h.hcap h.hlen h.hk h.hcell h.hnames h.hfree h.hs
def lg(hi:PI X.Ō tg iter (tI (kk X cm) E mi))(hg:∀{cl C s H fp},PG (aU X.Ō (cN X js tg) scope cl C s H fp) tg (tT (kk X cm) g))(ht:∀{cl C s H fp},Fp (aU X.Ō (cN X js tg) scope cl C s H fp) ifs (tB (kk X cm) EF mt))(he:∀{cl C s H fp},PE (aU X.Ō (cN X js tg) scope cl C s H fp) elt (tV (kk X cm) EF me))(h:CF X js nl tg iter scope:=by exact cf) :
 PE X (.ListComp elt [⟨tg,iter,ifs,0⟩] scope pos) (tO (kk X cm) E (ŉ js nl mi g mt me)):=ZbZ (Jk hi) hg ht he h
def zA{N ps:List Str}{sc:Scope}{i:Nat}{y:Str}{py spos:Pos}(S:ď N ps sc)(hi:PI X.Ō tg iter (tI (kk X cm) E mi))(hg:∀{cl C s H fp},PG (aU X.Ō (cN X js tg) scope cl C s H fp) tg (tT (kk X cm) g))(ht:∀{cl C s H fp},Fp (aU X.Ō (cN X js tg) scope cl C s H fp) ifs (tB (kk X cm) EF mt))(he:∀{cl C s H fp},PE (aU X.Ō (cN X js tg) scope cl C s H fp) elt (tV (kk X cm) EF me))
 (h:CF X js nl tg iter scope:=by exact cf)(hN:X.N=N:=by rfl)(hi0:X.N[i]?=some y:=by rfl)(hy:X.env.scope.names.lookup y=some .local:=by rfl)(hsw:swapsWith (.ListComp elt [⟨tg,iter,ifs,0⟩] scope pos) (some (.Name y py)) spos.line X.env=pure true:=by rfl) :
 PS X (.Assign [.Name y py] (.ListComp elt [⟨tg,iter,ifs,0⟩] scope pos) spos) (tS (kk X cm) E (Ĩ i (ŉ js nl mi g mt me))):=Rm (hN▸S.nd) hi0 hy (cN X js tg) js nl X.env.scope rfl h.hcalm hi (λ_ _ _ _ _=>hg) (λ_ _ _ _ _=>ht) (λ_ _ _ _ _=>he) h.hcap h.hlen h.hk h.hcell h.hnames h.hfree h.hs hsw
end
end P
namespace P
open PySem PySem.Spec PyProof.Rows L2 M2 M3 M5
end P
namespace P
open PySem PySem.Spec PyProof.Rows L2 M2 M3 M4 M5
variable{X:Cx}{cm:String->Addr}{E:L2.St->XK}{a:Expr}{pos:Pos}{ma:M PV}
end P
namespace M5
open PySem PySem.Spec PyProof.Rows L2 M2 M3
section
variable{X:Cx}{pins:List (Addr×Obj)}{σ:L2.St}{H:Hp}{s:Shared}
variable{R:Result->Shared->Prop}{f l S It:Addr}{oF:Obj}{xs:List V}(ks:Nat->Int)(W:Nat->Hp->Prop)
end
section
variable{X:Cx}{x px:Str}{c P:Addr}{params:Arguments}{body e:Expr}{scope:Scope}{p pos QF kpos dpos WT:Pos}{dj:Nat}{ta:TA}{te:TE}
end
end M5
namespace P
open PySem PySem.Spec PyProof.Rows L2 M2 M3 M5
section
variable{X:Cx}{cm:String->Addr}{E:L2.St->XK}{x px:Str}{c Pt:Addr}{params:Arguments}{body e:Expr}{scope:Scope}{p pos QF kpos dpos WT:Pos}{dj:Nat}{mr:M (List PV)}{me:M PV}
end
end P
namespace PySem
namespace F
end F
section
variable{prog:Program}{w:World}{A:Around}{E:Value->Shared->Prop}{s:Shared}
end
end PySem
namespace P
open PySem PySem.Spec PyProof.Rows L2 M2 M3 M4
section
variable{X:Cx}{cm:String->Addr}{E:L2.St->XK}{tg e l:Expr}{p pos p1 pos1:Pos}{mi:M (List PV)}
end
end P
namespace P
open PySem PySem.Spec PyProof.Rows L2 M2 M3 M4
section
variable{X:Cx}{cm:String->Addr}{E:L2.St->XK}{tg:Expr}{a b d:Expr}{p pos:Pos}{mr:M (List PV)}
end
end P
namespace P
open PySem PySem.Spec PyProof.Rows L2 M2 M3 M4
section
variable{X:Cx}{cm:String->Addr}{E:L2.St->XK}
end
end P
namespace L2
open PySem PySem.Spec PyProof.Rows
end L2
namespace L2
open PySem PySem.Spec PyProof.Rows
section
variable(P:Program)(w:World)
end
section
variable{P:Program}{w:World}{H H':Hp}{h h':Heap}{a:Addr}{o:HO}
end
section
variable{P:Program}{w:World}{H:Hp}{h h':Heap}{x e:Addr}{o':HO}
end
section
variable{fs fs' ex ex':List Addr}{H H1 H2:Hp}{h h1 h2 h':Heap}{a x e:Addr}{o:HO}
end
end L2
namespace L2
open PySem PySem.Spec PyProof.Rows
section
variable{X:Cx}{pins:List (Addr×Obj)}{σ:List (Option V)}{H H':Hp}{s:Shared}{h':Heap}
end
end L2
namespace L2
open PySem PySem.Spec PyProof.Rows
section
variable{X:Cx}
variable{a b:Expr}{ta tb:TE}{pos:Pos}
variable{tA Ux:TT}{rest:List Expr}
end
end L2
namespace L2
open PySem PySem.Spec PyProof.Rows
section
variable{X:Cx}{pins:List (Addr×Obj)}{σ:St}{H:Hp}{s:Shared}{a:Addr}{xs ys:List V}
end
section
variable{X:Cx}{pins:List (Addr×Obj)}{σ:St}{H:Hp}{s:Shared}{E:Value->Shared->Prop}
end
section
variable{X:Cx}{st:Stmt}{rest:List Stmt}{t u:TS}{e:Expr}{te:TE}{pos:Pos}
end
section
variable{X:Cx}{pos:Pos}
end
section
variable{X:Cx}{pos:Pos}
end
end L2
namespace L2
open PySem PySem.Spec PyProof.Rows
section
variable{X:Cx}{tg:Expr}
end
end L2
namespace L2
open PySem PySem.Spec PyProof.Rows
section
variable{X:Cx}{a b c:Expr}{ta tb tc:TE}{pos:Pos}
end
section
variable{X:Cx}{a b c:Expr}{ta tb tc:TE}{pos:Pos}
end
end L2
namespace L2
open PySem PySem.Spec PyProof.Rows
section
variable{prog:Program}{w:World}{A:Around}{E:Value->Shared->Prop}{s:Shared}{K:PySem.W.Frag}{x dx C f:Addr}{mA:Str->Option Value}{name:Str}{v:Value}
end
section
variable{P:Program}{w:World}{H H':Hp}{h h':Heap}{a C dx:Addr}{fs fs':List (Str×V)}
end
section
variable{X:Cx}{pins:List (Addr×Obj)}{σ:St}{H:Hp}{s:Shared}{a C dx:Addr}{fs:List (Str×V)}{f:Str}{v:V}{A:Around}{E:Value->Shared->Prop}
end
section
variable{X:Cx}{o e value:Expr}{f:Str}{pos pos' tpos:Pos}{ta tv:TE}
end
section
variable{X:Cx}{pins:List (Addr×Obj)}{σ:St}{H:Hp}{s:Shared}{A:Around}{E:Value->Shared->Prop}{Q:Value->Shared->Prop}{c:Value}{b:Bool}
end
end L2
namespace L2
open PySem PySem.Spec PyProof.Rows
section
variable{X:Cx}{e:Expr}{es:List Expr}{te:TE}{t:TA}{pos:Pos}
end
section
variable{X:Cx}{pins:List (Addr×Obj)}{σ:St}{H:Hp}{s s':Shared}
end
section
variable{X:Cx}{CX:gk}{k:Nat}{f C:Addr}{fd:FuncData}{ps:List Str}{sp:Sp}{dvs:List V}{ds:List Value}{E:XK}{x m:Str}{p pos apos:Pos}{e o:Expr}{es:List Expr}{ta:TE}{t:TA}
end
section
variable{X:Cx}{CX:gk}{k:Nat}{f C:Addr}{fd:FuncData}{ps ks:List Str}{sp:Sp}{E:XK}{x m:Str}{p pos apos kpos:Pos}{e o:Expr}{es:List Expr}{kws:List Keyword}{te ta:TE}{t tk:TA}{nm:Option Str}
variable{g:List Value->List Value->List Value}{gV:List V->List V->List V}
end
end L2
namespace L2
open PySem PySem.Spec PyProof.Rows
section
variable{X:Cx}{x:Str}{p pos:Pos}{e:Expr}{es:List Expr}{t:TA}{id T:String}{r:List V->Hp->VK->Prop}
end
end L2
namespace L2
open PySem PySem.Spec PyProof.Rows
section
variable{κ:Type}[DecidableEq κ]
def gK(kvs:List (κ×V))(k:κ):Option V:=(kvs.find? λkv=>decide (kv.1=k)).map (·.2)
def putK(kvs:List (κ×V))(k:κ)(v:V):List (κ×V):=
 if(kvs.any λkv=>decide (kv.1=k))=true then kvs.map (λkv=>if kv.1=k then(kv.1,v) else kv) else kvs ++ [(k,v)]
def gM{p:κ×V}{r:List (κ×V)}{k:κ}(e:p.1=k):gK (p::r) k=some p.2:=by simp[gK,List.find?_cons,e]
def gO{p:κ×V}{r:List (κ×V)}{k:κ}(e:¬p.1=k):gK (p::r) k=gK r k:=by simp[gK,List.find?_cons,e]
theorem sV(k:κ):∀kvs:List (κ×V),(kvs.any λkv=>decide (kv.1=k))=(gK kvs k).isSome
 | []=>rfl
 |p::r=>by
  rw[List.any_cons]
  by_cases e:p.1=k
  ·simp only[gM e,decide_eq_true e,Bool.true_or,Option.isSome_some]
  ·rw[gO e,decide_eq_false e,Bool.false_or];exact sV k r
def jc(kvs:List (κ×V))(k:κ)(v:V):(putK kvs k v).length<=kvs.length+1:=by
 unfold putK
 split
 ·rw[List.length_map];omega
 ·rw[List.length_append,List.length_cons,List.length_nil];omega
def eG.zB{o:Option V}{u:Option Value}(r:eG o u):o.isSome=u.isSome:=by
 cases o with
 |none=>cases u with
  |none=>rfl
  |some _=>exact(show False from r).elim
 |some _=>cases u with
  |none=>exact(show False from r).elim
  |some _=>rfl
def KV.val{kvs:List (κ×V)}{vs:List (κ×Value)}(r:KV kvs vs)(k:κ):eG (gK kvs k) (valueAt vs k):=by
 unfold KV at r
 induction r with
 |nil=>exact True.intro
 |@cons p q ps qs h t ih=>
  obtain⟨h1,h2⟩:=h
  by_cases e:p.1=k
  ·have e':q.1=k:=h1.symm.trans e
   have b:valueAt (q::qs) k=some q.2:=by simp[valueAt,List.find?_cons,e']
   rw[gM e,b];exact h2
  ·have e':¬q.1=k:=λz=>e (h1.trans z)
   have b:valueAt (q::qs) k=valueAt qs k:=by simp[valueAt,List.find?_cons,e']
   rw[gO e,b];exact ih
theorem KV.any{kvs:List (κ×V)}{vs:List (κ×Value)}(r:KV kvs vs)(k:κ):(kvs.any λkv=>decide (kv.1=k))=vs.any λkv=>decide (kv.1=k):=by
 unfold KV at r
 induction r with
 |nil=>rfl
 |cons h t ih=>rw[List.any_cons,List.any_cons,ih,h.1]
def KV.repl{kvs:List (κ×V)}{vs:List (κ×Value)}(r:KV kvs vs)(k:κ){y:V}{u:Value}(ry:RelV y u) :
 KV (kvs.map λkv=>if kv.1=k then(kv.1,y) else kv) (vs.map λkv=>if kv.1=k then(kv.1,u) else kv):=by
 unfold KV at r ⊢
 induction r with
 |nil=>exact .nil
 |@cons p q ps qs h t ih=>
  rw[List.map_cons,List.map_cons]
  refine .cons ?_ ih
  obtain⟨h1,h2⟩:=h
  by_cases e:p.1=k
  ·rw[if_pos e,if_pos (h1.symm.trans e)];exact⟨h1,ry⟩
  ·rw[if_neg e,if_neg (λz=>e (h1.trans z))];exact⟨h1,h2⟩
def KV.put{kvs:List (κ×V)}{vs:List (κ×Value)}(r:KV kvs vs)(k:κ){y:V}{u:Value}(ry:RelV y u):KV (putK kvs k y) (stored vs k u):=by
 unfold putK stored
 rw[r.any k]
 by_cases e:(vs.any λkv=>decide (kv.1=k))=true
 ·rw[if_pos e,if_pos e];exact r.repl k ry
 ·rw[if_neg e,if_neg e];exact Paired.snoc r ⟨rfl,ry⟩
theorem KV.length{kvs:List (κ×V)}{vs:List (κ×Value)}(r:KV kvs vs):kvs.length=vs.length:=Paired.length r
end
def CN{P:Program}{w:World}{k:Key}{u:Value}(r:RelV (kV k) u):(Ŏ P w).is k u=true:=by
 cases k with
 |inl i=>obtain⟨t,e⟩:=(show ∃t,u=Value.int i t from r);subst e;exact qW P w i t
 |inr x=>obtain⟨t,e⟩:=(show ∃t,u=Value.str x t from r);subst e;exact qX P w x t
theorem nR{P:Program}{w:World}:∀{ks:List Key} {us:List Value},Vals (ks.map kV) us->ItemsAre (Ŏ P w) ks us
 | [],_,r=>by rw[List.map_nil] at r;cases r;exact .nil
 |k::ks,_,r=>by
  rw[List.map_cons] at r
  cases r with
  |cons h t=>exact .cons (CN h) (nR t)
abbrev KT(H:Hp):List (List Key×V)->List (List Key×Addr×Value)->Prop:=Paired λp q=>p.1=q.1/\H q.2.1=some (.tup (p.1.map kV))/\RelV p.2 q.2.2
def KT.val{H:Hp}{kvs:List (List Key×V)}{xs:List (List Key×Addr×Value)}(r:KT H kvs xs)(k:List Key):eG (gK kvs k) ((atKey xs k).map (·.2)):=by
 induction r with
 |nil=>exact True.intro
 |@cons p q ps qs h t ih=>
  obtain⟨h1,_,h2⟩:=h
  by_cases e:p.1=k
  ·have e':q.1=k:=h1.symm.trans e
   have b:atKey (q::qs) k=some q.2:=by simp[atKey,List.find?_cons,e']
   rw[gM e,b];exact h2
  ·have e':¬q.1=k:=λz=>e (h1.trans z)
   have b:atKey (q::qs) k=atKey qs k:=by simp[atKey,List.find?_cons,e']
   rw[gO e,b];exact ih
def KT.repl{H:Hp}{kvs:List (List Key×V)}{xs:List (List Key×Addr×Value)}(r:KT H kvs xs)(k:List Key){y:V}{u:Value}(ry:RelV y u) :
 KT H (kvs.map λkv=>if kv.1=k then(kv.1,y) else kv) (xs.map (putAt k u)):=by
 induction r with
 |nil=>exact .nil
 |@cons p q ps qs h t ih=>
  rw[List.map_cons,List.map_cons]
  refine .cons ?_ ih
  obtain⟨h1,h2,h3⟩:=h
  unfold putAt
  by_cases e:p.1=k
  ·rw[if_pos e,if_pos (h1.symm.trans e)];exact⟨h1,h2,ry⟩
  ·rw[if_neg e,if_neg (λz=>e (h1.trans z))];exact⟨h1,h2,h3⟩
def KT.put{H:Hp}{kvs:List (List Key×V)}{xs:List (List Key×Addr×Value)}(r:KT H kvs xs)(k:List Key){b:Addr}{y:V}{u:Value}(hb:H b=some (.tup (k.map kV)))(ry:RelV y u) :
 KT H (putK kvs k y) (storedH xs k b u):=by
 have e:(kvs.any λkv=>decide (kv.1=k))=(atKey xs k).isSome:=by
  rw[sV,(r.val k).zB,Option.isSome_map]
 unfold putK storedH
 rw[e]
 by_cases q:(atKey xs k).isSome=true
 ·rw[if_pos q,if_pos q];exact r.repl k ry
 ·rw[if_neg q,if_neg q];exact Paired.snoc r ⟨rfl,hb,ry⟩
def KT.keeps{H H':Hp}{kvs:List (List Key×V)}{xs:List (List Key×Addr×Value)}(r:KT H kvs xs)(ht:∀b ys,H b=some (.tup ys)->H' b=some (.tup ys)):KT H' kvs xs:=
 Paired.Fy r λ_ _ z=>⟨z.1,ht _ _ z.2.1,z.2.2⟩
section
variable{P:Program}{w:World}{H:Hp}{h:Heap}{a:Addr}
def Jy{u:HO}(ok:cQ P w H h)(e:Rd H a u):ō P w H h a u:=e.ok ok
def CP{kvs:List (Key×V)}(ok:cQ P w H h)(e:Rd H a (.dK kvs)):kvs.length<=sizeLine/\(a== sysModules)=false/\∃vs,KV kvs vs/\h.DictOf (Ŏ P w) a vs:=
 show ō P w H h a (.dK kvs) from Jy ok e
def WW{kvs:List (Key×V)}(ok:cQ P w H h)(e:H a=some (.dK kvs)):kvs.length<=sizeLine/\(a== sysModules)=false/\∃vs,KV kvs vs/\h.DictOf (Ŏ P w) a vs:=CP ok (.inl e)
def vA{ks:List Key}(ok:cQ P w H h)(e:H a=some (.tup (ks.map kV))):(tupleKind (Ŏ P w)).is h ks a:=by
 obtain⟨_,its,r,o,h1,h2,n,h3⟩:=(show ō P w H h a (.tup (ks.map kV)) from ok a _ e)
 exact⟨o,its.toArray,n,h1,h2,h3,by simpa using nR r⟩
def CQ{kvs:List (List Key×V)}(ok:cQ P w H h)(e:Rd H a (.dT kvs)):kvs.length<=sizeLine/\(a== sysModules)=false/\
 ∃xs,KT H kvs xs/\h.DictOfH (tupleKind (Ŏ P w)) a xs:=by
 obtain⟨z,y,xs,r,o,es,ep,h1,h2,h3,h4,h5⟩:=(show ō P w H h a (.dT kvs) from Jy ok e)
 refine⟨z,y,xs,r,o,es,ep,h1,h2,h3,h4,λx hx=>?_,h5⟩
 have all:∀{l:List (List Key×V)} {m:List (List Key×Addr×Value)},KT H l m->∀x∈m,(tupleKind (Ŏ P w)).is h x.1 x.2.1:=by
  intro l m q
  induction q with
  |nil=>intro x hx;exact nomatch hx
  |@cons p q ps qs hq t ih=>
   intro x hx
   rcases List.mem_cons.mp hx with e|hx
   ·subst e
    exact vA ok (by rw[<-hq.1];exact hq.2.1)
   ·exact ih x hx
 exact all r x hx
def WX{kvs:List (List Key×V)}(ok:cQ P w H h)(e:H a=some (.dT kvs)):kvs.length<=sizeLine/\(a== sysModules)=false/\
 ∃xs,KT H kvs xs/\h.DictOfH (tupleKind (Ŏ P w)) a xs:=CQ ok (.inl e)
end
def vC(H:Hp)(a:Addr)(y:V)(r:Option V):Prop:=
 (∃kvs k,Rd H a (.dK kvs)/\y=kV k/\r=gK kvs k)\/∃kvs k b,Rd H a (.dT kvs)/\y=.ref b/\H b=some (.tup (k.map kV))/\r=gK kvs k
def vD(H:Hp)(a:Addr)(y v:V)(H':Hp):Prop:=
 (∃kvs k,H a=some (.dK kvs)/\y=kV k/\kvs.length<sizeLine/\H'=upd H a (.dK (putK kvs k v)))\/
 ∃kvs k b,H a=some (.dT kvs)/\y=.ref b/\H b=some (.tup (k.map kV))/\kvs.length<sizeLine/\H'=upd H a (.dT (putK kvs k v))
theorem vC.k{H:Hp}{a:Addr}{kvs:List (Key×V)}{k:Key}(e:H a=some (.dK kvs)):vC H a (kV k) (gK kvs k):=.inl ⟨kvs,k,.inl e,rfl,rfl⟩
def vC.t{H:Hp}{a b:Addr}{kvs:List (List Key×V)}{k:List Key}(e:H a=some (.dT kvs))(eb:H b=some (.tup (k.map kV))):vC H a (.ref b) (gK kvs k):=.inr ⟨kvs,k,b,.inl e,rfl,eb,rfl⟩
theorem vD.k{H:Hp}{a:Addr}{kvs:List (Key×V)}{k:Key}{v:V}(e:H a=some (.dK kvs))(hl:kvs.length<sizeLine):vD H a (kV k) v (upd H a (.dK (putK kvs k v))):=.inl ⟨kvs,k,e,rfl,hl,rfl⟩
def vD.t{H:Hp}{a b:Addr}{kvs:List (List Key×V)}{k:List Key}{v:V}(e:H a=some (.dT kvs))(eb:H b=some (.tup (k.map kV)))(hl:kvs.length<sizeLine) :
 vD H a (.ref b) v (upd H a (.dT (putK kvs k v))):=.inr ⟨kvs,k,b,e,rfl,eb,hl,rfl⟩
section
variable{X:Cx}{pins:List (Addr×Obj)}{σ:St}{H:Hp}{s:Shared}{a:Addr}{y v:V}{u r:Value}{o:Option V}{A:Around}{E:Value->Shared->Prop}
def Inv.big(I:Inv X pins σ H s):sysModules<s.heap.objs.size:=by
 have h:mainGlobals<s.heap.objs.size:=(I.mod.glob.keeps I.bk).lt
 exact Nat.lt_trans (by decide) h
def zE{Q:Value->Shared->Prop}(hu:A.units+1<cLine)(I:Inv X pins σ H s)(g:vC H a y (some v))(ry:RelV y u)(h:∀w' s',Inv X pins σ H s'->RelV v w'->Q w' s') :
 wpAny (model X.prog X.w) A (getItem (.ref a) u) Q E s:=by
 rcases g with⟨kvs,k,e,ey,l⟩|⟨kvs,k,b,e,ey,eb,l⟩
 ·subst ey
  obtain⟨z,hd,vs,rel,dd⟩:=CP I.hok e
  obtain⟨w',hw,Af⟩:=eG.some_of (v:=v) (o:=valueAt vs k) (by rw[l];exact rel.val k)
  exact wpAny_getItem_of (CN ry) dd.mapOf hw (h w' _ (I.tok _) Af)
 ·subst ey
  cases(show u=Value.ref b from ry)
  obtain⟨z,hd,xs,rel,dd⟩:=CQ I.hok e
  obtain⟨w',hw,Af⟩:=eG.some_of (v:=v) (o:=(atKey xs k).map (·.2)) (by rw[l];exact rel.val k)
  obtain⟨p,hp,hp2⟩:=Option.map_eq_some_iff.mp hw
  refine wpAny_getItem_heap (tupleKind_room_in1 hu) (vA I.hok eb) dd hp ?_
  rw[hp2]
  exact h w' _ (I.tok _) Af
def xT{h':Heap}{t':Nat}{ob:HO}(I:Inv X pins σ H s)(mu:Us (H a))(hs:Heap.SameBut a s.heap h')(he:∃q,h'.get? a=some q)(new:ō X.prog X.w (upd H a ob) h' a ob) :
 Inv X pins σ (upd H a ob) {s with heap:=h',toks:=t'}:=
 I.write (x:=a) (e:=a) mu (.inl rfl) (λb q hb z=>(hs.2 b hb).trans z) he new
def Ru{P:Program}{w:World}{H':Hp}{h':Heap}{kvs:List (Key×V)}{vs:List (Key×Value)}(z:kvs.length<=sizeLine)(hd:(a== sysModules)=false)(rel:KV kvs vs)(dd:h'.DictOf (Ŏ P w) a vs) :
 ō P w H' h' a (.dK kvs):=⟨z,hd,vs,rel,dd⟩
def zF{H':Hp}{Q:Unit->Shared->Prop}(hu:A.units+1<cLine)(I:Inv X pins σ H s)(g:vD H a y v H')(ry:RelV y u)(rv:RelV v r)(h:∀s',Inv X pins σ H' s'->Q () s') :
 wpAny (model X.prog X.w) A (setItem (.ref a) u r) Q E s:=by
 rcases g with⟨kvs,k,e,ey,l,eH⟩|⟨kvs,k,b,e,ey,eb,l,eH⟩
 ·subst ey eH
  obtain⟨z,hd,vs,rel,dd⟩:=WW I.hok e
  have hz:vs.length<=sizeLine:=by rw[<-rel.length];exact z
  have hl:(putK kvs k v).length<=sizeLine:=by have:=jc kvs k v;omega
  refine wpAny_setItem_pairs (hsz:=hz) (CN ry) dd λh' dd' hs=>h _ ?_
  have he:∃q,h'.get? a=some q:=let ⟨q,_,_,hq,_⟩:=dd';⟨q,hq⟩
  exact xT I (by rw[e];exact True.intro) hs he (Ru hl hd (rel.put k rv) dd')
 ·subst ey eH
  cases(show u=Value.ref b from ry)
  obtain⟨z,hd,xs,rel,dd⟩:=WX I.hok e
  have hz:xs.length<=sizeLine:=by rw[<-Paired.length rel];exact z
  have hl:(putK kvs k v).length<=sizeLine:=by have:=jc kvs k v;omega
  refine wpAny_setItem_heap (hsz:=hz) (tupleKind_room_in1 hu) (vA I.hok eb) dd λh' dd' hs=>h _ ?_
  obtain⟨q,es,ep,hq,h2,h3,h4,_,h5⟩:=dd'
  refine xT I (by rw[e];exact True.intro) hs ⟨q,hq⟩ ⟨hl,hd,_,(rel.put k eb rv).keeps λc ys ec=>?_,q,es,ep,hq,h2,h3,h4,h5⟩
  rw[Ě (Ur ec e (λz=>nomatch z))]
  exact ec
end
section
variable{X:Cx}{pins:List (Addr×Obj)}{σ:St}{H:Hp}{s:Shared}{a:Addr}{kvs:List (Key×V)}{k:Key}{u:Value}{A:Around}{E:Value->Shared->Prop}
end
def Rv(i:Expr):Prop:=∀ov iv,subscripted i false ov iv=operate [ov,iv] (getItem ov iv)
def H_{prog:Program}{w:World}{A:Around}{E:Value->Shared->Prop}{s:Shared}{env:Env}{value slice:Expr}{pos:Pos}{T id:String}{Q:Value->Shared->Prop}
 (hl:typeLookup (.type T) "__getitem__" =pure (some (.builtin id)))(hs:Rv slice)
 (h:wpAny (model prog w) A (eval value env) (λo s₁=>wpAny (model prog w) A (eval slice env) (λi s₂=>s₂.TypeIs o T/\wpAny (model prog w) A (getItem o i) Q E s₂) E s₁) E s) :
 wpAny (model prog w) A (eval (.Subscript value slice pos) env) Q E s:=by
 refine Subscript_ (wpAny_mono h (λo s₁ h₁=>wpAny_mono h₁ (λi s₂ h₂=>?_) λ_ _ x=>x) λ_ _ x=>x)
 obtain⟨hT,h₂⟩:=h₂
 unfold subscriptTail
 refine wpAny_bind ?_
 rw[getitemInPython_of_ne hT.not_modules]
 refine wpAny_bind (wpAny_specialOf hT hl ?_)
 have fin:wpAny (model prog w) A (subscripted slice false o i) (λr s₃=>wpAny (model prog w) A (letTemporaryGo value o r >>= λ_=>pure r) Q E s₃) E s₂:= by
  rw[hs o i]
  exact wpAny_operating (wpAny_mono h₂ (λr s₃ h₃=>wpAny_bind (wpAny_letTemporaryGo (wpAny_pure h₃))) λ_ _ x=>x)
 first
  |exact wpAny_pure (wpAny_bind fin)
  |exact wpAny_bind (wpAny_pure (wpAny_bind fin))
  |exact wpAny_bind fin
def sW{X:Cx}{pins:List (Addr×Obj)}{σ:St}{H:Hp}{s:Shared}{a:Addr}{y:V}{o:Option V}(I:Inv X pins σ H s)(g:vC H a y o):s.TypeIs (.ref a) "dict" := by
 rcases g with⟨kvs,k,e,_,_⟩|⟨kvs,k,b,e,_,_,_⟩
 ·obtain⟨_,_,vs,_,dd⟩:=CP I.hok e
  exact dd.typeIs
 ·obtain⟨_,_,xs,_,dd⟩:=CQ I.hok e
  exact dd.typeIs
def WY(td ty:TE):TE:=λσ H Q=>td σ H λx H1=>ty σ H1 λy H2=>∃a v,x=.ref a/\vC H2 a y (some v)/\Q v H2
def W_(td ty tv:TE):TS:=λD σ H=>tv σ H λv H1=>td σ H1 λx H2=>ty σ H2 λy H3=>∃a H4,x=.ref a/\vD H3 a y v H4/\D.nx σ H4
section
variable{X:Cx}{o i e value:Expr}{pos pos' tpos:Pos}{td ty tv:TE}
def Ia(hu:X.A.units+1<cLine)(ho:PE X o td)(hi:PE X i ty)(hs:Rv i):PE X (.Subscript o i pos) (WY td ty):=by
 intro pins s σ H Q I h
 refine H_ PySem.F.slot_dict_getitem.lookup hs (Ň (ho pins s σ H _ I h) λu s1 ⟨x,H1,I1,rx,q1⟩=>Ň (hi pins s1 σ H1 _ I1 q1) λiv s2 ⟨y,H2,I2,ry,a,v,ex,g,q2⟩=>?_)
 subst ex
 obtain rfl:u=Value.ref a:=rx
 exact⟨sW I2 g,zE hu I2 g ry λw' s3 I3 Af=>⟨v,H2,I3,Af,q2⟩⟩
def Ib(hu:X.A.units+1<cLine)(ho:PE X o td)(hi:PE X i ty)(hv:PE X value tv)(hs:swapsWith value (some (.Subscript o i pos')) pos.line X.env=pure false) :
 PS X (.Assign [.Subscript o i pos'] value pos) (W_ td ty tv):=by
 intro pins s σ H D I h
 refine wpAny_Assign_Subscript (Ň (hv pins s σ H _ I h) λr s1 ⟨v,H1,I1,rv,q1⟩=>Ň (ho pins s1 σ H1 _ I1 q1) λu s2 ⟨x,H2,I2,rx,q2⟩=>Ň (hi pins s2 σ H2 _ I2 q2) λiv s3 ⟨y,H3,I3,ry,a,H4,ex,g,q3⟩=>?_) hs
 subst ex
 obtain rfl:u=Value.ref a:=rx
 exact zF hu I3 g ry rv λs4 I4=>⟨σ,H4,I4,q3⟩
end
def CT{P:Program}{w:World}{H:Hp}(h:Heap)(hb:sysModules<h.objs.size):ō P w H (h.push {cls:=.type "dict",data:=.dict #[]}) h.objs.size (.dT []):=
 ⟨Nat.zero_le _,beq_eq_false_iff_ne.mpr (Ne.symm (Nat.ne_of_lt hb)),[],.nil,_,#[],0,Heap.get?_push_size _ rfl,⟨rfl,rfl,rfl⟩,rfl,rfl,List.nodup_nil⟩
def Rw:TE:=λ_ H Q=>∀p,H p=none->Q (.ref p) (upd H p (.dT []))
section
variable{X:Cx}{pos:Pos}
def CV:PE X (.Dict [] [] pos) Rw:=λpins s σ H Q I h=>
 wpAny_Dict_empty ⟨.ref s.heap.objs.size,_,I.laid (a:=s.heap.objs.size) (o:=.dT []) (t':=s.toks) (λ_ _ q=>Heap.get?_push_of_some _ q) (Nat.le_refl _) (CT s.heap I.big),rfl,h _ (I.hok.fresh (Nat.le_refl _))⟩
end
section
variable{X:Cx}{pins:List (Addr×Obj)}{σ:St}{H:Hp}{s:Shared}{a:Addr}{y d:V}{u r:Value}{o:Option V}{A:Around}{E:Value->Shared->Prop}
end
section
variable{X:Cx}{o e f:Expr}{apos cpos:Pos}{td ty tx:TE}
end
section
variable{X:Cx}{pins:List (Addr×Obj)}{σ:St}{H:Hp}{s:Shared}{a:Addr}{kvs:List (Key×V)}{A:Around}{E:Value->Shared->Prop}
end
section
variable{X:Cx}{pins:List (Addr×Obj)}{σ:St}{H:Hp}{s:Shared}{a:Addr}{y:V}{u:Value}{A:Around}{E:Value->Shared->Prop}
end
end L2
namespace Yu
open PySem PySem.W PySem.Calls PyProof.Rows
section
variable{prog:Program}{w:World}{A:Around}{E:Value->Shared->Prop}{s:Shared}{K:Frag}
end
end Yu
namespace L2
open PySem PySem.Spec PyProof.Rows
end L2
namespace L2
open PySem PySem.Spec PyProof.Rows
end L2
namespace L2
open PySem PySem.Spec PyProof.Rows
section
variable{P:Program}{w:World}{K:PySem.W.Frag}{mg:Str->Option Value}{base:Heap}
end
section
variable{X:Cx}
end
section
variable{κ:Type}[DecidableEq κ]
end
end L2
namespace P
open PySem PySem.Spec PyProof.Rows L2 M2 M3 M4
def gP:List PV->Option (List Int)
 | []=>some []
 | .int i::ps=>(gP ps).map (i:: ·)
 |_::_=>none
def lq(t:Bool):PV->Option DK
 | .int i=>if t then none else some (.inl i)
 | .tup ps=>if t then(gP ps).map .inr else none
 |_=>none
def dval(kvs:List (DK×PV))(k:DK):Option PV:=(kvs.find? λkv=>decide (kv.1=k)).map (·.2)
def dput(kvs:List (DK×PV))(k:DK)(v:PV):List (DK×PV):=
 if(kvs.any λkv=>decide (kv.1=k))=true then kvs.map λkv=>if kv.1=k then(kv.1,v) else kv else kvs ++ [(k,v)]
section
variable{K:KK}{F:Hp}{α κ:Type}[DecidableEq κ]{c:α->DK}{kf:α->κ}(hc:∀{x y},c x=c y->x=y)(hk:∀{x y},kf x=kf y->x=y)
abbrev DG(K:KK)(F:Hp)(c:α->DK)(kf:α->κ):DK×PV->κ×V->Prop:=λp q=>(∃i,p.1=c i/\q.1=kf i)/\Rep K F p.2 q.2
include hc hk in
def lu{p:DK×PV}{q:κ×V}(h:DG K F c kf p q)(i:α):(p.1=c i)↔(q.1=kf i):=by
 obtain⟨⟨j,h1,h2⟩,_⟩:=h
 rw[h1,h2]
 exact⟨λe=>by rw[hc e],λe=>by rw[hk e]⟩
include hc hk in
theorem CW(i:α):∀{kvs:List (DK×PV)} {ks:List (κ×V)},Paired (DG K F c kf) kvs ks->(dval kvs (c i)=none/\gK ks (kf i)=none)\/∃p v,dval kvs (c i)=some p/\gK ks (kf i)=some v/\Rep K F p v
 |_,_,.nil=>.inl ⟨rfl,rfl⟩
 |p::kvs,q::ks,.cons r t=>by
  by_cases e:p.1=c i
  ·refine .inr ⟨p.2,q.2,?_,gM ((lu hc hk r i).mp e),r.2⟩
   simp[dval,List.find?_cons,e]
  ·have e2:=λz=>e ((lu hc hk r i).mpr z)
   have h1:dval (p::kvs) (c i)=dval kvs (c i):=by simp[dval,List.find?_cons,e]
   rw[h1,gO e2]
   exact CW i t
include hc hk in
theorem CZ(i:α):∀{kvs:List (DK×PV)} {ks:List (κ×V)},Paired (DG K F c kf) kvs ks->(kvs.any λkv=>decide (kv.1=c i))=ks.any λkv=>decide (kv.1=kf i)
 |_,_,.nil=>rfl
 |p::kvs,q::ks,.cons r t=>by
  rw[List.any_cons,List.any_cons,CZ i t]
  congr 1
  exact decide_eq_decide.mpr (lu hc hk r i)
theorem xU{α β:Type}{G:α->β->Prop}{x:α}{y:β}(h:G x y):∀{l:List α} {m:List β},Paired G l m->Paired G (l ++ [x]) (m ++ [y])
 |_,_,.nil=>.cons h .nil
 |_,_,.cons r t=>.cons r (xU h t)
include hc hk in
theorem C_(i:α){p:PV}{v:V}(hr:Rep K F p v):∀{kvs:List (DK×PV)} {ks:List (κ×V)},Paired (DG K F c kf) kvs ks->Paired (DG K F c kf) (kvs.map λkv=>if kv.1=c i then(kv.1,p) else kv) (ks.map λkv=>if kv.1=kf i then(kv.1,v) else kv)
 |_,_,.nil=>.nil
 |a::kvs,b::ks,.cons r t=>by
  refine .cons ?_ (C_ i hr t)
  dsimp only
  by_cases e:a.1=c i
  ·rw[if_pos e,if_pos ((lu hc hk r i).mp e)]
   exact⟨r.1,hr⟩
  ·rw[if_neg e,if_neg λz=>e ((lu hc hk r i).mpr z)]
   exact r
include hc hk in
def Rx(i:α){p:PV}{v:V}(hr:Rep K F p v){kvs:List (DK×PV)}{ks:List (κ×V)}(h:Paired (DG K F c kf) kvs ks):Paired (DG K F c kf) (dput kvs (c i) p) (putK ks (kf i) v):=by
 unfold dput putK
 rw[CZ hc hk i h]
 split
 ·exact C_ hc hk i hr h
 ·exact xU ⟨⟨i,rfl,rfl⟩,hr⟩ h
end
def Ie{β γ:Type}{x y:β}(h:(Sum.inl x:Sum β γ)=.inl y):x=y:=by injection h
section
variable{X:Cx}{cm:String->Addr}{E:L2.St->XK}{e o:Expr}{pos:Pos}{ma mk mv:M PV}
end
end P
namespace P
open PySem PySem.Spec PyProof.Rows L2 M2 M3 M4
section
variable{X:Cx}{cm:String->Addr}{E:L2.St->XK}{e:Expr}{pos:Pos}
end
end P
namespace P
open PySem PySem.Spec PyProof.Rows L2 M2 M3 M4
section
variable{X:Cx}{cm:String->Addr}{E:L2.St->XK}{pos:Pos}
end
end P
namespace P
open PySem PySem.Spec PyProof.Rows L2 M2 M3 M4
section
variable{X:Cx}{cm:String->Addr}{E:L2.St->XK}{tg:Expr}{pos:Pos}
end
end P
namespace PySem
section
variable{prog:Program}{w:World}{K:Type}[DecidableEq K]{knd:HeapKind prog w K}{A:Around}{E:Value->Shared->Prop}{s:Shared}
end
end PySem
namespace P
open PySem PySem.Spec PyProof.Rows L2 M2 M3 M4
section
variable{X:Cx}{pins:List (Addr×Obj)}{σ:L2.St}{H:Hp}{s:Shared}{a b:Addr}{d:V}{r:Value}{A:Around}{E:Value->Shared->Prop}{kvs:List (List Key×V)}{k:List Key}
end
section
variable{X:Cx}{o e f:Expr}{apos cpos:Pos}{td ty tx:TE}
end
theorem nT{K:KK}{F:Hp}:∀{ps:List PV} {is:List Int} {xs:List V},gP ps=some is->đ K F ps xs->xs=(is.map (Sum.inl:Int->Key)).map kV
 | [],is,xs,h,r=>by
   cases h
   unfold đ at r
   rw[r];rfl
 |p::ps,is,xs,h,r=>by
  unfold đ at r
  obtain⟨x,r',rfl,r1,r2⟩:=r
  cases p with
  |int i=>
   unfold gP at h
   obtain⟨js,e1,e2⟩:=Option.map_eq_some_iff.mp h
   subst e2
   have ex:x=.int i:=by unfold Rep at r1;exact r1
   rw[List.map_cons,List.map_cons,<-nT e1 r2,ex]
   rfl
  |_=>exact nomatch h
def Zb0{p:PV}{k:DK}(h:lq true p=some k):∃ps is,p=.tup ps/\gP ps=some is/\k=.inr is:=by
 cases p with
 |tup ps=>
  have h:(gP ps).map Sum.inr=some k:=h
  obtain⟨is,e1,e2⟩:=Option.map_eq_some_iff.mp h
  exact⟨ps,is,rfl,e1,e2.symm⟩
 |int i=>exact nomatch h
 |_=>exact nomatch h
def sX{K:KK}{F:Hp}{p:PV}{k:DK}{y:V}(h:lq true p=some k)(r:Rep K F p y):∃is b,k=.inr is/\y=.ref b/\F b=some (.tup ((is.map (Sum.inl:Int->Key)).map kV)):=by
 obtain⟨ps,is,rfl,e1,e2⟩:=Zb0 h
 unfold Rep at r
 obtain⟨b,xs,r1,r2,r3⟩:=r
 exact⟨is,b,e2,r1,by rw[r2,nT e1 r3]⟩
abbrev zP:List Int->List Key:=λis=>is.map Sum.inl
def xV{β γ:Type}{x y:γ}(h:(Sum.inr x:Sum β γ)=.inr y):x=y:=by injection h
theorem ql:∀{x y:List Int},zP x=zP y->x=y
 | [],[],_=>rfl
 | [],_::_,h=>nomatch h
 |_::_,[],h=>nomatch h
 |a::x,b::y,h=>by
  have h':(Sum.inl a:Key)::zP x=Sum.inl b::zP y:=h
  injection h' with h1 h2
  rw[Ie h1,ql h2]
def Dc{K:KK}{F:Hp}{kvs:List (DK×PV)}{u:HO}(h:uP K F true kvs u):∃ks:List (List Key×V),u=.dT ks/\Paired (DG K F (Sum.inr:List Int->DK) zP) kvs ks:=by
 rcases h with⟨h0,_⟩|⟨_,ks,h1,h2⟩
 ·cases h0
 ·exact⟨ks,h1,h2⟩
def sY{K:KK}{F:Hp}{kvs:List (DK×PV)}{ks:List (List Key×V)}(h:Paired (DG K F (Sum.inr:List Int->DK) zP) kvs ks):uP K F true kvs (.dT ks):=.inr ⟨rfl,ks,rfl,h⟩
section
variable{X:Cx}{cm:String->Addr}{E:L2.St->XK}{e f:Expr}{pos:Pos}{mk mv:M PV}
def vG(i:Nat):M Fl:=λρ=>.ok .nx (ρ.set i (.od true []))
def Ig{i:Nat}{x:Str}{pos' p0:Pos}(hN:X.N.Nodup)(hi:X.N[i]?=some x)(hx:Loc X.env.scope x)(hs:swapsWith (.Dict [] [] p0) (some (.Name x pos')) pos.line X.env=pure false:=by rfl)(hf:X.fn x=true\/X.env.scope.names.lookup x=some .local:=by first|exact .inl rfl|exact .inr rfl|assumption) :
 PS X (.Assign [.Name x pos'] (.Dict [] [] p0) pos) (tS (kk X cm) E (vG i)):=PS.wk (Ae hN hi hx CV hs hf) λD σ H ⟨c,F,ρ,rel,h⟩ p hp=>by
 have Đ:=rel.made (o:=.dT []) hp
 exact h _ F _ (Đ.Bw (s:=.od true []) ⟨p,.dT [],rfl,ĝ,rel.sub.free hp,rel.base.free hp,sY .nil⟩ λ_ z=>V.ref.inj z▸rel.fresh hp) (Same.refl _)
@[simp] theorem Xa{i:Nat}{ρ:ļ}:vG i ρ=.ok .nx (ρ.set i (.od true [])):=rfl
def vH(i:Nat)(mk mv:M PV):M Fl:=λρ=>(mv ρ).bind λp ρ1=>match ρ1[i]? with
 |some (.od true _)=>(mk ρ1).bind λk ρ2=>match ρ2[i]?,lq true k with
  |some (.od true kvs),some dk=>if kvs.length<16777216 then .ok .nx (ρ2.set i (.od true (dput kvs dk p))) else .bad
  |_,_=>.bad
 |_=>.bad
def Ih{i:Nat}{x:Str}{ix:Expr}{px mF:Pos}(hu:X.A.units+64<cLine)(he:PE X e (tV (kk X cm) E mv))(hi:PE X ix (tV (kk X cm) E mk))(ho:PE X (.Name x px) (uq i))
 (hs:swapsWith e (some (.Subscript (.Name x px) ix mF)) pos.line X.env=pure false:=by rfl) :
 PS X (.Assign [.Subscript (.Name x px) ix mF] e pos) (tS (kk X cm) E (vH i mk mv)):=PS.wk (Ib (by omega) ho hi he hs) λD σ H ⟨c,F,ρ,rel,h⟩=>⟨c,F,ρ,rel,Ŋ.bind h λp ρ1 v F1 H1 Đ s1 q h1=>by
 cases e1:ρ1[i]? with
 |none=>rw[e1] at h1;exact h1.elim
 |some sl=>
  rw[e1] at h1
  cases sl with
  |od t0 Zb1=>
   cases t0 with
   |false=>exact h1.elim
   |true=>
    obtain⟨a,u0,z1,_,_,_,_⟩:=Đ.slot i _ e1
    refine⟨.ref a,at_of z1,c,F1,ρ1,Đ,Ŋ.bind h1 λk ρ2 y F2 H2 ī s2 r2 h2=>?_⟩
    cases e2:ρ2[i]? with
    |none=>rw[e2] at h2;exact h2.elim
    |some sl2=>
     rw[e2] at h2
     cases sl2 with
     |od t kvs=>
      cases t with
      |false=>exact h2.elim
      |true=>
       cases ek:lq true k with
       |none=>rw[ek] at h2;exact h2.elim
       |some dk=>
        rw[ek] at h2
        dsimp only at h2
        obtain⟨is,b,rfl,ey,eb⟩:=sX ek r2
        obtain⟨a2,u,w1,w2,w3,w4,w5⟩:=ī.slot i _ e2
        obtain⟨ks,rfl,w6⟩:=Dc w5
        have e3:=at_of z1
        rw[at_of w1] at e3
        have e3':a2=a:=by injection e3 with e3;injection e3 with e3;injection e3
        subst e3' ey
        split at h2
        ·rename_i hz
         have hl:ks.length<sizeLine:=by rw[<-Paired.length w6,ķ];exact hz
         refine⟨a2,_,rfl,vD.t (k:=zP is) w2 (ī.sub _ _ eb) hl,h2 σ F2 _ (ī.uQ ⟨_,_,e2,at_of w1,rfl⟩ ⟨a2,_,w1,ĝ,w3,w4,sY (Rx xV ql is (Rep.same s2 p v q) w6)⟩ λx' b ex z=>?_) (Same.refl _)⟩
         rw[at_of w1] at ex
         cases ex
         have:a2=b:=V.ref.inj z
         subst this
         exact⟨_,_,e2,at_of w1,rfl⟩
        ·exact h2.elim
     |_=>exact h2.elim
  |_=>exact h1.elim⟩
@[simp] theorem Xb{i:Nat}{ρ:ļ}:vH i mk mv ρ=(mv ρ).bind fun p ρ1=>match ρ1[i]? with
  |some (.od true _)=>(mk ρ1).bind λk ρ2=>match ρ2[i]?,lq true k with
   |some (.od true kvs),some dk=>if kvs.length<16777216 then .ok .nx (ρ2.set i (.od true (dput kvs dk p))) else .bad
   |_,_=>.bad
  |_=>.bad:=rfl
end
end P
namespace P
open PySem PySem.Spec PyProof.Rows L2 M2 M3 M4
def Ii(h:Heap)(d:Addr)(es:Array DictEntry)(ep:Nat):Prop:=∃o,h.get? d=some o/\o.ExactDict/\o.data=.dict es ep
section
variable{prog:Program}{w:World}{A:Around}{E:Value->Shared->Prop}{s:Shared}{d it:Addr}{es:Array DictEntry}{ep i:Nat}
def Ii.tp(h:Ii s.heap d es ep):s.TypeIs (.ref d) "dict" := let ⟨o,ho,hc,_⟩:=h;⟨o,ho,hc.1⟩
def Dd{Q:Value->Shared->Prop}(hd:(d== sysModules)=false)(hm:Ii s.heap d es ep)
 (hQ:Q (.ref s.heap.objs.size) {s with heap:=s.heap.push {cls:=.type "dict_keyiterator",data:=.fields #[.ref d,.int 0 0,.int es.size 0,.int ep 0]}}) :
 wpAny (model prog w) A (pyIter (.ref d)) Q E s:=by
 have hT:=hm.tp
 obtain⟨o,ho,hc,hdat⟩:=hm
 refine wpAny_pyIter_slot hT F.slot_dict_iter (wpAny_call_entry F.slot_dict_iter hT F.entry_dict_iter ?_ (F.args_dict_iter_1 _))
 unfold Builtin.«dict.__iter__»
 refine wpAny_bind ?_
 unfold Builtin.Dict.dictSlotNone
 refine wpAny_bind (wpAny_notOrdered_dict hT ?_)
 show wpAny _ _ (pure (Value.ref d)) _ _ s
 refine wpAny_pure ?_
 show wpAny _ _ (Builtin.Dict.showsAll d >>= _) _ _ s
 unfold Builtin.Dict.showsAll
 rw[if_neg (by rw[hd];exact Bool.false_ne_true)]
 refine wpAny_bind (wpAny_pure (wpAny_bind (wpAny_dictEntries ho hdat (wpAny_bind (wpAny_dictEpoch ho hdat ?_)))))
 refine wpAny_bind (wpAny_newObj_type (wpAny_pure ⟨_,rfl,"dict_keyiterator",_,⟨_,Heap.get?_push_size _ rfl,rfl⟩,F.slot_dict_keyiterator_next.lookup,?_⟩))
 simpa[rawInt] using hQ
def sZ{Q:Option Value->Shared->Prop}(hh:A.handled=none)(hit:s.heap.IsKeyIter it d i es.size ep)(hm:Ii s.heap d es ep)
 (hI:∀e,es[i]?=some e->∀h',h'.IsKeyIter it d (i+1) es.size ep->Heap.SameBut it s.heap h'->Q (some e.key) {s with heap:=h'})
 (hE:es[i]?=none->∀h',Heap.ExtBut it s.heap h'->Q none {s with heap:=h'}) :
 wpAny (model prog w) A (pyNext (.ref it)) Q E s:=by
 obtain⟨o,ho,hc,hd⟩:=id hit
 obtain⟨od,hod,hcd,hdd⟩:=hm
 unfold pyNext
 refine wpAny_bind (wpAny_attempt (wpAny_callSpecial?_slot (name:=Str.ofString "__next__") hit.typeIs F.slot_dict_keyiterator_next
  (wpAny_call_entry F.slot_dict_keyiterator_next hit.typeIs F.entry_dict_keyiterator_next ?_ (F.args_dict_keyiterator_next_1 _))))
 refine wpAny_bind (wpAny_pure ?_)
 refine wpAny_bind (wpAny_bind ?_)
 first|refine wpAny_bind (wpAny_typeNameOfWhole_keyiter hit.typeIs (wpAny_pure ?_))|refine wpAny_bind (wpAny_typeNameOf_keyiter hit.typeIs (wpAny_pure ?_))
 refine wpAny_bind (wpAny_fieldsOf ho hd ?_)
 have hown:Builtin.Dict_items.ownsTuple "dict_keyiterator" =false:=by decide
 simp only[hown,Bool.false_eq_true,if_false]
 show wpAny _ _ (if(Value.ref d== Value.none)=true then _ else _) _ _ s
 rw[if_neg (show ¬((Value.ref d== Value.none)=true) from Bool.false_ne_true)]
 refine wpAny_bind (wpAny_pure (wpAny_bind (wpAny_dictEntries hod hdd ?_)))
 rw[if_neg (by simp)]
 refine wpAny_bind (wpAny_pure (wpAny_bind (wpAny_dictEpoch hod hdd ?_)))
 rw[if_neg (by simp)]
 refine wpAny_pure ?_
 by_cases hlt:i<es.size
 ·simp only[show ¬((i:Int)<0) from by omega,if_false,Int.toNat_natCast,Array.getElem?_eq_getElem hlt]
  refine wpAny_bind ?_
  first|refine wpAny_bind (wpAny_typeNameOfWhole_keyiter hit.typeIs (wpAny_pure ?_))|refine wpAny_bind (wpAny_typeNameOf_keyiter hit.typeIs (wpAny_pure ?_))
  refine wpAny_bind (wpAny_isOneOf_keyiter hit.typeIs ?_)
  show wpAny _ _ (setField (.ref it) 1 (rawInt ((i:Int)+1)) >>= _) _ _ s
  refine wpAny_bind (wpAny_setField ho hd (by simp) ?_)
  have hit':(s.heap.update it (Obj.mapFields (·.setIfInBounds 1 (rawInt ((i:Int)+1))))).IsKeyIter it d (i+1) es.size ep:=
   ⟨_,Heap.get?_update_self _ ho (Obj.isFreed_of_fields (Obj.data_mapFields hd _)),(Obj.cls_mapFields ..).trans hc,by rw[Obj.data_mapFields hd];simp[rawInt]⟩
  refine wpAny_bind (wpAny_holding ?_)
  refine wpAny_bind (wpAny_isOneOf_keyiter (s:={s with heap:=s.heap.update it (Obj.mapFields (·.setIfInBounds 1 (rawInt ((i:Int)+1))))}) hit'.typeIs ?_)
  show wpAny _ _ (pure es[i].key) _ _ _
  exact wpAny_pure (wpAny_pure ⟨_,rfl,wpAny_pure (hI es[i] (Array.getElem?_eq_getElem hlt) _ hit' (Heap.SameBut.update ..))⟩)
 ·have hn:es[i]?=none:=Array.getElem?_eq_none (Nat.le_of_not_lt hlt)
  simp only[show ¬((i:Int)<0) from by omega,if_false,Int.toNat_natCast,hn]
  refine wpAny_bind ?_
  first|refine wpAny_bind (wpAny_typeNameOfWhole_keyiter hit.typeIs (wpAny_pure ?_))|refine wpAny_bind (wpAny_typeNameOf_keyiter hit.typeIs (wpAny_pure ?_))
  show wpAny _ _ (setField (.ref it) 0 .none >>= _) _ _ s
  refine wpAny_bind (wpAny_setField ho hd (by simp) ?_)
  show wpAny _ _ (newExc (.type "StopIteration") [] >>= _) _ _ _
  refine wpAny_bind ?_
  simp only[newExc,newTuple]
  refine wpAny_bind (wpAny_newObj_type ?_ (by size_fits))
  refine wpAny_bind (m:=firstArgMember _ _) (wpAny_of_eq (a:=Value.none) (by first|rfl|(simp only[firstArgMember];rfl)) ?_)
  refine wpAny_newObj_type ?_ (by size_fits)
  simp only[raiseNew]
  refine wpAny_bind (wpAny_handled ?_)
  rw[show A.in1.handled=none from hh]
  refine wpAny_bind (wpAny_pure (wpAny_throw ?_))
  refine wpAny_bind (wpAny_isInstance (T:= "StopIteration") (b:=true) ⟨_,Heap.get?_push_size _ rfl,rfl⟩ isSubtype_stop ?_)
  exact wpAny_pure (hE hn _ (((Heap.SameBut.update ..).extBut.push _).push _))
end
theorem Dg{K:KK}{F:Hp}:∀{ks:List DK} {ps:List PV} {us:List (List Key×V)},Paired (λ(k:DK) (q:List Key)=>∃is:List Int,k=.inr is/\q=is.map .inl) ks (us.map (·.1))->đ K F ps (us.map (·.2))->Paired (DG K F (Sum.inr:List Int->DK) zP) (ks.zip ps) us
 | [],_,[],_,_=>.nil
 | [],_,_::_,h,_=>nomatch h
 |_::_,_,[],h,_=>nomatch h
 |k::ks,[],u::us,_,h=>by unfold đ at h;cases h
 |k::ks,p::ps,u::us,h,r=>by
  cases h with
  |cons a b=>
   unfold đ at r
   obtain⟨x,t,e,r1,r2⟩:=r
   injection e with e1 e2
   subst e1 e2
   obtain⟨is,a1,a2⟩:=a
   exact .cons ⟨⟨is,a1,a2⟩,r1⟩ (Dg b r2)
theorem vI{K:KK}{F:Hp}:∀{kvs:List (DK×PV)} {us:List (List Key×V)},Paired (DG K F (Sum.inr:List Int->DK) zP) kvs us->Paired (λ(k:DK) (q:List Key)=>∃is:List Int,k=.inr is/\q=is.map .inl) (kvs.map (·.1)) (us.map (·.1))/\đ K F (kvs.map (·.2)) (us.map (·.2))
 |_,_,.nil=>⟨.nil,đ.nil⟩
 |_,_,.cons ⟨⟨is,a1,a2⟩,r⟩ t=>⟨.cons ⟨is,a1,a2⟩ (vI t).1,đ.cons r (vI t).2⟩
section
variable{X:Cx}{cm:String->Addr}{E:L2.St->XK}{e:Expr}{pos:Pos}{mk:M PV}
def xW(i:Nat):M Fl:=λρ=>match ρ[i]? with
 |some (.od true kvs)=>.ok (.rt (.sh (.cM (kvs.map (·.1)) (kvs.map (·.2))))) (ρ.set i .no)
 |_=>.bad
def Ry(i:Nat){x:Str}{px pos:Pos}(hN:X.N[i]?=some x:=by rfl)(hv:uf X.env.scope x:=by first|exact Or.inl rfl|exact Or.inr (Or.inl rfl)|exact Or.inr (Or.inr rfl))(hd:(x== ("__debug__" :Str))=false:=by decide)
 (hcd:(x== ("__classdict__" :Str))=false:=by decide):PS X (.Return (some (.Name x px)) pos) (tS (kk X cm) E (xW i)):=by
 intro pins s σ H D I ⟨c,F,ρ,rel,h⟩
 unfold xW at h
 split at h
 ·rename_i kvs e
  obtain⟨a,u,h1,h2,h3,h4,h5⟩:=rel.slot i _ e
  obtain⟨ks,rfl,h6⟩:=Dc h5
  refine wpAny_Return_some (Ň (au hN hv hd hcd pins s σ H (λy H'=>y=.ref a/\H'=H) I ⟨.ref a,at_of h1,rfl,rfl⟩) λv s1 ⟨y,H1,I1,r1,e1,e2⟩=>?_)
  subst e1 e2
  obtain⟨z,lo,xs,kt,ob,es,ep,ho,r⟩:=(show ō X.prog X.w H1 s1.heap a (.dT ks) from I1.hok a _ h2)
  have ho':ĺ F σ ρ i a:=⟨_,_,e,at_of h1,rfl⟩
  have nt:∀b ys,H1 b=some (.tup ys)->b≠a:=λb ys q z=>by rw[z,h2] at q;cases q
  have I2:Inv X pins σ (upd H1 a (.ak ob (.dT ks))) {s1 with heap:=s1.heap,toks:=s1.toks}:=I1.write (by rw[h2];trivial) (.inl rfl) (λb u _ e=>e) ⟨ob,ho⟩ ⟨ho,z,lo,xs,Paired.Fy kt λp q w=>⟨w.1,by rw[Ě (nt _ _ w.2.1)];exact w.2.1,w.2.2⟩,ob,es,ep,ho,r⟩
  have r1':Rel (kk X cm) c F (upd H1 a (.ak ob (.dT ks))) σ (ρ.set i .no):=rel.uQ ho' trivial λ_ _ _ z=>z.elim
  have hf:gD F σ (ρ.set i .no) a:=λj ⟨s,x,q1,q2,q3⟩=>by
   rcases ũ q1 with⟨_,rfl,_⟩|⟨hj,q⟩
   ·exact q3
   ·exact hj (rel.sep j i a ⟨s,x,q,q2,q3⟩ ho')
  have r2:=r1'.freeze ĝ h4 h3 hf
  obtain⟨g1,g2⟩:=vI h6
  have rp:Rep (kk X cm) (upd F a (.ak ob (.dT ks))) (.cM (kvs.map (·.1)) (kvs.map (·.2))) (.ref a):=by
   unfold Rep
   exact⟨a,ob,ks,rfl,ĝ,g1,g2.same (Same.upd h3) _ _⟩
  exact⟨.ref a,σ,_,I2,r1,h _ σ _ _ r2 (Same.upd h3) rp⟩
 ·exact h.elim
@[simp] theorem Zao{i:Nat}{ρ:ļ}:xW i ρ=(match ρ[i]? with
  |some (.od true kvs)=>.ok (.rt (.sh (.cM (kvs.map (·.1)) (kvs.map (·.2))))) (ρ.set i .no)
  |_=>.bad):=rfl
def mJ(ρ:ļ)(i:Nat):Option (List (DK×PV)):=match ρ[i]? with
 |some (.sh (.cM ks ps))=>some (ks.zip ps)
 |_=>none
def xX{c:Ctx}{F H:Hp}{σ:L2.St}{ρ:ļ}{i:Nat}{kvs:List (DK×PV)}{K:KK}(rel:Rel K c F H σ ρ)(h:mJ ρ i=some kvs):∃a ob ks,σ[i]?=some (some (.ref a))/\F a=some (.ak ob (.dT ks))/\Paired (DG K F (Sum.inr:List Int->DK) zP) kvs ks:=by
 unfold mJ at h
 split at h
 ·rename_i ks ps e
  cases h
  obtain⟨v,h1,h2⟩:=rel.slot i _ e
  unfold Rep at h2
  obtain⟨a,ob,us,rfl,h3,h4,h5⟩:=h2
  exact⟨a,ob,us,at_of h1,h3,Dg h4 h5⟩
 ·cases h
def aG(i:Nat)(mk:M PV):M PV:=λρ=>match mJ ρ i with
 |some _=>(mk ρ).bind λk ρ1=>match mJ ρ1 i,lq true k with
  |some kvs,some dk=>Res.jJ (dval kvs dk) ρ1
  |_,_=>.bad
 |none=>.bad
def aQ(i:Nat){x:Str}{px:Pos}(hu:X.A.units+64<cLine)(hk:PE X e (tV (kk X cm) E mk))(hs:Rv e:=by intro _ _;rfl)(hN:X.N[i]?=some x:=by rfl)(hv:uf X.env.scope x:=by first|exact Or.inl rfl|exact Or.inr (Or.inl rfl)|exact Or.inr (Or.inr rfl))(hd:(x== ("__debug__" :Str))=false:=by decide)
 (hcd:(x== ("__classdict__" :Str))=false:=by decide):PE X (.Subscript (.Name x px) e pos) (tV (kk X cm) E (aG i mk)):=PE.wk (Ia (by omega) (au hN hv hd hcd) hk hs) λσ H Q ⟨c,F,ρ,rel,h⟩=>by
 unfold aG at h
 cases e1:mJ ρ i with
 |none=>rw[e1] at h;exact h.elim
 |some Zb1=>
  rw[e1] at h
  obtain⟨a,ob,ks0,z1,_,_⟩:=xX rel e1
  refine⟨.ref a,z1,c,F,ρ,rel,h.bind λk ρ1 y F1 H1 Đ s1 s2 r1 h1=>?_⟩
  cases e2:mJ ρ1 i with
  |none=>rw[e2] at h1;exact h1.elim
  |some kvs=>
   rw[e2] at h1
   cases ek:lq true k with
   |none=>rw[ek] at h1;exact h1.elim
   |some dk=>
    rw[ek] at h1
    obtain⟨is,b,rfl,ey,eb⟩:=sX ek r1
    obtain⟨a2,ob2,ks,w1,w2,w3⟩:=xX Đ e2
    rw[z1] at w1
    cases w1
    subst ey
    dsimp only at h1
    rcases CW (c:=(Sum.inr:List Int->DK)) (kf:=zP) xV ql is w3 with⟨q1,_⟩|⟨p,v,q1,q2,q3⟩
    ·rw[q1] at h1;exact h1.elim
    ·rw[q1] at h1
     exact⟨a,v,rfl,.inr ⟨ks,zP is,b,.inr ⟨_,Đ.sub _ _ w2⟩,rfl,Đ.sub _ _ eb,q2.symm⟩,h1 v F1 H1 Đ (Same.refl _) (Same.refl _) q3⟩
@[simp] theorem Xc{i:Nat}{ρ:ļ}:aG i mk ρ=(match mJ ρ i with
  |some _=>(mk ρ).bind λk ρ1=>match mJ ρ1 i,lq true k with
   |some kvs,some dk=>Res.jJ (dval kvs dk) ρ1
   |_,_=>.bad
  |none=>.bad):=rfl
def Itk(a:Addr)(ob:Obj)(ks:List (List Key×V)):It:=
 ⟨λi H=>H a=some (.ak ob (.dT ks))/\i<ks.length,λi H x H'=>H'=H/\∃k v b,ks[i]?=some (k,v)/\x=.ref b/\H b=some (.tup (k.map kV)),λi H=>H a=some (.ak ob (.dT ks))/\i=ks.length⟩
def Zb2(ob:Obj)(es:Array DictEntry)(ep:Nat):Prop:=ob.ExactDict/\ob.data=.dict es ep
def Ij{P:Program}{w:World}{K:PySem.W.Frag}{tg:Expr}(a it:Addr){ob:Obj}{ks:List (List Key×V)}{es:Array DictEntry}{ep:Nat}(hob:Zb2 ob es ep)(hsz:es.size=ks.length):Turn P w K tg (Itk a ob ks) [it] it (λi h=>h.IsKeyIter it a i es.size ep) where
 mem:=by simp
 obj:=λi h st b hb=>by
  have e:b=it:=by simpa using hb
  subst e
  obtain⟨o,e,c,d⟩:=st
  exact⟨o,e,λv z=>by rw[d] at z;cases z⟩
 keep:=λi h h' st k=>st.at λo e=>k it (by simp) o e
 item:=by
  intro X hP hw hK hc i pins s σ H E I hf st hg
  subst hP hw hK
  obtain⟨ha,hi⟩:=hg
  obtain⟨ho,_,_,xs,kt,o2,es2,ep2,h1,h2,h3,h4,_⟩:=(show ō X.prog X.w H s.heap a (.ak ob (.dT ks)) from I.hok a _ ha)
  rw[ho] at h1
  cases h1
  rw[hob.2] at h3
  injection h3 with e1 e2
  subst e1 e2
  obtain⟨f0,f1,f2,f3,f4,f5⟩:=hf it (by simp)
  refine sZ (I.ok.hd hc) st ⟨ob,ho,hob.1,hob.2⟩ (λe he h' st' sb=>?_) λhn=>by rw[Array.getElem?_eq_none_iff] at hn;omega
  have I1:Inv X pins σ H {s with heap:=h'}:=I.turned (t':=s.toks) (λb o hb e=>(sb.2 b hb).trans e) f0 f1 f3 f4 f5
  have hx:∃q,xs[i]?=some q/\e=entryOfKey (tupleKind (Ŏ X.prog X.w)) q:=by
   rw[<-Array.getElem?_toList,h4,List.getElem?_map] at he
   cases hq:xs[i]? with
   |none=>rw[hq] at he;cases he
   |some q=>rw[hq] at he;exact⟨q,rfl,(Option.some.inj he).symm⟩
  obtain⟨q,hq,rfl⟩:=hx
  obtain⟨p,hp,g1,g2,_⟩:=wU kt hq
  obtain⟨o,e,c,d⟩:=id st'
  exact⟨_,rfl,rm (s:={s with heap:=h'}) e c d (by decide) ⟨.ref q.2.1,H,I1,rfl,⟨rfl,p.1,p.2,q.2.1,hp,rfl,g2⟩,st',λb hb=>(hf b hb).1⟩⟩
 done:=by
  intro X hP hw hK hc i pins s σ H E I hf st hg
  subst hP hw hK
  obtain⟨ha,hi⟩:=hg
  obtain⟨ho,_⟩:=(show ō X.prog X.w H s.heap a (.ak ob (.dT ks)) from I.hok a _ ha)
  obtain⟨f0,f1,f2,f3,f4,f5⟩:=hf it (by simp)
  exact sZ (I.ok.hd hc) st ⟨ob,ho,hob.1,hob.2⟩ (λe he=>by rw[Array.getElem?_eq_none (by omega)] at he;cases he) λ_ h' eb=>⟨rfl,I.turned (t':=s.toks) (λb o hb e=>eb b o hb e) f0 f1 f3 f4 f5⟩
 self:=λ_ _ _ _ _ st h=>wpAny_pyIter_keyiter st h
def iDt(td:TE):TI:=λσ H R=>td σ H λx H1=>∃a ob ks,x=.ref a/\H1 a=some (.ak ob (.dT ks))/\R (Itk a ob ks) H1
def Xd{tg l:Expr}{td:TE}(hl:PE X l td):PI X tg l (iDt td):=by
 intro pins s σ H R I h
 refine Ň (hl pins s σ H _ I h) λv s1 ⟨x,H1,I1,r1,q1⟩=>?_
 obtain⟨a,ob,ks,e,ha,q⟩:=q1
 subst e
 cases r1
 obtain⟨ho,z,lo,xs,kt,o2,es,ep,h1,h2,h3,h4,h5⟩:=(show ō X.prog X.w H1 s1.heap a (.ak ob (.dT ks)) from I1.hok a _ ha)
 rw[ho] at h1
 cases h1
 refine Dd lo ⟨ob,ho,h2,h3⟩ ?_
 refine⟨s1.heap.objs.size,[s1.heap.objs.size],_,_,_,rfl,I1.kept (t':=s1.toks) λb o e=>Heap.get?_push_of_some _ e,Ij a _ ⟨h2,h3⟩ (by rw[<-Array.length_toList,h4,List.length_map,Paired.length kt]),⟨_,Heap.get?_push_size _ rfl,rfl,rfl⟩,λb hb=>?_,q⟩
 have e:b=s1.heap.objs.size:=by simpa using hb
 subst e
 exact I1.yK (Nat.le_refl _) (I1.hok.fresh (Nat.le_refl _))
def kP:DK->PV
 | .inl i=>.int i
 | .inr is=>.tup (is.map .int)
def lA(i n:Nat)(gs:uh)(mb:M Fl):M Fl:=λρ=>match ρ[i]? with
 |some (.sh (.cM ks _))=>forL (gT n gs) mb (ks.map kP) ρ
 |_=>.bad
theorem nU{K:KK}{F:Hp}:∀is:List Int,đ K F (is.map .int) ((is.map (Sum.inl:Int->Key)).map kV)
 | []=>đ.nil
 |i::is=>đ.cons Rep.int (nU is)
def Rz{c:Ctx}{F1 H1:Hp}{σ:L2.St}{ρ1:ļ}{D:Ends}{a:Addr}{ob:Obj}{us:List (List Key×V)}{ks:List DK}{n:Nat}{gs:uh}{mb:M Fl}(Đ:Rel (kk X cm) c F1 H1 σ ρ1)(ha:F1 a=some (.ak ob (.dT us)))(hk:Paired (λ(k:DK) (q:List Key)=>∃is:List Int,k=.inr is/\q=is.map .inl) ks (us.map (·.1)))
 (h1:Ŋ (kk X cm) E c F1 D (forL (gT n gs) mb (ks.map kP) ρ1)):Pk (λ_ H' R=>R (Itk a ob us) H') (UW X.K n (QL (kk X cm) gs)) (tS (kk X cm) E mb) D σ H1:=by
 have hl:ks.length=us.length:=by rw[Paired.length hk,List.length_map]
 refine⟨λi m σ' H'=>∃F2 ρ2,i<=ks.length/\m=ks.length-i/\Rel (kk X cm) c F2 H' σ' ρ2/\Same F1 F2/\Ŋ (kk X cm) E c F2 D (forL (gT n gs) mb ((ks.drop i).map kP) ρ2),⟨_,F1,ρ1,Nat.zero_le _,rfl,Đ,Same.refl _,h1⟩,?_⟩
 rintro i m σ2 H2 ⟨F2,ρ2,hle,rfl,ī,s2,h2⟩
 have hH:=ī.sub _ _ (s2 _ _ ha)
 by_cases hlt:i<ks.length
 ·rw[List.drop_eq_getElem_cons hlt,List.map_cons] at h2
  unfold forL at h2
  refine .inr ⟨⟨hH,by omega⟩,_,λσ' H' z=>z,λx H3 hy=>?_⟩
  obtain⟨rfl,k,v,b,e1,rfl,e3⟩:=hy
  obtain⟨q,w1,is,w2,w3⟩:=aA hk (List.getElem?_eq_getElem hlt)
  rw[List.getElem?_map,e1] at w1
  have w4:k=q:=by injection w1
  rw[w2] at h2
  cases eg:gT n gs (kP (.inr is)) ρ2 with
  |none=>rw[eg] at h2;exact h2.elim
  |some ρ3=>
   rw[eg] at h2
   dsimp only at h2
   have Fw:(is.map PV.int).length=n/\gs (is.map .int) ρ2=some ρ3:=by
    unfold gT kP at eg
    dsimp only at eg
    split at eg
    ·rename_i hh;exact⟨hh,eg⟩
    ·cases eg
   refine⟨b,k.map kV,rfl,cL.of e3,by rw[w4,w3,<-Fw.1];simp,c,F2,ρ2,is.map .int,ī,by rw[w4,w3];exact nU is,?_⟩
   rw[Fw.2]
   intro σ4 uT
   refine⟨c,F2,ρ3,uT,?_⟩
   have nxt:∀{ρ4:ļ},Ŋ (kk X cm) E c F2 D (forL (gT n gs) mb ((ks.drop (i+1)).map kP) ρ4)->∀σ' F' H',Rel (kk X cm) c F' H' σ' ρ4->Same F2 F'->∃m',m'<ks.length-i/\∃F2 ρ2,i+1<=ks.length/\m'=ks.length-(i+1)/\Rel (kk X cm) c F2 H' σ' ρ2/\Same F1 F2/\Ŋ (kk X cm) E c F2 D (forL (gT n gs) mb ((ks.drop (i+1)).map kP) ρ2):=
    fun{ρ4} h3 σ' F' H' Ű s'=>⟨ks.length-(i+1),by omega,F',ρ4,hlt,rfl,Ű,s2.trans s',Ŋ.mono h3 s'⟩
   cases e2:mb ρ3 with
   |bad=>rw[e2] at h2;exact h2
   |exc x ρ4=>rw[e2] at h2;exact h2
   |ok f ρ4=>
    rw[e2] at h2
    cases f with
    |nx=>exact nxt h2
    |ct=>exact nxt h2
    |bk=>exact h2
    |rt r=>exact h2
 ·have e:i=ks.length:=by omega
  refine .inl ⟨⟨hH,by omega⟩,?_⟩
  rw[List.drop_eq_nil_of_le (by omega)] at h2
  exact h2 σ2 F2 H2 ī (Same.refl _)
def Ik{i n:Nat}{x:Str}{es:List Expr}{k:Nat}{px p0:Pos}{body:List Stmt}{gs:uh}{mb:M Fl}(hp:PassesOwn (model X.prog X.w) X.A X.env X.xe)(hc:X.calm=true)(hg:q_ X es (QL (kk X cm) gs))(hb:eV X body (tS (kk X cm) E mb))(hN:X.N[i]?=some x:=by rfl)(hv:uf X.env.scope x:=by first|exact Or.inl rfl|exact Or.inr (Or.inl rfl)|exact Or.inr (Or.inr rfl))(hd:(x== ("__debug__" :Str))=false:=by decide)
 (hcd:(x== ("__classdict__" :Str))=false:=by decide)(hn:(assignEach es X.env).length=n:=by rfl)(hst:(assignEach es X.env).findIdx? (·.1)=none:=by rfl)(hs:∀y,foldedSetIterable (.Name x px) X.env y=pure y:=by intro _;rfl):PS X (.For (.Tuple es k p0) (.Name x px) body [] pos) (tS (kk X cm) E (lA i n gs mb)):=PS.wk (Ai hp hc (Xd (au hN hv hd hcd)) (ur hc hg hn hst) hb hs) λD σ H ⟨c,F,ρ,rel,h⟩=>by
 unfold lA at h
 split at h
 ·rename_i ks ps e
  obtain⟨v,h1,h2⟩:=rel.slot i _ e
  unfold Rep at h2
  obtain⟨a,ob,us,rfl,h3,h4,h5⟩:=h2
  exact⟨.ref a,at_of h1,a,ob,us,rfl,rel.sub _ _ h3,Rz rel h3 h4 h⟩
 ·exact h.elim
@[simp] theorem Xe{i n:Nat}{gs:uh}{mb:M Fl}{ρ:ļ}:lA i n gs mb ρ=(match ρ[i]? with
  |some (.sh (.cM ks _))=>forL (gT n gs) mb (ks.map kP) ρ
  |_=>.bad):=rfl
end
end P
namespace My
def gd(a b:Int):Int:=((Int.gcd a b:Nat):Int)
def Z1T(a b:Int):gd b (Int.fmod a b)=gd a b:=by
 unfold gd
 rw[Int.fmod_def,Int.gcd_sub_mul_left_right,Int.gcd_comm]
def Z1U(a:Int){b:Int}(h:b≠0):(Int.fmod a b).natAbs<b.natAbs:=by
 rcases(by omega:0<b\/b<0) with h|h
 ·have h1:=Int.fmod_nonneg_of_pos a h
  have h2:=Int.fmod_lt_of_pos a h
  omega
 ·have e:=Int.neg_fmod_neg a b
  have h1:=Int.fmod_nonneg_of_pos (-a) (show 0 < -b by omega)
  have h2:=Int.fmod_lt_of_pos (-a) (show 0 < -b by omega)
  omega
def Z1V(a:Int):gd a 0=if a<0 then -a else a:=by
 unfold gd
 rw[Int.gcd_zero]
 split<;>omega
end My
namespace Hu
abbrev Pt:=Int×Int
def tn(a b c:Pt):Int:=(b.1-a.1)*(c.2-a.2)-(b.2-a.2)*(c.1-a.1)
theorem Z0f{α:Type}(R:α->α->Prop):∀(l:List α),l≠[]->(∀x∈l,∀y∈l,R x y\/R y x)->(∀x∈l,∀y∈l,∀z∈l,R x y->R y z->R x z)->∃b∈l,∀s∈l,R b s
 | [],h,_,_=>absurd rfl h
 | [x],_,t,_=>⟨x,by simp,fun s hs=>by
     have e:s=x:=by simpa using hs
     subst e
     rcases t s (by simp) s (by simp) with q|q<;>exact q⟩
 |x::y::r,_,t,tr=>by
  obtain⟨b,hb,hl⟩:=Z0f R (y::r) (by simp) (λa ha c hc=>t a (List.mem_cons_of_mem _ ha) c (List.mem_cons_of_mem _ hc)) (λa ha c hc d hd=>tr a (List.mem_cons_of_mem _ ha) c (List.mem_cons_of_mem _ hc) d (List.mem_cons_of_mem _ hd))
  have hb':b∈x::y::r:=List.mem_cons_of_mem _ hb
  have hx:x∈x::y::r:=by simp
  have bb:R b b:=hl b hb
  have xx:R x x:=by rcases t x hx x hx with q|q<;>exact q
  rcases t b hb' x hx with q|q
  ·refine⟨b,hb',λs hs=>?_⟩
   rcases List.mem_cons.mp hs with e|e
   ·subst e;exact q
   ·exact hl s e
  ·refine⟨x,hx,λs hs=>?_⟩
   rcases List.mem_cons.mp hs with e|e
   ·subst e;exact xx
   ·exact tr x hx b hb' s hs q (hl s e)
def um(a b c p:Pt):Prop:=tn a b c≠0/\0<=tn p b c*tn a b c/\0<=tn a p c*tn a b c/\0<=tn a b p*tn a b c
def Z00(a b c p:Pt):tn p b c+tn a p c+tn a b p=tn a b c:=by simp only[tn];grind
def Zj(a b c:Pt):tn b c a=tn a b c:=by simp only[tn];grind
def ZC(a b c:Pt):tn b a c= - tn a b c:=by simp only[tn];grind
def Zm(a b c:Pt):tn a c b= - tn a b c:=by simp only[tn];grind
def um.swap{a b c p:Pt}(h:um a b c p):um b a c p:=by
 obtain⟨h1,h2,h3,h4⟩:=h
 unfold um
 rw[ZC a b c,ZC a p c,ZC p b c,ZC a b p]
 refine⟨by omega,?_,?_,?_⟩
 ·rw[Int.neg_mul_neg];exact h3
 ·rw[Int.neg_mul_neg];exact h2
 ·rw[Int.neg_mul_neg];exact h4
def um.zQ{a b c p:Pt}(h:um a b c p):um b c a p:=by
 obtain⟨h1,h2,h3,h4⟩:=h
 unfold um
 rw[Zj a b c,show tn p c a=tn a p c from Zj a p c,show tn b p a=tn a b p from Zj a b p,show tn b c p=tn p b c from Zj p b c]
 exact⟨h1,h3,h4,h2⟩
def Z12{a b c p:Pt}(h1:0<=tn p a b)(h2:0<=tn p b c)(h3:0<=tn p c a)(h:0<tn p a b\/0<tn p b c\/0<tn p c a):um a b c p:=by
 have e:=Z00 a b c p
 have e1:tn a p c=tn p c a:=(Zj a p c).symm
 have e2:tn a b p=tn p a b:=Zj p a b
 have pos:0<tn a b c:=by omega
 refine⟨by omega,Int.mul_nonneg h2 (by omega),Int.mul_nonneg (by omega) (by omega),Int.mul_nonneg (by omega) (by omega)⟩
section
variable{S:List Pt}{p:Pt}
def Z2J(no:∀x∈S,∀y∈S,∀z∈S,¬um x y z p):∀x∈S,∀y∈S,∀z∈S,0<=tn p x y->0<=tn p y z->0<=tn p x z:=by
 intro x hx y hy z hz h1 h2
 by_cases h:0<=tn p x z
 ·exact h
 ·exfalso
  have e:=Zm p x z
  exact no x hx y hy z hz (Z12 h1 h2 (by omega) (by omega))
def dt(u v:Pt)(p:Pt):Int:=(u.1-p.1)*(v.1-p.1)+(u.2-p.2)*(v.2-p.2)
def Z2i{u p:Pt}(h:u≠p):0<dt u u p:=by
 unfold dt
 have h1:0<=(u.1-p.1)*(u.1-p.1):=by
  rcases Int.le_total 0 (u.1-p.1) with q|q
  ·exact Int.mul_nonneg q q
  ·exact Int.mul_nonneg_of_nonpos_of_nonpos q q
 have h2:0<=(u.2-p.2)*(u.2-p.2):=by
  rcases Int.le_total 0 (u.2-p.2) with q|q
  ·exact Int.mul_nonneg q q
  ·exact Int.mul_nonneg_of_nonpos_of_nonpos q q
 by_cases e1:u.1-p.1=0
 ·by_cases e2:u.2-p.2=0
  ·exact absurd (Prod.ext (by omega) (by omega)) h
  ·have:(u.2-p.2)*(u.2-p.2)≠0:=Int.mul_ne_zero e2 e2
   omega
 ·have:(u.1-p.1)*(u.1-p.1)≠0:=Int.mul_ne_zero e1 e1
  omega
def Z31(tri:∃x∈S,∃y∈S,∃z∈S,tn x y z≠0)(no:∀x∈S,∀y∈S,∀z∈S,¬um x y z p) :
 ∃a∈S,∃b∈S,a≠b/\(∀s∈S,0<=tn a b s)/\tn a b p<0:=by
 obtain⟨x,hx,y,hy,z,hz,Zci⟩:=tri
 have hp:p∉S:=by
  intro hp
  have e:=Z00 x y z p
  have key:∀u∈S,∀v∈S,tn p u v=0:=by
   intro u hu v hv
   by_cases h:tn p u v=0
   ·exact h
   ·exfalso
    refine no p hp u hu v hv ⟨h,?_,?_,?_⟩
    ·rcases Int.le_total 0 (tn p u v) with q|q
     ·exact Int.mul_nonneg q q
     ·exact Int.mul_nonneg_of_nonpos_of_nonpos q q
    ·rw[show tn p p v=0 by simp only[tn];grind];simp
    ·rw[show tn p u p=0 by simp only[tn];grind];simp
  have k1:=key y hy z hz
  have k2:=key z hz x hx
  have k3:=key x hx y hy
  rw[Zj p z x |>.symm] at k2
  have e1:tn x p z=tn p z x:=(Zj x p z).symm
  have e2:tn x y p=tn p x y:=Zj p x y
  have e3:tn z x p=tn p z x:=Zj p z x
  omega
 have tr:=Z2J no
 have tot:∀x∈S,∀y∈S,0<=tn p x y\/0<=tn p y x:=λx _ y _=>by have:=Zm p x y;omega
 obtain⟨b0,hb0,l0⟩:=Z0f (λu v=>0<=tn p u v) S (List.ne_nil_of_mem hx) tot tr
 -- the nearest of those in its direction
 have hT:∃b∈S,(∀s∈S,0<=tn p b s)/\∀s∈S,tn p b s=0->dt b b p<=dt s s p:=by
  let T:=S.filter λs=>decide (tn p b0 s=0)
  have mT:∀{s},s∈T↔s∈S/\tn p b0 s=0:=by intro s;simp[T]
  have Zb3:b0∈T:=mT.mpr ⟨hb0,by simp only[tn];grind⟩
  obtain⟨b,hb,lb⟩:=Z0f (λu v=>dt u u p<=dt v v p) T (List.ne_nil_of_mem Zb3) (λu _ v _=>Int.le_total _ _) (λu _ v _ w _ h1 h2=>Int.le_trans h1 h2)
  obtain⟨hbS,eb⟩:=mT.mp hb
  have bm:∀s∈S,0<=tn p b s:=λs hs=>tr b hbS b0 hb0 s hs (by have:=Zm p b0 b;omega) (l0 s hs)
  refine⟨b,hbS,bm,λs hs es=>lb s (mT.mpr ⟨hs,?_⟩)⟩
  have h1:=l0 s hs
  have h2:0<=tn p s b0:=tr s hs b hbS b0 hb0 (by have:=Zm p b s;omega) (by have:=Zm p b0 b;omega)
  have:=Zm p b0 s
  omega
 obtain⟨b,hb,bm,bn⟩:=hT
 have hbp:b≠p:=λe=>hp (e▸hb)
 have hw:=Z2i hbp
 let U:=S.filter λs=>decide (0<tn p b s)
 have mU:∀{s},s∈U↔s∈S/\0<tn p b s:=by intro s;simp[U]
 have hU:U≠[]:=by
  intro hU
  have key:∀s∈S,tn p b s=0:=by
   intro s hs
   have h1:=bm s hs
   by_cases h:tn p b s=0
   ·exact h
   ·have:s∈U:=mU.mpr ⟨hs,by omega⟩
    rw[hU] at this
    cases this
  have k1:=key x hx
  have k2:=key y hy
  have k3:=key z hz
  have fx:∀u v:Pt,tn p b u=0->tn p b v=0->dt b b p*tn p u v=0:=by
   intro u v e1 e2
   have i1:dt b b p*tn p u v=dt b u p*tn p b v-dt b v p*tn p b u:=by simp only[dt,tn];grind
   rw[i1,e1,e2];simp
  have z0:∀u v:Pt,tn p b u=0->tn p b v=0->tn p u v=0:=by
   intro u v e1 e2
   rcases Int.mul_eq_zero.mp (fx u v e1 e2) with q|q
   ·omega
   ·exact q
  have e:=Z00 x y z p
  have w1:=z0 y z k2 k3
  have w2:=z0 z x k3 k1
  have w3:=z0 x y k1 k2
  have e1:tn x p z=tn p z x:=(Zj x p z).symm
  have e2:tn x y p=tn p x y:=Zj p x y
  omega
 obtain⟨d,hd,dm⟩:=Z0f (λu v=>0<=tn u b v) U hU
  (fun u _ v _=>by
    have e:tn v b u= - tn u b v:=by simp only[tn];grind
    omega)
  (fun u hu v hv w hw' h1 h2=>by
    have ku:=(mU.mp hu).2
    have kv:=(mU.mp hv).2
    have kw:=(mU.mp hw').2
    have e:tn u b w*tn p b v=tn u b v*tn p b w+tn v b w*tn p b u:=by simp only[tn];grind
    have n1:0<=tn u b v*tn p b w:=Int.mul_nonneg h1 (by omega)
    have n2:0<=tn v b w*tn p b u:=Int.mul_nonneg h2 (by omega)
    by_cases h:0<=tn u b w
    ·exact h
    ·have:tn u b w*tn p b v<0:=Int.mul_neg_of_neg_of_pos (by omega) kv
     omega)
 obtain⟨hdS,kd⟩:=mU.mp hd
 refine⟨d,hdS,b,hb,λe=>?_,λs hs=>?_,?_⟩
 ·rw[e,show tn p b b=0 by simp only[tn];grind] at kd
  omega
 ·have h1:=bm s hs
  by_cases h:0<tn p b s
  ·exact dm s (mU.mpr ⟨hs,h⟩)
  ·have es:tn p b s=0:=by omega
   have near:=bn s hs es
   -- on the line of p and b
   have c1:dt b b p*tn s p d= - (dt b s p*tn p b d):=by
    have i1:dt b b p*tn s p d=dt b d p*tn p b s-dt b s p*tn p b d:=by simp only[dt,tn];grind
    rw[i1,es];simp
   have c2:dt b b p*tn d b s=(dt b s p-dt b b p)*tn p b d:=by
    have i1:dt b b p*tn d b s=(dt b s p-dt b b p)*tn p b d-(dt b d p-dt b b p)*tn p b s:=by simp only[dt,tn];grind
    rw[i1,es];simp
   have c3:dt b s p*dt b s p=dt b b p*dt s s p:=by
    have i1:dt b b p*dt s s p=dt b s p*dt b s p+tn p b s*tn p b s:=by simp only[dt,tn];grind
    rw[i1,es];simp
   have hge:dt b b p<=dt b s p:=by
    by_cases q:0<=dt b s p
    ·by_cases q2:dt b b p<=dt b s p
     ·exact q2
     ·exfalso
      have l1:dt b s p*dt b s p<=dt b s p*dt b b p:=Int.mul_le_mul_of_nonneg_left (by omega) q
      have l2:dt b s p*dt b b p<dt b b p*dt b b p:=Int.mul_lt_mul_of_pos_right (by omega) hw
      have l3:dt b b p*dt b b p<=dt b b p*dt s s p:=Int.mul_le_mul_of_nonneg_left near (by omega)
      omega
    ·exfalso
     have pos:0<tn s p d:=by
      have l1:0 < -(dt b s p*tn p b d):=by
       have:=Int.mul_neg_of_neg_of_pos (show dt b s p<0 by omega) kd
       omega
      by_cases h0:0<tn s p d
      ·exact h0
      ·have:=Int.mul_nonneg (show 0<=dt b b p by omega) (show 0<= - tn s p d by omega)
       rw[Int.mul_neg] at this
       omega
     refine no s hs b hb d hdS (Z12 (by have:=Zm p b s;omega) (by omega) ?_ (.inr (.inl kd)))
     have:tn p d s=tn s p d:=Zj s p d
     omega
   have n1:0<=(dt b s p-dt b b p)*tn p b d:=Int.mul_nonneg (by omega) (by omega)
   by_cases h0:0<=tn d b s
   ·exact h0
   ·have:=Int.mul_neg_of_pos_of_neg hw (show tn d b s<0 by omega)
    omega
 ·have:tn d b p= - tn p b d:=by simp only[tn];grind
  omega
end
abbrev Ln:=Int×Int×Int
def hd(l:Ln)(p:Pt):Bool:=decide (l.1*p.1+l.2.1*p.2<=l.2.2)
def Z1(a b:Pt):Ln:=(b.2-a.2,a.1-b.1,(b.2-a.2)*a.1+(a.1-b.1)*a.2)
def ZP{a b s:Pt}:hd (Z1 a b) s=true↔0<=tn a b s:=by
 unfold hd Z1
 rw[decide_eq_true_iff]
 have e:tn a b s=((b.2-a.2)*a.1+(a.1-b.1)*a.2)-((b.2-a.2)*s.1+(a.1-b.1)*s.2):=by simp only[tn];grind
 dsimp only
 omega
def Z2(S:List Pt):List Pt:=S.foldl (λk x=>if x∈k then k else k ++ [x]) []
theorem Z08(x:Pt):∀(S k:List Pt),x∈S.foldl (λk x=>if x∈k then k else k ++ [x]) k↔x∈k\/x∈S
 | [],k=>by simp
 |y::S,k=>by
  rw[List.foldl_cons,Z08 x S]
  by_cases h:y∈k
  ·rw[if_pos h]
   constructor
   ·rintro (q|q)
    ·exact .inl q
    ·exact .inr (List.mem_cons_of_mem _ q)
   ·rintro (q|q)
    ·exact .inl q
    ·rcases List.mem_cons.mp q with e|e
     ·exact .inl (e▸h)
     ·exact .inr e
  ·rw[if_neg h]
   simp only[List.mem_append,List.mem_cons,List.not_mem_nil,or_false]
   constructor
   ·rintro ((q|q)|q)
    ·exact .inl q
    ·exact .inr (.inl q)
    ·exact .inr (.inr q)
   ·rintro (q|q|q)
    ·exact .inl (.inl q)
    ·exact .inl (.inr q)
    ·exact .inr q
def Zl{x:Pt}{S:List Pt}:x∈Z2 S↔x∈S:=by unfold Z2;rw[Z08];simp
def Zz(S:List Pt):List Ln:=(Z2 S).flatMap λa=>(Z2 S).filterMap λb=>if a≠b/\(Z2 S).all (hd (Z1 a b)) then some (Z1 a b) else none
def Zs{S:List Pt}{l:Ln}:l∈Zz S↔∃a∈S,∃b∈S,a≠b/\(∀s∈S,0<=tn a b s)/\l=Z1 a b:=by
 unfold Zz
 simp only[List.mem_flatMap,List.mem_filterMap]
 constructor
 ·rintro ⟨a,ha,b,hb,h⟩
  split at h
  ·rename_i hc
   refine⟨a,Zl.mp ha,b,Zl.mp hb,hc.1,λs hs=>?_,(Option.some.inj h).symm⟩
   exact ZP.mp (List.all_eq_true.mp hc.2 s (Zl.mpr hs))
  ·cases h
 ·rintro ⟨a,ha,b,hb,h1,h2,rfl⟩
  refine⟨a,Zl.mpr ha,b,Zl.mpr hb,?_⟩
  rw[if_pos ⟨h1,List.all_eq_true.mpr λs hs=>ZP.mpr (h2 s (Zl.mp hs))⟩]
def mx(l:List Int):Int:=l.tail.foldl max (l.headD 0)
def mn(l:List Int):Int:=l.tail.foldl min (l.headD 0)
theorem Z05:∀(l:List Int) (m:Int),m<=l.foldl max m/\(∀x∈l,x<=l.foldl max m)/\(l.foldl max m=m\/l.foldl max m∈l)
 | [],m=>by simp
 |y::l,m=>by
  rw[List.foldl_cons]
  obtain⟨h1,h2,h3⟩:=Z05 l (max m y)
  have hm:m<=(max m y)/\y<=(max m y):=⟨Int.le_max_left ..,Int.le_max_right ..⟩
  refine⟨by omega,λx hx=>?_,?_⟩
  ·rcases List.mem_cons.mp hx with e|e
   ·subst e;omega
   ·exact h2 x e
  ·rcases h3 with q|q
   ·rw[q]
    rcases Int.le_total m y with h|h
    ·right;rw[Int.max_eq_right h];simp
    ·left;rw[Int.max_eq_left h]
   ·right;exact List.mem_cons_of_mem _ q
theorem Z06:∀(l:List Int) (m:Int),l.foldl min m<=m/\(∀x∈l,l.foldl min m<=x)/\(l.foldl min m=m\/l.foldl min m∈l)
 | [],m=>by simp
 |y::l,m=>by
  rw[List.foldl_cons]
  obtain⟨h1,h2,h3⟩:=Z06 l (min m y)
  have hm:(min m y)<=m/\(min m y)<=y:=⟨Int.min_le_left ..,Int.min_le_right ..⟩
  refine⟨by omega,λx hx=>?_,?_⟩
  ·rcases List.mem_cons.mp hx with e|e
   ·subst e;omega
   ·exact h2 x e
  ·rcases h3 with q|q
   ·rw[q]
    rcases Int.le_total m y with h|h
    ·left;rw[Int.min_eq_left h]
    ·right;rw[Int.min_eq_right h];simp
   ·right;exact List.mem_cons_of_mem _ q
def Z0g{l:List Int}{x:Int}(h:x∈l):x<=mx l:=by
 cases l with
 |nil=>cases h
 |cons y l=>
  obtain⟨h1,h2,_⟩:=Z05 l y
  rcases List.mem_cons.mp h with e|e
  ·subst e;exact h1
  ·exact h2 x e
def Z1P{l:List Int}(h:l≠[]):mx l∈l:=by
 cases l with
 |nil=>exact absurd rfl h
 |cons y l=>
  obtain⟨_,_,h3⟩:=Z05 l y
  rcases h3 with q|q
  ·show _∈y::l
   rw[show mx (y::l)=y from q];simp
  ·exact List.mem_cons_of_mem _ q
def Z0h{l:List Int}{x:Int}(h:x∈l):mn l<=x:=by
 cases l with
 |nil=>cases h
 |cons y l=>
  obtain⟨h1,h2,_⟩:=Z06 l y
  rcases List.mem_cons.mp h with e|e
  ·subst e;exact h1
  ·exact h2 x e
def Z1Q{l:List Int}(h:l≠[]):mn l∈l:=by
 cases l with
 |nil=>exact absurd rfl h
 |cons y l=>
  obtain⟨_,_,h3⟩:=Z06 l y
  rcases h3 with q|q
  ·show _∈y::l
   rw[show mn (y::l)=y from q];simp
  ·exact List.mem_cons_of_mem _ q
def box(S:List Pt):List Ln:=[(1,0,mx (S.map (·.1))),(-1,0,- mn (S.map (·.1))),(0,1,mx (S.map (·.2))),(0,-1,- mn (S.map (·.2)))]
def Zh(S:List Pt):List Ln:=box S++Zz S
def Z0G{S:List Pt}{l:Ln}(h:l∈Zh S){s:Pt}(hs:s∈S):hd l s=true:=by
 unfold Zh at h
 rcases List.mem_append.mp h with h|h
 ·have h1:=Z0g (List.mem_map_of_mem (f:=(·.1)) hs)
  have h2:=Z0h (List.mem_map_of_mem (f:=(·.1)) hs)
  have h3:=Z0g (List.mem_map_of_mem (f:=(·.2)) hs)
  have h4:=Z0h (List.mem_map_of_mem (f:=(·.2)) hs)
  unfold box at h
  simp only[List.mem_cons,List.not_mem_nil,or_false] at h
  unfold hd
  rw[decide_eq_true_iff]
  rcases h with e|e|e|e<;>subst e<;>simp only<;>omega
 ·obtain⟨a,_,b,_,_,h',rfl⟩:=Zs.mp h
  exact ZP.mpr (h' s hs)
def Zv(S:List Pt)(p:Pt):Option Ln:=(Zh S).find? λl=>!hd l p
def Z13{S:List Pt}{p:Pt}{l:Ln}(h:Zv S p=some l):l∈Zh S/\hd l p=false:=by
 unfold Zv at h
 have h1:=List.find?_some h
 have h2:=List.mem_of_find?_eq_some h
 exact⟨h2,by simpa using h1⟩
def Z14{S:List Pt}{p:Pt}(h:Zv S p=none):∀l∈Zh S,hd l p=true:=by
 unfold Zv at h
 intro l hl
 have:=List.find?_eq_none.mp h l hl
 simpa using this
def Jz(a b c p:Pt):List Int:=[tn p b c,tn a p c,tn a b p]
def tu(a b p:Pt):List Int:=
 let g:=(b.1-a.1)*(p.1-a.1)+(b.2-a.2)*(p.2-a.2)
 [(b.1-a.1)*(b.1-a.1)+(b.2-a.2)*(b.2-a.2)-g,g]
def ZB(w:List Int):Bool:=decide (w.sum≠0) && w.all λs=>decide (0<=s*w.sum)
def Z1q{a b c p:Pt}:ZB (Jz a b c p)=true↔um a b c p:=by
 unfold ZB Jz um
 have e:[tn p b c,tn a p c,tn a b p].sum=tn a b c:=by simp;have:=Z00 a b c p;omega
 rw[e]
 simp[and_assoc]
def at_(S:List Pt)(i:Nat):Pt:=S.getD i (0,0)
def Z01{S:List Pt}{i:Nat}(h:i<S.length):at_ S i∈S:=by
 unfold at_
 rw[List.getD_eq_getElem?_getD,List.getElem?_eq_getElem h]
 exact List.getElem_mem h
def ZL{S:List Pt}{x:Pt}(h:x∈S):∃i,i<S.length/\at_ S i=x:=by
 obtain⟨i,hi,e⟩:=List.mem_iff_getElem.mp h
 exact⟨i,hi,by unfold at_;rw[List.getD_eq_getElem?_getD,List.getElem?_eq_getElem hi];exact e⟩
def Z0i(n:Nat):List (Nat×Nat):=(List.range n).flatMap λj=>(List.range j).map λi=>(i,j)
def ZQ(n:Nat):List (Nat×Nat×Nat):=(List.range n).flatMap λk=>(Z0i k).map λq=>(q.1,q.2,k)
def ZA{n i j:Nat}:(i,j)∈Z0i n↔i<j/\j<n:=by
 unfold Z0i
 simp only[List.mem_flatMap,List.mem_range,List.mem_map,Prod.mk.injEq]
 constructor
 ·rintro ⟨k,hk,m,hm,rfl,rfl⟩;exact⟨hm,hk⟩
 ·rintro ⟨h1,h2⟩;exact⟨j,h2,i,h1,rfl,rfl⟩
def Zi{n i j k:Nat}:(i,j,k)∈ZQ n↔i<j/\j<k/\k<n:=by
 unfold ZQ
 simp only[List.mem_flatMap,List.mem_range,List.mem_map,Prod.mk.injEq]
 constructor
 ·rintro ⟨m,hm,⟨a,b⟩,hq,rfl,rfl,rfl⟩
  have:=ZA.mp hq
  exact⟨this.1,this.2,hm⟩
 ·rintro ⟨h1,h2,h3⟩;exact⟨k,h3,(i,j),ZA.mpr ⟨h1,h2⟩,rfl,rfl,rfl⟩
def Z1r(S:List Pt)(p:Pt):Option (List Int×List Nat):=(ZQ S.length).findSome? λq=>if ZB (Jz (at_ S q.1) (at_ S q.2.1) (at_ S q.2.2) p) then some (Jz (at_ S q.1) (at_ S q.2.1) (at_ S q.2.2) p,[q.1,q.2.1,q.2.2]) else none
def Z2j(S:List Pt)(p:Pt):Option (List Int×List Nat):=(Z0i S.length).findSome? λq=>if ZB (tu (at_ S q.1) (at_ S q.2) p) then some (tu (at_ S q.1) (at_ S q.2) p,[q.1,q.2]) else none
def Xf(S:List Pt)(p:Pt):List Int×List Nat:=((Z1r S p).orElse λ_=>Z2j S p).getD ([1],[0])
structure Z1s(S:List Pt)(p:Pt)(w:List Int)(q:List Nat):Prop where
 len:w.length=q.length
 sum:w.sum≠0
 sign:∀s∈w,0<=s*w.sum
 nd:q.Nodup
 lt:∀i∈q,i<S.length
 x:((w.zip q).map λa=>a.1*(at_ S a.2).1).sum=w.sum*p.1
 y:((w.zip q).map λa=>a.1*(at_ S a.2).2).sum=w.sum*p.2
def Zw{w:List Int}:ZB w=true↔w.sum≠0/\∀s∈w,0<=s*w.sum:=by
 unfold ZB
 simp
def Z2K{S:List Pt}{p:Pt}{i j k:Nat}(h1:i<j)(h2:j<k)(h3:k<S.length)(h:ZB (Jz (at_ S i) (at_ S j) (at_ S k) p)=true):Z1s S p (Jz (at_ S i) (at_ S j) (at_ S k) p) [i,j,k]:=by
 have hs:=Zw.mp h
 refine⟨rfl,hs.1,hs.2,by simp;omega,by simp;omega,?_,?_⟩
 ·unfold Jz
  simp[tn]
  grind
 ·unfold Jz
  simp[tn]
  grind
def Z2L{S:List Pt}{p:Pt}{i j:Nat}(h1:i<j)(h2:j<S.length)(h:ZB (tu (at_ S i) (at_ S j) p)=true)(on:tn (at_ S i) (at_ S j) p=0):Z1s S p (tu (at_ S i) (at_ S j) p) [i,j]:=by
 have hs:=Zw.mp h
 refine⟨rfl,hs.1,hs.2,by simp;omega,by simp;omega,?_,?_⟩
 ·unfold tu
  unfold tn at on
  simp
  grind
 ·unfold tu
  unfold tn at on
  simp
  grind
def ZR{a b:Pt}:tn a a b=0/\tn a b a=0/\tn b a a=0:=by simp only[tn];grind
def Z2M{S:List Pt}{p:Pt}{i j k:Nat}(hi:i<S.length)(hj:j<S.length)(hk:k<S.length)(h:um (at_ S i) (at_ S j) (at_ S k) p):∃i j k,(i,j,k)∈ZQ S.length/\um (at_ S i) (at_ S j) (at_ S k) p:=by
 have n1:i≠j:=λe=>h.1 (by rw[e];exact ZR.1)
 have n2:j≠k:=λe=>h.1 (by rw[e];exact ZR.2.2)
 have n3:i≠k:=λe=>h.1 (by rw[e];exact ZR.2.1)
 rcases Nat.lt_or_gt_of_ne n1 with a|a<;>rcases Nat.lt_or_gt_of_ne n2 with b|b<;>rcases Nat.lt_or_gt_of_ne n3 with c|c
 ·exact⟨i,j,k,Zi.mpr ⟨a,b,hk⟩,h⟩
 ·omega
 ·exact⟨i,k,j,Zi.mpr ⟨c,b,hj⟩,h.swap.zQ.swap.zQ.swap.zQ.swap.zQ.swap.zQ |> λ_=>h.zQ.swap.zQ.zQ⟩
 ·exact⟨k,i,j,Zi.mpr ⟨c,a,hj⟩,h.zQ.zQ⟩
 ·exact⟨j,i,k,Zi.mpr ⟨a,c,hk⟩,h.swap⟩
 ·exact⟨j,k,i,Zi.mpr ⟨b,c,hi⟩,h.zQ⟩
 ·omega
 ·exact⟨k,j,i,Zi.mpr ⟨b,a,hi⟩,h.zQ.swap⟩
def Z15{S:List Pt}{p:Pt}(h:Z1r S p=none):∀x∈S,∀y∈S,∀z∈S,¬um x y z p:=by
 intro x hx y hy z hz hin
 obtain⟨i,hi,rfl⟩:=ZL hx
 obtain⟨j,hj,rfl⟩:=ZL hy
 obtain⟨k,hk,rfl⟩:=ZL hz
 obtain⟨i,j,k,hm,h3⟩:=Z2M hi hj hk hin
 have:=List.findSome?_eq_none_iff.mp h (i,j,k) hm
 rw[if_pos (Z1q.mpr h3)] at this
 cases this
def Z16{S:List Pt}{p:Pt}(hS:S≠[])(h:Zv S p=none):Z1s S p (Xf S p).1 (Xf S p).2:=by
 have hl:=Z14 h
 unfold Xf
 cases e3:Z1r S p with
 |some r=>
  obtain⟨⟨i,j,k⟩,hm,hr⟩:=List.exists_of_findSome?_eq_some e3
  obtain⟨h1,h2,h4⟩:=Zi.mp hm
  split at hr
  ·rename_i hw
   cases hr
   exact Z2K h1 h2 h4 hw
  ·cases hr
 |none=>
  have no:=Z15 e3
  have flat:∀x∈S,∀y∈S,∀z∈S,tn x y z=0:=by
   intro x hx y hy z hz
   by_cases q:tn x y z=0
   ·exact q
   ·exfalso
    obtain⟨a,ha,b,hb,hab,h1,h2⟩:=Z31 ⟨x,hx,y,hy,z,hz,q⟩ no
    have:=ZP.mp (hl (Z1 a b) (List.mem_append_right _ (Zs.mpr ⟨a,ha,b,hb,hab,h1,rfl⟩)))
    omega
  have on:∀a∈S,∀b∈S,tn a b p=0:=by
   intro a ha b hb
   by_cases hab:a=b
   ·subst hab;exact ZR.1
   ·have h1:=ZP.mp (hl (Z1 a b) (List.mem_append_right _ (Zs.mpr ⟨a,ha,b,hb,hab,λs hs=>by rw[flat a ha b hb s hs];exact Int.le_refl 0,rfl⟩)))
    have h2:=ZP.mp (hl (Z1 b a) (List.mem_append_right _ (Zs.mpr ⟨b,hb,a,ha,λe=>hab e.symm,λs hs=>by rw[flat b hb a ha s hs];exact Int.le_refl 0,rfl⟩)))
    rw[ZC a b p] at h2
    omega
  have bx:∀l∈box S,hd l p=true:=λl hm=>hl l (List.mem_append_left _ hm)
  have b1:=bx (1,0,mx (S.map (·.1))) (by simp[box])
  have b2:=bx (-1,0,- mn (S.map (·.1))) (by simp[box])
  have b3:=bx (0,1,mx (S.map (·.2))) (by simp[box])
  have b4:=bx (0,-1,- mn (S.map (·.2))) (by simp[box])
  simp only[hd,decide_eq_true_iff] at b1 b2 b3 b4
  have c1:p.1<=mx (S.map (·.1)):=by omega
  have c2:mn (S.map (·.1))<=p.1:=by omega
  have c3:p.2<=mx (S.map (·.2)):=by omega
  have c4:mn (S.map (·.2))<=p.2:=by omega
  have sq:∀z:Int,0<=z*z:=λz=>by
   rcases Int.le_total 0 z with q|q
   ·exact Int.mul_nonneg q q
   ·exact Int.mul_nonneg_of_nonpos_of_nonpos q q
  cases e2:Z2j S p with
  |some r=>
   obtain⟨⟨i,j⟩,hm,hr⟩:=List.exists_of_findSome?_eq_some e2
   obtain⟨h1,h2⟩:=ZA.mp hm
   split at hr
   ·rename_i hw
    cases hr
    exact Z2L h1 h2 hw (on _ (Z01 (by omega)) _ (Z01 h2))
   ·cases hr
  |none=>
   have no2:∀a∈S,∀b∈S,¬(ZB (tu a b p)=true):=by
    intro a ha b hb hw
    obtain⟨i,hi,rfl⟩:=ZL ha
    obtain⟨j,hj,rfl⟩:=ZL hb
    have fall:∀i j,i<j->j<S.length->ZB (tu (at_ S i) (at_ S j) p)=true->False:=by
     intro i j h1 h2 hw
     have:=List.findSome?_eq_none_iff.mp e2 (i,j) (ZA.mpr ⟨h1,h2⟩)
     rw[if_pos hw] at this
     cases this
    rcases Nat.lt_trichotomy i j with q|q|q
    ·exact fall i j q hj hw
    ·subst q
     refine(Zw.mp hw).1 ?_
     simp[tu]
    ·refine fall j i q hi ?_
     rw[Zw] at hw ⊢
     have e1:(tu (at_ S j) (at_ S i) p).sum=(tu (at_ S i) (at_ S j) p).sum:=by simp[tu];grind
     refine⟨by rw[e1];exact hw.1,λs hs=>?_⟩
     rw[e1]
     refine hw.2 s ?_
     simp[tu] at hs ⊢
     rcases hs with e|e
     ·right;rw[e];grind
     ·left;rw[e];grind
   have key:∀a∈S,∀b∈S,(0<b.1-a.1->a.1<=p.1->p.1<=b.1->False)/\(0<b.2-a.2->a.2<=p.2->p.2<=b.2->False):=by
    intro a ha b hb
    have o:=on a ha b hb
    have e:(b.1-a.1)*(p.2-a.2)=(b.2-a.2)*(p.1-a.1):=by unfold tn at o;omega
    refine⟨λh1 h2 h3=>no2 a ha b hb ?_,λh1 h2 h3=>no2 a ha b hb ?_⟩
    all_goals
     rw[Zw]
     have hsum:(tu a b p).sum=(b.1-a.1)*(b.1-a.1)+(b.2-a.2)*(b.2-a.2):=by simp[tu]
     have s1:=sq (b.1-a.1)
     have s2:=sq (b.2-a.2)
    ·have pos:0<(b.1-a.1)*(b.1-a.1):=Int.mul_pos h1 h1
     have g1:0<=(b.1-a.1)*(p.1-a.1)+(b.2-a.2)*(p.2-a.2):=by
      have i1:((b.1-a.1)*(p.1-a.1)+(b.2-a.2)*(p.2-a.2))*(b.1-a.1)=((b.1-a.1)*(b.1-a.1)+(b.2-a.2)*(b.2-a.2))*(p.1-a.1):=by grind
      have i2:0<=((b.1-a.1)*(b.1-a.1)+(b.2-a.2)*(b.2-a.2))*(p.1-a.1):=Int.mul_nonneg (by omega) (by omega)
      by_cases q:0<=(b.1-a.1)*(p.1-a.1)+(b.2-a.2)*(p.2-a.2)
      ·exact q
      ·have:=Int.mul_neg_of_neg_of_pos (show(b.1-a.1)*(p.1-a.1)+(b.2-a.2)*(p.2-a.2)<0 by omega) h1
       omega
     have g2:0<=(b.1-a.1)*(b.1-a.1)+(b.2-a.2)*(b.2-a.2)-((b.1-a.1)*(p.1-a.1)+(b.2-a.2)*(p.2-a.2)):=by
      have i1:((b.1-a.1)*(b.1-a.1)+(b.2-a.2)*(b.2-a.2)-((b.1-a.1)*(p.1-a.1)+(b.2-a.2)*(p.2-a.2)))*(b.1-a.1)=((b.1-a.1)*(b.1-a.1)+(b.2-a.2)*(b.2-a.2))*(b.1-p.1):=by grind
      have i2:0<=((b.1-a.1)*(b.1-a.1)+(b.2-a.2)*(b.2-a.2))*(b.1-p.1):=Int.mul_nonneg (by omega) (by omega)
      by_cases q:0<=(b.1-a.1)*(b.1-a.1)+(b.2-a.2)*(b.2-a.2)-((b.1-a.1)*(p.1-a.1)+(b.2-a.2)*(p.2-a.2))
      ·exact q
      ·have:=Int.mul_neg_of_neg_of_pos (show(b.1-a.1)*(b.1-a.1)+(b.2-a.2)*(b.2-a.2)-((b.1-a.1)*(p.1-a.1)+(b.2-a.2)*(p.2-a.2))<0 by omega) h1
       omega
     rw[hsum]
     refine⟨by omega,λs hs=>?_⟩
     simp[tu] at hs
     rcases hs with e|e<;>rw[e]
     ·exact Int.mul_nonneg g2 (by omega)
     ·exact Int.mul_nonneg g1 (by omega)
    ·have pos:0<(b.2-a.2)*(b.2-a.2):=Int.mul_pos h1 h1
     have g1:0<=(b.1-a.1)*(p.1-a.1)+(b.2-a.2)*(p.2-a.2):=by
      have i1:((b.1-a.1)*(p.1-a.1)+(b.2-a.2)*(p.2-a.2))*(b.2-a.2)=((b.1-a.1)*(b.1-a.1)+(b.2-a.2)*(b.2-a.2))*(p.2-a.2):=by grind
      have i2:0<=((b.1-a.1)*(b.1-a.1)+(b.2-a.2)*(b.2-a.2))*(p.2-a.2):=Int.mul_nonneg (by omega) (by omega)
      by_cases q:0<=(b.1-a.1)*(p.1-a.1)+(b.2-a.2)*(p.2-a.2)
      ·exact q
      ·have:=Int.mul_neg_of_neg_of_pos (show(b.1-a.1)*(p.1-a.1)+(b.2-a.2)*(p.2-a.2)<0 by omega) h1
       omega
     have g2:0<=(b.1-a.1)*(b.1-a.1)+(b.2-a.2)*(b.2-a.2)-((b.1-a.1)*(p.1-a.1)+(b.2-a.2)*(p.2-a.2)):=by
      have i1:((b.1-a.1)*(b.1-a.1)+(b.2-a.2)*(b.2-a.2)-((b.1-a.1)*(p.1-a.1)+(b.2-a.2)*(p.2-a.2)))*(b.2-a.2)=((b.1-a.1)*(b.1-a.1)+(b.2-a.2)*(b.2-a.2))*(b.2-p.2):=by grind
      have i2:0<=((b.1-a.1)*(b.1-a.1)+(b.2-a.2)*(b.2-a.2))*(b.2-p.2):=Int.mul_nonneg (by omega) (by omega)
      by_cases q:0<=(b.1-a.1)*(b.1-a.1)+(b.2-a.2)*(b.2-a.2)-((b.1-a.1)*(p.1-a.1)+(b.2-a.2)*(p.2-a.2))
      ·exact q
      ·have:=Int.mul_neg_of_neg_of_pos (show(b.1-a.1)*(b.1-a.1)+(b.2-a.2)*(b.2-a.2)-((b.1-a.1)*(p.1-a.1)+(b.2-a.2)*(p.2-a.2))<0 by omega) h1
       omega
     rw[hsum]
     refine⟨by omega,λs hs=>?_⟩
     simp[tu] at hs
     rcases hs with e|e<;>rw[e]
     ·exact Int.mul_nonneg g2 (by omega)
     ·exact Int.mul_nonneg g1 (by omega)
   have nm:∀f:Pt->Int,S.map f≠[]:=λf e=>hS (List.map_eq_nil_iff.mp e)
   obtain⟨xa,hxa,exa⟩:=List.mem_map.mp (Z1Q (nm (·.1)))
   obtain⟨xb,hxb,exb⟩:=List.mem_map.mp (Z1P (nm (·.1)))
   obtain⟨ya,hya,eya⟩:=List.mem_map.mp (Z1Q (nm (·.2)))
   obtain⟨yb,hyb,eyb⟩:=List.mem_map.mp (Z1P (nm (·.2)))
   have h0:at_ S 0∈S:=Z01 (List.length_pos_iff.mpr hS)
   have l1:=Z0g (List.mem_map_of_mem (f:=(·.1)) h0)
   have l2:=Z0h (List.mem_map_of_mem (f:=(·.1)) h0)
   have l3:=Z0g (List.mem_map_of_mem (f:=(·.2)) h0)
   have l4:=Z0h (List.mem_map_of_mem (f:=(·.2)) h0)
   have ex:p.1=(at_ S 0).1:=by
    by_cases q:mn (S.map (·.1))<mx (S.map (·.1))
    ·exact((key xa hxa xb hxb).1 (by omega) (by omega) (by omega)).elim
    ·omega
   have ey:p.2=(at_ S 0).2:=by
    by_cases q:mn (S.map (·.2))<mx (S.map (·.2))
    ·exact((key ya hya yb hyb).2 (by omega) (by omega) (by omega)).elim
    ·omega
   refine⟨rfl,by simp,by simp,by simp,by simp;exact List.length_pos_iff.mpr hS,?_,?_⟩
   ·simp[ex]
   ·simp[ey]
end Hu
namespace Fr
end Fr
namespace T
open PySem L2 M2 M3 M4 P
noncomputable section
def top(i:Nat):Stmt:=PySem.Challenge.pw_shadowpost_k37_whole_turned_yards.main.body.getD i (.Pass ⟨0,0,0,0⟩)
abbrev JB:Stmt:=top 52
abbrev JC:Stmt:=top 47
abbrev JD:Stmt:=top 51
abbrev Xg:Stmt:=inClass (top 44) 0
abbrev JF:Stmt:=top 6
abbrev JG:Stmt:=top 8
abbrev JH:Stmt:=top 7
abbrev JK:Stmt:=top 5
abbrev JL:Stmt:=top 9
abbrev JM:Stmt:=top 10
abbrev JN:Stmt:=top 12
abbrev JQ:Stmt:=top 34
abbrev Xh:Stmt:=top 35
abbrev JR:Stmt:=inClass (top 37) 0
abbrev JT:Stmt:=inClass (top 38) 0
abbrev JV:Stmt:=inClass (top 39) 0
abbrev Xi:Stmt:=inClass (top 40) 0
abbrev Xj:Stmt:=inClass (top 41) 0
abbrev JW:Stmt:=top 14
abbrev JX:Stmt:=top 16
abbrev JZ:Stmt:=top 17
abbrev J_:Stmt:=top 18
abbrev Xk:Stmt:=top 19
abbrev Ka:Stmt:=top 20
abbrev Xl:Stmt:=top 21
abbrev Kc:Stmt:=top 22
abbrev Kd:Stmt:=top 26
abbrev Ke:Stmt:=top 27
abbrev Kf:Stmt:=top 29
abbrev Xm:Stmt:=inClass (top 36) 0
abbrev Kg:Stmt:=top 30
abbrev Kh:Stmt:=top 31
abbrev Xn:Stmt:=top 32
abbrev Xo:Stmt:=top 28
abbrev Kl:Stmt:=top 33
abbrev Km:Stmt:=top 42
abbrev Ko:Stmt:=top 56
abbrev Kp:Stmt:=top 46
abbrev Kq:Stmt:=top 49
abbrev Kr:Stmt:=top 48
abbrev Ks:Stmt:=top 50
abbrev Ku:Stmt:=top 57
abbrev Kv:Stmt:=top 53
abbrev Xp:Stmt:=top 54
abbrev Kw:Stmt:=top 55
abbrev Ky:Stmt:=top 58
def cmB(c0:Addr)(c1:Addr)(c2:Addr)(c3:Addr)(c4:Addr)(c5:Addr)(c6:Addr):String->Addr:=λs=>match s with
 | "Thing" =>c0
 | "Post" =>c1
 | "Fence" =>c2
 | "Sail" =>c3
 | "Cloth" =>c4
 | "House" =>c5
 | "Yard" =>c6
 |_=>0
def dH:M Fl:=(ě (dX (eY (bA (ą ř (ą ľ (ą Ť (Ā 0) (mC (.int 7))) (mC (.int 16))) (mC (.int 11)))) (bA (ą Hw (Ā 1) (mC (.int 6)))))
 (Ħ (ŝ (ą č (ċ (ŧ (ā (ĩ (ā (mC (.int 1)) (ā (mC (.int 20)) Ē))) (ā (ĩ (ā (mC (.int 20)) (ā (mC (.int 1)) Ē))) Ē)))) (ą ľ (Ā 0) (mC (.int 2))))))
 fQ)
 (ě (Ĩ 2 (Ģ ġ (mC (.int 1)) (ą ľ (Ā 0) (gG fu (ā (mC (.int 5)) (ā (Ā 1) Ē))))))
 (Ħ (ŝ (ĩ (ā (ė 2) (ā (ċ (Ģ ġ (mC (.int 1)) (ą ľ (ą Ť (Ā 0) (mC (.int 5))) (gG fu (ā (mC (.int 4)) (ā (ą Ť (Ā 1) (Ā 2)) Ē)))))) Ē)))))))
def cu:MF:=Ļ 2 3 dH
def iH:M Fl:=(dX (bA (ą ř (ą ľ (Ā 0) (mC (.int 2))) (mC (.int 0))))
 (ě (uV 2 (ą ľ (Ā 3) (mC (.int 524287))))
 (Ĩ 3 (ŝ (ą Ť (Ā 3) (mC (.int 524287))))))
 (ě (Ĩ 3 (ŝ (ą ľ (ċ (Ģ ġ (ċ (Ģ ġ (ą Ī (Ā 3) (mC (.int 49157))) (mC (.int 24593)))) (ą Ī (mC (.int 2)) (Ā 4)))) (mC (.int 8388593)))))
 (uV 2 (ą Ť (Ā 3) (mC (.int 16))))))
def vJ:M Fl:=(ě (Ĩ 2 (ŧ Ē))
 (ě (Ĩ 3 (ŝ (ą Ť (Ā 0) (mC (.int 2)))))
 (ě (dX (bA (ą ř (ą ľ (Ā 0) (mC (.int 2))) (mC (.int 1))))
 (Ĩ 3 (ŝ (ą ľ (Ā 3) (mC (.int 8388593)))))
 fQ)
 (ě (gH (fU eZ (ā (ė 1) Ē)) (gN 4) iH)
 (Ħ (cX 2))))))
def jd:MF:=Ļ 2 5 vJ
def Dh:M Fl:=(ě (Ĩ 1 (Ď jd (Ć 0 (Ċ (mC (.int 4)) Ĉ))))
 (ě (Ĩ 2 (ŝ (ą č (ċ (ŧ (ā (mC (.int 1)) (ā (mC (.int 1)) (ā (mC (.int 3)) (ā (ą nD (mC (.int 10)) (mC (.int 5))) Ē)))))) (ą ľ (ą č (Ā 1) (mC (.int 3))) (mC (.int 4))))))
 (Ħ (ŝ (ĩ (ā (ą Ī (ą ŀ (ą ľ (ą č (Ā 1) (mC (.int 0))) (mC (.int 13))) (mC (.int 6))) (Ā 2)) (ā (ą Ī (ą ŀ (ą ľ (ą č (Ā 1) (mC (.int 1))) (mC (.int 13))) (mC (.int 6))) (Ā 2)) (ā (ą Ī (ċ (Ģ ġ (mC (.int 1)) (ą ľ (ą č (Ā 1) (mC (.int 2))) (mC (.int 5))))) (Ā 2)) Ē))))))))
def lB:MF:=Ļ 1 3 Dh
def Di:M Fl:=(ě (fB 0 ["Yard"] "width" (ė 1))
 (ě (fB 0 ["Yard"] "height" (ė 2))
 (ě (fB 0 ["Yard"] "things" (ċ (iC aN (ā (Ā 3) Ē))))
 (fB 0 ["Yard"] "days" (ċ (ŉ [] 3 (ņ 4) (gT 3 (Č (gN 0) (Č (gN 1) (Č (gN 2) ĸ)))) Ŀ (ĩ (ā (ė 0) (ā (ė 1) (ā (ċ (iC aN (ā (Ā 2) Ē))) Ē))))))))))
def jM:MI:=aO 5 5 "Yard" Di
def Dj:M Fl:=(ě (Ĩ 1 (ŉ [] 1 (ņ 0) (gN 0) Ŀ (ą č (Ā 0) (mC (.int 0)))))
 (ě (Ĩ 2 (ŉ [] 1 (ņ 0) (gN 0) Ŀ (ą č (Ā 0) (mC (.int 1)))))
 (Ħ (ŧ (ā (ĩ (ā (mC (.int 1)) (ā (mC (.int 0)) (ā (gG dG (ā (Ā 1) Ē)) Ē)))) (ā (ĩ (ā (jq fj (mC (.int 1))) (ā (mC (.int 0)) (ā (jq fj (gG nM (ā (Ā 1) Ē))) Ē)))) (ā (ĩ (ā (mC (.int 0)) (ā (mC (.int 1)) (ā (gG dG (ā (Ā 2) Ē)) Ē)))) (ā (ĩ (ā (mC (.int 0)) (ā (jq fj (mC (.int 1))) (ā (jq fj (gG nM (ā (Ā 2) Ē))) Ē)))) Ē))))))))
def xY:MF:=Ļ 1 3 Dj
def iI:M Fl:=(dX (bA (ą (inD true) (Ā 2) (Ā 1)))
 (uV 1 (ė 2))
 fQ)
def Dk:M Fl:=(ě (Ĩ 1 (ŧ Ē))
 (ě (gH (ņ 0) (gN 2) iI)
 (Ħ (cX 1))))
def xZ:MF:=Ļ 1 3 Dk
def Dl:M Fl:=(ě (Ĩ 2 (ŝ (ą ŀ (ą č (Ā 1) (mC (.int 1))) (ą č (Ā 0) (mC (.int 1))))))
 (ě (Ĩ 3 (ŝ (ą ŀ (ą č (Ā 0) (mC (.int 0))) (ą č (Ā 1) (mC (.int 0))))))
 (Ħ (ŝ (ĩ (ā (ė 2) (ā (ė 3) (ā (ċ (Ģ ġ (ą Ī (Ā 2) (ą č (Ā 0) (mC (.int 0)))) (ą Ī (Ā 3) (ą č (Ā 0) (mC (.int 1)))))) Ē))))))))
def yc:MF:=Ļ 2 4 Dl
def Dp:M Fl:=(Ħ (ŝ (ą pP (ċ (Ģ ġ (ą Ī (ą č (Ā 0) (mC (.int 0))) (ą č (Ā 1) (mC (.int 0)))) (ą Ī (ą č (Ā 0) (mC (.int 1))) (ą č (Ā 1) (mC (.int 1)))))) (ą č (Ā 0) (mC (.int 2))))))
def nW:MF:=Ļ 2 2 Dp
def iJ:M Fl:=(ě (Ĩ 5 (Ď yc (Ć 3 (Ć 4 Ĉ))))
 (dX (eY (bA (ą bU (Ā 3) (Ā 4))) (pH (gG sG (ā (ċ (ŉ [5] 1 (ņ 2) (gN 1) Ŀ (ċ (Ď nW (Ć 0 (Ć 1 Ĉ)))))) Ē))))
 (uV 1 (ė 5))
 fQ))
def qm:M Fl:=(gH (ņ 2) (gN 4) iJ)
def Dq:M Fl:=(ě (Ĩ 1 (ŧ Ē))
 (ě (Ĩ 2 (Ď xZ (Ć 0 Ĉ)))
 (ě (gH (ņ 2) (gN 3) qm)
 (Ħ (cX 1)))))
def yd:MF:=Ļ 1 6 Dq
def Dt:M Fl:=(Ħ (Ģ ġ (ċ (Ď xY (Ć 0 Ĉ))) (ċ (Ď yd (Ć 0 Ĉ)))))
def yg:MF:=Ļ 1 1 Dt
def Du:M Fl:=(Ħ (ŝ (ĩ (ā (ċ (Ģ ġ (ą Ī (ą č (Ā 1) (mC (.int 2))) (ą č (Ā 0) (mC (.int 0)))) (ą Ī (ą č (Ā 1) (mC (.int 0))) (ą č (Ā 0) (mC (.int 2)))))) (ā (ċ (Ģ ġ (ą Ī (ą č (Ā 1) (mC (.int 2))) (ą č (Ā 0) (mC (.int 1)))) (ą Ī (ą č (Ā 1) (mC (.int 1))) (ą č (Ā 0) (mC (.int 2)))))) Ē)))))
def nY:MF:=Ļ 2 2 Du
def Dv:M Fl:=(Ħ (ŧ (ā (ĩ (ā (ė 0) (ā (ė 1) (ā (ė 4) Ē)))) (ā (ĩ (ā (ė 2) (ā (ė 1) (ā (ė 4) Ē)))) (ā (ĩ (ā (ė 2) (ā (ė 3) (ā (ė 4) Ē)))) (ā (ĩ (ā (ė 0) (ā (ė 3) (ā (ė 4) Ē)))) Ē))))))
def nZ:MF:=Ļ 5 5 Dv
def Kz:M Fl:=(Ħ (Ģ ġ (ċ (Ď nZ (Ć 0 (Ć 1 (Ć 2 (Ć 3 (Ċ (mC (.int 0)) Ĉ))))))) (ċ (Ď nZ (Ć 0 (Ć 1 (Ć 2 (Ć 3 (Ć 4 Ĉ)))))))))
def Dw:MF:=Ļ 5 5 Kz
def Dz:M Fl:=(ě (Ĩ 1 (ŝ (ą Ī (mC (.int 2)) (ą č (jq (ż ["Thing","Post","Fence","Sail","Cloth","House"] "numbers") (Ā 0)) (mC (.int 0))))))
 (ě (Ĩ 2 (ŝ (ą Ī (mC (.int 2)) (ą č (jq (ż ["Thing","Post","Fence","Sail","Cloth","House"] "numbers") (Ā 0)) (mC (.int 1))))))
 (Ħ (Ď Dw (Ċ (ą ŀ (Ā 1) (mC (.int 1))) (Ċ (ą ŀ (Ā 2) (mC (.int 1))) (Ċ (ċ (Ģ ġ (Ā 1) (mC (.int 1)))) (Ċ (ċ (Ģ ġ (Ā 2) (mC (.int 1)))) (Ċ (ą č (jq (ż ["Thing","Post","Fence","Sail","Cloth","House"] "numbers") (Ā 0)) (mC (.int 2))) Ĉ)))))))))
def je:MF:=Ļ 1 3 Dz
def DN:M Fl:=(ě (Ĩ 1 (ŝ (jq (ż ["Thing","Post","Fence","Sail","Cloth","House"] "numbers") (Ā 0))))
 (ě (Ĩ 2 (ŝ (ĩ (ā (ą č (Ā 1) (mC (.int 0))) (ā (ą č (Ā 1) (mC (.int 1))) Ē)))))
 (ě (Ĩ 3 (ŝ (ĩ (ā (ą č (Ā 1) (mC (.int 2))) (ā (ą č (Ā 1) (mC (.int 3))) Ē)))))
 (Ħ (ŧ (ā (ċ (Ģ ġ (Ā 2) (ĩ (ā (mC (.int 0)) Ē)))) (ā (ċ (Ģ ġ (Ā 3) (ĩ (ā (mC (.int 0)) Ē)))) (ā (ċ (Ģ ġ (Ā 3) (ĩ (ā (ą č (Ā 1) (mC (.int 4))) Ē)))) (ā (ċ (Ģ ġ (Ā 2) (ĩ (ā (ą č (Ā 1) (mC (.int 4))) Ē)))) Ē)))))))))
def jf:MF:=Ļ 1 4 DN
def DP:M Fl:=(ě (Ĩ 1 (ŝ (jq (ż ["Thing","Post","Fence","Sail","Cloth","House"] "numbers") (Ā 0))))
 (Ħ (Ď nZ (Ċ (ą č (Ā 1) (mC (.int 0))) (Ċ (ą č (Ā 1) (mC (.int 1))) (Ċ (ą č (Ā 1) (mC (.int 2))) (Ċ (ą č (Ā 1) (mC (.int 3))) (Ċ (ą č (Ā 1) (mC (.int 4))) Ĉ))))))))
def jg:MF:=Ļ 1 2 DP
def KC:M Fl:=(Ħ (ŉ [0] 1 (ŏ (ĩ (ā (mC (.int 0)) (ā (mC (.int 3)) (ā (mC (.int 6)) Ē))))) (gN 1) Ŀ (gG kE (ā (ċ (xK (jq (ż ["Thing","Post","Fence","Sail","Cloth","House"] "numbers") (Ā 0)) (mP (ė 1)) (mP (ċ (Ģ ġ (Ā 1) (mC (.int 3))))))) Ē))))
def tD:MF:=Ļ 1 1 KC
def KD:M Fl:=(ě (Ĩ 1 (ŝ (jq (ż ["Thing","Post","Fence","Sail","Cloth","House"] "numbers") (Ā 0))))
 (Ħ (Ď Dw (Ċ (ą č (Ā 1) (mC (.int 0))) (Ċ (ą č (Ā 1) (mC (.int 1))) (Ċ (ą č (Ā 1) (mC (.int 2))) (Ċ (ą č (Ā 1) (mC (.int 3))) (Ċ (ą č (Ā 1) (mC (.int 4))) Ĉ))))))))
def tE:MF:=Ļ 1 2 KD
def DQ:M Fl:=(Ħ (ŉ [1] 1 (ŏ (ċ (kO "corners" [("Post",je),("Fence",jf),("Sail",jg),("Cloth",tD),("House",tE)] (ė 0) Ĉ))) (gN 1) Ŀ (ċ (Ď nY (Ć 1 (Ć 0 Ĉ))))))
def tH:MF:=Ļ 2 2 DQ
def vK:M Fl:=(ě (dX (bA (ą pO (Ā 1) (Ā 0)))
 (Ħ (ŝ (mC (.int 0))))
 fQ)
 (Ħ (ŝ (ą ŀ (ą rZ (mC (.int 1)) (ċ (Ģ ġ (Ā 1) (mC (.int 1))))) (ą rZ (mC (.int 1)) (Ā 0))))))
def n_:MF:=Ļ 2 2 vK
def aX:M Fl:=(ě (Ĩ 9 (ŝ (ą Ī (Ā 6) (Ā 1))))
 (ě (Ĩ 10 (ŝ (ą ŀ (Ā 8) (ą Ī (ą Ī (Ā 7) (Ā 1)) (Ā 2)))))
 (dX (bA (ą Hw (Ā 9) (mC (.int 0))))
 (Ĩ 5 (ŝ (gG fu (ā (Ā 5) (ā (ą Ť (Ā 10) (Ā 9)) Ē)))))
 (dX (bA (ą pO (Ā 9) (mC (.int 0))))
 (Ĩ 4 (ŝ (gG xO (ā (Ā 4) (ā (jq fj (ą Ť (Ā 10) (jq fj (Ā 9)))) Ē)))))
 (dX (bA (ą pO (Ā 10) (mC (.int 0))))
 (Ħ (ŝ (mC (.int 0))))
 fQ)))))
def vL:M Fl:=(ě (Ĩ 4 (ŝ (mC (.int 0))))
 (ě (Ĩ 5 (ŝ (ą ŀ (Ā 3) (mC (.int 1)))))
 (ě (gH (ņ 0) (gT 3 (Č (gN 6) (Č (gN 7) (Č (gN 8) ĸ)))) aX)
 (Ħ (Ď n_ (Ć 4 (Ć 5 Ĉ)))))))
def tK:MF:=Ļ 4 11 vL
def qt:M Fl:=(sS 4 (ą rZ (ċ (Ď tK (Ć 3 (Ċ (ą Ī (mC (.int 2)) (ą č (Ā 2) (mC (.int 2)))) (Ć 5 (Ċ (jq (ż ["Yard"] "width") (Ā 0)) Ĉ)))))) (ą Ī (Ā 5) (jq (ż ["Yard"] "width") (Ā 0)))))
def DR:M Fl:=(ě (Ĩ 3 (Ď yg (Ċ (ċ (Ď tH (Ć 1 (Ć 2 Ĉ)))) Ĉ)))
 (ě (Ĩ 4 (ŝ (mC (.int 0))))
 (ě (gH (fU eZ (ā (jq (ż ["Yard"] "height") (Ā 0)) Ē)) (gN 5) qt)
 (Ħ (cX 4)))))
def oh:MF:=Ļ 3 6 DR
def KH:M Fl:=(Ħ (ŉ [0,1] 1 (ŏ (jq (ż ["Yard"] "things") (Ā 0))) (gN 2) Ŀ (ċ (Ď oh (Ć 0 (Ć 2 (Ć 1 Ĉ)))))))
def DW:MF:=Ļ 2 2 KH
def vM:M Fl:=(sS 2 (ė 3))
def vN:M Fl:=(ě (dX (bA (ą Cd (Ā 1) (mC .non)))
 (Ħ (Ď n_ (Ċ (mC (.int 0)) (Ċ (ą ŀ (ą Ī (jq (ż ["Yard"] "width") (Ā 0)) (jq (ż ["Yard"] "height") (Ā 0))) (mC (.int 1))) Ĉ))))
 fQ)
 (ě (Ĩ 2 (ŝ (mC (.int 0))))
 (ě (gH (ŏ (ċ (Ď DW (Ć 0 (Ć 1 Ĉ))))) (gN 3) vM)
 (Ħ (cX 2)))))
def ou:MF:=Ļ 2 4 vN
def yj:M Fl:=(dX (pH (ą uZ (ą xG (Ā 3) (Ā 1)) (mC (.int 1))))
 (Ħ (cX 2))
 fQ)
def DX:M Fl:=(ě (gH (Cz (HX 0)) (gT 2 (Č (gN 2) (Č (gN 3) ĸ))) yj)
 (Ħ (ŝ (mC .non))))
def zG:MF:=Ļ 2 4 DX
def DY:M Fl:=(ě (Ĩ 2 (Ď DW (Ć 0 (Ć 1 Ĉ))))
 (Ħ (ŉ [2] 1 (fU eZ (ā (ą Ī (jq (ż ["Yard"] "width") (Ā 0)) (jq (ż ["Yard"] "height") (Ā 0))) Ē)) (gN 1) Ŀ (ċ (Ď zG (Ć 0 (Ć 1 Ĉ)))))))
def yq:MF:=Ļ 2 3 DY
def D_:M Fl:=(Ħ (ŝ (zf pP pP (jq fj (mC (.int (1000000000)))) (Ā 0) (mC (.int (1000000000))))))
def jh:MF:=Ļ 1 1 D_
def Ea:M Fl:=(Ħ (ŝ (zf pP pP (mC (.int 1)) (Ā 0) (mC (.int (1000000000))))))
def tM:MF:=Ļ 1 1 Ea
def vO:M Fl:=(Ħ (ŝ (gF (ą ř (gG sy (ā (Ā 0) Ē)) (mC (.int 3))) (gF (ċ (Ď jh (Ċ (ą č (Ā 0) (mC (.int 0))) Ĉ))) (gF (ċ (Ď jh (Ċ (ą č (Ā 0) (mC (.int 1))) Ĉ))) (ċ (Ď tM (Ċ (ą č (Ā 0) (mC (.int 2))) Ĉ))))))))
def tQ:MF:=Ļ 1 1 vO
def cA:M Fl:=(ě (fB 0 ["Thing","Post","Fence","Sail","Cloth","House"] "word" (ė 1))
 (fB 0 ["Thing","Post","Fence","Sail","Cloth","House"] "numbers" (ċ (iC aN (ā (Ā 2) Ē)))))
def qu:MI:=aO 3 3 "Post" cA
def lC:MI:=aO 3 3 "Fence" cA
def qw:MI:=aO 3 3 "Sail" cA
def lE:MI:=aO 3 3 "Cloth" cA
def lF:MI:=aO 3 3 "House" cA
def vP:M Fl:=(Ħ (ŝ (gF (ą ř (gG sy (ā (Ā 0) Ē)) (mC (.int 5))) (gF (gG sG (ā (ċ (ŉ [] 1 (ŏ (ċ (xK (Ā 0) pW (mP (mC (.int 4)))))) (gN 0) Ŀ (ċ (Ď jh (Ć 0 Ĉ))))) Ē)) (ċ (Ď tM (Ċ (ą č (Ā 0) (mC (.int 4))) Ĉ)))))))
def oA:MF:=Ļ 1 1 vP
def vQ:M Fl:=(Ħ (ŝ (gF (ċ (Ď oA (Ć 0 Ĉ))) (ą bU (ċ (xK (Ā 0) pW (mP (mC (.int 2))))) (ċ (xK (Ā 0) (mP (mC (.int 2))) (mP (mC (.int 4)))))))))
def tU:MF:=Ļ 1 1 vQ
def Eb:M Fl:=(Ħ (ŝ (gF (ċ (Ď oA (Ć 0 Ĉ))) (gF (ą pO (ą č (Ā 0) (mC (.int 0))) (ą č (Ā 0) (mC (.int 2)))) (ą pO (ą č (Ā 0) (mC (.int 1))) (ą č (Ā 0) (mC (.int 3))))))))
def zH:MF:=Ļ 1 1 Eb
def KJ:M Fl:=(Ħ (ŝ (gF (ċ (Ď jh (Ċ (ą č (Ā 0) (mC (.int 0))) Ĉ))) (gF (ċ (Ď jh (Ċ (ą č (Ā 0) (mC (.int 1))) Ĉ))) (zf pP pP (mC (.int 0)) (ą č (Ā 0) (mC (.int 2))) (mC (.int (1000000000))))))))
def Il:MF:=Ļ 1 1 KJ
def vR:M Fl:=(Ħ (ŝ (gF (ą ř (gG sy (ā (Ā 0) Ē)) (mC (.int 9))) (gG sG (ā (ċ (ŉ [0] 1 (ŏ (ĩ (ā (mC (.int 0)) (ā (mC (.int 3)) (ā (mC (.int 6)) Ē))))) (gN 1) Ŀ (ċ (Ď Il (Ċ (ċ (xK (Ā 0) (mP (ė 1)) (mP (ċ (Ģ ġ (Ā 1) (mC (.int 3))))))) Ĉ))))) Ē)))))
def tW:MF:=Ļ 1 1 vR
def fZ:M Fl:=(ě (dX (eY (bA (ą ř (Ā 0) (mC (.str "post")))) (pH (ċ (Ď tQ (Ć 1 Ĉ)))))
 (Ħ (ŝ (aP "Post" qu (Ć 0 (Ć 1 Ĉ)))))
 fQ)
 (ě (dX (eY (bA (ą ř (Ā 0) (mC (.str "fence")))) (pH (ċ (Ď tU (Ć 1 Ĉ)))))
 (Ħ (ŝ (aP "Fence" lC (Ć 0 (Ć 1 Ĉ)))))
 fQ)
 (ě (dX (eY (bA (ą ř (Ā 0) (mC (.str "sail")))) (pH (ċ (Ď zH (Ć 1 Ĉ)))))
 (Ħ (ŝ (aP "Sail" qw (Ć 0 (Ć 1 Ĉ)))))
 fQ)
 (ě (dX (eY (bA (ą ř (Ā 0) (mC (.str "cloth")))) (pH (ċ (Ď tW (Ć 1 Ĉ)))))
 (Ħ (ŝ (aP "Cloth" lE (Ć 0 (Ć 1 Ĉ)))))
 fQ)
 (ě (dX (eY (bA (ą ř (Ā 0) (mC (.str "house")))) (pH (ċ (Ď zH (Ć 1 Ĉ)))))
 (Ħ (ŝ (aP "House" lF (Ć 0 (Ć 1 Ĉ)))))
 fQ)
 QK)))))
def cB:MF:=Ļ 2 2 fZ
def lG:M Fl:=(vH 6 (ĩ (ā (ą ľ (Ā 7) (ą č (Ā 0) (mC (.int 0)))) (ā (ą Ť (Ā 7) (ą č (Ā 0) (mC (.int 0)))) Ē))) (ĩ (ā (ą ľ (ą xG (Ā 4) (Ā 7)) (mC (.int 2))) (ā (ą č (Ā 5) (Ā 7)) Ē))))
def Ec:M Fl:=(ě (Ĩ 3 (ŝ (aP "Yard" jM (Ċ (ą č (Ā 0) (mC (.int 0))) (Ċ (ą č (Ā 0) (mC (.int 1))) (Ċ (ċ (ŉ [] 2 (ņ 1) (gT 2 (Č (gN 0) (Č (gN 1) ĸ))) Ŀ (ċ (Ď cB (Ć 0 (Ċ (ċ (iC aN (ā (Ā 1) Ē))) Ĉ)))))) (Ċ (ċ (ŧ Ē)) Ĉ)))))))
 (ě (Ĩ 4 (Ď ou (Ć 3 (Ć 2 Ĉ))))
 (ě (Ĩ 5 (Ď yq (Ć 3 (Ć 2 Ĉ))))
 (ě (vG 6)
 (ě (gH (fU eZ (ā (ą Ī (ą č (Ā 0) (mC (.int 0))) (ą č (Ā 0) (mC (.int 1)))) Ē)) (gN 7) lG)
 (xW 6))))))
def Ų:MF:=Ļ 3 8 Ec
def vU:M Fl:=(ě (dX (bA (ą pO (Ā 1) (gG sy (ā (Ā 0) Ē))))
 (Ħ (ŝ (ą č (Ā 0) (Ā 1))))
 fQ)
 (Ħ (ŝ (mC (.int 0)))))
def bF:MF:=Ļ 2 2 vU
def vV:M Fl:=(ě (dX (bA (ą ř (ą ľ (ą Ť (Ā 0) (mC (.int 512))) (mC (.int 12))) (mC (.int 7))))
 (Ħ (Ģ ġ (mC (.int 1)) (ą ľ (ą Ī (Ā 0) (mC (.int 1907))) (ą nD (mC (.int 10)) (mC (.int 9))))))
 fQ)
 (Ħ (Ģ ġ (mC (.int 1)) (ą ľ (Ā 0) (mC (.int 9))))))
def oE:MF:=Ļ 1 1 vV
def vW:M Fl:=(ě (dX (bA (ą ř (ą ľ (ą Ť (Ā 0) (mC (.int 512))) (mC (.int 16))) (mC (.int 5))))
 (Ħ (Ģ ġ (ą ŀ (ą ľ (ą Ī (Ā 0) (mC (.int 3813))) (ą ŀ (ą Ī (mC (.int 2)) (ą nD (mC (.int 10)) (mC (.int 9)))) (mC (.int 99)))) (ą nD (mC (.int 10)) (mC (.int 9)))) (mC (.int 50))))
 fQ)
 (Ħ (ŝ (ą ŀ (ą ľ (Ā 0) (ċ (Ģ ġ (ą Ī (mC (.int 2)) (Ā 1)) (mC (.int 9))))) (mC (.int 4))))))
def fH:MF:=Ļ 2 2 vW
def iK:M Fl:=(ě (Ĩ 2 (Ď jd (Ć 0 (Ċ (mC (.int 14)) Ĉ))))
 (ě (Hg (gS 2 (Č (gN 5) (Č (gN 6) ĸ))) (ċ (ŉ [1,2] 1 (fU eZ (ā (mC (.int 2)) Ē)) (gN 2) Ŀ (ċ (Ď fH (Ċ (ą č (Ā 1) (Ā 2)) (Ć 0 Ĉ)))))))
 (ě (Ĩ 3 (Ď oE (Ċ (ą č (Ā 2) (mC (.int 2))) Ĉ)))
 (ě (Ĩ 4 (ŝ (ą ľ (ą č (Ā 2) (mC (.int 3))) (mC (.int 5)))))
 (ě (dX (bA (ą ř (Ā 4) (mC (.int 0))))
 (Ħ (ŝ (ĩ (ā (mC (.str "post")) (ā (ċ (ŧ (ā (ą Ť (Ā 5) (mC (.int 2))) (ā (ą Ť (Ā 6) (mC (.int 2))) (ā (ė 3) Ē))))) Ē)))))
 fQ)
 (ě (dX (bA (ą ř (Ā 4) (mC (.int 1))))
 (ě (Hg (gS 2 (Č (gN 7) (Č (gN 8) ĸ))) (ċ (ŧ (ā (ą ŀ (ċ (Ģ ġ (Ā 5) (ą ľ (ą č (Ā 2) (mC (.int 4))) (mC (.int 9))))) (mC (.int 4))) (ā (ą ŀ (ċ (Ģ ġ (Ā 6) (ą ľ (ą č (Ā 2) (mC (.int 5))) (mC (.int 9))))) (mC (.int 4))) Ē)))))
 (Ħ (ŝ (ĩ (ā (mC (.str "fence")) (ā (ċ (ŧ (ā (ė 5) (ā (ė 6) (ā (ċ (Ģ ġ (Ā 7) (gG Cv (ā (ą ř (ĩ (ā (ė 5) (ā (ė 6) Ē))) (ĩ (ā (ė 7) (ā (ė 8) Ē)))) Ē)))) (ā (ė 8) (ā (ė 3) Ē))))))) Ē))))))
 fQ)
 (ě (dX (bA (ą ř (Ā 4) (mC (.int 2))))
 (Ħ (ŝ (ĩ (ā (mC (.str "cloth")) (ā (ċ (Ģ ġ (ċ (Ģ ġ (ċ (ŧ (ā (ė 5) (ā (ė 6) (ā (ą ľ (ą č (Ā 2) (mC (.int 6))) (mC (.int 10))) Ē))))) (ċ (ŧ (ā (ċ (Ď fH (Ċ (ą č (Ā 2) (mC (.int 7))) (Ć 1 Ĉ)))) (ā (ċ (Ď fH (Ċ (ą č (Ā 2) (mC (.int 8))) (Ć 1 Ĉ)))) (ā (ė 3) Ē))))))) (ċ (ŧ (ā (ċ (Ď fH (Ċ (ą č (Ā 2) (mC (.int 9))) (Ć 1 Ĉ)))) (ā (ċ (Ď fH (Ċ (ą č (Ā 2) (mC (.int 10))) (Ć 1 Ĉ)))) (ā (ċ (Ď oE (Ċ (ą č (Ā 2) (mC (.int 11))) Ĉ))) Ē))))))) Ē)))))
 fQ)
 (Ħ (ŝ (ĩ (ā (ą č (ċ (ŧ (ā (mC (.str "sail")) (ā (mC (.str "house")) Ē)))) (ą ŀ (Ā 4) (mC (.int 3)))) (ā (ċ (ŧ (ā (ė 5) (ā (ė 6) (ā (ċ (Ģ ġ (ċ (Ģ ġ (Ā 5) (mC (.int 1)))) (ą ľ (ą č (Ā 2) (mC (.int 4))) (mC (.int 8))))) (ā (ċ (Ģ ġ (ċ (Ģ ġ (Ā 6) (mC (.int 1)))) (ą ľ (ą č (Ā 2) (mC (.int 5))) (mC (.int 8))))) (ā (ė 3) Ē))))))) Ē))))))))))))
def cC:MF:=Ļ 2 9 iK
def vX:M Fl:=(ŕ (bA (ą bU (Ā 2) (mC (.int 0))))
 (Hh 1 2 (ā (ė 2) (ā (ą ľ (Ā 1) (Ā 2)) Ē))))
def Ed:M Fl:=vX
def Ef:M Fl:=(ě (Ĩ 1 (ŝ (ą č (Ā 0) (mC (.int 2)))))
 (ě (gH (ŏ (ċ (ŧ (ā (gG vd (ā (ą č (Ā 0) (mC (.int 0))) Ē)) (ā (gG vd (ā (ą č (Ā 0) (mC (.int 1))) Ē)) Ē))))) (gN 2) Ed)
 (Ħ (ŝ (ĩ (ā (ą Ť (ą č (Ā 0) (mC (.int 0))) (Ā 1)) (ā (ą Ť (ą č (Ā 0) (mC (.int 1))) (Ā 1)) (ā (ą Ť (ą č (Ā 0) (mC (.int 2))) (Ā 1)) Ē))))))))
def oG:MF:=Ļ 1 3 Ef
def iM:M Fl:=(ě (dX (bA (ą ř (Ā 0) (mC (.str "post"))))
 (Ħ (ŧ (ā (ą č (Ā 1) (mC (.int 1))) (ā (ą č (Ā 1) (mC (.int 0))) (ā (ą č (Ā 1) (mC (.int 2))) Ē)))))
 fQ)
 (ě (dX (bA (ą ř (Ā 0) (mC (.str "cloth"))))
 (Ħ (ŉ [1] 1 (ŏ (ċ (ŧ (ā (mC (.int 1)) (ā (mC (.int 0)) (ā (mC (.int 2)) (ā (mC (.int 4)) (ā (mC (.int 3)) (ā (mC (.int 5)) (ā (mC (.int 7)) (ā (mC (.int 6)) (ā (mC (.int 8)) Ē)))))))))))) (gN 1) Ŀ (ą č (Ā 0) (Ā 1))))
 fQ)
 (Ħ (ŧ (ā (ą č (Ā 1) (mC (.int 1))) (ā (ą č (Ā 1) (mC (.int 0))) (ā (ą č (Ā 1) (mC (.int 3))) (ā (ą č (Ā 1) (mC (.int 2))) (ā (ą č (Ā 1) (mC (.int 4))) Ē)))))))))
def bG:MF:=Ļ 2 2 iM
def KN:M Fl:=(pI 4 (ė 5) (ą ŀ (Ā 3) (ą č (Ā 4) (Ā 5))))
def oH:M Fl:=(ě (Ĩ 3 (ŝ (ą ŀ (ą Ī (mC (.int 2)) (Ā 2)) (mC (.int 2)))))
 (ě (dX (bA (ą ř (Ā 0) (mC (.str "post"))))
 (Ħ (Ģ ġ (ċ (ŧ (ā (ą ŀ (ą ŀ (Ā 2) (mC (.int 1))) (ą č (Ā 1) (mC (.int 0)))) Ē))) (ċ (xK (Ā 1) (mP (mC (.int 1))) pW))))
 fQ)
 (ě (dX (bA (ą ř (Ā 0) (mC (.str "cloth"))))
 (ě (Ĩ 4 (iC aN (ā (Ā 1) Ē)))
 (ě (gH (ŏ (ċ (ŧ (ā (mC (.int 0)) (ā (mC (.int 3)) (ā (mC (.int 6)) Ē)))))) (gN 5) KN)
 (Ħ (cX 4))))
 fQ)
 (ě (dX (bA (ą ř (Ā 0) (mC (.str "fence"))))
 (Ħ (Ģ ġ (ċ (ŧ (ā (ą ŀ (Ā 3) (ą č (Ā 1) (mC (.int 0)))) (ā (ą č (Ā 1) (mC (.int 1))) (ā (ą ŀ (Ā 3) (ą č (Ā 1) (mC (.int 2)))) Ē))))) (ċ (xK (Ā 1) (mP (mC (.int 3))) pW))))
 fQ)
 (Ħ (Ģ ġ (ċ (ŧ (ā (ą ŀ (Ā 3) (ą č (Ā 1) (mC (.int 2)))) (ā (ą č (Ā 1) (mC (.int 1))) (ā (ą ŀ (Ā 3) (ą č (Ā 1) (mC (.int 0)))) Ē))))) (ċ (xK (Ā 1) (mP (mC (.int 3))) pW))))))))
def iQ:MF:=Ļ 3 6 oH
def Eh:M Fl:=(pI 2 (ė 3) (ċ (Ģ ġ (ą č (Ā 2) (Ā 3)) (mC (.int 2)))))
def iR:M Fl:=(ě (dX (bA (ą ř (Ā 0) (mC (.str "post"))))
 (Ħ (Ģ ġ (ċ (ŧ (ā (ċ (Ģ ġ (ą č (Ā 1) (mC (.int 0))) (mC (.int 1)))) Ē))) (ċ (xK (Ā 1) (mP (mC (.int 1))) pW))))
 fQ)
 (ě (dX (bA (ą ř (Ā 0) (mC (.str "cloth"))))
 (ě (Ĩ 2 (iC aN (ā (Ā 1) Ē)))
 (ě (gH (ŏ (ċ (ŧ (ā (mC (.int 0)) (ā (mC (.int 3)) (ā (mC (.int 6)) Ē)))))) (gN 3) Eh)
 (Ħ (cX 2))))
 fQ)
 (Ħ (Ģ ġ (ċ (ŧ (ā (ċ (Ģ ġ (ą č (Ā 1) (mC (.int 0))) (mC (.int 2)))) (ā (ą č (Ā 1) (mC (.int 1))) (ā (ċ (Ģ ġ (ą č (Ā 1) (mC (.int 2))) (mC (.int 2)))) Ē))))) (ċ (xK (Ā 1) (mP (mC (.int 3))) pW))))))
def bH:MF:=Ļ 2 4 iR
def iT:M Fl:=(ě (dX (QJ (bA (ą bU (aG 5 (ĩ (ā (ė 10) (ā (ė 11) Ē)))) (aG 4 (ĩ (ā (ė 10) (ā (ė 11) Ē)))))) (bA (ą bU (aG 7 (ĩ (ā (ė 11) (ā (ė 10) Ē)))) (aG 4 (ĩ (ā (ė 10) (ā (ė 11) Ē)))))))
 (Ħ (ŝ (mC (.bl false))))
 fQ)
 (ě (dX (bA (ą bU (aG 8 (ĩ (ā (ą ŀ (ą ŀ (ą č (Ā 1) (mC (.int 0))) (mC (.int 1))) (Ā 10)) (ā (ė 11) Ē)))) (aG 4 (ĩ (ā (ė 10) (ā (ė 11) Ē))))))
 (Ħ (ŝ (mC (.bl false))))
 fQ)
 (dX (eY (bA (ą pO (Ā 10) (mC (.int 19)))) (bA (ą bU (aG 9 (ĩ (ā (ċ (Ģ ġ (Ā 10) (mC (.int 1)))) (ā (ė 11) Ē)))) (aG 4 (ĩ (ā (ė 10) (ā (ė 11) Ē)))))))
 (Ħ (ŝ (mC (.bl false))))
 fQ)))
def vY:M Fl:=(ě (Ĩ 1 (Ď cu (Ċ (ċ (Ď bF (Ć 0 (Ċ (mC (.int 0)) Ĉ)))) (Ċ (mC (.int 9)) Ĉ))))
 (ě (Ĩ 2 (Ď lB (Ċ (ċ (Ď bF (Ć 0 (Ċ (mC (.int 1)) Ĉ)))) Ĉ)))
 (ě (Ĩ 3 (ŉ [1] 1 (ŏ (ċ (xK (Ā 0) (mP (mC (.int 2))) (mP (mC (.int 6)))))) (gN 1) Ŀ (ċ (Ď cC (Ć 1 (Ċ (gG dG (ā (Ā 0) Ē)) Ĉ))))))
 (ě (Ĩ 4 (Ď Ų (Ć 1 (Ć 3 (Ć 2 Ĉ)))))
 (ě (Ĩ 5 (Ď Ų (Ć 1 (Ć 3 (Ċ (ċ (Ď oG (Ć 2 Ĉ))) Ĉ)))))
 (ě (Ĩ 6 (ŉ [] 2 (ņ 3) (gT 2 (Č (gN 0) (Č (gN 1) ĸ))) Ŀ (ĩ (ā (ė 0) (ā (ċ (Ď bG (Ć 0 (Ć 1 Ĉ)))) Ē)))))
 (ě (Ĩ 7 (Ď Ų (Ċ (ĩ (ā (ą č (Ā 1) (mC (.int 1))) (ā (ą č (Ā 1) (mC (.int 0))) Ē))) (Ć 6 (Ċ (ĩ (ā (ą č (Ā 2) (mC (.int 1))) (ā (ą č (Ā 2) (mC (.int 0))) (ā (ą č (Ā 2) (mC (.int 2))) Ē)))) Ĉ)))))
 (ě (Ĩ 6 (ŉ [1] 2 (ņ 3) (gT 2 (Č (gN 1) (Č (gN 2) ĸ))) Ŀ (ĩ (ā (ė 1) (ā (ċ (Ď iQ (Ć 1 (Ć 2 (Ċ (ą č (Ā 0) (mC (.int 0))) Ĉ))))) Ē)))))
 (ě (Ĩ 8 (Ď Ų (Ć 1 (Ć 6 (Ċ (ĩ (ā (ą ŀ (mC (.int 0)) (ą č (Ā 2) (mC (.int 0)))) (ā (ą č (Ā 2) (mC (.int 1))) (ā (ą č (Ā 2) (mC (.int 2))) Ē)))) Ĉ)))))
 (ě (Ĩ 6 (ŉ [] 2 (ņ 3) (gT 2 (Č (gN 0) (Č (gN 1) ĸ))) Ŀ (ĩ (ā (ė 0) (ā (ċ (Ď bH (Ć 0 (Ć 1 Ĉ)))) Ē)))))
 (ě (Ĩ 9 (Ď Ų (Ċ (ĩ (ā (gG fu (ā (mC (.int 20)) (ā (ċ (Ģ ġ (ą č (Ā 1) (mC (.int 0))) (mC (.int 1)))) Ē))) (ā (ą č (Ā 1) (mC (.int 1))) Ē))) (Ć 6 (Ć 2 Ĉ)))))
 (ě (lA 4 2 (Č (gN 10) (Č (gN 11) ĸ)) iT)
 (Ħ (ŝ (mC (.bl true))))))))))))))))
def oJ:MF:=Ļ 1 12 vY
set_option genInjectivity false
set_option genSizeOf false
structure Ei where
 {KQ KR KY RD KZ K_ La Lb Ld Le Lf Lg Xq Ej Ek El RJ RK Li Lj Lk Lp Xr Lq Xu Lr Ls Lw Lx jr Ly Lz Xv Xw LC LK LQ LR L_ Ma Mf Mg Mh Xx Mi Mj qy vZ qC wg qD qF wj:Addr}
 {Ml Mp Mq Xy Mr Ms Mt Mu Mv Mw Mx Mz Xz MJ MK MN XC XD MP M_ Nb Nf XF Ng XH Nh Ni Nj Nk zJ Nm Np XJ XM Nq Nr Nt Nu Nv Nx Ny Nz NK XQ NP Em:FuncData}
 {mK qG:Tok}
def Ķ(a:Ei):String->Addr:=cmB a.qy a.vZ a.qC a.wg a.qD a.qF a.wj
structure Tx(K:PySem.W.Frag)(mg:Str->Option Value)(a:Ei):Prop where
 Zap:mg "Thing" =some (.ref a.qy)
 RL:mg "Post" =some (.ref a.vZ)
 Im:mg "Fence" =some (.ref a.qC)
 RM:mg "Sail" =some (.ref a.wg)
 Io:mg "Cloth" =some (.ref a.qD)
 Ip:mg "House" =some (.ref a.qF)
 RN:mg "Yard" =some (.ref a.wj)
 ji:Df K mg "_law_size" JB ["_law_cell","_law_most"] a.KQ a.Ml
 aY:Df K mg "_law_grains" JC ["_law_cell","_law_many"] a.KR a.Mp
 lH:Df K mg "_law_ray" JD ["_law_cell"] a.KY a.Mq
 cD:Dm K a.wj "__init__" "Yard.__init__" Xg ["self","width","height","things","days"] a.RD a.Xy
 jj:Df K mg "box_lines" JF ["points"] a.KZ a.Mr
 jk:Df K mg "each_once" JG ["points"] a.K_ a.Ms
 dI:Df K mg "line_through" JH ["one","other"] a.La a.Mt
 yr:Df K mg "holds" JK ["line","pair"] a.Lb a.Mu
 gQ:Df K mg "edge_lines" JL ["points"] a.Ld a.Mv
 fJ:Df K mg "lines_about" JM ["points"] a.Le a.Mw
 En:Df K mg "cast" JN ["point","ray"] a.Lf a.Mx
 Š:Df K mg "level_corners" JQ ["x","y","u","v","z"] a.Lg a.Mz
 ž:Df K mg "block_corners" Xh ["x","y","u","v","h"] a.Xq a.Xz
 dJ:Dm K a.vZ "corners" "Post.corners" JR ["self"] a.Ej a.MJ
 cF:Dm K a.qC "corners" "Fence.corners" JT ["self"] a.Ek a.MK
 dM:Dm K a.wg "corners" "Sail.corners" JV ["self"] a.El a.MN
 cG:Dm K a.qD "corners" "Cloth.corners" Xi ["self"] a.RJ a.XC
 cH:Dm K a.qF "corners" "House.corners" Xj ["self"] a.RK a.XD
 dN:Df K mg "corner_casts" JW ["thing","ray"] a.Li a.MP
 dO:Df K mg "span_bits" JX ["first","last"] a.Lj a.M_
 lJ:Df K mg "row_bits" JZ ["lines","unit","q","width"] a.Lk a.Nb
 oK:Df K mg "dark_of" J_ ["yard","thing","ray"] a.Lp a.Nf
 Ů:Df K mg "darks_of_things" Xk ["yard","ray"] a.Xr a.XF
 Eo:Df K mg "dark" Ka ["yard","turn"] a.Lq a.Ng
 cI:Df K mg "least_holding" Xl ["sets","number"] a.Xu a.XH
 NQ:Df K mg "who" Kc ["yard","ray"] a.Lr a.Nh
 Ŷ:Df K mg "is_place" Kd ["number"] a.Ls a.Ni
 dR:Df K mg "is_height" Ke ["number"] a.Lw a.Nj
 gR:Df K mg "makes_post" Kf ["numbers"] a.Lx a.Nk
 ģ:Dm K a.qy "__init__" "Thing.__init__" Xm ["self","word","numbers"] a.jr a.zJ
 aH:Df K mg "has_two_ends" Kg ["numbers"] a.Ly a.Nm
 fK:Df K mg "makes_fence" Kh ["numbers"] a.Lz a.Np
 Œ:Df K mg "makes_sail_or_house" Xn ["numbers"] a.Xv a.XJ
 aR:Df K mg "is_cloth_corner" Xo ["numbers"] a.Xw a.XM
 fL:Df K mg "makes_cloth" Kl ["numbers"] a.LC a.Nq
 lK:Df K mg "thing_of" Km ["word","numbers"] a.LK a.Nr
 Ŧ:Df K mg "_law_told" Ko ["_law_size_here","_law_drawn","_law_ray_here"] a.LQ a.Nt
 iU:Df K mg "_law_at" Kp ["_law_script","_law_k"] a.LR a.Nu
 aZ:Df K mg "_law_height" Kq ["_law_number"] a.L_ a.Nv
 Ś:Df K mg "_law_place" Kr ["_law_number","_law_wide"] a.Ma a.Nx
 gU:Df K mg "_law_thing" Ks ["_law_cell","_law_wide"] a.Mf a.Ny
 gW:Df K mg "_law_plain" Ku ["_law_ray_here"] a.Mg a.Nz
 dU:Df K mg "_law_changed" Kv ["_law_word","_law_some"] a.Mh a.NK
 cJ:Df K mg "_law_mirrored" Xp ["_law_word","_law_some","_law_width"] a.Xx a.XQ
 gY:Df K mg "_law_moved" Kw ["_law_word","_law_some"] a.Mi a.NP
 Ep:Df K mg "law" Ky ["_law_script"] a.Mj a.Em
 fM:mg "MOST_HEIGHT" =some (.int (1000000000) a.mK)
 gZ:mg "MOST_PLACE" =some (.int (1000000000) a.qG)
 NT:mg "abs" =none
 Er:mg "all" =none
 tX:mg "enumerate" =none
 XR:mg "int" =none
 yu:mg "len" =none
 bf:mg "list" =none
 yx:mg "max" =none
 oM:mg "min" =none
 g_:mg "range" =none
 Ir:mg "tuple" =none
 yC:Cls K (Ķ a "Thing")
 Zaq:Mk K (Ķ a "Thing") a.jr
 qH:ĭ K (Ķ a "Thing") "word"
 jt:ĭ K (Ķ a "Thing") "numbers"
 wu:Cls K (Ķ a "Post")
 RP:Mk K (Ķ a "Post") a.jr
 tY:ĭ K (Ķ a "Post") "word"
 lM:ĭ K (Ķ a "Post") "numbers"
 lN:Meth K (Ķ a "Post") "corners" a.Ej
 qI:Cls K (Ķ a "Fence")
 Iu:Mk K (Ķ a "Fence") a.jr
 qJ:ĭ K (Ķ a "Fence") "word"
 ju:ĭ K (Ķ a "Fence") "numbers"
 jw:Meth K (Ķ a "Fence") "corners" a.Ek
 wz:Cls K (Ķ a "Sail")
 RQ:Mk K (Ķ a "Sail") a.jr
 tZ:ĭ K (Ķ a "Sail") "word"
 lO:ĭ K (Ķ a "Sail") "numbers"
 lQ:Meth K (Ķ a "Sail") "corners" a.El
 qK:Cls K (Ķ a "Cloth")
 Iv:Mk K (Ķ a "Cloth") a.jr
 qL:ĭ K (Ķ a "Cloth") "word"
 jx:ĭ K (Ķ a "Cloth") "numbers"
 jy:Meth K (Ķ a "Cloth") "corners" a.RJ
 qM:Cls K (Ķ a "House")
 Iw:Mk K (Ķ a "House") a.jr
 qN:ĭ K (Ķ a "House") "word"
 jz:ĭ K (Ķ a "House") "numbers"
 jA:Meth K (Ķ a "House") "corners" a.RK
 qO:Cls K (Ķ a "Yard")
 RT:Mk K (Ķ a "Yard") a.RD
 qP:ĭ K (Ķ a "Yard") "width"
 mL:ĭ K (Ķ a "Yard") "height"
 mO:ĭ K (Ķ a "Yard") "things"
 t_:ĭ K (Ķ a "Yard") "days"
def Z1W{K:PySem.W.Frag}{mg:Str->Option Value}{a:Ei}(T:Tx K mg a):mg "Post" =some (.ref (Ķ a "Post")):=T.RL
def Z1t{K:PySem.W.Frag}{mg:Str->Option Value}{a:Ei}(T:Tx K mg a):mg "Fence" =some (.ref (Ķ a "Fence")):=T.Im
def Z1X{K:PySem.W.Frag}{mg:Str->Option Value}{a:Ei}(T:Tx K mg a):mg "Sail" =some (.ref (Ķ a "Sail")):=T.RM
def Z1u{K:PySem.W.Frag}{mg:Str->Option Value}{a:Ei}(T:Tx K mg a):mg "Cloth" =some (.ref (Ķ a "Cloth")):=T.Io
def Z1v{K:PySem.W.Frag}{mg:Str->Option Value}{a:Ei}(T:Tx K mg a):mg "House" =some (.ref (Ķ a "House")):=T.Ip
def Z1Y{K:PySem.W.Frag}{mg:Str->Option Value}{a:Ei}(T:Tx K mg a):mg "Yard" =some (.ref (Ķ a "Yard")):=T.RN
def Es:ď ["_law_cell","_law_most","_law_width"] ["_law_cell","_law_most"] (ć JB):=aJ
def gb:ď ["_law_cell","_law_many","_law_found","_law_number","_law_k"] ["_law_cell","_law_many"] (ć JC):=aJ
def wA:ď ["_law_cell","_law_xs","_law_scale"] ["_law_cell"] (ć JD):=aJ
def XS:ď ["self","width","height","things","days"] ["self","width","height","things","days"] (ć Xg):=aJ
def wB:ď ["points","rights","downs"] ["points"] (ć JF):=aJ
def wC:ď ["points","kept","point"] ["points"] (ć JG):=aJ
def wD:ď ["one","other","l","m"] ["one","other"] (ć JH):=aJ
def RW:ď ["line","pair"] ["line","pair"] (ć JK):=aJ
def iV:ď ["points","lines","apart","one","other","line"] ["points"] (ć JL):=aJ
def RX:ď ["points"] ["points"] (ć JM):=aJ
def RZ:ď ["point","ray"] ["point","ray"] (ć JN):=aJ
def R_:ď ["x","y","u","v","z"] ["x","y","u","v","z"] (ć JQ):=aJ
def X_:ď ["x","y","u","v","h"] ["x","y","u","v","h"] (ć Xh):=aJ
def wF:ď ["self","right","down"] ["self"] (ć JR):=aJ
def qQ:ď ["self","given","one","other"] ["self"] (ć JT):=aJ
def Et:ď ["self","given"] ["self"] (ć JV):=aJ
def Yb:ď ["self"] ["self"] (ć Xi):=aJ
def NZ:ď ["self","given"] ["self"] (ć Xj):=aJ
def Sd:ď ["thing","ray"] ["thing","ray"] (ć JW):=aJ
def Sg:ď ["first","last"] ["first","last"] (ć JX):=aJ
def bh:ď ["lines","unit","q","width","first","last","l","m","n","step","room"] ["lines","unit","q","width"] (ć JZ):=aJ
def lR:ď ["yard","thing","ray","lines","bits","q"] ["yard","thing","ray"] (ć J_):=aJ
def Yc:ď ["yard","ray"] ["yard","ray"] (ć Xk):=aJ
def qR:ď ["yard","turn","bits","some"] ["yard","turn"] (ć Ka):=aJ
def Eu:ď ["sets","number","place","bits"] ["sets","number"] (ć Xl):=aJ
def Ew:ď ["yard","ray","sets"] ["yard","ray"] (ć Kc):=aJ
def Sh:ď ["number"] ["number"] (ć Kd):=aJ
def Sq:ď ["number"] ["number"] (ć Ke):=aJ
def Ss:ď ["numbers"] ["numbers"] (ć Kf):=aJ
def uc:ď ["self","word","numbers"] ["self","word","numbers"] (ć Xm):=aJ
def Sv:ď ["numbers"] ["numbers"] (ć Kg):=aJ
def Sw:ď ["numbers"] ["numbers"] (ć Kh):=aJ
def Yd:ď ["numbers"] ["numbers"] (ć Xn):=aJ
def Ye:ď ["numbers"] ["numbers"] (ć Xo):=aJ
def Sx:ď ["numbers"] ["numbers"] (ć Kl):=aJ
def Sy:ď ["word","numbers"] ["word","numbers"] (ć Km):=aJ
def iW:ď ["_law_size_here","_law_drawn","_law_ray_here","_law_yard","_law_bits","_law_ones","_law_found","_law_number"] ["_law_size_here","_law_drawn","_law_ray_here"] (ć Ko):=aJ
def SJ:ď ["_law_script","_law_k"] ["_law_script","_law_k"] (ć Kp):=aJ
def SM:ď ["_law_number"] ["_law_number"] (ć Kq):=aJ
def SN:ď ["_law_number","_law_wide"] ["_law_number","_law_wide"] (ć Kr):=aJ
def dW:ď ["_law_cell","_law_wide","_law_xs","_law_h","_law_kind","_law_x","_law_y","_law_u","_law_v"] ["_law_cell","_law_wide"] (ć Ks):=aJ
def qT:ď ["_law_ray_here","_law_one","_law_other"] ["_law_ray_here"] (ć Ku):=aJ
def SQ:ď ["_law_word","_law_some"] ["_law_word","_law_some"] (ć Kv):=aJ
def yD:ď ["_law_word","_law_some","_law_width","_law_edge","_law_found","_law_k"] ["_law_word","_law_some","_law_width"] (ć Xp):=aJ
def wG:ď ["_law_word","_law_some","_law_found","_law_k"] ["_law_word","_law_some"] (ć Kw):=aJ
def ů:ď ["_law_script","_law_size_here","_law_ray_here","_law_drawn","_law_told_here","_law_plain_here","_law_others","_law_down","_law_back","_law_far","_law_p","_law_q"] ["_law_script"] (ć Ky):=aJ
section
variable{P:Program}{w:World}{K:PySem.W.Frag}{mg:Str->Option Value}{base:Heap}{a:Ei}
seal PE PT PW PA PS eV PG q_ PI Fp
def Zo(T:Tx K mg a):kI (λC=>Cls K (Ķ a C)/\ĭ K (Ķ a C) "width") ["Yard"]:=⟨⟨T.qO,T.qP⟩,trivial⟩
def Zq(T:Tx K mg a):kI (λC=>Cls K (Ķ a C)/\ĭ K (Ķ a C) "height") ["Yard"]:=⟨⟨T.qO,T.mL⟩,trivial⟩
def ZV(T:Tx K mg a):kI (λC=>Cls K (Ķ a C)/\ĭ K (Ķ a C) "things") ["Yard"]:=⟨⟨T.qO,T.mO⟩,trivial⟩
def Z17(T:Tx K mg a):kI (λC=>Cls K (Ķ a C)/\ĭ K (Ķ a C) "days") ["Yard"]:=⟨⟨T.qO,T.t_⟩,trivial⟩
def Z5(T:Tx K mg a):kI (λC=>Cls K (Ķ a C)/\ĭ K (Ķ a C) "numbers") ["Thing","Post","Fence","Sail","Cloth","House"]:=⟨⟨T.yC,T.jt⟩,⟨⟨T.wu,T.lM⟩,⟨⟨T.qI,T.ju⟩,⟨⟨T.wz,T.lO⟩,⟨⟨T.qK,T.jx⟩,⟨⟨T.qM,T.jz⟩,trivial⟩⟩⟩⟩⟩⟩
def Zt(T:Tx K mg a):kI (λC=>Cls K (Ķ a C)/\ĭ K (Ķ a C) "word") ["Thing","Post","Fence","Sail","Cloth","House"]:=⟨⟨T.yC,T.qH⟩,⟨⟨T.wu,T.tY⟩,⟨⟨T.qI,T.qJ⟩,⟨⟨T.wz,T.tZ⟩,⟨⟨T.qK,T.qL⟩,⟨⟨T.qM,T.qN⟩,trivial⟩⟩⟩⟩⟩⟩
def SX(T:Tx K mg a):ĥ P w K mg base Ÿ 1 a.KQ a.Ml ["_law_cell","_law_most"] (ű ⟨K,Ķ a⟩ 2 cu):=by
 refine ń T.ji.F Es λ_ _ _ _ _ _ _ hu=>?_
 exact ē (Ş (PW.pt (w_and (t_eq hu (ť (k_ (Ă 0) Ą) Ą) Ą) (cZ (cY Jr Je (Ă 1) Ą (š _))))) (ŗ (İ (ğ (Ġ (ň (ă (ħ (ă Ĝ (ă Ĝ Ę))) (ă (ħ (ă Ĝ (ă Ĝ Ę))) Ę))))) (ť (Ă 0) Ą))) Ĳ) (Ņ Es (cg Ą (ť (Ă 0) (ğ (bV (jG rfl) jL T.oM PyProof.Rows.boot_min (Ğ Ą (Ğ (Ă 1) Į)))))) (ŗ (ħ (ă (v_var 2) (ă (v_add Ą (ť (k_ (Ă 0) Ą) (ğ (bV (jG rfl) jL T.oM PyProof.Rows.boot_min (Ğ Ą (Ğ (k_ (Ă 1) (Ă 2)) Į)))))) Ę)))))
def Ey(T:Tx K mg a):ĥ P w K mg base Ÿ 1 a.KR a.Mp ["_law_cell","_law_many"] (ű ⟨K,Ķ a⟩ 2 jd):=by
 refine ń T.aY.F gb λ_ _ _ _ _ _ _ hu=>?_
 exact Ņ gb (ň Ę) (Ņ gb (ŵ (fG (Ă 0) Ą)) (ē (Ş (t_eq hu (ť (Ă 0) Ą) Ą) (Ĭ (CK gb (ŵ (v_mod (Ă 3) Ą)))) Ĳ) (ē (bY PassesOwn.leaving rfl (dB rfl T.g_ (ă (v_var 1) Ę)) (aW gb) (Ĭ (Ş (t_eq hu (ť (Ă 0) Ą) Ą) (ē (PS.wk (jD (wN PySem.F.plainAttrs_list PySem.F.slot_list_append PySem.F.type_list_append ao (pv 2) (ă (v_mod (Ă 3) Ą) Ę))) λ_ _ _ h=>jK h) (Ĭ (CK gb (ŵ (fG (Ă 3) Ą))))) (Ņ gb (ŵ (v_mod (cj (cj (ŭ (Ă 3) Ą) Ą) (ŭ Ą (Ă 4))) Ą)) (Ĭ (PS.wk (jD (wN PySem.F.plainAttrs_list PySem.F.slot_list_append PySem.F.type_list_append ao (pv 2) (ă (fG (Ă 3) Ą) Ę))) λ_ _ _ h=>jK h)))))) (Ĺ (i_ 2)))))
def S_(T:Tx K mg a):ĥ P w K mg base Ÿ 2 a.KY a.Mq ["_law_cell"] (ű ⟨K,Ķ a⟩ 1 lB):=by
 refine ń T.lH.F wA λ_ _ _ _ _ _ hr _=>?_
 exact Ņ wA (ĉ (Ey T) T.aY hr Ĕ (ę 0 (ĕ Ĝ Ė))) (Ņ wA (ŵ (İ (ğ (Ġ (ň (ă Ĝ (ă Ĝ (ă Ĝ (ă (aM pN pC Ą Ą) Ę))))))) (ť (Ĵ (Ă 1) Ą) Ą))) (ŗ (ħ (ă (v_mul (kZ (ť (Ĵ (Ă 1) Ą) Ą) Ą) (Ă 2)) (ă (v_mul (kZ (ť (Ĵ (Ă 1) Ą) Ą) Ą) (Ă 2)) (ă (v_mul (cj Ą (ť (Ĵ (Ă 1) Ą) Ą)) (Ă 2)) Ę))))))
def Ez(T:Tx K mg a):ĥ P w K mg base Ÿ 1 a.RD a.Xy ["self","width","height","things","days"] (Ft ⟨K,Ķ a⟩ 5 "Yard" jM):=by
 refine Um (cm:=Ķ a) (mb:=Di) T.cD.F XS rfl rfl rfl λcdv A outer s H E hr=>?_
 have hu:=hr.units
 exact ē (Ŭ ["Yard"] (Zo T) (pv 0) (v_var 1)) (ē (Ŭ ["Yard"] (Zq T) (pv 0) (v_var 2)) (ē (Ŭ ["Yard"] (ZV T) (pv 0) (Ġ (mH Ź ź T.bf PyProof.Rows.boot_list (Ğ (Ă 3) Į)))) (Ĭ (Ŭ ["Yard"] (Z17 T) (pv 0) (Ġ (lg (Ž 4) (jX rfl (ĵ aF (ĵ aF (ĵ aF aV)))) Ŗ (ħ (ă (v_var 0) (ă (v_var 1) (ă (Ġ (mH Ź ź T.bf PyProof.Rows.boot_list (Ğ (Ă 2) Į))) Ę))))))))))
def Tc(T:Tx K mg a):ĥ P w K mg base Ÿ 1 a.KZ a.Mr ["points"] (ű ⟨K,Ķ a⟩ 1 xY):=by
 refine ń T.jj.F wB λ_ _ _ _ _ _ _ _=>?_
 exact ē (zA wB (Ž 0) aF Ŗ (İ (Ă 0) Ą)) (ē (zA wB (Ž 0) aF Ŗ (İ (Ă 0) Ą)) (Ĺ (ň (ă (ħ (ă Ĝ (ă Ĝ (ă (bV (vo rfl) vp T.yx PyProof.Rows.boot_max (Ğ (Ă 1) Į)) Ę)))) (ă (ħ (ă (uR fV fO Ą) (ă Ĝ (ă (uR fV fO (ğ (bV (Cw rfl) Cy T.oM PyProof.Rows.boot_min (Ğ (Ă 1) Į)))) Ę)))) (ă (ħ (ă Ĝ (ă Ĝ (ă (bV (vo rfl) vp T.yx PyProof.Rows.boot_max (Ğ (Ă 2) Į)) Ę)))) (ă (ħ (ă Ĝ (ă (uR fV fO Ą) (ă (uR fV fO (ğ (bV (Cw rfl) Cy T.oM PyProof.Rows.boot_min (Ğ (Ă 2) Į)))) Ę)))) Ę)))))))
def Td(T:Tx K mg a):ĥ P w K mg base Ÿ 1 a.K_ a.Ms ["points"] (ű ⟨K,Ķ a⟩ 1 xZ):=by
 refine ń T.jk.F wC λ_ _ _ _ _ _ _ hu=>?_
 exact Ņ wC (ň Ę) (ē (bY PassesOwn.leaving rfl (Ž 0) (aW wC) (Ĭ (Ş (cY Rq (zx hu) (Ă 2) (Ă 1) (by with_unfolding_all rfl)) (Ĭ (PS.wk (jD (wN PySem.F.plainAttrs_list PySem.F.slot_list_append PySem.F.type_list_append ao (pv 1) (ă (v_var 2) Ę))) λ_ _ _ h=>jK h)) Ĳ))) (Ĺ (i_ 1)))
def Te(T:Tx K mg a):ĥ P w K mg base Ÿ 1 a.La a.Mt ["one","other"] (ű ⟨K,Ķ a⟩ 2 yc):=by
 refine ń T.dI.F wD λ_ _ _ _ _ _ _ _=>?_
 exact Ņ wD (ŵ (v_sub (Ĵ (Ă 1) Ą) (Ĵ (Ă 0) Ą))) (Ņ wD (ŵ (v_sub (Ĵ (Ă 0) Ą) (Ĵ (Ă 1) Ą))) (ŗ (ħ (ă (v_var 2) (ă (v_var 3) (ă (v_add (ŭ (Ă 2) (Ĵ (Ă 0) Ą)) (ŭ (Ă 3) (Ĵ (Ă 0) Ą))) Ę))))))
def Tf(T:Tx K mg a):ĥ P w K mg base Ÿ 1 a.Lb a.Mu ["line","pair"] (ű ⟨K,Ķ a⟩ 2 nW):=by
 refine ń T.yr.F RW λ_ _ _ _ _ _ _ _=>?_
 exact ŗ (rN kh jR (cj (ŭ (Ĵ (Ă 0) Ą) (Ĵ (Ă 1) Ą)) (ŭ (Ĵ (Ă 0) Ą) (Ĵ (Ă 1) Ą))) (Ĵ (Ă 0) Ą) (š _))
def Ti(T:Tx K mg a):ĥ P w K mg base Ÿ 2 a.Ld a.Mv ["points"] (ű ⟨K,Ķ a⟩ 1 yd):=by
 refine ń T.gQ.F iV λ_ _ _ _ _ _ hr hu=>?_
 exact Ņ iV (ň Ę) (Ņ iV (ĉ (Td T) T.jk hr Ĕ (ę 0 Ė)) (ē (bY PassesOwn.leaving rfl (Ž 2) (aW iV) (Ĭ (bY PassesOwn.leaving rfl (Ž 2) (aW iV) (Ņ iV (ĉ (Te T) T.dI hr Ĕ (ę 3 (ę 4 Ė))) (Ĭ (Ş (PW.pt (w_and (zy hu (Ă 3) (Ă 4)) (cZ (jW (ğ (bV (uO rfl) vf T.Er PyProof.Rows.boot_all (Ğ (ğ (Ġ (lg (Ž 2) aF Ŗ (Ġ (ĉ (Tf T) T.yr hr Ĕ (ę 0 (ę 1 Ė))))))) Į))))))) (Ĭ (PS.wk (jD (wN PySem.F.plainAttrs_list PySem.F.slot_list_append PySem.F.type_list_append ao (pv 1) (ă (v_var 5) Ę))) λ_ _ _ h=>jK h)) Ĳ)))))) (Ĺ (i_ 1))))
def Tj(T:Tx K mg a):ĥ P w K mg base Ÿ 3 a.Le a.Mw ["points"] (ű ⟨K,Ķ a⟩ 1 yg):=by
 refine ń T.fJ.F RX λ_ _ _ _ _ _ hr _=>?_
 exact Ĺ (cg (ğ (Ġ (ĉ (Tc T) T.jj hr Ĕ (ę 0 Ė)))) (ğ (Ġ (ĉ (Ti T) T.gQ hr Ĕ (ę 0 Ė)))))
def Tn(T:Tx K mg a):ĥ P w K mg base Ÿ 1 a.Lf a.Mx ["point","ray"] (ű ⟨K,Ķ a⟩ 2 nY):=by
 refine ń T.En.F RZ λ_ _ _ _ _ _ _ _=>?_
 exact ŗ (ħ (ă (v_add (ŭ (Ĵ (Ă 1) Ą) (Ĵ (Ă 0) Ą)) (ŭ (Ĵ (Ă 1) Ą) (Ĵ (Ă 0) Ą))) (ă (v_add (ŭ (Ĵ (Ă 1) Ą) (Ĵ (Ă 0) Ą)) (ŭ (Ĵ (Ă 1) Ą) (Ĵ (Ă 0) Ą))) Ę)))
def wH(T:Tx K mg a):ĥ P w K mg base Ÿ 1 a.Lg a.Mz ["x","y","u","v","z"] (ű ⟨K,Ķ a⟩ 5 nZ):=by
 refine ń T.Š.F R_ λ_ _ _ _ _ _ _ _=>?_
 exact Ĺ (ň (ă (ħ (ă (v_var 0) (ă (v_var 1) (ă (v_var 4) Ę)))) (ă (ħ (ă (v_var 2) (ă (v_var 1) (ă (v_var 4) Ę)))) (ă (ħ (ă (v_var 2) (ă (v_var 3) (ă (v_var 4) Ę)))) (ă (ħ (ă (v_var 0) (ă (v_var 3) (ă (v_var 4) Ę)))) Ę)))))
def N_(T:Tx K mg a):ĥ P w K mg base Ÿ 2 a.Xq a.Xz ["x","y","u","v","h"] (ű ⟨K,Ķ a⟩ 5 Dw):=by
 refine ń T.ž.F X_ λ_ _ _ _ _ _ hr _=>?_
 exact Ĺ (cg (ğ (Ġ (ĉ (wH T) T.Š hr Ĕ (ę 0 (ę 1 (ę 2 (ę 3 (ĕ Ĝ Ė)))))))) (ğ (Ġ (ĉ (wH T) T.Š hr Ĕ (ę 0 (ę 1 (ę 2 (ę 3 (ę 4 Ė)))))))))
def Tp(T:Tx K mg a):ĥ P w K mg base Ÿ 3 a.Ej a.MJ ["self"] (ű ⟨K,Ķ a⟩ 1 je):=by
 refine ń T.dJ.F wF λ_ _ _ _ _ _ hr _=>?_
 exact Ņ wF (ŵ (v_mul Ą (Ĵ (ğ (aD ["Thing","Post","Fence","Sail","Cloth","House"] (Z5 T) (Ă 0))) Ą))) (Ņ wF (ŵ (v_mul Ą (Ĵ (ğ (aD ["Thing","Post","Fence","Sail","Cloth","House"] (Z5 T) (Ă 0))) Ą))) (Ĺ (ĉ (N_ T) T.ž hr Ĕ (ĕ (v_sub (Ă 1) Ą) (ĕ (v_sub (Ă 2) Ą) (ĕ (v_add (Ă 1) Ą) (ĕ (v_add (Ă 2) Ą) (ĕ (İ (ğ (aD ["Thing","Post","Fence","Sail","Cloth","House"] (Z5 T) (Ă 0))) Ą) Ė))))))))
def Tq(T:Tx K mg a):ĥ P w K mg base Ÿ 1 a.Ek a.MK ["self"] (ű ⟨K,Ķ a⟩ 1 jf):=by
 refine ń T.cF.F qQ λ_ _ _ _ _ _ _ _=>?_
 exact Ņ qQ (ŵ (aD ["Thing","Post","Fence","Sail","Cloth","House"] (Z5 T) (Ă 0))) (Ņ qQ (ŵ (ħ (ă (İ (Ă 1) Ą) (ă (İ (Ă 1) Ą) Ę)))) (Ņ qQ (ŵ (ħ (ă (İ (Ă 1) Ą) (ă (İ (Ă 1) Ą) Ę)))) (Ĺ (ň (ă (v_add (Ă 2) (ğ (ħ (ă Ĝ Ę)))) (ă (v_add (Ă 3) (ğ (ħ (ă Ĝ Ę)))) (ă (v_add (Ă 3) (ğ (ħ (ă (İ (Ă 1) Ą) Ę)))) (ă (v_add (Ă 2) (ğ (ħ (ă (İ (Ă 1) Ą) Ę)))) Ę))))))))
def Tr(T:Tx K mg a):ĥ P w K mg base Ÿ 2 a.El a.MN ["self"] (ű ⟨K,Ķ a⟩ 1 jg):=by
 refine ń T.dM.F Et λ_ _ _ _ _ _ hr _=>?_
 exact Ņ Et (ŵ (aD ["Thing","Post","Fence","Sail","Cloth","House"] (Z5 T) (Ă 0))) (Ĺ (ĉ (wH T) T.Š hr Ĕ (ĕ (İ (Ă 1) Ą) (ĕ (İ (Ă 1) Ą) (ĕ (İ (Ă 1) Ą) (ĕ (İ (Ă 1) Ą) (ĕ (İ (Ă 1) Ą) Ė)))))))
def Yg(T:Tx K mg a):ĥ P w K mg base Ÿ 1 a.RJ a.XC ["self"] (ű ⟨K,Ķ a⟩ 1 tD):=by
 refine ń T.cG.F Yb λ_ _ _ _ _ _ _ _=>?_
 exact Ĺ (lg (bZ (ħ (ă Ĝ (ă Ĝ (ă Ĝ Ę))))) aF Ŗ (WR Cj Ck T.Ir PyProof.Rows.boot_tuple (Ğ (ğ (Ġ (ū (ğ (aD ["Thing","Post","Fence","Sail","Cloth","House"] (Z5 T) (Ă 0))) (ţ (v_var 1)) (ţ (v_add (Ă 1) Ą))))) Į)))
def Yh(T:Tx K mg a):ĥ P w K mg base Ÿ 3 a.RK a.XD ["self"] (ű ⟨K,Ķ a⟩ 1 tE):=by
 refine ń T.cH.F NZ λ_ _ _ _ _ _ hr _=>?_
 exact Ņ NZ (ŵ (aD ["Thing","Post","Fence","Sail","Cloth","House"] (Z5 T) (Ă 0))) (Ĺ (ĉ (N_ T) T.ž hr Ĕ (ĕ (İ (Ă 1) Ą) (ĕ (İ (Ă 1) Ą) (ĕ (İ (Ă 1) Ą) (ĕ (İ (Ă 1) Ą) (ĕ (İ (Ă 1) Ą) Ė)))))))
def Tt(T:Tx K mg a):ĥ P w K mg base Ÿ 4 a.Li a.MP ["thing","ray"] (ű ⟨K,Ķ a⟩ 2 tH):=by
 refine ń T.dN.F Sd λ_ _ _ _ _ _ hr _=>?_
 exact Ĺ (lg (bZ (Ġ (Hz (Fq:= "corners") (k:=3) (n:=1) (eO:=[("Post",je),("Fence",jf),("Sail",jg),("Cloth",tD),("House",tE)]) ⟨⟨T.wu,_,_,_,T.lN,(Tp T).mono (by decide),T.dJ.b,bC⟩,⟨⟨T.qI,_,_,_,T.jw,(Tq T).mono (by decide),T.cF.b,bC⟩,⟨⟨T.wz,_,_,_,T.lQ,(Tr T).mono (by decide),T.dM.b,bC⟩,⟨⟨T.qK,_,_,_,T.jy,(Yg T).mono (by decide),T.cG.b,bC⟩,⟨⟨T.qM,_,_,_,T.jA,(Yh T).mono (by decide),T.cH.b,bC⟩,trivial⟩⟩⟩⟩⟩ hr.mo Ĕ (v_var 0)))) aF Ŗ (Ġ (ĉ (Tn T) T.En hr Ĕ (ę 1 (ę 0 Ė)))))
def EY(T:Tx K mg a):ĥ P w K mg base Ÿ 1 a.Lj a.M_ ["first","last"] (ű ⟨K,Ķ a⟩ 2 n_):=by
 refine ń T.dO.F Sg λ_ _ _ _ _ _ _ _=>?_
 exact ē (Ş (cY j_ jQ (Ă 1) (Ă 0) (š _)) (ŗ Ĝ) Ĳ) (ŗ (v_sub (ğ (aM uY u_ Ą (cj (Ă 1) Ą))) (ğ (aM uY u_ Ą (Ă 0)))))
def Tw(T:Tx K mg a):ĥ P w K mg base Ÿ 2 a.Lk a.Nb ["lines","unit","q","width"] (ű ⟨K,Ķ a⟩ 4 tK):=by
 refine ń T.lJ.F bh λ_ _ _ _ _ _ hr _=>?_
 exact Ņ bh (ŵ Ĝ) (Ņ bh (ŵ (v_sub (Ă 3) Ą)) (ē (bY PassesOwn.leaving rfl (Ž 0) (jX rfl (ĵ (aW bh) (ĵ (aW bh) (ĵ (aW bh) aV)))) (Ņ bh (ŵ (v_mul (Ă 6) (Ă 1))) (Ņ bh (ŵ (v_sub (Ă 8) (ŭ (ŭ (Ă 7) (Ă 1)) (Ă 2)))) (Ĭ (Ş (cY Jr Je (Ă 9) Ą (š _)) (Ĭ (CK bh (ŵ (bV (jG rfl) jL T.oM PyProof.Rows.boot_min (Ğ (Ă 5) (Ğ (k_ (Ă 10) (Ă 9)) Į)))))) (Ĭ (Ş (cY j_ jQ (Ă 9) Ą (š _)) (Ĭ (CK bh (ŵ (bV (Gw rfl) Hy T.yx PyProof.Rows.boot_max (Ğ (Ă 4) (Ğ (ğ (uR fV fO (k_ (Ă 10) (ğ (uR fV fO (Ă 9)))))) Į)))))) (Ĭ (Ş (cY j_ jQ (Ă 10) Ą (š _)) (ŗ Ĝ) Ĳ))))))))) (Ĺ (ĉ (EY T) T.dO hr Ĕ (ę 4 (ę 5 Ė))))))
def Tz(T:Tx K mg a):ĥ P w K mg base Ÿ 5 a.Lp a.Nf ["yard","thing","ray"] (ű ⟨K,Ķ a⟩ 3 oh):=by
 refine ń T.oK.F lR λ_ _ _ _ _ _ hr _=>?_
 exact Ņ lR (ĉ (Tj T) T.fJ hr Ĕ (ĕ (Ġ (ĉ (Tt T) T.dN hr Ĕ (ę 1 (ę 2 Ė)))) Ė)) (Ņ lR (ŵ Ĝ) (ē (bY PassesOwn.leaving rfl (dB rfl T.g_ (ă (aD ["Yard"] (Zq T) (Ă 0)) Ę)) (aW lR) (Ĭ (CG (i:=4) lR.nd rfl (Or.inl rfl) (aM uY u_ (ğ (Ġ (ĉ (Tw T) T.lJ hr Ĕ (ę 3 (ĕ (v_mul Ą (Ĵ (Ă 2) Ą)) (ę 5 (ĕ (aD ["Yard"] (Zo T) (Ă 0)) Ė))))))) (ŭ (Ă 5) (ğ (aD ["Yard"] (Zo T) (Ă 0)))))))) (Ĺ (i_ 4))))
def Oa(T:Tx K mg a):ĥ P w K mg base Ÿ 6 a.Xr a.XF ["yard","ray"] (ű ⟨K,Ķ a⟩ 2 DW):=by
 refine ń T.Ů.F Yc λ_ _ _ _ _ _ hr _=>?_
 exact Ĺ (lg (bZ (aD ["Yard"] (ZV T) (Ă 0))) aF Ŗ (Ġ (ĉ (Tz T) T.oK hr Ĕ (ę 0 (ę 2 (ę 1 Ė))))))
def TF(T:Tx K mg a):ĥ P w K mg base Ÿ 7 a.Lq a.Ng ["yard","turn"] (ű ⟨K,Ķ a⟩ 2 ou):=by
 refine ń T.Eo.F qR λ_ _ _ _ _ _ hr _=>?_
 exact ē (Ş (cY Wd Qa (Ă 1) WQ (š _)) (Ĺ (ĉ (EY T) T.dO hr Ĕ (ĕ Ĝ (ĕ (v_sub (ŭ (ğ (aD ["Yard"] (Zo T) (Ă 0))) (ğ (aD ["Yard"] (Zq T) (Ă 0)))) Ą) Ė)))) Ĳ) (Ņ qR (ŵ Ĝ) (ē (bY PassesOwn.leaving rfl (bZ (Ġ (ĉ (Oa T) T.Ů hr Ĕ (ę 0 (ę 1 Ė))))) (aW qR) (Ĭ (CG (i:=2) qR.nd rfl (Or.inl rfl) (v_var 3)))) (Ĺ (i_ 2))))
def Yi(T:Tx K mg a):ĥ P w K mg base Ÿ 1 a.Xu a.XH ["sets","number"] (ű ⟨K,Ķ a⟩ 2 zG):=by
 refine ń T.cI.F Eu λ_ _ _ _ _ _ _ _=>?_
 exact ē (bY PassesOwn.leaving rfl (Ro rfl T.tX (Ww 0)) (jX rfl (ĵ (aW Eu) (ĵ (aW Eu) aV))) (Ĭ (Ş (jW (ğ (aM Ht Hv (ğ (aM BX BZ (Ă 3) (Ă 1))) Ą))) (Ĺ (i_ 2)) Ĳ))) (ŗ Ji)
def TJ(T:Tx K mg a):ĥ P w K mg base Ÿ 7 a.Lr a.Nh ["yard","ray"] (ű ⟨K,Ķ a⟩ 2 yq):=by
 refine ń T.NQ.F Ew λ_ _ _ _ _ _ hr _=>?_
 exact Ņ Ew (ĉ (Oa T) T.Ů hr Ĕ (ę 0 (ę 1 Ė))) (Ĺ (lg (dB rfl T.g_ (ă (v_mul (ğ (aD ["Yard"] (Zo T) (Ă 0))) (ğ (aD ["Yard"] (Zq T) (Ă 0)))) Ę)) aF Ŗ (Ġ (ĉ (Yi T) T.cI hr Ĕ (ę 0 (ę 1 Ė))))))
def lU(T:Tx K mg a):ĥ P w K mg base Ÿ 1 a.Ls a.Ni ["number"] (ű ⟨K,Ķ a⟩ 1 jh):=by
 refine ń T.Ŷ.F Sh λ_ _ _ _ _ _ _ _=>?_
 exact ŗ (Bx kh kh jR jR (ğ (uR fV fO (ğ (Jh (.int 1000000000) (jC (v:=.int 1000000000) rfl T.gZ ⟨_,rfl⟩))))) (Ă 0) (ğ (Jh (.int 1000000000) (jC (v:=.int 1000000000) rfl T.gZ ⟨_,rfl⟩))))
def E_(T:Tx K mg a):ĥ P w K mg base Ÿ 1 a.Lw a.Nj ["number"] (ű ⟨K,Ķ a⟩ 1 tM):=by
 refine ń T.dR.F Sq λ_ _ _ _ _ _ _ _=>?_
 exact ŗ (Bx kh kh jR jR Ą (Ă 0) (ğ (Jh (.int 1000000000) (jC (v:=.int 1000000000) rfl T.fM ⟨_,rfl⟩))))
def TQ(T:Tx K mg a):ĥ P w K mg base Ÿ 2 a.Lx a.Nk ["numbers"] (ű ⟨K,Ķ a⟩ 1 tQ):=by
 refine ń T.gR.F Ss λ_ _ _ _ _ _ hr hu=>?_
 exact ŗ (v_and (v_eq hu (ğ (bV pD pX T.yu PySem.boot_len (Ğ (Ă 0) Į))) Ą) (v_and (Ġ (ĉ (lU T) T.Ŷ hr Ĕ (ĕ (İ (Ă 0) Ą) Ė))) (v_and (Ġ (ĉ (lU T) T.Ŷ hr Ĕ (ĕ (İ (Ă 0) Ą) Ė))) (nA (Ġ (ĉ (E_ T) T.dR hr Ĕ (ĕ (İ (Ă 0) Ą) Ė)))))))
def Fb(T:Tx K mg a):ĥ P w K mg base Ÿ 1 a.jr a.zJ ["self","word","numbers"] (Ft ⟨K,Ķ a⟩ 3 "Post" qu):=by
 refine Um (cm:=Ķ a) (mb:=cA) T.ģ.F uc rfl rfl rfl λcdv A outer s H E hr=>?_
 have hu:=hr.units
 exact ē (Ŭ ["Thing","Post","Fence","Sail","Cloth","House"] (Zt T) (pv 0) (v_var 1)) (Ĭ (Ŭ ["Thing","Post","Fence","Sail","Cloth","House"] (Z5 T) (pv 0) (Ġ (mH Ź ź T.bf PyProof.Rows.boot_list (Ğ (Ă 2) Į)))))
def zK(T:Tx K mg a):ĥ P w K mg base Ÿ 1 a.jr a.zJ ["self","word","numbers"] (Ft ⟨K,Ķ a⟩ 3 "Fence" lC):=by
 refine Um (cm:=Ķ a) (mb:=cA) T.ģ.F uc rfl rfl rfl λcdv A outer s H E hr=>?_
 have hu:=hr.units
 exact ē (Ŭ ["Thing","Post","Fence","Sail","Cloth","House"] (Zt T) (pv 0) (v_var 1)) (Ĭ (Ŭ ["Thing","Post","Fence","Sail","Cloth","House"] (Z5 T) (pv 0) (Ġ (mH Ź ź T.bf PyProof.Rows.boot_list (Ğ (Ă 2) Į)))))
def Fd(T:Tx K mg a):ĥ P w K mg base Ÿ 1 a.jr a.zJ ["self","word","numbers"] (Ft ⟨K,Ķ a⟩ 3 "Sail" qw):=by
 refine Um (cm:=Ķ a) (mb:=cA) T.ģ.F uc rfl rfl rfl λcdv A outer s H E hr=>?_
 have hu:=hr.units
 exact ē (Ŭ ["Thing","Post","Fence","Sail","Cloth","House"] (Zt T) (pv 0) (v_var 1)) (Ĭ (Ŭ ["Thing","Post","Fence","Sail","Cloth","House"] (Z5 T) (pv 0) (Ġ (mH Ź ź T.bf PyProof.Rows.boot_list (Ğ (Ă 2) Į)))))
def zL(T:Tx K mg a):ĥ P w K mg base Ÿ 1 a.jr a.zJ ["self","word","numbers"] (Ft ⟨K,Ķ a⟩ 3 "Cloth" lE):=by
 refine Um (cm:=Ķ a) (mb:=cA) T.ģ.F uc rfl rfl rfl λcdv A outer s H E hr=>?_
 have hu:=hr.units
 exact ē (Ŭ ["Thing","Post","Fence","Sail","Cloth","House"] (Zt T) (pv 0) (v_var 1)) (Ĭ (Ŭ ["Thing","Post","Fence","Sail","Cloth","House"] (Z5 T) (pv 0) (Ġ (mH Ź ź T.bf PyProof.Rows.boot_list (Ğ (Ă 2) Į)))))
def zM(T:Tx K mg a):ĥ P w K mg base Ÿ 1 a.jr a.zJ ["self","word","numbers"] (Ft ⟨K,Ķ a⟩ 3 "House" lF):=by
 refine Um (cm:=Ķ a) (mb:=cA) T.ģ.F uc rfl rfl rfl λcdv A outer s H E hr=>?_
 have hu:=hr.units
 exact ē (Ŭ ["Thing","Post","Fence","Sail","Cloth","House"] (Zt T) (pv 0) (v_var 1)) (Ĭ (Ŭ ["Thing","Post","Fence","Sail","Cloth","House"] (Z5 T) (pv 0) (Ġ (mH Ź ź T.bf PyProof.Rows.boot_list (Ğ (Ă 2) Į)))))
def Fe(T:Tx K mg a):ĥ P w K mg base Ÿ 2 a.Ly a.Nm ["numbers"] (ű ⟨K,Ķ a⟩ 1 oA):=by
 refine ń T.aH.F Sv λ_ _ _ _ _ _ hr hu=>?_
 exact ŗ (v_and (v_eq hu (ğ (bV pD pX T.yu PySem.boot_len (Ğ (Ă 0) Į))) Ą) (v_and (bV (uO rfl) vf T.Er PyProof.Rows.boot_all (Ğ (ğ (Ġ (lg (bZ (Ġ (ū (Ă 0) fW (ţ Ĝ)))) aF Ŗ (Ġ (ĉ (lU T) T.Ŷ hr Ĕ (ę 0 Ė)))))) Į)) (nA (Ġ (ĉ (E_ T) T.dR hr Ĕ (ĕ (İ (Ă 0) Ą) Ė))))))
def TX(T:Tx K mg a):ĥ P w K mg base Ÿ 3 a.Lz a.Np ["numbers"] (ű ⟨K,Ķ a⟩ 1 tU):=by
 refine ń T.fK.F Sw λ_ _ _ _ _ _ hr hu=>?_
 exact ŗ (v_and (Ġ (ĉ (Fe T) T.aH hr Ĕ (ę 0 Ė))) (nA (rN Jt (Bg hu) (ğ (Ġ (ū (Ă 0) fW (ţ Ĝ)))) (ğ (Ġ (ū (Ă 0) (ţ Ĝ) (ţ Ĝ)))) (š _))))
def Ob(T:Tx K mg a):ĥ P w K mg base Ÿ 3 a.Xv a.XJ ["numbers"] (ű ⟨K,Ķ a⟩ 1 zH):=by
 refine ń T.Œ.F Yd λ_ _ _ _ _ _ hr _=>?_
 exact ŗ (v_and (Ġ (ĉ (Fe T) T.aH hr Ĕ (ę 0 Ė))) (v_and (rN j_ jQ (Ĵ (Ă 0) Ą) (Ĵ (Ă 0) Ą) (š _)) (nA (rN j_ jQ (Ĵ (Ă 0) Ą) (Ĵ (Ă 0) Ą) (š _)))))
def Yj(T:Tx K mg a):ĥ P w K mg base Ÿ 2 a.Xw a.XM ["numbers"] (ű ⟨K,Ķ a⟩ 1 Il):=by
 refine ń T.aR.F Ye λ_ _ _ _ _ _ hr _=>?_
 exact ŗ (v_and (Ġ (ĉ (lU T) T.Ŷ hr Ĕ (ĕ (İ (Ă 0) Ą) Ė))) (v_and (Ġ (ĉ (lU T) T.Ŷ hr Ĕ (ĕ (İ (Ă 0) Ą) Ė))) (nA (Bx kh kh jR jR Ą (Ĵ (Ă 0) Ą) (ğ (Jh (.int 1000000000) (jC (v:=.int 1000000000) rfl T.fM ⟨_,rfl⟩)))))))
def TY(T:Tx K mg a):ĥ P w K mg base Ÿ 3 a.LC a.Nq ["numbers"] (ű ⟨K,Ķ a⟩ 1 tW):=by
 refine ń T.fL.F Sx λ_ _ _ _ _ _ hr hu=>?_
 exact ŗ (v_and (v_eq hu (ğ (bV pD pX T.yu PySem.boot_len (Ğ (Ă 0) Į))) Ą) (nA (bV (uO rfl) vf T.Er PyProof.Rows.boot_all (Ğ (ğ (Ġ (lg (bZ (ħ (ă Ĝ (ă Ĝ (ă Ĝ Ę))))) aF Ŗ (Ġ (ĉ (Yj T) T.aR hr Ĕ (ĕ (Ġ (ū (Ă 0) (ţ (v_var 1)) (ţ (v_add (Ă 1) Ą)))) Ė)))))) Į))))
def T_(T:Tx K mg a):ĥ P w K mg base Ÿ 4 a.LK a.Nr ["word","numbers"] (ű ⟨K,Ķ a⟩ 2 cB):=by
 refine ń T.lK.F Sy λ_ _ _ _ _ _ hr hu=>?_
 exact ē (Ş (PW.pt (w_and (t_eq hu (Ă 0) b_) (cZ (jW (ğ (Ġ (ĉ (TQ T) T.gR hr Ĕ (ę 1 Ė)))))))) (ŗ (iD T.RP (Fb T) aq hr.mo rfl (Z1W T) T.ģ.b Ĕ (ę 0 (ę 1 Ė)))) Ĳ) (ē (Ş (PW.pt (w_and (t_eq hu (Ă 0) b_) (cZ (jW (ğ (Ġ (ĉ (TX T) T.fK hr Ĕ (ę 1 Ė)))))))) (ŗ (iD T.Iu (zK T) aq hr.mo rfl (Z1t T) T.ģ.b Ĕ (ę 0 (ę 1 Ė)))) Ĳ) (ē (Ş (PW.pt (w_and (t_eq hu (Ă 0) b_) (cZ (jW (ğ (Ġ (ĉ (Ob T) T.Œ hr Ĕ (ę 1 Ė)))))))) (ŗ (iD T.RQ (Fd T) aq hr.mo rfl (Z1X T) T.ģ.b Ĕ (ę 0 (ę 1 Ė)))) Ĳ) (ē (Ş (PW.pt (w_and (t_eq hu (Ă 0) b_) (cZ (jW (ğ (Ġ (ĉ (TY T) T.fL hr Ĕ (ę 1 Ė)))))))) (ŗ (iD T.Iv (zL T) aq hr.mo rfl (Z1u T) T.ģ.b Ĕ (ę 0 (ę 1 Ė)))) Ĳ) (ē (Ş (PW.pt (w_and (t_eq hu (Ă 0) b_) (cZ (jW (ğ (Ġ (ĉ (Ob T) T.Œ hr Ĕ (ę 1 Ė)))))))) (ŗ (iD T.Iw (zM T) aq hr.mo rfl (Z1v T) T.ģ.b Ĕ (ę 0 (ę 1 Ė)))) Ĳ) (Ĭ Hf)))))
def lV(T:Tx K mg a):ĥ P w K mg base Ÿ 8 a.LQ a.Nt ["_law_size_here","_law_drawn","_law_ray_here"] (ű ⟨K,Ķ a⟩ 3 Ų):=by
 refine ń T.Ŧ.F iW λ_ _ _ _ _ _ hr hu=>?_
 exact Ņ iW (ŵ (iD T.RT (Ez T) aq hr.mo rfl (Z1Y T) T.cD.b Ĕ (ĕ (İ (Ă 0) Ą) (ĕ (İ (Ă 0) Ą) (ĕ (Ġ (lg (Ž 1) (jX rfl (ĵ aF (ĵ aF aV))) Ŗ (Ġ (ĉ (T_ T) T.lK hr Ĕ (ę 0 (ĕ (Ġ (mH Ź ź T.bf PyProof.Rows.boot_list (Ğ (Ă 1) Į))) Ė)))))) (ĕ (Ġ (ň Ę)) Ė)))))) (Ņ iW (ĉ (TF T) T.Eo hr Ĕ (ę 3 (ę 2 Ė))) (Ņ iW (ĉ (TJ T) T.NQ hr Ĕ (ę 3 (ę 2 Ė))) (ē (Ig (i:=6) iW.nd rfl (Or.inl rfl)) (ē (bY PassesOwn.leaving rfl (dB rfl T.g_ (ă (v_mul (Ĵ (Ă 0) Ą) (Ĵ (Ă 0) Ą)) Ę)) (aW iW) (Ĭ (Ih (i:=6) hu (ħ (ă (v_mod (ğ (aM BX BZ (Ă 4) (Ă 7))) Ą) (ă (İ (Ă 5) (Ă 7)) Ę))) (ħ (ă (v_mod (Ă 7) (Ĵ (Ă 0) Ą)) (ă (fG (Ă 7) (Ĵ (Ă 0) Ą)) Ę))) (pv 6)))) (Ĭ (Ry 6))))))
def Fg(T:Tx K mg a):ĥ P w K mg base Ÿ 1 a.LR a.Nu ["_law_script","_law_k"] (ű ⟨K,Ķ a⟩ 2 bF):=by
 refine ń T.iU.F SJ λ_ _ _ _ _ _ _ _=>?_
 exact ē (Ş (cY j_ jQ (Ă 1) (ğ (bV pD pX T.yu PySem.boot_len (Ğ (Ă 0) Į))) (š _)) (ŗ (İ (Ă 0) (Ă 1))) Ĳ) (ŗ Ĝ)
def Fi(T:Tx K mg a):ĥ P w K mg base Ÿ 1 a.L_ a.Nv ["_law_number"] (ű ⟨K,Ķ a⟩ 1 oE):=by
 refine ń T.aZ.F SM λ_ _ _ _ _ _ _ hu=>?_
 exact ē (Ş (t_eq hu (ť (k_ (Ă 0) Ą) Ą) Ą) (Ĺ (cg Ą (ť (ŭ (Ă 0) Ą) (ğ (aM pN pC Ą Ą))))) Ĳ) (Ĺ (cg Ą (ť (Ă 0) Ą)))
def lW(T:Tx K mg a):ĥ P w K mg base Ÿ 1 a.Ma a.Nx ["_law_number","_law_wide"] (ű ⟨K,Ķ a⟩ 2 fH):=by
 refine ń T.Ś.F SN λ_ _ _ _ _ _ _ hu=>?_
 exact ē (Ş (t_eq hu (ť (k_ (Ă 0) Ą) Ą) Ą) (Ĺ (cg (kZ (ť (ŭ (Ă 0) Ą) (kZ (ŭ Ą (ğ (aM pN pC Ą Ą))) Ą)) (ğ (aM pN pC Ą Ą))) Ą)) Ĳ) (ŗ (v_sub (ť (Ă 0) (cj (ŭ Ą (Ă 1)) Ą)) Ą))
def Ua(T:Tx K mg a):ĥ P w K mg base Ÿ 2 a.Mf a.Ny ["_law_cell","_law_wide"] (ű ⟨K,Ķ a⟩ 2 cC):=by
 refine ń T.gU.F dW λ_ _ _ _ _ _ hr hu=>?_
 exact Ņ dW (ĉ (Ey T) T.aY hr Ĕ (ę 0 (ĕ Ĝ Ė))) (ē (Jj (Ġ (lg (dB rfl T.g_ (ă Ĝ Ę)) aF Ŗ (Ġ (ĉ (lW T) T.Ś hr Ĕ (ĕ (İ (Ă 1) (Ă 2)) (ę 0 Ė)))))) (Jx rfl (ĵ (aW dW) (ĵ (aW dW) aV)))) (Ņ dW (ĉ (Fi T) T.aZ hr Ĕ (ĕ (İ (Ă 2) Ą) Ė)) (Ņ dW (ŵ (v_mod (Ĵ (Ă 2) Ą) Ą)) (ē (Ş (t_eq hu (Ă 4) Ą) (ŗ (ħ (ă nu (ă (Ġ (ň (ă (fG (Ă 5) Ą) (ă (fG (Ă 6) Ą) (ă (v_var 3) Ę))))) Ę)))) Ĳ) (ē (Ş (t_eq hu (Ă 4) Ą) (ē (Jj (Ġ (ň (ă (v_sub (cj (Ă 5) (ť (Ĵ (Ă 2) Ą) Ą)) Ą) (ă (v_sub (cj (Ă 6) (ť (Ĵ (Ă 2) Ą) Ą)) Ą) Ę)))) (Jx rfl (ĵ (aW dW) (ĵ (aW dW) aV)))) (ŗ (ħ (ă nu (ă (Ġ (ň (ă (v_var 5) (ă (v_var 6) (ă (v_add (Ă 7) (ğ (WR Rj Rk T.XR PyProof.Rows.boot_int (Ğ (ğ (v_eq hu (ğ (ħ (ă (v_var 5) (ă (v_var 6) Ę)))) (ğ (ħ (ă (v_var 7) (ă (v_var 8) Ę)))))) Į)))) (ă (v_var 8) (ă (v_var 3) Ę))))))) Ę))))) Ĳ) (ē (Ş (t_eq hu (Ă 4) Ą) (ŗ (ħ (ă nu (ă (v_add (cj (ğ (Ġ (ň (ă (v_var 5) (ă (v_var 6) (ă (v_mod (Ĵ (Ă 2) Ą) Ą) Ę)))))) (ğ (Ġ (ň (ă (Ġ (ĉ (lW T) T.Ś hr Ĕ (ĕ (İ (Ă 2) Ą) (ę 1 Ė)))) (ă (Ġ (ĉ (lW T) T.Ś hr Ĕ (ĕ (İ (Ă 2) Ą) (ę 1 Ė)))) (ă (v_var 3) Ę))))))) (ğ (Ġ (ň (ă (Ġ (ĉ (lW T) T.Ś hr Ĕ (ĕ (İ (Ă 2) Ą) (ę 1 Ė)))) (ă (Ġ (ĉ (lW T) T.Ś hr Ĕ (ĕ (İ (Ă 2) Ą) (ę 1 Ė)))) (ă (Ġ (ĉ (Fi T) T.aZ hr Ĕ (ĕ (İ (Ă 2) Ą) Ė))) Ę))))))) Ę)))) Ĳ) (ŗ (ħ (ă (İ (ğ (Ġ (ň (ă nu (ă nu Ę))))) (kZ (Ă 4) Ą)) (ă (Ġ (ň (ă (v_var 5) (ă (v_var 6) (ă (v_add (cj (Ă 5) Ą) (ť (Ĵ (Ă 2) Ą) Ą)) (ă (v_add (cj (Ă 6) Ą) (ť (Ĵ (Ă 2) Ą) Ą)) (ă (v_var 3) Ę))))))) Ę))))))))))
def Ub(T:Tx K mg a):ĥ P w K mg base Ÿ 1 a.Mg a.Nz ["_law_ray_here"] (ű ⟨K,Ķ a⟩ 1 oG):=by
 refine ń T.gW.F qT λ_ _ _ _ _ _ _ hu=>?_
 exact Ņ qT (ŵ (İ (Ă 0) Ą)) (ē (bY PassesOwn.leaving rfl (bZ (Ġ (ň (ă (bV A_ Ce T.NT PyProof.Rows.boot_abs (Ğ (Ĵ (Ă 0) Ą) Į)) (ă (bV A_ Ce T.NT PyProof.Rows.boot_abs (Ğ (Ĵ (Ă 0) Ą) Į)) Ę))))) (aW qT) (Ĭ (Hj PassesOwn.leaving (zy hu (Ă 2) Ą) (Ĭ (PS.wk (Pb (i:=1) (j:=2) rfl qT.nd rfl rfl (by decide) rfl rfl (ă (v_var 2) (ă (v_mod (Ă 1) (Ă 2)) Ę)) rfl) λ_ _ _ h=>Hi h))))) (ŗ (ħ (ă (fG (Ĵ (Ă 0) Ą) (Ă 1)) (ă (fG (Ĵ (Ă 0) Ą) (Ă 1)) (ă (fG (Ĵ (Ă 0) Ą) (Ă 1)) Ę))))))
def Uc(T:Tx K mg a):ĥ P w K mg base Ÿ 1 a.Mh a.NK ["_law_word","_law_some"] (ű ⟨K,Ķ a⟩ 2 bG):=by
 refine ń T.dU.F SQ λ_ _ _ _ _ _ _ hu=>?_
 exact ē (Ş (t_eq hu (Ă 0) b_) (Ĺ (ň (ă (İ (Ă 1) Ą) (ă (İ (Ă 1) Ą) (ă (İ (Ă 1) Ą) Ę))))) Ĳ) (ē (Ş (t_eq hu (Ă 0) b_) (Ĺ (lg (bZ (Ġ (ň (ă Ĝ (ă Ĝ (ă Ĝ (ă Ĝ (ă Ĝ (ă Ĝ (ă Ĝ (ă Ĝ (ă Ĝ Ę)))))))))))) aF Ŗ (İ (Ă 0) (Ă 1)))) Ĳ) (Ĺ (ň (ă (İ (Ă 1) Ą) (ă (İ (Ă 1) Ą) (ă (İ (Ă 1) Ą) (ă (İ (Ă 1) Ą) (ă (İ (Ă 1) Ą) Ę))))))))
def Yk(T:Tx K mg a):ĥ P w K mg base Ÿ 1 a.Xx a.XQ ["_law_word","_law_some","_law_width"] (ű ⟨K,Ķ a⟩ 3 iQ):=by
 refine ń T.cJ.F yD λ_ _ _ _ _ _ _ hu=>?_
 exact Ņ yD (ŵ (v_sub (ŭ Ą (Ă 2)) Ą)) (ē (Ş (t_eq hu (Ă 0) b_) (Ĺ (cg (ğ (Ġ (ň (ă (v_sub (kZ (Ă 2) Ą) (Ĵ (Ă 1) Ą)) Ę)))) (ğ (Ġ (ū (Ă 1) (ţ Ĝ) fW))))) Ĳ) (ē (Ş (t_eq hu (Ă 0) b_) (Ņ yD (mH Ź ź T.bf PyProof.Rows.boot_list (Ğ (Ă 1) Į)) (ē (bY PassesOwn.leaving rfl (bZ (Ġ (ň (ă Ĝ (ă Ĝ (ă Ĝ Ę)))))) (aW yD) (Ĭ (xr (i:=4) (v_sub (Ă 3) (Ĵ (Ă 4) (Ă 5))) (v_var 5) (pv 4)))) (Ĺ (i_ 4)))) Ĳ) (ē (Ş (t_eq hu (Ă 0) b_) (Ĺ (cg (ğ (Ġ (ň (ă (v_sub (Ă 3) (Ĵ (Ă 1) Ą)) (ă (İ (Ă 1) Ą) (ă (v_sub (Ă 3) (Ĵ (Ă 1) Ą)) Ę)))))) (ğ (Ġ (ū (Ă 1) (ţ Ĝ) fW))))) Ĳ) (Ĺ (cg (ğ (Ġ (ň (ă (v_sub (Ă 3) (Ĵ (Ă 1) Ą)) (ă (İ (Ă 1) Ą) (ă (v_sub (Ă 3) (Ĵ (Ă 1) Ą)) Ę)))))) (ğ (Ġ (ū (Ă 1) (ţ Ĝ) fW))))))))
def Ud(T:Tx K mg a):ĥ P w K mg base Ÿ 1 a.Mi a.NP ["_law_word","_law_some"] (ű ⟨K,Ķ a⟩ 2 bH):=by
 refine ń T.gY.F wG λ_ _ _ _ _ _ _ hu=>?_
 exact ē (Ş (t_eq hu (Ă 0) b_) (Ĺ (cg (ğ (Ġ (ň (ă (v_add (Ĵ (Ă 1) Ą) Ą) Ę)))) (ğ (Ġ (ū (Ă 1) (ţ Ĝ) fW))))) Ĳ) (ē (Ş (t_eq hu (Ă 0) b_) (Ņ wG (mH Ź ź T.bf PyProof.Rows.boot_list (Ğ (Ă 1) Į)) (ē (bY PassesOwn.leaving rfl (bZ (Ġ (ň (ă Ĝ (ă Ĝ (ă Ĝ Ę)))))) (aW wG) (Ĭ (xr (i:=2) (v_add (Ĵ (Ă 2) (Ă 3)) Ą) (v_var 3) (pv 2)))) (Ĺ (i_ 2)))) Ĳ) (Ĺ (cg (ğ (Ġ (ň (ă (v_add (Ĵ (Ă 1) Ą) Ą) (ă (İ (Ă 1) Ą) (ă (v_add (Ĵ (Ă 1) Ą) Ą) Ę)))))) (ğ (Ġ (ū (Ă 1) (ţ Ĝ) fW))))))
def Ue(T:Tx K mg a):ĥ P w K mg base Ÿ 9 a.Mj a.Em ["_law_script"] (ű ⟨K,Ķ a⟩ 1 oJ):=by
 refine ń T.Ep.F ů λ_ _ _ _ _ _ hr hu=>?_
 exact Ņ ů (ĉ (SX T) T.ji hr Ĕ (ĕ (Ġ (ĉ (Fg T) T.iU hr Ĕ (ę 0 (ĕ Ĝ Ė)))) (ĕ Ĝ Ė))) (Ņ ů (ĉ (S_ T) T.lH hr Ĕ (ĕ (Ġ (ĉ (Fg T) T.iU hr Ĕ (ę 0 (ĕ Ĝ Ė)))) Ė)) (ē (zA ů (bZ (Ġ (ū (Ă 0) (ţ Ĝ) (ţ Ĝ)))) aF Ŗ (Ġ (ĉ (Ua T) T.gU hr Ĕ (ę 1 (ĕ (bV (vo rfl) vp T.yx PyProof.Rows.boot_max (Ğ (Ă 0) Į)) Ė))))) (Ņ ů (ĉ (lV T) T.Ŧ hr Ĕ (ę 1 (ę 3 (ę 2 Ė)))) (Ņ ů (ĉ (lV T) T.Ŧ hr Ĕ (ę 1 (ę 3 (ĕ (Ġ (ĉ (Ub T) T.gW hr Ĕ (ę 2 Ė))) Ė)))) (ē (zA ů (Ž 3) (jX rfl (ĵ aF (ĵ aF aV))) Ŗ (ħ (ă (v_var 0) (ă (Ġ (ĉ (Uc T) T.dU hr Ĕ (ę 0 (ę 1 Ė)))) Ę)))) (Ņ ů (ĉ (lV T) T.Ŧ hr Ĕ (ĕ (ħ (ă (İ (Ă 1) Ą) (ă (İ (Ă 1) Ą) Ę))) (ę 6 (ĕ (ħ (ă (İ (Ă 2) Ą) (ă (İ (Ă 2) Ą) (ă (İ (Ă 2) Ą) Ę)))) Ė)))) (ē (zA ů (Ž 3) (jX rfl (ĵ aF (ĵ aF aV))) Ŗ (ħ (ă (v_var 1) (ă (Ġ (ĉ (Yk T) T.cJ hr Ĕ (ę 1 (ę 2 (ĕ (İ (Ă 0) Ą) Ė))))) Ę)))) (Ņ ů (ĉ (lV T) T.Ŧ hr Ĕ (ę 1 (ę 6 (ĕ (ħ (ă (v_sub Ą (Ĵ (Ă 2) Ą)) (ă (İ (Ă 2) Ą) (ă (İ (Ă 2) Ą) Ę)))) Ė)))) (ē (zA ů (Ž 3) (jX rfl (ĵ aF (ĵ aF aV))) Ŗ (ħ (ă (v_var 0) (ă (Ġ (ĉ (Ud T) T.gY hr Ĕ (ę 0 (ę 1 Ė)))) Ę)))) (Ņ ů (ĉ (lV T) T.Ŧ hr Ĕ (ĕ (ħ (ă (bV (jG rfl) jL T.oM PyProof.Rows.boot_min (Ğ Ą (Ğ (cj (Ĵ (Ă 1) Ą) Ą) Į))) (ă (İ (Ă 1) Ą) Ę))) (ę 6 (ę 2 Ė)))) (ē (Ik (i:=4) PassesOwn.leaving rfl (ĵ (aW ů) (ĵ (aW ů) aV)) (ē (Ş (PW.pt (w_or (zy hu (ğ (aQ 5 hu (ħ (ă (v_var 10) (ă (v_var 11) Ę))))) (ğ (aQ 4 hu (ħ (ă (v_var 10) (ă (v_var 11) Ę)))))) (VJ (zy hu (ğ (aQ 7 hu (ħ (ă (v_var 11) (ă (v_var 10) Ę))))) (ğ (aQ 4 hu (ħ (ă (v_var 10) (ă (v_var 11) Ę))))))))) (ŗ GR) Ĳ) (ē (Ş (zy hu (ğ (aQ 8 hu (ħ (ă (v_sub (kZ (Ĵ (Ă 1) Ą) Ą) (Ă 10)) (ă (v_var 11) Ę))))) (ğ (aQ 4 hu (ħ (ă (v_var 10) (ă (v_var 11) Ę)))))) (ŗ GR) Ĳ) (Ĭ (Ş (PW.pt (w_and (cY j_ jQ (Ă 10) Ą (š _)) (cZ (zy hu (ğ (aQ 9 hu (ħ (ă (v_add (Ă 10) Ą) (ă (v_var 11) Ę))))) (ğ (aQ 4 hu (ħ (ă (v_var 10) (ă (v_var 11) Ę))))))))) (ŗ GR) Ĳ))))) (ŗ GR))))))))))))
end
def pt(p:Hu.Pt):PV:=.tup [.int p.1,.int p.2]
def cO(l:Hu.Ln):PV:=.tup [.int l.1,.int l.2.1,.int l.2.2]
def Sm(p:Hu.Pt):Prop:=-100000000000000000<=p.1/\p.1<=100000000000000000/\ -100000000000000000<=p.2/\p.2<=100000000000000000
def Oc(l:Hu.Ln):Prop:=-1000000000000000000<=l.1/\l.1<=1000000000000000000/\ -1000000000000000000<=l.2.1/\l.2.1<=1000000000000000000
def Z0k{x y:Hu.Pt}:eqB (pt y) (pt x)=decide (y=x):=by
 obtain⟨a,b⟩:=x
 obtain⟨c,d⟩:=y
 unfold pt
 rw[Rr,Bool.eq_iff_iff]
 simp
def ZS(x:Hu.Pt):Ŝ (pt x)=true:=by simp[pt,Ŝ,aK]
def ZM(x:Hu.Pt):dep (pt x)=1:=by simp[pt,dep,su]
def Z2k(S:List Hu.Pt):aK (S.map pt)=true:=by
 induction S with
 |nil=>simp[aK]
 |cons p S ih=>simp[aK,ZS,ih]
theorem Z18(x:Hu.Pt):∀k:List Hu.Pt,(k.map pt).any (λy=>eqB y (pt x))=decide (x∈k)
 | []=>by simp
 |y::k=>by
  rw[List.map_cons,List.any_cons,Z18 x k,Z0k,Bool.eq_iff_iff]
  simp
  constructor
  ·rintro (e|e)
   ·exact .inl e.symm
   ·exact .inr e
  ·rintro (e|e)
   ·exact .inl e.symm
   ·exact .inr e
def Z0l(x:Hu.Pt)(k:List Hu.Pt):inD true (pt x) (.lst (k.map pt))=some (.bl (!decide (x∈k))):=by
 unfold inD
 simp only[ZS,Z2k,ZM,Z18]
 rfl
def Z0H(x y:Hu.Pt):bU (pt x) (pt y)=some (.bl (!decide (x=y))):=by
 unfold bU pU
 rw[ZS,ZS,ZM,ZM,Z0k]
 rfl
def Z1Z{a b:Hu.Pt}(ha:Sm a)(hb:Sm b):yc [.sh (pt a),.sh (pt b)]=.ret (.sh (cO (Hu.Z1 a b))):=by
 obtain⟨a1,a2,a3,a4⟩:=ha
 obtain⟨b1,b2,b3,b4⟩:=hb
 have m1:ŋ (b.2-a.2) a.1=true:=ſ (by omega) (by omega)
 have m2:ŋ (a.1-b.1) a.2=true:=ſ (by omega) (by omega)
 simp[yc,Dl,List.replicate,pt,cO,Hu.Z1,m1,m2]
def Z1w{l:Hu.Ln}(hl:Oc l)(p:Hu.Pt):nW [.sh (cO l),.sh (pt p)]=.ret (.sh (.bl (Hu.hd l p))):=by
 obtain⟨a1,a2,a3,a4⟩:=hl
 have m1:ŋ l.1 p.1=true:=ſ (by omega) (by omega)
 have m2:ŋ l.2.1 p.2=true:=ſ (by omega) (by omega)
 simp[nW,Dp,List.replicate,pt,cO,Hu.hd,m1,m2]
def Z0A{a b:Hu.Pt}(ha:Sm a)(hb:Sm b):Oc (Hu.Z1 a b):=by
 obtain⟨a1,a2,a3,a4⟩:=ha
 obtain⟨b1,b2,b3,b4⟩:=hb
 simp only[Oc,Hu.Z1]
 omega
def Sl(s:P.Slot)(ps:List PV):Prop:=s=.sh (.lst ps)\/s=.bw ps
def Sl.lend{s:P.Slot}{ps:List PV}(h:Sl s ps):bB s=some s:=by rcases h with rfl|rfl<;>rfl
def Sl.it{s:P.Slot}{ps:List PV}(h:Sl s ps){i:Nat}{ρ:ļ}(e:ρ[i]?=some s):ņ i ρ=.ok ps ρ:= by
 rcases h with rfl|rfl<;>simp[e]
def Z20{S:List Hu.Pt}{sl:P.Slot}(hs:Sl sl (S.map pt))(hl:S.length<=1000):xZ [sl]=.ret (.ow ((Hu.Z2 S).map pt)):=by
 have hlen:∀(xs k:List Hu.Pt),(xs.foldl (λk x=>if x∈k then k else k ++ [x]) k).length<=k.length+xs.length:=by
  intro xs
  induction xs with
  |nil=>intro k;simp
  |cons x xs ih=>
   intro k
   rw[List.foldl_cons]
   refine Nat.le_trans (ih _) ?_
   split
   ·simp
   ·simp;omega
 have key:∀(xs:List Hu.Pt) (k:List Hu.Pt) (s2:P.Slot),k.length+xs.length<=1000->∃s2',forL (gN 2) iI (xs.map pt) [sl,.ow (k.map pt),s2]=.ok .nx [sl,.ow ((xs.foldl (λk x=>if x∈k then k else k ++ [x]) k).map pt),s2']:=by
  intro xs
  induction xs with
  |nil=>intro k s2 _;exact⟨s2,rfl⟩
  |cons x xs ih=>
   intro k s2 hk
   rw[List.length_cons] at hk
   by_cases hx:x∈k
   ·obtain⟨s2',e⟩:=ih k (.sh (pt x)) (by omega)
    refine⟨s2',?_⟩
    have hb:iI [sl,.ow (k.map pt),.sh (pt x)]=.ok .nx [sl,.ow (k.map pt),.sh (pt x)]:=by simp[iI,Z0l,hx]
    rw[List.map_cons,List.foldl_cons,if_pos hx,forL]
    simp[hb,e]
   ·obtain⟨s2',e⟩:=ih (k ++ [x]) (.sh (pt x)) (by simp;omega)
    refine⟨s2',?_⟩
    have h3:k.length<16777216:=by omega
    have hb:iI [sl,.ow (k.map pt),.sh (pt x)]=.ok .nx [sl,.ow ((k ++ [x]).map pt),.sh (pt x)]:=by simp[iI,Z0l,hx,h3]
    rw[List.map_cons,List.foldl_cons,if_neg hx,forL]
    simp only[xQ,List.set_cons_succ,List.set_cons_zero,hb,Res.Ū]
    exact e
 obtain⟨s2,e⟩:=key S [] .no (by simpa using hl)
 have hit:=hs.it (i:=0) (ρ:= [sl,.ow [],.no]) rfl
 simp only[List.map_nil] at e
 simp[xZ,Dk,List.replicate,-pY,hit,e]
 rfl
def Z19(x:Int)(l:List Int):dG [.lst ((x::l).map .int)]=some (.int (Hu.mx (x::l))):=by
 show((intsOf ((x::l).map .int)).bind (best max)).map PV.int=_
 rw[fX]
 rfl
def Z1a(x:Int)(l:List Int):nM [.lst ((x::l).map .int)]=some (.int (Hu.mn (x::l))):=by
 show((intsOf ((x::l).map .int)).bind (best min)).map PV.int=_
 rw[fX]
 rfl
def Z2l{S:List Hu.Pt}{sl:P.Slot}(hs:Sl sl (S.map pt))(h0:S≠[])(hl:S.length<=1000):xY [sl]=.ret (.ow ((Hu.box S).map cO)):=by
 have c1:Ľ (gN 0) Ŀ (ą č (Ā 0) (mC (.int 0))) (S.map pt) [.no] []=some ((S.map (·.1)).map .int):=by
  have:=Ł (g:=gN 0) (mt:=Ŀ) (me:=ą č (Ā 0) (mC (.int 0))) pt (λp=>.int p.1) (λρ=>∃s,ρ=[s]) S [.no] [] ⟨_,rfl⟩ (by simp;omega) (by
   rintro x hx ρ ⟨s,rfl⟩
   exact⟨[.sh (pt x)],[.sh (pt x)],[.sh (pt x)],by simp,by simp,by simp[pt],_,rfl⟩)
  rw[this]
  simp
 have c2:Ľ (gN 0) Ŀ (ą č (Ā 0) (mC (.int 1))) (S.map pt) [.no] []=some ((S.map (·.2)).map .int):=by
  have:=Ł (g:=gN 0) (mt:=Ŀ) (me:=ą č (Ā 0) (mC (.int 1))) pt (λp=>.int p.2) (λρ=>∃s,ρ=[s]) S [.no] [] ⟨_,rfl⟩ (by simp;omega) (by
   rintro x hx ρ ⟨s,rfl⟩
   exact⟨[.sh (pt x)],[.sh (pt x)],[.sh (pt x)],by simp,by simp,by simp[pt],_,rfl⟩)
  rw[this]
  simp
 obtain⟨p,R,rfl⟩:=List.exists_cons_of_ne_nil h0
 have x1:=Z19 p.1 (R.map (·.1))
 have x2:=Z1a p.1 (R.map (·.1))
 have x3:=Z19 p.2 (R.map (·.2))
 have x4:=Z1a p.2 (R.map (·.2))
 have hit:∀s1 s2,ņ 0 [sl,s1,s2]=.ok ((p::R).map pt) [sl,s1,s2]:=λs1 s2=>hs.it rfl
 have b:(Hu.box (p::R)).map cO=[.tup [.int 1,.int 0,.int (Hu.mx (p.1::R.map (·.1)))],.tup [.int (-1),.int 0,.int (- Hu.mn (p.1::R.map (·.1)))],.tup [.int 0,.int 1,.int (Hu.mx (p.2::R.map (·.2)))],.tup [.int 0,.int (-1),.int (- Hu.mn (p.2::R.map (·.2)))]]:=rfl
 rw[b]
 generalize (p::R).map pt=ps at hit c1 c2
 rw[List.map_cons] at c1 c2
 generalize (p.1::R.map (·.1)).map PV.int=us at c1 x1 x2
 generalize (p.2::R.map (·.2)).map PV.int=vs at c2 x3 x4
 simp[xY,Dj,List.replicate,-pY,-HF,-HJ,hit,c1,c2,x1,x2,x3,x4]
theorem Z09:∀l:List Bool,boolsOf (l.map .bl)=some l
 | []=>rfl
 |x::l=>by rw[List.map_cons,boolsOf,Z09 l];rfl
def Z2m(l:List Bool):sG [.lst (l.map .bl)]=some (.bl (l.all id)):=by
 show(boolsOf (l.map .bl)).map (λbs=>PV.bl (bs.all id))=_
 rw[Z09]
 rfl
def ZJ(S:List Hu.Pt):(Hu.Z2 S).length<=S.length:=by
 have:∀(xs k:List Hu.Pt),(xs.foldl (λk x=>if x∈k then k else k ++ [x]) k).length<=k.length+xs.length:=by
  intro xs
  induction xs with
  |nil=>intro k;simp
  |cons x xs ih=>
   intro k
   rw[List.foldl_cons]
   refine Nat.le_trans (ih _) ?_
   split
   ·simp
   ·simp;omega
 have h:=this S []
 rw[List.length_nil,Nat.zero_add] at h
 exact h
def Z1b{S:List Hu.Pt}(hS:∀p∈S,Sm p)(hl:S.length<=1000){a b:Hu.Pt}(ha:a∈S)(hb:b∈S)(s0 s5:P.Slot)(L:List Hu.Ln)(hL:L.length<16777216) :
 iJ [s0,.ow (L.map cO),.sh (.lst ((Hu.Z2 S).map pt)),.sh (pt a),.sh (pt b),s5]=.ok .nx [s0,.ow ((L++(if a≠b/\(Hu.Z2 S).all (Hu.hd (Hu.Z1 a b)) then[Hu.Z1 a b] else[])).map cO),.sh (.lst ((Hu.Z2 S).map pt)),.sh (pt a),.sh (pt b),.sh (cO (Hu.Z1 a b))]:=by
 have hsm:=Z0A (hS a ha) (hS b hb)
 have c1:Ľ (gN 1) Ŀ (ċ (Ď nW (Ć 0 (Ć 1 Ĉ)))) ((Hu.Z2 S).map pt) [.sh (cO (Hu.Z1 a b)),.no] []=some (((Hu.Z2 S).map (Hu.hd (Hu.Z1 a b))).map .bl):=by
  have hlen:(Hu.Z2 S).length<=16777216:=by have:=ZJ S;omega
  have:=Ł (g:=gN 1) (mt:=Ŀ) (me:=ċ (Ď nW (Ć 0 (Ć 1 Ĉ)))) pt (λp=>.bl (Hu.hd (Hu.Z1 a b) p)) (λρ=>∃s,ρ=[.sh (cO (Hu.Z1 a b)),s]) (Hu.Z2 S) [.sh (cO (Hu.Z1 a b)),.no] [] ⟨_,rfl⟩ (by simpa using hlen) (by
   rintro x hx ρ ⟨s,rfl⟩
   exact⟨[.sh (cO (Hu.Z1 a b)),.sh (pt x)],[.sh (cO (Hu.Z1 a b)),.sh (pt x)],[.sh (cO (Hu.Z1 a b)),.sh (pt x)],by simp,by simp,by simp[Z1w hsm],_,rfl⟩)
  rw[this]
  simp
 have c2:=Z2m ((Hu.Z2 S).map (Hu.hd (Hu.Z1 a b)))
 have e1:=Z1Z (hS a ha) (hS b hb)
 have e3:((Hu.Z2 S).map (Hu.hd (Hu.Z1 a b))).all id=(Hu.Z2 S).all (Hu.hd (Hu.Z1 a b)):=by simp
 rw[e3] at c2
 generalize ((Hu.Z2 S).map (Hu.hd (Hu.Z1 a b))).map PV.bl=bs at c1 c2
 by_cases h1:a=b
 ·subst h1
  simp[iJ,e1,Z0H]
 ·by_cases h2:(Hu.Z2 S).all (Hu.hd (Hu.Z1 a b))=true
  ·rw[h2] at c2
   simp[iJ,e1,Z0H,h1,c1,c2,h2,hL,-List.all_eq_true]
  ·rw[Bool.not_eq_true] at h2
   rw[h2] at c2
   simp[iJ,e1,Z0H,h1,c1,c2,h2,hL,-List.all_eq_true,-List.all_eq_false]
def Z1x{S:List Hu.Pt}(hS:∀p∈S,Sm p)(hl:S.length<=1000){a:Hu.Pt}(ha:a∈S)(s0:P.Slot):∀(xs:List Hu.Pt) (L:List Hu.Ln) (s4 s5:P.Slot),(∀x∈xs,x∈S)->L.length+xs.length<16777216->
 ∃Iz Jl,forL (gN 4) iJ (xs.map pt) [s0,.ow (L.map cO),.sh (.lst ((Hu.Z2 S).map pt)),.sh (pt a),s4,s5]=.ok .nx [s0,.ow ((L++xs.filterMap λb=>if a≠b/\(Hu.Z2 S).all (Hu.hd (Hu.Z1 a b)) then some (Hu.Z1 a b) else none).map cO),.sh (.lst ((Hu.Z2 S).map pt)),.sh (pt a),Iz,Jl]:=by
 intro xs
 induction xs with
 |nil=>intro L s4 s5 _ _;exact⟨s4,s5,by simp[forL]⟩
 |cons b xs ih=>
  intro L s4 s5 hx hL
  rw[List.length_cons] at hL
  have hb:=Z1b hS hl ha (hx b (by simp)) s0 s5 L (by omega)
  obtain⟨Iz,Jl,e⟩:=ih (L++(if a≠b/\(Hu.Z2 S).all (Hu.hd (Hu.Z1 a b)) then[Hu.Z1 a b] else[])) (.sh (pt b)) (.sh (cO (Hu.Z1 a b))) (λx h=>hx x (List.mem_cons_of_mem _ h)) (by
   rw[List.length_append]
   split
   ·simp;omega
   ·simp;omega)
  refine⟨Iz,Jl,?_⟩
  rw[List.map_cons,forL]
  simp only[xQ,List.set_cons_succ,List.set_cons_zero,hb,Res.Ū]
  rw[e,List.filterMap_cons]
  by_cases hc:a≠b/\(Hu.Z2 S).all (Hu.hd (Hu.Z1 a b))=true
  ·rw[if_pos hc,if_pos hc]
   simp only[List.append_assoc,List.cons_append,List.nil_append]
  ·rw[if_neg hc,if_neg hc]
   simp only[List.append_nil]
def ZK{α β:Type}(f:α->Option β)(l:List α):(l.filterMap f).length<=l.length:=List.length_filterMap_le ..
def Z1y{S:List Hu.Pt}(hS:∀p∈S,Sm p)(hl:S.length<=1000)(s0:P.Slot):∀(xs:List Hu.Pt) (L:List Hu.Ln) (s3 s4 s5:P.Slot),(∀x∈xs,x∈S)->L.length+xs.length*1000<10000000->
 ∃s3' Iz Jl,forL (gN 3) qm (xs.map pt) [s0,.ow (L.map cO),.sh (.lst ((Hu.Z2 S).map pt)),s3,s4,s5]=.ok .nx [s0,.ow ((L++xs.flatMap λa=>(Hu.Z2 S).filterMap λb=>if a≠b/\(Hu.Z2 S).all (Hu.hd (Hu.Z1 a b)) then some (Hu.Z1 a b) else none).map cO),.sh (.lst ((Hu.Z2 S).map pt)),s3',Iz,Jl]:=by
 intro xs
 induction xs with
 |nil=>intro L s3 s4 s5 _ _;exact⟨s3,s4,s5,by simp[forL]⟩
 |cons a xs ih=>
  intro L s3 s4 s5 hx hL
  rw[List.length_cons] at hL
  have ho:=ZJ S
  obtain⟨a4,a5,e1⟩:=Z1x hS hl (hx a (by simp)) s0 (Hu.Z2 S) L s4 s5 (λx h=>Hu.Zl.mp h) (by omega)
  have hf:=ZK (λb=>if a≠b/\(Hu.Z2 S).all (Hu.hd (Hu.Z1 a b))=true then some (Hu.Z1 a b) else none) (Hu.Z2 S)
  obtain⟨s3',Iz,Jl,e2⟩:=ih (L++(Hu.Z2 S).filterMap λb=>if a≠b/\(Hu.Z2 S).all (Hu.hd (Hu.Z1 a b))=true then some (Hu.Z1 a b) else none) (.sh (pt a)) a4 a5 (λx h=>hx x (List.mem_cons_of_mem _ h)) (by rw[List.length_append];omega)
  refine⟨s3',Iz,Jl,?_⟩
  have hb:qm [s0,.ow (L.map cO),.sh (.lst ((Hu.Z2 S).map pt)),.sh (pt a),s4,s5]=.ok .nx [s0,.ow ((L++(Hu.Z2 S).filterMap λb=>if a≠b/\(Hu.Z2 S).all (Hu.hd (Hu.Z1 a b))=true then some (Hu.Z1 a b) else none).map cO),.sh (.lst ((Hu.Z2 S).map pt)),.sh (pt a),a4,a5]:=by
   unfold qm
   simp only[Rf,pY,List.getElem?_cons_succ,List.getElem?_cons_zero,Res.Ū]
   exact e1
  rw[List.map_cons,forL]
  simp only[xQ,List.set_cons_succ,List.set_cons_zero,hb,Res.Ū]
  rw[e2,List.flatMap_cons,List.append_assoc]
def Z1z{S:List Hu.Pt}{sl:P.Slot}(hs:Sl sl (S.map pt))(hS:∀p∈S,Sm p)(hl:S.length<=1000):yd [sl]=.ret (.ow ((Hu.Zz S).map cO)):=by
 have h1:=Z20 hs hl
 have ho:=ZJ S
 obtain⟨s3,s4,s5,e⟩:=Z1y hS hl sl (Hu.Z2 S) [] .no .no .no (λx h=>Hu.Zl.mp h) (by simp;omega)
 have he:[]++((Hu.Z2 S).flatMap λa=>(Hu.Z2 S).filterMap λb=>if a≠b/\(Hu.Z2 S).all (Hu.hd (Hu.Z1 a b))=true then some (Hu.Z1 a b) else none)=Hu.Zz S:=rfl
 rw[he] at e
 generalize Hu.Zz S=ed at e
 generalize (Hu.Z2 S).map pt=os at e h1
 simp only[List.map_nil] at e
 simp[yd,Dq,List.replicate,hs.lend,h1,e]
def Z1c(S:List Hu.Pt)(hl:S.length<=1000):(Hu.Zz S).length<=1000000:=by
 have ho:=ZJ S
 have:∀(xs:List Hu.Pt) (f:Hu.Pt->List Hu.Ln),(∀x,(f x).length<=1000)->(xs.flatMap f).length<=xs.length*1000:=by
  intro xs f hf
  induction xs with
  |nil=>simp
  |cons x xs ih=>rw[List.flatMap_cons,List.length_append,List.length_cons];have:=hf x;omega
 refine Nat.le_trans (this (Hu.Z2 S) _ λx=>Nat.le_trans (ZK _ _) (by omega)) (by omega)
def Z1A{S:List Hu.Pt}{sl:P.Slot}(hs:Sl sl (S.map pt))(hS:∀p∈S,Sm p)(h0:S≠[])(hl:S.length<=1000):yg [sl]=.ret (.ow ((Hu.Zh S).map cO)):=by
 have h1:=Z2l hs h0 hl
 have h2:=Z1z hs hS hl
 have h3:ġ (.lst ((Hu.box S).map cO)) (.lst ((Hu.Zz S).map cO))=some (.ow ((Hu.Zh S).map cO)):=by
  rw[add_l (by have:=Z1c S hl;simp[Hu.box];omega),<-List.map_append]
  rfl
 simp[yg,Dt,List.replicate,hs.lend,h1,h2,h3]
def Z2n{S:List Hu.Pt}{l:Hu.Ln}(h:l∈Hu.Zh S)(hS:∀p∈S,Sm p):Oc l:=by
 rcases List.mem_append.mp h with h|h
 ·unfold Hu.box at h
  simp only[List.mem_cons,List.not_mem_nil,or_false] at h
  rcases h with e|e|e|e<;>subst e<;>simp only[Oc]<;>omega
 ·obtain⟨a,ha,b,hb,_,_,rfl⟩:=Hu.Zs.mp h
  exact Z0A (hS a ha) (hS b hb)
def Z0I(n:Nat):dz 0 n 1=(List.range n).map λ(i:Nat)=>PV.int (i:Int):=by
 unfold dz
 refine List.map_congr_left λi _=>?_
 simp
def Z0J{n:Nat}(h:n<=1000):eZ [.int (n:Int)]=some ((List.range n).map λ(i:Nat)=>PV.int (i:Int)):=by
 have hs:jY (n:Int)=true:=by unfold jY;simp;omega
 unfold eZ
 simp[hs,Z0I]
def Od(s:P.Slot)(ps:List PV):Prop:=s=.sh (.lst ps)\/s=.bw ps
def Ő(x:Int):Bool:=decide (-1000000000<=x/\x<=1000000000)
def h_(x:Int):Bool:=decide (1<=x/\x<=1000000000)
def qU(x:Int):Bool:=decide (0<=x/\x<=1000000000)
def ZW(x:Int):jh [.sh (.int x)]=.ret (.sh (.bl (Ő x))):=by
 unfold Ő
 by_cases h1: -1000000000<=x<;>by_cases h2:x<=1000000000<;>simp[jh,D_,List.replicate,h1,h2]
def Z0a(x:Int):tM [.sh (.int x)]=.ret (.sh (.bl (h_ x))):=by
 unfold h_
 by_cases h1:1<=x<;>by_cases h2:x<=1000000000<;>simp[tM,Ea,List.replicate,h1,h2]
def Ze:List Int->Bool
 | [p,q,h]=>Ő p && Ő q && h_ h
 |_=>false
def Z9:List Int->Bool
 | [x,y,u,v,h]=>Ő x && Ő y && Ő u && Ő v && h_ h
 |_=>false
def Zb:List Int->Bool
 | [x,y,u,v,h]=>Z9 [x,y,u,v,h] && !(decide (x=u) && decide (y=v))
 |_=>false
def Z7:List Int->Bool
 | [x,y,u,v,h]=>Z9 [x,y,u,v,h] && decide (x<u) && decide (y<v)
 |_=>false
def Zc:List Int->Bool
 | [a,b,c,d,e,f,g,h,i]=>Ő a && Ő b && qU c && (Ő d && Ő e && qU f) && (Ő g && Ő h && qU i)
 |_=>false
def Z2o(a b c:Bool):sG [.lst [.bl a,.bl b,.bl c]]=some (.bl (a && b && c)):=by cases a<;>cases b<;>cases c<;>rfl
def Z2p(a b c d:Bool):sG [.lst [.bl a,.bl b,.bl c,.bl d]]=some (.bl (a && b && c && d)):=by cases a<;>cases b<;>cases c<;>cases d<;>rfl
def Z0d{xs:List Int}{sl:P.Slot}(hs:Od sl (xs.map .int)):tQ [sl]=.ret (.sh (.bl (Ze xs))):=by
 by_cases hl:xs.length=3
 ·match xs,hl with
  | [a,b,c],_=>
    have h:Ze [a,b,c]=(Ő a && Ő b && h_ c):=rfl
    rw[h]
    rcases hs with rfl|rfl<;>cases ea:Ő a<;>cases eb:Ő b<;>cases ec:h_ c<;>simp[tQ,vO,List.replicate,ZW,Z0a,ea,eb,ec]
 ·have h:Ze xs=false:=by
   unfold Ze
   split
   ·simp at hl
   ·rfl
  rw[h]
  have hl':¬((xs.length:Nat):Int)=3:=by omega
  rcases hs with rfl|rfl<;>simp[tQ,vO,List.replicate,hl']
def Z0B{xs:List Int}{sl:P.Slot}(hs:Od sl (xs.map .int)):oA [sl]=.ret (.sh (.bl (Z9 xs))):=by
 by_cases hl:xs.length=5
 ·match xs,hl with
  | [a,b,c,d,e],_=>
    have h:Z9 [a,b,c,d,e]=(Ő a && Ő b && Ő c && Ő d && h_ e):=rfl
    rw[h]
    have hc:aC ([.int a,.int b,.int c,.int d,.int e]:List PV) none (some 4)=[.int a,.int b,.int c,.int d]:=rfl
    have hb:=Z2p (Ő a) (Ő b) (Ő c) (Ő d)
    rcases hs with rfl|rfl<;>cases ea:(Ő a && Ő b && Ő c && Ő d)<;>cases ec:h_ e<;>rw[ea] at hb<;>simp[oA,vP,List.replicate,ZW,Z0a,hc,Ľ,hb,ec]
 ·have h:Z9 xs=false:=by
   unfold Z9
   split
   ·simp at hl
   ·rfl
  rw[h]
  have hl':¬((xs.length:Nat):Int)=5:=by omega
  rcases hs with rfl|rfl<;>simp[oA,vP,List.replicate,hl']
def Z2q(a b c d:Int):bU (.lst [.int a,.int b]) (.lst [.int c,.int d])=some (.bl (!(decide (a=c) && decide (b=d)))):=by
 have h:eqB (.lst [.int a,.int b]) (.lst [.int c,.int d])=(decide (a=c) && decide (b=d)):=by
  simp[eqB,bQ]
  rw[Bool.eq_iff_iff]
  simp
 unfold bU pU
 rw[h]
 simp[Ŝ,aK,dep,su]
def Z1R{xs:List Int}(hl:¬xs.length=5):Z9 xs=false:=by
 unfold Z9
 split
 ·simp at hl
 ·rfl
def Z0K{s:P.Slot}{ps:List PV}(h:Od s ps):bB s=some s:=by rcases h with rfl|rfl<;>rfl
def Z1B{xs:List Int}{sl:P.Slot}(hs:Od sl (xs.map .int)):tU [sl]=.ret (.sh (.bl (Zb xs))):=by
 have he:=Z0B hs
 by_cases hl:xs.length=5
 ·match xs,hl with
  | [a,b,c,d,e],_=>
    have h:Zb [a,b,c,d,e]=(Z9 [a,b,c,d,e] && !(decide (a=c) && decide (b=d))):=rfl
    rw[h]
    have h1:aC ([.int a,.int b,.int c,.int d,.int e]:List PV) none (some 2)=[.int a,.int b]:=rfl
    have h2:aC ([.int a,.int b,.int c,.int d,.int e]:List PV) (some 2) (some 4)=[.int c,.int d]:=rfl
    have h3:=Z2q a b c d
    generalize Z9 [a,b,c,d,e]=q at *
    generalize (!(decide (a=c) && decide (b=d)))=r at *
    rcases hs with rfl|rfl<;>cases q<;>simp_all [tU,vQ,List.replicate]
 ·have h:Zb xs=false:=by
   unfold Zb
   split
   ·simp at hl
   ·rfl
  rw[h]
  rw[Z1R hl] at he
  simp[tU,vQ,List.replicate,Z0K hs,he]
def Z21{xs:List Int}{sl:P.Slot}(hs:Od sl (xs.map .int)):zH [sl]=.ret (.sh (.bl (Z7 xs))):=by
 have he:=Z0B hs
 by_cases hl:xs.length=5
 ·match xs,hl with
  | [a,b,c,d,e],_=>
    have h:Z7 [a,b,c,d,e]=(Z9 [a,b,c,d,e] && decide (a<c) && decide (b<d)):=rfl
    rw[h]
    generalize Z9 [a,b,c,d,e]=q at *
    rcases hs with rfl|rfl<;>simp only[List.map_cons,List.map_nil] at he<;>cases q<;>by_cases h1:a<c<;>by_cases h2:b<d<;>simp[zH,Eb,List.replicate,he,h1,h2]
 ·have h:Z7 xs=false:=by
   unfold Z7
   split
   ·simp at hl
   ·rfl
  rw[h]
  rw[Z1R hl] at he
  simp[zH,Eb,List.replicate,Z0K hs,he]
def ZN(a b c:Int):Il [.sh (.lst [.int a,.int b,.int c])]=.ret (.sh (.bl (Ő a && Ő b && qU c))):=by
 unfold qU
 cases ea:Ő a<;>cases eb:Ő b<;>by_cases h1:0<=c<;>by_cases h2:c<=1000000000<;>simp[Il,KJ,List.replicate,ZW,ea,eb,h1,h2]
def Z1C{xs:List Int}{sl:P.Slot}(hs:Od sl (xs.map .int)):tW [sl]=.ret (.sh (.bl (Zc xs))):=by
 by_cases hl:xs.length=9
 ·match xs,hl with
  | [a,b,c,d,e,f,g,h,i],_=>
    have hc:Zc [a,b,c,d,e,f,g,h,i]=((Ő a && Ő b && qU c) && (Ő d && Ő e && qU f) && (Ő g && Ő h && qU i)):=rfl
    rw[hc]
    have h1:aC ([.int a,.int b,.int c,.int d,.int e,.int f,.int g,.int h,.int i]:List PV) (some 0) (some 3)=[.int a,.int b,.int c]:=rfl
    have h2:aC ([.int a,.int b,.int c,.int d,.int e,.int f,.int g,.int h,.int i]:List PV) (some 3) (some 6)=[.int d,.int e,.int f]:=rfl
    have h3:aC ([.int a,.int b,.int c,.int d,.int e,.int f,.int g,.int h,.int i]:List PV) (some 6) (some 9)=[.int g,.int h,.int i]:=rfl
    have hb:=Z2o (Ő a && Ő b && qU c) (Ő d && Ő e && qU f) (Ő g && Ő h && qU i)
    have k1:=ZN a b c
    have k2:=ZN d e f
    have k3:=ZN g h i
    generalize (Ő a && Ő b && qU c)=q1 at *
    generalize (Ő d && Ő e && qU f)=q2 at *
    generalize (Ő g && Ő h && qU i)=q3 at *
    rcases hs with rfl|rfl<;>simp[tW,vR,List.replicate,Ľ,h1,h2,h3,k1,k2,k3,hb]
 ·have h:Zc xs=false:=by
   unfold Zc
   split
   ·simp at hl
   ·rfl
  rw[h]
  have hl':¬((xs.length:Nat):Int)=9:=by omega
  rcases hs with rfl|rfl<;>simp[tW,vR,List.replicate,hl']
def Zf(w:Str):String:=if w= "post" then "Post" else if w= "fence" then "Fence" else if w= "sail" then "Sail" else if w= "cloth" then "Cloth" else "House"
def Za(C:String)(w:Str)(xs:List Int):PV:=.ins C ["word","numbers"] [.str w,.lst (xs.map .int)]
def Z0(w:Str)(xs:List Int):Bool:=if w= "post" then Ze xs else if w= "fence" then Zb xs else if w= "sail" then Z7 xs else if w= "cloth" then Zc xs else if w= "house" then Z7 xs else false
def wn:((Str.ofString "word")=(Str.ofString "numbers"))=False:=eq_false (by decide +kernel)
def ZD{C:String}(hC:(["Thing","Post","Fence","Sail","Cloth","House"]:List String).contains C=true)(w:Str){xs:List Int}{sl:P.Slot}(hs:Od sl (xs.map .int)):aO 3 3 C cA [.sh (.str w),sl]=.ok ["word","numbers"] [.str w,.lst (xs.map .int)]:=by
 rcases hs with rfl|rfl<;>simp[aO,cA,fB,IR.of,List.replicate,putN,vh,hC,wn,-List.contains_eq_mem,-List.contains_cons]
def s1:PyData.strOk (Str.ofString "post")=true:=by decide +kernel
def s2:PyData.strOk (Str.ofString "fence")=true:=by decide +kernel
def s3:PyData.strOk (Str.ofString "sail")=true:=by decide +kernel
def s4:PyData.strOk (Str.ofString "cloth")=true:=by decide +kernel
def s5:PyData.strOk (Str.ofString "house")=true:=by decide +kernel
def d12:(Str.ofString "post" =Str.ofString "fence")=False:=eq_false (by decide +kernel)
def d13:(Str.ofString "post" =Str.ofString "sail")=False:=eq_false (by decide +kernel)
def d14:(Str.ofString "post" =Str.ofString "cloth")=False:=eq_false (by decide +kernel)
def d15:(Str.ofString "post" =Str.ofString "house")=False:=eq_false (by decide +kernel)
def d21:(Str.ofString "fence" =Str.ofString "post")=False:=eq_false (by decide +kernel)
def d23:(Str.ofString "fence" =Str.ofString "sail")=False:=eq_false (by decide +kernel)
def d24:(Str.ofString "fence" =Str.ofString "cloth")=False:=eq_false (by decide +kernel)
def d25:(Str.ofString "fence" =Str.ofString "house")=False:=eq_false (by decide +kernel)
def d31:(Str.ofString "sail" =Str.ofString "post")=False:=eq_false (by decide +kernel)
def d32:(Str.ofString "sail" =Str.ofString "fence")=False:=eq_false (by decide +kernel)
def d34:(Str.ofString "sail" =Str.ofString "cloth")=False:=eq_false (by decide +kernel)
def d35:(Str.ofString "sail" =Str.ofString "house")=False:=eq_false (by decide +kernel)
def d41:(Str.ofString "cloth" =Str.ofString "post")=False:=eq_false (by decide +kernel)
def d42:(Str.ofString "cloth" =Str.ofString "fence")=False:=eq_false (by decide +kernel)
def d43:(Str.ofString "cloth" =Str.ofString "sail")=False:=eq_false (by decide +kernel)
def d45:(Str.ofString "cloth" =Str.ofString "house")=False:=eq_false (by decide +kernel)
def d51:(Str.ofString "house" =Str.ofString "post")=False:=eq_false (by decide +kernel)
def d52:(Str.ofString "house" =Str.ofString "fence")=False:=eq_false (by decide +kernel)
def d53:(Str.ofString "house" =Str.ofString "sail")=False:=eq_false (by decide +kernel)
def d54:(Str.ofString "house" =Str.ofString "cloth")=False:=eq_false (by decide +kernel)
def Z1D{w:Str}(hw:PyData.strOk w=true){xs:List Int}{sl:P.Slot}(hs:Od sl (xs.map .int)):cB [.sh (.str w),sl]=if Z0 w xs=true then .ret (.sh (Za (Zf w) w xs)) else .bad:=by
 have e1:=į hw s1
 have e2:=į hw s2
 have e3:=į hw s3
 have e4:=į hw s4
 have e5:=į hw s5
 have p1:=Z0d hs
 have p2:=Z1B hs
 have p3:=Z21 hs
 have p4:=Z1C hs
 have i1:qu [.sh (.str w),sl]=_:=ZD (by decide) w hs
 have i2:lC [.sh (.str w),sl]=_:=ZD (by decide) w hs
 have i3:qw [.sh (.str w),sl]=_:=ZD (by decide) w hs
 have i4:lE [.sh (.str w),sl]=_:=ZD (by decide) w hs
 have i5:lF [.sh (.str w),sl]=_:=ZD (by decide) w hs
 have hle:=Z0K hs
 unfold Z0 Zf Za
 by_cases h1:w=Str.ofString "post"
 ·have n2:¬w=Str.ofString "fence" := λz=>(d12▸(h1.symm.trans z):False)
  have n3:¬w=Str.ofString "sail" := λz=>(d13▸(h1.symm.trans z):False)
  have n4:¬w=Str.ofString "cloth" := λz=>(d14▸(h1.symm.trans z):False)
  have n5:¬w=Str.ofString "house" := λz=>(d15▸(h1.symm.trans z):False)
  rw[decide_eq_true h1] at e1
  rw[decide_eq_false n2] at e2
  rw[decide_eq_false n3] at e3
  rw[decide_eq_false n4] at e4
  rw[decide_eq_false n5] at e5
  have hg:(if w=Str.ofString "post" then Ze xs else if w=Str.ofString "fence" then Zb xs else if w=Str.ofString "sail" then Z7 xs else if w=Str.ofString "cloth" then Zc xs else if w=Str.ofString "house" then Z7 xs else false)=Ze xs:=by rw[if_pos h1]
  have hc:(if w=Str.ofString "post" then "Post" else if w=Str.ofString "fence" then "Fence" else if w=Str.ofString "sail" then "Sail" else if w=Str.ofString "cloth" then "Cloth" else "House")= "Post" := by rw[if_pos h1]
  rw[hg,hc]
  cases q:Ze xs<;>rw[q] at p1<;>simp[cB,fZ,aP,List.replicate,e1,e2,e3,e4,e5,hle,p1,i1]
 ·skip
  by_cases h2:w=Str.ofString "fence"
  ·have n1:=h1
   have n3:¬w=Str.ofString "sail" := λz=>(d23▸(h2.symm.trans z):False)
   have n4:¬w=Str.ofString "cloth" := λz=>(d24▸(h2.symm.trans z):False)
   have n5:¬w=Str.ofString "house" := λz=>(d25▸(h2.symm.trans z):False)
   rw[decide_eq_true h2] at e2
   rw[decide_eq_false n1] at e1
   rw[decide_eq_false n3] at e3
   rw[decide_eq_false n4] at e4
   rw[decide_eq_false n5] at e5
   have hg:(if w=Str.ofString "post" then Ze xs else if w=Str.ofString "fence" then Zb xs else if w=Str.ofString "sail" then Z7 xs else if w=Str.ofString "cloth" then Zc xs else if w=Str.ofString "house" then Z7 xs else false)=Zb xs:=by rw[if_neg n1,if_pos h2]
   have hc:(if w=Str.ofString "post" then "Post" else if w=Str.ofString "fence" then "Fence" else if w=Str.ofString "sail" then "Sail" else if w=Str.ofString "cloth" then "Cloth" else "House")= "Fence" := by rw[if_neg n1,if_pos h2]
   rw[hg,hc]
   cases q:Zb xs<;>rw[q] at p2<;>simp[cB,fZ,aP,List.replicate,e1,e2,e3,e4,e5,hle,p2,i2]
  ·skip
   by_cases h3:w=Str.ofString "sail"
   ·have n1:=h1
    have n2:=h2
    have n4:¬w=Str.ofString "cloth" := λz=>(d34▸(h3.symm.trans z):False)
    have n5:¬w=Str.ofString "house" := λz=>(d35▸(h3.symm.trans z):False)
    rw[decide_eq_true h3] at e3
    rw[decide_eq_false n1] at e1
    rw[decide_eq_false n2] at e2
    rw[decide_eq_false n4] at e4
    rw[decide_eq_false n5] at e5
    have hg:(if w=Str.ofString "post" then Ze xs else if w=Str.ofString "fence" then Zb xs else if w=Str.ofString "sail" then Z7 xs else if w=Str.ofString "cloth" then Zc xs else if w=Str.ofString "house" then Z7 xs else false)=Z7 xs:=by rw[if_neg n1,if_neg n2,if_pos h3]
    have hc:(if w=Str.ofString "post" then "Post" else if w=Str.ofString "fence" then "Fence" else if w=Str.ofString "sail" then "Sail" else if w=Str.ofString "cloth" then "Cloth" else "House")= "Sail" := by rw[if_neg n1,if_neg n2,if_pos h3]
    rw[hg,hc]
    cases q:Z7 xs<;>rw[q] at p3<;>simp[cB,fZ,aP,List.replicate,e1,e2,e3,e4,e5,hle,p3,i3]
   ·skip
    by_cases h4:w=Str.ofString "cloth"
    ·have n1:=h1
     have n2:=h2
     have n3:=h3
     have n5:¬w=Str.ofString "house" := λz=>(d45▸(h4.symm.trans z):False)
     rw[decide_eq_true h4] at e4
     rw[decide_eq_false n1] at e1
     rw[decide_eq_false n2] at e2
     rw[decide_eq_false n3] at e3
     rw[decide_eq_false n5] at e5
     have hg:(if w=Str.ofString "post" then Ze xs else if w=Str.ofString "fence" then Zb xs else if w=Str.ofString "sail" then Z7 xs else if w=Str.ofString "cloth" then Zc xs else if w=Str.ofString "house" then Z7 xs else false)=Zc xs:=by rw[if_neg n1,if_neg n2,if_neg n3,if_pos h4]
     have hc:(if w=Str.ofString "post" then "Post" else if w=Str.ofString "fence" then "Fence" else if w=Str.ofString "sail" then "Sail" else if w=Str.ofString "cloth" then "Cloth" else "House")= "Cloth" := by rw[if_neg n1,if_neg n2,if_neg n3,if_pos h4]
     rw[hg,hc]
     cases q:Zc xs<;>rw[q] at p4<;>simp[cB,fZ,aP,List.replicate,e1,e2,e3,e4,e5,hle,p4,i4]
    ·skip
     by_cases h5:w=Str.ofString "house"
     ·have n1:=h1
      have n2:=h2
      have n3:=h3
      have n4:=h4
      rw[decide_eq_true h5] at e5
      rw[decide_eq_false n1] at e1
      rw[decide_eq_false n2] at e2
      rw[decide_eq_false n3] at e3
      rw[decide_eq_false n4] at e4
      have hg:(if w=Str.ofString "post" then Ze xs else if w=Str.ofString "fence" then Zb xs else if w=Str.ofString "sail" then Z7 xs else if w=Str.ofString "cloth" then Zc xs else if w=Str.ofString "house" then Z7 xs else false)=Z7 xs:=by rw[if_neg n1,if_neg n2,if_neg n3,if_neg n4,if_pos h5]
      have hc:(if w=Str.ofString "post" then "Post" else if w=Str.ofString "fence" then "Fence" else if w=Str.ofString "sail" then "Sail" else if w=Str.ofString "cloth" then "Cloth" else "House")= "House" := by rw[if_neg n1,if_neg n2,if_neg n3,if_neg n4]
      rw[hg,hc]
      cases q:Z7 xs<;>rw[q] at p3<;>simp[cB,fZ,aP,List.replicate,e1,e2,e3,e4,e5,hle,p3,i5]
     ·skip
      rw[decide_eq_false h1] at e1
      rw[decide_eq_false h2] at e2
      rw[decide_eq_false h3] at e3
      rw[decide_eq_false h4] at e4
      rw[decide_eq_false h5] at e5
      rw[if_neg h1,if_neg h2,if_neg h3,if_neg h4,if_neg h5]
      simp[cB,fZ,aP,List.replicate,e1,e2,e3,e4,e5]
abbrev P3:=Int×Int×Int
def c3(p:P3):PV:=.tup [.int p.1,.int p.2.1,.int p.2.2]
def Z8(x y u v z:Int):List P3:=[(x,y,z),(u,y,z),(u,v,z),(x,v,z)]
def Zg(x y u v h:Int):List P3:=Z8 x y u v 0++Z8 x y u v h
def Z4(C:String)(xs:List Int):List P3:=
 if C= "Post" then(match xs with
  | [p,q,h]=>Zg (2*p-1) (2*q-1) (2*p+1) (2*q+1) h
  |_=>[])
 else if C= "Fence" then(match xs with
  | [x,y,u,v,h]=>[(x,y,0),(u,v,0),(u,v,h),(x,y,h)]
  |_=>[])
 else if C= "Sail" then(match xs with
  | [x,y,u,v,h]=>Z8 x y u v h
  |_=>[])
 else if C= "Cloth" then(match xs with
  | [a,b,c,d,e,f,g,h,i]=>[(a,b,c),(d,e,f),(g,h,i)]
  |_=>[])
 else(match xs with
  | [x,y,u,v,h]=>Zg x y u v h
  |_=>[])
def Z3(w:Str)(xs:List Int):List P3:=Z4 (Zf w) xs
def ZO{C:String}(hC:(["Thing","Post","Fence","Sail","Cloth","House"]:List String).contains C=true)(w:Str)(xs:List Int):ż ["Thing","Post","Fence","Sail","Cloth","House"] (Str.ofString "numbers") (Za C w xs)=some (.lst (xs.map .int)):=by
 unfold ż Za
 dsimp only
 rw[if_pos hC]
 have:(Str.ofString "numbers" == Str.ofString "word")=false:=by decide +kernel
 show List.lookup _ [(_,_),(_,_)]=_
 rw[List.lookup_cons,this]
 simp
def Z0m(x y u v z:Int):nZ [.sh (.int x),.sh (.int y),.sh (.int u),.sh (.int v),.sh (.int z)]=.ret (.ow ((Z8 x y u v z).map c3)):=by
 simp[nZ,Dv,List.replicate,Z8,c3]
def Z0n(x y u v h:Int):Dw [.sh (.int x),.sh (.int y),.sh (.int u),.sh (.int v),.sh (.int h)]=.ret (.ow ((Zg x y u v h).map c3)):=by
 simp[Dw,Kz,List.replicate,Z0m,Zg,Z8,add_l]
def Z2r{xs:List Int}(h:Ze xs=true)(w:Str):je [.sh (Za "Post" w xs)]=.ret (.ow ((Z4 "Post" xs).map c3)):=by
 match xs,h with
 | [p,q,h],hh=>
   simp[Ze,Ő,h_] at hh
   have hf:=ZO (C:= "Post") (by decide) w [p,q,h]
   generalize Za "Post" w [p,q,h]=v at *
   have e:=Z0n (2*p-1) (2*q-1) (2*p+1) (2*q+1) h
   simp[je,Dz,List.replicate,hf,e,Z4]
def Z22{xs:List Int}(h:Zb xs=true)(w:Str):jf [.sh (Za "Fence" w xs)]=.ret (.ow ((Z4 "Fence" xs).map c3)):=by
 match xs,h with
 | [x,y,u,v,h],hh=>
   have hf:=ZO (C:= "Fence") (by decide) w [x,y,u,v,h]
   generalize Za "Fence" w [x,y,u,v,h]=t at *
   simp[jf,DN,List.replicate,hf,Z4,c3,ġ]
def Z2s{xs:List Int}(h:Z7 xs=true)(w:Str):jg [.sh (Za "Sail" w xs)]=.ret (.ow ((Z4 "Sail" xs).map c3)):=by
 match xs,h with
 | [x,y,u,v,h],hh=>
   have hf:=ZO (C:= "Sail") (by decide) w [x,y,u,v,h]
   generalize Za "Sail" w [x,y,u,v,h]=t at *
   have e:=Z0m x y u v h
   simp[jg,DP,List.replicate,hf,e,Z4]
def Z23{xs:List Int}(h:Z7 xs=true)(w:Str):tE [.sh (Za "House" w xs)]=.ret (.ow ((Z4 "House" xs).map c3)):=by
 match xs,h with
 | [x,y,u,v,h],hh=>
   have hf:=ZO (C:= "House") (by decide) w [x,y,u,v,h]
   generalize Za "House" w [x,y,u,v,h]=t at *
   have e:=Z0n x y u v h
   simp[tE,KD,List.replicate,hf,e,Z4]
def Z24{xs:List Int}(h:Zc xs=true)(w:Str):tD [.sh (Za "Cloth" w xs)]=.ret (.ow ((Z4 "Cloth" xs).map c3)):=by
 match xs,h with
 | [a,b,c,d,e,f,g,i,j],hh=>
   have hf:=ZO (C:= "Cloth") (by decide) w [a,b,c,d,e,f,g,i,j]
   generalize Za "Cloth" w [a,b,c,d,e,f,g,i,j]=t at *
   simp[tD,KC,List.replicate,hf,Z4,c3,Ľ,xJ,aC]
   exact⟨rfl,rfl,rfl⟩
def cst(r p:P3):Hu.Pt:=(r.2.2*p.1+r.1*p.2.2,r.2.2*p.2.1+r.2.1*p.2.2)
def RB(r:P3):Prop:=-1000000<=r.1/\r.1<=1000000/\ -1000000<=r.2.1/\r.2.1<=1000000/\ -1000000<=r.2.2/\r.2.2<=1000000
def PB(p:P3):Prop:=-10000000000<=p.1/\p.1<=10000000000/\ -10000000000<=p.2.1/\p.2.1<=10000000000/\ -10000000000<=p.2.2/\p.2.2<=10000000000
def Z25{r:P3}(hr:RB r)(p:P3):nY [.sh (c3 p),.sh (c3 r)]=.ret (.sh (pt (cst r p))):=by
 obtain⟨a1,a2,a3,a4,a5,a6⟩:=hr
 have m1:ŋ r.2.2 p.1=true:=ſ (by omega) (by omega)
 have m2:ŋ r.2.2 p.2.1=true:=ſ (by omega) (by omega)
 have m3:ŋ r.1 p.2.2=true:=ſ (by omega) (by omega)
 have m4:ŋ r.2.1 p.2.2=true:=ſ (by omega) (by omega)
 simp[nY,Du,List.replicate,pt,c3,cst,m1,m2,m3,m4]
def Yl{x y A B:Int}(h1: -A<=x)(h2:x<=A)(h3: -B<=y)(h4:y<=B): -(A*B)<=x*y/\x*y<=A*B:=by
 have hA:0<=A:=by omega
 have hB:0<=B:=by omega
 have e:(x*y).natAbs<=A.natAbs*B.natAbs:=by
  rw[Int.natAbs_mul]
  exact Nat.mul_le_mul (by omega) (by omega)
 have e2:((A*B).natAbs)=A.natAbs*B.natAbs:=Int.natAbs_mul A B
 have e3:0<=A*B:=Int.mul_nonneg hA hB
 omega
def Z2t{r p:P3}(hr:RB r)(hp:PB p):Sm (cst r p):=by
 obtain⟨a1,a2,a3,a4,a5,a6⟩:=hr
 obtain⟨b1,b2,b3,b4,b5,b6⟩:=hp
 have q1:=Yl a5 a6 b1 b2
 have q2:=Yl a5 a6 b3 b4
 have q3:=Yl a1 a2 b5 b6
 have q4:=Yl a3 a4 b5 b6
 simp only[Sm,cst]
 omega
def Z1d{w:Str}{xs:List Int}(hg:Z0 w xs=true){mo:M PV}{ρ ρ1:List P.Slot}(ho:mo ρ=.ok (Za (Zf w) w xs) ρ1):kO (Str.ofString "corners") [("Post",je),("Fence",jf),("Sail",jg),("Cloth",tD),("House",tE)] mo Ĉ ρ=.ok (.ow ((Z3 w xs).map c3)) ρ1:=by
 have hn:(["word","numbers"]:List Str).contains (Str.ofString "corners")=false:=by decide +kernel
 have key:∀(C:String) (mf:MF),Zf w=C->List.lookup C [("Post",je),("Fence",jf),("Sail",jg),("Cloth",tD),("House",tE)]=some mf->mf [.sh (Za C w xs)]=.ret (.ow ((Z4 C xs).map c3))->kO (Str.ofString "corners") [("Post",je),("Fence",jf),("Sail",jg),("Cloth",tD),("House",tE)] mo Ĉ ρ=.ok (.ow ((Z3 w xs).map c3)) ρ1:=by
  intro C mf hC hl hf
  unfold Z3
  rw[hC] at ho ⊢
  unfold kO
  rw[ho]
  unfold Za at *
  simp only[Res.bind]
  rw[hl]
  dsimp only
  rw[if_neg (by rw[hn];decide)]
  simp only[Ĉ,Res.bind]
  rw[hf]
 unfold Z0 at hg
 by_cases e1:w= "post"
 ·rw[if_pos e1] at hg
  exact key "Post" _ (by unfold Zf;rw[if_pos e1]) rfl (Z2r hg w)
 rw[if_neg e1] at hg
 by_cases e2:w= "fence"
 ·rw[if_pos e2] at hg
  exact key "Fence" _ (by unfold Zf;rw[if_neg e1,if_pos e2]) rfl (Z22 hg w)
 rw[if_neg e2] at hg
 by_cases e3:w= "sail"
 ·rw[if_pos e3] at hg
  exact key "Sail" _ (by unfold Zf;rw[if_neg e1,if_neg e2,if_pos e3]) rfl (Z2s hg w)
 rw[if_neg e3] at hg
 by_cases e4:w= "cloth"
 ·rw[if_pos e4] at hg
  exact key "Cloth" _ (by unfold Zf;rw[if_neg e1,if_neg e2,if_neg e3,if_pos e4]) rfl (Z24 hg w)
 rw[if_neg e4] at hg
 by_cases e5:w= "house"
 ·rw[if_pos e5] at hg
  exact key "House" _ (by unfold Zf;rw[if_neg e1,if_neg e2,if_neg e3,if_neg e4]) rfl (Z23 hg w)
 ·rw[if_neg e5] at hg
  cases hg
def Z0L{r:P3}(hr:RB r){L:List P3}(hl:L.length<=100)(s1:P.Slot):Ľ (gN 1) Ŀ (ċ (Ď nY (Ć 1 (Ć 0 Ĉ)))) (L.map c3) [.sh (c3 r),s1] []=some ((L.map (cst r)).map pt):=by
 have:=Ł (g:=gN 1) (mt:=Ŀ) (me:=ċ (Ď nY (Ć 1 (Ć 0 Ĉ)))) c3 (λp=>pt (cst r p)) (λρ=>∃s,ρ=[.sh (c3 r),s]) L [.sh (c3 r),s1] [] ⟨_,rfl⟩ (by simp;omega) (by
  rintro p hp ρ ⟨s,rfl⟩
  have e:=Z25 hr p
  generalize c3 r=R at *
  generalize c3 p=Q at *
  exact⟨[R |> .sh,.sh Q],[.sh R,.sh Q],[.sh R,.sh Q],by simp,by simp,by simp[e],_,rfl⟩)
 rw[this]
 simp
def Z1E{w:Str}{xs:List Int}(hg:Z0 w xs=true)(hl:(Z3 w xs).length<=100){r:P3}(hr:RB r):tH [.sh (Za (Zf w) w xs),.sh (c3 r)]=.ret (.ow (((Z3 w xs).map (cst r)).map pt)):=by
 have h1:=Z1d hg (mo:=ė 0) (ρ:= [.sh (Za (Zf w) w xs),.sh (c3 r)]) (ρ1:=[.sh (Za (Zf w) w xs),.sh (c3 r)]) (by simp)
 have h2:=Z0L hr hl
 generalize ((Z3 w xs).map (cst r)).map pt=Y at *
 generalize (Z3 w xs).map c3=Z at *
 generalize Za (Zf w) w xs=v at *
 generalize c3 r=R at *
 simp[tH,DQ,List.replicate,h1,h2,-HN]
def yE(s:Hu.Pt):P3:=(2*s.1,2*s.2,0)
def Z0o{w:Str}{xs:List Int}(hg:Z0 w xs=true):(Z3 w xs).length<=8/\Z3 w xs≠[]/\∀p∈Z3 w xs,PB p:=by
 have hp:Ze xs=true->(Z4 "Post" xs).length<=8/\Z4 "Post" xs≠[]/\∀p∈Z4 "Post" xs,PB p:=by
  intro h
  match xs,h with
  | [a,b,c],h=>
    simp[Ze,Ő,h_] at h
    simp[Z4,Zg,Z8,PB]
    omega
 have hf:Zb xs=true->(Z4 "Fence" xs).length<=8/\Z4 "Fence" xs≠[]/\∀p∈Z4 "Fence" xs,PB p:=by
  intro h
  match xs,h with
  | [a,b,c,d,e],h=>
    simp[Zb,Z9,Ő,h_] at h
    simp[Z4,PB]
    omega
 have hs:Z7 xs=true->(Z4 "Sail" xs).length<=8/\Z4 "Sail" xs≠[]/\∀p∈Z4 "Sail" xs,PB p:=by
  intro h
  match xs,h with
  | [a,b,c,d,e],h=>
    simp[Z7,Z9,Ő,h_] at h
    simp[Z4,Z8,PB]
    omega
 have hh:Z7 xs=true->(Z4 "House" xs).length<=8/\Z4 "House" xs≠[]/\∀p∈Z4 "House" xs,PB p:=by
  intro h
  match xs,h with
  | [a,b,c,d,e],h=>
    simp[Z7,Z9,Ő,h_] at h
    simp[Z4,Zg,Z8,PB]
    omega
 have hc:Zc xs=true->(Z4 "Cloth" xs).length<=8/\Z4 "Cloth" xs≠[]/\∀p∈Z4 "Cloth" xs,PB p:=by
  intro h
  match xs,h with
  | [a,b,c,d,e,f,g,i,j],h=>
    simp[Zc,Ő,qU] at h
    simp[Z4,PB]
    omega
 unfold Z0 at hg
 unfold Z3 Zf
 by_cases e1:w= "post"
 ·rw[if_pos e1] at hg ⊢;exact hp hg
 rw[if_neg e1] at hg ⊢
 by_cases e2:w= "fence"
 ·rw[if_pos e2] at hg ⊢;exact hf hg
 rw[if_neg e2] at hg ⊢
 by_cases e3:w= "sail"
 ·rw[if_pos e3] at hg ⊢;exact hs hg
 rw[if_neg e3] at hg ⊢
 by_cases e4:w= "cloth"
 ·rw[if_pos e4] at hg ⊢;exact hc hg
 rw[if_neg e4] at hg ⊢
 by_cases e5:w= "house"
 ·rw[if_pos e5] at hg;exact hh hg
 ·rw[if_neg e5] at hg;cases hg
def Uo(S:List Hu.Pt)(p:Hu.Pt):Prop:=∀l m n:Int,(∀s∈S,l*s.1+m*s.2<=n)->l*p.1+m*p.2<=n
theorem Z0C(S:List Hu.Pt)(l m n W:Int):∀(z:List (Int×Nat)),(∀a∈z,0<=a.1*W/\l*(Hu.at_ S a.2).1+m*(Hu.at_ S a.2).2<=n)->W*(l*(z.map λa=>a.1*(Hu.at_ S a.2).1).sum+m*(z.map λa=>a.1*(Hu.at_ S a.2).2).sum)<=W*(z.map (·.1)).sum*n
 | [],_=>by simp
 |a::z,h=>by
  have ih:=Z0C S l m n W z λb hb=>h b (List.mem_cons_of_mem _ hb)
  obtain⟨h1,h2⟩:=h a (by simp)
  rw[List.map_cons,List.sum_cons,List.map_cons,List.sum_cons,List.map_cons,List.sum_cons]
  have:=Int.mul_le_mul_of_nonneg_left h2 h1
  generalize (z.map λa=>a.1*(Hu.at_ S a.2).1).sum=A at *
  generalize (z.map λa=>a.1*(Hu.at_ S a.2).2).sum=B at *
  generalize (z.map (·.1)).sum=C at *
  generalize (Hu.at_ S a.2).1=x at *
  generalize (Hu.at_ S a.2).2=y at *
  generalize a.1=d at *
  have e1:W*(l*(d*x+A)+m*(d*y+B))=d*W*(l*x+m*y)+W*(l*A+m*B):=by grind
  have e2:W*(d+C)*n=d*W*n+W*C*n:=by grind
  rw[e1,e2]
  omega
def Z26{S:List Hu.Pt}(h0:S≠[]){p:Hu.Pt}:Hu.Zv S p=none↔Uo S p:=by
 constructor
 ·intro h l m n hS
  obtain⟨g1,g2,g3,g4,g5,g6,g7⟩:=Hu.Z16 h0 h
  generalize (Hu.Xf S p).1=w at *
  generalize (Hu.Xf S p).2=q at *
  have:=Z0C S l m n w.sum (w.zip q) (λa ha=>by
   obtain⟨a1,a2⟩:=List.of_mem_zip ha
   exact⟨g3 _ a1,hS _ (Hu.Z01 (g5 _ a2))⟩)
  rw[g6,g7,List.map_fst_zip (by omega)] at this
  generalize w.sum=W at *
  have e1:W*(l*(W*p.1)+m*(W*p.2))=W*W*(l*p.1+m*p.2):=by grind
  rw[e1] at this
  have hW:0<W*W:=by
   rcases Int.lt_or_gt_of_ne g2 with h|h
   ·exact Int.mul_pos_of_neg_of_neg h h
   ·exact Int.mul_pos h h
  exact Int.le_of_mul_le_mul_left this hW
 ·intro h
  cases e:Hu.Zv S p with
  |none=>rfl
  |some l=>
   obtain⟨h1,h2⟩:=Hu.Z13 e
   exfalso
   have:=h l.1 l.2.1 l.2.2 (λs hs=>by simpa[Hu.hd] using Hu.Z0G h1 hs)
   simp[Hu.hd] at h2
   omega
def oN(w:Str)(xs:List Int)(s:Hu.Pt)(r:P3):Bool:=(Hu.Zv ((Z3 w xs).map (cst r)) (cst r (yE s))).isNone
def Z07{w:Str}{xs:List Int}(hg:Z0 w xs=true)(s:Hu.Pt)(r:P3):oN w xs s r=true↔Uo ((Z3 w xs).map (cst r)) (cst r (yE s)):=by
 rw[<-Z26 (by simpa using(Z0o hg).2.1)]
 unfold oN
 rw[Option.isNone_iff_eq_none]
def Z1e(b:Nat):Builtin.bitNot (b:Int)= -(b:Int)-1:=rfl
def Z1f(a b:Nat):Builtin.bitOr a b=((a ||| b:Nat):Int):=by
 unfold Builtin.bitOr Builtin.bitAnd
 rw[Z1e,Z1e]
 have h1:decide (0<= -(a:Int)-1)=false:=by simp;omega
 have h2:decide (0<= -(b:Int)-1)=false:=by simp;omega
 rw[h1,h2]
 have e1:(Builtin.bitNot (-(a:Int)-1)).toNat=a:=by unfold Builtin.bitNot;omega
 have e2:(Builtin.bitNot (-(b:Int)-1)).toNat=b:=by unfold Builtin.bitNot;omega
 simp only[e1,e2]
 unfold Builtin.bitNot
 omega
def Z27(a k:Nat):(a:Int) / 2 ^ k=((a >>> k:Nat):Int):=by
 rw[Nat.shiftRight_eq_div_pow]
 simp
def Z28(a k:Nat):(a:Int) / 2 ^ k % 2=if a.testBit k then 1 else 0:=by
 rw[Z27]
 have:(a >>> k) % 2=if a.testBit k then 1 else 0:=by
  rw[Nat.testBit]
  have h:1 &&& (a >>> k)=(a >>> k) % 2:=by rw[Nat.and_comm];exact Nat.and_one_is_mod _
  rw[h]
  have:(a >>> k) % 2=0\/(a >>> k) % 2=1:=by omega
  rcases this with e|e<;>simp[e]
 by_cases q:a.testBit k=true
 ·rw[if_pos q] at this ⊢;omega
 ·rw[if_neg q] at this ⊢;omega
def Z2N(a:Int):Builtin.bitAnd a 1=a % 2:=PyProof.Rows.bitAnd_m1 a
def Z1F(f l k:Nat)(h:f<=l):(2 ^ (l+1)-2 ^ f).testBit k=(decide (f<=k) && decide (k<=l)):=by
 have e:2 ^ (l+1)-2 ^ f=(2 ^ (l+1-f)-1)*2 ^ f:=by
  rw[Nat.sub_mul,<-Nat.pow_add,Nat.one_mul]
  congr 2
  omega
 rw[e,Nat.testBit_mul_two_pow,Nat.testBit_two_pow_sub_one]
 by_cases h1:f<=k
 ·simp[h1]
  by_cases h2:k<=l
  ·simp[h2];omega
  ·simp[h2];omega
 ·simp[h1]
def Z0M{a n:Nat}(h:∀k,n<=k->a.testBit k=false):a<2 ^ n:=Nat.lt_pow_two_of_testBit a h
def Z2u{k:Nat}(h:k<=1000000):jZ 1 (k:Int)=true:=by unfold jZ;simp;omega
def Z0D{f l:Int}{w:Nat}(hf:0<=f)(hl:l<w)(hw:w<=1000):∃B:Nat,n_ [.sh (.int f),.sh (.int l)]=.ret (.sh (.int B))/\∀k:Nat,B.testBit k=(decide (f<=k) && decide ((k:Int)<=l)):=by
 by_cases h:l<f
 ·refine⟨0,by simp[n_,vK,List.replicate,h],λk=>?_⟩
  by_cases h1:f<=k
  ·have h2:¬(k:Int)<=l:=by omega
   simp[h2]
  ·simp[h1]
 ·obtain⟨F,rfl⟩:=Int.eq_ofNat_of_zero_le hf
  obtain⟨L,rfl⟩:=Int.eq_ofNat_of_zero_le (by omega:0<=l)
  have e1:=Z2u (k:=L+1) (by omega)
  have e2:=Z2u (k:=F) (by omega)
  have hp:2 ^ F<=2 ^ (L+1):=Nat.pow_le_pow_right (by omega) (by omega)
  refine⟨2 ^ (L+1)-2 ^ F,?_,λk=>?_⟩
  ·have t1:((L:Int)+1).toNat=L+1:=by omega
   have t2:((L:Int)+1)=((L+1:Nat):Int):=by omega
   simp only[Int.natCast_add,Int.cast_ofNat_Int] at e1
   have h':¬(L:Int)<F:=h
   simp[n_,vK,List.replicate,h',e1,e2,t1]
   rw[Int.natCast_sub hp]
   simp
  ·rw[Z1F F L k (by omega)]
   simp
def inR(L:List Hu.Ln)(u q k:Int):Prop:=∀l∈L,l.1*(u*k)+l.2.1*(u*q)<=l.2.2
def Z0E{a b k:Int}(hb:0<b):k<=a.fdiv b↔k*b<=a:=by
 rw[Int.fdiv_eq_ediv_of_nonneg _ (Int.le_of_lt hb)]
 exact Int.le_ediv_iff_mul_le hb
theorem Z0p{u q:Int}{w:Nat}(hu:0<u)(hu2:u<=10000000)(hq:0<=q)(hq2:q<=1000)(s0:P.Slot):∀(L:List Hu.Ln),(∀l∈L,Oc l)->∀(f la:Int) (s6 s7 s8 s9 ug:P.Slot),0<=f->la<w->
 (∃f' Fj Ho zR Oe Og ud,forL (gT 3 (Č (gN 6) (Č (gN 7) (Č (gN 8) ĸ)))) aX (L.map cO) [s0,.sh (.int u),.sh (.int q),.sh (.int w),.sh (.int f),.sh (.int la),s6,s7,s8,s9,ug]=.ok .nx [s0,.sh (.int u),.sh (.int q),.sh (.int w),.sh (.int f'),.sh (.int Fj),Ho,zR,Oe,Og,ud]/\0<=f'/\Fj<w/\∀k:Int,(f'<=k/\k<=Fj)↔(f<=k/\k<=la/\inR L u q k))\/
 (∃ρ',forL (gT 3 (Č (gN 6) (Č (gN 7) (Č (gN 8) ĸ)))) aX (L.map cO) [s0,.sh (.int u),.sh (.int q),.sh (.int w),.sh (.int f),.sh (.int la),s6,s7,s8,s9,ug]=.ok (.rt (.sh (.int 0))) ρ'/\∀k:Int,¬inR L u q k)
 | [],_,f,la,s6,s7,s8,s9,ug,h1,h2=>.inl ⟨f,la,s6,s7,s8,s9,ug,rfl,h1,h2,λk=>by simp[inR]⟩
 |l::L,hS,f,la,s6,s7,s8,s9,ug,h1,h2=>by
  have hl:=hS l List.mem_cons_self
  have ih:=λ(f la:Int) (s6 s7 s8 s9 ug:P.Slot)=>Z0p (w:=w) hu hu2 hq hq2 s0 L (λx hx=>hS x (List.mem_cons_of_mem _ hx)) f la s6 s7 s8 s9 ug
  have m1:ŋ l.1 u=true:=ſ (by have:=hl.1;omega) (by have:=hl.2.1;omega)
  have m2:ŋ l.2.1 u=true:=ſ (by have:=hl.2.2.1;omega) (by have:=hl.2.2.2;omega)
  have m3:ŋ (l.2.1*u) q=true:=mul_r (by omega) (by omega)
  have bs:=Yl hl.1 hl.2.1 (show -10000000<=u by omega) hu2
  obtain⟨st,hst⟩:∃st,l.1*u=st:=⟨_,rfl⟩
  obtain⟨ro,hro⟩:∃ro,l.2.2-l.2.1*u*q=ro:=⟨_,rfl⟩
  rw[hst] at bs
  have hin:∀k:Int,inR (l::L) u q k↔(k*st<=ro/\inR L u q k):=λk=>by
   unfold inR
   rw[List.forall_mem_cons]
   have e:l.1*(u*k)=k*st:=by rw[<-hst,<-Int.mul_assoc,Int.mul_comm]
   have e2:l.2.1*(u*q)=l.2.1*u*q:=by rw[Int.mul_assoc]
   rw[e,e2]
   constructor
   ·rintro ⟨a,b⟩;exact⟨by omega,b⟩
   ·rintro ⟨a,b⟩;exact⟨by omega,b⟩
  have gg:gT 3 (Č (gN 6) (Č (gN 7) (Č (gN 8) ĸ))) (cO l) [s0,.sh (.int u),.sh (.int q),.sh (.int w),.sh (.int f),.sh (.int la),s6,s7,s8,s9,ug]=some [s0,.sh (.int u),.sh (.int q),.sh (.int w),.sh (.int f),.sh (.int la),.sh (.int l.1),.sh (.int l.2.1),.sh (.int l.2.2),s9,ug]:=by simp[cO]
  rw[List.map_cons,forL,gg]
  dsimp only
  by_cases c1:0<st
  ·have d1:dD ro st=true:=sI (by omega) (Nat.le_trans (qg (n:=200) (by omega) (by omega)) (by decide))
   have e:aX [s0,.sh (.int u),.sh (.int q),.sh (.int w),.sh (.int f),.sh (.int la),.sh (.int l.1),.sh (.int l.2.1),.sh (.int l.2.2),s9,ug]=.ok .nx [s0,.sh (.int u),.sh (.int q),.sh (.int w),.sh (.int f),.sh (.int (min la (ro.fdiv st))),.sh (.int l.1),.sh (.int l.2.1),.sh (.int l.2.2),.sh (.int st),.sh (.int ro)]:=by
    simp[aX,m1,m2,m3,hst,hro,c1,d1]
    split<;>omega
   rw[e]
   rcases ih f (min la (ro.fdiv st)) (.sh (.int l.1)) (.sh (.int l.2.1)) (.sh (.int l.2.2)) (.sh (.int st)) (.sh (.int ro)) h1 (by omega) with⟨f',Fj,Ho,zR,Oe,Og,ud,q1,q2,q3,q4⟩|⟨ρ',q1,q2⟩
   ·refine .inl ⟨f',Fj,Ho,zR,Oe,Og,ud,q1,q2,q3,λk=>?_⟩
    rw[q4,hin]
    have:=Z0E (a:=ro) (k:=k) c1
    constructor
    ·rintro ⟨a,b,c⟩;exact⟨a,by omega,this.mp (by omega),c⟩
    ·rintro ⟨a,b,c,d⟩;exact⟨a,by have:=this.mpr c;omega,d⟩
   ·exact .inr ⟨ρ',q1,λk=>by rw[hin];exact λh=>q2 k h.2⟩
  ·by_cases c2:st<0
   ·have d1:dD ro (-st)=true:=sI (by omega) (Nat.le_trans (qg (n:=200) (by omega) (by omega)) (by decide))
    have e:aX [s0,.sh (.int u),.sh (.int q),.sh (.int w),.sh (.int f),.sh (.int la),.sh (.int l.1),.sh (.int l.2.1),.sh (.int l.2.2),s9,ug]=.ok .nx [s0,.sh (.int u),.sh (.int q),.sh (.int w),.sh (.int (max f (-(ro.fdiv (-st))))),.sh (.int la),.sh (.int l.1),.sh (.int l.2.1),.sh (.int l.2.2),.sh (.int st),.sh (.int ro)]:=by
     simp[aX,m1,m2,m3,hst,hro,c1,c2,d1]
     split<;>omega
    rw[e]
    rcases ih (max f (-(ro.fdiv (-st)))) la (.sh (.int l.1)) (.sh (.int l.2.1)) (.sh (.int l.2.2)) (.sh (.int st)) (.sh (.int ro)) (by omega) h2 with⟨f',Fj,Ho,zR,Oe,Og,ud,q1,q2,q3,q4⟩|⟨ρ',q1,q2⟩
    ·refine .inl ⟨f',Fj,Ho,zR,Oe,Og,ud,q1,q2,q3,λk=>?_⟩
     rw[q4,hin]
     have:=Z0E (a:=ro) (b:=-st) (k:=-k) (by omega)
     rw[Int.neg_mul_neg] at this
     constructor
     ·rintro ⟨a,b,c⟩;exact⟨by omega,b,this.mp (by omega),c⟩
     ·rintro ⟨a,b,c,d⟩;exact⟨by have:=this.mpr c;omega,b,d⟩
    ·exact .inr ⟨ρ',q1,λk=>by rw[hin];exact λh=>q2 k h.2⟩
   ·have c0:st=0:=by omega
    subst c0
    by_cases c3:ro<0
    ·refine .inr ⟨_,by simp[aX,m1,m2,m3,hst,hro,c3];rfl,λk=>?_⟩
     rw[hin]
     rintro ⟨a,_⟩
     omega
    ·have e:aX [s0,.sh (.int u),.sh (.int q),.sh (.int w),.sh (.int f),.sh (.int la),.sh (.int l.1),.sh (.int l.2.1),.sh (.int l.2.2),s9,ug]=.ok .nx [s0,.sh (.int u),.sh (.int q),.sh (.int w),.sh (.int f),.sh (.int la),.sh (.int l.1),.sh (.int l.2.1),.sh (.int l.2.2),.sh (.int 0),.sh (.int ro)]:=by
      simp[aX,m1,m2,m3,hst,hro,c3]
     rw[e]
     rcases ih f la (.sh (.int l.1)) (.sh (.int l.2.1)) (.sh (.int l.2.2)) (.sh (.int 0)) (.sh (.int ro)) h1 h2 with⟨f',Fj,Ho,zR,Oe,Og,ud,q1,q2,q3,q4⟩|⟨ρ',q1,q2⟩
     ·refine .inl ⟨f',Fj,Ho,zR,Oe,Og,ud,q1,q2,q3,λk=>?_⟩
      rw[q4,hin]
      constructor
      ·rintro ⟨a,b,c⟩;exact⟨a,b,by omega,c⟩
      ·rintro ⟨a,b,c,d⟩;exact⟨a,b,d⟩
     ·exact .inr ⟨ρ',q1,λk=>by rw[hin];exact λh=>q2 k h.2⟩
def Z2v{u q:Int}{w:Nat}(hu:0<u)(hu2:u<=10000000)(hq:0<=q)(hq2:q<=1000)(hw:w<=1000){L:List Hu.Ln}(hS:∀l∈L,Oc l){sl:P.Slot}(hs:Sl sl (L.map cO)) :
 ∃B:Nat,tK [sl,.sh (.int u),.sh (.int q),.sh (.int w)]=.ret (.sh (.int B))/\∀k:Nat,B.testBit k=true↔(k<w/\inR L u q k):=by
 rcases Z0p (w:=w) hu hu2 hq hq2 sl L hS 0 (w-1) .no .no .no .no .no (by omega) (by omega) with⟨f',Fj,Ho,zR,Oe,Og,ud,q1,q2,q3,q4⟩|⟨ρ',q1,q2⟩
 ·obtain⟨B,b1,b2⟩:=Z0D (f:=f') (l:=Fj) q2 q3 hw
  refine⟨B,by rcases hs with rfl|rfl<;>simp[tK,vL,List.replicate,q1,b1],λk=>?_⟩
  rw[b2,Bool.and_eq_true,decide_eq_true_eq,decide_eq_true_eq,q4 k]
  constructor
  ·rintro ⟨a,b,c⟩;exact⟨by omega,c⟩
  ·rintro ⟨a,b⟩;exact⟨by omega,by omega,b⟩
 ·refine⟨0,by rcases hs with rfl|rfl<;>simp[tK,vL,List.replicate,q1],λk=>?_⟩
  simp
  exact λ_=>q2 k
abbrev Th:=Str×List Int
def lZ(t:Th):PV:=Za (Zf t.1) t.1 t.2
def Ug:Option P3->PV
 |none=>.non
 |some r=>c3 r
abbrev Dy:=Str×Int×List (Option P3)
def Fx(d:Dy):PV:=.tup [.str d.1,.int d.2.1,.lst (d.2.2.map Ug)]
def Zd(w h:Int)(T:List Th)(D:List Dy):PV:=.ins "Yard" ["width","height","things","days"] [.int w,.int h,.lst (T.map lZ),.lst (D.map Fx)]
def ywh:(Str.ofString "width" =Str.ofString "height")=False:=eq_false (by decide +kernel)
def ywt:(Str.ofString "width" =Str.ofString "things")=False:=eq_false (by decide +kernel)
def ywd:(Str.ofString "width" =Str.ofString "days")=False:=eq_false (by decide +kernel)
def yht:(Str.ofString "height" =Str.ofString "things")=False:=eq_false (by decide +kernel)
def yhd:(Str.ofString "height" =Str.ofString "days")=False:=eq_false (by decide +kernel)
def ytd:(Str.ofString "things" =Str.ofString "days")=False:=eq_false (by decide +kernel)
def y_w(w h:Int)(T:List Th)(D:List Dy):ż ["Yard"] (Str.ofString "width") (Zd w h T D)=some (.int w):=by
 unfold ż Zd
 simp
def y_h(w h:Int)(T:List Th)(D:List Dy):ż ["Yard"] (Str.ofString "height") (Zd w h T D)=some (.int h):=by
 have:(Str.ofString "height" == Str.ofString "width")=false:=by decide +kernel
 unfold ż Zd
 simp[List.lookup_cons,this]
def y_t(w h:Int)(T:List Th)(D:List Dy):ż ["Yard"] (Str.ofString "things") (Zd w h T D)=some (.lst (T.map lZ)):=by
 have e1:(Str.ofString "things" == Str.ofString "width")=false:=by decide +kernel
 have e2:(Str.ofString "things" == Str.ofString "height")=false:=by decide +kernel
 unfold ż Zd
 simp[List.lookup_cons,e1,e2]
def Z1g(D:List Dy)(hD:D.length<=100000)(s0 s1 s2:P.Slot):Ľ (gT 3 (Č (gN 0) (Č (gN 1) (Č (gN 2) ĸ)))) Ŀ (ĩ (ā (ė 0) (ā (ė 1) (ā (ċ (iC aN (ā (Ā 2) Ē))) Ē)))) (D.map Fx) [s0,s1,s2] []=some (D.map Fx):=by
 have h:=Ł (g:=gT 3 (Č (gN 0) (Č (gN 1) (Č (gN 2) ĸ)))) (mt:=Ŀ) (me:=ĩ (ā (ė 0) (ā (ė 1) (ā (ċ (iC aN (ā (Ā 2) Ē))) Ē)))) Fx Fx (λρ=>∃a b c,ρ=[a,b,c]) D [s0,s1,s2] [] ⟨_,_,_,rfl⟩ (by simp;omega) (by
  rintro d _ ρ ⟨a,b,c,rfl⟩
  refine⟨[.sh (.str d.1),.sh (.int d.2.1),.sh (.lst (d.2.2.map Ug))],[.sh (.str d.1),.sh (.int d.2.1),.sh (.lst (d.2.2.map Ug))],[.sh (.str d.1),.sh (.int d.2.1),.sh (.lst (d.2.2.map Ug))],by simp[Fx],rfl,by simp[Fx],_,_,_,rfl⟩)
 simpa using h
def Z29(w h:Int){T:List Th}{D:List Dy}(hT:T.length<=100000)(hD:D.length<=100000){s3 s4:P.Slot}(h3:Sl s3 (T.map lZ))(h4:Sl s4 (D.map Fx)):jM [.sh (.int w),.sh (.int h),s3,s4]=.ok ["width","height","things","days"] [.int w,.int h,.lst (T.map lZ),.lst (D.map Fx)]:=by
 have c:=Z1g D hD .no .no .no
 generalize hx:T.map lZ=tx at *
 generalize hy:D.map Fx=dx at *
 rcases h3 with rfl|rfl<;>rcases h4 with rfl|rfl<;>simp[jM,aO,Di,fB,IR.of,List.replicate,putN,vh,ywh,ywt,ywd,yht,yhd,ytd,c]
def Z2w{k q w:Nat}(hw:0<w):(q*w<=k/\k-q*w<w)↔k / w=q:=by
 constructor
 ·rintro ⟨a,b⟩
  exact Nat.div_eq_of_lt_le a (by rw[Nat.add_mul];omega)
 ·rintro rfl
  have h1:=Nat.div_mul_le_self k w
  have h2:=Nat.mod_lt k hw
  have h3:=Nat.mod_eq_sub_div_mul (x:=k) (k:=w)
  omega
def Z2x{k q w:Nat}(h:k / w=q):k-q*w=k % w:=by
 subst h
 exact(Nat.mod_eq_sub_div_mul).symm
def Z1S{k w h:Nat}(hw:0<w):k / w<h↔k<w*h:=by
 rw[Nat.div_lt_iff_lt_mul hw,Nat.mul_comm]
def ig(w k:Nat):Hu.Pt:=(((k % w:Nat):Int),((k / w:Nat):Int))
def Z2a{S:List Hu.Pt}{r:P3}{p q:Int}:inR (Hu.Zh S) (2*r.2.2) q p↔(Hu.Zv S (cst r (yE (p,q)))).isNone=true:=by
 have e:cst r (yE (p,q))=(2*r.2.2*p,2*r.2.2*q):=by
  unfold cst yE
  simp only[Int.mul_zero,Int.add_zero,Prod.mk.injEq]
  constructor<;>grind
 rw[e]
 unfold Hu.Zv inR Hu.hd
 rw[Option.isNone_iff_eq_none,List.find?_eq_none]
 simp
theorem ZX{α:Type}(y:α):∀(xs b:List α),y∈xs.foldl (λb x=>x::b) b↔(y∈xs\/y∈b)
 | [],b=>by simp
 |x::xs,b=>by rw[List.foldl_cons,ZX y xs (x::b)];simp;grind
def lX(t:Th)(s:Hu.Pt)(r:P3):Bool:=oN t.1 t.2 s r
def Z1h{w h:Nat}(hw:0<w)(hw2:w<=60)(hh:h<=1000)(T:List Th)(Ds:List Dy){t:Th}(hg:Z0 t.1 t.2=true){r:P3}(hr:RB r)(hz:0<r.2.2) :
 ∃D:Nat,oh [.sh (Zd w h T Ds),.sh (lZ t),.sh (c3 r)]=.ret (.sh (.int D))/\∀k,D.testBit k=(decide (k<w*h) && lX t (ig w k) r):=by
 obtain⟨g1,g2,g3⟩:=Z0o hg
 have hc:=Z1E hg (by omega) hr
 have hS:∀p∈(Z3 t.1 t.2).map (cst r),Sm p:=by
  intro p hp
  obtain⟨q,hq,rfl⟩:=List.mem_map.mp hp
  exact Z2t hr (g3 q hq)
 have hl:=Z1A (sl:=.sh (.lst (((Z3 t.1 t.2).map (cst r)).map pt))) (.inl rfl) hS (by simpa using g2) (by simp;omega)
 have hls:∀l∈Hu.Zh ((Z3 t.1 t.2).map (cst r)),Oc l:=λl h=>Z2n h hS
 have yw:=y_w w h T Ds
 have yh:=y_h w h T Ds
 have hv:(2:Int)*r.2.2<=10000000:=by have:=hr.2.2.2.2.2;omega
 generalize hX:Hu.Zh ((Z3 t.1 t.2).map (cst r))=X at *
 generalize hY:Zd w h T Ds=Y at *
 have hr2:č (c3 r) (.int 2)=some (.int r.2.2):=by simp[c3]
 obtain⟨ρ',e1,D,s5,rfl,hD⟩:=eE (g:=gN 5) (mb:=qt) (λ(q:Nat)=>PV.int q) (λ(b:List Nat) (x:Nat)=>x::b) (λb ρ=>∃(D:Nat) (s5:P.Slot),ρ=[.sh Y,.sh (lZ t),.sh (c3 r),.ow (X.map cO),.sh (.int D),s5]/\∀k,D.testBit k=true↔(k / w∈b/\lX t (ig w k) r=true)) (List.range h) (by
  rintro q hq b ρ ⟨D,s5,rfl,hD⟩
  have hq:=List.mem_range.mp hq
  obtain⟨B,b1,b2⟩:=Z2v (u:=2*r.2.2) (q:=q) (w:=w) (by omega) hv (by omega) (by omega) (by omega) hls (sl:=.bw (X.map cO)) (.inr rfl)
  have hB:B<2 ^ w:=Z0M λk hk=>by
   have:=b2 k
   cases e:B.testBit k with
   |false=>rfl
   |true=>have:=(this.mp e).1;omega
  have hB2:B<2 ^ 60:=Nat.lt_of_lt_of_le hB (Nat.pow_le_pow_right (by omega) hw2)
  have hqw:q*w<=1000*60:=Nat.mul_le_mul (by omega) hw2
  have so:jZ (B:Int) ((q:Int)*(w:Int))=true:=by
   have:((q:Int)*(w:Int))=((q*w:Nat):Int):=by simp
   rw[this]
   unfold jZ
   simp
   omega
  have mo:ŋ (q:Int) (w:Int)=true:=ſ (by omega) (by omega)
  have tn:((q:Int)*(w:Int)).toNat=q*w:=by
   have:((q:Int)*(w:Int))=((q*w:Nat):Int):=by simp
   rw[this];rfl
  obtain⟨Z,hZ⟩:∃Z:Nat,Z=D ||| B*2 ^ (q*w):=⟨_,rfl⟩
  have oe:Builtin.bitOr (D:Int) ((B:Int)*2 ^ (q*w))=(Z:Int):=by
   have ee:(B:Int)*2 ^ (q*w)=((B*2 ^ (q*w):Nat):Int):=by simp
   rw[ee,Z1f,hZ]
  have m2:ŋ 2 r.2.2=true:=ſ (by omega) (by omega)
  generalize c3 r=R at *
  have st:qt [.sh Y,.sh (lZ t),.sh R,.ow (X.map cO),.sh (.int D),.sh (.int q)]=.ok .nx [.sh Y,.sh (lZ t),.sh R,.ow (X.map cO),.sh (.int Z),.sh (.int q)]:=by
   simp[qt,hr2,yw,m2,b1,mo,so,tn,oe]
  refine⟨_,_,rfl,st,_,_,rfl,λk=>?_⟩
  rw[hZ,Nat.testBit_or,Bool.or_eq_true,hD,Nat.testBit_mul_two_pow,Bool.and_eq_true,decide_eq_true_eq,b2,List.mem_cons,<-hX,Z2a]
  have key:∀(_:k / w=q),((Hu.Zv ((Z3 t.1 t.2).map (cst r)) (cst r (yE (((k-q*w:Nat):Int),(q:Int))))).isNone=true↔lX t (ig w k) r=true):=by
   intro hk
   unfold lX oN ig
   rw[Z2x hk,hk]
  have d:=Z2w (k:=k) (q:=q) hw
  constructor
  ·rintro (⟨a,b⟩|⟨a,b,c⟩)
   ·exact⟨.inr a,b⟩
   ·have:=d.mp ⟨a,b⟩
    exact⟨.inl this,(key this).mp c⟩
  ·rintro ⟨a|a,b⟩
   ·have:=d.mpr a
    exact .inr ⟨this.1,this.2,(key a).mpr b⟩
   ·exact .inl ⟨a,b⟩) [] [.sh Y,.sh (lZ t),.sh (c3 r),.ow (X.map cO),.sh (.int ((0:Nat):Int)),.no] ⟨0,.no,rfl,by simp⟩
 refine⟨D,?_,λk=>?_⟩
 ·have rr:=Z0J hh
  have hc':tH [.sh (lZ t),.sh (c3 r)]=.ret (.ow (((Z3 t.1 t.2).map (cst r)).map pt)):=hc
  generalize c3 r=R at *
  generalize lZ t=Tv at *
  simp[oh,DR,List.replicate,hc',hl,yh,rr,-List.map_map] at e1 ⊢
  simp[e1]
 ·have:=hD k
  rw[ZX,List.mem_range,Z1S hw] at this
  rw[Bool.eq_iff_iff,this,Bool.and_eq_true,decide_eq_true_eq]
  simp
def Zp:Nat->(Nat->Bool)->Nat
 |0,_=>0
 |n+1,p=>Zp n p+if p n then 2 ^ n else 0
theorem ZY(p:Nat->Bool):∀n,Zp n p<2 ^ n
 |0=>by simp[Zp]
 |n+1=>by
  have:=ZY p n
  unfold Zp
  rw[Nat.pow_succ]
  split<;>omega
theorem Zu(p:Nat->Bool):∀n k,(Zp n p).testBit k=(decide (k<n) && p k)
 |0,k=>by simp[Zp]
 |n+1,k=>by
  have hl:=ZY p n
  unfold Zp
  by_cases h:k<n
  ·have ih:=Zu p n k
   have h1:k<n+1:=by omega
   split
   ·rw[Nat.add_comm,Nat.testBit_two_pow_add_gt h,ih];simp[h,h1]
   ·rw[Nat.add_zero,ih];simp[h,h1]
  ·by_cases h2:k=n
   ·subst h2
    split
    ·rename_i q
     rw[Nat.add_comm,Nat.testBit_two_pow_add_eq,Nat.testBit_lt_two_pow hl];simp[q]
    ·rename_i q
     rw[Nat.add_zero,Nat.testBit_lt_two_pow hl];simp[q]
   ·have h3:¬k<n+1:=by omega
    have:Zp n p+(if p n=true then 2 ^ n else 0)<2 ^ k:=by
     refine Nat.lt_of_lt_of_le (ZY p (n+1)) (Nat.pow_le_pow_right (by omega) (by omega))
    rw[Nat.testBit_lt_two_pow this]
    simp[h3]
def ZZ{n:Nat}{p:Nat->Bool}{D:Nat}(h:∀k,D.testBit k=(decide (k<n) && p k)):D=Zp n p:=Nat.eq_of_testBit_eq λk=>by rw[h,Zu]
def lY(w h:Nat)(r:P3)(t:Th):Nat:=Zp (w*h) λk=>lX t (ig w k) r
def Uq(w:Nat)(T:List Th):Option P3->Nat->Bool
 |none,_=>true
 |some r,k=>T.any λt=>lX t (ig w k) r
def uo(w h:Nat)(T:List Th)(o:Option P3):Nat:=Zp (w*h) (Uq w T o)
def RB'(o:Option P3):Prop:=match o with|none=>True|some r=>RB r/\0<r.2.2
def Z0N{w h:Nat}(hw:0<w)(hw2:w<=60)(hh:h<=1000)(T:List Th)(Ds:List Dy){t:Th}(hg:Z0 t.1 t.2=true){r:P3}(hr:RB r)(hz:0<r.2.2) :
 oh [.sh (Zd w h T Ds),.sh (lZ t),.sh (c3 r)]=.ret (.sh (.int (lY w h r t))):=by
 obtain⟨D,h1,h2⟩:=Z1h hw hw2 hh T Ds hg hr hz
 rw[h1,ZZ h2]
 rfl
def Z0q{w h:Nat}(hw:0<w)(hw2:w<=60)(hh:h<=1000){T:List Th}(hT:T.length<=1000)(Ds:List Dy)(hg:∀t∈T,Z0 t.1 t.2=true){r:P3}(hr:RB r)(hz:0<r.2.2) :
 DW [.sh (Zd w h T Ds),.sh (c3 r)]=.ret (.ow (T.map λt=>.int (lY w h r t))):=by
 have yt:=y_t w h T Ds
 have hc:=Ł (g:=gN 2) (mt:=Ŀ) (me:=ċ (Ď oh (Ć 0 (Ć 2 (Ć 1 Ĉ))))) lZ (λt=>.int (lY w h r t)) (λρ=>∃s,ρ=[.sh (Zd w h T Ds),.sh (c3 r),s]) T [.sh (Zd w h T Ds),.sh (c3 r),.no] [] ⟨_,rfl⟩ (by simp;omega) (by
  rintro t ht ρ ⟨s,rfl⟩
  have e:=Z0N hw hw2 hh T Ds (hg t ht) hr hz
  generalize Zd w h T Ds=Y at *
  generalize c3 r=R at *
  generalize lZ t=Tv at *
  refine⟨_,_,_,rfl,rfl,by simp[e];rfl,_,rfl⟩)
 generalize Zd w h T Ds=Y at *
 generalize c3 r=R at *
 simp[DW,KH,List.replicate,yt]
 simp at hc
 simp[hc]
def Z2b{w h:Nat}(hw:0<w)(hw2:w<=60)(hh:h<=1000)(Fo:w*h<=1000){T:List Th}(hT:T.length<=1000)(Ds:List Dy)(hg:∀t∈T,Z0 t.1 t.2=true){o:Option P3}(ho:RB' o) :
 ou [.sh (Zd w h T Ds),.sh (Ug o)]=.ret (.sh (.int (uo w h T o))):=by
 have yw:=y_w w h T Ds
 have yh:=y_h w h T Ds
 have mo:ŋ (w:Int) (h:Int)=true:=ſ (by omega) (by omega)
 cases o with
 |none=>
  obtain⟨B,b1,b2⟩:=Z0D (f:=0) (l:=(w:Int)*h-1) (w:=w*h) (by omega) (by rw[Int.natCast_mul];omega) Fo
  have:B=uo w h T none:=ZZ λk=>by
   rw[b2]
   simp[Uq]
   have:((w*h:Nat):Int)=(w:Int)*h:=by simp
   omega
  subst this
  generalize Zd w h T Ds=Y at *
  simp[ou,vN,List.replicate,Ug,yw,yh,mo,b1,Uj]
 |some r=>
  have ho:RB r/\0<r.2.2:=ho
  have hd:=Z0q hw hw2 hh hT Ds hg ho.1 ho.2
  obtain⟨ρ',e1,D,s3,rfl,hD⟩:=eE (g:=gN 3) (mb:=vM) (λ(t:Th)=>PV.int (lY w h r t)) (λ(b:List Th) (x:Th)=>x::b) (λb ρ=>∃(D:Nat) (s3:P.Slot),ρ=[.sh (Zd w h T Ds),.sh (c3 r),.sh (.int D),s3]/\∀k,D.testBit k=true↔(k<w*h/\∃t∈b,lX t (ig w k) r=true)) T (by
   rintro t ht b ρ ⟨D,s3,rfl,hD⟩
   refine⟨_,_,rfl,by simp[vM,Z1f];exact⟨rfl,rfl⟩,_,_,rfl,λk=>?_⟩
   rw[Nat.testBit_or,Bool.or_eq_true,hD,lY,Zu,Bool.and_eq_true,decide_eq_true_eq]
   simp
   grind) [] [.sh (Zd w h T Ds),.sh (c3 r),.sh (.int ((0:Nat):Int)),.no] ⟨0,.no,rfl,by simp⟩
  have:D=uo w h T (some r):=ZZ λk=>by
   have:=hD k
   rw[Bool.eq_iff_iff,this]
   simp only[ZX,Uq,List.not_mem_nil,or_false,Bool.and_eq_true,decide_eq_true_eq,List.any_eq_true]
  subst this
  have hn:Cd (c3 r) .non=some (.bl false):=by simp[c3,Uj]
  generalize Zd w h T Ds=Y at *
  show ou [.sh Y,.sh (c3 r)]=_
  simp at e1
  generalize c3 r=R at *
  have hn:Uj R=false:=by simpa using hn
  simp[ou,vN,List.replicate,hd,hn,e1]
def Z0r(ns:List Int)(k:Nat):bF [.sh (.lst (ns.map .int)),.sh (.int k)]=.ret (.sh (.int (ns.getD k 0))):=by
 by_cases h:k<ns.length
 ·have h':(k:Int)<(ns.length:Int):=by omega
  simp[bF,vU,List.replicate,h',List.getElem?_eq_getElem h]
 ·have h':¬(k:Int)<(ns.length:Int):=by omega
  simp[bF,vU,List.replicate,h',List.getElem?_eq_none (Nat.le_of_not_lt h)]
@[simp] theorem Z1i(ns:List Int)(k:Nat):bF [.sh (.lst (ns.map .int)),.sh (.int (no_index (OfNat.ofNat k)))]=.ret (.sh (.int (ns.getD k 0))):=Z0r ns k
def Gr(x:Int):Prop:=0<=x/\x<524288
theorem Zr(c:Int)(s1:P.Slot):∀(ks:List Nat) (acc:List Int) (n:Int) (s4:P.Slot),acc.length+ks.length<=100000->(∀k∈ks,k<=100000)->(∀x∈acc,Gr x)->∃(acc':List Int) (n':Int) (Iz:P.Slot),forL (gN 4) iH (ks.map λ(i:Nat)=>PV.int (i:Int)) [.sh (.int c),s1,.ow (acc.map .int),.sh (.int n),s4]=.ok .nx [.sh (.int c),s1,.ow (acc'.map .int),.sh (.int n'),Iz]/\acc'.length=acc.length+ks.length/\∀x∈acc',Gr x
 | [],acc,n,s4,_,_,h=>⟨acc,n,s4,rfl,rfl,h⟩
 |k::ks,acc,n,s4,hl,hk,h=>by
  have hk0:=hk k List.mem_cons_self
  have hl0:acc.length<16777216:=by simp at hl;omega
  rw[List.map_cons,forL]
  have hg:gN 4 (PV.int (k:Int)) [.sh (.int c),s1,.ow (acc.map .int),.sh (.int n),s4]=some [.sh (.int c),s1,.ow (acc.map .int),.sh (.int n),.sh (.int k)]:=rfl
  rw[hg]
  dsimp only
  by_cases h0:c % 2=0
  ·have e:iH [.sh (.int c),s1,.ow (acc.map .int),.sh (.int n),.sh (.int k)]=.ok .nx [.sh (.int c),s1,.ow ((acc ++ [n % 524287]).map .int),.sh (.int (n / 524287)),.sh (.int k)]:=by
    simp[iH,h0,hl0]
   rw[e]
   obtain⟨a,b,d,q1,q2,q3⟩:=Zr c s1 ks (acc ++ [n % 524287]) (n / 524287) (.sh (.int k)) (by simp at hl ⊢;omega) (λx hx=>hk x (List.mem_cons_of_mem _ hx)) (by
    intro x hx
    rcases List.mem_append.mp hx with hx|hx
    ·exact h x hx
    ·rw[List.mem_singleton.mp hx];unfold Gr;omega)
   exact⟨a,b,d,q1,by simp at q2 ⊢;omega,q3⟩
  ·obtain⟨m,hm⟩:∃m,(n*49157+24593+2*(k:Int)) % 8388593=m:=⟨_,rfl⟩
   have e:iH [.sh (.int c),s1,.ow (acc.map .int),.sh (.int n),.sh (.int k)]=.ok .nx [.sh (.int c),s1,.ow ((acc ++ [m / 16]).map .int),.sh (.int m),.sh (.int k)]:=by
    simp[iH,h0,hl0,hm]
   rw[e]
   obtain⟨a,b,d,q1,q2,q3⟩:=Zr c s1 ks (acc ++ [m / 16]) m (.sh (.int k)) (by simp at hl ⊢;omega) (λx hx=>hk x (List.mem_cons_of_mem _ hx)) (by
    intro x hx
    rcases List.mem_append.mp hx with hx|hx
    ·exact h x hx
    ·rw[List.mem_singleton.mp hx];unfold Gr;omega)
   exact⟨a,b,d,q1,by simp at q2 ⊢;omega,q3⟩
def Z0b(c:Int){n:Nat}(hn:n<=1000):∃xs:List Int,jd [.sh (.int c),.sh (.int n)]=.ret (.ow (xs.map .int))/\xs.length=n/\∀x∈xs,Gr x:=by
 have rr:=Z0J hn
 by_cases h:c % 2=1
 ·obtain⟨a,b,d,q1,q2,q3⟩:=Zr c (.sh (.int n)) (List.range n) [] (c / 2 % 8388593) .no (by simp;omega) (λk hk=>by have:=List.mem_range.mp hk;omega) (by simp)
  refine⟨a,?_,by simpa using q2,q3⟩
  simp at q1
  simp[jd,vJ,List.replicate,h,rr,q1]
 ·obtain⟨a,b,d,q1,q2,q3⟩:=Zr c (.sh (.int n)) (List.range n) [] (c / 2) .no (by simp;omega) (λk hk=>by have:=List.mem_range.mp hk;omega) (by simp)
  refine⟨a,?_,by simpa using q2,q3⟩
  simp at q1
  simp[jd,vJ,List.replicate,h,rr,q1]
def Pl(x:Int):Prop:=-1000000000+50<=x/\x<=1000000000-50
def Zn(n:Int){w:Int}(h1:1<=w)(h2:w<=1000):∃x:Int,fH [.sh (.int n),.sh (.int w)]=.ret (.sh (.int x))/\Pl x:=by
 by_cases h:n / 512 % 16=5
 ·exact⟨n*3813 % 1999999901-1000000000+50,by simp[fH,vW,List.replicate,h],by unfold Pl;omega⟩
 ·have m0:¬(2*w+9=0):=by omega
  have p:=Int.emod_nonneg n (show(2*w+9)≠0 by omega)
  have q:=Int.emod_lt_of_pos n (show 0<(2*w+9) by omega)
  have e:n.fmod (2*w+9)=n % (2*w+9):=Int.fmod_eq_emod_of_nonneg n (by omega)
  exact⟨n % (2*w+9)-4,by simp[fH,vW,List.replicate,h,m0,e],by unfold Pl;omega⟩
def Z03(n:Int):∃x:Int,oE [.sh (.int n)]=.ret (.sh (.int x))/\1<=x/\x<=1000000000:=by
 by_cases h:n / 512 % 12=7
 ·exact⟨1+n*1907 % 1000000000,by simp[oE,vV,List.replicate,h],by omega,by omega⟩
 ·exact⟨1+n % 9,by simp[oE,vV,List.replicate,h],by omega,by omega⟩
def Z1G(c:Int):∃w h:Nat,cu [.sh (.int c),.sh (.int 9)]=.ret (.sh (.tup [.int w,.int h]))/\1<=w/\w<=20/\1<=h/\h<=20/\w*h<=20:=by
 by_cases h0:c / 7 % 16=11
 ·have hd:c % 2=0\/c % 2=1:=by omega
  rcases hd with hd|hd
  ·exact⟨1,20,by simp[cu,dH,List.replicate,h0,hd],by omega,by omega,by omega,by omega,by omega⟩
  ·exact⟨20,1,by simp[cu,dH,List.replicate,h0,hd],by omega,by omega,by omega,by omega,by omega⟩
 ·have hd:c % 5=0\/c % 5=1\/c % 5=2\/c % 5=3\/c % 5=4:=by omega
  rcases hd with hd|hd|hd|hd|hd
  ·obtain⟨h,hh⟩:∃h:Nat,1+c / 5 % 4=(h:Int):=⟨(1+c / 5 % 4).toNat,by omega⟩
   exact⟨1,h,by simp[cu,dH,List.replicate,h0,hd,hh],by omega,by omega,by omega,by omega,by omega⟩
  ·obtain⟨h,hh⟩:∃h:Nat,1+c / 5 % 4=(h:Int):=⟨(1+c / 5 % 4).toNat,by omega⟩
   exact⟨2,h,by simp[cu,dH,List.replicate,h0,hd,hh],by omega,by omega,by omega,by omega,by omega⟩
  ·obtain⟨h,hh⟩:∃h:Nat,1+c / 5 % 3=(h:Int):=⟨(1+c / 5 % 3).toNat,by omega⟩
   exact⟨3,h,by simp[cu,dH,List.replicate,h0,hd,hh],by omega,by omega,by omega,by omega,by omega⟩
  ·obtain⟨h,hh⟩:∃h:Nat,1+c / 5 % 2=(h:Int):=⟨(1+c / 5 % 2).toNat,by omega⟩
   exact⟨4,h,by simp[cu,dH,List.replicate,h0,hd,hh],by omega,by omega,by omega,by omega,by omega⟩
  ·exact⟨5,1,by simp[cu,dH,List.replicate,h0,hd],by omega,by omega,by omega,by omega,by omega⟩
theorem Z32:∀(xs:List Int),xs.length=4->∃a b c d,xs=[a,b,c,d]
 | [a,b,c,d],_=>⟨a,b,c,d,rfl⟩
def Z2y(c0:Int):∃r:P3,lB [.sh (.int c0)]=.ret (.sh (c3 r))/\RB r/\0<r.2.2:=by
 obtain⟨xs,eg,hl,hx⟩:=Z0b c0 (n:=4) (by omega)
 obtain⟨a,b,c,d,rfl⟩:=Z32 xs hl
 have Fw:jd [.sh (.int c0),.sh (.int 4)]=.ret (.ow [.int a,.int b,.int c,.int d]):=eg
 have a1:0<=a % 13/\a % 13<13:=by omega
 have b1:0<=b % 13/\b % 13<13:=by omega
 have c1:0<=c % 5/\c % 5<5:=by omega
 have go:∀s:Int,(s=1\/s=3\/s=100000)->č (.lst [.int 1,.int 1,.int 3,.int 100000]) (.int (d % 4))=some (.int s)->∃r:P3,lB [.sh (.int c0)]=.ret (.sh (c3 r))/\RB r/\0<r.2.2:=by
  intro s hs hx
  have m1:∀x:Int,ŋ x s=true:=λx=>mul_r (by omega) (by omega)
  refine⟨((a % 13-6)*s,(b % 13-6)*s,(1+c % 5)*s),?_,?_⟩
  ·simp[lB,Dh,List.replicate,Fw,hx,m1,c3]
  ·rcases hs with rfl|rfl|rfl<;>refine⟨⟨?_,?_,?_,?_,?_,?_⟩,?_⟩<;>dsimp only<;>omega
 have hd:d % 4=0\/d % 4=1\/d % 4=2\/d % 4=3:=by omega
 rcases hd with hd|hd|hd|hd
 ·exact go 1 (by omega) (by rw[hd];rfl)
 ·exact go 1 (by omega) (by rw[hd];rfl)
 ·exact go 3 (by omega) (by rw[hd];rfl)
 ·exact go 100000 (by omega) (by rw[hd];rfl)
def IK:Th:=(Str.ofString "post",[])
def jB(w:Nat)(T:List Th)(r:P3)(k:Nat):List Nat:=(List.range T.length).filter λi=>lX (T.getD i IK) (ig w k) r
def oV:Option Nat->PV
 |none=>.non
 |some j=>.int (j:Int)
theorem Z0c(f:Nat->PV):∀(n a:Nat),fC a ((List.range' a n).map f)=(List.range' a n).map λ(k:Nat)=>PV.tup [.int k,f k]
 |0,a=>rfl
 |n+1,a=>by
  rw[List.range'_succ,List.map_cons,List.map_cons]
  show _::fC (a+1) _=_
  rw[Z0c f n (a+1)]
def Z1H(w h:Nat)(r:P3)(T:List Th):(T.map λt=>PV.int (lY w h r t))=(List.range T.length).map λi=>PV.int (lY w h r (T.getD i IK)):=by
 refine List.ext_getElem (by simp) λi h1 h2=>?_
 simp at h1
 simp[h1]
def Z2c(w h:Nat)(r:P3)(T:List Th):fC 0 (T.map λt=>PV.int (lY w h r t))=(List.range T.length).map λ(i:Nat)=>PV.tup [.int i,.int (lY w h r (T.getD i IK))]:=by
 rw[Z1H,List.range_eq_range']
 exact Z0c _ _ 0
def Z2z{w h:Nat}{r:P3}{t:Th}{k:Nat}(hk:k<w*h):(lY w h r t).testBit k=lX t (ig w k) r:=by rw[lY,Zu];simp[hk]
theorem Z04{α β:Type}(p:α->Bool)(f:α->β):∀l:List α,l.findSome? (λx=>if p x=true then some (f x) else none)=(l.find? p).map f
 | []=>rfl
 |x::l=>by
  rw[List.findSome?_cons,List.find?_cons]
  cases h:p x with
  |true=>simp
  |false=>simpa using Z04 p f l
def Z1I{w h:Nat}(T:List Th)(r:P3){k:Nat}(hk:k<w*h){sl:P.Slot}(hs:Sl sl (T.map λt=>PV.int (lY w h r t))):zG [sl,.sh (.int k)]=.ret (.sh (oV (jB w T r k).head?)):=by
 have hf:(List.range T.length).findSome? (λi=>if lX (T.getD i IK) (ig w k) r=true then some i else none)=(jB w T r k).head?:= by
  have:=Z04 (λi=>lX (T.getD i IK) (ig w k) r) (λ(i:Nat)=>i) (List.range T.length)
  rw[this,jB,List.head?_filter]
  simp
 have main:=nQ (g:=gT 2 (Č (gN 2) (Č (gN 3) ĸ))) (mb:=yj) (λ(i:Nat)=>PV.tup [.int i,.int (lY w h r (T.getD i IK))]) (λi=>if lX (T.getD i IK) (ig w k) r=true then some i else none) (λi=>.sh (.int (i:Int))) (λρ=>∃a b,ρ=[sl,.sh (.int k),a,b]) (List.range T.length) (by
  rintro i hi ρ ⟨a,b,rfl⟩
  have hb:=Z2z (r:=r) (t:=T.getD i IK) hk
  generalize T.getD i IK=t at *
  have sb:uZ (.int ((lY w h r t:Int) / 2 ^ k)) (.int 1)=some (.int (if lX t (ig w k) r then 1 else 0)):=by
   show some (PV.int (Builtin.bitAnd ((lY w h r t:Int) / 2 ^ k) 1))=_
   rw[Z2N,Z28,hb]
  have so:nF (lY w h r t:Int) (k:Int)=true:=by unfold nF;simp
  generalize lY w h r t=A at *
  refine⟨[sl,.sh (.int k),.sh (.int i),.sh (.int A)],by simp,?_⟩
  cases hd:lX t (ig w k) r with
  |true=>
   rw[hd] at sb
   simp at sb
   exact .inl ⟨i,[sl,.sh (.int k),.sh (.int i),.sh (.int A)],by simp,by simp[yj,so,sb,GX]⟩
  |false=>
   rw[hd] at sb
   simp at sb
   exact .inr ⟨[sl,.sh (.int k),.sh (.int i),.sh (.int A)],by simp,by simp[yj,so,sb,GX],_,_,rfl⟩) [sl,.sh (.int k),.no,.no] ⟨_,_,rfl⟩
 rw[hf,<-Z2c] at main
 generalize (jB w T r k).head?=q at *
 generalize (T.map λt=>PV.int (lY w h r t))=DV at *
 rcases main with⟨i,ρ2,q1,q2⟩|⟨ρ2,q1,q2,_⟩
 ·rw[q1]
  rcases hs with rfl|rfl<;>simp[zG,DX,List.replicate,q2,oV]
 ·rw[q1]
  rcases hs with rfl|rfl<;>simp[zG,DX,List.replicate,q2,oV]
def Z2A{w h:Nat}(hw:0<w)(hw2:w<=60)(hh:h<=1000)(Fo:w*h<=1000){T:List Th}(hT:T.length<=1000)(hg:∀t∈T,Z0 t.1 t.2=true)(Ds:List Dy){r:P3}(hr:RB r)(hz:0<r.2.2):yq [.sh (Zd w h T Ds),.sh (c3 r)]=.ret (.ow ((List.range (w*h)).map λk=>oV (jB w T r k).head?)):=by
 have e1:=Z0q hw hw2 hh hT Ds hg hr hz
 have yw:=y_w w h T Ds
 have yh:=y_h w h T Ds
 have mo:ŋ (w:Int) (h:Int)=true:=ſ (by omega) (by omega)
 have rr:=Z0J (n:=w*h) Fo
 rw[Int.natCast_mul] at rr
 have hc:=Ł (g:=gN 1) (mt:=Ŀ) (me:=ċ (Ď zG (Ć 0 (Ć 1 Ĉ)))) (λ(k:Nat)=>PV.int (k:Int)) (λk=>oV (jB w T r k).head?) (λρ=>∃a,ρ=[.bw (T.map λt=>PV.int (lY w h r t)),a]) (List.range (w*h)) [.bw (T.map λt=>PV.int (lY w h r t)),.no] [] ⟨_,rfl⟩ (by simp;omega) (by
  rintro k hk ρ ⟨a,rfl⟩
  have hk:=List.mem_range.mp hk
  have e:=Z1I T r hk (sl:=.bw (T.map λt=>PV.int (lY w h r t))) (.inr rfl)
  generalize (T.map λt=>PV.int (lY w h r t))=DV at *
  generalize oV (jB w T r k).head?=O at *
  exact⟨[.bw DV,.sh (.int k)],_,[.bw DV,.sh (.int k)],rfl,rfl,by simp[e],_,rfl⟩)
 rw[List.nil_append] at hc
 generalize Zd w h T Ds=Yv at *
 generalize c3 r=R at *
 generalize (T.map λt=>PV.int (lY w h r t))=DV at *
 generalize ((List.range (w*h)).map λk=>oV (jB w T r k).head?)=OV at *
 simp[yq,DY,List.replicate,e1,yw,yh,mo,rr,hc]
theorem Z2O:∀(xs:List Int),xs.length=14->∃a b c d e f g h i j k l m n,xs=[a,b,c,d,e,f,g,h,i,j,k,l,m,n]
 | [a,b,c,d,e,f,g,h,i,j,k,l,m,n],_=>⟨a,b,c,d,e,f,g,h,i,j,k,l,m,n,rfl⟩
def Z2P(x y:Hu.Pt):ř (pt x) (pt y)=some (.bl (decide (x=y))):=by
 unfold ř pU
 rw[ZS,ZS,ZM,ZM,Z0k]
 rfl
def Ym:eZ [.int 2]=some [.int 0,.int 1]:=by rfl
def wd(k:Int):Str:=if k=0 then Str.ofString "post" else if k=1 then Str.ofString "fence" else if k=2 then Str.ofString "sail" else if k=3 then Str.ofString "cloth" else Str.ofString "house"
def pB(x:Int):Prop:=-999999959<=x/\x<=999999959
def hB(h:Int):Prop:=1<=h/\h<=1000000000
inductive Bs:Int->List Int->Prop
 |post {p q h:Int} (h1:pB p) (h2:pB q) (h3:hB h):Bs 0 [p,q,h]
 |fence {x y u v h:Int} (h1:pB x) (h2:pB y) (h3:pB u) (h4:pB v) (h5:hB h) (n:¬(x=u/\y=v)):Bs 1 [x,y,u,v,h]
 |sail {x y u v h:Int} (h1:pB x) (h2:pB y) (h3:pB u) (h4:pB v) (h5:hB h) (n1:x<u) (n2:y<v):Bs 2 [x,y,u,v,h]
 |cloth {a b c d e f g i j:Int} (h1:pB a) (h2:pB b) (h3:0<=c/\c<=1000000000) (h4:pB d) (h5:pB e) (h6:0<=f/\f<=1000000000) (h7:pB g) (h8:pB i) (h9:0<=j/\j<=1000000000):Bs 3 [a,b,c,d,e,f,g,i,j]
 |house {x y u v h:Int} (h1:pB x) (h2:pB y) (h3:pB u) (h4:pB v) (h5:hB h) (n1:x<u) (n2:y<v):Bs 4 [x,y,u,v,h]
def Z33:Zf (wd 0)= "Post" := by decide +kernel
def Z34:Zf (wd 1)= "Fence" := by decide +kernel
def Z35:Zf (wd 2)= "Sail" := by decide +kernel
def Z36:Zf (wd 3)= "Cloth" := by decide +kernel
def Z37:Zf (wd 4)= "House" := by decide +kernel
def gd0(xs:List Int):Z0 (wd 0) xs=Ze xs:=by simp[Z0,wd]
def gd1(xs:List Int):Z0 (wd 1) xs=Zb xs:=by simp[Z0,wd,d21]
def gd2(xs:List Int):Z0 (wd 2) xs=Z7 xs:=by simp[Z0,wd,d31,d32]
def gd3(xs:List Int):Z0 (wd 3) xs=Zc xs:=by simp[Z0,wd,d41,d42,d43]
def gd4(xs:List Int):Z0 (wd 4) xs=Z7 xs:=by simp[Z0,wd,d51,d52,d53,d54]
def zT(p q h:Int):Z3 (wd 0) [p,q,h]=Zg (2*p-1) (2*q-1) (2*p+1) (2*q+1) h:=by unfold Z3;rw[Z33];rfl
def zU(x y u v h:Int):Z3 (wd 1) [x,y,u,v,h]=[(x,y,0),(u,v,0),(u,v,h),(x,y,h)]:=by unfold Z3;rw[Z34];rfl
def zV(x y u v h:Int):Z3 (wd 2) [x,y,u,v,h]=Z8 x y u v h:=by unfold Z3;rw[Z35];rfl
def zW(a b c d e f g i j:Int):Z3 (wd 3) [a,b,c,d,e,f,g,i,j]=[(a,b,c),(d,e,f),(g,i,j)]:=by unfold Z3;rw[Z36];rfl
def zX(x y u v h:Int):Z3 (wd 4) [x,y,u,v,h]=Zg x y u v h:=by unfold Z3;rw[Z37];rfl
def ZT{k:Int}{xs:List Int}(h:Bs k xs):Z0 (wd k) xs=true:=by
 cases h with
 |post h1 h2 h3=>rw[gd0];simp[Ze,Ő,h_];unfold pB hB at *;omega
 |fence h1 h2 h3 h4 h5 n=>rw[gd1];simp[Zb,Z9,Ő,h_];unfold pB hB at *;omega
 |sail h1 h2 h3 h4 h5 n1 n2=>rw[gd2];simp[Z7,Z9,Ő,h_];unfold pB hB at *;omega
 |cloth h1 h2 h3 h4 h5 h6 h7 h8 h9=>rw[gd3];simp[Zc,Ő,qU];unfold pB at *;omega
 |house h1 h2 h3 h4 h5 n1 n2=>rw[gd4];simp[Z7,Z9,Ő,h_];unfold pB hB at *;omega
def Z0O(c:Int){w:Int}(hw1:1<=w)(hw2:w<=1000):∃(k:Int) (xs:List Int),cC [.sh (.int c),.sh (.int w)]=.ret (.sh (.tup [.str (wd k),.lst (xs.map .int)]))/\Bs k xs:=by
 obtain⟨xs,eg,hl,hx⟩:=Z0b c (n:=14) (by omega)
 obtain⟨x0,x1,x2,x3,x4,x5,x6,x7,x8,x9,x10,x11,x12,x13,rfl⟩:=Z2O xs hl
 clear hl hx
 obtain⟨p0,e0,q0⟩:=Zn x0 hw1 hw2
 obtain⟨p1,e1,q1⟩:=Zn x1 hw1 hw2
 obtain⟨z,ez,qz⟩:=Z03 x2
 have Fw:jd [.sh (.int c),.sh (.int 14)]=.ret (.ow [.int x0,.int x1,.int x2,.int x3,.int x4,.int x5,.int x6,.int x7,.int x8,.int x9,.int x10,.int x11,.int x12,.int x13]):=eg
 clear eg
 have hc:Ľ (gN 2) Ŀ (ċ (Ď fH (Ċ (ą č (Ā 1) (Ā 2)) (Ć 0 Ĉ)))) [PV.int 0,PV.int 1] [.sh (.int w),.bw [.int x0,.int x1,.int x2,.int x3,.int x4,.int x5,.int x6,.int x7,.int x8,.int x9,.int x10,.int x11,.int x12,.int x13],.no] []=some [.int p0,.int p1]:=by
  simp[Ľ,e0,e1]
 have k:0<=x3 % 5/\x3 % 5<5:=by omega
 obtain⟨kd,hkd⟩:∃kd,x3 % 5=kd:=⟨_,rfl⟩
 rw[hkd] at k
 by_cases k0:kd=0
 ·refine⟨0,[p0 / 2,p1 / 2,z],?_,.post (by unfold Pl pB at *;omega) (by unfold Pl pB at *;omega) qz⟩
  simp[wd,cC,iK,List.replicate,Fw,Ym,hc,ez,hkd,k0]
 ·by_cases k1:kd=1
  ·refine⟨1,[p0,p1,p0+(x4 % 9-4)+(if x4 % 9-4=0/\x5 % 9-4=0 then 1 else 0),p1+(x5 % 9-4),z],?_,.fence (by unfold Pl pB at *;omega) (by unfold Pl pB at *;omega) (by unfold Pl pB at *;split<;>omega) (by unfold Pl pB at *;omega) qz (by split<;>omega)⟩
   have hq:=Z2P (p0,p1) (p0+x4 % 9-4,p1+x5 % 9-4)
   unfold pt at hq
   dsimp only at hq
   have hi:(if x4 % 9-4=0/\x5 % 9-4=0 then(1:Int) else 0)=if decide ((p0,p1)=(p0+x4 % 9-4,p1+x5 % 9-4))=true then 1 else 0:=by
    simp only[decide_eq_true_eq,Prod.mk.injEq]
    split<;>split<;>omega
   generalize decide ((p0,p1)=(p0+x4 % 9-4,p1+x5 % 9-4))=bb at *
   have a1:p0+(x4 % 9-4)=p0+x4 % 9-4:=by omega
   have a2:p1+(x5 % 9-4)=p1+x5 % 9-4:=by omega
   rw[a1,a2,hi]
   cases bb<;>simp[wd,cC,iK,List.replicate,Fw,Ym,hc,ez,hkd,k1,hq]
  ·by_cases k2:kd=2
   ·obtain⟨p7,e7,q7⟩:=Zn x7 hw1 hw2
    obtain⟨p8,e8,q8⟩:=Zn x8 hw1 hw2
    obtain⟨p9,e9,q9⟩:=Zn x9 hw1 hw2
    obtain⟨p10,e10,q10⟩:=Zn x10 hw1 hw2
    obtain⟨z2,ez2,qz2⟩:=Z03 x11
    refine⟨3,[p0,p1,x6 % 10,p7,p8,z,p9,p10,z2],?_,.cloth (by unfold Pl pB at *;omega) (by unfold Pl pB at *;omega) (by omega) (by unfold Pl pB at *;omega) (by unfold Pl pB at *;omega) (by omega) (by unfold Pl pB at *;omega) (by unfold Pl pB at *;omega) (by omega)⟩
    simp[wd,cC,iK,List.replicate,Fw,Ym,hc,ez,hkd,k2,e7,e8,e9,e10,ez2,add_l]
   ·by_cases k3:kd=3
    ·refine⟨2,[p0,p1,p0+1+x4 % 8,p1+1+x5 % 8,z],?_,.sail (by unfold Pl pB at *;omega) (by unfold Pl pB at *;omega) (by unfold Pl pB at *;omega) (by unfold Pl pB at *;omega) qz (by omega) (by omega)⟩
     simp[wd,cC,iK,List.replicate,Fw,Ym,hc,ez,hkd,k3]
    ·have k4:kd=4:=by omega
     refine⟨4,[p0,p1,p0+1+x4 % 8,p1+1+x5 % 8,z],?_,.house (by unfold Pl pB at *;omega) (by unfold Pl pB at *;omega) (by unfold Pl pB at *;omega) (by unfold Pl pB at *;omega) qz (by omega) (by omega)⟩
     simp[wd,cC,iK,List.replicate,Fw,Ym,hc,ez,hkd,k4]
def Dr(t:Th):Prop:=∃k,t.1=wd k/\Bs k t.2
def Z2d{t:Th}(h:Dr t):Z0 t.1 t.2=true:=by
 obtain⟨k,h1,h2⟩:=h
 rw[h1]
 exact ZT h2
def Z6(t:Th):PV:=.tup [.str t.1,.lst (t.2.map .int)]
def Z2B(w h:Nat):dG [.tup [.int w,.int h]]=some (.int ((max w h:Nat):Int)):=by
 show some (PV.int (max (w:Int) h))=_
 congr 2
 omega
theorem Z0t{w h:Nat}(hw:1<=w/\w<=20)(hh:1<=h/\h<=20):∀(cs:List Int) (acc:List PV) (s1:P.Slot),acc.length+cs.length<=1000->∃T:List Th,Ľ (gN 1) Ŀ (ċ (Ď cC (Ć 1 (Ċ (gG dG (ā (Ā 0) Ē)) Ĉ)))) (cs.map .int) [.sh (.tup [.int w,.int h]),s1] acc=some (acc++T.map Z6)/\T.length=cs.length/\∀t∈T,Dr t
 | [],acc,s1,_=>⟨[],by simp[Ľ],rfl,by simp⟩
 |c::cs,acc,s1,ha=>by
  obtain⟨k,xs,e1,e2⟩:=Z0O c (w:=((max w h:Nat):Int)) (by omega) (by omega)
  obtain⟨T,q1,q2,q3⟩:=Z0t hw hh cs (acc ++ [Z6 (wd k,xs)]) (.sh (.int c)) (by simp at ha ⊢;omega)
  refine⟨(wd k,xs)::T,?_,by simp[q2],?_⟩
  ·have hz:acc.length<16777216:=by simp at ha;omega
   have mx:=Z2B w h
   change cC _=.ret (.sh (Z6 (wd k,xs))) at e1
   generalize hR:Z6 (wd k,xs)=R at *
   generalize ((max w h:Nat):Int)=m at *
   rw[List.map_cons,Ľ]
   simp[mx,e1,hz,hR]
   simpa using q1
  ·intro x hx
   rcases List.mem_cons.mp hx with rfl|hx
   ·exact⟨k,rfl,e2⟩
   ·exact q3 x hx
def Z1J{w:Str}{xs:List Int}(h:Z0 w xs=true):PyData.strOk w=true:=by
 unfold Z0 at h
 by_cases e1:w= "post"
 ·rw[e1];exact s1
 rw[if_neg e1] at h
 by_cases e2:w= "fence"
 ·rw[e2];exact s2
 rw[if_neg e2] at h
 by_cases e3:w= "sail"
 ·rw[e3];exact s3
 rw[if_neg e3] at h
 by_cases e4:w= "cloth"
 ·rw[e4];exact s4
 rw[if_neg e4] at h
 by_cases e5:w= "house"
 ·rw[e5];exact s5
 rw[if_neg e5] at h
 cases h
def Z1j{T:List Th}(hl:T.length<=1000)(hg:∀t∈T,Z0 t.1 t.2=true)(s0 s1:P.Slot):Ľ (gT 2 (Č (gN 0) (Č (gN 1) ĸ))) Ŀ (ċ (Ď cB (Ć 0 (Ċ (ċ (iC aN (ā (Ā 1) Ē))) Ĉ)))) (T.map Z6) [s0,s1] []=some (T.map lZ):=by
 have hc:=Ł (g:=gT 2 (Č (gN 0) (Č (gN 1) ĸ))) (mt:=Ŀ) (me:=ċ (Ď cB (Ć 0 (Ċ (ċ (iC aN (ā (Ā 1) Ē))) Ĉ)))) Z6 lZ (λρ=>∃a b,ρ=[a,b]) T [s0,s1] [] ⟨_,_,rfl⟩ (by simp;omega) (by
  rintro t ht ρ ⟨a,b,rfl⟩
  have e:=Z1D (Z1J (hg t ht)) (xs:=t.2) (sl:=.sh (.lst (t.2.map .int))) (.inl rfl)
  rw[if_pos (hg t ht)] at e
  change cB _=.ret (.sh (lZ t)) at e
  refine⟨[.sh (.str t.1),.sh (.lst (t.2.map .int))],_,[.sh (.str t.1),.sh (.lst (t.2.map .int))],by simp[Z6],rfl,?_,_,_,rfl⟩
  generalize t.2.map PV.int=X at *
  generalize lZ t=V at *
  simp[e])
 simpa using hc
def Z2e(α β γ δ e g:Int){S S':List Hu.Pt}{p:Hu.Pt}(h:Uo S p)(hm:∀s∈S,(α * s.1 + β * s.2+e,γ * s.1 + δ * s.2+g)∈S'):Uo S' (α * p.1 + β * p.2+e,γ * p.1 + δ * p.2+g):=by
 intro l m n hn
 have key:∀x y:Int,l*(α * x + β * y+e)+m*(γ * x + δ * y+g)=(l * α + m * γ)*x+(l * β + m * δ)*y+(l*e+m*g):=λx y=>by grind
 have:=h (l * α + m * γ) (l * β + m * δ) (n-(l*e+m*g)) (λs hs=>by
  have q:=hn _ (hm s hs)
  dsimp only at q
  rw[key] at q
  omega)
 dsimp only
 rw[key]
 omega
def Zx{w w':Str}{xs xs':List Int}{s s':Hu.Pt}{r r':P3}(α β γ δ e g:Int)(t:P3->P3)(hg:Z0 w xs=true)(hg':Z0 w' xs'=true)(hc:∀q∈Z3 w xs,t q∈Z3 w' xs')(hq:∀q,cst r' (t q)=(α * (cst r q).1 + β * (cst r q).2+e,γ * (cst r q).1 + δ * (cst r q).2+g))(hs:cst r' (yE s')=(α * (cst r (yE s)).1 + β * (cst r (yE s)).2+e,γ * (cst r (yE s)).1 + δ * (cst r (yE s)).2+g))(h:oN w xs s r=true):oN w' xs' s' r'=true:=by
 rw[Z07 hg] at h
 rw[Z07 hg',hs]
 refine Z2e α β γ δ e g h λp hp=>?_
 obtain⟨q,hq',rfl⟩:=List.mem_map.mp hp
 rw[<-hq q]
 exact List.mem_map.mpr ⟨t q,hc q hq',rfl⟩
def ZU{a b:Bool}(h1:a=true->b=true)(h2:b=true->a=true):b=a:=by
 cases a<;>cases b<;>simp_all
def ZE{w:Str}{xs xs':List Int}(hg:Z0 w xs=true)(hg':Z0 w xs'=true)(h1:∀q∈Z3 w xs,(q.2.1,q.1,q.2.2)∈Z3 w xs')(h2:∀q∈Z3 w xs',(q.2.1,q.1,q.2.2)∈Z3 w xs)(s:Hu.Pt)(r:P3):oN w xs' (s.2,s.1) (r.2.1,r.1,r.2.2)=oN w xs s r:=by
 refine ZU (λh=>Zx 0 1 1 0 0 0 (λq=>(q.2.1,q.1,q.2.2)) hg hg' h1 (λq=>?_) ?_ h) (λh=>Zx 0 1 1 0 0 0 (λq=>(q.2.1,q.1,q.2.2)) hg' hg h2 (λq=>?_) ?_ h)
 all_goals
  simp only[cst,yE,Prod.mk.injEq]
  constructor<;>grind
def ZF{w:Str}{xs xs':List Int}(d:Hu.Pt)(hg:Z0 w xs=true)(hg':Z0 w xs'=true)(h1:∀q∈Z3 w xs,(q.1+2*d.1,q.2.1+2*d.2,q.2.2)∈Z3 w xs')(h2:∀q∈Z3 w xs',(q.1-2*d.1,q.2.1-2*d.2,q.2.2)∈Z3 w xs)(s:Hu.Pt)(r:P3):oN w xs' (s.1+d.1,s.2+d.2) r=oN w xs s r:=by
 refine ZU (λh=>Zx 1 0 0 1 (r.2.2*(2*d.1)) (r.2.2*(2*d.2)) (λq=>(q.1+2*d.1,q.2.1+2*d.2,q.2.2)) hg hg' h1 (λq=>?_) ?_ h) (λh=>Zx 1 0 0 1 (-(r.2.2*(2*d.1))) (-(r.2.2*(2*d.2))) (λq=>(q.1-2*d.1,q.2.1-2*d.2,q.2.2)) hg' hg h2 (λq=>?_) ?_ h)
 all_goals
  simp only[cst,yE,Prod.mk.injEq]
  constructor<;>grind
def Z2f{k:Int}(hk:0<k){S S':List Hu.Pt}{p:Hu.Pt}(h:Uo S' (k*p.1,k*p.2))(hm:∀s∈S',∃t∈S,s=(k*t.1,k*t.2)):Uo S p:=by
 intro l m n hn
 have key:∀x y:Int,l*(k*x)+m*(k*y)=k*(l*x+m*y):=λx y=>by grind
 have:=h l m (k*n) (λs hs=>by
  obtain⟨t,ht,rfl⟩:=hm s hs
  have q:=hn t ht
  dsimp only
  rw[key]
  exact Int.mul_le_mul_of_nonneg_left q (by omega))
 dsimp only at this
 rw[key] at this
 exact Int.le_of_mul_le_mul_left this hk
def Z2C{w:Str}{xs:List Int}(hg:Z0 w xs=true){k:Int}(hk:0<k)(s:Hu.Pt){r r':P3}(h1:r.1=k*r'.1)(h2:r.2.1=k*r'.2.1)(h3:r.2.2=k*r'.2.2):oN w xs s r'=oN w xs s r:=by
 have key:∀q:P3,cst r q=(k*(cst r' q).1,k*(cst r' q).2):=λq=>by
  simp only[cst,Prod.mk.injEq,h1,h2,h3]
  constructor<;>grind
 refine(ZU (λh=>Zx k 0 0 k 0 0 id hg hg (λq hq=>hq) (λq=>?_) ?_ h) (λh=>?_)).symm
 ·rw[show id q=q from rfl,key]
  simp
 ·rw[key]
  simp
 ·rw[Z07 hg] at h ⊢
  rw[key] at h
  refine Z2f hk h λp hp=>?_
  obtain⟨q,hq,rfl⟩:=List.mem_map.mp hp
  exact⟨cst r' q,List.mem_map.mpr ⟨q,hq,rfl⟩,key q⟩
def ZG{w:Str}{xs xs':List Int}(d:Int)(hg:Z0 w xs=true)(hg':Z0 w xs'=true)(h1:∀q∈Z3 w xs,(2*d-q.1,q.2.1,q.2.2)∈Z3 w xs')(h2:∀q∈Z3 w xs',(2*d-q.1,q.2.1,q.2.2)∈Z3 w xs)(s:Hu.Pt)(r:P3):oN w xs' (d-s.1,s.2) (0-r.1,r.2.1,r.2.2)=oN w xs s r:=by
 refine ZU (λh=>Zx (-1) 0 0 1 (r.2.2*(2*d)) 0 (λq=>(2*d-q.1,q.2.1,q.2.2)) hg hg' h1 (λq=>?_) ?_ h) (λh=>Zx (-1) 0 0 1 (r.2.2*(2*d)) 0 (λq=>(2*d-q.1,q.2.1,q.2.2)) hg' hg h2 (λq=>?_) ?_ h)
 all_goals
  simp only[cst,yE,Prod.mk.injEq]
  constructor<;>grind
def Z0P{k:Int}{xs:List Int}(h:Bs k xs):∃xs':List Int,bG [.sh (.str (wd k)),.sh (.lst (xs.map .int))]=.ret (.ow (xs'.map .int))/\Z0 (wd k) xs'=true/\∀(s:Hu.Pt) (r:P3),oN (wd k) xs' (s.2,s.1) (r.2.1,r.1,r.2.2)=oN (wd k) xs s r:=by
 have hg:=ZT h
 cases h with
 |@post p q h h1 h2 h3=>
  unfold pB hB at *
  have hg':Z0 (wd 0) [q,p,h]=true:=by rw[gd0];simp[Ze,Ő,h_];omega
  refine⟨[q,p,h],?_,hg',ZE hg hg' ?_ ?_⟩
  ·simp[bG,iM,List.replicate,wd,į,s1,s2,s3,s4,s5,d12,d13,d14,d15]
  ·rw[zT,zT];simp[Zg,Z8]
  ·rw[zT,zT];simp[Zg,Z8]
 |@fence x y u v h h1 h2 h3 h4 h5 n=>
  unfold pB hB at *
  have hg':Z0 (wd 1) [y,x,v,u,h]=true:=by rw[gd1];simp[Zb,Z9,Ő,h_];omega
  refine⟨[y,x,v,u,h],?_,hg',ZE hg hg' ?_ ?_⟩
  ·simp[bG,iM,List.replicate,wd,į,s1,s2,s3,s4,s5,d21,d23,d24,d25]
  ·rw[zU,zU];simp
  ·rw[zU,zU];simp
 |@sail x y u v h h1 h2 h3 h4 h5 n1 n2=>
  unfold pB hB at *
  have hg':Z0 (wd 2) [y,x,v,u,h]=true:=by rw[gd2];simp[Z7,Z9,Ő,h_];omega
  refine⟨[y,x,v,u,h],?_,hg',ZE hg hg' ?_ ?_⟩
  ·simp[bG,iM,List.replicate,wd,į,s1,s2,s3,s4,s5,d31,d32,d34,d35]
  ·rw[zV,zV];simp[Z8]
  ·rw[zV,zV];simp[Z8]
 |@cloth a b c d e f g i j h1 h2 h3 h4 h5 h6 h7 h8 h9=>
  unfold pB at *
  have hg':Z0 (wd 3) [b,a,c,e,d,f,i,g,j]=true:=by rw[gd3];simp[Zc,Ő,qU];omega
  refine⟨[b,a,c,e,d,f,i,g,j],?_,hg',ZE hg hg' ?_ ?_⟩
  ·simp[bG,iM,List.replicate,wd,į,s1,s2,s3,s4,s5,d41,d42,d43,d45,Ľ]
  ·rw[zW,zW];simp
  ·rw[zW,zW];simp
 |@house x y u v h h1 h2 h3 h4 h5 n1 n2=>
  unfold pB hB at *
  have hg':Z0 (wd 4) [y,x,v,u,h]=true:=by rw[gd4];simp[Z7,Z9,Ő,h_];omega
  refine⟨[y,x,v,u,h],?_,hg',ZE hg hg' ?_ ?_⟩
  ·simp[bG,iM,List.replicate,wd,į,s1,s2,s3,s4,s5,d51,d52,d53,d54]
  ·rw[zX,zX];simp[Zg,Z8]
  ·rw[zX,zX];simp[Zg,Z8]
def Z1K{k:Int}{xs:List Int}(h:Bs k xs):∃xs':List Int,bH [.sh (.str (wd k)),.sh (.lst (xs.map .int))]=.ret (.ow (xs'.map .int))/\Z0 (wd k) xs'=true/\∀(s:Hu.Pt) (r:P3),oN (wd k) xs' (s.1+1,s.2+0) r=oN (wd k) xs s r:=by
 have hg:=ZT h
 cases h with
 |@post p q h h1 h2 h3=>
  unfold pB hB at *
  have hg':Z0 (wd 0) [p+1,q,h]=true:=by rw[gd0];simp[Ze,Ő,h_];omega
  refine⟨[p+1,q,h],?_,hg',ZF (1,0) hg hg' ?_ ?_⟩
  ·have e:aC [PV.int p,.int q,.int h] (some 1) none=[.int q,.int h]:=rfl
   simp[bH,iR,List.replicate,wd,į,s1,s2,s3,s4,s5,d12,d13,d14,d15,xJ,e,add_l]
  ·rw[zT,zT];simp[Zg,Z8];try (repeat' (first|apply And.intro|omega))
  ·rw[zT,zT];simp[Zg,Z8];try (repeat' (first|apply And.intro|omega))
 |@fence x y u v h h1 h2 h3 h4 h5 n=>
  unfold pB hB at *
  have hg':Z0 (wd 1) [x+2,y,u+2,v,h]=true:=by rw[gd1];simp[Zb,Z9,Ő,h_];omega
  refine⟨[x+2,y,u+2,v,h],?_,hg',ZF (1,0) hg hg' ?_ ?_⟩
  ·have e:aC [PV.int x,.int y,.int u,.int v,.int h] (some 3) none=[.int v,.int h]:=rfl
   simp[bH,iR,List.replicate,wd,į,s1,s2,s3,s4,s5,d21,d23,d24,d25,xJ,e,add_l]
  ·rw[zU,zU];simp;try (repeat' (first|apply And.intro|omega))
  ·rw[zU,zU];simp;try (repeat' (first|apply And.intro|omega))
 |@sail x y u v h h1 h2 h3 h4 h5 n1 n2=>
  unfold pB hB at *
  have hg':Z0 (wd 2) [x+2,y,u+2,v,h]=true:=by rw[gd2];simp[Z7,Z9,Ő,h_];omega
  refine⟨[x+2,y,u+2,v,h],?_,hg',ZF (1,0) hg hg' ?_ ?_⟩
  ·have e:aC [PV.int x,.int y,.int u,.int v,.int h] (some 3) none=[.int v,.int h]:=rfl
   simp[bH,iR,List.replicate,wd,į,s1,s2,s3,s4,s5,d31,d32,d34,d35,xJ,e,add_l]
  ·rw[zV,zV];simp[Z8];try (repeat' (first|apply And.intro|omega))
  ·rw[zV,zV];simp[Z8];try (repeat' (first|apply And.intro|omega))
 |@cloth a b c d e f g i j h1 h2 h3 h4 h5 h6 h7 h8 h9=>
  unfold pB at *
  have hg':Z0 (wd 3) [a+2,b,c,d+2,e,f,g+2,i,j]=true:=by rw[gd3];simp[Zc,Ő,qU];omega
  refine⟨[a+2,b,c,d+2,e,f,g+2,i,j],?_,hg',ZF (1,0) hg hg' ?_ ?_⟩
  ·simp[bH,iR,List.replicate,wd,į,s1,s2,s3,s4,s5,d41,d42,d43,d45,forL,Eh,zN]
  ·rw[zW,zW];simp;try (repeat' (first|apply And.intro|omega))
  ·rw[zW,zW];simp;try (repeat' (first|apply And.intro|omega))
 |@house x y u v h h1 h2 h3 h4 h5 n1 n2=>
  unfold pB hB at *
  have hg':Z0 (wd 4) [x+2,y,u+2,v,h]=true:=by rw[gd4];simp[Z7,Z9,Ő,h_];omega
  refine⟨[x+2,y,u+2,v,h],?_,hg',ZF (1,0) hg hg' ?_ ?_⟩
  ·have e:aC [PV.int x,.int y,.int u,.int v,.int h] (some 3) none=[.int v,.int h]:=rfl
   simp[bH,iR,List.replicate,wd,į,s1,s2,s3,s4,s5,d51,d52,d53,d54,xJ,e,add_l]
  ·rw[zX,zX];simp[Zg,Z8];try (repeat' (first|apply And.intro|omega))
  ·rw[zX,zX];simp[Zg,Z8];try (repeat' (first|apply And.intro|omega))
def Z0z{k:Int}{xs:List Int}(h:Bs k xs){w:Nat}(hw:1<=w/\w<=20):∃xs':List Int,iQ [.sh (.str (wd k)),.sh (.lst (xs.map .int)),.sh (.int (w:Int))]=.ret (.ow (xs'.map .int))/\Z0 (wd k) xs'=true/\∀(s:Hu.Pt) (r:P3),oN (wd k) xs' ((w:Int)-1-s.1,s.2) (0-r.1,r.2.1,r.2.2)=oN (wd k) xs s r:=by
 have hg:=ZT h
 cases h with
 |@post p q h h1 h2 h3=>
  unfold pB hB at *
  have hg':Z0 (wd 0) [(w:Int)-1-p,q,h]=true:=by rw[gd0];simp[Ze,Ő,h_];omega
  refine⟨[(w:Int)-1-p,q,h],?_,hg',ZG ((w:Int)-1) hg hg' ?_ ?_⟩
  ·have e:aC [PV.int p,.int q,.int h] (some 1) none=[.int q,.int h]:=rfl
   simp[iQ,oH,List.replicate,wd,į,s1,s2,s3,s4,s5,d12,d13,d14,d15,xJ,e,add_l]
  ·rw[zT,zT];simp[Zg,Z8];try (repeat' (first|apply And.intro|omega))
  ·rw[zT,zT];simp[Zg,Z8];try (repeat' (first|apply And.intro|omega))
 |@fence x y u v h h1 h2 h3 h4 h5 n=>
  unfold pB hB at *
  have hg':Z0 (wd 1) [2*(w:Int)-2-x,y,2*(w:Int)-2-u,v,h]=true:=by rw[gd1];simp[Zb,Z9,Ő,h_];omega
  refine⟨[2*(w:Int)-2-x,y,2*(w:Int)-2-u,v,h],?_,hg',ZG ((w:Int)-1) hg hg' ?_ ?_⟩
  ·have e:aC [PV.int x,.int y,.int u,.int v,.int h] (some 3) none=[.int v,.int h]:=rfl
   simp[iQ,oH,List.replicate,wd,į,s1,s2,s3,s4,s5,d21,d23,d24,d25,xJ,e,add_l]
  ·rw[zU,zU];simp;try (repeat' (first|apply And.intro|omega))
  ·rw[zU,zU];simp;try (repeat' (first|apply And.intro|omega))
 |@sail x y u v h h1 h2 h3 h4 h5 n1 n2=>
  unfold pB hB at *
  have hg':Z0 (wd 2) [2*(w:Int)-2-u,y,2*(w:Int)-2-x,v,h]=true:=by rw[gd2];simp[Z7,Z9,Ő,h_];omega
  refine⟨[2*(w:Int)-2-u,y,2*(w:Int)-2-x,v,h],?_,hg',ZG ((w:Int)-1) hg hg' ?_ ?_⟩
  ·have e:aC [PV.int x,.int y,.int u,.int v,.int h] (some 3) none=[.int v,.int h]:=rfl
   simp[iQ,oH,List.replicate,wd,į,s1,s2,s3,s4,s5,d31,d32,d34,d35,xJ,e,add_l]
  ·rw[zV,zV];simp[Z8];try (repeat' (first|apply And.intro|omega))
  ·rw[zV,zV];simp[Z8];try (repeat' (first|apply And.intro|omega))
 |@cloth a b c d e f g i j h1 h2 h3 h4 h5 h6 h7 h8 h9=>
  unfold pB at *
  have hg':Z0 (wd 3) [2*(w:Int)-2-a,b,c,2*(w:Int)-2-d,e,f,2*(w:Int)-2-g,i,j]=true:=by rw[gd3];simp[Zc,Ő,qU];omega
  refine⟨[2*(w:Int)-2-a,b,c,2*(w:Int)-2-d,e,f,2*(w:Int)-2-g,i,j],?_,hg',ZG ((w:Int)-1) hg hg' ?_ ?_⟩
  ·simp[iQ,oH,List.replicate,wd,į,s1,s2,s3,s4,s5,d41,d42,d43,d45,forL,KN,zN]
  ·rw[zW,zW];simp;try (repeat' (first|apply And.intro|omega))
  ·rw[zW,zW];simp;try (repeat' (first|apply And.intro|omega))
 |@house x y u v h h1 h2 h3 h4 h5 n1 n2=>
  unfold pB hB at *
  have hg':Z0 (wd 4) [2*(w:Int)-2-u,y,2*(w:Int)-2-x,v,h]=true:=by rw[gd4];simp[Z7,Z9,Ő,h_];omega
  refine⟨[2*(w:Int)-2-u,y,2*(w:Int)-2-x,v,h],?_,hg',ZG ((w:Int)-1) hg hg' ?_ ?_⟩
  ·have e:aC [PV.int x,.int y,.int u,.int v,.int h] (some 3) none=[.int v,.int h]:=rfl
   simp[iQ,oH,List.replicate,wd,į,s1,s2,s3,s4,s5,d51,d52,d53,d54,xJ,e,add_l]
  ·rw[zX,zX];simp[Zg,Z8];try (repeat' (first|apply And.intro|omega))
  ·rw[zX,zX];simp[Zg,Z8];try (repeat' (first|apply And.intro|omega))
def Z1k{x:Int}(h1: -(2 ^ 64)<x)(h2:x<2 ^ 64):bits x<=8000:=by
 unfold bits Builtin.Int.intBits
 split
 ·omega
 ·rename_i h
  have:x.natAbs.log2<64:=by
   rw[Nat.log2_lt (by simpa using h)]
   omega
  omega
def Z0u{k x M:Int}(hk:0<k)(h1: -M<=k*x)(h2:k*x<=M): -M<=x/\x<=M:=by
 have e:k*x-x=(k-1)*x:=by grind
 rcases Int.le_total 0 x with hx|hx
 ·have:=Int.mul_nonneg (show 0<=k-1 by omega) hx
  omega
 ·have:=Int.mul_nonneg (show 0<=k-1 by omega) (show 0<= -x by omega)
  have e2:(k-1) * -x= -((k-1)*x):=by grind
  omega
def Z1l{u v:Int}(hu:0<u)(hv:0<=v)(s0:P.Slot):vX [s0,.sh (.int u),.sh (.int v)]=.ok .nx [s0,.sh (.int (My.gd u v)),.sh (.int 0)]:=by
 obtain⟨⟨x,y⟩,e1,⟨e2,e3,e4⟩,e5⟩:=vg (mc:=(bA (ą bU (Ā 2) (mC (.int 0))))) (mb:=(Hh 1 2 (ā (ė 2) (ā (ą ľ (Ā 1) (Ā 2)) Ē))))
  (fun b:Int×Int=>[s0,.sh (.int b.1),.sh (.int b.2)]) (fun b=>0≤b.1∧0≤b.2∧My.gd b.1 b.2=My.gd u v) (fun b=>b.2.natAbs) (b:=(u,v)) (by
    rintro ⟨x,y⟩ ⟨h1,h2,h3⟩
    dsimp only at h1 h2 h3
    by_cases hy:y=0
    ·left;simp[hy]
    ·right;exact⟨by simp[hy],(y,x.fmod y),by simp[hy],⟨h2,Int.fmod_nonneg_of_pos x (by omega),(My.Z1T x y).trans h3⟩,My.Z1U x hy⟩) ⟨by omega,hv,rfl⟩
 have hy:y=0:=by simpa using e5
 subst hy
 dsimp only at e2 e4
 rw[My.Z1V,if_neg (by omega)] at e4
 have e1':vX [s0,.sh (.int u),.sh (.int v)]=_:=e1
 rw[e1',<-e4]
def Z1m(u v:Int):My.gd u v ∣ u/\My.gd u v ∣ v:=⟨Int.gcd_dvd_left u v,Int.gcd_dvd_right u v⟩
def Z0F{k a:Int}(h:k ∣ (if a<0 then -a else a)):k ∣ a:=by
 split at h
 ·exact Int.dvd_neg.mp h
 ·exact h
def Z1L{r:P3}(hr:RB r)(hz:0<r.2.2):∃(k:Int) (r':P3),oG [.sh (c3 r)]=.ret (.sh (c3 r'))/\0<k/\r.1=k*r'.1/\r.2.1=k*r'.2.1/\r.2.2=k*r'.2.2/\RB r'/\0<r'.2.2:=by
 obtain⟨a,b,c⟩:=r
 dsimp only at hz
 obtain⟨A,hA⟩:∃A,(if a<0 then -a else a)=A:=⟨_,rfl⟩
 obtain⟨B,hB⟩:∃B,(if b<0 then -b else b)=B:=⟨_,rfl⟩
 have a0:0<=A:=by rw[<-hA];split<;>omega
 have b0:0<=B:=by rw[<-hB];split<;>omega
 have f1:vd [.int a]=some (.int A):=by rw[<-hA];simp
 have f2:vd [.int b]=some (.int B):=by rw[<-hB];simp
 have g1:0<My.gd c A:=by
  have:=Int.gcd_ne_zero_left (b:=A) (show c≠0 by omega)
  unfold My.gd;omega
 obtain⟨d1,d2⟩:=Z1m c A
 have w1:=Z1l (u:=c) (v:=A) hz a0 (.sh (c3 (a,b,c)))
 have w2:=Z1l (u:=My.gd c A) (v:=B) g1 b0 (.sh (c3 (a,b,c)))
 obtain⟨d3,d4⟩:=Z1m (My.gd c A) B
 have g2:0<My.gd (My.gd c A) B:=by
  have:=Int.gcd_ne_zero_left (b:=B) (show My.gd c A≠0 by omega)
  unfold My.gd at this ⊢;omega
 obtain⟨k,hk⟩:∃k,My.gd (My.gd c A) B=k:=⟨_,rfl⟩
 rw[hk] at w2 d3 d4 g2
 have ka:k ∣ a:=Z0F (by rw[hA];exact Int.dvd_trans d3 d2)
 have kb:k ∣ b:=Z0F (by rw[hB];exact d4)
 have kc:k ∣ c:=Int.dvd_trans d3 d1
 have kl:k<=c:=Int.le_of_dvd hz kc
 have hb':∀x,dD x k=true:=λx=>sI (by omega) (Z1k (by unfold RB at hr;dsimp only at hr;omega) (by unfold RB at hr;dsimp only at hr;omega))
 have ea:=Int.fdiv_eq_ediv_of_dvd ka
 have eb:=Int.fdiv_eq_ediv_of_dvd kb
 have ec:=Int.fdiv_eq_ediv_of_dvd kc
 obtain⟨x,rfl⟩:=ka
 obtain⟨y,rfl⟩:=kb
 obtain⟨z,rfl⟩:=kc
 rw[Int.mul_ediv_cancel_left _ (by omega)] at ea eb ec
 have z0:0<z:=Int.lt_of_mul_lt_mul_left (a:=k) (by rw[Int.mul_zero];exact hz) (by omega)
 refine⟨k,(x,y,z),?_,g2,rfl,rfl,rfl,?_,z0⟩
 ·generalize My.gd (k*z) A=G at *
  generalize k*x=kx at *
  generalize k*y=ky at *
  generalize k*z=kz at *
  unfold c3 at w1 w2 ⊢
  dsimp only at w1 w2 ⊢
  have k0:¬k=0:=by omega
  simp[oG,Ef,List.replicate,f1,f2,forL,Ed,w1,w2,hb',ea,eb,ec,-Rg]
 ·obtain⟨h1,h2,h3,h4,h5,h6⟩:=hr
  have x1:=Z0u g2 h1 h2
  have x2:=Z0u g2 h3 h4
  have x3:=Z0u g2 h5 h6
  exact⟨x1.1,x1.2,x2.1,x2.2,x3.1,x3.2⟩
def bL(T:List Th)(s:Hu.Pt)(r:P3):List Bool:=T.map λt=>lX t s r
def vB(bs:List Bool):PV:=.tup [.int (if bs.any id=true then 1 else 0),oV ((List.range bs.length).filter λi=>bs.getD i false).head?]
def vS(T:List Th)(r:P3)(s:Hu.Pt):PV:=vB (bL T s r)
def Z2D(w:Nat)(T:List Th)(r:P3)(k:Nat):((List.range (bL T (ig w k) r).length).filter λi=>(bL T (ig w k) r).getD i false).head?=(jB w T r k).head?:= by
 unfold jB bL
 rw[List.length_map]
 congr 1
 refine List.filter_congr λi hi=>?_
 rw[List.mem_range] at hi
 simp[hi]
def Z2E(w:Nat)(T:List Th)(r:P3)(k:Nat):(bL T (ig w k) r).any id=Uq w T (some r) k:=by
 unfold bL Uq
 simp[List.any_map,Function.comp_def]
def Z2g{w h:Nat}(T:List Th)(r:P3){k:Nat}(hk:k<w*h):((uo w h T (some r):Nat):Int) / 2 ^ k % 2=if(bL T (ig w k) r).any id=true then 1 else 0:=by
 have hb:(uo w h T (some r)).testBit k=Uq w T (some r) k:=by
  unfold uo
  rw[Zu]
  simp[hk]
 rw[Z2E,<-hb,Nat.testBit_eq_decide_div_mod_eq]
 generalize uo w h T (some r)=D
 have e:((D:Nat):Int) / 2 ^ k % 2=((D / 2 ^ k % 2:Nat):Int):=by
  simp
 rw[e]
 have:D / 2 ^ k % 2=0\/D / 2 ^ k % 2=1:=by omega
 rcases this with h|h<;>rw[h]<;>simp
def Zy(w k:Nat):DK:=.inr [((k % w:Nat):Int),((k / w:Nat):Int)]
def Z0v{w a b:Nat}(h:Zy w a=Zy w b):a=b:=by
 unfold Zy at h
 simp only[Sum.inr.injEq,List.cons.injEq,and_true] at h
 have e1:a % w=b % w:=by omega
 have e2:a / w=b / w:=by omega
 rw[<-Nat.div_add_mod a w,<-Nat.div_add_mod b w,e1,e2]
def Z1M{kvs:List (DK×PV)}{k:DK}{v:PV}(h:∀kv∈kvs,kv.1≠k):dput kvs k v=kvs ++ [(k,v)]:=by
 unfold dput
 rw[if_neg]
 intro z
 rw[List.any_eq_true] at z
 obtain⟨x,hx,e⟩:=z
 exact h x hx (by simpa using e)
def Z1n{w h a:Nat}(hw:0<w)(hw2:w<=60)(ha:a<w*h)(Fo:w*h<=1000)(T:List Th)(r:P3)(s1 s2 s3:P.Slot)(kvs:List (DK×PV))(hk:kvs.length<16777216) :
 lG [.sh (.tup [.int (w:Int),.int (h:Int)]),s1,s2,s3,.sh (.int (uo w h T (some r):Nat)),.ow ((List.range (w*h)).map λk=>oV (jB w T r k).head?),.od true kvs,.sh (.int a)]=.ok .nx [.sh (.tup [.int (w:Int),.int (h:Int)]),s1,s2,s3,.sh (.int (uo w h T (some r):Nat)),.ow ((List.range (w*h)).map λk=>oV (jB w T r k).head?),.od true (dput kvs (Zy w a) (vS T r (ig w a))),.sh (.int a)]:=by
 have e1:Int.fmod (a:Int) (w:Int)=((a % w:Nat):Int):=by rw[Int.fmod_eq_emod_of_nonneg _ (by omega)];simp
 have e2:Int.fdiv (a:Int) (w:Int)=((a / w:Nat):Int):=by rw[Int.fdiv_eq_ediv_of_nonneg _ (by omega)];simp
 have e3:dD (a:Int) (w:Int)=true:=sI (by omega) (Z1k (by omega) (by omega))
 have e4:=Z2g T r ha
 have e5:=Z2D w T r a
 have e6:((List.range (w*h)).map λk=>oV (jB w T r k).head?)[a]?=some (oV (jB w T r a).head?):=by simp[ha]
 have e7:vS T r (ig w a)=.tup [.int (((uo w h T (some r):Nat):Int) / 2 ^ a % 2),oV (jB w T r a).head?]:=by
  unfold vS vB
  rw[e4,e5]
 have e8:č (.lst ((List.range (w*h)).map λk=>oV (jB w T r k).head?)) (.int (a:Int))=some (oV (jB w T r a).head?):=by
  generalize (List.range (w*h)).map (λk=>oV (jB w T r k).head?)=L at *
  simp[e6]
 have w0:¬w=0:=by omega
 rw[e7]
 generalize (List.range (w*h)).map (λk=>oV (jB w T r k).head?)=L at *
 generalize oV (jB w T r a).head?=ov at *
 generalize uo w h T (some r)=D at *
 simp[lG,e1,e2,e3,e8,lq,gP,hk,Zy,w0,rW,nF]
def cP(w:Nat)(T:List Th)(r:P3)(n:Nat):List (DK×PV):=(List.range n).map λk=>(Zy w k,vS T r (ig w k))
def Z2h{w:Nat}(T:List Th)(r:P3)(n:Nat):dput (cP w T r n) (Zy w n) (vS T r (ig w n))=cP w T r (n+1):=by
 unfold cP
 rw[Z1M,List.range_succ,List.map_append]
 ·rfl
 ·intro kv h
  obtain⟨k,hk,rfl⟩:=List.mem_map.mp h
  rw[List.mem_range] at hk
  intro e
  have:=Z0v e
  omega
def Z1o{w h:Nat}(hw:0<w)(hw2:w<=60)(Fo:w*h<=1000)(T:List Th)(r:P3)(s1 s2 s3:P.Slot):∃s7,forL (gN 7) lG ((List.range (w*h)).map λ(i:Nat)=>PV.int (i:Int)) [.sh (.tup [.int (w:Int),.int (h:Int)]),s1,s2,s3,.sh (.int (uo w h T (some r):Nat)),.ow ((List.range (w*h)).map λk=>oV (jB w T r k).head?),.od true [],.no]=.ok .nx [.sh (.tup [.int (w:Int),.int (h:Int)]),s1,s2,s3,.sh (.int (uo w h T (some r):Nat)),.ow ((List.range (w*h)).map λk=>oV (jB w T r k).head?),.od true (cP w T r (w*h)),s7]:=by
 have key:∀(m a:Nat) (s7:P.Slot),a+m<=w*h->∃zR,forL (gN 7) lG ((List.range' a m).map λ(i:Nat)=>PV.int (i:Int)) [.sh (.tup [.int (w:Int),.int (h:Int)]),s1,s2,s3,.sh (.int (uo w h T (some r):Nat)),.ow ((List.range (w*h)).map λk=>oV (jB w T r k).head?),.od true (cP w T r a),s7]=.ok .nx [.sh (.tup [.int (w:Int),.int (h:Int)]),s1,s2,s3,.sh (.int (uo w h T (some r):Nat)),.ow ((List.range (w*h)).map λk=>oV (jB w T r k).head?),.od true (cP w T r (a+m)),zR]:=by
  intro m
  induction m with
  |zero=>intro a s7 _;exact⟨s7,rfl⟩
  |succ m ih=>
   intro a s7 hm
   obtain⟨zR,e⟩:=ih (a+1) (.sh (.int a)) (by omega)
   refine⟨zR,?_⟩
   have st:=Z1n hw hw2 (a:=a) (by omega) Fo T r s1 s2 s3 (cP w T r a) (by simp[cP];omega)
   rw[Z2h] at st
   rw[List.range'_succ,List.map_cons,forL]
   simp only[xQ,List.set_cons_succ,List.set_cons_zero,st,Res.Ū]
   rw[e,show a+1+m=a+(m+1) by omega]
 obtain⟨s7,e⟩:=key (w*h) 0 .no (by omega)
 rw[<-List.range_eq_range',Nat.zero_add] at e
 exact⟨s7,e⟩
def ZH{w h:Nat}(hw:1<=w/\w<=20)(hh:1<=h/\h<=20)(Fo:w*h<=1000){T:List Th}(hT:T.length<=1000)(hg:∀t∈T,Z0 t.1 t.2=true){r:P3}(hr:RB r)(hz:0<r.2.2){sl:P.Slot}(hs:Sl sl (T.map Z6)):Ų [.sh (.tup [.int (w:Int),.int (h:Int)]),sl,.sh (c3 r)]=.ret (.sh (.cM ((cP w T r (w*h)).map (·.1)) ((cP w T r (w*h)).map (·.2)))):=by
 have c:=Z1j (T:=T) hT hg .no .no
 have y:=Z29 (w:Int) (h:Int) (T:=T) (D:=[]) (s3:=.sh (.lst (T.map lZ))) (s4:=.sh (.lst [])) (by omega) (by simp) (.inl rfl) (.inl rfl)
 have d:=Z2b (w:=w) (h:=h) (by omega) (by omega) (by omega) Fo hT [] hg (o:=some r) ⟨hr,hz⟩
 have wh:=Z2A (w:=w) (h:=h) (by omega) (by omega) (by omega) Fo hT hg [] hr hz
 obtain⟨s7,lp⟩:=Z1o (w:=w) (h:=h) (by omega) (by omega) Fo T r sl (.sh (c3 r)) (.sh (Zd w h T []))
 have mo:ŋ (w:Int) (h:Int)=true:=ſ (by omega) (by omega)
 have hm:((w:Int)*(h:Int))=((w*h:Nat):Int):=by simp
 have rg:=Z0J (n:=w*h) Fo
 rw[<-hm] at rg
 have ed:Ug (some r)=c3 r:=rfl
 rw[ed] at d
 have ey:Zd w h T []=.ins "Yard" ["width","height","things","days"] [.int w,.int h,.lst (T.map lZ),.lst []]:=rfl
 have it:=λz3 z4 z5 z6 z7=>hs.it (i:=1) (ρ:= [.sh (.tup [.int (w:Int),.int (h:Int)]),sl,.sh (c3 r),z3,z4,z5,z6,z7]) rfl
 rw[ey] at d wh lp
 rw[List.map_nil] at y
 generalize cP w T r (w*h)=TD at *
 generalize (List.range (w*h)).map (λk=>oV (jB w T r k).head?)=L at *
 generalize (List.range (w*h)).map (λ(i:Nat)=>PV.int (i:Int))=RG at *
 generalize uo w h T (some r)=DD at *
 generalize hX:T.map lZ=X at *
 generalize c3 r=R at *
 generalize T.map Z6=Y at *
 simp[Ų,Ec,List.replicate,-pY,it,c,y,d,wh,mo,rg,lp]
def Z1N{w:Nat}(T:List Th)(r:P3){n k:Nat}(hk:k<n):dval (cP w T r n) (Zy w k)=some (vS T r (ig w k)):=by
 unfold dval cP
 rw[List.find?_map]
 have:(List.range n).find? ((λkv:DK×PV=>decide (kv.1=Zy w k)) ∘ λk=>(Zy w k,vS T r (ig w k)))=some k:=by
  rw[List.find?_range_eq_some]
  refine⟨by simp,by simpa using hk,λj hj=>?_⟩
  simp
  intro e
  have:=Z0v e
  omega
 rw[this]
 rfl
def Z0w{P:Th->Th->Prop}(h:∀t,Dr t->∃t',P t t'):∃f:Th->Th,∀t,Dr t->P t (f t):=by
 refine Classical.skolem (p:=λt t'=>Dr t->P t t') |>.mp λt=>?_
 by_cases d:Dr t
 ·obtain⟨t',q⟩:=h t d
  exact⟨t',λ_=>q⟩
 ·exact⟨t,λz=>absurd z d⟩
def Z0Q{T:List Th}{f:Th->Th}{s s':Hu.Pt}{r r':P3}(h:∀t∈T,lX (f t) s' r'=lX t s r):bL (T.map f) s' r'=bL T s r:=by
 unfold bL
 rw[List.map_map]
 exact List.map_congr_left λt ht=>h t ht
def Z0x{T:List Th}(hT:T.length<=1000)(hd:∀t∈T,Dr t):∃T':List Th,Ľ (gT 2 (Č (gN 0) (Č (gN 1) ĸ))) Ŀ (ĩ (ā (ė 0) (ā (ċ (Ď bG (Ć 0 (Ć 1 Ĉ)))) Ē))) (T.map Z6) [.no,.no] []=some (T'.map Z6)/\T'.length=T.length/\(∀t∈T',Z0 t.1 t.2=true)/\∀(s:Hu.Pt) (r:P3),bL T' (s.2,s.1) (r.2.1,r.1,r.2.2)=bL T s r:=by
 obtain⟨f,hf⟩:=Z0w (P:=λt t'=>bG [.sh (.str t.1),.sh (.lst (t.2.map .int))]=.ret (.ow (t'.2.map .int))/\t'.1=t.1/\Z0 t'.1 t'.2=true/\∀(s:Hu.Pt) (r:P3),lX t' (s.2,s.1) (r.2.1,r.1,r.2.2)=lX t s r) (by
  rintro ⟨w,xs⟩ ⟨k,rfl,hb⟩
  obtain⟨xs',e1,e2,e3⟩:=Z0P hb
  exact⟨(wd k,xs'),e1,rfl,e2,e3⟩)
 refine⟨T.map f,?_,List.length_map _,λt ht=>?_,λs r=>Z0Q λt ht=>(hf t (hd t ht)).2.2.2 s r⟩
 ·have hc:=Ł (g:=gT 2 (Č (gN 0) (Č (gN 1) ĸ))) (mt:=Ŀ) (me:=ĩ (ā (ė 0) (ā (ċ (Ď bG (Ć 0 (Ć 1 Ĉ)))) Ē))) Z6 (fun t=>Z6 (f t)) (fun ρ=>∃a b,ρ=[a,b]) T [.no,.no] [] ⟨_,_,rfl⟩ (by simp;omega) (by
   rintro t ht ρ ⟨a,b,rfl⟩
   obtain⟨e,e',_,_⟩:=hf t (hd t ht)
   refine⟨[.sh (.str t.1),.sh (.lst (t.2.map .int))],_,[.sh (.str t.1),.sh (.lst (t.2.map .int))],by simp[Z6],rfl,?_,_,_,rfl⟩
   have:Z6 (f t)=.tup [.str t.1,.lst ((f t).2.map .int)]:=by unfold Z6;rw[e']
   rw[this]
   generalize (f t).2.map PV.int=Y at *
   generalize t.2.map PV.int=X at *
   simp[e])
  simpa[Function.comp_def] using hc
 ·obtain⟨t0,h0,rfl⟩:=List.mem_map.mp ht
  exact(hf t0 (hd t0 h0)).2.2.1
def Z0R{T:List Th}(hT:T.length<=1000)(hd:∀t∈T,Dr t):∃T':List Th,Ľ (gT 2 (Č (gN 0) (Č (gN 1) ĸ))) Ŀ (ĩ (ā (ė 0) (ā (ċ (Ď bH (Ć 0 (Ć 1 Ĉ)))) Ē))) (T.map Z6) [.no,.no] []=some (T'.map Z6)/\T'.length=T.length/\(∀t∈T',Z0 t.1 t.2=true)/\∀(s:Hu.Pt) (r:P3),bL T' (s.1+1,s.2+0) r=bL T s r:=by
 obtain⟨f,hf⟩:=Z0w (P:=λt t'=>bH [.sh (.str t.1),.sh (.lst (t.2.map .int))]=.ret (.ow (t'.2.map .int))/\t'.1=t.1/\Z0 t'.1 t'.2=true/\∀(s:Hu.Pt) (r:P3),lX t' (s.1+1,s.2+0) r=lX t s r) (by
  rintro ⟨w,xs⟩ ⟨k,rfl,hb⟩
  obtain⟨xs',e1,e2,e3⟩:=Z1K hb
  exact⟨(wd k,xs'),e1,rfl,e2,e3⟩)
 refine⟨T.map f,?_,List.length_map _,λt ht=>?_,λs r=>Z0Q λt ht=>(hf t (hd t ht)).2.2.2 s r⟩
 ·have hc:=Ł (g:=gT 2 (Č (gN 0) (Č (gN 1) ĸ))) (mt:=Ŀ) (me:=ĩ (ā (ė 0) (ā (ċ (Ď bH (Ć 0 (Ć 1 Ĉ)))) Ē))) Z6 (fun t=>Z6 (f t)) (fun ρ=>∃a b,ρ=[a,b]) T [.no,.no] [] ⟨_,_,rfl⟩ (by simp;omega) (by
   rintro t ht ρ ⟨a,b,rfl⟩
   obtain⟨e,e',_,_⟩:=hf t (hd t ht)
   refine⟨[.sh (.str t.1),.sh (.lst (t.2.map .int))],_,[.sh (.str t.1),.sh (.lst (t.2.map .int))],by simp[Z6],rfl,?_,_,_,rfl⟩
   have:Z6 (f t)=.tup [.str t.1,.lst ((f t).2.map .int)]:=by unfold Z6;rw[e']
   rw[this]
   generalize (f t).2.map PV.int=Y at *
   generalize t.2.map PV.int=X at *
   simp[e])
  simpa[Function.comp_def] using hc
 ·obtain⟨t0,h0,rfl⟩:=List.mem_map.mp ht
  exact(hf t0 (hd t0 h0)).2.2.1
def Z0e{w h:Nat}(hw:1<=w/\w<=20){T:List Th}(hT:T.length<=1000)(hd:∀t∈T,Dr t):∃T':List Th,Ľ (gT 2 (Č (gN 1) (Č (gN 2) ĸ))) Ŀ (ĩ (ā (ė 1) (ā (ċ (Ď iQ (Ć 1 (Ć 2 (Ċ (ą č (Ā 0) (mC (.int 0))) Ĉ))))) Ē))) (T.map Z6) [.sh (.tup [.int (w:Int),.int (h:Int)]),.no,.no] []=some (T'.map Z6)/\T'.length=T.length/\(∀t∈T',Z0 t.1 t.2=true)/\∀(s:Hu.Pt) (r:P3),bL T' ((w:Int)-1-s.1,s.2) (0-r.1,r.2.1,r.2.2)=bL T s r:=by
 obtain⟨f,hf⟩:=Z0w (P:=λt t'=>iQ [.sh (.str t.1),.sh (.lst (t.2.map .int)),.sh (.int (w:Int))]=.ret (.ow (t'.2.map .int))/\t'.1=t.1/\Z0 t'.1 t'.2=true/\∀(s:Hu.Pt) (r:P3),lX t' ((w:Int)-1-s.1,s.2) (0-r.1,r.2.1,r.2.2)=lX t s r) (by
  rintro ⟨w',xs⟩ ⟨k,rfl,hb⟩
  obtain⟨xs',e1,e2,e3⟩:=Z0z hb hw
  exact⟨(wd k,xs'),e1,rfl,e2,e3⟩)
 refine⟨T.map f,?_,List.length_map _,λt ht=>?_,λs r=>Z0Q λt ht=>(hf t (hd t ht)).2.2.2 s r⟩
 ·have hc:=Ł (g:=gT 2 (Č (gN 1) (Č (gN 2) ĸ))) (mt:=Ŀ) (me:=ĩ (ā (ė 1) (ā (ċ (Ď iQ (Ć 1 (Ć 2 (Ċ (ą č (Ā 0) (mC (.int 0))) Ĉ))))) Ē))) Z6 (fun t=>Z6 (f t)) (fun ρ=>∃a b,ρ=[.sh (.tup [.int (w:Int),.int (h:Int)]),a,b]) T [.sh (.tup [.int (w:Int),.int (h:Int)]),.no,.no] [] ⟨_,_,rfl⟩ (by simp;omega) (by
   rintro t ht ρ ⟨a,b,rfl⟩
   obtain⟨e,e',_,_⟩:=hf t (hd t ht)
   refine⟨[.sh (.tup [.int (w:Int),.int (h:Int)]),.sh (.str t.1),.sh (.lst (t.2.map .int))],_,[.sh (.tup [.int (w:Int),.int (h:Int)]),.sh (.str t.1),.sh (.lst (t.2.map .int))],by simp[Z6],rfl,?_,_,_,rfl⟩
   have:Z6 (f t)=.tup [.str t.1,.lst ((f t).2.map .int)]:=by unfold Z6;rw[e']
   rw[this]
   generalize (f t).2.map PV.int=Y at *
   generalize t.2.map PV.int=X at *
   simp[e])
  simpa[Function.comp_def] using hc
 ·obtain⟨t0,h0,rfl⟩:=List.mem_map.mp ht
  exact(hf t0 (hd t0 h0)).2.2.1
def ZI{w h:Nat}(hw:0<w)(T:List Th)(r:P3){p q:Int}(p0:0<=p)(p1:p<w)(q0:0<=q)(q1:q<h):dval (((cP w T r (w*h)).map (·.1)).zip ((cP w T r (w*h)).map (·.2))) (.inr [p,q])=some (vS T r (p,q)):=by
 have ez:∀l:List (DK×PV),(l.map (·.1)).zip (l.map (·.2))=l:=λl=>by
  induction l with
  |nil=>rfl
  |cons a l ih=>simp[ih]
 obtain⟨a,rfl⟩:=Int.eq_ofNat_of_zero_le p0
 obtain⟨b,rfl⟩:=Int.eq_ofNat_of_zero_le q0
 have ha:a<w:=by omega
 have hb:b<h:=by omega
 have e1:(a+b*w) % w=a:=by rw[Nat.add_mul_mod_self_right,Nat.mod_eq_of_lt ha]
 have e2:(a+b*w) / w=b:=by rw[Nat.add_mul_div_right _ _ hw,Nat.div_eq_of_lt ha,Nat.zero_add]
 have hk:a+b*w<w*h:=by
  have:(b+1)*w<=h*w:=Nat.mul_le_mul_right w hb
  rw[Nat.mul_comm w h]
  rw[Nat.add_mul] at this
  omega
 have:=Z1N (w:=w) T r hk
 unfold Zy ig at this
 rw[e1,e2] at this
 rw[ez]
 exact this
def Z0S:M Fl:=(Ĩ 1 (Ď cu (Ċ (ċ (Ď bF (Ć 0 (Ċ (mC (.int 0)) Ĉ)))) (Ċ (mC (.int 9)) Ĉ))))
def Z0T:M Fl:=(Ĩ 2 (Ď lB (Ċ (ċ (Ď bF (Ć 0 (Ċ (mC (.int 1)) Ĉ)))) Ĉ)))
def Z0U:M Fl:=(Ĩ 3 (ŉ [1] 1 (ŏ (ċ (xK (Ā 0) (mP (mC (.int 2))) (mP (mC (.int 6)))))) (gN 1) Ŀ (ċ (Ď cC (Ć 1 (Ċ (gG dG (ā (Ā 0) Ē)) Ĉ))))))
def Z0V:M Fl:=(Ĩ 4 (Ď Ų (Ć 1 (Ć 3 (Ć 2 Ĉ)))))
def Z0W:M Fl:=(Ĩ 5 (Ď Ų (Ć 1 (Ć 3 (Ċ (ċ (Ď oG (Ć 2 Ĉ))) Ĉ)))))
def Z0X:M Fl:=(Ĩ 6 (ŉ [] 2 (ņ 3) (gT 2 (Č (gN 0) (Č (gN 1) ĸ))) Ŀ (ĩ (ā (ė 0) (ā (ċ (Ď bG (Ć 0 (Ć 1 Ĉ)))) Ē)))))
def Z0Y:M Fl:=(Ĩ 7 (Ď Ų (Ċ (ĩ (ā (ą č (Ā 1) (mC (.int 1))) (ā (ą č (Ā 1) (mC (.int 0))) Ē))) (Ć 6 (Ċ (ĩ (ā (ą č (Ā 2) (mC (.int 1))) (ā (ą č (Ā 2) (mC (.int 0))) (ā (ą č (Ā 2) (mC (.int 2))) Ē)))) Ĉ)))))
def Z0Z:M Fl:=(Ĩ 6 (ŉ [1] 2 (ņ 3) (gT 2 (Č (gN 1) (Č (gN 2) ĸ))) Ŀ (ĩ (ā (ė 1) (ā (ċ (Ď iQ (Ć 1 (Ć 2 (Ċ (ą č (Ā 0) (mC (.int 0))) Ĉ))))) Ē)))))
def Z10:M Fl:=(Ĩ 8 (Ď Ų (Ć 1 (Ć 6 (Ċ (ĩ (ā (ą ŀ (mC (.int 0)) (ą č (Ā 2) (mC (.int 0)))) (ā (ą č (Ā 2) (mC (.int 1))) (ā (ą č (Ā 2) (mC (.int 2))) Ē)))) Ĉ)))))
def Z11:M Fl:=(Ĩ 6 (ŉ [] 2 (ņ 3) (gT 2 (Č (gN 0) (Č (gN 1) ĸ))) Ŀ (ĩ (ā (ė 0) (ā (ċ (Ď bH (Ć 0 (Ć 1 Ĉ)))) Ē)))))
def Z0y:M Fl:=(Ĩ 9 (Ď Ų (Ċ (ĩ (ā (gG fu (ā (mC (.int 20)) (ā (ċ (Ģ ġ (ą č (Ā 1) (mC (.int 0))) (mC (.int 1)))) Ē))) (ā (ą č (Ā 1) (mC (.int 1))) Ē))) (Ć 6 (Ć 2 Ĉ)))))
def Z1p:M Fl:=(lA 4 2 (Č (gN 10) (Č (gN 11) ĸ)) iT)
def Z2F:M Fl:=(Ħ (ŝ (mC (.bl true))))
def Z38:vY=(ě Z0S (ě Z0T (ě Z0U (ě Z0V (ě Z0W (ě Z0X (ě Z0Y (ě Z0Z (ě Z10 (ě Z11 (ě Z0y (ě Z1p Z2F)))))))))))):=rfl
def Zk{A B:M Fl}{ρ ρ1:ļ}(h:A ρ=.ok .nx ρ1):ě A B ρ=B ρ1:=by simp[h]
def Z2Q(bs:List Bool):bU (vB bs) (vB bs)=some (.bl false):=by
 have hd:Ŝ (vB bs)=true/\dep (vB bs)<=1:=by
  unfold vB
  cases((List.range bs.length).filter λi=>bs.getD i false).head? <;> simp[oV,Ŝ,aK,dep,su]
 unfold bU pU
 rw[hd.1,sU _ hd.1]
 have:dep (vB bs)<=100:=by omega
 simp[this]
 omega
def Z2R(NS:List PV)(c0 w h:Int)(k0:bF [.sh (.lst NS),.sh (.int 0)]=.ret (.sh (.int c0)))(hs:cu [.sh (.int c0),.sh (.int 9)]=.ret (.sh (.tup [.int w,.int h]))) :
 Z0S [.sh (.lst NS),.no,.no,.no,.no,.no,.no,.no,.no,.no,.no,.no]=.ok .nx [.sh (.lst NS),.sh (.tup [.int w,.int h]),.no,.no,.no,.no,.no,.no,.no,.no,.no,.no]:=by
 simp[Z0S,k0,hs,RV.slot,-Z1i]
def Z2S(NS:List PV)(c1:Int)(S R:PV)(k1:bF [.sh (.lst NS),.sh (.int 1)]=.ret (.sh (.int c1)))(hr:lB [.sh (.int c1)]=.ret (.sh R)) :
 Z0T [.sh (.lst NS),.sh S,.no,.no,.no,.no,.no,.no,.no,.no,.no,.no]=.ok .nx [.sh (.lst NS),.sh S,.sh R,.no,.no,.no,.no,.no,.no,.no,.no,.no]:=by
 simp[Z0T,k1,hr,RV.slot,-Z1i]
def Z2T(NS YS TR:List PV)(S R:PV)(hy:aC NS (some 2) (some 6)=YS)
 (hT:Ľ (gN 1) Ŀ (ċ (Ď cC (Ć 1 (Ċ (gG dG (ā (Ā 0) Ē)) Ĉ)))) YS [.sh S,.no] []=some TR) :
 Z0U [.sh (.lst NS),.sh S,.sh R,.no,.no,.no,.no,.no,.no,.no,.no,.no]=.ok .nx [.sh (.lst NS),.sh S,.sh R,.ow TR,.no,.no,.no,.no,.no,.no,.no,.no]:=by
 simp[Z0U,xJ,hy,hT,RV.slot]
def Z2U(N:P.Slot)(TR:List PV)(S R D:PV)(h:Ų [.sh S,.bw TR,.sh R]=.ret (.sh D)) :
 Z0V [N,.sh S,.sh R,.ow TR,.no,.no,.no,.no,.no,.no,.no,.no]=.ok .nx [N,.sh S,.sh R,.ow TR,.sh D,.no,.no,.no,.no,.no,.no,.no]:=by
 simp[Z0V,h,RV.slot]
def Z2V(N:P.Slot)(TR:List PV)(S R D R' E:PV)(hp:oG [.sh R]=.ret (.sh R'))(h:Ų [.sh S,.bw TR,.sh R']=.ret (.sh E)) :
 Z0W [N,.sh S,.sh R,.ow TR,.sh D,.no,.no,.no,.no,.no,.no,.no]=.ok .nx [N,.sh S,.sh R,.ow TR,.sh D,.sh E,.no,.no,.no,.no,.no,.no]:=by
 simp[Z0W,h,hp,RV.slot]
def Z2W(N:P.Slot)(TR TC:List PV)(S R D E:PV)(h:Ľ (gT 2 (Č (gN 0) (Č (gN 1) ĸ))) Ŀ (ĩ (ā (ė 0) (ā (ċ (Ď bG (Ć 0 (Ć 1 Ĉ)))) Ē))) TR [.no,.no] []=some TC) :
 Z0X [N,.sh S,.sh R,.ow TR,.sh D,.sh E,.no,.no,.no,.no,.no,.no]=.ok .nx [N,.sh S,.sh R,.sh (.lst TR),.sh D,.sh E,.ow TC,.no,.no,.no,.no,.no]:=by
 simp[Z0X,h,RV.slot]
def Z2X(N:P.Slot)(TR TC:List PV)(w h a b c:Int)(D E G:PV)(e:Ų [.sh (.tup [.int h,.int w]),.bw TC,.sh (.tup [.int b,.int a,.int c])]=.ret (.sh G)) :
 Z0Y [N,.sh (.tup [.int w,.int h]),.sh (.tup [.int a,.int b,.int c]),.sh (.lst TR),.sh D,.sh E,.ow TC,.no,.no,.no,.no,.no]=.ok .nx [N,.sh (.tup [.int w,.int h]),.sh (.tup [.int a,.int b,.int c]),.sh (.lst TR),.sh D,.sh E,.ow TC,.sh G,.no,.no,.no,.no]:=by
 simp[Z0Y,e,RV.slot]
def Z2Y(N:P.Slot)(TR TC TM:List PV)(S R D E G:PV)(h:Ľ (gT 2 (Č (gN 1) (Č (gN 2) ĸ))) Ŀ (ĩ (ā (ė 1) (ā (ċ (Ď iQ (Ć 1 (Ć 2 (Ċ (ą č (Ā 0) (mC (.int 0))) Ĉ))))) Ē))) TR [.sh S,.no,.no] []=some TM) :
 Z0Z [N,.sh S,.sh R,.sh (.lst TR),.sh D,.sh E,.ow TC,.sh G,.no,.no,.no,.no]=.ok .nx [N,.sh S,.sh R,.sh (.lst TR),.sh D,.sh E,.ow TM,.sh G,.no,.no,.no,.no]:=by
 simp[Z0Z,h,RV.slot]
def Z2Z(N:P.Slot)(TR TM:List PV)(S D E G B:PV)(a b c:Int)(e:Ų [.sh S,.bw TM,.sh (.tup [.int (0-a),.int b,.int c])]=.ret (.sh B)) :
 Z10 [N,.sh S,.sh (.tup [.int a,.int b,.int c]),.sh (.lst TR),.sh D,.sh E,.ow TM,.sh G,.no,.no,.no,.no]=.ok .nx [N,.sh S,.sh (.tup [.int a,.int b,.int c]),.sh (.lst TR),.sh D,.sh E,.ow TM,.sh G,.sh B,.no,.no,.no]:=by
 simp only[Int.zero_sub] at e
 simp[Z10,e,RV.slot]
def Z30(N:P.Slot)(TR TM TV:List PV)(S R D E G B:PV)(h:Ľ (gT 2 (Č (gN 0) (Č (gN 1) ĸ))) Ŀ (ĩ (ā (ė 0) (ā (ċ (Ď bH (Ć 0 (Ć 1 Ĉ)))) Ē))) TR [.no,.no] []=some TV) :
 Z11 [N,.sh S,.sh R,.sh (.lst TR),.sh D,.sh E,.ow TM,.sh G,.sh B,.no,.no,.no]=.ok .nx [N,.sh S,.sh R,.sh (.lst TR),.sh D,.sh E,.ow TV,.sh G,.sh B,.no,.no,.no]:=by
 simp[Z11,h,RV.slot]
def Z2G(N:P.Slot)(TR TV:List PV)(w h m:Int)(R D E G B V:PV)(hm:fu [.int 20,.int (w+1)]=some (.int m))(e:Ų [.sh (.tup [.int m,.int h]),.bw TV,.sh R]=.ret (.sh V)) :
 Z0y [N,.sh (.tup [.int w,.int h]),.sh R,.sh (.lst TR),.sh D,.sh E,.ow TV,.sh G,.sh B,.no,.no,.no]=.ok .nx [N,.sh (.tup [.int w,.int h]),.sh R,.sh (.lst TR),.sh D,.sh E,.ow TV,.sh G,.sh B,.sh V,.no,.no]:=by
 simp[Z0y,e,hm,RV.slot]
def t37(N O:P.Slot)(w h p q:Int)(R TR:P.Slot)(k1 k2 k3 k4 k5:List DK)(v1 v2 v3 v4 v5:List PV)(bs:List Bool)
 (e1:dval (k1.zip v1) (.inr [p,q])=some (vB bs))(e2:dval (k2.zip v2) (.inr [p,q])=some (vB bs))(e3:dval (k3.zip v3) (.inr [q,p])=some (vB bs))(e4:dval (k4.zip v4) (.inr [w-1-p,q])=some (vB bs))(e5:p<19->dval (k5.zip v5) (.inr [p+1,q])=some (vB bs)) :
 iT [N,.sh (.tup [.int w,.int h]),R,TR,.sh (.cM k1 v1),.sh (.cM k2 v2),O,.sh (.cM k3 v3),.sh (.cM k4 v4),.sh (.cM k5 v5),.sh (.int p),.sh (.int q)]=.ok .nx [N,.sh (.tup [.int w,.int h]),R,TR,.sh (.cM k1 v1),.sh (.cM k2 v2),O,.sh (.cM k3 v3),.sh (.cM k4 v4),.sh (.cM k5 v5),.sh (.int p),.sh (.int q)]:=by
 have ne:=Z2Q bs
 generalize vB bs=V at *
 by_cases hp:p<19
 ·have e5':=e5 hp
  simp[iT,mJ,lq,gP,e1,e2,e3,e4,e5',ne,hp]
 ·simp[iT,mJ,lq,gP,e1,e2,e3,e4,ne,hp]
def Z2H{l:PySem.W.OpenLaw}{w:World}{K:PySem.W.Frag}{mg:Str->Option Value}{fa:Addr}{a:Ei}(T:Tx K mg a)(hfa:mg "law" =some (.ref fa)):∃fd:FuncData,(∀(s:Shared) (v:Value),BindsTo s fd ⟨[v],[]⟩ [("_law_script",v)])/\∀base:Heap,K.In base->base.Ns mainGlobals mg->∃cm,ĥ l.prog w K mg base Ÿ 9 fa fd ["_law_script"] (ű ⟨K,cm⟩ 1 oJ):=by
 have e:=hfa.symm.trans T.Ep.m
 cases e
 exact⟨a.Em,λs v=>T.Ep.bb s [v] rfl,λbase _ _=>⟨_,Ue T⟩⟩
def slI(xs:List Int)(lo hi:Option Int):∃ys:List Int,aC (xs.map PV.int) lo hi=ys.map PV.int/\ys.length<=xs.length:=by
 unfold aC
 exact⟨_,by rw[List.length_map,<-List.map_drop,<-List.map_take],by simp;omega⟩
def Z2I{w h:Nat}(hw:1<=w/\w<=20)(hh:1<=h/\h<=20){m:Nat}(hm:m=min 20 (w+1)){T TC TM TV:List Th}{r r':P3}(N O R TR:P.Slot)
 (hP:∀s,bL T s r'=bL T s r)(hC:∀s:Hu.Pt,bL TC (s.2,s.1) (r.2.1,r.1,r.2.2)=bL T s r)(hM:∀s:Hu.Pt,bL TM ((w:Int)-1-s.1,s.2) (0-r.1,r.2.1,r.2.2)=bL T s r)(hV:∀s:Hu.Pt,bL TV (s.1+1,s.2+0) r=bL T s r) :
 ∃ρ',Z1p [N,.sh (.tup [.int (w:Int),.int (h:Int)]),R,TR,.sh (.cM ((cP w T r (w*h)).map (·.1)) ((cP w T r (w*h)).map (·.2))),.sh (.cM ((cP w T r' (w*h)).map (·.1)) ((cP w T r' (w*h)).map (·.2))),O,.sh (.cM ((cP h TC (r.2.1,r.1,r.2.2) (h*w)).map (·.1)) ((cP h TC (r.2.1,r.1,r.2.2) (h*w)).map (·.2))),.sh (.cM ((cP w TM (0-r.1,r.2.1,r.2.2) (w*h)).map (·.1)) ((cP w TM (0-r.1,r.2.1,r.2.2) (w*h)).map (·.2))),.sh (.cM ((cP m TV r (m*h)).map (·.1)) ((cP m TV r (m*h)).map (·.2))),.no,.no]=.ok .nx ρ':=by
 have e:((cP w T r (w*h)).map (·.1)).map kP=(List.range (w*h)).map λk=>pt (ig w k):=by
  unfold cP
  rw[List.map_map,List.map_map]
  rfl
 obtain⟨ρ',e2,_⟩:=eE (g:=gT 2 (Č (gN 10) (Č (gN 11) ĸ))) (mb:=iT) (λk=>pt (ig w k)) (λ(_:Unit) (_:Nat)=>()) (λ_ ρ=>∃a b,ρ=[N,.sh (.tup [.int (w:Int),.int (h:Int)]),R,TR,.sh (.cM ((cP w T r (w*h)).map (·.1)) ((cP w T r (w*h)).map (·.2))),.sh (.cM ((cP w T r' (w*h)).map (·.1)) ((cP w T r' (w*h)).map (·.2))),O,.sh (.cM ((cP h TC (r.2.1,r.1,r.2.2) (h*w)).map (·.1)) ((cP h TC (r.2.1,r.1,r.2.2) (h*w)).map (·.2))),.sh (.cM ((cP w TM (0-r.1,r.2.1,r.2.2) (w*h)).map (·.1)) ((cP w TM (0-r.1,r.2.1,r.2.2) (w*h)).map (·.2))),.sh (.cM ((cP m TV r (m*h)).map (·.1)) ((cP m TV r (m*h)).map (·.2))),a,b]) (List.range (w*h)) (by
  rintro k hk _ ρ ⟨a,b,rfl⟩
  rw[List.mem_range] at hk
  have q1:k / w<h:=(Z1S (by omega)).mpr hk
  have p1:k % w<w:=Nat.mod_lt _ (by omega)
  obtain⟨p,hp⟩:∃p,k % w=p:=⟨_,rfl⟩
  obtain⟨q,hq⟩:∃q,k / w=q:=⟨_,rfl⟩
  rw[hq] at q1
  rw[hp] at p1
  have es:pt (ig w k)=.tup [.int (p:Int),.int (q:Int)]:=by unfold pt ig;rw[hp,hq]
  rw[es]
  have f1:=ZI (w:=w) (h:=h) (by omega) T r (p:=p) (q:=q) (by omega) (by omega) (by omega) (by omega)
  have f2:=ZI (w:=w) (h:=h) (by omega) T r' (p:=p) (q:=q) (by omega) (by omega) (by omega) (by omega)
  have f3:=ZI (w:=h) (h:=w) (by omega) TC (r.2.1,r.1,r.2.2) (p:=q) (q:=p) (by omega) (by omega) (by omega) (by omega)
  have f4:=ZI (w:=w) (h:=h) (by omega) TM (0-r.1,r.2.1,r.2.2) (p:=(w:Int)-1-p) (q:=q) (by omega) (by omega) (by omega) (by omega)
  have f5:(p:Int)<19->_:=λz=>ZI (w:=m) (h:=h) (by omega) TV r (p:=(p:Int)+1) (q:=q) (by omega) (by omega) (by omega) (by omega)
  unfold vS at f1 f2 f3 f4 f5
  rw[hP] at f2
  have hC':=hC ((p:Int),(q:Int))
  have hM':=hM ((p:Int),(q:Int))
  have hV':=hV ((p:Int),(q:Int))
  dsimp only at hC' hM' hV'
  rw[Int.add_zero] at hV'
  rw[hC'] at f3
  rw[hM'] at f4
  rw[hV'] at f5
  exact⟨_,_,by simp,t37 N O w h p q R TR _ _ _ _ _ _ _ _ _ _ _ f1 f2 f3 f4 f5,_,_,rfl⟩) () _ ⟨.no,.no,rfl⟩
 refine⟨ρ',?_⟩
 rw[<-e] at e2
 rw[<-e2]
 rfl
def Z1O(ns:List Int)(hn:ns.length<=63):oJ [.sh (.lst (ns.map .int))]=.ret (.sh (.bl true)):=by
 have k0:bF [.sh (.lst (ns.map .int)),.sh (.int 0)]=.ret (.sh (.int (ns.getD 0 0))):=Z0r ns 0
 have k1:bF [.sh (.lst (ns.map .int)),.sh (.int 1)]=.ret (.sh (.int (ns.getD 1 0))):=Z0r ns 1
 obtain⟨w,h,hs,w1,w2,h1,h2,wh⟩:=Z1G (ns.getD 0 0)
 obtain⟨r,hr,rb,rz⟩:=Z2y (ns.getD 1 0)
 obtain⟨ys,hy,hyl⟩:=slI ns (some 2) (some 6)
 obtain⟨T,hT,hTl,hTd⟩:=Z0t ⟨w1,w2⟩ ⟨h1,h2⟩ ys [] .no (by simp;omega)
 rw[List.nil_append] at hT
 have hTg:∀t∈T,Z0 t.1 t.2=true:=λt ht=>Z2d (hTd t ht)
 have t1:T.length<=1000:=by omega
 obtain⟨k,r',hp,kp,a1,a2,a3,rb',rz'⟩:=Z1L rb rz
 obtain⟨TC,c1,c2,c3',c4⟩:=Z0x t1 hTd
 obtain⟨TM,m1,m2,m3,m4⟩:=Z0e (h:=h) ⟨w1,w2⟩ t1 hTd
 obtain⟨TV,v1,v2,v3,v4⟩:=Z0R t1 hTd
 have rbC:RB (r.2.1,r.1,r.2.2):=by unfold RB at rb ⊢;dsimp only;omega
 have rbM:RB (0-r.1,r.2.1,r.2.2):=by unfold RB at rb ⊢;dsimp only;omega
 obtain⟨m,hm⟩:∃m,m=min 20 (w+1):=⟨_,rfl⟩
 have hmI:fu [.int 20,.int ((w:Int)+1)]=some (.int (m:Int)):=by
  have:((m:Nat):Int)=if(w:Int)+1<20 then(w:Int)+1 else 20:=by split<;>omega
  rw[this]
  simp
 have mh:m*h<=1000:=by
  have:=Nat.mul_le_mul (show m<=20 by omega) h2
  omega
 have D1:=ZH ⟨w1,w2⟩ ⟨h1,h2⟩ (by omega) t1 hTg rb rz (sl:=.bw (T.map Z6)) (.inr rfl)
 have D2:=ZH ⟨w1,w2⟩ ⟨h1,h2⟩ (by omega) t1 hTg rb' rz' (sl:=.bw (T.map Z6)) (.inr rfl)
 have D3:=ZH ⟨h1,h2⟩ ⟨w1,w2⟩ (by rw[Nat.mul_comm];omega) (by omega) c3' rbC rz (sl:=.bw (TC.map Z6)) (.inr rfl)
 have D4:=ZH ⟨w1,w2⟩ ⟨h1,h2⟩ (by omega) (by omega) m3 rbM rz (sl:=.bw (TM.map Z6)) (.inr rfl)
 have D5:=ZH (w:=m) ⟨by omega,by omega⟩ ⟨h1,h2⟩ mh (by omega) v3 rb rz (sl:=.bw (TV.map Z6)) (.inr rfl)
 have hl:oJ [.sh (.lst (ns.map .int))]=FR.of (vY [.sh (.lst (ns.map .int)),.no,.no,.no,.no,.no,.no,.no,.no,.no,.no,.no]):=rfl
 have ec:c3 r=.tup [.int r.1,.int r.2.1,.int r.2.2]:=rfl
 obtain⟨ρ',lp⟩:=Z2I ⟨w1,w2⟩ ⟨h1,h2⟩ hm (T:=T) (TC:=TC) (TM:=TM) (TV:=TV) (r:=r) (r':=r') (.sh (.lst (ns.map .int))) (.ow (TV.map Z6)) (.sh (c3 r)) (.sh (.lst (T.map Z6))) (λs=>by
  unfold bL
  exact List.map_congr_left λt ht=>Z2C (hTg t ht) kp s a1 a2 a3) (λs=>c4 s r) (λs=>m4 s r) (λs=>v4 s r)
 rw[hl,Z38,Zk (Z2R _ _ _ _ k0 hs),Zk (Z2S _ _ _ _ k1 hr),Zk (Z2T _ _ _ _ _ hy hT),Zk (Z2U _ _ _ _ _ D1),Zk (Z2V _ _ _ _ _ _ _ hp D2),Zk (Z2W _ _ _ _ _ _ _ c1),ec,Zk (Z2X _ _ _ w h r.1 r.2.1 r.2.2 _ _ _ D3),Zk (Z2Y _ _ _ _ _ _ _ _ _ m1),Zk (Z2Z _ _ _ _ _ _ _ _ r.1 r.2.1 r.2.2 D4),<-ec,Zk (Z30 _ _ _ _ _ _ _ _ _ _ v1),Zk (Z2G _ _ _ _ _ _ _ _ _ _ _ _ hmI D5),Zk lp]
 rfl
def Z39{l:PySem.W.OpenLaw}{q:Program}{loose:List Str}{XP:(Str->Option Value)->Heap->Prop}{YP:World->Heap->Prop}{d:DefRec}{K:Params->PySem.W.Frag}(hn:l.most=some 63)(hdf:d.params.defaults=[])
 (hY:∀(w:World) (h:Heap),YP w h->(K w.params).In h)
 (F:∀(w:World) (mg:Str→Option Value) (fa:Addr) (h:Heap),(K w.params).In h→h.Ns mainGlobals mg→mg d.name=some (.ref fa)→
   ∃fd:FuncData,(∀(s:Shared) (u:Value),BindsTo s fd ⟨[u],[]⟩ [("_law_script",u)])/\∀base:Heap,(K w.params).In base->base.Ns mainGlobals mg->∃cm,ĥ l.prog w (K w.params) mg base Ÿ 9 fa fd ["_law_script"] (ű ⟨K w.params,cm⟩ 1 oJ)) :
 PySem.W.WalkO q loose XP YP l.row.toRowW d [] (λf vs=>PySem.call f vs):=
 P.Cg (k:=9) (x:= "_law_script") (CX:=Ÿ) (m:=oJ) hn hdf ⟨rfl,by decide,by decide⟩ hY F Z1O (λ_ _ _ _ z=>z)
end
end T
namespace PySem.W.Fast
def tw17836405923173213690:=0
def tw6304074755170257093:=0
def tw4185493870815385754:=0
def tw15803277386661929617:=0
def tw9349763644544617024:=0
def tw14412778960150972866:=0
def tw14511786855794946465:=0
def tw12331814404911555293:=0
def tw13494927612110789391:=0
def tw16435883804207168228:=0
def tw10123926241242575148:=0
def tw1900276627677383902:=0
def tw10768081778398188646:=0
def tw17612015557835715003:=0
def tw9883480148439307765:=0
def tw11165338716288365807:=0
def tw2028239500695884309:=0
def tw10387468040519218720:=0
def tw1022593086530107446:=0
def tw10762018721200726757:=0
def tw3918548174925772853:=0
def tw571329746354483488:=0
def tw434954887846012356:=0
def tw17971866098753337564:=0
def tw2218636662958811450:=0
def tw4209585459069302766:=0
def tw4228549606641172548:=0
def tw9921230908874478537:=0
def tw9139155403223991797:=0
def tw10583230201935124210:=0
def tw7542210057589759313:=0
def tw12498187787241766481:=0
def tw2678899972268059549:=0
def tw13160773283080888919:=0
def tw14414647612090777992:=0
def tw6250576565520952920:=0
def tw7041945101399006643:=0
def tw12934905412972025284:=0
def tw417702563300560191:=0
def tw1067768029096873536:=0
def tw16173632172777912146:=0
def tw1215472444175541853:=0
def tw2993198725092187312:=0
def tw12334832527672196393:=0
def tw9228529309323366097:=0
def tw16348788882983015792:=0
def tw14040664458206715507:=0
def tw9442119157599358181:=0
def tw7567405117888749616:=0
def tw857890594981652456:=0
def tw17297888832562859589:=0
def tw1304784293621617480:=0
def tw7876398058847742983:=0
def tw15351567564865678783:=0
def tw18216999136963213685:=0
def tw15580053779578719309:=0
def tw16682592555246858078:=0
def tw15382497030158130151:=0
def tw3277440887807829402:=0
def tw13213196224957548703:=0
def tw12295163985440253607:=0
def tw14491953610796381014:=0
def tw11846492544601801550:=0
def tw9560626744713797699:=0
def tw7336550439643699451:=0
def tw16230925472744229073:=0
def tw17676161830723513543:=0
def tw5193263614837942304:=0
def tw12922986618269621468:=0
def tw7731352000569253863:=0
def tw14897621245271597051:=0
def tw9097902217099097181:=0
def tw8994944797238554123:=0
def tw1470483585246838402:=0
def tw7695899351226705462:=0
def tw17026485310518534451:=0
def tw4748348984983509684:=0
def tw17287198144576473845:=0
def tw8881966752042516739:=0
def tw1811682749517698848:=0
def tw3787242237610055454:=0
def tw12615486641746497865:=0
def tw5086445083933945349:=0
def tw10695569155851717082:=0
def tw2324527735119005440:=0
def tw16225863835151299621:=0
def tw9476160329906673712:=0
def tw9973654148596422009:=0
def tw13904982152974660519:=0
def tw10952455141070095701:=0
def tw16513085594540321281:=0
def tw14863177828080380763:=0
def tw15947698067549659605:=0
def tw3390798962726295388:=0
def tw17935922028933241773:=0
def tw1732182556280440529:=0
def tw9173260324611759156:=0
def tw15091232706110472785:=0
def tw9975080487017448409:=0
def tw18419488477035062955:=0
def tw3552194105764008291:=0
def tw10750675763312436478:=0
def tw2001012656025298979:=0
def tw10153899994836726389:=0
def tw6797839490128057249:=0
def tw9277531401843476472:=0
def tw3912249138108792120:=0
def tw17650340577334190362:=0
def tw5216687566464352069:=0
def tw7241526517820732577:=0
def tw11051695884015837027:=0
def tw10218452908041469791:=0
def tw12346414775139093342:=0
def tw11938474426893704827:=0
def tw5702852075591794659:=0
def tw11844855852803584890:=0
def tw6142293338905550002:=0
def tw12630707856467507709:=0
def tw3635141636178869202:=0
def tw14287522556026536131:=0
def tw4324870474231123897:=0
def tw1040761944468729806:=0
def tw11771225903800803984:=0
def tw3286249870451312080:=0
def tw9809195869161067573:=0
def tw725782235514820528:=0
def tw16933402742155766097:=0
def tw346483204985923992:=0
def tw11425110443682059979:=0
def tw1317391461722586933:=0
def tw9476664879083124738:=0
def tw715220166049010830:=0
def tw10129860983231342981:=0
def tw7995107171518226446:=0
def tw2633224465991306849:=0
def tw6936812595098201732:=0
def tw9321947648315422176:=0
def tw4638071358712582964:=0
def tw9007586004882574656:=0
def tw5429775873445071470:=0
def tw9607520067645953715:=0
def tw5558171528358547865:=0
def tw5915439836893984441:=0
def tw9368043776776102825:=0
def tw9749346427938203713:=0
def tw16817437977710217592:=0
def tw17866789926384845456:=0
def tw4924061984137412717:=0
def tw12309395524582027877:=0
def tw18053962060077402382:=0
def tw3073919338907442493:=0
def tw14817310267196568388:=0
def tw17122336865009707301:=0
def tw1868767230625429139:=0
def tw1730327317646565463:=0
def tw16509943880166246073:=0
def tw14441080724362487973:=0
def tw4052388196654213719:=0
def tw379499301565228603:=0
def tw16166919146504130504:=0
def tw16885610792908673734:=0
def tw14473969295858729903:=0
def tw5117437189950900899:=0
def tw14089381200195079392:=0
def tw17612523669003114726:=0
def tw12026053118937062601:=0
def tw3581518768987808176:=0
def tw18294700289885043528:=0
def tw3811059649858420565:=0
def tw3877975436844398338:=0
def tw14380229006641653006:=0
def tw8777201943242717684:=0
def tw16891133369073411391:=0
def tw12971361524751017714:=0
def tw14704877290015004620:=0
def tw6411986662473716230:=0
def tw5581738880303611432:=0
def tw16810244195556095938:=0
def tw14112454898868180127:=0
def tw4837619573721377493:=0
def tw11274938141024742191:=0
def tw107124291291355994:=0
def tw15327004747039427835:=0
def tw13083905911122113061:=0
def tw1301641215855813049:=0
def tw1027932667579121397:=0
def tw11925033509607187946:=0
def tw550462914724439089:=0
def tw1743246871536281827:=0
def tw15133085262918408528:=0
def tw11143190490553223760:=0
def tw12589242218180677804:=0
def tw5996947773679687338:=0
def tw6881067000417052455:=0
def tw329579380572758320:=0
def tw11064236224465441621:=0
def tw4793577793312740266:=0
def tw17791032200471696161:=0
def tw16444117605029426615:=0
def tw12571424634251345708:=0
def tw4134608224032407095:=0
def tw2516166034756574977:=0
def tw2289164515842885473:=0
def tw7826903640108384080:=0
def tw7943301395142094984:=0
def tw6413802128569193010:=0
def tw4663051309946101766:=0
def tw6360692453685037489:=0
def tw12093562227740881024:=0
def tw18353232313195562527:=0
def tw15486254467834186274:=0
def tw1492035106483645660:=0
def tw13092986484324973970:=0
def tw16355053781860529192:=0
def tw4746005417393625118:=0
def tw17307603632413891039:=0
def tw11386947931911886507:=0
def tw8801784055966994834:=0
def tw14160261320835166985:=0
def tw12201246926743153272:=0
def tw16628985159428218791:=0
def tw275714647156923696:=0
def tw5434879096685397663:=0
def tw9556916358925846744:=0
def tw10800580859307598538:=0
def tw8330001517672109842:=0
def tw3159182557773645069:=0
def tw9238469298231524052:=0
def tw3013694382749646693:=0
def tw3945842617645271859:=0
def tw7065019113251465246:=0
def tw11744869188532893247:=0
def tw9060336201044115236:=0
def tw7888085093563481182:=0
def tw15099458035872954974:=0
def tw13328406841711671481:=0
def tw14831827781001163846:=0
def tw2187441357968097385:=0
def tw6022411164544395298:=0
def tw11141564725007610986:=0
def tw14722985982670332131:=0
def tw7253938336511872301:=0
def tw8425491593706081467:=0
def tw15092260807775110593:=0
def tw17183458769596514385:=0
def tw2964264457257582813:=0
def tw1379274105307378775:=0
def tw16857041377262114465:=0
def tw6349492738463350672:=0
def tw12102875380368679607:=0
def tw14375827229374491846:=0
def tw11730369115167146468:=0
def tw2533077888789441600:=0
def tw11680245680171248695:=0
def tw1377354416003865074:=0
def tw11409612684203171795:=0
def tw14465391456421785853:=0
def tw5332377366355521091:=0
def tw7653453072797748225:=0
def tw16700357483026272670:=0
def tw4990477630318112008:=0
def tw5970479684693609276:=0
def tw11565190592439693041:=0
def tw11840387040845214135:=0
def tw10408106288551672200:=0
def tw14700293162795588971:=0
def tw16817950440638746490:=0
def tw2596195928660169968:=0
def tw3765678926031182968:=0
def tw13370307099342544195:=0
def tw6553550527637676364:=0
def tw15982540519248188101:=0
def tw7776165680360573583:=0
def tw16894762536811070198:=0
def tw16189850539532697970:=0
def tw6889432726002046600:=0
def tw2342485373141999946:=0
def tw1100487047994589752:=0
def tw1314915075278520707:=0
def tw14771259841589710289:=0
def tw18341781713893006513:=0
def tw402929755391838361:=0
def tw7564148368535086923:=0
def tw12595854638703687697:=0
def tw655159359218507035:=0
def tw1069059958109948702:=0
def tw6179390722155775593:=0
def tw8177088575616528408:=0
def tw18065618933429939582:=0
def tw2179542477266011806:=0
def tw18342873700431284305:=0
def tw11843499951344978125:=0
def tw8682128001534891572:=0
def tw13224198816521322462:=0
def tw4018682963430237321:=0
def tw16812002269665305073:=0
def tw6426468143538150721:=0
def tw620354048135369493:=0
def tw3676132542723470510:=0
def tw9328502573554091438:=0
def tw4674691995908475248:=0
def tw9392765156433699909:=0
def tw5504613656837003176:=0
def tw11639119228818338377:=0
def tw15208441049147986408:=0
def tw12382530057143601545:=0
def tw8621567313386688486:=0
def tw3956857376511235741:=0
def tw13902202457793197354:=0
def tw16648342084588621350:=0
def tw1838772958281092028:=0
def tw4190264275778846121:=0
def tw7514641212335998657:=0
def tw12458961489202239405:=0
def tw6441314947510058811:=0
def tw9496819905628299611:=0
def tw10640263550470612606:=0
def tw10889149368000462315:=0
def tw9111969446530671865:=0
def tw6272609193078158636:=0
def tw11797558408173271383:=0
def tw9911976414459635132:=0
def tw12893591549088041511:=0
def tw11962744731434772100:=0
def tw16924324758675854649:=0
def tw14061809539504637266:=0
def tw19186160630575279:=0
def tw10535690056579644088:=0
def tw17300591759727578753:=0
def tw7849293166288599427:=0
def tw10880227593576440917:=0
def tw1983474237403679268:=0
def tw4908244816581523996:=0
def tw16020656970143079059:=0
def tw8482046025587779402:=0
def tw9866243593626196081:=0
def tw8816384422250124739:=0
def tw13013394830532798276:=0
def tw13455760840543562539:=0
def tw5940887876069906919:=0
def tw9842493388017280585:=0
def tw521594641407488383:=0
def tw6266620125218848345:=0
def tw14609167893508467822:=0
def tw2785601214580711827:=0
def tw4030209187968811924:=0
def tw12579261557820440940:=0
def tw14731514031838950959:=0
def tw10661964272548246540:=0
def tw8147223153320646813:=0
def tw5436788064896538230:=0
def tw5548367906881440167:=0
def tw5739910685645185564:=0
def tw16169797580637082441:=0
def tw7695908598288645672:=0
def tw8277681400833501714:=0
def tw8430990482962668685:=0
def tw10452334812727910408:=0
def tw3685635017570552651:=0
def tw16713709510911696906:=0
def tw10549347962180069264:=0
def tw1620052296202797909:=0
def tw17963124462681159914:=0
def tw12645086030308960461:=0
def tw10954137296859504391:=0
def tw3968122233086475932:=0
def tw2006060433603264052:=0
def tw14661462784336062240:=0
def tw12383509446325353314:=0
def tw7778813570352298077:=0
def tw14113614429281413488:=0
def tw1407404785819373938:=0
def tw16306168045235189982:=0
def tw14068514317806108153:=0
def tw8668306262777913910:=0
def tw5403194400612648260:=0
def tw14270674015806553336:=0
def tw13808128915584309228:=0
def tw18033875123967508355:=0
def tw6873123327797971005:=0
def tw12386925569679911514:=0
def tw1297263545294369104:=0
def tw5171389099606864045:=0
def tw11517478338889071936:=0
def tw16389187314963820930:=0
def tw17825048636528869003:=0
def tw4841080712380163396:=0
def tw14278293714855534110:=0
def tw13360288740758605697:=0
def tw9849775873525575595:=0
def tw9786292221597114117:=0
def tw15833789759843676901:=0
def tw15129957664738117583:=0
def tw4184048042692767951:=0
def tw12374921457262026297:=0
def tw1142044353011854593:=0
def tw11530896297727866501:=0
def tw67640584144591186:=0
def tw2403946925769330425:=0
def tw2294712060555271878:=0
def tw10230572954085040662:=0
def tw4603554306467032550:=0
def tw14929921703897822342:=0
def tw4314356128341720470:=0
def tw4339692795284385234:=0
def tw12751012040786243968:=0
def tw17332095856298715926:=0
def tw8668338779498663261:=0
def tw1551345655541152670:=0
def tw15647277600652291344:=0
def tw16128760957498144558:=0
def tw12260944986100492321:=0
def tw2020071028273624624:=0
def tw10647307719575169415:=0
def tw5293134948703902718:=0
def tw298322232531731203:=0
def tw16841254204710907494:=0
def tw16340170022131456451:=0
def tw14699324801533273566:=0
end PySem.W.Fast
open PySem PySem.W PyProof.Rows
set_option maxRecDepth 100000 in
set_option maxHeartbeats 0 in
theorem PySem.Challenge.cw_shadowpost_k37_whole_turned_yards_holds : PySem.Challenge.rw_shadowpost_k37_whole_turned_yards.Holds := by
 w_on;o_law;k_head;(case hw=>w_witness2)
 k_fill
 refine T.Z39 (l:=PySem.Challenge.rw_shadowpost_k37_whole_turned_yards) rfl rfl (λw h Y=>by first|exact PySem.W.kIn_of Y|exact PySem.W.km_in_of Y) ?F
 case F=>
  intro w mg fa h KX G hmg
  refine' T.Z2H (a:=T.Ei.mk) (T.Tx.mk (mg_of KX G ?_) (mg_of KX G ?_) (mg_of KX G ?_) (mg_of KX G ?_) (mg_of KX G ?_) (mg_of KX G ?_) (mg_of KX G ?_) (P.ĳ KX G (λ_ _ _ _ _ _ _ _=>rfl) ?_ ?_ ?_ ?_) (P.ĳ KX G (λ_ _ _ _ _ _ _ _=>rfl) ?_ ?_ ?_ ?_) (P.ĳ KX G (λ_ _ _ _ _ _ _=>rfl) ?_ ?_ ?_ ?_) (P.kY (λ_ _ _ _ _ _ _ _ _ _ _=>rfl) ?_ ?_ ?_ ?_) (P.ĳ KX G (λ_ _ _ _ _ _ _=>rfl) ?_ ?_ ?_ ?_) (P.ĳ KX G (λ_ _ _ _ _ _ _=>rfl) ?_ ?_ ?_ ?_) (P.ĳ KX G (λ_ _ _ _ _ _ _ _=>rfl) ?_ ?_ ?_ ?_) (P.ĳ KX G (λ_ _ _ _ _ _ _ _=>rfl) ?_ ?_ ?_ ?_) (P.ĳ KX G (λ_ _ _ _ _ _ _=>rfl) ?_ ?_ ?_ ?_) (P.ĳ KX G (λ_ _ _ _ _ _ _=>rfl) ?_ ?_ ?_ ?_) (P.ĳ KX G (λ_ _ _ _ _ _ _ _=>rfl) ?_ ?_ ?_ ?_) (P.ĳ KX G (λ_ _ _ _ _ _ _ _ _ _ _=>rfl) ?_ ?_ ?_ ?_) (P.ĳ KX G (λ_ _ _ _ _ _ _ _ _ _ _=>rfl) ?_ ?_ ?_ ?_) (P.kY (λ_ _ _ _ _ _ _=>rfl) ?_ ?_ ?_ ?_) (P.kY (λ_ _ _ _ _ _ _=>rfl) ?_ ?_ ?_ ?_) (P.kY (λ_ _ _ _ _ _ _=>rfl) ?_ ?_ ?_ ?_) (P.kY (λ_ _ _ _ _ _ _=>rfl) ?_ ?_ ?_ ?_) (P.kY (λ_ _ _ _ _ _ _=>rfl) ?_ ?_ ?_ ?_) (P.ĳ KX G (λ_ _ _ _ _ _ _ _=>rfl) ?_ ?_ ?_ ?_) (P.ĳ KX G (λ_ _ _ _ _ _ _ _=>rfl) ?_ ?_ ?_ ?_) (P.ĳ KX G (λ_ _ _ _ _ _ _ _ _ _=>rfl) ?_ ?_ ?_ ?_) (P.ĳ KX G (λ_ _ _ _ _ _ _ _ _=>rfl) ?_ ?_ ?_ ?_) (P.ĳ KX G (λ_ _ _ _ _ _ _ _=>rfl) ?_ ?_ ?_ ?_) (P.ĳ KX G (λ_ _ _ _ _ _ _ _=>rfl) ?_ ?_ ?_ ?_) (P.ĳ KX G (λ_ _ _ _ _ _ _ _=>rfl) ?_ ?_ ?_ ?_) (P.ĳ KX G (λ_ _ _ _ _ _ _ _=>rfl) ?_ ?_ ?_ ?_) (P.ĳ KX G (λ_ _ _ _ _ _ _=>rfl) ?_ ?_ ?_ ?_) (P.ĳ KX G (λ_ _ _ _ _ _ _=>rfl) ?_ ?_ ?_ ?_) (P.ĳ KX G (λ_ _ _ _ _ _ _=>rfl) ?_ ?_ ?_ ?_) (P.kY (λ_ _ _ _ _ _ _ _ _=>rfl) ?_ ?_ ?_ ?_) (P.ĳ KX G (λ_ _ _ _ _ _ _=>rfl) ?_ ?_ ?_ ?_) (P.ĳ KX G (λ_ _ _ _ _ _ _=>rfl) ?_ ?_ ?_ ?_) (P.ĳ KX G (λ_ _ _ _ _ _ _=>rfl) ?_ ?_ ?_ ?_) (P.ĳ KX G (λ_ _ _ _ _ _ _=>rfl) ?_ ?_ ?_ ?_) (P.ĳ KX G (λ_ _ _ _ _ _ _=>rfl) ?_ ?_ ?_ ?_) (P.ĳ KX G (λ_ _ _ _ _ _ _ _=>rfl) ?_ ?_ ?_ ?_) (P.ĳ KX G (λ_ _ _ _ _ _ _ _ _=>rfl) ?_ ?_ ?_ ?_) (P.ĳ KX G (λ_ _ _ _ _ _ _ _=>rfl) ?_ ?_ ?_ ?_) (P.ĳ KX G (λ_ _ _ _ _ _ _=>rfl) ?_ ?_ ?_ ?_) (P.ĳ KX G (λ_ _ _ _ _ _ _ _=>rfl) ?_ ?_ ?_ ?_) (P.ĳ KX G (λ_ _ _ _ _ _ _ _=>rfl) ?_ ?_ ?_ ?_) (P.ĳ KX G (λ_ _ _ _ _ _ _=>rfl) ?_ ?_ ?_ ?_) (P.ĳ KX G (λ_ _ _ _ _ _ _ _=>rfl) ?_ ?_ ?_ ?_) (P.ĳ KX G (λ_ _ _ _ _ _ _ _ _=>rfl) ?_ ?_ ?_ ?_) (P.ĳ KX G (λ_ _ _ _ _ _ _ _=>rfl) ?_ ?_ ?_ ?_) (P.ĳ KX G (λ_ _ _ _ _ _ _=>rfl) ?_ ?_ ?_ ?_) (mg_of KX G ?_) (mg_of KX G ?_) (mg_none_of KX G ?_) (mg_none_of KX G ?_) (mg_none_of KX G ?_) (mg_none_of KX G ?_) (mg_none_of KX G ?_) (mg_none_of KX G ?_) (mg_none_of KX G ?_) (mg_none_of KX G ?_) (mg_none_of KX G ?_) (mg_none_of KX G ?_) (P.fY ?_) (P.kW ?_) ?_ ?_ (P.fY ?_) (P.kW ?_) ?_ ?_ (P.gJ ?_) (P.fY ?_) (P.kW ?_) ?_ ?_ (P.gJ ?_) (P.fY ?_) (P.kW ?_) ?_ ?_ (P.gJ ?_) (P.fY ?_) (P.kW ?_) ?_ ?_ (P.gJ ?_) (P.fY ?_) (P.kW ?_) ?_ ?_ (P.gJ ?_) (P.fY ?_) (P.kW ?_) ?_ ?_ ?_ ?_) hmg
  any_goals (dsimp only;k_is)
  any_goals first|kernel_rfl|(unfold L2.ĭ;kernel_rfl)
  all_goals skip
