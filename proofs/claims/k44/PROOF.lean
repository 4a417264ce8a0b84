import PyProof.Rows.All
import Wide.All
import OpenK.AllK
import Wide.FinOn
import Lean
import PyProof.EqAt
import PyProof.EqKinds
import PyProof.TupleCall
import PySem.Challenge.RW_shadowpost_k44_whole_kept_yards
set_option Elab.async false
set_option linter.all false
set_option maxRecDepth 100000
set_option maxHeartbeats 4000000
namespace L2
open PySem PySem.Spec PyProof.Rows
abbrev Key:=Sum Int Str
def TY:Key->Value->Bool
 | .inl k,v=>Value.isInt k v
 | .inr x,v=>Value.isStrOf x v
def ZfL(w:World):Key->Int
 | .inl k=>hashInt k
 | .inr x=>hashStr w x
theorem Ų:∀{k:Key} {v:Value},TY k v=true->(∃i t,k=Sum.inl i/\v=Value.int i t)\/(∃x t,k=Sum.inr x/\v=Value.str x t)
 | .inl i,v,h=>by
   obtain⟨t,e⟩:=Value.isInt_shape (k:=i) (v:=v) h
   exact .inl ⟨i,t,rfl,e⟩
 | .inr x,v,h=>by
   obtain⟨t,e⟩:=Value.isStrOf_shape (x:=x) (v:=v) h
   exact .inr ⟨x,t,rfl,e⟩
def ZaN(a b:Int):decide ((Sum.inl a:Key)=Sum.inl b)=(a== b):=by
 by_cases e:a=b
 ·subst e;simp
 ·have h:¬(Sum.inl a:Key)=Sum.inl b:=λq=>e (Sum.inl.inj q)
  rw[decide_eq_false h]
  exact(beq_eq_false_iff_ne.mpr e).symm
def ZaO(a b:Str):decide ((Sum.inr a:Key)=Sum.inr b)=decide (a=b):=by
 by_cases e:a=b
 ·subst e;simp
 ·have h:¬(Sum.inr a:Key)=Sum.inr b:=λq=>e (Sum.inr.inj q)
  rw[decide_eq_false h,decide_eq_false e]
def ZaP(a:Int)(b:Str):decide ((Sum.inl a:Key)=Sum.inr b)=false:=decide_eq_false (λq=>nomatch q)
def ZaQ(a:Str)(b:Int):decide ((Sum.inr a:Key)=Sum.inl b)=false:=decide_eq_false (λq=>nomatch q)
def wC(prog:Program)(w:World):PySem.KeyKind prog w Key where
 is:=TY
 hash:=ZfL w
 inj:=λv a b ha hb=>by
  rcases Ų ha with⟨i,t,rfl,rfl⟩|⟨x,t,rfl,rfl⟩
  ·rcases Ų hb with⟨j,u,rfl,e⟩|⟨y,u,rfl,e⟩
   ·injection e with e1 _;rw[e1]
   ·exact nomatch e
  ·rcases Ų hb with⟨j,u,rfl,e⟩|⟨y,u,rfl,e⟩
   ·exact nomatch e
   ·injection e with e1 _;rw[e1]
 byValue:=λk v h=>by
  rcases Ų h with⟨i,t,rfl,rfl⟩|⟨x,t,rfl,rfl⟩<;>rfl
 pyHash:=λhv h=>by
  rcases Ų hv with⟨i,t,rfl,rfl⟩|⟨x,t,rfl,rfl⟩
  ·exact wpAny_pyHash_int h
  ·exact wpAny_pyHash_str h
 eqBool:=λhu hv h=>by
  rcases Ų hu with⟨i,t,rfl,rfl⟩|⟨x,t,rfl,rfl⟩
  ·rcases Ų hv with⟨j,u,rfl,rfl⟩|⟨y,u,rfl,rfl⟩
   ·rw[ZaN] at h;exact wpAny_eqBool_int h
   ·rw[ZaP] at h;exact SeqAt.EqAt.int_str i t y u _ _ _ _ h
  ·rcases Ų hv with⟨j,u,rfl,rfl⟩|⟨y,u,rfl,rfl⟩
   ·rw[ZaQ] at h;exact SeqAt.EqAt.str_int x t j u _ _ _ _ h
   ·rw[ZaO] at h;exact wpAny_eqBool_str h
 «strs» := fun k x t v h=>by
   rcases Ų h with⟨i,u,rfl,e⟩|⟨y,u,rfl,e⟩
   ·exact nomatch e
   ·injection e with e1 _
    subst e1
    cases v<;>rfl
end L2
namespace L2
open PySem PySem.Spec PyProof.Rows
inductive V where
 |non|bl (b:Bool)|int (i:Int)|str (x:Str)|T_ (b:Array UInt8)|flt (b:UInt64)|ref (a:Addr)|ty (n:String)
 deriving DecidableEq
def RelV:V->Value->Prop
 | .non,u=>u=Value.none
 | .bl b,u=>u=Value.bool b
 | .int i,u=>∃t,u=Value.int i t
 | .str x,u=>∃t,u=Value.str x t
 | .T_ b,u=>∃t,u=Value.bytes b t
 | .flt b,u=>∃t,u=Value.float b t
 | .ref a,u=>u=Value.ref a
 | .ty n,u=>u=Value.type n
abbrev Vals:List V->List Value->Prop:=Paired RelV
theorem Vals.length{xs:List V}{us:List Value}(r:Vals xs us):xs.length=us.length:=Paired.length r
theorem Vals.get:∀{xs:List V} {us:List Value} {i:Nat} {x:V},Vals xs us->xs[i]?=some x->∃u,us[i]?=some u/\RelV x u
 |_,_,_,_,.nil,e=>by simp at e
 |_,_,0,_,.cons r _,e=>by simp at e;subst e;exact⟨_,rfl,r⟩
 |_,_,i+1,x,.cons _ t,e=>by
  obtain⟨u,h1,h2⟩:=Vals.get (i:=i) (x:=x) t (by simpa using e)
  exact⟨u,by simpa using h1,h2⟩
theorem Vals.set{x:V}{u:Value}(r:RelV x u):∀{xs:List V} {us:List Value} (i:Nat),Vals xs us->Vals (xs.set i x) (us.set i u)
 |_,_,_,.nil=>.nil
 |_,_,0,.cons _ t=>.cons r t
 |_,_,i+1,.cons q t=>.cons q (Vals.set r i t)
theorem Vals.append:∀{xs ys:List V} {us ws:List Value},Vals xs us->Vals ys ws->Vals (xs++ys) (us++ws)
 |_,_,_,_,.nil,s=>s
 |_,_,_,_,.cons r t,s=>.cons r (Vals.append t s)
theorem Vals.take:∀{xs:List V} {us:List Value} (n:Nat),Vals xs us->Vals (xs.take n) (us.take n)
 |_,_,0,_=>.nil
 |_,_,_+1,.nil=>.nil
 |_,_,n+1,.cons r t=>.cons r (Vals.take n t)
theorem Vals.drop:∀{xs:List V} {us:List Value} (n:Nat),Vals xs us->Vals (xs.drop n) (us.drop n)
 |_,_,0,r=>r
 |_,_,_+1,.nil=>.nil
 |_,_,n+1,.cons _ t=>Vals.drop n t
def oE:Option V->Option Value->Prop
 |some v,some u=>RelV v u
 |none,none=>True
 |_,_=>False
def KV{κ:Type}:List (κ×V)->List (κ×Value)->Prop:=Paired λ(p:κ×V) (q:κ×Value)=>p.1=q.1/\RelV p.2 q.2
def kV:Key->V
 | .inl i=>.int i
 | .inr x=>.str x
inductive HO where
 /-- a list -/
 |lst (xs:List V)
 /-- a tuple (never changes) -/
 |tup (xs:List V)
 /-- a dict whose keys are ints and texts;one whose keys are tuples of ints and texts (the empty one is both) -/
 |dK (kvs:List (Key×V))|dT (kvs:List (List Key×V))
 /-- a set of ints:its members,its size -/
 |set (S:Int->Bool) (n:Nat)
 /-- an instance of the class at C,its dict at dx,its attributes -/
 |ins (C dx:Addr) (fs:List (Str×V))
 /-- the dict of the instance at x -/
 |own (x:Addr)
 /-- the dict of an exception -/
 |xd (fs:List (Str×V))
 /-- a bound method,f of x -/
 |met (f x:Addr)
 /-- a range object lo,lo+1,.. below hi -/
 |rng (lo hi:Int)
 /-- a thing that is known to the object (the script;a dict while a loop walks it):read,never written while it is so -/
 |h_ (o:Obj) (u:HO)
 /-- a code object's table -/
 |jP (q:Str)
 /-- a code made of such a table,by its name -/
 |Gq (q:Str)
 /-- any other thing,by what is true of its one object (a def of one's own:Zhz a S n:=HO.ext λh=>..) -/
 |ext (φ:Heap->Prop)
abbrev Hp:=Addr->Option HO
def upd(H:Hp)(a:Addr)(o:HO):Hp:=λb=>if b=a then some o else H b
def ĭ{H:Hp}{a:Addr}{o:HO}:upd H a o a=some o:=by unfold upd;rw[if_pos rfl]
def ě{H:Hp}{a b:Addr}{o:HO}(h:b≠a):upd H a o b=H b:=by unfold upd;rw[if_neg h]
def Ĩ{H:Hp}{a b:Addr}{o:HO}(h:H a=some o)(h':H b=none):a≠b:=by
 intro e;subst e;rw[h] at h';cases h'
section
variable(P:Program)(w:World)
def aQ(H:Hp)(h:Heap)(a:Addr):HO->Prop
 | .lst xs=>xs.length<=sizeLine/\∃(its:List Value) (n:Nat),Vals xs its/\h.get? a=some {cls:=.type "list",data:=.seq its.toArray n}
 | .tup xs=>xs.length<=sizeLine/\∃its:List Value,Vals xs its/\IsTup h a its.toArray
 | .dK kvs=>kvs.length<=sizeLine/\(a== sysModules)=false/\∃vs,KV kvs vs/\h.DictOf (wC P w) a vs
 | .dT kvs=>kvs.length≤sizeLine∧(a== sysModules)=false∧∃xs:List (List Key×Addr×Value),
     Paired (λ(p:List Key×V) (q:List Key×Addr×Value)=>p.1=q.1/\H q.2.1=some (.tup (p.1.map kV))/\RelV p.2 q.2.2) kvs xs/\
     ∃o es ep,h.get? a=some o/\o.ExactDict/\o.data=.dict es ep/\es.toList=xs.map (entryOfKey (tupleKind (wC P w)))/\(xs.map (·.1)).Nodup
 | .set S n=>h.SetOf (intKind P w) a S n
 | .ins C dx fs=>H dx=some (.own a)∧fs.length≤1000∧dx≠a∧h.get? a=some (PySem.W.instObj C dx)∧
     ∃mA,h.Ns1 dx mA/\(∀f,oE (fs.lookup f) (mA f))/\PySem.Within mA (fs.map (·.1))
 | .own _=>∃o,h.get? a=some o
 | .xd fs=>∃mA,h.Ns1 a mA/\∀f,oE (fs.lookup f) (mA f)
 | .rng lo hi=>∃t u v,h.get? a=some {cls:=.type "range",data:=.fields #[.int lo t,.int hi u,.int 1 v]}
 | .h_ o u=>h.get? a=some o/\aQ H h a u
 | .jP q=>∃ps:Array Value,h.get? a=some {cls:=.none,data:=.fields ps}/\TriplesOk ps.toList/\∀pos cv,codeAmong pos ps.toList=some cv->∃c,cv=.ref c/\H c=some (.Gq q)
 | .Gq q=>h.CodeRec (.ref a) q
 | .met f x=>h.get? a=some (PySem.W.methodObj (.ref f) (.ref x))
 | .ext φ=>φ h/\(∃o,h.get? a=some o)/\∀h1 h2:Heap,φ h1->(∀o,h1.get? a=some o->h2.get? a=some o)->φ h2
def jK(H:Hp)(h:Heap):Prop:=∀a o,H a=some o->aQ P w H h a o
end
section
variable{P:Program}{w:World}{H H':Hp}{h h':Heap}{a:Addr}{o:HO}
theorem aQ.lt(x:aQ P w H h a o):a<h.objs.size:=by
 cases o with
 |lst xs=>obtain⟨_,_,_,_,e⟩:=x;exact Heap.lt_size e
 |tup xs=>obtain⟨_,_,_,p⟩:=x;exact p.lt
 |dK kvs=>obtain⟨_,_,_,_,o,_,_,e,_⟩:=x;exact Heap.lt_size e
 |dT kvs=>obtain⟨_,_,_,_,o,_,_,e,_⟩:=x;exact Heap.lt_size e
 |set S n=>obtain⟨o,_,_,_,e,_⟩:=x;exact Heap.lt_size e
 |ins C dx fs=>obtain⟨_,_,_,e,_⟩:=x;exact Heap.lt_size e
 |own y=>obtain⟨_,e⟩:=x;exact Heap.lt_size e
 |xd fs=>obtain⟨_,⟨_,_,_,e,_⟩,_⟩:=x;exact Heap.lt_size e
 |rng lo hi=>obtain⟨_,_,_,e⟩:=x;exact Heap.lt_size e
 |h_ ob u=>obtain⟨e,_⟩:=x;exact Heap.lt_size e
 |jP q=>obtain⟨_,e,_⟩:=x;exact Heap.lt_size e
 |Gq q=>obtain⟨c,o,_,_,z,e,_⟩:=x;cases z;exact Heap.lt_size e
 |met f y=>exact Heap.lt_size (show h.get? a=some _ from x)
 |ext φ=>obtain⟨_,⟨_,e⟩,_⟩:=x;exact Heap.lt_size e
theorem Paired.Zdr{α β:Type}{F G:α->β->Prop}:∀{l₁:List α} {l₂:List β},Paired F l₁ l₂->(∀a b,F a b->G a b)->Paired G l₁ l₂
 |_,_,.nil,_=>.nil
 |_,_,.cons r t,f=>.cons (f _ _ r) (Paired.Zdr t f)
def aQ.stay(x:aQ P w H h a o)(k:∀b u,(b=a\/H b=some (.own a))->h.get? b=some u->h'.get? b=some u)
 (ho:∀b,H b=some (.own a)->H' b=some (.own a))(ht:∀b xs,H b=some (.tup xs)->H' b=some (.tup xs))(hc:∀b q,H b=some (.Gq q)->H' b=some (.Gq q):=by exact λ_ _ z=>z):aQ P w H' h' a o:=by
 induction o with
 |lst xs=>obtain⟨z,its,n,r,e⟩:=x;exact⟨z,its,n,r,k _ _ (.inl rfl) e⟩
 |tup xs=>obtain⟨z,its,r,ob,e,c⟩:=x;exact⟨z,its,r,ob,k _ _ (.inl rfl) e,c⟩
 |dK kvs=>obtain⟨z,y,vs,r,ob,es,ep,e,c⟩:=x;exact⟨z,y,vs,r,ob,es,ep,k _ _ (.inl rfl) e,c⟩
 |dT kvs=>
  obtain⟨z,y,xs,r,ob,es,ep,e,c⟩:=x
  exact⟨z,y,xs,Paired.Zdr r λp q z=>⟨z.1,ht _ _ z.2.1,z.2.2⟩,ob,es,ep,k _ _ (.inl rfl) e,c⟩
 |set S n=>obtain⟨ob,es,ep,t,e,c⟩:=x;exact⟨ob,es,ep,t,k _ _ (.inl rfl) e,c⟩
 |ins C dx fs=>
  obtain⟨d,z,ne,e,mA,⟨od,es,ep,e2,c⟩,r⟩:=x
  exact⟨ho _ d,z,ne,k _ _ (.inl rfl) e,mA,⟨od,es,ep,k _ _ (.inr d) e2,c⟩,r⟩
 |own y=>obtain⟨ob,e⟩:=x;exact⟨ob,k _ _ (.inl rfl) e⟩
 |xd fs=>obtain⟨mA,⟨od,es,ep,e,c⟩,r⟩:=x;exact⟨mA,⟨od,es,ep,k _ _ (.inl rfl) e,c⟩,r⟩
 |rng lo hi=>obtain⟨t,u,v,e⟩:=x;exact⟨t,u,v,k _ _ (.inl rfl) e⟩
 |h_ ob u ih=>obtain⟨e,q⟩:=x;exact⟨k _ _ (.inl rfl) e,ih q⟩
 |jP q=>
  obtain⟨ps,e,t,r⟩:=x
  exact⟨ps,k a _ (.inl rfl) e,t,λpos cv z=>let ⟨c,z1,z2⟩:=r pos cv z;⟨c,z1,hc c q z2⟩⟩
 |Gq q=>
  obtain⟨c,o,vs,t,z,e,r⟩:=x
  cases z
  exact⟨a,o,vs,t,rfl,k a _ (.inl rfl) e,r⟩
 |met f y=>
  have e:h.get? a=some (PySem.W.methodObj (.ref f) (.ref y)):=x
  show h'.get? a=some (PySem.W.methodObj (.ref f) (.ref y))
  exact k a _ (.inl rfl) e
 |ext φ=>obtain⟨p,⟨o,e⟩,st⟩:=x;exact⟨st _ _ p λo q=>k _ _ (.inl rfl) q,⟨o,k _ _ (.inl rfl) e⟩,st⟩
theorem jK.lt(x:jK P w H h)(e:H a=some o):a<h.objs.size:=(x a o e).lt
def jK.fresh(x:jK P w H h)(e:h.objs.size<=a):H a=none:=by
 cases q:H a with
 |none=>rfl
 |some u=>exact absurd (Nat.lt_of_lt_of_le (x.lt q) e) (Nat.lt_irrefl _)
def jK.kept(x:jK P w H h)(k:∀b u,h.get? b=some u->h'.get? b=some u):jK P w H h':=λa o e=>
 (x a o e).stay (λb u _ q=>k b u q) (λ_ q=>q) λ_ _ q=>q
def jK.laid(x:jK P w H h)(k:∀b u,h.get? b=some u->h'.get? b=some u)(hp:h.objs.size<=a)(new:aQ P w (upd H a o) h' a o):jK P w (upd H a o) h':=λb u e=>by
 have hn:=x.fresh hp
 by_cases hb:b=a
 ·subst hb;rw[ĭ] at e;cases e;exact new
 ·rw[ě hb] at e
  exact(x b u e).stay (λc v _ q=>k c v q) (λc q=>by rw[ě (Ĩ q hn)];exact q) (λc xs q=>by rw[ě (Ĩ q hn)];exact q) λc xs q=>by rw[ě (Ĩ q hn)];exact q
end
def Rd(H:Hp)(a:Addr)(u:HO):Prop:=H a=some u\/∃o,H a=some (.h_ o u)
def Rd.ok{P:Program}{w:World}{H:Hp}{h:Heap}{a:Addr}{u:HO}(r:Rd H a u)(x:jK P w H h):aQ P w H h a u:=by
 rcases r with r|⟨o,r⟩
 ·exact x a u r
 ·obtain⟨_,q⟩:=x a _ r
  exact q
def Mut:Option HO->Prop
 |some (.lst _)=>True
 |some (.dK _)=>True
 |some (.dT _)=>True
 |some (.set _ _)=>True
 |some (.ins _ _ _)=>True
 |some (.ext _)=>True
 |some (.xd _)=>True
 |_=>False
section
variable{P:Program}{w:World}{H:Hp}{h h':Heap}{x e:Addr}{o':HO}
def jK.write(ok:jK P w H h)(mu:Mut (H x))(he:e=x\/H e=some (.own x))(k:∀b u,b≠e->h.get? b=some u->h'.get? b=some u)(heo:∃u,h'.get? e=some u)
 (new:aQ P w (upd H x o') h' x o'):jK P w (upd H x o') h':=λb u q=>by
 have Zds:∀c y,H c=some (.own y)->c≠x:=λc y r z=>by subst z;rw[r] at mu;exact mu
 have ZfM:∀c xs,H c=some (.tup xs)->c≠x:=λc xs r z=>by subst z;rw[r] at mu;exact mu
 have ZfN:∀c q,H c=some (.Gq q)->c≠x:=λc xs r z=>by subst z;rw[r] at mu;exact mu
 by_cases hb:b=x
 ·subst hb;rw[ĭ] at q;cases q;exact new
 ·rw[ě hb] at q
  by_cases hbe:b=e
  ·have q':H b=some (.own x):=by
    rcases he with z|z
    ·exact absurd (hbe.trans z) hb
    ·rw[hbe];exact z
   rw[q] at q';cases q'
   obtain⟨v,hv⟩:=heo
   exact⟨v,by rw[hbe];exact hv⟩
  ·refine(ok b u q).stay (λc v hc r=>k c v ?_ r) (λc r=>by rw[ě (Zds c b r)];exact r) (λc xs r=>by rw[ě (ZfM c xs r)];exact r) λc xs r=>by rw[ě (ZfN c xs r)];exact r
   rcases hc with rfl|hc
   ·exact hbe
   ·rintro rfl
    rcases he with z|z
    ·exact Zds c b hc z
    ·rw[hc] at z;cases z;exact hb rfl
end
structure Un(fs ex:List Addr)(H H':Hp)(h h':Heap):Prop where
 keep:∀b o,h.get? b=some o->H b=none->b∉fs->b∉ex->h'.get? b=some o
 slot:∀b o,h.get? b=some o->H b=none->b∈fs->b∉ex->∃sl,h'.get? b=some {o with slots:=sl}
 free:∀b o,h.get? b=some o->H b=none->b∉ex->H' b=none
 there:∀b o,h.get? b=some o->b∉ex->∃o',h'.get? b=some o'
 tups:∀b xs,H b=some (.tup xs)->H' b=some (.tup xs)
 mK:∀b o u,H b=some (.h_ o u)->H' b=some (.h_ o u)
 jQ:∀b q,H b=some (.jP q)->H' b=some (.jP q)
section
variable{fs fs' ex ex':List Addr}{H H1 H2:Hp}{h h1 h2 h':Heap}{a x e:Addr}{o:HO}
def Un.any(u:Un fs ex H H1 h h1){b:Addr}{ob:Obj}(q:h.get? b=some ob)(n:H b=none)(hx:b∉ex):∃sl,h1.get? b=some {ob with slots:=sl}:=by
 by_cases hb:b∈fs
 ·exact u.slot b ob q n hb hx
 ·exact⟨ob.slots,u.keep b ob q n hb hx⟩
def Un.kept(k:∀b u,h.get? b=some u->h'.get? b=some u):Un fs ex H H h h':=
 ⟨λb ob q _ _ _=>k b ob q,λb ob q _ _ _=>⟨ob.slots,k b ob q⟩,λ_ _ _ n _=>n,λb ob q _=>⟨ob,k b ob q⟩,λ_ _ q=>q,λ_ _ _ q=>q,λ_ _ q=>q⟩
def Un.refl:Un fs ex H H h h:=Un.kept λ_ _ q=>q
def Un.laid(k:∀b u,h.get? b=some u->h'.get? b=some u)(hp:h.objs.size<=a)(hn:H a=none):Un fs ex H (upd H a o) h h' where
 keep:=λb u q _ _ _=>k b u q
 slot:=λb u q _ _ _=>⟨u.slots,k b u q⟩
 free:=λb u q n _=>by rw[ě (Nat.ne_of_lt (Nat.lt_of_lt_of_le (Heap.lt_size q) hp))];exact n
 there:=λb u q _=>⟨u,k b u q⟩
 tups:=λb xs q=>by rw[ě (Ĩ q hn)];exact q
 mK:=λb u xs q=>by rw[ě (Ĩ q hn)];exact q
 jQ:=λb ps q=>by rw[ě (Ĩ q hn)];exact q
def Un.write(mu:Mut (H x))(he:e=x\/H e=some (.own x))(k:∀b u,b≠e->h.get? b=some u->h'.get? b=some u)(heo:∃u,h'.get? e=some u):Un fs ex H (upd H x o) h h':=by
 have hx:∀b,H b=none->b≠x:=λb n z=>by subst z;rw[n] at mu;exact mu
 have hb:∀b,H b=none->b≠e:=λb n z=>by
  subst z
  rcases he with r|r
  ·exact hx b n r
  ·rw[n] at r;cases r
 have hm:∀b u,H b=some u->¬Mut (some u)->b≠x:=λb u q nm z=>by subst z;rw[q] at mu;exact nm mu
 refine⟨λb u q n _ _=>k b u (hb b n) q,λb u q n _ _=>⟨u.slots,k b u (hb b n) q⟩,λb u q n _=>by rw[ě (hx b n)];exact n,λb u q _=>?_,
  λb xs q=>by rw[ě (hm b _ q λz=>z)];exact q,λb u xs q=>by rw[ě (hm b _ q λz=>z)];exact q,λb ps q=>by rw[ě (hm b _ q λz=>z)];exact q⟩
 by_cases hbe:b=e
 ·subst hbe;exact heo
 ·exact⟨u,k b u hbe q⟩
end
def trk(h:Heap)(H:Hp):List Addr:=(List.range h.objs.size).filter λa=>(H a).isSome
def uy(h:Heap)(H:Hp):Heap:=PySem.W.hideAll h (trk h H)
def Iz(h:Heap)(H:Hp):(uy h H).objs.size=h.objs.size:=PySem.W.hideAll_size _ _
def JZ{h:Heap}{H:Hp}{b:Addr}{o:Obj}(e:h.get? b=some o)(n:H b=none):(uy h H).get? b=some o:=
 PySem.W.hideAll_get _ e λhm=>by
  have q:(H b).isSome=true:=(List.mem_filter.mp hm).2
  rw[n] at q;simp at q
def QC{h:Heap}{H:Hp}{b:Addr}{o:Obj}(e:(uy h H).get? b=some o):h.get? b=some o/\H b=none:=by
 have e':h.get? b=some o:=PySem.W.of_hideAll (trk h H) e
 refine⟨e',?_⟩
 cases q:H b with
 |none=>rfl
 |some x=>
  have hm:b∈trk h H:=List.mem_filter.mpr ⟨List.mem_range.mpr (Heap.lt_size e'),by simp[q]⟩
  have z:(uy h H).get? b=none:=PySem.W.hideAll_none (trk h H) hm
  rw[z] at e;cases e
def QD(g h:Heap)(L:Addr):List (Addr×Obj):=(List.range h.objs.size).filterMap λa=>if a=L\/(g.get? a).isSome=true then none else(h.get? a).map λo=>(a,o)
def rest(g h:Heap)(L d:Addr):List (Addr×Obj):=(QD g h L).filter λp=>decide (p.1≠d)
end L2
namespace L2
open PySem PySem.Spec PyProof.Rows
structure Mod(K:PySem.W.Frag)(mg:Str->Option Value)(base:Heap):Prop where
 kin:K.In base
 glob:base.Ns mainGlobals mg
 blt:∃mb,base.Ns builtinsNs mb/\∀x:Str,x≠ "__name__" ->mb x=bootBuiltins x
 nolimit:base.NoLimit
def lams:List Str:=["cheapest"]
abbrev fZ(x:Str):Str:=(x ++ ".<locals>.") ++ "<lambda>"
def TabsOk(K:PySem.W.Frag)(mg:Str->Option Value)(base:Heap)(H:Hp):Prop:=∀x c P,x∈lams->PySem.W.tabIn K x=some (c,P)->PySem.W.CodeHd base c P/\H P=some (.jP (fZ x))/\base.BuiltinsAt mg P
structure Cx where
 prog:Program
 w:World
 K:PySem.W.Frag
 mg:Str->Option Value
 base:Heap
 A:Around
 N:List Str
 s₀:Shared
 H₀:Hp
 env:Env
 outer:List Env
 stack:List Env
 ex:List Addr
 fn:Str->Bool
 calm:Bool
 pn:List (Addr×Obj)
 xe:Value->Shared->Prop
def frs(l:List Env):List Addr:=l.filterMap (·.frame)
abbrev Cx.fs(X:Cx):List Addr:=frs X.outer
def Gs(sc:Scope)(x:Str):Prop:=sc.names.lookup x=some .local\/sc.names.lookup x=some .cell\/sc.names.lookup x=some .free
def Loc(sc:Scope)(x:Str):Prop:=sc.names.lookup x=some .local\/sc.names.lookup x=some .cell
def Look(env:Env)(h:Heap)(m:Str->Option Value)(x:Str)(u:Value):Prop:=
 (env.kindOf x=some .local/\m x=some u)\/((env.kindOf x=some .cell\/env.kindOf x=some .free)/\∃c,env.cells.lookup x=some c/\h.IsCell c (some u))
structure Cx.Ok(X:Cx):Prop where
 mod:Mod X.K X.mg X.base
 kind:X.env.scope.kind=.function
 glob:X.env.globals=mainGlobals
 blt:X.env.builtins=builtinsNs
 above:X.s₀.heap.objs.size<=X.env.locals
 inj:∀x y c,X.env.cells.lookup x=some c->X.env.cells.lookup y=some c->x=y
 has:∀x,(X.env.kindOf x=some .cell\/X.env.kindOf x=some .free)->∃c,X.env.cells.lookup x=some c
 cab:∀x c,X.fn x=true->X.env.cells.lookup x=some c->X.s₀.heap.objs.size<=c
 hd:X.calm=true->X.A.handled=none
 frames:X.A.frames=some X.stack
 stk:X.stack=X.outer\/(X.stack=X.env::X.outer/\X.env.frame=some X.env.locals)
 exf:∀b∈X.ex,b≠X.env.locals/\∀x c,X.env.cells.lookup x=some c->c≠b
 bs:∀b o,X.base.get? b=some o->X.s₀.heap.get? b=some o/\X.H₀ b=none
 Qs:X.base.objs.size<=X.s₀.heap.objs.size
 IK:∀b o,X.base.get? b=some o->b∉X.ex
 QF:∀b∈X.ex,b∉X.fs
 qw:X.s₀.heap.FunFrames X.base X.outer
 frf:∀b∈X.fs,X.H₀ b=none
 tb:TabsOk X.K X.mg X.base X.H₀
structure Inv(X:Cx)(pins:List (Addr×Obj))(σ:List (Option V))(H:Hp)(s:Shared):Prop where
 ok:X.Ok
 os:s.os=X.s₀.os
 bare:AllBare s.gens
 base:Un X.fs X.ex X.H₀ H X.s₀.heap s.heap
 loc:∃m,s.heap.Ns X.env.locals m/\∀(i:Nat) (x:Str) (v:V),X.N[i]?=some x->σ[i]?=some (some v)->Gs X.env.scope x->∃u,RelV v u/\Look X.env s.heap m x u
 cell:∀x c,X.env.cells.lookup x=some c->∃v,s.heap.IsCell c v
 free:H X.env.locals=none
 jy:∀x c,X.env.cells.lookup x=some c->H c=none
 pin:∀p∈X.pn++pins,s.heap.get? p.1=some p.2/\H p.1=none/\p.1≠X.env.locals/\p.1∉X.fs/\∀v,p.2.data≠ .cell v
 hok:jK X.prog X.w H s.heap
 len:σ.length=X.N.length
section
variable{X:Cx}{pins:List (Addr×Obj)}{σ:List (Option V)}{H H':Hp}{s:Shared}{h':Heap}
def Cx.Ok.ZfO(ok:X.Ok){b:Addr}{o:Obj}(e:X.base.get? b=some o):b∉X.fs:=λhb=>by
 have:=(ok.qw.mem hb).1
 rw[e] at this;cases this
theorem Inv.bs(I:Inv X pins σ H s):∀b o,X.base.get? b=some o->s.heap.get? b=some o/\H b=none:=λb o e=>
 ⟨I.base.keep b o (I.ok.bs b o e).1 (I.ok.bs b o e).2 (I.ok.ZfO e) (I.ok.IK b o e),I.base.free b o (I.ok.bs b o e).1 (I.ok.bs b o e).2 (I.ok.IK b o e)⟩
def Inv.bk(I:Inv X pins σ H s):∀b o,X.base.get? b=some o->s.heap.get? b=some o:=λb o e=>(I.bs b o e).1
theorem Inv.tb(I:Inv X pins σ H s):TabsOk X.K X.mg X.base H:=λx c P hx e=>⟨(I.ok.tb x c P hx e).1,I.base.jQ _ _ (I.ok.tb x c P hx e).2.1,(I.ok.tb x c P hx e).2.2⟩
theorem Inv.mod(I:Inv X pins σ H s):Mod X.K X.mg X.base:=I.ok.mod
def Inv.jR(I:Inv X pins σ H s):X.K.In s.heap:=I.ok.mod.kin.keeps I.bk
theorem Inv.nolimit(I:Inv X pins σ H s):s.heap.NoLimit:=I.ok.mod.nolimit.keeps I.bk
theorem Inv.lt(I:Inv X pins σ H s):X.env.locals<s.heap.objs.size:=let ⟨_,hn,_⟩:=I.loc;hn.lt
def Inv.sz(I:Inv X pins σ H s):X.s₀.heap.objs.size<=s.heap.objs.size:=Nat.le_trans I.ok.above (Nat.le_of_lt I.lt)
def Inv.ZfP(I:Inv X pins σ H s){a:Addr}(h:s.heap.objs.size<=a):a∉X.fs:=λhb=>by
 obtain⟨_,o,ho,_⟩:=I.ok.qw.mem hb
 exact absurd (Nat.lt_of_lt_of_le (Heap.lt_size ho) (Nat.le_trans I.sz h)) (Nat.lt_irrefl _)
def Inv.cne(I:Inv X pins σ H s):∀x c,X.env.cells.lookup x=some c->c≠X.env.locals:=λx c e z=>by
 obtain⟨v,o,ho,hd⟩:=I.cell x c e
 obtain⟨m,⟨o',es,ep,ho',hd',_⟩,_⟩:=I.loc
 rw[z,ho'] at ho;cases ho;rw[hd'] at hd;cases hd
theorem Inv.qw(I:Inv X pins σ H s):s.heap.FunFrames X.base X.outer:=by
 have all:∀(l:List Env),(∀b∈frs l,b∈X.fs)->X.s₀.heap.FunFrames X.base l->s.heap.FunFrames X.base l:=by
  intro l
  induction l with
  |nil=>intro _ _;trivial
  |cons env r ih=>
   intro hs hl
   obtain⟨hk,⟨L,o,hf,hn,ho,hd⟩,hr⟩:=hl
   have hL:L∈X.fs:=hs L (by unfold frs;rw[List.filterMap_cons,hf];exact List.mem_cons_self)
   obtain⟨sl,e⟩:=I.base.slot L o ho (I.ok.frf L hL) hL λz=>I.ok.QF L z hL
   exact⟨hk,⟨L,_,hf,hn,e,hd⟩,ih (λb hb=>hs b (by unfold frs;rw[List.filterMap_cons,hf];exact List.mem_cons_of_mem _ hb)) hr⟩
 exact all X.outer (λ_ hb=>hb) I.ok.qw
theorem Inv.stack(I:Inv X pins σ H s):s.heap.FunFrames X.base X.stack:=by
 rcases I.ok.stk with e|⟨e,hf⟩
 ·rw[e];exact I.qw
 ·rw[e]
  obtain⟨m,hn,_⟩:=I.loc
  refine .cons (by rw[I.ok.kind];decide) hf hn ?_ I.qw
  exact Heap.get?_none_of_le (Nat.le_trans I.ok.Qs I.ok.above)
def Inv.rC(I:Inv X pins σ H s):∀b∈frs X.stack,b∈X.env.locals::X.fs:=λb hb=>by
 rcases I.ok.stk with e|⟨e,hf⟩
 ·rw[e] at hb;exact List.mem_cons_of_mem _ hb
 ·rw[e] at hb
  unfold frs at hb
  rw[List.filterMap_cons,hf] at hb
  exact hb
def Inv.qP(I:Inv X pins σ H s):∀b∈frs X.stack,H b=none:=λb hb=>by
 rcases List.mem_cons.mp (I.rC b hb) with e|hb
 ·rw[e];exact I.free
 ·obtain⟨_,o,ho,_⟩:=I.ok.qw.mem hb
  exact I.base.free b o ho (I.ok.frf b hb) λz=>I.ok.QF b z hb
def Inv.step{g':Array GenState}{t':Nat}{d':Drawn}{ch:List Addr}(I:Inv X pins σ H s)
 (hch:∀b∈ch,(b∈X.ex\/X.s₀.heap.objs.size<=b)/\b≠X.env.locals/\(∀x c,X.env.cells.lookup x=some c->c≠b)/\∀p∈X.pn++pins,p.1≠b)
 (keep:∀b o,b≠X.env.locals->b∉X.fs->b∉ch->s.heap.get? b=some o->H b=none->h'.get? b=some o)
 (slot:∀b o,b≠X.env.locals->b∈X.fs->b∉ch->s.heap.get? b=some o->H b=none->∃sl,h'.get? b=some {o with slots:=sl})(free:∀b o,b∉ch->s.heap.get? b=some o->H b=none->H' b=none)
 (there:∀b o,b∉ch->s.heap.get? b=some o->∃o',h'.get? b=some o')
 (tups:∀b xs,H b=some (.tup xs)->H' b=some (.tup xs))(mK:∀b o u,H b=some (.h_ o u)->H' b=some (.h_ o u))(jQ:∀b q,H b=some (.jP q)->H' b=some (.jP q))
 (ns:∀m,s.heap.Ns X.env.locals m->h'.Ns X.env.locals m)(hok:jK X.prog X.w H' h')(hg:AllBare g') :
 Inv X pins σ H' {s with heap:=h',gens:=g',drawn:=d',toks:=t'}:=by
 have neL:∀b o,X.s₀.heap.get? b=some o->b≠X.env.locals:=λb o e=>Nat.ne_of_lt (Nat.lt_of_lt_of_le (Heap.lt_size e) I.ok.above)
 have neC:∀b o,X.s₀.heap.get? b=some o->b∉X.ex->b∉ch:=λb o e hx hb=>by
  rcases(hch b hb).1 with z|z
  ·exact hx z
  ·exact absurd (Nat.lt_of_lt_of_le (Heap.lt_size e) z) (Nat.lt_irrefl _)
 have cellK:∀x c,X.env.cells.lookup x=some c->∀v,s.heap.IsCell c v->h'.IsCell c v:=λx c e v ⟨o,ho,hd⟩=>by
  have nch:c∉ch:=λz=>(hch c z).2.2.1 x c e rfl
  by_cases hc:c∈X.fs
  ·obtain⟨sl,q⟩:=slot c o (I.cne x c e) hc nch ho (I.jy x c e)
   exact⟨_,q,hd⟩
  ·exact⟨o,keep c o (I.cne x c e) hc nch ho (I.jy x c e),hd⟩
 refine⟨I.ok,I.os,hg,⟨λb o e n hb hx=>?_,λb o e n hb hx=>?_,λb o e n hx=>?_,λb o e hx=>?_,λb xs e=>tups b xs (I.base.tups b xs e),λb o xs e=>mK b o xs (I.base.mK b o xs e),λb ps e=>?_⟩,?_,λx c e=>?_,?_,λx c e=>?_,λp hp=>?_,hok,I.len⟩
 ·exact keep b o (neL b o e) hb (neC b o e hx) (I.base.keep b o e n hb hx) (I.base.free b o e n hx)
 ·obtain⟨sl,e1⟩:=I.base.slot b o e n hb hx
  obtain⟨sl',e2⟩:=slot b _ (neL b o e) hb (neC b o e hx) e1 (I.base.free b o e n hx)
  exact⟨sl',e2⟩
 ·obtain⟨o',e1⟩:=I.base.there b o e hx
  exact free b o' (neC b o e hx) e1 (I.base.free b o e n hx)
 ·obtain⟨o',e1⟩:=I.base.there b o e hx
  exact there b o' (neC b o e hx) e1
 ·exact jQ b ps (I.base.jQ b ps e)
 ·obtain⟨m,hn,hl⟩:=I.loc
  refine⟨m,ns m hn,λi x v e1 e2 e3=>?_⟩
  obtain⟨u,r,l⟩:=hl i x v e1 e2 e3
  refine⟨u,r,?_⟩
  rcases l with l|⟨k,c,e,z⟩
  ·exact .inl l
  ·exact .inr ⟨k,c,e,cellK x c e _ z⟩
 ·obtain⟨v,z⟩:=I.cell x c e
  exact⟨v,cellK x c e v z⟩
 ·obtain⟨m,⟨o,_,_,ho,_⟩,_⟩:=I.loc
  exact free _ o (λz=>(hch _ z).2.1 rfl) ho I.free
 ·obtain⟨v,o,ho,hd⟩:=I.cell x c e
  exact free c o (λz=>(hch c z).2.2.1 x c e rfl) ho (I.jy x c e)
 ·obtain⟨e,n,ne,nf,d⟩:=I.pin p hp
  have nch:p.1∉ch:=λz=>(hch p.1 z).2.2.2 p hp rfl
  exact⟨keep p.1 p.2 ne nf nch e n,free p.1 p.2 nch e n,ne,nf,d⟩
def Inv.un{t':Nat}(I:Inv X pins σ H s)(u:Un X.fs [] H H' s.heap h')(hok:jK X.prog X.w H' h'):Inv X pins σ H' {s with heap:=h',toks:=t'}:=by
 obtain⟨m,⟨o,es,ep,ho,r⟩,_⟩:=id I.loc
 obtain⟨sl,hL⟩:=u.any ho I.free (by simp)
 exact I.step (g':=s.gens) (d':=s.drawn) (ch:=[]) (λ_ z=>nomatch z) (λb o _ hb _ e n=>u.keep b o e n hb (by simp)) (λb o _ hb _ e n=>u.slot b o e n hb (by simp)) (λb o _ e n=>u.free b o e n (by simp)) (λb o _ e=>u.there b o e (by simp)) u.tups u.mK u.jQ (λm' hm=>by
  obtain⟨o',es',ep',ho',r'⟩:=hm
  rw[ho] at ho';cases ho'
  exact⟨_,es',ep',hL,r'⟩) hok I.bare
def Inv.call{g':Array GenState}{t':Nat}{d':Drawn}{ch:List Addr}(I:Inv X pins σ H s)(u:Un (frs X.stack) ch H H' s.heap h')(hok:jK X.prog X.w H' h')(hg:AllBare g')
 (hch:∀b∈ch,(b∈X.ex\/X.s₀.heap.objs.size<=b)/\b≠X.env.locals/\(∀x c,X.env.cells.lookup x=some c->c≠b)/\∀p∈X.pn++pins,p.1≠b) :
 Inv X pins σ H' {s with heap:=h',gens:=g',drawn:=d',toks:=t'}:=by
 obtain⟨m,⟨o,es,ep,ho,r⟩,_⟩:=id I.loc
 obtain⟨sl,hL⟩:=u.any ho I.free λz=>(hch _ z).2.1 rfl
 exact I.step (ch:=ch) hch (λb o hL hb hc e n=>u.keep b o e n (λz=>(List.mem_cons.mp (I.rC b z)).elim hL hb) hc) (λb o _ _ hc e n=>u.any e n hc) (λb o hc e n=>u.free b o e n hc) (λb o hc e=>u.there b o e hc) u.tups u.mK u.jQ (λm' hm=>by
  obtain⟨o',es',ep',ho',r'⟩:=hm
  rw[ho] at ho';cases ho'
  exact⟨_,es',ep',hL,r'⟩) hok hg
def Inv.turned{t':Nat}{it:Addr}(I:Inv X pins σ H s)(k:∀b o,b≠it->s.heap.get? b=some o->h'.get? b=some o)(hn:H it=none)(hL:it≠X.env.locals)
 (h1:it∈X.ex\/X.s₀.heap.objs.size<=it)(h2:∀x c,X.env.cells.lookup x=some c->c≠it)(h3:∀p∈X.pn++pins,p.1≠it):Inv X pins σ H {s with heap:=h',toks:=t'}:=by
 have nit:∀b u,H b=some u->b≠it:=λb u e z=>by rw[z,hn] at e;cases e
 refine I.step (g':=s.gens) (d':=s.drawn) (ch:=[it]) (λb hb=>?_) (λb o _ _ hc e _=>k b o (λz=>hc (by simp[z])) e) (λb o _ _ hc e _=>⟨o.slots,k b o (λz=>hc (by simp[z])) e⟩) (λ_ _ _ _ n=>n)
  (λb o hc e=>⟨o,k b o (λz=>hc (by simp[z])) e⟩) (λ_ _ e=>e) (λ_ _ _ e=>e) (λ_ _ e=>e) (λm hm=>?_) (λb u e=>?_) I.bare
 ·have e:b=it:=by simpa using hb
  subst e
  exact⟨h1,hL,h2,h3⟩
 ·obtain⟨o,es,ep,ho,r⟩:=hm
  exact⟨o,es,ep,k _ o (Ne.symm hL) ho,r⟩
 ·refine(I.hok b u e).stay (λc v hc q=>k c v ?_ q) (λ_ q=>q) λ_ _ q=>q
  rcases hc with z|z
  ·rw[z];exact nit b u e
  ·exact nit c _ z
def Inv.tok(I:Inv X pins σ H s)(t:Nat):Inv X pins σ H {s with toks:=t}:=I.un (h':=s.heap) (t':=t) Un.refl I.hok
theorem Inv.kept{t':Nat}(I:Inv X pins σ H s)(k:∀b u,s.heap.get? b=some u->h'.get? b=some u):Inv X pins σ H {s with heap:=h',toks:=t'}:=I.un (Un.kept k) (I.hok.kept k)
theorem Inv.laid{a:Addr}{o:HO}{t':Nat}(I:Inv X pins σ H s)(k:∀b u,s.heap.get? b=some u->h'.get? b=some u)(hp:s.heap.objs.size<=a)(new:aQ X.prog X.w (upd H a o) h' a o) :
 Inv X pins σ (upd H a o) {s with heap:=h',toks:=t'}:=I.un (Un.laid k hp (I.hok.fresh hp)) (I.hok.laid k hp new)
theorem Inv.write{x e:Addr}{o:HO}{t':Nat}(I:Inv X pins σ H s)(mu:Mut (H x))(he:e=x\/H e=some (.own x))(k:∀b u,b≠e->s.heap.get? b=some u->h'.get? b=some u)(heo:∃u,h'.get? e=some u)
 (new:aQ X.prog X.w (upd H x o) h' x o):Inv X pins σ (upd H x o) {s with heap:=h',toks:=t'}:=I.un (Un.write mu he k heo) (I.hok.write mu he k heo new)
def Inv.Gu{lW:List (Addr×Obj)}(I:Inv X pins σ H s)(h:∀p∈lW,s.heap.get? p.1=some p.2/\H p.1=none/\p.1≠X.env.locals/\p.1∉X.fs/\∀v,p.2.data≠ .cell v):Inv X lW σ H s:=
 ⟨I.ok,I.os,I.bare,I.base,I.loc,I.cell,I.free,I.jy,λp hp=>(List.mem_append.mp hp).elim (λz=>I.pin p (List.mem_append_left _ z)) (h p),I.hok,I.len⟩
def zN{N:List Str}(hN:N.Nodup){i j:Nat}{x:Str}(a:N[i]?=some x)(b:N[j]?=some x):i=j:=by
 obtain⟨h1,e1⟩:=List.getElem?_eq_some_iff.mp a
 obtain⟨h2,e2⟩:=List.getElem?_eq_some_iff.mp b
 exact(List.getElem_inj hN).mp (e1.trans e2.symm)
def uP{M:Model}{A:Around}{E:Value->Shared->Prop}{i:Nat}{x:Str}{v:V}{u:Value}{Q:Unit->Shared->Prop}(I:Inv X pins σ H s)(hN:X.N.Nodup)(hi:X.N[i]?=some x)(hx:Loc X.env.scope x)(r:RelV v u)
 (h:∀s',Inv X pins (σ.set i (some v)) H s'->(∃a,Heap.SameBut a s.heap s'.heap/\(a=X.env.locals\/X.env.cells.lookup x=some a))->Q () s')(hf:X.fn x=true\/X.env.scope.names.lookup x=some .local:=by first|exact .inl rfl|exact .inr rfl|assumption):wpAny M A (storeName X.env x u) Q E s:=by
 obtain⟨m,hn,hl⟩:=id I.loc
 have hcls:(X.env.scope.kind== .class || (X.env.scope.kind== .module && X.env.locals != X.env.globals))=false:=by rw[I.ok.kind];rfl
 have Zhn:i < σ.length:=by rw[I.len];exact(List.getElem?_eq_some_iff.mp hi).1
 have cne:=I.cne
 have tracked:∀{a:Addr} {h':Heap},(∃o,s.heap.get? a=some o/\H a=none)->Heap.SameBut a s.heap h'->jK X.prog X.w H h':=fun{a h'} ha hs b ob e=>by
  obtain⟨_,_,hfree⟩:=ha
  refine(I.hok b ob e).stay (λc w' hc q=>(hs.2 c ?_).trans q) (λ_ q=>q) λ_ _ q=>q
  rintro rfl
  rcases hc with rfl|hc
  ·rw[hfree] at e;cases e
  ·rw[hfree] at hc;cases hc
 rcases hx with hk|hk
 ·refine wpAny_storeName_local hk hn (λh' hn' hs=>?_) hcls
  obtain⟨oL,_,_,hoL,_⟩:=id hn
  refine h _ ⟨I.ok,I.os,I.bare,⟨λb o e n hb hx=>?_,λb o e n hb hx=>?_,I.base.free,λb o e hx=>?_,I.base.tups,I.base.mK,I.base.jQ⟩,⟨_,hn',λj y v' e1 e2 e3=>?_⟩,λy c e=>?_,I.free,I.jy,λp hp=>?_,tracked ⟨oL,hoL,I.free⟩ hs,by simpa using I.len⟩ ⟨_,hs,.inl rfl⟩
  ·exact(hs.2 b (Nat.ne_of_lt (Nat.lt_of_lt_of_le (Heap.lt_size e) I.ok.above))).trans (I.base.keep b o e n hb hx)
  ·obtain⟨sl,e1⟩:=I.base.slot b o e n hb hx
   exact⟨sl,(hs.2 b (Nat.ne_of_lt (Nat.lt_of_lt_of_le (Heap.lt_size e) I.ok.above))).trans e1⟩
  ·obtain⟨o',e1⟩:=I.base.there b o e hx
   exact⟨o',(hs.2 b (Nat.ne_of_lt (Nat.lt_of_lt_of_le (Heap.lt_size e) I.ok.above))).trans e1⟩
  ·by_cases hj:j=i
   ·subst hj
    rw[hi] at e1;cases e1
    rw[List.getElem?_set_self Zhn] at e2
    cases e2
    exact⟨u,r,.inl ⟨hk,by simp⟩⟩
   ·rw[List.getElem?_set_ne (Ne.symm hj)] at e2
    obtain⟨u',r',q⟩:=hl j y v' e1 e2 e3
    refine⟨u',r',?_⟩
    rcases q with⟨k,e⟩|⟨k,c,e,z⟩
    ·refine .inl ⟨k,?_⟩
     have:y≠x:=λe=>hj (zN hN e1 (e▸hi))
     simp[this,e]
    ·exact .inr ⟨k,c,e,z.sameBut hs (cne y c e)⟩
  ·obtain⟨w',z⟩:=I.cell y c e
   exact⟨w',z.sameBut hs (cne y c e)⟩
  ·obtain⟨e,n,ne,nf,d⟩:=I.pin p hp
   exact⟨(hs.2 p.1 ne).trans e,n,ne,nf,d⟩
 ·have hfn:X.fn x=true:=by
   rcases hf with z|z
   ·exact z
   ·rw[z] at hk;cases hk
  obtain⟨c,hc⟩:=I.ok.has x (.inl hk)
  obtain⟨w',z⟩:=I.cell x c hc
  refine wpAny_storeName_cell I.ok.kind hk hc z (λh' hc' hs=>?_)
  obtain⟨oc,hoc,ZfQ⟩:=id z
  refine h {s with heap:=h'} ⟨I.ok,I.os,I.bare,⟨λb o e n hb hx=>?_,λb o e n hb hx=>?_,I.base.free,λb o e hx=>?_,I.base.tups,I.base.mK,I.base.jQ⟩,⟨m,hn.sameBut hs (Ne.symm (cne x c hc)),λj y v' e1 e2 e3=>?_⟩,λy c' e=>?_,I.free,I.jy,λp hp=>?_,tracked ⟨oc,hoc,I.jy x c hc⟩ hs,by simpa using I.len⟩ ⟨c,hs,.inr hc⟩
  ·exact(hs.2 b (Nat.ne_of_lt (Nat.lt_of_lt_of_le (Heap.lt_size e) (I.ok.cab x c hfn hc)))).trans (I.base.keep b o e n hb hx)
  ·obtain⟨sl,e1⟩:=I.base.slot b o e n hb hx
   exact⟨sl,(hs.2 b (Nat.ne_of_lt (Nat.lt_of_lt_of_le (Heap.lt_size e) (I.ok.cab x c hfn hc)))).trans e1⟩
  ·obtain⟨o',e1⟩:=I.base.there b o e hx
   exact⟨o',(hs.2 b (Nat.ne_of_lt (Nat.lt_of_lt_of_le (Heap.lt_size e) (I.ok.cab x c hfn hc)))).trans e1⟩
  ·by_cases hj:j=i
   ·subst hj
    rw[hi] at e1;cases e1
    rw[List.getElem?_set_self Zhn] at e2
    cases e2
    exact⟨u,r,.inr ⟨.inl hk,c,hc,hc'⟩⟩
   ·rw[List.getElem?_set_ne (Ne.symm hj)] at e2
    obtain⟨u',r',q⟩:=hl j y v' e1 e2 e3
    refine⟨u',r',?_⟩
    rcases q with q|⟨k,c',e,z'⟩
    ·exact .inl q
    ·refine .inr ⟨k,c',e,z'.sameBut hs ?_⟩
     rintro rfl
     exact hj (zN hN e1 (I.ok.inj _ _ _ e hc▸hi))
  ·by_cases hcc:c'=c
   ·subst hcc;exact⟨_,hc'⟩
   ·obtain⟨w2,z2⟩:=I.cell y c' e
    exact⟨w2,z2.sameBut hs hcc⟩
  ·obtain⟨e,n,ne,nf,d⟩:=I.pin p hp
   refine⟨(hs.2 p.1 ?_).trans e,n,ne,nf,d⟩
   intro q
   rw[q,hoc] at e
   have q':oc=p.2:=Option.some.inj e
   exact d w' (by rw[<-q'];exact ZfQ)
def rD{M:Model}{A:Around}{E:Value->Shared->Prop}{i:Nat}{x:Str}{v:V}{u:Value}{Q:Unit->Shared->Prop}(I:Inv X pins σ H s)(hN:X.N.Nodup)(hi:X.N[i]?=some x)(hx:Loc X.env.scope x)(r:RelV v u)
 (h:∀s',Inv X pins (σ.set i (some v)) H s'->Q () s')(hf:X.fn x=true\/X.env.scope.names.lookup x=some .local:=by first|exact .inl rfl|exact .inr rfl|assumption):wpAny M A (storeName X.env x u) Q E s:=
 uP I hN hi hx r (λs' I' _=>h s' I') hf
def Inv.call'{s':Shared}{ch:List Addr}(I:Inv X pins σ H s)(ho:s'.os=s.os)(u:Un (frs X.stack) ch H H' s.heap s'.heap)(hok:jK X.prog X.w H' s'.heap)(hg:AllBare s'.gens)
 (hch:∀b∈ch,(b∈X.ex\/X.s₀.heap.objs.size<=b)/\b≠X.env.locals/\(∀x c,X.env.cells.lookup x=some c->c≠b)/\∀p∈X.pn++pins,p.1≠b):Inv X pins σ H' s':=by
 obtain⟨h',g',d',t',o'⟩:=s'
 have e:o'=s.os:=ho
 subst e
 exact I.call (g':=g') (t':=t') (d':=d') u hok hg hch
end
abbrev XK:=Value->Option Addr->Hp->Prop
abbrev St:=List (Option V)
abbrev VK:=V->Hp->Prop
abbrev TE:=St->Hp->VK->Prop
abbrev TT:=St->Hp->(Bool->Hp->Prop)->Prop
abbrev TA:=St->Hp->(List V->Hp->Prop)->Prop
structure Ends where
 nx:St->Hp->Prop
 rt:VK
 bk:St->Hp->Prop:=λ_ _=>False
 ct:St->Hp->Prop:=λ_ _=>False
abbrev TS:=Ends->St->Hp->Prop
def EP(X:Cx)(pins:List (Addr×Obj))(σ:St)(Q:VK)(u:Value)(s':Shared):Prop:=∃v H',Inv X pins σ H' s'/\RelV v u/\Q v H'
def TP(X:Cx)(pins:List (Addr×Obj))(σ:St)(Q:Bool->Hp->Prop)(b:Bool)(s':Shared):Prop:=∃H',Inv X pins σ H' s'/\Q b H'
def AP(X:Cx)(pins:List (Addr×Obj))(σ:St)(Q:List V->Hp->Prop)(us:List Value)(s':Shared):Prop:=∃vs H',Inv X pins σ H' s'/\Vals vs us/\Q vs H'
def SP(X:Cx)(pins:List (Addr×Obj))(D:Ends)(f:Flow)(s':Shared):Prop:=
 match f with
 | .next=>∃σ' H',Inv X pins σ' H' s'/\D.nx σ' H'
 | .brk=>∃σ' H',Inv X pins σ' H' s'/\D.bk σ' H'
 | .cont=>∃σ' H',Inv X pins σ' H' s'/\D.ct σ' H'
 | .ret u=>∃v σ' H',Inv X pins σ' H' s'/\RelV v u/\D.rt v H'
def PE(X:Cx)(e:Expr)(t:TE):Prop:=
 ∀(pins:List (Addr×Obj)) (s:Shared) (σ:St) (H:Hp) (Q:VK),Inv X pins σ H s->t σ H Q->wpAny (model X.prog X.w) X.A (eval e X.env) (EP X pins σ Q) X.xe s
def PT(X:Cx)(e:Expr)(t:TT):Prop:=
 ∀(pins:List (Addr×Obj)) (s:Shared) (σ:St) (H:Hp) (Q:Bool->Hp->Prop),Inv X pins σ H s->t σ H Q->wpAny (model X.prog X.w) X.A (isTrue e X.env (eval e X.env)) (TP X pins σ Q) X.xe s
def PW(X:Cx)(e:Expr)(t:TT):Prop:=
 ∀(whole:Sem Value) (pins:List (Addr×Obj)) (s:Shared) (σ:St) (H:Hp) (Q:Bool->Hp->Prop),Inv X pins σ H s->t σ H Q->wpAny (model X.prog X.w) X.A (isTrue e X.env whole) (TP X pins σ Q) X.xe s
def PW.pt{X:Cx}{e:Expr}{t:TT}(h:PW X e t):PT X e t:=h _
def PA(X:Cx)(es:List Expr)(t:TA):Prop:=
 ∀(pos:Pos) (pins:List (Addr×Obj)) (s:Shared) (σ:St) (H:Hp) (Q:List V->Hp->Prop),Inv X pins σ H s->t σ H Q->wpAny (model X.prog X.w) X.A (spliced (backTo pos (starEach es X.env))) (AP X pins σ Q) X.xe s
def PS(X:Cx)(st:Stmt)(t:TS):Prop:=
 ∀(pins:List (Addr×Obj)) (s:Shared) (σ:St) (H:Hp) (D:Ends),Inv X pins σ H s->t D σ H->wpAny (model X.prog X.w) X.A (exec st X.env) (SP X pins D) X.xe s
def mL(X:Cx)(st:List Stmt)(t:TS):Prop:=
 ∀(pins:List (Addr×Obj)) (s:Shared) (σ:St) (H:Hp) (D:Ends),Inv X pins σ H s->t D σ H->wpAny (model X.prog X.w) X.A (execs st X.env) (SP X pins D) X.xe s
def Ŷ{α:Type}{t:Sem α}{Q Q':α->Shared->Prop}{M:Model}{A:Around}{E:Value->Shared->Prop}{s:Shared}(h:wpAny M A t Q E s)(hQ:∀a s,Q a s->Q' a s):wpAny M A t Q' E s:=wpAny_mono h hQ λ_ _ x=>x
end L2
namespace L2
open PySem PySem.Spec PyProof.Rows
section
variable{X:Cx}
def wD(i:Nat):TE:=λσ H Q=>∃v,σ[i]?=some (some v)/\Q v H
def tC(v:V):TE:=λ_ H Q=>Q v H
def i_{i:Nat}{x:Str}{pos:Pos}(hN:X.N[i]?=some x)(hv:Gs X.env.scope x)(hd:(x== ("__debug__" :Str))=false:=by decide)(hcd:(x== ("__classdict__" :Str))=false:=by decide):PE X (.Name x pos) (wD i):=by
 intro pins s σ H Q I h
 obtain⟨v,e,h⟩:=h
 obtain⟨m,hn,hl⟩:=I.loc
 obtain⟨u,r,l⟩:=hl i x v hN e hv
 have fin:EP X pins σ Q u s:=⟨v,H,I,r,h⟩
 rcases l with⟨hk,hm⟩|⟨hk,c,hc,hcell⟩
 ·exact wpAny_Name (wpAny_loadName_local I.ok.kind hk hn hm fin) hd
 ·rcases hk with hk|hk
  ·exact wpAny_Name (wpAny_loadName_cell I.ok.kind hk hc hcell fin) hd
  ·exact wpAny_Name (wpAny_loadName_free I.ok.kind hk hc hcell fin hcd) hd
def ZaR{i j pos}:PE X (.Constant (.int i) j pos) (tC (.int i)):=λ_ _ _ H _ I h=>wpAny_Constant_int ⟨.int i,H,I.tok _,⟨_,rfl⟩,h⟩
def Zdt{b j pos}:PE X (.Constant (.bool b) j pos) (tC (.bl b)):=λ_ _ _ H _ I h=>Constant_bool ⟨.bl b,H,I,rfl,h⟩
def ZaS{j pos}:PE X (.Constant .none j pos) (tC .non):=λ_ _ _ H _ I h=>Constant_none ⟨.non,H,I,rfl,h⟩
def ZaT{x j pos}:PE X (.Constant (.str x) j pos) (tC (.str x)):=λ_ _ _ H _ I h=>Calls.Constant_str ⟨.str x,H,I.tok _,⟨_,rfl⟩,h⟩
def Gl(X:Cx)(x:Str):Prop:=X.env.kindOf x=some .globalImplicit
def nA{E:Value->Shared->Prop}{pins:List (Addr×Obj)}{s:Shared}{σ:St}{H:Hp}{x:Str}{u:Value}{pos:Pos}{Q:Value->Shared->Prop}(I:Inv X pins σ H s)(hg:Gl X x)(hm:X.mg x=some u)(h:Q u s)
 (hd:(x== ("__debug__" :Str))=false:=by decide):wpAny (model X.prog X.w) X.A (eval (.Name x pos) X.env) Q E s:=
 Calls.Name_function_global I.ok.kind hg (Calls.loadGlobal_global (by rw[I.ok.glob];exact I.mod.glob.keeps I.bk) hm h) hd
def mO{E:Value->Shared->Prop}{pins:List (Addr×Obj)}{s:Shared}{σ:St}{H:Hp}{x:Str}{u:Value}{pos:Pos}{Q:Value->Shared->Prop}(I:Inv X pins σ H s)(hg:Gl X x)(hm:X.mg x=none)(hv:bootBuiltins x=some u)(h:Q u s)
 (hn:x≠ "__name__" := by decide)(hd:(x== ("__debug__" :Str))=false:=by decide):wpAny (model X.prog X.w) X.A (eval (.Name x pos) X.env) Q E s:=by
 obtain⟨mb,h1,h2⟩:=I.mod.blt
 exact Calls.Name_function_global I.ok.kind hg (Calls.loadGlobal_builtin (by rw[I.ok.glob];exact I.mod.glob.keeps I.bk) hm (by rw[I.ok.blt];exact h1.keeps I.bk) ((h2 x hn).trans hv) h) hd
def qQ{x:Str}{v:V}{u:Value}{pos:Pos}(hg:Gl X x)(hm:X.mg x=some u)(r:RelV v u)(hd:(x== ("__debug__" :Str))=false:=by decide):PE X (.Name x pos) (tC v):=
 λ_ _ _ H _ I h=>nA I hg hm ⟨v,H,I,r,h⟩ hd
def wF{x:Str}{v:V}{u:Value}{pos:Pos}(hg:Gl X x)(hm:X.mg x=none)(hv:bootBuiltins x=some u)(r:RelV v u)(hn:x≠ "__name__" := by decide)(hd:(x== ("__debug__" :Str))=false:=by decide):PE X (.Name x pos) (tC v):=
 λ_ _ _ H _ I h=>mO I hg hm hv ⟨v,H,I,r,h⟩ hn hd
variable{a b:Expr}{ta tb:TE}{pos:Pos}
variable{tA tB':TT}{rest:List Expr}
def ZfR(t u:TT):TT:=λσ H Q=>t σ H λc H1=>if c=true then u σ H1 Q else Q false H1
def tOr(t u:TT):TT:=λσ H Q=>t σ H λc H1=>if c=true then Q true H1 else u σ H1 Q
def ZfS(t:TT):TT:=λσ H Q=>t σ H λc H1=>Q (!c) H1
def QG(ha:PT X a tA):PW X (.BoolOp .And [a] pos) tA:=by
 intro wh pins s σ H Q I h
 refine isTrue_and (Ŷ (ha pins s σ H Q I h) λc s1 e=>?_)
 cases c with
 |true=>exact isTrue_and_nil e
 |false=>exact e
def ZaU(ha:PT X a tA):PW X (.BoolOp .Or [a] pos) tA:=by
 intro wh pins s σ H Q I h
 refine isTrue_or (Ŷ (ha pins s σ H Q I h) λc s1 e=>?_)
 cases c with
 |false=>exact isTrue_or_nil e
 |true=>exact e
def ZaV(ha:PT X a tA)(hb:PW X (.BoolOp .And (b::rest) pos) tB'):PW X (.BoolOp .And (a::b::rest) pos) (ZfR tA tB'):=by
 intro wh pins s σ H Q I h
 refine isTrue_and (Ŷ (ha pins s σ H _ I h) λc s1 ⟨H1,I1,q1⟩=>?_)
 cases c with
 |true=>exact hb wh pins s1 σ H1 Q I1 q1
 |false=>exact⟨H1,I1,q1⟩
def Zdu(ha:PT X a tA)(hb:PW X (.BoolOp .Or (b::rest) pos) tB'):PW X (.BoolOp .Or (a::b::rest) pos) (tOr tA tB'):=by
 intro wh pins s σ H Q I h
 refine isTrue_or (Ŷ (ha pins s σ H _ I h) λc s1 ⟨H1,I1,q1⟩=>?_)
 cases c with
 |true=>exact⟨H1,I1,q1⟩
 |false=>exact hb wh pins s1 σ H1 Q I1 q1
def ZaW(ha:PT X a tA):PT X (.UnaryOp .Not a pos) (ZfS tA):=by
 intro pins s σ H Q I h
 exact isTrue_not (ha pins s σ H (λc H1=>Q (!c) H1) I h)
def ZaX{op}{t:TE}(h:PE X a t):PE X (.BoolOp op [a] pos) t:=λpins s σ H Q I hw=>BoolOp_one (h pins s σ H Q I hw)
end
end L2
namespace L2
open PySem PySem.Spec PyProof.Rows
def bD(K:PySem.W.Frag)(H:Hp)(a:Addr)(xs:List V):Prop:=
 Rd H a (.lst xs)\/
  ∃(o:Obj) (its:Array Value) (n:Nat),K.lookup a=some o/\o.cls=.type "list" /\o.dict=none/\o.data=.seq its n/\its.size<=sizeLine/\Vals xs its.toList
def iH(K:PySem.W.Frag)(H:Hp)(a:Addr)(xs:List V):Prop:=
 Rd H a (.tup xs)\/
  ∃(o:Obj) (its:Array Value) (n:Nat),K.lookup a=some o/\o.cls=.type "tuple" /\o.data=.seq its n/\its.size<=sizeLine/\Vals xs its.toList
def ZfT:Value->Option V
 | .none=>some .non
 | .bool b=>some (.bl b)
 | .int i _=>some (.int i)
 | .str x _=>some (.str x)
 | .bytes b _=>some (.T_ b)
 | .float b _=>some (.flt b)
 | .ref a=>some (.ref a)
 | .type n=>some (.ty n)
 |_=>none
def RelV.abs{x:V}{u:Value}(r:RelV x u):ZfT u=some x:=by
 cases x with
 |non=>cases r;rfl
 |bl _=>cases r;rfl
 |int _=>obtain⟨t,rfl⟩:=r;rfl
 |str _=>obtain⟨t,rfl⟩:=r;rfl
 |T_ _=>obtain⟨t,rfl⟩:=r;rfl
 |flt _=>obtain⟨t,rfl⟩:=r;rfl
 |ref _=>cases r;rfl
 |ty _=>cases r;rfl
theorem RelV.inj{x y:V}{u:Value}(r:RelV x u)(q:RelV y u):x=y:=Option.some.inj (r.abs.symm.trans q.abs)
theorem Vals.inj:∀{xs ys:List V} {us:List Value},Vals xs us->Vals ys us->xs=ys
 |_,_,_,.nil,.nil=>rfl
 |_,_,_,.cons r t,.cons r' t'=>by rw[r.inj r',Vals.inj t t']
section
variable{X:Cx}{pins:List (Addr×Obj)}{σ:St}{H:Hp}{s:Shared}{a:Addr}{xs ys:List V}
def bD.of{K:PySem.W.Frag}(h:H a=some (.lst xs)):bD K H a xs:=.inl (.inl h)
def iH.of{K:PySem.W.Frag}(h:H a=some (.tup xs)):iH K H a xs:=.inl (.inl h)
def Inv.list(I:Inv X pins σ H s)(h:bD X.K H a xs):∃its:List Value,Vals xs its/\PlainL s.heap a its.toArray/\xs.length<=sizeLine:=by
 rcases h with h|⟨o,its,n,hk,hc,hd,hs,hz,r⟩
 ·obtain⟨z,its,n,r,e⟩:=h.ok I.hok
  exact⟨its,r,⟨_,n,e,rfl,rfl,rfl⟩,z⟩
 ·refine⟨its.toList,r,⟨o,n,I.jR a o hk,hc,hd,by simpa using hs⟩,?_⟩
  have e:=r.length
  simp only[Array.length_toList] at e
  omega
def Inv.tuple(I:Inv X pins σ H s)(h:iH X.K H a xs):∃its:List Value,Vals xs its/\IsTup s.heap a its.toArray/\xs.length<=sizeLine:=by
 rcases h with h|⟨o,its,n,hk,hc,hs,hz,r⟩
 ·obtain⟨z,its,r,p⟩:=h.ok I.hok
  exact⟨its,r,p,z⟩
 ·refine⟨its.toList,r,⟨o,I.jR a o hk,hc,n,by simpa using hs⟩,?_⟩
  have e:=r.length
  simp only[Array.length_toList] at e
  omega
def Inv.rE(I:Inv X pins σ H s)(h:bD X.K H a xs)(h':bD X.K H a ys):xs=ys:=by
 obtain⟨its,r,⟨o,n,e,_,_,d⟩,_⟩:=I.list h
 obtain⟨its',r',⟨o',n',e',_,_,d'⟩,_⟩:=I.list h'
 rw[e] at e';cases e'
 rw[d] at d'
 injection d' with d1 _
 have:its=its':=by simpa using congrArg Array.toList d1
 subst this
 exact r.inj r'
def Inv.uQ(I:Inv X pins σ H s)(h:iH X.K H a xs)(h':iH X.K H a ys):xs=ys:=by
 obtain⟨its,r,⟨o,e,_,n,d⟩,_⟩:=I.tuple h
 obtain⟨its',r',⟨o',e',_,n',d'⟩,_⟩:=I.tuple h'
 rw[e] at e';cases e'
 rw[d] at d'
 injection d' with d1 _
 have:its=its':=by simpa using congrArg Array.toList d1
 subst this
 exact r.inj r'
end
abbrev Cx.wish(X:Cx)(E:Value->Shared->Prop):Cx:={X with xe:=E}
abbrev Cx.bR(X:Cx):Cx:=X.wish λ_ _=>False
theorem Cx.Ok.wish{X:Cx}(ok:X.Ok)(E:Value->Shared->Prop):(X.wish E).Ok:=
 ⟨ok.mod,ok.kind,ok.glob,ok.blt,ok.above,ok.inj,ok.has,ok.cab,ok.hd,ok.frames,ok.stk,ok.exf,ok.bs,ok.Qs,ok.IK,ok.QF,ok.qw,ok.frf,ok.tb⟩
def Cx.Ok.jc{X:Cx}{E:Value->Shared->Prop}(ok:(X.wish E).Ok):X.Ok:=
 ⟨ok.mod,ok.kind,ok.glob,ok.blt,ok.above,ok.inj,ok.has,ok.cab,ok.hd,ok.frames,ok.stk,ok.exf,ok.bs,ok.Qs,ok.IK,ok.QF,ok.qw,ok.frf,ok.tb⟩
section
variable{X:Cx}{pins:List (Addr×Obj)}{σ:St}{H:Hp}{s:Shared}{E:Value->Shared->Prop}
theorem Inv.wish(I:Inv X pins σ H s)(E:Value->Shared->Prop):Inv (X.wish E) pins σ H s:=⟨I.ok.wish E,I.os,I.bare,I.base,I.loc,I.cell,I.free,I.jy,I.pin,I.hok,I.len⟩
theorem Inv.jc(I:Inv (X.wish E) pins σ H s):Inv X pins σ H s:=⟨I.ok.jc,I.os,I.bare,I.base,I.loc,I.cell,I.free,I.jy,I.pin,I.hok,I.len⟩
theorem SP.jc{D:Ends}{f:Flow}{s':Shared}(h:SP (X.wish E) pins D f s'):SP X pins D f s':=by
 cases f with
 |next=>obtain⟨σ',H',I,q⟩:=h;exact⟨σ',H',I.jc,q⟩
 |brk=>obtain⟨σ',H',I,q⟩:=h;exact⟨σ',H',I.jc,q⟩
 |cont=>obtain⟨σ',H',I,q⟩:=h;exact⟨σ',H',I.jc,q⟩
 |ret u=>obtain⟨v,σ',H',I,r,q⟩:=h;exact⟨v,σ',H',I.jc,r,q⟩
theorem PE.bR{e:Expr}{t:TE}(h:PE X.bR e t):PE X e t:=λpins s σ H Q I hw=>
 wpAny_mono (h pins s σ H Q (I.wish _) hw) (λ_ _ ⟨v,H',I',r,q⟩=>⟨v,H',I'.jc,r,q⟩) λ_ _ z=>False.elim z
end
section
variable{X:Cx}{st:Stmt}{rest:List Stmt}{t u:TS}{e:Expr}{te:TE}{pos:Pos}
def Ua:TS:=λD σ H=>D.nx σ H
def Zdv(t u:TS):TS:=λD σ H=>t {D with nx:=u D} σ H
def Gv:mL X [] Ua:=λ_ _ σ H _ I h=>wpAny_execs_nil ⟨σ,H,I,h⟩
def zO(h1:PS X st t)(h2:mL X rest u):mL X (st::rest) (Zdv t u):=by
 intro pins s σ H D I h
 refine wpAny_execs_cons (Ŷ (h1 pins s σ H {D with nx:=u D} I h) λf s1 q=>?_)
 cases f with
 |next=>
  obtain⟨σ',H',I',q⟩:=q
  exact h2 pins s1 σ' H' D I' q
 |ret v=>exact q
 |brk=>exact q
 |cont=>exact q
def QH(h1:PS X st t):mL X [st] t:=by
 intro pins s σ H D I h
 refine wpAny_execs_cons (Ŷ (h1 pins s σ H D I h) λf s1 q=>?_)
 cases f with
 |next=>exact wpAny_execs_nil q
 |ret v=>exact q
 |brk=>exact q
 |cont=>exact q
def Inv.quiet{pins:List (Addr×Obj)}{σ:St}{H:Hp}{s:Shared}(I:Inv X pins σ H s):interactive X.env=false:=by simp[interactive,I.ok.kind]
def J_(te:TE):TS:=λD σ H=>te σ H λ_ H1=>D.nx σ H1
def dH(he:PE X e te)(hs:swapsWith e none pos.line X.env=pure false:=by rfl):PS X (.Expr e pos) (J_ te):=by
 intro pins s σ H D I h
 exact wpAny_Expr_any (Ŷ (he pins s σ H _ I h) λv s1 ⟨x,H1,I1,r1,q1⟩=>⟨σ,H1,I1,q1⟩) I.quiet hs
def ZfU(te:TE):TS:=λD σ H=>te σ H D.rt
def ZaY(he:PE X e te):PS X (.Return (some e) pos) (ZfU te):=by
 intro pins s σ H D I h
 exact wpAny_Return_some (Ŷ (he pins s σ H _ I h) λv s1 ⟨x,H1,I1,r1,q1⟩=>⟨x,σ,H1,I1,r1,q1⟩)
def ZfV(c:TT)(t u:TS):TS:=λD σ H=>c σ H λb H1=>if b=true then t D σ H1 else u D σ H1
def Zdw{c:Expr}{a b:List Stmt}{tc:TT}(hc:PT X c tc)(ha:mL X a t)(hb:mL X b u):PS X (.If c a b pos) (ZfV tc t u):=by
 intro pins s σ H D I h
 refine wpAny_If (Ŷ (hc pins s σ H _ I h) λd s1 ⟨H1,I1,q1⟩=>?_)
 cases d with
 |true=>exact ha pins s1 σ H1 D I1 q1
 |false=>exact hb pins s1 σ H1 D I1 q1
end
abbrev TG:=V->St->Hp->(St->Hp->Prop)->Prop
abbrev Ka:=List V->St->Hp->(St->Hp->Prop)->Prop
def PG(X:Cx)(target:Expr)(t:TG):Prop:=
 ∀(pins:List (Addr×Obj)) (s:Shared) (σ:St) (H:Hp) (v:V) (u:Value) (Q:St->Hp->Prop),Inv X pins σ H s->RelV v u->t v σ H Q->
  wpAny (model X.prog X.w) X.A (assign target X.env u) (λ_ s'=>∃σ' H',Inv X pins σ' H' s'/\Q σ' H') X.xe s
def Cg(X:Cx)(ts:List Expr)(t:Ka):Prop:=
 ∀(pins:List (Addr×Obj)) (s:Shared) (σ:St) (H:Hp) (vs:List V) (us:List Value) (Q:St->Hp->Prop),Inv X pins σ H s->Vals vs us->t vs σ H Q->
  wpAny (model X.prog X.w) X.A (assignInOrder ((assignEach ts X.env).map (·.2)) us) (λ_ s'=>∃σ' H',Inv X pins σ' H' s'/\Q σ' H') X.xe s
abbrev ZaZ:=V->V->V->Hp->(Hp->Prop)->Prop
def Zdx(X:Cx)(t:ZaZ):Prop:=
 ∀(pins:List (Addr×Obj)) (s:Shared) (σ:St) (H:Hp) (o i v:V) (ov iv u:Value) (Q:Hp->Prop),Inv X pins σ H s->RelV o ov->RelV i iv->RelV v u->t o i v H Q->
  wpAny (model X.prog X.w) X.A (setItem ov iv u) (λ_ s'=>∃H',Inv X pins σ H' s'/\Q H') X.xe s
abbrev TIp:=V->V->Hp->VK->Prop
def PIp(X:Cx)(op:Operator)(t:TIp):Prop:=
 ∀(pins:List (Addr×Obj)) (s:Shared) (σ:St) (H:Hp) (x y:V) (v u:Value) (Q:VK),Inv X pins σ H s->RelV x v->RelV y u->t x y H Q->
  wpAny (model X.prog X.w) X.A (inplaceOp op v u) (EP X pins σ Q) X.xe s
section
variable{X:Cx}{pos:Pos}
def Ub(i:Nat):TG:=λv σ H Q=>Q (σ.set i (some v)) H
def QJ{i:Nat}{x:Str}(hN:X.N.Nodup)(hi:X.N[i]?=some x)(hx:Loc X.env.scope x)(hf:X.fn x=true\/X.env.scope.names.lookup x=some .local:=by first|exact .inl rfl|exact .inr rfl|assumption):PG X (.Name x pos) (Ub i):=by
 intro pins s σ H v u Q I r h
 exact wpAny_assign_Name (rD I hN hi hx r (λs' I'=>⟨_,H,I',h⟩) hf)
def ZfW:Ka:=λvs σ H Q=>vs=[]/\Q σ H
def Zdy(t:TG)(u:Ka):Ka:=λvs σ H Q=>∃v r,vs=v::r/\t v σ H λσ' H'=>u r σ' H' Q
def QK:Cg X [] ZfW:=by
 intro pins s σ H vs us Q I r h
 obtain⟨e,h⟩:=h
 subst e
 cases r
 exact assignInOrder_nil ⟨σ,H,I,h⟩
def Kc{e:Expr}{es:List Expr}{t:TG}{u:Ka}(h1:PG X e t)(h2:Cg X es u)
 (hs:(assignEach (e::es) X.env).map (·.2)=assign e X.env::(assignEach es X.env).map (·.2):=by rfl):Cg X (e::es) (Zdy t u):=by
 intro pins s σ H vs us Q I r h
 obtain⟨v,vr,e1,h⟩:=h
 subst e1
 cases r with
 |cons r rr=>
  rw[hs]
  refine assignInOrder_cons (Ŷ (h1 pins s σ H _ _ _ I r h) λ_ s1 ⟨σ1,H1,I1,q1⟩=>?_)
  exact h2 pins s1 σ1 H1 _ _ Q I1 rr q1
def ZfX(K:PySem.W.Frag)(n:Nat)(t:Ka):TG:=λv σ H Q=>∃a xs,v=.ref a/\iH K H a xs/\xs.length=n/\t xs σ H Q
def Kd{es:List Expr}{k:Nat}{t:Ka}{n:Nat}(hc:X.calm=true)(h:Cg X es t)
 (hn:(assignEach es X.env).length=n:=by rfl)(hst:(assignEach es X.env).findIdx? (·.1)=none:=by rfl):PG X (.Tuple es k pos) (ZfX X.K n t):=by
 intro pins s σ H v u Q I r hw
 obtain⟨a,xs,e1,hq,hl,hw⟩:=hw
 subst e1
 cases r
 obtain⟨its,rv,ht,hz⟩:=I.tuple hq
 refine assign_Tuple_tuple (I.ok.hd hc) ht (by simp[hn,<-hl,rv.length]) hst λh' hx=>?_
 have I1:Inv X pins σ H {s with heap:=h'}:=I.kept (t':=s.toks) λb o e=>hx b o (Nat.ne_of_lt (Heap.lt_size e)) e
 exact h pins _ σ H xs _ Q I1 (by simpa using rv) hw
def ZfY(to ti:TE)(t:ZaZ):TG:=λv σ H Q=>to σ H λo H1=>ti σ H1 λi H2=>t o i v H2 λH3=>Q σ H3
def Za0{o i:Expr}{to ti:TE}{t:ZaZ}(ho:PE X o to)(hi:PE X i ti)(hs:Zdx X t)
 (ha:∀v,assign (.Subscript o i pos) X.env v=(do
   let ov <-holding [v] (eval o X.env)
   let iv <-holding [v,ov] (eval i X.env)
   standAt pos
   holding [v,ov,iv] (setItem ov iv v)
   release [v,ov,iv] []):=by intro _;rfl):PG X (.Subscript o i pos) (ZfY to ti t):=by
 intro pins s σ H v u Q I r h
 rw[ha]
 refine wpAny_bind (wpAny_holding (Ŷ (ho pins s σ H _ I h) λov s1 ⟨x,H1,I1,r1,q1⟩=>?_))
 refine wpAny_bind (wpAny_holding (Ŷ (hi pins s1 σ H1 _ I1 q1) λiv s2 ⟨y,H2,I2,r2,q2⟩=>?_))
 refine wpAny_bind (wpAny_standAt (wpAny_bind (wpAny_holding (Ŷ (hs pins s2 σ H2 x y v ov iv u _ I2 r1 r2 r q2) λ_ s3 ⟨H3,I3,q3⟩=>?_))))
 exact wpAny_release ⟨σ,H3,I3,q3⟩
def Zdz(te:TE)(g:TG):TS:=λD σ H=>te σ H λx H1=>g x σ H1 D.nx
def Ke{tg e:Expr}{te:TE}{g:TG}(he:PE X e te)(hg:PG X tg g)(hs:swapsWithSole [tg] e pos.line X.env=pure false:=by rfl)(hw:swappedStores [tg] e X.env=pure none:=by rfl)
 (h1:(assignEach [tg] X.env).map (·.2)=[assign tg X.env]:=by rfl):PS X (.Assign [tg] e pos) (Zdz te g):=by
 intro pins s σ H D I h
 refine wpAny_Assign_stores (Ŷ (he pins s σ H _ I h) λv s1 ⟨x,H1,I1,r1,q1⟩=>?_) hs hw
 rw[h1]
 exact Ŷ (hg pins s1 σ H1 x v _ I1 r1 q1) λ_ s2 q=>q
def Za1{i:Nat}{x:Str}{e:Expr}{te:TE}{pos':Pos}(hN:X.N.Nodup)(hi:X.N[i]?=some x)(hx:Loc X.env.scope x)(he:PE X e te)(hs:swapsWith e (some (.Name x pos')) pos.line X.env=pure false:=by rfl)(hf:X.fn x=true\/X.env.scope.names.lookup x=some .local:=by first|exact .inl rfl|exact .inr rfl|assumption) :
 PS X (.Assign [.Name x pos'] e pos) (Zdz te (Ub i)):=by
 intro pins s σ H D I h
 refine wpAny_Assign_Name (Ŷ (he pins s σ H _ I h) λv s1 ⟨y,H1,I1,r1,q1⟩=>?_) hs
 exact rD I1 hN hi hx r1 (λs2 I2=>⟨_,H1,I2,q1⟩) hf
def ZfZ(i:Nat)(te:TE)(ti:TIp):TS:=λD σ H=>∃x,σ[i]?=some (some x)/\te σ H λy H1=>ti x y H1 λz H2=>D.nx (σ.set i (some z)) H2
def Za2{i:Nat}{x:Str}{e:Expr}{te:TE}{op:Operator}{ti:TIp}{pos':Pos}(hN:X.N.Nodup)(hi:X.N[i]?=some x)(hx:Loc X.env.scope x)(he:PE X e te)(ho:PIp X op ti)(hf:X.fn x=true\/X.env.scope.names.lookup x=some .local:=by first|exact .inl rfl|exact .inr rfl|assumption) :
 PS X (.AugAssign (.Name x pos') op e pos) (ZfZ i te ti):=by
 intro pins s σ H D I h
 obtain⟨v,e1,h⟩:=h
 obtain⟨m,hn,hl⟩:=I.loc
 have vis:Gs X.env.scope x:=by rcases hx with k|k;exact .inl k;exact .inr (.inl k)
 obtain⟨u,r,l⟩:=hl i x v hi e1 vis
 refine wpAny_AugAssign_Name ?_
 have go:wpAny (model X.prog X.w) X.A (eval e X.env) (λw s₂=>wpAny (model X.prog X.w) X.A (inplaceOp op u w) (λr s₃=>wpAny (model X.prog X.w) X.A (storeName X.env x r) (λ_=>SP X pins D .next) X.xe s₃) X.xe s₂) X.xe s:=by
  refine Ŷ (he pins s σ H _ I h) λw s1 ⟨y,H1,I1,r1,q1⟩=>?_
  refine Ŷ (ho pins s1 σ H1 v y u w _ I1 r r1 q1) λz s2 ⟨zv,H2,I2,r2,q2⟩=>?_
  exact rD I2 hN hi hx r2 (λs3 I3=>⟨_,H2,I3,q2⟩) hf
 rcases l with⟨hk,hm⟩|⟨hk,c,hc,hcell⟩
 ·exact wpAny_loadName_local I.ok.kind hk hn hm go
 ·rcases hk with hk|hk
  ·exact wpAny_loadName_cell I.ok.kind hk hc hcell go
  ·rcases hx with k|k
   ·have:X.env.scope.names.lookup x=some .free:=hk
    rw[k] at this;cases this
   ·have:X.env.scope.names.lookup x=some .free:=hk
    rw[k] at this;cases this
def ipI(f:Int->Int->Int):TIp:=λx y H Q=>∃i j,x=.int i/\y=.int j/\Q (.int (f i j)) H
end
section
variable{X:Cx}{pos:Pos}
def Za3(c:TT)(tb:TS):TS:=λD σ H=>∃W:Nat->St->Hp->Prop,(∃m,W m σ H)/\∀m σ H,W m σ H->
 c σ H λb H1=>if b=true then ∃N:St->Hp->Prop,(∀σ' H',N σ' H'->∃m',m'<m/\W m' σ' H')/\tb {D with nx:=N,ct:=N,bk:=D.nx} σ H1 else D.nx σ H1
def Kf{c:Expr}{body:List Stmt}{tc:TT}{tb:TS}(hp:PassesOwn (model X.prog X.w) X.A X.env X.xe)(hc:PT X c tc)(hb:mL X body tb):PS X (.While c body [] pos) (Za3 tc tb):=by
 intro pins s σ H D I h
 obtain⟨W,⟨m0,w0⟩,turn⟩:=h
 refine wpAny_While (codeAny_whileLoop (λn s'=>∃σ' H',Inv X pins σ' H' s'/\W n σ' H') ?_ m0 ⟨σ,H,I,w0⟩)
 rintro n s1 ⟨σ1,H1,I1,w1⟩
 refine wpAny_passesOwn hp (Ŷ (hc pins s1 σ1 H1 _ I1 (turn n σ1 H1 w1)) λb s2 ⟨H2,I2,q2⟩=>?_)
 cases b with
 |true=>
  obtain⟨N,hN,q2⟩:=q2
  rw[if_pos rfl]
  refine wpAny_passesOwn hp (Ŷ (hb pins s2 σ1 H2 _ I2 q2) λf s3 q3=>?_)
  cases f with
  |next=>
   obtain⟨σ3,H3,I3,n3⟩:=q3
   obtain⟨m',hm,w3⟩:=hN σ3 H3 n3
   exact⟨m',hm,σ3,H3,I3,w3⟩
  |cont=>
   obtain⟨σ3,H3,I3,n3⟩:=q3
   obtain⟨m',hm,w3⟩:=hN σ3 H3 n3
   exact⟨m',hm,σ3,H3,I3,w3⟩
  |brk=>exact q3
  |ret v=>exact q3
 |false=>
  rw[if_neg Bool.false_ne_true]
  exact wpAny_execs_nil ⟨σ1,H2,I2,q2⟩
end
structure It where
 go:Nat->Hp->Prop
 yld:Nat->Hp->V->Hp->Prop
 stop:Nat->Hp->Prop
def dZ(X:Cx)(pins:List (Addr×Obj))(H:Hp)(b:Addr):Prop:=
 H b=none/\b≠X.env.locals/\b∉X.fs/\(b∈X.ex\/X.s₀.heap.objs.size<=b)/\(∀x c,X.env.cells.lookup x=some c->c≠b)/\∀p∈X.pn++pins,p.1≠b
def Inv.uz{X:Cx}{pins:List (Addr×Obj)}{σ:St}{H H':Hp}{s:Shared}{b:Addr}(I:Inv X pins σ H s)(hb:s.heap.objs.size<=b)(hn:H' b=none):dZ X pins H' b:=by
 refine⟨hn,Nat.ne_of_gt (Nat.lt_of_lt_of_le I.lt hb),I.ZfP hb,.inr (Nat.le_trans I.sz hb),λx c e z=>?_,λp hp z=>?_⟩
 ·obtain⟨v,q⟩:=I.cell x c e
  exact absurd (Nat.lt_of_lt_of_le q.lt (by rw[z];exact hb)) (Nat.lt_irrefl _)
 ·exact absurd (Nat.lt_of_lt_of_le (Heap.lt_size (I.pin p hp).1) (by rw[z];exact hb)) (Nat.lt_irrefl _)
structure Turn(P:Program)(w:World)(K:PySem.W.Frag)(tg:Expr)(J:It)(fp:List Addr)(it:Addr)(tn:Nat->Heap->Prop):Prop where
 mem:it∈fp
 obj:∀i h,tn i h->∀b∈fp,∃o,h.get? b=some o/\∀v,o.data≠ .cell v
 keep:∀i h h',tn i h->(∀b∈fp,∀o,h.get? b=some o->h'.get? b=some o)->tn i h'
 item:∀(X:Cx),X.prog=P->X.w=w->X.K=K->X.calm=true->∀(i:Nat) (pins:List (Addr×Obj)) (s:Shared) (σ:St) (H:Hp) (E:Value->Shared->Prop),Inv X pins σ H s->(∀b∈fp,dZ X pins H b)->tn i s.heap->J.go i H->
  wpAny (model P w) X.A (pyNext (.ref it)) (λr s1=>∃u,r=some u/\
   wpAny (model P w) X.A (letOwnedTupleGo tg (.ref it) u) (λ_ s2=>∃x H',Inv X pins σ H' s2/\RelV x u/\J.yld i H x H'/\tn (i+1) s2.heap/\∀b∈fp,H' b=none) E s1) E s
 done:∀(X:Cx),X.prog=P->X.w=w->X.K=K->X.calm=true->∀(i:Nat) (pins:List (Addr×Obj)) (s:Shared) (σ:St) (H:Hp) (E:Value->Shared->Prop),Inv X pins σ H s->(∀b∈fp,dZ X pins H b)->tn i s.heap->J.stop i H->
  wpAny (model P w) X.A (pyNext (.ref it)) (λr s1=>r=none/\Inv X pins σ H s1) E s
 self:∀(A:Around) (i:Nat) (s:Shared) (Q:Value->Shared->Prop) (E:Value->Shared->Prop),tn i s.heap->Q (.ref it) s->wpAny (model P w) A (pyIter (.ref it)) Q E s
abbrev TI:=St->Hp->(It->Hp->Prop)->Prop
def PIE(X:Cx)(pins:List (Addr×Obj))(σ:St)(tg:Expr)(R:It->Hp->Prop)(itv:Value)(s2:Shared):Prop:=
 ∃(it:Addr) (fp:List Addr) (tn:Nat->Heap->Prop) (J:It) (H':Hp),itv=.ref it/\Inv X pins σ H' s2/\Turn X.prog X.w X.K tg J fp it tn/\tn 0 s2.heap/\(∀b∈fp,dZ X pins H' b)/\R J H'
def PI(X:Cx)(tg iter:Expr)(wi:TI):Prop:=
 ∀(pins:List (Addr×Obj)) (s:Shared) (σ:St) (H:Hp) (R:It->Hp->Prop),Inv X pins σ H s->wi σ H R->
  wpAny (model X.prog X.w) X.A (eval iter X.env) (λv s1=>wpAny (model X.prog X.w) X.A (pyIter v) (PIE X pins σ tg R) X.xe s1) X.xe s
def Gw{M:Model}{A:Around}{E:Value->Shared->Prop}{s:Shared}{tg:Expr}{it:Addr}{u:Value}{o:Obj}{n:String}{vs:Array Value}{Q:Unit->Shared->Prop}(ho:s.heap.get? it=some o)(hc:o.cls=.type n)(hd:o.data=.fields vs)
 (hn:["enumerate","zip","dict_itemiterator","dict_reverseitemiterator","odict_iterator","itertools.zip_longest","itertools.pairwise"].contains n=false)(hQ:Q () s):wpAny M A (letOwnedTupleGo tg (.ref it) u) Q E s:=by
 unfold letOwnedTupleGo
 cases tg<;>first
  |exact wpAny_pure hQ
  |(cases u<;>first
     |exact wpAny_pure hQ
     |(refine wpAny_bind (wpAny_load ho ?_)
       rw[hc,hd]
       show wpAny M A (if(["enumerate","zip","dict_itemiterator","dict_reverseitemiterator","odict_iterator","itertools.zip_longest","itertools.pairwise"].contains n && vs[0]?== some (rawInt _))=true then _ else _) Q E s
       rw[if_neg (by intro h;rw[hn,Bool.false_and] at h;cases h)]
       exact wpAny_pure hQ))
def Itl(K:PySem.W.Frag)(a:Addr):It:=
 ⟨λi H=>∃xs x,bD K H a xs/\xs[i]?=some x,λi H x H'=>H'=H/\∀xs,bD K H a xs->xs[i]?=some x,λi H=>∃xs,bD K H a xs/\xs.length<=i⟩
def Itt(K:PySem.W.Frag)(a:Addr):It:=
 ⟨λi H=>∃xs x,iH K H a xs/\xs[i]?=some x,λi H x H'=>H'=H/\∀xs,iH K H a xs->xs[i]?=some x,λi H=>∃xs,iH K H a xs/\xs.length<=i⟩
def Itr(lo:Int)(n:Nat):It:=⟨λi _=>i<n,λi H x H'=>H'=H/\x=.int (lo+i),λi _=>n<=i⟩
def IV{P:Program}{w:World}{K:PySem.W.Frag}{tg:Expr}(a it:Addr):Turn P w K tg (Itl K a) [it] it (λi h=>h.IsListIter it a i) where
 mem:=by simp
 obj:=λi h st b hb=>by
  have e:b=it:=by simpa using hb
  subst e
  obtain⟨o,e,c,d⟩:=st
  exact⟨o,e,λv z=>by rw[d] at z;cases z⟩
 keep:=λi h h' st k=>st.at λo e=>k it (by simp) o e
 item:=by
  intro X hP hw hK hc i pins s σ H E I hf st hg
  subst hP hw hK
  obtain⟨xs,x,hq,hx⟩:=hg
  obtain⟨its,rv,p,hz⟩:=I.list hq
  obtain⟨u,hu,ru⟩:=rv.get hx
  obtain⟨f0,f1,f2,f3,f4,f5⟩:=hf it (by simp)
  refine wpAny_pyNext_list_item st p.isList (x:=u) (by simpa using hu) λh' st' sb=>?_
  have I1:Inv X pins σ H {s with heap:=h'}:=I.turned (t':=s.toks) (λb o hb e=>(sb.2 b hb).trans e) f0 f1 f3 f4 f5
  obtain⟨o,e,c,d⟩:=id st'
  exact⟨u,rfl,Gw (s:={s with heap:=h'}) e c d (by decide) ⟨x,H,I1,ru,⟨rfl,λys hy=>by rw[I.rE hy hq];exact hx⟩,st',λb hb=>(hf b hb).1⟩⟩
 done:=by
  intro X hP hw hK hc i pins s σ H E I hf st hg
  subst hP hw hK
  obtain⟨xs,hq,hx⟩:=hg
  obtain⟨its,rv,p,hz⟩:=I.list hq
  obtain⟨f0,f1,f2,f3,f4,f5⟩:=hf it (by simp)
  have hl:=rv.length
  exact wpAny_pyNext_list_end (I.ok.hd hc) st p.isList (by simp;omega) λh' eb=>⟨rfl,I.turned (t':=s.toks) (λb o hb e=>eb b o hb e) f0 f1 f3 f4 f5⟩
 self:=λ_ _ _ _ _ st h=>wpAny_pyIter_listiter st h
def Ci{P:Program}{w:World}{K:PySem.W.Frag}{tg:Expr}(a it:Addr):Turn P w K tg (Itt K a) [it] it (λi h=>h.IsTupleIter it a i) where
 mem:=by simp
 obj:=λi h st b hb=>by
  have e:b=it:=by simpa using hb
  subst e
  obtain⟨o,e,c,d⟩:=st
  exact⟨o,e,λv z=>by rw[d] at z;cases z⟩
 keep:=λi h h' st k=>st.at λo e=>k it (by simp) o e
 item:=by
  intro X hP hw hK hc i pins s σ H E I hf st hg
  subst hP hw hK
  obtain⟨xs,x,hq,hx⟩:=hg
  obtain⟨its,rv,p,hz⟩:=I.tuple hq
  obtain⟨u,hu,ru⟩:=rv.get hx
  obtain⟨f0,f1,f2,f3,f4,f5⟩:=hf it (by simp)
  refine wpAny_pyNext_tuple_item st (show s.heap.IsTuple a its.toArray from p) (x:=u) (by simpa using hu) λh' st' sb=>?_
  have I1:Inv X pins σ H {s with heap:=h'}:=I.turned (t':=s.toks) (λb o hb e=>(sb.2 b hb).trans e) f0 f1 f3 f4 f5
  obtain⟨o,e,c,d⟩:=id st'
  exact⟨u,rfl,Gw (s:={s with heap:=h'}) e c d (by decide) ⟨x,H,I1,ru,⟨rfl,λys hy=>by rw[I.uQ hy hq];exact hx⟩,st',λb hb=>(hf b hb).1⟩⟩
 done:=by
  intro X hP hw hK hc i pins s σ H E I hf st hg
  subst hP hw hK
  obtain⟨xs,hq,hx⟩:=hg
  obtain⟨its,rv,p,hz⟩:=I.tuple hq
  obtain⟨f0,f1,f2,f3,f4,f5⟩:=hf it (by simp)
  have hl:=rv.length
  exact wpAny_pyNext_tuple_end (I.ok.hd hc) st (show s.heap.IsTuple a its.toArray from p) (by simp;omega) λh' eb=>⟨rfl,I.turned (t':=s.toks) (λb o hb e=>eb b o hb e) f0 f1 f3 f4 f5⟩
 self:=λ_ _ _ _ _ st h=>wpAny_pyIter_tupleiter st h
def Cj{P:Program}{w:World}{K:PySem.W.Frag}{tg:Expr}(it:Addr)(lo:Int)(n:Nat):Turn P w K tg (Itr lo n) [it] it (λi h=>IsRangeIter h it (lo+(i:Nat)*1) ((n:Int)-(i:Nat)) 1) where
 mem:=by simp
 obj:=λi h st b hb=>by
  have e:b=it:=by simpa using hb
  subst e
  exact⟨_,st,λv z=>by
   have z':Data.fields _=Data.cell v:=z
   cases z'⟩
 keep:=λi h h' st k=>k it (by simp) _ st
 item:=by
  intro X hP hw hK hc i pins s σ H E I hf st hg
  subst hP hw hK
  obtain⟨f0,f1,f2,f3,f4,f5⟩:=hf it (by simp)
  have W:=Walks.range (prog:=X.prog) (w:=X.w) (I.ok.hd hc) it lo 1 n
  refine W.item i s _ _ hg st λv h' tk hv st' kk=>?_
  obtain⟨t,rfl⟩:=hv
  have I1:Inv X pins σ H {s with heap:=h',toks:=tk}:=I.turned (λb o hb e=>kk b o (by simpa using hb) e) f0 f1 f3 f4 f5
  refine⟨_,rfl,Gw (s:={s with heap:=h',toks:=tk}) (n:= "range_iterator") st' rfl rfl (by decide) ⟨.int (lo+i),H,I1,⟨t,?_⟩,⟨rfl,rfl⟩,st',λb hb=>(hf b hb).1⟩⟩
  rw[Int.mul_one]
 done:=by
  intro X hP hw hK hc i pins s σ H E I hf st hg
  subst hP hw hK
  obtain⟨f0,f1,f2,f3,f4,f5⟩:=hf it (by simp)
  exact wpAny_pyNext_range_end (I.ok.hd hc) st (by have:n<=i:=hg;omega) λh' eb=>⟨rfl,I.turned (t':=s.toks) (λb o hb e=>eb b o hb e) f0 f1 f3 f4 f5⟩
 self:=λ_ _ _ _ _ st h=>wpAny_pyIter_rangeiter st h
end L2
namespace L2
open PySem PySem.Spec PyProof.Rows
section
variable{X:Cx}{tg:Expr}
def Kg{pins:List (Addr×Obj)}{σ:St}{H:Hp}{s:Shared}{R:It->Hp->Prop}{E:Value->Shared->Prop}{lo hi:Int}{t u v:Tok}{tk:Nat}(I:Inv X pins σ H s)(h1: -(2 ^ 62)<=lo)(h2:lo<2 ^ 62)(h3: -(2 ^ 62)<=hi)(h4:hi<2 ^ 62)
 (q:R (Itr lo (hi-lo).toNat) H):wpAny (model X.prog X.w) X.A (pyIter (.ref s.heap.objs.size)) (PIE X pins σ tg R) E {s with heap:=s.heap.push {cls:=.type "range",data:=.fields #[.int lo t,.int hi u,.int 1 v]},toks:=tk}:=by
 refine wpAny_pyIter_range (IsRange.new ..) (small_one h1 h2 h3 h4) ?_
 have I1:Inv X pins σ H {s with heap:=s.heap.push {cls:=.type "range",data:=.fields #[.int lo t,.int hi u,.int 1 v]},toks:=tk}:=I.kept λb o e=>Heap.get?_push_of_some _ e
 refine⟨(s.heap.push {cls:=.type "range",data:=.fields #[.int lo t,.int hi u,.int 1 v]}).objs.size,[(s.heap.push {cls:=.type "range",data:=.fields #[.int lo t,.int hi u,.int 1 v]}).objs.size],_,_,H,rfl,
  I1.kept (t':=tk) λb o e=>Heap.get?_push_of_some _ e,Cj _ lo (hi-lo).toNat,?_,λb hb=>?_,q⟩
 ·have e1:lo+((0:Nat):Int)*1=lo:=by simp
  have e2:(((hi-lo).toNat:Nat):Int)-((0:Nat):Int)=Builtin.Range.rangeSize lo hi 1:=by rw[rangeSize_one];split<;>omega
  show IsRangeIter _ _ (lo+((0:Nat):Int)*1) ((((hi-lo).toNat:Nat):Int)-((0:Nat):Int)) 1
  rw[e1,e2]
  exact Heap.get?_push_size _ rfl
 ·have e:b=(s.heap.push {cls:=.type "range",data:=.fields #[.int lo t,.int hi u,.int 1 v]}).objs.size:=by simpa using hb
  subst e
  exact I1.uz (Nat.le_refl _) (I1.hok.fresh (Nat.le_refl _))
def ZdA(ta:TA):TI:=λσ H R=>ta σ H λvs H1=>∃j:Int,vs=[.int j]/\ -(2 ^ 62)<=j/\j<2 ^ 62/\R (Itr 0 j.toNat) H1
def IW{a:Expr}{ta:TA}{p pos:Pos}(hg:Gl X "range")(hm:X.mg "range" =none)(ha:PA X [a] ta)(hs:starEach [a] X.env=[(false,eval a X.env)]:=by rfl):PI X tg (.Call (.Name "range" p) [a] [] pos) (ZdA ta):=by
 intro pins s σ H R I h
 refine Call_ (mO I hg hm boot_range (PyProof.Rows.callWith_type1 (Ŷ (ha pos pins s σ H _ I h) λus s1 ⟨vs,H1,I1,r1,q1⟩=>?_) hs rfl))
 obtain⟨j,e,q1,q2,q⟩:=q1
 subst e
 cases r1 with
 |cons r rr=>
  cases rr
  obtain⟨t,rfl⟩:=r
  exact call_range_1 (Kg I1 (by omega) (by omega) q1 q2 (by simpa using q))
def Zf0(wi:TI)(g:TG)(tb:TS):TS:=λD σ H=>wi σ H λJ H1=>∃W:Nat->Nat->St->Hp->Prop,(∃m,W 0 m σ H1)/\∀i m σ H,W i m σ H->
 (J.stop i H/\D.nx σ H)\/(J.go i H/\∃N:St->Hp->Prop,(∀σ' H',N σ' H'->∃m',m'<m/\W (i+1) m' σ' H')/\∀x H',J.yld i H x H'->g x σ H' λσ2 H2=>tb {D with nx:=N,ct:=N,bk:=D.nx} σ2 H2)
def oG(fp:List Addr)(h:Heap):List (Addr×Obj):=fp.filterMap λb=>(h.get? b).map λo=>(b,o)
def bF{fp:List Addr}{h:Heap}{b:Addr}{o:Obj}(hb:b∈fp)(e:h.get? b=some o):(b,o)∈oG fp h:=List.mem_filterMap.mpr ⟨b,hb,by rw[e];rfl⟩
def I_{fp:List Addr}{h:Heap}{p:Addr×Obj}(hp:p∈oG fp h):p.1∈fp/\h.get? p.1=some p.2:=by
 obtain⟨b,hb,e⟩:=List.mem_filterMap.mp hp
 cases q:h.get? b with
 |none=>rw[q] at e;cases e
 |some o=>
  rw[q] at e
  have e':(b,o)=p:=Option.some.inj e
  subst e'
  exact⟨hb,q⟩
def Inv.pinned{pins:List (Addr×Obj)}{σ:St}{H:Hp}{s:Shared}{fp:List Addr}(I:Inv X pins σ H s)(hf:∀b∈fp,dZ X pins H b)(ho:∀b∈fp,∃o,s.heap.get? b=some o/\∀v,o.data≠ .cell v):Inv X (pins++oG fp s.heap) σ H s:=
 I.Gu fun p hp=>(List.mem_append.mp hp).elim (fun z=>I.pin p (List.mem_append_right _ z)) fun z=>by
   obtain⟨hb,e⟩:=I_ z
   obtain⟨f0,f1,f2,_⟩:=hf p.1 hb
   obtain⟨o,e',d⟩:=ho p.1 hb
   rw[e] at e';cases e'
   exact⟨e,f0,f1,f2,d⟩
def Inv.iI{pins pl:List (Addr×Obj)}{σ:St}{H:Hp}{s:Shared}(I:Inv X (pins++pl) σ H s):Inv X pins σ H s:=I.Gu λp hp=>I.pin p (List.mem_append_right _ (List.mem_append_left _ hp))
def Za4{iter:Expr}{body:List Stmt}{wi:TI}{g:TG}{tb:TS}{pos:Pos}(hp:PassesOwn (model X.prog X.w) X.A X.env X.xe)(hc:X.calm=true)(hi:PI X tg iter wi)(hg:PG X tg g)(hb:mL X body tb)
 (hs:∀x,foldedSetIterable iter X.env x=pure x:=by intro _;rfl):PS X (.For tg iter body [] pos) (Zf0 wi g tb):=by
 intro pins s σ H D I h
 refine wpAny_For (Ŷ (hi pins s σ H _ I h) λv s1 h1=>Ŷ h1 λitv s2 h2=>?_) hs
 obtain⟨it,fp,tn,J,H2,e,I2,T,st2,f2,W,⟨m0,w0⟩,turn⟩:=h2
 subst e
 -- what stays true of the iterator's objects through the loop
 have stat:∀{H':Hp},(∀b∈fp,H' b=none)->∀b∈fp,dZ X pins H' b:=λhn b hb=>⟨hn b hb,(f2 b hb).2⟩
 refine codeAny_forLoop_any (λn s'=>∃i σ' H',Inv X pins σ' H' s'/\tn i s'.heap/\(∀b∈fp,H' b=none)/\W i n σ' H') ?_ m0 ⟨0,σ,H2,I2,st2,λb hb=>(f2 b hb).1,w0⟩
 rintro n s3 ⟨i,σ3,H3,I3,st3,fr3,w3⟩
 rcases turn i n σ3 H3 w3 with⟨stop,qn⟩|⟨go,N,hN,step⟩
 ·refine wpAny_passesOwn hp (Ŷ (T.done X rfl rfl rfl hc i pins s3 σ3 H3 X.xe I3 (stat fr3) st3 stop) λr s4 ⟨hr,I4⟩=>?_)
  subst hr
  exact wpAny_execs_nil ⟨σ3,H3,I4,qn⟩
 ·refine wpAny_passesOwn hp (Ŷ (T.item X rfl rfl rfl hc i pins s3 σ3 H3 X.xe I3 (stat fr3) st3 go) λr s4 ⟨u,hr,h4⟩=>?_)
  subst hr
  refine wpAny_passesOwn hp (Ŷ h4 λ_ s5 ⟨x,H5,I5,r5,y5,QL,fr5⟩=>?_)
  have I5':=I5.pinned (stat fr5) (T.obj _ _ QL)
  refine wpAny_passesOwn hp (Ŷ (hg _ s5 σ3 H5 x u _ I5' r5 (step x H5 y5)) λ_ s6 ⟨σ6,H6,I6,q6⟩=>?_)
  refine wpAny_passesOwn hp (Ŷ (hb _ s6 σ6 H6 _ I6 q6) λf s7 q7=>?_)
  have again:∀{σ7:St} {H7:Hp},Inv X (pins++oG fp s5.heap) σ7 H7 s7->N σ7 H7->∃m,m<n/\∃i σ' H',Inv X pins σ' H' s7/\tn i s7.heap/\(∀b∈fp,H' b=none)/\W i m σ' H':=fun{σ7 H7} I7 n7=>by
   obtain⟨m',hm,w7⟩:=hN σ7 H7 n7
   refine⟨m',hm,i+1,σ7,H7,I7.iI,T.keep _ _ _ QL λb hb o e=>(I7.pin (b,o) (List.mem_append_right _ (List.mem_append_right _ (bF hb e)))).1,λb hb=>?_,w7⟩
   obtain⟨o,e,d⟩:=T.obj _ _ QL b hb
   exact(I7.pin (b,o) (List.mem_append_right _ (List.mem_append_right _ (bF hb e)))).2.1
  cases f with
  |next=>obtain⟨σ7,H7,I7,n7⟩:=q7;exact again I7 n7
  |cont=>obtain⟨σ7,H7,I7,n7⟩:=q7;exact again I7 n7
  |brk=>obtain⟨σ7,H7,I7,q7⟩:=q7;exact⟨σ7,H7,I7.iI,q7⟩
  |ret v=>obtain⟨x7,σ7,H7,I7,r7,q7⟩:=q7;exact⟨x7,σ7,H7,I7.iI,r7,q7⟩
end
end L2
namespace L2
open PySem PySem.Spec PyProof.Rows
abbrev R2:=V->V->Hp->VK->Prop
def bC(X:Cx)(f:Value->Value->Sem Value)(r:R2):Prop:=
 ∀(pins:List (Addr×Obj)) (s:Shared) (σ:St) (H:Hp) (x y:V) (v u:Value) (Q:VK),Inv X pins σ H s->RelV x v->RelV y u->r x y H Q->
  wpAny (model X.prog X.w) X.A (f v u) (EP X pins σ Q) X.xe s
def QM(X:Cx)(f:Value->Sem Value)(r:V->Hp->VK->Prop):Prop:=
 ∀(pins:List (Addr×Obj)) (s:Shared) (σ:St) (H:Hp) (x:V) (v:Value) (Q:VK),Inv X pins σ H s->RelV x v->r x H Q->
  wpAny (model X.prog X.w) X.A (f v) (EP X pins σ Q) X.xe s
def ų(X:Cx)(f:Value)(r:List V->Hp->VK->Prop):Prop:=
 ∀(pins:List (Addr×Obj)) (s:Shared) (σ:St) (H:Hp) (xs:List V) (us:List Value) (Q:VK),Inv X pins σ H s->Vals xs us->r xs H Q->
  wpAny (model X.prog X.w) X.A (call f us) (EP X pins σ Q) X.xe s
def Zf1(X:Cx)(r:V->Hp->(Bool->Hp->Prop)->Prop):Prop:=
 ∀(pins:List (Addr×Obj)) (s:Shared) (σ:St) (H:Hp) (x:V) (v:Value) (Q:Bool->Hp->Prop),Inv X pins σ H s->RelV x v->r x H Q->
  wpAny (model X.prog X.w) X.A (truthy v) (TP X pins σ Q) X.xe s
def tOp(r:R2)(ta tb:TE):TE:=λσ H Q=>ta σ H λx H1=>tb σ H1 λy H2=>r x y H2 Q
def tUn(r:V->Hp->VK->Prop)(ta:TE):TE:=λσ H Q=>ta σ H λx H1=>r x H1 Q
def rI(C:Int->Int->Prop)(g:Int->Int->V):R2:=λx y H Q=>∃i j,x=.int i/\y=.int j/\C i j/\Q (g i j) H
def Qt(g:Int->Int->V):R2:=λx y H Q=>∃i j,x=.int i/\y=.int j/\Q (g i j) H
def rU(g:Int->V):V->Hp->VK->Prop:=λx H Q=>∃i,x=.int i/\Q (g i) H
section
variable{X:Cx}{a b c:Expr}{ta tb tc:TE}{pos:Pos}
def Za5(ha:PE X a ta)(hb:PE X b tb){pins:List (Addr×Obj)}{s:Shared}{σ:St}{H:Hp}{R:V->V->Hp->Prop}(I:Inv X pins σ H s)
 (h:ta σ H λx H1=>tb σ H1 λy H2=>R x y H2){Q:Value->Shared->Prop}{f:Value->Value->Sem Value}
 (hf:∀v u s2 x y H2,Inv X pins σ H2 s2->RelV x v->RelV y u->R x y H2->wpAny (model X.prog X.w) X.A (f v u) Q X.xe s2) :
 wpAny (model X.prog X.w) X.A (eval a X.env) (λv s₁=>wpAny (model X.prog X.w) X.A (eval b X.env) (λu s₂=>wpAny (model X.prog X.w) X.A (f v u) Q X.xe s₂) X.xe s₁) X.xe s:=by
 refine Ŷ (ha pins s σ H _ I h) λv s1 ⟨x,H1,I1,r1,q1⟩=>?_
 refine Ŷ (hb pins s1 σ H1 _ I1 q1) λu s2 ⟨y,H2,I2,r2,q2⟩=>?_
 exact hf v u s2 x y H2 I2 r1 r2 q2
def Uc{op:Operator}{r:R2}(ho:bC X (binaryOp op) r)(ha:PE X a ta)(hb:PE X b tb):PE X (.BinOp a op b pos) (tOp r ta tb):=by
 intro pins s σ H Q I h
 exact wpAny_BinOp (Za5 ha hb I h λv u s2 x y H2 I2 rx ry q=>ho pins s2 σ H2 x y v u Q I2 rx ry q)
def ZdB{op:UnaryOp}{r:V->Hp->VK->Prop}(ho:QM X (unaryOp op) r)(ha:PE X a ta):PE X (.UnaryOp op a pos) (tUn r ta):=by
 intro pins s σ H Q I h
 exact UnaryOp_ (Ŷ (ha pins s σ H _ I h) λv s1 ⟨x,H1,I1,r1,q1⟩=>ho pins s1 σ H1 x v Q I1 r1 q1)
def Gx{f:Value->Value->Sem Value}{C:Int->Int->Prop}{g:Int->Int->Int}
 (rule:∀(i j:Int) (t u:Tok) (s:Shared) (Q:Value->Shared->Prop) (E:Value->Shared->Prop),C i j->Q (.int (g i j) s.toks) {s with toks:=s.toks+1}->wpAny (model X.prog X.w) X.A (f (.int i t) (.int j u)) Q E s) :
 bC X f (rI C λi j=>.int (g i j)):=by
 intro pins s σ H x y v u Q I rx ry h
 obtain⟨i,j,rfl,rfl,hc,q⟩:=h
 obtain⟨t,rfl⟩:=rx
 obtain⟨t',rfl⟩:=ry
 exact rule i j t t' s _ _ hc ⟨.int (g i j),H,I.tok _,⟨_,rfl⟩,q⟩
def zP{f:Value->Value->Sem Value}{g:Int->Int->Int}
 (rule:∀(i j:Int) (t u:Tok) (s:Shared) (Q:Value->Shared->Prop) (E:Value->Shared->Prop),Q (.int (g i j) s.toks) {s with toks:=s.toks+1}->wpAny (model X.prog X.w) X.A (f (.int i t) (.int j u)) Q E s) :
 bC X f (Qt λi j=>.int (g i j)):=by
 intro pins s σ H x y v u Q I rx ry h
 obtain⟨i,j,rfl,rfl,q⟩:=h
 obtain⟨t,rfl⟩:=rx
 obtain⟨t',rfl⟩:=ry
 exact rule i j t t' s _ _ ⟨.int (g i j),H,I.tok _,⟨_,rfl⟩,q⟩
def QT{f:Value->Value->Sem Value}{g:Int->Int->Bool}
 (rule:∀(i j:Int) (t u:Tok) (s:Shared) (Q:Value->Shared->Prop) (E:Value->Shared->Prop),Q (.bool (g i j)) s->wpAny (model X.prog X.w) X.A (f (.int i t) (.int j u)) Q E s) :
 bC X f (Qt λi j=>.bl (g i j)):=by
 intro pins s σ H x y v u Q I rx ry h
 obtain⟨i,j,rfl,rfl,q⟩:=h
 obtain⟨t,rfl⟩:=rx
 obtain⟨t',rfl⟩:=ry
 exact rule i j t t' s _ _ ⟨.bl (g i j),H,I,rfl,q⟩
def Ja(i j:Int):Prop:=0<=j/\j<=1000000/\i.natAbs<2 ^ 64
def Za6(i j:Int):Prop:=(-(2 ^ 64)<i/\i<2 ^ 64)\/(-(2 ^ 64)<j/\j<2 ^ 64)
def Za6.ok{i j:Int}(h:Za6 i j):IntMulOk i j:=by
 rcases h with⟨h1,h2⟩|⟨h1,h2⟩
 ·exact .of_left (intBits_le_64 h1 h2)
 ·exact .of_right (intBits_le_64 h1 h2)
def Ck(k:Nat):(0:Int)<=2 ^ k:=by
 rw[two_pow_cast]
 exact Int.natCast_nonneg _
def Za7:bC X (binaryOp .Add) (Qt λi j=>.int (i+j)):=zP λ_ _ _ _ _ _ _ q=>add_int q
def Za8:bC X (binaryOp .Sub) (Qt λi j=>.int (i-j)):=zP λ_ _ _ _ _ _ _ q=>sub_int q
def QV:bC X (binaryOp .Mod) (rI (λ_ j=>j≠0) λi j=>.int (i.fmod j)):=Gx λ_ _ _ _ _ _ _ hc q=>mod_int' hc q
def Za9:bC X (binaryOp .Pow) (rI Ja λi j=>.int (i ^ j.toNat)):=Gx λ_ _ _ _ _ _ _ hc q=>pow_int_small hc.1 hc.2.1 hc.2.2 q
def Za_:bC X (binaryOp .LShift) (rI Ja λi j=>.int (i*2 ^ j.toNat)):=Gx λ_ _ _ _ _ _ _ hc q=>lshift_int_small hc.1 hc.2.1 hc.2.2 q
def Zba:bC X (binaryOp .RShift) (rI (λ_ j=>0<=j) λi j=>.int (i / 2 ^ j.toNat)):=Gx λi j _ _ _ _ _ hc q=>
 rshift_int hc (by rw[Int.fdiv_eq_ediv_of_nonneg i (Ck _)];exact q)
def Zbb:bC X (binaryOp .BitAnd) (Qt λi j=>.int (Builtin.bitAnd i j)):=zP λ_ _ _ _ _ _ _ q=>and_int q
def unI{f:Value->Sem Value}{g:Int->Int}
 (rule:∀(i:Int) (t:Tok) (s:Shared) (Q:Value->Shared->Prop) (E:Value->Shared->Prop),Q (.int (g i) s.toks) {s with toks:=s.toks+1}->wpAny (model X.prog X.w) X.A (f (.int i t)) Q E s) :
 QM X f (rU λi=>.int (g i)):=by
 intro pins s σ H x v Q I rx h
 obtain⟨i,rfl,q⟩:=h
 obtain⟨t,rfl⟩:=rx
 exact rule i t s _ _ ⟨.int (g i),H,I.tok _,⟨_,rfl⟩,q⟩
def Zbc:QM X (unaryOp .USub) (rU λi=>.int (-i)):=unI λ_ _ _ _ _ q=>neg_int q
end
section
variable{X:Cx}{a b c:Expr}{ta tb tc:TE}{pos:Pos}
def Kh{pins:List (Addr×Obj)}{σ:St}{H:Hp}{s:Shared}{Q:VK}{k k':Bool}(I:Inv X pins σ H s)(q:Q (.bl k) H)(e:k=k'):EP X pins σ Q (.bool k') s:=by
 subst e
 exact⟨.bl k,H,I,rfl,q⟩
def ZdC:bC X (compareOp .Lt) (Qt λi j=>.bl (decide (i<j))):=QT λ_ _ _ _ _ _ _ q=>lt_int q
def ZdD:bC X (compareOp .LtE) (Qt λi j=>.bl (decide (i<=j))):=QT λ_ _ _ _ _ _ _ q=>le_int q
def ZdE:bC X (compareOp .Gt) (Qt λi j=>.bl (decide (j<i))):=QT λ_ _ _ _ _ _ _ q=>gt_int q
def ZdF:bC X (compareOp .GtE) (Qt λi j=>.bl (decide (j<=i))):=QT λ_ _ _ _ _ _ _ q=>ge_int q
def rG:bC X (compareOp .Is) (λx y H Q=>y=.non/\Q (.bl (decide (x=.non))) H):=by
 intro pins s σ H x y v u Q I rx ry h
 obtain⟨rfl,q⟩:=h
 cases ry
 refine is_none_gen (Kh I q ?_)
 cases x<;>first
  |(cases rx;rfl)
  |(obtain⟨t,rfl⟩:=rx;rfl)
def wG:bC X (compareOp .IsNot) (λx y H Q=>y=.non/\Q (.bl (!decide (x=.non))) H):=by
 intro pins s σ H x y v u Q I rx ry h
 obtain⟨rfl,q⟩:=h
 cases ry
 refine isnot_none_gen (Kh I q ?_)
 cases x<;>first
  |(cases rx;rfl)
  |(obtain⟨t,rfl⟩:=rx;rfl)
def bC.or{f:Value->Value->Sem Value}{r r':R2}(h:bC X f r)(h':bC X f r'):bC X f (λx y H Q=>r x y H Q\/r' x y H Q):=by
 intro pins s σ H x y v u Q I rx ry q
 rcases q with q|q
 ·exact h pins s σ H x y v u Q I rx ry q
 ·exact h' pins s σ H x y v u Q I rx ry q
def ĩ(b:Expr){op:CmpOp}(h:op≠ .In:=by decide)(h2:op≠ .NotIn:=by decide):behindInMarks op b=false:=by
 have e1:(op== CmpOp.In)=false:=by cases op<;>first|rfl|exact absurd rfl h
 have e2:(op== CmpOp.NotIn)=false:=by cases op<;>first|rfl|exact absurd rfl h2
 cases b<;>simp[behindInMarks,e1,e2]
def QW{op:CmpOp}{r:R2}(ho:bC X (compareOp op) r)(ha:PE X a ta)(hb:PE X b tb)(hm:behindInMarks op b=false):PE X (.Compare a [op] [b] pos) (tOp r ta tb):=by
 intro pins s σ H Q I h
 exact wpAny_Compare1 (Za5 ha hb I h λv u s2 x y H2 I2 rx ry q=>ho pins s2 σ H2 x y v u Q I2 rx ry q) hm
def Zbd(K:PySem.W.Frag)(x:V)(H:Hp)(k:Bool):Prop:=
 match x with
 | .non=>k=false
 | .bl b=>k=b
 | .int i=>k=(i != 0)
 | .str y=>y.length<=sizeLine/\k=((y.length:Int) != 0)
 | .T_ y=>y.size<=sizeLine/\k=((y.size:Int) != 0)
 | .ref p=>(∃xs,bD K H p xs/\k=!xs.isEmpty)\/(∃xs,iH K H p xs/\k=!xs.isEmpty)\/∃kvs,H p=some (.dK kvs)/\k=!kvs.isEmpty
 |_=>False
def Cm{κ:Type}{kvs:List (κ×V)}{vs:List (κ×Value)}(r:KV kvs vs):(!vs.isEmpty)=!kvs.isEmpty:=by
 cases r<;>rfl
def rH{xs:List V}{its:List Value}(r:Vals xs its):(!its.toArray.isEmpty)=!xs.isEmpty:=by
 cases r<;>simp
def oH:(sizeLine:Nat)<2 ^ 63:=by rw[sizeLine_eq];decide
def Zbe:Zf1 X (λx H Q=>∃k,Zbd X.K x H k/\Q k H):=by
 intro pins s σ H x v Q I rx h
 obtain⟨k,e,q⟩:=h
 have hl:=oH
 have hs:sizeLine=16777216:=sizeLine_eq
 cases x with
 |non=>
  cases rx
  have e':k=false:=e
  subst e'
  exact truthy_none ⟨H,I,q⟩
 |bl b=>
  cases rx
  have e':k=b:=e
  subst e'
  exact wpAny_truthy_bool ⟨H,I,q⟩
 |int i=>
  obtain⟨t,rfl⟩:=rx
  have e':k=(i != 0):=e
  subst e'
  exact PySem.P.truthy_int ⟨H,I,q⟩
 |str y=>
  obtain⟨t,rfl⟩:=rx
  obtain⟨hy,e'⟩:y.length<=sizeLine/\k=((y.length:Int) != 0):=e
  subst e'
  exact PySem.P.truthy_str (by omega) ⟨H,I.tok _,q⟩
 |T_ y=>
  obtain⟨t,rfl⟩:=rx
  obtain⟨hy,e'⟩:y.size<=sizeLine/\k=((y.size:Int) != 0):=e
  subst e'
  exact PySem.W.truthy_bytes (by omega) ⟨H,I.tok _,q⟩
 |ref p=>
  cases rx
  have e':(∃xs,bD X.K H p xs/\k=!xs.isEmpty)\/(∃xs,iH X.K H p xs/\k=!xs.isEmpty)\/∃kvs,H p=some (.dK kvs)/\k=!kvs.isEmpty:=e
  rcases e' with⟨xs,hx,e'⟩|⟨xs,hx,e'⟩|⟨kvs,hx,e'⟩
  ·subst e'
   obtain⟨its,r,pl,hz⟩:=I.list hx
   have hlen:=r.length
   exact wpAny_truthy_list pl.isList (by simp only[List.size_toArray];omega) ⟨H,I.tok _,by rw[rH r];exact q⟩
  ·subst e'
   obtain⟨its,r,pl,hz⟩:=I.tuple hx
   have hlen:=r.length
   exact truthy_tuple pl (by simp only[List.size_toArray];omega) ⟨H,I.tok _,by rw[rH r];exact q⟩
  ·subst e'
   obtain⟨hz,hS,vs,r,m⟩:kvs.length<=sizeLine/\(p== sysModules)=false/\∃vs,KV kvs vs/\s.heap.DictOf (wC X.prog X.w) p vs:=I.hok p _ hx
   have hlen:kvs.length=vs.length:=Paired.length r
   exact wpAny_truthy_dict hS m (by omega) ⟨H,I.tok _,by rw[Cm r];exact q⟩
 |_=>exact(show False from e).elim
def Kl(ha:PE X a ta)(he:∀whole,isTrue a X.env whole=(do let v <-whole;standAt a.pos;holding [v] (truthy v))) :
 PT X a (λσ H Q=>ta σ H λx H'=>∃k,Zbd X.K x H' k/\Q k H'):=by
 intro pins s σ H Q I h
 exact isTrue_plain (Ŷ (ha pins s σ H _ I h) λv s1 ⟨x,H1,I1,r1,q1⟩=>Zbe pins s1 σ H1 x v Q I1 r1 q1) (he _)
def Cp:bC X (binaryOp .Add) (λx y H Q=>∃i j,x=.str i/\y=.str j/\i.length+j.length<=sizeLine/\Q (.str (i++j)) H):=by
 intro pins s σ H x y v u Q I rx ry h
 obtain⟨i,j,rfl,rfl,hz,q⟩:=h
 obtain⟨t,rfl⟩:=rx
 obtain⟨t',rfl⟩:=ry
 exact add_str (λt' tk=>⟨.str (i++j),H,I.tok _,⟨_,rfl⟩,q⟩) hz
def vals1{x:V}{us:List Value}(r:Vals [x] us):∃u,us=[u]/\RelV x u:=by
 cases r with
 |cons r1 r2=>cases r2;exact⟨_,rfl,r1⟩
def vals2{x y:V}{us:List Value}(r:Vals [x,y] us):∃u w',us=[u,w']/\RelV x u/\RelV y w':=by
 cases r with
 |cons r1 r2=>
  cases r2 with
  |cons r3 r4=>cases r4;exact⟨_,_,rfl,r1,r3⟩
def Km:ų X (.builtin "abs") (λxs H Q=>∃i,xs=[.int i]/\Q (.int (if i<0 then -i else i)) H):=by
 intro pins s σ H xs us Q I r h
 obtain⟨i,rfl,q⟩:=h
 obtain⟨u,rfl,t,rfl⟩:=vals1 r
 exact call_abs_int λu tk=>⟨.int (if i<0 then -i else i),H,I.tok _,⟨_,rfl⟩,q⟩
def Jb(hc:X.calm=true):ų X (.builtin "max") (λxs H Q=>∃i j,xs=[.int i,.int j]/\Q (.int (if j>i then j else i)) H):=by
 intro pins s σ H xs us Q I r h
 obtain⟨i,j,rfl,q⟩:=h
 obtain⟨u,w',rfl,⟨t,rfl⟩,⟨t',rfl⟩⟩:=vals2 r
 refine max_two_ints (I.ok.hd hc) λh' tk k=>⟨_,H,I.kept k,?_,q⟩
 by_cases hj:j>i
 ·rw[if_pos hj,if_pos hj];exact⟨_,rfl⟩
 ·rw[if_neg hj,if_neg hj];exact⟨_,rfl⟩
def Jc(hc:X.calm=true):ų X (.builtin "min") (λxs H Q=>∃i j,xs=[.int i,.int j]/\Q (.int (if j<i then j else i)) H):=by
 intro pins s σ H xs us Q I r h
 obtain⟨i,j,rfl,q⟩:=h
 obtain⟨u,w',rfl,⟨t,rfl⟩,⟨t',rfl⟩⟩:=vals2 r
 refine min_two_ints (I.ok.hd hc) λh' tk k=>⟨_,H,I.kept k,?_,q⟩
 by_cases hj:j<i
 ·rw[if_pos hj,if_pos hj];exact⟨_,rfl⟩
 ·rw[if_neg hj,if_neg hj];exact⟨_,rfl⟩
def Jd:ų X (.type "int") (λxs H Q=>(∃i,xs=[.int i]/\Q (.int i) H)\/∃k,xs=[.bl k]/\Q (.int (if k then 1 else 0)) H):=by
 intro pins s σ H xs us Q I r h
 rcases h with⟨i,rfl,q⟩|⟨k,rfl,q⟩
 ·obtain⟨u,rfl,t,rfl⟩:=vals1 r
  exact call_int_int ⟨.int i,H,I,⟨_,rfl⟩,q⟩
 ·obtain⟨u,rfl,r1⟩:=vals1 r
  cases r1
  exact call_int_bool ⟨.int (if k then 1 else 0),H,I.tok _,⟨_,rfl⟩,q⟩
def Zf2(K:PySem.W.Frag)(x:V)(H:Hp)(n:Nat):Prop:=
 match x with
 | .str y=>y.length<=sizeLine/\n=y.length
 | .T_ y=>y.size<=sizeLine/\n=y.size
 | .ref p=>(∃xs,bD K H p xs/\n=xs.length)\/∃xs,iH K H p xs/\n=xs.length
 |_=>False
def Ko:ų X (.builtin "len") (λxs H Q=>∃x n,xs=[x]/\Zf2 X.K x H n/\Q (.int n) H):=by
 intro pins s σ H xs us Q I r h
 obtain⟨x,n,rfl,e,q⟩:=h
 obtain⟨u,rfl,rx⟩:=vals1 r
 have hl:=oH
 have hs:sizeLine=16777216:=sizeLine_eq
 cases x with
 |str y=>
  obtain⟨t,rfl⟩:=rx
  obtain⟨hy,e'⟩:y.length<=sizeLine/\n=y.length:=e
  subst e'
  exact len_str (by omega) ⟨.int _,H,I.tok _,⟨_,rfl⟩,q⟩
 |T_ y=>
  obtain⟨t,rfl⟩:=rx
  obtain⟨hy,e'⟩:y.size<=sizeLine/\n=y.size:=e
  subst e'
  exact PySem.W.len_bytes (by omega) ⟨.int _,H,I.tok _,⟨_,rfl⟩,q⟩
 |ref p=>
  cases rx
  have e':(∃xs,bD X.K H p xs/\n=xs.length)\/∃xs,iH X.K H p xs/\n=xs.length:=e
  rcases e' with⟨xs,hx,e'⟩|⟨xs,hx,e'⟩
  ·subst e'
   obtain⟨its,r',pl,hz⟩:=I.list hx
   have hlen:=r'.length
   exact Calls.call_len_list pl.isList (by simp only[List.size_toArray];omega) ⟨.int xs.length,H,I.tok _,⟨_,by simp only[List.size_toArray];rw[hlen]⟩,q⟩
  ·subst e'
   obtain⟨its,r',pl,hz⟩:=I.tuple hx
   have hlen:=r'.length
   exact len_tuple pl (by simp only[List.size_toArray];omega) ⟨.int xs.length,H,I.tok _,⟨_,by simp only[List.size_toArray];rw[hlen]⟩,q⟩
 |_=>exact(show False from e).elim
end
end L2
namespace L2
open PySem PySem.Spec PyProof.Rows
structure Cq(h:Heap)(x dx C:Addr)(mA:Str->Option Value):Prop where
 obj:h.get? x=some (PySem.W.instObj C dx)
 ns:h.Ns1 dx mA
 ne:dx≠x
def uR{h:Heap}{dx:Addr}{mA:Str->Option Value}(n:h.Ns1 dx mA):∃od,h.get? dx=some od/\∀name,PySem.W.lookIn name od=some (mA name):=by
 obtain⟨o,es,ep,ho,hd,hk,_,hm⟩:=n
 refine⟨o,ho,λname=>?_⟩
 have e:=hm name
 unfold nsFind findBy at e
 rw[<-Array.find?_toList] at e
 unfold PySem.W.lookIn
 rw[hd]
 dsimp only
 split
 ·rename_i y q
  rw[q] at e
  exact congrArg some e
 ·rename_i q
  rw[q] at e
  have a:es.toList.any (·.refKey)=false:=by
   rw[List.any_eq_false]
   intro y hy
   obtain⟨z,t,hkey⟩:=hk y (Array.mem_toList_iff.mp hy)
   simp[DictEntry.refKey,hkey]
  have a':¬es.toList.any (·.refKey)=true:=by rw[a];exact Bool.false_ne_true
  rw[if_neg a']
  exact congrArg some e
def Cq.look{h:Heap}{x dx C:Addr}{mA:Str->Option Value}(I:Cq h x dx C mA):∃od,PySem.W.InstAt h x (PySem.W.instObj C dx) C (some od)/\∀name,PySem.W.lookIn name od=some (mA name):=
 let ⟨od,ho,hl⟩:=uR I.ns
 ⟨od,⟨I.obj,rfl,rfl,ho⟩,hl⟩
section
variable{prog:Program}{w:World}{A:Around}{E:Value->Shared->Prop}{s:Shared}{K:PySem.W.Frag}{x dx C f:Addr}{mA:Str->Option Value}{name:Str}{v:Value}
def get_map{expr:Bool}{Q:Value->Shared->Prop}(X:K.In s.heap)(I:Cq s.heap x dx C mA)(hg:PySem.W.plainGet K C name=true)(hh:PySem.W.hasDictIn K C=true)
 (ha:PySem.W.findIn K (.ref C) name=some none)(hv:mA name=some v)(hv':PySem.W.handedIn v=true)(h:Q v {s with toks:=s.toks+1}) :
 wpAny (model prog w) A (getAttr (.ref x) name expr) Q E s:=by
 obtain⟨od,J,hl⟩:=I.look
 exact PySem.W.get_value X J (PySem.W.plainGet_of hg).1 (PySem.W.findObj_own hh ha rfl (by rw[hl,hv])) hv' h
def Kp{pl:Sem Bool}{Q:Value×List Value->Shared->Prop}(X:K.In s.heap)(I:Cq s.heap x dx C mA)(hg:PySem.W.plainGet K C name=true)
 (hf:PySem.W.findIn K (.ref C) name=some (some (.ref f)))(ht:PySem.W.isFn K (.ref f)=true)(hv:mA name=none)(h:Q (.ref f,[.ref x]) s) :
 wpAny (model prog w) A (getMethod (.ref x) name pl) Q E s:=by
 obtain⟨od,J,hl⟩:=I.look
 exact PySem.W.method_fn X J (PySem.W.plainGet_of hg).1 (PySem.W.plainGet_of hg).2 hf (beq_iff_eq.mp ht) (by show(PySem.W.lookIn name od).map (·.isSome)=some false;rw[hl,hv];rfl) h
def QX{ns:List Str}{Q:Unit->Shared->Prop}(X:K.In s.heap)(I:Cq s.heap x dx C mA)
 (hs:PySem.W.findIn K (.ref C) "__setattr__" =some (some (.builtin "object.__setattr__")))(hp:PySem.W.plainOver K C=true)(ht:PySem.W.takerIn K C name=some none)(hh:PySem.W.hasDictIn K C=true)
 (hw:PySem.Within mA ns)(hsz:ns.length<=sizeLine)
 (h:∀h',Cq h' x dx C (λy=>if y=name then some v else mA y)->Heap.SameBut dx s.heap h'->Q () {s with heap:=h',toks:=s.toks+2}) :
 wpAny (model prog w) A (setAttr (.ref x) name v) Q E s:=by
 obtain⟨od,J,hl⟩:=I.look
 refine PySem.W.set_plain X J hs (PySem.W.osa_open (s:={s with toks:=s.toks+1}) (r:=none) X J hp ht λb=>?_)
 obtain⟨cd,hc,hd'⟩:=PySem.W.any_some hh
 have hx:s.heap.get? x=some ⟨.ref C,some dx,.plain,#[]⟩:=I.obj
 refine wpAny_bind (wpAny_pure (wpAny_bind (wpAny_bind (wpAny_loadPart hx (wpAny_bind (PySem.W.Looks.here (s:={s with toks:=s.toks+1}) (PySem.W.looks_clsIn X hc) ?_))))))
 rw[hd']
 refine wpAny_pure (a:=some dx) (wpAny_bind (wpAny_pure (wpAny_bind ?_)))
 refine wpAny_nsSet1 (s:={s with toks:=s.toks+1}) I.ns λh' hn2 hs2=>?_
 obtain⟨oD,esD,epD,hoD,hdD,hcD⟩:=hn2.count (PySem.Within.cons name v hw)
 refine wpAny_bind (wpAny_lookBehind hoD (by rw[hdD];exact pastItsLine_dict (Nat.le_trans hcD (by rw[List.length_cons];omega))) ?_)
 exact wpAny_pure (h _ ⟨(hs2.2 _ (Ne.symm I.ne)).trans I.obj,hn2,I.ne⟩ hs2)
def Kq{R:Result->Shared->Prop}{vs:List Value}{kw:List (Str×Value)}(X:K.In s.heap)(hm:PySem.W.makesIn K C=true)
 (hi:PySem.W.findIn K (.ref C) "__init__" =some (some (.ref f)))(hf:PySem.W.typeIn K (.ref f)=some (.type "function"))
 (h:codeAny (model prog w) (A.under (.builtin "type.__call__" ⟨.ref C::vs,kw⟩)) (.call (.ref f) ⟨.ref (s.heap.objs.size+1)::vs,kw⟩) (PySem.W.InitBack (s.heap.objs.size+1) R)
   {s with heap:=(s.heap.push PySem.W.emptyDict).push (PySem.W.instObj C s.heap.objs.size)}) :
 codeAny (model prog w) A (.call (.ref C) ⟨vs,kw⟩) R s:=by
 obtain⟨hh,g,d,t,os⟩:=s
 exact PySem.W.make_core (PySem.W.makes_of X hm) (PySem.W.looks_findIn X hi) (λself=>PySem.W.bind_fn X self hf) (.inl rfl) h
end
def cF(f:Str)(v:V):List (Str×V)->List (Str×V)
 | []=>[(f,v)]
 |(g,x)::r=>if g=f then(g,v)::r else(g,x)::cF f v r
theorem jT(f g:Str)(v:V):∀fs:List (Str×V),(cF f v fs).lookup g=if g=f then some v else fs.lookup g
 | []=>by
   show List.lookup g [(f,v)]=_
   by_cases h:g=f
   ·have hb:(g== f)=true:=beq_iff_eq.mpr h
    simp only[List.lookup,hb,if_pos h]
   ·have hb:(g== f)=false:=beq_eq_false_iff_ne.mpr h
    simp only[List.lookup,hb,if_neg h]
 |(k,x)::r=>by
  have ih:=jT f g v r
  rw[show cF f v ((k,x)::r)=(if k=f then(k,v)::r else(k,x)::cF f v r) from rfl]
  by_cases hk:k=f
  ·rw[if_pos hk]
   by_cases h:g=k
   ·have hb:(g== k)=true:=beq_iff_eq.mpr h
    simp only[List.lookup,hb,if_pos (h.trans hk)]
   ·have hb:(g== k)=false:=beq_eq_false_iff_ne.mpr h
    simp only[List.lookup,hb,if_neg (λe:g=f=>h (e.trans hk.symm))]
  ·rw[if_neg hk]
   by_cases h:g=k
   ·have hb:(g== k)=true:=beq_iff_eq.mpr h
    simp only[List.lookup,hb,if_neg (λe:g=f=>hk (h.symm.trans e))]
   ·have hb:(g== k)=false:=beq_eq_false_iff_ne.mpr h
    simp only[List.lookup,hb]
    exact ih
theorem oJ(f:Str)(v:V):∀fs:List (Str×V),f∈(cF f v fs).map (·.1)/\∀g,g∈fs.map (·.1)->g∈(cF f v fs).map (·.1)
 | []=>⟨by simp[cF],λg h=>by simp at h⟩
 |(k,x)::r=>by
  obtain⟨i1,i2⟩:=oJ f v r
  rw[show cF f v ((k,x)::r)=(if k=f then(k,v)::r else(k,x)::cF f v r) from rfl]
  by_cases hk:k=f
  ·rw[if_pos hk]
   subst hk
   exact⟨by simp,λg h=>by simpa using h⟩
  ·rw[if_neg hk]
   refine⟨?_,λg h=>?_⟩
   ·rw[List.map_cons]
    exact List.mem_cons_of_mem _ i1
   ·rw[List.map_cons] at h ⊢
    rcases List.mem_cons.mp h with e|e
    ·exact List.mem_cons.mpr (.inl e)
    ·exact List.mem_cons_of_mem _ (i2 g e)
theorem jU(f:Str)(v:V):∀fs:List (Str×V),(cF f v fs).length<=fs.length+1
 | []=>by simp[cF]
 |(k,x)::r=>by
  have ih:=jU f v r
  rw[show cF f v ((k,x)::r)=(if k=f then(k,v)::r else(k,x)::cF f v r) from rfl]
  by_cases hk:k=f
  ·rw[if_pos hk,List.length_cons,List.length_cons];omega
  ·rw[if_neg hk,List.length_cons,List.length_cons];omega
def oE.some_of{v:V}{o:Option Value}(r:oE (some v) o):∃u,o=some u/\RelV v u:=by
 cases o with
 |none=>exact(show False from r).elim
 |some u=>exact⟨u,rfl,r⟩
def oE.none_of{o:Option Value}(r:oE none o):o=none:=by
 cases o with
 |none=>rfl
 |some u=>exact(show False from r).elim
def Je{v:V}{u:Value}(r:RelV v u):PySem.W.handedIn u=true:=by
 cases v with
 |non=>cases(show u=Value.none from r);rfl
 |bl b=>cases(show u=Value.bool b from r);rfl
 |int i=>obtain⟨t,e⟩:=(show ∃t,u=Value.int i t from r);cases e;rfl
 |str x=>obtain⟨t,e⟩:=(show ∃t,u=Value.str x t from r);cases e;rfl
 |T_ b=>obtain⟨t,e⟩:=(show ∃t,u=Value.bytes b t from r);cases e;rfl
 |flt b=>obtain⟨t,e⟩:=(show ∃t,u=Value.float b t from r);cases e;rfl
 |ref a=>cases(show u=Value.ref a from r);rfl
 |ty n=>cases(show u=Value.type n from r);rfl
section
variable{P:Program}{w:World}{H H':Hp}{h h':Heap}{a C dx:Addr}{fs fs':List (Str×V)}
def qR(hok:jK P w H h)(e:H a=some (.ins C dx fs)):∃mA,Cq h a dx C mA/\(∀f,oE (fs.lookup f) (mA f))/\PySem.Within mA (fs.map (·.1))/\fs.length<=1000/\H dx=some (.own a):=by
 obtain⟨d,z,ne,ob,mA,n,r,q⟩:=(show aQ P w H h a (.ins C dx fs) from hok a _ e)
 exact⟨mA,⟨ob,n,ne⟩,r,q,z,d⟩
end
structure Cls(K:PySem.W.Frag)(C:Addr):Prop where
 pg:PySem.W.plainGet K C Str.empty=true
 hd:PySem.W.hasDictIn K C=true
 po:PySem.W.plainOver K C=true
 sa:PySem.W.findIn K (.ref C) "__setattr__" =some (some (.builtin "object.__setattr__"))
def Cls.get{K:PySem.W.Frag}{C:Addr}(c:Cls K C)(f:Str):PySem.W.plainGet K C f=true:=c.pg
def Ő(K:PySem.W.Frag)(C:Addr)(f:Str):Prop:=PySem.W.findIn K (.ref C) f=some none
def Ő.taker{K:PySem.W.Frag}{C:Addr}{f:Str}(n:Ő K C f):PySem.W.takerIn K C f=some none:=by
 unfold PySem.W.takerIn
 rw[show PySem.W.findIn K (.ref C) f=some none from n]
 rfl
structure Meth(K:PySem.W.Frag)(C:Addr)(m:Str)(f:Addr):Prop where
 at_:PySem.W.findIn K (.ref C) m=some (some (.ref f))
 fn:PySem.W.isFn K (.ref f)=true
 kp:PySem.W.keepIn K (.ref f)=true
section
variable{X:Cx}{pins:List (Addr×Obj)}{σ:St}{H:Hp}{s:Shared}{a C dx:Addr}{fs:List (Str×V)}{f:Str}{v:V}{A:Around}{E:Value->Shared->Prop}
def Cr{b:Bool}{Q:Value->Shared->Prop}(I:Inv X pins σ H s)(e:H a=some (.ins C dx fs))(c:Cls X.K C)(n:Ő X.K C f)(l:fs.lookup f=some v)
 (h:∀u s',Inv X pins σ H s'->RelV v u->Q u s'):wpAny (model X.prog X.w) A (getAttr (.ref a) f b) Q E s:=by
 obtain⟨mA,O,r,_,_,_⟩:=qR I.hok e
 obtain⟨u,hu,ru⟩:=oE.some_of (v:=v) (o:=mA f) (by rw[<-l];exact r f)
 exact get_map I.jR O (c.get f) c.hd n hu (Je ru) (h u _ (I.tok _) ru)
def Cu{m:Str}{g:Addr}{pl:Sem Bool}{Q:Value×List Value->Shared->Prop}(I:Inv X pins σ H s)(e:H a=some (.ins C dx fs))(c:Cls X.K C)(k:Meth X.K C m g)(l:fs.lookup m=none)
 (h:Q (.ref g,[.ref a]) s):wpAny (model X.prog X.w) A (getMethod (.ref a) m pl) Q E s:=by
 obtain⟨mA,O,r,_,_,_⟩:=qR I.hok e
 have hn:mA m=none:=oE.none_of (by rw[<-l];exact r m)
 exact Kp I.jR O (c.get m) k.at_ k.fn hn h
def Cv{y:V}{u:Value}{Q:Unit->Shared->Prop}(I:Inv X pins σ H s)(e:H a=some (.ins C dx fs))(c:Cls X.K C)(n:Ő X.K C f)(hl:fs.length<1000)(ry:RelV y u)
 (h:∀s',Inv X pins σ (upd H a (.ins C dx (cF f y fs))) s'->Q () s'):wpAny (model X.prog X.w) A (setAttr (.ref a) f u) Q E s:=by
 obtain⟨mA,O,r,wi,_,ho⟩:=qR I.hok e
 have hz:(fs.map (·.1)).length<=sizeLine:=by rw[List.length_map,sizeLine_eq];omega
 refine QX I.jR O c.sa c.po n.taker c.hd wi hz λh' O' sb=>h _ ?_
 have hd:∃o,h'.get? dx=some o:=let ⟨o,_,_,e',_⟩:=O'.ns;⟨o,e'⟩
 refine I.write (x:=a) (e:=dx) (by rw[e];exact True.intro) (.inr ho) (λb q hb z=>(sb.2 b hb).trans z) hd ?_
 refine⟨by rw[ě O.ne];exact ho,?_,O.ne,O'.obj,_,O'.ns,λg=>?_,λg hg=>?_⟩
 ·have:=jU f y fs;omega
 ·show oE ((cF f y fs).lookup g) (if g=f then some u else mA g)
  rw[jT]
  by_cases q:g=f
  ·rw[if_pos q,if_pos q];exact ry
  ·rw[if_neg q,if_neg q];exact r g
 ·by_cases q:g=f
  ·rw[q];exact(oJ f y fs).1
  ·refine(oJ f y fs).2 g (wi g λz=>hg ?_)
   show(if g=f then some u else mA g)=none
   rw[if_neg q];exact z
def Inv.made(I:Inv X pins σ H s):Inv X pins σ (upd (upd H s.heap.objs.size (.own (s.heap.objs.size+1))) (s.heap.objs.size+1) (.ins C s.heap.objs.size []))
 {s with heap:=(s.heap.push PySem.W.emptyDict).push (PySem.W.instObj C s.heap.objs.size)}:=by
 have e1:(s.heap.push PySem.W.emptyDict).get? s.heap.objs.size=some PySem.W.emptyDict:=Heap.get?_push_size s.heap rfl
 have e2:((s.heap.push PySem.W.emptyDict).push (PySem.W.instObj C s.heap.objs.size)).get? (s.heap.objs.size+1)=some (PySem.W.instObj C s.heap.objs.size):=by
  have:=Heap.get?_push_size (s.heap.push PySem.W.emptyDict) (o:=PySem.W.instObj C s.heap.objs.size) rfl
  rwa [Heap.size_push] at this
 have e3:(s.heap.push PySem.W.emptyDict).Ns s.heap.objs.size (λ_=>none):=⟨PySem.W.emptyDict,#[],_,e1,rfl,(λe he=>absurd he (by simp)),λ_=>rfl⟩
 have I1:=I.laid (a:=s.heap.objs.size) (o:=.own (s.heap.objs.size+1)) (h':=s.heap.push PySem.W.emptyDict) (t':=s.toks) (λb u q=>Heap.get?_push_of_some _ q) (Nat.le_refl _) ⟨_,e1⟩
 refine I1.laid (a:=s.heap.objs.size+1) (o:=.ins C s.heap.objs.size []) (t':=s.toks) (λb u q=>Heap.get?_push_of_some _ q) (Nat.le_of_eq (Heap.size_push _ _)) ?_
 have ne:s.heap.objs.size≠s.heap.objs.size+1:=Nat.ne_of_lt (Nat.lt_succ_self _)
 refine⟨by rw[ě ne,ĭ],Nat.zero_le _,ne,e2,λ_=>none,(Heap.Ns1.of_empty e3).at λo q=>Heap.get?_push_of_some _ q,λ_=>True.intro,λy hy=>absurd rfl hy⟩
def QZ{prog:Program}{w:World}{env:Env}{e:Expr}{f:Str}{pos:Pos}{s:Shared}{Q:Value->Shared->Prop}(hb:attributeBase e f env (eval e env)=eval e env)
 (h:wpAny (model prog w) A (eval e env) (λo s₁=>wpAny (model prog w) A (getAttr o f true) Q E s₁) E s):wpAny (model prog w) A (eval (.Attribute e f pos) env) Q E s:=
 Attribute_any_ h (by rw[arm_eval_Attribute,hb])
end
def Zf3(K:PySem.W.Frag)(ta:TE)(f:Str):TE:=λσ H Q=>ta σ H λx H1=>∃a C dx fs v,x=.ref a/\H1 a=some (.ins C dx fs)/\Cls K C/\Ő K C f/\fs.lookup f=some v/\Q v H1
def Zf4(K:PySem.W.Frag)(ta tv:TE)(f:Str):TS:=λD σ H=>tv σ H λy H1=>ta σ H1 λx H2=>∃a C dx fs,x=.ref a/\H2 a=some (.ins C dx fs)/\Cls K C/\Ő K C f/\fs.length<1000/\
 D.nx σ (upd H2 a (.ins C dx (cF f y fs)))
section
variable{X:Cx}{o e value:Expr}{f:Str}{pos pos' tpos:Pos}{ta tv:TE}
def Zbf(he:PE X e ta)(hb:attributeBase e f X.env (eval e X.env)=eval e X.env):PE X (.Attribute e f pos) (Zf3 X.K ta f):=by
 intro pins s σ H Q I h
 refine QZ hb (Ŷ (he pins s σ H _ I h) λu s1 ⟨x,H1,I1,rx,a,C,dx,fs,v,ex,ea,c,n,l,q⟩=>?_)
 subst ex
 obtain rfl:u=Value.ref a:=rx
 exact Cr I1 ea c n l λu' s2 I2 ru=>⟨v,H1,I2,ru,q⟩
def Zbg(ha:PE X o ta)(hv:PE X value tv)(hs:swapsWith value (some (.Attribute o f pos')) pos.line X.env=pure false):PS X (.Assign [.Attribute o f pos'] value pos) (Zf4 X.K ta tv f):=by
 intro pins s σ H D I h
 refine plainObj_wpAny_Assign_Attribute (Ŷ (hv pins s σ H _ I h) λu s1 ⟨y,H1,I1,ry,q⟩=>Ŷ (ha pins s1 σ H1 _ I1 q) λov s2 ⟨x,H2,I2,rx,a,C,dx,fs,ex,ea,c,n,l,q2⟩=>?_) hs
 subst ex
 obtain rfl:ov=Value.ref a:=rx
 exact Cv I2 ea c n l ry λs3 I3=>⟨σ,_,I3,q2⟩
end
section
variable{X:Cx}{pins:List (Addr×Obj)}{σ:St}{H:Hp}{s:Shared}{A:Around}{E:Value->Shared->Prop}{Q:Value->Shared->Prop}{c:Value}{b:Bool}
inductive oK(K:PySem.W.Frag)(H:Hp):V->Value->Prop where
 |non:oK K H .non (.type "NoneType")
 |bl (x:Bool):oK K H (.bl x) (.type "bool")
 |int (i:Int):oK K H (.int i) (.type "int")
 |str (x:Str):oK K H (.str x) (.type "str")
 |flt (x:UInt64):oK K H (.flt x) (.type "float")
 |lst {a:Addr} {xs:List V} (e:H a=some (.lst xs)):oK K H (.ref a) (.type "list")
 |h_ {a:Addr} {o:Obj} {xs:List V} (e:H a=some (.h_ o (.lst xs))):oK K H (.ref a) (.type "list")
 |tup {a:Addr} {xs:List V} (e:H a=some (.tup xs)):oK K H (.ref a) (.type "tuple")
 |dK {a:Addr} {kvs:List (Key×V)} (e:H a=some (.dK kvs)):oK K H (.ref a) (.type "dict")
 |dT {a:Addr} {kvs:List (List Key×V)} (e:H a=some (.dT kvs)):oK K H (.ref a) (.type "dict")
 |ins {a C dx:Addr} {fs:List (Str×V)} (e:H a=some (.ins C dx fs)) (cl:Cls K C) (ha:PySem.W.findIn K (.ref C) "__class__" =some (some (.builtin "object.__class__")))
   (hn:PySem.W.specialIn K (.builtin "object.__class__") "__get__" =some (some (.builtin "getset_descriptor.__get__"))) (htk:PySem.W.takesIn K (.builtin "object.__class__")=some true)
   (hm:PySem.W.mroIn K C (.type "object")=some true):oK K H (.ref a) (.ref C)
def iJ{x:V}{u t:Value}(I:Inv X pins σ H s)(rx:RelV x u)(ty:oK X.K H x t)(e:PySem.W.kitOne X.K t c=some b)(h:∀tk,Q (.bool b) {s with toks:=tk}) :
 wpAny (model X.prog X.w) A (call (.builtin "isinstance") [u,c]) Q E s:=by
 cases ty with
 |non=>cases(show u=Value.none from rx);exact PySem.W.kia_one PySem.W.kitx_none I.jR True.intro e (λz=>nomatch z) h
 |bl y=>cases(show u=Value.bool y from rx);exact PySem.W.kia_one PySem.W.kitx_bool I.jR True.intro e (λz=>nomatch z) h
 |int i=>obtain⟨t,q⟩:=(show ∃t,u=Value.int i t from rx);cases q;exact PySem.W.kia_one PySem.W.kitx_int I.jR True.intro e (λz=>nomatch z) h
 |str y=>obtain⟨t,q⟩:=(show ∃t,u=Value.str y t from rx);cases q;exact PySem.W.kia_one PySem.W.kitx_str I.jR True.intro e (λz=>nomatch z) h
 |flt y=>obtain⟨t,q⟩:=(show ∃t,u=Value.float y t from rx);cases q;exact PySem.W.kia_one PySem.W.kitx_float I.jR True.intro e (λz=>nomatch z) h
 |@lst a xs ea=>
  cases(show u=Value.ref a from rx)
  obtain⟨_,_,n,_,h1⟩:=(show aQ X.prog X.w H s.heap a (.lst xs) from I.hok a _ ea)
  exact PySem.W.kia_one PySem.W.kitx_list I.jR ⟨_,h1,rfl⟩ e (λz=>nomatch z) h
 |@h_ a ob xs ea=>
  cases(show u=Value.ref a from rx)
  obtain⟨_,_,_,n,_,h1⟩:=(show aQ X.prog X.w H s.heap a (.h_ ob (.lst xs)) from I.hok a _ ea)
  exact PySem.W.kia_one PySem.W.kitx_list I.jR ⟨_,h1,rfl⟩ e (λz=>nomatch z) h
 |@tup a xs ea=>
  cases(show u=Value.ref a from rx)
  obtain⟨_,_,_,p⟩:=(show aQ X.prog X.w H s.heap a (.tup xs) from I.hok a _ ea)
  obtain⟨o,h1,h2,_⟩:=p
  exact PySem.W.kia_one PySem.W.kitx_tuple I.jR ⟨o,h1,h2⟩ e (λz=>nomatch z) h
 |@dK a kvs ea=>
  cases(show u=Value.ref a from rx)
  obtain⟨_,_,vs,_,p⟩:=(show aQ X.prog X.w H s.heap a (.dK kvs) from I.hok a _ ea)
  obtain⟨o,es,ep,h1,h2,_⟩:=p
  exact PySem.W.kia_one PySem.W.kitx_dict I.jR ⟨o,h1,h2.1⟩ e (λz=>nomatch z) h
 |@dT a kvs ea=>
  cases(show u=Value.ref a from rx)
  obtain⟨_,_,xs,_,o,es,ep,h1,h2,_⟩:=(show aQ X.prog X.w H s.heap a (.dT kvs) from I.hok a _ ea)
  exact PySem.W.kia_one PySem.W.kitx_dict I.jR ⟨o,h1,h2.1⟩ e (λz=>nomatch z) h
 |@ins a C dx fs ea cl ha hn htk hm=>
  cases(show u=Value.ref a from rx)
  obtain⟨mA,O,_⟩:=qR I.hok ea
  obtain⟨od,J,_⟩:=O.look
  exact PySem.W.kia_one (PySem.W.kitx_own (cl.get _) cl.hd ha hn htk hm) I.jR J e (λz=>nomatch z) h
end
end L2
namespace L2
open PySem PySem.Spec PyProof.Rows
structure aR(k:Nat)(A:Around):Prop where
 hd:A.handled=none
 dp:A.depth+3*k+5<recursionLimit
 un:A.units+16*k+200<cLine
def aR.mono{j k:Nat}{A:Around}(r:aR k A)(h:j<=k):aR j A:=⟨r.hd,by have:=r.dp;omega,by have:=r.un;omega⟩
def aR.mo{j k:Nat}{A:Around}(r:aR k A)(h:j<=k:= by decide):aR j A:= r.mono h
theorem aR.deeper{k:Nat}{A:Around}(r:aR (k+1) A)(env:Env):aR k (A.deeper env):=
 ⟨r.hd,by have:=r.dp;show A.depth+1+3*k+5<_;omega,by have:=r.un;show A.units+3+16*k+200<_;omega⟩
theorem aR.in1{k:Nat}{A:Around}(r:aR (k+1) A):aR k A.in1:=
 ⟨r.hd,by have:=r.dp;show A.depth+3*k+5<_;omega,by have:=r.un;show A.units+1+16*k+200<_;omega⟩
def Cw{A:Around}{C:Addr}{us:List Value}{kw:List (Str×Value)}:(A.under (.builtin "type.__call__" ⟨.ref C::us,kw⟩)).depth=A.depth+1:=by
 first|rfl|simp[Around.under,Code.weight,Code.isCreation,Code.isGuard,Code.isCaller,Code.frames,Code.isFrame,guardIds]
def Cy{A:Around}{C:Addr}{us:List Value}{kw:List (Str×Value)}:(A.under (.builtin "type.__call__" ⟨.ref C::us,kw⟩)).units=A.units+1:=by
 first|rfl|simp[Around.under,Code.cUnits,Code.frames,Code.isFrame]
def aR.make{k:Nat}{A:Around}(r:aR (k+1) A)(C:Addr)(us:List Value)(kw:List (Str×Value)):aR k (A.under (.builtin "type.__call__" ⟨.ref C::us,kw⟩)):=
 ⟨r.hd,by have:=r.dp;rw[Cw];omega,by have:=r.un;rw[Cy];omega⟩
theorem aR.depth{k:Nat}{A:Around}(r:aR k A):A.depth<recursionLimit:=by have:=r.dp;omega
theorem aR.units{k:Nat}{A:Around}(r:aR k A):A.units+64<cLine:=by have:=r.un;omega
def ZdG:TA:=λ_ H Q=>Q [] H
def Ud(ta:TE)(tr:TA):TA:=λσ H Q=>ta σ H λx H1=>tr σ H1 λxs H2=>Q (x::xs) H2
section
variable{X:Cx}{e:Expr}{es:List Expr}{te:TE}{t:TA}{pos:Pos}
def mQ:PA X [] ZdG:=λ_ _ _ _ H Q I h=>Calls.spliced_nil ⟨[],H,I,.nil,h⟩
def fH(ha:PE X e te)(hr:PA X es t)(hs:starEach (e::es) X.env=(false,eval e X.env)::starEach es X.env:=by rfl):PA X (e::es) (Ud te t):=by
 intro pos pins s σ H Q I h
 rw[hs]
 show wpAny _ _ (spliced ((false,eval e X.env)::backTo pos (starEach es X.env))) _ _ s
 refine Calls.spliced_cons (Ŷ (ha pins s σ H _ I h) λu s1 ⟨x,H1,I1,r1,q1⟩=>?_)
 exact Ŷ (hr pos pins s1 σ H1 _ I1 q1) λus s2 ⟨xs,H2,I2,r2,q2⟩=>⟨x::xs,H2,I2,.cons r1 r2,q2⟩
def Zf5(t:TA):TE:=λσ H Q=>t σ H λxs H1=>xs.length<=sizeLine/\∀p,H1 p=none->Q (.ref p) (upd H1 p (.tup xs))
def Zf6(t:TA):TE:=λσ H Q=>t σ H λxs H1=>xs.length<=sizeLine/\∀p,H1 p=none->Q (.ref p) (upd H1 p (.lst xs))
def Zbh{x1}(h:PA X es t):PE X (.Tuple es x1 pos) (Zf5 t):=by
 intro pins s σ H Q I hq
 refine wpAny_Tuple_spliced (Ŷ (h pos pins s σ H _ I hq) λus s1 ⟨xs,H1,I1,r,z,q⟩=>⟨by rw[<-r.length];exact z,?_⟩)
 have hf:H1 s1.heap.objs.size=none:=I1.hok.fresh (Nat.le_refl _)
 refine⟨.ref s1.heap.objs.size,upd H1 s1.heap.objs.size (.tup xs),I1.laid (t':=s1.toks) (λb u e=>Heap.get?_push_of_some _ e) (Nat.le_refl _) ?_,rfl,q _ hf⟩
 exact⟨z,us,r,⟨_,Heap.get?_push_size _ rfl,rfl,_,rfl⟩⟩
def Zbi(h:PA X es t):PE X (.List es pos) (Zf6 t):=by
 intro pins s σ H Q I hq
 refine wpAny_List_spliced (Ŷ (h pos pins s σ H _ I hq) λus s1 ⟨xs,H1,I1,r,z,q⟩=>⟨by rw[<-r.length];exact z,?_⟩)
 have hf:H1 s1.heap.objs.size=none:=I1.hok.fresh (Nat.le_refl _)
 refine⟨.ref s1.heap.objs.size,upd H1 s1.heap.objs.size (.lst xs),I1.laid (t':=s1.toks) (λb u e=>Heap.get?_push_of_some _ e) (Nat.le_refl _) ?_,rfl,q _ hf⟩
 exact⟨z,us,0,r,Heap.get?_push_size _ rfl⟩
end
abbrev Sp:=List V->Hp->VK->XK->Prop
abbrev pN:=List Env->Hp->Shared->XK->Value->Shared->Prop
structure Cz(P:Program)(w:World)(K:PySem.W.Frag)(mg:Str->Option Value)(base:Heap)(A:Around)(outer:List Env)(s:Shared)(H:Hp):Prop where
 frames:A.frames=some outer
 mod:Mod K mg base
 bs:∀b o,base.get? b=some o->s.heap.get? b=some o/\H b=none
 Qs:base.objs.size<=s.heap.objs.size
 qw:s.heap.FunFrames base outer
 frf:∀b∈frs outer,H b=none
 hok:jK P w H s.heap
 bare:AllBare s.gens
 tb:TabsOk K mg base H
def CE(outer:List Env)(P:Program)(w:World)(H:Hp)(s:Shared)(Q:VK)(u:Value)(s':Shared):Prop:=
 ∃v H',s'.os=s.os/\AllBare s'.gens/\Un (frs outer) [] H H' s.heap s'.heap/\jK P w H' s'.heap/\RelV v u/\Q v H'
def CR(CX:pN)(outer:List Env)(P:Program)(w:World)(H:Hp)(s:Shared)(Q:VK)(E:XK)(r:Result)(s':Shared):Prop:=
 match r with
 | .ok (.ret u)=>CE outer P w H s Q u s'
 | .ok _=>False
 | .error e=>CX outer H s E e s'
structure Į(P:Program)(w:World)(K:PySem.W.Frag)(mg:Str->Option Value)(base:Heap)(CX:pN)(k:Nat)(f:Addr)(fd:FuncData)(ps:List Str)(sp:Sp):Prop where
 len:∀vs H Q E,sp vs H Q E->vs.length=ps.length
 run:∀(A:Around) (outer:List Env) (s:Shared) (H:Hp) (args:Args) (us:List Value) (vs:List V) (Q:VK) (E:XK),aR k A->Cz P w K mg base A outer s H->BindsTo s fd args (ps.zip us)->Vals vs us->sp vs H Q E->
  codeAny (model P w) A (.call (.ref f) args) (CR CX outer P w H s Q E) s
theorem Į.mono{P:Program}{w:World}{K:PySem.W.Frag}{mg:Str->Option Value}{base:Heap}{CX:pN}{j k:Nat}{f:Addr}{fd:FuncData}{ps:List Str}{sp:Sp}(F:Į P w K mg base CX j f fd ps sp)(h:j<=k) :
 Į P w K mg base CX k f fd ps sp:=⟨F.len,λA outer s H args us vs Q E hr=>F.run A outer s H args us vs Q E (hr.mono h)⟩
def Į.imp{P:Program}{w:World}{K:PySem.W.Frag}{mg:Str->Option Value}{base:Heap}{CX:pN}{k:Nat}{f:Addr}{fd:FuncData}{ps:List Str}{sp sp':Sp}(F:Į P w K mg base CX k f fd ps sp)
 (h:∀vs H Q E,sp' vs H Q E->sp vs H Q E):Į P w K mg base CX k f fd ps sp':=
 ⟨λvs H Q E q=>F.len vs H Q E (h _ _ _ _ q),λA outer s H args us vs Q E hr he hb hv hs=>F.run A outer s H args us vs Q E hr he hb hv (h _ _ _ _ hs)⟩
def Cz.make{P:Program}{w:World}{K:PySem.W.Frag}{mg:Str->Option Value}{base:Heap}{A:Around}{outer:List Env}{s:Shared}{H:Hp}(e:Cz P w K mg base A outer s H)(C:Addr)(us:List Value)(kw:List (Str×Value)) :
 Cz P w K mg base (A.under (.builtin "type.__call__" ⟨.ref C::us,kw⟩)) outer s H:=⟨by first|exact e.frames|(simpa[Around.under,Code.envs,Code.isFrame,pushEnvs] using e.frames),e.mod,e.bs,e.Qs,e.qw,e.frf,e.hok,e.bare,e.tb⟩
section
variable{X:Cx}{pins:List (Addr×Obj)}{σ:St}{H:Hp}{s s':Shared}
def Inv.env0(I:Inv X pins σ H s):Cz X.prog X.w X.K X.mg X.base X.A X.stack s H:=
 ⟨I.ok.frames,I.ok.mod,I.bs,Nat.le_trans I.ok.Qs I.sz,I.stack,I.qP,I.hok,I.bare,I.tb⟩
def Inv.after{Q:VK}{u:Value}(I:Inv X pins σ H s)(h:CE X.stack X.prog X.w H s Q u s'):EP X pins σ Q u s':=by
 obtain⟨v,H',os,bare,un,hok,r,q⟩:=h
 obtain⟨hh,g,d,t,os'⟩:=s'
 obtain rfl:os'=s.os:=os
 exact⟨v,H',I.call (h':=hh) (g':=g) (d':=d) (t':=t) (ch:=[]) un hok bare (λb z=>absurd z (by simp)),r,q⟩
end
def Binds(K:PySem.W.Frag)(fd:FuncData)(ps:List Str)(ds:List Value):Prop:=
 ∀(s:Shared) (us:List Value),K.In s.heap->(us++ds).length=ps.length->BindsTo s fd ⟨us,[]⟩ (ps.zip (us++ds))
def Binds.all{K:PySem.W.Frag}{fd:FuncData}{ps:List Str}(h:∀us:List Value,us.length=ps.length->bindArgs fd ⟨us,[]⟩=pure (ps.zip us)):Binds K fd ps []:=λs us _ hl=>by
 rw[List.append_nil] at hl ⊢
 exact .of_eq (h us hl)
section
variable{X:Cx}{CX:pN}{k:Nat}{f C:Addr}{fd:FuncData}{ps:List Str}{sp:Sp}{dvs:List V}{ds:List Value}{E:XK}{x m:Str}{p pos apos:Pos}{e o:Expr}{es:List Expr}{ta:TE}{t:TA}
structure Mk(K:PySem.W.Frag)(C f:Addr):Prop where
 makes:PySem.W.makesIn K C=true
 init:PySem.W.findIn K (.ref C) "__init__" =some (some (.ref f))
 fn:PySem.W.isFn K (.ref f)=true
 kp:PySem.W.keepIn K (.ref C)=true
end
section
variable{X:Cx}{CX:pN}{k:Nat}{f C:Addr}{fd:FuncData}{ps ks:List Str}{sp:Sp}{E:XK}{x m:Str}{p pos apos kpos:Pos}{e o:Expr}{es:List Expr}{kws:List Keyword}{te ta:TE}{t tk:TA}{nm:Option Str}
variable{g:List Value->List Value->List Value}{gV:List V->List V->List V}
end
structure ē(N P:List Str)(sc:Scope):Prop where
 kind:sc.kind=.function
 co:sc.isCoroutine=false
 gen:sc.isGenerator=false
 nd:N.Nodup
 pre:N.take P.length=P
 par:∀x∈P,sc.names.lookup x=some .local\/sc.names.lookup x=some .cell
 Zbj:∀y∈sc.names,y.2≠ .free
theorem uT{kindOf:Str->Option NameKind}{x:Str}:∀{binds:List (Str×Value)} {m:Str->Option Value},(∀v,(x,v)∉binds)->bindL kindOf binds m x=m x
 | [],_,_=>rfl
 |(n,v)::r,m,h=>by
  unfold bindL
  rw[uT λw hw=>h w (List.mem_cons_of_mem _ hw)]
  split
  ·have:x≠n:=by rintro rfl;exact h v List.mem_cons_self
   simp[this]
  ·rfl
theorem uU{kindOf:Str->Option NameKind}{x:Str}:∀{binds:List (Str×Value)} {m:Str->Option Value},(∀v,(x,v)∉binds)->bindC kindOf binds m x=m x
 | [],_,_=>rfl
 |(n,v)::r,m,h=>by
  unfold bindC
  rw[uU λw hw=>h w (List.mem_cons_of_mem _ hw)]
  split
  ·rfl
  ·have:x≠n:=by rintro rfl;exact h v List.mem_cons_self
   simp[this]
theorem uV{kindOf:Str->Option NameKind}{x:Str}{v:Value}:∀{P:List Str} {vs:List Value} {i:Nat} {m:Str->Option Value},P.Nodup->P[i]?=some x->vs[i]?=some v->kindOf x=some .local->
 bindL kindOf (P.zip vs) m x=some v
 | [],_,_,_,_,h,_,_=>by simp at h
 |_::_,[],_,_,_,_,h,_=>by simp at h
 |p::P,w::vs,0,m,nd,h1,h2,hk=>by
  simp at h1 h2;subst h1;subst h2
  show bindL kindOf ((p,w)::P.zip vs) m p=_
  unfold bindL
  rw[uT λv hv=>(List.nodup_cons.mp nd).1 (List.of_mem_zip hv).1,if_pos hk]
  simp
 |p::P,w::vs,i+1,m,nd,h1,h2,hk=>by
  show bindL kindOf ((p,w)::P.zip vs) m x=_
  unfold bindL
  exact uV (i:=i) (List.nodup_cons.mp nd).2 (by simpa using h1) (by simpa using h2) hk
theorem uW{kindOf:Str->Option NameKind}{x:Str}{v:Value}:∀{P:List Str} {vs:List Value} {i:Nat} {m:Str->Option Value},P.Nodup->P[i]?=some x->vs[i]?=some v->kindOf x≠some .local->
 bindC kindOf (P.zip vs) m x=some v
 | [],_,_,_,_,h,_,_=>by simp at h
 |_::_,[],_,_,_,_,h,_=>by simp at h
 |p::P,w::vs,0,m,nd,h1,h2,hk=>by
  simp at h1 h2;subst h1;subst h2
  show bindC kindOf ((p,w)::P.zip vs) m p=_
  unfold bindC
  rw[uU λv hv=>(List.nodup_cons.mp nd).1 (List.of_mem_zip hv).1,if_neg hk]
  simp
 |p::P,w::vs,i+1,m,nd,h1,h2,hk=>by
  show bindC kindOf ((p,w)::P.zip vs) m x=_
  unfold bindC
  exact uW (i:=i) (List.nodup_cons.mp nd).2 (by simpa using h1) (by simpa using h2) hk
def start(N:List Str)(vs:List V):St:=vs.map some++List.replicate (N.length-vs.length) none
def dj(CX:pN)(P:Program)(w:World)(K:PySem.W.Frag)(mg:Str->Option Value)(base:Heap)(N:List Str)(qual:Str)(scope:Scope)(f:Addr)(cd:Value)(A:Around)(outer:List Env)(s:Shared)(H:Hp)(E:XK):Cx where
 prog:=P
 w:=w
 K:=K
 mg:=mg
 base:=base
 A:=A.deeper (envOfC qual scope s.heap.objs.size f cd)
 N:=N
 s₀:= s
 H₀:= H
 env:=envOfC qual scope s.heap.objs.size f cd
 outer:=outer
 stack:=envOfC qual scope s.heap.objs.size f cd::outer
 ex:=[]
 calm:=true
 fn:=λ_=>true
 pn:=[]
 xe:=λe s'=>wpAny (model P w) (A.deeper (envOfC qual scope s.heap.objs.size f cd)) (leaving (envOfC qual scope s.heap.objs.size f cd) e) (λ_ s''=>CX outer H s E e s'') (λe' s''=>CX outer H s E e' s'') s'
def nC{sc:Scope}{n:Nat}{x:Str}(h:sc.names.lookup x=some .cell):∃c,(cellsFrom n sc.names []).lookup x=some c:=by
 have q:=PySem.W.cellsFrom_some sc.names n [] (.inl h)
 exact Option.isSome_iff_exists.mp q
def Jf{CX:pN}{P:Program}{w:World}{K:PySem.W.Frag}{mg:Str->Option Value}{base:Heap}{N ps:List Str}{qual:Str}{scope:Scope}{f:Addr}{cd:Value}{A:Around}{outer:List Env}{s s1:Shared}{H:Hp}{E:XK}{us:List Value}{vs:List V}
 (S:ē N ps scope)(hd:A.handled=none)(e0:Cz P w K mg base A outer s H)(hl:vs.length=ps.length)(r:Vals vs us)
 (x:InCallC s s.heap.objs.size (bindL (envOfC qual scope s.heap.objs.size f cd).kindOf (ps.zip us) λ_=>none) (cellsFrom (s.heap.objs.size+1) scope.names []) (bindC (envOfC qual scope s.heap.objs.size f cd).kindOf (ps.zip us) λ_=>none) s1) :
 Inv (dj CX P w K mg base N qual scope f cd A outer s H E) [] (start N vs) H s1:=by
 have hpl:ps.length<=N.length:=by have:=congrArg List.length S.pre;rw[List.length_take] at this;omega
 obtain⟨h1,tk,rfl,hk⟩:=x.done
 have noA:∀b:Addr,b∉(dj CX P w K mg base N qual scope f cd A outer s H E).ex:=λb z=>absurd (show b∈([]:List Addr) from z) (by simp)
 refine⟨⟨e0.mod,S.kind,rfl,rfl,Nat.le_refl _,λy z c h1 h2=>?_,λy hy=>?_,λy c _ h=>?_,λ_=>hd,Around.frames_deeper e0.frames,.inr ⟨rfl,rfl⟩,λb z=>absurd z (noA b),e0.bs,e0.Qs,λb _ _=>noA b,λb z=>absurd z (noA b),e0.qw,e0.frf,e0.tb⟩,
  rfl,e0.bare,Un.kept hk,⟨_,x.toInCall.ns,λi y v h1 h2 h3=>?_⟩,λy c h=>⟨_,x.cell y c h⟩,e0.hok.fresh (Nat.le_refl _),λy c h=>?_,λp hp=>absurd (show p∈([]:List (Addr×Obj)) from hp) (by simp),e0.hok.kept hk,?_⟩
 ·exact name_of_addr x.apart (PySem.mem_of_lookup h1) (PySem.mem_of_lookup h2)
 ·have hy:scope.names.lookup y=some .cell\/scope.names.lookup y=some .free:=hy
  rcases hy with hy|hy
  ·exact nC hy
  ·exact absurd rfl (S.Zbj _ (PySem.mem_of_lookup hy))
 ·exact Nat.le_of_lt (x.above y c (PySem.mem_of_lookup h))
 ·have hi:i<vs.length:=by
   unfold start at h2
   by_cases hi:i<vs.length
   ·exact hi
   ·rw[List.getElem?_append_right (by simpa using hi)] at h2
    rw[List.getElem?_replicate] at h2
    split at h2<;>cases h2
  have ha:vs[i]?=some v:=by
   unfold start at h2
   rw[List.getElem?_append_left (by simpa using hi),List.getElem?_map] at h2
   cases e:vs[i]? with
   |none=>rw[e] at h2;cases h2
   |some a=>rw[e] at h2;cases h2;rfl
  obtain⟨u,hu,rv⟩:=r.get ha
  have hp:ps[i]?=some y:=by
   rw[<-S.pre,List.getElem?_take_of_lt (by omega)];exact h1
  have ndP:ps.Nodup:=by rw[<-S.pre];exact S.nd.sublist (List.take_sublist _ _)
  refine⟨u,rv,?_⟩
  rcases S.par y (List.mem_of_getElem? hp) with k|k
  ·exact .inl ⟨k,uV ndP hp hu k⟩
  ·obtain⟨c,e⟩:=nC (n:=s.heap.objs.size+1) k
   refine .inr ⟨.inl k,c,e,?_⟩
   have q:=x.cell y c e
   rw[uW ndP hp hu (by show scope.names.lookup y≠_;rw[k];decide)] at q
   exact q
 ·exact e0.hok.fresh (Nat.le_of_lt (x.above y c (PySem.mem_of_lookup h)))
 ·unfold start
  show _=N.length
  rw[List.length_append,List.length_map,List.length_replicate]
  omega
def zQ{CX:pN}{P:Program}{w:World}{K:PySem.W.Frag}{mg:Str->Option Value}{base:Heap}{k:Nat}{f:Addr}{name qual:Str}{params:Arguments}{body:List Stmt}{scope:Scope}{dV kV doc pm cdv ct oc:Value}{an od:Option Addr}
 {osl:Array (Option Value)}{N ps:List Str}{sp:Sp}(lk:K.lookup f=some ⟨oc,od,.func (PySem.W.fnOf name qual params body scope dV kV doc pm an cdv ct),osl⟩)(hcd:PySem.W.codeIn K cdv qual=true)(S:ē N ps scope)
 (len:∀vs H Q E,sp vs H Q E->vs.length=ps.length)
 (hbody:∀(A:Around) (outer:List Env) (s:Shared) (H:Hp) (vs:List V) (Q:VK) (E:XK),aR k (A.deeper (envOfC qual scope s.heap.objs.size f cdv))→sp vs H Q E→
   ∃t,mL (dj CX P w K mg base N qual scope f cdv A outer s H E) body t/\t {nx:=λ_ H'=>Q .non H',rt:=Q} (start N vs) H) :
 Į P w K mg base CX (k+1) f (PySem.W.fnOf name qual params body scope dV kV doc pm an cdv ct) ps sp:=by
 refine⟨len,λA outer s H args us vs Q E hr e0 hb r hsp=>?_⟩
 have hl:=len _ _ _ _ hsp
 have KX:K.In s.heap:=e0.mod.kin.keeps λb o e=>(e0.bs b o e).1
 have lim:s.heap.NoLimit:=e0.mod.nolimit.keeps λb o e=>(e0.bs b o e).1
 have hkind:∀y∈ps.zip us,scope.names.lookup y.1=some .local\/(scope.names.lookup y.1=some .cell/\((cellsFrom (s.heap.objs.size+1) scope.names []).lookup y.1).isSome=true):=λ⟨n,v⟩ hy=>by
  rcases S.par n (List.of_mem_zip hy).1 with q|q
  ·exact .inl q
  ·exact .inr ⟨q,PySem.W.cellsFrom_some _ _ _ (.inl q)⟩
 refine codeAny_call_function hr.depth (KX _ _ lk) rfl S.co S.gen rfl (PySem.W.codeRec_of KX hcd) (hb _ _ _ _ ?_)
 refine wpAny_newFunctionEnv_cells S.kind hkind λenv he s1 x=>?_
 subst he
 refine⟨lim.keeps x.toInCall.keep,codeAny_func ?_⟩
 obtain⟨t,ht,hq⟩:=hbody A outer s H vs Q E (hr.deeper _) hsp
 have I:Inv (dj CX P w K mg base N qual scope f cdv A outer s H E) [] (start N vs) H s1:=Jf S hr.hd e0 hl r x
 refine wpAny_mono (ht [] s1 (start N vs) H _ I hq) (λfl s' hs=>?_) λe s' hs=>hs
 have fin:∀{σ':St} {H':Hp} {v:V} {u:Value},Inv (dj CX P w K mg base N qual scope f cdv A outer s H E) [] σ' H' s'->RelV v u->Q v H'->CE outer P w H s Q u s':=
  fun{σ' H' v u} J rv q=>⟨v,H',J.os,J.bare,J.base,J.hok,rv,q⟩
 cases fl with
 |ret u=>
  obtain⟨v,σ',H',J,rv,q⟩:=hs
  exact fin J rv q
 |next=>
  obtain⟨σ',H',J,q⟩:=hs
  exact fin (v:=V.non) (u:=Value.none) J rfl q
 |brk=>
  obtain⟨_,_,_,q⟩:=hs
  exact False.elim q
 |cont=>
  obtain⟨_,_,_,q⟩:=hs
  exact False.elim q
end L2
namespace L2
open PySem PySem.Spec PyProof.Rows
section
variable{X:Cx}{x:Str}{p pos:Pos}{e:Expr}{es:List Expr}{t:TA}{id T:String}{r:List V->Hp->VK->Prop}
def tCB(r:List V->Hp->VK->Prop)(t:TA):TE:=λσ H Q=>t σ H λvs H1=>r vs H1 Q
def ħ(hc:ų X (.builtin id) r)(hg:Gl X x)(hm:X.mg x=none)(hv:bootBuiltins x=some (.builtin id))(ha:PA X (e::es) t)(hn:x≠ "__name__" := by decide)(hdb:(x== ("__debug__" :Str))=false:=by decide)
 (he:starEach (e::es) X.env=(false,eval e X.env)::starEach es X.env:=by rfl)(hpl:(backTo pos (starEach es X.env)).any (·.1)=false:=by rfl):PE X (.Call (.Name x p) (e::es) [] pos) (tCB r t):=by
 intro pins s σ H Q I h
 refine wpAny_Call_Name_kw (mO I hg hm hv ?_ hn hdb)
 exact PyProof.Rows.callWith_builtin1 (Ŷ (ha pos pins s σ H _ I h) λus s1 ⟨vs,H1,I1,r1,q1⟩=>hc pins s1 σ H1 vs us Q I1 r1 q1) he hpl
def aA(hc:ų X (.type T) r)(hg:Gl X x)(hm:X.mg x=none)(hv:bootBuiltins x=some (.type T))(ha:PA X (e::es) t)(hn:x≠ "__name__" := by decide)(hdb:(x== ("__debug__" :Str))=false:=by decide)
 (he:starEach (e::es) X.env=(false,eval e X.env)::starEach es X.env:=by rfl)(hpl:(backTo pos (starEach es X.env)).any (·.1)=false:=by rfl):PE X (.Call (.Name x p) (e::es) [] pos) (tCB r t):=by
 intro pins s σ H Q I h
 refine wpAny_Call_Name_kw (mO I hg hm hv ?_ hn hdb)
 exact PyProof.Rows.callWith_type1 (Ŷ (ha pos pins s σ H _ I h) λus s1 ⟨vs,H1,I1,r1,q1⟩=>hc pins s1 σ H1 vs us Q I1 r1 q1) he hpl
end
end L2
namespace HT
open PySem PyProof.Rows
section
open PySem.SeqAt
open PySem.AutoSeq1 (wpAny_loadPart')
open PySem.MeetsSeq PySem.MeetsSeq2 PySem.MeetsSeq3
end
section
variable{prog:Program}{w:World}{A:Around}{E:Value->Shared->Prop}{s:Shared}
def lQ(n d:Nat):Option Int->Nat
 |none=>d
 |some v=>if v<0 then(v+(n:Int)).toNat else min v.toNat n
def qT(n d k:Nat):lQ n d (some (k:Int))=min k n:=by
 show(if(k:Int)<0 then((k:Int)+(n:Int)).toNat else min (k:Int).toNat n)=min k n
 rw[if_neg (by omega),Int.toNat_natCast]
def Kr(n d:Nat)(hd:d<=n)(o:Option Int):lQ n d o<=n:=by
 cases o with
 |none=>exact hd
 |some v=>
  show(if v<0 then(v+(n:Int)).toNat else min v.toNat n)<=n
  by_cases hv:v<0
  ·rw[if_pos hv];omega
  ·rw[if_neg hv];exact Nat.min_le_right _ _
end
end HT
namespace L2
open PySem PySem.Spec PyProof.Rows
abbrev TO:=St->Hp->(Option Int->Hp->Prop)->Prop
def PO(X:Cx)(e:Option Expr)(t:TO):Prop:=
 ∀(pins:List (Addr×Obj)) (s:Shared) (σ:St) (H:Hp) (Q:Option Int->Hp->Prop),Inv X pins σ H s->t σ H Q->
  wpAny (model X.prog X.w) X.A (evalPart e X.env) (λu s'=>∃o H',Inv X pins σ H' s'/\IsPart u o/\Q o H') X.xe s
def Q_:TO:=λ_ H Q=>Q none H
section
variable{X:Cx}{e:Expr}{te:TE}{lo hi:Option Expr}{tl th:TO}{pos p2:Pos}
def Ra:PO X none Q_:=by
 intro pins s σ H Q I h
 rw[evalPart_none]
 exact wpAny_pure ⟨none,H,I,.none,h⟩
def Gy(X:Cx)(r:V->Option Int->Option Int->Hp->VK->Prop):Prop:=
 ∀(pins:List (Addr×Obj)) (s:Shared) (σ:St) (H:Hp) (x:V) (v vl vu:Value) (lo hi:Option Int) (sl:Addr) (Q:VK),Inv X pins σ H s->RelV x v->s.heap.IsSliceOf sl vl vu .none->IsPart vl lo->IsPart vu hi->r x lo hi H Q->
  ∃T id,typeLookup (.type T) "__getitem__" =pure (some (.builtin id))/\s.TypeIs v T/\wpAny (model X.prog X.w) X.A (getItem v (.ref sl)) (EP X pins σ Q) X.xe s
def Gy.or{r r':V->Option Int->Option Int->Hp->VK->Prop}(h:Gy X r)(h':Gy X r'):Gy X (λx lo hi H Q=>r x lo hi H Q\/r' x lo hi H Q):=by
 intro pins s σ H x v vl vu lo hi sl Q I rx hs pl pu q
 rcases q with q|q
 ·exact h pins s σ H x v vl vu lo hi sl Q I rx hs pl pu q
 ·exact h' pins s σ H x v vl vu lo hi sl Q I rx hs pl pu q
def tSl(r:V->Option Int->Option Int->Hp->VK->Prop)(te:TE)(tl th:TO):TE:=λσ H Q=>te σ H λx H1=>tl σ H1 λl H2=>th σ H2 λu H3=>r x l u H3 Q
def Ks{r:V->Option Int->Option Int->Hp->VK->Prop}(hr:Gy X r)(he:PE X e te)(hl:PO X lo tl)(hu:PO X hi th):PE X (.Subscript e (.Slice lo hi none p2) pos) (tSl r te tl th):=by
 intro pins s σ H Q I h
 refine Subscript_ (Ŷ (he pins s σ H _ I h) λv s1 ⟨x,H1,I1,r1,q1⟩=>?_)
 refine wpAny_Slice (Ŷ (hl pins s1 σ H1 _ I1 q1) λvl s2 ⟨l,H2,I2,pl,q2⟩=>Ŷ (hu pins s2 σ H2 _ I2 q2) λvu s3 ⟨u,H3,I3,pu,q3⟩=>?_)
 rw[evalPart_none]
 refine wpAny_pure ?_
 have I4:Inv X pins σ H3 {s3 with heap:=s3.heap.push {cls:=.type "slice",data:=.fields #[vl,vu,.none]}}:=I3.kept (t':=s3.toks) λb ob q=>Heap.get?_push_of_some _ q
 obtain⟨T,id,hT,ht,hg⟩:=hr pins {s3 with heap:=s3.heap.push {cls:=.type "slice",data:=.fields #[vl,vu,.none]}} σ H3 x v vl vu l u s3.heap.objs.size Q I4 r1 (Heap.IsSliceOf.new ..) pl pu q3
 show wpAny (model X.prog X.w) X.A (subscriptTail e (.Slice lo hi none p2) v (.ref s3.heap.objs.size)) (EP X pins σ Q) X.xe {s3 with heap:=s3.heap.push {cls:=.type "slice",data:=.fields #[vl,vu,.none]}}
 exact tail_any (ops:=[.ref s3.heap.objs.size,v]) ht hT hg (by with_unfolding_all rfl)
def zR(xs:List V)(lo hi:Option Int):List V:=(xs.drop (HT.lQ xs.length 0 lo)).take (HT.lQ xs.length xs.length hi-HT.lQ xs.length 0 lo)
def zT(xs:List V)(lo hi:Option Int):(zR xs lo hi).length<=xs.length:=by
 unfold zR
 rw[List.length_take,List.length_drop]
 omega
end
end L2
namespace L2
open PySem PySem.Spec PyProof.Rows
def CG(n:Nat)(i:Int):Option Nat:=if 0<=i then(if i<n then some i.toNat else none) else if -(n:Int)<=i then some (i+n).toNat else none
def uD{α:Type}(xs:List α)(i:Int):Option α:= (CG xs.length i).bind λj=>xs[j]?
def Gz{n:Nat}{i:Int}{j:Nat}(h:CG n i=some j):seqIndex? i n=some j/\j<n/\ -(n:Int)<=i/\i<n:=by
 unfold CG at h
 by_cases h0:0<=i
 ·rw[if_pos h0] at h
  by_cases h1:i<n
  ·rw[if_pos h1] at h
   have e:i.toNat=j:=Option.some.inj h
   exact⟨by rw[seqIndex_of h0 h1,e],by omega,by omega,h1⟩
  ·rw[if_neg h1] at h;cases h
 ·rw[if_neg h0] at h
  by_cases h1: -(n:Int)<=i
  ·rw[if_pos h1] at h
   have e:(i+n).toNat=j:=Option.some.inj h
   exact⟨by rw[seqIndex_neg (by omega) h1,e],by omega,h1,by omega⟩
  ·rw[if_neg h1] at h;cases h
def wH{α:Type}{xs:List α}{i:Int}{v:α}(h:uD xs i=some v):∃j,seqIndex? i xs.length=some j/\xs[j]?=some v/\j<xs.length/\ -(xs.length:Int)<=i/\i<xs.length:=by
 unfold uD at h
 cases e:CG xs.length i with
 |none=>rw[e] at h;cases h
 |some j=>
  rw[e] at h
  obtain⟨h1,h2,h3,h4⟩:=Gz e
  exact⟨j,h1,h,h2,h3,h4⟩
def GC(b:Expr):Prop:=∀o i,subscripted b false o i=operate [o,i] (getItem o i)
def CJ(X:Cx)(r:R2):Prop:=
 ∀(value slice:Expr) (pins:List (Addr×Obj)) (s:Shared) (σ:St) (H:Hp) (x y:V) (v u:Value) (Q:VK),Inv X pins σ H s->RelV x v->RelV y u->r x y H Q->
  subscripted slice false v u=operate [v,u] (getItem v u)->wpAny (model X.prog X.w) X.A (subscriptTail value slice v u) (EP X pins σ Q) X.xe s
def MtR(X:Cx)(id:String)(r:V->List V->Hp->VK->Prop):Prop:=
 ∀(pins:List (Addr×Obj)) (s:Shared) (σ:St) (H:Hp) (x:V) (xs:List V) (v:Value) (us:List Value) (Q:VK),Inv X pins σ H s->RelV x v->Vals xs us->r x xs H Q->
  wpAny (model X.prog X.w) X.A (call (.builtin id) (v::us)) (EP X pins σ Q) X.xe s
section
variable{X:Cx}{a b:Expr}{ta tb:TE}{pos:Pos}
def CJ.or{r r':R2}(h:CJ X r)(h':CJ X r'):CJ X (λx y H Q=>r x y H Q\/r' x y H Q):=by
 intro value slice pins s σ H x y v u Q I rx ry q hs
 rcases q with q|q
 ·exact h value slice pins s σ H x y v u Q I rx ry q hs
 ·exact h' value slice pins s σ H x y v u Q I rx ry q hs
def ZdH{r:R2}(hr:CJ X r)(ha:PE X a ta)(hb:PE X b tb)(hs:GC b):PE X (.Subscript a b pos) (tOp r ta tb):=by
 intro pins s σ H Q I h
 exact Subscript_ (Za5 ha hb I h λv u s2 x y H2 I2 rx ry q=>hr a b pins s2 σ H2 x y v u Q I2 rx ry q (hs _ _))
def ZdI(K:PySem.W.Frag):R2:=λx y H Q=>∃p xs i v,x=.ref p/\y=.int i/\bD K H p xs/\uD xs i=some v/\Q v H
def ZdJ(K:PySem.W.Frag):R2:=λx y H Q=>∃p xs i v,x=.ref p/\y=.int i/\iH K H p xs/\uD xs i=some v/\Q v H
def ZdK:R2:=λx y H Q=>∃z i c,x=.str z/\y=.int i/\z.length<=sizeLine/\uD z.cps.toList i=some c/\Q (.str ⟨#[c]⟩) H
def Rb:CJ X (ZdI X.K):=by
 intro value slice pins s σ H x y v u Q I rx ry h hs
 obtain⟨p,xs,i,z,rfl,rfl,hq,he,q⟩:=h
 cases rx
 obtain⟨t,rfl⟩:=ry
 obtain⟨its,r,pl,hz⟩:=I.list hq
 obtain⟨j,h1,h2,h3,h4,h5⟩:=wH he
 obtain⟨w,ew,rw'⟩:=r.get h2
 have hl:=r.length
 have hn:=oH
 have fin:EP X pins σ Q w s:=⟨z,H,I,rw',q⟩
 by_cases h0:0<=i
 ·have hj:i.toNat=j:=by
   rw[seqIndex_of h0 h5] at h1
   exact Option.some.inj h1
  exact item_listR pl.isList h0 (by omega) (by rw[hj];simpa using ew) fin hs
 ·have hj:(i+(its.toArray.size:Int)).toNat=j:=by
   rw[seqIndex_neg (by omega) h4] at h1
   rw[List.size_toArray,<-hl]
   exact Option.some.inj h1
  exact subscriptTail_builtinR (x:=w) pl.isList.typeIs slot_list_getitem.lookup
   (wpAny_getItem_list_neg (Q:=λr s'=>r=w/\EP X pins σ Q r s') pl.isList (by omega) (by rw[List.size_toArray]<;>omega) (by omega) (by rw[hj];simpa using ew) ⟨rfl,fin⟩) hs
def Zbk:CJ X (ZdJ X.K):=by
 intro value slice pins s σ H x y v u Q I rx ry h hs
 obtain⟨p,xs,i,z,rfl,rfl,hq,he,q⟩:=h
 cases rx
 obtain⟨t,rfl⟩:=ry
 obtain⟨its,r,pl,hz⟩:=I.tuple hq
 obtain⟨j,h1,h2,h3,h4,h5⟩:=wH he
 obtain⟨w,ew,rw'⟩:=r.get h2
 have hl:=r.length
 have hn:=oH
 have fin:EP X pins σ Q w s:=⟨z,H,I,rw',q⟩
 exact subscriptTail_builtinR (x:=w) pl.typeIs slot_tuple_getitem.lookup
  (getItem_tuple (j:=j) (Q:=λr s'=>r=w/\EP X pins σ Q r s') pl (by omega) (by omega) (by rw[List.size_toArray,<-hl];exact h1) (by simpa using ew) ⟨rfl,fin⟩) hs
def Zbl:CJ X ZdK:=by
 intro value slice pins s σ H x y v u Q I rx ry h hs
 obtain⟨z,i,c,rfl,rfl,hz,he,q⟩:=h
 obtain⟨t,rfl⟩:=rx
 obtain⟨t',rfl⟩:=ry
 obtain⟨j,h1,h2,h3,h4,h5⟩:=wH he
 have hl:z.cps.toList.length=z.length:=by simp[Str.length]
 rw[hl] at h1 h4 h5
 have hn:=oH
 exact tail_any (typeIs_str s z t) slot_str_getitem.lookup (getItem_str (c:=c) (by
  have e1:decide (i < -(2 ^ 63:Int))=false:=decide_eq_false (by omega)
  have e2:decide (i >= 2 ^ 63)=false:=decide_eq_false (by omega)
  rw[e1,e2,Bool.or_false]) (by rw[h1];simpa using h2) ⟨.str ⟨#[c]⟩,H,I.tok _,⟨_,rfl⟩,q⟩) hs
def rIx(K:PySem.W.Frag):R2:=λx y H Q=>ZdI K x y H Q\/ZdJ K x y H Q\/ZdK x y H Q
def Zbm:CJ X (rIx X.K):=Rb.or (Zbk.or Zbl)
def CK(its:List Value)(n j:Nat)(u:Value):Obj.mapSeq (·.setIfInBounds j u) {cls:=.type "list",data:=.seq its.toArray n}= {cls:=.type "list",data:=.seq (its.set j u).toArray n}:=by
 simp[Obj.mapSeq]
theorem Inv.lst{pins:List (Addr×Obj)}{σ:St}{H:Hp}{s:Shared}{p:Addr}{xs:List V}(I:Inv X pins σ H s)(h:H p=some (.lst xs)) :
 ∃(its:List Value) (n:Nat),Vals xs its/\s.heap.get? p=some {cls:=.type "list",data:=.seq its.toArray n}/\xs.length<=sizeLine:=by
 obtain⟨z,its,n,r,e⟩:=I.hok p _ h
 exact⟨its,n,r,e,z⟩
def Inv.Zbn{pins:List (Addr×Obj)}{σ:St}{H:Hp}{s:Shared}{p:Addr}{xs ys:List V}{its its':List Value}{n n':Nat}{f:Obj->Obj}(I:Inv X pins σ H s)(h:H p=some (.lst xs))
 (ho:s.heap.get? p=some {cls:=.type "list",data:=.seq its.toArray n})(hf:f {cls:=.type "list",data:=.seq its.toArray n}= {cls:=.type "list",data:=.seq its'.toArray n'})(r:Vals ys its')(hz:ys.length<=sizeLine)(t:Nat) :
 Inv X pins σ (upd H p (.lst ys)) {s with heap:=s.heap.update p f,toks:=t}:=by
 have e:(s.heap.update p f).get? p=some {cls:=.type "list",data:=.seq its'.toArray n'}:=by
  rw[Heap.get?_update_self f ho (by rw[hf]<;>rfl),hf]
 refine I.write (x:=p) (e:=p) (by rw[h];trivial) (.inl rfl) (λb u hb q=>(Heap.get?_update_other _ _ (Ne.symm hb)).trans q) ⟨_,e⟩ ?_
 exact⟨hz,its',n',r,e⟩
def ZdL:V->V->V->Hp->(Hp->Prop)->Prop:=λo i v H Q=>∃p xs k j,o=.ref p/\i=.int k/\H p=some (.lst xs)/\CG xs.length k=some j/\Q (upd H p (.lst (xs.set j v)))
def set_list:Zdx X ZdL:=by
 intro pins s σ H o i v ov iv u Q I ro ri rv h
 obtain⟨p,xs,k,j,rfl,rfl,hp,hj,q⟩:=h
 cases ro
 obtain⟨t,rfl⟩:=ri
 obtain⟨its,n,r,ho,hz⟩:=I.lst hp
 obtain⟨h1,h2,h3,h4⟩:=Gz hj
 have hl:=r.length
 have hn:=oH
 have I':Inv X pins σ (upd H p (.lst (xs.set j v))) {s with heap:=s.heap.update p (Obj.mapSeq (·.setIfInBounds j u))}:=
  I.Zbn hp ho (CK its n j u) (r.set rv j) (by rw[List.length_set];exact hz) s.toks
 by_cases h0:0<=k
 ·have hk:k.toNat=j:=by
   rw[seqIndex_of h0 h4] at h1
   exact Option.some.inj h1
  exact PySem.W.ki_setAt ho h0 (by omega) (by rw[List.size_toArray,<-hl];exact h4) (by rw[hk];exact⟨_,I',q⟩)
 ·have hk:(k+(its.toArray.size:Int)).toNat=j:=by
   rw[seqIndex_neg (by omega) h3] at h1
   rw[List.size_toArray,<-hl]
   exact Option.some.inj h1
  exact PySem.W.ki_setBack ho (by omega) (by rw[List.size_toArray,<-hl];exact h3) (by omega) (by rw[hk];exact⟨_,I',q⟩)
def wI(lo hi:Option Int)(n:Nat):(sliceBounds lo hi none n).1=((HT.lQ n 0 lo:Nat):Int)/\(sliceBounds lo hi none n).2.1=((HT.lQ n n hi:Nat):Int)/\(sliceBounds lo hi none n).2.2=1:=by
 refine⟨?_,?_,rfl⟩
 ·cases lo with
  |none=>simp[sliceBounds,HT.lQ]
  |some i=>
   simp only[sliceBounds,HT.lQ,Option.getD_none,show(1:Int)>0 by decide,if_true]
   by_cases h:i<0
   ·simp only[h,if_true]<;>omega
   ·simp only[h,if_false]<;>omega
 ·cases hi with
  |none=>simp[sliceBounds,HT.lQ]
  |some i=>
   simp only[sliceBounds,HT.lQ,Option.getD_none,show(1:Int)>0 by decide,if_true]
   by_cases h:i<0
   ·simp only[h,if_true]<;>omega
   ·simp only[h,if_false]<;>omega
def uE(its:List Value)(lo hi:Option Int):slicePick its.toArray lo hi none=((its.drop (HT.lQ its.length 0 lo)).take (HT.lQ its.length its.length hi-HT.lQ its.length 0 lo)).toArray:=by
 obtain⟨h1,h2,h3⟩:=wI lo hi its.toArray.size
 unfold slicePick
 rw[h1,h2,h3]
 simp only[sliceRange_one,pick_run,List.size_toArray]<;>rfl
def Zf7(K:PySem.W.Frag):V->Option Int->Option Int->Hp->VK->Prop:=λx lo hi H Q=>∃a xs,x=.ref a/\bD K H a xs/\∀p,H p=none->Q (.ref p) (upd H p (.lst (zR xs lo hi)))
def Rf:Gy X (Zf7 X.K):=by
 intro pins s σ H x v vl vu lo hi sl Q I rx hs pl pu h
 obtain⟨a,xs,rfl,hx,q⟩:=h
 cases rx
 obtain⟨its,r,ht,hz⟩:=I.list hx
 have hlen:=r.length
 refine⟨"list",_,slot_list_getitem.lookup,ht.isList.typeIs,?_⟩
 refine wpAny_getItem_list_slice ht.isList hs pl pu .none (by simp) ?_ (by rw[List.size_toArray]<;>omega)
 rw[uE,<-hlen]
 refine⟨.ref s.heap.objs.size,_,I.laid (t':=s.toks) (o:=.lst (zR xs lo hi)) (λb ob q=>Heap.get?_push_of_some _ q) (Nat.le_refl _) ?_,rfl,q _ (I.hok.fresh (Nat.le_refl _))⟩
 exact⟨Nat.le_trans (zT xs lo hi) hz,_,0,(r.drop (HT.lQ xs.length 0 lo)).take (HT.lQ xs.length xs.length hi-HT.lQ xs.length 0 lo),Heap.get?_push_size _ rfl⟩
def wJ:ų X (.type "list") (λxs H Q=>∃p ys,xs=[.ref p]/\(bD X.K H p ys\/iH X.K H p ys)/\∀l,H l=none->Q (.ref l) (upd H l (.lst ys))):=by
 intro pins s σ H xs us Q I r h
 obtain⟨p,ys,rfl,hq,q⟩:=h
 obtain⟨u,rfl,rx⟩:=vals1 r
 cases rx
 have fin:∀(its:List Value),Vals ys its->ys.length<=sizeLine->∀(h':Heap) (c':Nat),(∀b o',s.heap.get? b=some o'->h'.get? b=some o')->
  h'.get? s.heap.objs.size=some {cls:=.type "list",dict:=none,data:=.seq its.toArray c',slots:=#[]}->EP X pins σ Q (.ref s.heap.objs.size) {s with heap:=h'}:=λits r' hz h' c' kp e=>
  ⟨.ref s.heap.objs.size,_,I.laid (t':=s.toks) kp (Nat.le_refl _) (show aQ X.prog X.w _ h' _ (.lst ys) from⟨hz,its,c',r',e⟩),rfl,q _ (I.hok.fresh (Nat.le_refl _))⟩
 rcases hq with hq|hq
 ·obtain⟨its,r',pl,hz⟩:=I.list hq
  have hlen:=r'.length
  obtain⟨o,ho,hc,n,hd⟩:=pl.isList
  exact call_list_seq p (.inl rfl) ho hc hd (λh' c' kp e=>fin its r' hz h' c' kp e) (by simp only[List.size_toArray]<;>omega)
 ·obtain⟨its,r',pl,hz⟩:=I.tuple hq
  have hlen:=r'.length
  obtain⟨o,ho,hc,n,hd⟩:=pl
  exact call_list_seq p (.inr rfl) ho hc hd (λh' c' kp e=>fin its r' hz h' c' kp e) (by simp only[List.size_toArray]<;>omega)
def uF:ų X (.type "tuple") (λxs H Q=>∃p ys,xs=[.ref p]/\((bD X.K H p ys/\∀l,H l=none->Q (.ref l) (upd H l (.tup ys)))\/(iH X.K H p ys/\Q (.ref p) H))):=by
 intro pins s σ H xs us Q I r h
 obtain⟨p,ys,rfl,h⟩:=h
 obtain⟨u,rfl,rx⟩:=vals1 r
 cases rx
 rcases h with⟨hq,q⟩|⟨hq,q⟩
 ·obtain⟨its,r',pl,hz⟩:=I.list hq
  have hlen:=r'.length
  refine call_tuple_list pl.isList (λh' kp=>?_) (by simp only[List.size_toArray]<;>omega)
  have I1:Inv X pins σ H {s with heap:=h'}:=I.kept (t':=s.toks) kp
  have I2:Inv X pins σ (upd H h'.objs.size (.tup ys)) {s with heap:=h'.push {cls:=.type "tuple",data:=.seq its.toArray}}:=
   I1.laid (t':=s.toks) (λb o e=>Heap.get?_push_of_some _ e) (Nat.le_refl _) (show aQ X.prog X.w _ _ _ (.tup ys) from⟨hz,its,r',IsTup.new _ _⟩)
  exact⟨.ref h'.objs.size,_,I2,rfl,q _ (I1.hok.fresh (Nat.le_refl _))⟩
 ·obtain⟨its,r',pl,hz⟩:=I.tuple hq
  exact call_tuple_same pl ⟨.ref p,H,I,rfl,q⟩
def tyV(K:PySem.W.Frag)(T:String)(x:V)(H:Hp):Prop:=match x with
 | .str _=>T= "str"
 | .int _=>T= "int"
 | .ref p=>(T= "list" ∧∃xs,bD K H p xs)∨(T= "tuple" ∧∃o,K.lookup p=some o∧o.cls=.type "tuple" ∧o.dict=none)∨
     (T= "dict" /\((∃kvs,H p=some (.dK kvs))\/∃kvs,H p=some (.dT kvs)))\/(T= "set" /\∃S n,H p=some (.set S n))
 |_=>False
def Zbo{pins:List (Addr×Obj)}{σ:St}{H:Hp}{s:Shared}{T:String}{x:V}{v:Value}(I:Inv X pins σ H s)(r:RelV x v)(ty:tyV X.K T x H) :
 s.TypeIs v T/\∀a,v=.ref a->∃ob,s.heap.get? a=some ob/\ob.dict=none:=by
 cases x with
 |str z=>
  obtain⟨t,rfl⟩:=r
  cases(show T= "str" from ty)
  exact⟨typeIs_str s z t,λ_ e=>nomatch e⟩
 |int i=>
  obtain⟨t,rfl⟩:=r
  cases(show T= "int" from ty)
  exact⟨typeIs_int s i t,λ_ e=>nomatch e⟩
 |ref p=>
  cases r
  rcases ty with⟨rfl,xs,hq⟩|⟨rfl,o,hk,hc,hd⟩|⟨rfl,hk⟩|⟨rfl,S,n,hk⟩
  ·obtain⟨its,_,pl,_⟩:=I.list hq
   refine⟨pl.isList.typeIs,λa e=>?_⟩
   cases e
   obtain⟨o,n,e,c,hd,_⟩:=pl
   exact⟨o,e,hd⟩
  ·refine⟨⟨o,I.jR p o hk,hc⟩,λa e=>?_⟩
   cases e
   exact⟨o,I.jR _ o hk,hd⟩
  ·have z:∃o,s.heap.get? p=some o∧o.ExactDict:=by
    rcases hk with⟨kvs,hk⟩|⟨kvs,hk⟩
    ·obtain⟨_,_,_,_,o,_,_,e,ex,_⟩:=I.hok p _ hk
     exact⟨o,e,ex⟩
    ·obtain⟨_,_,_,_,o,_,_,e,ex,_⟩:=I.hok p _ hk
     exact⟨o,e,ex⟩
   obtain⟨o,e,ex⟩:=z
   refine⟨⟨o,e,ex.1⟩,λa e2=>?_⟩
   cases e2
   exact⟨o,e,ex.2.1⟩
  ·obtain⟨o,_,_,_,e,ex,_⟩:=I.hok p _ hk
   refine⟨⟨o,e,ex.1⟩,λa e2=>?_⟩
   cases e2
   exact⟨o,e,ex.2.1⟩
 |_=>exact False.elim ty
def tBM(K:PySem.W.Frag)(T:String)(r:V->List V->Hp->VK->Prop)(to:TE)(t:TA):TE:=λσ H Q=>to σ H λx H1=>tyV K T x H1/\t σ H1 λxs H2=>r x xs H2 Q
variable{o e:Expr}{es:List Expr}{to:TE}{t:TA}{name:Str}{apos cpos:Pos}{T id:String}{r:V->List V->Hp->VK->Prop}
def nD(pa:PlainAttrs T)(slot:Slot T name id)(hty:typeOf (.builtin id)=pure (.type "method_descriptor"))(hm:MtR X id r)(ho:PE X o to)(ha:PA X (e::es) t)
 (hbase:attributeBase o name X.env (eval o X.env)=eval o X.env:=by rfl)
 (hfew:((backTo cpos (starEach (e::es) X.env)).all (fun x=>!x.1) && (backToKw cpos (keywordEach [] X.env)).all (fun x=>x.1.isSome)
   && decide ((e::es).length+([]:List Keyword).length+(if([]:List Keyword).isEmpty then 0 else 1)<30))=true:=by rfl)
 (hline:(apos.endLine== cpos.line)=true:=by rfl)(hs:starEach (e::es) X.env=(false,eval e X.env)::starEach es X.env:=by rfl)(hplain:(backTo cpos (starEach es X.env)).any (·.1)=false:=by rfl) :
 PE X (.Call (.Attribute o name apos) (e::es) [] cpos) (tBM X.K T r to t):=by
 intro pins s σ H Q I h
 refine wpAny_Call_method_late hbase hfew hline rfl (Ŷ (ho pins s σ H _ I h) λv s1 ⟨x,H1,I1,r1,ty,q1⟩=>?_)
 obtain⟨h1,h2⟩:=Zbo I1 r1 ty
 refine⟨T,id,pa,slot,hty,h1,h2,?_⟩
 have hA:=ha cpos pins s1 σ H1 _ I1 q1
 rw[hs] at hA ⊢
 refine Calls.callWith_builtin (by show(false || (backTo cpos (starEach es X.env)).any (·.1))=false;rw[hplain]<;>rfl) (Calls.evalArgs_plain ?_)
 exact Ŷ hA λus s2 ⟨vs,H2,I2,r2,q2⟩=>hm pins s2 σ H2 x vs v us Q I2 r1 r2 q2
end
end L2
namespace L2
open PySem PySem.Spec PyProof.Rows
def MtM(X:Cx)(id:String)(r:V->List V->Hp->VK->Prop):Prop:=
 ∀(pins:List (Addr×Obj)) (s:Shared) (σ:St) (H:Hp) (x:V) (xs:List V) (v:Value) (us:List Value) (Q:VK),Inv X pins σ H s->RelV x v->Vals xs us->r x xs H Q->
  wpAny (model X.prog X.w) X.A (call (.builtin id) (v::us)) (EP X pins σ Q) X.xe s
theorem Vals.one:∀{x:V} {us:List Value},Vals [x] us->∃u,us=[u]/\RelV x u
 |_,_,.cons r .nil=>⟨_,rfl,r⟩
section
variable{X:Cx}{pins:List (Addr×Obj)}{σ:St}{H:Hp}{s:Shared}{l b:Addr}{xs ys zs:List V}
def Inv.ZdM{its its':List Value}{n:Nat}{f:Array Value->Array Value}{t':Nat}(I:Inv X pins σ H s)(hH:H l=some (.lst xs))
 (e:s.heap.get? l=some {cls:=.type "list",data:=.seq its.toArray n})(hf:f its.toArray=its'.toArray)(hv:Vals ys its')(hz:ys.length<=sizeLine) :
 Inv X pins σ (upd H l (.lst ys)) {s with heap:=s.heap.update l (Obj.mapSeq f),toks:=t'}:=by
 have q:=PySem.IsL.update e f
 rw[hf] at q
 refine I.write (x:=l) (e:=l) (by rw[hH];exact trivial) (.inl rfl) (λb' u hb hu=>(Heap.get?_update_other s.heap (Obj.mapSeq f) (Ne.symm hb)).trans hu) ⟨_,q⟩ ?_
 exact⟨hz,its',_,hv,q⟩
def Inv.Zf8{its:List Value}{t':Nat}(I:Inv X pins σ H s)(hv:Vals ys its)(hz:ys.length<=sizeLine) :
 Inv X pins σ (upd H s.heap.objs.size (.lst ys)) {s with heap:=s.heap.push {cls:=.type "list",data:=.seq its.toArray},toks:=t'}:=
 I.laid (λ_ _ q=>Heap.get?_push_of_some _ q) (Nat.le_refl _) ⟨hz,its,0,hv,Heap.get?_push_size _ rfl⟩
theorem Inv.fresh(I:Inv X pins σ H s):H s.heap.objs.size=none:=I.hok.fresh (Nat.le_refl _)
def Inv.Zbp(I:Inv X pins σ H s)(hH:H l=some (.lst xs)):xs.length<=sizeLine/\∃(its:List Value) (n:Nat),Vals xs its/\xs.length=its.length/\s.heap.get? l=some {cls:=.type "list",data:=.seq its.toArray n}:=by
 obtain⟨z,its,n,r,e⟩:=I.hok l _ hH
 exact⟨z,its,n,r,r.length,e⟩
def Ku{n:Nat}(h:n<=sizeLine):Builtin.List.listTooLong n=false:=by
 unfold Builtin.List.listTooLong
 exact decide_eq_false (by omega)
end
section
variable{X:Cx}
def GD:V->List V->Hp->VK->Prop:=λx vs H Q=>∃l xs y,x=.ref l/\vs=[y]/\H l=some (.lst xs)/\xs.length<sizeLine/\Q .non (upd H l (.lst (xs ++ [y])))
def bO:MtM X "list.append" GD:=by
 intro pins s σ H x vs v us Q I rx rv h
 obtain⟨l,xs,y,rfl,rfl,hH,hz,q⟩:=h
 cases rx
 obtain⟨u,rfl,ru⟩:=rv.one
 obtain⟨z,its,n,r,hl,e⟩:=I.Zbp hH
 refine call_meets F.slot_list_append ⟨_,e,rfl⟩ F.entry_list_append (F.args_list_append_2 _ _) (PySem.list_append l its.toArray n u (by rw[List.size_toArray];omega)) ⟨e,?_⟩
 refine⟨.non,_,I.ZdM (its':=its ++ [u]) hH e (by simp) (r.append (.cons ru .nil)) ?_,rfl,q⟩
 rw[List.length_append,List.length_singleton]
 omega
def GF:V->List V->Hp->VK->Prop:=λx vs H Q=>∃l b xs zs,x=.ref l/\vs=[.ref b]/\H l=some (.lst xs)/\H b=some (.lst zs)/\xs.length+zs.length<=sizeLine/\Q .non (upd H l (.lst (xs++zs)))
def uX:MtM X "list.extend" GF:=by
 intro pins s σ H x vs v us Q I rx rv h
 obtain⟨l,b,xs,zs,rfl,rfl,hH,hB,hz,q⟩:=h
 cases rx
 obtain⟨u,rfl,ru⟩:=rv.one
 cases ru
 obtain⟨z,its,n,r,hl,e⟩:=I.Zbp hH
 obtain⟨z2,its2,n2,r2,hl2,e2⟩:=I.Zbp hB
 have hsz:its.toArray.size+its2.toArray.size<=sizeLine:=by rw[List.size_toArray,List.size_toArray];omega
 have ZdN:¬(!its.toArray.isEmpty && Builtin.List.listTooLong (its.toArray.size+its2.toArray.size))=true:=by
  rw[Ku hsz,Bool.and_false]
  exact Bool.false_ne_true
 refine call_meets F.slot_list_extend ⟨_,e,rfl⟩ F.entry_list_extend (F.args_list_extend_2 _ _)
  (AutoSeq1.list_extend_list_list_0 l its.toArray n b its2.toArray n2 ZdN (by rw[List.size_toArray];omega) (by omega)) ⟨e,e2,?_⟩
 refine⟨.non,_,I.ZdM (its':=its++its2) hH e (by simp) (r.append r2) ?_,rfl,q⟩
 rw[List.length_append]
 omega
end
section
variable{prog:Program}{w:World}{A:Around}{E:Value->Shared->Prop}{s:Shared}
end
section
variable{X:Cx}
end
end L2
namespace Att
open PySem PySem.W PySem.Calls PyProof.Rows
def qy{P:Params}{h:Heap}:∀(ns:List Int) (vs:List Value),WellAll P h vs (ns.map WData.int)->IntsAre vs ns:=by
 intro ns
 induction ns with
 |nil=>
  intro vs w
  rw[List.map_nil] at w
  cases w
  exact .nil
 |cons n ns ih=>
  intro vs w
  rw[List.map_cons] at w
  cases w with
  |cons a b=>
   cases a
   exact .cons _ _ (ih _ b)
def Jg{l:OpenLaw}{n:Nat}(hn:l.most=some n){P:Params}{h:Heap}{args:List WData}{vals:List Value}
 (hpre:l.row.toRowW.claim.pre args=true)(hwl:WellAll P h vals args) :
 ∃a vs ns,vals=[Value.ref a]/\args=[WData.list (ns.map WData.int)]/\h.get? a=some {cls:=.type "list",data:=.seq vs.toArray}/\IntsAre vs ns/\ns.length<=n:=by
 have hsh:WShape.hasAll [] args [.list .int]=true:=(pre_splitW hpre).1
 have hc:l.pre.holds [] {args:=args}=true:=(pre_splitW hpre).2
 obtain⟨d,r,rfl,h1,h2⟩:=hasAllW_cons hsh
 obtain rfl:=hasAllW_nil h2
 obtain⟨xs,rfl,h3⟩:=hasW_list h1
 obtain⟨ns,rfl⟩:=items_int h3
 have hlen:ns.length<=n:=by
  unfold OpenLaw.pre at hc
  have h4:(WTm.not (.lt (.lit (.int (n:Int))) (.len (.arg 0)))).holds [] {args:=[.list (ns.map .int)]}=true:=by
   have h4:=(holds_andW hc).1
   rw[hn] at h4
   exact h4
  have h5:=condW_of h4 (w_not (w_lt w_lit (w_len_list (w_arg rfl))))
  rw[List.length_map] at h5
  refine Nat.le_of_not_lt λq=>?_
  have q':(n:Int)<((ns.length:Nat):Int):=by omega
  first
   |(rw[decide_eq_true q'] at h5;exact absurd h5 (by decide))
   |(simp at h5;omega)
 cases hwl with
 |cons w1 w2=>
  cases w2
  cases w1 with
  |list ho hall=>exact⟨_,_,ns,rfl,rfl,ho,qy ns _ hall,hlen⟩
def Jh(l:OpenLaw)(args:List WData):l.row.toRowW.claim.post args (.bool true) args=true:=
 postW_of (r:=l.row.toRowW) (X:=(true== true))
  (show WShape.has [] (.bool true) .bool=true by first|rfl|decide|simp[WShape.has,WShape.arms,WShape.armsAll])
  (show(WTm.eq .res (.lit (.bool true))).value [] {args:=args,res:=some (.bool true),after:=args}=some (.bool (true== true)) from w_eq_bool (w_res rfl) w_lit) rfl
def zU{l:OpenLaw}{n:Nat}{q:Program}{loose:List Str}{XP:(Str->Option Value)->Heap->Prop}{YP:World->Heap->Prop}{d:DefRec}
 (hn:l.most=some n)(hdf:d.params.defaults=[])
 (call:∀(w:World) (s₀ s₁:Shared) (mg mb:Str→Option Value) (fa:Addr) (o:Obj) (pm cd doc:Value) (a:Addr) (vs:List Value) (ns:List Int),
   Ground q loose [] XP w s₀ mg mb s₁.heap->YP w s₁.heap->
   s₁.heap.get? fa=some o->o.data=.func (docDef d.name d.params d.body d.scope pm cd doc)->s₁.heap.CodeRec cd d.name->mg d.name=some (.ref fa)->
   s₁.heap.get? a=some {cls:=.type "list",data:=.seq vs.toArray}->IntsAre vs ns->ns.length<=n->s₁.gens= #[]->
   codeAny (model l.prog w) callerA (.call (.ref fa) ⟨[.ref a],[]⟩) (λr s'=>r=.ok (.ret (.bool true))/\OldK s₁.heap s'.heap/\s'.os=s₁.os/\AllBare s'.gens) s₁) :
 WalkO q loose XP YP l.row.toRowW d [] (λf vs=>PySem.call f vs):=by
 intro w s₀ s₁ mg mb G Y fa o pm cd doc dV kV ho hd hcd hD hmg hg args vals as hpre hlay hrd hwl hlo
 obtain rfl:dV=.none:=Dflts.none hD hdf
 obtain rfl:kV=.none:=Dflts.noKw hD
 obtain⟨a,vs,ns,rfl,rfl,hobj,hints,hlen⟩:=Jg hn hpre hwl
 refine enter_call (codeAny_mono (call w s₀ s₁ mg mb fa o pm cd doc a vs ns G Y ho (fd_plain hd) hcd hmg hobj hints hlen hg) λr s' hq=>?_)
 obtain⟨rfl,h2,h3,h4⟩:=hq
 exact⟨.inl ⟨.bool true,.bool true,[],rfl,λ_=>rfl,.bool true,Jh l _,λ_=>⟨List.Pairwise.nil,λ_ hm=>(nomatch hm)⟩⟩,h2,h3,h4⟩
section
variable{prog:Program}{w:World}{A:Around}{E:Value->Shared->Prop}{s:Shared}{K:Frag}
end
end Att
namespace L2
open PySem PySem.Spec PyProof.Rows
theorem cC:∀{vs:List Value} {ns:List Int},IntsAre vs ns->Vals (ns.map V.int) vs
 |_,_,.nil=>.nil
 |_,_,.cons n t h=>.cons ⟨t,rfl⟩ (cC h)
def Only(H:Hp):Prop:=∀b,H b=none\/(∃o xs,H b=some (.h_ o (.lst xs)))\/∃q,H b=some (.jP q)
def jV(K:PySem.W.Frag):List Str->Hp
 | []=>λ_=>none
 |y::r=>λb=>match PySem.W.tabIn K y with
  |some (_,P)=>if b=P then some (.jP (fZ y)) else jV K r b
  |none=>jV K r b
theorem gF{K:PySem.W.Frag}:∀{l:List Str} {b:Addr} {u:HO},jV K l b=some u->∃y c,y∈l/\PySem.W.tabIn K y=some (c,b)/\u=.jP (fZ y)
 | [],_,_,h=>by cases(show(none:Option HO)=some _ from h)
 |y::r,b,u,h=>by
  have h':(match PySem.W.tabIn K y with
   |some (_,P)=>if b=P then some (.jP (fZ y)) else jV K r b
   |none=>jV K r b)=some u:=h
  have rc:jV K r b=some u->∃z c,z∈y::r/\PySem.W.tabIn K z=some (c,b)/\u=.jP (fZ z):=λq=>
   let ⟨z,c,h1,h2,h3⟩:=gF q
   ⟨z,c,List.mem_cons_of_mem _ h1,h2,h3⟩
  cases e:PySem.W.tabIn K y with
  |none=>rw[e] at h';exact rc h'
  |some p=>
   obtain⟨c,P⟩:=p
   rw[e] at h'
   have h2:(if b=P then some (HO.jP (fZ y)) else jV K r b)=some u:=h'
   by_cases hb:b=P
   ·rw[if_pos hb] at h2
    cases h2
    exact⟨y,c,List.mem_cons_self,by rw[hb];exact e,rfl⟩
   ·rw[if_neg hb] at h2
    exact rc h2
theorem GJ{K:PySem.W.Frag}{y:Str}{c P:Addr}(e:PySem.W.tabIn K y=some (c,P)):∀{l:List Str},(∀z∈l,z=y)->y∈l->jV K l P=some (.jP (fZ y))
 | [],_,h=>by cases h
 |z::r,h1,_=>by
  have hz:=h1 z List.mem_cons_self
  subst hz
  show(match PySem.W.tabIn K z with
   |some (_,Q)=>if P=Q then some (HO.jP (fZ z)) else jV K r P
   |none=>jV K r P)=_
  rw[e]
  exact if_pos rfl
def Kv{P:Program}{w:World}{K:PySem.W.Frag}{mg mb:Str->Option Value}{CX:pN}{k:Nat}{fa a:Addr}{fd:FuncData}{x:Str}{sp:Sp}{s₁:Shared}{vs:List Value}{ns:List Int}
 (KX:K.In s₁.heap)(hns:s₁.heap.Ns mainGlobals mg)(hb:s₁.heap.Ns builtinsNs mb)(hbb:∀x:Str,x≠ "__name__" ->mb x=bootBuiltins x)(hlim:s₁.heap.NoLimit)(hg:s₁.gens= #[])
 (ha:s₁.heap.get? a=some {cls:=.type "list",data:=.seq vs.toArray})(hi:IntsAre vs ns)(hl:ns.length<=sizeLine)(hr:aR k callerA)
 (F:∀base:Heap,K.In base->base.Ns mainGlobals mg->Į P w K mg base CX k fa fd [x] sp)(hbind:∀(s:Shared) (u:Value),BindsTo s fd ⟨[u],[]⟩ [(x,u)])
 (hsp:∀H:Hp,Only H->bD K H a (ns.map V.int)->sp [.ref a] H (λv _=>v=.bl true) λ_ _ _=>False)
 (hCX:∀H e s',CX [] H s₁ (λ_ _ _=>False) e s'->False)
 (hnt:lams≠[]->PySem.W.noTabs K=true)(hone:∀y z,y∈lams->z∈lams->y=z)(htb:∀y c Pt,y∈lams->PySem.W.tabIn K y=some (c,Pt)->PySem.W.CodeHd s₁.heap c Pt/\s₁.heap.get? Pt=some (PySem.W.tabObj #[])/\s₁.heap.BuiltinsAt mg Pt) :
 codeAny (model P w) callerA (.call (.ref fa) ⟨[.ref a],[]⟩) (λr s'=>r=.ok (.ret (.bool true))/\OldK s₁.heap s'.heap/\s'.os=s₁.os/\AllBare s'.gens) s₁:= by
 have rv:=cC hi
 have lenV:=hi.length
 -- from an abstract heap in which nothing but the script may be tracked
 have core:∀H:Hp,Only H->bD K H a (ns.map V.int)->jK P w H s₁.heap->(∀b,H b≠none->b=a\/∃y c,y∈lams/\PySem.W.tabIn K y=some (c,b))->(H a≠none->K.lookup a=none)->(∀y c Pt,y∈lams->PySem.W.tabIn K y=some (c,Pt)->H Pt=some (.jP (fZ y)))->
  codeAny (model P w) callerA (.call (.ref fa) ⟨[.ref a],[]⟩) (λr s'=>r=.ok (.ret (.bool true))/\OldK s₁.heap s'.heap/\s'.os=s₁.os/\AllBare s'.gens) s₁:= by
  intro H hO hS hok hA hK hT
  have qU:∀{b:Addr} {o:Obj},s₁.heap.get? b=some o->H b=none->(uy s₁.heap H).get? b=some o:=λe n=>JZ e n
  have noA:∀{b:Addr} {o:Obj} {es:Array DictEntry} {ep:Nat},s₁.heap.get? b=some o->o.data=.dict es ep->H b=none:=fun{b o es ep} e d=>by
   cases q:H b with
   |none=>rfl
   |some u=>
    rcases hA b (by rw[q];simp) with e'|⟨y,c,hy,hty⟩
    ·subst e'
     rw[ha] at e;cases e
     have d':Data.seq vs.toArray _=Data.dict es ep:=d
     cases d'
    ·have e2:=(htb y c b hy hty).2.1
     rw[e] at e2;cases e2;cases d
  have nsK:∀{b:Addr} {m:Str->Option Value},s₁.heap.Ns b m->(uy s₁.heap H).Ns b m:=fun{b m} ⟨o,es,ep,e,d,r⟩=>⟨o,es,ep,qU e (noA e d),d,r⟩
  have hKb:K.In (uy s₁.heap H):=λb o e=>qU (KX b o e) (by
   cases q:H b with
   |none=>rfl
   |some u=>
    rcases hA b (by rw[q];simp) with e'|⟨y,c,hy,hty⟩
    ·subst e'
     rw[hK (by rw[q];simp)] at e;cases e
    ·have e2:=(htb y c b hy hty).2.1
     rw[KX b o e] at e2
     cases e2
     have h2:=List.all_eq_true.mp (hnt (λz=>by rw[z] at hy;cases hy)) (b,_) (PySem.W.mem_of_lookupK e)
     exact absurd (show false=true from h2) Bool.false_ne_true)
  have hM:Mod K mg (uy s₁.heap H):=⟨hKb,nsK hns,⟨mb,nsK hb,hbb⟩,let ⟨mc,h1,h2⟩:=hlim;⟨mc,nsK h1,h2⟩⟩
  have hTB:TabsOk K mg (uy s₁.heap H) H:=λy c Pt hy hty=>by
   obtain⟨⟨o,us,file,tf,flags,tg,inF,text,tt,e1,r1,r2⟩,_,bm,ob,b1,b2,b3,b4,b5,b6,b7⟩:=htb y c Pt hy hty
   refine⟨⟨o,us,file,tf,flags,tg,inF,text,tt,qU e1 ?_,r1,r2⟩,hT y c Pt hy hty,bm,ob,b1,b2,b3,b4,qU b5 ?_,b6,b7⟩
   rotate_left
   ·cases q:H bm with
    |none=>rfl
    |some u=>
     rcases hA bm (by rw[q];simp) with e'|⟨z,c2,hz,htz⟩
     ·rw[e',ha] at b5;cases b5;exact absurd (Value.type.inj b6) (by decide)
     ·have e2:=(htb z c2 bm hz htz).2.1
      rw[b5] at e2;cases e2;cases b6
   cases q:H c with
   |none=>rfl
   |some u=>
    rcases hA c (by rw[q];simp) with e'|⟨z,c2,hz,htz⟩
    ·rw[e',ha] at e1;cases e1;exact absurd (Value.type.inj r1) (by decide)
    ·have e2:=(htb z c2 c hz htz).2.1
     rw[e1] at e2;cases e2;cases r1
  have e0:Cz P w K mg (uy s₁.heap H) callerA [] s₁ H:=⟨rfl,hM,λb o e=>QC e,Nat.le_of_eq (Iz _ _),trivial,λb hb=>absurd (show b∈([]:List Addr) from hb) (by simp),hok,.of_eq hg,hTB⟩
  refine codeAny_mono ((F _ hKb (nsK hns)).run callerA [] s₁ H ⟨[.ref a],[]⟩ [.ref a] [.ref a] _ _ hr e0 (hbind s₁ (.ref a)) (.cons rfl .nil) (hsp H hO hS)) λr s' h=>?_
  cases r with
  |error e=>exact(hCX H e s' h).elim
  |ok fl=>
   cases fl with
   |next=>exact False.elim h
   |brk=>exact False.elim h
   |cont=>exact False.elim h
   |ret u=>
    obtain⟨v,H',os,bare,un,hok',r',q⟩:=h
    have q':v=.bl true:=q
    subst q'
    obtain rfl:u=Value.bool true:=r'
    have old:∀b o,s₁.heap.get? b=some o->(∀t,H b≠some (.jP t))->s'.heap.get? b=some o:=?_
    ·refine⟨rfl,⟨λb o e=>?_,λb o e=>?_⟩,os,bare⟩
     ·by_cases ht:∃t,H b=some (.jP t)
      ·obtain⟨t,ht⟩:=ht
       obtain⟨ps,e1,_⟩:=hok' b _ (un.jQ b t ht)
       rcases hA b (by rw[ht];simp) with e'|⟨y,c,hy,hty⟩
       ·subst e'
        obtain⟨ps2,e3,_⟩:=hok b _ ht
        rw[ha] at e3;cases e3
       ·obtain⟨⟨o2,us,file,tf,flags,tg,inF,text,tt,f1,f2,f3,f4,_⟩,e2,_⟩:=htb y c b hy hty
        rw[e] at e2;cases e2
        exact .inr (.inl ⟨⟨c,o2,us,f1,f2,f3,f4⟩,rfl,#[],ps,rfl,by rw[e1];simp⟩)
      ·exact .inl (old b o e λt z=>ht ⟨t,z⟩)
     ·by_cases ht:∃t,H b=some (.jP t)
      ·obtain⟨t,ht⟩:=ht
       obtain⟨ps,e1,_⟩:=hok' b _ (un.jQ b t ht)
       exact⟨_,e1⟩
      ·exact⟨o,old b o e λt z=>ht ⟨t,z⟩⟩
    intro b o e nt
    cases q:H b with
    |none=>exact un.keep b o e q (by intro z;exact absurd (show b∈([]:List Addr) from z) (by simp)) (by simp)
    |some u=>
     rcases hO b with z|⟨ob,xs,z⟩|⟨t,z⟩
     ·rw[q] at z;cases z
     rotate_left
     ·exact absurd z (nt t)
     ·have z2:=un.mK b ob _ z
      obtain⟨e1,_⟩:=hok b _ z
      obtain⟨e2,_⟩:=hok' b _ z2
      rw[e] at e1;cases e1
      exact e2
 cases hk:K.lookup a with
 |some o=>
  -- the script is one of the module's own objects
  have e:=KX a o hk
  rw[ha] at e
  cases e
  refine core (jV K lams) (λb=>?_) (.inr ⟨_,vs.toArray,_,hk,rfl,rfl,rfl,by rw[List.size_toArray,lenV];exact hl,by simpa using rv⟩) (λb u z=>?_) (λb z=>?_) (λz=>?_) λy c Pt hy hty=>GJ hty (λz hz=>hone z y hz hy) hy
  ·cases q:jV K lams b with
   |none=>exact .inl rfl
   |some u=>obtain⟨y,c,_,_,rfl⟩:=gF q;exact .inr (.inr ⟨_,rfl⟩)
  ·obtain⟨y,c,hy,hty,rfl⟩:=gF z
   exact⟨#[],(htb y c b hy hty).2.1,trivial,λpos cv z=>by cases z⟩
  ·cases q:jV K lams b with
   |none=>exact absurd q z
   |some u=>obtain⟨y,c,hy,hty,_⟩:=gF q;exact .inr ⟨y,c,hy,hty⟩
  ·cases q:jV K lams a with
   |none=>exact absurd q z
   |some u=>
    obtain⟨y,c,hy,hty,_⟩:=gF q
    have e2:=(htb y c a hy hty).2.1
    rw[ha] at e2;cases e2
 |none=>
  refine core (λb=>if b=a then some (.h_ {cls:=.type "list",data:=.seq vs.toArray} (.lst (ns.map V.int))) else jV K lams b) (λb=>?_) (.inl (.inr ⟨{cls:=.type "list",data:=.seq vs.toArray},if_pos rfl⟩)) (λb u z=>?_) (λb z=>?_) (λ_=>hk) λy c Pt hy hty=>?_
  ·by_cases hb:b=a
   ·exact .inr (.inl ⟨_,_,if_pos hb⟩)
   ·cases q:jV K lams b with
    |none=>exact .inl ((if_neg hb).trans q)
    |some u=>obtain⟨y,c,_,_,rfl⟩:=gF q;exact .inr (.inr ⟨_,(if_neg hb).trans q⟩)
  ·by_cases hb:b=a
   ·have z':=(if_pos hb).symm.trans z
    cases z'
    subst hb
    exact⟨ha,by rw[List.length_map];exact hl,vs,_,rv,ha⟩
   ·have z':=(if_neg hb).symm.trans z
    obtain⟨y,c,hy,hty,rfl⟩:=gF z'
    exact⟨#[],(htb y c b hy hty).2.1,trivial,λpos cv z=>by cases z⟩
  ·by_cases hb:b=a
   ·exact .inl hb
   ·cases q:jV K lams b with
    |none=>exact absurd ((if_neg hb).trans q) z
    |some u=>obtain⟨y,c,hy,hty,_⟩:=gF q;exact .inr ⟨y,c,hy,hty⟩
  ·have ne:Pt≠a:=fun z=>by
    subst z
    have e2:=(htb y c _ hy hty).2.1
    rw[ha] at e2;cases e2
   exact(if_neg ne).trans (GJ hty (λz hz=>hone z y hz hy) hy)
end L2
namespace L2
open PySem PySem.Spec PyProof.Rows
def Rg{p:Program}{loose:List Str}{mean:ExcName->Option Value}{mg mb:Str->Option Value}{h:Heap}{K:PySem.W.Frag}{d:DefRec}{x:Str}{c P:Addr}(T:Top p loose mean mg mb h)(X:K.In h)(hr:(recsOf p).find? (λe=>e.name== x)=some d)(ht:PySem.W.tabIn K x=some (c,P)) :
 PySem.W.CodeHd h c P/\h.get? P=some (PySem.W.tabObj #[])/\h.BuiltinsAt mg P:=by
 obtain⟨h1,h2⟩:=PySem.W.tab_of T X hr ht
 obtain⟨bm,ob,b1,b2,b3,b4,b5,b6⟩:=T.bmain
 have hbP:bm≠P:=λq=>by rw[q,h2] at b3;cases b3;cases b4
 have hbG:bm≠mainGlobals:=λq=>by
  obtain⟨o,es,ep,e,hd,_⟩:=T.g
  rw[q,e] at b3;cases b3;rw[hd] at b6;cases b6
 exact⟨h1,h2,bm,ob,b1,b2,hbG,hbP,b3,b4,b5,b6⟩
def Rh{l:PySem.W.OpenLaw}{n k:Nat}{q:Program}{loose:List Str}{XP:(Str->Option Value)->Heap->Prop}{YP:World->Heap->Prop}{d:DefRec}{K:Params->PySem.W.Frag}{CX:World->pN}{sp:World->Sp}{x:Str}
 (hn:l.most=some n)(hn2:n<=sizeLine)(hdf:d.params.defaults=[])(hr:aR k callerA)
 (hY:∀(w:World) (h:Heap),YP w h->(K w.params).In h)
 (F:∀(w:World) (mg:Str→Option Value) (fa:Addr) (h:Heap),(K w.params).In h→h.Ns mainGlobals mg→mg d.name=some (.ref fa)→
   ∃fd:FuncData,(∀(s:Shared) (u:Value),BindsTo s fd ⟨[u],[]⟩ [(x,u)])/\
    ∀base:Heap,(K w.params).In base->base.Ns mainGlobals mg->Į l.prog w (K w.params) mg base (CX w) k fa fd [x] (sp w))
 (hsp:∀(w:World) (H:Hp) (a:Addr) (ns:List Int),ns.length<=n->Only H->bD (K w.params) H a (ns.map V.int)->sp w [.ref a] H (λv _=>v=.bl true) λ_ _ _=>False)
 (hCX:∀(w:World) (H:Hp) (s:Shared) (e:Value) (s':Shared),CX w [] H s (λ_ _ _=>False) e s'->False)
 (hnt:lams≠[]->∀w:World,PySem.W.noTabs (K w.params)=true:=by intro z;exact absurd rfl z)(hone:∀y z,y∈lams->z∈lams->y=z:=by simp[lams])(hrec:∀y,y∈lams->∃d,(recsOf q).find? (λe=>e.name== y)=some d:=by simp[lams]) :
 PySem.W.WalkO q loose XP YP l.row.toRowW d [] (λf vs=>PySem.call f vs):=by
 refine Att.zU hn hdf λw s₀ s₁ mg mb fa o pm cd doc a vs ns G Y ho hd hcd hmg hobj hints hlen hg=>?_
 have KX:=hY w _ Y
 obtain⟨fd,hb,hF⟩:=F w mg fa _ KX G.T.g hmg
 exact Kv KX G.T.g G.T.b G.T.builtins G.T.nolimit hg hobj hints (Nat.le_trans hlen hn2) hr hF hb (λH hO hS=>hsp w H a ns hlen hO hS) (λH e s'=>hCX w H s₁ e s') (λz=>hnt z w) hone λy c Pt hy hty=>let ⟨_,hr'⟩:=hrec y hy;Rg G.T KX hr' hty
end L2
namespace L2
open PySem PySem.Spec PyProof.Rows
def inClass(s:Stmt)(j:Nat):Stmt:=match s with
 | .ClassDef _ _ _ body _ _ _ _ _ _ _=>body.getD j (.Pass ⟨0,0,0,0⟩)
 |_=>.Pass ⟨0,0,0,0⟩
def Ū(s:Stmt):Arguments:=match s with
 | .FunctionDef _ a _ _ _ _ _ _ _ _=>a
 |_=> {posonlyargs:=[],args:=[],vararg:=none,kwonlyargs:=[],kw_defaults:=[],kwarg:=none,defaults:=[]}
def Ŗ(s:Stmt):List Stmt:=match s with
 | .FunctionDef _ _ b _ _ _ _ _ _ _=>b
 |_=>[]
def ą(s:Stmt):Scope:=match s with
 | .FunctionDef _ _ _ _ _ _ sc _ _ _=>sc
 |_=> {kind:=.function,names:=[],isGenerator:=false,isCoroutine:=false}
structure Kw(K:PySem.W.Frag)(x qual:Str)(st:Stmt)(f:Addr)(fd:FuncData):Prop where
 ex:∃(oc:Value) (od:Option Addr) (kV doc pm:Value) (an:Option Addr) (cdv ct:Value) (osl:Array (Option Value)),
   fd=PySem.W.fnOf x qual (Ū st) (Ŗ st) (ą st) .none kV doc pm an cdv ct/\K.lookup f=some ⟨oc,od,.func fd,osl⟩/\PySem.W.codeIn K cdv qual=true
 kp:PySem.W.keepIn K (.ref f)=true
section
variable{P:Program}{w:World}{K:PySem.W.Frag}{mg:Str->Option Value}{base:Heap}
def Kw.binds{x qual:Str}{st:Stmt}{f:Addr}{fd:FuncData}{ps:List Str}(F:Kw K x qual st f fd)
 (h:∀(kV doc pm:Value) (an:Option Addr) (cdv ct:Value) (us:List Value),us.length=ps.length->bindArgs (PySem.W.fnOf x qual (Ū st) (Ŗ st) (ą st) .none kV doc pm an cdv ct) ⟨us,[]⟩=pure (ps.zip us)):Binds K fd ps []:=by
 obtain⟨oc,od,kV,doc,pm,an,cdv,ct,osl,rfl,lk,hcd⟩:=F.ex
 exact .all (h kV doc pm an cdv ct)
def Ky{x qual:Str}{st:Stmt}{f:Addr}{oc:Value}{od an:Option Addr}{osl:Array (Option Value)}{kV doc pm cdv ct:Value}(l:K.lookup f=some ⟨oc,od,.func (PySem.W.fnOf x qual (Ū st) (Ŗ st) (ą st) .none kV doc pm an cdv ct),osl⟩)
 (c:PySem.W.codeIn K cdv qual=true)(k:PySem.W.keepIn K (.ref f)=true):Kw K x qual st f (PySem.W.fnOf x qual (Ū st) (Ŗ st) (ą st) .none kV doc pm an cdv ct):=⟨⟨oc,od,kV,doc,pm,an,cdv,ct,osl,rfl,l,c⟩,k⟩
end
section
variable{X:Cx}
def pv(i:Nat){x:Str}{pos:Pos}(hN:X.N[i]?=some x:=by rfl)(hv:Gs X.env.scope x:=by first|exact Or.inl rfl|exact Or.inr (Or.inl rfl)|exact Or.inr (Or.inr rfl))(hd:(x== ("__debug__" :Str))=false:=by decide)
 (hcd:(x== ("__classdict__" :Str))=false:=by decide):PE X (.Name x pos) (wD i):=i_ hN hv hd hcd
end
def Same(H H':Hp):Prop:=∀b o,H b=some o->H' b=some o
def Same.refl(H:Hp):Same H H:=λ_ _ h=>h
def Same.trans{H H1 H2:Hp}(a:Same H H1)(b:Same H1 H2):Same H H2:=λc o h=>b c o (a c o h)
def Same.free{H H':Hp}(e:Same H H'){l:Addr}(h:H' l=Option.none):H l=Option.none:=by
 cases q:H l with
 |none=>rfl
 |some o=>
  rw[e l o q] at h
  cases h
def Same.seq{K:PySem.W.Frag}{H H':Hp}{a:Addr}{xs:List V}(e:Same H H')(h:bD K H a xs):bD K H' a xs:=by
 rcases h with(h|⟨o,h⟩)|h
 ·exact .inl (.inl (e _ _ h))
 ·exact .inl (.inr ⟨o,e _ _ h⟩)
 ·exact .inr h
end L2
namespace M2
open PySem PySem.Spec PyProof.Rows L2
section
variable{X:Cx}{a b c e:Expr}{ta tb tc te:TE}{pos:Pos}
def PE.wk{t t':TE}(h:PE X e t)(i:∀σ H Q,t' σ H Q->t σ H Q):PE X e t':=λpins s σ H Q I q=>h pins s σ H Q I (i σ H Q q)
def PS.wk{st:Stmt}{t t':TS}(h:PS X st t)(i:∀D σ H,t' D σ H->t D σ H):PS X st t':=λpins s σ H D I q=>h pins s σ H D I (i D σ H q)
def bC.wk{f:Value->Value->Sem Value}{r r':R2}(h:bC X f r)(i:∀x y H Q,r' x y H Q->r x y H Q):bC X f r':=λpins s σ H x y v u Q I rx ry q=>h pins s σ H x y v u Q I rx ry (i x y H Q q)
def QM.wk{f:Value->Sem Value}{r r':V->Hp->VK->Prop}(h:QM X f r)(i:∀x H Q,r' x H Q->r x H Q):QM X f r':=λpins s σ H x v Q I rx q=>h pins s σ H x v Q I rx (i x H Q q)
def ų.wk{f:Value}{r r':List V->Hp->VK->Prop}(h:ų X f r)(i:∀xs H Q,r' xs H Q->r xs H Q):ų X f r':=λpins s σ H xs us Q I r q=>h pins s σ H xs us Q I r (i xs H Q q)
def CJ.wk{r r':R2}(h:CJ X r)(i:∀x y H Q,r' x y H Q->r x y H Q):CJ X r':=λva sl pins s σ H x y v u Q I rx ry q=>h va sl pins s σ H x y v u Q I rx ry (i x y H Q q)
def Gy.wk{r r':V->Option Int->Option Int->Hp->VK->Prop}(h:Gy X r)(i:∀x lo hi H Q,r' x lo hi H Q->r x lo hi H Q):Gy X r':=λpins s σ H x v vl vu lo hi sl Q I rx hs pl pu q=>h pins s σ H x v vl vu lo hi sl Q I rx hs pl pu (i x lo hi H Q q)
def Zbq(i:Nat):TE:=λσ H Q=>match σ[i]? with
 |some (some v)=>Q v H
 |_=>False
def Ri{i:Nat}{σ:L2.St}{H:Hp}{Q:VK}(h:Zbq i σ H Q):wD i σ H Q:=by
 unfold Zbq at h
 split at h
 ·exact⟨_,by assumption,h⟩
 ·exact h.elim
def mv(i:Nat){x:Str}{pos:Pos}(hN:X.N[i]?=some x:=by rfl)(hv:Gs X.env.scope x:=by first|exact Or.inl rfl|exact Or.inr (Or.inl rfl)|exact Or.inr (Or.inr rfl))(hd:(x== ("__debug__" :Str))=false:=by decide)
 (hcd:(x== ("__classdict__" :Str))=false:=by decide):PE X (.Name x pos) (Zbq i):=PE.wk (i_ hN hv hd hcd) λ_ _ _ h=>Ri h
def bOf(x:V)(k:Bool->Prop):Prop:=match x with
 | .bl c=>k c
 |_=>False
def rJ{x:V}{k:Bool->Prop}(h:bOf x k):∃c,x=.bl c/\k c:=by
 cases x with
 |bl c=>exact⟨c,rfl,h⟩
 |_=>exact h.elim
def Kz(t:TE):TT:=λσ H Q=>t σ H λx H1=>bOf x λc=>Q c H1
def Zbr{op:CmpOp}{r:R2}(ho:bC X (compareOp op) r)(ha:PE X a ta)(hb:PE X b tb)(hm:behindInMarks op b=false):PT X (.Compare a [op] [b] pos) (Kz (tOp r ta tb)):=by
 intro pins s σ H Q I h
 refine wpAny_isTrue_Compare1 (Ŷ (ha pins s σ H _ I h) λv s1 ⟨x,H1,I1,r1,q1⟩=>Ŷ (hb pins s1 σ H1 _ I1 q1) λu s2 ⟨y,H2,I2,r2,q2⟩=>
  Ŷ (ho pins s2 σ H2 x y v u _ I2 r1 r2 q2) λc s3 ⟨z,H3,I3,r3,q3⟩=>?_) hm
 obtain⟨k,e,q3⟩:=rJ q3
 subst e
 cases r3
 exact wpAny_truthy_bool ⟨H3,I3,q3⟩
def CN(r r':R2)(ta tb tc:TE):TE:=λσ H Q=>ta σ H λx H1=>tb σ H1 λy H2=>r x y H2 λz H3=>bOf z λk=>
 (if k=true then tc σ H3 λw' H4=>r' y w' H4 Q else Q (.bl false) H3)
def KC{op op':CmpOp}{r r':R2}(ho:bC X (compareOp op) r)(ho':bC X (compareOp op') r')(ha:PE X a ta)(hb:PE X b tb)(hc:PE X c tc)
 (hm:lastMarks [op,op'] [b,c]=false:=by with_unfolding_all rfl):PE X (.Compare a [op,op'] [b,c] pos) (CN r r' ta tb tc):=by
 intro pins s σ H Q I h
 refine Compare_chain (Ŷ (ha pins s σ H _ I h) λv s1 ⟨x,H1,I1,r1,q1⟩=>chain_link (Ŷ (hb pins s1 σ H1 _ I1 q1) λu s2 ⟨y,H2,I2,r2,q2⟩=>
  Ŷ (ho pins s2 σ H2 x y v u _ I2 r1 r2 q2) λd s3 ⟨z,H3,I3,r3,q3⟩=>?_)) hm
 obtain⟨k,e,q3⟩:=rJ q3
 subst e
 cases r3
 refine wpAny_truthy_bool ?_
 cases k with
 |false=>exact ite_ff ⟨.bl false,H3,I3,rfl,q3⟩
 |true=>exact ite_tt (chain_last (Ŷ (hc pins s3 σ H3 _ I3 q3) λw' s4 ⟨z',H4,I4,r4,q4⟩=>ho' pins s4 σ H4 y z' u w' Q I4 r2 r4 q4))
def KD{op op':CmpOp}{r r':R2}(ho:bC X (compareOp op) r)(ho':bC X (compareOp op') r')(ha:PE X a ta)(hb:PE X b tb)(hc:PE X c tc)
 (hm:lastMarks [op,op'] [b,c]=false:=by with_unfolding_all rfl):PT X (.Compare a [op,op'] [b,c] pos) (Kz (CN r r' ta tb tc)):=by
 intro pins s σ H Q I h
 refine isTrue_chain (Ŷ (ha pins s σ H _ I h) λv s1 ⟨x,H1,I1,r1,q1⟩=>test_link (Ŷ (hb pins s1 σ H1 _ I1 q1) λu s2 ⟨y,H2,I2,r2,q2⟩=>
  Ŷ (ho pins s2 σ H2 x y v u _ I2 r1 r2 q2) λd s3 ⟨z,H3,I3,r3,q3⟩=>?_)) hm
 obtain⟨k,e,q3⟩:=rJ q3
 subst e
 cases r3
 refine wpAny_truthy_bool ?_
 cases k with
 |false=>exact ite_ff ⟨H3,I3,q3⟩
 |true=>
  refine ite_tt (test_last (Ŷ (hc pins s3 σ H3 _ I3 q3) λw' s4 ⟨z',H4,I4,r4,q4⟩=>Ŷ (ho' pins s4 σ H4 y z' u w' _ I4 r2 r4 q4) λd' s5 ⟨z2,H5,I5,r5,q5⟩=>?_))
  obtain⟨k2,e2,q5⟩:=rJ q5
  subst e2
  cases r5
  exact wpAny_truthy_bool ⟨H5,I5,q5⟩
def ZdO(ta tb:TE):TE:=λσ H Q=>ta σ H λx H1=>bOf x λc=>if c=true then tb σ H1 Q else Q (.bl false) H1
variable{rest:List Expr}
def Zbs(ha:PE X a ta)(hb:PE X (.BoolOp .And (b::rest) pos) tb):PE X (.BoolOp .And (a::b::rest) pos) (ZdO ta tb):=by
 intro pins s σ H Q I h
 refine BoolOp_and (Ŷ (ha pins s σ H _ I h) λv s1 ⟨x,H1,I1,r1,q1⟩=>?_)
 obtain⟨c,rfl,q1⟩:=rJ q1
 cases r1
 refine wpAny_truthy_bool ?_
 cases c with
 |true=>exact hb pins s1 σ H1 Q I1 q1
 |false=>exact⟨.bl false,H1,I1,rfl,q1⟩
def mI(C:Int->Int->Prop)(g:Int->Int->V):R2:=λx y H Q=>match x,y with
 | .int i,.int j=>C i j/\Q (g i j) H
 |_,_=>False
def CP(g:Int->Int->V):R2:=λx y H Q=>match x,y with
 | .int i,.int j=>Q (g i j) H
 |_,_=>False
def uY{C:Int->Int->Prop}{g:Int->Int->V}(x y:V)(H:Hp)(Q:VK)(h:mI C g x y H Q):rI C g x y H Q:=by
 cases x with
 |int i=>
  cases y with
  |int j=>exact⟨i,j,rfl,rfl,h.1,h.2⟩
  |_=>exact h.elim
 |_=>exact h.elim
def oM{g:Int->Int->V}(x y:V)(H:Hp)(Q:VK)(h:CP g x y H Q):Qt g x y H Q:=by
 cases x with
 |int i=>
  cases y with
  |int j=>exact⟨i,j,rfl,rfl,h⟩
  |_=>exact h.elim
 |_=>exact h.elim
def ZdP:R2:=λx y H Q=>match x,y with
 | .int i,.int j=>Q (.int (i+j)) H
 | .str i,.str j=>i.length+j.length<=sizeLine/\Q (.str (i++j)) H
 |_,_=>False
def Zbt:bC X (binaryOp .Add) ZdP:=bC.wk (Za7.or Cp) λx y H Q h=>by
 cases x with
 |int i=>
  cases y with
  |int j=>exact .inl ⟨i,j,rfl,rfl,h⟩
  |_=>exact h.elim
 |str i=>
  cases y with
  |str j=>exact .inr ⟨i,j,rfl,rfl,h.1,h.2⟩
  |_=>exact h.elim
 |_=>exact h.elim
def Š:bC X (binaryOp .Sub) (CP λi j=>.int (i-j)):=bC.wk Za8 oM
def uZ(i j:Int):Prop:=Za6 i j\/(Builtin.Int.intBits i<=1048576/\Builtin.Int.intBits j<=1048576)
theorem uZ.ok{i j:Int}(h:uZ i j):IntMulOk i j:=by
 rcases h with h|⟨h1,h2⟩
 ·exact h.ok
 ·exact IntMulOk.of_le h1 h2 (by decide)
def Zbu:bC X (binaryOp .Mult) (mI uZ λi j=>.int (i*j)):=bC.wk (Gx (C:=uZ) (g:=λi j=>i*j) λ_ _ _ _ _ _ _ hc q=>mul_int q hc.ok) uY
def Ji(_ j:Int):Prop:=j≠0/\Builtin.Int.intBits j<=8000
def Ji.py{i j:Int}(h:Ji i j):Builtin.divisionGoesByPylong i j=false:=by
 refine PyProof.noPylong_of_log2 ?_
 have hb:=intBits_le_iff.mp h.2
 have h0:j.natAbs≠0:=by have:=h.1;omega
 exact Nat.lt_of_lt_of_le ((Nat.log2_lt h0).mpr hb) (by decide)
def Ţ:bC X (binaryOp .FloorDiv) (mI Ji λi j=>.int (i.fdiv j)):=bC.wk (Gx (C:=Ji) (g:=λi j=>i.fdiv j) λ_ _ _ _ _ _ _ hc q=>floordiv_int hc.1 q (.inl hc.py)) uY
def Ļ:bC X (binaryOp .Mod) (mI (λ_ j=>j≠0) λi j=>.int (i.fmod j)):=bC.wk QV uY
def oN:bC X (binaryOp .Pow) (mI Ja λi j=>.int (i ^ j.toNat)):=bC.wk Za9 uY
def gG:bC X (compareOp .Lt) (CP λi j=>.bl (decide (i<j))):=bC.wk ZdC oM
def jz:bC X (compareOp .LtE) (CP λi j=>.bl (decide (i<=j))):=bC.wk ZdD oM
def Ue:bC X (compareOp .Gt) (CP λi j=>.bl (decide (j<i))):=bC.wk ZdE oM
def ZdQ:bC X (compareOp .GtE) (CP λi j=>.bl (decide (j<=i))):=bC.wk ZdF oM
def mU(g:Int->V):V->Hp->VK->Prop:=λx H Q=>match x with
 | .int i=>Q (g i) H
 |_=>False
def ig:QM X (unaryOp .USub) (mU λi=>.int (-i)):=QM.wk Zbc λx H Q h=>by
 cases x with
 |int i=>exact⟨i,rfl,h⟩
 |_=>exact h.elim
def mAbs:List V->Hp->VK->Prop:=λxs H Q=>match xs with
 | [.int i]=>Q (.int (if i<0 then -i else i)) H
 |_=>False
def Zbv:ų X (.builtin "abs") mAbs:=ų.wk Km λxs H Q h=>by
 unfold mAbs at h
 split at h
 ·exact⟨_,rfl,h⟩
 ·exact h.elim
def KH:List V->Hp->VK->Prop:=λxs H Q=>match xs with
 | [.int i,.int j]=>Q (.int (if j<i then j else i)) H
 |_=>False
def wK(hc:X.calm=true):ų X (.builtin "min") KH:=ų.wk (Jc hc) λxs H Q h=>by
 unfold KH at h
 split at h
 ·exact⟨_,_,rfl,h⟩
 ·exact h.elim
def KJ:List V->Hp->VK->Prop:=λxs H Q=>match xs with
 | [.int i,.int j]=>Q (.int (if j>i then j else i)) H
 |_=>False
def Rj(hc:X.calm=true):ų X (.builtin "max") KJ:=ų.wk (Jb hc) λxs H Q h=>by
 unfold KJ at h
 split at h
 ·exact⟨_,_,rfl,h⟩
 ·exact h.elim
def Zbw(K:PySem.W.Frag):List V->Hp->VK->Prop:=λxs H Q=>match xs with
 | [.str y]=>y.length<=sizeLine/\Q (.int (y.length:Int)) H
 | [.ref p]=>∃ys,(bD K H p ys\/iH K H p ys)/\Q (.int (ys.length:Int)) H
 |_=>False
def aG:ų X (.builtin "len") (Zbw X.K):=ų.wk Ko λxs H Q h=>by
 unfold Zbw at h
 split at h
 ·exact⟨_,_,rfl,⟨h.1,rfl⟩,h.2⟩
 ·obtain⟨ys,h1,h2⟩:=h
  refine⟨_,ys.length,rfl,?_,h2⟩
  rcases h1 with h1|h1
  ·exact .inl ⟨ys,h1,rfl⟩
  ·exact .inr ⟨ys,h1,rfl⟩
 ·exact h.elim
def mIx(K:PySem.W.Frag):R2:=λx y H Q=>match x,y with
 | .ref p,.int i=>∃xs v,(bD K H p xs\/iH K H p xs)/\uD xs i=some v/\Q v H
 | .str z,.int i=>∃c,z.length<=sizeLine/\uD z.cps.toList i=some c/\Q (.str ⟨#[c]⟩) H
 |_,_=>False
def ď:CJ X (mIx X.K):=CJ.wk Zbm λx y H Q h=>by
 cases x with
 |ref p=>
  cases y with
  |int i=>
   obtain⟨xs,v,h1,h2,h3⟩:=h
   rcases h1 with h1|h1
   ·exact .inl ⟨p,xs,i,v,rfl,rfl,h1,h2,h3⟩
   ·exact .inr (.inl ⟨p,xs,i,v,rfl,rfl,h1,h2,h3⟩)
  |_=>exact h.elim
 |str z=>
  cases y with
  |int i=>
   obtain⟨c,h1,h2,h3⟩:=h
   exact .inr (.inr ⟨z,i,c,rfl,rfl,h1,h2,h3⟩)
  |_=>exact h.elim
 |_=>exact h.elim
def iOf(x:V)(k:Int->Prop):Prop:=match x with
 | .int i=>k i
 |_=>False
def ZdR(t:TE):TO:=λσ H Q=>t σ H λx H1=>iOf x λi=>Q (some i) H1
def KN(h:PE X e te):PO X (some e) (ZdR te):=by
 intro pins s σ H Q I hw
 rw[evalPart_some]
 refine Ŷ (h pins s σ H _ I hw) λu s1 ⟨x,H1,I1,r1,q1⟩=>?_
 cases x with
 |int i=>
  obtain⟨t,rfl⟩:=r1
  exact⟨some i,H1,I1,.int i t,q1⟩
 |_=>exact q1.elim
def Zf9(K:PySem.W.Frag):V->Option Int->Option Int->Hp->VK->Prop:=λx lo hi H Q=>match x with
 | .ref a=>∃xs,bD K H a xs/\∀p,H p=none->Q (.ref p) (upd H p (.lst (zR xs lo hi)))
 |_=>False
def KQ:Gy X (Zf9 X.K):=Gy.wk Rf λx lo hi H Q h=>by
 cases x with
 |ref a=>
  obtain⟨xs,h1,h2⟩:=h
  exact⟨a,xs,rfl,h1,h2⟩
 |_=>exact h.elim
end
end M2
namespace M2
open PySem PySem.Spec PyProof.Rows L2
section
variable{X:Cx}{tg:Expr}
end
mutual
def Rp(K:PySem.W.Frag)(H:Hp):PyData->V->Prop
 | .none,v=>v=.non
 | .bool b,v=>v=.bl b
 | .int i,v=>v=.int i
 | .str x,v=>v=.str x
 | .tuple ds,v=>∃a xs,v=.ref a/\iH K H a xs/\oO K H ds xs
 | .list ds,v=>∃a xs,v=.ref a/\bD K H a xs/\oO K H ds xs
 | .dict _,_=>False
def oO(K:PySem.W.Frag)(H:Hp):List PyData->List V->Prop
 | [],xs=>xs=[]
 |d::ds,xs=>∃x r,xs=x::r/\Rp K H d x/\oO K H ds r
end
def Same.tup{K:PySem.W.Frag}{H H':Hp}{a:Addr}{xs:List V}(e:Same H H')(h:iH K H a xs):iH K H' a xs:=by
 rcases h with(h|⟨o,h⟩)|h
 ·exact .inl (.inl (e _ _ h))
 ·exact .inl (.inr ⟨o,e _ _ h⟩)
 ·exact .inr h
theorem Same.upd{H:Hp}{p:Addr}{o:HO}(h:H p=none):Same H (upd H p o):=λb u e=>by
 rw[ě (Ĩ e h)]
 exact e
mutual
theorem Rp.same{K:PySem.W.Frag}{H H':Hp}(e:Same H H'):∀(d:PyData) (v:V),Rp K H d v->Rp K H' d v
 | .none,_,h=>by unfold Rp at h ⊢;exact h
 | .bool _,_,h=>by unfold Rp at h ⊢;exact h
 | .int _,_,h=>by unfold Rp at h ⊢;exact h
 | .str _,_,h=>by unfold Rp at h ⊢;exact h
 | .tuple ds,_,h=>by
   unfold Rp at h ⊢
   obtain⟨a,xs,h1,h2,h3⟩:=h
   exact⟨a,xs,h1,Same.tup e h2,oO.same e ds xs h3⟩
 | .list ds,_,h=>by
   unfold Rp at h ⊢
   obtain⟨a,xs,h1,h2,h3⟩:=h
   exact⟨a,xs,h1,e.seq h2,oO.same e ds xs h3⟩
 | .dict _,_,h=>by unfold Rp at h;exact h.elim
theorem oO.same{K:PySem.W.Frag}{H H':Hp}(e:Same H H'):∀(ds:List PyData) (xs:List V),oO K H ds xs->oO K H' ds xs
 | [],_,h=>by unfold oO at h ⊢;exact h
 |d::ds,_,h=>by
  unfold oO at h ⊢
  obtain⟨x,r,h1,h2,h3⟩:=h
  exact⟨x,r,h1,Rp.same e d x h2,oO.same e ds r h3⟩
end
section
variable{X:Cx}{pins:List (Addr×Obj)}{σ:L2.St}{H:Hp}{s:Shared}
mutual
theorem Rp.reads(I:Inv X pins σ H s):∀(d:PyData) (v:V) (u:Value),Rp X.K H d v->RelV v u->∃as,Reads s.heap u d as
 | .none,v,u,h,r=>by
   unfold Rp at h;subst h;cases r;exact⟨_,.none⟩
 | .bool b,v,u,h,r=>by
   unfold Rp at h;subst h;cases r;exact⟨_,.bool b⟩
 | .int i,v,u,h,r=>by
   unfold Rp at h;subst h;obtain⟨t,rfl⟩:=r;exact⟨_,.int i t⟩
 | .str x,v,u,h,r=>by
   unfold Rp at h;subst h;obtain⟨t,rfl⟩:=r;exact⟨_,.str x t⟩
 | .tuple ds,v,u,h,r=>by
   unfold Rp at h
   obtain⟨a,xs,h1,h2,h3⟩:=h
   subst h1
   cases r
   obtain⟨its,rv,⟨o,e,hc,n,hd⟩,hz⟩:=I.tuple h2
   obtain⟨as,ra⟩:=oO.reads I ds xs its h3 rv
   exact⟨_,.tuple e hc hd (by simpa using ra)⟩
 | .list ds,v,u,h,r=>by
   unfold Rp at h
   obtain⟨a,xs,h1,h2,h3⟩:=h
   subst h1
   cases r
   obtain⟨its,rv,⟨o,n,e,hc,hdd,hd⟩,hz⟩:=I.list h2
   obtain⟨as,ra⟩:=oO.reads I ds xs its h3 rv
   exact⟨_,.list e hc hd (by simpa using ra)⟩
 | .dict _,_,_,h,_=>by unfold Rp at h;exact h.elim
theorem oO.reads(I:Inv X pins σ H s):∀(ds:List PyData) (xs:List V) (us:List Value),oO X.K H ds xs->Vals xs us->∃as,ReadsAll s.heap us ds as
 | [],xs,us,h,r=>by
   unfold oO at h;subst h;cases r;exact⟨_,.nil⟩
 |d::ds,xs,us,h,r=>by
  unfold oO at h
  obtain⟨x,q,h1,h2,h3⟩:=h
  subst h1
  cases r with
  |cons r1 r2=>
   obtain⟨as,ra⟩:=Rp.reads I d x _ h2 r1
   obtain⟨bs,rb⟩:=oO.reads I ds q _ h3 r2
   exact⟨_,.cons ra rb⟩
end
end
def Rk(K:PySem.W.Frag)(neg:Bool):R2:=λx y H Q=>∃d e,Rp K H d x/\Rp K H e y/\d.canLay0=true/\e.canLay0=true/\min d.depth e.depth<=60/\Q (.bl (if neg then !PyData.eqv d e else PyData.eqv d e)) H
section
variable{X:Cx}
def ŝ(hu:X.A.units+64<cLine):bC X (compareOp .Eq) (Rk X.K false):=by
 intro pins s σ H x y v u Q I rx ry h
 obtain⟨d,e,h1,h2,h3,h4,h5,q⟩:=h
 obtain⟨as,ra⟩:=Rp.reads I d x v h1 rx
 obtain⟨bs,rb⟩:=Rp.reads I e y u h2 ry
 exact SeqAt.compareEq_reads ra rb h3 h4 (by omega) ⟨.bl _,H,I,rfl,q⟩
def gb(hu:X.A.units+64<cLine):bC X (compareOp .NotEq) (Rk X.K true):=by
 intro pins s σ H x y v u Q I rx ry h
 obtain⟨d,e,h1,h2,h3,h4,h5,q⟩:=h
 obtain⟨as,ra⟩:=Rp.reads I d x v h1 rx
 obtain⟨bs,rb⟩:=Rp.reads I e y u h2 ry
 exact SeqAt.compareNe_reads ra rb h3 h4 (by omega) ⟨.bl _,H,I,rfl,q⟩
end
section
variable{K:PySem.W.Frag}
end
end M2
namespace M3
open PySem PySem.Spec PyProof.Rows L2 M2
def GK{P:Program}{w:World}{H:Hp}{h h':Heap}{C:Addr}(x:jK P w H h)(hC:H C=none)(k:∀b u,b≠C->h.get? b=some u->h'.get? b=some u):jK P w H h':=λa o e=>
 (x a o e).stay (fun b u hb q=>k b u (by
   rcases hb with hb|hb
   ·rw[hb];exact Ĩ e hC
   ·exact Ĩ hb hC) q) (λ_ q=>q) λ_ _ q=>q
theorem mR{env:Env}:∀(ns:List (Str×NameKind)) (cs:List (Str×Addr)),(∀y∈ns,y.2=.free->∃c,env.cells.lookup y.1=some c)->(∀x c,cs.lookup x=some c->env.cells.lookup x=some c)->
 ∃cl,(forIn ns cs (λ(x:Str×NameKind) r=>if(x.2== .free)=true then(do let c <-cellOf env x.1;pure (ForInStep.yield ((x.1,c)::r))) else pure (ForInStep.yield r)):Sem (List (Str×Addr)))=pure cl/\
  (∀x c,cl.lookup x=some c->env.cells.lookup x=some c)/\(∀x,(∃c,cs.lookup x=some c)->∃c,cl.lookup x=some c)/\∀y∈ns,y.2=.free->∃c,cl.lookup y.1=some c
 | [],cs,_,h2=>⟨cs,rfl,h2,λ_ z=>z,λ_ z=>nomatch z⟩
 |(n,k)::ns,cs,h1,h2=>by
  by_cases hk:k=.free
  ·subst hk
   obtain⟨c,hc⟩:=h1 (n,.free) List.mem_cons_self rfl
   have e:cellOf env n=pure c:=by unfold cellOf;rw[hc]
   have h2':∀x d,((n,c)::cs).lookup x=some d->env.cells.lookup x=some d:=λx d q=>by
    rw[List.lookup_cons] at q
    cases hx:x== n with
    |true=>
     rw[hx] at q
     have:x=n:=eq_of_beq hx
     subst this
     cases q
     exact hc
    |false=>
     rw[hx] at q
     exact h2 x d q
   obtain⟨cl,q1,q2,q3,q4⟩:=mR ns ((n,c)::cs) (λy hy=>h1 y (List.mem_cons_of_mem _ hy)) h2'
   refine⟨cl,?_,q2,λx ⟨d,hd⟩=>q3 x ?_,λy hy hf=>?_⟩
   ·rw[List.forIn_cons]
    simp only[beq_self_eq_true,if_true,e,pure_bind]
    exact q1
   ·rw[List.lookup_cons]
    cases hx:x== n with
    |true=>exact⟨c,rfl⟩
    |false=>exact⟨d,hd⟩
   ·rcases List.mem_cons.mp hy with rfl|hy
    ·exact q3 n ⟨c,by rw[List.lookup_cons,beq_self_eq_true]⟩
    ·exact q4 y hy hf
  ·have hb:(k== NameKind.free)=false:=by simpa using hk
   obtain⟨cl,q1,q2,q3,q4⟩:=mR ns cs (λy hy=>h1 y (List.mem_cons_of_mem _ hy)) h2
   refine⟨cl,?_,q2,q3,λy hy hf=>?_⟩
   ·rw[List.forIn_cons]
    simp only[hb,Bool.false_eq_true,if_false,pure_bind]
    exact q1
   ·rcases List.mem_cons.mp hy with rfl|hy
    ·exact absurd hf hk
    ·exact q4 y hy hf
def jd{scope:Scope}{env:Env}(h:∀y∈scope.names,y.2=.free->∃c,env.cells.lookup y.1=some c) :
 ∃cl,closureFor scope env=pure cl/\(∀x c,cl.lookup x=some c->env.cells.lookup x=some c)/\∀y∈scope.names,y.2=.free->∃c,cl.lookup y.1=some c:=by
 obtain⟨cl,q1,q2,_,q4⟩:=mR (env:=env) scope.names [] h (λx c z=>by simp at z)
 refine⟨cl,?_,q2,q4⟩
 unfold closureFor
 have e:(forIn scope.names [] (λ(x:Str×NameKind) (r:List (Str×Addr))=>match x with
  |(name,kind)=>if(kind== .free)=true then(do let a <-cellOf env name;pure (ForInStep.yield ((name,a)::r))) else pure (ForInStep.yield r)):Sem (List (Str×Addr)))=pure cl:=q1
 first
  |(simp only[bind_pure];exact q1)
  |(rw[show ∀(t:Sem (List (Str×Addr))),(do let r <-t;pure r)=t from λt=>by simp];exact q1)
  |(simp only[q1,pure_bind])
def lA(X:Cx)(N':List Str)(scope:Scope)(cl:List (Str×Addr))(C:Addr)(s:Shared)(H:Hp)(fp:List Addr):Cx where
 prog:=X.prog
 w:=X.w
 K:=X.K
 mg:=X.mg
 base:=X.base
 A:=X.A
 N:=N'
 s₀:= s
 H₀:= H
 env:=compEnvC scope cl C X.env
 outer:=X.stack
 stack:=X.stack
 ex:=fp
 fn:=λx=>scope.names.lookup x== some .cell
 calm:=X.calm
 pn:=[]
 xe:=λ_ _=>False
def jW(X:Cx)(sc scope:Scope):List Str->List Nat->Prop
 |x::xs,j::js=>X.N[j]?=some x/\(scope.names.lookup x=some .free/\(sc.names.lookup x=some .cell\/sc.names.lookup x=some .free))/\jW X sc scope xs js
 |_,[]=>True
 | [],_::_=>False
def iK(js:List Nat)(nl:Nat)(σ:L2.St):L2.St:=js.map (λj:Nat=>(σ[j]?).getD none)++List.replicate nl none
theorem oR{X:Cx}{sc scope:Scope}{σ:L2.St}{nl:Nat}:∀{N':List Str} {js:List Nat} {i:Nat} {x:Str} {v:V},jW X sc scope N' js->N'[i]?=some x->(iK js nl σ)[i]?=some (some v)->
 ∃j:Nat,X.N[j]?=some x/\σ[j]?=some (some v)/\scope.names.lookup x=some .free/\(sc.names.lookup x=some .cell\/sc.names.lookup x=some .free)
 |N',[],i,x,v,_,_,h=>by
  unfold iK at h
  rw[List.map_nil,List.nil_append,List.getElem?_replicate] at h
  split at h<;>cases h
 | [],_::_,_,_,_,c,_,_=>c.elim
 |y::N',j::js,0,x,v,c,h1,h2=>by
  obtain⟨c1,c2,_⟩:=c
  simp at h1
  subst h1
  have e:(σ[j]?).getD none=some v:=by simpa[iK] using h2
  refine⟨j,c1,?_,c2⟩
  cases q:σ[j]? with
  |none=>rw[q] at e;cases e
  |some o=>rw[q] at e;exact congrArg some e
 |y::N',j::js,i+1,x,v,c,h1,h2=>by
  exact oR (N':=N') (js:=js) (i:=i) c.2.2 (by simpa using h1) (by simpa[iK] using h2)
section
variable{prog:Program}{w:World}{A:Around}{R:Result->Shared->Prop}{s:Shared}
def nF{elt target iter:Expr}{ifs:List Expr}{scope:Scope}{pos:Pos}{it acc:Value}{env:Env}(I:Nat->Shared->Prop)
 (turn:∀n s,I n s→wpAny (model prog w) A (pyNext it) (fun r s₁=>match r with
   |none=>R (.ok .next) s₁
   |some v=>wpAny (model prog w) A (letOwnedTupleGo target it v) (fun _ s₁'=>wpAny (model prog w) A (assign target env v) (fun _ s₂=>
     wpAny (model prog w) A (forIn ifs true λc r=>if r=true then do let ok <-isTrue c env (eval c env);pure (ForInStep.yield ok) else pure (ForInStep.yield r)) (λok s₃=>
      if ok=true then wpAny (model prog w) A (eval elt env) (λx s₄=>
       wpAny (model prog w) A (call (.builtin "list.append") [acc,x]) (λ_ s₅=>∃m,m<n/\I m s₅) (λ_ _=>False) s₄) (λ_ _=>False) s₃
      else ∃m,m<n/\I m s₃) (λ_ _=>False) s₂) (λ_ _=>False) s₁') (λ_ _=>False) s₁) (λ_ _=>False) s)
 (n:Nat)(h:I n s) :
 codeAny (model prog w) A (.compLoop (.ListComp elt [⟨target,iter,ifs,0⟩] scope pos) 0 it acc env) R s:=by
 refine codeAny_loop rfl I (λn s hI=>?_) n h
 show wpAny _ A ((compTurn (.ListComp elt [⟨target,iter,ifs,0⟩] scope pos) 0 it acc env).onRaise (λx=>do noteFrame x env;theTreesLotGoes x)) _ _ s
 refine wpAny_noted (wpAny_noRaise ?_)
 rw[compTurn_list]
 refine wpAny_bind (wpAny_standAt (wpAny_bind (wpAny_mono (turn n s hI) (λr s₁ h₁=>?_) λ_ _ h'=>h')))
 cases r with
 |none=>exact wpAny_pure h₁
 |some v=>
  refine wpAny_bind (wpAny_mono h₁ (λ_ s₁' h₁'=>?_) λ_ _ h'=>h')
  refine wpAny_bind (wpAny_mono h₁' (λ_ s₂ h₂=>wpAny_bind (wpAny_mono h₂ (λok s₃ h₃=>?_) λ_ _ h'=>h')) λ_ _ h'=>h')
  cases ok with
  |false=>exact wpAny_pure ⟨rfl,h₃⟩
  |true=>
   exact wpAny_bind (wpAny_bind (wpAny_mono h₃ (λx s₄ h₄=>wpAny_bind (wpAny_mono h₄ (λ_ s₅ h₅=>wpAny_pure (wpAny_pure ⟨rfl,h₅⟩)) λ_ _ h'=>h')) λ_ _ h'=>h'))
end
def Ug(X:Cx)(ifs:List Expr)(t:TT):Prop:=
 ∀(pins:List (Addr×Obj)) (s:Shared) (σ:L2.St) (H:Hp) (Q:Bool->Hp->Prop),Inv X pins σ H s->t σ H Q->
  wpAny (model X.prog X.w) X.A (forIn ifs true λc r=>if r=true then do let ok <-isTrue c X.env (eval c X.env);pure (ForInStep.yield ok) else pure (ForInStep.yield r)) (TP X pins σ Q) X.xe s
def Zf_:TT:=λ_ H Q=>Q true H
def Rm{X:Cx}:Ug X [] Zf_:=λ_ _ _ H _ I h=>wpAny_tests_nil ⟨H,I,h⟩
def Rn{X:Cx}{c:Expr}{t:TT}(h:PT X c t):Ug X [c] t:=λpins s σ H Q I hw=>wpAny_tests_one (h pins s σ H Q I hw)
def KR(js:List Nat)(nl:Nat)(wi:TI)(g:TG)(tt:TT)(te:TE):TE:=λσ H Q=>wi σ H λJ H1=>∀D,H1 D=none->
 ∃W:Nat->Nat->L2.St->Hp->Prop,(∃m,W 0 m (iK js nl σ) (upd H1 D (.lst [])))/\∀i m σ' H',W i m σ' H'->
  (J.stop i H'∧Q (.ref D) H')∨(J.go i H'∧∃N:L2.St→Hp→Prop,(∀σ2 H2,N σ2 H2→∃m',m'<m∧W (i+1) m' σ2 H2)∧∀x H2,J.yld i H' x H2→g x σ' H2 fun σ2 H3=>tt σ2 H3 fun c H4=>
    if c=true then te σ2 H4 λy H5=>∃ys,H5 D=some (.lst ys)/\ys.length<sizeLine/\N σ2 (upd H5 D (.lst (ys ++ [y]))) else N σ2 H4)
section
variable{X:Cx}{elt tg iter:Expr}{ifs:List Expr}{scope:Scope}{pos:Pos}{wi:TI}{g:TG}{tt:TT}{te:TE}
theorem je{env:Env}:∀{names:List (Str×NameKind)} {x:Str} {k:NameKind},(k=.cell\/k=.free)->
 (names.map λ(n,k)=>if(k== NameKind.free && env.scope.kind== .function && env.kindOf n== some .cell) then(n,NameKind.cell) else(n,k)).lookup x=some k->(x,NameKind.free)∈names\/(x,NameKind.cell)∈names
 | [],x,k,_,h=>by simp at h
 |(n,q)::r,x,k,hk,h=>by
  have ih:=@je env r x k hk
  rw[List.map_cons] at h
  by_cases hx:x=n
  ·subst hx
   by_cases hf:q=.free
   ·subst hf
    exact .inl List.mem_cons_self
   ·have hb:(q== NameKind.free)=false:=by simpa using hf
    have e:(if(q== NameKind.free && env.scope.kind== .function && env.kindOf x== some .cell)=true then(x,NameKind.cell) else(x,q))=(x,q):=by
     rw[hb];rfl
    have h2:=h
    simp only[e,List.lookup_cons,beq_self_eq_true] at h2
    have:q=k:=Option.some.inj h2
    rcases hk with hk|hk
    ·rw[this,hk]
     exact .inr List.mem_cons_self
    ·exact absurd (this.trans hk) hf
  ·have hn:(x== n)=false:=by simpa using hx
   have h3:(x,NameKind.free)∈r\/(x,NameKind.cell)∈r:=ih (by
    by_cases c:(q== NameKind.free && env.scope.kind== .function && env.kindOf n== some .cell)=true
    ·simp only[c,if_true,List.lookup_cons,hn] at h
     exact h
    ·simp only[c,if_false,Bool.false_eq_true,List.lookup_cons,hn] at h
     exact h)
   rcases h3 with h3|h3
   ·exact .inl (List.mem_cons_of_mem _ h3)
   ·exact .inr (List.mem_cons_of_mem _ h3)
theorem aU:∀(names:List (Str×NameKind)) (n:Nat) (acc:List (Str×Addr)),cellsFrom n names acc=cellsFrom n names []++acc
 | [],_,_=>rfl
 |(x,k)::r,n,acc=>by
  unfold cellsFrom
  split
  ·rw[aU r (n+1) ((x,n)::acc),aU r (n+1) [(x,n)],List.append_assoc]
   rfl
  ·exact aU r n acc
theorem jf:∀(names:List (Str×NameKind)) (n:Nat) {x:Str} {c:Addr},(x,c)∈cellsFrom n names []->(x,NameKind.cell)∈names
 | [],_,_,_,h=>by simp[cellsFrom] at h
 |(y,k)::r,n,x,c,h=>by
  unfold cellsFrom at h
  split at h
  ·rename_i hk
   rw[aU r (n+1) [(y,n)]] at h
   rcases List.mem_append.mp h with h|h
   ·exact List.mem_cons_of_mem _ (jf r _ h)
   ·have e:(x,c)=(y,n):=by simpa using h
    cases e
    rw[beq_iff_eq.mp hk]
    exact List.mem_cons_self
  ·exact List.mem_cons_of_mem _ (jf r _ h)
structure Blk(X:Cx)(scope:Scope)(n:Nat)(h:Heap)(cl:List (Str×Addr)):Prop where
 at_:∀x c,cl.lookup x=some c->(X.env.cells.lookup x=some c/\scope.names.lookup x≠some .cell)\/(n<c/\h.IsCell c none/\scope.names.lookup x=some .cell)
 inj:∀x y c,cl.lookup x=some c->cl.lookup y=some c->n<c->x=y
 has:∀x,((x,NameKind.free)∈scope.names\/(x,NameKind.cell)∈scope.names)->∃c,cl.lookup x=some c
def KY{X:Cx}{scope:Scope}{n:Nat}{h:Heap}{cl:List (Str×Addr)}(hcell:∀y∈scope.names,y.2=.cell->scope.names.lookup y.1=some .cell)
 (h1:∀x c,cl.lookup x=some c->X.env.cells.lookup x=some c)(h2:∀y∈scope.names,y.2=.free->∃c,cl.lookup y.1=some c)(hlt:∀x c,X.env.cells.lookup x=some c->c<n)
 (ok:CellsOk h (n+1) (cellsFrom (n+1) scope.names [])):Blk X scope n h (cellsFrom (n+1) scope.names cl):=by
 have sp:∀x c,(cellsFrom (n+1) scope.names cl).lookup x=some c->(cl.lookup x=some c/\(cellsFrom (n+1) scope.names []).lookup x=none)\/(cellsFrom (n+1) scope.names []).lookup x=some c:=λx c e=>by
  rw[aU,List.lookup_append] at e
  cases q:(cellsFrom (n+1) scope.names []).lookup x with
  |none=>rw[q] at e;exact .inl ⟨by simpa using e,rfl⟩
  |some d=>rw[q] at e;exact .inr (by simpa using e)
 refine⟨λx c e=>?_,λx y c e1 e2 hc=>?_,λx hx=>?_⟩
 ·rcases sp x c e with⟨e,q⟩|e
  ·refine .inl ⟨h1 x c e,λz=>?_⟩
   obtain⟨d,hd⟩:=nC (sc:=scope) (n:=n+1) z
   rw[hd] at q
   cases q
  ·have m:=mem_of_lookup e
   exact .inr ⟨(ok.empty x c m).2,(ok.empty x c m).1,hcell _ (jf _ _ m) rfl⟩
 ·have nw:∀z,(cellsFrom (n+1) scope.names cl).lookup z=some c→(cellsFrom (n+1) scope.names []).lookup z=some c:=fun z e=>by
   rcases sp z c e with⟨e,q⟩|e
   ·exact absurd (hlt z c (h1 z c e)) (Nat.lt_asymm hc)
   ·exact e
  exact name_of_addr ok.apart (mem_of_lookup (nw x e1)) (mem_of_lookup (nw y e2))
 ·rw[aU,List.lookup_append]
  rcases hx with hx|hx
  ·obtain⟨c,hc⟩:=h2 _ hx rfl
   cases q:(cellsFrom (n+1) scope.names []).lookup x with
   |none=>exact⟨c,by simpa using hc⟩
   |some d=>exact⟨d,rfl⟩
  ·obtain⟨d,hd⟩:=nC (sc:=scope) (n:=n+1) (hcell _ hx rfl)
   rw[hd]
   exact⟨d,rfl⟩
def lX{M:Model}{A:Around}{E:Value->Shared->Prop}{s:Shared}{scope:Scope}{globals:Addr}{closure:List (Str×Addr)}{qual:Str}
 {func:Option Addr}{code:Value}{env0:Env}{builtins:Addr}{Q:Env->Shared->Prop}
 (hQ:∀h',h'.Ns s.heap.objs.size (fun _=>none)→(∀b o,s.heap.get? b=some o→h'.get? b=some o)→CellsOk h' (s.heap.objs.size+1) (cellsFrom (s.heap.objs.size+1) scope.names [])→
   Q (newEnv scope s.heap.objs.size globals (cellsFrom (s.heap.objs.size+1) scope.names closure) qual func code (some env0) builtins) {s with heap:=h'}) :
 wpAny M A (newFunctionEnv scope globals closure [] qual func code (some env0) builtins) Q E s:=by
 simp only[newFunctionEnv,Option.isSome_some,if_true]
 refine wpAny_bind (wpAny_alloc ?_)
 refine wpAny_bind (wpAny_layCells _ (λname kind cells=>by cases hkc:kind== NameKind.cell<;>simp[hkc]) _ _ _ _ ?_)
 have ok:=cellsFrom_ok scope.names (s.heap.push {cls:=.type "dict",data:=.dict #[]}) (s.heap.objs.size+1) [] ⟨λ_ _ hm=>(nomatch hm),List.Pairwise.nil⟩ (by rw[Heap.size_push];exact Nat.le_refl _)
 rw[Heap.size_push] at ok
 rw[show({s with heap:=s.heap.push {cls:=.type "dict",data:=.dict #[]}}:Shared).heap.objs.size=s.heap.objs.size+1 from Heap.size_push ..]
 refine wpAny_bind ?_
 rw[List.forIn_nil]
 exact wpAny_pure (wpAny_pure (hQ _ ((Heap.Ns.new s.heap (.type "dict")).keeps (pushCells_keeps _ _)) (λb o e=>pushCells_keeps _ _ b o (Heap.get?_push_of_some _ e)) ok))
theorem nG{env:Env}:∀{names:List (Str×NameKind)} {x:Str},names.lookup x=some .free->
 ¬(names.map λ(n,k)=>if(k== NameKind.free && env.scope.kind== .function && env.kindOf n== some .cell) then(n,NameKind.cell) else(n,k)).lookup x=some .local
 | [],x,h=>by simp at h
 |(n,q)::r,x,h=>by
  intro h2
  rw[List.map_cons] at h2
  rw[List.lookup_cons] at h
  cases hx:x== n with
  |true=>
   rw[hx] at h
   cases h
   by_cases c:(NameKind.free== NameKind.free && env.scope.kind== .function && env.kindOf n== some .cell)=true
   ·simp only[c,if_true,List.lookup_cons,hx] at h2
    cases h2
   ·simp only[c,if_false,Bool.false_eq_true,List.lookup_cons,hx] at h2
    cases h2
  |false=>
   rw[hx] at h
   have ih:=nG (env:=env) h
   by_cases c:(q== NameKind.free && env.scope.kind== .function && env.kindOf n== some .cell)=true
   ·simp only[c,if_true,List.lookup_cons,hx] at h2
    exact ih h2
   ·simp only[c,if_false,Bool.false_eq_true,List.lookup_cons,hx] at h2
    exact ih h2
def u_{pins:List (Addr×Obj)}{σ:L2.St}{H:Hp}{s:Shared}{N':List Str}{js:List Nat}{nl:Nat}{sc:Scope}{cl:List (Str×Addr)}{fp:List Addr}{h':Heap}{tk:Nat}
 (hsc:X.env.scope=sc)(hk:scope.kind=.function)(hcap:jW X sc scope N' js)(hlen:js.length+nl=N'.length)(B:Blk X scope s.heap.objs.size h' cl)
 (I:Inv X pins σ H s)(hf:∀b∈fp,dZ X pins H b)(hlt:∀b∈fp,b<s.heap.objs.size)
 (hn:h'.Ns s.heap.objs.size (λ_=>none))(kp:∀b o,s.heap.get? b=some o->h'.get? b=some o) :
 Inv (lA X N' scope cl s.heap.objs.size s H fp) [] (iK js nl σ) H {s with heap:=h',toks:=tk}:=by
 have KZ:∀x,((lA X N' scope cl s.heap.objs.size s H fp).env.kindOf x=some .cell\/(lA X N' scope cl s.heap.objs.size s H fp).env.kindOf x=some .free)->∃c,cl.lookup x=some c:=λx hx=>by
  rcases hx with hx|hx
  ·exact B.has x (je (.inl rfl) hx)
  ·exact B.has x (je (.inr rfl) hx)
 have lt:∀x c,X.env.cells.lookup x=some c->c<s.heap.objs.size:=λx c e=>by
  obtain⟨v,o,ho,_⟩:=I.cell x c e
  exact Heap.lt_size ho
 have inj:∀x y c,cl.lookup x=some c->cl.lookup y=some c->x=y:=λx y c e1 e2=>by
  rcases B.at_ x c e1 with⟨q1,_⟩|⟨q1,_⟩
  ·rcases B.at_ y c e2 with⟨q2,_⟩|⟨q2,_⟩
   ·exact I.ok.inj x y c q1 q2
   ·exact absurd (lt x c q1) (Nat.lt_asymm q2)
  ·exact B.inj x y c e1 e2 q1
 refine⟨⟨I.ok.mod,hk,I.ok.glob,I.ok.blt,Nat.le_refl _,inj,KZ,λx c z e=>by
  rcases B.at_ x c e with⟨_,q⟩|⟨q,_⟩
  ·exact absurd (beq_iff_eq.mp z) q
  ·exact Nat.le_of_lt q,I.ok.hd,I.ok.frames,.inl rfl,λb hb=>⟨Nat.ne_of_lt (hlt b hb),λx c e=>by
  rcases B.at_ x c e with⟨q,_⟩|⟨q,_⟩
  ·exact(hf b hb).2.2.2.2.1 x c q
  ·exact Nat.ne_of_gt (Nat.lt_trans (hlt b hb) q)⟩,
  I.bs,Nat.le_trans I.ok.Qs I.sz,fun b o e hb=>?_,fun b hb hz=>?_,I.stack,I.qP,I.tb⟩,rfl,I.bare,Un.kept kp,⟨_,hn,fun i x v e1 e2 e3=>?_⟩,fun x c e=>?_,I.hok.fresh (Nat.le_refl _),fun x c e=>by
    rcases B.at_ x c e with⟨q,_⟩|⟨q,_⟩
    ·exact I.jy x c q
    ·exact I.hok.fresh (Nat.le_of_lt q),λp hp=>?_,I.hok.kept kp,?_⟩
 ·rcases(hf b hb).2.2.2.1 with z|z
  ·exact I.ok.IK b o e z
  ·exact absurd (Nat.lt_of_lt_of_le (Heap.lt_size e) (Nat.le_trans I.ok.Qs z)) (Nat.lt_irrefl _)
 ·rcases List.mem_cons.mp (I.rC b hz) with z|z
  ·exact(hf b hb).2.1 z
  ·exact(hf b hb).2.2.1 z
 ·obtain⟨j,q1,q2,q0,q3⟩:=oR hcap e1 e2
  obtain⟨m,hm,hl⟩:=I.loc
  have Zbx:Gs X.env.scope x:=by
   rw[hsc]
   rcases q3 with q3|q3
   ·exact .inr (.inl q3)
   ·exact .inr (.inr q3)
  obtain⟨u,ru,lk⟩:=hl j x v q1 q2 Zbx
  refine⟨u,ru,?_⟩
  rcases lk with⟨k1,_⟩|⟨k1,c,hc,ic⟩
  ·exfalso
   have k1':sc.names.lookup x=some .local:=by rw[<-hsc];exact k1
   rcases q3 with q3|q3<;>(rw[k1'] at q3;cases q3)
  ·have e3':(lA X N' scope cl s.heap.objs.size s H fp).env.kindOf x=some .local\/(lA X N' scope cl s.heap.objs.size s H fp).env.kindOf x=some .cell\/(lA X N' scope cl s.heap.objs.size s H fp).env.kindOf x=some .free:=e3
   rcases e3' with z|z
   ·exact absurd z (nG (env:=X.env) q0)
   ·obtain⟨d,hd⟩:=KZ x z
    have:d=c:=by
     rcases B.at_ x d hd with⟨q,_⟩|⟨_,_,q⟩
     ·rw[hc] at q
      exact(Option.some.inj q).symm
     ·rw[q0] at q
      cases q
    subst this
    exact .inr ⟨z,d,hd,by
     obtain⟨o,ho,hd'⟩:=ic
     exact⟨o,kp _ _ ho,hd'⟩⟩
 ·rcases B.at_ x c e with⟨q,_⟩|⟨_,q,_⟩
  ·obtain⟨v,o,ho,hd⟩:=I.cell x c q
   exact⟨v,o,kp _ _ ho,hd⟩
  ·exact⟨none,q⟩
 ·exact absurd hp (by simp[lA])
 ·show _=N'.length
  rw[<-hlen]
  simp[iK]
def rK{pins:List (Addr×Obj)}{σ σ':L2.St}{H H':Hp}{s s':Shared}{N':List Str}{cl:List (Str×Addr)}{fp:List Addr}{h':Heap}(I:Inv X pins σ H s)(hf:∀b∈fp,dZ X pins H b)
 (J:Inv (lA X N' scope cl s.heap.objs.size s H fp) [] σ' H' s')(kp:∀b u,b≠s.heap.objs.size->s'.heap.get? b=some u->h'.get? b=some u):Inv X pins σ H' {s' with heap:=h'}:=by
 have ne:∀{b:Addr} {o:Obj},s.heap.get? b=some o->b≠s.heap.objs.size:=λe=>Nat.ne_of_lt (Heap.lt_size e)
 have u:=J.base
 refine I.call' (ch:=fp) J.os ⟨λb o e n hb hx=>kp b o (ne e) (u.keep b o e n hb hx),λb o e n hb hx=>?_,λb o e n hx=>u.free b o e n hx,λb o e hx=>?_,u.tups,u.mK,u.jQ⟩ (GK J.hok J.free kp) J.bare λb hb=>?_
 ·obtain⟨sl,q⟩:=u.slot b o e n hb hx
  exact⟨sl,kp b _ (ne e) q⟩
 ·obtain⟨o',q⟩:=u.there b o e hx
  exact⟨o',kp b _ (ne e) q⟩
 ·exact⟨(hf b hb).2.2.2.1,(hf b hb).2.1,(hf b hb).2.2.2.2.1,(hf b hb).2.2.2.2.2⟩
def Ro(N':List Str)(js:List Nat)(nl:Nat)(sc:Scope)(hsc:X.env.scope=sc)(hcalm:X.calm=true)
 (hi:PI X.bR tg iter wi)(hg:∀cl C s H fp,PG (lA X.bR N' scope cl C s H fp) tg g)(ht:∀cl C s H fp,Ug (lA X.bR N' scope cl C s H fp) ifs tt)(he:∀cl C s H fp,PE (lA X.bR N' scope cl C s H fp) elt te)
 (hcap:jW X.bR sc scope N' js)(hlen:js.length+nl=N'.length:=by rfl)
 (hk:scope.kind=.function:=by rfl)(hcell:∀y∈scope.names,y.2=.cell->scope.names.lookup y.1=some .cell:=by decide +kernel)(hnames:∀y∈scope.names,y.2=.local->scope.names.lookup y.1=some .local:=by decide +kernel)
 (hfree:∀y∈scope.names,y.2=.free->(sc.names.lookup y.1=some .cell\/sc.names.lookup y.1=some .free):=by decide +kernel)
 (hs:∀x,foldedSetIterable iter X.env x=pure x:=by intro _;rfl) :
 PE X.bR (.ListComp elt [⟨tg,iter,ifs,0⟩] scope pos) (KR js nl wi g tt te):=by
 intro pins s σ H Q I h
 obtain⟨cl0,c1,c2,c3⟩:=jd (scope:=scope) (env:=X.bR.env) λy hy hf=>I.ok.has y.1 (by
  have:=hfree y hy hf
  rw[<-hsc] at this
  exact this)
 rw[eval_ListComp]
 refine wpAny_comprehension_free (use:=none) rfl hs c1 hk hnames (Ŷ (hi pins s σ H _ I h) λv s1 h1=>Ŷ h1 λitv s2 h2=>?_)
 obtain⟨it,fp,tn,J,H2,e,I2,T,st2,f2,q2⟩:=h2
 subst e
 refine wpAny_newObj_type (lX (λh₁ hns₁ old Zby=>?_))
 dsimp only at hns₁ old Zby ⊢
 generalize hH3:s2.heap.push {cls:=.type "list",dict:=none,data:=.seq ([]:List Value).toArray}=fJ at hns₁ old Zby ⊢
 have hD:H2 s2.heap.objs.size=none:=I2.hok.fresh (Nat.le_refl _)
 have I3:Inv X.bR pins σ (upd H2 s2.heap.objs.size (.lst [])) {s2 with heap:=fJ}:=by
  rw[<-hH3]
  exact I2.laid (t':=s2.toks) (λb u e=>Heap.get?_push_of_some _ e) (Nat.le_refl _) ⟨Nat.zero_le _,[],0,.nil,Heap.get?_push_size _ rfl⟩
 have K_:∀b∈fp,b<s2.heap.objs.size:=λb hb=>by
  obtain⟨o,ho,_⟩:=T.obj 0 _ st2 b hb
  exact Heap.lt_size ho
 have sz3:fJ.objs.size=s2.heap.objs.size+1:=by rw[<-hH3,Heap.size_push]
 have f3:∀b∈fp,dZ X.bR pins (upd H2 s2.heap.objs.size (.lst [])) b:=λb hb=>by
  obtain⟨g0,g1⟩:=f2 b hb
  exact⟨by rw[ě (Nat.ne_of_lt (K_ b hb))];exact g0,g1⟩
 have B:=KY (X:=X.bR) (cl:=cl0) hcell c2 c3 (λx c e=>by
  obtain⟨v,o,ho,_⟩:=I3.cell x c e
  exact Heap.lt_size ho) Zby
 generalize cellsFrom (fJ.objs.size+1) scope.names cl0=cl at B ⊢
 obtain⟨W,⟨m0,w0⟩,turn⟩:=q2 s2.heap.objs.size hD
 have I4:=u_ (X:=X.bR) (N':=N') (js:=js) (nl:=nl) (sc:=sc) (scope:=scope) (cl:=cl) (fp:=fp) (h':=h₁) (tk:=s2.toks) hsc hk hcap hlen B I3 f3 (λb hb=>by show b<fJ.objs.size;rw[sz3];exact Nat.lt_succ_of_lt (K_ b hb)) hns₁ old
 have st4:tn 0 h₁:= T.keep 0 _ _ st2 λb hb o e=>old b o (by rw[<-hH3];exact Heap.get?_push_of_some _ e)
 have fr4:∀b∈fp,(upd H2 s2.heap.objs.size (.lst [])) b=none:=λb hb=>(f3 b hb).1
 have stat:∀{H':Hp},(∀b∈fp,H' b=none)->∀b∈fp,dZ (lA X.bR N' scope cl fJ.objs.size {s2 with heap:=fJ} (upd H2 s2.heap.objs.size (.lst [])) fp) [] H' b:=fun{H'} hn b hb=>by
  obtain⟨g0,g1,g2,g3,g4,g5⟩:=f3 b hb
  refine⟨hn b hb,Nat.ne_of_lt (by show b<fJ.objs.size;rw[sz3];exact Nat.lt_succ_of_lt (K_ b hb)),λz=>?_,.inl hb,λx c e=>by
   rcases B.at_ x c e with⟨q,_⟩|⟨q,_⟩
   ·exact g4 x c q
   ·exact Nat.ne_of_gt (Nat.lt_trans (by show b<fJ.objs.size;rw[sz3];exact Nat.lt_succ_of_lt (K_ b hb)) q),λp hp=>absurd hp (by simp[lA])⟩
  rcases List.mem_cons.mp (I3.rC b z) with z|z
  ·exact g1 z
  ·exact g2 z
 have loop:∀s₃:Shared,s₃= {s2 with heap:=h₁}->
  codeAny (model X.prog X.w) X.A (.compLoop (.ListComp elt [⟨tg,iter,ifs,0⟩] scope pos) 0 (.ref it) (.ref s2.heap.objs.size) (compEnvC scope cl fJ.objs.size X.bR.env))
   (compPost (model X.prog X.w) X.A X.bR.xe none (EP X.bR pins σ Q) (.ref s2.heap.objs.size) fJ.objs.size) s₃:= by
  rintro s₃ rfl
  refine nF (λn s'=>∃i σ' H',Inv (lA X.bR N' scope cl fJ.objs.size {s2 with heap:=fJ} (upd H2 s2.heap.objs.size (.lst [])) fp) [] σ' H' s'/\tn i s'.heap/\(∀b∈fp,H' b=none)/\W i n σ' H') ?_ m0 ⟨0,_,_,I4,st4,fr4,w0⟩
  rintro n s5 ⟨i,σ5,H5,I5,QL,fr5,w5⟩
  rcases turn i n σ5 H5 w5 with⟨stop,qn⟩|⟨go,N,hN,step⟩
  ·refine Ŷ (T.done (lA X.bR N' scope cl fJ.objs.size {s2 with heap:=fJ} (upd H2 s2.heap.objs.size (.lst [])) fp) rfl rfl rfl hcalm i [] s5 σ5 H5 (λ_ _=>False) I5 (stat fr5) QL stop) λr s6 ⟨hr,I6⟩=>?_
   subst hr
   obtain⟨m,hm,_⟩:=I6.loc
   refine⟨m,hm,λh' hs'=>⟨.ref s2.heap.objs.size,H5,rK I3 f3 I6 (λb u hb e=>hs'.extBut b u hb e),rfl,qn⟩⟩
  ·refine Ŷ (T.item (lA X.bR N' scope cl fJ.objs.size {s2 with heap:=fJ} (upd H2 s2.heap.objs.size (.lst [])) fp) rfl rfl rfl hcalm i [] s5 σ5 H5 (λ_ _=>False) I5 (stat fr5) QL go) λr s6 ⟨u,hr,h6⟩=>?_
   subst hr
   refine Ŷ h6 λ_ s7 ⟨x,H7,I7,r7,y7,st7,fr7⟩=>?_
   have I7':=I7.pinned (stat fr7) (T.obj _ _ st7)
   have again:∀{s8:Shared} {σ8:L2.St} {H8:Hp},Inv (lA X.bR N' scope cl fJ.objs.size {s2 with heap:=fJ} (upd H2 s2.heap.objs.size (.lst [])) fp) ([]++oG fp s7.heap) σ8 H8 s8->
    Inv (lA X.bR N' scope cl fJ.objs.size {s2 with heap:=fJ} (upd H2 s2.heap.objs.size (.lst [])) fp) [] σ8 H8 s8/\tn (i+1) s8.heap/\∀b∈fp,H8 b=none:=fun{s8 σ8 H8} I8=>by
    refine⟨I8.iI,T.keep _ _ _ st7 λb hb o e=>(I8.pin (b,o) (List.mem_append_right _ (List.mem_append_right _ (bF hb e)))).1,λb hb=>?_⟩
    obtain⟨o,e,d⟩:=T.obj _ _ st7 b hb
    exact(I8.pin (b,o) (List.mem_append_right _ (List.mem_append_right _ (bF hb e)))).2.1
   refine Ŷ (hg cl _ _ _ fp _ s7 σ5 H7 x u _ I7' r7 (step x H7 y7)) λ_ s8 ⟨σ8,H8,I8,q8⟩=>?_
   refine Ŷ (ht cl _ _ _ fp _ s8 σ8 H8 _ I8 q8) λc s9 ⟨H9,I9,q9⟩=>?_
   cases c with
   |false=>
    rw[if_neg Bool.false_ne_true] at q9 ⊢
    obtain⟨m',hm',w9⟩:=hN _ _ q9
    obtain⟨a1,a2,a3⟩:=again I9
    exact⟨m',hm',i+1,σ8,H9,a1,a2,a3,w9⟩
   |true=>
    rw[if_pos rfl] at q9 ⊢
    refine Ŷ (he cl _ _ _ fp _ s9 σ8 H9 _ I9 q9) λyv BX ⟨y,H10,I10,r10,ys,e10,l10,w10⟩=>?_
    refine Ŷ (bO _ BX σ8 H10 (.ref s2.heap.objs.size) [y] (.ref s2.heap.objs.size) [yv] (λ_ H11=>N σ8 H11) I10 rfl (.cons r10 .nil) ⟨_,ys,y,rfl,rfl,e10,l10,w10⟩) λ_ s11 ⟨v11,H11,I11,_,w11⟩=>?_
    obtain⟨a1,a2,a3⟩:=again I11
    obtain⟨m',hm',w11⟩:=hN _ _ w11
    exact⟨m',hm',i+1,σ8,H11,a1,a2,a3,w11⟩
 exact codeAny_compStart_list (loop _ rfl) (T.self _ 0 _ _ _ st4 (loop _ rfl))
end
def Its(z:Str):It:=⟨λi _=>i<z.cps.size,λi H x H'=>H'=H/\∃c,z.cps.toList[i]?=some c/\x=.str ⟨#[c]⟩,λi _=>i=z.cps.size⟩
def Jj{P:Program}{w:World}{K:PySem.W.Frag}{tg:Expr}(it:Addr)(z:Str)(t:Tok)(ty:String)
 (hW:∀A:Around,A.handled=none->Walks P w A it [it] [it] z.cps.size (SignAt z) (λi h=>h.IsStrIter it ty z t i))
 (hS:∀(A:Around) (i:Nat) (s:Shared) (Q:Value->Shared->Prop) (E:Value->Shared->Prop),s.heap.IsStrIter it ty z t i->Q (.ref it) s->wpAny (model P w) A (pyIter (.ref it)) Q E s)
 (hty:["enumerate","zip","dict_itemiterator","dict_reverseitemiterator","odict_iterator","itertools.zip_longest","itertools.pairwise"].contains ty=false):Turn P w K tg (Its z) [it] it (λi h=>h.IsStrIter it ty z t i) where
 mem:=by simp
 obj:=λi h st b hb=>by
  have e:b=it:=by simpa using hb
  subst e
  obtain⟨o,e,c,d⟩:=st
  exact⟨o,e,λv z=>by rw[d] at z;cases z⟩
 keep:=λi h h' st k=>by
  obtain⟨o,e,c,d⟩:=st
  exact⟨o,k it (by simp) o e,c,d⟩
 item:=by
  intro X hP hw hK hc i pins s σ H E I hf st hg
  subst hP hw hK
  obtain⟨f0,f1,f2,f3,f4,f5⟩:=hf it (by simp)
  refine(hW X.A (I.ok.hd hc)).item i s _ _ hg st λv h' tk hv st' kk=>?_
  obtain⟨c,u,hcu,rfl⟩:=hv
  have I1:Inv X pins σ H {s with heap:=h',toks:=tk}:=I.turned (λb o hb e=>kk b o (by simpa using hb) e) f0 f1 f3 f4 f5
  obtain⟨o,e,cl,d⟩:=id st'
  exact⟨_,rfl,Gw (s:={s with heap:=h',toks:=tk}) e cl d hty ⟨.str ⟨#[c]⟩,H,I1,⟨u,rfl⟩,⟨rfl,c,by simpa using hcu,rfl⟩,st',λb hb=>(hf b hb).1⟩⟩
 done:=by
  intro X hP hw hK hc i pins s σ H E I hf st hg
  subst hP hw hK
  obtain⟨f0,f1,f2,f3,f4,f5⟩:=hf it (by simp)
  have e:i=z.cps.size:=hg
  subst e
  exact(hW X.A (I.ok.hd hc)).done s _ _ st λh' tk kk=>⟨rfl,I.turned (λb o hb e=>kk b o (by simpa using hb) e) f0 f1 f3 f4 f5⟩
 self:=hS
section
variable{X:Cx}{tg:Expr}
end
end M3
namespace M4
open PySem PySem.Spec PyProof.Rows L2 M2 M3
section
variable{X:Cx}
def Rq{bs:List Bool}:∀{us:List Value},Vals (bs.map V.bl) us->us=bs.map Value.bool:=by
 induction bs with
 |nil=>intro us r;rw[List.map_nil] at r;cases r;rfl
 |cons b bs ih=>
  intro us r
  rw[List.map_cons] at r
  cases r with
  |cons r1 r2=>
   cases r1
   rw[ih r2]
   rfl
def all_range(bs:List Bool):(List.range (bs.map Value.bool).toArray.size).all (λi=>bs.getD i false)=bs.all id:=by
 have e:(bs.map Value.bool).toArray.size=bs.length:=by simp
 rw[e,Bool.eq_iff_iff]
 simp only[List.all_eq_true,List.mem_range,id]
 constructor
 ·intro h b hb
  obtain⟨i,hi,rfl⟩:=List.mem_iff_getElem.mp hb
  have:=h i hi
  rw[List.getD_eq_getElem?_getD,List.getElem?_eq_getElem hi] at this
  exact this
 ·intro h i hi
  rw[List.getD_eq_getElem?_getD,List.getElem?_eq_getElem hi]
  exact h _ (List.getElem_mem hi)
def zV{prog:Program}{w:World}{A:Around}(bs:List Bool):TruthOf prog w A (λi v=>(bs.map Value.bool).toArray[i]?=some v) (λi=>bs.getD i false):=by
 intro i v s Q E hv hq
 have hv':bs[i]?.map Value.bool=some v:=by
  rw[<-List.getElem?_map]
  simpa using hv
 cases hb:bs[i]? with
 |none=>rw[hb] at hv';cases hv'
 |some b=>
  rw[hb] at hv'
  cases hv'
  dsimp only at hq
  rw[List.getD_eq_getElem?_getD,hb] at hq
  exact wpAny_truthy_bool hq
def Zbz(K:PySem.W.Frag):List V->Hp->VK->Prop:=λxs H Q=>match xs with
 | [.ref p]=>∃bs:List Bool,bD K H p (bs.map V.bl)/\Q (.bl (bs.all id)) H
 |_=>False
def wL(hc:X.calm=true):ų X (.builtin "all") (Zbz X.K):=by
 intro pins s σ H xs us Q I r h
 unfold Zbz at h
 split at h
 ·rename_i p
  obtain⟨bs,hS,q⟩:=h
  obtain⟨u,rfl,ru⟩:=vals1 r
  cases ru
  obtain⟨its,rv,pl,hz⟩:=I.list hS
  have e:=Rq rv
  subst e
  have hp:p≠s.heap.objs.size:=by
   obtain⟨o,n,e,_⟩:=pl
   exact Nat.ne_of_lt (Heap.lt_size e)
  refine call_all_walk (wpAny_pyIter_list pl.isList ?_)
  refine⟨s.heap.objs.size,_,_,_,_,_,_,rfl,Walks.list (A:=X.A.in1) (show X.A.in1.handled=none from I.ok.hd hc) s.heap.objs.size p hp (bs.map Value.bool).toArray,⟨⟨_,Heap.get?_push_size _ rfl,rfl,rfl⟩,pl.isList.at λo e=>Heap.get?_push_of_some _ e⟩,zV bs,λh' tk k=>?_⟩
  rw[all_range]
  exact⟨.bl _,H,I.kept λb o e=>k b o (by simpa using Nat.ne_of_lt (Heap.lt_size e)) (Heap.get?_push_of_some _ e),rfl,q⟩
 ·exact h.elim
end
abbrev S(l:List Nat):Str:=⟨l.toArray⟩
def Zga(z:Str):S z.cps.toList=z:=by
 cases z
 simp
def ZdS(l:List Nat):(S l).length=l.length:=by simp[Str.length]
def zW(z:Str):z.cps.toList.length=z.length:=by simp[Str.length]
def wM(xs:List Nat)(lo hi:Option Int):List Nat:=(xs.drop (HT.lQ xs.length 0 lo)).take (HT.lQ xs.length xs.length hi-HT.lQ xs.length 0 lo)
def idx_eq(z:Str)(lo hi:Option Int):Builtin.Str.strSliceIndices lo hi 1 z.length=(List.range (HT.lQ z.length z.length hi-HT.lQ z.length 0 lo)).map (HT.lQ z.length 0 lo + ·):=by
 have hc:∀(o:Option Int) (d:Nat),d<=z.length->(match o with|none=>((d:Nat):Int)|some i=>max 0 (min (if i<0 then i+(z.length:Int) else i) (z.length:Int)))=((HT.lQ z.length d o:Nat):Int):=by
  intro o d hd
  cases o with
  |none=>rfl
  |some i=>
   show max 0 (min (if i<0 then i+(z.length:Int) else i) (z.length:Int))=((if i<0 then(i+(z.length:Int)).toNat else min i.toNat z.length:Nat):Int)
   by_cases h:i<0
   ·rw[if_pos h,if_pos h];omega
   ·rw[if_neg h,if_neg h];omega
 have e:Builtin.Str.strSliceIndices lo hi 1 z.length=sliceRange ((HT.lQ z.length 0 lo:Nat):Int) ((HT.lQ z.length z.length hi:Nat):Int) 1:=by
  have h1:=hc lo 0 (Nat.zero_le _)
  have h2:=hc hi z.length (Nat.le_refl _)
  unfold Builtin.Str.strSliceIndices
  simp only[show(1:Int)>0 by decide,if_true]
  rw[<-h1,<-h2]
  cases lo<;>cases hi<;>rfl
 rw[e,sliceRange_one]
def Rr(z:Str)(lo hi:Option Int):(Builtin.Str.strSliceIndices lo hi 1 z.length).filterMap (z.cps[·]?)=wM z.cps.toList lo hi:=by
 rw[idx_eq,pick_run]
 unfold wM
 rw[zW]
def Rt(xs:List Nat)(lo hi:Option Int):(wM xs lo hi).length<=xs.length:=by
 unfold wM
 rw[List.length_take,List.length_drop]
 omega
def La{z:Str}{t:Tok}{l u:Option (Int×Tok)}{Q:Value->Shared->Prop}{s:Shared}(hz:z.length<=sizeLine)
 (h:∀t' k,Q (.str (S (wM z.cps.toList (l.map (·.1)) (u.map (·.1)))) t') {s with toks:=k}):(sliceMade z t l u none).post Q s:=by
 have e:=Rr z (l.map (·.1)) (u.map (·.1))
 unfold sliceMade
 have ep:slicePicked z l u none=Builtin.Str.strSliceIndices (l.map (·.1)) (u.map (·.1)) 1 z.length:=rfl
 rw[ep]
 split
 ·rename_i hc
  have hl:(Builtin.Str.strSliceIndices (l.map (·.1)) (u.map (·.1)) 1 z.length).length=z.length:=by simpa using hc
  have hz2:wM z.cps.toList (l.map (·.1)) (u.map (·.1))=z.cps.toList:=by
   rw[idx_eq,List.length_map,List.length_range] at hl
   have hi:=HT.Kr z.length 0 (Nat.zero_le _) (l.map (·.1))
   have hj:=HT.Kr z.length z.length (Nat.le_refl _) (u.map (·.1))
   unfold wM
   rw[zW]
   have hl2:=zW z
   have a0:HT.lQ z.length 0 (l.map (·.1))=0\/z.length=0:=by omega
   rcases a0 with a0|a0
   ·rw[a0] at hl ⊢
    rw[List.drop_zero]
    exact List.take_of_length_le (by omega)
   ·have:z.cps.toList=[]:=List.eq_nil_of_length_eq_zero (by omega)
    rw[this]
    simp
  have:=h t s.toks
  rw[hz2,Zga] at this
  exact this
 ·rw[e]
  exact⟨by rw[ZdS];have:=Rt z.cps.toList (l.map (·.1)) (u.map (·.1));rw[zW] at this;omega,h _ _⟩
section
variable{X:Cx}
def Zgb:V->Option Int->Option Int->Hp->VK->Prop:=λx lo hi H Q=>match x with
 | .str z=>z.length<=sizeLine/\Q (.str (S (wM z.cps.toList lo hi))) H
 |_=>False
def Ru:Gy X Zgb:=by
 intro pins s σ H x v vl vu lo hi sl Q I rx hs pl pu h
 cases x with
 |str z=>
  obtain⟨t,rfl⟩:=rx
  obtain⟨hz,q⟩:=h
  obtain⟨l,el,el2⟩:∃l:Option (Int×Tok),partValue l=vl/\l.map (·.1)=lo:=by
   cases pl with
   |none=>exact⟨none,rfl,rfl⟩
   |int i t=>exact⟨some (i,t),rfl,rfl⟩
  obtain⟨u,eu,eu2⟩:∃u:Option (Int×Tok),partValue u=vu/\u.map (·.1)=hi:=by
   cases pu with
   |none=>exact⟨none,rfl,rfl⟩
   |int i t=>exact⟨some (i,t),rfl,rfl⟩
  subst el el2 eu eu2
  exact⟨"str",_,F.slot_str_getitem.lookup,typeIs_str s z t,wpAny_getItem_str_slice (l:=l) (u:=u) (st:=none) hs rfl (La hz λt' k=>⟨.str _,H,I.tok _,⟨_,rfl⟩,q⟩)⟩
 |_=>exact h.elim
def Zgc(K:PySem.W.Frag):V->Option Int->Option Int->Hp->VK->Prop:=λx lo hi H Q=>match x with
 | .ref a=>∃xs,bD K H a xs/\∀p,H p=none->Q (.ref p) (upd H p (.lst (zR xs lo hi)))
 | .str z=>z.length<=sizeLine/\Q (.str (S (wM z.cps.toList lo hi))) H
 |_=>False
def slm:Gy X (Zgc X.K):=Gy.wk (KQ.or Ru) λx lo hi H Q h=>by
 cases x with
 |ref a=>exact .inl h
 |str z=>exact .inr h
 |_=>exact h.elim
def mul_eq(z:Str){n:Int}(h:0<=n):Txt.mul z n=S (List.replicate n.toNat z.cps.toList).flatten:=by
 have key:∀(k:Nat) (acc:Array Nat),((List.replicate k z.cps).foldl (·++ ·) acc).toList=acc.toList++(List.replicate k z.cps.toList).flatten:=by
  intro k
  induction k with
  |zero=>intro acc;simp
  |succ k ih=>
   intro acc
   rw[List.replicate_succ,List.foldl_cons,ih,List.replicate_succ,List.flatten_cons]
   simp
 unfold Txt.mul
 refine PyProof.Rows.ext_toList ?_
 by_cases h1:n<1
 ·rw[if_pos h1]
  have:n.toNat=0:=by omega
  rw[this]
  simp[Str.empty]
 ·rw[if_neg h1]
  split
  ·rename_i hc
   rw[Bool.or_eq_true] at hc
   rcases hc with hc|hc
   ·have:n=1:=by simpa using hc
    subst this
    simp
   ·have h0:z.cps.toList=[]:=List.eq_nil_of_length_eq_zero (by rw[zW];simpa using hc)
    rw[h0]
    simp
  ·rw[key]
   simp
def Lb(z:Str)(n:Int):Prop:=0<=n/\n<=1000/\z.length<=1000
def Lb.ok{z:Str}{n:Int}(h:Lb z n):MulOk z n:=by
 obtain⟨h0,h1,h2⟩:=h
 refine⟨?_,λhn _=>?_,λhn _=>?_⟩
 ·rw[decide_eq_false (by omega),decide_eq_false (by omega)]
  rfl
 ·have:(9000000000000000:Int)≤(2 ^ 63-1) / n:=by
   rw[Int.le_ediv_iff_mul_le (by omega)]
   omega
  omega
 ·have:z.length*n.toNat<=1000*1000:=Nat.mul_le_mul h2 (by omega)
  unfold Builtin.Str.tooLong
  simp
  rw[sizeLine_eq]
  omega
def Ld:R2:=λx y H Q=>match x,y with
 | .int i,.int j=>uZ i j/\Q (.int (i*j)) H
 | .str z,.int n=>Lb z n/\Q (.str (S (List.replicate n.toNat z.cps.toList).flatten)) H
 |_,_=>False
def ĳ:bC X (binaryOp .Mult) Ld:=by
 intro pins s σ H x y v u Q I rx ry h
 unfold Ld at h
 split at h
 ·exact Zbu pins s σ H _ _ v u Q I rx ry h
 ·obtain⟨t,rfl⟩:=rx
  obtain⟨t',rfl⟩:=ry
  exact SB.mul h.1.ok λt' k=>⟨.str _,H,I.tok _,⟨_,by rw[mul_eq _ h.1.1]⟩,h.2⟩
 ·exact h.elim
end
end M4
namespace M5
open PySem PySem.Spec PyProof.Rows L2 M2 M3
def CQ{p2:Pos}{c:Value}{a b:Int}{cv:Value}(l:List Value)(h:TriplesOk l)(e:codeAmong p2 (l ++ [rawInt a,rawInt b,c])=some cv):codeAmong p2 l=some cv\/cv=c:=by
 fun_induction TriplesOk l with
 |case1=>
  right
  simp only[List.nil_append,codeAmong,rawInt] at e
  split at e
  ·exact(Option.some.inj e).symm
  ·cases e
 |case2 a' t b' u x rest ih=>
  simp only[List.cons_append,codeAmong] at e ⊢
  split at e
  ·rename_i hc;rw[if_pos hc];exact .inl e
  ·rename_i hc;rw[if_neg hc];exact ih h e
 |case3 l h1 h2=>exact h.elim
section
variable{X:Cx}{pins:List (Addr×Obj)}{σ:L2.St}{H:Hp}{s:Shared}{x:Str}{c P:Addr}{params:Arguments}{body:Expr}{scope:Scope}{pos:Pos}{cl:List (Str×Addr)}
def Le{Q:Value->Shared->Prop}{E:Value->Shared->Prop}(I:Inv X pins σ H s)(hx:x∈lams)(ht:PySem.W.tabIn X.K x=some (c,P))(hcode:X.env.code=.ref c)(hq:X.env.qual=x ++ ".<locals>.")(hdef:defaultsOf params X.env=([],[]))(hcl:closureFor scope X.env=pure cl)
 (h:∀f c' pm ctv H' s',Inv X pins σ H' s'->(∀a,H a=none->H' a=none\/a=c')->Same H H'->H' c'=some (.Gq (fZ x))->s'.heap.get? f=some (PySem.W.kla_obj "<lambda>" (fZ x) params body scope cl pm c' ctv)->dZ X pins H' f->Q (.ref f) s') :
 wpAny (model X.prog X.w) X.A (eval (.Lambda params body scope pos) X.env) Q E s:=by
 obtain⟨C,hT,hB⟩:=I.tb x c P hx ht
 obtain⟨ps,hP,tr,ent⟩:=I.hok P _ hT
 have hg:=I.ok.mod.glob.keeps I.bk
 have hgP:mainGlobals≠P:=λq=>by
  obtain⟨o,es,ep,e,hd,_⟩:=hg
  rw[q,hP] at e;cases e;cases hd
 have hB':s.heap.BuiltinsAt X.mg P:=by
  obtain⟨bm,ob,b1,b2,b3,b4,b5,b6⟩:=hB
  exact⟨bm,ob,b1,b2,b3,b4,I.bk _ _ b5,b6⟩
 refine PySem.W.kla_eval hdef ?_
 rw[hq]
 cases hf:codeAmong pos ps.toList with
 |none=>
  refine PySem.W.kla_makeFunction (mg:=X.mg) hcl I.ok.glob hg hcode (C.keeps I.bk) hP tr hf hgP hB' λc' ctv h' tk hxb hge hlt hrec htb=>?_
  have hc':H c'=none:=I.hok.fresh hge
  have hcP:c'≠P:=λz=>by rw[z,hT] at hc';cases hc'
  have neP:∀b,H b=none->b≠P:=λb n z=>by rw[z,hT] at n;cases n
  have old:∀b o,b≠P->s.heap.get? b=some o->(h'.push (PySem.W.kla_obj "<lambda>" (fZ x) params body scope cl ((X.mg "__name__").getD .none) c' ctv)).get? b=some o:=λb o hb e=>Heap.get?_push_of_some _ (hxb b o hb e)
  have u:Un X.fs [] H (upd H c' (.Gq (fZ x))) s.heap (h'.push (PySem.W.kla_obj "<lambda>" (fZ x) params body scope cl ((X.mg "__name__").getD .none) c' ctv)):=by
   refine⟨λb o e n _ _=>old b o (neP b n) e,λb o e n _ _=>⟨o.slots,old b o (neP b n) e⟩,λb o e n _=>?_,λb o e _=>?_,λb xs e=>by rw[ě (Ĩ e hc')];exact e,λb o u e=>by rw[ě (Ĩ e hc')];exact e,λb q e=>by rw[ě (Ĩ e hc')];exact e⟩
   ·rw[ě (Nat.ne_of_lt (Nat.lt_of_lt_of_le (Heap.lt_size e) hge))];exact n
   ·by_cases hb:b=P
    ·exact⟨_,by rw[hb];exact Heap.get?_push_of_some _ htb⟩
    ·exact⟨o,old b o hb e⟩
  have hok:jK X.prog X.w (upd H c' (.Gq (fZ x))) (h'.push (PySem.W.kla_obj "<lambda>" (fZ x) params body scope cl ((X.mg "__name__").getD .none) c' ctv)):=λb v e=>by
   by_cases hb:b=c'
   ·subst hb
    rw[ĭ] at e;cases e
    obtain⟨c2,o,vs,t,z,e1,r⟩:=hrec
    exact⟨c2,o,vs,t,z,Heap.get?_push_of_some _ e1,r⟩
   ·rw[ě hb] at e
    by_cases hbP:b=P
    ·subst hbP
     rw[hT] at e;cases e
     refine⟨_,Heap.get?_push_of_some _ htb,?_,λp2 cv z=>?_⟩
     ·have:=TriplesOk_snoc pos.line pos.col (.ref c') ps.toList tr
      simpa using this
     ·rcases CQ (a:=pos.line) (b:=pos.col) (c:=.ref c') ps.toList tr (by simpa using z) with z|z
      ·obtain⟨d,z1,z2⟩:=ent p2 cv z
       exact⟨d,z1,by rw[ě (Ĩ z2 hc')];exact z2⟩
      ·exact⟨c',z,ĭ⟩
    ·exact(I.hok b v e).stay (fun b2 o hb2 q=>old b2 o (by
      rcases hb2 with z|z
      ·rw[z];exact hbP
      ·intro z2;rw[z2,hT] at z;cases z) q) (λd q=>by rw[ě (Ĩ q hc')];exact q) (λd xs q=>by rw[ě (Ĩ q hc')];exact q) λd xs q=>by rw[ě (Ĩ q hc')];exact q
  have hfz:s.heap.objs.size<=h'.objs.size:=Nat.le_of_lt (Nat.lt_of_le_of_lt hge hlt)
  refine h h'.objs.size c' _ ctv (upd H c' (.Gq (fZ x))) _ (I.un (t':=tk) u hok) (λa n=>?_) (λb v e=>by rw[ě (Ĩ e hc')];exact e) ĭ (Heap.get?_push_size _ rfl) (I.uz hfz (by rw[ě (Nat.ne_of_gt hlt)];exact I.hok.fresh hfz))
  by_cases ha:a=c'
  ·exact .inr ha
  ·exact .inl (by rw[ě ha];exact n)
 |some cv=>
  obtain⟨c',rfl,hcc⟩:=ent pos cv hf
  refine PySem.W.kla_makeFunctionHit (mg:=X.mg) hcl I.ok.glob hg hcode (C.keeps I.bk) hP tr hf hB' λctv h' tk hk hsz=>?_
  exact h h'.objs.size c' _ ctv H _ (I.kept (t':=tk) λb o e=>Heap.get?_push_of_some _ (hk b o e)) (λ_ n=>.inl n) (Same.refl H) hcc (Heap.get?_push_size _ rfl) (I.uz hsz (I.hok.fresh hsz))
end
def JR(X:Cx)(N':List Str)(qual:Str)(scope:Scope)(cl:List (Str×Addr))(f:Addr)(c':Addr)(A:Around)(s:Shared)(H:Hp):Cx where
 prog:=X.prog
 w:=X.w
 K:=X.K
 mg:=X.mg
 base:=X.base
 A:=A.deeper (PySem.W.envX qual scope s.heap.objs.size f (.ref c') cl)
 N:=N'
 s₀:= s
 H₀:= H
 env:=PySem.W.envX qual scope s.heap.objs.size f (.ref c') cl
 outer:=X.stack
 stack:=PySem.W.envX qual scope s.heap.objs.size f (.ref c') cl::X.stack
 ex:=[]
 fn:=λ_=>false
 calm:=true
 pn:=[]
 xe:=λ_ _=>False
def iM(js:List Nat)(σ:L2.St)(v:V):L2.St:=js.map (λj:Nat=>(σ[j]?).getD none) ++ [some v]
section
variable{X:Cx}{pins:List (Addr×Obj)}{σ:L2.St}{H:Hp}{s:Shared}{params:Arguments}{body:Expr}{scope sc:Scope}{cl:List (Str×Addr)}{N0:List Str}{js:List Nat}{qual px:Str}{f c':Addr}{A:Around}
def Rv(hsc:X.env.scope=sc)(hk:scope.kind=.function)(hcap:jW X sc scope N0 js)(hlen:js.length=N0.length)(hcell:∀y∈scope.names,y.2≠ .cell)(hpx:scope.names.lookup px=some .local)
 (hA:A.frames=some X.stack)(hhd:A.handled=none)(c2:∀x c,cl.lookup x=some c->X.env.cells.lookup x=some c)(c3:∀y∈scope.names,y.2=.free->∃c,cl.lookup y.1=some c)
 (I:Inv X pins σ H s){v:V}{u:Value}(r:RelV v u){h':Heap}{tk:Nat}(hn:h'.Ns s.heap.objs.size (λy=>[(px,u)].reverse.lookup y))(kp:∀b o,s.heap.get? b=some o->h'.get? b=some o) :
 Inv (JR X (N0 ++ [px]) qual scope cl f c' A s H) [] (iM js σ v) H {s with heap:=h',toks:=tk}:=by
 have has:∀y,(scope.names.lookup y=some .cell\/scope.names.lookup y=some .free)->∃c,cl.lookup y=some c:=λy hy=>by
  rcases hy with hy|hy
  ·exact absurd rfl (hcell _ (PySem.mem_of_lookup hy))
  ·exact c3 _ (PySem.mem_of_lookup hy) rfl
 refine⟨⟨I.ok.mod,hk,rfl,rfl,Nat.le_refl _,λx y c e1 e2=>I.ok.inj x y c (c2 x c e1) (c2 y c e2),has,(λ_ _ z _=>absurd (show false=true from z) Bool.false_ne_true),λ_=>hhd,Around.frames_deeper hA,.inr ⟨rfl,rfl⟩,λb hb=>absurd hb (by simp[JR]),
  I.bs,Nat.le_trans I.ok.Qs I.sz,λb _ _ hb=>absurd hb (by simp[JR]),λb hb=>absurd hb (by simp[JR]),I.stack,I.qP,I.tb⟩,rfl,I.bare,Un.kept kp,⟨_,hn,λi x w e1 e2 e3=>?_⟩,λx c e=>?_,I.hok.fresh (Nat.le_refl _),λx c e=>I.jy x c (c2 x c e),λp hp=>absurd hp (by simp[JR]),I.hok.kept kp,?_⟩
 ·by_cases hi:i<js.length
  ·have e1':N0[i]?=some x:=by
    have:=e1
    rwa [show(JR X (N0 ++ [px]) qual scope cl f c' A s H).N=N0 ++ [px] from rfl,List.getElem?_append_left (by omega)] at this
   have e2':(iK js 0 σ)[i]?=some (some w):=by
    unfold iK
    unfold iM at e2
    rw[List.getElem?_append_left (by simpa using hi)] at e2 ⊢
    exact e2
   obtain⟨j,q1,q2,q0,q3⟩:=oR hcap e1' e2'
   obtain⟨m,hm,hl⟩:=I.loc
   have Zbx:Gs X.env.scope x:=by
    rw[hsc]
    rcases q3 with q3|q3
    ·exact .inr (.inl q3)
    ·exact .inr (.inr q3)
   obtain⟨u',ru,lk⟩:=hl j x w q1 q2 Zbx
   refine⟨u',ru,?_⟩
   rcases lk with⟨k1,_⟩|⟨k1,c,hc,ic⟩
   ·exfalso
    have k1':sc.names.lookup x=some .local:=by rw[<-hsc];exact k1
    rcases q3 with q3|q3<;>(rw[k1'] at q3;cases q3)
   ·obtain⟨d,hd⟩:=has x (.inr q0)
    have:d=c:=by
     have:=c2 x d hd
     rw[hc] at this
     exact(Option.some.inj this).symm
    subst this
    exact .inr ⟨.inr q0,d,hd,by
     obtain⟨o,ho,hd'⟩:=ic
     exact⟨o,kp _ _ ho,hd'⟩⟩
  ·have hi2:i=js.length:=by
    have l2:=(List.getElem?_eq_some_iff.mp e2).1
    unfold iM at l2
    simp at l2
    omega
   subst hi2
   unfold iM at e2
   rw[List.getElem?_append_right (by simp)] at e2
   have ev:v=w:=by simpa using e2
   subst ev
   have ex:px=x:=by
    have:=e1
    rw[show(JR X (N0 ++ [px]) qual scope cl f c' A s H).N=N0 ++ [px] from rfl,List.getElem?_append_right (by omega),hlen] at this
    simpa using this
   subst ex
   exact⟨u,r,.inl ⟨hpx,by simp[List.lookup]⟩⟩
 ·obtain⟨w,o,ho,hd⟩:=I.cell x c (c2 x c e)
  exact⟨w,o,kp _ _ ho,hd⟩
 ·show _=(N0 ++ [px]).length
  unfold iM
  simp[hlen]
def Lf{te:TE}{pm ctv:Value}(hsc:X.env.scope=sc)(hk:scope.kind=.function)(hcap:jW X sc scope N0 js)(hlen:js.length=N0.length)(hcell:∀y∈scope.names,y.2≠ .cell)(hpx:scope.names.lookup px=some .local)(hco:scope.isCoroutine=false)(hgen:scope.isGenerator=false)
 (hA:A.frames=some X.stack)(hhd:A.handled=none)(ZbA:A.depth<recursionLimit)(c2:∀x c,cl.lookup x=some c->X.env.cells.lookup x=some c)(c3:∀y∈scope.names,y.2=.free->∃c,cl.lookup y.1=some c)
 (hbind:∀u:Value,bindArgs (PySem.W.kla_fn "<lambda>" qual params body scope cl pm (.ref c') ctv) ⟨[u],[]⟩=pure [(px,u)])
 (he:∀s H,PE (JR X (N0 ++ [px]) qual scope cl f c' A s H) body te)
 (I:Inv X pins σ H s)(hf:s.heap.get? f=some (PySem.W.kla_obj "<lambda>" qual params body scope cl pm c' ctv))(hc:H c'=some (.Gq qual)){v:V}{u:Value}(r:RelV v u){Q:VK}{E:Value->Shared->Prop}(h:te (iM js σ v) H Q) :
 wpAny (model X.prog X.w) A (call (.ref f) [u]) (EP X pins σ Q) E s:=by
 refine wpAny_call (PySem.W.kla_callFunE ZbA hf rfl hco hgen rfl (I.hok c' _ hc) ?_)
 rw[hbind u]
 refine wpAny_pure (wpAny_newFunctionEnv hcell (λy hy=>by rw[List.mem_singleton.mp hy];exact hpx) (λh₁ hns hsb=>⟨(I.nolimit).fresh _ hsb,?_⟩) hk)
 have kp:∀b o,s.heap.get? b=some o->h₁.get? b=some o:=λb o e=>hsb.extBut b o (Nat.ne_of_lt (Heap.lt_size e)) (Heap.get?_push_of_some _ e)
 have J:=Rv (qual:=qual) (f:=f) (c':=c') (tk:=s.toks + [(px,u)].length) hsc hk hcap hlen hcell hpx hA hhd c2 c3 I r hns kp
 show codeAny _ _ (.expr body (PySem.W.envX qual scope s.heap.objs.size f (.ref c') cl)) _ _
 refine PySem.W.kla_codeExpr (wpAny_mono (he s H [] _ _ H Q J h) (λy s' hy=>?_) λ_ _ z=>z.elim)
 obtain⟨w,H',J',rw',q⟩:=hy
 exact I.after ⟨w,H',J'.os,J'.bare,J'.base,J'.hok,rw',q⟩
end
section
variable{X:Cx}{pins:List (Addr×Obj)}{σ:L2.St}{H:Hp}{s:Shared}
def vd{fp:List Addr}{t:Sem Value}{A:Around}{Qv:V->Hp->Prop}{R:Value->Shared->Prop}(I:Inv X pins σ H s)(hf:∀b∈fp,dZ X pins H b)(ho:∀b∈fp,∃o,s.heap.get? b=some o/\∀v,o.data≠ .cell v)
 (run:∀lW,Inv X lW σ H s->wpAny (model X.prog X.w) A t (EP X lW σ Qv) (λ_ _=>False) s)
 (k:∀y u H2 s2,Inv X pins σ H2 s2->RelV y u->Qv y H2->(∀b∈fp,dZ X pins H2 b)->(∀b∈fp,∀o,s.heap.get? b=some o->s2.heap.get? b=some o)->R u s2):wpAny (model X.prog X.w) A t R (λ_ _=>False) s:=by
 refine wpAny_mono (run _ (I.pinned hf ho)) (λu s2 ⟨y,H2,I2,r,q⟩=>?_) λ_ _ z=>z
 refine k y u H2 s2 I2.iI r q (λb hb=>?_) λb hb o e=>(I2.pin (b,o) (List.mem_append_right _ (List.mem_append_right _ (bF hb e)))).1
 obtain⟨o,e,_⟩:=ho b hb
 exact⟨(I2.pin (b,o) (List.mem_append_right _ (List.mem_append_right _ (bF hb e)))).2.1,(hf b hb).2⟩
def dw{h':Heap}{t':Nat}{b:Addr}(I:Inv X pins σ H s)(hf:dZ X pins H b)(k:∀c o,c≠b->s.heap.get? c=some o->h'.get? c=some o):Inv X pins σ H {s with heap:=h',toks:=t'}:=
 let ⟨f0,f1,_,f3,f4,f5⟩:=hf
 I.turned k f0 f1 f3 f4 f5
variable{R:Result->Shared->Prop}{f l S It:Addr}{oF:Obj}{xs:List V}(ks:Nat->Int)(W:Nat->Hp->Prop)
def GP{h:Heap}{l It:Addr}{its:Array Value}{i:Nat}(hl:h.IsList l its)(hit:h.IsListIter It l i):l≠It:=λz=>by
 obtain⟨o,e,c,_⟩:=hl
 obtain⟨o',e',c',_⟩:=hit
 rw[z,e'] at e
 cases e
 rw[c] at c'
 exact absurd (Value.type.inj c') (by decide)
def CW{h:Heap}{S It l:Addr}{vs:Array Value}{n i:Nat}(hS:h.get? S=some (seqObj "list" vs n))(hit:h.IsListIter It l i):S≠It:=λz=>by
 obtain⟨o',e',c',_⟩:=hit
 rw[z,e'] at hS
 cases hS
 exact absurd (Value.type.inj c') (by decide)
def Jk(hh:X.A.handled=none)(hl:∀k H,W k H->bD X.K H l xs)(hdF:∀v,oF.data≠ .cell v)(hFS:f≠S)(hFI:f≠It)
 (turn:∀k v,xs[k]?=some v->∀pins H s u,Inv X pins σ H s->W k H->RelV v u->s.heap.get? f=some oF->wpAny (model X.prog X.w) X.A.in1 (call (.ref f) [u]) (EP X pins σ λy H'=>y=.int (ks k)/\W (k+1) H') (λ_ _=>False) s)
 (hR:∀i v u H s,xs[i]?=some v->RelV v u->(∀j,j<xs.length->ks i<=ks j/\(j<i->ks i<ks j))->Inv X pins σ H s->W xs.length H->R (.ok (.ret u)) s) :
 ∀(r j i:Nat) (H:Hp) (s:Shared) (vb:Value) (tb:Tok) (c:Nat) (v:V),xs.length-(j+1)=r->j+1<=xs.length->Inv X pins σ H s->W (j+1) H->
  s.heap.get? S=some (seqObj "list" #[vb,.int (ks i) tb] c)->s.heap.IsListIter It l (j+1)->s.heap.get? f=some oF->(∀b∈[S,It,f],dZ X pins H b)->xs[i]?=some v->RelV v vb->i<=j->(∀j',j'<=j->ks i<=ks j'/\(j'<i->ks i<ks j'))->
  codeAny (model X.prog X.w) X.A (.builtin "min.loop" ⟨[.ref It,.ref f,.ref S],[]⟩) R s:=by
 have hname:(toString "min" ++ toString ".loop" :String)= "min.loop" := by decide
 intro r
 induction r with
 |zero=>
  intro j i H s vb tb c v hr hj I w hS hit hF fpo hv rv hij hbest
  have hin:j+1=xs.length:=by omega
  obtain⟨its,ri,pl,_⟩:=I.list (hl _ _ w)
  have hsz:its.toArray.size=xs.length:=by rw[List.size_toArray,ri.length]
  have W':=Walks.list (prog:=X.prog) (w:=X.w) (A:=X.A.in1) hh It l (GP pl.isList hit) its.toArray
  refine codeAny_builtin PySem.F.entry_min_loop ?_
  rw[Around.under_plainId PySem.F.plain_min_loop _]
  show wpAny _ X.A.in1 (seqItems? (.ref S) >>= _) _ _ _
  refine wpAny_bind (wpAny_seqItems hS rfl ?_)
  show wpAny _ X.A.in1 (tryCatch (pyNext (.ref It)) _ >>= _) _ _ _
  refine wpAny_bind (wpAny_tryCatch (W'.done _ _ _ ⟨by rw[hsz,<-hin];exact hit,pl.isList⟩ λh' tk' hk'=>?_))
  have I1:=dw (h':=h') (t':=tk') I (fpo It (by simp)) λb o hb e=>hk' b o (by simpa using hb) e
  have hS':=hk' S _ (by simpa using CW hS hit) hS
  have s1:=Heap.SameBut.update h' S (Obj.mapSeq λ_=>(#[]:Array Value))
  show wpAny _ X.A.in1 (updateSeq S (λ_=> #[]) >>= _) _ _ _
  refine wpAny_bind ?_
  refine wpAny_updateSeq hS' rfl (wpAny_bind (wpAny_letGo (wpAny_pure ?_)))
  exact hR i v vb H _ hv rv (λj' hj'=>hbest j' (by omega)) (dw (t':=tk') I1 (fpo S (by simp)) λb o hb e=>(s1.2 b hb).trans e) (hin▸w)
 |succ r ih=>
  intro j i H s vb tb c v hr hj I w hS hit hF fpo hv rv hij hbest
  have hlt:j+1<xs.length:=by omega
  obtain⟨its,ri,pl,_⟩:=I.list (hl _ _ w)
  have hsz:its.toArray.size=xs.length:=by rw[List.size_toArray,ri.length]
  have W':=Walks.list (prog:=X.prog) (w:=X.w) (A:=X.A.in1) hh It l (GP pl.isList hit) its.toArray
  refine codeAny_builtin PySem.F.entry_min_loop ?_
  rw[Around.under_plainId PySem.F.plain_min_loop _]
  show wpAny _ X.A.in1 (seqItems? (.ref S) >>= _) _ _ _
  refine wpAny_bind (wpAny_seqItems hS rfl ?_)
  show wpAny _ X.A.in1 (tryCatch (pyNext (.ref It)) _ >>= _) _ _ _
  refine wpAny_bind (wpAny_tryCatch (W'.item (j+1) _ _ _ (by rw[hsz];exact hlt) ⟨hit,pl.isList⟩ λu h' tk' hP hst' hk'=>?_))
  have hu:its[j+1]?=some u:=by simpa using hP
  have hx2:xs[j+1]?=some xs[j+1]:=List.getElem?_eq_getElem hlt
  have ru:RelV xs[j+1] u:=by
   obtain⟨u2,h2,r2⟩:=ri.get hx2
   rw[hu] at h2
   cases h2
   exact r2
  obtain⟨oI',hoI',hoc,hod⟩:=id hst'.1
  have I1:=dw (h':=h') (t':=tk') I (fpo It (by simp)) λb o hb e=>hk' b o (by simpa using hb) e
  have hS1:=hk' S _ (by simpa using CW hS hit) hS
  have hF1:=hk' f _ (by simpa using hFI) hF
  show wpAny _ X.A.in1 (tryCatch (holding [u] (call (.ref f) [u])) _ >>= _) _ _ _
  refine wpAny_bind (wpAny_tryCatch (wpAny_holding (wpAny_mono (vd (fp:=[S,It,f]) I1 fpo (λb hb=>?_) (λlW I'=>turn (j+1) _ hx2 lW H _ u I' w ru hF1) λy u2 H2 s2 I2 ry ⟨ey,w2⟩ Jl kp2=>?_) (λ_ _ z=>z) λ_ _ hF=>hF.elim)))
  ·rcases List.mem_cons.mp hb with rfl|hb
   ·exact⟨_,hS1,λv z=>by cases z⟩
   ·rcases List.mem_cons.mp hb with rfl|hb
    ·exact⟨oI',hoI',λv z=>by rw[hod] at z;cases z⟩
    ·rw[List.mem_singleton.mp hb]
     exact⟨oF,hF1,hdF⟩
  ·subst ey
   obtain⟨t2,rfl⟩:=ry
   have hS2:=kp2 S (by simp) _ hS1
   have hI2:=kp2 It (by simp) _ hoI'
   have hF2:=kp2 f (by simp) _ hF1
   have hit2:s2.heap.IsListIter It l (j+1+1):=⟨oI',hI2,hoc,hod⟩
   show wpAny _ X.A.in1 (tryCatch (holding [u,.int (ks (j+1)) t2] (richCompare .Lt (.int (ks (j+1)) t2) (.int (ks i) tb) >>= _)) _ >>= _) _ _ _
   refine wpAny_bind (wpAny_tryCatch (wpAny_holding (wpAny_bind (CmpOf.ints_lt (prog:=X.prog) (w:=X.w) (A:=X.A.in1) (P:=λi v=>∃t,v=.int (ks i) t) ks (λi v h=>h) (j+1) i _ _ _ _ _ ⟨t2,rfl⟩ ⟨tb,rfl⟩ ?_))))
   refine wpAny_bind (wpAny_holding (wpAny_truthy_bool ?_))
   refine wpAny_bind (wpAny_letGo (wpAny_pure ?_))
   by_cases hb':ks (j+1)<ks i
   ·have s1:=Heap.SameBut.update s2.heap S (Obj.mapSeq λ_=> #[u,.int (ks (j+1)) t2])
    obtain⟨cc,hc2⟩:∃cc,(s2.heap.update S (Obj.mapSeq λ_=> #[u,.int (ks (j+1)) t2])).get? S=some (seqObj "list" #[u,.int (ks (j+1)) t2] cc):=⟨_,get?_update_seq hS2 λ_=> #[u,.int (ks (j+1)) t2]⟩
    simp only[hb',decide_true,if_true]
    refine wpAny_bind ?_
    refine wpAny_updateSeq hS2 rfl (wpAny_bind (wpAny_letGo ?_))
    rw[hname]
    have nIS:=CW hS2 hit2
    refine wpAny_pure ⟨plainId_quiet PySem.F.plain_min_loop _,ih (j+1) (j+1) H2 _ u t2 cc _ (by omega) hlt (dw (t':=s2.toks) I2 (Jl S (by simp)) λb o hb e=>(s1.2 b hb).trans e) w2 hc2 ⟨oI',(s1.2 It nIS.symm).trans hI2,hoc,hod⟩ ((s1.2 f hFS).trans hF2) Jl hx2 ru (Nat.le_refl _) λj' hj'=>?_⟩
    by_cases e:j'=j+1
    ·subst e
     exact⟨by omega,λ_=>by omega⟩
    ·have hb1:=hbest j' (by omega)
     have hb2:=hb1.1
     exact⟨by omega,λ_=>by omega⟩
   ·simp only[hb',decide_false,Bool.false_eq_true,if_false]
    refine wpAny_bind (wpAny_letGo ?_)
    rw[hname]
    refine wpAny_pure ⟨plainId_quiet PySem.F.plain_min_loop _,ih (j+1) i H2 s2 vb tb c v (by omega) hlt I2 w2 hS2 hit2 hF2 Jl hv rv (by omega) λj' hj'=>?_⟩
    by_cases e:j'=j+1
    ·subst e
     exact⟨by omega,λ_=>by omega⟩
    ·exact hbest j' (by omega)
def Jm{Q:Value->Shared->Prop}{E:Value->Shared->Prop}(hh:X.A.handled=none)(hl:∀k H,W k H->bD X.K H l xs)(hdF:∀v,oF.data≠ .cell v)(hne:0<xs.length)
 (turn:∀k v,xs[k]?=some v->∀pins H s u,Inv X pins σ H s->W k H->RelV v u->s.heap.get? f=some oF->wpAny (model X.prog X.w) X.A.in1 (call (.ref f) [u]) (EP X pins σ λy H'=>y=.int (ks k)/\W (k+1) H') (λ_ _=>False) s)
 (hQ:∀i v u H s,xs[i]?=some v->RelV v u->(∀j,j<xs.length->ks i<=ks j/\(j<i->ks i<ks j))->Inv X pins σ H s->W xs.length H->Q u s)
 (I:Inv X pins σ H s)(w0:W 0 H)(hF:s.heap.get? f=some oF)(hfo:dZ X pins H f) :
 wpAny (model X.prog X.w) X.A (call (.builtin "min") [.ref l] [(Str.ofString "key",.ref f)]) Q E s:=by
 have hname:(toString "min" ++ toString ".loop" :String)= "min.loop" := by decide
 obtain⟨its,ri,pl,_⟩:=I.list (hl _ _ w0)
 have hls:=pl.isList
 obtain⟨ol,hol,_⟩:=id hls
 have hll:l<s.heap.objs.size:=Heap.lt_size hol
 refine kmk_tree PySem.F.kind_min PySem.F.plain_min PySem.F.entry_min (kmk_min_key _ _) ?_
 show wpAny _ X.A.in1 (Builtin.Builtins.bindParams "min" ["key","default"] 0 ⟨[],[(Str.ofString "key",.ref f)]⟩ >>= _) _ _ s
 refine wpAny_bind (wpAny_of_eq (show Builtin.Builtins.bindParams "min" ["key","default"] 0 ⟨[],[(Str.ofString "key",.ref f)]⟩=pure [some (.ref f),none] from rfl) ?_)
 refine wpAny_bind (wpAny_pure ?_)
 refine wpAny_bind (wpAny_pyIter_list hls ?_)
 refine wpAny_bind (wpAny_newList ?_ (Nat.zero_le _))
 rw[hname]
 have hS:(s.heap.push {cls:=.type "list_iterator",data:=.fields #[.ref l,.int 0 0]}).objs.size=s.heap.objs.size+1:=size_push' ..
 generalize hSd:(s.heap.push {cls:=.type "list_iterator",data:=.fields #[.ref l,.int 0 0]}).objs.size=S at hS ⊢
 refine wpAny_pure ⟨plainId_quiet PySem.F.plain_min_loop _,?_⟩
 have k0:∀b o,s.heap.get? b=some o->((s.heap.push {cls:=.type "list_iterator",data:=.fields #[.ref l,.int 0 0]}).push (seqObj "list" #[] 0)).get? b=some o:=λb o e=>Heap.get?_push_of_some _ (Heap.get?_push_of_some _ e)
 have gI:((s.heap.push {cls:=.type "list_iterator",data:=.fields #[.ref l,.int 0 0]}).push (seqObj "list" #[] 0)).get? s.heap.objs.size=some {cls:=.type "list_iterator",data:=.fields #[.ref l,.int 0 0]}:=
  Heap.get?_push_of_some _ (Heap.get?_push_size _ rfl)
 have gS:((s.heap.push {cls:=.type "list_iterator",data:=.fields #[.ref l,.int 0 0]}).push (seqObj "list" #[] 0)).get? S=some (seqObj "list" #[] 0):=by rw[<-hSd];exact Heap.get?_push_size _ rfl
 have I0:Inv X pins σ H {s with heap:=(s.heap.push {cls:=.type "list_iterator",data:=.fields #[.ref l,.int 0 0]}).push (seqObj "list" #[] 0)}:=I.kept (t':=s.toks) k0
 have fI:dZ X pins H s.heap.objs.size:=I.uz (Nat.le_refl _) (I.hok.fresh (Nat.le_refl _))
 have fS:dZ X pins H S:=I.uz (by omega) (I.hok.fresh (by omega))
 have hlf:f<s.heap.objs.size:=Heap.lt_size hF
 have hFI:f≠s.heap.objs.size:=Nat.ne_of_lt hlf
 have hFS:f≠S:=Nat.ne_of_lt (by rw[hS];exact Nat.lt_succ_of_lt hlf)
 have hSI:S≠s.heap.objs.size:=by omega
 have fpo:∀b∈[S,s.heap.objs.size,f],dZ X pins H b:=λb hb=>by
  rcases List.mem_cons.mp hb with rfl|hb
  ·exact fS
  ·rcases List.mem_cons.mp hb with rfl|hb
   ·exact fI
   ·rw[List.mem_singleton.mp hb];exact hfo
 obtain⟨ZbB,ri0,pl0,_⟩:=I0.list (hl _ _ w0)
 have hsz:ZbB.toArray.size=xs.length:=by rw[List.size_toArray,ri0.length]
 have W':=Walks.list (prog:=X.prog) (w:=X.w) (A:=X.A.in1) hh s.heap.objs.size l (Nat.ne_of_lt hll) ZbB.toArray
 refine codeAny_builtin PySem.F.entry_min_loop ?_
 rw[Around.under_plainId PySem.F.plain_min_loop _]
 show wpAny _ X.A.in1 (seqItems? (.ref _) >>= _) _ _ _
 refine wpAny_bind (wpAny_seqItems gS rfl ?_)
 show wpAny _ X.A.in1 (tryCatch (pyNext (.ref s.heap.objs.size)) _ >>= _) _ _ _
 refine wpAny_bind (wpAny_tryCatch (W'.item 0 _ _ _ (by rw[hsz];exact hne) ⟨⟨_,gI,rfl,rfl⟩,pl0.isList⟩ λu h' tk' hP hst' hk'=>?_))
 have hu:ZbB[0]?=some u:=by simpa using hP
 have hx0:xs[0]?=some xs[0]:=List.getElem?_eq_getElem hne
 have ru:RelV xs[0] u:=by
  obtain⟨u2,h2,r2⟩:=ri0.get hx0
  rw[hu] at h2
  cases h2
  exact r2
 obtain⟨oI',hoI',hoc,hod⟩:=id hst'.1
 have I1:=dw (h':=h') (t':=tk') I0 fI λb o hb e=>hk' b o (by simpa using hb) e
 have hS1:=hk' S _ (by simpa using hSI) gS
 have hF1:=hk' f _ (by simpa using hFI) (k0 _ _ hF)
 show wpAny _ X.A.in1 (tryCatch (holding [u] (call (.ref f) [u])) _ >>= _) _ _ _
 refine wpAny_bind (wpAny_tryCatch (wpAny_holding (wpAny_mono (vd (fp:=[S,s.heap.objs.size,f]) I1 fpo (λb hb=>?_) (λlW I'=>turn 0 _ hx0 lW H _ u I' w0 ru hF1) λy u2 H2 s2 I2 ry ⟨ey,w2⟩ Jl kp2=>?_) (λ_ _ z=>z) λ_ _ hF=>hF.elim)))
 ·rcases List.mem_cons.mp hb with rfl|hb
  ·exact⟨_,hS1,λv z=>by cases z⟩
  ·rcases List.mem_cons.mp hb with rfl|hb
   ·exact⟨oI',hoI',λv z=>by rw[hod] at z;cases z⟩
   ·rw[List.mem_singleton.mp hb]
    exact⟨oF,hF1,hdF⟩
 ·subst ey
  obtain⟨t2,rfl⟩:=ry
  have hS2:=kp2 S (by simp) _ hS1
  have hI2:=kp2 s.heap.objs.size (by simp) _ hoI'
  have hF2:=kp2 f (by simp) _ hF1
  have s1:=Heap.SameBut.update s2.heap S (Obj.mapSeq λ_=> #[u,.int (ks 0) t2])
  obtain⟨cc,hc2⟩:∃cc,(s2.heap.update S (Obj.mapSeq λ_=> #[u,.int (ks 0) t2])).get? S=some (seqObj "list" #[u,.int (ks 0) t2] cc):=⟨_,get?_update_seq hS2 λ_=> #[u,.int (ks 0) t2]⟩
  show wpAny _ X.A.in1 (updateSeq S (λ_=> #[u,.int (ks 0) t2]) >>= _) _ _ _
  refine wpAny_bind ?_
  refine wpAny_updateSeq hS2 rfl ?_
  rw[hname]
  refine wpAny_pure ⟨plainId_quiet PySem.F.plain_min_loop _,Jk ks W hh hl hdF hFS hFI turn (λi v u' H' s' a1 a2 a3 a4 a5=>hQ i v u' H' s' a1 a2 a3 a4 a5) _ 0 0 H2 _ u t2 cc _ rfl hne (dw (t':=s2.toks) I2 (Jl S (by simp)) λb o hb e=>(s1.2 b hb).trans e) w2 hc2 ⟨oI',(s1.2 _ hSI.symm).trans hI2,hoc,hod⟩ ((s1.2 f hFS).trans hF2) Jl hx0 ru (Nat.le_refl _) λj' hj'=>?_⟩
  have e:j'=0:=by omega
  subst e
  exact⟨by omega,λh=>absurd h (Nat.lt_irrefl _)⟩
end
def ZdT(K:PySem.W.Frag)(ta:TA)(js:List Nat)(te:TE):TE:=λσ H Q=>ta σ H λvs H1=>∃l xs,vs=[.ref l]/\bD K H1 l xs/\0<xs.length/\∀c q H2,Same H1 H2->H2 c=some (.Gq q)->(∀a,H1 a=none->H2 a=none\/a=c)->
 ∃(ks:Nat->Int) (W:Nat->Hp->Prop),W 0 H2/\(∀k H,W k H->Same H2 H)/\(∀k v H,xs[k]?=some v->W k H->te (iM js σ v) H λy H'=>y=.int (ks k)/\W (k+1) H')/\
  ∀i v H,xs[i]?=some v->(∀j,j<xs.length->ks i<=ks j/\(j<i->ks i<ks j))->W xs.length H->Q v H
section
variable{X:Cx}{x px:Str}{c P:Addr}{params:Arguments}{body e:Expr}{scope:Scope}{p pos Rw kpos:Pos}{ta:TA}{te:TE}
def Rx(N0:List Str)(js:List Nat)(sc:Scope)(hsc:X.env.scope=sc)(hcalm:X.calm=true)(ZbA:X.A.depth<recursionLimit)(hx:x∈lams)(ht:PySem.W.tabIn X.K x=some (c,P))(hcode:X.env.code=.ref c)(hq:X.env.qual=x ++ ".<locals>.")
 (hg:Gl X "min")(hm:X.mg "min" =none)(ha:PA X [e] ta)(he:∀cl f c' s H,PE (JR X (N0 ++ [px]) (fZ x) scope cl f c' X.A.in1 s H) body te)(hcap:jW X sc scope N0 js)(hlen:js.length=N0.length:=by rfl)
 (hbind:∀(cl:List (Str×Addr)) (pm ctv:Value) (c':Addr) (u:Value),bindArgs (PySem.W.kla_fn "<lambda>" (fZ x) params body scope cl pm (.ref c') ctv) ⟨[u],[]⟩=pure [(px,u)]:=by intros;rfl)
 (hk:scope.kind=.function:=by rfl)(hcell:∀y∈scope.names,y.2≠ .cell:=by decide +kernel)(hpx:scope.names.lookup px=some .local:=by rfl)(hco:scope.isCoroutine=false:=by rfl)(hgen:scope.isGenerator=false:=by rfl)
 (hfree:∀y∈scope.names,y.2=.free->(sc.names.lookup y.1=some .cell\/sc.names.lookup y.1=some .free):=by decide +kernel)(hdef:defaultsOf params X.env=([],[]):=by rfl)
 (hst:starEach [e] X.env=[(false,eval e X.env)]:=by rfl)(hpl:(backTo pos (starEach [e] X.env)).any (·.1)=false:=by rfl) :
 PE X (.Call (.Name "min" p) [e] [⟨some "key",.Lambda params body scope Rw,kpos⟩] pos) (ZdT X.K ta js te):=by
 intro pins s σ H Q I h
 obtain⟨cl,c1,c2,c3⟩:=jd (scope:=scope) (env:=X.env) λy hy hf=>I.ok.has y.1 (by
  have:=hfree y hy hf
  rw[<-hsc] at this
  exact this)
 have hh:=I.ok.hd hcalm
 refine wpAny_Call_Name_kw (mO I hg hm (show bootBuiltins "min" =some (.builtin "min") by kernel_rfl) ?_ (by decide) (by decide))
 refine callWith_kw (Ŷ (ha pos pins s σ H _ I h) λus s1 ⟨vs,H1,I1,r1,q1⟩=>?_) (by rw[hst];rfl) hpl rfl rfl
 obtain⟨l,xs,rfl,hs1,hne,q1⟩:=q1
 have eus:us=[.ref l]:=by
  cases r1 with
  |cons a b=>
   cases b
   exact congrArg (λz=>[z]) (show _=Value.ref l from a)
 subst eus
 show wpAny _ _ (evalAll ((do let v <-eval (.Lambda params body scope Rw) X.env;standAt pos;pure v)::[])) _ _ s1
 refine wpAny_evalAll_cons (wpAny_bind (Le I1 hx ht hcode hq hdef c1 λf c' pm ctv H2 s2 I2 nw sm hc hf fo=>wpAny_bind (wpAny_standAt (wpAny_pure ?_))))
 refine wpAny_evalAll_nil ?_
 obtain⟨ks,W,w0,wm,wt,wq⟩:=q1 c' _ H2 sm hc nw
 refine Jm (xs:=xs) ks W hh (λk H w=>(wm k H w).seq (sm.seq hs1)) (λv z=>by cases z) hne (λk v hv lW H' s' u I' w ru hf'=>?_) (λi v u H' s' hv ru hb I' w=>⟨v,H',I',ru,wq i v H' hv hb w⟩) I2 w0 hf fo
 exact Lf (A:=X.A.in1) (te:=te) (N0:=N0) (js:=js) hsc hk hcap hlen hcell hpx hco hgen I.ok.frames hh ZbA c2 c3 (hbind cl pm ctv c') (λs H=>he cl f c' s H) I' hf' (wm k H' w c' _ hc) ru (wt k v H' hv w)
end
end M5
namespace P
def nst:PySem.Expr->Bool
 | .Starred .. =>false
 |_=>true
def ĸ{e:PySem.Expr}{es:List PySem.Expr}{env:PySem.Env}(h:nst e=true):PySem.starEach (e::es) env=(false,PySem.eval e env)::PySem.starEach es env:=by
 cases e<;>first|rfl|cases h
def Lg{a b:PySem.Expr}{env:PySem.Env}(h:nst a=true)(h2:nst b=true):PySem.starEach [a,b] env=[(false,PySem.eval a env),(false,PySem.eval b env)]:=by
 rw[ĸ h,ĸ h2];rfl
open PySem PySem.Spec PyProof.Rows L2 M2
structure KK where
 K:PySem.W.Frag
 cm:String->Addr
abbrev kk(X:Cx)(cm:String->Addr):KK:=⟨X.K,cm⟩
inductive PV where
 |non|bl (b:Bool)|int (i:Int)|str (x:Str)|tup (xs:List PV)|lst (xs:List PV)
 |ins (C:String) (ns:List Str) (xs:List PV)|xc (C:String) (ns:List Str) (xs:List PV)|ty (n:String)|cls (C:String)
def xo(a C:Addr)(d:Option Addr):HO:=.ext λh=>∃o vs,h.get? a=some o/\o.cls=.ref C/\o.dict=d/\o.data=.fields vs
def rM(F:Hp)(d:Option Addr)(fs:List (Str×V)):Prop:=(d=none/\fs=[])\/∃a,d=some a/\F a=some (.xd fs)
mutual
def Rep(K:KK)(F:Hp):PV->V->Prop
 | .non,v=>v=.non
 | .bl b,v=>v=.bl b
 | .int i,v=>v=.int i
 | .str x,v=>v=.str x
 | .tup ps,v=>∃a xs,v=.ref a/\iH K.K F a xs/\Ħ K F ps xs
 | .lst ps,v=>∃a xs,v=.ref a/\bD K.K F a xs/\Ħ K F ps xs
 | .ins C ns ps,v=>∃a dx fs,v=.ref a/\F a=some (.ins (K.cm C) dx fs)/\fs.map (·.1)=ns/\Ħ K F ps (fs.map (·.2))
 | .xc C ns ps,v=>∃a d fs,v=.ref a/\F a=some (xo a (K.cm C) d)/\rM F d fs/\fs.map (·.1)=ns/\Ħ K F ps (fs.map (·.2))
 | .ty n,v=>v=.ty n
 | .cls C,v=>v=.ref (K.cm C)
def Ħ(K:KK)(F:Hp):List PV->List V->Prop
 | [],xs=>xs=[]
 |p::ps,xs=>∃x r,xs=x::r/\Rep K F p x/\Ħ K F ps r
end
section
variable{K:KK}{F F' H H':Hp}
def rM.same{d:Option Addr}{fs:List (Str×V)}(e:Same F F')(h:rM F d fs):rM F' d fs:=by
 rcases h with h|⟨a,h1,h2⟩
 ·exact .inl h
 ·exact .inr ⟨a,h1,e _ _ h2⟩
mutual
theorem Rep.same(e:Same F F'):∀(p:PV) (v:V),Rep K F p v->Rep K F' p v
 | .non,_,h=>by unfold Rep at h ⊢;exact h
 | .bl _,_,h=>by unfold Rep at h ⊢;exact h
 | .int _,_,h=>by unfold Rep at h ⊢;exact h
 | .str _,_,h=>by unfold Rep at h ⊢;exact h
 | .ty _,_,h=>by unfold Rep at h ⊢;exact h
 | .cls _,_,h=>by unfold Rep at h ⊢;exact h
 | .tup ps,_,h=>by
   unfold Rep at h ⊢
   obtain⟨a,xs,h1,h2,h3⟩:=h
   exact⟨a,xs,h1,Same.tup e h2,Ħ.same e ps xs h3⟩
 | .lst ps,_,h=>by
   unfold Rep at h ⊢
   obtain⟨a,xs,h1,h2,h3⟩:=h
   exact⟨a,xs,h1,e.seq h2,Ħ.same e ps xs h3⟩
 | .ins C ns ps,_,h=>by
   unfold Rep at h ⊢
   obtain⟨a,dx,fs,h1,h2,h3,h4⟩:=h
   exact⟨a,dx,fs,h1,e _ _ h2,h3,Ħ.same e ps _ h4⟩
 | .xc C ns ps,_,h=>by
   unfold Rep at h ⊢
   obtain⟨a,d,fs,h1,h2,hd,h3,h4⟩:=h
   exact⟨a,d,fs,h1,e _ _ h2,hd.same e,h3,Ħ.same e ps _ h4⟩
theorem Ħ.same(e:Same F F'):∀(ps:List PV) (xs:List V),Ħ K F ps xs->Ħ K F' ps xs
 | [],_,h=>by unfold Ħ at h ⊢;exact h
 |p::ps,_,h=>by
  unfold Ħ at h ⊢
  obtain⟨x,r,h1,h2,h3⟩:=h
  exact⟨x,r,h1,Rep.same e p x h2,Ħ.same e ps r h3⟩
end
theorem Ħ.pr:∀{ps:List PV} {vs:List V},Ħ K F ps vs->Paired (Rep K F) ps vs
 | [],_,h=>by unfold Ħ at h;subst h;exact .nil
 |p::ps,_,h=>by
  unfold Ħ at h
  obtain⟨x,r,rfl,h2,h3⟩:=h
  exact .cons h2 (Ħ.pr h3)
theorem Ħ.of:∀{ps:List PV} {vs:List V},Paired (Rep K F) ps vs->Ħ K F ps vs
 | [],_,.nil=>by unfold Ħ;rfl
 |p::ps,_,.cons h t=>by unfold Ħ;exact⟨_,_,rfl,h,Ħ.of t⟩
theorem Ħ.nil:Ħ K F [] []:=Ħ.of .nil
theorem Ħ.cons{p:PV}{v:V}{ps:List PV}{vs:List V}(h:Rep K F p v)(t:Ħ K F ps vs):Ħ K F (p::ps) (v::vs):=Ħ.of (.cons h t.pr)
theorem Ħ.length{ps:List PV}{vs:List V}(h:Ħ K F ps vs):ps.length=vs.length:=Paired.length h.pr
theorem dz{α β:Type}{G:α->β->Prop}:∀{l:List α} {m:List β} {i:Nat} {x:α},Paired G l m->l[i]?=some x->∃y,m[i]?=some y/\G x y
 |_,_,_,_,.nil,e=>by simp at e
 |_,_,0,_,.cons r _,e=>by simp at e;subst e;exact⟨_,rfl,r⟩
 |_,_,i+1,x,.cons _ t,e=>by
  obtain⟨y,h1,h2⟩:=dz (i:=i) (x:=x) t (by simpa using e)
  exact⟨y,by simpa using h1,h2⟩
theorem Li{α β:Type}{G:α->β->Prop}:∀{l l2:List α} {m m2:List β},Paired G l m->Paired G l2 m2->Paired G (l++l2) (m++m2)
 |_,_,_,_,.nil,t=>t
 |_,_,_,_,.cons r s,t=>.cons r (Li s t)
theorem Lj{α β:Type}{G:α->β->Prop}{x:α}{y:β}(r:G x y):∀{l:List α} {m:List β} (i:Nat),Paired G l m->Paired G (l.set i x) (m.set i y)
 |_,_,_,.nil=>.nil
 |_,_,0,.cons _ t=>.cons r t
 |_,_,i+1,.cons q t=>.cons q (Lj r i t)
theorem GQ{α β:Type}{G:α->β->Prop}:∀{l:List α} {m:List β} (n:Nat),Paired G l m->Paired G (l.take n) (m.take n)
 |_,_,0,_=>.nil
 |_,_,_+1,.nil=>.nil
 |_,_,n+1,.cons r t=>.cons r (GQ n t)
theorem GR{α β:Type}{G:α->β->Prop}:∀{l:List α} {m:List β} (n:Nat),Paired G l m->Paired G (l.drop n) (m.drop n)
 |_,_,0,h=>h
 |_,_,_+1,.nil=>.nil
 |_,_,n+1,.cons _ t=>GR n t
def Ħ.append{ps qs:List PV}{vs us:List V}(h:Ħ K F ps vs)(t:Ħ K F qs us):Ħ K F (ps++qs) (vs++us):=Ħ.of (Li h.pr t.pr)
end
inductive Slot where
 |no|sh (p:PV)|ow (ps:List PV)|bw (ps:List PV)|rc (C:String) (ns:List Str) (ps:List PV)|ot (ps qs:List PV)|ol (GX:List (List PV))
abbrev Ş:=List Slot
def Slot.own:Slot->Bool
 | .ow _=>true
 | .rc _ _ _=>true
 | .ot _ _=>true
 | .ol _=>true
 |_=>false
structure Ctx where
 B:Hp
 F₀:Hp
 /-- what is lent here:read,never changed,never kept -/
 L:Hp
 /-- which objects may be held as one's own:address,dict,class -/
 S:Addr->Addr->String->Prop
def bU(K:KK)(c:Ctx)(F H:Hp)(o:Option V):Slot->Prop
 | .no=>True
 | .sh p=>∃v,o=some v/\Rep K F p v
 | .ow ps=>∃a vs,o=some (.ref a)/\H a=some (.lst vs)/\F a=none/\c.B a=none/\Ħ K F ps vs
 | .bw ps=>∃a vs,o=some (.ref a)/\c.L a=some (.lst vs)/\Ħ K F ps vs
 | .rc C ns ps=>∃a dx fs,o=some (.ref a)/\H a=some (.ins (K.cm C) dx fs)/\F a=none/\c.B a=none/\fs.map (·.1)=ns/\Ħ K F ps (fs.map (·.2))/\c.S a dx C
 | .ot ps qs=>∃p a xs vs,o=some (.ref p)/\F p=some (.tup (xs ++ [.ref a]))/\Ħ K F ps xs/\H a=some (.lst vs)/\F a=none/\c.B a=none/\Ħ K F qs vs
 | .ol GX=>∃(p:Addr) (as:List Addr),o=some (.ref p)/\F p=some (.lst (as.map V.ref))/\as.Nodup/\Paired (λ(a:Addr) (ps:List PV)=>∃vs,H a=some (.lst vs)/\F a=none/\c.B a=none/\Ħ K F ps vs) as GX
def Slot.at_(F:Hp)(x:V)(a:Addr):Slot->Prop
 | .ot _ _=>∃p xs,x=.ref p/\F p=some (.tup (xs ++ [.ref a]))
 | .ol _=>∃(p:Addr) (as:List Addr),x=.ref p/\F p=some (.lst (as.map V.ref))/\a∈as
 | .ow _=>x=.ref a
 | .rc _ _ _=>x=.ref a
 |_=>False
def ť(F:Hp)(σ:L2.St)(ρ:Ş)(i:Nat)(a:Addr):Prop:=∃s x,ρ[i]?=some s/\σ[i]?=some (some x)/\s.at_ F x a
structure Rel(K:KK)(c:Ctx)(F H:Hp)(σ:L2.St)(ρ:Ş):Prop where
 sub:Same F H
 base:Same c.B H
 f0:Same c.F₀ F
 h_:∀a,c.B a≠none->c.F₀ a=none->F a=none
 lent:∀a u,c.L a=some u->H a=some u/\F a=none
 lb:∀a,c.B a=none->c.L a=none
 len:σ.length=ρ.length
 slot:∀(i:Nat) s,ρ[i]?=some s->bU K c F H ((σ[i]?).getD none) s
 sep:∀i j a,ť F σ ρ i a->ť F σ ρ j a->i=j
def pO(F:Hp)(σ:L2.St)(ρ:Ş)(a:Addr):Prop:=∀i,¬ť F σ ρ i a
section
variable{K:KK}{c:Ctx}{F F' H H':Hp}{σ:L2.St}{ρ:Ş}{a:Addr}{o:HO}
def oU{s:Slot}{x:V}(h:s.at_ F x a):s.own=true:=by
 cases s<;>first|rfl|exact h.elim
theorem rN:∀{as bs:List Addr},as.map V.ref=bs.map V.ref->as=bs
 | [],[],_=>rfl
 | [],_::_,h=>by cases h
 |_::_,[],h=>by cases h
 |a::as,b::bs,h=>by
  injection h with h1 h2
  injection h1 with h1
  rw[h1,rN h2]
def qW{ps qs:List PV}{x:V}{b:Addr}(h:(Slot.ot ps qs).at_ F x a)(h':(Slot.ot ps qs).at_ F x b):a=b:=by
 obtain⟨p,xs,h1,h2⟩:=h
 obtain⟨q,ys,h3,h4⟩:=h'
 rw[h1] at h3
 cases h3
 rw[h2] at h4
 have e:xs ++ [V.ref a]=ys ++ [V.ref b]:=by
  injection h4 with h4
  injection h4
 have e2:=congrArg List.getLast? e
 simp at e2
 exact e2
theorem Lk{α β:Type}{G:α->β->Prop}:∀{l:List α} {m:List β} {x:α},Paired G l m->x∈l->∃y,y∈m/\G x y
 |_,_,_,.nil,h=>by simp at h
 |_,_,x,.cons r t,h=>by
  rcases List.mem_cons.mp h with rfl|h
  ·exact⟨_,List.mem_cons_self,r⟩
  ·obtain⟨y,h1,h2⟩:=Lk t h
   exact⟨y,List.mem_cons_of_mem _ h1,h2⟩
theorem Lp{α β:Type}{G G':α->β->Prop}:∀{l:List α} {m:List β},Paired G l m->(∀x y,x∈l->G x y->G' x y)->Paired G' l m
 |_,_,.nil,_=>.nil
 |_,_,.cons r t,h=>.cons (h _ _ List.mem_cons_self r) (Lp t λx y hx=>h x y (List.mem_cons_of_mem _ hx))
def bU.grow{s:Slot}{x:Option V}(h:bU K c F H x s)(eF:Same F F')(eH:∀b vs,(∃y,x=some y/\s.at_ F y b)->H b=some vs->F b=none->c.B b=none->H' b=some vs/\F' b=none):bU K c F' H' x s:=by
 cases s with
 |no=>trivial
 |sh p=>obtain⟨v,h1,h2⟩:=h;exact⟨v,h1,h2.same eF p v⟩
 |ow ps=>
  obtain⟨b,vs,h1,h2,h3,h4,h5⟩:=h
  obtain⟨e1,e2⟩:=eH b _ ⟨_,h1,rfl⟩ h2 h3 h4
  exact⟨b,vs,h1,e1,e2,h4,h5.same eF ps vs⟩
 |bw ps=>obtain⟨b,vs,h1,h2,h3⟩:=h;exact⟨b,vs,h1,h2,h3.same eF ps vs⟩
 |rc C ns ps=>
  obtain⟨b,dx,fs,h1,h2,h3,h4,h5,h6⟩:=h
  obtain⟨e1,e2⟩:=eH b _ ⟨_,h1,rfl⟩ h2 h3 h4
  exact⟨b,dx,fs,h1,e1,e2,h4,h5,h6.1.same eF ps _,h6.2⟩
 |ot ps qs=>
  obtain⟨p,b,xs,vs,h1,h2,h3,h4,h5,h6,h7⟩:=h
  obtain⟨e1,e2⟩:=eH b _ ⟨_,h1,p,xs,rfl,h2⟩ h4 h5 h6
  exact⟨p,b,xs,vs,h1,eF _ _ h2,h3.same eF ps xs,e1,e2,h6,h7.same eF qs vs⟩
 |ol GX=>
  obtain⟨p,as,h1,h2,h3,h4⟩:=h
  refine⟨p,as,h1,eF _ _ h2,h3,Lp h4 λb ps hb ⟨vs,k1,k2,k3,k4⟩=>?_⟩
  obtain⟨e1,e2⟩:=eH b _ ⟨_,h1,p,as,rfl,h2,hb⟩ k1 k2 k3
  exact⟨vs,e1,e2,k3,k4.same eF ps vs⟩
def bU.owned{s:Slot}{y:V}(h:bU K c F H (some y) s)(ha:s.at_ F y a):∃u,H a=some u/\F a=none/\c.B a=none:=by
 cases s with
 |no=>exact ha.elim
 |sh p=>exact ha.elim
 |bw ps=>exact ha.elim
 |ow ps=>
  obtain⟨b,vs,h1,h2,h3,h4,h5⟩:=h
  rw[show y=.ref a from ha] at h1
  cases h1
  exact⟨_,h2,h3,h4⟩
 |rc C ns ps=>
  obtain⟨b,dx,fs,h1,h2,h3,h4,h5,h6⟩:=h
  rw[show y=.ref a from ha] at h1
  cases h1
  exact⟨_,h2,h3,h4⟩
 |ot ps qs=>
  obtain⟨p,b,xs,vs,h1,h2,h3,h4,h5,h6,h7⟩:=h
  cases h1
  cases qW (ps:=ps) (qs:=qs) ha ⟨p,xs,rfl,h2⟩
  exact⟨_,h4,h5,h6⟩
 |ol GX=>
  obtain⟨p,as,h1,h2,h3,h4⟩:=h
  cases h1
  obtain⟨q,bs,e1,e2,e3⟩:=ha
  cases e1
  rw[h2] at e2
  have e:as=bs:=rN (by injection e2 with e2;injection e2)
  subst e
  obtain⟨ps,_,vs,k1,k2,k3,_⟩:=Lk h4 e3
  exact⟨_,k1,k2,k3⟩
def bU.back{s:Slot}{y:V}(h:bU K c F H (some y) s)(e:Same F F')(ha:s.at_ F' y a):s.at_ F y a:=by
 cases s with
 |ot ps qs=>
  obtain⟨p,b,xs,vs,h1,h2,h3,h4,h5,h6,h7⟩:=h
  cases h1
  cases qW (ps:=ps) (qs:=qs) ha ⟨p,xs,rfl,e _ _ h2⟩
  exact⟨p,xs,rfl,h2⟩
 |ol GX=>
  obtain⟨p,as,h1,h2,h3,h4⟩:=h
  cases h1
  obtain⟨q,bs,e1,e2,e3⟩:=ha
  cases e1
  rw[e _ _ h2] at e2
  have z:as=bs:=rN (by injection e2 with e2;injection e2)
  subst z
  exact⟨p,as,rfl,h2,e3⟩
 |_=>exact ha
def jX{i:Nat}{x:V}(e:σ[i]?=some (some x)):(σ[i]?).getD none=some x:=by rw[e];rfl
def Lq{i:Nat}{x:V}(e:(σ[i]?).getD none=some x):σ[i]?=some (some x):=by
 cases q:σ[i]? with
 |none=>rw[q] at e;cases e
 |some y=>rw[q] at e;exact congrArg some e
theorem Rel.owned(r:Rel K c F H σ ρ){i:Nat}(h:ť F σ ρ i a):(∃u,H a=some u)/\F a=none/\c.B a=none:=by
 obtain⟨s,x,h1,h2,h3⟩:=h
 have q:=r.slot i s h1
 rw[jX h2] at q
 obtain⟨u,q⟩:=q.owned h3
 exact⟨⟨u,q.1⟩,q.2⟩
theorem Rel.back(r:Rel K c F H σ ρ)(e:Same F F'){i:Nat}(h:ť F' σ ρ i a):ť F σ ρ i a:=by
 obtain⟨s,x,h1,h2,h3⟩:=h
 have q:=r.slot i s h1
 rw[jX h2] at q
 exact⟨s,x,h1,h2,q.back e h3⟩
def Rel.ZbC(r:Rel K c F H σ ρ)(e:Same F F'):∀i j a,ť F' σ ρ i a->ť F' σ ρ j a->i=j:=λi j a h1 h2=>r.sep i j a (r.back e h1) (r.back e h2)
def Rel.wN(r:Rel K c F H σ ρ)(e:Same F F')(h:pO F σ ρ a):pO F' σ ρ a:=λi q=>h i (r.back e q)
def Rel.fresh(r:Rel K c F H σ ρ)(h:H a=none):pO F σ ρ a:=λi q=>by
 obtain⟨⟨u,e⟩,_⟩:=r.owned q
 rw[h] at e;cases e
def Rel.alloc(r:Rel K c F H σ ρ)(h:H a=none):Rel K c (upd F a o) (upd H a o) σ ρ where
 sub:=λb u e=>by
  by_cases hb:b=a
  ·subst hb;rw[ĭ] at e ⊢;exact e
  ·rw[ě hb] at e ⊢;exact r.sub b u e
 base:=λb u e=>by
  have hb:b≠a:=λz=>by rw[z] at e;rw[r.base _ _ e] at h;cases h
  rw[ě hb];exact r.base b u e
 f0:=fun b u e=>by
   have hb:b≠a:=λz=>by rw[z] at e;rw[r.sub _ _ (r.f0 _ _ e)] at h;cases h
   rw[ě hb];exact r.f0 b u e
 h_:=λb h1 h2=>by
  have hb:b≠a:=λz=>by
   subst z
   cases q:c.B b with
   |none=>exact h1 q
   |some u=>rw[r.base _ _ q] at h;cases h
  rw[ě hb];exact r.h_ b h1 h2
 lent:=λb u e=>by
  obtain⟨h1,h2⟩:=r.lent b u e
  have hb:b≠a:=λz=>by rw[z,h] at h1;cases h1
  rw[ě hb,ě hb];exact⟨h1,h2⟩
 lb:=r.lb
 len:=r.len
 slot:=λi s e=>by
  have hF:F a=none:=r.sub.free h
  refine(r.slot i s e).grow (Same.upd hF) λb u _ h1 h2 h3=>?_
  have hb:b≠a:=λz=>by rw[z,h] at h1;cases h1
  rw[ě hb,ě hb];exact⟨h1,h2⟩
 sep:=r.ZbC (Same.upd (r.sub.free h))
def Rel.made(r:Rel K c F H σ ρ)(h:H a=none):Rel K c F (upd H a o) σ ρ where
 sub:=r.sub.trans (Same.upd h)
 base:=r.base.trans (Same.upd h)
 f0:=r.f0
 h_:=r.h_
 lent:=λb u e=>⟨Same.upd h b u (r.lent b u e).1,(r.lent b u e).2⟩
 lb:=r.lb
 len:=r.len
 slot:=λi s e=>(r.slot i s e).grow (Same.refl F) λb u _ h1 h2 h3=>⟨Same.upd h b u h1,h2⟩
 sep:=r.sep
def Rel.freeze(r:Rel K c F H σ ρ)(h:H a=some o)(hB:c.B a=none)(hF:F a=none)(hf:pO F σ ρ a):Rel K c (upd F a o) H σ ρ where
 sub:=λb u e=>by
  by_cases hb:b=a
  ·subst hb;rw[ĭ] at e;rw[h];exact e
  ·rw[ě hb] at e;exact r.sub b u e
 base:=r.base
 f0:=r.f0.trans (Same.upd hF)
 h_:=λb h1 h2=>by
  have hb:b≠a:=λz=>h1 (by rw[z];exact hB)
  rw[ě hb];exact r.h_ b h1 h2
 lent:=λb u e=>by
  have hb:b≠a:=λz=>by rw[z,r.lb a hB] at e;cases e
  rw[ě hb];exact r.lent b u e
 lb:=r.lb
 len:=r.len
 slot:=λi s e=>(r.slot i s e).grow (Same.upd hF) λb' u' ⟨y,e1',ha⟩ h1 h2 h3=>by
  have hb:b'≠a:=λz=>by
   subst z
   exact hf i ⟨s,y,e,Lq e1',ha⟩
  rw[ě hb];exact⟨h1,h2⟩
 sep:=r.ZbC (Same.upd hF)
def dI{α:Type}{l:List α}{i j:Nat}{x y:α}(h:(l.set i x)[j]?=some y):(j=i/\y=x/\i<l.length)\/(j≠i/\l[j]?=some y):=by
 by_cases hj:j=i
 ·subst hj
  have hl:j<l.length:=by
   have:=(List.getElem?_eq_some_iff.mp h).1
   simpa using this
  rw[List.getElem?_set_self hl] at h
  exact .inl ⟨rfl,(Option.some.inj h).symm,hl⟩
 ·rw[List.getElem?_set_ne (Ne.symm hj)] at h
  exact .inr ⟨hj,h⟩
def Lr{l:L2.St}{i:Nat}{x:Option V}(h:i<l.length):((l.set i x)[i]?).getD none=x:=by rw[List.getElem?_set_self h];rfl
def GZ{l:L2.St}{i j:Nat}{x:Option V}(h:j≠i):((l.set i x)[j]?).getD none=(l[j]?).getD none:=by rw[List.getElem?_set_ne (Ne.symm h)]
def ť.off{i j:Nat}{x:Option V}{s:Slot}(h:ť F (σ.set i x) (ρ.set i s) j a)(hj:j≠i):ť F σ ρ j a:=by
 obtain⟨s',y,h1,h2,h3⟩:=h
 rw[List.getElem?_set_ne (Ne.symm hj)] at h1 h2
 exact⟨s',y,h1,h2,h3⟩
def Rel.put(r:Rel K c F H σ ρ){i:Nat}{x:Option V}{s:Slot}(hs:s.own=false)(h:bU K c F H x s):Rel K c F H (σ.set i x) (ρ.set i s) where
 sub:=r.sub
 base:=r.base
 f0:=r.f0
 h_:=r.h_
 lent:=r.lent
 lb:=r.lb
 len:=by simpa using r.len
 slot:=λj s' e=>by
  rcases dI e with⟨rfl,rfl,hl⟩|⟨hj,e⟩
  ·rw[Lr (by rw[r.len];exact hl)];exact h
  ·rw[GZ hj];exact r.slot j s' e
 sep:=λj k b h1 h2=>by
  have off:∀{j},ť F (σ.set i x) (ρ.set i s) j b->j≠i:=fun{j} q z=>by
   subst z
   obtain⟨s',y,q1,_,q2⟩:=q
   rcases dI q1 with⟨_,rfl,_⟩|⟨q,_⟩
   ·have:=oU q2;rw[hs] at this;cases this
   ·exact q rfl
  exact r.sep j k b (h1.off (off h1)) (h2.off (off h2))
def Rel.Uh(r:Rel K c F H σ ρ){i:Nat}{s:Slot}(hs:s.own=false)(h:bU K c F H ((σ[i]?).getD none) s):Rel K c F H σ (ρ.set i s) where
 sub:=r.sub
 base:=r.base
 f0:=r.f0
 h_:=r.h_
 lent:=r.lent
 lb:=r.lb
 len:=by simpa using r.len
 slot:=λj s' e=>by
  rcases dI e with⟨rfl,rfl,hl⟩|⟨hj,e⟩
  ·exact h
  ·exact r.slot j s' e
 sep:=λj k b h1 h2=>by
  have off:∀{j},ť F σ (ρ.set i s) j b->ť F σ ρ j b:=fun{j} ⟨s',y,q1,q3,q2⟩=>by
   rcases dI q1 with⟨_,rfl,_⟩|⟨_,q⟩
   ·have:=oU q2;rw[hs] at this;cases this
   ·exact⟨s',y,q,q3,q2⟩
  exact r.sep j k b (off h1) (off h2)
def Rel.Ry(r:Rel K c F H σ ρ){i:Nat}{x:V}{s:Slot}(h:bU K c F H (some x) s)(hf:∀a,s.at_ F x a->pO F σ ρ a):Rel K c F H (σ.set i (some x)) (ρ.set i s) where
 sub:=r.sub
 base:=r.base
 f0:=r.f0
 h_:=r.h_
 lent:=r.lent
 lb:=r.lb
 len:=by simpa using r.len
 slot:=λj s' e=>by
  rcases dI e with⟨rfl,rfl,hl⟩|⟨hj,e⟩
  ·rw[Lr (by rw[r.len];exact hl)];exact h
  ·rw[GZ hj];exact r.slot j s' e
 sep:=λj k b h1 h2=>by
  have ZbD:∀{j},ť F (σ.set i (some x)) (ρ.set i s) j b->(j=i/\s.at_ F x b)\/(j≠i/\ť F σ ρ j b):=fun{j} q=>by
   by_cases hj:j=i
   ·subst hj
    obtain⟨s',y,q1,q2,q3⟩:=q
    rcases dI q2 with⟨_,e,_⟩|⟨z,_⟩
    ·cases e
     rcases dI q1 with⟨_,e,_⟩|⟨z,_⟩
     ·cases e
      exact .inl ⟨rfl,q3⟩
     ·exact absurd rfl z
    ·exact absurd rfl z
   ·exact .inr ⟨hj,q.off hj⟩
  rcases ZbD h1 with⟨e1,z1⟩|⟨e1,o1⟩
  ·rcases ZbD h2 with⟨e2,z2⟩|⟨e2,o2⟩
   ·rw[e1,e2]
   ·exact absurd o2 (hf b z1 k)
  ·rcases ZbD h2 with⟨e2,z2⟩|⟨e2,o2⟩
   ·exact absurd o1 (hf b z2 j)
   ·exact r.sep j k b o1 o2
def Rel.ZbE(r:Rel K c F H σ ρ){i:Nat}{s:Slot}(ho:ť F σ ρ i a)(h:bU K c F (upd H a o) ((σ[i]?).getD none) s)(hs:∀x b,σ[i]?=some (some x)->s.at_ F x b->ť F σ ρ i b):Rel K c F (upd H a o) σ (ρ.set i s) where
 sub:=λb u e=>by
  have hb:b≠a:=λz=>by rw[z,(r.owned ho).2.1] at e;cases e
  rw[ě hb];exact r.sub b u e
 base:=λb u e=>by
  have hb:b≠a:=λz=>by rw[z,(r.owned ho).2.2] at e;cases e
  rw[ě hb];exact r.base b u e
 f0:=r.f0
 h_:=r.h_
 lent:=λb u e=>by
  have hb:b≠a:=λz=>by rw[z,r.lb a (r.owned ho).2.2] at e;cases e
  rw[ě hb];exact r.lent b u e
 lb:=r.lb
 len:=by simpa using r.len
 slot:=λj s' e=>by
  rcases dI e with⟨rfl,rfl,hl⟩|⟨hj,e⟩
  ·exact h
  ·refine(r.slot j s' e).grow (Same.refl F) λb u ⟨y,e1,e2⟩ h1 h2 h3=>?_
   have hb:b≠a:=λz=>by
    subst z
    exact hj (r.sep j i b ⟨s',y,e,Lq e1,e2⟩ ho)
   exact⟨by rw[ě hb];exact h1,h2⟩
 sep:=λj k b h1 h2=>by
  have off:∀{j},ť F σ (ρ.set i s) j b->ť F σ ρ j b:=fun{j} ⟨s',y,q1,q3,q2⟩=>by
   rcases dI q1 with⟨e,rfl,_⟩|⟨_,q⟩
   ·subst e
    exact hs y b q3 q2
   ·exact⟨s',y,q,q3,q2⟩
  exact r.sep j k b (off h1) (off h2)
def Rel.write(r:Rel K c F H σ ρ){i:Nat}{s:Slot}(ho:ť F σ ρ i a)(hx:σ[i]?=some (some (.ref a)))(h:bU K c F (upd H a o) (some (.ref a)) s)(hs:∀b,s.at_ F (.ref a) b->b=a):Rel K c F (upd H a o) σ (ρ.set i s):=
 r.ZbE ho (by rw[hx];exact h) λx b e q=>by rw[hx] at e;cases e;rw[hs b q];exact ho
structure Gr(F H F' H':Hp):Prop where
 h:Same H H'
 f:Same F F'
 sub:Same F' H'
 out:∀a,H a≠none->F a=none->F' a=none
def Rel.call(r:Rel K c F H σ ρ)(g:Gr F H F' H'):Rel K c F' H' σ ρ where
 sub:=g.sub
 base:=r.base.trans g.h
 f0:=r.f0.trans g.f
 h_:=λb h1 h2=>by
  refine g.out b (λz=>h1 ?_) (r.h_ b h1 h2)
  cases q:c.B b with
  |none=>rfl
  |some u=>rw[r.base _ _ q] at z;cases z
 lent:=λb u e=>⟨g.h b u (r.lent b u e).1,g.out b (by rw[(r.lent b u e).1];intro z;cases z) (r.lent b u e).2⟩
 lb:=r.lb
 len:=r.len
 slot:=λi s e=>(r.slot i s e).grow g.f λb u _ h1 h2 h3=>⟨g.h b u h1,g.out b (by rw[h1];intro z;cases z) h2⟩
 sep:=r.ZbC g.f
def ctx0(F H:Hp):Ctx:=⟨H,F,λa=>match F a with
 |none=>H a
 |some _=>none,λ_ _ _=>True⟩
def iu{a:Addr}{u:HO}(h:(ctx0 F H).L a=some u):H a=some u/\F a=none:=by
 unfold ctx0 at h
 dsimp only at h
 cases q:F a with
 |none=>rw[q] at h;exact⟨h,rfl⟩
 |some o=>rw[q] at h;cases h
def Rel.gr(r:Rel K (ctx0 F H) F' H' σ ρ):Gr F H F' H':=⟨r.base,r.f0,r.sub,r.h_⟩
def gj(K:KK)(F H:Hp):Slot->V->Prop
 | .sh p,v=>Rep K F p v
 | .bw ps,v=>∃a vs,v=.ref a/\H a=some (.lst vs)/\F a=none/\Ħ K F ps vs
 |_,_=>False
def gj.slot{s:Slot}{v:V}(h:gj K F H s v):bU K (ctx0 F H) F H (some v) s/\s.own=false:=by
 cases s with
 |sh p=>exact⟨⟨v,rfl,h⟩,rfl⟩
 |bw ps=>
  obtain⟨a,vs,rfl,h1,h2,h3⟩:=h
  refine⟨⟨a,vs,rfl,?_,h3⟩,rfl⟩
  show(match F a with|none=>H a|some _=>none)=_
  rw[h2]
  exact h1
 |no=>exact h.elim
 |ow ps=>exact h.elim
 |rc C ns ps=>exact h.elim
 |ot ps qs=>exact h.elim
 |ol GX=>exact h.elim
def startP(n:Nat)(as:List Slot):Ş:=as++List.replicate (n-as.length) .no
theorem Rel.start{N:List Str}{as:List Slot}{vs:List V}(s:Same F H)(h:Paired (gj K F H) as vs):Rel K (ctx0 F H) F H (L2.start N vs) (startP N.length as) where
 sub:=s
 base:=Same.refl H
 f0:=Same.refl F
 h_:=λ_ _ h=>h
 lent:=λ_ _ e=>iu e
 lb:=fun a e=>by
   cases q:(ctx0 F H).L a with
   |none=>rfl
   |some u=>
    have e':H a=none:=e
    rw[(iu q).1] at e'
    cases e'
 len:=by unfold L2.start startP;simp[Paired.length h]
 slot:=λi s' e=>by
  unfold startP at e
  by_cases hi:i<as.length
  ·rw[List.getElem?_append_left hi] at e
   obtain⟨v,h1,h2⟩:=dz h e
   have hv:((L2.start N vs)[i]?).getD none=some v:=by
    unfold L2.start
    rw[List.getElem?_append_left (by simpa[<-Paired.length h] using hi),List.getElem?_map,h1];rfl
   rw[hv]
   exact(gj.slot h2).1
  ·rw[List.getElem?_append_right (by omega),List.getElem?_replicate] at e
   split at e
   ·cases e;trivial
   ·cases e
 sep:=λi j a h1 _=>by
  obtain⟨s',y,h1,_,h2⟩:=h1
  have h2:=oU h2
  exfalso
  unfold startP at h1
  by_cases hi:i<as.length
  ·rw[List.getElem?_append_left hi] at h1
   obtain⟨v,_,h3⟩:=dz h h1
   rw[(gj.slot h3).2] at h2
   cases h2
  ·rw[List.getElem?_append_right (by omega),List.getElem?_replicate] at h1
   split at h1
   ·cases h1;cases h2
   ·cases h1
end
structure PX where
 C:String
 ns:List Str
 ps:List PV
def Rz(K:KK)(F:Hp)(x:PX)(C:Value)(d:Option Addr):Prop:=C=.ref (K.cm x.C)/\∃fs,rM F d fs/\fs.map (·.1)=x.ns/\Ħ K F x.ps (fs.map (·.2))
inductive Res(α:Type) where
 |ok (a:α) (ρ:Ş)|exc (x:PX) (ρ:Ş)|bad
def Res.bind{α β:Type}(r:Res α)(f:α->Ş->Res β):Res β:= match r with
 | .ok a ρ=>f a ρ
 | .exc x ρ=>.exc x ρ
 | .bad=>.bad
@[simp] theorem Res.cH{α β:Type}{a:α}{ρ:Ş}{f:α->Ş->Res β}:(Res.ok a ρ).bind f=f a ρ:= rfl
@[simp] theorem Res.ZdU{α β:Type}{x:PX}{ρ:Ş}{f:α->Ş->Res β}:(Res.exc x ρ:Res α).bind f=.exc x ρ:= rfl
@[simp] theorem Res.ZdV{α β:Type}{f:α->Ş->Res β}:(Res.bad:Res α).bind f=.bad:=rfl
def Res.qX{α:Type}(o:Option α)(ρ:Ş):Res α:= match o with
 |some a=>.ok a ρ
 |none=>.bad
@[simp] theorem Res.ZdW{α:Type}{a:α}{ρ:Ş}:Res.qX (some a) ρ=.ok a ρ:= rfl
@[simp] theorem Res.ZdX{α:Type}{ρ:Ş}:Res.qX (none:Option α) ρ=.bad:=rfl
abbrev M(α:Type):=Ş->Res α
inductive RV where
 |sh (p:PV)|ow (ps:List PV)|ot (ps qs:List PV)
def RV.val:RV->PV
 | .sh p=>p
 | .ow ps=>.lst ps
 | .ot ps qs=>.tup (ps ++ [.lst qs])
def RV.slot:RV->Slot
 | .sh p=>.sh p
 | .ow ps=>.ow ps
 | .ot ps qs=>.ot ps qs
abbrev RR(α β:Type):=Ctx->L2.St->Ş->Hp->Hp->α->β->Prop
def rV(K:KK):RR PV V:=λ_ _ _ F _ p v=>Rep K F p v
def G_(K:KK)(F H:Hp)(p:PV)(v:V):Prop:=match p with
 | .lst ps=>∃a vs,v=.ref a/\H a=some (.lst vs)/\Ħ K F ps vs
 | .ins C ns ps=>∃a dx fs,v=.ref a/\H a=some (.ins (K.cm C) dx fs)/\fs.map (·.1)=ns/\Ħ K F ps (fs.map (·.2))
 |_=>False
def rR(K:KK):RR PV V:=λ_ _ _ F H p v=>Rep K F p v\/G_ K F H p v
def rA(K:KK):RR (List Slot) (List V):=λ_ _ _ F H as vs=>Paired (gj K F H) as vs
def Held(K:KK)(c:Ctx)(σ:L2.St)(ρ:Ş)(F H:Hp)(ps:List PV)(v:V):Prop:=∃a vs,v=.ref a/\H a=some (.lst vs)/\F a=none/\c.B a=none/\pO F σ ρ a/\Ħ K F ps vs
def Hf(K:KK)(c:Ctx)(σ:L2.St)(ρ:Ş)(F H:Hp)(ps qs:List PV)(v:V):Prop:=∃p a xs vs,v=.ref p/\F p=some (.tup (xs ++ [.ref a]))/\Ħ K F ps xs/\H a=some (.lst vs)/\F a=none/\c.B a=none/\pO F σ ρ a/\Ħ K F qs vs
def rO(K:KK):RR RV V:=λc σ ρ F H r v=>match r with
 | .sh p=>Rep K F p v
 | .ow ps=>Held K c σ ρ F H ps v
 | .ot ps qs=>Hf K c σ ρ F H ps qs v
def rL(K:KK):RR (List PV) (List V):=λ_ _ _ F _ p v=>Ħ K F p v
def rRL(K:KK):RR (List PV) (List V):=λc σ ρ F H p v=>Paired (rR K c σ ρ F H) p v
def rB:RR Bool Bool:=λ_ _ _ _ _ p v=>p=v
def rI:RR (Option Int) (Option Int):=λ_ _ _ _ _ p v=>p=v
def cY{α β:Type}(K:KK)(E:L2.St->XK)(R:RR α β)(c:Ctx)(F H:Hp)(σ:L2.St)(Q:β->Hp->Prop):Res α->Prop
 | .ok p ρ'=>∀v F' H',Rel K c F' H' σ ρ'->Same F F'->Same H H'->R c σ ρ' F' H' p v->Q v H'
 | .exc x ρ'=>∀C d F' H',Rel K c F' H' σ ρ'->Same F F'->Rz K F' x C d->E σ C d H'
 | .bad=>False
def tG{α β:Type}(K:KK)(E:L2.St->XK)(R:RR α β)(m:M α):L2.St->Hp->(β->Hp->Prop)->Prop:=λσ H Q=>∃c F ρ,Rel K c F H σ ρ/\cY K E R c F H σ Q (m ρ)
section
variable{α β α' β':Type}{K:KK}{E:L2.St->XK}{R:RR α β}{R':RR α' β'}{c:Ctx}{F F1 H H1:Hp}{σ:L2.St}
def cY.mono{Q:β->Hp->Prop}{r:Res α}(h:cY K E R c F H σ Q r)(sF:Same F F1)(sH:Same H H1):cY K E R c F1 H1 σ Q r:=by
 cases r with
 |ok p ρ'=>exact λv F' H' rel s1 s2 q=>h v F' H' rel (sF.trans s1) (sH.trans s2) q
 |exc x ρ'=>exact λC d F' H' rel s1 q=>h C d F' H' rel (sF.trans s1) q
 |bad=>exact h
theorem cY.bind{Q:β->Hp->Prop}{Q':β'->Hp->Prop}{r:Res α}{f:α->Ş->Res α'}(h:cY K E R' c F H σ Q' (r.bind f))
 (k:∀p ρ1 v F1 H1,Rel K c F1 H1 σ ρ1->Same F F1->Same H H1->R c σ ρ1 F1 H1 p v->cY K E R' c F1 H1 σ Q' (f p ρ1)->Q v H1):cY K E R c F H σ Q r:=by
 cases r with
 |ok p ρ'=>exact λv F' H' rel s1 s2 q=>k p ρ' v F' H' rel s1 s2 q (cY.mono (show cY K E R' c F H σ Q' (f p ρ') from h) s1 s2)
 |exc x ρ'=>exact h
 |bad=>exact h
theorem cY.rel{R2:RR α β}{Q:β->Hp->Prop}{r:Res α}(h:cY K E R c F H σ Q r)(k:∀p ρ' v F' H',Rel K c F' H' σ ρ'->R2 c σ ρ' F' H' p v->R c σ ρ' F' H' p v):cY K E R2 c F H σ Q r:=by
 cases r with
 |ok p ρ'=>exact λv F' H' rel s1 s2 q=>h v F' H' rel s1 s2 (k p ρ' v F' H' rel q)
 |exc x ρ'=>exact h
 |bad=>exact h
end
abbrev tV(K:KK)(E:L2.St->XK)(m:M PV):TE:=tG K E (rV K) m
abbrev tR(K:KK)(E:L2.St->XK)(m:M PV):TE:=tG K E (rR K) m
abbrev tO(K:KK)(E:L2.St->XK)(m:M RV):TE:=tG K E (rO K) m
abbrev tL(K:KK)(E:L2.St->XK)(m:M (List PV)):TA:=tG K E (rL K) m
abbrev tA(K:KK)(E:L2.St->XK)(m:M (List Slot)):TA:=tG K E (rA K) m
abbrev tRL(K:KK)(E:L2.St->XK)(m:M (List PV)):TA:=tG K E (rRL K) m
abbrev tB(K:KK)(E:L2.St->XK)(m:M Bool):TT:=tG K E rB m
inductive Fl where
 |nx|bk|ct|rt (r:RV)
def aB(K:KK)(E:L2.St->XK)(c:Ctx)(F:Hp)(D:Ends):Res Fl->Prop
 | .ok .nx ρ'=>∀σ' F' H',Rel K c F' H' σ' ρ'->Same F F'->D.nx σ' H'
 | .ok .bk ρ'=>∀σ' F' H',Rel K c F' H' σ' ρ'->Same F F'->D.bk σ' H'
 | .ok .ct ρ'=>∀σ' F' H',Rel K c F' H' σ' ρ'->Same F F'->D.ct σ' H'
 | .ok (.rt r) ρ'=>∀v σ' F' H',Rel K c F' H' σ' ρ'->Same F F'->rO K c σ' ρ' F' H' r v->D.rt v H'
 | .exc x ρ'=>∀σ' C d F' H',Rel K c F' H' σ' ρ'->Same F F'->Rz K F' x C d->E σ' C d H'
 | .bad=>False
def tS(K:KK)(E:L2.St->XK)(m:M Fl):TS:=λD σ H=>∃c F ρ,Rel K c F H σ ρ/\aB K E c F D (m ρ)
section
variable{K:KK}{E:L2.St->XK}{c:Ctx}{F F1:Hp}{D:Ends}
def aB.mono{r:Res Fl}(h:aB K E c F D r)(sF:Same F F1):aB K E c F1 D r:=by
 cases r with
 |ok f ρ'=>
  cases f with
  |rt v=>exact λv σ' F' H' rel s1 q=>h v σ' F' H' rel (sF.trans s1) q
  |nx=>exact λσ' F' H' rel s1=>h σ' F' H' rel (sF.trans s1)
  |bk=>exact λσ' F' H' rel s1=>h σ' F' H' rel (sF.trans s1)
  |ct=>exact λσ' F' H' rel s1=>h σ' F' H' rel (sF.trans s1)
 |exc x ρ'=>exact λσ' C d F' H' rel s1 q=>h σ' C d F' H' rel (sF.trans s1) q
 |bad=>exact h
theorem aB.bind{α β:Type}{R:RR α β}{σ:L2.St}{H:Hp}{Q:β->Hp->Prop}{r:Res α}{f:α->Ş->Res Fl}(h:aB K E c F D (r.bind f))
 (k:∀p ρ1 v F1 H1,Rel K c F1 H1 σ ρ1->Same F F1->R c σ ρ1 F1 H1 p v->aB K E c F1 D (f p ρ1)->Q v H1):cY K E R c F H σ Q r:=by
 cases r with
 |ok p ρ'=>exact λv F' H' rel s1 s2 q=>k p ρ' v F' H' rel s1 q (aB.mono (show aB K E c F D (f p ρ') from h) s1)
 |exc x ρ'=>exact λC d F' H' rel s1 q=>h σ C d F' H' rel s1 q
 |bad=>exact h
end
end P
namespace P
open PySem PySem.Spec PyProof.Rows L2 M2
def Ĥ(i:Nat):M PV:=λρ=>match ρ[i]? with
 |some (.sh p)=>.ok p ρ
 |some (.ow ps)=>.ok (.lst ps) (ρ.set i (.sh (.lst ps)))
 |_=>.bad
def ā(i:Nat):M PV:=λρ=>match ρ[i]? with
 |some (.sh p)=>.ok p ρ
 |some (.ow ps)=>.ok (.lst ps) ρ
 |some (.bw ps)=>.ok (.lst ps) ρ
 |some (.rc C ns ps)=>.ok (.ins C ns ps) ρ
 |_=>.bad
def cZ(i:Nat):M RV:=λρ=>match ρ[i]? with
 |some (.sh p)=>.ok (.sh p) ρ
 |some (.ow ps)=>.ok (.ow ps) (ρ.set i .no)
 |_=>.bad
def mC(p:PV):M PV:=λρ=>.ok p ρ
def ş(m:M PV):M RV:=λρ=>(m ρ).bind λp ρ1=>.ok (.sh p) ρ1
def Ė(m:M RV):M PV:=λρ=>(m ρ).bind λr ρ1=>.ok r.val ρ1
section
variable{K:KK}{c:Ctx}{F H:Hp}{σ:L2.St}{ρ:Ş}
def at_of{i:Nat}{x:V}(h:(σ[i]?).getD none=some x):σ[i]?=some (some x):=by
 cases q:σ[i]? with
 |none=>rw[q] at h;cases h
 |some y=>rw[q] at h;exact congrArg some h
theorem Rel.ow(r:Rel K c F H σ ρ){i:Nat}{ps:List PV}(e:ρ[i]?=some (.ow ps)):∃a vs,σ[i]?=some (some (.ref a))/\H a=some (.lst vs)/\F a=none/\c.B a=none/\Ħ K F ps vs/\ť F σ ρ i a:=by
 obtain⟨a,vs,h1,h2,h3,h4,h5⟩:=r.slot i _ e
 exact⟨a,vs,at_of h1,h2,h3,h4,h5,⟨_,_,e,at_of h1,rfl⟩⟩
def Rel.move(r:Rel K c F H σ ρ){i:Nat}{a:Addr}(h:ť F σ ρ i a):Rel K c F H σ (ρ.set i .no)/\pO F σ (ρ.set i .no) a:=by
 refine⟨r.Uh rfl trivial,λj ⟨s,y,q1,q3,q2⟩=>?_⟩
 rcases dI q1 with⟨_,rfl,_⟩|⟨hj,q⟩
 ·exact q2.elim
 ·exact hj (r.sep j i a ⟨s,y,q,q3,q2⟩ h)
def Rel.share(r:Rel K c F H σ ρ){i:Nat}{ps:List PV}(e:ρ[i]?=some (.ow ps)):∃a vs,σ[i]?=some (some (.ref a))/\F a=none/\Rep K (upd F a (.lst vs)) (.lst ps) (.ref a)/\Rel K c (upd F a (.lst vs)) H σ (ρ.set i (.sh (.lst ps))):=by
 obtain⟨a,vs,h1,h2,h3,h4,h5,ho⟩:=r.ow e
 obtain⟨m1,m2⟩:=r.move ho
 have rp:Rep K (upd F a (.lst vs)) (.lst ps) (.ref a):=by
  unfold Rep
  exact⟨a,vs,rfl,bD.of ĭ,h5.same (Same.upd h3) ps vs⟩
 have q:=(m1.freeze h2 h4 h3 m2).Uh (i:=i) (s:=.sh (.lst ps)) rfl (show bU K c _ H _ (.sh (.lst ps)) from⟨.ref a,by rw[h1];rfl,rp⟩)
 rw[List.set_set] at q
 exact⟨a,vs,h1,h3,rp,q⟩
def G_.mono{F1 H1:Hp}{p:PV}{v:V}(h:G_ K F H p v)(sF:Same F F1)(sH:Same H H1):G_ K F1 H1 p v:=by
 cases p with
 |lst ps=>
  obtain⟨a,vs,h2,h3,h4⟩:=h
  exact⟨a,vs,h2,sH _ _ h3,h4.same sF ps vs⟩
 |ins C ns ps=>
  obtain⟨a,dx,fs,h2,h3,h4,h5⟩:=h
  exact⟨a,dx,fs,h2,sH _ _ h3,h4,h5.same sF ps _⟩
 |_=>exact h.elim
theorem rR.mono{c:Ctx}{σ:L2.St}{ρ ρ':Ş}{F1 H1:Hp}{p:PV}{v:V}(h:rR K c σ ρ F H p v)(sF:Same F F1)(sH:Same H H1):rR K c σ ρ' F1 H1 p v:=by
 rcases h with h|h
 ·exact .inl (h.same sF p v)
 ·exact .inr (h.mono sF sH)
theorem rR.lst{c:Ctx}{σ:L2.St}{ρ:Ş}{ps:List PV}{v:V}(s:Same F H)(h:rR K c σ ρ F H (.lst ps) v):∃a vs,v=.ref a/\bD K.K H a vs/\Ħ K F ps vs:=by
 rcases h with h|⟨a,vs,h2,h3,h4⟩
 ·unfold Rep at h
  obtain⟨a,xs,h1,h2,h3⟩:=h
  exact⟨a,xs,h1,s.seq h2,h3⟩
 ·exact⟨a,vs,h2,bD.of h3,h4⟩
theorem rR.tup{c:Ctx}{σ:L2.St}{ρ:Ş}{ps:List PV}{v:V}(s:Same F H)(h:rR K c σ ρ F H (.tup ps) v):∃a vs,v=.ref a/\iH K.K H a vs/\Ħ K F ps vs:=by
 rcases h with h|h
 ·unfold Rep at h
  obtain⟨a,xs,h1,h2,h3⟩:=h
  exact⟨a,xs,h1,Same.tup s h2,h3⟩
 ·exact h.elim
theorem rR.int{c:Ctx}{σ:L2.St}{ρ:Ş}{i:Int}{v:V}(h:rR K c σ ρ F H (.int i) v):v=.int i:=by
 rcases h with h|h
 ·unfold Rep at h;exact h
 ·exact h.elim
theorem rR.str{c:Ctx}{σ:L2.St}{ρ:Ş}{i:Str}{v:V}(h:rR K c σ ρ F H (.str i) v):v=.str i:=by
 rcases h with h|h
 ·unfold Rep at h;exact h
 ·exact h.elim
theorem rR.bl{c:Ctx}{σ:L2.St}{ρ:Ş}{i:Bool}{v:V}(h:rR K c σ ρ F H (.bl i) v):v=.bl i:=by
 rcases h with h|h
 ·unfold Rep at h;exact h
 ·exact h.elim
theorem rR.non{c:Ctx}{σ:L2.St}{ρ:Ş}{v:V}(h:rR K c σ ρ F H .non v):v=.non:=by
 rcases h with h|h
 ·unfold Rep at h;exact h
 ·exact h.elim
theorem rR.ty{c:Ctx}{σ:L2.St}{ρ:Ş}{n:String}{v:V}(h:rR K c σ ρ F H (.ty n) v):v=.ty n:=by
 rcases h with h|h
 ·unfold Rep at h;exact h
 ·exact h.elim
theorem Rep.int{i:Int}:Rep K F (.int i) (.int i):=by unfold Rep;rfl
theorem Rep.str{i:Str}:Rep K F (.str i) (.str i):=by unfold Rep;rfl
theorem Rep.bl{i:Bool}:Rep K F (.bl i) (.bl i):=by unfold Rep;rfl
theorem Rep.non:Rep K F .non .non:=by unfold Rep;rfl
end
section
variable{X:Cx}{cm:String->Addr}{E:L2.St->XK}{a b e:Expr}{es:List Expr}{pos:Pos}{m ma mb mc:M PV}{mo:M RV}
def PT.wk{t t':TT}(h:PT X e t)(i:∀σ H Q,t' σ H Q->t σ H Q):PT X e t':=λpins s σ H Q I q=>h pins s σ H Q I (i σ H Q q)
def PA.wk{t t':TA}(h:PA X es t)(i:∀σ H Q,t' σ H Q->t σ H Q):PA X es t':=λpos pins s σ H Q I q=>h pos pins s σ H Q I (i σ H Q q)
def PW.wk{t t':TT}(h:PW X e t)(i:∀σ H Q,t' σ H Q->t σ H Q):PW X e t':=λwh pins s σ H Q I q=>h wh pins s σ H Q I (i σ H Q q)
def mL.wk{st:List Stmt}{t t':TS}(h:mL X st t)(i:∀D σ H,t' D σ H->t D σ H):mL X st t':=λpins s σ H D I q=>h pins s σ H D I (i D σ H q)
def v_var(i:Nat){x:Str}{pos:Pos}(hN:X.N[i]?=some x:=by rfl)(hv:Gs X.env.scope x:=by first|exact Or.inl rfl|exact Or.inr (Or.inl rfl)|exact Or.inr (Or.inr rfl))(hd:(x== ("__debug__" :Str))=false:=by decide)
 (hcd:(x== ("__classdict__" :Str))=false:=by decide):PE X (.Name x pos) (tV (kk X cm) E (Ĥ i)):=PE.wk (i_ hN hv hd hcd) λσ H Q ⟨c,F,ρ,rel,h⟩=>by
 unfold Ĥ at h
 split at h
 ·rename_i p e
  obtain⟨v,h1,h2⟩:=rel.slot i _ e
  exact⟨v,at_of h1,h v F H rel (Same.refl F) (Same.refl H) h2⟩
 ·rename_i ps e
  obtain⟨a,vs,h1,h2,h3,h4⟩:=rel.share e
  exact⟨.ref a,h1,h _ _ H h4 (Same.upd h2) (Same.refl H) h3⟩
 ·exact h.elim
def Ă(i:Nat){x:Str}{pos:Pos}(hN:X.N[i]?=some x:=by rfl)(hv:Gs X.env.scope x:=by first|exact Or.inl rfl|exact Or.inr (Or.inl rfl)|exact Or.inr (Or.inr rfl))(hd:(x== ("__debug__" :Str))=false:=by decide)
 (hcd:(x== ("__classdict__" :Str))=false:=by decide):PE X (.Name x pos) (tR (kk X cm) E (ā i)):=PE.wk (i_ hN hv hd hcd) λσ H Q ⟨c,F,ρ,rel,h⟩=>by
 unfold ā at h
 split at h
 ·rename_i p e
  obtain⟨v,h1,h2⟩:=rel.slot i _ e
  exact⟨v,at_of h1,h v F H rel (Same.refl F) (Same.refl H) (.inl h2)⟩
 ·rename_i ps e
  obtain⟨a,vs,h1,h2,h3,h4,h5,_⟩:=rel.ow e
  exact⟨.ref a,h1,h _ F H rel (Same.refl F) (Same.refl H) (.inr ⟨a,vs,rfl,h2,h5⟩)⟩
 ·rename_i ps e
  obtain⟨a,vs,h1,h2,h3⟩:=rel.slot i _ e
  exact⟨.ref a,at_of h1,h _ F H rel (Same.refl F) (Same.refl H) (.inr ⟨a,vs,rfl,(rel.lent a _ h2).1,h3⟩)⟩
 ·rename_i C ns ps e
  obtain⟨a,dx,fs,h1,h2,h3,h4,h5,h6⟩:=rel.slot i _ e
  exact⟨.ref a,at_of h1,h _ F H rel (Same.refl F) (Same.refl H) (.inr ⟨a,dx,fs,rfl,h2,h5,h6.1⟩)⟩
 ·exact h.elim
def gn(i:Nat){x:Str}{pos:Pos}(hN:X.N[i]?=some x:=by rfl)(hv:Gs X.env.scope x:=by first|exact Or.inl rfl|exact Or.inr (Or.inl rfl)|exact Or.inr (Or.inr rfl))(hd:(x== ("__debug__" :Str))=false:=by decide)
 (hcd:(x== ("__classdict__" :Str))=false:=by decide):PE X (.Name x pos) (tO (kk X cm) E (cZ i)):=PE.wk (i_ hN hv hd hcd) λσ H Q ⟨c,F,ρ,rel,h⟩=>by
 unfold cZ at h
 split at h
 ·rename_i p e
  obtain⟨v,h1,h2⟩:=rel.slot i _ e
  exact⟨v,at_of h1,h v F H rel (Same.refl F) (Same.refl H) h2⟩
 ·rename_i ps e
  obtain⟨a,vs,h1,h2,h3,h4,h5,h6⟩:=rel.ow e
  obtain⟨m1,m2⟩:=rel.move h6
  exact⟨.ref a,h1,h _ F H m1 (Same.refl F) (Same.refl H) ⟨a,vs,rfl,h2,h3,h4,m2,h5⟩⟩
 ·exact h.elim
def Ls{v:V}(p:PV)(h:PE X e (tC v))(hr:∀F,Rep (kk X cm) F p v:=by intro _;unfold Rep;rfl):PE X e (tV (kk X cm) E (mC p)):=PE.wk h λσ H Q ⟨c,F,ρ,rel,h⟩=>h v F H rel (Same.refl F) (Same.refl H) (hr F)
def ă{i j pos}:PE X (.Constant (.int i) j pos) (tV (kk X cm) E (mC (.int i))):=Ls _ ZaR
def wO{i j pos}:PE X (.Constant (.bool i) j pos) (tV (kk X cm) E (mC (.bl i))):=Ls _ Zdt
def jA{j pos}:PE X (.Constant .none j pos) (tV (kk X cm) E (mC .non)):=Ls _ ZaS
def Ŵ{x j pos}:PE X (.Constant (.str x) j pos) (tV (kk X cm) E (mC (.str x))):=Ls _ ZaT
def Ā(h:PE X e (tV (kk X cm) E m)):PE X e (tR (kk X cm) E m):=PE.wk h λσ H Q ⟨c,F,ρ,rel,h⟩=>⟨c,F,ρ,rel,h.rel λ_ _ _ _ _ _ q=>.inl q⟩
def ĵ(h:PE X e (tV (kk X cm) E m)):PE X e (tO (kk X cm) E (ş m)):=PE.wk h λσ H Q ⟨c,F,ρ,rel,h⟩=>⟨c,F,ρ,rel,h.bind λp ρ1 v F1 H1 Ġ s1 s2 q h1=>h1 v F1 H1 Ġ (Same.refl _) (Same.refl _) q⟩
def Held.share{K:KK}{c:Ctx}{F H:Hp}{σ:L2.St}{ρ:Ş}{ps:List PV}{v:V}(rel:Rel K c F H σ ρ)(h:Held K c σ ρ F H ps v):∃F1,Same F F1/\Rel K c F1 H σ ρ/\Rep K F1 (.lst ps) v:=by
 obtain⟨a,vs,rfl,h1,h2,h3,h4,h5⟩:=h
 refine⟨_,Same.upd h2,rel.freeze h1 h3 h2 h4,?_⟩
 unfold Rep
 exact⟨a,vs,rfl,bD.of ĭ,h5.same (Same.upd h2) ps vs⟩
def Hf.share{K:KK}{c:Ctx}{F H:Hp}{σ:L2.St}{ρ:Ş}{ps qs:List PV}{v:V}(rel:Rel K c F H σ ρ)(h:Hf K c σ ρ F H ps qs v):∃F1,Same F F1/\Rel K c F1 H σ ρ/\Rep K F1 (.tup (ps ++ [.lst qs])) v:=by
 obtain⟨p,a,xs,vs,rfl,h0,hx,h1,h2,h3,h4,h5⟩:=h
 refine⟨_,Same.upd h2,rel.freeze h1 h3 h2 h4,?_⟩
 have ra:Rep K (upd F a (.lst vs)) (.lst qs) (.ref a):=by
  unfold Rep
  exact⟨a,vs,rfl,bD.of ĭ,h5.same (Same.upd h2) qs vs⟩
 unfold Rep
 exact⟨p,_,rfl,iH.of (Same.upd h2 _ _ h0),Ħ.append (hx.same (Same.upd h2) ps xs) (Ħ.cons ra Ħ.nil)⟩
def Ě(h:PE X e (tO (kk X cm) E mo)):PE X e (tV (kk X cm) E (Ė mo)):=PE.wk h λσ H Q ⟨c,F,ρ,rel,h⟩=>⟨c,F,ρ,rel,h.bind λr ρ1 v F1 H1 Ġ s1 s2 q h1=>by
 cases r with
 |sh p=>exact h1 v F1 H1 Ġ (Same.refl _) (Same.refl _) q
 |ow ps=>
  obtain⟨F2,s3,ő,rp⟩:=Held.share Ġ q
  exact h1 v F2 H1 ő s3 (Same.refl _) rp
 |ot ps qs=>
  obtain⟨F2,s3,ő,rp⟩:=Hf.share Ġ q
  exact h1 v F2 H1 ő s3 (Same.refl _) rp⟩
def ć(f:PV->PV->Option PV)(ma mb:M PV):M PV:=λρ=>(ma ρ).bind λp ρ1=>(mb ρ1).bind λq ρ2=>Res.qX (f p q) ρ2
def ĺ(f:PV->PV->Option RV)(ma mb:M PV):M RV:=λρ=>(ma ρ).bind λp ρ1=>(mb ρ1).bind λq ρ2=>Res.qX (f p q) ρ2
def lY(K:KK)(r:R2)(f:PV->PV->Option PV):Prop:=∀{c:Ctx} {F H:Hp} {σ:L2.St} {ρ:Ş} {p q pv:PV} {v u:V} {Q:VK},Rel K c F H σ ρ->rR K c σ ρ F H p v->rR K c σ ρ F H q u->f p q=some pv->
 (∀z F' H',Rel K c F' H' σ ρ->Same F F'->Same H H'->Rep K F' pv z->Q z H')->r v u H Q
def OpO(K:KK)(r:R2)(f:PV->PV->Option RV):Prop:=∀{c:Ctx} {F H:Hp} {σ:L2.St} {ρ:Ş} {p q:PV} {pv:RV} {v u:V} {Q:VK},Rel K c F H σ ρ->rR K c σ ρ F H p v->rR K c σ ρ F H q u->f p q=some pv->
 (∀z F' H',Rel K c F' H' σ ρ->Same F F'->Same H H'->rO K c σ ρ F' H' pv z->Q z H')->r v u H Q
def Hg{r:R2}{f:PV->PV->Option PV}(hf:lY (kk X cm) r f){σ:L2.St}{H:Hp}{Q:VK}(h:tV (kk X cm) E (ć f ma mb) σ H Q):tOp r (tR (kk X cm) E ma) (tR (kk X cm) E mb) σ H Q:=by
 obtain⟨c,F,ρ,rel,h⟩:=h
 refine⟨c,F,ρ,rel,h.bind λp ρ1 v F1 H1 Ġ _ _ r1 h1=>⟨c,F1,ρ1,Ġ,h1.bind λq ρ2 u F2 H2 ő sF sH r2 h2=>?_⟩⟩
 cases e:f p q with
 |none=>rw[e] at h2;exact h2.elim
 |some pv=>rw[e] at h2;exact hf ő (r1.mono sF sH) r2 e λz F' H' eE s1 s2 q'=>h2 z F' H' eE s1 s2 q'
def ZdY{r:R2}{f:PV->PV->Option RV}(hf:OpO (kk X cm) r f){σ:L2.St}{H:Hp}{Q:VK}(h:tO (kk X cm) E (ĺ f ma mb) σ H Q):tOp r (tR (kk X cm) E ma) (tR (kk X cm) E mb) σ H Q:=by
 obtain⟨c,F,ρ,rel,h⟩:=h
 refine⟨c,F,ρ,rel,h.bind λp ρ1 v F1 H1 Ġ _ _ r1 h1=>⟨c,F1,ρ1,Ġ,h1.bind λq ρ2 u F2 H2 ő sF sH r2 h2=>?_⟩⟩
 cases e:f p q with
 |none=>rw[e] at h2;exact h2.elim
 |some pv=>rw[e] at h2;exact hf ő (r1.mono sF sH) r2 e λz F' H' eE s1 s2 q'=>h2 z F' H' eE s1 s2 q'
def ĕ{op:Operator}{r:R2}{f:PV->PV->Option PV}(hf:lY (kk X cm) r f)(ho:bC X (binaryOp op) r)(ha:PE X a (tR (kk X cm) E ma))(hb:PE X b (tR (kk X cm) E mb)):PE X (.BinOp a op b pos) (tV (kk X cm) E (ć f ma mb)):=PE.wk (Uc ho ha hb) λ_ _ _ h=>Hg hf h
def ņ{op:Operator}{r:R2}{f:PV->PV->Option RV}(hf:OpO (kk X cm) r f)(ho:bC X (binaryOp op) r)(ha:PE X a (tR (kk X cm) E ma))(hb:PE X b (tR (kk X cm) E mb)):PE X (.BinOp a op b pos) (tO (kk X cm) E (ĺ f ma mb)):=PE.wk (Uc ho ha hb) λ_ _ _ h=>ZdY hf h
def fG{op:CmpOp}{r:R2}{f:PV->PV->Option PV}(hf:lY (kk X cm) r f)(ho:bC X (compareOp op) r)(ha:PE X a (tR (kk X cm) E ma))(hb:PE X b (tR (kk X cm) E mb))(hm:behindInMarks op b=false):PE X (.Compare a [op] [b] pos) (tV (kk X cm) E (ć f ma mb)):=
 PE.wk (QW ho ha hb hm) λ_ _ _ h=>Hg hf h
def Ğ{r:R2}{f:PV->PV->Option PV}(hf:lY (kk X cm) r f)(hr:CJ X r)(ha:PE X a (tR (kk X cm) E ma))(hb:PE X b (tR (kk X cm) E mb))(hs:GC b):PE X (.Subscript a b pos) (tV (kk X cm) E (ć f ma mb)):=
 PE.wk (ZdH hr ha hb hs) λ_ _ _ h=>Hg hf h
def jL(f:PV->Option PV)(ma:M PV):M PV:=λρ=>(ma ρ).bind λp ρ1=>Res.qX (f p) ρ1
def UnV(K:KK)(r:V->Hp->VK->Prop)(f:PV->Option PV):Prop:=∀{c:Ctx} {F H:Hp} {σ:L2.St} {ρ:Ş} {p pv:PV} {v:V} {Q:VK},Rel K c F H σ ρ->rR K c σ ρ F H p v->f p=some pv->
 (∀z F' H',Rel K c F' H' σ ρ->Same F F'->Same H H'->Rep K F' pv z->Q z H')->r v H Q
def uG{op:UnaryOp}{r:V->Hp->VK->Prop}{f:PV->Option PV}(hf:UnV (kk X cm) r f)(ho:QM X (unaryOp op) r)(ha:PE X a (tR (kk X cm) E ma)):PE X (.UnaryOp op a pos) (tV (kk X cm) E (jL f ma)):=PE.wk (ZdB ho ha) λσ H Q ⟨c,F,ρ,rel,h⟩=>
 ⟨c,F,ρ,rel,h.bind fun p ρ1 v F1 H1 Ġ _ _ r1 h1=>by
   cases e:f p with
   |none=>rw[e] at h1;exact h1.elim
   |some pv=>rw[e] at h1;exact hf Ġ r1 e λz F' H' eE s1 s2 q'=>h1 z F' H' eE s1 s2 q'⟩
def tru:PV->Option Bool
 | .bl b=>some b
 | .int i=>some (i != 0)
 | .non=>some false
 | .str y=>if y.length<=sizeLine then some ((y.length:Int) != 0) else none
 | .lst ps=>some (!ps.isEmpty)
 | .tup ps=>some (!ps.isEmpty)
 |_=>none
def iw(m:M PV):M Bool:=λρ=>(m ρ).bind λp ρ1=>Res.qX (tru p) ρ1
def ZdZ{K:KK}{c:Ctx}{F H:Hp}{σ:L2.St}{ρ:Ş}{p:PV}{v:V}{k:Bool}(s:Same F H)(r:rR K c σ ρ F H p v)(h:tru p=some k):Zbd K.K v H k:=by
 cases p with
 |bl b=>cases r.bl;cases h;rfl
 |int i=>cases r.int;cases h;rfl
 |non=>cases r.non;cases h;rfl
 |str y=>
  cases r.str
  have h':(if y.length<=sizeLine then some ((y.length:Int) != 0) else none)=some k:=h
  split at h'
  ·rename_i hy;cases h';exact⟨hy,rfl⟩
  ·cases h'
 |lst ps=>
  obtain⟨a,vs,rfl,h1,h2⟩:=r.lst s
  cases h
  have e:ps.isEmpty=vs.isEmpty:=by cases h2.pr<;>rfl
  exact .inl ⟨vs,h1,by rw[e]⟩
 |tup ps=>
  obtain⟨a,vs,rfl,h1,h2⟩:=r.tup s
  cases h
  have e:ps.isEmpty=vs.isEmpty:=by cases h2.pr<;>rfl
  exact .inr (.inl ⟨vs,h1,by rw[e]⟩)
 |ins C ns ps=>cases h
 |xc C ns ps=>cases h
 |ty n=>cases h
 |cls C=>cases h
def dg(ha:PE X a (tR (kk X cm) E ma))(he:∀whole,isTrue a X.env whole=(do let v <-whole;standAt a.pos;holding [v] (truthy v)):=by intro _;rfl):PT X a (tB (kk X cm) E (iw ma)):=PT.wk (Kl ha he) λσ H Q ⟨c,F,ρ,rel,h⟩=>
 ⟨c,F,ρ,rel,h.bind fun p ρ1 v F1 H1 Ġ _ _ r1 h1=>by
   cases e:tru p with
   |none=>rw[e] at h1;exact h1.elim
   |some k=>rw[e] at h1;exact⟨k,ZdZ Ġ.sub r1 e,h1 k F1 H1 Ġ (Same.refl _) (Same.refl _) rfl⟩⟩
def dh(m:M PV):M Bool:=λρ=>(m ρ).bind λp ρ1=>match p with
 | .bl b=>.ok b ρ1
 |_=>.bad
def Ui{σ:L2.St}{H:Hp}{Q:Bool->Hp->Prop}(h:tB (kk X cm) E (dh m) σ H Q):M2.Kz (tV (kk X cm) E m) σ H Q:=by
 obtain⟨c,F,ρ,rel,h⟩:=h
 refine⟨c,F,ρ,rel,h.bind λp ρ1 v F1 H1 Ġ _ _ r1 h1=>?_⟩
 cases p with
 |bl b=>
  have e:v=.bl b:=by have r1':Rep (kk X cm) F1 (.bl b) v:=r1;unfold Rep at r1';exact r1'
  subst e
  exact h1 b F1 H1 Ġ (Same.refl _) (Same.refl _) rfl
 |_=>exact h1.elim
def œ{op:CmpOp}{r:R2}{f:PV->PV->Option PV}(hf:lY (kk X cm) r f)(ho:bC X (compareOp op) r)(ha:PE X a (tR (kk X cm) E ma))(hb:PE X b (tR (kk X cm) E mb))(hm:behindInMarks op b=false):PT X (.Compare a [op] [b] pos) (tB (kk X cm) E (dh (ć f ma mb))):=
 PT.wk (Zbr ho ha hb hm) fun σ H Q h=>by
   obtain⟨c,F,ρ,rel,h⟩:=Ui h
   exact Hg hf ⟨c,F,ρ,rel,h⟩
def qC(f g:PV->PV->Option PV)(ma mb mc:M PV):M PV:=λρ=>(ma ρ).bind λp ρ1=>(mb ρ1).bind λq ρ2=>(Res.qX (f p q) ρ2).bind λz ρ3=>match z with
 | .bl true=>(mc ρ3).bind λw ρ4=>Res.qX (g q w) ρ4
 | .bl false=>.ok (.bl false) ρ3
 |_=>.bad
def Uj{r r':R2}{f g:PV->PV->Option PV}(hf:lY (kk X cm) r f)(hg:lY (kk X cm) r' g){σ:L2.St}{H:Hp}{Q:VK}(h:tV (kk X cm) E (qC f g ma mb mc) σ H Q):M2.CN r r' (tR (kk X cm) E ma) (tR (kk X cm) E mb) (tR (kk X cm) E mc) σ H Q:=by
 obtain⟨c,F,ρ,rel,h⟩:=h
 refine⟨c,F,ρ,rel,h.bind λp ρ1 v F1 H1 Ġ _ _ r1 h1=>⟨c,F1,ρ1,Ġ,h1.bind λq ρ2 u F2 H2 ő sF sH r2 h2=>?_⟩⟩
 cases e:f p q with
 |none=>rw[e] at h2;exact h2.elim
 |some pv=>
  rw[e] at h2
  refine hf ő (r1.mono sF sH) r2 e λz F' H' eE s1 s2 q'=>?_
  cases pv with
  |bl k=>
   have ez:z=.bl k:=by unfold Rep at q';exact q'
   subst ez
   cases k with
   |false=>exact h2 _ F' H' eE s1 s2 q'
   |true=>
    refine⟨c,F',ρ2,eE,cY.bind (cY.mono h2 s1 s2) λw ρ4 x F4 H4 zX s3 s4 r4 h4=>?_⟩
    cases e':g q w with
    |none=>rw[e'] at h4;exact h4.elim
    |some pv'=>rw[e'] at h4;exact hg zX (r2.mono (s1.trans s3) (s2.trans s4)) r4 e' λz F' H' eE s1 s2 q'=>h4 z F' H' eE s1 s2 q'
  |_=>exact h2.elim
def vf{op op':CmpOp}{r r':R2}{f g:PV->PV->Option PV}{c:Expr}(hf:lY (kk X cm) r f)(hg:lY (kk X cm) r' g)(ho:bC X (compareOp op) r)(ho':bC X (compareOp op') r')(ha:PE X a (tR (kk X cm) E ma))(hb:PE X b (tR (kk X cm) E mb))(hc:PE X c (tR (kk X cm) E mc))
 (hm:lastMarks [op,op'] [b,c]=false:=by with_unfolding_all rfl):PE X (.Compare a [op,op'] [b,c] pos) (tV (kk X cm) E (qC f g ma mb mc)):=PE.wk (KC ho ho' ha hb hc hm) λ_ _ _ h=>Uj hf hg h
def Uk{op op':CmpOp}{r r':R2}{f g:PV->PV->Option PV}{c:Expr}(hf:lY (kk X cm) r f)(hg:lY (kk X cm) r' g)(ho:bC X (compareOp op) r)(ho':bC X (compareOp op') r')(ha:PE X a (tR (kk X cm) E ma))(hb:PE X b (tR (kk X cm) E mb))(hc:PE X c (tR (kk X cm) E mc))
 (hm:lastMarks [op,op'] [b,c]=false:=by with_unfolding_all rfl):PT X (.Compare a [op,op'] [b,c] pos) (tB (kk X cm) E (dh (qC f g ma mb mc))):=PT.wk (KD ho ho' ha hb hc hm) λσ H Q h=>by
 obtain⟨c,F,ρ,rel,h⟩:=Ui h
 exact Uj hf hg ⟨c,F,ρ,rel,h⟩
def lZ(m:M Bool):M Bool:=λρ=>(m ρ).bind λb ρ1=>.ok (!b) ρ1
def pP{m:M Bool}(h:PT X a (tB (kk X cm) E m)):PT X (.UnaryOp .Not a pos) (tB (kk X cm) E (lZ m)):=PT.wk (ZaW h) λσ H Q ⟨c,F,ρ,rel,h⟩=>
 ⟨c,F,ρ,rel,h.bind λp ρ1 v F1 H1 Ġ _ _ r1 h1=>h1 _ F1 H1 Ġ (Same.refl _) (Same.refl _) (by have e:p=v:=r1;rw[e];rfl)⟩
def mj(ma mb:M Bool):M Bool:=λρ=>(ma ρ).bind λb ρ1=>if b=true then mb ρ1 else .ok false ρ1
def qD(ma mb:M Bool):M Bool:=λρ=>(ma ρ).bind λb ρ1=>if b=true then .ok true ρ1 else mb ρ1
variable{ta tb:M Bool}{rest:List Expr}
def jY(h:PT X a (tB (kk X cm) E ta)):PW X (.BoolOp .And [a] pos) (tB (kk X cm) E ta):=QG h
def vg(h:PT X a (tB (kk X cm) E ta)):PW X (.BoolOp .Or [a] pos) (tB (kk X cm) E ta):=ZaU h
def w_and(ha:PT X a (tB (kk X cm) E ta))(hb:PW X (.BoolOp .And (b::rest) pos) (tB (kk X cm) E tb)):PW X (.BoolOp .And (a::b::rest) pos) (tB (kk X cm) E (mj ta tb)):=PW.wk (ZaV ha hb) λσ H Q ⟨c,F,ρ,rel,h⟩=>
 ⟨c,F,ρ,rel,h.bind fun p ρ1 v F1 H1 Ġ _ _ r1 h1=>by
   have e:p=v:=r1
   subst e
   cases p with
   |true=>exact⟨c,F1,ρ1,Ġ,h1⟩
   |false=>exact h1 false F1 H1 Ġ (Same.refl _) (Same.refl _) rfl⟩
def w_or(ha:PT X a (tB (kk X cm) E ta))(hb:PW X (.BoolOp .Or (b::rest) pos) (tB (kk X cm) E tb)):PW X (.BoolOp .Or (a::b::rest) pos) (tB (kk X cm) E (qD ta tb)):=PW.wk (Zdu ha hb) λσ H Q ⟨c,F,ρ,rel,h⟩=>
 ⟨c,F,ρ,rel,h.bind fun p ρ1 v F1 H1 Ġ _ _ r1 h1=>by
   have e:p=v:=r1
   subst e
   cases p with
   |false=>exact⟨c,F1,ρ1,Ġ,h1⟩
   |true=>exact h1 true F1 H1 Ġ (Same.refl _) (Same.refl _) rfl⟩
def jg(ma mb:M PV):M PV:=λρ=>(ma ρ).bind λp ρ1=>match p with
 | .bl true=>mb ρ1
 | .bl false=>.ok (.bl false) ρ1
 |_=>.bad
def CZ{K:KK}{F:Hp}{b:Bool}{v:V}(h:Rep K F (.bl b) v):v=.bl b:=by unfold Rep at h;exact h
def mq{op}(h:PE X a (tV (kk X cm) E ma)):PE X (.BoolOp op [a] pos) (tV (kk X cm) E ma):=ZaX h
def v_and(ha:PE X a (tV (kk X cm) E ma))(hb:PE X (.BoolOp .And (b::rest) pos) (tV (kk X cm) E mb)):PE X (.BoolOp .And (a::b::rest) pos) (tV (kk X cm) E (jg ma mb)):=PE.wk (Zbs ha hb) λσ H Q ⟨c,F,ρ,rel,h⟩=>
 ⟨c,F,ρ,rel,h.bind fun p ρ1 v F1 H1 Ġ _ _ r1 h1=>by
   cases p with
   |bl k=>
    cases CZ r1
    cases k with
    |true=>exact⟨c,F1,ρ1,Ġ,h1⟩
    |false=>exact h1 _ F1 H1 Ġ (Same.refl _) (Same.refl _) r1
   |_=>exact h1.elim⟩
def gq{α:Type}(t:M Bool)(ma mb:M α):M α:= λρ=>(t ρ).bind λb ρ1=>if b=true then ma ρ1 else mb ρ1
def ĝ:M (List PV):=λρ=>.ok [] ρ
def Ĉ(ma:M PV)(mr:M (List PV)):M (List PV):=λρ=>(ma ρ).bind λp ρ1=>(mr ρ1).bind λps ρ2=>.ok (p::ps) ρ2
variable{mr:M (List PV)}
def ĥ:PA X [] (tL (kk X cm) E ĝ):=PA.wk mQ λσ H Q ⟨c,F,ρ,rel,h⟩=>h [] F H rel (Same.refl _) (Same.refl _) Ħ.nil
def ĉ(ha:PE X e (tV (kk X cm) E ma))(hr:PA X es (tL (kk X cm) E mr))(hs:starEach (e::es) X.env=(false,eval e X.env)::starEach es X.env:=by exact ĸ rfl):PA X (e::es) (tL (kk X cm) E (Ĉ ma mr)):=PA.wk (fH ha hr hs) λσ H Q ⟨c,F,ρ,rel,h⟩=>
 ⟨c,F,ρ,rel,h.bind λp ρ1 v F1 H1 Ġ _ _ r1 h1=>⟨c,F1,ρ1,Ġ,h1.bind λps ρ2 vs F2 H2 ő sF sH r2 h2=>h2 _ F2 H2 ő (Same.refl _) (Same.refl _) (Ħ.cons (Rep.same sF p v r1) r2)⟩⟩
def Ĭ:PA X [] (tRL (kk X cm) E ĝ):=PA.wk mQ λσ H Q ⟨c,F,ρ,rel,h⟩=>h [] F H rel (Same.refl _) (Same.refl _) .nil
def ğ(ha:PE X e (tR (kk X cm) E ma))(hr:PA X es (tRL (kk X cm) E mr))(hs:starEach (e::es) X.env=(false,eval e X.env)::starEach es X.env:=by exact ĸ rfl):PA X (e::es) (tRL (kk X cm) E (Ĉ ma mr)):=PA.wk (fH ha hr hs) λσ H Q ⟨c,F,ρ,rel,h⟩=>
 ⟨c,F,ρ,rel,h.bind λp ρ1 v F1 H1 Ġ _ _ r1 h1=>⟨c,F1,ρ1,Ġ,h1.bind λps ρ2 vs F2 H2 ő sF sH r2 h2=>h2 _ F2 H2 ő (Same.refl _) (Same.refl _) (.cons (rR.mono r1 sF sH) r2)⟩⟩
def Ď:M (List Slot):=λρ=>.ok [] ρ
def Ĕ(ma:M PV)(mr:M (List Slot)):M (List Slot):=λρ=>(ma ρ).bind λp ρ1=>(mr ρ1).bind λas ρ2=>.ok (.sh p::as) ρ2
def iQ:Slot->Option Slot
 | .sh p=>some (.sh p)
 | .ow ps=>some (.bw ps)
 | .bw ps=>some (.bw ps)
 |_=>none
def Ą(i:Nat)(mr:M (List Slot)):M (List Slot):=λρ=>match(ρ[i]?).bind iQ with
 |none=>.bad
 |some _=>(mr ρ).bind λas ρ2=>match(ρ2[i]?).bind iQ with
  |some s=>.ok (s::as) ρ2
  |none=>.bad
variable{ms:M (List Slot)}
def č:PA X [] (tA (kk X cm) E Ď):=PA.wk mQ λσ H Q ⟨c,F,ρ,rel,h⟩=>h [] F H rel (Same.refl _) (Same.refl _) .nil
def ė(ha:PE X e (tV (kk X cm) E ma))(hr:PA X es (tA (kk X cm) E ms))(hs:starEach (e::es) X.env=(false,eval e X.env)::starEach es X.env:=by exact ĸ rfl):PA X (e::es) (tA (kk X cm) E (Ĕ ma ms)):=PA.wk (fH ha hr hs) λσ H Q ⟨c,F,ρ,rel,h⟩=>
 ⟨c,F,ρ,rel,h.bind λp ρ1 v F1 H1 Ġ _ _ r1 h1=>⟨c,F1,ρ1,Ġ,h1.bind λas ρ2 vs F2 H2 ő sF sH r2 h2=>h2 _ F2 H2 ő (Same.refl _) (Same.refl _) (.cons (show gj _ _ _ (.sh p) v from Rep.same sF p v r1) r2)⟩⟩
def Hh{K:KK}{c:Ctx}{F H:Hp}{σ:L2.St}{ρ:Ş}{i:Nat}{s:Slot}(rel:Rel K c F H σ ρ)(h:(ρ[i]?).bind iQ=some s):∃v,σ[i]?=some (some v)/\gj K F H s v:=by
 cases e:ρ[i]? with
 |none=>rw[e] at h;cases h
 |some sl=>
  rw[e] at h
  have h':iQ sl=some s:=h
  cases sl with
  |sh p=>
   cases h'
   obtain⟨v,h1,h2⟩:=rel.slot i _ e
   exact⟨v,at_of h1,h2⟩
  |ow ps=>
   cases h'
   obtain⟨a,vs,h1,h2,h3,h4,h5,_⟩:=rel.ow e
   exact⟨.ref a,h1,a,vs,rfl,h2,h3,h5⟩
  |bw ps=>
   cases h'
   obtain⟨a,vs,h1,h2,h3⟩:=rel.slot i _ e
   exact⟨.ref a,at_of h1,a,vs,rfl,(rel.lent a _ h2).1,(rel.lent a _ h2).2,h3⟩
  |no=>cases h'
  |rc C ns ps=>cases h'
  |ot ps qs=>cases h'
  |ol GX=>cases h'
def Ć(i:Nat){x:Str}{px:Pos}(hN:X.N[i]?=some x:=by rfl)(hv:Gs X.env.scope x:=by first|exact Or.inl rfl|exact Or.inr (Or.inl rfl)|exact Or.inr (Or.inr rfl))(hd:(x== ("__debug__" :Str))=false:=by decide)
 (hcd:(x== ("__classdict__" :Str))=false:=by decide)(hr:PA X es (tA (kk X cm) E ms))(hs:starEach (.Name x px::es) X.env=(false,eval (.Name x px) X.env)::starEach es X.env:=by exact ĸ rfl):PA X (.Name x px::es) (tA (kk X cm) E (Ą i ms)):=
 PA.wk (fH (i_ hN hv hd hcd) hr hs) fun σ H Q ⟨c,F,ρ,rel,h⟩=>by
   unfold Ą at h
   cases e:(ρ[i]?).bind iQ with
   |none=>rw[e] at h;exact h.elim
   |some s0=>
    rw[e] at h
    obtain⟨v,hv,_⟩:=Hh rel e
    refine⟨v,hv,c,F,ρ,rel,cY.bind h λas ρ2 vs F2 H2 ő sF sH r2 h2=>?_⟩
    cases e2:(ρ2[i]?).bind iQ with
    |none=>simp only[e2] at h2;exact h2.elim
    |some s=>
     simp only[e2] at h2
     obtain⟨v',hv',r1⟩:=Hh ő e2
     rw[hv] at hv'
     cases hv'
     exact h2 _ F2 H2 ő (Same.refl _) (Same.refl _) (.cons r1 r2)
def Ŧ(mr:M (List PV)):M PV:=λρ=>(mr ρ).bind λps ρ1=>if ps.length<=16777216 then .ok (.tup ps) ρ1 else .bad
def bV(mr:M (List PV)):M RV:=λρ=>(mr ρ).bind λps ρ1=>if ps.length<=16777216 then .ok (.ow ps) ρ1 else .bad
def Ś:sizeLine=16777216:=sizeLine_eq
def ŕ{x1}(h:PA X es (tL (kk X cm) E mr)):PE X (.Tuple es x1 pos) (tV (kk X cm) E (Ŧ mr)):=PE.wk (Zbh h) λσ H Q ⟨c,F,ρ,rel,h⟩=>
 ⟨c,F,ρ,rel,h.bind fun ps ρ1 vs F1 H1 Ġ _ _ r1 h1=>by
   split at h1
   ·rename_i hz
    refine⟨by rw[<-Ħ.length r1,Ś];exact hz,λp hp=>h1 _ _ _ (Ġ.alloc hp) (Same.upd (Ġ.sub.free hp)) (Same.upd hp) ?_⟩
    show Rep _ _ _ _
    unfold Rep
    exact⟨p,vs,rfl,iH.of ĭ,Ħ.same (Same.upd (Ġ.sub.free hp)) ps vs r1⟩
   ·exact h1.elim⟩
def jZ{K:KK}{c:Ctx}{F H:Hp}{σ:L2.St}{ρ:Ş}{ps:List PV}{vs:List V}{a:Addr}(rel:Rel K c F H σ ρ)(ha:H a=none)(r:Ħ K F ps vs):Rel K c F (upd H a (.lst vs)) σ ρ/\Held K c σ ρ F (upd H a (.lst vs)) ps (.ref a):=
 ⟨rel.made ha,a,vs,rfl,ĭ,rel.sub.free ha,rel.base.free ha,rel.fresh ha,r⟩
def aq(h:PA X es (tL (kk X cm) E mr)):PE X (.List es pos) (tO (kk X cm) E (bV mr)):=PE.wk (Zbi h) λσ H Q ⟨c,F,ρ,rel,h⟩=>
 ⟨c,F,ρ,rel,h.bind fun ps ρ1 vs F1 H1 Ġ _ _ r1 h1=>by
   split at h1
   ·rename_i hz
    refine⟨by rw[<-Ħ.length r1,Ś];exact hz,λp hp=>?_⟩
    obtain⟨q1,q2⟩:=jZ Ġ hp r1
    exact h1 _ _ _ q1 (Same.refl _) (Same.upd hp) q2
   ·exact h1.elim⟩
def eY(f:List PV->Option PV)(mr:M (List PV)):M PV:=λρ=>(mr ρ).bind λps ρ1=>Res.qX (f ps) ρ1
def qF(f:List PV->Option RV)(mr:M (List PV)):M RV:=λρ=>(mr ρ).bind λps ρ1=>Res.qX (f ps) ρ1
def iR(K:KK)(r:List V->Hp->VK->Prop)(f:List PV->Option PV):Prop:=∀{c:Ctx} {F H:Hp} {σ:L2.St} {ρ:Ş} {ps:List PV} {pv:PV} {vs:List V} {Q:VK},Rel K c F H σ ρ->rRL K c σ ρ F H ps vs->f ps=some pv->
 (∀z F' H',Rel K c F' H' σ ρ->Same F F'->Same H H'->Rep K F' pv z->Q z H')->r vs H Q
def Ul(K:KK)(r:List V->Hp->VK->Prop)(f:List PV->Option RV):Prop:=∀{c:Ctx} {F H:Hp} {σ:L2.St} {ρ:Ş} {ps:List PV} {pv:RV} {vs:List V} {Q:VK},Rel K c F H σ ρ->rRL K c σ ρ F H ps vs->f ps=some pv->
 (∀z F' H',Rel K c F' H' σ ρ->Same F F'->Same H H'->rO K c σ ρ F' H' pv z->Q z H')->r vs H Q
def ů{r:List V->Hp->VK->Prop}{f:List PV->Option PV}(hf:iR (kk X cm) r f){σ:L2.St}{H:Hp}{Q:VK}(h:tV (kk X cm) E (eY f mr) σ H Q):tCB r (tRL (kk X cm) E mr) σ H Q:=by
 obtain⟨c,F,ρ,rel,h⟩:=h
 refine⟨c,F,ρ,rel,h.bind λp ρ1 v F1 H1 Ġ _ _ r1 h1=>?_⟩
 cases e:f p with
 |none=>rw[e] at h1;exact h1.elim
 |some pv=>rw[e] at h1;exact hf Ġ r1 e λz F' H' eE s1 s2 q'=>h1 z F' H' eE s1 s2 q'
def wQ{r:List V->Hp->VK->Prop}{f:List PV->Option RV}(hf:Ul (kk X cm) r f){σ:L2.St}{H:Hp}{Q:VK}(h:tO (kk X cm) E (qF f mr) σ H Q):tCB r (tRL (kk X cm) E mr) σ H Q:=by
 obtain⟨c,F,ρ,rel,h⟩:=h
 refine⟨c,F,ρ,rel,h.bind λp ρ1 v F1 H1 Ġ _ _ r1 h1=>?_⟩
 cases e:f p with
 |none=>rw[e] at h1;exact h1.elim
 |some pv=>rw[e] at h1;exact hf Ġ r1 e λz F' H' eE s1 s2 q'=>h1 z F' H' eE s1 s2 q'
end
end P
namespace P
open PySem PySem.Spec PyProof.Rows L2 M2 M3
def gH:M Fl:=λρ=>.ok .nx ρ
def ģ(a b:M Fl):M Fl:=λρ=>(a ρ).bind λf ρ1=>match f with
 | .nx=>b ρ1
 |f=>.ok f ρ1
def ķ(i:Nat)(m:M RV):M Fl:=λρ=>(m ρ).bind λr ρ1=>.ok .nx (ρ1.set i r.slot)
def į(m:M RV):M Fl:=λρ=>(m ρ).bind λr ρ1=>.ok (.rt r) ρ1
def zY(m:M PV):M Fl:=λρ=>(m ρ).bind λ_ ρ1=>.ok .nx ρ1
section
variable{X:Cx}{cm:String->Addr}{E:L2.St->XK}{a b e:Expr}{st:Stmt}{rest:List Stmt}{es:List Expr}{pos:Pos}{m1 m2:M Fl}{mo:M RV}{mv:M PV}
def Ń:mL X [] (tS (kk X cm) E gH):=mL.wk Gv λD σ H ⟨c,F,ρ,rel,h⟩=>h σ F H rel (Same.refl F)
def Č(h:PS X st (tS (kk X cm) E m1)):mL X [st] (tS (kk X cm) E m1):=QH h
def RD{c:Ctx}{F:Hp}{D:Ends}{r:Res Fl}(h:aB (kk X cm) E c F D (r.bind λf ρ1=>match f with| .nx=>m2 ρ1|f=>.ok f ρ1)):aB (kk X cm) E c F {D with nx:=tS (kk X cm) E m2 D} r:=by
 cases r with
 |ok f ρ1=>
  cases f with
  |nx=>exact λσ' F' H' eE s=>⟨c,F',ρ1,eE,aB.mono h s⟩
  |bk=>exact h
  |ct=>exact h
  |rt v=>exact h
 |exc x ρ1=>exact h
 |bad=>exact h
def ċ(h1:PS X st (tS (kk X cm) E m1))(h2:mL X rest (tS (kk X cm) E m2)):mL X (st::rest) (tS (kk X cm) E (ģ m1 m2)):=mL.wk (zO h1 h2) λD σ H ⟨c,F,ρ,rel,h⟩=>⟨c,F,ρ,rel,RD h⟩
def ī{i:Nat}{x:Str}{pos':Pos}(hN:X.N.Nodup)(hi:X.N[i]?=some x)(hx:Loc X.env.scope x)(he:PE X e (tO (kk X cm) E mo))(hs:swapsWith e (some (.Name x pos')) pos.line X.env=pure false:=by rfl)(hf:X.fn x=true\/X.env.scope.names.lookup x=some .local:=by first|exact .inl rfl|exact .inr rfl|assumption) :
 PS X (.Assign [.Name x pos'] e pos) (tS (kk X cm) E (ķ i mo)):=PS.wk (Za1 hN hi hx he hs hf) λD σ H ⟨c,F,ρ,rel,h⟩=>⟨c,F,ρ,rel,aB.bind h λr ρ1 v F1 H1 Ġ s1 q h1=>by
 cases r with
 |sh p=>exact h1 _ F1 H1 (Ġ.put rfl ⟨v,rfl,q⟩) (Same.refl _)
 |ow ps=>
  obtain⟨a,vs,rfl,q1,q2,q3,q4,q5⟩:=q
  exact h1 _ F1 H1 (Ġ.Ry ⟨a,vs,rfl,q1,q2,q3,q5⟩ λ_ z=>V.ref.inj z▸q4) (Same.refl _)
 |ot ps qs=>
  obtain⟨p,a,xs,vs,rfl,q0,qx,q1,q2,q3,q4,q5⟩:=q
  exact h1 _ F1 H1 (Ġ.Ry (s:=.ot ps qs) ⟨p,a,xs,vs,rfl,q0,qx,q1,q2,q3,q5⟩ λ_ z=>qW (ps:=ps) (qs:=qs) z ⟨p,xs,rfl,q0⟩▸q4) (Same.refl _)⟩
def Ģ(he:PE X e (tO (kk X cm) E mo)):PS X (.Return (some e) pos) (tS (kk X cm) E (į mo)):=PS.wk (ZaY he) λD σ H ⟨c,F,ρ,rel,h⟩=>⟨c,F,ρ,rel,aB.bind h λr ρ1 v F1 H1 Ġ s1 q h1=>h1 v σ F1 H1 Ġ (Same.refl _) q⟩
def C_(he:PE X e (tV (kk X cm) E mv))(hs:swapsWith e none pos.line X.env=pure false:=by rfl):PS X (.Expr e pos) (tS (kk X cm) E (zY mv)):=PS.wk (dH he hs) λD σ H ⟨c,F,ρ,rel,h⟩=>⟨c,F,ρ,rel,aB.bind h λr ρ1 v F1 H1 Ġ s1 q h1=>h1 σ F1 H1 Ġ (Same.refl _)⟩
def Ÿ{t:M Bool}{ss ss':List Stmt}(hc:PT X a (tB (kk X cm) E t))(ha:mL X ss (tS (kk X cm) E m1))(hb:mL X ss' (tS (kk X cm) E m2)):PS X (.If a ss ss' pos) (tS (kk X cm) E (gq t m1 m2)):=PS.wk (Zdw hc ha hb) λD σ H ⟨c,F,ρ,rel,h⟩=>⟨c,F,ρ,rel,aB.bind h λr ρ1 v F1 H1 Ġ s1 q h1=>by
 have e:r=v:=q
 subst e
 cases r with
 |true=>exact⟨c,F1,ρ1,Ġ,h1⟩
 |false=>exact⟨c,F1,ρ1,Ġ,h1⟩⟩
abbrev Tg:=PV->Ş->Option Ş
abbrev JT:=List PV->Ş->Option Ş
def Zd0(K:KK)(c:Ctx)(F H:Hp)(Q:L2.St->Hp->Prop):Option Ş->Prop
 |some ρ'=>∀σ',Rel K c F H σ' ρ'->Q σ' H
 |none=>False
def tT(K:KK)(g:Tg):TG:=λv σ H Q=>∃c F ρ p,Rel K c F H σ ρ/\Rep K F p v/\Zd0 K c F H Q (g p ρ)
def tTs(K:KK)(g:JT):Ka:=λv σ H Q=>∃c F ρ p,Rel K c F H σ ρ/\Ħ K F p v/\Zd0 K c F H Q (g p ρ)
def gN(i:Nat):Tg:=λp ρ=>some (ρ.set i (.sh p))
def Ř:JT:=λps ρ=>match ps with
 | []=>some ρ
 |_=>none
def ę(g:Tg)(gs:JT):JT:=λps ρ=>match ps with
 |p::ps=>(g p ρ).bind λρ1=>gs ps ρ1
 | []=>none
def gT(n:Nat)(gs:JT):Tg:=λp ρ=>match p with
 | .tup ps=>if ps.length=n then gs ps ρ else none
 |_=>none
def PG.wk'{tg:Expr}{t t':TG}(h:PG X tg t)(i:∀v σ H Q,t' v σ H Q->t v σ H Q):PG X tg t':=λpins s σ H v u Q I r q=>h pins s σ H v u Q I r (i v σ H Q q)
def Cg.wk{tg:List Expr}{t t':Ka}(h:Cg X tg t)(i:∀v σ H Q,t' v σ H Q->t v σ H Q):Cg X tg t':=λpins s σ H v u Q I r q=>h pins s σ H v u Q I r (i v σ H Q q)
def Ĝ{i:Nat}{x:Str}(hN:X.N.Nodup)(hi:X.N[i]?=some x)(hx:Loc X.env.scope x)(hf:X.fn x=true\/X.env.scope.names.lookup x=some .local:=by first|exact .inl rfl|exact .inr rfl|assumption):PG X (.Name x pos) (tT (kk X cm) (gN i)):=
 PG.wk' (QJ hN hi hx hf) λv σ H Q ⟨c,F,ρ,p,rel,rp,h⟩=>h _ (rel.put rfl ⟨v,rfl,rp⟩)
def bG:Cg X [] (tTs (kk X cm) Ř):=Cg.wk QK λv σ H Q ⟨c,F,ρ,p,rel,rp,h⟩=>by
 cases p with
 |nil=>
  have e:v=[]:=by have:=rp;unfold Ħ at this;exact this
  exact⟨e,h σ rel⟩
 |cons _ _=>exact h.elim
def Ĵ{es:List Expr}{g:Tg}{gs:JT}(h1:PG X e (tT (kk X cm) g))(h2:Cg X es (tTs (kk X cm) gs))(hs:(assignEach (e::es) X.env).map (·.2)=assign e X.env::(assignEach es X.env).map (·.2):=by rfl):Cg X (e::es) (tTs (kk X cm) (ę g gs)):=
 Cg.wk (Kc h1 h2 hs) λv σ H Q ⟨c,F,ρ,p,rel,rp,h⟩=>by
  cases p with
  |nil=>exact h.elim
  |cons p ps=>
   unfold Ħ at rp
   obtain⟨x,r,rfl,r1,r2⟩:=rp
   refine⟨x,r,rfl,c,F,ρ,p,rel,r1,?_⟩
   unfold ę at h
   dsimp only at h
   cases eg:g p ρ with
   |none=>rw[eg] at h;exact h.elim
   |some ρ1=>rw[eg] at h;exact λσ' eE=>⟨c,F,ρ1,ps,eE,r2,h⟩
def iU{es:List Expr}{k:Nat}{gs:JT}{n:Nat}(hc:X.calm=true)(h:Cg X es (tTs (kk X cm) gs))(hn:(assignEach es X.env).length=n:=by rfl)(hst:(assignEach es X.env).findIdx? (·.1)=none:=by rfl):PG X (.Tuple es k pos) (tT (kk X cm) (gT n gs)):=
 PG.wk' (Kd hc h hn hst) fun v σ H Q ⟨c,F,ρ,p,rel,rp,h⟩=>by
   cases p with
   |tup ps=>
    unfold Rep at rp
    obtain⟨a,xs,h1,h2,h3⟩:=rp
    unfold gT at h
    dsimp only at h
    split at h
    ·rename_i hl
     exact⟨a,xs,h1,Same.tup rel.sub h2,by rw[<-h3.length];exact hl,c,F,ρ,ps,rel,h3,h⟩
    ·exact h.elim
   |_=>exact h.elim
def Jo(g:Tg)(m:M PV):M Fl:=λρ=>(m ρ).bind λp ρ1=>match g p ρ1 with
 |some ρ2=>.ok .nx ρ2
 |none=>.bad
def Hi{tg:Expr}{g:Tg}(he:PE X e (tV (kk X cm) E mv))(hg:PG X tg (tT (kk X cm) g))(hs:swapsWithSole [tg] e pos.line X.env=pure false:=by rfl)(hw:swappedStores [tg] e X.env=pure none:=by rfl)
 (h1:(assignEach [tg] X.env).map (·.2)=[assign tg X.env]:=by rfl):PS X (.Assign [tg] e pos) (tS (kk X cm) E (Jo g mv)):=PS.wk (Ke he hg hs hw h1) λD σ H ⟨c,F,ρ,rel,h⟩=>⟨c,F,ρ,rel,aB.bind h λr ρ1 v F1 H1 Ġ s1 q h1=>by
 refine⟨c,F1,ρ1,r,Ġ,q,?_⟩
 cases eg:g r ρ1 with
 |none=>rw[eg] at h1;exact h1.elim
 |some ρ2=>rw[eg] at h1;exact λσ' eE=>h1 σ' F1 H1 eE (Same.refl _)⟩
def Dc(i:Nat)(mi:M PV)(m:M PV):M Fl:=λρ=>(m ρ).bind λp ρ1=>match ρ1[i]? with
 |some (.ow _)=>(mi ρ1).bind λq ρ2=>match ρ2[i]?,q with
  |some (.ow ps),.int k=>match CG ps.length k with
   |some j=>.ok .nx (ρ2.set i (.ow (ps.set j p)))
   |none=>.bad
  |_,_=>.bad
 |_=>.bad
def RJ{i:Nat}{x:Str}{ix:Expr}{mi:M PV}{px Dg:Pos}(he:PE X e (tV (kk X cm) E mv))(hi:PE X ix (tV (kk X cm) E mi))(ho:PE X (.Name x px) (wD i))
 (hsub:∀v,assign (.Subscript (.Name x px) ix Dg) X.env v=(do
   let ov <-holding [v] (eval (.Name x px) X.env)
   let iv <-holding [v,ov] (eval ix X.env)
   standAt Dg
   holding [v,ov,iv] (setItem ov iv v)
   release [v,ov,iv] []):=by intro _;rfl)
 (hs:swapsWithSole [.Subscript (.Name x px) ix Dg] e pos.line X.env=pure false:=by rfl)(hw:swappedStores [.Subscript (.Name x px) ix Dg] e X.env=pure none:=by rfl)
 (h1:(assignEach [.Subscript (.Name x px) ix Dg] X.env).map (·.2)=[assign (.Subscript (.Name x px) ix Dg) X.env]:=by rfl) :
 PS X (.Assign [.Subscript (.Name x px) ix Dg] e pos) (tS (kk X cm) E (Dc i mi mv)):=PS.wk (Ke he (Za0 ho hi set_list hsub) hs hw h1) λD σ H ⟨c,F,ρ,rel,h⟩=>⟨c,F,ρ,rel,aB.bind h λp ρ1 v F1 H1 Ġ s1 q h1=>by
 cases e1:ρ1[i]? with
 |none=>rw[e1] at h1;exact h1.elim
 |some sl=>
  rw[e1] at h1
  cases sl with
  |ow ps0=>
   obtain⟨a,vs0,z1,_,_,_,_,_⟩:=Ġ.ow e1
   refine⟨.ref a,z1,c,F1,ρ1,Ġ,aB.bind h1 λq' ρ2 u F2 H2 ő s2 r2 h2=>?_⟩
   cases e2:ρ2[i]? with
   |none=>rw[e2] at h2;exact h2.elim
   |some sl2=>
    rw[e2] at h2
    cases sl2 with
    |ow ps=>
     cases q' with
     |int k=>
      have eu:u=.int k:=by have:Rep (kk X cm) F2 (.int k) u:=r2;unfold Rep at this;exact this
      subst eu
      dsimp only at h2
      obtain⟨a2,vs,w1,w2,w3,w4,w5,w6⟩:=ő.ow e2
      rw[z1] at w1
      cases w1
      cases ej:CG ps.length k with
      |none=>rw[ej] at h2;exact h2.elim
      |some j=>
       rw[ej] at h2
       refine⟨a,vs,k,j,rfl,rfl,w2,by rw[<-w5.length];exact ej,h2 σ F2 _ (ő.write w6 z1 ⟨a,vs.set j v,rfl,ĭ,w3,w4,?_⟩ λ_ z=>(V.ref.inj z).symm) (Same.refl _)⟩
       exact Ħ.of (Lj (Rep.same s2 p v q) j w5.pr)
     |_=>exact h2.elim
    |_=>exact h2.elim
  |_=>exact h1.elim⟩
def uH(i:Nat)(m:M PV):M Fl:=λρ=>match ρ[i]? with
 |some (.ow _)=>(m ρ).bind λp ρ1=>match ρ1[i]? with
  |some (.ow ps)=>if ps.length<16777216 then .ok .nx (ρ1.set i (.ow (ps ++ [p]))) else .bad
  |_=>.bad
 |_=>.bad
def jh{i:Nat}{D:Ends}{σ:L2.St}{H:Hp}(h:tS (kk X cm) E (uH i mv) D σ H):J_ (tBM X.K "list" GD (wD i) (tL (kk X cm) E (Ĉ mv ĝ))) D σ H:=by
 obtain⟨c,F,ρ,rel,h⟩:=h
 unfold uH at h
 cases e1:ρ[i]? with
 |none=>rw[e1] at h;exact h.elim
 |some sl=>
  rw[e1] at h
  cases sl with
  |ow ps0=>
   obtain⟨a,vs0,z1,z2,z3,z4,z5,z6⟩:=rel.ow e1
   refine⟨.ref a,z1,.inl ⟨rfl,_,bD.of z2⟩,c,F,ρ,rel,?_⟩
   dsimp only at h
   unfold Ĉ
   cases em:mv ρ with
   |bad=>rw[em] at h;exact h
   |exc x ρ1=>rw[em] at h;exact λC d F' H' eE s1 q=>h σ C d F' H' eE s1 q
   |ok p ρ1=>
    rw[em] at h
    intro us F1 H1 Ġ s1 s2 r1
    have r1':Ħ (kk X cm) F1 [p] us:=r1
    cases r1'.pr with
    |cons rp t=>
     rename_i v vs'
     cases t
     cases e2:ρ1[i]? with
     |none=>simp only[Res.cH,e2] at h;exact h.elim
     |some sl2=>
      simp only[Res.cH,e2] at h
      cases sl2 with
      |ow ps=>
       obtain⟨a2,vs,w1,w2,w3,w4,w5,w6⟩:=Ġ.ow e2
       rw[z1] at w1
       cases w1
       dsimp only at h
       split at h
       ·rename_i hz
        refine⟨a,vs,v,rfl,rfl,w2,by rw[<-w5.length,Ś];exact hz,h σ F1 _ (Ġ.write w6 z1 ⟨a,vs ++ [v],rfl,ĭ,w3,w4,Ħ.append w5 (Ħ.cons rp Ħ.nil)⟩ λ_ z=>(V.ref.inj z).symm) s1⟩
       ·exact h.elim
      |_=>exact h.elim
  |_=>exact h.elim
def ŋ(mc:M Bool)(mb:M Fl):Nat->Ş->Res Fl
 |0,_=>.bad
 |n+1,ρ=>(mc ρ).bind λb ρ1=>if b=true then(mb ρ1).bind λf ρ2=>match f with
  | .nx=>ŋ mc mb n ρ2
  | .ct=>ŋ mc mb n ρ2
  | .bk=>.ok .nx ρ2
  | .rt r=>.ok (.rt r) ρ2 else .ok .nx ρ1
theorem bH{mc:M Bool}{mb:M Fl}(n:Nat)(ρ:Ş):ŋ mc mb (n+1) ρ=(mc ρ).bind λb ρ1=>if b=true then(mb ρ1).bind λf ρ2=>match f with
 | .nx=>ŋ mc mb n ρ2
 | .ct=>ŋ mc mb n ρ2
 | .bk=>.ok .nx ρ2
 | .rt r=>.ok (.rt r) ρ2 else .ok .nx ρ1:=rfl
open Classical in
noncomputable def bI(mc:M Bool)(mb:M Fl):M Fl:=λρ=>if h:∃n,ŋ mc mb n ρ≠ .bad then ŋ mc mb (Classical.choose h) ρ else .bad
theorem j_{mc:M Bool}{mb:M Fl}:∀(n:Nat) (ρ:Ş),ŋ mc mb n ρ≠ .bad->ŋ mc mb (n+1) ρ=ŋ mc mb n ρ
 |0,ρ,h=>absurd rfl h
 |n+1,ρ,h=>by
  rw[bH] at h
  rw[bH (n+1),bH n]
  cases e:mc ρ with
  |bad=>rfl
  |exc x ρ1=>rfl
  |ok b ρ1=>
   rw[e] at h
   simp only[Res.cH] at h ⊢
   cases b with
   |false=>rfl
   |true=>
    simp only[if_true] at h ⊢
    cases e2:mb ρ1 with
    |bad=>rfl
    |exc x ρ2=>rfl
    |ok f ρ2=>
     rw[e2] at h
     simp only[Res.cH] at h ⊢
     cases f with
     |nx=>exact j_ n ρ2 h
     |ct=>exact j_ n ρ2 h
     |bk=>rfl
     |rt r=>rfl
def vh{mc:M Bool}{mb:M Fl}{n m:Nat}{ρ:Ş}(h:ŋ mc mb n ρ≠ .bad)(hm:n<=m):ŋ mc mb m ρ=ŋ mc mb n ρ:= by
 induction hm with
 |refl=>rfl
 |step _ ih=>rw[j_ _ _ (by rw[ih];exact h),ih]
def bQ{mc:M Bool}{mb:M Fl}{ρ:Ş}(n:Nat)(h:ŋ mc mb n ρ≠ .bad):bI mc mb ρ=ŋ mc mb n ρ:= by
 unfold bI
 have hx:∃n,ŋ mc mb n ρ≠ .bad:=⟨n,h⟩
 rw[dif_pos hx]
 have hc:=Classical.choose_spec hx
 rcases Nat.le_total n (Classical.choose hx) with hle|hle
 ·exact vh h hle
 ·exact(vh hc hle).symm
theorem kh{mc:M Bool}{mb:M Fl}{ρ:Ş}:bI mc mb ρ=(mc ρ).bind λb ρ1=>if b=true then(mb ρ1).bind λf ρ2=>match f with
 | .nx=>bI mc mb ρ2
 | .ct=>bI mc mb ρ2
 | .bk=>.ok .nx ρ2
 | .rt r=>.ok (.rt r) ρ2 else .ok .nx ρ1:=by
 have go:∀ρ2,bI mc mb ρ2=.bad\/∃n,bI mc mb ρ2=ŋ mc mb n ρ2/\ŋ mc mb n ρ2≠ .bad:=λρ2=>by
  by_cases hx:∃n,ŋ mc mb n ρ2≠ .bad
  ·obtain⟨n,h⟩:=hx
   exact .inr ⟨n,bQ n h,h⟩
  ·left;unfold bI;rw[dif_neg hx]
 have Zgd:∀ρ2,bI mc mb ρ2=.bad->∀n,ŋ mc mb n ρ2=.bad:=λρ2 h n=>by
  refine Classical.byContradiction λz=>?_
  rw[bQ n z] at h
  exact z h
 have fin:∀n,ŋ mc mb (n+1) ρ≠ .bad->bI mc mb ρ=ŋ mc mb (n+1) ρ:= λn h=>bQ _ h
 cases e:mc ρ with
 |bad=>rcases go ρ with h|⟨n,h1,h2⟩
       ·rw[h];rfl
       ·cases n with
        |zero=>exact absurd rfl h2
        |succ n=>rw[bH,e] at h2;exact absurd rfl h2
 |exc x ρ1=>
  have h:ŋ mc mb 1 ρ=.exc x ρ1:=by rw[bH,e];rfl
  rw[bQ 1 (by rw[h];intro z;cases z),h];rfl
 |ok b ρ1=>
  simp only[Res.cH]
  cases b with
  |false=>
   have h:ŋ mc mb 1 ρ=.ok .nx ρ1:=by rw[bH,e];rfl
   rw[bQ 1 (by rw[h];intro z;cases z),h];rfl
  |true=>
   simp only[if_true]
   have one:∀n,ŋ mc mb (n+1) ρ=(mb ρ1).bind λf ρ2=>match f with
    | .nx=>ŋ mc mb n ρ2
    | .ct=>ŋ mc mb n ρ2
    | .bk=>.ok .nx ρ2
    | .rt r=>.ok (.rt r) ρ2:=λn=>by rw[bH,e];rfl
   cases e2:mb ρ1 with
   |bad=>
    rcases go ρ with h|⟨n,h1,h2⟩
    ·rw[h];rfl
    ·cases n with
     |zero=>exact absurd rfl h2
     |succ n=>rw[one,e2] at h2;exact absurd rfl h2
   |exc x ρ2=>
    have h:ŋ mc mb 1 ρ=.exc x ρ2:=by rw[one,e2];rfl
    rw[bQ 1 (by rw[h];intro z;cases z),h];rfl
   |ok f ρ2=>
    have turn:(∀n,ŋ mc mb (n+1) ρ=ŋ mc mb n ρ2)->bI mc mb ρ=bI mc mb ρ2:=λhn=>by
     rcases go ρ2 with h|⟨n,h1,h2⟩
     ·rcases go ρ with h'|⟨n,h1,h2⟩
      ·rw[h,h']
      ·cases n with
       |zero=>exact absurd rfl h2
       |succ n=>rw[hn,Zgd ρ2 h n] at h2;exact absurd rfl h2
     ·rw[h1,<-hn n]
      exact fin n (by rw[hn n];exact h2)
    cases f with
    |nx=>exact turn λn=>by rw[one,e2];rfl
    |ct=>exact turn λn=>by rw[one,e2];rfl
    |bk=>
     have h:ŋ mc mb 1 ρ=.ok .nx ρ2:=by rw[one,e2];rfl
     rw[bQ 1 (by rw[h];intro z;cases z),h];rfl
    |rt r=>
     have h:ŋ mc mb 1 ρ=.ok (.rt r) ρ2:=by rw[one,e2];rfl
     rw[bQ 1 (by rw[h];intro z;cases z),h];rfl
def RK{c:Expr}{body:List Stmt}{mc:M Bool}{mb:M Fl}(hp:PassesOwn (model X.prog X.w) X.A X.env X.xe)(hc:PT X c (tB (kk X cm) E mc))(hb:mL X body (tS (kk X cm) E mb)):PS X (.While c body [] pos) (tS (kk X cm) E (bI mc mb)):=PS.wk (Kf hp hc hb) λD σ H ⟨c,F,ρ,rel,h⟩=>by
 obtain⟨n,hn⟩:∃n,aB (kk X cm) E c F D (ŋ mc mb n ρ):=by
  by_cases hx:∃n,ŋ mc mb n ρ≠ .bad
  ·obtain⟨n,hn⟩:=hx
   rw[bQ n hn] at h
   exact⟨n,h⟩
  ·unfold bI at h
   rw[dif_neg hx] at h
   exact h.elim
 refine⟨λm σ' H'=>∃F2 ρ2,Rel (kk X cm) c F2 H' σ' ρ2/\Same F F2/\aB (kk X cm) E c F2 D (ŋ mc mb m ρ2),⟨n,F,ρ,rel,Same.refl _,hn⟩,?_⟩
 rintro m σ1 H1 ⟨F1,ρ1,Ġ,s1,h1⟩
 cases m with
 |zero=>exact h1.elim
 |succ m=>
  rw[bH] at h1
  refine⟨c,F1,ρ1,Ġ,aB.bind h1 λk ρ2 v F2 H2 ő s2 q h2=>?_⟩
  have e:k=v:=q
  subst e
  cases k with
  |false=>
   rw[if_neg Bool.false_ne_true]
   rw[if_neg Bool.false_ne_true] at h2
   exact h2 σ1 F2 H2 ő (Same.refl _)
  |true=>
   rw[if_pos rfl]
   rw[if_pos rfl] at h2
   refine⟨_,λσ' H' z=>z,c,F2,ρ2,ő,?_⟩
   have nxt:∀{ρ3:Ş},aB (kk X cm) E c F2 D (ŋ mc mb m ρ3)->∀σ' F' H',Rel (kk X cm) c F' H' σ' ρ3->Same F2 F'->∃m',m'<m+1/\∃F2 ρ2,Rel (kk X cm) c F2 H' σ' ρ2/\Same F F2/\aB (kk X cm) E c F2 D (ŋ mc mb m' ρ2):=
    fun{ρ3} h3 σ' F' H' eE s'=>⟨m,Nat.lt_succ_self m,F',ρ3,eE,(s1.trans s2).trans s',aB.mono h3 s'⟩
   cases e2:mb ρ2 with
   |bad=>rw[e2] at h2;exact h2
   |exc x ρ3=>rw[e2] at h2;exact h2
   |ok f ρ3=>
    rw[e2] at h2
    cases f with
    |nx=>exact nxt h2
    |ct=>exact nxt h2
    |bk=>exact h2
    |rt r=>exact h2
def jM(K:KK)(Lh F:Hp)(J:It)(items:List PV):Prop:=∀(c:Ctx) (i:Nat) (F2 H:Hp) (σ:L2.St) (ρ:Ş),Rel K c F2 H σ ρ->Same F F2->Same Lh H->
 (∀p,items[i]?=some p->J.go i H/\∀x H',J.yld i H x H'->∃F3,Rel K c F3 H' σ ρ/\Same F2 F3/\Same H H'/\Rep K F3 p x)/\(i=items.length->J.stop i H)
def rIt(K:KK):RR (List PV) It:=λc _ _ F _ items J=>jM K c.L F J items
abbrev tI(K:KK)(E:L2.St->XK)(m:M (List PV)):TI:=tG K E (rIt K) m
def forL(g:Tg)(mb:M Fl):List PV->M Fl
 | [],ρ=>.ok .nx ρ
 |p::ps,ρ=>match g p ρ with
  |none=>.bad
  |some ρ1=>(mb ρ1).bind λf ρ2=>match f with
   | .nx=>forL g mb ps ρ2
   | .ct=>forL g mb ps ρ2
   | .bk=>.ok .nx ρ2
   | .rt r=>.ok (.rt r) ρ2
def eG(mi:M (List PV))(g:Tg)(mb:M Fl):M Fl:=λρ=>(mi ρ).bind λitems ρ1=>forL g mb items ρ1
def bJ{iter tg:Expr}{body:List Stmt}{mi:M (List PV)}{g:Tg}{mb:M Fl}(hp:PassesOwn (model X.prog X.w) X.A X.env X.xe)(hc:X.calm=true)(hi:PI X tg iter (tI (kk X cm) E mi))(hg:PG X tg (tT (kk X cm) g))(hb:mL X body (tS (kk X cm) E mb))
 (hs:∀x,foldedSetIterable iter X.env x=pure x:=by intro _;rfl):PS X (.For tg iter body [] pos) (tS (kk X cm) E (eG mi g mb)):=PS.wk (Za4 hp hc hi hg hb hs) λD σ H ⟨c,F,ρ,rel,h⟩=>⟨c,F,ρ,rel,aB.bind h λitems ρ1 J F1 H1 Ġ s1 ito h1=>by
 refine⟨λi m σ' H'=>∃F2 ρ2,i<=items.length/\m=items.length-i/\Rel (kk X cm) c F2 H' σ' ρ2/\Same F1 F2/\aB (kk X cm) E c F2 D (forL g mb (items.drop i) ρ2),⟨_,F1,ρ1,Nat.zero_le _,rfl,Ġ,Same.refl _,h1⟩,?_⟩
 rintro i m σ2 H2 ⟨F2,ρ2,hle,rfl,ő,s2,h2⟩
 obtain⟨go,stop⟩:=ito c i F2 H2 σ2 ρ2 ő s2 λb u e=>(ő.lent b u e).1
 by_cases hlt:i<items.length
 ·obtain⟨g1,g2⟩:=go items[i] (List.getElem?_eq_getElem hlt)
  rw[List.drop_eq_getElem_cons hlt] at h2
  unfold forL at h2
  refine .inr ⟨g1,_,λσ' H' z=>z,λx H3 hy=>?_⟩
  obtain⟨F3,nH,s3,_,rp⟩:=g2 x H3 hy
  refine⟨c,F3,ρ2,items[i],nH,rp,?_⟩
  cases eg:g items[i] ρ2 with
  |none=>rw[eg] at h2;exact h2.elim
  |some ρ3=>
   rw[eg] at h2
   dsimp only at h2
   intro σ4 zX
   refine⟨c,F3,ρ3,zX,?_⟩
   have nxt:∀{ρ4:Ş},aB (kk X cm) E c F2 D (forL g mb (items.drop (i+1)) ρ4)->∀σ' F' H',Rel (kk X cm) c F' H' σ' ρ4->Same F3 F'->∃m',m'<items.length-i/\∃F2 ρ2,i+1<=items.length/\m'=items.length-(i+1)/\Rel (kk X cm) c F2 H' σ' ρ2/\Same F1 F2/\aB (kk X cm) E c F2 D (forL g mb (items.drop (i+1)) ρ2):=
    fun{ρ4} h3 σ' F' H' eE s'=>⟨items.length-(i+1),by omega,F',ρ4,hlt,rfl,eE,(s2.trans s3).trans s',aB.mono h3 (s3.trans s')⟩
   have h2':=aB.mono h2 s3
   cases e2:mb ρ3 with
   |bad=>rw[e2] at h2;exact h2
   |exc x ρ4=>rw[e2] at h2';exact h2'
   |ok f ρ4=>
    rw[e2] at h2 h2'
    cases f with
    |nx=>exact nxt h2
    |ct=>exact nxt h2
    |bk=>exact h2'
    |rt r=>exact h2'
 ·have e:i=items.length:=by omega
  refine .inl ⟨stop e,?_⟩
  rw[List.drop_eq_nil_of_le (by omega)] at h2
  unfold forL at h2
  exact h2 σ2 F2 H2 ő (Same.refl _)⟩
end
end P
namespace P
open PySem PySem.Spec PyProof.Rows L2 M2 M3
inductive FR where
 |ret (r:RV)|exc (x:PX)|bad
abbrev MF:=List Slot->FR
def FR.of:Res Fl->FR
 | .ok (.rt r) _=>.ret r
 | .ok .nx _=>.ret (.sh .non)
 | .exc x _=>.exc x
 |_=>.bad
def ļ(n k:Nat)(mb:M Fl):MF:=λas=>if as.length=n then FR.of (mb (startP k as)) else .bad
def rF(K:KK)(H F' H':Hp):RV->V->Prop
 | .sh p,v=>Rep K F' p v
 | .ow ps,v=>∃a vs,v=.ref a/\H' a=some (.lst vs)/\F' a=none/\H a=none/\Ħ K F' ps vs
 | .ot ps qs,v=>∃p a xs vs,v=.ref p/\F' p=some (.tup (xs ++ [.ref a]))/\Ħ K F' ps xs/\H' a=some (.lst vs)/\F' a=none/\H a=none/\Ħ K F' qs vs
def Zge(K:KK)(E:XK)(F H:Hp)(Q:VK):FR->Prop
 | .ret r=>∀v F' H',Gr F H F' H'->rF K H F' H' r v->Q v H'
 | .exc x=>∀C d F' H',Gr F H F' H'->Rz K F' x C d->E C d H'
 | .bad=>False
def ŷ(K:KK)(n:Nat)(mf:MF):Sp:=λvs H Q E=>∃F as,as.length=n/\Same F H/\Paired (gj K F H) as vs/\Zge K E F H Q (mf as)
def fK(CX:pN)(X:Cx)(E:L2.St->XK):Prop:=∀(pins:List (Addr×Obj)) (σ:L2.St) (H:Hp) (s:Shared) (e:Value) (s':Shared),Inv X pins σ H s->CX X.stack H s (E σ) e s'->X.xe e s'
section
variable{P:Program}{w:World}{K:PySem.W.Frag}{cm:String->Addr}{mg:Str->Option Value}{base:Heap}{CX:pN}
def fnP{x qual:Str}{st:Stmt}{f:Addr}{fd:FuncData}{N ps:List Str}{k:Nat}{mb:M Fl}(F:Kw K x qual st f fd)(S:ē N ps (ą st))
 (hbody:∀(cdv:Value) (A:Around) (outer:List Env) (s:Shared) (H:Hp) (E:XK),aR k (A.deeper (envOfC qual (ą st) s.heap.objs.size f cdv))→
   mL (dj CX P w K mg base N qual (ą st) f cdv A outer s H E) (Ŗ st) (tS ⟨K,cm⟩ (λ_=>E) mb)):Į P w K mg base CX (k+1) f fd ps (ŷ ⟨K,cm⟩ ps.length (ļ ps.length N.length mb)):=by
 obtain⟨oc,od,kV,doc,pm,an,cdv,ct,osl,rfl,lk,hcd⟩:=F.ex
 refine zQ lk hcd S (λvs H Q E ⟨F,ps',h1,_,h2,_⟩=>by rw[<-Paired.length h2];exact h1) λA outer s H vs Q E hr hsp=>?_
 obtain⟨F,ps',h1,h2,h3,h4⟩:=hsp
 refine⟨_,hbody cdv A outer s H E hr,ctx0 F H,F,startP N.length ps',Rel.start h2 h3,?_⟩
 unfold ļ at h4
 rw[if_pos h1] at h4
 cases e:mb (startP N.length ps') with
 |bad=>rw[e] at h4;exact h4
 |exc x ρ'=>rw[e] at h4;exact λσ' C d F' H' rel s1 q=>h4 C d F' H' rel.gr q
 |ok fl ρ'=>
  rw[e] at h4
  cases fl with
  |nx=>exact λσ' F' H' rel s1=>h4 .non F' H' rel.gr (Rep.non (K:=⟨K,cm⟩) (F:=F'))
  |bk=>exact h4.elim
  |ct=>exact h4.elim
  |rt r=>
   intro v σ' F' H' rel s1 q
   refine h4 v F' H' rel.gr ?_
   cases r with
   |sh p=>exact q
   |ow qs=>
    obtain⟨a,vs',e1,e2,e3,e4,_,e5⟩:=q
    exact⟨a,vs',e1,e2,e3,e4,e5⟩
   |ot qs ts=>
    obtain⟨p,a,xs,vs',e1,e0,ex,e2,e3,e4,_,e5⟩:=q
    exact⟨p,a,xs,vs',e1,e0,ex,e2,e3,e4,e5⟩
def bB{x qual:Str}{st:Stmt}{f:Addr}{fd:FuncData}{N ps:List Str}{k n j:Nat}{mb:M Fl}{mf:MF}(F:Kw K x qual st f fd)(S:ē N ps (ą st))(hn:ps.length=n)(hj:N.length=j)(hf:mf=ļ n j mb)
 (hbody:∀(cdv:Value) (A:Around) (outer:List Env) (s:Shared) (H:Hp) (E:XK),aR k (A.deeper (envOfC qual (ą st) s.heap.objs.size f cdv))→
   mL (dj CX P w K mg base N qual (ą st) f cdv A outer s H E) (Ŗ st) (tS ⟨K,cm⟩ (λ_=>E) mb)):Į P w K mg base CX (k+1) f fd ps (ŷ ⟨K,cm⟩ n mf):=by
 subst hn hj hf
 exact fnP F S hbody
end
def Ē(mf:MF)(mr:M (List Slot)):M RV:=λρ=>(mr ρ).bind λps ρ1=>match mf ps with
 | .ret r=>.ok r ρ1
 | .exc x=>.exc x ρ1
 | .bad=>.bad
section
variable{X:Cx}{cm:String->Addr}{E:L2.St->XK}{CX:pN}{k n:Nat}{f:Addr}{fd:FuncData}{ps:List Str}{mf:MF}{mr:M (List Slot)}{x:Str}{p pos:Pos}{e:Expr}{es:List Expr}
def Hj{sp:Sp}{pins:List (Addr×Obj)}{σ:L2.St}{H:Hp}{s:Shared}{Q:VK}{us:List Value}{vs:List V}(F:Į X.prog X.w X.K X.mg X.base CX k f fd ps sp)(hr:aR k X.A)(hb:Binds X.K fd ps [])(hx:fK CX X E)
 (I:Inv X pins σ H s)(r:Vals vs us)(h:sp vs H Q (E σ)):wpAny (model X.prog X.w) X.A (call (.ref f) us) (EP X pins σ Q) X.xe s:=by
 have hl:(us ++ []).length=ps.length:=by rw[List.append_nil,<-r.length];exact F.len _ _ _ _ h
 have hbd:=hb s us I.jR hl
 rw[List.append_nil] at hbd
 refine wpAny_call (codeAny_mono (F.run X.A X.stack s H ⟨us,[]⟩ us vs Q (E σ) hr I.env0 hbd r h) λr s' hq=>?_)
 cases r with
 |error e=>exact hx pins σ H s e s' I hq
 |ok fl=>
  cases fl with
  |ret u=>exact I.after hq
  |next=>exact False.elim hq
  |brk=>exact False.elim hq
  |cont=>exact False.elim hq
def zZ{c:Ctx}{F1 H1:Hp}{σ:L2.St}{ρ1:Ş}{Q:VK}{ps:List Slot}{vs:List V}(hlen:(∃r,mf ps=r/\∀z,r=z->z≠ .bad)->ps.length=n)(Ġ:Rel (kk X cm) c F1 H1 σ ρ1)(r1:Paired (gj (kk X cm) F1 H1) ps vs)
 (h:cY (kk X cm) E (rO (kk X cm)) c F1 H1 σ Q (match mf ps with| .ret r=>.ok r ρ1| .exc x=>.exc x ρ1| .bad=>.bad)):ŷ (kk X cm) n mf vs H1 Q (E σ):=by
 refine⟨F1,ps,?_,Ġ.sub,r1,?_⟩
 ·refine hlen ⟨_,rfl,λz hz hb=>?_⟩
  rw[hz,hb] at h
  exact h
 ·cases em:mf ps with
  |bad=>rw[em] at h;exact h
  |exc x=>rw[em] at h;exact λC d F' H' g rx=>h C d F' H' (Ġ.call g) g.f rx
  |ret r=>
   rw[em] at h
   intro v F' H' g rf
   refine h v F' H' (Ġ.call g) g.f g.h ?_
   cases r with
   |sh p=>exact rf
   |ow qs=>
    obtain⟨a,vs',e1,e2,e3,e4,e5⟩:=rf
    exact⟨a,vs',e1,e2,e3,Ġ.base.free e4,Ġ.wN g.f (Ġ.fresh e4),e5⟩
   |ot qs ts=>
    obtain⟨p,a,xs,vs',e1,e0,ex,e2,e3,e4,e5⟩:=rf
    exact⟨p,a,xs,vs',e1,e0,ex,e2,e3,Ġ.base.free e4,Ġ.wN g.f (Ġ.fresh e4),e5⟩
def Ċ{n k:Nat}{mb:M Fl}{ps:List Slot}(h:∃r,ļ n k mb ps=r/\∀z,r=z->z≠ .bad):ps.length=n:=by
 obtain⟨r,h1,h2⟩:=h
 unfold ļ at h1
 by_cases hl:ps.length=n
 ·exact hl
 ·rw[if_neg hl] at h1
  exact absurd h1.symm (λz=>h2 .bad (by rw[<-h1]) rfl)
def đ(F:Į X.prog X.w X.K X.mg X.base CX k f fd ps (ŷ (kk X cm) n mf))(hlen:∀{ps:List Slot},(∃r,mf ps=r/\∀z,r=z->z≠ .bad)->ps.length=n)(hr:aR k X.A)(hg:Gl X x)(hm:X.mg x=some (.ref f))(hk:PySem.W.keepIn X.K (.ref f)=true)(hb:Binds X.K fd ps [])(hx:fK CX X E)
 (ha:PA X (e::es) (tA (kk X cm) E mr))(hdb:(x== ("__debug__" :Str))=false:=by decide)(he:starEach (e::es) X.env=(false,eval e X.env)::starEach es X.env:=by exact ĸ rfl)(hpl:(backTo pos (starEach es X.env)).any (·.1)=false:=by rfl) :
 PE X (.Call (.Name x p) (e::es) [] pos) (tO (kk X cm) E (Ē mf mr)):=by
 intro pins s σ H Q I h
 obtain⟨c,F,ρ,rel,h⟩:=h
 refine wpAny_Call_Name_kw (nA I hg hm ?_ hdb)
 refine PySem.W.callWith_K (h₀:= X.base) I.ok.mod.kin hk (Ŷ (ha pos pins s σ H (λvs H1=>ŷ (kk X cm) n mf vs H1 Q (E σ)) I ⟨c,F,ρ,rel,h.bind λps' ρ1 vs F1 H1 Ġ _ _ r1 h1=>zZ hlen Ġ r1 h1⟩) λus s1 ⟨vs,H1,I1,r,q⟩=>⟨I1.jR,?_⟩) he hpl
 exact Hj (by assumption) hr hb hx I1 r q
end
def Ű(m:M PV):M (List PV):=λρ=>(m ρ).bind λp ρ1=>match p with
 | .lst ps=>.ok ps ρ1
 | .tup ps=>.ok ps ρ1
 | .str z=>.ok (z.cps.toList.map λc=>.str ⟨#[c]⟩) ρ1
 |_=>.bad
section
variable{X:Cx}{cm:String->Addr}{E:L2.St->XK}{tg:Expr}
def Zgf(K:PySem.W.Frag)(tl:TE):TI:=λσ H R=>tl σ H λx H1=>(∃a,x=.ref a/\(∃xs,bD K H1 a xs)/\R (Itl K a) H1)\/(∃a,x=.ref a/\(∃xs,iH K H1 a xs)/\R (Itt K a) H1)\/∃z,x=.str z/\R (Its z) H1
def Lw{l:Expr}{tl:TE}(hl:PE X l tl):PI X tg l (Zgf X.K tl):=by
 intro pins s σ H R I h
 refine Ŷ (hl pins s σ H _ I h) λv s1 ⟨x,H1,I1,r1,q1⟩=>?_
 rcases q1 with⟨a,e,⟨xs,hq⟩,q⟩|⟨a,e,⟨xs,hq⟩,q⟩|⟨z,e,q⟩
 ·subst e
  cases r1
  obtain⟨its,rv,p,hz⟩:=I1.list hq
  refine wpAny_pyIter_list p.isList ?_
  refine⟨s1.heap.objs.size,[s1.heap.objs.size],_,_,H1,rfl,I1.kept (t':=s1.toks) λb o e=>Heap.get?_push_of_some _ e,IV a _,⟨_,Heap.get?_push_size _ rfl,rfl,rfl⟩,λb hb=>?_,q⟩
  have e:b=s1.heap.objs.size:=by simpa using hb
  subst e
  exact I1.uz (Nat.le_refl _) (I1.hok.fresh (Nat.le_refl _))
 ·subst e
  cases r1
  obtain⟨its,rv,p,hz⟩:=I1.tuple hq
  refine wpAny_pyIter_tuple (show s1.heap.IsTuple a its.toArray from p) ?_
  refine⟨s1.heap.objs.size,[s1.heap.objs.size],_,_,H1,rfl,I1.kept (t':=s1.toks) λb o e=>Heap.get?_push_of_some _ e,Ci a _,⟨_,Heap.get?_push_size _ rfl,rfl,rfl⟩,λb hb=>?_,q⟩
  have e:b=s1.heap.objs.size:=by simpa using hb
  subst e
  exact I1.uz (Nat.le_refl _) (I1.hok.fresh (Nat.le_refl _))
 ·subst e
  obtain⟨t,rfl⟩:=r1
  have fin:∀ty,(∀A:Around,A.handled=none->Walks X.prog X.w A s1.heap.objs.size [s1.heap.objs.size] [s1.heap.objs.size] z.cps.size (SignAt z) (λi h=>h.IsStrIter s1.heap.objs.size ty z t i))->
   (∀(A:Around) (i:Nat) (s:Shared) (Q:Value->Shared->Prop) (E:Value->Shared->Prop),s.heap.IsStrIter s1.heap.objs.size ty z t i->Q (.ref s1.heap.objs.size) s->wpAny (model X.prog X.w) A (pyIter (.ref s1.heap.objs.size)) Q E s)->
   (["enumerate","zip","dict_itemiterator","dict_reverseitemiterator","odict_iterator","itertools.zip_longest","itertools.pairwise"].contains ty=false)->
   PIE X pins σ tg R (.ref s1.heap.objs.size) {s1 with heap:=s1.heap.push {cls:=.type ty,data:=.fields #[.str z t,.int 0 0]}}:=λty hW hS hty=>by
   refine⟨s1.heap.objs.size,[s1.heap.objs.size],_,_,H1,rfl,I1.kept (t':=s1.toks) λb o e=>Heap.get?_push_of_some _ e,Jj _ z t ty hW hS hty,⟨_,Heap.get?_push_size _ rfl,rfl,rfl⟩,λb hb=>?_,q⟩
   have e:b=s1.heap.objs.size:=by simpa using hb
   subst e
   exact I1.uz (Nat.le_refl _) (I1.hok.fresh (Nat.le_refl _))
  cases ha:z.cps.all (·< 128) with
  |true=>exact wpAny_pyIter_ascii ha (fin _ (λA hA=>Walks.strAscii hA _ z t) (λA i s Q E st q=>wpAny_pyIter_striter_ascii st q) (by decide))
  |false=>exact wpAny_pyIter_wide ha (fin _ (λA hA=>Walks.strWide hA _ z t) (λA i s Q E st q=>wpAny_pyIter_striter_wide st q) (by decide))
def gw{l:Expr}{m:M PV}(hl:PE X l (tV (kk X cm) E m)):PI X tg l (tI (kk X cm) E (Ű m)):=λpins s σ H R I h=>Lw hl pins s σ H R I (by
 obtain⟨c,F,ρ,rel,h⟩:=h
 refine⟨c,F,ρ,rel,h.bind λp ρ1 v F1 H1 Ġ s1 s2 q h1=>?_⟩
 cases p with
 |lst ps=>
  have q':Rep (kk X cm) F1 (.lst ps) v:=q
  unfold Rep at q'
  obtain⟨a,vs,rfl,e1,e2⟩:=q'
  refine .inl ⟨a,rfl,⟨vs,Ġ.sub.seq e1⟩,h1 _ F1 H1 Ġ (Same.refl _) (Same.refl _) ?_⟩
  intro c' i F2 H2 σ2 ρ2 ő sF _
  have hq:bD X.K H2 a vs:=(sF.trans ő.sub).seq e1
  refine⟨λp hp=>?_,λhi=>⟨vs,hq,by rw[hi,e2.length];exact Nat.le_refl _⟩⟩
  obtain⟨u,hu,ru⟩:=dz e2.pr hp
  refine⟨⟨vs,u,hq,hu⟩,λx H' ⟨hH,hx⟩=>?_⟩
  subst hH
  have:vs[i]?=some x:=hx vs hq
  rw[hu] at this
  cases this
  exact⟨F2,ő,Same.refl _,Same.refl _,Rep.same sF p u ru⟩
 |tup ps=>
  have q':Rep (kk X cm) F1 (.tup ps) v:=q
  unfold Rep at q'
  obtain⟨a,vs,rfl,e1,e2⟩:=q'
  refine .inr (.inl ⟨a,rfl,⟨vs,Same.tup Ġ.sub e1⟩,h1 _ F1 H1 Ġ (Same.refl _) (Same.refl _) ?_⟩)
  intro c' i F2 H2 σ2 ρ2 ő sF _
  have hq:iH X.K H2 a vs:=Same.tup (sF.trans ő.sub) e1
  refine⟨λp hp=>?_,λhi=>⟨vs,hq,by rw[hi,e2.length];exact Nat.le_refl _⟩⟩
  obtain⟨u,hu,ru⟩:=dz e2.pr hp
  refine⟨⟨vs,u,hq,hu⟩,λx H' ⟨hH,hx⟩=>?_⟩
  subst hH
  have:vs[i]?=some x:=hx vs hq
  rw[hu] at this
  cases this
  exact⟨F2,ő,Same.refl _,Same.refl _,Rep.same sF p u ru⟩
 |str z=>
  have q':v=.str z:=by have q':Rep (kk X cm) F1 (.str z) v:=q;unfold Rep at q';exact q'
  subst q'
  refine .inr (.inr ⟨z,rfl,h1 _ F1 H1 Ġ (Same.refl _) (Same.refl _) ?_⟩)
  intro c' i F2 H2 σ2 ρ2 ő sF _
  refine⟨λp hp=>?_,λhi=>by rw[hi,List.length_map];show _=_;simp⟩
  rw[List.getElem?_map] at hp
  cases ez:z.cps.toList[i]? with
  |none=>rw[ez] at hp;cases hp
  |some cc=>
   rw[ez] at hp
   cases hp
   refine⟨by have:=(List.getElem?_eq_some_iff.mp ez).1;show i<z.cps.size;simpa using this,λx H' ⟨hH,c2,hc,hx⟩=>?_⟩
   subst hH hx
   rw[ez] at hc
   cases hc
   exact⟨F2,ő,Same.refl _,Same.refl _,Rep.str⟩
 |_=>exact h1.elim)
def ř(i:Nat):M (List PV):=λρ=>match ρ[i]? with
 |some (.bw ps)=>.ok ps ρ
 |some (.sh (.lst ps))=>.ok ps ρ
 |some (.sh (.tup ps))=>.ok ps ρ
 |some (.sh (.str z))=>.ok (z.cps.toList.map λc=>.str ⟨#[c]⟩) ρ
 |some (.ow ps)=>.ok ps (ρ.set i (.sh (.lst ps)))
 |_=>.bad
def Ź(i:Nat){x:Str}{px:Pos}(hN:X.N[i]?=some x:=by rfl)(hv:Gs X.env.scope x:=by first|exact Or.inl rfl|exact Or.inr (Or.inl rfl)|exact Or.inr (Or.inr rfl))(hd:(x== ("__debug__" :Str))=false:=by decide)
 (hcd:(x== ("__classdict__" :Str))=false:=by decide):PI X tg (.Name x px) (tI (kk X cm) E (ř i)):=λpins s σ H R I h=>by
 obtain⟨c,F,ρ,rel,h⟩:=h
 cases e:ρ[i]? with
 |none=>unfold ř at h;rw[e] at h;exact h.elim
 |some sl=>
  have RL:cY (kk X cm) E (rIt (kk X cm)) c F H σ R (Ű (Ĥ i) ρ)->wpAny (model X.prog X.w) X.A (eval (.Name x px) X.env) (λv s1=>wpAny (model X.prog X.w) X.A (pyIter v) (PIE X pins σ tg R) X.xe s1) X.xe s:=λh'=>
   gw (v_var i hN hv hd hcd) pins s σ H R I ⟨c,F,ρ,rel,h'⟩
  unfold ř at h
  rw[e] at h
  cases sl with
  |no=>exact h.elim
  |rc C ns ps=>exact h.elim
  |ot ps qs=>exact h.elim
  |ol GX=>exact h.elim
  |ow ps=>exact RL (by unfold Ű Ĥ;rw[e];exact h)
  |sh p=>
   cases p with
   |lst ps=>exact RL (by unfold Ű Ĥ;rw[e];exact h)
   |tup ps=>exact RL (by unfold Ű Ĥ;rw[e];exact h)
   |str z=>exact RL (by unfold Ű Ĥ;rw[e];exact h)
   |_=>exact h.elim
  |bw ps=>
   obtain⟨a,vs,h1,h2,h3⟩:=rel.slot i _ e
   refine Lw (i_ hN hv hd hcd) pins s σ H R I ⟨.ref a,at_of h1,.inl ⟨a,rfl,⟨vs,bD.of (rel.lent a _ h2).1⟩,h _ F H rel (Same.refl _) (Same.refl _) ?_⟩⟩
   intro c' j F2 H2 σ2 ρ2 ő sF sL
   have hq:bD X.K H2 a vs:=bD.of (sL a _ h2)
   refine⟨λp hp=>?_,λhi=>⟨vs,hq,by rw[hi,h3.length];exact Nat.le_refl _⟩⟩
   obtain⟨u,hu,ru⟩:=dz h3.pr hp
   refine⟨⟨vs,u,hq,hu⟩,λx H' ⟨hH,hx⟩=>?_⟩
   subst hH
   have:vs[j]?=some x:=hx vs hq
   rw[hu] at this
   cases this
   exact⟨F2,ő,Same.refl _,Same.refl _,Rep.same sF p u ru⟩
def kj(lo:Int)(n:Nat)(c:Int):List PV:=(List.range n).map λ(i:Nat)=>.int (lo+i*c)
def rP(i:Int):Bool:=decide (i.natAbs<1152921504606846976)
def bT:List PV->Option (List PV)
 | [.int j]=>if rP j=true then some (kj 0 j.toNat 1) else none
 |_=>none
def aW(f:List PV->Option (List PV))(mr:M (List PV)):M (List PV):=λρ=>(mr ρ).bind λps ρ1=>Res.qX (f ps) ρ1
def Dh{lo c:Int}{n i:Nat}{p:PV}(h:(kj lo n c)[i]?=some p):i<n/\p=.int (lo+i*c):=by
 unfold kj at h
 by_cases hn:i<n
 ·rw[List.getElem?_map,List.getElem?_range hn] at h
  exact⟨hn,(Option.some.inj h).symm⟩
 ·rw[List.getElem?_eq_none (by simpa using hn)] at h
  cases h
def Di{lo c:Int}{n:Nat}:(kj lo n c).length=n:=by simp[kj]
def ZbF{K:KK}{Lh F:Hp}(lo:Int)(n:Nat):jM K Lh F (Itr lo n) (kj lo n 1):=λc i F2 H σ ρ rel sF _=>
 ⟨fun p hp=>by
   obtain⟨h1,rfl⟩:=Dh hp
   refine⟨h1,λx H' ⟨e1,e2⟩=>?_⟩
   subst e1 e2
   exact⟨F2,rel,Same.refl _,Same.refl _,by rw[Int.mul_one];exact Rep.int⟩,λhi=>by rw[Di] at hi;subst hi;exact Nat.le_refl _⟩
def Jp{i:Int}(h:rP i=true): -(2 ^ 60)<=i/\i<2 ^ 60:=by
 unfold rP at h
 rw[decide_eq_true_eq] at h
 omega
variable{a b d:Expr}{p pos:Pos}{mr:M (List PV)}
def Lx{K:KK}{F:Hp}{ps:List PV}{vs:List V}(h:Ħ K F ps vs):(∀i r,ps=.int i::r->∃r',vs=.int i::r'/\Ħ K F r r')/\(ps=[]->vs=[]):=by
 refine⟨λi r e=>?_,λe=>?_⟩
 ·subst e
  unfold Ħ at h
  obtain⟨x,r',h1,h2,h3⟩:=h
  unfold Rep at h2
  exact⟨r',by rw[h1,h2],h3⟩
 ·subst e
  unfold Ħ at h
  exact h
def ŧ(hg:Gl X "range")(hm:X.mg "range" =none)(ha:PA X [a] (tL (kk X cm) E mr))(hs:starEach [a] X.env=[(false,eval a X.env)]:=by exact ĸ rfl):PI X tg (.Call (.Name "range" p) [a] [] pos) (tI (kk X cm) E (aW bT mr)):=
 λpins s σ H R I h=>IW hg hm ha hs pins s σ H R I (by
  obtain⟨c,F,ρ,rel,h⟩:=h
  refine⟨c,F,ρ,rel,h.bind λps ρ1 vs F1 H1 Ġ s1 s2 q h1=>?_⟩
  have q':Ħ (kk X cm) F1 ps vs:=q
  unfold bT at h1
  split at h1
  ·rename_i j
   split at h1
   ·rename_i hj
    obtain⟨r',e1,e2⟩:=(Lx q').1 _ _ rfl
    cases(Lx e2).2 rfl
    obtain⟨k1,k2⟩:=Jp hj
    exact⟨j,e1,by omega,by omega,h1 _ F1 H1 Ġ (Same.refl _) (Same.refl _) (ZbF 0 j.toNat)⟩
   ·exact h1.elim
  ·exact h1.elim)
end
def iV:Slot->Slot
 | .sh p=>.sh p
 | .ow ps=>.bw ps
 | .bw ps=>.bw ps
 |_=>.no
def lR(js:List Nat)(nl:Nat)(ρ:Ş):Ş:=js.map (λ(j:Nat)=>iV ((ρ[j]?).getD .no))++List.replicate nl .no
def Ŕ(g:Tg)(mt:M Bool)(me:M PV):List PV->Ş->List PV->Option (List PV)
 | [],_,acc=>some acc
 |p::ps,ρ,acc=>match g p ρ with
  |none=>none
  |some ρ1=>match mt ρ1 with
   | .ok true ρ2=>match me ρ2 with
     | .ok q ρ3=>if acc.length<16777216 then Ŕ g mt me ps ρ3 (acc ++ [q]) else none
     |_=>none
   | .ok false ρ2=>Ŕ g mt me ps ρ2 acc
   |_=>none
def ś(js:List Nat)(nl:Nat)(mi:M (List PV))(g:Tg)(mt:M Bool)(me:M PV):M RV:=λρ=>(mi ρ).bind λitems ρ1=>match Ŕ g mt me items (lR js nl ρ1) [] with
 |some ps=>.ok (.ow ps) ρ1
 |none=>.bad
abbrev EF:L2.St->XK:=λ_ _ _ _=>False
def Ŏ:M Bool:=λρ=>.ok true ρ
section
variable{K:KK}{c:Ctx}{F H:Hp}{σ:L2.St}{ρ:Ş}
def uI(F H H1:Hp):Ctx:=⟨H1,F,(ctx0 F H).L,λ_ _ _=>True⟩
def Rel.cap(js:List Nat)(nl:Nat)(rel:Rel K c F H σ ρ){D:Addr}{o:HO}(hD:H D=none):Rel K (uI F H (upd H D o)) F (upd H D o) (iK js nl σ) (lR js nl ρ) where
 sub:=rel.sub.trans (Same.upd hD)
 base:=Same.refl _
 f0:=Same.refl _
 h_:=λ_ _ z=>z
 lent:=λa u e=>⟨Same.upd hD a u (iu e).1,(iu e).2⟩
 lb:=fun a e=>by
   cases q:(uI F H (upd H D o)).L a with
   |none=>rfl
   |some u=>
    have e':upd H D o a=none:=e
    rw[Same.upd hD a u (iu q).1] at e'
    cases e'
 len:=by simp[iK,lR]
 slot:= λi s e=>by
  unfold lR at e
  by_cases hi:i<js.length
  ·rw[List.getElem?_append_left (by simpa using hi),List.getElem?_map] at e
   cases ej:js[i]? with
   |none=>rw[ej] at e;cases e
   |some j=>
    rw[ej] at e
    have e':iV ((ρ[j]?).getD .no)=s:=Option.some.inj e
    subst e'
    have hx:((iK js nl σ)[i]?).getD none=(σ[j]?).getD none:=by
     unfold iK
     rw[List.getElem?_append_left (by simpa using hi),List.getElem?_map,ej]
     rfl
    rw[hx]
    cases er:ρ[j]? with
    |none=>trivial
    |some sl=>
     have q:=rel.slot j sl er
     cases sl with
     |no=>trivial
     |sh p=>exact q
     |ow ps=>
      obtain⟨a,vs,h1,h2,h3,h4,h5⟩:=q
      refine⟨a,vs,h1,?_,h5⟩
      show(match F a with|none=>H a|some _=>none)=_
      rw[h3]
      exact h2
     |bw ps=>
      obtain⟨a,vs,h1,h2,h3⟩:=q
      obtain⟨l1,l2⟩:=rel.lent a _ h2
      refine⟨a,vs,h1,?_,h3⟩
      show(match F a with|none=>H a|some _=>none)=_
      rw[l2]
      exact l1
     |rc C ns ps=>trivial
     |ot ps qs=>trivial
     |ol GX=>trivial
  ·rw[List.getElem?_append_right (by simpa using hi),List.getElem?_replicate] at e
   split at e
   ·cases e;trivial
   ·cases e
 sep:=λi j a h1 _=>by
  exfalso
  obtain⟨s,y,h1,_,h2⟩:=h1
  have h2:=oU h2
  unfold lR at h1
  by_cases hi:i<js.length
  ·rw[List.getElem?_append_left (by simpa using hi),List.getElem?_map] at h1
   cases ej:js[i]? with
   |none=>rw[ej] at h1;cases h1
   |some j=>
    rw[ej] at h1
    have e':iV ((ρ[j]?).getD .no)=s:=Option.some.inj h1
    subst e'
    cases q:(ρ[j]?).getD .no<;>rw[q] at h2<;>cases h2
  ·rw[List.getElem?_append_right (by simpa using hi),List.getElem?_replicate] at h1
   split at h1
   ·cases h1;cases h2
   ·cases h1
def Rel.rebase{H1 F1:Hp}{D:Addr}{ys zs:List V}(hD:H1 D=none)(hF:F1 D=none)(rel:Rel K (uI F1 H1 (upd H1 D (.lst ys))) F H σ ρ):Rel K (uI F1 H1 (upd H1 D (.lst zs))) F (upd H D (.lst zs)) σ ρ:= by
 have fD:F D=none:=rel.h_ D (by show upd H1 D _ D≠none;rw[ĭ];intro z;cases z) hF
 have lD:∀b u,(uI F1 H1 (upd H1 D (.lst ys))).L b=some u->b≠D:=λb u e z=>by
  have q:=(iu (F:=F1) (H:=H1) (a:=b) (u:=u) e).1
  rw[z,hD] at q
  cases q
 have ne:∀b,(uI F1 H1 (upd H1 D (.lst ys))).B b=none->b≠D:=λb z q=>by
  subst q
  have z':upd H1 b (.lst ys) b=none:=z
  rw[ĭ] at z';cases z'
 have back:∀b,b≠D->(uI F1 H1 (upd H1 D (.lst ys))).B b=none->(uI F1 H1 (upd H1 D (.lst zs))).B b=none:=λb hb z=>by
  have z':upd H1 D (.lst ys) b=none:=z
  show upd H1 D (.lst zs) b=none
  rw[ě hb] at z' ⊢;exact z'
 refine⟨λb u e=>?_,λb u e=>?_,rel.f0,λb h1 h2=>?_,λb u e=>?_,λb e=>?_,rel.len,λi s e=>?_,rel.sep⟩
 ·have hb:b≠D:=λz=>by rw[z,fD] at e;cases e
  rw[ě hb];exact rel.sub b u e
 ·by_cases hb:b=D
  ·subst hb
   have e':upd H1 b (.lst zs) b=some u:=e
   rw[ĭ] at e' ⊢;exact e'
  ·have e':upd H1 D (.lst zs) b=some u:=e
   rw[ě hb] at e' ⊢
   exact rel.base b u (by show upd H1 D _ b=some u;rw[ě hb];exact e')
 ·refine rel.h_ b (λz=>h1 ?_) h2
  exact back b (ne b z) z
 ·rw[ě (lD b u e)]
  exact rel.lent b u e
 ·refine rel.lb b ?_
  have z':upd H1 D (.lst zs) b=none:=e
  have hb:b≠D:=λq=>by rw[q,ĭ] at z';cases z'
  show upd H1 D (.lst ys) b=none
  rw[ě hb] at z' ⊢;exact z'
 ·have q:=rel.slot i s e
  cases s with
  |no=>trivial
  |sh p=>exact q
  |bw ps=>exact q
  |ow ps=>
   obtain⟨a,vs,q1,q2,q3,q4,q5⟩:=q
   have hb:=ne a q4
   exact⟨a,vs,q1,by rw[ě hb];exact q2,q3,back a hb q4,q5⟩
  |rc C ns ps=>
   obtain⟨a,dx,fs,q1,q2,q3,q4,q5⟩:=q
   have hb:=ne a q4
   exact⟨a,dx,fs,q1,by rw[ě hb];exact q2,q3,back a hb q4,q5⟩
  |ot ps qs=>
   obtain⟨p,a,xs,vs,q1,q0,qx,q2,q3,q4,q5⟩:=q
   have hb:=ne a q4
   exact⟨p,a,xs,vs,q1,q0,qx,by rw[ě hb];exact q2,q3,back a hb q4,q5⟩
  |ol GX=>
   obtain⟨p,as,q1,q0,qn,qp⟩:=q
   refine⟨p,as,q1,q0,qn,Lp qp λa ps _ ⟨vs,q2,q3,q4,q5⟩=>?_⟩
   have hb:=ne a q4
   exact⟨vs,by rw[ě hb];exact q2,q3,back a hb q4,q5⟩
end
section
variable{X:Cx}{cm:String->Addr}{E:L2.St->XK}{elt tg iter:Expr}{ifs:List Expr}{scope:Scope}{pos:Pos}{mi:M (List PV)}{g:Tg}{mt:M Bool}{me:M PV}
def Ŝ:Ug X [] (tB (kk X cm) E Ŏ):=λpins s σ H Q I h=>Rm pins s σ H Q I (by
 obtain⟨c,F,ρ,rel,h⟩:=h
 exact h true F H rel (Same.refl _) (Same.refl _) rfl)
def Dj{a:Expr}(h:PT X a (tB (kk X cm) E mt)):Ug X [a] (tB (kk X cm) E mt):=Rn h
def z_{js:List Nat}{nl:Nat}{σ:L2.St}{H:Hp}{Q:VK}(h:tO (kk X cm) E (ś js nl mi g mt me) σ H Q):KR js nl (tI (kk X cm) E mi) (tT (kk X cm) g) (tB (kk X cm) EF mt) (tV (kk X cm) EF me) σ H Q:=by
 obtain⟨c,F,ρ,rel,h⟩:=h
 refine⟨c,F,ρ,rel,h.bind λitems ρ1 J F1 H1 Ġ s1 s2 ito h1=>?_⟩
 intro D hD
 have hF:F1 D=none:=Ġ.sub.free hD
 cases ec:Ŕ g mt me items (lR js nl ρ1) [] with
 |none=>rw[ec] at h1;exact h1.elim
 |some res=>
  rw[ec] at h1
  refine⟨λi m σ' H'=>∃F' ρ' ys acc,i<=items.length/\m=items.length-i/\Rel (kk X cm) (uI F1 H1 (upd H1 D (.lst ys))) F' H' σ' ρ'/\Ħ (kk X cm) F' acc ys/\Ŕ g mt me (items.drop i) ρ' acc=some res,
   ⟨_,F1,_,[],[],Nat.zero_le _,rfl,?_,Ħ.nil,ec⟩,?_⟩
  ·exact Ġ.cap js nl hD
  ·rintro i m σ2 H2 ⟨F2,ρ2,ys,acc,hle,rfl,ő,ra,h2⟩
   have s12:Same F1 F2:=ő.f0
   have Zd1:∀{b:Addr} {u:HO},c.L b=some u->(uI F1 H1 (upd H1 D (.lst ys))).L b=some u:=fun{b u} e=>by
    obtain⟨l1,l2⟩:=Ġ.lent b u e
    show(match F1 b with|none=>H1 b|some _=>none)=some u
    rw[l2]
    exact l1
   obtain⟨go,stop⟩:=ito _ i F2 H2 σ2 ρ2 ő s12 λb u e=>(ő.lent b u (Zd1 e)).1
   have hH2:H2 D=some (.lst ys):=ő.base D _ (show upd H1 D _ D=_ from ĭ)
   have fD:F2 D=none:=ő.h_ D (by show upd H1 D _ D≠none;rw[ĭ];intro z;cases z) hF
   by_cases hlt:i<items.length
   ·obtain⟨g1,g2⟩:=go items[i] (List.getElem?_eq_getElem hlt)
    rw[List.drop_eq_getElem_cons hlt] at h2
    unfold Ŕ at h2
    refine .inr ⟨g1,_,λσ' H' z=>z,λx H3 hy=>?_⟩
    obtain⟨F3,nH,s3,sH3,rp⟩:=g2 x H3 hy
    refine⟨_,F3,ρ2,items[i],nH,rp,?_⟩
    cases eg:g items[i] ρ2 with
    |none=>rw[eg] at h2;cases h2
    |some ρ3=>
     rw[eg] at h2
     dsimp only at h2
     intro σ4 zX
     refine⟨_,F3,ρ3,zX,?_⟩
     cases em:mt ρ3 with
     |bad=>rw[em] at h2;cases h2
     |exc x ρ4=>rw[em] at h2;cases h2
     |ok b ρ4=>
      rw[em] at h2
      intro b' F5 H5 Zd2 s5 Um eb
      have eb':b=b':=eb
      subst eb'
      cases b with
      |false=>
       rw[if_neg Bool.false_ne_true]
       dsimp only at h2
       exact⟨items.length-(i+1),by omega,F5,ρ4,ys,acc,hlt,rfl,Zd2,Ħ.same (s3.trans s5) acc ys ra,h2⟩
      |true=>
       rw[if_pos rfl]
       dsimp only at h2
       refine⟨_,F5,ρ4,Zd2,?_⟩
       cases ee:me ρ4 with
       |bad=>rw[ee] at h2;cases h2
       |exc x ρ5=>rw[ee] at h2;cases h2
       |ok q ρ5=>
        rw[ee] at h2
        dsimp only at h2
        intro y F6 H6 Zd3 s6 RM rq
        split at h2
        ·rename_i hz
         have ra6:=Ħ.same ((s3.trans s5).trans s6) acc ys ra
         refine⟨ys,Zd3.base D _ (show upd H1 D _ D=_ from ĭ),by rw[<-ra6.length,Ś];exact hz,?_⟩
         exact⟨items.length-(i+1),by omega,F6,ρ5,ys ++ [y],acc ++ [q],hlt,rfl,Zd3.rebase hD hF,Ħ.append ra6 (Ħ.cons rq Ħ.nil),h2⟩
        ·cases h2
   ·have e:i=items.length:=by omega
    refine .inl ⟨stop e,?_⟩
    rw[List.drop_eq_nil_of_le (by omega)] at h2
    unfold Ŕ at h2
    cases h2
    have gr:Gr F1 H1 F2 H2:=⟨λb u e=>ő.base b u (by show upd H1 D _ b=_;rw[ě (Ĩ e hD)];exact e),s12,ő.sub,λb hb hf=>ő.h_ b (by
     show upd H1 D _ b≠none
     by_cases hbD:b=D
     ·rw[hbD,ĭ];intro z;cases z
     ·rw[ě hbD];exact hb) hf⟩
    have Zgg:=Ġ.call gr
    exact h1 _ F2 H2 Zgg s12 gr.h ⟨D,ys,rfl,hH2,fD,Ġ.base.free hD,Ġ.wN gr.f (Ġ.fresh hD),ra⟩
def ű(N':List Str)(js:List Nat)(nl:Nat)(sc:Scope)(hsc:X.env.scope=sc)(hcalm:X.calm=true)
 (hi:PI X.bR tg iter (tI (kk X cm) E mi))(hg:∀cl C s H fp,PG (lA X.bR N' scope cl C s H fp) tg (tT (kk X cm) g))(ht:∀cl C s H fp,Ug (lA X.bR N' scope cl C s H fp) ifs (tB (kk X cm) EF mt))(he:∀cl C s H fp,PE (lA X.bR N' scope cl C s H fp) elt (tV (kk X cm) EF me))
 (hcap:jW X.bR sc scope N' js)(hlen:js.length+nl=N'.length:=by rfl)
 (hk:scope.kind=.function:=by rfl)(hcell:∀y∈scope.names,y.2=.cell->scope.names.lookup y.1=some .cell:=by decide +kernel)(hnames:∀y∈scope.names,y.2=.local->scope.names.lookup y.1=some .local:=by decide +kernel)
 (hfree:∀y∈scope.names,y.2=.free->(sc.names.lookup y.1=some .cell\/sc.names.lookup y.1=some .free):=by decide +kernel)
 (hs:∀x,foldedSetIterable iter X.env x=pure x:=by intro _;rfl) :
 PE X (.ListComp elt [⟨tg,iter,ifs,0⟩] scope pos) (tO (kk X cm) E (ś js nl mi g mt me)):=
 PE.wk (PE.bR (Ro N' js nl sc hsc hcalm hi hg ht he hcap hlen hk hcell hnames hfree hs)) λ_ _ _ h=>z_ h
end
end P
namespace P
open PySem PySem.Spec PyProof.Rows L2 M2 M3 M4
abbrev bits(x:Int):Nat:=Builtin.Int.intBits x
section
variable{X:Cx}{cm:String->Addr}{K:KK}
def Uo(K:PySem.W.Frag):R2:=λx y H Q=>∃l b xs zs,x=.ref l/\y=.ref b/\bD K H l xs/\bD K H b zs/\xs.length+zs.length<=sizeLine/\∀p,H p=none->Q (.ref p) (upd H p (.lst (xs++zs)))
def RN:bC X (binaryOp .Add) (Uo X.K):=by
 intro pins s σ H x y v u Q I rx ry h
 obtain⟨l,b,xs,zs,rfl,rfl,hH,hB,hz,q⟩:=h
 cases rx
 cases ry
 obtain⟨its,r,pl,z⟩:=I.list hH
 obtain⟨its2,r2,pl2,z2⟩:=I.list hB
 obtain⟨⟨c1,d1,t1,sl1⟩,n,e,hc,hd,hs⟩:=pl
 obtain⟨⟨c2,d2,t2,sl2⟩,n2,e2,hc2,hd2,hs2⟩:=pl2
 simp only at hc hd hs hc2 hd2 hs2
 subst hc hd hs hc2 hd2 hs2
 have hl:=r.length
 have hl2:=r2.length
 have ea:its.toArray++its2.toArray=(its++its2).toArray:=by simp
 refine concat_meets ⟨_,e,rfl⟩ ⟨_,e2,rfl⟩ noFill_list_add seq_list_add PySem.F.slot_list_add PySem.F.entry_list_add (PySem.F.args_list_add_2 _ _) (list_addW l b its.toArray its2.toArray n n2 none none sl1 sl2 (by simp only[List.size_toArray];omega)) ⟨e,e2,?_⟩
 rw[ea]
 exact⟨.ref _,_,I.Zf8 (t':=s.toks) (r.append r2) (by rw[List.length_append];omega),rfl,q _ I.fresh⟩
def Uq(K:PySem.W.Frag):R2:=λx y H Q=>∃l b xs zs,x=.ref l/\y=.ref b/\iH K H l xs/\iH K H b zs/\xs≠[]/\zs≠[]/\xs.length+zs.length<=sizeLine/\∀p,H p=none->Q (.ref p) (upd H p (.tup (xs++zs)))
def RP:bC X (binaryOp .Add) (Uq X.K):=by
 intro pins s σ H x y v u Q I rx ry h
 obtain⟨l,b,xs,zs,rfl,rfl,hH,hB,nx,nz,hz,q⟩:=h
 cases rx
 cases ry
 obtain⟨its,r,pl,z⟩:=I.tuple hH
 obtain⟨its2,r2,pl2,z2⟩:=I.tuple hB
 obtain⟨⟨c1,d1,t1,sl1⟩,e,hc,n,hd⟩:=pl
 obtain⟨⟨c2,d2,t2,sl2⟩,e2,hc2,n2,hd2⟩:=pl2
 simp only at hc hd hc2 hd2
 subst hc hd hc2 hd2
 have hl:=r.length
 have hl2:=r2.length
 have ne1:its≠[]:=λz=>by rw[z] at hl;exact nx (List.length_eq_zero_iff.mp hl)
 have ne2:its2≠[]:=λz=>by rw[z] at hl2;exact nz (List.length_eq_zero_iff.mp hl2)
 have ea:its.toArray++its2.toArray=(its++its2).toArray:=by simp
 refine concat_meets ⟨_,e,rfl⟩ ⟨_,e2,rfl⟩ noFill_tuple_add seq_tuple_add PySem.F.slot_tuple_add PySem.F.entry_tuple_add (PySem.F.args_tuple_add_2 _ _) (tuple_addW2 l b its.toArray its2.toArray n n2 d1 d2 sl1 sl2 (by simpa using ne1) (by simpa using ne2) (by simp only[List.size_toArray];omega)) ⟨e,e2,?_⟩
 rw[ea]
 exact⟨.ref _,_,I.laid (o:=.tup (xs++zs)) (t':=s.toks) (λ_ _ q=>Heap.get?_push_of_some _ q) (Nat.le_refl _) ⟨by rw[List.length_append];omega,(its++its2),r.append r2,⟨_,Heap.get?_push_size _ rfl,rfl,_,rfl⟩⟩,rfl,q _ I.fresh⟩
def Ķ:PV->PV->Option RV
 | .int i,.int j=>some (.sh (.int (i+j)))
 | .str i,.str j=>if i.length+j.length<=16777216 then some (.sh (.str (i++j))) else none
 | .lst ps,.lst qs=>if ps.length+qs.length<=16777216 then some (.ow (ps++qs)) else none
 | .tup (p::ps),.tup (q::qs)=>if(p::ps).length+(q::qs).length<=16777216 then some (.sh (.tup ((p::ps)++(q::qs)))) else none
 |_,_=>none
def Ur(K:PySem.W.Frag):R2:=λx y H Q=>ZdP x y H Q\/(Uo K x y H Q\/Uq K x y H Q)
def ı:bC X (binaryOp .Add) (Ur X.K):=Zbt.or (RN.or RP)
def Ĳ:OpO K (Ur K.K) Ķ:=by
 intro c F H σ ρ p q pv v u Q rel r1 r2 e k
 unfold Ķ at e
 split at e
 ·cases e
  cases r1.int
  cases r2.int
  exact .inl (k _ F H rel (Same.refl _) (Same.refl _) (Rep.int (K:=K) (F:=F)))
 ·split at e
  ·rename_i hz
   cases e
   cases r1.str
   cases r2.str
   exact .inl ⟨by rw[Ś];exact hz,k _ F H rel (Same.refl _) (Same.refl _) (Rep.str (K:=K) (F:=F))⟩
  ·cases e
 ·split at e
  ·rename_i hz
   cases e
   obtain⟨a,xs,rfl,h1,h2⟩:=r1.lst rel.sub
   obtain⟨b,ys,rfl,h3,h4⟩:=r2.lst rel.sub
   refine .inr (.inl ⟨a,b,xs,ys,rfl,rfl,h1,h3,by rw[<-h2.length,<-h4.length,Ś];exact hz,λd hd=>?_⟩)
   obtain⟨q1,q2⟩:=jZ rel hd (Ħ.append h2 h4)
   exact k _ F _ q1 (Same.refl _) (Same.upd hd) q2
  ·cases e
 ·split at e
  ·rename_i hz
   cases e
   obtain⟨a,xs,rfl,h1,h2⟩:=r1.tup rel.sub
   obtain⟨b,ys,rfl,h3,h4⟩:=r2.tup rel.sub
   have l1:=h2.length
   have l2:=h4.length
   refine .inr (.inr ⟨a,b,xs,ys,rfl,rfl,h1,h3,(λz=>by rw[z] at l1;cases l1),(λz=>by rw[z] at l2;cases l2),by rw[<-l1,<-l2,Ś];exact hz,λl hl=>k _ _ _ (rel.alloc hl) (Same.upd (rel.sub.free hl)) (Same.upd hl) ?_⟩)
   show Rep K _ _ _
   unfold Rep
   exact⟨l,xs++ys,rfl,iH.of ĭ,Ħ.same (Same.upd (rel.sub.free hl)) _ _ (Ħ.append h2 h4)⟩
  ·cases e
 ·cases e
def zP(g:Int->Int->Int):PV->PV->Option PV
 | .int i,.int j=>some (.int (g i j))
 |_,_=>none
def Gx(C:Int->Int->Bool)(g:Int->Int->Int):PV->PV->Option PV
 | .int i,.int j=>if C i j=true then some (.int (g i j)) else none
 |_,_=>none
def opC(g:Int->Int->Bool):PV->PV->Option PV
 | .int i,.int j=>some (.bl (g i j))
 |_,_=>none
def Us{g:Int->Int->Int}:lY K (CP λi j=>.int (g i j)) (zP g):=by
 intro c F H σ ρ p q pv v u Q rel r1 r2 e k
 unfold zP at e
 split at e
 ·cases e
  cases r1.int
  cases r2.int
  exact k _ F H rel (Same.refl _) (Same.refl _) Rep.int
 ·cases e
def RQ{g:Int->Int->Bool}:lY K (CP λi j=>.bl (g i j)) (opC g):=by
 intro c F H σ ρ p q pv v u Q rel r1 r2 e k
 unfold opC at e
 split at e
 ·cases e
  cases r1.int
  cases r2.int
  exact k _ F H rel (Same.refl _) (Same.refl _) Rep.bl
 ·cases e
def Ly{C:Int->Int->Bool}{C':Int->Int->Prop}{g:Int->Int->Int}(hC:∀i j,C i j=true->C' i j):lY K (mI C' λi j=>.int (g i j)) (Gx C g):=by
 intro c F H σ ρ p q pv v u Q rel r1 r2 e k
 unfold Gx at e
 split at e
 ·split at e
  ·rename_i hc
   cases e
   cases r1.int
   cases r2.int
   exact⟨hC _ _ hc,k _ F H rel (Same.refl _) (Same.refl _) Rep.int⟩
  ·cases e
 ·cases e
def au:=zP λi j=>i-j
def š:lY K (CP λi j=>.int (i-j)) au:=Us
def kE(_ j:Int):Bool:=decide (j≠0) && decide (bits j<=8000)
def bK:=Gx kE λi j=>i.fdiv j
def aC:lY K (mI Ji λi j=>.int (i.fdiv j)) bK:=Ly λi j h=>by unfold kE at h;simpa[Ji] using h
def Hl(_ j:Int):Bool:=decide (j≠0)
def ō:=Gx Hl λi j=>i.fmod j
def Ľ:lY K (mI (λ_ j=>j≠0) λi j=>.int (i.fmod j)) ō:=Ly λi j h=>by unfold Hl at h;simpa using h
def vm(i j:Int):Bool:=decide (0<=j) && decide (j.natAbs<=1000000) && decide (i.natAbs<18446744073709551616)
def pQ:=Gx vm λi j=>i ^ j.toNat
def oV:lY K (mI Ja λi j=>.int (i ^ j.toNat)) pQ:=Ly λi j h=>by
 unfold vm at h
 simp only[Bool.and_eq_true,decide_eq_true_eq] at h
 exact⟨h.1.1,by omega,by have:=h.2;simpa using this⟩
def iW(i j:Int):Bool:=decide (0<=j) && decide (j.natAbs<=1000000) && decide (i.natAbs<18446744073709551616)
def pR:=Gx iW λi j=>i*2 ^ j.toNat
def oW:lY K (mI Ja λi j=>.int (i*2 ^ j.toNat)) pR:=Ly λi j h=>by
 unfold iW at h
 simp only[Bool.and_eq_true,decide_eq_true_eq] at h
 exact⟨h.1.1,by omega,by have:=h.2;simpa using this⟩
def Aa(_ j:Int):Bool:=decide (0<=j)
def pU:=Gx Aa λi j=>i / 2 ^ j.toNat
def wR:lY K (mI (λ_ j=>0<=j) λi j=>.int (i / 2 ^ j.toNat)) pU:=Ly λi j h=>by unfold Aa at h;simpa using h
def rQ:=zP λi j=>Builtin.bitAnd i j
def Ho:lY K (CP λi j=>.int (Builtin.bitAnd i j)) rQ:=Us
def oX:bC X (binaryOp .LShift) (mI Ja λi j=>.int (i*2 ^ j.toNat)):=bC.wk Za_ uY
def wU:bC X (binaryOp .RShift) (mI (λ_ j=>0<=j) λi j=>.int (i / 2 ^ j.toNat)):=bC.wk Zba uY
def Hq:bC X (binaryOp .BitAnd) (CP λi j=>.int (Builtin.bitAnd i j)):=bC.wk Zbb oM
def lU:=opC λi j=>decide (i<j)
def nJ:=opC λi j=>decide (i<=j)
def RT:=opC λi j=>decide (j<i)
def Lz:=opC λi j=>decide (j<=i)
def gJ:lY K (CP λi j=>.bl (decide (i<j))) lU:=RQ
def jB:lY K (CP λi j=>.bl (decide (i<=j))) nJ:=RQ
def Ut:lY K (CP λi j=>.bl (decide (j<i))) RT:=RQ
def Zd4:lY K (CP λi j=>.bl (decide (j<=i))) Lz:=RQ
def Ť(i j:Int):Bool:=decide (i.natAbs<18446744073709551616) || decide (j.natAbs<18446744073709551616) || (decide (bits i<=1048576) && decide (bits j<=1048576))
def LC{i j:Int}(h:Ť i j=true):uZ i j:=by
 unfold Ť at h
 simp only[Bool.or_eq_true,Bool.and_eq_true,decide_eq_true_eq] at h
 rcases h with(h|h)|h
 ·exact .inl (.inl ⟨by omega,by omega⟩)
 ·exact .inl (.inr ⟨by omega,by omega⟩)
 ·exact .inr h
def Ĺ:PV->PV->Option PV
 | .int i,.int j=>if Ť i j=true then some (.int (i*j)) else none
 | .str z,.int n=>if 0<=n/\n<=1000/\z.length<=1000 then some (.str (S (List.replicate n.toNat z.cps.toList).flatten)) else none
 |_,_=>none
def ń:lY K Ld Ĺ:=by
 intro c F H σ ρ p q pv v u Q rel r1 r2 e k
 unfold Ĺ at e
 split at e
 ·split at e
  ·rename_i hc
   cases e
   cases r1.int
   cases r2.int
   exact⟨LC hc,k _ F H rel (Same.refl _) (Same.refl _) Rep.int⟩
  ·cases e
 ·split at e
  ·rename_i hc
   cases e
   cases r1.str
   cases r2.int
   exact⟨hc,k _ F H rel (Same.refl _) (Same.refl _) Rep.str⟩
  ·cases e
 ·cases e
variable{E:L2.St->XK}{a b e:Expr}{es:List Expr}{pos:Pos}{ma mb:M PV}{mr:M (List PV)}
def iY:PV->Option PV
 | .int i=>some (.int (-i))
 |_=>none
def iy:UnV K (mU λi=>.int (-i)) iY:=by
 intro c F H σ ρ p pv v Q rel r1 e k
 unfold iY at e
 split at e
 ·cases e
  cases r1.int
  exact k _ F H rel (Same.refl _) (Same.refl _) Rep.int
 ·cases e
mutual
def eqB:PV->PV->Bool
 | .non,.non=>true
 | .bl a,.bl b=>a== b
 | .bl a,.int j=>(if a then 1 else 0)== j
 | .int i,.bl b=>i== (if b then 1 else 0)
 | .int i,.int j=>i== j
 | .str x,.str y=>x== y
 | .lst xs,.lst ys=>lV xs ys
 | .tup xs,.tup ys=>lV xs ys
 |_,_=>false
def lV:List PV->List PV->Bool
 | [],[]=>true
 |x::xs,y::ys=>eqB x y && lV xs ys
 |_,_=>false
end
mutual
def dB:PV->Bool
 | .non| .bl _| .int _=>true
 | .str x=>PyData.strOk x
 | .lst xs=>ji xs
 | .tup xs=>ji xs
 |_=>false
def ji:List PV->Bool
 | []=>true
 |x::xs=>dB x && ji xs
end
mutual
def dep:PV->Nat
 | .lst xs=>Dk xs+1
 | .tup xs=>Dk xs+1
 |_=>0
def Dk:List PV->Nat
 | []=>0
 |x::xs=>max (dep x) (Dk xs)
end
mutual
def toD:PV->PyData
 | .non=>.none
 | .bl b=>.bool b
 | .int i=>.int i
 | .str x=>.str x
 | .lst xs=>.list (iZ xs)
 | .tup xs=>.tuple (iZ xs)
 |_=>.none
def iZ:List PV->List PyData
 | []=>[]
 |x::xs=>toD x::iZ xs
end
mutual
theorem jj:∀p:PV,dB p=true->(toD p).canLay0=true
 | .non,_=>rfl
 | .bl _,_=>rfl
 | .int _,_=>rfl
 | .str x,h=>by unfold dB at h;unfold toD PyData.canLay0;exact h
 | .lst xs,h=>by unfold dB at h;unfold toD PyData.canLay0;exact kI xs h
 | .tup xs,h=>by unfold dB at h;unfold toD PyData.canLay0;exact kI xs h
 | .ins _ _ _,h=>by simp[dB] at h
 | .xc _ _ _,h=>by simp[dB] at h
 | .ty _,h=>by simp[dB] at h
 | .cls _,h=>by simp[dB] at h
theorem kI:∀ps:List PV,ji ps=true->PyData.canLayAll0 (iZ ps)=true
 | [],_=>rfl
 |p::ps,h=>by
  unfold ji at h
  rw[Bool.and_eq_true] at h
  unfold iZ PyData.canLayAll0
  rw[jj p h.1,kI ps h.2]
  rfl
end
mutual
theorem jk:∀p:PV,(toD p).depth=dep p
 | .non=>rfl
 | .bl _=>rfl
 | .int _=>rfl
 | .str x=>rfl
 | .lst xs=>by unfold toD PyData.depth dep;rw[rT xs]
 | .tup xs=>by unfold toD PyData.depth dep;rw[rT xs]
 | .ins _ _ _=>rfl
 | .xc _ _ _=>rfl
 | .ty _=>rfl
 | .cls _=>rfl
theorem rT:∀ps:List PV,PyData.depthAll (iZ ps)=Dk ps
 | []=>rfl
 |p::ps=>by unfold iZ PyData.depthAll Dk;rw[jk p,rT ps]
end
mutual
theorem wV:∀p q:PV,dB p=true->dB q=true->PyData.eqv (toD p) (toD q)=eqB p q
 | .lst xs,.lst ys,h1,h2=>by
   unfold dB at h1 h2
   unfold toD eqB PyData.eqv
   exact wW xs ys h1 h2
 | .tup xs,.tup ys,h1,h2=>by
   unfold dB at h1 h2
   unfold toD eqB PyData.eqv
   exact wW xs ys h1 h2
 | .ins _ _ _,_,h,_=>by simp[dB] at h
 | .xc _ _ _,_,h,_=>by simp[dB] at h
 | .ty _,_,h,_=>by simp[dB] at h
 | .cls _,_,h,_=>by simp[dB] at h
 | .non,q,_,h=>by cases q<;>first|rfl|(simp[dB] at h)|(simp[toD,eqB,PyData.eqv])
 | .bl _,q,_,h=>by cases q<;>first|rfl|(simp[dB] at h)|(simp[toD,eqB,PyData.eqv])
 | .int _,q,_,h=>by cases q<;>first|rfl|(simp[dB] at h)|(simp[toD,eqB,PyData.eqv])
 | .str _,q,_,h=>by cases q<;>first|rfl|(simp[dB] at h;done)|(simp[toD,eqB,PyData.eqv])
 | .lst _,.non,_,_=>by simp[toD,eqB,PyData.eqv]
 | .lst _,.bl _,_,_=>by simp[toD,eqB,PyData.eqv]
 | .lst _,.int _,_,_=>by simp[toD,eqB,PyData.eqv]
 | .lst _,.str _,_,_=>by simp[toD,eqB,PyData.eqv]
 | .lst _,.tup _,_,_=>by simp[toD,eqB,PyData.eqv]
 | .lst _,.ins _ _ _,_,h=>by simp[dB] at h
 | .lst _,.xc _ _ _,_,h=>by simp[dB] at h
 | .lst _,.ty _,_,h=>by simp[dB] at h
 | .lst _,.cls _,_,h=>by simp[dB] at h
 | .tup _,.non,_,_=>by simp[toD,eqB,PyData.eqv]
 | .tup _,.bl _,_,_=>by simp[toD,eqB,PyData.eqv]
 | .tup _,.int _,_,_=>by simp[toD,eqB,PyData.eqv]
 | .tup _,.str _,_,_=>by simp[toD,eqB,PyData.eqv]
 | .tup _,.lst _,_,_=>by simp[toD,eqB,PyData.eqv]
 | .tup _,.ins _ _ _,_,h=>by simp[dB] at h
 | .tup _,.xc _ _ _,_,h=>by simp[dB] at h
 | .tup _,.ty _,_,h=>by simp[dB] at h
 | .tup _,.cls _,_,h=>by simp[dB] at h
theorem wW:∀ps qs:List PV,ji ps=true->ji qs=true->PyData.eqvAll (iZ ps) (iZ qs)=lV ps qs
 | [],[],_,_=>by simp[iZ,lV,PyData.eqvAll]
 | [],_::_,_,_=>by simp[iZ,lV,PyData.eqvAll]
 |_::_,[],_,_=>by simp[iZ,lV,PyData.eqvAll]
 |p::ps,q::qs,h1,h2=>by
  unfold ji at h1 h2
  rw[Bool.and_eq_true] at h1 h2
  unfold iZ lV PyData.eqvAll
  rw[wV p q h1.1 h2.1,wW ps qs h1.2 h2.2]
end
mutual
theorem LK{F:Hp}:∀(p:PV) (v:V),dB p=true->Rep K F p v->Rp K.K F (toD p) v
 | .non,_,_,r=>by unfold Rep at r;unfold toD Rp;exact r
 | .bl _,_,_,r=>by unfold Rep at r;unfold toD Rp;exact r
 | .int _,_,_,r=>by unfold Rep at r;unfold toD Rp;exact r
 | .str _,_,_,r=>by unfold Rep at r;unfold toD Rp;exact r
 | .lst xs,_,h,r=>by
   unfold dB at h
   unfold Rep at r
   unfold toD Rp
   obtain⟨a,vs,h1,h2,h3⟩:=r
   exact⟨a,vs,h1,h2,lB xs vs h h3⟩
 | .tup xs,_,h,r=>by
   unfold dB at h
   unfold Rep at r
   unfold toD Rp
   obtain⟨a,vs,h1,h2,h3⟩:=r
   exact⟨a,vs,h1,h2,lB xs vs h h3⟩
 | .ins _ _ _,_,h,_=>by simp[dB] at h
 | .xc _ _ _,_,h,_=>by simp[dB] at h
 | .ty _,_,h,_=>by simp[dB] at h
 | .cls _,_,h,_=>by simp[dB] at h
theorem lB{F:Hp}:∀(ps:List PV) (vs:List V),ji ps=true->Ħ K F ps vs->oO K.K F (iZ ps) vs
 | [],_,_,r=>by unfold Ħ at r;unfold iZ oO;exact r
 |p::ps,_,h,r=>by
  unfold ji at h
  rw[Bool.and_eq_true] at h
  unfold Ħ at r
  unfold iZ oO
  obtain⟨x,t,h1,h2,h3⟩:=r
  exact⟨x,t,h1,LK p x h.1 h2,lB ps t h.2 h3⟩
end
def lE{c:Ctx}{F H:Hp}{σ:L2.St}{ρ:Ş}{p:PV}{v:V}(s:Same F H)(h:dB p=true)(r:rR K c σ ρ F H p v):Rp K.K H (toD p) v:=by
 rcases r with r|r
 ·exact Rp.same s _ _ (LK p v h r)
 ·cases p with
  |lst ps=>
   obtain⟨a,vs,rfl,h3,h4⟩:=r
   unfold dB at h
   unfold toD Rp
   exact⟨a,vs,rfl,bD.of h3,oO.same s _ _ (lB ps vs h h4)⟩
  |ins C ns ps=>simp[dB] at h
  |_=>exact r.elim
def wX(p q:PV):Bool:=dB p && dB q && decide (min (dep p) (dep q)<=60)
def aD(p q:PV):Option PV:=if wX p q=true then some (.bl (eqB p q)) else none
def dD(p q:PV):Option PV:=if wX p q=true then some (.bl (!eqB p q)) else none
def aF:lY K (Rk K.K false) aD:=by
 intro c F H σ ρ p q pv v u Q rel r1 r2 e k
 unfold aD at e
 split at e
 ·rename_i hz
  cases e
  unfold wX at hz
  simp only[Bool.and_eq_true,decide_eq_true_eq] at hz
  refine⟨toD p,toD q,lE rel.sub hz.1.1 r1,lE rel.sub hz.1.2 r2,jj p hz.1.1,jj q hz.1.2,by rw[jk,jk];exact hz.2,?_⟩
  rw[wV p q hz.1.1 hz.1.2]
  exact k _ F H rel (Same.refl _) (Same.refl _) Rep.bl
 ·cases e
def kJ:lY K (Rk K.K true) dD:=by
 intro c F H σ ρ p q pv v u Q rel r1 r2 e k
 unfold dD at e
 split at e
 ·rename_i hz
  cases e
  unfold wX at hz
  simp only[Bool.and_eq_true,decide_eq_true_eq] at hz
  refine⟨toD p,toD q,lE rel.sub hz.1.1 r1,lE rel.sub hz.1.2 r2,jj p hz.1.1,jj q hz.1.2,by rw[jk,jk];exact hz.2,?_⟩
  rw[wV p q hz.1.1 hz.1.2]
  exact k _ F H rel (Same.refl _) (Same.refl _) Rep.bl
 ·cases e
def uJ:PV->Bool
 | .non=>true
 |_=>false
def uK(p q:PV):Option PV:=match q with
 | .non=>some (.bl (uJ p))
 |_=>none
def jl(p q:PV):Option PV:=match q with
 | .non=>some (.bl (!uJ p))
 |_=>none
def Hr{c:Ctx}{F H:Hp}{σ:L2.St}{ρ:Ş}{p:PV}{v:V}(r:rR K c σ ρ F H p v):decide (v=.non)=uJ p:=by
 rcases r with r|r
 ·cases p<;>unfold Rep at r<;>first
   |(subst r;rfl)
   |(obtain⟨a,xs,rfl,_⟩:=r;rfl)
   |(obtain⟨a,xs,ys,rfl,_⟩:=r;rfl)
 ·cases p with
  |lst ps=>obtain⟨a,vs,rfl,_⟩:=r;rfl
  |ins C ns ps=>obtain⟨a,dx,fs,rfl,_⟩:=r;rfl
  |_=>exact r.elim
def Ab:lY K (λx y H Q=>y=.non/\Q (.bl (decide (x=.non))) H) uK:=by
 intro c F H σ ρ p q pv v u Q rel r1 r2 e k
 unfold uK at e
 split at e
 ·cases e
  refine⟨r2.non,?_⟩
  rw[Hr r1]
  exact k _ F H rel (Same.refl _) (Same.refl _) Rep.bl
 ·cases e
def rW:lY K (λx y H Q=>y=.non/\Q (.bl (!decide (x=.non))) H) jl:=by
 intro c F H σ ρ p q pv v u Q rel r1 r2 e k
 unfold jl at e
 split at e
 ·cases e
  refine⟨r2.non,?_⟩
  rw[Hr r1]
  exact k _ F H rel (Same.refl _) (Same.refl _) Rep.bl
 ·cases e
def Ę:PV->PV->Option PV
 | .lst ps,.int i=>uD ps i
 | .tup ps,.int i=>uD ps i
 | .str z,.int i=>if z.length<=16777216 then(uD z.cps.toList i).map λc=>.str ⟨#[c]⟩ else none
 |_,_=>none
def Hs{F:Hp}{ps:List PV}{vs:List V}{i:Int}{p:PV}(r:Ħ K F ps vs)(h:uD ps i=some p):∃v,uD vs i=some v/\Rep K F p v:=by
 unfold uD at h ⊢
 rw[r.length] at h
 cases e:CG vs.length i with
 |none=>rw[e] at h;cases h
 |some j=>
  rw[e] at h
  obtain⟨v,h1,h2⟩:=dz r.pr h
  exact⟨v,h1,h2⟩
def Đ:lY K (mIx K.K) Ę:=by
 intro c F H σ ρ p q pv v u Q rel r1 r2 e k
 unfold Ę at e
 split at e
 ·obtain⟨a,vs,rfl,h1,h2⟩:=r1.lst rel.sub
  cases r2.int
  obtain⟨x,h3,h4⟩:=Hs h2 e
  exact⟨vs,x,.inl h1,h3,k _ F H rel (Same.refl _) (Same.refl _) h4⟩
 ·obtain⟨a,vs,rfl,h1,h2⟩:=r1.tup rel.sub
  cases r2.int
  obtain⟨x,h3,h4⟩:=Hs h2 e
  exact⟨vs,x,.inr h1,h3,k _ F H rel (Same.refl _) (Same.refl _) h4⟩
 ·split at e
  ·rename_i z i hz
   cases r1.str
   cases r2.int
   cases ea:uD z.cps.toList i with
   |none=>rw[ea] at e;cases e
   |some cc=>
    rw[ea] at e
    cases e
    exact⟨cc,by rw[Ś];exact hz,ea,k _ F H rel (Same.refl _) (Same.refl _) Rep.str⟩
  ·cases e
 ·cases e
def Ac:M (Option Int):=λρ=>.ok none ρ
def mP(m:M PV):M (Option Int):=λρ=>(m ρ).bind λp ρ1=>match p with
 | .int i=>.ok (some i) ρ1
 |_=>.bad
abbrev tP(K:KK)(E:L2.St->XK)(m:M (Option Int)):TO:=tG K E rI m
def rY:PO X none (tP (kk X cm) E Ac):=λpins s σ H Q I h=>Ra pins s σ H Q I (by
 obtain⟨c,F,ρ,rel,h⟩:=h
 exact h none F H rel (Same.refl _) (Same.refl _) rfl)
def bL(ha:PE X e (tV (kk X cm) E ma)):PO X (some e) (tP (kk X cm) E (mP ma)):=λpins s σ H Q I h=>KN ha pins s σ H Q I (by
 obtain⟨c,F,ρ,rel,h⟩:=h
 refine⟨c,F,ρ,rel,h.bind λp ρ1 v F1 H1 Ġ _ _ r1 h1=>?_⟩
 cases p with
 |int i=>
  have e:v=.int i:=by have r1':Rep (kk X cm) F1 (.int i) v:=r1;unfold Rep at r1';exact r1'
  subst e
  exact h1 (some i) F1 H1 Ġ (Same.refl _) (Same.refl _) rfl
 |_=>exact h1.elim)
def eZ{α:Type}(xs:List α)(lo hi:Option Int):List α:= (xs.drop (HT.lQ xs.length 0 lo)).take (HT.lQ xs.length xs.length hi-HT.lQ xs.length 0 lo)
def RW(p:PV)(lo hi:Option Int):Option RV:=match p with
 | .lst ps=>some (.ow (eZ ps lo hi))
 | .str z=>if z.length<=16777216 then some (.sh (.str (S (eZ z.cps.toList lo hi)))) else none
 |_=>none
def Ad(ma:M PV)(ml mh:M (Option Int)):M RV:=λρ=>(ma ρ).bind λp ρ1=>(ml ρ1).bind λlo ρ2=>(mh ρ2).bind λhi ρ3=>Res.qX (RW p lo hi) ρ3
def cI{ml mh:M (Option Int)}{lo hi:Option Expr}{p2:Pos}(ha:PE X a (tR (kk X cm) E ma))(hl:PO X lo (tP (kk X cm) E ml))(hh:PO X hi (tP (kk X cm) E mh)):PE X (.Subscript a (.Slice lo hi none p2) pos) (tO (kk X cm) E (Ad ma ml mh)):=
 PE.wk (Ks slm ha hl hh) fun σ H Q ⟨c,F,ρ,rel,h⟩=>⟨c,F,ρ,rel,h.bind fun p ρ1 v F1 H1 Ġ _ _ r1 h1=>⟨c,F1,ρ1,Ġ,h1.bind fun lo ρ2 lo' F2 H2 ő sF sH r2 h2=>⟨c,F2,ρ2,ő,h2.bind fun hi ρ3 hi' F3 H3 nH sF3 sH3 r3 h3=>by
   have e2:lo=lo':=r2
   have e3:hi=hi':=r3
   subst e2 e3
   have r1':rR (kk X cm) c σ ρ3 F3 H3 p v:=r1.mono (sF.trans sF3) (sH.trans sH3)
   cases p with
   |lst ps=>
    obtain⟨a,vs,rfl,q1,q2⟩:=r1'.lst nH.sub
    refine⟨vs,q1,λd hd=>?_⟩
    have e:Ħ (kk X cm) F3 (eZ ps lo hi) (zR vs lo hi):=by
     unfold eZ zR
     rw[q2.length]
     exact Ħ.of (GQ _ (GR _ q2.pr))
    obtain⟨z1,z2⟩:=jZ nH hd e
    exact h3 _ F3 _ z1 (Same.refl _) (Same.upd hd) z2
   |str z=>
    cases r1'.str
    unfold RW at h3
    dsimp only at h3
    split at h3
    ·rename_i hz
     exact⟨by rw[Ś];exact hz,h3 _ F3 H3 nH (Same.refl _) (Same.refl _) (Rep.str (K:=kk X cm) (F:=F3))⟩
    ·exact h3.elim
   |_=>exact h3.elim⟩⟩⟩
def Dl{c:Ctx}{F H:Hp}{σ:L2.St}{ρ:Ş}{p:PV}{vs:List V}(h:rRL K c σ ρ F H [p] vs):∃v,vs=[v]/\rR K c σ ρ F H p v:=by
 cases h with
 |cons r t=>cases t;exact⟨_,rfl,r⟩
def rl2{c:Ctx}{F H:Hp}{σ:L2.St}{ρ:Ş}{p q:PV}{vs:List V}(h:rRL K c σ ρ F H [p,q] vs):∃v u,vs=[v,u]/\rR K c σ ρ F H p v/\rR K c σ ρ F H q u:=by
 cases h with
 |cons r t=>
  cases t with
  |cons r' t=>cases t;exact⟨_,_,rfl,r,r'⟩
def fj:List PV->Option PV
 | [.lst ps]=>some (.int ps.length)
 | [.tup ps]=>some (.int ps.length)
 | [.str z]=>if z.length<=16777216 then some (.int z.length) else none
 |_=>none
def aH:iR K (Zbw K.K) fj:=by
 intro c F H σ ρ ps pv vs Q rel r e k
 unfold fj at e
 split at e
 ·cases e
  obtain⟨v,rfl,r1⟩:=Dl r
  obtain⟨a,xs,rfl,h1,h2⟩:=r1.lst rel.sub
  refine⟨xs,.inl h1,?_⟩
  rw[<-h2.length]
  exact k _ F H rel (Same.refl _) (Same.refl _) Rep.int
 ·cases e
  obtain⟨v,rfl,r1⟩:=Dl r
  obtain⟨a,xs,rfl,h1,h2⟩:=r1.tup rel.sub
  refine⟨xs,.inr h1,?_⟩
  rw[<-h2.length]
  exact k _ F H rel (Same.refl _) (Same.refl _) Rep.int
 ·split at e
  ·rename_i hz
   cases e
   obtain⟨v,rfl,r1⟩:=Dl r
   cases r1.str
   exact⟨by rw[Ś];exact hz,k _ F H rel (Same.refl _) (Same.refl _) Rep.int⟩
  ·cases e
 ·cases e
def RX:List PV->Option PV
 | [.int i]=>some (.int (if i<0 then -i else i))
 |_=>none
def ZbG:iR K mAbs RX:=by
 intro c F H σ ρ ps pv vs Q rel r e k
 unfold RX at e
 split at e
 ·cases e
  obtain⟨v,rfl,r1⟩:=Dl r
  cases r1.int
  exact k _ F H rel (Same.refl _) (Same.refl _) Rep.int
 ·cases e
def vo:List PV->Option PV
 | [.int i,.int j]=>some (.int (if j<i then j else i))
 |_=>none
def Ht:List PV->Option PV
 | [.int i,.int j]=>some (.int (if j>i then j else i))
 |_=>none
def wY:iR K KH vo:=by
 intro c F H σ ρ ps pv vs Q rel r e k
 unfold vo at e
 split at e
 ·cases e
  obtain⟨v,u,rfl,r1,r2⟩:=rl2 r
  cases r1.int
  cases r2.int
  exact k _ F H rel (Same.refl _) (Same.refl _) Rep.int
 ·cases e
def RZ:iR K KJ Ht:=by
 intro c F H σ ρ ps pv vs Q rel r e k
 unfold Ht at e
 split at e
 ·cases e
  obtain⟨v,u,rfl,r1,r2⟩:=rl2 r
  cases r1.int
  cases r2.int
  exact k _ F H rel (Same.refl _) (Same.refl _) Rep.int
 ·cases e
def gK:List PV->Option RV
 | [.lst ps]=>some (.ow ps)
 | [.tup ps]=>some (.ow ps)
 |_=>none
def Hv(K:PySem.W.Frag):List V->Hp->VK->Prop:=λxs H Q=>∃p ys,xs=[.ref p]/\(bD K H p ys\/iH K H p ys)/\∀l,H l=none->Q (.ref l) (upd H l (.lst ys))
def fL:ų X (.type "list") (Hv X.K):=wJ
def fM:Ul K (Hv K.K) gK:=by
 intro c F H σ ρ ps pv vs Q rel r e k
 unfold gK at e
 split at e
 ·cases e
  obtain⟨v,rfl,r1⟩:=Dl r
  obtain⟨a,xs,rfl,h1,h2⟩:=r1.lst rel.sub
  refine⟨a,xs,rfl,.inl h1,λl hl=>?_⟩
  obtain⟨q1,q2⟩:=jZ rel hl h2
  exact k _ F _ q1 (Same.refl _) (Same.upd hl) q2
 ·cases e
  obtain⟨v,rfl,r1⟩:=Dl r
  obtain⟨a,xs,rfl,h1,h2⟩:=r1.tup rel.sub
  refine⟨a,xs,rfl,.inr h1,λl hl=>?_⟩
  obtain⟨q1,q2⟩:=jZ rel hl h2
  exact k _ F _ q1 (Same.refl _) (Same.upd hl) q2
 ·cases e
def uL:PV->String->Option Bool
 | .int _,"int" =>some true
 | .int _,"bool" =>some false
 | .int _,"str" =>some false
 | .int _,"tuple" =>some false
 | .int _,"list" =>some false
 | .bl _,"int" =>some true
 | .bl _,"bool" =>some true
 | .lst _,"list" =>some true
 | .lst _,"tuple" =>some false
 | .lst _,"int" =>some false
 | .lst _,"str" =>some false
 | .tup _,"tuple" =>some true
 | .tup _,"list" =>some false
 | .tup _,"int" =>some false
 | .tup _,"str" =>some false
 | .str _,"str" =>some true
 | .str _,"int" =>some false
 | .str _,"list" =>some false
 | .str _,"tuple" =>some false
 | .non,"int" =>some false
 | .non,"str" =>some false
 | .non,"tuple" =>some false
 | .non,"list" =>some false
 |_,_=>none
end
theorem Ae{K:KK}{F:Hp}:∀ns:List Int,Ħ K F (ns.map .int) (ns.map V.int)
 | []=>Ħ.nil
 |n::ns=>Ħ.cons Rep.int (Ae ns)
def Zd5(K:PySem.W.Frag):Sp:=λvs H Q _=>∃(sa:Addr) (ns:List Int),vs=[.ref sa]/\bD K H sa (ns.map V.int)/\ns.length<=63/\∀v H',v=.bl true->Q v H'
end P
namespace P
open PySem PySem.Spec PyProof.Rows L2 M2 M3 M4
section
variable{X:Cx}{cm:String->Addr}{K:KK}
def TyP(K:PySem.W.Frag)(H:Hp)(x:V)(t:Value):Prop:=match x with
 | .non=>t=.type "NoneType"
 | .bl _=>t=.type "bool"
 | .int _=>t=.type "int"
 | .str _=>t=.type "str"
 | .ref a=>(t=.type "list" /\∃xs,bD K H a xs)\/(t=.type "tuple" /\∃xs,iH K H a xs)\/oK K H (.ref a) t
 |_=>False
def Hw(K:PySem.W.Frag):List V->Hp->VK->Prop:=λxs H Q=>match xs with
 | [x,.ty n]=>∃t b,TyP K H x t/\PySem.W.kitOne K t (.type n)=some b/\Q (.bl b) H
 | [x,.ref C]=>∃t b,TyP K H x t/\PySem.W.kitOne K t (.ref C)=some b/\Q (.bl b) H
 |_=>False
def Hx{pins:List (Addr×Obj)}{σ:L2.St}{H:Hp}{s:Shared}{A:Around}{E:Value->Shared->Prop}{Q:Value->Shared->Prop}{c:Value}{b:Bool}{x:V}{u t:Value}(I:Inv X pins σ H s)(rx:RelV x u)(ty:TyP X.K H x t)(e:PySem.W.kitOne X.K t c=some b)(h:∀tk,Q (.bool b) {s with toks:=tk}) :
 wpAny (model X.prog X.w) A (call (.builtin "isinstance") [u,c]) Q E s:=by
 cases x with
 |non=>cases(show t=_ from ty);exact iJ I rx .non e h
 |bl y=>cases(show t=_ from ty);exact iJ I rx (.bl y) e h
 |int y=>cases(show t=_ from ty);exact iJ I rx (.int y) e h
 |str y=>cases(show t=_ from ty);exact iJ I rx (.str y) e h
 |ref a=>
  cases(show u=Value.ref a from rx)
  rcases ty with⟨rfl,xs,hS⟩|⟨rfl,xs,hS⟩|ty
  ·obtain⟨its,r,⟨o,n,h1,h2,_⟩,_⟩:=I.list hS
   exact PySem.W.kia_one PySem.W.kitx_list I.jR ⟨o,h1,h2⟩ e (λz=>nomatch z) h
  ·obtain⟨its,r,⟨o,h1,h2,_⟩,_⟩:=I.tuple hS
   exact PySem.W.kia_one PySem.W.kitx_tuple I.jR ⟨o,h1,h2⟩ e (λz=>nomatch z) h
  ·exact iJ I rx ty e h
 |_=>exact ty.elim
def ZbH:ų X (.builtin "isinstance") (Hw X.K):=by
 intro pins s σ H xs us Q I r h
 unfold Hw at h
 split at h
 ·obtain⟨t,b,h1,h2,h3⟩:=h
  obtain⟨u,w',rfl,r1,r2⟩:=vals2 r
  cases r2
  exact Hx I r1 h1 h2 λtk=>⟨.bl b,H,I.tok _,rfl,h3⟩
 ·obtain⟨t,b,h1,h2,h3⟩:=h
  obtain⟨u,w',rfl,r1,r2⟩:=vals2 r
  cases r2
  exact Hx I r1 h1 h2 λtk=>⟨.bl b,H,I.tok _,rfl,h3⟩
 ·exact h.elim
def tyN:PV->String
 | .non=> "NoneType"
 | .bl _=> "bool"
 | .int _=> "int"
 | .str _=> "str"
 | .lst _=> "list"
 | .tup _=> "tuple"
 |_=> ""
def LQ{F:PySem.W.Frag}{p:PV}{n:String}{b:Bool}(h:uL p n=some b):PySem.W.kitOne F (.type (tyN p)) (.type n)=some b:=by
 unfold uL at h
 split at h<;>first
  |(cases h;first|rfl|decide +kernel|kernel_rfl)
  |cases h
def R_{c:Ctx}{F H:Hp}{σ:L2.St}{ρ:Ş}{p:PV}{v:V}(s:Same F H)(r:rR K c σ ρ F H p v)(h:∃n b,uL p n=some b):TyP K.K H v (.type (tyN p)):=by
 obtain⟨n,b,h⟩:=h
 cases p with
 |non=>cases r.non;rfl
 |bl _=>cases r.bl;rfl
 |int _=>cases r.int;rfl
 |str _=>cases r.str;rfl
 |lst ps=>
  obtain⟨a,vs,rfl,h1,h2⟩:=r.lst s
  exact .inl ⟨rfl,vs,h1⟩
 |tup ps=>
  obtain⟨a,vs,rfl,h1,h2⟩:=r.tup s
  exact .inr (.inl ⟨rfl,vs,h1⟩)
 |ins _ _ _=>simp[uL] at h
 |xc _ _ _=>simp[uL] at h
 |ty _=>simp[uL] at h
 |cls _=>simp[uL] at h
def LR:List PV->Option PV
 | [p,.ty n]=>(uL p n).map .bl
 |_=>none
def L_:iR K (Hw K.K) LR:=by
 intro c F H σ ρ ps pv vs Q rel r e k
 unfold LR at e
 split at e
 ·rename_i p n
  obtain⟨v,u,rfl,r1,r2⟩:=rl2 r
  cases r2.ty
  cases eb:uL p n with
  |none=>rw[eb] at e;cases e
  |some b=>
   rw[eb] at e
   cases e
   exact⟨_,b,R_ rel.sub r1 ⟨n,b,eb⟩,LQ eb,k _ F H rel (Same.refl _) (Same.refl _) Rep.bl⟩
 ·cases e
def rZ:List PV->Option PV
 | [.lst ps]=>some (.tup ps)
 | [.tup ps]=>some (.tup ps)
 |_=>none
def Ma(K:PySem.W.Frag):List V->Hp->VK->Prop:=λxs H Q=>∃p ys,xs=[.ref p]/\((bD K H p ys/\∀l,H l=none->Q (.ref l) (upd H l (.tup ys)))\/(iH K H p ys/\Q (.ref p) H))
def Mf:ų X (.type "tuple") (Ma X.K):=uF
def Mg:iR K (Ma K.K) rZ:=by
 intro c F H σ ρ ps pv vs Q rel r e k
 unfold rZ at e
 split at e
 ·cases e
  obtain⟨v,rfl,r1⟩:=Dl r
  obtain⟨a,xs,rfl,h1,h2⟩:=r1.lst rel.sub
  refine⟨a,xs,rfl,.inl ⟨h1,λl hl=>k _ _ _ (rel.alloc hl) (Same.upd (rel.sub.free hl)) (Same.upd hl) ?_⟩⟩
  unfold Rep
  exact⟨l,xs,rfl,iH.of ĭ,Ħ.same (Same.upd (rel.sub.free hl)) _ _ h2⟩
 ·cases e
  obtain⟨v,rfl,r1⟩:=Dl r
  have r1':=r1
  obtain⟨a,xs,rfl,h1,h2⟩:=r1.tup rel.sub
  refine⟨a,xs,rfl,.inr ⟨h1,k _ F H rel (Same.refl _) (Same.refl _) ?_⟩⟩
  rcases r1' with q|q
  ·exact q
  ·exact q.elim
 ·cases e
def boolsOf:List PV->Option (List Bool)
 | []=>some []
 | .bl b::ps=>(boolsOf ps).map (b:: ·)
 |_::_=>none
theorem vp{F:Hp}:∀{ps:List PV} {vs:List V} {bs:List Bool},Ħ K F ps vs->boolsOf ps=some bs->vs=bs.map V.bl
 | [],vs,bs,r,h=>by
   cases h
   have r':=r.pr
   cases r'
   rfl
 |p::ps,vs,bs,r,h=>by
  cases p with
  |bl b=>
   unfold boolsOf at h
   cases eb:boolsOf ps with
   |none=>rw[eb] at h;cases h
   |some cs=>
    rw[eb] at h
    cases h
    have r':=r.pr
    cases r' with
    |cons r1 t=>
     rw[CZ r1,vp (Ħ.of t) eb]
     rfl
  |_=>simp[boolsOf] at h
def wZ:List PV->Option PV
 | [.lst ps]=>(boolsOf ps).map λbs=>.bl (bs.all id)
 |_=>none
def xg:iR K (Zbz K.K) wZ:=by
 intro c F H σ ρ ps pv vs Q rel r e k
 unfold wZ at e
 split at e
 ·rename_i ps
  obtain⟨v,rfl,r1⟩:=Dl r
  obtain⟨a,xs,rfl,h1,h2⟩:=r1.lst rel.sub
  cases eb:boolsOf ps with
  |none=>rw[eb] at e;cases e
  |some bs=>
   rw[eb] at e
   cases e
   refine⟨bs,by rw[<-vp h2 eb];exact h1,k _ F H rel (Same.refl _) (Same.refl _) Rep.bl⟩
 ·cases e
end
end P
namespace P
open PySem PySem.Spec PyProof.Rows L2 M2 M3 M4
section
variable{α β:Type}{ρ:Ş}{i j n k:Nat}{p q:PV}{ps:List PV}{m ma mb mc:M PV}{mo:M RV}{a b:M Fl}{ta tb:M Bool}{mr:M (List PV)}{f:PV->PV->Option PV}{fo:PV->PV->Option RV}{fl:List PV->Option PV}{flo:List PV->Option RV}{g:Tg}{gs:JT}
@[simp] theorem Zho:gH ρ=.ok .nx ρ:= rfl
@[simp] theorem Zgh:ģ a b ρ=(a ρ).bind λf ρ1=>match f with| .nx=>b ρ1|f=>.ok f ρ1:=rfl
@[simp] theorem Zgi:ķ i mo ρ=(mo ρ).bind λr ρ1=>.ok .nx (ρ1.set i r.slot):=rfl
@[simp] theorem Zgj:į mo ρ=(mo ρ).bind λr ρ1=>.ok (.rt r) ρ1:=rfl
@[simp] theorem Zfa:zY m ρ=(m ρ).bind λ_ ρ1=>.ok .nx ρ1:=rfl
@[simp] theorem ZhA:mC p ρ=.ok p ρ:= rfl
@[simp] theorem Zhp:ş m ρ=(m ρ).bind λp ρ1=>.ok (.sh p) ρ1:=rfl
@[simp] theorem Zgk:Ė mo ρ=(mo ρ).bind λr ρ1=>.ok r.val ρ1:=rfl
@[simp] theorem Zgl:(RV.sh p).val=p:=rfl
@[simp] theorem Zgm:(RV.ow ps).val=.lst ps:=rfl
@[simp] theorem Zgn:(RV.sh p).slot=.sh p:=rfl
@[simp] theorem Zgo:(RV.ow ps).slot=.ow ps:=rfl
@[simp] theorem Zgp:ć f ma mb ρ=(ma ρ).bind λp ρ1=>(mb ρ1).bind λq ρ2=>Res.qX (f p q) ρ2:=rfl
@[simp] theorem Zfb:ĺ fo ma mb ρ=(ma ρ).bind λp ρ1=>(mb ρ1).bind λq ρ2=>Res.qX (fo p q) ρ2:=rfl
@[simp] theorem Zhq{u:PV->Option PV}:jL u ma ρ=(ma ρ).bind λp ρ1=>Res.qX (u p) ρ1:=rfl
@[simp] theorem Zgq:iw m ρ=(m ρ).bind λp ρ1=>Res.qX (tru p) ρ1:=rfl
@[simp] theorem Zhr:dh m ρ=(m ρ).bind λp ρ1=>match p with| .bl b=>.ok b ρ1|_=>.bad:=rfl
@[simp] theorem Zfc:lZ ta ρ=(ta ρ).bind λb ρ1=>.ok (!b) ρ1:=rfl
@[simp] theorem Zfd:mj ta tb ρ=(ta ρ).bind λb ρ1=>if b=true then tb ρ1 else .ok false ρ1:=rfl
@[simp] theorem Zgr:qD ta tb ρ=(ta ρ).bind λb ρ1=>if b=true then .ok true ρ1 else tb ρ1:=rfl
@[simp] theorem Zgs:jg ma mb ρ=(ma ρ).bind fun p ρ1=>match p with| .bl b=>if b=true then mb ρ1 else .ok (.bl false) ρ1|_=>.bad:=by
  unfold jg
  congr
  funext p ρ1
  cases p with
  |bl b=>cases b<;>rfl
  |_=>rfl
@[simp] theorem Zhs{x y:M α}:gq ta x y ρ=(ta ρ).bind λb ρ1=>if b=true then x ρ1 else y ρ1:=rfl
@[simp] theorem Zgt{f g:PV→PV→Option PV}:qC f g ma mb mc ρ=(ma ρ).bind fun p ρ1=>(mb ρ1).bind fun q ρ2=>(Res.qX (f p q) ρ2).bind fun z ρ3=>match z with
  | .bl true=>(mc ρ3).bind λw ρ4=>Res.qX (g q w) ρ4
  | .bl false=>.ok (.bl false) ρ3
  |_=>.bad:=rfl
@[simp] theorem Zgu:ĝ ρ=.ok [] ρ:= rfl
@[simp] theorem Zfe:Ĉ ma mr ρ=(ma ρ).bind λp ρ1=>(mr ρ1).bind λps ρ2=>.ok (p::ps) ρ2:=rfl
@[simp] theorem Zgv:Ŧ mr ρ=(mr ρ).bind λps ρ1=>if ps.length<=16777216 then .ok (.tup ps) ρ1 else .bad:=rfl
@[simp] theorem Zgw:bV mr ρ=(mr ρ).bind λps ρ1=>if ps.length<=16777216 then .ok (.ow ps) ρ1 else .bad:=rfl
@[simp] theorem Zht:eY fl mr ρ=(mr ρ).bind λps ρ1=>Res.qX (fl ps) ρ1:=rfl
@[simp] theorem Zgx:qF flo mr ρ=(mr ρ).bind λps ρ1=>Res.qX (flo ps) ρ1:=rfl
@[simp] theorem Zff{mf:MF}{ms:M (List Slot)}:Ē mf ms ρ=(ms ρ).bind λps ρ1=>match mf ps with| .ret r=>.ok r ρ1| .exc x=>.exc x ρ1| .bad=>.bad:=rfl
@[simp] theorem Zhu:Ĥ i ρ=(match ρ[i]? with|some (.sh p)=>.ok p ρ|some (.ow ps)=>.ok (.lst ps) (ρ.set i (.sh (.lst ps)))|_=>.bad):=rfl
@[simp] theorem Zhv:ā i ρ=(match ρ[i]? with|some (.sh p)=>.ok p ρ|some (.ow ps)=>.ok (.lst ps) ρ|some (.bw ps)=>.ok (.lst ps) ρ|some (.rc C ns ps)=>.ok (.ins C ns ps) ρ|_=>.bad):=rfl
@[simp] theorem Zhw:cZ i ρ=(match ρ[i]? with|some (.sh p)=>.ok (.sh p) ρ|some (.ow ps)=>.ok (.ow ps) (ρ.set i .no)|_=>.bad):=rfl
@[simp] theorem Zgy:Jo g m ρ=(m ρ).bind λp ρ1=>match g p ρ1 with|some ρ2=>.ok .nx ρ2|none=>.bad:=rfl
@[simp] theorem Mh:gN i p ρ=some (ρ.set i (.sh p)):=rfl
@[simp] theorem Zd6:Ř [] ρ=some ρ:= rfl
@[simp] theorem Zdo:ę g gs (p::ps) ρ=(g p ρ).bind λρ1=>gs ps ρ1:=rfl
@[simp] theorem Zhx:gT n gs (.tup ps) ρ=if ps.length=n then gs ps ρ else none:=rfl
@[simp] theorem Zgz:uH i m ρ=(match ρ[i]? with
  |some (.ow _)=>(m ρ).bind λp ρ1=>match ρ1[i]? with
   |some (.ow ps)=>if ps.length<16777216 then .ok .nx (ρ1.set i (.ow (ps ++ [p]))) else .bad
   |_=>.bad
  |_=>.bad):=rfl
@[simp] theorem Zd7{mi:M PV}:Dc i mi m ρ=(m ρ).bind fun p ρ1=>match ρ1[i]? with
  |some (.ow _)=>(mi ρ1).bind λq ρ2=>match ρ2[i]?,q with
   |some (.ow ps),.int k=>match CG ps.length k with
    |some j=>.ok .nx (ρ2.set i (.ow (ps.set j p)))
    |none=>.bad
   |_,_=>.bad
  |_=>.bad:=rfl
@[simp] theorem ZgA:Ac ρ=.ok none ρ:= rfl
@[simp] theorem ZhB:mP m ρ=(m ρ).bind λp ρ1=>match p with| .int i=>.ok (some i) ρ1|_=>.bad:=rfl
@[simp] theorem Zhy{ml mh:M (Option Int)}:Ad ma ml mh ρ=(ma ρ).bind λp ρ1=>(ml ρ1).bind λlo ρ2=>(mh ρ2).bind λhi ρ3=>Res.qX (RW p lo hi) ρ3:=rfl
@[simp] theorem ZgB{lo hi:Option Int}:RW (.lst ps) lo hi=some (.ow (eZ ps lo hi)):=rfl
@[simp] theorem Zd8:Ű m ρ=(m ρ).bind fun p ρ1=>match p with
  | .lst ps=>.ok ps ρ1
  | .tup ps=>.ok ps ρ1
  | .str z=>.ok (z.cps.toList.map λc=>.str ⟨#[c]⟩) ρ1
  |_=>.bad:=rfl
@[simp] theorem Zd9{h:List PV->Option (List PV)}:aW h mr ρ=(mr ρ).bind λps ρ1=>Res.qX (h ps) ρ1:=rfl
@[simp] theorem ZbI{mi:M (List PV)}:eG mi g b ρ=(mi ρ).bind λitems ρ1=>forL g b items ρ1:=rfl
@[simp] theorem Zfg{js:List Nat}{nl:Nat}{mi:M (List PV)}{mt:M Bool}{me:M PV}:ś js nl mi g mt me ρ=(mi ρ).bind fun items ρ1=>match Ŕ g mt me items (lR js nl ρ1) [] with
  |some ps=>.ok (.ow ps) ρ1
  |none=>.bad:=rfl
@[simp] theorem ZgC:Ŏ ρ=.ok true ρ:= rfl
@[simp] theorem ZgD{mbd:M Fl}{as:List Slot}:ļ n k mbd as=if as.length=n then FR.of (mbd (startP k as)) else .bad:=rfl
@[simp] theorem ZgE{r:RV}:FR.of (.ok (.rt r) ρ)=.ret r:=rfl
@[simp] theorem ZgF:FR.of (.ok .nx ρ)=.ret (.sh .non):=rfl
@[simp] theorem ZgG{x:PX}:FR.of (.exc x ρ)=.exc x:=rfl
@[simp] theorem ZgH:FR.of .bad=.bad:=rfl
@[simp] theorem Zd_{as:List Slot}:startP k as=as++List.replicate (k-as.length) .no:=rfl
@[simp] theorem Zfh:Ď ρ=.ok [] ρ:= rfl
@[simp] theorem Zea{ms:M (List Slot)}:Ĕ ma ms ρ=(ma ρ).bind λp ρ1=>(ms ρ1).bind λas ρ2=>.ok (.sh p::as) ρ2:=rfl
@[simp] theorem Zeb{ms:M (List Slot)}:Ą i ms ρ=(match(ρ[i]?).bind iQ with
  |none=>.bad
  |some _=>(ms ρ).bind λas ρ2=>match(ρ2[i]?).bind iQ with
   |some s=>.ok (s::as) ρ2
   |none=>.bad):=rfl
@[simp] theorem ZgI:iQ (.sh p)=some (.sh p):=rfl
@[simp] theorem ZgJ:iQ (.ow ps)=some (.bw ps):=rfl
@[simp] theorem ZgK:iQ (.bw ps)=some (.bw ps):=rfl
@[simp] theorem ZgL:iV (.sh p)=.sh p:=rfl
@[simp] theorem ZgM:iV (.ow ps)=.bw ps:=rfl
@[simp] theorem ZgN:iV (.bw ps)=.bw ps:=rfl
@[simp] theorem ZgO{js:List Nat}{nl:Nat}:lR js nl ρ=js.map (λ(j:Nat)=>iV ((ρ[j]?).getD .no))++List.replicate nl .no:=rfl
@[simp] theorem Dp:ř i ρ=(match ρ[i]? with
  |some (.bw ps)=>.ok ps ρ
  |some (.sh (.lst ps))=>.ok ps ρ
  |some (.sh (.tup ps))=>.ok ps ρ
  |some (.sh (.str z))=>.ok (z.cps.toList.map λc=>.str ⟨#[c]⟩) ρ
  |some (.ow ps)=>.ok ps (ρ.set i (.sh (.lst ps)))
  |_=>.bad):=rfl
@[simp] theorem Zfi{x y:Int}:Ķ (.int x) (.int y)=some (.sh (.int (x+y))):=rfl
@[simp] theorem Zfj{x y:Int}:au (.int x) (.int y)=some (.int (x-y)):=rfl
@[simp] theorem Zfk{x y:Int}:Ĺ (.int x) (.int y)=if Ť x y=true then some (.int (x*y)) else none:=rfl
@[simp] theorem Zfl{x y:Int}:bK (.int x) (.int y)=if kE x y=true then some (.int (x.fdiv y)) else none:=rfl
@[simp] theorem Zfm{x y:Int}:ō (.int x) (.int y)=if Hl x y=true then some (.int (x.fmod y)) else none:=rfl
@[simp] theorem Zfn{x y:Int}:pQ (.int x) (.int y)=if vm x y=true then some (.int (x ^ y.toNat)) else none:=rfl
@[simp] theorem Zfo{x y:Int}:pR (.int x) (.int y)=if iW x y=true then some (.int (x*2 ^ y.toNat)) else none:=rfl
@[simp] theorem Zfp{x y:Int}:pU (.int x) (.int y)=if Aa x y=true then some (.int (x / 2 ^ y.toNat)) else none:=rfl
@[simp] theorem Zfq{x:Int}:iY (.int x)=some (.int (-x)):=rfl
@[simp] theorem ZgP{x y:Int}:lU (.int x) (.int y)=some (.bl (decide (x<y))):=rfl
@[simp] theorem ZgQ{x y:Int}:nJ (.int x) (.int y)=some (.bl (decide (x<=y))):=rfl
@[simp] theorem ZgR{x y:Int}:RT (.int x) (.int y)=some (.bl (decide (y<x))):=rfl
@[simp] theorem ZgS{x y:Int}:Lz (.int x) (.int y)=some (.bl (decide (y<=x))):=rfl
@[simp] theorem ZgT{x y:Int}:aD (.int x) (.int y)=some (.bl (decide (x=y))):=by
  have h:eqB (.int x) (.int y)=decide (x=y):=by rw[eqB.eq_def];rfl
  rw[<-h];rfl
@[simp] theorem ZgU{x y:Int}:dD (.int x) (.int y)=some (.bl (!decide (x=y))):=by
  have h:eqB (.int x) (.int y)=decide (x=y):=by rw[eqB.eq_def];rfl
  rw[<-h];rfl
@[simp] theorem ZgV{x y:Bool}:aD (.bl x) (.bl y)=some (.bl (x== y)):=rfl
@[simp] theorem ZgW{x y:Bool}:dD (.bl x) (.bl y)=some (.bl (!(x== y))):=rfl
@[simp] theorem ZgX{p:PV}:uK p .non=some (.bl (uJ p)):=rfl
@[simp] theorem Zfr{p:PV}:jl p .non=some (.bl (!uJ p)):=rfl
@[simp] theorem Mi{x:Int}:Ę (.lst ps) (.int x)=uD ps x:=rfl
@[simp] theorem ZgY{x:Int}:Ę (.tup ps) (.int x)=uD ps x:=rfl
@[simp] theorem xq:fj [.lst ps]=some (.int ps.length):=rfl
@[simp] theorem Zfs:fj [.tup ps]=some (.int ps.length):=rfl
@[simp] theorem ZgZ{x:Int}:RX [.int x]=some (.int (if x<0 then -x else x)):=rfl
@[simp] theorem Zg0{x y:Int}:vo [.int x,.int y]=some (.int (if y<x then y else x)):=rfl
@[simp] theorem Zg1{x y:Int}:Ht [.int x,.int y]=some (.int (if y>x then y else x)):=rfl
@[simp] theorem Zec:gK [.lst ps]=some (.ow ps):=rfl
@[simp] theorem Zed:gK [.tup ps]=some (.ow ps):=rfl
@[simp] theorem Zft:rZ [.lst ps]=some (.tup ps):=rfl
@[simp] theorem Zfu:rZ [.tup ps]=some (.tup ps):=rfl
@[simp] theorem Zg2{t:String}:LR [p,.ty t]=(uL p t).map .bl:=rfl
@[simp] theorem Zfv{x:Bool}:tru (.bl x)=some x:=rfl
@[simp] theorem Zfw{x:Int}:tru (.int x)=some (x != 0):=rfl
@[simp] theorem Zfx:tru (.lst ps)=some (!ps.isEmpty):=rfl
@[simp] theorem Mj(xs:List α)(n:Nat):uD xs (n:Int)=xs[n]?:= by
  unfold uD CG
  rw[if_pos (by omega)]
  by_cases h:n<xs.length
  ·rw[if_pos (by omega)]
   simp
  ·rw[if_neg (by omega)]
   simp
   omega
@[simp] theorem Zfy(xs:List α)(n:Nat):uD xs (no_index (OfNat.ofNat n):Int)=xs[(no_index (OfNat.ofNat n):Nat)]?:= Mj xs n
@[simp] theorem Zdp{x y:Int}:Hl x y=decide (y≠0):=rfl
end
def cJ{x y:Int}(h1: -(2 ^ 64)<x)(h2:x<2 ^ 64):Ť x y=true:=by unfold Ť;rw[decide_eq_true (by omega:x.natAbs<18446744073709551616)];rfl
def mul_r{x y:Int}(h1: -(2 ^ 64)<y)(h2:y<2 ^ 64):Ť x y=true:=by unfold Ť;rw[decide_eq_true (by omega:y.natAbs<18446744073709551616)];simp
def Zee{x y:Int}(h1:bits x<=1048576)(h2:bits y<=1048576):Ť x y=true:=by unfold Ť;simp[h1,h2]
def Af{x y:Int}(h1:y≠0)(h2:bits y<=8000):kE x y=true:=by unfold kE;simp[h1,h2]
section
variable{g:Tg}{mb:M Fl}{mc mt:M Bool}{me:M PV}{items:List PV}{ρ:Ş}
theorem ŉ{α:Type}(c f:α->PV)(I:Ş->Prop):∀(xs:List α) (ρ:Ş) (acc:List PV),I ρ->acc.length+xs.length<=16777216->
 (∀x∈xs,∀ρ,I ρ->∃ρ1 ρ2 ρ3,g (c x) ρ=some ρ1/\mt ρ1=.ok true ρ2/\me ρ2=.ok (f x) ρ3/\I ρ3)->Ŕ g mt me (xs.map c) ρ acc=some (acc++xs.map f)
 | [],ρ,acc,_,_,_=>by simp[Ŕ]
 |x::xs,ρ,acc,h,hz,hs=>by
  obtain⟨ρ1,ρ2,ρ3,h1,h2,h3,h4⟩:=hs x List.mem_cons_self ρ h
  rw[List.map_cons,Ŕ,h1]
  dsimp only
  rw[h2]
  dsimp only
  rw[h3]
  dsimp only
  rw[if_pos (by simp at hz;omega),ŉ c f I xs ρ3 (acc ++ [f x]) h4 (by simp at hz ⊢;omega) λy hy=>hs y (List.mem_cons_of_mem _ hy)]
  simp
def Dq{β:Type}(st:β->Ş)(I:β->Prop)(μ:β->Nat)(hs:∀b,I b->mc (st b)=.ok false (st b)\/(mc (st b)=.ok true (st b)/\∃b',mb (st b)=.ok .nx (st b')/\I b'/\μ b' < μ b)){b:β}(h0:I b) :
 ∃b',bI mc mb (st b)=.ok .nx (st b')/\I b'/\mc (st b')=.ok false (st b'):=by
 have go:∀n b,μ b<=n->I b->∃b',bI mc mb (st b)=.ok .nx (st b')/\I b'/\mc (st b')=.ok false (st b'):=by
  intro n
  induction n with
  |zero=>
   intro b hn hi
   rcases hs b hi with e|⟨e,b',_,_,hl⟩
   ·exact⟨b,by rw[kh,e];rfl,hi,e⟩
   ·omega
  |succ n ih=>
   intro b hn hi
   rcases hs b hi with e|⟨e,b',e2,hi',hl⟩
   ·exact⟨b,by rw[kh,e];rfl,hi,e⟩
   ·obtain⟨b2,q1,q2⟩:=ih b' (by omega) hi'
    refine⟨b2,?_,q2⟩
    rw[kh,e]
    simp only[Res.cH,if_true,e2]
    exact q1
 exact go (μ b) b (Nat.le_refl _) h0
end
end P
namespace P
open PySem PySem.Spec PyProof.Rows L2 M2 M3 M4
def su(Q:String->Prop):List String->Prop
 | []=>True
 |c::cs=>Q c/\su Q cs
theorem su.get{Q:String->Prop}:∀{cs:List String} {C:String},su Q cs->cs.contains C=true->Q C
 | [],_,_,h=>by simp at h
 |c::cs,C,⟨h1,h2⟩,h=>by
  by_cases e:C=c
  ·rw[e];exact h1
  ·refine h2.get ?_
   rw[List.contains_cons] at h
   have:(C== c)=false:=by simpa using e
   rw[this,Bool.false_or] at h
   exact h
section
variable{X:Cx}{cm:String->Addr}{K:KK}{E:L2.St->XK}{a b e o:Expr}{es:List Expr}{pos apos:Pos}{m ma mb:M PV}{f:Str}
theorem sy{F:Hp}:∀{fs:List (Str×V)} {ps:List PV} {p:PV},Ħ K F ps (fs.map (·.2))->((fs.map (·.1)).zip ps).lookup f=some p->∃v,fs.lookup f=some v/\Rep K F p v
 | [],ps,p,_,h=>by simp at h
 |(g,v)::fs,ps,p,r,h=>by
  have r':=r.pr
  rw[List.map_cons] at r'
  cases r' with
  |cons r1 t=>
   rename_i q qs
   rw[List.map_cons,List.zip_cons_cons,List.lookup_cons] at h
   rw[List.lookup_cons]
   cases hg:f== g with
   |true=>
    simp only[hg] at h
    cases h
    exact⟨v,rfl,r1⟩
   |false=>
    simp only[hg] at h
    exact sy (Ħ.of t) h
theorem rR.ins{c:Ctx}{F H:Hp}{σ:L2.St}{ρ:Ş}{C:String}{ns:List Str}{ps:List PV}{v:V}(s:Same F H)(h:rR K c σ ρ F H (.ins C ns ps) v):∃a dx fs,v=.ref a/\H a=some (.ins (K.cm C) dx fs)/\fs.map (·.1)=ns/\Ħ K F ps (fs.map (·.2)):=by
 rcases h with h|h
 ·unfold Rep at h
  obtain⟨a,dx,fs,h1,h2,h3,h4⟩:=h
  exact⟨a,dx,fs,h1,s _ _ h2,h3,h4⟩
 ·exact h
def aX(cs:List String)(f:Str):PV->Option PV
 | .ins C ns ps=>if cs.contains C=true then(ns.zip ps).lookup f else none
 |_=>none
def bf(cs:List String)(hcs:su (λC=>Cls X.K (cm C)/\Ő X.K (cm C) f) cs)(he:PE X e (tR (kk X cm) E m))(hb:attributeBase e f X.env (eval e X.env)=eval e X.env:=by rfl):PE X (.Attribute e f pos) (tV (kk X cm) E (jL (aX cs f) m)):=
 PE.wk (Zbf he hb) fun σ H Q ⟨c,F,ρ,rel,h⟩=>⟨c,F,ρ,rel,h.bind fun p ρ1 v F1 H1 Ġ _ _ r1 h1=>by
   cases p with
   |ins C ns ps=>
    unfold aX at h1
    dsimp only at h1
    split at h1
    ·rename_i hc
     obtain⟨a,dx,fs,rfl,q2,q3,q4⟩:=r1.ins Ġ.sub
     cases el:(ns.zip ps).lookup f with
     |none=>rw[el] at h1;exact h1.elim
     |some q=>
      rw[el] at h1
      subst q3
      obtain⟨v,e1,e2⟩:=sy q4 el
      obtain⟨k1,k2⟩:=hcs.get hc
      exact⟨a,_,dx,fs,v,rfl,q2,k1,k2,e1,h1 v F1 H1 Ġ (Same.refl _) (Same.refl _) e2⟩
    ·exact h1.elim
   |_=>exact h1.elim⟩
def Ml(X:Cx)(cm:String->Addr)(CX:pN)(k n:Nat)(m:Str)(C:String)(mf:MF):Prop:=Cls X.K (cm C)/\∃f fd ps,Meth X.K (cm C) m f/\Į X.prog X.w X.K X.mg X.base CX k f fd ps (ŷ (kk X cm) n mf)/\Binds X.K fd ps []/\
 ∀{ps:List Slot},(∃r,mf ps=r/\∀z,r=z->z≠ .bad)->ps.length=n
def Mp(Q:String->MF->Prop):List (String×MF)->Prop
 | []=>True
 |(c,mf)::cs=>Q c mf/\Mp Q cs
theorem Mp.get{Q:String->MF->Prop}:∀{cs:List (String×MF)} {C:String} {mf:MF},Mp Q cs->cs.lookup C=some mf->Q C mf
 | [],_,_,_,h=>by simp at h
 |(c,g)::cs,C,mf,⟨h1,h2⟩,h=>by
  rw[List.lookup_cons] at h
  cases hc:C== c with
  |true=>
   rw[hc] at h
   cases h
   have:C=c:=by simpa using hc
   rw[this];exact h1
  |false=>
   rw[hc] at h
   exact h2.get h
def sE(m:Str)(jP:List (String×MF))(mo:M PV)(ms:M (List Slot)):M RV:=λρ=>(mo ρ).bind λp ρ1=>match p with
 | .ins C ns ps=>match jP.lookup C with
   |some mf=>if ns.contains m=true then .bad else(ms ρ1).bind λas ρ2=>match mf (.sh (.ins C ns ps)::as) with
    | .ret r=>.ok r ρ2
    | .exc x=>.exc x ρ2
    | .bad=>.bad
   |none=>.bad
 |_=>.bad
theorem oY{m:Str}:∀{fs:List (Str×V)},(fs.map (·.1)).contains m=false->fs.lookup m=none
 | [],_=>rfl
 |(g,v)::fs,h=>by
  rw[List.map_cons,List.contains_cons,Bool.or_eq_false_iff] at h
  rw[List.lookup_cons,h.1]
  exact oY h.2
variable{CX:pN}{k n:Nat}{Qu:Str}{jP:List (String×MF)}{ms:M (List Slot)}
def Mq{c:Ctx}{F H:Hp}{σ:L2.St}{ρ:Ş}{Q:VK}(rel:Rel (kk X cm) c F H σ ρ)(h:cY (kk X cm) E (rO (kk X cm)) c F H σ Q (sE Qu jP m ms ρ))(ZbJ:Mp (λC mf=>Ml X cm CX k n Qu C mf) jP) :
 cY (kk X cm) E (rV (kk X cm)) c F H σ (λx H1=>∃a C dx fs g fd ps mf,x=.ref a/\H1 a=some (.ins C dx fs)/\Cls X.K C/\Meth X.K C Qu g/\fs.lookup Qu=none/\Į X.prog X.w X.K X.mg X.base CX k g fd ps (ŷ (kk X cm) n mf)/\Binds X.K fd ps []/\
  tA (kk X cm) E ms σ H1 λvs H2=>ŷ (kk X cm) n mf (.ref a::vs) H2 Q (E σ)) (m ρ):=
 cY.bind h λp ρ1 v F1 H1 Ġ _ _ r1 h1=>by
  cases p with
  |ins C ns ps=>
   dsimp only at h1
   cases el:jP.lookup C with
   |none=>rw[el] at h1;exact h1.elim
   |some mf=>
    rw[el] at h1
    dsimp only at h1
    split at h1
    ·exact h1.elim
    ·rename_i hn
     obtain⟨k1,f,fd,qs,k2,k3,k4,k5⟩:=ZbJ.get el
     have r1':Rep (kk X cm) F1 (.ins C ns ps) v:=r1
     have r2:=r1'
     unfold Rep at r2
     obtain⟨a,dx,fs,rfl,q2,q3,q4⟩:=r2
     refine⟨a,_,dx,fs,f,fd,qs,mf,rfl,Ġ.sub _ _ q2,k1,k2,oY (by rw[q3];simpa using hn),k3,k4,c,F1,ρ1,Ġ,cY.bind h1 λas ρ2 vs F2 H2 ő sF sH r3 h3=>?_⟩
     exact zZ (vs:=.ref a::vs) k5 ő (.cons (show gj _ _ _ (.sh _) _ from Rep.same sF _ _ r1') r3) h3
  |_=>exact h1.elim
def Sd{pl:Sem Bool}(ZbJ:Mp (λC mf=>Ml X cm CX k n Qu C mf) jP)(hr:aR k X.A)(hx:fK CX X E)(he:PE X o (tV (kk X cm) E m))
 (ht:eval (.Call (.Attribute o Qu apos) [] [] pos) X.env=(do
   let ov <-eval o X.env
   standAt apos.atName
   let (f,first) <-holding [ov] (getMethod ov Qu pl)
   callWith pos f first (backTo pos (starEach [] X.env)) (backToKw pos (keywordEach [] X.env))):=by rfl) :
 PE X (.Call (.Attribute o Qu apos) [] [] pos) (tO (kk X cm) E (sE Qu jP m Ď)):=by
 intro pins s σ H Q I ⟨c,F,ρ,rel,h⟩
 refine PySem.W.methodCall_KW (pl:=pl) (Ŷ (he pins s σ H _ I ⟨c,F,ρ,rel,Mq rel h ZbJ⟩) λu s1 ⟨x,H1,I1,rx,a,C,dx,fs,g,fd,ps,mf,ex,ea,cl,k2,l,k3,k4,q⟩=>?_) ht
 subst ex
 obtain rfl:u=Value.ref a:=rx
 refine Cu I1 ea cl k2 l ?_
 obtain⟨c1,F1,ρ1,Ġ,q⟩:=q
 exact PySem.W.callWith_K0 (first:=[.ref a]) I1.jR k2.kp (Hj (us:=[.ref a]) (vs:=[.ref a]) k3 hr k4 hx I1 (.cons rfl .nil) (q [] F1 H1 Ġ (Same.refl _) (Same.refl _) .nil))
def putN(f:Str):List Str->List Str
 | []=>[f]
 |g::r=>if g=f then g::r else g::putN f r
def Ag(f:Str)(p:PV):List Str->List PV->List PV
 | [],_=>[p]
 |g::r,q::qs=>if g=f then p::qs else q::Ag f p r qs
 |_::_,[]=>[]
theorem xr{F:Hp}{p:PV}{y:V}(ry:Rep K F p y):∀{fs:List (Str×V)} {ps:List PV},Ħ K F ps (fs.map (·.2))->(cF f y fs).map (·.1)=putN f (fs.map (·.1))/\Ħ K F (Ag f p (fs.map (·.1)) ps) ((cF f y fs).map (·.2))
 | [],ps,r=>⟨rfl,Ħ.cons ry Ħ.nil⟩
 |(g,v)::fs,ps,r=>by
  have r':=r.pr
  rw[List.map_cons] at r'
  cases r' with
  |cons r1 t=>
   rename_i q qs
   unfold cF
   rw[List.map_cons]
   unfold putN Ag
   by_cases hg:g=f
   ·rw[if_pos hg,if_pos hg,if_pos hg]
    exact⟨rfl,Ħ.cons ry (Ħ.of t)⟩
   ·rw[if_neg hg,if_neg hg,if_neg hg]
    obtain⟨h1,h2⟩:=xr ry (Ħ.of t)
    exact⟨by rw[List.map_cons,h1],Ħ.cons r1 h2⟩
def mz(i:Nat)(cs:List String)(f:Str)(mv:M PV):M Fl:=λρ=>(mv ρ).bind λp ρ1=>match ρ1[i]? with
 |some (.rc C ns ps)=>if cs.contains C=true/\ns.length<1000 then .ok .nx (ρ1.set i (.rc C (putN f ns) (Ag f p ns ps))) else .bad
 |_=>.bad
def cL{i:Nat}{x:Str}{px pos':Pos}(cs:List String)(hcs:su (λC=>Cls X.K (cm C)/\Ő X.K (cm C) f) cs)(ho:PE X (.Name x px) (wD i))(he:PE X e (tV (kk X cm) E m))(hs:swapsWith e (some (.Attribute (.Name x px) f pos')) pos.line X.env=pure false:=by rfl) :
 PS X (.Assign [.Attribute (.Name x px) f pos'] e pos) (tS (kk X cm) E (mz i cs f m)):=PS.wk (Zbg ho he hs) λD σ H ⟨c,F,ρ,rel,h⟩=>⟨c,F,ρ,rel,aB.bind h λp ρ1 y F1 H1 Ġ s1 ry h1=>by
 cases e1:ρ1[i]? with
 |none=>rw[e1] at h1;exact h1.elim
 |some sl=>
  rw[e1] at h1
  cases sl with
  |rc C ns ps=>
   dsimp only at h1
   split at h1
   ·rename_i hc
    obtain⟨a,dx,fs,q1,q2,q3,q4,q5,q6,q7⟩:=Ġ.slot i _ e1
    subst q5
    obtain⟨k1,k2⟩:=hcs.get hc.1
    refine⟨.ref a,at_of q1,a,_,dx,fs,rfl,q2,k1,k2,by simpa using hc.2,?_⟩
    obtain⟨z1,z2⟩:=xr (f:=f) (p:=p) ry q6
    exact h1 σ F1 _ (Ġ.write ⟨_,_,e1,at_of q1,rfl⟩ (at_of q1) ⟨a,dx,_,rfl,ĭ,q3,q4,z1,z2,q7⟩ λ_ z=>(V.ref.inj z).symm) (Same.refl _)
   ·exact h1.elim
  |_=>exact h1.elim⟩
inductive IR where
 |ok (ns:List Str) (ps:List PV)|exc (x:PX)|bad
abbrev MI:=List Slot->IR
def IR.of:Res Fl->IR
 | .ok .nx (.rc _ ns ps::_)=>.ok ns ps
 | .exc x _=>.exc x
 |_=>.bad
def gM(n k:Nat)(C:String)(mb:M Fl):MI:=λas=>if as.length+1=n then IR.of (mb (.rc C [] []::startP (k-1) as)) else .bad
structure GrB(a:Addr)(F H F' H':Hp):Prop where
 h:∀b u,b≠a->H b=some u->H' b=some u
 f:Same F F'
 sub:Same F' H'
 out:∀b,b≠a->H b≠none->F b=none->F' b=none
def Zg3(K:KK)(E:XK)(F H:Hp)(Q:VK)(a dx:Addr)(C:String):IR->Prop
 | .ok ns ps=>∀F' H' fs,GrB a F H F' H'->H' a=some (.ins (K.cm C) dx fs)->F' a=none->fs.map (·.1)=ns->Ħ K F' ps (fs.map (·.2))->Q .non H'
 | .exc x=>∀C' d F' H',GrB a F H F' H'->Rz K F' x C' d->E C' d H'
 | .bad=>False
def Qw(K:KK)(n:Nat)(C:String)(mi:MI):Sp:=λvs H Q E=>∃F a dx vs' as,vs=.ref a::vs'/\as.length+1=n/\H a=some (.ins (K.cm C) dx [])/\F a=none/\Same F H/\Paired (gj K F H) as vs'/\Zg3 K E F H Q a dx C (mi as)
def Sg(a dx:Addr)(C:String)(F H:Hp):Ctx:=⟨λb=>if b=a then none else H b,F,λb=>if b=a then none else(ctx0 F H).L b,λa' dx' C'=>a'=a/\dx'=dx/\C'=C⟩
def Rel.gri{σ:L2.St}{ρ:Ş}{a dx:Addr}{C:String}{F H F' H':Hp}(r:Rel K (Sg a dx C F H) F' H' σ ρ):GrB a F H F' H':=
 ⟨λb u hb e=>r.base b u (by show(if b=a then none else H b)=_;rw[if_neg hb];exact e),r.f0,r.sub,λb hb h1 h2=>r.h_ b (by show(if b=a then none else H b)≠none;rw[if_neg hb];exact h1) h2⟩
def Rel.ZbK{F H:Hp}{N:List Str}{as:List Slot}{vs:List V}{a dx:Addr}{C:String}(s:Same F H)(ha:H a=some (.ins (K.cm C) dx []))(hF:F a=none)(h:Paired (gj K F H) as vs) :
 Rel K (Sg a dx C F H) F H (L2.start N (.ref a::vs)) (.rc C [] []::startP (N.length-1) as):=by
 have r0:=Rel.start (N:=N) (K:=K) s (as:=.sh (.int 0)::as) (vs:=.int 0::vs) (.cons (Rep.int (K:=K) (F:=F) (i:=0)) h)
 have est:L2.start N (.ref a::vs)=some (.ref a)::(L2.start N (.int 0::vs)).tail:=by unfold L2.start;simp
 have Zg4:(L2.start N (V.int 0::vs)).tail.length=(startP (N.length-1) as).length:=by
  unfold L2.start startP
  simp[Paired.length h]
  omega
 have tl:∀i:Nat,(L2.start N (.int 0::vs)).tail[i]?=(L2.start N (.int 0::vs))[i+1]?:= λi=>by simp
 have sp:∀i:Nat,(startP (N.length-1) as)[i]?=(startP N.length (.sh (.int 0)::as))[i+1]?:= λi=>by
  unfold startP
  simp only[List.cons_append,List.getElem?_cons_succ,List.length_cons]
  rw[show N.length-1-as.length=N.length-(as.length+1) by omega]
 have Ah:∀(i:Nat) (s':Slot),(startP (N.length-1) as)[i]?=some s'->s'.own=false:=λi s' e=>by
  unfold startP at e
  by_cases hi:i<as.length
  ·rw[List.getElem?_append_left hi] at e
   obtain⟨v,_,h3⟩:=dz h e
   exact(gj.slot h3).2
  ·rw[List.getElem?_append_right (by omega),List.getElem?_replicate] at e
   split at e
   ·cases e;rfl
   ·cases e
 rw[est]
 refine⟨s,λb u e=>?_,Same.refl _,λ_ _ z=>z,λb u e=>?_,λb e=>?_,?_,λi s' e=>?_,λi j b h1 h2=>?_⟩
 ·have e':(if b=a then none else H b)=some u:=e
  split at e'
  ·cases e'
  ·exact e'
 ·have e':(if b=a then none else(ctx0 F H).L b)=some u:=e
  split at e'
  ·cases e'
  ·exact iu e'
 ·show(if b=a then none else(ctx0 F H).L b)=none
  have e':(if b=a then none else H b)=none:=e
  split
  ·rfl
  ·rename_i hb
   rw[if_neg hb] at e'
   exact r0.lb b e'
 ·simp[Zg4]
 ·cases i with
  |zero=>
   cases e
   exact⟨a,dx,[],rfl,ha,hF,by show(if a=a then none else H a)=none;rw[if_pos rfl],rfl,Ħ.nil,rfl,rfl,rfl⟩
  |succ i=>
   have e':(startP (N.length-1) as)[i]?=some s':=by simpa using e
   have q:=r0.slot (i+1) s' (by rw[<-sp];exact e')
   rw[<-tl] at q
   show bU K (Sg a dx C F H) F H (((some (V.ref a)::(L2.start N (.int 0::vs)).tail)[i+1]?).getD none) s'
   rw[List.getElem?_cons_succ]
   cases s' with
   |no=>trivial
   |sh p=>exact q
   |bw ps=>
    obtain⟨b,ws,q1,q2,q3⟩:=q
    refine⟨b,ws,q1,?_,q3⟩
    show(if b=a then none else(ctx0 F H).L b)=_
    rw[if_neg (λz=>by
     have:=(iu q2).1
     rw[z,ha] at this
     cases this)]
    exact q2
   |ow ps=>have:=Ah i _ e';cases this
   |rc C ns ps=>have:=Ah i _ e';cases this
   |ot ps qs=>have:=Ah i _ e';cases this
   |ol GX=>have:=Ah i _ e';cases this
 ·have at0:∀{i},ť F (some (.ref a)::(L2.start N (.int 0::vs)).tail) (Slot.rc C [] []::startP (N.length-1) as) i b→i=0:=fun{i} ⟨s',y,q1,_,q2⟩=>by
   have q2:=oU q2
   cases i with
   |zero=>rfl
   |succ i=>
    have:=Ah i s' (by simpa using q1)
    rw[this] at q2
    cases q2
  rw[at0 h1,at0 h2]
end
section
variable{P:Program}{w:World}{K:PySem.W.Frag}{cm:String->Addr}{mg:Str->Option Value}{base:Heap}{CX:pN}
def fnI{x qual:Str}{st:Stmt}{f:Addr}{fd:FuncData}{N ps:List Str}{k n j:Nat}{C:String}{mb:M Fl}{mi:MI}(F:Kw K x qual st f fd)(S:ē N ps (ą st))(hn:ps.length=n)(hj:N.length=j)(hf:mi=gM n j C mb)
 (hbody:∀(cdv:Value) (A:Around) (outer:List Env) (s:Shared) (H:Hp) (E:XK),aR k (A.deeper (envOfC qual (ą st) s.heap.objs.size f cdv))→
   mL (dj CX P w K mg base N qual (ą st) f cdv A outer s H E) (Ŗ st) (tS ⟨K,cm⟩ (λ_=>E) mb)):Į P w K mg base CX (k+1) f fd ps (Qw ⟨K,cm⟩ n C mi):=by
 subst hn hj hf
 obtain⟨oc,od,kV,doc,pm,an,cdv,ct,osl,rfl,lk,hcd⟩:=F.ex
 refine zQ lk hcd S (λvs H Q E ⟨F,a,dx,vs',as,h1,h2,_,_,_,h3,_⟩=>by rw[h1,List.length_cons,<-Paired.length h3];exact h2) λA outer s H vs Q E hr hsp=>?_
 obtain⟨F,a,dx,vs',as,rfl,h2,h3,h4,h5,h6,h7⟩:=hsp
 refine⟨_,hbody cdv A outer s H E hr,Sg a dx C F H,F,_,Rel.ZbK h5 h3 h4 h6,?_⟩
 unfold gM at h7
 rw[if_pos h2] at h7
 cases e:mb (.rc C [] []::startP (N.length-1) as) with
 |bad=>rw[e] at h7;exact h7
 |exc x ρ'=>rw[e] at h7;exact λσ' C' d F' H' rel s1 q=>h7 C' d F' H' rel.gri q
 |ok fl ρ'=>
  rw[e] at h7
  cases fl with
  |nx=>
   cases ρ' with
   |nil=>exact h7.elim
   |cons sl ρ'=>
    cases sl with
    |rc C' ns qs=>
     intro σ' F' H' rel s1
     obtain⟨b,dy,fs,q1,q2,q3,q4,q5,q6,rfl,rfl,rfl⟩:=rel.slot 0 _ rfl
     exact h7 F' H' fs rel.gri q2 q3 q5 q6
    |_=>exact h7.elim
  |bk=>exact h7.elim
  |ct=>exact h7.elim
  |rt r=>exact h7.elim
end
def bW(C:String)(mi:MI)(ms:M (List Slot)):M PV:=λρ=>(ms ρ).bind λas ρ1=>match mi as with
 | .ok ns ps=>.ok (.ins C ns ps) ρ1
 | .exc x=>.exc x ρ1
 | .bad=>.bad
section
variable{X:Cx}{cm:String->Addr}{E:L2.St->XK}{e:Expr}{es:List Expr}{pos p:Pos}{CX:pN}{k n:Nat}{f:Addr}{fd:FuncData}{ps:List Str}{C:String}{mi:MI}{ms:M (List Slot)}{x:Str}
def Mr{c:Ctx}{F1 H1:Hp}{σ:L2.St}{ρ1:Ş}{Q:VK}{as:List Slot}{vs:List V}(hlen:(∃r,mi as=r/\∀z,r=z->z≠ .bad)->as.length+1=n)(Ġ:Rel (kk X cm) c F1 H1 σ ρ1)(r1:Paired (gj (kk X cm) F1 H1) as vs)
 (h:cY (kk X cm) E (rV (kk X cm)) c F1 H1 σ Q (match mi as with| .ok ns ps=>.ok (.ins C ns ps) ρ1| .exc x=>.exc x ρ1| .bad=>.bad)) :
 ∀x dx,H1 x=none->H1 dx=none->dx≠x->Qw (kk X cm) n C mi (.ref x::vs) (upd (upd H1 dx (.own x)) x (.ins (cm C) dx [])) (λv H2=>v=.non/\Q (.ref x) H2) (E σ):=by
 intro x dx hx hdx hne
 have up:∀b u,H1 b=some u->upd (upd H1 dx (.own x)) x (.ins (cm C) dx []) b=some u:=λb u e=>by
  rw[ě (Ĩ e hx),ě (Ĩ e hdx)];exact e
 have Sh:∀{F' H':Hp},GrB x F1 (upd (upd H1 dx (.own x)) x (.ins (cm C) dx [])) F' H'->Gr F1 H1 F' H':=fun{F' H'} g=>
  ⟨fun b u e=>g.h b u (Ĩ e hx) (up b u e),g.f,g.sub,fun b hb hf=>by
    obtain⟨u,hu⟩:∃u,H1 b=some u:=by
     cases q:H1 b with
     |none=>exact absurd q hb
     |some u=>exact⟨u,rfl⟩
    exact g.out b (Ĩ hu hx) (by rw[up b u hu];intro z;cases z) hf⟩
 refine⟨F1,x,dx,vs,as,rfl,?_,ĭ,Ġ.sub.free hx,λb u e=>up b u (Ġ.sub b u e),?_,?_⟩
 ·refine hlen ⟨_,rfl,λz hz hb=>?_⟩
  rw[hz,hb] at h
  exact h
 ·refine Paired.mono (λs v hs=>?_) r1
  cases s with
  |sh p=>exact hs
  |bw qs=>
   obtain⟨b,ws,q1,q2,q3,q4⟩:=hs
   exact⟨b,ws,q1,up b _ q2,q3,q4⟩
  |_=>exact hs.elim
 ·cases em:mi as with
  |bad=>rw[em] at h;exact h
  |exc y=>rw[em] at h;exact λC' d F' H' g rx=>h C' d F' H' (Ġ.call (Sh g)) g.f rx
  |ok ns qs=>
   rw[em] at h
   intro F' H' fs g hx' hF' hn hr
   have r2:=Ġ.call (Sh g)
   have r3:=r2.freeze hx' (Ġ.base.free hx) hF' (Ġ.wN (Sh g).f (Ġ.fresh hx))
   refine⟨rfl,h _ _ H' r3 (g.f.trans (Same.upd hF')) (Sh g).h ?_⟩
   show Rep _ _ _ _
   unfold Rep
   exact⟨x,dx,fs,rfl,ĭ,hn,Ħ.same (Same.upd hF') qs _ hr⟩
def Jq{pins:List (Addr×Obj)}{σ:L2.St}{H:Hp}{s:Shared}{Q:VK}{us:List Value}{vs:List V}{sp:Sp}{C:Addr}(M:Mk X.K C f)(F:Į X.prog X.w X.K X.mg X.base CX k f fd ps sp)(hr:aR (k+1) X.A)(hb:Binds X.K fd ps [])
 (hx:fK CX X E)(I:Inv X pins σ H s)(r:Vals vs us)
 (h:∀x dx,H x=none->H dx=none->dx≠x->sp (.ref x::vs) (upd (upd H dx (.own x)) x (.ins C dx [])) (λv H2=>v=.non/\Q (.ref x) H2) (E σ)) :
 wpAny (model X.prog X.w) X.A (call (.ref C) us) (EP X pins σ Q) X.xe s:=by
 have hq:=h (s.heap.objs.size+1) s.heap.objs.size (I.hok.fresh (Nat.le_succ _)) (I.hok.fresh (Nat.le_refl _)) (Nat.ne_of_lt (Nat.lt_succ_self _))
 have I2:=Inv.made (C:=C) I
 have r2:Vals (V.ref (s.heap.objs.size+1)::vs) (Value.ref (s.heap.objs.size+1)::us):=.cons rfl r
 have hl:(Value.ref (s.heap.objs.size+1)::us ++ []).length=ps.length:=by
  have e:=r2.length
  rw[F.len _ _ _ _ hq] at e
  rw[List.append_nil]
  exact e.symm
 have hbd:=hb {s with heap:=(s.heap.push PySem.W.emptyDict).push (PySem.W.instObj C s.heap.objs.size)} (Value.ref (s.heap.objs.size+1)::us) I2.jR hl
 rw[List.append_nil] at hbd
 refine wpAny_call (Kq (f:=f) I.jR M.makes M.init (beq_iff_eq.mp M.fn) (codeAny_mono (F.run _ X.stack _ _ ⟨Value.ref (s.heap.objs.size+1)::us,[]⟩ _ _ _ (E σ) (hr.make C us []) (I2.env0.make C us []) hbd r2 hq) λr s' hq'=>?_))
 cases r with
 |error e=>exact hx pins σ _ _ e s' I2 hq'
 |ok fl=>
  cases fl with
  |ret u=>
   obtain⟨v,H',I3,rv,ev,q3⟩:=I2.after hq'
   subst ev
   exact⟨rv,⟨V.ref (s.heap.objs.size+1),H',I3,rfl,q3⟩⟩
  |next=>exact False.elim hq'
  |brk=>exact False.elim hq'
  |cont=>exact False.elim hq'
def dF{n k:Nat}{C:String}{mb:M Fl}{as:List Slot}(h:∃r,gM n k C mb as=r/\∀z,r=z->z≠ .bad):as.length+1=n:=by
 obtain⟨r,h1,h2⟩:=h
 unfold gM at h1
 by_cases hl:as.length+1=n
 ·exact hl
 ·rw[if_neg hl] at h1
  exact absurd h1.symm (λz=>h2 .bad (by rw[<-h1]) rfl)
def mV(M:Mk X.K (cm C) f)(F:Į X.prog X.w X.K X.mg X.base CX k f fd ps (Qw (kk X cm) n C mi))(hlen:∀{as:List Slot},(∃r,mi as=r/\∀z,r=z->z≠ .bad)->as.length+1=n)(hr:aR (k+1) X.A)(hg:Gl X x)(hm:X.mg x=some (.ref (cm C)))(hb:Binds X.K fd ps [])(hx:fK CX X E)
 (ha:PA X (e::es) (tA (kk X cm) E ms))(hdb:(x== ("__debug__" :Str))=false:=by decide)(he:starEach (e::es) X.env=(false,eval e X.env)::starEach es X.env:=by exact ĸ rfl)(hpl:(backTo pos (starEach es X.env)).any (·.1)=false:=by rfl) :
 PE X (.Call (.Name x p) (e::es) [] pos) (tV (kk X cm) E (bW C mi ms)):=by
 intro pins s σ H Q I ⟨c,F',ρ,rel,h⟩
 refine wpAny_Call_Name_kw (nA I hg hm ?_ hdb)
 refine PySem.W.callWith_K (h₀:= X.base) I.ok.mod.kin M.kp (Ŷ (ha pos pins s σ H (λvs H1=>∀x dx,H1 x=none->H1 dx=none->dx≠x->Qw (kk X cm) n C mi (.ref x::vs) (upd (upd H1 dx (.own x)) x (.ins (cm C) dx [])) (λv H2=>v=.non/\Q (.ref x) H2) (E σ)) I
  ⟨c,F',ρ,rel,cY.bind h λas ρ1 vs F1 H1 Ġ _ _ r1 h1=>Mr hlen Ġ r1 h1⟩) λus s1 ⟨vs,H1,I1,r,q⟩=>⟨I1.jR,?_⟩) he hpl
 exact Jq M F hr hb hx I1 r q
end
end P
namespace P
open PySem PySem.Spec PyProof.Rows L2 M2 M3 M4
def TrD(B:Heap)(e:Addr)(C:Value)(d:Option Addr)(fl:Value)(h:Heap):Prop:=
 ∃oe vs T oT ts,h.get? e=some oe/\(oe.cls=C/\oe.dict=d)/\oe.data=.fields vs/\vs[1]?=some (.ref T)/\B.get? T=none/\T≠e/\h.get? T=some oT/\oT.data=.fields ts/\ts[3]?=some fl
structure Moved(h h':Heap):Prop where
 up:h.UpToSlots h'
 there:∀b o,h.get? b=some o->∃o',h'.get? b=some o'
theorem Moved.trans{h h1 h2:Heap}(a:Moved h h1)(b:Moved h1 h2):Moved h h2:=⟨a.up.trans b.up,λc o e=>let ⟨o1,e1⟩:=a.there c o e;b.there c o1 e1⟩
def Jr(o:Obj)(f:Array Value->Array Value):(o.mapFields f).dict=o.dict:=by
 obtain⟨c,d,dt,sl⟩:=o
 cases dt<;>rfl
section
variable{M:Model}{A:Around}{E:Value->Shared->Prop}{s:Shared}{B:Heap}{env:Env}{outer:List Env}{L e:Addr}{Q:Unit->Shared->Prop}
def Zef{oe:Obj}{vs:Array Value}{head:Value}{nxt:Bool}(hfr:A.frames=some (env::outer))(hl:s.heap.FunFrames B (env::outer))(hf:env.frame=some L)
 (he:s.heap.get? e=some oe)(hkb:B.StaysIn s.heap)(hen:B.get? e=none)(hd:oe.data=.fields vs)(hsz:1<vs.size)
 (k:∀h',B.StaysIn h'->h'.FunFrames B (env::outer)->TrD B e oe.cls oe.dict (rawInt L) h'->Moved s.heap h'->Q () {s with heap:=h'}) :
 wpAny M A (do
  let a <-frameOf env
  let pl <-entryPlaceOf L nxt
  let b <-EntryCells.newEntry head a .none (rawInt L) .none pl
  setField (.ref e) 1 b) Q E s:=by
 have out:e∉(env::outer).filterMap (·.frame):=λz=>by
  obtain⟨_,o,ho,hn⟩:=hl.mem z
  rw[he] at ho
  cases ho
  exact hn vs hd
 refine wpAny_bind (wpAny_frameOf_fun hfr hl hf λg1 so=>?_)
 refine wpAny_bind (wpAny_entryPlaceOf λpl hpl=>?_)
 unfold EntryCells.newEntry newFields
 refine wpAny_bind (wpAny_newObj_type ?_ (hpl.sizeOk5 _ _ _ _ _))
 have e1:g1.get? e=some oe:=(so.2.1 e out).trans he
 have b1:B.StaysIn g1:=λb o q=>(so.2.1 b λz=>by
  rw[(hl.mem z).1] at q
  cases q).trans (hkb b o q)
 generalize hnw:([head,Value.ref L,.none,rawInt L,.none]++(if pl.isEmpty then List.replicate 6 Value.none else pl))=nw
 have n3:nw.toArray[3]?=some (rawInt L):=by rw[<-hnw];simp
 dsimp only
 have e2:=Heap.get?_push_of_some (h:=g1) {cls:=.type "traceback",dict:=none,data:=.fields nw.toArray} e1
 refine wpAny_setField e2 hd hsz ?_
 have ne:g1.objs.size≠e:=Nat.ne_of_gt (Heap.lt_size e1)
 have d3:=Obj.data_mapFields hd (·.setIfInBounds 1 (Value.ref g1.objs.size))
 have e3:=Heap.get?_update_self (Obj.mapFields (·.setIfInBounds 1 (Value.ref g1.objs.size))) e2 (Obj.isFreed_of_fields d3)
 have kp:∀b o,b≠e->g1.get? b=some o->((g1.push {cls:=.type "traceback",dict:=none,data:=.fields nw.toArray}).update e (Obj.mapFields (·.setIfInBounds 1 (Value.ref g1.objs.size)))).get? b=some o:=λb o hb q=>by
  rw[Heap.get?_update_other _ _ (Ne.symm hb)]
  exact Heap.get?_push_of_some _ q
 have t3:((g1.push {cls:=.type "traceback",dict:=none,data:=.fields nw.toArray}).update e (Obj.mapFields (·.setIfInBounds 1 (Value.ref g1.objs.size)))).get? g1.objs.size=some {cls:=.type "traceback",dict:=none,data:=.fields nw.toArray}:=by
  rw[Heap.get?_update_other _ _ (Ne.symm ne)]
  exact Heap.get?_push_size g1 rfl
 have nr:∀b o,s.heap.get? b=some o->(∀ws,o.data≠ .fields ws)->b≠e:=λb o q hn z=>by
  rw[z,he] at q
  cases q
  exact hn vs hd
 refine k _ (λb o q=>kp b o (λz=>by rw[z,hen] at q;cases q) (b1 b o q)) (hl.of_keeps λb o q hn=>?_) ?_ ⟨λb o q hn=>?_,λb o q=>?_⟩
 ·obtain⟨sl,z⟩:=so.2.2 b o q
  exact⟨_,kp b _ (nr b o q hn) z,rfl⟩
 ·exact⟨_,_,g1.objs.size,_,_,e3,⟨Obj.cls_mapFields _ _,Jr _ _⟩,d3,by simp[hsz],b1.fresh,ne,t3,rfl,n3⟩
 ·obtain⟨sl,z⟩:=so.2.2 b o q
  exact⟨sl,kp b _ (nr b o q hn) z⟩
 ·obtain⟨sl,z⟩:=so.2.2 b o q
  by_cases hb:b=e
  ·rw[hb];exact⟨_,e3⟩
  ·exact⟨_,kp b _ hb z⟩
def Sq{oe:Obj}{vs:Array Value}(hfr:A.frames=some (env::outer))(hl:s.heap.FunFrames B (env::outer))(hf:env.frame=some L)(he:s.heap.get? e=some oe)(hkb:B.StaysIn s.heap)(hen:B.get? e=none)
 (hd:oe.data=.fields vs)(h1:vs[1]?=some .none)(k:∀h',B.StaysIn h'->h'.FunFrames B (env::outer)->TrD B e oe.cls oe.dict (rawInt L) h'->Moved s.heap h'->Q () {s with heap:=h'}) :
 wpAny M A (noteFrame (.ref e) env) Q E s:=by
 unfold noteFrame
 simp only[hf]
 refine wpAny_bind (wpAny_field he hd h1 ?_)
 rw[if_neg (by decide)]
 exact Zef hfr hl hf he hkb hen hd (Array.getElem?_eq_some_iff.mp h1).1 k
def ZbL{C:Value}{d:Option Addr}(hfr:A.frames=some (env::outer))(hl:s.heap.FunFrames B (env::outer))(hf:env.frame=some L)(ht:TrD B e C d .none s.heap)(hkb:B.StaysIn s.heap)(hen:B.get? e=none)
 (k:∀h',B.StaysIn h'->h'.FunFrames B (env::outer)->TrD B e C d (rawInt L) h'->Moved s.heap h'->Q () {s with heap:=h'}):wpAny M A (noteFrame (.ref e) env) Q E s:=by
 obtain⟨oe,vs,T,oT,ts,he,⟨rfl,rfl⟩,hd,h1,hT,hTe,hT2,hdT,h3⟩:=ht
 unfold noteFrame
 simp only[hf]
 refine wpAny_bind (wpAny_field he hd h1 ?_)
 rw[if_pos (show(Value.ref T != Value.none)=true by simp)]
 refine wpAny_bind (wpAny_field hT2 hdT h3 ?_)
 rw[if_neg (show ¬((Value.none== rawInt L)=true) by simp[rawInt])]
 refine wpAny_bind (wpAny_setField hT2 hdT (Array.getElem?_eq_some_iff.mp h3).1 ?_)
 have oth:∀b,b≠T->(s.heap.update T (Obj.mapFields (·.setIfInBounds 3 Value.none))).get? b=s.heap.get? b:=λb hb=>Heap.get?_update_other _ _ (Ne.symm hb)
 have nr:∀b o,s.heap.get? b=some o->(∀ws,o.data≠ .fields ws)->b≠T:=λb o q hn z=>by
  rw[z,hT2] at q
  cases q
  exact hn ts hdT
 refine Zef hfr (hl.of_keeps λb o q hn=>⟨o,(oth b (nr b o q hn)).trans q,rfl⟩) hf ((oth e (Ne.symm hTe)).trans he) (λb o q=>(oth b λz=>by rw[z,hT] at q;cases q).trans (hkb b o q)) hen hd (Array.getElem?_eq_some_iff.mp h1).1
  λh' x1 x2 x3 x4=>k h' x1 x2 x3 (Moved.trans ⟨λb o q hn=>⟨o.slots,(oth b (nr b o q hn)).trans q⟩,λb o q=>?_⟩ x4)
 by_cases hb:b=T
 ·rw[hb];exact⟨_,Heap.get?_update_self _ hT2 (Obj.isFreed_of_fields (Obj.data_mapFields hdT _))⟩
 ·exact⟨o,(oth b hb).trans q⟩
def Hy{C fl:Value}{d:Option Addr}{l:List Env}(hkb:B.StaysIn s.heap)(hl:s.heap.FunFrames B l)(ht:TrD B e C d fl s.heap)
 (k:∀h',B.StaysIn h'->h'.FunFrames B l->TrD B e C d .none h'->Moved s.heap h'->Q () {s with heap:=h'}):wpAny M A (setFlight (.ref e) none) Q E s:=by
 obtain⟨oe,vs,T,oT,ts,he,hc,hd,h1,hT,hTe,hT2,hdT,h3⟩:=ht
 have z3:3<ts.size:=(Array.getElem?_eq_some_iff.mp h3).1
 have oth:∀b,b≠T->(s.heap.update T (Obj.mapFields (·.setIfInBounds 3 ((none:Option Addr).elim Value.none λf=>rawInt f)))).get? b=s.heap.get? b:=λb hb=>Heap.get?_update_other _ _ (Ne.symm hb)
 have nr:∀b o,s.heap.get? b=some o->(∀ws,o.data≠ .fields ws)->b≠T:=λb o q hn z=>by
  rw[z,hT2] at q
  cases q
  exact hn ts hdT
 unfold setFlight
 refine wpAny_bind (wpAny_field he hd h1 ?_)
 rw[if_pos (show(Value.ref T != Value.none)=true by simp)]
 refine wpAny_setField hT2 hdT z3 (k _ (λb o q=>(oth b λz=>by rw[z,hT] at q;cases q).trans (hkb b o q)) (hl.of_keeps λb o q hn=>⟨o,(oth b (nr b o q hn)).trans q,rfl⟩) ?_ ⟨λb o q hn=>⟨o.slots,(oth b (nr b o q hn)).trans q⟩,λb o q=>?_⟩)
 rotate_left
 ·by_cases hb:b=T
  ·rw[hb];exact⟨_,Heap.get?_update_self _ hT2 (Obj.isFreed_of_fields (Obj.data_mapFields hdT _))⟩
  ·exact⟨o,(oth b hb).trans q⟩
 exact⟨oe,vs,T,_,_,(oth e (Ne.symm hTe)).trans he,hc,hd,h1,hT,hTe,Heap.get?_update_self _ hT2 (Obj.isFreed_of_fields (Obj.data_mapFields hdT _)),Obj.data_mapFields hdT _,by simp[z3]⟩
end
def Ai{P:Program}{w:World}{H:Hp}{h:Heap}{a:Addr}{o:HO}(x:aQ P w H h a o):∃ob,h.get? a=some ob:=by
 cases o with
 |lst xs=>obtain⟨_,_,_,_,e⟩:=x;exact⟨_,e⟩
 |tup xs=>obtain⟨_,_,_,ob,e,_⟩:=x;exact⟨_,e⟩
 |dK kvs=>obtain⟨_,_,_,_,ob,_,_,e,_⟩:=x;exact⟨_,e⟩
 |dT kvs=>obtain⟨_,_,_,_,ob,_,_,e,_⟩:=x;exact⟨_,e⟩
 |set S n=>obtain⟨ob,_,_,_,e,_⟩:=x;exact⟨_,e⟩
 |ins C dx fs=>obtain⟨_,_,_,e,_⟩:=x;exact⟨_,e⟩
 |own y=>exact x
 |xd fs=>obtain⟨_,⟨ob,_,_,e,_⟩,_⟩:=x;exact⟨_,e⟩
 |rng lo hi=>obtain⟨_,_,_,e⟩:=x;exact⟨_,e⟩
 |h_ ob u=>obtain⟨e,_⟩:=x;exact⟨_,e⟩
 |jP q=>obtain⟨_,e,_⟩:=x;exact⟨_,e⟩
 |Gq q=>obtain⟨c,o,_,_,z,e,_⟩:=x;cases z;exact⟨_,e⟩
 |met f y=>exact⟨_,(show h.get? a=some _ from x)⟩
 |ext φ=>obtain⟨_,e,_⟩:=x;exact e
def jK.sub{P:Program}{w:World}{H:Hp}{h B:Heap}(x:jK P w H h)(k:∀b o u,H b=some u->h.get? b=some o->B.get? b=some o):jK P w H B:=λa o e=>
 (x a o e).stay (fun b u hb q=>by
   rcases hb with rfl|hb
   ·exact k _ _ _ e q
   ·exact k _ _ _ hb q) (λ_ q=>q) λ_ _ q=>q
structure UnX(fs:List Addr)(H H':Hp)(h B h':Heap):Prop where
 keep:∀b o,h.get? b=some o->H b=none->b∉fs->B.get? b=some o
 slot:∀b o,h.get? b=some o->H b=none->b∈fs->∃sl,h'.get? b=some {o with slots:=sl}
 free:∀b o,h.get? b=some o->H b=none->H' b=none
 there:∀b o,h.get? b=some o->∃o',h'.get? b=some o'
 tups:∀b xs,H b=some (.tup xs)->H' b=some (.tup xs)
 mK:∀b o u,H b=some (.h_ o u)->H' b=some (.h_ o u)
 jQ:∀b q,H b=some (.jP q)->H' b=some (.jP q)
structure Lies(P:Program)(w:World)(outer:List Env)(H:Hp)(s:Shared)(ea:Addr)(C:Value)(d:Option Addr)(fl:Value)(H':Hp)(B:Heap)(s':Shared):Prop where
 os:s'.os=s.os
 bare:AllBare s'.gens
 st:B.StaysIn s'.heap
 en:B.get? ea=none
 fr:s'.heap.FunFrames B outer
 tr:TrD B ea C d fl s'.heap
 hok:jK P w H' B
 un:UnX (frs outer) H H' s.heap B s'.heap
 no:H' ea=none
 new:s.heap.get? ea=none
def ū(P:Program)(w:World):pN:=λouter H s E e s'=>∃ea C d H' B,e=.ref ea/\Lies P w outer H s ea C d .none H' B s'/\E C d H'
def vq{P:Program}{w:World}{outer:List Env}{H:Hp}{s s':Shared}{e:Value}(h:ū P w outer H s (λ_ _ _=>False) e s'):False:=by
 obtain⟨_,_,_,_,_,_,_,h⟩:=h
 exact h
def ź{P:Program}{w:World}{X:Cx}:fK (ū P w) X EF:=λ_ _ _ _ _ _ _ h=>(vq h).elim
section
variable{P:Program}{w:World}{K:PySem.W.Frag}{mg:Str->Option Value}{base:Heap}{N:List Str}{qual:Str}{scope:Scope}{f:Addr}{cdv:Value}{A:Around}{outer:List Env}{s₀:Shared}{H₀:Hp}{E:XK}
def ġ:fK (ū P w) (dj (ū P w) P w K mg base N qual scope f cdv A outer s₀ H₀ E) (λ_=>E):=by
 intro pins σ H s e s' I h
 obtain⟨ea,C,d,H',B,rfl,l,hE⟩:=h
 have hfr:(A.deeper (envOfC qual scope s₀.heap.objs.size f cdv)).frames=some (envOfC qual scope s₀.heap.objs.size f cdv::outer):=I.ok.frames
 show wpAny _ _ (leaving _ _) _ _ s'
 unfold leaving
 refine wpAny_bind (ZbL hfr l.fr rfl l.tr l.st l.en λh1 x1 x2 x3 x4=>?_)
 refine Hy (s:={s' with heap:=h1}) x1 x2 x3 λh2 y1 y2 y3 y4=>?_
 obtain⟨_,_,y2'⟩:=y2
 have mv:=x4.trans y4
 have neL:∀b o,s₀.heap.get? b=some o->b∉frs outer->b∉frs (envOfC qual scope s₀.heap.objs.size f cdv::outer):=λb o q hb z=>by
  rcases List.mem_cons.mp (show b∈s₀.heap.objs.size::frs outer from z) with z|z
  ·exact absurd (Heap.lt_size q) (by rw[z];exact Nat.lt_irrefl _)
  ·exact hb z
 have inL:∀b,b∈frs outer->b∈frs (envOfC qual scope s₀.heap.objs.size f cdv::outer):=λb z=>List.mem_cons_of_mem _ z
 refine⟨ea,C,d,H',B,rfl,⟨l.os.trans I.os,l.bare,y1,l.en,y2',y3,l.hok,⟨λb o q n hb=>?_,λb o q n hb=>?_,λb o q n=>?_,λb o q=>?_,λb xs q=>l.un.tups b xs (I.base.tups b xs q),λb o u q=>l.un.mK b o u (I.base.mK b o u q),λb ps q=>?_⟩,l.no,?_⟩,hE⟩
 ·exact l.un.keep b o (I.base.keep b o q n hb (by simp[dj])) (I.base.free b o q n (by simp[dj])) (neL b o q hb)
 ·obtain⟨sl,q1⟩:=I.base.slot b o q n hb (by simp[dj])
  obtain⟨sl2,q2⟩:=l.un.slot b _ q1 (I.base.free b o q n (by simp[dj])) (inL b hb)
  have nf:∀vs,o.data≠ .fields vs:=by
   obtain⟨_,o',q3,hn⟩:=l.fr.mem (inL b hb)
   rw[q2] at q3
   cases q3
   exact hn
  obtain⟨sl3,q3⟩:=mv.up b _ q2 nf
  exact⟨sl3,q3⟩
 ·obtain⟨o1,q1⟩:=I.base.there b o q (by simp[dj])
  exact l.un.free b o1 q1 (I.base.free b o q n (by simp[dj]))
 ·obtain⟨o1,q1⟩:=I.base.there b o q (by simp[dj])
  obtain⟨o2,q2⟩:=l.un.there b o1 q1
  exact mv.there b o2 q2
 ·exact l.un.jQ b ps (I.base.jQ b ps q)
 ·cases q:s₀.heap.get? ea with
  |none=>rfl
  |some o=>
   obtain⟨o1,q1⟩:=I.base.there ea o q (by simp[dj])
   rw[l.new] at q1
   cases q1
def ZbM{pins:List (Addr×Obj)}{σ:L2.St}{H:Hp}{s:Shared}{e:Addr}{oe:Obj}{vs:Array Value}(I:Inv (dj (ū P w) P w K mg base N qual scope f cdv A outer s₀ H₀ E) pins σ H s)
 (he:s.heap.get? e=some oe)(hd:oe.data=.fields vs)(h1:vs[1]?=some .none)(hn:H e=none)(hnew:s₀.heap.get? e=none)(hE:E oe.cls oe.dict H) :
 (dj (ū P w) P w K mg base N qual scope f cdv A outer s₀ H₀ E).xe (.ref e) s:=by
 have hfr:(A.deeper (envOfC qual scope s₀.heap.objs.size f cdv)).frames=some (envOfC qual scope s₀.heap.objs.size f cdv::outer):=I.ok.frames
 have st:s.heap.FunFrames base (envOfC qual scope s₀.heap.objs.size f cdv::outer):=I.stack
 have nof:e∉frs (envOfC qual scope s₀.heap.objs.size f cdv::outer):=λz=>by
  obtain⟨_,o,q,hn⟩:=st.mem z
  rw[he] at q
  cases q
  exact hn vs hd
 have hin:∀env∈(envOfC qual scope s₀.heap.objs.size f cdv::outer),∀a,env.frame=some a->a∈e::frs (envOfC qual scope s₀.heap.objs.size f cdv::outer):=λenv h1 a h2=>List.mem_cons_of_mem _ (List.mem_filterMap.mpr ⟨env,h1,h2⟩)
 have hl:s.heap.FunFrames (PySem.W.hideAll s.heap (e::frs (envOfC qual scope s₀.heap.objs.size f cdv::outer))) (envOfC qual scope s₀.heap.objs.size f cdv::outer):=PySem.W.funFrames_hide st hin
 have hB:∀b o,s.heap.get? b=some o->b≠e->b∉frs (envOfC qual scope s₀.heap.objs.size f cdv::outer)->(PySem.W.hideAll s.heap (e::frs (envOfC qual scope s₀.heap.objs.size f cdv::outer))).get? b=some o:=λb o q h1 h2=>
  PySem.W.hideAll_get _ q λz=>(List.mem_cons.mp z).elim h1 h2
 have neL:∀b o,s₀.heap.get? b=some o->b∉frs outer->b∉frs (envOfC qual scope s₀.heap.objs.size f cdv::outer):=λb o q hb z=>by
  rcases List.mem_cons.mp (show b∈s₀.heap.objs.size::frs outer from z) with z|z
  ·exact absurd (Heap.lt_size q) (by rw[z];exact Nat.lt_irrefl _)
  ·exact hb z
 have ne0:∀b o,s₀.heap.get? b=some o->b≠e:=λb o q z=>by rw[z,hnew] at q;cases q
 have kb:(PySem.W.hideAll s.heap (e::frs (envOfC qual scope s₀.heap.objs.size f cdv::outer))).StaysIn s.heap:=λb o q=>PySem.W.of_hideAll _ q
 have en:(PySem.W.hideAll s.heap (e::frs (envOfC qual scope s₀.heap.objs.size f cdv::outer))).get? e=none:=PySem.W.hideAll_none _ List.mem_cons_self
 show wpAny _ _ (leaving _ _) _ _ s
 unfold leaving
 refine wpAny_bind (Sq hfr hl rfl he kb en hd h1 λg1 x1 x2 x3 x4=>?_)
 refine Hy (s:={s with heap:=g1}) x1 x2 x3 λg2 y1 y2 y3 y4=>?_
 obtain⟨_,_,y2'⟩:=y2
 have mv:=x4.trans y4
 refine⟨e,oe.cls,oe.dict,H,_,rfl,⟨I.os,I.bare,y1,en,y2',y3,?_,⟨λb o q n hb=>?_,λb o q n hb=>?_,λb o q n=>?_,λb o q=>?_,I.base.tups,I.base.mK,I.base.jQ⟩,hn,hnew⟩,hE⟩
 ·refine jK.sub I.hok λb o u hu q=>hB b o q (λz=>by rw[z,hn] at hu;cases hu) λz=>?_
  have:=I.qP b z
  rw[hu] at this
  cases this
 ·exact hB b o (I.base.keep b o q n hb (by simp[dj])) (ne0 b o q) (neL b o q hb)
 ·obtain⟨sl,q1⟩:=I.base.slot b o q n hb (by simp[dj])
  have nf:∀vs,o.data≠ .fields vs:=by
   obtain⟨_,o',q3,hn⟩:=st.mem (List.mem_cons_of_mem _ hb)
   rw[q1] at q3
   cases q3
   exact hn
  obtain⟨sl3,q3⟩:=mv.up b _ q1 nf
  exact⟨sl3,q3⟩
 ·exact I.base.free b o q n (by simp[dj])
 ·obtain⟨o1,q1⟩:=I.base.there b o q (by simp[dj])
  exact mv.there b o1 q1
end
end P
namespace P
open PySem PySem.Spec PyProof.Rows L2 M2 M3 M4
abbrev Js:List Value:=[.type "ValueError",.type "Exception",.type "BaseException",.type "object"]
abbrev nwV:String:= "ValueError.__new__"
section
variable{K:PySem.W.Frag}{h:Heap}{C:Addr}{bmB:List Value}{newId:String}
def ZbN(X:K.In h)(q:PySem.W.excIn K C bmB newId=true) :
 ∃bm N nm qn bs hd sn sub ab col dd k0 k1 k2 k3 k5 mN,h.get? C=some (excClassObj nm qn C N bs bm hd sn sub ab col dd k0 k1 k2 k3 k5 newId)/\h.Ns N mN/\mN "__init__" =none/\OwnTail h bmB bm:=by
 unfold PySem.W.excIn at q
 split at q
 case h_2=>cases q
 rename_i dd cd sl ho
 split at q
 case h_2=>cases q
 rename_i C1 bm k0 k1 k2 k3 n1 k5 e1 e2
 simp only[Bool.and_eq_true,beq_iff_eq,Bool.not_eq_true'] at q
 obtain⟨⟨⟨⟨⟨z1,z2⟩,z3⟩,z4⟩,z5⟩,z6⟩:=q
 subst z1 z2
 obtain⟨nm,bs,mro,ns,qn,hd,sn,sub,ab,col,del⟩:=cd
 dsimp only at e1 z3 z5 z6
 subst e1 z3
 obtain⟨sll⟩:=sl
 dsimp only at e2
 subst e2
 exact⟨bm,ns,nm,qn,bs,hd,sn,sub,ab,col,dd,k0,k1,k2,k3,k5,_,X _ _ ho,.of_isNs (PySem.W.isNs_of_in X z5),PySem.W.nsMap_none_of_in X z5 z6,PySem.W.tail_of_in X z4⟩
end
def xu(X:Cx)(E:L2.St->XK):Prop:=∀(pins:List (Addr×Obj)) (σ:L2.St) (H:Hp) (s:Shared) (e:Addr) (oe:Obj) (vs:Array Value),Inv X pins σ H s->s.heap.get? e=some oe->oe.data=.fields vs->vs[1]?=some .none->H e=none->
 X.s₀.heap.get? e=none->E σ oe.cls oe.dict H->X.xe (.ref e) s
def qY{P:Program}{w:World}{K:PySem.W.Frag}{mg:Str->Option Value}{base:Heap}{N:List Str}{qual:Str}{scope:Scope}{f:Addr}{cdv:Value}{A:Around}{outer:List Env}{s₀:Shared}{H₀:Hp}{E:XK} :
 xu (dj (ū P w) P w K mg base N qual scope f cdv A outer s₀ H₀ E) (λ_=>E):=λ_ _ _ _ _ _ _ I he hd h1 hn hnew hE=>ZbM I he hd h1 hn hnew hE
def xG(C:String):M Fl:=λρ=>.exc ⟨C,[],[]⟩ ρ
section
variable{X:Cx}{cm:String->Addr}{E:L2.St->XK}{x:Str}{C:String}{np cpos pos:Pos}
def xH{P:Program}{w:World}{H:Hp}{h:Heap}{e:Addr}(k:jK P w H h)(q:h.get? e=none):H e=none:=by
 cases z:H e with
 |none=>rfl
 |some u=>
  obtain⟨o,ho⟩:=Ai (k e u z)
  rw[q] at ho
  cases ho
def Inv.Zeg{pins:List (Addr×Obj)}{σ:L2.St}{H:Hp}{s:Shared}{e:Addr}(I:Inv X pins σ H s)(hex:X.ex=[])(q:s.heap.get? e=none):X.s₀.heap.get? e=none:=by
 cases z:X.s₀.heap.get? e with
 |none=>rfl
 |some o=>
  obtain⟨o1,q1⟩:=I.base.there e o z (by rw[hex];simp)
  rw[q] at q1
  cases q1
def Aj(hc:X.calm=true)(hex:X.ex=[])(hr:xu X E)(hg:Gl X x)(hm:X.mg x=some (.ref (cm C)))(q:PySem.W.excIn X.K (cm C) Js nwV=true)(hdb:(x== ("__debug__" :Str))=false:=by decide) :
 PS X (.Raise (some (.Call (.Name x np) [] [] cpos)) none pos) (tS (kk X cm) E (xG C)):=by
 intro pins s σ H D I ⟨c,F,ρ,rel,h⟩
 obtain⟨bm,N,nm,qn,bs,hd,sn,sub,ab,col,dd,k0,k1,k2,k3,k5,mN,hC,hN,hni,T⟩:=ZbN I.jR q
 refine wpAny_Raise_call_subT (C:=cm C) (nm:=nm) (q:=qn) (N:=N) (bs:=bs) (bm:=bm) (hdct:=hd) (sn:=sn) (sub:=sub) (ab:=ab) (col:=col) (dd:=dd) (k0:=k0) (k1:=k1) (k2:=k2) (k3:=k3) (k5:=k5)
  PySem.F.excBase_ValueError (mN:=mN) (T.hasType (by decide)) (I.ok.hd hc) rfl hni (nA I hg hm ⟨rfl,?_⟩ hdb)
 refine evalArgs_empty ⟨rfl,Nat.zero_le _,hC,hN,T,λh' e hx=>?_⟩
 obtain⟨t,he,_,_⟩:=hx.there
 have I2:Inv X pins σ H {s with heap:=h'}:=I.kept (t':=s.toks) hx.keeps
 exact hr pins σ H _ e _ _ I2 he rfl rfl (xH I.hok hx.new) (Inv.Zeg I hex hx.new) (h σ _ _ F H rel (Same.refl _) ⟨rfl,[],.inl ⟨rfl,rfl⟩,rfl,Ħ.nil⟩)
end
section
variable{M:Model}{A:Around}{E:Value->Shared->Prop}{s:Shared}{K:PySem.W.Frag}{e C D:Addr}{oe:Obj}{b:Bool}{Q:Bool->Shared->Prop}
end
section
variable{X:Cx}{pins:List (Addr×Obj)}{σ:L2.St}{H:Hp}{s:Shared}{xe:Value->Shared->Prop}
end
end P
namespace P
open PySem PySem.Spec PyProof.Rows L2 M2 M3 M4
abbrev MH:=PX->Ş->Res Fl
section
variable{X:Cx}{cm:String->Addr}{E:L2.St->XK}{pins:List (Addr×Obj)}{σ:L2.St}{H Hc:Hp}{s sc:Shared}{ea:Addr}{C:Value}{d:Option Addr}{B:Heap}
variable{y n:Str}{Dn:String}{i:Nat}{yp hpos:Pos}{b₀:Stmt}{suite:List Stmt}{rest:List ExceptHandler}{yes no:List String}{mh:M Fl}{mr:MH}
end
end P
namespace P
open PySem PySem.Spec PyProof.Rows L2 M2 M3 M4 Builtin Builtin.ObjectAttr
def fu(K:PySem.W.Frag)(C:Addr):Bool:=match K.lookup C with
 |some ⟨.type "type",_,.cls cd,sl⟩=>(match cd.mro,sl.toList with
  | .ref C'::bm,[_,_,_,_,some (.builtin n),_]=>C'== C && n== nwV && !cd.hasDel && cd.hasDict && PySem.W.tailIn K Js bm && PySem.W.findIn K (.ref C) "__setattr__" == some (some (.builtin "object.__setattr__")) &&
      PySem.W.findIn K (.ref C) "__getattribute__" == some (some (.builtin "BaseException.__getattribute__")) && PySem.W.findIn K (.ref C) "__getattr__" == some none
  |_,_=>false)
 |_=>false
structure qG(K:PySem.W.Frag)(C:Addr)(cd:ClassData)(bm:List Value):Prop where
 at_:∃dd k0 k1 k2 k3 k5,K.lookup C=some ⟨.type "type",dd,.cls cd,#[k0,k1,k2,k3,some (.builtin nwV),k5]⟩
 mro:cd.mro=.ref C::bm
 del:cd.hasDel=false
 dict:cd.hasDict=true
 tail:PySem.W.tailIn K Js bm=true
 sa:PySem.W.findIn K (.ref C) "__setattr__" =some (some (.builtin "object.__setattr__"))
 ga:PySem.W.findIn K (.ref C) "__getattribute__" =some (some (.builtin "BaseException.__getattribute__"))
 gg:PySem.W.findIn K (.ref C) "__getattr__" =some none
def lF{K:PySem.W.Frag}{C:Addr}(q:fu K C=true):∃cd bm,qG K C cd bm:=by
 unfold fu at q
 split at q
 case h_2=>cases q
 rename_i dd cd sl ho
 split at q
 case h_2=>cases q
 rename_i C1 bm k0 k1 k2 k3 n1 k5 e1 e2
 simp only[Bool.and_eq_true,beq_iff_eq,Bool.not_eq_true'] at q
 obtain⟨⟨⟨⟨⟨⟨⟨z1,z2⟩,z3⟩,z4⟩,z5⟩,z6⟩,z7⟩,z8⟩:=q
 subst z1 z2
 obtain⟨sll⟩:=sl
 dsimp only at e2
 subst e2
 exact⟨cd,bm,⟨dd,k0,k1,k2,k3,k5,ho⟩,e1,z3,z4,z5,z6,z7,z8⟩
section
variable{K:PySem.W.Frag}{h:Heap}{C:Addr}{cd:ClassData}{bm:List Value}
def qG.own(x:qG K C cd bm)(X:K.In h):OwnTail h Js bm:=PySem.W.tail_of_in X x.tail
def qG.cls(x:qG K C cd bm):PySem.W.clsIn K C=some cd:=by
 obtain⟨_,_,_,_,_,_,e⟩:=x.at_
 unfold PySem.W.clsIn
 rw[e]
theorem Ak{T:String}(hT:Js.contains (.type T)=true):∀{l:List Value},PySem.W.tailIn K Js l=true->l.contains (.type T)=true
 | [],e=>by cases(show(Js== [])=true from e)
 |v::r,e=>by
  unfold PySem.W.tailIn at e
  rcases Bool.or_eq_true_iff.mp e with q|q
  ·rw[beq_iff_eq.mp q];exact hT
  ·split at q
   ·split at q
    ·simp only[Bool.and_eq_true,beq_iff_eq] at q
     rw[List.contains_cons,Ak hT q.2,Bool.or_true]
    ·cases q
   ·cases q
theorem pW(self:Value):∀{l:List Value},PySem.W.tailIn K Js l=true->refuseLoop self "__setattr__" l=pure ()
 | [],e=>by cases(show(Js== [])=true from e)
 |v::r,e=>by
  unfold PySem.W.tailIn at e
  rcases Bool.or_eq_true_iff.mp e with q|q
  ·rw[beq_iff_eq.mp q];exact PySem.F.store_ValueError.passes self
  ·split at q
   ·split at q
    ·simp only[Bool.and_eq_true,beq_iff_eq] at q
     rw[refuseLoop_ref]
     exact pW self q.2
    ·cases q
   ·cases q
def qG.mroIs(x:qG K C cd bm){T:String}(hT:Js.contains (.type T)=true):PySem.W.mroIn K C (.type T)=some true:=by
 unfold PySem.W.mroIn
 rw[x.cls,Option.bind_some,if_neg (by rw[x.mro];simp),x.mro,List.contains_cons,Ak hT x.tail,Bool.or_true]
end
section
variable{prog:Program}{w:World}{A:Around}{E:Value->Shared->Prop}{h:Heap}{g:Array GenState}{d:Drawn}{t:Nat}{os:OsState}
variable{nm q:Str}{C N:Addr}{bs bm bmB:List Value}{hdct:Bool}{sn:List Str}{sub:List Value}{ab:Bool}{col:Option Bool}{dd:Option Addr}{k0 k1 k2 k3 k5:Option Value}{B newId initId:String}
def qH(F:ExcBaseFacts B newId initId bmB)(T:OwnTail h bmB bm){rest:List Value}{fI:Addr}{oI:Obj}{Q:Fin->Shared->Prop}
 (hC:h.get? C=some (excClassObj nm q C N bs bm hdct sn sub ab col dd k0 k1 k2 k3 k5 newId))(hi:PySem.W.Looks (model prog w) h (typeLookup (.ref C) "__init__") (some (.ref fI)))
 (hfI:h.get? fI=some oI)(hfc:oI.cls=.type "function")
 (hq:∀h' e,Heap.MadeExcOf h h' e (.ref C) rest→
   wpAny (model prog w) A (call (.ref fI) (.ref e::rest)) (λr s'=>r=.none/\Q (.done (.ret (.ref e))) s') E ⟨h',g,d,t,os⟩)(hrest:rest.length<=sizeLine) :
 wpAny (model prog w) A (Builtin.«type.__call__» ⟨.ref C::rest,[]⟩) Q E ⟨h,g,d,t,os⟩:=by
 repeat (first|with_reducible refine wpAny_loadPart_at hC ?_|with_reducible refine wpAny_madeBy_exc hC ?_|wp_step)
 refine codeAny_call_builtin_code (Code.quiet_builtin _ F.quiet) (wpAny_check_new_subT F T hC ?_)
 refine codeAny_exc_new_subT F T hC ?_ hrest
 show wpAny _ _ _ _ _ _
 have hC₁:= Heap.get?_push_of_some {cls:=.ref C,data:=.fields #[.ref h.objs.size,.none,.none,.none,.bool false,.none]}
  (Heap.get?_push_of_some {cls:=.type "tuple",data:=.seq rest.toArray} hC)
 have hfI₁:= Heap.get?_push_of_some {cls:=.ref C,data:=.fields #[.ref h.objs.size,.none,.none,.none,.bool false,.none]}
  (Heap.get?_push_of_some {cls:=.type "tuple",data:=.seq rest.toArray} hfI)
 have hi₁:= hi.keeps (h':=(h.push {cls:=.type "tuple",data:=.seq rest.toArray}).push {cls:=.ref C,data:=.fields #[.ref h.objs.size,.none,.none,.none,.bool false,.none]}) λb o e=>Heap.get?_push_of_some _ (Heap.get?_push_of_some _ e)
 have hget:((h.push {cls:=.type "tuple",data:=.seq rest.toArray}).push
  {cls:=.ref C,data:=.fields #[.ref h.objs.size,.none,.none,.none,.bool false,.none]}).get? (h.objs.size+1)=some
  {cls:=.ref C,data:=.fields #[.ref h.objs.size,.none,.none,.none,.bool false,.none]}:=by heap_get
 have hcC:(Value.ref C::bm).contains (.ref C)=true:=by simp
 unfold isInstance
 repeat (first|with_reducible refine wpAny_loadPart_at hget ?_|(with_reducible refine wpAny_isSubtype_exc hC₁ ?_;rw[hcC])|wp_step)
 show wpAny _ _ (typeLookup (.ref C) _) _ _ _
 refine hi₁.at ?_
 refine wpAny_holding (wpAny_bind ?_)
 unfold bindSpecial
 refine wpAny_bind (wpAny_typeOf (T:= "function") ⟨_,hfI₁,hfc⟩ ?_)
 rw[if_pos (by decide)]
 refine wpAny_pure (wpAny_bind (wpAny_mono (hq _ (h.objs.size+1) ⟨λb o hb=>Heap.get?_push_of_some _ (Heap.get?_push_of_some _ hb),Heap.get?_none_of_le (Nat.le_succ _),h.objs.size,hget,Heap.get?_none_of_le (Nat.le_refl _),?_⟩) (λr s' hr=>?_) λ_ _ x=>x))
 ·exact Heap.get?_push_of_some _ (Heap.get?_push_at rfl rfl)
 ·obtain⟨rfl,hQ⟩:=hr
  wp_walk
  exact hQ
def Dr(F:ExcBaseFacts B newId initId bmB)(T:OwnTail h bmB bm){rest:List Value}{fI:Addr}{oI:Obj}{Q:Value->Shared->Prop}
 (hC:h.get? C=some (excClassObj nm q C N bs bm hdct sn sub ab col dd k0 k1 k2 k3 k5 newId))(hi:PySem.W.Looks (model prog w) h (typeLookup (.ref C) "__init__") (some (.ref fI)))
 (hfI:h.get? fI=some oI)(hfc:oI.cls=.type "function")
 (hq:∀h' e,Heap.MadeExcOf h h' e (.ref C) rest→
   wpAny (model prog w) (A.under (.builtin "type.__call__" ⟨.ref C::rest,[]⟩)) (call (.ref fI) (.ref e::rest)) (λr s'=>r=.none/\Q (.ref e) s') E ⟨h',g,d,t,os⟩)(hrest:rest.length<=sizeLine) :
 wpAny (model prog w) A (call (.ref C) rest) Q E ⟨h,g,d,t,os⟩:=by
 have f1:=tc_lookup
 have f2:=tc_bind (.ref C)
 have hT:(⟨h,g,d,t,os⟩:Shared).TypeIs (.ref C) "type" := ⟨_,hC,rfl⟩
 refine wpAny_call (codeAny_of_tree ?_)
 show wpAny _ _ (callAny (.ref C) _) _ _ _
 repeat (any_goals (first|assumption|with_reducible refine wpAny_loadPart_at hC ?_|wp_step))
 refine⟨rfl,?_⟩
 refine codeAny_call_builtin_at (Code.quiet_builtin _ (by decide +kernel)) entry_typeCall (wpAny_check_type_call_sub hC (qH (hrest:=hrest) F T hC hi hfI hfc λh' e hm=>?_))
 exact hq h' e hm
end
section
variable{prog:Program}{w:World}{A:Around}{E:Value->Shared->Prop}{s:Shared}{K:PySem.W.Frag}{x C:Addr}{cd:ClassData}{bm:List Value}{ox:Obj}{od:Option Obj}{name:Str}{v:Value}
def Zeh{rest:List Value}{fI:Addr}{Q:Value->Shared->Prop}(X:K.In s.heap)(c:qG K C cd bm)(hi:PySem.W.findIn K (.ref C) "__init__" =some (some (.ref fI)))(hf:PySem.W.typeIn K (.ref fI)=some (.type "function"))(hrest:rest.length<=sizeLine)
 (hq:∀h' e,Heap.MadeExcOf s.heap h' e (.ref C) rest->wpAny (model prog w) (A.under (.builtin "type.__call__" ⟨.ref C::rest,[]⟩)) (call (.ref fI) (.ref e::rest)) (λr s'=>r=.none/\Q (.ref e) s') E {s with heap:=h'}) :
 wpAny (model prog w) A (call (.ref C) rest) Q E s:=by
 obtain⟨dd,k0,k1,k2,k3,k5,e⟩:=c.at_
 obtain⟨oI,hoI,hfc⟩:=Option.map_eq_some_iff.mp hf
 have hC:=X _ _ e
 have T:=c.own X
 obtain⟨nm,bs,mro,ns,qn,hd,sn,sub,ab,col,del⟩:=cd
 obtain rfl:mro=.ref C::bm:=c.mro
 obtain rfl:del=false:=c.del
 obtain⟨hh,g,d,t,os⟩:=s
 exact Dr (C:=C) (nm:=nm) (q:=qn) (N:=ns) (bs:=bs) (bm:=bm) (hdct:=hd) (sn:=sn) (sub:=sub) (ab:=ab) (col:=col) (dd:=dd) (k0:=k0) (k1:=k1) (k2:=k2) (k3:=k3) (k5:=k5) PySem.F.excBase_ValueError T hC (PySem.W.looks_findIn X hi) (X _ _ hoI) hfc hq hrest
def Al{tk:Tok}{R:Result->Shared->Prop}(X:K.In s.heap)(I:PySem.W.InstAt s.heap x ox C od)(c:qG K C cd bm)(ht:Ő K C name)
 (h:∀b,wpAny (model prog w) A.in1 (storeInOwnDict (.ref x) (.ref C) (.str name tk) name v b)
   (λfin s'=>match fin with| .done f=>R (.ok f) s'| .again c'=>c'.quiet=true/\codeAny (model prog w) A c' R s') (λe s'=>R (.error e) s') s) :
 codeAny (model prog w) A (.call (.builtin "object.__setattr__") ⟨[.ref x,.str name tk,v],[]⟩) R s:=by
 have SF:=PySem.F.store_object
 have sub:PySem.W.Looks (model prog w) s.heap (isInstance (.ref x) (.type "object")) true:=I.type.andThen (PySem.W.looks_mroIn X (c.mroIs (by decide)))
 refine codeAny_call_builtin SF.slot.plain SF.entry (@PySem.W.check_slot (model prog w) _ _ s "object.__setattr__" "object" "__setattr__" (.ref x) [.str name tk,v] [] _ SF.kind SF.split sub (SF.args (.ref x) (.str name tk) v) ?_)
 have hm:PySem.W.Looks (model prog w) s.heap (mroOf (.ref C)) cd.mro:=(PySem.W.looks_clsIn X c.cls).andThen .now
 have L3:PySem.W.Looks (model prog w) s.heap (typeLookup (.ref C) name) none:=PySem.W.looks_findIn X ht
 rw[PySem.W.osa_eq,refuse_eq]
 refine wpAny_bind (wpAny_bind (I.type.here (wpAny_bind (hm.here ?_))))
 rw[c.mro,refuseLoop_ref,pW _ c.tail]
 refine wpAny_pure (wpAny_bind (I.type.here (wpAny_bind (L3.here (wpAny_bind (wpAny_pure ?_))))))
 exact h _
def Ms{sl:Array (Option Value)}{vs:Array Value}{Q:Unit->Shared->Prop}(X:K.In s.heap)(hx:s.heap.get? x=some ⟨.ref C,none,.fields vs,sl⟩)(c:qG K C cd bm)(ht:Ő K C name)
 (h:∀h',h'.get? x=some ⟨.ref C,some s.heap.objs.size,.fields vs,sl⟩->h'.Ns1 s.heap.objs.size (λy=>if y=name then some v else none)->(∀b o,b≠x->s.heap.get? b=some o->h'.get? b=some o)->Q () {s with heap:=h',toks:=s.toks+2}) :
 wpAny (model prog w) A (setAttr (.ref x) name v) Q E s:=by
 have J:PySem.W.InstAt s.heap x ⟨.ref C,none,.fields vs,sl⟩ C none:=⟨hx,rfl,rfl,trivial⟩
 refine PySem.W.set_plain X J c.sa (Al (s:={s with toks:=s.toks+1}) X J c ht λb=>?_)
 refine wpAny_bind (wpAny_pure (wpAny_bind (wpAny_bind (wpAny_loadPart hx (wpAny_bind (PySem.W.Looks.here (s:={s with toks:=s.toks+1}) (PySem.W.looks_clsIn X c.cls) ?_))))))
 rw[c.dict]
 have hxs:x≠s.heap.objs.size:=Nat.ne_of_lt (Heap.lt_size hx)
 have hx₁:(s.heap.push {cls:=.type "dict",data:=.dict #[]}).get? x=some ⟨.ref C,none,.fields vs,sl⟩:=Heap.get?_push_of_some _ hx
 refine wpAny_bind (wpAny_alloc ?_)
 refine wpAny_bind (wpAny_update hx₁ ?_)
 refine wpAny_pure (a:=some s.heap.objs.size) (wpAny_bind (wpAny_pure (wpAny_bind ?_)))
 have hgd:((s.heap.push {cls:=.type "dict",data:=.dict #[]}).update x λo=> {cls:=o.cls,dict:=some s.heap.objs.size,data:=o.data,slots:=o.slots}).get? s.heap.objs.size
  = some {cls:=.type "dict",data:=.dict #[]}:=(Heap.get?_update_ne _ _ _ _ hxs.symm).trans (Heap.get?_push_at rfl rfl)
 have hnd:((s.heap.push {cls:=.type "dict",data:=.dict #[]}).update x λo=> {cls:=o.cls,dict:=some s.heap.objs.size,data:=o.data,slots:=o.slots}).Ns s.heap.objs.size (λ_=>none):=
  ⟨_,#[],_,hgd,rfl,λe he=>absurd he (by simp),λ_=>rfl⟩
 refine wpAny_nsSet1 (Heap.Ns1.of_empty hnd) λh' hn' hs=>?_
 obtain⟨oD,esD,epD,hoD,hdD,hcD⟩:=hn'.count (PySem.Within.cons name v PySem.Within.nil)
 refine wpAny_bind (wpAny_lookBehind hoD (by rw[hdD];exact pastItsLine_dict (Nat.le_trans hcD (by rw[List.length_cons,List.length_nil,sizeLine_eq];omega))) ?_)
 refine wpAny_pure (h h' ?_ hn' λb o hb q=>?_)
 ·exact(hs.2 x hxs).trans (Heap.get?_update_self _ hx₁ rfl)
 ·exact(hs.2 b (Nat.ne_of_lt (Heap.lt_size q))).trans ((Heap.get?_update_ne _ _ _ _ hb).trans (Heap.get?_push_of_some _ q))
def Jt{sl:Array (Option Value)}{vs:Array Value}{dx:Addr}{mA:Str->Option Value}{ns:List Str}{Q:Unit->Shared->Prop}(X:K.In s.heap)(hx:s.heap.get? x=some ⟨.ref C,some dx,.fields vs,sl⟩)(hn:s.heap.Ns1 dx mA)(hw:PySem.Within mA ns)(hsz:ns.length<sizeLine)(c:qG K C cd bm)(ht:Ő K C name)
 (h:∀h',h'.Ns1 dx (λy=>if y=name then some v else mA y)->Heap.SameBut dx s.heap h'->Q () {s with heap:=h',toks:=s.toks+2}) :
 wpAny (model prog w) A (setAttr (.ref x) name v) Q E s:=by
 obtain⟨od,hod,_⟩:=uR hn
 have J:PySem.W.InstAt s.heap x ⟨.ref C,some dx,.fields vs,sl⟩ C (some od):=⟨hx,rfl,rfl,hod⟩
 refine PySem.W.set_plain X J c.sa (Al (s:={s with toks:=s.toks+1}) X J c ht λb=>?_)
 refine wpAny_bind (wpAny_pure (wpAny_bind (wpAny_bind (wpAny_loadPart hx (wpAny_bind (PySem.W.Looks.here (s:={s with toks:=s.toks+1}) (PySem.W.looks_clsIn X c.cls) ?_))))))
 rw[c.dict]
 refine wpAny_pure (a:=some dx) (wpAny_bind (wpAny_pure (wpAny_bind ?_)))
 refine wpAny_nsSet1 (s:={s with toks:=s.toks+1}) hn λh' hn2 hs2=>?_
 obtain⟨oD,esD,epD,hoD,hdD,hcD⟩:=hn2.count (PySem.Within.cons name v hw)
 refine wpAny_bind (wpAny_lookBehind hoD (by rw[hdD];exact pastItsLine_dict (Nat.le_trans hcD (by rw[List.length_cons];omega))) ?_)
 exact wpAny_pure (h _ hn2 hs2)
end
end P
namespace P
open PySem PySem.Spec PyProof.Rows L2 M2 M3 M4
def xn(a C:Addr)(d:Option Addr):HO:=.ext λh=>∃o vs,h.get? a=some o/\o.cls=.ref C/\o.dict=d/\o.data=.fields vs/\vs[1]?=some .none
def XDh(H:Hp)(a:Addr)(d:Option Addr)(fs:List (Str×V)):Prop:=(d=none/\fs=[])\/∃d0,d=some d0/\H d0=some (.xd fs)/\d0≠a
def XDn(H:Hp)(a:Addr)(d:Option Addr)(d':Addr):Prop:=d=some d'\/(d=none/\H d'=none/\d'≠a)
def Am(H:Hp)(a C:Addr)(d:Option Addr)(d':Addr)(fs:List (Str×V)):Hp:=match d with
 |some _=>upd H d' (.xd fs)
 |none=>upd (upd H d' (.xd fs)) a (xn a C (some d'))
def Ao{f g:Str}{y:V}{u:Value}{fs:List (Str×V)}{mA:Str->Option Value}(ry:RelV y u)(r:∀g,oE (fs.lookup g) (mA g)):oE ((cF f y fs).lookup g) (if g=f then some u else mA g):=by
 rw[jT]
 split
 ·exact ry
 ·exact r g
section
variable{X:Cx}{pins:List (Addr×Obj)}{σ:L2.St}{H:Hp}{s:Shared}{a C:Addr}{cd:ClassData}{bm:List Value}{d:Option Addr}{fs:List (Str×V)}{f:Str}{y:V}{u:Value}{A:Around}{E:Value->Shared->Prop}
def Ss{Q:Unit->Shared->Prop}(I:Inv X pins σ H s)(c:qG X.K C cd bm)(ha:H a=some (xn a C d))(hD:XDh H a d fs)(n:Ő X.K C f)(hl:fs.length<1000)(ry:RelV y u)
 (h:∀s' d',XDn H a d d'->Inv X pins σ (Am H a C d d' (cF f y fs)) s'->Q () s'):wpAny (model X.prog X.w) A (setAttr (.ref a) f u) Q E s:=by
 obtain⟨⟨o,vs,ho,hcl,hdi,hda,hv1⟩,_,_⟩:=(show aQ X.prog X.w H s.heap a (xn a C d) from I.hok a _ ha)
 obtain⟨ocls,odict,odata,osl⟩:=o
 dsimp only at hcl hdi hda
 subst hcl hdi hda
 rcases hD with⟨rfl,rfl⟩|⟨d0,rfl,hd0,hne⟩
 ·refine Ms I.jR ho c n λh' hx' hns k=>h _ s.heap.objs.size (.inr ⟨rfl,I.hok.fresh (Nat.le_refl _),λz=>?_⟩) ?_
  ·have:=Heap.lt_size ho
   rw[z] at this
   exact Nat.lt_irrefl _ this
  ·obtain⟨od,es,ep,e1,e2⟩:=id hns
   have hfr:=(Heap.get?_some_iff.mp e1).2
   have g1:(s.heap.push od).get? s.heap.objs.size=some od:=Heap.get?_push_at rfl hfr
   have ne:s.heap.objs.size≠a:=λz=>by
    have:=Heap.lt_size ho
    rw[<-z] at this
    exact Nat.lt_irrefl _ this
   have I1:Inv X pins σ (upd H s.heap.objs.size (.xd (cF f y []))) {s with heap:=s.heap.push od,toks:=s.toks}:=
    I.laid (λb o q=>Heap.get?_push_of_some _ q) (Nat.le_refl _) ⟨_,hns.at λo q=>by rw[e1] at q;cases q;exact g1,λg=>Ao (fs:=[]) (mA:=λ_=>none) ry λ_=>trivial⟩
   refine I1.write (x:=a) (e:=a) (h':=h') (by rw[ě (Ne.symm ne),ha];exact trivial) (.inl rfl) (λb o hb q=>?_) ⟨_,hx'⟩ ?_
   ·rcases Heap.get?_push_cases q with⟨rfl,rfl⟩|q
    ·exact e1
    ·exact k b o hb q
   ·refine⟨⟨_,vs,hx',rfl,rfl,rfl,hv1⟩,⟨_,hx'⟩,?_⟩
    rintro h1 h2 ⟨o,ws,q1,q2⟩ kk
    exact⟨o,ws,kk o q1,q2⟩
 ·obtain⟨mA,hns,r⟩:=(show aQ X.prog X.w H s.heap d0 (.xd fs) from I.hok d0 _ hd0)
  have wi:PySem.Within mA (fs.map (·.1)):=λg hg=>by
   refine Classical.byContradiction λhn=>hg (oE.none_of ?_)
   rw[<-oY (m:=g) (fs:=fs) (by simpa using hn)]
   exact r g
  refine Jt I.jR ho hns wi (by rw[List.length_map,sizeLine_eq];omega) c n λh' hn2 sb=>h _ d0 (.inl rfl) ?_
  exact I.write (x:=d0) (e:=d0) (by rw[hd0];exact trivial) (.inl rfl) (λb o hb q=>(sb.2 b hb).trans q) (let ⟨o,_,_,e,_⟩:=hn2;⟨o,e⟩) ⟨_,hn2,λg=>Ao ry r⟩
def tXF(C:Addr)(f:Str)(j:Nat):TS:=λD σ H=>∃a d fs y,σ[0]?=some (some (.ref a))/\σ[j]?=some (some y)/\H a=some (xn a C d)/\XDh H a d fs/\fs.length<1000/\∀d',XDn H a d d'->D.nx σ (Am H a C d d' (cF f y fs))
def tXB(C:Addr):List (Str×Nat)->TS
 | []=>Ua
 |(f,j)::r=>Zdv (tXF C f j) (tXB C r)
variable{o value:Expr}{pos pos':Pos}{j:Nat}{ss:List Stmt}{r:List (Str×Nat)}
def Mt(q:fu X.K C=true)(n:Ő X.K C f)(ho:PE X o (wD 0))(hv:PE X value (wD j))(hs:swapsWith value (some (.Attribute o f pos')) pos.line X.env=pure false:=by rfl):PS X (.Assign [.Attribute o f pos'] value pos) (tXF C f j):=by
 intro pins s σ H D I ⟨a,d,fs,y,h0,hj,ha,hD,hl,h⟩
 obtain⟨cd,bm,c⟩:=lF q
 refine plainObj_wpAny_Assign_Attribute (Ŷ (hv pins s σ H (λv H1=>v=y/\H1=H) I ⟨y,hj,rfl,rfl⟩) λu s1 ⟨y1,H1,I1,ry,e1,e2⟩=>?_) hs
 subst e1 e2
 refine Ŷ (ho pins s1 σ _ (λv H2=>v=.ref a/\H2=H1) I1 ⟨_,h0,rfl,rfl⟩) λov s2 ⟨x,H2,I2,rx,e1,e2⟩=>?_
 subst e1 e2
 obtain rfl:ov=Value.ref a:=rx
 exact Ss I2 c ha hD n hl ry λs3 d' hn I3=>⟨σ,_,I3,h d' hn⟩
def Mu:mL X [] (tXB C []):=Gv
def xJ(h1:PS X (.Assign [.Attribute o f pos'] value pos) (tXF C f j))(h2:mL X ss (tXB C r)):mL X (.Assign [.Attribute o f pos'] value pos::ss) (tXB C ((f,j)::r)):=zO h1 h2
end
def xiV:List (Str×Nat)->List V->List (Str×V)->Option (List (Str×V))
 | [],_,fs=>some fs
 |(f,j)::r,vs,fs=>match vs[j]? with
  |some v=>xiV r vs (cF f v fs)
  |none=>none
theorem Mv{D:Ends}{σ:L2.St}{a C:Addr}{vs:List V}(h0:σ[0]?=some (some (.ref a)))(hσ:∀(j:Nat) v,vs[j]?=some v->σ[j]?=some (some v)):∀{fl:List (Str×Nat)} {d:Option Addr} {fs fs':List (Str×V)} {H:Hp},H a=some (xn a C d)->XDh H a d fs->fs.length+fl.length<1000->xiV fl vs fs=some fs'->
 (∀H' d',H' a=some (xn a C d')->XDh H' a d' fs'->(∀b u,b≠a->d≠some b->H b=some u->H' b=some u)->(∀d0,d'=some d0->d=some d0\/H d0=none)->D.nx σ H')->tXB C fl D σ H
 | [],d,fs,fs',H,ha,hD,hl,e,k=>by
   cases e
   exact k H d ha hD (λ_ _ _ _ q=>q) λd0 q=>.inl q
 |(f,j)::r,d,fs,fs',H,ha,hD,hl,e,k=>by
  unfold xiV at e
  cases ej:vs[j]? with
  |none=>rw[ej] at e;cases e
  |some y=>
   rw[ej] at e
   rw[List.length_cons] at hl
   refine⟨a,d,fs,y,h0,hσ j y ej,ha,hD,by omega,λd' hn=>?_⟩
   have hda:d'≠a:=by
    rcases hn with rfl|⟨_,_,q⟩
    ·rcases hD with⟨q,_⟩|⟨d0,q,_,z⟩
     ·cases q
     ·cases q;exact z
    ·exact q
   have e1:Am H a C d d' (cF f y fs) a=some (xn a C (some d')):=by
    unfold Am
    rcases hn with rfl|⟨rfl,_,_⟩
    ·dsimp only;rw[ě (Ne.symm hda)];exact ha
    ·exact ĭ
   have e2:Am H a C d d' (cF f y fs) d'=some (.xd (cF f y fs)):=by
    unfold Am
    cases d with
    |some _=>exact ĭ
    |none=>dsimp only;rw[ě hda];exact ĭ
   have e3:∀b,b≠a->b≠d'->Am H a C d d' (cF f y fs) b=H b:=λb h1 h2=>by
    unfold Am
    cases d with
    |some _=>exact ě h2
    |none=>dsimp only;rw[ě h1,ě h2]
   have hlen:=jU f y fs
   show tXB C r _ σ _
   refine Mv (fl:=r) (d:=some d') (fs:=cF f y fs) (fs':=fs') h0 hσ e1 (.inr ⟨d',rfl,e2,hda⟩) (by omega) e λH' d'' q1 q2 q3 q4=>k H' d'' q1 q2 (λb u h1 h2 h3=>?_) λd0 z=>?_
   ·have hb:b≠d':=fun z=>by
     rcases hn with q|⟨_,q,_⟩
     ·exact h2 (by rw[q,z])
     ·rw[z,q] at h3;cases h3
    exact q3 b u h1 (λz=>hb (by cases z;rfl)) (by rw[e3 b h1 hb];exact h3)
   ·rcases q4 d0 z with q|q
    ·cases q
     rcases hn with q|⟨_,q,_⟩
     ·exact .inl q
     ·exact .inr q
    ·have n1:d0≠a:=λz=>by rw[z,e1] at q;cases q
     have n2:d0≠d':=λz=>by rw[z,e2] at q;cases q
     rw[e3 d0 n1 n2] at q
     exact .inr q
def spX(n:Nat)(C:Addr)(fl:List (Str×Nat)):Sp:=λvs H Q _=>∃a vs' fs,vs=.ref a::vs'/\vs'.length+1=n/\H a=some (xn a C none)/\fl.length<1000/\xiV fl vs []=some fs/\
 ∀H' d',H' a=some (xn a C d')->XDh H' a d' fs->(∀b u,b≠a->H b=some u->H' b=some u)->(∀d0,d'=some d0->H d0=none)->Q .non H'
def vA{N:List Str}{vs:List V}{j:Nat}{v:V}(e:vs[j]?=some v):(L2.start N vs)[j]?=some (some v):=by
 unfold L2.start
 obtain⟨hj,e'⟩:=List.getElem?_eq_some_iff.mp e
 rw[List.getElem?_append_left (by simpa using hj)]
 simp[e]
section
variable{P:Program}{w:World}{K:PySem.W.Frag}{mg:Str->Option Value}{base:Heap}{CX:pN}
def fnX{x qual:Str}{st:Stmt}{f:Addr}{fd:FuncData}{N ps:List Str}{k n:Nat}{C:Addr}{fl:List (Str×Nat)}(F:Kw K x qual st f fd)(S:ē N ps (ą st))(hn:ps.length=n)
 (hbody:∀(cdv:Value) (A:Around) (outer:List Env) (s:Shared) (H:Hp) (E:XK),mL (dj CX P w K mg base N qual (ą st) f cdv A outer s H E) (Ŗ st) (tXB C fl)):Į P w K mg base CX (k+1) f fd ps (spX n C fl):=by
 subst hn
 obtain⟨oc,od,kV,doc,pm,an,cdv,ct,osl,rfl,lk,hcd⟩:=F.ex
 refine zQ lk hcd S (λvs H Q E ⟨a,vs',fs,h1,h2,_⟩=>by rw[h1,List.length_cons];exact h2) λA outer s H vs Q E hr hsp=>?_
 obtain⟨a,vs',fs,rfl,h2,h3,h4,h5,h6⟩:=hsp
 refine⟨_,hbody cdv A outer s H E,Mv (vs:=.ref a::vs') (vA rfl) (λj v e=>vA e) h3 (.inl ⟨rfl,rfl⟩) (by simpa using h4) h5 λH' d' q1 q2 q3 q4=>h6 H' d' q1 q2 (λb u hb q=>q3 b u hb (by intro z;cases z) q) λd0 z=>?_⟩
 rcases q4 d0 z with q|q
 ·cases q
 ·exact q
end
def jK.Zg5{P:Program}{w:World}{H:Hp}{h:Heap}{ea Ca:Addr}{d:Option Addr}{oe:Obj}{vs:Array Value}(k:jK P w H h)(hn:H ea=none)(he:h.get? ea=some oe)(hc:oe.cls=.ref Ca)(hdi:oe.dict=d)(hd:oe.data=.fields vs)(h1:vs[1]?=some .none):jK P w (upd H ea (xn ea Ca d)) h:=λb u e=>by
 by_cases hb:b=ea
 ·subst hb
  rw[ĭ] at e
  cases e
  refine⟨⟨oe,vs,he,hc,hdi,hd,h1⟩,⟨oe,he⟩,?_⟩
  rintro h1 h2 ⟨o,ws,q1,q2⟩ kk
  exact⟨o,ws,kk o q1,q2⟩
 ·rw[ě hb] at e
  exact(k b u e).stay (λ_ _ _ q=>q) (λc q=>by rw[ě (Ĩ q hn)];exact q) (λc xs q=>by rw[ě (Ĩ q hn)];exact q) λc xs q=>by rw[ě (Ĩ q hn)];exact q
def Inv.Zg6{X:Cx}{pins:List (Addr×Obj)}{σ:L2.St}{H:Hp}{s:Shared}{h':Heap}{e Ca:Addr}{d:Option Addr}{oe:Obj}{vs:Array Value}{t':Nat}(I:Inv X pins σ H s)(k:∀b o,s.heap.get? b=some o->h'.get? b=some o)(new:s.heap.get? e=none)
 (he:h'.get? e=some oe)(hc:oe.cls=.ref Ca)(hdi:oe.dict=d)(hd:oe.data=.fields vs)(h1:vs[1]?=some .none):Inv X pins σ (upd H e (xn e Ca d)) {s with heap:=h',toks:=t'}:=by
 have hn:H e=none:=xH I.hok new
 have u:Un X.fs [] H H s.heap h':=Un.kept k
 refine I.un ⟨u.keep,u.slot,λb o q n hx=>?_,u.there,λb xs q=>?_,λb o v q=>?_,λb ps q=>?_⟩ (jK.Zg5 (I.hok.kept k) hn he hc hdi hd h1)
 ·have hb:b≠e:=λz=>by rw[z,new] at q;cases q
  rw[ě hb];exact n
 ·rw[ě (Ĩ q hn)];exact q
 ·rw[ě (Ĩ q hn)];exact q
 ·rw[ě (Ĩ q hn)];exact q
def xiP:List (Str×Nat)->List PV->List Str->List PV->Option (List Str×List PV)
 | [],_,ns,qs=>some (ns,qs)
 |(_,0)::_,_,_,_=>none
 |(f,j+1)::r,ps,ns,qs=>match ps[j]? with
  |some p=>xiP r ps (putN f ns) (Ag f p ns qs)
  |none=>none
theorem Aq{K:KK}{F:Hp}:∀{ps:List PV} {vs:List V} {j:Nat} {p:PV},Ħ K F ps vs->ps[j]?=some p->∃v,vs[j]?=some v/\Rep K F p v
 | [],_,_,_,_,e=>by simp at e
 |q::ps,vs,j,p,h,e=>by
  unfold Ħ at h
  obtain⟨x,r,rfl,h1,h2⟩:=h
  cases j with
  |zero=>cases e;exact⟨x,rfl,h1⟩
  |succ j=>rw[List.getElem?_cons_succ] at e ⊢;exact Aq h2 e
theorem Mw{K:KK}{F:Hp}{ps:List PV}{vs:List V}{e:V}(h:Ħ K F ps vs):∀{fl:List (Str×Nat)} {ns ns':List Str} {qs qs':List PV} {fs:List (Str×V)},xiP fl ps ns qs=some (ns',qs')->fs.map (·.1)=ns->Ħ K F qs (fs.map (·.2))->
 ∃fs',xiV fl (e::vs) fs=some fs'/\fs'.map (·.1)=ns'/\Ħ K F qs' (fs'.map (·.2))
 | [],ns,ns',qs,qs',fs,z,hn,hq=>by cases z;exact⟨fs,rfl,hn,hq⟩
 |(f,0)::r,ns,ns',qs,qs',fs,z,hn,hq=>by cases z
 |(f,j+1)::r,ns,ns',qs,qs',fs,z,hn,hq=>by
  unfold xiP at z
  cases ej:ps[j]? with
  |none=>rw[ej] at z;cases z
  |some p=>
   rw[ej] at z
   obtain⟨v,ev,rv⟩:=Aq h ej
   unfold xiV
   rw[List.getElem?_cons_succ,ev]
   subst hn
   obtain⟨z1,z2⟩:=xr (f:=f) (p:=p) rv hq
   exact Mw h (fs:=cF f v fs) z z1 z2
def qZ(C:String)(n:Nat)(fl:List (Str×Nat))(ms:M (List PV)):M Fl:=λρ=>(ms ρ).bind λps ρ1=>if ps.length+1=n/\ps.length<1000/\fl.length<1000 then(match xiP fl ps [] [] with
 |some (ns,qs)=>.exc ⟨C,ns,qs⟩ ρ1
 |none=>.bad) else .bad
section
variable{X:Cx}{cm:String->Addr}{E:L2.St->XK}{e:Expr}{es:List Expr}{pos p:Pos}{CX:pN}{k n:Nat}{f:Addr}{fd:FuncData}{ps:List Str}{C:String}{fl:List (Str×Nat)}{ms:M (List PV)}{x:Str}
structure XMk(K:PySem.W.Frag)(C f:Addr):Prop where
 x:fu K C=true
 kp:PySem.W.keepIn K (.ref C)=true
 init:PySem.W.findIn K (.ref C) "__init__" =some (some (.ref f))
 fn:PySem.W.typeIn K (.ref f)=some (.type "function")
def Ju{pins:List (Addr×Obj)}{σ:L2.St}{H:Hp}{s:Shared}{G:Value->Shared->Prop}{us:List Value}{vs:List V}{sp:Sp}{C:Addr}{T:Addr->Hp->Prop}(M:XMk X.K C f)(F:Į X.prog X.w X.K X.mg X.base CX k f fd ps sp)(hr:aR (k+1) X.A)(hb:Binds X.K fd ps [])
 (hx:fK CX X E)(I:Inv X pins σ H s)(r:Vals vs us)(hl:us.length<=sizeLine)
 (h:∀x,H x=none->sp (.ref x::vs) (upd H x (xn x C none)) (λv H2=>v=.non/\T x H2) (E σ))
 (k:∀x H2 s',H x=none->s.heap.get? x=none->Inv X pins σ H2 s'->T x H2->G (.ref x) s') :
 wpAny (model X.prog X.w) X.A (call (.ref C) us) G X.xe s:=by
 obtain⟨cd,bm,c⟩:=lF M.x
 refine Zeh I.jR c M.init M.fn hl λh' e hm=>?_
 obtain⟨t,he,_,_⟩:=hm.there
 have hn:H e=none:=xH I.hok hm.new
 have I2:Inv X pins σ (upd H e (xn e C none)) {s with heap:=h',toks:=s.toks}:=Inv.Zg6 I hm.keeps hm.new he rfl rfl rfl rfl
 have hq:=h e hn
 have r2:Vals (V.ref e::vs) (Value.ref e::us):=.cons rfl r
 have hl:(Value.ref e::us ++ []).length=ps.length:=by
  have q:=r2.length
  rw[F.len _ _ _ _ hq] at q
  rw[List.append_nil]
  exact q.symm
 have hbd:=hb {s with heap:=h'} (Value.ref e::us) I2.jR hl
 rw[List.append_nil] at hbd
 refine wpAny_call (codeAny_mono (F.run _ X.stack _ _ ⟨Value.ref e::us,[]⟩ _ _ _ (E σ) (hr.make C us []) (I2.env0.make C us []) hbd r2 hq) λr s' hq'=>?_)
 cases r with
 |error e=>exact hx pins σ _ _ e s' I2 hq'
 |ok fl=>
  cases fl with
  |ret u=>
   obtain⟨v,H',I3,rv,ev,q3⟩:=I2.after hq'
   subst ev
   exact⟨rv,k e H' s' hn hm.new I3 q3⟩
  |next=>exact False.elim hq'
  |brk=>exact False.elim hq'
  |cont=>exact False.elim hq'
def rem(H:Hp)(a:Addr):Hp:=λb=>if b=a then none else H b
def jm{H:Hp}{a b:Addr}(h:b≠a):rem H a b=H b:=if_neg h
def Ar{H:Hp}{a:Addr}:rem H a a=none:=if_pos rfl
def nM{H:Hp}{a b:Addr}(h:H b=none):rem H a b=none:=by
 unfold rem
 split
 ·rfl
 ·exact h
def Inv.drop{pins:List (Addr×Obj)}{σ:L2.St}{H:Hp}{s:Shared}{a:Addr}{φ:Heap->Prop}(I:Inv X pins σ H s)(ha:H a=some (.ext φ)):Inv X pins σ (rem H a) s:=by
 have ne:∀b u,H b=some u->(∀ψ,u≠ .ext ψ)->b≠a:=λb u q n z=>by rw[z,ha] at q;cases q;exact n _ rfl
 refine⟨I.ok,I.os,I.bare,⟨I.base.keep,I.base.slot,λb o q n hx=>nM (I.base.free b o q n hx),I.base.there,λb xs q=>?_,λb o u q=>?_,λb ps q=>?_⟩,I.loc,I.cell,nM I.free,λx c e=>nM (I.jy x c e),λp hp=>?_,λb u e=>?_,I.len⟩
 ·have q':=I.base.tups b xs q
  rw[jm (ne b _ q' (by intro ψ z;cases z))];exact q'
 ·have q':=I.base.mK b o u q
  rw[jm (ne b _ q' (by intro ψ z;cases z))];exact q'
 ·have q':=I.base.jQ b ps q
  rw[jm (ne b _ q' (by intro ψ z;cases z))];exact q'
 ·obtain⟨h1,h2,h3⟩:=I.pin p hp
  exact⟨h1,nM h2,h3⟩
 ·have hb:b≠a:=λz=>by rw[z,Ar] at e;cases e
  rw[jm hb] at e
  exact(I.hok b u e).stay (λ_ _ _ q=>q) (λc q=>by rw[jm (ne c _ q (by intro ψ z;cases z))];exact q) (λc xs q=>by rw[jm (ne c _ q (by intro ψ z;cases z))];exact q) λc xs q=>by rw[jm (ne c _ q (by intro ψ z;cases z))];exact q
def Zei{K:KK}{c:Ctx}{F1 H1 H':Hp}{σ:L2.St}{ρ1:Ş}{x Ca:Addr}{d':Option Addr}{fs:List (Str×V)}(Ġ:Rel K c F1 H1 σ ρ1)(hx:H1 x=none)(hD:XDh H' x d' fs)(hH:∀b u,b≠x->upd H1 x (xn x Ca none) b=some u->H' b=some u)
 (hd:∀d0,d'=some d0->upd H1 x (xn x Ca none) d0=none):∃F',Rel K c F' H' σ ρ1/\Same F1 F'/\Same H1 H'/\rM F' d' fs/\F' x=none:=by
 have sH:Same H1 H':=λb u e=>hH b u (Ĩ e hx) (by rw[ě (Ĩ e hx)];exact e)
 have r2:Rel K c F1 H' σ ρ1:=Ġ.call ⟨sH,Same.refl _,Ġ.sub.trans sH,λ_ _ q=>q⟩
 rcases hD with⟨rfl,rfl⟩|⟨d0,rfl,h2,hne⟩
 ·exact⟨F1,r2,Same.refl _,sH,.inl ⟨rfl,rfl⟩,Ġ.sub.free hx⟩
 ·have n0:H1 d0=none:=by
   have:=hd d0 rfl
   rw[ě hne] at this
   exact this
  refine⟨upd F1 d0 (.xd fs),r2.freeze h2 (Ġ.base.free n0) (Ġ.sub.free n0) (Ġ.fresh n0),Same.upd (Ġ.sub.free n0),sH,.inr ⟨d0,rfl,ĭ⟩,?_⟩
  rw[ě (Ne.symm hne)]
  exact Ġ.sub.free hx
end
section
variable{M:Model}{A:Around}{E:Value->Shared->Prop}{s:Shared}{K:PySem.W.Frag}{env:Env}
def Sv{x:Sem Value}{Q:Flow->Shared->Prop}(hh:A.handled=none)
 (h:wpAny M A x (λv s₁=>∃e C oe vs oC,v=.ref e/\K.In s₁.heap/\s₁.heap.get? C=some oC/\oC.cls=.type "type" /\PySem.W.mroIn K C (.type "BaseException")=some true/\s₁.heap.get? e=some oe/\oe.cls=.ref C/\oe.data=.fields vs/\vs[1]?=some .none/\E (.ref e) s₁) E s) :
 wpAny M A (raiseStmt env (some x) none) Q E s:=by
 unfold raiseStmt
 refine wpAny_bind (wpAny_mono h (λv s₁ h₁=>?_) λ_ _ x=>x)
 obtain⟨e,C,oe,vs,oC,rfl,KX,hC,hCt,hm,he,hc,hd,h1,hE⟩:=h₁
 have L4:=PySem.W.looks_mroIn (M:=M) KX hm
 obtain⟨hp,g,d,tk,os⟩:=s₁
 obtain⟨ocls,odict,odata,osl⟩:=oe
 dsimp only at hc hd
 subst hc hd
 repeat (first|with_reducible refine wpAny_loadPart_at he ?_|(with_reducible refine wpAny_loadPart_at hC ?_;rw[hCt])|with_reducible refine PySem.W.Looks.at L4 ?_|with_reducible refine wpAny_field he rfl h1 ?_|wp_step)
 exact wpAny_raiseNew_none hh hE
end
section
variable{X:Cx}{cm:String->Addr}{E:L2.St->XK}{e:Expr}{es:List Expr}{pos cpos np:Pos}{CX:pN}{k n:Nat}{f:Addr}{fd:FuncData}{ps:List Str}{C:String}{fl:List (Str×Nat)}{ms:M (List PV)}{x:Str}
def aB.bindL{K:KK}{c:Ctx}{F H:Hp}{σ:L2.St}{D:Ends}{Q':List V->Hp->Prop}{r:Res (List PV)}{g:List PV->Ş->Res Fl}(h:aB K E c F D (r.bind g))
 (k:∀p ρ1 v F1 H1,Rel K c F1 H1 σ ρ1->Same F F1->Same H H1->Ħ K F1 p v->aB K E c F1 D (g p ρ1)->Q' v H1):cY K E (rL K) c F H σ Q' r:=by
 cases r with
 |bad=>exact h
 |exc x ρ'=>exact λC d F' H' rel s1 q=>h σ C d F' H' rel s1 q
 |ok p ρ1=>exact λv F' H' rel s1 s2 q=>k p ρ1 v F' H' rel s1 s2 q (aB.mono h s1)
def Dt{c:Ctx}{F1 H1:Hp}{σ:L2.St}{ρ1:Ş}{D:Ends}{qs:List PV}{vs:List V}(Ġ:Rel (kk X cm) c F1 H1 σ ρ1)(r1:Ħ (kk X cm) F1 qs vs)
 (h:aB (kk X cm) E c F1 D (if qs.length+1=n/\qs.length<1000/\fl.length<1000 then(match xiP fl qs [] [] with|some (ns,qs)=>.exc ⟨C,ns,qs⟩ ρ1|none=>.bad) else .bad)) :
 vs.length<=sizeLine/\∀x,H1 x=none->spX n (cm C) fl (.ref x::vs) (upd H1 x (xn x (cm C) none)) (λv H2=>v=.non/\∃d',H2 x=some (xn x (cm C) d')/\E σ (.ref (cm C)) d' (rem H2 x)) (E σ):=by
 split at h
 case isFalse=>exact h.elim
 rename_i hz
 cases ex:xiP fl qs [] [] with
 |none=>rw[ex] at h;exact h.elim
 |some z=>
  obtain⟨ns,ws⟩:=z
  rw[ex] at h
  refine⟨by rw[<-Ħ.length r1,Ś];omega,λx hx=>?_⟩
  obtain⟨fs,e1,e2,e3⟩:=Mw (e:=.ref x) r1 (fs:=[]) ex rfl Ħ.nil
  refine⟨x,vs,fs,rfl,by rw[<-Ħ.length r1];exact hz.1,ĭ,hz.2.2,e1,λH' d' q1 q2 q3 q4=>⟨rfl,d',q1,?_⟩⟩
  have q2':XDh (rem H' x) x d' fs:=by
   rcases q2 with q|⟨d0,z1,z2,z3⟩
   ·exact .inl q
   ·exact .inr ⟨d0,z1,by rw[jm z3];exact z2,z3⟩
  obtain⟨F',rl,sF,sH,xd,fx⟩:=Zei (Ca:=cm C) Ġ hx q2' (λb u hb q=>by rw[jm hb];exact q3 b u hb q) q4
  exact h σ _ _ F' _ rl sF ⟨rfl,fs,xd,e2,Ħ.same sF _ _ e3⟩
def Av(hc:X.calm=true)(hex:X.ex=[])(hrs:xu X E)(M:XMk X.K (cm C) f)(F:Į X.prog X.w X.K X.mg X.base CX k f fd ps (spX n (cm C) fl))(hr:aR (k+1) X.A)(hg:Gl X x)(hm:X.mg x=some (.ref (cm C)))(hb:Binds X.K fd ps [])(hx:fK CX X E)
 (ha:PA X (e::es) (tL (kk X cm) E ms))(hdb:(x== ("__debug__" :Str))=false:=by decide)(he:starEach (e::es) X.env=(false,eval e X.env)::starEach es X.env:=by exact ĸ rfl)(hpl:(backTo cpos (starEach es X.env)).any (·.1)=false:=by rfl) :
 PS X (.Raise (some (.Call (.Name x np) (e::es) [] cpos)) none pos) (tS (kk X cm) E (qZ C n fl ms)):=by
 intro pins s σ H D I ⟨c,F',ρ,rel,h⟩
 rw[arm_exec_Raise]
 refine wpAny_bind (wpAny_standAt ?_)
 show wpAny _ _ (raiseStmt X.env (some (do let v <-eval (.Call (.Name x np) (e::es) [] cpos) X.env;standAt pos;pure v)) none) _ _ _
 refine Sv (K:=X.K) (I.ok.hd hc) (wpAny_bind ?_)
 obtain⟨cd,bm,xc⟩:=lF M.x
 obtain⟨dd,k0,k1,k2,k3,k5,lC⟩:=xc.at_
 refine wpAny_mono (wpAny_Call_Name_kw (nA I hg hm (PySem.W.callWith_K (h₀:= X.base) I.ok.mod.kin M.kp (Ŷ (ha cpos pins s σ H (λvs H1=>vs.length<=sizeLine/\∀x,H1 x=none->spX n (cm C) fl (.ref x::vs) (upd H1 x (xn x (cm C) none)) (λv H2=>v=.non/\∃d',H2 x=some (xn x (cm C) d')/\E σ (.ref (cm C)) d' (rem H2 x)) (E σ)) I
  ⟨c,F',ρ,rel,aB.bindL h fun qs ρ1 vs F1 H1 Ġ _ _ r1 h1=>Dt Ġ r1 h1⟩) fun us s1 ⟨vs,H1,I1,r,q0,q⟩=>⟨I1.jR,Ju (G:=fun v s₁=>∃e C oe vs oC,v=.ref e∧X.K.In s₁.heap∧s₁.heap.get? C=some oC∧oC.cls=.type "type" ∧PySem.W.mroIn X.K C (.type "BaseException")=some true∧s₁.heap.get? e=some oe∧oe.cls=.ref C∧oe.data=.fields vs∧vs[1]?=some .none∧X.xe (.ref e) s₁)
    M F hr hb hx I1 r (by rw[<-Vals.length r];exact q0) q λy H2 s' _ hnew I3 ⟨d',h1,h2⟩=>?_⟩) he hpl) hdb)) (λv s3 h3=>wpAny_bind (wpAny_standAt (wpAny_pure h3))) λ_ _ z=>z
 obtain⟨⟨oe,ws,ho,hcl,hdi,hda,hv1⟩,_,_⟩:=(show aQ X.prog X.w H2 s'.heap y (xn y (cm C) d') from I3.hok y _ h1)
 refine⟨y,cm C,oe,ws,_,rfl,I3.jR,I3.jR _ _ lC,rfl,xc.mroIs (by decide),ho,hcl,hda,hv1,?_⟩
 exact hrs pins σ (rem H2 y) s' y oe ws (Inv.drop I3 h1) ho hda hv1 Ar (Inv.Zeg I1 hex hnew) (by rw[hcl,hdi];exact h2)
end
end P
namespace P
open PySem PySem.Spec PyProof.Rows L2 M2 M3 M4 Builtin Builtin.ObjectAttr
def gO(K:PySem.W.Frag)(C:Addr):Bool:=fu K C && PySem.W.findIn K (.ref C) "__class__" == some (some (.builtin "object.__class__")) && PySem.W.specialIn K (.builtin "object.__class__") "__get__" == some (some (.builtin "getset_descriptor.__get__")) && PySem.W.takesIn K (.builtin "object.__class__")== some true
def sG{K:PySem.W.Frag}{C:Addr}(q:gO K C=true):fu K C=true/\PySem.W.findIn K (.ref C) "__class__" =some (some (.builtin "object.__class__"))/\PySem.W.specialIn K (.builtin "object.__class__") "__get__" =some (some (.builtin "getset_descriptor.__get__"))/\PySem.W.takesIn K (.builtin "object.__class__")=some true:=by
 unfold gO at q
 simp only[Bool.and_eq_true,beq_iff_eq] at q
 obtain⟨⟨⟨z1,z2⟩,z3⟩,z4⟩:=q
 exact⟨z1,z2,z3,z4⟩
section
variable{prog:Program}{w:World}{A:Around}{E:Value->Shared->Prop}{s:Shared}{K:PySem.W.Frag}{x C:Addr}{ox:Obj}{od:Option Obj}
def Sw{R:Result->Shared->Prop}{tk:Tok}(X:K.In s.heap)(I:PySem.W.InstAt s.heap x ox C od)(q:gO K C=true)
 (h:R (.ok (.ret (.ref C))) s):codeAny (model prog w) A (.call (.builtin "BaseException.__getattribute__") ⟨[.ref x,.str "__class__" tk],[]⟩) R s:=by
 obtain⟨q0,q1,q2,q3⟩:=sG q
 obtain⟨cd,bm,c⟩:=lF q0
 have hk:builtinKind "BaseException.__getattribute__" =some .slot:=by decide +kernel
 have hsplit:splitId "BaseException.__getattribute__" =some ("BaseException","__getattribute__"):=by decide +kernel
 have L0:=I.type (M:=model prog w)
 have hf:PySem.W.findObj K C od "__class__" =some (.bind (.builtin "getset_descriptor.__get__") (.builtin "object.__class__")):=by
  unfold PySem.W.findObj
  rw[c.cls,Option.bind_some,q1,Option.bind_some]
  simp[q2,q3]
 have L3:=PySem.W.looks_find (M:=model prog w) X I hf
 have hsub:PySem.W.Looks (model prog w) s.heap (isInstance (.ref x) (.type "BaseException")) true:=L0.andThen (PySem.W.looks_mroIn X (c.mroIs (by decide)))
 refine codeAny_call_builtin PySem.F.attrBase_ValueError.ga.plain PySem.F.entry_bexc_ga (@PySem.W.check_slot (model prog w) _ _ s "BaseException.__getattribute__" "BaseException" "__getattribute__" (.ref x) [.str "__class__" tk] [] _ hk hsplit hsub (PySem.F.args_bexc_ga (.ref x) (.str "__class__" tk)) ?_)
 unfold Builtin.«object.__getattribute__»
 refine wpAny_bind (wpAny_pure (wpAny_bind (wpAny_pure (wpAny_bind (L0.here (wpAny_bind (L3.here ?_)))))))
 refine wpAny_bind (wpAny_holding (wpAny_call (PySem.W.class_get X I (c.mroIs (by decide)) ?_)))
 exact wpAny_pure h
def Mx{Q:Option Value->Shared->Prop}(X:K.In s.heap)(I:PySem.W.InstAt s.heap x ox C od)(q:gO K C=true)
 (h:Q (some (.ref C)) {s with toks:=s.toks+1}):wpAny (model prog w) A (getAttr? (.ref x) "__class__") Q E s:=by
 obtain⟨q0,q1,q2,q3⟩:=sG q
 obtain⟨cd,bm,c⟩:=lF q0
 have FB:=PySem.F.attrBase_ValueError
 obtain⟨hp,g,d,t,os⟩:=s
 have L0:=I.type (M:=model prog w)
 have L1:=PySem.W.looks_findIn (M:=model prog w) X c.ga
 have L2:=PySem.W.looks_findIn (M:=model prog w) X c.gg
 unfold getAttr? getAttrBy? getAttrBy
 refine wpAny_bind (wpAny_mkText (wpAny_bind (wpAny_attempt (wpAny_holding (wpAny_bind (L0.at (wpAny_bind (L1.at ?_))))))))
 show wpAny _ _ (getAttrByItsOwn _ _ _ _ _ _) _ _ _
 have f3:=FB.ga.bind (.ref x)
 unfold getAttrByItsOwn hookBefore callGetattribute
 refine wpAny_bind (L2.at ?_)
 refine wpAny_bind (wpAny_attempt (wpAny_holding ?_))
 rw[if_neg (by decide)]
 unfold boundAndCalled
 rw[f3]
 refine wpAny_bind (wpAny_pure (wpAny_call ?_))
 exact Sw (s:=⟨hp,g,d,t+1,os⟩) X I q (show wpAny _ _ (handedOut (.ref C)) _ _ _ by rw[PySem.W.handedOut_of rfl];exact wpAny_pure (wpAny_pure h))
end
def Mz{K:PySem.W.Frag}{x D:Addr}(q:gO K D=true):PySem.W.KitX K (.ref x) (.ref D) (λh=>∃ox od,PySem.W.InstAt h x ox D od):=by
 obtain⟨q0,q1,q2,q3⟩:=sG q
 obtain⟨cd,bm,c⟩:=lF q0
 obtain⟨dd,k0,k1,k2,k3,k5,lC⟩:=c.at_
 refine⟨λ_ _ _ ⟨ox,od,I⟩=>I.type,λ_ _ X _=>?_,λh tp dd its n sl X htp=>?_,λX ⟨ox,od,I⟩ k=>Mx X I q k⟩
 ·intro A' Q' E' s' k q
  unfold isType loadHead
  exact wpAny_bind (wpAny_loadPart (k _ _ (X _ _ lC)) (wpAny_pure q))
 ·refine Bool.eq_false_iff.mpr λq=>?_
  have e:D=tp:=Value.ref.inj (beq_iff_eq.mp q)
  subst e
  have z:=congrArg Obj.cls (Option.some.inj ((X _ _ lC).symm.trans htp))
  exact absurd (Value.type.inj z) (by decide)
section
variable{X:Cx}{cm:String->Addr}{K:KK}
def Uu(K:PySem.W.Frag):List V->Hp->VK->Prop:=λxs H Q=>Hw K xs H Q\/∃a C d fs c cv b,xs=[.ref a,c]/\RelV c cv/\(∀u,RelV c u->u=cv)/\H a=some (xo a C d)/\rM H d fs/\gO K C=true/\PySem.W.kitOne K (.ref C) cv=some b/\Q (.bl b) H
def xK:ų X (.builtin "isinstance") (Uu X.K):=by
 intro pins s σ H xs us Q I r h
 rcases h with h|⟨a,C,d,fs,c,cv,b,rfl,rc,uq,ha,hD,q,hk,hQ⟩
 ·exact ZbH pins s σ H xs us Q I r h
 ·obtain⟨u,w',rfl,r1,r2⟩:=vals2 r
  cases(show u=Value.ref a from r1)
  rw[uq w' r2]
  obtain⟨⟨o,ws,ho,hcl,hdi,hda⟩,_,_⟩:=(show aQ X.prog X.w H s.heap a (xo a C d) from I.hok a _ ha)
  obtain⟨ocls,odict,odata,osl⟩:=o
  dsimp only at hcl hdi hda
  subst hcl hdi hda
  have J:∃ox od,PySem.W.InstAt s.heap a ox C od:=by
   rcases hD with⟨rfl,_⟩|⟨d0,rfl,z⟩
   ·exact⟨_,none,ho,rfl,rfl,trivial⟩
   ·obtain⟨od,z'⟩:=Ai (I.hok d0 _ z)
    exact⟨_,some od,ho,rfl,rfl,z'⟩
  exact PySem.W.kia_one (Mz q) I.jR J hk (λz=>nomatch z) λtk=>⟨.bl b,H,I.tok _,rfl,hQ⟩
def xM(Q:String->String->Bool->Prop):List ((String×String)×Bool)->Prop
 | []=>True
 |((c,d),b)::r=>Q c d b/\xM Q r
theorem xM.get{Q:String->String->Bool->Prop}:∀{t:List ((String×String)×Bool)} {c d:String} {b:Bool},xM Q t->t.lookup (c,d)=some b->Q c d b
 | [],_,_,_,_,h=>by simp at h
 |((c',d'),b')::r,c,d,b,⟨h1,h2⟩,h=>by
  rw[List.lookup_cons] at h
  cases e:(c,d)== (c',d') with
  |true=>
   rw[e] at h
   cases h
   obtain⟨rfl,rfl⟩:=Prod.mk.inj (beq_iff_eq.mp e)
   exact h1
  |false=>
   rw[e] at h
   exact h2.get h
def pX(tc tt:List ((String×String)×Bool))(ds nt:List String):List PV->Option PV
 | [.xc C _ _,.cls D]=>(tc.lookup (C,D)).map .bl
 | [.xc C _ _,.ty D]=>(tt.lookup (C,D)).map .bl
 | [.non,.cls D]=>if ds.contains D=true then some (.bl false) else none
 | [.non,.ty D]=>if nt.contains D=true then some (.bl false) else LR [.non,.ty D]
 |ps=>LR ps
def xO{tc tt:List ((String×String)×Bool)}{ds nt:List String}(hc:xM (λC D b=>gO K.K (K.cm C)=true/\PySem.W.kitOne K.K (.ref (K.cm C)) (.ref (K.cm D))=some b) tc)
 (ht:xM (λC D b=>gO K.K (K.cm C)=true/\PySem.W.kitOne K.K (.ref (K.cm C)) (.type D)=some b) tt)(hd:su (λD=>PySem.W.kitOne K.K (.type "NoneType") (.ref (K.cm D))=some false) ds)
 (hn:su (λD=>PySem.W.kitOne K.K (.type "NoneType") (.type D)=some false) nt):iR K (Uu K.K) (pX tc tt ds nt):=by
 intro c F H σ ρ ps pv vs Q rel r e k
 unfold pX at e
 split at e
 ·rename_i C ns qs D
  obtain⟨v,u,rfl,r1,r2⟩:=rl2 r
  cases eb:tc.lookup (C,D) with
  |none=>rw[eb] at e;cases e
  |some b=>
   rw[eb] at e
   cases e
   obtain⟨k1,k2⟩:=hc.get eb
   have r1':Rep K F (.xc C ns qs) v:=by rcases r1 with q|q;exact q;exact q.elim
   have r2':Rep K F (.cls D) u:=by rcases r2 with q|q;exact q;exact q.elim
   unfold Rep at r1' r2'
   obtain⟨a,d,fs,rfl,q2,q3,q4,q5⟩:=r1'
   subst r2'
   exact .inr ⟨a,_,d,fs,_,.ref (K.cm D),b,rfl,rfl,λu z=>z,rel.sub _ _ q2,q3.same rel.sub,k1,k2,k _ F H rel (Same.refl _) (Same.refl _) Rep.bl⟩
 ·rename_i C ns qs D
  obtain⟨v,u,rfl,r1,r2⟩:=rl2 r
  cases eb:tt.lookup (C,D) with
  |none=>rw[eb] at e;cases e
  |some b=>
   rw[eb] at e
   cases e
   obtain⟨k1,k2⟩:=ht.get eb
   have r1':Rep K F (.xc C ns qs) v:=by rcases r1 with q|q;exact q;exact q.elim
   have r2':Rep K F (.ty D) u:=by rcases r2 with q|q;exact q;exact q.elim
   unfold Rep at r1' r2'
   obtain⟨a,d,fs,rfl,q2,q3,q4,q5⟩:=r1'
   subst r2'
   exact .inr ⟨a,_,d,fs,_,.type D,b,rfl,rfl,λu z=>z,rel.sub _ _ q2,q3.same rel.sub,k1,k2,k _ F H rel (Same.refl _) (Same.refl _) Rep.bl⟩
 ·rename_i D
  obtain⟨v,u,rfl,r1,r2⟩:=rl2 r
  split at e
  ·rename_i hD
   cases e
   cases r1.non
   have r2':Rep K F (.cls D) u:=by rcases r2 with q|q;exact q;exact q.elim
   unfold Rep at r2'
   subst r2'
   exact .inl ⟨_,false,rfl,hd.get hD,k _ F H rel (Same.refl _) (Same.refl _) Rep.bl⟩
  ·cases e
 ·rename_i D
  split at e
  ·rename_i hD
   obtain⟨v,u,rfl,r1,r2⟩:=rl2 r
   cases e
   cases r1.non
   cases r2.ty
   exact .inl ⟨_,false,rfl,hn.get hD,k _ F H rel (Same.refl _) (Same.refl _) Rep.bl⟩
  ·exact .inl (L_ rel r e k)
 ·exact .inl (L_ rel r e k)
end
def isC(K:PySem.W.Frag)(cm:String->Addr):List ((String×String)×Bool)->Bool
 | []=>true
 |((c,d),b)::r=>gO K (cm c) && PySem.W.kitOne K (.ref (cm c)) (.ref (cm d))== some b && isC K cm r
theorem MJ{K:PySem.W.Frag}{cm:String->Addr}:∀{t:List ((String×String)×Bool)},isC K cm t=true->xM (λC D b=>gO K (cm C)=true/\PySem.W.kitOne K (.ref (cm C)) (.ref (cm D))=some b) t
 | [],_=>trivial
 |((c,d),b)::r,h=>by
  unfold isC at h
  rw[Bool.and_eq_true,Bool.and_eq_true] at h
  exact⟨⟨h.1.1,beq_iff_eq.mp h.1.2⟩,MJ h.2⟩
def isT(K:PySem.W.Frag)(cm:String->Addr):List ((String×String)×Bool)->Bool
 | []=>true
 |((c,d),b)::r=>gO K (cm c) && PySem.W.kitOne K (.ref (cm c)) (.type d)== some b && isT K cm r
theorem MK{K:PySem.W.Frag}{cm:String->Addr}:∀{t:List ((String×String)×Bool)},isT K cm t=true->xM (λC D b=>gO K (cm C)=true/\PySem.W.kitOne K (.ref (cm C)) (.type D)=some b) t
 | [],_=>trivial
 |((c,d),b)::r,h=>by
  unfold isT at h
  rw[Bool.and_eq_true,Bool.and_eq_true] at h
  exact⟨⟨h.1.1,beq_iff_eq.mp h.1.2⟩,MK h.2⟩
def isD(K:PySem.W.Frag)(cm:String->Addr):List String->Bool
 | []=>true
 |d::r=>PySem.W.kitOne K (.type "NoneType") (.ref (cm d))== some false && isD K cm r
theorem MN{K:PySem.W.Frag}{cm:String->Addr}:∀{t:List String},isD K cm t=true->su (λD=>PySem.W.kitOne K (.type "NoneType") (.ref (cm D))=some false) t
 | [],_=>trivial
 |d::r,h=>by
  unfold isD at h
  rw[Bool.and_eq_true] at h
  exact⟨beq_iff_eq.mp h.1,MN h.2⟩
def ZbO(K:PySem.W.Frag):List String->Bool
 | []=>true
 |d::r=>PySem.W.kitOne K (.type "NoneType") (.type d)== some false && ZbO K r
theorem Hz{K:PySem.W.Frag}:∀{t:List String},ZbO K t=true->su (λD=>PySem.W.kitOne K (.type "NoneType") (.type D)=some false) t
 | [],_=>trivial
 |d::r,h=>by
  unfold ZbO at h
  rw[Bool.and_eq_true] at h
  exact⟨beq_iff_eq.mp h.1,Hz h.2⟩
def Uv(K:PySem.W.Frag)(C f:Addr):Bool:=fu K C && PySem.W.keepIn K (.ref C) && PySem.W.findIn K (.ref C) "__init__" == some (some (.ref f)) && PySem.W.typeIn K (.ref f)== some (.type "function")
def MP{K:PySem.W.Frag}{C f:Addr}(h:Uv K C f=true):XMk K C f:=by
 unfold Uv at h
 simp only[Bool.and_eq_true,beq_iff_eq] at h
 exact⟨h.1.1.1,h.1.1.2,h.1.2,h.2⟩
def Jv{l:PySem.W.OpenLaw}{k:Nat}{x:Str}{m:MF}{q:Program}{loose:List Str}{XP:(Str->Option Value)->Heap->Prop}{YP:World->Heap->Prop}{d:DefRec}{K:Params->PySem.W.Frag}(hn:l.most=some 63)(hdf:d.params.defaults=[])(hr:aR k callerA)
 (hY:∀(w:World) (h:Heap),YP w h->(K w.params).In h)
 (F:∀(w:World) (mg:Str→Option Value) (fa:Addr) (h:Heap),(K w.params).In h→h.Ns mainGlobals mg→mg d.name=some (.ref fa)→
   ∃fd:FuncData,(∀(s:Shared) (u:Value),BindsTo s fd ⟨[u],[]⟩ [(x,u)])/\∀base:Heap,(K w.params).In base->base.Ns mainGlobals mg->∃cm,Į l.prog w (K w.params) mg base (ū l.prog w) k fa fd [x] (ŷ ⟨K w.params,cm⟩ 1 m))
 (ht:∀ns:List Int,ns.length<=63->m [.sh (.lst (ns.map .int))]=.ret (.sh (.bl true)))
 (hnt:lams≠[]->∀w:World,PySem.W.noTabs (K w.params)=true:=by intro z;exact absurd rfl z)(hone:∀y z,y∈lams->z∈lams->y=z:=by simp[lams])(hrec:∀y,y∈lams->∃d,(recsOf q).find? (λe=>e.name== y)=some d:=by simp[lams]) :
 PySem.W.WalkO q loose XP YP l.row.toRowW d [] (λf vs=>PySem.call f vs):=by
 refine L2.Rh (n:=63) (k:=k) (x:=x) (CX:=λw=>ū l.prog w) (sp:=λw=>Zd5 (K w.params)) hn (by decide) hdf hr hY (λw mg fa h h1 h2 h3=>?_) (λw H a ns hl _ hS=>⟨a,ns,rfl,hS,hl,λ_ _ z=>z⟩) (λw H s e s' z=>vq z) hnt hone hrec
 obtain⟨fd,hb,hF⟩:=F w mg fa h h1 h2 h3
 refine⟨fd,hb,λbase k1 k2=>?_⟩
 obtain⟨cm,G⟩:=hF base k1 k2
 refine G.imp λvs H Q E hs=>?_
 obtain⟨sa,ns,rfl,hS,hl,hq⟩:=hs
 refine⟨H,[.sh (.lst (ns.map .int))],rfl,Same.refl _,.cons ?_ .nil,?_⟩
 ·show Rep _ _ _ _
  unfold Rep
  exact⟨sa,_,rfl,hS,Ae ns⟩
 ·rw[ht ns hl]
  intro v F' H' g rf
  have e:v=.bl true:=CZ (K:=⟨K w.params,cm⟩) (F:=F') rf
  exact hq v H' e
section
variable{ρ:Ş}{C:String}{n i:Nat}{fl:List (Str×Nat)}{ms:M (List PV)}{mb mh:M Fl}{mr:MH}{yes no:List String}{x:PX}
@[simp] theorem Zej:xG C ρ=.exc ⟨C,[],[]⟩ ρ:= rfl
@[simp] theorem Zdq:qZ C n fl ms ρ=(ms ρ).bind fun ps ρ1=>if ps.length+1=n∧ps.length<1000∧fl.length<1000 then(match xiP fl ps [] [] with
  |some (ns,qs)=>.exc ⟨C,ns,qs⟩ ρ1
  |none=>.bad) else .bad:=rfl
end
end P
namespace P
open PySem PySem.Spec PyProof.Rows L2 M2 M3 M4
section
variable{X:Cx}{cm:String->Addr}{E:L2.St->XK}{y:Str}{Dn:String}{yp hpos:Pos}{b₀:Stmt}{suite:List Stmt}{rest:List ExceptHandler}{yes no:List String}{mh:M Fl}{mr:MH}
end
end P
namespace P
open PySem PySem.Spec PyProof.Rows L2 M2 M3 M4
section
variable{X:Cx}{cm:String->Addr}{K:KK}
def Uw:List V->Hp->VK->Prop:=λxs H Q=>(∃i,xs=[.int i]/\Q (.int i) H)\/∃k,xs=[.bl k]/\Q (.int (if k then 1 else 0)) H
def ZbP:ų X (.type "int") Uw:=Jd
def M_:List PV->Option PV
 | [.int i]=>some (.int i)
 | [.bl k]=>some (.int (if k then 1 else 0))
 |_=>none
def ZbQ:iR K Uw M_:=by
 intro c F H σ ρ ps pv vs Q rel r e k
 unfold M_ at e
 split at e
 ·cases e
  obtain⟨v,rfl,r1⟩:=Dl r
  cases r1.int
  exact .inl ⟨_,rfl,k _ F H rel (Same.refl _) (Same.refl _) Rep.int⟩
 ·cases e
  obtain⟨v,rfl,r1⟩:=Dl r
  cases r1.bl
  exact .inr ⟨_,rfl,k _ F H rel (Same.refl _) (Same.refl _) Rep.int⟩
 ·cases e
theorem cC:∀{ns:List Int} {its:List Value},Vals (ns.map V.int) its->IntsAre its ns
 | [],its,h=>by cases h;exact .nil
 |n::ns,its,h=>by
  cases h with
  |cons r t=>
   obtain⟨k,e⟩:=(show ∃k,_=Value.int n k from r)
   subst e
   exact .cons n k (cC t)
def Zek(K:PySem.W.Frag):List V->Hp->VK->Prop:=λxs H Q=>∃(p:Addr) (ns:List Int),xs=[.ref p]/\bD K H p (ns.map V.int)/\Q (.int ns.sum) H
def oZ(hc:X.calm=true):ų X (.builtin "sum") (Zek X.K):=by
 intro pins s σ H xs us Q I r h
 obtain⟨p,ns,rfl,hS,q⟩:=h
 obtain⟨u,rfl,ru⟩:=vals1 r
 cases ru
 obtain⟨its,rv,pl,hz⟩:=I.list hS
 have hi:=cC rv
 obtain⟨ys,e⟩:=hi.allInts.items
 have hns:ns=ys.toList.map (·.1):=by rw[<-hi.numsOf,<-nums_intItems,<-e]
 have hl:=pl.isList
 rw[e] at hl
 refine sum_intListG (show X.A.handled=none from I.ok.hd hc) hl λh' tk t' hk=>?_
 refine⟨.int ns.sum,H,I.kept hk,⟨t',?_⟩,q⟩
 rw[preSum_eq,List.take_of_length_le (by simp),<-hns]
section
variable{prog:Program}{w:World}{A:Around}{E:Value->Shared->Prop}{s:Shared}{l:Addr}{xs:Array (Int×Tok)}
def Aw{Q:Value->Shared->Prop}(hl:s.heap.IsTuple l (intItems xs))
 (h:∀s₂:Shared,s₂= {s with heap:=s.heap.push {cls:=.type "tuple_iterator",data:=.fields #[.ref l,.int 0 0]}}→
   (s₂.heap.IsTupleIter s.heap.objs.size l 0/\s₂.heap.IsTuple l (intItems xs))->(∀b∈[s.heap.objs.size,l],b<s₂.heap.objs.size)->l≠s.heap.objs.size->(∀h':Heap,(∀b o,b∉[s.heap.objs.size]->s₂.heap.get? b=some o->h'.get? b=some o)->∀b o,s.heap.get? b=some o->h'.get? b=some o)->Q (.ref s.heap.objs.size) s₂) :
 wpAny (model prog w) A (pyIter (.ref l)) Q E s:=by
 have hlt:l<s.heap.objs.size:=by obtain⟨_,e,_⟩:=hl;exact Heap.lt_size e
 refine wpAny_pyIter_tuple hl (h _ rfl ⟨⟨_,Heap.get?_push_size _ rfl,rfl,rfl⟩,hl.push _⟩ (λb hb=>?_) (Nat.ne_of_lt hlt) λh' hk b o e=>?_)
 ·show b<(s.heap.push _).objs.size
  rw[Heap.size_push]
  rcases List.mem_cons.mp hb with rfl|hb
  ·exact Nat.lt_succ_self _
  ·rcases List.mem_cons.mp hb with rfl|hb
   ·exact Nat.lt_succ_of_lt hlt
   ·cases hb
 ·refine hk b o (λhm=>?_) (Heap.get?_push_of_some _ e)
  rcases List.mem_cons.mp hm with e1|hm
  ·exact absurd (e1▸Heap.lt_size e) (Nat.lt_irrefl _)
  ·cases hm
def Du{Q:Value->Shared->Prop}(hh:A.handled=none)(hl:s.heap.IsTuple l (intItems xs))(hne:0<xs.size)
 (h:∀v h' tk,(intItems xs)[argBest (λi j=>decide (numAt xs i>numAt xs j)) (xs.size-1)]?=some v->(∀b o,s.heap.get? b=some o->h'.get? b=some o)->Q v {s with heap:=h',toks:=tk}) :
 wpAny (model prog w) A (call (.builtin "max") [.ref l]) Q E s:=by
 refine call_max_walk (Aw hl λs₂ e st hfp hlI hk0=>?_)
 subst e
 refine⟨_,_,_,_,_,_,_,rfl,Walks.tuple (A:=A.in1) hh _ l hlI (intItems xs),st,hfp,by simpa[intItems] using hne,CmpOf.ints_gt (numAt xs) (λ_ _=>intItems_at),λv h' tk hP hk=>?_⟩
 exact h v h' tk (by simpa[intItems] using hP) (hk0 h' hk)
end
def Zel(K:PySem.W.Frag):List V->Hp->VK->Prop:=λxs H Q=>∃(p:Addr) (ns:List Int),xs=[.ref p]/\(bD K H p (ns.map V.int)\/iH K H p (ns.map V.int))/\0<ns.length/\∀M,M∈ns->(∀a∈ns,a<=M)->Q (.int M) H
def xP(hc:X.calm=true):ų X (.builtin "max") (Zel X.K):=by
 intro pins s σ H xs us Q I r h
 obtain⟨p,ns,rfl,hS,hne,q⟩:=h
 obtain⟨u,rfl,ru⟩:=vals1 r
 cases ru
 have fin:∀(ys:Array (Int×Tok)),ns=ys.toList.map (·.1)->0<ys.size->∀v h' tk,(intItems ys)[argBest (λi j=>decide (numAt ys i>numAt ys j)) (ys.size-1)]?=some v->(∀b o,s.heap.get? b=some o->h'.get? b=some o)->EP X pins σ Q v {s with heap:=h',toks:=tk}:=by
  intro ys hns hsz v h' tk hv hk
  obtain⟨t,rfl⟩:=intItems_at hv
  obtain⟨h1,h2⟩:=argBest_gt (numAt ys) (ys.size-1)
  refine⟨.int _,H,I.kept hk,⟨t,rfl⟩,q _ ?_ λa ha=>?_⟩
  ·rw[hns,numAt_eq]
   have hj:argBest (λi j=>decide (numAt ys i>numAt ys j)) (ys.size-1)<(ys.toList.map (·.1)).length:=by rw[List.length_map,Array.length_toList];omega
   rw[List.getD_eq_getElem?_getD,List.getElem?_eq_getElem hj]
   exact List.getElem_mem _
  ·rw[hns] at ha
   obtain⟨j,hj,rfl⟩:=List.mem_iff_getElem.mp ha
   rw[List.length_map,Array.length_toList] at hj
   have:=h2 j (by omega)
   rw[numAt_eq ys j,List.getD_eq_getElem?_getD,List.getElem?_eq_getElem (by rw[List.length_map,Array.length_toList];exact hj)] at this
   exact this
 rcases hS with hS|hS
 ·obtain⟨its,rv,pl,hz⟩:=I.list hS
  have hi:=cC rv
  obtain⟨ys,e⟩:=hi.allInts.items
  have hns:ns=ys.toList.map (·.1):=by rw[<-hi.numsOf,<-nums_intItems,<-e]
  have hl:=pl.isList
  rw[e] at hl
  have hsz:0<ys.size:=by rw[hns,List.length_map,Array.length_toList] at hne;exact hne
  exact max_intList (show X.A.handled=none from I.ok.hd hc) hl hsz (fin ys hns hsz)
 ·obtain⟨its,rv,pl,hz⟩:=I.tuple hS
  have hi:=cC rv
  obtain⟨ys,e⟩:=hi.allInts.items
  have hns:ns=ys.toList.map (·.1):=by rw[<-hi.numsOf,<-nums_intItems,<-e]
  have hl:s.heap.IsTuple p its.toArray:=pl
  rw[e] at hl
  have hsz:0<ys.size:=by rw[hns,List.length_map,Array.length_toList] at hne;exact hne
  exact Du (show X.A.handled=none from I.ok.hd hc) hl hsz (fin ys hns hsz)
def Zem(K:PySem.W.Frag):List V->Hp->VK->Prop:=λxs H Q=>∃(p:Addr) (ns:List Int),xs=[.ref p]/\bD K H p (ns.map V.int)/\0<ns.length/\∀M,M∈ns->(∀a∈ns,M<=a)->Q (.int M) H
def Nb(hc:X.calm=true):ų X (.builtin "min") (Zem X.K):=by
 intro pins s σ H xs us Q I r h
 obtain⟨p,ns,rfl,hS,hne,q⟩:=h
 obtain⟨u,rfl,ru⟩:=vals1 r
 cases ru
 obtain⟨its,rv,pl,hz⟩:=I.list hS
 have hi:=cC rv
 obtain⟨ys,e⟩:=hi.allInts.items
 have hns:ns=ys.toList.map (·.1):=by rw[<-hi.numsOf,<-nums_intItems,<-e]
 have hl:=pl.isList
 rw[e] at hl
 have hsz:0<ys.size:=by rw[hns,List.length_map,Array.length_toList] at hne;exact hne
 refine min_intList (show X.A.handled=none from I.ok.hd hc) hl hsz λv h' tk hv hk=>?_
 obtain⟨t,rfl⟩:=intItems_at hv
 obtain⟨h1,h2⟩:=argBest_lt (numAt ys) (ys.size-1)
 refine⟨.int _,H,I.kept hk,⟨t,rfl⟩,q _ ?_ λa ha=>?_⟩
 ·rw[hns,numAt_eq]
  have hj:argBest (λi j=>decide (numAt ys i<numAt ys j)) (ys.size-1)<(ys.toList.map (·.1)).length:=by rw[List.length_map,Array.length_toList];omega
  rw[List.getD_eq_getElem?_getD,List.getElem?_eq_getElem hj]
  exact List.getElem_mem _
 ·rw[hns] at ha
  obtain⟨j,hj,rfl⟩:=List.mem_iff_getElem.mp ha
  rw[List.length_map,Array.length_toList] at hj
  have:=h2 j (by omega)
  rw[numAt_eq ys j,List.getD_eq_getElem?_getD,List.getElem?_eq_getElem (by rw[List.length_map,Array.length_toList];exact hj)] at this
  exact this
def intsOf:List PV->Option (List Int)
 | []=>some []
 | .int b::ps=>(intsOf ps).map (b:: ·)
 |_::_=>none
@[simp] theorem mW:∀ns:List Int,intsOf (ns.map PV.int)=some ns
  | []=>rfl
  |n::ns=>by rw[List.map_cons,intsOf,mW ns];rfl
theorem ints_rep{F:Hp}:∀{ps:List PV} {vs:List V} {bs:List Int},Ħ K F ps vs->intsOf ps=some bs->vs=bs.map V.int
 | [],vs,bs,r,h=>by
   cases h
   cases r.pr
   rfl
 |p::ps,vs,bs,r,h=>by
  cases r.pr with
  |cons r1 t=>
   cases p with
   |int b=>
    unfold intsOf at h
    obtain⟨cs,e,rfl⟩:=Option.map_eq_some_iff.mp h
    rw[ints_rep (Ħ.of t) e,show _=V.int b from r1]
    rfl
   |_=>cases h
def best(f:Int->Int->Int):List Int->Option Int
 | []=>none
 |n::ns=>some (ns.foldl f n)
theorem foldl_max:∀(ns:List Int) (n:Int),ns.foldl max n∈n::ns/\∀a∈n::ns,a<=ns.foldl max n
 | [],n=>by simp
 |m::ns,n=>by
  obtain⟨h1,h2⟩:=foldl_max ns (max n m)
  rw[List.foldl_cons]
  refine⟨?_,λa ha=>?_⟩
  ·rcases List.mem_cons.mp h1 with e|e
   ·rw[e]
    by_cases h:n<=m
    ·rw[Int.max_eq_right h];simp
    ·rw[Int.max_eq_left (by omega)];simp
   ·simp[e]
  ·have hm:=h2 (max n m) List.mem_cons_self
   rcases List.mem_cons.mp ha with rfl|ha
   ·omega
   ·rcases List.mem_cons.mp ha with rfl|ha
    ·omega
    ·exact h2 a (List.mem_cons_of_mem _ ha)
theorem foldl_min:∀(ns:List Int) (n:Int),ns.foldl min n∈n::ns/\∀a∈n::ns,ns.foldl min n<=a
 | [],n=>by simp
 |m::ns,n=>by
  obtain⟨h1,h2⟩:=foldl_min ns (min n m)
  rw[List.foldl_cons]
  refine⟨?_,λa ha=>?_⟩
  ·rcases List.mem_cons.mp h1 with e|e
   ·rw[e]
    by_cases h:n<=m
    ·rw[Int.min_eq_left h];simp
    ·rw[Int.min_eq_right (by omega)];simp
   ·simp[e]
  ·have hm:=h2 (min n m) List.mem_cons_self
   rcases List.mem_cons.mp ha with rfl|ha
   ·omega
   ·rcases List.mem_cons.mp ha with rfl|ha
    ·omega
    ·exact h2 a (List.mem_cons_of_mem _ ha)
def o_:List PV->Option PV
 | [.lst ps]=>(intsOf ps).map λns=>.int ns.sum
 |_=>none
def kO:List PV->Option PV
 | [.lst ps]=>((intsOf ps).bind (best max)).map .int
 | [.tup ps]=>((intsOf ps).bind (best max)).map .int
 |_=>none
def vB:List PV->Option PV
 | [.lst ps]=>((intsOf ps).bind (best min)).map .int
 |_=>none
def pq:iR K (Zek K.K) o_:=by
 intro c F H σ ρ ps pv vs Q rel r e k
 unfold o_ at e
 split at e
 ·rename_i ps
  obtain⟨v,rfl,r1⟩:=Dl r
  obtain⟨a,xs,rfl,h1,h2⟩:=r1.lst rel.sub
  obtain⟨ns,eb,rfl⟩:=Option.map_eq_some_iff.mp e
  exact⟨a,ns,rfl,by rw[<-ints_rep h2 eb];exact h1,k _ F H rel (Same.refl _) (Same.refl _) Rep.int⟩
 ·cases e
def xQ:iR K (Zel K.K) kO:=by
 intro c F H σ ρ ps pv vs Q rel r e k
 have fin:∀(ps:List PV) (xs:List V),Ħ K F ps xs->((intsOf ps).bind (best max)).map PV.int=some pv->∃ns:List Int,xs=ns.map V.int/\0<ns.length/\∀M,M∈ns->(∀a∈ns,a<=M)->Q (.int M) H:=by
  intro ps xs h2 e
  obtain⟨m,em,rfl⟩:=Option.map_eq_some_iff.mp e
  obtain⟨ns,eb,hb⟩:=Option.bind_eq_some_iff.mp em
  cases ns with
  |nil=>cases hb
  |cons n ns=>
   cases hb
   obtain⟨z1,z2⟩:=foldl_max ns n
   refine⟨n::ns,ints_rep h2 eb,by simp,λM m1 m2=>?_⟩
   have:M=ns.foldl max n:=Int.le_antisymm (z2 M m1) (m2 _ z1)
   rw[this]
   exact k _ F H rel (Same.refl _) (Same.refl _) Rep.int
 unfold kO at e
 split at e
 ·rename_i ps
  obtain⟨v,rfl,r1⟩:=Dl r
  obtain⟨a,xs,rfl,h1,h2⟩:=r1.lst rel.sub
  obtain⟨ns,rfl,hl,hq⟩:=fin ps xs h2 e
  exact⟨a,ns,rfl,.inl h1,hl,hq⟩
 ·rename_i ps
  obtain⟨v,rfl,r1⟩:=Dl r
  obtain⟨a,xs,rfl,h1,h2⟩:=r1.tup rel.sub
  obtain⟨ns,rfl,hl,hq⟩:=fin ps xs h2 e
  exact⟨a,ns,rfl,.inr h1,hl,hq⟩
 ·cases e
def Nf:iR K (Zem K.K) vB:=by
 intro c F H σ ρ ps pv vs Q rel r e k
 unfold vB at e
 split at e
 ·rename_i ps
  obtain⟨v,rfl,r1⟩:=Dl r
  obtain⟨a,xs,rfl,h1,h2⟩:=r1.lst rel.sub
  obtain⟨m,em,rfl⟩:=Option.map_eq_some_iff.mp e
  obtain⟨ns,eb,hb⟩:=Option.bind_eq_some_iff.mp em
  cases ns with
  |nil=>cases hb
  |cons n ns=>
   cases hb
   obtain⟨z1,z2⟩:=foldl_min ns n
   refine⟨a,n::ns,rfl,by rw[<-ints_rep h2 eb];exact h1,by simp,λM m1 m2=>?_⟩
   have:M=ns.foldl min n:=Int.le_antisymm (m2 _ z1) (z2 M m1)
   rw[this]
   exact k _ F H rel (Same.refl _) (Same.refl _) Rep.int
 ·cases e
@[simp] theorem Zfz{i:Int}:M_ [.int i]=some (.int i):=rfl
@[simp] theorem ZfA{b:Bool}:M_ [.bl b]=some (.int (if b then 1 else 0)):=rfl
@[simp] theorem lG{ps:List PV}:o_ [.lst ps]=(intsOf ps).map λns=>.int ns.sum:=rfl
@[simp] theorem Sx{ps:List PV}:kO [.lst ps]=((intsOf ps).bind (best max)).map .int:=rfl
@[simp] theorem Sy{ps:List PV}:vB [.lst ps]=((intsOf ps).bind (best min)).map .int:=rfl
@[simp] theorem ZfB{f:Int->Int->Int}{n:Int}{ns:List Int}:best f (n::ns)=some (ns.foldl f n):=rfl
end
end P
namespace P
open PySem PySem.Spec PyProof.Rows L2 M2 M3 M4
def Zen(K:PySem.W.Frag)(C:Addr):Bool:=PySem.W.plainGet K C Str.empty && PySem.W.hasDictIn K C && PySem.W.plainOver K C && PySem.W.findIn K (.ref C) "__setattr__" == some (some (.builtin "object.__setattr__"))
def mX{K:PySem.W.Frag}{C:Addr}(h:Zen K C=true):Cls K C:=by
 unfold Zen at h
 simp only[Bool.and_eq_true,beq_iff_eq] at h
 exact⟨h.1.1.1,h.1.1.2,h.1.2,h.2⟩
def Ux(K:PySem.W.Frag)(C:Addr)(m:Str)(f:Addr):Bool:=PySem.W.findIn K (.ref C) m== some (some (.ref f)) && PySem.W.isFn K (.ref f) && PySem.W.keepIn K (.ref f)
def nO{K:PySem.W.Frag}{C f:Addr}{m:Str}(h:Ux K C m f=true):Meth K C m f:=by
 unfold Ux at h
 simp only[Bool.and_eq_true,beq_iff_eq] at h
 exact⟨h.1.1,h.1.2,h.2⟩
def mkB(K:PySem.W.Frag)(C f:Addr):Bool:=PySem.W.makesIn K C && PySem.W.findIn K (.ref C) "__init__" == some (some (.ref f)) && PySem.W.isFn K (.ref f) && PySem.W.keepIn K (.ref C)
def sI{K:PySem.W.Frag}{C f:Addr}(h:mkB K C f=true):Mk K C f:=by
 unfold mkB at h
 simp only[Bool.and_eq_true,beq_iff_eq] at h
 exact⟨h.1.1.1,h.1.1.2,h.1.2,h.2⟩
section
variable{ρ:Ş}{i n k:Nat}{C:String}{cs:List String}{f m:Str}{mv mo:M PV}{mi:MI}{ms:M (List Slot)}{mb:M Fl}{jP:List (String×MF)}{as:List Slot}{ns:List Str}{ps:List PV}
@[simp] theorem ZfC:mz i cs f mv ρ=(mv ρ).bind fun p ρ1=>match ρ1[i]? with
  |some (.rc C ns ps)=>if cs.contains C=true/\ns.length<1000 then .ok .nx (ρ1.set i (.rc C (putN f ns) (Ag f p ns ps))) else .bad
  |_=>.bad:=rfl
@[simp] theorem ZfD:gM n k C mb as=if as.length+1=n then IR.of (mb (.rc C [] []::startP (k-1) as)) else .bad:=rfl
@[simp] theorem Zg7{C:String}:IR.of (.ok .nx (.rc C ns ps::ρ))=.ok ns ps:=rfl
@[simp] theorem ZfE:bW C mi ms ρ=(ms ρ).bind fun as ρ1=>match mi as with
  | .ok ns ps=>.ok (.ins C ns ps) ρ1
  | .exc x=>.exc x ρ1
  | .bad=>.bad:=rfl
@[simp] theorem Zg8:aX cs f (.ins C ns ps)=if cs.contains C=true then(ns.zip ps).lookup f else none:=rfl
@[simp] theorem SJ:sE m jP mo ms ρ=(mo ρ).bind fun p ρ1=>match p with
  | .ins C ns ps=>match jP.lookup C with
    |some mf=>if ns.contains m=true then .bad else(ms ρ1).bind λas ρ2=>match mf (.sh (.ins C ns ps)::as) with
     | .ret r=>.ok r ρ2
     | .exc x=>.exc x ρ2
     | .bad=>.bad
    |none=>.bad
  |_=>.bad:=rfl
end
end P
namespace M3
open PySem PySem.Spec PyProof.Rows L2 M2
section
variable{X:Cx}{elt tg iter:Expr}{ifs:List Expr}{scope:Scope}{pos:Pos}{wi:TI}{g:TG}{tt:TT}{te:TE}
def SM{iv:Nat}{y:Str}{py spos:Pos}(hN:X.N.Nodup)(hiN:X.N[iv]?=some y)(hy:X.env.scope.names.lookup y=some .local)(hsw:swapsWith (.ListComp elt [⟨tg,iter,ifs,0⟩] scope pos) (some (.Name y py)) spos.line X.env=pure true)(N':List Str)(js:List Nat)(nl:Nat)(sc:Scope)(hsc:X.env.scope=sc)(hcalm:X.calm=true)
 (hi:PI X.bR tg iter wi)(hg:∀cl C s H fp,PG (lA X.bR N' scope cl C s H fp) tg g)(ht:∀cl C s H fp,Ug (lA X.bR N' scope cl C s H fp) ifs tt)(he:∀cl C s H fp,PE (lA X.bR N' scope cl C s H fp) elt te)
 (hcap:jW X.bR sc scope N' js)(hlen:js.length+nl=N'.length:=by rfl)
 (hk:scope.kind=.function:=by rfl)(hcell:∀y∈scope.names,y.2=.cell->scope.names.lookup y.1=some .cell:=by decide +kernel)(hnames:∀y∈scope.names,y.2=.local->scope.names.lookup y.1=some .local:=by decide +kernel)
 (hfree:∀y∈scope.names,y.2=.free->(sc.names.lookup y.1=some .cell\/sc.names.lookup y.1=some .free):=by decide +kernel)
 (hs:∀x,foldedSetIterable iter X.env x=pure x:=by intro _;rfl) :
 PS X.bR (.Assign [.Name y py] (.ListComp elt [⟨tg,iter,ifs,0⟩] scope pos) spos) (λD σ H=>KR js nl wi g tt te σ H λv H'=>D.nx (σ.set iv (some v)) H'):=by
 intro pins s σ H D I h
 obtain⟨cl0,c1,c2,c3⟩:=jd (scope:=scope) (env:=X.bR.env) λy hy hf=>I.ok.has y.1 (by
  have:=hfree y hy hf
  rw[<-hsc] at this
  exact this)
 rw[exec_Assign_Name_used _ _ _ _ (show swapsWith _ _ _ X.bR.env=pure true from hsw)]
 refine wpAny_bind (wpAny_standAt (wpAny_bind ?_))
 show wpAny _ X.A (do let _ <-comprehension (.ListComp elt [⟨tg,iter,ifs,0⟩] scope pos) scope X.bR.env _ (newList []) false (eval iter X.bR.env) (some (assign (.Name y py) X.bR.env))) _ _ s
 refine wpAny_bind (wpAny_mono (wpAny_comprehension_free (Q:=λ_ s'=>SP X.bR pins D .next s') (use:=some (assign (.Name y py) X.bR.env)) rfl hs c1 hk hnames (Ŷ (hi pins s σ H _ I h) λv s1 h1=>Ŷ h1 λitv s2 h2=>?_)) (λ_ s' hq=>wpAny_pure (wpAny_pure hq)) λ_ _ e=>e)
 obtain⟨it,fp,tn,J,H2,e,I2,T,st2,f2,q2⟩:=h2
 subst e
 refine wpAny_newObj_type (lX (λh₁ hns₁ old Zby=>?_))
 dsimp only at hns₁ old Zby ⊢
 generalize hH3:s2.heap.push {cls:=.type "list",dict:=none,data:=.seq ([]:List Value).toArray}=fJ at hns₁ old Zby ⊢
 have hD:H2 s2.heap.objs.size=none:=I2.hok.fresh (Nat.le_refl _)
 have I3:Inv X.bR pins σ (upd H2 s2.heap.objs.size (.lst [])) {s2 with heap:=fJ}:=by
  rw[<-hH3]
  exact I2.laid (t':=s2.toks) (λb u e=>Heap.get?_push_of_some _ e) (Nat.le_refl _) ⟨Nat.zero_le _,[],0,.nil,Heap.get?_push_size _ rfl⟩
 have K_:∀b∈fp,b<s2.heap.objs.size:=λb hb=>by
  obtain⟨o,ho,_⟩:=T.obj 0 _ st2 b hb
  exact Heap.lt_size ho
 have sz3:fJ.objs.size=s2.heap.objs.size+1:=by rw[<-hH3,Heap.size_push]
 have f3:∀b∈fp,dZ X.bR pins (upd H2 s2.heap.objs.size (.lst [])) b:=λb hb=>by
  obtain⟨g0,g1⟩:=f2 b hb
  exact⟨by rw[ě (Nat.ne_of_lt (K_ b hb))];exact g0,g1⟩
 have B:=KY (X:=X.bR) (cl:=cl0) hcell c2 c3 (λx c e=>by
  obtain⟨v,o,ho,_⟩:=I3.cell x c e
  exact Heap.lt_size ho) Zby
 generalize cellsFrom (fJ.objs.size+1) scope.names cl0=cl at B ⊢
 obtain⟨W,⟨m0,w0⟩,turn⟩:=q2 s2.heap.objs.size hD
 have I4:=u_ (X:=X.bR) (N':=N') (js:=js) (nl:=nl) (sc:=sc) (scope:=scope) (cl:=cl) (fp:=fp) (h':=h₁) (tk:=s2.toks) hsc hk hcap hlen B I3 f3 (λb hb=>by show b<fJ.objs.size;rw[sz3];exact Nat.lt_succ_of_lt (K_ b hb)) hns₁ old
 have st4:tn 0 h₁:= T.keep 0 _ _ st2 λb hb o e=>old b o (by rw[<-hH3];exact Heap.get?_push_of_some _ e)
 have fr4:∀b∈fp,(upd H2 s2.heap.objs.size (.lst [])) b=none:=λb hb=>(f3 b hb).1
 have stat:∀{H':Hp},(∀b∈fp,H' b=none)->∀b∈fp,dZ (lA X.bR N' scope cl fJ.objs.size {s2 with heap:=fJ} (upd H2 s2.heap.objs.size (.lst [])) fp) [] H' b:=fun{H'} hn b hb=>by
  obtain⟨g0,g1,g2,g3,g4,g5⟩:=f3 b hb
  refine⟨hn b hb,Nat.ne_of_lt (by show b<fJ.objs.size;rw[sz3];exact Nat.lt_succ_of_lt (K_ b hb)),λz=>?_,.inl hb,λx c e=>by
   rcases B.at_ x c e with⟨q,_⟩|⟨q,_⟩
   ·exact g4 x c q
   ·exact Nat.ne_of_gt (Nat.lt_trans (by show b<fJ.objs.size;rw[sz3];exact Nat.lt_succ_of_lt (K_ b hb)) q),λp hp=>absurd hp (by simp[lA])⟩
  rcases List.mem_cons.mp (I3.rC b z) with z|z
  ·exact g1 z
  ·exact g2 z
 have loop:∀s₃:Shared,s₃= {s2 with heap:=h₁}->
  codeAny (model X.prog X.w) X.A (.compLoop (.ListComp elt [⟨tg,iter,ifs,0⟩] scope pos) 0 (.ref it) (.ref s2.heap.objs.size) (compEnvC scope cl fJ.objs.size X.bR.env))
   (compPost (model X.prog X.w) X.A X.bR.xe (some (assign (.Name y py) X.bR.env)) (λ_ s'=>SP X.bR pins D .next s') (.ref s2.heap.objs.size) fJ.objs.size) s₃:= by
  rintro s₃ rfl
  refine nF (λn s'=>∃i σ' H',Inv (lA X.bR N' scope cl fJ.objs.size {s2 with heap:=fJ} (upd H2 s2.heap.objs.size (.lst [])) fp) [] σ' H' s'/\tn i s'.heap/\(∀b∈fp,H' b=none)/\W i n σ' H') ?_ m0 ⟨0,_,_,I4,st4,fr4,w0⟩
  rintro n s5 ⟨i,σ5,H5,I5,QL,fr5,w5⟩
  rcases turn i n σ5 H5 w5 with⟨stop,qn⟩|⟨go,N,hN,step⟩
  ·refine Ŷ (T.done (lA X.bR N' scope cl fJ.objs.size {s2 with heap:=fJ} (upd H2 s2.heap.objs.size (.lst [])) fp) rfl rfl rfl hcalm i [] s5 σ5 H5 (λ_ _=>False) I5 (stat fr5) QL stop) λr s6 ⟨hr,I6⟩=>?_
   subst hr
   obtain⟨m,hm,_⟩:=I6.loc
   have I7:Inv X.bR pins σ H5 s6:=rK (h':=s6.heap) I3 f3 I6 (λb u hb e=>e)
   have hCL:fJ.objs.size≠X.bR.env.locals:=Nat.ne_of_gt I3.lt
   have hcC:∀x c,X.bR.env.cells.lookup x=some c->c≠fJ.objs.size:=λx c e z=>by
    obtain⟨v,o,ho,_⟩:=I3.cell x c e
    exact absurd (Heap.lt_size ho) (by rw[z];exact Nat.lt_irrefl _)
   have hpC:∀p∈X.bR.pn++pins,p.1≠fJ.objs.size:=λp hp z=>by
    have:=Heap.lt_size (I3.pin p hp).1
    rw[z] at this
    exact Nat.lt_irrefl _ this
   have hnC:H5 fJ.objs.size=none:=I6.free
   refine wpAny_assign_Name (uP (X:=X.bR) (i:=iv) I7 hN hiN (.inl hy) (v:=.ref s2.heap.objs.size) rfl (λs8 I8 ⟨a8,sb8,ha8⟩=>?_) (.inr hy))
   have ne8:fJ.objs.size≠a8:=by
    rcases ha8 with rfl|ha8
    ·exact hCL
    ·exact λz=>hcC _ _ ha8 z.symm
   refine⟨m,hm.sameBut sb8 ne8,λh' hs'=>⟨_,H5,?_,qn⟩⟩
   have kp:∀b o,b≠fJ.objs.size->s8.heap.get? b=some o->h'.get? b=some o:=λb o hb e=>hs'.extBut b o hb e
   have kp':∀b o,b∉[fJ.objs.size]->s8.heap.get? b=some o->h'.get? b=some o:=λb o hb e=>kp b o (λz=>hb (by rw[z];exact List.mem_cons_self)) e
   refine I8.call' (ch:=[fJ.objs.size]) (s':={s8 with heap:=h'}) rfl ⟨λb o e _ _ hx=>kp' b o hx e,λb o e _ _ hx=>⟨o.slots,kp' b o hx e⟩,λb o _ n _=>n,λb o e hx=>⟨o,kp' b o hx e⟩,λ_ _ q=>q,λ_ _ _ q=>q,λ_ ps q=>q⟩ (GK I8.hok hnC kp) I8.bare λb hb=>?_
   cases List.mem_singleton.mp hb
   exact⟨.inr I3.sz,hCL,hcC,hpC⟩
  ·refine Ŷ (T.item (lA X.bR N' scope cl fJ.objs.size {s2 with heap:=fJ} (upd H2 s2.heap.objs.size (.lst [])) fp) rfl rfl rfl hcalm i [] s5 σ5 H5 (λ_ _=>False) I5 (stat fr5) QL go) λr s6 ⟨u,hr,h6⟩=>?_
   subst hr
   refine Ŷ h6 λ_ s7 ⟨x,H7,I7,r7,y7,st7,fr7⟩=>?_
   have I7':=I7.pinned (stat fr7) (T.obj _ _ st7)
   have again:∀{s8:Shared} {σ8:L2.St} {H8:Hp},Inv (lA X.bR N' scope cl fJ.objs.size {s2 with heap:=fJ} (upd H2 s2.heap.objs.size (.lst [])) fp) ([]++oG fp s7.heap) σ8 H8 s8->
    Inv (lA X.bR N' scope cl fJ.objs.size {s2 with heap:=fJ} (upd H2 s2.heap.objs.size (.lst [])) fp) [] σ8 H8 s8/\tn (i+1) s8.heap/\∀b∈fp,H8 b=none:=fun{s8 σ8 H8} I8=>by
    refine⟨I8.iI,T.keep _ _ _ st7 λb hb o e=>(I8.pin (b,o) (List.mem_append_right _ (List.mem_append_right _ (bF hb e)))).1,λb hb=>?_⟩
    obtain⟨o,e,d⟩:=T.obj _ _ st7 b hb
    exact(I8.pin (b,o) (List.mem_append_right _ (List.mem_append_right _ (bF hb e)))).2.1
   refine Ŷ (hg cl _ _ _ fp _ s7 σ5 H7 x u _ I7' r7 (step x H7 y7)) λ_ s8 ⟨σ8,H8,I8,q8⟩=>?_
   refine Ŷ (ht cl _ _ _ fp _ s8 σ8 H8 _ I8 q8) λc s9 ⟨H9,I9,q9⟩=>?_
   cases c with
   |false=>
    rw[if_neg Bool.false_ne_true] at q9 ⊢
    obtain⟨m',hm',w9⟩:=hN _ _ q9
    obtain⟨a1,a2,a3⟩:=again I9
    exact⟨m',hm',i+1,σ8,H9,a1,a2,a3,w9⟩
   |true=>
    rw[if_pos rfl] at q9 ⊢
    refine Ŷ (he cl _ _ _ fp _ s9 σ8 H9 _ I9 q9) λyv BX ⟨y,H10,I10,r10,ys,e10,l10,w10⟩=>?_
    refine Ŷ (bO _ BX σ8 H10 (.ref s2.heap.objs.size) [y] (.ref s2.heap.objs.size) [yv] (λ_ H11=>N σ8 H11) I10 rfl (.cons r10 .nil) ⟨_,ys,y,rfl,rfl,e10,l10,w10⟩) λ_ s11 ⟨v11,H11,I11,_,w11⟩=>?_
    obtain⟨a1,a2,a3⟩:=again I11
    obtain⟨m',hm',w11⟩:=hN _ _ w11
    exact⟨m',hm',i+1,σ8,H11,a1,a2,a3,w11⟩
 exact codeAny_compStart_list (loop _ rfl) (T.self _ 0 _ _ _ st4 (loop _ rfl))
end
end M3
namespace P
open PySem PySem.Spec PyProof.Rows L2 M2 M3 M4
section
variable{X:Cx}{cm:String->Addr}{E:L2.St->XK}{elt tg iter:Expr}{ifs:List Expr}{scope:Scope}{pos:Pos}{mi:M (List PV)}{g:Tg}{mt:M Bool}{me:M PV}
theorem PS.bR{st:Stmt}{t:TS}(h:PS X.bR st t):PS X st t:=λpins s σ H D I hw=>
 wpAny_mono (h pins s σ H D (I.wish _) hw) (λ_ _ q=>q.jc) λ_ _ z=>False.elim z
def jo{i:Nat}{y:Str}{py spos:Pos}(hN:X.N.Nodup)(hi0:X.N[i]?=some y)(hy:X.env.scope.names.lookup y=some .local)(N':List Str)(js:List Nat)(nl:Nat)(sc:Scope)(hsc:X.env.scope=sc)(hcalm:X.calm=true)
 (hi:PI X.bR tg iter (tI (kk X cm) E mi))(hg:∀cl C s H fp,PG (lA X.bR N' scope cl C s H fp) tg (tT (kk X cm) g))(ht:∀cl C s H fp,Ug (lA X.bR N' scope cl C s H fp) ifs (tB (kk X cm) EF mt))(he:∀cl C s H fp,PE (lA X.bR N' scope cl C s H fp) elt (tV (kk X cm) EF me))
 (hcap:jW X.bR sc scope N' js)(hlen:js.length+nl=N'.length:=by rfl)
 (hk:scope.kind=.function:=by rfl)(hcell:∀y∈scope.names,y.2=.cell->scope.names.lookup y.1=some .cell:=by decide +kernel)(hnames:∀y∈scope.names,y.2=.local->scope.names.lookup y.1=some .local:=by decide +kernel)
 (hfree:∀y∈scope.names,y.2=.free->(sc.names.lookup y.1=some .cell\/sc.names.lookup y.1=some .free):=by decide +kernel)
 (hs:∀x,foldedSetIterable iter X.env x=pure x:=by intro _;rfl)(hsw:swapsWith (.ListComp elt [⟨tg,iter,ifs,0⟩] scope pos) (some (.Name y py)) spos.line X.env=pure true:=by rfl) :
 PS X (.Assign [.Name y py] (.ListComp elt [⟨tg,iter,ifs,0⟩] scope pos) spos) (tS (kk X cm) E (ķ i (ś js nl mi g mt me))):=
 PS.wk (PS.bR (SM hN hi0 hy hsw N' js nl sc hsc hcalm hi hg ht he hcap hlen hk hcell hnames hfree hs)) fun D σ H ⟨c,F,ρ,rel,h⟩=>z_ ⟨c,F,ρ,rel,aB.bind h fun r ρ1 v F1 H1 Ġ s1 q h1=>by
   cases r with
   |sh p=>exact h1 _ F1 H1 (Ġ.put rfl ⟨v,rfl,q⟩) (Same.refl _)
   |ow ps=>
    obtain⟨a,vs,rfl,q1,q2,q3,q4,q5⟩:=q
    exact h1 _ F1 H1 (Ġ.Ry ⟨a,vs,rfl,q1,q2,q3,q5⟩ λ_ z=>V.ref.inj z▸q4) (Same.refl _)
   |ot ps qs=>
    obtain⟨p,a,xs,vs,rfl,q0,qx,q1,q2,q3,q4,q5⟩:=q
    exact h1 _ F1 H1 (Ġ.Ry (s:=.ot ps qs) ⟨p,a,xs,vs,rfl,q0,qx,q1,q2,q3,q5⟩ λ_ z=>qW (ps:=ps) (qs:=qs) z ⟨p,xs,rfl,q0⟩▸q4) (Same.refl _)⟩
end
end P
namespace P
open PySem PySem.Spec PyProof.Rows L2 M2 M3 M4
section
variable{X:Cx}{cm:String->Addr}{K:KK}{E:L2.St->XK}{o e:Expr}{es:List Expr}{name:Str}{apos cpos:Pos}{id:String}{r:V->List V->Hp->VK->Prop}{f:PV->List PV->Option PV}{mo:M PV}{ms:M (List PV)}
end
end P
namespace P
open PySem PySem.Spec PyProof.Rows L2 M2 M3 M4
section
variable{X:Cx}{pins:List (Addr×Obj)}{σ:L2.St}{H:Hp}{s:Shared}{h':Heap}
def turns{t':Nat}{fp:List Addr}(I:Inv X pins σ H s)(k:∀b o,b∉fp->s.heap.get? b=some o->h'.get? b=some o)(hf:∀b∈fp,dZ X pins H b):Inv X pins σ H {s with heap:=h',toks:=t'}:=by
 have nit:∀b u,H b=some u->b∉fp:=λb u e z=>by rw[(hf b z).1] at e;cases e
 have hL:X.env.locals∉fp:=λz=>(hf _ z).2.1 rfl
 refine I.step (g':=s.gens) (d':=s.drawn) (ch:=fp) (λb hb=>?_) (λb o _ _ hc e _=>k b o hc e) (λb o _ _ hc e _=>⟨o.slots,k b o hc e⟩) (λ_ _ _ _ n=>n)
  (λb o hc e=>⟨o,k b o hc e⟩) (λ_ _ e=>e) (λ_ _ _ e=>e) (λb ps e=>e) (λm hm=>?_) (λb u e=>?_) I.bare
 ·obtain⟨f0,f1,f2,f3,f4,f5⟩:=hf b hb
  exact⟨f3,f1,f4,f5⟩
 ·obtain⟨o,es,ep,ho,r⟩:=hm
  exact⟨o,es,ep,k _ o hL ho,r⟩
 ·refine(I.hok b u e).stay (λc v hc q=>k c v ?_ q) (λ_ q=>q) λ_ _ q=>q
  rcases hc with z|z
  ·rw[z];exact nit b u e
  ·exact nit c _ z
def ZbR{a b:Addr}{o:HO}(f:dZ X pins H b)(h:b≠a):dZ X pins (upd H a o) b:=⟨by rw[ě h];exact f.1,f.2⟩
def sJ{t':Nat}{fp:List Addr}{u1 u2:Value}{x1 x2:V}(I:Inv X pins σ H s)(r1:RelV x1 u1)(r2:RelV x2 u2)(ht:∃o,h'.get? s.heap.objs.size=some o/\o= {cls:=.type "tuple",data:=.seq #[u1,u2]})
 (k:∀b o,b∉fp->s.heap.get? b=some o->h'.get? b=some o)(hf:∀b∈fp,dZ X pins H b)(hlt:∀b∈fp,b<s.heap.objs.size) :
 Inv X pins σ (upd H s.heap.objs.size (.tup [x1,x2])) {s with heap:=h',toks:=t'}:=by
 have I1:Inv X pins σ (upd H s.heap.objs.size (.tup [x1,x2])) {s with heap:=s.heap.push {cls:=.type "tuple",data:=.seq #[u1,u2]},toks:=s.toks}:=
  I.laid (t':=s.toks) (λb u e=>Heap.get?_push_of_some _ e) (Nat.le_refl _) ⟨by show 2<=sizeLine;decide,[u1,u2],.cons r1 (.cons r2 .nil),⟨_,Heap.get?_push_size _ rfl,rfl,_,rfl⟩⟩
 refine turns (fp:=fp) (s:={s with heap:=s.heap.push {cls:=.type "tuple",data:=.seq #[u1,u2]},toks:=s.toks}) (h':=h') (t':=t') I1 (λb o hb e=>?_) λb hb=>ZbR (hf b hb) (Nat.ne_of_lt (hlt b hb))
 rcases Heap.get?_push_cases e with⟨rfl,rfl⟩|e
 ·obtain⟨o,h1,h2⟩:=ht
  rw[h1,h2]
 ·exact k b o hb e
end
def Ite(K:PySem.W.Frag)(a:Addr):It:=
 ⟨λi H=>∃xs x,bD K H a xs/\xs[i]?=some x,λi H y H'=>∃x T,(∀xs,bD K H a xs->xs[i]?=some x)/\H T=none/\y=.ref T/\H'=upd H T (.tup [.int i,x]),λi H=>∃xs,bD K H a xs/\xs.length<=i⟩
def Jw{P:Program}{w:World}{K:PySem.W.Frag}{elts:List Expr}{k:Nat}{pos:Pos}(a e it:Addr)(hne:e≠it):Turn P w K (.Tuple elts k pos) (Ite K a) [e,it] e (λi h=>(∃old,IsEnum h e it i old)/\h.IsListIter it a i) where
 mem:=by simp
 obj:=λi h st b hb=>by
  obtain⟨⟨old,he⟩,hit⟩:=st
  rcases List.mem_cons.mp hb with rfl|hb
  ·exact⟨_,he,fun v z=>by
    have z':Data.fields _=Data.cell v:=z
    cases z'⟩
  ·have e':b=it:=by simpa using hb
   subst e'
   obtain⟨o,e1,c,d⟩:=hit
   exact⟨o,e1,λv z=>by rw[d] at z;cases z⟩
 keep:=λi h h' st k=>⟨let ⟨old,he⟩:=st.1;⟨old,k e (by simp) _ he⟩,st.2.at λo q=>k it (by simp) o q⟩
 item:=by
  intro X hP hw hK hc i pins s σ H E I hf st hg
  subst hP hw hK
  obtain⟨⟨old,he⟩,hit⟩:=st
  obtain⟨xs,x,hq,hx⟩:=hg
  obtain⟨its,rv,p,hz⟩:=I.list hq
  obtain⟨u,hu,ru⟩:=rv.get hx
  have elt:e<s.heap.objs.size:=Heap.lt_size he
  have ilt:it<s.heap.objs.size:=by obtain⟨_,q,_⟩:=hit;exact Heap.lt_size q
  refine wpAny_pyNext_enum_item he hit p.isList (x:=u) (by simpa using hu) hne λh' ho hit' hT hsz hk=>?_
  refine⟨.ref s.heap.objs.size,rfl,wpAny_letOwnedTupleGo_enum ho λh'' he' hs'=>?_⟩
  have hs2:Heap.SameBut e h' h'':=hs'
  have hlt:∀b∈[e,it],b<s.heap.objs.size:=λb hb=>by
   rcases List.mem_cons.mp hb with rfl|hb
   ·exact elt
   ·have e':b=it:=by simpa using hb
    subst e';exact ilt
  have I2:=sJ (fp:=[e,it]) (h':=h'') (t':=s.toks+1) (x1:=.int i) I ⟨s.toks,rfl⟩ ru ⟨_,(hs2.2 _ (Nat.ne_of_gt elt)).trans hT,rfl⟩ (λb o hb q=>by
   have hbe:b≠e:=λz=>hb (by simp[z])
   have hbi:b≠it:=λz=>hb (by simp[z])
   exact(hs2.2 b hbe).trans (hk b o hbe hbi q)) hf hlt
  refine⟨.ref s.heap.objs.size,_,I2,rfl,⟨x,s.heap.objs.size,λys hy=>by rw[I.rE hy hq];exact hx,I.fresh,rfl,rfl⟩,⟨⟨u,?_⟩,hit'.at λo q=>(hs2.2 it hne.symm).trans q⟩,λb hb=>?_⟩
  ·have he2:IsEnum h'' e it ((i:Int)+1) u:=he'
   show IsEnum h'' e it (((i+1:Nat):Int)) u
   rw[Int.natCast_add]
   exact he2
  ·rw[ě (Nat.ne_of_lt (hlt b hb))];exact(hf b hb).1
 done:=by
  intro X hP hw hK hc i pins s σ H E I hf st hg
  subst hP hw hK
  obtain⟨⟨old,he⟩,hit⟩:=st
  obtain⟨xs,hq,hx⟩:=hg
  obtain⟨its,rv,p,hz⟩:=I.list hq
  have hl:=rv.length
  refine wpAny_pyNext_enum_end (I.ok.hd hc) he hit p.isList (by simp;omega) λh' eb=>⟨rfl,turns (fp:=[e,it]) (t':=s.toks) I (λb o hb q=>eb b o (λz=>hb (by simp[z])) q) hf⟩
 self:=λ_ _ _ _ _ st h=>let ⟨_,he⟩:=st.1;wpAny_pyIter_enum he h
section
variable{X:Cx}{elts:List Expr}{k:Nat}{tp:Pos}
def Zeo(K:PySem.W.Frag)(ta:TA):TI:=λσ H R=>ta σ H λvs H1=>∃a,vs=[.ref a]/\(∃xs,bD K H1 a xs)/\R (Ite K a) H1
def SN{l:Expr}{ta:TA}{p pos:Pos}(hg:Gl X "enumerate")(hm:X.mg "enumerate" =none)(ha:PA X [l] ta)(hs:starEach [l] X.env=[(false,eval l X.env)]:=by exact ĸ rfl):PI X (.Tuple elts k tp) (.Call (.Name "enumerate" p) [l] [] pos) (Zeo X.K ta):=by
 intro pins s σ H R I h
 refine Call_ (mO I hg hm boot_enumerate (PyProof.Rows.callWith_type1 (Ŷ (ha pos pins s σ H _ I h) λus s1 ⟨vs,H1,I1,r1,q1⟩=>?_) hs rfl))
 obtain⟨a,e,⟨xs,hq⟩,q⟩:=q1
 subst e
 obtain⟨u,rfl,ru⟩:=r1.one
 cases ru
 obtain⟨its,rv,pl,hz⟩:=I1.list hq
 refine call_enumerate_list pl.isList λh' he hit hsz hk=>?_
 have I2:Inv X pins σ H1 {s1 with heap:=h'}:=I1.kept (t':=s1.toks) hk
 refine wpAny_pyIter_enum (s:={s1 with heap:=h'}) he ⟨s1.heap.objs.size+1,[s1.heap.objs.size+1,s1.heap.objs.size],_,_,H1,rfl,I2,Jw a _ _ (Nat.succ_ne_self _),⟨⟨_,he⟩,hit⟩,λb hb=>?_,q⟩
 have hb':s1.heap.objs.size<=b:=by
  rcases List.mem_cons.mp hb with rfl|hb
  ·exact Nat.le_succ _
  ·have e':b=s1.heap.objs.size:=by simpa using hb
   exact Nat.le_of_eq e'.symm
 exact I1.uz hb' (I1.hok.fresh hb')
end
def rLs(K:KK):RR (List PV) V:=λc _ _ F H items v=>∃a,v=.ref a/\(∃xs,bD K.K H a xs)/\jM K c.L F (Itl K.K a) items
def rTs(K:KK):RR (List PV) V:=λc _ _ F H items v=>∃a,v=.ref a/\(∃xs,iH K.K H a xs)/\jM K c.L F (Itt K.K a) items
def rSq(K:KK):RR (List PV) V:=λc σ ρ F H items v=>rLs K c σ ρ F H items v\/rTs K c σ ρ F H items v
def nP{K:KK}{L F:Hp}{ps:List PV}{v:V}(h:Rep K F (.lst ps) v):∃a,v=.ref a/\(∃xs,bD K.K F a xs)/\jM K L F (Itl K.K a) ps:=by
 unfold Rep at h
 obtain⟨a,vs,rfl,e1,e2⟩:=h
 refine⟨a,rfl,⟨vs,e1⟩,?_⟩
 intro c' i F2 H2 σ2 ρ2 ő sF _
 have hq:bD K.K H2 a vs:=(sF.trans ő.sub).seq e1
 refine⟨λp hp=>?_,λhi=>⟨vs,hq,by rw[hi,e2.length];exact Nat.le_refl _⟩⟩
 obtain⟨u,hu,ru⟩:=dz e2.pr hp
 refine⟨⟨vs,u,hq,hu⟩,λx H' ⟨hH,hx⟩=>?_⟩
 subst hH
 have:vs[i]?=some x:=hx vs hq
 rw[hu] at this
 cases this
 exact⟨F2,ő,Same.refl _,Same.refl _,Rep.same sF p u ru⟩
def Ng{K:KK}{L F:Hp}{ps:List PV}{v:V}(h:Rep K F (.tup ps) v):∃a,v=.ref a/\(∃xs,iH K.K F a xs)/\jM K L F (Itt K.K a) ps:=by
 unfold Rep at h
 obtain⟨a,vs,rfl,e1,e2⟩:=h
 refine⟨a,rfl,⟨vs,e1⟩,?_⟩
 intro c' i F2 H2 σ2 ρ2 ő sF _
 have hq:iH K.K H2 a vs:=Same.tup (sF.trans ő.sub) e1
 refine⟨λp hp=>?_,λhi=>⟨vs,hq,by rw[hi,e2.length];exact Nat.le_refl _⟩⟩
 obtain⟨u,hu,ru⟩:=dz e2.pr hp
 refine⟨⟨vs,u,hq,hu⟩,λx H' ⟨hH,hx⟩=>?_⟩
 subst hH
 have:vs[i]?=some x:=hx vs hq
 rw[hu] at this
 cases this
 exact⟨F2,ő,Same.refl _,Same.refl _,Rep.same sF p u ru⟩
def vC{K:KK}{c:Ctx}{F:Hp}{a:Addr}{vs:List V}{ps:List PV}(h2:c.L a=some (.lst vs))(h3:Ħ K F ps vs):jM K c.L F (Itl K.K a) ps:=by
 intro c' j F2 H2 σ2 ρ2 ő sF sL
 have hq:bD K.K H2 a vs:=bD.of (sL a _ h2)
 refine⟨λp hp=>?_,λhi=>⟨vs,hq,by rw[hi,h3.length];exact Nat.le_refl _⟩⟩
 obtain⟨u,hu,ru⟩:=dz h3.pr hp
 refine⟨⟨vs,u,hq,hu⟩,λx H' ⟨hH,hx⟩=>?_⟩
 subst hH
 have:vs[j]?=some x:=hx vs hq
 rw[hu] at this
 cases this
 exact⟨F2,ő,Same.refl _,Same.refl _,Rep.same sF p u ru⟩
def jM.mono{K:KK}{L F F1:Hp}{J:It}{ps:List PV}(h:jM K L F J ps)(s:Same F F1):jM K L F1 J ps:=λc i F2 H σ ρ rel sF sL=>h c i F2 H σ ρ rel (s.trans sF) sL
def Jx(i:Nat):M (List PV):=λρ=>match ρ[i]? with
 |some (.bw ps)=>.ok ps ρ
 |some (.sh (.lst ps))=>.ok ps ρ
 |some (.ow ps)=>.ok ps (ρ.set i (.sh (.lst ps)))
 |_=>.bad
def Nh(i:Nat):M (List PV):=λρ=>match ρ[i]? with
 |some (.bw ps)=>.ok ps ρ
 |some (.sh (.lst ps))=>.ok ps ρ
 |some (.sh (.tup ps))=>.ok ps ρ
 |some (.ow ps)=>.ok ps (ρ.set i (.sh (.lst ps)))
 |_=>.bad
section
variable{X:Cx}{cm:String->Addr}{E:L2.St->XK}{e:Expr}{m:M PV}
def Uy(i:Nat){x:Str}{px:Pos}(hN:X.N[i]?=some x:=by rfl)(hv:Gs X.env.scope x:=by first|exact Or.inl rfl|exact Or.inr (Or.inl rfl)|exact Or.inr (Or.inr rfl))(hd:(x== ("__debug__" :Str))=false:=by decide)
 (hcd:(x== ("__classdict__" :Str))=false:=by decide):PE X (.Name x px) (tG (kk X cm) E (rSq (kk X cm)) (Nh i)):=PE.wk (i_ hN hv hd hcd) λσ H Q ⟨c,F,ρ,rel,h⟩=>by
 unfold Nh at h
 cases e:ρ[i]? with
 |none=>rw[e] at h;exact h.elim
 |some sl=>
  rw[e] at h
  cases sl with
  |no=>exact h.elim
  |rc C ns ps=>exact h.elim
  |ot ps qs=>exact h.elim
  |ol GX=>exact h.elim
  |ow ps=>
   obtain⟨a,vs,z1,z2,z3,z4⟩:=rel.share e
   obtain⟨a',e1,⟨xs,e2⟩,e3⟩:=nP (L:=c.L) z3
   cases e1
   exact⟨.ref a,z1,h _ _ H z4 (Same.upd z2) (Same.refl _) (.inl ⟨a,rfl,⟨xs,z4.sub.seq e2⟩,e3⟩)⟩
  |bw ps=>
   obtain⟨a,vs,h1,h2,h3⟩:=rel.slot i _ e
   exact⟨.ref a,at_of h1,h _ F H rel (Same.refl _) (Same.refl _) (.inl ⟨a,rfl,⟨vs,bD.of (rel.lent a _ h2).1⟩,vC h2 h3⟩)⟩
  |sh p=>
   obtain⟨v,h1,h2⟩:=rel.slot i _ e
   cases p with
   |lst ps=>
    obtain⟨a,e1,⟨xs,e2⟩,e3⟩:=nP (L:=c.L) h2
    exact⟨v,at_of h1,h v F H rel (Same.refl _) (Same.refl _) (.inl ⟨a,e1,⟨xs,rel.sub.seq e2⟩,e3⟩)⟩
   |tup ps=>
    obtain⟨a,e1,⟨xs,e2⟩,e3⟩:=Ng (L:=c.L) h2
    exact⟨v,at_of h1,h v F H rel (Same.refl _) (Same.refl _) (.inr ⟨a,e1,⟨xs,Same.tup rel.sub e2⟩,e3⟩)⟩
   |_=>exact h.elim
def Ni(i:Nat){x:Str}{px:Pos}(hN:X.N[i]?=some x:=by rfl)(hv:Gs X.env.scope x:=by first|exact Or.inl rfl|exact Or.inr (Or.inl rfl)|exact Or.inr (Or.inr rfl))(hd:(x== ("__debug__" :Str))=false:=by decide)
 (hcd:(x== ("__classdict__" :Str))=false:=by decide):PE X (.Name x px) (tG (kk X cm) E (rLs (kk X cm)) (Jx i)):=PE.wk (i_ hN hv hd hcd) λσ H Q ⟨c,F,ρ,rel,h⟩=>by
 unfold Jx at h
 cases e:ρ[i]? with
 |none=>rw[e] at h;exact h.elim
 |some sl=>
  rw[e] at h
  cases sl with
  |no=>exact h.elim
  |rc C ns ps=>exact h.elim
  |ot ps qs=>exact h.elim
  |ol GX=>exact h.elim
  |ow ps=>
   obtain⟨a,vs,z1,z2,z3,z4⟩:=rel.share e
   obtain⟨a',e1,⟨xs,e2⟩,e3⟩:=nP (L:=c.L) z3
   cases e1
   exact⟨.ref a,z1,h _ _ H z4 (Same.upd z2) (Same.refl _) ⟨a,rfl,⟨xs,z4.sub.seq e2⟩,e3⟩⟩
  |bw ps=>
   obtain⟨a,vs,h1,h2,h3⟩:=rel.slot i _ e
   exact⟨.ref a,at_of h1,h _ F H rel (Same.refl _) (Same.refl _) ⟨a,rfl,⟨vs,bD.of (rel.lent a _ h2).1⟩,vC h2 h3⟩⟩
  |sh p=>
   obtain⟨v,h1,h2⟩:=rel.slot i _ e
   cases p with
   |lst ps=>
    obtain⟨a,e1,⟨xs,e2⟩,e3⟩:=nP (L:=c.L) h2
    exact⟨v,at_of h1,h v F H rel (Same.refl _) (Same.refl _) ⟨a,e1,⟨xs,rel.sub.seq e2⟩,e3⟩⟩
   |_=>exact h.elim
def mD:Nat->List PV->List PV
 |_,[]=>[]
 |k,p::ps=>.tup [.int k,p]::mD (k+1) ps
theorem vD:∀(k:Nat) (ps:List PV),(mD k ps).length=ps.length
 |_,[]=>rfl
 |k,_::ps=>congrArg (·+ 1) (vD (k+1) ps)
theorem vG:∀(k:Nat) (ps:List PV) (i:Nat),(mD k ps)[i]?=ps[i]?.map λp=>.tup [.int ((k+i:Nat):Int),p]
 |_,[],_=>rfl
 |k,p::ps,0=>rfl
 |k,p::ps,i+1=>by
  show(mD (k+1) ps)[i]?=_
  rw[vG (k+1) ps i,List.getElem?_cons_succ,show k+1+i=k+(i+1) by omega]
def Ax(m:M (List PV)):M (List PV):=λρ=>(m ρ).bind λps ρ1=>.ok (mD 0 ps) ρ1
def HB{K:KK}{c:Ctx}{F H:Hp}{σ:L2.St}{ρ:Ş}{T:Addr}{p q:PV}{x y:V}(rel:Rel K c F H σ ρ)(hT:H T=none)(r1:Rep K F p x)(r2:Rep K F q y):Rel K c (upd F T (.tup [x,y])) (upd H T (.tup [x,y])) σ ρ/\Rep K (upd F T (.tup [x,y])) (.tup [p,q]) (.ref T):=by
 have hF:=rel.sub.free hT
 refine⟨rel.alloc hT,?_⟩
 unfold Rep
 exact⟨T,[x,y],rfl,iH.of ĭ,Ħ.cons (Rep.same (Same.upd hF) p x r1) (Ħ.cons (Rep.same (Same.upd hF) q y r2) Ħ.nil)⟩
def Jy{K:KK}{L F:Hp}{a:Addr}{ps:List PV}(h:jM K L F (Itl K.K a) ps):jM K L F (Ite K.K a) (mD 0 ps):=by
 intro c i F2 H σ ρ rel sF sL
 obtain⟨g,st⟩:=h c i F2 H σ ρ rel sF sL
 refine⟨λp hp=>?_,λhi=>st (by rw[hi,vD])⟩
 rw[vG] at hp
 cases eq:ps[i]? with
 |none=>rw[eq] at hp;cases hp
 |some q=>
  rw[eq] at hp
  have hp':PV.tup [.int ((0+i:Nat):Int),q]=p:=Option.some.inj hp
  subst hp'
  obtain⟨⟨xs,x,hq,hx⟩,g2⟩:=g q eq
  refine⟨⟨xs,x,hq,hx⟩,λy H' ⟨x',T,h1,hT,ey,eH⟩=>?_⟩
  subst ey eH
  obtain⟨F3,nH,s3,_,rp⟩:=g2 x' H ⟨rfl,h1⟩
  obtain⟨r1,r2⟩:=HB (p:=.int i) (x:=.int i) nH hT (by unfold Rep;rfl) rp
  refine⟨_,r1,s3.trans (Same.upd (nH.sub.free hT)),Same.upd hT,?_⟩
  rw[Nat.zero_add]
  exact r2
def Dv{elts:List Expr}{k:Nat}{tp p pos:Pos}{mi:M (List PV)}(hg:Gl X "enumerate")(hm:X.mg "enumerate" =none)(hl:PE X e (tG (kk X cm) E (rLs (kk X cm)) mi))(hs:starEach [e] X.env=[(false,eval e X.env)]:=by exact ĸ rfl) :
 PI X (.Tuple elts k tp) (.Call (.Name "enumerate" p) [e] [] pos) (tI (kk X cm) E (Ax mi)):=λpins s σ H R I h=>SN hg hm (fH hl mQ hs) hs pins s σ H R I (by
 obtain⟨c,F,ρ,rel,h⟩:=h
 refine⟨c,F,ρ,rel,h.bind λps ρ1 v F1 H1 Ġ s1 s2 q h1=>?_⟩
 obtain⟨a,e1,e2,e3⟩:=q
 subst e1
 exact⟨a,rfl,e2,h1 _ F1 H1 Ġ (Same.refl _) (Same.refl _) (Jy e3)⟩)
def Dw(i:Nat)(mo:M RV):M Fl:=λρ=>match ρ[i]? with
 |some (.ow _)=>(mo ρ).bind λr ρ1=>match ρ1[i]?,r with
  |some (.ow ps),.ow qs=>if ps.length+qs.length<=16777216 then .ok .nx (ρ1.set i (.ow (ps++qs))) else .bad
  |_,_=>.bad
 |_=>.bad
def HD{i:Nat}{mo:M RV}{D:Ends}{σ:L2.St}{H:Hp}(h:tS (kk X cm) E (Dw i mo) D σ H):J_ (tBM X.K "list" GF (wD i) (Ud (tO (kk X cm) E mo) ZdG)) D σ H:=by
 obtain⟨c,F,ρ,rel,h⟩:=h
 unfold Dw at h
 cases e1:ρ[i]? with
 |none=>rw[e1] at h;exact h.elim
 |some sl=>
  rw[e1] at h
  cases sl with
  |ow ps0=>
   obtain⟨a,vs0,z1,z2,z3,z4,z5,z6⟩:=rel.ow e1
   refine⟨.ref a,z1,.inl ⟨rfl,_,bD.of z2⟩,c,F,ρ,rel,?_⟩
   refine aB.bind h λr ρ1 v F1 H1 Ġ s1 q h1=>?_
   cases e2:ρ1[i]? with
   |none=>simp only[e2] at h1;exact h1.elim
   |some sl2=>
    simp only[e2] at h1
    cases sl2 with
    |ow ps=>
     cases r with
     |ow qs=>
      obtain⟨b,us,eb,hb1,hb2,hb3,hb4,hb5⟩:=q
      subst eb
      obtain⟨a2,vs,w1,w2,w3,w4,w5,w6⟩:=Ġ.ow e2
      rw[z1] at w1
      cases w1
      dsimp only at h1
      split at h1
      ·rename_i hz
       refine⟨a,b,vs,us,rfl,rfl,w2,hb1,by rw[<-w5.length,<-hb5.length,Ś];exact hz,h1 σ F1 _ (Ġ.write w6 z1 ⟨a,vs++us,rfl,ĭ,w3,w4,Ħ.append w5 hb5⟩ λ_ z=>(V.ref.inj z).symm) (Same.refl _)⟩
      ·exact h1.elim
     |_=>exact h1.elim
    |_=>exact h1.elim
  |_=>exact h.elim
@[simp] theorem Zg9{i:Nat}{mo:M RV}{ρ:Ş}:Dw i mo ρ=(match ρ[i]? with
  |some (.ow _)=>(mo ρ).bind λr ρ1=>match ρ1[i]?,r with
   |some (.ow ps),.ow qs=>if ps.length+qs.length<=16777216 then .ok .nx (ρ1.set i (.ow (ps++qs))) else .bad
   |_,_=>.bad
  |_=>.bad):=rfl
@[simp] theorem ZfF{mi:M (List PV)}{ρ:Ş}:Ax mi ρ=(mi ρ).bind λps ρ1=>.ok (mD 0 ps) ρ1:=rfl
@[simp] theorem Zg_{i:Nat}{ρ:Ş}:Jx i ρ=(match ρ[i]? with
  |some (.bw ps)=>.ok ps ρ
  |some (.sh (.lst ps))=>.ok ps ρ
  |some (.ow ps)=>.ok ps (ρ.set i (.sh (.lst ps)))
  |_=>.bad):=rfl
@[simp] theorem Zha{i:Nat}{ρ:Ş}:Nh i ρ=(match ρ[i]? with
  |some (.bw ps)=>.ok ps ρ
  |some (.sh (.lst ps))=>.ok ps ρ
  |some (.sh (.tup ps))=>.ok ps ρ
  |some (.ow ps)=>.ok ps (ρ.set i (.sh (.lst ps)))
  |_=>.bad):=rfl
end
end P
namespace P
open PySem PySem.Spec PyProof.Rows L2 M2 M3 M4
def Zep{X:Cx}:PIp X .BitOr (ipI λi j=>Builtin.bitOr i j):=by
 intro pins s σ H x y v u Q I r1 r2 h
 obtain⟨i,j,e1,e2,q⟩:=h
 subst e1;subst e2
 obtain⟨t,rfl⟩:=r1
 obtain⟨t',rfl⟩:=r2
 exact ior_int ⟨.int _,H,I.tok _,⟨_,rfl⟩,q⟩
def sO(i:Nat)(m:M PV):M Fl:=λρ=>match ρ[i]? with
 |some (.sh (.int _))=>(m ρ).bind λq ρ1=>match ρ1[i]?,q with
  |some (.sh (.int k)),.int j=>.ok .nx (ρ1.set i (.sh (.int (Builtin.bitOr k j))))
  |_,_=>.bad
 |_=>.bad
@[simp] theorem ZfG{i:Nat}{m:M PV}{ρ:Ş}:sO i m ρ=(match ρ[i]? with
  |some (.sh (.int _))=>(m ρ).bind λq ρ1=>match ρ1[i]?,q with
   |some (.sh (.int k)),.int j=>.ok .nx (ρ1.set i (.sh (.int (Builtin.bitOr k j))))
   |_,_=>.bad
  |_=>.bad):=rfl
section
variable{X:Cx}{cm:String->Addr}{E:L2.St->XK}{e a b:Expr}{m ma mb:M PV}{pos:Pos}
def xR{K:KK}{F:Hp}{i:Int}{v:V}(h:Rep K F (.int i) v):v=.int i:=by unfold Rep at h;exact h
def xT{i:Nat}{x:Str}{pos':Pos}(hN:X.N.Nodup)(hi:X.N[i]?=some x)(hx:Loc X.env.scope x)(he:PE X e (tV (kk X cm) E m))(hf:X.fn x=true\/X.env.scope.names.lookup x=some .local:=by first|exact .inl rfl|exact .inr rfl|assumption) :
 PS X (.AugAssign (.Name x pos') .BitOr e pos) (tS (kk X cm) E (sO i m)):=PS.wk (Za2 hN hi hx he Zep hf) λD σ H ⟨c,F,ρ,rel,h⟩=>by
 unfold sO at h
 cases e1:ρ[i]? with
 |none=>rw[e1] at h;exact h.elim
 |some sl=>
  rw[e1] at h
  cases sl with
  |sh p=>
   cases p with
   |int k0=>
    obtain⟨v,h1,h2⟩:=rel.slot i _ e1
    cases xR h2
    refine⟨.int k0,at_of h1,c,F,ρ,rel,aB.bind h λq ρ1 u F1 H1 Ġ s1 rq h1'=>?_⟩
    cases e2:ρ1[i]? with
    |none=>simp only[e2] at h1';exact h1'.elim
    |some sl2=>
     simp only[e2] at h1'
     cases sl2 with
     |sh p2=>
      cases p2 with
      |int k=>
       cases q with
       |int j=>
        obtain⟨v2,w1,w2⟩:=Ġ.slot i _ e2
        cases xR w2
        rw[h1] at w1
        cases w1
        cases xR rq
        exact⟨k0,j,rfl,rfl,h1' _ F1 H1 (Ġ.put rfl ⟨_,rfl,Rep.int⟩) (Same.refl _)⟩
       |_=>exact h1'.elim
      |_=>exact h1'.elim
     |_=>exact h1'.elim
   |_=>exact h.elim
  |_=>exact h.elim
end
section
variable{X:Cx}{K:KK}
end
end P
namespace P
open PySem PySem.Spec PyProof.Rows L2 M2 M3 M4
section
variable{prog:Program}{w:World}{A:Around}{E:Value->Shared->Prop}{s:Shared}
def nQ{it l:Addr}{i:Nat}{items}{x:Value}{Q:Value->Shared->Prop}(hit:s.heap.IsTupleIter it l i)
 (hl:s.heap.IsTuple l items)(hx:items[i]?=some x)
 (hQ:∀h',h'.IsTupleIter it l (i+1)->Heap.SameBut it s.heap h'->Q x {s with heap:=h'}) :
 wpAny (model prog w) A (Builtin.SmallTypes.nextOf (.ref it)) Q E s:=by
 obtain⟨o,ho,hc,hd⟩:=id hit
 obtain⟨ol,hol,_,nl,hdl⟩:=hl
 unfold Builtin.SmallTypes.nextOf
 refine wpAny_bind (wpAny_callSpecial?_slot (name:=Str.ofString "__next__") hit.typeIs F.slot_tuple_iterator_next
  (wpAny_call_entry F.slot_tuple_iterator_next hit.typeIs F.entry_tuple_iterator_next ?_ (F.args_tuple_iterator_next_1 _)))
 show wpAny _ _ (field (.ref it) 0 >>= _) _ _ s
 refine wpAny_bind (wpAny_field ho hd (x:=.ref l) rfl ?_)
 show wpAny _ _ (if(Value.ref l== Value.none)=true then _ else _) _ _ s
 rw[if_neg (show ¬((Value.ref l== Value.none)=true) from Bool.false_ne_true)]
 show wpAny _ _ (field (.ref it) 1 >>= _) _ _ s
 refine wpAny_bind (wpAny_field ho hd (x:=.int i 0) rfl ?_)
 show wpAny _ _ (seqItems? (.ref l) >>= _) _ _ s
 refine wpAny_bind (wpAny_seqItems hol hdl ?_)
 simp only[Int.toNat_natCast,hx]
 refine wpAny_bind (wpAny_setField ho hd (by simp) (wpAny_pure ⟨x,rfl,wpAny_pure (hQ _ ?_ (Heap.SameBut.update ..))⟩))
 exact⟨_,Heap.get?_update_self _ ho (Obj.isFreed_of_fields (Obj.data_mapFields hd _)),(Obj.cls_mapFields ..).trans hc,by
  rw[Obj.data_mapFields hd];simp[rawInt]⟩
def pA{it l:Addr}{i:Nat}{items}{Q:Value->Shared->Prop}(hh:A.handled=none)
 (hit:s.heap.IsTupleIter it l i)(hl:s.heap.IsTuple l items)(hx:items[i]?=none)
 (hE:∀h' e,Heap.ExtBut it s.heap h'->(∃o,h'.get? e=some o/\o.cls=.type "StopIteration")->E (.ref e) {s with heap:=h'}) :
 wpAny (model prog w) A (Builtin.SmallTypes.nextOf (.ref it)) Q E s:=by
 obtain⟨o,ho,hc,hd⟩:=id hit
 obtain⟨ol,hol,_,nl,hdl⟩:=hl
 unfold Builtin.SmallTypes.nextOf
 refine wpAny_bind (wpAny_callSpecial?_slot (name:=Str.ofString "__next__") hit.typeIs F.slot_tuple_iterator_next
  (wpAny_call_entry F.slot_tuple_iterator_next hit.typeIs F.entry_tuple_iterator_next ?_ (F.args_tuple_iterator_next_1 _)))
 show wpAny _ _ (field (.ref it) 0 >>= _) _ _ s
 refine wpAny_bind (wpAny_field ho hd (x:=.ref l) rfl ?_)
 show wpAny _ _ (if(Value.ref l== Value.none)=true then _ else _) _ _ s
 rw[if_neg (show ¬((Value.ref l== Value.none)=true) from Bool.false_ne_true)]
 show wpAny _ _ (field (.ref it) 1 >>= _) _ _ s
 refine wpAny_bind (wpAny_field ho hd (x:=.int i 0) rfl ?_)
 show wpAny _ _ (seqItems? (.ref l) >>= _) _ _ s
 refine wpAny_bind (wpAny_seqItems hol hdl ?_)
 simp only[Int.toNat_natCast,hx]
 refine wpAny_bind (wpAny_rule (wpAny_bind (wpAny_setField ho hd (by simp) ?_)))
 show wpAny _ _ (newExc (.type "StopIteration") [] >>= _) _ _ _
 refine wpAny_bind ?_
 simp only[newExc,newTuple]
 refine wpAny_bind (wpAny_newObj_type ?_ (by size_fits))
 refine wpAny_bind (m:=firstArgMember _ _) (wpAny_of_eq (a:=Value.none) (by first|rfl|(simp only[firstArgMember];rfl)) ?_)
 refine wpAny_newObj_type ?_ (by size_fits)
 simp only[raiseNew]
 refine wpAny_bind (wpAny_handled ?_)
 first|rw[show A.in1.handled=none from hh]|rw[hh]
 refine wpAny_bind (wpAny_pure (wpAny_throw ?_))
 exact hE _ _ (((Heap.SameBut.update ..).extBut.push _).push _) ⟨_,Heap.get?_push_size _ rfl,rfl⟩
end
def Ay{prog:Program}{w:World}{A:Around}(hh:A.handled=none)(it l:Addr)(hne:l≠it)(items:Array Value) :
 Draws prog w A it [it,l] items.size (λi v=>items[i]?=some v) (λi h=>h.IsTupleIter it l i/\h.IsTuple l items) where
 live:=λ_ _ st=>let ⟨o,ho,_⟩:=st.1;⟨o,ho⟩
 frame:=λ_ _ _ st hk=>⟨let ⟨o,ho,r⟩:=st.1;⟨o,hk it (by simp) o ho,r⟩,let ⟨o,ho,r⟩:=st.2;⟨o,hk l (by simp) o ho,r⟩⟩
 item:=λi s Q E hi st hQ=>by
  refine nQ st.1 st.2 (x:=items[i]) (by simp[hi]) λh' hit' hs'=>?_
  exact hQ _ h' s.toks (by simp[hi]) ⟨hit',st.2.extBut hs'.extBut hne⟩ hs'
 done:=λs Q E st hE=>pA hh st.1 st.2 (by simp) hE
structure ZAp(z TI TO i1 i2:Addr)(f1 f2:List Addr):Prop where
 TIz:TI≠z
 TOz:TO≠z
 i1z:i1≠z
 i2z:i2≠z
 TITO:TI≠TO
 TIi1:TI≠i1
 TIi2:TI≠i2
 TOi1:TO≠i1
 TOi2:TO≠i2
 i12:i1≠i2
 z1:z∉f1
 z2:z∉f2
 t1:TO∉f1
 t2:TO∉f2
 a1:i1∉f2
 a2:i2∉f1
section
variable{prog:Program}{w:World}{A:Around}{E:Value->Shared->Prop}{s:Shared}
def sS{z TI TO i1 i2:Addr}{f1 f2:List Addr}{n1 n2 k1 k2:Nat}{P1 P2:Nat->Value->Prop}{S1 S2:Nat->Heap->Prop}{a b:Value}{Q:Value->Shared->Prop}(D:ZAp z TI TO i1 i2 f1 f2)
 (D1:Draws prog w A i1 f1 n1 P1 S1)(D2:Draws prog w A i2 f2 n2 P2 S2)
 (hz:IsZip s.heap z TI TO .none)(hTI:IsPair s.heap TI (.ref i1) (.ref i2))(hTO:IsPair s.heap TO a b)(h1:S1 k1 s.heap)(h2:S2 k2 s.heap)(hk1:k1<n1)(hk2:k2<n2)
 (hQ:∀x y h' tk,P1 k1 x→P2 k2 y→IsZip h' z TI TO (rawInt s.heap.objs.size)→IsPair h' TO x y→S1 (k1+1) h'→S2 (k2+1) h'→IsPair h' s.heap.objs.size x y→h'.objs.size=s.heap.objs.size+1→
   (∀c o,c≠z->c≠TO->c≠i1->c≠i2->s.heap.get? c=some o->h'.get? c=some o)->Q (.ref s.heap.objs.size) {s with heap:=h',toks:=tk}) :
 wpAny (model prog w) A (Builtin.«zip.__next__» ⟨[.ref z],[]⟩) (λfin s'=>∃v,fin=.done (.ret v)/\Q v s') E s:=by
 have Uz:∀{b},b∈f1->b≠z/\b≠TO/\b≠i2:=λhb=>⟨λe=>D.z1 (e▸hb),λe=>D.t1 (e▸hb),λe=>D.a2 (e▸hb)⟩
 have SQ:∀{b},b∈f2->b≠z/\b≠TO/\b≠i1:=λhb=>⟨λe=>D.z2 (e▸hb),λe=>D.t2 (e▸hb),λe=>D.a1 (e▸hb)⟩
 obtain⟨hp,g,d,tk0,os⟩:=s
 show wpAny _ _ (field (.ref z) 2 >>= _) _ _ _
 refine wpAny_bind (wpAny_field hz rfl (x:=.bool false) rfl ?_)
 show wpAny _ _ (field (.ref z) 3 >>= _) _ _ _
 refine wpAny_bind (wpAny_field hz rfl (x:=.ref TI) rfl ?_)
 refine wpAny_bind (wpAny_seqItems hTI rfl ?_)
 show wpAny _ _ (Builtin.SmallTypes.ownedTupleIsFree (.ref z) >>= _) _ _ _
 refine wpAny_bind ?_
 unfold Builtin.SmallTypes.ownedTupleIsFree
 refine wpAny_bind (wpAny_field hz rfl (x:=.none) rfl (wpAny_pure ?_))
 simp only[if_true]
 refine wpAny_bind (wpAny_rule ?_)
 refine wpAny_bind (wpAny_field hz rfl (x:=.ref TO) rfl ?_)
 refine wpAny_bind (wpAny_setField_rec hz (by simp) λh₁ hz₁ hs₁=>?_)
 replace hs₁:Heap.SameBut z hp h₁:= hs₁
 replace hz₁:IsZip h₁ z TI TO .ellipsis:=hz₁
 refine wpAny_bind ?_
 simp only[List.zipIdx_cons,List.zipIdx_nil,List.forIn_cons,List.forIn_nil]
 refine wpAny_bind (wpAny_bind (wpAny_onRaise ?_))
 show wpAny _ _ (Builtin.SmallTypes.nextOf (.ref i1) >>= _) _ _ _
 refine wpAny_bind (D1.item k1 _ _ _ hk1 (D1.frame _ _ _ h1 λb hb o e=>hs₁.extBut b o (Uz hb).1 e) λx h₂ tk hPx h1₂ hs₂=>wpAny_pure ?_)
 replace hs₂:Heap.SameBut i1 h₁ h₂:= hs₂
 have hTO₂:IsPair h₂ TO a b:=hs₂.extBut _ _ D.TOi1 (hs₁.extBut _ _ D.TOz hTO)
 refine wpAny_bind (wpAny_seqItems hTO₂ rfl ?_)
 refine wpAny_bind (wpAny_updateSeq_pair hTO₂ λh₃ hTO₃ hs₃=>?_)
 replace hs₃:Heap.SameBut TO h₂ h₃:= hs₃
 replace hTO₃:IsPair h₃ TO x b:=hTO₃
 refine wpAny_bind (wpAny_letGo (wpAny_pure ?_))
 refine wpAny_bind (wpAny_bind (wpAny_onRaise ?_))
 show wpAny _ _ (Builtin.SmallTypes.nextOf (.ref i2) >>= _) _ _ _
 refine wpAny_bind (D2.item k2 _ _ _ hk2 (D2.frame _ _ _ h2 λb hb o e=>hs₃.extBut b o (SQ hb).2.1 (hs₂.extBut b o (SQ hb).2.2 (hs₁.extBut b o (SQ hb).1 e))) λy h₄ tk' hPy h2₄ hs₄=>wpAny_pure ?_)
 replace hs₄:Heap.SameBut i2 h₃ h₄:= hs₄
 have hTO₄:IsPair h₄ TO x b:=hs₄.extBut _ _ D.TOi2 hTO₃
 refine wpAny_bind (wpAny_seqItems hTO₄ rfl ?_)
 refine wpAny_bind (wpAny_updateSeq_pair hTO₄ λh₅ hTO₅ hs₅=>?_)
 replace hs₅:Heap.SameBut TO h₄ h₅:= hs₅
 replace hTO₅:IsPair h₅ TO x y:=hTO₅
 refine wpAny_bind (wpAny_letGo (wpAny_pure (wpAny_pure ?_)))
 refine wpAny_bind (wpAny_seqItems hTO₅ rfl ?_)
 refine wpAny_bind (wpAny_newTuple ?_)
 have hsz:h₅.objs.size=hp.objs.size:=by rw[hs₅.1,hs₄.1,hs₃.1,hs₂.1,hs₁.1]
 have hz₅:IsZip h₅ z TI TO .ellipsis:=hs₅.extBut _ _ D.TOz.symm (hs₄.extBut _ _ D.i2z.symm (hs₃.extBut _ _ D.TOz.symm (hs₂.extBut _ _ D.i1z.symm hz₁)))
 have hk₅:∀c o,c≠z->c≠TO->c≠i1->c≠i2->hp.get? c=some o->h₅.get? c=some o:=λc o c1 c2 c3 c4 e=>
  hs₅.extBut _ _ c2 (hs₄.extBut _ _ c4 (hs₃.extBut _ _ c2 (hs₂.extBut _ _ c3 (hs₁.extBut _ _ c1 e))))
 have h1₅:S1 (k1+1) h₅:= D1.frame _ _ _ h1₂ λb hb o e=>hs₅.extBut b o (Uz hb).2.1 (hs₄.extBut b o (Uz hb).2.2 (hs₃.extBut b o (Uz hb).2.1 e))
 have h2₅:S2 (k2+1) h₅:= D2.frame _ _ _ h2₄ λb hb o e=>hs₅.extBut b o (SQ hb).2.1 e
 have hzlt:z<h₅.objs.size:=Heap.lt_size hz₅
 show wpAny _ _ (Builtin.SmallTypes.ownedTupleHandOut (.ref z) (.ref h₅.objs.size) >>= _) _ _ _
 refine wpAny_bind ?_
 unfold Builtin.SmallTypes.ownedTupleHandOut
 have hz₆:IsZip (h₅.push {cls:=.type "tuple",data:=.seq #[x,y]}) z TI TO .ellipsis:=Heap.get?_push_of_some _ hz₅
 refine wpAny_bind (wpAny_setField_rec hz₆ (by simp) λh₇ hz₇ hs₇=>?_)
 replace hz₇:IsZip h₇ z TI TO (rawInt h₅.objs.size):=hz₇
 refine wpAny_setField_rec hz₇ (by simp) λh₈ hz₈ hs₈=>?_
 replace hz₈:IsZip h₈ z TI TO (rawInt h₅.objs.size):=hz₈
 have up:∀c o,c≠z->h₅.get? c=some o->h₈.get? c=some o:=λc o c1 e=>hs₈.extBut _ _ c1 (hs₇.extBut _ _ c1 (Heap.get?_push_of_some _ e))
 have hT₈:IsPair h₈ h₅.objs.size x y:=hs₈.extBut _ _ (Nat.ne_of_gt hzlt) (hs₇.extBut _ _ (Nat.ne_of_gt hzlt) (Heap.get?_push_size _ rfl))
 have hz8:h₈.objs.size=h₅.objs.size+1:=by rw[hs₈.1,hs₇.1,Heap.size_push]
 rw[hsz] at hz₈ hT₈ hz8
 refine wpAny_pure ⟨_,rfl,?_⟩
 show Q (.ref h₅.objs.size) _
 rw[hsz]
 exact hQ x y h₈ tk' hPx hPy hz₈ (up _ _ D.TOz hTO₅) (D1.frame _ _ _ h1₅ λb hb o e=>up b o (Uz hb).1 e) (D2.frame _ _ _ h2₅ λb hb o e=>up b o (SQ hb).1 e) hT₈ hz8 λc o c1 c2 c3 c4 e=>up c o c1 (hk₅ c o c1 c2 c3 c4 e)
def uM{z TI TO i1 i2:Addr}{f1 f2:List Addr}{n1 n2 k1 k2:Nat}{P1 P2:Nat->Value->Prop}{S1 S2:Nat->Heap->Prop}{a b:Value}{Q:Fin->Shared->Prop}(D:ZAp z TI TO i1 i2 f1 f2)
 (D1:Draws prog w A i1 f1 n1 P1 S1)(D2:Draws prog w A i2 f2 n2 P2 S2)
 (hz:IsZip s.heap z TI TO .none)(hTI:IsPair s.heap TI (.ref i1) (.ref i2))(hTO:IsPair s.heap TO a b)(h1:S1 k1 s.heap)(h2:S2 k2 s.heap)(hend:k1=n1\/(k1<n1/\k2=n2))
 (hE:∀h' e tk,(∀c o,c≠z->c≠TO->c≠i1->c≠i2->s.heap.get? c=some o->h'.get? c=some o)->(∃o,h'.get? e=some o/\o.cls=.type "StopIteration")->E (.ref e) {s with heap:=h',toks:=tk}) :
 wpAny (model prog w) A (Builtin.«zip.__next__» ⟨[.ref z],[]⟩) Q E s:=by
 have Uz:∀{b},b∈f1->b≠z/\b≠TO/\b≠i2:=λhb=>⟨λe=>D.z1 (e▸hb),λe=>D.t1 (e▸hb),λe=>D.a2 (e▸hb)⟩
 have SQ:∀{b},b∈f2->b≠z/\b≠TO/\b≠i1:=λhb=>⟨λe=>D.z2 (e▸hb),λe=>D.t2 (e▸hb),λe=>D.a1 (e▸hb)⟩
 obtain⟨hp,g,d,tk0,os⟩:=s
 show wpAny _ _ (field (.ref z) 2 >>= _) _ _ _
 refine wpAny_bind (wpAny_field hz rfl (x:=.bool false) rfl ?_)
 show wpAny _ _ (field (.ref z) 3 >>= _) _ _ _
 refine wpAny_bind (wpAny_field hz rfl (x:=.ref TI) rfl ?_)
 refine wpAny_bind (wpAny_seqItems hTI rfl ?_)
 show wpAny _ _ (Builtin.SmallTypes.ownedTupleIsFree (.ref z) >>= _) _ _ _
 refine wpAny_bind ?_
 unfold Builtin.SmallTypes.ownedTupleIsFree
 refine wpAny_bind (wpAny_field hz rfl (x:=.none) rfl (wpAny_pure ?_))
 simp only[if_true]
 refine wpAny_bind (wpAny_rule ?_)
 refine wpAny_bind (wpAny_field hz rfl (x:=.ref TO) rfl ?_)
 refine wpAny_bind (wpAny_setField_rec hz (by simp) λh₁ hz₁ hs₁=>?_)
 replace hs₁:Heap.SameBut z hp h₁:= hs₁
 replace hz₁:IsZip h₁ z TI TO .ellipsis:=hz₁
 refine wpAny_bind ?_
 simp only[List.zipIdx_cons,List.zipIdx_nil,List.forIn_cons,List.forIn_nil]
 refine wpAny_bind (wpAny_bind (wpAny_onRaise ?_))
 show wpAny _ _ (Builtin.SmallTypes.nextOf (.ref i1) >>= _) _ _ _
 rcases hend with rfl|⟨hk1,rfl⟩
 ·refine wpAny_bind (D1.done _ _ _ (D1.frame _ _ _ h1 λb hb o e=>hs₁.extBut b o (Uz hb).1 e) λh₂ e hs₂ he=>?_)
  obtain⟨oe,hoe,hce⟩:=he
  replace hs₂:Heap.ExtBut i1 h₁ h₂:= hs₂
  have hz₂:IsZip h₂ z TI TO .ellipsis:=hs₂ _ _ D.i1z.symm hz₁
  have hez:e≠z:=λx=>by subst x;rw[hz₂] at hoe;cases hoe;simp at hce
  exact wpAny_setField_rec hz₂ (by simp) λh₃ _ hs₃=>hE h₃ e tk0 (λc o c1 _ c3 _ x=>hs₃.extBut _ _ c1 (hs₂ _ _ c3 (hs₁.extBut _ _ c1 x))) ⟨oe,hs₃.extBut _ _ hez hoe,hce⟩
 ·refine wpAny_bind (D1.item k1 _ _ _ hk1 (D1.frame _ _ _ h1 λb hb o e=>hs₁.extBut b o (Uz hb).1 e) λx h₂ tk hPx h1₂ hs₂=>wpAny_pure ?_)
  replace hs₂:Heap.SameBut i1 h₁ h₂:= hs₂
  have hTO₂:IsPair h₂ TO a b:=hs₂.extBut _ _ D.TOi1 (hs₁.extBut _ _ D.TOz hTO)
  refine wpAny_bind (wpAny_seqItems hTO₂ rfl ?_)
  refine wpAny_bind (wpAny_updateSeq_pair hTO₂ λh₃ hTO₃ hs₃=>?_)
  replace hs₃:Heap.SameBut TO h₂ h₃:= hs₃
  refine wpAny_bind (wpAny_letGo (wpAny_pure ?_))
  refine wpAny_bind (wpAny_bind (wpAny_onRaise ?_))
  show wpAny _ _ (Builtin.SmallTypes.nextOf (.ref i2) >>= _) _ _ _
  refine wpAny_bind (D2.done _ _ _ (D2.frame _ _ _ h2 λb hb o e=>hs₃.extBut b o (SQ hb).2.1 (hs₂.extBut b o (SQ hb).2.2 (hs₁.extBut b o (SQ hb).1 e))) λh₄ e hs₄ he=>?_)
  obtain⟨oe,hoe,hce⟩:=he
  replace hs₄:Heap.ExtBut i2 h₃ h₄:= hs₄
  have hz₄:IsZip h₄ z TI TO .ellipsis:=hs₄ _ _ D.i2z.symm (hs₃.extBut _ _ D.TOz.symm (hs₂.extBut _ _ D.i1z.symm hz₁))
  have hez:e≠z:=λx=>by subst x;rw[hz₄] at hoe;cases hoe;simp at hce
  exact wpAny_setField_rec hz₄ (by simp) λh₅ _ hs₅=>hE h₅ e tk (λc o c1 c2 c3 c4 x=>hs₅.extBut _ _ c1 (hs₄ _ _ c4 (hs₃.extBut _ _ c2 (hs₂.extBut _ _ c3 (hs₁.extBut _ _ c1 x))))) ⟨oe,hs₅.extBut _ _ hez hoe,hce⟩
end
section
variable{prog:Program}{w:World}{A:Around}{E:Value->Shared->Prop}{s:Shared}
def pB{z TI TO i1 i2:Addr}{f1 f2:List Addr}{n1 n2 k1 k2:Nat}{P1 P2:Nat->Value->Prop}{S1 S2:Nat->Heap->Prop}{a b:Value}{Q:Option Value->Shared->Prop}(D:ZAp z TI TO i1 i2 f1 f2)
 (D1:Draws prog w A.in1 i1 f1 n1 P1 S1)(D2:Draws prog w A.in1 i2 f2 n2 P2 S2)
 (hz:IsZip s.heap z TI TO .none)(hTI:IsPair s.heap TI (.ref i1) (.ref i2))(hTO:IsPair s.heap TO a b)(h1:S1 k1 s.heap)(h2:S2 k2 s.heap)(hk1:k1<n1)(hk2:k2<n2)
 (hQ:∀x y h' tk,P1 k1 x→P2 k2 y→IsZip h' z TI TO (rawInt s.heap.objs.size)→IsPair h' TO x y→S1 (k1+1) h'→S2 (k2+1) h'→IsPair h' s.heap.objs.size x y→h'.objs.size=s.heap.objs.size+1→
   (∀c o,c≠z->c≠TO->c≠i1->c≠i2->s.heap.get? c=some o->h'.get? c=some o)->Q (some (.ref s.heap.objs.size)) {s with heap:=h',toks:=tk}) :
 wpAny (model prog w) A (pyNext (.ref z)) Q E s:=by
 have hT:s.TypeIs (.ref z) "zip" := ⟨_,hz,rfl⟩
 unfold pyNext
 exact wpAny_bind (wpAny_attempt (wpAny_callSpecial?_slot (name:=Str.ofString "__next__") hT F.slot_zip_next
  (wpAny_call_entry F.slot_zip_next hT F.entry_zip_next
    (sS D D1 D2 hz hTI hTO h1 h2 hk1 hk2 λx y h' tk a0 b0 a1 a2 a3 a4 a5 a6 a7=>wpAny_pure (hQ x y h' tk a0 b0 a1 a2 a3 a4 a5 a6 a7)) (F.args_zip_next_1 _))))
def qI{z TI TO i1 i2:Addr}{f1 f2:List Addr}{n1 n2 k1 k2:Nat}{P1 P2:Nat->Value->Prop}{S1 S2:Nat->Heap->Prop}{a b:Value}{Q:Option Value->Shared->Prop}(D:ZAp z TI TO i1 i2 f1 f2)
 (D1:Draws prog w A.in1 i1 f1 n1 P1 S1)(D2:Draws prog w A.in1 i2 f2 n2 P2 S2)
 (hz:IsZip s.heap z TI TO .none)(hTI:IsPair s.heap TI (.ref i1) (.ref i2))(hTO:IsPair s.heap TO a b)(h1:S1 k1 s.heap)(h2:S2 k2 s.heap)(hend:k1=n1\/(k1<n1/\k2=n2))
 (hQ:∀h' tk,(∀c o,c≠z->c≠TO->c≠i1->c≠i2->s.heap.get? c=some o->h'.get? c=some o)->Q none {s with heap:=h',toks:=tk}):wpAny (model prog w) A (pyNext (.ref z)) Q E s:=by
 have hT:s.TypeIs (.ref z) "zip" := ⟨_,hz,rfl⟩
 unfold pyNext
 refine wpAny_bind (wpAny_attempt (wpAny_callSpecial?_slot (name:=Str.ofString "__next__") hT F.slot_zip_next
  (wpAny_call_entry F.slot_zip_next hT F.entry_zip_next (uM D D1 D2 hz hTI hTO h1 h2 hend λh' e tk hk he=>?_) (F.args_zip_next_1 _))))
 obtain⟨o,ho,hc⟩:=he
 refine wpAny_bind (wpAny_isInstance (T:= "StopIteration") (b:=true) ⟨o,ho,hc⟩ isSubtype_stop ?_)
 exact wpAny_pure (hQ _ _ hk)
end
def uw(K:PySem.W.Frag)(b:Bool)(H:Hp)(a:Addr)(xs:List V):Prop:=if b=true then iH K H a xs else bD K H a xs
def jC(b:Bool)(h:Heap)(it l:Addr)(i:Nat):Prop:=if b=true then h.IsTupleIter it l i else h.IsListIter it l i
def Jz(b:Bool)(h:Heap)(l:Addr)(its:Array Value):Prop:=if b=true then h.IsTuple l its else h.IsList l its
def nmB(b:Bool):String:=if b=true then "tuple_iterator" else "list_iterator"
def q_{prog:Program}{w:World}{A:Around}(b:Bool)(hh:A.handled=none)(it l:Addr)(hne:l≠it)(items:Array Value) :
 Draws prog w A it [it,l] items.size (λi v=>items[i]?=some v) (λi h=>jC b h it l i/\Jz b h l items):=by
 cases b with
 |true=>exact Ay hh it l hne items
 |false=>exact Draws.list hh it l hne items
def jC.ex{b:Bool}{h:Heap}{it l:Addr}{i:Nat}(x:jC b h it l i):∃o,h.get? it=some o/\o.cls=.type (nmB b)/\o.data=.fields #[.ref l,.int i 0]:=by
 cases b with
 |true=>exact x
 |false=>exact x
def jC.of{b:Bool}{h:Heap}{it l:Addr}{i:Nat}{o:Obj}(h1:h.get? it=some o)(h2:o.cls=.type (nmB b))(h3:o.data=.fields #[.ref l,.int i 0]):jC b h it l i:=by
 cases b with
 |true=>exact⟨o,h1,h2,h3⟩
 |false=>exact⟨o,h1,h2,h3⟩
def jC.keep{b:Bool}{h h':Heap}{it l:Addr}{i:Nat}(x:jC b h it l i)(k:∀o,h.get? it=some o->h'.get? it=some o):jC b h' it l i:=by
 obtain⟨o,h1,h2,h3⟩:=x.ex
 exact .of (k o h1) h2 h3
def SX(K:PySem.W.Frag)(b:Bool)(H:Hp)(l:Addr)(i:Nat)(xs:List V):Prop:=xs.length<=i/\∀j,j<i->∃ys y,uw K b H l ys/\ys[j]?=some y
def Itz(K:PySem.W.Frag)(b1 b2:Bool)(l1 l2:Addr):It:=
 ⟨λi H=>(∃xs x,uw K b1 H l1 xs/\xs[i]?=some x)/\∃ys y,uw K b2 H l2 ys/\ys[i]?=some y,
  λi H z H'=>∃x y T,(∀xs,uw K b1 H l1 xs->xs[i]?=some x)/\(∀ys,uw K b2 H l2 ys->ys[i]?=some y)/\H T=none/\z=.ref T/\H'=upd H T (.tup [x,y]),
  λi H=>(∃xs,uw K b1 H l1 xs)/\(∃ys,uw K b2 H l2 ys)/\((∃xs,uw K b1 H l1 xs/\SX K b1 H l1 i xs)\/((∃xs x,uw K b1 H l1 xs/\xs[i]?=some x)/\∃ys,uw K b2 H l2 ys/\SX K b2 H l2 i ys))⟩
section
variable{X:Cx}{pins:List (Addr×Obj)}{σ:L2.St}{H:Hp}{s:Shared}
def vH{b:Bool}{a:Addr}{xs:List V}(I:Inv X pins σ H s)(h:uw X.K b H a xs):∃its:List Value,Vals xs its/\Jz b s.heap a its.toArray/\xs.length<=sizeLine:=by
 cases b with
 |true=>
  obtain⟨its,r,p,z⟩:=I.tuple h
  exact⟨its,r,p,z⟩
 |false=>
  obtain⟨its,r,p,z⟩:=I.list h
  exact⟨its,r,p.isList,z⟩
def vI{b:Bool}{a:Addr}{xs ys:List V}(I:Inv X pins σ H s)(h:uw X.K b H a xs)(h':uw X.K b H a ys):xs=ys:=by
 cases b with
 |true=>exact I.uQ h h'
 |false=>exact I.rE h h'
def UG{b:Bool}{l:Addr}{i:Nat}{xs:List V}(I:Inv X pins σ H s)(h:uw X.K b H l xs)(q:SX X.K b H l i xs):xs.length=i:=by
 obtain⟨h1,h2⟩:=q
 refine Nat.le_antisymm h1 ?_
 cases i with
 |zero=>omega
 |succ i=>
  obtain⟨ys,y,e1,e2⟩:=h2 i (by omega)
  rw[vI I e1 h] at e2
  have:=(List.getElem?_eq_some_iff.mp e2).1
  omega
def HF{bb:Bool}{a b:Addr}{xs:List V}(I:Inv X pins σ H s)(f:dZ X pins H b)(h:uw X.K bb H a xs):a≠b:=by
 intro e
 subst e
 have hk:∀o,X.K.lookup a=some o->False:=λo e=>by
  have hb:=I.ok.mod.kin a o e
  rcases f.2.2.2.1 with z|z
  ·exact I.ok.IK a o hb z
  ·exact absurd (Nat.lt_of_lt_of_le (Heap.lt_size (I.ok.bs a o hb).1) z) (Nat.lt_irrefl _)
 have hr:∀u,Rd H a u->False:=λu r=>by
  rcases r with r|⟨o,r⟩<;>(rw[f.1] at r;cases r)
 cases bb with
 |true=>
  have h':iH X.K H a xs:=h
  rcases h' with q|⟨o,_,_,q,_⟩
  ·exact hr _ q
  ·exact hk o q
 |false=>
  have h':bD X.K H a xs:=h
  rcases h' with q|⟨o,_,_,q,_⟩
  ·exact hr _ q
  ·exact hk o q
end
def Nj{P:Program}{w:World}{K:PySem.W.Frag}{elts:List Expr}{k:Nat}{pos:Pos}(b1 b2:Bool)(l1 l2 z TI TO i1 i2:Addr)(nd:[z,TI,TO,i1,i2].Nodup) :
 Turn P w K (.Tuple elts k pos) (Itz K b1 b2 l1 l2) [z,TI,TO,i1,i2] z (λi h=>IsZip h z TI TO .none/\IsPair h TI (.ref i1) (.ref i2)/\(∃a b,IsPair h TO a b)/\jC b1 h i1 l1 i/\jC b2 h i2 l2 i) where
 mem:=by simp
 obj:=λi h st b hb=>by
  obtain⟨hz,hTI,⟨x,y,hTO⟩,h1,h2⟩:=st
  simp only[List.mem_cons,List.not_mem_nil,or_false] at hb
  rcases hb with rfl|rfl|rfl|rfl|rfl
  ·exact⟨_,hz,λv z=>by have z':Data.fields _=Data.cell v:=z;cases z'⟩
  ·exact⟨_,hTI,λv z=>by have z':Data.seq _ _=Data.cell v:=z;cases z'⟩
  ·exact⟨_,hTO,λv z=>by have z':Data.seq _ _=Data.cell v:=z;cases z'⟩
  ·obtain⟨o,e1,c,d⟩:=h1.ex
   exact⟨o,e1,λv z=>by rw[d] at z;cases z⟩
  ·obtain⟨o,e1,c,d⟩:=h2.ex
   exact⟨o,e1,λv z=>by rw[d] at z;cases z⟩
 keep:=λi h h' st k=>by
  obtain⟨hz,hTI,⟨x,y,hTO⟩,h1,h2⟩:=st
  exact⟨k z (by simp) _ hz,k TI (by simp) _ hTI,⟨x,y,k TO (by simp) _ hTO⟩,h1.keep λo q=>k i1 (by simp) o q,h2.keep λo q=>k i2 (by simp) o q⟩
 item:=by
  intro X hP hw hK hc i pins s σ H E I hf st hg
  subst hP hw hK
  obtain⟨hz,hTI,⟨a,b,hTO⟩,h1,h2⟩:=st
  obtain⟨⟨xs,x,hq1,hx⟩,ys,y,hq2,hy⟩:=hg
  obtain⟨Dz,rv1,p1,_⟩:=vH I hq1
  obtain⟨its2,rv2,p2,_⟩:=vH I hq2
  obtain⟨u1,hu1,ru1⟩:=rv1.get hx
  obtain⟨u2,hu2,ru2⟩:=rv2.get hy
  have ne1:∀b∈[z,TI,TO,i1,i2],l1≠b:=λb hb=>HF I (hf b hb) hq1
  have ne2:∀b∈[z,TI,TO,i1,i2],l2≠b:=λb hb=>HF I (hf b hb) hq2
  have hh:X.A.in1.handled=none:=I.ok.hd hc
  simp only[List.nodup_cons,List.mem_cons,List.not_mem_nil,or_false,not_or,List.nodup_nil,not_false_eq_true,and_true] at nd
  obtain⟨⟨n1,n2,n3,n4⟩,⟨n5,n6,n7⟩,⟨n8,n9⟩,n10⟩:=nd
  have D:ZAp z TI TO i1 i2 [i1,l1] [i2,l2]:=by
   refine⟨Ne.symm n1,Ne.symm n2,Ne.symm n3,Ne.symm n4,n5,n6,n7,n8,n9,n10,?_,?_,?_,?_,?_,?_⟩<;>simp only[List.mem_cons,List.not_mem_nil,or_false,not_or]
   ·exact⟨n3,(ne1 z (by simp)).symm⟩
   ·exact⟨n4,(ne2 z (by simp)).symm⟩
   ·exact⟨n8,(ne1 TO (by simp)).symm⟩
   ·exact⟨n9,(ne2 TO (by simp)).symm⟩
   ·exact⟨n10,(ne2 i1 (by simp)).symm⟩
   ·exact⟨Ne.symm n10,(ne1 i2 (by simp)).symm⟩
  have lt1:i<Dz.toArray.size:=by
   rw[List.size_toArray]
   exact(List.getElem?_eq_some_iff.mp hu1).1
  have K_:i<its2.toArray.size:=by
   rw[List.size_toArray]
   exact(List.getElem?_eq_some_iff.mp hu2).1
  have hlt:∀b∈[z,TI,TO,i1,i2],b<s.heap.objs.size:=λb hb=>by
   simp only[List.mem_cons,List.not_mem_nil,or_false] at hb
   rcases hb with rfl|rfl|rfl|rfl|rfl
   ·exact Heap.lt_size hz
   ·exact Heap.lt_size hTI
   ·exact Heap.lt_size hTO
   ·obtain⟨o,e1,_⟩:=h1.ex;exact Heap.lt_size e1
   ·obtain⟨o,e1,_⟩:=h2.ex;exact Heap.lt_size e1
  refine pB D (q_ (A:=X.A.in1) b1 hh i1 l1 (ne1 i1 (by simp)) Dz.toArray) (q_ (A:=X.A.in1) b2 hh i2 l2 (ne2 i2 (by simp)) its2.toArray) hz hTI hTO ⟨h1,p1⟩ ⟨h2,p2⟩ lt1 K_ λx' y' h' tk hPx hPy hz' Zhb s1 s2 hT hsz hk=>?_
  have ex:x'=u1:=by
   have:Dz.toArray[i]?=some x':=hPx
   rw[show Dz.toArray[i]?=some u1 by simpa using hu1] at this
   exact(Option.some.inj this).symm
  have ey:y'=u2:=by
   have:its2.toArray[i]?=some y':=hPy
   rw[show its2.toArray[i]?=some u2 by simpa using hu2] at this
   exact(Option.some.inj this).symm
  subst ex ey
  refine⟨.ref s.heap.objs.size,rfl,wpAny_letOwnedTupleGo_zip hz' λh'' hz'' hs'=>?_⟩
  have hs2:Heap.SameBut z h' h'':=hs'
  have I2:=sJ (fp:=[z,TI,TO,i1,i2]) (h':=h'') (t':=tk) I ru1 ru2 ⟨_,(hs2.2 _ (Nat.ne_of_gt (hlt z (by simp)))).trans hT,rfl⟩ (λb o hb q=>by
   have hne:∀c∈[z,TI,TO,i1,i2],b≠c:=λc hc e=>hb (e▸hc)
   exact(hs2.2 b (hne z (by simp))).trans (hk b o (hne z (by simp)) (hne TO (by simp)) (hne i1 (by simp)) (hne i2 (by simp)) q)) hf hlt
  refine⟨.ref s.heap.objs.size,_,I2,rfl,⟨x,y,s.heap.objs.size,λzs hzs=>by rw[vI I hzs hq1];exact hx,λzs hzs=>by rw[vI I hzs hq2];exact hy,I.fresh,rfl,rfl⟩,
   ⟨hz'',(hs2.2 TI (Ne.symm n1)).trans (hk TI _ (Ne.symm n1) n5 n6 n7 hTI),⟨_,_,(hs2.2 TO (Ne.symm n2)).trans Zhb⟩,s1.1.keep λo q=>(hs2.2 i1 (Ne.symm n3)).trans q,s2.1.keep λo q=>(hs2.2 i2 (Ne.symm n4)).trans q⟩,λb hb=>?_⟩
  rw[ě (Nat.ne_of_lt (hlt b hb))];exact(hf b hb).1
 done:=by
  intro X hP hw hK hc i pins s σ H E I hf st hg
  subst hP hw hK
  obtain⟨hz,hTI,⟨a,b,hTO⟩,h1,h2⟩:=st
  obtain⟨⟨xs,hq1⟩,⟨ys,hq2⟩,hend'⟩:=hg
  have hend:xs.length=i\/(i<xs.length/\ys.length=i):=by
   rcases hend' with⟨xs',q1,q2⟩|⟨⟨xs',x,q1,q2⟩,ys',q3,q4⟩
   ·left;rw[vI I hq1 q1];exact UG I q1 q2
   ·right
    rw[vI I hq1 q1,vI I hq2 q3]
    exact⟨(List.getElem?_eq_some_iff.mp q2).1,UG I q3 q4⟩
  obtain⟨Dz,rv1,p1,_⟩:=vH I hq1
  obtain⟨its2,rv2,p2,_⟩:=vH I hq2
  have hl1:=rv1.length
  have hl2:=rv2.length
  have ne1:∀b∈[z,TI,TO,i1,i2],l1≠b:=λb hb=>HF I (hf b hb) hq1
  have ne2:∀b∈[z,TI,TO,i1,i2],l2≠b:=λb hb=>HF I (hf b hb) hq2
  have hh:X.A.in1.handled=none:=I.ok.hd hc
  simp only[List.nodup_cons,List.mem_cons,List.not_mem_nil,or_false,not_or,List.nodup_nil,not_false_eq_true,and_true] at nd
  obtain⟨⟨n1,n2,n3,n4⟩,⟨n5,n6,n7⟩,⟨n8,n9⟩,n10⟩:=nd
  have D:ZAp z TI TO i1 i2 [i1,l1] [i2,l2]:=by
   refine⟨Ne.symm n1,Ne.symm n2,Ne.symm n3,Ne.symm n4,n5,n6,n7,n8,n9,n10,?_,?_,?_,?_,?_,?_⟩<;>simp only[List.mem_cons,List.not_mem_nil,or_false,not_or]
   ·exact⟨n3,(ne1 z (by simp)).symm⟩
   ·exact⟨n4,(ne2 z (by simp)).symm⟩
   ·exact⟨n8,(ne1 TO (by simp)).symm⟩
   ·exact⟨n9,(ne2 TO (by simp)).symm⟩
   ·exact⟨n10,(ne2 i1 (by simp)).symm⟩
   ·exact⟨Ne.symm n10,(ne1 i2 (by simp)).symm⟩
  refine qI D (q_ (A:=X.A.in1) b1 hh i1 l1 (ne1 i1 (by simp)) Dz.toArray) (q_ (A:=X.A.in1) b2 hh i2 l2 (ne2 i2 (by simp)) its2.toArray) hz hTI hTO ⟨h1,p1⟩ ⟨h2,p2⟩ ?_ λh' tk hk=>⟨rfl,turns (fp:=[z,TI,TO,i1,i2]) (t':=tk) I (λb o hb q=>?_) hf⟩
  ·rw[List.size_toArray,List.size_toArray]
   omega
  ·have hne:∀c∈[z,TI,TO,i1,i2],b≠c:=λc hc e=>hb (e▸hc)
   exact hk b o (hne z (by simp)) (hne TO (by simp)) (hne i1 (by simp)) (hne i2 (by simp)) q
 self:=λ_ _ _ _ _ st h=>wpAny_pyIter_zip st.1 h
section
abbrev zB1(b:Bool)(h:Heap)(l1:Addr):Heap:=h.push {cls:=.type (nmB b),data:=.fields #[.ref l1,.int 0 0]}
abbrev zB2(b b':Bool)(h:Heap)(l1 l2:Addr):Heap:=(zB1 b h l1).push {cls:=.type (nmB b'),data:=.fields #[.ref l2,.int 0 0]}
abbrev zB3(b b':Bool)(h:Heap)(l1 l2:Addr):Heap:=(zB2 b b' h l1 l2).push {cls:=.type "tuple",data:=.seq #[.ref h.objs.size,.ref (zB1 b h l1).objs.size]}
abbrev zB4(b b':Bool)(h:Heap)(l1 l2:Addr):Heap:=(zB3 b b' h l1 l2).push {cls:=.type "tuple",data:=.seq #[.none,.none]}
abbrev zB5(b b':Bool)(h:Heap)(l1 l2:Addr):Heap:=(zB4 b b' h l1 l2).push {cls:=.type "zip",data:=.fields #[.none,.bool false,.bool false,.ref (zB2 b b' h l1 l2).objs.size,.ref (zB3 b b' h l1 l2).objs.size]}
def Az{prog:Program}{w:World}{A:Around}{E:Value->Shared->Prop}{s:Shared}{b:Bool}{l:Addr}{its:Array Value}{Q:Value->Shared->Prop}(hl:Jz b s.heap l its)
 (hQ:Q (.ref s.heap.objs.size) {s with heap:=s.heap.push {cls:=.type (nmB b),data:=.fields #[.ref l,.int 0 0]}}):wpAny (model prog w) A (pyIter (.ref l)) Q E s:=by
 cases b with
 |true=>exact wpAny_pyIter_tuple hl hQ
 |false=>exact wpAny_pyIter_list hl hQ
theorem Jz.push{b:Bool}{h:Heap}{l:Addr}{its:Array Value}(x:Jz b h l its)(o:Obj):Jz b (h.push o) l its:=by
 cases b with
 |true=>exact Heap.IsTuple.push x o
 |false=>exact Heap.IsList.push x o
def A_(b b':Bool)(l1 l2:Addr)(xs ys:Array Value) :
 Meets (Builtin.«zip.__new__» ⟨[.type "zip",.ref l1,.ref l2],[]⟩) (λ_ R s=>Jz b s.heap l1 xs/\Jz b' s.heap l2 ys/\
  R (.ok (.ret (.ref (zB4 b b' s.heap l1 l2).objs.size))) {s with heap:=zB5 b b' s.heap l1 l2}):=
 .of_wp fun prog w A R s h=>by
   obtain⟨hp,g,d,tk,os⟩:=s;obtain⟨hl1,hl2,h⟩:=h
   have hsub:=sub_zip
   have hL1:Jz b (Shared.heap ⟨hp,g,d,tk,os⟩) l1 xs:=hl1
   have hL2:Jz b' (Shared.heap ⟨hp.push {cls:=.type (nmB b),data:=.fields #[.ref l1,.int 0 0]},g,d,tk,os⟩) l2 ys:=Jz.push hl2 _
   wp_walk using Az hL1,Az hL2
   exact⟨_,rfl,h⟩
variable{prog:Program}{w:World}{A:Around}{E:Value->Shared->Prop}{s:Shared}
def DG{b b':Bool}{l1 l2:Addr}{xs ys:Array Value}{Q:Value->Shared->Prop}(hl1:Jz b s.heap l1 xs)(hl2:Jz b' s.heap l2 ys)
 (h:∀h',IsZip h' (s.heap.objs.size+4) (s.heap.objs.size+2) (s.heap.objs.size+3) .none→IsPair h' (s.heap.objs.size+2) (.ref s.heap.objs.size) (.ref (s.heap.objs.size+1))→
   IsPair h' (s.heap.objs.size+3) .none .none->jC b h' s.heap.objs.size l1 0->jC b' h' (s.heap.objs.size+1) l2 0->h'.objs.size=s.heap.objs.size+5->
   (∀c o,s.heap.get? c=some o->h'.get? c=some o)->Q (.ref (s.heap.objs.size+4)) {s with heap:=h'}) :
 wpAny (model prog w) A (call (.type "zip") [.ref l1,.ref l2]) Q E s:=by
 refine callType_new F.called_zip (by decide) (F.typeCall_zip_2 _ _) (F.newCall_zip_2 _ _) (λobj=>F.args_object_init_3 obj _ _) F.entry_zip_new
  (A_ b b' l1 l2 xs ys) ⟨hl1,hl2,?_⟩
 have z1:(zB1 b s.heap l1).objs.size=s.heap.objs.size+1:=Heap.size_push ..
 have z2:(zB2 b b' s.heap l1 l2).objs.size=s.heap.objs.size+2:=by rw[Heap.size_push,z1]
 have z3:(zB3 b b' s.heap l1 l2).objs.size=s.heap.objs.size+3:=by rw[Heap.size_push,z2]
 have z4:(zB4 b b' s.heap l1 l2).objs.size=s.heap.objs.size+4:=by rw[Heap.size_push,z3]
 have z5:(zB5 b b' s.heap l1 l2).objs.size=s.heap.objs.size+5:=by rw[Heap.size_push,z4]
 have g5:(zB5 b b' s.heap l1 l2).get? (zB4 b b' s.heap l1 l2).objs.size=some _:=Heap.get?_push_size _ rfl
 have g4:(zB5 b b' s.heap l1 l2).get? (zB3 b b' s.heap l1 l2).objs.size=some _:=Heap.get?_push_of_some _ (Heap.get?_push_size _ rfl)
 have g3:(zB5 b b' s.heap l1 l2).get? (zB2 b b' s.heap l1 l2).objs.size=some _:=Heap.get?_push_of_some _ (Heap.get?_push_of_some _ (Heap.get?_push_size _ rfl))
 have g2:(zB5 b b' s.heap l1 l2).get? (zB1 b s.heap l1).objs.size=some _:=Heap.get?_push_of_some _ (Heap.get?_push_of_some _ (Heap.get?_push_of_some _ (Heap.get?_push_size _ rfl)))
 have g1:(zB5 b b' s.heap l1 l2).get? s.heap.objs.size=some _:=Heap.get?_push_of_some _ (Heap.get?_push_of_some _ (Heap.get?_push_of_some _ (Heap.get?_push_of_some _ (Heap.get?_push_size _ rfl))))
 show _/\_
 rw[z2,z3,z4] at g5
 rw[z1,z2] at g3
 rw[z3] at g4
 rw[z1] at g2
 rw[z4]
 exact⟨⟨_,g5,rfl⟩,h _ g5 g3 g4 (.of g1 rfl rfl) (.of g2 rfl rfl) z5 λc o x=>
  Heap.get?_push_of_some _ (Heap.get?_push_of_some _ (Heap.get?_push_of_some _ (Heap.get?_push_of_some _ (Heap.get?_push_of_some _ x))))⟩
end
section
variable{X:Cx}{elts:List Expr}{k:Nat}{tp:Pos}
def Zhc(K:PySem.W.Frag)(ta:TA):TI:=λσ H R=>ta σ H λvs H1=>∃b1 b2 l1 l2,vs=[.ref l1,.ref l2]/\(∃xs,uw K b1 H1 l1 xs)/\(∃xs,uw K b2 H1 l2 xs)/\R (Itz K b1 b2 l1 l2) H1
def ZbS{e1 e2:Expr}{ta:TA}{p pos:Pos}(hg:Gl X "zip")(hm:X.mg "zip" =none)(ha:PA X [e1,e2] ta)(hs:starEach [e1,e2] X.env=[(false,eval e1 X.env),(false,eval e2 X.env)]:=by exact Lg rfl rfl)(hs2:starEach [e2] X.env=[(false,eval e2 X.env)]:=by exact ĸ rfl) :
 PI X (.Tuple elts k tp) (.Call (.Name "zip" p) [e1,e2] [] pos) (Zhc X.K ta):=by
 intro pins s σ H R I h
 refine Call_ (mO I hg hm boot_zip (PyProof.Rows.callWith_type1 (Ŷ (ha pos pins s σ H _ I h) λus s1 ⟨vs,H1,I1,r1,q1⟩=>?_) (by rw[hs,hs2]) (by rw[hs2];rfl)))
 obtain⟨b1,b2,l1,l2,e,⟨xs,hq1⟩,⟨ys,hq2⟩,q⟩:=q1
 subst e
 obtain⟨u1,u2,rfl,ru1,ru2⟩:=vals2 r1
 cases ru1
 cases ru2
 obtain⟨Dz,rv1,p1,_⟩:=vH I1 hq1
 obtain⟨its2,rv2,p2,_⟩:=vH I1 hq2
 refine DG p1 p2 λh' hz hTI hTO h1 h2 hsz hk=>?_
 have I2:Inv X pins σ H1 {s1 with heap:=h'}:=I1.kept (t':=s1.toks) hk
 refine wpAny_pyIter_zip (s:={s1 with heap:=h'}) hz ⟨s1.heap.objs.size+4,[s1.heap.objs.size+4,s1.heap.objs.size+2,s1.heap.objs.size+3,s1.heap.objs.size,s1.heap.objs.size+1],_,_,H1,rfl,I2,Nj b1 b2 l1 l2 _ _ _ _ _ (by simp),⟨hz,hTI,⟨_,_,hTO⟩,h1,h2⟩,λb hb=>?_,q⟩
 have hb':s1.heap.objs.size<=b:=by
  simp only[List.mem_cons,List.not_mem_nil,or_false] at hb
  rcases hb with rfl|rfl|rfl|rfl|rfl<;>omega
 exact I1.uz hb' (I1.hok.fresh hb')
end
def nR:List PV->List PV->List PV
 |p::ps,q::qs=>.tup [p,q]::nR ps qs
 |_,_=>[]
theorem Ba:∀(ps qs:List PV) (i:Nat) (r:PV),(nR ps qs)[i]?=some r->∃p q,ps[i]?=some p/\qs[i]?=some q/\r=.tup [p,q]
 | [],_,_,_,h=>by simp[nR] at h
 |_::_,[],_,_,h=>by simp[nR] at h
 |p::ps,q::qs,0,r,h=>by
  have h':some (PV.tup [p,q])=some r:=h
  cases h'
  exact⟨p,q,rfl,rfl,rfl⟩
 |p::ps,q::qs,i+1,r,h=>Ba ps qs i r h
theorem Bb:∀(ps qs:List PV),(nR ps qs).length=min ps.length qs.length
 | [],_=>by simp[nR]
 |_::_,[]=>by simp[nR]
 |_::ps,_::qs=>by
  show(nR ps qs).length+1=_
  rw[Bb ps qs,List.length_cons,List.length_cons]
  omega
def JB(m1 m2:M (List PV)):M (List PV):=λρ=>(m1 ρ).bind λps ρ1=>(m2 ρ1).bind λqs ρ2=>.ok (nR ps qs) ρ2
def Itb(K:PySem.W.Frag)(b:Bool)(a:Addr):It:=if b=true then Itt K a else Itl K a
def sU{K:KK}{L F:Hp}{b:Bool}{a:Addr}{ps:List PV}(h:jM K L F (Itb K.K b a) ps){c:Ctx}{F2 H:Hp}{σ:L2.St}{ρ:Ş}(rel:Rel K c F2 H σ ρ)(sF:Same F F2)(sL:Same L H)(i:Nat)(p:PV)(hp:ps[i]?=some p) :
 (∃xs x,uw K.K b H a xs/\xs[i]?=some x)/\∀x,(∀xs,uw K.K b H a xs->xs[i]?=some x)->∃F3,Rel K c F3 H σ ρ/\Same F2 F3/\Rep K F3 p x:=by
 obtain⟨g,_⟩:=h c i F2 H σ ρ rel sF sL
 obtain⟨g1,g2⟩:=g p hp
 cases b with
 |true=>exact⟨g1,λx hx=>let ⟨F3,r3,s3,_,rp⟩:=g2 x H ⟨rfl,hx⟩;⟨F3,r3,s3,rp⟩⟩
 |false=>exact⟨g1,λx hx=>let ⟨F3,r3,s3,_,rp⟩:=g2 x H ⟨rfl,hx⟩;⟨F3,r3,s3,rp⟩⟩
def xU{K:KK}{L F:Hp}{b:Bool}{a:Addr}{ps:List PV}(h:jM K L F (Itb K.K b a) ps){c:Ctx}{F2 H:Hp}{σ:L2.St}{ρ:Ş}(rel:Rel K c F2 H σ ρ)(sF:Same F F2)(sL:Same L H) :
 ∃xs,uw K.K b H a xs/\SX K.K b H a ps.length xs:=by
 obtain⟨_,st⟩:=h c ps.length F2 H σ ρ rel sF sL
 have st':∃xs,uw K.K b H a xs/\xs.length<=ps.length:=by
  cases b with
  |true=>exact st rfl
  |false=>exact st rfl
 obtain⟨xs,h1,h2⟩:=st'
 exact⟨xs,h1,h2,λj hj=>(sU h rel sF sL j _ (List.getElem?_eq_getElem hj)).1⟩
def Nk{K:KK}{L F:Hp}{b1 b2:Bool}{a1 a2:Addr}{ps qs:List PV}(h1:jM K L F (Itb K.K b1 a1) ps)(h2:jM K L F (Itb K.K b2 a2) qs):jM K L F (Itz K.K b1 b2 a1 a2) (nR ps qs):=by
 intro c i F2 H σ ρ rel sF sL
 refine⟨λr hr=>?_,λhi=>?_⟩
 ·obtain⟨p,q,hp,hq,rfl⟩:=Ba ps qs i r hr
  obtain⟨g1,y1⟩:=sU h1 rel sF sL i p hp
  refine⟨⟨g1,(sU h2 rel sF sL i q hq).1⟩,λz H' ⟨x,y,T,e1,e2,hT,ez,eH⟩=>?_⟩
  subst ez eH
  obtain⟨F3,nH,s3,rp⟩:=y1 x e1
  obtain⟨F4,zX,s4,rq⟩:=(sU h2 nH (sF.trans s3) sL i q hq).2 y e2
  obtain⟨r1,r2⟩:=HB zX hT (Rep.same s4 p x rp) rq
  exact⟨_,r1,(s3.trans s4).trans (Same.upd (zX.sub.free hT)),Same.upd hT,r2⟩
 ·rw[Bb] at hi
  obtain⟨xs,x1,x2⟩:=xU h1 rel sF sL
  obtain⟨ys,y1,y2⟩:=xU h2 rel sF sL
  refine⟨⟨xs,x1⟩,⟨ys,y1⟩,?_⟩
  by_cases hl:ps.length<=qs.length
  ·left
   have e:i=ps.length:=by omega
   exact⟨xs,x1,e▸x2⟩
  ·right
   have e:i=qs.length:=by omega
   exact⟨(sU h1 rel sF sL i _ (List.getElem?_eq_getElem (by omega))).1,ys,y1,e▸y2⟩
def Zeq{K:KK}{c:Ctx}{σ:L2.St}{ρ:Ş}{F H:Hp}{ps:List PV}{v:V}(h:rSq K c σ ρ F H ps v):∃b a,v=.ref a/\(∃xs,uw K.K b H a xs)/\jM K c.L F (Itb K.K b a) ps:=by
 rcases h with⟨a,e1,e2,e3⟩|⟨a,e1,e2,e3⟩
 ·exact⟨false,a,e1,e2,e3⟩
 ·exact⟨true,a,e1,e2,e3⟩
section
variable{X:Cx}{cm:String->Addr}{E:L2.St->XK}{e e2:Expr}
def Zer{elts:List Expr}{k:Nat}{tp p pos:Pos}{m1 m2:M (List PV)}(hg:Gl X "zip")(hm:X.mg "zip" =none)(h1:PE X e (tG (kk X cm) E (rSq (kk X cm)) m1))(h2:PE X e2 (tG (kk X cm) E (rSq (kk X cm)) m2))
 (hs:starEach [e,e2] X.env=[(false,eval e X.env),(false,eval e2 X.env)]:=by exact Lg rfl rfl)(hs2:starEach [e2] X.env=[(false,eval e2 X.env)]:=by exact ĸ rfl) :
 PI X (.Tuple elts k tp) (.Call (.Name "zip" p) [e,e2] [] pos) (tI (kk X cm) E (JB m1 m2)):=λpins s σ H R I h=>ZbS hg hm (fH h1 (fH h2 mQ hs2) (by rw[hs,hs2])) hs hs2 pins s σ H R I (by
 obtain⟨c,F,ρ,rel,h⟩:=h
 refine⟨c,F,ρ,rel,cY.bind h λps ρ1 v F1 H1 Ġ s1 s2 q h1=>⟨c,F1,ρ1,Ġ,cY.bind h1 λqs ρ2 u F2 H2 ő s3 s4 q2 h2=>?_⟩⟩
 obtain⟨b1,a1,e1,_,e3⟩:=Zeq q
 obtain⟨b2,a2,f1,f2,f3⟩:=Zeq q2
 subst e1 f1
 obtain⟨xs,x1,_⟩:=xU (e3.mono s3) ő (Same.refl _) λb u e=>(ő.lent b u e).1
 exact⟨b1,b2,a1,a2,rfl,⟨xs,x1⟩,f2,h2 _ F2 H2 ő (Same.refl _) (Same.refl _) (Nk (e3.mono s3) f3)⟩)
end
end P
namespace P
open PySem PySem.Spec PyProof.Rows L2 M2 M3 M4
def Zes(K:PySem.W.Frag)(neg:Bool):R2:=λx y H Q=>∃d es a xs,Rp K H d x/\y=.ref a/\(bD K H a xs\/iH K H a xs)/\oO K H es xs/\d.canLay0=true/\PyData.canLayAll0 es=true/\d.depth<=60/\Q (.bl (if neg then !(es.any λe=>PyData.eqv e d) else es.any λe=>PyData.eqv e d)) H
open Classical in
noncomputable def Qx(h:Heap)(d:PyData)(y:Value):Bool:=if ∃e as,Reads h y e as/\e.canLay0=true/\PyData.eqv e d=true then true else false
def Nm{h:Heap}{d e:PyData}{y:Value}{as:List Addr}(r:Reads h y e as)(hc:e.canLay0=true):Qx h d y=PyData.eqv e d:=by
 unfold Qx
 cases q:PyData.eqv e d with
 |true=>rw[if_pos ⟨e,as,r,hc,q⟩]
 |false=>
  rw[if_neg]
  rintro ⟨e',as',r',hc',q'⟩
  have:=SeqAt.Reads.unique e e' y as as' hc r r'
  subst this
  rw[q] at q'
  cases q'
theorem xV{h:Heap}{d:PyData}:∀{us:List Value} {es:List PyData} {as:List Addr},ReadsAll h us es as->PyData.canLayAll0 es=true->us.any (Qx h d)=es.any λe=>PyData.eqv e d
 |_,_,_,.nil,_=>rfl
 |_,_,_,.cons r rs,hc=>by
  unfold PyData.canLayAll0 at hc
  rw[Bool.and_eq_true] at hc
  rw[List.any_cons,List.any_cons,Nm r hc.1,xV rs hc.2]
theorem xW{A:Around}{s:Shared}{d:PyData}{v:Value}{bs:List Addr}(rv:Reads s.heap v d bs)(hd:d.canLay0=true)(hu:A.units+d.depth<cLine):∀{us:List Value} {es:List PyData} {as:List Addr},ReadsAll s.heap us es as->PyData.canLayAll0 es=true->∀u∈us,SeqAt.EqAt A s u v (Qx s.heap d u)
 |_,_,_,.nil,_=>λu hu=>by cases hu
 |_,_,_,.cons r rs,hc=>λu hm=>by
  unfold PyData.canLayAll0 at hc
  rw[Bool.and_eq_true] at hc
  rcases List.mem_cons.mp hm with rfl|hm
  ·rw[Nm r hc.1]
   exact SeqAt.eqAt_reads _ _ A s _ _ _ _ r rv hc.1 hd (by omega)
  ·exact xW rv hd hu rs hc.2 u hm
section
variable{X:Cx}
def JC(hu:X.A.units+64<cLine):bC X (compareOp .NotIn) (Zes X.K true):=by
 intro pins s σ H x y v u Q I rx ry h
 obtain⟨d,es,a,xs,h1,rfl,hq,h3,h4,h5,h6,q⟩:=h
 cases ry
 obtain⟨as,ra⟩:=Rp.reads I d x v h1 rx
 have hu1:X.A.in1.units+d.depth<cLine:=by
  have:X.A.in1.units=X.A.units+1:=rfl
  omega
 rcases hq with hq|hq
 ·obtain⟨its,r,pl,hz⟩:=I.list hq
  obtain⟨bs,rb⟩:=oO.reads I es xs its h3 r
  refine SeqAt.notIn_listAt (Qx s.heap d) pl.isList (λw hw=>xW ra h4 hu1 rb h5 w (by simpa using hw)) ⟨.bl _,H,I,rfl,?_⟩
  rw[show its.toArray.any (Qx s.heap d)=its.any (Qx s.heap d) by simp,xV rb h5]
  exact q
 ·obtain⟨its,r,pl,hz⟩:=I.tuple hq
  obtain⟨bs,rb⟩:=oO.reads I es xs its h3 r
  refine SeqAt.notIn_tupleAt (Qx s.heap d) pl (λw hw=>xW ra h4 hu1 rb h5 w (by simpa using hw)) ⟨.bl _,H,I,rfl,?_⟩
  rw[show its.toArray.any (Qx s.heap d)=its.any (Qx s.heap d) by simp,xV rb h5]
  exact q
end
def inD(neg:Bool)(p q:PV):Option PV:=match q with
 | .lst ps=>if dB p && ji ps && decide (dep p<=60) then some (.bl (if neg then !(ps.any λy=>eqB y p) else ps.any λy=>eqB y p)) else none
 | .tup ps=>if dB p && ji ps && decide (dep p<=60) then some (.bl (if neg then !(ps.any λy=>eqB y p) else ps.any λy=>eqB y p)) else none
 |_=>none
theorem xX{p:PV}(h:dB p=true):∀{ps:List PV},ji ps=true->(iZ ps).any (λe=>PyData.eqv e (toD p))=ps.any λy=>eqB y p
 | [],_=>rfl
 |y::ps,hp=>by
  unfold ji at hp
  rw[Bool.and_eq_true] at hp
  unfold iZ
  rw[List.any_cons,List.any_cons,wV y p hp.1 h,xX h hp.2]
def ZbT{K:KK}{neg:Bool}:lY K (Zes K.K neg) (inD neg):=by
 intro c F H σ ρ p q pv v u Q rel r1 r2 e k
 unfold inD at e
 split at e
 ·rename_i ps
  split at e
  ·rename_i hc
   rw[Bool.and_eq_true,Bool.and_eq_true,decide_eq_true_eq] at hc
   cases e
   obtain⟨a,xs,rfl,h1,h2⟩:=r2.lst rel.sub
   refine⟨toD p,iZ ps,a,xs,lE rel.sub hc.1.1 r1,rfl,.inl h1,oO.same rel.sub _ _ (lB ps xs hc.1.2 h2),jj p hc.1.1,kI ps hc.1.2,by rw[jk];exact hc.2,?_⟩
   rw[xX hc.1.1 hc.1.2]
   exact k _ F H rel (Same.refl _) (Same.refl _) Rep.bl
  ·cases e
 ·rename_i ps
  split at e
  ·rename_i hc
   rw[Bool.and_eq_true,Bool.and_eq_true,decide_eq_true_eq] at hc
   cases e
   obtain⟨a,xs,rfl,h1,h2⟩:=r2.tup rel.sub
   refine⟨toD p,iZ ps,a,xs,lE rel.sub hc.1.1 r1,rfl,.inr h1,oO.same rel.sub _ _ (lB ps xs hc.1.2 h2),jj p hc.1.1,kI ps hc.1.2,by rw[jk];exact hc.2,?_⟩
   rw[xX hc.1.1 hc.1.2]
   exact k _ F H rel (Same.refl _) (Same.refl _) Rep.bl
  ·cases e
 ·cases e
def JD{α:Type}(m:M α):M α:= λρ=>match m ρ with
 | .ok a ρ'=>.ok a ρ'
 |_=>.bad
@[simp] theorem Zhd{α:Type}{m:M α}{ρ:Ş}:JD m ρ=(match m ρ with
  | .ok a ρ'=>.ok a ρ'
  |_=>.bad):=rfl
def Np{X:Cx}{cm:String->Addr}{E:L2.St->XK}{tg l:Expr}{mi:M (List PV)}(h:PI X tg l (tI (kk X cm) EF mi)):PI X tg l (tI (kk X cm) E (JD mi)):=λpins s σ H R I hh=>h pins s σ H R I (by
 obtain⟨c,F,ρ,rel,h'⟩:=hh
 refine⟨c,F,ρ,rel,?_⟩
 unfold JD at h'
 cases e:mi ρ with
 |ok a ρ'=>rw[e] at h';exact h'
 |exc x ρ'=>rw[e] at h';exact h'.elim
 |bad=>rw[e] at h';exact h')
end P
namespace P
open PySem PySem.Spec PyProof.Rows L2 M2 M3 M4
def nU{x:Int}{n:Nat}(h1: -(2 ^ n:Int)<x)(h2:x<2 ^ n):bits x<=n:=by
 refine intBits_le_iff.mpr ?_
 have e:((2 ^ n:Nat):Int)=(2:Int) ^ n:=by simp
 have:((x.natAbs:Nat):Int)<((2 ^ n:Nat):Int):=by rw[e];omega
 omega
def Zet{x y:Int}(h:y≠0)(h1: -18446744073709551616<y)(h2:y<18446744073709551616):kE x y=true:=Af h (Nat.le_trans (nU (n:=64) (by omega) (by omega)) (by decide))
@[simp] theorem ZfH{x:Int}{n:Nat}(h:n≠0)(h2:n<18446744073709551616):kE x (no_index (OfNat.ofNat n):Int)=true:=by
  have e:(no_index (OfNat.ofNat n):Int)=(n:Int):=rfl
  rw[e]
  exact Zet (by omega) (by omega) (by omega)
@[simp] theorem Zeu{x:Int}{n:Nat}(h:n<18446744073709551616):Ť x (no_index (OfNat.ofNat n):Int)=true:=by
  have e:(no_index (OfNat.ofNat n):Int)=(n:Int):=rfl
  rw[e]
  exact mul_r (by omega) (by omega)
@[simp] theorem Zev{x:Int}{n:Nat}(h:n<18446744073709551616):Ť (no_index (OfNat.ofNat n):Int) x=true:=by
  have e:(no_index (OfNat.ofNat n):Int)=(n:Int):=rfl
  rw[e]
  exact cJ (by omega) (by omega)
@[simp] theorem ZfI{m n:Nat}(h:m<18446744073709551616)(h2:n≤1000000):vm (no_index (OfNat.ofNat m):Int) (no_index (OfNat.ofNat n):Int)=true:=by
  have e:(no_index (OfNat.ofNat m):Int)=(m:Int):=rfl
  have e2:(no_index (OfNat.ofNat n):Int)=(n:Int):=rfl
  rw[e,e2]
  unfold vm
  simp
  omega
@[simp] theorem Zew{x:Int}{n:Nat}:x.fdiv (no_index (OfNat.ofNat n):Int)=x / (no_index (OfNat.ofNat n):Int):=Int.fdiv_eq_ediv_of_nonneg x (Int.natCast_nonneg n)
@[simp] theorem Zex{x:Int}{n:Nat}:x.fmod (no_index (OfNat.ofNat n):Int)=x % (no_index (OfNat.ofNat n):Int):=Int.fmod_eq_emod_of_nonneg x (Int.natCast_nonneg n)
end P
namespace P
open PySem PySem.Spec PyProof.Rows L2 M2 M3 M4
def add_l{xs ys:List PV}(h:xs.length+ys.length<=16777216):Ķ (.lst xs) (.lst ys)=some (.ow (xs++ys)):=by
 unfold Ķ
 simp[h]
def ZbU{x y z w:Int}:eqB (.tup [.int x,.int y]) (.tup [.int z,.int w])=(decide (x=z) && decide (y=w)):=by
 rw[eqB.eq_def]
 show lV [.int x,.int y] [.int z,.int w]=_
 rw[lV.eq_def]
 show(eqB (.int x) (.int z) && lV [.int y] [.int w])=_
 rw[lV.eq_def]
 show(eqB (.int x) (.int z) && (eqB (.int y) (.int w) && lV [] []))=_
 have h1:eqB (.int x) (.int z)=decide (x=z):=by rw[eqB.eq_def];rfl
 have h2:eqB (.int y) (.int w)=decide (y=w):=by rw[eqB.eq_def];rfl
 have h3:lV [] []=true:=by rw[lV.eq_def]
 rw[h1,h2,h3,Bool.and_true]
def eN{a b:Str}(ha:PyData.strOk a=true)(hb:PyData.strOk b=true):aD (.str a) (.str b)=some (.bl (decide (a=b))):=by
 have h:eqB (.str a) (.str b)=decide (a=b):=by unfold eqB;rfl
 unfold aD wX
 rw[show dB (.str a)=true by unfold dB;exact ha,show dB (.str b)=true by unfold dB;exact hb,h]
 rfl
def Nq{a b:Str}(ha:PyData.strOk a=true)(hb:PyData.strOk b=true):dD (.str a) (.str b)=some (.bl (!decide (a=b))):=by
 have h:eqB (.str a) (.str b)=decide (a=b):=by unfold eqB;rfl
 unfold dD wX
 rw[show dB (.str a)=true by unfold dB;exact ha,show dB (.str b)=true by unfold dB;exact hb,h]
 rfl
end P
namespace P
open PySem PySem.Spec PyProof.Rows L2 M2 M3 M4
section
variable{g:Tg}{mb:M Fl}{mt:M Bool}{me:M PV}
theorem fY{α β:Type}(c:α->PV)(step:β->α->β)(J:β->Ş->Prop):∀(xs:List α),(∀x∈xs,∀b ρ,J b ρ->∃ρ1 ρ2,g (c x) ρ=some ρ1/\mb ρ1=.ok .nx ρ2/\J (step b x) ρ2)->∀b ρ,J b ρ->∃ρ',forL g mb (xs.map c) ρ=.ok .nx ρ'/\J (xs.foldl step b) ρ'
 | [],_,b,ρ,h=>⟨ρ,rfl,h⟩
 |x::xs,hs,b,ρ,h=>by
  obtain⟨ρ1,ρ2,h1,h2,h3⟩:=hs x (by simp) b ρ h
  obtain⟨ρ',e,h4⟩:=fY c step J xs (λy hy=>hs y (List.mem_cons_of_mem _ hy)) (step b x) ρ2 h3
  refine⟨ρ',?_,h4⟩
  rw[List.map_cons,forL,h1]
  dsimp only
  rw[h2]
  exact e
theorem dG{α γ:Type}(c:α->PV)(t:α->Option γ)(v:γ->RV)(J:Ş->Prop):∀(xs:List α),(∀x∈xs,∀ρ,J ρ->∃ρ1,g (c x) ρ=some ρ1/\((∃r ρ2,t x=some r/\mb ρ1=.ok (.rt (v r)) ρ2)\/(∃ρ2,t x=none/\mb ρ1=.ok .nx ρ2/\J ρ2)))->∀ρ,J ρ->
 (∃r ρ',xs.findSome? t=some r/\forL g mb (xs.map c) ρ=.ok (.rt (v r)) ρ')\/(∃ρ',xs.findSome? t=none/\forL g mb (xs.map c) ρ=.ok .nx ρ'/\J ρ')
 | [],_,ρ,h=>.inr ⟨ρ,rfl,rfl,h⟩
 |x::xs,hs,ρ,h=>by
  obtain⟨ρ1,h1,h2⟩:=hs x (by simp) ρ h
  rcases h2 with⟨r,ρ2,e1,e2⟩|⟨ρ2,e1,e2,e3⟩
  ·refine .inl ⟨r,ρ2,by rw[List.findSome?_cons,e1],?_⟩
   rw[List.map_cons,forL,h1]
   dsimp only
   rw[e2]
   rfl
  ·have hf:List.findSome? t (x::xs)=List.findSome? t xs:=by rw[List.findSome?_cons,e1]
   have hl:forL g mb ((x::xs).map c) ρ=forL g mb (xs.map c) ρ2:=by
    rw[List.map_cons,forL,h1]
    dsimp only
    rw[e2]
    rfl
   rw[hf,hl]
   exact dG c t v J xs (λy hy=>hs y (List.mem_cons_of_mem _ hy)) ρ2 e3
theorem cM{α:Type}(c f:α->PV)(q:α->Bool)(I:Ş->Prop):∀(xs:List α) (ρ:Ş) (acc:List PV),I ρ->acc.length+xs.length<=16777216->
 (∀x∈xs,∀ρ,I ρ->∃ρ1 ρ2,g (c x) ρ=some ρ1/\mt ρ1=.ok (q x) ρ2/\(q x=false->I ρ2)/\(q x=true->∃ρ3,me ρ2=.ok (f x) ρ3/\I ρ3))->Ŕ g mt me (xs.map c) ρ acc=some (acc++(xs.filter q).map f)
 | [],ρ,acc,_,_,_=>by simp[Ŕ]
 |x::xs,ρ,acc,h,hz,hs=>by
  obtain⟨ρ1,ρ2,h1,h2,h3,h4⟩:=hs x List.mem_cons_self ρ h
  cases e:q x with
  |true=>
   obtain⟨ρ3,h5,h6⟩:=h4 e
   rw[e] at h2
   rw[List.map_cons,Ŕ,h1]
   dsimp only
   rw[h2]
   dsimp only
   rw[h5]
   dsimp only
   rw[if_pos (by simp at hz;omega),cM c f q I xs ρ3 (acc ++ [f x]) h6 (by simp at hz ⊢;omega) λy hy=>hs y (List.mem_cons_of_mem _ hy)]
   simp[e]
  |false=>
   rw[e] at h2
   rw[List.map_cons,Ŕ,h1]
   dsimp only
   rw[h2]
   dsimp only
   rw[cM c f q I xs ρ2 acc (h3 e) (by simp at hz ⊢;omega) λy hy=>hs y (List.mem_cons_of_mem _ hy)]
   simp[e]
end
end P
namespace P
open PySem PySem.Spec PyProof.Rows L2 M2 M3 M4
def Zhe(K:PySem.W.Frag)(n:Nat)(t:Ka):TG:=λv σ H Q=>∃a xs,v=.ref a/\bD K H a xs/\xs.length=n/\t xs σ H Q
section
variable{X:Cx}{cm:String->Addr}{pos:Pos}
def ZbV{es:List Expr}{k:Nat}{t:Ka}{n:Nat}(hc:X.calm=true)(h:Cg X es t)
 (hn:(assignEach es X.env).length=n:=by rfl)(hst:(assignEach es X.env).findIdx? (·.1)=none:=by rfl):PG X (.Tuple es k pos) (Zhe X.K n t):=by
 intro pins s σ H v u Q I r hw
 obtain⟨a,xs,e1,hq,hl,hw⟩:=hw
 subst e1
 cases r
 obtain⟨its,rv,ht,hz⟩:=I.list hq
 rw[assign_Tuple]
 refine wpAny_bind (wpAny_standAt ?_)
 unfold unpack
 rw[show(assignEach es X.env).length=its.toArray.size by simp[hn,<-hl,rv.length],hst]
 refine wpAny_bind (wpAny_holding (PySem.W.kun_itemsOf (I.ok.hd hc) ht.isList λh' hx=>?_))
 have I1:Inv X pins σ H {s with heap:=h'}:=I.kept (t':=s.toks) λb o e=>hx b o (Nat.ne_of_lt (Heap.lt_size e)) e
 exact h pins _ σ H xs _ Q I1 (by simpa using rv) hw
def gS(n:Nat)(gs:JT):Tg:=λp ρ=>match p with
 | .tup ps=>if ps.length=n then gs ps ρ else none
 | .lst ps=>if ps.length=n then gs ps ρ else none
 |_=>none
@[simp] theorem Zhf{n:Nat}{gs:JT}{ps:List PV}{ρ:Ş}:gS n gs (.tup ps) ρ=if ps.length=n then gs ps ρ else none:=rfl
@[simp] theorem Zhg{n:Nat}{gs:JT}{ps:List PV}{ρ:Ş}:gS n gs (.lst ps) ρ=if ps.length=n then gs ps ρ else none:=rfl
def HJ{es:List Expr}{k:Nat}{gs:JT}{n:Nat}(hc:X.calm=true)(h:Cg X es (tTs (kk X cm) gs))(hn:(assignEach es X.env).length=n:=by rfl)(hst:(assignEach es X.env).findIdx? (·.1)=none:=by rfl):PG X (.Tuple es k pos) (tT (kk X cm) (gS n gs)):=by
 intro pins s σ H v u Q I r hw
 obtain⟨c,F,ρ,p,rel,rp,hw⟩:=hw
 cases p with
 |tup ps=>
  unfold Rep at rp
  obtain⟨a,xs,h1,h2,h3⟩:=rp
  unfold gS at hw
  dsimp only at hw
  split at hw
  ·rename_i hl
   exact Kd hc h hn hst pins s σ H v u Q I r ⟨a,xs,h1,Same.tup rel.sub h2,by rw[<-h3.length];exact hl,c,F,ρ,ps,rel,h3,hw⟩
  ·exact hw.elim
 |lst ps=>
  unfold Rep at rp
  obtain⟨a,xs,h1,h2,h3⟩:=rp
  unfold gS at hw
  dsimp only at hw
  split at hw
  ·rename_i hl
   exact ZbV hc h hn hst pins s σ H v u Q I r ⟨a,xs,h1,rel.sub.seq h2,by rw[<-h3.length];exact hl,c,F,ρ,ps,rel,h3,hw⟩
  ·exact hw.elim
 |_=>exact hw.elim
end
end P
namespace P
open PySem PySem.Spec PyProof.Rows L2 M2 M3 M4
section
variable{X:Cx}{cm:String->Addr}{E:L2.St->XK}{a:Expr}{p p1 pos pos1:Pos}{mr:M (List PV)}
end
end P
namespace P
open PySem PySem.Spec PyProof.Rows L2 M2 M3 M4
section
variable{X:Cx}{cm:String->Addr}{E:L2.St->XK}{e o:Expr}{es:List Expr}{pos:Pos}{m:M Bool}{mo:M RV}{ma:M PV}
@[simp] theorem Zhh{ps qs:List PV}:(RV.ot ps qs).val=.tup (ps ++ [.lst qs]):=rfl
@[simp] theorem Zhi{ps qs:List PV}:(RV.ot ps qs).slot=.ot ps qs:=rfl
end
end P
namespace P
open PySem PySem.Spec PyProof.Rows L2 M2 M3 M4
section
variable{X:Cx}{K:KK}
end
end P
namespace P
open PySem PySem.Spec PyProof.Rows L2 M2 M3 M4
section
variable{K:KK}{c c':Ctx}{F F' H H':Hp}{σ:L2.St}{ρ:Ş}
end
section
variable{X:Cx}{cm:String->Addr}{E:L2.St->XK}{elt tg iter:Expr}{ifs:List Expr}{scope:Scope}{pos:Pos}{mi:M (List PV)}{g:Tg}{mt:M Bool}{me:M RV}
end
section
variable{K:KK}{c:Ctx}{F H:Hp}{σ:L2.St}{ρ:Ş}
end
section
variable{X:Cx}{cm:String->Addr}{E:L2.St->XK}{e:Expr}{es:List Expr}{m:M Bool}{mv:M PV}{ms:M (List Slot)}
end
end P
namespace P
open PySem PySem.Spec PyProof.Rows L2 M2 M3 M4
section
variable{X:Cx}{K:KK}
end
section
variable{ρ:Ş}{i x j:Nat}{m:M Bool}{mv:M PV}{ms:M (List Slot)}{mp:M (List (List PV))}{g:Tg}{mt:M Bool}{me:M RV}{mi:M (List PV)}{js:List Nat}{nl:Nat}
end
end P
namespace P
open PySem PySem.Spec PyProof.Rows L2 M2 M3 M5
def lamP(js:List Nat)(ρ:Ş)(p:PV):Ş:=js.map (λ(j:Nat)=>iV ((ρ[j]?).getD .no)) ++ [.sh p]
def Bc(js:List Nat)(me:M PV)(ρ:Ş):List PV->Option (List Int)
 | []=>some []
 |p::ps=>match me (lamP js ρ p) with
  | .ok (.int k) _=>(Bc js me ρ ps).map (k:: ·)
  |_=>none
def mY(p:PV)(k:Int):List PV->List Int->PV
 |q::qs,m::ms=>if m<k then mY q m qs ms else mY p k qs ms
 |_,_=>p
def lH:List PV->List Int->Option PV
 |p::ps,k::ks=>some (mY p k ps ks)
 |_,_=>none
def Nr(js:List Nat)(me:M PV)(mr:M (List PV)):M PV:=λρ=>(mr ρ).bind λps ρ1=>match ps with
 | [.lst items]=>match Bc js me ρ1 items with
   |some ks=>Res.qX (lH items ks) ρ1
   |none=>.bad
 |_=>.bad
theorem vJ{js:List Nat}{me:M PV}{ρ:Ş}:∀{items:List PV} {ks:List Int},Bc js me ρ items=some ks->ks.length=items.length/\∀(k:Nat) (p:PV),items[k]?=some p->∃ρ',me (lamP js ρ p)=.ok (.int (ks.getD k 0)) ρ'
 | [],ks,h=>by
   cases(show some []=some ks from h)
   exact⟨rfl,λk p z=>by simp at z⟩
 |q::r,ks,h=>by
  have h':(match me (lamP js ρ q) with
   | .ok (.int k) _=>(Bc js me ρ r).map (k:: ·)
   |_=>none)=some ks:=h
  split at h'
  ·rename_i k ρ' e
   cases e2:Bc js me ρ r with
   |none=>rw[e2] at h';cases h'
   |some ks'=>
    rw[e2] at h'
    cases(show some (k::ks')=some ks from h')
    obtain⟨h1,h2⟩:=vJ e2
    refine⟨by simp[h1],λn p hp=>?_⟩
    cases n with
    |zero=>
     simp at hp
     subst hp
     exact⟨ρ',e⟩
    |succ n=>
     simp at hp
     simpa using h2 n p hp
  ·cases h'
theorem gP:∀{qs:List PV} {ms:List Int} {p:PV} {k:Int} {i:Nat} {x:PV},ms.length=qs.length->(p::qs)[i]?=some x->(∀j,j<(p::qs).length->(k::ms).getD i 0<=(k::ms).getD j 0/\(j<i->(k::ms).getD i 0<(k::ms).getD j 0))->mY p k qs ms=x
 | [],[],p,k,i,x,_,hx,_=>by
   cases i with
   |zero=>simpa[mY] using hx
   |succ i=>simp at hx
 | [],_::_,_,_,_,_,h,_,_=>by simp at h
 |_::_,[],_,_,_,_,h,_,_=>by simp at h
 |q::qs,m::ms,p,k,i,x,hl,hx,hb=>by
  have hl':ms.length=qs.length:=by simpa using hl
  unfold mY
  by_cases hm:m<k
  ·rw[if_pos hm]
   cases i with
   |zero=>
    have:=(hb 1 (by simp)).1
    simp at this
    omega
   |succ i=>
    refine gP (i:=i) hl' (by simpa using hx) λj hj=>?_
    have:=hb (j+1) (by simpa using hj)
    refine⟨by simpa using this.1,λhji=>by simpa using this.2 (by omega)⟩
  ·rw[if_neg hm]
   cases i with
   |zero=>
    refine gP (i:=0) hl' (by simpa using hx) λj hj=>?_
    cases j with
    |zero=>exact⟨Int.le_refl _,λz=>absurd z (Nat.lt_irrefl _)⟩
    |succ j=>
     have:=hb (j+1+1) (by simpa using hj)
     exact⟨by simpa using this.1,λz=>absurd z (by omega)⟩
   |succ i=>
    cases i with
    |zero=>
     have:=(hb 0 (by simp)).2 (by omega)
     simp at this
     omega
    |succ i=>
     refine gP (i:=i+1) hl' (by simpa using hx) λj hj=>?_
     cases j with
     |zero=>
      have:=hb 0 (by simp)
      exact⟨by simpa using this.1,λ_=>by simpa using this.2 (by omega)⟩
     |succ j=>
      have:=hb (j+1+1) (by simpa using hj)
      exact⟨by simpa using this.1,λz=>by simpa using this.2 (by omega)⟩
def nW{items:List PV}{ks:List Int}{i:Nat}{x b:PV}(hl:ks.length=items.length)(h:lH items ks=some b)(hx:items[i]?=some x)(hb:∀j,j<items.length->ks.getD i 0<=ks.getD j 0/\(j<i->ks.getD i 0<ks.getD j 0)):b=x:=by
 cases items with
 |nil=>simp at hx
 |cons p ps=>
  cases ks with
  |nil=>simp at hl
  |cons k ks=>
   have h':mY p k ps ks=b:=Option.some.inj h
   rw[<-h']
   exact gP (by simpa using hl) hx hb
section
variable{K:KK}{c:Ctx}{F H:Hp}{σ:L2.St}{ρ:Ş}
theorem Gr.refl(s:Same F H):Gr F H F H:=⟨Same.refl _,Same.refl _,s,λ_ _ z=>z⟩
theorem Gr.trans{F1 H1 F2 H2:Hp}(a:Gr F H F1 H1)(b:Gr F1 H1 F2 H2):Gr F H F2 H2:=
 ⟨a.h.trans b.h,a.f.trans b.f,b.sub,fun x hx hf=>b.out x (fun z=>by
   cases q:H x with
   |none=>exact hx q
   |some u=>rw[a.h x u q] at z;cases z) (a.out x hx hf)⟩
def Rel.lam(js:List Nat)(rel:Rel K c F H σ ρ){p:PV}{v:V}(hp:Rep K F p v):Rel K (ctx0 F H) F H (iM js σ v) (lamP js ρ p) where
 sub:=rel.sub
 base:=Same.refl _
 f0:=Same.refl _
 h_:=λ_ _ z=>z
 lent:=λa u e=>iu e
 lb:=fun a e=>by
   cases q:(ctx0 F H).L a with
   |none=>rfl
   |some u=>
    have e':H a=none:=e
    rw[(iu q).1] at e'
    cases e'
 len:=by simp[iM,lamP]
 slot:= λi s e=>by
  unfold lamP at e
  by_cases hi:i<js.length
  ·rw[List.getElem?_append_left (by simpa using hi),List.getElem?_map] at e
   cases ej:js[i]? with
   |none=>rw[ej] at e;cases e
   |some j=>
    rw[ej] at e
    have e':iV ((ρ[j]?).getD .no)=s:=Option.some.inj e
    subst e'
    have hx:((iM js σ v)[i]?).getD none=(σ[j]?).getD none:=by
     unfold iM
     rw[List.getElem?_append_left (by simpa using hi),List.getElem?_map,ej]
     rfl
    rw[hx]
    cases er:ρ[j]? with
    |none=>trivial
    |some sl=>
     have q:=rel.slot j sl er
     cases sl with
     |no=>trivial
     |sh p=>exact q
     |ow ps=>
      obtain⟨a,vs,h1,h2,h3,h4,h5⟩:=q
      refine⟨a,vs,h1,?_,h5⟩
      show(match F a with|none=>H a|some _=>none)=_
      rw[h3]
      exact h2
     |bw ps=>
      obtain⟨a,vs,h1,h2,h3⟩:=q
      obtain⟨l1,l2⟩:=rel.lent a _ h2
      refine⟨a,vs,h1,?_,h3⟩
      show(match F a with|none=>H a|some _=>none)=_
      rw[l2]
      exact l1
     |rc C ns ps=>trivial
     |ot ps qs=>trivial
     |ol GX=>trivial
  ·have hi2:i=js.length:=by
    have l2:=(List.getElem?_eq_some_iff.mp e).1
    simp at l2
    omega
   subst hi2
   rw[List.getElem?_append_right (by simp)] at e
   have e':Slot.sh p=s:=by simpa using e
   subst e'
   have hx:((iM js σ v)[js.length]?).getD none=some v:=by
    unfold iM
    rw[List.getElem?_append_right (by simp)]
    simp
   rw[hx]
   exact⟨v,rfl,hp⟩
 sep:=λi j a h1 _=>by
  exfalso
  obtain⟨s,y,h1,_,h2⟩:=h1
  have h2:=oU h2
  unfold lamP at h1
  by_cases hi:i<js.length
  ·rw[List.getElem?_append_left (by simpa using hi),List.getElem?_map] at h1
   cases ej:js[i]? with
   |none=>rw[ej] at h1;cases h1
   |some j=>
    rw[ej] at h1
    have e':iV ((ρ[j]?).getD .no)=s:=Option.some.inj h1
    subst e'
    cases er:ρ[j]? with
    |none=>rw[er] at h2;cases h2
    |some sl=>rw[er] at h2;cases sl<;>cases h2
  ·have hi2:i=js.length:=by
    have l2:=(List.getElem?_eq_some_iff.mp h1).1
    simp at l2
    omega
   subst hi2
   rw[List.getElem?_append_right (by simp)] at h1
   have e':Slot.sh p=s:=by simpa using h1
   subst e'
   cases h2
end
section
variable{X:Cx}{cm:String->Addr}{E:L2.St->XK}{x px:Str}{c Pt:Addr}{params:Arguments}{body e:Expr}{scope:Scope}{p pos Rw kpos:Pos}{mr:M (List PV)}{me:M PV}
def ZbW{k:Nat}(N0:List Str)(js:List Nat)(sc:Scope)(hr:aR (k+2) X.A)(hsc:X.env.scope=sc)(hcalm:X.calm=true)(hx:x∈lams)(ht:PySem.W.tabIn X.K x=some (c,Pt))(hcode:X.env.code=.ref c)(hq:X.env.qual=x ++ ".<locals>.")
 (hg:Gl X "min")(hm:X.mg "min" =none)(ha:PA X [e] (tRL (kk X cm) E mr))(he:∀cl f c' s H,aR k (JR X (N0 ++ [px]) (fZ x) scope cl f c' X.A.in1 s H).A->(JR X (N0 ++ [px]) (fZ x) scope cl f c' X.A.in1 s H).A.units+64<cLine->PE (JR X (N0 ++ [px]) (fZ x) scope cl f c' X.A.in1 s H) body (tV (kk X cm) EF me))(hcap:jW X sc scope N0 js)(hlen:js.length=N0.length:=by rfl)
 (hbind:∀(cl:List (Str×Addr)) (pm ctv:Value) (c':Addr) (u:Value),bindArgs (PySem.W.kla_fn "<lambda>" (fZ x) params body scope cl pm (.ref c') ctv) ⟨[u],[]⟩=pure [(px,u)]:=by intros;rfl)
 (hk:scope.kind=.function:=by rfl)(hcell:∀y∈scope.names,y.2≠ .cell:=by decide +kernel)(hpx:scope.names.lookup px=some .local:=by rfl)(hco:scope.isCoroutine=false:=by rfl)(hgen:scope.isGenerator=false:=by rfl)
 (hfree:∀y∈scope.names,y.2=.free->(sc.names.lookup y.1=some .cell\/sc.names.lookup y.1=some .free):=by decide +kernel)(hdef:defaultsOf params X.env=([],[]):=by rfl)
 (hst:starEach [e] X.env=[(false,eval e X.env)]:=by exact ĸ rfl)(hpl:(backTo pos (starEach [e] X.env)).any (·.1)=false:=by rfl) :
 PE X (.Call (.Name "min" p) [e] [⟨some "key",.Lambda params body scope Rw,kpos⟩] pos) (tV (kk X cm) E (Nr js me mr)):=λpins s σ H Q I h=>
 Rx N0 js sc hsc hcalm hr.depth hx ht hcode hq hg hm ha (λcl f c' s H=>he cl f c' s H (hr.in1.deeper _) (hr.in1.deeper _).units) hcap hlen hbind hk hcell hpx hco hgen hfree hdef hst hpl pins s σ H Q I (by
  obtain⟨cc,F,ρ,rel,h⟩:=h
  refine⟨cc,F,ρ,rel,h.bind λps ρ1 vs F1 H1 Ġ s1 s2 q h1=>?_⟩
  split at h1
  rotate_left
  ·exact h1.elim
  rename_i items
  split at h1
  rotate_left
  ·exact h1.elim
  rename_i kl hk'
  obtain⟨kl1,kl2⟩:=vJ hk'
  cases hb:lH items kl with
  |none=>rw[hb] at h1;exact h1.elim
  |some b=>
   rw[hb] at h1
   have q':Paired (rR (kk X cm) cc σ ρ1 F1 H1) [.lst items] vs:=q
   obtain⟨l,xs,rfl,hs,hr⟩:∃l xs,vs=[.ref l]/\bD X.K H1 l xs/\Ħ (kk X cm) F1 items xs:=by
    cases q' with
    |cons a b=>
     cases b
     rcases a with a|a
     ·unfold Rep at a
      obtain⟨l,xs,rfl,e1,e2⟩:=a
      exact⟨l,xs,rfl,Ġ.sub.seq e1,e2⟩
     ·obtain⟨l,xs,rfl,e1,e2⟩:=a
      exact⟨l,xs,rfl,bD.of e1,e2⟩
   have len:items.length=xs.length:=hr.length
   have hne:0<xs.length:=by
    rw[<-len]
    cases items with
    |nil=>simp[lH] at hb
    |cons _ _=>simp
   refine⟨l,xs,rfl,hs,hne,λc q H2 sm hc nw=>⟨λk=>kl.getD k 0,λ_ H=>∃F',Gr F1 H2 F' H,⟨F1,Gr.refl (Ġ.sub.trans sm)⟩,λk H ⟨F',g⟩=>g.h,λk v H hv ⟨F',g⟩=>?_,λi v H hv hbest ⟨F',g⟩=>?_⟩⟩
   ·have ő:Rel (kk X cm) cc F1 H2 σ ρ1:=Ġ.call ⟨sm,Same.refl _,Ġ.sub.trans sm,λ_ _ z=>z⟩
    have hki:k<items.length:=by rw[len];exact(List.getElem?_eq_some_iff.mp hv).1
    obtain⟨ρ',hme⟩:=kl2 k items[k] (List.getElem?_eq_getElem hki)
    obtain⟨v',hv',rv⟩:=dz hr.pr (List.getElem?_eq_getElem hki)
    rw[hv] at hv'
    cases hv'
    refine⟨ctx0 F' H,F',lamP js ρ1 items[k],(ő.call g).lam js (Rep.same g.f _ _ rv),?_⟩
    rw[hme]
    intro y F2 H3 nH _ _ ry
    have ry':Rep (kk X cm) F2 (.int (kl.getD k 0)) y:=ry
    unfold Rep at ry'
    exact⟨ry',F2,g.trans nH.gr⟩
   ·have ő:Rel (kk X cm) cc F1 H2 σ ρ1:=Ġ.call ⟨sm,Same.refl _,Ġ.sub.trans sm,λ_ _ z=>z⟩
    have hii:i<items.length:=by rw[len];exact(List.getElem?_eq_some_iff.mp hv).1
    obtain⟨v',hv',rv⟩:=dz hr.pr (List.getElem?_eq_getElem hii)
    rw[hv] at hv'
    cases hv'
    have eb:=nW kl1 hb (List.getElem?_eq_getElem hii) (λj hj=>hbest j (by rw[<-len];exact hj))
    subst eb
    exact h1 v F' H (ő.call g) g.f (sm.trans g.h) (Rep.same g.f _ _ rv))
end
def ZbX(K:PySem.W.Frag)(x:Str)(f:Addr):Bool:=PySem.W.nsIn K mainGlobals x== some (some (.ref f)) && (PySem.W.tabIn K x).isSome
section
variable{P:Program}{w:World}{K:PySem.W.Frag}{cm:String->Addr}{mg:Str->Option Value}{base:Heap}{CX:pN}
def S_{x qual:Str}{st:Stmt}{f:Addr}{fd:FuncData}(F:Kw K x qual st f fd){c Pt:Addr}(h:PySem.W.nsIn K mainGlobals x=some (some (.ref f)))(ht:PySem.W.tabIn K x=some (c,Pt)):fd.code=.ref c:=by
 obtain⟨oc,od,kV,doc,pm,an,cdv,ct,osl,rfl,lk,hcd⟩:=F.ex
 unfold PySem.W.tabIn at ht
 split at ht
 ·rename_i f2 hf
  rw[h] at hf
  cases hf
  split at ht
  ·rename_i hfo
   rw[lk] at hfo
   cases hfo
   split at ht
   ·rename_i c2 hc
    split at ht
    ·split at ht
     ·cases ht
      exact hc
     ·cases ht
    ·cases ht
   ·cases ht
  ·cases ht
 ·cases ht
def Zhj{x qual:Str}{st:Stmt}{f:Addr}{fd:FuncData}{N ps:List Str}{k n j:Nat}{mb:M Fl}{mf:MF}(F:Kw K x qual st f fd)(S:ē N ps (ą st))(hn:ps.length=n)(hj:N.length=j)(hf:mf=ļ n j mb)(htb:ZbX K x f=true)
 (hbody:∀(c Pt:Addr),PySem.W.tabIn K x=some (c,Pt)→∀(A:Around) (outer:List Env) (s:Shared) (H:Hp) (E:XK),aR k (A.deeper (envOfC qual (ą st) s.heap.objs.size f (.ref c)))→
   mL (dj CX P w K mg base N qual (ą st) f (.ref c) A outer s H E) (Ŗ st) (tS ⟨K,cm⟩ (λ_=>E) mb)):Į P w K mg base CX (k+1) f fd ps (ŷ ⟨K,cm⟩ n mf):=by
 subst hn hj hf
 unfold ZbX at htb
 simp only[Bool.and_eq_true,beq_iff_eq] at htb
 obtain⟨h1,h2⟩:=htb
 obtain⟨⟨c,Pt⟩,ht⟩:=Option.isSome_iff_exists.mp h2
 have hc:=S_ F h1 ht
 obtain⟨oc,od,kV,doc,pm,an,cdv,ct,osl,rfl,lk,hcd⟩:=id F.ex
 have hc':cdv=.ref c:=hc
 subst hc'
 refine zQ lk hcd S (λvs H Q E ⟨F,ps',h1,_,h2,_⟩=>by rw[<-Paired.length h2];exact h1) λA outer s H vs Q E hr hsp=>?_
 obtain⟨F,ps',h1,h2,h3,h4⟩:=hsp
 refine⟨_,hbody c Pt ht A outer s H E hr,ctx0 F H,F,startP N.length ps',Rel.start h2 h3,?_⟩
 unfold ļ at h4
 rw[if_pos h1] at h4
 cases e:mb (startP N.length ps') with
 |bad=>rw[e] at h4;exact h4
 |exc x ρ'=>rw[e] at h4;exact λσ' C d F' H' rel s1 q=>h4 C d F' H' rel.gr q
 |ok fl ρ'=>
  rw[e] at h4
  cases fl with
  |nx=>exact λσ' F' H' rel s1=>h4 .non F' H' rel.gr (Rep.non (K:=⟨K,cm⟩) (F:=F'))
  |bk=>exact h4.elim
  |ct=>exact h4.elim
  |rt r=>
   intro v σ' F' H' rel s1 q
   refine h4 v F' H' rel.gr ?_
   cases r with
   |sh p=>exact q
   |ow qs=>
    obtain⟨a,vs',e1,e2,e3,e4,_,e5⟩:=q
    exact⟨a,vs',e1,e2,e3,e4,e5⟩
   |ot qs ts=>
    obtain⟨p,a,xs,vs',e1,e0,ex,e2,e3,e4,_,e5⟩:=q
    exact⟨p,a,xs,vs',e1,e0,ex,e2,e3,e4,e5⟩
structure ZbY(K:PySem.W.Frag)(x qual:Str)(st:Stmt)(f:Addr)(fd:FuncData):Prop where
 ex:∃(oc:Value) (od:Option Addr) (dV kV doc pm:Value) (an:Option Addr) (cdv ct:Value) (osl:Array (Option Value)),
   fd=PySem.W.fnOf x qual (Ū st) (Ŗ st) (ą st) dV kV doc pm an cdv ct/\K.lookup f=some ⟨oc,od,.func fd,osl⟩/\PySem.W.codeIn K cdv qual=true
 kp:PySem.W.keepIn K (.ref f)=true
def Tc{x qual:Str}{st:Stmt}{f:Addr}{oc:Value}{od an:Option Addr}{osl:Array (Option Value)}{dV kV doc pm cdv ct:Value}(l:K.lookup f=some ⟨oc,od,.func (PySem.W.fnOf x qual (Ū st) (Ŗ st) (ą st) dV kV doc pm an cdv ct),osl⟩)
 (c:PySem.W.codeIn K cdv qual=true)(k:PySem.W.keepIn K (.ref f)=true):ZbY K x qual st f (PySem.W.fnOf x qual (Ū st) (Ŗ st) (ą st) dV kV doc pm an cdv ct):=⟨⟨oc,od,dV,kV,doc,pm,an,cdv,ct,osl,rfl,l,c⟩,k⟩
def Zhk{x qual:Str}{st:Stmt}{f:Addr}{fd:FuncData}{N ps:List Str}{k n j:Nat}{mb:M Fl}{mf:MF}(F:ZbY K x qual st f fd)(S:ē N ps (ą st))(hn:ps.length=n)(hj:N.length=j)(hf:mf=ļ n j mb)
 (hbody:∀(cdv:Value) (A:Around) (outer:List Env) (s:Shared) (H:Hp) (E:XK),aR k (A.deeper (envOfC qual (ą st) s.heap.objs.size f cdv))→
   mL (dj CX P w K mg base N qual (ą st) f cdv A outer s H E) (Ŗ st) (tS ⟨K,cm⟩ (λ_=>E) mb)):Į P w K mg base CX (k+1) f fd ps (ŷ ⟨K,cm⟩ n mf):=by
 subst hn hj hf
 obtain⟨oc,od,dV,kV,doc,pm,an,cdv,ct,osl,rfl,lk,hcd⟩:=F.ex
 refine zQ lk hcd S (λvs H Q E ⟨F,ps',h1,_,h2,_⟩=>by rw[<-Paired.length h2];exact h1) λA outer s H vs Q E hr hsp=>?_
 obtain⟨F,ps',h1,h2,h3,h4⟩:=hsp
 refine⟨_,hbody cdv A outer s H E hr,ctx0 F H,F,startP N.length ps',Rel.start h2 h3,?_⟩
 unfold ļ at h4
 rw[if_pos h1] at h4
 cases e:mb (startP N.length ps') with
 |bad=>rw[e] at h4;exact h4
 |exc x ρ'=>rw[e] at h4;exact λσ' C d F' H' rel s1 q=>h4 C d F' H' rel.gr q
 |ok fl ρ'=>
  rw[e] at h4
  cases fl with
  |nx=>exact λσ' F' H' rel s1=>h4 .non F' H' rel.gr (Rep.non (K:=⟨K,cm⟩) (F:=F'))
  |bk=>exact h4.elim
  |ct=>exact h4.elim
  |rt r=>
   intro v σ' F' H' rel s1 q
   refine h4 v F' H' rel.gr ?_
   cases r with
   |sh p=>exact q
   |ow qs=>
    obtain⟨a,vs',e1,e2,e3,e4,_,e5⟩:=q
    exact⟨a,vs',e1,e2,e3,e4,e5⟩
   |ot qs ts=>
    obtain⟨p,a,xs,vs',e1,e0,ex,e2,e3,e4,_,e5⟩:=q
    exact⟨p,a,xs,vs',e1,e0,ex,e2,e3,e4,e5⟩
def DK{x qual:Str}{st:Stmt}{ps:List Str}{T:Addr}{oT:Obj}{items:Array Value}{nT:Nat}{kV doc pm:Value}{an:Option Addr}{cdv ct:Value}(hT:K.lookup T=some oT)(hs:oT.data=.seq items nT)
 (h:∀us:List Value,us.length=ps.length->∃k:Option (Array Value)->Sem (List (Str×Value)),bindArgs (PySem.W.fnOf x qual (Ū st) (Ŗ st) (ą st) (.ref T) kV doc pm an cdv ct) ⟨us,[]⟩=seqItems? (.ref T) >>= k/\k (some items)=pure (ps.zip us)) :
 Binds K (PySem.W.fnOf x qual (Ū st) (Ŗ st) (ą st) (.ref T) kV doc pm an cdv ct) ps []:=λs us X hl=>by
 rw[List.append_nil] at hl ⊢
 obtain⟨k,h1,h2⟩:=h us hl
 exact PySem.W.binds_K X rfl hT hs h1 h2
end
section
variable{js:List Nat}{me:M PV}{mr:M (List PV)}{ρ:Ş}
theorem Td:Nr js me mr ρ=(mr ρ).bind λps ρ1=>match ps with
 | [.lst items]=>match Bc js me ρ1 items with
   |some ks=>Res.qX (lH items ks) ρ1
   |none=>.bad
 |_=>.bad:=rfl
end
end P
namespace P
open PySem PySem.Spec PyProof.Rows L2 M2 M3 M5
end P
namespace P
open PySem PySem.Spec PyProof.Rows L2 M2 M3 M5
section
variable{X:Cx}{cm:String->Addr}{E:L2.St->XK}{CX:pN}{k n:Nat}{f:Addr}{fd:FuncData}{ps:List Str}{mf:MF}{mr:M (List Slot)}{x:Str}{p pos:Pos}{e:Expr}{es:List Expr}{ds:List Value}{dvs:List V}{dps:List Slot}
end
end P
namespace P
open PySem PySem.Spec PyProof.Rows L2 M2 M3 M5
def BN:Nat->(List Value->Prop)->Prop
 |0,p=>p []
 |n+1,p=>∀u,BN n λus=>p (u::us)
theorem sV:∀{n:Nat} {p:List Value->Prop},BN n p->∀us,us.length=n->p us
 |0,p,h,[],_=>h
 |0,p,h,_::_,e=>by cases e
 |n+1,p,h,[],e=>by cases e
 |n+1,p,h,u::us,e=>sV (h u) us (Nat.succ.inj e)
structure Df(K:PySem.W.Frag)(mg:Str->Option Value)(x:Str)(st:Stmt)(ps:List Str)(f:Addr)(fd:FuncData):Prop where
 F:Kw K x x st f fd
 m:mg x=some (.ref f)
 b:Binds K fd ps []
 bb:∀(s:Shared) (us:List Value),us.length=ps.length->BindsTo s fd ⟨us,[]⟩ (ps.zip us)
structure Dm(K:PySem.W.Frag)(C:Addr)(x q:Str)(st:Stmt)(ps:List Str)(f:Addr)(fd:FuncData):Prop where
 F:Kw K x q st f fd
 b:Binds K fd ps []
structure Dd(K:PySem.W.Frag)(mg:Str->Option Value)(x:Str)(st:Stmt)(ps:List Str)(v:Int)(f:Addr)(fd:FuncData):Prop where
 F:ZbY K x x st f fd
 m:mg x=some (.ref f)
 b:Binds K fd ps []
section
variable{K:PySem.W.Frag}{h:Heap}{mg:Str->Option Value}{x q:Str}{st:Stmt}{ps:List Str}{f C:Addr}{oc kV dc pm cd ct:Value}{od an:Option Addr}{sl:Array (Option Value)}
def İ(X:K.In h)(G:h.Ns mainGlobals mg)(hb:∀(kV dc pm:Value) (an:Option Addr) (cd ct:Value),BN ps.length λus=>bindArgs (PySem.W.fnOf x x (Ū st) (Ŗ st) (ą st) .none kV dc pm an cd ct) ⟨us,[]⟩=pure (ps.zip us))
 (a:PySem.W.nsIn K mainGlobals x=some (some (.ref f)))(l:K.lookup f=some ⟨oc,od,.func (PySem.W.fnOf x x (Ū st) (Ŗ st) (ą st) .none kV dc pm an cd ct),sl⟩)(c:PySem.W.codeIn K cd x=true)(k:PySem.W.keepIn K (.ref f)=true) :
 Df K mg x st ps f (PySem.W.fnOf x x (Ū st) (Ŗ st) (ą st) .none kV dc pm an cd ct):=
 have F:=Ky (st:=st) l c k
 ⟨F,PySem.W.mg_of X G a,F.binds λkV dc pm an cd ct us hl=>sV (hb kV dc pm an cd ct) us hl,λs us hl=>.of_eq (sV (hb kV dc pm an cd ct) us hl)⟩
def nY(hb:∀(kV dc pm:Value) (an:Option Addr) (cd ct:Value),BN ps.length λus=>bindArgs (PySem.W.fnOf x q (Ū st) (Ŗ st) (ą st) .none kV dc pm an cd ct) ⟨us,[]⟩=pure (ps.zip us))
 (a:PySem.W.findIn K (.ref C) x=some (some (.ref f)))(l:K.lookup f=some ⟨oc,od,.func (PySem.W.fnOf x q (Ū st) (Ŗ st) (ą st) .none kV dc pm an cd ct),sl⟩)(c:PySem.W.codeIn K cd q=true)(k:PySem.W.keepIn K (.ref f)=true) :
 Dm K C x q st ps f (PySem.W.fnOf x q (Ū st) (Ŗ st) (ą st) .none kV dc pm an cd ct):=
 have F:=Ky (st:=st) l c k
 ⟨F,F.binds λkV dc pm an cd ct us hl=>sV (hb kV dc pm an cd ct) us hl⟩
def Zey{v:Int}{T:Addr}{dk:Tok}{dn:Nat}{ds:Array (Option Value)}{dd:Option Addr}{dO:Value}(X:K.In h)(G:h.Ns mainGlobals mg)
 (hb:∀(dk:Tok) (kV dc pm:Value) (an:Option Addr) (cd ct:Value),BN ps.length λus=>∃k:Option (Array Value)->Sem (List (Str×Value)),bindArgs (PySem.W.fnOf x x (Ū st) (Ŗ st) (ą st) (.ref T) kV dc pm an cd ct) ⟨us,[]⟩=seqItems? (.ref T) >>= k/\k (some #[.int v dk])=pure (ps.zip us))
 (a:PySem.W.nsIn K mainGlobals x=some (some (.ref f)))(l:K.lookup f=some ⟨oc,od,.func (PySem.W.fnOf x x (Ū st) (Ŗ st) (ą st) (.ref T) kV dc pm an cd ct),sl⟩)(d:K.lookup T=some ⟨dO,dd,.seq #[.int v dk] dn,ds⟩)(c:PySem.W.codeIn K cd x=true)(k:PySem.W.keepIn K (.ref f)=true) :
 Dd K mg x st ps v f (PySem.W.fnOf x x (Ū st) (Ŗ st) (ą st) (.ref T) kV dc pm an cd ct):=
 ⟨Tc (st:=st) l c k,PySem.W.mg_of X G a,DK d rfl λus hl=>sV (hb dk kV dc pm an cd ct) us hl⟩
end
end P
namespace P
open PySem PySem.Spec PyProof.Rows L2 M2 M3 M5
def aJ{N ps:List Str}{sc:Scope}(h1:sc.kind=.function:=by rfl)(h2:sc.isCoroutine=false:=by rfl)(h3:sc.isGenerator=false:=by rfl)(h4:N.Nodup:=by decide +kernel)(h5:N.take ps.length=ps:=by rfl)(h6:∀x∈ps,sc.names.lookup x=some .local\/sc.names.lookup x=some .cell:=by decide +kernel)
 (h7:∀y∈sc.names,y.2≠ .free:=by decide +kernel):ē N ps sc:=⟨h1,h2,h3,h4,h5,h6,h7⟩
section
variable{X:Cx}{cm:String->Addr}{E:L2.St->XK}{CX:pN}{k j n:Nat}{f:Addr}{fd:FuncData}{ps:List Str}{mf:MF}{mr:M (List Slot)}{x:Str}{st:Stmt}{p pos:Pos}{e:Expr}{es:List Expr}
end
section
variable{Pg:Program}{w:World}{K:PySem.W.Frag}{mg:Str->Option Value}{base:Heap}{CX:pN}{cm:String->Addr}
end
end P
namespace My
def gd(a b:Int):Int:=((Int.gcd a b:Nat):Int)
def Z2i(a b:Int):gd b (Int.fmod a b)=gd a b:=by
 unfold gd
 rw[Int.fmod_def,Int.gcd_sub_mul_left_right,Int.gcd_comm]
def Z2j(a:Int){b:Int}(h:b≠0):(Int.fmod a b).natAbs<b.natAbs:=by
 rcases(by omega:0<b\/b<0) with h|h
 ·have h1:=Int.fmod_nonneg_of_pos a h
  have h2:=Int.fmod_lt_of_pos a h
  omega
 ·have e:=Int.neg_fmod_neg a b
  have h1:=Int.fmod_nonneg_of_pos (-a) (show 0 < -b by omega)
  have h2:=Int.fmod_lt_of_pos (-a) (show 0 < -b by omega)
  omega
def Z2k(a:Int):gd a 0=if a<0 then -a else a:=by
 unfold gd
 rw[Int.gcd_zero]
 split<;>omega
def Z2J(a:Int){b:Int}(h:b≠0):0<gd a b:=by
 have:=Int.gcd_ne_zero_right (a:=a) h
 unfold gd
 omega
def Z1k(a b:Int):0<=gd a b:=by
 unfold gd
 omega
def Z37(a:Int){b:Int}(h:b≠0):gd a b<=b.natAbs:=by
 unfold gd
 have:=Int.gcd_dvd_natAbs_right a b
 have:=Nat.le_of_dvd (by omega) this
 omega
def dv(t b:Int):Int:=if b<0 then-gd t b else gd t b
end My
namespace Hu
abbrev Pt:=Int×Int
def tn(a b c:Pt):Int:=(b.1-a.1)*(c.2-a.2)-(b.2-a.2)*(c.1-a.1)
section
variable{S:List Pt}{p:Pt}
end
abbrev Ln:=Int×Int×Int
def hd(l:Ln)(p:Pt):Bool:=decide (l.1*p.1+l.2.1*p.2<=l.2.2)
def Z4(a b:Pt):Ln:=(b.2-a.2,a.1-b.1,(b.2-a.2)*a.1+(a.1-b.1)*a.2)
def Z2b{a b s:Pt}:hd (Z4 a b) s=true↔0<=tn a b s:=by
 unfold hd Z4
 rw[decide_eq_true_iff]
 have e:tn a b s=((b.2-a.2)*a.1+(a.1-b.1)*a.2)-((b.2-a.2)*s.1+(a.1-b.1)*s.2):=by simp only[tn];grind
 dsimp only
 omega
def Z3(S:List Pt):List Pt:=S.foldl (λk x=>if x∈k then k else k ++ [x]) []
theorem Z0a(x:Pt):∀(S k:List Pt),x∈S.foldl (λk x=>if x∈k then k else k ++ [x]) k↔x∈k\/x∈S
 | [],k=>by simp
 |y::S,k=>by
  rw[List.foldl_cons,Z0a x S]
  by_cases h:y∈k
  ·rw[if_pos h]
   constructor
   ·rintro (q|q)
    ·exact .inl q
    ·exact .inr (List.mem_cons_of_mem _ q)
   ·rintro (q|q)
    ·exact .inl q
    ·rcases List.mem_cons.mp q with e|e
     ·exact .inl (e▸h)
     ·exact .inr e
  ·rw[if_neg h]
   simp only[List.mem_append,List.mem_cons,List.not_mem_nil,or_false]
   constructor
   ·rintro ((q|q)|q)
    ·exact .inl q
    ·exact .inr (.inl q)
    ·exact .inr (.inr q)
   ·rintro (q|q|q)
    ·exact .inl (.inl q)
    ·exact .inl (.inr q)
    ·exact .inr q
def Zk{x:Pt}{S:List Pt}:x∈Z3 S↔x∈S:=by unfold Z3;rw[Z0a];simp
def Zw(S:List Pt):List Ln:=(Z3 S).flatMap λa=>(Z3 S).filterMap λb=>if a≠b/\(Z3 S).all (hd (Z4 a b)) then some (Z4 a b) else none
def Z1l{S:List Pt}{l:Ln}:l∈Zw S↔∃a∈S,∃b∈S,a≠b/\(∀s∈S,0<=tn a b s)/\l=Z4 a b:=by
 unfold Zw
 simp only[List.mem_flatMap,List.mem_filterMap]
 constructor
 ·rintro ⟨a,ha,b,hb,h⟩
  split at h
  ·rename_i hc
   refine⟨a,Zk.mp ha,b,Zk.mp hb,hc.1,λs hs=>?_,(Option.some.inj h).symm⟩
   exact Z2b.mp (List.all_eq_true.mp hc.2 s (Zk.mpr hs))
  ·cases h
 ·rintro ⟨a,ha,b,hb,h1,h2,rfl⟩
  refine⟨a,Zk.mpr ha,b,Zk.mpr hb,?_⟩
  rw[if_pos ⟨h1,List.all_eq_true.mpr λs hs=>Z2b.mpr (h2 s (Zk.mp hs))⟩]
def mx(l:List Int):Int:=l.tail.foldl max (l.headD 0)
def mn(l:List Int):Int:=l.tail.foldl min (l.headD 0)
def box(S:List Pt):List Ln:=[(1,0,mx (S.map (·.1))),(-1,0,- mn (S.map (·.1))),(0,1,mx (S.map (·.2))),(0,-1,- mn (S.map (·.2)))]
def Zi(S:List Pt):List Ln:=box S++Zw S
def Zy(S:List Pt)(p:Pt):Option Ln:=(Zi S).find? λl=>!hd l p
def xY(a b c p:Pt):List Int:=[tn p b c,tn a p c,tn a b p]
def xZ(a b p:Pt):List Int:=
 let g:=(b.1-a.1)*(p.1-a.1)+(b.2-a.2)*(p.2-a.2)
 [(b.1-a.1)*(b.1-a.1)+(b.2-a.2)*(b.2-a.2)-g,g]
def Zt(w:List Int):Bool:=decide (w.sum≠0) && w.all λs=>decide (0<=s*w.sum)
def at_(S:List Pt)(i:Nat):Pt:=S.getD i (0,0)
def Z2K{S:List Pt}{i:Nat}(h:i<S.length):at_ S i∈S:=by
 unfold at_
 rw[List.getD_eq_getElem?_getD,List.getElem?_eq_getElem h]
 exact List.getElem_mem h
def Z8(n:Nat):List (Nat×Nat):=(List.range n).flatMap λj=>(List.range j).map λi=>(i,j)
def Za(n:Nat):List (Nat×Nat×Nat):=(List.range n).flatMap λk=>(Z8 k).map λq=>(q.1,q.2,k)
def ZF{n i j:Nat}:(i,j)∈Z8 n↔i<j/\j<n:=by
 unfold Z8
 simp only[List.mem_flatMap,List.mem_range,List.mem_map,Prod.mk.injEq]
 constructor
 ·rintro ⟨k,hk,m,hm,rfl,rfl⟩;exact⟨hm,hk⟩
 ·rintro ⟨h1,h2⟩;exact⟨j,h2,i,h1,rfl,rfl⟩
def Z0J{n i j k:Nat}:(i,j,k)∈Za n↔i<j/\j<k/\k<n:=by
 unfold Za
 simp only[List.mem_flatMap,List.mem_range,List.mem_map,Prod.mk.injEq]
 constructor
 ·rintro ⟨m,hm,⟨a,b⟩,hq,rfl,rfl,rfl⟩
  have:=ZF.mp hq
  exact⟨this.1,this.2,hm⟩
 ·rintro ⟨h1,h2,h3⟩;exact⟨k,h3,(i,j),ZF.mpr ⟨h1,h2⟩,rfl,rfl,rfl⟩
def Z2L(S:List Pt)(p:Pt):Option (List Int×List Nat):=(Za S.length).findSome? λq=>if Zt (xY (at_ S q.1) (at_ S q.2.1) (at_ S q.2.2) p) then some (xY (at_ S q.1) (at_ S q.2.1) (at_ S q.2.2) p,[q.1,q.2.1,q.2.2]) else none
def Z2M(S:List Pt)(p:Pt):Option (List Int×List Nat):=(Z8 S.length).findSome? λq=>if Zt (xZ (at_ S q.1) (at_ S q.2) p) then some (xZ (at_ S q.1) (at_ S q.2) p,[q.1,q.2]) else none
def Z0Z(S:List Pt)(p:Pt):List Int×List Nat:=((Z2L S p).orElse λ_=>Z2M S p).getD ([1],[0])
structure Z3o(S:List Pt)(p:Pt)(w:List Int)(q:List Nat):Prop where
 len:w.length=q.length
 sum:w.sum≠0
 sign:∀s∈w,0<=s*w.sum
 nd:q.Nodup
 lt:∀i∈q,i<S.length
 x:((w.zip q).map λa=>a.1*(at_ S a.2).1).sum=w.sum*p.1
 y:((w.zip q).map λa=>a.1*(at_ S a.2).2).sum=w.sum*p.2
def Z0k{w:List Int}:Zt w=true↔w.sum≠0/\∀s∈w,0<=s*w.sum:=by
 unfold Zt
 simp
end Hu
namespace Fr
def lay(l:List Int)(a:List (Int×Nat)):List Int:=a.foldl (λacc a=>acc.set a.2 a.1) l
end Fr
namespace T
open PySem L2 M2 M3 M4 P
noncomputable section
def top(i:Nat):Stmt:=PySem.Challenge.pw_shadowpost_k44_whole_kept_yards.main.body.getD i (.Pass ⟨0,0,0,0⟩)
abbrev UJ:Stmt:=top 88
abbrev UL:Stmt:=top 82
abbrev UW:Stmt:=top 83
abbrev U_:Stmt:=top 87
abbrev Nt:Stmt:=top 89
abbrev Nu:Stmt:=inClass (top 49) 0
abbrev Va:Stmt:=top 90
abbrev Vb:Stmt:=top 50
abbrev Vc:Stmt:=top 53
abbrev Vd:Stmt:=top 52
abbrev Ve:Stmt:=top 51
abbrev Vf:Stmt:=top 54
abbrev Vg:Stmt:=top 56
abbrev Nv:Stmt:=top 4
abbrev Nx:Stmt:=top 6
abbrev Vh:Stmt:=top 3
abbrev Vi:Stmt:=top 5
abbrev HN:Stmt:=top 7
abbrev Vj:Stmt:=top 2
abbrev HS:Stmt:=top 19
abbrev Vk:Stmt:=top 21
abbrev Vl:Stmt:=top 20
abbrev Vm:Stmt:=top 18
abbrev Ny:Stmt:=top 22
abbrev Vn:Stmt:=top 23
abbrev Vo:Stmt:=top 24
abbrev Nz:Stmt:=top 30
abbrev NK:Stmt:=top 31
abbrev Zez:Stmt:=top 15
abbrev Vp:Stmt:=top 16
abbrev NP:Stmt:=top 29
abbrev Vq:Stmt:=top 25
abbrev ZeA:Stmt:=top 26
abbrev NQ:Stmt:=top 28
abbrev Vr:Stmt:=top 27
abbrev HW:Stmt:=top 32
abbrev Vs:Stmt:=top 33
abbrev Vt:Stmt:=top 35
abbrev Vu:Stmt:=top 72
abbrev Vv:Stmt:=top 73
abbrev Vw:Stmt:=inClass (top 75) 0
abbrev Vx:Stmt:=inClass (top 76) 0
abbrev Vy:Stmt:=inClass (top 77) 0
abbrev ZbZ:Stmt:=inClass (top 78) 0
abbrev Vz:Stmt:=inClass (top 79) 0
abbrev NT:Stmt:=top 38
abbrev VB:Stmt:=top 36
abbrev VD:Stmt:=top 39
abbrev VF:Stmt:=top 40
abbrev VG:Stmt:=top 58
abbrev NZ:Stmt:=top 59
abbrev VH:Stmt:=top 47
abbrev N_:Stmt:=top 57
abbrev HX:Stmt:=top 60
abbrev VJ:Stmt:=top 85
abbrev VL:Stmt:=top 84
abbrev Oa:Stmt:=top 86
abbrev Ob:Stmt:=top 92
abbrev VN:Stmt:=top 42
abbrev VP:Stmt:=top 43
abbrev VR:Stmt:=top 44
abbrev Zb0:Stmt:=top 45
abbrev V_:Stmt:=top 46
abbrev Wa:Stmt:=top 93
abbrev Oc:Stmt:=top 94
abbrev Wb:Stmt:=top 64
abbrev Wc:Stmt:=top 65
abbrev Wd:Stmt:=top 67
abbrev ZeB:Stmt:=inClass (top 74) 0
abbrev Od:Stmt:=top 68
abbrev Wf:Stmt:=top 69
abbrev ZeC:Stmt:=top 70
abbrev ZeD:Stmt:=top 66
abbrev Oe:Stmt:=top 71
abbrev Wg:Stmt:=top 80
abbrev Wh:Stmt:=top 91
abbrev Bd:Stmt:=top 95
abbrev ZeE:Stmt:=inClass (top 12) 0
abbrev ZeF:Stmt:=inClass (top 13) 0
def ZU:List ((String×String)×Bool):=[]
def ZV:List ((String×String)×Bool):=[]
def ZW:List String:=[]
def ZX:List String:=[]
def cmB(c0:Addr)(c1:Addr)(c2:Addr)(c3:Addr)(c4:Addr)(c5:Addr)(c6:Addr)(c7:Addr)(c8:Addr)(c9:Addr)(c10:Addr)(c11:Addr):String->Addr:=λs=>match s with
 | "YardError" =>c0
 | "NoNumber" =>c1
 | "BadThing" =>c2
 | "NoStone" =>c3
 | "NoTurn" =>c4
 | "Yard" =>c5
 | "Thing" =>c6
 | "Post" =>c7
 | "Fence" =>c8
 | "Sail" =>c9
 | "Cloth" =>c10
 | "House" =>c11
 |_=>0
def pC:M Fl:=(ģ (gq (mj (dh (ć aD (ć ō (ć bK (ā 0) (mC (.int 7))) (mC (.int 16))) (mC (.int 11)))) (dh (ć RT (ā 1) (mC (.int 6)))))
 (į (ş (ć Ę (Ė (bV (Ĉ (Ŧ (Ĉ (mC (.int 1)) (Ĉ (mC (.int 20)) ĝ))) (Ĉ (Ŧ (Ĉ (mC (.int 20)) (Ĉ (mC (.int 1)) ĝ))) ĝ)))) (ć ō (ā 0) (mC (.int 2))))))
 gH)
 (ģ (ķ 2 (ĺ Ķ (mC (.int 1)) (ć ō (ā 0) (eY vo (Ĉ (mC (.int 5)) (Ĉ (ā 1) ĝ))))))
 (į (ş (Ŧ (Ĉ (Ĥ 2) (Ĉ (Ė (ĺ Ķ (mC (.int 1)) (ć ō (ć bK (ā 0) (mC (.int 5))) (eY vo (Ĉ (mC (.int 4)) (Ĉ (ć bK (ā 1) (ā 2)) ĝ)))))) ĝ)))))))
def pY:MF:=ļ 2 3 pC
def yc:M Fl:=(ģ (gq (dh (ć lU (ā 1) (eY fj (Ĉ (ā 0) ĝ))))
 (į (ş (ć Ę (ā 0) (ā 1))))
 gH)
 (į (ş (mC (.int 0)))))
def cN:MF:=ļ 2 2 yc
def pD:M Fl:=(gq (dh (ć aD (ć ō (ā 0) (mC (.int 2))) (mC (.int 0))))
 (ģ (uH 2 (ć ō (ā 3) (mC (.int 524287))))
 (ķ 3 (ş (ć bK (ā 3) (mC (.int 524287))))))
 (ģ (ķ 3 (ş (ć ō (Ė (ĺ Ķ (Ė (ĺ Ķ (ć Ĺ (ā 3) (mC (.int 49157))) (mC (.int 24593)))) (ć Ĺ (mC (.int 2)) (ā 4)))) (mC (.int 8388593)))))
 (uH 2 (ć bK (ā 3) (mC (.int 16))))))
def yg:M Fl:=(ģ (ķ 2 (bV ĝ))
 (ģ (ķ 3 (ş (ć bK (ā 0) (mC (.int 2)))))
 (ģ (gq (dh (ć aD (ć ō (ā 0) (mC (.int 2))) (mC (.int 1))))
 (ķ 3 (ş (ć ō (ā 3) (mC (.int 8388593)))))
 gH)
 (ģ (eG (aW bT (Ĉ (Ĥ 1) ĝ)) (gN 4) pD)
 (į (cZ 2))))))
def nZ:MF:=ļ 2 5 yg
def yj:M Fl:=(ģ (gq (dh (ć aD (ć ō (ć Ę (ā 0) (mC (.int 4))) (mC (.int 6))) (mC (.int 4))))
 (į (ş (mC .non)))
 gH)
 (ģ (ķ 1 (ş (ć Ę (Ė (bV (Ĉ (mC (.int 1)) (Ĉ (mC (.int 1)) (Ĉ (mC (.int 3)) (Ĉ (ć pQ (mC (.int 10)) (mC (.int 5))) ĝ)))))) (ć ō (ć Ę (ā 0) (mC (.int 3))) (mC (.int 4))))))
 (į (ş (Ŧ (Ĉ (ć Ĺ (ć au (ć ō (ć Ę (ā 0) (mC (.int 0))) (mC (.int 13))) (mC (.int 6))) (ā 1)) (Ĉ (ć Ĺ (ć au (ć ō (ć Ę (ā 0) (mC (.int 1))) (mC (.int 13))) (mC (.int 6))) (ā 1)) (Ĉ (ć Ĺ (Ė (ĺ Ķ (mC (.int 1)) (ć ō (ć Ę (ā 0) (mC (.int 2))) (mC (.int 5))))) (ā 1)) ĝ))))))))
def sW:MF:=ļ 1 2 yj
def yq:M Fl:=(ģ (ķ 8 (Ē nZ (Ĕ (Ė (ĺ Ķ (ć bK (Ė (Ē cN (Ą 0 (Ĕ (Ė (ĺ Ķ (ā 1) (ā 7))) Ď)))) (mC (.int 12))) (ć Ĺ (mC (.int 5)) (ā 7)))) (Ĕ (Ė (ĺ Ķ (ć Ĺ (mC (.int 5)) (ā 3)) (mC (.int 2)))) Ď))))
 (ģ (ķ 9 (ś [8] 1 (aW bT (Ĉ (Ė (ĺ Ķ (mC (.int 1)) (ć ō (ć Ę (ā 8) (mC (.int 1))) (ā 3)))) ĝ)) (gN 1) Ŏ (Ė (Ē sW (Ĕ (Ė (Ad (ā 0) (mP (Ė (ĺ Ķ (mC (.int 2)) (ć Ĺ (mC (.int 5)) (ā 1))))) (mP (Ė (ĺ Ķ (mC (.int 7)) (ć Ĺ (mC (.int 5)) (ā 1))))))) Ď)))))
 (uH 6 (Ŧ (Ĉ (ć Ę (ā 4) (ā 7)) (Ĉ (Ė (ĺ Ķ (mC (.int 1)) (ć ō (ć Ĺ (ć Ę (ā 8) (mC (.int 0))) (mC (.int 1907))) (ć pQ (mC (.int 10)) (mC (.int 9)))))) (Ĉ (Ĥ 9) ĝ)))))))
def DN:M Fl:=(ģ (ķ 4 (bV (Ĉ (mC (.str "ab")) (Ĉ (mC (.str "a")) (Ĉ (mC (.str "abc")) (Ĉ (mC (.str "b")) (Ĉ (mC (.str "ba")) (Ĉ (mC (.str "z")) (Ĉ (mC (.str "zz")) (Ĉ (mC (.str "zzz")) (Ĉ (mC (.str "abcdefgh")) (Ĉ (mC (.str "abcdefgi")) (Ĉ (mC (.str "aa")) (Ĉ (mC (.str "bb")) ĝ))))))))))))))
 (ģ (ķ 5 (ş (ć ō (Ė (Ē cN (Ą 0 (Ą 1 Ď)))) (mC (.int 12)))))
 (ģ (ķ 4 (ĺ Ķ (Ė (Ad (ā 4) (mP (Ĥ 5)) Ac)) (Ė (Ad (ā 4) Ac (mP (Ĥ 5))))))
 (ģ (ķ 6 (bV ĝ))
 (ģ (eG (aW bT (Ĉ (Ĥ 2) ĝ)) (gN 7) yq)
 (į (cZ 6)))))))
def vK:MF:=ļ 4 10 DN
def DP:M Fl:=(ģ (mz 0 ["Yard"] "width" (Ĥ 1))
 (ģ (mz 0 ["Yard"] "height" (Ĥ 2))
 (ģ (mz 0 ["Yard"] "things" (Ė (qF gK (Ĉ (ā 3) ĝ))))
 (mz 0 ["Yard"] "days" (Ė (ś [] 3 (ř 4) (gT 3 (ę (gN 0) (ę (gN 1) (ę (gN 2) Ř)))) Ŏ (Ŧ (Ĉ (Ĥ 0) (Ĉ (Ĥ 1) (Ĉ (Ė (qF gK (Ĉ (ā 2) ĝ))) ĝ))))))))))
def lJ:MI:=gM 5 5 "Yard" DP
def yr:M Fl:=(ģ (ķ 5 (Ē nZ (Ą 4 (Ĕ (mC (.int 4)) Ď))))
 (ģ (ķ 6 (ş (ć ō (ć Ę (ā 5) (mC (.int 0))) (eY fj (Ĉ (ā 2) ĝ)))))
 (uH 3 (Ŧ (Ĉ (Ŧ (Ĉ (ć ō (ć Ę (ā 5) (mC (.int 1))) (ć Ę (ā 1) (mC (.int 0)))) (Ĉ (ć ō (ć Ę (ā 5) (mC (.int 2))) (ć Ę (ā 1) (mC (.int 1)))) ĝ))) (Ĉ (Ĥ 6) (Ĉ (ć ō (ć Ę (ā 5) (mC (.int 3))) (eY fj (Ĉ (ć Ę (ć Ę (ā 2) (ā 6)) (mC (.int 2))) ĝ))) ĝ)))))))
def DQ:M Fl:=(ģ (ķ 3 (bV ĝ))
 (ģ (eG (ř 0) (gN 4) yr)
 (į (cZ 3))))
def Bf:MF:=ļ 3 7 DQ
def DR:M Fl:=(į (ş (jg (qC nJ lU (mC (.int 0)) (ć Ę (ā 1) (mC (.int 0))) (jL (aX ["Yard"] "width") (ā 0))) (qC nJ lU (mC (.int 0)) (ć Ę (ā 1) (mC (.int 1))) (jL (aX ["Yard"] "height") (ā 0))))))
def HY:MF:=ļ 2 2 DR
def DW:M Fl:=(gq (lZ (iw (Ė (Ē HY (Ą 0 (Ą 1 Ď))))))
 (qZ "NoStone" 2 [("stone",1)] (Ĉ (Ĥ 1) ĝ))
 gH)
def H_:MF:=ļ 2 2 DW
def sX:M Fl:=(į (ş (qC nJ lU (mC (.int 0)) (ā 1) (eY fj (Ĉ (jL (aX ["Yard"] "days") (ā 0)) ĝ)))))
def vL:MF:=ļ 2 2 sX
def DX:M Fl:=(į (ş (ć Ę (ć Ę (jL (aX ["Yard"] "days") (ā 0)) (ā 1)) (mC (.int 2)))))
def n_:MF:=ļ 2 2 DX
def DY:M Fl:=(gq (qD (lZ (iw (Ė (Ē vL (Ą 0 (Ą 1 Ď)))))) (lZ (dh (qC nJ lU (mC (.int 0)) (ā 2) (eY fj (Ĉ (Ė (Ē n_ (Ą 0 (Ą 1 Ď)))) ĝ))))))
 (qZ "NoTurn" 3 [("day",1),("turn",2)] (Ĉ (Ĥ 1) (Ĉ (Ĥ 2) ĝ)))
 gH)
def Ia:MF:=ļ 3 3 DY
def yu:M Fl:=(ģ (zY (Ė (Ē H_ (Ą 0 (Ą 2 Ď)))))
 (zY (Ė (Ē Ia (Ą 0 (Ą 3 (Ą 4 Ď)))))))
def D_:M Fl:=(eG (ř 1) (gT 3 (ę (gN 2) (ę (gN 3) (ę (gN 4) Ř)))) yu)
def Ib:MF:=ļ 2 5 D_
def Ea:M Fl:=(į (ś [1] 2 (Ax (Jx 0)) (gT 2 (ę (gN 1) (ę (gN 2) Ř))) (iw (ć rQ (ć pU (ā 0) (ā 1)) (mC (.int 1)))) (Ĥ 2)))
def pZ:MF:=ļ 2 2 Ea
def Eb:M Fl:=(į (ş (Nr [0] (eY o_ (Ĉ (Ė (Ē pZ (Ą 0 (Ą 1 Ď)))) ĝ)) (Ĉ (ā 1) ĝ))))
def Ie:MF:=ļ 2 2 Eb
def yx:M Fl:=(gq (lZ (iw (ć rQ (ć pU (ā 0) (ā 2)) (mC (.int 1)))))
 (į (cZ 2))
 gH)
def yC:M Fl:=(ģ (eG (aW bT (Ĉ (Ĥ 1) ĝ)) (gN 2) yx)
 (į (ş (mC .non))))
def vM:MF:=ļ 2 3 yC
def Ec:M Fl:=(sO 3 (Ĥ 4))
def Ed:M Fl:=(ģ (ķ 3 (ş (Ĥ 2)))
 (ģ (eG (Ű (Ė (Ē pZ (Ą 0 (Ą 1 Ď))))) (gN 4) Ec)
 (į (cZ 3))))
def Bg:MF:=ļ 3 5 Ed
def yD:M Fl:=(ģ (ķ 4 (ś [2,1,3] 1 (aW bT (Ĉ (ć pR (mC (.int 1)) (eY fj (Ĉ (ā 0) ĝ))) ĝ)) (gN 3) Ŏ (Ė (Ē vM (Ĕ (Ė (Ē Bg (Ą 1 (Ą 3 (Ą 2 Ď))))) (Ą 0 Ď))))))
 (ģ (gq (dh (ć jl (ć Ę (ā 4) (jL iY (mC (.int 1)))) (mC .non)))
 (į (ş (Ŧ (Ĉ (mC (.str "none")) (Ĉ (ć Ę (ā 4) (jL iY (mC (.int 1)))) ĝ)))))
 gH)
 (ģ (ķ 5 (Ē Ie (Ą 0 (Ĕ (Ė (ś [] 2 (Ax (Jx 4)) (gT 2 (ę (gN 0) (ę (gN 1) Ř))) (dh (ć uK (ā 1) (mC .non))) (Ĥ 0))) Ď))))
 (į (ş (Ŧ (Ĉ (mC (.str "choice")) (Ĉ (Ĥ 5) (Ĉ (eY o_ (Ĉ (Ė (Ē pZ (Ą 0 (Ą 5 Ď)))) ĝ)) (Ĉ (Ĥ 4) ĝ))))))))))
def Bh:MF:=ļ 4 6 yD
def sY:M Fl:=(gq (iw (ā 3))
 (sO 1 (ć pR (mC (.int 1)) (ā 2)))
 gH)
def Ef:M Fl:=(ģ (ķ 1 (ş (mC (.int 0))))
 (ģ (eG (Ax (Jx 0)) (gT 2 (ę (gN 2) (ę (gN 3) Ř))) sY)
 (į (cZ 1))))
def Bj:MF:=ļ 1 4 Ef
def Eh:M Fl:=(ģ (ķ 1 (ś [] 1 (ř 0) (gN 0) Ŏ (ć Ę (ā 0) (mC (.int 0)))))
 (ģ (ķ 2 (ś [] 1 (ř 0) (gN 0) Ŏ (ć Ę (ā 0) (mC (.int 1)))))
 (į (bV (Ĉ (Ŧ (Ĉ (mC (.int 1)) (Ĉ (mC (.int 0)) (Ĉ (eY kO (Ĉ (ā 1) ĝ)) ĝ)))) (Ĉ (Ŧ (Ĉ (jL iY (mC (.int 1))) (Ĉ (mC (.int 0)) (Ĉ (jL iY (eY vB (Ĉ (ā 1) ĝ))) ĝ)))) (Ĉ (Ŧ (Ĉ (mC (.int 0)) (Ĉ (mC (.int 1)) (Ĉ (eY kO (Ĉ (ā 2) ĝ)) ĝ)))) (Ĉ (Ŧ (Ĉ (mC (.int 0)) (Ĉ (jL iY (mC (.int 1))) (Ĉ (jL iY (eY vB (Ĉ (ā 2) ĝ))) ĝ)))) ĝ))))))))
def Ig:MF:=ļ 1 3 Eh
def pF:M Fl:=(gq (dh (ć (inD true) (ā 2) (ā 1)))
 (uH 1 (Ĥ 2))
 gH)
def Ei:M Fl:=(ģ (ķ 1 (bV ĝ))
 (ģ (eG (ř 0) (gN 2) pF)
 (į (cZ 1))))
def Ih:MF:=ļ 1 3 Ei
def Ej:M Fl:=(ģ (ķ 2 (ş (ć au (ć Ę (ā 1) (mC (.int 1))) (ć Ę (ā 0) (mC (.int 1))))))
 (ģ (ķ 3 (ş (ć au (ć Ę (ā 0) (mC (.int 0))) (ć Ę (ā 1) (mC (.int 0))))))
 (į (ş (Ŧ (Ĉ (Ĥ 2) (Ĉ (Ĥ 3) (Ĉ (Ė (ĺ Ķ (ć Ĺ (ā 2) (ć Ę (ā 0) (mC (.int 0)))) (ć Ĺ (ā 3) (ć Ę (ā 0) (mC (.int 1)))))) ĝ))))))))
def Ii:MF:=ļ 2 4 Ej
def Ek:M Fl:=(į (ş (ć nJ (Ė (ĺ Ķ (ć Ĺ (ć Ę (ā 0) (mC (.int 0))) (ć Ę (ā 1) (mC (.int 0)))) (ć Ĺ (ć Ę (ā 0) (mC (.int 1))) (ć Ę (ā 1) (mC (.int 1)))))) (ć Ę (ā 0) (mC (.int 2))))))
def sZ:MF:=ļ 2 2 Ek
def pG:M Fl:=(ģ (ķ 5 (Ē Ii (Ą 3 (Ą 4 Ď))))
 (gq (mj (dh (ć dD (ā 3) (ā 4))) (iw (eY wZ (Ĉ (Ė (ś [5] 1 (ř 2) (gN 1) Ŏ (Ė (Ē sZ (Ą 0 (Ą 1 Ď)))))) ĝ))))
 (uH 1 (Ĥ 5))
 gH))
def yE:M Fl:=(eG (ř 2) (gN 4) pG)
def El:M Fl:=(ģ (ķ 1 (bV ĝ))
 (ģ (ķ 2 (Ē Ih (Ą 0 Ď)))
 (ģ (eG (ř 2) (gN 3) yE)
 (į (cZ 1)))))
def Ij:MF:=ļ 1 6 El
def Em:M Fl:=(į (ĺ Ķ (Ė (Ē Ig (Ą 0 Ď))) (Ė (Ē Ij (Ą 0 Ď)))))
def Bk:MF:=ļ 1 1 Em
def yF:M Fl:=(gq (lZ (iw (Ė (Ē sZ (Ą 2 (Ą 1 Ď))))))
 (į (cZ 2))
 gH)
def yG:M Fl:=(ģ (eG (Ű (Ė (Ē Bk (Ą 0 Ď)))) (gN 2) yF)
 (į (ş (mC .non))))
def Bl:MF:=ļ 2 3 yG
def tu:M Fl:=(Dw 1 (ś [2] 1 (aW bT (Ĉ (Ĥ 2) ĝ)) (gN 1) Ŏ (Ŧ (Ĉ (Ĥ 1) (Ĉ (Ĥ 0) ĝ)))))
def En:M Fl:=(ģ (ķ 1 (bV ĝ))
 (ģ (eG (aW bT (Ĉ (Ĥ 0) ĝ)) (gN 2) tu)
 (į (cZ 1))))
def Bm:MF:=ļ 1 3 En
def tD:M Fl:=(Dw 1 (ś [2] 1 (JD (Ű (Ė (Ē Bm (Ą 2 Ď))))) (gN 1) Ŏ (Ŧ (Ĉ (ć Ę (ā 1) (mC (.int 0))) (Ĉ (ć Ę (ā 1) (mC (.int 1))) (Ĉ (Ĥ 0) ĝ))))))
def Eo:M Fl:=(ģ (ķ 1 (bV ĝ))
 (ģ (eG (aW bT (Ĉ (Ĥ 0) ĝ)) (gN 2) tD)
 (į (cZ 1))))
def Ik:MF:=ļ 1 3 Eo
def Wi:M Fl:=(bI (dh (ć dD (ā 1) (mC (.int 0))))
 (ģ (ķ 2 (ş (ć ō (ā 0) (ā 1))))
 (ģ (ķ 0 (ş (Ĥ 1)))
 (ķ 1 (ş (Ĥ 2))))))
def Og:M Fl:=(ģ Wi
 (į (ş (eY RX (Ĉ (ā 0) ĝ)))))
def Te:MF:=ļ 2 3 Og
def yH:M Fl:=(ģ (gq (dh (ć aD (ā 1) (mC (.int 0))))
 (xG "NoNumber")
 gH)
 (ģ (ķ 2 (Ē Te (Ą 0 (Ą 1 Ď))))
 (ģ (gq (dh (ć lU (ā 1) (mC (.int 0))))
 (ķ 2 (ş (jL iY (ā 2))))
 gH)
 (į (ş (Ŧ (Ĉ (ć bK (ā 0) (ā 2)) (Ĉ (ć bK (ā 1) (ā 2)) ĝ))))))))
def qb:MF:=ļ 2 3 yH
def yI:M Fl:=(Dc 4 (Ĥ 6) (Ė (Ē qb (Ą 5 (Ą 3 Ď)))))
def pH:M Fl:=(ģ (ķ 3 (ş (eY o_ (Ĉ (ā 0) ĝ))))
 (ģ (ķ 4 (ś [3] 1 (aW bT (Ĉ (Ĥ 2) ĝ)) (gN 1) Ŏ (Ė (Ē qb (Ĕ (mC (.int 0)) (Ą 0 Ď))))))
 (ģ (eG (JB (Nh 0) (Nh 1)) (gT 2 (ę (gN 5) (ę (gN 6) Ř))) yI)
 (į (cZ 4)))))
def oh:MF:=ļ 3 7 pH
def Ep:M Fl:=(ģ (ķ 3 (ş (ć Ĺ (ć au (ć Ę (ā 1) (mC (.int 0))) (ć Ę (ā 0) (mC (.int 0)))) (ć au (ć Ę (ā 2) (mC (.int 1))) (ć Ę (ā 0) (mC (.int 1)))))))
 (į (ş (ć au (ā 3) (ć Ĺ (ć au (ć Ę (ā 1) (mC (.int 1))) (ć Ę (ā 0) (mC (.int 1)))) (ć au (ć Ę (ā 2) (mC (.int 0))) (ć Ę (ā 0) (mC (.int 0)))))))))
def vN:MF:=ļ 3 4 Ep
def Oh:M Fl:=(ģ (ķ 2 (ş (ć Ę (ā 0) (mC (.int 0)))))
 (ģ (ķ 3 (ş (ć Ę (ā 0) (mC (.int 1)))))
 (ģ (ķ 4 (ş (ć Ę (ā 0) (mC (.int 2)))))
 (į (bV (Ĉ (Ė (Ē vN (Ą 1 (Ą 3 (Ą 4 Ď))))) (Ĉ (Ė (Ē vN (Ą 2 (Ą 1 (Ą 4 Ď))))) (Ĉ (Ė (Ē vN (Ą 2 (Ą 3 (Ą 1 Ď))))) ĝ))))))))
def Tf:MF:=ļ 2 5 Oh
def yJ:M Fl:=(ģ (ķ 1 (ş (eY o_ (Ĉ (ā 0) ĝ))))
 (į (ş (jg (ć dD (ā 1) (mC (.int 0))) (eY wZ (Ĉ (Ė (ś [1] 1 (ř 0) (gN 1) Ŏ (ć Lz (ć Ĺ (ā 1) (ā 0)) (mC (.int 0))))) ĝ))))))
def vO:MF:=ļ 1 2 yJ
def Er:M Fl:=(ģ (ķ 2 (ş (ć au (ć Ę (ć Ę (ā 0) (mC (.int 1))) (mC (.int 0))) (ć Ę (ć Ę (ā 0) (mC (.int 0))) (mC (.int 0))))))
 (ģ (ķ 3 (ş (ć au (ć Ę (ć Ę (ā 0) (mC (.int 1))) (mC (.int 1))) (ć Ę (ć Ę (ā 0) (mC (.int 0))) (mC (.int 1))))))
 (ģ (ķ 4 (ĺ Ķ (ć Ĺ (ā 2) (ć au (ć Ę (ā 1) (mC (.int 0))) (ć Ę (ć Ę (ā 0) (mC (.int 0))) (mC (.int 0))))) (ć Ĺ (ā 3) (ć au (ć Ę (ā 1) (mC (.int 1))) (ć Ę (ć Ę (ā 0) (mC (.int 0))) (mC (.int 1)))))))
 (į (bV (Ĉ (ć au (Ė (ĺ Ķ (ć Ĺ (ā 2) (ā 2)) (ć Ĺ (ā 3) (ā 3)))) (ā 4)) (Ĉ (Ĥ 4) ĝ)))))))
def Il:MF:=ļ 2 5 Er
def yK:M Fl:=(ģ (ķ 4 (Ē Il (Ĕ (Ė (ś [0] 1 (ř 3) (gN 1) Ŏ (ć Ę (ā 0) (ā 1)))) (Ą 1 Ď))))
 (gq (iw (Ė (Ē vO (Ą 4 Ď))))
 (į (Ē oh (Ą 4 (Ą 3 (Ą 2 Ď)))))
 gH))
def yL:M Fl:=(ģ (ķ 4 (Ē Tf (Ĕ (Ė (ś [0] 1 (ř 3) (gN 1) Ŏ (ć Ę (ā 0) (ā 1)))) (Ą 1 Ď))))
 (gq (iw (Ė (Ē vO (Ą 4 Ď))))
 (į (Ē oh (Ą 4 (Ą 3 (Ą 2 Ď)))))
 gH))
def tE:M Fl:=(ģ (ķ 2 (ş (eY fj (Ĉ (ā 0) ĝ))))
 (ģ (eG (Ű (Ė (Ē Ik (Ą 2 Ď)))) (gN 3) yL)
 (ģ (eG (Ű (Ė (Ē Bm (Ą 2 Ď)))) (gN 3) yK)
 (į (Ē oh (Ĕ (Ė (bV (Ĉ (mC (.int 1)) ĝ))) (Ĕ (Ė (bV (Ĉ (mC (.int 0)) ĝ))) (Ą 2 Ď))))))))
def vP:MF:=ļ 2 5 tE
def yM:M Fl:=(ģ (ķ 2 (Ē Bl (Ą 0 (Ą 1 Ď))))
 (ģ (gq (dh (ć uK (ā 2) (mC .non)))
 (į (ş (Ŧ (Ĉ (mC (.str "in")) (Ĉ (Ė (Ē vP (Ą 0 (Ą 1 Ď)))) ĝ)))))
 gH)
 (į (ş (Ŧ (Ĉ (mC (.str "out")) (Ĉ (Ĥ 2) ĝ)))))))
def Bo:MF:=ļ 2 3 yM
def Es:M Fl:=(į (ş (Ŧ (Ĉ (Ė (ĺ Ķ (ć Ĺ (ć Ę (ā 1) (mC (.int 2))) (ć Ę (ā 0) (mC (.int 0)))) (ć Ĺ (ć Ę (ā 1) (mC (.int 0))) (ć Ę (ā 0) (mC (.int 2)))))) (Ĉ (Ė (ĺ Ķ (ć Ĺ (ć Ę (ā 1) (mC (.int 2))) (ć Ę (ā 0) (mC (.int 1)))) (ć Ĺ (ć Ę (ā 1) (mC (.int 1))) (ć Ę (ā 0) (mC (.int 2)))))) ĝ)))))
def tH:MF:=ļ 2 2 Es
def Et:M Fl:=(į (bV (Ĉ (Ŧ (Ĉ (Ĥ 0) (Ĉ (Ĥ 1) (Ĉ (Ĥ 4) ĝ)))) (Ĉ (Ŧ (Ĉ (Ĥ 2) (Ĉ (Ĥ 1) (Ĉ (Ĥ 4) ĝ)))) (Ĉ (Ŧ (Ĉ (Ĥ 2) (Ĉ (Ĥ 3) (Ĉ (Ĥ 4) ĝ)))) (Ĉ (Ŧ (Ĉ (Ĥ 0) (Ĉ (Ĥ 3) (Ĉ (Ĥ 4) ĝ)))) ĝ))))))
def vQ:MF:=ļ 5 5 Et
def Eu:M Fl:=(į (ĺ Ķ (Ė (Ē vQ (Ą 0 (Ą 1 (Ą 2 (Ą 3 (Ĕ (mC (.int 0)) Ď))))))) (Ė (Ē vQ (Ą 0 (Ą 1 (Ą 2 (Ą 3 (Ą 4 Ď)))))))))
def Bp:MF:=ļ 5 5 Eu
def Ew:M Fl:=(ģ (ķ 1 (ş (ć Ĺ (mC (.int 2)) (ć Ę (jL (aX ["Thing","Post","Fence","Sail","Cloth","House"] "numbers") (ā 0)) (mC (.int 0))))))
 (ģ (ķ 2 (ş (ć Ĺ (mC (.int 2)) (ć Ę (jL (aX ["Thing","Post","Fence","Sail","Cloth","House"] "numbers") (ā 0)) (mC (.int 1))))))
 (į (Ē Bp (Ĕ (ć au (ā 1) (mC (.int 1))) (Ĕ (ć au (ā 2) (mC (.int 1))) (Ĕ (Ė (ĺ Ķ (ā 1) (mC (.int 1)))) (Ĕ (Ė (ĺ Ķ (ā 2) (mC (.int 1)))) (Ĕ (ć Ę (jL (aX ["Thing","Post","Fence","Sail","Cloth","House"] "numbers") (ā 0)) (mC (.int 2))) Ď)))))))))
def qd:MF:=ļ 1 3 Ew
def Ey:M Fl:=(ģ (ķ 1 (ş (jL (aX ["Thing","Post","Fence","Sail","Cloth","House"] "numbers") (ā 0))))
 (ģ (ķ 2 (ş (Ŧ (Ĉ (ć Ę (ā 1) (mC (.int 0))) (Ĉ (ć Ę (ā 1) (mC (.int 1))) ĝ)))))
 (ģ (ķ 3 (ş (Ŧ (Ĉ (ć Ę (ā 1) (mC (.int 2))) (Ĉ (ć Ę (ā 1) (mC (.int 3))) ĝ)))))
 (į (bV (Ĉ (Ė (ĺ Ķ (ā 2) (Ŧ (Ĉ (mC (.int 0)) ĝ)))) (Ĉ (Ė (ĺ Ķ (ā 3) (Ŧ (Ĉ (mC (.int 0)) ĝ)))) (Ĉ (Ė (ĺ Ķ (ā 3) (Ŧ (Ĉ (ć Ę (ā 1) (mC (.int 4))) ĝ)))) (Ĉ (Ė (ĺ Ķ (ā 2) (Ŧ (Ĉ (ć Ę (ā 1) (mC (.int 4))) ĝ)))) ĝ)))))))))
def qe:MF:=ļ 1 4 Ey
def Ez:M Fl:=(ģ (ķ 1 (ş (jL (aX ["Thing","Post","Fence","Sail","Cloth","House"] "numbers") (ā 0))))
 (į (Ē vQ (Ĕ (ć Ę (ā 1) (mC (.int 0))) (Ĕ (ć Ę (ā 1) (mC (.int 1))) (Ĕ (ć Ę (ā 1) (mC (.int 2))) (Ĕ (ć Ę (ā 1) (mC (.int 3))) (Ĕ (ć Ę (ā 1) (mC (.int 4))) Ď))))))))
def qg:MF:=ļ 1 2 Ez
def Oi:M Fl:=(į (ś [0] 1 (Ű (Ŧ (Ĉ (mC (.int 0)) (Ĉ (mC (.int 3)) (Ĉ (mC (.int 6)) ĝ))))) (gN 1) Ŏ (eY rZ (Ĉ (Ė (Ad (jL (aX ["Thing","Post","Fence","Sail","Cloth","House"] "numbers") (ā 0)) (mP (Ĥ 1)) (mP (Ė (ĺ Ķ (ā 1) (mC (.int 3))))))) ĝ))))
def Bq:MF:=ļ 1 1 Oi
def EY:M Fl:=(ģ (ķ 1 (ş (jL (aX ["Thing","Post","Fence","Sail","Cloth","House"] "numbers") (ā 0))))
 (į (Ē Bp (Ĕ (ć Ę (ā 1) (mC (.int 0))) (Ĕ (ć Ę (ā 1) (mC (.int 1))) (Ĕ (ć Ę (ā 1) (mC (.int 2))) (Ĕ (ć Ę (ā 1) (mC (.int 3))) (Ĕ (ć Ę (ā 1) (mC (.int 4))) Ď))))))))
def qj:MF:=ļ 1 2 EY
def E_:M Fl:=(į (ś [1] 1 (JD (Ű (Ė (sE "corners" [("Post",qd),("Fence",qe),("Sail",qg),("Cloth",Bq),("House",qj)] (Ĥ 0) Ď)))) (gN 1) Ŏ (Ė (Ē tH (Ą 1 (Ą 0 Ď))))))
def vR:MF:=ļ 2 2 E_
def Fb:M Fl:=(į (Ē tH (Ĕ (Ŧ (Ĉ (ć Ĺ (mC (.int 2)) (ć Ę (ā 0) (mC (.int 0)))) (Ĉ (ć Ĺ (mC (.int 2)) (ć Ę (ā 0) (mC (.int 1)))) (Ĉ (mC (.int 0)) ĝ)))) (Ą 1 Ď))))
def Im:MF:=ļ 2 2 Fb
def Fd:M Fl:=(į (Ē Bo (Ĕ (Ė (Ē vR (Ą 0 (Ą 2 Ď)))) (Ĕ (Ė (Ē Im (Ą 1 (Ą 2 Ď)))) Ď))))
def Io:MF:=ļ 3 3 Fd
def yN:M Fl:=(į (ş (ć aD (ć Ę (Ė (Ē Io (Ą 0 (Ą 1 (Ą 2 Ď))))) (mC (.int 0))) (mC (.str "in")))))
def ql:MF:=ļ 3 3 yN
def yO:M Fl:=(į (ş (jg (ć jl (ā 2) (mC .non)) (Ė (Ē ql (Ą 0 (Ą 1 (Ą 2 Ď))))))))
def vU:MF:=ļ 3 3 yO
def Fe:M Fl:=(į (Ē Bj (Ĕ (Ė (ś [1,0] 3 (ř 2) (gT 3 (ę (gN 2) (ę (gN 3) (ę (gN 4) Ř)))) Ŏ (Ė (Ē vU (Ą 0 (Ą 2 (Ĕ (ć Ę (Ė (Ē n_ (Ą 1 (Ą 3 Ď)))) (ā 4)) Ď))))))) Ď)))
def Br:MF:=ļ 3 3 Fe
def yP:M Fl:=(gq (iw (Ė (Ē ql (Ą 3 (Ą 2 (Ą 1 Ď))))))
 (į (ş (mC (.bl true))))
 gH)
def tK:M Fl:=(ģ (gq (dh (ć uK (ā 1) (mC .non)))
 (į (ş (mC (.bl true))))
 gH)
 (ģ (eG (Ű (jL (aX ["Yard"] "things") (ā 0))) (gN 3) yP)
 (į (ş (mC (.bl false))))))
def mF:MF:=ļ 3 4 tK
def Fg:M Fl:=(į (Ē Bj (Ĕ (Ė (ś [0] 3 (ř 1) (gT 3 (ę (gN 1) (ę (gN 2) (ę (gN 3) Ř)))) Ŏ (Ė (Ē mF (Ą 0 (Ĕ (ć Ę (Ė (Ē n_ (Ą 0 (Ą 2 Ď)))) (ā 3)) (Ą 1 Ď))))))) Ď)))
def Ip:MF:=ļ 2 2 Fg
def Fi:M Fl:=(ģ (zY (Ė (Ē Ib (Ą 0 (Ą 2 Ď)))))
 (ģ (ķ 3 (ś [] 2 (ř 1) (gT 2 (ę (gN 0) (ę (gN 1) Ř))) Ŏ (Ĥ 1)))
 (ģ (ķ 4 (ś [0,2] 2 (ř 1) (gT 2 (ę (gN 2) (ę (gN 3) Ř))) Ŏ (Ė (Ē Br (Ą 0 (Ą 2 (Ą 1 Ď)))))))
 (į (Ē Bh (Ą 3 (Ą 4 (Ĕ (eY fj (Ĉ (ā 2) ĝ)) (Ĕ (Ė (Ē Ip (Ą 0 (Ą 2 Ď)))) Ď)))))))))
def Bs:MF:=ļ 3 5 Fi
def yQ:M Fl:=(ģ (gq (dh (ć aD (ć ō (ć bK (ā 0) (mC (.int 512))) (mC (.int 12))) (mC (.int 7))))
 (į (ĺ Ķ (mC (.int 1)) (ć ō (ć Ĺ (ā 0) (mC (.int 1907))) (ć pQ (mC (.int 10)) (mC (.int 9))))))
 gH)
 (į (ĺ Ķ (mC (.int 1)) (ć ō (ā 0) (mC (.int 9))))))
def vV:MF:=ļ 1 1 yQ
def yR:M Fl:=(ģ (gq (dh (ć aD (ć ō (ć bK (ā 0) (mC (.int 512))) (mC (.int 16))) (mC (.int 5))))
 (į (ĺ Ķ (ć au (ć ō (ć Ĺ (ā 0) (mC (.int 3813))) (ć au (ć Ĺ (mC (.int 2)) (ć pQ (mC (.int 10)) (mC (.int 9)))) (mC (.int 99)))) (ć pQ (mC (.int 10)) (mC (.int 9)))) (mC (.int 50))))
 gH)
 (į (ş (ć au (ć ō (ā 0) (Ė (ĺ Ķ (ć Ĺ (mC (.int 2)) (ā 1)) (mC (.int 9))))) (mC (.int 4))))))
def mG:MF:=ļ 2 2 yR
def mZ:M Fl:=(ģ (ķ 2 (Ē nZ (Ą 0 (Ĕ (mC (.int 14)) Ď))))
 (ģ (Jo (gS 2 (ę (gN 5) (ę (gN 6) Ř))) (Ė (ś [1,2] 1 (aW bT (Ĉ (mC (.int 2)) ĝ)) (gN 2) Ŏ (Ė (Ē mG (Ĕ (ć Ę (ā 1) (ā 2)) (Ą 0 Ď)))))))
 (ģ (ķ 3 (Ē vV (Ĕ (ć Ę (ā 2) (mC (.int 2))) Ď)))
 (ģ (ķ 4 (ş (ć ō (ć Ę (ā 2) (mC (.int 3))) (mC (.int 5)))))
 (ģ (gq (dh (ć aD (ā 4) (mC (.int 0))))
 (į (ş (Ŧ (Ĉ (mC (.str "post")) (Ĉ (Ė (bV (Ĉ (ć bK (ā 5) (mC (.int 2))) (Ĉ (ć bK (ā 6) (mC (.int 2))) (Ĉ (Ĥ 3) ĝ))))) ĝ)))))
 gH)
 (ģ (gq (dh (ć aD (ā 4) (mC (.int 1))))
 (ģ (Jo (gS 2 (ę (gN 7) (ę (gN 8) Ř))) (Ė (bV (Ĉ (ć au (Ė (ĺ Ķ (ā 5) (ć ō (ć Ę (ā 2) (mC (.int 4))) (mC (.int 9))))) (mC (.int 4))) (Ĉ (ć au (Ė (ĺ Ķ (ā 6) (ć ō (ć Ę (ā 2) (mC (.int 5))) (mC (.int 9))))) (mC (.int 4))) ĝ)))))
 (į (ş (Ŧ (Ĉ (mC (.str "fence")) (Ĉ (Ė (bV (Ĉ (Ĥ 5) (Ĉ (Ĥ 6) (Ĉ (Ė (ĺ Ķ (ā 7) (eY M_ (Ĉ (ć aD (Ŧ (Ĉ (Ĥ 5) (Ĉ (Ĥ 6) ĝ))) (Ŧ (Ĉ (Ĥ 7) (Ĉ (Ĥ 8) ĝ)))) ĝ)))) (Ĉ (Ĥ 8) (Ĉ (Ĥ 3) ĝ))))))) ĝ))))))
 gH)
 (ģ (gq (dh (ć aD (ā 4) (mC (.int 2))))
 (į (ş (Ŧ (Ĉ (mC (.str "cloth")) (Ĉ (Ė (ĺ Ķ (Ė (ĺ Ķ (Ė (bV (Ĉ (Ĥ 5) (Ĉ (Ĥ 6) (Ĉ (ć ō (ć Ę (ā 2) (mC (.int 6))) (mC (.int 10))) ĝ))))) (Ė (bV (Ĉ (Ė (Ē mG (Ĕ (ć Ę (ā 2) (mC (.int 7))) (Ą 1 Ď)))) (Ĉ (Ė (Ē mG (Ĕ (ć Ę (ā 2) (mC (.int 8))) (Ą 1 Ď)))) (Ĉ (Ĥ 3) ĝ))))))) (Ė (bV (Ĉ (Ė (Ē mG (Ĕ (ć Ę (ā 2) (mC (.int 9))) (Ą 1 Ď)))) (Ĉ (Ė (Ē mG (Ĕ (ć Ę (ā 2) (mC (.int 10))) (Ą 1 Ď)))) (Ĉ (Ė (Ē vV (Ĕ (ć Ę (ā 2) (mC (.int 11))) Ď))) ĝ))))))) ĝ)))))
 gH)
 (į (ş (Ŧ (Ĉ (ć Ę (Ė (bV (Ĉ (mC (.str "sail")) (Ĉ (mC (.str "house")) ĝ)))) (ć au (ā 4) (mC (.int 3)))) (Ĉ (Ė (bV (Ĉ (Ĥ 5) (Ĉ (Ĥ 6) (Ĉ (Ė (ĺ Ķ (Ė (ĺ Ķ (ā 5) (mC (.int 1)))) (ć ō (ć Ę (ā 2) (mC (.int 4))) (mC (.int 8))))) (Ĉ (Ė (ĺ Ķ (Ė (ĺ Ķ (ā 6) (mC (.int 1)))) (ć ō (ć Ę (ā 2) (mC (.int 5))) (mC (.int 8))))) (Ĉ (Ĥ 3) ĝ))))))) ĝ))))))))))))
def jD:MF:=ļ 2 9 mZ
def Fj:M Fl:=(į (ś [0,1] 1 (aW bT (Ĉ (eY fj (Ĉ (ā 0) ĝ)) ĝ)) (gN 2) (dh (ć aD (ć ō (ć pU (ā 1) (ā 2)) (mC (.int 2))) (mC (.int 1)))) (ć Ę (ā 0) (ā 2))))
def vW:MF:=ļ 2 2 Fj
def yS:M Fl:=(ģ (gq (dh (ć lU (ā 1) (ā 0)))
 (į (ş (mC (.int 0))))
 gH)
 (į (ş (ć au (ć pR (mC (.int 1)) (Ė (ĺ Ķ (ā 1) (mC (.int 1))))) (ć pR (mC (.int 1)) (ā 0))))))
def vX:MF:=ļ 2 2 yS
def iz:M Fl:=(ģ (ķ 9 (ş (ć Ĺ (ā 6) (ā 1))))
 (ģ (ķ 10 (ş (ć au (ā 8) (ć Ĺ (ć Ĺ (ā 7) (ā 1)) (ā 2)))))
 (gq (dh (ć RT (ā 9) (mC (.int 0))))
 (ķ 5 (ş (eY vo (Ĉ (ā 5) (Ĉ (ć bK (ā 10) (ā 9)) ĝ)))))
 (gq (dh (ć lU (ā 9) (mC (.int 0))))
 (ķ 4 (ş (eY Ht (Ĉ (ā 4) (Ĉ (jL iY (ć bK (ā 10) (jL iY (ā 9)))) ĝ)))))
 (gq (dh (ć lU (ā 10) (mC (.int 0))))
 (į (ş (mC (.int 0))))
 gH)))))
def yU:M Fl:=(ģ (ķ 4 (ş (mC (.int 0))))
 (ģ (ķ 5 (ş (ć au (ā 3) (mC (.int 1)))))
 (ģ (eG (ř 0) (gT 3 (ę (gN 6) (ę (gN 7) (ę (gN 8) Ř)))) iz)
 (į (Ē vX (Ą 4 (Ą 5 Ď)))))))
def Bt:MF:=ļ 4 11 yU
def yV:M Fl:=(sO 4 (ć pR (Ė (Ē Bt (Ą 3 (Ĕ (ć Ĺ (mC (.int 2)) (ć Ę (ā 2) (mC (.int 2)))) (Ą 5 (Ĕ (jL (aX ["Yard"] "width") (ā 0)) Ď)))))) (ć Ĺ (ā 5) (jL (aX ["Yard"] "width") (ā 0)))))
def Fo:M Fl:=(ģ (ķ 3 (Ē Bk (Ĕ (Ė (Ē vR (Ą 1 (Ą 2 Ď)))) Ď)))
 (ģ (ķ 4 (ş (mC (.int 0))))
 (ģ (eG (aW bT (Ĉ (jL (aX ["Yard"] "height") (ā 0)) ĝ)) (gN 5) yV)
 (į (cZ 4)))))
def vY:MF:=ļ 3 6 Fo
def Oj:M Fl:=(į (ś [0,1] 1 (Ű (jL (aX ["Yard"] "things") (ā 0))) (gN 2) Ŏ (Ė (Ē vY (Ą 0 (Ą 2 (Ą 1 Ď)))))))
def Ti:MF:=ļ 2 2 Oj
def Fp:M Fl:=(sO 2 (Ĥ 3))
def yW:M Fl:=(ģ (gq (dh (ć uK (ā 1) (mC .non)))
 (į (Ē vX (Ĕ (mC (.int 0)) (Ĕ (ć au (ć Ĺ (jL (aX ["Yard"] "width") (ā 0)) (jL (aX ["Yard"] "height") (ā 0))) (mC (.int 1))) Ď))))
 gH)
 (ģ (ķ 2 (ş (mC (.int 0))))
 (ģ (eG (Ű (Ė (Ē Ti (Ą 0 (Ą 1 Ď))))) (gN 3) Fp)
 (į (cZ 2)))))
def vZ:MF:=ļ 2 4 yW
def yX:M Fl:=(ģ (Jo (gS 3 (ę (gN 6) (ę (gN 7) (ę (gN 8) Ř)))) (ć Ę (ā 2) (ā 4)))
 (ģ (ķ 5 (Ē vZ (Ą 3 (Ĕ (ć Ę (ć Ę (ć Ę (jL (aX ["Yard"] "days") (ā 0)) (ā 7)) (mC (.int 2))) (ā 8)) Ď))))
 (gq (dh (ć aD (ć ō (ć pU (ā 5) (Ė (ĺ Ķ (ć Ĺ (ć Ę (ā 6) (mC (.int 1))) (jL (aX ["Yard"] "width") (ā 0))) (ć Ę (ā 6) (mC (.int 0)))))) (mC (.int 2))) (mC (.int 0))))
 (į (cZ 4))
 gH)))
def pI:M Fl:=(ģ (ķ 3 (ş (bW "Yard" lJ (Ĕ (jL (aX ["Yard"] "width") (ā 0)) (Ĕ (jL (aX ["Yard"] "height") (ā 0)) (Ĕ (Ė (ĺ Ķ (jL (aX ["Yard"] "things") (ā 0)) (ā 1))) (Ĕ (jL (aX ["Yard"] "days") (ā 0)) Ď)))))))
 (ģ (eG (aW bT (Ĉ (eY fj (Ĉ (ā 2) ĝ)) ĝ)) (gN 4) yX)
 (į (ş (mC .non)))))
def mH:MF:=ļ 3 9 pI
def qm:M Fl:=(ģ (ķ 5 (Ē vW (Ą 1 (Ą 4 Ď))))
 (ģ (ķ 6 (ş (eY o_ (Ĉ (Ė (ś [] 1 (ř 5) (gN 0) Ŏ (ć Ę (ā 0) (mC (.int 1))))) ĝ))))
 (gq (qD (dh (ć aD (ā 4) (ć Ę (ā 3) (mC (.int 1))))) (qD (dh (ć lU (ā 6) (ć Ę (ā 3) (mC (.int 2))))) (mj (dh (ć aD (ā 6) (ć Ę (ā 3) (mC (.int 2))))) (dh (ć lU (ā 4) (ć Ę (ā 3) (mC (.int 1))))))))
 (ģ (ķ 7 (Ē mH (Ą 0 (Ĕ (Ė (ś [] 1 (ř 5) (gN 0) Ŏ (ć Ę (ā 0) (mC (.int 0))))) (Ą 2 Ď)))))
 (gq (qD (dh (ć dD (ā 7) (ć Ę (ć Ę (ā 3) (mC (.int 3))) (ā 4)))) (dh (ć dD (ć uK (ā 7) (mC .non)) (ć aD (ā 4) (ć Ę (ā 3) (mC (.int 1)))))))
 (į (ş (mC (.bl false))))
 gH))
 gH)))
def Ol:M Fl:=(ģ (gq (qD (dh (ć dD (eY fj (Ĉ (ā 3) ĝ)) (mC (.int 4)))) (qD (lZ (iw (eY (pX ZU ZV ZW ZX) (Ĉ (ć Ę (ā 3) (mC (.int 3))) (Ĉ (mC (.ty "list")) ĝ))))) (dh (ć dD (eY fj (Ĉ (ć Ę (ā 3) (mC (.int 3))) ĝ)) (ć pR (mC (.int 1)) (eY fj (Ĉ (ā 1) ĝ)))))))
 (į (ş (mC (.bl false))))
 gH)
 (ģ (gq (qD (lZ (iw (eY (pX ZU ZV ZW ZX) (Ĉ (ć Ę (ā 3) (mC (.int 1))) (Ĉ (mC (.ty "int")) ĝ))))) (qD (iw (eY (pX ZU ZV ZW ZX) (Ĉ (ć Ę (ā 3) (mC (.int 1))) (Ĉ (mC (.ty "bool")) ĝ)))) (lZ (dh (qC nJ lU (mC (.int 0)) (ć Ę (ā 3) (mC (.int 1))) (eY fj (Ĉ (ć Ę (ā 3) (mC (.int 3))) ĝ)))))))
 (į (ş (mC (.bl false))))
 gH)
 (ģ (gq (dh (ć dD (ć Ę (ā 3) (mC (.int 2))) (eY o_ (Ĉ (Ė (ś [] 2 (JD (Ű (Ė (Ē vW (Ą 1 (Ĕ (ć Ę (ā 3) (mC (.int 1))) Ď)))))) (gT 2 (ę (gN 0) (ę (gN 1) Ř))) Ŏ (Ĥ 1))) ĝ))))
 (į (ş (mC (.bl false))))
 gH)
 (ģ (eG (aW bT (Ĉ (eY fj (Ĉ (ć Ę (ā 3) (mC (.int 3))) ĝ)) ĝ)) (gN 4) qm)
 (į (ş (mC (.bl true))))))))
def Om:MF:=ļ 4 8 Ol
def Fq:M Fl:=(į (ş (qC nJ nJ (jL iY (mC (.int (1000000000)))) (ā 0) (mC (.int (1000000000))))))
def qt:MF:=ļ 1 1 Fq
def Ft:M Fl:=(į (ş (qC nJ nJ (mC (.int 1)) (ā 0) (mC (.int (1000000000))))))
def Bu:MF:=ļ 1 1 Ft
def yZ:M Fl:=(į (ş (jg (ć aD (eY fj (Ĉ (ā 0) ĝ)) (mC (.int 3))) (jg (Ė (Ē qt (Ĕ (ć Ę (ā 0) (mC (.int 0))) Ď))) (jg (Ė (Ē qt (Ĕ (ć Ę (ā 0) (mC (.int 1))) Ď))) (Ė (Ē Bu (Ĕ (ć Ę (ā 0) (mC (.int 2))) Ď))))))))
def Bv:MF:=ļ 1 1 yZ
def jE:M Fl:=(ģ (mz 0 ["Thing","Post","Fence","Sail","Cloth","House"] "word" (Ĥ 1))
 (mz 0 ["Thing","Post","Fence","Sail","Cloth","House"] "numbers" (Ė (qF gK (Ĉ (ā 2) ĝ)))))
def za:MI:=gM 3 3 "Post" jE
def tM:MI:=gM 3 3 "Fence" jE
def zc:MI:=gM 3 3 "Sail" jE
def tQ:MI:=gM 3 3 "Cloth" jE
def tU:MI:=gM 3 3 "House" jE
def zf:M Fl:=(į (ş (jg (ć aD (eY fj (Ĉ (ā 0) ĝ)) (mC (.int 5))) (jg (eY wZ (Ĉ (Ė (ś [] 1 (Ű (Ė (Ad (ā 0) Ac (mP (mC (.int 4)))))) (gN 0) Ŏ (Ė (Ē qt (Ą 0 Ď))))) ĝ)) (Ė (Ē Bu (Ĕ (ć Ę (ā 0) (mC (.int 4))) Ď)))))))
def wg:MF:=ļ 1 1 zf
def zj:M Fl:=(į (ş (jg (Ė (Ē wg (Ą 0 Ď))) (ć dD (Ė (Ad (ā 0) Ac (mP (mC (.int 2))))) (Ė (Ad (ā 0) (mP (mC (.int 2))) (mP (mC (.int 4)))))))))
def Bw:MF:=ļ 1 1 zj
def Ir:M Fl:=(į (ş (jg (Ė (Ē wg (Ą 0 Ď))) (jg (ć lU (ć Ę (ā 0) (mC (.int 0))) (ć Ę (ā 0) (mC (.int 2)))) (ć lU (ć Ę (ā 0) (mC (.int 1))) (ć Ę (ā 0) (mC (.int 3))))))))
def JF:MF:=ļ 1 1 Ir
def Oo:M Fl:=(į (ş (jg (Ė (Ē qt (Ĕ (ć Ę (ā 0) (mC (.int 0))) Ď))) (jg (Ė (Ē qt (Ĕ (ć Ę (ā 0) (mC (.int 1))) Ď))) (qC nJ nJ (mC (.int 0)) (ć Ę (ā 0) (mC (.int 2))) (mC (.int (1000000000))))))))
def Tj:MF:=ļ 1 1 Oo
def zm:M Fl:=(į (ş (jg (ć aD (eY fj (Ĉ (ā 0) ĝ)) (mC (.int 9))) (eY wZ (Ĉ (Ė (ś [0] 1 (Ű (Ŧ (Ĉ (mC (.int 0)) (Ĉ (mC (.int 3)) (Ĉ (mC (.int 6)) ĝ))))) (gN 1) Ŏ (Ė (Ē Tj (Ĕ (Ė (Ad (ā 0) (mP (Ĥ 1)) (mP (Ė (ĺ Ķ (ā 1) (mC (.int 3))))))) Ď))))) ĝ)))))
def Bx:MF:=ļ 1 1 zm
def kW:M Fl:=(ģ (gq (mj (dh (ć aD (ā 0) (mC (.str "post")))) (iw (Ė (Ē Bv (Ą 1 Ď)))))
 (į (ş (bW "Post" za (Ą 0 (Ą 1 Ď)))))
 gH)
 (ģ (gq (mj (dh (ć aD (ā 0) (mC (.str "fence")))) (iw (Ė (Ē Bw (Ą 1 Ď)))))
 (į (ş (bW "Fence" tM (Ą 0 (Ą 1 Ď)))))
 gH)
 (ģ (gq (mj (dh (ć aD (ā 0) (mC (.str "sail")))) (iw (Ė (Ē JF (Ą 1 Ď)))))
 (į (ş (bW "Sail" zc (Ą 0 (Ą 1 Ď)))))
 gH)
 (ģ (gq (mj (dh (ć aD (ā 0) (mC (.str "cloth")))) (iw (Ė (Ē Bx (Ą 1 Ď)))))
 (į (ş (bW "Cloth" tQ (Ą 0 (Ą 1 Ď)))))
 gH)
 (ģ (gq (mj (dh (ć aD (ā 0) (mC (.str "house")))) (iw (Ė (Ē JF (Ą 1 Ď)))))
 (į (ş (bW "House" tU (Ą 0 (Ą 1 Ď)))))
 gH)
 (xG "BadThing"))))))
def gA:MF:=ļ 2 2 kW
def tW:M Fl:=(į (ş (ć Ę (Ė (bV (Ĉ (ć ō (ć bK (ā 0) (mC (.int 3))) (mC (.int 4))) (Ĉ (ć ō (ć bK (ā 0) (mC (.int 3))) (mC (.int 4))) (Ĉ (ć ō (ć bK (ā 0) (mC (.int 3))) (Ė (ĺ Ķ (ć pQ (mC (.int 10)) (mC (.int 9))) (mC (.int 1))))) ĝ))))) (ć ō (ā 0) (mC (.int 3))))))
def wj:MF:=ļ 1 1 tW
def tX:M Fl:=(ģ (Jo (gS 2 (ę (gN 10) (ę (gN 9) Ř))) (Ė (Ē jD (Ĕ (ć bK (Ė (Ē cN (Ą 0 (Ĕ (Ė (ĺ Ķ (mC (.int 6)) (ā 6))) Ď)))) (mC (.int 3))) (Ĕ (eY kO (Ĉ (ā 1) ĝ)) Ď)))))
 (uH 5 (Ŧ (Ĉ (Ė (Ē gA (Ą 10 (Ĕ (Ė (qF gK (Ĉ (ā 9) ĝ))) Ď)))) (Ĉ (Ė (Ē wj (Ĕ (Ė (Ē cN (Ą 0 (Ĕ (Ė (ĺ Ķ (mC (.int 6)) (ā 6))) Ď)))) Ď))) ĝ)))))
def Fv:M Fl:=(ģ (ķ 1 (Ē pY (Ĕ (Ė (Ē cN (Ą 0 (Ĕ (mC (.int 0)) Ď)))) (Ĕ (mC (.int 4)) Ď))))
 (ģ (ķ 2 (ś [1] 1 (Ű (Ė (Ad (ā 0) (mP (mC (.int 2))) (mP (mC (.int 4)))))) (gN 1) Ŏ (Ė (Ē jD (Ą 1 (Ĕ (eY kO (Ĉ (ā 0) ĝ)) Ď))))))
 (ģ (ķ 3 (Ē vK (Ą 0 (Ĕ (mC (.int 4)) (Ĕ (Ė (ĺ Ķ (mC (.int 1)) (ć ō (Ė (Ē cN (Ą 0 (Ĕ (mC (.int 1)) Ď)))) (mC (.int 2))))) (Ĕ (mC (.int 3)) Ď))))))
 (ģ (ķ 4 (ş (bW "Yard" lJ (Ĕ (ć Ę (ā 1) (mC (.int 0))) (Ĕ (ć Ę (ā 1) (mC (.int 1))) (Ĕ (Ė (ś [] 2 (ř 2) (gT 2 (ę (gN 0) (ę (gN 1) Ř))) Ŏ (Ė (Ē gA (Ą 0 (Ĕ (Ė (qF gK (Ĉ (ā 1) ĝ))) Ď)))))) (Ą 3 Ď)))))))
 (ģ (ķ 5 (bV ĝ))
 (ģ (eG (aW bT (Ĉ (Ė (ĺ Ķ (mC (.int 1)) (ć ō (ć bK (Ė (Ē cN (Ą 0 (Ĕ (mC (.int 1)) Ď)))) (mC (.int 2))) (mC (.int 3))))) ĝ)) (gN 6) tX)
 (ģ (ķ 7 (Ē Bf (Ĕ (Ė (Ad (Ė (ĺ Ķ (Ė (Ad (ā 0) (mP (mC (.int 9))) (mP (mC (.int 14))))) (Ė (bV (Ĉ (mC (.int 5)) ĝ))))) Ac (mP (mC (.int 5))))) (Ą 1 (Ą 3 Ď)))))
 (ģ (ķ 8 (Ē Bs (Ą 4 (Ą 5 (Ą 7 Ď)))))
 (ģ (gq (dh (ć aD (ć Ę (ā 8) (mC (.int 0))) (mC (.str "choice"))))
 (į (Ē Om (Ą 4 (Ą 5 (Ą 7 (Ą 8 Ď))))))
 gH)
 (ģ (gq (qD (dh (ć dD (ć Ę (ā 8) (mC (.int 0))) (mC (.str "none")))) (dh (ć dD (eY fj (Ĉ (ā 8) ĝ)) (mC (.int 2)))))
 (į (ş (mC (.bl false))))
 gH)
 (ģ (ķ 9 (ś [] 1 (ř 5) (gN 0) Ŏ (ć Ę (ā 0) (mC (.int 0)))))
 (į (ş (jg (ć jl (ć Ę (ā 8) (mC (.int 1))) (mC .non)) (ć aD (ć Ę (ā 8) (mC (.int 1))) (Ė (Ē mH (Ą 4 (Ą 9 (Ą 7 Ď))))))))))))))))))))
def wu:MF:=ļ 1 11 Fv
set_option genInjectivity false
set_option genSizeOf false
structure Fw where
 {Wj Wk Wm Wn Wo Oq Wq Wr Ws Wu Wv Ww Wx Wy Ot Wz WD WK WL WM WQ WR WT WW WX WY W_ Xa ZeG Xb Xc Xd ZeH Xe Xf Xg Xh Xi Xj Xk Ou Ov Ow Zb1 Ox Xl Xm Xn Xo Xp Xq Xr Xu Xv Xw Xx Xy Xz XC XD XF ZeI XH XJ ZeJ XM XQ XR qJ X_ Yb ZeK ZeL Yc Yd Ye Yg Zb2 Zb3 qu tY tZ pJ t_ Fx zp Fy zq Fz zu zx:Addr}
 {Yh Yi Yj Yk Yl Ym Yn Yo Yp Yq Yr Ys Yt Yu Yw Yx Yy Yz YB YC YD YF YG YH YJ YK YL YM ZeM YQ YT YW ZeN YX YZ Y_ Z_ Zaa Zab Zac Zad Zae Zaf ZeO Zag Zah Zai Zaj Zak Zal Zam Zan Zao Zap Zaq Zar Zas Zat Zau Zav Zaw ZeP Zax Zay ZeQ Zaz ZaA ZaB JG ZaC ZaD ZeR ZeS ZaE ZaF ZaG Oz ZeT ZeU:FuncData}
 {uN zy:Tok}
def Ī(a:Fw):String->Addr:=cmB a.qu a.tY a.tZ a.pJ a.t_ a.Fx a.zp a.Fy a.zq a.Fz a.zu a.zx
structure Tx(K:PySem.W.Frag)(mg:Str->Option Value)(a:Fw):Prop where
 ZaH:mg "YardError" =some (.ref a.qu)
 FJ:mg "NoNumber" =some (.ref a.tY)
 FN:mg "BadThing" =some (.ref a.tZ)
 JH:mg "NoStone" =some (.ref a.pJ)
 OD:mg "NoTurn" =some (.ref a.t_)
 Zb4:mg "Yard" =some (.ref a.Fx)
 ZfJ:mg "Thing" =some (.ref a.zp)
 Zb5:mg "Post" =some (.ref a.Fy)
 Tn:mg "Fence" =some (.ref a.zq)
 Zb6:mg "Sail" =some (.ref a.Fz)
 Tp:mg "Cloth" =some (.ref a.zu)
 Tq:mg "House" =some (.ref a.zx)
 gQ:Df K mg "_law_size" UJ ["_law_cell","_law_most"] a.Wj a.Yh
 Ņ:Df K mg "_law_at" UL ["_law_script","_law_k"] a.Wk a.Yi
 ŗ:Df K mg "_law_grains" UW ["_law_cell","_law_many"] a.Wm a.Yj
 jq:Df K mg "_law_sky" U_ ["_law_xs"] a.Wn a.Yk
 gR:Df K mg "_law_days" Nt ["_law_script","_law_start","_law_many","_law_long"] a.Wo a.Yl
 fB:Dm K a.Fx "__init__" "Yard.__init__" Nu ["self","width","height","things","days"] a.Oq a.Ym
 fO:Df K mg "_law_wants" Va ["_law_cells","_law_size_here","_law_days_here"] a.Wq a.Yn
 gU:Df K mg "has_stone" Vb ["yard","stone"] a.Wr a.Yo
 dJ:Df K mg "check_stone" Vc ["yard","stone"] a.Ws a.Yp
 lK:Df K mg "has_day" Vd ["yard","day"] a.Wu a.Yq
 Ż:Df K mg "turns_of" Ve ["yard","day"] a.Wv a.Yr
 fP:Df K mg "check_turn" Vf ["yard","day","turn"] a.Ww a.Ys
 dM:Df K mg "check_wants" Vg ["yard","wants"] a.Wx a.Yt
 bY:Df K mg "chosen" Nv ["values","choice"] a.Wy a.Yu
 jr:Df K mg "cheapest" Nx ["prices","choices"] a.Ot a.Yw
 cj:Df K mg "least_missing" Vh ["met","many"] a.Wz a.Yx
 ou:Df K mg "met_by" Vi ["covers","choice","base"] a.WD a.Yy
 cO:Dd K mg "least_choice" HN ["prices","covers","many","base"] 0 a.WK a.Yz
 ż:Df K mg "set_of_true" Vj ["truths"] a.WL a.YB
 gW:Df K mg "box_lines" HS ["points"] a.WM a.YC
 gY:Df K mg "each_once" Vk ["points"] a.WQ a.YD
 cP:Df K mg "line_through" Vl ["one","other"] a.WR a.YF
 jt:Df K mg "holds" Vm ["line","pair"] a.WT a.YG
 fQ:Df K mg "edge_lines" Ny ["points"] a.WW a.YH
 Ž:Df K mg "lines_about" Vn ["points"] a.WX a.YJ
 cQ:Df K mg "parting_line" Vo ["points","point"] a.WY a.YK
 ž:Df K mg "pairs_below" Nz ["many"] a.W_ a.YL
 cu:Df K mg "triples_below" NK ["many"] a.Xa a.YM
 aK:Df K mg "greatest_divisor" Zez ["one","other"] a.ZeG a.ZeM
 ju:Df K mg "ratio" Vp ["top","bottom"] a.Xb a.YQ
 bZ:Df K mg "spread" NP ["shares","places","many"] a.Xc a.YT
 b_:Df K mg "turned" Vq ["one","other","third"] a.Xd a.YW
 bh:Df K mg "shares_of_three" ZeA ["corners","point"] a.ZeH a.ZeN
 ſ:Df K mg "are_weights" NQ ["shares"] a.Xe a.YX
 cA:Df K mg "shares_of_two" Vr ["ends","point"] a.Xf a.YZ
 fU:Df K mg "weights_of" HW ["points","point"] a.Xg a.Y_
 zA:Df K mg "held" Vs ["points","point"] a.Xh a.Z_
 m_:Df K mg "cast" Vt ["point","ray"] a.Xi a.Zaa
 ŏ:Df K mg "level_corners" Vu ["x","y","u","v","z"] a.Xj a.Zab
 ţ:Df K mg "block_corners" Vv ["x","y","u","v","h"] a.Xk a.Zac
 kY:Dm K a.Fy "corners" "Post.corners" Vw ["self"] a.Ou a.Zad
 jF:Dm K a.zq "corners" "Fence.corners" Vx ["self"] a.Ov a.Zae
 kZ:Dm K a.Fz "corners" "Sail.corners" Vy ["self"] a.Ow a.Zaf
 jG:Dm K a.zu "corners" "Cloth.corners" ZbZ ["self"] a.Zb1 a.ZeO
 jH:Dm K a.zx "corners" "House.corners" Vz ["self"] a.Ox a.Zag
 Ũ:Df K mg "corner_casts" NT ["thing","ray"] a.Xl a.Zah
 fV:Df K mg "stone_cast" VB ["stone","ray"] a.Xm a.Zai
 lM:Df K mg "shading" VD ["thing","stone","ray"] a.Xn a.Zaj
 gB:Df K mg "shades" VF ["thing","stone","ray"] a.Xo a.Zak
 dN:Df K mg "gives_shade" VG ["thing","stone","turn"] a.Xp a.Zal
 cR:Df K mg "met_by_thing" NZ ["yard","thing","wants"] a.Xq a.Zam
 lN:Df K mg "is_dark" VH ["yard","turn","stone"] a.Xr a.Zan
 dR:Df K mg "met_at_once" N_ ["yard","wants"] a.Xu a.Zao
 gZ:Df K mg "keep_dark" HX ["yard","offers","wants"] a.Xv a.Zap
 aj:Df K mg "_law_height" VJ ["_law_number"] a.Xw a.Zaq
 ľ:Df K mg "_law_place" VL ["_law_number","_law_wide"] a.Xx a.Zar
 aL:Df K mg "_law_thing" Oa ["_law_cell","_law_wide"] a.Xy a.Zas
 ak:Df K mg "_law_chosen" Ob ["_law_rows","_law_choice"] a.Xz a.Zat
 bM:Df K mg "span_bits" VN ["first","last"] a.XC a.Zau
 jw:Df K mg "row_bits" VP ["lines","unit","q","width"] a.XD a.Zav
 lO:Df K mg "dark_of" VR ["yard","thing","ray"] a.XF a.Zaw
 bx:Df K mg "darks_of_things" Zb0 ["yard","ray"] a.ZeI a.ZeP
 zB:Df K mg "dark" V_ ["yard","turn"] a.XH a.Zax
 aM:Df K mg "_law_unmet" Wa ["_law_yard","_law_things","_law_wants_here"] a.XJ a.Zay
 aN:Df K mg "_law_all_choices" Oc ["_law_yard","_law_offers","_law_wants_here","_law_told"] a.ZeJ a.ZeQ
 Œ:Df K mg "is_place" Wb ["number"] a.XM a.Zaz
 bN:Df K mg "is_height" Wc ["number"] a.XQ a.ZaA
 fW:Df K mg "makes_post" Wd ["numbers"] a.XR a.ZaB
 Ŋ:Dm K a.zp "__init__" "Thing.__init__" ZeB ["self","word","numbers"] a.qJ a.JG
 ũ:Df K mg "has_two_ends" Od ["numbers"] a.X_ a.ZaC
 dU:Df K mg "makes_fence" Wf ["numbers"] a.Yb a.ZaD
 Ō:Df K mg "makes_sail_or_house" ZeC ["numbers"] a.ZeK a.ZeR
 bA:Df K mg "is_cloth_corner" ZeD ["numbers"] a.ZeL a.ZeS
 dW:Df K mg "makes_cloth" Oe ["numbers"] a.Yc a.ZaE
 cB:Df K mg "thing_of" Wg ["word","numbers"] a.Yd a.ZaF
 fX:Df K mg "_law_money" Wh ["_law_cell"] a.Ye a.ZaG
 OJ:Df K mg "law" Bd ["_law_script"] a.Yg a.Oz
 gC:Dm K a.pJ "__init__" "NoStone.__init__" ZeE ["self","stone"] a.Zb2 a.ZeT
 g_:Dm K a.t_ "__init__" "NoTurn.__init__" ZeF ["self","day","turn"] a.Zb3 a.ZeU
 mJ:mg "MOST_HEIGHT" =some (.int (1000000000) a.uN)
 oA:mg "MOST_PLACE" =some (.int (1000000000) a.zy)
 ZeV:mg "abs" =none
 Iu:mg "all" =none
 Zb7:mg "bool" =none
 k_:mg "enumerate" =none
 ZaI:mg "int" =none
 jx:mg "isinstance" =none
 cT:mg "len" =none
 iB:mg "list" =none
 BJ:mg "max" =none
 wz:mg "min" =none
 aO:mg "range" =none
 wA:mg "sum" =none
 Tr:mg "tuple" =none
 ZeW:mg "zip" =none
 ZaJ:PySem.W.excIn K (Ī a "YardError") Js nwV=true
 ZaK:PySem.W.keepIn K (.ref (Ī a "YardError"))=true
 ZaL:fu K (Ī a "YardError")=true
 FP:PySem.W.excIn K (Ī a "NoNumber") Js nwV=true
 Zb8:PySem.W.keepIn K (.ref (Ī a "NoNumber"))=true
 Zb9:fu K (Ī a "NoNumber")=true
 FQ:PySem.W.excIn K (Ī a "BadThing") Js nwV=true
 Zb_:PySem.W.keepIn K (.ref (Ī a "BadThing"))=true
 Zca:fu K (Ī a "BadThing")=true
 JK:XMk K (Ī a "NoStone") a.Zb2
 JL:fu K (Ī a "NoStone")=true
 qK:Ő K (Ī a "NoStone") "stone"
 O_:XMk K (Ī a "NoTurn") a.Zb3
 BK:fu K (Ī a "NoTurn")=true
 zE:Ő K (Ī a "NoTurn") "day"
 uO:Ő K (Ī a "NoTurn") "turn"
 ao:Cls K (Ī a "Yard")
 Pa:Mk K (Ī a "Yard") a.Oq
 aP:Ő K (Ī a "Yard") "width"
 cg:Ő K (Ī a "Yard") "height"
 dX:Ő K (Ī a "Yard") "things"
 eO:Ő K (Ī a "Yard") "days"
 ŵ:Cls K (Ī a "Thing")
 ZfK:Mk K (Ī a "Thing") a.qJ
 cU:Ő K (Ī a "Thing") "word"
 Ŀ:Ő K (Ī a "Thing") "numbers"
 aY:Cls K (Ī a "Post")
 Zcb:Mk K (Ī a "Post") a.qJ
 eU:Ő K (Ī a "Post") "word"
 Ň:Ő K (Ī a "Post") "numbers"
 uc:Meth K (Ī a "Post") "corners" a.Ou
 Ŭ:Cls K (Ī a "Fence")
 Tt:Mk K (Ī a "Fence") a.qJ
 cV:Ő K (Ī a "Fence") "word"
 ŀ:Ő K (Ī a "Fence") "numbers"
 qL:Meth K (Ī a "Fence") "corners" a.Ov
 aZ:Cls K (Ī a "Sail")
 Zcc:Mk K (Ī a "Sail") a.qJ
 eV:Ő K (Ī a "Sail") "word"
 ň:Ő K (Ī a "Sail") "numbers"
 ud:Meth K (Ī a "Sail") "corners" a.Ow
 ŭ:Cls K (Ī a "Cloth")
 Tw:Mk K (Ī a "Cloth") a.qJ
 cW:Ő K (Ī a "Cloth") "word"
 Ł:Ő K (Ī a "Cloth") "numbers"
 qM:Meth K (Ī a "Cloth") "corners" a.Zb1
 Ů:Cls K (Ī a "House")
 Tz:Mk K (Ī a "House") a.qJ
 cX:Ő K (Ī a "House") "word"
 ł:Ő K (Ī a "House") "numbers"
 qN:Meth K (Ī a "House") "corners" a.Ox
 FT:ZbX K "cheapest" a.Ot=true
 iC:xM (λC D b=>gO K (Ī a C)=true/\PySem.W.kitOne K (.ref (Ī a C)) (.ref (Ī a D))=some b) ZU
 iT:xM (λC D b=>gO K (Ī a C)=true/\PySem.W.kitOne K (.ref (Ī a C)) (.type D)=some b) ZV
 iD:su (λD=>PySem.W.kitOne K (.type "NoneType") (.ref (Ī a D))=some false) ZW
 iN:su (λD=>PySem.W.kitOne K (.type "NoneType") (.type D)=some false) ZX
def Z0K{K:PySem.W.Frag}{mg:Str->Option Value}{a:Fw}(T:Tx K mg a):mg "NoNumber" =some (.ref (Ī a "NoNumber")):=T.FJ
def Z0L{K:PySem.W.Frag}{mg:Str->Option Value}{a:Fw}(T:Tx K mg a):mg "BadThing" =some (.ref (Ī a "BadThing")):=T.FN
def Z10{K:PySem.W.Frag}{mg:Str->Option Value}{a:Fw}(T:Tx K mg a):mg "NoStone" =some (.ref (Ī a "NoStone")):=T.JH
def Z1m{K:PySem.W.Frag}{mg:Str->Option Value}{a:Fw}(T:Tx K mg a):mg "NoTurn" =some (.ref (Ī a "NoTurn")):=T.OD
def Z0O{K:PySem.W.Frag}{mg:Str->Option Value}{a:Fw}(T:Tx K mg a):mg "Yard" =some (.ref (Ī a "Yard")):=T.Zb4
def Z2l{K:PySem.W.Frag}{mg:Str->Option Value}{a:Fw}(T:Tx K mg a):mg "Post" =some (.ref (Ī a "Post")):=T.Zb5
def Z1N{K:PySem.W.Frag}{mg:Str->Option Value}{a:Fw}(T:Tx K mg a):mg "Fence" =some (.ref (Ī a "Fence")):=T.Tn
def Z2m{K:PySem.W.Frag}{mg:Str->Option Value}{a:Fw}(T:Tx K mg a):mg "Sail" =some (.ref (Ī a "Sail")):=T.Zb6
def Z1O{K:PySem.W.Frag}{mg:Str->Option Value}{a:Fw}(T:Tx K mg a):mg "Cloth" =some (.ref (Ī a "Cloth")):=T.Tp
def Z1P{K:PySem.W.Frag}{mg:Str->Option Value}{a:Fw}(T:Tx K mg a):mg "House" =some (.ref (Ī a "House")):=T.Tq
def Pb:ē ["_law_cell","_law_most","_law_width"] ["_law_cell","_law_most"] (ą UJ):=aJ
def Zcd:ē ["_law_script","_law_k"] ["_law_script","_law_k"] (ą UL):=aJ
def ni:ē ["_law_cell","_law_many","_law_found","_law_number","_law_k"] ["_law_cell","_law_many"] (ą UW):=aJ
def Ph:ē ["_law_xs","_law_scale"] ["_law_xs"] (ą U_):=aJ
def lq:ē ["_law_script","_law_start","_law_many","_law_long","_law_names","_law_turned","_law_days_here","_law_k","_law_xs","_law_turns"] ["_law_script","_law_start","_law_many","_law_long"] (ą Nt):=aJ
def Zce:ē ["self","width","height","things","days"] ["self","width","height","things","days"] (ą Nu):=aJ
def uf:ē ["_law_cells","_law_size_here","_law_days_here","_law_wants_here","_law_cell","_law_xs","_law_day"] ["_law_cells","_law_size_here","_law_days_here"] (ą Va):=aJ
def Zcf:ē ["yard","stone"] ["yard","stone"] (ą Vb):=aJ
def Zcg:ē ["yard","stone"] ["yard","stone"] (ą Vc):=aJ
def Zch:ē ["yard","day"] ["yard","day"] (ą Vd):=aJ
def Zci:ē ["yard","day"] ["yard","day"] (ą Ve):=aJ
def Zcj:ē ["yard","day","turn"] ["yard","day","turn"] (ą Vf):=aJ
def zF:ē ["yard","wants","stone","day","turn"] ["yard","wants"] (ą Vg):=aJ
def Zck:ē ["values","choice"] ["values","choice"] (ą Nv):=aJ
def Zcl:ē ["prices","choices"] ["prices","choices"] (ą Nx):=aJ
def Pj:ē ["met","many","want"] ["met","many"] (ą Vh):=aJ
def zG:ē ["covers","choice","base","met","cover"] ["covers","choice","base"] (ą Vi):=aJ
def FW:ē ["prices","covers","many","base","paper","choice"] ["prices","covers","many","base"] (ą HN):=aJ
def ug:ē ["truths","bits","number","truth"] ["truths"] (ą Vj):=aJ
def FZ:ē ["points","rights","downs"] ["points"] (ą HS):=aJ
def Ga:ē ["points","kept","point"] ["points"] (ą Vk):=aJ
def Gb:ē ["one","other","l","m"] ["one","other"] (ą Vl):=aJ
def Zcm:ē ["line","pair"] ["line","pair"] (ą Vm):=aJ
def pK:ē ["points","lines","apart","one","other","line"] ["points"] (ą Ny):=aJ
def Zcn:ē ["points"] ["points"] (ą Vn):=aJ
def Pk:ē ["points","point","line"] ["points","point"] (ą Vo):=aJ
def Gd:ē ["many","pairs","second"] ["many"] (ą Nz):=aJ
def Ge:ē ["many","triples","third"] ["many"] (ą NK):=aJ
def Iv:ē ["one","other","rest"] ["one","other"] (ą Zez):=aJ
def Gf:ē ["top","bottom","divisor"] ["top","bottom"] (ą Vp):=aJ
def uh:ē ["shares","places","many","whole","weights","share","place"] ["shares","places","many"] (ą NP):=aJ
def Pn:ē ["one","other","third","right"] ["one","other","third"] (ą Vq):=aJ
def Iw:ē ["corners","point","one","other","third"] ["corners","point"] (ą ZeA):=aJ
def Pq:ē ["shares","whole"] ["shares"] (ą NQ):=aJ
def zH:ē ["ends","point","right","down","gone"] ["ends","point"] (ą Vr):=aJ
def pL:ē ["points","point","many","places","shares"] ["points","point"] (ą HW):=aJ
def Pr:ē ["points","point","line"] ["points","point"] (ą Vs):=aJ
def Zco:ē ["point","ray"] ["point","ray"] (ą Vt):=aJ
def Zcp:ē ["x","y","u","v","z"] ["x","y","u","v","z"] (ą Vu):=aJ
def Zcq:ē ["x","y","u","v","h"] ["x","y","u","v","h"] (ą Vv):=aJ
def Gg:ē ["self","right","down"] ["self"] (ą Vw):=aJ
def zJ:ē ["self","given","one","other"] ["self"] (ą Vx):=aJ
def Pu:ē ["self","given"] ["self"] (ą Vy):=aJ
def ZeX:ē ["self"] ["self"] (ą ZbZ):=aJ
def Px:ē ["self","given"] ["self"] (ą Vz):=aJ
def Zcr:ē ["thing","ray"] ["thing","ray"] (ą NT):=aJ
def Zcs:ē ["stone","ray"] ["stone","ray"] (ą VB):=aJ
def Zct:ē ["thing","stone","ray"] ["thing","stone","ray"] (ą VD):=aJ
def Zcu:ē ["thing","stone","ray"] ["thing","stone","ray"] (ą VF):=aJ
def Zcv:ē ["thing","stone","turn"] ["thing","stone","turn"] (ą VG):=aJ
def Zcw:ē ["yard","thing","wants"] ["yard","thing","wants"] (ą NZ):=aJ
def Py:ē ["yard","turn","stone","thing"] ["yard","turn","stone"] (ą VH):=aJ
def Zcx:ē ["yard","wants"] ["yard","wants"] (ą N_):=aJ
def Gh:ē ["yard","offers","wants","prices","covers"] ["yard","offers","wants"] (ą HX):=aJ
def Zcy:ē ["_law_number"] ["_law_number"] (ą VJ):=aJ
def Zcz:ē ["_law_number","_law_wide"] ["_law_number","_law_wide"] (ą VL):=aJ
def lu:ē ["_law_cell","_law_wide","_law_xs","_law_h","_law_kind","_law_x","_law_y","_law_u","_law_v"] ["_law_cell","_law_wide"] (ą Oa):=aJ
def ZcA:ē ["_law_rows","_law_choice"] ["_law_rows","_law_choice"] (ą Ob):=aJ
def ZcB:ē ["first","last"] ["first","last"] (ą VN):=aJ
def iG:ē ["lines","unit","q","width","first","last","l","m","n","step","room"] ["lines","unit","q","width"] (ą VP):=aJ
def um:ē ["yard","thing","ray","lines","bits","q"] ["yard","thing","ray"] (ą VR):=aJ
def ZeY:ē ["yard","ray"] ["yard","ray"] (ą Zb0):=aJ
def zK:ē ["yard","turn","bits","some"] ["yard","turn"] (ą V_):=aJ
def nj:ē ["_law_yard","_law_things","_law_wants_here","_law_more","_law_k","_law_bits","_law_stone","_law_day","_law_turn"] ["_law_yard","_law_things","_law_wants_here"] (ą Wa):=aJ
def BL:ē ["_law_yard","_law_offers","_law_wants_here","_law_told","_law_choice","_law_rows","_law_price","_law_found"] ["_law_yard","_law_offers","_law_wants_here","_law_told"] (ą Oc):=aJ
def ZcC:ē ["number"] ["number"] (ą Wb):=aJ
def ZcD:ē ["number"] ["number"] (ą Wc):=aJ
def ZcE:ē ["numbers"] ["numbers"] (ą Wd):=aJ
def BP:ē ["self","word","numbers"] ["self","word","numbers"] (ą ZeB):=aJ
def ZcF:ē ["numbers"] ["numbers"] (ą Od):=aJ
def ZcG:ē ["numbers"] ["numbers"] (ą Wf):=aJ
def ZeZ:ē ["numbers"] ["numbers"] (ą ZeC):=aJ
def Ze0:ē ["numbers"] ["numbers"] (ą ZeD):=aJ
def ZcH:ē ["numbers"] ["numbers"] (ą Oe):=aJ
def ZcI:ē ["word","numbers"] ["word","numbers"] (ą Wg):=aJ
def ZcJ:ē ["_law_cell"] ["_law_cell"] (ą Wh):=aJ
def fC:ē ["_law_script","_law_size_here","_law_drawn","_law_days_here","_law_yard","_law_offers","_law_k","_law_wants_here","_law_told","_law_some","_law_word"] ["_law_script"] (ą Bd):=aJ
def Ze1:ē ["self","stone"] ["self","stone"] (ą ZeE):=aJ
def Ze2:ē ["self","day","turn"] ["self","day","turn"] (ą ZeF):=aJ
section
variable{P:Program}{w:World}{K:PySem.W.Frag}{mg:Str->Option Value}{base:Heap}{a:Fw}
def Ze3(T:Tx K mg a):Į P w K mg base (ū P w) 1 a.Zb2 a.ZeT ["self","stone"] (spX 2 (Ī a "NoStone") [("stone",1)]):=
 fnX T.gC.F Ze1 rfl λcdv A outer s H E=>(xJ (Mt T.JL T.qK (pv 0) (pv 1)) Mu)
def Ze4(T:Tx K mg a):Į P w K mg base (ū P w) 1 a.Zb3 a.ZeU ["self","day","turn"] (spX 3 (Ī a "NoTurn") [("day",1),("turn",2)]):=
 fnX T.g_.F Ze2 rfl λcdv A outer s H E=>(xJ (Mt T.BK T.zE (pv 0) (pv 1)) (xJ (Mt T.BK T.uO (pv 0) (pv 2)) Mu))
def ZcK(T:Tx K mg a):Į P w K mg base (ū P w) 1 a.Wj a.Yh ["_law_cell","_law_most"] (ŷ ⟨K,Ī a⟩ 2 pY):=by
 refine bB (cm:=Ī a) (mb:=pC) T.gQ.F Pb rfl rfl rfl λcdv A outer s H E hr=>?_
 have hu:=hr.units
 exact(ċ (Ÿ (PW.pt (w_and (œ aF (ŝ hu) (Ā (ĕ Ľ Ļ (Ā (ĕ aC Ţ (Ă 0) (Ā ă))) (Ā ă))) (Ā ă) (ĩ _)) (jY (œ Ut Ue (Ă 1) (Ā ă) (ĩ _)))))
  (Č (Ģ (ĵ (Ğ Đ ď (Ā (Ě (aq (ĉ (ŕ (ĉ ă (ĉ ă ĥ))) (ĉ (ŕ (ĉ ă (ĉ ă ĥ))) ĥ))))) (Ā (ĕ Ľ Ļ (Ă 0) (Ā ă))) (λ_ _=>rfl)))))
  Ń)
  (ċ (ī (i:=2) Pb.nd rfl (Or.inl rfl) (ņ Ĳ ı (Ā ă) (Ā (ĕ Ľ Ļ (Ă 0) (Ā (PE.wk (ħ (wK rfl) (by rfl) T.wz PyProof.Rows.boot_min (ğ (Ā ă) (ğ (Ă 1) Ĭ))) λ_ _ _ h=>ů wY h))))))
  (Č (Ģ (ĵ (ŕ (ĉ (v_var 2) (ĉ (Ě (ņ Ĳ ı (Ā ă) (Ā (ĕ Ľ Ļ (Ā (ĕ aC Ţ (Ă 0) (Ā ă))) (Ā (PE.wk (ħ (wK rfl) (by rfl) T.wz PyProof.Rows.boot_min (ğ (Ā ă) (ğ (Ā (ĕ aC Ţ (Ă 1) (Ă 2))) Ĭ))) λ_ _ _ h=>ů wY h)))))) ĥ))))))))
def nq(T:Tx K mg a):Į P w K mg base (ū P w) 1 a.Wk a.Yi ["_law_script","_law_k"] (ŷ ⟨K,Ī a⟩ 2 cN):=by
 refine bB (cm:=Ī a) (mb:=yc) T.Ņ.F Zcd rfl rfl rfl λcdv A outer s H E hr=>?_
 have hu:=hr.units
 exact(ċ (Ÿ (œ gJ gG (Ă 1) (Ā (PE.wk (ħ aG (by rfl) T.cT PySem.boot_len (ğ (Ă 0) Ĭ)) λ_ _ _ h=>ů aH h)) (ĩ _))
  (Č (Ģ (ĵ (Ğ Đ ď (Ă 0) (Ă 1) (λ_ _=>rfl)))))
  Ń)
  (Č (Ģ (ĵ ă))))
def Gi(T:Tx K mg a):Į P w K mg base (ū P w) 1 a.Wm a.Yj ["_law_cell","_law_many"] (ŷ ⟨K,Ī a⟩ 2 nZ):=by
 refine bB (cm:=Ī a) (mb:=yg) T.ŗ.F ni rfl rfl rfl λcdv A outer s H E hr=>?_
 have hu:=hr.units
 exact(ċ (ī (i:=2) ni.nd rfl (Or.inl rfl) (aq ĥ))
  (ċ (ī (i:=3) ni.nd rfl (Or.inl rfl) (ĵ (ĕ aC Ţ (Ă 0) (Ā ă))))
  (ċ (Ÿ (œ aF (ŝ hu) (Ā (ĕ Ľ Ļ (Ă 0) (Ā ă))) (Ā ă) (ĩ _))
  (Č (ī (i:=3) ni.nd rfl (Or.inl rfl) (ĵ (ĕ Ľ Ļ (Ă 3) (Ā ă)))))
  Ń)
  (ċ (bJ PassesOwn.leaving rfl (ŧ rfl T.aO (ĉ (v_var 1) ĥ)) (Ĝ (i:=4) ni.nd rfl (Or.inl rfl))
  (Č (Ÿ (œ aF (ŝ hu) (Ā (ĕ Ľ Ļ (Ă 0) (Ā ă))) (Ā ă) (ĩ _))
  (ċ (PS.wk (dH (nD PySem.F.plainAttrs_list PySem.F.slot_list_append PySem.F.type_list_append bO (pv 2) (ĉ (ĕ Ľ Ļ (Ă 3) (Ā ă)) ĥ))) λ_ _ _ h=>jh h)
  (Č (ī (i:=3) ni.nd rfl (Or.inl rfl) (ĵ (ĕ aC Ţ (Ă 3) (Ā ă))))))
  (ċ (ī (i:=3) ni.nd rfl (Or.inl rfl) (ĵ (ĕ Ľ Ļ (Ā (Ě (ņ Ĳ ı (Ā (Ě (ņ Ĳ ı (Ā (ĕ ń ĳ (Ă 3) (Ā ă))) (Ā ă)))) (Ā (ĕ ń ĳ (Ā ă) (Ă 4)))))) (Ā ă))))
  (Č (PS.wk (dH (nD PySem.F.plainAttrs_list PySem.F.slot_list_append PySem.F.type_list_append bO (pv 2) (ĉ (ĕ aC Ţ (Ă 3) (Ā ă)) ĥ))) λ_ _ _ h=>jh h))))))
  (Č (Ģ (gn 2)))))))
def ZcL(T:Tx K mg a):Į P w K mg base (ū P w) 1 a.Wn a.Yk ["_law_xs"] (ŷ ⟨K,Ī a⟩ 1 sW):=by
 refine bB (cm:=Ī a) (mb:=yj) T.jq.F Ph rfl rfl rfl λcdv A outer s H E hr=>?_
 have hu:=hr.units
 exact(@ċ _ _ _ _ _ _ _ (@Ÿ _ _ _ _ _ _ _ _ _ _ (@œ _ _ _ _ _ _ _ _ _ _ _ (@aF _) (@ŝ _ hu) (@Ā _ _ _ _ _ (@ĕ _ _ _ _ _ _ _ _ _ _ _ (@Ľ _) (@Ļ _) (@Ā _ _ _ _ _ (@Ğ _ _ _ _ _ _ _ _ _ _ (@Đ _) (@ď _) (@Ă _ _ _ 0 _ _ (by rfl) (by first|exact Or.inl rfl|exact Or.inr (Or.inl rfl)|exact Or.inr (Or.inr rfl)) (by decide) (by decide)) (@Ā _ _ _ _ _ (@ă _ _ _ _ _ _)) (λ_ _=>rfl))) (@Ā _ _ _ _ _ (@ă _ _ _ _ _ _)))) (@Ā _ _ _ _ _ (@ă _ _ _ _ _ _)) (ĩ _)) (@Č _ _ _ _ _ (@Ģ _ _ _ _ _ _ (@ĵ _ _ _ _ _ (@jA _ _ _ _ _)))) (@Ń _ _ _)) (@ċ _ _ _ _ _ _ _ (@ī _ _ _ _ _ _ 1 _ _ Ph.nd rfl (Or.inl rfl) (@ĵ _ _ _ _ _ (@Ğ _ _ _ _ _ _ _ _ _ _ (@Đ _) (@ď _) (@Ā _ _ _ _ _ (@Ě _ _ _ _ _ (@aq _ _ _ _ _ _ (@ĉ _ _ _ _ _ _ _ (@ă _ _ _ _ _ _) (@ĉ _ _ _ _ _ _ _ (@ă _ _ _ _ _ _) (@ĉ _ _ _ _ _ _ _ (@ă _ _ _ _ _ _) (@ĉ _ _ _ _ _ _ _ (@ĕ _ _ _ _ _ _ _ _ _ _ _ (@oV _) (@oN _) (@Ā _ _ _ _ _ (@ă _ _ _ _ _ _)) (@Ā _ _ _ _ _ (@ă _ _ _ _ _ _))) (@ĥ _ _ _) (by exact ĸ rfl)) (by exact ĸ rfl)) (by exact ĸ rfl)) (by exact ĸ rfl))))) (@Ā _ _ _ _ _ (@ĕ _ _ _ _ _ _ _ _ _ _ _ (@Ľ _) (@Ļ _) (@Ā _ _ _ _ _ (@Ğ _ _ _ _ _ _ _ _ _ _ (@Đ _) (@ď _) (@Ă _ _ _ 0 _ _ (by rfl) (by first|exact Or.inl rfl|exact Or.inr (Or.inl rfl)|exact Or.inr (Or.inr rfl)) (by decide) (by decide)) (@Ā _ _ _ _ _ (@ă _ _ _ _ _ _)) (λ_ _=>rfl))) (@Ā _ _ _ _ _ (@ă _ _ _ _ _ _)))) (λ_ _=>rfl))) (by rfl) (by first|exact .inl rfl|exact .inr rfl|assumption)) (@Č _ _ _ _ _ (@Ģ _ _ _ _ _ _ (@ĵ _ _ _ _ _ (@ŕ _ _ _ _ _ _ _ (@ĉ _ _ _ _ _ _ _ (@ĕ _ _ _ _ _ _ _ _ _ _ _ (@ń _) (@ĳ _) (@Ā _ _ _ _ _ (@ĕ _ _ _ _ _ _ _ _ _ _ _ (@š _) (@Š _) (@Ā _ _ _ _ _ (@ĕ _ _ _ _ _ _ _ _ _ _ _ (@Ľ _) (@Ļ _) (@Ā _ _ _ _ _ (@Ğ _ _ _ _ _ _ _ _ _ _ (@Đ _) (@ď _) (@Ă _ _ _ 0 _ _ (by rfl) (by first|exact Or.inl rfl|exact Or.inr (Or.inl rfl)|exact Or.inr (Or.inr rfl)) (by decide) (by decide)) (@Ā _ _ _ _ _ (@ă _ _ _ _ _ _)) (λ_ _=>rfl))) (@Ā _ _ _ _ _ (@ă _ _ _ _ _ _)))) (@Ā _ _ _ _ _ (@ă _ _ _ _ _ _)))) (@Ă _ _ _ 1 _ _ (by rfl) (by first|exact Or.inl rfl|exact Or.inr (Or.inl rfl)|exact Or.inr (Or.inr rfl)) (by decide) (by decide))) (@ĉ _ _ _ _ _ _ _ (@ĕ _ _ _ _ _ _ _ _ _ _ _ (@ń _) (@ĳ _) (@Ā _ _ _ _ _ (@ĕ _ _ _ _ _ _ _ _ _ _ _ (@š _) (@Š _) (@Ā _ _ _ _ _ (@ĕ _ _ _ _ _ _ _ _ _ _ _ (@Ľ _) (@Ļ _) (@Ā _ _ _ _ _ (@Ğ _ _ _ _ _ _ _ _ _ _ (@Đ _) (@ď _) (@Ă _ _ _ 0 _ _ (by rfl) (by first|exact Or.inl rfl|exact Or.inr (Or.inl rfl)|exact Or.inr (Or.inr rfl)) (by decide) (by decide)) (@Ā _ _ _ _ _ (@ă _ _ _ _ _ _)) (λ_ _=>rfl))) (@Ā _ _ _ _ _ (@ă _ _ _ _ _ _)))) (@Ā _ _ _ _ _ (@ă _ _ _ _ _ _)))) (@Ă _ _ _ 1 _ _ (by rfl) (by first|exact Or.inl rfl|exact Or.inr (Or.inl rfl)|exact Or.inr (Or.inr rfl)) (by decide) (by decide))) (@ĉ _ _ _ _ _ _ _ (@ĕ _ _ _ _ _ _ _ _ _ _ _ (@ń _) (@ĳ _) (@Ā _ _ _ _ _ (@Ě _ _ _ _ _ (@ņ _ _ _ _ _ _ _ _ _ _ _ (@Ĳ _) (@ı _) (@Ā _ _ _ _ _ (@ă _ _ _ _ _ _)) (@Ā _ _ _ _ _ (@ĕ _ _ _ _ _ _ _ _ _ _ _ (@Ľ _) (@Ļ _) (@Ā _ _ _ _ _ (@Ğ _ _ _ _ _ _ _ _ _ _ (@Đ _) (@ď _) (@Ă _ _ _ 0 _ _ (by rfl) (by first|exact Or.inl rfl|exact Or.inr (Or.inl rfl)|exact Or.inr (Or.inr rfl)) (by decide) (by decide)) (@Ā _ _ _ _ _ (@ă _ _ _ _ _ _)) (λ_ _=>rfl))) (@Ā _ _ _ _ _ (@ă _ _ _ _ _ _))))))) (@Ă _ _ _ 1 _ _ (by rfl) (by first|exact Or.inl rfl|exact Or.inr (Or.inl rfl)|exact Or.inr (Or.inr rfl)) (by decide) (by decide))) (@ĥ _ _ _) (by exact ĸ rfl)) (by exact ĸ rfl)) (by exact ĸ rfl))))))))
def ZcM(T:Tx K mg a):Į P w K mg base (ū P w) 2 a.Wo a.Yl ["_law_script","_law_start","_law_many","_law_long"] (ŷ ⟨K,Ī a⟩ 4 vK):=by
 refine bB (cm:=Ī a) (mb:=DN) T.gR.F lq rfl rfl rfl λcdv A outer s H E hr=>?_
 have hu:=hr.units
 exact(@ċ _ _ _ _ _ _ _ (@ī _ _ _ _ _ _ 4 _ _ lq.nd rfl (Or.inl rfl) (@aq _ _ _ _ _ _ (@ĉ _ _ _ _ _ _ _ (@Ŵ _ _ _ _ _ _) (@ĉ _ _ _ _ _ _ _ (@Ŵ _ _ _ _ _ _) (@ĉ _ _ _ _ _ _ _ (@Ŵ _ _ _ _ _ _) (@ĉ _ _ _ _ _ _ _ (@Ŵ _ _ _ _ _ _) (@ĉ _ _ _ _ _ _ _ (@Ŵ _ _ _ _ _ _) (@ĉ _ _ _ _ _ _ _ (@Ŵ _ _ _ _ _ _) (@ĉ _ _ _ _ _ _ _ (@Ŵ _ _ _ _ _ _) (@ĉ _ _ _ _ _ _ _ (@Ŵ _ _ _ _ _ _) (@ĉ _ _ _ _ _ _ _ (@Ŵ _ _ _ _ _ _) (@ĉ _ _ _ _ _ _ _ (@Ŵ _ _ _ _ _ _) (@ĉ _ _ _ _ _ _ _ (@Ŵ _ _ _ _ _ _) (@ĉ _ _ _ _ _ _ _ (@Ŵ _ _ _ _ _ _) (@ĥ _ _ _) (by exact ĸ rfl)) (by exact ĸ rfl)) (by exact ĸ rfl)) (by exact ĸ rfl)) (by exact ĸ rfl)) (by exact ĸ rfl)) (by exact ĸ rfl)) (by exact ĸ rfl)) (by exact ĸ rfl)) (by exact ĸ rfl)) (by exact ĸ rfl)) (by exact ĸ rfl))) (by rfl) (by first|exact .inl rfl|exact .inr rfl|assumption)) (@ċ _ _ _ _ _ _ _ (@ī _ _ _ _ _ _ 5 _ _ lq.nd rfl (Or.inl rfl) (@ĵ _ _ _ _ _ (@ĕ _ _ _ _ _ _ _ _ _ _ _ (@Ľ _) (@Ļ _) (@Ā _ _ _ _ _ (@Ě _ _ _ _ _ (@đ _ _ _ _ _ _ _ _ _ _ _ _ _ _ _ _ (nq T) Ċ hr.mo rfl T.Ņ.m T.Ņ.F.kp T.Ņ.b (@ġ _ _ _ _ _ _ _ _ _ _ _ _ _ _ _) (@Ć _ _ _ _ _ 0 _ _ (by rfl) (by first|exact Or.inl rfl|exact Or.inr (Or.inl rfl)|exact Or.inr (Or.inr rfl)) (by decide) (by decide) (@Ć _ _ _ _ _ 1 _ _ (by rfl) (by first|exact Or.inl rfl|exact Or.inr (Or.inl rfl)|exact Or.inr (Or.inr rfl)) (by decide) (by decide) (@č _ _ _) (by exact ĸ rfl)) (by exact ĸ rfl)) (by decide) (by exact ĸ rfl) (by rfl)))) (@Ā _ _ _ _ _ (@ă _ _ _ _ _ _)))) (by rfl) (by first|exact .inl rfl|exact .inr rfl|assumption)) (@ċ _ _ _ _ _ _ _ (@ī _ _ _ _ _ _ 4 _ _ lq.nd rfl (Or.inl rfl) (@ņ _ _ _ _ _ _ _ _ _ _ _ (@Ĳ _) (@ı _) (@Ā _ _ _ _ _ (@Ě _ _ _ _ _ (@cI _ _ _ _ _ _ _ _ _ _ _ (@Ă _ _ _ 4 _ _ (by rfl) (by first|exact Or.inl rfl|exact Or.inr (Or.inl rfl)|exact Or.inr (Or.inr rfl)) (by decide) (by decide)) (@bL _ _ _ _ _ (@v_var _ _ _ 5 _ _ (by rfl) (by first|exact Or.inl rfl|exact Or.inr (Or.inl rfl)|exact Or.inr (Or.inr rfl)) (by decide) (by decide))) (@rY _ _ _)))) (@Ā _ _ _ _ _ (@Ě _ _ _ _ _ (@cI _ _ _ _ _ _ _ _ _ _ _ (@Ă _ _ _ 4 _ _ (by rfl) (by first|exact Or.inl rfl|exact Or.inr (Or.inl rfl)|exact Or.inr (Or.inr rfl)) (by decide) (by decide)) (@rY _ _ _) (@bL _ _ _ _ _ (@v_var _ _ _ 5 _ _ (by rfl) (by first|exact Or.inl rfl|exact Or.inr (Or.inl rfl)|exact Or.inr (Or.inr rfl)) (by decide) (by decide))))))) (by rfl) (by first|exact .inl rfl|exact .inr rfl|assumption)) (@ċ _ _ _ _ _ _ _ (@ī _ _ _ _ _ _ 6 _ _ lq.nd rfl (Or.inl rfl) (@aq _ _ _ _ _ _ (@ĥ _ _ _)) (by rfl) (by first|exact .inl rfl|exact .inr rfl|assumption)) (@ċ _ _ _ _ _ _ _ (@bJ _ _ _ _ _ _ _ _ _ _ PassesOwn.leaving rfl (@ŧ _ _ _ _ _ _ _ _ rfl T.aO (@ĉ _ _ _ _ _ _ _ (@v_var _ _ _ 2 _ _ (by rfl) (by first|exact Or.inl rfl|exact Or.inr (Or.inl rfl)|exact Or.inr (Or.inr rfl)) (by decide) (by decide)) (@ĥ _ _ _) (by exact ĸ rfl)) (by exact ĸ rfl)) (@Ĝ _ _ _ 7 _ lq.nd rfl (Or.inl rfl) (by first|exact .inl rfl|exact .inr rfl|assumption)) (@ċ _ _ _ _ _ _ _ (@ī _ _ _ _ _ _ 8 _ _ lq.nd rfl (by first|exact Or.inl rfl|exact Or.inr rfl) (@đ _ _ _ _ _ _ _ _ _ _ _ _ _ _ _ _ (Gi T) Ċ hr.mo rfl T.ŗ.m T.ŗ.F.kp T.ŗ.b (@ġ _ _ _ _ _ _ _ _ _ _ _ _ _ _ _) (@ė _ _ _ _ _ _ _ (@Ě _ _ _ _ _ (@ņ _ _ _ _ _ _ _ _ _ _ _ (@Ĳ _) (@ı _) (@Ā _ _ _ _ _ (@ĕ _ _ _ _ _ _ _ _ _ _ _ (@aC _) (@Ţ _) (@Ā _ _ _ _ _ (@Ě _ _ _ _ _ (@đ _ _ _ _ _ _ _ _ _ _ _ _ _ _ _ _ (nq T) Ċ hr.mo rfl T.Ņ.m T.Ņ.F.kp T.Ņ.b (@ġ _ _ _ _ _ _ _ _ _ _ _ _ _ _ _) (@Ć _ _ _ _ _ 0 _ _ (by rfl) (by first|exact Or.inl rfl|exact Or.inr (Or.inl rfl)|exact Or.inr (Or.inr rfl)) (by decide) (by decide) (@ė _ _ _ _ _ _ _ (@Ě _ _ _ _ _ (@ņ _ _ _ _ _ _ _ _ _ _ _ (@Ĳ _) (@ı _) (@Ă _ _ _ 1 _ _ (by rfl) (by first|exact Or.inl rfl|exact Or.inr (Or.inl rfl)|exact Or.inr (Or.inr rfl)) (by decide) (by decide)) (@Ă _ _ _ 7 _ _ (by rfl) (by first|exact Or.inl rfl|exact Or.inr (Or.inl rfl)|exact Or.inr (Or.inr rfl)) (by decide) (by decide)))) (@č _ _ _) (by exact ĸ rfl)) (by exact ĸ rfl)) (by decide) (by exact ĸ rfl) (by rfl)))) (@Ā _ _ _ _ _ (@ă _ _ _ _ _ _)))) (@Ā _ _ _ _ _ (@ĕ _ _ _ _ _ _ _ _ _ _ _ (@ń _) (@ĳ _) (@Ā _ _ _ _ _ (@ă _ _ _ _ _ _)) (@Ă _ _ _ 7 _ _ (by rfl) (by first|exact Or.inl rfl|exact Or.inr (Or.inl rfl)|exact Or.inr (Or.inr rfl)) (by decide) (by decide)))))) (@ė _ _ _ _ _ _ _ (@Ě _ _ _ _ _ (@ņ _ _ _ _ _ _ _ _ _ _ _ (@Ĳ _) (@ı _) (@Ā _ _ _ _ _ (@ĕ _ _ _ _ _ _ _ _ _ _ _ (@ń _) (@ĳ _) (@Ā _ _ _ _ _ (@ă _ _ _ _ _ _)) (@Ă _ _ _ 3 _ _ (by rfl) (by first|exact Or.inl rfl|exact Or.inr (Or.inl rfl)|exact Or.inr (Or.inr rfl)) (by decide) (by decide)))) (@Ā _ _ _ _ _ (@ă _ _ _ _ _ _)))) (@č _ _ _) (by exact ĸ rfl)) (by exact ĸ rfl)) (by decide) (by exact ĸ rfl) (by rfl)) (by rfl) (by first|exact .inl rfl|exact .inr rfl|assumption)) (@ċ _ _ _ _ _ _ _ (jo (i:=9) lq.nd rfl rfl ["_law_xs","_law_j"] [8] 1 (ą Nt) rfl rfl (@ŧ _ _ _ _ _ _ _ _ rfl T.aO (@ĉ _ _ _ _ _ _ _ (@Ě _ _ _ _ _ (@ņ _ _ _ _ _ _ _ _ _ _ _ (@Ĳ _) (@ı _) (@Ā _ _ _ _ _ (@ă _ _ _ _ _ _)) (@Ā _ _ _ _ _ (@ĕ _ _ _ _ _ _ _ _ _ _ _ (@Ľ _) (@Ļ _) (@Ā _ _ _ _ _ (@Ğ _ _ _ _ _ _ _ _ _ _ (@Đ _) (@ď _) (@Ă _ _ _ 8 _ _ (by rfl) (by first|exact Or.inl rfl|exact Or.inr (Or.inl rfl)|exact Or.inr (Or.inr rfl)) (by decide) (by decide)) (@Ā _ _ _ _ _ (@ă _ _ _ _ _ _)) (λ_ _=>rfl))) (@Ă _ _ _ 3 _ _ (by rfl) (by first|exact Or.inl rfl|exact Or.inr (Or.inl rfl)|exact Or.inr (Or.inr rfl)) (by decide) (by decide)))))) (@ĥ _ _ _) (by exact ĸ rfl)) (by exact ĸ rfl)) (λ_ _ _ _ _=>(@Ĝ _ _ _ 1 _ (show(["_law_xs","_law_j"]:List Str).Nodup by decide +kernel) rfl (Or.inl rfl) (Or.inr rfl))) (λ_ _ _ _ _=>(@Ŝ _ _ _)) (λ_ _ _ _ _=>(@Ě _ _ _ _ _ (@đ _ _ _ _ _ _ _ _ _ _ _ _ _ _ _ _ (ZcL T) Ċ hr.mo rfl T.jq.m T.jq.F.kp T.jq.b (@ź _ _ _) (@ė _ _ _ _ _ _ _ (@Ě _ _ _ _ _ (@cI _ _ _ _ _ _ _ _ _ _ _ (@Ă _ _ _ 0 _ _ (by rfl) (by first|exact Or.inl rfl|exact Or.inr (Or.inl rfl)|exact Or.inr (Or.inr rfl)) (by decide) (by decide)) (@bL _ _ _ _ _ (@Ě _ _ _ _ _ (@ņ _ _ _ _ _ _ _ _ _ _ _ (@Ĳ _) (@ı _) (@Ā _ _ _ _ _ (@ă _ _ _ _ _ _)) (@Ā _ _ _ _ _ (@ĕ _ _ _ _ _ _ _ _ _ _ _ (@ń _) (@ĳ _) (@Ā _ _ _ _ _ (@ă _ _ _ _ _ _)) (@Ă _ _ _ 1 _ _ (by rfl) (by first|exact Or.inl rfl|exact Or.inr (Or.inl rfl)|exact Or.inr (Or.inr rfl)) (by decide) (by decide))))))) (@bL _ _ _ _ _ (@Ě _ _ _ _ _ (@ņ _ _ _ _ _ _ _ _ _ _ _ (@Ĳ _) (@ı _) (@Ā _ _ _ _ _ (@ă _ _ _ _ _ _)) (@Ā _ _ _ _ _ (@ĕ _ _ _ _ _ _ _ _ _ _ _ (@ń _) (@ĳ _) (@Ā _ _ _ _ _ (@ă _ _ _ _ _ _)) (@Ă _ _ _ 1 _ _ (by rfl) (by first|exact Or.inl rfl|exact Or.inr (Or.inl rfl)|exact Or.inr (Or.inr rfl)) (by decide) (by decide))))))))) (@č _ _ _) (by exact ĸ rfl)) (by decide) (by exact ĸ rfl) (by rfl)))) ⟨rfl,⟨rfl,Or.inl rfl⟩,trivial⟩) (@Č _ _ _ _ _ (@PS.wk _ _ _ _ (dH (nD PySem.F.plainAttrs_list PySem.F.slot_list_append PySem.F.type_list_append bO (pv 6) (@ĉ _ _ _ _ _ _ _ (@ŕ _ _ _ _ _ _ _ (@ĉ _ _ _ _ _ _ _ (@Ğ _ _ _ _ _ _ _ _ _ _ (@Đ _) (@ď _) (@Ă _ _ _ 4 _ _ (by rfl) (by first|exact Or.inl rfl|exact Or.inr (Or.inl rfl)|exact Or.inr (Or.inr rfl)) (by decide) (by decide)) (@Ă _ _ _ 7 _ _ (by rfl) (by first|exact Or.inl rfl|exact Or.inr (Or.inl rfl)|exact Or.inr (Or.inr rfl)) (by decide) (by decide)) (λ_ _=>rfl)) (@ĉ _ _ _ _ _ _ _ (@Ě _ _ _ _ _ (@ņ _ _ _ _ _ _ _ _ _ _ _ (@Ĳ _) (@ı _) (@Ā _ _ _ _ _ (@ă _ _ _ _ _ _)) (@Ā _ _ _ _ _ (@ĕ _ _ _ _ _ _ _ _ _ _ _ (@Ľ _) (@Ļ _) (@Ā _ _ _ _ _ (@ĕ _ _ _ _ _ _ _ _ _ _ _ (@ń _) (@ĳ _) (@Ā _ _ _ _ _ (@Ğ _ _ _ _ _ _ _ _ _ _ (@Đ _) (@ď _) (@Ă _ _ _ 8 _ _ (by rfl) (by first|exact Or.inl rfl|exact Or.inr (Or.inl rfl)|exact Or.inr (Or.inr rfl)) (by decide) (by decide)) (@Ā _ _ _ _ _ (@ă _ _ _ _ _ _)) (λ_ _=>rfl))) (@Ā _ _ _ _ _ (@ă _ _ _ _ _ _)))) (@Ā _ _ _ _ _ (@ĕ _ _ _ _ _ _ _ _ _ _ _ (@oV _) (@oN _) (@Ā _ _ _ _ _ (@ă _ _ _ _ _ _)) (@Ā _ _ _ _ _ (@ă _ _ _ _ _ _)))))))) (@ĉ _ _ _ _ _ _ _ (@v_var _ _ _ 9 _ _ (by rfl) (by first|exact Or.inl rfl|exact Or.inr (Or.inl rfl)|exact Or.inr (Or.inr rfl)) (by decide) (by decide)) (@ĥ _ _ _) (by exact ĸ rfl)) (by exact ĸ rfl)) (by exact ĸ rfl))) (@ĥ _ _ _) (by exact ĸ rfl)))) (λ_ _ _ h=> @jh _ _ _ _ _ _ _ _ h))))) (by intro _;rfl)) (@Č _ _ _ _ _ (@Ģ _ _ _ _ _ _ (@gn _ _ _ 6 _ _ (by rfl) (by first|exact Or.inl rfl|exact Or.inr (Or.inl rfl)|exact Or.inr (Or.inr rfl)) (by decide) (by decide)))))))))
def BR(T:Tx K mg a):Į P w K mg base (ū P w) 1 a.Oq a.Ym ["self","width","height","things","days"] (Qw ⟨K,Ī a⟩ 5 "Yard" lJ):=by
 refine fnI (cm:=Ī a) (mb:=DP) T.fB.F Zce rfl rfl rfl λcdv A outer s H E hr=>?_
 have hu:=hr.units
 exact(ċ (cL (i:=0) ["Yard"] ⟨⟨T.ao,T.aP⟩,trivial⟩ (pv 0) (v_var 1))
  (ċ (cL (i:=0) ["Yard"] ⟨⟨T.ao,T.cg⟩,trivial⟩ (pv 0) (v_var 2))
  (ċ (cL (i:=0) ["Yard"] ⟨⟨T.ao,T.dX⟩,trivial⟩ (pv 0) (Ě (PE.wk (aA fL (by rfl) T.iB PyProof.Rows.boot_list (ğ (Ă 3) Ĭ)) λ_ _ _ h=>wQ fM h)))
  (Č (cL (i:=0) ["Yard"] ⟨⟨T.ao,T.eO⟩,trivial⟩ (pv 0) (Ě (ű ["name","times","turns"] [] 3 (ą Nu) rfl rfl (Ź 4) (λ_ _ _ _ _=>(iU rfl (Ĵ (Ĝ (i:=0) (show(["name","times","turns"]:List Str).Nodup by decide +kernel) rfl (Or.inl rfl) (hf:=Or.inr rfl)) (Ĵ (Ĝ (i:=1) (show(["name","times","turns"]:List Str).Nodup by decide +kernel) rfl (Or.inl rfl) (hf:=Or.inr rfl)) (Ĵ (Ĝ (i:=2) (show(["name","times","turns"]:List Str).Nodup by decide +kernel) rfl (Or.inl rfl) (hf:=Or.inr rfl)) bG))))) (λ_ _ _ _ _=>Ŝ) (λ_ _ _ _ _=>(ŕ (ĉ (v_var 0) (ĉ (v_var 1) (ĉ (Ě (PE.wk (aA fL (by rfl) T.iB PyProof.Rows.boot_list (ğ (Ă 2) Ĭ)) λ_ _ _ h=>wQ fM h)) ĥ))))) trivial)))))))
def ZcN(T:Tx K mg a):Į P w K mg base (ū P w) 2 a.Wq a.Yn ["_law_cells","_law_size_here","_law_days_here"] (ŷ ⟨K,Ī a⟩ 3 Bf):=by
 refine bB (cm:=Ī a) (mb:=DQ) T.fO.F uf rfl rfl rfl λcdv A outer s H E hr=>?_
 have hu:=hr.units
 exact(ċ (ī (i:=3) uf.nd rfl (Or.inl rfl) (aq ĥ))
  (ċ (bJ PassesOwn.leaving rfl (Ź 0) (Ĝ (i:=4) uf.nd rfl (Or.inl rfl))
  (ċ (ī (i:=5) uf.nd rfl (Or.inl rfl) (đ (Gi T) Ċ hr.mo rfl T.ŗ.m T.ŗ.F.kp T.ŗ.b ġ (Ć 4 (hr:=(ė ă č)))))
  (ċ (ī (i:=6) uf.nd rfl (Or.inl rfl) (ĵ (ĕ Ľ Ļ (Ā (Ğ Đ ď (Ă 5) (Ā ă) (λ_ _=>rfl))) (Ā (PE.wk (ħ aG (by rfl) T.cT PySem.boot_len (ğ (Ă 2) Ĭ)) λ_ _ _ h=>ů aH h)))))
  (Č (PS.wk (dH (nD PySem.F.plainAttrs_list PySem.F.slot_list_append PySem.F.type_list_append bO (pv 3) (ĉ (ŕ (ĉ (ŕ (ĉ (ĕ Ľ Ļ (Ā (Ğ Đ ď (Ă 5) (Ā ă) (λ_ _=>rfl))) (Ā (Ğ Đ ď (Ă 1) (Ā ă) (λ_ _=>rfl)))) (ĉ (ĕ Ľ Ļ (Ā (Ğ Đ ď (Ă 5) (Ā ă) (λ_ _=>rfl))) (Ā (Ğ Đ ď (Ă 1) (Ā ă) (λ_ _=>rfl)))) ĥ))) (ĉ (v_var 6) (ĉ (ĕ Ľ Ļ (Ā (Ğ Đ ď (Ă 5) (Ā ă) (λ_ _=>rfl))) (Ā (PE.wk (ħ aG (by rfl) T.cT PySem.boot_len (ğ (Ā (Ğ Đ ď (Ā (Ğ Đ ď (Ă 2) (Ă 6) (λ_ _=>rfl))) (Ā ă) (λ_ _=>rfl))) Ĭ)) λ_ _ _ h=>ů aH h))) ĥ)))) ĥ))) λ_ _ _ h=>jh h)))))
  (Č (Ģ (gn 3)))))
def ZcO(T:Tx K mg a):Į P w K mg base (ū P w) 1 a.Wr a.Yo ["yard","stone"] (ŷ ⟨K,Ī a⟩ 2 HY):=by
 refine bB (cm:=Ī a) (mb:=DR) T.gU.F Zcf rfl rfl rfl λcdv A outer s H E hr=>?_
 have hu:=hr.units
 exact(Č (Ģ (ĵ (v_and (vf jB gJ jz gG (Ā ă) (Ā (Ğ Đ ď (Ă 1) (Ā ă) (λ_ _=>rfl))) (Ā (bf ["Yard"] ⟨⟨T.ao,T.aP⟩,trivial⟩ (Ă 0)))) (mq (vf jB gJ jz gG (Ā ă) (Ā (Ğ Đ ď (Ă 1) (Ā ă) (λ_ _=>rfl))) (Ā (bf ["Yard"] ⟨⟨T.ao,T.cg⟩,trivial⟩ (Ă 0)))))))))
def ZcP(T:Tx K mg a):Į P w K mg base (ū P w) 3 a.Ws a.Yp ["yard","stone"] (ŷ ⟨K,Ī a⟩ 2 H_):=by
 refine bB (cm:=Ī a) (mb:=DW) T.dJ.F Zcg rfl rfl rfl λcdv A outer s H E hr=>?_
 have hu:=hr.units
 exact(Č (Ÿ (pP (dg (Ā (Ě (đ (ZcO T) Ċ hr.mo rfl T.gU.m T.gU.F.kp T.gU.b ġ (Ć 0 (hr:=(Ć 1 (hr:=č)))))))))
  (Č (Av (C:= "NoStone") rfl rfl qY T.JK (Ze3 T) hr.mo rfl (Z10 T) T.gC.b ġ (ĉ (v_var 1) ĥ)))
  Ń))
def ZcQ(T:Tx K mg a):Į P w K mg base (ū P w) 1 a.Wu a.Yq ["yard","day"] (ŷ ⟨K,Ī a⟩ 2 vL):=by
 refine bB (cm:=Ī a) (mb:=sX) T.lK.F Zch rfl rfl rfl λcdv A outer s H E hr=>?_
 have hu:=hr.units
 exact(Č (Ģ (ĵ (vf jB gJ jz gG (Ā ă) (Ă 1) (Ā (PE.wk (ħ aG (by rfl) T.cT PySem.boot_len (ğ (Ā (bf ["Yard"] ⟨⟨T.ao,T.eO⟩,trivial⟩ (Ă 0))) Ĭ)) λ_ _ _ h=>ů aH h))))))
def Gj(T:Tx K mg a):Į P w K mg base (ū P w) 1 a.Wv a.Yr ["yard","day"] (ŷ ⟨K,Ī a⟩ 2 n_):=by
 refine bB (cm:=Ī a) (mb:=DX) T.Ż.F Zci rfl rfl rfl λcdv A outer s H E hr=>?_
 have hu:=hr.units
 exact(Č (Ģ (ĵ (Ğ Đ ď (Ā (Ğ Đ ď (Ā (bf ["Yard"] ⟨⟨T.ao,T.eO⟩,trivial⟩ (Ă 0))) (Ă 1) (λ_ _=>rfl))) (Ā ă) (λ_ _=>rfl)))))
def ZcR(T:Tx K mg a):Į P w K mg base (ū P w) 3 a.Ww a.Ys ["yard","day","turn"] (ŷ ⟨K,Ī a⟩ 3 Ia):=by
 refine bB (cm:=Ī a) (mb:=DY) T.fP.F Zcj rfl rfl rfl λcdv A outer s H E hr=>?_
 have hu:=hr.units
 exact(Č (Ÿ (PW.pt (w_or (pP (dg (Ā (Ě (đ (ZcQ T) Ċ hr.mo rfl T.lK.m T.lK.F.kp T.lK.b ġ (Ć 0 (hr:=(Ć 1 (hr:=č))))))))) (vg (pP (Uk jB gJ jz gG (Ā ă) (Ă 2) (Ā (PE.wk (ħ aG (by rfl) T.cT PySem.boot_len (ğ (Ā (Ě (đ (Gj T) Ċ hr.mo rfl T.Ż.m T.Ż.F.kp T.Ż.b ġ (Ć 0 (hr:=(Ć 1 (hr:=č))))))) Ĭ)) λ_ _ _ h=>ů aH h)))))))
  (Č (Av (C:= "NoTurn") rfl rfl qY T.O_ (Ze4 T) hr.mo rfl (Z1m T) T.g_.b ġ (ĉ (v_var 1) (ĉ (v_var 2) ĥ))))
  Ń))
def ZcS(T:Tx K mg a):Į P w K mg base (ū P w) 4 a.Wx a.Yt ["yard","wants"] (ŷ ⟨K,Ī a⟩ 2 Ib):=by
 refine bB (cm:=Ī a) (mb:=D_) T.dM.F zF rfl rfl rfl λcdv A outer s H E hr=>?_
 have hu:=hr.units
 exact(Č (bJ PassesOwn.leaving rfl (Ź 1) (iU rfl (Ĵ (Ĝ (i:=2) zF.nd rfl (Or.inl rfl)) (Ĵ (Ĝ (i:=3) zF.nd rfl (Or.inl rfl)) (Ĵ (Ĝ (i:=4) zF.nd rfl (Or.inl rfl)) bG))))
  (ċ (C_ (Ě (đ (ZcP T) Ċ hr.mo rfl T.dJ.m T.dJ.F.kp T.dJ.b ġ (Ć 0 (hr:=(Ć 2 (hr:=č)))))))
  (Č (C_ (Ě (đ (ZcR T) Ċ hr.mo rfl T.fP.m T.fP.F.kp T.fP.b ġ (Ć 0 (hr:=(Ć 3 (hr:=(Ć 4 (hr:=č)))))))))))))
def Gk(T:Tx K mg a):Į P w K mg base (ū P w) 1 a.Wy a.Yu ["values","choice"] (ŷ ⟨K,Ī a⟩ 2 pZ):=by
 refine bB (cm:=Ī a) (mb:=Ea) T.bY.F Zck rfl rfl rfl λcdv A outer s H E hr=>?_
 have hu:=hr.units
 exact(Č (Ģ (ű ["choice","number","value"] [1] 2 (ą Nv) rfl rfl (Dv rfl T.k_ (Ni 0)) (λ_ _ _ _ _=>(iU rfl (Ĵ (Ĝ (i:=1) (show(["choice","number","value"]:List Str).Nodup by decide +kernel) rfl (Or.inl rfl) (hf:=Or.inr rfl)) (Ĵ (Ĝ (i:=2) (show(["choice","number","value"]:List Str).Nodup by decide +kernel) rfl (Or.inl rfl) (hf:=Or.inr rfl)) bG)))) (λ_ _ _ _ _=>(Dj (dg (Ā (ĕ Ho Hq (Ā (ĕ wR wU (Ă 0) (Ă 1))) (Ā ă)))))) (λ_ _ _ _ _=>(v_var 2)) ⟨rfl,⟨rfl,Or.inl rfl⟩,trivial⟩)))
def ZcT(T:Tx K mg a):Į P w K mg base (ū P w) 4 a.Ot a.Yw ["prices","choices"] (ŷ ⟨K,Ī a⟩ 2 Ie):=by
 refine Zhj (cm:=Ī a) (mb:=Eb) T.jr.F Zcl rfl rfl rfl T.FT λcc Pt htb A outer s H E hr=>?_
 have hu:=hr.units
 exact(Č (Ģ (ĵ (ZbW (k:=1) ["prices"] [0] (ą Nx) hr.mo rfl rfl (by simp[lams]) htb rfl rfl rfl T.wz (ğ (Ă 1) Ĭ) (λ_ _ _ _ _ hr hu=>(PE.wk (ħ (oZ rfl) (by rfl) T.wA PyProof.Rows.boot_sum (ğ (Ā (Ě (đ (Gk T) Ċ hr.mo rfl T.bY.m T.bY.F.kp T.bY.b ź (Ć 0 (hr:=(Ć 1 (hr:=č))))))) Ĭ)) λ_ _ _ h=>ů pq h)) ⟨rfl,⟨rfl,Or.inl rfl⟩,trivial⟩))))
def ZcU(T:Tx K mg a):Į P w K mg base (ū P w) 1 a.Wz a.Yx ["met","many"] (ŷ ⟨K,Ī a⟩ 2 vM):=by
 refine bB (cm:=Ī a) (mb:=yC) T.cj.F Pj rfl rfl rfl λcdv A outer s H E hr=>?_
 have hu:=hr.units
 exact(ċ (bJ PassesOwn.leaving rfl (ŧ rfl T.aO (ĉ (v_var 1) ĥ)) (Ĝ (i:=2) Pj.nd rfl (Or.inl rfl))
  (Č (Ÿ (pP (dg (Ā (ĕ Ho Hq (Ā (ĕ wR wU (Ă 0) (Ă 2))) (Ā ă)))))
  (Č (Ģ (gn 2)))
  Ń)))
  (Č (Ģ (ĵ jA))))
def ZcV(T:Tx K mg a):Į P w K mg base (ū P w) 2 a.WD a.Yy ["covers","choice","base"] (ŷ ⟨K,Ī a⟩ 3 Bg):=by
 refine bB (cm:=Ī a) (mb:=Ed) T.ou.F zG rfl rfl rfl λcdv A outer s H E hr=>?_
 have hu:=hr.units
 exact(ċ (ī (i:=3) zG.nd rfl (Or.inl rfl) (ĵ (v_var 2)))
  (ċ (bJ PassesOwn.leaving rfl (gw (Ě (đ (Gk T) Ċ hr.mo rfl T.bY.m T.bY.F.kp T.bY.b ġ (Ć 0 (hr:=(Ć 1 (hr:=č))))))) (Ĝ (i:=4) zG.nd rfl (Or.inl rfl))
  (Č (xT (i:=3) zG.nd rfl (Or.inl rfl) (v_var 4))))
  (Č (Ģ (gn 3)))))
def ZcW(T:Tx K mg a):Į P w K mg base (ū P w) 5 a.WK a.Yz ["prices","covers","many","base"] (ŷ ⟨K,Ī a⟩ 4 Bh):=by
 refine Zhk (cm:=Ī a) (mb:=yD) T.cO.F FW rfl rfl rfl λcdv A outer s H E hr=>?_
 have hu:=hr.units
 exact(ċ (jo (i:=4) FW.nd rfl rfl ["many","covers","base","choice"] [2,1,3] 1 (ą HN) rfl rfl (ŧ rfl T.aO (ĉ (ĕ oW oX (Ā ă) (Ā (PE.wk (ħ aG (by rfl) T.cT PySem.boot_len (ğ (Ă 0) Ĭ)) λ_ _ _ h=>ů aH h))) ĥ)) (λ_ _ _ _ _=>(Ĝ (i:=3) (show(["many","covers","base","choice"]:List Str).Nodup by decide +kernel) rfl (Or.inl rfl) (hf:=Or.inr rfl))) (λ_ _ _ _ _=>Ŝ) (λ_ _ _ _ _=>(Ě (đ (ZcU T) Ċ hr.mo rfl T.cj.m T.cj.F.kp T.cj.b ź (ė (Ě (đ (ZcV T) Ċ hr.mo rfl T.ou.m T.ou.F.kp T.ou.b ź (Ć 1 (hr:=(Ć 3 (hr:=(Ć 2 (hr:=č)))))))) (Ć 0 (hr:=č)))))) ⟨rfl,⟨rfl,Or.inl rfl⟩,⟨rfl,⟨rfl,Or.inl rfl⟩,⟨rfl,⟨rfl,Or.inl rfl⟩,trivial⟩⟩⟩)
  (ċ (Ÿ (œ rW wG (Ā (Ğ Đ ď (Ă 4) (Ā (uG iy ig (Ā ă))) (λ_ _=>rfl))) (Ā jA) (ĩ _))
  (Č (Ģ (ĵ (ŕ (ĉ Ŵ (ĉ (Ğ Đ ď (Ă 4) (Ā (uG iy ig (Ā ă))) (λ_ _=>rfl)) ĥ))))))
  Ń)
  (ċ (ī (i:=5) FW.nd rfl (Or.inl rfl) (đ (ZcT T) Ċ hr.mo rfl T.jr.m T.jr.F.kp T.jr.b ġ (Ć 0 (hr:=(ė (Ě (ű ["number","want"] [] 2 (ą HN) rfl rfl (Dv rfl T.k_ (Ni 4)) (λ_ _ _ _ _=>(iU rfl (Ĵ (Ĝ (i:=0) (show(["number","want"]:List Str).Nodup by decide +kernel) rfl (Or.inl rfl) (hf:=Or.inr rfl)) (Ĵ (Ĝ (i:=1) (show(["number","want"]:List Str).Nodup by decide +kernel) rfl (Or.inl rfl) (hf:=Or.inr rfl)) bG)))) (λ_ _ _ _ _=>(Dj (œ Ab rG (Ă 1) (Ā jA) (ĩ _)))) (λ_ _ _ _ _=>(v_var 0)) trivial)) č)))))
  (Č (Ģ (ĵ (ŕ (ĉ Ŵ (ĉ (v_var 5) (ĉ (PE.wk (ħ (oZ rfl) (by rfl) T.wA PyProof.Rows.boot_sum (ğ (Ā (Ě (đ (Gk T) Ċ hr.mo rfl T.bY.m T.bY.F.kp T.bY.b ġ (Ć 0 (hr:=(Ć 5 (hr:=č))))))) Ĭ)) λ_ _ _ h=>ů pq h) (ĉ (v_var 4) ĥ)))))))))))
def Pz(T:Tx K mg a):Į P w K mg base (ū P w) 1 a.WL a.YB ["truths"] (ŷ ⟨K,Ī a⟩ 1 Bj):=by
 refine bB (cm:=Ī a) (mb:=Ef) T.ż.F ug rfl rfl rfl λcdv A outer s H E hr=>?_
 have hu:=hr.units
 exact(ċ (ī (i:=1) ug.nd rfl (Or.inl rfl) (ĵ ă))
  (ċ (bJ PassesOwn.leaving rfl (Dv rfl T.k_ (Ni 0)) (iU rfl (Ĵ (Ĝ (i:=2) ug.nd rfl (Or.inl rfl)) (Ĵ (Ĝ (i:=3) ug.nd rfl (Or.inl rfl)) bG)))
  (Č (Ÿ (dg (Ă 3))
  (Č (xT (i:=1) ug.nd rfl (Or.inl rfl) (ĕ oW oX (Ā ă) (Ă 2))))
  Ń)))
  (Č (Ģ (gn 1)))))
def ZcX(T:Tx K mg a):Į P w K mg base (ū P w) 1 a.WM a.YC ["points"] (ŷ ⟨K,Ī a⟩ 1 Ig):=by
 refine bB (cm:=Ī a) (mb:=Eh) T.gW.F FZ rfl rfl rfl λcdv A outer s H E hr=>?_
 have hu:=hr.units
 exact(ċ (jo (i:=1) FZ.nd rfl rfl ["point"] [] 1 (ą HS) rfl rfl (Ź 0) (λ_ _ _ _ _=>(Ĝ (i:=0) (show(["point"]:List Str).Nodup by decide +kernel) rfl (Or.inl rfl) (hf:=Or.inr rfl))) (λ_ _ _ _ _=>Ŝ) (λ_ _ _ _ _=>(Ğ Đ ď (Ă 0) (Ā ă) (λ_ _=>rfl))) trivial)
  (ċ (jo (i:=2) FZ.nd rfl rfl ["point"] [] 1 (ą HS) rfl rfl (Ź 0) (λ_ _ _ _ _=>(Ĝ (i:=0) (show(["point"]:List Str).Nodup by decide +kernel) rfl (Or.inl rfl) (hf:=Or.inr rfl))) (λ_ _ _ _ _=>Ŝ) (λ_ _ _ _ _=>(Ğ Đ ď (Ă 0) (Ā ă) (λ_ _=>rfl))) trivial)
  (Č (Ģ (aq (ĉ (ŕ (ĉ ă (ĉ ă (ĉ (PE.wk (ħ (xP rfl) (by rfl) T.BJ PyProof.Rows.boot_max (ğ (Ă 1) Ĭ)) λ_ _ _ h=>ů xQ h) ĥ)))) (ĉ (ŕ (ĉ (uG iy ig (Ā ă)) (ĉ ă (ĉ (uG iy ig (Ā (PE.wk (ħ (Nb rfl) (by rfl) T.wz PyProof.Rows.boot_min (ğ (Ă 1) Ĭ)) λ_ _ _ h=>ů Nf h))) ĥ)))) (ĉ (ŕ (ĉ ă (ĉ ă (ĉ (PE.wk (ħ (xP rfl) (by rfl) T.BJ PyProof.Rows.boot_max (ğ (Ă 2) Ĭ)) λ_ _ _ h=>ů xQ h) ĥ)))) (ĉ (ŕ (ĉ ă (ĉ (uG iy ig (Ā ă)) (ĉ (uG iy ig (Ā (PE.wk (ħ (Nb rfl) (by rfl) T.wz PyProof.Rows.boot_min (ğ (Ă 2) Ĭ)) λ_ _ _ h=>ů Nf h))) ĥ)))) ĥ)))))))))
def ZcY(T:Tx K mg a):Į P w K mg base (ū P w) 1 a.WQ a.YD ["points"] (ŷ ⟨K,Ī a⟩ 1 Ih):=by
 refine bB (cm:=Ī a) (mb:=Ei) T.gY.F Ga rfl rfl rfl λcdv A outer s H E hr=>?_
 have hu:=hr.units
 exact(ċ (ī (i:=1) Ga.nd rfl (Or.inl rfl) (aq ĥ))
  (ċ (bJ PassesOwn.leaving rfl (Ź 0) (Ĝ (i:=2) Ga.nd rfl (Or.inl rfl))
  (Č (Ÿ (œ ZbT (JC hu) (Ă 2) (Ă 1) (by with_unfolding_all rfl))
  (Č (PS.wk (dH (nD PySem.F.plainAttrs_list PySem.F.slot_list_append PySem.F.type_list_append bO (pv 1) (ĉ (v_var 2) ĥ))) λ_ _ _ h=>jh h))
  Ń)))
  (Č (Ģ (gn 1)))))
def ZcZ(T:Tx K mg a):Į P w K mg base (ū P w) 1 a.WR a.YF ["one","other"] (ŷ ⟨K,Ī a⟩ 2 Ii):=by
 refine bB (cm:=Ī a) (mb:=Ej) T.cP.F Gb rfl rfl rfl λcdv A outer s H E hr=>?_
 have hu:=hr.units
 exact(ċ (ī (i:=2) Gb.nd rfl (Or.inl rfl) (ĵ (ĕ š Š (Ā (Ğ Đ ď (Ă 1) (Ā ă) (λ_ _=>rfl))) (Ā (Ğ Đ ď (Ă 0) (Ā ă) (λ_ _=>rfl))))))
  (ċ (ī (i:=3) Gb.nd rfl (Or.inl rfl) (ĵ (ĕ š Š (Ā (Ğ Đ ď (Ă 0) (Ā ă) (λ_ _=>rfl))) (Ā (Ğ Đ ď (Ă 1) (Ā ă) (λ_ _=>rfl))))))
  (Č (Ģ (ĵ (ŕ (ĉ (v_var 2) (ĉ (v_var 3) (ĉ (Ě (ņ Ĳ ı (Ā (ĕ ń ĳ (Ă 2) (Ā (Ğ Đ ď (Ă 0) (Ā ă) (λ_ _=>rfl))))) (Ā (ĕ ń ĳ (Ă 3) (Ā (Ğ Đ ď (Ă 0) (Ā ă) (λ_ _=>rfl))))))) ĥ)))))))))
def PJ(T:Tx K mg a):Į P w K mg base (ū P w) 1 a.WT a.YG ["line","pair"] (ŷ ⟨K,Ī a⟩ 2 sZ):=by
 refine bB (cm:=Ī a) (mb:=Ek) T.jt.F Zcm rfl rfl rfl λcdv A outer s H E hr=>?_
 have hu:=hr.units
 exact(Č (Ģ (ĵ (fG jB jz (Ā (Ě (ņ Ĳ ı (Ā (ĕ ń ĳ (Ā (Ğ Đ ď (Ă 0) (Ā ă) (λ_ _=>rfl))) (Ā (Ğ Đ ď (Ă 1) (Ā ă) (λ_ _=>rfl))))) (Ā (ĕ ń ĳ (Ā (Ğ Đ ď (Ă 0) (Ā ă) (λ_ _=>rfl))) (Ā (Ğ Đ ď (Ă 1) (Ā ă) (λ_ _=>rfl)))))))) (Ā (Ğ Đ ď (Ă 0) (Ā ă) (λ_ _=>rfl))) (ĩ _)))))
def Zc0(T:Tx K mg a):Į P w K mg base (ū P w) 2 a.WW a.YH ["points"] (ŷ ⟨K,Ī a⟩ 1 Ij):=by
 refine bB (cm:=Ī a) (mb:=El) T.fQ.F pK rfl rfl rfl λcdv A outer s H E hr=>?_
 have hu:=hr.units
 exact(ċ (ī (i:=1) pK.nd rfl (Or.inl rfl) (aq ĥ))
  (ċ (ī (i:=2) pK.nd rfl (Or.inl rfl) (đ (ZcY T) Ċ hr.mo rfl T.gY.m T.gY.F.kp T.gY.b ġ (Ć 0 (hr:=č))))
  (ċ (bJ PassesOwn.leaving rfl (Ź 2) (Ĝ (i:=3) pK.nd rfl (Or.inl rfl))
  (Č (bJ PassesOwn.leaving rfl (Ź 2) (Ĝ (i:=4) pK.nd rfl (Or.inl rfl))
  (ċ (ī (i:=5) pK.nd rfl (by first|exact Or.inl rfl|exact Or.inr rfl) (đ (ZcZ T) Ċ hr.mo rfl T.cP.m T.cP.F.kp T.cP.b ġ (Ć 3 (hr:=(Ć 4 (hr:=č))))))
  (Č (Ÿ (PW.pt (w_and (œ kJ (gb hu) (Ă 3) (Ă 4) (ĩ _)) (jY (dg (Ā (PE.wk (ħ (wL rfl) (by rfl) T.Iu PyProof.Rows.boot_all (ğ (Ā (Ě (ű ["line","point"] [5] 1 (ą Ny) rfl rfl (Ź 2) (λ_ _ _ _ _=>(Ĝ (i:=1) (show(["line","point"]:List Str).Nodup by decide +kernel) rfl (Or.inl rfl) (hf:=Or.inr rfl))) (λ_ _ _ _ _=>Ŝ) (λ_ _ _ _ _=>(Ě (đ (PJ T) Ċ hr.mo rfl T.jt.m T.jt.F.kp T.jt.b ź (Ć 0 (hr:=(Ć 1 (hr:=č))))))) ⟨rfl,⟨rfl,Or.inl rfl⟩,trivial⟩))) Ĭ)) λ_ _ _ h=>ů xg h))))))
  (Č (PS.wk (dH (nD PySem.F.plainAttrs_list PySem.F.slot_list_append PySem.F.type_list_append bO (pv 1) (ĉ (v_var 5) ĥ))) λ_ _ _ h=>jh h))
  Ń))))))
  (Č (Ģ (gn 1))))))
def PK(T:Tx K mg a):Į P w K mg base (ū P w) 3 a.WX a.YJ ["points"] (ŷ ⟨K,Ī a⟩ 1 Bk):=by
 refine bB (cm:=Ī a) (mb:=Em) T.Ž.F Zcn rfl rfl rfl λcdv A outer s H E hr=>?_
 have hu:=hr.units
 exact(Č (Ģ (ņ Ĳ ı (Ā (Ě (đ (ZcX T) Ċ hr.mo rfl T.gW.m T.gW.F.kp T.gW.b ġ (Ć 0 (hr:=č))))) (Ā (Ě (đ (Zc0 T) Ċ hr.mo rfl T.fQ.m T.fQ.F.kp T.fQ.b ġ (Ć 0 (hr:=č))))))))
def Zc1(T:Tx K mg a):Į P w K mg base (ū P w) 4 a.WY a.YK ["points","point"] (ŷ ⟨K,Ī a⟩ 2 Bl):=by
 refine bB (cm:=Ī a) (mb:=yG) T.cQ.F Pk rfl rfl rfl λcdv A outer s H E hr=>?_
 have hu:=hr.units
 exact(ċ (bJ PassesOwn.leaving rfl (gw (Ě (đ (PK T) Ċ hr.mo rfl T.Ž.m T.Ž.F.kp T.Ž.b ġ (Ć 0 (hr:=č))))) (Ĝ (i:=2) Pk.nd rfl (Or.inl rfl))
  (Č (Ÿ (pP (dg (Ā (Ě (đ (PJ T) Ċ hr.mo rfl T.jt.m T.jt.F.kp T.jt.b ġ (Ć 2 (hr:=(Ć 1 (hr:=č)))))))))
  (Č (Ģ (gn 2)))
  Ń)))
  (Č (Ģ (ĵ jA))))
def PL(T:Tx K mg a):Į P w K mg base (ū P w) 1 a.W_ a.YL ["many"] (ŷ ⟨K,Ī a⟩ 1 Bm):=by
 refine bB (cm:=Ī a) (mb:=En) T.ž.F Gd rfl rfl rfl λcdv A outer s H E hr=>?_
 have hu:=hr.units
 exact(ċ (ī (i:=1) Gd.nd rfl (Or.inl rfl) (aq ĥ))
  (ċ (bJ PassesOwn.leaving rfl (ŧ rfl T.aO (ĉ (v_var 0) ĥ)) (Ĝ (i:=2) Gd.nd rfl (by first|exact Or.inl rfl|exact Or.inr rfl))
  (Č (PS.wk (dH (nD PySem.F.plainAttrs_list PySem.F.slot_list_extend PySem.F.type_list_extend uX (pv 1) (fH (ű ["second","first"] [2] 1 (ą Nz) rfl rfl (ŧ rfl T.aO (ĉ (v_var 2) ĥ)) (λ_ _ _ _ _=>(Ĝ (i:=1) (show(["second","first"]:List Str).Nodup by decide +kernel) rfl (Or.inl rfl) (hf:=Or.inr rfl))) (λ_ _ _ _ _=>Ŝ) (λ_ _ _ _ _=>(ŕ (ĉ (v_var 1) (ĉ (v_var 0) ĥ)))) ⟨rfl,⟨rfl,Or.inl rfl⟩,trivial⟩) mQ))) λ_ _ _ h=>HD h)))
  (Č (Ģ (gn 1)))))
def Zc2(T:Tx K mg a):Į P w K mg base (ū P w) 2 a.Xa a.YM ["many"] (ŷ ⟨K,Ī a⟩ 1 Ik):=by
 refine bB (cm:=Ī a) (mb:=Eo) T.cu.F Ge rfl rfl rfl λcdv A outer s H E hr=>?_
 have hu:=hr.units
 exact(ċ (ī (i:=1) Ge.nd rfl (Or.inl rfl) (aq ĥ))
  (ċ (bJ PassesOwn.leaving rfl (ŧ rfl T.aO (ĉ (v_var 0) ĥ)) (Ĝ (i:=2) Ge.nd rfl (by first|exact Or.inl rfl|exact Or.inr rfl))
  (Č (PS.wk (dH (nD PySem.F.plainAttrs_list PySem.F.slot_list_extend PySem.F.type_list_extend uX (pv 1) (fH (ű ["third","pair"] [2] 1 (ą NK) rfl rfl (Np (gw (Ě (đ (PL T) Ċ hr.mo rfl T.ž.m T.ž.F.kp T.ž.b ź (Ć 2 (hr:=č)))))) (λ_ _ _ _ _=>(Ĝ (i:=1) (show(["third","pair"]:List Str).Nodup by decide +kernel) rfl (Or.inl rfl) (hf:=Or.inr rfl))) (λ_ _ _ _ _=>Ŝ) (λ_ _ _ _ _=>(ŕ (ĉ (Ğ Đ ď (Ă 1) (Ā ă) (λ_ _=>rfl)) (ĉ (Ğ Đ ď (Ă 1) (Ā ă) (λ_ _=>rfl)) (ĉ (v_var 0) ĥ))))) ⟨rfl,⟨rfl,Or.inl rfl⟩,trivial⟩) mQ))) λ_ _ _ h=>HD h)))
  (Č (Ģ (gn 1)))))
def Ze5(T:Tx K mg a):Į P w K mg base (ū P w) 1 a.ZeG a.ZeM ["one","other"] (ŷ ⟨K,Ī a⟩ 2 Te):=by
 refine bB (cm:=Ī a) (mb:=Og) T.aK.F Iv rfl rfl rfl λcdv A outer s H E hr=>?_
 have hu:=hr.units
 exact(ċ (RK PassesOwn.leaving (œ kJ (gb hu) (Ă 1) (Ā ă) (ĩ _))
  (ċ (ī (i:=2) Iv.nd rfl (Or.inl rfl) (ĵ (ĕ Ľ Ļ (Ă 0) (Ă 1))))
  (ċ (ī (i:=0) Iv.nd rfl (Or.inl rfl) (ĵ (v_var 1)))
  (Č (ī (i:=1) Iv.nd rfl (Or.inl rfl) (ĵ (v_var 2)))))))
  (Č (Ģ (ĵ (PE.wk (ħ Zbv (by rfl) T.ZeV PyProof.Rows.boot_abs (ğ (Ă 0) Ĭ)) λ_ _ _ h=>ů ZbG h)))))
def PN(T:Tx K mg a):Į P w K mg base (ū P w) 2 a.Xb a.YQ ["top","bottom"] (ŷ ⟨K,Ī a⟩ 2 qb):=by
 refine bB (cm:=Ī a) (mb:=yH) T.ju.F Gf rfl rfl rfl λcdv A outer s H E hr=>?_
 have hu:=hr.units
 exact(ċ (Ÿ (œ aF (ŝ hu) (Ă 1) (Ā ă) (ĩ _))
  (Č (Aj (C:= "NoNumber") rfl rfl qY rfl (Z0K T) T.FP))
  Ń)
  (ċ (ī (i:=2) Gf.nd rfl (Or.inl rfl) (đ (Ze5 T) Ċ hr.mo rfl T.aK.m T.aK.F.kp T.aK.b ġ (Ć 0 (hr:=(Ć 1 (hr:=č))))))
  (ċ (Ÿ (œ gJ gG (Ă 1) (Ā ă) (ĩ _))
  (Č (ī (i:=2) Gf.nd rfl (Or.inl rfl) (ĵ (uG iy ig (Ă 2)))))
  Ń)
  (Č (Ģ (ĵ (ŕ (ĉ (ĕ aC Ţ (Ă 0) (Ă 2)) (ĉ (ĕ aC Ţ (Ă 1) (Ă 2)) ĥ)))))))))
def Gm(T:Tx K mg a):Į P w K mg base (ū P w) 3 a.Xc a.YT ["shares","places","many"] (ŷ ⟨K,Ī a⟩ 3 oh):=by
 refine bB (cm:=Ī a) (mb:=pH) T.bZ.F uh rfl rfl rfl λcdv A outer s H E hr=>?_
 have hu:=hr.units
 exact(ċ (ī (i:=3) uh.nd rfl (by first|exact Or.inl rfl|exact Or.inr rfl) (ĵ (PE.wk (ħ (oZ rfl) (by rfl) T.wA PyProof.Rows.boot_sum (ğ (Ă 0) Ĭ)) λ_ _ _ h=>ů pq h)))
  (ċ (jo (i:=4) uh.nd rfl rfl ["whole","place"] [3] 1 (ą NP) rfl rfl (ŧ rfl T.aO (ĉ (v_var 2) ĥ)) (λ_ _ _ _ _=>(Ĝ (i:=1) (show(["whole","place"]:List Str).Nodup by decide +kernel) rfl (Or.inl rfl) (hf:=Or.inr rfl))) (λ_ _ _ _ _=>Ŝ) (λ_ _ _ _ _=>(Ě (đ (PN T) Ċ hr.mo rfl T.ju.m T.ju.F.kp T.ju.b ź (ė ă (Ć 0 (hr:=č)))))) ⟨rfl,⟨rfl,Or.inl rfl⟩,trivial⟩)
  (ċ (bJ PassesOwn.leaving rfl (Zer rfl T.ZeW (Uy 0) (Uy 1)) (iU rfl (Ĵ (Ĝ (i:=5) uh.nd rfl (Or.inl rfl)) (Ĵ (Ĝ (i:=6) uh.nd rfl (Or.inl rfl)) bG)))
  (Č (RJ (i:=4) (Ě (đ (PN T) Ċ hr.mo rfl T.ju.m T.ju.F.kp T.ju.b ġ (Ć 5 (hr:=(Ć 3 (hr:=č)))))) (v_var 6) (pv 4))))
  (Č (Ģ (gn 4))))))
def Gn(T:Tx K mg a):Į P w K mg base (ū P w) 1 a.Xd a.YW ["one","other","third"] (ŷ ⟨K,Ī a⟩ 3 vN):=by
 refine bB (cm:=Ī a) (mb:=Ep) T.b_.F Pn rfl rfl rfl λcdv A outer s H E hr=>?_
 have hu:=hr.units
 exact(ċ (ī (i:=3) Pn.nd rfl (Or.inl rfl) (ĵ (ĕ ń ĳ (Ā (ĕ š Š (Ā (Ğ Đ ď (Ă 1) (Ā ă) (λ_ _=>rfl))) (Ā (Ğ Đ ď (Ă 0) (Ā ă) (λ_ _=>rfl))))) (Ā (ĕ š Š (Ā (Ğ Đ ď (Ă 2) (Ā ă) (λ_ _=>rfl))) (Ā (Ğ Đ ď (Ă 0) (Ā ă) (λ_ _=>rfl))))))))
  (Č (Ģ (ĵ (ĕ š Š (Ă 3) (Ā (ĕ ń ĳ (Ā (ĕ š Š (Ā (Ğ Đ ď (Ă 1) (Ā ă) (λ_ _=>rfl))) (Ā (Ğ Đ ď (Ă 0) (Ā ă) (λ_ _=>rfl))))) (Ā (ĕ š Š (Ā (Ğ Đ ď (Ă 2) (Ā ă) (λ_ _=>rfl))) (Ā (Ğ Đ ď (Ă 0) (Ā ă) (λ_ _=>rfl))))))))))))
def Ze6(T:Tx K mg a):Į P w K mg base (ū P w) 2 a.ZeH a.ZeN ["corners","point"] (ŷ ⟨K,Ī a⟩ 2 Tf):=by
 refine bB (cm:=Ī a) (mb:=Oh) T.bh.F Iw rfl rfl rfl λcdv A outer s H E hr=>?_
 have hu:=hr.units
 exact(ċ (ī (i:=2) Iw.nd rfl (Or.inl rfl) (ĵ (Ğ Đ ď (Ă 0) (Ā ă) (λ_ _=>rfl))))
  (ċ (ī (i:=3) Iw.nd rfl (Or.inl rfl) (ĵ (Ğ Đ ď (Ă 0) (Ā ă) (λ_ _=>rfl))))
  (ċ (ī (i:=4) Iw.nd rfl (Or.inl rfl) (ĵ (Ğ Đ ď (Ă 0) (Ā ă) (λ_ _=>rfl))))
  (Č (Ģ (aq (ĉ (Ě (đ (Gn T) Ċ hr.mo rfl T.b_.m T.b_.F.kp T.b_.b ġ (Ć 1 (hr:=(Ć 3 (hr:=(Ć 4 (hr:=č)))))))) (ĉ (Ě (đ (Gn T) Ċ hr.mo rfl T.b_.m T.b_.F.kp T.b_.b ġ (Ć 2 (hr:=(Ć 1 (hr:=(Ć 4 (hr:=č)))))))) (ĉ (Ě (đ (Gn T) Ċ hr.mo rfl T.b_.m T.b_.F.kp T.b_.b ġ (Ć 2 (hr:=(Ć 3 (hr:=(Ć 1 (hr:=č)))))))) ĥ)))))))))
def P_(T:Tx K mg a):Į P w K mg base (ū P w) 1 a.Xe a.YX ["shares"] (ŷ ⟨K,Ī a⟩ 1 vO):=by
 refine bB (cm:=Ī a) (mb:=yJ) T.ſ.F Pq rfl rfl rfl λcdv A outer s H E hr=>?_
 have hu:=hr.units
 exact(ċ (ī (i:=1) Pq.nd rfl (by first|exact Or.inl rfl|exact Or.inr rfl) (ĵ (PE.wk (ħ (oZ rfl) (by rfl) T.wA PyProof.Rows.boot_sum (ğ (Ă 0) Ĭ)) λ_ _ _ h=>ů pq h)))
  (Č (Ģ (ĵ (v_and (fG kJ (gb hu) (Ă 1) (Ā ă) (ĩ _)) (mq (PE.wk (ħ (wL rfl) (by rfl) T.Iu PyProof.Rows.boot_all (ğ (Ā (Ě (ű ["whole","share"] [1] 1 (ą NQ) rfl rfl (Ź 0) (λ_ _ _ _ _=>(Ĝ (i:=1) (show(["whole","share"]:List Str).Nodup by decide +kernel) rfl (Or.inl rfl) (hf:=Or.inr rfl))) (λ_ _ _ _ _=>Ŝ) (λ_ _ _ _ _=>(fG Zd4 ZdQ (Ā (ĕ ń ĳ (Ă 1) (Ă 0))) (Ā ă) (ĩ _))) ⟨rfl,⟨rfl,Or.inl rfl⟩,trivial⟩))) Ĭ)) λ_ _ _ h=>ů xg h)))))))
def Zc3(T:Tx K mg a):Į P w K mg base (ū P w) 1 a.Xf a.YZ ["ends","point"] (ŷ ⟨K,Ī a⟩ 2 Il):=by
 refine bB (cm:=Ī a) (mb:=Er) T.cA.F zH rfl rfl rfl λcdv A outer s H E hr=>?_
 have hu:=hr.units
 exact(ċ (ī (i:=2) zH.nd rfl (Or.inl rfl) (ĵ (ĕ š Š (Ā (Ğ Đ ď (Ā (Ğ Đ ď (Ă 0) (Ā ă) (λ_ _=>rfl))) (Ā ă) (λ_ _=>rfl))) (Ā (Ğ Đ ď (Ā (Ğ Đ ď (Ă 0) (Ā ă) (λ_ _=>rfl))) (Ā ă) (λ_ _=>rfl))))))
  (ċ (ī (i:=3) zH.nd rfl (Or.inl rfl) (ĵ (ĕ š Š (Ā (Ğ Đ ď (Ā (Ğ Đ ď (Ă 0) (Ā ă) (λ_ _=>rfl))) (Ā ă) (λ_ _=>rfl))) (Ā (Ğ Đ ď (Ā (Ğ Đ ď (Ă 0) (Ā ă) (λ_ _=>rfl))) (Ā ă) (λ_ _=>rfl))))))
  (ċ (ī (i:=4) zH.nd rfl (Or.inl rfl) (ņ Ĳ ı (Ā (ĕ ń ĳ (Ă 2) (Ā (ĕ š Š (Ā (Ğ Đ ď (Ă 1) (Ā ă) (λ_ _=>rfl))) (Ā (Ğ Đ ď (Ā (Ğ Đ ď (Ă 0) (Ā ă) (λ_ _=>rfl))) (Ā ă) (λ_ _=>rfl))))))) (Ā (ĕ ń ĳ (Ă 3) (Ā (ĕ š Š (Ā (Ğ Đ ď (Ă 1) (Ā ă) (λ_ _=>rfl))) (Ā (Ğ Đ ď (Ā (Ğ Đ ď (Ă 0) (Ā ă) (λ_ _=>rfl))) (Ā ă) (λ_ _=>rfl)))))))))
  (Č (Ģ (aq (ĉ (ĕ š Š (Ā (Ě (ņ Ĳ ı (Ā (ĕ ń ĳ (Ă 2) (Ă 2))) (Ā (ĕ ń ĳ (Ă 3) (Ă 3)))))) (Ă 4)) (ĉ (v_var 4) ĥ))))))))
def Zc4(T:Tx K mg a):Į P w K mg base (ū P w) 4 a.Xg a.Y_ ["points","point"] (ŷ ⟨K,Ī a⟩ 2 vP):=by
 refine bB (cm:=Ī a) (mb:=tE) T.fU.F pL rfl rfl rfl λcdv A outer s H E hr=>?_
 have hu:=hr.units
 exact(ċ (ī (i:=2) pL.nd rfl (Or.inl rfl) (ĵ (PE.wk (ħ aG (by rfl) T.cT PySem.boot_len (ğ (Ă 0) Ĭ)) λ_ _ _ h=>ů aH h)))
  (ċ (bJ PassesOwn.leaving rfl (gw (Ě (đ (Zc2 T) Ċ hr.mo rfl T.cu.m T.cu.F.kp T.cu.b ġ (Ć 2 (hr:=č))))) (Ĝ (i:=3) pL.nd rfl (Or.inl rfl))
  (ċ (ī (i:=4) pL.nd rfl (Or.inl rfl) (đ (Ze6 T) Ċ hr.mo rfl T.bh.m T.bh.F.kp T.bh.b ġ (ė (Ě (ű ["points","place"] [0] 1 (ą HW) rfl rfl (Ź 3) (λ_ _ _ _ _=>(Ĝ (i:=1) (show(["points","place"]:List Str).Nodup by decide +kernel) rfl (Or.inl rfl) (hf:=Or.inr rfl))) (λ_ _ _ _ _=>Ŝ) (λ_ _ _ _ _=>(Ğ Đ ď (Ă 0) (Ă 1) (λ_ _=>rfl))) ⟨rfl,⟨rfl,Or.inl rfl⟩,trivial⟩)) (Ć 1 (hr:=č)))))
  (Č (Ÿ (dg (Ā (Ě (đ (P_ T) Ċ hr.mo rfl T.ſ.m T.ſ.F.kp T.ſ.b ġ (Ć 4 (hr:=č))))))
  (Č (Ģ (đ (Gm T) Ċ hr.mo rfl T.bZ.m T.bZ.F.kp T.bZ.b ġ (Ć 4 (hr:=(Ć 3 (hr:=(Ć 2 (hr:=č)))))))))
  Ń))))
  (ċ (bJ PassesOwn.leaving rfl (gw (Ě (đ (PL T) Ċ hr.mo rfl T.ž.m T.ž.F.kp T.ž.b ġ (Ć 2 (hr:=č))))) (Ĝ (i:=3) pL.nd rfl (Or.inl rfl))
  (ċ (ī (i:=4) pL.nd rfl (Or.inl rfl) (đ (Zc3 T) Ċ hr.mo rfl T.cA.m T.cA.F.kp T.cA.b ġ (ė (Ě (ű ["points","place"] [0] 1 (ą HW) rfl rfl (Ź 3) (λ_ _ _ _ _=>(Ĝ (i:=1) (show(["points","place"]:List Str).Nodup by decide +kernel) rfl (Or.inl rfl) (hf:=Or.inr rfl))) (λ_ _ _ _ _=>Ŝ) (λ_ _ _ _ _=>(Ğ Đ ď (Ă 0) (Ă 1) (λ_ _=>rfl))) ⟨rfl,⟨rfl,Or.inl rfl⟩,trivial⟩)) (Ć 1 (hr:=č)))))
  (Č (Ÿ (dg (Ā (Ě (đ (P_ T) Ċ hr.mo rfl T.ſ.m T.ſ.F.kp T.ſ.b ġ (Ć 4 (hr:=č))))))
  (Č (Ģ (đ (Gm T) Ċ hr.mo rfl T.bZ.m T.bZ.F.kp T.bZ.b ġ (Ć 4 (hr:=(Ć 3 (hr:=(Ć 2 (hr:=č)))))))))
  Ń))))
  (Č (Ģ (đ (Gm T) Ċ hr.mo rfl T.bZ.m T.bZ.F.kp T.bZ.b ġ (ė (Ě (aq (ĉ ă ĥ))) (ė (Ě (aq (ĉ ă ĥ))) (Ć 2 (hr:=č))))))))))
def Zc5(T:Tx K mg a):Į P w K mg base (ū P w) 5 a.Xh a.Z_ ["points","point"] (ŷ ⟨K,Ī a⟩ 2 Bo):=by
 refine bB (cm:=Ī a) (mb:=yM) T.zA.F Pr rfl rfl rfl λcdv A outer s H E hr=>?_
 have hu:=hr.units
 exact(ċ (ī (i:=2) Pr.nd rfl (Or.inl rfl) (đ (Zc1 T) Ċ hr.mo rfl T.cQ.m T.cQ.F.kp T.cQ.b ġ (Ć 0 (hr:=(Ć 1 (hr:=č))))))
  (ċ (Ÿ (œ Ab rG (Ă 2) (Ā jA) (ĩ _))
  (Č (Ģ (ĵ (ŕ (ĉ Ŵ (ĉ (Ě (đ (Zc4 T) Ċ hr.mo rfl T.fU.m T.fU.F.kp T.fU.b ġ (Ć 0 (hr:=(Ć 1 (hr:=č)))))) ĥ))))))
  Ń)
  (Č (Ģ (ĵ (ŕ (ĉ Ŵ (ĉ (v_var 2) ĥ))))))))
def Qa(T:Tx K mg a):Į P w K mg base (ū P w) 1 a.Xi a.Zaa ["point","ray"] (ŷ ⟨K,Ī a⟩ 2 tH):=by
 refine bB (cm:=Ī a) (mb:=Es) T.m_.F Zco rfl rfl rfl λcdv A outer s H E hr=>?_
 have hu:=hr.units
 exact(Č (Ģ (ĵ (ŕ (ĉ (Ě (ņ Ĳ ı (Ā (ĕ ń ĳ (Ā (Ğ Đ ď (Ă 1) (Ā ă) (λ_ _=>rfl))) (Ā (Ğ Đ ď (Ă 0) (Ā ă) (λ_ _=>rfl))))) (Ā (ĕ ń ĳ (Ā (Ğ Đ ď (Ă 1) (Ā ă) (λ_ _=>rfl))) (Ā (Ğ Đ ď (Ă 0) (Ā ă) (λ_ _=>rfl))))))) (ĉ (Ě (ņ Ĳ ı (Ā (ĕ ń ĳ (Ā (Ğ Đ ď (Ă 1) (Ā ă) (λ_ _=>rfl))) (Ā (Ğ Đ ď (Ă 0) (Ā ă) (λ_ _=>rfl))))) (Ā (ĕ ń ĳ (Ā (Ğ Đ ď (Ă 1) (Ā ă) (λ_ _=>rfl))) (Ā (Ğ Đ ď (Ă 0) (Ā ă) (λ_ _=>rfl))))))) ĥ))))))
def Gp(T:Tx K mg a):Į P w K mg base (ū P w) 1 a.Xj a.Zab ["x","y","u","v","z"] (ŷ ⟨K,Ī a⟩ 5 vQ):=by
 refine bB (cm:=Ī a) (mb:=Et) T.ŏ.F Zcp rfl rfl rfl λcdv A outer s H E hr=>?_
 have hu:=hr.units
 exact(Č (Ģ (aq (ĉ (ŕ (ĉ (v_var 0) (ĉ (v_var 1) (ĉ (v_var 4) ĥ)))) (ĉ (ŕ (ĉ (v_var 2) (ĉ (v_var 1) (ĉ (v_var 4) ĥ)))) (ĉ (ŕ (ĉ (v_var 2) (ĉ (v_var 3) (ĉ (v_var 4) ĥ)))) (ĉ (ŕ (ĉ (v_var 0) (ĉ (v_var 3) (ĉ (v_var 4) ĥ)))) ĥ)))))))
def Qc(T:Tx K mg a):Į P w K mg base (ū P w) 2 a.Xk a.Zac ["x","y","u","v","h"] (ŷ ⟨K,Ī a⟩ 5 Bp):=by
 refine bB (cm:=Ī a) (mb:=Eu) T.ţ.F Zcq rfl rfl rfl λcdv A outer s H E hr=>?_
 have hu:=hr.units
 exact(Č (Ģ (ņ Ĳ ı (Ā (Ě (đ (Gp T) Ċ hr.mo rfl T.ŏ.m T.ŏ.F.kp T.ŏ.b ġ (Ć 0 (hr:=(Ć 1 (hr:=(Ć 2 (hr:=(Ć 3 (hr:=(ė ă č)))))))))))) (Ā (Ě (đ (Gp T) Ċ hr.mo rfl T.ŏ.m T.ŏ.F.kp T.ŏ.b ġ (Ć 0 (hr:=(Ć 1 (hr:=(Ć 2 (hr:=(Ć 3 (hr:=(Ć 4 (hr:=č))))))))))))))))
def Zc6(T:Tx K mg a):Į P w K mg base (ū P w) 3 a.Ou a.Zad ["self"] (ŷ ⟨K,Ī a⟩ 1 qd):=by
 refine bB (cm:=Ī a) (mb:=Ew) T.kY.F Gg rfl rfl rfl λcdv A outer s H E hr=>?_
 have hu:=hr.units
 exact(ċ (ī (i:=1) Gg.nd rfl (Or.inl rfl) (ĵ (ĕ ń ĳ (Ā ă) (Ā (Ğ Đ ď (Ā (bf ["Thing","Post","Fence","Sail","Cloth","House"] ⟨⟨T.ŵ,T.Ŀ⟩,⟨⟨T.aY,T.Ň⟩,⟨⟨T.Ŭ,T.ŀ⟩,⟨⟨T.aZ,T.ň⟩,⟨⟨T.ŭ,T.Ł⟩,⟨⟨T.Ů,T.ł⟩,trivial⟩⟩⟩⟩⟩⟩ (Ă 0))) (Ā ă) (λ_ _=>rfl))))))
  (ċ (ī (i:=2) Gg.nd rfl (Or.inl rfl) (ĵ (ĕ ń ĳ (Ā ă) (Ā (Ğ Đ ď (Ā (bf ["Thing","Post","Fence","Sail","Cloth","House"] ⟨⟨T.ŵ,T.Ŀ⟩,⟨⟨T.aY,T.Ň⟩,⟨⟨T.Ŭ,T.ŀ⟩,⟨⟨T.aZ,T.ň⟩,⟨⟨T.ŭ,T.Ł⟩,⟨⟨T.Ů,T.ł⟩,trivial⟩⟩⟩⟩⟩⟩ (Ă 0))) (Ā ă) (λ_ _=>rfl))))))
  (Č (Ģ (đ (Qc T) Ċ hr.mo rfl T.ţ.m T.ţ.F.kp T.ţ.b ġ (ė (ĕ š Š (Ă 1) (Ā ă)) (ė (ĕ š Š (Ă 2) (Ā ă)) (ė (Ě (ņ Ĳ ı (Ă 1) (Ā ă))) (ė (Ě (ņ Ĳ ı (Ă 2) (Ā ă))) (ė (Ğ Đ ď (Ā (bf ["Thing","Post","Fence","Sail","Cloth","House"] ⟨⟨T.ŵ,T.Ŀ⟩,⟨⟨T.aY,T.Ň⟩,⟨⟨T.Ŭ,T.ŀ⟩,⟨⟨T.aZ,T.ň⟩,⟨⟨T.ŭ,T.Ł⟩,⟨⟨T.Ů,T.ł⟩,trivial⟩⟩⟩⟩⟩⟩ (Ă 0))) (Ā ă) (λ_ _=>rfl)) č))))))))))
def Zc7(T:Tx K mg a):Į P w K mg base (ū P w) 1 a.Ov a.Zae ["self"] (ŷ ⟨K,Ī a⟩ 1 qe):=by
 refine bB (cm:=Ī a) (mb:=Ey) T.jF.F zJ rfl rfl rfl λcdv A outer s H E hr=>?_
 have hu:=hr.units
 exact(ċ (ī (i:=1) zJ.nd rfl (Or.inl rfl) (ĵ (bf ["Thing","Post","Fence","Sail","Cloth","House"] ⟨⟨T.ŵ,T.Ŀ⟩,⟨⟨T.aY,T.Ň⟩,⟨⟨T.Ŭ,T.ŀ⟩,⟨⟨T.aZ,T.ň⟩,⟨⟨T.ŭ,T.Ł⟩,⟨⟨T.Ů,T.ł⟩,trivial⟩⟩⟩⟩⟩⟩ (Ă 0))))
  (ċ (ī (i:=2) zJ.nd rfl (Or.inl rfl) (ĵ (ŕ (ĉ (Ğ Đ ď (Ă 1) (Ā ă) (λ_ _=>rfl)) (ĉ (Ğ Đ ď (Ă 1) (Ā ă) (λ_ _=>rfl)) ĥ)))))
  (ċ (ī (i:=3) zJ.nd rfl (Or.inl rfl) (ĵ (ŕ (ĉ (Ğ Đ ď (Ă 1) (Ā ă) (λ_ _=>rfl)) (ĉ (Ğ Đ ď (Ă 1) (Ā ă) (λ_ _=>rfl)) ĥ)))))
  (Č (Ģ (aq (ĉ (Ě (ņ Ĳ ı (Ă 2) (Ā (ŕ (ĉ ă ĥ))))) (ĉ (Ě (ņ Ĳ ı (Ă 3) (Ā (ŕ (ĉ ă ĥ))))) (ĉ (Ě (ņ Ĳ ı (Ă 3) (Ā (ŕ (ĉ (Ğ Đ ď (Ă 1) (Ā ă) (λ_ _=>rfl)) ĥ))))) (ĉ (Ě (ņ Ĳ ı (Ă 2) (Ā (ŕ (ĉ (Ğ Đ ď (Ă 1) (Ā ă) (λ_ _=>rfl)) ĥ))))) ĥ))))))))))
def Zc8(T:Tx K mg a):Į P w K mg base (ū P w) 2 a.Ow a.Zaf ["self"] (ŷ ⟨K,Ī a⟩ 1 qg):=by
 refine bB (cm:=Ī a) (mb:=Ez) T.kZ.F Pu rfl rfl rfl λcdv A outer s H E hr=>?_
 have hu:=hr.units
 exact(ċ (ī (i:=1) Pu.nd rfl (Or.inl rfl) (ĵ (bf ["Thing","Post","Fence","Sail","Cloth","House"] ⟨⟨T.ŵ,T.Ŀ⟩,⟨⟨T.aY,T.Ň⟩,⟨⟨T.Ŭ,T.ŀ⟩,⟨⟨T.aZ,T.ň⟩,⟨⟨T.ŭ,T.Ł⟩,⟨⟨T.Ů,T.ł⟩,trivial⟩⟩⟩⟩⟩⟩ (Ă 0))))
  (Č (Ģ (đ (Gp T) Ċ hr.mo rfl T.ŏ.m T.ŏ.F.kp T.ŏ.b ġ (ė (Ğ Đ ď (Ă 1) (Ā ă) (λ_ _=>rfl)) (ė (Ğ Đ ď (Ă 1) (Ā ă) (λ_ _=>rfl)) (ė (Ğ Đ ď (Ă 1) (Ā ă) (λ_ _=>rfl)) (ė (Ğ Đ ď (Ă 1) (Ā ă) (λ_ _=>rfl)) (ė (Ğ Đ ď (Ă 1) (Ā ă) (λ_ _=>rfl)) č)))))))))
def Ze7(T:Tx K mg a):Į P w K mg base (ū P w) 1 a.Zb1 a.ZeO ["self"] (ŷ ⟨K,Ī a⟩ 1 Bq):=by
 refine bB (cm:=Ī a) (mb:=Oi) T.jG.F ZeX rfl rfl rfl λcdv A outer s H E hr=>?_
 have hu:=hr.units
 exact(@Č _ _ _ _ _ (@Ģ _ _ _ _ _ _ (ű ["self","place"] [0] 1 (ą ZbZ) rfl rfl (@gw _ _ _ _ _ _ (@ŕ _ _ _ _ _ _ _ (@ĉ _ _ _ _ _ _ _ (@ă _ _ _ _ _ _) (@ĉ _ _ _ _ _ _ _ (@ă _ _ _ _ _ _) (@ĉ _ _ _ _ _ _ _ (@ă _ _ _ _ _ _) (@ĥ _ _ _) (by exact ĸ rfl)) (by exact ĸ rfl)) (by exact ĸ rfl)))) (λ_ _ _ _ _=>(@Ĝ _ _ _ 1 _ (show(["self","place"]:List Str).Nodup by decide +kernel) rfl (Or.inl rfl) (Or.inr rfl))) (λ_ _ _ _ _=>(@Ŝ _ _ _)) (λ_ _ _ _ _=>(@PE.wk _ _ _ _ (aA Mf (by rfl) T.Tr PyProof.Rows.boot_tuple (@ğ _ _ _ _ _ _ _ (@Ā _ _ _ _ _ (@Ě _ _ _ _ _ (@cI _ _ _ _ _ _ _ _ _ _ _ (@Ā _ _ _ _ _ (@bf _ _ _ _ _ _ _ ["Thing","Post","Fence","Sail","Cloth","House"] ⟨⟨T.ŵ,T.Ŀ⟩,⟨⟨T.aY,T.Ň⟩,⟨⟨T.Ŭ,T.ŀ⟩,⟨⟨T.aZ,T.ň⟩,⟨⟨T.ŭ,T.Ł⟩,⟨⟨T.Ů,T.ł⟩,trivial⟩⟩⟩⟩⟩⟩ (@Ă _ _ _ 0 _ _ (by rfl) (by first|exact Or.inl rfl|exact Or.inr (Or.inl rfl)|exact Or.inr (Or.inr rfl)) (by decide) (by decide)) (by rfl))) (@bL _ _ _ _ _ (@v_var _ _ _ 1 _ _ (by rfl) (by first|exact Or.inl rfl|exact Or.inr (Or.inl rfl)|exact Or.inr (Or.inr rfl)) (by decide) (by decide))) (@bL _ _ _ _ _ (@Ě _ _ _ _ _ (@ņ _ _ _ _ _ _ _ _ _ _ _ (@Ĳ _) (@ı _) (@Ă _ _ _ 1 _ _ (by rfl) (by first|exact Or.inl rfl|exact Or.inr (Or.inl rfl)|exact Or.inr (Or.inr rfl)) (by decide) (by decide)) (@Ā _ _ _ _ _ (@ă _ _ _ _ _ _)))))))) (@Ĭ _ _ _) (by exact ĸ rfl))) (λ_ _ _ h=> @ů _ _ _ _ _ _ (@Mg _) _ _ _ h))) ⟨rfl,⟨rfl,Or.inl rfl⟩,trivial⟩)))
def Zc9(T:Tx K mg a):Į P w K mg base (ū P w) 3 a.Ox a.Zag ["self"] (ŷ ⟨K,Ī a⟩ 1 qj):=by
 refine bB (cm:=Ī a) (mb:=EY) T.jH.F Px rfl rfl rfl λcdv A outer s H E hr=>?_
 have hu:=hr.units
 exact(ċ (ī (i:=1) Px.nd rfl (Or.inl rfl) (ĵ (bf ["Thing","Post","Fence","Sail","Cloth","House"] ⟨⟨T.ŵ,T.Ŀ⟩,⟨⟨T.aY,T.Ň⟩,⟨⟨T.Ŭ,T.ŀ⟩,⟨⟨T.aZ,T.ň⟩,⟨⟨T.ŭ,T.Ł⟩,⟨⟨T.Ů,T.ł⟩,trivial⟩⟩⟩⟩⟩⟩ (Ă 0))))
  (Č (Ģ (đ (Qc T) Ċ hr.mo rfl T.ţ.m T.ţ.F.kp T.ţ.b ġ (ė (Ğ Đ ď (Ă 1) (Ā ă) (λ_ _=>rfl)) (ė (Ğ Đ ď (Ă 1) (Ā ă) (λ_ _=>rfl)) (ė (Ğ Đ ď (Ă 1) (Ā ă) (λ_ _=>rfl)) (ė (Ğ Đ ď (Ă 1) (Ā ă) (λ_ _=>rfl)) (ė (Ğ Đ ď (Ă 1) (Ā ă) (λ_ _=>rfl)) č)))))))))
def Qd(T:Tx K mg a):Į P w K mg base (ū P w) 4 a.Xl a.Zah ["thing","ray"] (ŷ ⟨K,Ī a⟩ 2 vR):=by
 refine bB (cm:=Ī a) (mb:=E_) T.Ũ.F Zcr rfl rfl rfl λcdv A outer s H E hr=>?_
 have hu:=hr.units
 exact(Č (Ģ (ű ["ray","corner"] [1] 1 (ą NT) rfl rfl (Np (gw (Ě (Sd (Qu:= "corners") (k:=3) (n:=1) (jP:=[("Post",qd),("Fence",qe),("Sail",qg),("Cloth",Bq),("House",qj)]) ⟨⟨T.aY,_,_,_,T.uc,(Zc6 T).mono (by decide),T.kY.b,Ċ⟩,⟨⟨T.Ŭ,_,_,_,T.qL,(Zc7 T).mono (by decide),T.jF.b,Ċ⟩,⟨⟨T.aZ,_,_,_,T.ud,(Zc8 T).mono (by decide),T.kZ.b,Ċ⟩,⟨⟨T.ŭ,_,_,_,T.qM,(Ze7 T).mono (by decide),T.jG.b,Ċ⟩,⟨⟨T.Ů,_,_,_,T.qN,(Zc9 T).mono (by decide),T.jH.b,Ċ⟩,trivial⟩⟩⟩⟩⟩ hr.mo ź (v_var 0))))) (λ_ _ _ _ _=>(Ĝ (i:=1) (show(["ray","corner"]:List Str).Nodup by decide +kernel) rfl (Or.inl rfl) (hf:=Or.inr rfl))) (λ_ _ _ _ _=>Ŝ) (λ_ _ _ _ _=>(Ě (đ (Qa T) Ċ hr.mo rfl T.m_.m T.m_.F.kp T.m_.b ź (Ć 1 (hr:=(Ć 0 (hr:=č))))))) ⟨rfl,⟨rfl,Or.inl rfl⟩,trivial⟩)))
def Zc_(T:Tx K mg a):Į P w K mg base (ū P w) 2 a.Xm a.Zai ["stone","ray"] (ŷ ⟨K,Ī a⟩ 2 Im):=by
 refine bB (cm:=Ī a) (mb:=Fb) T.fV.F Zcs rfl rfl rfl λcdv A outer s H E hr=>?_
 have hu:=hr.units
 exact(Č (Ģ (đ (Qa T) Ċ hr.mo rfl T.m_.m T.m_.F.kp T.m_.b ġ (ė (ŕ (ĉ (ĕ ń ĳ (Ā ă) (Ā (Ğ Đ ď (Ă 0) (Ā ă) (λ_ _=>rfl)))) (ĉ (ĕ ń ĳ (Ā ă) (Ā (Ğ Đ ď (Ă 0) (Ā ă) (λ_ _=>rfl)))) (ĉ ă ĥ)))) (Ć 1 (hr:=č))))))
def Zda(T:Tx K mg a):Į P w K mg base (ū P w) 6 a.Xn a.Zaj ["thing","stone","ray"] (ŷ ⟨K,Ī a⟩ 3 Io):=by
 refine bB (cm:=Ī a) (mb:=Fd) T.lM.F Zct rfl rfl rfl λcdv A outer s H E hr=>?_
 have hu:=hr.units
 exact(Č (Ģ (đ (Zc5 T) Ċ hr.mo rfl T.zA.m T.zA.F.kp T.zA.b ġ (ė (Ě (đ (Qd T) Ċ hr.mo rfl T.Ũ.m T.Ũ.F.kp T.Ũ.b ġ (Ć 0 (hr:=(Ć 2 (hr:=č)))))) (ė (Ě (đ (Zc_ T) Ċ hr.mo rfl T.fV.m T.fV.F.kp T.fV.b ġ (Ć 1 (hr:=(Ć 2 (hr:=č)))))) č)))))
def Qe(T:Tx K mg a):Į P w K mg base (ū P w) 7 a.Xo a.Zak ["thing","stone","ray"] (ŷ ⟨K,Ī a⟩ 3 ql):=by
 refine bB (cm:=Ī a) (mb:=yN) T.gB.F Zcu rfl rfl rfl λcdv A outer s H E hr=>?_
 have hu:=hr.units
 exact(Č (Ģ (ĵ (fG aF (ŝ hu) (Ā (Ğ Đ ď (Ā (Ě (đ (Zda T) Ċ hr.mo rfl T.lM.m T.lM.F.kp T.lM.b ġ (Ć 0 (hr:=(Ć 1 (hr:=(Ć 2 (hr:=č))))))))) (Ā ă) (λ_ _=>rfl))) (Ā Ŵ) (ĩ _)))))
def Zdb(T:Tx K mg a):Į P w K mg base (ū P w) 8 a.Xp a.Zal ["thing","stone","turn"] (ŷ ⟨K,Ī a⟩ 3 vU):=by
 refine bB (cm:=Ī a) (mb:=yO) T.dN.F Zcv rfl rfl rfl λcdv A outer s H E hr=>?_
 have hu:=hr.units
 exact(Č (Ģ (ĵ (v_and (fG rW wG (Ă 2) (Ā jA) (ĩ _)) (mq (Ě (đ (Qe T) Ċ hr.mo rfl T.gB.m T.gB.F.kp T.gB.b ġ (Ć 0 (hr:=(Ć 1 (hr:=(Ć 2 (hr:=č)))))))))))))
def Zdc(T:Tx K mg a):Į P w K mg base (ū P w) 9 a.Xq a.Zam ["yard","thing","wants"] (ŷ ⟨K,Ī a⟩ 3 Br):=by
 refine bB (cm:=Ī a) (mb:=Fe) T.cR.F Zcw rfl rfl rfl λcdv A outer s H E hr=>?_
 have hu:=hr.units
 exact(Č (Ģ (đ (Pz T) Ċ hr.mo rfl T.ż.m T.ż.F.kp T.ż.b ġ (ė (Ě (ű ["thing","yard","stone","day","turn"] [1,0] 3 (ą NZ) rfl rfl (Ź 2) (λ_ _ _ _ _=>(iU rfl (Ĵ (Ĝ (i:=2) (show(["thing","yard","stone","day","turn"]:List Str).Nodup by decide +kernel) rfl (Or.inl rfl) (hf:=Or.inr rfl)) (Ĵ (Ĝ (i:=3) (show(["thing","yard","stone","day","turn"]:List Str).Nodup by decide +kernel) rfl (Or.inl rfl) (hf:=Or.inr rfl)) (Ĵ (Ĝ (i:=4) (show(["thing","yard","stone","day","turn"]:List Str).Nodup by decide +kernel) rfl (Or.inl rfl) (hf:=Or.inr rfl)) bG))))) (λ_ _ _ _ _=>Ŝ) (λ_ _ _ _ _=>(Ě (đ (Zdb T) Ċ hr.mo rfl T.dN.m T.dN.F.kp T.dN.b ź (Ć 0 (hr:=(Ć 2 (hr:=(ė (Ğ Đ ď (Ā (Ě (đ (Gj T) Ċ hr.mo rfl T.Ż.m T.Ż.F.kp T.Ż.b ź (Ć 1 (hr:=(Ć 3 (hr:=č))))))) (Ă 4) (λ_ _=>rfl)) č)))))))) ⟨rfl,⟨rfl,Or.inl rfl⟩,⟨rfl,⟨rfl,Or.inl rfl⟩,trivial⟩⟩)) č))))
def Zdd(T:Tx K mg a):Į P w K mg base (ū P w) 8 a.Xr a.Zan ["yard","turn","stone"] (ŷ ⟨K,Ī a⟩ 3 mF):=by
 refine bB (cm:=Ī a) (mb:=tK) T.lN.F Py rfl rfl rfl λcdv A outer s H E hr=>?_
 have hu:=hr.units
 exact(ċ (Ÿ (œ Ab rG (Ă 1) (Ā jA) (ĩ _))
  (Č (Ģ (ĵ wO)))
  Ń)
  (ċ (bJ PassesOwn.leaving rfl (gw (bf ["Yard"] ⟨⟨T.ao,T.dX⟩,trivial⟩ (Ă 0))) (Ĝ (i:=3) Py.nd rfl (Or.inl rfl))
  (Č (Ÿ (dg (Ā (Ě (đ (Qe T) Ċ hr.mo rfl T.gB.m T.gB.F.kp T.gB.b ġ (Ć 3 (hr:=(Ć 2 (hr:=(Ć 1 (hr:=č))))))))))
  (Č (Ģ (ĵ wO)))
  Ń)))
  (Č (Ģ (ĵ wO)))))
def Zde(T:Tx K mg a):Į P w K mg base (ū P w) 9 a.Xu a.Zao ["yard","wants"] (ŷ ⟨K,Ī a⟩ 2 Ip):=by
 refine bB (cm:=Ī a) (mb:=Fg) T.dR.F Zcx rfl rfl rfl λcdv A outer s H E hr=>?_
 have hu:=hr.units
 exact(Č (Ģ (đ (Pz T) Ċ hr.mo rfl T.ż.m T.ż.F.kp T.ż.b ġ (ė (Ě (ű ["yard","stone","day","turn"] [0] 3 (ą N_) rfl rfl (Ź 1) (λ_ _ _ _ _=>(iU rfl (Ĵ (Ĝ (i:=1) (show(["yard","stone","day","turn"]:List Str).Nodup by decide +kernel) rfl (Or.inl rfl) (hf:=Or.inr rfl)) (Ĵ (Ĝ (i:=2) (show(["yard","stone","day","turn"]:List Str).Nodup by decide +kernel) rfl (Or.inl rfl) (hf:=Or.inr rfl)) (Ĵ (Ĝ (i:=3) (show(["yard","stone","day","turn"]:List Str).Nodup by decide +kernel) rfl (Or.inl rfl) (hf:=Or.inr rfl)) bG))))) (λ_ _ _ _ _=>Ŝ) (λ_ _ _ _ _=>(Ě (đ (Zdd T) Ċ hr.mo rfl T.lN.m T.lN.F.kp T.lN.b ź (Ć 0 (hr:=(ė (Ğ Đ ď (Ā (Ě (đ (Gj T) Ċ hr.mo rfl T.Ż.m T.Ż.F.kp T.Ż.b ź (Ć 0 (hr:=(Ć 2 (hr:=č))))))) (Ă 3) (λ_ _=>rfl)) (Ć 1 (hr:=č)))))))) ⟨rfl,⟨rfl,Or.inl rfl⟩,trivial⟩)) č))))
def Zdf(T:Tx K mg a):Į P w K mg base (ū P w) 10 a.Xv a.Zap ["yard","offers","wants"] (ŷ ⟨K,Ī a⟩ 3 Bs):=by
 refine bB (cm:=Ī a) (mb:=Fi) T.gZ.F Gh rfl rfl rfl λcdv A outer s H E hr=>?_
 have hu:=hr.units
 exact(ċ (C_ (Ě (đ (ZcS T) Ċ hr.mo rfl T.dM.m T.dM.F.kp T.dM.b ġ (Ć 0 (hr:=(Ć 2 (hr:=č)))))))
  (ċ (jo (i:=3) Gh.nd rfl rfl ["thing","price"] [] 2 (ą HX) rfl rfl (Ź 1) (λ_ _ _ _ _=>(iU rfl (Ĵ (Ĝ (i:=0) (show(["thing","price"]:List Str).Nodup by decide +kernel) rfl (Or.inl rfl) (hf:=Or.inr rfl)) (Ĵ (Ĝ (i:=1) (show(["thing","price"]:List Str).Nodup by decide +kernel) rfl (Or.inl rfl) (hf:=Or.inr rfl)) bG)))) (λ_ _ _ _ _=>Ŝ) (λ_ _ _ _ _=>(v_var 1)) trivial)
  (ċ (jo (i:=4) Gh.nd rfl rfl ["yard","wants","thing","price"] [0,2] 2 (ą HX) rfl rfl (Ź 1) (λ_ _ _ _ _=>(iU rfl (Ĵ (Ĝ (i:=2) (show(["yard","wants","thing","price"]:List Str).Nodup by decide +kernel) rfl (Or.inl rfl) (hf:=Or.inr rfl)) (Ĵ (Ĝ (i:=3) (show(["yard","wants","thing","price"]:List Str).Nodup by decide +kernel) rfl (Or.inl rfl) (hf:=Or.inr rfl)) bG)))) (λ_ _ _ _ _=>Ŝ) (λ_ _ _ _ _=>(Ě (đ (Zdc T) Ċ hr.mo rfl T.cR.m T.cR.F.kp T.cR.b ź (Ć 0 (hr:=(Ć 2 (hr:=(Ć 1 (hr:=č))))))))) ⟨rfl,⟨rfl,Or.inl rfl⟩,⟨rfl,⟨rfl,Or.inl rfl⟩,trivial⟩⟩)
  (Č (Ģ (đ (ZcW T) Ċ hr.mo rfl T.cO.m T.cO.F.kp T.cO.b ġ (Ć 3 (hr:=(Ć 4 (hr:=(ė (PE.wk (ħ aG (by rfl) T.cT PySem.boot_len (ğ (Ă 2) Ĭ)) λ_ _ _ h=>ů aH h) (ė (Ě (đ (Zde T) Ċ hr.mo rfl T.dR.m T.dR.F.kp T.dR.b ġ (Ć 0 (hr:=(Ć 2 (hr:=č)))))) č))))))))))))
def Qf(T:Tx K mg a):Į P w K mg base (ū P w) 1 a.Xw a.Zaq ["_law_number"] (ŷ ⟨K,Ī a⟩ 1 vV):=by
 refine bB (cm:=Ī a) (mb:=yQ) T.aj.F Zcy rfl rfl rfl λcdv A outer s H E hr=>?_
 have hu:=hr.units
 exact(ċ (Ÿ (œ aF (ŝ hu) (Ā (ĕ Ľ Ļ (Ā (ĕ aC Ţ (Ă 0) (Ā ă))) (Ā ă))) (Ā ă) (ĩ _))
  (Č (Ģ (ņ Ĳ ı (Ā ă) (Ā (ĕ Ľ Ļ (Ā (ĕ ń ĳ (Ă 0) (Ā ă))) (Ā (ĕ oV oN (Ā ă) (Ā ă))))))))
  Ń)
  (Č (Ģ (ņ Ĳ ı (Ā ă) (Ā (ĕ Ľ Ļ (Ă 0) (Ā ă)))))))
def uo(T:Tx K mg a):Į P w K mg base (ū P w) 1 a.Xx a.Zar ["_law_number","_law_wide"] (ŷ ⟨K,Ī a⟩ 2 mG):=by
 refine bB (cm:=Ī a) (mb:=yR) T.ľ.F Zcz rfl rfl rfl λcdv A outer s H E hr=>?_
 have hu:=hr.units
 exact(ċ (Ÿ (œ aF (ŝ hu) (Ā (ĕ Ľ Ļ (Ā (ĕ aC Ţ (Ă 0) (Ā ă))) (Ā ă))) (Ā ă) (ĩ _))
  (Č (Ģ (ņ Ĳ ı (Ā (ĕ š Š (Ā (ĕ Ľ Ļ (Ā (ĕ ń ĳ (Ă 0) (Ā ă))) (Ā (ĕ š Š (Ā (ĕ ń ĳ (Ā ă) (Ā (ĕ oV oN (Ā ă) (Ā ă))))) (Ā ă))))) (Ā (ĕ oV oN (Ā ă) (Ā ă))))) (Ā ă))))
  Ń)
  (Č (Ģ (ĵ (ĕ š Š (Ā (ĕ Ľ Ļ (Ă 0) (Ā (Ě (ņ Ĳ ı (Ā (ĕ ń ĳ (Ā ă) (Ă 1))) (Ā ă)))))) (Ā ă))))))
def Qg(T:Tx K mg a):Į P w K mg base (ū P w) 2 a.Xy a.Zas ["_law_cell","_law_wide"] (ŷ ⟨K,Ī a⟩ 2 jD):=by
 refine bB (cm:=Ī a) (mb:=mZ) T.aL.F lu rfl rfl rfl λcdv A outer s H E hr=>?_
 have hu:=hr.units
 exact(ċ (ī (i:=2) lu.nd rfl (by first|exact Or.inl rfl|exact Or.inr rfl) (đ (Gi T) Ċ hr.mo rfl T.ŗ.m T.ŗ.F.kp T.ŗ.b ġ (Ć 0 (hr:=(ė ă č)))))
  (ċ (Hi (Ě (ű ["_law_wide","_law_xs","_law_k"] [1,2] 1 (ą Oa) rfl rfl (ŧ rfl T.aO (ĉ ă ĥ)) (λ_ _ _ _ _=>(Ĝ (i:=2) (show(["_law_wide","_law_xs","_law_k"]:List Str).Nodup by decide +kernel) rfl (Or.inl rfl) (hf:=Or.inr rfl))) (λ_ _ _ _ _=>Ŝ) (λ_ _ _ _ _=>(Ě (đ (uo T) Ċ hr.mo rfl T.ľ.m T.ľ.F.kp T.ľ.b ź (ė (Ğ Đ ď (Ă 1) (Ă 2) (λ_ _=>rfl)) (Ć 0 (hr:=č)))))) ⟨rfl,⟨rfl,Or.inl rfl⟩,⟨rfl,⟨rfl,Or.inl rfl⟩,trivial⟩⟩)) (HJ rfl (Ĵ (Ĝ (i:=5) lu.nd rfl (Or.inl rfl)) (Ĵ (Ĝ (i:=6) lu.nd rfl (Or.inl rfl)) bG))))
  (ċ (ī (i:=3) lu.nd rfl (Or.inl rfl) (đ (Qf T) Ċ hr.mo rfl T.aj.m T.aj.F.kp T.aj.b ġ (ė (Ğ Đ ď (Ă 2) (Ā ă) (λ_ _=>rfl)) č)))
  (ċ (ī (i:=4) lu.nd rfl (Or.inl rfl) (ĵ (ĕ Ľ Ļ (Ā (Ğ Đ ď (Ă 2) (Ā ă) (λ_ _=>rfl))) (Ā ă))))
  (ċ (Ÿ (œ aF (ŝ hu) (Ă 4) (Ā ă) (ĩ _))
  (Č (Ģ (ĵ (ŕ (ĉ Ŵ (ĉ (Ě (aq (ĉ (ĕ aC Ţ (Ă 5) (Ā ă)) (ĉ (ĕ aC Ţ (Ă 6) (Ā ă)) (ĉ (v_var 3) ĥ))))) ĥ))))))
  Ń)
  (ċ (Ÿ (œ aF (ŝ hu) (Ă 4) (Ā ă) (ĩ _))
  (ċ (Hi (Ě (aq (ĉ (ĕ š Š (Ā (Ě (ņ Ĳ ı (Ă 5) (Ā (ĕ Ľ Ļ (Ā (Ğ Đ ď (Ă 2) (Ā ă) (λ_ _=>rfl))) (Ā ă)))))) (Ā ă)) (ĉ (ĕ š Š (Ā (Ě (ņ Ĳ ı (Ă 6) (Ā (ĕ Ľ Ļ (Ā (Ğ Đ ď (Ă 2) (Ā ă) (λ_ _=>rfl))) (Ā ă)))))) (Ā ă)) ĥ)))) (HJ rfl (Ĵ (Ĝ (i:=7) lu.nd rfl (Or.inl rfl)) (Ĵ (Ĝ (i:=8) lu.nd rfl (Or.inl rfl)) bG))))
  (Č (Ģ (ĵ (ŕ (ĉ Ŵ (ĉ (Ě (aq (ĉ (v_var 5) (ĉ (v_var 6) (ĉ (Ě (ņ Ĳ ı (Ă 7) (Ā (PE.wk (aA ZbP (by rfl) T.ZaI PyProof.Rows.boot_int (ğ (Ā (fG aF (ŝ hu) (Ā (ŕ (ĉ (v_var 5) (ĉ (v_var 6) ĥ)))) (Ā (ŕ (ĉ (v_var 7) (ĉ (v_var 8) ĥ)))) (ĩ _))) Ĭ)) λ_ _ _ h=>ů ZbQ h)))) (ĉ (v_var 8) (ĉ (v_var 3) ĥ))))))) ĥ)))))))
  Ń)
  (ċ (Ÿ (œ aF (ŝ hu) (Ă 4) (Ā ă) (ĩ _))
  (Č (Ģ (ĵ (ŕ (ĉ Ŵ (ĉ (Ě (ņ Ĳ ı (Ā (Ě (ņ Ĳ ı (Ā (Ě (aq (ĉ (v_var 5) (ĉ (v_var 6) (ĉ (ĕ Ľ Ļ (Ā (Ğ Đ ď (Ă 2) (Ā ă) (λ_ _=>rfl))) (Ā ă)) ĥ)))))) (Ā (Ě (aq (ĉ (Ě (đ (uo T) Ċ hr.mo rfl T.ľ.m T.ľ.F.kp T.ľ.b ġ (ė (Ğ Đ ď (Ă 2) (Ā ă) (λ_ _=>rfl)) (Ć 1 (hr:=č))))) (ĉ (Ě (đ (uo T) Ċ hr.mo rfl T.ľ.m T.ľ.F.kp T.ľ.b ġ (ė (Ğ Đ ď (Ă 2) (Ā ă) (λ_ _=>rfl)) (Ć 1 (hr:=č))))) (ĉ (v_var 3) ĥ))))))))) (Ā (Ě (aq (ĉ (Ě (đ (uo T) Ċ hr.mo rfl T.ľ.m T.ľ.F.kp T.ľ.b ġ (ė (Ğ Đ ď (Ă 2) (Ā ă) (λ_ _=>rfl)) (Ć 1 (hr:=č))))) (ĉ (Ě (đ (uo T) Ċ hr.mo rfl T.ľ.m T.ľ.F.kp T.ľ.b ġ (ė (Ğ Đ ď (Ă 2) (Ā ă) (λ_ _=>rfl)) (Ć 1 (hr:=č))))) (ĉ (Ě (đ (Qf T) Ċ hr.mo rfl T.aj.m T.aj.F.kp T.aj.b ġ (ė (Ğ Đ ď (Ă 2) (Ā ă) (λ_ _=>rfl)) č))) ĥ)))))))) ĥ))))))
  Ń)
  (Č (Ģ (ĵ (ŕ (ĉ (Ğ Đ ď (Ā (Ě (aq (ĉ Ŵ (ĉ Ŵ ĥ))))) (Ā (ĕ š Š (Ă 4) (Ā ă))) (λ_ _=>rfl)) (ĉ (Ě (aq (ĉ (v_var 5) (ĉ (v_var 6) (ĉ (Ě (ņ Ĳ ı (Ā (Ě (ņ Ĳ ı (Ă 5) (Ā ă)))) (Ā (ĕ Ľ Ļ (Ā (Ğ Đ ď (Ă 2) (Ā ă) (λ_ _=>rfl))) (Ā ă))))) (ĉ (Ě (ņ Ĳ ı (Ā (Ě (ņ Ĳ ı (Ă 6) (Ā ă)))) (Ā (ĕ Ľ Ļ (Ā (Ğ Đ ď (Ă 2) (Ā ă) (λ_ _=>rfl))) (Ā ă))))) (ĉ (v_var 3) ĥ))))))) ĥ)))))))))))))
def Qh(T:Tx K mg a):Į P w K mg base (ū P w) 1 a.Xz a.Zat ["_law_rows","_law_choice"] (ŷ ⟨K,Ī a⟩ 2 vW):=by
 refine bB (cm:=Ī a) (mb:=Fj) T.ak.F ZcA rfl rfl rfl λcdv A outer s H E hr=>?_
 have hu:=hr.units
 exact(Č (Ģ (ű ["_law_rows","_law_choice","_law_k"] [0,1] 1 (ą Ob) rfl rfl (ŧ rfl T.aO (ĉ (PE.wk (ħ aG (by rfl) T.cT PySem.boot_len (ğ (Ă 0) Ĭ)) λ_ _ _ h=>ů aH h) ĥ)) (λ_ _ _ _ _=>(Ĝ (i:=2) (show(["_law_rows","_law_choice","_law_k"]:List Str).Nodup by decide +kernel) rfl (Or.inl rfl) (hf:=Or.inr rfl))) (λ_ _ _ _ _=>(Dj (œ aF (ŝ hu) (Ā (ĕ Ľ Ļ (Ā (ĕ wR wU (Ă 1) (Ă 2))) (Ā ă))) (Ā ă) (ĩ _)))) (λ_ _ _ _ _=>(Ğ Đ ď (Ă 0) (Ă 2) (λ_ _=>rfl))) ⟨rfl,⟨rfl,Or.inl rfl⟩,⟨rfl,⟨rfl,Or.inl rfl⟩,trivial⟩⟩)))
def Qi(T:Tx K mg a):Į P w K mg base (ū P w) 1 a.XC a.Zau ["first","last"] (ŷ ⟨K,Ī a⟩ 2 vX):=by
 refine bB (cm:=Ī a) (mb:=yS) T.bM.F ZcB rfl rfl rfl λcdv A outer s H E hr=>?_
 have hu:=hr.units
 exact(ċ (Ÿ (œ gJ gG (Ă 1) (Ă 0) (ĩ _))
  (Č (Ģ (ĵ ă)))
  Ń)
  (Č (Ģ (ĵ (ĕ š Š (Ā (ĕ oW oX (Ā ă) (Ā (Ě (ņ Ĳ ı (Ă 1) (Ā ă)))))) (Ā (ĕ oW oX (Ā ă) (Ă 0))))))))
def Zdg(T:Tx K mg a):Į P w K mg base (ū P w) 2 a.XD a.Zav ["lines","unit","q","width"] (ŷ ⟨K,Ī a⟩ 4 Bt):=by
 refine bB (cm:=Ī a) (mb:=yU) T.jw.F iG rfl rfl rfl λcdv A outer s H E hr=>?_
 have hu:=hr.units
 exact(ċ (ī (i:=4) iG.nd rfl (Or.inl rfl) (ĵ ă))
  (ċ (ī (i:=5) iG.nd rfl (Or.inl rfl) (ĵ (ĕ š Š (Ă 3) (Ā ă))))
  (ċ (bJ PassesOwn.leaving rfl (Ź 0) (iU rfl (Ĵ (Ĝ (i:=6) iG.nd rfl (Or.inl rfl)) (Ĵ (Ĝ (i:=7) iG.nd rfl (Or.inl rfl)) (Ĵ (Ĝ (i:=8) iG.nd rfl (Or.inl rfl)) bG))))
  (ċ (ī (i:=9) iG.nd rfl (Or.inl rfl) (ĵ (ĕ ń ĳ (Ă 6) (Ă 1))))
  (ċ (ī (i:=10) iG.nd rfl (Or.inl rfl) (ĵ (ĕ š Š (Ă 8) (Ā (ĕ ń ĳ (Ā (ĕ ń ĳ (Ă 7) (Ă 1))) (Ă 2))))))
  (Č (Ÿ (œ Ut Ue (Ă 9) (Ā ă) (ĩ _))
  (Č (ī (i:=5) iG.nd rfl (Or.inl rfl) (ĵ (PE.wk (ħ (wK rfl) (by rfl) T.wz PyProof.Rows.boot_min (ğ (Ă 5) (ğ (Ā (ĕ aC Ţ (Ă 10) (Ă 9))) Ĭ))) λ_ _ _ h=>ů wY h))))
  (Č (Ÿ (œ gJ gG (Ă 9) (Ā ă) (ĩ _))
  (Č (ī (i:=4) iG.nd rfl (Or.inl rfl) (ĵ (PE.wk (ħ (Rj rfl) (by rfl) T.BJ PyProof.Rows.boot_max (ğ (Ă 4) (ğ (Ā (uG iy ig (Ā (ĕ aC Ţ (Ă 10) (Ā (uG iy ig (Ă 9))))))) Ĭ))) λ_ _ _ h=>ů RZ h))))
  (Č (Ÿ (œ gJ gG (Ă 10) (Ā ă) (ĩ _))
  (Č (Ģ (ĵ ă)))
  Ń)))))))))
  (Č (Ģ (đ (Qi T) Ċ hr.mo rfl T.bM.m T.bM.F.kp T.bM.b ġ (Ć 4 (hr:=(Ć 5 (hr:=č))))))))))
def Zdh(T:Tx K mg a):Į P w K mg base (ū P w) 5 a.XF a.Zaw ["yard","thing","ray"] (ŷ ⟨K,Ī a⟩ 3 vY):=by
 refine bB (cm:=Ī a) (mb:=Fo) T.lO.F um rfl rfl rfl λcdv A outer s H E hr=>?_
 have hu:=hr.units
 exact(ċ (ī (i:=3) um.nd rfl (Or.inl rfl) (đ (PK T) Ċ hr.mo rfl T.Ž.m T.Ž.F.kp T.Ž.b ġ (ė (Ě (đ (Qd T) Ċ hr.mo rfl T.Ũ.m T.Ũ.F.kp T.Ũ.b ġ (Ć 1 (hr:=(Ć 2 (hr:=č)))))) č)))
  (ċ (ī (i:=4) um.nd rfl (Or.inl rfl) (ĵ ă))
  (ċ (bJ PassesOwn.leaving rfl (ŧ rfl T.aO (ĉ (bf ["Yard"] ⟨⟨T.ao,T.cg⟩,trivial⟩ (Ă 0)) ĥ)) (Ĝ (i:=5) um.nd rfl (Or.inl rfl))
  (Č (xT (i:=4) um.nd rfl (Or.inl rfl) (ĕ oW oX (Ā (Ě (đ (Zdg T) Ċ hr.mo rfl T.jw.m T.jw.F.kp T.jw.b ġ (Ć 3 (hr:=(ė (ĕ ń ĳ (Ā ă) (Ā (Ğ Đ ď (Ă 2) (Ā ă) (λ_ _=>rfl)))) (Ć 5 (hr:=(ė (bf ["Yard"] ⟨⟨T.ao,T.aP⟩,trivial⟩ (Ă 0)) č))))))))) (Ā (ĕ ń ĳ (Ă 5) (Ā (bf ["Yard"] ⟨⟨T.ao,T.aP⟩,trivial⟩ (Ă 0)))))))))
  (Č (Ģ (gn 4))))))
def Ze8(T:Tx K mg a):Į P w K mg base (ū P w) 6 a.ZeI a.ZeP ["yard","ray"] (ŷ ⟨K,Ī a⟩ 2 Ti):=by
 refine bB (cm:=Ī a) (mb:=Oj) T.bx.F ZeY rfl rfl rfl λcdv A outer s H E hr=>?_
 have hu:=hr.units
 exact(Č (Ģ (ű ["yard","ray","thing"] [0,1] 1 (ą Zb0) rfl rfl (gw (bf ["Yard"] ⟨⟨T.ao,T.dX⟩,trivial⟩ (Ă 0))) (λ_ _ _ _ _=>(Ĝ (i:=2) (show(["yard","ray","thing"]:List Str).Nodup by decide +kernel) rfl (Or.inl rfl) (hf:=Or.inr rfl))) (λ_ _ _ _ _=>Ŝ) (λ_ _ _ _ _=>(Ě (đ (Zdh T) Ċ hr.mo rfl T.lO.m T.lO.F.kp T.lO.b ź (Ć 0 (hr:=(Ć 2 (hr:=(Ć 1 (hr:=č))))))))) ⟨rfl,⟨rfl,Or.inl rfl⟩,⟨rfl,⟨rfl,Or.inl rfl⟩,trivial⟩⟩)))
def Zdi(T:Tx K mg a):Į P w K mg base (ū P w) 7 a.XH a.Zax ["yard","turn"] (ŷ ⟨K,Ī a⟩ 2 vZ):=by
 refine bB (cm:=Ī a) (mb:=yW) T.zB.F zK rfl rfl rfl λcdv A outer s H E hr=>?_
 have hu:=hr.units
 exact(ċ (Ÿ (œ Ab rG (Ă 1) (Ā jA) (ĩ _))
  (Č (Ģ (đ (Qi T) Ċ hr.mo rfl T.bM.m T.bM.F.kp T.bM.b ġ (ė ă (ė (ĕ š Š (Ā (ĕ ń ĳ (Ā (bf ["Yard"] ⟨⟨T.ao,T.aP⟩,trivial⟩ (Ă 0))) (Ā (bf ["Yard"] ⟨⟨T.ao,T.cg⟩,trivial⟩ (Ă 0))))) (Ā ă)) č)))))
  Ń)
  (ċ (ī (i:=2) zK.nd rfl (Or.inl rfl) (ĵ ă))
  (ċ (bJ PassesOwn.leaving rfl (gw (Ě (đ (Ze8 T) Ċ hr.mo rfl T.bx.m T.bx.F.kp T.bx.b ġ (Ć 0 (hr:=(Ć 1 (hr:=č))))))) (Ĝ (i:=3) zK.nd rfl (Or.inl rfl))
  (Č (xT (i:=2) zK.nd rfl (Or.inl rfl) (v_var 3))))
  (Č (Ģ (gn 2))))))
def Qj(T:Tx K mg a):Į P w K mg base (ū P w) 8 a.XJ a.Zay ["_law_yard","_law_things","_law_wants_here"] (ŷ ⟨K,Ī a⟩ 3 mH):=by
 refine bB (cm:=Ī a) (mb:=pI) T.aM.F nj rfl rfl rfl λcdv A outer s H E hr=>?_
 have hu:=hr.units
 exact(ċ (ī (i:=3) nj.nd rfl (Or.inl rfl) (ĵ (mV T.Pa (BR T) dF hr.mo rfl (Z0O T) T.fB.b ġ (ė (bf ["Yard"] ⟨⟨T.ao,T.aP⟩,trivial⟩ (Ă 0)) (ė (bf ["Yard"] ⟨⟨T.ao,T.cg⟩,trivial⟩ (Ă 0)) (ė (Ě (ņ Ĳ ı (Ā (bf ["Yard"] ⟨⟨T.ao,T.dX⟩,trivial⟩ (Ă 0))) (Ă 1))) (ė (bf ["Yard"] ⟨⟨T.ao,T.eO⟩,trivial⟩ (Ă 0)) č)))))))
  (ċ (bJ PassesOwn.leaving rfl (ŧ rfl T.aO (ĉ (PE.wk (ħ aG (by rfl) T.cT PySem.boot_len (ğ (Ă 2) Ĭ)) λ_ _ _ h=>ů aH h) ĥ)) (Ĝ (i:=4) nj.nd rfl (Or.inl rfl))
  (ċ (Hi (Ğ Đ ď (Ă 2) (Ă 4) (λ_ _=>rfl)) (HJ rfl (Ĵ (Ĝ (i:=6) nj.nd rfl (Or.inl rfl)) (Ĵ (Ĝ (i:=7) nj.nd rfl (Or.inl rfl)) (Ĵ (Ĝ (i:=8) nj.nd rfl (Or.inl rfl)) bG)))))
  (ċ (ī (i:=5) nj.nd rfl (Or.inl rfl) (đ (Zdi T) Ċ hr.mo rfl T.zB.m T.zB.F.kp T.zB.b ġ (Ć 3 (hr:=(ė (Ğ Đ ď (Ā (Ğ Đ ď (Ā (Ğ Đ ď (Ā (bf ["Yard"] ⟨⟨T.ao,T.eO⟩,trivial⟩ (Ă 0))) (Ă 7) (λ_ _=>rfl))) (Ā ă) (λ_ _=>rfl))) (Ă 8) (λ_ _=>rfl)) č)))))
  (Č (Ÿ (œ aF (ŝ hu) (Ā (ĕ Ľ Ļ (Ā (ĕ wR wU (Ă 5) (Ā (Ě (ņ Ĳ ı (Ā (ĕ ń ĳ (Ā (Ğ Đ ď (Ă 6) (Ā ă) (λ_ _=>rfl))) (Ā (bf ["Yard"] ⟨⟨T.ao,T.aP⟩,trivial⟩ (Ă 0))))) (Ā (Ğ Đ ď (Ă 6) (Ā ă) (λ_ _=>rfl)))))))) (Ā ă))) (Ā ă) (ĩ _))
  (Č (Ģ (gn 4)))
  Ń)))))
  (Č (Ģ (ĵ jA)))))
def Ze9(T:Tx K mg a):Į P w K mg base (ū P w) 9 a.ZeJ a.ZeQ ["_law_yard","_law_offers","_law_wants_here","_law_told"] (ŷ ⟨K,Ī a⟩ 4 Om):=by
 refine bB (cm:=Ī a) (mb:=Ol) T.aN.F BL rfl rfl rfl λcdv A outer s H E hr=>?_
 have hu:=hr.units
 exact(ċ (Ÿ (PW.pt (w_or (œ kJ (gb hu) (Ā (PE.wk (ħ aG (by rfl) T.cT PySem.boot_len (ğ (Ă 3) Ĭ)) λ_ _ _ h=>ů aH h)) (Ā ă) (ĩ _)) (w_or (pP (dg (Ā (PE.wk (ħ xK (by rfl) T.jx PyProof.Rows.boot_isinstance (ğ (Ā (Ğ Đ ď (Ă 3) (Ā ă) (λ_ _=>rfl))) (ğ (Ā (Ls (.ty "list") (wF (v:=.ty "list") rfl T.iB PyProof.Rows.boot_list rfl))) Ĭ))) λ_ _ _ h=>ů (xO T.iC T.iT T.iD T.iN) h)))) (vg (œ kJ (gb hu) (Ā (PE.wk (ħ aG (by rfl) T.cT PySem.boot_len (ğ (Ā (Ğ Đ ď (Ă 3) (Ā ă) (λ_ _=>rfl))) Ĭ)) λ_ _ _ h=>ů aH h)) (Ā (ĕ oW oX (Ā ă) (Ā (PE.wk (ħ aG (by rfl) T.cT PySem.boot_len (ğ (Ă 1) Ĭ)) λ_ _ _ h=>ů aH h)))) (ĩ _))))))
  (Č (Ģ (ĵ wO)))
  Ń)
  (ċ (Ÿ (PW.pt (w_or (pP (dg (Ā (PE.wk (ħ xK (by rfl) T.jx PyProof.Rows.boot_isinstance (ğ (Ā (Ğ Đ ď (Ă 3) (Ā ă) (λ_ _=>rfl))) (ğ (Ā (Ls (.ty "int") (wF (v:=.ty "int") rfl T.ZaI PyProof.Rows.boot_int rfl))) Ĭ))) λ_ _ _ h=>ů (xO T.iC T.iT T.iD T.iN) h)))) (w_or (dg (Ā (PE.wk (ħ xK (by rfl) T.jx PyProof.Rows.boot_isinstance (ğ (Ā (Ğ Đ ď (Ă 3) (Ā ă) (λ_ _=>rfl))) (ğ (Ā (Ls (.ty "bool") (wF (v:=.ty "bool") rfl T.Zb7 PyProof.Rows.boot_bool rfl))) Ĭ))) λ_ _ _ h=>ů (xO T.iC T.iT T.iD T.iN) h))) (vg (pP (Uk jB gJ jz gG (Ā ă) (Ā (Ğ Đ ď (Ă 3) (Ā ă) (λ_ _=>rfl))) (Ā (PE.wk (ħ aG (by rfl) T.cT PySem.boot_len (ğ (Ā (Ğ Đ ď (Ă 3) (Ā ă) (λ_ _=>rfl))) Ĭ)) λ_ _ _ h=>ů aH h))))))))
  (Č (Ģ (ĵ wO)))
  Ń)
  (ċ (Ÿ (œ kJ (gb hu) (Ā (Ğ Đ ď (Ă 3) (Ā ă) (λ_ _=>rfl))) (Ā (PE.wk (ħ (oZ rfl) (by rfl) T.wA PyProof.Rows.boot_sum (ğ (Ā (Ě (ű ["_law_thing_here","_law_price"] [] 2 (ą Oc) rfl rfl (Np (gw (Ě (đ (Qh T) Ċ hr.mo rfl T.ak.m T.ak.F.kp T.ak.b ź (Ć 1 (hr:=(ė (Ğ Đ ď (Ă 3) (Ā ă) (λ_ _=>rfl)) č))))))) (λ_ _ _ _ _=>(iU rfl (Ĵ (Ĝ (i:=0) (show(["_law_thing_here","_law_price"]:List Str).Nodup by decide +kernel) rfl (Or.inl rfl) (hf:=Or.inr rfl)) (Ĵ (Ĝ (i:=1) (show(["_law_thing_here","_law_price"]:List Str).Nodup by decide +kernel) rfl (Or.inl rfl) (hf:=Or.inr rfl)) bG)))) (λ_ _ _ _ _=>Ŝ) (λ_ _ _ _ _=>(v_var 1)) trivial))) Ĭ)) λ_ _ _ h=>ů pq h)) (ĩ _))
  (Č (Ģ (ĵ wO)))
  Ń)
  (ċ (bJ PassesOwn.leaving rfl (ŧ rfl T.aO (ĉ (PE.wk (ħ aG (by rfl) T.cT PySem.boot_len (ğ (Ā (Ğ Đ ď (Ă 3) (Ā ă) (λ_ _=>rfl))) Ĭ)) λ_ _ _ h=>ů aH h) ĥ)) (Ĝ (i:=4) BL.nd rfl (Or.inl rfl))
  (ċ (ī (i:=5) BL.nd rfl (Or.inl rfl) (đ (Qh T) Ċ hr.mo rfl T.ak.m T.ak.F.kp T.ak.b ġ (Ć 1 (hr:=(Ć 4 (hr:=č))))))
  (ċ (ī (i:=6) BL.nd rfl (Or.inl rfl) (ĵ (PE.wk (ħ (oZ rfl) (by rfl) T.wA PyProof.Rows.boot_sum (ğ (Ā (Ě (ű ["_law_one"] [] 1 (ą Oc) rfl rfl (Ź 5) (λ_ _ _ _ _=>(Ĝ (i:=0) (show(["_law_one"]:List Str).Nodup by decide +kernel) rfl (Or.inl rfl) (hf:=Or.inr rfl))) (λ_ _ _ _ _=>Ŝ) (λ_ _ _ _ _=>(Ğ Đ ď (Ă 0) (Ā ă) (λ_ _=>rfl))) trivial))) Ĭ)) λ_ _ _ h=>ů pq h)))
  (Č (Ÿ (PW.pt (w_or (œ aF (ŝ hu) (Ă 4) (Ā (Ğ Đ ď (Ă 3) (Ā ă) (λ_ _=>rfl))) (ĩ _)) (w_or (œ gJ gG (Ă 6) (Ā (Ğ Đ ď (Ă 3) (Ā ă) (λ_ _=>rfl))) (ĩ _)) (vg (PW.pt (w_and (œ aF (ŝ hu) (Ă 6) (Ā (Ğ Đ ď (Ă 3) (Ā ă) (λ_ _=>rfl))) (ĩ _)) (jY (œ gJ gG (Ă 4) (Ā (Ğ Đ ď (Ă 3) (Ā ă) (λ_ _=>rfl))) (ĩ _)))))))))
  (ċ (ī (i:=7) BL.nd rfl (Or.inl rfl) (đ (Qj T) Ċ hr.mo rfl T.aM.m T.aM.F.kp T.aM.b ġ (Ć 0 (hr:=(ė (Ě (ű ["_law_one"] [] 1 (ą Oc) rfl rfl (Ź 5) (λ_ _ _ _ _=>(Ĝ (i:=0) (show(["_law_one"]:List Str).Nodup by decide +kernel) rfl (Or.inl rfl) (hf:=Or.inr rfl))) (λ_ _ _ _ _=>Ŝ) (λ_ _ _ _ _=>(Ğ Đ ď (Ă 0) (Ā ă) (λ_ _=>rfl))) trivial)) (Ć 2 (hr:=č)))))))
  (Č (Ÿ (PW.pt (w_or (œ kJ (gb hu) (Ă 7) (Ā (Ğ Đ ď (Ā (Ğ Đ ď (Ă 3) (Ā ă) (λ_ _=>rfl))) (Ă 4) (λ_ _=>rfl))) (ĩ _)) (vg (œ kJ (gb hu) (Ā (fG Ab rG (Ă 7) (Ā jA) (ĩ _))) (Ā (fG aF (ŝ hu) (Ă 4) (Ā (Ğ Đ ď (Ă 3) (Ā ă) (λ_ _=>rfl))) (ĩ _))) (ĩ _)))))
  (Č (Ģ (ĵ wO)))
  Ń)))
  Ń)))))
  (Č (Ģ (ĵ wO)))))))
def ur(T:Tx K mg a):Į P w K mg base (ū P w) 1 a.XM a.Zaz ["number"] (ŷ ⟨K,Ī a⟩ 1 qt):=by
 refine bB (cm:=Ī a) (mb:=Fq) T.Œ.F ZcC rfl rfl rfl λcdv A outer s H E hr=>?_
 have hu:=hr.units
 exact(Č (Ģ (ĵ (vf jB jB jz jz (Ā (uG iy ig (Ā (Ls (.int (1000000000)) (qQ (v:=.int (1000000000)) rfl T.oA ⟨_,rfl⟩))))) (Ă 0) (Ā (Ls (.int (1000000000)) (qQ (v:=.int (1000000000)) rfl T.oA ⟨_,rfl⟩)))))))
def Qk(T:Tx K mg a):Į P w K mg base (ū P w) 1 a.XQ a.ZaA ["number"] (ŷ ⟨K,Ī a⟩ 1 Bu):=by
 refine bB (cm:=Ī a) (mb:=Ft) T.bN.F ZcD rfl rfl rfl λcdv A outer s H E hr=>?_
 have hu:=hr.units
 exact(Č (Ģ (ĵ (vf jB jB jz jz (Ā ă) (Ă 0) (Ā (Ls (.int (1000000000)) (qQ (v:=.int (1000000000)) rfl T.mJ ⟨_,rfl⟩)))))))
def Zdj(T:Tx K mg a):Į P w K mg base (ū P w) 2 a.XR a.ZaB ["numbers"] (ŷ ⟨K,Ī a⟩ 1 Bv):=by
 refine bB (cm:=Ī a) (mb:=yZ) T.fW.F ZcE rfl rfl rfl λcdv A outer s H E hr=>?_
 have hu:=hr.units
 exact(Č (Ģ (ĵ (v_and (fG aF (ŝ hu) (Ā (PE.wk (ħ aG (by rfl) T.cT PySem.boot_len (ğ (Ă 0) Ĭ)) λ_ _ _ h=>ů aH h)) (Ā ă) (ĩ _)) (v_and (Ě (đ (ur T) Ċ hr.mo rfl T.Œ.m T.Œ.F.kp T.Œ.b ġ (ė (Ğ Đ ď (Ă 0) (Ā ă) (λ_ _=>rfl)) č))) (v_and (Ě (đ (ur T) Ċ hr.mo rfl T.Œ.m T.Œ.F.kp T.Œ.b ġ (ė (Ğ Đ ď (Ă 0) (Ā ă) (λ_ _=>rfl)) č))) (mq (Ě (đ (Qk T) Ċ hr.mo rfl T.bN.m T.bN.F.kp T.bN.b ġ (ė (Ğ Đ ď (Ă 0) (Ā ă) (λ_ _=>rfl)) č))))))))))
def Ql(T:Tx K mg a):Į P w K mg base (ū P w) 1 a.qJ a.JG ["self","word","numbers"] (Qw ⟨K,Ī a⟩ 3 "Post" za):=by
 refine fnI (cm:=Ī a) (mb:=jE) T.Ŋ.F BP rfl rfl rfl λcdv A outer s H E hr=>?_
 have hu:=hr.units
 exact(ċ (cL (i:=0) ["Thing","Post","Fence","Sail","Cloth","House"] ⟨⟨T.ŵ,T.cU⟩,⟨⟨T.aY,T.eU⟩,⟨⟨T.Ŭ,T.cV⟩,⟨⟨T.aZ,T.eV⟩,⟨⟨T.ŭ,T.cW⟩,⟨⟨T.Ů,T.cX⟩,trivial⟩⟩⟩⟩⟩⟩ (pv 0) (v_var 1))
  (Č (cL (i:=0) ["Thing","Post","Fence","Sail","Cloth","House"] ⟨⟨T.ŵ,T.Ŀ⟩,⟨⟨T.aY,T.Ň⟩,⟨⟨T.Ŭ,T.ŀ⟩,⟨⟨T.aZ,T.ň⟩,⟨⟨T.ŭ,T.Ł⟩,⟨⟨T.Ů,T.ł⟩,trivial⟩⟩⟩⟩⟩⟩ (pv 0) (Ě (PE.wk (aA fL (by rfl) T.iB PyProof.Rows.boot_list (ğ (Ă 2) Ĭ)) λ_ _ _ h=>wQ fM h)))))
def JM(T:Tx K mg a):Į P w K mg base (ū P w) 1 a.qJ a.JG ["self","word","numbers"] (Qw ⟨K,Ī a⟩ 3 "Fence" tM):=by
 refine fnI (cm:=Ī a) (mb:=jE) T.Ŋ.F BP rfl rfl rfl λcdv A outer s H E hr=>?_
 have hu:=hr.units
 exact(ċ (cL (i:=0) ["Thing","Post","Fence","Sail","Cloth","House"] ⟨⟨T.ŵ,T.cU⟩,⟨⟨T.aY,T.eU⟩,⟨⟨T.Ŭ,T.cV⟩,⟨⟨T.aZ,T.eV⟩,⟨⟨T.ŭ,T.cW⟩,⟨⟨T.Ů,T.cX⟩,trivial⟩⟩⟩⟩⟩⟩ (pv 0) (v_var 1))
  (Č (cL (i:=0) ["Thing","Post","Fence","Sail","Cloth","House"] ⟨⟨T.ŵ,T.Ŀ⟩,⟨⟨T.aY,T.Ň⟩,⟨⟨T.Ŭ,T.ŀ⟩,⟨⟨T.aZ,T.ň⟩,⟨⟨T.ŭ,T.Ł⟩,⟨⟨T.Ů,T.ł⟩,trivial⟩⟩⟩⟩⟩⟩ (pv 0) (Ě (PE.wk (aA fL (by rfl) T.iB PyProof.Rows.boot_list (ğ (Ă 2) Ĭ)) λ_ _ _ h=>wQ fM h)))))
def Qm(T:Tx K mg a):Į P w K mg base (ū P w) 1 a.qJ a.JG ["self","word","numbers"] (Qw ⟨K,Ī a⟩ 3 "Sail" zc):=by
 refine fnI (cm:=Ī a) (mb:=jE) T.Ŋ.F BP rfl rfl rfl λcdv A outer s H E hr=>?_
 have hu:=hr.units
 exact(ċ (cL (i:=0) ["Thing","Post","Fence","Sail","Cloth","House"] ⟨⟨T.ŵ,T.cU⟩,⟨⟨T.aY,T.eU⟩,⟨⟨T.Ŭ,T.cV⟩,⟨⟨T.aZ,T.eV⟩,⟨⟨T.ŭ,T.cW⟩,⟨⟨T.Ů,T.cX⟩,trivial⟩⟩⟩⟩⟩⟩ (pv 0) (v_var 1))
  (Č (cL (i:=0) ["Thing","Post","Fence","Sail","Cloth","House"] ⟨⟨T.ŵ,T.Ŀ⟩,⟨⟨T.aY,T.Ň⟩,⟨⟨T.Ŭ,T.ŀ⟩,⟨⟨T.aZ,T.ň⟩,⟨⟨T.ŭ,T.Ł⟩,⟨⟨T.Ů,T.ł⟩,trivial⟩⟩⟩⟩⟩⟩ (pv 0) (Ě (PE.wk (aA fL (by rfl) T.iB PyProof.Rows.boot_list (ğ (Ă 2) Ĭ)) λ_ _ _ h=>wQ fM h)))))
def JN(T:Tx K mg a):Į P w K mg base (ū P w) 1 a.qJ a.JG ["self","word","numbers"] (Qw ⟨K,Ī a⟩ 3 "Cloth" tQ):=by
 refine fnI (cm:=Ī a) (mb:=jE) T.Ŋ.F BP rfl rfl rfl λcdv A outer s H E hr=>?_
 have hu:=hr.units
 exact(ċ (cL (i:=0) ["Thing","Post","Fence","Sail","Cloth","House"] ⟨⟨T.ŵ,T.cU⟩,⟨⟨T.aY,T.eU⟩,⟨⟨T.Ŭ,T.cV⟩,⟨⟨T.aZ,T.eV⟩,⟨⟨T.ŭ,T.cW⟩,⟨⟨T.Ů,T.cX⟩,trivial⟩⟩⟩⟩⟩⟩ (pv 0) (v_var 1))
  (Č (cL (i:=0) ["Thing","Post","Fence","Sail","Cloth","House"] ⟨⟨T.ŵ,T.Ŀ⟩,⟨⟨T.aY,T.Ň⟩,⟨⟨T.Ŭ,T.ŀ⟩,⟨⟨T.aZ,T.ň⟩,⟨⟨T.ŭ,T.Ł⟩,⟨⟨T.Ů,T.ł⟩,trivial⟩⟩⟩⟩⟩⟩ (pv 0) (Ě (PE.wk (aA fL (by rfl) T.iB PyProof.Rows.boot_list (ğ (Ă 2) Ĭ)) λ_ _ _ h=>wQ fM h)))))
def JQ(T:Tx K mg a):Į P w K mg base (ū P w) 1 a.qJ a.JG ["self","word","numbers"] (Qw ⟨K,Ī a⟩ 3 "House" tU):=by
 refine fnI (cm:=Ī a) (mb:=jE) T.Ŋ.F BP rfl rfl rfl λcdv A outer s H E hr=>?_
 have hu:=hr.units
 exact(ċ (cL (i:=0) ["Thing","Post","Fence","Sail","Cloth","House"] ⟨⟨T.ŵ,T.cU⟩,⟨⟨T.aY,T.eU⟩,⟨⟨T.Ŭ,T.cV⟩,⟨⟨T.aZ,T.eV⟩,⟨⟨T.ŭ,T.cW⟩,⟨⟨T.Ů,T.cX⟩,trivial⟩⟩⟩⟩⟩⟩ (pv 0) (v_var 1))
  (Č (cL (i:=0) ["Thing","Post","Fence","Sail","Cloth","House"] ⟨⟨T.ŵ,T.Ŀ⟩,⟨⟨T.aY,T.Ň⟩,⟨⟨T.Ŭ,T.ŀ⟩,⟨⟨T.aZ,T.ň⟩,⟨⟨T.ŭ,T.Ł⟩,⟨⟨T.Ů,T.ł⟩,trivial⟩⟩⟩⟩⟩⟩ (pv 0) (Ě (PE.wk (aA fL (by rfl) T.iB PyProof.Rows.boot_list (ğ (Ă 2) Ĭ)) λ_ _ _ h=>wQ fM h)))))
def Qn(T:Tx K mg a):Į P w K mg base (ū P w) 2 a.X_ a.ZaC ["numbers"] (ŷ ⟨K,Ī a⟩ 1 wg):=by
 refine bB (cm:=Ī a) (mb:=zf) T.ũ.F ZcF rfl rfl rfl λcdv A outer s H E hr=>?_
 have hu:=hr.units
 exact(Č (Ģ (ĵ (v_and (fG aF (ŝ hu) (Ā (PE.wk (ħ aG (by rfl) T.cT PySem.boot_len (ğ (Ă 0) Ĭ)) λ_ _ _ h=>ů aH h)) (Ā ă) (ĩ _)) (v_and (PE.wk (ħ (wL rfl) (by rfl) T.Iu PyProof.Rows.boot_all (ğ (Ā (Ě (ű ["number"] [] 1 (ą Od) rfl rfl (gw (Ě (cI (Ă 0) rY (bL ă)))) (λ_ _ _ _ _=>(Ĝ (i:=0) (show(["number"]:List Str).Nodup by decide +kernel) rfl (Or.inl rfl) (hf:=Or.inr rfl))) (λ_ _ _ _ _=>Ŝ) (λ_ _ _ _ _=>(Ě (đ (ur T) Ċ hr.mo rfl T.Œ.m T.Œ.F.kp T.Œ.b ź (Ć 0 (hr:=č))))) trivial))) Ĭ)) λ_ _ _ h=>ů xg h) (mq (Ě (đ (Qk T) Ċ hr.mo rfl T.bN.m T.bN.F.kp T.bN.b ġ (ė (Ğ Đ ď (Ă 0) (Ā ă) (λ_ _=>rfl)) č)))))))))
def Zdk(T:Tx K mg a):Į P w K mg base (ū P w) 3 a.Yb a.ZaD ["numbers"] (ŷ ⟨K,Ī a⟩ 1 Bw):=by
 refine bB (cm:=Ī a) (mb:=zj) T.dU.F ZcG rfl rfl rfl λcdv A outer s H E hr=>?_
 have hu:=hr.units
 exact(Č (Ģ (ĵ (v_and (Ě (đ (Qn T) Ċ hr.mo rfl T.ũ.m T.ũ.F.kp T.ũ.b ġ (Ć 0 (hr:=č)))) (mq (fG kJ (gb hu) (Ā (Ě (cI (Ă 0) rY (bL ă)))) (Ā (Ě (cI (Ă 0) (bL ă) (bL ă)))) (ĩ _)))))))
def ZaM(T:Tx K mg a):Į P w K mg base (ū P w) 3 a.ZeK a.ZeR ["numbers"] (ŷ ⟨K,Ī a⟩ 1 JF):=by
 refine bB (cm:=Ī a) (mb:=Ir) T.Ō.F ZeZ rfl rfl rfl λcdv A outer s H E hr=>?_
 have hu:=hr.units
 exact(Č (Ģ (ĵ (v_and (Ě (đ (Qn T) Ċ hr.mo rfl T.ũ.m T.ũ.F.kp T.ũ.b ġ (Ć 0 (hr:=č)))) (v_and (fG gJ gG (Ā (Ğ Đ ď (Ă 0) (Ā ă) (λ_ _=>rfl))) (Ā (Ğ Đ ď (Ă 0) (Ā ă) (λ_ _=>rfl))) (ĩ _)) (mq (fG gJ gG (Ā (Ğ Đ ď (Ă 0) (Ā ă) (λ_ _=>rfl))) (Ā (Ğ Đ ď (Ă 0) (Ā ă) (λ_ _=>rfl))) (ĩ _))))))))
def Ze_(T:Tx K mg a):Į P w K mg base (ū P w) 2 a.ZeL a.ZeS ["numbers"] (ŷ ⟨K,Ī a⟩ 1 Tj):=by
 refine bB (cm:=Ī a) (mb:=Oo) T.bA.F Ze0 rfl rfl rfl λcdv A outer s H E hr=>?_
 have hu:=hr.units
 exact(Č (Ģ (ĵ (v_and (Ě (đ (ur T) Ċ hr.mo rfl T.Œ.m T.Œ.F.kp T.Œ.b ġ (ė (Ğ Đ ď (Ă 0) (Ā ă) (λ_ _=>rfl)) č))) (v_and (Ě (đ (ur T) Ċ hr.mo rfl T.Œ.m T.Œ.F.kp T.Œ.b ġ (ė (Ğ Đ ď (Ă 0) (Ā ă) (λ_ _=>rfl)) č))) (mq (vf jB jB jz jz (Ā ă) (Ā (Ğ Đ ď (Ă 0) (Ā ă) (λ_ _=>rfl))) (Ā (Ls (.int (1000000000)) (qQ (v:=.int (1000000000)) rfl T.mJ ⟨_,rfl⟩))))))))))
def Zdl(T:Tx K mg a):Į P w K mg base (ū P w) 3 a.Yc a.ZaE ["numbers"] (ŷ ⟨K,Ī a⟩ 1 Bx):=by
 refine bB (cm:=Ī a) (mb:=zm) T.dW.F ZcH rfl rfl rfl λcdv A outer s H E hr=>?_
 have hu:=hr.units
 exact(@Č _ _ _ _ _ (@Ģ _ _ _ _ _ _ (@ĵ _ _ _ _ _ (@v_and _ _ _ _ _ _ _ _ _ (@fG _ _ _ _ _ _ _ _ _ _ _ (@aF _) (@ŝ _ hu) (@Ā _ _ _ _ _ (@PE.wk _ _ _ _ (ħ aG (by rfl) T.cT PySem.boot_len (@ğ _ _ _ _ _ _ _ (@Ă _ _ _ 0 _ _ (by rfl) (by first|exact Or.inl rfl|exact Or.inr (Or.inl rfl)|exact Or.inr (Or.inr rfl)) (by decide) (by decide)) (@Ĭ _ _ _) (by exact ĸ rfl))) (λ_ _ _ h=> @ů _ _ _ _ _ _ (@aH _) _ _ _ h))) (@Ā _ _ _ _ _ (@ă _ _ _ _ _ _)) (ĩ _)) (@mq _ _ _ _ _ _ _ (@PE.wk _ _ _ _ (ħ (@wL _ rfl) (by rfl) T.Iu PyProof.Rows.boot_all (@ğ _ _ _ _ _ _ _ (@Ā _ _ _ _ _ (@Ě _ _ _ _ _ (ű ["numbers","place"] [0] 1 (ą Oe) rfl rfl (@gw _ _ _ _ _ _ (@ŕ _ _ _ _ _ _ _ (@ĉ _ _ _ _ _ _ _ (@ă _ _ _ _ _ _) (@ĉ _ _ _ _ _ _ _ (@ă _ _ _ _ _ _) (@ĉ _ _ _ _ _ _ _ (@ă _ _ _ _ _ _) (@ĥ _ _ _) (by exact ĸ rfl)) (by exact ĸ rfl)) (by exact ĸ rfl)))) (λ_ _ _ _ _=>(@Ĝ _ _ _ 1 _ (show(["numbers","place"]:List Str).Nodup by decide +kernel) rfl (Or.inl rfl) (Or.inr rfl))) (λ_ _ _ _ _=>(@Ŝ _ _ _)) (λ_ _ _ _ _=>(@Ě _ _ _ _ _ (@đ _ _ _ _ _ _ _ _ _ _ _ _ _ _ _ _ (Ze_ T) Ċ hr.mo rfl T.bA.m T.bA.F.kp T.bA.b (@ź _ _ _) (@ė _ _ _ _ _ _ _ (@Ě _ _ _ _ _ (@cI _ _ _ _ _ _ _ _ _ _ _ (@Ă _ _ _ 0 _ _ (by rfl) (by first|exact Or.inl rfl|exact Or.inr (Or.inl rfl)|exact Or.inr (Or.inr rfl)) (by decide) (by decide)) (@bL _ _ _ _ _ (@v_var _ _ _ 1 _ _ (by rfl) (by first|exact Or.inl rfl|exact Or.inr (Or.inl rfl)|exact Or.inr (Or.inr rfl)) (by decide) (by decide))) (@bL _ _ _ _ _ (@Ě _ _ _ _ _ (@ņ _ _ _ _ _ _ _ _ _ _ _ (@Ĳ _) (@ı _) (@Ă _ _ _ 1 _ _ (by rfl) (by first|exact Or.inl rfl|exact Or.inr (Or.inl rfl)|exact Or.inr (Or.inr rfl)) (by decide) (by decide)) (@Ā _ _ _ _ _ (@ă _ _ _ _ _ _))))))) (@č _ _ _) (by exact ĸ rfl)) (by decide) (by exact ĸ rfl) (by rfl)))) ⟨rfl,⟨rfl,Or.inl rfl⟩,trivial⟩))) (@Ĭ _ _ _) (by exact ĸ rfl))) (λ_ _ _ h=> @ů _ _ _ _ _ _ (@xg _) _ _ _ h)))))))
def Qo(T:Tx K mg a):Į P w K mg base (ū P w) 4 a.Yd a.ZaF ["word","numbers"] (ŷ ⟨K,Ī a⟩ 2 gA):=by
 refine bB (cm:=Ī a) (mb:=kW) T.cB.F ZcI rfl rfl rfl λcdv A outer s H E hr=>?_
 have hu:=hr.units
 exact(ċ (Ÿ (PW.pt (w_and (œ aF (ŝ hu) (Ă 0) (Ā Ŵ) (ĩ _)) (jY (dg (Ā (Ě (đ (Zdj T) Ċ hr.mo rfl T.fW.m T.fW.F.kp T.fW.b ġ (Ć 1 (hr:=č)))))))))
  (Č (Ģ (ĵ (mV T.Zcb (Ql T) dF hr.mo rfl (Z2l T) T.Ŋ.b ġ (Ć 0 (hr:=(Ć 1 (hr:=č))))))))
  Ń)
  (ċ (Ÿ (PW.pt (w_and (œ aF (ŝ hu) (Ă 0) (Ā Ŵ) (ĩ _)) (jY (dg (Ā (Ě (đ (Zdk T) Ċ hr.mo rfl T.dU.m T.dU.F.kp T.dU.b ġ (Ć 1 (hr:=č)))))))))
  (Č (Ģ (ĵ (mV T.Tt (JM T) dF hr.mo rfl (Z1N T) T.Ŋ.b ġ (Ć 0 (hr:=(Ć 1 (hr:=č))))))))
  Ń)
  (ċ (Ÿ (PW.pt (w_and (œ aF (ŝ hu) (Ă 0) (Ā Ŵ) (ĩ _)) (jY (dg (Ā (Ě (đ (ZaM T) Ċ hr.mo rfl T.Ō.m T.Ō.F.kp T.Ō.b ġ (Ć 1 (hr:=č)))))))))
  (Č (Ģ (ĵ (mV T.Zcc (Qm T) dF hr.mo rfl (Z2m T) T.Ŋ.b ġ (Ć 0 (hr:=(Ć 1 (hr:=č))))))))
  Ń)
  (ċ (Ÿ (PW.pt (w_and (œ aF (ŝ hu) (Ă 0) (Ā Ŵ) (ĩ _)) (jY (dg (Ā (Ě (đ (Zdl T) Ċ hr.mo rfl T.dW.m T.dW.F.kp T.dW.b ġ (Ć 1 (hr:=č)))))))))
  (Č (Ģ (ĵ (mV T.Tw (JN T) dF hr.mo rfl (Z1O T) T.Ŋ.b ġ (Ć 0 (hr:=(Ć 1 (hr:=č))))))))
  Ń)
  (ċ (Ÿ (PW.pt (w_and (œ aF (ŝ hu) (Ă 0) (Ā Ŵ) (ĩ _)) (jY (dg (Ā (Ě (đ (ZaM T) Ċ hr.mo rfl T.Ō.m T.Ō.F.kp T.Ō.b ġ (Ć 1 (hr:=č)))))))))
  (Č (Ģ (ĵ (mV T.Tz (JQ T) dF hr.mo rfl (Z1P T) T.Ŋ.b ġ (Ć 0 (hr:=(Ć 1 (hr:=č))))))))
  Ń)
  (Č (Aj (C:= "BadThing") rfl rfl qY rfl (Z0L T) T.FQ)))))))
def Zdm(T:Tx K mg a):Į P w K mg base (ū P w) 1 a.Ye a.ZaG ["_law_cell"] (ŷ ⟨K,Ī a⟩ 1 wj):=by
 refine bB (cm:=Ī a) (mb:=tW) T.fX.F ZcJ rfl rfl rfl λcdv A outer s H E hr=>?_
 have hu:=hr.units
 exact(Č (Ģ (ĵ (Ğ Đ ď (Ā (Ě (aq (ĉ (ĕ Ľ Ļ (Ā (ĕ aC Ţ (Ă 0) (Ā ă))) (Ā ă)) (ĉ (ĕ Ľ Ļ (Ā (ĕ aC Ţ (Ă 0) (Ā ă))) (Ā ă)) (ĉ (ĕ Ľ Ļ (Ā (ĕ aC Ţ (Ă 0) (Ā ă))) (Ā (Ě (ņ Ĳ ı (Ā (ĕ oV oN (Ā ă) (Ā ă))) (Ā ă))))) ĥ)))))) (Ā (ĕ Ľ Ļ (Ă 0) (Ā ă))) (λ_ _=>rfl)))))
def Zdn(T:Tx K mg a):Į P w K mg base (ū P w) 11 a.Yg a.Oz ["_law_script"] (ŷ ⟨K,Ī a⟩ 1 wu):=by
 refine bB (cm:=Ī a) (mb:=Fv) T.OJ.F fC rfl rfl rfl λcdv A outer s H E hr=>?_
 have hu:=hr.units
 exact(ċ (ī (i:=1) fC.nd rfl (by first|exact Or.inl rfl|exact Or.inr rfl) (đ (ZcK T) Ċ hr.mo rfl T.gQ.m T.gQ.F.kp T.gQ.b ġ (ė (Ě (đ (nq T) Ċ hr.mo rfl T.Ņ.m T.Ņ.F.kp T.Ņ.b ġ (Ć 0 (hr:=(ė ă č))))) (ė ă č))))
  (ċ (jo (i:=2) fC.nd rfl rfl ["_law_size_here","_law_cell"] [1] 1 (ą Bd) rfl rfl (gw (Ě (cI (Ă 0) (bL ă) (bL ă)))) (λ_ _ _ _ _=>(Ĝ (i:=1) (show(["_law_size_here","_law_cell"]:List Str).Nodup by decide +kernel) rfl (Or.inl rfl) (hf:=Or.inr rfl))) (λ_ _ _ _ _=>Ŝ) (λ_ _ _ _ _=>(Ě (đ (Qg T) Ċ hr.mo rfl T.aL.m T.aL.F.kp T.aL.b ź (Ć 1 (hr:=(ė (PE.wk (ħ (xP rfl) (by rfl) T.BJ PyProof.Rows.boot_max (ğ (Ă 0) Ĭ)) λ_ _ _ h=>ů xQ h) č)))))) ⟨rfl,⟨rfl,Or.inl rfl⟩,trivial⟩)
  (ċ (ī (i:=3) fC.nd rfl (Or.inl rfl) (đ (ZcM T) Ċ hr.mo rfl T.gR.m T.gR.F.kp T.gR.b ġ (Ć 0 (hr:=(ė ă (ė (Ě (ņ Ĳ ı (Ā ă) (Ā (ĕ Ľ Ļ (Ā (Ě (đ (nq T) Ċ hr.mo rfl T.Ņ.m T.Ņ.F.kp T.Ņ.b ġ (Ć 0 (hr:=(ė ă č)))))) (Ā ă))))) (ė ă č)))))))
  (ċ (ī (i:=4) fC.nd rfl (Or.inl rfl) (ĵ (mV T.Pa (BR T) dF hr.mo rfl (Z0O T) T.fB.b ġ (ė (Ğ Đ ď (Ă 1) (Ā ă) (λ_ _=>rfl)) (ė (Ğ Đ ď (Ă 1) (Ā ă) (λ_ _=>rfl)) (ė (Ě (ű ["_law_word","_law_some"] [] 2 (ą Bd) rfl rfl (Ź 2) (λ_ _ _ _ _=>(iU rfl (Ĵ (Ĝ (i:=0) (show(["_law_word","_law_some"]:List Str).Nodup by decide +kernel) rfl (Or.inl rfl) (hf:=Or.inr rfl)) (Ĵ (Ĝ (i:=1) (show(["_law_word","_law_some"]:List Str).Nodup by decide +kernel) rfl (Or.inl rfl) (hf:=Or.inr rfl)) bG)))) (λ_ _ _ _ _=>Ŝ) (λ_ _ _ _ _=>(Ě (đ (Qo T) Ċ hr.mo rfl T.cB.m T.cB.F.kp T.cB.b ź (Ć 0 (hr:=(ė (Ě (PE.wk (aA fL (by rfl) T.iB PyProof.Rows.boot_list (ğ (Ă 1) Ĭ)) λ_ _ _ h=>wQ fM h)) č)))))) trivial)) (Ć 3 (hr:=č))))))))
  (ċ (ī (i:=5) fC.nd rfl (Or.inl rfl) (aq ĥ))
  (ċ (bJ PassesOwn.leaving rfl (ŧ rfl T.aO (ĉ (Ě (ņ Ĳ ı (Ā ă) (Ā (ĕ Ľ Ļ (Ā (ĕ aC Ţ (Ā (Ě (đ (nq T) Ċ hr.mo rfl T.Ņ.m T.Ņ.F.kp T.Ņ.b ġ (Ć 0 (hr:=(ė ă č)))))) (Ā ă))) (Ā ă))))) ĥ)) (Ĝ (i:=6) fC.nd rfl (Or.inl rfl))
  (ċ (Hi (Ě (đ (Qg T) Ċ hr.mo rfl T.aL.m T.aL.F.kp T.aL.b ġ (ė (ĕ aC Ţ (Ā (Ě (đ (nq T) Ċ hr.mo rfl T.Ņ.m T.Ņ.F.kp T.Ņ.b ġ (Ć 0 (hr:=(ė (Ě (ņ Ĳ ı (Ā ă) (Ă 6))) č)))))) (Ā ă)) (ė (PE.wk (ħ (xP rfl) (by rfl) T.BJ PyProof.Rows.boot_max (ğ (Ă 1) Ĭ)) λ_ _ _ h=>ů xQ h) č)))) (HJ rfl (Ĵ (Ĝ (i:=10) fC.nd rfl (Or.inl rfl)) (Ĵ (Ĝ (i:=9) fC.nd rfl (Or.inl rfl)) bG))))
  (Č (PS.wk (dH (nD PySem.F.plainAttrs_list PySem.F.slot_list_append PySem.F.type_list_append bO (pv 5) (ĉ (ŕ (ĉ (Ě (đ (Qo T) Ċ hr.mo rfl T.cB.m T.cB.F.kp T.cB.b ġ (Ć 10 (hr:=(ė (Ě (PE.wk (aA fL (by rfl) T.iB PyProof.Rows.boot_list (ğ (Ă 9) Ĭ)) λ_ _ _ h=>wQ fM h)) č))))) (ĉ (Ě (đ (Zdm T) Ċ hr.mo rfl T.fX.m T.fX.F.kp T.fX.b ġ (ė (Ě (đ (nq T) Ċ hr.mo rfl T.Ņ.m T.Ņ.F.kp T.Ņ.b ġ (Ć 0 (hr:=(ė (Ě (ņ Ĳ ı (Ā ă) (Ă 6))) č))))) č))) ĥ))) ĥ))) λ_ _ _ h=>jh h))))
  (ċ (ī (i:=7) fC.nd rfl (Or.inl rfl) (đ (ZcN T) Ċ hr.mo rfl T.fO.m T.fO.F.kp T.fO.b ġ (ė (Ě (cI (Ā (Ě (ņ Ĳ ı (Ā (Ě (cI (Ă 0) (bL ă) (bL ă)))) (Ā (Ě (aq (ĉ ă ĥ))))))) rY (bL ă))) (Ć 1 (hr:=(Ć 3 (hr:=č)))))))
  (ċ (ī (i:=8) fC.nd rfl (Or.inl rfl) (đ (Zdf T) Ċ hr.mo rfl T.gZ.m T.gZ.F.kp T.gZ.b ġ (Ć 4 (hr:=(Ć 5 (hr:=(Ć 7 (hr:=č))))))))
  (ċ (Ÿ (œ aF (ŝ hu) (Ā (Ğ Đ ď (Ă 8) (Ā ă) (λ_ _=>rfl))) (Ā Ŵ) (ĩ _))
  (Č (Ģ (đ (Ze9 T) Ċ hr.mo rfl T.aN.m T.aN.F.kp T.aN.b ġ (Ć 4 (hr:=(Ć 5 (hr:=(Ć 7 (hr:=(Ć 8 (hr:=č)))))))))))
  Ń)
  (ċ (Ÿ (PW.pt (w_or (œ kJ (gb hu) (Ā (Ğ Đ ď (Ă 8) (Ā ă) (λ_ _=>rfl))) (Ā Ŵ) (ĩ _)) (vg (œ kJ (gb hu) (Ā (PE.wk (ħ aG (by rfl) T.cT PySem.boot_len (ğ (Ă 8) Ĭ)) λ_ _ _ h=>ů aH h)) (Ā ă) (ĩ _)))))
  (Č (Ģ (ĵ wO)))
  Ń)
  (ċ (jo (i:=9) fC.nd rfl rfl ["_law_one"] [] 1 (ą Bd) rfl rfl (Ź 5) (λ_ _ _ _ _=>(Ĝ (i:=0) (show(["_law_one"]:List Str).Nodup by decide +kernel) rfl (Or.inl rfl) (hf:=Or.inr rfl))) (λ_ _ _ _ _=>Ŝ) (λ_ _ _ _ _=>(Ğ Đ ď (Ă 0) (Ā ă) (λ_ _=>rfl))) trivial)
  (Č (Ģ (ĵ (v_and (fG rW wG (Ā (Ğ Đ ď (Ă 8) (Ā ă) (λ_ _=>rfl))) (Ā jA) (ĩ _)) (mq (fG aF (ŝ hu) (Ā (Ğ Đ ď (Ă 8) (Ā ă) (λ_ _=>rfl))) (Ā (Ě (đ (Qj T) Ċ hr.mo rfl T.aM.m T.aM.F.kp T.aM.b ġ (Ć 4 (hr:=(Ć 9 (hr:=(Ć 7 (hr:=č))))))))) (ĩ _))))))))))))))))))
end
def pt(p:Hu.Pt):PV:=.tup [.int p.1,.int p.2]
def gD(l:Hu.Ln):PV:=.tup [.int l.1,.int l.2.1,.int l.2.2]
def Sm(p:Hu.Pt):Prop:=-100000000000000000<=p.1/\p.1<=100000000000000000/\ -100000000000000000<=p.2/\p.2<=100000000000000000
def SmL(l:Hu.Ln):Prop:=-1000000000000000000<=l.1/\l.1<=1000000000000000000/\ -1000000000000000000<=l.2.1/\l.2.1<=1000000000000000000
def Z0l{x y:Hu.Pt}:eqB (pt y) (pt x)=decide (y=x):=by
 obtain⟨a,b⟩:=x
 obtain⟨c,d⟩:=y
 unfold pt
 rw[ZbU,Bool.eq_iff_iff]
 simp
def ZP(x:Hu.Pt):dB (pt x)=true:=by simp[pt,dB,ji]
def ZG(x:Hu.Pt):dep (pt x)=1:=by simp[pt,dep,Dk]
def Z2N(S:List Hu.Pt):ji (S.map pt)=true:=by
 induction S with
 |nil=>simp[ji]
 |cons p S ih=>simp[ji,ZP,ih]
theorem Z1n(x:Hu.Pt):∀k:List Hu.Pt,(k.map pt).any (λy=>eqB y (pt x))=decide (x∈k)
 | []=>by simp
 |y::k=>by
  rw[List.map_cons,List.any_cons,Z1n x k,Z0l,Bool.eq_iff_iff]
  simp
  constructor
  ·rintro (e|e)
   ·exact .inl e.symm
   ·exact .inr e
  ·rintro (e|e)
   ·exact .inl e.symm
   ·exact .inr e
def Z0m(x:Hu.Pt)(k:List Hu.Pt):inD true (pt x) (.lst (k.map pt))=some (.bl (!decide (x∈k))):=by
 unfold inD
 simp only[ZP,Z2N,ZG,Z1n]
 rfl
def Z11(x y:Hu.Pt):dD (pt x) (pt y)=some (.bl (!decide (x=y))):=by
 unfold dD wX
 rw[ZP,ZP,ZG,ZG,Z0l]
 rfl
def Z2n{a b:Hu.Pt}(ha:Sm a)(hb:Sm b):Ii [.sh (pt a),.sh (pt b)]=.ret (.sh (gD (Hu.Z4 a b))):=by
 obtain⟨a1,a2,a3,a4⟩:=ha
 obtain⟨b1,b2,b3,b4⟩:=hb
 have m1:Ť (b.2-a.2) a.1=true:=cJ (by omega) (by omega)
 have m2:Ť (a.1-b.1) a.2=true:=cJ (by omega) (by omega)
 simp[Ii,Ej,List.replicate,pt,gD,Hu.Z4,m1,m2]
def Z0n{l:Hu.Ln}(hl:SmL l)(p:Hu.Pt):sZ [.sh (gD l),.sh (pt p)]=.ret (.sh (.bl (Hu.hd l p))):=by
 obtain⟨a1,a2,a3,a4⟩:=hl
 have m1:Ť l.1 p.1=true:=cJ (by omega) (by omega)
 have m2:Ť l.2.1 p.2=true:=cJ (by omega) (by omega)
 simp[sZ,Ek,List.replicate,pt,gD,Hu.hd,m1,m2]
def Z0P{a b:Hu.Pt}(ha:Sm a)(hb:Sm b):SmL (Hu.Z4 a b):=by
 obtain⟨a1,a2,a3,a4⟩:=ha
 obtain⟨b1,b2,b3,b4⟩:=hb
 simp only[SmL,Hu.Z4]
 omega
def Sl(s:P.Slot)(ps:List PV):Prop:=s=.sh (.lst ps)\/s=.bw ps
def Sl.lend{s:P.Slot}{ps:List PV}(h:Sl s ps):iQ s=some s:=by rcases h with rfl|rfl<;>rfl
def Sl.it{s:P.Slot}{ps:List PV}(h:Sl s ps){i:Nat}{ρ:Ş}(e:ρ[i]?=some s):ř i ρ=.ok ps ρ:= by
 rcases h with rfl|rfl<;>simp[e]
def Z2o{S:List Hu.Pt}{sl:P.Slot}(hs:Sl sl (S.map pt))(hl:S.length<=1000):Ih [sl]=.ret (.ow ((Hu.Z3 S).map pt)):=by
 have hlen:∀(xs k:List Hu.Pt),(xs.foldl (λk x=>if x∈k then k else k ++ [x]) k).length<=k.length+xs.length:=by
  intro xs
  induction xs with
  |nil=>intro k;simp
  |cons x xs ih=>
   intro k
   rw[List.foldl_cons]
   refine Nat.le_trans (ih _) ?_
   split
   ·simp
   ·simp;omega
 have key:∀(xs:List Hu.Pt) (k:List Hu.Pt) (s2:P.Slot),k.length+xs.length<=1000->∃s2',forL (gN 2) pF (xs.map pt) [sl,.ow (k.map pt),s2]=.ok .nx [sl,.ow ((xs.foldl (λk x=>if x∈k then k else k ++ [x]) k).map pt),s2']:=by
  intro xs
  induction xs with
  |nil=>intro k s2 _;exact⟨s2,rfl⟩
  |cons x xs ih=>
   intro k s2 hk
   rw[List.length_cons] at hk
   by_cases hx:x∈k
   ·obtain⟨s2',e⟩:=ih k (.sh (pt x)) (by omega)
    refine⟨s2',?_⟩
    have hb:pF [sl,.ow (k.map pt),.sh (pt x)]=.ok .nx [sl,.ow (k.map pt),.sh (pt x)]:=by simp[pF,Z0m,hx]
    rw[List.map_cons,List.foldl_cons,if_pos hx,forL]
    simp[hb,e]
   ·obtain⟨s2',e⟩:=ih (k ++ [x]) (.sh (pt x)) (by simp;omega)
    refine⟨s2',?_⟩
    have h3:k.length<16777216:=by omega
    have hb:pF [sl,.ow (k.map pt),.sh (pt x)]=.ok .nx [sl,.ow ((k ++ [x]).map pt),.sh (pt x)]:=by simp[pF,Z0m,hx,h3]
    rw[List.map_cons,List.foldl_cons,if_neg hx,forL]
    simp only[Mh,List.set_cons_succ,List.set_cons_zero,hb,Res.cH]
    exact e
 obtain⟨s2,e⟩:=key S [] .no (by simpa using hl)
 have hit:=hs.it (i:=0) (ρ:= [sl,.ow [],.no]) rfl
 simp only[List.map_nil] at e
 simp[Ih,Ei,List.replicate,-Dp,hit,e]
 rfl
def Z1o(x:Int)(l:List Int):kO [.lst ((x::l).map .int)]=some (.int (Hu.mx (x::l))):=by
 show((intsOf ((x::l).map .int)).bind (best max)).map PV.int=_
 rw[mW]
 rfl
def Z1p(x:Int)(l:List Int):vB [.lst ((x::l).map .int)]=some (.int (Hu.mn (x::l))):=by
 show((intsOf ((x::l).map .int)).bind (best min)).map PV.int=_
 rw[mW]
 rfl
def Z2O{S:List Hu.Pt}{sl:P.Slot}(hs:Sl sl (S.map pt))(h0:S≠[])(hl:S.length<=1000):Ig [sl]=.ret (.ow ((Hu.box S).map gD)):=by
 have c1:Ŕ (gN 0) Ŏ (ć Ę (ā 0) (mC (.int 0))) (S.map pt) [.no] []=some ((S.map (·.1)).map .int):=by
  have:=ŉ (g:=gN 0) (mt:=Ŏ) (me:=ć Ę (ā 0) (mC (.int 0))) pt (λp=>.int p.1) (λρ=>∃s,ρ=[s]) S [.no] [] ⟨_,rfl⟩ (by simp;omega) (by
   rintro x hx ρ ⟨s,rfl⟩
   exact⟨[.sh (pt x)],[.sh (pt x)],[.sh (pt x)],by simp,by simp,by simp[pt],_,rfl⟩)
  rw[this]
  simp
 have c2:Ŕ (gN 0) Ŏ (ć Ę (ā 0) (mC (.int 1))) (S.map pt) [.no] []=some ((S.map (·.2)).map .int):=by
  have:=ŉ (g:=gN 0) (mt:=Ŏ) (me:=ć Ę (ā 0) (mC (.int 1))) pt (λp=>.int p.2) (λρ=>∃s,ρ=[s]) S [.no] [] ⟨_,rfl⟩ (by simp;omega) (by
   rintro x hx ρ ⟨s,rfl⟩
   exact⟨[.sh (pt x)],[.sh (pt x)],[.sh (pt x)],by simp,by simp,by simp[pt],_,rfl⟩)
  rw[this]
  simp
 obtain⟨p,R,rfl⟩:=List.exists_cons_of_ne_nil h0
 have x1:=Z1o p.1 (R.map (·.1))
 have x2:=Z1p p.1 (R.map (·.1))
 have x3:=Z1o p.2 (R.map (·.2))
 have x4:=Z1p p.2 (R.map (·.2))
 have hit:∀s1 s2,ř 0 [sl,s1,s2]=.ok ((p::R).map pt) [sl,s1,s2]:=λs1 s2=>hs.it rfl
 have b:(Hu.box (p::R)).map gD=[.tup [.int 1,.int 0,.int (Hu.mx (p.1::R.map (·.1)))],.tup [.int (-1),.int 0,.int (- Hu.mn (p.1::R.map (·.1)))],.tup [.int 0,.int 1,.int (Hu.mx (p.2::R.map (·.2)))],.tup [.int 0,.int (-1),.int (- Hu.mn (p.2::R.map (·.2)))]]:=rfl
 rw[b]
 generalize (p::R).map pt=ps at hit c1 c2
 rw[List.map_cons] at c1 c2
 generalize (p.1::R.map (·.1)).map PV.int=us at c1 x1 x2
 generalize (p.2::R.map (·.2)).map PV.int=vs at c2 x3 x4
 simp[Ig,Eh,List.replicate,-Dp,-Sx,-Sy,hit,c1,c2,x1,x2,x3,x4]
theorem Z0b:∀l:List Bool,boolsOf (l.map .bl)=some l
 | []=>rfl
 |x::l=>by rw[List.map_cons,boolsOf,Z0b l];rfl
def Z1q(l:List Bool):wZ [.lst (l.map .bl)]=some (.bl (l.all id)):=by
 show(boolsOf (l.map .bl)).map (λbs=>PV.bl (bs.all id))=_
 rw[Z0b]
 rfl
def ZA(S:List Hu.Pt):(Hu.Z3 S).length<=S.length:=by
 have:∀(xs k:List Hu.Pt),(xs.foldl (λk x=>if x∈k then k else k ++ [x]) k).length<=k.length+xs.length:=by
  intro xs
  induction xs with
  |nil=>intro k;simp
  |cons x xs ih=>
   intro k
   rw[List.foldl_cons]
   refine Nat.le_trans (ih _) ?_
   split
   ·simp
   ·simp;omega
 have h:=this S []
 rw[List.length_nil,Nat.zero_add] at h
 exact h
def Z1r{S:List Hu.Pt}(hS:∀p∈S,Sm p)(hl:S.length<=1000){a b:Hu.Pt}(ha:a∈S)(hb:b∈S)(s0 s5:P.Slot)(L:List Hu.Ln)(hL:L.length<16777216) :
 pG [s0,.ow (L.map gD),.sh (.lst ((Hu.Z3 S).map pt)),.sh (pt a),.sh (pt b),s5]=.ok .nx [s0,.ow ((L++(if a≠b/\(Hu.Z3 S).all (Hu.hd (Hu.Z4 a b)) then[Hu.Z4 a b] else[])).map gD),.sh (.lst ((Hu.Z3 S).map pt)),.sh (pt a),.sh (pt b),.sh (gD (Hu.Z4 a b))]:=by
 have hsm:=Z0P (hS a ha) (hS b hb)
 have c1:Ŕ (gN 1) Ŏ (Ė (Ē sZ (Ą 0 (Ą 1 Ď)))) ((Hu.Z3 S).map pt) [.sh (gD (Hu.Z4 a b)),.no] []=some (((Hu.Z3 S).map (Hu.hd (Hu.Z4 a b))).map .bl):=by
  have hlen:(Hu.Z3 S).length<=16777216:=by have:=ZA S;omega
  have:=ŉ (g:=gN 1) (mt:=Ŏ) (me:=Ė (Ē sZ (Ą 0 (Ą 1 Ď)))) pt (λp=>.bl (Hu.hd (Hu.Z4 a b) p)) (λρ=>∃s,ρ=[.sh (gD (Hu.Z4 a b)),s]) (Hu.Z3 S) [.sh (gD (Hu.Z4 a b)),.no] [] ⟨_,rfl⟩ (by simpa using hlen) (by
   rintro x hx ρ ⟨s,rfl⟩
   exact⟨[.sh (gD (Hu.Z4 a b)),.sh (pt x)],[.sh (gD (Hu.Z4 a b)),.sh (pt x)],[.sh (gD (Hu.Z4 a b)),.sh (pt x)],by simp,by simp,by simp[Z0n hsm],_,rfl⟩)
  rw[this]
  simp
 have c2:=Z1q ((Hu.Z3 S).map (Hu.hd (Hu.Z4 a b)))
 have e1:=Z2n (hS a ha) (hS b hb)
 have e3:((Hu.Z3 S).map (Hu.hd (Hu.Z4 a b))).all id=(Hu.Z3 S).all (Hu.hd (Hu.Z4 a b)):=by simp
 rw[e3] at c2
 generalize ((Hu.Z3 S).map (Hu.hd (Hu.Z4 a b))).map PV.bl=bs at c1 c2
 by_cases h1:a=b
 ·subst h1
  simp[pG,e1,Z11]
 ·by_cases h2:(Hu.Z3 S).all (Hu.hd (Hu.Z4 a b))=true
  ·rw[h2] at c2
   simp[pG,e1,Z11,h1,c1,c2,h2,hL,-List.all_eq_true]
  ·rw[Bool.not_eq_true] at h2
   rw[h2] at c2
   simp[pG,e1,Z11,h1,c1,c2,h2,hL,-List.all_eq_true,-List.all_eq_false]
def Z1Q{S:List Hu.Pt}(hS:∀p∈S,Sm p)(hl:S.length<=1000){a:Hu.Pt}(ha:a∈S)(s0:P.Slot):∀(xs:List Hu.Pt) (L:List Hu.Ln) (s4 s5:P.Slot),(∀x∈xs,x∈S)->L.length+xs.length<16777216->
 ∃Qy Um,forL (gN 4) pG (xs.map pt) [s0,.ow (L.map gD),.sh (.lst ((Hu.Z3 S).map pt)),.sh (pt a),s4,s5]=.ok .nx [s0,.ow ((L++xs.filterMap λb=>if a≠b/\(Hu.Z3 S).all (Hu.hd (Hu.Z4 a b)) then some (Hu.Z4 a b) else none).map gD),.sh (.lst ((Hu.Z3 S).map pt)),.sh (pt a),Qy,Um]:=by
 intro xs
 induction xs with
 |nil=>intro L s4 s5 _ _;exact⟨s4,s5,by simp[forL]⟩
 |cons b xs ih=>
  intro L s4 s5 hx hL
  rw[List.length_cons] at hL
  have hb:=Z1r hS hl ha (hx b (by simp)) s0 s5 L (by omega)
  obtain⟨Qy,Um,e⟩:=ih (L++(if a≠b/\(Hu.Z3 S).all (Hu.hd (Hu.Z4 a b)) then[Hu.Z4 a b] else[])) (.sh (pt b)) (.sh (gD (Hu.Z4 a b))) (λx h=>hx x (List.mem_cons_of_mem _ h)) (by
   rw[List.length_append]
   split
   ·simp;omega
   ·simp;omega)
  refine⟨Qy,Um,?_⟩
  rw[List.map_cons,forL]
  simp only[Mh,List.set_cons_succ,List.set_cons_zero,hb,Res.cH]
  rw[e,List.filterMap_cons]
  by_cases hc:a≠b/\(Hu.Z3 S).all (Hu.hd (Hu.Z4 a b))=true
  ·rw[if_pos hc,if_pos hc]
   simp only[List.append_assoc,List.cons_append,List.nil_append]
  ·rw[if_neg hc,if_neg hc]
   simp only[List.append_nil]
def ZE{α β:Type}(f:α->Option β)(l:List α):(l.filterMap f).length<=l.length:=List.length_filterMap_le ..
def Z1R{S:List Hu.Pt}(hS:∀p∈S,Sm p)(hl:S.length<=1000)(s0:P.Slot):∀(xs:List Hu.Pt) (L:List Hu.Ln) (s3 s4 s5:P.Slot),(∀x∈xs,x∈S)->L.length+xs.length*1000<10000000->
 ∃s3' Qy Um,forL (gN 3) yE (xs.map pt) [s0,.ow (L.map gD),.sh (.lst ((Hu.Z3 S).map pt)),s3,s4,s5]=.ok .nx [s0,.ow ((L++xs.flatMap λa=>(Hu.Z3 S).filterMap λb=>if a≠b/\(Hu.Z3 S).all (Hu.hd (Hu.Z4 a b)) then some (Hu.Z4 a b) else none).map gD),.sh (.lst ((Hu.Z3 S).map pt)),s3',Qy,Um]:=by
 intro xs
 induction xs with
 |nil=>intro L s3 s4 s5 _ _;exact⟨s3,s4,s5,by simp[forL]⟩
 |cons a xs ih=>
  intro L s3 s4 s5 hx hL
  rw[List.length_cons] at hL
  have ho:=ZA S
  obtain⟨a4,a5,e1⟩:=Z1Q hS hl (hx a (by simp)) s0 (Hu.Z3 S) L s4 s5 (λx h=>Hu.Zk.mp h) (by omega)
  have hf:=ZE (λb=>if a≠b/\(Hu.Z3 S).all (Hu.hd (Hu.Z4 a b))=true then some (Hu.Z4 a b) else none) (Hu.Z3 S)
  obtain⟨s3',Qy,Um,e2⟩:=ih (L++(Hu.Z3 S).filterMap λb=>if a≠b/\(Hu.Z3 S).all (Hu.hd (Hu.Z4 a b))=true then some (Hu.Z4 a b) else none) (.sh (pt a)) a4 a5 (λx h=>hx x (List.mem_cons_of_mem _ h)) (by rw[List.length_append];omega)
  refine⟨s3',Qy,Um,?_⟩
  have hb:yE [s0,.ow (L.map gD),.sh (.lst ((Hu.Z3 S).map pt)),.sh (pt a),s4,s5]=.ok .nx [s0,.ow ((L++(Hu.Z3 S).filterMap λb=>if a≠b/\(Hu.Z3 S).all (Hu.hd (Hu.Z4 a b))=true then some (Hu.Z4 a b) else none).map gD),.sh (.lst ((Hu.Z3 S).map pt)),.sh (pt a),a4,a5]:=by
   unfold yE
   simp only[ZbI,Dp,List.getElem?_cons_succ,List.getElem?_cons_zero,Res.cH]
   exact e1
  rw[List.map_cons,forL]
  simp only[Mh,List.set_cons_succ,List.set_cons_zero,hb,Res.cH]
  rw[e2,List.flatMap_cons,List.append_assoc]
def Z1S{S:List Hu.Pt}{sl:P.Slot}(hs:Sl sl (S.map pt))(hS:∀p∈S,Sm p)(hl:S.length<=1000):Ij [sl]=.ret (.ow ((Hu.Zw S).map gD)):=by
 have h1:=Z2o hs hl
 have ho:=ZA S
 obtain⟨s3,s4,s5,e⟩:=Z1R hS hl sl (Hu.Z3 S) [] .no .no .no (λx h=>Hu.Zk.mp h) (by simp;omega)
 have he:[]++((Hu.Z3 S).flatMap λa=>(Hu.Z3 S).filterMap λb=>if a≠b/\(Hu.Z3 S).all (Hu.hd (Hu.Z4 a b))=true then some (Hu.Z4 a b) else none)=Hu.Zw S:=rfl
 rw[he] at e
 generalize Hu.Zw S=ed at e
 generalize (Hu.Z3 S).map pt=os at e h1
 simp only[List.map_nil] at e
 simp[Ij,El,List.replicate,hs.lend,h1,e]
def Z1s(S:List Hu.Pt)(hl:S.length<=1000):(Hu.Zw S).length<=1000000:=by
 have ho:=ZA S
 have:∀(xs:List Hu.Pt) (f:Hu.Pt->List Hu.Ln),(∀x,(f x).length<=1000)->(xs.flatMap f).length<=xs.length*1000:=by
  intro xs f hf
  induction xs with
  |nil=>simp
  |cons x xs ih=>rw[List.flatMap_cons,List.length_append,List.length_cons];have:=hf x;omega
 refine Nat.le_trans (this (Hu.Z3 S) _ λx=>Nat.le_trans (ZE _ _) (by omega)) (by omega)
def Z0o{S:List Hu.Pt}{sl:P.Slot}(hs:Sl sl (S.map pt))(hS:∀p∈S,Sm p)(h0:S≠[])(hl:S.length<=1000):Bk [sl]=.ret (.ow ((Hu.Zi S).map gD)):=by
 have h1:=Z2O hs h0 hl
 have h2:=Z1S hs hS hl
 have h3:Ķ (.lst ((Hu.box S).map gD)) (.lst ((Hu.Zw S).map gD))=some (.ow ((Hu.Zi S).map gD)):=by
  rw[add_l (by have:=Z1s S hl;simp[Hu.box];omega),<-List.map_append]
  rfl
 simp[Bk,Em,List.replicate,hs.lend,h1,h2,h3]
def Z1t{S:List Hu.Pt}{l:Hu.Ln}(h:l∈Hu.Zi S)(hS:∀p∈S,Sm p):SmL l:=by
 rcases List.mem_append.mp h with h|h
 ·unfold Hu.box at h
  simp only[List.mem_cons,List.not_mem_nil,or_false] at h
  rcases h with e|e|e|e<;>subst e<;>simp only[SmL]<;>omega
 ·obtain⟨a,ha,b,hb,_,_,rfl⟩:=Hu.Z1l.mp h
  exact Z0P (hS a ha) (hS b hb)
def Z12(n:Nat):kj 0 n 1=(List.range n).map λ(i:Nat)=>PV.int (i:Int):=by
 unfold kj
 refine List.map_congr_left λi _=>?_
 simp
def Zp{n:Nat}(h:n<=1000):bT [.int (n:Int)]=some ((List.range n).map λ(i:Nat)=>PV.int (i:Int)):=by
 have hs:rP (n:Int)=true:=by unfold rP;simp;omega
 unfold bT
 simp[hs,Z12]
def SlT(s:P.Slot)(ps:List PV):Prop:=s=.sh (.lst ps)\/s=.bw ps
def cD(x:Int):Bool:=decide (-1000000000<=x/\x<=1000000000)
def BZ(x:Int):Bool:=decide (1<=x/\x<=1000000000)
def B_(x:Int):Bool:=decide (0<=x/\x<=1000000000)
def ZY(x:Int):qt [.sh (.int x)]=.ret (.sh (.bl (cD x))):=by
 unfold cD
 by_cases h1: -1000000000<=x<;>by_cases h2:x<=1000000000<;>simp[qt,Fq,List.replicate,h1,h2]
def Z0c(x:Int):Bu [.sh (.int x)]=.ret (.sh (.bl (BZ x))):=by
 unfold BZ
 by_cases h1:1<=x<;>by_cases h2:x<=1000000000<;>simp[Bu,Ft,List.replicate,h1,h2]
def Zg:List Int->Bool
 | [p,q,h]=>cD p && cD q && BZ h
 |_=>false
def Zh:List Int->Bool
 | [x,y,u,v,h]=>cD x && cD y && cD u && cD v && BZ h
 |_=>false
def Ze:List Int->Bool
 | [x,y,u,v,h]=>Zh [x,y,u,v,h] && !(decide (x=u) && decide (y=v))
 |_=>false
def Z9:List Int->Bool
 | [x,y,u,v,h]=>Zh [x,y,u,v,h] && decide (x<u) && decide (y<v)
 |_=>false
def Zf:List Int->Bool
 | [a,b,c,d,e,f,g,h,i]=>cD a && cD b && B_ c && (cD d && cD e && B_ f) && (cD g && cD h && B_ i)
 |_=>false
def Z2P(a b c:Bool):wZ [.lst [.bl a,.bl b,.bl c]]=some (.bl (a && b && c)):=by cases a<;>cases b<;>cases c<;>rfl
def Z2Q(a b c d:Bool):wZ [.lst [.bl a,.bl b,.bl c,.bl d]]=some (.bl (a && b && c && d)):=by cases a<;>cases b<;>cases c<;>cases d<;>rfl
def Z0i{xs:List Int}{sl:P.Slot}(hs:SlT sl (xs.map .int)):Bv [sl]=.ret (.sh (.bl (Zg xs))):=by
 by_cases hl:xs.length=3
 ·match xs,hl with
  | [a,b,c],_=>
    have h:Zg [a,b,c]=(cD a && cD b && BZ c):=rfl
    rw[h]
    rcases hs with rfl|rfl<;>cases ea:cD a<;>cases eb:cD b<;>cases ec:BZ c<;>simp[Bv,yZ,List.replicate,ZY,Z0c,ea,eb,ec]
 ·have h:Zg xs=false:=by
   unfold Zg
   split
   ·simp at hl
   ·rfl
  rw[h]
  have hl':¬((xs.length:Nat):Int)=3:=by omega
  rcases hs with rfl|rfl<;>simp[Bv,yZ,List.replicate,hl']
def Z0Q{xs:List Int}{sl:P.Slot}(hs:SlT sl (xs.map .int)):wg [sl]=.ret (.sh (.bl (Zh xs))):=by
 by_cases hl:xs.length=5
 ·match xs,hl with
  | [a,b,c,d,e],_=>
    have h:Zh [a,b,c,d,e]=(cD a && cD b && cD c && cD d && BZ e):=rfl
    rw[h]
    have hc:eZ ([.int a,.int b,.int c,.int d,.int e]:List PV) none (some 4)=[.int a,.int b,.int c,.int d]:=rfl
    have hb:=Z2Q (cD a) (cD b) (cD c) (cD d)
    rcases hs with rfl|rfl<;>cases ea:(cD a && cD b && cD c && cD d)<;>cases ec:BZ e<;>rw[ea] at hb<;>simp[wg,zf,List.replicate,ZY,Z0c,hc,Ŕ,hb,ec]
 ·have h:Zh xs=false:=by
   unfold Zh
   split
   ·simp at hl
   ·rfl
  rw[h]
  have hl':¬((xs.length:Nat):Int)=5:=by omega
  rcases hs with rfl|rfl<;>simp[wg,zf,List.replicate,hl']
def Z2R(a b c d:Int):dD (.lst [.int a,.int b]) (.lst [.int c,.int d])=some (.bl (!(decide (a=c) && decide (b=d)))):=by
 have h:eqB (.lst [.int a,.int b]) (.lst [.int c,.int d])=(decide (a=c) && decide (b=d)):=by
  simp[eqB,lV]
  rw[Bool.eq_iff_iff]
  simp
 unfold dD wX
 rw[h]
 simp[dB,ji,dep,Dk]
def Z2c{xs:List Int}(hl:¬xs.length=5):Zh xs=false:=by
 unfold Zh
 split
 ·simp at hl
 ·rfl
def Z13{s:P.Slot}{ps:List PV}(h:SlT s ps):iQ s=some s:=by rcases h with rfl|rfl<;>rfl
def Z1T{xs:List Int}{sl:P.Slot}(hs:SlT sl (xs.map .int)):Bw [sl]=.ret (.sh (.bl (Ze xs))):=by
 have he:=Z0Q hs
 by_cases hl:xs.length=5
 ·match xs,hl with
  | [a,b,c,d,e],_=>
    have h:Ze [a,b,c,d,e]=(Zh [a,b,c,d,e] && !(decide (a=c) && decide (b=d))):=rfl
    rw[h]
    have h1:eZ ([.int a,.int b,.int c,.int d,.int e]:List PV) none (some 2)=[.int a,.int b]:=rfl
    have h2:eZ ([.int a,.int b,.int c,.int d,.int e]:List PV) (some 2) (some 4)=[.int c,.int d]:=rfl
    have h3:=Z2R a b c d
    generalize Zh [a,b,c,d,e]=q at *
    generalize (!(decide (a=c) && decide (b=d)))=r at *
    rcases hs with rfl|rfl<;>cases q<;>simp_all [Bw,zj,List.replicate]
 ·have h:Ze xs=false:=by
   unfold Ze
   split
   ·simp at hl
   ·rfl
  rw[h]
  rw[Z2c hl] at he
  simp[Bw,zj,List.replicate,Z13 hs,he]
def Z2p{xs:List Int}{sl:P.Slot}(hs:SlT sl (xs.map .int)):JF [sl]=.ret (.sh (.bl (Z9 xs))):=by
 have he:=Z0Q hs
 by_cases hl:xs.length=5
 ·match xs,hl with
  | [a,b,c,d,e],_=>
    have h:Z9 [a,b,c,d,e]=(Zh [a,b,c,d,e] && decide (a<c) && decide (b<d)):=rfl
    rw[h]
    generalize Zh [a,b,c,d,e]=q at *
    rcases hs with rfl|rfl<;>simp only[List.map_cons,List.map_nil] at he<;>cases q<;>by_cases h1:a<c<;>by_cases h2:b<d<;>simp[JF,Ir,List.replicate,he,h1,h2]
 ·have h:Z9 xs=false:=by
   unfold Z9
   split
   ·simp at hl
   ·rfl
  rw[h]
  rw[Z2c hl] at he
  simp[JF,Ir,List.replicate,Z13 hs,he]
def ZH(a b c:Int):Tj [.sh (.lst [.int a,.int b,.int c])]=.ret (.sh (.bl (cD a && cD b && B_ c))):=by
 unfold B_
 cases ea:cD a<;>cases eb:cD b<;>by_cases h1:0<=c<;>by_cases h2:c<=1000000000<;>simp[Tj,Oo,List.replicate,ZY,ea,eb,h1,h2]
def Z1U{xs:List Int}{sl:P.Slot}(hs:SlT sl (xs.map .int)):Bx [sl]=.ret (.sh (.bl (Zf xs))):=by
 by_cases hl:xs.length=9
 ·match xs,hl with
  | [a,b,c,d,e,f,g,h,i],_=>
    have hc:Zf [a,b,c,d,e,f,g,h,i]=((cD a && cD b && B_ c) && (cD d && cD e && B_ f) && (cD g && cD h && B_ i)):=rfl
    rw[hc]
    have h1:eZ ([.int a,.int b,.int c,.int d,.int e,.int f,.int g,.int h,.int i]:List PV) (some 0) (some 3)=[.int a,.int b,.int c]:=rfl
    have h2:eZ ([.int a,.int b,.int c,.int d,.int e,.int f,.int g,.int h,.int i]:List PV) (some 3) (some 6)=[.int d,.int e,.int f]:=rfl
    have h3:eZ ([.int a,.int b,.int c,.int d,.int e,.int f,.int g,.int h,.int i]:List PV) (some 6) (some 9)=[.int g,.int h,.int i]:=rfl
    have hb:=Z2P (cD a && cD b && B_ c) (cD d && cD e && B_ f) (cD g && cD h && B_ i)
    have k1:=ZH a b c
    have k2:=ZH d e f
    have k3:=ZH g h i
    generalize (cD a && cD b && B_ c)=q1 at *
    generalize (cD d && cD e && B_ f)=q2 at *
    generalize (cD g && cD h && B_ i)=q3 at *
    rcases hs with rfl|rfl<;>simp[Bx,zm,List.replicate,Ŕ,h1,h2,h3,k1,k2,k3,hb]
 ·have h:Zf xs=false:=by
   unfold Zf
   split
   ·simp at hl
   ·rfl
  rw[h]
  have hl':¬((xs.length:Nat):Int)=9:=by omega
  rcases hs with rfl|rfl<;>simp[Bx,zm,List.replicate,hl']
def Zd(w:Str):String:=if w= "post" then "Post" else if w= "fence" then "Fence" else if w= "sail" then "Sail" else if w= "cloth" then "Cloth" else "House"
def Z7(C:String)(w:Str)(xs:List Int):PV:=.ins C ["word","numbers"] [.str w,.lst (xs.map .int)]
def Z1(w:Str)(xs:List Int):Bool:=if w= "post" then Zg xs else if w= "fence" then Ze xs else if w= "sail" then Z9 xs else if w= "cloth" then Zf xs else if w= "house" then Z9 xs else false
def wn:((Str.ofString "word")=(Str.ofString "numbers"))=False:=eq_false (by decide +kernel)
def Zz{C:String}(hC:(["Thing","Post","Fence","Sail","Cloth","House"]:List String).contains C=true)(w:Str){xs:List Int}{sl:P.Slot}(hs:SlT sl (xs.map .int)):gM 3 3 C jE [.sh (.str w),sl]=.ok ["word","numbers"] [.str w,.lst (xs.map .int)]:=by
 rcases hs with rfl|rfl<;>simp[gM,jE,mz,IR.of,List.replicate,putN,Ag,hC,wn,-List.contains_eq_mem,-List.contains_cons]
def s1:PyData.strOk (Str.ofString "post")=true:=by decide +kernel
def s2:PyData.strOk (Str.ofString "fence")=true:=by decide +kernel
def s3:PyData.strOk (Str.ofString "sail")=true:=by decide +kernel
def s4:PyData.strOk (Str.ofString "cloth")=true:=by decide +kernel
def s5:PyData.strOk (Str.ofString "house")=true:=by decide +kernel
def d12:(Str.ofString "post" =Str.ofString "fence")=False:=eq_false (by decide +kernel)
def d13:(Str.ofString "post" =Str.ofString "sail")=False:=eq_false (by decide +kernel)
def d14:(Str.ofString "post" =Str.ofString "cloth")=False:=eq_false (by decide +kernel)
def d15:(Str.ofString "post" =Str.ofString "house")=False:=eq_false (by decide +kernel)
def d23:(Str.ofString "fence" =Str.ofString "sail")=False:=eq_false (by decide +kernel)
def d24:(Str.ofString "fence" =Str.ofString "cloth")=False:=eq_false (by decide +kernel)
def d25:(Str.ofString "fence" =Str.ofString "house")=False:=eq_false (by decide +kernel)
def d34:(Str.ofString "sail" =Str.ofString "cloth")=False:=eq_false (by decide +kernel)
def d35:(Str.ofString "sail" =Str.ofString "house")=False:=eq_false (by decide +kernel)
def d45:(Str.ofString "cloth" =Str.ofString "house")=False:=eq_false (by decide +kernel)
def Z0p{w:Str}(hw:PyData.strOk w=true){xs:List Int}{sl:P.Slot}(hs:SlT sl (xs.map .int)):gA [.sh (.str w),sl]=if Z1 w xs=true then .ret (.sh (Z7 (Zd w) w xs)) else .exc ⟨"BadThing",[],[]⟩:=by
 have e1:=eN hw s1
 have e2:=eN hw s2
 have e3:=eN hw s3
 have e4:=eN hw s4
 have e5:=eN hw s5
 have p1:=Z0i hs
 have p2:=Z1T hs
 have p3:=Z2p hs
 have p4:=Z1U hs
 have i1:za [.sh (.str w),sl]=_:=Zz (by decide) w hs
 have i2:tM [.sh (.str w),sl]=_:=Zz (by decide) w hs
 have i3:zc [.sh (.str w),sl]=_:=Zz (by decide) w hs
 have i4:tQ [.sh (.str w),sl]=_:=Zz (by decide) w hs
 have i5:tU [.sh (.str w),sl]=_:=Zz (by decide) w hs
 have hle:=Z13 hs
 unfold Z1 Zd Z7
 by_cases h1:w=Str.ofString "post"
 ·have n2:¬w=Str.ofString "fence" := λz=>(d12▸(h1.symm.trans z):False)
  have n3:¬w=Str.ofString "sail" := λz=>(d13▸(h1.symm.trans z):False)
  have n4:¬w=Str.ofString "cloth" := λz=>(d14▸(h1.symm.trans z):False)
  have n5:¬w=Str.ofString "house" := λz=>(d15▸(h1.symm.trans z):False)
  rw[decide_eq_true h1] at e1
  rw[decide_eq_false n2] at e2
  rw[decide_eq_false n3] at e3
  rw[decide_eq_false n4] at e4
  rw[decide_eq_false n5] at e5
  have hg:(if w=Str.ofString "post" then Zg xs else if w=Str.ofString "fence" then Ze xs else if w=Str.ofString "sail" then Z9 xs else if w=Str.ofString "cloth" then Zf xs else if w=Str.ofString "house" then Z9 xs else false)=Zg xs:=by rw[if_pos h1]
  have hc:(if w=Str.ofString "post" then "Post" else if w=Str.ofString "fence" then "Fence" else if w=Str.ofString "sail" then "Sail" else if w=Str.ofString "cloth" then "Cloth" else "House")= "Post" := by rw[if_pos h1]
  rw[hg,hc]
  cases q:Zg xs<;>rw[q] at p1<;>simp[gA,kW,bW,List.replicate,e1,e2,e3,e4,e5,hle,p1,i1]
 ·skip
  by_cases h2:w=Str.ofString "fence"
  ·have n1:=h1
   have n3:¬w=Str.ofString "sail" := λz=>(d23▸(h2.symm.trans z):False)
   have n4:¬w=Str.ofString "cloth" := λz=>(d24▸(h2.symm.trans z):False)
   have n5:¬w=Str.ofString "house" := λz=>(d25▸(h2.symm.trans z):False)
   rw[decide_eq_true h2] at e2
   rw[decide_eq_false n1] at e1
   rw[decide_eq_false n3] at e3
   rw[decide_eq_false n4] at e4
   rw[decide_eq_false n5] at e5
   have hg:(if w=Str.ofString "post" then Zg xs else if w=Str.ofString "fence" then Ze xs else if w=Str.ofString "sail" then Z9 xs else if w=Str.ofString "cloth" then Zf xs else if w=Str.ofString "house" then Z9 xs else false)=Ze xs:=by rw[if_neg n1,if_pos h2]
   have hc:(if w=Str.ofString "post" then "Post" else if w=Str.ofString "fence" then "Fence" else if w=Str.ofString "sail" then "Sail" else if w=Str.ofString "cloth" then "Cloth" else "House")= "Fence" := by rw[if_neg n1,if_pos h2]
   rw[hg,hc]
   cases q:Ze xs<;>rw[q] at p2<;>simp[gA,kW,bW,List.replicate,e1,e2,e3,e4,e5,hle,p2,i2]
  ·skip
   by_cases h3:w=Str.ofString "sail"
   ·have n1:=h1
    have n2:=h2
    have n4:¬w=Str.ofString "cloth" := λz=>(d34▸(h3.symm.trans z):False)
    have n5:¬w=Str.ofString "house" := λz=>(d35▸(h3.symm.trans z):False)
    rw[decide_eq_true h3] at e3
    rw[decide_eq_false n1] at e1
    rw[decide_eq_false n2] at e2
    rw[decide_eq_false n4] at e4
    rw[decide_eq_false n5] at e5
    have hg:(if w=Str.ofString "post" then Zg xs else if w=Str.ofString "fence" then Ze xs else if w=Str.ofString "sail" then Z9 xs else if w=Str.ofString "cloth" then Zf xs else if w=Str.ofString "house" then Z9 xs else false)=Z9 xs:=by rw[if_neg n1,if_neg n2,if_pos h3]
    have hc:(if w=Str.ofString "post" then "Post" else if w=Str.ofString "fence" then "Fence" else if w=Str.ofString "sail" then "Sail" else if w=Str.ofString "cloth" then "Cloth" else "House")= "Sail" := by rw[if_neg n1,if_neg n2,if_pos h3]
    rw[hg,hc]
    cases q:Z9 xs<;>rw[q] at p3<;>simp[gA,kW,bW,List.replicate,e1,e2,e3,e4,e5,hle,p3,i3]
   ·skip
    by_cases h4:w=Str.ofString "cloth"
    ·have n1:=h1
     have n2:=h2
     have n3:=h3
     have n5:¬w=Str.ofString "house" := λz=>(d45▸(h4.symm.trans z):False)
     rw[decide_eq_true h4] at e4
     rw[decide_eq_false n1] at e1
     rw[decide_eq_false n2] at e2
     rw[decide_eq_false n3] at e3
     rw[decide_eq_false n5] at e5
     have hg:(if w=Str.ofString "post" then Zg xs else if w=Str.ofString "fence" then Ze xs else if w=Str.ofString "sail" then Z9 xs else if w=Str.ofString "cloth" then Zf xs else if w=Str.ofString "house" then Z9 xs else false)=Zf xs:=by rw[if_neg n1,if_neg n2,if_neg n3,if_pos h4]
     have hc:(if w=Str.ofString "post" then "Post" else if w=Str.ofString "fence" then "Fence" else if w=Str.ofString "sail" then "Sail" else if w=Str.ofString "cloth" then "Cloth" else "House")= "Cloth" := by rw[if_neg n1,if_neg n2,if_neg n3,if_pos h4]
     rw[hg,hc]
     cases q:Zf xs<;>rw[q] at p4<;>simp[gA,kW,bW,List.replicate,e1,e2,e3,e4,e5,hle,p4,i4]
    ·skip
     by_cases h5:w=Str.ofString "house"
     ·have n1:=h1
      have n2:=h2
      have n3:=h3
      have n4:=h4
      rw[decide_eq_true h5] at e5
      rw[decide_eq_false n1] at e1
      rw[decide_eq_false n2] at e2
      rw[decide_eq_false n3] at e3
      rw[decide_eq_false n4] at e4
      have hg:(if w=Str.ofString "post" then Zg xs else if w=Str.ofString "fence" then Ze xs else if w=Str.ofString "sail" then Z9 xs else if w=Str.ofString "cloth" then Zf xs else if w=Str.ofString "house" then Z9 xs else false)=Z9 xs:=by rw[if_neg n1,if_neg n2,if_neg n3,if_neg n4,if_pos h5]
      have hc:(if w=Str.ofString "post" then "Post" else if w=Str.ofString "fence" then "Fence" else if w=Str.ofString "sail" then "Sail" else if w=Str.ofString "cloth" then "Cloth" else "House")= "House" := by rw[if_neg n1,if_neg n2,if_neg n3,if_neg n4]
      rw[hg,hc]
      cases q:Z9 xs<;>rw[q] at p3<;>simp[gA,kW,bW,List.replicate,e1,e2,e3,e4,e5,hle,p3,i5]
     ·skip
      rw[decide_eq_false h1] at e1
      rw[decide_eq_false h2] at e2
      rw[decide_eq_false h3] at e3
      rw[decide_eq_false h4] at e4
      rw[decide_eq_false h5] at e5
      rw[if_neg h1,if_neg h2,if_neg h3,if_neg h4,if_neg h5]
      simp[gA,kW,bW,List.replicate,e1,e2,e3,e4,e5]
abbrev P3:=Int×Int×Int
def c3(p:P3):PV:=.tup [.int p.1,.int p.2.1,.int p.2.2]
def Zu(x y u v z:Int):List P3:=[(x,y,z),(u,y,z),(u,v,z),(x,v,z)]
def ZQ(x y u v h:Int):List P3:=Zu x y u v 0++Zu x y u v h
def Z5(C:String)(xs:List Int):List P3:=
 if C= "Post" then(match xs with
  | [p,q,h]=>ZQ (2*p-1) (2*q-1) (2*p+1) (2*q+1) h
  |_=>[])
 else if C= "Fence" then(match xs with
  | [x,y,u,v,h]=>[(x,y,0),(u,v,0),(u,v,h),(x,y,h)]
  |_=>[])
 else if C= "Sail" then(match xs with
  | [x,y,u,v,h]=>Zu x y u v h
  |_=>[])
 else if C= "Cloth" then(match xs with
  | [a,b,c,d,e,f,g,h,i]=>[(a,b,c),(d,e,f),(g,h,i)]
  |_=>[])
 else(match xs with
  | [x,y,u,v,h]=>ZQ x y u v h
  |_=>[])
def Zb(w:Str)(xs:List Int):List P3:=Z5 (Zd w) xs
def ZI{C:String}(hC:(["Thing","Post","Fence","Sail","Cloth","House"]:List String).contains C=true)(w:Str)(xs:List Int):aX ["Thing","Post","Fence","Sail","Cloth","House"] (Str.ofString "numbers") (Z7 C w xs)=some (.lst (xs.map .int)):=by
 unfold aX Z7
 dsimp only
 rw[if_pos hC]
 have:(Str.ofString "numbers" == Str.ofString "word")=false:=by decide +kernel
 show List.lookup _ [(_,_),(_,_)]=_
 rw[List.lookup_cons,this]
 simp
def Z0q(x y u v z:Int):vQ [.sh (.int x),.sh (.int y),.sh (.int u),.sh (.int v),.sh (.int z)]=.ret (.ow ((Zu x y u v z).map c3)):=by
 simp[vQ,Et,List.replicate,Zu,c3]
def Z0r(x y u v h:Int):Bp [.sh (.int x),.sh (.int y),.sh (.int u),.sh (.int v),.sh (.int h)]=.ret (.ow ((ZQ x y u v h).map c3)):=by
 simp[Bp,Eu,List.replicate,Z0q,ZQ,Zu,add_l]
def Z2S{xs:List Int}(h:Zg xs=true)(w:Str):qd [.sh (Z7 "Post" w xs)]=.ret (.ow ((Z5 "Post" xs).map c3)):=by
 match xs,h with
 | [p,q,h],hh=>
   simp[Zg,cD,BZ] at hh
   have hf:=ZI (C:= "Post") (by decide) w [p,q,h]
   generalize Z7 "Post" w [p,q,h]=v at *
   have e:=Z0r (2*p-1) (2*q-1) (2*p+1) (2*q+1) h
   simp[qd,Ew,List.replicate,hf,e,Z5]
def Z2q{xs:List Int}(h:Ze xs=true)(w:Str):qe [.sh (Z7 "Fence" w xs)]=.ret (.ow ((Z5 "Fence" xs).map c3)):=by
 match xs,h with
 | [x,y,u,v,h],hh=>
   have hf:=ZI (C:= "Fence") (by decide) w [x,y,u,v,h]
   generalize Z7 "Fence" w [x,y,u,v,h]=t at *
   simp[qe,Ey,List.replicate,hf,Z5,c3,Ķ]
def Z2T{xs:List Int}(h:Z9 xs=true)(w:Str):qg [.sh (Z7 "Sail" w xs)]=.ret (.ow ((Z5 "Sail" xs).map c3)):=by
 match xs,h with
 | [x,y,u,v,h],hh=>
   have hf:=ZI (C:= "Sail") (by decide) w [x,y,u,v,h]
   generalize Z7 "Sail" w [x,y,u,v,h]=t at *
   have e:=Z0q x y u v h
   simp[qg,Ez,List.replicate,hf,e,Z5]
def Z2r{xs:List Int}(h:Z9 xs=true)(w:Str):qj [.sh (Z7 "House" w xs)]=.ret (.ow ((Z5 "House" xs).map c3)):=by
 match xs,h with
 | [x,y,u,v,h],hh=>
   have hf:=ZI (C:= "House") (by decide) w [x,y,u,v,h]
   generalize Z7 "House" w [x,y,u,v,h]=t at *
   have e:=Z0r x y u v h
   simp[qj,EY,List.replicate,hf,e,Z5]
def Z2s{xs:List Int}(h:Zf xs=true)(w:Str):Bq [.sh (Z7 "Cloth" w xs)]=.ret (.ow ((Z5 "Cloth" xs).map c3)):=by
 match xs,h with
 | [a,b,c,d,e,f,g,i,j],hh=>
   have hf:=ZI (C:= "Cloth") (by decide) w [a,b,c,d,e,f,g,i,j]
   generalize Z7 "Cloth" w [a,b,c,d,e,f,g,i,j]=t at *
   simp[Bq,Oi,List.replicate,hf,Z5,c3,Ŕ,RW,eZ]
   exact⟨rfl,rfl,rfl⟩
def cst(r p:P3):Hu.Pt:=(r.2.2*p.1+r.1*p.2.2,r.2.2*p.2.1+r.2.1*p.2.2)
def RB(r:P3):Prop:=-1000000<=r.1/\r.1<=1000000/\ -1000000<=r.2.1/\r.2.1<=1000000/\ -1000000<=r.2.2/\r.2.2<=1000000
def PB(p:P3):Prop:=-10000000000<=p.1/\p.1<=10000000000/\ -10000000000<=p.2.1/\p.2.1<=10000000000/\ -10000000000<=p.2.2/\p.2.2<=10000000000
def Z0R{r:P3}(hr:RB r)(p:P3):tH [.sh (c3 p),.sh (c3 r)]=.ret (.sh (pt (cst r p))):=by
 obtain⟨a1,a2,a3,a4,a5,a6⟩:=hr
 have m1:Ť r.2.2 p.1=true:=cJ (by omega) (by omega)
 have m2:Ť r.2.2 p.2.1=true:=cJ (by omega) (by omega)
 have m3:Ť r.1 p.2.2=true:=cJ (by omega) (by omega)
 have m4:Ť r.2.1 p.2.2=true:=cJ (by omega) (by omega)
 simp[tH,Es,List.replicate,pt,c3,cst,m1,m2,m3,m4]
def Z02{x y A B:Int}(h1: -A<=x)(h2:x<=A)(h3: -B<=y)(h4:y<=B): -(A*B)<=x*y/\x*y<=A*B:=by
 have hA:0<=A:=by omega
 have hB:0<=B:=by omega
 have e:(x*y).natAbs<=A.natAbs*B.natAbs:=by
  rw[Int.natAbs_mul]
  exact Nat.mul_le_mul (by omega) (by omega)
 have e2:((A*B).natAbs)=A.natAbs*B.natAbs:=Int.natAbs_mul A B
 have e3:0<=A*B:=Int.mul_nonneg hA hB
 omega
def Z0s{r p:P3}(hr:RB r)(hp:PB p):Sm (cst r p):=by
 obtain⟨a1,a2,a3,a4,a5,a6⟩:=hr
 obtain⟨b1,b2,b3,b4,b5,b6⟩:=hp
 have q1:=Z02 a5 a6 b1 b2
 have q2:=Z02 a5 a6 b3 b4
 have q3:=Z02 a1 a2 b5 b6
 have q4:=Z02 a3 a4 b5 b6
 simp only[Sm,cst]
 omega
def Z1u{w:Str}{xs:List Int}(hg:Z1 w xs=true){mo:M PV}{ρ ρ1:List P.Slot}(ho:mo ρ=.ok (Z7 (Zd w) w xs) ρ1):sE (Str.ofString "corners") [("Post",qd),("Fence",qe),("Sail",qg),("Cloth",Bq),("House",qj)] mo Ď ρ=.ok (.ow ((Zb w xs).map c3)) ρ1:=by
 have hn:(["word","numbers"]:List Str).contains (Str.ofString "corners")=false:=by decide +kernel
 have key:∀(C:String) (mf:MF),Zd w=C->List.lookup C [("Post",qd),("Fence",qe),("Sail",qg),("Cloth",Bq),("House",qj)]=some mf->mf [.sh (Z7 C w xs)]=.ret (.ow ((Z5 C xs).map c3))->sE (Str.ofString "corners") [("Post",qd),("Fence",qe),("Sail",qg),("Cloth",Bq),("House",qj)] mo Ď ρ=.ok (.ow ((Zb w xs).map c3)) ρ1:=by
  intro C mf hC hl hf
  unfold Zb
  rw[hC] at ho ⊢
  unfold sE
  rw[ho]
  unfold Z7 at *
  simp only[Res.bind]
  rw[hl]
  dsimp only
  rw[if_neg (by rw[hn];decide)]
  simp only[Ď,Res.bind]
  rw[hf]
 unfold Z1 at hg
 by_cases e1:w= "post"
 ·rw[if_pos e1] at hg
  exact key "Post" _ (by unfold Zd;rw[if_pos e1]) rfl (Z2S hg w)
 rw[if_neg e1] at hg
 by_cases e2:w= "fence"
 ·rw[if_pos e2] at hg
  exact key "Fence" _ (by unfold Zd;rw[if_neg e1,if_pos e2]) rfl (Z2q hg w)
 rw[if_neg e2] at hg
 by_cases e3:w= "sail"
 ·rw[if_pos e3] at hg
  exact key "Sail" _ (by unfold Zd;rw[if_neg e1,if_neg e2,if_pos e3]) rfl (Z2T hg w)
 rw[if_neg e3] at hg
 by_cases e4:w= "cloth"
 ·rw[if_pos e4] at hg
  exact key "Cloth" _ (by unfold Zd;rw[if_neg e1,if_neg e2,if_neg e3,if_pos e4]) rfl (Z2s hg w)
 rw[if_neg e4] at hg
 by_cases e5:w= "house"
 ·rw[if_pos e5] at hg
  exact key "House" _ (by unfold Zd;rw[if_neg e1,if_neg e2,if_neg e3,if_neg e4]) rfl (Z2r hg w)
 ·rw[if_neg e5] at hg
  cases hg
def Z14{r:P3}(hr:RB r){L:List P3}(hl:L.length<=100)(s1:P.Slot):Ŕ (gN 1) Ŏ (Ė (Ē tH (Ą 1 (Ą 0 Ď)))) (L.map c3) [.sh (c3 r),s1] []=some ((L.map (cst r)).map pt):=by
 have:=ŉ (g:=gN 1) (mt:=Ŏ) (me:=Ė (Ē tH (Ą 1 (Ą 0 Ď)))) c3 (λp=>pt (cst r p)) (λρ=>∃s,ρ=[.sh (c3 r),s]) L [.sh (c3 r),s1] [] ⟨_,rfl⟩ (by simp;omega) (by
  rintro p hp ρ ⟨s,rfl⟩
  have e:=Z0R hr p
  generalize c3 r=R at *
  generalize c3 p=Q at *
  exact⟨[R |> .sh,.sh Q],[.sh R,.sh Q],[.sh R,.sh Q],by simp,by simp,by simp[e],_,rfl⟩)
 rw[this]
 simp
def Z0t{w:Str}{xs:List Int}(hg:Z1 w xs=true)(hl:(Zb w xs).length<=100){r:P3}(hr:RB r):vR [.sh (Z7 (Zd w) w xs),.sh (c3 r)]=.ret (.ow (((Zb w xs).map (cst r)).map pt)):=by
 have h1:=Z1u hg (mo:=Ĥ 0) (ρ:= [.sh (Z7 (Zd w) w xs),.sh (c3 r)]) (ρ1:=[.sh (Z7 (Zd w) w xs),.sh (c3 r)]) (by simp)
 have h2:=Z14 hr hl
 generalize ((Zb w xs).map (cst r)).map pt=Y at *
 generalize (Zb w xs).map c3=Z at *
 generalize Z7 (Zd w) w xs=v at *
 generalize c3 r=R at *
 simp[vR,E_,List.replicate,h1,h2,-SJ]
def wB(s:Hu.Pt):P3:=(2*s.1,2*s.2,0)
def Z0u{w:Str}{xs:List Int}(hg:Z1 w xs=true):(Zb w xs).length<=8/\Zb w xs≠[]/\∀p∈Zb w xs,PB p:=by
 have hp:Zg xs=true->(Z5 "Post" xs).length<=8/\Z5 "Post" xs≠[]/\∀p∈Z5 "Post" xs,PB p:=by
  intro h
  match xs,h with
  | [a,b,c],h=>
    simp[Zg,cD,BZ] at h
    simp[Z5,ZQ,Zu,PB]
    omega
 have hf:Ze xs=true->(Z5 "Fence" xs).length<=8/\Z5 "Fence" xs≠[]/\∀p∈Z5 "Fence" xs,PB p:=by
  intro h
  match xs,h with
  | [a,b,c,d,e],h=>
    simp[Ze,Zh,cD,BZ] at h
    simp[Z5,PB]
    omega
 have hs:Z9 xs=true->(Z5 "Sail" xs).length<=8/\Z5 "Sail" xs≠[]/\∀p∈Z5 "Sail" xs,PB p:=by
  intro h
  match xs,h with
  | [a,b,c,d,e],h=>
    simp[Z9,Zh,cD,BZ] at h
    simp[Z5,Zu,PB]
    omega
 have hh:Z9 xs=true->(Z5 "House" xs).length<=8/\Z5 "House" xs≠[]/\∀p∈Z5 "House" xs,PB p:=by
  intro h
  match xs,h with
  | [a,b,c,d,e],h=>
    simp[Z9,Zh,cD,BZ] at h
    simp[Z5,ZQ,Zu,PB]
    omega
 have hc:Zf xs=true->(Z5 "Cloth" xs).length<=8/\Z5 "Cloth" xs≠[]/\∀p∈Z5 "Cloth" xs,PB p:=by
  intro h
  match xs,h with
  | [a,b,c,d,e,f,g,i,j],h=>
    simp[Zf,cD,B_] at h
    simp[Z5,PB]
    omega
 unfold Z1 at hg
 unfold Zb Zd
 by_cases e1:w= "post"
 ·rw[if_pos e1] at hg ⊢;exact hp hg
 rw[if_neg e1] at hg ⊢
 by_cases e2:w= "fence"
 ·rw[if_pos e2] at hg ⊢;exact hf hg
 rw[if_neg e2] at hg ⊢
 by_cases e3:w= "sail"
 ·rw[if_pos e3] at hg ⊢;exact hs hg
 rw[if_neg e3] at hg ⊢
 by_cases e4:w= "cloth"
 ·rw[if_pos e4] at hg ⊢;exact hc hg
 rw[if_neg e4] at hg ⊢
 by_cases e5:w= "house"
 ·rw[if_pos e5] at hg;exact hh hg
 ·rw[if_neg e5] at hg;cases hg
def shB(w:Str)(xs:List Int)(s:Hu.Pt)(r:P3):Bool:=(Hu.Zy ((Zb w xs).map (cst r)) (cst r (wB s))).isNone
def Z1v(b:Nat):Builtin.bitNot (b:Int)= -(b:Int)-1:=rfl
def Z03(a b:Nat):Builtin.bitOr a b=((a ||| b:Nat):Int):=by
 unfold Builtin.bitOr Builtin.bitAnd
 rw[Z1v,Z1v]
 have h1:decide (0<= -(a:Int)-1)=false:=by simp;omega
 have h2:decide (0<= -(b:Int)-1)=false:=by simp;omega
 rw[h1,h2]
 have e1:(Builtin.bitNot (-(a:Int)-1)).toNat=a:=by unfold Builtin.bitNot;omega
 have e2:(Builtin.bitNot (-(b:Int)-1)).toNat=b:=by unfold Builtin.bitNot;omega
 simp only[e1,e2]
 unfold Builtin.bitNot
 omega
def Z2t(a k:Nat):(a:Int) / 2 ^ k=((a >>> k:Nat):Int):=by
 rw[Nat.shiftRight_eq_div_pow]
 simp
def ZR(a k:Nat):(a:Int) / 2 ^ k % 2=if a.testBit k then 1 else 0:=by
 rw[Z2t]
 have:(a >>> k) % 2=if a.testBit k then 1 else 0:=by
  rw[Nat.testBit]
  have h:1 &&& (a >>> k)=(a >>> k) % 2:=by rw[Nat.and_comm];exact Nat.and_one_is_mod _
  rw[h]
  have:(a >>> k) % 2=0\/(a >>> k) % 2=1:=by omega
  rcases this with e|e<;>simp[e]
 by_cases q:a.testBit k=true
 ·rw[if_pos q] at this ⊢;omega
 ·rw[if_neg q] at this ⊢;omega
def Z2d(a:Int):Builtin.bitAnd a 1=a % 2:=PyProof.Rows.bitAnd_m1 a
def Z1V(f l k:Nat)(h:f<=l):(2 ^ (l+1)-2 ^ f).testBit k=(decide (f<=k) && decide (k<=l)):=by
 have e:2 ^ (l+1)-2 ^ f=(2 ^ (l+1-f)-1)*2 ^ f:=by
  rw[Nat.sub_mul,<-Nat.pow_add,Nat.one_mul]
  congr 2
  omega
 rw[e,Nat.testBit_mul_two_pow,Nat.testBit_two_pow_sub_one]
 by_cases h1:f<=k
 ·simp[h1]
  by_cases h2:k<=l
  ·simp[h2];omega
  ·simp[h2];omega
 ·simp[h1]
def Z15{a n:Nat}(h:∀k,n<=k->a.testBit k=false):a<2 ^ n:=Nat.lt_pow_two_of_testBit a h
def Z2U{k:Nat}(h:k<=1000000):iW 1 (k:Int)=true:=by unfold iW;simp;omega
def Z0S{f l:Int}{w:Nat}(hf:0<=f)(hl:l<w)(hw:w<=1000):∃B:Nat,vX [.sh (.int f),.sh (.int l)]=.ret (.sh (.int B))/\∀k:Nat,B.testBit k=(decide (f<=k) && decide ((k:Int)<=l)):=by
 by_cases h:l<f
 ·refine⟨0,by simp[vX,yS,List.replicate,h],λk=>?_⟩
  by_cases h1:f<=k
  ·have h2:¬(k:Int)<=l:=by omega
   simp[h2]
  ·simp[h1]
 ·obtain⟨F,rfl⟩:=Int.eq_ofNat_of_zero_le hf
  obtain⟨L,rfl⟩:=Int.eq_ofNat_of_zero_le (by omega:0<=l)
  have e1:=Z2U (k:=L+1) (by omega)
  have e2:=Z2U (k:=F) (by omega)
  have hp:2 ^ F<=2 ^ (L+1):=Nat.pow_le_pow_right (by omega) (by omega)
  refine⟨2 ^ (L+1)-2 ^ F,?_,λk=>?_⟩
  ·have t1:((L:Int)+1).toNat=L+1:=by omega
   have t2:((L:Int)+1)=((L+1:Nat):Int):=by omega
   simp only[Int.natCast_add,Int.cast_ofNat_Int] at e1
   have h':¬(L:Int)<F:=h
   simp[vX,yS,List.replicate,h',e1,e2,t1]
   rw[Int.natCast_sub hp]
   simp
  ·rw[Z1V F L k (by omega)]
   simp
def inR(L:List Hu.Ln)(u q k:Int):Prop:=∀l∈L,l.1*(u*k)+l.2.1*(u*q)<=l.2.2
def Z0T{a b k:Int}(hb:0<b):k<=a.fdiv b↔k*b<=a:=by
 rw[Int.fdiv_eq_ediv_of_nonneg _ (Int.le_of_lt hb)]
 exact Int.le_ediv_iff_mul_le hb
theorem Z0v{u q:Int}{w:Nat}(hu:0<u)(hu2:u<=10000000)(hq:0<=q)(hq2:q<=1000)(s0:P.Slot):∀(L:List Hu.Ln),(∀l∈L,SmL l)->∀(f la:Int) (s6 s7 s8 s9 BX:P.Slot),0<=f->la<w->
 (∃f' Qp RM s7' JV JW BW,forL (gT 3 (ę (gN 6) (ę (gN 7) (ę (gN 8) Ř)))) iz (L.map gD) [s0,.sh (.int u),.sh (.int q),.sh (.int w),.sh (.int f),.sh (.int la),s6,s7,s8,s9,BX]=.ok .nx [s0,.sh (.int u),.sh (.int q),.sh (.int w),.sh (.int f'),.sh (.int Qp),RM,s7',JV,JW,BW]/\0<=f'/\Qp<w/\∀k:Int,(f'<=k/\k<=Qp)↔(f<=k/\k<=la/\inR L u q k))\/
 (∃ρ',forL (gT 3 (ę (gN 6) (ę (gN 7) (ę (gN 8) Ř)))) iz (L.map gD) [s0,.sh (.int u),.sh (.int q),.sh (.int w),.sh (.int f),.sh (.int la),s6,s7,s8,s9,BX]=.ok (.rt (.sh (.int 0))) ρ'/\∀k:Int,¬inR L u q k)
 | [],_,f,la,s6,s7,s8,s9,BX,h1,h2=>.inl ⟨f,la,s6,s7,s8,s9,BX,rfl,h1,h2,λk=>by simp[inR]⟩
 |l::L,hS,f,la,s6,s7,s8,s9,BX,h1,h2=>by
  have hl:=hS l List.mem_cons_self
  have ih:=λ(f la:Int) (s6 s7 s8 s9 BX:P.Slot)=>Z0v (w:=w) hu hu2 hq hq2 s0 L (λx hx=>hS x (List.mem_cons_of_mem _ hx)) f la s6 s7 s8 s9 BX
  have m1:Ť l.1 u=true:=cJ (by have:=hl.1;omega) (by have:=hl.2.1;omega)
  have m2:Ť l.2.1 u=true:=cJ (by have:=hl.2.2.1;omega) (by have:=hl.2.2.2;omega)
  have m3:Ť (l.2.1*u) q=true:=mul_r (by omega) (by omega)
  have bs:=Z02 hl.1 hl.2.1 (show -10000000<=u by omega) hu2
  obtain⟨st,hst⟩:∃st,l.1*u=st:=⟨_,rfl⟩
  obtain⟨ro,hro⟩:∃ro,l.2.2-l.2.1*u*q=ro:=⟨_,rfl⟩
  rw[hst] at bs
  have hin:∀k:Int,inR (l::L) u q k↔(k*st<=ro/\inR L u q k):=λk=>by
   unfold inR
   rw[List.forall_mem_cons]
   have e:l.1*(u*k)=k*st:=by rw[<-hst,<-Int.mul_assoc,Int.mul_comm]
   have e2:l.2.1*(u*q)=l.2.1*u*q:=by rw[Int.mul_assoc]
   rw[e,e2]
   constructor
   ·rintro ⟨a,b⟩;exact⟨by omega,b⟩
   ·rintro ⟨a,b⟩;exact⟨by omega,b⟩
  have gg:gT 3 (ę (gN 6) (ę (gN 7) (ę (gN 8) Ř))) (gD l) [s0,.sh (.int u),.sh (.int q),.sh (.int w),.sh (.int f),.sh (.int la),s6,s7,s8,s9,BX]=some [s0,.sh (.int u),.sh (.int q),.sh (.int w),.sh (.int f),.sh (.int la),.sh (.int l.1),.sh (.int l.2.1),.sh (.int l.2.2),s9,BX]:=by simp[gD]
  rw[List.map_cons,forL,gg]
  dsimp only
  by_cases c1:0<st
  ·have d1:kE ro st=true:=Af (by omega) (Nat.le_trans (nU (n:=200) (by omega) (by omega)) (by decide))
   have e:iz [s0,.sh (.int u),.sh (.int q),.sh (.int w),.sh (.int f),.sh (.int la),.sh (.int l.1),.sh (.int l.2.1),.sh (.int l.2.2),s9,BX]=.ok .nx [s0,.sh (.int u),.sh (.int q),.sh (.int w),.sh (.int f),.sh (.int (min la (ro.fdiv st))),.sh (.int l.1),.sh (.int l.2.1),.sh (.int l.2.2),.sh (.int st),.sh (.int ro)]:=by
    simp[iz,m1,m2,m3,hst,hro,c1,d1]
    split<;>omega
   rw[e]
   rcases ih f (min la (ro.fdiv st)) (.sh (.int l.1)) (.sh (.int l.2.1)) (.sh (.int l.2.2)) (.sh (.int st)) (.sh (.int ro)) h1 (by omega) with⟨f',Qp,RM,s7',JV,JW,BW,q1,q2,q3,q4⟩|⟨ρ',q1,q2⟩
   ·refine .inl ⟨f',Qp,RM,s7',JV,JW,BW,q1,q2,q3,λk=>?_⟩
    rw[q4,hin]
    have:=Z0T (a:=ro) (k:=k) c1
    constructor
    ·rintro ⟨a,b,c⟩;exact⟨a,by omega,this.mp (by omega),c⟩
    ·rintro ⟨a,b,c,d⟩;exact⟨a,by have:=this.mpr c;omega,d⟩
   ·exact .inr ⟨ρ',q1,λk=>by rw[hin];exact λh=>q2 k h.2⟩
  ·by_cases c2:st<0
   ·have d1:kE ro (-st)=true:=Af (by omega) (Nat.le_trans (nU (n:=200) (by omega) (by omega)) (by decide))
    have e:iz [s0,.sh (.int u),.sh (.int q),.sh (.int w),.sh (.int f),.sh (.int la),.sh (.int l.1),.sh (.int l.2.1),.sh (.int l.2.2),s9,BX]=.ok .nx [s0,.sh (.int u),.sh (.int q),.sh (.int w),.sh (.int (max f (-(ro.fdiv (-st))))),.sh (.int la),.sh (.int l.1),.sh (.int l.2.1),.sh (.int l.2.2),.sh (.int st),.sh (.int ro)]:=by
     simp[iz,m1,m2,m3,hst,hro,c1,c2,d1]
     split<;>omega
    rw[e]
    rcases ih (max f (-(ro.fdiv (-st)))) la (.sh (.int l.1)) (.sh (.int l.2.1)) (.sh (.int l.2.2)) (.sh (.int st)) (.sh (.int ro)) (by omega) h2 with⟨f',Qp,RM,s7',JV,JW,BW,q1,q2,q3,q4⟩|⟨ρ',q1,q2⟩
    ·refine .inl ⟨f',Qp,RM,s7',JV,JW,BW,q1,q2,q3,λk=>?_⟩
     rw[q4,hin]
     have:=Z0T (a:=ro) (b:=-st) (k:=-k) (by omega)
     rw[Int.neg_mul_neg] at this
     constructor
     ·rintro ⟨a,b,c⟩;exact⟨by omega,b,this.mp (by omega),c⟩
     ·rintro ⟨a,b,c,d⟩;exact⟨by have:=this.mpr c;omega,b,d⟩
    ·exact .inr ⟨ρ',q1,λk=>by rw[hin];exact λh=>q2 k h.2⟩
   ·have c0:st=0:=by omega
    subst c0
    by_cases c3:ro<0
    ·refine .inr ⟨_,by simp[iz,m1,m2,m3,hst,hro,c3];rfl,λk=>?_⟩
     rw[hin]
     rintro ⟨a,_⟩
     omega
    ·have e:iz [s0,.sh (.int u),.sh (.int q),.sh (.int w),.sh (.int f),.sh (.int la),.sh (.int l.1),.sh (.int l.2.1),.sh (.int l.2.2),s9,BX]=.ok .nx [s0,.sh (.int u),.sh (.int q),.sh (.int w),.sh (.int f),.sh (.int la),.sh (.int l.1),.sh (.int l.2.1),.sh (.int l.2.2),.sh (.int 0),.sh (.int ro)]:=by
      simp[iz,m1,m2,m3,hst,hro,c3]
     rw[e]
     rcases ih f la (.sh (.int l.1)) (.sh (.int l.2.1)) (.sh (.int l.2.2)) (.sh (.int 0)) (.sh (.int ro)) h1 h2 with⟨f',Qp,RM,s7',JV,JW,BW,q1,q2,q3,q4⟩|⟨ρ',q1,q2⟩
     ·refine .inl ⟨f',Qp,RM,s7',JV,JW,BW,q1,q2,q3,λk=>?_⟩
      rw[q4,hin]
      constructor
      ·rintro ⟨a,b,c⟩;exact⟨a,b,by omega,c⟩
      ·rintro ⟨a,b,c,d⟩;exact⟨a,b,d⟩
     ·exact .inr ⟨ρ',q1,λk=>by rw[hin];exact λh=>q2 k h.2⟩
def Z2V{u q:Int}{w:Nat}(hu:0<u)(hu2:u<=10000000)(hq:0<=q)(hq2:q<=1000)(hw:w<=1000){L:List Hu.Ln}(hS:∀l∈L,SmL l){sl:P.Slot}(hs:Sl sl (L.map gD)) :
 ∃B:Nat,Bt [sl,.sh (.int u),.sh (.int q),.sh (.int w)]=.ret (.sh (.int B))/\∀k:Nat,B.testBit k=true↔(k<w/\inR L u q k):=by
 rcases Z0v (w:=w) hu hu2 hq hq2 sl L hS 0 (w-1) .no .no .no .no .no (by omega) (by omega) with⟨f',Qp,RM,s7',JV,JW,BW,q1,q2,q3,q4⟩|⟨ρ',q1,q2⟩
 ·obtain⟨B,b1,b2⟩:=Z0S (f:=f') (l:=Qp) q2 q3 hw
  refine⟨B,by rcases hs with rfl|rfl<;>simp[Bt,yU,List.replicate,q1,b1],λk=>?_⟩
  rw[b2,Bool.and_eq_true,decide_eq_true_eq,decide_eq_true_eq,q4 k]
  constructor
  ·rintro ⟨a,b,c⟩;exact⟨by omega,c⟩
  ·rintro ⟨a,b⟩;exact⟨by omega,by omega,b⟩
 ·refine⟨0,by rcases hs with rfl|rfl<;>simp[Bt,yU,List.replicate,q1],λk=>?_⟩
  simp
  exact λ_=>q2 k
abbrev Th:=Str×List Int
def aV(t:Th):PV:=Z7 (Zd t.1) t.1 t.2
def jN:Option P3->PV
 |none=>.non
 |some r=>c3 r
abbrev Dy:=Str×Int×List (Option P3)
def cG(d:Dy):PV:=.tup [.str d.1,.int d.2.1,.lst (d.2.2.map jN)]
def Z0(w h:Int)(T:List Th)(D:List Dy):PV:=.ins "Yard" ["width","height","things","days"] [.int w,.int h,.lst (T.map aV),.lst (D.map cG)]
def ywh:(Str.ofString "width" =Str.ofString "height")=False:=eq_false (by decide +kernel)
def ywt:(Str.ofString "width" =Str.ofString "things")=False:=eq_false (by decide +kernel)
def ywd:(Str.ofString "width" =Str.ofString "days")=False:=eq_false (by decide +kernel)
def yht:(Str.ofString "height" =Str.ofString "things")=False:=eq_false (by decide +kernel)
def yhd:(Str.ofString "height" =Str.ofString "days")=False:=eq_false (by decide +kernel)
def ytd:(Str.ofString "things" =Str.ofString "days")=False:=eq_false (by decide +kernel)
def y_w(w h:Int)(T:List Th)(D:List Dy):aX ["Yard"] (Str.ofString "width") (Z0 w h T D)=some (.int w):=by
 unfold aX Z0
 simp
def y_h(w h:Int)(T:List Th)(D:List Dy):aX ["Yard"] (Str.ofString "height") (Z0 w h T D)=some (.int h):=by
 have:(Str.ofString "height" == Str.ofString "width")=false:=by decide +kernel
 unfold aX Z0
 simp[List.lookup_cons,this]
def y_t(w h:Int)(T:List Th)(D:List Dy):aX ["Yard"] (Str.ofString "things") (Z0 w h T D)=some (.lst (T.map aV)):=by
 have e1:(Str.ofString "things" == Str.ofString "width")=false:=by decide +kernel
 have e2:(Str.ofString "things" == Str.ofString "height")=false:=by decide +kernel
 unfold aX Z0
 simp[List.lookup_cons,e1,e2]
def y_d(w h:Int)(T:List Th)(D:List Dy):aX ["Yard"] (Str.ofString "days") (Z0 w h T D)=some (.lst (D.map cG)):=by
 have e1:(Str.ofString "days" == Str.ofString "width")=false:=by decide +kernel
 have e2:(Str.ofString "days" == Str.ofString "height")=false:=by decide +kernel
 have e3:(Str.ofString "days" == Str.ofString "things")=false:=by decide +kernel
 unfold aX Z0
 simp[List.lookup_cons,e1,e2,e3]
def Z1w(D:List Dy)(hD:D.length<=100000)(s0 s1 s2:P.Slot):Ŕ (gT 3 (ę (gN 0) (ę (gN 1) (ę (gN 2) Ř)))) Ŏ (Ŧ (Ĉ (Ĥ 0) (Ĉ (Ĥ 1) (Ĉ (Ė (qF gK (Ĉ (ā 2) ĝ))) ĝ)))) (D.map cG) [s0,s1,s2] []=some (D.map cG):=by
 have h:=ŉ (g:=gT 3 (ę (gN 0) (ę (gN 1) (ę (gN 2) Ř)))) (mt:=Ŏ) (me:=Ŧ (Ĉ (Ĥ 0) (Ĉ (Ĥ 1) (Ĉ (Ė (qF gK (Ĉ (ā 2) ĝ))) ĝ)))) cG cG (λρ=>∃a b c,ρ=[a,b,c]) D [s0,s1,s2] [] ⟨_,_,_,rfl⟩ (by simp;omega) (by
  rintro d _ ρ ⟨a,b,c,rfl⟩
  refine⟨[.sh (.str d.1),.sh (.int d.2.1),.sh (.lst (d.2.2.map jN))],[.sh (.str d.1),.sh (.int d.2.1),.sh (.lst (d.2.2.map jN))],[.sh (.str d.1),.sh (.int d.2.1),.sh (.lst (d.2.2.map jN))],by simp[cG],rfl,by simp[cG],_,_,_,rfl⟩)
 simpa using h
def Z0U(w h:Int){T:List Th}{D:List Dy}(hT:T.length<=100000)(hD:D.length<=100000){s3 s4:P.Slot}(h3:Sl s3 (T.map aV))(h4:Sl s4 (D.map cG)):lJ [.sh (.int w),.sh (.int h),s3,s4]=.ok ["width","height","things","days"] [.int w,.int h,.lst (T.map aV),.lst (D.map cG)]:=by
 have c:=Z1w D hD .no .no .no
 generalize hx:T.map aV=tx at *
 generalize hy:D.map cG=dx at *
 rcases h3 with rfl|rfl<;>rcases h4 with rfl|rfl<;>simp[lJ,gM,DP,mz,IR.of,List.replicate,putN,Ag,ywh,ywt,ywd,yht,yhd,ytd,c]
def Z2W{k q w:Nat}(hw:0<w):(q*w<=k/\k-q*w<w)↔k / w=q:=by
 constructor
 ·rintro ⟨a,b⟩
  exact Nat.div_eq_of_lt_le a (by rw[Nat.add_mul];omega)
 ·rintro rfl
  have h1:=Nat.div_mul_le_self k w
  have h2:=Nat.mod_lt k hw
  have h3:=Nat.mod_eq_sub_div_mul (x:=k) (k:=w)
  omega
def Z2X{k q w:Nat}(h:k / w=q):k-q*w=k % w:=by
 subst h
 exact(Nat.mod_eq_sub_div_mul).symm
def Z38{k w h:Nat}(hw:0<w):k / w<h↔k<w*h:=by
 rw[Nat.div_lt_iff_lt_mul hw,Nat.mul_comm]
def nu(w k:Nat):Hu.Pt:=(((k % w:Nat):Int),((k / w:Nat):Int))
def Z2u{S:List Hu.Pt}{r:P3}{p q:Int}:inR (Hu.Zi S) (2*r.2.2) q p↔(Hu.Zy S (cst r (wB (p,q)))).isNone=true:=by
 have e:cst r (wB (p,q))=(2*r.2.2*p,2*r.2.2*q):=by
  unfold cst wB
  simp only[Int.mul_zero,Int.add_zero,Prod.mk.injEq]
  constructor<;>grind
 rw[e]
 unfold Hu.Zy inR Hu.hd
 rw[Option.isNone_iff_eq_none,List.find?_eq_none]
 simp
theorem ZZ{α:Type}(y:α):∀(xs b:List α),y∈xs.foldl (λb x=>x::b) b↔(y∈xs\/y∈b)
 | [],b=>by simp
 |x::xs,b=>by rw[List.foldl_cons,ZZ y xs (x::b)];simp;grind
def zL(t:Th)(s:Hu.Pt)(r:P3):Bool:=shB t.1 t.2 s r
def Z1x{w h:Nat}(hw:0<w)(hw2:w<=60)(hh:h<=1000)(T:List Th)(Ds:List Dy){t:Th}(hg:Z1 t.1 t.2=true){r:P3}(hr:RB r)(hz:0<r.2.2) :
 ∃D:Nat,vY [.sh (Z0 w h T Ds),.sh (aV t),.sh (c3 r)]=.ret (.sh (.int D))/\∀k,D.testBit k=(decide (k<w*h) && zL t (nu w k) r):=by
 obtain⟨g1,g2,g3⟩:=Z0u hg
 have hc:=Z0t hg (by omega) hr
 have hS:∀p∈(Zb t.1 t.2).map (cst r),Sm p:=by
  intro p hp
  obtain⟨q,hq,rfl⟩:=List.mem_map.mp hp
  exact Z0s hr (g3 q hq)
 have hl:=Z0o (sl:=.sh (.lst (((Zb t.1 t.2).map (cst r)).map pt))) (.inl rfl) hS (by simpa using g2) (by simp;omega)
 have hls:∀l∈Hu.Zi ((Zb t.1 t.2).map (cst r)),SmL l:=λl h=>Z1t h hS
 have yw:=y_w w h T Ds
 have yh:=y_h w h T Ds
 have hv:(2:Int)*r.2.2<=10000000:=by have:=hr.2.2.2.2.2;omega
 generalize hX:Hu.Zi ((Zb t.1 t.2).map (cst r))=X at *
 generalize hY:Z0 w h T Ds=Y at *
 have hr2:Ę (c3 r) (.int 2)=some (.int r.2.2):=by simp[c3]
 obtain⟨ρ',e1,D,s5,rfl,hD⟩:=fY (g:=gN 5) (mb:=yV) (λ(q:Nat)=>PV.int q) (λ(b:List Nat) (x:Nat)=>x::b) (λb ρ=>∃(D:Nat) (s5:P.Slot),ρ=[.sh Y,.sh (aV t),.sh (c3 r),.ow (X.map gD),.sh (.int D),s5]/\∀k,D.testBit k=true↔(k / w∈b/\zL t (nu w k) r=true)) (List.range h) (by
  rintro q hq b ρ ⟨D,s5,rfl,hD⟩
  have hq:=List.mem_range.mp hq
  obtain⟨B,b1,b2⟩:=Z2V (u:=2*r.2.2) (q:=q) (w:=w) (by omega) hv (by omega) (by omega) (by omega) hls (sl:=.bw (X.map gD)) (.inr rfl)
  have hB:B<2 ^ w:=Z15 λk hk=>by
   have:=b2 k
   cases e:B.testBit k with
   |false=>rfl
   |true=>have:=(this.mp e).1;omega
  have hB2:B<2 ^ 60:=Nat.lt_of_lt_of_le hB (Nat.pow_le_pow_right (by omega) hw2)
  have hqw:q*w<=1000*60:=Nat.mul_le_mul (by omega) hw2
  have so:iW (B:Int) ((q:Int)*(w:Int))=true:=by
   have:((q:Int)*(w:Int))=((q*w:Nat):Int):=by simp
   rw[this]
   unfold iW
   simp
   omega
  have mo:Ť (q:Int) (w:Int)=true:=cJ (by omega) (by omega)
  have tn:((q:Int)*(w:Int)).toNat=q*w:=by
   have:((q:Int)*(w:Int))=((q*w:Nat):Int):=by simp
   rw[this];rfl
  obtain⟨Z,hZ⟩:∃Z:Nat,Z=D ||| B*2 ^ (q*w):=⟨_,rfl⟩
  have oe:Builtin.bitOr (D:Int) ((B:Int)*2 ^ (q*w))=(Z:Int):=by
   have ee:(B:Int)*2 ^ (q*w)=((B*2 ^ (q*w):Nat):Int):=by simp
   rw[ee,Z03,hZ]
  have m2:Ť 2 r.2.2=true:=cJ (by omega) (by omega)
  generalize c3 r=R at *
  have st:yV [.sh Y,.sh (aV t),.sh R,.ow (X.map gD),.sh (.int D),.sh (.int q)]=.ok .nx [.sh Y,.sh (aV t),.sh R,.ow (X.map gD),.sh (.int Z),.sh (.int q)]:=by
   simp[yV,hr2,yw,m2,b1,mo,so,tn,oe]
  refine⟨_,_,rfl,st,_,_,rfl,λk=>?_⟩
  rw[hZ,Nat.testBit_or,Bool.or_eq_true,hD,Nat.testBit_mul_two_pow,Bool.and_eq_true,decide_eq_true_eq,b2,List.mem_cons,<-hX,Z2u]
  have key:∀(_:k / w=q),((Hu.Zy ((Zb t.1 t.2).map (cst r)) (cst r (wB (((k-q*w:Nat):Int),(q:Int))))).isNone=true↔zL t (nu w k) r=true):=by
   intro hk
   unfold zL shB nu
   rw[Z2X hk,hk]
  have d:=Z2W (k:=k) (q:=q) hw
  constructor
  ·rintro (⟨a,b⟩|⟨a,b,c⟩)
   ·exact⟨.inr a,b⟩
   ·have:=d.mp ⟨a,b⟩
    exact⟨.inl this,(key this).mp c⟩
  ·rintro ⟨a|a,b⟩
   ·have:=d.mpr a
    exact .inr ⟨this.1,this.2,(key a).mpr b⟩
   ·exact .inl ⟨a,b⟩) [] [.sh Y,.sh (aV t),.sh (c3 r),.ow (X.map gD),.sh (.int ((0:Nat):Int)),.no] ⟨0,.no,rfl,by simp⟩
 refine⟨D,?_,λk=>?_⟩
 ·have rr:=Zp hh
  have hc':vR [.sh (aV t),.sh (c3 r)]=.ret (.ow (((Zb t.1 t.2).map (cst r)).map pt)):=hc
  generalize c3 r=R at *
  generalize aV t=Tv at *
  simp[vY,Fo,List.replicate,hc',hl,yh,rr,-List.map_map] at e1 ⊢
  simp[e1]
 ·have:=hD k
  rw[ZZ,List.mem_range,Z38 hw] at this
  rw[Bool.eq_iff_iff,this,Bool.and_eq_true,decide_eq_true_eq]
  simp
def Z2:Nat->(Nat->Bool)->Nat
 |0,_=>0
 |n+1,p=>Z2 n p+if p n then 2 ^ n else 0
theorem ZB(p:Nat->Bool):∀n,Z2 n p<2 ^ n
 |0=>by simp[Z2]
 |n+1=>by
  have:=ZB p n
  unfold Z2
  rw[Nat.pow_succ]
  split<;>omega
theorem Zm(p:Nat->Bool):∀n k,(Z2 n p).testBit k=(decide (k<n) && p k)
 |0,k=>by simp[Z2]
 |n+1,k=>by
  have hl:=ZB p n
  unfold Z2
  by_cases h:k<n
  ·have ih:=Zm p n k
   have h1:k<n+1:=by omega
   split
   ·rw[Nat.add_comm,Nat.testBit_two_pow_add_gt h,ih];simp[h,h1]
   ·rw[Nat.add_zero,ih];simp[h,h1]
  ·by_cases h2:k=n
   ·subst h2
    split
    ·rename_i q
     rw[Nat.add_comm,Nat.testBit_two_pow_add_eq,Nat.testBit_lt_two_pow hl];simp[q]
    ·rename_i q
     rw[Nat.add_zero,Nat.testBit_lt_two_pow hl];simp[q]
   ·have h3:¬k<n+1:=by omega
    have:Z2 n p+(if p n=true then 2 ^ n else 0)<2 ^ k:=by
     refine Nat.lt_of_lt_of_le (ZB p (n+1)) (Nat.pow_le_pow_right (by omega) (by omega))
    rw[Nat.testBit_lt_two_pow this]
    simp[h3]
def Z00{n:Nat}{p:Nat->Bool}{D:Nat}(h:∀k,D.testBit k=(decide (k<n) && p k)):D=Z2 n p:=Nat.eq_of_testBit_eq λk=>by rw[h,Zm]
def dk1(w h:Nat)(r:P3)(t:Th):Nat:=Z2 (w*h) λk=>zL t (nu w k) r
def TF(w:Nat)(T:List Th):Option P3->Nat->Bool
 |none,_=>true
 |some r,k=>T.any λt=>zL t (nu w k) r
def dkA(w h:Nat)(T:List Th)(o:Option P3):Nat:=Z2 (w*h) (TF w T o)
def Qz(o:Option P3):Prop:=match o with|none=>True|some r=>RB r/\0<r.2.2
def Z16{w h:Nat}(hw:0<w)(hw2:w<=60)(hh:h<=1000)(T:List Th)(Ds:List Dy){t:Th}(hg:Z1 t.1 t.2=true){r:P3}(hr:RB r)(hz:0<r.2.2) :
 vY [.sh (Z0 w h T Ds),.sh (aV t),.sh (c3 r)]=.ret (.sh (.int (dk1 w h r t))):=by
 obtain⟨D,h1,h2⟩:=Z1x hw hw2 hh T Ds hg hr hz
 rw[h1,Z00 h2]
 rfl
def Z1W{w h:Nat}(hw:0<w)(hw2:w<=60)(hh:h<=1000){T:List Th}(hT:T.length<=1000)(Ds:List Dy)(hg:∀t∈T,Z1 t.1 t.2=true){r:P3}(hr:RB r)(hz:0<r.2.2) :
 Ti [.sh (Z0 w h T Ds),.sh (c3 r)]=.ret (.ow (T.map λt=>.int (dk1 w h r t))):=by
 have yt:=y_t w h T Ds
 have hc:=ŉ (g:=gN 2) (mt:=Ŏ) (me:=Ė (Ē vY (Ą 0 (Ą 2 (Ą 1 Ď))))) aV (λt=>.int (dk1 w h r t)) (λρ=>∃s,ρ=[.sh (Z0 w h T Ds),.sh (c3 r),s]) T [.sh (Z0 w h T Ds),.sh (c3 r),.no] [] ⟨_,rfl⟩ (by simp;omega) (by
  rintro t ht ρ ⟨s,rfl⟩
  have e:=Z16 hw hw2 hh T Ds (hg t ht) hr hz
  generalize Z0 w h T Ds=Y at *
  generalize c3 r=R at *
  generalize aV t=Tv at *
  refine⟨_,_,_,rfl,rfl,by simp[e];rfl,_,rfl⟩)
 generalize Z0 w h T Ds=Y at *
 generalize c3 r=R at *
 simp[Ti,Oj,List.replicate,yt]
 simp at hc
 simp[hc]
def Z2v{w h:Nat}(hw:0<w)(hw2:w<=60)(hh:h<=1000)(hwh:w*h<=1000){T:List Th}(hT:T.length<=1000)(Ds:List Dy)(hg:∀t∈T,Z1 t.1 t.2=true){o:Option P3}(ho:Qz o) :
 vZ [.sh (Z0 w h T Ds),.sh (jN o)]=.ret (.sh (.int (dkA w h T o))):=by
 have yw:=y_w w h T Ds
 have yh:=y_h w h T Ds
 have mo:Ť (w:Int) (h:Int)=true:=cJ (by omega) (by omega)
 cases o with
 |none=>
  obtain⟨B,b1,b2⟩:=Z0S (f:=0) (l:=(w:Int)*h-1) (w:=w*h) (by omega) (by rw[Int.natCast_mul];omega) hwh
  have:B=dkA w h T none:=Z00 λk=>by
   rw[b2]
   simp[TF]
   have:((w*h:Nat):Int)=(w:Int)*h:=by simp
   omega
  subst this
  generalize Z0 w h T Ds=Y at *
  simp[vZ,yW,List.replicate,jN,yw,yh,mo,b1,uJ]
 |some r=>
  have ho:RB r/\0<r.2.2:=ho
  have hd:=Z1W hw hw2 hh hT Ds hg ho.1 ho.2
  obtain⟨ρ',e1,D,s3,rfl,hD⟩:=fY (g:=gN 3) (mb:=Fp) (λ(t:Th)=>PV.int (dk1 w h r t)) (λ(b:List Th) (x:Th)=>x::b) (λb ρ=>∃(D:Nat) (s3:P.Slot),ρ=[.sh (Z0 w h T Ds),.sh (c3 r),.sh (.int D),s3]/\∀k,D.testBit k=true↔(k<w*h/\∃t∈b,zL t (nu w k) r=true)) T (by
   rintro t ht b ρ ⟨D,s3,rfl,hD⟩
   refine⟨_,_,rfl,by simp[Fp,Z03];exact⟨rfl,rfl⟩,_,_,rfl,λk=>?_⟩
   rw[Nat.testBit_or,Bool.or_eq_true,hD,dk1,Zm,Bool.and_eq_true,decide_eq_true_eq]
   simp
   grind) [] [.sh (Z0 w h T Ds),.sh (c3 r),.sh (.int ((0:Nat):Int)),.no] ⟨0,.no,rfl,by simp⟩
  have:D=dkA w h T (some r):=Z00 λk=>by
   have:=hD k
   rw[Bool.eq_iff_iff,this]
   simp only[ZZ,TF,List.not_mem_nil,or_false,Bool.and_eq_true,decide_eq_true_eq,List.any_eq_true]
  subst this
  have hn:uK (c3 r) .non=some (.bl false):=by simp[c3,uJ]
  generalize Z0 w h T Ds=Y at *
  show vZ [.sh Y,.sh (c3 r)]=_
  simp at e1
  generalize c3 r=R at *
  have hn:uJ R=false:=by simpa using hn
  simp[vZ,yW,List.replicate,hd,hn,e1]
def Zv(ns:List Int)(k:Nat):cN [.sh (.lst (ns.map .int)),.sh (.int k)]=.ret (.sh (.int (ns.getD k 0))):=by
 by_cases h:k<ns.length
 ·have h':(k:Int)<(ns.length:Int):=by omega
  simp[cN,yc,List.replicate,h',List.getElem?_eq_getElem h]
 ·have h':¬(k:Int)<(ns.length:Int):=by omega
  simp[cN,yc,List.replicate,h',List.getElem?_eq_none (Nat.le_of_not_lt h)]
@[simp] theorem ZJ(ns:List Int)(k:Nat):cN [.sh (.lst (ns.map .int)),.sh (.int (no_index (OfNat.ofNat k)))]=.ret (.sh (.int (ns.getD k 0))):=Zv ns k
def Gr(x:Int):Prop:=0<=x/\x<524288
theorem Zr(c:Int)(s1:P.Slot):∀(ks:List Nat) (acc:List Int) (n:Int) (s4:P.Slot),acc.length+ks.length<=100000->(∀k∈ks,k<=100000)->(∀x∈acc,Gr x)->∃(acc':List Int) (n':Int) (Qy:P.Slot),forL (gN 4) pD (ks.map λ(i:Nat)=>PV.int (i:Int)) [.sh (.int c),s1,.ow (acc.map .int),.sh (.int n),s4]=.ok .nx [.sh (.int c),s1,.ow (acc'.map .int),.sh (.int n'),Qy]/\acc'.length=acc.length+ks.length/\∀x∈acc',Gr x
 | [],acc,n,s4,_,_,h=>⟨acc,n,s4,rfl,rfl,h⟩
 |k::ks,acc,n,s4,hl,hk,h=>by
  have hk0:=hk k List.mem_cons_self
  have hl0:acc.length<16777216:=by simp at hl;omega
  rw[List.map_cons,forL]
  have hg:gN 4 (PV.int (k:Int)) [.sh (.int c),s1,.ow (acc.map .int),.sh (.int n),s4]=some [.sh (.int c),s1,.ow (acc.map .int),.sh (.int n),.sh (.int k)]:=rfl
  rw[hg]
  dsimp only
  by_cases h0:c % 2=0
  ·have e:pD [.sh (.int c),s1,.ow (acc.map .int),.sh (.int n),.sh (.int k)]=.ok .nx [.sh (.int c),s1,.ow ((acc ++ [n % 524287]).map .int),.sh (.int (n / 524287)),.sh (.int k)]:=by
    simp[pD,h0,hl0]
   rw[e]
   obtain⟨a,b,d,q1,q2,q3⟩:=Zr c s1 ks (acc ++ [n % 524287]) (n / 524287) (.sh (.int k)) (by simp at hl ⊢;omega) (λx hx=>hk x (List.mem_cons_of_mem _ hx)) (by
    intro x hx
    rcases List.mem_append.mp hx with hx|hx
    ·exact h x hx
    ·rw[List.mem_singleton.mp hx];unfold Gr;omega)
   exact⟨a,b,d,q1,by simp at q2 ⊢;omega,q3⟩
  ·obtain⟨m,hm⟩:∃m,(n*49157+24593+2*(k:Int)) % 8388593=m:=⟨_,rfl⟩
   have e:pD [.sh (.int c),s1,.ow (acc.map .int),.sh (.int n),.sh (.int k)]=.ok .nx [.sh (.int c),s1,.ow ((acc ++ [m / 16]).map .int),.sh (.int m),.sh (.int k)]:=by
    simp[pD,h0,hl0,hm]
   rw[e]
   obtain⟨a,b,d,q1,q2,q3⟩:=Zr c s1 ks (acc ++ [m / 16]) m (.sh (.int k)) (by simp at hl ⊢;omega) (λx hx=>hk x (List.mem_cons_of_mem _ hx)) (by
    intro x hx
    rcases List.mem_append.mp hx with hx|hx
    ·exact h x hx
    ·rw[List.mem_singleton.mp hx];unfold Gr;omega)
   exact⟨a,b,d,q1,by simp at q2 ⊢;omega,q3⟩
def ZK(c:Int){n:Nat}(hn:n<=1000):∃xs:List Int,nZ [.sh (.int c),.sh (.int n)]=.ret (.ow (xs.map .int))/\xs.length=n/\∀x∈xs,Gr x:=by
 have rr:=Zp hn
 by_cases h:c % 2=1
 ·obtain⟨a,b,d,q1,q2,q3⟩:=Zr c (.sh (.int n)) (List.range n) [] (c / 2 % 8388593) .no (by simp;omega) (λk hk=>by have:=List.mem_range.mp hk;omega) (by simp)
  refine⟨a,?_,by simpa using q2,q3⟩
  simp at q1
  simp[nZ,yg,List.replicate,h,rr,q1]
 ·obtain⟨a,b,d,q1,q2,q3⟩:=Zr c (.sh (.int n)) (List.range n) [] (c / 2) .no (by simp;omega) (λk hk=>by have:=List.mem_range.mp hk;omega) (by simp)
  refine⟨a,?_,by simpa using q2,q3⟩
  simp at q1
  simp[nZ,yg,List.replicate,h,rr,q1]
def Pl(x:Int):Prop:=-1000000000+50<=x/\x<=1000000000-50
def Zn(n:Int){w:Int}(h1:1<=w)(h2:w<=1000):∃x:Int,mG [.sh (.int n),.sh (.int w)]=.ret (.sh (.int x))/\Pl x:=by
 by_cases h:n / 512 % 16=5
 ·exact⟨n*3813 % 1999999901-1000000000+50,by simp[mG,yR,List.replicate,h],by unfold Pl;omega⟩
 ·have m0:¬(2*w+9=0):=by omega
  have p:=Int.emod_nonneg n (show(2*w+9)≠0 by omega)
  have q:=Int.emod_lt_of_pos n (show 0<(2*w+9) by omega)
  have e:n.fmod (2*w+9)=n % (2*w+9):=Int.fmod_eq_emod_of_nonneg n (by omega)
  exact⟨n % (2*w+9)-4,by simp[mG,yR,List.replicate,h,m0,e],by unfold Pl;omega⟩
def Z04(n:Int):∃x:Int,vV [.sh (.int n)]=.ret (.sh (.int x))/\1<=x/\x<=1000000000:=by
 by_cases h:n / 512 % 12=7
 ·exact⟨1+n*1907 % 1000000000,by simp[vV,yQ,List.replicate,h],by omega,by omega⟩
 ·exact⟨1+n % 9,by simp[vV,yQ,List.replicate,h],by omega,by omega⟩
def Z1y{x y h:Int}(a:Pl x)(b:Pl y)(c:1<=h/\h<=1000000000):Z1 "post" [x / 2,y / 2,h]=true:=by
 unfold Pl at a b
 unfold Z1 Zg cD BZ
 simp
 omega
def QB{a b:String}(h:decide (Str.ofString a=Str.ofString b)=false):¬(Str.ofString a=Str.ofString b):=of_decide_eq_false h
def Z17{x y u v h:Int}(a:Pl x)(b:Pl y)(hu: -4<=u/\u<=4)(hv: -4<=v/\v<=4)(c:1<=h/\h<=1000000000)(e:Int)(he:e=if u=0/\v=0 then 1 else 0):Z1 "fence" [x,y,x+u+e,y+v,h]=true:=by
 have h1:¬(Str.ofString "fence" =Str.ofString "post"):=QB (by decide +kernel)
 unfold Pl at a b
 unfold Z1
 rw[if_neg h1,if_pos rfl]
 unfold Ze Zh cD BZ
 simp
 split at he<;>omega
def Z0w{w:Str}(hw:w= "sail" \/w= "house"){x y u v h:Int}(a:Pl x)(b:Pl y)(hu:0<=u/\u<=8)(hv:0<=v/\v<=8)(c:1<=h/\h<=1000000000):Z1 w [x,y,x+1+u,y+1+v,h]=true:=by
 have hb:Z9 [x,y,x+1+u,y+1+v,h]=true:=by
  unfold Pl at a b
  unfold Z9 Zh cD BZ
  simp
  omega
 unfold Z1
 rcases hw with rfl|rfl
 ·rw[if_neg (QB (by decide +kernel)),if_neg (QB (by decide +kernel)),if_pos rfl]
  exact hb
 ·rw[if_neg (QB (by decide +kernel)),if_neg (QB (by decide +kernel)),if_neg (QB (by decide +kernel)),if_neg (QB (by decide +kernel)),if_pos rfl]
  exact hb
def Z18{x y z a b c d e f:Int}(h1:Pl x)(h2:Pl y)(h3:0<=z/\z<=1000000000)(h4:Pl a)(h5:Pl b)(h6:1<=c/\c<=1000000000)(h7:Pl d)(h8:Pl e)(h9:1<=f/\f<=1000000000):Z1 "cloth" [x,y,z,a,b,c,d,e,f]=true:=by
 unfold Z1
 rw[if_neg (QB (by decide +kernel)),if_neg (QB (by decide +kernel)),if_neg (QB (by decide +kernel)),if_pos rfl]
 unfold Pl at *
 unfold Zf cD B_
 simp
 omega
theorem Z39:∀(xs:List Int),xs.length=14->∃a b c d e f g h i j k l m n,xs=[a,b,c,d,e,f,g,h,i,j,k,l,m,n]
 | [a,b,c,d,e,f,g,h,i,j,k,l,m,n],_=>⟨a,b,c,d,e,f,g,h,i,j,k,l,m,n,rfl⟩
def Z3a(x y:Hu.Pt):aD (pt x) (pt y)=some (.bl (decide (x=y))):=by
 unfold aD wX
 rw[ZP,ZP,ZG,ZG,Z0l]
 rfl
def Z0x:bT [.int 2]=some [.int 0,.int 1]:=by rfl
def Z0d(c:Int){w:Int}(hw1:1<=w)(hw2:w<=1000):∃t:Th,jD [.sh (.int c),.sh (.int w)]=.ret (.sh (.tup [.str t.1,.lst (t.2.map .int)]))/\Z1 t.1 t.2=true:=by
 obtain⟨xs,eg,hl,hx⟩:=ZK c (n:=14) (by omega)
 obtain⟨x0,x1,x2,x3,x4,x5,x6,x7,x8,x9,x10,x11,x12,x13,rfl⟩:=Z39 xs hl
 clear hl hx
 obtain⟨p0,e0,q0⟩:=Zn x0 hw1 hw2
 obtain⟨p1,e1,q1⟩:=Zn x1 hw1 hw2
 obtain⟨z,ez,qz⟩:=Z04 x2
 have eg':nZ [.sh (.int c),.sh (.int 14)]=.ret (.ow [.int x0,.int x1,.int x2,.int x3,.int x4,.int x5,.int x6,.int x7,.int x8,.int x9,.int x10,.int x11,.int x12,.int x13]):=eg
 clear eg
 have hc:Ŕ (gN 2) Ŏ (Ė (Ē mG (Ĕ (ć Ę (ā 1) (ā 2)) (Ą 0 Ď)))) [PV.int 0,PV.int 1] [.sh (.int w),.bw [.int x0,.int x1,.int x2,.int x3,.int x4,.int x5,.int x6,.int x7,.int x8,.int x9,.int x10,.int x11,.int x12,.int x13],.no] []=some [.int p0,.int p1]:=by
  simp[Ŕ,e0,e1]
 have k:0<=x3 % 5/\x3 % 5<5:=by omega
 obtain⟨kd,hkd⟩:∃kd,x3 % 5=kd:=⟨_,rfl⟩
 rw[hkd] at k
 by_cases k0:kd=0
 ·refine⟨("post",[p0 / 2,p1 / 2,z]),?_,Z1y q0 q1 qz⟩
  simp[jD,mZ,List.replicate,eg',Z0x,hc,ez,hkd,k0]
 ·by_cases k1:kd=1
  ·refine⟨("fence",[p0,p1,p0+(x4 % 9-4)+(if x4 % 9-4=0/\x5 % 9-4=0 then 1 else 0),p1+(x5 % 9-4),z]),?_,Z17 q0 q1 (by omega) (by omega) qz _ rfl⟩
   have hq:=Z3a (p0,p1) (p0+x4 % 9-4,p1+x5 % 9-4)
   unfold pt at hq
   dsimp only at hq
   have hi:(if x4 % 9-4=0/\x5 % 9-4=0 then(1:Int) else 0)=if decide ((p0,p1)=(p0+x4 % 9-4,p1+x5 % 9-4))=true then 1 else 0:=by
    simp only[decide_eq_true_eq,Prod.mk.injEq]
    split<;>split<;>omega
   generalize decide ((p0,p1)=(p0+x4 % 9-4,p1+x5 % 9-4))=bb at *
   have a1:p0+(x4 % 9-4)=p0+x4 % 9-4:=by omega
   have a2:p1+(x5 % 9-4)=p1+x5 % 9-4:=by omega
   rw[a1,a2,hi]
   cases bb<;>simp[jD,mZ,List.replicate,eg',Z0x,hc,ez,hkd,k1,hq]
  ·by_cases k2:kd=2
   ·obtain⟨p7,e7,q7⟩:=Zn x7 hw1 hw2
    obtain⟨p8,e8,q8⟩:=Zn x8 hw1 hw2
    obtain⟨p9,e9,q9⟩:=Zn x9 hw1 hw2
    obtain⟨p10,e10,q10⟩:=Zn x10 hw1 hw2
    obtain⟨z2,ez2,qz2⟩:=Z04 x11
    refine⟨("cloth",[p0,p1,x6 % 10,p7,p8,z,p9,p10,z2]),?_,Z18 q0 q1 (by omega) q7 q8 qz q9 q10 qz2⟩
    simp[jD,mZ,List.replicate,eg',Z0x,hc,ez,hkd,k2,e7,e8,e9,e10,ez2,add_l]
   ·by_cases k3:kd=3
    ·refine⟨("sail",[p0,p1,p0+1+x4 % 8,p1+1+x5 % 8,z]),?_,Z0w (.inl rfl) q0 q1 (by omega) (by omega) qz⟩
     simp[jD,mZ,List.replicate,eg',Z0x,hc,ez,hkd,k3]
    ·have k4:kd=4:=by omega
     refine⟨("house",[p0,p1,p0+1+x4 % 8,p1+1+x5 % 8,z]),?_,Z0w (.inr rfl) q0 q1 (by omega) (by omega) qz⟩
     simp[jD,mZ,List.replicate,eg',Z0x,hc,ez,hkd,k4]
def Z2w{α:Type}(xs:List α)(a b:Nat)(h1:a<=b)(h2:b<=xs.length):eZ xs (some (a:Int)) (some (b:Int))=(xs.drop a).take (b-a):=by
 unfold eZ
 rw[HT.qT,HT.qT,Nat.min_eq_left h2,Nat.min_eq_left (Nat.le_trans h1 h2)]
theorem Z3k:∀(xs:List Int),xs.length=5->∃a b c d e,xs=[a,b,c,d,e]
 | [a,b,c,d,e],_=>⟨a,b,c,d,e,rfl⟩
def Z2Y{xs:List Int}(h:xs.length=5):∃o:Option P3,sW [.sh (.lst (xs.map .int))]=.ret (.sh (jN o))/\Qz o:=by
 obtain⟨a,b,c,d,e,rfl⟩:=Z3k xs h
 by_cases he:e % 6=4
 ·exact⟨none,by simp[sW,yj,List.replicate,he,jN],trivial⟩
 ·have a1:0<=a % 13/\a % 13<13:=by omega
  have b1:0<=b % 13/\b % 13<13:=by omega
  have c1:0<=c % 5/\c % 5<5:=by omega
  have go:∀s:Int,(s=1\/s=3\/s=100000)->Ę (.lst [.int 1,.int 1,.int 3,.int 100000]) (.int (d % 4))=some (.int s)->∃o:Option P3,sW [.sh (.lst ([a,b,c,d,e].map .int))]=.ret (.sh (jN o))/\Qz o:=by
   intro s hs hx
   have m1:∀x:Int,Ť x s=true:=λx=>mul_r (by omega) (by omega)
   refine⟨some ((a % 13-6)*s,(b % 13-6)*s,(1+c % 5)*s),?_,?_⟩
   ·simp[sW,yj,List.replicate,he,jN,hx,m1,c3]
   ·rcases hs with rfl|rfl|rfl<;>refine⟨⟨?_,?_,?_,?_,?_,?_⟩,?_⟩<;>dsimp only<;>omega
  have hd:d % 4=0\/d % 4=1\/d % 4=2\/d % 4=3:=by omega
  rcases hd with hd|hd|hd|hd
  ·exact go 1 (by omega) (by rw[hd];rfl)
  ·exact go 1 (by omega) (by rw[hd];rfl)
  ·exact go 3 (by omega) (by rw[hd];rfl)
  ·exact go 100000 (by omega) (by rw[hd];rfl)
def Z1X(t:Int)(h:0<=t)(h2:t<12)(N:List Str)(hN:N.length=12):∃L:List Str,Ķ (.lst (eZ (N.map PV.str) (some t) none)) (.lst (eZ (N.map PV.str) none (some t)))=some (.ow (L.map .str))/\L.length=12:=by
 obtain⟨k,rfl⟩:=Int.eq_ofNat_of_zero_le h
 have e1:eZ (N.map PV.str) (some (k:Int)) none=(N.drop k).map PV.str:=by
  unfold eZ
  rw[HT.qT,List.length_map,Nat.min_eq_left (by omega)]
  show List.take (N.length-k) _=_
  rw[<-List.map_drop]
  exact List.take_of_length_le (by simp)
 have e2:eZ (N.map PV.str) none (some (k:Int))=(N.take k).map PV.str:=by
  unfold eZ
  rw[HT.qT,List.length_map,Nat.min_eq_left (by omega)]
  show List.take (k-0) (List.drop 0 _)=_
  simp[List.map_take]
 rw[e1,e2,add_l (by simp;omega)]
 exact⟨N.drop k++N.take k,by simp,by simp;omega⟩
def Zj(lg:Nat)(d:Dy):Prop:=(1<=d.2.1/\d.2.1<=1000000000)/\(1<=d.2.2.length/\d.2.2.length<=lg)/\∀o∈d.2.2,Qz o
def sl5{xs:List Int}{n lg j:Nat}(hl:xs.length=5*lg+2)(hj:j<lg):∃ys:List Int,eZ (xs.map PV.int) (some (2+5*(j:Int))) (some (7+5*(j:Int)))=ys.map .int/\ys.length=5:=by
 refine⟨(xs.drop (2+5*j)).take 5,?_,by simp;omega⟩
 have:=Z2w (xs.map PV.int) (2+5*j) (7+5*j) (by omega) (by simp;omega)
 have e1:((2+5*j:Nat):Int)=2+5*(j:Int):=by omega
 have e2:((7+5*j:Nat):Int)=7+5*(j:Int):=by omega
 rw[e1,e2] at this
 rw[this,List.map_take,List.map_drop]
 congr 1
 omega
theorem Z0y{xs:List Int}{lg:Nat}(hl:xs.length=5*lg+2)(hlg:lg<=100):∀(js:List Nat),(∀j∈js,j<lg)->∀(acc:List PV) (s1:P.Slot),acc.length+js.length<=1000->∃os:List (Option P3),Ŕ (gN 1) Ŏ (Ė (Ē sW (Ĕ (Ė (Ad (ā 0) (mP (Ė (ĺ Ķ (mC (.int 2)) (ć Ĺ (mC (.int 5)) (ā 1))))) (mP (Ė (ĺ Ķ (mC (.int 7)) (ć Ĺ (mC (.int 5)) (ā 1))))))) Ď))) (js.map λ(i:Nat)=>PV.int (i:Int)) [.bw (xs.map .int),s1] acc=some (acc++os.map jN)/\os.length=js.length/\∀o∈os,Qz o
 | [],_,acc,s1,_=>⟨[],by simp[Ŕ],rfl,by simp⟩
 |j::js,hj,acc,s1,ha=>by
  obtain⟨ys,e1,e2⟩:=sl5 (n:=0) hl (hj j List.mem_cons_self)
  obtain⟨o,e3,e4⟩:=Z2Y e2
  obtain⟨os,q1,q2,q3⟩:=Z0y hl hlg js (λx hx=>hj x (List.mem_cons_of_mem _ hx)) (acc ++ [jN o]) (.sh (.int j)) (by simp at ha ⊢;omega)
  refine⟨o::os,?_,by simp[q2],?_⟩
  ·have hz:acc.length<16777216:=by simp at ha;omega
   generalize xs.map PV.int=X at *
   generalize ys.map PV.int=Y at *
   rw[List.map_cons,Ŕ]
   simp[RW,e1,e3,hz]
   simpa using q1
  ·intro x hx
   rcases List.mem_cons.mp hx with rfl|hx
   ·exact e4
   ·exact q3 x hx
def Z1Y(ns:List Int){k lg:Nat}(hk:k<12)(hlg:lg<=100)(hl0:0<lg){L:List Str}(hL:L.length=12)(s2 s5 s8 s9:P.Slot)(D:List Dy)(hD:D.length<=12) :
 ∃(d:Dy) (JV JW:P.Slot),yq [.sh (.lst (ns.map .int)),.sh (.int 4),s2,.sh (.int lg),.ow (L.map .str),s5,.ow (D.map cG),.sh (.int k),s8,s9]=.ok .nx [.sh (.lst (ns.map .int)),.sh (.int 4),s2,.sh (.int lg),.ow (L.map .str),s5,.ow ((D ++ [d]).map cG),.sh (.int k),JV,JW]/\Zj lg d:=by
 have ha:=Zv ns (4+k)
 have e6:((4+k:Nat):Int)=4+(k:Int):=by omega
 rw[e6] at ha
 obtain⟨v,hv⟩:∃v,ns.getD (4+k) 0=v:=⟨_,rfl⟩
 rw[hv] at ha
 obtain⟨xs,eg,hl,hx⟩:=ZK (v / 12+5*k) (n:=5*lg+2) (by omega)
 have el:((5*lg+2:Nat):Int)=5*(lg:Int)+2:=by omega
 rw[el] at eg
 have x0:∃a,(xs.map PV.int)[0]?=some (.int a):=⟨xs[0],by simp⟩
 have x1:∃b,(xs.map PV.int)[1]?=some (.int b):=⟨xs[1],by simp⟩
 obtain⟨a,x0⟩:=x0
 obtain⟨b,x1⟩:=x1
 have hm:¬((lg:Int)=0):=by omega
 have hm2:¬lg=0:=by omega
 have hf:b.fmod (lg:Int)=b % lg:=Int.fmod_eq_emod_of_nonneg b (by omega)
 have b1:=Int.emod_nonneg b hm
 have b2:=Int.emod_lt_of_pos b (show 0<(lg:Int) by omega)
 obtain⟨m,hmm⟩:∃m:Nat,1+b % lg=(m:Int):=⟨(1+b % lg).toNat,by omega⟩
 have rr:=Zp (n:=m) (by omega)
 obtain⟨os,q1,q2,q3⟩:=Z0y hl hlg (List.range m) (λj hj=>by have:=List.mem_range.mp hj;omega) [] .no (by simp;omega)
 have hLk:(L.map PV.str)[k]?=some (.str L[k]):=by simp[hL,hk]
 refine⟨(L[k],1+a*1907 % 1000000000,os),.ow (xs.map .int),.sh (.lst (os.map jN)),?_,⟨by dsimp only;omega,by simp at q2;dsimp only;omega,q3⟩⟩
 have hz:D.length<16777216:=by omega
 rw[List.nil_append] at q1
 have hdl:(D.map cG).length=D.length:=by simp
 generalize ns.map PV.int=NS at *
 generalize xs.map PV.int=XS at *
 generalize L[k]=nm at *
 generalize hLL:L.map PV.str=LS at *
 have hmp:(D ++ [((nm,1+a*1907 % 1000000000,os):Dy)]).map cG=D.map cG ++ [.tup [.str nm,.int (1+a*1907 % 1000000000),.lst (os.map jN)]]:=by simp[cG]
 rw[hmp]
 generalize D.map cG=DS at *
 generalize hos:os.map jN=OS at *
 rw[<-hdl] at hz
 simp[yq,ha,eg,x0,x1,hm2,hf,hmm,rr,q1,hLk,hz,-ZJ]
theorem Z0e(ns:List Int){n lg:Nat}(hlg:lg<=100)(hl0:0<lg){L:List Str}(hL:L.length=12){v:Int}:∀(ks:List Nat),(∀k∈ks,k<12)->∀(D:List Dy) (s7 s8 s9:P.Slot),D.length+ks.length<=12->(∀d∈D,Zj lg d)->∃ρ',forL (gN 7) yq (ks.map λ(i:Nat)=>PV.int (i:Int)) [.sh (.lst (ns.map .int)),.sh (.int 4),.sh (.int n),.sh (.int lg),.ow (L.map .str),.sh (.int v),.ow (D.map cG),s7,s8,s9]=.ok .nx ρ'/\∃(D':List Dy) (s7 s8 s9:P.Slot),ρ'=[.sh (.lst (ns.map .int)),.sh (.int 4),.sh (.int n),.sh (.int lg),.ow (L.map .str),.sh (.int v),.ow (D'.map cG),s7,s8,s9]/\D'.length=D.length+ks.length/\∀d∈D',Zj lg d
 | [],_,D,s7,s8,s9,_,h=>⟨_,rfl,D,s7,s8,s9,rfl,rfl,h⟩
 |k::ks,hk,D,s7,s8,s9,hl,h=>by
  obtain⟨d,JV,JW,e,hd⟩:=Z1Y ns (hk k List.mem_cons_self) hlg hl0 hL (.sh (.int n)) (.sh (.int v)) s8 s9 D (by simp at hl;omega)
  obtain⟨ρ',q1,D',a,b,c,q2,q3,q4⟩:=Z0e ns (n:=n) hlg hl0 hL (v:=v) ks (λx hx=>hk x (List.mem_cons_of_mem _ hx)) (D ++ [d]) (.sh (.int k)) JV JW (by simp at hl ⊢;omega) (by
   intro x hx
   rcases List.mem_append.mp hx with hx|hx
   ·exact h x hx
   ·rw[List.mem_singleton.mp hx];exact hd)
  refine⟨ρ',?_,D',a,b,c,q2,by simp at q3 ⊢;omega,q4⟩
  rw[List.map_cons,forL]
  have hg:gN 7 (PV.int (k:Int)) [.sh (.lst (ns.map .int)),.sh (.int 4),.sh (.int n),.sh (.int lg),.ow (L.map .str),.sh (.int v),.ow (D.map cG),s7,s8,s9]=some [.sh (.lst (ns.map .int)),.sh (.int 4),.sh (.int n),.sh (.int lg),.ow (L.map .str),.sh (.int v),.ow (D.map cG),.sh (.int k),s8,s9]:=rfl
  rw[hg]
  dsimp only
  rw[e]
  exact q1
def Z2x(ns:List Int){n lg:Nat}(hn:n<=12)(hlg:lg<=100)(hl0:0<lg):∃D:List Dy,vK [.sh (.lst (ns.map .int)),.sh (.int 4),.sh (.int n),.sh (.int lg)]=.ret (.ow (D.map cG))/\D.length=n/\∀d∈D,Zj lg d:=by
 have h6:cN [.sh (.lst (ns.map .int)),.sh (.int 4)]=.ret (.sh (.int (ns.getD 4 0))):=Zv ns 4
 obtain⟨v,hv⟩:∃v,ns.getD 4 0=v:=⟨_,rfl⟩
 rw[hv] at h6
 obtain⟨L,e1,hL⟩:=Z1X (v % 12) (by omega) (by omega) [Str.ofString "ab",Str.ofString "a",Str.ofString "abc",Str.ofString "b",Str.ofString "ba",Str.ofString "z",Str.ofString "zz",Str.ofString "zzz",Str.ofString "abcdefgh",Str.ofString "abcdefgi",Str.ofString "aa",Str.ofString "bb"] rfl
 obtain⟨ρ',q1,D,s7,s8,s9,rfl,q2,q3⟩:=Z0e ns (n:=n) hlg hl0 hL (v:=v % 12) (List.range n) (λk hk=>by have:=List.mem_range.mp hk;omega) [] .no .no .no (by simp;omega) (by simp)
 have rr:=Zp (n:=n) (by omega)
 refine⟨D,?_,by simpa using q2,q3⟩
 generalize ns.map PV.int=NS at *
 simp only[List.map_cons,List.map_nil] at e1
 simp only[List.map_nil] at q1
 generalize D.map cG=DS at *
 generalize L.map PV.str=LS at *
 simp[vK,DN,List.replicate,RW,h6,e1,rr,q1,-ZJ]
def Z0z:Option Hu.Ln->PV
 |some l=>gD l
 |none=>.non
def Z19{S:List Hu.Pt}{sl:P.Slot}(hs:Sl sl (S.map pt))(hS:∀p∈S,Sm p)(h0:S≠[])(hl:S.length<=1000)(p:Hu.Pt):Bl [sl,.sh (pt p)]=.ret (.sh (Z0z (Hu.Zy S p))):=by
 have h1:=Z0o hs hS h0 hl
 have e:(Hu.Zi S).findSome? (λl=>if Hu.hd l p=true then none else some l)=Hu.Zy S p:=by
  unfold Hu.Zy
  generalize Hu.Zi S=L
  induction L with
  |nil=>rfl
  |cons l L ih=>
   rw[List.findSome?_cons,List.find?_cons]
   cases q:Hu.hd l p with
   |true=>simpa using ih
   |false=>simp
 rcases dG (g:=gN 2) (mb:=yF) gD (λl=>if Hu.hd l p=true then none else some l) (λl=>.sh (gD l)) (λρ=>∃s2,ρ=[sl,.sh (pt p),s2]) (Hu.Zi S) (by
  rintro l hm ρ ⟨s2,rfl⟩
  refine⟨[sl,.sh (pt p),.sh (gD l)],by simp,?_⟩
  have hh:=Z0n (Z1t hm hS) p
  cases q:Hu.hd l p with
  |true=>
   rw[q] at hh
   exact .inr ⟨[sl,.sh (pt p),.sh (gD l)],by simp,by simp[yF,hh],_,rfl⟩
  |false=>
   rw[q] at hh
   exact .inl ⟨l,[sl,.sh (pt p),.sh (gD l)],by simp,by simp[yF,hh]⟩) [sl,.sh (pt p),.no] ⟨_,rfl⟩ with⟨l,ρ',q1,q2⟩|⟨ρ',q1,q2,_⟩
 ·rw[e] at q1
  rw[q1]
  simp[Bl,yG,List.replicate,hs.lend,h1,q2,Z0z]
 ·rw[e] at q1
  rw[q1]
  simp[Bl,yG,List.replicate,hs.lend,h1,q2,Z0z]
def ux(q:Nat×Nat):PV:=.tup [.int q.1,.int q.2]
def Cd(q:Nat×Nat×Nat):PV:=.tup [.int q.1,.int q.2.1,.int q.2.2]
def Z1z(j:Nat)(hj:j<=1000)(acc:List PV)(s0:P.Slot)(ha:acc.length+j<=16777216):tu [s0,.ow acc,.sh (.int j)]=.ok .nx [s0,.ow (acc++((List.range j).map λi=>(i,j)).map ux),.sh (.int j)]:=by
 have c1:Ŕ (gN 1) Ŏ (Ŧ (Ĉ (Ĥ 1) (Ĉ (Ĥ 0) ĝ))) ((List.range j).map λ(i:Nat)=>PV.int (i:Int)) [.sh (.int j),.no] []=some (((List.range j).map λi=>(i,j)).map ux):=by
  have:=ŉ (g:=gN 1) (mt:=Ŏ) (me:=Ŧ (Ĉ (Ĥ 1) (Ĉ (Ĥ 0) ĝ))) (λ(i:Nat)=>PV.int (i:Int)) (λi=>ux (i,j)) (λρ=>∃s,ρ=[.sh (.int j),s]) (List.range j) [.sh (.int j),.no] [] ⟨_,rfl⟩ (by simp;omega) (by
   rintro x hx ρ ⟨s,rfl⟩
   exact⟨[.sh (.int j),.sh (.int x)],[.sh (.int j),.sh (.int x)],[.sh (.int j),.sh (.int x)],by simp,by simp,by simp[ux],_,rfl⟩)
  rw[this,List.map_map]
  rfl
 have hl:acc.length+(((List.range j).map λi=>(i,j)).map ux).length<=16777216:=by simpa using ha
 generalize ((List.range j).map λi=>(i,j)).map ux=qs at c1 hl
 simp[tu,Zp hj,c1,hl]
def Z05(k:Nat):Hu.Z8 (k+1)=Hu.Z8 k++(List.range k).map λi=>(i,k):=by
 unfold Hu.Z8
 rw[List.range_succ,List.flatMap_append]
 simp
theorem Zx:∀n,(Hu.Z8 n).length<=n*n
 |0=>by simp[Hu.Z8]
 |n+1=>by
  have:=Zx n
  rw[Z05,List.length_append,List.length_map,List.length_range,Nat.succ_mul,Nat.mul_succ]
  omega
def ZL(k:Nat):Hu.Za (k+1)=Hu.Za k++(Hu.Z8 k).map λq=>(q.1,q.2,k):=by
 unfold Hu.Za
 rw[List.range_succ,List.flatMap_append]
 simp
theorem ZC{g:Tg}{mb:M Fl}(nb:∀ρ ρ',mb ρ≠ .ok .bk ρ'):∀(xs ys:List PV) (ρ ρ1:Ş),forL g mb xs ρ=.ok .nx ρ1->forL g mb (xs++ys) ρ=forL g mb ys ρ1
 | [],ys,ρ,ρ1,h=>by
   have e:Res.ok Fl.nx ρ=.ok .nx ρ1:=h
   cases e
   rfl
 |x::xs,ys,ρ,ρ1,h=>by
  rw[List.cons_append,forL]
  rw[forL] at h
  cases e:g x ρ with
  |none=>rw[e] at h;cases h
  |some ρ2=>
   rw[e] at h
   dsimp only at h ⊢
   cases e2:mb ρ2 with
   |bad=>rw[e2] at h;cases h
   |exc x ρ3=>rw[e2] at h;cases h
   |ok f ρ3=>
    rw[e2] at h
    cases f with
    |nx=>exact ZC nb xs ys ρ3 ρ1 h
    |ct=>exact ZC nb xs ys ρ3 ρ1 h
    |bk=>exact absurd e2 (nb ρ2 ρ3)
    |rt r=>cases h
def Z0A{g:Tg}{mb:M Fl}{p:PV}{ρ ρ1 ρ2:Ş}(h1:g p ρ=some ρ1)(h2:mb ρ1=.ok .nx ρ2):forL g mb [p] ρ=.ok .nx ρ2:=by
 rw[forL,h1]
 dsimp only
 rw[h2]
 rfl
def Z1A{i:Nat}{mo:M RV}{ρ ρ':Ş}:Dw i mo ρ≠ .ok .bk ρ':=by
 unfold Dw
 intro h
 split at h
 ·cases e:mo ρ with
  |bad=>rw[e] at h;cases h
  |exc x ρ1=>rw[e] at h;cases h
  |ok r ρ1=>
   rw[e] at h
   simp only[Res.cH] at h
   split at h
   ·split at h<;>cases h
   ·cases h
 ·cases h
def Z0B(n:Nat)(hn:n<=100):Bm [.sh (.int n)]=.ret (.ow ((Hu.Z8 n).map ux)):=by
 have key:∀k,k<=n->∃s2,forL (gN 2) tu ((List.range k).map λ(i:Nat)=>PV.int (i:Int)) [.sh (.int n),.ow [],.no]=.ok .nx [.sh (.int n),.ow ((Hu.Z8 k).map ux),s2]:=by
  intro k
  induction k with
  |zero=>intro _;exact⟨.no,rfl⟩
  |succ k ih=>
   intro hk
   obtain⟨s2,e⟩:=ih (by omega)
   refine⟨.sh (.int k),?_⟩
   rw[List.range_succ,List.map_append,ZC (mb:=tu) (λ_ _=>Z1A) _ _ _ _ e,Z05,List.map_append]
   have hlen:=Zx k
   have hm:k*k<=100*100:=Nat.mul_le_mul (by omega) (by omega)
   exact Z0A rfl (Z1z k (by omega) ((Hu.Z8 k).map ux) (.sh (.int n)) (by rw[List.length_map];omega))
 obtain⟨s2,e⟩:=key n (Nat.le_refl n)
 have hr:=Zp (show n<=1000 by omega)
 simp[Bm,En,List.replicate,hr,e]
def Z0M(k:Nat)(hk:k<=100)(acc:List PV)(s0:P.Slot)(ha:acc.length<=10000000):tD [s0,.ow acc,.sh (.int k)]=.ok .nx [s0,.ow (acc++((Hu.Z8 k).map λq=>(q.1,q.2,k)).map Cd),.sh (.int k)]:=by
 have hlen:=Zx k
 have hm:k*k<=100*100:=Nat.mul_le_mul (by omega) (by omega)
 have c1:Ŕ (gN 1) Ŏ (Ŧ (Ĉ (ć Ę (ā 1) (mC (.int 0))) (Ĉ (ć Ę (ā 1) (mC (.int 1))) (Ĉ (Ĥ 0) ĝ)))) ((Hu.Z8 k).map ux) [.sh (.int k),.no] []=some (((Hu.Z8 k).map λq=>(q.1,q.2,k)).map Cd):=by
  have:=ŉ (g:=gN 1) (mt:=Ŏ) (me:=Ŧ (Ĉ (ć Ę (ā 1) (mC (.int 0))) (Ĉ (ć Ę (ā 1) (mC (.int 1))) (Ĉ (Ĥ 0) ĝ)))) ux (λq=>Cd (q.1,q.2,k)) (λρ=>∃s,ρ=[.sh (.int k),s]) (Hu.Z8 k) [.sh (.int k),.no] [] ⟨_,rfl⟩ (by simp;omega) (by
   rintro x hx ρ ⟨s,rfl⟩
   exact⟨[.sh (.int k),.sh (ux x)],[.sh (.int k),.sh (ux x)],[.sh (.int k),.sh (ux x)],by simp,by simp,by simp[ux,Cd],_,rfl⟩)
  rw[this,List.map_map]
  rfl
 have hl:acc.length+(((Hu.Z8 k).map λq=>(q.1,q.2,k)).map Cd).length<=16777216:=by simp;omega
 have hp:=Z0B k hk
 generalize ((Hu.Z8 k).map λq=>(q.1,q.2,k)).map Cd=qs at c1 hl
 simp[tD,hp,c1,hl]
theorem ZT:∀n,n<=100->(Hu.Za n).length<=n*10000
 |0,_=>by simp[Hu.Za]
 |n+1,h=>by
  have:=ZT n (by omega)
  have h2:=Zx n
  have hm:n*n<=100*100:=Nat.mul_le_mul (by omega) (by omega)
  rw[ZL,List.length_append,List.length_map]
  omega
def Z1a(n:Nat)(hn:n<=100):Ik [.sh (.int n)]=.ret (.ow ((Hu.Za n).map Cd)):=by
 have key:∀k,k<=n->∃s2,forL (gN 2) tD ((List.range k).map λ(i:Nat)=>PV.int (i:Int)) [.sh (.int n),.ow [],.no]=.ok .nx [.sh (.int n),.ow ((Hu.Za k).map Cd),s2]:=by
  intro k
  induction k with
  |zero=>intro _;exact⟨.no,rfl⟩
  |succ k ih=>
   intro hk
   obtain⟨s2,e⟩:=ih (by omega)
   refine⟨.sh (.int k),?_⟩
   rw[List.range_succ,List.map_append,ZC (mb:=tD) (λ_ _=>Z1A) _ _ _ _ e,ZL,List.map_append]
   have hlen:=ZT k (by omega)
   exact Z0A rfl (Z0M k (by omega) ((Hu.Za k).map Cd) (.sh (.int n)) (by rw[List.length_map];omega))
 obtain⟨s2,e⟩:=key n (Nat.le_refl n)
 have hr:=Zp (show n<=1000 by omega)
 simp[Ik,Eo,List.replicate,hr,e]
def W(x:Int):Prop:=-100000000000000000000000000000000000000000000000000<x/\x<100000000000000000000000000000000000000000000000000
theorem W.bits{x:Int}(h:W x):bits x<=200:=nU (n:=200) (by have:=h.1;omega) (by have:=h.2;omega)
def dif{a b:Int}(h1: -100000000000000000<=a)(h2:a<=100000000000000000)(h3: -100000000000000000<=b)(h4:b<=100000000000000000): -200000000000000000<=a-b/\a-b<=200000000000000000:=by omega
def Z08{a b c d:Int}(h1: -c<=a)(h2:a<=c)(h3: -d<=b)(h4:b<=d)(hc:0<=c)(hd:0<=d): -(c*d)<=a*b/\a*b<=c*d:=by
 have e1:(a*b).natAbs=a.natAbs*b.natAbs:=Int.natAbs_mul a b
 have e2:a.natAbs*b.natAbs<=c.natAbs*d.natAbs:=Nat.mul_le_mul (by omega) (by omega)
 have e3:(c*d).natAbs=c.natAbs*d.natAbs:=Int.natAbs_mul c d
 have e4:0<=c*d:=Int.mul_nonneg hc hd
 omega
def ZM{a b c:Hu.Pt}(ha:Sm a)(hb:Sm b)(hc:Sm c):vN [.sh (pt a),.sh (pt b),.sh (pt c)]=.ret (.sh (.int (Hu.tn a b c))):=by
 obtain⟨a1,a2,a3,a4⟩:=ha
 obtain⟨b1,b2,b3,b4⟩:=hb
 obtain⟨c1,c2,c3,c4⟩:=hc
 have m1:Ť (b.1-a.1) (c.2-a.2)=true:=cJ (by omega) (by omega)
 have m2:Ť (b.2-a.2) (c.1-a.1)=true:=cJ (by omega) (by omega)
 simp[vN,Ep,List.replicate,pt,Hu.tn,m1,m2]
def Z1Z{a b c:Hu.Pt}(ha:Sm a)(hb:Sm b)(hc:Sm c): -80000000000000000000000000000000000<=Hu.tn a b c/\Hu.tn a b c<=80000000000000000000000000000000000:=by
 obtain⟨a1,a2,a3,a4⟩:=ha
 obtain⟨b1,b2,b3,b4⟩:=hb
 obtain⟨c1,c2,c3,c4⟩:=hc
 obtain⟨x1,x2⟩:=dif b1 b2 a1 a2
 obtain⟨y1,y2⟩:=dif c3 c4 a3 a4
 obtain⟨z1,z2⟩:=dif b3 b4 a3 a4
 obtain⟨w1,w2⟩:=dif c1 c2 a1 a2
 obtain⟨p1,p2⟩:=Z08 x1 x2 y1 y2 (by decide) (by decide)
 obtain⟨q1,q2⟩:=Z08 z1 z2 w1 w2 (by decide) (by decide)
 unfold Hu.tn
 omega
def Z20{a b c p:Hu.Pt}(ha:Sm a)(hb:Sm b)(hc:Sm c)(hp:Sm p):Tf [.sh (.lst [pt a,pt b,pt c]),.sh (pt p)]=.ret (.ow ((Hu.xY a b c p).map .int)):=by
 simp[Tf,Oh,List.replicate,ZM hp hb hc,ZM ha hp hc,ZM ha hb hp,Hu.xY]
def Z2Z{a b p:Hu.Pt}(ha:Sm a)(hb:Sm b)(hp:Sm p):Il [.sh (.lst [pt a,pt b]),.sh (pt p)]=.ret (.ow ((Hu.xZ a b p).map .int)):=by
 obtain⟨a1,a2,a3,a4⟩:=ha
 obtain⟨b1,b2,b3,b4⟩:=hb
 obtain⟨c1,c2,c3,c4⟩:=hp
 have m1:∀x,Ť (b.1-a.1) x=true:=λx=>cJ (by omega) (by omega)
 have m2:∀x,Ť (b.2-a.2) x=true:=λx=>cJ (by omega) (by omega)
 simp[Il,Er,List.replicate,pt,Hu.xZ,m1,m2]
def Z3b{a b c p:Hu.Pt}(ha:Sm a)(hb:Sm b)(hc:Sm c)(hp:Sm p):∀s∈Hu.xY a b c p,-400000000000000000000000000000000000<=s/\s<=400000000000000000000000000000000000:=by
 have h1:=Z1Z hp hb hc
 have h2:=Z1Z ha hp hc
 have h3:=Z1Z ha hb hp
 intro s hs
 simp only[Hu.xY,List.mem_cons,List.not_mem_nil,or_false] at hs
 rcases hs with e|e|e<;>omega
def Z3c{a b p:Hu.Pt}(ha:Sm a)(hb:Sm b)(hp:Sm p):∀s∈Hu.xZ a b p,-400000000000000000000000000000000000<=s/\s<=400000000000000000000000000000000000:=by
 obtain⟨a1,a2,a3,a4⟩:=ha
 obtain⟨b1,b2,b3,b4⟩:=hb
 obtain⟨c1,c2,c3,c4⟩:=hp
 obtain⟨x1,x2⟩:=dif b1 b2 a1 a2
 obtain⟨z1,z2⟩:=dif b3 b4 a3 a4
 obtain⟨y1,y2⟩:=dif c1 c2 a1 a2
 obtain⟨w1,w2⟩:=dif c3 c4 a3 a4
 obtain⟨p1,p2⟩:=Z08 x1 x2 y1 y2 (by decide) (by decide)
 obtain⟨q1,q2⟩:=Z08 z1 z2 w1 w2 (by decide) (by decide)
 obtain⟨r1,r2⟩:=Z08 x1 x2 x1 x2 (by decide) (by decide)
 obtain⟨t1,t2⟩:=Z08 z1 z2 z1 z2 (by decide) (by decide)
 intro s hs
 simp only[Hu.xZ,List.mem_cons,List.not_mem_nil,or_false] at hs
 rcases hs with e|e<;>omega
def ShB(w:List Int):Prop:=w.length<=3/\∀s∈w,-400000000000000000000000000000000000<=s/\s<=400000000000000000000000000000000000
theorem ShB.sum{w:List Int}(h:ShB w): -2000000000000000000000000000000000000<=w.sum/\w.sum<=2000000000000000000000000000000000000:=by
 obtain⟨h1,h2⟩:=h
 match w,h1,h2 with
 | [],_,_=>simp
 | [a],_,h2=>have:=h2 a (by simp);simp;omega
 | [a,b],_,h2=>have:=h2 a (by simp);have:=h2 b (by simp);simp;omega
 | [a,b,c],_,h2=>have:=h2 a (by simp);have:=h2 b (by simp);have:=h2 c (by simp);simp;omega
def Z01{x:Int}(h1: -2000000000000000000000000000000000000<=x)(h2:x<=2000000000000000000000000000000000000):bits x<=200:=nU (n:=200) (by omega) (by omega)
def Z2e{w:List Int}(h:ShB w){sl:P.Slot}(hs:Sl sl (w.map .int)):vO [sl]=.ret (.sh (.bl (Hu.Zt w))):=by
 obtain⟨s1,s2⟩:=h.sum
 have hb:=Z01 s1 s2
 have c1:Ŕ (gN 1) Ŏ (ć Lz (ć Ĺ (ā 1) (ā 0)) (mC (.int 0))) (w.map .int) [.sh (.int w.sum),.no] []=some ((w.map λs=>decide (0<=s*w.sum)).map .bl):=by
  have:=ŉ (g:=gN 1) (mt:=Ŏ) (me:=ć Lz (ć Ĺ (ā 1) (ā 0)) (mC (.int 0))) PV.int (λs=>.bl (decide (0<=s*w.sum))) (λρ=>∃s,ρ=[.sh (.int w.sum),s]) w [.sh (.int w.sum),.no] [] ⟨_,rfl⟩ (by have:=h.1;simp;omega) (by
   rintro x hx ρ ⟨s,rfl⟩
   have hx':=h.2 x hx
   have hm:Ť x w.sum=true:=Zee (Nat.le_trans (Z01 (by omega) (by omega)) (by decide)) (Nat.le_trans hb (by decide))
   exact⟨[.sh (.int w.sum),.sh (.int x)],[.sh (.int w.sum),.sh (.int x)],[.sh (.int w.sum),.sh (.int x)],by simp,by simp,by simp[hm],_,rfl⟩)
  rw[this,List.map_map]
  rfl
 have c2:=Z1q (w.map λs=>decide (0<=s*w.sum))
 have c3:(w.map λs=>decide (0<=s*w.sum)).all id=w.all λs=>decide (0<=s*w.sum):=by simp
 rw[c3] at c2
 unfold Hu.Zt
 have hsum:o_ [.lst (w.map .int)]=some (.int w.sum):=by simp
 unfold Sl at hs
 generalize (w.map λs=>decide (0<=s*w.sum)).map PV.bl=bs at c1 c2
 generalize (w.all λs=>decide (0<=s*w.sum))=q at c2
 generalize w.map PV.int=ws at c1 hsum hs
 generalize w.sum=S at c1 hsum
 by_cases h0:S=0
 ·subst h0
  rcases hs with rfl|rfl<;>simp[vO,yJ,List.replicate,-lG,hsum]
 ·rcases hs with rfl|rfl<;>simp[vO,yJ,List.replicate,-lG,hsum,c1,c2,h0]
def Z2f(x y:Int):Te [.sh (.int x),.sh (.int y)]=.ret (.sh (.int (My.gd x y))):=by
 obtain⟨⟨u,v,r⟩,e1,e2,e3⟩:=Dq (mc:=(dh (ć dD (ā 1) (mC (.int 0))))) (mb:=(ģ (ķ 2 (ş (ć ō (ā 0) (ā 1)))) (ģ (ķ 0 (ş (Ĥ 1))) (ķ 1 (ş (Ĥ 2))))))
  (fun b:Int×Int×P.Slot=>[.sh (.int b.1),.sh (.int b.2.1),b.2.2]) (fun b=>My.gd b.1 b.2.1=My.gd x y) (fun b=>b.2.1.natAbs) (b:=(x,y,.no)) (by
    rintro ⟨u,v,r⟩ e
    by_cases hv:v=0
    ·left;simp[hv]
    ·right;exact⟨by simp[hv],(v,u.fmod v,.sh (.int (u.fmod v))),by simp[hv],(My.Z2i u v).trans e,My.Z2j u hv⟩) rfl
 have hv:v=0:=by simpa using e3
 subst hv
 have e1':Wi [.sh (.int x),.sh (.int y),.no]=_:=e1
 simp[Te,Og,List.replicate,e1',<-e2,My.Z2k]
def Z2y(t:Int){b:Int}{n:Nat}(h:b≠0)(hb:bits b<=n):bits (My.gd t b)<=n:=by
 refine intBits_le_of_natAbs ?_ hb
 have h1:=My.Z37 t h
 have h2:=My.Z1k t b
 omega
def rt(t b:Int):Int×Int:=(t.fdiv (My.dv t b),b.fdiv (My.dv t b))
def Z0C{t b:Int}(h:b≠0)(hz:bits b<=8000):qb [.sh (.int t),.sh (.int b)]=.ret (.sh (pt (rt t b))):=by
 have g1:=Z2y t h hz
 have g0:=My.Z2J t h
 by_cases hn:b<0
 ·have e:My.dv t b= - My.gd t b:=if_pos hn
  have c:∀i,kE i (- My.gd t b)=true:=λi=>Af (by omega) (intBits_neg_le g1)
  simp[qb,yH,List.replicate,h,Z2f,hn,c,e,pt,rt]
 ·have e:My.dv t b=My.gd t b:=if_neg hn
  have c:∀i,kE i (My.gd t b)=true:=λi=>Af (by omega) g1
  simp[qb,yH,List.replicate,h,Z2f,hn,c,e,pt,rt]
def ZN{w:List Int}{q:List Nat}{n:Nat}(hw:ShB w)(h0:w.sum≠0)(hl:w.length=q.length)(hq:∀i∈q,i<n)(hn:n<=100){s0 s1:P.Slot}(hs0:Sl s0 (w.map .int))(hs1:s1=.sh (.lst (q.map λ(i:Nat)=>.int (i:Int)))\/s1=.sh (.tup (q.map λ(i:Nat)=>.int (i:Int)))) :
 oh [s0,s1,.sh (.int n)]=.ret (.ow ((Fr.lay (List.replicate n 0) (w.zip q)).map λs=>pt (rt s w.sum))):=by
 obtain⟨b1,b2⟩:=hw.sum
 have hb:=Nat.le_trans (Z01 b1 b2) (show 200<=8000 by decide)
 have hsum:o_ [.lst (w.map .int)]=some (.int w.sum):=by simp
 have c1:Ŕ (gN 1) Ŏ (Ė (Ē qb (Ĕ (mC (.int 0)) (Ą 0 Ď)))) ((List.range n).map λ(i:Nat)=>PV.int (i:Int)) [.sh (.int w.sum),.no] []=some ((List.replicate n (0:Int)).map λs=>pt (rt s w.sum)):=by
  have:=ŉ (g:=gN 1) (mt:=Ŏ) (me:=Ė (Ē qb (Ĕ (mC (.int 0)) (Ą 0 Ď)))) (λ(i:Nat)=>PV.int (i:Int)) (λ_=>pt (rt 0 w.sum)) (λρ=>∃s,ρ=[.sh (.int w.sum),s]) (List.range n) [.sh (.int w.sum),.no] [] ⟨_,rfl⟩ (by simp;omega) (by
   rintro x hx ρ ⟨s,rfl⟩
   exact⟨[.sh (.int w.sum),.sh (.int x)],[.sh (.int w.sum),.sh (.int x)],[.sh (.int w.sum),.sh (.int x)],by simp,by simp,by simp[Z0C h0 hb],_,rfl⟩)
  rw[this]
  simp[List.map_const']
 have hz:nR (w.map .int) (q.map λ(i:Nat)=>PV.int (i:Int))=(w.zip q).map λa=>.tup [.int a.1,.int (a.2:Int)]:=by
  clear hw h0 hl hq hs0 hs1 hsum c1 hb b1 b2
  induction w generalizing q with
  |nil=>simp[nR]
  |cons x w ih=>
   cases q with
   |nil=>simp[nR]
   |cons i q=>simp[nR,ih]
 have loop:∀s0' s1',∃ρ',forL (gT 2 (ę (gN 5) (ę (gN 6) Ř))) yI ((w.zip q).map λa=>.tup [.int a.1,.int (a.2:Int)]) [s0',s1',.sh (.int n),.sh (.int w.sum),.ow ((List.replicate n (0:Int)).map λs=>pt (rt s w.sum)),.no,.no]=.ok .nx ρ'/\ρ'[4]?=some (.ow ((Fr.lay (List.replicate n 0) (w.zip q)).map λs=>pt (rt s w.sum))):=by
  intro s0' s1'
  obtain⟨ρ',e,s5,s6,hρ,_⟩:=fY (g:=gT 2 (ę (gN 5) (ę (gN 6) Ř))) (mb:=yI) (λa:Int×Nat=>.tup [.int a.1,.int (a.2:Int)]) (λacc a=>acc.set a.2 a.1)
   (fun acc ρ=>∃s5 s6,ρ=[s0',s1',.sh (.int n),.sh (.int w.sum),.ow (acc.map fun s=>pt (rt s w.sum)),s5,s6]∧acc.length=n) (w.zip q) (by
     rintro ⟨x,i⟩ hx acc ρ ⟨s5,s6,rfl,hlen⟩
     have hi:i<n:=hq i (List.of_mem_zip hx).2
     have hix:CG acc.length (i:Int)=some i:=by
      unfold CG
      rw[if_pos (by omega),if_pos (by omega)]
      simp
     refine⟨[s0',s1',.sh (.int n),.sh (.int w.sum),.ow (acc.map λs=>pt (rt s w.sum)),.sh (.int x),.sh (.int i)],[s0',s1',.sh (.int n),.sh (.int w.sum),.ow ((acc.set i x).map λs=>pt (rt s w.sum)),.sh (.int x),.sh (.int i)],by simp,?_,_,_,rfl,by simpa using hlen⟩
     simp[yI,Z0C h0 hb,hix,List.map_set]) (List.replicate n 0) [s0',s1',.sh (.int n),.sh (.int w.sum),.ow ((List.replicate n (0:Int)).map λs=>pt (rt s w.sum)),.no,.no] ⟨_,_,rfl,by simp⟩
  refine⟨ρ',e,?_⟩
  subst hρ
  rfl
 have hr:=Zp (show n<=1000 by omega)
 generalize (List.replicate n (0:Int)).map (λs=>pt (rt s w.sum))=zs at c1 loop
 generalize (Fr.lay (List.replicate n 0) (w.zip q)).map (λs=>pt (rt s w.sum))=rs at loop
 generalize ((w.zip q).map λa=>PV.tup [.int a.1,.int (a.2:Int)])=ls at hz loop
 generalize w.map PV.int=ws at hs0 hsum hz
 generalize w.sum=S at hsum c1 loop
 generalize (q.map λ(i:Nat)=>PV.int (i:Int))=qs at hz hs1
 rcases hs0 with rfl|rfl<;>rcases hs1 with rfl|rfl
 ·obtain⟨ρ',e,e4⟩:=loop (.sh (.lst ws)) (.sh (.lst qs))
  simp[oh,pH,List.replicate,-lG,hsum,hr,c1,hz,JB,e,e4]
 ·obtain⟨ρ',e,e4⟩:=loop (.sh (.lst ws)) (.sh (.tup qs))
  simp[oh,pH,List.replicate,-lG,hsum,hr,c1,hz,JB,e,e4]
 ·obtain⟨ρ',e,e4⟩:=loop (.bw ws) (.sh (.lst qs))
  simp[oh,pH,List.replicate,-lG,hsum,hr,c1,hz,JB,e,e4]
 ·obtain⟨ρ',e,e4⟩:=loop (.bw ws) (.sh (.tup qs))
  simp[oh,pH,List.replicate,-lG,hsum,hr,c1,hz,JB,e,e4]
def wts(S:List Hu.Pt)(r:List Int×List Nat):List PV:=(Fr.lay (List.replicate S.length 0) (r.1.zip r.2)).map λs=>pt (rt s r.1.sum)
def jX{S:List Hu.Pt}{i:Nat}(h:i<S.length):(S.map pt)[i]?=some (pt (Hu.at_ S i)):=by
 unfold Hu.at_
 rw[List.getElem?_map,List.getD_eq_getElem?_getD,List.getElem?_eq_getElem h]
 rfl
def Z3d{S:List Hu.Pt}{sl:P.Slot}(hs:Sl sl (S.map pt)){i j k:Nat}(hi:i<S.length)(hj:j<S.length)(hk:k<S.length)(s3:P.Slot):Ŕ (gN 1) Ŏ (ć Ę (ā 0) (ā 1)) [.int (i:Int),.int (j:Int),.int (k:Int)] [sl,s3] []=some [pt (Hu.at_ S i),pt (Hu.at_ S j),pt (Hu.at_ S k)]:=by
 rcases hs with rfl|rfl<;>simp[Ŕ,jX hi,jX hj,jX hk,-List.getElem?_map]
def Z3e{S:List Hu.Pt}{sl:P.Slot}(hs:Sl sl (S.map pt)){i j:Nat}(hi:i<S.length)(hj:j<S.length)(s3:P.Slot):Ŕ (gN 1) Ŏ (ć Ę (ā 0) (ā 1)) [.int (i:Int),.int (j:Int)] [sl,s3] []=some [pt (Hu.at_ S i),pt (Hu.at_ S j)]:=by
 rcases hs with rfl|rfl<;>simp[Ŕ,jX hi,jX hj,-List.getElem?_map]
def Sl.cap{s:P.Slot}{ps:List PV}(h:Sl s ps):iV s=s:=by rcases h with rfl|rfl<;>rfl
def Z30{a b c p:Hu.Pt}(ha:Sm a)(hb:Sm b)(hc:Sm c)(hp:Sm p):ShB (Hu.xY a b c p):=⟨by simp[Hu.xY],Z3b ha hb hc hp⟩
def Z31{a b p:Hu.Pt}(ha:Sm a)(hb:Sm b)(hp:Sm p):ShB (Hu.xZ a b p):=⟨by simp[Hu.xZ],Z3c ha hb hp⟩
def Z1b{S:List Hu.Pt}{sl:P.Slot}(hs:Sl sl (S.map pt))(hS:∀p∈S,Sm p)(h0:S≠[])(hl:S.length<=100){p:Hu.Pt}(hp:Sm p):vP [sl,.sh (pt p)]=.ret (.ow (wts S (Hu.Z0Z S p))):=by
 have hat:∀i,i<S.length->Sm (Hu.at_ S i):=λi h=>hS _ (Hu.Z2K h)
 have ht:=Z1a S.length hl
 have hpr:=Z0B S.length hl
 have hlen:fj [.lst (S.map pt)]=some (.int S.length):=by simp
 have F3:=dG (g:=gN 3) (mb:=yL) Cd (λq=>if Hu.Zt (Hu.xY (Hu.at_ S q.1) (Hu.at_ S q.2.1) (Hu.at_ S q.2.2) p)=true then some (Hu.xY (Hu.at_ S q.1) (Hu.at_ S q.2.1) (Hu.at_ S q.2.2) p,[q.1,q.2.1,q.2.2]) else none) (λr=>.ow (wts S r)) (λρ=>∃s3 s4,ρ=[sl,.sh (pt p),.sh (.int S.length),s3,s4]) (Hu.Za S.length) (by
  rintro ⟨i,j,k⟩ hm ρ ⟨s3,s4,rfl⟩
  obtain⟨h1,h2,h3⟩:=Hu.Z0J.mp hm
  have hi:i<S.length:=by omega
  have hj:j<S.length:=by omega
  have hb:=Z30 (hat i hi) (hat j hj) (hat k h3) hp
  have e1:=Z20 (hat i hi) (hat j hj) (hat k h3) hp
  have e2:=Z2e hb (sl:=.bw ((Hu.xY (Hu.at_ S i) (Hu.at_ S j) (Hu.at_ S k) p).map .int)) (.inr rfl)
  have e0:=Z3d hs hi hj h3 .no
  refine⟨[sl,.sh (pt p),.sh (.int S.length),.sh (Cd (i,j,k)),s4],rfl,?_⟩
  cases q:Hu.Zt (Hu.xY (Hu.at_ S i) (Hu.at_ S j) (Hu.at_ S k) p) with
  |true=>
   left
   have hg:=Hu.Z0k.mp q
   have e3:=ZN (q:=[i,j,k]) (n:=S.length) hb hg.1 rfl (by simp;omega) hl (s0:=.bw ((Hu.xY (Hu.at_ S i) (Hu.at_ S j) (Hu.at_ S k) p).map .int)) (s1:=.sh (.tup [.int i,.int j,.int k])) (.inr rfl) (.inr rfl)
   rw[q] at e2
   refine⟨_,[sl,.sh (pt p),.sh (.int S.length),.sh (Cd (i,j,k)),.ow ((Hu.xY (Hu.at_ S i) (Hu.at_ S j) (Hu.at_ S k) p).map .int)],rfl,?_⟩
   generalize Hu.xY (Hu.at_ S i) (Hu.at_ S j) (Hu.at_ S k) p=w at *
   generalize hws:w.map PV.int=ws at *
   simp[yL,Cd,hs.cap,e0,e1,e2,e3,wts]
  |false=>
   right
   rw[q] at e2
   refine⟨[sl,.sh (pt p),.sh (.int S.length),.sh (Cd (i,j,k)),.ow ((Hu.xY (Hu.at_ S i) (Hu.at_ S j) (Hu.at_ S k) p).map .int)],rfl,?_,_,_,rfl⟩
   generalize Hu.xY (Hu.at_ S i) (Hu.at_ S j) (Hu.at_ S k) p=w at *
   generalize hws:w.map PV.int=ws at *
   simp[yL,Cd,hs.cap,e0,e1,e2])
 have F2:=dG (g:=gN 3) (mb:=yK) ux (λq=>if Hu.Zt (Hu.xZ (Hu.at_ S q.1) (Hu.at_ S q.2) p)=true then some (Hu.xZ (Hu.at_ S q.1) (Hu.at_ S q.2) p,[q.1,q.2]) else none) (λr=>.ow (wts S r)) (λρ=>∃s3 s4,ρ=[sl,.sh (pt p),.sh (.int S.length),s3,s4]) (Hu.Z8 S.length) (by
  rintro ⟨i,j⟩ hm ρ ⟨s3,s4,rfl⟩
  obtain⟨h1,h2⟩:=Hu.ZF.mp hm
  have hi:i<S.length:=by omega
  have hb:=Z31 (hat i hi) (hat j h2) hp
  have e1:=Z2Z (hat i hi) (hat j h2) hp
  have e2:=Z2e hb (sl:=.bw ((Hu.xZ (Hu.at_ S i) (Hu.at_ S j) p).map .int)) (.inr rfl)
  have e0:=Z3e hs hi h2 .no
  refine⟨[sl,.sh (pt p),.sh (.int S.length),.sh (ux (i,j)),s4],rfl,?_⟩
  cases q:Hu.Zt (Hu.xZ (Hu.at_ S i) (Hu.at_ S j) p) with
  |true=>
   left
   have hg:=Hu.Z0k.mp q
   have e3:=ZN (q:=[i,j]) (n:=S.length) hb hg.1 rfl (by simp;omega) hl (s0:=.bw ((Hu.xZ (Hu.at_ S i) (Hu.at_ S j) p).map .int)) (s1:=.sh (.tup [.int i,.int j])) (.inr rfl) (.inr rfl)
   rw[q] at e2
   refine⟨_,[sl,.sh (pt p),.sh (.int S.length),.sh (ux (i,j)),.ow ((Hu.xZ (Hu.at_ S i) (Hu.at_ S j) p).map .int)],rfl,?_⟩
   generalize Hu.xZ (Hu.at_ S i) (Hu.at_ S j) p=w at *
   generalize hws:w.map PV.int=ws at *
   simp[yK,ux,hs.cap,e0,e1,e2,e3,wts]
  |false=>
   right
   rw[q] at e2
   refine⟨[sl,.sh (pt p),.sh (.int S.length),.sh (ux (i,j)),.ow ((Hu.xZ (Hu.at_ S i) (Hu.at_ S j) p).map .int)],rfl,?_,_,_,rfl⟩
   generalize Hu.xZ (Hu.at_ S i) (Hu.at_ S j) p=w at *
   generalize hws:w.map PV.int=ws at *
   simp[yK,ux,hs.cap,e0,e1,e2])
 have e3:(Hu.Za S.length).findSome? (λq=>if Hu.Zt (Hu.xY (Hu.at_ S q.1) (Hu.at_ S q.2.1) (Hu.at_ S q.2.2) p)=true then some (Hu.xY (Hu.at_ S q.1) (Hu.at_ S q.2.1) (Hu.at_ S q.2.2) p,[q.1,q.2.1,q.2.2]) else none)=Hu.Z2L S p:=rfl
 have e2:(Hu.Z8 S.length).findSome? (λq=>if Hu.Zt (Hu.xZ (Hu.at_ S q.1) (Hu.at_ S q.2) p)=true then some (Hu.xZ (Hu.at_ S q.1) (Hu.at_ S q.2) p,[q.1,q.2]) else none)=Hu.Z2M S p:=rfl
 rw[e3] at F3
 rw[e2] at F2
 have e1:=ZN (w:=[1]) (q:=[0]) (n:=S.length) ⟨by simp,by simp⟩ (by simp) rfl (by simpa using List.length_pos_iff.mpr h0) hl (s0:=.sh (.lst [.int 1])) (s1:=.sh (.lst [.int 0])) (.inl rfl) (.inl rfl)
 have hw1:(Fr.lay (List.replicate S.length 0) ([1].zip [0])).map (λs=>pt (rt s [1].sum))=wts S ([1],[0]):=rfl
 rw[hw1] at e1
 generalize hn:(S.length:Int)=N at *
 generalize (Hu.Za S.length).map Cd=ts at *
 generalize (Hu.Z8 S.length).map ux=prs at *
 unfold Hu.Z0Z
 rcases F3 [sl,.sh (pt p),.sh (.int N),.no,.no] ⟨_,_,rfl⟩ with⟨r,ρ',q1,q2⟩|⟨ρ',q1,q2,s3,s4,hρ⟩
 ·rw[q1]
  rcases hs with rfl|rfl<;>simp[vP,tE,List.replicate,-xq,hlen,ht,q2]
 ·subst hρ
  rw[q1]
  rcases F2 [sl,.sh (pt p),.sh (.int N),s3,s4] ⟨_,_,rfl⟩ with⟨r,ρ',q3,q4⟩|⟨ρ',q3,q4,s3',Qy,hρ⟩
  ·rw[q3]
   rcases hs with rfl|rfl<;>simp[vP,tE,List.replicate,-xq,hlen,ht,hpr,q2,q4]
  ·subst hρ
   rw[q3]
   rcases hs with rfl|rfl<;>simp[vP,tE,List.replicate,-xq,hlen,ht,hpr,q2,q4,e1]
def Z06(S:List Hu.Pt)(p:Hu.Pt):PV:=match Hu.Zy S p with
 |some l=>.tup [.str "out",gD l]
 |none=>.tup [.str "in",.lst (wts S (Hu.Z0Z S p))]
def Z2z{S:List Hu.Pt}{sl:P.Slot}(hs:Sl sl (S.map pt))(hS:∀p∈S,Sm p)(h0:S≠[])(hl:S.length<=100){p:Hu.Pt}(hp:Sm p):Bo [sl,.sh (pt p)]=.ret (.sh (Z06 S p)):=by
 have h1:=Z19 hs hS h0 (by omega) p
 have h2:=Z1b hs hS h0 hl hp
 unfold Z06
 cases e:Hu.Zy S p with
 |some l=>
  rw[e] at h1
  simp[Bo,yM,List.replicate,hs.lend,h1,Z0z,gD,uJ]
 |none=>
  rw[e] at h1
  simp[Bo,yM,List.replicate,hs.lend,h1,Z0z,h2,uJ]
def Z21{r:P3}(hr:RB r)(s:Hu.Pt):Im [.sh (pt s),.sh (c3 r)]=.ret (.sh (pt (cst r (wB s)))):=by
 have e:=Z0R hr (wB s)
 have e':PV.tup [.int (2*s.1),.int (2*s.2),.int 0]=c3 (wB s):=rfl
 generalize hR:c3 r=R at *
 unfold pt
 simp[Im,Fb,List.replicate,e',e]
 rfl
def Z1c{w:Str}{xs:List Int}(hg:Z1 w xs=true){r:P3}(hr:RB r){s:Hu.Pt}(hs:PB (wB s)):Io [.sh (Z7 (Zd w) w xs),.sh (pt s),.sh (c3 r)]=.ret (.sh (Z06 ((Zb w xs).map (cst r)) (cst r (wB s)))):=by
 obtain⟨g1,g2,g3⟩:=Z0u hg
 have h1:=Z0t hg (by omega) hr
 have h2:=Z21 hr s
 have h3:=Z2z (S:=(Zb w xs).map (cst r)) (sl:=.sh (.lst (((Zb w xs).map (cst r)).map pt))) (.inl rfl) (by
  intro p hp
  obtain⟨q,hq,rfl⟩:=List.mem_map.mp hp
  exact Z0s hr (g3 q hq)) (by simpa using g2) (by simp;omega) (p:=cst r (wB s)) (Z0s hr hs)
 generalize Z06 ((Zb w xs).map (cst r)) (cst r (wB s))=V at *
 generalize ((Zb w xs).map (cst r)).map pt=Y at *
 generalize pt (cst r (wB s))=Z at *
 generalize Z7 (Zd w) w xs=v at *
 generalize c3 r=R at *
 generalize pt s=Q at *
 simp[Io,Fd,List.replicate,h1,h2,h3]
def sIn:PyData.strOk (Str.ofString "in")=true:=by decide +kernel
def Z3l:PyData.strOk (Str.ofString "out")=true:=by decide +kernel
def dIO:(Str.ofString "out" =Str.ofString "in")=False:=eq_false (by decide +kernel)
def Z0f{w:Str}{xs:List Int}(hg:Z1 w xs=true){r:P3}(hr:RB r){s:Hu.Pt}(hs:PB (wB s)):ql [.sh (Z7 (Zd w) w xs),.sh (pt s),.sh (c3 r)]=.ret (.sh (.bl (shB w xs s r))):=by
 have h1:=Z1c hg hr hs
 unfold Z06 at h1
 unfold shB
 generalize Z7 (Zd w) w xs=v at *
 generalize c3 r=R at *
 generalize pt s=Q at *
 cases e:Hu.Zy ((Zb w xs).map (cst r)) (cst r (wB s)) with
 |none=>
  rw[e] at h1
  dsimp only at h1
  generalize wts ((Zb w xs).map (cst r)) (Hu.Z0Z ((Zb w xs).map (cst r)) (cst r (wB s)))=Y at *
  simp[ql,yN,List.replicate,h1,eN sIn sIn]
 |some l=>
  rw[e] at h1
  dsimp only at h1
  generalize gD l=Y at *
  simp[ql,yN,List.replicate,h1,eN Z3l sIn,dIO]
structure JX(w h:Nat)(T:List Th):Prop where
 w0:0<w
 w1:w<=60
 h1:h<=1000
 wh:w*h<=1000
 tl:T.length<=1000
 tg:∀t∈T,Z1 t.1 t.2=true
def Z32{w k n:Nat}(hk:k<1000):PB (wB (nu w k)):=by
 have h1:k % w<=k:=Nat.mod_le k w
 have h2:k / w<=k:=Nat.div_le_self k w
 unfold PB wB nu
 dsimp only
 generalize k % w=a at *
 generalize k / w=b at *
 omega
def Z1B{w h:Nat}{T:List Th}(Y:JX w h T)(D:List Dy){o:Option P3}(ho:Qz o){k:Nat}(hk:k<1000):mF [.sh (Z0 w h T D),.sh (jN o),.sh (pt (nu w k))]=.ret (.sh (.bl (TF w T o k))):=by
 cases o with
 |none=>
  generalize Z0 w h T D=Yv at *
  simp[mF,tK,List.replicate,jN,uJ,TF]
 |some r=>
  have ho:RB r/\0<r.2.2:=ho
  have yt:=y_t w h T D
  have e:T.findSome? (λt=>if zL t (nu w k) r=true then some () else none)=if(T.any λt=>zL t (nu w k) r)=true then some () else none:=by
   generalize T=T'
   induction T' with
   |nil=>rfl
   |cons t T' ih=>
    rw[List.findSome?_cons,List.any_cons]
    cases q:zL t (nu w k) r with
    |true=>simp
    |false=>rw[Bool.false_or,<-ih];simp
  have hn:uJ (c3 r)=false:=by simp[c3,uJ]
  rcases dG (g:=gN 3) (mb:=yP) aV (λt=>if zL t (nu w k) r=true then some () else none) (λ_=>.sh (.bl true)) (λρ=>∃s,ρ=[.sh (Z0 w h T D),.sh (c3 r),.sh (pt (nu w k)),s]) T (by
   rintro t ht ρ ⟨s,rfl⟩
   have es:ql [.sh (aV t),.sh (pt (nu w k)),.sh (c3 r)]=.ret (.sh (.bl (zL t (nu w k) r))):=Z0f (Y.tg t ht) ho.1 (Z32 (n:=0) hk)
   refine⟨[.sh (Z0 w h T D),.sh (c3 r),.sh (pt (nu w k)),.sh (aV t)],rfl,?_⟩
   generalize Z0 w h T D=Yv at *
   generalize c3 r=R at *
   generalize aV t=Tv at *
   generalize hP:pt (nu w k)=Pv at *
   cases q:zL t (nu w k) r with
   |true=>
    rw[q] at es
    exact .inl ⟨(),[.sh Yv,.sh R,.sh Pv,.sh Tv],by simp,by simp[yP,es]⟩
   |false=>
    rw[q] at es
    exact .inr ⟨[.sh Yv,.sh R,.sh Pv,.sh Tv],by simp,by simp[yP,es],_,rfl⟩) [.sh (Z0 w h T D),.sh (c3 r),.sh (pt (nu w k)),.no] ⟨_,rfl⟩ with⟨_,ρ',q1,q2⟩|⟨ρ',q1,q2,_⟩
  ·rw[e] at q1
   have hd:TF w T (some r) k=true:=by
    show(T.any λt=>zL t (nu w k) r)=true
    cases q:T.any (λt=>zL t (nu w k) r) with
    |true=>rfl
    |false=>rw[q] at q1;simp at q1
   rw[hd]
   show mF [_,.sh (c3 r),_]=_
   generalize Z0 w h T D=Yv at *
   generalize c3 r=R at *
   generalize pt (nu w k)=Pv at *
   simp[mF,tK,List.replicate,hn,yt,q2]
  ·rw[e] at q1
   have hd:TF w T (some r) k=false:=by
    show(T.any λt=>zL t (nu w k) r)=false
    cases q:T.any (λt=>zL t (nu w k) r) with
    |false=>rfl
    |true=>rw[q] at q1;simp at q1
   rw[hd]
   show mF [_,.sh (c3 r),_]=_
   generalize Z0 w h T D=Yv at *
   generalize c3 r=R at *
   generalize pt (nu w k)=Pv at *
   simp[mF,tK,List.replicate,hn,yt,q2]
def Z07{w h:Nat}{T:List Th}{D:List Dy}{i:Nat}(hi:i<D.length):n_ [.sh (Z0 w h T D),.sh (.int i)]=.ret (.sh (.lst (D[i].2.2.map jN))):=by
 have yd:=y_d w h T D
 have hx:(D.map cG)[i]?=some (cG D[i]):=by simp[hi]
 generalize Z0 w h T D=Yv at *
 generalize D.map cG=DV at *
 simp[n_,DX,List.replicate,yd,hx]
 simp[cG]
theorem Z0g(f:Nat->PV):∀(n a:Nat),mD a ((List.range' a n).map f)=(List.range' a n).map λ(k:Nat)=>PV.tup [.int k,f k]
 |0,a=>rfl
 |n+1,a=>by
  rw[List.range'_succ,List.map_cons,List.map_cons]
  show _::mD (a+1) _=_
  rw[Z0g f n (a+1)]
def Z1d(f:Nat->PV)(n:Nat):mD 0 ((List.range n).map f)=(List.range n).map λ(k:Nat)=>PV.tup [.int k,f k]:=by
 rw[List.range_eq_range']
 exact Z0g f n 0
def ZD(t:Th):PV:=.tup [.str t.1,.lst (t.2.map .int)]
def Z1C(w h:Nat):kO [.tup [.int w,.int h]]=some (.int ((max w h:Nat):Int)):=by
 show some (PV.int (max (w:Int) h))=_
 congr 2
 omega
theorem Z0D{w h:Nat}(hw:1<=w/\w<=20)(hh:1<=h/\h<=20):∀(cs:List Int) (acc:List PV) (s1:P.Slot),acc.length+cs.length<=1000->∃T:List Th,Ŕ (gN 1) Ŏ (Ė (Ē jD (Ą 1 (Ĕ (eY kO (Ĉ (ā 0) ĝ)) Ď)))) (cs.map .int) [.sh (.tup [.int w,.int h]),s1] acc=some (acc++T.map ZD)/\T.length=cs.length/\∀t∈T,Z1 t.1 t.2=true
 | [],acc,s1,_=>⟨[],by simp[Ŕ],rfl,by simp⟩
 |c::cs,acc,s1,ha=>by
  obtain⟨t,e1,e2⟩:=Z0d c (w:=((max w h:Nat):Int)) (by omega) (by omega)
  obtain⟨T,q1,q2,q3⟩:=Z0D hw hh cs (acc ++ [ZD t]) (.sh (.int c)) (by simp at ha ⊢;omega)
  refine⟨t::T,?_,by simp[q2],?_⟩
  ·have hz:acc.length<16777216:=by simp at ha;omega
   have mx:=Z1C w h
   change jD _=.ret (.sh (ZD t)) at e1
   generalize hR:ZD t=R at *
   generalize ((max w h:Nat):Int)=m at *
   rw[List.map_cons,Ŕ]
   simp[mx,e1,hz,hR]
   simpa using q1
  ·intro x hx
   rcases List.mem_cons.mp hx with rfl|hx
   ·exact e2
   ·exact q3 x hx
def Z0E{w:Str}{xs:List Int}(h:Z1 w xs=true):PyData.strOk w=true:=by
 unfold Z1 at h
 by_cases e1:w= "post"
 ·rw[e1];exact s1
 rw[if_neg e1] at h
 by_cases e2:w= "fence"
 ·rw[e2];exact s2
 rw[if_neg e2] at h
 by_cases e3:w= "sail"
 ·rw[e3];exact s3
 rw[if_neg e3] at h
 by_cases e4:w= "cloth"
 ·rw[e4];exact s4
 rw[if_neg e4] at h
 by_cases e5:w= "house"
 ·rw[e5];exact s5
 rw[if_neg e5] at h
 cases h
def Z1D{T:List Th}(hl:T.length<=1000)(hg:∀t∈T,Z1 t.1 t.2=true)(s0 s1:P.Slot):Ŕ (gT 2 (ę (gN 0) (ę (gN 1) Ř))) Ŏ (Ė (Ē gA (Ą 0 (Ĕ (Ė (qF gK (Ĉ (ā 1) ĝ))) Ď)))) (T.map ZD) [s0,s1] []=some (T.map aV):=by
 have hc:=ŉ (g:=gT 2 (ę (gN 0) (ę (gN 1) Ř))) (mt:=Ŏ) (me:=Ė (Ē gA (Ą 0 (Ĕ (Ė (qF gK (Ĉ (ā 1) ĝ))) Ď)))) ZD aV (λρ=>∃a b,ρ=[a,b]) T [s0,s1] [] ⟨_,_,rfl⟩ (by simp;omega) (by
  rintro t ht ρ ⟨a,b,rfl⟩
  have e:=Z0p (Z0E (hg t ht)) (xs:=t.2) (sl:=.sh (.lst (t.2.map .int))) (.inl rfl)
  rw[if_pos (hg t ht)] at e
  change gA _=.ret (.sh (aV t)) at e
  refine⟨[.sh (.str t.1),.sh (.lst (t.2.map .int))],_,[.sh (.str t.1),.sh (.lst (t.2.map .int))],by simp[ZD],rfl,?_,_,_,rfl⟩
  generalize t.2.map PV.int=X at *
  generalize aV t=V at *
  simp[e])
 simpa using hc
def slI(xs:List Int)(lo hi:Option Int):∃ys:List Int,eZ (xs.map PV.int) lo hi=ys.map PV.int/\ys.length<=xs.length:=by
 refine⟨(xs.drop (HT.lQ xs.length 0 lo)).take (HT.lQ xs.length xs.length hi-HT.lQ xs.length 0 lo),?_,by simp;omega⟩
 unfold eZ
 rw[List.length_map,List.map_take,List.map_drop]
abbrev Wt:=Int×Int×Int×Int
def dY(q:Wt):PV:=.tup [.tup [.int q.1,.int q.2.1],.int q.2.2.1,.int q.2.2.2]
def Zl(w h:Nat)(q:Wt):Prop:=(0<=q.1/\q.1<w)/\(0<=q.2.1/\q.2.1<h)
def Zq(D:List Dy)(q:Wt):Prop:=(0<=q.2.2.1/\q.2.2.1<D.length)/\(0<=q.2.2.2/\q.2.2.2<(D.getD q.2.2.1.toNat default).2.2.length)
def Z1e{w h:Nat}{T:List Th}(D:List Dy){x y:Int}(hx:(0<=x/\x<w)/\(0<=y/\y<h)):HY [.sh (Z0 w h T D),.sh (.tup [.int x,.int y])]=.ret (.sh (.bl true)):=by
 have yw:=y_w w h T D
 have yh:=y_h w h T D
 generalize Z0 w h T D=Yv at *
 obtain⟨⟨a1,a2⟩,a3,a4⟩:=hx
 simp[HY,DR,List.replicate,yw,yh,a1,a2,a3,a4]
def Z1f{w h:Nat}{T:List Th}(D:List Dy){x y:Int}(hx:(0<=x/\x<w)/\(0<=y/\y<h)):H_ [.sh (Z0 w h T D),.sh (.tup [.int x,.int y])]=.ret (.sh .non):=by
 have hs:=Z1e (T:=T) D hx
 generalize Z0 w h T D=Yv at *
 simp[H_,DW,List.replicate,hs]
def Z2A{w h:Nat}{T:List Th}{D:List Dy}(d:Int):vL [.sh (Z0 w h T D),.sh (.int d)]=.ret (.sh (.bl (decide (0<=d/\d<D.length)))):=by
 have yd:=y_d w h T D
 have hl:(D.map cG).length=D.length:=by simp
 rw[<-hl]
 generalize Z0 w h T D=Yv at *
 generalize D.map cG=DV at *
 by_cases a1:0<=d
 ·by_cases a2:d<(DV.length:Int)
  ·simp[vL,sX,List.replicate,yd,a1,a2]
  ·simp[vL,sX,List.replicate,yd,a1,a2]
 ·simp[vL,sX,List.replicate,yd,a1]
def Z1E{w h:Nat}{T:List Th}{D:List Dy}{d t:Int}(hd:(0<=d/\d<D.length)/\(0<=t/\t<(D.getD d.toNat default).2.2.length)):Ia [.sh (Z0 w h T D),.sh (.int d),.sh (.int t)]=.ret (.sh .non):=by
 have hd0:=Z2A (w:=w) (h:=h) (T:=T) (D:=D) d
 obtain⟨hq,a1,a2⟩:=hd
 obtain⟨i,rfl⟩:∃i:Nat,d=(i:Int):=⟨d.toNat,by omega⟩
 have hi:i<D.length:=by omega
 have ht:=Z07 (w:=w) (h:=h) (T:=T) hi
 have hg:D.getD (i:Int).toNat default=D[i]:=by simp[hi]
 rw[hg] at a2
 have hl:(D[i].2.2.map jN).length=D[i].2.2.length:=by simp
 rw[<-hl] at a2
 rw[decide_eq_true hq] at hd0
 generalize D[i].2.2.map jN=TV at *
 generalize Z0 w h T D=Yv at *
 simp[Ia,DY,List.replicate,hd0,ht,a1,a2]
theorem Z0V{w h:Nat}{T:List Th}{D:List Dy}:∀(qs:List Wt) (z s2 s3 s4:P.Slot),(∀q∈qs,Zl w h q/\Zq D q)->∃a b c:P.Slot,forL (gT 3 (ę (gN 2) (ę (gN 3) (ę (gN 4) Ř)))) yu (qs.map dY) [.sh (Z0 w h T D),z,s2,s3,s4]=.ok .nx [.sh (Z0 w h T D),z,a,b,c]
 | [],z,s2,s3,s4,_=>⟨s2,s3,s4,rfl⟩
 |q::qs,z,s2,s3,s4,hq=>by
  obtain⟨h1,h2⟩:=hq q List.mem_cons_self
  have e1:=Z1f (T:=T) D h1
  have e2:=Z1E (w:=w) (h:=h) (T:=T) h2
  obtain⟨a,b,c,e⟩:=Z0V qs z (.sh (.tup [.int q.1,.int q.2.1])) (.sh (.int q.2.2.1)) (.sh (.int q.2.2.2)) (λx hx=>hq x (List.mem_cons_of_mem _ hx))
  refine⟨a,b,c,?_⟩
  generalize Z0 w h T D=Yv at *
  have eb:yu [.sh Yv,z,.sh (.tup [.int q.1,.int q.2.1]),.sh (.int q.2.2.1),.sh (.int q.2.2.2)]=.ok .nx [.sh Yv,z,.sh (.tup [.int q.1,.int q.2.1]),.sh (.int q.2.2.1),.sh (.int q.2.2.2)]:=by simp[yu,e1,e2]
  rw[List.map_cons,forL]
  simp[dY,eb]
  exact e
def Z22{w h:Nat}{T:List Th}{D:List Dy}{qs:List Wt}(hq:∀q∈qs,Zl w h q/\Zq D q):Ib [.sh (Z0 w h T D),.bw (qs.map dY)]=.ret (.sh .non):=by
 obtain⟨a,b,c,e⟩:=Z0V (T:=T) qs (.bw (qs.map dY)) .no .no .no hq
 generalize Z0 w h T D=Yv at *
 generalize qs.map dY=QS at *
 simp[Ib,D_,List.replicate,e]
def Z23(p:Nat->Bool)(i:Nat):(Z2 i p ||| 2 ^ i)=Z2 i p+2 ^ i:=by
 have h:=Nat.two_pow_add_eq_or_of_lt (ZB p i) 1
 rw[Nat.mul_one] at h
 rw[Nat.or_comm,<-h,Nat.add_comm]
theorem Z0F(f:Nat->Bool):∀(n a:Nat) (z s2 s3:P.Slot),a+n<=1000->∃s2' s3',forL (gT 2 (ę (gN 2) (ę (gN 3) Ř))) sY ((List.range' a n).map λ(k:Nat)=>PV.tup [.int k,.bl (f k)]) [z,.sh (.int (Z2 a f:Nat)),s2,s3]=.ok .nx [z,.sh (.int (Z2 (a+n) f:Nat)),s2',s3']
 |0,a,z,s2,s3,_=>⟨s2,s3,rfl⟩
 |n+1,a,z,s2,s3,hn=>by
  obtain⟨s2',s3',e⟩:=Z0F f n (a+1) z (.sh (.int a)) (.sh (.bl (f a))) (by omega)
  refine⟨s2',s3',?_⟩
  have eb:sY [z,.sh (.int (Z2 a f:Nat)),.sh (.int a),.sh (.bl (f a))]=.ok .nx [z,.sh (.int (Z2 (a+1) f:Nat)),.sh (.int a),.sh (.bl (f a))]:=by
   have po:iW 1 (a:Int)=true:=by simp[iW];omega
   cases hf:f a with
   |false=>simp[sY,Z2,hf]
   |true=>
    have hb:Builtin.bitOr ((Z2 a f:Nat):Int) (2 ^ a)=((Z2 (a+1) f:Nat):Int):=by
     have:=Z03 (Z2 a f) (2 ^ a)
     rw[Z23] at this
     have e2:Z2 (a+1) f=Z2 a f+2 ^ a:=by simp[Z2,hf]
     rw[e2]
     simpa using this
    simp[sY,hb,po]
  rw[List.range'_succ,List.map_cons,forL]
  simp[eb]
  rw[show a+(n+1)=a+1+n by omega]
  exact e
def Z1F(f:Nat->Bool){n:Nat}(hn:n<=1000):Bj [.sh (.lst ((List.range n).map λ(k:Nat)=>PV.bl (f k)))]=.ret (.sh (.int (Z2 n f:Nat))):=by
 obtain⟨a,b,e⟩:=Z0F f n 0 (.sh (.lst ((List.range n).map λ(k:Nat)=>PV.bl (f k)))) .no .no (by omega)
 have en:=Z1d (λk=>PV.bl (f k)) n
 rw[<-List.range_eq_range',Nat.zero_add] at e
 have z:Z2 0 f=0:=rfl
 rw[z] at e
 generalize (List.range n).map (λ(k:Nat)=>PV.bl (f k))=L at *
 simp[Bj,Ef,List.replicate,en]
 simp at e
 rw[e]
 simp
def ZS(i j:Int):rQ (.int i) (.int j)=some (.int (Builtin.bitAnd i j)):=rfl
def Zs(c k:Nat):Aa (c:Int) (k:Int)=true:=by simp[Aa]
def ZO(f:Nat->PV){n:Nat}(hn:n<=1000)(c:Nat):pZ [.bw ((List.range n).map f),.sh (.int c)]=.ret (.ow (((List.range n).filter λk=>c.testBit k).map f)):=by
 have en:=Z1d f n
 have e:=cM (g:=gT 2 (ę (gN 1) (ę (gN 2) Ř))) (mt:=iw (ć rQ (ć pU (ā 0) (ā 1)) (mC (.int 1)))) (me:=Ĥ 2) (λ(k:Nat)=>PV.tup [.int k,f k]) f (λk=>c.testBit k) (λρ=>∃a b,ρ=[.sh (.int c),a,b]) (List.range n) [.sh (.int c),.no,.no] [] ⟨_,_,rfl⟩ (by simp;omega) (by
  rintro k _ ρ ⟨a,b,rfl⟩
  refine⟨[.sh (.int c),.sh (.int k),.sh (f k)],[.sh (.int c),.sh (.int k),.sh (f k)],by simp,?_,λ_=>⟨_,_,rfl⟩,λ_=>⟨[.sh (.int c),.sh (.int k),.sh (f k)],by simp,_,_,rfl⟩⟩
  have h1:=ZR c k
  have h2:Builtin.bitAnd ((c:Int) / 2 ^ k) 1=if c.testBit k then 1 else 0:=by rw[Z2d];exact h1
  cases hb:c.testBit k with
  |true=>rw[hb] at h2;simp at h2;simp[h2,Zs,ZS]
  |false=>rw[hb] at h2;simp at h2;simp[h2,Zs,ZS])
 rw[List.nil_append] at e
 generalize (List.range n).map f=L at *
 generalize ((List.range n).filter λk=>c.testBit k).map f=R at *
 simp[pZ,Ea,List.replicate,lR,iV,en,e]
def Zc(cov:Nat->Nat)(n c base:Nat):Nat:=((List.range n).filter λk=>c.testBit k).foldl (λb k=>b ||| cov k) base
def Z24(cov:Nat->Nat){n:Nat}(hn:n<=1000)(c base:Nat):Bg [.bw ((List.range n).map λk=>PV.int (cov k:Nat)),.sh (.int c),.sh (.int base)]=.ret (.sh (.int (Zc cov n c base:Nat))):=by
 have e1:=ZO (λk=>PV.int (cov k:Nat)) hn c
 obtain⟨ρ',e2,a,rfl⟩:=fY (g:=gN 4) (mb:=Ec) (λk=>PV.int (cov k:Nat)) (λ(b:Nat) k=>b ||| cov k) (λb ρ=>∃a,ρ=[.bw ((List.range n).map λk=>PV.int (cov k:Nat)),.sh (.int c),.sh (.int base),.sh (.int (b:Nat)),a]) ((List.range n).filter λk=>c.testBit k) (by
  rintro k _ b ρ ⟨a,rfl⟩
  exact⟨_,_,rfl,by simp[Ec,Z03];rfl,_,rfl⟩) base [.bw ((List.range n).map λk=>PV.int (cov k:Nat)),.sh (.int c),.sh (.int base),.sh (.int base),.no] ⟨_,rfl⟩
 unfold Zc
 generalize ((List.range n).filter λk=>c.testBit k).foldl (λb k=>b ||| cov k) base=M at *
 generalize ((List.range n).filter λk=>c.testBit k).map (λk=>PV.int (cov k:Nat))=R at *
 generalize (List.range n).map (λk=>PV.int (cov k:Nat))=L at *
 simp[Bg,Ed,List.replicate,e1,e2]
def qO(m many:Nat):Option Nat:=(List.range many).findSome? λk=>if m.testBit k then none else some k
def jJ:Option Nat->PV
 |some k=>.int k
 |none=>.non
def Z1G(m:Nat){many:Nat}(hm:many<=1000):vM [.sh (.int m),.sh (.int many)]=.ret (.sh (jJ (qO m many))):=by
 have rr:=Zp (n:=many) hm
 rcases dG (g:=gN 2) (mb:=yx) (λ(k:Nat)=>PV.int (k:Int)) (λk=>if m.testBit k then none else some k) (λk=>RV.sh (.int (k:Nat))) (λρ=>∃a,ρ=[.sh (.int m),.sh (.int many),a]) (List.range many) (by
  rintro k _ ρ ⟨a,rfl⟩
  refine⟨[.sh (.int m),.sh (.int many),.sh (.int k)],rfl,?_⟩
  have h1:=ZR m k
  have h2:Builtin.bitAnd ((m:Int) / 2 ^ k) 1=if m.testBit k then 1 else 0:=by rw[Z2d];exact h1
  cases hb:m.testBit k with
  |true=>rw[hb] at h2;simp at h2;exact .inr ⟨[.sh (.int m),.sh (.int many),.sh (.int k)],by simp,by simp[yx,h2,Zs,ZS],_,rfl⟩
  |false=>rw[hb] at h2;simp at h2;exact .inl ⟨k,[.sh (.int m),.sh (.int many),.sh (.int k)],by simp,by simp[yx,h2,Zs,ZS]⟩) [.sh (.int m),.sh (.int many),.no] ⟨_,rfl⟩ with⟨r,ρ',e1,e2⟩|⟨ρ',e1,e2,a,rfl⟩
 ·unfold qO
  rw[e1]
  simp[vM,yC,List.replicate,rr,e2,jJ]
 ·unfold qO
  rw[e1]
  simp[vM,yC,List.replicate,rr,e2,jJ]
def Z6(pr:Nat->Int)(n c:Nat):Int:=(((List.range n).filter λk=>c.testBit k).map pr).sum
theorem Z0W(pr:Nat->Int){n:Nat}(hn:n<=1000)(z:P.Slot):∀cs:List Nat,Bc [0] (eY o_ (Ĉ (Ė (Ē pZ (Ą 0 (Ą 1 Ď)))) ĝ)) [.bw ((List.range n).map λk=>PV.int (pr k)),z] (cs.map λ(c:Nat)=>PV.int (c:Int))=some (cs.map (Z6 pr n))
 | []=>rfl
 |c::cs=>by
  have ih:=Z0W pr hn z cs
  have e1:=ZO (λk=>PV.int (pr k)) hn c
  have e2:((List.range n).filter λk=>c.testBit k).map (λk=>PV.int (pr k))=(((List.range n).filter λk=>c.testBit k).map pr).map PV.int:=by simp
  rw[e2] at e1
  rw[List.map_cons,List.map_cons,Bc]
  have e3:(eY o_ (Ĉ (Ė (Ē pZ (Ą 0 (Ą 1 Ď)))) ĝ)) (lamP [0] [.bw ((List.range n).map λk=>PV.int (pr k)),z] (.int c))=.ok (.int (Z6 pr n c)) [.bw ((List.range n).map λk=>PV.int (pr k)),.sh (.int c)]:=by
   unfold Z6
   generalize ((List.range n).filter λk=>c.testBit k).map pr=R at *
   generalize (List.range n).map (λk=>PV.int (pr k))=L at *
   simp[lamP,iV,e1]
  rw[e3]
  dsimp only
  rw[ih]
  rfl
def Zo{α β:Type}(F:α->β)(d:α)(qs:List α):qs.map F=(List.range qs.length).map λk=>F (qs.getD k d):=by
 refine List.ext_getElem (by simp) λi h1 h2=>?_
 have hi:i<qs.length:=by simpa using h1
 simp[hi]
def Z2B(f:Nat->PV){n:Nat}(hn:0<n):Ę (.lst ((List.range n).map f)) (.int (-1))=some (f (n-1)):=by
 show uD _ _=_
 unfold uD CG
 simp
 rw[if_pos (by omega)]
 have e:(-1+(n:Int)).toNat=n-1:=by omega
 simp[e]
 exact⟨n-1,by rw[List.getElem?_range (by omega)],rfl⟩
def rm(D:List Dy)(q:Wt):Option P3:=(D.getD q.2.2.1.toNat default).2.2.getD q.2.2.2.toNat none
def Ce(D:List Dy)(t:Th)(q:Wt):Bool:=match rm D q with
 |none=>false
 |some r=>shB t.1 t.2 (q.1,q.2.1) r
def zM(T:List Th)(D:List Dy)(q:Wt):Bool:=match rm D q with
 |none=>true
 |some r=>T.any λt=>shB t.1 t.2 (q.1,q.2.1) r
def Z0X{w h:Nat}(hw:0<w){q:Wt}(hs:Zl w h q):∃k,k<w*h/\((q.1,q.2.1):Hu.Pt)=nu w k:=by
 obtain⟨⟨b1,b2⟩,b3,b4⟩:=hs
 obtain⟨a,ha⟩:∃a:Nat,q.1=(a:Int):=⟨q.1.toNat,by omega⟩
 obtain⟨b,hb⟩:∃b:Nat,q.2.1=(b:Int):=⟨q.2.1.toNat,by omega⟩
 rw[ha] at b1 b2 ⊢
 rw[hb] at b3 b4 ⊢
 have ha':a<w:=by omega
 have hb':b<h:=by omega
 refine⟨a+w*b,?_,?_⟩
 ·have:w*(b+1)<=w*h:=Nat.mul_le_mul_left w (by omega)
  rw[Nat.mul_add] at this
  omega
 ·have e1:(a+w*b) % w=a:=by rw[Nat.add_mul_mod_self_left,Nat.mod_eq_of_lt ha']
  have e2:(a+w*b) / w=b:=by rw[Nat.add_mul_div_left _ _ hw,Nat.div_eq_of_lt ha',Nat.zero_add]
  unfold nu
  rw[e1,e2]
def Z0Y{w h:Nat}{T:List Th}{D:List Dy}{lg:Nat}(hD:∀d∈D,Zj lg d){q:Wt}(hq:Zq D q):∃TV:List PV,n_ [.sh (Z0 w h T D),.sh (.int q.2.2.1)]=.ret (.sh (.lst TV))/\Ę (.lst TV) (.int q.2.2.2)=some (jN (rm D q))/\Qz (rm D q):=by
 obtain⟨⟨a1,a2⟩,a3,a4⟩:=hq
 obtain⟨i,hi⟩:∃i:Nat,q.2.2.1=(i:Int):=⟨q.2.2.1.toNat,by omega⟩
 obtain⟨j,hj⟩:∃j:Nat,q.2.2.2=(j:Int):=⟨q.2.2.2.toNat,by omega⟩
 have hil:i<D.length:=by omega
 have hg:D.getD q.2.2.1.toNat default=D[i]:=by rw[hi];simp[hil]
 rw[hg] at a4
 have hjl:j<D[i].2.2.length:=by omega
 have ho:rm D q=D[i].2.2[j]:=by
  unfold rm
  rw[hg,hj]
  simp[hjl]
 refine⟨D[i].2.2.map jN,by rw[hi];exact Z07 hil,?_,?_⟩
 ·rw[ho,hj]
  simp[hjl]
 ·rw[ho]
  exact(hD D[i] (List.getElem_mem hil)).2.2 _ (List.getElem_mem hjl)
def Z25{w h:Nat}{T:List Th}(Y:JX w h T){D:List Dy}{t:Th}(hg:Z1 t.1 t.2=true){q:Wt}(hs:Zl w h q)(ho:Qz (rm D q)):vU [.sh (aV t),.sh (.tup [.int q.1,.int q.2.1]),.sh (jN (rm D q))]=.ret (.sh (.bl (Ce D t q))):=by
 unfold Ce
 have hb:PB (wB ((q.1,q.2.1):Hu.Pt)):=by
  have w1:=Y.w1
  have h1:=Y.h1
  obtain⟨⟨b1,b2⟩,b3,b4⟩:=hs
  unfold PB wB
  dsimp only
  omega
 cases e:rm D q with
 |none=>
  generalize aV t=V at *
  simp[vU,yO,List.replicate,jN,uJ]
 |some r=>
  rw[e] at ho
  have hsh:=Z0f hg ho.1 hb
  have e1:pt ((q.1,q.2.1):Hu.Pt)=.tup [.int q.1,.int q.2.1]:=rfl
  rw[e1] at hsh
  have e2:jN (some r)=c3 r:=rfl
  rw[e2]
  have hsh':ql [.sh (aV t),.sh (.tup [.int q.1,.int q.2.1]),.sh (c3 r)]=.ret (.sh (.bl (shB t.1 t.2 (q.1,q.2.1) r))):=hsh
  have hn:uJ (c3 r)=false:=rfl
  generalize aV t=V at *
  generalize PV.tup [.int q.1,.int q.2.1]=Q at *
  generalize c3 r=R at *
  simp[vU,yO,List.replicate,hsh',hn]
def Z1g{w h:Nat}{T:List Th}(Y:JX w h T){D:List Dy}{q:Wt}(hs:Zl w h q)(ho:Qz (rm D q)):mF [.sh (Z0 w h T D),.sh (jN (rm D q)),.sh (.tup [.int q.1,.int q.2.1])]=.ret (.sh (.bl (zM T D q))):=by
 obtain⟨k,hk,e⟩:=Z0X Y.w0 hs
 have h1:=Z1B Y D ho (k:=k) (by have:=Y.wh;omega)
 rw[<-e] at h1
 have e1:pt ((q.1,q.2.1):Hu.Pt)=.tup [.int q.1,.int q.2.1]:=rfl
 rw[e1] at h1
 rw[h1]
 unfold zM
 cases rm D q with
 |none=>rfl
 |some r=>unfold TF zL;dsimp only;rw[<-e]
def Z33{w h:Nat}{T:List Th}(Y:JX w h T){lg:Nat}{D:List Dy}(hD:∀d∈D,Zj lg d){t:Th}(hg:Z1 t.1 t.2=true){qs:List Wt}(hl:qs.length<=1000)(hq:∀q∈qs,Zl w h q/\Zq D q) :
 Br [.sh (Z0 w h T D),.sh (aV t),.bw (qs.map dY)]=.ret (.sh (.int (Z2 qs.length (λk=>Ce D t (qs.getD k default)):Nat))):=by
 have c1:=ŉ (g:=gT 3 (ę (gN 2) (ę (gN 3) (ę (gN 4) Ř)))) (mt:=Ŏ) (me:=Ė (Ē vU (Ą 0 (Ą 2 (Ĕ (ć Ę (Ė (Ē n_ (Ą 1 (Ą 3 Ď)))) (ā 4)) Ď))))) dY (λq=>PV.bl (Ce D t q)) (λρ=>∃a b c,ρ=[.sh (aV t),.sh (Z0 w h T D),a,b,c]) qs [.sh (aV t),.sh (Z0 w h T D),.no,.no,.no] [] ⟨_,_,_,rfl⟩ (by simp;omega) (by
  rintro q hm ρ ⟨a,b,c,rfl⟩
  obtain⟨hs,ht⟩:=hq q hm
  obtain⟨TV,e1,e2,e3⟩:=Z0Y (w:=w) (h:=h) (T:=T) hD ht
  have e4:=Z25 Y hg hs e3
  generalize Z0 w h T D=Yv at *
  generalize aV t=V at *
  generalize jN (rm D q)=O at *
  exact⟨[.sh V,.sh Yv,.sh (.tup [.int q.1,.int q.2.1]),.sh (.int q.2.2.1),.sh (.int q.2.2.2)],[.sh V,.sh Yv,.sh (.tup [.int q.1,.int q.2.1]),.sh (.int q.2.2.1),.sh (.int q.2.2.2)],[.sh V,.sh Yv,.sh (.tup [.int q.1,.int q.2.1]),.sh (.int q.2.2.1),.sh (.int q.2.2.2)],by simp[dY],by simp,by simp[e1,e2,e4,-Mi],_,_,_,rfl⟩)
 rw[List.nil_append,Zo (λq=>PV.bl (Ce D t q)) default qs] at c1
 have e:=Z1F (λk=>Ce D t (qs.getD k default)) hl
 generalize (List.range qs.length).map (λk=>PV.bl (Ce D t (qs.getD k default)))=B at *
 generalize Z0 w h T D=Yv at *
 generalize aV t=V at *
 generalize qs.map dY=QS at *
 simp[Br,Fe,List.replicate,lR,iV,c1,e]
def Z34{w h:Nat}{T:List Th}(Y:JX w h T){lg:Nat}{D:List Dy}(hD:∀d∈D,Zj lg d){qs:List Wt}(hl:qs.length<=1000)(hq:∀q∈qs,Zl w h q/\Zq D q) :
 Ip [.sh (Z0 w h T D),.bw (qs.map dY)]=.ret (.sh (.int (Z2 qs.length (λk=>zM T D (qs.getD k default)):Nat))):=by
 have c1:=ŉ (g:=gT 3 (ę (gN 1) (ę (gN 2) (ę (gN 3) Ř)))) (mt:=Ŏ) (me:=Ė (Ē mF (Ą 0 (Ĕ (ć Ę (Ė (Ē n_ (Ą 0 (Ą 2 Ď)))) (ā 3)) (Ą 1 Ď))))) dY (λq=>PV.bl (zM T D q)) (λρ=>∃a b c,ρ=[.sh (Z0 w h T D),a,b,c]) qs [.sh (Z0 w h T D),.no,.no,.no] [] ⟨_,_,_,rfl⟩ (by simp;omega) (by
  rintro q hm ρ ⟨a,b,c,rfl⟩
  obtain⟨hs,ht⟩:=hq q hm
  obtain⟨TV,e1,e2,e3⟩:=Z0Y (w:=w) (h:=h) (T:=T) hD ht
  have e4:=Z1g Y hs e3
  generalize Z0 w h T D=Yv at *
  generalize jN (rm D q)=O at *
  exact⟨[.sh Yv,.sh (.tup [.int q.1,.int q.2.1]),.sh (.int q.2.2.1),.sh (.int q.2.2.2)],[.sh Yv,.sh (.tup [.int q.1,.int q.2.1]),.sh (.int q.2.2.1),.sh (.int q.2.2.2)],[.sh Yv,.sh (.tup [.int q.1,.int q.2.1]),.sh (.int q.2.2.1),.sh (.int q.2.2.2)],by simp[dY],by simp,by simp[e1,e2,e4,-Mi],_,_,_,rfl⟩)
 rw[List.nil_append,Zo (λq=>PV.bl (zM T D q)) default qs] at c1
 have e:=Z1F (λk=>zM T D (qs.getD k default)) hl
 generalize (List.range qs.length).map (λk=>PV.bl (zM T D (qs.getD k default)))=B at *
 generalize Z0 w h T D=Yv at *
 generalize qs.map dY=QS at *
 simp[Ip,Fg,List.replicate,lR,iV,c1,e]
theorem Z1H:∀ks:List Int,ks≠[]->∃i,i<ks.length/\∀j,j<ks.length->ks.getD i 0<=ks.getD j 0/\(j<i->ks.getD i 0<ks.getD j 0)
 | [],h=>absurd rfl h
 | [k],_=>⟨0,by simp,fun j hj=>by
     have:j=0:=by simp at hj;omega
     subst this
     exact⟨Int.le_refl _,λz=>absurd z (Nat.lt_irrefl _)⟩⟩
 |k::m::ks,_=>by
  obtain⟨i,hi,h⟩:=Z1H (m::ks) (by simp)
  by_cases hk:k<=(m::ks).getD i 0
  ·refine⟨0,by simp,λj hj=>?_⟩
   cases j with
   |zero=>exact⟨Int.le_refl _,λz=>absurd z (Nat.lt_irrefl _)⟩
   |succ j=>
    have:=(h j (by simpa using hj)).1
    exact⟨by simp only[List.getD_cons_zero,List.getD_cons_succ];omega,λz=>absurd z (by omega)⟩
  ·refine⟨i+1,by simpa using hi,λj hj=>?_⟩
   cases j with
   |zero=>exact⟨by simp only[List.getD_cons_zero,List.getD_cons_succ];omega,λ_=>by simp only[List.getD_cons_zero,List.getD_cons_succ];omega⟩
   |succ j=>
    have:=h j (by simpa using hj)
    exact⟨by simp only[List.getD_cons_succ];exact this.1,λz=>by simp only[List.getD_cons_succ];exact this.2 (by omega)⟩
def Z09(pr:Nat->Int){n:Nat}(hn:n<=1000){cs:List Nat}(hc:cs≠[])(hs:cs.Pairwise (·< ·)):∃c∈cs,Ie [.bw ((List.range n).map λk=>PV.int (pr k)),.sh (.lst (cs.map λ(c:Nat)=>PV.int (c:Int)))]=.ret (.sh (.int (c:Nat)))/\∀c'∈cs,Z6 pr n c<=Z6 pr n c'/\(Z6 pr n c'=Z6 pr n c->c<=c'):=by
 have e:=Z0W pr hn (.sh (.lst (cs.map λ(c:Nat)=>PV.int (c:Int)))) cs
 obtain⟨i,hi,hb⟩:=Z1H (cs.map (Z6 pr n)) (by simpa using hc)
 rw[List.length_map] at hi hb
 have hx:(cs.map λ(c:Nat)=>PV.int (c:Int))[i]?=some (.int (cs[i]:Nat)):=by simp[hi]
 have gk:∀j (hj:j<cs.length),(cs.map (Z6 pr n)).getD j 0=Z6 pr n cs[j]:=λj hj=>by simp[hj]
 obtain⟨b,hp⟩:∃b,lH (cs.map λ(c:Nat)=>PV.int (c:Int)) (cs.map (Z6 pr n))=some b:=by
  cases cs with
  |nil=>exact absurd rfl hc
  |cons a r=>exact⟨_,rfl⟩
 have hbx:=nW (by simp) hp hx (λj hj=>hb j (by simpa using hj))
 subst hbx
 refine⟨cs[i],List.getElem_mem hi,?_,λc' hc'=>?_⟩
 ·generalize (cs.map λ(c:Nat)=>PV.int (c:Int))=CS at *
  generalize cs.map (Z6 pr n)=KS at *
  generalize (List.range n).map (λk=>PV.int (pr k))=L at *
  generalize cs[i]=c at *
  simp[Ie,Eb,List.replicate,Td,e,hp]
 ·obtain⟨j,hj,rfl⟩:=List.getElem_of_mem hc'
  have h1:=hb j hj
  rw[gk i hi,gk j hj] at h1
  refine⟨h1.1,λhe=>?_⟩
  by_cases hji:j<i
  ·have:=h1.2 hji
   omega
  ·by_cases hij:i=j
   ·subst hij;exact Nat.le_refl _
   ·exact Nat.le_of_lt (List.pairwise_iff_getElem.mp hs i j hi hj (by omega))
def Z0N(pr:Nat->Int)(cov:Nat->Nat){n many:Nat}(hn:n<=9)(hm:many<=1000)(base:Nat):∃v,Bh [.bw ((List.range n).map λk=>PV.int (pr k)),.bw ((List.range n).map λk=>PV.int (cov k:Nat)),.sh (.int many),.sh (.int base)]=.ret (.sh v)/\
 ((∃k,qO (Zc cov n (2 ^ n-1) base) many=some k∧v=.tup [.str "none",.int k])∨
   ∃c,c<2 ^ n/\qO (Zc cov n c base) many=none/\(∀c',c'<2 ^ n->qO (Zc cov n c' base) many=none->Z6 pr n c<=Z6 pr n c'/\(Z6 pr n c'=Z6 pr n c->c<=c'))/\
    v=.tup [.str "choice",.int c,.int (Z6 pr n c),.lst ((List.range (2 ^ n)).map λc=>jJ (qO (Zc cov n c base) many))]):=by
 have hp:2 ^ n<=512:=by
  have:=Nat.pow_le_pow_right (show 0<2 by omega) hn
  simpa using this
 have hp0:0<2 ^ n:=Nat.two_pow_pos n
 have rr:=Zp (n:=2 ^ n) (by omega)
 have hl:((List.range n).map λk=>PV.int (pr k)).length=n:=by simp
 have so:iW 1 (n:Int)=true:=by simp[iW];omega
 have rr':bT [.int (2 ^ n)]=some ((List.range (2 ^ n)).map λ(i:Nat)=>PV.int (i:Int)):=by
  have:((2 ^ n:Nat):Int)=2 ^ n:=by simp
  rw[this] at rr
  exact rr
 have c1:=ŉ (g:=gN 3) (mt:=Ŏ) (me:=Ė (Ē vM (Ĕ (Ė (Ē Bg (Ą 1 (Ą 3 (Ą 2 Ď))))) (Ą 0 Ď)))) (λ(c:Nat)=>PV.int (c:Int)) (λc=>jJ (qO (Zc cov n c base) many)) (λρ=>∃a,ρ=[.sh (.int many),.bw ((List.range n).map λk=>PV.int (cov k:Nat)),.sh (.int base),a]) (List.range (2 ^ n)) [.sh (.int many),.bw ((List.range n).map λk=>PV.int (cov k:Nat)),.sh (.int base),.no] [] ⟨_,rfl⟩ (by simp;omega) (by
  rintro c _ ρ ⟨a,rfl⟩
  have e1:=Z24 cov (show n<=1000 by omega) c base
  have e2:=Z1G (Zc cov n c base) hm
  generalize (List.range n).map (λk=>PV.int (cov k:Nat))=L at *
  exact⟨[.sh (.int many),.bw L,.sh (.int base),.sh (.int c)],[.sh (.int many),.bw L,.sh (.int base),.sh (.int c)],[.sh (.int many),.bw L,.sh (.int base),.sh (.int c)],by simp,by simp,by simp[e1,e2],_,rfl⟩)
 rw[List.nil_append] at c1
 have il:=Z2B (λc=>jJ (qO (Zc cov n c base) many)) hp0
 cases hq:qO (Zc cov n (2 ^ n-1) base) many with
 |some k=>
  refine⟨.tup [.str "none",.int k],?_,.inl ⟨k,rfl,rfl⟩⟩
  rw[hq] at il
  generalize (List.range (2 ^ n)).map (λc=>jJ (qO (Zc cov n c base) many))=PA at *
  generalize (List.range n).map (λk=>PV.int (cov k:Nat))=L at *
  generalize (List.range n).map (λk=>PV.int (pr k))=PR at *
  simp[Bh,yD,List.replicate,lR,iV,hl,so,rr',c1,il,jJ,uJ]
 |none=>
  rw[hq] at il
  have c2:=cM (g:=gT 2 (ę (gN 0) (ę (gN 1) Ř))) (mt:=dh (ć uK (ā 1) (mC .non))) (me:=Ĥ 0) (λ(c:Nat)=>PV.tup [.int c,jJ (qO (Zc cov n c base) many)]) (λ(c:Nat)=>PV.int (c:Int)) (λc=>(qO (Zc cov n c base) many).isNone) (λρ=>∃a b,ρ=[a,b]) (List.range (2 ^ n)) [.no,.no] [] ⟨_,_,rfl⟩ (by simp;omega) (by
   rintro c _ ρ ⟨a,b,rfl⟩
   refine⟨[.sh (.int c),.sh (jJ (qO (Zc cov n c base) many))],[.sh (.int c),.sh (jJ (qO (Zc cov n c base) many))],by simp,?_,λ_=>⟨_,_,rfl⟩,λ_=>⟨[.sh (.int c),.sh (jJ (qO (Zc cov n c base) many))],by simp,_,_,rfl⟩⟩
   cases qO (Zc cov n c base) many with
   |none=>simp[jJ,uJ]
   |some k=>simp[jJ,uJ])
  rw[List.nil_append] at c2
  have en:=Z1d (λc=>jJ (qO (Zc cov n c base) many)) (2 ^ n)
  obtain⟨c,hcm,c3,hmin⟩:=Z09 pr (show n<=1000 by omega) (cs:=(List.range (2 ^ n)).filter λc=>(qO (Zc cov n c base) many).isNone) (List.ne_nil_of_mem (List.mem_filter.mpr ⟨List.mem_range.mpr (show 2 ^ n-1<2 ^ n by omega),by rw[hq];rfl⟩)) (List.Pairwise.filter _ List.pairwise_lt_range)
  obtain⟨hc1,hc2⟩:=List.mem_filter.mp hcm
  have c4:=ZO (λk=>PV.int (pr k)) (show n<=1000 by omega) c
  have e2:((List.range n).filter λk=>c.testBit k).map (λk=>PV.int (pr k))=(((List.range n).filter λk=>c.testBit k).map pr).map PV.int:=by simp
  rw[e2] at c4
  refine⟨.tup [.str "choice",.int c,.int (Z6 pr n c),.lst ((List.range (2 ^ n)).map λc=>jJ (qO (Zc cov n c base) many))],?_,.inr ⟨c,List.mem_range.mp hc1,Option.isNone_iff_eq_none.mp hc2,λc' h1 h2=>hmin c' (List.mem_filter.mpr ⟨List.mem_range.mpr h1,by rw[h2];rfl⟩),rfl⟩⟩
  unfold Z6
  generalize ((List.range n).filter λk=>c.testBit k).map pr=R at *
  generalize ((List.range (2 ^ n)).filter λc=>(qO (Zc cov n c base) many).isNone).map (λ(c:Nat)=>PV.int (c:Int))=CS at *
  generalize (List.range (2 ^ n)).map (λ(c:Nat)=>PV.tup [.int c,jJ (qO (Zc cov n c base) many)])=ES at *
  generalize (List.range (2 ^ n)).map (λc=>jJ (qO (Zc cov n c base) many))=PA at *
  generalize (List.range n).map (λk=>PV.int (cov k:Nat))=L at *
  generalize (List.range n).map (λk=>PV.int (pr k))=PR at *
  simp[Bh,yD,List.replicate,lR,iV,hl,so,rr',c1,il,jJ,uJ,en,c2,c3,c4]
def Z26(cov:Nat->Nat)(n c base j:Nat):(Zc cov n c base).testBit j=(base.testBit j || (List.range n).any λk=>c.testBit k && (cov k).testBit j):=by
 unfold Zc
 have gen:∀(l:List Nat) (b:Nat),((l.filter λk=>c.testBit k).foldl (λb k=>b ||| cov k) b).testBit j=(b.testBit j || l.any λk=>c.testBit k && (cov k).testBit j):=by
  intro l
  induction l with
  |nil=>intro b;simp
  |cons k l ih=>
   intro b
   cases hk:c.testBit k with
   |true=>rw[List.filter_cons_of_pos hk,List.foldl_cons,ih,Nat.testBit_or,List.any_cons,hk,Bool.true_and,Bool.or_assoc]
   |false=>rw[List.filter_cons_of_neg (by simp[hk]),ih,List.any_cons,hk,Bool.false_and,Bool.false_or]
 exact gen _ base
def eX(o:Th×Int):PV:=.tup [aV o.1,.int o.2]
theorem Z0G{α β:Type}{f g:α->Option β}:∀{l:List α},(∀x∈l,f x=g x)->l.findSome? f=l.findSome? g
 | [],_=>rfl
 |x::l,h=>by
  rw[List.findSome?_cons,List.findSome?_cons,h x List.mem_cons_self,Z0G λy hy=>h y (List.mem_cons_of_mem _ hy)]
def rz(T S:List Th)(D:List Dy)(qs:List Wt):Option Nat:=(List.range qs.length).findSome? λj=>if zM (T++S) D (qs.getD j default) then none else some j
def Z2C(T S:List Th)(D:List Dy)(q:Wt):zM (T++S) D q=(zM T D q || S.any λt=>Ce D t q):=by
 unfold zM Ce
 cases rm D q with
 |none=>simp
 |some r=>simp
def jO(O:List (Th×Int))(c:Nat):List Th:=((List.range O.length).filter λk=>c.testBit k).map λk=>(O.getD k default).1
def Z3f{T:List Th}{D:List Dy}(O:List (Th×Int))(qs:List Wt)(c:Nat):qO (Zc (λk=>Z2 qs.length (λj=>Ce D (O.getD k default).1 (qs.getD j default))) O.length c (Z2 qs.length (λk=>zM T D (qs.getD k default)))) qs.length=rz T (jO O c) D qs:=by
 unfold qO rz
 refine Z0G λj hj=>?_
 have hj:=List.mem_range.mp hj
 rw[Z26,Zm,decide_eq_true hj,Bool.true_and,Z2C]
 have e:((List.range O.length).any λk=>c.testBit k && (Z2 qs.length (λj=>Ce D (O.getD k default).1 (qs.getD j default))).testBit j)=((jO O c).any λt=>Ce D t (qs.getD j default)):=by
  unfold jO
  rw[List.any_map,List.any_filter]
  congr 1
  funext k
  rw[Zm,decide_eq_true hj,Bool.true_and]
  rfl
 rw[e]
def Z1I{w h:Nat}{T:List Th}(Y:JX w h T){lg:Nat}{D:List Dy}(hD:∀d∈D,Zj lg d){O:List (Th×Int)}(hO:O.length<=9)(TJ:∀o∈O,Z1 o.1.1 o.1.2=true){qs:List Wt}(hl:qs.length<=1000)(hq:∀q∈qs,Zl w h q/\Zq D q) :
 ∃v,Bs [.sh (Z0 w h T D),.bw (O.map eX),.bw (qs.map dY)]=.ret (.sh v)/\
  ((∃k,rz T (jO O (2 ^ O.length-1)) D qs=some k∧v=.tup [.str "none",.int k])∨
    ∃c,c<2 ^ O.length/\rz T (jO O c) D qs=none/\(∀c',c'<2 ^ O.length->rz T (jO O c') D qs=none->Z6 (λk=>(O.getD k default).2) O.length c<=Z6 (λk=>(O.getD k default).2) O.length c'/\(Z6 (λk=>(O.getD k default).2) O.length c'=Z6 (λk=>(O.getD k default).2) O.length c->c<=c'))/\
     v=.tup [.str "choice",.int c,.int (Z6 (λk=>(O.getD k default).2) O.length c),.lst ((List.range (2 ^ O.length)).map λc=>jJ (rz T (jO O c) D qs))]):=by
 have k1:=Z22 (T:=T) hq
 have c1:=ŉ (g:=gT 2 (ę (gN 0) (ę (gN 1) Ř))) (mt:=Ŏ) (me:=Ĥ 1) eX (λo=>PV.int o.2) (λρ=>∃a b,ρ=[a,b]) O [.no,.no] [] ⟨_,_,rfl⟩ (by simp;omega) (by
  rintro t _ ρ ⟨a,b,rfl⟩
  exact⟨[.sh (aV t.1),.sh (.int t.2)],[.sh (aV t.1),.sh (.int t.2)],[.sh (aV t.1),.sh (.int t.2)],by simp[eX],by simp,by simp,_,_,rfl⟩)
 have c2:=ŉ (g:=gT 2 (ę (gN 2) (ę (gN 3) Ř))) (mt:=Ŏ) (me:=Ė (Ē Br (Ą 0 (Ą 2 (Ą 1 Ď))))) eX (λo=>PV.int (Z2 qs.length (λk=>Ce D o.1 (qs.getD k default)):Nat)) (λρ=>∃a b,ρ=[.sh (Z0 w h T D),.bw (qs.map dY),a,b]) O [.sh (Z0 w h T D),.bw (qs.map dY),.no,.no] [] ⟨_,_,rfl⟩ (by simp;omega) (by
  rintro t ht ρ ⟨a,b,rfl⟩
  have e:=Z33 Y hD (TJ t ht) hl hq
  generalize Z0 w h T D=Yv at *
  generalize qs.map dY=QS at *
  exact⟨[.sh Yv,.bw QS,.sh (aV t.1),.sh (.int t.2)],[.sh Yv,.bw QS,.sh (aV t.1),.sh (.int t.2)],[.sh Yv,.bw QS,.sh (aV t.1),.sh (.int t.2)],by simp[eX],by simp,by simp[e],_,_,rfl⟩)
 have k2:=Z34 Y hD hl hq
 rw[List.nil_append,Zo (λo:Th×Int=>PV.int o.2) default O] at c1
 rw[List.nil_append,Zo (λo:Th×Int=>PV.int ((Z2 qs.length (λk=>Ce D o.1 (qs.getD k default)):Nat):Int)) default O] at c2
 obtain⟨v,k3,hv⟩:=Z0N (λk=>(O.getD k default).2) (λk=>Z2 qs.length (λj=>Ce D (O.getD k default).1 (qs.getD j default))) (n:=O.length) (many:=qs.length) hO hl (Z2 qs.length (λk=>zM T D (qs.getD k default)))
 simp only[Z3f] at hv
 have hlq:((qs.map dY).length:Int)=(qs.length:Int):=by simp
 refine⟨v,?_,hv⟩
 clear hv
 generalize (List.range O.length).map (λk=>PV.int ((Z2 qs.length (λj=>Ce D (O.getD k default).1 (qs.getD j default)):Nat):Int))=CV at *
 generalize (List.range O.length).map (λk=>PV.int (O.getD k default).2)=PR at *
 generalize Z2 qs.length (λk=>zM T D (qs.getD k default))=B0 at *
 generalize Z0 w h T D=Yv at *
 generalize qs.map dY=QS at *
 generalize O.map eX=OS at *
 simp[Bs,Fi,List.replicate,lR,iV,k1,c1,c2,k2,k3,hlq]
def Z1h(f:Nat->PV){n:Nat}(hn:n<=1000)(c:Nat):vW [.bw ((List.range n).map f),.sh (.int c)]=.ret (.ow (((List.range n).filter λk=>c.testBit k).map f)):=by
 have rr:=Zp (n:=n) hn
 have hl:(((List.range n).map f).length:Int)=(n:Int):=by simp
 have hx:∀k,k<n->((List.range n).map f)[k]?=some (f k):=λk hk=>by simp[hk]
 generalize hL:(List.range n).map f=L at *
 have e:=cM (g:=gN 2) (mt:=dh (ć aD (ć ō (ć pU (ā 1) (ā 2)) (mC (.int 2))) (mC (.int 1)))) (me:=ć Ę (ā 0) (ā 2)) (λ(k:Nat)=>PV.int (k:Int)) f (λk=>c.testBit k) (λρ=>∃a,ρ=[.bw L,.sh (.int c),a]) (List.range n) [.bw L,.sh (.int c),.no] [] ⟨_,rfl⟩ (by simp;omega) (by
  rintro k hk ρ ⟨a,rfl⟩
  have hx:=hx k (List.mem_range.mp hk)
  refine⟨[.bw L,.sh (.int c),.sh (.int k)],[.bw L,.sh (.int c),.sh (.int k)],by simp,?_,λ_=>⟨_,rfl⟩,λ_=>⟨[.bw L,.sh (.int c),.sh (.int k)],by simp[hx],_,rfl⟩⟩
  have h1:=ZR c k
  cases hb:c.testBit k with
  |true=>rw[hb] at h1;simp at h1;simp[h1,Zs]
  |false=>rw[hb] at h1;simp at h1;simp[h1,Zs])
 rw[List.nil_append] at e
 generalize ((List.range n).filter λk=>c.testBit k).map f=R at *
 simp[vW,Fj,List.replicate,lR,iV,hl,rr,e]
def Z2D{w h:Nat}(hw:0<w){q:Wt}(hs:Zl w h q):∃k,k<w*h/\((q.1,q.2.1):Hu.Pt)=nu w k/\q.2.1*(w:Int)+q.1=(k:Int):=by
 obtain⟨k,hk,e⟩:=Z0X hw hs
 refine⟨k,hk,e,?_⟩
 have e1:q.1=((k % w:Nat):Int):=congrArg Prod.fst e
 have e2:q.2.1=((k / w:Nat):Int):=congrArg Prod.snd e
 rw[e1,e2]
 have:=Nat.div_add_mod k w
 have h3:k / w*w+k % w=k:=by rw[Nat.mul_comm];exact this
 exact_mod_cast h3
def Z0H{w h:Nat}{T S:List Th}(Y:JX w h (T++S)){lg:Nat}{D:List Dy}(hD:∀d∈D,Zj lg d)(hDl:D.length<=1000){qs:List Wt}(hl:qs.length<=1000)(hq:∀q∈qs,Zl w h q/\Zq D q){s1:P.Slot}(hs1:Sl s1 (S.map aV)) :
 mH [.sh (Z0 w h T D),s1,.bw (qs.map dY)]=.ret (.sh (jJ (rz T S D qs))):=by
 have rr:=Zp (n:=qs.length) hl
 have hlq:((qs.map dY).length:Int)=(qs.length:Int):=by simp
 have tl:=Y.tl
 rw[List.length_append] at tl
 have q2:=Z0U (w:Int) (h:Int) (T:=T++S) (D:=D) (by rw[List.length_append];omega) (by omega) (s3:=.sh (.lst ((T++S).map aV))) (s4:=.sh (.lst (D.map cG))) (.inl rfl) (.inl rfl)
 have hY:PV.ins "Yard" ["width","height","things","days"] [.int w,.int h,.lst ((T++S).map aV),.lst (D.map cG)]=Z0 w h (T++S) D:=rfl
 have yw:=y_w w h T D
 have yh:=y_h w h T D
 have yt:=y_t w h T D
 have yd:=y_d w h T D
 have hadd:(T.map aV).length+(S.map aV).length<=16777216:=by simp;omega
 have happ:T.map aV++S.map aV=(T++S).map aV:=by simp
 have core:=dG (g:=gN 4) (mb:=yX) (λ(k:Nat)=>PV.int (k:Int)) (λj=>if zM (T++S) D (qs.getD j default) then none else some j) (λk=>RV.sh (.int (k:Nat))) (λρ=>∃a b c d e,ρ=[.sh (Z0 w h T D),s1,.bw (qs.map dY),.sh (Z0 w h (T++S) D),a,b,c,d,e]) (List.range qs.length) (by
  rintro j hj ρ ⟨a,b,c,d,e,rfl⟩
  have hj:=List.mem_range.mp hj
  have hgd:qs.getD j default=qs[j]:=by simp[hj]
  obtain⟨hst,htu⟩:=hq qs[j] (List.getElem_mem hj)
  have hx:(qs.map dY)[j]?=some (dY qs[j]):=by simp[hj]
  rw[hgd]
  generalize qs[j]=q at *
  obtain⟨k,hk,e1,e2⟩:=Z2D Y.w0 hst
  obtain⟨⟨a1,a2⟩,a3,a4⟩:=htu
  obtain⟨i,hi⟩:∃i:Nat,q.2.2.1=(i:Int):=⟨q.2.2.1.toNat,by omega⟩
  obtain⟨t,ht⟩:∃t:Nat,q.2.2.2=(t:Int):=⟨q.2.2.2.toNat,by omega⟩
  have hil:i<D.length:=by omega
  have hg:D.getD q.2.2.1.toNat default=D[i]:=by rw[hi];simp[hil]
  rw[hg] at a4
  have htl:t<D[i].2.2.length:=by omega
  have ho:rm D q=D[i].2.2[t]:=by
   unfold rm
   rw[hg,ht]
   simp[htl]
  have hro:Qz (rm D q):=by rw[ho];exact(hD D[i] (List.getElem_mem hil)).2.2 _ (List.getElem_mem htl)
  have hdx:(D.map cG)[i]?=some (.tup [.str D[i].1,.int D[i].2.1,.lst (D[i].2.2.map jN)]):=by simp[hil,cG]
  have htx:(D[i].2.2.map jN)[t]?=some (jN (rm D q)):=by rw[ho];simp[htl]
  have hdk:=Z2v Y.w0 Y.w1 Y.h1 Y.wh Y.tl D Y.tg hro
  have hbit:(dkA w h (T++S) (rm D q)).testBit k=zM (T++S) D q:=by
   unfold dkA
   rw[Zm,decide_eq_true hk,Bool.true_and]
   unfold zM TF
   cases rm D q with
   |none=>rfl
   |some r=>unfold zL;dsimp only;rw[<-e1]
  have h1:=ZR (dkA w h (T++S) (rm D q)) k
  rw[hbit] at h1
  have mo:Ť q.2.1 (w:Int)=true:=by
   obtain⟨_,b3,b4⟩:=hst
   have:=Y.w1
   have:=Y.h1
   exact cJ (by omega) (by omega)
  generalize dkA w h (T++S) (rm D q)=B at *
  generalize D[i].2.2.map jN=TV at *
  generalize jN (rm D q)=OV at *
  generalize D.map cG=DV at *
  generalize Z0 w h (T++S) D=Yv' at *
  generalize Z0 w h T D=Yv at *
  generalize qs.map dY=QS at *
  refine⟨[.sh Yv,s1,.bw QS,.sh Yv',.sh (.int j),b,c,d,e],rfl,?_⟩
  cases hb:zM (T++S) D q with
  |true=>
   rw[hb] at h1
   simp at h1
   refine .inr ⟨[.sh Yv,s1,.bw QS,.sh Yv',.sh (.int j),.sh (.int B),.sh (.tup [.int q.1,.int q.2.1]),.sh (.int i),.sh (.int t)],by simp,?_,_,_,_,_,_,rfl⟩
   simp[yX,hx,dY,hi,ht,yd,hdx,htx,hdk,yw,mo,e2,Zs,h1]
  |false=>
   rw[hb] at h1
   simp at h1
   refine .inl ⟨j,[.sh Yv,s1,.bw QS,.sh Yv',.sh (.int j),.sh (.int B),.sh (.tup [.int q.1,.int q.2.1]),.sh (.int i),.sh (.int t)],by simp,?_⟩
   simp[yX,hx,dY,hi,ht,yd,hdx,htx,hdk,yw,mo,e2,Zs,h1]) [.sh (Z0 w h T D),s1,.bw (qs.map dY),.sh (Z0 w h (T++S) D),.no,.no,.no,.no,.no] ⟨_,_,_,_,_,rfl⟩
 unfold rz
 rcases core with⟨r,ρ',e1,e2⟩|⟨ρ',e1,e2,_⟩
 ·rw[e1]
  rcases hs1 with rfl|rfl
  ·generalize (T++S).map aV=TS at *
   generalize Z0 w h (T++S) D=Yv' at *
   generalize Z0 w h T D=Yv at *
   generalize qs.map dY=QS at *
   generalize S.map aV=SV at *
   generalize T.map aV=TV at *
   generalize D.map cG=DV at *
   simp[mH,pI,List.replicate,yw,yh,yt,yd,add_l hadd,happ,bW,q2,hY,hlq,rr,e2,jJ]
  ·generalize (T++S).map aV=TS at *
   generalize Z0 w h (T++S) D=Yv' at *
   generalize Z0 w h T D=Yv at *
   generalize qs.map dY=QS at *
   generalize S.map aV=SV at *
   generalize T.map aV=TV at *
   generalize D.map cG=DV at *
   simp[mH,pI,List.replicate,yw,yh,yt,yd,add_l hadd,happ,bW,q2,hY,hlq,rr,e2,jJ]
 ·rw[e1]
  rcases hs1 with rfl|rfl
  ·generalize (T++S).map aV=TS at *
   generalize Z0 w h (T++S) D=Yv' at *
   generalize Z0 w h T D=Yv at *
   generalize qs.map dY=QS at *
   generalize S.map aV=SV at *
   generalize T.map aV=TV at *
   generalize D.map cG=DV at *
   simp[mH,pI,List.replicate,yw,yh,yt,yd,add_l hadd,happ,bW,q2,hY,hlq,rr,e2,jJ]
  ·generalize (T++S).map aV=TS at *
   generalize Z0 w h (T++S) D=Yv' at *
   generalize Z0 w h T D=Yv at *
   generalize qs.map dY=QS at *
   generalize S.map aV=SV at *
   generalize T.map aV=TV at *
   generalize D.map cG=DV at *
   simp[mH,pI,List.replicate,yw,yh,yt,yd,add_l hadd,happ,bW,q2,hY,hlq,rr,e2,jJ]
def nes(o:Option Nat):dD (jJ o) (jJ o)=some (.bl false):=by
 cases o with
 |none=>rfl
 |some k=>simp[jJ]
def Z1J(O:List (Th×Int))(hO:O.length<=1000)(c:Nat):Ŕ (gN 0) Ŏ (ć Ę (ā 0) (mC (.int 1))) (((List.range O.length).filter λk=>c.testBit k).map λk=>eX (O.getD k default)) [.no] []=some ((((List.range O.length).filter λk=>c.testBit k).map λk=>(O.getD k default).2).map PV.int):=by
 have c1:=ŉ (g:=gN 0) (mt:=Ŏ) (me:=ć Ę (ā 0) (mC (.int 1))) (λk=>eX (O.getD k default)) (λk=>PV.int (O.getD k default).2) (λρ=>∃a,ρ=[a]) ((List.range O.length).filter λk=>c.testBit k) [.no] [] ⟨_,rfl⟩ (by
  have:=List.length_filter_le (λk=>c.testBit k) (List.range O.length)
  simp at this ⊢
  omega) (by
  rintro k _ ρ ⟨a,rfl⟩
  generalize O.getD k default=o at *
  exact⟨[.sh (eX o)],[.sh (eX o)],[.sh (eX o)],by simp,by simp,by simp[eX],_,rfl⟩)
 rw[List.nil_append] at c1
 rw[c1,List.map_map]
 rfl
def Z1K(O:List (Th×Int))(hO:O.length<=1000)(c:Nat):Ŕ (gN 0) Ŏ (ć Ę (ā 0) (mC (.int 0))) (((List.range O.length).filter λk=>c.testBit k).map λk=>eX (O.getD k default)) [.no] []=some ((jO O c).map aV):=by
 have c1:=ŉ (g:=gN 0) (mt:=Ŏ) (me:=ć Ę (ā 0) (mC (.int 0))) (λk=>eX (O.getD k default)) (λk=>aV (O.getD k default).1) (λρ=>∃a,ρ=[a]) ((List.range O.length).filter λk=>c.testBit k) [.no] [] ⟨_,rfl⟩ (by
  have:=List.length_filter_le (λk=>c.testBit k) (List.range O.length)
  simp at this ⊢
  omega) (by
  rintro k _ ρ ⟨a,rfl⟩
  generalize O.getD k default=o at *
  exact⟨[.sh (eX o)],[.sh (eX o)],[.sh (eX o)],by simp,by simp,by simp[eX],_,rfl⟩)
 rw[List.nil_append] at c1
 rw[c1]
 unfold jO
 rw[List.map_map]
 rfl
def Z1i(O:List (Th×Int))(hO:O.length<=1000)(c:Nat):Ŕ (gT 2 (ę (gN 0) (ę (gN 1) Ř))) Ŏ (Ĥ 1) (((List.range O.length).filter λk=>c.testBit k).map λk=>eX (O.getD k default)) [.no,.no] []=some ((((List.range O.length).filter λk=>c.testBit k).map λk=>(O.getD k default).2).map PV.int):=by
 have c1:=ŉ (g:=gT 2 (ę (gN 0) (ę (gN 1) Ř))) (mt:=Ŏ) (me:=Ĥ 1) (λk=>eX (O.getD k default)) (λk=>PV.int (O.getD k default).2) (λρ=>∃a b,ρ=[a,b]) ((List.range O.length).filter λk=>c.testBit k) [.no,.no] [] ⟨_,_,rfl⟩ (by
  have:=List.length_filter_le (λk=>c.testBit k) (List.range O.length)
  simp at this ⊢
  omega) (by
  rintro k _ ρ ⟨a,b,rfl⟩
  generalize O.getD k default=o at *
  exact⟨[.sh (aV o.1),.sh (.int o.2)],[.sh (aV o.1),.sh (.int o.2)],[.sh (aV o.1),.sh (.int o.2)],by simp[eX],by simp,by simp,_,_,rfl⟩)
 rw[List.nil_append] at c1
 rw[c1,List.map_map]
 rfl
def Z2E{O:List (Th×Int)}{c:Nat}{t:Th}(h:t∈jO O c):∃o∈O,o.1=t:=by
 unfold jO at h
 obtain⟨k,hk,rfl⟩:=List.mem_map.mp h
 have hk:=List.mem_range.mp (List.mem_filter.mp hk).1
 exact⟨O[k],List.getElem_mem hk,by simp[hk]⟩
def Z2F(O:List (Th×Int))(c:Nat):(jO O c).length<=O.length:=by
 unfold jO
 rw[List.length_map]
 have:=List.length_filter_le (λk=>c.testBit k) (List.range O.length)
 simpa using this
def Z35{w h:Nat}{T:List Th}(Y:∀c,∀O:List (Th×Int),O.length<=9->(∀o∈O,Z1 o.1.1 o.1.2=true)->JX w h (T++jO O c)){lg:Nat}{D:List Dy}(hD:∀d∈D,Zj lg d)(hDl:D.length<=1000){O:List (Th×Int)}(hO:O.length<=9)(TJ:∀o∈O,Z1 o.1.1 o.1.2=true){qs:List Wt}(hl:qs.length<=1000)(hq:∀q∈qs,Zl w h q/\Zq D q)
 {c:Nat}(hc:c<2 ^ O.length)(hun:rz T (jO O c) D qs=none)(hmin:∀c',c'<2 ^ O.length->rz T (jO O c') D qs=none->Z6 (λk=>(O.getD k default).2) O.length c<=Z6 (λk=>(O.getD k default).2) O.length c'/\(Z6 (λk=>(O.getD k default).2) O.length c'=Z6 (λk=>(O.getD k default).2) O.length c->c<=c')) :
 Om [.sh (Z0 w h T D),.bw (O.map eX),.bw (qs.map dY),.sh (.tup [.str "choice",.int c,.int (Z6 (λk=>(O.getD k default).2) O.length c),.lst ((List.range (2 ^ O.length)).map λc=>jJ (rz T (jO O c) D qs))])]=.ret (.sh (.bl true)):=by
 have hp:2 ^ O.length<=512:=by
  have:=Nat.pow_le_pow_right (show 0<2 by omega) hO
  simpa using this
 have rr:=Zp (n:=2 ^ O.length) (by omega)
 have hpl:(((List.range (2 ^ O.length)).map λc=>jJ (rz T (jO O c) D qs)).length:Int)=((2 ^ O.length:Nat):Int):=by simp
 have hpi:((2 ^ O.length:Nat):Int)=2 ^ O.length:=by simp
 have hol:((O.map eX).length:Int)=(O.length:Int):=by simp
 have so:iW 1 (O.length:Int)=true:=by simp[iW];omega
 have mr:=Zo eX default O
 have ch:∀d:Nat,vW [.bw (O.map eX),.sh (.int d)]=.ret (.ow (((List.range O.length).filter λk=>d.testBit k).map λk=>eX (O.getD k default))):=λd=>by rw[mr];exact Z1h (λk=>eX (O.getD k default)) (by omega) d
 have p2:=Z1i O (by omega) c
 have hs:(((List.range O.length).filter λk=>c.testBit k).map λk=>(O.getD k default).2).sum=Z6 (λk=>(O.getD k default).2) O.length c:=rfl
 have hpx:∀d,d<2 ^ O.length->((List.range (2 ^ O.length)).map λc=>jJ (rz T (jO O c) D qs))[d]?=some (jJ (rz T (jO O d) D qs)):=λd hd=>by simp[hd]
 have hum:∀d,mH [.sh (Z0 w h T D),.sh (.lst ((jO O d).map aV)),.bw (qs.map dY)]=.ret (.sh (jJ (rz T (jO O d) D qs))):=λd=>Z0H (Y d O hO TJ) hD hDl hl hq (.inl rfl)
 have p1:=Z1J O (by omega)
 have f1:=Z1K O (by omega)
 generalize hPA:((List.range (2 ^ O.length)).map λc=>jJ (rz T (jO O c) D qs))=PA at *
 obtain⟨ρ',el,_⟩:=fY (g:=gN 4) (mb:=qm) (λ(i:Nat)=>PV.int (i:Int)) (λ(_:Unit) (_:Nat)=>()) (λ_ ρ=>∃a b d e,ρ=[.sh (Z0 w h T D),.bw (O.map eX),.bw (qs.map dY),.sh (.tup [.str "choice",.int c,.int (Z6 (λk=>(O.getD k default).2) O.length c),.lst PA]),a,b,d,e]) (List.range (2 ^ O.length)) (by
  rintro d hd _ ρ ⟨a,b,e,f,rfl⟩
  have hd:=List.mem_range.mp hd
  have h1:=ch d
  have h2:=p1 d
  have h3:=f1 d
  have h4:=hum d
  have h5:=hpx d hd
  have hsd:(((List.range O.length).filter λk=>d.testBit k).map λk=>(O.getD k default).2).sum=Z6 (λk=>(O.getD k default).2) O.length d:=rfl
  have hne:=nes (rz T (jO O d) D qs)
  have Qq:uJ (jJ (rz T (jO O d) D qs))=(rz T (jO O d) D qs).isNone:=by cases rz T (jO O d) D qs<;>rfl
  have key:(d=c\/Z6 (λk=>(O.getD k default).2) O.length d<Z6 (λk=>(O.getD k default).2) O.length c\/(Z6 (λk=>(O.getD k default).2) O.length d=Z6 (λk=>(O.getD k default).2) O.length c/\d<c))->(rz T (jO O d) D qs).isNone=decide (d=c):=by
   intro hk
   by_cases hdc:d=c
   ·subst hdc;rw[hun];simp
   ·rw[decide_eq_false hdc]
    cases hu:rz T (jO O d) D qs with
    |some _=>rfl
    |none=>
     have:=hmin d hd hu
     exfalso
     rcases hk with hk|hk|⟨hk,hk2⟩
     ·exact hdc hk
     ·omega
     ·have:=this.2 hk;omega
  clear hmin hum hpx ch p1 f1 p2
  generalize (((List.range O.length).filter λk=>d.testBit k).map λk=>eX (O.getD k default))=R at *
  generalize (((List.range O.length).filter λk=>d.testBit k).map λk=>(O.getD k default).2)=PS at *
  generalize Z6 (λk=>(O.getD k default).2) O.length d=sd at *
  generalize Z6 (λk=>(O.getD k default).2) O.length c=sc at *
  generalize (jO O d).map aV=CT at *
  generalize hU:rz T (jO O d) D qs=U at *
  generalize jJ U=V at *
  generalize Z0 w h T D=Yv at *
  generalize qs.map dY=QS at *
  generalize O.map eX=OS at *
  refine⟨[.sh Yv,.bw OS,.bw QS,.sh (.tup [.str "choice",.int c,.int sc,.lst PA]),.sh (.int d),b,e,f],?_⟩
  by_cases hk:d=c\/sd<sc\/(sd=sc/\d<c)
  ·refine⟨[.sh Yv,.bw OS,.bw QS,.sh (.tup [.str "choice",.int c,.int sc,.lst PA]),.sh (.int d),.sh (.lst R),.sh (.int sd),.sh V],rfl,?_,_,_,_,_,rfl⟩
   have hk2:=key hk
   rw[hk2] at Qq
   have hdi:((d:Int)=(c:Int))↔d=c:=by omega
   have hdl:((d:Int)<(c:Int))↔d<c:=by omega
   rcases hk with hk|hk|⟨hk,hkl⟩
   ·subst hk
    simp[qm,h1,h2,h3,h4,h5,hsd,hne,Qq]
   ·by_cases hdc:d=c
    ·subst hdc
     simp[qm,h1,h2,h3,h4,h5,hsd,hne,Qq]
    ·have Zhl:¬(d:Int)=(c:Int):=by omega
     simp[qm,h1,h2,h3,h4,h5,hsd,hne,Qq,hk,hdc]
     exact Zhl
   ·have hdc:¬d=c:=by omega
    subst hk
    simp[qm,h1,h2,h3,h4,h5,hsd,hne,Qq,hkl,hdc]
    omega
  ·refine⟨[.sh Yv,.bw OS,.bw QS,.sh (.tup [.str "choice",.int c,.int sc,.lst PA]),.sh (.int d),.sh (.lst R),.sh (.int sd),f],rfl,?_,_,_,_,_,rfl⟩
   have n1:¬d=c:=λz=>hk (.inl z)
   have n2:¬sd<sc:=λz=>hk (.inr (.inl z))
   by_cases n3:sd=sc
   ·have n4:¬d<c:=λz=>hk (.inr (.inr ⟨n3,z⟩))
    have n4i:¬(d:Int)<(c:Int):=by omega
    have n1i:¬(d:Int)=(c:Int):=by omega
    subst n3
    simp[qm,h1,h2,hsd,n1i,n4i,n1,n4]
   ·have n1i:¬(d:Int)=(c:Int):=by omega
    simp[qm,h1,h2,hsd,n1i,n1,n2,n3]) () [.sh (Z0 w h T D),.bw (O.map eX),.bw (qs.map dY),.sh (.tup [.str "choice",.int c,.int (Z6 (λk=>(O.getD k default).2) O.length c),.lst PA]),.no,.no,.no,.no] ⟨_,_,_,_,rfl⟩
 have chc:=ch c
 clear ch hum hpx p1 f1 hmin
 have i1:pX ZU ZV ZW ZX [.lst PA,.ty "list"]=some (.bl true):=rfl
 have i2:pX ZU ZV ZW ZX [.int c,.ty "int"]=some (.bl true):=rfl
 have i3:pX ZU ZV ZW ZX [.int c,.ty "bool"]=some (.bl false):=rfl
 have hci:(c:Int)<((2 ^ O.length:Nat):Int):=by exact_mod_cast hc
 have hcn:¬((2:Int) ^ O.length<=(c:Int)):=by rw[<-hpi];omega
 have rr2:=rr
 rw[hpi] at rr2
 rw[<-hs] at *
 generalize (((List.range O.length).filter λk=>c.testBit k).map λk=>eX (O.getD k default))=R at *
 generalize (((List.range O.length).filter λk=>c.testBit k).map λk=>(O.getD k default).2)=PS at *
 generalize Z0 w h T D=Yv at *
 generalize qs.map dY=QS at *
 generalize O.map eX=OS at *
 generalize (List.range (2 ^ O.length)).map (λ(i:Nat)=>PV.int (i:Int))=RG at *
 simp[Om,Ol,List.replicate,hpl,hol,so,i1,i2,i3,chc,p2,rr,rr2,el,hpi,hci,hcn]
def Z3g:CG 2 0=some 0:=rfl
def Z3h:CG 2 1=some 1:=rfl
def Z27(c:Int):∃w h:Nat,pY [.sh (.int c),.sh (.int 4)]=.ret (.sh (.tup [.int w,.int h]))/\1<=w/\w<=20/\1<=h/\h<=20/\w*h<=20:=by
 have h0:c / 7 % 16=11\/¬c / 7 % 16=11:=by omega
 have hd:c % 4=0\/c % 4=1\/c % 4=2\/c % 4=3:=by omega
 rcases hd with hd|hd|hd|hd
 ·obtain⟨h,hh⟩:∃h:Nat,1+c / 5 % 4=(h:Int):=⟨(1+c / 5 % 4).toNat,by omega⟩
  refine⟨1,h,?_,by omega,by omega,by omega,by omega,by omega⟩
  rcases h0 with h0|h0<;>simp[pY,pC,List.replicate,h0,hd,hh]
 ·obtain⟨h,hh⟩:∃h:Nat,1+c / 5 % 2=(h:Int):=⟨(1+c / 5 % 2).toNat,by omega⟩
  refine⟨2,h,?_,by omega,by omega,by omega,by omega,by omega⟩
  rcases h0 with h0|h0<;>simp[pY,pC,List.replicate,h0,hd,hh]
 ·refine⟨3,1,?_,by omega,by omega,by omega,by omega,by omega⟩
  rcases h0 with h0|h0<;>simp[pY,pC,List.replicate,h0,hd]
 ·refine⟨4,1,?_,by omega,by omega,by omega,by omega,by omega⟩
  rcases h0 with h0|h0<;>simp[pY,pC,List.replicate,h0,hd]
def Z1L{w h:Nat}(hw:0<w)(hh:0<h){lg:Nat}{D:List Dy}(hD:∀d∈D,Zj lg d)(hl:0<D.length)(c:Int)(Q:List Wt)(hQ:Q.length<=1000)(z a b:P.Slot):∃(q:Wt) (a' b':P.Slot),yr [z,.sh (.tup [.int w,.int h]),.bw (D.map cG),.ow (Q.map dY),.sh (.int c),a,b]=.ok .nx [z,.sh (.tup [.int w,.int h]),.bw (D.map cG),.ow ((Q ++ [q]).map dY),.sh (.int c),a',b']/\Zl w h q/\Zq D q:=by
 obtain⟨xs,eg,hx,_⟩:=ZK c (n:=4) (by omega)
 obtain⟨a0,x0⟩:∃a,(xs.map PV.int)[0]?=some (.int a):=⟨xs[0],by simp⟩
 obtain⟨a1,x1⟩:∃a,(xs.map PV.int)[1]?=some (.int a):=⟨xs[1],by simp⟩
 obtain⟨a2,x2⟩:∃a,(xs.map PV.int)[2]?=some (.int a):=⟨xs[2],by simp⟩
 obtain⟨a3,x3⟩:∃a,(xs.map PV.int)[3]?=some (.int a):=⟨xs[3],by simp⟩
 have f1:∀(b:Int) {n:Nat},0<n->b.fmod (n:Int)=b % n/\0<=b % (n:Int)/\b % (n:Int)<n:=λb n hn=>⟨Int.fmod_eq_emod_of_nonneg _ (by omega),Int.emod_nonneg _ (by omega),Int.emod_lt_of_pos _ (by omega)⟩
 obtain⟨g1,g2,g3⟩:=f1 a0 hl
 obtain⟨i,hi⟩:∃i:Nat,a0 % (D.length:Int)=(i:Int):=⟨(a0 % (D.length:Int)).toNat,by omega⟩
 have hil:i<D.length:=by omega
 have hdk:=hD D[i] (List.getElem_mem hil)
 have hlen:=hdk.2.1.1
 obtain⟨w1,w2,w3⟩:=f1 a1 hw
 obtain⟨h1,h2,h3⟩:=f1 a2 hh
 obtain⟨t1,t2,t3⟩:=f1 a3 (show 0<D[i].2.2.length by omega)
 refine⟨(a1 % w,a2 % h,i,a3 % D[i].2.2.length),.ow (xs.map .int),.sh (.int i),?_,⟨⟨w2,w3⟩,h2,h3⟩,⟨⟨by dsimp only;omega,by dsimp only;omega⟩,t2,?_⟩⟩
 ·have hdl:(D.map cG).length=D.length:=by simp
  have hdx:(D.map cG)[i]?=some (.tup [.str D[i].1,.int D[i].2.1,.lst (D[i].2.2.map jN)]):=by simp[hil,cG]
  have htl:(D[i].2.2.map jN).length=D[i].2.2.length:=by simp
  have hQl:(Q.map dY).length<16777216:=by rw[List.length_map];omega
  have z1:¬w=0:=by omega
  have z2:¬h=0:=by omega
  have z3:¬D.length=0:=by omega
  have z4:¬D[i].2.2.length=0:=by omega
  have eg':nZ [.sh (.int c),.sh (.int 4)]=.ret (.ow (xs.map .int)):=eg
  rw[List.map_append]
  rw[<-hdl] at g1 z3 hi
  rw[<-htl] at t1 z4 ⊢
  generalize Q.map dY=QS at *
  generalize D[i].2.2.map jN=TV at *
  generalize D.map cG=DV at *
  generalize xs.map PV.int=XS at *
  simp[yr,eg',x0,x1,x2,x3,g1,hi,hdx,z1,z2,z3,z4,w1,h1,t1,dY,hQl,Z3g,Z3h]
 ·have hg:D.getD ((i:Int)).toNat default=D[i]:=by simp[hil]
  dsimp only
  rw[hg]
  exact t3
theorem Z0h{w h:Nat}(hw:0<w)(hh:0<h){lg:Nat}{D:List Dy}(hD:∀d∈D,Zj lg d)(hl:0<D.length)(z:P.Slot):∀(cs:List Int) (Q:List Wt) (c a b:P.Slot),Q.length+cs.length<=1000->(∀q∈Q,Zl w h q/\Zq D q)->∃(Q':List Wt) (c' a' b':P.Slot),forL (gN 4) yr (cs.map .int) [z,.sh (.tup [.int w,.int h]),.bw (D.map cG),.ow (Q.map dY),c,a,b]=.ok .nx [z,.sh (.tup [.int w,.int h]),.bw (D.map cG),.ow (Q'.map dY),c',a',b']/\Q'.length=Q.length+cs.length/\∀q∈Q',Zl w h q/\Zq D q
 | [],Q,c,a,b,_,hq=>⟨Q,c,a,b,rfl,rfl,hq⟩
 |x::cs,Q,c,a,b,hn,hq=>by
  simp only[List.length_cons] at hn
  obtain⟨q,a1,b1,e1,g1⟩:=Z1L hw hh hD hl x Q (by omega) z a b
  obtain⟨Q',c',a',b',e2,l2,g2⟩:=Z0h hw hh hD hl z cs (Q ++ [q]) (.sh (.int x)) a1 b1 (by simp;omega) (by
   intro y hy
   rcases List.mem_append.mp hy with hy|hy
   ·exact hq y hy
   ·rw[List.mem_singleton.mp hy];exact g1)
  refine⟨Q',c',a',b',?_,by simp at l2 ⊢;omega,g2⟩
  rw[List.map_cons,forL]
  generalize (Q ++ [q]).map dY=Q1 at *
  generalize Q'.map dY=Q2 at *
  generalize Q.map dY=QS at *
  generalize D.map cG=DV at *
  simp[e1]
  exact e2
def Z1j{w h:Nat}(hw:0<w)(hh:0<h){lg:Nat}{D:List Dy}(hD:∀d∈D,Zj lg d)(hl:0<D.length)(cs:List Int)(hc:cs.length<=1000):∃qs:List Wt,Bf [.sh (.lst (cs.map .int)),.sh (.tup [.int w,.int h]),.bw (D.map cG)]=.ret (.ow (qs.map dY))/\qs.length=cs.length/\∀q∈qs,Zl w h q/\Zq D q:=by
 obtain⟨Q',c',a',b',e,l,g⟩:=Z0h hw hh hD hl (.sh (.lst (cs.map .int))) cs [] .no .no .no (by simpa using hc) (by simp)
 refine⟨Q',?_,by simpa using l,g⟩
 rw[List.map_nil] at e
 generalize cs.map PV.int=CS at *
 generalize Q'.map dY=Q2 at *
 generalize D.map cG=DV at *
 simp[Bf,DQ,List.replicate,e]
def Z28(c:Int):∃m:Int,wj [.sh (.int c)]=.ret (.sh (.int m)):=by
 have hp:vm 10 9=true:=by decide
 have hd:c % 3=0\/c % 3=1\/c % 3=2:=by omega
 rcases hd with hd|hd|hd
 ·exact⟨c / 3 % 4,by simp[wj,tW,List.replicate,hd,hp]⟩
 ·exact⟨c / 3 % 4,by simp[wj,tW,List.replicate,hd,hp]⟩
 ·exact⟨c / 3 % 1000000001,by simp[wj,tW,List.replicate,hd,hp]⟩
def Z3i(ns:List Int){w h:Nat}(hw:1<=w/\w<=20)(hh:1<=h/\h<=20)(k:Nat)(O:List (Th×Int))(hO:O.length<=1000)(z2 z3 z4 z7 z8 z9 TQ:P.Slot):∃(o:Th×Int) (a b:P.Slot),tX [.sh (.lst (ns.map .int)),.sh (.tup [.int w,.int h]),z2,z3,z4,.ow (O.map eX),.sh (.int k),z7,z8,z9,TQ]=.ok .nx [.sh (.lst (ns.map .int)),.sh (.tup [.int w,.int h]),z2,z3,z4,.ow ((O ++ [o]).map eX),.sh (.int k),z7,z8,a,b]/\Z1 o.1.1 o.1.2=true:=by
 have e1:=Zv ns (6+k)
 have e7:((6+k:Nat):Int)=6+(k:Int):=by omega
 rw[e7] at e1
 generalize ns.getD (6+k) 0=v at *
 obtain⟨t,q1,q2⟩:=Z0d (v / 3) (w:=((max w h:Nat):Int)) (by omega) (by omega)
 obtain⟨m,q3⟩:=Z28 v
 have e:=Z0p (Z0E q2) (xs:=t.2) (sl:=.sh (.lst (t.2.map .int))) (.inl rfl)
 rw[if_pos q2] at e
 change gA _=.ret (.sh (aV t)) at e
 refine⟨(t,m),.sh (.lst (t.2.map .int)),.sh (.str t.1),?_,q2⟩
 have mx:=Z1C w h
 have hOl:(O.map eX).length<16777216:=by rw[List.length_map];omega
 rw[List.map_append]
 have ho:[((t,m):Th×Int)].map eX=[.tup [aV t,.int m]]:=rfl
 rw[ho]
 generalize O.map eX=OS at *
 generalize ((max w h:Nat):Int)=mm at *
 generalize aV t=TV at *
 generalize t.2.map PV.int=TX at *
 generalize ns.map PV.int=NS at *
 simp[tX,e1,mx,q1,e,q3,hOl,-ZJ]
theorem Z2g(ns:List Int){w h:Nat}(hw:1<=w/\w<=20)(hh:1<=h/\h<=20)(z2 z3 z4 z7 z8:P.Slot):∀(ks:List Nat) (O:List (Th×Int)) (z6 z9 TQ:P.Slot),O.length+ks.length<=1000->(∀o∈O,Z1 o.1.1 o.1.2=true)->∃(O':List (Th×Int)) (c a b:P.Slot),forL (gN 6) tX (ks.map λ(i:Nat)=>PV.int (i:Int)) [.sh (.lst (ns.map .int)),.sh (.tup [.int w,.int h]),z2,z3,z4,.ow (O.map eX),z6,z7,z8,z9,TQ]=.ok .nx [.sh (.lst (ns.map .int)),.sh (.tup [.int w,.int h]),z2,z3,z4,.ow (O'.map eX),c,z7,z8,a,b]/\O'.length=O.length+ks.length/\∀o∈O',Z1 o.1.1 o.1.2=true
 | [],O,z6,z9,TQ,_,hO=>⟨O,z6,z9,TQ,rfl,rfl,hO⟩
 |k::ks,O,z6,z9,TQ,hn,hO=>by
  simp only[List.length_cons] at hn
  obtain⟨o,a,b,e1,g1⟩:=Z3i ns hw hh k O (by omega) z2 z3 z4 z7 z8 z9 TQ
  obtain⟨O',c',a',b',e2,l2,g2⟩:=Z2g ns hw hh z2 z3 z4 z7 z8 ks (O ++ [o]) (.sh (.int k)) a b (by simp;omega) (by
   intro y hy
   rcases List.mem_append.mp hy with hy|hy
   ·exact hO y hy
   ·rw[List.mem_singleton.mp hy];exact g1)
  refine⟨O',c',a',b',?_,by simp at l2 ⊢;omega,g2⟩
  rw[List.map_cons,forL]
  generalize (O ++ [o]).map eX=O1 at *
  generalize O'.map eX=O2 at *
  generalize O.map eX=OS at *
  generalize ns.map PV.int=NS at *
  simp[e1]
  exact e2
def Z2G(O:List (Th×Int)):jO O (2 ^ O.length-1)=O.map (·.1):=by
 unfold jO
 have:((List.range O.length).filter λk=>(2 ^ O.length-1).testBit k)=List.range O.length:=by
  rw[List.filter_eq_self]
  intro k hk
  rw[Nat.testBit_two_pow_sub_one]
  exact decide_eq_true (List.mem_range.mp hk)
 rw[this,<-Zo (λo:Th×Int=>o.1) default O]
def Z2H(O:List (Th×Int))(hO:O.length<=1000):Ŕ (gN 0) Ŏ (ć Ę (ā 0) (mC (.int 0))) (O.map eX) [.no] []=some ((O.map (·.1)).map aV):=by
 have c1:=ŉ (g:=gN 0) (mt:=Ŏ) (me:=ć Ę (ā 0) (mC (.int 0))) eX (λo=>aV o.1) (λρ=>∃a,ρ=[a]) O [.no] [] ⟨_,rfl⟩ (by simp;omega) (by
  rintro o _ ρ ⟨a,rfl⟩
  exact⟨[.sh (eX o)],[.sh (eX o)],[.sh (eX o)],by simp,by simp,by simp[eX],_,rfl⟩)
 rw[List.nil_append] at c1
 rw[c1,List.map_map]
 rfl
def Z2I(ns:List Int)(hn:ns.length<=63):∃ys cs:List Int,eZ (ns.map PV.int) (some 9) (some 14)=ys.map .int/\Ķ (.lst (ys.map .int)) (.lst [.int 5])=some (.ow ((ys ++ [5]).map .int))/\eZ ((ys ++ [5]).map PV.int) none (some 5)=cs.map .int/\cs.length<=100:=by
 obtain⟨ys,h1,l1⟩:=slI ns (some 9) (some 14)
 obtain⟨cs,h2,l2⟩:=slI (ys ++ [5]) none (some 5)
 refine⟨ys,cs,h1,?_,h2,by simp at l2;omega⟩
 have:=add_l (xs:=ys.map PV.int) (ys:=[.int 5]) (by simp;omega)
 rw[this]
 simp
def Z2h{a b:Str}{v:Bool}(ha:PyData.strOk a=true)(hb:PyData.strOk b=true)(h:decide (a=b)=v):aD (.str a) (.str b)=some (.bl v):=by rw[eN ha hb,h]
def Z3j{a b:Str}{v:Bool}(ha:PyData.strOk a=true)(hb:PyData.strOk b=true)(h:decide (a=b)=v):dD (.str a) (.str b)=some (.bl !v):=by rw[Nq ha hb,h]
def Z0j:M Fl:=(ģ (ķ 8 (Ē Bs (Ą 4 (Ą 5 (Ą 7 Ď)))))
 (ģ (gq (dh (ć aD (ć Ę (ā 8) (mC (.int 0))) (mC (.str "choice"))))
 (į (Ē Om (Ą 4 (Ą 5 (Ą 7 (Ą 8 Ď))))))
 gH)
 (ģ (gq (qD (dh (ć dD (ć Ę (ā 8) (mC (.int 0))) (mC (.str "none")))) (dh (ć dD (eY fj (Ĉ (ā 8) ĝ)) (mC (.int 2)))))
 (į (ş (mC (.bl false))))
 gH)
 (ģ (ķ 9 (ś [] 1 (ř 5) (gN 0) Ŏ (ć Ę (ā 0) (mC (.int 0)))))
 (į (ş (jg (ć jl (ć Ę (ā 8) (mC (.int 1))) (mC .non)) (ć aD (ć Ę (ā 8) (mC (.int 1))) (Ė (Ē mH (Ą 4 (Ą 9 (Ą 7 Ď)))))))))))))
def Z0I:M Fl:=(ģ (ķ 5 (bV ĝ))
 (ģ (eG (aW bT (Ĉ (Ė (ĺ Ķ (mC (.int 1)) (ć ō (ć bK (Ė (Ē cN (Ą 0 (Ĕ (mC (.int 1)) Ď)))) (mC (.int 2))) (mC (.int 3))))) ĝ)) (gN 6) tX)
 (ģ (ķ 7 (Ē Bf (Ĕ (Ė (Ad (Ė (ĺ Ķ (Ė (Ad (ā 0) (mP (mC (.int 9))) (mP (mC (.int 14))))) (Ė (bV (Ĉ (mC (.int 5)) ĝ))))) Ac (mP (mC (.int 5))))) (Ą 1 (Ą 3 Ď)))))
 Z0j)))
def Z3m:Fv=(ģ (ķ 1 (Ē pY (Ĕ (Ė (Ē cN (Ą 0 (Ĕ (mC (.int 0)) Ď)))) (Ĕ (mC (.int 4)) Ď))))
 (ģ (ķ 2 (ś [1] 1 (Ű (Ė (Ad (ā 0) (mP (mC (.int 2))) (mP (mC (.int 4)))))) (gN 1) Ŏ (Ė (Ē jD (Ą 1 (Ĕ (eY kO (Ĉ (ā 0) ĝ)) Ď))))))
 (ģ (ķ 3 (Ē vK (Ą 0 (Ĕ (mC (.int 4)) (Ĕ (Ė (ĺ Ķ (mC (.int 1)) (ć ō (Ė (Ē cN (Ą 0 (Ĕ (mC (.int 1)) Ď)))) (mC (.int 2))))) (Ĕ (mC (.int 3)) Ď))))))
 (ģ (ķ 4 (ş (bW "Yard" lJ (Ĕ (ć Ę (ā 1) (mC (.int 0))) (Ĕ (ć Ę (ā 1) (mC (.int 1))) (Ĕ (Ė (ś [] 2 (ř 2) (gT 2 (ę (gN 0) (ę (gN 1) Ř))) Ŏ (Ė (Ē gA (Ą 0 (Ĕ (Ė (qF gK (Ĉ (ā 1) ĝ))) Ď)))))) (Ą 3 Ď)))))))
 Z0I)))):=rfl
def Z29(ns:List Int){w h:Nat}{T:List Th}(Y:JX w h T)(hTl:T.length<=900){lg:Nat}{D:List Dy}(hD:∀d∈D,Zj lg d)(hDl:D.length<=1000){O:List (Th×Int)}(hO:O.length<=9)(TJ:∀o∈O,Z1 o.1.1 o.1.2=true){qs:List Wt}(hl:qs.length<=1000)(hq:∀q∈qs,Zl w h q/\Zq D q)(z1 z2 z6 z9 TQ:P.Slot) :
 FR.of (Z0j [.sh (.lst (ns.map .int)),z1,z2,.ow (D.map cG),.sh (Z0 w h T D),.ow (O.map eX),z6,.ow (qs.map dY),.no,z9,TQ])=.ret (.sh (.bl true)):=by
 have Y2:∀c,∀O:List (Th×Int),O.length<=9->(∀o∈O,Z1 o.1.1 o.1.2=true)->JX w h (T++jO O c):=λc O hO TJ=>⟨Y.w0,Y.w1,Y.h1,Y.wh,by
  have:=Z2F O c
  rw[List.length_append];omega,λt ht=>by
  rcases List.mem_append.mp ht with ht|ht
  ·exact Y.tg t ht
  ·obtain⟨o,ho,rfl⟩:=Z2E ht
   exact TJ o ho⟩
 obtain⟨v,e1,⟨k,hu,rfl⟩|⟨c,hc,hu,hm,rfl⟩⟩:=Z1I Y hD hO TJ hl hq
 ·have un:=Z0H (Y2 (2 ^ O.length-1) O hO TJ) hD hDl hl hq (s1:=.bw ((jO O (2 ^ O.length-1)).map aV)) (.inr rfl)
  rw[hu,Z2G] at un
  have al:=Z2H O (by omega)
  have t1:aD (.str "none") (.str "choice")=some (.bl false):=Z2h (by decide +kernel) (by decide +kernel) (by decide +kernel)
  have t2:dD (.str "none") (.str "none")=some (.bl false):=Z3j (v:=true) (by decide +kernel) (by decide +kernel) (by decide +kernel)
  generalize Z0 w h T D=Yv at *
  generalize qs.map dY=QS at *
  generalize (O.map (·.1)).map aV=OT at *
  generalize O.map eX=OS at *
  generalize D.map cG=DV at *
  generalize ns.map PV.int=NS at *
  simp[Z0j,e1,al,un,t1,t2,jJ,uJ]
 ·have al:=Z35 Y2 hD hDl hO TJ hl hq hc hu hm
  have t1:aD (.str "choice") (.str "choice")=some (.bl true):=Z2h (by decide +kernel) (by decide +kernel) (by decide +kernel)
  generalize Z0 w h T D=Yv at *
  generalize qs.map dY=QS at *
  generalize O.map eX=OS at *
  generalize D.map cG=DV at *
  generalize ns.map PV.int=NS at *
  generalize hTT:[PV.str "choice",.int c,.int (Z6 (λk=>(O.getD k default).2) O.length c),.lst ((List.range (2 ^ O.length)).map λc=>jJ (rz T (jO O c) D qs))]=TT at *
  have h0:TT[0]?=some (.str "choice"):=by rw[<-hTT];rfl
  simp[Z0j,e1,al,h0,t1]
def Z1M(ns:List Int)(hn:ns.length<=63){w h:Nat}(hw:1<=w/\w<=20)(hh:1<=h/\h<=20){T:List Th}(Y:JX w h T)(hTl:T.length<=900){lg:Nat}{D:List Dy}(hD:∀d∈D,Zj lg d)(hDl:D.length<=1000)(Zhm:0<D.length)(z2:P.Slot) :
 FR.of (Z0I [.sh (.lst (ns.map .int)),.sh (.tup [.int w,.int h]),z2,.ow (D.map cG),.sh (Z0 w h T D),.no,.no,.no,.no,.no,.no])=.ret (.sh (.bl true)):=by
 have k1:cN [.sh (.lst (ns.map .int)),.sh (.int 1)]=.ret (.sh (.int (ns.getD 1 0))):=Zv ns 1
 obtain⟨c1,e1⟩:∃c,ns.getD 1 0=c:=⟨_,rfl⟩
 rw[e1] at k1
 obtain⟨n,hnn⟩:∃n:Nat,1+c1 / 2 % 3=(n:Int):=⟨(1+c1 / 2 % 3).toNat,by omega⟩
 have rr:=Zp (n:=n) (by omega)
 obtain⟨O,c,a,b,el,lo,go⟩:=Z2g ns hw hh z2 (.ow (D.map cG)) (.sh (Z0 w h T D)) .no .no (List.range n) [] .no .no .no (by simp;omega) (by simp)
 obtain⟨ys,cs,s1,s2,s3,s4⟩:=Z2I ns hn
 obtain⟨qs,q1,q2,q3⟩:=Z1j (w:=w) (h:=h) (by omega) (by omega) hD Zhm cs (by omega)
 have fin:=Z29 ns Y hTl hD hDl (O:=O) (by simp at lo;omega) go (by omega) q3 (.sh (.tup [.int w,.int h])) z2 c a b
 rw[List.map_nil] at el
 generalize Z0 w h T D=Yv at *
 generalize (ys ++ [5]).map PV.int=YS5 at *
 generalize ys.map PV.int=YS at *
 generalize cs.map PV.int=CS at *
 generalize qs.map dY=QS at *
 generalize O.map eX=OS at *
 generalize D.map cG=DV at *
 generalize ns.map PV.int=NS at *
 simp[Z0I,k1,hnn,rr,el,RW,s1,s2,s3,q1,-ZJ]
 simpa using fin
def Z36{l:PySem.W.OpenLaw}{w:World}{K:PySem.W.Frag}{mg:Str->Option Value}{fa:Addr}{a:Fw}(T:Tx K mg a)(hfa:mg "law" =some (.ref fa)):∃fd:FuncData,(∀(s:Shared) (v:Value),BindsTo s fd ⟨[v],[]⟩ [("_law_script",v)])/\∀base:Heap,K.In base->base.Ns mainGlobals mg->∃cm,Į l.prog w K mg base (ū l.prog w) 11 fa fd ["_law_script"] (ŷ ⟨K,cm⟩ 1 wu):=by
 have e:=hfa.symm.trans T.OJ.m
 cases e
 exact⟨a.Oz,λs v=>T.OJ.bb s [v] rfl,λbase _ _=>⟨_,Zdn T⟩⟩
def Z2a(ns:List Int)(hn:ns.length<=63):wu [.sh (.lst (ns.map .int))]=.ret (.sh (.bl true)):=by
 have k0:cN [.sh (.lst (ns.map .int)),.sh (.int 0)]=.ret (.sh (.int (ns.getD 0 0))):=Zv ns 0
 have k1:cN [.sh (.lst (ns.map .int)),.sh (.int 1)]=.ret (.sh (.int (ns.getD 1 0))):=Zv ns 1
 obtain⟨c0,e0⟩:∃c,ns.getD 0 0=c:=⟨_,rfl⟩
 obtain⟨c1,e1⟩:∃c,ns.getD 1 0=c:=⟨_,rfl⟩
 rw[e0] at k0
 rw[e1] at k1
 obtain⟨w,h,hs,w1,w2,h1,h2,wh⟩:=Z27 c0
 obtain⟨ys,hy,hyl⟩:=slI ns (some 2) (some 4)
 obtain⟨T,hT,hTl,hTg⟩:=Z0D ⟨w1,w2⟩ ⟨h1,h2⟩ ys [] .no (by simp;omega)
 rw[List.nil_append] at hT
 obtain⟨m,hm⟩:∃m:Nat,1+c1 % 2=(m:Int):=⟨(1+c1 % 2).toNat,by omega⟩
 obtain⟨D,hD,hDl,hDg⟩:=Z2x ns (n:=m) (lg:=3) (by omega) (by omega) (by omega)
 have hD':vK [.sh (.lst (ns.map .int)),.sh (.int 4),.sh (.int m),.sh (.int 3)]=.ret (.ow (D.map cG)):=hD
 have Y:JX w h T:=⟨by omega,by omega,by omega,by omega,by omega,hTg⟩
 have q1:=Z1D (T:=T) (by omega) hTg .no .no
 have q2:=Z0U (w:Int) (h:Int) (T:=T) (D:=D) (by omega) (by omega) (s3:=.sh (.lst (T.map aV))) (s4:=.bw (D.map cG)) (.inl rfl) (.inr rfl)
 have fin:=Z1M ns hn ⟨w1,w2⟩ ⟨h1,h2⟩ Y (by omega) hDg (by omega) (by omega) (.sh (.lst (T.map ZD)))
 have hY:PV.ins "Yard" ["width","height","things","days"] [.int w,.int h,.lst (T.map aV),.lst (D.map cG)]=Z0 w h T D:=rfl
 generalize Z0 w h T D=Yv at *
 generalize ns.map PV.int=NS at *
 generalize ys.map PV.int=YS at *
 generalize T.map ZD=TR at *
 generalize T.map aV=TV at *
 generalize D.map cG=DV at *
 simp[wu,Z3m,List.replicate,lR,iV,k0,k1,hs,RW,hy,hT,hm,hD',q1,bW,q2,hY,-ZJ]
 simpa using fin
def Z3n{l:PySem.W.OpenLaw}{q:Program}{loose:List Str}{XP:(Str->Option Value)->Heap->Prop}{YP:World->Heap->Prop}{d:DefRec}{K:Params->PySem.W.Frag}(hn:l.most=some 63)(hdf:d.params.defaults=[])
 (hY:∀(w:World) (h:Heap),YP w h->(K w.params).In h)
 (F:∀(w:World) (mg:Str→Option Value) (fa:Addr) (h:Heap),(K w.params).In h→h.Ns mainGlobals mg→mg d.name=some (.ref fa)→
   ∃fd:FuncData,(∀(s:Shared) (u:Value),BindsTo s fd ⟨[u],[]⟩ [("_law_script",u)])/\∀base:Heap,(K w.params).In base->base.Ns mainGlobals mg->∃cm,Į l.prog w (K w.params) mg base (ū l.prog w) 11 fa fd ["_law_script"] (ŷ ⟨K w.params,cm⟩ 1 wu))
 (hnt:∀w:World,PySem.W.noTabs (K w.params)=true)(hrec:∀y,y∈lams->∃d,(PyProof.Rows.recsOf q).find? (λe=>e.name== y)=some d) :
 PySem.W.WalkO q loose XP YP l.row.toRowW d [] (λf vs=>PySem.call f vs):=
 P.Jv (k:=11) (x:= "_law_script") (m:=wu) hn hdf ⟨rfl,by decide,by decide⟩ hY F Z2a (hnt:=λ_=>hnt) (hrec:=hrec)
end
end T
namespace PySem.W.Fast
def tw14539776596490779758:=0
def tw17210014711173617611:=0
def tw6481632577708409632:=0
def tw16522472480054650022:=0
def tw4651530443771650964:=0
def tw12620299975814053209:=0
def tw15600070251673440496:=0
def tw7996254845897506220:=0
def tw13008094862008737792:=0
def tw13677094378907909254:=0
def tw7095077203160895505:=0
def tw9606729074891726422:=0
def tw13183018286775425159:=0
def tw12955688546756302499:=0
def tw14608365776827701362:=0
def tw7115533035240886056:=0
def tw3430813661588092598:=0
def tw7350654655963095777:=0
def tw4229946244194584131:=0
def tw11823996186355094134:=0
def tw11808484478536836996:=0
def tw13295962237305956384:=0
def tw13549865310230134476:=0
def tw12262186267567489749:=0
def tw4973382885646840509:=0
def tw14754539710178660419:=0
def tw6174429069119322428:=0
def tw16596209418897853907:=0
def tw7059156655251224210:=0
def tw17963086281412427935:=0
def tw218818549889713589:=0
def tw16547854651726668750:=0
def tw415628379505864418:=0
def tw370883471985199645:=0
def tw11705946447551850333:=0
def tw9572914275073026946:=0
def tw14213190408297366493:=0
def tw16223071461829968923:=0
def tw12872134488412626401:=0
def tw422677164481596575:=0
def tw11973572554572133804:=0
def tw3863453019774196785:=0
def tw9599876780491343800:=0
def tw980401215235174753:=0
def tw2640791380547482535:=0
def tw8327190350447325974:=0
def tw3342767020143381690:=0
def tw7611153907121094158:=0
def tw557932070959638187:=0
def tw17489568588069187108:=0
def tw10512376164262559607:=0
def tw4033185304341145314:=0
def tw7665974126055984532:=0
def tw12409346924248609621:=0
def tw7056749407877397519:=0
def tw16943725432161422018:=0
def tw5251523613951200271:=0
def tw5527853452449940943:=0
def tw14161191238921259835:=0
def tw13598319824264853542:=0
def tw12445599072356010173:=0
def tw5409842091114702955:=0
def tw1495682155102235388:=0
def tw7120216606141575764:=0
def tw10577012056761853302:=0
def tw8251964308617020761:=0
def tw4648373222544165254:=0
def tw16174215084736488033:=0
def tw6853424046326286789:=0
def tw17155389140820462540:=0
def tw9845159617573279038:=0
def tw11485375359959081329:=0
def tw11424563245280557667:=0
def tw14607254649510111486:=0
def tw1372436397049964455:=0
def tw10952959495333894338:=0
def tw10860784989733556569:=0
def tw5331133862525885620:=0
def tw7280258871997590512:=0
def tw11424885657790995623:=0
def tw1694686560340161117:=0
def tw16418859167350188519:=0
def tw10772719349056011190:=0
def tw2526322230567245541:=0
def tw15466000603287835938:=0
def tw4546488076447981827:=0
def tw9079583827445491144:=0
def tw5553182739503151531:=0
def tw11524760937473841526:=0
def tw7900346320941633553:=0
def tw11185010488444398466:=0
def tw4119037943073798677:=0
def tw5621039345082176217:=0
def tw6394279613468404222:=0
def tw17420716063631642257:=0
def tw4782392470221998550:=0
def tw5493491787831848718:=0
def tw9429622610885691071:=0
def tw14067362033167401344:=0
def tw12419014201377005921:=0
def tw14315087019967886226:=0
def tw5533148958466595395:=0
def tw17709209885698354633:=0
def tw14016133819267884049:=0
def tw434000908148724405:=0
def tw11213655289783188871:=0
def tw16242540082499233479:=0
def tw17028989241038247990:=0
def tw16687866326945915331:=0
def tw14225536176512393485:=0
def tw13815009143691535439:=0
def tw12557077393251177979:=0
def tw14594157622878312150:=0
def tw3159424259361220952:=0
def tw4831695152755398287:=0
def tw8117843209740956759:=0
def tw12075629414980084340:=0
def tw14741134692965640203:=0
def tw2840922807449093828:=0
def tw11173870671853250399:=0
def tw18098164275399930235:=0
def tw14602418912738932715:=0
def tw4067080468078624265:=0
def tw4092201825844920800:=0
def tw4711983239180847262:=0
def tw13866849233865688808:=0
def tw6459650822148808181:=0
def tw10183871274931240618:=0
def tw4808340320453515485:=0
def tw1929045868895151008:=0
def tw11779055422839900345:=0
def tw10972193861603497488:=0
def tw16339253235112522603:=0
def tw9237946559394813070:=0
def tw1459465567525277352:=0
def tw15300087322460555197:=0
def tw10096574915723139574:=0
def tw68923443305004522:=0
def tw6154847338723566832:=0
def tw15587020365910314724:=0
def tw7147889389400013330:=0
def tw7547433875755292702:=0
def tw12537975626662909868:=0
def tw18388875708131893058:=0
def tw16759712613526184947:=0
def tw11955704807631849378:=0
def tw6870430671163885784:=0
def tw492185879062078504:=0
def tw6682303580704752950:=0
def tw2030826617962021002:=0
def tw10824117899822064659:=0
def tw13029490958160936362:=0
def tw5397934505376742297:=0
def tw5135451153387400502:=0
def tw8855662284029108313:=0
def tw341143381015927837:=0
def tw747872265418637911:=0
def tw13630404315382864135:=0
def tw5892922205799131197:=0
def tw6595613208010800425:=0
def tw8499082433571915097:=0
def tw7250591622058160561:=0
def tw17606719119229615007:=0
def tw12851349859867726179:=0
def tw458649774350042523:=0
def tw11005196274179773608:=0
def tw10457710179734558463:=0
def tw15291934492736708821:=0
def tw4733060124198113152:=0
def tw194176332900983963:=0
def tw6649569654765538210:=0
def tw5883251566714380462:=0
def tw6667958992588201817:=0
def tw16025322597997000838:=0
def tw6698191082204620279:=0
def tw99693317261238124:=0
def tw15555839679137865083:=0
def tw5526593396027187816:=0
def tw6809819211514521786:=0
def tw8815336312255718766:=0
def tw9566929427289837831:=0
def tw657416478019726518:=0
def tw9659478572466553365:=0
def tw12112135267893652948:=0
def tw12647362427073139487:=0
def tw17429402220300753803:=0
def tw4109338766887121737:=0
def tw12690438631603141386:=0
def tw5546264015246965837:=0
def tw6724993337360517193:=0
def tw8876212894972990747:=0
def tw12115721404155497771:=0
def tw10772890991569066306:=0
def tw247200043180327586:=0
def tw16843320656475217974:=0
def tw16971283181087666125:=0
def tw10788150889500678252:=0
def tw8799341050535141852:=0
def tw11013125883078809293:=0
def tw929734185271750598:=0
def tw6469330714826707060:=0
def tw1856112051686867921:=0
def tw7485563870858907017:=0
def tw13643496917963834904:=0
def tw11695172132334698023:=0
def tw15392663178442026030:=0
def tw4557199129261647688:=0
def tw882185831906363266:=0
def tw18256754952700170136:=0
def tw16399142187138940947:=0
def tw11089113520761924242:=0
def tw9596324888135930942:=0
def tw4980874926872025503:=0
def tw11266552009791776397:=0
def tw9204590433137595193:=0
def tw7998419055276415909:=0
def tw7155908217616749157:=0
def tw47056869834873729:=0
def tw673647792440529325:=0
def tw5707146009465339192:=0
def tw6176668282939605237:=0
def tw12561838640587706754:=0
def tw10433037835651898938:=0
def tw15870644718004202695:=0
def tw9394424648649264584:=0
def tw14302906513175811077:=0
def tw15482082972311516689:=0
def tw13950079707604135358:=0
def tw17741803669445525316:=0
def tw9307514008814687989:=0
def tw11244108239209942043:=0
def tw4160968084235954447:=0
def tw18213764211667478211:=0
def tw4889605491697219878:=0
def tw15160210018601860814:=0
def tw18079854773320331387:=0
def tw10776704470561603133:=0
def tw972270502427027132:=0
def tw2258921237472031894:=0
def tw1348080775021937192:=0
def tw6371165043464304342:=0
def tw4170304182204185469:=0
def tw5587995125847821398:=0
def tw12666004665080431497:=0
def tw10505492732304875281:=0
def tw14852491327527628244:=0
def tw2047428883928038346:=0
def tw6817665372140359806:=0
def tw11996717098026670009:=0
def tw11537788034030509367:=0
def tw18340406069694778932:=0
def tw12846901374047495835:=0
def tw7350519405829617639:=0
def tw2931552385848346041:=0
def tw2627509744224662568:=0
def tw12546789012915423373:=0
def tw11573720363596386898:=0
def tw3199856401931976461:=0
def tw11720036512322071513:=0
def tw3104596456827997592:=0
def tw8891261314673833433:=0
def tw7026423222331190067:=0
def tw10505079135387623189:=0
def tw15410572828567423517:=0
def tw3297040501762869615:=0
def tw9520976262209161319:=0
def tw17177212562619039406:=0
def tw14347501267019447942:=0
def tw2868747114254168136:=0
def tw12237637519027912641:=0
def tw12464365369224882686:=0
def tw15216812922156459745:=0
def tw11100823583086694248:=0
def tw11715336160995591663:=0
def tw18187738009580056569:=0
def tw5223507066970724239:=0
def tw14212694643685930385:=0
def tw13053270670184369151:=0
def tw11300119568770868636:=0
def tw15023640808610048996:=0
def tw8533915599804983636:=0
def tw9361102855015001996:=0
def tw12073186014514468391:=0
def tw9634778990461606762:=0
def tw1487869196512416826:=0
def tw5505989181719923816:=0
def tw1150134059469645432:=0
def tw7527627435643015638:=0
def tw10035063315855863400:=0
def tw3618982908398261623:=0
def tw14594182422268512417:=0
def tw11017893690547890556:=0
def tw8527687545305695079:=0
def tw151562250223439383:=0
def tw16781632128997884495:=0
def tw9804868024058099409:=0
def tw660607302299441563:=0
def tw577664610788754769:=0
def tw5010944036748065077:=0
def tw16495163546768175980:=0
def tw9470183669848996976:=0
def tw15919394907948322698:=0
def tw741694616549151831:=0
def tw3246569430938923373:=0
def tw6350617777586768896:=0
def tw5459307258183560040:=0
def tw17279428267732532948:=0
def tw10007113075985200552:=0
def tw10215463076192156745:=0
def tw11086130973913069254:=0
def tw5508302758553696029:=0
def tw5451518095977727197:=0
def tw18392016702124096813:=0
def tw6866251382557589831:=0
def tw6823774851411506408:=0
def tw15255213885222888028:=0
def tw5949850550652940359:=0
def tw18143685034531818208:=0
def tw36797302734933402:=0
def tw3160790801033225410:=0
def tw7443768739321725633:=0
def tw1318546431925319888:=0
def tw14684816691562315487:=0
def tw11915767073673262794:=0
def tw16345737975112121905:=0
def tw8189715972013106235:=0
def tw4138257010351333207:=0
def tw4857798508371232040:=0
def tw623208535390158729:=0
def tw5139212492006560729:=0
def tw12283091074461463772:=0
def tw11080524594844371750:=0
def tw5596200230655934552:=0
def tw998265923294516594:=0
def tw9155044754271468839:=0
def tw8417881972461458885:=0
def tw12956703182045931741:=0
def tw3823865978868636980:=0
def tw9296785341693781112:=0
def tw17225459872154011567:=0
def tw11108394336597236904:=0
def tw1239518617788659579:=0
def tw8801654892383102537:=0
def tw15929854935416052020:=0
def tw2417533507631261573:=0
def tw2282915518076968623:=0
def tw17406450975122776051:=0
def tw8887320441694009198:=0
def tw195368029031658644:=0
def tw15753595893792453437:=0
def tw4746603961518336576:=0
def tw6612489727538476104:=0
def tw3451953598674070761:=0
def tw4419366864388709214:=0
def tw8356054893396133850:=0
def tw17479276134308652113:=0
def tw11607317280027609104:=0
def tw8648682595016878847:=0
def tw9126069342331489826:=0
def tw9076524073097171828:=0
def tw9924404051808267344:=0
def tw18115636457627241988:=0
def tw16467061372629347801:=0
def tw7432249399922123106:=0
def tw2815641976153372330:=0
def tw5637508614207723166:=0
def tw2186572854541570325:=0
def tw16183263708000904925:=0
def tw16502680600985049016:=0
def tw17791971838092433635:=0
def tw5265080018226330284:=0
def tw12546425171282573854:=0
def tw1103775793981280397:=0
def tw14921324404284295753:=0
def tw16085545804369383063:=0
def tw2508486703740866421:=0
def tw11435781576108722880:=0
def tw10398538585733993366:=0
def tw729403399479397782:=0
def tw9854331477250887380:=0
def tw5303640171951283231:=0
def tw3134705819547794337:=0
def tw3723604461922967598:=0
def tw11718829418425372503:=0
def tw17112580330858438291:=0
def tw15942849617773287338:=0
def tw9913585511327513533:=0
def tw7920807999219456717:=0
def tw1357606226001008023:=0
def tw4565846016486133327:=0
def tw7804658863301919726:=0
def tw1398399007575878963:=0
def tw2329891532474820538:=0
def tw12072709720872892541:=0
end PySem.W.Fast
open PySem PySem.W PyProof.Rows
set_option maxRecDepth 100000 in
set_option maxHeartbeats 0 in
theorem PySem.Challenge.cw_shadowpost_k44_whole_kept_yards_holds : PySem.Challenge.rw_shadowpost_k44_whole_kept_yards.Holds := by
 w_on;o_law;k_head;(case hw=>w_witness2)
 k_fill
 refine T.Z3n (l:=PySem.Challenge.rw_shadowpost_k44_whole_kept_yards) rfl rfl (λw h Y=>by first|exact PySem.W.kIn_of Y|exact PySem.W.km_in_of Y) ?F ?hnt ?hrec
 case hnt=>intro w;kernel_rfl
 case hrec=>
  intro y hy
  have e:y=PySem.Str.ofString "cheapest" := by simpa[L2.lams] using hy
  subst e
  exact⟨_,rfl⟩
 case F=>
  intro w mg fa h KX G hmg
  refine' T.Z36 (a:=T.Fw.mk) (T.Tx.mk (mg_of KX G ?_) (mg_of KX G ?_) (mg_of KX G ?_) (mg_of KX G ?_) (mg_of KX G ?_) (mg_of KX G ?_) (mg_of KX G ?_) (mg_of KX G ?_) (mg_of KX G ?_) (mg_of KX G ?_) (mg_of KX G ?_) (mg_of KX G ?_) (P.İ KX G (λ_ _ _ _ _ _ _ _=>rfl) ?_ ?_ ?_ ?_) (P.İ KX G (λ_ _ _ _ _ _ _ _=>rfl) ?_ ?_ ?_ ?_) (P.İ KX G (λ_ _ _ _ _ _ _ _=>rfl) ?_ ?_ ?_ ?_) (P.İ KX G (λ_ _ _ _ _ _ _=>rfl) ?_ ?_ ?_ ?_) (P.İ KX G (λ_ _ _ _ _ _ _ _ _ _=>rfl) ?_ ?_ ?_ ?_) (P.nY (λ_ _ _ _ _ _ _ _ _ _ _=>rfl) ?_ ?_ ?_ ?_) (P.İ KX G (λ_ _ _ _ _ _ _ _ _=>rfl) ?_ ?_ ?_ ?_) (P.İ KX G (λ_ _ _ _ _ _ _ _=>rfl) ?_ ?_ ?_ ?_) (P.İ KX G (λ_ _ _ _ _ _ _ _=>rfl) ?_ ?_ ?_ ?_) (P.İ KX G (λ_ _ _ _ _ _ _ _=>rfl) ?_ ?_ ?_ ?_) (P.İ KX G (λ_ _ _ _ _ _ _ _=>rfl) ?_ ?_ ?_ ?_) (P.İ KX G (λ_ _ _ _ _ _ _ _ _=>rfl) ?_ ?_ ?_ ?_) (P.İ KX G (λ_ _ _ _ _ _ _ _=>rfl) ?_ ?_ ?_ ?_) (P.İ KX G (λ_ _ _ _ _ _ _ _=>rfl) ?_ ?_ ?_ ?_) (P.İ KX G (λ_ _ _ _ _ _ _ _=>rfl) ?_ ?_ ?_ ?_) (P.İ KX G (λ_ _ _ _ _ _ _ _=>rfl) ?_ ?_ ?_ ?_) (P.İ KX G (λ_ _ _ _ _ _ _ _ _=>rfl) ?_ ?_ ?_ ?_) (P.Zey KX G (λ_ _ _ _ _ _ _ _ _ _ _=>⟨_,rfl,rfl⟩) ?_ ?_ ?d ?_ ?_) (P.İ KX G (λ_ _ _ _ _ _ _=>rfl) ?_ ?_ ?_ ?_) (P.İ KX G (λ_ _ _ _ _ _ _=>rfl) ?_ ?_ ?_ ?_) (P.İ KX G (λ_ _ _ _ _ _ _=>rfl) ?_ ?_ ?_ ?_) (P.İ KX G (λ_ _ _ _ _ _ _ _=>rfl) ?_ ?_ ?_ ?_) (P.İ KX G (λ_ _ _ _ _ _ _ _=>rfl) ?_ ?_ ?_ ?_) (P.İ KX G (λ_ _ _ _ _ _ _=>rfl) ?_ ?_ ?_ ?_) (P.İ KX G (λ_ _ _ _ _ _ _=>rfl) ?_ ?_ ?_ ?_) (P.İ KX G (λ_ _ _ _ _ _ _ _=>rfl) ?_ ?_ ?_ ?_) (P.İ KX G (λ_ _ _ _ _ _ _=>rfl) ?_ ?_ ?_ ?_) (P.İ KX G (λ_ _ _ _ _ _ _=>rfl) ?_ ?_ ?_ ?_) (P.İ KX G (λ_ _ _ _ _ _ _ _=>rfl) ?_ ?_ ?_ ?_) (P.İ KX G (λ_ _ _ _ _ _ _ _=>rfl) ?_ ?_ ?_ ?_) (P.İ KX G (λ_ _ _ _ _ _ _ _ _=>rfl) ?_ ?_ ?_ ?_) (P.İ KX G (λ_ _ _ _ _ _ _ _ _=>rfl) ?_ ?_ ?_ ?_) (P.İ KX G (λ_ _ _ _ _ _ _ _=>rfl) ?_ ?_ ?_ ?_) (P.İ KX G (λ_ _ _ _ _ _ _=>rfl) ?_ ?_ ?_ ?_) (P.İ KX G (λ_ _ _ _ _ _ _ _=>rfl) ?_ ?_ ?_ ?_) (P.İ KX G (λ_ _ _ _ _ _ _ _=>rfl) ?_ ?_ ?_ ?_) (P.İ KX G (λ_ _ _ _ _ _ _ _=>rfl) ?_ ?_ ?_ ?_) (P.İ KX G (λ_ _ _ _ _ _ _ _=>rfl) ?_ ?_ ?_ ?_) (P.İ KX G (λ_ _ _ _ _ _ _ _ _ _ _=>rfl) ?_ ?_ ?_ ?_) (P.İ KX G (λ_ _ _ _ _ _ _ _ _ _ _=>rfl) ?_ ?_ ?_ ?_) (P.nY (λ_ _ _ _ _ _ _=>rfl) ?_ ?_ ?_ ?_) (P.nY (λ_ _ _ _ _ _ _=>rfl) ?_ ?_ ?_ ?_) (P.nY (λ_ _ _ _ _ _ _=>rfl) ?_ ?_ ?_ ?_) (P.nY (λ_ _ _ _ _ _ _=>rfl) ?_ ?_ ?_ ?_) (P.nY (λ_ _ _ _ _ _ _=>rfl) ?_ ?_ ?_ ?_) (P.İ KX G (λ_ _ _ _ _ _ _ _=>rfl) ?_ ?_ ?_ ?_) (P.İ KX G (λ_ _ _ _ _ _ _ _=>rfl) ?_ ?_ ?_ ?_) (P.İ KX G (λ_ _ _ _ _ _ _ _ _=>rfl) ?_ ?_ ?_ ?_) (P.İ KX G (λ_ _ _ _ _ _ _ _ _=>rfl) ?_ ?_ ?_ ?_) (P.İ KX G (λ_ _ _ _ _ _ _ _ _=>rfl) ?_ ?_ ?_ ?_) (P.İ KX G (λ_ _ _ _ _ _ _ _ _=>rfl) ?_ ?_ ?_ ?_) (P.İ KX G (λ_ _ _ _ _ _ _ _ _=>rfl) ?_ ?_ ?_ ?_) (P.İ KX G (λ_ _ _ _ _ _ _ _=>rfl) ?_ ?_ ?_ ?_) (P.İ KX G (λ_ _ _ _ _ _ _ _ _=>rfl) ?_ ?_ ?_ ?_) (P.İ KX G (λ_ _ _ _ _ _ _=>rfl) ?_ ?_ ?_ ?_) (P.İ KX G (λ_ _ _ _ _ _ _ _=>rfl) ?_ ?_ ?_ ?_) (P.İ KX G (λ_ _ _ _ _ _ _ _=>rfl) ?_ ?_ ?_ ?_) (P.İ KX G (λ_ _ _ _ _ _ _ _=>rfl) ?_ ?_ ?_ ?_) (P.İ KX G (λ_ _ _ _ _ _ _ _=>rfl) ?_ ?_ ?_ ?_) (P.İ KX G (λ_ _ _ _ _ _ _ _ _ _=>rfl) ?_ ?_ ?_ ?_) (P.İ KX G (λ_ _ _ _ _ _ _ _ _=>rfl) ?_ ?_ ?_ ?_) (P.İ KX G (λ_ _ _ _ _ _ _ _=>rfl) ?_ ?_ ?_ ?_) (P.İ KX G (λ_ _ _ _ _ _ _ _=>rfl) ?_ ?_ ?_ ?_) (P.İ KX G (λ_ _ _ _ _ _ _ _ _=>rfl) ?_ ?_ ?_ ?_) (P.İ KX G (λ_ _ _ _ _ _ _ _ _ _=>rfl) ?_ ?_ ?_ ?_) (P.İ KX G (λ_ _ _ _ _ _ _=>rfl) ?_ ?_ ?_ ?_) (P.İ KX G (λ_ _ _ _ _ _ _=>rfl) ?_ ?_ ?_ ?_) (P.İ KX G (λ_ _ _ _ _ _ _=>rfl) ?_ ?_ ?_ ?_) (P.nY (λ_ _ _ _ _ _ _ _ _=>rfl) ?_ ?_ ?_ ?_) (P.İ KX G (λ_ _ _ _ _ _ _=>rfl) ?_ ?_ ?_ ?_) (P.İ KX G (λ_ _ _ _ _ _ _=>rfl) ?_ ?_ ?_ ?_) (P.İ KX G (λ_ _ _ _ _ _ _=>rfl) ?_ ?_ ?_ ?_) (P.İ KX G (λ_ _ _ _ _ _ _=>rfl) ?_ ?_ ?_ ?_) (P.İ KX G (λ_ _ _ _ _ _ _=>rfl) ?_ ?_ ?_ ?_) (P.İ KX G (λ_ _ _ _ _ _ _ _=>rfl) ?_ ?_ ?_ ?_) (P.İ KX G (λ_ _ _ _ _ _ _=>rfl) ?_ ?_ ?_ ?_) (P.İ KX G (λ_ _ _ _ _ _ _=>rfl) ?_ ?_ ?_ ?_) (P.nY (λ_ _ _ _ _ _ _ _=>rfl) ?_ ?_ ?_ ?_) (P.nY (λ_ _ _ _ _ _ _ _ _=>rfl) ?_ ?_ ?_ ?_) (mg_of KX G ?_) (mg_of KX G ?_) (mg_none_of KX G ?_) (mg_none_of KX G ?_) (mg_none_of KX G ?_) (mg_none_of KX G ?_) (mg_none_of KX G ?_) (mg_none_of KX G ?_) (mg_none_of KX G ?_) (mg_none_of KX G ?_) (mg_none_of KX G ?_) (mg_none_of KX G ?_) (mg_none_of KX G ?_) (mg_none_of KX G ?_) (mg_none_of KX G ?_) (mg_none_of KX G ?_) ?_ ?_ ?_ ?_ ?_ ?_ ?_ ?_ ?_ (P.MP ?_) ?_ ?_ (P.MP ?_) ?_ ?_ ?_ (P.mX ?_) (P.sI ?_) ?_ ?_ ?_ ?_ (P.mX ?_) (P.sI ?_) ?_ ?_ (P.mX ?_) (P.sI ?_) ?_ ?_ (P.nO ?_) (P.mX ?_) (P.sI ?_) ?_ ?_ (P.nO ?_) (P.mX ?_) (P.sI ?_) ?_ ?_ (P.nO ?_) (P.mX ?_) (P.sI ?_) ?_ ?_ (P.nO ?_) (P.mX ?_) (P.sI ?_) ?_ ?_ (P.nO ?_) ?_ (P.MJ ?_) (P.MK ?_) (P.MN ?_) (P.Hz ?_)) hmg
  any_goals (dsimp only;k_is)
  case d=>k_is
  any_goals first|kernel_rfl|(unfold L2.Ő;kernel_rfl)
  all_goals skip
