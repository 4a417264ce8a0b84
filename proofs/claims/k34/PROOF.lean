import PyProof.Rows.All
import Wide.All
import OpenK.AllK
import Wide.FinOn
import Lean
import PyProof.EqAt
import PyProof.EqKinds
import PyProof.TupleCall
import PySem.Challenge.RW_shadowpost_k34_hours
set_option Elab.async false
set_option linter.all false
set_option maxRecDepth 100000
set_option maxHeartbeats 4000000
namespace L2
open PySem PySem.Spec PyProof.Rows
abbrev Key:=Sum Int Str
def keyIs:Key→Value→Bool
  | .inl k,v=>Value.isInt k v
  | .inr x,v=>Value.isStrOf x v
def keyH (w:World):Key→Int
  | .inl k=>hashInt k
  | .inr x=>hashStr w x
theorem keyIs_shape:∀ {k:Key} {v:Value},keyIs k v=true→(∃ i t,k=Sum.inl i∧v=Value.int i t)∨(∃ x t,k=Sum.inr x∧v=Value.str x t)
  | .inl i,v,h=>by
    obtain ⟨t,e⟩:=Value.isInt_shape (k:=i) (v:=v) h
    exact .inl ⟨i,t,rfl,e⟩
  | .inr x,v,h=>by
    obtain ⟨t,e⟩:=Value.isStrOf_shape (x:=x) (v:=v) h
    exact .inr ⟨x,t,rfl,e⟩
theorem key_ll (a b:Int):decide ((Sum.inl a:Key)=Sum.inl b)=(a == b):=by
  by_cases e:a=b
  · subst e;simp
  · have h:¬ (Sum.inl a:Key)=Sum.inl b:=fun q=>e (Sum.inl.inj q)
    rw [decide_eq_false h]
    exact (beq_eq_false_iff_ne.mpr e).symm
theorem key_rr (a b:Str):decide ((Sum.inr a:Key)=Sum.inr b)=decide (a=b):=by
  by_cases e:a=b
  · subst e;simp
  · have h:¬ (Sum.inr a:Key)=Sum.inr b:=fun q=>e (Sum.inr.inj q)
    rw [decide_eq_false h,decide_eq_false e]
theorem key_lr (a:Int) (b:Str):decide ((Sum.inl a:Key)=Sum.inr b)=false:=decide_eq_false (fun q=>nomatch q)
theorem key_rl (a:Str) (b:Int):decide ((Sum.inr a:Key)=Sum.inl b)=false:=decide_eq_false (fun q=>nomatch q)
def mixKind (prog:Program) (w:World):PySem.KeyKind prog w Key where
  is:=keyIs
  hash:=keyH w
  inj:=fun v a b ha hb=>by
    rcases keyIs_shape ha with ⟨i,t,rfl,rfl⟩ | ⟨x,t,rfl,rfl⟩
    · rcases keyIs_shape hb with ⟨j,u,rfl,e⟩ | ⟨y,u,rfl,e⟩
      · injection e with e1 _;rw [e1]
      · exact nomatch e
    · rcases keyIs_shape hb with ⟨j,u,rfl,e⟩ | ⟨y,u,rfl,e⟩
      · exact nomatch e
      · injection e with e1 _;rw [e1]
  byValue:=fun k v h=>by
    rcases keyIs_shape h with ⟨i,t,rfl,rfl⟩ | ⟨x,t,rfl,rfl⟩<;>rfl
  pyHash:=fun hv h=>by
    rcases keyIs_shape hv with ⟨i,t,rfl,rfl⟩ | ⟨x,t,rfl,rfl⟩
    · exact wpAny_pyHash_int h
    · exact wpAny_pyHash_str h
  eqBool:=fun hu hv h=>by
    rcases keyIs_shape hu with ⟨i,t,rfl,rfl⟩ | ⟨x,t,rfl,rfl⟩
    · rcases keyIs_shape hv with ⟨j,u,rfl,rfl⟩ | ⟨y,u,rfl,rfl⟩
      · rw [key_ll] at h;exact wpAny_eqBool_int h
      · rw [key_lr] at h;exact SeqAt.EqAt.int_str i t y u _ _ _ _ h
    · rcases keyIs_shape hv with ⟨j,u,rfl,rfl⟩ | ⟨y,u,rfl,rfl⟩
      · rw [key_rl] at h;exact SeqAt.EqAt.str_int x t j u _ _ _ _ h
      · rw [key_rr] at h;exact wpAny_eqBool_str h
  «strs» := fun k x t v h=>by
    rcases keyIs_shape h with ⟨i,u,rfl,e⟩ | ⟨y,u,rfl,e⟩
    · exact nomatch e
    · injection e with e1 _
      subst e1
      cases v<;>rfl
end L2
namespace L2
open PySem PySem.Spec PyProof.Rows
inductive V where
  | non | bl (b:Bool) | int (i:Int) | str (x:Str) | byt (b:Array UInt8) | flt (b:UInt64) | ref (a:Addr) | ty (n:String)
  deriving DecidableEq
def RelV:V→Value→Prop
  | .non,u=>u=Value.none
  | .bl b,u=>u=Value.bool b
  | .int i,u => ∃ t,u=Value.int i t
  | .str x,u => ∃ t,u=Value.str x t
  | .byt b,u => ∃ t,u=Value.bytes b t
  | .flt b,u => ∃ t,u=Value.float b t
  | .ref a,u=>u=Value.ref a
  | .ty n,u=>u=Value.type n
abbrev Vals:List V→List Value→Prop:=Paired RelV
theorem Vals.length {xs:List V} {us:List Value} (r:Vals xs us):xs.length=us.length:=Paired.length r
theorem Vals.get:∀ {xs:List V} {us:List Value} {i:Nat} {x:V},Vals xs us→xs[i]? = some x→∃ u,us[i]? = some u∧RelV x u
  | _,_,_,_,.nil,e=>by simp at e
  | _,_,0,_,.cons r _,e=>by simp at e;subst e;exact ⟨_,rfl,r⟩
  | _,_,i+1,x,.cons _ t,e=>by
    obtain ⟨u,h1,h2⟩:=Vals.get (i:=i) (x:=x) t (by simpa using e)
    exact ⟨u,by simpa using h1,h2⟩
theorem Vals.append:∀ {xs ys:List V} {us ws:List Value},Vals xs us→Vals ys ws→Vals (xs++ys) (us++ws)
  | _,_,_,_,.nil,s=>s
  | _,_,_,_,.cons r t,s => .cons r (Vals.append t s)
theorem Vals.take:∀ {xs:List V} {us:List Value} (n:Nat),Vals xs us→Vals (xs.take n) (us.take n)
  | _,_,0,_ => .nil
  | _,_,_+1,.nil => .nil
  | _,_,n+1,.cons r t => .cons r (Vals.take n t)
theorem Vals.drop:∀ {xs:List V} {us:List Value} (n:Nat),Vals xs us→Vals (xs.drop n) (us.drop n)
  | _,_,0,r=>r
  | _,_,_+1,.nil => .nil
  | _,_,n+1,.cons _ t=>Vals.drop n t
def RelO:Option V→Option Value→Prop
  | some v,some u=>RelV v u
  | none,none=>True
  | _,_=>False
def KV {κ : Type}:List (κ × V)→List (κ × Value)→Prop:=Paired fun (p : κ × V) (q : κ × Value)=>p.1=q.1∧RelV p.2 q.2
def kV:Key→V
  | .inl i => .int i
  | .inr x => .str x
inductive HO where
  /-- a list -/
  | lst (xs:List V)
  /-- a tuple (never changes) -/
  | tup (xs:List V)
  /-- a dict whose keys are ints and texts;one whose keys are tuples of ints and texts (the empty one is both) -/
  | dK (kvs:List (Key×V)) | dT (kvs:List (List Key×V))
  /-- a set of ints: its members,its size -/
  | set (S:Int→Bool) (n:Nat)
  /-- an instance of the class at C,its dict at dx,its attributes -/
  | ins (C dx:Addr) (fs:List (Str×V))
  /-- the dict of the instance at x -/
  | own (x:Addr)
  /-- the dict of an exception -/
  | xd (fs:List (Str×V))
  /-- a bound method,f of x -/
  | met (f x:Addr)
  /-- a range object lo,lo+1,.. below hi -/
  | rng (lo hi:Int)
  /-- a thing that is known to the object (the script;a dict while a loop walks it): read,never written while it is so -/
  | frz (o:Obj) (u:HO)
  /-- a code object's table -/
  | tbl (ps:Array Value)
  /-- any other thing,by what is true of its one object (a def of one's own: SetO a S n:=HO.ext fun h => ..) -/
  | ext (φ : Heap→Prop)
abbrev Hp:=Addr→Option HO
def upd (H:Hp) (a:Addr) (o:HO):Hp:=fun b=>if b=a then some o else H b
theorem upd_same {H:Hp} {a:Addr} {o:HO}:upd H a o a=some o:=by unfold upd;rw [if_pos rfl]
theorem upd_ne {H:Hp} {a b:Addr} {o:HO} (h:b≠a):upd H a o b=H b:=by unfold upd;rw [if_neg h]
theorem ne_of_none {H:Hp} {a b:Addr} {o:HO} (h:H a=some o) (h':H b=none):a≠b:=by
  intro e;subst e;rw [h] at h';cases h'
section
variable (P:Program) (w:World)
def ObjOk (H:Hp) (h:Heap) (a:Addr):HO→Prop
  | .lst xs=>xs.length≤sizeLine∧∃ (its:List Value) (n:Nat),Vals xs its∧h.get? a=some { cls:=.type "list",data:=.seq its.toArray n }
  | .tup xs=>xs.length≤sizeLine∧∃ its:List Value,Vals xs its∧IsTup h a its.toArray
  | .dK kvs=>kvs.length≤sizeLine∧(a == sysModules)=false∧∃ vs,KV kvs vs∧h.DictOf (mixKind P w) a vs
  | .dT kvs=>kvs.length≤sizeLine∧(a == sysModules)=false∧∃ xs:List (List Key×Addr×Value),
      Paired (fun (p:List Key×V) (q:List Key×Addr×Value)=>p.1=q.1∧H q.2.1=some (.tup (p.1.map kV))∧RelV p.2 q.2.2) kvs xs ∧
      ∃ o es ep,h.get? a=some o∧o.ExactDict∧o.data = .dict es ep∧es.toList=xs.map (entryOfKey (tupleKind (mixKind P w)))∧(xs.map (·.1)).Nodup
  | .set S n=>h.SetOf (intKind P w) a S n
  | .ins C dx fs=>H dx=some (.own a)∧fs.length≤1000∧dx≠a∧h.get? a=some (PySem.W.instObj C dx) ∧
      ∃ mA,h.Ns1 dx mA∧(∀ f,RelO (fs.lookup f) (mA f))∧PySem.Within mA (fs.map (·.1))
  | .own _ => ∃ o,h.get? a=some o
  | .xd fs => ∃ mA,h.Ns1 a mA∧∀ f,RelO (fs.lookup f) (mA f)
  | .rng lo hi => ∃ t u v,h.get? a=some { cls:=.type "range",data:=.fields #[.int lo t,.int hi u,.int 1 v] }
  | .frz o u=>h.get? a=some o∧ObjOk H h a u
  | .tbl ps=>h.get? a=some { cls:=.none,data:=.fields ps }
  | .met f x=>h.get? a=some (PySem.W.methodObj (.ref f) (.ref x))
  | .ext φ => φ h∧(∃ o,h.get? a=some o)∧∀ h1 h2:Heap,φ h1→(∀ o,h1.get? a=some o→h2.get? a=some o) → φ h2
def HOk (H:Hp) (h:Heap):Prop:=∀ a o,H a=some o→ObjOk P w H h a o
end
section
variable {P:Program} {w:World} {H H':Hp} {h h':Heap} {a:Addr} {o:HO}
theorem ObjOk.lt (x:ObjOk P w H h a o):a<h.objs.size:=by
  cases o with
  | lst xs=>obtain ⟨_,_,_,_,e⟩:=x;exact Heap.lt_size e
  | tup xs=>obtain ⟨_,_,_,p⟩:=x;exact p.lt
  | dK kvs=>obtain ⟨_,_,_,_,o,_,_,e,_⟩:=x;exact Heap.lt_size e
  | dT kvs=>obtain ⟨_,_,_,_,o,_,_,e,_⟩:=x;exact Heap.lt_size e
  | set S n=>obtain ⟨o,_,_,_,e,_⟩:=x;exact Heap.lt_size e
  | ins C dx fs=>obtain ⟨_,_,_,e,_⟩:=x;exact Heap.lt_size e
  | own y=>obtain ⟨_,e⟩:=x;exact Heap.lt_size e
  | xd fs=>obtain ⟨_,⟨_,_,_,e,_⟩,_⟩:=x;exact Heap.lt_size e
  | rng lo hi=>obtain ⟨_,_,_,e⟩:=x;exact Heap.lt_size e
  | frz ob u=>obtain ⟨e,_⟩:=x;exact Heap.lt_size e
  | tbl ps=>exact Heap.lt_size (show h.get? a=some _ from x)
  | met f y=>exact Heap.lt_size (show h.get? a=some _ from x)
  | ext φ => obtain ⟨_,⟨_,e⟩,_⟩:=x;exact Heap.lt_size e
theorem Paired.mapP {α β : Type} {F G : α → β → Prop}:∀ {l₁ : List α} {l₂ : List β},Paired F l₁ l₂ → (∀ a b,F a b→G a b)→Paired G l₁ l₂
  | _,_,.nil,_ => .nil
  | _,_,.cons r t,f => .cons (f _ _ r) (Paired.mapP t f)
theorem ObjOk.stay (x:ObjOk P w H h a o) (k:∀ b u,(b=a∨H b=some (.own a))→h.get? b=some u→h'.get? b=some u)
    (ho:∀ b,H b=some (.own a)→H' b=some (.own a)) (ht:∀ b xs,H b=some (.tup xs)→H' b=some (.tup xs)):ObjOk P w H' h' a o:=by
  induction o with
  | lst xs=>obtain ⟨z,its,n,r,e⟩:=x;exact ⟨z,its,n,r,k _ _ (.inl rfl) e⟩
  | tup xs=>obtain ⟨z,its,r,ob,e,c⟩:=x;exact ⟨z,its,r,ob,k _ _ (.inl rfl) e,c⟩
  | dK kvs=>obtain ⟨z,y,vs,r,ob,es,ep,e,c⟩:=x;exact ⟨z,y,vs,r,ob,es,ep,k _ _ (.inl rfl) e,c⟩
  | dT kvs =>
    obtain ⟨z,y,xs,r,ob,es,ep,e,c⟩:=x
    exact ⟨z,y,xs,Paired.mapP r fun p q z=>⟨z.1,ht _ _ z.2.1,z.2.2⟩,ob,es,ep,k _ _ (.inl rfl) e,c⟩
  | set S n=>obtain ⟨ob,es,ep,t,e,c⟩:=x;exact ⟨ob,es,ep,t,k _ _ (.inl rfl) e,c⟩
  | ins C dx fs =>
    obtain ⟨d,z,ne,e,mA,⟨od,es,ep,e2,c⟩,r⟩:=x
    exact ⟨ho _ d,z,ne,k _ _ (.inl rfl) e,mA,⟨od,es,ep,k _ _ (.inr d) e2,c⟩,r⟩
  | own y=>obtain ⟨ob,e⟩:=x;exact ⟨ob,k _ _ (.inl rfl) e⟩
  | xd fs=>obtain ⟨mA,⟨od,es,ep,e,c⟩,r⟩:=x;exact ⟨mA,⟨od,es,ep,k _ _ (.inl rfl) e,c⟩,r⟩
  | rng lo hi=>obtain ⟨t,u,v,e⟩:=x;exact ⟨t,u,v,k _ _ (.inl rfl) e⟩
  | frz ob u ih=>obtain ⟨e,q⟩:=x;exact ⟨k _ _ (.inl rfl) e,ih q⟩
  | tbl ps =>
    have e:h.get? a=some { cls:=.none,data:=.fields ps }:=x
    show h'.get? a=some { cls:=.none,data:=.fields ps }
    exact k a _ (.inl rfl) e
  | met f y =>
    have e:h.get? a=some (PySem.W.methodObj (.ref f) (.ref y)):=x
    show h'.get? a=some (PySem.W.methodObj (.ref f) (.ref y))
    exact k a _ (.inl rfl) e
  | ext φ => obtain ⟨p,⟨o,e⟩,st⟩:=x;exact ⟨st _ _ p fun o q=>k _ _ (.inl rfl) q,⟨o,k _ _ (.inl rfl) e⟩,st⟩
theorem HOk.lt (x:HOk P w H h) (e:H a=some o):a<h.objs.size:=(x a o e).lt
theorem HOk.fresh (x:HOk P w H h) (e:h.objs.size≤a):H a=none:=by
  cases q:H a with
  | none=>rfl
  | some u=>exact absurd (Nat.lt_of_lt_of_le (x.lt q) e) (Nat.lt_irrefl _)
theorem HOk.kept (x:HOk P w H h) (k:∀ b u,h.get? b=some u→h'.get? b=some u):HOk P w H h':=fun a o e =>
  (x a o e).stay (fun b u _ q=>k b u q) (fun _ q=>q) fun _ _ q=>q
theorem HOk.laid (x:HOk P w H h) (k:∀ b u,h.get? b=some u→h'.get? b=some u) (hp:h.objs.size≤a) (new:ObjOk P w (upd H a o) h' a o):HOk P w (upd H a o) h':=fun b u e=>by
  have hn:=x.fresh hp
  by_cases hb:b=a
  · subst hb;rw [upd_same] at e;cases e;exact new
  · rw [upd_ne hb] at e
    exact (x b u e).stay (fun c v _ q=>k c v q) (fun c q=>by rw [upd_ne (ne_of_none q hn)];exact q) fun c xs q=>by rw [upd_ne (ne_of_none q hn)];exact q
end
def Rd (H:Hp) (a:Addr) (u:HO):Prop:=H a=some u∨∃ o,H a=some (.frz o u)
theorem Rd.ok {P:Program} {w:World} {H:Hp} {h:Heap} {a:Addr} {u:HO} (r:Rd H a u) (x:HOk P w H h):ObjOk P w H h a u:=by
  rcases r with r | ⟨o,r⟩
  · exact x a u r
  · obtain ⟨_,q⟩:=x a _ r
    exact q
def Mut:Option HO→Prop
  | some (.lst _)=>True
  | some (.dK _)=>True
  | some (.dT _)=>True
  | some (.set _ _)=>True
  | some (.ins _ _ _)=>True
  | some (.ext _)=>True
  | some (.xd _)=>True
  | _=>False
section
variable {P:Program} {w:World} {H:Hp} {h h':Heap} {x e:Addr} {o':HO}
theorem HOk.write (ok:HOk P w H h) (mu:Mut (H x)) (he:e=x∨H e=some (.own x)) (k:∀ b u,b≠e→h.get? b=some u→h'.get? b=some u) (heo:∃ u,h'.get? e=some u)
    (new:ObjOk P w (upd H x o') h' x o'):HOk P w (upd H x o') h':=fun b u q=>by
  have nown:∀ c y,H c=some (.own y)→c≠x:=fun c y r z=>by subst z;rw [r] at mu;exact mu
  have ntup:∀ c xs,H c=some (.tup xs)→c≠x:=fun c xs r z=>by subst z;rw [r] at mu;exact mu
  by_cases hb:b=x
  · subst hb;rw [upd_same] at q;cases q;exact new
  · rw [upd_ne hb] at q
    by_cases hbe:b=e
    · have q':H b=some (.own x):=by
        rcases he with z | z
        · exact absurd (hbe.trans z) hb
        · rw [hbe];exact z
      rw [q] at q';cases q'
      obtain ⟨v,hv⟩:=heo
      exact ⟨v,by rw [hbe];exact hv⟩
    · refine (ok b u q).stay (fun c v hc r=>k c v ?_ r) (fun c r=>by rw [upd_ne (nown c b r)];exact r) fun c xs r=>by rw [upd_ne (ntup c xs r)];exact r
      rcases hc with rfl | hc
      · exact hbe
      · rintro rfl
        rcases he with z | z
        · exact nown c b hc z
        · rw [hc] at z;cases z;exact hb rfl
end
structure Un (fs ex:List Addr) (H H':Hp) (h h':Heap):Prop where
  keep:∀ b o,h.get? b=some o→H b=none→b∉fs→b∉ex→h'.get? b=some o
  slot:∀ b o,h.get? b=some o→H b=none→b∈fs→b∉ex→∃ sl,h'.get? b=some { o with slots:=sl }
  free:∀ b o,h.get? b=some o→H b=none→b∉ex→H' b=none
  there:∀ b o,h.get? b=some o→b∉ex→∃ o',h'.get? b=some o'
  tups:∀ b xs,H b=some (.tup xs)→H' b=some (.tup xs)
  frzs:∀ b o u,H b=some (.frz o u)→H' b=some (.frz o u)
  tbls:∀ b ps,H b=some (.tbl ps)→∃ more,H' b=some (.tbl (ps++more))
section
variable {fs fs' ex ex':List Addr} {H H1 H2:Hp} {h h1 h2 h':Heap} {a x e:Addr} {o:HO}
theorem Un.any (u:Un fs ex H H1 h h1) {b:Addr} {ob:Obj} (q:h.get? b=some ob) (n:H b=none) (hx:b∉ex):∃ sl,h1.get? b=some { ob with slots:=sl }:=by
  by_cases hb:b∈fs
  · exact u.slot b ob q n hb hx
  · exact ⟨ob.slots,u.keep b ob q n hb hx⟩
theorem Un.kept (k:∀ b u,h.get? b=some u→h'.get? b=some u):Un fs ex H H h h' :=
  ⟨fun b ob q _ _ _=>k b ob q,fun b ob q _ _ _=>⟨ob.slots,k b ob q⟩,fun _ _ _ n _=>n,fun b ob q _=>⟨ob,k b ob q⟩,fun _ _ q=>q,fun _ _ _ q=>q,fun _ ps q=>⟨#[],by rw [q];simp⟩⟩
theorem Un.refl:Un fs ex H H h h:=Un.kept fun _ _ q=>q
theorem Un.laid (k:∀ b u,h.get? b=some u→h'.get? b=some u) (hp:h.objs.size≤a) (hn:H a=none):Un fs ex H (upd H a o) h h' where
  keep:=fun b u q _ _ _=>k b u q
  slot:=fun b u q _ _ _=>⟨u.slots,k b u q⟩
  free:=fun b u q n _=>by rw [upd_ne (Nat.ne_of_lt (Nat.lt_of_lt_of_le (Heap.lt_size q) hp))];exact n
  there:=fun b u q _=>⟨u,k b u q⟩
  tups:=fun b xs q=>by rw [upd_ne (ne_of_none q hn)];exact q
  frzs:=fun b u xs q=>by rw [upd_ne (ne_of_none q hn)];exact q
  tbls:=fun b ps q=>⟨#[],by rw [upd_ne (ne_of_none q hn),q];simp⟩
theorem Un.write (mu:Mut (H x)) (he:e=x∨H e=some (.own x)) (k:∀ b u,b≠e→h.get? b=some u→h'.get? b=some u) (heo:∃ u,h'.get? e=some u):Un fs ex H (upd H x o) h h':=by
  have hx:∀ b,H b=none→b≠x:=fun b n z=>by subst z;rw [n] at mu;exact mu
  have hb:∀ b,H b=none→b≠e:=fun b n z=>by
    subst z
    rcases he with r | r
    · exact hx b n r
    · rw [n] at r;cases r
  have hm:∀ b u,H b=some u→¬ Mut (some u)→b≠x:=fun b u q nm z=>by subst z;rw [q] at mu;exact nm mu
  refine ⟨fun b u q n _ _=>k b u (hb b n) q,fun b u q n _ _=>⟨u.slots,k b u (hb b n) q⟩,fun b u q n _=>by rw [upd_ne (hx b n)];exact n,fun b u q _ => ?_,
    fun b xs q=>by rw [upd_ne (hm b _ q fun z=>z)];exact q,fun b u xs q=>by rw [upd_ne (hm b _ q fun z=>z)];exact q,fun b ps q=>⟨#[],by rw [upd_ne (hm b _ q fun z=>z),q];simp⟩⟩
  by_cases hbe:b=e
  · subst hbe;exact heo
  · exact ⟨u,k b u hbe q⟩
end
def trk (h:Heap) (H:Hp):List Addr:=(List.range h.objs.size).filter fun a=>(H a).isSome
def hidT (h:Heap) (H:Hp):Heap:=PySem.W.hideAll h (trk h H)
theorem hidT_size (h:Heap) (H:Hp):(hidT h H).objs.size=h.objs.size:=PySem.W.hideAll_size _ _
theorem hidT_get {h:Heap} {H:Hp} {b:Addr} {o:Obj} (e:h.get? b=some o) (n:H b=none):(hidT h H).get? b=some o :=
  PySem.W.hideAll_get _ e fun hm=>by
    have q:(H b).isSome=true:=(List.mem_filter.mp hm).2
    rw [n] at q;simp at q
theorem of_hidT {h:Heap} {H:Hp} {b:Addr} {o:Obj} (e:(hidT h H).get? b=some o):h.get? b=some o∧H b=none:=by
  have e':h.get? b=some o:=PySem.W.of_hideAll (trk h H) e
  refine ⟨e',?_⟩
  cases q:H b with
  | none=>rfl
  | some x =>
    have hm:b∈trk h H:=List.mem_filter.mpr ⟨List.mem_range.mpr (Heap.lt_size e'),by simp [q]⟩
    have z:(hidT h H).get? b=none:=PySem.W.hideAll_none (trk h H) hm
    rw [z] at e;cases e
def allNews (g h:Heap) (L:Addr):List (Addr×Obj):=(List.range h.objs.size).filterMap fun a=>if a=L∨(g.get? a).isSome=true then none else (h.get? a).map fun o=>(a,o)
def rest (g h:Heap) (L d:Addr):List (Addr×Obj):=(allNews g h L).filter fun p=>decide (p.1≠d)
end L2
namespace L2
open PySem PySem.Spec PyProof.Rows
structure Mod (K:PySem.W.Frag) (mg:Str→Option Value) (base:Heap):Prop where
  kin:K.In base
  glob:base.Ns mainGlobals mg
  blt:∃ mb,base.Ns builtinsNs mb∧∀ x:Str,x ≠ "__name__" → mb x=bootBuiltins x
  nolimit:base.NoLimit
structure Cx where
  prog:Program
  w:World
  K:PySem.W.Frag
  mg:Str→Option Value
  base:Heap
  A:Around
  N:List Str
  s₀ : Shared
  H₀ : Hp
  env:Env
  outer:List Env
  stack:List Env
  ex:List Addr
  fn:Str→Bool
  calm:Bool
  pn:List (Addr×Obj)
  xe:Value→Shared→Prop
def frs (l:List Env):List Addr:=l.filterMap (·.frame)
abbrev Cx.fs (X:Cx):List Addr:=frs X.outer
def Vis (sc:Scope) (x:Str):Prop:=sc.names.lookup x=some .local∨sc.names.lookup x=some .cell∨sc.names.lookup x=some .free
def Loc (sc:Scope) (x:Str):Prop:=sc.names.lookup x=some .local∨sc.names.lookup x=some .cell
def Look (env:Env) (h:Heap) (m:Str→Option Value) (x:Str) (u:Value):Prop :=
  (env.kindOf x=some .local∧m x=some u)∨((env.kindOf x=some .cell∨env.kindOf x=some .free)∧∃ c,env.cells.lookup x=some c∧h.IsCell c (some u))
structure Cx.Ok (X:Cx):Prop where
  mod:Mod X.K X.mg X.base
  kind:X.env.scope.kind = .function
  glob:X.env.globals=mainGlobals
  blt:X.env.builtins=builtinsNs
  above:X.s₀.heap.objs.size≤X.env.locals
  inj:∀ x y c,X.env.cells.lookup x=some c→X.env.cells.lookup y=some c→x=y
  has:∀ x,(X.env.kindOf x=some .cell∨X.env.kindOf x=some .free)→∃ c,X.env.cells.lookup x=some c
  cab:∀ x c,X.fn x=true→X.env.cells.lookup x=some c→X.s₀.heap.objs.size≤c
  hd:X.calm=true→X.A.handled=none
  frames:X.A.frames=some X.stack
  stk:X.stack=X.outer∨(X.stack=X.env::X.outer∧X.env.frame=some X.env.locals)
  exf:∀ b∈X.ex,b≠X.env.locals∧∀ x c,X.env.cells.lookup x=some c→c≠b
  bs:∀ b o,X.base.get? b=some o→X.s₀.heap.get? b=some o∧X.H₀ b=none
  bsz:X.base.objs.size≤X.s₀.heap.objs.size
  noex:∀ b o,X.base.get? b=some o→b∉X.ex
  exfs:∀ b∈X.ex,b∉X.fs
  funs:X.s₀.heap.FunFrames X.base X.outer
  frf:∀ b∈X.fs,X.H₀ b=none
structure Inv (X:Cx) (pins:List (Addr×Obj)) (σ : List (Option V)) (H:Hp) (s:Shared):Prop where
  ok:X.Ok
  os:s.os=X.s₀.os
  bare:AllBare s.gens
  base:Un X.fs X.ex X.H₀ H X.s₀.heap s.heap
  loc:∃ m,s.heap.Ns X.env.locals m∧∀ (i:Nat) (x:Str) (v:V),X.N[i]? = some x → σ[i]? = some (some v)→Vis X.env.scope x→∃ u,RelV v u∧Look X.env s.heap m x u
  cell:∀ x c,X.env.cells.lookup x=some c→∃ v,s.heap.IsCell c v
  free:H X.env.locals=none
  freeC:∀ x c,X.env.cells.lookup x=some c→H c=none
  pin:∀ p∈X.pn++pins,s.heap.get? p.1=some p.2∧H p.1=none∧p.1≠X.env.locals∧p.1∉X.fs∧∀ v,p.2.data ≠ .cell v
  hok:HOk X.prog X.w H s.heap
  len : σ.length=X.N.length
section
variable {X:Cx} {pins:List (Addr×Obj)} {σ : List (Option V)} {H H':Hp} {s:Shared} {h':Heap}
theorem Cx.Ok.nofr (ok:X.Ok) {b:Addr} {o:Obj} (e:X.base.get? b=some o):b∉X.fs:=fun hb=>by
  have:=(ok.funs.mem hb).1
  rw [e] at this;cases this
theorem Inv.bs (I:Inv X pins σ H s):∀ b o,X.base.get? b=some o→s.heap.get? b=some o∧H b=none:=fun b o e =>
  ⟨I.base.keep b o (I.ok.bs b o e).1 (I.ok.bs b o e).2 (I.ok.nofr e) (I.ok.noex b o e),I.base.free b o (I.ok.bs b o e).1 (I.ok.bs b o e).2 (I.ok.noex b o e)⟩
theorem Inv.bk (I:Inv X pins σ H s):∀ b o,X.base.get? b=some o→s.heap.get? b=some o:=fun b o e=>(I.bs b o e).1
theorem Inv.mod (I:Inv X pins σ H s):Mod X.K X.mg X.base:=I.ok.mod
theorem Inv.kIn (I:Inv X pins σ H s):X.K.In s.heap:=I.ok.mod.kin.keeps I.bk
theorem Inv.lt (I:Inv X pins σ H s):X.env.locals<s.heap.objs.size:=let ⟨_,hn,_⟩:=I.loc;hn.lt
theorem Inv.sz (I:Inv X pins σ H s):X.s₀.heap.objs.size≤s.heap.objs.size:=Nat.le_trans I.ok.above (Nat.le_of_lt I.lt)
theorem Inv.nofs (I:Inv X pins σ H s) {a:Addr} (h:s.heap.objs.size≤a):a∉X.fs:=fun hb=>by
  obtain ⟨_,o,ho,_⟩:=I.ok.funs.mem hb
  exact absurd (Nat.lt_of_lt_of_le (Heap.lt_size ho) (Nat.le_trans I.sz h)) (Nat.lt_irrefl _)
theorem Inv.cne (I:Inv X pins σ H s):∀ x c,X.env.cells.lookup x=some c→c≠X.env.locals:=fun x c e z=>by
  obtain ⟨v,o,ho,hd⟩:=I.cell x c e
  obtain ⟨m,⟨o',es,ep,ho',hd',_⟩,_⟩:=I.loc
  rw [z,ho'] at ho;cases ho;rw [hd'] at hd;cases hd
theorem Inv.funs (I:Inv X pins σ H s):s.heap.FunFrames X.base X.outer:=by
  have all:∀ (l:List Env),(∀ b∈frs l,b∈X.fs)→X.s₀.heap.FunFrames X.base l→s.heap.FunFrames X.base l:=by
    intro l
    induction l with
    | nil=>intro _ _;trivial
    | cons env r ih =>
      intro hs hl
      obtain ⟨hk,⟨L,o,hf,hn,ho,hd⟩,hr⟩:=hl
      have hL:L∈X.fs:=hs L (by unfold frs;rw [List.filterMap_cons,hf];exact List.mem_cons_self)
      obtain ⟨sl,e⟩:=I.base.slot L o ho (I.ok.frf L hL) hL fun z=>I.ok.exfs L z hL
      exact ⟨hk,⟨L,_,hf,hn,e,hd⟩,ih (fun b hb=>hs b (by unfold frs;rw [List.filterMap_cons,hf];exact List.mem_cons_of_mem _ hb)) hr⟩
  exact all X.outer (fun _ hb=>hb) I.ok.funs
theorem Inv.stack (I:Inv X pins σ H s):s.heap.FunFrames X.base X.stack:=by
  rcases I.ok.stk with e | ⟨e,hf⟩
  · rw [e];exact I.funs
  · rw [e]
    obtain ⟨m,hn,_⟩:=I.loc
    refine .cons (by rw [I.ok.kind];decide) hf hn ?_ I.funs
    exact Heap.get?_none_of_le (Nat.le_trans I.ok.bsz I.ok.above)
theorem Inv.stkSub (I:Inv X pins σ H s):∀ b∈frs X.stack,b∈X.env.locals::X.fs:=fun b hb=>by
  rcases I.ok.stk with e | ⟨e,hf⟩
  · rw [e] at hb;exact List.mem_cons_of_mem _ hb
  · rw [e] at hb
    unfold frs at hb
    rw [List.filterMap_cons,hf] at hb
    exact hb
theorem Inv.stkFree (I:Inv X pins σ H s):∀ b∈frs X.stack,H b=none:=fun b hb=>by
  rcases List.mem_cons.mp (I.stkSub b hb) with e | hb
  · rw [e];exact I.free
  · obtain ⟨_,o,ho,_⟩:=I.ok.funs.mem hb
    exact I.base.free b o ho (I.ok.frf b hb) fun z=>I.ok.exfs b z hb
theorem Inv.step {g':Array GenState} {t':Nat} {d':Drawn} {ch:List Addr} (I:Inv X pins σ H s)
    (hch:∀ b∈ch,(b∈X.ex∨X.s₀.heap.objs.size≤b)∧b≠X.env.locals∧(∀ x c,X.env.cells.lookup x=some c→c≠b)∧∀ p∈X.pn++pins,p.1≠b)
    (keep:∀ b o,b≠X.env.locals→b∉X.fs→b∉ch→s.heap.get? b=some o→H b=none→h'.get? b=some o)
    (slot:∀ b o,b≠X.env.locals→b∈X.fs→b∉ch→s.heap.get? b=some o→H b=none→∃ sl,h'.get? b=some { o with slots:=sl }) (free:∀ b o,b∉ch→s.heap.get? b=some o→H b=none→H' b=none)
    (there:∀ b o,b∉ch→s.heap.get? b=some o→∃ o',h'.get? b=some o')
    (tups:∀ b xs,H b=some (.tup xs)→H' b=some (.tup xs)) (frzs:∀ b o u,H b=some (.frz o u)→H' b=some (.frz o u)) (tbls:∀ b ps,H b=some (.tbl ps)→∃ more,H' b=some (.tbl (ps++more)))
    (ns:∀ m,s.heap.Ns X.env.locals m→h'.Ns X.env.locals m) (hok:HOk X.prog X.w H' h') (hg:AllBare g') :
    Inv X pins σ H' { s with heap:=h',gens:=g',drawn:=d',toks:=t' }:=by
  have neL:∀ b o,X.s₀.heap.get? b=some o→b≠X.env.locals:=fun b o e=>Nat.ne_of_lt (Nat.lt_of_lt_of_le (Heap.lt_size e) I.ok.above)
  have neC:∀ b o,X.s₀.heap.get? b=some o→b∉X.ex→b∉ch:=fun b o e hx hb=>by
    rcases (hch b hb).1 with z | z
    · exact hx z
    · exact absurd (Nat.lt_of_lt_of_le (Heap.lt_size e) z) (Nat.lt_irrefl _)
  have cellK:∀ x c,X.env.cells.lookup x=some c→∀ v,s.heap.IsCell c v→h'.IsCell c v:=fun x c e v ⟨o,ho,hd⟩=>by
    have nch:c∉ch:=fun z=>(hch c z).2.2.1 x c e rfl
    by_cases hc:c∈X.fs
    · obtain ⟨sl,q⟩:=slot c o (I.cne x c e) hc nch ho (I.freeC x c e)
      exact ⟨_,q,hd⟩
    · exact ⟨o,keep c o (I.cne x c e) hc nch ho (I.freeC x c e),hd⟩
  refine ⟨I.ok,I.os,hg,⟨fun b o e n hb hx => ?_,fun b o e n hb hx => ?_,fun b o e n hx => ?_,fun b o e hx => ?_,fun b xs e=>tups b xs (I.base.tups b xs e),fun b o xs e=>frzs b o xs (I.base.frzs b o xs e),fun b ps e => ?_⟩,?_,fun x c e => ?_,?_,fun x c e => ?_,fun p hp => ?_,hok,I.len⟩
  · exact keep b o (neL b o e) hb (neC b o e hx) (I.base.keep b o e n hb hx) (I.base.free b o e n hx)
  · obtain ⟨sl,e1⟩:=I.base.slot b o e n hb hx
    obtain ⟨sl',e2⟩:=slot b _ (neL b o e) hb (neC b o e hx) e1 (I.base.free b o e n hx)
    exact ⟨sl',e2⟩
  · obtain ⟨o',e1⟩:=I.base.there b o e hx
    exact free b o' (neC b o e hx) e1 (I.base.free b o e n hx)
  · obtain ⟨o',e1⟩:=I.base.there b o e hx
    exact there b o' (neC b o e hx) e1
  · obtain ⟨m1,e1⟩:=I.base.tbls b ps e
    obtain ⟨m2,e2⟩:=tbls b _ e1
    exact ⟨m1++m2,by rw [e2,Array.append_assoc]⟩
  · obtain ⟨m,hn,hl⟩:=I.loc
    refine ⟨m,ns m hn,fun i x v e1 e2 e3 => ?_⟩
    obtain ⟨u,r,l⟩:=hl i x v e1 e2 e3
    refine ⟨u,r,?_⟩
    rcases l with l | ⟨k,c,e,z⟩
    · exact .inl l
    · exact .inr ⟨k,c,e,cellK x c e _ z⟩
  · obtain ⟨v,z⟩:=I.cell x c e
    exact ⟨v,cellK x c e v z⟩
  · obtain ⟨m,⟨o,_,_,ho,_⟩,_⟩:=I.loc
    exact free _ o (fun z=>(hch _ z).2.1 rfl) ho I.free
  · obtain ⟨v,o,ho,hd⟩:=I.cell x c e
    exact free c o (fun z=>(hch c z).2.2.1 x c e rfl) ho (I.freeC x c e)
  · obtain ⟨e,n,ne,nf,d⟩:=I.pin p hp
    have nch:p.1∉ch:=fun z=>(hch p.1 z).2.2.2 p hp rfl
    exact ⟨keep p.1 p.2 ne nf nch e n,free p.1 p.2 nch e n,ne,nf,d⟩
theorem Inv.un {t':Nat} (I:Inv X pins σ H s) (u:Un X.fs [] H H' s.heap h') (hok:HOk X.prog X.w H' h'):Inv X pins σ H' { s with heap:=h',toks:=t' }:=by
  obtain ⟨m,⟨o,es,ep,ho,r⟩,_⟩:=id I.loc
  obtain ⟨sl,hL⟩:=u.any ho I.free (by simp)
  exact I.step (g':=s.gens) (d':=s.drawn) (ch:=[]) (fun _ z=>nomatch z) (fun b o _ hb _ e n=>u.keep b o e n hb (by simp)) (fun b o _ hb _ e n=>u.slot b o e n hb (by simp)) (fun b o _ e n=>u.free b o e n (by simp)) (fun b o _ e=>u.there b o e (by simp)) u.tups u.frzs u.tbls (fun m' hm=>by
    obtain ⟨o',es',ep',ho',r'⟩:=hm
    rw [ho] at ho';cases ho'
    exact ⟨_,es',ep',hL,r'⟩) hok I.bare
theorem Inv.call {g':Array GenState} {t':Nat} {d':Drawn} {ch:List Addr} (I:Inv X pins σ H s) (u:Un (frs X.stack) ch H H' s.heap h') (hok:HOk X.prog X.w H' h') (hg:AllBare g')
    (hch:∀ b∈ch,(b∈X.ex∨X.s₀.heap.objs.size≤b)∧b≠X.env.locals∧(∀ x c,X.env.cells.lookup x=some c→c≠b)∧∀ p∈X.pn++pins,p.1≠b) :
    Inv X pins σ H' { s with heap:=h',gens:=g',drawn:=d',toks:=t' }:=by
  obtain ⟨m,⟨o,es,ep,ho,r⟩,_⟩:=id I.loc
  obtain ⟨sl,hL⟩:=u.any ho I.free fun z=>(hch _ z).2.1 rfl
  exact I.step (ch:=ch) hch (fun b o hL hb hc e n=>u.keep b o e n (fun z=>(List.mem_cons.mp (I.stkSub b z)).elim hL hb) hc) (fun b o _ _ hc e n=>u.any e n hc) (fun b o hc e n=>u.free b o e n hc) (fun b o hc e=>u.there b o e hc) u.tups u.frzs u.tbls (fun m' hm=>by
    obtain ⟨o',es',ep',ho',r'⟩:=hm
    rw [ho] at ho';cases ho'
    exact ⟨_,es',ep',hL,r'⟩) hok hg
theorem Inv.turned {t':Nat} {it:Addr} (I:Inv X pins σ H s) (k:∀ b o,b≠it→s.heap.get? b=some o→h'.get? b=some o) (hn:H it=none) (hL:it≠X.env.locals)
    (h1:it∈X.ex∨X.s₀.heap.objs.size≤it) (h2:∀ x c,X.env.cells.lookup x=some c→c≠it) (h3:∀ p∈X.pn++pins,p.1≠it):Inv X pins σ H { s with heap:=h',toks:=t' }:=by
  have nit:∀ b u,H b=some u→b≠it:=fun b u e z=>by rw [z,hn] at e;cases e
  refine I.step (g':=s.gens) (d':=s.drawn) (ch:=[it]) (fun b hb => ?_) (fun b o _ _ hc e _=>k b o (fun z=>hc (by simp [z])) e) (fun b o _ _ hc e _=>⟨o.slots,k b o (fun z=>hc (by simp [z])) e⟩) (fun _ _ _ _ n=>n)
    (fun b o hc e=>⟨o,k b o (fun z=>hc (by simp [z])) e⟩) (fun _ _ e=>e) (fun _ _ _ e=>e) (fun b ps e=>⟨#[],by rw [e];simp⟩) (fun m hm => ?_) (fun b u e => ?_) I.bare
  · have e:b=it:=by simpa using hb
    subst e
    exact ⟨h1,hL,h2,h3⟩
  · obtain ⟨o,es,ep,ho,r⟩:=hm
    exact ⟨o,es,ep,k _ o (Ne.symm hL) ho,r⟩
  · refine (I.hok b u e).stay (fun c v hc q=>k c v ?_ q) (fun _ q=>q) fun _ _ q=>q
    rcases hc with z | z
    · rw [z];exact nit b u e
    · exact nit c _ z
theorem Inv.tok (I:Inv X pins σ H s) (t:Nat):Inv X pins σ H { s with toks:=t }:=I.un (h':=s.heap) (t':=t) Un.refl I.hok
theorem Inv.kept {t':Nat} (I:Inv X pins σ H s) (k:∀ b u,s.heap.get? b=some u→h'.get? b=some u):Inv X pins σ H { s with heap:=h',toks:=t' }:=I.un (Un.kept k) (I.hok.kept k)
theorem Inv.laid {a:Addr} {o:HO} {t':Nat} (I:Inv X pins σ H s) (k:∀ b u,s.heap.get? b=some u→h'.get? b=some u) (hp:s.heap.objs.size≤a) (new:ObjOk X.prog X.w (upd H a o) h' a o) :
    Inv X pins σ (upd H a o) { s with heap:=h',toks:=t' }:=I.un (Un.laid k hp (I.hok.fresh hp)) (I.hok.laid k hp new)
theorem Inv.write {x e:Addr} {o:HO} {t':Nat} (I:Inv X pins σ H s) (mu:Mut (H x)) (he:e=x∨H e=some (.own x)) (k:∀ b u,b≠e→s.heap.get? b=some u→h'.get? b=some u) (heo:∃ u,h'.get? e=some u)
    (new:ObjOk X.prog X.w (upd H x o) h' x o):Inv X pins σ (upd H x o) { s with heap:=h',toks:=t' }:=I.un (Un.write mu he k heo) (I.hok.write mu he k heo new)
theorem Inv.pins_of {pins':List (Addr×Obj)} (I:Inv X pins σ H s) (h:∀ p∈pins',s.heap.get? p.1=some p.2∧H p.1=none∧p.1≠X.env.locals∧p.1∉X.fs∧∀ v,p.2.data ≠ .cell v):Inv X pins' σ H s :=
  ⟨I.ok,I.os,I.bare,I.base,I.loc,I.cell,I.free,I.freeC,fun p hp=>(List.mem_append.mp hp).elim (fun z=>I.pin p (List.mem_append_left _ z)) (h p),I.hok,I.len⟩
theorem nodup_ix {N:List Str} (hN:N.Nodup) {i j:Nat} {x:Str} (a:N[i]? = some x) (b:N[j]? = some x):i=j:=by
  obtain ⟨h1,e1⟩:=List.getElem?_eq_some_iff.mp a
  obtain ⟨h2,e2⟩:=List.getElem?_eq_some_iff.mp b
  exact (List.getElem_inj hN).mp (e1.trans e2.symm)
theorem store_ok2 {M:Model} {A:Around} {E:Value→Shared→Prop} {i:Nat} {x:Str} {v:V} {u:Value} {Q:Unit→Shared→Prop} (I:Inv X pins σ H s) (hN:X.N.Nodup) (hi:X.N[i]? = some x) (hx:Loc X.env.scope x) (r:RelV v u)
    (h:∀ s',Inv X pins (σ.set i (some v)) H s'→(∃ a,Heap.SameBut a s.heap s'.heap∧(a=X.env.locals∨X.env.cells.lookup x=some a))→Q () s') (hf:X.fn x=true∨X.env.scope.names.lookup x=some .local:=by first | exact .inl rfl | exact .inr rfl | assumption):wpAny M A (storeName X.env x u) Q E s:=by
  obtain ⟨m,hn,hl⟩:=id I.loc
  have hcls:(X.env.scope.kind == .class || (X.env.scope.kind == .module && X.env.locals != X.env.globals))=false:=by rw [I.ok.kind];rfl
  have hiσ : i < σ.length:=by rw [I.len];exact (List.getElem?_eq_some_iff.mp hi).1
  have cne:=I.cne
  have tracked:∀ {a:Addr} {h':Heap},(∃ o,s.heap.get? a=some o∧H a=none)→Heap.SameBut a s.heap h'→HOk X.prog X.w H h':=fun {a h'} ha hs b ob e=>by
    obtain ⟨_,_,hfree⟩:=ha
    refine (I.hok b ob e).stay (fun c w' hc q=>(hs.2 c ?_).trans q) (fun _ q=>q) fun _ _ q=>q
    rintro rfl
    rcases hc with rfl | hc
    · rw [hfree] at e;cases e
    · rw [hfree] at hc;cases hc
  rcases hx with hk | hk
  · refine wpAny_storeName_local hk hn (fun h' hn' hs => ?_) hcls
    obtain ⟨oL,_,_,hoL,_⟩:=id hn
    refine h _ ⟨I.ok,I.os,I.bare,⟨fun b o e n hb hx => ?_,fun b o e n hb hx => ?_,I.base.free,fun b o e hx => ?_,I.base.tups,I.base.frzs,I.base.tbls⟩,⟨_,hn',fun j y v' e1 e2 e3 => ?_⟩,fun y c e => ?_,I.free,I.freeC,fun p hp => ?_,tracked ⟨oL,hoL,I.free⟩ hs,by simpa using I.len⟩ ⟨_,hs,.inl rfl⟩
    · exact (hs.2 b (Nat.ne_of_lt (Nat.lt_of_lt_of_le (Heap.lt_size e) I.ok.above))).trans (I.base.keep b o e n hb hx)
    · obtain ⟨sl,e1⟩:=I.base.slot b o e n hb hx
      exact ⟨sl,(hs.2 b (Nat.ne_of_lt (Nat.lt_of_lt_of_le (Heap.lt_size e) I.ok.above))).trans e1⟩
    · obtain ⟨o',e1⟩:=I.base.there b o e hx
      exact ⟨o',(hs.2 b (Nat.ne_of_lt (Nat.lt_of_lt_of_le (Heap.lt_size e) I.ok.above))).trans e1⟩
    · by_cases hj:j=i
      · subst hj
        rw [hi] at e1;cases e1
        rw [List.getElem?_set_self hiσ] at e2
        cases e2
        exact ⟨u,r,.inl ⟨hk,by simp⟩⟩
      · rw [List.getElem?_set_ne (Ne.symm hj)] at e2
        obtain ⟨u',r',q⟩:=hl j y v' e1 e2 e3
        refine ⟨u',r',?_⟩
        rcases q with ⟨k,e⟩ | ⟨k,c,e,z⟩
        · refine .inl ⟨k,?_⟩
          have:y≠x:=fun e=>hj (nodup_ix hN e1 (e ▸ hi))
          simp [this,e]
        · exact .inr ⟨k,c,e,z.sameBut hs (cne y c e)⟩
    · obtain ⟨w',z⟩:=I.cell y c e
      exact ⟨w',z.sameBut hs (cne y c e)⟩
    · obtain ⟨e,n,ne,nf,d⟩:=I.pin p hp
      exact ⟨(hs.2 p.1 ne).trans e,n,ne,nf,d⟩
  · have hfn:X.fn x=true:=by
      rcases hf with z | z
      · exact z
      · rw [z] at hk;cases hk
    obtain ⟨c,hc⟩:=I.ok.has x (.inl hk)
    obtain ⟨w',z⟩:=I.cell x c hc
    refine wpAny_storeName_cell I.ok.kind hk hc z (fun h' hc' hs => ?_)
    obtain ⟨oc,hoc,hocd⟩:=id z
    refine h { s with heap:=h' } ⟨I.ok,I.os,I.bare,⟨fun b o e n hb hx => ?_,fun b o e n hb hx => ?_,I.base.free,fun b o e hx => ?_,I.base.tups,I.base.frzs,I.base.tbls⟩,⟨m,hn.sameBut hs (Ne.symm (cne x c hc)),fun j y v' e1 e2 e3 => ?_⟩,fun y c' e => ?_,I.free,I.freeC,fun p hp => ?_,tracked ⟨oc,hoc,I.freeC x c hc⟩ hs,by simpa using I.len⟩ ⟨c,hs,.inr hc⟩
    · exact (hs.2 b (Nat.ne_of_lt (Nat.lt_of_lt_of_le (Heap.lt_size e) (I.ok.cab x c hfn hc)))).trans (I.base.keep b o e n hb hx)
    · obtain ⟨sl,e1⟩:=I.base.slot b o e n hb hx
      exact ⟨sl,(hs.2 b (Nat.ne_of_lt (Nat.lt_of_lt_of_le (Heap.lt_size e) (I.ok.cab x c hfn hc)))).trans e1⟩
    · obtain ⟨o',e1⟩:=I.base.there b o e hx
      exact ⟨o',(hs.2 b (Nat.ne_of_lt (Nat.lt_of_lt_of_le (Heap.lt_size e) (I.ok.cab x c hfn hc)))).trans e1⟩
    · by_cases hj:j=i
      · subst hj
        rw [hi] at e1;cases e1
        rw [List.getElem?_set_self hiσ] at e2
        cases e2
        exact ⟨u,r,.inr ⟨.inl hk,c,hc,hc'⟩⟩
      · rw [List.getElem?_set_ne (Ne.symm hj)] at e2
        obtain ⟨u',r',q⟩:=hl j y v' e1 e2 e3
        refine ⟨u',r',?_⟩
        rcases q with q | ⟨k,c',e,z'⟩
        · exact .inl q
        · refine .inr ⟨k,c',e,z'.sameBut hs ?_⟩
          rintro rfl
          exact hj (nodup_ix hN e1 (I.ok.inj _ _ _ e hc ▸ hi))
    · by_cases hcc:c'=c
      · subst hcc;exact ⟨_,hc'⟩
      · obtain ⟨w2,z2⟩:=I.cell y c' e
        exact ⟨w2,z2.sameBut hs hcc⟩
    · obtain ⟨e,n,ne,nf,d⟩:=I.pin p hp
      refine ⟨(hs.2 p.1 ?_).trans e,n,ne,nf,d⟩
      intro q
      rw [q,hoc] at e
      have q':oc=p.2:=Option.some.inj e
      exact d w' (by rw [← q'];exact hocd)
theorem store_ok {M:Model} {A:Around} {E:Value→Shared→Prop} {i:Nat} {x:Str} {v:V} {u:Value} {Q:Unit→Shared→Prop} (I:Inv X pins σ H s) (hN:X.N.Nodup) (hi:X.N[i]? = some x) (hx:Loc X.env.scope x) (r:RelV v u)
    (h:∀ s',Inv X pins (σ.set i (some v)) H s'→Q () s') (hf:X.fn x=true∨X.env.scope.names.lookup x=some .local:=by first | exact .inl rfl | exact .inr rfl | assumption):wpAny M A (storeName X.env x u) Q E s :=
  store_ok2 I hN hi hx r (fun s' I' _=>h s' I') hf
theorem Inv.call' {s':Shared} {ch:List Addr} (I:Inv X pins σ H s) (ho:s'.os=s.os) (u:Un (frs X.stack) ch H H' s.heap s'.heap) (hok:HOk X.prog X.w H' s'.heap) (hg:AllBare s'.gens)
    (hch:∀ b∈ch,(b∈X.ex∨X.s₀.heap.objs.size≤b)∧b≠X.env.locals∧(∀ x c,X.env.cells.lookup x=some c→c≠b)∧∀ p∈X.pn++pins,p.1≠b):Inv X pins σ H' s':=by
  obtain ⟨h',g',d',t',o'⟩:=s'
  have e:o'=s.os:=ho
  subst e
  exact I.call (g':=g') (t':=t') (d':=d') u hok hg hch
end
abbrev XK:=Value→Option Addr→Hp→Prop
abbrev St:=List (Option V)
abbrev VK:=V→Hp→Prop
abbrev TE:=St→Hp→VK→Prop
abbrev TT:=St→Hp→(Bool→Hp→Prop)→Prop
abbrev TA:=St→Hp→(List V→Hp→Prop)→Prop
structure Ends where
  nx:St→Hp→Prop
  rt:VK
  bk:St→Hp→Prop:=fun _ _=>False
  ct:St→Hp→Prop:=fun _ _=>False
abbrev TS:=Ends→St→Hp→Prop
def EP (X:Cx) (pins:List (Addr×Obj)) (σ : St) (Q:VK) (u:Value) (s':Shared):Prop:=∃ v H',Inv X pins σ H' s'∧RelV v u∧Q v H'
def TP (X:Cx) (pins:List (Addr×Obj)) (σ : St) (Q:Bool→Hp→Prop) (b:Bool) (s':Shared):Prop:=∃ H',Inv X pins σ H' s'∧Q b H'
def AP (X:Cx) (pins:List (Addr×Obj)) (σ : St) (Q:List V→Hp→Prop) (us:List Value) (s':Shared):Prop:=∃ vs H',Inv X pins σ H' s'∧Vals vs us∧Q vs H'
def SP (X:Cx) (pins:List (Addr×Obj)) (D:Ends) (f:Flow) (s':Shared):Prop :=
  match f with
  | .next => ∃ σ' H',Inv X pins σ' H' s'∧D.nx σ' H'
  | .brk => ∃ σ' H',Inv X pins σ' H' s'∧D.bk σ' H'
  | .cont => ∃ σ' H',Inv X pins σ' H' s'∧D.ct σ' H'
  | .ret u => ∃ v σ' H',Inv X pins σ' H' s'∧RelV v u∧D.rt v H'
def PE (X:Cx) (e:Expr) (t:TE):Prop :=
  ∀ (pins:List (Addr×Obj)) (s:Shared) (σ : St) (H:Hp) (Q:VK),Inv X pins σ H s→t σ H Q→wpAny (model X.prog X.w) X.A (eval e X.env) (EP X pins σ Q) X.xe s
def PT (X:Cx) (e:Expr) (t:TT):Prop :=
  ∀ (pins:List (Addr×Obj)) (s:Shared) (σ : St) (H:Hp) (Q:Bool→Hp→Prop),Inv X pins σ H s→t σ H Q→wpAny (model X.prog X.w) X.A (isTrue e X.env (eval e X.env)) (TP X pins σ Q) X.xe s
def PW (X:Cx) (e:Expr) (t:TT):Prop :=
  ∀ (whole:Sem Value) (pins:List (Addr×Obj)) (s:Shared) (σ : St) (H:Hp) (Q:Bool→Hp→Prop),Inv X pins σ H s→t σ H Q→wpAny (model X.prog X.w) X.A (isTrue e X.env whole) (TP X pins σ Q) X.xe s
theorem PW.pt {X:Cx} {e:Expr} {t:TT} (h:PW X e t):PT X e t:=h _
def PA (X:Cx) (es:List Expr) (t:TA):Prop :=
  ∀ (pos:Pos) (pins:List (Addr×Obj)) (s:Shared) (σ : St) (H:Hp) (Q:List V→Hp→Prop),Inv X pins σ H s→t σ H Q→wpAny (model X.prog X.w) X.A (spliced (backTo pos (starEach es X.env))) (AP X pins σ Q) X.xe s
def PS (X:Cx) (st:Stmt) (t:TS):Prop :=
  ∀ (pins:List (Addr×Obj)) (s:Shared) (σ : St) (H:Hp) (D:Ends),Inv X pins σ H s→t D σ H→wpAny (model X.prog X.w) X.A (exec st X.env) (SP X pins D) X.xe s
def PSs (X:Cx) (st:List Stmt) (t:TS):Prop :=
  ∀ (pins:List (Addr×Obj)) (s:Shared) (σ : St) (H:Hp) (D:Ends),Inv X pins σ H s→t D σ H→wpAny (model X.prog X.w) X.A (execs st X.env) (SP X pins D) X.xe s
theorem thn {α : Type} {t:Sem α} {Q Q' : α → Shared→Prop} {M:Model} {A:Around} {E:Value→Shared→Prop} {s:Shared} (h:wpAny M A t Q E s) (hQ:∀ a s,Q a s→Q' a s):wpAny M A t Q' E s:=wpAny_mono h hQ fun _ _ x=>x
end L2
namespace L2
open PySem PySem.Spec PyProof.Rows
section
variable {X:Cx}
def tVar (i:Nat):TE:=fun σ H Q => ∃ v,σ[i]? = some (some v)∧Q v H
def tC (v:V):TE:=fun _ H Q=>Q v H
theorem pe_var {i:Nat} {x:Str} {pos:Pos} (hN:X.N[i]? = some x) (hv:Vis X.env.scope x) (hd:(x == ("__debug__" : Str))=false:=by decide) (hcd:(x == ("__classdict__" : Str))=false:=by decide):PE X (.Name x pos) (tVar i):=by
  intro pins s σ H Q I h
  obtain ⟨v,e,h⟩:=h
  obtain ⟨m,hn,hl⟩:=I.loc
  obtain ⟨u,r,l⟩:=hl i x v hN e hv
  have fin:EP X pins σ Q u s:=⟨v,H,I,r,h⟩
  rcases l with ⟨hk,hm⟩ | ⟨hk,c,hc,hcell⟩
  · exact wpAny_Name (wpAny_loadName_local I.ok.kind hk hn hm fin) hd
  · rcases hk with hk | hk
    · exact wpAny_Name (wpAny_loadName_cell I.ok.kind hk hc hcell fin) hd
    · exact wpAny_Name (wpAny_loadName_free I.ok.kind hk hc hcell fin hcd) hd
theorem pe_int {i j pos}:PE X (.Constant (.int i) j pos) (tC (.int i)):=fun _ _ _ H _ I h=>wpAny_Constant_int ⟨.int i,H,I.tok _,⟨_,rfl⟩,h⟩
theorem pe_bl {b j pos}:PE X (.Constant (.bool b) j pos) (tC (.bl b)):=fun _ _ _ H _ I h=>Constant_bool ⟨.bl b,H,I,rfl,h⟩
theorem pe_non {j pos}:PE X (.Constant .none j pos) (tC .non):=fun _ _ _ H _ I h=>Constant_none ⟨.non,H,I,rfl,h⟩
theorem pe_str {x j pos}:PE X (.Constant (.str x) j pos) (tC (.str x)):=fun _ _ _ H _ I h=>Calls.Constant_str ⟨.str x,H,I.tok _,⟨_,rfl⟩,h⟩
def Gl (X:Cx) (x:Str):Prop:=X.env.kindOf x=some .globalImplicit
theorem ld_glob {E:Value→Shared→Prop} {pins:List (Addr×Obj)} {s:Shared} {σ : St} {H:Hp} {x:Str} {u:Value} {pos:Pos} {Q:Value→Shared→Prop} (I:Inv X pins σ H s) (hg:Gl X x) (hm:X.mg x=some u) (h:Q u s)
    (hd:(x == ("__debug__" : Str))=false:=by decide):wpAny (model X.prog X.w) X.A (eval (.Name x pos) X.env) Q E s :=
  Calls.Name_function_global I.ok.kind hg (Calls.loadGlobal_global (by rw [I.ok.glob];exact I.mod.glob.keeps I.bk) hm h) hd
theorem ld_blt {E:Value→Shared→Prop} {pins:List (Addr×Obj)} {s:Shared} {σ : St} {H:Hp} {x:Str} {u:Value} {pos:Pos} {Q:Value→Shared→Prop} (I:Inv X pins σ H s) (hg:Gl X x) (hm:X.mg x=none) (hv:bootBuiltins x=some u) (h:Q u s)
    (hn:x ≠ "__name__" := by decide) (hd:(x == ("__debug__" : Str))=false:=by decide):wpAny (model X.prog X.w) X.A (eval (.Name x pos) X.env) Q E s:=by
  obtain ⟨mb,h1,h2⟩:=I.mod.blt
  exact Calls.Name_function_global I.ok.kind hg (Calls.loadGlobal_builtin (by rw [I.ok.glob];exact I.mod.glob.keeps I.bk) hm (by rw [I.ok.blt];exact h1.keeps I.bk) ((h2 x hn).trans hv) h) hd
theorem pe_glob {x:Str} {v:V} {u:Value} {pos:Pos} (hg:Gl X x) (hm:X.mg x=some u) (r:RelV v u) (hd:(x == ("__debug__" : Str))=false:=by decide):PE X (.Name x pos) (tC v) :=
  fun _ _ _ H _ I h=>ld_glob I hg hm ⟨v,H,I,r,h⟩ hd
theorem pe_bltn {x:Str} {v:V} {u:Value} {pos:Pos} (hg:Gl X x) (hm:X.mg x=none) (hv:bootBuiltins x=some u) (r:RelV v u) (hn:x ≠ "__name__" := by decide) (hd:(x == ("__debug__" : Str))=false:=by decide):PE X (.Name x pos) (tC v) :=
  fun _ _ _ H _ I h=>ld_blt I hg hm hv ⟨v,H,I,r,h⟩ hn hd
variable {a b:Expr} {ta tb:TE} {pos:Pos}
variable {tA tB':TT} {rest:List Expr}
def tAnd (t u:TT):TT:=fun σ H Q=>t σ H fun c H1=>if c=true then u σ H1 Q else Q false H1
def tOr (t u:TT):TT:=fun σ H Q=>t σ H fun c H1=>if c=true then Q true H1 else u σ H1 Q
def tNot (t:TT):TT:=fun σ H Q=>t σ H fun c H1=>Q (!c) H1
theorem pw_and1 (ha:PT X a tA):PW X (.BoolOp .And [a] pos) tA:=by
  intro wh pins s σ H Q I h
  refine isTrue_and (thn (ha pins s σ H Q I h) fun c s1 e => ?_)
  cases c with
  | true=>exact isTrue_and_nil e
  | false=>exact e
theorem pw_or1 (ha:PT X a tA):PW X (.BoolOp .Or [a] pos) tA:=by
  intro wh pins s σ H Q I h
  refine isTrue_or (thn (ha pins s σ H Q I h) fun c s1 e => ?_)
  cases c with
  | false=>exact isTrue_or_nil e
  | true=>exact e
theorem pw_and (ha:PT X a tA) (hb:PW X (.BoolOp .And (b::rest) pos) tB'):PW X (.BoolOp .And (a::b::rest) pos) (tAnd tA tB'):=by
  intro wh pins s σ H Q I h
  refine isTrue_and (thn (ha pins s σ H _ I h) fun c s1 ⟨H1,I1,q1⟩ => ?_)
  cases c with
  | true=>exact hb wh pins s1 σ H1 Q I1 q1
  | false=>exact ⟨H1,I1,q1⟩
theorem pw_or (ha:PT X a tA) (hb:PW X (.BoolOp .Or (b::rest) pos) tB'):PW X (.BoolOp .Or (a::b::rest) pos) (tOr tA tB'):=by
  intro wh pins s σ H Q I h
  refine isTrue_or (thn (ha pins s σ H _ I h) fun c s1 ⟨H1,I1,q1⟩ => ?_)
  cases c with
  | true=>exact ⟨H1,I1,q1⟩
  | false=>exact hb wh pins s1 σ H1 Q I1 q1
theorem pt_not (ha:PT X a tA):PT X (.UnaryOp .Not a pos) (tNot tA):=by
  intro pins s σ H Q I h
  exact isTrue_not (ha pins s σ H (fun c H1=>Q (!c) H1) I h)
theorem pe_one {op} {t:TE} (h:PE X a t):PE X (.BoolOp op [a] pos) t:=fun pins s σ H Q I hw=>BoolOp_one (h pins s σ H Q I hw)
end
end L2
namespace L2
open PySem PySem.Spec PyProof.Rows
def SqL (K:PySem.W.Frag) (H:Hp) (a:Addr) (xs:List V):Prop :=
  Rd H a (.lst xs) ∨
    ∃ (o:Obj) (its:Array Value) (n:Nat),K.lookup a=some o∧o.cls = .type "list" ∧ o.dict=none∧o.data = .seq its n∧its.size≤sizeLine∧Vals xs its.toList
def SqT (K:PySem.W.Frag) (H:Hp) (a:Addr) (xs:List V):Prop :=
  Rd H a (.tup xs) ∨
    ∃ (o:Obj) (its:Array Value) (n:Nat),K.lookup a=some o∧o.cls = .type "tuple" ∧ o.data = .seq its n∧its.size≤sizeLine∧Vals xs its.toList
def absV:Value→Option V
  | .none=>some .non
  | .bool b=>some (.bl b)
  | .int i _=>some (.int i)
  | .str x _=>some (.str x)
  | .bytes b _=>some (.byt b)
  | .float b _=>some (.flt b)
  | .ref a=>some (.ref a)
  | .type n=>some (.ty n)
  | _=>none
theorem RelV.abs {x:V} {u:Value} (r:RelV x u):absV u=some x:=by
  cases x with
  | non=>cases r;rfl
  | bl _=>cases r;rfl
  | int _=>obtain ⟨t,rfl⟩:=r;rfl
  | str _=>obtain ⟨t,rfl⟩:=r;rfl
  | byt _=>obtain ⟨t,rfl⟩:=r;rfl
  | flt _=>obtain ⟨t,rfl⟩:=r;rfl
  | ref _=>cases r;rfl
  | ty _=>cases r;rfl
theorem RelV.inj {x y:V} {u:Value} (r:RelV x u) (q:RelV y u):x=y:=Option.some.inj (r.abs.symm.trans q.abs)
theorem Vals.inj:∀ {xs ys:List V} {us:List Value},Vals xs us→Vals ys us→xs=ys
  | _,_,_,.nil,.nil=>rfl
  | _,_,_,.cons r t,.cons r' t'=>by rw [r.inj r',Vals.inj t t']
section
variable {X:Cx} {pins:List (Addr×Obj)} {σ : St} {H:Hp} {s:Shared} {a:Addr} {xs ys:List V}
theorem SqL.of {K:PySem.W.Frag} (h:H a=some (.lst xs)):SqL K H a xs:=.inl (.inl h)
theorem SqT.of {K:PySem.W.Frag} (h:H a=some (.tup xs)):SqT K H a xs:=.inl (.inl h)
theorem Inv.list (I:Inv X pins σ H s) (h:SqL X.K H a xs):∃ its:List Value,Vals xs its∧PlainL s.heap a its.toArray∧xs.length≤sizeLine:=by
  rcases h with h | ⟨o,its,n,hk,hc,hd,hs,hz,r⟩
  · obtain ⟨z,its,n,r,e⟩:=h.ok I.hok
    exact ⟨its,r,⟨_,n,e,rfl,rfl,rfl⟩,z⟩
  · refine ⟨its.toList,r,⟨o,n,I.kIn a o hk,hc,hd,by simpa using hs⟩,?_⟩
    have e:=r.length
    simp only [Array.length_toList] at e
    omega
theorem Inv.tuple (I:Inv X pins σ H s) (h:SqT X.K H a xs):∃ its:List Value,Vals xs its∧IsTup s.heap a its.toArray∧xs.length≤sizeLine:=by
  rcases h with h | ⟨o,its,n,hk,hc,hs,hz,r⟩
  · obtain ⟨z,its,r,p⟩:=h.ok I.hok
    exact ⟨its,r,p,z⟩
  · refine ⟨its.toList,r,⟨o,I.kIn a o hk,hc,n,by simpa using hs⟩,?_⟩
    have e:=r.length
    simp only [Array.length_toList] at e
    omega
theorem Inv.list_inj (I:Inv X pins σ H s) (h:SqL X.K H a xs) (h':SqL X.K H a ys):xs=ys:=by
  obtain ⟨its,r,⟨o,n,e,_,_,d⟩,_⟩:=I.list h
  obtain ⟨its',r',⟨o',n',e',_,_,d'⟩,_⟩:=I.list h'
  rw [e] at e';cases e'
  rw [d] at d'
  injection d' with d1 _
  have:its=its':=by simpa using congrArg Array.toList d1
  subst this
  exact r.inj r'
theorem Inv.tuple_inj (I:Inv X pins σ H s) (h:SqT X.K H a xs) (h':SqT X.K H a ys):xs=ys:=by
  obtain ⟨its,r,⟨o,e,_,n,d⟩,_⟩:=I.tuple h
  obtain ⟨its',r',⟨o',e',_,n',d'⟩,_⟩:=I.tuple h'
  rw [e] at e';cases e'
  rw [d] at d'
  injection d' with d1 _
  have:its=its':=by simpa using congrArg Array.toList d1
  subst this
  exact r.inj r'
end
abbrev Cx.wish (X:Cx) (E:Value→Shared→Prop):Cx:={ X with xe:=E }
abbrev Cx.nox (X:Cx):Cx:=X.wish fun _ _=>False
theorem Cx.Ok.wish {X:Cx} (ok:X.Ok) (E:Value→Shared→Prop):(X.wish E).Ok :=
  ⟨ok.mod,ok.kind,ok.glob,ok.blt,ok.above,ok.inj,ok.has,ok.cab,ok.hd,ok.frames,ok.stk,ok.exf,ok.bs,ok.bsz,ok.noex,ok.exfs,ok.funs,ok.frf⟩
theorem Cx.Ok.unwish {X:Cx} {E:Value→Shared→Prop} (ok:(X.wish E).Ok):X.Ok :=
  ⟨ok.mod,ok.kind,ok.glob,ok.blt,ok.above,ok.inj,ok.has,ok.cab,ok.hd,ok.frames,ok.stk,ok.exf,ok.bs,ok.bsz,ok.noex,ok.exfs,ok.funs,ok.frf⟩
section
variable {X:Cx} {pins:List (Addr×Obj)} {σ : St} {H:Hp} {s:Shared} {E:Value→Shared→Prop}
theorem Inv.wish (I:Inv X pins σ H s) (E:Value→Shared→Prop):Inv (X.wish E) pins σ H s:=⟨I.ok.wish E,I.os,I.bare,I.base,I.loc,I.cell,I.free,I.freeC,I.pin,I.hok,I.len⟩
theorem Inv.unwish (I:Inv (X.wish E) pins σ H s):Inv X pins σ H s:=⟨I.ok.unwish,I.os,I.bare,I.base,I.loc,I.cell,I.free,I.freeC,I.pin,I.hok,I.len⟩
theorem SP.unwish {D:Ends} {f:Flow} {s':Shared} (h:SP (X.wish E) pins D f s'):SP X pins D f s':=by
  cases f with
  | next=>obtain ⟨σ',H',I,q⟩:=h;exact ⟨σ',H',I.unwish,q⟩
  | brk=>obtain ⟨σ',H',I,q⟩:=h;exact ⟨σ',H',I.unwish,q⟩
  | cont=>obtain ⟨σ',H',I,q⟩:=h;exact ⟨σ',H',I.unwish,q⟩
  | ret u=>obtain ⟨v,σ',H',I,r,q⟩:=h;exact ⟨v,σ',H',I.unwish,r,q⟩
theorem PE.nox {e:Expr} {t:TE} (h:PE X.nox e t):PE X e t:=fun pins s σ H Q I hw =>
  wpAny_mono (h pins s σ H Q (I.wish _) hw) (fun _ _ ⟨v,H',I',r,q⟩=>⟨v,H',I'.unwish,r,q⟩) fun _ _ z=>False.elim z
end
section
variable {X:Cx} {st:Stmt} {rest:List Stmt} {t u:TS} {e:Expr} {te:TE} {pos:Pos}
def tNext:TS:=fun D σ H=>D.nx σ H
def tSeq (t u:TS):TS:=fun D σ H=>t { D with nx:=u D } σ H
theorem pss_nil:PSs X [] tNext:=fun _ _ σ H _ I h=>wpAny_execs_nil ⟨σ,H,I,h⟩
theorem pss_cons (h1:PS X st t) (h2:PSs X rest u):PSs X (st::rest) (tSeq t u):=by
  intro pins s σ H D I h
  refine wpAny_execs_cons (thn (h1 pins s σ H { D with nx:=u D } I h) fun f s1 q => ?_)
  cases f with
  | next =>
    obtain ⟨σ',H',I',q⟩:=q
    exact h2 pins s1 σ' H' D I' q
  | ret v=>exact q
  | brk=>exact q
  | cont=>exact q
theorem pss_one (h1:PS X st t):PSs X [st] t:=by
  intro pins s σ H D I h
  refine wpAny_execs_cons (thn (h1 pins s σ H D I h) fun f s1 q => ?_)
  cases f with
  | next=>exact wpAny_execs_nil q
  | ret v=>exact q
  | brk=>exact q
  | cont=>exact q
theorem Inv.quiet {pins:List (Addr×Obj)} {σ : St} {H:Hp} {s:Shared} (I:Inv X pins σ H s):interactive X.env=false:=by simp [interactive,I.ok.kind]
def tDrop (te:TE):TS:=fun D σ H=>te σ H fun _ H1=>D.nx σ H1
theorem ps_expr (he:PE X e te) (hs:swapsWith e none pos.line X.env=pure false:=by rfl):PS X (.Expr e pos) (tDrop te):=by
  intro pins s σ H D I h
  exact wpAny_Expr_any (thn (he pins s σ H _ I h) fun v s1 ⟨x,H1,I1,r1,q1⟩=>⟨σ,H1,I1,q1⟩) I.quiet hs
def tRet (te:TE):TS:=fun D σ H=>te σ H D.rt
theorem ps_ret (he:PE X e te):PS X (.Return (some e) pos) (tRet te):=by
  intro pins s σ H D I h
  exact wpAny_Return_some (thn (he pins s σ H _ I h) fun v s1 ⟨x,H1,I1,r1,q1⟩=>⟨x,σ,H1,I1,r1,q1⟩)
def tIfS (c:TT) (t u:TS):TS:=fun D σ H=>c σ H fun b H1=>if b=true then t D σ H1 else u D σ H1
theorem ps_if {c:Expr} {a b:List Stmt} {tc:TT} (hc:PT X c tc) (ha:PSs X a t) (hb:PSs X b u):PS X (.If c a b pos) (tIfS tc t u):=by
  intro pins s σ H D I h
  refine wpAny_If (thn (hc pins s σ H _ I h) fun d s1 ⟨H1,I1,q1⟩ => ?_)
  cases d with
  | true=>exact ha pins s1 σ H1 D I1 q1
  | false=>exact hb pins s1 σ H1 D I1 q1
end
abbrev TG:=V→St→Hp→(St→Hp→Prop)→Prop
abbrev TGs:=List V→St→Hp→(St→Hp→Prop)→Prop
def PG (X:Cx) (target:Expr) (t:TG):Prop :=
  ∀ (pins:List (Addr×Obj)) (s:Shared) (σ : St) (H:Hp) (v:V) (u:Value) (Q:St→Hp→Prop),Inv X pins σ H s→RelV v u→t v σ H Q →
    wpAny (model X.prog X.w) X.A (assign target X.env u) (fun _ s' => ∃ σ' H',Inv X pins σ' H' s'∧Q σ' H') X.xe s
def PGs (X:Cx) (ts:List Expr) (t:TGs):Prop :=
  ∀ (pins:List (Addr×Obj)) (s:Shared) (σ : St) (H:Hp) (vs:List V) (us:List Value) (Q:St→Hp→Prop),Inv X pins σ H s→Vals vs us→t vs σ H Q →
    wpAny (model X.prog X.w) X.A (assignInOrder ((assignEach ts X.env).map (·.2)) us) (fun _ s' => ∃ σ' H',Inv X pins σ' H' s'∧Q σ' H') X.xe s
abbrev TIp:=V→V→Hp→VK→Prop
def PIp (X:Cx) (op:Operator) (t:TIp):Prop :=
  ∀ (pins:List (Addr×Obj)) (s:Shared) (σ : St) (H:Hp) (x y:V) (v u:Value) (Q:VK),Inv X pins σ H s→RelV x v→RelV y u→t x y H Q →
    wpAny (model X.prog X.w) X.A (inplaceOp op v u) (EP X pins σ Q) X.xe s
section
variable {X:Cx} {pos:Pos}
def gName (i:Nat):TG:=fun v σ H Q=>Q (σ.set i (some v)) H
theorem pg_name {i:Nat} {x:Str} (hN:X.N.Nodup) (hi:X.N[i]? = some x) (hx:Loc X.env.scope x) (hf:X.fn x=true∨X.env.scope.names.lookup x=some .local:=by first | exact .inl rfl | exact .inr rfl | assumption):PG X (.Name x pos) (gName i):=by
  intro pins s σ H v u Q I r h
  exact wpAny_assign_Name (store_ok I hN hi hx r (fun s' I'=>⟨_,H,I',h⟩) hf)
def gNil:TGs:=fun vs σ H Q=>vs = []∧Q σ H
def gCons (t:TG) (u:TGs):TGs:=fun vs σ H Q => ∃ v r,vs=v::r∧t v σ H fun σ' H'=>u r σ' H' Q
theorem pgs_nil:PGs X [] gNil:=by
  intro pins s σ H vs us Q I r h
  obtain ⟨e,h⟩:=h
  subst e
  cases r
  exact assignInOrder_nil ⟨σ,H,I,h⟩
theorem pgs_cons {e:Expr} {es:List Expr} {t:TG} {u:TGs} (h1:PG X e t) (h2:PGs X es u)
    (hs:(assignEach (e::es) X.env).map (·.2)=assign e X.env::(assignEach es X.env).map (·.2):=by rfl):PGs X (e::es) (gCons t u):=by
  intro pins s σ H vs us Q I r h
  obtain ⟨v,vr,e1,h⟩:=h
  subst e1
  cases r with
  | cons r rr =>
    rw [hs]
    refine assignInOrder_cons (thn (h1 pins s σ H _ _ _ I r h) fun _ s1 ⟨σ1,H1,I1,q1⟩ => ?_)
    exact h2 pins s1 σ1 H1 _ _ Q I1 rr q1
def gTup (K:PySem.W.Frag) (n:Nat) (t:TGs):TG:=fun v σ H Q => ∃ a xs,v = .ref a∧SqT K H a xs∧xs.length=n∧t xs σ H Q
theorem pg_tup {es:List Expr} {k:Nat} {t:TGs} {n:Nat} (hc:X.calm=true) (h:PGs X es t)
    (hn:(assignEach es X.env).length=n:=by rfl) (hst:(assignEach es X.env).findIdx? (·.1)=none:=by rfl):PG X (.Tuple es k pos) (gTup X.K n t):=by
  intro pins s σ H v u Q I r hw
  obtain ⟨a,xs,e1,hq,hl,hw⟩:=hw
  subst e1
  cases r
  obtain ⟨its,rv,ht,hz⟩:=I.tuple hq
  refine assign_Tuple_tuple (I.ok.hd hc) ht (by simp [hn,← hl,rv.length]) hst fun h' hx => ?_
  have I1:Inv X pins σ H { s with heap:=h' }:=I.kept (t':=s.toks) fun b o e=>hx b o (Nat.ne_of_lt (Heap.lt_size e)) e
  exact h pins _ σ H xs _ Q I1 (by simpa using rv) hw
def tAsg (te:TE) (g:TG):TS:=fun D σ H=>te σ H fun x H1=>g x σ H1 D.nx
theorem ps_asg {tg e:Expr} {te:TE} {g:TG} (he:PE X e te) (hg:PG X tg g) (hs:swapsWithSole [tg] e pos.line X.env=pure false:=by rfl) (hw:swappedStores [tg] e X.env=pure none:=by rfl)
    (h1:(assignEach [tg] X.env).map (·.2) = [assign tg X.env]:=by rfl):PS X (.Assign [tg] e pos) (tAsg te g):=by
  intro pins s σ H D I h
  refine wpAny_Assign_stores (thn (he pins s σ H _ I h) fun v s1 ⟨x,H1,I1,r1,q1⟩ => ?_) hs hw
  rw [h1]
  exact thn (hg pins s1 σ H1 x v _ I1 r1 q1) fun _ s2 q=>q
theorem ps_set {i:Nat} {x:Str} {e:Expr} {te:TE} {pos':Pos} (hN:X.N.Nodup) (hi:X.N[i]? = some x) (hx:Loc X.env.scope x) (he:PE X e te) (hs:swapsWith e (some (.Name x pos')) pos.line X.env=pure false:=by rfl) (hf:X.fn x=true∨X.env.scope.names.lookup x=some .local:=by first | exact .inl rfl | exact .inr rfl | assumption) :
    PS X (.Assign [.Name x pos'] e pos) (tAsg te (gName i)):=by
  intro pins s σ H D I h
  refine wpAny_Assign_Name (thn (he pins s σ H _ I h) fun v s1 ⟨y,H1,I1,r1,q1⟩ => ?_) hs
  exact store_ok I1 hN hi hx r1 (fun s2 I2=>⟨_,H1,I2,q1⟩) hf
def tAug (i:Nat) (te:TE) (ti:TIp):TS:=fun D σ H => ∃ x,σ[i]? = some (some x)∧te σ H fun y H1=>ti x y H1 fun z H2=>D.nx (σ.set i (some z)) H2
theorem ps_aug {i:Nat} {x:Str} {e:Expr} {te:TE} {op:Operator} {ti:TIp} {pos':Pos} (hN:X.N.Nodup) (hi:X.N[i]? = some x) (hx:Loc X.env.scope x) (he:PE X e te) (ho:PIp X op ti) (hf:X.fn x=true∨X.env.scope.names.lookup x=some .local:=by first | exact .inl rfl | exact .inr rfl | assumption) :
    PS X (.AugAssign (.Name x pos') op e pos) (tAug i te ti):=by
  intro pins s σ H D I h
  obtain ⟨v,e1,h⟩:=h
  obtain ⟨m,hn,hl⟩:=I.loc
  have vis:Vis X.env.scope x:=by rcases hx with k | k;exact .inl k;exact .inr (.inl k)
  obtain ⟨u,r,l⟩:=hl i x v hi e1 vis
  refine wpAny_AugAssign_Name ?_
  have go:wpAny (model X.prog X.w) X.A (eval e X.env) (fun w s₂ => wpAny (model X.prog X.w) X.A (inplaceOp op u w) (fun r s₃ => wpAny (model X.prog X.w) X.A (storeName X.env x r) (fun _=>SP X pins D .next) X.xe s₃) X.xe s₂) X.xe s:=by
    refine thn (he pins s σ H _ I h) fun w s1 ⟨y,H1,I1,r1,q1⟩ => ?_
    refine thn (ho pins s1 σ H1 v y u w _ I1 r r1 q1) fun z s2 ⟨zv,H2,I2,r2,q2⟩ => ?_
    exact store_ok I2 hN hi hx r2 (fun s3 I3=>⟨_,H2,I3,q2⟩) hf
  rcases l with ⟨hk,hm⟩ | ⟨hk,c,hc,hcell⟩
  · exact wpAny_loadName_local I.ok.kind hk hn hm go
  · rcases hk with hk | hk
    · exact wpAny_loadName_cell I.ok.kind hk hc hcell go
    · rcases hx with k | k
      · have:X.env.scope.names.lookup x=some .free:=hk
        rw [k] at this;cases this
      · have:X.env.scope.names.lookup x=some .free:=hk
        rw [k] at this;cases this
def ipI (f:Int→Int→Int):TIp:=fun x y H Q => ∃ i j,x = .int i∧y = .int j∧Q (.int (f i j)) H
end
section
variable {X:Cx} {pos:Pos}
end
structure It where
  go:Nat→Hp→Prop
  yld:Nat→Hp→V→Hp→Prop
  stop:Nat→Hp→Prop
def FpOk (X:Cx) (pins:List (Addr×Obj)) (H:Hp) (b:Addr):Prop :=
  H b=none∧b≠X.env.locals∧b∉X.fs∧(b∈X.ex∨X.s₀.heap.objs.size≤b)∧(∀ x c,X.env.cells.lookup x=some c→c≠b)∧∀ p∈X.pn++pins,p.1≠b
theorem Inv.fpOk {X:Cx} {pins:List (Addr×Obj)} {σ : St} {H H':Hp} {s:Shared} {b:Addr} (I:Inv X pins σ H s) (hb:s.heap.objs.size≤b) (hn:H' b=none):FpOk X pins H' b:=by
  refine ⟨hn,Nat.ne_of_gt (Nat.lt_of_lt_of_le I.lt hb),I.nofs hb,.inr (Nat.le_trans I.sz hb),fun x c e z => ?_,fun p hp z => ?_⟩
  · obtain ⟨v,q⟩:=I.cell x c e
    exact absurd (Nat.lt_of_lt_of_le q.lt (by rw [z];exact hb)) (Nat.lt_irrefl _)
  · exact absurd (Nat.lt_of_lt_of_le (Heap.lt_size (I.pin p hp).1) (by rw [z];exact hb)) (Nat.lt_irrefl _)
structure Turn (P:Program) (w:World) (K:PySem.W.Frag) (tg:Expr) (J:It) (fp:List Addr) (it:Addr) (tn:Nat→Heap→Prop):Prop where
  mem:it∈fp
  obj:∀ i h,tn i h→∀ b∈fp,∃ o,h.get? b=some o∧∀ v,o.data ≠ .cell v
  keep:∀ i h h',tn i h→(∀ b∈fp,∀ o,h.get? b=some o→h'.get? b=some o)→tn i h'
  item:∀ (X:Cx),X.prog=P→X.w=w→X.K=K→X.calm=true→∀ (i:Nat) (pins:List (Addr×Obj)) (s:Shared) (σ : St) (H:Hp) (E:Value→Shared→Prop),Inv X pins σ H s→(∀ b∈fp,FpOk X pins H b)→tn i s.heap→J.go i H →
    wpAny (model P w) X.A (pyNext (.ref it)) (fun r s1 => ∃ u,r=some u ∧
      wpAny (model P w) X.A (letOwnedTupleGo tg (.ref it) u) (fun _ s2 => ∃ x H',Inv X pins σ H' s2∧RelV x u∧J.yld i H x H'∧tn (i+1) s2.heap∧∀ b∈fp,H' b=none) E s1) E s
  done:∀ (X:Cx),X.prog=P→X.w=w→X.K=K→X.calm=true→∀ (i:Nat) (pins:List (Addr×Obj)) (s:Shared) (σ : St) (H:Hp) (E:Value→Shared→Prop),Inv X pins σ H s→(∀ b∈fp,FpOk X pins H b)→tn i s.heap→J.stop i H →
    wpAny (model P w) X.A (pyNext (.ref it)) (fun r s1=>r=none∧Inv X pins σ H s1) E s
  self:∀ (A:Around) (i:Nat) (s:Shared) (Q:Value→Shared→Prop) (E:Value→Shared→Prop),tn i s.heap→Q (.ref it) s→wpAny (model P w) A (pyIter (.ref it)) Q E s
abbrev TI:=St→Hp→(It→Hp→Prop)→Prop
def PIE (X:Cx) (pins:List (Addr×Obj)) (σ : St) (tg:Expr) (R:It→Hp→Prop) (itv:Value) (s2:Shared):Prop :=
  ∃ (it:Addr) (fp:List Addr) (tn:Nat→Heap→Prop) (J:It) (H':Hp),itv = .ref it∧Inv X pins σ H' s2∧Turn X.prog X.w X.K tg J fp it tn∧tn 0 s2.heap∧(∀ b∈fp,FpOk X pins H' b)∧R J H'
def PI (X:Cx) (tg iter:Expr) (wi:TI):Prop :=
  ∀ (pins:List (Addr×Obj)) (s:Shared) (σ : St) (H:Hp) (R:It→Hp→Prop),Inv X pins σ H s→wi σ H R →
    wpAny (model X.prog X.w) X.A (eval iter X.env) (fun v s1=>wpAny (model X.prog X.w) X.A (pyIter v) (PIE X pins σ tg R) X.xe s1) X.xe s
theorem go_of {M:Model} {A:Around} {E:Value→Shared→Prop} {s:Shared} {tg:Expr} {it:Addr} {u:Value} {o:Obj} {n:String} {vs:Array Value} {Q:Unit→Shared→Prop} (ho:s.heap.get? it=some o) (hc:o.cls = .type n) (hd:o.data = .fields vs)
    (hn : ["enumerate", "zip", "dict_itemiterator", "dict_reverseitemiterator", "odict_iterator", "itertools.zip_longest", "itertools.pairwise"].contains n=false) (hQ:Q () s):wpAny M A (letOwnedTupleGo tg (.ref it) u) Q E s:=by
  unfold letOwnedTupleGo
  cases tg<;>first
    | exact wpAny_pure hQ
    | (cases u<;>first
        | exact wpAny_pure hQ
        | (refine wpAny_bind (wpAny_load ho ?_)
           rw [hc,hd]
           show wpAny M A (if (["enumerate", "zip", "dict_itemiterator", "dict_reverseitemiterator", "odict_iterator", "itertools.zip_longest", "itertools.pairwise"].contains n && vs[0]? == some (rawInt _))=true then _ else _) Q E s
           rw [if_neg (by intro h;rw [hn,Bool.false_and] at h;cases h)]
           exact wpAny_pure hQ))
def Itl (K:PySem.W.Frag) (a:Addr):It :=
  ⟨fun i H => ∃ xs x,SqL K H a xs∧xs[i]? = some x,fun i H x H'=>H'=H∧∀ xs,SqL K H a xs→xs[i]? = some x,fun i H => ∃ xs,SqL K H a xs∧xs.length≤i⟩
def Itt (K:PySem.W.Frag) (a:Addr):It :=
  ⟨fun i H => ∃ xs x,SqT K H a xs∧xs[i]? = some x,fun i H x H'=>H'=H∧∀ xs,SqT K H a xs→xs[i]? = some x,fun i H => ∃ xs,SqT K H a xs∧xs.length≤i⟩
def Itr (lo:Int) (n:Nat):It:=⟨fun i _=>i<n,fun i H x H'=>H'=H∧x = .int (lo+i),fun i _=>n≤i⟩
theorem turn_list {P:Program} {w:World} {K:PySem.W.Frag} {tg:Expr} (a it:Addr):Turn P w K tg (Itl K a) [it] it (fun i h=>h.IsListIter it a i) where
  mem:=by simp
  obj:=fun i h st b hb=>by
    have e:b=it:=by simpa using hb
    subst e
    obtain ⟨o,e,c,d⟩:=st
    exact ⟨o,e,fun v z=>by rw [d] at z;cases z⟩
  keep:=fun i h h' st k=>st.at fun o e=>k it (by simp) o e
  item:=by
    intro X hP hw hK hc i pins s σ H E I hf st hg
    subst hP hw hK
    obtain ⟨xs,x,hq,hx⟩:=hg
    obtain ⟨its,rv,p,hz⟩:=I.list hq
    obtain ⟨u,hu,ru⟩:=rv.get hx
    obtain ⟨f0,f1,f2,f3,f4,f5⟩:=hf it (by simp)
    refine wpAny_pyNext_list_item st p.isList (x:=u) (by simpa using hu) fun h' st' sb => ?_
    have I1:Inv X pins σ H { s with heap:=h' }:=I.turned (t':=s.toks) (fun b o hb e=>(sb.2 b hb).trans e) f0 f1 f3 f4 f5
    obtain ⟨o,e,c,d⟩:=id st'
    exact ⟨u,rfl,go_of (s:={ s with heap:=h' }) e c d (by decide) ⟨x,H,I1,ru,⟨rfl,fun ys hy=>by rw [I.list_inj hy hq];exact hx⟩,st',fun b hb=>(hf b hb).1⟩⟩
  done:=by
    intro X hP hw hK hc i pins s σ H E I hf st hg
    subst hP hw hK
    obtain ⟨xs,hq,hx⟩:=hg
    obtain ⟨its,rv,p,hz⟩:=I.list hq
    obtain ⟨f0,f1,f2,f3,f4,f5⟩:=hf it (by simp)
    have hl:=rv.length
    exact wpAny_pyNext_list_end (I.ok.hd hc) st p.isList (by simp;omega) fun h' eb=>⟨rfl,I.turned (t':=s.toks) (fun b o hb e=>eb b o hb e) f0 f1 f3 f4 f5⟩
  self:=fun _ _ _ _ _ st h=>wpAny_pyIter_listiter st h
theorem turn_tuple {P:Program} {w:World} {K:PySem.W.Frag} {tg:Expr} (a it:Addr):Turn P w K tg (Itt K a) [it] it (fun i h=>h.IsTupleIter it a i) where
  mem:=by simp
  obj:=fun i h st b hb=>by
    have e:b=it:=by simpa using hb
    subst e
    obtain ⟨o,e,c,d⟩:=st
    exact ⟨o,e,fun v z=>by rw [d] at z;cases z⟩
  keep:=fun i h h' st k=>st.at fun o e=>k it (by simp) o e
  item:=by
    intro X hP hw hK hc i pins s σ H E I hf st hg
    subst hP hw hK
    obtain ⟨xs,x,hq,hx⟩:=hg
    obtain ⟨its,rv,p,hz⟩:=I.tuple hq
    obtain ⟨u,hu,ru⟩:=rv.get hx
    obtain ⟨f0,f1,f2,f3,f4,f5⟩:=hf it (by simp)
    refine wpAny_pyNext_tuple_item st (show s.heap.IsTuple a its.toArray from p) (x:=u) (by simpa using hu) fun h' st' sb => ?_
    have I1:Inv X pins σ H { s with heap:=h' }:=I.turned (t':=s.toks) (fun b o hb e=>(sb.2 b hb).trans e) f0 f1 f3 f4 f5
    obtain ⟨o,e,c,d⟩:=id st'
    exact ⟨u,rfl,go_of (s:={ s with heap:=h' }) e c d (by decide) ⟨x,H,I1,ru,⟨rfl,fun ys hy=>by rw [I.tuple_inj hy hq];exact hx⟩,st',fun b hb=>(hf b hb).1⟩⟩
  done:=by
    intro X hP hw hK hc i pins s σ H E I hf st hg
    subst hP hw hK
    obtain ⟨xs,hq,hx⟩:=hg
    obtain ⟨its,rv,p,hz⟩:=I.tuple hq
    obtain ⟨f0,f1,f2,f3,f4,f5⟩:=hf it (by simp)
    have hl:=rv.length
    exact wpAny_pyNext_tuple_end (I.ok.hd hc) st (show s.heap.IsTuple a its.toArray from p) (by simp;omega) fun h' eb=>⟨rfl,I.turned (t':=s.toks) (fun b o hb e=>eb b o hb e) f0 f1 f3 f4 f5⟩
  self:=fun _ _ _ _ _ st h=>wpAny_pyIter_tupleiter st h
theorem turn_range {P:Program} {w:World} {K:PySem.W.Frag} {tg:Expr} (it:Addr) (lo:Int) (n:Nat):Turn P w K tg (Itr lo n) [it] it (fun i h=>IsRangeIter h it (lo+(i:Nat)*1) ((n:Int)-(i:Nat)) 1) where
  mem:=by simp
  obj:=fun i h st b hb=>by
    have e:b=it:=by simpa using hb
    subst e
    exact ⟨_,st,fun v z=>by
      have z':Data.fields _=Data.cell v:=z
      cases z'⟩
  keep:=fun i h h' st k=>k it (by simp) _ st
  item:=by
    intro X hP hw hK hc i pins s σ H E I hf st hg
    subst hP hw hK
    obtain ⟨f0,f1,f2,f3,f4,f5⟩:=hf it (by simp)
    have W:=Walks.range (prog:=X.prog) (w:=X.w) (I.ok.hd hc) it lo 1 n
    refine W.item i s _ _ hg st fun v h' tk hv st' kk => ?_
    obtain ⟨t,rfl⟩:=hv
    have I1:Inv X pins σ H { s with heap:=h',toks:=tk }:=I.turned (fun b o hb e=>kk b o (by simpa using hb) e) f0 f1 f3 f4 f5
    refine ⟨_,rfl,go_of (s:={ s with heap:=h',toks:=tk }) (n := "range_iterator") st' rfl rfl (by decide) ⟨.int (lo+i),H,I1,⟨t,?_⟩,⟨rfl,rfl⟩,st',fun b hb=>(hf b hb).1⟩⟩
    rw [Int.mul_one]
  done:=by
    intro X hP hw hK hc i pins s σ H E I hf st hg
    subst hP hw hK
    obtain ⟨f0,f1,f2,f3,f4,f5⟩:=hf it (by simp)
    exact wpAny_pyNext_range_end (I.ok.hd hc) st (by have:n≤i:=hg;omega) fun h' eb=>⟨rfl,I.turned (t':=s.toks) (fun b o hb e=>eb b o hb e) f0 f1 f3 f4 f5⟩
  self:=fun _ _ _ _ _ st h=>wpAny_pyIter_rangeiter st h
end L2
namespace L2
open PySem PySem.Spec PyProof.Rows
section
variable {X:Cx} {tg:Expr}
theorem range_it {pins:List (Addr×Obj)} {σ : St} {H:Hp} {s:Shared} {R:It→Hp→Prop} {E:Value→Shared→Prop} {lo hi:Int} {t u v:Tok} {tk:Nat} (I:Inv X pins σ H s) (h1 : -(2 ^ 62)≤lo) (h2:lo<2 ^ 62) (h3 : -(2 ^ 62)≤hi) (h4:hi<2 ^ 62)
    (q:R (Itr lo (hi-lo).toNat) H):wpAny (model X.prog X.w) X.A (pyIter (.ref s.heap.objs.size)) (PIE X pins σ tg R) E { s with heap:=s.heap.push { cls:=.type "range",data:=.fields #[.int lo t,.int hi u,.int 1 v] },toks:=tk }:=by
  refine wpAny_pyIter_range (IsRange.new ..) (small_one h1 h2 h3 h4) ?_
  have I1:Inv X pins σ H { s with heap:=s.heap.push { cls:=.type "range",data:=.fields #[.int lo t,.int hi u,.int 1 v] },toks:=tk }:=I.kept fun b o e=>Heap.get?_push_of_some _ e
  refine ⟨(s.heap.push { cls:=.type "range",data:=.fields #[.int lo t,.int hi u,.int 1 v] }).objs.size,[(s.heap.push { cls:=.type "range",data:=.fields #[.int lo t,.int hi u,.int 1 v] }).objs.size],_,_,H,rfl,
    I1.kept (t':=tk) fun b o e=>Heap.get?_push_of_some _ e,turn_range _ lo (hi-lo).toNat,?_,fun b hb => ?_,q⟩
  · have e1:lo+((0:Nat):Int)*1=lo:=by simp
    have e2:(((hi-lo).toNat:Nat):Int)-((0:Nat):Int)=Builtin.Range.rangeSize lo hi 1:=by rw [rangeSize_one];split<;>omega
    show IsRangeIter _ _ (lo+((0:Nat):Int)*1) ((((hi-lo).toNat:Nat):Int)-((0:Nat):Int)) 1
    rw [e1,e2]
    exact Heap.get?_push_size _ rfl
  · have e:b=(s.heap.push { cls:=.type "range",data:=.fields #[.int lo t,.int hi u,.int 1 v] }).objs.size:=by simpa using hb
    subst e
    exact I1.fpOk (Nat.le_refl _) (I1.hok.fresh (Nat.le_refl _))
def iRng1 (ta:TA):TI:=fun σ H R=>ta σ H fun vs H1 => ∃ j:Int,vs = [.int j] ∧ -(2 ^ 62)≤j∧j<2 ^ 62∧R (Itr 0 j.toNat) H1
theorem pi_range1 {a:Expr} {ta:TA} {p pos:Pos} (hg:Gl X "range") (hm:X.mg "range" = none) (ha:PA X [a] ta) (hs:starEach [a] X.env = [(false,eval a X.env)]:=by rfl):PI X tg (.Call (.Name "range" p) [a] [] pos) (iRng1 ta):=by
  intro pins s σ H R I h
  refine Call_ (ld_blt I hg hm boot_range (PyProof.Rows.callWith_type1 (thn (ha pos pins s σ H _ I h) fun us s1 ⟨vs,H1,I1,r1,q1⟩ => ?_) hs rfl))
  obtain ⟨j,e,q1,q2,q⟩:=q1
  subst e
  cases r1 with
  | cons r rr =>
    cases rr
    obtain ⟨t,rfl⟩:=r
    exact call_range_1 (range_it I1 (by omega) (by omega) q1 q2 (by simpa using q))
def tFor (wi:TI) (g:TG) (tb:TS):TS:=fun D σ H=>wi σ H fun J H1 => ∃ W:Nat→Nat→St→Hp→Prop,(∃ m,W 0 m σ H1)∧∀ i m σ H,W i m σ H →
  (J.stop i H∧D.nx σ H)∨(J.go i H∧∃ N:St→Hp→Prop,(∀ σ' H',N σ' H'→∃ m',m'<m∧W (i+1) m' σ' H')∧∀ x H',J.yld i H x H'→g x σ H' fun σ2 H2=>tb { D with nx:=N,ct:=N,bk:=D.nx } σ2 H2)
def pinsAt (fp:List Addr) (h:Heap):List (Addr×Obj):=fp.filterMap fun b=>(h.get? b).map fun o=>(b,o)
theorem mem_pinsAt {fp:List Addr} {h:Heap} {b:Addr} {o:Obj} (hb:b∈fp) (e:h.get? b=some o):(b,o)∈pinsAt fp h:=List.mem_filterMap.mpr ⟨b,hb,by rw [e];rfl⟩
theorem of_pinsAt {fp:List Addr} {h:Heap} {p:Addr×Obj} (hp:p∈pinsAt fp h):p.1∈fp∧h.get? p.1=some p.2:=by
  obtain ⟨b,hb,e⟩:=List.mem_filterMap.mp hp
  cases q:h.get? b with
  | none=>rw [q] at e;cases e
  | some o =>
    rw [q] at e
    have e':(b,o)=p:=Option.some.inj e
    subst e'
    exact ⟨hb,q⟩
theorem Inv.pinned {pins:List (Addr×Obj)} {σ : St} {H:Hp} {s:Shared} {fp:List Addr} (I:Inv X pins σ H s) (hf:∀ b∈fp,FpOk X pins H b) (ho:∀ b∈fp,∃ o,s.heap.get? b=some o∧∀ v,o.data ≠ .cell v):Inv X (pins++pinsAt fp s.heap) σ H s :=
  I.pins_of fun p hp=>(List.mem_append.mp hp).elim (fun z=>I.pin p (List.mem_append_right _ z)) fun z=>by
    obtain ⟨hb,e⟩:=of_pinsAt z
    obtain ⟨f0,f1,f2,_⟩:=hf p.1 hb
    obtain ⟨o,e',d⟩:=ho p.1 hb
    rw [e] at e';cases e'
    exact ⟨e,f0,f1,f2,d⟩
theorem Inv.unpinned {pins pl:List (Addr×Obj)} {σ : St} {H:Hp} {s:Shared} (I:Inv X (pins++pl) σ H s):Inv X pins σ H s:=I.pins_of fun p hp=>I.pin p (List.mem_append_right _ (List.mem_append_left _ hp))
theorem ps_for {iter:Expr} {body:List Stmt} {wi:TI} {g:TG} {tb:TS} {pos:Pos} (hp:PassesOwn (model X.prog X.w) X.A X.env X.xe) (hc:X.calm=true) (hi:PI X tg iter wi) (hg:PG X tg g) (hb:PSs X body tb)
    (hs:∀ x,foldedSetIterable iter X.env x=pure x:=by intro _;rfl):PS X (.For tg iter body [] pos) (tFor wi g tb):=by
  intro pins s σ H D I h
  refine wpAny_For (thn (hi pins s σ H _ I h) fun v s1 h1=>thn h1 fun itv s2 h2 => ?_) hs
  obtain ⟨it,fp,tn,J,H2,e,I2,T,st2,f2,W,⟨m0,w0⟩,turn⟩:=h2
  subst e
  -- what stays true of the iterator's objects through the loop
  have stat:∀ {H':Hp},(∀ b∈fp,H' b=none)→∀ b∈fp,FpOk X pins H' b:=fun hn b hb=>⟨hn b hb,(f2 b hb).2⟩
  refine codeAny_forLoop_any (fun n s' => ∃ i σ' H',Inv X pins σ' H' s'∧tn i s'.heap∧(∀ b∈fp,H' b=none)∧W i n σ' H') ?_ m0 ⟨0,σ,H2,I2,st2,fun b hb=>(f2 b hb).1,w0⟩
  rintro n s3 ⟨i,σ3,H3,I3,st3,fr3,w3⟩
  rcases turn i n σ3 H3 w3 with ⟨stop,qn⟩ | ⟨go,N,hN,step⟩
  · refine wpAny_passesOwn hp (thn (T.done X rfl rfl rfl hc i pins s3 σ3 H3 X.xe I3 (stat fr3) st3 stop) fun r s4 ⟨hr,I4⟩ => ?_)
    subst hr
    exact wpAny_execs_nil ⟨σ3,H3,I4,qn⟩
  · refine wpAny_passesOwn hp (thn (T.item X rfl rfl rfl hc i pins s3 σ3 H3 X.xe I3 (stat fr3) st3 go) fun r s4 ⟨u,hr,h4⟩ => ?_)
    subst hr
    refine wpAny_passesOwn hp (thn h4 fun _ s5 ⟨x,H5,I5,r5,y5,st5,fr5⟩ => ?_)
    have I5':=I5.pinned (stat fr5) (T.obj _ _ st5)
    refine wpAny_passesOwn hp (thn (hg _ s5 σ3 H5 x u _ I5' r5 (step x H5 y5)) fun _ s6 ⟨σ6,H6,I6,q6⟩ => ?_)
    refine wpAny_passesOwn hp (thn (hb _ s6 σ6 H6 _ I6 q6) fun f s7 q7 => ?_)
    have again:∀ {σ7:St} {H7:Hp},Inv X (pins++pinsAt fp s5.heap) σ7 H7 s7→N σ7 H7→∃ m,m<n∧∃ i σ' H',Inv X pins σ' H' s7∧tn i s7.heap∧(∀ b∈fp,H' b=none)∧W i m σ' H':=fun {σ7 H7} I7 n7=>by
      obtain ⟨m',hm,w7⟩:=hN σ7 H7 n7
      refine ⟨m',hm,i+1,σ7,H7,I7.unpinned,T.keep _ _ _ st5 fun b hb o e=>(I7.pin (b,o) (List.mem_append_right _ (List.mem_append_right _ (mem_pinsAt hb e)))).1,fun b hb => ?_,w7⟩
      obtain ⟨o,e,d⟩:=T.obj _ _ st5 b hb
      exact (I7.pin (b,o) (List.mem_append_right _ (List.mem_append_right _ (mem_pinsAt hb e)))).2.1
    cases f with
    | next=>obtain ⟨σ7,H7,I7,n7⟩:=q7;exact again I7 n7
    | cont=>obtain ⟨σ7,H7,I7,n7⟩:=q7;exact again I7 n7
    | brk=>obtain ⟨σ7,H7,I7,q7⟩:=q7;exact ⟨σ7,H7,I7.unpinned,q7⟩
    | ret v=>obtain ⟨x7,σ7,H7,I7,r7,q7⟩:=q7;exact ⟨x7,σ7,H7,I7.unpinned,r7,q7⟩
end
end L2
namespace L2
open PySem PySem.Spec PyProof.Rows
abbrev R2:=V→V→Hp→VK→Prop
def OpR (X:Cx) (f:Value→Value→Sem Value) (r:R2):Prop :=
  ∀ (pins:List (Addr×Obj)) (s:Shared) (σ : St) (H:Hp) (x y:V) (v u:Value) (Q:VK),Inv X pins σ H s→RelV x v→RelV y u→r x y H Q →
    wpAny (model X.prog X.w) X.A (f v u) (EP X pins σ Q) X.xe s
def UnR (X:Cx) (f:Value→Sem Value) (r:V→Hp→VK→Prop):Prop :=
  ∀ (pins:List (Addr×Obj)) (s:Shared) (σ : St) (H:Hp) (x:V) (v:Value) (Q:VK),Inv X pins σ H s→RelV x v→r x H Q →
    wpAny (model X.prog X.w) X.A (f v) (EP X pins σ Q) X.xe s
def CallR (X:Cx) (f:Value) (r:List V→Hp→VK→Prop):Prop :=
  ∀ (pins:List (Addr×Obj)) (s:Shared) (σ : St) (H:Hp) (xs:List V) (us:List Value) (Q:VK),Inv X pins σ H s→Vals xs us→r xs H Q →
    wpAny (model X.prog X.w) X.A (call f us) (EP X pins σ Q) X.xe s
def TruR (X:Cx) (r:V→Hp→(Bool→Hp→Prop)→Prop):Prop :=
  ∀ (pins:List (Addr×Obj)) (s:Shared) (σ : St) (H:Hp) (x:V) (v:Value) (Q:Bool→Hp→Prop),Inv X pins σ H s→RelV x v→r x H Q →
    wpAny (model X.prog X.w) X.A (truthy v) (TP X pins σ Q) X.xe s
def tOp (r:R2) (ta tb:TE):TE:=fun σ H Q=>ta σ H fun x H1=>tb σ H1 fun y H2=>r x y H2 Q
def tUn (r:V→Hp→VK→Prop) (ta:TE):TE:=fun σ H Q=>ta σ H fun x H1=>r x H1 Q
def rI (C:Int→Int→Prop) (g:Int→Int→V):R2:=fun x y H Q => ∃ i j,x = .int i∧y = .int j∧C i j∧Q (g i j) H
def rI0 (g:Int→Int→V):R2:=fun x y H Q => ∃ i j,x = .int i∧y = .int j∧Q (g i j) H
def rU (g:Int→V):V→Hp→VK→Prop:=fun x H Q => ∃ i,x = .int i∧Q (g i) H
section
variable {X:Cx} {a b c:Expr} {ta tb tc:TE} {pos:Pos}
theorem binT (ha:PE X a ta) (hb:PE X b tb) {pins:List (Addr×Obj)} {s:Shared} {σ : St} {H:Hp} {R:V→V→Hp→Prop} (I:Inv X pins σ H s)
    (h:ta σ H fun x H1=>tb σ H1 fun y H2=>R x y H2) {Q:Value→Shared→Prop} {f:Value→Value→Sem Value}
    (hf:∀ v u s2 x y H2,Inv X pins σ H2 s2→RelV x v→RelV y u→R x y H2→wpAny (model X.prog X.w) X.A (f v u) Q X.xe s2) :
    wpAny (model X.prog X.w) X.A (eval a X.env) (fun v s₁ => wpAny (model X.prog X.w) X.A (eval b X.env) (fun u s₂ => wpAny (model X.prog X.w) X.A (f v u) Q X.xe s₂) X.xe s₁) X.xe s:=by
  refine thn (ha pins s σ H _ I h) fun v s1 ⟨x,H1,I1,r1,q1⟩ => ?_
  refine thn (hb pins s1 σ H1 _ I1 q1) fun u s2 ⟨y,H2,I2,r2,q2⟩ => ?_
  exact hf v u s2 x y H2 I2 r1 r2 q2
theorem pe_op {op:Operator} {r:R2} (ho:OpR X (binaryOp op) r) (ha:PE X a ta) (hb:PE X b tb):PE X (.BinOp a op b pos) (tOp r ta tb):=by
  intro pins s σ H Q I h
  exact wpAny_BinOp (binT ha hb I h fun v u s2 x y H2 I2 rx ry q=>ho pins s2 σ H2 x y v u Q I2 rx ry q)
theorem pe_un {op:UnaryOp} {r:V→Hp→VK→Prop} (ho:UnR X (unaryOp op) r) (ha:PE X a ta):PE X (.UnaryOp op a pos) (tUn r ta):=by
  intro pins s σ H Q I h
  exact UnaryOp_ (thn (ha pins s σ H _ I h) fun v s1 ⟨x,H1,I1,r1,q1⟩=>ho pins s1 σ H1 x v Q I1 r1 q1)
theorem opI {f:Value→Value→Sem Value} {C:Int→Int→Prop} {g:Int→Int→Int}
    (rule:∀ (i j:Int) (t u:Tok) (s:Shared) (Q:Value→Shared→Prop) (E:Value→Shared→Prop),C i j→Q (.int (g i j) s.toks) { s with toks:=s.toks+1 }→wpAny (model X.prog X.w) X.A (f (.int i t) (.int j u)) Q E s) :
    OpR X f (rI C fun i j => .int (g i j)):=by
  intro pins s σ H x y v u Q I rx ry h
  obtain ⟨i,j,rfl,rfl,hc,q⟩:=h
  obtain ⟨t,rfl⟩:=rx
  obtain ⟨t',rfl⟩:=ry
  exact rule i j t t' s _ _ hc ⟨.int (g i j),H,I.tok _,⟨_,rfl⟩,q⟩
theorem opI0 {f:Value→Value→Sem Value} {g:Int→Int→Int}
    (rule:∀ (i j:Int) (t u:Tok) (s:Shared) (Q:Value→Shared→Prop) (E:Value→Shared→Prop),Q (.int (g i j) s.toks) { s with toks:=s.toks+1 }→wpAny (model X.prog X.w) X.A (f (.int i t) (.int j u)) Q E s) :
    OpR X f (rI0 fun i j => .int (g i j)):=by
  intro pins s σ H x y v u Q I rx ry h
  obtain ⟨i,j,rfl,rfl,q⟩:=h
  obtain ⟨t,rfl⟩:=rx
  obtain ⟨t',rfl⟩:=ry
  exact rule i j t t' s _ _ ⟨.int (g i j),H,I.tok _,⟨_,rfl⟩,q⟩
theorem opB0 {f:Value→Value→Sem Value} {g:Int→Int→Bool}
    (rule:∀ (i j:Int) (t u:Tok) (s:Shared) (Q:Value→Shared→Prop) (E:Value→Shared→Prop),Q (.bool (g i j)) s→wpAny (model X.prog X.w) X.A (f (.int i t) (.int j u)) Q E s) :
    OpR X f (rI0 fun i j => .bl (g i j)):=by
  intro pins s σ H x y v u Q I rx ry h
  obtain ⟨i,j,rfl,rfl,q⟩:=h
  obtain ⟨t,rfl⟩:=rx
  obtain ⟨t',rfl⟩:=ry
  exact rule i j t t' s _ _ ⟨.bl (g i j),H,I,rfl,q⟩
def CPow (i j:Int):Prop:=0≤j∧j≤1000000∧i.natAbs<2 ^ 64
def CMul (i j:Int):Prop:=(-(2 ^ 64)<i∧i<2 ^ 64)∨(-(2 ^ 64)<j∧j<2 ^ 64)
theorem CMul.ok {i j:Int} (h:CMul i j):IntMulOk i j:=by
  rcases h with ⟨h1,h2⟩ | ⟨h1,h2⟩
  · exact .of_left (intBits_le_64 h1 h2)
  · exact .of_right (intBits_le_64 h1 h2)
theorem two_pow_nn (k:Nat):(0:Int)≤2 ^ k:=by
  rw [two_pow_cast]
  exact Int.natCast_nonneg _
theorem op_add:OpR X (binaryOp .Add) (rI0 fun i j => .int (i+j)):=opI0 fun _ _ _ _ _ _ _ q=>add_int q
theorem op_sub:OpR X (binaryOp .Sub) (rI0 fun i j => .int (i-j)):=opI0 fun _ _ _ _ _ _ _ q=>sub_int q
theorem op_modN:OpR X (binaryOp .Mod) (rI (fun _ j=>j≠0) fun i j => .int (i.fmod j)):=opI fun _ _ _ _ _ _ _ hc q=>mod_int' hc q
theorem op_pow:OpR X (binaryOp .Pow) (rI CPow fun i j => .int (i ^ j.toNat)):=opI fun _ _ _ _ _ _ _ hc q=>pow_int_small hc.1 hc.2.1 hc.2.2 q
theorem op_shl:OpR X (binaryOp .LShift) (rI CPow fun i j => .int (i*2 ^ j.toNat)):=opI fun _ _ _ _ _ _ _ hc q=>lshift_int_small hc.1 hc.2.1 hc.2.2 q
theorem op_shr:OpR X (binaryOp .RShift) (rI (fun _ j=>0≤j) fun i j => .int (i / 2 ^ j.toNat)):=opI fun i j _ _ _ _ _ hc q =>
  rshift_int hc (by rw [Int.fdiv_eq_ediv_of_nonneg i (two_pow_nn _)];exact q)
theorem op_and:OpR X (binaryOp .BitAnd) (rI0 fun i j => .int (Builtin.bitAnd i j)):=opI0 fun _ _ _ _ _ _ _ q=>and_int q
theorem unI {f:Value→Sem Value} {g:Int→Int}
    (rule:∀ (i:Int) (t:Tok) (s:Shared) (Q:Value→Shared→Prop) (E:Value→Shared→Prop),Q (.int (g i) s.toks) { s with toks:=s.toks+1 }→wpAny (model X.prog X.w) X.A (f (.int i t)) Q E s) :
    UnR X f (rU fun i => .int (g i)):=by
  intro pins s σ H x v Q I rx h
  obtain ⟨i,rfl,q⟩:=h
  obtain ⟨t,rfl⟩:=rx
  exact rule i t s _ _ ⟨.int (g i),H,I.tok _,⟨_,rfl⟩,q⟩
theorem un_neg:UnR X (unaryOp .USub) (rU fun i => .int (-i)):=unI fun _ _ _ _ _ q=>neg_int q
end
section
variable {X:Cx} {a b c:Expr} {ta tb tc:TE} {pos:Pos}
theorem fin_bl {pins:List (Addr×Obj)} {σ : St} {H:Hp} {s:Shared} {Q:VK} {k k':Bool} (I:Inv X pins σ H s) (q:Q (.bl k) H) (e:k=k'):EP X pins σ Q (.bool k') s:=by
  subst e
  exact ⟨.bl k,H,I,rfl,q⟩
theorem op_lt:OpR X (compareOp .Lt) (rI0 fun i j => .bl (decide (i<j))):=opB0 fun _ _ _ _ _ _ _ q=>lt_int q
theorem op_le:OpR X (compareOp .LtE) (rI0 fun i j => .bl (decide (i≤j))):=opB0 fun _ _ _ _ _ _ _ q=>le_int q
theorem op_gt:OpR X (compareOp .Gt) (rI0 fun i j => .bl (decide (j<i))):=opB0 fun _ _ _ _ _ _ _ q=>gt_int q
theorem op_isN:OpR X (compareOp .Is) (fun x y H Q=>y = .non∧Q (.bl (decide (x = .non))) H):=by
  intro pins s σ H x y v u Q I rx ry h
  obtain ⟨rfl,q⟩:=h
  cases ry
  refine is_none_gen (fin_bl I q ?_)
  cases x<;>first
    | (cases rx;rfl)
    | (obtain ⟨t,rfl⟩:=rx;rfl)
theorem OpR.or {f:Value→Value→Sem Value} {r r':R2} (h:OpR X f r) (h':OpR X f r'):OpR X f (fun x y H Q=>r x y H Q∨r' x y H Q):=by
  intro pins s σ H x y v u Q I rx ry q
  rcases q with q | q
  · exact h pins s σ H x y v u Q I rx ry q
  · exact h' pins s σ H x y v u Q I rx ry q
theorem nomark (b:Expr) {op:CmpOp} (h:op ≠ .In:=by decide) (h2:op ≠ .NotIn:=by decide):behindInMarks op b=false:=by
  have e1:(op == CmpOp.In)=false:=by cases op<;>first | rfl | exact absurd rfl h
  have e2:(op == CmpOp.NotIn)=false:=by cases op<;>first | rfl | exact absurd rfl h2
  cases b<;>simp [behindInMarks,e1,e2]
theorem pe_cmpR {op:CmpOp} {r:R2} (ho:OpR X (compareOp op) r) (ha:PE X a ta) (hb:PE X b tb) (hm:behindInMarks op b=false):PE X (.Compare a [op] [b] pos) (tOp r ta tb):=by
  intro pins s σ H Q I h
  exact wpAny_Compare1 (binT ha hb I h fun v u s2 x y H2 I2 rx ry q=>ho pins s2 σ H2 x y v u Q I2 rx ry q) hm
def TruV (K:PySem.W.Frag) (x:V) (H:Hp) (k:Bool):Prop :=
  match x with
  | .non=>k=false
  | .bl b=>k=b
  | .int i=>k=(i != 0)
  | .str y=>y.length≤sizeLine∧k=((y.length:Int) != 0)
  | .byt y=>y.size≤sizeLine∧k=((y.size:Int) != 0)
  | .ref p=>(∃ xs,SqL K H p xs∧k = !xs.isEmpty)∨(∃ xs,SqT K H p xs∧k = !xs.isEmpty)∨∃ kvs,H p=some (.dK kvs)∧k = !kvs.isEmpty
  | _=>False
theorem isEmpty_kv {κ : Type} {kvs:List (κ × V)} {vs:List (κ × Value)} (r:KV kvs vs):(!vs.isEmpty) = !kvs.isEmpty:=by
  cases r<;>rfl
theorem isEmpty_of {xs:List V} {its:List Value} (r:Vals xs its):(!its.toArray.isEmpty) = !xs.isEmpty:=by
  cases r<;>simp
theorem line63:(sizeLine:Nat)<2 ^ 63:=by rw [sizeLine_eq];decide
theorem tru_ok:TruR X (fun x H Q => ∃ k,TruV X.K x H k∧Q k H):=by
  intro pins s σ H x v Q I rx h
  obtain ⟨k,e,q⟩:=h
  have hl:=line63
  have hs:sizeLine=16777216:=sizeLine_eq
  cases x with
  | non =>
    cases rx
    have e':k=false:=e
    subst e'
    exact truthy_none ⟨H,I,q⟩
  | bl b =>
    cases rx
    have e':k=b:=e
    subst e'
    exact wpAny_truthy_bool ⟨H,I,q⟩
  | int i =>
    obtain ⟨t,rfl⟩:=rx
    have e':k=(i != 0):=e
    subst e'
    exact PySem.P.truthy_int ⟨H,I,q⟩
  | str y =>
    obtain ⟨t,rfl⟩:=rx
    obtain ⟨hy,e'⟩:y.length≤sizeLine∧k=((y.length:Int) != 0):=e
    subst e'
    exact PySem.P.truthy_str (by omega) ⟨H,I.tok _,q⟩
  | byt y =>
    obtain ⟨t,rfl⟩:=rx
    obtain ⟨hy,e'⟩:y.size≤sizeLine∧k=((y.size:Int) != 0):=e
    subst e'
    exact PySem.W.truthy_bytes (by omega) ⟨H,I.tok _,q⟩
  | ref p =>
    cases rx
    have e':(∃ xs,SqL X.K H p xs∧k = !xs.isEmpty)∨(∃ xs,SqT X.K H p xs∧k = !xs.isEmpty)∨∃ kvs,H p=some (.dK kvs)∧k = !kvs.isEmpty:=e
    rcases e' with ⟨xs,hx,e'⟩ | ⟨xs,hx,e'⟩ | ⟨kvs,hx,e'⟩
    · subst e'
      obtain ⟨its,r,pl,hz⟩:=I.list hx
      have hlen:=r.length
      exact wpAny_truthy_list pl.isList (by simp only [List.size_toArray];omega) ⟨H,I.tok _,by rw [isEmpty_of r];exact q⟩
    · subst e'
      obtain ⟨its,r,pl,hz⟩:=I.tuple hx
      have hlen:=r.length
      exact truthy_tuple pl (by simp only [List.size_toArray];omega) ⟨H,I.tok _,by rw [isEmpty_of r];exact q⟩
    · subst e'
      obtain ⟨hz,hS,vs,r,m⟩:kvs.length≤sizeLine∧(p == sysModules)=false∧∃ vs,KV kvs vs∧s.heap.DictOf (mixKind X.prog X.w) p vs:=I.hok p _ hx
      have hlen:kvs.length=vs.length:=Paired.length r
      exact wpAny_truthy_dict hS m (by omega) ⟨H,I.tok _,by rw [isEmpty_kv r];exact q⟩
  | _=>exact (show False from e).elim
theorem pt_truth (ha:PE X a ta) (he:∀ whole,isTrue a X.env whole=(do let v ← whole;standAt a.pos;holding [v] (truthy v))) :
    PT X a (fun σ H Q=>ta σ H fun x H' => ∃ k,TruV X.K x H' k∧Q k H'):=by
  intro pins s σ H Q I h
  exact isTrue_plain (thn (ha pins s σ H _ I h) fun v s1 ⟨x,H1,I1,r1,q1⟩=>tru_ok pins s1 σ H1 x v Q I1 r1 q1) (he _)
theorem op_add_str:OpR X (binaryOp .Add) (fun x y H Q => ∃ i j,x = .str i∧y = .str j∧i.length+j.length≤sizeLine∧Q (.str (i++j)) H):=by
  intro pins s σ H x y v u Q I rx ry h
  obtain ⟨i,j,rfl,rfl,hz,q⟩:=h
  obtain ⟨t,rfl⟩:=rx
  obtain ⟨t',rfl⟩:=ry
  exact add_str (fun t' tk=>⟨.str (i++j),H,I.tok _,⟨_,rfl⟩,q⟩) hz
theorem vals1 {x:V} {us:List Value} (r:Vals [x] us):∃ u,us = [u]∧RelV x u:=by
  cases r with
  | cons r1 r2=>cases r2;exact ⟨_,rfl,r1⟩
theorem vals2 {x y:V} {us:List Value} (r:Vals [x,y] us):∃ u w',us = [u,w']∧RelV x u∧RelV y w':=by
  cases r with
  | cons r1 r2 =>
    cases r2 with
    | cons r3 r4=>cases r4;exact ⟨_,_,rfl,r1,r3⟩
theorem call_max2 (hc:X.calm=true):CallR X (.builtin "max") (fun xs H Q => ∃ i j,xs = [.int i,.int j]∧Q (.int (if j>i then j else i)) H):=by
  intro pins s σ H xs us Q I r h
  obtain ⟨i,j,rfl,q⟩:=h
  obtain ⟨u,w',rfl,⟨t,rfl⟩,⟨t',rfl⟩⟩:=vals2 r
  refine max_two_ints (I.ok.hd hc) fun h' tk k=>⟨_,H,I.kept k,?_,q⟩
  by_cases hj:j>i
  · rw [if_pos hj,if_pos hj];exact ⟨_,rfl⟩
  · rw [if_neg hj,if_neg hj];exact ⟨_,rfl⟩
theorem call_min2 (hc:X.calm=true):CallR X (.builtin "min") (fun xs H Q => ∃ i j,xs = [.int i,.int j]∧Q (.int (if j<i then j else i)) H):=by
  intro pins s σ H xs us Q I r h
  obtain ⟨i,j,rfl,q⟩:=h
  obtain ⟨u,w',rfl,⟨t,rfl⟩,⟨t',rfl⟩⟩:=vals2 r
  refine min_two_ints (I.ok.hd hc) fun h' tk k=>⟨_,H,I.kept k,?_,q⟩
  by_cases hj:j<i
  · rw [if_pos hj,if_pos hj];exact ⟨_,rfl⟩
  · rw [if_neg hj,if_neg hj];exact ⟨_,rfl⟩
theorem call_int1:CallR X (.type "int") (fun xs H Q=>(∃ i,xs = [.int i]∧Q (.int i) H)∨∃ k,xs = [.bl k]∧Q (.int (if k then 1 else 0)) H):=by
  intro pins s σ H xs us Q I r h
  rcases h with ⟨i,rfl,q⟩ | ⟨k,rfl,q⟩
  · obtain ⟨u,rfl,t,rfl⟩:=vals1 r
    exact call_int_int ⟨.int i,H,I,⟨_,rfl⟩,q⟩
  · obtain ⟨u,rfl,r1⟩:=vals1 r
    cases r1
    exact call_int_bool ⟨.int (if k then 1 else 0),H,I.tok _,⟨_,rfl⟩,q⟩
def LenV (K:PySem.W.Frag) (x:V) (H:Hp) (n:Nat):Prop :=
  match x with
  | .str y=>y.length≤sizeLine∧n=y.length
  | .byt y=>y.size≤sizeLine∧n=y.size
  | .ref p=>(∃ xs,SqL K H p xs∧n=xs.length)∨∃ xs,SqT K H p xs∧n=xs.length
  | _=>False
theorem call_len:CallR X (.builtin "len") (fun xs H Q => ∃ x n,xs = [x]∧LenV X.K x H n∧Q (.int n) H):=by
  intro pins s σ H xs us Q I r h
  obtain ⟨x,n,rfl,e,q⟩:=h
  obtain ⟨u,rfl,rx⟩:=vals1 r
  have hl:=line63
  have hs:sizeLine=16777216:=sizeLine_eq
  cases x with
  | str y =>
    obtain ⟨t,rfl⟩:=rx
    obtain ⟨hy,e'⟩:y.length≤sizeLine∧n=y.length:=e
    subst e'
    exact len_str (by omega) ⟨.int _,H,I.tok _,⟨_,rfl⟩,q⟩
  | byt y =>
    obtain ⟨t,rfl⟩:=rx
    obtain ⟨hy,e'⟩:y.size≤sizeLine∧n=y.size:=e
    subst e'
    exact PySem.W.len_bytes (by omega) ⟨.int _,H,I.tok _,⟨_,rfl⟩,q⟩
  | ref p =>
    cases rx
    have e':(∃ xs,SqL X.K H p xs∧n=xs.length)∨∃ xs,SqT X.K H p xs∧n=xs.length:=e
    rcases e' with ⟨xs,hx,e'⟩ | ⟨xs,hx,e'⟩
    · subst e'
      obtain ⟨its,r',pl,hz⟩:=I.list hx
      have hlen:=r'.length
      exact Calls.call_len_list pl.isList (by simp only [List.size_toArray];omega) ⟨.int xs.length,H,I.tok _,⟨_,by simp only [List.size_toArray];rw [hlen]⟩,q⟩
    · subst e'
      obtain ⟨its,r',pl,hz⟩:=I.tuple hx
      have hlen:=r'.length
      exact len_tuple pl (by simp only [List.size_toArray];omega) ⟨.int xs.length,H,I.tok _,⟨_,by simp only [List.size_toArray];rw [hlen]⟩,q⟩
  | _=>exact (show False from e).elim
end
end L2
namespace L2
open PySem PySem.Spec PyProof.Rows
structure ObjM (h:Heap) (x dx C:Addr) (mA:Str→Option Value):Prop where
  obj:h.get? x=some (PySem.W.instObj C dx)
  ns:h.Ns1 dx mA
  ne:dx≠x
theorem lookIn_ns {h:Heap} {dx:Addr} {mA:Str→Option Value} (n:h.Ns1 dx mA):∃ od,h.get? dx=some od∧∀ name,PySem.W.lookIn name od=some (mA name):=by
  obtain ⟨o,es,ep,ho,hd,hk,_,hm⟩:=n
  refine ⟨o,ho,fun name => ?_⟩
  have e:=hm name
  unfold nsFind findBy at e
  rw [← Array.find?_toList] at e
  unfold PySem.W.lookIn
  rw [hd]
  dsimp only
  split
  · rename_i y q
    rw [q] at e
    exact congrArg some e
  · rename_i q
    rw [q] at e
    have a:es.toList.any (·.refKey)=false:=by
      rw [List.any_eq_false]
      intro y hy
      obtain ⟨z,t,hkey⟩:=hk y (Array.mem_toList_iff.mp hy)
      simp [DictEntry.refKey,hkey]
    have a':¬ es.toList.any (·.refKey)=true:=by rw [a];exact Bool.false_ne_true
    rw [if_neg a']
    exact congrArg some e
theorem ObjM.look {h:Heap} {x dx C:Addr} {mA:Str→Option Value} (I:ObjM h x dx C mA):∃ od,PySem.W.InstAt h x (PySem.W.instObj C dx) C (some od)∧∀ name,PySem.W.lookIn name od=some (mA name) :=
  let ⟨od,ho,hl⟩:=lookIn_ns I.ns
  ⟨od,⟨I.obj,rfl,rfl,ho⟩,hl⟩
section
variable {prog:Program} {w:World} {A:Around} {E:Value→Shared→Prop} {s:Shared} {K:PySem.W.Frag} {x dx C f:Addr} {mA:Str→Option Value} {name:Str} {v:Value}
theorem get_map {expr:Bool} {Q:Value→Shared→Prop} (X:K.In s.heap) (I:ObjM s.heap x dx C mA) (hg:PySem.W.plainGet K C name=true) (hh:PySem.W.hasDictIn K C=true)
    (ha:PySem.W.findIn K (.ref C) name=some none) (hv:mA name=some v) (hv':PySem.W.handedIn v=true) (h:Q v { s with toks:=s.toks+1 }) :
    wpAny (model prog w) A (getAttr (.ref x) name expr) Q E s:=by
  obtain ⟨od,J,hl⟩:=I.look
  exact PySem.W.get_value X J (PySem.W.plainGet_of hg).1 (PySem.W.findObj_own hh ha rfl (by rw [hl,hv])) hv' h
theorem get_meth {pl:Sem Bool} {Q:Value×List Value→Shared→Prop} (X:K.In s.heap) (I:ObjM s.heap x dx C mA) (hg:PySem.W.plainGet K C name=true)
    (hf:PySem.W.findIn K (.ref C) name=some (some (.ref f))) (ht:PySem.W.isFn K (.ref f)=true) (hv:mA name=none) (h:Q (.ref f,[.ref x]) s) :
    wpAny (model prog w) A (getMethod (.ref x) name pl) Q E s:=by
  obtain ⟨od,J,hl⟩:=I.look
  exact PySem.W.method_fn X J (PySem.W.plainGet_of hg).1 (PySem.W.plainGet_of hg).2 hf (beq_iff_eq.mp ht) (by show (PySem.W.lookIn name od).map (·.isSome)=some false;rw [hl,hv];rfl) h
theorem set_map {ns:List Str} {Q:Unit→Shared→Prop} (X:K.In s.heap) (I:ObjM s.heap x dx C mA)
    (hs:PySem.W.findIn K (.ref C) "__setattr__" = some (some (.builtin "object.__setattr__"))) (hp:PySem.W.plainOver K C=true) (ht:PySem.W.takerIn K C name=some none) (hh:PySem.W.hasDictIn K C=true)
    (hw:PySem.Within mA ns) (hsz:ns.length≤sizeLine)
    (h:∀ h',ObjM h' x dx C (fun y=>if y=name then some v else mA y)→Heap.SameBut dx s.heap h'→Q () { s with heap:=h',toks:=s.toks+2 }) :
    wpAny (model prog w) A (setAttr (.ref x) name v) Q E s:=by
  obtain ⟨od,J,hl⟩:=I.look
  refine PySem.W.set_plain X J hs (PySem.W.osa_open (s:={ s with toks:=s.toks+1 }) (r:=none) X J hp ht fun b => ?_)
  obtain ⟨cd,hc,hd'⟩:=PySem.W.any_some hh
  have hx:s.heap.get? x=some ⟨.ref C,some dx,.plain,#[]⟩:=I.obj
  refine wpAny_bind (wpAny_pure (wpAny_bind (wpAny_bind (wpAny_loadPart hx (wpAny_bind (PySem.W.Looks.here (s:={ s with toks:=s.toks+1 }) (PySem.W.looks_clsIn X hc) ?_))))))
  rw [hd']
  refine wpAny_pure (a:=some dx) (wpAny_bind (wpAny_pure (wpAny_bind ?_)))
  refine wpAny_nsSet1 (s:={ s with toks:=s.toks+1 }) I.ns fun h' hn2 hs2 => ?_
  obtain ⟨oD,esD,epD,hoD,hdD,hcD⟩:=hn2.count (PySem.Within.cons name v hw)
  refine wpAny_bind (wpAny_lookBehind hoD (by rw [hdD];exact pastItsLine_dict (Nat.le_trans hcD (by rw [List.length_cons];omega))) ?_)
  exact wpAny_pure (h _ ⟨(hs2.2 _ (Ne.symm I.ne)).trans I.obj,hn2,I.ne⟩ hs2)
theorem make_map {R:Result→Shared→Prop} {vs:List Value} {kw:List (Str×Value)} (X:K.In s.heap) (hm:PySem.W.makesIn K C=true)
    (hi:PySem.W.findIn K (.ref C) "__init__" = some (some (.ref f))) (hf:PySem.W.typeIn K (.ref f)=some (.type "function"))
    (h:codeAny (model prog w) (A.under (.builtin "type.__call__" ⟨.ref C::vs,kw⟩)) (.call (.ref f) ⟨.ref (s.heap.objs.size+1)::vs,kw⟩) (PySem.W.InitBack (s.heap.objs.size+1) R)
      { s with heap:=(s.heap.push PySem.W.emptyDict).push (PySem.W.instObj C s.heap.objs.size) }) :
    codeAny (model prog w) A (.call (.ref C) ⟨vs,kw⟩) R s:=by
  obtain ⟨hh,g,d,t,os⟩:=s
  exact PySem.W.make_core (PySem.W.makes_of X hm) (PySem.W.looks_findIn X hi) (fun self=>PySem.W.bind_fn X self hf) (.inl rfl) h
end
def putF (f:Str) (v:V):List (Str×V)→List (Str×V)
  | [] => [(f,v)]
  | (g,x)::r=>if g=f then (g,v)::r else (g,x)::putF f v r
theorem lookup_putF (f g:Str) (v:V):∀ fs:List (Str×V),(putF f v fs).lookup g=if g=f then some v else fs.lookup g
  | []=>by
    show List.lookup g [(f,v)]=_
    by_cases h:g=f
    · have hb:(g == f)=true:=beq_iff_eq.mpr h
      simp only [List.lookup,hb,if_pos h]
    · have hb:(g == f)=false:=beq_eq_false_iff_ne.mpr h
      simp only [List.lookup,hb,if_neg h]
  | (k,x)::r=>by
    have ih:=lookup_putF f g v r
    rw [show putF f v ((k,x)::r)=(if k=f then (k,v)::r else (k,x)::putF f v r) from rfl]
    by_cases hk:k=f
    · rw [if_pos hk]
      by_cases h:g=k
      · have hb:(g == k)=true:=beq_iff_eq.mpr h
        simp only [List.lookup,hb,if_pos (h.trans hk)]
      · have hb:(g == k)=false:=beq_eq_false_iff_ne.mpr h
        simp only [List.lookup,hb,if_neg (fun e:g=f=>h (e.trans hk.symm))]
    · rw [if_neg hk]
      by_cases h:g=k
      · have hb:(g == k)=true:=beq_iff_eq.mpr h
        simp only [List.lookup,hb,if_neg (fun e:g=f=>hk (h.symm.trans e))]
      · have hb:(g == k)=false:=beq_eq_false_iff_ne.mpr h
        simp only [List.lookup,hb]
        exact ih
theorem keys_putF (f:Str) (v:V):∀ fs:List (Str×V),f∈(putF f v fs).map (·.1)∧∀ g,g∈fs.map (·.1)→g∈(putF f v fs).map (·.1)
  | []=>⟨by simp [putF],fun g h=>by simp at h⟩
  | (k,x)::r=>by
    obtain ⟨i1,i2⟩:=keys_putF f v r
    rw [show putF f v ((k,x)::r)=(if k=f then (k,v)::r else (k,x)::putF f v r) from rfl]
    by_cases hk:k=f
    · rw [if_pos hk]
      subst hk
      exact ⟨by simp,fun g h=>by simpa using h⟩
    · rw [if_neg hk]
      refine ⟨?_,fun g h => ?_⟩
      · rw [List.map_cons]
        exact List.mem_cons_of_mem _ i1
      · rw [List.map_cons] at h ⊢
        rcases List.mem_cons.mp h with e | e
        · exact List.mem_cons.mpr (.inl e)
        · exact List.mem_cons_of_mem _ (i2 g e)
theorem length_putF (f:Str) (v:V):∀ fs:List (Str×V),(putF f v fs).length≤fs.length+1
  | []=>by simp [putF]
  | (k,x)::r=>by
    have ih:=length_putF f v r
    rw [show putF f v ((k,x)::r)=(if k=f then (k,v)::r else (k,x)::putF f v r) from rfl]
    by_cases hk:k=f
    · rw [if_pos hk,List.length_cons,List.length_cons];omega
    · rw [if_neg hk,List.length_cons,List.length_cons];omega
theorem RelO.some_of {v:V} {o:Option Value} (r:RelO (some v) o):∃ u,o=some u∧RelV v u:=by
  cases o with
  | none=>exact (show False from r).elim
  | some u=>exact ⟨u,rfl,r⟩
theorem RelO.none_of {o:Option Value} (r:RelO none o):o=none:=by
  cases o with
  | none=>rfl
  | some u=>exact (show False from r).elim
theorem handed_of {v:V} {u:Value} (r:RelV v u):PySem.W.handedIn u=true:=by
  cases v with
  | non=>cases (show u=Value.none from r);rfl
  | bl b=>cases (show u=Value.bool b from r);rfl
  | int i=>obtain ⟨t,e⟩:=(show ∃ t,u=Value.int i t from r);cases e;rfl
  | str x=>obtain ⟨t,e⟩:=(show ∃ t,u=Value.str x t from r);cases e;rfl
  | byt b=>obtain ⟨t,e⟩:=(show ∃ t,u=Value.bytes b t from r);cases e;rfl
  | flt b=>obtain ⟨t,e⟩:=(show ∃ t,u=Value.float b t from r);cases e;rfl
  | ref a=>cases (show u=Value.ref a from r);rfl
  | ty n=>cases (show u=Value.type n from r);rfl
section
variable {P:Program} {w:World} {H H':Hp} {h h':Heap} {a C dx:Addr} {fs fs':List (Str×V)}
theorem ins_get (hok:HOk P w H h) (e:H a=some (.ins C dx fs)):∃ mA,ObjM h a dx C mA∧(∀ f,RelO (fs.lookup f) (mA f))∧PySem.Within mA (fs.map (·.1))∧fs.length≤1000∧H dx=some (.own a):=by
  obtain ⟨d,z,ne,ob,mA,n,r,q⟩:=(show ObjOk P w H h a (.ins C dx fs) from hok a _ e)
  exact ⟨mA,⟨ob,n,ne⟩,r,q,z,d⟩
end
structure Cls (K:PySem.W.Frag) (C:Addr):Prop where
  pg:PySem.W.plainGet K C Str.empty=true
  hd:PySem.W.hasDictIn K C=true
  po:PySem.W.plainOver K C=true
  sa:PySem.W.findIn K (.ref C) "__setattr__" = some (some (.builtin "object.__setattr__"))
theorem Cls.get {K:PySem.W.Frag} {C:Addr} (c:Cls K C) (f:Str):PySem.W.plainGet K C f=true:=c.pg
def NoAttr (K:PySem.W.Frag) (C:Addr) (f:Str):Prop:=PySem.W.findIn K (.ref C) f=some none
theorem NoAttr.taker {K:PySem.W.Frag} {C:Addr} {f:Str} (n:NoAttr K C f):PySem.W.takerIn K C f=some none:=by
  unfold PySem.W.takerIn
  rw [show PySem.W.findIn K (.ref C) f=some none from n]
  rfl
structure Meth (K:PySem.W.Frag) (C:Addr) (m:Str) (f:Addr):Prop where
  at_:PySem.W.findIn K (.ref C) m=some (some (.ref f))
  fn:PySem.W.isFn K (.ref f)=true
  kp:PySem.W.keepIn K (.ref f)=true
section
variable {X:Cx} {pins:List (Addr×Obj)} {σ : St} {H:Hp} {s:Shared} {a C dx:Addr} {fs:List (Str×V)} {f:Str} {v:V} {A:Around} {E:Value→Shared→Prop}
theorem getattr_ok {b:Bool} {Q:Value→Shared→Prop} (I:Inv X pins σ H s) (e:H a=some (.ins C dx fs)) (c:Cls X.K C) (n:NoAttr X.K C f) (l:fs.lookup f=some v)
    (h:∀ u s',Inv X pins σ H s'→RelV v u→Q u s'):wpAny (model X.prog X.w) A (getAttr (.ref a) f b) Q E s:=by
  obtain ⟨mA,O,r,_,_,_⟩:=ins_get I.hok e
  obtain ⟨u,hu,ru⟩:=RelO.some_of (v:=v) (o:=mA f) (by rw [← l];exact r f)
  exact get_map I.kIn O (c.get f) c.hd n hu (handed_of ru) (h u _ (I.tok _) ru)
theorem getmeth_ok {m:Str} {g:Addr} {pl:Sem Bool} {Q:Value×List Value→Shared→Prop} (I:Inv X pins σ H s) (e:H a=some (.ins C dx fs)) (c:Cls X.K C) (k:Meth X.K C m g) (l:fs.lookup m=none)
    (h:Q (.ref g,[.ref a]) s):wpAny (model X.prog X.w) A (getMethod (.ref a) m pl) Q E s:=by
  obtain ⟨mA,O,r,_,_,_⟩:=ins_get I.hok e
  have hn:mA m=none:=RelO.none_of (by rw [← l];exact r m)
  exact get_meth I.kIn O (c.get m) k.at_ k.fn hn h
theorem setattr_ok {y:V} {u:Value} {Q:Unit→Shared→Prop} (I:Inv X pins σ H s) (e:H a=some (.ins C dx fs)) (c:Cls X.K C) (n:NoAttr X.K C f) (hl:fs.length<1000) (ry:RelV y u)
    (h:∀ s',Inv X pins σ (upd H a (.ins C dx (putF f y fs))) s'→Q () s'):wpAny (model X.prog X.w) A (setAttr (.ref a) f u) Q E s:=by
  obtain ⟨mA,O,r,wi,_,ho⟩:=ins_get I.hok e
  have hz:(fs.map (·.1)).length≤sizeLine:=by rw [List.length_map,sizeLine_eq];omega
  refine set_map I.kIn O c.sa c.po n.taker c.hd wi hz fun h' O' sb=>h _ ?_
  have hd:∃ o,h'.get? dx=some o:=let ⟨o,_,_,e',_⟩:=O'.ns;⟨o,e'⟩
  refine I.write (x:=a) (e:=dx) (by rw [e];exact True.intro) (.inr ho) (fun b q hb z=>(sb.2 b hb).trans z) hd ?_
  refine ⟨by rw [upd_ne O.ne];exact ho,?_,O.ne,O'.obj,_,O'.ns,fun g => ?_,fun g hg => ?_⟩
  · have:=length_putF f y fs;omega
  · show RelO ((putF f y fs).lookup g) (if g=f then some u else mA g)
    rw [lookup_putF]
    by_cases q:g=f
    · rw [if_pos q,if_pos q];exact ry
    · rw [if_neg q,if_neg q];exact r g
  · by_cases q:g=f
    · rw [q];exact (keys_putF f y fs).1
    · refine (keys_putF f y fs).2 g (wi g fun z=>hg ?_)
      show (if g=f then some u else mA g)=none
      rw [if_neg q];exact z
theorem Inv.made (I:Inv X pins σ H s):Inv X pins σ (upd (upd H s.heap.objs.size (.own (s.heap.objs.size+1))) (s.heap.objs.size+1) (.ins C s.heap.objs.size []))
    { s with heap:=(s.heap.push PySem.W.emptyDict).push (PySem.W.instObj C s.heap.objs.size) }:=by
  have e1:(s.heap.push PySem.W.emptyDict).get? s.heap.objs.size=some PySem.W.emptyDict:=Heap.get?_push_size s.heap rfl
  have e2:((s.heap.push PySem.W.emptyDict).push (PySem.W.instObj C s.heap.objs.size)).get? (s.heap.objs.size+1)=some (PySem.W.instObj C s.heap.objs.size):=by
    have:=Heap.get?_push_size (s.heap.push PySem.W.emptyDict) (o:=PySem.W.instObj C s.heap.objs.size) rfl
    rwa [Heap.size_push] at this
  have e3:(s.heap.push PySem.W.emptyDict).Ns s.heap.objs.size (fun _=>none):=⟨PySem.W.emptyDict,#[],_,e1,rfl,(fun e he=>absurd he (by simp)),fun _=>rfl⟩
  have I1:=I.laid (a:=s.heap.objs.size) (o:=.own (s.heap.objs.size+1)) (h':=s.heap.push PySem.W.emptyDict) (t':=s.toks) (fun b u q=>Heap.get?_push_of_some _ q) (Nat.le_refl _) ⟨_,e1⟩
  refine I1.laid (a:=s.heap.objs.size+1) (o:=.ins C s.heap.objs.size []) (t':=s.toks) (fun b u q=>Heap.get?_push_of_some _ q) (Nat.le_of_eq (Heap.size_push _ _)) ?_
  have ne:s.heap.objs.size≠s.heap.objs.size+1:=Nat.ne_of_lt (Nat.lt_succ_self _)
  refine ⟨by rw [upd_ne ne,upd_same],Nat.zero_le _,ne,e2,fun _=>none,(Heap.Ns1.of_empty e3).at fun o q=>Heap.get?_push_of_some _ q,fun _=>True.intro,fun y hy=>absurd rfl hy⟩
theorem attr_of {prog:Program} {w:World} {env:Env} {e:Expr} {f:Str} {pos:Pos} {s:Shared} {Q:Value→Shared→Prop} (hb:attributeBase e f env (eval e env)=eval e env)
    (h:wpAny (model prog w) A (eval e env) (fun o s₁ => wpAny (model prog w) A (getAttr o f true) Q E s₁) E s):wpAny (model prog w) A (eval (.Attribute e f pos) env) Q E s :=
  Attribute_any_ h (by rw [arm_eval_Attribute,hb])
end
def tFld (K:PySem.W.Frag) (ta:TE) (f:Str):TE:=fun σ H Q=>ta σ H fun x H1 => ∃ a C dx fs v,x = .ref a∧H1 a=some (.ins C dx fs)∧Cls K C∧NoAttr K C f∧fs.lookup f=some v∧Q v H1
def sFld (K:PySem.W.Frag) (ta tv:TE) (f:Str):TS:=fun D σ H=>tv σ H fun y H1=>ta σ H1 fun x H2 => ∃ a C dx fs,x = .ref a∧H2 a=some (.ins C dx fs)∧Cls K C∧NoAttr K C f∧fs.length<1000 ∧
  D.nx σ (upd H2 a (.ins C dx (putF f y fs)))
section
variable {X:Cx} {o e value:Expr} {f:Str} {pos pos' tpos:Pos} {ta tv:TE}
theorem pe_fld (he:PE X e ta) (hb:attributeBase e f X.env (eval e X.env)=eval e X.env):PE X (.Attribute e f pos) (tFld X.K ta f):=by
  intro pins s σ H Q I h
  refine attr_of hb (thn (he pins s σ H _ I h) fun u s1 ⟨x,H1,I1,rx,a,C,dx,fs,v,ex,ea,c,n,l,q⟩ => ?_)
  subst ex
  obtain rfl:u=Value.ref a:=rx
  exact getattr_ok I1 ea c n l fun u' s2 I2 ru=>⟨v,H1,I2,ru,q⟩
theorem ps_fld (ha:PE X o ta) (hv:PE X value tv) (hs:swapsWith value (some (.Attribute o f pos')) pos.line X.env=pure false):PS X (.Assign [.Attribute o f pos'] value pos) (sFld X.K ta tv f):=by
  intro pins s σ H D I h
  refine plainObj_wpAny_Assign_Attribute (thn (hv pins s σ H _ I h) fun u s1 ⟨y,H1,I1,ry,q⟩=>thn (ha pins s1 σ H1 _ I1 q) fun ov s2 ⟨x,H2,I2,rx,a,C,dx,fs,ex,ea,c,n,l,q2⟩ => ?_) hs
  subst ex
  obtain rfl:ov=Value.ref a:=rx
  exact setattr_ok I2 ea c n l ry fun s3 I3=>⟨σ,_,I3,q2⟩
end
section
variable {X:Cx} {pins:List (Addr×Obj)} {σ : St} {H:Hp} {s:Shared} {A:Around} {E:Value→Shared→Prop} {Q:Value→Shared→Prop} {c:Value} {b:Bool}
inductive TyOf (K:PySem.W.Frag) (H:Hp):V→Value→Prop where
  | non:TyOf K H .non (.type "NoneType")
  | bl (x:Bool):TyOf K H (.bl x) (.type "bool")
  | int (i:Int):TyOf K H (.int i) (.type "int")
  | str (x:Str):TyOf K H (.str x) (.type "str")
  | flt (x:UInt64):TyOf K H (.flt x) (.type "float")
  | lst {a:Addr} {xs:List V} (e:H a=some (.lst xs)):TyOf K H (.ref a) (.type "list")
  | frz {a:Addr} {o:Obj} {xs:List V} (e:H a=some (.frz o (.lst xs))):TyOf K H (.ref a) (.type "list")
  | tup {a:Addr} {xs:List V} (e:H a=some (.tup xs)):TyOf K H (.ref a) (.type "tuple")
  | dK {a:Addr} {kvs:List (Key×V)} (e:H a=some (.dK kvs)):TyOf K H (.ref a) (.type "dict")
  | dT {a:Addr} {kvs:List (List Key×V)} (e:H a=some (.dT kvs)):TyOf K H (.ref a) (.type "dict")
  | ins {a C dx:Addr} {fs:List (Str×V)} (e:H a=some (.ins C dx fs)) (cl:Cls K C) (ha:PySem.W.findIn K (.ref C) "__class__" = some (some (.builtin "object.__class__")))
      (hn:PySem.W.specialIn K (.builtin "object.__class__") "__get__" = some (some (.builtin "getset_descriptor.__get__"))) (htk:PySem.W.takesIn K (.builtin "object.__class__")=some true)
      (hm:PySem.W.mroIn K C (.type "object")=some true):TyOf K H (.ref a) (.ref C)
theorem isinst_ok {x:V} {u t:Value} (I:Inv X pins σ H s) (rx:RelV x u) (ty:TyOf X.K H x t) (e:PySem.W.kitOne X.K t c=some b) (h:∀ tk,Q (.bool b) { s with toks:=tk }) :
    wpAny (model X.prog X.w) A (call (.builtin "isinstance") [u,c]) Q E s:=by
  cases ty with
  | non=>cases (show u=Value.none from rx);exact PySem.W.kia_one PySem.W.kitx_none I.kIn True.intro e (fun z=>nomatch z) h
  | bl y=>cases (show u=Value.bool y from rx);exact PySem.W.kia_one PySem.W.kitx_bool I.kIn True.intro e (fun z=>nomatch z) h
  | int i=>obtain ⟨t,q⟩:=(show ∃ t,u=Value.int i t from rx);cases q;exact PySem.W.kia_one PySem.W.kitx_int I.kIn True.intro e (fun z=>nomatch z) h
  | str y=>obtain ⟨t,q⟩:=(show ∃ t,u=Value.str y t from rx);cases q;exact PySem.W.kia_one PySem.W.kitx_str I.kIn True.intro e (fun z=>nomatch z) h
  | flt y=>obtain ⟨t,q⟩:=(show ∃ t,u=Value.float y t from rx);cases q;exact PySem.W.kia_one PySem.W.kitx_float I.kIn True.intro e (fun z=>nomatch z) h
  | @lst a xs ea =>
    cases (show u=Value.ref a from rx)
    obtain ⟨_,_,n,_,h1⟩:=(show ObjOk X.prog X.w H s.heap a (.lst xs) from I.hok a _ ea)
    exact PySem.W.kia_one PySem.W.kitx_list I.kIn ⟨_,h1,rfl⟩ e (fun z=>nomatch z) h
  | @frz a ob xs ea =>
    cases (show u=Value.ref a from rx)
    obtain ⟨_,_,_,n,_,h1⟩:=(show ObjOk X.prog X.w H s.heap a (.frz ob (.lst xs)) from I.hok a _ ea)
    exact PySem.W.kia_one PySem.W.kitx_list I.kIn ⟨_,h1,rfl⟩ e (fun z=>nomatch z) h
  | @tup a xs ea =>
    cases (show u=Value.ref a from rx)
    obtain ⟨_,_,_,p⟩:=(show ObjOk X.prog X.w H s.heap a (.tup xs) from I.hok a _ ea)
    obtain ⟨o,h1,h2,_⟩:=p
    exact PySem.W.kia_one PySem.W.kitx_tuple I.kIn ⟨o,h1,h2⟩ e (fun z=>nomatch z) h
  | @dK a kvs ea =>
    cases (show u=Value.ref a from rx)
    obtain ⟨_,_,vs,_,p⟩:=(show ObjOk X.prog X.w H s.heap a (.dK kvs) from I.hok a _ ea)
    obtain ⟨o,es,ep,h1,h2,_⟩:=p
    exact PySem.W.kia_one PySem.W.kitx_dict I.kIn ⟨o,h1,h2.1⟩ e (fun z=>nomatch z) h
  | @dT a kvs ea =>
    cases (show u=Value.ref a from rx)
    obtain ⟨_,_,xs,_,o,es,ep,h1,h2,_⟩:=(show ObjOk X.prog X.w H s.heap a (.dT kvs) from I.hok a _ ea)
    exact PySem.W.kia_one PySem.W.kitx_dict I.kIn ⟨o,h1,h2.1⟩ e (fun z=>nomatch z) h
  | @ins a C dx fs ea cl ha hn htk hm =>
    cases (show u=Value.ref a from rx)
    obtain ⟨mA,O,_⟩:=ins_get I.hok ea
    obtain ⟨od,J,_⟩:=O.look
    exact PySem.W.kia_one (PySem.W.kitx_own (cl.get _) cl.hd ha hn htk hm) I.kIn J e (fun z=>nomatch z) h
end
end L2
namespace L2
open PySem PySem.Spec PyProof.Rows
structure Room (k:Nat) (A:Around):Prop where
  hd:A.handled=none
  dp:A.depth+3*k+5<recursionLimit
  un:A.units+16*k+200<cLine
theorem Room.mono {j k:Nat} {A:Around} (r:Room k A) (h:j≤k):Room j A:=⟨r.hd,by have:=r.dp;omega,by have:=r.un;omega⟩
theorem Room.deeper {k:Nat} {A:Around} (r:Room (k+1) A) (env:Env):Room k (A.deeper env) :=
  ⟨r.hd,by have:=r.dp;show A.depth+1+3*k+5<_;omega,by have:=r.un;show A.units+3+16*k+200<_;omega⟩
theorem make_depth {A:Around} {C:Addr} {us:List Value} {kw:List (Str×Value)}:(A.under (.builtin "type.__call__" ⟨.ref C::us,kw⟩)).depth=A.depth+1:=by
  first | rfl | simp [Around.under,Code.weight,Code.isCreation,Code.isGuard,Code.isCaller,Code.frames,Code.isFrame,guardIds]
theorem make_units {A:Around} {C:Addr} {us:List Value} {kw:List (Str×Value)}:(A.under (.builtin "type.__call__" ⟨.ref C::us,kw⟩)).units=A.units+1:=by
  first | rfl | simp [Around.under,Code.cUnits,Code.frames,Code.isFrame]
theorem Room.make {k:Nat} {A:Around} (r:Room (k+1) A) (C:Addr) (us:List Value) (kw:List (Str×Value)):Room k (A.under (.builtin "type.__call__" ⟨.ref C::us,kw⟩)) :=
  ⟨r.hd,by have:=r.dp;rw [make_depth];omega,by have:=r.un;rw [make_units];omega⟩
theorem Room.depth {k:Nat} {A:Around} (r:Room k A):A.depth<recursionLimit:=by have:=r.dp;omega
theorem Room.units {k:Nat} {A:Around} (r:Room k A):A.units+64<cLine:=by have:=r.un;omega
def tNil:TA:=fun _ H Q=>Q [] H
def tCons (ta:TE) (tr:TA):TA:=fun σ H Q=>ta σ H fun x H1=>tr σ H1 fun xs H2=>Q (x::xs) H2
section
variable {X:Cx} {e:Expr} {es:List Expr} {te:TE} {t:TA} {pos:Pos}
theorem pa_nil:PA X [] tNil:=fun _ _ _ _ H Q I h=>Calls.spliced_nil ⟨[],H,I,.nil,h⟩
theorem pa_cons (ha:PE X e te) (hr:PA X es t) (hs:starEach (e::es) X.env=(false,eval e X.env)::starEach es X.env:=by rfl):PA X (e::es) (tCons te t):=by
  intro pos pins s σ H Q I h
  rw [hs]
  show wpAny _ _ (spliced ((false,eval e X.env)::backTo pos (starEach es X.env))) _ _ s
  refine Calls.spliced_cons (thn (ha pins s σ H _ I h) fun u s1 ⟨x,H1,I1,r1,q1⟩ => ?_)
  exact thn (hr pos pins s1 σ H1 _ I1 q1) fun us s2 ⟨xs,H2,I2,r2,q2⟩=>⟨x::xs,H2,I2,.cons r1 r2,q2⟩
def tTup (t:TA):TE:=fun σ H Q=>t σ H fun xs H1=>xs.length≤sizeLine∧∀ p,H1 p=none→Q (.ref p) (upd H1 p (.tup xs))
def tLst (t:TA):TE:=fun σ H Q=>t σ H fun xs H1=>xs.length≤sizeLine∧∀ p,H1 p=none→Q (.ref p) (upd H1 p (.lst xs))
theorem pe_tup {x1} (h:PA X es t):PE X (.Tuple es x1 pos) (tTup t):=by
  intro pins s σ H Q I hq
  refine wpAny_Tuple_spliced (thn (h pos pins s σ H _ I hq) fun us s1 ⟨xs,H1,I1,r,z,q⟩=>⟨by rw [← r.length];exact z,?_⟩)
  have hf:H1 s1.heap.objs.size=none:=I1.hok.fresh (Nat.le_refl _)
  refine ⟨.ref s1.heap.objs.size,upd H1 s1.heap.objs.size (.tup xs),I1.laid (t':=s1.toks) (fun b u e=>Heap.get?_push_of_some _ e) (Nat.le_refl _) ?_,rfl,q _ hf⟩
  exact ⟨z,us,r,⟨_,Heap.get?_push_size _ rfl,rfl,_,rfl⟩⟩
theorem pe_lst (h:PA X es t):PE X (.List es pos) (tLst t):=by
  intro pins s σ H Q I hq
  refine wpAny_List_spliced (thn (h pos pins s σ H _ I hq) fun us s1 ⟨xs,H1,I1,r,z,q⟩=>⟨by rw [← r.length];exact z,?_⟩)
  have hf:H1 s1.heap.objs.size=none:=I1.hok.fresh (Nat.le_refl _)
  refine ⟨.ref s1.heap.objs.size,upd H1 s1.heap.objs.size (.lst xs),I1.laid (t':=s1.toks) (fun b u e=>Heap.get?_push_of_some _ e) (Nat.le_refl _) ?_,rfl,q _ hf⟩
  exact ⟨z,us,0,r,Heap.get?_push_size _ rfl⟩
end
abbrev Sp:=List V→Hp→VK→XK→Prop
abbrev CXT:=List Env→Hp→Shared→XK→Value→Shared→Prop
structure Env0 (P:Program) (w:World) (K:PySem.W.Frag) (mg:Str→Option Value) (base:Heap) (A:Around) (outer:List Env) (s:Shared) (H:Hp):Prop where
  frames:A.frames=some outer
  mod:Mod K mg base
  bs:∀ b o,base.get? b=some o→s.heap.get? b=some o∧H b=none
  bsz:base.objs.size≤s.heap.objs.size
  funs:s.heap.FunFrames base outer
  frf:∀ b∈frs outer,H b=none
  hok:HOk P w H s.heap
  bare:AllBare s.gens
def CE (outer:List Env) (P:Program) (w:World) (H:Hp) (s:Shared) (Q:VK) (u:Value) (s':Shared):Prop :=
  ∃ v H',s'.os=s.os∧AllBare s'.gens∧Un (frs outer) [] H H' s.heap s'.heap∧HOk P w H' s'.heap∧RelV v u∧Q v H'
def CR (CX:CXT) (outer:List Env) (P:Program) (w:World) (H:Hp) (s:Shared) (Q:VK) (E:XK) (r:Result) (s':Shared):Prop :=
  match r with
  | .ok (.ret u)=>CE outer P w H s Q u s'
  | .ok _=>False
  | .error e=>CX outer H s E e s'
structure FnOk (P:Program) (w:World) (K:PySem.W.Frag) (mg:Str→Option Value) (base:Heap) (CX:CXT) (k:Nat) (f:Addr) (fd:FuncData) (ps:List Str) (sp:Sp):Prop where
  len:∀ vs H Q E,sp vs H Q E→vs.length=ps.length
  run:∀ (A:Around) (outer:List Env) (s:Shared) (H:Hp) (args:Args) (us:List Value) (vs:List V) (Q:VK) (E:XK),Room k A→Env0 P w K mg base A outer s H→BindsTo s fd args (ps.zip us)→Vals vs us→sp vs H Q E →
    codeAny (model P w) A (.call (.ref f) args) (CR CX outer P w H s Q E) s
theorem FnOk.mono {P:Program} {w:World} {K:PySem.W.Frag} {mg:Str→Option Value} {base:Heap} {CX:CXT} {j k:Nat} {f:Addr} {fd:FuncData} {ps:List Str} {sp:Sp} (F:FnOk P w K mg base CX j f fd ps sp) (h:j≤k) :
    FnOk P w K mg base CX k f fd ps sp:=⟨F.len,fun A outer s H args us vs Q E hr=>F.run A outer s H args us vs Q E (hr.mono h)⟩
theorem FnOk.imp {P:Program} {w:World} {K:PySem.W.Frag} {mg:Str→Option Value} {base:Heap} {CX:CXT} {k:Nat} {f:Addr} {fd:FuncData} {ps:List Str} {sp sp':Sp} (F:FnOk P w K mg base CX k f fd ps sp)
    (h:∀ vs H Q E,sp' vs H Q E→sp vs H Q E):FnOk P w K mg base CX k f fd ps sp' :=
  ⟨fun vs H Q E q=>F.len vs H Q E (h _ _ _ _ q),fun A outer s H args us vs Q E hr he hb hv hs=>F.run A outer s H args us vs Q E hr he hb hv (h _ _ _ _ hs)⟩
theorem Env0.make {P:Program} {w:World} {K:PySem.W.Frag} {mg:Str→Option Value} {base:Heap} {A:Around} {outer:List Env} {s:Shared} {H:Hp} (e:Env0 P w K mg base A outer s H) (C:Addr) (us:List Value) (kw:List (Str×Value)) :
    Env0 P w K mg base (A.under (.builtin "type.__call__" ⟨.ref C::us,kw⟩)) outer s H:=⟨by first | exact e.frames | (simpa [Around.under,Code.envs,Code.isFrame,pushEnvs] using e.frames),e.mod,e.bs,e.bsz,e.funs,e.frf,e.hok,e.bare⟩
section
variable {X:Cx} {pins:List (Addr×Obj)} {σ : St} {H:Hp} {s s':Shared}
theorem Inv.env0 (I:Inv X pins σ H s):Env0 X.prog X.w X.K X.mg X.base X.A X.stack s H :=
  ⟨I.ok.frames,I.ok.mod,I.bs,Nat.le_trans I.ok.bsz I.sz,I.stack,I.stkFree,I.hok,I.bare⟩
theorem Inv.after {Q:VK} {u:Value} (I:Inv X pins σ H s) (h:CE X.stack X.prog X.w H s Q u s'):EP X pins σ Q u s':=by
  obtain ⟨v,H',os,bare,un,hok,r,q⟩:=h
  obtain ⟨hh,g,d,t,os'⟩:=s'
  obtain rfl:os'=s.os:=os
  exact ⟨v,H',I.call (h':=hh) (g':=g) (d':=d) (t':=t) (ch:=[]) un hok bare (fun b z=>absurd z (by simp)),r,q⟩
end
def Binds (K:PySem.W.Frag) (fd:FuncData) (ps:List Str) (ds:List Value):Prop :=
  ∀ (s:Shared) (us:List Value),K.In s.heap→(us++ds).length=ps.length→BindsTo s fd ⟨us,[]⟩ (ps.zip (us++ds))
theorem Binds.all {K:PySem.W.Frag} {fd:FuncData} {ps:List Str} (h:∀ us:List Value,us.length=ps.length→bindArgs fd ⟨us,[]⟩=pure (ps.zip us)):Binds K fd ps []:=fun s us _ hl=>by
  rw [List.append_nil] at hl ⊢
  exact .of_eq (h us hl)
section
variable {X:Cx} {CX:CXT} {k:Nat} {f C:Addr} {fd:FuncData} {ps:List Str} {sp:Sp} {dvs:List V} {ds:List Value} {E:XK} {x m:Str} {p pos apos:Pos} {e o:Expr} {es:List Expr} {ta:TE} {t:TA}
structure Mk (K:PySem.W.Frag) (C f:Addr):Prop where
  makes:PySem.W.makesIn K C=true
  init:PySem.W.findIn K (.ref C) "__init__" = some (some (.ref f))
  fn:PySem.W.isFn K (.ref f)=true
  kp:PySem.W.keepIn K (.ref C)=true
end
section
variable {X:Cx} {CX:CXT} {k:Nat} {f C:Addr} {fd:FuncData} {ps ks:List Str} {sp:Sp} {E:XK} {x m:Str} {p pos apos kpos:Pos} {e o:Expr} {es:List Expr} {kws:List Keyword} {te ta:TE} {t tk:TA} {nm:Option Str}
variable {g:List Value→List Value→List Value} {gV:List V→List V→List V}
end
structure FnScope (N P:List Str) (sc:Scope):Prop where
  kind:sc.kind = .function
  co:sc.isCoroutine=false
  gen:sc.isGenerator=false
  nd:N.Nodup
  pre:N.take P.length=P
  par:∀ x∈P,sc.names.lookup x=some .local∨sc.names.lookup x=some .cell
  nofree:∀ y∈sc.names,y.2 ≠ .free
theorem bindL_out {kindOf:Str→Option NameKind} {x:Str}:∀ {binds:List (Str×Value)} {m:Str→Option Value},(∀ v,(x,v)∉binds)→bindL kindOf binds m x=m x
  | [],_,_=>rfl
  | (n,v)::r,m,h=>by
    unfold bindL
    rw [bindL_out fun w hw=>h w (List.mem_cons_of_mem _ hw)]
    split
    · have:x≠n:=by rintro rfl;exact h v List.mem_cons_self
      simp [this]
    · rfl
theorem bindC_out {kindOf:Str→Option NameKind} {x:Str}:∀ {binds:List (Str×Value)} {m:Str→Option Value},(∀ v,(x,v)∉binds)→bindC kindOf binds m x=m x
  | [],_,_=>rfl
  | (n,v)::r,m,h=>by
    unfold bindC
    rw [bindC_out fun w hw=>h w (List.mem_cons_of_mem _ hw)]
    split
    · rfl
    · have:x≠n:=by rintro rfl;exact h v List.mem_cons_self
      simp [this]
theorem bindL_get {kindOf:Str→Option NameKind} {x:Str} {v:Value}:∀ {P:List Str} {vs:List Value} {i:Nat} {m:Str→Option Value},P.Nodup→P[i]? = some x→vs[i]? = some v→kindOf x=some .local →
    bindL kindOf (P.zip vs) m x=some v
  | [],_,_,_,_,h,_,_=>by simp at h
  | _::_,[],_,_,_,_,h,_=>by simp at h
  | p::P,w::vs,0,m,nd,h1,h2,hk=>by
    simp at h1 h2;subst h1;subst h2
    show bindL kindOf ((p,w)::P.zip vs) m p=_
    unfold bindL
    rw [bindL_out fun v hv=>(List.nodup_cons.mp nd).1 (List.of_mem_zip hv).1,if_pos hk]
    simp
  | p::P,w::vs,i+1,m,nd,h1,h2,hk=>by
    show bindL kindOf ((p,w)::P.zip vs) m x=_
    unfold bindL
    exact bindL_get (i:=i) (List.nodup_cons.mp nd).2 (by simpa using h1) (by simpa using h2) hk
theorem bindC_get {kindOf:Str→Option NameKind} {x:Str} {v:Value}:∀ {P:List Str} {vs:List Value} {i:Nat} {m:Str→Option Value},P.Nodup→P[i]? = some x→vs[i]? = some v→kindOf x≠some .local →
    bindC kindOf (P.zip vs) m x=some v
  | [],_,_,_,_,h,_,_=>by simp at h
  | _::_,[],_,_,_,_,h,_=>by simp at h
  | p::P,w::vs,0,m,nd,h1,h2,hk=>by
    simp at h1 h2;subst h1;subst h2
    show bindC kindOf ((p,w)::P.zip vs) m p=_
    unfold bindC
    rw [bindC_out fun v hv=>(List.nodup_cons.mp nd).1 (List.of_mem_zip hv).1,if_neg hk]
    simp
  | p::P,w::vs,i+1,m,nd,h1,h2,hk=>by
    show bindC kindOf ((p,w)::P.zip vs) m x=_
    unfold bindC
    exact bindC_get (i:=i) (List.nodup_cons.mp nd).2 (by simpa using h1) (by simpa using h2) hk
def start (N:List Str) (vs:List V):St:=vs.map some++List.replicate (N.length-vs.length) none
def cxOf (CX:CXT) (P:Program) (w:World) (K:PySem.W.Frag) (mg:Str→Option Value) (base:Heap) (N:List Str) (qual:Str) (scope:Scope) (f:Addr) (cd:Value) (A:Around) (outer:List Env) (s:Shared) (H:Hp) (E:XK):Cx where
  prog:=P
  w:=w
  K:=K
  mg:=mg
  base:=base
  A:=A.deeper (envOfC qual scope s.heap.objs.size f cd)
  N:=N
  s₀ := s
  H₀ := H
  env:=envOfC qual scope s.heap.objs.size f cd
  outer:=outer
  stack:=envOfC qual scope s.heap.objs.size f cd::outer
  ex:=[]
  calm:=true
  fn:=fun _=>true
  pn:=[]
  xe:=fun e s'=>wpAny (model P w) (A.deeper (envOfC qual scope s.heap.objs.size f cd)) (leaving (envOfC qual scope s.heap.objs.size f cd) e) (fun _ s''=>CX outer H s E e s'') (fun e' s''=>CX outer H s E e' s'') s'
theorem cell_has {sc:Scope} {n:Nat} {x:Str} (h:sc.names.lookup x=some .cell):∃ c,(cellsFrom n sc.names []).lookup x=some c:=by
  have q:=PySem.W.cellsFrom_some sc.names n [] (.inl h)
  exact Option.isSome_iff_exists.mp q
theorem inv_start {CX:CXT} {P:Program} {w:World} {K:PySem.W.Frag} {mg:Str→Option Value} {base:Heap} {N ps:List Str} {qual:Str} {scope:Scope} {f:Addr} {cd:Value} {A:Around} {outer:List Env} {s s1:Shared} {H:Hp} {E:XK} {us:List Value} {vs:List V}
    (S:FnScope N ps scope) (hd:A.handled=none) (e0:Env0 P w K mg base A outer s H) (hl:vs.length=ps.length) (r:Vals vs us)
    (x:InCallC s s.heap.objs.size (bindL (envOfC qual scope s.heap.objs.size f cd).kindOf (ps.zip us) fun _=>none) (cellsFrom (s.heap.objs.size+1) scope.names []) (bindC (envOfC qual scope s.heap.objs.size f cd).kindOf (ps.zip us) fun _=>none) s1) :
    Inv (cxOf CX P w K mg base N qual scope f cd A outer s H E) [] (start N vs) H s1:=by
  have hpl:ps.length≤N.length:=by have:=congrArg List.length S.pre;rw [List.length_take] at this;omega
  obtain ⟨h1,tk,rfl,hk⟩:=x.done
  have noA:∀ b:Addr,b∉(cxOf CX P w K mg base N qual scope f cd A outer s H E).ex:=fun b z=>absurd (show b∈([]:List Addr) from z) (by simp)
  refine ⟨⟨e0.mod,S.kind,rfl,rfl,Nat.le_refl _,fun y z c h1 h2 => ?_,fun y hy => ?_,fun y c _ h => ?_,fun _=>hd,Around.frames_deeper e0.frames,.inr ⟨rfl,rfl⟩,fun b z=>absurd z (noA b),e0.bs,e0.bsz,fun b _ _=>noA b,fun b z=>absurd z (noA b),e0.funs,e0.frf⟩,
    rfl,e0.bare,Un.kept hk,⟨_,x.toInCall.ns,fun i y v h1 h2 h3 => ?_⟩,fun y c h=>⟨_,x.cell y c h⟩,e0.hok.fresh (Nat.le_refl _),fun y c h => ?_,fun p hp=>absurd (show p∈([]:List (Addr×Obj)) from hp) (by simp),e0.hok.kept hk,?_⟩
  · exact name_of_addr x.apart (PySem.mem_of_lookup h1) (PySem.mem_of_lookup h2)
  · have hy:scope.names.lookup y=some .cell∨scope.names.lookup y=some .free:=hy
    rcases hy with hy | hy
    · exact cell_has hy
    · exact absurd rfl (S.nofree _ (PySem.mem_of_lookup hy))
  · exact Nat.le_of_lt (x.above y c (PySem.mem_of_lookup h))
  · have hi:i<vs.length:=by
      unfold start at h2
      by_cases hi:i<vs.length
      · exact hi
      · rw [List.getElem?_append_right (by simpa using hi)] at h2
        rw [List.getElem?_replicate] at h2
        split at h2<;>cases h2
    have ha:vs[i]? = some v:=by
      unfold start at h2
      rw [List.getElem?_append_left (by simpa using hi),List.getElem?_map] at h2
      cases e:vs[i]? with
      | none=>rw [e] at h2;cases h2
      | some a=>rw [e] at h2;cases h2;rfl
    obtain ⟨u,hu,rv⟩:=r.get ha
    have hp:ps[i]? = some y:=by
      rw [← S.pre,List.getElem?_take_of_lt (by omega)];exact h1
    have ndP:ps.Nodup:=by rw [← S.pre];exact S.nd.sublist (List.take_sublist _ _)
    refine ⟨u,rv,?_⟩
    rcases S.par y (List.mem_of_getElem? hp) with k | k
    · exact .inl ⟨k,bindL_get ndP hp hu k⟩
    · obtain ⟨c,e⟩:=cell_has (n:=s.heap.objs.size+1) k
      refine .inr ⟨.inl k,c,e,?_⟩
      have q:=x.cell y c e
      rw [bindC_get ndP hp hu (by show scope.names.lookup y≠_;rw [k];decide)] at q
      exact q
  · exact e0.hok.fresh (Nat.le_of_lt (x.above y c (PySem.mem_of_lookup h)))
  · unfold start
    show _=N.length
    rw [List.length_append,List.length_map,List.length_replicate]
    omega
theorem fn_of {CX:CXT} {P:Program} {w:World} {K:PySem.W.Frag} {mg:Str→Option Value} {base:Heap} {k:Nat} {f:Addr} {name qual:Str} {params:Arguments} {body:List Stmt} {scope:Scope} {dV kV doc pm cdv ct oc:Value} {an od:Option Addr}
    {osl:Array (Option Value)} {N ps:List Str} {sp:Sp} (lk:K.lookup f=some ⟨oc,od,.func (PySem.W.fnOf name qual params body scope dV kV doc pm an cdv ct),osl⟩) (hcd:PySem.W.codeIn K cdv qual=true) (S:FnScope N ps scope)
    (len:∀ vs H Q E,sp vs H Q E→vs.length=ps.length)
    (hbody:∀ (A:Around) (outer:List Env) (s:Shared) (H:Hp) (vs:List V) (Q:VK) (E:XK),Room k (A.deeper (envOfC qual scope s.heap.objs.size f cdv))→sp vs H Q E →
      ∃ t,PSs (cxOf CX P w K mg base N qual scope f cdv A outer s H E) body t∧t { nx:=fun _ H'=>Q .non H',rt:=Q } (start N vs) H) :
    FnOk P w K mg base CX (k+1) f (PySem.W.fnOf name qual params body scope dV kV doc pm an cdv ct) ps sp:=by
  refine ⟨len,fun A outer s H args us vs Q E hr e0 hb r hsp => ?_⟩
  have hl:=len _ _ _ _ hsp
  have KX:K.In s.heap:=e0.mod.kin.keeps fun b o e=>(e0.bs b o e).1
  have lim:s.heap.NoLimit:=e0.mod.nolimit.keeps fun b o e=>(e0.bs b o e).1
  have hkind:∀ y∈ps.zip us,scope.names.lookup y.1=some .local∨(scope.names.lookup y.1=some .cell∧((cellsFrom (s.heap.objs.size+1) scope.names []).lookup y.1).isSome=true):=fun ⟨n,v⟩ hy=>by
    rcases S.par n (List.of_mem_zip hy).1 with q | q
    · exact .inl q
    · exact .inr ⟨q,PySem.W.cellsFrom_some _ _ _ (.inl q)⟩
  refine codeAny_call_function hr.depth (KX _ _ lk) rfl S.co S.gen rfl (PySem.W.codeRec_of KX hcd) (hb _ _ _ _ ?_)
  refine wpAny_newFunctionEnv_cells S.kind hkind fun env he s1 x => ?_
  subst he
  refine ⟨lim.keeps x.toInCall.keep,codeAny_func ?_⟩
  obtain ⟨t,ht,hq⟩:=hbody A outer s H vs Q E (hr.deeper _) hsp
  have I:Inv (cxOf CX P w K mg base N qual scope f cdv A outer s H E) [] (start N vs) H s1:=inv_start S hr.hd e0 hl r x
  refine wpAny_mono (ht [] s1 (start N vs) H _ I hq) (fun fl s' hs => ?_) fun e s' hs=>hs
  have fin:∀ {σ':St} {H':Hp} {v:V} {u:Value},Inv (cxOf CX P w K mg base N qual scope f cdv A outer s H E) [] σ' H' s'→RelV v u→Q v H'→CE outer P w H s Q u s' :=
    fun {σ' H' v u} J rv q=>⟨v,H',J.os,J.bare,J.base,J.hok,rv,q⟩
  cases fl with
  | ret u =>
    obtain ⟨v,σ',H',J,rv,q⟩:=hs
    exact fin J rv q
  | next =>
    obtain ⟨σ',H',J,q⟩:=hs
    exact fin (v:=V.non) (u:=Value.none) J rfl q
  | brk =>
    obtain ⟨_,_,_,q⟩:=hs
    exact False.elim q
  | cont =>
    obtain ⟨_,_,_,q⟩:=hs
    exact False.elim q
end L2
namespace L2
open PySem PySem.Spec PyProof.Rows
section
variable {X:Cx} {x:Str} {p pos:Pos} {e:Expr} {es:List Expr} {t:TA} {id T:String} {r:List V→Hp→VK→Prop}
def tCB (r:List V→Hp→VK→Prop) (t:TA):TE:=fun σ H Q=>t σ H fun vs H1=>r vs H1 Q
theorem pe_callB (hc:CallR X (.builtin id) r) (hg:Gl X x) (hm:X.mg x=none) (hv:bootBuiltins x=some (.builtin id)) (ha:PA X (e::es) t) (hn:x ≠ "__name__" := by decide) (hdb:(x == ("__debug__" : Str))=false:=by decide)
    (he:starEach (e::es) X.env=(false,eval e X.env)::starEach es X.env:=by rfl) (hpl:(backTo pos (starEach es X.env)).any (·.1)=false:=by rfl):PE X (.Call (.Name x p) (e::es) [] pos) (tCB r t):=by
  intro pins s σ H Q I h
  refine wpAny_Call_Name_kw (ld_blt I hg hm hv ?_ hn hdb)
  exact PyProof.Rows.callWith_builtin1 (thn (ha pos pins s σ H _ I h) fun us s1 ⟨vs,H1,I1,r1,q1⟩=>hc pins s1 σ H1 vs us Q I1 r1 q1) he hpl
theorem pe_callTy (hc:CallR X (.type T) r) (hg:Gl X x) (hm:X.mg x=none) (hv:bootBuiltins x=some (.type T)) (ha:PA X (e::es) t) (hn:x ≠ "__name__" := by decide) (hdb:(x == ("__debug__" : Str))=false:=by decide)
    (he:starEach (e::es) X.env=(false,eval e X.env)::starEach es X.env:=by rfl) (hpl:(backTo pos (starEach es X.env)).any (·.1)=false:=by rfl):PE X (.Call (.Name x p) (e::es) [] pos) (tCB r t):=by
  intro pins s σ H Q I h
  refine wpAny_Call_Name_kw (ld_blt I hg hm hv ?_ hn hdb)
  exact PyProof.Rows.callWith_type1 (thn (ha pos pins s σ H _ I h) fun us s1 ⟨vs,H1,I1,r1,q1⟩=>hc pins s1 σ H1 vs us Q I1 r1 q1) he hpl
end
end L2
namespace HT
open PySem PyProof.Rows
section
open PySem.SeqAt
open PySem.AutoSeq1 (wpAny_loadPart')
open PySem.MeetsSeq PySem.MeetsSeq2 PySem.MeetsSeq3
end
section
variable {prog:Program} {w:World} {A:Around} {E:Value→Shared→Prop} {s:Shared}
def sIx (n d:Nat):Option Int→Nat
  | none=>d
  | some v=>if v<0 then (v+(n:Int)).toNat else min v.toNat n
theorem sIx_nat (n d k:Nat):sIx n d (some (k:Int))=min k n:=by
  show (if (k:Int)<0 then ((k:Int)+(n:Int)).toNat else min (k:Int).toNat n)=min k n
  rw [if_neg (by omega),Int.toNat_natCast]
theorem sIx_le (n d:Nat) (hd:d≤n) (o:Option Int):sIx n d o≤n:=by
  cases o with
  | none=>exact hd
  | some v =>
    show (if v<0 then (v+(n:Int)).toNat else min v.toNat n)≤n
    by_cases hv:v<0
    · rw [if_pos hv];omega
    · rw [if_neg hv];exact Nat.min_le_right _ _
end
end HT
namespace L2
open PySem PySem.Spec PyProof.Rows
abbrev TO:=St→Hp→(Option Int→Hp→Prop)→Prop
def PO (X:Cx) (e:Option Expr) (t:TO):Prop :=
  ∀ (pins:List (Addr×Obj)) (s:Shared) (σ : St) (H:Hp) (Q:Option Int→Hp→Prop),Inv X pins σ H s→t σ H Q →
    wpAny (model X.prog X.w) X.A (evalPart e X.env) (fun u s' => ∃ o H',Inv X pins σ H' s'∧IsPart u o∧Q o H') X.xe s
def tNoPart:TO:=fun _ H Q=>Q none H
section
variable {X:Cx} {e:Expr} {te:TE} {lo hi:Option Expr} {tl th:TO} {pos p2:Pos}
theorem po_none:PO X none tNoPart:=by
  intro pins s σ H Q I h
  rw [evalPart_none]
  exact wpAny_pure ⟨none,H,I,.none,h⟩
def SlR (X:Cx) (r:V→Option Int→Option Int→Hp→VK→Prop):Prop :=
  ∀ (pins:List (Addr×Obj)) (s:Shared) (σ : St) (H:Hp) (x:V) (v vl vu:Value) (lo hi:Option Int) (sl:Addr) (Q:VK),Inv X pins σ H s→RelV x v→s.heap.IsSliceOf sl vl vu .none→IsPart vl lo→IsPart vu hi→r x lo hi H Q →
    ∃ T id,typeLookup (.type T) "__getitem__" = pure (some (.builtin id))∧s.TypeIs v T∧wpAny (model X.prog X.w) X.A (getItem v (.ref sl)) (EP X pins σ Q) X.xe s
theorem SlR.or {r r':V→Option Int→Option Int→Hp→VK→Prop} (h:SlR X r) (h':SlR X r'):SlR X (fun x lo hi H Q=>r x lo hi H Q∨r' x lo hi H Q):=by
  intro pins s σ H x v vl vu lo hi sl Q I rx hs pl pu q
  rcases q with q | q
  · exact h pins s σ H x v vl vu lo hi sl Q I rx hs pl pu q
  · exact h' pins s σ H x v vl vu lo hi sl Q I rx hs pl pu q
def tSl (r:V→Option Int→Option Int→Hp→VK→Prop) (te:TE) (tl th:TO):TE:=fun σ H Q=>te σ H fun x H1=>tl σ H1 fun l H2=>th σ H2 fun u H3=>r x l u H3 Q
theorem pe_slice {r:V→Option Int→Option Int→Hp→VK→Prop} (hr:SlR X r) (he:PE X e te) (hl:PO X lo tl) (hu:PO X hi th):PE X (.Subscript e (.Slice lo hi none p2) pos) (tSl r te tl th):=by
  intro pins s σ H Q I h
  refine Subscript_ (thn (he pins s σ H _ I h) fun v s1 ⟨x,H1,I1,r1,q1⟩ => ?_)
  refine wpAny_Slice (thn (hl pins s1 σ H1 _ I1 q1) fun vl s2 ⟨l,H2,I2,pl,q2⟩=>thn (hu pins s2 σ H2 _ I2 q2) fun vu s3 ⟨u,H3,I3,pu,q3⟩ => ?_)
  rw [evalPart_none]
  refine wpAny_pure ?_
  have I4:Inv X pins σ H3 { s3 with heap:=s3.heap.push { cls:=.type "slice",data:=.fields #[vl,vu,.none] } }:=I3.kept (t':=s3.toks) fun b ob q=>Heap.get?_push_of_some _ q
  obtain ⟨T,id,hT,ht,hg⟩:=hr pins { s3 with heap:=s3.heap.push { cls:=.type "slice",data:=.fields #[vl,vu,.none] } } σ H3 x v vl vu l u s3.heap.objs.size Q I4 r1 (Heap.IsSliceOf.new ..) pl pu q3
  show wpAny (model X.prog X.w) X.A (subscriptTail e (.Slice lo hi none p2) v (.ref s3.heap.objs.size)) (EP X pins σ Q) X.xe { s3 with heap:=s3.heap.push { cls:=.type "slice",data:=.fields #[vl,vu,.none] } }
  exact tail_any (ops:=[.ref s3.heap.objs.size,v]) ht hT hg (by with_unfolding_all rfl)
def cutV (xs:List V) (lo hi:Option Int):List V:=(xs.drop (HT.sIx xs.length 0 lo)).take (HT.sIx xs.length xs.length hi-HT.sIx xs.length 0 lo)
theorem cutV_length (xs:List V) (lo hi:Option Int):(cutV xs lo hi).length≤xs.length:=by
  unfold cutV
  rw [List.length_take,List.length_drop]
  omega
end
end L2
namespace L2
open PySem PySem.Spec PyProof.Rows
def ixN (n:Nat) (i:Int):Option Nat:=if 0≤i then (if i<n then some i.toNat else none) else if -(n:Int)≤i then some (i+n).toNat else none
def atI {α : Type} (xs:List α) (i:Int):Option α := (ixN xs.length i).bind fun j=>xs[j]?
theorem ixN_seq {n:Nat} {i:Int} {j:Nat} (h:ixN n i=some j):seqIndex? i n=some j∧j<n ∧ -(n:Int)≤i∧i<n:=by
  unfold ixN at h
  by_cases h0:0≤i
  · rw [if_pos h0] at h
    by_cases h1:i<n
    · rw [if_pos h1] at h
      have e:i.toNat=j:=Option.some.inj h
      exact ⟨by rw [seqIndex_of h0 h1,e],by omega,by omega,h1⟩
    · rw [if_neg h1] at h;cases h
  · rw [if_neg h0] at h
    by_cases h1 : -(n:Int)≤i
    · rw [if_pos h1] at h
      have e:(i+n).toNat=j:=Option.some.inj h
      exact ⟨by rw [seqIndex_neg (by omega) h1,e],by omega,h1,by omega⟩
    · rw [if_neg h1] at h;cases h
theorem atI_get {α : Type} {xs:List α} {i:Int} {v : α} (h:atI xs i=some v):∃ j,seqIndex? i xs.length=some j∧xs[j]? = some v∧j<xs.length ∧ -(xs.length:Int)≤i∧i<xs.length:=by
  unfold atI at h
  cases e:ixN xs.length i with
  | none=>rw [e] at h;cases h
  | some j =>
    rw [e] at h
    obtain ⟨h1,h2,h3,h4⟩:=ixN_seq e
    exact ⟨j,h1,h,h2,h3,h4⟩
def PlainIx (b:Expr):Prop:=∀ o i,subscripted b false o i=operate [o,i] (getItem o i)
def IxR (X:Cx) (r:R2):Prop :=
  ∀ (value slice:Expr) (pins:List (Addr×Obj)) (s:Shared) (σ : St) (H:Hp) (x y:V) (v u:Value) (Q:VK),Inv X pins σ H s→RelV x v→RelV y u→r x y H Q →
    subscripted slice false v u=operate [v,u] (getItem v u)→wpAny (model X.prog X.w) X.A (subscriptTail value slice v u) (EP X pins σ Q) X.xe s
def MtR (X:Cx) (id:String) (r:V→List V→Hp→VK→Prop):Prop :=
  ∀ (pins:List (Addr×Obj)) (s:Shared) (σ : St) (H:Hp) (x:V) (xs:List V) (v:Value) (us:List Value) (Q:VK),Inv X pins σ H s→RelV x v→Vals xs us→r x xs H Q →
    wpAny (model X.prog X.w) X.A (call (.builtin id) (v::us)) (EP X pins σ Q) X.xe s
section
variable {X:Cx} {a b:Expr} {ta tb:TE} {pos:Pos}
theorem IxR.or {r r':R2} (h:IxR X r) (h':IxR X r'):IxR X (fun x y H Q=>r x y H Q∨r' x y H Q):=by
  intro value slice pins s σ H x y v u Q I rx ry q hs
  rcases q with q | q
  · exact h value slice pins s σ H x y v u Q I rx ry q hs
  · exact h' value slice pins s σ H x y v u Q I rx ry q hs
theorem pe_ix {r:R2} (hr:IxR X r) (ha:PE X a ta) (hb:PE X b tb) (hs:PlainIx b):PE X (.Subscript a b pos) (tOp r ta tb):=by
  intro pins s σ H Q I h
  exact Subscript_ (binT ha hb I h fun v u s2 x y H2 I2 rx ry q=>hr a b pins s2 σ H2 x y v u Q I2 rx ry q (hs _ _))
def rIxL (K:PySem.W.Frag):R2:=fun x y H Q => ∃ p xs i v,x = .ref p∧y = .int i∧SqL K H p xs∧atI xs i=some v∧Q v H
def rIxT (K:PySem.W.Frag):R2:=fun x y H Q => ∃ p xs i v,x = .ref p∧y = .int i∧SqT K H p xs∧atI xs i=some v∧Q v H
def rIxS:R2:=fun x y H Q => ∃ z i c,x = .str z∧y = .int i∧z.length≤sizeLine∧atI z.cps.toList i=some c∧Q (.str ⟨#[c]⟩) H
theorem ix_list:IxR X (rIxL X.K):=by
  intro value slice pins s σ H x y v u Q I rx ry h hs
  obtain ⟨p,xs,i,z,rfl,rfl,hq,he,q⟩:=h
  cases rx
  obtain ⟨t,rfl⟩:=ry
  obtain ⟨its,r,pl,hz⟩:=I.list hq
  obtain ⟨j,h1,h2,h3,h4,h5⟩:=atI_get he
  obtain ⟨w,ew,rw'⟩:=r.get h2
  have hl:=r.length
  have hn:=line63
  have fin:EP X pins σ Q w s:=⟨z,H,I,rw',q⟩
  by_cases h0:0≤i
  · have hj:i.toNat=j:=by
      rw [seqIndex_of h0 h5] at h1
      exact Option.some.inj h1
    exact item_listR pl.isList h0 (by omega) (by rw [hj];simpa using ew) fin hs
  · have hj:(i+(its.toArray.size:Int)).toNat=j:=by
      rw [seqIndex_neg (by omega) h4] at h1
      rw [List.size_toArray,← hl]
      exact Option.some.inj h1
    exact subscriptTail_builtinR (x:=w) pl.isList.typeIs slot_list_getitem.lookup
      (wpAny_getItem_list_neg (Q:=fun r s'=>r=w∧EP X pins σ Q r s') pl.isList (by omega) (by rw [List.size_toArray]<;>omega) (by omega) (by rw [hj];simpa using ew) ⟨rfl,fin⟩) hs
theorem ix_tup:IxR X (rIxT X.K):=by
  intro value slice pins s σ H x y v u Q I rx ry h hs
  obtain ⟨p,xs,i,z,rfl,rfl,hq,he,q⟩:=h
  cases rx
  obtain ⟨t,rfl⟩:=ry
  obtain ⟨its,r,pl,hz⟩:=I.tuple hq
  obtain ⟨j,h1,h2,h3,h4,h5⟩:=atI_get he
  obtain ⟨w,ew,rw'⟩:=r.get h2
  have hl:=r.length
  have hn:=line63
  have fin:EP X pins σ Q w s:=⟨z,H,I,rw',q⟩
  exact subscriptTail_builtinR (x:=w) pl.typeIs slot_tuple_getitem.lookup
    (getItem_tuple (j:=j) (Q:=fun r s'=>r=w∧EP X pins σ Q r s') pl (by omega) (by omega) (by rw [List.size_toArray,← hl];exact h1) (by simpa using ew) ⟨rfl,fin⟩) hs
theorem ix_str:IxR X rIxS:=by
  intro value slice pins s σ H x y v u Q I rx ry h hs
  obtain ⟨z,i,c,rfl,rfl,hz,he,q⟩:=h
  obtain ⟨t,rfl⟩:=rx
  obtain ⟨t',rfl⟩:=ry
  obtain ⟨j,h1,h2,h3,h4,h5⟩:=atI_get he
  have hl:z.cps.toList.length=z.length:=by simp [Str.length]
  rw [hl] at h1 h4 h5
  have hn:=line63
  exact tail_any (typeIs_str s z t) slot_str_getitem.lookup (getItem_str (c:=c) (by
    have e1:decide (i < -(2 ^ 63:Int))=false:=decide_eq_false (by omega)
    have e2:decide (i ≥ 2 ^ 63)=false:=decide_eq_false (by omega)
    rw [e1,e2,Bool.or_false]) (by rw [h1];simpa using h2) ⟨.str ⟨#[c]⟩,H,I.tok _,⟨_,rfl⟩,q⟩) hs
def rIx (K:PySem.W.Frag):R2:=fun x y H Q=>rIxL K x y H Q∨rIxT K x y H Q∨rIxS x y H Q
theorem ix_seq:IxR X (rIx X.K):=ix_list.or (ix_tup.or ix_str)
theorem slice_bounds (lo hi:Option Int) (n:Nat):(sliceBounds lo hi none n).1=((HT.sIx n 0 lo:Nat):Int)∧(sliceBounds lo hi none n).2.1=((HT.sIx n n hi:Nat):Int)∧(sliceBounds lo hi none n).2.2=1:=by
  refine ⟨?_,?_,rfl⟩
  · cases lo with
    | none=>simp [sliceBounds,HT.sIx]
    | some i =>
      simp only [sliceBounds,HT.sIx,Option.getD_none,show (1:Int)>0 by decide,if_true]
      by_cases h:i<0
      · simp only [h,if_true]<;>omega
      · simp only [h,if_false]<;>omega
  · cases hi with
    | none=>simp [sliceBounds,HT.sIx]
    | some i =>
      simp only [sliceBounds,HT.sIx,Option.getD_none,show (1:Int)>0 by decide,if_true]
      by_cases h:i<0
      · simp only [h,if_true]<;>omega
      · simp only [h,if_false]<;>omega
theorem slicePick_cut (its:List Value) (lo hi:Option Int):slicePick its.toArray lo hi none=((its.drop (HT.sIx its.length 0 lo)).take (HT.sIx its.length its.length hi-HT.sIx its.length 0 lo)).toArray:=by
  obtain ⟨h1,h2,h3⟩:=slice_bounds lo hi its.toArray.size
  unfold slicePick
  rw [h1,h2,h3]
  simp only [sliceRange_one,pick_run,List.size_toArray]<;>rfl
def rSlL (K:PySem.W.Frag):V→Option Int→Option Int→Hp→VK→Prop:=fun x lo hi H Q => ∃ a xs,x = .ref a∧SqL K H a xs∧∀ p,H p=none→Q (.ref p) (upd H p (.lst (cutV xs lo hi)))
theorem sl_list:SlR X (rSlL X.K):=by
  intro pins s σ H x v vl vu lo hi sl Q I rx hs pl pu h
  obtain ⟨a,xs,rfl,hx,q⟩:=h
  cases rx
  obtain ⟨its,r,ht,hz⟩:=I.list hx
  have hlen:=r.length
  refine ⟨"list",_,slot_list_getitem.lookup,ht.isList.typeIs,?_⟩
  refine wpAny_getItem_list_slice ht.isList hs pl pu .none (by simp) ?_ (by rw [List.size_toArray]<;>omega)
  rw [slicePick_cut,← hlen]
  refine ⟨.ref s.heap.objs.size,_,I.laid (t':=s.toks) (o:=.lst (cutV xs lo hi)) (fun b ob q=>Heap.get?_push_of_some _ q) (Nat.le_refl _) ?_,rfl,q _ (I.hok.fresh (Nat.le_refl _))⟩
  exact ⟨Nat.le_trans (cutV_length xs lo hi) hz,_,0,(r.drop (HT.sIx xs.length 0 lo)).take (HT.sIx xs.length xs.length hi-HT.sIx xs.length 0 lo),Heap.get?_push_size _ rfl⟩
theorem call_list_of:CallR X (.type "list") (fun xs H Q => ∃ p ys,xs = [.ref p]∧(SqL X.K H p ys∨SqT X.K H p ys)∧∀ l,H l=none→Q (.ref l) (upd H l (.lst ys))):=by
  intro pins s σ H xs us Q I r h
  obtain ⟨p,ys,rfl,hq,q⟩:=h
  obtain ⟨u,rfl,rx⟩:=vals1 r
  cases rx
  have fin:∀ (its:List Value),Vals ys its→ys.length≤sizeLine→∀ (h':Heap) (c':Nat),(∀ b o',s.heap.get? b=some o'→h'.get? b=some o') →
      h'.get? s.heap.objs.size=some { cls:=.type "list",dict:=none,data:=.seq its.toArray c',slots:=#[] }→EP X pins σ Q (.ref s.heap.objs.size) { s with heap:=h' }:=fun its r' hz h' c' kp e =>
    ⟨.ref s.heap.objs.size,_,I.laid (t':=s.toks) kp (Nat.le_refl _) (show ObjOk X.prog X.w _ h' _ (.lst ys) from ⟨hz,its,c',r',e⟩),rfl,q _ (I.hok.fresh (Nat.le_refl _))⟩
  rcases hq with hq | hq
  · obtain ⟨its,r',pl,hz⟩:=I.list hq
    have hlen:=r'.length
    obtain ⟨o,ho,hc,n,hd⟩:=pl.isList
    exact call_list_seq p (.inl rfl) ho hc hd (fun h' c' kp e=>fin its r' hz h' c' kp e) (by simp only [List.size_toArray]<;>omega)
  · obtain ⟨its,r',pl,hz⟩:=I.tuple hq
    have hlen:=r'.length
    obtain ⟨o,ho,hc,n,hd⟩:=pl
    exact call_list_seq p (.inr rfl) ho hc hd (fun h' c' kp e=>fin its r' hz h' c' kp e) (by simp only [List.size_toArray]<;>omega)
theorem call_tuple_of:CallR X (.type "tuple") (fun xs H Q => ∃ p ys,xs = [.ref p]∧((SqL X.K H p ys∧∀ l,H l=none→Q (.ref l) (upd H l (.tup ys)))∨(SqT X.K H p ys∧Q (.ref p) H))):=by
  intro pins s σ H xs us Q I r h
  obtain ⟨p,ys,rfl,h⟩:=h
  obtain ⟨u,rfl,rx⟩:=vals1 r
  cases rx
  rcases h with ⟨hq,q⟩ | ⟨hq,q⟩
  · obtain ⟨its,r',pl,hz⟩:=I.list hq
    have hlen:=r'.length
    refine call_tuple_list pl.isList (fun h' kp => ?_) (by simp only [List.size_toArray]<;>omega)
    have I1:Inv X pins σ H { s with heap:=h' }:=I.kept (t':=s.toks) kp
    have I2:Inv X pins σ (upd H h'.objs.size (.tup ys)) { s with heap:=h'.push { cls:=.type "tuple",data:=.seq its.toArray } } :=
      I1.laid (t':=s.toks) (fun b o e=>Heap.get?_push_of_some _ e) (Nat.le_refl _) (show ObjOk X.prog X.w _ _ _ (.tup ys) from ⟨hz,its,r',IsTup.new _ _⟩)
    exact ⟨.ref h'.objs.size,_,I2,rfl,q _ (I1.hok.fresh (Nat.le_refl _))⟩
  · obtain ⟨its,r',pl,hz⟩:=I.tuple hq
    exact call_tuple_same pl ⟨.ref p,H,I,rfl,q⟩
def tyV (K:PySem.W.Frag) (T:String) (x:V) (H:Hp):Prop:=match x with
  | .str _=>T = "str"
  | .int _=>T = "int"
  | .ref p=>(T = "list" ∧ ∃ xs,SqL K H p xs)∨(T = "tuple" ∧ ∃ o,K.lookup p=some o∧o.cls = .type "tuple" ∧ o.dict=none) ∨
      (T = "dict" ∧ ((∃ kvs,H p=some (.dK kvs))∨∃ kvs,H p=some (.dT kvs)))∨(T = "set" ∧ ∃ S n,H p=some (.set S n))
  | _=>False
theorem tyV_is {pins:List (Addr×Obj)} {σ : St} {H:Hp} {s:Shared} {T:String} {x:V} {v:Value} (I:Inv X pins σ H s) (r:RelV x v) (ty:tyV X.K T x H) :
    s.TypeIs v T∧∀ a,v = .ref a→∃ ob,s.heap.get? a=some ob∧ob.dict=none:=by
  cases x with
  | str z =>
    obtain ⟨t,rfl⟩:=r
    cases (show T = "str" from ty)
    exact ⟨typeIs_str s z t,fun _ e=>nomatch e⟩
  | int i =>
    obtain ⟨t,rfl⟩:=r
    cases (show T = "int" from ty)
    exact ⟨typeIs_int s i t,fun _ e=>nomatch e⟩
  | ref p =>
    cases r
    rcases ty with ⟨rfl,xs,hq⟩ | ⟨rfl,o,hk,hc,hd⟩ | ⟨rfl,hk⟩ | ⟨rfl,S,n,hk⟩
    · obtain ⟨its,_,pl,_⟩:=I.list hq
      refine ⟨pl.isList.typeIs,fun a e => ?_⟩
      cases e
      obtain ⟨o,n,e,c,hd,_⟩:=pl
      exact ⟨o,e,hd⟩
    · refine ⟨⟨o,I.kIn p o hk,hc⟩,fun a e => ?_⟩
      cases e
      exact ⟨o,I.kIn _ o hk,hd⟩
    · have z:∃ o,s.heap.get? p=some o∧o.ExactDict:=by
        rcases hk with ⟨kvs,hk⟩ | ⟨kvs,hk⟩
        · obtain ⟨_,_,_,_,o,_,_,e,ex,_⟩:=I.hok p _ hk
          exact ⟨o,e,ex⟩
        · obtain ⟨_,_,_,_,o,_,_,e,ex,_⟩:=I.hok p _ hk
          exact ⟨o,e,ex⟩
      obtain ⟨o,e,ex⟩:=z
      refine ⟨⟨o,e,ex.1⟩,fun a e2 => ?_⟩
      cases e2
      exact ⟨o,e,ex.2.1⟩
    · obtain ⟨o,_,_,_,e,ex,_⟩:=I.hok p _ hk
      refine ⟨⟨o,e,ex.1⟩,fun a e2 => ?_⟩
      cases e2
      exact ⟨o,e,ex.2.1⟩
  | _=>exact False.elim ty
def tBM (K:PySem.W.Frag) (T:String) (r:V→List V→Hp→VK→Prop) (to:TE) (t:TA):TE:=fun σ H Q=>to σ H fun x H1=>tyV K T x H1∧t σ H1 fun xs H2=>r x xs H2 Q
variable {o e:Expr} {es:List Expr} {to:TE} {t:TA} {name:Str} {apos cpos:Pos} {T id:String} {r:V→List V→Hp→VK→Prop}
theorem pe_bm (pa:PlainAttrs T) (slot:Slot T name id) (hty:typeOf (.builtin id)=pure (.type "method_descriptor")) (hm:MtR X id r) (ho:PE X o to) (ha:PA X (e::es) t)
    (hbase:attributeBase o name X.env (eval o X.env)=eval o X.env:=by rfl)
    (hfew:((backTo cpos (starEach (e::es) X.env)).all (fun x => !x.1) && (backToKw cpos (keywordEach [] X.env)).all (fun x=>x.1.isSome)
      && decide ((e::es).length+([]:List Keyword).length+(if ([]:List Keyword).isEmpty then 0 else 1)<30))=true:=by rfl)
    (hline:(apos.endLine == cpos.line)=true:=by rfl) (hs:starEach (e::es) X.env=(false,eval e X.env)::starEach es X.env:=by rfl) (hplain:(backTo cpos (starEach es X.env)).any (·.1)=false:=by rfl) :
    PE X (.Call (.Attribute o name apos) (e::es) [] cpos) (tBM X.K T r to t):=by
  intro pins s σ H Q I h
  refine wpAny_Call_method_late hbase hfew hline rfl (thn (ho pins s σ H _ I h) fun v s1 ⟨x,H1,I1,r1,ty,q1⟩ => ?_)
  obtain ⟨h1,h2⟩:=tyV_is I1 r1 ty
  refine ⟨T,id,pa,slot,hty,h1,h2,?_⟩
  have hA:=ha cpos pins s1 σ H1 _ I1 q1
  rw [hs] at hA ⊢
  refine Calls.callWith_builtin (by show (false || (backTo cpos (starEach es X.env)).any (·.1))=false;rw [hplain]<;>rfl) (Calls.evalArgs_plain ?_)
  exact thn hA fun us s2 ⟨vs,H2,I2,r2,q2⟩=>hm pins s2 σ H2 x vs v us Q I2 r1 r2 q2
end
end L2
namespace L2
open PySem PySem.Spec PyProof.Rows
def MtM (X:Cx) (id:String) (r:V→List V→Hp→VK→Prop):Prop :=
  ∀ (pins:List (Addr×Obj)) (s:Shared) (σ : St) (H:Hp) (x:V) (xs:List V) (v:Value) (us:List Value) (Q:VK),Inv X pins σ H s→RelV x v→Vals xs us→r x xs H Q →
    wpAny (model X.prog X.w) X.A (call (.builtin id) (v::us)) (EP X pins σ Q) X.xe s
theorem Vals.one:∀ {x:V} {us:List Value},Vals [x] us→∃ u,us = [u]∧RelV x u
  | _,_,.cons r .nil=>⟨_,rfl,r⟩
section
variable {X:Cx} {pins:List (Addr×Obj)} {σ : St} {H:Hp} {s:Shared} {l b:Addr} {xs ys zs:List V}
theorem Inv.lset {its its':List Value} {n:Nat} {f:Array Value→Array Value} {t':Nat} (I:Inv X pins σ H s) (hH:H l=some (.lst xs))
    (e:s.heap.get? l=some { cls:=.type "list",data:=.seq its.toArray n }) (hf:f its.toArray=its'.toArray) (hv:Vals ys its') (hz:ys.length≤sizeLine) :
    Inv X pins σ (upd H l (.lst ys)) { s with heap:=s.heap.update l (Obj.mapSeq f),toks:=t' }:=by
  have q:=PySem.IsL.update e f
  rw [hf] at q
  refine I.write (x:=l) (e:=l) (by rw [hH];exact trivial) (.inl rfl) (fun b' u hb hu=>(Heap.get?_update_other s.heap (Obj.mapSeq f) (Ne.symm hb)).trans hu) ⟨_,q⟩ ?_
  exact ⟨hz,its',_,hv,q⟩
theorem Inv.lnew {its:List Value} {t':Nat} (I:Inv X pins σ H s) (hv:Vals ys its) (hz:ys.length≤sizeLine) :
    Inv X pins σ (upd H s.heap.objs.size (.lst ys)) { s with heap:=s.heap.push { cls:=.type "list",data:=.seq its.toArray },toks:=t' } :=
  I.laid (fun _ _ q=>Heap.get?_push_of_some _ q) (Nat.le_refl _) ⟨hz,its,0,hv,Heap.get?_push_size _ rfl⟩
theorem Inv.fresh (I:Inv X pins σ H s):H s.heap.objs.size=none:=I.hok.fresh (Nat.le_refl _)
theorem Inv.lstM (I:Inv X pins σ H s) (hH:H l=some (.lst xs)):xs.length≤sizeLine∧∃ (its:List Value) (n:Nat),Vals xs its∧xs.length=its.length∧s.heap.get? l=some { cls:=.type "list",data:=.seq its.toArray n }:=by
  obtain ⟨z,its,n,r,e⟩:=I.hok l _ hH
  exact ⟨z,its,n,r,r.length,e⟩
end
section
variable {X:Cx}
def rAppend:V→List V→Hp→VK→Prop:=fun x vs H Q => ∃ l xs y,x = .ref l∧vs = [y]∧H l=some (.lst xs)∧xs.length<sizeLine∧Q .non (upd H l (.lst (xs ++ [y])))
theorem mt_append:MtM X "list.append" rAppend:=by
  intro pins s σ H x vs v us Q I rx rv h
  obtain ⟨l,xs,y,rfl,rfl,hH,hz,q⟩:=h
  cases rx
  obtain ⟨u,rfl,ru⟩:=rv.one
  obtain ⟨z,its,n,r,hl,e⟩:=I.lstM hH
  refine call_meets F.slot_list_append ⟨_,e,rfl⟩ F.entry_list_append (F.args_list_append_2 _ _) (PySem.list_append l its.toArray n u (by rw [List.size_toArray];omega)) ⟨e,?_⟩
  refine ⟨.non,_,I.lset (its':=its ++ [u]) hH e (by simp) (r.append (.cons ru .nil)) ?_,rfl,q⟩
  rw [List.length_append,List.length_singleton]
  omega
end
section
variable {prog:Program} {w:World} {A:Around} {E:Value→Shared→Prop} {s:Shared}
end
section
variable {X:Cx}
end
end L2
namespace Att
open PySem PySem.W PySem.Calls PyProof.Rows
theorem ints_of_wellAll {P:Params} {h:Heap}:∀ (ns:List Int) (vs:List Value),WellAll P h vs (ns.map WData.int)→IntsAre vs ns:=by
  intro ns
  induction ns with
  | nil =>
    intro vs w
    rw [List.map_nil] at w
    cases w
    exact .nil
  | cons n ns ih =>
    intro vs w
    rw [List.map_cons] at w
    cases w with
    | cons a b =>
      cases a
      exact .cons _ _ (ih _ b)
theorem script_of {l:OpenLaw} {n:Nat} (hn:l.most=some n) {P:Params} {h:Heap} {args:List WData} {vals:List Value}
    (hpre:l.row.toRowW.claim.pre args=true) (hwl:WellAll P h vals args) :
    ∃ a vs ns,vals = [Value.ref a]∧args = [WData.list (ns.map WData.int)]∧h.get? a=some { cls:=.type "list",data:=.seq vs.toArray }∧IntsAre vs ns∧ns.length≤n:=by
  have hsh:WShape.hasAll [] args [.list .int]=true:=(pre_splitW hpre).1
  have hc:l.pre.holds [] { args:=args }=true:=(pre_splitW hpre).2
  obtain ⟨d,r,rfl,h1,h2⟩:=hasAllW_cons hsh
  obtain rfl:=hasAllW_nil h2
  obtain ⟨xs,rfl,h3⟩:=hasW_list h1
  obtain ⟨ns,rfl⟩:=items_int h3
  have hlen:ns.length≤n:=by
    unfold OpenLaw.pre at hc
    have h4:(WTm.not (.lt (.lit (.int (n:Int))) (.len (.arg 0)))).holds [] { args:=[.list (ns.map .int)] }=true:=by
      have h4:=(holds_andW hc).1
      rw [hn] at h4
      exact h4
    have h5:=condW_of h4 (w_not (w_lt w_lit (w_len_list (w_arg rfl))))
    rw [List.length_map] at h5
    refine Nat.le_of_not_lt fun q => ?_
    have q':(n:Int)<((ns.length:Nat):Int):=by omega
    first
      | (rw [decide_eq_true q'] at h5;exact absurd h5 (by decide))
      | (simp at h5;omega)
  cases hwl with
  | cons w1 w2 =>
    cases w2
    cases w1 with
    | list ho hall=>exact ⟨_,_,ns,rfl,rfl,ho,ints_of_wellAll ns _ hall,hlen⟩
theorem post_true (l:OpenLaw) (args:List WData):l.row.toRowW.claim.post args (.bool true) args=true :=
  postW_of (r:=l.row.toRowW) (X:=(true == true))
    (show WShape.has [] (.bool true) .bool=true by first | rfl | decide | simp [WShape.has,WShape.arms,WShape.armsAll])
    (show (WTm.eq .res (.lit (.bool true))).value [] { args:=args,res:=some (.bool true),after:=args }=some (.bool (true == true)) from w_eq_bool (w_res rfl) w_lit) rfl
theorem attach_call {l:OpenLaw} {n:Nat} {q:Program} {loose:List Str} {XP:(Str→Option Value)→Heap→Prop} {YP:World→Heap→Prop} {d:DefRec}
    (hn:l.most=some n) (hdf:d.params.defaults = [])
    (call:∀ (w:World) (s₀ s₁ : Shared) (mg mb:Str→Option Value) (fa:Addr) (o:Obj) (pm cd doc:Value) (a:Addr) (vs:List Value) (ns:List Int),
      Ground q loose [] XP w s₀ mg mb s₁.heap→YP w s₁.heap →
      s₁.heap.get? fa=some o→o.data = .func (docDef d.name d.params d.body d.scope pm cd doc)→s₁.heap.CodeRec cd d.name→mg d.name=some (.ref fa) →
      s₁.heap.get? a=some { cls:=.type "list",data:=.seq vs.toArray }→IntsAre vs ns→ns.length≤n→s₁.gens = #[] →
      codeAny (model l.prog w) callerA (.call (.ref fa) ⟨[.ref a],[]⟩) (fun r s'=>r = .ok (.ret (.bool true))∧OldK s₁.heap s'.heap∧s'.os=s₁.os∧AllBare s'.gens) s₁) :
    WalkO q loose XP YP l.row.toRowW d [] (fun f vs=>PySem.call f vs):=by
  intro w s₀ s₁ mg mb G Y fa o pm cd doc dV kV ho hd hcd hD hmg hg args vals as hpre hlay hrd hwl hlo
  obtain rfl:dV = .none:=Dflts.none hD hdf
  obtain rfl:kV = .none:=Dflts.noKw hD
  obtain ⟨a,vs,ns,rfl,rfl,hobj,hints,hlen⟩:=script_of hn hpre hwl
  refine enter_call (codeAny_mono (call w s₀ s₁ mg mb fa o pm cd doc a vs ns G Y ho (fd_plain hd) hcd hmg hobj hints hlen hg) fun r s' hq => ?_)
  obtain ⟨rfl,h2,h3,h4⟩:=hq
  exact ⟨.inl ⟨.bool true,.bool true,[],rfl,fun _=>rfl,.bool true,post_true l _,fun _=>⟨List.Pairwise.nil,fun _ hm=>(nomatch hm)⟩⟩,h2,h3,h4⟩
section
variable {prog:Program} {w:World} {A:Around} {E:Value→Shared→Prop} {s:Shared} {K:Frag}
end
end Att
namespace L2
open PySem PySem.Spec PyProof.Rows
theorem vals_ints:∀ {vs:List Value} {ns:List Int},IntsAre vs ns→Vals (ns.map V.int) vs
  | _,_,.nil => .nil
  | _,_,.cons n t h => .cons ⟨t,rfl⟩ (vals_ints h)
def Only (H:Hp):Prop:=∀ b,H b=none∨∃ o xs,H b=some (.frz o (.lst xs))
theorem law_call {P:Program} {w:World} {K:PySem.W.Frag} {mg mb:Str→Option Value} {CX:CXT} {k:Nat} {fa a:Addr} {fd:FuncData} {x:Str} {sp:Sp} {s₁ : Shared} {vs:List Value} {ns:List Int}
    (KX:K.In s₁.heap) (hns:s₁.heap.Ns mainGlobals mg) (hb:s₁.heap.Ns builtinsNs mb) (hbb:∀ x:Str,x ≠ "__name__" → mb x=bootBuiltins x) (hlim:s₁.heap.NoLimit) (hg:s₁.gens = #[])
    (ha:s₁.heap.get? a=some { cls:=.type "list",data:=.seq vs.toArray }) (hi:IntsAre vs ns) (hl:ns.length≤sizeLine) (hr:Room k callerA)
    (F:∀ base:Heap,K.In base→base.Ns mainGlobals mg→FnOk P w K mg base CX k fa fd [x] sp) (hbind:∀ (s:Shared) (u:Value),BindsTo s fd ⟨[u],[]⟩ [(x,u)])
    (hsp:∀ H:Hp,Only H→SqL K H a (ns.map V.int)→sp [.ref a] H (fun v _=>v = .bl true) fun _ _ _=>False)
    (hCX:∀ H e s',CX [] H s₁ (fun _ _ _=>False) e s'→False) :
    codeAny (model P w) callerA (.call (.ref fa) ⟨[.ref a],[]⟩) (fun r s'=>r = .ok (.ret (.bool true))∧OldK s₁.heap s'.heap∧s'.os=s₁.os∧AllBare s'.gens) s₁ := by
  have rv:=vals_ints hi
  have lenV:=hi.length
  -- from an abstract heap in which nothing but the script may be tracked
  have core:∀ H:Hp,Only H→SqL K H a (ns.map V.int)→HOk P w H s₁.heap→(∀ b,H b≠none→b=a)→(H a≠none→K.lookup a=none) →
      codeAny (model P w) callerA (.call (.ref fa) ⟨[.ref a],[]⟩) (fun r s'=>r = .ok (.ret (.bool true))∧OldK s₁.heap s'.heap∧s'.os=s₁.os∧AllBare s'.gens) s₁ := by
    intro H hO hS hok hA hK
    have base_of:∀ {b:Addr} {o:Obj},s₁.heap.get? b=some o→H b=none→(hidT s₁.heap H).get? b=some o:=fun e n=>hidT_get e n
    have noA:∀ {b:Addr} {o:Obj} {es:Array DictEntry} {ep:Nat},s₁.heap.get? b=some o→o.data = .dict es ep→H b=none:=fun {b o es ep} e d=>by
      cases q:H b with
      | none=>rfl
      | some u =>
        have e':b=a:=hA b (by rw [q];simp)
        subst e'
        rw [ha] at e;cases e
        have d':Data.seq vs.toArray _=Data.dict es ep:=d
        cases d'
    have nsK:∀ {b:Addr} {m:Str→Option Value},s₁.heap.Ns b m→(hidT s₁.heap H).Ns b m:=fun {b m} ⟨o,es,ep,e,d,r⟩=>⟨o,es,ep,base_of e (noA e d),d,r⟩
    have hKb:K.In (hidT s₁.heap H):=fun b o e=>base_of (KX b o e) (by
      cases q:H b with
      | none=>rfl
      | some u =>
        have e':b=a:=hA b (by rw [q];simp)
        subst e'
        rw [hK (by rw [q];simp)] at e;cases e)
    have hM:Mod K mg (hidT s₁.heap H):=⟨hKb,nsK hns,⟨mb,nsK hb,hbb⟩,let ⟨mc,h1,h2⟩:=hlim;⟨mc,nsK h1,h2⟩⟩
    have e0:Env0 P w K mg (hidT s₁.heap H) callerA [] s₁ H:=⟨rfl,hM,fun b o e=>of_hidT e,Nat.le_of_eq (hidT_size _ _),trivial,fun b hb=>absurd (show b∈([]:List Addr) from hb) (by simp),hok,.of_eq hg⟩
    refine codeAny_mono ((F _ hKb (nsK hns)).run callerA [] s₁ H ⟨[.ref a],[]⟩ [.ref a] [.ref a] _ _ hr e0 (hbind s₁ (.ref a)) (.cons rfl .nil) (hsp H hO hS)) fun r s' h => ?_
    cases r with
    | error e=>exact (hCX H e s' h).elim
    | ok fl =>
      cases fl with
      | next=>exact False.elim h
      | brk=>exact False.elim h
      | cont=>exact False.elim h
      | ret u =>
        obtain ⟨v,H',os,bare,un,hok',r',q⟩:=h
        have q':v = .bl true:=q
        subst q'
        obtain rfl:u=Value.bool true:=r'
        refine ⟨rfl,OldK.of_keep fun b o e => ?_,os,bare⟩
        cases q:H b with
        | none=>exact un.keep b o e q (by intro z;exact absurd (show b∈([]:List Addr) from z) (by simp)) (by simp)
        | some u =>
          rcases hO b with z | ⟨ob,xs,z⟩
          · rw [q] at z;cases z
          · have z2:=un.frzs b ob _ z
            obtain ⟨e1,_⟩:=hok b _ z
            obtain ⟨e2,_⟩:=hok' b _ z2
            rw [e] at e1;cases e1
            exact e2
  cases hk:K.lookup a with
  | some o =>
    -- the script is one of the module's own objects
    have e:=KX a o hk
    rw [ha] at e
    cases e
    refine core (fun _=>none) (fun _ => .inl rfl) (.inr ⟨_,vs.toArray,_,hk,rfl,rfl,rfl,by rw [List.size_toArray,lenV];exact hl,by simpa using rv⟩) (fun b u z=>by have z':(none:Option HO)=some u:=z;cases z') (fun b z=>absurd rfl z) fun z=>absurd rfl z
  | none =>
    refine core (fun b=>if b=a then some (.frz { cls:=.type "list",data:=.seq vs.toArray } (.lst (ns.map V.int))) else none) (fun b => ?_) (.inl (.inr ⟨{ cls:=.type "list",data:=.seq vs.toArray },if_pos rfl⟩)) (fun b u z => ?_) (fun b z => ?_) fun _=>hk
    · by_cases hb:b=a
      · exact .inr ⟨_,_,if_pos hb⟩
      · exact .inl (if_neg hb)
    · by_cases hb:b=a
      · have z':=(if_pos hb).symm.trans z
        cases z'
        subst hb
        exact ⟨ha,by rw [List.length_map];exact hl,vs,_,rv,ha⟩
      · have z':=(if_neg hb).symm.trans z
        cases z'
    · by_cases hb:b=a
      · exact hb
      · exact absurd (if_neg hb) z
end L2
namespace L2
open PySem PySem.Spec PyProof.Rows
theorem walk_of {l:PySem.W.OpenLaw} {n k:Nat} {q:Program} {loose:List Str} {XP:(Str→Option Value)→Heap→Prop} {YP:World→Heap→Prop} {d:DefRec} {K:Params→PySem.W.Frag} {CX:World→CXT} {sp:World→Sp} {x:Str}
    (hn:l.most=some n) (hn2:n≤sizeLine) (hdf:d.params.defaults = []) (hr:Room k callerA)
    (hY:∀ (w:World) (h:Heap),YP w h→(K w.params).In h)
    (F:∀ (w:World) (mg:Str→Option Value) (fa:Addr) (h:Heap),(K w.params).In h→h.Ns mainGlobals mg→mg d.name=some (.ref fa) →
      ∃ fd:FuncData,(∀ (s:Shared) (u:Value),BindsTo s fd ⟨[u],[]⟩ [(x,u)]) ∧
        ∀ base:Heap,(K w.params).In base→base.Ns mainGlobals mg→FnOk l.prog w (K w.params) mg base (CX w) k fa fd [x] (sp w))
    (hsp:∀ (w:World) (H:Hp) (a:Addr) (ns:List Int),ns.length≤n→Only H→SqL (K w.params) H a (ns.map V.int)→sp w [.ref a] H (fun v _=>v = .bl true) fun _ _ _=>False)
    (hCX:∀ (w:World) (H:Hp) (s:Shared) (e:Value) (s':Shared),CX w [] H s (fun _ _ _=>False) e s'→False) :
    PySem.W.WalkO q loose XP YP l.row.toRowW d [] (fun f vs=>PySem.call f vs):=by
  refine Att.attach_call hn hdf fun w s₀ s₁ mg mb fa o pm cd doc a vs ns G Y ho hd hcd hmg hobj hints hlen hg => ?_
  have KX:=hY w _ Y
  obtain ⟨fd,hb,hF⟩:=F w mg fa _ KX G.T.g hmg
  exact law_call KX G.T.g G.T.b G.T.builtins G.T.nolimit hg hobj hints (Nat.le_trans hlen hn2) hr hF hb (fun H hO hS=>hsp w H a ns hlen hO hS) fun H e s'=>hCX w H s₁ e s'
end L2
namespace L2
open PySem PySem.Spec PyProof.Rows
def inClass (s:Stmt) (j:Nat):Stmt:=match s with
  | .ClassDef _ _ _ body _ _ _ _ _ _ _=>body.getD j (.Pass ⟨0,0,0,0⟩)
  | _ => .Pass ⟨0,0,0,0⟩
def defArgs (s:Stmt):Arguments:=match s with
  | .FunctionDef _ a _ _ _ _ _ _ _ _=>a
  | _ => { posonlyargs:=[],args:=[],vararg:=none,kwonlyargs:=[],kw_defaults:=[],kwarg:=none,defaults:=[] }
def defBody (s:Stmt):List Stmt:=match s with
  | .FunctionDef _ _ b _ _ _ _ _ _ _=>b
  | _ => []
def defScope (s:Stmt):Scope:=match s with
  | .FunctionDef _ _ _ _ _ _ sc _ _ _=>sc
  | _ => { kind:=.function,names:=[],isGenerator:=false,isCoroutine:=false }
structure Fun (K:PySem.W.Frag) (x qual:Str) (st:Stmt) (f:Addr) (fd:FuncData):Prop where
  ex:∃ (oc:Value) (od:Option Addr) (kV doc pm:Value) (an:Option Addr) (cdv ct:Value) (osl:Array (Option Value)),
    fd=PySem.W.fnOf x qual (defArgs st) (defBody st) (defScope st) .none kV doc pm an cdv ct∧K.lookup f=some ⟨oc,od,.func fd,osl⟩∧PySem.W.codeIn K cdv qual=true
  kp:PySem.W.keepIn K (.ref f)=true
section
variable {P:Program} {w:World} {K:PySem.W.Frag} {mg:Str→Option Value} {base:Heap}
theorem Fun.binds {x qual:Str} {st:Stmt} {f:Addr} {fd:FuncData} {ps:List Str} (F:Fun K x qual st f fd)
    (h:∀ (kV doc pm:Value) (an:Option Addr) (cdv ct:Value) (us:List Value),us.length=ps.length→bindArgs (PySem.W.fnOf x qual (defArgs st) (defBody st) (defScope st) .none kV doc pm an cdv ct) ⟨us,[]⟩=pure (ps.zip us)):Binds K fd ps []:=by
  obtain ⟨oc,od,kV,doc,pm,an,cdv,ct,osl,rfl,lk,hcd⟩:=F.ex
  exact .all (h kV doc pm an cdv ct)
theorem fun_mk {x qual:Str} {st:Stmt} {f:Addr} {oc:Value} {od an:Option Addr} {osl:Array (Option Value)} {kV doc pm cdv ct:Value} (l:K.lookup f=some ⟨oc,od,.func (PySem.W.fnOf x qual (defArgs st) (defBody st) (defScope st) .none kV doc pm an cdv ct),osl⟩)
    (c:PySem.W.codeIn K cdv qual=true) (k:PySem.W.keepIn K (.ref f)=true):Fun K x qual st f (PySem.W.fnOf x qual (defArgs st) (defBody st) (defScope st) .none kV doc pm an cdv ct):=⟨⟨oc,od,kV,doc,pm,an,cdv,ct,osl,rfl,l,c⟩,k⟩
end
section
variable {X:Cx}
theorem pv (i:Nat) {x:Str} {pos:Pos} (hN:X.N[i]? = some x:=by rfl) (hv:Vis X.env.scope x:=by first | exact Or.inl rfl | exact Or.inr (Or.inl rfl) | exact Or.inr (Or.inr rfl)) (hd:(x == ("__debug__" : Str))=false:=by decide)
    (hcd:(x == ("__classdict__" : Str))=false:=by decide):PE X (.Name x pos) (tVar i):=pe_var hN hv hd hcd
end
def Same (H H':Hp):Prop:=∀ b o,H b=some o→H' b=some o
theorem Same.refl (H:Hp):Same H H:=fun _ _ h=>h
theorem Same.trans {H H1 H2:Hp} (a:Same H H1) (b:Same H1 H2):Same H H2:=fun c o h=>b c o (a c o h)
theorem Same.free {H H':Hp} (e:Same H H') {l:Addr} (h:H' l=Option.none):H l=Option.none:=by
  cases q:H l with
  | none=>rfl
  | some o =>
    rw [e l o q] at h
    cases h
theorem Same.seq {K:PySem.W.Frag} {H H':Hp} {a:Addr} {xs:List V} (e:Same H H') (h:SqL K H a xs):SqL K H' a xs:=by
  rcases h with (h | ⟨o,h⟩) | h
  · exact .inl (.inl (e _ _ h))
  · exact .inl (.inr ⟨o,e _ _ h⟩)
  · exact .inr h
end L2
namespace M2
open PySem PySem.Spec PyProof.Rows L2
section
variable {X:Cx} {a b c e:Expr} {ta tb tc te:TE} {pos:Pos}
theorem PE.wk {t t':TE} (h:PE X e t) (i:∀ σ H Q,t' σ H Q→t σ H Q):PE X e t':=fun pins s σ H Q I q=>h pins s σ H Q I (i σ H Q q)
theorem PS.wk {st:Stmt} {t t':TS} (h:PS X st t) (i:∀ D σ H,t' D σ H→t D σ H):PS X st t':=fun pins s σ H D I q=>h pins s σ H D I (i D σ H q)
theorem OpR.wk {f:Value→Value→Sem Value} {r r':R2} (h:OpR X f r) (i:∀ x y H Q,r' x y H Q→r x y H Q):OpR X f r':=fun pins s σ H x y v u Q I rx ry q=>h pins s σ H x y v u Q I rx ry (i x y H Q q)
theorem UnR.wk {f:Value→Sem Value} {r r':V→Hp→VK→Prop} (h:UnR X f r) (i:∀ x H Q,r' x H Q→r x H Q):UnR X f r':=fun pins s σ H x v Q I rx q=>h pins s σ H x v Q I rx (i x H Q q)
theorem CallR.wk {f:Value} {r r':List V→Hp→VK→Prop} (h:CallR X f r) (i:∀ xs H Q,r' xs H Q→r xs H Q):CallR X f r':=fun pins s σ H xs us Q I r q=>h pins s σ H xs us Q I r (i xs H Q q)
theorem IxR.wk {r r':R2} (h:IxR X r) (i:∀ x y H Q,r' x y H Q→r x y H Q):IxR X r':=fun va sl pins s σ H x y v u Q I rx ry q=>h va sl pins s σ H x y v u Q I rx ry (i x y H Q q)
theorem SlR.wk {r r':V→Option Int→Option Int→Hp→VK→Prop} (h:SlR X r) (i:∀ x lo hi H Q,r' x lo hi H Q→r x lo hi H Q):SlR X r':=fun pins s σ H x v vl vu lo hi sl Q I rx hs pl pu q=>h pins s σ H x v vl vu lo hi sl Q I rx hs pl pu (i x lo hi H Q q)
def mVar (i:Nat):TE:=fun σ H Q=>match σ[i]? with
  | some (some v)=>Q v H
  | _=>False
theorem mVar_to {i:Nat} {σ : L2.St} {H:Hp} {Q:VK} (h:mVar i σ H Q):tVar i σ H Q:=by
  unfold mVar at h
  split at h
  · exact ⟨_,by assumption,h⟩
  · exact h.elim
theorem mv (i:Nat) {x:Str} {pos:Pos} (hN:X.N[i]? = some x:=by rfl) (hv:Vis X.env.scope x:=by first | exact Or.inl rfl | exact Or.inr (Or.inl rfl) | exact Or.inr (Or.inr rfl)) (hd:(x == ("__debug__" : Str))=false:=by decide)
    (hcd:(x == ("__classdict__" : Str))=false:=by decide):PE X (.Name x pos) (mVar i):=PE.wk (pe_var hN hv hd hcd) fun _ _ _ h=>mVar_to h
def bOf (x:V) (k:Bool→Prop):Prop:=match x with
  | .bl c=>k c
  | _=>False
theorem bOf_to {x:V} {k:Bool→Prop} (h:bOf x k):∃ c,x = .bl c∧k c:=by
  cases x with
  | bl c=>exact ⟨c,rfl,h⟩
  | _=>exact h.elim
def mTest (t:TE):TT:=fun σ H Q=>t σ H fun x H1=>bOf x fun c=>Q c H1
theorem mt_cmp {op:CmpOp} {r:R2} (ho:OpR X (compareOp op) r) (ha:PE X a ta) (hb:PE X b tb) (hm:behindInMarks op b=false):PT X (.Compare a [op] [b] pos) (mTest (tOp r ta tb)):=by
  intro pins s σ H Q I h
  refine wpAny_isTrue_Compare1 (thn (ha pins s σ H _ I h) fun v s1 ⟨x,H1,I1,r1,q1⟩=>thn (hb pins s1 σ H1 _ I1 q1) fun u s2 ⟨y,H2,I2,r2,q2⟩ =>
    thn (ho pins s2 σ H2 x y v u _ I2 r1 r2 q2) fun c s3 ⟨z,H3,I3,r3,q3⟩ => ?_) hm
  obtain ⟨k,e,q3⟩:=bOf_to q3
  subst e
  cases r3
  exact wpAny_truthy_bool ⟨H3,I3,q3⟩
def mChain (r r':R2) (ta tb tc:TE):TE:=fun σ H Q=>ta σ H fun x H1=>tb σ H1 fun y H2=>r x y H2 fun z H3=>bOf z fun k =>
  (if k=true then tc σ H3 fun w' H4=>r' y w' H4 Q else Q (.bl false) H3)
theorem me_chain {op op':CmpOp} {r r':R2} (ho:OpR X (compareOp op) r) (ho':OpR X (compareOp op') r') (ha:PE X a ta) (hb:PE X b tb) (hc:PE X c tc)
    (hm:lastMarks [op,op'] [b,c]=false:=by with_unfolding_all rfl):PE X (.Compare a [op,op'] [b,c] pos) (mChain r r' ta tb tc):=by
  intro pins s σ H Q I h
  refine Compare_chain (thn (ha pins s σ H _ I h) fun v s1 ⟨x,H1,I1,r1,q1⟩=>chain_link (thn (hb pins s1 σ H1 _ I1 q1) fun u s2 ⟨y,H2,I2,r2,q2⟩ =>
    thn (ho pins s2 σ H2 x y v u _ I2 r1 r2 q2) fun d s3 ⟨z,H3,I3,r3,q3⟩ => ?_)) hm
  obtain ⟨k,e,q3⟩:=bOf_to q3
  subst e
  cases r3
  refine wpAny_truthy_bool ?_
  cases k with
  | false=>exact ite_ff ⟨.bl false,H3,I3,rfl,q3⟩
  | true=>exact ite_tt (chain_last (thn (hc pins s3 σ H3 _ I3 q3) fun w' s4 ⟨z',H4,I4,r4,q4⟩=>ho' pins s4 σ H4 y z' u w' Q I4 r2 r4 q4))
def mAndV (ta tb:TE):TE:=fun σ H Q=>ta σ H fun x H1=>bOf x fun c=>if c=true then tb σ H1 Q else Q (.bl false) H1
def mNotV (ta:TE):TE:=fun σ H Q=>ta σ H fun x H1=>bOf x fun c=>Q (.bl (!c)) H1
variable {rest:List Expr}
theorem me_and (ha:PE X a ta) (hb:PE X (.BoolOp .And (b::rest) pos) tb):PE X (.BoolOp .And (a::b::rest) pos) (mAndV ta tb):=by
  intro pins s σ H Q I h
  refine BoolOp_and (thn (ha pins s σ H _ I h) fun v s1 ⟨x,H1,I1,r1,q1⟩ => ?_)
  obtain ⟨c,rfl,q1⟩:=bOf_to q1
  cases r1
  refine wpAny_truthy_bool ?_
  cases c with
  | true=>exact hb pins s1 σ H1 Q I1 q1
  | false=>exact ⟨.bl false,H1,I1,rfl,q1⟩
theorem me_not (ha:PE X a ta):PE X (.UnaryOp .Not a pos) (mNotV ta):=by
  intro pins s σ H Q I h
  refine UnaryOp_ (thn (ha pins s σ H _ I h) fun v s1 ⟨x,H1,I1,r1,q1⟩ => ?_)
  obtain ⟨c,rfl,q1⟩:=bOf_to q1
  cases r1
  exact not_of (wpAny_truthy_bool ⟨.bl (!c),H1,I1,rfl,q1⟩)
def mI (C:Int→Int→Prop) (g:Int→Int→V):R2:=fun x y H Q=>match x,y with
  | .int i,.int j=>C i j∧Q (g i j) H
  | _,_=>False
def mI0 (g:Int→Int→V):R2:=fun x y H Q=>match x,y with
  | .int i,.int j=>Q (g i j) H
  | _,_=>False
theorem mI_to {C:Int→Int→Prop} {g:Int→Int→V} (x y:V) (H:Hp) (Q:VK) (h:mI C g x y H Q):rI C g x y H Q:=by
  cases x with
  | int i =>
    cases y with
    | int j=>exact ⟨i,j,rfl,rfl,h.1,h.2⟩
    | _=>exact h.elim
  | _=>exact h.elim
theorem mI0_to {g:Int→Int→V} (x y:V) (H:Hp) (Q:VK) (h:mI0 g x y H Q):rI0 g x y H Q:=by
  cases x with
  | int i =>
    cases y with
    | int j=>exact ⟨i,j,rfl,rfl,h⟩
    | _=>exact h.elim
  | _=>exact h.elim
def mAdd:R2:=fun x y H Q=>match x,y with
  | .int i,.int j=>Q (.int (i+j)) H
  | .str i,.str j=>i.length+j.length≤sizeLine∧Q (.str (i++j)) H
  | _,_=>False
theorem om_add:OpR X (binaryOp .Add) mAdd:=OpR.wk (op_add.or op_add_str) fun x y H Q h=>by
  cases x with
  | int i =>
    cases y with
    | int j=>exact .inl ⟨i,j,rfl,rfl,h⟩
    | _=>exact h.elim
  | str i =>
    cases y with
    | str j=>exact .inr ⟨i,j,rfl,rfl,h.1,h.2⟩
    | _=>exact h.elim
  | _=>exact h.elim
theorem om_sub:OpR X (binaryOp .Sub) (mI0 fun i j => .int (i-j)):=OpR.wk op_sub mI0_to
def CMulB (i j:Int):Prop:=CMul i j∨(Builtin.Int.intBits i≤1048576∧Builtin.Int.intBits j≤1048576)
theorem CMulB.ok {i j:Int} (h:CMulB i j):IntMulOk i j:=by
  rcases h with h | ⟨h1,h2⟩
  · exact h.ok
  · exact IntMulOk.of_le h1 h2 (by decide)
theorem om_mul:OpR X (binaryOp .Mult) (mI CMulB fun i j => .int (i*j)):=OpR.wk (opI (C:=CMulB) (g:=fun i j=>i*j) fun _ _ _ _ _ _ _ hc q=>mul_int q hc.ok) mI_to
def CFdv (_ j:Int):Prop:=j≠0∧Builtin.Int.intBits j≤8000
theorem CFdv.py {i j:Int} (h:CFdv i j):Builtin.divisionGoesByPylong i j=false:=by
  refine PyProof.noPylong_of_log2 ?_
  have hb:=intBits_le_iff.mp h.2
  have h0:j.natAbs≠0:=by have:=h.1;omega
  exact Nat.lt_of_lt_of_le ((Nat.log2_lt h0).mpr hb) (by decide)
theorem om_fdiv:OpR X (binaryOp .FloorDiv) (mI CFdv fun i j => .int (i.fdiv j)):=OpR.wk (opI (C:=CFdv) (g:=fun i j=>i.fdiv j) fun _ _ _ _ _ _ _ hc q=>floordiv_int hc.1 q (.inl hc.py)) mI_to
theorem om_mod:OpR X (binaryOp .Mod) (mI (fun _ j=>j≠0) fun i j => .int (i.fmod j)):=OpR.wk op_modN mI_to
theorem om_pow:OpR X (binaryOp .Pow) (mI CPow fun i j => .int (i ^ j.toNat)):=OpR.wk op_pow mI_to
theorem om_lt:OpR X (compareOp .Lt) (mI0 fun i j => .bl (decide (i<j))):=OpR.wk op_lt mI0_to
theorem om_le:OpR X (compareOp .LtE) (mI0 fun i j => .bl (decide (i≤j))):=OpR.wk op_le mI0_to
theorem om_gt:OpR X (compareOp .Gt) (mI0 fun i j => .bl (decide (j<i))):=OpR.wk op_gt mI0_to
def mU (g:Int→V):V→Hp→VK→Prop:=fun x H Q=>match x with
  | .int i=>Q (g i) H
  | _=>False
theorem um_neg:UnR X (unaryOp .USub) (mU fun i => .int (-i)):=UnR.wk un_neg fun x H Q h=>by
  cases x with
  | int i=>exact ⟨i,rfl,h⟩
  | _=>exact h.elim
def mMin2:List V→Hp→VK→Prop:=fun xs H Q=>match xs with
  | [.int i,.int j]=>Q (.int (if j<i then j else i)) H
  | _=>False
theorem cm_min2 (hc:X.calm=true):CallR X (.builtin "min") mMin2:=CallR.wk (call_min2 hc) fun xs H Q h=>by
  unfold mMin2 at h
  split at h
  · exact ⟨_,_,rfl,h⟩
  · exact h.elim
def mMax2:List V→Hp→VK→Prop:=fun xs H Q=>match xs with
  | [.int i,.int j]=>Q (.int (if j>i then j else i)) H
  | _=>False
theorem cm_max2 (hc:X.calm=true):CallR X (.builtin "max") mMax2:=CallR.wk (call_max2 hc) fun xs H Q h=>by
  unfold mMax2 at h
  split at h
  · exact ⟨_,_,rfl,h⟩
  · exact h.elim
def mLen (K:PySem.W.Frag):List V→Hp→VK→Prop:=fun xs H Q=>match xs with
  | [.str y]=>y.length≤sizeLine∧Q (.int (y.length:Int)) H
  | [.ref p] => ∃ ys,(SqL K H p ys∨SqT K H p ys)∧Q (.int (ys.length:Int)) H
  | _=>False
theorem cm_len:CallR X (.builtin "len") (mLen X.K):=CallR.wk call_len fun xs H Q h=>by
  unfold mLen at h
  split at h
  · exact ⟨_,_,rfl,⟨h.1,rfl⟩,h.2⟩
  · obtain ⟨ys,h1,h2⟩:=h
    refine ⟨_,ys.length,rfl,?_,h2⟩
    rcases h1 with h1 | h1
    · exact .inl ⟨ys,h1,rfl⟩
    · exact .inr ⟨ys,h1,rfl⟩
  · exact h.elim
def mIx (K:PySem.W.Frag):R2:=fun x y H Q=>match x,y with
  | .ref p,.int i => ∃ xs v,(SqL K H p xs∨SqT K H p xs)∧atI xs i=some v∧Q v H
  | .str z,.int i => ∃ c,z.length≤sizeLine∧atI z.cps.toList i=some c∧Q (.str ⟨#[c]⟩) H
  | _,_=>False
theorem xm_ix:IxR X (mIx X.K):=IxR.wk ix_seq fun x y H Q h=>by
  cases x with
  | ref p =>
    cases y with
    | int i =>
      obtain ⟨xs,v,h1,h2,h3⟩:=h
      rcases h1 with h1 | h1
      · exact .inl ⟨p,xs,i,v,rfl,rfl,h1,h2,h3⟩
      · exact .inr (.inl ⟨p,xs,i,v,rfl,rfl,h1,h2,h3⟩)
    | _=>exact h.elim
  | str z =>
    cases y with
    | int i =>
      obtain ⟨c,h1,h2,h3⟩:=h
      exact .inr (.inr ⟨z,i,c,rfl,rfl,h1,h2,h3⟩)
    | _=>exact h.elim
  | _=>exact h.elim
def iOf (x:V) (k:Int→Prop):Prop:=match x with
  | .int i=>k i
  | _=>False
def mPart (t:TE):TO:=fun σ H Q=>t σ H fun x H1=>iOf x fun i=>Q (some i) H1
theorem pom_some (h:PE X e te):PO X (some e) (mPart te):=by
  intro pins s σ H Q I hw
  rw [evalPart_some]
  refine thn (h pins s σ H _ I hw) fun u s1 ⟨x,H1,I1,r1,q1⟩ => ?_
  cases x with
  | int i =>
    obtain ⟨t,rfl⟩:=r1
    exact ⟨some i,H1,I1,.int i t,q1⟩
  | _=>exact q1.elim
def mSlL (K:PySem.W.Frag):V→Option Int→Option Int→Hp→VK→Prop:=fun x lo hi H Q=>match x with
  | .ref a => ∃ xs,SqL K H a xs∧∀ p,H p=none→Q (.ref p) (upd H p (.lst (cutV xs lo hi)))
  | _=>False
theorem slm_list:SlR X (mSlL X.K):=SlR.wk sl_list fun x lo hi H Q h=>by
  cases x with
  | ref a =>
    obtain ⟨xs,h1,h2⟩:=h
    exact ⟨a,xs,rfl,h1,h2⟩
  | _=>exact h.elim
end
end M2
namespace M2
open PySem PySem.Spec PyProof.Rows L2
section
variable {X:Cx} {tg:Expr}
end
mutual
def Rp (K:PySem.W.Frag) (H:Hp):PyData→V→Prop
  | .none,v=>v = .non
  | .bool b,v=>v = .bl b
  | .int i,v=>v = .int i
  | .str x,v=>v = .str x
  | .tuple ds,v => ∃ a xs,v = .ref a∧SqT K H a xs∧RpA K H ds xs
  | .list ds,v => ∃ a xs,v = .ref a∧SqL K H a xs∧RpA K H ds xs
  | .dict _,_=>False
def RpA (K:PySem.W.Frag) (H:Hp):List PyData→List V→Prop
  | [],xs=>xs = []
  | d::ds,xs => ∃ x r,xs=x::r∧Rp K H d x∧RpA K H ds r
end
theorem Same.tup {K:PySem.W.Frag} {H H':Hp} {a:Addr} {xs:List V} (e:Same H H') (h:SqT K H a xs):SqT K H' a xs:=by
  rcases h with (h | ⟨o,h⟩) | h
  · exact .inl (.inl (e _ _ h))
  · exact .inl (.inr ⟨o,e _ _ h⟩)
  · exact .inr h
theorem Same.upd {H:Hp} {p:Addr} {o:HO} (h:H p=none):Same H (upd H p o):=fun b u e=>by
  rw [upd_ne (ne_of_none e h)]
  exact e
mutual
theorem Rp.same {K:PySem.W.Frag} {H H':Hp} (e:Same H H'):∀ (d:PyData) (v:V),Rp K H d v→Rp K H' d v
  | .none,_,h=>by unfold Rp at h ⊢;exact h
  | .bool _,_,h=>by unfold Rp at h ⊢;exact h
  | .int _,_,h=>by unfold Rp at h ⊢;exact h
  | .str _,_,h=>by unfold Rp at h ⊢;exact h
  | .tuple ds,_,h=>by
    unfold Rp at h ⊢
    obtain ⟨a,xs,h1,h2,h3⟩:=h
    exact ⟨a,xs,h1,Same.tup e h2,RpA.same e ds xs h3⟩
  | .list ds,_,h=>by
    unfold Rp at h ⊢
    obtain ⟨a,xs,h1,h2,h3⟩:=h
    exact ⟨a,xs,h1,e.seq h2,RpA.same e ds xs h3⟩
  | .dict _,_,h=>by unfold Rp at h;exact h.elim
theorem RpA.same {K:PySem.W.Frag} {H H':Hp} (e:Same H H'):∀ (ds:List PyData) (xs:List V),RpA K H ds xs→RpA K H' ds xs
  | [],_,h=>by unfold RpA at h ⊢;exact h
  | d::ds,_,h=>by
    unfold RpA at h ⊢
    obtain ⟨x,r,h1,h2,h3⟩:=h
    exact ⟨x,r,h1,Rp.same e d x h2,RpA.same e ds r h3⟩
end
section
variable {X:Cx} {pins:List (Addr×Obj)} {σ : L2.St} {H:Hp} {s:Shared}
mutual
theorem Rp.reads (I:Inv X pins σ H s):∀ (d:PyData) (v:V) (u:Value),Rp X.K H d v→RelV v u→∃ as,Reads s.heap u d as
  | .none,v,u,h,r=>by
    unfold Rp at h;subst h;cases r;exact ⟨_,.none⟩
  | .bool b,v,u,h,r=>by
    unfold Rp at h;subst h;cases r;exact ⟨_,.bool b⟩
  | .int i,v,u,h,r=>by
    unfold Rp at h;subst h;obtain ⟨t,rfl⟩:=r;exact ⟨_,.int i t⟩
  | .str x,v,u,h,r=>by
    unfold Rp at h;subst h;obtain ⟨t,rfl⟩:=r;exact ⟨_,.str x t⟩
  | .tuple ds,v,u,h,r=>by
    unfold Rp at h
    obtain ⟨a,xs,h1,h2,h3⟩:=h
    subst h1
    cases r
    obtain ⟨its,rv,⟨o,e,hc,n,hd⟩,hz⟩:=I.tuple h2
    obtain ⟨as,ra⟩:=RpA.reads I ds xs its h3 rv
    exact ⟨_,.tuple e hc hd (by simpa using ra)⟩
  | .list ds,v,u,h,r=>by
    unfold Rp at h
    obtain ⟨a,xs,h1,h2,h3⟩:=h
    subst h1
    cases r
    obtain ⟨its,rv,⟨o,n,e,hc,hdd,hd⟩,hz⟩:=I.list h2
    obtain ⟨as,ra⟩:=RpA.reads I ds xs its h3 rv
    exact ⟨_,.list e hc hd (by simpa using ra)⟩
  | .dict _,_,_,h,_=>by unfold Rp at h;exact h.elim
theorem RpA.reads (I:Inv X pins σ H s):∀ (ds:List PyData) (xs:List V) (us:List Value),RpA X.K H ds xs→Vals xs us→∃ as,ReadsAll s.heap us ds as
  | [],xs,us,h,r=>by
    unfold RpA at h;subst h;cases r;exact ⟨_,.nil⟩
  | d::ds,xs,us,h,r=>by
    unfold RpA at h
    obtain ⟨x,q,h1,h2,h3⟩:=h
    subst h1
    cases r with
    | cons r1 r2 =>
      obtain ⟨as,ra⟩:=Rp.reads I d x _ h2 r1
      obtain ⟨bs,rb⟩:=RpA.reads I ds q _ h3 r2
      exact ⟨_,.cons ra rb⟩
end
end
def mEqD (K:PySem.W.Frag) (neg:Bool):R2:=fun x y H Q => ∃ d e,Rp K H d x∧Rp K H e y∧d.canLay0=true∧e.canLay0=true∧min d.depth e.depth≤60∧Q (.bl (if neg then !PyData.eqv d e else PyData.eqv d e)) H
section
variable {X:Cx}
theorem om_eqD (hu:X.A.units+64<cLine):OpR X (compareOp .Eq) (mEqD X.K false):=by
  intro pins s σ H x y v u Q I rx ry h
  obtain ⟨d,e,h1,h2,h3,h4,h5,q⟩:=h
  obtain ⟨as,ra⟩:=Rp.reads I d x v h1 rx
  obtain ⟨bs,rb⟩:=Rp.reads I e y u h2 ry
  exact SeqAt.compareEq_reads ra rb h3 h4 (by omega) ⟨.bl _,H,I,rfl,q⟩
theorem om_neD (hu:X.A.units+64<cLine):OpR X (compareOp .NotEq) (mEqD X.K true):=by
  intro pins s σ H x y v u Q I rx ry h
  obtain ⟨d,e,h1,h2,h3,h4,h5,q⟩:=h
  obtain ⟨as,ra⟩:=Rp.reads I d x v h1 rx
  obtain ⟨bs,rb⟩:=Rp.reads I e y u h2 ry
  exact SeqAt.compareNe_reads ra rb h3 h4 (by omega) ⟨.bl _,H,I,rfl,q⟩
end
section
variable {K:PySem.W.Frag}
end
end M2
namespace M3
open PySem PySem.Spec PyProof.Rows L2 M2
theorem hok_but {P:Program} {w:World} {H:Hp} {h h':Heap} {C:Addr} (x:HOk P w H h) (hC:H C=none) (k:∀ b u,b≠C→h.get? b=some u→h'.get? b=some u):HOk P w H h':=fun a o e =>
  (x a o e).stay (fun b u hb q=>k b u (by
    rcases hb with hb | hb
    · rw [hb];exact ne_of_none e hC
    · exact ne_of_none hb hC) q) (fun _ q=>q) fun _ _ q=>q
theorem closure_go {env:Env}:∀ (ns:List (Str×NameKind)) (cs:List (Str×Addr)),(∀ y∈ns,y.2 = .free→∃ c,env.cells.lookup y.1=some c)→(∀ x c,cs.lookup x=some c→env.cells.lookup x=some c) →
    ∃ cl,(forIn ns cs (fun (x:Str×NameKind) r=>if (x.2 == .free)=true then (do let c ← cellOf env x.1;pure (ForInStep.yield ((x.1,c)::r))) else pure (ForInStep.yield r)):Sem (List (Str×Addr)))=pure cl ∧
      (∀ x c,cl.lookup x=some c→env.cells.lookup x=some c)∧(∀ x,(∃ c,cs.lookup x=some c)→∃ c,cl.lookup x=some c)∧∀ y∈ns,y.2 = .free→∃ c,cl.lookup y.1=some c
  | [],cs,_,h2=>⟨cs,rfl,h2,fun _ z=>z,fun _ z=>nomatch z⟩
  | (n,k)::ns,cs,h1,h2=>by
    by_cases hk:k = .free
    · subst hk
      obtain ⟨c,hc⟩:=h1 (n,.free) List.mem_cons_self rfl
      have e:cellOf env n=pure c:=by unfold cellOf;rw [hc]
      have h2':∀ x d,((n,c)::cs).lookup x=some d→env.cells.lookup x=some d:=fun x d q=>by
        rw [List.lookup_cons] at q
        cases hx:x == n with
        | true =>
          rw [hx] at q
          have:x=n:=eq_of_beq hx
          subst this
          cases q
          exact hc
        | false =>
          rw [hx] at q
          exact h2 x d q
      obtain ⟨cl,q1,q2,q3,q4⟩:=closure_go ns ((n,c)::cs) (fun y hy=>h1 y (List.mem_cons_of_mem _ hy)) h2'
      refine ⟨cl,?_,q2,fun x ⟨d,hd⟩=>q3 x ?_,fun y hy hf => ?_⟩
      · rw [List.forIn_cons]
        simp only [beq_self_eq_true,if_true,e,pure_bind]
        exact q1
      · rw [List.lookup_cons]
        cases hx:x == n with
        | true=>exact ⟨c,rfl⟩
        | false=>exact ⟨d,hd⟩
      · rcases List.mem_cons.mp hy with rfl | hy
        · exact q3 n ⟨c,by rw [List.lookup_cons,beq_self_eq_true]⟩
        · exact q4 y hy hf
    · have hb:(k == NameKind.free)=false:=by simpa using hk
      obtain ⟨cl,q1,q2,q3,q4⟩:=closure_go ns cs (fun y hy=>h1 y (List.mem_cons_of_mem _ hy)) h2
      refine ⟨cl,?_,q2,q3,fun y hy hf => ?_⟩
      · rw [List.forIn_cons]
        simp only [hb,Bool.false_eq_true,if_false,pure_bind]
        exact q1
      · rcases List.mem_cons.mp hy with rfl | hy
        · exact absurd hf hk
        · exact q4 y hy hf
theorem closure_spec {scope:Scope} {env:Env} (h:∀ y∈scope.names,y.2 = .free→∃ c,env.cells.lookup y.1=some c) :
    ∃ cl,closureFor scope env=pure cl∧(∀ x c,cl.lookup x=some c→env.cells.lookup x=some c)∧∀ y∈scope.names,y.2 = .free→∃ c,cl.lookup y.1=some c:=by
  obtain ⟨cl,q1,q2,_,q4⟩:=closure_go (env:=env) scope.names [] h (fun x c z=>by simp at z)
  refine ⟨cl,?_,q2,q4⟩
  unfold closureFor
  have e:(forIn scope.names [] (fun (x:Str×NameKind) (r:List (Str×Addr))=>match x with
      | (name,kind)=>if (kind == .free)=true then (do let a ← cellOf env name;pure (ForInStep.yield ((name,a)::r))) else pure (ForInStep.yield r)):Sem (List (Str×Addr)))=pure cl:=q1
  first
    | (simp only [bind_pure];exact q1)
    | (rw [show ∀ (t:Sem (List (Str×Addr))),(do let r ← t;pure r)=t from fun t=>by simp];exact q1)
    | (simp only [q1,pure_bind])
def cxC (X:Cx) (N':List Str) (scope:Scope) (cl:List (Str×Addr)) (C:Addr) (s:Shared) (H:Hp) (fp:List Addr):Cx where
  prog:=X.prog
  w:=X.w
  K:=X.K
  mg:=X.mg
  base:=X.base
  A:=X.A
  N:=N'
  s₀ := s
  H₀ := H
  env:=compEnvC scope cl C X.env
  outer:=X.stack
  stack:=X.stack
  ex:=fp
  fn:=fun _=>false
  calm:=X.calm
  pn:=[]
  xe:=fun _ _=>False
def CapOk (X:Cx) (sc scope:Scope):List Str→List Nat→Prop
  | x::xs,j::js=>X.N[j]? = some x∧(scope.names.lookup x=some .free∧(sc.names.lookup x=some .cell∨sc.names.lookup x=some .free))∧CapOk X sc scope xs js
  | _,[]=>True
  | [],_::_=>False
def capSt (js:List Nat) (nl:Nat) (σ : L2.St):L2.St:=js.map (fun j:Nat=>(σ[j]?).getD none)++List.replicate nl none
theorem capOk_get {X:Cx} {sc scope:Scope} {σ : L2.St} {nl:Nat}:∀ {N':List Str} {js:List Nat} {i:Nat} {x:Str} {v:V},CapOk X sc scope N' js→N'[i]? = some x→(capSt js nl σ)[i]? = some (some v) →
    ∃ j:Nat,X.N[j]? = some x ∧ σ[j]? = some (some v)∧scope.names.lookup x=some .free∧(sc.names.lookup x=some .cell∨sc.names.lookup x=some .free)
  | N',[],i,x,v,_,_,h=>by
    unfold capSt at h
    rw [List.map_nil,List.nil_append,List.getElem?_replicate] at h
    split at h<;>cases h
  | [],_::_,_,_,_,c,_,_=>c.elim
  | y::N',j::js,0,x,v,c,h1,h2=>by
    obtain ⟨c1,c2,_⟩:=c
    simp at h1
    subst h1
    have e:(σ[j]?).getD none=some v:=by simpa [capSt] using h2
    refine ⟨j,c1,?_,c2⟩
    cases q : σ[j]? with
    | none=>rw [q] at e;cases e
    | some o=>rw [q] at e;exact congrArg some e
  | y::N',j::js,i+1,x,v,c,h1,h2=>by
    exact capOk_get (N':=N') (js:=js) (i:=i) c.2.2 (by simpa using h1) (by simpa [capSt] using h2)
section
variable {prog:Program} {w:World} {A:Around} {R:Result→Shared→Prop} {s:Shared}
theorem compLoop_own {elt target iter:Expr} {ifs:List Expr} {scope:Scope} {pos:Pos} {it acc:Value} {env:Env} (I:Nat→Shared→Prop)
    (turn:∀ n s,I n s→wpAny (model prog w) A (pyNext it) (fun r s₁ => match r with
      | none=>R (.ok .next) s₁
      | some v=>wpAny (model prog w) A (letOwnedTupleGo target it v) (fun _ s₁'=>wpAny (model prog w) A (assign target env v) (fun _ s₂ =>
          wpAny (model prog w) A (forIn ifs true fun c r=>if r=true then do let ok ← isTrue c env (eval c env);pure (ForInStep.yield ok) else pure (ForInStep.yield r)) (fun ok s₃ =>
            if ok=true then wpAny (model prog w) A (eval elt env) (fun x s₄ =>
              wpAny (model prog w) A (call (.builtin "list.append") [acc,x]) (fun _ s₅ => ∃ m,m<n∧I m s₅) (fun _ _=>False) s₄) (fun _ _=>False) s₃
            else ∃ m,m<n∧I m s₃) (fun _ _=>False) s₂) (fun _ _=>False) s₁') (fun _ _=>False) s₁) (fun _ _=>False) s)
    (n:Nat) (h:I n s) :
    codeAny (model prog w) A (.compLoop (.ListComp elt [⟨target,iter,ifs,0⟩] scope pos) 0 it acc env) R s:=by
  refine codeAny_loop rfl I (fun n s hI => ?_) n h
  show wpAny _ A ((compTurn (.ListComp elt [⟨target,iter,ifs,0⟩] scope pos) 0 it acc env).onRaise (fun x=>do noteFrame x env;theTreesLotGoes x)) _ _ s
  refine wpAny_noted (wpAny_noRaise ?_)
  rw [compTurn_list]
  refine wpAny_bind (wpAny_standAt (wpAny_bind (wpAny_mono (turn n s hI) (fun r s₁ h₁ => ?_) fun _ _ h'=>h')))
  cases r with
  | none=>exact wpAny_pure h₁
  | some v =>
    refine wpAny_bind (wpAny_mono h₁ (fun _ s₁' h₁' => ?_) fun _ _ h'=>h')
    refine wpAny_bind (wpAny_mono h₁' (fun _ s₂ h₂ => wpAny_bind (wpAny_mono h₂ (fun ok s₃ h₃ => ?_) fun _ _ h'=>h')) fun _ _ h'=>h')
    cases ok with
    | false=>exact wpAny_pure ⟨rfl,h₃⟩
    | true =>
      exact wpAny_bind (wpAny_bind (wpAny_mono h₃ (fun x s₄ h₄ => wpAny_bind (wpAny_mono h₄ (fun _ s₅ h₅ => wpAny_pure (wpAny_pure ⟨rfl,h₅⟩)) fun _ _ h'=>h')) fun _ _ h'=>h'))
end
def PTs (X:Cx) (ifs:List Expr) (t:TT):Prop :=
  ∀ (pins:List (Addr×Obj)) (s:Shared) (σ : L2.St) (H:Hp) (Q:Bool→Hp→Prop),Inv X pins σ H s→t σ H Q →
    wpAny (model X.prog X.w) X.A (forIn ifs true fun c r=>if r=true then do let ok ← isTrue c X.env (eval c X.env);pure (ForInStep.yield ok) else pure (ForInStep.yield r)) (TP X pins σ Q) X.xe s
def tYes:TT:=fun _ H Q=>Q true H
theorem pts_nil {X:Cx}:PTs X [] tYes:=fun _ _ _ H _ I h=>wpAny_tests_nil ⟨H,I,h⟩
theorem pts_one {X:Cx} {c:Expr} {t:TT} (h:PT X c t):PTs X [c] t:=fun pins s σ H Q I hw=>wpAny_tests_one (h pins s σ H Q I hw)
def tComp (js:List Nat) (nl:Nat) (wi:TI) (g:TG) (tt:TT) (te:TE):TE:=fun σ H Q=>wi σ H fun J H1 => ∀ D,H1 D=none →
  ∃ W:Nat→Nat→L2.St→Hp→Prop,(∃ m,W 0 m (capSt js nl σ) (upd H1 D (.lst [])))∧∀ i m σ' H',W i m σ' H' →
    (J.stop i H'∧Q (.ref D) H')∨(J.go i H'∧∃ N:L2.St→Hp→Prop,(∀ σ2 H2,N σ2 H2→∃ m',m'<m∧W (i+1) m' σ2 H2)∧∀ x H2,J.yld i H' x H2→g x σ' H2 fun σ2 H3=>tt σ2 H3 fun c H4 =>
      if c=true then te σ2 H4 fun y H5 => ∃ ys,H5 D=some (.lst ys)∧ys.length<sizeLine∧N σ2 (upd H5 D (.lst (ys ++ [y]))) else N σ2 H4)
section
variable {X:Cx} {elt tg iter:Expr} {ifs:List Expr} {scope:Scope} {pos:Pos} {wi:TI} {g:TG} {tt:TT} {te:TE}
theorem relabel_kind {sc:Scope} {env:Env}:∀ {names:List (Str×NameKind)} {x:Str} {k:NameKind},(∀ y∈names,y.2 ≠ .cell)→(k = .cell∨k = .free) →
    (names.map fun (n,k)=>if (k == NameKind.free && env.scope.kind == .function && env.kindOf n == some .cell) then (n,NameKind.cell) else (n,k)).lookup x=some k→(x,NameKind.free)∈names
  | [],x,k,_,_,h=>by simp at h
  | (n,q)::r,x,k,hc,hk,h=>by
    have ih:=@relabel_kind sc env r x k (fun y hy=>hc y (List.mem_cons_of_mem _ hy)) hk
    have hq:q ≠ .cell:=hc (n,q) List.mem_cons_self
    rw [List.map_cons] at h
    by_cases hx:x=n
    · subst hx
      by_cases hf:q = .free
      · subst hf
        exact List.mem_cons_self
      · exfalso
        have hb:(q == NameKind.free)=false:=by simpa using hf
        have e:(if (q == NameKind.free && env.scope.kind == .function && env.kindOf x == some .cell)=true then (x,NameKind.cell) else (x,q))=(x,q):=by
          rw [hb];rfl
        have h2:=h
        simp only [e,List.lookup_cons,beq_self_eq_true] at h2
        have:q=k:=Option.some.inj h2
        rcases hk with hk | hk
        · exact hq (this.trans hk)
        · exact hf (this.trans hk)
    · refine List.mem_cons_of_mem _ (ih ?_)
      have hn:(x == n)=false:=by simpa using hx
      by_cases c:(q == NameKind.free && env.scope.kind == .function && env.kindOf n == some .cell)=true
      · simp only [c,if_true,List.lookup_cons,hn] at h
        exact h
      · simp only [c,if_false,Bool.false_eq_true,List.lookup_cons,hn] at h
        exact h
theorem relabel_free {env:Env}:∀ {names:List (Str×NameKind)} {x:Str},names.lookup x=some .free →
    ¬ (names.map fun (n,k)=>if (k == NameKind.free && env.scope.kind == .function && env.kindOf n == some .cell) then (n,NameKind.cell) else (n,k)).lookup x=some .local
  | [],x,h=>by simp at h
  | (n,q)::r,x,h=>by
    intro h2
    rw [List.map_cons] at h2
    rw [List.lookup_cons] at h
    cases hx:x == n with
    | true =>
      rw [hx] at h
      cases h
      by_cases c:(NameKind.free == NameKind.free && env.scope.kind == .function && env.kindOf n == some .cell)=true
      · simp only [c,if_true,List.lookup_cons,hx] at h2
        cases h2
      · simp only [c,if_false,Bool.false_eq_true,List.lookup_cons,hx] at h2
        cases h2
    | false =>
      rw [hx] at h
      have ih:=relabel_free (env:=env) h
      by_cases c:(q == NameKind.free && env.scope.kind == .function && env.kindOf n == some .cell)=true
      · simp only [c,if_true,List.lookup_cons,hx] at h2
        exact ih h2
      · simp only [c,if_false,Bool.false_eq_true,List.lookup_cons,hx] at h2
        exact ih h2
theorem inv_block {pins:List (Addr×Obj)} {σ : L2.St} {H:Hp} {s:Shared} {N':List Str} {js:List Nat} {nl:Nat} {sc:Scope} {cl:List (Str×Addr)} {fp:List Addr} {h':Heap} {tk:Nat}
    (hsc:X.env.scope=sc) (hk:scope.kind = .function) (hcell:∀ y∈scope.names,y.2 ≠ .cell) (hcap:CapOk X sc scope N' js) (hlen:js.length+nl=N'.length)
    (h1:∀ x c,cl.lookup x=some c→X.env.cells.lookup x=some c) (h2:∀ y∈scope.names,y.2 = .free→∃ c,cl.lookup y.1=some c)
    (I:Inv X pins σ H s) (hf:∀ b∈fp,FpOk X pins H b) (hlt:∀ b∈fp,b<s.heap.objs.size)
    (hn:h'.Ns s.heap.objs.size (fun x=>([]:List (Str×Value)).reverse.lookup x)) (kp:∀ b o,s.heap.get? b=some o→h'.get? b=some o) :
    Inv (cxC X N' scope cl s.heap.objs.size s H fp) [] (capSt js nl σ) H { s with heap:=h',toks:=tk }:=by
  have kindIn:∀ x,((cxC X N' scope cl s.heap.objs.size s H fp).env.kindOf x=some .cell∨(cxC X N' scope cl s.heap.objs.size s H fp).env.kindOf x=some .free)→∃ c,cl.lookup x=some c:=fun x hx=>by
    have hm:(x,NameKind.free)∈scope.names:=by
      rcases hx with hx | hx
      · exact relabel_kind (sc:=sc) hcell (.inl rfl) hx
      · exact relabel_kind (sc:=sc) hcell (.inr rfl) hx
    exact h2 _ hm rfl
  refine ⟨⟨I.ok.mod,hk,I.ok.glob,I.ok.blt,Nat.le_refl _,fun x y c e1 e2=>I.ok.inj x y c (h1 x c e1) (h1 y c e2),kindIn,fun x c z _=>absurd z Bool.false_ne_true,I.ok.hd,I.ok.frames,.inl rfl,fun b hb=>⟨Nat.ne_of_lt (hlt b hb),fun x c e=>(hf b hb).2.2.2.2.1 x c (h1 x c e)⟩,
    I.bs,Nat.le_trans I.ok.bsz I.sz,fun b o e hb => ?_,fun b hb hz => ?_,I.stack,I.stkFree⟩,rfl,I.bare,Un.kept kp,⟨_,hn,fun i x v e1 e2 e3 => ?_⟩,fun x c e => ?_,I.hok.fresh (Nat.le_refl _),fun x c e=>I.freeC x c (h1 x c e),fun p hp => ?_,I.hok.kept kp,?_⟩
  · rcases (hf b hb).2.2.2.1 with z | z
    · exact I.ok.noex b o e z
    · exact absurd (Nat.lt_of_lt_of_le (Heap.lt_size e) (Nat.le_trans I.ok.bsz z)) (Nat.lt_irrefl _)
  · rcases List.mem_cons.mp (I.stkSub b hz) with z | z
    · exact (hf b hb).2.1 z
    · exact (hf b hb).2.2.1 z
  · obtain ⟨j,q1,q2,q0,q3⟩:=capOk_get hcap e1 e2
    obtain ⟨m,hm,hl⟩:=I.loc
    have hvis:Vis X.env.scope x:=by
      rw [hsc]
      rcases q3 with q3 | q3
      · exact .inr (.inl q3)
      · exact .inr (.inr q3)
    obtain ⟨u,ru,lk⟩:=hl j x v q1 q2 hvis
    refine ⟨u,ru,?_⟩
    rcases lk with ⟨k1,_⟩ | ⟨k1,c,hc,ic⟩
    · exfalso
      have k1':sc.names.lookup x=some .local:=by rw [← hsc];exact k1
      rcases q3 with q3 | q3<;>(rw [k1'] at q3;cases q3)
    · have e3':(cxC X N' scope cl s.heap.objs.size s H fp).env.kindOf x=some .local∨(cxC X N' scope cl s.heap.objs.size s H fp).env.kindOf x=some .cell∨(cxC X N' scope cl s.heap.objs.size s H fp).env.kindOf x=some .free:=e3
      rcases e3' with z | z
      · exact absurd z (relabel_free (env:=X.env) q0)
      · obtain ⟨d,hd⟩:=kindIn x z
        have:d=c:=by
          have:=h1 x d hd
          rw [hc] at this
          exact (Option.some.inj this).symm
        subst this
        exact .inr ⟨z,d,hd,by
          obtain ⟨o,ho,hd'⟩:=ic
          exact ⟨o,kp _ _ ho,hd'⟩⟩
  · obtain ⟨v,o,ho,hd⟩:=I.cell x c (h1 x c e)
    exact ⟨v,o,kp _ _ ho,hd⟩
  · exact absurd hp (by simp [cxC])
  · show _=N'.length
    rw [← hlen]
    simp [capSt]
theorem inv_behind {pins:List (Addr×Obj)} {σ σ':L2.St} {H H':Hp} {s s':Shared} {N':List Str} {cl:List (Str×Addr)} {fp:List Addr} {h':Heap} (I:Inv X pins σ H s) (hf:∀ b∈fp,FpOk X pins H b)
    (J:Inv (cxC X N' scope cl s.heap.objs.size s H fp) [] σ' H' s') (kp:∀ b u,b≠s.heap.objs.size→s'.heap.get? b=some u→h'.get? b=some u):Inv X pins σ H' { s' with heap:=h' }:=by
  have ne:∀ {b:Addr} {o:Obj},s.heap.get? b=some o→b≠s.heap.objs.size:=fun e=>Nat.ne_of_lt (Heap.lt_size e)
  have u:=J.base
  refine I.call' (ch:=fp) J.os ⟨fun b o e n hb hx=>kp b o (ne e) (u.keep b o e n hb hx),fun b o e n hb hx => ?_,fun b o e n hx=>u.free b o e n hx,fun b o e hx => ?_,u.tups,u.frzs,u.tbls⟩ (hok_but J.hok J.free kp) J.bare fun b hb => ?_
  · obtain ⟨sl,q⟩:=u.slot b o e n hb hx
    exact ⟨sl,kp b _ (ne e) q⟩
  · obtain ⟨o',q⟩:=u.there b o e hx
    exact ⟨o',kp b _ (ne e) q⟩
  · exact ⟨(hf b hb).2.2.2.1,(hf b hb).2.1,(hf b hb).2.2.2.2.1,(hf b hb).2.2.2.2.2⟩
theorem pe_comp (N':List Str) (js:List Nat) (nl:Nat) (sc:Scope) (hsc:X.env.scope=sc) (hcalm:X.calm=true)
    (hi:PI X.nox tg iter wi) (hg:∀ cl C s H fp,PG (cxC X.nox N' scope cl C s H fp) tg g) (ht:∀ cl C s H fp,PTs (cxC X.nox N' scope cl C s H fp) ifs tt) (he:∀ cl C s H fp,PE (cxC X.nox N' scope cl C s H fp) elt te)
    (hcap:CapOk X.nox sc scope N' js) (hlen:js.length+nl=N'.length:=by rfl)
    (hk:scope.kind = .function:=by rfl) (hcell:∀ y∈scope.names,y.2 ≠ .cell:=by decide +kernel) (hnames:∀ y∈scope.names,y.2 = .local→scope.names.lookup y.1=some .local:=by decide +kernel)
    (hfree:∀ y∈scope.names,y.2 = .free→(sc.names.lookup y.1=some .cell∨sc.names.lookup y.1=some .free):=by decide +kernel)
    (hs:∀ x,foldedSetIterable iter X.env x=pure x:=by intro _;rfl) :
    PE X.nox (.ListComp elt [⟨tg,iter,ifs,0⟩] scope pos) (tComp js nl wi g tt te):=by
  intro pins s σ H Q I h
  obtain ⟨cl,c1,c2,c3⟩:=closure_spec (scope:=scope) (env:=X.nox.env) fun y hy hf=>I.ok.has y.1 (by
    have:=hfree y hy hf
    rw [← hsc] at this
    exact this)
  rw [eval_ListComp]
  refine wpAny_comprehension_free (use:=none) rfl hs c1 hk hnames (thn (hi pins s σ H _ I h) fun v s1 h1=>thn h1 fun itv s2 h2 => ?_)
  obtain ⟨it,fp,tn,J,H2,e,I2,T,st2,f2,q2⟩:=h2
  subst e
  refine wpAny_newObj_type (wpAny_newFunctionEnv hcell (by intro y hy;simp at hy) (fun h₁ hns₁ hsb₁ => ?_) hk)
  dsimp only at hns₁ hsb₁ ⊢
  generalize hH3:s2.heap.push { cls:=.type "list",dict:=none,data:=.seq ([]:List Value).toArray }=Hp3 at hns₁ hsb₁ ⊢
  have hD:H2 s2.heap.objs.size=none:=I2.hok.fresh (Nat.le_refl _)
  have I3:Inv X.nox pins σ (upd H2 s2.heap.objs.size (.lst [])) { s2 with heap:=Hp3 }:=by
    rw [← hH3]
    exact I2.laid (t':=s2.toks) (fun b u e=>Heap.get?_push_of_some _ e) (Nat.le_refl _) ⟨Nat.zero_le _,[],0,.nil,Heap.get?_push_size _ rfl⟩
  have lt2:∀ b∈fp,b<s2.heap.objs.size:=fun b hb=>by
    obtain ⟨o,ho,_⟩:=T.obj 0 _ st2 b hb
    exact Heap.lt_size ho
  have sz3:Hp3.objs.size=s2.heap.objs.size+1:=by rw [← hH3,Heap.size_push]
  have f3:∀ b∈fp,FpOk X.nox pins (upd H2 s2.heap.objs.size (.lst [])) b:=fun b hb=>by
    obtain ⟨g0,g1⟩:=f2 b hb
    exact ⟨by rw [upd_ne (Nat.ne_of_lt (lt2 b hb))];exact g0,g1⟩
  have old:∀ b o,Hp3.get? b=some o→h₁.get? b=some o:=fun b o e=>hsb₁.extBut b o (Nat.ne_of_lt (Heap.lt_size e)) (Heap.get?_push_of_some _ e)
  obtain ⟨W,⟨m0,w0⟩,turn⟩:=q2 s2.heap.objs.size hD
  have I4:=inv_block (X:=X.nox) (N':=N') (js:=js) (nl:=nl) (sc:=sc) (scope:=scope) (cl:=cl) (fp:=fp) (h':=h₁) (tk:=s2.toks+([]:List (Str×Value)).length) hsc hk hcell hcap hlen c2 c3 I3 f3 (fun b hb=>by show b<Hp3.objs.size;rw [sz3];exact Nat.lt_succ_of_lt (lt2 b hb)) hns₁ old
  have st4:tn 0 h₁ := T.keep 0 _ _ st2 fun b hb o e=>old b o (by rw [← hH3];exact Heap.get?_push_of_some _ e)
  have fr4:∀ b∈fp,(upd H2 s2.heap.objs.size (.lst [])) b=none:=fun b hb=>(f3 b hb).1
  have stat:∀ {H':Hp},(∀ b∈fp,H' b=none)→∀ b∈fp,FpOk (cxC X.nox N' scope cl Hp3.objs.size { s2 with heap:=Hp3 } (upd H2 s2.heap.objs.size (.lst [])) fp) [] H' b:=fun {H'} hn b hb=>by
    obtain ⟨g0,g1,g2,g3,g4,g5⟩:=f3 b hb
    refine ⟨hn b hb,Nat.ne_of_lt (by show b<Hp3.objs.size;rw [sz3];exact Nat.lt_succ_of_lt (lt2 b hb)),fun z => ?_,.inl hb,fun x c e=>g4 x c (c2 x c e),fun p hp=>absurd hp (by simp [cxC])⟩
    rcases List.mem_cons.mp (I3.stkSub b z) with z | z
    · exact g1 z
    · exact g2 z
  have loop:∀ s₃ : Shared,s₃ = { s2 with heap:=h₁,toks:=s2.toks+([]:List (Str×Value)).length } →
      codeAny (model X.prog X.w) X.A (.compLoop (.ListComp elt [⟨tg,iter,ifs,0⟩] scope pos) 0 (.ref it) (.ref s2.heap.objs.size) (compEnvC scope cl Hp3.objs.size X.nox.env))
        (compPost (model X.prog X.w) X.A X.nox.xe none (EP X.nox pins σ Q) (.ref s2.heap.objs.size) Hp3.objs.size) s₃ := by
    rintro s₃ rfl
    refine compLoop_own (fun n s' => ∃ i σ' H',Inv (cxC X.nox N' scope cl Hp3.objs.size { s2 with heap:=Hp3 } (upd H2 s2.heap.objs.size (.lst [])) fp) [] σ' H' s'∧tn i s'.heap∧(∀ b∈fp,H' b=none)∧W i n σ' H') ?_ m0 ⟨0,_,_,I4,st4,fr4,w0⟩
    rintro n s5 ⟨i,σ5,H5,I5,st5,fr5,w5⟩
    rcases turn i n σ5 H5 w5 with ⟨stop,qn⟩ | ⟨go,N,hN,step⟩
    · refine thn (T.done (cxC X.nox N' scope cl Hp3.objs.size { s2 with heap:=Hp3 } (upd H2 s2.heap.objs.size (.lst [])) fp) rfl rfl rfl hcalm i [] s5 σ5 H5 (fun _ _=>False) I5 (stat fr5) st5 stop) fun r s6 ⟨hr,I6⟩ => ?_
      subst hr
      obtain ⟨m,hm,_⟩:=I6.loc
      refine ⟨m,hm,fun h' hs'=>⟨.ref s2.heap.objs.size,H5,inv_behind I3 f3 I6 (fun b u hb e=>hs'.extBut b u hb e),rfl,qn⟩⟩
    · refine thn (T.item (cxC X.nox N' scope cl Hp3.objs.size { s2 with heap:=Hp3 } (upd H2 s2.heap.objs.size (.lst [])) fp) rfl rfl rfl hcalm i [] s5 σ5 H5 (fun _ _=>False) I5 (stat fr5) st5 go) fun r s6 ⟨u,hr,h6⟩ => ?_
      subst hr
      refine thn h6 fun _ s7 ⟨x,H7,I7,r7,y7,st7,fr7⟩ => ?_
      have I7':=I7.pinned (stat fr7) (T.obj _ _ st7)
      have again:∀ {s8:Shared} {σ8:L2.St} {H8:Hp},Inv (cxC X.nox N' scope cl Hp3.objs.size { s2 with heap:=Hp3 } (upd H2 s2.heap.objs.size (.lst [])) fp) ([]++pinsAt fp s7.heap) σ8 H8 s8 →
          Inv (cxC X.nox N' scope cl Hp3.objs.size { s2 with heap:=Hp3 } (upd H2 s2.heap.objs.size (.lst [])) fp) [] σ8 H8 s8∧tn (i+1) s8.heap∧∀ b∈fp,H8 b=none:=fun {s8 σ8 H8} I8=>by
        refine ⟨I8.unpinned,T.keep _ _ _ st7 fun b hb o e=>(I8.pin (b,o) (List.mem_append_right _ (List.mem_append_right _ (mem_pinsAt hb e)))).1,fun b hb => ?_⟩
        obtain ⟨o,e,d⟩:=T.obj _ _ st7 b hb
        exact (I8.pin (b,o) (List.mem_append_right _ (List.mem_append_right _ (mem_pinsAt hb e)))).2.1
      refine thn (hg cl _ _ _ fp _ s7 σ5 H7 x u _ I7' r7 (step x H7 y7)) fun _ s8 ⟨σ8,H8,I8,q8⟩ => ?_
      refine thn (ht cl _ _ _ fp _ s8 σ8 H8 _ I8 q8) fun c s9 ⟨H9,I9,q9⟩ => ?_
      cases c with
      | false =>
        rw [if_neg Bool.false_ne_true] at q9 ⊢
        obtain ⟨m',hm',w9⟩:=hN _ _ q9
        obtain ⟨a1,a2,a3⟩:=again I9
        exact ⟨m',hm',i+1,σ8,H9,a1,a2,a3,w9⟩
      | true =>
        rw [if_pos rfl] at q9 ⊢
        refine thn (he cl _ _ _ fp _ s9 σ8 H9 _ I9 q9) fun yv s10 ⟨y,H10,I10,r10,ys,e10,l10,w10⟩ => ?_
        refine thn (mt_append _ s10 σ8 H10 (.ref s2.heap.objs.size) [y] (.ref s2.heap.objs.size) [yv] (fun _ H11=>N σ8 H11) I10 rfl (.cons r10 .nil) ⟨_,ys,y,rfl,rfl,e10,l10,w10⟩) fun _ s11 ⟨v11,H11,I11,_,w11⟩ => ?_
        obtain ⟨a1,a2,a3⟩:=again I11
        obtain ⟨m',hm',w11⟩:=hN _ _ w11
        exact ⟨m',hm',i+1,σ8,H11,a1,a2,a3,w11⟩
  exact codeAny_compStart_list (loop _ rfl) (T.self _ 0 _ _ _ st4 (loop _ rfl))
end
def Its (z:Str):It:=⟨fun i _=>i<z.cps.size,fun i H x H'=>H'=H∧∃ c,z.cps.toList[i]? = some c∧x = .str ⟨#[c]⟩,fun i _=>i=z.cps.size⟩
theorem turn_strW {P:Program} {w:World} {K:PySem.W.Frag} {tg:Expr} (it:Addr) (z:Str) (t:Tok) (ty:String)
    (hW:∀ A:Around,A.handled=none→Walks P w A it [it] [it] z.cps.size (SignAt z) (fun i h=>h.IsStrIter it ty z t i))
    (hS:∀ (A:Around) (i:Nat) (s:Shared) (Q:Value→Shared→Prop) (E:Value→Shared→Prop),s.heap.IsStrIter it ty z t i→Q (.ref it) s→wpAny (model P w) A (pyIter (.ref it)) Q E s)
    (hty : ["enumerate", "zip", "dict_itemiterator", "dict_reverseitemiterator", "odict_iterator", "itertools.zip_longest", "itertools.pairwise"].contains ty=false):Turn P w K tg (Its z) [it] it (fun i h=>h.IsStrIter it ty z t i) where
  mem:=by simp
  obj:=fun i h st b hb=>by
    have e:b=it:=by simpa using hb
    subst e
    obtain ⟨o,e,c,d⟩:=st
    exact ⟨o,e,fun v z=>by rw [d] at z;cases z⟩
  keep:=fun i h h' st k=>by
    obtain ⟨o,e,c,d⟩:=st
    exact ⟨o,k it (by simp) o e,c,d⟩
  item:=by
    intro X hP hw hK hc i pins s σ H E I hf st hg
    subst hP hw hK
    obtain ⟨f0,f1,f2,f3,f4,f5⟩:=hf it (by simp)
    refine (hW X.A (I.ok.hd hc)).item i s _ _ hg st fun v h' tk hv st' kk => ?_
    obtain ⟨c,u,hcu,rfl⟩:=hv
    have I1:Inv X pins σ H { s with heap:=h',toks:=tk }:=I.turned (fun b o hb e=>kk b o (by simpa using hb) e) f0 f1 f3 f4 f5
    obtain ⟨o,e,cl,d⟩:=id st'
    exact ⟨_,rfl,go_of (s:={ s with heap:=h',toks:=tk }) e cl d hty ⟨.str ⟨#[c]⟩,H,I1,⟨u,rfl⟩,⟨rfl,c,by simpa using hcu,rfl⟩,st',fun b hb=>(hf b hb).1⟩⟩
  done:=by
    intro X hP hw hK hc i pins s σ H E I hf st hg
    subst hP hw hK
    obtain ⟨f0,f1,f2,f3,f4,f5⟩:=hf it (by simp)
    have e:i=z.cps.size:=hg
    subst e
    exact (hW X.A (I.ok.hd hc)).done s _ _ st fun h' tk kk=>⟨rfl,I.turned (fun b o hb e=>kk b o (by simpa using hb) e) f0 f1 f3 f4 f5⟩
  self:=hS
section
variable {X:Cx} {tg:Expr}
end
end M3
namespace M4
open PySem PySem.Spec PyProof.Rows L2 M2 M3
section
variable {X:Cx}
theorem vals_bl {bs:List Bool}:∀ {us:List Value},Vals (bs.map V.bl) us→us=bs.map Value.bool:=by
  induction bs with
  | nil=>intro us r;rw [List.map_nil] at r;cases r;rfl
  | cons b bs ih =>
    intro us r
    rw [List.map_cons] at r
    cases r with
    | cons r1 r2 =>
      cases r1
      rw [ih r2]
      rfl
theorem all_range (bs:List Bool):(List.range (bs.map Value.bool).toArray.size).all (fun i=>bs.getD i false)=bs.all id:=by
  have e:(bs.map Value.bool).toArray.size=bs.length:=by simp
  rw [e,Bool.eq_iff_iff]
  simp only [List.all_eq_true,List.mem_range,id]
  constructor
  · intro h b hb
    obtain ⟨i,hi,rfl⟩:=List.mem_iff_getElem.mp hb
    have:=h i hi
    rw [List.getD_eq_getElem?_getD,List.getElem?_eq_getElem hi] at this
    exact this
  · intro h i hi
    rw [List.getD_eq_getElem?_getD,List.getElem?_eq_getElem hi]
    exact h _ (List.getElem_mem hi)
theorem truth_bools {prog:Program} {w:World} {A:Around} (bs:List Bool):TruthOf prog w A (fun i v=>(bs.map Value.bool).toArray[i]? = some v) (fun i=>bs.getD i false):=by
  intro i v s Q E hv hq
  have hv':bs[i]?.map Value.bool=some v:=by
    rw [← List.getElem?_map]
    simpa using hv
  cases hb:bs[i]? with
  | none=>rw [hb] at hv';cases hv'
  | some b =>
    rw [hb] at hv'
    cases hv'
    dsimp only at hq
    rw [List.getD_eq_getElem?_getD,hb] at hq
    exact wpAny_truthy_bool hq
def mAll (K:PySem.W.Frag):List V→Hp→VK→Prop:=fun xs H Q=>match xs with
  | [.ref p] => ∃ bs:List Bool,SqL K H p (bs.map V.bl)∧Q (.bl (bs.all id)) H
  | _=>False
theorem cm_all (hc:X.calm=true):CallR X (.builtin "all") (mAll X.K):=by
  intro pins s σ H xs us Q I r h
  unfold mAll at h
  split at h
  · rename_i p
    obtain ⟨bs,hS,q⟩:=h
    obtain ⟨u,rfl,ru⟩:=vals1 r
    cases ru
    obtain ⟨its,rv,pl,hz⟩:=I.list hS
    have e:=vals_bl rv
    subst e
    have hp:p≠s.heap.objs.size:=by
      obtain ⟨o,n,e,_⟩:=pl
      exact Nat.ne_of_lt (Heap.lt_size e)
    refine call_all_walk (wpAny_pyIter_list pl.isList ?_)
    refine ⟨s.heap.objs.size,_,_,_,_,_,_,rfl,Walks.list (A:=X.A.in1) (show X.A.in1.handled=none from I.ok.hd hc) s.heap.objs.size p hp (bs.map Value.bool).toArray,⟨⟨_,Heap.get?_push_size _ rfl,rfl,rfl⟩,pl.isList.at fun o e=>Heap.get?_push_of_some _ e⟩,truth_bools bs,fun h' tk k => ?_⟩
    rw [all_range]
    exact ⟨.bl _,H,I.kept fun b o e=>k b o (by simpa using Nat.ne_of_lt (Heap.lt_size e)) (Heap.get?_push_of_some _ e),rfl,q⟩
  · exact h.elim
end
abbrev S (l:List Nat):Str:=⟨l.toArray⟩
theorem S_of (z:Str):S z.cps.toList=z:=by
  cases z
  simp
theorem S_len (l:List Nat):(S l).length=l.length:=by simp [Str.length]
theorem len_S (z:Str):z.cps.toList.length=z.length:=by simp [Str.length]
def cutL (xs:List Nat) (lo hi:Option Int):List Nat:=(xs.drop (HT.sIx xs.length 0 lo)).take (HT.sIx xs.length xs.length hi-HT.sIx xs.length 0 lo)
theorem idx_eq (z:Str) (lo hi:Option Int):Builtin.Str.strSliceIndices lo hi 1 z.length=(List.range (HT.sIx z.length z.length hi-HT.sIx z.length 0 lo)).map (HT.sIx z.length 0 lo + ·):=by
  have hc:∀ (o:Option Int) (d:Nat),d≤z.length→(match o with | none=>((d:Nat):Int) | some i=>max 0 (min (if i<0 then i+(z.length:Int) else i) (z.length:Int)))=((HT.sIx z.length d o:Nat):Int):=by
    intro o d hd
    cases o with
    | none=>rfl
    | some i =>
      show max 0 (min (if i<0 then i+(z.length:Int) else i) (z.length:Int))=((if i<0 then (i+(z.length:Int)).toNat else min i.toNat z.length:Nat):Int)
      by_cases h:i<0
      · rw [if_pos h,if_pos h];omega
      · rw [if_neg h,if_neg h];omega
  have e:Builtin.Str.strSliceIndices lo hi 1 z.length=sliceRange ((HT.sIx z.length 0 lo:Nat):Int) ((HT.sIx z.length z.length hi:Nat):Int) 1:=by
    have h1:=hc lo 0 (Nat.zero_le _)
    have h2:=hc hi z.length (Nat.le_refl _)
    unfold Builtin.Str.strSliceIndices
    simp only [show (1:Int)>0 by decide,if_true]
    rw [← h1,← h2]
    cases lo<;>cases hi<;>rfl
  rw [e,sliceRange_one]
theorem idx_cut (z:Str) (lo hi:Option Int):(Builtin.Str.strSliceIndices lo hi 1 z.length).filterMap (z.cps[·]?)=cutL z.cps.toList lo hi:=by
  rw [idx_eq,pick_run]
  unfold cutL
  rw [len_S]
theorem cutL_le (xs:List Nat) (lo hi:Option Int):(cutL xs lo hi).length≤xs.length:=by
  unfold cutL
  rw [List.length_take,List.length_drop]
  omega
theorem made_cut {z:Str} {t:Tok} {l u:Option (Int×Tok)} {Q:Value→Shared→Prop} {s:Shared} (hz:z.length≤sizeLine)
    (h:∀ t' k,Q (.str (S (cutL z.cps.toList (l.map (·.1)) (u.map (·.1)))) t') { s with toks:=k }):(sliceMade z t l u none).post Q s:=by
  have e:=idx_cut z (l.map (·.1)) (u.map (·.1))
  unfold sliceMade
  have ep:slicePicked z l u none=Builtin.Str.strSliceIndices (l.map (·.1)) (u.map (·.1)) 1 z.length:=rfl
  rw [ep]
  split
  · rename_i hc
    have hl:(Builtin.Str.strSliceIndices (l.map (·.1)) (u.map (·.1)) 1 z.length).length=z.length:=by simpa using hc
    have hz2:cutL z.cps.toList (l.map (·.1)) (u.map (·.1))=z.cps.toList:=by
      rw [idx_eq,List.length_map,List.length_range] at hl
      have hi:=HT.sIx_le z.length 0 (Nat.zero_le _) (l.map (·.1))
      have hj:=HT.sIx_le z.length z.length (Nat.le_refl _) (u.map (·.1))
      unfold cutL
      rw [len_S]
      have hl2:=len_S z
      have a0:HT.sIx z.length 0 (l.map (·.1))=0∨z.length=0:=by omega
      rcases a0 with a0 | a0
      · rw [a0] at hl ⊢
        rw [List.drop_zero]
        exact List.take_of_length_le (by omega)
      · have:z.cps.toList = []:=List.eq_nil_of_length_eq_zero (by omega)
        rw [this]
        simp
    have:=h t s.toks
    rw [hz2,S_of] at this
    exact this
  · rw [e]
    exact ⟨by rw [S_len];have:=cutL_le z.cps.toList (l.map (·.1)) (u.map (·.1));rw [len_S] at this;omega,h _ _⟩
section
variable {X:Cx}
def mSlS:V→Option Int→Option Int→Hp→VK→Prop:=fun x lo hi H Q=>match x with
  | .str z=>z.length≤sizeLine∧Q (.str (S (cutL z.cps.toList lo hi))) H
  | _=>False
theorem slm_str:SlR X mSlS:=by
  intro pins s σ H x v vl vu lo hi sl Q I rx hs pl pu h
  cases x with
  | str z =>
    obtain ⟨t,rfl⟩:=rx
    obtain ⟨hz,q⟩:=h
    obtain ⟨l,el,el2⟩:∃ l:Option (Int×Tok),partValue l=vl∧l.map (·.1)=lo:=by
      cases pl with
      | none=>exact ⟨none,rfl,rfl⟩
      | int i t=>exact ⟨some (i,t),rfl,rfl⟩
    obtain ⟨u,eu,eu2⟩:∃ u:Option (Int×Tok),partValue u=vu∧u.map (·.1)=hi:=by
      cases pu with
      | none=>exact ⟨none,rfl,rfl⟩
      | int i t=>exact ⟨some (i,t),rfl,rfl⟩
    subst el el2 eu eu2
    exact ⟨"str",_,F.slot_str_getitem.lookup,typeIs_str s z t,wpAny_getItem_str_slice (l:=l) (u:=u) (st:=none) hs rfl (made_cut hz fun t' k=>⟨.str _,H,I.tok _,⟨_,rfl⟩,q⟩)⟩
  | _=>exact h.elim
def mSlA (K:PySem.W.Frag):V→Option Int→Option Int→Hp→VK→Prop:=fun x lo hi H Q=>match x with
  | .ref a => ∃ xs,SqL K H a xs∧∀ p,H p=none→Q (.ref p) (upd H p (.lst (cutV xs lo hi)))
  | .str z=>z.length≤sizeLine∧Q (.str (S (cutL z.cps.toList lo hi))) H
  | _=>False
theorem slm:SlR X (mSlA X.K):=SlR.wk (slm_list.or slm_str) fun x lo hi H Q h=>by
  cases x with
  | ref a=>exact .inl h
  | str z=>exact .inr h
  | _=>exact h.elim
theorem mul_eq (z:Str) {n:Int} (h:0≤n):Txt.mul z n=S (List.replicate n.toNat z.cps.toList).flatten:=by
  have key:∀ (k:Nat) (acc:Array Nat),((List.replicate k z.cps).foldl (· ++ ·) acc).toList=acc.toList++(List.replicate k z.cps.toList).flatten:=by
    intro k
    induction k with
    | zero=>intro acc;simp
    | succ k ih =>
      intro acc
      rw [List.replicate_succ,List.foldl_cons,ih,List.replicate_succ,List.flatten_cons]
      simp
  unfold Txt.mul
  refine PyProof.Rows.ext_toList ?_
  by_cases h1:n<1
  · rw [if_pos h1]
    have:n.toNat=0:=by omega
    rw [this]
    simp [Str.empty]
  · rw [if_neg h1]
    split
    · rename_i hc
      rw [Bool.or_eq_true] at hc
      rcases hc with hc | hc
      · have:n=1:=by simpa using hc
        subst this
        simp
      · have h0:z.cps.toList = []:=List.eq_nil_of_length_eq_zero (by rw [len_S];simpa using hc)
        rw [h0]
        simp
    · rw [key]
      simp
def CMulS (z:Str) (n:Int):Prop:=0≤n∧n≤1000∧z.length≤1000
theorem CMulS.ok {z:Str} {n:Int} (h:CMulS z n):MulOk z n:=by
  obtain ⟨h0,h1,h2⟩:=h
  refine ⟨?_,fun hn _ => ?_,fun hn _ => ?_⟩
  · rw [decide_eq_false (by omega),decide_eq_false (by omega)]
    rfl
  · have:(9000000000000000:Int)≤(2 ^ 63-1) / n:=by
      rw [Int.le_ediv_iff_mul_le (by omega)]
      omega
    omega
  · have:z.length*n.toNat≤1000*1000:=Nat.mul_le_mul h2 (by omega)
    unfold Builtin.Str.tooLong
    simp
    rw [sizeLine_eq]
    omega
def mMulS:R2:=fun x y H Q=>match x,y with
  | .int i,.int j=>CMulB i j∧Q (.int (i*j)) H
  | .str z,.int n=>CMulS z n∧Q (.str (S (List.replicate n.toNat z.cps.toList).flatten)) H
  | _,_=>False
theorem om_mulS:OpR X (binaryOp .Mult) mMulS:=by
  intro pins s σ H x y v u Q I rx ry h
  unfold mMulS at h
  split at h
  · exact om_mul pins s σ H _ _ v u Q I rx ry h
  · obtain ⟨t,rfl⟩:=rx
    obtain ⟨t',rfl⟩:=ry
    exact SB.mul h.1.ok fun t' k=>⟨.str _,H,I.tok _,⟨_,by rw [mul_eq _ h.1.1]⟩,h.2⟩
  · exact h.elim
end
end M4
namespace P
def nst:PySem.Expr→Bool
  | .Starred .. => false
  | _=>true
theorem st_ns {e:PySem.Expr} {es:List PySem.Expr} {env:PySem.Env} (h:nst e=true):PySem.starEach (e::es) env=(false,PySem.eval e env)::PySem.starEach es env:=by
  cases e<;>first | rfl | cases h
open PySem PySem.Spec PyProof.Rows L2 M2
structure KK where
  K:PySem.W.Frag
  cm:String→Addr
abbrev kk (X:Cx) (cm:String→Addr):KK:=⟨X.K,cm⟩
inductive PV where
  | non | bl (b:Bool) | int (i:Int) | str (x:Str) | tup (xs:List PV) | lst (xs:List PV)
  | ins (C:String) (ns:List Str) (xs:List PV) | xc (C:String) (ns:List Str) (xs:List PV) | ty (n:String) | cls (C:String)
def xo (a C:Addr) (d:Option Addr):HO:=.ext fun h => ∃ o vs,h.get? a=some o∧o.cls = .ref C∧o.dict=d∧o.data = .fields vs
def XDict (F:Hp) (d:Option Addr) (fs:List (Str×V)):Prop:=(d=none∧fs = [])∨∃ a,d=some a∧F a=some (.xd fs)
mutual
def Rep (K:KK) (F:Hp):PV→V→Prop
  | .non,v=>v = .non
  | .bl b,v=>v = .bl b
  | .int i,v=>v = .int i
  | .str x,v=>v = .str x
  | .tup ps,v => ∃ a xs,v = .ref a∧SqT K.K F a xs∧RepL K F ps xs
  | .lst ps,v => ∃ a xs,v = .ref a∧SqL K.K F a xs∧RepL K F ps xs
  | .ins C ns ps,v => ∃ a dx fs,v = .ref a∧F a=some (.ins (K.cm C) dx fs)∧fs.map (·.1)=ns∧RepL K F ps (fs.map (·.2))
  | .xc C ns ps,v => ∃ a d fs,v = .ref a∧F a=some (xo a (K.cm C) d)∧XDict F d fs∧fs.map (·.1)=ns∧RepL K F ps (fs.map (·.2))
  | .ty n,v=>v = .ty n
  | .cls C,v=>v = .ref (K.cm C)
def RepL (K:KK) (F:Hp):List PV→List V→Prop
  | [],xs=>xs = []
  | p::ps,xs => ∃ x r,xs=x::r∧Rep K F p x∧RepL K F ps r
end
section
variable {K:KK} {F F' H H':Hp}
theorem XDict.same {d:Option Addr} {fs:List (Str×V)} (e:Same F F') (h:XDict F d fs):XDict F' d fs:=by
  rcases h with h | ⟨a,h1,h2⟩
  · exact .inl h
  · exact .inr ⟨a,h1,e _ _ h2⟩
mutual
theorem Rep.same (e:Same F F'):∀ (p:PV) (v:V),Rep K F p v→Rep K F' p v
  | .non,_,h=>by unfold Rep at h ⊢;exact h
  | .bl _,_,h=>by unfold Rep at h ⊢;exact h
  | .int _,_,h=>by unfold Rep at h ⊢;exact h
  | .str _,_,h=>by unfold Rep at h ⊢;exact h
  | .ty _,_,h=>by unfold Rep at h ⊢;exact h
  | .cls _,_,h=>by unfold Rep at h ⊢;exact h
  | .tup ps,_,h=>by
    unfold Rep at h ⊢
    obtain ⟨a,xs,h1,h2,h3⟩:=h
    exact ⟨a,xs,h1,Same.tup e h2,RepL.same e ps xs h3⟩
  | .lst ps,_,h=>by
    unfold Rep at h ⊢
    obtain ⟨a,xs,h1,h2,h3⟩:=h
    exact ⟨a,xs,h1,e.seq h2,RepL.same e ps xs h3⟩
  | .ins C ns ps,_,h=>by
    unfold Rep at h ⊢
    obtain ⟨a,dx,fs,h1,h2,h3,h4⟩:=h
    exact ⟨a,dx,fs,h1,e _ _ h2,h3,RepL.same e ps _ h4⟩
  | .xc C ns ps,_,h=>by
    unfold Rep at h ⊢
    obtain ⟨a,d,fs,h1,h2,hd,h3,h4⟩:=h
    exact ⟨a,d,fs,h1,e _ _ h2,hd.same e,h3,RepL.same e ps _ h4⟩
theorem RepL.same (e:Same F F'):∀ (ps:List PV) (xs:List V),RepL K F ps xs→RepL K F' ps xs
  | [],_,h=>by unfold RepL at h ⊢;exact h
  | p::ps,_,h=>by
    unfold RepL at h ⊢
    obtain ⟨x,r,h1,h2,h3⟩:=h
    exact ⟨x,r,h1,Rep.same e p x h2,RepL.same e ps r h3⟩
end
theorem RepL.pr:∀ {ps:List PV} {vs:List V},RepL K F ps vs→Paired (Rep K F) ps vs
  | [],_,h=>by unfold RepL at h;subst h;exact .nil
  | p::ps,_,h=>by
    unfold RepL at h
    obtain ⟨x,r,rfl,h2,h3⟩:=h
    exact .cons h2 (RepL.pr h3)
theorem RepL.of:∀ {ps:List PV} {vs:List V},Paired (Rep K F) ps vs→RepL K F ps vs
  | [],_,.nil=>by unfold RepL;rfl
  | p::ps,_,.cons h t=>by unfold RepL;exact ⟨_,_,rfl,h,RepL.of t⟩
theorem RepL.nil:RepL K F [] []:=RepL.of .nil
theorem RepL.cons {p:PV} {v:V} {ps:List PV} {vs:List V} (h:Rep K F p v) (t:RepL K F ps vs):RepL K F (p::ps) (v::vs):=RepL.of (.cons h t.pr)
theorem RepL.length {ps:List PV} {vs:List V} (h:RepL K F ps vs):ps.length=vs.length:=Paired.length h.pr
theorem pr_get {α β : Type} {G : α → β → Prop}:∀ {l:List α} {m:List β} {i:Nat} {x : α},Paired G l m→l[i]? = some x→∃ y,m[i]? = some y∧G x y
  | _,_,_,_,.nil,e=>by simp at e
  | _,_,0,_,.cons r _,e=>by simp at e;subst e;exact ⟨_,rfl,r⟩
  | _,_,i+1,x,.cons _ t,e=>by
    obtain ⟨y,h1,h2⟩:=pr_get (i:=i) (x:=x) t (by simpa using e)
    exact ⟨y,by simpa using h1,h2⟩
theorem pr_app {α β : Type} {G : α → β → Prop}:∀ {l l2:List α} {m m2:List β},Paired G l m→Paired G l2 m2→Paired G (l++l2) (m++m2)
  | _,_,_,_,.nil,t=>t
  | _,_,_,_,.cons r s,t => .cons r (pr_app s t)
theorem pr_take {α β : Type} {G : α → β → Prop}:∀ {l:List α} {m:List β} (n:Nat),Paired G l m→Paired G (l.take n) (m.take n)
  | _,_,0,_ => .nil
  | _,_,_+1,.nil => .nil
  | _,_,n+1,.cons r t => .cons r (pr_take n t)
theorem pr_drop {α β : Type} {G : α → β → Prop}:∀ {l:List α} {m:List β} (n:Nat),Paired G l m→Paired G (l.drop n) (m.drop n)
  | _,_,0,h=>h
  | _,_,_+1,.nil => .nil
  | _,_,n+1,.cons _ t=>pr_drop n t
theorem RepL.append {ps qs:List PV} {vs us:List V} (h:RepL K F ps vs) (t:RepL K F qs us):RepL K F (ps++qs) (vs++us):=RepL.of (pr_app h.pr t.pr)
end
inductive Slot where
  | no | sh (p:PV) | ow (ps:List PV) | bw (ps:List PV) | rc (C:String) (ns:List Str) (ps:List PV)
abbrev PSt:=List Slot
def Slot.own:Slot→Bool
  | .ow _=>true
  | .rc _ _ _=>true
  | _=>false
structure Ctx where
  B:Hp
  F₀ : Hp
  /-- what is lent here: read,never changed,never kept -/
  L:Hp
  /-- which objects may be held as one's own: address,dict,class -/
  S:Addr→Addr→String→Prop
def SlotOk (K:KK) (c:Ctx) (F H:Hp) (o:Option V):Slot→Prop
  | .no=>True
  | .sh p => ∃ v,o=some v∧Rep K F p v
  | .ow ps => ∃ a vs,o=some (.ref a)∧H a=some (.lst vs)∧F a=none∧c.B a=none∧RepL K F ps vs
  | .bw ps => ∃ a vs,o=some (.ref a)∧c.L a=some (.lst vs)∧RepL K F ps vs
  | .rc C ns ps => ∃ a dx fs,o=some (.ref a)∧H a=some (.ins (K.cm C) dx fs)∧F a=none∧c.B a=none∧fs.map (·.1)=ns∧RepL K F ps (fs.map (·.2))∧c.S a dx C
def OwnsAt (σ : L2.St) (ρ : PSt) (i:Nat) (a:Addr):Prop:=(∃ s,ρ[i]? = some s∧s.own=true) ∧ σ[i]? = some (some (.ref a))
structure Rel (K:KK) (c:Ctx) (F H:Hp) (σ : L2.St) (ρ : PSt):Prop where
  sub:Same F H
  base:Same c.B H
  f0:Same c.F₀ F
  frz:∀ a,c.B a≠none→c.F₀ a=none→F a=none
  lent:∀ a u,c.L a=some u→H a=some u∧F a=none
  lb:∀ a,c.B a=none→c.L a=none
  len : σ.length = ρ.length
  slot:∀ (i:Nat) s,ρ[i]? = some s→SlotOk K c F H ((σ[i]?).getD none) s
  sep:∀ i j a,OwnsAt σ ρ i a→OwnsAt σ ρ j a→i=j
def Fresh (σ : L2.St) (ρ : PSt) (a:Addr):Prop:=∀ i,¬ OwnsAt σ ρ i a
section
variable {K:KK} {c:Ctx} {F F' H H':Hp} {σ : L2.St} {ρ : PSt} {a:Addr} {o:HO}
theorem SlotOk.grow {s:Slot} {x:Option V} (h:SlotOk K c F H x s) (eF:Same F F') (eH:∀ b vs,x=some (.ref b)→H b=some vs→F b=none→c.B b=none→H' b=some vs∧F' b=none):SlotOk K c F' H' x s:=by
  cases s with
  | no=>trivial
  | sh p=>obtain ⟨v,h1,h2⟩:=h;exact ⟨v,h1,h2.same eF p v⟩
  | ow ps =>
    obtain ⟨b,vs,h1,h2,h3,h4,h5⟩:=h
    obtain ⟨e1,e2⟩:=eH b _ h1 h2 h3 h4
    exact ⟨b,vs,h1,e1,e2,h4,h5.same eF ps vs⟩
  | bw ps=>obtain ⟨b,vs,h1,h2,h3⟩:=h;exact ⟨b,vs,h1,h2,h3.same eF ps vs⟩
  | rc C ns ps =>
    obtain ⟨b,dx,fs,h1,h2,h3,h4,h5,h6⟩:=h
    obtain ⟨e1,e2⟩:=eH b _ h1 h2 h3 h4
    exact ⟨b,dx,fs,h1,e1,e2,h4,h5,h6.1.same eF ps _,h6.2⟩
theorem SlotOk.owned {s:Slot} {x:Option V} (h:SlotOk K c F H x s) (hs:s.own=true):∃ b u,x=some (.ref b)∧H b=some u∧F b=none∧c.B b=none:=by
  cases s with
  | no=>cases hs
  | sh p=>cases hs
  | bw ps=>cases hs
  | ow ps=>obtain ⟨b,vs,h1,h2,h3,h4,h5⟩:=h;exact ⟨b,_,h1,h2,h3,h4⟩
  | rc C ns ps=>obtain ⟨b,dx,fs,h1,h2,h3,h4,h5,h6⟩:=h;exact ⟨b,_,h1,h2,h3,h4⟩
theorem Rel.owned (r:Rel K c F H σ ρ) {i:Nat} (h:OwnsAt σ ρ i a):(∃ u,H a=some u)∧F a=none∧c.B a=none:=by
  obtain ⟨⟨s,h1,h2⟩,h3⟩:=h
  obtain ⟨b,u,e,q⟩:=(r.slot i s h1).owned h2
  rw [h3] at e
  cases e
  exact ⟨⟨u,q.1⟩,q.2⟩
theorem Rel.fresh (r:Rel K c F H σ ρ) (h:H a=none):Fresh σ ρ a:=fun i q=>by
  obtain ⟨⟨u,e⟩,_⟩:=r.owned q
  rw [h] at e;cases e
theorem Rel.alloc (r:Rel K c F H σ ρ) (h:H a=none):Rel K c (upd F a o) (upd H a o) σ ρ where
  sub:=fun b u e=>by
    by_cases hb:b=a
    · subst hb;rw [upd_same] at e ⊢;exact e
    · rw [upd_ne hb] at e ⊢;exact r.sub b u e
  base:=fun b u e=>by
    have hb:b≠a:=fun z=>by rw [z] at e;rw [r.base _ _ e] at h;cases h
    rw [upd_ne hb];exact r.base b u e
  f0:=fun b u e=>by
    have hb:b≠a:=fun z=>by rw [z] at e;rw [r.sub _ _ (r.f0 _ _ e)] at h;cases h
    rw [upd_ne hb];exact r.f0 b u e
  frz:=fun b h1 h2=>by
    have hb:b≠a:=fun z=>by
      subst z
      cases q:c.B b with
      | none=>exact h1 q
      | some u=>rw [r.base _ _ q] at h;cases h
    rw [upd_ne hb];exact r.frz b h1 h2
  lent:=fun b u e=>by
    obtain ⟨h1,h2⟩:=r.lent b u e
    have hb:b≠a:=fun z=>by rw [z,h] at h1;cases h1
    rw [upd_ne hb,upd_ne hb];exact ⟨h1,h2⟩
  lb:=r.lb
  len:=r.len
  slot:=fun i s e=>by
    have hF:F a=none:=r.sub.free h
    refine (r.slot i s e).grow (Same.upd hF) fun b u _ h1 h2 h3 => ?_
    have hb:b≠a:=fun z=>by rw [z,h] at h1;cases h1
    rw [upd_ne hb,upd_ne hb];exact ⟨h1,h2⟩
  sep:=r.sep
theorem Rel.made (r:Rel K c F H σ ρ) (h:H a=none):Rel K c F (upd H a o) σ ρ where
  sub:=r.sub.trans (Same.upd h)
  base:=r.base.trans (Same.upd h)
  f0:=r.f0
  frz:=r.frz
  lent:=fun b u e=>⟨Same.upd h b u (r.lent b u e).1,(r.lent b u e).2⟩
  lb:=r.lb
  len:=r.len
  slot:=fun i s e=>(r.slot i s e).grow (Same.refl F) fun b u _ h1 h2 h3=>⟨Same.upd h b u h1,h2⟩
  sep:=r.sep
theorem Rel.freeze (r:Rel K c F H σ ρ) (h:H a=some o) (hB:c.B a=none) (hF:F a=none) (hf:Fresh σ ρ a):Rel K c (upd F a o) H σ ρ where
  sub:=fun b u e=>by
    by_cases hb:b=a
    · subst hb;rw [upd_same] at e;rw [h];exact e
    · rw [upd_ne hb] at e;exact r.sub b u e
  base:=r.base
  f0:=r.f0.trans (Same.upd hF)
  frz:=fun b h1 h2=>by
    have hb:b≠a:=fun z=>h1 (by rw [z];exact hB)
    rw [upd_ne hb];exact r.frz b h1 h2
  lent:=fun b u e=>by
    have hb:b≠a:=fun z=>by rw [z,r.lb a hB] at e;cases e
    rw [upd_ne hb];exact r.lent b u e
  lb:=r.lb
  len:=r.len
  slot:=fun i s e=>by
    by_cases ho:s.own=true
    · have q:=r.slot i s e
      obtain ⟨b,u,e1,e2,e3,e4⟩:=q.owned ho
      refine q.grow (Same.upd hF) fun b' u' e1' h1 h2 h3 => ?_
      rw [e1] at e1';cases e1'
      have hb:b≠a:=fun z=>by
        subst z
        refine hf i ⟨⟨s,e,ho⟩,?_⟩
        cases q2 : σ[i]? with
        | none=>rw [q2] at e1;cases e1
        | some x=>rw [q2] at e1;exact congrArg some e1
      rw [upd_ne hb];exact ⟨h1,h2⟩
    · cases s with
      | no=>trivial
      | sh p=>obtain ⟨v,h1,h2⟩:=r.slot i _ e;exact ⟨v,h1,h2.same (Same.upd hF) p v⟩
      | ow ps=>exact absurd rfl ho
      | bw ps=>obtain ⟨b,vs,h1,h2,h3⟩:=r.slot i _ e;exact ⟨b,vs,h1,h2,h3.same (Same.upd hF) ps vs⟩
      | rc C ns ps=>exact absurd rfl ho
  sep:=r.sep
theorem set_get {α : Type} {l:List α} {i j:Nat} {x y : α} (h:(l.set i x)[j]? = some y):(j=i∧y=x∧i<l.length)∨(j≠i∧l[j]? = some y):=by
  by_cases hj:j=i
  · subst hj
    have hl:j<l.length:=by
      have:=(List.getElem?_eq_some_iff.mp h).1
      simpa using this
    rw [List.getElem?_set_self hl] at h
    exact .inl ⟨rfl,(Option.some.inj h).symm,hl⟩
  · rw [List.getElem?_set_ne (Ne.symm hj)] at h
    exact .inr ⟨hj,h⟩
theorem set_at {l:L2.St} {i:Nat} {x:Option V} (h:i<l.length):((l.set i x)[i]?).getD none=x:=by rw [List.getElem?_set_self h];rfl
theorem set_off {l:L2.St} {i j:Nat} {x:Option V} (h:j≠i):((l.set i x)[j]?).getD none=(l[j]?).getD none:=by rw [List.getElem?_set_ne (Ne.symm h)]
theorem OwnsAt.off {i j:Nat} {x:Option V} {s:Slot} (h:OwnsAt (σ.set i x) (ρ.set i s) j a) (hj:j≠i):OwnsAt σ ρ j a:=by
  obtain ⟨⟨s',h1,h2⟩,h3⟩:=h
  rw [List.getElem?_set_ne (Ne.symm hj)] at h1 h3
  exact ⟨⟨s',h1,h2⟩,h3⟩
theorem Rel.put (r:Rel K c F H σ ρ) {i:Nat} {x:Option V} {s:Slot} (hs:s.own=false) (h:SlotOk K c F H x s):Rel K c F H (σ.set i x) (ρ.set i s) where
  sub:=r.sub
  base:=r.base
  f0:=r.f0
  frz:=r.frz
  lent:=r.lent
  lb:=r.lb
  len:=by simpa using r.len
  slot:=fun j s' e=>by
    rcases set_get e with ⟨rfl,rfl,hl⟩ | ⟨hj,e⟩
    · rw [set_at (by rw [r.len];exact hl)];exact h
    · rw [set_off hj];exact r.slot j s' e
  sep:=fun j k b h1 h2=>by
    have off:∀ {j},OwnsAt (σ.set i x) (ρ.set i s) j b→j≠i:=fun {j} q z=>by
      subst z
      obtain ⟨⟨s',q1,q2⟩,_⟩:=q
      rcases set_get q1 with ⟨_,rfl,_⟩ | ⟨q,_⟩
      · rw [hs] at q2;cases q2
      · exact q rfl
    exact r.sep j k b (h1.off (off h1)) (h2.off (off h2))
theorem Rel.slotS (r:Rel K c F H σ ρ) {i:Nat} {s:Slot} (hs:s.own=false) (h:SlotOk K c F H ((σ[i]?).getD none) s):Rel K c F H σ (ρ.set i s) where
  sub:=r.sub
  base:=r.base
  f0:=r.f0
  frz:=r.frz
  lent:=r.lent
  lb:=r.lb
  len:=by simpa using r.len
  slot:=fun j s' e=>by
    rcases set_get e with ⟨rfl,rfl,hl⟩ | ⟨hj,e⟩
    · exact h
    · exact r.slot j s' e
  sep:=fun j k b h1 h2=>by
    have off:∀ {j},OwnsAt σ (ρ.set i s) j b→OwnsAt σ ρ j b:=fun {j} ⟨⟨s',q1,q2⟩,q3⟩=>by
      rcases set_get q1 with ⟨_,rfl,_⟩ | ⟨_,q⟩
      · rw [hs] at q2;cases q2
      · exact ⟨⟨s',q,q2⟩,q3⟩
    exact r.sep j k b (off h1) (off h2)
theorem Rel.putO (r:Rel K c F H σ ρ) {i:Nat} {s:Slot} (h:SlotOk K c F H (some (.ref a)) s) (hf:Fresh σ ρ a):Rel K c F H (σ.set i (some (.ref a))) (ρ.set i s) where
  sub:=r.sub
  base:=r.base
  f0:=r.f0
  frz:=r.frz
  lent:=r.lent
  lb:=r.lb
  len:=by simpa using r.len
  slot:=fun j s' e=>by
    rcases set_get e with ⟨rfl,rfl,hl⟩ | ⟨hj,e⟩
    · rw [set_at (by rw [r.len];exact hl)];exact h
    · rw [set_off hj];exact r.slot j s' e
  sep:=fun j k b h1 h2=>by
    have at_:∀ {j},OwnsAt (σ.set i (some (.ref a))) (ρ.set i s) j b→(j=i∧b=a)∨(j≠i∧OwnsAt σ ρ j b∧b≠a):=fun {j} q=>by
      by_cases hj:j=i
      · subst hj
        obtain ⟨_,q3⟩:=q
        rcases set_get q3 with ⟨_,e,_⟩ | ⟨z,_⟩
        · cases e;exact .inl ⟨rfl,rfl⟩
        · exact absurd rfl z
      · exact .inr ⟨hj,q.off hj,fun z=>hf j (z ▸ q.off hj)⟩
    rcases at_ h1 with ⟨e1,z1⟩ | ⟨e1,o1,z1⟩
    · rcases at_ h2 with ⟨e2,z2⟩ | ⟨e2,o2,z2⟩
      · rw [e1,e2]
      · exact absurd z1 z2
    · rcases at_ h2 with ⟨e2,z2⟩ | ⟨e2,o2,z2⟩
      · exact absurd z2 z1
      · exact r.sep j k b o1 o2
theorem Rel.write (r:Rel K c F H σ ρ) {i:Nat} {s:Slot} (ho:OwnsAt σ ρ i a) (h:SlotOk K c F (upd H a o) (some (.ref a)) s):Rel K c F (upd H a o) σ (ρ.set i s) where
  sub:=fun b u e=>by
    have hb:b≠a:=fun z=>by rw [z,(r.owned ho).2.1] at e;cases e
    rw [upd_ne hb];exact r.sub b u e
  base:=fun b u e=>by
    have hb:b≠a:=fun z=>by rw [z,(r.owned ho).2.2] at e;cases e
    rw [upd_ne hb];exact r.base b u e
  f0:=r.f0
  frz:=r.frz
  lent:=fun b u e=>by
    have hb:b≠a:=fun z=>by rw [z,r.lb a (r.owned ho).2.2] at e;cases e
    rw [upd_ne hb];exact r.lent b u e
  lb:=r.lb
  len:=by simpa using r.len
  slot := fun j s' e => by
    rcases set_get e with ⟨rfl,rfl,hl⟩ | ⟨hj,e⟩
    · rw [ho.2];exact h
    · have q:=r.slot j s' e
      cases s' with
      | no=>trivial
      | sh p=>exact q
      | bw ps=>exact q
      | ow ps =>
        obtain ⟨b,vs,h1,h2,h3⟩:=q
        have hb:b≠a:=fun z=>by
          subst z
          have e2 : σ[j]? = some (some (.ref b)):=by
            cases q2 : σ[j]? with
            | none=>rw [q2] at h1;cases h1
            | some x=>rw [q2] at h1;exact congrArg some h1
          exact hj (r.sep j i b ⟨⟨_,e,rfl⟩,e2⟩ ho)
        exact ⟨b,vs,h1,by rw [upd_ne hb];exact h2,h3⟩
      | rc C ns ps =>
        obtain ⟨b,dx,fs,h1,h2,h3⟩:=q
        have hb:b≠a:=fun z=>by
          subst z
          have e2 : σ[j]? = some (some (.ref b)):=by
            cases q2 : σ[j]? with
            | none=>rw [q2] at h1;cases h1
            | some x=>rw [q2] at h1;exact congrArg some h1
          exact hj (r.sep j i b ⟨⟨_,e,rfl⟩,e2⟩ ho)
        exact ⟨b,dx,fs,h1,by rw [upd_ne hb];exact h2,h3⟩
  sep:=fun j k b h1 h2=>by
    have off:∀ {j},OwnsAt σ (ρ.set i s) j b→OwnsAt σ ρ j b:=fun {j} ⟨⟨s',q1,q2⟩,q3⟩=>by
      rcases set_get q1 with ⟨e,_,_⟩ | ⟨_,q⟩
      · exact ⟨e ▸ ho.1,q3⟩
      · exact ⟨⟨s',q,q2⟩,q3⟩
    exact r.sep j k b (off h1) (off h2)
structure Gr (F H F' H':Hp):Prop where
  h:Same H H'
  f:Same F F'
  sub:Same F' H'
  out:∀ a,H a≠none→F a=none→F' a=none
theorem Rel.call (r:Rel K c F H σ ρ) (g:Gr F H F' H'):Rel K c F' H' σ ρ where
  sub:=g.sub
  base:=r.base.trans g.h
  f0:=r.f0.trans g.f
  frz:=fun b h1 h2=>by
    refine g.out b (fun z=>h1 ?_) (r.frz b h1 h2)
    cases q:c.B b with
    | none=>rfl
    | some u=>rw [r.base _ _ q] at z;cases z
  lent:=fun b u e=>⟨g.h b u (r.lent b u e).1,g.out b (by rw [(r.lent b u e).1];intro z;cases z) (r.lent b u e).2⟩
  lb:=r.lb
  len:=r.len
  slot:=fun i s e=>(r.slot i s e).grow g.f fun b u _ h1 h2 h3=>⟨g.h b u h1,g.out b (by rw [h1];intro z;cases z) h2⟩
  sep:=r.sep
def ctx0 (F H:Hp):Ctx:=⟨H,F,fun a=>match F a with
  | none=>H a
  | some _=>none,fun _ _ _=>True⟩
theorem ctx0_L {a:Addr} {u:HO} (h:(ctx0 F H).L a=some u):H a=some u∧F a=none:=by
  unfold ctx0 at h
  dsimp only at h
  cases q:F a with
  | none=>rw [q] at h;exact ⟨h,rfl⟩
  | some o=>rw [q] at h;cases h
theorem Rel.gr (r:Rel K (ctx0 F H) F' H' σ ρ):Gr F H F' H':=⟨r.base,r.f0,r.sub,r.frz⟩
def argOk (K:KK) (F H:Hp):Slot→V→Prop
  | .sh p,v=>Rep K F p v
  | .bw ps,v => ∃ a vs,v = .ref a∧H a=some (.lst vs)∧F a=none∧RepL K F ps vs
  | _,_=>False
theorem argOk.slot {s:Slot} {v:V} (h:argOk K F H s v):SlotOk K (ctx0 F H) F H (some v) s∧s.own=false:=by
  cases s with
  | sh p=>exact ⟨⟨v,rfl,h⟩,rfl⟩
  | bw ps =>
    obtain ⟨a,vs,rfl,h1,h2,h3⟩:=h
    refine ⟨⟨a,vs,rfl,?_,h3⟩,rfl⟩
    show (match F a with | none=>H a | some _=>none)=_
    rw [h2]
    exact h1
  | no=>exact h.elim
  | ow ps=>exact h.elim
  | rc C ns ps=>exact h.elim
def startP (n:Nat) (as:List Slot):PSt:=as++List.replicate (n-as.length) .no
theorem Rel.start {N:List Str} {as:List Slot} {vs:List V} (s:Same F H) (h:Paired (argOk K F H) as vs):Rel K (ctx0 F H) F H (L2.start N vs) (startP N.length as) where
  sub:=s
  base:=Same.refl H
  f0:=Same.refl F
  frz:=fun _ _ h=>h
  lent:=fun _ _ e=>ctx0_L e
  lb:=fun a e=>by
    cases q:(ctx0 F H).L a with
    | none=>rfl
    | some u =>
      have e':H a=none:=e
      rw [(ctx0_L q).1] at e'
      cases e'
  len:=by unfold L2.start startP;simp [Paired.length h]
  slot:=fun i s' e=>by
    unfold startP at e
    by_cases hi:i<as.length
    · rw [List.getElem?_append_left hi] at e
      obtain ⟨v,h1,h2⟩:=pr_get h e
      have hv:((L2.start N vs)[i]?).getD none=some v:=by
        unfold L2.start
        rw [List.getElem?_append_left (by simpa [← Paired.length h] using hi),List.getElem?_map,h1];rfl
      rw [hv]
      exact (argOk.slot h2).1
    · rw [List.getElem?_append_right (by omega),List.getElem?_replicate] at e
      split at e
      · cases e;trivial
      · cases e
  sep:=fun i j a h1 _=>by
    obtain ⟨⟨s',h1,h2⟩,_⟩:=h1
    exfalso
    unfold startP at h1
    by_cases hi:i<as.length
    · rw [List.getElem?_append_left hi] at h1
      obtain ⟨v,_,h3⟩:=pr_get h h1
      rw [(argOk.slot h3).2] at h2
      cases h2
    · rw [List.getElem?_append_right (by omega),List.getElem?_replicate] at h1
      split at h1
      · cases h1;cases h2
      · cases h1
end
structure PX where
  C:String
  ns:List Str
  ps:List PV
def RepX (K:KK) (F:Hp) (x:PX) (C:Value) (d:Option Addr):Prop:=C = .ref (K.cm x.C)∧∃ fs,XDict F d fs∧fs.map (·.1)=x.ns∧RepL K F x.ps (fs.map (·.2))
inductive Res (α : Type) where
  | ok (a : α) (ρ : PSt) | exc (x:PX) (ρ : PSt) | bad
def Res.bind {α β : Type} (r:Res α) (f : α → PSt→Res β):Res β := match r with
  | .ok a ρ => f a ρ
  | .exc x ρ => .exc x ρ
  | .bad => .bad
@[simp] theorem Res.bind_ok {α β : Type} {a : α} {ρ : PSt} {f : α → PSt→Res β}:(Res.ok a ρ).bind f=f a ρ := rfl
@[simp] theorem Res.bind_exc {α β : Type} {x:PX} {ρ : PSt} {f : α → PSt→Res β}:(Res.exc x ρ : Res α).bind f = .exc x ρ := rfl
@[simp] theorem Res.bind_bad {α β : Type} {f : α → PSt→Res β}:(Res.bad:Res α).bind f = .bad:=rfl
def Res.ofO {α : Type} (o:Option α) (ρ : PSt):Res α := match o with
  | some a => .ok a ρ
  | none => .bad
@[simp] theorem Res.ofO_some {α : Type} {a : α} {ρ : PSt}:Res.ofO (some a) ρ = .ok a ρ := rfl
@[simp] theorem Res.ofO_none {α : Type} {ρ : PSt}:Res.ofO (none:Option α) ρ = .bad:=rfl
abbrev M (α : Type):=PSt→Res α
inductive RV where
  | sh (p:PV) | ow (ps:List PV)
def RV.val:RV→PV
  | .sh p=>p
  | .ow ps => .lst ps
def RV.slot:RV→Slot
  | .sh p => .sh p
  | .ow ps => .ow ps
abbrev RR (α β : Type):=Ctx→L2.St→PSt→Hp→Hp → α → β → Prop
def rV (K:KK):RR PV V:=fun _ _ _ F _ p v=>Rep K F p v
def OwnRd (K:KK) (F H:Hp) (p:PV) (v:V):Prop:=match p with
  | .lst ps => ∃ a vs,v = .ref a∧H a=some (.lst vs)∧RepL K F ps vs
  | .ins C ns ps => ∃ a dx fs,v = .ref a∧H a=some (.ins (K.cm C) dx fs)∧fs.map (·.1)=ns∧RepL K F ps (fs.map (·.2))
  | _=>False
def rR (K:KK):RR PV V:=fun _ _ _ F H p v=>Rep K F p v∨OwnRd K F H p v
def rA (K:KK):RR (List Slot) (List V):=fun _ _ _ F H as vs=>Paired (argOk K F H) as vs
def Held (K:KK) (c:Ctx) (σ : L2.St) (ρ : PSt) (F H:Hp) (ps:List PV) (v:V):Prop:=∃ a vs,v = .ref a∧H a=some (.lst vs)∧F a=none∧c.B a=none∧Fresh σ ρ a∧RepL K F ps vs
def rO (K:KK):RR RV V:=fun c σ ρ F H r v=>match r with
  | .sh p=>Rep K F p v
  | .ow ps=>Held K c σ ρ F H ps v
def rL (K:KK):RR (List PV) (List V):=fun _ _ _ F _ p v=>RepL K F p v
def rRL (K:KK):RR (List PV) (List V):=fun c σ ρ F H p v=>Paired (rR K c σ ρ F H) p v
def rB:RR Bool Bool:=fun _ _ _ _ _ p v=>p=v
def rI:RR (Option Int) (Option Int):=fun _ _ _ _ _ p v=>p=v
def EndG {α β : Type} (K:KK) (E:L2.St→XK) (R:RR α β) (c:Ctx) (F H:Hp) (σ : L2.St) (Q : β → Hp→Prop):Res α → Prop
  | .ok p ρ' => ∀ v F' H',Rel K c F' H' σ ρ'→Same F F'→Same H H'→R c σ ρ' F' H' p v→Q v H'
  | .exc x ρ' => ∀ C d F' H',Rel K c F' H' σ ρ'→Same F F'→RepX K F' x C d→E σ C d H'
  | .bad=>False
def tG {α β : Type} (K:KK) (E:L2.St→XK) (R:RR α β) (m:M α):L2.St→Hp→(β → Hp→Prop)→Prop:=fun σ H Q => ∃ c F ρ,Rel K c F H σ ρ ∧ EndG K E R c F H σ Q (m ρ)
section
variable {α β α' β':Type} {K:KK} {E:L2.St→XK} {R:RR α β} {R':RR α' β'} {c:Ctx} {F F1 H H1:Hp} {σ : L2.St}
theorem EndG.mono {Q : β → Hp→Prop} {r:Res α} (h:EndG K E R c F H σ Q r) (sF:Same F F1) (sH:Same H H1):EndG K E R c F1 H1 σ Q r:=by
  cases r with
  | ok p ρ'=>exact fun v F' H' rel s1 s2 q=>h v F' H' rel (sF.trans s1) (sH.trans s2) q
  | exc x ρ'=>exact fun C d F' H' rel s1 q=>h C d F' H' rel (sF.trans s1) q
  | bad=>exact h
theorem EndG.bind {Q : β → Hp→Prop} {Q' : β'→Hp→Prop} {r:Res α} {f : α → PSt→Res α'} (h:EndG K E R' c F H σ Q' (r.bind f))
    (k:∀ p ρ1 v F1 H1,Rel K c F1 H1 σ ρ1→Same F F1→Same H H1→R c σ ρ1 F1 H1 p v→EndG K E R' c F1 H1 σ Q' (f p ρ1)→Q v H1):EndG K E R c F H σ Q r:=by
  cases r with
  | ok p ρ'=>exact fun v F' H' rel s1 s2 q=>k p ρ' v F' H' rel s1 s2 q (EndG.mono (show EndG K E R' c F H σ Q' (f p ρ') from h) s1 s2)
  | exc x ρ'=>exact h
  | bad=>exact h
theorem EndG.rel {R2:RR α β} {Q : β → Hp→Prop} {r:Res α} (h:EndG K E R c F H σ Q r) (k:∀ p ρ' v F' H',Rel K c F' H' σ ρ'→R2 c σ ρ' F' H' p v→R c σ ρ' F' H' p v):EndG K E R2 c F H σ Q r:=by
  cases r with
  | ok p ρ'=>exact fun v F' H' rel s1 s2 q=>h v F' H' rel s1 s2 (k p ρ' v F' H' rel q)
  | exc x ρ'=>exact h
  | bad=>exact h
end
abbrev tV (K:KK) (E:L2.St→XK) (m:M PV):TE:=tG K E (rV K) m
abbrev tR (K:KK) (E:L2.St→XK) (m:M PV):TE:=tG K E (rR K) m
abbrev tO (K:KK) (E:L2.St→XK) (m:M RV):TE:=tG K E (rO K) m
abbrev tL (K:KK) (E:L2.St→XK) (m:M (List PV)):TA:=tG K E (rL K) m
abbrev tA (K:KK) (E:L2.St→XK) (m:M (List Slot)):TA:=tG K E (rA K) m
abbrev tRL (K:KK) (E:L2.St→XK) (m:M (List PV)):TA:=tG K E (rRL K) m
abbrev tB (K:KK) (E:L2.St→XK) (m:M Bool):TT:=tG K E rB m
inductive Fl where
  | nx | bk | ct | rt (r:RV)
def EndS (K:KK) (E:L2.St→XK) (c:Ctx) (F:Hp) (D:Ends):Res Fl→Prop
  | .ok .nx ρ' => ∀ σ' F' H',Rel K c F' H' σ' ρ'→Same F F'→D.nx σ' H'
  | .ok .bk ρ' => ∀ σ' F' H',Rel K c F' H' σ' ρ'→Same F F'→D.bk σ' H'
  | .ok .ct ρ' => ∀ σ' F' H',Rel K c F' H' σ' ρ'→Same F F'→D.ct σ' H'
  | .ok (.rt r) ρ' => ∀ v σ' F' H',Rel K c F' H' σ' ρ'→Same F F'→rO K c σ' ρ' F' H' r v→D.rt v H'
  | .exc x ρ' => ∀ σ' C d F' H',Rel K c F' H' σ' ρ'→Same F F'→RepX K F' x C d→E σ' C d H'
  | .bad=>False
def tS (K:KK) (E:L2.St→XK) (m:M Fl):TS:=fun D σ H => ∃ c F ρ,Rel K c F H σ ρ ∧ EndS K E c F D (m ρ)
section
variable {K:KK} {E:L2.St→XK} {c:Ctx} {F F1:Hp} {D:Ends}
theorem EndS.mono {r:Res Fl} (h:EndS K E c F D r) (sF:Same F F1):EndS K E c F1 D r:=by
  cases r with
  | ok f ρ' =>
    cases f with
    | rt v=>exact fun v σ' F' H' rel s1 q=>h v σ' F' H' rel (sF.trans s1) q
    | nx=>exact fun σ' F' H' rel s1=>h σ' F' H' rel (sF.trans s1)
    | bk=>exact fun σ' F' H' rel s1=>h σ' F' H' rel (sF.trans s1)
    | ct=>exact fun σ' F' H' rel s1=>h σ' F' H' rel (sF.trans s1)
  | exc x ρ'=>exact fun σ' C d F' H' rel s1 q=>h σ' C d F' H' rel (sF.trans s1) q
  | bad=>exact h
theorem EndS.bind {α β : Type} {R:RR α β} {σ : L2.St} {H:Hp} {Q : β → Hp→Prop} {r:Res α} {f : α → PSt→Res Fl} (h:EndS K E c F D (r.bind f))
    (k:∀ p ρ1 v F1 H1,Rel K c F1 H1 σ ρ1→Same F F1→R c σ ρ1 F1 H1 p v→EndS K E c F1 D (f p ρ1)→Q v H1):EndG K E R c F H σ Q r:=by
  cases r with
  | ok p ρ'=>exact fun v F' H' rel s1 s2 q=>k p ρ' v F' H' rel s1 q (EndS.mono (show EndS K E c F D (f p ρ') from h) s1)
  | exc x ρ'=>exact fun C d F' H' rel s1 q=>h σ C d F' H' rel s1 q
  | bad=>exact h
end
end P
namespace P
open PySem PySem.Spec PyProof.Rows L2 M2
def mVarV (i:Nat):M PV:=fun ρ => match ρ[i]? with
  | some (.sh p) => .ok p ρ
  | some (.ow ps) => .ok (.lst ps) (ρ.set i (.sh (.lst ps)))
  | _ => .bad
def mVarR (i:Nat):M PV:=fun ρ => match ρ[i]? with
  | some (.sh p) => .ok p ρ
  | some (.ow ps) => .ok (.lst ps) ρ
  | some (.bw ps) => .ok (.lst ps) ρ
  | some (.rc C ns ps) => .ok (.ins C ns ps) ρ
  | _ => .bad
def mVarO (i:Nat):M RV:=fun ρ => match ρ[i]? with
  | some (.sh p) => .ok (.sh p) ρ
  | some (.ow ps) => .ok (.ow ps) (ρ.set i .no)
  | _ => .bad
def mC (p:PV):M PV:=fun ρ => .ok p ρ
def mSh (m:M PV):M RV:=fun ρ => (m ρ).bind fun p ρ1 => .ok (.sh p) ρ1
def mVal (m:M RV):M PV:=fun ρ => (m ρ).bind fun r ρ1 => .ok r.val ρ1
section
variable {K:KK} {c:Ctx} {F H:Hp} {σ : L2.St} {ρ : PSt}
theorem at_of {i:Nat} {x:V} (h:(σ[i]?).getD none=some x) : σ[i]? = some (some x):=by
  cases q : σ[i]? with
  | none=>rw [q] at h;cases h
  | some y=>rw [q] at h;exact congrArg some h
theorem Rel.ow (r:Rel K c F H σ ρ) {i:Nat} {ps:List PV} (e : ρ[i]? = some (.ow ps)):∃ a vs,σ[i]? = some (some (.ref a))∧H a=some (.lst vs)∧F a=none∧c.B a=none∧RepL K F ps vs∧OwnsAt σ ρ i a:=by
  obtain ⟨a,vs,h1,h2,h3,h4,h5⟩:=r.slot i _ e
  exact ⟨a,vs,at_of h1,h2,h3,h4,h5,⟨⟨_,e,rfl⟩,at_of h1⟩⟩
theorem Rel.move (r:Rel K c F H σ ρ) {i:Nat} {a:Addr} (h:OwnsAt σ ρ i a):Rel K c F H σ (ρ.set i .no)∧Fresh σ (ρ.set i .no) a:=by
  refine ⟨r.slotS rfl trivial,fun j ⟨⟨s,q1,q2⟩,q3⟩ => ?_⟩
  rcases set_get q1 with ⟨_,rfl,_⟩ | ⟨hj,q⟩
  · cases q2
  · exact hj (r.sep j i a ⟨⟨s,q,q2⟩,q3⟩ h)
theorem Rel.share (r:Rel K c F H σ ρ) {i:Nat} {ps:List PV} (e : ρ[i]? = some (.ow ps)):∃ a vs,σ[i]? = some (some (.ref a))∧F a=none∧Rep K (upd F a (.lst vs)) (.lst ps) (.ref a)∧Rel K c (upd F a (.lst vs)) H σ (ρ.set i (.sh (.lst ps))):=by
  obtain ⟨a,vs,h1,h2,h3,h4,h5,ho⟩:=r.ow e
  obtain ⟨m1,m2⟩:=r.move ho
  have rp:Rep K (upd F a (.lst vs)) (.lst ps) (.ref a):=by
    unfold Rep
    exact ⟨a,vs,rfl,SqL.of upd_same,h5.same (Same.upd h3) ps vs⟩
  have q:=(m1.freeze h2 h4 h3 m2).slotS (i:=i) (s:=.sh (.lst ps)) rfl (show SlotOk K c _ H _ (.sh (.lst ps)) from ⟨.ref a,by rw [h1];rfl,rp⟩)
  rw [List.set_set] at q
  exact ⟨a,vs,h1,h3,rp,q⟩
theorem OwnRd.mono {F1 H1:Hp} {p:PV} {v:V} (h:OwnRd K F H p v) (sF:Same F F1) (sH:Same H H1):OwnRd K F1 H1 p v:=by
  cases p with
  | lst ps =>
    obtain ⟨a,vs,h2,h3,h4⟩:=h
    exact ⟨a,vs,h2,sH _ _ h3,h4.same sF ps vs⟩
  | ins C ns ps =>
    obtain ⟨a,dx,fs,h2,h3,h4,h5⟩:=h
    exact ⟨a,dx,fs,h2,sH _ _ h3,h4,h5.same sF ps _⟩
  | _=>exact h.elim
theorem rR.mono {c:Ctx} {σ : L2.St} {ρ ρ':PSt} {F1 H1:Hp} {p:PV} {v:V} (h:rR K c σ ρ F H p v) (sF:Same F F1) (sH:Same H H1):rR K c σ ρ' F1 H1 p v:=by
  rcases h with h | h
  · exact .inl (h.same sF p v)
  · exact .inr (h.mono sF sH)
theorem rR.lst {c:Ctx} {σ : L2.St} {ρ : PSt} {ps:List PV} {v:V} (s:Same F H) (h:rR K c σ ρ F H (.lst ps) v):∃ a vs,v = .ref a∧SqL K.K H a vs∧RepL K F ps vs:=by
  rcases h with h | ⟨a,vs,h2,h3,h4⟩
  · unfold Rep at h
    obtain ⟨a,xs,h1,h2,h3⟩:=h
    exact ⟨a,xs,h1,s.seq h2,h3⟩
  · exact ⟨a,vs,h2,SqL.of h3,h4⟩
theorem rR.tup {c:Ctx} {σ : L2.St} {ρ : PSt} {ps:List PV} {v:V} (s:Same F H) (h:rR K c σ ρ F H (.tup ps) v):∃ a vs,v = .ref a∧SqT K.K H a vs∧RepL K F ps vs:=by
  rcases h with h | h
  · unfold Rep at h
    obtain ⟨a,xs,h1,h2,h3⟩:=h
    exact ⟨a,xs,h1,Same.tup s h2,h3⟩
  · exact h.elim
theorem rR.int {c:Ctx} {σ : L2.St} {ρ : PSt} {i:Int} {v:V} (h:rR K c σ ρ F H (.int i) v):v = .int i:=by
  rcases h with h | h
  · unfold Rep at h;exact h
  · exact h.elim
theorem rR.str {c:Ctx} {σ : L2.St} {ρ : PSt} {i:Str} {v:V} (h:rR K c σ ρ F H (.str i) v):v = .str i:=by
  rcases h with h | h
  · unfold Rep at h;exact h
  · exact h.elim
theorem rR.bl {c:Ctx} {σ : L2.St} {ρ : PSt} {i:Bool} {v:V} (h:rR K c σ ρ F H (.bl i) v):v = .bl i:=by
  rcases h with h | h
  · unfold Rep at h;exact h
  · exact h.elim
theorem rR.non {c:Ctx} {σ : L2.St} {ρ : PSt} {v:V} (h:rR K c σ ρ F H .non v):v = .non:=by
  rcases h with h | h
  · unfold Rep at h;exact h
  · exact h.elim
theorem rR.ty {c:Ctx} {σ : L2.St} {ρ : PSt} {n:String} {v:V} (h:rR K c σ ρ F H (.ty n) v):v = .ty n:=by
  rcases h with h | h
  · unfold Rep at h;exact h
  · exact h.elim
theorem Rep.int {i:Int}:Rep K F (.int i) (.int i):=by unfold Rep;rfl
theorem Rep.str {i:Str}:Rep K F (.str i) (.str i):=by unfold Rep;rfl
theorem Rep.bl {i:Bool}:Rep K F (.bl i) (.bl i):=by unfold Rep;rfl
theorem Rep.non:Rep K F .non .non:=by unfold Rep;rfl
end
section
variable {X:Cx} {cm:String→Addr} {E:L2.St→XK} {a b e:Expr} {es:List Expr} {pos:Pos} {m ma mb mc:M PV} {mo:M RV}
theorem PT.wk {t t':TT} (h:PT X e t) (i:∀ σ H Q,t' σ H Q→t σ H Q):PT X e t':=fun pins s σ H Q I q=>h pins s σ H Q I (i σ H Q q)
theorem PA.wk {t t':TA} (h:PA X es t) (i:∀ σ H Q,t' σ H Q→t σ H Q):PA X es t':=fun pos pins s σ H Q I q=>h pos pins s σ H Q I (i σ H Q q)
theorem PW.wk {t t':TT} (h:PW X e t) (i:∀ σ H Q,t' σ H Q→t σ H Q):PW X e t':=fun wh pins s σ H Q I q=>h wh pins s σ H Q I (i σ H Q q)
theorem PSs.wk {st:List Stmt} {t t':TS} (h:PSs X st t) (i:∀ D σ H,t' D σ H→t D σ H):PSs X st t':=fun pins s σ H D I q=>h pins s σ H D I (i D σ H q)
theorem v_var (i:Nat) {x:Str} {pos:Pos} (hN:X.N[i]? = some x:=by rfl) (hv:Vis X.env.scope x:=by first | exact Or.inl rfl | exact Or.inr (Or.inl rfl) | exact Or.inr (Or.inr rfl)) (hd:(x == ("__debug__" : Str))=false:=by decide)
    (hcd:(x == ("__classdict__" : Str))=false:=by decide):PE X (.Name x pos) (tV (kk X cm) E (mVarV i)):=PE.wk (pe_var hN hv hd hcd) fun σ H Q ⟨c,F,ρ,rel,h⟩=>by
  unfold mVarV at h
  split at h
  · rename_i p e
    obtain ⟨v,h1,h2⟩:=rel.slot i _ e
    exact ⟨v,at_of h1,h v F H rel (Same.refl F) (Same.refl H) h2⟩
  · rename_i ps e
    obtain ⟨a,vs,h1,h2,h3,h4⟩:=rel.share e
    exact ⟨.ref a,h1,h _ _ H h4 (Same.upd h2) (Same.refl H) h3⟩
  · exact h.elim
theorem r_var (i:Nat) {x:Str} {pos:Pos} (hN:X.N[i]? = some x:=by rfl) (hv:Vis X.env.scope x:=by first | exact Or.inl rfl | exact Or.inr (Or.inl rfl) | exact Or.inr (Or.inr rfl)) (hd:(x == ("__debug__" : Str))=false:=by decide)
    (hcd:(x == ("__classdict__" : Str))=false:=by decide):PE X (.Name x pos) (tR (kk X cm) E (mVarR i)):=PE.wk (pe_var hN hv hd hcd) fun σ H Q ⟨c,F,ρ,rel,h⟩=>by
  unfold mVarR at h
  split at h
  · rename_i p e
    obtain ⟨v,h1,h2⟩:=rel.slot i _ e
    exact ⟨v,at_of h1,h v F H rel (Same.refl F) (Same.refl H) (.inl h2)⟩
  · rename_i ps e
    obtain ⟨a,vs,h1,h2,h3,h4,h5,_⟩:=rel.ow e
    exact ⟨.ref a,h1,h _ F H rel (Same.refl F) (Same.refl H) (.inr ⟨a,vs,rfl,h2,h5⟩)⟩
  · rename_i ps e
    obtain ⟨a,vs,h1,h2,h3⟩:=rel.slot i _ e
    exact ⟨.ref a,at_of h1,h _ F H rel (Same.refl F) (Same.refl H) (.inr ⟨a,vs,rfl,(rel.lent a _ h2).1,h3⟩)⟩
  · rename_i C ns ps e
    obtain ⟨a,dx,fs,h1,h2,h3,h4,h5,h6⟩:=rel.slot i _ e
    exact ⟨.ref a,at_of h1,h _ F H rel (Same.refl F) (Same.refl H) (.inr ⟨a,dx,fs,rfl,h2,h5,h6.1⟩)⟩
  · exact h.elim
theorem o_var (i:Nat) {x:Str} {pos:Pos} (hN:X.N[i]? = some x:=by rfl) (hv:Vis X.env.scope x:=by first | exact Or.inl rfl | exact Or.inr (Or.inl rfl) | exact Or.inr (Or.inr rfl)) (hd:(x == ("__debug__" : Str))=false:=by decide)
    (hcd:(x == ("__classdict__" : Str))=false:=by decide):PE X (.Name x pos) (tO (kk X cm) E (mVarO i)):=PE.wk (pe_var hN hv hd hcd) fun σ H Q ⟨c,F,ρ,rel,h⟩=>by
  unfold mVarO at h
  split at h
  · rename_i p e
    obtain ⟨v,h1,h2⟩:=rel.slot i _ e
    exact ⟨v,at_of h1,h v F H rel (Same.refl F) (Same.refl H) h2⟩
  · rename_i ps e
    obtain ⟨a,vs,h1,h2,h3,h4,h5,h6⟩:=rel.ow e
    obtain ⟨m1,m2⟩:=rel.move h6
    exact ⟨.ref a,h1,h _ F H m1 (Same.refl F) (Same.refl H) ⟨a,vs,rfl,h2,h3,h4,m2,h5⟩⟩
  · exact h.elim
theorem v_c {v:V} (p:PV) (h:PE X e (tC v)) (hr:∀ F,Rep (kk X cm) F p v:=by intro _;unfold Rep;rfl):PE X e (tV (kk X cm) E (mC p)):=PE.wk h fun σ H Q ⟨c,F,ρ,rel,h⟩=>h v F H rel (Same.refl F) (Same.refl H) (hr F)
theorem v_int {i j pos}:PE X (.Constant (.int i) j pos) (tV (kk X cm) E (mC (.int i))):=v_c _ pe_int
theorem v_bl {i j pos}:PE X (.Constant (.bool i) j pos) (tV (kk X cm) E (mC (.bl i))):=v_c _ pe_bl
theorem v_non {j pos}:PE X (.Constant .none j pos) (tV (kk X cm) E (mC .non)):=v_c _ pe_non
theorem v_str {x j pos}:PE X (.Constant (.str x) j pos) (tV (kk X cm) E (mC (.str x))):=v_c _ pe_str
theorem r_of (h:PE X e (tV (kk X cm) E m)):PE X e (tR (kk X cm) E m):=PE.wk h fun σ H Q ⟨c,F,ρ,rel,h⟩=>⟨c,F,ρ,rel,h.rel fun _ _ _ _ _ _ q => .inl q⟩
theorem o_of (h:PE X e (tV (kk X cm) E m)):PE X e (tO (kk X cm) E (mSh m)):=PE.wk h fun σ H Q ⟨c,F,ρ,rel,h⟩=>⟨c,F,ρ,rel,h.bind fun p ρ1 v F1 H1 rel1 s1 s2 q h1=>h1 v F1 H1 rel1 (Same.refl _) (Same.refl _) q⟩
theorem Held.share {K:KK} {c:Ctx} {F H:Hp} {σ : L2.St} {ρ : PSt} {ps:List PV} {v:V} (rel:Rel K c F H σ ρ) (h:Held K c σ ρ F H ps v):∃ F1,Same F F1∧Rel K c F1 H σ ρ ∧ Rep K F1 (.lst ps) v:=by
  obtain ⟨a,vs,rfl,h1,h2,h3,h4,h5⟩:=h
  refine ⟨_,Same.upd h2,rel.freeze h1 h3 h2 h4,?_⟩
  unfold Rep
  exact ⟨a,vs,rfl,SqL.of upd_same,h5.same (Same.upd h2) ps vs⟩
theorem v_of (h:PE X e (tO (kk X cm) E mo)):PE X e (tV (kk X cm) E (mVal mo)):=PE.wk h fun σ H Q ⟨c,F,ρ,rel,h⟩=>⟨c,F,ρ,rel,h.bind fun r ρ1 v F1 H1 rel1 s1 s2 q h1=>by
  cases r with
  | sh p=>exact h1 v F1 H1 rel1 (Same.refl _) (Same.refl _) q
  | ow ps =>
    obtain ⟨F2,s3,rel2,rp⟩:=Held.share rel1 q
    exact h1 v F2 H1 rel2 s3 (Same.refl _) rp⟩
def mBin (f:PV→PV→Option PV) (ma mb:M PV):M PV:=fun ρ => (ma ρ).bind fun p ρ1=>(mb ρ1).bind fun q ρ2=>Res.ofO (f p q) ρ2
def mBinO (f:PV→PV→Option RV) (ma mb:M PV):M RV:=fun ρ => (ma ρ).bind fun p ρ1=>(mb ρ1).bind fun q ρ2=>Res.ofO (f p q) ρ2
def OpV (K:KK) (r:R2) (f:PV→PV→Option PV):Prop:=∀ {c:Ctx} {F H:Hp} {σ : L2.St} {ρ : PSt} {p q pv:PV} {v u:V} {Q:VK},Rel K c F H σ ρ → rR K c σ ρ F H p v→rR K c σ ρ F H q u→f p q=some pv →
  (∀ z F' H',Rel K c F' H' σ ρ → Same F F'→Same H H'→Rep K F' pv z→Q z H')→r v u H Q
def OpO (K:KK) (r:R2) (f:PV→PV→Option RV):Prop:=∀ {c:Ctx} {F H:Hp} {σ : L2.St} {ρ : PSt} {p q:PV} {pv:RV} {v u:V} {Q:VK},Rel K c F H σ ρ → rR K c σ ρ F H p v→rR K c σ ρ F H q u→f p q=some pv →
  (∀ z F' H',Rel K c F' H' σ ρ → Same F F'→Same H H'→rO K c σ ρ F' H' pv z→Q z H')→r v u H Q
theorem two_v {r:R2} {f:PV→PV→Option PV} (hf:OpV (kk X cm) r f) {σ : L2.St} {H:Hp} {Q:VK} (h:tV (kk X cm) E (mBin f ma mb) σ H Q):tOp r (tR (kk X cm) E ma) (tR (kk X cm) E mb) σ H Q:=by
  obtain ⟨c,F,ρ,rel,h⟩:=h
  refine ⟨c,F,ρ,rel,h.bind fun p ρ1 v F1 H1 rel1 _ _ r1 h1=>⟨c,F1,ρ1,rel1,h1.bind fun q ρ2 u F2 H2 rel2 sF sH r2 h2 => ?_⟩⟩
  cases e:f p q with
  | none=>rw [e] at h2;exact h2.elim
  | some pv=>rw [e] at h2;exact hf rel2 (r1.mono sF sH) r2 e fun z F' H' rel' s1 s2 q'=>h2 z F' H' rel' s1 s2 q'
theorem two_o {r:R2} {f:PV→PV→Option RV} (hf:OpO (kk X cm) r f) {σ : L2.St} {H:Hp} {Q:VK} (h:tO (kk X cm) E (mBinO f ma mb) σ H Q):tOp r (tR (kk X cm) E ma) (tR (kk X cm) E mb) σ H Q:=by
  obtain ⟨c,F,ρ,rel,h⟩:=h
  refine ⟨c,F,ρ,rel,h.bind fun p ρ1 v F1 H1 rel1 _ _ r1 h1=>⟨c,F1,ρ1,rel1,h1.bind fun q ρ2 u F2 H2 rel2 sF sH r2 h2 => ?_⟩⟩
  cases e:f p q with
  | none=>rw [e] at h2;exact h2.elim
  | some pv=>rw [e] at h2;exact hf rel2 (r1.mono sF sH) r2 e fun z F' H' rel' s1 s2 q'=>h2 z F' H' rel' s1 s2 q'
theorem v_bin {op:Operator} {r:R2} {f:PV→PV→Option PV} (hf:OpV (kk X cm) r f) (ho:OpR X (binaryOp op) r) (ha:PE X a (tR (kk X cm) E ma)) (hb:PE X b (tR (kk X cm) E mb)):PE X (.BinOp a op b pos) (tV (kk X cm) E (mBin f ma mb)):=PE.wk (pe_op ho ha hb) fun _ _ _ h=>two_v hf h
theorem o_bin {op:Operator} {r:R2} {f:PV→PV→Option RV} (hf:OpO (kk X cm) r f) (ho:OpR X (binaryOp op) r) (ha:PE X a (tR (kk X cm) E ma)) (hb:PE X b (tR (kk X cm) E mb)):PE X (.BinOp a op b pos) (tO (kk X cm) E (mBinO f ma mb)):=PE.wk (pe_op ho ha hb) fun _ _ _ h=>two_o hf h
theorem v_cmp {op:CmpOp} {r:R2} {f:PV→PV→Option PV} (hf:OpV (kk X cm) r f) (ho:OpR X (compareOp op) r) (ha:PE X a (tR (kk X cm) E ma)) (hb:PE X b (tR (kk X cm) E mb)) (hm:behindInMarks op b=false):PE X (.Compare a [op] [b] pos) (tV (kk X cm) E (mBin f ma mb)) :=
  PE.wk (pe_cmpR ho ha hb hm) fun _ _ _ h=>two_v hf h
theorem v_ix {r:R2} {f:PV→PV→Option PV} (hf:OpV (kk X cm) r f) (hr:IxR X r) (ha:PE X a (tR (kk X cm) E ma)) (hb:PE X b (tR (kk X cm) E mb)) (hs:PlainIx b):PE X (.Subscript a b pos) (tV (kk X cm) E (mBin f ma mb)) :=
  PE.wk (pe_ix hr ha hb hs) fun _ _ _ h=>two_v hf h
def mUn (f:PV→Option PV) (ma:M PV):M PV:=fun ρ => (ma ρ).bind fun p ρ1=>Res.ofO (f p) ρ1
def UnV (K:KK) (r:V→Hp→VK→Prop) (f:PV→Option PV):Prop:=∀ {c:Ctx} {F H:Hp} {σ : L2.St} {ρ : PSt} {p pv:PV} {v:V} {Q:VK},Rel K c F H σ ρ → rR K c σ ρ F H p v→f p=some pv →
  (∀ z F' H',Rel K c F' H' σ ρ → Same F F'→Same H H'→Rep K F' pv z→Q z H')→r v H Q
theorem v_un {op:UnaryOp} {r:V→Hp→VK→Prop} {f:PV→Option PV} (hf:UnV (kk X cm) r f) (ho:UnR X (unaryOp op) r) (ha:PE X a (tR (kk X cm) E ma)):PE X (.UnaryOp op a pos) (tV (kk X cm) E (mUn f ma)):=PE.wk (pe_un ho ha) fun σ H Q ⟨c,F,ρ,rel,h⟩ =>
  ⟨c,F,ρ,rel,h.bind fun p ρ1 v F1 H1 rel1 _ _ r1 h1=>by
    cases e:f p with
    | none=>rw [e] at h1;exact h1.elim
    | some pv=>rw [e] at h1;exact hf rel1 r1 e fun z F' H' rel' s1 s2 q'=>h1 z F' H' rel' s1 s2 q'⟩
def tru:PV→Option Bool
  | .bl b=>some b
  | .int i=>some (i != 0)
  | .non=>some false
  | .str y=>if y.length≤sizeLine then some ((y.length:Int) != 0) else none
  | .lst ps=>some (!ps.isEmpty)
  | .tup ps=>some (!ps.isEmpty)
  | _=>none
def mTru (m:M PV):M Bool:=fun ρ => (m ρ).bind fun p ρ1=>Res.ofO (tru p) ρ1
theorem tru_v {K:KK} {c:Ctx} {F H:Hp} {σ : L2.St} {ρ : PSt} {p:PV} {v:V} {k:Bool} (s:Same F H) (r:rR K c σ ρ F H p v) (h:tru p=some k):TruV K.K v H k:=by
  cases p with
  | bl b=>cases r.bl;cases h;rfl
  | int i=>cases r.int;cases h;rfl
  | non=>cases r.non;cases h;rfl
  | str y =>
    cases r.str
    have h':(if y.length≤sizeLine then some ((y.length:Int) != 0) else none)=some k:=h
    split at h'
    · rename_i hy;cases h';exact ⟨hy,rfl⟩
    · cases h'
  | lst ps =>
    obtain ⟨a,vs,rfl,h1,h2⟩:=r.lst s
    cases h
    have e:ps.isEmpty=vs.isEmpty:=by cases h2.pr<;>rfl
    exact .inl ⟨vs,h1,by rw [e]⟩
  | tup ps =>
    obtain ⟨a,vs,rfl,h1,h2⟩:=r.tup s
    cases h
    have e:ps.isEmpty=vs.isEmpty:=by cases h2.pr<;>rfl
    exact .inr (.inl ⟨vs,h1,by rw [e]⟩)
  | ins C ns ps=>cases h
  | xc C ns ps=>cases h
  | ty n=>cases h
  | cls C=>cases h
theorem t_val (ha:PE X a (tR (kk X cm) E ma)) (he:∀ whole,isTrue a X.env whole=(do let v ← whole;standAt a.pos;holding [v] (truthy v)):=by intro _;rfl):PT X a (tB (kk X cm) E (mTru ma)):=PT.wk (pt_truth ha he) fun σ H Q ⟨c,F,ρ,rel,h⟩ =>
  ⟨c,F,ρ,rel,h.bind fun p ρ1 v F1 H1 rel1 _ _ r1 h1=>by
    cases e:tru p with
    | none=>rw [e] at h1;exact h1.elim
    | some k=>rw [e] at h1;exact ⟨k,tru_v rel1.sub r1 e,h1 k F1 H1 rel1 (Same.refl _) (Same.refl _) rfl⟩⟩
def mBl (m:M PV):M Bool:=fun ρ => (m ρ).bind fun p ρ1=>match p with
  | .bl b => .ok b ρ1
  | _ => .bad
theorem bl_of {σ : L2.St} {H:Hp} {Q:Bool→Hp→Prop} (h:tB (kk X cm) E (mBl m) σ H Q):M2.mTest (tV (kk X cm) E m) σ H Q:=by
  obtain ⟨c,F,ρ,rel,h⟩:=h
  refine ⟨c,F,ρ,rel,h.bind fun p ρ1 v F1 H1 rel1 _ _ r1 h1 => ?_⟩
  cases p with
  | bl b =>
    have e:v = .bl b:=by have r1':Rep (kk X cm) F1 (.bl b) v:=r1;unfold Rep at r1';exact r1'
    subst e
    exact h1 b F1 H1 rel1 (Same.refl _) (Same.refl _) rfl
  | _=>exact h1.elim
theorem t_cmp {op:CmpOp} {r:R2} {f:PV→PV→Option PV} (hf:OpV (kk X cm) r f) (ho:OpR X (compareOp op) r) (ha:PE X a (tR (kk X cm) E ma)) (hb:PE X b (tR (kk X cm) E mb)) (hm:behindInMarks op b=false):PT X (.Compare a [op] [b] pos) (tB (kk X cm) E (mBl (mBin f ma mb))) :=
  PT.wk (mt_cmp ho ha hb hm) fun σ H Q h=>by
    obtain ⟨c,F,ρ,rel,h⟩:=bl_of h
    exact two_v hf ⟨c,F,ρ,rel,h⟩
def mChn (f g:PV→PV→Option PV) (ma mb mc:M PV):M PV:=fun ρ => (ma ρ).bind fun p ρ1=>(mb ρ1).bind fun q ρ2=>(Res.ofO (f p q) ρ2).bind fun z ρ3=>match z with
  | .bl true=>(mc ρ3).bind fun w ρ4=>Res.ofO (g q w) ρ4
  | .bl false => .ok (.bl false) ρ3
  | _ => .bad
theorem chn_v {r r':R2} {f g:PV→PV→Option PV} (hf:OpV (kk X cm) r f) (hg:OpV (kk X cm) r' g) {σ : L2.St} {H:Hp} {Q:VK} (h:tV (kk X cm) E (mChn f g ma mb mc) σ H Q):M2.mChain r r' (tR (kk X cm) E ma) (tR (kk X cm) E mb) (tR (kk X cm) E mc) σ H Q:=by
  obtain ⟨c,F,ρ,rel,h⟩:=h
  refine ⟨c,F,ρ,rel,h.bind fun p ρ1 v F1 H1 rel1 _ _ r1 h1=>⟨c,F1,ρ1,rel1,h1.bind fun q ρ2 u F2 H2 rel2 sF sH r2 h2 => ?_⟩⟩
  cases e:f p q with
  | none=>rw [e] at h2;exact h2.elim
  | some pv =>
    rw [e] at h2
    refine hf rel2 (r1.mono sF sH) r2 e fun z F' H' rel' s1 s2 q' => ?_
    cases pv with
    | bl k =>
      have ez:z = .bl k:=by unfold Rep at q';exact q'
      subst ez
      cases k with
      | false=>exact h2 _ F' H' rel' s1 s2 q'
      | true =>
        refine ⟨c,F',ρ2,rel',EndG.bind (EndG.mono h2 s1 s2) fun w ρ4 x F4 H4 rel4 s3 s4 r4 h4 => ?_⟩
        cases e':g q w with
        | none=>rw [e'] at h4;exact h4.elim
        | some pv'=>rw [e'] at h4;exact hg rel4 (r2.mono (s1.trans s3) (s2.trans s4)) r4 e' fun z F' H' rel' s1 s2 q'=>h4 z F' H' rel' s1 s2 q'
    | _=>exact h2.elim
theorem v_chn {op op':CmpOp} {r r':R2} {f g:PV→PV→Option PV} {c:Expr} (hf:OpV (kk X cm) r f) (hg:OpV (kk X cm) r' g) (ho:OpR X (compareOp op) r) (ho':OpR X (compareOp op') r') (ha:PE X a (tR (kk X cm) E ma)) (hb:PE X b (tR (kk X cm) E mb)) (hc:PE X c (tR (kk X cm) E mc))
    (hm:lastMarks [op,op'] [b,c]=false:=by with_unfolding_all rfl):PE X (.Compare a [op,op'] [b,c] pos) (tV (kk X cm) E (mChn f g ma mb mc)):=PE.wk (me_chain ho ho' ha hb hc hm) fun _ _ _ h=>chn_v hf hg h
def mNotT (m:M Bool):M Bool:=fun ρ => (m ρ).bind fun b ρ1 => .ok (!b) ρ1
theorem t_not {m:M Bool} (h:PT X a (tB (kk X cm) E m)):PT X (.UnaryOp .Not a pos) (tB (kk X cm) E (mNotT m)):=PT.wk (pt_not h) fun σ H Q ⟨c,F,ρ,rel,h⟩ =>
  ⟨c,F,ρ,rel,h.bind fun p ρ1 v F1 H1 rel1 _ _ r1 h1=>h1 _ F1 H1 rel1 (Same.refl _) (Same.refl _) (by have e:p=v:=r1;rw [e];rfl)⟩
def mAndT (ma mb:M Bool):M Bool:=fun ρ => (ma ρ).bind fun b ρ1=>if b=true then mb ρ1 else .ok false ρ1
def mOrT (ma mb:M Bool):M Bool:=fun ρ => (ma ρ).bind fun b ρ1=>if b=true then .ok true ρ1 else mb ρ1
variable {ta tb:M Bool} {rest:List Expr}
theorem w_and1 (h:PT X a (tB (kk X cm) E ta)):PW X (.BoolOp .And [a] pos) (tB (kk X cm) E ta):=pw_and1 h
theorem w_or1 (h:PT X a (tB (kk X cm) E ta)):PW X (.BoolOp .Or [a] pos) (tB (kk X cm) E ta):=pw_or1 h
theorem w_and (ha:PT X a (tB (kk X cm) E ta)) (hb:PW X (.BoolOp .And (b::rest) pos) (tB (kk X cm) E tb)):PW X (.BoolOp .And (a::b::rest) pos) (tB (kk X cm) E (mAndT ta tb)):=PW.wk (pw_and ha hb) fun σ H Q ⟨c,F,ρ,rel,h⟩ =>
  ⟨c,F,ρ,rel,h.bind fun p ρ1 v F1 H1 rel1 _ _ r1 h1=>by
    have e:p=v:=r1
    subst e
    cases p with
    | true=>exact ⟨c,F1,ρ1,rel1,h1⟩
    | false=>exact h1 false F1 H1 rel1 (Same.refl _) (Same.refl _) rfl⟩
theorem w_or (ha:PT X a (tB (kk X cm) E ta)) (hb:PW X (.BoolOp .Or (b::rest) pos) (tB (kk X cm) E tb)):PW X (.BoolOp .Or (a::b::rest) pos) (tB (kk X cm) E (mOrT ta tb)):=PW.wk (pw_or ha hb) fun σ H Q ⟨c,F,ρ,rel,h⟩ =>
  ⟨c,F,ρ,rel,h.bind fun p ρ1 v F1 H1 rel1 _ _ r1 h1=>by
    have e:p=v:=r1
    subst e
    cases p with
    | false=>exact ⟨c,F1,ρ1,rel1,h1⟩
    | true=>exact h1 true F1 H1 rel1 (Same.refl _) (Same.refl _) rfl⟩
def mAnd (ma mb:M PV):M PV:=fun ρ => (ma ρ).bind fun p ρ1=>match p with
  | .bl true=>mb ρ1
  | .bl false => .ok (.bl false) ρ1
  | _ => .bad
def mOr (ma mb:M PV):M PV:=fun ρ => (ma ρ).bind fun p ρ1=>match p with
  | .bl true => .ok (.bl true) ρ1
  | .bl false=>mb ρ1
  | _ => .bad
def mNot (ma:M PV):M PV:=fun ρ => (ma ρ).bind fun p ρ1=>match p with
  | .bl b => .ok (.bl (!b)) ρ1
  | _ => .bad
theorem rep_bl {K:KK} {F:Hp} {b:Bool} {v:V} (h:Rep K F (.bl b) v):v = .bl b:=by unfold Rep at h;exact h
theorem v_one {op} (h:PE X a (tV (kk X cm) E ma)):PE X (.BoolOp op [a] pos) (tV (kk X cm) E ma):=pe_one h
theorem v_and (ha:PE X a (tV (kk X cm) E ma)) (hb:PE X (.BoolOp .And (b::rest) pos) (tV (kk X cm) E mb)):PE X (.BoolOp .And (a::b::rest) pos) (tV (kk X cm) E (mAnd ma mb)):=PE.wk (me_and ha hb) fun σ H Q ⟨c,F,ρ,rel,h⟩ =>
  ⟨c,F,ρ,rel,h.bind fun p ρ1 v F1 H1 rel1 _ _ r1 h1=>by
    cases p with
    | bl k =>
      cases rep_bl r1
      cases k with
      | true=>exact ⟨c,F1,ρ1,rel1,h1⟩
      | false=>exact h1 _ F1 H1 rel1 (Same.refl _) (Same.refl _) r1
    | _=>exact h1.elim⟩
theorem v_not (ha:PE X a (tV (kk X cm) E ma)):PE X (.UnaryOp .Not a pos) (tV (kk X cm) E (mNot ma)):=PE.wk (me_not ha) fun σ H Q ⟨c,F,ρ,rel,h⟩ =>
  ⟨c,F,ρ,rel,h.bind fun p ρ1 v F1 H1 rel1 _ _ r1 h1=>by
    cases p with
    | bl k =>
      cases rep_bl r1
      exact h1 _ F1 H1 rel1 (Same.refl _) (Same.refl _) Rep.bl
    | _=>exact h1.elim⟩
def mIf {α : Type} (t:M Bool) (ma mb:M α):M α := fun ρ => (t ρ).bind fun b ρ1=>if b=true then ma ρ1 else mb ρ1
def mNil:M (List PV):=fun ρ => .ok [] ρ
def mCons (ma:M PV) (mr:M (List PV)):M (List PV):=fun ρ => (ma ρ).bind fun p ρ1=>(mr ρ1).bind fun ps ρ2 => .ok (p::ps) ρ2
variable {mr:M (List PV)}
theorem a_nil:PA X [] (tL (kk X cm) E mNil):=PA.wk pa_nil fun σ H Q ⟨c,F,ρ,rel,h⟩=>h [] F H rel (Same.refl _) (Same.refl _) RepL.nil
theorem a_cons (ha:PE X e (tV (kk X cm) E ma)) (hr:PA X es (tL (kk X cm) E mr)) (hs:starEach (e::es) X.env=(false,eval e X.env)::starEach es X.env:=by exact st_ns rfl):PA X (e::es) (tL (kk X cm) E (mCons ma mr)):=PA.wk (pa_cons ha hr hs) fun σ H Q ⟨c,F,ρ,rel,h⟩ =>
  ⟨c,F,ρ,rel,h.bind fun p ρ1 v F1 H1 rel1 _ _ r1 h1=>⟨c,F1,ρ1,rel1,h1.bind fun ps ρ2 vs F2 H2 rel2 sF sH r2 h2=>h2 _ F2 H2 rel2 (Same.refl _) (Same.refl _) (RepL.cons (Rep.same sF p v r1) r2)⟩⟩
theorem ar_nil:PA X [] (tRL (kk X cm) E mNil):=PA.wk pa_nil fun σ H Q ⟨c,F,ρ,rel,h⟩=>h [] F H rel (Same.refl _) (Same.refl _) .nil
theorem ar_cons (ha:PE X e (tR (kk X cm) E ma)) (hr:PA X es (tRL (kk X cm) E mr)) (hs:starEach (e::es) X.env=(false,eval e X.env)::starEach es X.env:=by exact st_ns rfl):PA X (e::es) (tRL (kk X cm) E (mCons ma mr)):=PA.wk (pa_cons ha hr hs) fun σ H Q ⟨c,F,ρ,rel,h⟩ =>
  ⟨c,F,ρ,rel,h.bind fun p ρ1 v F1 H1 rel1 _ _ r1 h1=>⟨c,F1,ρ1,rel1,h1.bind fun ps ρ2 vs F2 H2 rel2 sF sH r2 h2=>h2 _ F2 H2 rel2 (Same.refl _) (Same.refl _) (.cons (rR.mono r1 sF sH) r2)⟩⟩
def mANil:M (List Slot):=fun ρ => .ok [] ρ
def mACons (ma:M PV) (mr:M (List Slot)):M (List Slot):=fun ρ => (ma ρ).bind fun p ρ1=>(mr ρ1).bind fun as ρ2 => .ok (.sh p::as) ρ2
def lendS:Slot→Option Slot
  | .sh p=>some (.sh p)
  | .ow ps=>some (.bw ps)
  | .bw ps=>some (.bw ps)
  | _=>none
def mAName (i:Nat) (mr:M (List Slot)):M (List Slot):=fun ρ => match (ρ[i]?).bind lendS with
  | none => .bad
  | some _=>(mr ρ).bind fun as ρ2=>match (ρ2[i]?).bind lendS with
    | some s => .ok (s::as) ρ2
    | none => .bad
variable {ms:M (List Slot)}
theorem ag_nil:PA X [] (tA (kk X cm) E mANil):=PA.wk pa_nil fun σ H Q ⟨c,F,ρ,rel,h⟩=>h [] F H rel (Same.refl _) (Same.refl _) .nil
theorem ag_cons (ha:PE X e (tV (kk X cm) E ma)) (hr:PA X es (tA (kk X cm) E ms)) (hs:starEach (e::es) X.env=(false,eval e X.env)::starEach es X.env:=by exact st_ns rfl):PA X (e::es) (tA (kk X cm) E (mACons ma ms)):=PA.wk (pa_cons ha hr hs) fun σ H Q ⟨c,F,ρ,rel,h⟩ =>
  ⟨c,F,ρ,rel,h.bind fun p ρ1 v F1 H1 rel1 _ _ r1 h1=>⟨c,F1,ρ1,rel1,h1.bind fun as ρ2 vs F2 H2 rel2 sF sH r2 h2=>h2 _ F2 H2 rel2 (Same.refl _) (Same.refl _) (.cons (show argOk _ _ _ (.sh p) v from Rep.same sF p v r1) r2)⟩⟩
theorem lend_ok {K:KK} {c:Ctx} {F H:Hp} {σ : L2.St} {ρ : PSt} {i:Nat} {s:Slot} (rel:Rel K c F H σ ρ) (h:(ρ[i]?).bind lendS=some s):∃ v,σ[i]? = some (some v)∧argOk K F H s v:=by
  cases e : ρ[i]? with
  | none=>rw [e] at h;cases h
  | some sl =>
    rw [e] at h
    have h':lendS sl=some s:=h
    cases sl with
    | sh p =>
      cases h'
      obtain ⟨v,h1,h2⟩:=rel.slot i _ e
      exact ⟨v,at_of h1,h2⟩
    | ow ps =>
      cases h'
      obtain ⟨a,vs,h1,h2,h3,h4,h5,_⟩:=rel.ow e
      exact ⟨.ref a,h1,a,vs,rfl,h2,h3,h5⟩
    | bw ps =>
      cases h'
      obtain ⟨a,vs,h1,h2,h3⟩:=rel.slot i _ e
      exact ⟨.ref a,at_of h1,a,vs,rfl,(rel.lent a _ h2).1,(rel.lent a _ h2).2,h3⟩
    | no=>cases h'
    | rc C ns ps=>cases h'
theorem ag_name (i:Nat) {x:Str} {px:Pos} (hN:X.N[i]? = some x:=by rfl) (hv:Vis X.env.scope x:=by first | exact Or.inl rfl | exact Or.inr (Or.inl rfl) | exact Or.inr (Or.inr rfl)) (hd:(x == ("__debug__" : Str))=false:=by decide)
    (hcd:(x == ("__classdict__" : Str))=false:=by decide) (hr:PA X es (tA (kk X cm) E ms)) (hs:starEach (.Name x px::es) X.env=(false,eval (.Name x px) X.env)::starEach es X.env:=by exact st_ns rfl):PA X (.Name x px::es) (tA (kk X cm) E (mAName i ms)) :=
  PA.wk (pa_cons (pe_var hN hv hd hcd) hr hs) fun σ H Q ⟨c,F,ρ,rel,h⟩=>by
    unfold mAName at h
    cases e:(ρ[i]?).bind lendS with
    | none=>rw [e] at h;exact h.elim
    | some s0 =>
      rw [e] at h
      obtain ⟨v,hv,_⟩:=lend_ok rel e
      refine ⟨v,hv,c,F,ρ,rel,EndG.bind h fun as ρ2 vs F2 H2 rel2 sF sH r2 h2 => ?_⟩
      cases e2:(ρ2[i]?).bind lendS with
      | none=>simp only [e2] at h2;exact h2.elim
      | some s =>
        simp only [e2] at h2
        obtain ⟨v',hv',r1⟩:=lend_ok rel2 e2
        rw [hv] at hv'
        cases hv'
        exact h2 _ F2 H2 rel2 (Same.refl _) (Same.refl _) (.cons r1 r2)
def mTup (mr:M (List PV)):M PV:=fun ρ => (mr ρ).bind fun ps ρ1=>if ps.length≤16777216 then .ok (.tup ps) ρ1 else .bad
def mLst (mr:M (List PV)):M RV:=fun ρ => (mr ρ).bind fun ps ρ1=>if ps.length≤16777216 then .ok (.ow ps) ρ1 else .bad
theorem sizeLine_is:sizeLine=16777216:=sizeLine_eq
theorem v_tup {x1} (h:PA X es (tL (kk X cm) E mr)):PE X (.Tuple es x1 pos) (tV (kk X cm) E (mTup mr)):=PE.wk (pe_tup h) fun σ H Q ⟨c,F,ρ,rel,h⟩ =>
  ⟨c,F,ρ,rel,h.bind fun ps ρ1 vs F1 H1 rel1 _ _ r1 h1=>by
    split at h1
    · rename_i hz
      refine ⟨by rw [← RepL.length r1,sizeLine_is];exact hz,fun p hp=>h1 _ _ _ (rel1.alloc hp) (Same.upd (rel1.sub.free hp)) (Same.upd hp) ?_⟩
      show Rep _ _ _ _
      unfold Rep
      exact ⟨p,vs,rfl,SqT.of upd_same,RepL.same (Same.upd (rel1.sub.free hp)) ps vs r1⟩
    · exact h1.elim⟩
theorem held_new {K:KK} {c:Ctx} {F H:Hp} {σ : L2.St} {ρ : PSt} {ps:List PV} {vs:List V} {a:Addr} (rel:Rel K c F H σ ρ) (ha:H a=none) (r:RepL K F ps vs):Rel K c F (upd H a (.lst vs)) σ ρ ∧ Held K c σ ρ F (upd H a (.lst vs)) ps (.ref a) :=
  ⟨rel.made ha,a,vs,rfl,upd_same,rel.sub.free ha,rel.base.free ha,rel.fresh ha,r⟩
theorem o_lst (h:PA X es (tL (kk X cm) E mr)):PE X (.List es pos) (tO (kk X cm) E (mLst mr)):=PE.wk (pe_lst h) fun σ H Q ⟨c,F,ρ,rel,h⟩ =>
  ⟨c,F,ρ,rel,h.bind fun ps ρ1 vs F1 H1 rel1 _ _ r1 h1=>by
    split at h1
    · rename_i hz
      refine ⟨by rw [← RepL.length r1,sizeLine_is];exact hz,fun p hp => ?_⟩
      obtain ⟨q1,q2⟩:=held_new rel1 hp r1
      exact h1 _ _ _ q1 (Same.refl _) (Same.upd hp) q2
    · exact h1.elim⟩
def mCB (f:List PV→Option PV) (mr:M (List PV)):M PV:=fun ρ => (mr ρ).bind fun ps ρ1=>Res.ofO (f ps) ρ1
def mCBO (f:List PV→Option RV) (mr:M (List PV)):M RV:=fun ρ => (mr ρ).bind fun ps ρ1=>Res.ofO (f ps) ρ1
def CallV (K:KK) (r:List V→Hp→VK→Prop) (f:List PV→Option PV):Prop:=∀ {c:Ctx} {F H:Hp} {σ : L2.St} {ρ : PSt} {ps:List PV} {pv:PV} {vs:List V} {Q:VK},Rel K c F H σ ρ → rRL K c σ ρ F H ps vs→f ps=some pv →
  (∀ z F' H',Rel K c F' H' σ ρ → Same F F'→Same H H'→Rep K F' pv z→Q z H')→r vs H Q
def CallO (K:KK) (r:List V→Hp→VK→Prop) (f:List PV→Option RV):Prop:=∀ {c:Ctx} {F H:Hp} {σ : L2.St} {ρ : PSt} {ps:List PV} {pv:RV} {vs:List V} {Q:VK},Rel K c F H σ ρ → rRL K c σ ρ F H ps vs→f ps=some pv →
  (∀ z F' H',Rel K c F' H' σ ρ → Same F F'→Same H H'→rO K c σ ρ F' H' pv z→Q z H')→r vs H Q
theorem cb_v {r:List V→Hp→VK→Prop} {f:List PV→Option PV} (hf:CallV (kk X cm) r f) {σ : L2.St} {H:Hp} {Q:VK} (h:tV (kk X cm) E (mCB f mr) σ H Q):tCB r (tRL (kk X cm) E mr) σ H Q:=by
  obtain ⟨c,F,ρ,rel,h⟩:=h
  refine ⟨c,F,ρ,rel,h.bind fun p ρ1 v F1 H1 rel1 _ _ r1 h1 => ?_⟩
  cases e:f p with
  | none=>rw [e] at h1;exact h1.elim
  | some pv=>rw [e] at h1;exact hf rel1 r1 e fun z F' H' rel' s1 s2 q'=>h1 z F' H' rel' s1 s2 q'
theorem cb_o {r:List V→Hp→VK→Prop} {f:List PV→Option RV} (hf:CallO (kk X cm) r f) {σ : L2.St} {H:Hp} {Q:VK} (h:tO (kk X cm) E (mCBO f mr) σ H Q):tCB r (tRL (kk X cm) E mr) σ H Q:=by
  obtain ⟨c,F,ρ,rel,h⟩:=h
  refine ⟨c,F,ρ,rel,h.bind fun p ρ1 v F1 H1 rel1 _ _ r1 h1 => ?_⟩
  cases e:f p with
  | none=>rw [e] at h1;exact h1.elim
  | some pv=>rw [e] at h1;exact hf rel1 r1 e fun z F' H' rel' s1 s2 q'=>h1 z F' H' rel' s1 s2 q'
end
end P
namespace P
open PySem PySem.Spec PyProof.Rows L2 M2 M3
def mNx:M Fl:=fun ρ => .ok .nx ρ
def mBk:M Fl:=fun ρ => .ok .bk ρ
def mCt:M Fl:=fun ρ => .ok .ct ρ
def mSeq (a b:M Fl):M Fl:=fun ρ => (a ρ).bind fun f ρ1=>match f with
  | .nx=>b ρ1
  | f => .ok f ρ1
def mSet (i:Nat) (m:M RV):M Fl:=fun ρ => (m ρ).bind fun r ρ1 => .ok .nx (ρ1.set i r.slot)
def mRet (m:M RV):M Fl:=fun ρ => (m ρ).bind fun r ρ1 => .ok (.rt r) ρ1
def mRetN:M Fl:=fun ρ => .ok (.rt (.sh .non)) ρ
def mDrop (m:M PV):M Fl:=fun ρ => (m ρ).bind fun _ ρ1 => .ok .nx ρ1
section
variable {X:Cx} {cm:String→Addr} {E:L2.St→XK} {a b e:Expr} {st:Stmt} {rest:List Stmt} {es:List Expr} {pos:Pos} {m1 m2:M Fl} {mo:M RV} {mv:M PV}
theorem ss_nil:PSs X [] (tS (kk X cm) E mNx):=PSs.wk pss_nil fun D σ H ⟨c,F,ρ,rel,h⟩=>h σ F H rel (Same.refl F)
theorem ss_one (h:PS X st (tS (kk X cm) E m1)):PSs X [st] (tS (kk X cm) E m1):=pss_one h
theorem seq_end {c:Ctx} {F:Hp} {D:Ends} {r:Res Fl} (h:EndS (kk X cm) E c F D (r.bind fun f ρ1=>match f with | .nx=>m2 ρ1 | f => .ok f ρ1)):EndS (kk X cm) E c F { D with nx:=tS (kk X cm) E m2 D } r:=by
  cases r with
  | ok f ρ1 =>
    cases f with
    | nx=>exact fun σ' F' H' rel' s=>⟨c,F',ρ1,rel',EndS.mono h s⟩
    | bk=>exact h
    | ct=>exact h
    | rt v=>exact h
  | exc x ρ1=>exact h
  | bad=>exact h
theorem ss_cons (h1:PS X st (tS (kk X cm) E m1)) (h2:PSs X rest (tS (kk X cm) E m2)):PSs X (st::rest) (tS (kk X cm) E (mSeq m1 m2)):=PSs.wk (pss_cons h1 h2) fun D σ H ⟨c,F,ρ,rel,h⟩=>⟨c,F,ρ,rel,seq_end h⟩
theorem s_set {i:Nat} {x:Str} {pos':Pos} (hN:X.N.Nodup) (hi:X.N[i]? = some x) (hx:Loc X.env.scope x) (he:PE X e (tO (kk X cm) E mo)) (hs:swapsWith e (some (.Name x pos')) pos.line X.env=pure false:=by rfl) (hf:X.fn x=true∨X.env.scope.names.lookup x=some .local:=by first | exact .inl rfl | exact .inr rfl | assumption) :
    PS X (.Assign [.Name x pos'] e pos) (tS (kk X cm) E (mSet i mo)):=PS.wk (ps_set hN hi hx he hs hf) fun D σ H ⟨c,F,ρ,rel,h⟩=>⟨c,F,ρ,rel,EndS.bind h fun r ρ1 v F1 H1 rel1 s1 q h1=>by
  cases r with
  | sh p=>exact h1 _ F1 H1 (rel1.put rfl ⟨v,rfl,q⟩) (Same.refl _)
  | ow ps =>
    obtain ⟨a,vs,rfl,q1,q2,q3,q4,q5⟩:=q
    exact h1 _ F1 H1 (rel1.putO ⟨a,vs,rfl,q1,q2,q3,q5⟩ q4) (Same.refl _)⟩
theorem s_ret (he:PE X e (tO (kk X cm) E mo)):PS X (.Return (some e) pos) (tS (kk X cm) E (mRet mo)):=PS.wk (ps_ret he) fun D σ H ⟨c,F,ρ,rel,h⟩=>⟨c,F,ρ,rel,EndS.bind h fun r ρ1 v F1 H1 rel1 s1 q h1=>h1 v σ F1 H1 rel1 (Same.refl _) q⟩
theorem s_if {t:M Bool} {ss ss':List Stmt} (hc:PT X a (tB (kk X cm) E t)) (ha:PSs X ss (tS (kk X cm) E m1)) (hb:PSs X ss' (tS (kk X cm) E m2)):PS X (.If a ss ss' pos) (tS (kk X cm) E (mIf t m1 m2)):=PS.wk (ps_if hc ha hb) fun D σ H ⟨c,F,ρ,rel,h⟩=>⟨c,F,ρ,rel,EndS.bind h fun r ρ1 v F1 H1 rel1 s1 q h1=>by
  have e:r=v:=q
  subst e
  cases r with
  | true=>exact ⟨c,F1,ρ1,rel1,h1⟩
  | false=>exact ⟨c,F1,ρ1,rel1,h1⟩⟩
def mBad {α : Type}:M α := fun _ => .bad
abbrev Tg:=PV→PSt→Option PSt
abbrev Tgs:=List PV→PSt→Option PSt
def EndT (K:KK) (c:Ctx) (F H:Hp) (Q:L2.St→Hp→Prop):Option PSt→Prop
  | some ρ' => ∀ σ',Rel K c F H σ' ρ'→Q σ' H
  | none=>False
def tT (K:KK) (g:Tg):TG:=fun v σ H Q => ∃ c F ρ p,Rel K c F H σ ρ ∧ Rep K F p v∧EndT K c F H Q (g p ρ)
def tTs (K:KK) (g:Tgs):TGs:=fun v σ H Q => ∃ c F ρ p,Rel K c F H σ ρ ∧ RepL K F p v∧EndT K c F H Q (g p ρ)
def gN (i:Nat):Tg:=fun p ρ => some (ρ.set i (.sh p))
def gsNil:Tgs:=fun ps ρ => match ps with
  | []=>some ρ
  | _=>none
def gsCons (g:Tg) (gs:Tgs):Tgs:=fun ps ρ => match ps with
  | p::ps=>(g p ρ).bind fun ρ1=>gs ps ρ1
  | []=>none
def gT (n:Nat) (gs:Tgs):Tg:=fun p ρ => match p with
  | .tup ps=>if ps.length=n then gs ps ρ else none
  | _=>none
theorem PG.wk' {tg:Expr} {t t':TG} (h:PG X tg t) (i:∀ v σ H Q,t' v σ H Q→t v σ H Q):PG X tg t':=fun pins s σ H v u Q I r q=>h pins s σ H v u Q I r (i v σ H Q q)
theorem PGs.wk {tg:List Expr} {t t':TGs} (h:PGs X tg t) (i:∀ v σ H Q,t' v σ H Q→t v σ H Q):PGs X tg t':=fun pins s σ H v u Q I r q=>h pins s σ H v u Q I r (i v σ H Q q)
theorem g_name {i:Nat} {x:Str} (hN:X.N.Nodup) (hi:X.N[i]? = some x) (hx:Loc X.env.scope x) (hf:X.fn x=true∨X.env.scope.names.lookup x=some .local:=by first | exact .inl rfl | exact .inr rfl | assumption):PG X (.Name x pos) (tT (kk X cm) (gN i)) :=
  PG.wk' (pg_name hN hi hx hf) fun v σ H Q ⟨c,F,ρ,p,rel,rp,h⟩=>h _ (rel.put rfl ⟨v,rfl,rp⟩)
theorem gs_nil:PGs X [] (tTs (kk X cm) gsNil):=PGs.wk pgs_nil fun v σ H Q ⟨c,F,ρ,p,rel,rp,h⟩=>by
  cases p with
  | nil =>
    have e:v = []:=by have:=rp;unfold RepL at this;exact this
    exact ⟨e,h σ rel⟩
  | cons _ _=>exact h.elim
theorem gs_cons {es:List Expr} {g:Tg} {gs:Tgs} (h1:PG X e (tT (kk X cm) g)) (h2:PGs X es (tTs (kk X cm) gs)) (hs:(assignEach (e::es) X.env).map (·.2)=assign e X.env::(assignEach es X.env).map (·.2):=by rfl):PGs X (e::es) (tTs (kk X cm) (gsCons g gs)) :=
  PGs.wk (pgs_cons h1 h2 hs) fun v σ H Q ⟨c,F,ρ,p,rel,rp,h⟩=>by
    cases p with
    | nil=>exact h.elim
    | cons p ps =>
      unfold RepL at rp
      obtain ⟨x,r,rfl,r1,r2⟩:=rp
      refine ⟨x,r,rfl,c,F,ρ,p,rel,r1,?_⟩
      unfold gsCons at h
      dsimp only at h
      cases eg:g p ρ with
      | none=>rw [eg] at h;exact h.elim
      | some ρ1=>rw [eg] at h;exact fun σ' rel'=>⟨c,F,ρ1,ps,rel',r2,h⟩
theorem g_tup {es:List Expr} {k:Nat} {gs:Tgs} {n:Nat} (hc:X.calm=true) (h:PGs X es (tTs (kk X cm) gs)) (hn:(assignEach es X.env).length=n:=by rfl) (hst:(assignEach es X.env).findIdx? (·.1)=none:=by rfl):PG X (.Tuple es k pos) (tT (kk X cm) (gT n gs)) :=
  PG.wk' (pg_tup hc h hn hst) fun v σ H Q ⟨c,F,ρ,p,rel,rp,h⟩=>by
    cases p with
    | tup ps =>
      unfold Rep at rp
      obtain ⟨a,xs,h1,h2,h3⟩:=rp
      unfold gT at h
      dsimp only at h
      split at h
      · rename_i hl
        exact ⟨a,xs,h1,Same.tup rel.sub h2,by rw [← h3.length];exact hl,c,F,ρ,ps,rel,h3,h⟩
      · exact h.elim
    | _=>exact h.elim
def mAsg (g:Tg) (m:M PV):M Fl:=fun ρ => (m ρ).bind fun p ρ1=>match g p ρ1 with
  | some ρ2 => .ok .nx ρ2
  | none => .bad
theorem s_asg {tg:Expr} {g:Tg} (he:PE X e (tV (kk X cm) E mv)) (hg:PG X tg (tT (kk X cm) g)) (hs:swapsWithSole [tg] e pos.line X.env=pure false:=by rfl) (hw:swappedStores [tg] e X.env=pure none:=by rfl)
    (h1:(assignEach [tg] X.env).map (·.2) = [assign tg X.env]:=by rfl):PS X (.Assign [tg] e pos) (tS (kk X cm) E (mAsg g mv)):=PS.wk (ps_asg he hg hs hw h1) fun D σ H ⟨c,F,ρ,rel,h⟩=>⟨c,F,ρ,rel,EndS.bind h fun r ρ1 v F1 H1 rel1 s1 q h1=>by
  refine ⟨c,F1,ρ1,r,rel1,q,?_⟩
  cases eg:g r ρ1 with
  | none=>rw [eg] at h1;exact h1.elim
  | some ρ2=>rw [eg] at h1;exact fun σ' rel'=>h1 σ' F1 H1 rel' (Same.refl _)⟩
def mPar (i j:Nat) (mr:M (List PV)):M Fl:=fun ρ => (mr ρ).bind fun ps ρ1=>match ps with
  | [p,q] => .ok .nx ((ρ1.set i (.sh p)).set j (.sh q))
  | _ => .bad
def mSetIx (i:Nat) (mi:M PV) (m:M PV):M Fl:=fun ρ => (m ρ).bind fun p ρ1=>match ρ1[i]? with
  | some (.ow _)=>(mi ρ1).bind fun q ρ2=>match ρ2[i]?,q with
    | some (.ow ps),.int k=>match ixN ps.length k with
      | some j => .ok .nx (ρ2.set i (.ow (ps.set j p)))
      | none => .bad
    | _,_ => .bad
  | _ => .bad
def mApp (i:Nat) (m:M PV):M Fl:=fun ρ => match ρ[i]? with
  | some (.ow _)=>(m ρ).bind fun p ρ1=>match ρ1[i]? with
    | some (.ow ps)=>if ps.length<16777216 then .ok .nx (ρ1.set i (.ow (ps ++ [p]))) else .bad
    | _ => .bad
  | _ => .bad
theorem app_end {i:Nat} {D:Ends} {σ : L2.St} {H:Hp} (h:tS (kk X cm) E (mApp i mv) D σ H):tDrop (tBM X.K "list" rAppend (tVar i) (tL (kk X cm) E (mCons mv mNil))) D σ H:=by
  obtain ⟨c,F,ρ,rel,h⟩:=h
  unfold mApp at h
  cases e1 : ρ[i]? with
  | none=>rw [e1] at h;exact h.elim
  | some sl =>
    rw [e1] at h
    cases sl with
    | ow ps0 =>
      obtain ⟨a,vs0,z1,z2,z3,z4,z5,z6⟩:=rel.ow e1
      refine ⟨.ref a,z1,.inl ⟨rfl,_,SqL.of z2⟩,c,F,ρ,rel,?_⟩
      dsimp only at h
      unfold mCons
      cases em:mv ρ with
      | bad=>rw [em] at h;exact h
      | exc x ρ1=>rw [em] at h;exact fun C d F' H' rel' s1 q=>h σ C d F' H' rel' s1 q
      | ok p ρ1 =>
        rw [em] at h
        intro us F1 H1 rel1 s1 s2 r1
        have r1':RepL (kk X cm) F1 [p] us:=r1
        cases r1'.pr with
        | cons rp t =>
          rename_i v vs'
          cases t
          cases e2 : ρ1[i]? with
          | none=>simp only [Res.bind_ok,e2] at h;exact h.elim
          | some sl2 =>
            simp only [Res.bind_ok,e2] at h
            cases sl2 with
            | ow ps =>
              obtain ⟨a2,vs,w1,w2,w3,w4,w5,w6⟩:=rel1.ow e2
              rw [z1] at w1
              cases w1
              dsimp only at h
              split at h
              · rename_i hz
                refine ⟨a,vs,v,rfl,rfl,w2,by rw [← w5.length,sizeLine_is];exact hz,h σ F1 _ (rel1.write w6 ⟨a,vs ++ [v],rfl,upd_same,w3,w4,RepL.append w5 (RepL.cons rp RepL.nil)⟩) s1⟩
              · exact h.elim
            | _=>exact h.elim
    | _=>exact h.elim
def ItOk (K:KK) (Lh F:Hp) (J:It) (items:List PV):Prop:=∀ (c:Ctx) (i:Nat) (F2 H:Hp) (σ : L2.St) (ρ : PSt),Rel K c F2 H σ ρ → Same F F2→Same Lh H →
  (∀ p,items[i]? = some p→J.go i H∧∀ x H',J.yld i H x H'→∃ F3,Rel K c F3 H' σ ρ ∧ Same F2 F3∧Same H H'∧Rep K F3 p x)∧(i=items.length→J.stop i H)
def rIt (K:KK):RR (List PV) It:=fun c _ _ F _ items J=>ItOk K c.L F J items
abbrev tI (K:KK) (E:L2.St→XK) (m:M (List PV)):TI:=tG K E (rIt K) m
def forL (g:Tg) (mb:M Fl):List PV→M Fl
  | [],ρ => .ok .nx ρ
  | p::ps,ρ => match g p ρ with
    | none => .bad
    | some ρ1=>(mb ρ1).bind fun f ρ2=>match f with
      | .nx=>forL g mb ps ρ2
      | .ct=>forL g mb ps ρ2
      | .bk => .ok .nx ρ2
      | .rt r => .ok (.rt r) ρ2
def mFor (mi:M (List PV)) (g:Tg) (mb:M Fl):M Fl:=fun ρ => (mi ρ).bind fun items ρ1=>forL g mb items ρ1
theorem s_for {iter tg:Expr} {body:List Stmt} {mi:M (List PV)} {g:Tg} {mb:M Fl} (hp:PassesOwn (model X.prog X.w) X.A X.env X.xe) (hc:X.calm=true) (hi:PI X tg iter (tI (kk X cm) E mi)) (hg:PG X tg (tT (kk X cm) g)) (hb:PSs X body (tS (kk X cm) E mb))
    (hs:∀ x,foldedSetIterable iter X.env x=pure x:=by intro _;rfl):PS X (.For tg iter body [] pos) (tS (kk X cm) E (mFor mi g mb)):=PS.wk (ps_for hp hc hi hg hb hs) fun D σ H ⟨c,F,ρ,rel,h⟩=>⟨c,F,ρ,rel,EndS.bind h fun items ρ1 J F1 H1 rel1 s1 ito h1=>by
  refine ⟨fun i m σ' H' => ∃ F2 ρ2,i≤items.length∧m=items.length-i∧Rel (kk X cm) c F2 H' σ' ρ2∧Same F1 F2∧EndS (kk X cm) E c F2 D (forL g mb (items.drop i) ρ2),⟨_,F1,ρ1,Nat.zero_le _,rfl,rel1,Same.refl _,h1⟩,?_⟩
  rintro i m σ2 H2 ⟨F2,ρ2,hle,rfl,rel2,s2,h2⟩
  obtain ⟨go,stop⟩:=ito c i F2 H2 σ2 ρ2 rel2 s2 fun b u e=>(rel2.lent b u e).1
  by_cases hlt:i<items.length
  · obtain ⟨g1,g2⟩:=go items[i] (List.getElem?_eq_getElem hlt)
    rw [List.drop_eq_getElem_cons hlt] at h2
    unfold forL at h2
    refine .inr ⟨g1,_,fun σ' H' z=>z,fun x H3 hy => ?_⟩
    obtain ⟨F3,rel3,s3,_,rp⟩:=g2 x H3 hy
    refine ⟨c,F3,ρ2,items[i],rel3,rp,?_⟩
    cases eg:g items[i] ρ2 with
    | none=>rw [eg] at h2;exact h2.elim
    | some ρ3 =>
      rw [eg] at h2
      dsimp only at h2
      intro σ4 rel4
      refine ⟨c,F3,ρ3,rel4,?_⟩
      have nxt:∀ {ρ4:PSt},EndS (kk X cm) E c F2 D (forL g mb (items.drop (i+1)) ρ4)→∀ σ' F' H',Rel (kk X cm) c F' H' σ' ρ4→Same F3 F'→∃ m',m'<items.length-i∧∃ F2 ρ2,i+1≤items.length∧m'=items.length-(i+1)∧Rel (kk X cm) c F2 H' σ' ρ2∧Same F1 F2∧EndS (kk X cm) E c F2 D (forL g mb (items.drop (i+1)) ρ2) :=
        fun {ρ4} h3 σ' F' H' rel' s'=>⟨items.length-(i+1),by omega,F',ρ4,hlt,rfl,rel',(s2.trans s3).trans s',EndS.mono h3 (s3.trans s')⟩
      have h2':=EndS.mono h2 s3
      cases e2:mb ρ3 with
      | bad=>rw [e2] at h2;exact h2
      | exc x ρ4=>rw [e2] at h2';exact h2'
      | ok f ρ4 =>
        rw [e2] at h2 h2'
        cases f with
        | nx=>exact nxt h2
        | ct=>exact nxt h2
        | bk=>exact h2'
        | rt r=>exact h2'
  · have e:i=items.length:=by omega
    refine .inl ⟨stop e,?_⟩
    rw [List.drop_eq_nil_of_le (by omega)] at h2
    unfold forL at h2
    exact h2 σ2 F2 H2 rel2 (Same.refl _)⟩
end
end P
namespace P
open PySem PySem.Spec PyProof.Rows L2 M2 M3
inductive FR where
  | ret (r:RV) | exc (x:PX) | bad
abbrev MF:=List Slot→FR
def FR.of:Res Fl→FR
  | .ok (.rt r) _ => .ret r
  | .ok .nx _ => .ret (.sh .non)
  | .exc x _ => .exc x
  | _ => .bad
def mDef (n k:Nat) (mb:M Fl):MF:=fun as=>if as.length=n then FR.of (mb (startP k as)) else .bad
def rF (K:KK) (H F' H':Hp):RV→V→Prop
  | .sh p,v=>Rep K F' p v
  | .ow ps,v => ∃ a vs,v = .ref a∧H' a=some (.lst vs)∧F' a=none∧H a=none∧RepL K F' ps vs
def EndF (K:KK) (E:XK) (F H:Hp) (Q:VK):FR→Prop
  | .ret r => ∀ v F' H',Gr F H F' H'→rF K H F' H' r v→Q v H'
  | .exc x => ∀ C d F' H',Gr F H F' H'→RepX K F' x C d→E C d H'
  | .bad=>False
def spP (K:KK) (n:Nat) (mf:MF):Sp:=fun vs H Q E => ∃ F as,as.length=n∧Same F H∧Paired (argOk K F H) as vs∧EndF K E F H Q (mf as)
def PassesS (CX:CXT) (X:Cx) (E:L2.St→XK):Prop:=∀ (pins:List (Addr×Obj)) (σ : L2.St) (H:Hp) (s:Shared) (e:Value) (s':Shared),Inv X pins σ H s→CX X.stack H s (E σ) e s'→X.xe e s'
section
variable {P:Program} {w:World} {K:PySem.W.Frag} {cm:String→Addr} {mg:Str→Option Value} {base:Heap} {CX:CXT}
theorem fnP {x qual:Str} {st:Stmt} {f:Addr} {fd:FuncData} {N ps:List Str} {k:Nat} {mb:M Fl} (F:Fun K x qual st f fd) (S:FnScope N ps (defScope st))
    (hbody:∀ (cdv:Value) (A:Around) (outer:List Env) (s:Shared) (H:Hp) (E:XK),Room k (A.deeper (envOfC qual (defScope st) s.heap.objs.size f cdv)) →
      PSs (cxOf CX P w K mg base N qual (defScope st) f cdv A outer s H E) (defBody st) (tS ⟨K,cm⟩ (fun _=>E) mb)):FnOk P w K mg base CX (k+1) f fd ps (spP ⟨K,cm⟩ ps.length (mDef ps.length N.length mb)):=by
  obtain ⟨oc,od,kV,doc,pm,an,cdv,ct,osl,rfl,lk,hcd⟩:=F.ex
  refine fn_of lk hcd S (fun vs H Q E ⟨F,ps',h1,_,h2,_⟩=>by rw [← Paired.length h2];exact h1) fun A outer s H vs Q E hr hsp => ?_
  obtain ⟨F,ps',h1,h2,h3,h4⟩:=hsp
  refine ⟨_,hbody cdv A outer s H E hr,ctx0 F H,F,startP N.length ps',Rel.start h2 h3,?_⟩
  unfold mDef at h4
  rw [if_pos h1] at h4
  cases e:mb (startP N.length ps') with
  | bad=>rw [e] at h4;exact h4
  | exc x ρ'=>rw [e] at h4;exact fun σ' C d F' H' rel s1 q=>h4 C d F' H' rel.gr q
  | ok fl ρ' =>
    rw [e] at h4
    cases fl with
    | nx=>exact fun σ' F' H' rel s1=>h4 .non F' H' rel.gr (Rep.non (K:=⟨K,cm⟩) (F:=F'))
    | bk=>exact h4.elim
    | ct=>exact h4.elim
    | rt r =>
      intro v σ' F' H' rel s1 q
      refine h4 v F' H' rel.gr ?_
      cases r with
      | sh p=>exact q
      | ow qs =>
        obtain ⟨a,vs',e1,e2,e3,e4,_,e5⟩:=q
        exact ⟨a,vs',e1,e2,e3,e4,e5⟩
theorem fnQ {x qual:Str} {st:Stmt} {f:Addr} {fd:FuncData} {N ps:List Str} {k n j:Nat} {mb:M Fl} {mf:MF} (F:Fun K x qual st f fd) (S:FnScope N ps (defScope st)) (hn:ps.length=n) (hj:N.length=j) (hf:mf=mDef n j mb)
    (hbody:∀ (cdv:Value) (A:Around) (outer:List Env) (s:Shared) (H:Hp) (E:XK),Room k (A.deeper (envOfC qual (defScope st) s.heap.objs.size f cdv)) →
      PSs (cxOf CX P w K mg base N qual (defScope st) f cdv A outer s H E) (defBody st) (tS ⟨K,cm⟩ (fun _=>E) mb)):FnOk P w K mg base CX (k+1) f fd ps (spP ⟨K,cm⟩ n mf):=by
  subst hn hj hf
  exact fnP F S hbody
end
def mCall (mf:MF) (mr:M (List Slot)):M RV:=fun ρ => (mr ρ).bind fun ps ρ1=>match mf ps with
  | .ret r => .ok r ρ1
  | .exc x => .exc x ρ1
  | .bad => .bad
section
variable {X:Cx} {cm:String→Addr} {E:L2.St→XK} {CX:CXT} {k n:Nat} {f:Addr} {fd:FuncData} {ps:List Str} {mf:MF} {mr:M (List Slot)} {x:Str} {p pos:Pos} {e:Expr} {es:List Expr}
theorem run_fnS {sp:Sp} {pins:List (Addr×Obj)} {σ : L2.St} {H:Hp} {s:Shared} {Q:VK} {us:List Value} {vs:List V} (F:FnOk X.prog X.w X.K X.mg X.base CX k f fd ps sp) (hr:Room k X.A) (hb:Binds X.K fd ps []) (hx:PassesS CX X E)
    (I:Inv X pins σ H s) (r:Vals vs us) (h:sp vs H Q (E σ)):wpAny (model X.prog X.w) X.A (call (.ref f) us) (EP X pins σ Q) X.xe s:=by
  have hl:(us ++ []).length=ps.length:=by rw [List.append_nil,← r.length];exact F.len _ _ _ _ h
  have hbd:=hb s us I.kIn hl
  rw [List.append_nil] at hbd
  refine wpAny_call (codeAny_mono (F.run X.A X.stack s H ⟨us,[]⟩ us vs Q (E σ) hr I.env0 hbd r h) fun r s' hq => ?_)
  cases r with
  | error e=>exact hx pins σ H s e s' I hq
  | ok fl =>
    cases fl with
    | ret u=>exact I.after hq
    | next=>exact False.elim hq
    | brk=>exact False.elim hq
    | cont=>exact False.elim hq
theorem call_end {c:Ctx} {F1 H1:Hp} {σ : L2.St} {ρ1:PSt} {Q:VK} {ps:List Slot} {vs:List V} (hlen:(∃ r,mf ps=r∧∀ z,r=z→z ≠ .bad)→ps.length=n) (rel1:Rel (kk X cm) c F1 H1 σ ρ1) (r1:Paired (argOk (kk X cm) F1 H1) ps vs)
    (h:EndG (kk X cm) E (rO (kk X cm)) c F1 H1 σ Q (match mf ps with | .ret r => .ok r ρ1 | .exc x => .exc x ρ1 | .bad => .bad)):spP (kk X cm) n mf vs H1 Q (E σ):=by
  refine ⟨F1,ps,?_,rel1.sub,r1,?_⟩
  · refine hlen ⟨_,rfl,fun z hz hb => ?_⟩
    rw [hz,hb] at h
    exact h
  · cases em:mf ps with
    | bad=>rw [em] at h;exact h
    | exc x=>rw [em] at h;exact fun C d F' H' g rx=>h C d F' H' (rel1.call g) g.f rx
    | ret r =>
      rw [em] at h
      intro v F' H' g rf
      refine h v F' H' (rel1.call g) g.f g.h ?_
      cases r with
      | sh p=>exact rf
      | ow qs =>
        obtain ⟨a,vs',e1,e2,e3,e4,e5⟩:=rf
        exact ⟨a,vs',e1,e2,e3,rel1.base.free e4,rel1.fresh e4,e5⟩
theorem mDef_len {n k:Nat} {mb:M Fl} {ps:List Slot} (h:∃ r,mDef n k mb ps=r∧∀ z,r=z→z ≠ .bad):ps.length=n:=by
  obtain ⟨r,h1,h2⟩:=h
  unfold mDef at h1
  by_cases hl:ps.length=n
  · exact hl
  · rw [if_neg hl] at h1
    exact absurd h1.symm (fun z=>h2 .bad (by rw [← h1]) rfl)
theorem o_call (F:FnOk X.prog X.w X.K X.mg X.base CX k f fd ps (spP (kk X cm) n mf)) (hlen:∀ {ps:List Slot},(∃ r,mf ps=r∧∀ z,r=z→z ≠ .bad)→ps.length=n) (hr:Room k X.A) (hg:Gl X x) (hm:X.mg x=some (.ref f)) (hk:PySem.W.keepIn X.K (.ref f)=true) (hb:Binds X.K fd ps []) (hx:PassesS CX X E)
    (ha:PA X (e::es) (tA (kk X cm) E mr)) (hdb:(x == ("__debug__" : Str))=false:=by decide) (he:starEach (e::es) X.env=(false,eval e X.env)::starEach es X.env:=by exact st_ns rfl) (hpl:(backTo pos (starEach es X.env)).any (·.1)=false:=by rfl) :
    PE X (.Call (.Name x p) (e::es) [] pos) (tO (kk X cm) E (mCall mf mr)):=by
  intro pins s σ H Q I h
  obtain ⟨c,F,ρ,rel,h⟩:=h
  refine wpAny_Call_Name_kw (ld_glob I hg hm ?_ hdb)
  refine PySem.W.callWith_K (h₀ := X.base) I.ok.mod.kin hk (thn (ha pos pins s σ H (fun vs H1=>spP (kk X cm) n mf vs H1 Q (E σ)) I ⟨c,F,ρ,rel,h.bind fun ps' ρ1 vs F1 H1 rel1 _ _ r1 h1=>call_end hlen rel1 r1 h1⟩) fun us s1 ⟨vs,H1,I1,r,q⟩=>⟨I1.kIn,?_⟩) he hpl
  exact run_fnS (by assumption) hr hb hx I1 r q
end
def mItems (m:M PV):M (List PV):=fun ρ => (m ρ).bind fun p ρ1=>match p with
  | .lst ps => .ok ps ρ1
  | .tup ps => .ok ps ρ1
  | .str z => .ok (z.cps.toList.map fun c => .str ⟨#[c]⟩) ρ1
  | _ => .bad
section
variable {X:Cx} {cm:String→Addr} {E:L2.St→XK} {tg:Expr}
def iSeq (K:PySem.W.Frag) (tl:TE):TI:=fun σ H R=>tl σ H fun x H1=>(∃ a,x = .ref a∧(∃ xs,SqL K H1 a xs)∧R (Itl K a) H1)∨(∃ a,x = .ref a∧(∃ xs,SqT K H1 a xs)∧R (Itt K a) H1)∨∃ z,x = .str z∧R (Its z) H1
theorem pi_seq {l:Expr} {tl:TE} (hl:PE X l tl):PI X tg l (iSeq X.K tl):=by
  intro pins s σ H R I h
  refine thn (hl pins s σ H _ I h) fun v s1 ⟨x,H1,I1,r1,q1⟩ => ?_
  rcases q1 with ⟨a,e,⟨xs,hq⟩,q⟩ | ⟨a,e,⟨xs,hq⟩,q⟩ | ⟨z,e,q⟩
  · subst e
    cases r1
    obtain ⟨its,rv,p,hz⟩:=I1.list hq
    refine wpAny_pyIter_list p.isList ?_
    refine ⟨s1.heap.objs.size,[s1.heap.objs.size],_,_,H1,rfl,I1.kept (t':=s1.toks) fun b o e=>Heap.get?_push_of_some _ e,turn_list a _,⟨_,Heap.get?_push_size _ rfl,rfl,rfl⟩,fun b hb => ?_,q⟩
    have e:b=s1.heap.objs.size:=by simpa using hb
    subst e
    exact I1.fpOk (Nat.le_refl _) (I1.hok.fresh (Nat.le_refl _))
  · subst e
    cases r1
    obtain ⟨its,rv,p,hz⟩:=I1.tuple hq
    refine wpAny_pyIter_tuple (show s1.heap.IsTuple a its.toArray from p) ?_
    refine ⟨s1.heap.objs.size,[s1.heap.objs.size],_,_,H1,rfl,I1.kept (t':=s1.toks) fun b o e=>Heap.get?_push_of_some _ e,turn_tuple a _,⟨_,Heap.get?_push_size _ rfl,rfl,rfl⟩,fun b hb => ?_,q⟩
    have e:b=s1.heap.objs.size:=by simpa using hb
    subst e
    exact I1.fpOk (Nat.le_refl _) (I1.hok.fresh (Nat.le_refl _))
  · subst e
    obtain ⟨t,rfl⟩:=r1
    have fin:∀ ty,(∀ A:Around,A.handled=none→Walks X.prog X.w A s1.heap.objs.size [s1.heap.objs.size] [s1.heap.objs.size] z.cps.size (SignAt z) (fun i h=>h.IsStrIter s1.heap.objs.size ty z t i)) →
        (∀ (A:Around) (i:Nat) (s:Shared) (Q:Value→Shared→Prop) (E:Value→Shared→Prop),s.heap.IsStrIter s1.heap.objs.size ty z t i→Q (.ref s1.heap.objs.size) s→wpAny (model X.prog X.w) A (pyIter (.ref s1.heap.objs.size)) Q E s) →
        (["enumerate", "zip", "dict_itemiterator", "dict_reverseitemiterator", "odict_iterator", "itertools.zip_longest", "itertools.pairwise"].contains ty=false) →
        PIE X pins σ tg R (.ref s1.heap.objs.size) { s1 with heap:=s1.heap.push { cls:=.type ty,data:=.fields #[.str z t,.int 0 0] } }:=fun ty hW hS hty=>by
      refine ⟨s1.heap.objs.size,[s1.heap.objs.size],_,_,H1,rfl,I1.kept (t':=s1.toks) fun b o e=>Heap.get?_push_of_some _ e,turn_strW _ z t ty hW hS hty,⟨_,Heap.get?_push_size _ rfl,rfl,rfl⟩,fun b hb => ?_,q⟩
      have e:b=s1.heap.objs.size:=by simpa using hb
      subst e
      exact I1.fpOk (Nat.le_refl _) (I1.hok.fresh (Nat.le_refl _))
    cases ha:z.cps.all (· < 128) with
    | true=>exact wpAny_pyIter_ascii ha (fin _ (fun A hA=>Walks.strAscii hA _ z t) (fun A i s Q E st q=>wpAny_pyIter_striter_ascii st q) (by decide))
    | false=>exact wpAny_pyIter_wide ha (fin _ (fun A hA=>Walks.strWide hA _ z t) (fun A i s Q E st q=>wpAny_pyIter_striter_wide st q) (by decide))
theorem i_seq {l:Expr} {m:M PV} (hl:PE X l (tV (kk X cm) E m)):PI X tg l (tI (kk X cm) E (mItems m)):=fun pins s σ H R I h=>pi_seq hl pins s σ H R I (by
  obtain ⟨c,F,ρ,rel,h⟩:=h
  refine ⟨c,F,ρ,rel,h.bind fun p ρ1 v F1 H1 rel1 s1 s2 q h1 => ?_⟩
  cases p with
  | lst ps =>
    have q':Rep (kk X cm) F1 (.lst ps) v:=q
    unfold Rep at q'
    obtain ⟨a,vs,rfl,e1,e2⟩:=q'
    refine .inl ⟨a,rfl,⟨vs,rel1.sub.seq e1⟩,h1 _ F1 H1 rel1 (Same.refl _) (Same.refl _) ?_⟩
    intro c' i F2 H2 σ2 ρ2 rel2 sF _
    have hq:SqL X.K H2 a vs:=(sF.trans rel2.sub).seq e1
    refine ⟨fun p hp => ?_,fun hi=>⟨vs,hq,by rw [hi,e2.length];exact Nat.le_refl _⟩⟩
    obtain ⟨u,hu,ru⟩:=pr_get e2.pr hp
    refine ⟨⟨vs,u,hq,hu⟩,fun x H' ⟨hH,hx⟩ => ?_⟩
    subst hH
    have:vs[i]? = some x:=hx vs hq
    rw [hu] at this
    cases this
    exact ⟨F2,rel2,Same.refl _,Same.refl _,Rep.same sF p u ru⟩
  | tup ps =>
    have q':Rep (kk X cm) F1 (.tup ps) v:=q
    unfold Rep at q'
    obtain ⟨a,vs,rfl,e1,e2⟩:=q'
    refine .inr (.inl ⟨a,rfl,⟨vs,Same.tup rel1.sub e1⟩,h1 _ F1 H1 rel1 (Same.refl _) (Same.refl _) ?_⟩)
    intro c' i F2 H2 σ2 ρ2 rel2 sF _
    have hq:SqT X.K H2 a vs:=Same.tup (sF.trans rel2.sub) e1
    refine ⟨fun p hp => ?_,fun hi=>⟨vs,hq,by rw [hi,e2.length];exact Nat.le_refl _⟩⟩
    obtain ⟨u,hu,ru⟩:=pr_get e2.pr hp
    refine ⟨⟨vs,u,hq,hu⟩,fun x H' ⟨hH,hx⟩ => ?_⟩
    subst hH
    have:vs[i]? = some x:=hx vs hq
    rw [hu] at this
    cases this
    exact ⟨F2,rel2,Same.refl _,Same.refl _,Rep.same sF p u ru⟩
  | str z =>
    have q':v = .str z:=by have q':Rep (kk X cm) F1 (.str z) v:=q;unfold Rep at q';exact q'
    subst q'
    refine .inr (.inr ⟨z,rfl,h1 _ F1 H1 rel1 (Same.refl _) (Same.refl _) ?_⟩)
    intro c' i F2 H2 σ2 ρ2 rel2 sF _
    refine ⟨fun p hp => ?_,fun hi=>by rw [hi,List.length_map];show _=_;simp⟩
    rw [List.getElem?_map] at hp
    cases ez:z.cps.toList[i]? with
    | none=>rw [ez] at hp;cases hp
    | some cc =>
      rw [ez] at hp
      cases hp
      refine ⟨by have:=(List.getElem?_eq_some_iff.mp ez).1;show i<z.cps.size;simpa using this,fun x H' ⟨hH,c2,hc,hx⟩ => ?_⟩
      subst hH hx
      rw [ez] at hc
      cases hc
      exact ⟨F2,rel2,Same.refl _,Same.refl _,Rep.str⟩
  | _=>exact h1.elim)
def mIterN (i:Nat):M (List PV):=fun ρ => match ρ[i]? with
  | some (.bw ps) => .ok ps ρ
  | some (.sh (.lst ps)) => .ok ps ρ
  | some (.sh (.tup ps)) => .ok ps ρ
  | some (.sh (.str z)) => .ok (z.cps.toList.map fun c => .str ⟨#[c]⟩) ρ
  | some (.ow ps) => .ok ps (ρ.set i (.sh (.lst ps)))
  | _ => .bad
theorem i_name (i:Nat) {x:Str} {px:Pos} (hN:X.N[i]? = some x:=by rfl) (hv:Vis X.env.scope x:=by first | exact Or.inl rfl | exact Or.inr (Or.inl rfl) | exact Or.inr (Or.inr rfl)) (hd:(x == ("__debug__" : Str))=false:=by decide)
    (hcd:(x == ("__classdict__" : Str))=false:=by decide):PI X tg (.Name x px) (tI (kk X cm) E (mIterN i)):=fun pins s σ H R I h=>by
  obtain ⟨c,F,ρ,rel,h⟩:=h
  cases e : ρ[i]? with
  | none=>unfold mIterN at h;rw [e] at h;exact h.elim
  | some sl =>
    have viaV:EndG (kk X cm) E (rIt (kk X cm)) c F H σ R (mItems (mVarV i) ρ)→wpAny (model X.prog X.w) X.A (eval (.Name x px) X.env) (fun v s1=>wpAny (model X.prog X.w) X.A (pyIter v) (PIE X pins σ tg R) X.xe s1) X.xe s:=fun h' =>
      i_seq (v_var i hN hv hd hcd) pins s σ H R I ⟨c,F,ρ,rel,h'⟩
    unfold mIterN at h
    rw [e] at h
    cases sl with
    | no=>exact h.elim
    | rc C ns ps=>exact h.elim
    | ow ps=>exact viaV (by unfold mItems mVarV;rw [e];exact h)
    | sh p =>
      cases p with
      | lst ps=>exact viaV (by unfold mItems mVarV;rw [e];exact h)
      | tup ps=>exact viaV (by unfold mItems mVarV;rw [e];exact h)
      | str z=>exact viaV (by unfold mItems mVarV;rw [e];exact h)
      | _=>exact h.elim
    | bw ps =>
      obtain ⟨a,vs,h1,h2,h3⟩:=rel.slot i _ e
      refine pi_seq (pe_var hN hv hd hcd) pins s σ H R I ⟨.ref a,at_of h1,.inl ⟨a,rfl,⟨vs,SqL.of (rel.lent a _ h2).1⟩,h _ F H rel (Same.refl _) (Same.refl _) ?_⟩⟩
      intro c' j F2 H2 σ2 ρ2 rel2 sF sL
      have hq:SqL X.K H2 a vs:=SqL.of (sL a _ h2)
      refine ⟨fun p hp => ?_,fun hi=>⟨vs,hq,by rw [hi,h3.length];exact Nat.le_refl _⟩⟩
      obtain ⟨u,hu,ru⟩:=pr_get h3.pr hp
      refine ⟨⟨vs,u,hq,hu⟩,fun x H' ⟨hH,hx⟩ => ?_⟩
      subst hH
      have:vs[j]? = some x:=hx vs hq
      rw [hu] at this
      cases this
      exact ⟨F2,rel2,Same.refl _,Same.refl _,Rep.same sF p u ru⟩
def rangeL (lo:Int) (n:Nat) (c:Int):List PV:=(List.range n).map fun (i:Nat) => .int (lo+i*c)
def smallI (i:Int):Bool:=decide (i.natAbs<1152921504606846976)
def rngF1:List PV→Option (List PV)
  | [.int j]=>if smallI j=true then some (rangeL 0 j.toNat 1) else none
  | _=>none
def mRange (f:List PV→Option (List PV)) (mr:M (List PV)):M (List PV):=fun ρ => (mr ρ).bind fun ps ρ1=>Res.ofO (f ps) ρ1
theorem rangeL_get {lo c:Int} {n i:Nat} {p:PV} (h:(rangeL lo n c)[i]? = some p):i<n∧p = .int (lo+i*c):=by
  unfold rangeL at h
  by_cases hn:i<n
  · rw [List.getElem?_map,List.getElem?_range hn] at h
    exact ⟨hn,(Option.some.inj h).symm⟩
  · rw [List.getElem?_eq_none (by simpa using hn)] at h
    cases h
theorem rangeL_len {lo c:Int} {n:Nat}:(rangeL lo n c).length=n:=by simp [rangeL]
theorem it_itr {K:KK} {Lh F:Hp} (lo:Int) (n:Nat):ItOk K Lh F (Itr lo n) (rangeL lo n 1):=fun c i F2 H σ ρ rel sF _ =>
  ⟨fun p hp=>by
    obtain ⟨h1,rfl⟩:=rangeL_get hp
    refine ⟨h1,fun x H' ⟨e1,e2⟩ => ?_⟩
    subst e1 e2
    exact ⟨F2,rel,Same.refl _,Same.refl _,by rw [Int.mul_one];exact Rep.int⟩,fun hi=>by rw [rangeL_len] at hi;subst hi;exact Nat.le_refl _⟩
theorem smallI_is {i:Int} (h:smallI i=true) : -(2 ^ 60)≤i∧i<2 ^ 60:=by
  unfold smallI at h
  rw [decide_eq_true_eq] at h
  omega
variable {a b d:Expr} {p pos:Pos} {mr:M (List PV)}
theorem rl_int {K:KK} {F:Hp} {ps:List PV} {vs:List V} (h:RepL K F ps vs):(∀ i r,ps = .int i::r→∃ r',vs = .int i::r'∧RepL K F r r')∧(ps = []→vs = []):=by
  refine ⟨fun i r e => ?_,fun e => ?_⟩
  · subst e
    unfold RepL at h
    obtain ⟨x,r',h1,h2,h3⟩:=h
    unfold Rep at h2
    exact ⟨r',by rw [h1,h2],h3⟩
  · subst e
    unfold RepL at h
    exact h
theorem i_range1 (hg:Gl X "range") (hm:X.mg "range" = none) (ha:PA X [a] (tL (kk X cm) E mr)) (hs:starEach [a] X.env = [(false,eval a X.env)]:=by exact st_ns rfl):PI X tg (.Call (.Name "range" p) [a] [] pos) (tI (kk X cm) E (mRange rngF1 mr)) :=
  fun pins s σ H R I h => pi_range1 hg hm ha hs pins s σ H R I (by
    obtain ⟨c,F,ρ,rel,h⟩:=h
    refine ⟨c,F,ρ,rel,h.bind fun ps ρ1 vs F1 H1 rel1 s1 s2 q h1 => ?_⟩
    have q':RepL (kk X cm) F1 ps vs:=q
    unfold rngF1 at h1
    split at h1
    · rename_i j
      split at h1
      · rename_i hj
        obtain ⟨r',e1,e2⟩:=(rl_int q').1 _ _ rfl
        cases (rl_int e2).2 rfl
        obtain ⟨k1,k2⟩:=smallI_is hj
        exact ⟨j,e1,by omega,by omega,h1 _ F1 H1 rel1 (Same.refl _) (Same.refl _) (it_itr 0 j.toNat)⟩
      · exact h1.elim
    · exact h1.elim)
end
def capS:Slot→Slot
  | .sh p => .sh p
  | .ow ps => .bw ps
  | .bw ps => .bw ps
  | _ => .no
def capP (js:List Nat) (nl:Nat) (ρ : PSt):PSt:=js.map (fun (j:Nat)=>capS ((ρ[j]?).getD .no))++List.replicate nl .no
def compL (g:Tg) (mt:M Bool) (me:M PV):List PV→PSt→List PV→Option (List PV)
  | [],_,acc=>some acc
  | p::ps,ρ,acc=>match g p ρ with
    | none=>none
    | some ρ1=>match mt ρ1 with
      | .ok true ρ2=>match me ρ2 with
        | .ok q ρ3=>if acc.length<16777216 then compL g mt me ps ρ3 (acc ++ [q]) else none
        | _=>none
      | .ok false ρ2=>compL g mt me ps ρ2 acc
      | _=>none
def mComp (js:List Nat) (nl:Nat) (mi:M (List PV)) (g:Tg) (mt:M Bool) (me:M PV):M RV:=fun ρ => (mi ρ).bind fun items ρ1=>match compL g mt me items (capP js nl ρ1) [] with
  | some ps => .ok (.ow ps) ρ1
  | none => .bad
abbrev EF:L2.St→XK:=fun _ _ _ _=>False
def mYes:M Bool:=fun ρ => .ok true ρ
section
variable {K:KK} {c:Ctx} {F H:Hp} {σ : L2.St} {ρ : PSt}
def ctxC (F H H1:Hp):Ctx:=⟨H1,F,(ctx0 F H).L,fun _ _ _=>True⟩
theorem Rel.cap (js:List Nat) (nl:Nat) (rel:Rel K c F H σ ρ) {D:Addr} {o:HO} (hD:H D=none):Rel K (ctxC F H (upd H D o)) F (upd H D o) (capSt js nl σ) (capP js nl ρ) where
  sub:=rel.sub.trans (Same.upd hD)
  base:=Same.refl _
  f0:=Same.refl _
  frz:=fun _ _ z=>z
  lent:=fun a u e=>⟨Same.upd hD a u (ctx0_L e).1,(ctx0_L e).2⟩
  lb:=fun a e=>by
    cases q:(ctxC F H (upd H D o)).L a with
    | none=>rfl
    | some u =>
      have e':upd H D o a=none:=e
      rw [Same.upd hD a u (ctx0_L q).1] at e'
      cases e'
  len:=by simp [capSt,capP]
  slot := fun i s e => by
    unfold capP at e
    by_cases hi:i<js.length
    · rw [List.getElem?_append_left (by simpa using hi),List.getElem?_map] at e
      cases ej:js[i]? with
      | none=>rw [ej] at e;cases e
      | some j =>
        rw [ej] at e
        have e':capS ((ρ[j]?).getD .no)=s:=Option.some.inj e
        subst e'
        have hx:((capSt js nl σ)[i]?).getD none=(σ[j]?).getD none:=by
          unfold capSt
          rw [List.getElem?_append_left (by simpa using hi),List.getElem?_map,ej]
          rfl
        rw [hx]
        cases er : ρ[j]? with
        | none=>trivial
        | some sl =>
          have q:=rel.slot j sl er
          cases sl with
          | no=>trivial
          | sh p=>exact q
          | ow ps =>
            obtain ⟨a,vs,h1,h2,h3,h4,h5⟩:=q
            refine ⟨a,vs,h1,?_,h5⟩
            show (match F a with | none=>H a | some _=>none)=_
            rw [h3]
            exact h2
          | bw ps =>
            obtain ⟨a,vs,h1,h2,h3⟩:=q
            obtain ⟨l1,l2⟩:=rel.lent a _ h2
            refine ⟨a,vs,h1,?_,h3⟩
            show (match F a with | none=>H a | some _=>none)=_
            rw [l2]
            exact l1
          | rc C ns ps=>trivial
    · rw [List.getElem?_append_right (by simpa using hi),List.getElem?_replicate] at e
      split at e
      · cases e;trivial
      · cases e
  sep:=fun i j a h1 _=>by
    exfalso
    obtain ⟨⟨s,h1,h2⟩,_⟩:=h1
    unfold capP at h1
    by_cases hi:i<js.length
    · rw [List.getElem?_append_left (by simpa using hi),List.getElem?_map] at h1
      cases ej:js[i]? with
      | none=>rw [ej] at h1;cases h1
      | some j =>
        rw [ej] at h1
        have e':capS ((ρ[j]?).getD .no)=s:=Option.some.inj h1
        subst e'
        cases q:(ρ[j]?).getD .no<;>rw [q] at h2<;>cases h2
    · rw [List.getElem?_append_right (by simpa using hi),List.getElem?_replicate] at h1
      split at h1
      · cases h1;cases h2
      · cases h1
theorem Rel.rebase {H1 F1:Hp} {D:Addr} {ys zs:List V} (hD:H1 D=none) (hF:F1 D=none) (rel:Rel K (ctxC F1 H1 (upd H1 D (.lst ys))) F H σ ρ):Rel K (ctxC F1 H1 (upd H1 D (.lst zs))) F (upd H D (.lst zs)) σ ρ := by
  have fD:F D=none:=rel.frz D (by show upd H1 D _ D≠none;rw [upd_same];intro z;cases z) hF
  have lD:∀ b u,(ctxC F1 H1 (upd H1 D (.lst ys))).L b=some u→b≠D:=fun b u e z=>by
    have q:=(ctx0_L (F:=F1) (H:=H1) (a:=b) (u:=u) e).1
    rw [z,hD] at q
    cases q
  have ne:∀ b,(ctxC F1 H1 (upd H1 D (.lst ys))).B b=none→b≠D:=fun b z q=>by
    subst q
    have z':upd H1 b (.lst ys) b=none:=z
    rw [upd_same] at z';cases z'
  have back:∀ b,b≠D→(ctxC F1 H1 (upd H1 D (.lst ys))).B b=none→(ctxC F1 H1 (upd H1 D (.lst zs))).B b=none:=fun b hb z=>by
    have z':upd H1 D (.lst ys) b=none:=z
    show upd H1 D (.lst zs) b=none
    rw [upd_ne hb] at z' ⊢;exact z'
  refine ⟨fun b u e => ?_,fun b u e => ?_,rel.f0,fun b h1 h2 => ?_,fun b u e => ?_,fun b e => ?_,rel.len,fun i s e => ?_,rel.sep⟩
  · have hb:b≠D:=fun z=>by rw [z,fD] at e;cases e
    rw [upd_ne hb];exact rel.sub b u e
  · by_cases hb:b=D
    · subst hb
      have e':upd H1 b (.lst zs) b=some u:=e
      rw [upd_same] at e' ⊢;exact e'
    · have e':upd H1 D (.lst zs) b=some u:=e
      rw [upd_ne hb] at e' ⊢
      exact rel.base b u (by show upd H1 D _ b=some u;rw [upd_ne hb];exact e')
  · refine rel.frz b (fun z=>h1 ?_) h2
    exact back b (ne b z) z
  · rw [upd_ne (lD b u e)]
    exact rel.lent b u e
  · refine rel.lb b ?_
    have z':upd H1 D (.lst zs) b=none:=e
    have hb:b≠D:=fun q=>by rw [q,upd_same] at z';cases z'
    show upd H1 D (.lst ys) b=none
    rw [upd_ne hb] at z' ⊢;exact z'
  · have q:=rel.slot i s e
    cases s with
    | no=>trivial
    | sh p=>exact q
    | bw ps=>exact q
    | ow ps =>
      obtain ⟨a,vs,q1,q2,q3,q4,q5⟩:=q
      have hb:=ne a q4
      exact ⟨a,vs,q1,by rw [upd_ne hb];exact q2,q3,back a hb q4,q5⟩
    | rc C ns ps =>
      obtain ⟨a,dx,fs,q1,q2,q3,q4,q5⟩:=q
      have hb:=ne a q4
      exact ⟨a,dx,fs,q1,by rw [upd_ne hb];exact q2,q3,back a hb q4,q5⟩
end
section
variable {X:Cx} {cm:String→Addr} {E:L2.St→XK} {elt tg iter:Expr} {ifs:List Expr} {scope:Scope} {pos:Pos} {mi:M (List PV)} {g:Tg} {mt:M Bool} {me:M PV}
theorem ts_nil:PTs X [] (tB (kk X cm) E mYes):=fun pins s σ H Q I h=>pts_nil pins s σ H Q I (by
  obtain ⟨c,F,ρ,rel,h⟩:=h
  exact h true F H rel (Same.refl _) (Same.refl _) rfl)
theorem ts_one {a:Expr} (h:PT X a (tB (kk X cm) E mt)):PTs X [a] (tB (kk X cm) E mt):=pts_one h
theorem comp_end {js:List Nat} {nl:Nat} {σ : L2.St} {H:Hp} {Q:VK} (h:tO (kk X cm) E (mComp js nl mi g mt me) σ H Q):tComp js nl (tI (kk X cm) E mi) (tT (kk X cm) g) (tB (kk X cm) EF mt) (tV (kk X cm) EF me) σ H Q:=by
  obtain ⟨c,F,ρ,rel,h⟩:=h
  refine ⟨c,F,ρ,rel,h.bind fun items ρ1 J F1 H1 rel1 s1 s2 ito h1 => ?_⟩
  intro D hD
  have hF:F1 D=none:=rel1.sub.free hD
  cases ec:compL g mt me items (capP js nl ρ1) [] with
  | none=>rw [ec] at h1;exact h1.elim
  | some res =>
    rw [ec] at h1
    refine ⟨fun i m σ' H' => ∃ F' ρ' ys acc,i≤items.length∧m=items.length-i∧Rel (kk X cm) (ctxC F1 H1 (upd H1 D (.lst ys))) F' H' σ' ρ'∧RepL (kk X cm) F' acc ys∧compL g mt me (items.drop i) ρ' acc=some res,
      ⟨_,F1,_,[],[],Nat.zero_le _,rfl,?_,RepL.nil,ec⟩,?_⟩
    · exact rel1.cap js nl hD
    · rintro i m σ2 H2 ⟨F2,ρ2,ys,acc,hle,rfl,rel2,ra,h2⟩
      have s12:Same F1 F2:=rel2.f0
      have lentC:∀ {b:Addr} {u:HO},c.L b=some u→(ctxC F1 H1 (upd H1 D (.lst ys))).L b=some u:=fun {b u} e=>by
        obtain ⟨l1,l2⟩:=rel1.lent b u e
        show (match F1 b with | none=>H1 b | some _=>none)=some u
        rw [l2]
        exact l1
      obtain ⟨go,stop⟩:=ito _ i F2 H2 σ2 ρ2 rel2 s12 fun b u e=>(rel2.lent b u (lentC e)).1
      have hH2:H2 D=some (.lst ys):=rel2.base D _ (show upd H1 D _ D=_ from upd_same)
      have fD:F2 D=none:=rel2.frz D (by show upd H1 D _ D≠none;rw [upd_same];intro z;cases z) hF
      by_cases hlt:i<items.length
      · obtain ⟨g1,g2⟩:=go items[i] (List.getElem?_eq_getElem hlt)
        rw [List.drop_eq_getElem_cons hlt] at h2
        unfold compL at h2
        refine .inr ⟨g1,_,fun σ' H' z=>z,fun x H3 hy => ?_⟩
        obtain ⟨F3,rel3,s3,sH3,rp⟩:=g2 x H3 hy
        refine ⟨_,F3,ρ2,items[i],rel3,rp,?_⟩
        cases eg:g items[i] ρ2 with
        | none=>rw [eg] at h2;cases h2
        | some ρ3 =>
          rw [eg] at h2
          dsimp only at h2
          intro σ4 rel4
          refine ⟨_,F3,ρ3,rel4,?_⟩
          cases em:mt ρ3 with
          | bad=>rw [em] at h2;cases h2
          | exc x ρ4=>rw [em] at h2;cases h2
          | ok b ρ4 =>
            rw [em] at h2
            intro b' F5 H5 rel5 s5 s5' eb
            have eb':b=b':=eb
            subst eb'
            cases b with
            | false =>
              rw [if_neg Bool.false_ne_true]
              dsimp only at h2
              exact ⟨items.length-(i+1),by omega,F5,ρ4,ys,acc,hlt,rfl,rel5,RepL.same (s3.trans s5) acc ys ra,h2⟩
            | true =>
              rw [if_pos rfl]
              dsimp only at h2
              refine ⟨_,F5,ρ4,rel5,?_⟩
              cases ee:me ρ4 with
              | bad=>rw [ee] at h2;cases h2
              | exc x ρ5=>rw [ee] at h2;cases h2
              | ok q ρ5 =>
                rw [ee] at h2
                dsimp only at h2
                intro y F6 H6 rel6 s6 s6' rq
                split at h2
                · rename_i hz
                  have ra6:=RepL.same ((s3.trans s5).trans s6) acc ys ra
                  refine ⟨ys,rel6.base D _ (show upd H1 D _ D=_ from upd_same),by rw [← ra6.length,sizeLine_is];exact hz,?_⟩
                  exact ⟨items.length-(i+1),by omega,F6,ρ5,ys ++ [y],acc ++ [q],hlt,rfl,rel6.rebase hD hF,RepL.append ra6 (RepL.cons rq RepL.nil),h2⟩
                · cases h2
      · have e:i=items.length:=by omega
        refine .inl ⟨stop e,?_⟩
        rw [List.drop_eq_nil_of_le (by omega)] at h2
        unfold compL at h2
        cases h2
        have gr:Gr F1 H1 F2 H2:=⟨fun b u e=>rel2.base b u (by show upd H1 D _ b=_;rw [upd_ne (ne_of_none e hD)];exact e),s12,rel2.sub,fun b hb hf=>rel2.frz b (by
          show upd H1 D _ b≠none
          by_cases hbD:b=D
          · rw [hbD,upd_same];intro z;cases z
          · rw [upd_ne hbD];exact hb) hf⟩
        have relE:=rel1.call gr
        exact h1 _ F2 H2 relE s12 gr.h ⟨D,ys,rfl,hH2,fD,rel1.base.free hD,rel1.fresh hD,ra⟩
theorem o_comp (N':List Str) (js:List Nat) (nl:Nat) (sc:Scope) (hsc:X.env.scope=sc) (hcalm:X.calm=true)
    (hi:PI X.nox tg iter (tI (kk X cm) E mi)) (hg:∀ cl C s H fp,PG (cxC X.nox N' scope cl C s H fp) tg (tT (kk X cm) g)) (ht:∀ cl C s H fp,PTs (cxC X.nox N' scope cl C s H fp) ifs (tB (kk X cm) EF mt)) (he:∀ cl C s H fp,PE (cxC X.nox N' scope cl C s H fp) elt (tV (kk X cm) EF me))
    (hcap:CapOk X.nox sc scope N' js) (hlen:js.length+nl=N'.length:=by rfl)
    (hk:scope.kind = .function:=by rfl) (hcell:∀ y∈scope.names,y.2 ≠ .cell:=by decide +kernel) (hnames:∀ y∈scope.names,y.2 = .local→scope.names.lookup y.1=some .local:=by decide +kernel)
    (hfree:∀ y∈scope.names,y.2 = .free→(sc.names.lookup y.1=some .cell∨sc.names.lookup y.1=some .free):=by decide +kernel)
    (hs:∀ x,foldedSetIterable iter X.env x=pure x:=by intro _;rfl) :
    PE X (.ListComp elt [⟨tg,iter,ifs,0⟩] scope pos) (tO (kk X cm) E (mComp js nl mi g mt me)) :=
  PE.wk (PE.nox (pe_comp N' js nl sc hsc hcalm hi hg ht he hcap hlen hk hcell hnames hfree hs)) fun _ _ _ h=>comp_end h
end
end P
namespace P
open PySem PySem.Spec PyProof.Rows L2 M2 M3 M4
abbrev bits (x:Int):Nat:=Builtin.Int.intBits x
section
variable {X:Cx} {cm:String→Addr} {K:KK}
def rCatR (K:PySem.W.Frag):R2:=fun x y H Q => ∃ l b xs zs,x = .ref l∧y = .ref b∧SqL K H l xs∧SqL K H b zs∧xs.length+zs.length≤sizeLine∧∀ p,H p=none→Q (.ref p) (upd H p (.lst (xs++zs)))
theorem op_catR:OpR X (binaryOp .Add) (rCatR X.K):=by
  intro pins s σ H x y v u Q I rx ry h
  obtain ⟨l,b,xs,zs,rfl,rfl,hH,hB,hz,q⟩:=h
  cases rx
  cases ry
  obtain ⟨its,r,pl,z⟩:=I.list hH
  obtain ⟨its2,r2,pl2,z2⟩:=I.list hB
  obtain ⟨⟨c1,d1,t1,sl1⟩,n,e,hc,hd,hs⟩:=pl
  obtain ⟨⟨c2,d2,t2,sl2⟩,n2,e2,hc2,hd2,hs2⟩:=pl2
  simp only at hc hd hs hc2 hd2 hs2
  subst hc hd hs hc2 hd2 hs2
  have hl:=r.length
  have hl2:=r2.length
  have ea:its.toArray++its2.toArray=(its++its2).toArray:=by simp
  refine concat_meets ⟨_,e,rfl⟩ ⟨_,e2,rfl⟩ noFill_list_add seq_list_add PySem.F.slot_list_add PySem.F.entry_list_add (PySem.F.args_list_add_2 _ _) (list_addW l b its.toArray its2.toArray n n2 none none sl1 sl2 (by simp only [List.size_toArray];omega)) ⟨e,e2,?_⟩
  rw [ea]
  exact ⟨.ref _,_,I.lnew (t':=s.toks) (r.append r2) (by rw [List.length_append];omega),rfl,q _ I.fresh⟩
def rCatT (K:PySem.W.Frag):R2:=fun x y H Q => ∃ l b xs zs,x = .ref l∧y = .ref b∧SqT K H l xs∧SqT K H b zs∧xs ≠ []∧zs ≠ []∧xs.length+zs.length≤sizeLine∧∀ p,H p=none→Q (.ref p) (upd H p (.tup (xs++zs)))
theorem op_catT:OpR X (binaryOp .Add) (rCatT X.K):=by
  intro pins s σ H x y v u Q I rx ry h
  obtain ⟨l,b,xs,zs,rfl,rfl,hH,hB,nx,nz,hz,q⟩:=h
  cases rx
  cases ry
  obtain ⟨its,r,pl,z⟩:=I.tuple hH
  obtain ⟨its2,r2,pl2,z2⟩:=I.tuple hB
  obtain ⟨⟨c1,d1,t1,sl1⟩,e,hc,n,hd⟩:=pl
  obtain ⟨⟨c2,d2,t2,sl2⟩,e2,hc2,n2,hd2⟩:=pl2
  simp only at hc hd hc2 hd2
  subst hc hd hc2 hd2
  have hl:=r.length
  have hl2:=r2.length
  have ne1:its ≠ []:=fun z=>by rw [z] at hl;exact nx (List.length_eq_zero_iff.mp hl)
  have ne2:its2 ≠ []:=fun z=>by rw [z] at hl2;exact nz (List.length_eq_zero_iff.mp hl2)
  have ea:its.toArray++its2.toArray=(its++its2).toArray:=by simp
  refine concat_meets ⟨_,e,rfl⟩ ⟨_,e2,rfl⟩ noFill_tuple_add seq_tuple_add PySem.F.slot_tuple_add PySem.F.entry_tuple_add (PySem.F.args_tuple_add_2 _ _) (tuple_addW2 l b its.toArray its2.toArray n n2 d1 d2 sl1 sl2 (by simpa using ne1) (by simpa using ne2) (by simp only [List.size_toArray];omega)) ⟨e,e2,?_⟩
  rw [ea]
  exact ⟨.ref _,_,I.laid (o:=.tup (xs++zs)) (t':=s.toks) (fun _ _ q=>Heap.get?_push_of_some _ q) (Nat.le_refl _) ⟨by rw [List.length_append];omega,(its++its2),r.append r2,⟨_,Heap.get?_push_size _ rfl,rfl,_,rfl⟩⟩,rfl,q _ I.fresh⟩
def opAdd:PV→PV→Option RV
  | .int i,.int j=>some (.sh (.int (i+j)))
  | .str i,.str j=>if i.length+j.length≤16777216 then some (.sh (.str (i++j))) else none
  | .lst ps,.lst qs=>if ps.length+qs.length≤16777216 then some (.ow (ps++qs)) else none
  | .tup (p::ps),.tup (q::qs)=>if (p::ps).length+(q::qs).length≤16777216 then some (.sh (.tup ((p::ps)++(q::qs)))) else none
  | _,_=>none
def rAddA (K:PySem.W.Frag):R2:=fun x y H Q=>mAdd x y H Q∨(rCatR K x y H Q∨rCatT K x y H Q)
theorem or_add:OpR X (binaryOp .Add) (rAddA X.K):=om_add.or (op_catR.or op_catT)
theorem ov_add:OpO K (rAddA K.K) opAdd:=by
  intro c F H σ ρ p q pv v u Q rel r1 r2 e k
  unfold opAdd at e
  split at e
  · cases e
    cases r1.int
    cases r2.int
    exact .inl (k _ F H rel (Same.refl _) (Same.refl _) (Rep.int (K:=K) (F:=F)))
  · split at e
    · rename_i hz
      cases e
      cases r1.str
      cases r2.str
      exact .inl ⟨by rw [sizeLine_is];exact hz,k _ F H rel (Same.refl _) (Same.refl _) (Rep.str (K:=K) (F:=F))⟩
    · cases e
  · split at e
    · rename_i hz
      cases e
      obtain ⟨a,xs,rfl,h1,h2⟩:=r1.lst rel.sub
      obtain ⟨b,ys,rfl,h3,h4⟩:=r2.lst rel.sub
      refine .inr (.inl ⟨a,b,xs,ys,rfl,rfl,h1,h3,by rw [← h2.length,← h4.length,sizeLine_is];exact hz,fun d hd => ?_⟩)
      obtain ⟨q1,q2⟩:=held_new rel hd (RepL.append h2 h4)
      exact k _ F _ q1 (Same.refl _) (Same.upd hd) q2
    · cases e
  · split at e
    · rename_i hz
      cases e
      obtain ⟨a,xs,rfl,h1,h2⟩:=r1.tup rel.sub
      obtain ⟨b,ys,rfl,h3,h4⟩:=r2.tup rel.sub
      have l1:=h2.length
      have l2:=h4.length
      refine .inr (.inr ⟨a,b,xs,ys,rfl,rfl,h1,h3,(fun z=>by rw [z] at l1;cases l1),(fun z=>by rw [z] at l2;cases l2),by rw [← l1,← l2,sizeLine_is];exact hz,fun l hl=>k _ _ _ (rel.alloc hl) (Same.upd (rel.sub.free hl)) (Same.upd hl) ?_⟩)
      show Rep K _ _ _
      unfold Rep
      exact ⟨l,xs++ys,rfl,SqT.of upd_same,RepL.same (Same.upd (rel.sub.free hl)) _ _ (RepL.append h2 h4)⟩
    · cases e
  · cases e
def opI0 (g:Int→Int→Int):PV→PV→Option PV
  | .int i,.int j=>some (.int (g i j))
  | _,_=>none
def opI (C:Int→Int→Bool) (g:Int→Int→Int):PV→PV→Option PV
  | .int i,.int j=>if C i j=true then some (.int (g i j)) else none
  | _,_=>none
def opC (g:Int→Int→Bool):PV→PV→Option PV
  | .int i,.int j=>some (.bl (g i j))
  | _,_=>none
theorem ov_I0 {g:Int→Int→Int}:OpV K (mI0 fun i j => .int (g i j)) (opI0 g):=by
  intro c F H σ ρ p q pv v u Q rel r1 r2 e k
  unfold opI0 at e
  split at e
  · cases e
    cases r1.int
    cases r2.int
    exact k _ F H rel (Same.refl _) (Same.refl _) Rep.int
  · cases e
theorem ov_C {g:Int→Int→Bool}:OpV K (mI0 fun i j => .bl (g i j)) (opC g):=by
  intro c F H σ ρ p q pv v u Q rel r1 r2 e k
  unfold opC at e
  split at e
  · cases e
    cases r1.int
    cases r2.int
    exact k _ F H rel (Same.refl _) (Same.refl _) Rep.bl
  · cases e
theorem ov_I {C:Int→Int→Bool} {C':Int→Int→Prop} {g:Int→Int→Int} (hC:∀ i j,C i j=true→C' i j):OpV K (mI C' fun i j => .int (g i j)) (opI C g):=by
  intro c F H σ ρ p q pv v u Q rel r1 r2 e k
  unfold opI at e
  split at e
  · split at e
    · rename_i hc
      cases e
      cases r1.int
      cases r2.int
      exact ⟨hC _ _ hc,k _ F H rel (Same.refl _) (Same.refl _) Rep.int⟩
    · cases e
  · cases e
def opSub:=opI0 fun i j=>i-j
theorem ov_sub:OpV K (mI0 fun i j => .int (i-j)) opSub:=ov_I0
def fdvOk (_ j:Int):Bool:=decide (j≠0) && decide (bits j≤8000)
def opFdv:=opI fdvOk fun i j=>i.fdiv j
theorem ov_fdv:OpV K (mI CFdv fun i j => .int (i.fdiv j)) opFdv:=ov_I fun i j h=>by unfold fdvOk at h;simpa [CFdv] using h
def modOk (_ j:Int):Bool:=decide (j≠0)
def opMod:=opI modOk fun i j=>i.fmod j
theorem ov_mod:OpV K (mI (fun _ j=>j≠0) fun i j => .int (i.fmod j)) opMod:=ov_I fun i j h=>by unfold modOk at h;simpa using h
def powOk (i j:Int):Bool:=decide (0≤j) && decide (j.natAbs≤1000000) && decide (i.natAbs<18446744073709551616)
def opPow:=opI powOk fun i j=>i ^ j.toNat
theorem ov_pow:OpV K (mI CPow fun i j => .int (i ^ j.toNat)) opPow:=ov_I fun i j h=>by
  unfold powOk at h
  simp only [Bool.and_eq_true,decide_eq_true_eq] at h
  exact ⟨h.1.1,by omega,by have:=h.2;simpa using this⟩
def shlOk (i j:Int):Bool:=decide (0≤j) && decide (j.natAbs≤1000000) && decide (i.natAbs<18446744073709551616)
def opShl:=opI shlOk fun i j=>i*2 ^ j.toNat
theorem ov_shl:OpV K (mI CPow fun i j => .int (i*2 ^ j.toNat)) opShl:=ov_I fun i j h=>by
  unfold shlOk at h
  simp only [Bool.and_eq_true,decide_eq_true_eq] at h
  exact ⟨h.1.1,by omega,by have:=h.2;simpa using this⟩
def shrOk (_ j:Int):Bool:=decide (0≤j)
def opShr:=opI shrOk fun i j=>i / 2 ^ j.toNat
theorem ov_shr:OpV K (mI (fun _ j=>0≤j) fun i j => .int (i / 2 ^ j.toNat)) opShr:=ov_I fun i j h=>by unfold shrOk at h;simpa using h
def opBand:=opI0 fun i j=>Builtin.bitAnd i j
theorem ov_band:OpV K (mI0 fun i j => .int (Builtin.bitAnd i j)) opBand:=ov_I0
theorem om_shl:OpR X (binaryOp .LShift) (mI CPow fun i j => .int (i*2 ^ j.toNat)):=OpR.wk op_shl mI_to
theorem om_shr:OpR X (binaryOp .RShift) (mI (fun _ j=>0≤j) fun i j => .int (i / 2 ^ j.toNat)):=OpR.wk op_shr mI_to
theorem om_band:OpR X (binaryOp .BitAnd) (mI0 fun i j => .int (Builtin.bitAnd i j)):=OpR.wk op_and mI0_to
def opLt:=opC fun i j=>decide (i<j)
def opLe:=opC fun i j=>decide (i≤j)
def opGt:=opC fun i j=>decide (j<i)
def opGe:=opC fun i j=>decide (j≤i)
theorem ov_lt:OpV K (mI0 fun i j => .bl (decide (i<j))) opLt:=ov_C
theorem ov_le:OpV K (mI0 fun i j => .bl (decide (i≤j))) opLe:=ov_C
theorem ov_gt:OpV K (mI0 fun i j => .bl (decide (j<i))) opGt:=ov_C
def mulOk (i j:Int):Bool:=decide (i.natAbs<18446744073709551616) || decide (j.natAbs<18446744073709551616) || (decide (bits i≤1048576) && decide (bits j≤1048576))
theorem mulOk_is {i j:Int} (h:mulOk i j=true):CMulB i j:=by
  unfold mulOk at h
  simp only [Bool.or_eq_true,Bool.and_eq_true,decide_eq_true_eq] at h
  rcases h with (h | h) | h
  · exact .inl (.inl ⟨by omega,by omega⟩)
  · exact .inl (.inr ⟨by omega,by omega⟩)
  · exact .inr h
def opMulI:PV→PV→Option PV
  | .int i,.int j=>if mulOk i j=true then some (.int (i*j)) else none
  | .str z,.int n=>if 0≤n∧n≤1000∧z.length≤1000 then some (.str (S (List.replicate n.toNat z.cps.toList).flatten)) else none
  | _,_=>none
theorem ov_mul:OpV K mMulS opMulI:=by
  intro c F H σ ρ p q pv v u Q rel r1 r2 e k
  unfold opMulI at e
  split at e
  · split at e
    · rename_i hc
      cases e
      cases r1.int
      cases r2.int
      exact ⟨mulOk_is hc,k _ F H rel (Same.refl _) (Same.refl _) Rep.int⟩
    · cases e
  · split at e
    · rename_i hc
      cases e
      cases r1.str
      cases r2.int
      exact ⟨hc,k _ F H rel (Same.refl _) (Same.refl _) Rep.str⟩
    · cases e
  · cases e
def mRepL (mr:M (List PV)) (mk:M PV):M RV:=fun ρ => (mr ρ).bind fun ps ρ1=>if ps.length≤16777216 then (mk ρ1).bind fun q ρ2=>match q with
  | .int k=>if -(2 ^ 60)≤k∧k<2 ^ 60∧ps.length*k.toNat≤16777216 then .ok (.ow (List.replicate k.toNat ps).flatten) ρ2 else .bad
  | _ => .bad else .bad
variable {E:L2.St→XK} {a b e:Expr} {es:List Expr} {pos:Pos} {ma mb:M PV} {mr:M (List PV)}
def opNeg:PV→Option PV
  | .int i=>some (.int (-i))
  | _=>none
theorem uv_neg:UnV K (mU fun i => .int (-i)) opNeg:=by
  intro c F H σ ρ p pv v Q rel r1 e k
  unfold opNeg at e
  split at e
  · cases e
    cases r1.int
    exact k _ F H rel (Same.refl _) (Same.refl _) Rep.int
  · cases e
mutual
def eqB:PV→PV→Bool
  | .non,.non=>true
  | .bl a,.bl b=>a == b
  | .bl a,.int j=>(if a then 1 else 0) == j
  | .int i,.bl b=>i == (if b then 1 else 0)
  | .int i,.int j=>i == j
  | .str x,.str y=>x == y
  | .lst xs,.lst ys=>eqBL xs ys
  | .tup xs,.tup ys=>eqBL xs ys
  | _,_=>false
def eqBL:List PV→List PV→Bool
  | [],[]=>true
  | x::xs,y::ys=>eqB x y && eqBL xs ys
  | _,_=>false
end
mutual
def dOk:PV→Bool
  | .non | .bl _ | .int _=>true
  | .str x=>PyData.strOk x
  | .lst xs=>dOkL xs
  | .tup xs=>dOkL xs
  | _=>false
def dOkL:List PV→Bool
  | []=>true
  | x::xs=>dOk x && dOkL xs
end
mutual
def dep:PV→Nat
  | .lst xs=>depL xs+1
  | .tup xs=>depL xs+1
  | _=>0
def depL:List PV→Nat
  | []=>0
  | x::xs=>max (dep x) (depL xs)
end
mutual
def toD:PV→PyData
  | .non => .none
  | .bl b => .bool b
  | .int i => .int i
  | .str x => .str x
  | .lst xs => .list (toDL xs)
  | .tup xs => .tuple (toDL xs)
  | _ => .none
def toDL:List PV→List PyData
  | [] => []
  | x::xs=>toD x::toDL xs
end
mutual
theorem toD_lay:∀ p:PV,dOk p=true→(toD p).canLay0=true
  | .non,_=>rfl
  | .bl _,_=>rfl
  | .int _,_=>rfl
  | .str x,h=>by unfold dOk at h;unfold toD PyData.canLay0;exact h
  | .lst xs,h=>by unfold dOk at h;unfold toD PyData.canLay0;exact toDL_lay xs h
  | .tup xs,h=>by unfold dOk at h;unfold toD PyData.canLay0;exact toDL_lay xs h
  | .ins _ _ _,h=>by simp [dOk] at h
  | .xc _ _ _,h=>by simp [dOk] at h
  | .ty _,h=>by simp [dOk] at h
  | .cls _,h=>by simp [dOk] at h
theorem toDL_lay:∀ ps:List PV,dOkL ps=true→PyData.canLayAll0 (toDL ps)=true
  | [],_=>rfl
  | p::ps,h=>by
    unfold dOkL at h
    rw [Bool.and_eq_true] at h
    unfold toDL PyData.canLayAll0
    rw [toD_lay p h.1,toDL_lay ps h.2]
    rfl
end
mutual
theorem toD_dep:∀ p:PV,(toD p).depth=dep p
  | .non=>rfl
  | .bl _=>rfl
  | .int _=>rfl
  | .str x=>rfl
  | .lst xs=>by unfold toD PyData.depth dep;rw [toDL_dep xs]
  | .tup xs=>by unfold toD PyData.depth dep;rw [toDL_dep xs]
  | .ins _ _ _=>rfl
  | .xc _ _ _=>rfl
  | .ty _=>rfl
  | .cls _=>rfl
theorem toDL_dep:∀ ps:List PV,PyData.depthAll (toDL ps)=depL ps
  | []=>rfl
  | p::ps=>by unfold toDL PyData.depthAll depL;rw [toD_dep p,toDL_dep ps]
end
mutual
theorem toD_eq:∀ p q:PV,dOk p=true→dOk q=true→PyData.eqv (toD p) (toD q)=eqB p q
  | .lst xs,.lst ys,h1,h2=>by
    unfold dOk at h1 h2
    unfold toD eqB PyData.eqv
    exact toDL_eq xs ys h1 h2
  | .tup xs,.tup ys,h1,h2=>by
    unfold dOk at h1 h2
    unfold toD eqB PyData.eqv
    exact toDL_eq xs ys h1 h2
  | .ins _ _ _,_,h,_=>by simp [dOk] at h
  | .xc _ _ _,_,h,_=>by simp [dOk] at h
  | .ty _,_,h,_=>by simp [dOk] at h
  | .cls _,_,h,_=>by simp [dOk] at h
  | .non,q,_,h=>by cases q<;>first | rfl | (simp [dOk] at h) | (simp [toD,eqB,PyData.eqv])
  | .bl _,q,_,h=>by cases q<;>first | rfl | (simp [dOk] at h) | (simp [toD,eqB,PyData.eqv])
  | .int _,q,_,h=>by cases q<;>first | rfl | (simp [dOk] at h) | (simp [toD,eqB,PyData.eqv])
  | .str _,q,_,h=>by cases q<;>first | rfl | (simp [dOk] at h;done) | (simp [toD,eqB,PyData.eqv])
  | .lst _,.non,_,_=>by simp [toD,eqB,PyData.eqv]
  | .lst _,.bl _,_,_=>by simp [toD,eqB,PyData.eqv]
  | .lst _,.int _,_,_=>by simp [toD,eqB,PyData.eqv]
  | .lst _,.str _,_,_=>by simp [toD,eqB,PyData.eqv]
  | .lst _,.tup _,_,_=>by simp [toD,eqB,PyData.eqv]
  | .lst _,.ins _ _ _,_,h=>by simp [dOk] at h
  | .lst _,.xc _ _ _,_,h=>by simp [dOk] at h
  | .lst _,.ty _,_,h=>by simp [dOk] at h
  | .lst _,.cls _,_,h=>by simp [dOk] at h
  | .tup _,.non,_,_=>by simp [toD,eqB,PyData.eqv]
  | .tup _,.bl _,_,_=>by simp [toD,eqB,PyData.eqv]
  | .tup _,.int _,_,_=>by simp [toD,eqB,PyData.eqv]
  | .tup _,.str _,_,_=>by simp [toD,eqB,PyData.eqv]
  | .tup _,.lst _,_,_=>by simp [toD,eqB,PyData.eqv]
  | .tup _,.ins _ _ _,_,h=>by simp [dOk] at h
  | .tup _,.xc _ _ _,_,h=>by simp [dOk] at h
  | .tup _,.ty _,_,h=>by simp [dOk] at h
  | .tup _,.cls _,_,h=>by simp [dOk] at h
theorem toDL_eq:∀ ps qs:List PV,dOkL ps=true→dOkL qs=true→PyData.eqvAll (toDL ps) (toDL qs)=eqBL ps qs
  | [],[],_,_=>by simp [toDL,eqBL,PyData.eqvAll]
  | [],_::_,_,_=>by simp [toDL,eqBL,PyData.eqvAll]
  | _::_,[],_,_=>by simp [toDL,eqBL,PyData.eqvAll]
  | p::ps,q::qs,h1,h2=>by
    unfold dOkL at h1 h2
    rw [Bool.and_eq_true] at h1 h2
    unfold toDL eqBL PyData.eqvAll
    rw [toD_eq p q h1.1 h2.1,toDL_eq ps qs h1.2 h2.2]
end
mutual
theorem toD_rp {F:Hp}:∀ (p:PV) (v:V),dOk p=true→Rep K F p v→Rp K.K F (toD p) v
  | .non,_,_,r=>by unfold Rep at r;unfold toD Rp;exact r
  | .bl _,_,_,r=>by unfold Rep at r;unfold toD Rp;exact r
  | .int _,_,_,r=>by unfold Rep at r;unfold toD Rp;exact r
  | .str _,_,_,r=>by unfold Rep at r;unfold toD Rp;exact r
  | .lst xs,_,h,r=>by
    unfold dOk at h
    unfold Rep at r
    unfold toD Rp
    obtain ⟨a,vs,h1,h2,h3⟩:=r
    exact ⟨a,vs,h1,h2,toDL_rp xs vs h h3⟩
  | .tup xs,_,h,r=>by
    unfold dOk at h
    unfold Rep at r
    unfold toD Rp
    obtain ⟨a,vs,h1,h2,h3⟩:=r
    exact ⟨a,vs,h1,h2,toDL_rp xs vs h h3⟩
  | .ins _ _ _,_,h,_=>by simp [dOk] at h
  | .xc _ _ _,_,h,_=>by simp [dOk] at h
  | .ty _,_,h,_=>by simp [dOk] at h
  | .cls _,_,h,_=>by simp [dOk] at h
theorem toDL_rp {F:Hp}:∀ (ps:List PV) (vs:List V),dOkL ps=true→RepL K F ps vs→RpA K.K F (toDL ps) vs
  | [],_,_,r=>by unfold RepL at r;unfold toDL RpA;exact r
  | p::ps,_,h,r=>by
    unfold dOkL at h
    rw [Bool.and_eq_true] at h
    unfold RepL at r
    unfold toDL RpA
    obtain ⟨x,t,h1,h2,h3⟩:=r
    exact ⟨x,t,h1,toD_rp p x h.1 h2,toDL_rp ps t h.2 h3⟩
end
theorem rp_read {c:Ctx} {F H:Hp} {σ : L2.St} {ρ : PSt} {p:PV} {v:V} (s:Same F H) (h:dOk p=true) (r:rR K c σ ρ F H p v):Rp K.K H (toD p) v:=by
  rcases r with r | r
  · exact Rp.same s _ _ (toD_rp p v h r)
  · cases p with
    | lst ps =>
      obtain ⟨a,vs,rfl,h3,h4⟩:=r
      unfold dOk at h
      unfold toD Rp
      exact ⟨a,vs,rfl,SqL.of h3,RpA.same s _ _ (toDL_rp ps vs h h4)⟩
    | ins C ns ps=>simp [dOk] at h
    | _=>exact r.elim
def eqOk (p q:PV):Bool:=dOk p && dOk q && decide (min (dep p) (dep q)≤60)
def opEq (p q:PV):Option PV:=if eqOk p q=true then some (.bl (eqB p q)) else none
def opNe (p q:PV):Option PV:=if eqOk p q=true then some (.bl (!eqB p q)) else none
theorem ov_eq:OpV K (mEqD K.K false) opEq:=by
  intro c F H σ ρ p q pv v u Q rel r1 r2 e k
  unfold opEq at e
  split at e
  · rename_i hz
    cases e
    unfold eqOk at hz
    simp only [Bool.and_eq_true,decide_eq_true_eq] at hz
    refine ⟨toD p,toD q,rp_read rel.sub hz.1.1 r1,rp_read rel.sub hz.1.2 r2,toD_lay p hz.1.1,toD_lay q hz.1.2,by rw [toD_dep,toD_dep];exact hz.2,?_⟩
    rw [toD_eq p q hz.1.1 hz.1.2]
    exact k _ F H rel (Same.refl _) (Same.refl _) Rep.bl
  · cases e
theorem ov_ne:OpV K (mEqD K.K true) opNe:=by
  intro c F H σ ρ p q pv v u Q rel r1 r2 e k
  unfold opNe at e
  split at e
  · rename_i hz
    cases e
    unfold eqOk at hz
    simp only [Bool.and_eq_true,decide_eq_true_eq] at hz
    refine ⟨toD p,toD q,rp_read rel.sub hz.1.1 r1,rp_read rel.sub hz.1.2 r2,toD_lay p hz.1.1,toD_lay q hz.1.2,by rw [toD_dep,toD_dep];exact hz.2,?_⟩
    rw [toD_eq p q hz.1.1 hz.1.2]
    exact k _ F H rel (Same.refl _) (Same.refl _) Rep.bl
  · cases e
def isN:PV→Bool
  | .non=>true
  | _=>false
def opIs (p q:PV):Option PV:=match q with
  | .non=>some (.bl (isN p))
  | _=>none
def opIsNot (p q:PV):Option PV:=match q with
  | .non=>some (.bl (!isN p))
  | _=>none
theorem isN_rep {c:Ctx} {F H:Hp} {σ : L2.St} {ρ : PSt} {p:PV} {v:V} (r:rR K c σ ρ F H p v):decide (v = .non)=isN p:=by
  rcases r with r | r
  · cases p<;>unfold Rep at r<;>first
      | (subst r;rfl)
      | (obtain ⟨a,xs,rfl,_⟩:=r;rfl)
      | (obtain ⟨a,xs,ys,rfl,_⟩:=r;rfl)
  · cases p with
    | lst ps=>obtain ⟨a,vs,rfl,_⟩:=r;rfl
    | ins C ns ps=>obtain ⟨a,dx,fs,rfl,_⟩:=r;rfl
    | _=>exact r.elim
theorem ov_is:OpV K (fun x y H Q=>y = .non∧Q (.bl (decide (x = .non))) H) opIs:=by
  intro c F H σ ρ p q pv v u Q rel r1 r2 e k
  unfold opIs at e
  split at e
  · cases e
    refine ⟨r2.non,?_⟩
    rw [isN_rep r1]
    exact k _ F H rel (Same.refl _) (Same.refl _) Rep.bl
  · cases e
def opIx:PV→PV→Option PV
  | .lst ps,.int i=>atI ps i
  | .tup ps,.int i=>atI ps i
  | .str z,.int i=>if z.length≤16777216 then (atI z.cps.toList i).map fun c => .str ⟨#[c]⟩ else none
  | _,_=>none
theorem atI_rep {F:Hp} {ps:List PV} {vs:List V} {i:Int} {p:PV} (r:RepL K F ps vs) (h:atI ps i=some p):∃ v,atI vs i=some v∧Rep K F p v:=by
  unfold atI at h ⊢
  rw [r.length] at h
  cases e:ixN vs.length i with
  | none=>rw [e] at h;cases h
  | some j =>
    rw [e] at h
    obtain ⟨v,h1,h2⟩:=pr_get r.pr h
    exact ⟨v,h1,h2⟩
theorem ov_ix:OpV K (mIx K.K) opIx:=by
  intro c F H σ ρ p q pv v u Q rel r1 r2 e k
  unfold opIx at e
  split at e
  · obtain ⟨a,vs,rfl,h1,h2⟩:=r1.lst rel.sub
    cases r2.int
    obtain ⟨x,h3,h4⟩:=atI_rep h2 e
    exact ⟨vs,x,.inl h1,h3,k _ F H rel (Same.refl _) (Same.refl _) h4⟩
  · obtain ⟨a,vs,rfl,h1,h2⟩:=r1.tup rel.sub
    cases r2.int
    obtain ⟨x,h3,h4⟩:=atI_rep h2 e
    exact ⟨vs,x,.inr h1,h3,k _ F H rel (Same.refl _) (Same.refl _) h4⟩
  · split at e
    · rename_i z i hz
      cases r1.str
      cases r2.int
      cases ea:atI z.cps.toList i with
      | none=>rw [ea] at e;cases e
      | some cc =>
        rw [ea] at e
        cases e
        exact ⟨cc,by rw [sizeLine_is];exact hz,ea,k _ F H rel (Same.refl _) (Same.refl _) Rep.str⟩
    · cases e
  · cases e
def mNoP:M (Option Int):=fun ρ => .ok none ρ
def mP (m:M PV):M (Option Int):=fun ρ => (m ρ).bind fun p ρ1=>match p with
  | .int i => .ok (some i) ρ1
  | _ => .bad
abbrev tP (K:KK) (E:L2.St→XK) (m:M (Option Int)):TO:=tG K E rI m
theorem p_none:PO X none (tP (kk X cm) E mNoP):=fun pins s σ H Q I h=>po_none pins s σ H Q I (by
  obtain ⟨c,F,ρ,rel,h⟩:=h
  exact h none F H rel (Same.refl _) (Same.refl _) rfl)
theorem p_some (ha:PE X e (tV (kk X cm) E ma)):PO X (some e) (tP (kk X cm) E (mP ma)):=fun pins s σ H Q I h=>pom_some ha pins s σ H Q I (by
  obtain ⟨c,F,ρ,rel,h⟩:=h
  refine ⟨c,F,ρ,rel,h.bind fun p ρ1 v F1 H1 rel1 _ _ r1 h1 => ?_⟩
  cases p with
  | int i =>
    have e:v = .int i:=by have r1':Rep (kk X cm) F1 (.int i) v:=r1;unfold Rep at r1';exact r1'
    subst e
    exact h1 (some i) F1 H1 rel1 (Same.refl _) (Same.refl _) rfl
  | _=>exact h1.elim)
def cutP {α : Type} (xs:List α) (lo hi:Option Int):List α := (xs.drop (HT.sIx xs.length 0 lo)).take (HT.sIx xs.length xs.length hi-HT.sIx xs.length 0 lo)
def slF (p:PV) (lo hi:Option Int):Option RV:=match p with
  | .lst ps=>some (.ow (cutP ps lo hi))
  | .str z=>if z.length≤16777216 then some (.sh (.str (S (cutP z.cps.toList lo hi)))) else none
  | _=>none
def mSl (ma:M PV) (ml mh:M (Option Int)):M RV:=fun ρ => (ma ρ).bind fun p ρ1=>(ml ρ1).bind fun lo ρ2=>(mh ρ2).bind fun hi ρ3=>Res.ofO (slF p lo hi) ρ3
theorem o_slice {ml mh:M (Option Int)} {lo hi:Option Expr} {p2:Pos} (ha:PE X a (tR (kk X cm) E ma)) (hl:PO X lo (tP (kk X cm) E ml)) (hh:PO X hi (tP (kk X cm) E mh)):PE X (.Subscript a (.Slice lo hi none p2) pos) (tO (kk X cm) E (mSl ma ml mh)) :=
  PE.wk (pe_slice slm ha hl hh) fun σ H Q ⟨c,F,ρ,rel,h⟩=>⟨c,F,ρ,rel,h.bind fun p ρ1 v F1 H1 rel1 _ _ r1 h1=>⟨c,F1,ρ1,rel1,h1.bind fun lo ρ2 lo' F2 H2 rel2 sF sH r2 h2=>⟨c,F2,ρ2,rel2,h2.bind fun hi ρ3 hi' F3 H3 rel3 sF3 sH3 r3 h3=>by
    have e2:lo=lo':=r2
    have e3:hi=hi':=r3
    subst e2 e3
    have r1':rR (kk X cm) c σ ρ3 F3 H3 p v:=r1.mono (sF.trans sF3) (sH.trans sH3)
    cases p with
    | lst ps =>
      obtain ⟨a,vs,rfl,q1,q2⟩:=r1'.lst rel3.sub
      refine ⟨vs,q1,fun d hd => ?_⟩
      have e:RepL (kk X cm) F3 (cutP ps lo hi) (cutV vs lo hi):=by
        unfold cutP cutV
        rw [q2.length]
        exact RepL.of (pr_take _ (pr_drop _ q2.pr))
      obtain ⟨z1,z2⟩:=held_new rel3 hd e
      exact h3 _ F3 _ z1 (Same.refl _) (Same.upd hd) z2
    | str z =>
      cases r1'.str
      unfold slF at h3
      dsimp only at h3
      split at h3
      · rename_i hz
        exact ⟨by rw [sizeLine_is];exact hz,h3 _ F3 H3 rel3 (Same.refl _) (Same.refl _) (Rep.str (K:=kk X cm) (F:=F3))⟩
      · exact h3.elim
    | _=>exact h3.elim⟩⟩⟩
theorem rl1 {c:Ctx} {F H:Hp} {σ : L2.St} {ρ : PSt} {p:PV} {vs:List V} (h:rRL K c σ ρ F H [p] vs):∃ v,vs = [v]∧rR K c σ ρ F H p v:=by
  cases h with
  | cons r t=>cases t;exact ⟨_,rfl,r⟩
theorem rl2 {c:Ctx} {F H:Hp} {σ : L2.St} {ρ : PSt} {p q:PV} {vs:List V} (h:rRL K c σ ρ F H [p,q] vs):∃ v u,vs = [v,u]∧rR K c σ ρ F H p v∧rR K c σ ρ F H q u:=by
  cases h with
  | cons r t =>
    cases t with
    | cons r' t=>cases t;exact ⟨_,_,rfl,r,r'⟩
def fLen:List PV→Option PV
  | [.lst ps]=>some (.int ps.length)
  | [.tup ps]=>some (.int ps.length)
  | [.str z]=>if z.length≤16777216 then some (.int z.length) else none
  | _=>none
theorem cv_len:CallV K (mLen K.K) fLen:=by
  intro c F H σ ρ ps pv vs Q rel r e k
  unfold fLen at e
  split at e
  · cases e
    obtain ⟨v,rfl,r1⟩:=rl1 r
    obtain ⟨a,xs,rfl,h1,h2⟩:=r1.lst rel.sub
    refine ⟨xs,.inl h1,?_⟩
    rw [← h2.length]
    exact k _ F H rel (Same.refl _) (Same.refl _) Rep.int
  · cases e
    obtain ⟨v,rfl,r1⟩:=rl1 r
    obtain ⟨a,xs,rfl,h1,h2⟩:=r1.tup rel.sub
    refine ⟨xs,.inr h1,?_⟩
    rw [← h2.length]
    exact k _ F H rel (Same.refl _) (Same.refl _) Rep.int
  · split at e
    · rename_i hz
      cases e
      obtain ⟨v,rfl,r1⟩:=rl1 r
      cases r1.str
      exact ⟨by rw [sizeLine_is];exact hz,k _ F H rel (Same.refl _) (Same.refl _) Rep.int⟩
    · cases e
  · cases e
def fAbs:List PV→Option PV
  | [.int i]=>some (.int (if i<0 then -i else i))
  | _=>none
def fMin2:List PV→Option PV
  | [.int i,.int j]=>some (.int (if j<i then j else i))
  | _=>none
def fMax2:List PV→Option PV
  | [.int i,.int j]=>some (.int (if j>i then j else i))
  | _=>none
theorem cv_min2:CallV K mMin2 fMin2:=by
  intro c F H σ ρ ps pv vs Q rel r e k
  unfold fMin2 at e
  split at e
  · cases e
    obtain ⟨v,u,rfl,r1,r2⟩:=rl2 r
    cases r1.int
    cases r2.int
    exact k _ F H rel (Same.refl _) (Same.refl _) Rep.int
  · cases e
theorem cv_max2:CallV K mMax2 fMax2:=by
  intro c F H σ ρ ps pv vs Q rel r e k
  unfold fMax2 at e
  split at e
  · cases e
    obtain ⟨v,u,rfl,r1,r2⟩:=rl2 r
    cases r1.int
    cases r2.int
    exact k _ F H rel (Same.refl _) (Same.refl _) Rep.int
  · cases e
def fList:List PV→Option RV
  | [.lst ps]=>some (.ow ps)
  | [.tup ps]=>some (.ow ps)
  | _=>none
def rListOf (K:PySem.W.Frag):List V→Hp→VK→Prop:=fun xs H Q => ∃ p ys,xs = [.ref p]∧(SqL K H p ys∨SqT K H p ys)∧∀ l,H l=none→Q (.ref l) (upd H l (.lst ys))
theorem cr_list:CallR X (.type "list") (rListOf X.K):=call_list_of
theorem co_list:CallO K (rListOf K.K) fList:=by
  intro c F H σ ρ ps pv vs Q rel r e k
  unfold fList at e
  split at e
  · cases e
    obtain ⟨v,rfl,r1⟩:=rl1 r
    obtain ⟨a,xs,rfl,h1,h2⟩:=r1.lst rel.sub
    refine ⟨a,xs,rfl,.inl h1,fun l hl => ?_⟩
    obtain ⟨q1,q2⟩:=held_new rel hl h2
    exact k _ F _ q1 (Same.refl _) (Same.upd hl) q2
  · cases e
    obtain ⟨v,rfl,r1⟩:=rl1 r
    obtain ⟨a,xs,rfl,h1,h2⟩:=r1.tup rel.sub
    refine ⟨a,xs,rfl,.inr h1,fun l hl => ?_⟩
    obtain ⟨q1,q2⟩:=held_new rel hl h2
    exact k _ F _ q1 (Same.refl _) (Same.upd hl) q2
  · cases e
def isiT:PV→String→Option Bool
  | .int _, "int" => some true
  | .int _, "bool" => some false
  | .int _, "str" => some false
  | .int _, "tuple" => some false
  | .int _, "list" => some false
  | .bl _, "int" => some true
  | .bl _, "bool" => some true
  | .lst _, "list" => some true
  | .lst _, "tuple" => some false
  | .lst _, "int" => some false
  | .lst _, "str" => some false
  | .tup _, "tuple" => some true
  | .tup _, "list" => some false
  | .tup _, "int" => some false
  | .tup _, "str" => some false
  | .str _, "str" => some true
  | .str _, "int" => some false
  | .str _, "list" => some false
  | .str _, "tuple" => some false
  | .non, "int" => some false
  | .non, "str" => some false
  | .non, "tuple" => some false
  | .non, "list" => some false
  | _,_=>none
end
theorem rep_ints {K:KK} {F:Hp}:∀ ns:List Int,RepL K F (ns.map .int) (ns.map V.int)
  | []=>RepL.nil
  | n::ns=>RepL.cons Rep.int (rep_ints ns)
def spLaw (K:PySem.W.Frag):Sp:=fun vs H Q _ => ∃ (sa:Addr) (ns:List Int),vs = [.ref sa]∧SqL K H sa (ns.map V.int)∧ns.length≤63∧∀ v H',v = .bl true→Q v H'
end P
namespace P
open PySem PySem.Spec PyProof.Rows L2 M2 M3 M4
section
variable {X:Cx} {cm:String→Addr} {K:KK}
def TyP (K:PySem.W.Frag) (H:Hp) (x:V) (t:Value):Prop:=match x with
  | .non=>t = .type "NoneType"
  | .bl _=>t = .type "bool"
  | .int _=>t = .type "int"
  | .str _=>t = .type "str"
  | .ref a=>(t = .type "list" ∧ ∃ xs,SqL K H a xs)∨(t = .type "tuple" ∧ ∃ xs,SqT K H a xs)∨TyOf K H (.ref a) t
  | _=>False
def mIsiP (K:PySem.W.Frag):List V→Hp→VK→Prop:=fun xs H Q=>match xs with
  | [x,.ty n] => ∃ t b,TyP K H x t∧PySem.W.kitOne K t (.type n)=some b∧Q (.bl b) H
  | [x,.ref C] => ∃ t b,TyP K H x t∧PySem.W.kitOne K t (.ref C)=some b∧Q (.bl b) H
  | _=>False
theorem isi_okP {pins:List (Addr×Obj)} {σ : L2.St} {H:Hp} {s:Shared} {A:Around} {E:Value→Shared→Prop} {Q:Value→Shared→Prop} {c:Value} {b:Bool} {x:V} {u t:Value} (I:Inv X pins σ H s) (rx:RelV x u) (ty:TyP X.K H x t) (e:PySem.W.kitOne X.K t c=some b) (h:∀ tk,Q (.bool b) { s with toks:=tk }) :
    wpAny (model X.prog X.w) A (call (.builtin "isinstance") [u,c]) Q E s:=by
  cases x with
  | non=>cases (show t=_ from ty);exact isinst_ok I rx .non e h
  | bl y=>cases (show t=_ from ty);exact isinst_ok I rx (.bl y) e h
  | int y=>cases (show t=_ from ty);exact isinst_ok I rx (.int y) e h
  | str y=>cases (show t=_ from ty);exact isinst_ok I rx (.str y) e h
  | ref a =>
    cases (show u=Value.ref a from rx)
    rcases ty with ⟨rfl,xs,hS⟩ | ⟨rfl,xs,hS⟩ | ty
    · obtain ⟨its,r,⟨o,n,h1,h2,_⟩,_⟩:=I.list hS
      exact PySem.W.kia_one PySem.W.kitx_list I.kIn ⟨o,h1,h2⟩ e (fun z=>nomatch z) h
    · obtain ⟨its,r,⟨o,h1,h2,_⟩,_⟩:=I.tuple hS
      exact PySem.W.kia_one PySem.W.kitx_tuple I.kIn ⟨o,h1,h2⟩ e (fun z=>nomatch z) h
    · exact isinst_ok I rx ty e h
  | _=>exact ty.elim
theorem cr_isi:CallR X (.builtin "isinstance") (mIsiP X.K):=by
  intro pins s σ H xs us Q I r h
  unfold mIsiP at h
  split at h
  · obtain ⟨t,b,h1,h2,h3⟩:=h
    obtain ⟨u,w',rfl,r1,r2⟩:=vals2 r
    cases r2
    exact isi_okP I r1 h1 h2 fun tk=>⟨.bl b,H,I.tok _,rfl,h3⟩
  · obtain ⟨t,b,h1,h2,h3⟩:=h
    obtain ⟨u,w',rfl,r1,r2⟩:=vals2 r
    cases r2
    exact isi_okP I r1 h1 h2 fun tk=>⟨.bl b,H,I.tok _,rfl,h3⟩
  · exact h.elim
def tyN:PV→String
  | .non => "NoneType"
  | .bl _ => "bool"
  | .int _ => "int"
  | .str _ => "str"
  | .lst _ => "list"
  | .tup _ => "tuple"
  | _ => ""
theorem isiT_kit {F:PySem.W.Frag} {p:PV} {n:String} {b:Bool} (h:isiT p n=some b):PySem.W.kitOne F (.type (tyN p)) (.type n)=some b:=by
  unfold isiT at h
  split at h<;>first
    | (cases h;first | rfl | decide +kernel | kernel_rfl)
    | cases h
theorem tyP_rep {c:Ctx} {F H:Hp} {σ : L2.St} {ρ : PSt} {p:PV} {v:V} (s:Same F H) (r:rR K c σ ρ F H p v) (h:∃ n b,isiT p n=some b):TyP K.K H v (.type (tyN p)):=by
  obtain ⟨n,b,h⟩:=h
  cases p with
  | non=>cases r.non;rfl
  | bl _=>cases r.bl;rfl
  | int _=>cases r.int;rfl
  | str _=>cases r.str;rfl
  | lst ps =>
    obtain ⟨a,vs,rfl,h1,h2⟩:=r.lst s
    exact .inl ⟨rfl,vs,h1⟩
  | tup ps =>
    obtain ⟨a,vs,rfl,h1,h2⟩:=r.tup s
    exact .inr (.inl ⟨rfl,vs,h1⟩)
  | ins _ _ _=>simp [isiT] at h
  | xc _ _ _=>simp [isiT] at h
  | ty _=>simp [isiT] at h
  | cls _=>simp [isiT] at h
def fIsi:List PV→Option PV
  | [p,.ty n]=>(isiT p n).map .bl
  | _=>none
theorem cv_isi:CallV K (mIsiP K.K) fIsi:=by
  intro c F H σ ρ ps pv vs Q rel r e k
  unfold fIsi at e
  split at e
  · rename_i p n
    obtain ⟨v,u,rfl,r1,r2⟩:=rl2 r
    cases r2.ty
    cases eb:isiT p n with
    | none=>rw [eb] at e;cases e
    | some b =>
      rw [eb] at e
      cases e
      exact ⟨_,b,tyP_rep rel.sub r1 ⟨n,b,eb⟩,isiT_kit eb,k _ F H rel (Same.refl _) (Same.refl _) Rep.bl⟩
  · cases e
def fTuple:List PV→Option PV
  | [.lst ps]=>some (.tup ps)
  | [.tup ps]=>some (.tup ps)
  | _=>none
def rTupOf (K:PySem.W.Frag):List V→Hp→VK→Prop:=fun xs H Q => ∃ p ys,xs = [.ref p]∧((SqL K H p ys∧∀ l,H l=none→Q (.ref l) (upd H l (.tup ys)))∨(SqT K H p ys∧Q (.ref p) H))
theorem cr_tuple:CallR X (.type "tuple") (rTupOf X.K):=call_tuple_of
theorem cv_tuple:CallV K (rTupOf K.K) fTuple:=by
  intro c F H σ ρ ps pv vs Q rel r e k
  unfold fTuple at e
  split at e
  · cases e
    obtain ⟨v,rfl,r1⟩:=rl1 r
    obtain ⟨a,xs,rfl,h1,h2⟩:=r1.lst rel.sub
    refine ⟨a,xs,rfl,.inl ⟨h1,fun l hl=>k _ _ _ (rel.alloc hl) (Same.upd (rel.sub.free hl)) (Same.upd hl) ?_⟩⟩
    unfold Rep
    exact ⟨l,xs,rfl,SqT.of upd_same,RepL.same (Same.upd (rel.sub.free hl)) _ _ h2⟩
  · cases e
    obtain ⟨v,rfl,r1⟩:=rl1 r
    have r1':=r1
    obtain ⟨a,xs,rfl,h1,h2⟩:=r1.tup rel.sub
    refine ⟨a,xs,rfl,.inr ⟨h1,k _ F H rel (Same.refl _) (Same.refl _) ?_⟩⟩
    rcases r1' with q | q
    · exact q
    · exact q.elim
  · cases e
def boolsOf:List PV→Option (List Bool)
  | []=>some []
  | .bl b::ps=>(boolsOf ps).map (b :: ·)
  | _::_=>none
theorem bools_rep {F:Hp}:∀ {ps:List PV} {vs:List V} {bs:List Bool},RepL K F ps vs→boolsOf ps=some bs→vs=bs.map V.bl
  | [],vs,bs,r,h=>by
    cases h
    have r':=r.pr
    cases r'
    rfl
  | p::ps,vs,bs,r,h=>by
    cases p with
    | bl b =>
      unfold boolsOf at h
      cases eb:boolsOf ps with
      | none=>rw [eb] at h;cases h
      | some cs =>
        rw [eb] at h
        cases h
        have r':=r.pr
        cases r' with
        | cons r1 t =>
          rw [rep_bl r1,bools_rep (RepL.of t) eb]
          rfl
    | _=>simp [boolsOf] at h
def fAll:List PV→Option PV
  | [.lst ps]=>(boolsOf ps).map fun bs => .bl (bs.all id)
  | _=>none
theorem cv_all:CallV K (mAll K.K) fAll:=by
  intro c F H σ ρ ps pv vs Q rel r e k
  unfold fAll at e
  split at e
  · rename_i ps
    obtain ⟨v,rfl,r1⟩:=rl1 r
    obtain ⟨a,xs,rfl,h1,h2⟩:=r1.lst rel.sub
    cases eb:boolsOf ps with
    | none=>rw [eb] at e;cases e
    | some bs =>
      rw [eb] at e
      cases e
      refine ⟨bs,by rw [← bools_rep h2 eb];exact h1,k _ F H rel (Same.refl _) (Same.refl _) Rep.bl⟩
  · cases e
end
end P
namespace P
open PySem PySem.Spec PyProof.Rows L2 M2 M3 M4
section
variable {α β : Type} {ρ : PSt} {i j n k:Nat} {p q:PV} {ps:List PV} {m ma mb mc:M PV} {mo:M RV} {a b:M Fl} {ta tb:M Bool} {mr:M (List PV)} {f:PV→PV→Option PV} {fo:PV→PV→Option RV} {fl:List PV→Option PV} {flo:List PV→Option RV} {g:Tg} {gs:Tgs}
@[simp] theorem ev_nx:mNx ρ = .ok .nx ρ := rfl
@[simp] theorem ev_bk:mBk ρ = .ok .bk ρ := rfl
@[simp] theorem ev_ct:mCt ρ = .ok .ct ρ := rfl
@[simp] theorem ev_bad:(mBad:M α) ρ = .bad:=rfl
@[simp] theorem ev_seq:mSeq a b ρ = (a ρ).bind fun f ρ1=>match f with | .nx=>b ρ1 | f => .ok f ρ1:=rfl
@[simp] theorem ev_set:mSet i mo ρ = (mo ρ).bind fun r ρ1 => .ok .nx (ρ1.set i r.slot):=rfl
@[simp] theorem ev_ret:mRet mo ρ = (mo ρ).bind fun r ρ1 => .ok (.rt r) ρ1:=rfl
@[simp] theorem ev_retN:mRetN ρ = .ok (.rt (.sh .non)) ρ := rfl
@[simp] theorem ev_drop:mDrop m ρ = (m ρ).bind fun _ ρ1 => .ok .nx ρ1:=rfl
@[simp] theorem ev_c:mC p ρ = .ok p ρ := rfl
@[simp] theorem ev_sh:mSh m ρ = (m ρ).bind fun p ρ1 => .ok (.sh p) ρ1:=rfl
@[simp] theorem ev_val:mVal mo ρ = (mo ρ).bind fun r ρ1 => .ok r.val ρ1:=rfl
@[simp] theorem ev_vsh:(RV.sh p).val=p:=rfl
@[simp] theorem ev_vow:(RV.ow ps).val = .lst ps:=rfl
@[simp] theorem ev_ssh:(RV.sh p).slot = .sh p:=rfl
@[simp] theorem ev_sow:(RV.ow ps).slot = .ow ps:=rfl
@[simp] theorem ev_bin:mBin f ma mb ρ = (ma ρ).bind fun p ρ1=>(mb ρ1).bind fun q ρ2=>Res.ofO (f p q) ρ2:=rfl
@[simp] theorem ev_binO:mBinO fo ma mb ρ = (ma ρ).bind fun p ρ1=>(mb ρ1).bind fun q ρ2=>Res.ofO (fo p q) ρ2:=rfl
@[simp] theorem ev_un {u:PV→Option PV}:mUn u ma ρ = (ma ρ).bind fun p ρ1=>Res.ofO (u p) ρ1:=rfl
@[simp] theorem ev_tru:mTru m ρ = (m ρ).bind fun p ρ1=>Res.ofO (tru p) ρ1:=rfl
@[simp] theorem ev_bl:mBl m ρ = (m ρ).bind fun p ρ1=>match p with | .bl b => .ok b ρ1 | _ => .bad:=rfl
@[simp] theorem ev_notT:mNotT ta ρ = (ta ρ).bind fun b ρ1 => .ok (!b) ρ1:=rfl
@[simp] theorem ev_andT:mAndT ta tb ρ = (ta ρ).bind fun b ρ1=>if b=true then tb ρ1 else .ok false ρ1:=rfl
@[simp] theorem ev_orT:mOrT ta tb ρ = (ta ρ).bind fun b ρ1=>if b=true then .ok true ρ1 else tb ρ1:=rfl
@[simp] theorem ev_and:mAnd ma mb ρ = (ma ρ).bind fun p ρ1=>match p with | .bl b=>if b=true then mb ρ1 else .ok (.bl false) ρ1 | _ => .bad:=by
  unfold mAnd
  congr
  funext p ρ1
  cases p with
  | bl b=>cases b<;>rfl
  | _=>rfl
@[simp] theorem ev_or:mOr ma mb ρ = (ma ρ).bind fun p ρ1=>match p with | .bl b=>if b=true then .ok (.bl true) ρ1 else mb ρ1 | _ => .bad:=by
  unfold mOr
  congr
  funext p ρ1
  cases p with
  | bl b=>cases b<;>rfl
  | _=>rfl
@[simp] theorem ev_not:mNot ma ρ = (ma ρ).bind fun p ρ1=>match p with | .bl b => .ok (.bl (!b)) ρ1 | _ => .bad:=rfl
@[simp] theorem ev_if {x y:M α}:mIf ta x y ρ = (ta ρ).bind fun b ρ1=>if b=true then x ρ1 else y ρ1:=rfl
@[simp] theorem ev_chn {f g:PV→PV→Option PV}:mChn f g ma mb mc ρ = (ma ρ).bind fun p ρ1=>(mb ρ1).bind fun q ρ2=>(Res.ofO (f p q) ρ2).bind fun z ρ3=>match z with
  | .bl true=>(mc ρ3).bind fun w ρ4=>Res.ofO (g q w) ρ4
  | .bl false => .ok (.bl false) ρ3
  | _ => .bad:=rfl
@[simp] theorem ev_nil:mNil ρ = .ok [] ρ := rfl
@[simp] theorem ev_cons:mCons ma mr ρ = (ma ρ).bind fun p ρ1=>(mr ρ1).bind fun ps ρ2 => .ok (p::ps) ρ2:=rfl
@[simp] theorem ev_tup:mTup mr ρ = (mr ρ).bind fun ps ρ1=>if ps.length≤16777216 then .ok (.tup ps) ρ1 else .bad:=rfl
@[simp] theorem ev_lst:mLst mr ρ = (mr ρ).bind fun ps ρ1=>if ps.length≤16777216 then .ok (.ow ps) ρ1 else .bad:=rfl
@[simp] theorem ev_cb:mCB fl mr ρ = (mr ρ).bind fun ps ρ1=>Res.ofO (fl ps) ρ1:=rfl
@[simp] theorem ev_cbo:mCBO flo mr ρ = (mr ρ).bind fun ps ρ1=>Res.ofO (flo ps) ρ1:=rfl
@[simp] theorem ev_call {mf:MF} {ms:M (List Slot)}:mCall mf ms ρ = (ms ρ).bind fun ps ρ1=>match mf ps with | .ret r => .ok r ρ1 | .exc x => .exc x ρ1 | .bad => .bad:=rfl
@[simp] theorem ev_vV:mVarV i ρ = (match ρ[i]? with | some (.sh p) => .ok p ρ | some (.ow ps) => .ok (.lst ps) (ρ.set i (.sh (.lst ps))) | _ => .bad):=rfl
@[simp] theorem ev_vR:mVarR i ρ = (match ρ[i]? with | some (.sh p) => .ok p ρ | some (.ow ps) => .ok (.lst ps) ρ | some (.bw ps) => .ok (.lst ps) ρ | some (.rc C ns ps) => .ok (.ins C ns ps) ρ | _ => .bad):=rfl
@[simp] theorem ev_vO:mVarO i ρ = (match ρ[i]? with | some (.sh p) => .ok (.sh p) ρ | some (.ow ps) => .ok (.ow ps) (ρ.set i .no) | _ => .bad):=rfl
@[simp] theorem ev_asg:mAsg g m ρ = (m ρ).bind fun p ρ1=>match g p ρ1 with | some ρ2 => .ok .nx ρ2 | none => .bad:=rfl
@[simp] theorem ev_par:mPar i j mr ρ = (mr ρ).bind fun ps ρ1=>match ps with | [p,q] => .ok .nx ((ρ1.set i (.sh p)).set j (.sh q)) | _ => .bad:=rfl
@[simp] theorem ev_gN:gN i p ρ = some (ρ.set i (.sh p)):=rfl
@[simp] theorem ev_gsNil:gsNil [] ρ = some ρ := rfl
@[simp] theorem ev_gsCons:gsCons g gs (p::ps) ρ = (g p ρ).bind fun ρ1=>gs ps ρ1:=rfl
@[simp] theorem ev_gT:gT n gs (.tup ps) ρ = if ps.length=n then gs ps ρ else none:=rfl
@[simp] theorem ev_app:mApp i m ρ = (match ρ[i]? with
  | some (.ow _)=>(m ρ).bind fun p ρ1=>match ρ1[i]? with
    | some (.ow ps)=>if ps.length<16777216 then .ok .nx (ρ1.set i (.ow (ps ++ [p]))) else .bad
    | _ => .bad
  | _ => .bad):=rfl
@[simp] theorem ev_setix {mi:M PV}:mSetIx i mi m ρ = (m ρ).bind fun p ρ1=>match ρ1[i]? with
  | some (.ow _)=>(mi ρ1).bind fun q ρ2=>match ρ2[i]?,q with
    | some (.ow ps),.int k=>match ixN ps.length k with
      | some j => .ok .nx (ρ2.set i (.ow (ps.set j p)))
      | none => .bad
    | _,_ => .bad
  | _ => .bad:=rfl
@[simp] theorem ev_noP:mNoP ρ = .ok none ρ := rfl
@[simp] theorem ev_P:mP m ρ = (m ρ).bind fun p ρ1=>match p with | .int i => .ok (some i) ρ1 | _ => .bad:=rfl
@[simp] theorem ev_sl {ml mh:M (Option Int)}:mSl ma ml mh ρ = (ma ρ).bind fun p ρ1=>(ml ρ1).bind fun lo ρ2=>(mh ρ2).bind fun hi ρ3=>Res.ofO (slF p lo hi) ρ3:=rfl
@[simp] theorem ev_slL {lo hi:Option Int}:slF (.lst ps) lo hi=some (.ow (cutP ps lo hi)):=rfl
@[simp] theorem ev_items:mItems m ρ = (m ρ).bind fun p ρ1=>match p with
  | .lst ps => .ok ps ρ1
  | .tup ps => .ok ps ρ1
  | .str z => .ok (z.cps.toList.map fun c => .str ⟨#[c]⟩) ρ1
  | _ => .bad:=rfl
@[simp] theorem ev_range {h:List PV→Option (List PV)}:mRange h mr ρ = (mr ρ).bind fun ps ρ1=>Res.ofO (h ps) ρ1:=rfl
@[simp] theorem ev_for {mi:M (List PV)}:mFor mi g b ρ = (mi ρ).bind fun items ρ1=>forL g b items ρ1:=rfl
@[simp] theorem ev_comp {js:List Nat} {nl:Nat} {mi:M (List PV)} {mt:M Bool} {me:M PV}:mComp js nl mi g mt me ρ = (mi ρ).bind fun items ρ1=>match compL g mt me items (capP js nl ρ1) [] with
  | some ps => .ok (.ow ps) ρ1
  | none => .bad:=rfl
@[simp] theorem ev_yes:mYes ρ = .ok true ρ := rfl
@[simp] theorem ev_repL {mk:M PV}:mRepL mr mk ρ = (mr ρ).bind fun ps ρ1=>if ps.length≤16777216 then (mk ρ1).bind fun q ρ2=>match q with
  | .int k=>if -(2 ^ 60)≤k∧k<2 ^ 60∧ps.length*k.toNat≤16777216 then .ok (.ow (List.replicate k.toNat ps).flatten) ρ2 else .bad
  | _ => .bad else .bad:=rfl
@[simp] theorem ev_def {mbd:M Fl} {as:List Slot}:mDef n k mbd as=if as.length=n then FR.of (mbd (startP k as)) else .bad:=rfl
@[simp] theorem ev_frr {r:RV}:FR.of (.ok (.rt r) ρ) = .ret r:=rfl
@[simp] theorem ev_frn:FR.of (.ok .nx ρ) = .ret (.sh .non):=rfl
@[simp] theorem ev_frx {x:PX}:FR.of (.exc x ρ) = .exc x:=rfl
@[simp] theorem ev_frb:FR.of .bad = .bad:=rfl
@[simp] theorem ev_start {as:List Slot}:startP k as=as++List.replicate (k-as.length) .no:=rfl
@[simp] theorem ev_anil:mANil ρ = .ok [] ρ := rfl
@[simp] theorem ev_acons {ms:M (List Slot)}:mACons ma ms ρ = (ma ρ).bind fun p ρ1=>(ms ρ1).bind fun as ρ2 => .ok (.sh p::as) ρ2:=rfl
@[simp] theorem ev_aname {ms:M (List Slot)}:mAName i ms ρ = (match (ρ[i]?).bind lendS with
  | none => .bad
  | some _=>(ms ρ).bind fun as ρ2=>match (ρ2[i]?).bind lendS with
    | some s => .ok (s::as) ρ2
    | none => .bad):=rfl
@[simp] theorem ev_lsh:lendS (.sh p)=some (.sh p):=rfl
@[simp] theorem ev_low:lendS (.ow ps)=some (.bw ps):=rfl
@[simp] theorem ev_lbw:lendS (.bw ps)=some (.bw ps):=rfl
@[simp] theorem ev_csh:capS (.sh p) = .sh p:=rfl
@[simp] theorem ev_cow:capS (.ow ps) = .bw ps:=rfl
@[simp] theorem ev_cbw:capS (.bw ps) = .bw ps:=rfl
@[simp] theorem ev_cap {js:List Nat} {nl:Nat}:capP js nl ρ = js.map (fun (j:Nat)=>capS ((ρ[j]?).getD .no))++List.replicate nl .no:=rfl
@[simp] theorem ev_itn:mIterN i ρ = (match ρ[i]? with
  | some (.bw ps) => .ok ps ρ
  | some (.sh (.lst ps)) => .ok ps ρ
  | some (.sh (.tup ps)) => .ok ps ρ
  | some (.sh (.str z)) => .ok (z.cps.toList.map fun c => .str ⟨#[c]⟩) ρ
  | some (.ow ps) => .ok ps (ρ.set i (.sh (.lst ps)))
  | _ => .bad):=rfl
@[simp] theorem ev_addI {x y:Int}:opAdd (.int x) (.int y)=some (.sh (.int (x+y))):=rfl
@[simp] theorem ev_subI {x y:Int}:opSub (.int x) (.int y)=some (.int (x-y)):=rfl
@[simp] theorem ev_mulI {x y:Int}:opMulI (.int x) (.int y)=if mulOk x y=true then some (.int (x*y)) else none:=rfl
@[simp] theorem ev_fdvI {x y:Int}:opFdv (.int x) (.int y)=if fdvOk x y=true then some (.int (x.fdiv y)) else none:=rfl
@[simp] theorem ev_modI {x y:Int}:opMod (.int x) (.int y)=if modOk x y=true then some (.int (x.fmod y)) else none:=rfl
@[simp] theorem ev_powI {x y:Int}:opPow (.int x) (.int y)=if powOk x y=true then some (.int (x ^ y.toNat)) else none:=rfl
@[simp] theorem ev_shlI {x y:Int}:opShl (.int x) (.int y)=if shlOk x y=true then some (.int (x*2 ^ y.toNat)) else none:=rfl
@[simp] theorem ev_shrI {x y:Int}:opShr (.int x) (.int y)=if shrOk x y=true then some (.int (x / 2 ^ y.toNat)) else none:=rfl
@[simp] theorem ev_negI {x:Int}:opNeg (.int x)=some (.int (-x)):=rfl
@[simp] theorem ev_ltI {x y:Int}:opLt (.int x) (.int y)=some (.bl (decide (x<y))):=rfl
@[simp] theorem ev_leI {x y:Int}:opLe (.int x) (.int y)=some (.bl (decide (x≤y))):=rfl
@[simp] theorem ev_gtI {x y:Int}:opGt (.int x) (.int y)=some (.bl (decide (y<x))):=rfl
@[simp] theorem ev_geI {x y:Int}:opGe (.int x) (.int y)=some (.bl (decide (y≤x))):=rfl
@[simp] theorem ev_eqI {x y:Int}:opEq (.int x) (.int y)=some (.bl (decide (x=y))):=by
  have h:eqB (.int x) (.int y)=decide (x=y):=by rw [eqB.eq_def];rfl
  rw [← h];rfl
@[simp] theorem ev_neI {x y:Int}:opNe (.int x) (.int y)=some (.bl (!decide (x=y))):=by
  have h:eqB (.int x) (.int y)=decide (x=y):=by rw [eqB.eq_def];rfl
  rw [← h];rfl
@[simp] theorem ev_eqB {x y:Bool}:opEq (.bl x) (.bl y)=some (.bl (x == y)):=rfl
@[simp] theorem ev_neB {x y:Bool}:opNe (.bl x) (.bl y)=some (.bl (!(x == y))):=rfl
@[simp] theorem ev_isN {p:PV}:opIs p .non=some (.bl (isN p)):=rfl
@[simp] theorem ev_notN {p:PV}:opIsNot p .non=some (.bl (!isN p)):=rfl
@[simp] theorem ev_ixL {x:Int}:opIx (.lst ps) (.int x)=atI ps x:=rfl
@[simp] theorem ev_ixT {x:Int}:opIx (.tup ps) (.int x)=atI ps x:=rfl
@[simp] theorem ev_lenL:fLen [.lst ps]=some (.int ps.length):=rfl
@[simp] theorem ev_lenT:fLen [.tup ps]=some (.int ps.length):=rfl
@[simp] theorem ev_abs {x:Int}:fAbs [.int x]=some (.int (if x<0 then -x else x)):=rfl
@[simp] theorem ev_min {x y:Int}:fMin2 [.int x,.int y]=some (.int (if y<x then y else x)):=rfl
@[simp] theorem ev_max {x y:Int}:fMax2 [.int x,.int y]=some (.int (if y>x then y else x)):=rfl
@[simp] theorem ev_listL:fList [.lst ps]=some (.ow ps):=rfl
@[simp] theorem ev_listT:fList [.tup ps]=some (.ow ps):=rfl
@[simp] theorem ev_tupL:fTuple [.lst ps]=some (.tup ps):=rfl
@[simp] theorem ev_tupT:fTuple [.tup ps]=some (.tup ps):=rfl
@[simp] theorem ev_isi {t:String}:fIsi [p,.ty t]=(isiT p t).map .bl:=rfl
@[simp] theorem ev_truB {x:Bool}:tru (.bl x)=some x:=rfl
@[simp] theorem ev_truI {x:Int}:tru (.int x)=some (x != 0):=rfl
@[simp] theorem ev_truL:tru (.lst ps)=some (!ps.isEmpty):=rfl
@[simp] theorem atI_nat' (xs:List α) (n:Nat):atI xs (n:Int)=xs[n]? := by
  unfold atI ixN
  rw [if_pos (by omega)]
  by_cases h:n<xs.length
  · rw [if_pos (by omega)]
    simp
  · rw [if_neg (by omega)]
    simp
    omega
@[simp] theorem atI_lit (xs:List α) (n:Nat):atI xs (no_index (OfNat.ofNat n):Int)=xs[(no_index (OfNat.ofNat n):Nat)]? := atI_nat' xs n
@[simp] theorem modOk_lit {x y:Int}:modOk x y=decide (y≠0):=rfl
end
theorem mul_l {x y:Int} (h1 : -(2 ^ 64)<x) (h2:x<2 ^ 64):mulOk x y=true:=by unfold mulOk;rw [decide_eq_true (by omega:x.natAbs<18446744073709551616)];rfl
theorem mul_r {x y:Int} (h1 : -(2 ^ 64)<y) (h2:y<2 ^ 64):mulOk x y=true:=by unfold mulOk;rw [decide_eq_true (by omega:y.natAbs<18446744073709551616)];simp
theorem fdv_b {x y:Int} (h1:y≠0) (h2:bits y≤8000):fdvOk x y=true:=by unfold fdvOk;simp [h1,h2]
section
variable {g:Tg} {mb:M Fl} {mc mt:M Bool} {me:M PV} {items:List PV} {ρ : PSt}
theorem compL_map {α : Type} (c f : α → PV) (I:PSt→Prop):∀ (xs:List α) (ρ : PSt) (acc:List PV),I ρ → acc.length+xs.length≤16777216 →
    (∀ x∈xs,∀ ρ,I ρ → ∃ ρ1 ρ2 ρ3,g (c x) ρ = some ρ1∧mt ρ1 = .ok true ρ2∧me ρ2 = .ok (f x) ρ3∧I ρ3)→compL g mt me (xs.map c) ρ acc=some (acc++xs.map f)
  | [],ρ,acc,_,_,_=>by simp [compL]
  | x::xs,ρ,acc,h,hz,hs=>by
    obtain ⟨ρ1,ρ2,ρ3,h1,h2,h3,h4⟩:=hs x List.mem_cons_self ρ h
    rw [List.map_cons,compL,h1]
    dsimp only
    rw [h2]
    dsimp only
    rw [h3]
    dsimp only
    rw [if_pos (by simp at hz;omega),compL_map c f I xs ρ3 (acc ++ [f x]) h4 (by simp at hz ⊢;omega) fun y hy=>hs y (List.mem_cons_of_mem _ hy)]
    simp
end
end P
namespace P
open PySem PySem.Spec PyProof.Rows L2 M2 M3 M4
def AllC (Q:String→Prop):List String→Prop
  | []=>True
  | c::cs=>Q c∧AllC Q cs
theorem AllC.get {Q:String→Prop}:∀ {cs:List String} {C:String},AllC Q cs→cs.contains C=true→Q C
  | [],_,_,h=>by simp at h
  | c::cs,C,⟨h1,h2⟩,h=>by
    by_cases e:C=c
    · rw [e];exact h1
    · refine h2.get ?_
      rw [List.contains_cons] at h
      have:(C == c)=false:=by simpa using e
      rw [this,Bool.false_or] at h
      exact h
section
variable {X:Cx} {cm:String→Addr} {K:KK} {E:L2.St→XK} {a b e o:Expr} {es:List Expr} {pos apos:Pos} {m ma mb:M PV} {f:Str}
theorem lookup_rep {F:Hp}:∀ {fs:List (Str×V)} {ps:List PV} {p:PV},RepL K F ps (fs.map (·.2))→((fs.map (·.1)).zip ps).lookup f=some p→∃ v,fs.lookup f=some v∧Rep K F p v
  | [],ps,p,_,h=>by simp at h
  | (g,v)::fs,ps,p,r,h=>by
    have r':=r.pr
    rw [List.map_cons] at r'
    cases r' with
    | cons r1 t =>
      rename_i q qs
      rw [List.map_cons,List.zip_cons_cons,List.lookup_cons] at h
      rw [List.lookup_cons]
      cases hg:f == g with
      | true =>
        simp only [hg] at h
        cases h
        exact ⟨v,rfl,r1⟩
      | false =>
        simp only [hg] at h
        exact lookup_rep (RepL.of t) h
theorem rR.ins {c:Ctx} {F H:Hp} {σ : L2.St} {ρ : PSt} {C:String} {ns:List Str} {ps:List PV} {v:V} (s:Same F H) (h:rR K c σ ρ F H (.ins C ns ps) v):∃ a dx fs,v = .ref a∧H a=some (.ins (K.cm C) dx fs)∧fs.map (·.1)=ns∧RepL K F ps (fs.map (·.2)):=by
  rcases h with h | h
  · unfold Rep at h
    obtain ⟨a,dx,fs,h1,h2,h3,h4⟩:=h
    exact ⟨a,dx,fs,h1,s _ _ h2,h3,h4⟩
  · exact h
def fldF (cs:List String) (f:Str):PV→Option PV
  | .ins C ns ps=>if cs.contains C=true then (ns.zip ps).lookup f else none
  | _=>none
theorem v_fld (cs:List String) (hcs:AllC (fun C=>Cls X.K (cm C)∧NoAttr X.K (cm C) f) cs) (he:PE X e (tR (kk X cm) E m)) (hb:attributeBase e f X.env (eval e X.env)=eval e X.env:=by rfl):PE X (.Attribute e f pos) (tV (kk X cm) E (mUn (fldF cs f) m)) :=
  PE.wk (pe_fld he hb) fun σ H Q ⟨c,F,ρ,rel,h⟩=>⟨c,F,ρ,rel,h.bind fun p ρ1 v F1 H1 rel1 _ _ r1 h1=>by
    cases p with
    | ins C ns ps =>
      unfold fldF at h1
      dsimp only at h1
      split at h1
      · rename_i hc
        obtain ⟨a,dx,fs,rfl,q2,q3,q4⟩:=r1.ins rel1.sub
        cases el:(ns.zip ps).lookup f with
        | none=>rw [el] at h1;exact h1.elim
        | some q =>
          rw [el] at h1
          subst q3
          obtain ⟨v,e1,e2⟩:=lookup_rep q4 el
          obtain ⟨k1,k2⟩:=hcs.get hc
          exact ⟨a,_,dx,fs,v,rfl,q2,k1,k2,e1,h1 v F1 H1 rel1 (Same.refl _) (Same.refl _) e2⟩
      · exact h1.elim
    | _=>exact h1.elim⟩
def MethOk (X:Cx) (cm:String→Addr) (CX:CXT) (k n:Nat) (m:Str) (C:String) (mf:MF):Prop:=Cls X.K (cm C)∧∃ f fd ps,Meth X.K (cm C) m f∧FnOk X.prog X.w X.K X.mg X.base CX k f fd ps (spP (kk X cm) n mf)∧Binds X.K fd ps [] ∧
  ∀ {ps:List Slot},(∃ r,mf ps=r∧∀ z,r=z→z ≠ .bad)→ps.length=n
def AllM (Q:String→MF→Prop):List (String×MF)→Prop
  | []=>True
  | (c,mf)::cs=>Q c mf∧AllM Q cs
theorem AllM.get {Q:String→MF→Prop}:∀ {cs:List (String×MF)} {C:String} {mf:MF},AllM Q cs→cs.lookup C=some mf→Q C mf
  | [],_,_,_,h=>by simp at h
  | (c,g)::cs,C,mf,⟨h1,h2⟩,h=>by
    rw [List.lookup_cons] at h
    cases hc:C == c with
    | true =>
      rw [hc] at h
      cases h
      have:C=c:=by simpa using hc
      rw [this];exact h1
    | false =>
      rw [hc] at h
      exact h2.get h
def mMeth (m:Str) (tbl:List (String×MF)) (mo:M PV) (ms:M (List Slot)):M RV:=fun ρ => (mo ρ).bind fun p ρ1=>match p with
  | .ins C ns ps=>match tbl.lookup C with
    | some mf=>if ns.contains m=true then .bad else (ms ρ1).bind fun as ρ2=>match mf (.sh (.ins C ns ps)::as) with
      | .ret r => .ok r ρ2
      | .exc x => .exc x ρ2
      | .bad => .bad
    | none => .bad
  | _ => .bad
theorem lookup_no {m:Str}:∀ {fs:List (Str×V)},(fs.map (·.1)).contains m=false→fs.lookup m=none
  | [],_=>rfl
  | (g,v)::fs,h=>by
    rw [List.map_cons,List.contains_cons,Bool.or_eq_false_iff] at h
    rw [List.lookup_cons,h.1]
    exact lookup_no h.2
variable {CX:CXT} {k n:Nat} {mth:Str} {tbl:List (String×MF)} {ms:M (List Slot)}
theorem meth_end {c:Ctx} {F H:Hp} {σ : L2.St} {ρ : PSt} {Q:VK} (rel:Rel (kk X cm) c F H σ ρ) (h:EndG (kk X cm) E (rO (kk X cm)) c F H σ Q (mMeth mth tbl m ms ρ)) (htbl:AllM (fun C mf=>MethOk X cm CX k n mth C mf) tbl) :
    EndG (kk X cm) E (rV (kk X cm)) c F H σ (fun x H1 => ∃ a C dx fs g fd ps mf,x = .ref a∧H1 a=some (.ins C dx fs)∧Cls X.K C∧Meth X.K C mth g∧fs.lookup mth=none∧FnOk X.prog X.w X.K X.mg X.base CX k g fd ps (spP (kk X cm) n mf)∧Binds X.K fd ps [] ∧
      tA (kk X cm) E ms σ H1 fun vs H2=>spP (kk X cm) n mf (.ref a::vs) H2 Q (E σ)) (m ρ) :=
  EndG.bind h fun p ρ1 v F1 H1 rel1 _ _ r1 h1=>by
    cases p with
    | ins C ns ps =>
      dsimp only at h1
      cases el:tbl.lookup C with
      | none=>rw [el] at h1;exact h1.elim
      | some mf =>
        rw [el] at h1
        dsimp only at h1
        split at h1
        · exact h1.elim
        · rename_i hn
          obtain ⟨k1,f,fd,qs,k2,k3,k4,k5⟩:=htbl.get el
          have r1':Rep (kk X cm) F1 (.ins C ns ps) v:=r1
          have r2:=r1'
          unfold Rep at r2
          obtain ⟨a,dx,fs,rfl,q2,q3,q4⟩:=r2
          refine ⟨a,_,dx,fs,f,fd,qs,mf,rfl,rel1.sub _ _ q2,k1,k2,lookup_no (by rw [q3];simpa using hn),k3,k4,c,F1,ρ1,rel1,EndG.bind h1 fun as ρ2 vs F2 H2 rel2 sF sH r3 h3 => ?_⟩
          exact call_end (vs:=.ref a::vs) k5 rel2 (.cons (show argOk _ _ _ (.sh _) _ from Rep.same sF _ _ r1') r3) h3
    | _=>exact h1.elim
theorem o_meth0 {pl:Sem Bool} (htbl:AllM (fun C mf=>MethOk X cm CX k n mth C mf) tbl) (hr:Room k X.A) (hx:PassesS CX X E) (he:PE X o (tV (kk X cm) E m))
    (ht:eval (.Call (.Attribute o mth apos) [] [] pos) X.env=(do
      let ov ← eval o X.env
      standAt apos.atName
      let (f,first) ← holding [ov] (getMethod ov mth pl)
      callWith pos f first (backTo pos (starEach [] X.env)) (backToKw pos (keywordEach [] X.env))):=by rfl) :
    PE X (.Call (.Attribute o mth apos) [] [] pos) (tO (kk X cm) E (mMeth mth tbl m mANil)):=by
  intro pins s σ H Q I ⟨c,F,ρ,rel,h⟩
  refine PySem.W.methodCall_KW (pl:=pl) (thn (he pins s σ H _ I ⟨c,F,ρ,rel,meth_end rel h htbl⟩) fun u s1 ⟨x,H1,I1,rx,a,C,dx,fs,g,fd,ps,mf,ex,ea,cl,k2,l,k3,k4,q⟩ => ?_) ht
  subst ex
  obtain rfl:u=Value.ref a:=rx
  refine getmeth_ok I1 ea cl k2 l ?_
  obtain ⟨c1,F1,ρ1,rel1,q⟩:=q
  exact PySem.W.callWith_K0 (first:=[.ref a]) I1.kIn k2.kp (run_fnS (us:=[.ref a]) (vs:=[.ref a]) k3 hr k4 hx I1 (.cons rfl .nil) (q [] F1 H1 rel1 (Same.refl _) (Same.refl _) .nil))
def putN (f:Str):List Str→List Str
  | [] => [f]
  | g::r=>if g=f then g::r else g::putN f r
def putP (f:Str) (p:PV):List Str→List PV→List PV
  | [],_ => [p]
  | g::r,q::qs=>if g=f then p::qs else q::putP f p r qs
  | _::_,[] => []
theorem put_rep {F:Hp} {p:PV} {y:V} (ry:Rep K F p y):∀ {fs:List (Str×V)} {ps:List PV},RepL K F ps (fs.map (·.2))→(putF f y fs).map (·.1)=putN f (fs.map (·.1))∧RepL K F (putP f p (fs.map (·.1)) ps) ((putF f y fs).map (·.2))
  | [],ps,r=>⟨rfl,RepL.cons ry RepL.nil⟩
  | (g,v)::fs,ps,r=>by
    have r':=r.pr
    rw [List.map_cons] at r'
    cases r' with
    | cons r1 t =>
      rename_i q qs
      unfold putF
      rw [List.map_cons]
      unfold putN putP
      by_cases hg:g=f
      · rw [if_pos hg,if_pos hg,if_pos hg]
        exact ⟨rfl,RepL.cons ry (RepL.of t)⟩
      · rw [if_neg hg,if_neg hg,if_neg hg]
        obtain ⟨h1,h2⟩:=put_rep ry (RepL.of t)
        exact ⟨by rw [List.map_cons,h1],RepL.cons r1 h2⟩
def mPutF (i:Nat) (cs:List String) (f:Str) (mv:M PV):M Fl:=fun ρ => (mv ρ).bind fun p ρ1=>match ρ1[i]? with
  | some (.rc C ns ps)=>if cs.contains C=true∧ns.length<1000 then .ok .nx (ρ1.set i (.rc C (putN f ns) (putP f p ns ps))) else .bad
  | _ => .bad
theorem s_putf {i:Nat} {x:Str} {px pos':Pos} (cs:List String) (hcs:AllC (fun C=>Cls X.K (cm C)∧NoAttr X.K (cm C) f) cs) (ho:PE X (.Name x px) (tVar i)) (he:PE X e (tV (kk X cm) E m)) (hs:swapsWith e (some (.Attribute (.Name x px) f pos')) pos.line X.env=pure false:=by rfl) :
    PS X (.Assign [.Attribute (.Name x px) f pos'] e pos) (tS (kk X cm) E (mPutF i cs f m)):=PS.wk (ps_fld ho he hs) fun D σ H ⟨c,F,ρ,rel,h⟩=>⟨c,F,ρ,rel,EndS.bind h fun p ρ1 y F1 H1 rel1 s1 ry h1=>by
  cases e1 : ρ1[i]? with
  | none=>rw [e1] at h1;exact h1.elim
  | some sl =>
    rw [e1] at h1
    cases sl with
    | rc C ns ps =>
      dsimp only at h1
      split at h1
      · rename_i hc
        obtain ⟨a,dx,fs,q1,q2,q3,q4,q5,q6,q7⟩:=rel1.slot i _ e1
        subst q5
        obtain ⟨k1,k2⟩:=hcs.get hc.1
        refine ⟨.ref a,at_of q1,a,_,dx,fs,rfl,q2,k1,k2,by simpa using hc.2,?_⟩
        obtain ⟨z1,z2⟩:=put_rep (f:=f) (p:=p) ry q6
        exact h1 σ F1 _ (rel1.write ⟨⟨_,e1,rfl⟩,at_of q1⟩ ⟨a,dx,_,rfl,upd_same,q3,q4,z1,z2,q7⟩) (Same.refl _)
      · exact h1.elim
    | _=>exact h1.elim⟩
inductive IR where
  | ok (ns:List Str) (ps:List PV) | exc (x:PX) | bad
abbrev MI:=List Slot→IR
def IR.of:Res Fl→IR
  | .ok .nx (.rc _ ns ps::_) => .ok ns ps
  | .exc x _ => .exc x
  | _ => .bad
def mInit (n k:Nat) (C:String) (mb:M Fl):MI:=fun as=>if as.length+1=n then IR.of (mb (.rc C [] []::startP (k-1) as)) else .bad
structure GrB (a:Addr) (F H F' H':Hp):Prop where
  h:∀ b u,b≠a→H b=some u→H' b=some u
  f:Same F F'
  sub:Same F' H'
  out:∀ b,b≠a→H b≠none→F b=none→F' b=none
def EndI (K:KK) (E:XK) (F H:Hp) (Q:VK) (a dx:Addr) (C:String):IR→Prop
  | .ok ns ps => ∀ F' H' fs,GrB a F H F' H'→H' a=some (.ins (K.cm C) dx fs)→F' a=none→fs.map (·.1)=ns→RepL K F' ps (fs.map (·.2))→Q .non H'
  | .exc x => ∀ C' d F' H',GrB a F H F' H'→RepX K F' x C' d→E C' d H'
  | .bad=>False
def spI (K:KK) (n:Nat) (C:String) (mi:MI):Sp:=fun vs H Q E => ∃ F a dx vs' as,vs = .ref a::vs'∧as.length+1=n∧H a=some (.ins (K.cm C) dx [])∧F a=none∧Same F H∧Paired (argOk K F H) as vs'∧EndI K E F H Q a dx C (mi as)
def ctxI (a dx:Addr) (C:String) (F H:Hp):Ctx:=⟨fun b=>if b=a then none else H b,F,fun b=>if b=a then none else (ctx0 F H).L b,fun a' dx' C'=>a'=a∧dx'=dx∧C'=C⟩
theorem Rel.gri {σ : L2.St} {ρ : PSt} {a dx:Addr} {C:String} {F H F' H':Hp} (r:Rel K (ctxI a dx C F H) F' H' σ ρ):GrB a F H F' H' :=
  ⟨fun b u hb e=>r.base b u (by show (if b=a then none else H b)=_;rw [if_neg hb];exact e),r.f0,r.sub,fun b hb h1 h2=>r.frz b (by show (if b=a then none else H b)≠none;rw [if_neg hb];exact h1) h2⟩
theorem Rel.startI {F H:Hp} {N:List Str} {as:List Slot} {vs:List V} {a dx:Addr} {C:String} (s:Same F H) (ha:H a=some (.ins (K.cm C) dx [])) (hF:F a=none) (h:Paired (argOk K F H) as vs) :
    Rel K (ctxI a dx C F H) F H (L2.start N (.ref a::vs)) (.rc C [] []::startP (N.length-1) as):=by
  have r0:=Rel.start (N:=N) (K:=K) s (as:=.sh (.int 0)::as) (vs:=.int 0::vs) (.cons (Rep.int (K:=K) (F:=F) (i:=0)) h)
  have est:L2.start N (.ref a::vs)=some (.ref a)::(L2.start N (.int 0::vs)).tail:=by unfold L2.start;simp
  have elen:(L2.start N (V.int 0::vs)).tail.length=(startP (N.length-1) as).length:=by
    unfold L2.start startP
    simp [Paired.length h]
    omega
  have tl:∀ i:Nat,(L2.start N (.int 0::vs)).tail[i]? = (L2.start N (.int 0::vs))[i+1]? := fun i=>by simp
  have sp:∀ i:Nat,(startP (N.length-1) as)[i]? = (startP N.length (.sh (.int 0)::as))[i+1]? := fun i=>by
    unfold startP
    simp only [List.cons_append,List.getElem?_cons_succ,List.length_cons]
    rw [show N.length-1-as.length=N.length-(as.length+1) by omega]
  have noown:∀ (i:Nat) (s':Slot),(startP (N.length-1) as)[i]? = some s'→s'.own=false:=fun i s' e=>by
    unfold startP at e
    by_cases hi:i<as.length
    · rw [List.getElem?_append_left hi] at e
      obtain ⟨v,_,h3⟩:=pr_get h e
      exact (argOk.slot h3).2
    · rw [List.getElem?_append_right (by omega),List.getElem?_replicate] at e
      split at e
      · cases e;rfl
      · cases e
  rw [est]
  refine ⟨s,fun b u e => ?_,Same.refl _,fun _ _ z=>z,fun b u e => ?_,fun b e => ?_,?_,fun i s' e => ?_,fun i j b h1 h2 => ?_⟩
  · have e':(if b=a then none else H b)=some u:=e
    split at e'
    · cases e'
    · exact e'
  · have e':(if b=a then none else (ctx0 F H).L b)=some u:=e
    split at e'
    · cases e'
    · exact ctx0_L e'
  · show (if b=a then none else (ctx0 F H).L b)=none
    have e':(if b=a then none else H b)=none:=e
    split
    · rfl
    · rename_i hb
      rw [if_neg hb] at e'
      exact r0.lb b e'
  · simp [elen]
  · cases i with
    | zero =>
      cases e
      exact ⟨a,dx,[],rfl,ha,hF,by show (if a=a then none else H a)=none;rw [if_pos rfl],rfl,RepL.nil,rfl,rfl,rfl⟩
    | succ i =>
      have e':(startP (N.length-1) as)[i]? = some s':=by simpa using e
      have q:=r0.slot (i+1) s' (by rw [← sp];exact e')
      rw [← tl] at q
      show SlotOk K (ctxI a dx C F H) F H (((some (V.ref a)::(L2.start N (.int 0::vs)).tail)[i+1]?).getD none) s'
      rw [List.getElem?_cons_succ]
      cases s' with
      | no=>trivial
      | sh p=>exact q
      | bw ps =>
        obtain ⟨b,ws,q1,q2,q3⟩:=q
        refine ⟨b,ws,q1,?_,q3⟩
        show (if b=a then none else (ctx0 F H).L b)=_
        rw [if_neg (fun z=>by
          have:=(ctx0_L q2).1
          rw [z,ha] at this
          cases this)]
        exact q2
      | ow ps=>have:=noown i _ e';cases this
      | rc C ns ps=>have:=noown i _ e';cases this
  · have at0:∀ {i},OwnsAt (some (.ref a)::(L2.start N (.int 0::vs)).tail) (Slot.rc C [] []::startP (N.length-1) as) i b→i=0:=fun {i} ⟨⟨s',q1,q2⟩,_⟩=>by
      cases i with
      | zero=>rfl
      | succ i =>
        have:=noown i s' (by simpa using q1)
        rw [this] at q2
        cases q2
    rw [at0 h1,at0 h2]
end
section
variable {P:Program} {w:World} {K:PySem.W.Frag} {cm:String→Addr} {mg:Str→Option Value} {base:Heap} {CX:CXT}
theorem fnI {x qual:Str} {st:Stmt} {f:Addr} {fd:FuncData} {N ps:List Str} {k n j:Nat} {C:String} {mb:M Fl} {mi:MI} (F:Fun K x qual st f fd) (S:FnScope N ps (defScope st)) (hn:ps.length=n) (hj:N.length=j) (hf:mi=mInit n j C mb)
    (hbody:∀ (cdv:Value) (A:Around) (outer:List Env) (s:Shared) (H:Hp) (E:XK),Room k (A.deeper (envOfC qual (defScope st) s.heap.objs.size f cdv)) →
      PSs (cxOf CX P w K mg base N qual (defScope st) f cdv A outer s H E) (defBody st) (tS ⟨K,cm⟩ (fun _=>E) mb)):FnOk P w K mg base CX (k+1) f fd ps (spI ⟨K,cm⟩ n C mi):=by
  subst hn hj hf
  obtain ⟨oc,od,kV,doc,pm,an,cdv,ct,osl,rfl,lk,hcd⟩:=F.ex
  refine fn_of lk hcd S (fun vs H Q E ⟨F,a,dx,vs',as,h1,h2,_,_,_,h3,_⟩=>by rw [h1,List.length_cons,← Paired.length h3];exact h2) fun A outer s H vs Q E hr hsp => ?_
  obtain ⟨F,a,dx,vs',as,rfl,h2,h3,h4,h5,h6,h7⟩:=hsp
  refine ⟨_,hbody cdv A outer s H E hr,ctxI a dx C F H,F,_,Rel.startI h5 h3 h4 h6,?_⟩
  unfold mInit at h7
  rw [if_pos h2] at h7
  cases e:mb (.rc C [] []::startP (N.length-1) as) with
  | bad=>rw [e] at h7;exact h7
  | exc x ρ'=>rw [e] at h7;exact fun σ' C' d F' H' rel s1 q=>h7 C' d F' H' rel.gri q
  | ok fl ρ' =>
    rw [e] at h7
    cases fl with
    | nx =>
      cases ρ' with
      | nil=>exact h7.elim
      | cons sl ρ' =>
        cases sl with
        | rc C' ns qs =>
          intro σ' F' H' rel s1
          obtain ⟨b,dy,fs,q1,q2,q3,q4,q5,q6,rfl,rfl,rfl⟩:=rel.slot 0 _ rfl
          exact h7 F' H' fs rel.gri q2 q3 q5 q6
        | _=>exact h7.elim
    | bk=>exact h7.elim
    | ct=>exact h7.elim
    | rt r=>exact h7.elim
end
def mMake (C:String) (mi:MI) (ms:M (List Slot)):M PV:=fun ρ => (ms ρ).bind fun as ρ1=>match mi as with
  | .ok ns ps => .ok (.ins C ns ps) ρ1
  | .exc x => .exc x ρ1
  | .bad => .bad
section
variable {X:Cx} {cm:String→Addr} {E:L2.St→XK} {e:Expr} {es:List Expr} {pos p:Pos} {CX:CXT} {k n:Nat} {f:Addr} {fd:FuncData} {ps:List Str} {C:String} {mi:MI} {ms:M (List Slot)} {x:Str}
theorem make_end {c:Ctx} {F1 H1:Hp} {σ : L2.St} {ρ1:PSt} {Q:VK} {as:List Slot} {vs:List V} (hlen:(∃ r,mi as=r∧∀ z,r=z→z ≠ .bad)→as.length+1=n) (rel1:Rel (kk X cm) c F1 H1 σ ρ1) (r1:Paired (argOk (kk X cm) F1 H1) as vs)
    (h:EndG (kk X cm) E (rV (kk X cm)) c F1 H1 σ Q (match mi as with | .ok ns ps => .ok (.ins C ns ps) ρ1 | .exc x => .exc x ρ1 | .bad => .bad)) :
    ∀ x dx,H1 x=none→H1 dx=none→dx≠x→spI (kk X cm) n C mi (.ref x::vs) (upd (upd H1 dx (.own x)) x (.ins (cm C) dx [])) (fun v H2=>v = .non∧Q (.ref x) H2) (E σ):=by
  intro x dx hx hdx hne
  have up:∀ b u,H1 b=some u→upd (upd H1 dx (.own x)) x (.ins (cm C) dx []) b=some u:=fun b u e=>by
    rw [upd_ne (ne_of_none e hx),upd_ne (ne_of_none e hdx)];exact e
  have grOf:∀ {F' H':Hp},GrB x F1 (upd (upd H1 dx (.own x)) x (.ins (cm C) dx [])) F' H'→Gr F1 H1 F' H':=fun {F' H'} g =>
    ⟨fun b u e=>g.h b u (ne_of_none e hx) (up b u e),g.f,g.sub,fun b hb hf=>by
      obtain ⟨u,hu⟩:∃ u,H1 b=some u:=by
        cases q:H1 b with
        | none=>exact absurd q hb
        | some u=>exact ⟨u,rfl⟩
      exact g.out b (ne_of_none hu hx) (by rw [up b u hu];intro z;cases z) hf⟩
  refine ⟨F1,x,dx,vs,as,rfl,?_,upd_same,rel1.sub.free hx,fun b u e=>up b u (rel1.sub b u e),?_,?_⟩
  · refine hlen ⟨_,rfl,fun z hz hb => ?_⟩
    rw [hz,hb] at h
    exact h
  · refine Paired.mono (fun s v hs => ?_) r1
    cases s with
    | sh p=>exact hs
    | bw qs =>
      obtain ⟨b,ws,q1,q2,q3,q4⟩:=hs
      exact ⟨b,ws,q1,up b _ q2,q3,q4⟩
    | _=>exact hs.elim
  · cases em:mi as with
    | bad=>rw [em] at h;exact h
    | exc y=>rw [em] at h;exact fun C' d F' H' g rx=>h C' d F' H' (rel1.call (grOf g)) g.f rx
    | ok ns qs =>
      rw [em] at h
      intro F' H' fs g hx' hF' hn hr
      have r2:=rel1.call (grOf g)
      have r3:=r2.freeze hx' (rel1.base.free hx) hF' (rel1.fresh hx)
      refine ⟨rfl,h _ _ H' r3 (g.f.trans (Same.upd hF')) (grOf g).h ?_⟩
      show Rep _ _ _ _
      unfold Rep
      exact ⟨x,dx,fs,rfl,upd_same,hn,RepL.same (Same.upd hF') qs _ hr⟩
theorem run_makeS {pins:List (Addr×Obj)} {σ : L2.St} {H:Hp} {s:Shared} {Q:VK} {us:List Value} {vs:List V} {sp:Sp} {C:Addr} (M:Mk X.K C f) (F:FnOk X.prog X.w X.K X.mg X.base CX k f fd ps sp) (hr:Room (k+1) X.A) (hb:Binds X.K fd ps [])
    (hx:PassesS CX X E) (I:Inv X pins σ H s) (r:Vals vs us)
    (h:∀ x dx,H x=none→H dx=none→dx≠x→sp (.ref x::vs) (upd (upd H dx (.own x)) x (.ins C dx [])) (fun v H2=>v = .non∧Q (.ref x) H2) (E σ)) :
    wpAny (model X.prog X.w) X.A (call (.ref C) us) (EP X pins σ Q) X.xe s:=by
  have hq:=h (s.heap.objs.size+1) s.heap.objs.size (I.hok.fresh (Nat.le_succ _)) (I.hok.fresh (Nat.le_refl _)) (Nat.ne_of_lt (Nat.lt_succ_self _))
  have I2:=Inv.made (C:=C) I
  have r2:Vals (V.ref (s.heap.objs.size+1)::vs) (Value.ref (s.heap.objs.size+1)::us):=.cons rfl r
  have hl:(Value.ref (s.heap.objs.size+1)::us ++ []).length=ps.length:=by
    have e:=r2.length
    rw [F.len _ _ _ _ hq] at e
    rw [List.append_nil]
    exact e.symm
  have hbd:=hb { s with heap:=(s.heap.push PySem.W.emptyDict).push (PySem.W.instObj C s.heap.objs.size) } (Value.ref (s.heap.objs.size+1)::us) I2.kIn hl
  rw [List.append_nil] at hbd
  refine wpAny_call (make_map (f:=f) I.kIn M.makes M.init (beq_iff_eq.mp M.fn) (codeAny_mono (F.run _ X.stack _ _ ⟨Value.ref (s.heap.objs.size+1)::us,[]⟩ _ _ _ (E σ) (hr.make C us []) (I2.env0.make C us []) hbd r2 hq) fun r s' hq' => ?_))
  cases r with
  | error e=>exact hx pins σ _ _ e s' I2 hq'
  | ok fl =>
    cases fl with
    | ret u =>
      obtain ⟨v,H',I3,rv,ev,q3⟩:=I2.after hq'
      subst ev
      exact ⟨rv,⟨V.ref (s.heap.objs.size+1),H',I3,rfl,q3⟩⟩
    | next=>exact False.elim hq'
    | brk=>exact False.elim hq'
    | cont=>exact False.elim hq'
theorem mInit_len {n k:Nat} {C:String} {mb:M Fl} {as:List Slot} (h:∃ r,mInit n k C mb as=r∧∀ z,r=z→z ≠ .bad):as.length+1=n:=by
  obtain ⟨r,h1,h2⟩:=h
  unfold mInit at h1
  by_cases hl:as.length+1=n
  · exact hl
  · rw [if_neg hl] at h1
    exact absurd h1.symm (fun z=>h2 .bad (by rw [← h1]) rfl)
theorem v_make (M:Mk X.K (cm C) f) (F:FnOk X.prog X.w X.K X.mg X.base CX k f fd ps (spI (kk X cm) n C mi)) (hlen:∀ {as:List Slot},(∃ r,mi as=r∧∀ z,r=z→z ≠ .bad)→as.length+1=n) (hr:Room (k+1) X.A) (hg:Gl X x) (hm:X.mg x=some (.ref (cm C))) (hb:Binds X.K fd ps []) (hx:PassesS CX X E)
    (ha:PA X (e::es) (tA (kk X cm) E ms)) (hdb:(x == ("__debug__" : Str))=false:=by decide) (he:starEach (e::es) X.env=(false,eval e X.env)::starEach es X.env:=by exact st_ns rfl) (hpl:(backTo pos (starEach es X.env)).any (·.1)=false:=by rfl) :
    PE X (.Call (.Name x p) (e::es) [] pos) (tV (kk X cm) E (mMake C mi ms)):=by
  intro pins s σ H Q I ⟨c,F',ρ,rel,h⟩
  refine wpAny_Call_Name_kw (ld_glob I hg hm ?_ hdb)
  refine PySem.W.callWith_K (h₀ := X.base) I.ok.mod.kin M.kp (thn (ha pos pins s σ H (fun vs H1 => ∀ x dx,H1 x=none→H1 dx=none→dx≠x→spI (kk X cm) n C mi (.ref x::vs) (upd (upd H1 dx (.own x)) x (.ins (cm C) dx [])) (fun v H2=>v = .non∧Q (.ref x) H2) (E σ)) I
    ⟨c,F',ρ,rel,EndG.bind h fun as ρ1 vs F1 H1 rel1 _ _ r1 h1=>make_end hlen rel1 r1 h1⟩) fun us s1 ⟨vs,H1,I1,r,q⟩=>⟨I1.kIn,?_⟩) he hpl
  exact run_makeS M F hr hb hx I1 r q
end
end P
namespace P
open PySem PySem.Spec PyProof.Rows L2 M2 M3 M4
def TrD (B:Heap) (e:Addr) (C:Value) (d:Option Addr) (fl:Value) (h:Heap):Prop :=
  ∃ oe vs T oT ts,h.get? e=some oe∧(oe.cls=C∧oe.dict=d)∧oe.data = .fields vs∧vs[1]? = some (.ref T)∧B.get? T=none∧T≠e∧h.get? T=some oT∧oT.data = .fields ts∧ts[3]? = some fl
structure Moved (h h':Heap):Prop where
  up:h.UpToSlots h'
  there:∀ b o,h.get? b=some o→∃ o',h'.get? b=some o'
theorem Moved.trans {h h1 h2:Heap} (a:Moved h h1) (b:Moved h1 h2):Moved h h2:=⟨a.up.trans b.up,fun c o e=>let ⟨o1,e1⟩:=a.there c o e;b.there c o1 e1⟩
theorem dict_mapF (o:Obj) (f:Array Value→Array Value):(o.mapFields f).dict=o.dict:=by
  obtain ⟨c,d,dt,sl⟩:=o
  cases dt<;>rfl
section
variable {M:Model} {A:Around} {E:Value→Shared→Prop} {s:Shared} {B:Heap} {env:Env} {outer:List Env} {L e:Addr} {Q:Unit→Shared→Prop}
theorem addD {oe:Obj} {vs:Array Value} {head:Value} {nxt:Bool} (hfr:A.frames=some (env::outer)) (hl:s.heap.FunFrames B (env::outer)) (hf:env.frame=some L)
    (he:s.heap.get? e=some oe) (hkb:B.StaysIn s.heap) (hen:B.get? e=none) (hd:oe.data = .fields vs) (hsz:1<vs.size)
    (k:∀ h',B.StaysIn h'→h'.FunFrames B (env::outer)→TrD B e oe.cls oe.dict (rawInt L) h'→Moved s.heap h'→Q () { s with heap:=h' }) :
    wpAny M A (do
      let a ← frameOf env
      let pl ← entryPlaceOf L nxt
      let b ← EntryCells.newEntry head a .none (rawInt L) .none pl
      setField (.ref e) 1 b) Q E s:=by
  have out:e∉(env::outer).filterMap (·.frame):=fun z=>by
    obtain ⟨_,o,ho,hn⟩:=hl.mem z
    rw [he] at ho
    cases ho
    exact hn vs hd
  refine wpAny_bind (wpAny_frameOf_fun hfr hl hf fun g1 so => ?_)
  refine wpAny_bind (wpAny_entryPlaceOf fun pl hpl => ?_)
  unfold EntryCells.newEntry newFields
  refine wpAny_bind (wpAny_newObj_type ?_ (hpl.sizeOk5 _ _ _ _ _))
  have e1:g1.get? e=some oe:=(so.2.1 e out).trans he
  have b1:B.StaysIn g1:=fun b o q=>(so.2.1 b fun z=>by
    rw [(hl.mem z).1] at q
    cases q).trans (hkb b o q)
  generalize hnw:([head,Value.ref L,.none,rawInt L,.none]++(if pl.isEmpty then List.replicate 6 Value.none else pl))=nw
  have n3:nw.toArray[3]? = some (rawInt L):=by rw [← hnw];simp
  dsimp only
  have e2:=Heap.get?_push_of_some (h:=g1) { cls:=.type "traceback",dict:=none,data:=.fields nw.toArray } e1
  refine wpAny_setField e2 hd hsz ?_
  have ne:g1.objs.size≠e:=Nat.ne_of_gt (Heap.lt_size e1)
  have d3:=Obj.data_mapFields hd (·.setIfInBounds 1 (Value.ref g1.objs.size))
  have e3:=Heap.get?_update_self (Obj.mapFields (·.setIfInBounds 1 (Value.ref g1.objs.size))) e2 (Obj.isFreed_of_fields d3)
  have kp:∀ b o,b≠e→g1.get? b=some o→((g1.push { cls:=.type "traceback",dict:=none,data:=.fields nw.toArray }).update e (Obj.mapFields (·.setIfInBounds 1 (Value.ref g1.objs.size)))).get? b=some o:=fun b o hb q=>by
    rw [Heap.get?_update_other _ _ (Ne.symm hb)]
    exact Heap.get?_push_of_some _ q
  have t3:((g1.push { cls:=.type "traceback",dict:=none,data:=.fields nw.toArray }).update e (Obj.mapFields (·.setIfInBounds 1 (Value.ref g1.objs.size)))).get? g1.objs.size=some { cls:=.type "traceback",dict:=none,data:=.fields nw.toArray }:=by
    rw [Heap.get?_update_other _ _ (Ne.symm ne)]
    exact Heap.get?_push_size g1 rfl
  have nr:∀ b o,s.heap.get? b=some o→(∀ ws,o.data ≠ .fields ws)→b≠e:=fun b o q hn z=>by
    rw [z,he] at q
    cases q
    exact hn vs hd
  refine k _ (fun b o q=>kp b o (fun z=>by rw [z,hen] at q;cases q) (b1 b o q)) (hl.of_keeps fun b o q hn => ?_) ?_ ⟨fun b o q hn => ?_,fun b o q => ?_⟩
  · obtain ⟨sl,z⟩:=so.2.2 b o q
    exact ⟨_,kp b _ (nr b o q hn) z,rfl⟩
  · exact ⟨_,_,g1.objs.size,_,_,e3,⟨Obj.cls_mapFields _ _,dict_mapF _ _⟩,d3,by simp [hsz],b1.fresh,ne,t3,rfl,n3⟩
  · obtain ⟨sl,z⟩:=so.2.2 b o q
    exact ⟨sl,kp b _ (nr b o q hn) z⟩
  · obtain ⟨sl,z⟩:=so.2.2 b o q
    by_cases hb:b=e
    · rw [hb];exact ⟨_,e3⟩
    · exact ⟨_,kp b _ hb z⟩
theorem noteNew {oe:Obj} {vs:Array Value} (hfr:A.frames=some (env::outer)) (hl:s.heap.FunFrames B (env::outer)) (hf:env.frame=some L) (he:s.heap.get? e=some oe) (hkb:B.StaysIn s.heap) (hen:B.get? e=none)
    (hd:oe.data = .fields vs) (h1:vs[1]? = some .none) (k:∀ h',B.StaysIn h'→h'.FunFrames B (env::outer)→TrD B e oe.cls oe.dict (rawInt L) h'→Moved s.heap h'→Q () { s with heap:=h' }) :
    wpAny M A (noteFrame (.ref e) env) Q E s:=by
  unfold noteFrame
  simp only [hf]
  refine wpAny_bind (wpAny_field he hd h1 ?_)
  rw [if_neg (by decide)]
  exact addD hfr hl hf he hkb hen hd (Array.getElem?_eq_some_iff.mp h1).1 k
theorem noteOn {C:Value} {d:Option Addr} (hfr:A.frames=some (env::outer)) (hl:s.heap.FunFrames B (env::outer)) (hf:env.frame=some L) (ht:TrD B e C d .none s.heap) (hkb:B.StaysIn s.heap) (hen:B.get? e=none)
    (k:∀ h',B.StaysIn h'→h'.FunFrames B (env::outer)→TrD B e C d (rawInt L) h'→Moved s.heap h'→Q () { s with heap:=h' }):wpAny M A (noteFrame (.ref e) env) Q E s:=by
  obtain ⟨oe,vs,T,oT,ts,he,⟨rfl,rfl⟩,hd,h1,hT,hTe,hT2,hdT,h3⟩:=ht
  unfold noteFrame
  simp only [hf]
  refine wpAny_bind (wpAny_field he hd h1 ?_)
  rw [if_pos (show (Value.ref T != Value.none)=true by simp)]
  refine wpAny_bind (wpAny_field hT2 hdT h3 ?_)
  rw [if_neg (show ¬ ((Value.none == rawInt L)=true) by simp [rawInt])]
  refine wpAny_bind (wpAny_setField hT2 hdT (Array.getElem?_eq_some_iff.mp h3).1 ?_)
  have oth:∀ b,b≠T→(s.heap.update T (Obj.mapFields (·.setIfInBounds 3 Value.none))).get? b=s.heap.get? b:=fun b hb=>Heap.get?_update_other _ _ (Ne.symm hb)
  have nr:∀ b o,s.heap.get? b=some o→(∀ ws,o.data ≠ .fields ws)→b≠T:=fun b o q hn z=>by
    rw [z,hT2] at q
    cases q
    exact hn ts hdT
  refine addD hfr (hl.of_keeps fun b o q hn=>⟨o,(oth b (nr b o q hn)).trans q,rfl⟩) hf ((oth e (Ne.symm hTe)).trans he) (fun b o q=>(oth b fun z=>by rw [z,hT] at q;cases q).trans (hkb b o q)) hen hd (Array.getElem?_eq_some_iff.mp h1).1
    fun h' x1 x2 x3 x4=>k h' x1 x2 x3 (Moved.trans ⟨fun b o q hn=>⟨o.slots,(oth b (nr b o q hn)).trans q⟩,fun b o q => ?_⟩ x4)
  by_cases hb:b=T
  · rw [hb];exact ⟨_,Heap.get?_update_self _ hT2 (Obj.isFreed_of_fields (Obj.data_mapFields hdT _))⟩
  · exact ⟨o,(oth b hb).trans q⟩
theorem flightD {C fl:Value} {d:Option Addr} {l:List Env} (hkb:B.StaysIn s.heap) (hl:s.heap.FunFrames B l) (ht:TrD B e C d fl s.heap)
    (k:∀ h',B.StaysIn h'→h'.FunFrames B l→TrD B e C d .none h'→Moved s.heap h'→Q () { s with heap:=h' }):wpAny M A (setFlight (.ref e) none) Q E s:=by
  obtain ⟨oe,vs,T,oT,ts,he,hc,hd,h1,hT,hTe,hT2,hdT,h3⟩:=ht
  have z3:3<ts.size:=(Array.getElem?_eq_some_iff.mp h3).1
  have oth:∀ b,b≠T→(s.heap.update T (Obj.mapFields (·.setIfInBounds 3 ((none:Option Addr).elim Value.none fun f=>rawInt f)))).get? b=s.heap.get? b:=fun b hb=>Heap.get?_update_other _ _ (Ne.symm hb)
  have nr:∀ b o,s.heap.get? b=some o→(∀ ws,o.data ≠ .fields ws)→b≠T:=fun b o q hn z=>by
    rw [z,hT2] at q
    cases q
    exact hn ts hdT
  unfold setFlight
  refine wpAny_bind (wpAny_field he hd h1 ?_)
  rw [if_pos (show (Value.ref T != Value.none)=true by simp)]
  refine wpAny_setField hT2 hdT z3 (k _ (fun b o q=>(oth b fun z=>by rw [z,hT] at q;cases q).trans (hkb b o q)) (hl.of_keeps fun b o q hn=>⟨o,(oth b (nr b o q hn)).trans q,rfl⟩) ?_ ⟨fun b o q hn=>⟨o.slots,(oth b (nr b o q hn)).trans q⟩,fun b o q => ?_⟩)
  rotate_left
  · by_cases hb:b=T
    · rw [hb];exact ⟨_,Heap.get?_update_self _ hT2 (Obj.isFreed_of_fields (Obj.data_mapFields hdT _))⟩
    · exact ⟨o,(oth b hb).trans q⟩
  exact ⟨oe,vs,T,_,_,(oth e (Ne.symm hTe)).trans he,hc,hd,h1,hT,hTe,Heap.get?_update_self _ hT2 (Obj.isFreed_of_fields (Obj.data_mapFields hdT _)),Obj.data_mapFields hdT _,by simp [z3]⟩
end
theorem ob_there {P:Program} {w:World} {H:Hp} {h:Heap} {a:Addr} {o:HO} (x:ObjOk P w H h a o):∃ ob,h.get? a=some ob:=by
  cases o with
  | lst xs=>obtain ⟨_,_,_,_,e⟩:=x;exact ⟨_,e⟩
  | tup xs=>obtain ⟨_,_,_,ob,e,_⟩:=x;exact ⟨_,e⟩
  | dK kvs=>obtain ⟨_,_,_,_,ob,_,_,e,_⟩:=x;exact ⟨_,e⟩
  | dT kvs=>obtain ⟨_,_,_,_,ob,_,_,e,_⟩:=x;exact ⟨_,e⟩
  | set S n=>obtain ⟨ob,_,_,_,e,_⟩:=x;exact ⟨_,e⟩
  | ins C dx fs=>obtain ⟨_,_,_,e,_⟩:=x;exact ⟨_,e⟩
  | own y=>exact x
  | xd fs=>obtain ⟨_,⟨ob,_,_,e,_⟩,_⟩:=x;exact ⟨_,e⟩
  | rng lo hi=>obtain ⟨_,_,_,e⟩:=x;exact ⟨_,e⟩
  | frz ob u=>obtain ⟨e,_⟩:=x;exact ⟨_,e⟩
  | tbl ps=>exact ⟨_,(show h.get? a=some _ from x)⟩
  | met f y=>exact ⟨_,(show h.get? a=some _ from x)⟩
  | ext φ => obtain ⟨_,e,_⟩:=x;exact e
theorem HOk.sub {P:Program} {w:World} {H:Hp} {h B:Heap} (x:HOk P w H h) (k:∀ b o u,H b=some u→h.get? b=some o→B.get? b=some o):HOk P w H B:=fun a o e =>
  (x a o e).stay (fun b u hb q=>by
    rcases hb with rfl | hb
    · exact k _ _ _ e q
    · exact k _ _ _ hb q) (fun _ q=>q) fun _ _ q=>q
structure UnX (fs:List Addr) (H H':Hp) (h B h':Heap):Prop where
  keep:∀ b o,h.get? b=some o→H b=none→b∉fs→B.get? b=some o
  slot:∀ b o,h.get? b=some o→H b=none→b∈fs→∃ sl,h'.get? b=some { o with slots:=sl }
  free:∀ b o,h.get? b=some o→H b=none→H' b=none
  there:∀ b o,h.get? b=some o→∃ o',h'.get? b=some o'
  tups:∀ b xs,H b=some (.tup xs)→H' b=some (.tup xs)
  frzs:∀ b o u,H b=some (.frz o u)→H' b=some (.frz o u)
  tbls:∀ b ps,H b=some (.tbl ps)→∃ more,H' b=some (.tbl (ps++more))
structure Lies (P:Program) (w:World) (outer:List Env) (H:Hp) (s:Shared) (ea:Addr) (C:Value) (d:Option Addr) (fl:Value) (H':Hp) (B:Heap) (s':Shared):Prop where
  os:s'.os=s.os
  bare:AllBare s'.gens
  st:B.StaysIn s'.heap
  en:B.get? ea=none
  fr:s'.heap.FunFrames B outer
  tr:TrD B ea C d fl s'.heap
  hok:HOk P w H' B
  un:UnX (frs outer) H H' s.heap B s'.heap
  no:H' ea=none
  new:s.heap.get? ea=none
def CXE (P:Program) (w:World):CXT:=fun outer H s E e s' => ∃ ea C d H' B,e = .ref ea∧Lies P w outer H s ea C d .none H' B s'∧E C d H'
theorem cxe_false {P:Program} {w:World} {outer:List Env} {H:Hp} {s s':Shared} {e:Value} (h:CXE P w outer H s (fun _ _ _=>False) e s'):False:=by
  obtain ⟨_,_,_,_,_,_,_,h⟩:=h
  exact h
theorem passEF {P:Program} {w:World} {X:Cx}:PassesS (CXE P w) X EF:=fun _ _ _ _ _ _ _ h=>(cxe_false h).elim
section
variable {P:Program} {w:World} {K:PySem.W.Frag} {mg:Str→Option Value} {base:Heap} {N:List Str} {qual:Str} {scope:Scope} {f:Addr} {cdv:Value} {A:Around} {outer:List Env} {s₀ : Shared} {H₀ : Hp} {E:XK}
theorem passE:PassesS (CXE P w) (cxOf (CXE P w) P w K mg base N qual scope f cdv A outer s₀ H₀ E) (fun _=>E):=by
  intro pins σ H s e s' I h
  obtain ⟨ea,C,d,H',B,rfl,l,hE⟩:=h
  have hfr:(A.deeper (envOfC qual scope s₀.heap.objs.size f cdv)).frames=some (envOfC qual scope s₀.heap.objs.size f cdv::outer):=I.ok.frames
  show wpAny _ _ (leaving _ _) _ _ s'
  unfold leaving
  refine wpAny_bind (noteOn hfr l.fr rfl l.tr l.st l.en fun h1 x1 x2 x3 x4 => ?_)
  refine flightD (s:={ s' with heap:=h1 }) x1 x2 x3 fun h2 y1 y2 y3 y4 => ?_
  obtain ⟨_,_,y2'⟩:=y2
  have mv:=x4.trans y4
  have neL:∀ b o,s₀.heap.get? b=some o→b∉frs outer→b∉frs (envOfC qual scope s₀.heap.objs.size f cdv::outer):=fun b o q hb z=>by
    rcases List.mem_cons.mp (show b∈s₀.heap.objs.size::frs outer from z) with z | z
    · exact absurd (Heap.lt_size q) (by rw [z];exact Nat.lt_irrefl _)
    · exact hb z
  have inL:∀ b,b∈frs outer→b∈frs (envOfC qual scope s₀.heap.objs.size f cdv::outer):=fun b z=>List.mem_cons_of_mem _ z
  refine ⟨ea,C,d,H',B,rfl,⟨l.os.trans I.os,l.bare,y1,l.en,y2',y3,l.hok,⟨fun b o q n hb => ?_,fun b o q n hb => ?_,fun b o q n => ?_,fun b o q => ?_,fun b xs q=>l.un.tups b xs (I.base.tups b xs q),fun b o u q=>l.un.frzs b o u (I.base.frzs b o u q),fun b ps q => ?_⟩,l.no,?_⟩,hE⟩
  · exact l.un.keep b o (I.base.keep b o q n hb (by simp [cxOf])) (I.base.free b o q n (by simp [cxOf])) (neL b o q hb)
  · obtain ⟨sl,q1⟩:=I.base.slot b o q n hb (by simp [cxOf])
    obtain ⟨sl2,q2⟩:=l.un.slot b _ q1 (I.base.free b o q n (by simp [cxOf])) (inL b hb)
    have nf:∀ vs,o.data ≠ .fields vs:=by
      obtain ⟨_,o',q3,hn⟩:=l.fr.mem (inL b hb)
      rw [q2] at q3
      cases q3
      exact hn
    obtain ⟨sl3,q3⟩:=mv.up b _ q2 nf
    exact ⟨sl3,q3⟩
  · obtain ⟨o1,q1⟩:=I.base.there b o q (by simp [cxOf])
    exact l.un.free b o1 q1 (I.base.free b o q n (by simp [cxOf]))
  · obtain ⟨o1,q1⟩:=I.base.there b o q (by simp [cxOf])
    obtain ⟨o2,q2⟩:=l.un.there b o1 q1
    exact mv.there b o2 q2
  · obtain ⟨m1,e1⟩:=I.base.tbls b ps q
    obtain ⟨m2,e2⟩:=l.un.tbls b _ e1
    exact ⟨m1++m2,by rw [e2,Array.append_assoc]⟩
  · cases q:s₀.heap.get? ea with
    | none=>rfl
    | some o =>
      obtain ⟨o1,q1⟩:=I.base.there ea o q (by simp [cxOf])
      rw [l.new] at q1
      cases q1
theorem raiseE {pins:List (Addr×Obj)} {σ : L2.St} {H:Hp} {s:Shared} {e:Addr} {oe:Obj} {vs:Array Value} (I:Inv (cxOf (CXE P w) P w K mg base N qual scope f cdv A outer s₀ H₀ E) pins σ H s)
    (he:s.heap.get? e=some oe) (hd:oe.data = .fields vs) (h1:vs[1]? = some .none) (hn:H e=none) (hnew:s₀.heap.get? e=none) (hE:E oe.cls oe.dict H) :
    (cxOf (CXE P w) P w K mg base N qual scope f cdv A outer s₀ H₀ E).xe (.ref e) s:=by
  have hfr:(A.deeper (envOfC qual scope s₀.heap.objs.size f cdv)).frames=some (envOfC qual scope s₀.heap.objs.size f cdv::outer):=I.ok.frames
  have st:s.heap.FunFrames base (envOfC qual scope s₀.heap.objs.size f cdv::outer):=I.stack
  have nof:e∉frs (envOfC qual scope s₀.heap.objs.size f cdv::outer):=fun z=>by
    obtain ⟨_,o,q,hn⟩:=st.mem z
    rw [he] at q
    cases q
    exact hn vs hd
  have hin:∀ env∈(envOfC qual scope s₀.heap.objs.size f cdv::outer),∀ a,env.frame=some a→a∈e::frs (envOfC qual scope s₀.heap.objs.size f cdv::outer):=fun env h1 a h2=>List.mem_cons_of_mem _ (List.mem_filterMap.mpr ⟨env,h1,h2⟩)
  have hl:s.heap.FunFrames (PySem.W.hideAll s.heap (e::frs (envOfC qual scope s₀.heap.objs.size f cdv::outer))) (envOfC qual scope s₀.heap.objs.size f cdv::outer):=PySem.W.funFrames_hide st hin
  have hB:∀ b o,s.heap.get? b=some o→b≠e→b∉frs (envOfC qual scope s₀.heap.objs.size f cdv::outer)→(PySem.W.hideAll s.heap (e::frs (envOfC qual scope s₀.heap.objs.size f cdv::outer))).get? b=some o:=fun b o q h1 h2 =>
    PySem.W.hideAll_get _ q fun z=>(List.mem_cons.mp z).elim h1 h2
  have neL:∀ b o,s₀.heap.get? b=some o→b∉frs outer→b∉frs (envOfC qual scope s₀.heap.objs.size f cdv::outer):=fun b o q hb z=>by
    rcases List.mem_cons.mp (show b∈s₀.heap.objs.size::frs outer from z) with z | z
    · exact absurd (Heap.lt_size q) (by rw [z];exact Nat.lt_irrefl _)
    · exact hb z
  have ne0:∀ b o,s₀.heap.get? b=some o→b≠e:=fun b o q z=>by rw [z,hnew] at q;cases q
  have kb:(PySem.W.hideAll s.heap (e::frs (envOfC qual scope s₀.heap.objs.size f cdv::outer))).StaysIn s.heap:=fun b o q=>PySem.W.of_hideAll _ q
  have en:(PySem.W.hideAll s.heap (e::frs (envOfC qual scope s₀.heap.objs.size f cdv::outer))).get? e=none:=PySem.W.hideAll_none _ List.mem_cons_self
  show wpAny _ _ (leaving _ _) _ _ s
  unfold leaving
  refine wpAny_bind (noteNew hfr hl rfl he kb en hd h1 fun g1 x1 x2 x3 x4 => ?_)
  refine flightD (s:={ s with heap:=g1 }) x1 x2 x3 fun g2 y1 y2 y3 y4 => ?_
  obtain ⟨_,_,y2'⟩:=y2
  have mv:=x4.trans y4
  refine ⟨e,oe.cls,oe.dict,H,_,rfl,⟨I.os,I.bare,y1,en,y2',y3,?_,⟨fun b o q n hb => ?_,fun b o q n hb => ?_,fun b o q n => ?_,fun b o q => ?_,I.base.tups,I.base.frzs,I.base.tbls⟩,hn,hnew⟩,hE⟩
  · refine HOk.sub I.hok fun b o u hu q=>hB b o q (fun z=>by rw [z,hn] at hu;cases hu) fun z => ?_
    have:=I.stkFree b z
    rw [hu] at this
    cases this
  · exact hB b o (I.base.keep b o q n hb (by simp [cxOf])) (ne0 b o q) (neL b o q hb)
  · obtain ⟨sl,q1⟩:=I.base.slot b o q n hb (by simp [cxOf])
    have nf:∀ vs,o.data ≠ .fields vs:=by
      obtain ⟨_,o',q3,hn⟩:=st.mem (List.mem_cons_of_mem _ hb)
      rw [q1] at q3
      cases q3
      exact hn
    obtain ⟨sl3,q3⟩:=mv.up b _ q1 nf
    exact ⟨sl3,q3⟩
  · exact I.base.free b o q n (by simp [cxOf])
  · obtain ⟨o1,q1⟩:=I.base.there b o q (by simp [cxOf])
    exact mv.there b o1 q1
end
end P
namespace P
open PySem PySem.Spec PyProof.Rows L2 M2 M3 M4
abbrev bmV:List Value:=[.type "ValueError",.type "Exception",.type "BaseException",.type "object"]
abbrev nwV:String := "ValueError.__new__"
section
variable {K:PySem.W.Frag} {h:Heap} {C:Addr} {bmB:List Value} {newId:String}
theorem excObj (X:K.In h) (q:PySem.W.excIn K C bmB newId=true) :
    ∃ bm N nm qn bs hd sn sub ab col dd k0 k1 k2 k3 k5 mN,h.get? C=some (excClassObj nm qn C N bs bm hd sn sub ab col dd k0 k1 k2 k3 k5 newId)∧h.Ns N mN∧mN "__init__" = none∧OwnTail h bmB bm:=by
  unfold PySem.W.excIn at q
  split at q
  case h_2=>cases q
  rename_i dd cd sl ho
  split at q
  case h_2=>cases q
  rename_i C1 bm k0 k1 k2 k3 n1 k5 e1 e2
  simp only [Bool.and_eq_true,beq_iff_eq,Bool.not_eq_true'] at q
  obtain ⟨⟨⟨⟨⟨z1,z2⟩,z3⟩,z4⟩,z5⟩,z6⟩:=q
  subst z1 z2
  obtain ⟨nm,bs,mro,ns,qn,hd,sn,sub,ab,col,del⟩:=cd
  dsimp only at e1 z3 z5 z6
  subst e1 z3
  obtain ⟨sll⟩:=sl
  dsimp only at e2
  subst e2
  exact ⟨bm,ns,nm,qn,bs,hd,sn,sub,ab,col,dd,k0,k1,k2,k3,k5,_,X _ _ ho,.of_isNs (PySem.W.isNs_of_in X z5),PySem.W.nsMap_none_of_in X z5 z6,PySem.W.tail_of_in X z4⟩
end
def RaisesS (X:Cx) (E:L2.St→XK):Prop:=∀ (pins:List (Addr×Obj)) (σ : L2.St) (H:Hp) (s:Shared) (e:Addr) (oe:Obj) (vs:Array Value),Inv X pins σ H s→s.heap.get? e=some oe→oe.data = .fields vs→vs[1]? = some .none→H e=none →
  X.s₀.heap.get? e=none→E σ oe.cls oe.dict H→X.xe (.ref e) s
theorem raisesD {P:Program} {w:World} {K:PySem.W.Frag} {mg:Str→Option Value} {base:Heap} {N:List Str} {qual:Str} {scope:Scope} {f:Addr} {cdv:Value} {A:Around} {outer:List Env} {s₀ : Shared} {H₀ : Hp} {E:XK} :
    RaisesS (cxOf (CXE P w) P w K mg base N qual scope f cdv A outer s₀ H₀ E) (fun _=>E):=fun _ _ _ _ _ _ _ I he hd h1 hn hnew hE=>raiseE I he hd h1 hn hnew hE
def mRaise (C:String):M Fl:=fun ρ => .exc ⟨C,[],[]⟩ ρ
section
variable {X:Cx} {cm:String→Addr} {E:L2.St→XK} {x:Str} {C:String} {np cpos pos:Pos}
theorem none_in {P:Program} {w:World} {H:Hp} {h:Heap} {e:Addr} (k:HOk P w H h) (q:h.get? e=none):H e=none:=by
  cases z:H e with
  | none=>rfl
  | some u =>
    obtain ⟨o,ho⟩:=ob_there (k e u z)
    rw [q] at ho
    cases ho
theorem Inv.new0 {pins:List (Addr×Obj)} {σ : L2.St} {H:Hp} {s:Shared} {e:Addr} (I:Inv X pins σ H s) (hex:X.ex = []) (q:s.heap.get? e=none):X.s₀.heap.get? e=none:=by
  cases z:X.s₀.heap.get? e with
  | none=>rfl
  | some o =>
    obtain ⟨o1,q1⟩:=I.base.there e o z (by rw [hex];simp)
    rw [q] at q1
    cases q1
theorem s_raise0 (hc:X.calm=true) (hex:X.ex = []) (hr:RaisesS X E) (hg:Gl X x) (hm:X.mg x=some (.ref (cm C))) (q:PySem.W.excIn X.K (cm C) bmV nwV=true) (hdb:(x == ("__debug__" : Str))=false:=by decide) :
    PS X (.Raise (some (.Call (.Name x np) [] [] cpos)) none pos) (tS (kk X cm) E (mRaise C)):=by
  intro pins s σ H D I ⟨c,F,ρ,rel,h⟩
  obtain ⟨bm,N,nm,qn,bs,hd,sn,sub,ab,col,dd,k0,k1,k2,k3,k5,mN,hC,hN,hni,T⟩:=excObj I.kIn q
  refine wpAny_Raise_call_subT (C:=cm C) (nm:=nm) (q:=qn) (N:=N) (bs:=bs) (bm:=bm) (hdct:=hd) (sn:=sn) (sub:=sub) (ab:=ab) (col:=col) (dd:=dd) (k0:=k0) (k1:=k1) (k2:=k2) (k3:=k3) (k5:=k5)
    PySem.F.excBase_ValueError (mN:=mN) (T.hasType (by decide)) (I.ok.hd hc) rfl hni (ld_glob I hg hm ⟨rfl,?_⟩ hdb)
  refine evalArgs_empty ⟨rfl,Nat.zero_le _,hC,hN,T,fun h' e hx => ?_⟩
  obtain ⟨t,he,_,_⟩:=hx.there
  have I2:Inv X pins σ H { s with heap:=h' }:=I.kept (t':=s.toks) hx.keeps
  exact hr pins σ H _ e _ _ I2 he rfl rfl (none_in I.hok hx.new) (Inv.new0 I hex hx.new) (h σ _ _ F H rel (Same.refl _) ⟨rfl,[],.inl ⟨rfl,rfl⟩,rfl,RepL.nil⟩)
end
section
variable {M:Model} {A:Around} {E:Value→Shared→Prop} {s:Shared} {K:PySem.W.Frag} {e C D:Addr} {oe:Obj} {b:Bool} {Q:Bool→Shared→Prop}
end
section
variable {X:Cx} {pins:List (Addr×Obj)} {σ : L2.St} {H:Hp} {s:Shared} {xe:Value→Shared→Prop}
end
end P
namespace P
open PySem PySem.Spec PyProof.Rows L2 M2 M3 M4
abbrev MH:=PX→PSt→Res Fl
def mHandAs (i:Nat) (yes no:List String) (mh:M Fl) (rest:MH):MH:=fun x ρ => if yes.contains x.C=true then (match mh (ρ.set i (.sh (.xc x.C x.ns x.ps))) with
  | .ok f ρ2 => .ok f (ρ2.set i .no)
  | _ => .bad) else if no.contains x.C=true then rest x ρ else .bad
def mHand (yes no:List String) (mh:M Fl) (rest:MH):MH:=fun x ρ => if yes.contains x.C=true then (match mh ρ with
  | .ok f ρ2 => .ok f ρ2
  | _ => .bad) else if no.contains x.C=true then rest x ρ else .bad
def mTry (mb:M Fl) (mh:MH):M Fl:=fun ρ => match mb ρ with
  | .exc x ρ1=>mh x ρ1
  | r=>r
section
variable {X:Cx} {cm:String→Addr} {E:L2.St→XK} {pins:List (Addr×Obj)} {σ : L2.St} {H Hc:Hp} {s sc:Shared} {ea:Addr} {C:Value} {d:Option Addr} {B:Heap}
variable {y n:Str} {Dn:String} {i:Nat} {yp hpos:Pos} {b₀ : Stmt} {suite:List Stmt} {rest:List ExceptHandler} {yes no:List String} {mh:M Fl} {mr:MH}
end
end P
namespace P
open PySem PySem.Spec PyProof.Rows L2 M2 M3 M4 Builtin Builtin.ObjectAttr
def xclsIn (K:PySem.W.Frag) (C:Addr):Bool:=match K.lookup C with
  | some ⟨.type "type",_,.cls cd,sl⟩=>(match cd.mro,sl.toList with
    | .ref C'::bm,[_,_,_,_,some (.builtin n),_]=>C' == C && n == nwV && !cd.hasDel && cd.hasDict && PySem.W.tailIn K bmV bm && PySem.W.findIn K (.ref C) "__setattr__" == some (some (.builtin "object.__setattr__")) &&
        PySem.W.findIn K (.ref C) "__getattribute__" == some (some (.builtin "BaseException.__getattribute__")) && PySem.W.findIn K (.ref C) "__getattr__" == some none
    | _,_=>false)
  | _=>false
structure XCls (K:PySem.W.Frag) (C:Addr) (cd:ClassData) (bm:List Value):Prop where
  at_:∃ dd k0 k1 k2 k3 k5,K.lookup C=some ⟨.type "type",dd,.cls cd,#[k0,k1,k2,k3,some (.builtin nwV),k5]⟩
  mro:cd.mro = .ref C::bm
  del:cd.hasDel=false
  dict:cd.hasDict=true
  tail:PySem.W.tailIn K bmV bm=true
  sa:PySem.W.findIn K (.ref C) "__setattr__" = some (some (.builtin "object.__setattr__"))
  ga:PySem.W.findIn K (.ref C) "__getattribute__" = some (some (.builtin "BaseException.__getattribute__"))
  gg:PySem.W.findIn K (.ref C) "__getattr__" = some none
theorem xcls_of {K:PySem.W.Frag} {C:Addr} (q:xclsIn K C=true):∃ cd bm,XCls K C cd bm:=by
  unfold xclsIn at q
  split at q
  case h_2=>cases q
  rename_i dd cd sl ho
  split at q
  case h_2=>cases q
  rename_i C1 bm k0 k1 k2 k3 n1 k5 e1 e2
  simp only [Bool.and_eq_true,beq_iff_eq,Bool.not_eq_true'] at q
  obtain ⟨⟨⟨⟨⟨⟨⟨z1,z2⟩,z3⟩,z4⟩,z5⟩,z6⟩,z7⟩,z8⟩:=q
  subst z1 z2
  obtain ⟨sll⟩:=sl
  dsimp only at e2
  subst e2
  exact ⟨cd,bm,⟨dd,k0,k1,k2,k3,k5,ho⟩,e1,z3,z4,z5,z6,z7,z8⟩
section
variable {K:PySem.W.Frag} {h:Heap} {C:Addr} {cd:ClassData} {bm:List Value}
theorem XCls.cls (x:XCls K C cd bm):PySem.W.clsIn K C=some cd:=by
  obtain ⟨_,_,_,_,_,_,e⟩:=x.at_
  unfold PySem.W.clsIn
  rw [e]
theorem tail_has {T:String} (hT:bmV.contains (.type T)=true):∀ {l:List Value},PySem.W.tailIn K bmV l=true→l.contains (.type T)=true
  | [],e=>by cases (show (bmV == [])=true from e)
  | v::r,e=>by
    unfold PySem.W.tailIn at e
    rcases Bool.or_eq_true_iff.mp e with q | q
    · rw [beq_iff_eq.mp q];exact hT
    · split at q
      · split at q
        · simp only [Bool.and_eq_true,beq_iff_eq] at q
          rw [List.contains_cons,tail_has hT q.2,Bool.or_true]
        · cases q
      · cases q
theorem XCls.mroIs (x:XCls K C cd bm) {T:String} (hT:bmV.contains (.type T)=true):PySem.W.mroIn K C (.type T)=some true:=by
  unfold PySem.W.mroIn
  rw [x.cls,Option.bind_some,if_neg (by rw [x.mro];simp),x.mro,List.contains_cons,tail_has hT x.tail,Bool.or_true]
end
section
variable {prog:Program} {w:World} {A:Around} {E:Value→Shared→Prop} {h:Heap} {g:Array GenState} {d:Drawn} {t:Nat} {os:OsState}
variable {nm q:Str} {C N:Addr} {bs bm bmB:List Value} {hdct:Bool} {sn:List Str} {sub:List Value} {ab:Bool} {col:Option Bool} {dd:Option Addr} {k0 k1 k2 k3 k5:Option Value} {B newId initId:String}
end
section
variable {prog:Program} {w:World} {A:Around} {E:Value→Shared→Prop} {s:Shared} {K:PySem.W.Frag} {x C:Addr} {cd:ClassData} {bm:List Value} {ox:Obj} {od:Option Obj} {name:Str} {v:Value}
end
end P
namespace P
open PySem PySem.Spec PyProof.Rows L2 M2 M3 M4
section
variable {X:Cx} {pins:List (Addr×Obj)} {σ : L2.St} {H:Hp} {s:Shared} {a C:Addr} {cd:ClassData} {bm:List Value} {d:Option Addr} {fs:List (Str×V)} {f:Str} {y:V} {u:Value} {A:Around} {E:Value→Shared→Prop}
variable {o value:Expr} {pos pos':Pos} {j:Nat} {ss:List Stmt} {r:List (Str×Nat)}
end
section
variable {P:Program} {w:World} {K:PySem.W.Frag} {mg:Str→Option Value} {base:Heap} {CX:CXT}
end
def xiP:List (Str×Nat)→List PV→List Str→List PV→Option (List Str×List PV)
  | [],_,ns,qs=>some (ns,qs)
  | (_,0)::_,_,_,_=>none
  | (f,j+1)::r,ps,ns,qs=>match ps[j]? with
    | some p=>xiP r ps (putN f ns) (putP f p ns qs)
    | none=>none
def mXMake (C:String) (n:Nat) (fl:List (Str×Nat)) (ms:M (List PV)):M PV:=fun ρ => (ms ρ).bind fun ps ρ1=>if ps.length+1=n∧ps.length<1000∧fl.length<1000 then (match xiP fl ps [] [] with
  | some (ns,qs) => .ok (.xc C ns qs) ρ1
  | none => .bad) else .bad
def mXRaise (C:String) (n:Nat) (fl:List (Str×Nat)) (ms:M (List PV)):M Fl:=fun ρ => (ms ρ).bind fun ps ρ1=>if ps.length+1=n∧ps.length<1000∧fl.length<1000 then (match xiP fl ps [] [] with
  | some (ns,qs) => .exc ⟨C,ns,qs⟩ ρ1
  | none => .bad) else .bad
section
variable {X:Cx} {cm:String→Addr} {E:L2.St→XK} {e:Expr} {es:List Expr} {pos p:Pos} {CX:CXT} {k n:Nat} {f:Addr} {fd:FuncData} {ps:List Str} {C:String} {fl:List (Str×Nat)} {ms:M (List PV)} {x:Str}
def mXMake0 (C:String):M PV:=fun ρ => .ok (.xc C [] []) ρ
end
section
variable {M:Model} {A:Around} {E:Value→Shared→Prop} {s:Shared} {K:PySem.W.Frag} {env:Env}
end
section
variable {X:Cx} {cm:String→Addr} {E:L2.St→XK} {e:Expr} {es:List Expr} {pos cpos np:Pos} {CX:CXT} {k n:Nat} {f:Addr} {fd:FuncData} {ps:List Str} {C:String} {fl:List (Str×Nat)} {ms:M (List PV)} {x:Str}
end
end P
namespace P
open PySem PySem.Spec PyProof.Rows L2 M2 M3 M4 Builtin Builtin.ObjectAttr
def xisIn (K:PySem.W.Frag) (C:Addr):Bool:=xclsIn K C && PySem.W.findIn K (.ref C) "__class__" == some (some (.builtin "object.__class__")) && PySem.W.specialIn K (.builtin "object.__class__") "__get__" == some (some (.builtin "getset_descriptor.__get__")) && PySem.W.takesIn K (.builtin "object.__class__") == some true
theorem xisIn_of {K:PySem.W.Frag} {C:Addr} (q:xisIn K C=true):xclsIn K C=true∧PySem.W.findIn K (.ref C) "__class__" = some (some (.builtin "object.__class__"))∧PySem.W.specialIn K (.builtin "object.__class__") "__get__" = some (some (.builtin "getset_descriptor.__get__"))∧PySem.W.takesIn K (.builtin "object.__class__")=some true:=by
  unfold xisIn at q
  simp only [Bool.and_eq_true,beq_iff_eq] at q
  obtain ⟨⟨⟨z1,z2⟩,z3⟩,z4⟩:=q
  exact ⟨z1,z2,z3,z4⟩
section
variable {prog:Program} {w:World} {A:Around} {E:Value→Shared→Prop} {s:Shared} {K:PySem.W.Frag} {x C:Addr} {ox:Obj} {od:Option Obj}
theorem xga_cls {R:Result→Shared→Prop} {tk:Tok} (X:K.In s.heap) (I:PySem.W.InstAt s.heap x ox C od) (q:xisIn K C=true)
    (h:R (.ok (.ret (.ref C))) s):codeAny (model prog w) A (.call (.builtin "BaseException.__getattribute__") ⟨[.ref x,.str "__class__" tk],[]⟩) R s:=by
  obtain ⟨q0,q1,q2,q3⟩:=xisIn_of q
  obtain ⟨cd,bm,c⟩:=xcls_of q0
  have hk:builtinKind "BaseException.__getattribute__" = some .slot:=by decide +kernel
  have hsplit:splitId "BaseException.__getattribute__" = some ("BaseException", "__getattribute__"):=by decide +kernel
  have L0:=I.type (M:=model prog w)
  have hf:PySem.W.findObj K C od "__class__" = some (.bind (.builtin "getset_descriptor.__get__") (.builtin "object.__class__")):=by
    unfold PySem.W.findObj
    rw [c.cls,Option.bind_some,q1,Option.bind_some]
    simp [q2,q3]
  have L3:=PySem.W.looks_find (M:=model prog w) X I hf
  have hsub:PySem.W.Looks (model prog w) s.heap (isInstance (.ref x) (.type "BaseException")) true:=L0.andThen (PySem.W.looks_mroIn X (c.mroIs (by decide)))
  refine codeAny_call_builtin PySem.F.attrBase_ValueError.ga.plain PySem.F.entry_bexc_ga (@PySem.W.check_slot (model prog w) _ _ s "BaseException.__getattribute__" "BaseException" "__getattribute__" (.ref x) [.str "__class__" tk] [] _ hk hsplit hsub (PySem.F.args_bexc_ga (.ref x) (.str "__class__" tk)) ?_)
  unfold Builtin.«object.__getattribute__»
  refine wpAny_bind (wpAny_pure (wpAny_bind (wpAny_pure (wpAny_bind (L0.here (wpAny_bind (L3.here ?_)))))))
  refine wpAny_bind (wpAny_holding (wpAny_call (PySem.W.class_get X I (c.mroIs (by decide)) ?_)))
  exact wpAny_pure h
theorem xget_cls {Q:Option Value→Shared→Prop} (X:K.In s.heap) (I:PySem.W.InstAt s.heap x ox C od) (q:xisIn K C=true)
    (h:Q (some (.ref C)) { s with toks:=s.toks+1 }):wpAny (model prog w) A (getAttr? (.ref x) "__class__") Q E s:=by
  obtain ⟨q0,q1,q2,q3⟩:=xisIn_of q
  obtain ⟨cd,bm,c⟩:=xcls_of q0
  have FB:=PySem.F.attrBase_ValueError
  obtain ⟨hp,g,d,t,os⟩:=s
  have L0:=I.type (M:=model prog w)
  have L1:=PySem.W.looks_findIn (M:=model prog w) X c.ga
  have L2:=PySem.W.looks_findIn (M:=model prog w) X c.gg
  unfold getAttr? getAttrBy? getAttrBy
  refine wpAny_bind (wpAny_mkText (wpAny_bind (wpAny_attempt (wpAny_holding (wpAny_bind (L0.at (wpAny_bind (L1.at ?_))))))))
  show wpAny _ _ (getAttrByItsOwn _ _ _ _ _ _) _ _ _
  have f3:=FB.ga.bind (.ref x)
  unfold getAttrByItsOwn hookBefore callGetattribute
  refine wpAny_bind (L2.at ?_)
  refine wpAny_bind (wpAny_attempt (wpAny_holding ?_))
  rw [if_neg (by decide)]
  unfold boundAndCalled
  rw [f3]
  refine wpAny_bind (wpAny_pure (wpAny_call ?_))
  exact xga_cls (s:=⟨hp,g,d,t+1,os⟩) X I q (show wpAny _ _ (handedOut (.ref C)) _ _ _ by rw [PySem.W.handedOut_of rfl];exact wpAny_pure (wpAny_pure h))
end
theorem kitx_exc {K:PySem.W.Frag} {x D:Addr} (q:xisIn K D=true):PySem.W.KitX K (.ref x) (.ref D) (fun h => ∃ ox od,PySem.W.InstAt h x ox D od):=by
  obtain ⟨q0,q1,q2,q3⟩:=xisIn_of q
  obtain ⟨cd,bm,c⟩:=xcls_of q0
  obtain ⟨dd,k0,k1,k2,k3,k5,lC⟩:=c.at_
  refine ⟨fun _ _ _ ⟨ox,od,I⟩=>I.type,fun _ _ X _ => ?_,fun h tp dd its n sl X htp => ?_,fun X ⟨ox,od,I⟩ k=>xget_cls X I q k⟩
  · intro A' Q' E' s' k q
    unfold isType loadHead
    exact wpAny_bind (wpAny_loadPart (k _ _ (X _ _ lC)) (wpAny_pure q))
  · refine Bool.eq_false_iff.mpr fun q => ?_
    have e:D=tp:=Value.ref.inj (beq_iff_eq.mp q)
    subst e
    have z:=congrArg Obj.cls (Option.some.inj ((X _ _ lC).symm.trans htp))
    exact absurd (Value.type.inj z) (by decide)
section
variable {X:Cx} {cm:String→Addr} {K:KK}
def mIsiX (K:PySem.W.Frag):List V→Hp→VK→Prop:=fun xs H Q=>mIsiP K xs H Q∨∃ a C d fs c cv b,xs = [.ref a,c]∧RelV c cv∧(∀ u,RelV c u→u=cv)∧H a=some (xo a C d)∧XDict H d fs∧xisIn K C=true∧PySem.W.kitOne K (.ref C) cv=some b∧Q (.bl b) H
theorem cr_isiX:CallR X (.builtin "isinstance") (mIsiX X.K):=by
  intro pins s σ H xs us Q I r h
  rcases h with h | ⟨a,C,d,fs,c,cv,b,rfl,rc,uq,ha,hD,q,hk,hQ⟩
  · exact cr_isi pins s σ H xs us Q I r h
  · obtain ⟨u,w',rfl,r1,r2⟩:=vals2 r
    cases (show u=Value.ref a from r1)
    rw [uq w' r2]
    obtain ⟨⟨o,ws,ho,hcl,hdi,hda⟩,_,_⟩:=(show ObjOk X.prog X.w H s.heap a (xo a C d) from I.hok a _ ha)
    obtain ⟨ocls,odict,odata,osl⟩:=o
    dsimp only at hcl hdi hda
    subst hcl hdi hda
    have J:∃ ox od,PySem.W.InstAt s.heap a ox C od:=by
      rcases hD with ⟨rfl,_⟩ | ⟨d0,rfl,z⟩
      · exact ⟨_,none,ho,rfl,rfl,trivial⟩
      · obtain ⟨od,z'⟩:=ob_there (I.hok d0 _ z)
        exact ⟨_,some od,ho,rfl,rfl,z'⟩
    exact PySem.W.kia_one (kitx_exc q) I.kIn J hk (fun z=>nomatch z) fun tk=>⟨.bl b,H,I.tok _,rfl,hQ⟩
def AllT (Q:String→String→Bool→Prop):List ((String×String)×Bool)→Prop
  | []=>True
  | ((c,d),b)::r=>Q c d b∧AllT Q r
theorem AllT.get {Q:String→String→Bool→Prop}:∀ {t:List ((String×String)×Bool)} {c d:String} {b:Bool},AllT Q t→t.lookup (c,d)=some b→Q c d b
  | [],_,_,_,_,h=>by simp at h
  | ((c',d'),b')::r,c,d,b,⟨h1,h2⟩,h=>by
    rw [List.lookup_cons] at h
    cases e:(c,d) == (c',d') with
    | true =>
      rw [e] at h
      cases h
      obtain ⟨rfl,rfl⟩:=Prod.mk.inj (beq_iff_eq.mp e)
      exact h1
    | false =>
      rw [e] at h
      exact h2.get h
def fIsiX (tc tt:List ((String×String)×Bool)) (ds nt:List String):List PV→Option PV
  | [.xc C _ _,.cls D]=>(tc.lookup (C,D)).map .bl
  | [.xc C _ _,.ty D]=>(tt.lookup (C,D)).map .bl
  | [.non,.cls D]=>if ds.contains D=true then some (.bl false) else none
  | [.non,.ty D]=>if nt.contains D=true then some (.bl false) else fIsi [.non,.ty D]
  | ps=>fIsi ps
theorem cv_isiX {tc tt:List ((String×String)×Bool)} {ds nt:List String} (hc:AllT (fun C D b=>xisIn K.K (K.cm C)=true∧PySem.W.kitOne K.K (.ref (K.cm C)) (.ref (K.cm D))=some b) tc)
    (ht:AllT (fun C D b=>xisIn K.K (K.cm C)=true∧PySem.W.kitOne K.K (.ref (K.cm C)) (.type D)=some b) tt) (hd:AllC (fun D=>PySem.W.kitOne K.K (.type "NoneType") (.ref (K.cm D))=some false) ds)
    (hn:AllC (fun D=>PySem.W.kitOne K.K (.type "NoneType") (.type D)=some false) nt):CallV K (mIsiX K.K) (fIsiX tc tt ds nt):=by
  intro c F H σ ρ ps pv vs Q rel r e k
  unfold fIsiX at e
  split at e
  · rename_i C ns qs D
    obtain ⟨v,u,rfl,r1,r2⟩:=rl2 r
    cases eb:tc.lookup (C,D) with
    | none=>rw [eb] at e;cases e
    | some b =>
      rw [eb] at e
      cases e
      obtain ⟨k1,k2⟩:=hc.get eb
      have r1':Rep K F (.xc C ns qs) v:=by rcases r1 with q | q;exact q;exact q.elim
      have r2':Rep K F (.cls D) u:=by rcases r2 with q | q;exact q;exact q.elim
      unfold Rep at r1' r2'
      obtain ⟨a,d,fs,rfl,q2,q3,q4,q5⟩:=r1'
      subst r2'
      exact .inr ⟨a,_,d,fs,_,.ref (K.cm D),b,rfl,rfl,fun u z=>z,rel.sub _ _ q2,q3.same rel.sub,k1,k2,k _ F H rel (Same.refl _) (Same.refl _) Rep.bl⟩
  · rename_i C ns qs D
    obtain ⟨v,u,rfl,r1,r2⟩:=rl2 r
    cases eb:tt.lookup (C,D) with
    | none=>rw [eb] at e;cases e
    | some b =>
      rw [eb] at e
      cases e
      obtain ⟨k1,k2⟩:=ht.get eb
      have r1':Rep K F (.xc C ns qs) v:=by rcases r1 with q | q;exact q;exact q.elim
      have r2':Rep K F (.ty D) u:=by rcases r2 with q | q;exact q;exact q.elim
      unfold Rep at r1' r2'
      obtain ⟨a,d,fs,rfl,q2,q3,q4,q5⟩:=r1'
      subst r2'
      exact .inr ⟨a,_,d,fs,_,.type D,b,rfl,rfl,fun u z=>z,rel.sub _ _ q2,q3.same rel.sub,k1,k2,k _ F H rel (Same.refl _) (Same.refl _) Rep.bl⟩
  · rename_i D
    obtain ⟨v,u,rfl,r1,r2⟩:=rl2 r
    split at e
    · rename_i hD
      cases e
      cases r1.non
      have r2':Rep K F (.cls D) u:=by rcases r2 with q | q;exact q;exact q.elim
      unfold Rep at r2'
      subst r2'
      exact .inl ⟨_,false,rfl,hd.get hD,k _ F H rel (Same.refl _) (Same.refl _) Rep.bl⟩
    · cases e
  · rename_i D
    split at e
    · rename_i hD
      obtain ⟨v,u,rfl,r1,r2⟩:=rl2 r
      cases e
      cases r1.non
      cases r2.ty
      exact .inl ⟨_,false,rfl,hn.get hD,k _ F H rel (Same.refl _) (Same.refl _) Rep.bl⟩
    · exact .inl (cv_isi rel r e k)
  · exact .inl (cv_isi rel r e k)
end
def isC (K:PySem.W.Frag) (cm:String→Addr):List ((String×String)×Bool)→Bool
  | []=>true
  | ((c,d),b)::r=>xisIn K (cm c) && PySem.W.kitOne K (.ref (cm c)) (.ref (cm d)) == some b && isC K cm r
theorem isC_of {K:PySem.W.Frag} {cm:String→Addr}:∀ {t:List ((String×String)×Bool)},isC K cm t=true→AllT (fun C D b=>xisIn K (cm C)=true∧PySem.W.kitOne K (.ref (cm C)) (.ref (cm D))=some b) t
  | [],_=>trivial
  | ((c,d),b)::r,h=>by
    unfold isC at h
    rw [Bool.and_eq_true,Bool.and_eq_true] at h
    exact ⟨⟨h.1.1,beq_iff_eq.mp h.1.2⟩,isC_of h.2⟩
def isT (K:PySem.W.Frag) (cm:String→Addr):List ((String×String)×Bool)→Bool
  | []=>true
  | ((c,d),b)::r=>xisIn K (cm c) && PySem.W.kitOne K (.ref (cm c)) (.type d) == some b && isT K cm r
theorem isT_of {K:PySem.W.Frag} {cm:String→Addr}:∀ {t:List ((String×String)×Bool)},isT K cm t=true→AllT (fun C D b=>xisIn K (cm C)=true∧PySem.W.kitOne K (.ref (cm C)) (.type D)=some b) t
  | [],_=>trivial
  | ((c,d),b)::r,h=>by
    unfold isT at h
    rw [Bool.and_eq_true,Bool.and_eq_true] at h
    exact ⟨⟨h.1.1,beq_iff_eq.mp h.1.2⟩,isT_of h.2⟩
def isD (K:PySem.W.Frag) (cm:String→Addr):List String→Bool
  | []=>true
  | d::r=>PySem.W.kitOne K (.type "NoneType") (.ref (cm d)) == some false && isD K cm r
theorem isD_of {K:PySem.W.Frag} {cm:String→Addr}:∀ {t:List String},isD K cm t=true→AllC (fun D=>PySem.W.kitOne K (.type "NoneType") (.ref (cm D))=some false) t
  | [],_=>trivial
  | d::r,h=>by
    unfold isD at h
    rw [Bool.and_eq_true] at h
    exact ⟨beq_iff_eq.mp h.1,isD_of h.2⟩
def isNn (K:PySem.W.Frag):List String→Bool
  | []=>true
  | d::r=>PySem.W.kitOne K (.type "NoneType") (.type d) == some false && isNn K r
theorem isNn_of {K:PySem.W.Frag}:∀ {t:List String},isNn K t=true→AllC (fun D=>PySem.W.kitOne K (.type "NoneType") (.type D)=some false) t
  | [],_=>trivial
  | d::r,h=>by
    unfold isNn at h
    rw [Bool.and_eq_true] at h
    exact ⟨beq_iff_eq.mp h.1,isNn_of h.2⟩
theorem law_walkE {l:PySem.W.OpenLaw} {k:Nat} {x:Str} {m:MF} {q:Program} {loose:List Str} {XP:(Str→Option Value)→Heap→Prop} {YP:World→Heap→Prop} {d:DefRec} {K:Params→PySem.W.Frag} (hn:l.most=some 63) (hdf:d.params.defaults = []) (hr:Room k callerA)
    (hY:∀ (w:World) (h:Heap),YP w h→(K w.params).In h)
    (F:∀ (w:World) (mg:Str→Option Value) (fa:Addr) (h:Heap),(K w.params).In h→h.Ns mainGlobals mg→mg d.name=some (.ref fa) →
      ∃ fd:FuncData,(∀ (s:Shared) (u:Value),BindsTo s fd ⟨[u],[]⟩ [(x,u)])∧∀ base:Heap,(K w.params).In base→base.Ns mainGlobals mg→∃ cm,FnOk l.prog w (K w.params) mg base (CXE l.prog w) k fa fd [x] (spP ⟨K w.params,cm⟩ 1 m))
    (ht:∀ ns:List Int,ns.length≤63→m [.sh (.lst (ns.map .int))] = .ret (.sh (.bl true))) :
    PySem.W.WalkO q loose XP YP l.row.toRowW d [] (fun f vs=>PySem.call f vs):=by
  refine L2.walk_of (n:=63) (k:=k) (x:=x) (CX:=fun w=>CXE l.prog w) (sp:=fun w=>spLaw (K w.params)) hn (by decide) hdf hr hY (fun w mg fa h h1 h2 h3 => ?_) (fun w H a ns hl _ hS=>⟨a,ns,rfl,hS,hl,fun _ _ z=>z⟩) fun w H s e s' z=>cxe_false z
  obtain ⟨fd,hb,hF⟩:=F w mg fa h h1 h2 h3
  refine ⟨fd,hb,fun base k1 k2 => ?_⟩
  obtain ⟨cm,G⟩:=hF base k1 k2
  refine G.imp fun vs H Q E hs => ?_
  obtain ⟨sa,ns,rfl,hS,hl,hq⟩:=hs
  refine ⟨H,[.sh (.lst (ns.map .int))],rfl,Same.refl _,.cons ?_ .nil,?_⟩
  · show Rep _ _ _ _
    unfold Rep
    exact ⟨sa,_,rfl,hS,rep_ints ns⟩
  · rw [ht ns hl]
    intro v F' H' g rf
    have e:v = .bl true:=rep_bl (K:=⟨K w.params,cm⟩) (F:=F') rf
    exact hq v H' e
section
variable {ρ : PSt} {C:String} {n i:Nat} {fl:List (Str×Nat)} {ms:M (List PV)} {mb mh:M Fl} {mr:MH} {yes no:List String} {x:PX}
@[simp] theorem ev_raise:mRaise C ρ = .exc ⟨C,[],[]⟩ ρ := rfl
@[simp] theorem ev_xmake0:mXMake0 C ρ = .ok (.xc C [] []) ρ := rfl
@[simp] theorem ev_xmake:mXMake C n fl ms ρ = (ms ρ).bind fun ps ρ1=>if ps.length+1=n∧ps.length<1000∧fl.length<1000 then (match xiP fl ps [] [] with
  | some (ns,qs) => .ok (.xc C ns qs) ρ1
  | none => .bad) else .bad:=rfl
@[simp] theorem ev_xraise:mXRaise C n fl ms ρ = (ms ρ).bind fun ps ρ1=>if ps.length+1=n∧ps.length<1000∧fl.length<1000 then (match xiP fl ps [] [] with
  | some (ns,qs) => .exc ⟨C,ns,qs⟩ ρ1
  | none => .bad) else .bad:=rfl
@[simp] theorem ev_try:mTry mb mr ρ = (match mb ρ with
  | .exc x ρ1=>mr x ρ1
  | r=>r):=rfl
@[simp] theorem ev_has:mHandAs i yes no mh mr x ρ = (if yes.contains x.C=true then (match mh (ρ.set i (.sh (.xc x.C x.ns x.ps))) with
  | .ok f ρ2 => .ok f (ρ2.set i .no)
  | _ => .bad) else if no.contains x.C=true then mr x ρ else .bad):=rfl
end
end P
namespace P
open PySem PySem.Spec PyProof.Rows L2 M2 M3 M4
section
variable {X:Cx} {cm:String→Addr} {E:L2.St→XK} {y:Str} {Dn:String} {yp hpos:Pos} {b₀ : Stmt} {suite:List Stmt} {rest:List ExceptHandler} {yes no:List String} {mh:M Fl} {mr:MH}
@[simp] theorem ev_han {ρ : PSt} {x:PX}:mHand yes no mh mr x ρ = (if yes.contains x.C=true then (match mh ρ with
  | .ok f ρ2 => .ok f ρ2
  | _ => .bad) else if no.contains x.C=true then mr x ρ else .bad):=rfl
end
end P
namespace P
open PySem PySem.Spec PyProof.Rows L2 M2 M3 M4
section
variable {X:Cx} {cm:String→Addr} {K:KK}
def rInt1:List V→Hp→VK→Prop:=fun xs H Q=>(∃ i,xs = [.int i]∧Q (.int i) H)∨∃ k,xs = [.bl k]∧Q (.int (if k then 1 else 0)) H
theorem cr_int:CallR X (.type "int") rInt1:=call_int1
def fInt:List PV→Option PV
  | [.int i]=>some (.int i)
  | [.bl k]=>some (.int (if k then 1 else 0))
  | _=>none
theorem cv_int:CallV K rInt1 fInt:=by
  intro c F H σ ρ ps pv vs Q rel r e k
  unfold fInt at e
  split at e
  · cases e
    obtain ⟨v,rfl,r1⟩:=rl1 r
    cases r1.int
    exact .inl ⟨_,rfl,k _ F H rel (Same.refl _) (Same.refl _) Rep.int⟩
  · cases e
    obtain ⟨v,rfl,r1⟩:=rl1 r
    cases r1.bl
    exact .inr ⟨_,rfl,k _ F H rel (Same.refl _) (Same.refl _) Rep.int⟩
  · cases e
def fStr:List PV→Option PV
  | [.int i]=>if i.natAbs.log2<1920 then some (.str (toString i)) else none
  | _=>none
def fOrd:List PV→Option PV
  | [.str x]=>if x.length=1 then some (.int (x.cps.getD 0 0:Nat)) else none
  | _=>none
theorem vals_ints:∀ {ns:List Int} {its:List Value},Vals (ns.map V.int) its→IntsAre its ns
  | [],its,h=>by cases h;exact .nil
  | n::ns,its,h=>by
    cases h with
    | cons r t =>
      obtain ⟨k,e⟩:=(show ∃ k,_=Value.int n k from r)
      subst e
      exact .cons n k (vals_ints t)
def rSum (K:PySem.W.Frag):List V→Hp→VK→Prop:=fun xs H Q => ∃ (p:Addr) (ns:List Int),xs = [.ref p]∧SqL K H p (ns.map V.int)∧Q (.int ns.sum) H
theorem cr_sum (hc:X.calm=true):CallR X (.builtin "sum") (rSum X.K):=by
  intro pins s σ H xs us Q I r h
  obtain ⟨p,ns,rfl,hS,q⟩:=h
  obtain ⟨u,rfl,ru⟩:=vals1 r
  cases ru
  obtain ⟨its,rv,pl,hz⟩:=I.list hS
  have hi:=vals_ints rv
  obtain ⟨ys,e⟩:=hi.allInts.items
  have hns:ns=ys.toList.map (·.1):=by rw [← hi.numsOf,← nums_intItems,← e]
  have hl:=pl.isList
  rw [e] at hl
  refine sum_intListG (show X.A.handled=none from I.ok.hd hc) hl fun h' tk t' hk => ?_
  refine ⟨.int ns.sum,H,I.kept hk,⟨t',?_⟩,q⟩
  rw [preSum_eq,List.take_of_length_le (by simp),← hns]
section
variable {prog:Program} {w:World} {A:Around} {E:Value→Shared→Prop} {s:Shared} {l:Addr} {xs:Array (Int×Tok)}
theorem iter_intTup {Q:Value→Shared→Prop} (hl:s.heap.IsTuple l (intItems xs))
    (h:∀ s₂ : Shared,s₂ = { s with heap:=s.heap.push { cls:=.type "tuple_iterator",data:=.fields #[.ref l,.int 0 0] } } →
      (s₂.heap.IsTupleIter s.heap.objs.size l 0∧s₂.heap.IsTuple l (intItems xs))→(∀ b ∈ [s.heap.objs.size,l],b<s₂.heap.objs.size)→l≠s.heap.objs.size→(∀ h':Heap,(∀ b o,b ∉ [s.heap.objs.size]→s₂.heap.get? b=some o→h'.get? b=some o)→∀ b o,s.heap.get? b=some o→h'.get? b=some o)→Q (.ref s.heap.objs.size) s₂) :
    wpAny (model prog w) A (pyIter (.ref l)) Q E s:=by
  have hlt:l<s.heap.objs.size:=by obtain ⟨_,e,_⟩:=hl;exact Heap.lt_size e
  refine wpAny_pyIter_tuple hl (h _ rfl ⟨⟨_,Heap.get?_push_size _ rfl,rfl,rfl⟩,hl.push _⟩ (fun b hb => ?_) (Nat.ne_of_lt hlt) fun h' hk b o e => ?_)
  · show b<(s.heap.push _).objs.size
    rw [Heap.size_push]
    rcases List.mem_cons.mp hb with rfl | hb
    · exact Nat.lt_succ_self _
    · rcases List.mem_cons.mp hb with rfl | hb
      · exact Nat.lt_succ_of_lt hlt
      · cases hb
  · refine hk b o (fun hm => ?_) (Heap.get?_push_of_some _ e)
    rcases List.mem_cons.mp hm with e1 | hm
    · exact absurd (e1 ▸ Heap.lt_size e) (Nat.lt_irrefl _)
    · cases hm
theorem max_intTup {Q:Value→Shared→Prop} (hh:A.handled=none) (hl:s.heap.IsTuple l (intItems xs)) (hne:0<xs.size)
    (h:∀ v h' tk,(intItems xs)[argBest (fun i j=>decide (numAt xs i>numAt xs j)) (xs.size-1)]? = some v→(∀ b o,s.heap.get? b=some o→h'.get? b=some o)→Q v { s with heap:=h',toks:=tk }) :
    wpAny (model prog w) A (call (.builtin "max") [.ref l]) Q E s:=by
  refine call_max_walk (iter_intTup hl fun s₂ e st hfp hlI hk0 => ?_)
  subst e
  refine ⟨_,_,_,_,_,_,_,rfl,Walks.tuple (A:=A.in1) hh _ l hlI (intItems xs),st,hfp,by simpa [intItems] using hne,CmpOf.ints_gt (numAt xs) (fun _ _=>intItems_at),fun v h' tk hP hk => ?_⟩
  exact h v h' tk (by simpa [intItems] using hP) (hk0 h' hk)
end
def rMax (K:PySem.W.Frag):List V→Hp→VK→Prop:=fun xs H Q => ∃ (p:Addr) (ns:List Int),xs = [.ref p]∧(SqL K H p (ns.map V.int)∨SqT K H p (ns.map V.int))∧0<ns.length∧∀ M,M∈ns→(∀ a∈ns,a≤M)→Q (.int M) H
theorem cr_max (hc:X.calm=true):CallR X (.builtin "max") (rMax X.K):=by
  intro pins s σ H xs us Q I r h
  obtain ⟨p,ns,rfl,hS,hne,q⟩:=h
  obtain ⟨u,rfl,ru⟩:=vals1 r
  cases ru
  have fin:∀ (ys:Array (Int×Tok)),ns=ys.toList.map (·.1)→0<ys.size→∀ v h' tk,(intItems ys)[argBest (fun i j=>decide (numAt ys i>numAt ys j)) (ys.size-1)]? = some v→(∀ b o,s.heap.get? b=some o→h'.get? b=some o)→EP X pins σ Q v { s with heap:=h',toks:=tk }:=by
    intro ys hns hsz v h' tk hv hk
    obtain ⟨t,rfl⟩:=intItems_at hv
    obtain ⟨h1,h2⟩:=argBest_gt (numAt ys) (ys.size-1)
    refine ⟨.int _,H,I.kept hk,⟨t,rfl⟩,q _ ?_ fun a ha => ?_⟩
    · rw [hns,numAt_eq]
      have hj:argBest (fun i j=>decide (numAt ys i>numAt ys j)) (ys.size-1)<(ys.toList.map (·.1)).length:=by rw [List.length_map,Array.length_toList];omega
      rw [List.getD_eq_getElem?_getD,List.getElem?_eq_getElem hj]
      exact List.getElem_mem _
    · rw [hns] at ha
      obtain ⟨j,hj,rfl⟩:=List.mem_iff_getElem.mp ha
      rw [List.length_map,Array.length_toList] at hj
      have:=h2 j (by omega)
      rw [numAt_eq ys j,List.getD_eq_getElem?_getD,List.getElem?_eq_getElem (by rw [List.length_map,Array.length_toList];exact hj)] at this
      exact this
  rcases hS with hS | hS
  · obtain ⟨its,rv,pl,hz⟩:=I.list hS
    have hi:=vals_ints rv
    obtain ⟨ys,e⟩:=hi.allInts.items
    have hns:ns=ys.toList.map (·.1):=by rw [← hi.numsOf,← nums_intItems,← e]
    have hl:=pl.isList
    rw [e] at hl
    have hsz:0<ys.size:=by rw [hns,List.length_map,Array.length_toList] at hne;exact hne
    exact max_intList (show X.A.handled=none from I.ok.hd hc) hl hsz (fin ys hns hsz)
  · obtain ⟨its,rv,pl,hz⟩:=I.tuple hS
    have hi:=vals_ints rv
    obtain ⟨ys,e⟩:=hi.allInts.items
    have hns:ns=ys.toList.map (·.1):=by rw [← hi.numsOf,← nums_intItems,← e]
    have hl:s.heap.IsTuple p its.toArray:=pl
    rw [e] at hl
    have hsz:0<ys.size:=by rw [hns,List.length_map,Array.length_toList] at hne;exact hne
    exact max_intTup (show X.A.handled=none from I.ok.hd hc) hl hsz (fin ys hns hsz)
def rMin (K:PySem.W.Frag):List V→Hp→VK→Prop:=fun xs H Q => ∃ (p:Addr) (ns:List Int),xs = [.ref p]∧SqL K H p (ns.map V.int)∧0<ns.length∧∀ M,M∈ns→(∀ a∈ns,M≤a)→Q (.int M) H
theorem cr_min (hc:X.calm=true):CallR X (.builtin "min") (rMin X.K):=by
  intro pins s σ H xs us Q I r h
  obtain ⟨p,ns,rfl,hS,hne,q⟩:=h
  obtain ⟨u,rfl,ru⟩:=vals1 r
  cases ru
  obtain ⟨its,rv,pl,hz⟩:=I.list hS
  have hi:=vals_ints rv
  obtain ⟨ys,e⟩:=hi.allInts.items
  have hns:ns=ys.toList.map (·.1):=by rw [← hi.numsOf,← nums_intItems,← e]
  have hl:=pl.isList
  rw [e] at hl
  have hsz:0<ys.size:=by rw [hns,List.length_map,Array.length_toList] at hne;exact hne
  refine min_intList (show X.A.handled=none from I.ok.hd hc) hl hsz fun v h' tk hv hk => ?_
  obtain ⟨t,rfl⟩:=intItems_at hv
  obtain ⟨h1,h2⟩:=argBest_lt (numAt ys) (ys.size-1)
  refine ⟨.int _,H,I.kept hk,⟨t,rfl⟩,q _ ?_ fun a ha => ?_⟩
  · rw [hns,numAt_eq]
    have hj:argBest (fun i j=>decide (numAt ys i<numAt ys j)) (ys.size-1)<(ys.toList.map (·.1)).length:=by rw [List.length_map,Array.length_toList];omega
    rw [List.getD_eq_getElem?_getD,List.getElem?_eq_getElem hj]
    exact List.getElem_mem _
  · rw [hns] at ha
    obtain ⟨j,hj,rfl⟩:=List.mem_iff_getElem.mp ha
    rw [List.length_map,Array.length_toList] at hj
    have:=h2 j (by omega)
    rw [numAt_eq ys j,List.getD_eq_getElem?_getD,List.getElem?_eq_getElem (by rw [List.length_map,Array.length_toList];exact hj)] at this
    exact this
def intsOf:List PV→Option (List Int)
  | []=>some []
  | .int b::ps=>(intsOf ps).map (b :: ·)
  | _::_=>none
@[simp] theorem intsOf_map:∀ ns:List Int,intsOf (ns.map PV.int)=some ns
  | []=>rfl
  | n::ns=>by rw [List.map_cons,intsOf,intsOf_map ns];rfl
theorem ints_rep {F:Hp}:∀ {ps:List PV} {vs:List V} {bs:List Int},RepL K F ps vs→intsOf ps=some bs→vs=bs.map V.int
  | [],vs,bs,r,h=>by
    cases h
    cases r.pr
    rfl
  | p::ps,vs,bs,r,h=>by
    cases r.pr with
    | cons r1 t =>
      cases p with
      | int b =>
        unfold intsOf at h
        obtain ⟨cs,e,rfl⟩:=Option.map_eq_some_iff.mp h
        rw [ints_rep (RepL.of t) e,show _=V.int b from r1]
        rfl
      | _=>cases h
def best (f:Int→Int→Int):List Int→Option Int
  | []=>none
  | n::ns=>some (ns.foldl f n)
theorem foldl_max:∀ (ns:List Int) (n:Int),ns.foldl max n∈n::ns∧∀ a∈n::ns,a≤ns.foldl max n
  | [],n=>by simp
  | m::ns,n=>by
    obtain ⟨h1,h2⟩:=foldl_max ns (max n m)
    rw [List.foldl_cons]
    refine ⟨?_,fun a ha => ?_⟩
    · rcases List.mem_cons.mp h1 with e | e
      · rw [e]
        by_cases h:n≤m
        · rw [Int.max_eq_right h];simp
        · rw [Int.max_eq_left (by omega)];simp
      · simp [e]
    · have hm:=h2 (max n m) List.mem_cons_self
      rcases List.mem_cons.mp ha with rfl | ha
      · omega
      · rcases List.mem_cons.mp ha with rfl | ha
        · omega
        · exact h2 a (List.mem_cons_of_mem _ ha)
theorem foldl_min:∀ (ns:List Int) (n:Int),ns.foldl min n∈n::ns∧∀ a∈n::ns,ns.foldl min n≤a
  | [],n=>by simp
  | m::ns,n=>by
    obtain ⟨h1,h2⟩:=foldl_min ns (min n m)
    rw [List.foldl_cons]
    refine ⟨?_,fun a ha => ?_⟩
    · rcases List.mem_cons.mp h1 with e | e
      · rw [e]
        by_cases h:n≤m
        · rw [Int.min_eq_left h];simp
        · rw [Int.min_eq_right (by omega)];simp
      · simp [e]
    · have hm:=h2 (min n m) List.mem_cons_self
      rcases List.mem_cons.mp ha with rfl | ha
      · omega
      · rcases List.mem_cons.mp ha with rfl | ha
        · omega
        · exact h2 a (List.mem_cons_of_mem _ ha)
def fSum:List PV→Option PV
  | [.lst ps]=>(intsOf ps).map fun ns => .int ns.sum
  | _=>none
def fMax1:List PV→Option PV
  | [.lst ps]=>((intsOf ps).bind (best max)).map .int
  | [.tup ps]=>((intsOf ps).bind (best max)).map .int
  | _=>none
def fMin1:List PV→Option PV
  | [.lst ps]=>((intsOf ps).bind (best min)).map .int
  | _=>none
theorem cv_sum:CallV K (rSum K.K) fSum:=by
  intro c F H σ ρ ps pv vs Q rel r e k
  unfold fSum at e
  split at e
  · rename_i ps
    obtain ⟨v,rfl,r1⟩:=rl1 r
    obtain ⟨a,xs,rfl,h1,h2⟩:=r1.lst rel.sub
    obtain ⟨ns,eb,rfl⟩:=Option.map_eq_some_iff.mp e
    exact ⟨a,ns,rfl,by rw [← ints_rep h2 eb];exact h1,k _ F H rel (Same.refl _) (Same.refl _) Rep.int⟩
  · cases e
theorem cv_max:CallV K (rMax K.K) fMax1:=by
  intro c F H σ ρ ps pv vs Q rel r e k
  have fin:∀ (ps:List PV) (xs:List V),RepL K F ps xs→((intsOf ps).bind (best max)).map PV.int=some pv→∃ ns:List Int,xs=ns.map V.int∧0<ns.length∧∀ M,M∈ns→(∀ a∈ns,a≤M)→Q (.int M) H:=by
    intro ps xs h2 e
    obtain ⟨m,em,rfl⟩:=Option.map_eq_some_iff.mp e
    obtain ⟨ns,eb,hb⟩:=Option.bind_eq_some_iff.mp em
    cases ns with
    | nil=>cases hb
    | cons n ns =>
      cases hb
      obtain ⟨z1,z2⟩:=foldl_max ns n
      refine ⟨n::ns,ints_rep h2 eb,by simp,fun M m1 m2 => ?_⟩
      have:M=ns.foldl max n:=Int.le_antisymm (z2 M m1) (m2 _ z1)
      rw [this]
      exact k _ F H rel (Same.refl _) (Same.refl _) Rep.int
  unfold fMax1 at e
  split at e
  · rename_i ps
    obtain ⟨v,rfl,r1⟩:=rl1 r
    obtain ⟨a,xs,rfl,h1,h2⟩:=r1.lst rel.sub
    obtain ⟨ns,rfl,hl,hq⟩:=fin ps xs h2 e
    exact ⟨a,ns,rfl,.inl h1,hl,hq⟩
  · rename_i ps
    obtain ⟨v,rfl,r1⟩:=rl1 r
    obtain ⟨a,xs,rfl,h1,h2⟩:=r1.tup rel.sub
    obtain ⟨ns,rfl,hl,hq⟩:=fin ps xs h2 e
    exact ⟨a,ns,rfl,.inr h1,hl,hq⟩
  · cases e
theorem cv_min:CallV K (rMin K.K) fMin1:=by
  intro c F H σ ρ ps pv vs Q rel r e k
  unfold fMin1 at e
  split at e
  · rename_i ps
    obtain ⟨v,rfl,r1⟩:=rl1 r
    obtain ⟨a,xs,rfl,h1,h2⟩:=r1.lst rel.sub
    obtain ⟨m,em,rfl⟩:=Option.map_eq_some_iff.mp e
    obtain ⟨ns,eb,hb⟩:=Option.bind_eq_some_iff.mp em
    cases ns with
    | nil=>cases hb
    | cons n ns =>
      cases hb
      obtain ⟨z1,z2⟩:=foldl_min ns n
      refine ⟨a,n::ns,rfl,by rw [← ints_rep h2 eb];exact h1,by simp,fun M m1 m2 => ?_⟩
      have:M=ns.foldl min n:=Int.le_antisymm (m2 _ z1) (z2 M m1)
      rw [this]
      exact k _ F H rel (Same.refl _) (Same.refl _) Rep.int
  · cases e
@[simp] theorem ev_intI {i:Int}:fInt [.int i]=some (.int i):=rfl
@[simp] theorem ev_intB {b:Bool}:fInt [.bl b]=some (.int (if b then 1 else 0)):=rfl
@[simp] theorem ev_strI {i:Int}:fStr [.int i]=if i.natAbs.log2<1920 then some (.str (toString i)) else none:=rfl
@[simp] theorem ev_ordS {x:Str}:fOrd [.str x]=if x.length=1 then some (.int (x.cps.getD 0 0:Nat)) else none:=rfl
@[simp] theorem ev_sumL {ps:List PV}:fSum [.lst ps]=(intsOf ps).map fun ns => .int ns.sum:=rfl
@[simp] theorem ev_maxL {ps:List PV}:fMax1 [.lst ps]=((intsOf ps).bind (best max)).map .int:=rfl
@[simp] theorem ev_minL {ps:List PV}:fMin1 [.lst ps]=((intsOf ps).bind (best min)).map .int:=rfl
@[simp] theorem ev_best {f:Int→Int→Int} {n:Int} {ns:List Int}:best f (n::ns)=some (ns.foldl f n):=rfl
end
end P
namespace P
open PySem PySem.Spec PyProof.Rows L2 M2 M3 M4
def clsB (K:PySem.W.Frag) (C:Addr):Bool:=PySem.W.plainGet K C Str.empty && PySem.W.hasDictIn K C && PySem.W.plainOver K C && PySem.W.findIn K (.ref C) "__setattr__" == some (some (.builtin "object.__setattr__"))
theorem cls_of {K:PySem.W.Frag} {C:Addr} (h:clsB K C=true):Cls K C:=by
  unfold clsB at h
  simp only [Bool.and_eq_true,beq_iff_eq] at h
  exact ⟨h.1.1.1,h.1.1.2,h.1.2,h.2⟩
def methB (K:PySem.W.Frag) (C:Addr) (m:Str) (f:Addr):Bool:=PySem.W.findIn K (.ref C) m == some (some (.ref f)) && PySem.W.isFn K (.ref f) && PySem.W.keepIn K (.ref f)
theorem meth_of {K:PySem.W.Frag} {C f:Addr} {m:Str} (h:methB K C m f=true):Meth K C m f:=by
  unfold methB at h
  simp only [Bool.and_eq_true,beq_iff_eq] at h
  exact ⟨h.1.1,h.1.2,h.2⟩
def mkB (K:PySem.W.Frag) (C f:Addr):Bool:=PySem.W.makesIn K C && PySem.W.findIn K (.ref C) "__init__" == some (some (.ref f)) && PySem.W.isFn K (.ref f) && PySem.W.keepIn K (.ref C)
theorem mk_of {K:PySem.W.Frag} {C f:Addr} (h:mkB K C f=true):Mk K C f:=by
  unfold mkB at h
  simp only [Bool.and_eq_true,beq_iff_eq] at h
  exact ⟨h.1.1.1,h.1.1.2,h.1.2,h.2⟩
section
variable {ρ : PSt} {i n k:Nat} {C:String} {cs:List String} {f m:Str} {mv mo:M PV} {mi:MI} {ms:M (List Slot)} {mb:M Fl} {tbl:List (String×MF)} {as:List Slot} {ns:List Str} {ps:List PV}
@[simp] theorem ev_putf:mPutF i cs f mv ρ = (mv ρ).bind fun p ρ1=>match ρ1[i]? with
  | some (.rc C ns ps)=>if cs.contains C=true∧ns.length<1000 then .ok .nx (ρ1.set i (.rc C (putN f ns) (putP f p ns ps))) else .bad
  | _ => .bad:=rfl
@[simp] theorem ev_init:mInit n k C mb as=if as.length+1=n then IR.of (mb (.rc C [] []::startP (k-1) as)) else .bad:=rfl
@[simp] theorem ev_iro {C:String}:IR.of (.ok .nx (.rc C ns ps :: ρ)) = .ok ns ps:=rfl
@[simp] theorem ev_make:mMake C mi ms ρ = (ms ρ).bind fun as ρ1=>match mi as with
  | .ok ns ps => .ok (.ins C ns ps) ρ1
  | .exc x => .exc x ρ1
  | .bad => .bad:=rfl
@[simp] theorem ev_fld:fldF cs f (.ins C ns ps)=if cs.contains C=true then (ns.zip ps).lookup f else none:=rfl
@[simp] theorem ev_meth:mMeth m tbl mo ms ρ = (mo ρ).bind fun p ρ1=>match p with
  | .ins C ns ps=>match tbl.lookup C with
    | some mf=>if ns.contains m=true then .bad else (ms ρ1).bind fun as ρ2=>match mf (.sh (.ins C ns ps)::as) with
      | .ret r => .ok r ρ2
      | .exc x => .exc x ρ2
      | .bad => .bad
    | none => .bad
  | _ => .bad:=rfl
end
end P
namespace M3
open PySem PySem.Spec PyProof.Rows L2 M2
section
variable {X:Cx} {elt tg iter:Expr} {ifs:List Expr} {scope:Scope} {pos:Pos} {wi:TI} {g:TG} {tt:TT} {te:TE}
theorem ps_comp {iv:Nat} {y:Str} {py spos:Pos} (hN:X.N.Nodup) (hiN:X.N[iv]? = some y) (hy:X.env.scope.names.lookup y=some .local) (hsw:swapsWith (.ListComp elt [⟨tg,iter,ifs,0⟩] scope pos) (some (.Name y py)) spos.line X.env=pure true) (N':List Str) (js:List Nat) (nl:Nat) (sc:Scope) (hsc:X.env.scope=sc) (hcalm:X.calm=true)
    (hi:PI X.nox tg iter wi) (hg:∀ cl C s H fp,PG (cxC X.nox N' scope cl C s H fp) tg g) (ht:∀ cl C s H fp,PTs (cxC X.nox N' scope cl C s H fp) ifs tt) (he:∀ cl C s H fp,PE (cxC X.nox N' scope cl C s H fp) elt te)
    (hcap:CapOk X.nox sc scope N' js) (hlen:js.length+nl=N'.length:=by rfl)
    (hk:scope.kind = .function:=by rfl) (hcell:∀ y∈scope.names,y.2 ≠ .cell:=by decide +kernel) (hnames:∀ y∈scope.names,y.2 = .local→scope.names.lookup y.1=some .local:=by decide +kernel)
    (hfree:∀ y∈scope.names,y.2 = .free→(sc.names.lookup y.1=some .cell∨sc.names.lookup y.1=some .free):=by decide +kernel)
    (hs:∀ x,foldedSetIterable iter X.env x=pure x:=by intro _;rfl) :
    PS X.nox (.Assign [.Name y py] (.ListComp elt [⟨tg,iter,ifs,0⟩] scope pos) spos) (fun D σ H=>tComp js nl wi g tt te σ H fun v H'=>D.nx (σ.set iv (some v)) H'):=by
  intro pins s σ H D I h
  obtain ⟨cl,c1,c2,c3⟩:=closure_spec (scope:=scope) (env:=X.nox.env) fun y hy hf=>I.ok.has y.1 (by
    have:=hfree y hy hf
    rw [← hsc] at this
    exact this)
  rw [exec_Assign_Name_used _ _ _ _ (show swapsWith _ _ _ X.nox.env=pure true from hsw)]
  refine wpAny_bind (wpAny_standAt (wpAny_bind ?_))
  show wpAny _ X.A (do let _ ← comprehension (.ListComp elt [⟨tg,iter,ifs,0⟩] scope pos) scope X.nox.env _ (newList []) false (eval iter X.nox.env) (some (assign (.Name y py) X.nox.env))) _ _ s
  refine wpAny_bind (wpAny_mono (wpAny_comprehension_free (Q:=fun _ s'=>SP X.nox pins D .next s') (use:=some (assign (.Name y py) X.nox.env)) rfl hs c1 hk hnames (thn (hi pins s σ H _ I h) fun v s1 h1=>thn h1 fun itv s2 h2 => ?_)) (fun _ s' hq=>wpAny_pure (wpAny_pure hq)) fun _ _ e=>e)
  obtain ⟨it,fp,tn,J,H2,e,I2,T,st2,f2,q2⟩:=h2
  subst e
  refine wpAny_newObj_type (wpAny_newFunctionEnv hcell (by intro y hy;simp at hy) (fun h₁ hns₁ hsb₁ => ?_) hk)
  dsimp only at hns₁ hsb₁ ⊢
  generalize hH3:s2.heap.push { cls:=.type "list",dict:=none,data:=.seq ([]:List Value).toArray }=Hp3 at hns₁ hsb₁ ⊢
  have hD:H2 s2.heap.objs.size=none:=I2.hok.fresh (Nat.le_refl _)
  have I3:Inv X.nox pins σ (upd H2 s2.heap.objs.size (.lst [])) { s2 with heap:=Hp3 }:=by
    rw [← hH3]
    exact I2.laid (t':=s2.toks) (fun b u e=>Heap.get?_push_of_some _ e) (Nat.le_refl _) ⟨Nat.zero_le _,[],0,.nil,Heap.get?_push_size _ rfl⟩
  have lt2:∀ b∈fp,b<s2.heap.objs.size:=fun b hb=>by
    obtain ⟨o,ho,_⟩:=T.obj 0 _ st2 b hb
    exact Heap.lt_size ho
  have sz3:Hp3.objs.size=s2.heap.objs.size+1:=by rw [← hH3,Heap.size_push]
  have f3:∀ b∈fp,FpOk X.nox pins (upd H2 s2.heap.objs.size (.lst [])) b:=fun b hb=>by
    obtain ⟨g0,g1⟩:=f2 b hb
    exact ⟨by rw [upd_ne (Nat.ne_of_lt (lt2 b hb))];exact g0,g1⟩
  have old:∀ b o,Hp3.get? b=some o→h₁.get? b=some o:=fun b o e=>hsb₁.extBut b o (Nat.ne_of_lt (Heap.lt_size e)) (Heap.get?_push_of_some _ e)
  obtain ⟨W,⟨m0,w0⟩,turn⟩:=q2 s2.heap.objs.size hD
  have I4:=inv_block (X:=X.nox) (N':=N') (js:=js) (nl:=nl) (sc:=sc) (scope:=scope) (cl:=cl) (fp:=fp) (h':=h₁) (tk:=s2.toks+([]:List (Str×Value)).length) hsc hk hcell hcap hlen c2 c3 I3 f3 (fun b hb=>by show b<Hp3.objs.size;rw [sz3];exact Nat.lt_succ_of_lt (lt2 b hb)) hns₁ old
  have st4:tn 0 h₁ := T.keep 0 _ _ st2 fun b hb o e=>old b o (by rw [← hH3];exact Heap.get?_push_of_some _ e)
  have fr4:∀ b∈fp,(upd H2 s2.heap.objs.size (.lst [])) b=none:=fun b hb=>(f3 b hb).1
  have stat:∀ {H':Hp},(∀ b∈fp,H' b=none)→∀ b∈fp,FpOk (cxC X.nox N' scope cl Hp3.objs.size { s2 with heap:=Hp3 } (upd H2 s2.heap.objs.size (.lst [])) fp) [] H' b:=fun {H'} hn b hb=>by
    obtain ⟨g0,g1,g2,g3,g4,g5⟩:=f3 b hb
    refine ⟨hn b hb,Nat.ne_of_lt (by show b<Hp3.objs.size;rw [sz3];exact Nat.lt_succ_of_lt (lt2 b hb)),fun z => ?_,.inl hb,fun x c e=>g4 x c (c2 x c e),fun p hp=>absurd hp (by simp [cxC])⟩
    rcases List.mem_cons.mp (I3.stkSub b z) with z | z
    · exact g1 z
    · exact g2 z
  have loop:∀ s₃ : Shared,s₃ = { s2 with heap:=h₁,toks:=s2.toks+([]:List (Str×Value)).length } →
      codeAny (model X.prog X.w) X.A (.compLoop (.ListComp elt [⟨tg,iter,ifs,0⟩] scope pos) 0 (.ref it) (.ref s2.heap.objs.size) (compEnvC scope cl Hp3.objs.size X.nox.env))
        (compPost (model X.prog X.w) X.A X.nox.xe (some (assign (.Name y py) X.nox.env)) (fun _ s'=>SP X.nox pins D .next s') (.ref s2.heap.objs.size) Hp3.objs.size) s₃ := by
    rintro s₃ rfl
    refine compLoop_own (fun n s' => ∃ i σ' H',Inv (cxC X.nox N' scope cl Hp3.objs.size { s2 with heap:=Hp3 } (upd H2 s2.heap.objs.size (.lst [])) fp) [] σ' H' s'∧tn i s'.heap∧(∀ b∈fp,H' b=none)∧W i n σ' H') ?_ m0 ⟨0,_,_,I4,st4,fr4,w0⟩
    rintro n s5 ⟨i,σ5,H5,I5,st5,fr5,w5⟩
    rcases turn i n σ5 H5 w5 with ⟨stop,qn⟩ | ⟨go,N,hN,step⟩
    · refine thn (T.done (cxC X.nox N' scope cl Hp3.objs.size { s2 with heap:=Hp3 } (upd H2 s2.heap.objs.size (.lst [])) fp) rfl rfl rfl hcalm i [] s5 σ5 H5 (fun _ _=>False) I5 (stat fr5) st5 stop) fun r s6 ⟨hr,I6⟩ => ?_
      subst hr
      obtain ⟨m,hm,_⟩:=I6.loc
      have I7:Inv X.nox pins σ H5 s6:=inv_behind (h':=s6.heap) I3 f3 I6 (fun b u hb e=>e)
      have hCL:Hp3.objs.size≠X.nox.env.locals:=Nat.ne_of_gt I3.lt
      have hcC:∀ x c,X.nox.env.cells.lookup x=some c→c≠Hp3.objs.size:=fun x c e z=>by
        obtain ⟨v,o,ho,_⟩:=I3.cell x c e
        exact absurd (Heap.lt_size ho) (by rw [z];exact Nat.lt_irrefl _)
      have hpC:∀ p∈X.nox.pn++pins,p.1≠Hp3.objs.size:=fun p hp z=>by
        have:=Heap.lt_size (I3.pin p hp).1
        rw [z] at this
        exact Nat.lt_irrefl _ this
      have hnC:H5 Hp3.objs.size=none:=I6.free
      refine wpAny_assign_Name (store_ok2 (X:=X.nox) (i:=iv) I7 hN hiN (.inl hy) (v:=.ref s2.heap.objs.size) rfl (fun s8 I8 ⟨a8,sb8,ha8⟩ => ?_) (.inr hy))
      have ne8:Hp3.objs.size≠a8:=by
        rcases ha8 with rfl | ha8
        · exact hCL
        · exact fun z=>hcC _ _ ha8 z.symm
      refine ⟨m,hm.sameBut sb8 ne8,fun h' hs'=>⟨_,H5,?_,qn⟩⟩
      have kp:∀ b o,b≠Hp3.objs.size→s8.heap.get? b=some o→h'.get? b=some o:=fun b o hb e=>hs'.extBut b o hb e
      have kp':∀ b o,b ∉ [Hp3.objs.size]→s8.heap.get? b=some o→h'.get? b=some o:=fun b o hb e=>kp b o (fun z=>hb (by rw [z];exact List.mem_cons_self)) e
      refine I8.call' (ch:=[Hp3.objs.size]) (s':={ s8 with heap:=h' }) rfl ⟨fun b o e _ _ hx=>kp' b o hx e,fun b o e _ _ hx=>⟨o.slots,kp' b o hx e⟩,fun b o _ n _=>n,fun b o e hx=>⟨o,kp' b o hx e⟩,fun _ _ q=>q,fun _ _ _ q=>q,fun _ ps q=>⟨#[],by rw [q];simp⟩⟩ (hok_but I8.hok hnC kp) I8.bare fun b hb => ?_
      cases List.mem_singleton.mp hb
      exact ⟨.inr I3.sz,hCL,hcC,hpC⟩
    · refine thn (T.item (cxC X.nox N' scope cl Hp3.objs.size { s2 with heap:=Hp3 } (upd H2 s2.heap.objs.size (.lst [])) fp) rfl rfl rfl hcalm i [] s5 σ5 H5 (fun _ _=>False) I5 (stat fr5) st5 go) fun r s6 ⟨u,hr,h6⟩ => ?_
      subst hr
      refine thn h6 fun _ s7 ⟨x,H7,I7,r7,y7,st7,fr7⟩ => ?_
      have I7':=I7.pinned (stat fr7) (T.obj _ _ st7)
      have again:∀ {s8:Shared} {σ8:L2.St} {H8:Hp},Inv (cxC X.nox N' scope cl Hp3.objs.size { s2 with heap:=Hp3 } (upd H2 s2.heap.objs.size (.lst [])) fp) ([]++pinsAt fp s7.heap) σ8 H8 s8 →
          Inv (cxC X.nox N' scope cl Hp3.objs.size { s2 with heap:=Hp3 } (upd H2 s2.heap.objs.size (.lst [])) fp) [] σ8 H8 s8∧tn (i+1) s8.heap∧∀ b∈fp,H8 b=none:=fun {s8 σ8 H8} I8=>by
        refine ⟨I8.unpinned,T.keep _ _ _ st7 fun b hb o e=>(I8.pin (b,o) (List.mem_append_right _ (List.mem_append_right _ (mem_pinsAt hb e)))).1,fun b hb => ?_⟩
        obtain ⟨o,e,d⟩:=T.obj _ _ st7 b hb
        exact (I8.pin (b,o) (List.mem_append_right _ (List.mem_append_right _ (mem_pinsAt hb e)))).2.1
      refine thn (hg cl _ _ _ fp _ s7 σ5 H7 x u _ I7' r7 (step x H7 y7)) fun _ s8 ⟨σ8,H8,I8,q8⟩ => ?_
      refine thn (ht cl _ _ _ fp _ s8 σ8 H8 _ I8 q8) fun c s9 ⟨H9,I9,q9⟩ => ?_
      cases c with
      | false =>
        rw [if_neg Bool.false_ne_true] at q9 ⊢
        obtain ⟨m',hm',w9⟩:=hN _ _ q9
        obtain ⟨a1,a2,a3⟩:=again I9
        exact ⟨m',hm',i+1,σ8,H9,a1,a2,a3,w9⟩
      | true =>
        rw [if_pos rfl] at q9 ⊢
        refine thn (he cl _ _ _ fp _ s9 σ8 H9 _ I9 q9) fun yv s10 ⟨y,H10,I10,r10,ys,e10,l10,w10⟩ => ?_
        refine thn (mt_append _ s10 σ8 H10 (.ref s2.heap.objs.size) [y] (.ref s2.heap.objs.size) [yv] (fun _ H11=>N σ8 H11) I10 rfl (.cons r10 .nil) ⟨_,ys,y,rfl,rfl,e10,l10,w10⟩) fun _ s11 ⟨v11,H11,I11,_,w11⟩ => ?_
        obtain ⟨a1,a2,a3⟩:=again I11
        obtain ⟨m',hm',w11⟩:=hN _ _ w11
        exact ⟨m',hm',i+1,σ8,H11,a1,a2,a3,w11⟩
  exact codeAny_compStart_list (loop _ rfl) (T.self _ 0 _ _ _ st4 (loop _ rfl))
end
end M3
namespace P
open PySem PySem.Spec PyProof.Rows L2 M2 M3 M4
section
variable {X:Cx} {cm:String→Addr} {E:L2.St→XK} {elt tg iter:Expr} {ifs:List Expr} {scope:Scope} {pos:Pos} {mi:M (List PV)} {g:Tg} {mt:M Bool} {me:M PV}
theorem PS.nox {st:Stmt} {t:TS} (h:PS X.nox st t):PS X st t:=fun pins s σ H D I hw =>
  wpAny_mono (h pins s σ H D (I.wish _) hw) (fun _ _ q=>q.unwish) fun _ _ z=>False.elim z
theorem s_setc {i:Nat} {y:Str} {py spos:Pos} (hN:X.N.Nodup) (hi0:X.N[i]? = some y) (hy:X.env.scope.names.lookup y=some .local) (N':List Str) (js:List Nat) (nl:Nat) (sc:Scope) (hsc:X.env.scope=sc) (hcalm:X.calm=true)
    (hi:PI X.nox tg iter (tI (kk X cm) E mi)) (hg:∀ cl C s H fp,PG (cxC X.nox N' scope cl C s H fp) tg (tT (kk X cm) g)) (ht:∀ cl C s H fp,PTs (cxC X.nox N' scope cl C s H fp) ifs (tB (kk X cm) EF mt)) (he:∀ cl C s H fp,PE (cxC X.nox N' scope cl C s H fp) elt (tV (kk X cm) EF me))
    (hcap:CapOk X.nox sc scope N' js) (hlen:js.length+nl=N'.length:=by rfl)
    (hk:scope.kind = .function:=by rfl) (hcell:∀ y∈scope.names,y.2 ≠ .cell:=by decide +kernel) (hnames:∀ y∈scope.names,y.2 = .local→scope.names.lookup y.1=some .local:=by decide +kernel)
    (hfree:∀ y∈scope.names,y.2 = .free→(sc.names.lookup y.1=some .cell∨sc.names.lookup y.1=some .free):=by decide +kernel)
    (hs:∀ x,foldedSetIterable iter X.env x=pure x:=by intro _;rfl) (hsw:swapsWith (.ListComp elt [⟨tg,iter,ifs,0⟩] scope pos) (some (.Name y py)) spos.line X.env=pure true:=by rfl) :
    PS X (.Assign [.Name y py] (.ListComp elt [⟨tg,iter,ifs,0⟩] scope pos) spos) (tS (kk X cm) E (mSet i (mComp js nl mi g mt me))) :=
  PS.wk (PS.nox (ps_comp hN hi0 hy hsw N' js nl sc hsc hcalm hi hg ht he hcap hlen hk hcell hnames hfree hs)) fun D σ H ⟨c,F,ρ,rel,h⟩=>comp_end ⟨c,F,ρ,rel,EndS.bind h fun r ρ1 v F1 H1 rel1 s1 q h1=>by
    cases r with
    | sh p=>exact h1 _ F1 H1 (rel1.put rfl ⟨v,rfl,q⟩) (Same.refl _)
    | ow ps =>
      obtain ⟨a,vs,rfl,q1,q2,q3,q4,q5⟩:=q
      exact h1 _ F1 H1 (rel1.putO ⟨a,vs,rfl,q1,q2,q3,q5⟩ q4) (Same.refl _)⟩
end
end P
namespace P
open PySem PySem.Spec PyProof.Rows L2 M2 M3 M4
def mBM (f:PV→List PV→Option PV) (mo:M PV) (ms:M (List PV)):M PV:=fun ρ => (mo ρ).bind fun p ρ1=>match p with
  | .str _=>(ms ρ1).bind fun ps ρ2=>Res.ofO (f p ps) ρ2
  | _ => .bad
@[simp] theorem ev_bm {f:PV→List PV→Option PV} {mo:M PV} {ms:M (List PV)} {ρ : PSt}:mBM f mo ms ρ = (mo ρ).bind fun p ρ1=>match p with
  | .str _=>(ms ρ1).bind fun ps ρ2=>Res.ofO (f p ps) ρ2
  | _ => .bad:=rfl
section
variable {X:Cx} {cm:String→Addr} {K:KK} {E:L2.St→XK} {o e:Expr} {es:List Expr} {name:Str} {apos cpos:Pos} {id:String} {r:V→List V→Hp→VK→Prop} {f:PV→List PV→Option PV} {mo:M PV} {ms:M (List PV)}
end
end P
namespace P
open PySem PySem.Spec PyProof.Rows L2 M2 M3 M4
section
variable {X:Cx} {pins:List (Addr×Obj)} {σ : L2.St} {H:Hp} {s:Shared} {h':Heap}
theorem turns {t':Nat} {fp:List Addr} (I:Inv X pins σ H s) (k:∀ b o,b∉fp→s.heap.get? b=some o→h'.get? b=some o) (hf:∀ b∈fp,FpOk X pins H b):Inv X pins σ H { s with heap:=h',toks:=t' }:=by
  have nit:∀ b u,H b=some u→b∉fp:=fun b u e z=>by rw [(hf b z).1] at e;cases e
  have hL:X.env.locals∉fp:=fun z=>(hf _ z).2.1 rfl
  refine I.step (g':=s.gens) (d':=s.drawn) (ch:=fp) (fun b hb => ?_) (fun b o _ _ hc e _=>k b o hc e) (fun b o _ _ hc e _=>⟨o.slots,k b o hc e⟩) (fun _ _ _ _ n=>n)
    (fun b o hc e=>⟨o,k b o hc e⟩) (fun _ _ e=>e) (fun _ _ _ e=>e) (fun b ps e=>⟨#[],by rw [e];simp⟩) (fun m hm => ?_) (fun b u e => ?_) I.bare
  · obtain ⟨f0,f1,f2,f3,f4,f5⟩:=hf b hb
    exact ⟨f3,f1,f4,f5⟩
  · obtain ⟨o,es,ep,ho,r⟩:=hm
    exact ⟨o,es,ep,k _ o hL ho,r⟩
  · refine (I.hok b u e).stay (fun c v hc q=>k c v ?_ q) (fun _ q=>q) fun _ _ q=>q
    rcases hc with z | z
    · rw [z];exact nit b u e
    · exact nit c _ z
theorem fp_upd {a b:Addr} {o:HO} (f:FpOk X pins H b) (h:b≠a):FpOk X pins (upd H a o) b:=⟨by rw [upd_ne h];exact f.1,f.2⟩
theorem laid_turns {t':Nat} {fp:List Addr} {u1 u2:Value} {x1 x2:V} (I:Inv X pins σ H s) (r1:RelV x1 u1) (r2:RelV x2 u2) (ht:∃ o,h'.get? s.heap.objs.size=some o∧o = { cls:=.type "tuple",data:=.seq #[u1,u2] })
    (k:∀ b o,b∉fp→s.heap.get? b=some o→h'.get? b=some o) (hf:∀ b∈fp,FpOk X pins H b) (hlt:∀ b∈fp,b<s.heap.objs.size) :
    Inv X pins σ (upd H s.heap.objs.size (.tup [x1,x2])) { s with heap:=h',toks:=t' }:=by
  have I1:Inv X pins σ (upd H s.heap.objs.size (.tup [x1,x2])) { s with heap:=s.heap.push { cls:=.type "tuple",data:=.seq #[u1,u2] },toks:=s.toks } :=
    I.laid (t':=s.toks) (fun b u e=>Heap.get?_push_of_some _ e) (Nat.le_refl _) ⟨by show 2≤sizeLine;decide,[u1,u2],.cons r1 (.cons r2 .nil),⟨_,Heap.get?_push_size _ rfl,rfl,_,rfl⟩⟩
  refine turns (fp:=fp) (s:={ s with heap:=s.heap.push { cls:=.type "tuple",data:=.seq #[u1,u2] },toks:=s.toks }) (h':=h') (t':=t') I1 (fun b o hb e => ?_) fun b hb=>fp_upd (hf b hb) (Nat.ne_of_lt (hlt b hb))
  rcases Heap.get?_push_cases e with ⟨rfl,rfl⟩ | e
  · obtain ⟨o,h1,h2⟩:=ht
    rw [h1,h2]
  · exact k b o hb e
end
def Ite (K:PySem.W.Frag) (a:Addr):It :=
  ⟨fun i H => ∃ xs x,SqL K H a xs∧xs[i]? = some x,fun i H y H' => ∃ x T,(∀ xs,SqL K H a xs→xs[i]? = some x)∧H T=none∧y = .ref T∧H'=upd H T (.tup [.int i,x]),fun i H => ∃ xs,SqL K H a xs∧xs.length≤i⟩
theorem turn_enum {P:Program} {w:World} {K:PySem.W.Frag} {elts:List Expr} {k:Nat} {pos:Pos} (a e it:Addr) (hne:e≠it):Turn P w K (.Tuple elts k pos) (Ite K a) [e,it] e (fun i h=>(∃ old,IsEnum h e it i old)∧h.IsListIter it a i) where
  mem:=by simp
  obj:=fun i h st b hb=>by
    obtain ⟨⟨old,he⟩,hit⟩:=st
    rcases List.mem_cons.mp hb with rfl | hb
    · exact ⟨_,he,fun v z=>by
        have z':Data.fields _=Data.cell v:=z
        cases z'⟩
    · have e':b=it:=by simpa using hb
      subst e'
      obtain ⟨o,e1,c,d⟩:=hit
      exact ⟨o,e1,fun v z=>by rw [d] at z;cases z⟩
  keep:=fun i h h' st k=>⟨let ⟨old,he⟩:=st.1;⟨old,k e (by simp) _ he⟩,st.2.at fun o q=>k it (by simp) o q⟩
  item:=by
    intro X hP hw hK hc i pins s σ H E I hf st hg
    subst hP hw hK
    obtain ⟨⟨old,he⟩,hit⟩:=st
    obtain ⟨xs,x,hq,hx⟩:=hg
    obtain ⟨its,rv,p,hz⟩:=I.list hq
    obtain ⟨u,hu,ru⟩:=rv.get hx
    have elt:e<s.heap.objs.size:=Heap.lt_size he
    have ilt:it<s.heap.objs.size:=by obtain ⟨_,q,_⟩:=hit;exact Heap.lt_size q
    refine wpAny_pyNext_enum_item he hit p.isList (x:=u) (by simpa using hu) hne fun h' ho hit' hT hsz hk => ?_
    refine ⟨.ref s.heap.objs.size,rfl,wpAny_letOwnedTupleGo_enum ho fun h'' he' hs' => ?_⟩
    have hs2:Heap.SameBut e h' h'':=hs'
    have hlt:∀ b ∈ [e,it],b<s.heap.objs.size:=fun b hb=>by
      rcases List.mem_cons.mp hb with rfl | hb
      · exact elt
      · have e':b=it:=by simpa using hb
        subst e';exact ilt
    have I2:=laid_turns (fp:=[e,it]) (h':=h'') (t':=s.toks+1) (x1:=.int i) I ⟨s.toks,rfl⟩ ru ⟨_,(hs2.2 _ (Nat.ne_of_gt elt)).trans hT,rfl⟩ (fun b o hb q=>by
      have hbe:b≠e:=fun z=>hb (by simp [z])
      have hbi:b≠it:=fun z=>hb (by simp [z])
      exact (hs2.2 b hbe).trans (hk b o hbe hbi q)) hf hlt
    refine ⟨.ref s.heap.objs.size,_,I2,rfl,⟨x,s.heap.objs.size,fun ys hy=>by rw [I.list_inj hy hq];exact hx,I.fresh,rfl,rfl⟩,⟨⟨u,?_⟩,hit'.at fun o q=>(hs2.2 it hne.symm).trans q⟩,fun b hb => ?_⟩
    · have he2:IsEnum h'' e it ((i:Int)+1) u:=he'
      show IsEnum h'' e it (((i+1:Nat):Int)) u
      rw [Int.natCast_add]
      exact he2
    · rw [upd_ne (Nat.ne_of_lt (hlt b hb))];exact (hf b hb).1
  done:=by
    intro X hP hw hK hc i pins s σ H E I hf st hg
    subst hP hw hK
    obtain ⟨⟨old,he⟩,hit⟩:=st
    obtain ⟨xs,hq,hx⟩:=hg
    obtain ⟨its,rv,p,hz⟩:=I.list hq
    have hl:=rv.length
    refine wpAny_pyNext_enum_end (I.ok.hd hc) he hit p.isList (by simp;omega) fun h' eb=>⟨rfl,turns (fp:=[e,it]) (t':=s.toks) I (fun b o hb q=>eb b o (fun z=>hb (by simp [z])) q) hf⟩
  self:=fun _ _ _ _ _ st h=>let ⟨_,he⟩:=st.1;wpAny_pyIter_enum he h
section
variable {X:Cx} {elts:List Expr} {k:Nat} {tp:Pos}
def iEnum (K:PySem.W.Frag) (ta:TA):TI:=fun σ H R=>ta σ H fun vs H1 => ∃ a,vs = [.ref a]∧(∃ xs,SqL K H1 a xs)∧R (Ite K a) H1
theorem pi_enum {l:Expr} {ta:TA} {p pos:Pos} (hg:Gl X "enumerate") (hm:X.mg "enumerate" = none) (ha:PA X [l] ta) (hs:starEach [l] X.env = [(false,eval l X.env)]:=by exact st_ns rfl):PI X (.Tuple elts k tp) (.Call (.Name "enumerate" p) [l] [] pos) (iEnum X.K ta):=by
  intro pins s σ H R I h
  refine Call_ (ld_blt I hg hm boot_enumerate (PyProof.Rows.callWith_type1 (thn (ha pos pins s σ H _ I h) fun us s1 ⟨vs,H1,I1,r1,q1⟩ => ?_) hs rfl))
  obtain ⟨a,e,⟨xs,hq⟩,q⟩:=q1
  subst e
  obtain ⟨u,rfl,ru⟩:=r1.one
  cases ru
  obtain ⟨its,rv,pl,hz⟩:=I1.list hq
  refine call_enumerate_list pl.isList fun h' he hit hsz hk => ?_
  have I2:Inv X pins σ H1 { s1 with heap:=h' }:=I1.kept (t':=s1.toks) hk
  refine wpAny_pyIter_enum (s:={ s1 with heap:=h' }) he ⟨s1.heap.objs.size+1,[s1.heap.objs.size+1,s1.heap.objs.size],_,_,H1,rfl,I2,turn_enum a _ _ (Nat.succ_ne_self _),⟨⟨_,he⟩,hit⟩,fun b hb => ?_,q⟩
  have hb':s1.heap.objs.size≤b:=by
    rcases List.mem_cons.mp hb with rfl | hb
    · exact Nat.le_succ _
    · have e':b=s1.heap.objs.size:=by simpa using hb
      exact Nat.le_of_eq e'.symm
  exact I1.fpOk hb' (I1.hok.fresh hb')
end
def rLs (K:KK):RR (List PV) V:=fun c _ _ F H items v => ∃ a,v = .ref a∧(∃ xs,SqL K.K H a xs)∧ItOk K c.L F (Itl K.K a) items
theorem itok_lst {K:KK} {L F:Hp} {ps:List PV} {v:V} (h:Rep K F (.lst ps) v):∃ a,v = .ref a∧(∃ xs,SqL K.K F a xs)∧ItOk K L F (Itl K.K a) ps:=by
  unfold Rep at h
  obtain ⟨a,vs,rfl,e1,e2⟩:=h
  refine ⟨a,rfl,⟨vs,e1⟩,?_⟩
  intro c' i F2 H2 σ2 ρ2 rel2 sF _
  have hq:SqL K.K H2 a vs:=(sF.trans rel2.sub).seq e1
  refine ⟨fun p hp => ?_,fun hi=>⟨vs,hq,by rw [hi,e2.length];exact Nat.le_refl _⟩⟩
  obtain ⟨u,hu,ru⟩:=pr_get e2.pr hp
  refine ⟨⟨vs,u,hq,hu⟩,fun x H' ⟨hH,hx⟩ => ?_⟩
  subst hH
  have:vs[i]? = some x:=hx vs hq
  rw [hu] at this
  cases this
  exact ⟨F2,rel2,Same.refl _,Same.refl _,Rep.same sF p u ru⟩
theorem itok_lent {K:KK} {c:Ctx} {F:Hp} {a:Addr} {vs:List V} {ps:List PV} (h2:c.L a=some (.lst vs)) (h3:RepL K F ps vs):ItOk K c.L F (Itl K.K a) ps:=by
  intro c' j F2 H2 σ2 ρ2 rel2 sF sL
  have hq:SqL K.K H2 a vs:=SqL.of (sL a _ h2)
  refine ⟨fun p hp => ?_,fun hi=>⟨vs,hq,by rw [hi,h3.length];exact Nat.le_refl _⟩⟩
  obtain ⟨u,hu,ru⟩:=pr_get h3.pr hp
  refine ⟨⟨vs,u,hq,hu⟩,fun x H' ⟨hH,hx⟩ => ?_⟩
  subst hH
  have:vs[j]? = some x:=hx vs hq
  rw [hu] at this
  cases this
  exact ⟨F2,rel2,Same.refl _,Same.refl _,Rep.same sF p u ru⟩
def mLs (m:M PV):M (List PV):=fun ρ => (m ρ).bind fun p ρ1=>match p with
  | .lst ps => .ok ps ρ1
  | _ => .bad
def mSq (m:M PV):M (List PV):=fun ρ => (m ρ).bind fun p ρ1=>match p with
  | .lst ps => .ok ps ρ1
  | .tup ps => .ok ps ρ1
  | _ => .bad
def mLsN (i:Nat):M (List PV):=fun ρ => match ρ[i]? with
  | some (.bw ps) => .ok ps ρ
  | some (.sh (.lst ps)) => .ok ps ρ
  | some (.ow ps) => .ok ps (ρ.set i (.sh (.lst ps)))
  | _ => .bad
def mSqN (i:Nat):M (List PV):=fun ρ => match ρ[i]? with
  | some (.bw ps) => .ok ps ρ
  | some (.sh (.lst ps)) => .ok ps ρ
  | some (.sh (.tup ps)) => .ok ps ρ
  | some (.ow ps) => .ok ps (ρ.set i (.sh (.lst ps)))
  | _ => .bad
section
variable {X:Cx} {cm:String→Addr} {E:L2.St→XK} {e:Expr} {m:M PV}
theorem q_lsN (i:Nat) {x:Str} {px:Pos} (hN:X.N[i]? = some x:=by rfl) (hv:Vis X.env.scope x:=by first | exact Or.inl rfl | exact Or.inr (Or.inl rfl) | exact Or.inr (Or.inr rfl)) (hd:(x == ("__debug__" : Str))=false:=by decide)
    (hcd:(x == ("__classdict__" : Str))=false:=by decide):PE X (.Name x px) (tG (kk X cm) E (rLs (kk X cm)) (mLsN i)):=PE.wk (pe_var hN hv hd hcd) fun σ H Q ⟨c,F,ρ,rel,h⟩=>by
  unfold mLsN at h
  cases e : ρ[i]? with
  | none=>rw [e] at h;exact h.elim
  | some sl =>
    rw [e] at h
    cases sl with
    | no=>exact h.elim
    | rc C ns ps=>exact h.elim
    | ow ps =>
      obtain ⟨a,vs,z1,z2,z3,z4⟩:=rel.share e
      obtain ⟨a',e1,⟨xs,e2⟩,e3⟩:=itok_lst (L:=c.L) z3
      cases e1
      exact ⟨.ref a,z1,h _ _ H z4 (Same.upd z2) (Same.refl _) ⟨a,rfl,⟨xs,z4.sub.seq e2⟩,e3⟩⟩
    | bw ps =>
      obtain ⟨a,vs,h1,h2,h3⟩:=rel.slot i _ e
      exact ⟨.ref a,at_of h1,h _ F H rel (Same.refl _) (Same.refl _) ⟨a,rfl,⟨vs,SqL.of (rel.lent a _ h2).1⟩,itok_lent h2 h3⟩⟩
    | sh p =>
      obtain ⟨v,h1,h2⟩:=rel.slot i _ e
      cases p with
      | lst ps =>
        obtain ⟨a,e1,⟨xs,e2⟩,e3⟩:=itok_lst (L:=c.L) h2
        exact ⟨v,at_of h1,h v F H rel (Same.refl _) (Same.refl _) ⟨a,e1,⟨xs,rel.sub.seq e2⟩,e3⟩⟩
      | _=>exact h.elim
def enumP:Nat→List PV→List PV
  | _,[] => []
  | k,p::ps => .tup [.int k,p]::enumP (k+1) ps
theorem enumP_len:∀ (k:Nat) (ps:List PV),(enumP k ps).length=ps.length
  | _,[]=>rfl
  | k,_::ps=>congrArg (· + 1) (enumP_len (k+1) ps)
theorem enumP_get:∀ (k:Nat) (ps:List PV) (i:Nat),(enumP k ps)[i]? = ps[i]?.map fun p => .tup [.int ((k+i:Nat):Int),p]
  | _,[],_=>rfl
  | k,p::ps,0=>rfl
  | k,p::ps,i+1=>by
    show (enumP (k+1) ps)[i]? = _
    rw [enumP_get (k+1) ps i,List.getElem?_cons_succ,show k+1+i=k+(i+1) by omega]
def mEnum (m:M (List PV)):M (List PV):=fun ρ => (m ρ).bind fun ps ρ1 => .ok (enumP 0 ps) ρ1
theorem rel_tup {K:KK} {c:Ctx} {F H:Hp} {σ : L2.St} {ρ : PSt} {T:Addr} {p q:PV} {x y:V} (rel:Rel K c F H σ ρ) (hT:H T=none) (r1:Rep K F p x) (r2:Rep K F q y):Rel K c (upd F T (.tup [x,y])) (upd H T (.tup [x,y])) σ ρ ∧ Rep K (upd F T (.tup [x,y])) (.tup [p,q]) (.ref T):=by
  have hF:=rel.sub.free hT
  refine ⟨rel.alloc hT,?_⟩
  unfold Rep
  exact ⟨T,[x,y],rfl,SqT.of upd_same,RepL.cons (Rep.same (Same.upd hF) p x r1) (RepL.cons (Rep.same (Same.upd hF) q y r2) RepL.nil)⟩
theorem itok_enum {K:KK} {L F:Hp} {a:Addr} {ps:List PV} (h:ItOk K L F (Itl K.K a) ps):ItOk K L F (Ite K.K a) (enumP 0 ps):=by
  intro c i F2 H σ ρ rel sF sL
  obtain ⟨g,st⟩:=h c i F2 H σ ρ rel sF sL
  refine ⟨fun p hp => ?_,fun hi=>st (by rw [hi,enumP_len])⟩
  rw [enumP_get] at hp
  cases eq:ps[i]? with
  | none=>rw [eq] at hp;cases hp
  | some q =>
    rw [eq] at hp
    have hp':PV.tup [.int ((0+i:Nat):Int),q]=p:=Option.some.inj hp
    subst hp'
    obtain ⟨⟨xs,x,hq,hx⟩,g2⟩:=g q eq
    refine ⟨⟨xs,x,hq,hx⟩,fun y H' ⟨x',T,h1,hT,ey,eH⟩ => ?_⟩
    subst ey eH
    obtain ⟨F3,rel3,s3,_,rp⟩:=g2 x' H ⟨rfl,h1⟩
    obtain ⟨r1,r2⟩:=rel_tup (p:=.int i) (x:=.int i) rel3 hT (by unfold Rep;rfl) rp
    refine ⟨_,r1,s3.trans (Same.upd (rel3.sub.free hT)),Same.upd hT,?_⟩
    rw [Nat.zero_add]
    exact r2
theorem i_enum {elts:List Expr} {k:Nat} {tp p pos:Pos} {mi:M (List PV)} (hg:Gl X "enumerate") (hm:X.mg "enumerate" = none) (hl:PE X e (tG (kk X cm) E (rLs (kk X cm)) mi)) (hs:starEach [e] X.env = [(false,eval e X.env)]:=by exact st_ns rfl) :
    PI X (.Tuple elts k tp) (.Call (.Name "enumerate" p) [e] [] pos) (tI (kk X cm) E (mEnum mi)):=fun pins s σ H R I h=>pi_enum hg hm (pa_cons hl pa_nil hs) hs pins s σ H R I (by
  obtain ⟨c,F,ρ,rel,h⟩:=h
  refine ⟨c,F,ρ,rel,h.bind fun ps ρ1 v F1 H1 rel1 s1 s2 q h1 => ?_⟩
  obtain ⟨a,e1,e2,e3⟩:=q
  subst e1
  exact ⟨a,rfl,e2,h1 _ F1 H1 rel1 (Same.refl _) (Same.refl _) (itok_enum e3)⟩)
def mExt (i:Nat) (mo:M RV):M Fl:=fun ρ => match ρ[i]? with
  | some (.ow _)=>(mo ρ).bind fun r ρ1=>match ρ1[i]?,r with
    | some (.ow ps),.ow qs=>if ps.length+qs.length≤16777216 then .ok .nx (ρ1.set i (.ow (ps++qs))) else .bad
    | _,_ => .bad
  | _ => .bad
def mClr (i:Nat):M Fl:=fun ρ => match ρ[i]? with
  | some (.ow _) => .ok .nx (ρ.set i (.ow []))
  | _ => .bad
@[simp] theorem ev_clr {i:Nat} {ρ : PSt}:mClr i ρ = (match ρ[i]? with
  | some (.ow _) => .ok .nx (ρ.set i (.ow []))
  | _ => .bad):=rfl
@[simp] theorem ev_ext {i:Nat} {mo:M RV} {ρ : PSt}:mExt i mo ρ = (match ρ[i]? with
  | some (.ow _)=>(mo ρ).bind fun r ρ1=>match ρ1[i]?,r with
    | some (.ow ps),.ow qs=>if ps.length+qs.length≤16777216 then .ok .nx (ρ1.set i (.ow (ps++qs))) else .bad
    | _,_ => .bad
  | _ => .bad):=rfl
@[simp] theorem ev_enum {mi:M (List PV)} {ρ : PSt}:mEnum mi ρ = (mi ρ).bind fun ps ρ1 => .ok (enumP 0 ps) ρ1:=rfl
@[simp] theorem ev_ls {ρ : PSt}:mLs m ρ = (m ρ).bind fun p ρ1=>match p with
  | .lst ps => .ok ps ρ1
  | _ => .bad:=rfl
@[simp] theorem ev_sq {ρ : PSt}:mSq m ρ = (m ρ).bind fun p ρ1=>match p with
  | .lst ps => .ok ps ρ1
  | .tup ps => .ok ps ρ1
  | _ => .bad:=rfl
@[simp] theorem ev_lsN {i:Nat} {ρ : PSt}:mLsN i ρ = (match ρ[i]? with
  | some (.bw ps) => .ok ps ρ
  | some (.sh (.lst ps)) => .ok ps ρ
  | some (.ow ps) => .ok ps (ρ.set i (.sh (.lst ps)))
  | _ => .bad):=rfl
@[simp] theorem ev_sqN {i:Nat} {ρ : PSt}:mSqN i ρ = (match ρ[i]? with
  | some (.bw ps) => .ok ps ρ
  | some (.sh (.lst ps)) => .ok ps ρ
  | some (.sh (.tup ps)) => .ok ps ρ
  | some (.ow ps) => .ok ps (ρ.set i (.sh (.lst ps)))
  | _ => .bad):=rfl
end
end P
namespace P
open PySem PySem.Spec PyProof.Rows L2 M2 M3 M4
theorem ip_or {X:Cx}:PIp X .BitOr (ipI fun i j=>Builtin.bitOr i j):=by
  intro pins s σ H x y v u Q I r1 r2 h
  obtain ⟨i,j,e1,e2,q⟩:=h
  subst e1;subst e2
  obtain ⟨t,rfl⟩:=r1
  obtain ⟨t',rfl⟩:=r2
  exact ior_int ⟨.int _,H,I.tok _,⟨_,rfl⟩,q⟩
def mOrEq (i:Nat) (m:M PV):M Fl:=fun ρ => match ρ[i]? with
  | some (.sh (.int _))=>(m ρ).bind fun q ρ1=>match ρ1[i]?,q with
    | some (.sh (.int k)),.int j => .ok .nx (ρ1.set i (.sh (.int (Builtin.bitOr k j))))
    | _,_ => .bad
  | _ => .bad
@[simp] theorem ev_oreq {i:Nat} {m:M PV} {ρ : PSt}:mOrEq i m ρ = (match ρ[i]? with
  | some (.sh (.int _))=>(m ρ).bind fun q ρ1=>match ρ1[i]?,q with
    | some (.sh (.int k)),.int j => .ok .nx (ρ1.set i (.sh (.int (Builtin.bitOr k j))))
    | _,_ => .bad
  | _ => .bad):=rfl
section
variable {X:Cx} {cm:String→Addr} {E:L2.St→XK} {e a b:Expr} {m ma mb:M PV} {pos:Pos}
theorem rep_int {K:KK} {F:Hp} {i:Int} {v:V} (h:Rep K F (.int i) v):v = .int i:=by unfold Rep at h;exact h
theorem s_oreq {i:Nat} {x:Str} {pos':Pos} (hN:X.N.Nodup) (hi:X.N[i]? = some x) (hx:Loc X.env.scope x) (he:PE X e (tV (kk X cm) E m)) (hf:X.fn x=true∨X.env.scope.names.lookup x=some .local:=by first | exact .inl rfl | exact .inr rfl | assumption) :
    PS X (.AugAssign (.Name x pos') .BitOr e pos) (tS (kk X cm) E (mOrEq i m)):=PS.wk (ps_aug hN hi hx he ip_or hf) fun D σ H ⟨c,F,ρ,rel,h⟩=>by
  unfold mOrEq at h
  cases e1 : ρ[i]? with
  | none=>rw [e1] at h;exact h.elim
  | some sl =>
    rw [e1] at h
    cases sl with
    | sh p =>
      cases p with
      | int k0 =>
        obtain ⟨v,h1,h2⟩:=rel.slot i _ e1
        cases rep_int h2
        refine ⟨.int k0,at_of h1,c,F,ρ,rel,EndS.bind h fun q ρ1 u F1 H1 rel1 s1 rq h1' => ?_⟩
        cases e2 : ρ1[i]? with
        | none=>simp only [e2] at h1';exact h1'.elim
        | some sl2 =>
          simp only [e2] at h1'
          cases sl2 with
          | sh p2 =>
            cases p2 with
            | int k =>
              cases q with
              | int j =>
                obtain ⟨v2,w1,w2⟩:=rel1.slot i _ e2
                cases rep_int w2
                rw [h1] at w1
                cases w1
                cases rep_int rq
                exact ⟨k0,j,rfl,rfl,h1' _ F1 H1 (rel1.put rfl ⟨_,rfl,Rep.int⟩) (Same.refl _)⟩
              | _=>exact h1'.elim
            | _=>exact h1'.elim
          | _=>exact h1'.elim
      | _=>exact h.elim
    | _=>exact h.elim
theorem um_inv:UnR X (unaryOp .Invert) (mU fun i => .int (Builtin.bitNot i)):=by
  intro pins s σ H x v Q I r h
  unfold mU at h
  split at h
  · obtain ⟨t,rfl⟩:=r
    exact invert_int ⟨.int _,H,I.tok _,⟨_,rfl⟩,h⟩
  · exact h.elim
def opInv:PV→Option PV
  | .int i=>some (.int (Builtin.bitNot i))
  | _=>none
@[simp] theorem ev_invI {i:Int}:opInv (.int i)=some (.int (Builtin.bitNot i)):=rfl
theorem uv_inv {K:KK}:UnV K (mU fun i => .int (Builtin.bitNot i)) opInv:=by
  intro c F H σ ρ p pv v Q rel r e k
  unfold opInv at e
  split at e
  · cases e
    cases r.int
    exact k _ F H rel (Same.refl _) (Same.refl _) Rep.int
  · cases e
def mBits (m:M PV):M PV:=fun ρ => (m ρ).bind fun p ρ1=>match p with
  | .int i => .ok (.int ((Builtin.Int.intBits i:Nat):Int)) ρ1
  | _ => .bad
@[simp] theorem ev_bits {ρ : PSt}:mBits m ρ = (m ρ).bind fun p ρ1=>match p with
  | .int i => .ok (.int ((Builtin.Int.intBits i:Nat):Int)) ρ1
  | _ => .bad:=rfl
def mRev (m:M PV):M RV:=fun ρ => (m ρ).bind fun p ρ1=>match p with
  | .lst ps => .ok (.ow ps.reverse) ρ1
  | _ => .bad
@[simp] theorem ev_rev {ρ : PSt}:mRev m ρ = (m ρ).bind fun p ρ1=>match p with
  | .lst ps => .ok (.ow ps.reverse) ρ1
  | _ => .bad:=rfl
end
section
variable {X:Cx} {K:KK}
end
end P
namespace P
open PySem PySem.Spec PyProof.Rows L2 M2 M3 M4
section
variable {prog:Program} {w:World} {A:Around} {E:Value→Shared→Prop} {s:Shared}
end
section
variable {prog:Program} {w:World} {A:Around} {E:Value→Shared→Prop} {s:Shared}
end
section
variable {prog:Program} {w:World} {A:Around} {E:Value→Shared→Prop} {s:Shared}
end
def IterB (b:Bool) (h:Heap) (it l:Addr) (i:Nat):Prop:=if b=true then h.IsTupleIter it l i else h.IsListIter it l i
def nmB (b:Bool):String:=if b=true then "tuple_iterator" else "list_iterator"
theorem IterB.ex {b:Bool} {h:Heap} {it l:Addr} {i:Nat} (x:IterB b h it l i):∃ o,h.get? it=some o∧o.cls = .type (nmB b)∧o.data = .fields #[.ref l,.int i 0]:=by
  cases b with
  | true=>exact x
  | false=>exact x
section
variable {X:Cx} {pins:List (Addr×Obj)} {σ : L2.St} {H:Hp} {s:Shared}
end
section
variable {prog:Program} {w:World} {A:Around} {E:Value→Shared→Prop} {s:Shared}
end
section
variable {X:Cx} {elts:List Expr} {k:Nat} {tp:Pos}
end
section
variable {X:Cx} {cm:String→Addr} {E:L2.St→XK} {e e2:Expr}
end
end P
namespace P
open PySem PySem.Spec PyProof.Rows L2 M2 M3 M4
def mInD (K:PySem.W.Frag) (neg:Bool):R2:=fun x y H Q => ∃ d es a xs,Rp K H d x∧y = .ref a∧(SqL K H a xs∨SqT K H a xs)∧RpA K H es xs∧d.canLay0=true∧PyData.canLayAll0 es=true∧d.depth≤60∧Q (.bl (if neg then !(es.any fun e=>PyData.eqv e d) else es.any fun e=>PyData.eqv e d)) H
open Classical in
noncomputable def eRd (h:Heap) (d:PyData) (y:Value):Bool:=if ∃ e as,Reads h y e as∧e.canLay0=true∧PyData.eqv e d=true then true else false
theorem eRd_is {h:Heap} {d e:PyData} {y:Value} {as:List Addr} (r:Reads h y e as) (hc:e.canLay0=true):eRd h d y=PyData.eqv e d:=by
  unfold eRd
  cases q:PyData.eqv e d with
  | true=>rw [if_pos ⟨e,as,r,hc,q⟩]
  | false =>
    rw [if_neg]
    rintro ⟨e',as',r',hc',q'⟩
    have:=SeqAt.Reads.unique e e' y as as' hc r r'
    subst this
    rw [q] at q'
    cases q'
theorem any_eRd {h:Heap} {d:PyData}:∀ {us:List Value} {es:List PyData} {as:List Addr},ReadsAll h us es as→PyData.canLayAll0 es=true→us.any (eRd h d)=es.any fun e=>PyData.eqv e d
  | _,_,_,.nil,_=>rfl
  | _,_,_,.cons r rs,hc=>by
    unfold PyData.canLayAll0 at hc
    rw [Bool.and_eq_true] at hc
    rw [List.any_cons,List.any_cons,eRd_is r hc.1,any_eRd rs hc.2]
theorem mem_eRd {A:Around} {s:Shared} {d:PyData} {v:Value} {bs:List Addr} (rv:Reads s.heap v d bs) (hd:d.canLay0=true) (hu:A.units+d.depth<cLine):∀ {us:List Value} {es:List PyData} {as:List Addr},ReadsAll s.heap us es as→PyData.canLayAll0 es=true→∀ u∈us,SeqAt.EqAt A s u v (eRd s.heap d u)
  | _,_,_,.nil,_=>fun u hu=>by cases hu
  | _,_,_,.cons r rs,hc=>fun u hm=>by
    unfold PyData.canLayAll0 at hc
    rw [Bool.and_eq_true] at hc
    rcases List.mem_cons.mp hm with rfl | hm
    · rw [eRd_is r hc.1]
      exact SeqAt.eqAt_reads _ _ A s _ _ _ _ r rv hc.1 hd (by omega)
    · exact mem_eRd rv hd hu rs hc.2 u hm
section
variable {X:Cx}
theorem op_notInD (hu:X.A.units+64<cLine):OpR X (compareOp .NotIn) (mInD X.K true):=by
  intro pins s σ H x y v u Q I rx ry h
  obtain ⟨d,es,a,xs,h1,rfl,hq,h3,h4,h5,h6,q⟩:=h
  cases ry
  obtain ⟨as,ra⟩:=Rp.reads I d x v h1 rx
  have hu1:X.A.in1.units+d.depth<cLine:=by
    have:X.A.in1.units=X.A.units+1:=rfl
    omega
  rcases hq with hq | hq
  · obtain ⟨its,r,pl,hz⟩:=I.list hq
    obtain ⟨bs,rb⟩:=RpA.reads I es xs its h3 r
    refine SeqAt.notIn_listAt (eRd s.heap d) pl.isList (fun w hw=>mem_eRd ra h4 hu1 rb h5 w (by simpa using hw)) ⟨.bl _,H,I,rfl,?_⟩
    rw [show its.toArray.any (eRd s.heap d)=its.any (eRd s.heap d) by simp,any_eRd rb h5]
    exact q
  · obtain ⟨its,r,pl,hz⟩:=I.tuple hq
    obtain ⟨bs,rb⟩:=RpA.reads I es xs its h3 r
    refine SeqAt.notIn_tupleAt (eRd s.heap d) pl (fun w hw=>mem_eRd ra h4 hu1 rb h5 w (by simpa using hw)) ⟨.bl _,H,I,rfl,?_⟩
    rw [show its.toArray.any (eRd s.heap d)=its.any (eRd s.heap d) by simp,any_eRd rb h5]
    exact q
end
def inD (neg:Bool) (p q:PV):Option PV:=match q with
  | .lst ps=>if dOk p && dOkL ps && decide (dep p≤60) then some (.bl (if neg then !(ps.any fun y=>eqB y p) else ps.any fun y=>eqB y p)) else none
  | .tup ps=>if dOk p && dOkL ps && decide (dep p≤60) then some (.bl (if neg then !(ps.any fun y=>eqB y p) else ps.any fun y=>eqB y p)) else none
  | _=>none
theorem any_toD {p:PV} (h:dOk p=true):∀ {ps:List PV},dOkL ps=true→(toDL ps).any (fun e=>PyData.eqv e (toD p))=ps.any fun y=>eqB y p
  | [],_=>rfl
  | y::ps,hp=>by
    unfold dOkL at hp
    rw [Bool.and_eq_true] at hp
    unfold toDL
    rw [List.any_cons,List.any_cons,toD_eq y p hp.1 h,any_toD h hp.2]
theorem ov_inD {K:KK} {neg:Bool}:OpV K (mInD K.K neg) (inD neg):=by
  intro c F H σ ρ p q pv v u Q rel r1 r2 e k
  unfold inD at e
  split at e
  · rename_i ps
    split at e
    · rename_i hc
      rw [Bool.and_eq_true,Bool.and_eq_true,decide_eq_true_eq] at hc
      cases e
      obtain ⟨a,xs,rfl,h1,h2⟩:=r2.lst rel.sub
      refine ⟨toD p,toDL ps,a,xs,rp_read rel.sub hc.1.1 r1,rfl,.inl h1,RpA.same rel.sub _ _ (toDL_rp ps xs hc.1.2 h2),toD_lay p hc.1.1,toDL_lay ps hc.1.2,by rw [toD_dep];exact hc.2,?_⟩
      rw [any_toD hc.1.1 hc.1.2]
      exact k _ F H rel (Same.refl _) (Same.refl _) Rep.bl
    · cases e
  · rename_i ps
    split at e
    · rename_i hc
      rw [Bool.and_eq_true,Bool.and_eq_true,decide_eq_true_eq] at hc
      cases e
      obtain ⟨a,xs,rfl,h1,h2⟩:=r2.tup rel.sub
      refine ⟨toD p,toDL ps,a,xs,rp_read rel.sub hc.1.1 r1,rfl,.inr h1,RpA.same rel.sub _ _ (toDL_rp ps xs hc.1.2 h2),toD_lay p hc.1.1,toDL_lay ps hc.1.2,by rw [toD_dep];exact hc.2,?_⟩
      rw [any_toD hc.1.1 hc.1.2]
      exact k _ F H rel (Same.refl _) (Same.refl _) Rep.bl
    · cases e
  · cases e
def mNoX {α : Type} (m:M α):M α := fun ρ => match m ρ with
  | .ok a ρ' => .ok a ρ'
  | _ => .bad
@[simp] theorem ev_nox {α : Type} {m:M α} {ρ : PSt}:mNoX m ρ = (match m ρ with
  | .ok a ρ' => .ok a ρ'
  | _ => .bad):=rfl
theorem i_nox {X:Cx} {cm:String→Addr} {E:L2.St→XK} {tg l:Expr} {mi:M (List PV)} (h:PI X tg l (tI (kk X cm) EF mi)):PI X tg l (tI (kk X cm) E (mNoX mi)):=fun pins s σ H R I hh=>h pins s σ H R I (by
  obtain ⟨c,F,ρ,rel,h'⟩:=hh
  refine ⟨c,F,ρ,rel,?_⟩
  unfold mNoX at h'
  cases e:mi ρ with
  | ok a ρ'=>rw [e] at h';exact h'
  | exc x ρ'=>rw [e] at h';exact h'.elim
  | bad=>rw [e] at h';exact h')
end P
namespace P
open PySem PySem.Spec PyProof.Rows L2 M2 M3 M4
theorem bits_lt {x:Int} {n:Nat} (h1 : -(2 ^ n:Int)<x) (h2:x<2 ^ n):bits x≤n:=by
  refine intBits_le_iff.mpr ?_
  have e:((2 ^ n:Nat):Int)=(2:Int) ^ n:=by simp
  have:((x.natAbs:Nat):Int)<((2 ^ n:Nat):Int):=by rw [e];omega
  omega
theorem fdv_s {x y:Int} (h:y≠0) (h1 : -18446744073709551616<y) (h2:y<18446744073709551616):fdvOk x y=true:=fdv_b h (Nat.le_trans (bits_lt (n:=64) (by omega) (by omega)) (by decide))
@[simp] theorem fdv_lit {x:Int} {n:Nat} (h:n≠0) (h2:n<18446744073709551616):fdvOk x (no_index (OfNat.ofNat n):Int)=true:=by
  have e:(no_index (OfNat.ofNat n):Int)=(n:Int):=rfl
  rw [e]
  exact fdv_s (by omega) (by omega) (by omega)
@[simp] theorem mul_litr {x:Int} {n:Nat} (h:n<18446744073709551616):mulOk x (no_index (OfNat.ofNat n):Int)=true:=by
  have e:(no_index (OfNat.ofNat n):Int)=(n:Int):=rfl
  rw [e]
  exact mul_r (by omega) (by omega)
@[simp] theorem mul_litl {x:Int} {n:Nat} (h:n<18446744073709551616):mulOk (no_index (OfNat.ofNat n):Int) x=true:=by
  have e:(no_index (OfNat.ofNat n):Int)=(n:Int):=rfl
  rw [e]
  exact mul_l (by omega) (by omega)
@[simp] theorem pow_lit {m n:Nat} (h:m<18446744073709551616) (h2:n≤1000000):powOk (no_index (OfNat.ofNat m):Int) (no_index (OfNat.ofNat n):Int)=true:=by
  have e:(no_index (OfNat.ofNat m):Int)=(m:Int):=rfl
  have e2:(no_index (OfNat.ofNat n):Int)=(n:Int):=rfl
  rw [e,e2]
  unfold powOk
  simp
  omega
@[simp] theorem fdiv_lit {x:Int} {n:Nat}:x.fdiv (no_index (OfNat.ofNat n):Int)=x / (no_index (OfNat.ofNat n):Int):=Int.fdiv_eq_ediv_of_nonneg x (Int.natCast_nonneg n)
@[simp] theorem fmod_lit {x:Int} {n:Nat}:x.fmod (no_index (OfNat.ofNat n):Int)=x % (no_index (OfNat.ofNat n):Int):=Int.fmod_eq_emod_of_nonneg x (Int.natCast_nonneg n)
end P
namespace P
open PySem PySem.Spec PyProof.Rows L2 M2 M3 M4
theorem add_l {xs ys:List PV} (h:xs.length+ys.length≤16777216):opAdd (.lst xs) (.lst ys)=some (.ow (xs++ys)):=by
  unfold opAdd
  simp [h]
theorem eq_tup {x y z w:Int}:eqB (.tup [.int x,.int y]) (.tup [.int z,.int w])=(decide (x=z) && decide (y=w)):=by
  rw [eqB.eq_def]
  show eqBL [.int x,.int y] [.int z,.int w]=_
  rw [eqBL.eq_def]
  show (eqB (.int x) (.int z) && eqBL [.int y] [.int w])=_
  rw [eqBL.eq_def]
  show (eqB (.int x) (.int z) && (eqB (.int y) (.int w) && eqBL [] []))=_
  have h1:eqB (.int x) (.int z)=decide (x=z):=by rw [eqB.eq_def];rfl
  have h2:eqB (.int y) (.int w)=decide (y=w):=by rw [eqB.eq_def];rfl
  have h3:eqBL [] []=true:=by rw [eqBL.eq_def]
  rw [h1,h2,h3,Bool.and_true]
mutual
theorem eqB_refl:∀ p:PV,dOk p=true→eqB p p=true
  | .non,_=>by unfold eqB;rfl
  | .bl b,_=>by unfold eqB;simp
  | .int i,_=>by unfold eqB;simp
  | .str x,_=>by unfold eqB;simp
  | .lst xs,h=>by unfold dOk at h;unfold eqB;exact eqBL_refl xs h
  | .tup xs,h=>by unfold dOk at h;unfold eqB;exact eqBL_refl xs h
  | .ins _ _ _,h=>by simp [dOk] at h
  | .xc _ _ _,h=>by simp [dOk] at h
  | .ty _,h=>by simp [dOk] at h
  | .cls _,h=>by simp [dOk] at h
theorem eqBL_refl:∀ ps:List PV,dOkL ps=true→eqBL ps ps=true
  | [],_=>by unfold eqBL;rfl
  | p::ps,h=>by
    unfold dOkL at h
    rw [Bool.and_eq_true] at h
    unfold eqBL
    rw [eqB_refl p h.1,eqBL_refl ps h.2]
    rfl
end
theorem opNe_refl {p:PV} (h:dOk p=true) (hd:dep p≤60):opNe p p=some (.bl false):=by
  unfold opNe eqOk
  rw [h,eqB_refl p h,decide_eq_true (by omega:min (dep p) (dep p)≤60)]
  rfl
theorem opEq_str {a b:Str} (ha:PyData.strOk a=true) (hb:PyData.strOk b=true):opEq (.str a) (.str b)=some (.bl (decide (a=b))):=by
  have h:eqB (.str a) (.str b)=decide (a=b):=by unfold eqB;rfl
  unfold opEq eqOk
  rw [show dOk (.str a)=true by unfold dOk;exact ha,show dOk (.str b)=true by unfold dOk;exact hb,h]
  rfl
theorem dOk_ints (ns:List Int):dOkL (ns.map PV.int)=true:=by
  induction ns with
  | nil=>simp [dOkL]
  | cons n ns ih=>simp [dOkL,dOk,ih]
theorem dep_ints (ns:List Int):depL (ns.map PV.int)=0:=by
  induction ns with
  | nil=>simp [depL]
  | cons n ns ih=>simp [depL,dep,ih]
end P
namespace P
open PySem PySem.Spec PyProof.Rows L2 M2 M3 M4
section
variable {g:Tg} {mb:M Fl} {mt:M Bool} {me:M PV}
theorem forL_fold {α β : Type} (c : α → PV) (step : β → α → β) (J : β → PSt→Prop):∀ (xs:List α),(∀ x∈xs,∀ b ρ,J b ρ → ∃ ρ1 ρ2,g (c x) ρ = some ρ1∧mb ρ1 = .ok .nx ρ2∧J (step b x) ρ2)→∀ b ρ,J b ρ → ∃ ρ',forL g mb (xs.map c) ρ = .ok .nx ρ'∧J (xs.foldl step b) ρ'
  | [],_,b,ρ,h=>⟨ρ,rfl,h⟩
  | x::xs,hs,b,ρ,h=>by
    obtain ⟨ρ1,ρ2,h1,h2,h3⟩:=hs x (by simp) b ρ h
    obtain ⟨ρ',e,h4⟩:=forL_fold c step J xs (fun y hy=>hs y (List.mem_cons_of_mem _ hy)) (step b x) ρ2 h3
    refine ⟨ρ',?_,h4⟩
    rw [List.map_cons,forL,h1]
    dsimp only
    rw [h2]
    exact e
theorem compL_filter {α : Type} (c f : α → PV) (q : α → Bool) (I:PSt→Prop):∀ (xs:List α) (ρ : PSt) (acc:List PV),I ρ → acc.length+xs.length≤16777216 →
    (∀ x∈xs,∀ ρ,I ρ → ∃ ρ1 ρ2,g (c x) ρ = some ρ1∧mt ρ1 = .ok (q x) ρ2∧(q x=false→I ρ2)∧(q x=true→∃ ρ3,me ρ2 = .ok (f x) ρ3∧I ρ3))→compL g mt me (xs.map c) ρ acc=some (acc++(xs.filter q).map f)
  | [],ρ,acc,_,_,_=>by simp [compL]
  | x::xs,ρ,acc,h,hz,hs=>by
    obtain ⟨ρ1,ρ2,h1,h2,h3,h4⟩:=hs x List.mem_cons_self ρ h
    cases e:q x with
    | true =>
      obtain ⟨ρ3,h5,h6⟩:=h4 e
      rw [e] at h2
      rw [List.map_cons,compL,h1]
      dsimp only
      rw [h2]
      dsimp only
      rw [h5]
      dsimp only
      rw [if_pos (by simp at hz;omega),compL_filter c f q I xs ρ3 (acc ++ [f x]) h6 (by simp at hz ⊢;omega) fun y hy=>hs y (List.mem_cons_of_mem _ hy)]
      simp [e]
    | false =>
      rw [e] at h2
      rw [List.map_cons,compL,h1]
      dsimp only
      rw [h2]
      dsimp only
      rw [compL_filter c f q I xs ρ2 acc (h3 e) (by simp at hz ⊢;omega) fun y hy=>hs y (List.mem_cons_of_mem _ hy)]
      simp [e]
end
end P
namespace P
open PySem PySem.Spec PyProof.Rows L2 M2 M3 M4
def gLst (K:PySem.W.Frag) (n:Nat) (t:TGs):TG:=fun v σ H Q => ∃ a xs,v = .ref a∧SqL K H a xs∧xs.length=n∧t xs σ H Q
section
variable {X:Cx} {cm:String→Addr} {pos:Pos}
theorem pg_lst {es:List Expr} {k:Nat} {t:TGs} {n:Nat} (hc:X.calm=true) (h:PGs X es t)
    (hn:(assignEach es X.env).length=n:=by rfl) (hst:(assignEach es X.env).findIdx? (·.1)=none:=by rfl):PG X (.Tuple es k pos) (gLst X.K n t):=by
  intro pins s σ H v u Q I r hw
  obtain ⟨a,xs,e1,hq,hl,hw⟩:=hw
  subst e1
  cases r
  obtain ⟨its,rv,ht,hz⟩:=I.list hq
  rw [assign_Tuple]
  refine wpAny_bind (wpAny_standAt ?_)
  unfold unpack
  rw [show (assignEach es X.env).length=its.toArray.size by simp [hn,← hl,rv.length],hst]
  refine wpAny_bind (wpAny_holding (PySem.W.kun_itemsOf (I.ok.hd hc) ht.isList fun h' hx => ?_))
  have I1:Inv X pins σ H { s with heap:=h' }:=I.kept (t':=s.toks) fun b o e=>hx b o (Nat.ne_of_lt (Heap.lt_size e)) e
  exact h pins _ σ H xs _ Q I1 (by simpa using rv) hw
def gS (n:Nat) (gs:Tgs):Tg:=fun p ρ => match p with
  | .tup ps=>if ps.length=n then gs ps ρ else none
  | .lst ps=>if ps.length=n then gs ps ρ else none
  | _=>none
@[simp] theorem ev_gST {n:Nat} {gs:Tgs} {ps:List PV} {ρ : PSt}:gS n gs (.tup ps) ρ = if ps.length=n then gs ps ρ else none:=rfl
@[simp] theorem ev_gSL {n:Nat} {gs:Tgs} {ps:List PV} {ρ : PSt}:gS n gs (.lst ps) ρ = if ps.length=n then gs ps ρ else none:=rfl
theorem g_seq {es:List Expr} {k:Nat} {gs:Tgs} {n:Nat} (hc:X.calm=true) (h:PGs X es (tTs (kk X cm) gs)) (hn:(assignEach es X.env).length=n:=by rfl) (hst:(assignEach es X.env).findIdx? (·.1)=none:=by rfl):PG X (.Tuple es k pos) (tT (kk X cm) (gS n gs)):=by
  intro pins s σ H v u Q I r hw
  obtain ⟨c,F,ρ,p,rel,rp,hw⟩:=hw
  cases p with
  | tup ps =>
    unfold Rep at rp
    obtain ⟨a,xs,h1,h2,h3⟩:=rp
    unfold gS at hw
    dsimp only at hw
    split at hw
    · rename_i hl
      exact pg_tup hc h hn hst pins s σ H v u Q I r ⟨a,xs,h1,Same.tup rel.sub h2,by rw [← h3.length];exact hl,c,F,ρ,ps,rel,h3,hw⟩
    · exact hw.elim
  | lst ps =>
    unfold Rep at rp
    obtain ⟨a,xs,h1,h2,h3⟩:=rp
    unfold gS at hw
    dsimp only at hw
    split at hw
    · rename_i hl
      exact pg_lst hc h hn hst pins s σ H v u Q I r ⟨a,xs,h1,rel.sub.seq h2,by rw [← h3.length];exact hl,c,F,ρ,ps,rel,h3,hw⟩
    · exact hw.elim
  | _=>exact hw.elim
end
end P
namespace My
end My
namespace Hu
abbrev Pt:=Int×Int
def tn (a b c:Pt):Int:=(b.1-a.1)*(c.2-a.2)-(b.2-a.2)*(c.1-a.1)
section
variable {S:List Pt} {p:Pt}
def dt (u v:Pt) (p:Pt):Int:=(u.1-p.1)*(v.1-p.1)+(u.2-p.2)*(v.2-p.2)
end
abbrev Ln:=Int×Int×Int
def hd (l:Ln) (p:Pt):Bool:=decide (l.1*p.1+l.2.1*p.2≤l.2.2)
def Z2 (a b:Pt):Ln:=(b.2-a.2,a.1-b.1,(b.2-a.2)*a.1+(a.1-b.1)*a.2)
theorem Z16 {a b s:Pt}:hd (Z2 a b) s=true↔0≤tn a b s:=by
  unfold hd Z2
  rw [decide_eq_true_iff]
  have e:tn a b s=((b.2-a.2)*a.1+(a.1-b.1)*a.2)-((b.2-a.2)*s.1+(a.1-b.1)*s.2):=by simp only [tn];grind
  dsimp only
  omega
def Z1 (S:List Pt):List Pt:=S.foldl (fun k x=>if x∈k then k else k ++ [x]) []
theorem ZO (x:Pt):∀ (S k:List Pt),x∈S.foldl (fun k x=>if x∈k then k else k ++ [x]) k↔x∈k∨x∈S
  | [],k=>by simp
  | y::S,k=>by
    rw [List.foldl_cons,ZO x S]
    by_cases h:y∈k
    · rw [if_pos h]
      constructor
      · rintro (q | q)
        · exact .inl q
        · exact .inr (List.mem_cons_of_mem _ q)
      · rintro (q | q)
        · exact .inl q
        · rcases List.mem_cons.mp q with e | e
          · exact .inl (e ▸ h)
          · exact .inr e
    · rw [if_neg h]
      simp only [List.mem_append,List.mem_cons,List.not_mem_nil,or_false]
      constructor
      · rintro ((q | q) | q)
        · exact .inl q
        · exact .inr (.inl q)
        · exact .inr (.inr q)
      · rintro (q | q | q)
        · exact .inl (.inl q)
        · exact .inl (.inr q)
        · exact .inr q
theorem Zg {x:Pt} {S:List Pt}:x∈Z1 S↔x∈S:=by unfold Z1;rw [ZO];simp
def Zu (S:List Pt):List Ln:=(Z1 S).flatMap fun a=>(Z1 S).filterMap fun b=>if a≠b∧(Z1 S).all (hd (Z2 a b)) then some (Z2 a b) else none
theorem Z0t {S:List Pt} {l:Ln}:l∈Zu S↔∃ a∈S,∃ b∈S,a≠b∧(∀ s∈S,0≤tn a b s)∧l=Z2 a b:=by
  unfold Zu
  simp only [List.mem_flatMap,List.mem_filterMap]
  constructor
  · rintro ⟨a,ha,b,hb,h⟩
    split at h
    · rename_i hc
      refine ⟨a,Zg.mp ha,b,Zg.mp hb,hc.1,fun s hs => ?_,(Option.some.inj h).symm⟩
      exact Z16.mp (List.all_eq_true.mp hc.2 s (Zg.mpr hs))
    · cases h
  · rintro ⟨a,ha,b,hb,h1,h2,rfl⟩
    refine ⟨a,Zg.mpr ha,b,Zg.mpr hb,?_⟩
    rw [if_pos ⟨h1,List.all_eq_true.mpr fun s hs=>Z16.mpr (h2 s (Zg.mp hs))⟩]
def mx (l:List Int):Int:=l.tail.foldl max (l.headD 0)
def mn (l:List Int):Int:=l.tail.foldl min (l.headD 0)
def box (S:List Pt):List Ln:=[(1,0,mx (S.map (·.1))),(-1,0,- mn (S.map (·.1))),(0,1,mx (S.map (·.2))),(0,-1,- mn (S.map (·.2)))]
def Zf (S:List Pt):List Ln:=box S++Zu S
def Z0j (S:List Pt) (p:Pt):Option Ln:=(Zf S).find? fun l => !hd l p
def at_ (S:List Pt) (i:Nat):Pt:=S.getD i (0,0)
structure Z1V (S:List Pt) (p:Pt) (w:List Int) (q:List Nat):Prop where
  len:w.length=q.length
  sum:w.sum≠0
  sign:∀ s∈w,0≤s*w.sum
  nd:q.Nodup
  lt:∀ i∈q,i<S.length
  x:((w.zip q).map fun a=>a.1*(at_ S a.2).1).sum=w.sum*p.1
  y:((w.zip q).map fun a=>a.1*(at_ S a.2).2).sum=w.sum*p.2
end Hu
namespace Fr
end Fr
namespace T
open PySem L2 M2 M3 M4 P
def top (i:Nat):Stmt:=PySem.Challenge.pw_shadowpost_k34_hours.main.body.getD i (.Pass ⟨0,0,0,0⟩)
abbrev s_d26:Stmt:=top 55
abbrev s_d37:Stmt:=top 49
abbrev s_d15:Stmt:=top 50
abbrev s_d31:Stmt:=top 54
abbrev s_d28:Stmt:=top 56
abbrev s_d8:Stmt:=inClass (top 22) 0
abbrev s_d30:Stmt:=top 6
abbrev s_d27:Stmt:=top 8
abbrev s_d13:Stmt:=top 7
abbrev s_d40:Stmt:=top 5
abbrev s_d24:Stmt:=top 9
abbrev s_d17:Stmt:=top 10
abbrev s_d43:Stmt:=top 12
abbrev s_d6:Stmt:=top 39
abbrev s_d4:Stmt:=top 40
abbrev s_d14:Stmt:=inClass (top 42) 0
abbrev s_d5:Stmt:=inClass (top 43) 0
abbrev s_d11:Stmt:=inClass (top 44) 0
abbrev s_d7:Stmt:=inClass (top 45) 0
abbrev s_d9:Stmt:=inClass (top 46) 0
abbrev s_d10:Stmt:=top 14
abbrev s_d29:Stmt:=top 16
abbrev s_d34:Stmt:=top 17
abbrev s_d39:Stmt:=top 18
abbrev s_d2:Stmt:=top 19
abbrev s_d42:Stmt:=top 20
abbrev s_d38:Stmt:=top 25
abbrev s_d41:Stmt:=top 27
abbrev s_d35:Stmt:=top 23
abbrev s_d36:Stmt:=top 26
abbrev s_d16:Stmt:=top 52
abbrev s_d21:Stmt:=top 51
abbrev s_d22:Stmt:=top 53
abbrev s_d32:Stmt:=top 31
abbrev s_d25:Stmt:=top 32
abbrev s_d20:Stmt:=top 34
abbrev s_d3:Stmt:=inClass (top 41) 0
abbrev s_d12:Stmt:=top 35
abbrev s_d19:Stmt:=top 36
abbrev s_d0:Stmt:=top 37
abbrev s_d1:Stmt:=top 33
abbrev s_d18:Stmt:=top 38
abbrev s_d33:Stmt:=top 47
abbrev s_d23:Stmt:=top 57
abbrev s_d44:Stmt:=top 58
def Zh:List ((String×String)×Bool):=[]
def Zi:List ((String×String)×Bool):=[]
def Zj:List String:=[]
def Zk:List String:=[]
def cmB (c0:Addr) (c1:Addr) (c2:Addr) (c3:Addr) (c4:Addr) (c5:Addr) (c6:Addr) (c7:Addr) (c8:Addr):String→Addr:=fun s=>match s with
  | "YardError" => c0
  | "BadThing" => c1
  | "Yard" => c2
  | "Thing" => c3
  | "Post" => c4
  | "Fence" => c5
  | "Sail" => c6
  | "Cloth" => c7
  | "House" => c8
  | _=>0
noncomputable def mb_d26:M Fl:=(mSeq (mIf (mAndT (mBl (mBin opEq (mBin opMod (mBin opFdv (mVarR 0) (mC (.int 7))) (mC (.int 16))) (mC (.int 11)))) (mBl (mBin opGt (mVarR 1) (mC (.int 6)))))
      (mRet (mSh (mBin opIx (mVal (mLst (mCons (mTup (mCons (mC (.int 1)) (mCons (mC (.int 20)) mNil))) (mCons (mTup (mCons (mC (.int 20)) (mCons (mC (.int 1)) mNil))) mNil)))) (mBin opMod (mVarR 0) (mC (.int 2))))))
      mNx)
      (mSeq (mSet 2 (mBinO opAdd (mC (.int 1)) (mBin opMod (mVarR 0) (mCB fMin2 (mCons (mC (.int 5)) (mCons (mVarR 1) mNil))))))
      (mRet (mSh (mTup (mCons (mVarV 2) (mCons (mVal (mBinO opAdd (mC (.int 1)) (mBin opMod (mBin opFdv (mVarR 0) (mC (.int 5))) (mCB fMin2 (mCons (mC (.int 4)) (mCons (mBin opFdv (mVarR 1) (mVarR 2)) mNil)))))) mNil)))))))
noncomputable def m_d26:MF:=mDef 2 3 mb_d26
noncomputable def mb_d37:M Fl:=(mSeq (mIf (mBl (mBin opLt (mVarR 1) (mCB fLen (mCons (mVarR 0) mNil))))
      (mRet (mSh (mBin opIx (mVarR 0) (mVarR 1))))
      mNx)
      (mRet (mSh (mC (.int 0)))))
noncomputable def m_d37:MF:=mDef 2 2 mb_d37
noncomputable def t1_d15:M Fl:=(mIf (mBl (mBin opEq (mBin opMod (mVarR 0) (mC (.int 2))) (mC (.int 0))))
      (mSeq (mApp 2 (mBin opMod (mVarR 3) (mC (.int 524287))))
      (mSet 3 (mSh (mBin opFdv (mVarR 3) (mC (.int 524287))))))
      (mSeq (mSet 3 (mSh (mBin opMod (mVal (mBinO opAdd (mVal (mBinO opAdd (mBin opMulI (mVarR 3) (mC (.int 49157))) (mC (.int 24593)))) (mBin opMulI (mC (.int 2)) (mVarR 4)))) (mC (.int 8388593)))))
      (mApp 2 (mBin opFdv (mVarR 3) (mC (.int 16))))))
noncomputable def mb_d15:M Fl:=(mSeq (mSet 2 (mLst mNil))
      (mSeq (mSet 3 (mSh (mBin opFdv (mVarR 0) (mC (.int 2)))))
      (mSeq (mIf (mBl (mBin opEq (mBin opMod (mVarR 0) (mC (.int 2))) (mC (.int 1))))
      (mSet 3 (mSh (mBin opMod (mVarR 3) (mC (.int 8388593)))))
      mNx)
      (mSeq (mFor (mRange rngF1 (mCons (mVarV 1) mNil)) (gN 4) t1_d15)
      (mRet (mVarO 2))))))
noncomputable def m_d15:MF:=mDef 2 5 mb_d15
noncomputable def mb_d31:M Fl:=(mSeq (mIf (mBl (mBin opEq (mBin opMod (mBin opIx (mVarR 0) (mC (.int 4))) (mC (.int 6))) (mC (.int 4))))
      (mRet (mSh (mC .non)))
      mNx)
      (mSeq (mSet 1 (mSh (mBin opIx (mVal (mLst (mCons (mC (.int 1)) (mCons (mC (.int 1)) (mCons (mC (.int 3)) (mCons (mBin opPow (mC (.int 10)) (mC (.int 5))) mNil)))))) (mBin opMod (mBin opIx (mVarR 0) (mC (.int 3))) (mC (.int 4))))))
      (mRet (mSh (mTup (mCons (mBin opMulI (mBin opSub (mBin opMod (mBin opIx (mVarR 0) (mC (.int 0))) (mC (.int 13))) (mC (.int 6))) (mVarR 1)) (mCons (mBin opMulI (mBin opSub (mBin opMod (mBin opIx (mVarR 0) (mC (.int 1))) (mC (.int 13))) (mC (.int 6))) (mVarR 1)) (mCons (mBin opMulI (mVal (mBinO opAdd (mC (.int 1)) (mBin opMod (mBin opIx (mVarR 0) (mC (.int 2))) (mC (.int 5))))) (mVarR 1)) mNil))))))))
noncomputable def m_d31:MF:=mDef 1 2 mb_d31
noncomputable def t1_d28:M Fl:=(mSeq (mSet 8 (mCall m_d15 (mACons (mVal (mBinO opAdd (mBin opFdv (mVal (mCall m_d37 (mAName 0 (mACons (mVal (mBinO opAdd (mVarR 1) (mVarR 7))) mANil)))) (mC (.int 12))) (mBin opMulI (mC (.int 5)) (mVarR 7)))) (mACons (mVal (mBinO opAdd (mBin opMulI (mC (.int 5)) (mVarR 3)) (mC (.int 2)))) mANil))))
      (mSeq (mSet 9 (mComp [8] 1 (mRange rngF1 (mCons (mVal (mBinO opAdd (mC (.int 1)) (mBin opMod (mBin opIx (mVarR 8) (mC (.int 1))) (mVarR 3)))) mNil)) (gN 1) mYes (mVal (mCall m_d31 (mACons (mVal (mSl (mVarR 0) (mP (mVal (mBinO opAdd (mC (.int 2)) (mBin opMulI (mC (.int 5)) (mVarR 1))))) (mP (mVal (mBinO opAdd (mC (.int 7)) (mBin opMulI (mC (.int 5)) (mVarR 1))))))) mANil)))))
      (mApp 6 (mTup (mCons (mBin opIx (mVarR 4) (mVarR 7)) (mCons (mVal (mBinO opAdd (mC (.int 1)) (mBin opMod (mBin opMulI (mBin opIx (mVarR 8) (mC (.int 0))) (mC (.int 1907))) (mBin opPow (mC (.int 10)) (mC (.int 9)))))) (mCons (mVarV 9) mNil)))))))
noncomputable def mb_d28:M Fl:=(mSeq (mSet 4 (mLst (mCons (mC (.str "ab")) (mCons (mC (.str "a")) (mCons (mC (.str "abc")) (mCons (mC (.str "b")) (mCons (mC (.str "ba")) (mCons (mC (.str "z")) (mCons (mC (.str "zz")) (mCons (mC (.str "zzz")) (mCons (mC (.str "abcdefgh")) (mCons (mC (.str "abcdefgi")) (mCons (mC (.str "aa")) (mCons (mC (.str "bb")) mNil))))))))))))))
      (mSeq (mSet 5 (mSh (mBin opMod (mVal (mCall m_d37 (mAName 0 (mAName 1 mANil)))) (mC (.int 12)))))
      (mSeq (mSet 4 (mBinO opAdd (mVal (mSl (mVarR 4) (mP (mVarV 5)) mNoP)) (mVal (mSl (mVarR 4) mNoP (mP (mVarV 5))))))
      (mSeq (mSet 6 (mLst mNil))
      (mSeq (mFor (mRange rngF1 (mCons (mVarV 2) mNil)) (gN 7) t1_d28)
      (mRet (mVarO 6)))))))
noncomputable def m_d28:MF:=mDef 4 10 mb_d28
noncomputable def mb_d8:M Fl:=(mSeq (mPutF 0 ["Yard"] "width" (mVarV 1))
      (mSeq (mPutF 0 ["Yard"] "height" (mVarV 2))
      (mSeq (mPutF 0 ["Yard"] "things" (mVal (mCBO fList (mCons (mVarR 3) mNil))))
      (mPutF 0 ["Yard"] "days" (mVal (mComp [] 3 (mIterN 4) (gT 3 (gsCons (gN 0) (gsCons (gN 1) (gsCons (gN 2) gsNil)))) mYes (mTup (mCons (mVarV 0) (mCons (mVarV 1) (mCons (mVal (mCBO fList (mCons (mVarR 2) mNil))) mNil))))))))))
noncomputable def mi_Yard:MI:=mInit 5 5 "Yard" mb_d8
noncomputable def mb_d30:M Fl:=(mSeq (mSet 1 (mComp [] 1 (mIterN 0) (gN 0) mYes (mBin opIx (mVarR 0) (mC (.int 0)))))
      (mSeq (mSet 2 (mComp [] 1 (mIterN 0) (gN 0) mYes (mBin opIx (mVarR 0) (mC (.int 1)))))
      (mRet (mLst (mCons (mTup (mCons (mC (.int 1)) (mCons (mC (.int 0)) (mCons (mCB fMax1 (mCons (mVarR 1) mNil)) mNil)))) (mCons (mTup (mCons (mUn opNeg (mC (.int 1))) (mCons (mC (.int 0)) (mCons (mUn opNeg (mCB fMin1 (mCons (mVarR 1) mNil))) mNil)))) (mCons (mTup (mCons (mC (.int 0)) (mCons (mC (.int 1)) (mCons (mCB fMax1 (mCons (mVarR 2) mNil)) mNil)))) (mCons (mTup (mCons (mC (.int 0)) (mCons (mUn opNeg (mC (.int 1))) (mCons (mUn opNeg (mCB fMin1 (mCons (mVarR 2) mNil))) mNil)))) mNil))))))))
noncomputable def m_d30:MF:=mDef 1 3 mb_d30
noncomputable def t1_d27:M Fl:=(mIf (mBl (mBin (inD true) (mVarR 2) (mVarR 1)))
      (mApp 1 (mVarV 2))
      mNx)
noncomputable def mb_d27:M Fl:=(mSeq (mSet 1 (mLst mNil))
      (mSeq (mFor (mIterN 0) (gN 2) t1_d27)
      (mRet (mVarO 1))))
noncomputable def m_d27:MF:=mDef 1 3 mb_d27
noncomputable def mb_d13:M Fl:=(mSeq (mSet 2 (mSh (mBin opSub (mBin opIx (mVarR 1) (mC (.int 1))) (mBin opIx (mVarR 0) (mC (.int 1))))))
      (mSeq (mSet 3 (mSh (mBin opSub (mBin opIx (mVarR 0) (mC (.int 0))) (mBin opIx (mVarR 1) (mC (.int 0))))))
      (mRet (mSh (mTup (mCons (mVarV 2) (mCons (mVarV 3) (mCons (mVal (mBinO opAdd (mBin opMulI (mVarR 2) (mBin opIx (mVarR 0) (mC (.int 0)))) (mBin opMulI (mVarR 3) (mBin opIx (mVarR 0) (mC (.int 1)))))) mNil))))))))
noncomputable def m_d13:MF:=mDef 2 4 mb_d13
noncomputable def mb_d40:M Fl:=(mRet (mSh (mBin opLe (mVal (mBinO opAdd (mBin opMulI (mBin opIx (mVarR 0) (mC (.int 0))) (mBin opIx (mVarR 1) (mC (.int 0)))) (mBin opMulI (mBin opIx (mVarR 0) (mC (.int 1))) (mBin opIx (mVarR 1) (mC (.int 1)))))) (mBin opIx (mVarR 0) (mC (.int 2))))))
noncomputable def m_d40:MF:=mDef 2 2 mb_d40
noncomputable def t1_d24:M Fl:=(mSeq (mSet 5 (mCall m_d13 (mAName 3 (mAName 4 mANil))))
      (mIf (mAndT (mBl (mBin opNe (mVarR 3) (mVarR 4))) (mTru (mCB fAll (mCons (mVal (mComp [5] 1 (mIterN 2) (gN 1) mYes (mVal (mCall m_d40 (mAName 0 (mAName 1 mANil)))))) mNil))))
      (mApp 1 (mVarV 5))
      mNx))
noncomputable def t2_d24:M Fl:=(mFor (mIterN 2) (gN 4) t1_d24)
noncomputable def mb_d24:M Fl:=(mSeq (mSet 1 (mLst mNil))
      (mSeq (mSet 2 (mCall m_d27 (mAName 0 mANil)))
      (mSeq (mFor (mIterN 2) (gN 3) t2_d24)
      (mRet (mVarO 1)))))
noncomputable def m_d24:MF:=mDef 1 6 mb_d24
noncomputable def mb_d17:M Fl:=(mRet (mBinO opAdd (mVal (mCall m_d30 (mAName 0 mANil))) (mVal (mCall m_d24 (mAName 0 mANil)))))
noncomputable def m_d17:MF:=mDef 1 1 mb_d17
noncomputable def mb_d43:M Fl:=(mRet (mSh (mTup (mCons (mVal (mBinO opAdd (mBin opMulI (mBin opIx (mVarR 1) (mC (.int 2))) (mBin opIx (mVarR 0) (mC (.int 0)))) (mBin opMulI (mBin opIx (mVarR 1) (mC (.int 0))) (mBin opIx (mVarR 0) (mC (.int 2)))))) (mCons (mVal (mBinO opAdd (mBin opMulI (mBin opIx (mVarR 1) (mC (.int 2))) (mBin opIx (mVarR 0) (mC (.int 1)))) (mBin opMulI (mBin opIx (mVarR 1) (mC (.int 1))) (mBin opIx (mVarR 0) (mC (.int 2)))))) mNil)))))
noncomputable def m_d43:MF:=mDef 2 2 mb_d43
noncomputable def mb_d6:M Fl:=(mRet (mLst (mCons (mTup (mCons (mVarV 0) (mCons (mVarV 1) (mCons (mVarV 4) mNil)))) (mCons (mTup (mCons (mVarV 2) (mCons (mVarV 1) (mCons (mVarV 4) mNil)))) (mCons (mTup (mCons (mVarV 2) (mCons (mVarV 3) (mCons (mVarV 4) mNil)))) (mCons (mTup (mCons (mVarV 0) (mCons (mVarV 3) (mCons (mVarV 4) mNil)))) mNil))))))
noncomputable def m_d6:MF:=mDef 5 5 mb_d6
noncomputable def mb_d4:M Fl:=(mRet (mBinO opAdd (mVal (mCall m_d6 (mAName 0 (mAName 1 (mAName 2 (mAName 3 (mACons (mC (.int 0)) mANil))))))) (mVal (mCall m_d6 (mAName 0 (mAName 1 (mAName 2 (mAName 3 (mAName 4 mANil)))))))))
noncomputable def m_d4:MF:=mDef 5 5 mb_d4
noncomputable def mb_d14:M Fl:=(mSeq (mSet 1 (mSh (mBin opMulI (mC (.int 2)) (mBin opIx (mUn (fldF ["Thing", "Post", "Fence", "Sail", "Cloth", "House"] "numbers") (mVarR 0)) (mC (.int 0))))))
      (mSeq (mSet 2 (mSh (mBin opMulI (mC (.int 2)) (mBin opIx (mUn (fldF ["Thing", "Post", "Fence", "Sail", "Cloth", "House"] "numbers") (mVarR 0)) (mC (.int 1))))))
      (mRet (mCall m_d4 (mACons (mBin opSub (mVarR 1) (mC (.int 1))) (mACons (mBin opSub (mVarR 2) (mC (.int 1))) (mACons (mVal (mBinO opAdd (mVarR 1) (mC (.int 1)))) (mACons (mVal (mBinO opAdd (mVarR 2) (mC (.int 1)))) (mACons (mBin opIx (mUn (fldF ["Thing", "Post", "Fence", "Sail", "Cloth", "House"] "numbers") (mVarR 0)) (mC (.int 2))) mANil)))))))))
noncomputable def m_d14:MF:=mDef 1 3 mb_d14
noncomputable def mb_d5:M Fl:=(mSeq (mSet 1 (mSh (mUn (fldF ["Thing", "Post", "Fence", "Sail", "Cloth", "House"] "numbers") (mVarR 0))))
      (mSeq (mSet 2 (mSh (mTup (mCons (mBin opIx (mVarR 1) (mC (.int 0))) (mCons (mBin opIx (mVarR 1) (mC (.int 1))) mNil)))))
      (mSeq (mSet 3 (mSh (mTup (mCons (mBin opIx (mVarR 1) (mC (.int 2))) (mCons (mBin opIx (mVarR 1) (mC (.int 3))) mNil)))))
      (mRet (mLst (mCons (mVal (mBinO opAdd (mVarR 2) (mTup (mCons (mC (.int 0)) mNil)))) (mCons (mVal (mBinO opAdd (mVarR 3) (mTup (mCons (mC (.int 0)) mNil)))) (mCons (mVal (mBinO opAdd (mVarR 3) (mTup (mCons (mBin opIx (mVarR 1) (mC (.int 4))) mNil)))) (mCons (mVal (mBinO opAdd (mVarR 2) (mTup (mCons (mBin opIx (mVarR 1) (mC (.int 4))) mNil)))) mNil)))))))))
noncomputable def m_d5:MF:=mDef 1 4 mb_d5
noncomputable def mb_d11:M Fl:=(mSeq (mSet 1 (mSh (mUn (fldF ["Thing", "Post", "Fence", "Sail", "Cloth", "House"] "numbers") (mVarR 0))))
      (mRet (mCall m_d6 (mACons (mBin opIx (mVarR 1) (mC (.int 0))) (mACons (mBin opIx (mVarR 1) (mC (.int 1))) (mACons (mBin opIx (mVarR 1) (mC (.int 2))) (mACons (mBin opIx (mVarR 1) (mC (.int 3))) (mACons (mBin opIx (mVarR 1) (mC (.int 4))) mANil))))))))
noncomputable def m_d11:MF:=mDef 1 2 mb_d11
noncomputable def mb_d7:M Fl:=(mRet (mComp [0] 1 (mItems (mTup (mCons (mC (.int 0)) (mCons (mC (.int 3)) (mCons (mC (.int 6)) mNil))))) (gN 1) mYes (mCB fTuple (mCons (mVal (mSl (mUn (fldF ["Thing", "Post", "Fence", "Sail", "Cloth", "House"] "numbers") (mVarR 0)) (mP (mVarV 1)) (mP (mVal (mBinO opAdd (mVarR 1) (mC (.int 3))))))) mNil))))
noncomputable def m_d7:MF:=mDef 1 1 mb_d7
noncomputable def mb_d9:M Fl:=(mSeq (mSet 1 (mSh (mUn (fldF ["Thing", "Post", "Fence", "Sail", "Cloth", "House"] "numbers") (mVarR 0))))
      (mRet (mCall m_d4 (mACons (mBin opIx (mVarR 1) (mC (.int 0))) (mACons (mBin opIx (mVarR 1) (mC (.int 1))) (mACons (mBin opIx (mVarR 1) (mC (.int 2))) (mACons (mBin opIx (mVarR 1) (mC (.int 3))) (mACons (mBin opIx (mVarR 1) (mC (.int 4))) mANil))))))))
noncomputable def m_d9:MF:=mDef 1 2 mb_d9
noncomputable def mb_d10:M Fl:=(mRet (mComp [1] 1 (mNoX (mItems (mVal (mMeth "corners" [("Post",m_d14),("Fence",m_d5),("Sail",m_d11),("Cloth",m_d7),("House",m_d9)] (mVarV 0) mANil)))) (gN 1) mYes (mVal (mCall m_d43 (mAName 1 (mAName 0 mANil))))))
noncomputable def m_d10:MF:=mDef 2 2 mb_d10
noncomputable def mb_d29:M Fl:=(mSeq (mIf (mBl (mBin opLt (mVarR 1) (mVarR 0)))
      (mRet (mSh (mC (.int 0))))
      mNx)
      (mRet (mSh (mBin opSub (mBin opShl (mC (.int 1)) (mVal (mBinO opAdd (mVarR 1) (mC (.int 1))))) (mBin opShl (mC (.int 1)) (mVarR 0))))))
noncomputable def m_d29:MF:=mDef 2 2 mb_d29
noncomputable def t1_d34:M Fl:=(mSeq (mSet 9 (mSh (mBin opMulI (mVarR 6) (mVarR 1))))
      (mSeq (mSet 10 (mSh (mBin opSub (mVarR 8) (mBin opMulI (mBin opMulI (mVarR 7) (mVarR 1)) (mVarR 2)))))
      (mIf (mBl (mBin opGt (mVarR 9) (mC (.int 0))))
      (mSet 5 (mSh (mCB fMin2 (mCons (mVarR 5) (mCons (mBin opFdv (mVarR 10) (mVarR 9)) mNil)))))
      (mIf (mBl (mBin opLt (mVarR 9) (mC (.int 0))))
      (mSet 4 (mSh (mCB fMax2 (mCons (mVarR 4) (mCons (mUn opNeg (mBin opFdv (mVarR 10) (mUn opNeg (mVarR 9)))) mNil)))))
      (mIf (mBl (mBin opLt (mVarR 10) (mC (.int 0))))
      (mRet (mSh (mC (.int 0))))
      mNx)))))
noncomputable def mb_d34:M Fl:=(mSeq (mSet 4 (mSh (mC (.int 0))))
      (mSeq (mSet 5 (mSh (mBin opSub (mVarR 3) (mC (.int 1)))))
      (mSeq (mFor (mIterN 0) (gT 3 (gsCons (gN 6) (gsCons (gN 7) (gsCons (gN 8) gsNil)))) t1_d34)
      (mRet (mCall m_d29 (mAName 4 (mAName 5 mANil)))))))
noncomputable def m_d34:MF:=mDef 4 11 mb_d34
noncomputable def t1_d39:M Fl:=(mOrEq 4 (mBin opShl (mVal (mCall m_d34 (mAName 3 (mACons (mBin opMulI (mC (.int 2)) (mBin opIx (mVarR 2) (mC (.int 2)))) (mAName 5 (mACons (mUn (fldF ["Yard"] "width") (mVarR 0)) mANil)))))) (mBin opMulI (mVarR 5) (mUn (fldF ["Yard"] "width") (mVarR 0)))))
noncomputable def mb_d39:M Fl:=(mSeq (mSet 3 (mCall m_d17 (mACons (mVal (mCall m_d10 (mAName 1 (mAName 2 mANil)))) mANil)))
      (mSeq (mSet 4 (mSh (mC (.int 0))))
      (mSeq (mFor (mRange rngF1 (mCons (mUn (fldF ["Yard"] "height") (mVarR 0)) mNil)) (gN 5) t1_d39)
      (mRet (mVarO 4)))))
noncomputable def m_d39:MF:=mDef 3 6 mb_d39
noncomputable def mb_d2:M Fl:=(mRet (mComp [0,1] 1 (mItems (mUn (fldF ["Yard"] "things") (mVarR 0))) (gN 2) mYes (mVal (mCall m_d39 (mAName 0 (mAName 2 (mAName 1 mANil)))))))
noncomputable def m_d2:MF:=mDef 2 2 mb_d2
noncomputable def t1_d42:M Fl:=(mOrEq 2 (mVarV 3))
noncomputable def mb_d42:M Fl:=(mSeq (mIf (mBl (mBin opIs (mVarR 1) (mC .non)))
      (mRet (mCall m_d29 (mACons (mC (.int 0)) (mACons (mBin opSub (mBin opMulI (mUn (fldF ["Yard"] "width") (mVarR 0)) (mUn (fldF ["Yard"] "height") (mVarR 0))) (mC (.int 1))) mANil))))
      mNx)
      (mSeq (mSet 2 (mSh (mC (.int 0))))
      (mSeq (mFor (mItems (mVal (mCall m_d2 (mAName 0 (mAName 1 mANil))))) (gN 3) t1_d42)
      (mRet (mVarO 2)))))
noncomputable def m_d42:MF:=mDef 2 4 mb_d42
noncomputable def mb_d38:M Fl:=(mRet (mSh (mBin opBand (mVal (mCall m_d42 (mAName 0 (mACons (mC .non) mANil)))) (mUn opInv (mVal (mCall m_d42 (mAName 0 (mAName 1 mANil))))))))
noncomputable def m_d38:MF:=mDef 2 2 mb_d38
noncomputable def t1_d41:M Fl:=(mSeq (mSet 6 (mCall m_d38 (mAName 0 (mAName 5 mANil))))
      (mSet 1 (mComp [3,6] 2 (mEnum (mLsN 1)) (gT 2 (gsCons (gN 2) (gsCons (gN 3) gsNil))) mYes (mVal (mBinO opAdd (mVarR 3) (mBin opMulI (mVarR 0) (mBin opBand (mBin opShr (mVarR 1) (mVarR 2)) (mC (.int 1)))))))))
noncomputable def t2_d41:M Fl:=(mFor (mIterN 4) (gN 5) t1_d41)
noncomputable def mb_d41:M Fl:=(mSeq (mSet 1 (mComp [] 1 (mRange rngF1 (mCons (mBin opMulI (mUn (fldF ["Yard"] "width") (mVarR 0)) (mUn (fldF ["Yard"] "height") (mVarR 0))) mNil)) (gN 0) mYes (mC (.int 0))))
      (mSeq (mFor (mItems (mUn (fldF ["Yard"] "days") (mVarR 0))) (gT 3 (gsCons (gN 2) (gsCons (gN 3) (gsCons (gN 4) gsNil)))) t2_d41)
      (mRet (mVarO 1))))
noncomputable def m_d41:MF:=mDef 1 7 mb_d41
noncomputable def mb_d35:M Fl:=(mRet (mSh (mBin opIx (mBin opIx (mUn (fldF ["Yard"] "days") (mVarR 0)) (mVarR 1)) (mC (.int 2)))))
noncomputable def m_d35:MF:=mDef 2 2 mb_d35
noncomputable def t1_d36:M Fl:=(mOrEq 1 (mVal (mCall m_d38 (mAName 0 (mAName 3 mANil)))))
noncomputable def t2_d36:M Fl:=(mFor (mItems (mVal (mCall m_d35 (mAName 0 (mAName 2 mANil))))) (gN 3) t1_d36)
noncomputable def mb_d36:M Fl:=(mSeq (mSet 1 (mSh (mC (.int 0))))
      (mSeq (mFor (mRange rngF1 (mCons (mCB fLen (mCons (mUn (fldF ["Yard"] "days") (mVarR 0)) mNil)) mNil)) (gN 2) t2_d36)
      (mRet (mVarO 1))))
noncomputable def m_d36:MF:=mDef 1 4 mb_d36
noncomputable def mb_d16:M Fl:=(mSeq (mIf (mBl (mBin opEq (mBin opMod (mBin opFdv (mVarR 0) (mC (.int 512))) (mC (.int 12))) (mC (.int 7))))
      (mRet (mBinO opAdd (mC (.int 1)) (mBin opMod (mBin opMulI (mVarR 0) (mC (.int 1907))) (mBin opPow (mC (.int 10)) (mC (.int 9))))))
      mNx)
      (mRet (mBinO opAdd (mC (.int 1)) (mBin opMod (mVarR 0) (mC (.int 9))))))
noncomputable def m_d16:MF:=mDef 1 1 mb_d16
noncomputable def mb_d21:M Fl:=(mSeq (mIf (mBl (mBin opEq (mBin opMod (mBin opFdv (mVarR 0) (mC (.int 512))) (mC (.int 16))) (mC (.int 5))))
      (mRet (mBinO opAdd (mBin opSub (mBin opMod (mBin opMulI (mVarR 0) (mC (.int 3813))) (mBin opSub (mBin opMulI (mC (.int 2)) (mBin opPow (mC (.int 10)) (mC (.int 9)))) (mC (.int 99)))) (mBin opPow (mC (.int 10)) (mC (.int 9)))) (mC (.int 50))))
      mNx)
      (mRet (mSh (mBin opSub (mBin opMod (mVarR 0) (mVal (mBinO opAdd (mBin opMulI (mC (.int 2)) (mVarR 1)) (mC (.int 9))))) (mC (.int 4))))))
noncomputable def m_d21:MF:=mDef 2 2 mb_d21
noncomputable def mb_d22:M Fl:=(mSeq (mSet 2 (mCall m_d15 (mAName 0 (mACons (mC (.int 14)) mANil))))
      (mSeq (mAsg (gS 2 (gsCons (gN 5) (gsCons (gN 6) gsNil))) (mVal (mComp [1,2] 1 (mRange rngF1 (mCons (mC (.int 2)) mNil)) (gN 2) mYes (mVal (mCall m_d21 (mACons (mBin opIx (mVarR 1) (mVarR 2)) (mAName 0 mANil)))))))
      (mSeq (mSet 3 (mCall m_d16 (mACons (mBin opIx (mVarR 2) (mC (.int 2))) mANil)))
      (mSeq (mSet 4 (mSh (mBin opMod (mBin opIx (mVarR 2) (mC (.int 3))) (mC (.int 5)))))
      (mSeq (mIf (mBl (mBin opEq (mVarR 4) (mC (.int 0))))
      (mRet (mSh (mTup (mCons (mC (.str "post")) (mCons (mVal (mLst (mCons (mBin opFdv (mVarR 5) (mC (.int 2))) (mCons (mBin opFdv (mVarR 6) (mC (.int 2))) (mCons (mVarV 3) mNil))))) mNil)))))
      mNx)
      (mSeq (mIf (mBl (mBin opEq (mVarR 4) (mC (.int 1))))
      (mSeq (mAsg (gS 2 (gsCons (gN 7) (gsCons (gN 8) gsNil))) (mVal (mLst (mCons (mBin opSub (mVal (mBinO opAdd (mVarR 5) (mBin opMod (mBin opIx (mVarR 2) (mC (.int 4))) (mC (.int 9))))) (mC (.int 4))) (mCons (mBin opSub (mVal (mBinO opAdd (mVarR 6) (mBin opMod (mBin opIx (mVarR 2) (mC (.int 5))) (mC (.int 9))))) (mC (.int 4))) mNil)))))
      (mRet (mSh (mTup (mCons (mC (.str "fence")) (mCons (mVal (mLst (mCons (mVarV 5) (mCons (mVarV 6) (mCons (mVal (mBinO opAdd (mVarR 7) (mCB fInt (mCons (mBin opEq (mTup (mCons (mVarV 5) (mCons (mVarV 6) mNil))) (mTup (mCons (mVarV 7) (mCons (mVarV 8) mNil)))) mNil)))) (mCons (mVarV 8) (mCons (mVarV 3) mNil))))))) mNil))))))
      mNx)
      (mSeq (mIf (mBl (mBin opEq (mVarR 4) (mC (.int 2))))
      (mRet (mSh (mTup (mCons (mC (.str "cloth")) (mCons (mVal (mBinO opAdd (mVal (mBinO opAdd (mVal (mLst (mCons (mVarV 5) (mCons (mVarV 6) (mCons (mBin opMod (mBin opIx (mVarR 2) (mC (.int 6))) (mC (.int 10))) mNil))))) (mVal (mLst (mCons (mVal (mCall m_d21 (mACons (mBin opIx (mVarR 2) (mC (.int 7))) (mAName 1 mANil)))) (mCons (mVal (mCall m_d21 (mACons (mBin opIx (mVarR 2) (mC (.int 8))) (mAName 1 mANil)))) (mCons (mVarV 3) mNil))))))) (mVal (mLst (mCons (mVal (mCall m_d21 (mACons (mBin opIx (mVarR 2) (mC (.int 9))) (mAName 1 mANil)))) (mCons (mVal (mCall m_d21 (mACons (mBin opIx (mVarR 2) (mC (.int 10))) (mAName 1 mANil)))) (mCons (mVal (mCall m_d16 (mACons (mBin opIx (mVarR 2) (mC (.int 11))) mANil))) mNil))))))) mNil)))))
      mNx)
      (mRet (mSh (mTup (mCons (mBin opIx (mVal (mLst (mCons (mC (.str "sail")) (mCons (mC (.str "house")) mNil)))) (mBin opSub (mVarR 4) (mC (.int 3)))) (mCons (mVal (mLst (mCons (mVarV 5) (mCons (mVarV 6) (mCons (mVal (mBinO opAdd (mVal (mBinO opAdd (mVarR 5) (mC (.int 1)))) (mBin opMod (mBin opIx (mVarR 2) (mC (.int 4))) (mC (.int 8))))) (mCons (mVal (mBinO opAdd (mVal (mBinO opAdd (mVarR 6) (mC (.int 1)))) (mBin opMod (mBin opIx (mVarR 2) (mC (.int 5))) (mC (.int 8))))) (mCons (mVarV 3) mNil))))))) mNil))))))))))))
noncomputable def m_d22:MF:=mDef 2 9 mb_d22
noncomputable def mb_d32:M Fl:=(mRet (mSh (mChn opLe opLe (mUn opNeg (mC (.int (1000000000)))) (mVarR 0) (mC (.int (1000000000))))))
noncomputable def m_d32:MF:=mDef 1 1 mb_d32
noncomputable def mb_d25:M Fl:=(mRet (mSh (mChn opLe opLe (mC (.int 1)) (mVarR 0) (mC (.int (1000000000))))))
noncomputable def m_d25:MF:=mDef 1 1 mb_d25
noncomputable def mb_d20:M Fl:=(mRet (mSh (mAnd (mBin opEq (mCB fLen (mCons (mVarR 0) mNil)) (mC (.int 3))) (mAnd (mVal (mCall m_d32 (mACons (mBin opIx (mVarR 0) (mC (.int 0))) mANil))) (mAnd (mVal (mCall m_d32 (mACons (mBin opIx (mVarR 0) (mC (.int 1))) mANil))) (mVal (mCall m_d25 (mACons (mBin opIx (mVarR 0) (mC (.int 2))) mANil))))))))
noncomputable def m_d20:MF:=mDef 1 1 mb_d20
noncomputable def mb_d3:M Fl:=(mSeq (mPutF 0 ["Thing", "Post", "Fence", "Sail", "Cloth", "House"] "word" (mVarV 1))
      (mPutF 0 ["Thing", "Post", "Fence", "Sail", "Cloth", "House"] "numbers" (mVal (mCBO fList (mCons (mVarR 2) mNil)))))
noncomputable def mi_Post:MI:=mInit 3 3 "Post" mb_d3
noncomputable def mi_Fence:MI:=mInit 3 3 "Fence" mb_d3
noncomputable def mi_Sail:MI:=mInit 3 3 "Sail" mb_d3
noncomputable def mi_Cloth:MI:=mInit 3 3 "Cloth" mb_d3
noncomputable def mi_House:MI:=mInit 3 3 "House" mb_d3
noncomputable def mb_d12:M Fl:=(mRet (mSh (mAnd (mBin opEq (mCB fLen (mCons (mVarR 0) mNil)) (mC (.int 5))) (mAnd (mCB fAll (mCons (mVal (mComp [] 1 (mItems (mVal (mSl (mVarR 0) mNoP (mP (mC (.int 4)))))) (gN 0) mYes (mVal (mCall m_d32 (mAName 0 mANil))))) mNil)) (mVal (mCall m_d25 (mACons (mBin opIx (mVarR 0) (mC (.int 4))) mANil)))))))
noncomputable def m_d12:MF:=mDef 1 1 mb_d12
noncomputable def mb_d19:M Fl:=(mRet (mSh (mAnd (mVal (mCall m_d12 (mAName 0 mANil))) (mBin opNe (mVal (mSl (mVarR 0) mNoP (mP (mC (.int 2))))) (mVal (mSl (mVarR 0) (mP (mC (.int 2))) (mP (mC (.int 4)))))))))
noncomputable def m_d19:MF:=mDef 1 1 mb_d19
noncomputable def mb_d0:M Fl:=(mRet (mSh (mAnd (mVal (mCall m_d12 (mAName 0 mANil))) (mAnd (mBin opLt (mBin opIx (mVarR 0) (mC (.int 0))) (mBin opIx (mVarR 0) (mC (.int 2)))) (mBin opLt (mBin opIx (mVarR 0) (mC (.int 1))) (mBin opIx (mVarR 0) (mC (.int 3))))))))
noncomputable def m_d0:MF:=mDef 1 1 mb_d0
noncomputable def mb_d1:M Fl:=(mRet (mSh (mAnd (mVal (mCall m_d32 (mACons (mBin opIx (mVarR 0) (mC (.int 0))) mANil))) (mAnd (mVal (mCall m_d32 (mACons (mBin opIx (mVarR 0) (mC (.int 1))) mANil))) (mChn opLe opLe (mC (.int 0)) (mBin opIx (mVarR 0) (mC (.int 2))) (mC (.int (1000000000))))))))
noncomputable def m_d1:MF:=mDef 1 1 mb_d1
noncomputable def mb_d18:M Fl:=(mRet (mSh (mAnd (mBin opEq (mCB fLen (mCons (mVarR 0) mNil)) (mC (.int 9))) (mCB fAll (mCons (mVal (mComp [0] 1 (mItems (mTup (mCons (mC (.int 0)) (mCons (mC (.int 3)) (mCons (mC (.int 6)) mNil))))) (gN 1) mYes (mVal (mCall m_d1 (mACons (mVal (mSl (mVarR 0) (mP (mVarV 1)) (mP (mVal (mBinO opAdd (mVarR 1) (mC (.int 3))))))) mANil))))) mNil)))))
noncomputable def m_d18:MF:=mDef 1 1 mb_d18
noncomputable def mb_d33:M Fl:=(mSeq (mIf (mAndT (mBl (mBin opEq (mVarR 0) (mC (.str "post")))) (mTru (mVal (mCall m_d20 (mAName 1 mANil)))))
      (mRet (mSh (mMake "Post" mi_Post (mAName 0 (mAName 1 mANil)))))
      mNx)
      (mSeq (mIf (mAndT (mBl (mBin opEq (mVarR 0) (mC (.str "fence")))) (mTru (mVal (mCall m_d19 (mAName 1 mANil)))))
      (mRet (mSh (mMake "Fence" mi_Fence (mAName 0 (mAName 1 mANil)))))
      mNx)
      (mSeq (mIf (mAndT (mBl (mBin opEq (mVarR 0) (mC (.str "sail")))) (mTru (mVal (mCall m_d0 (mAName 1 mANil)))))
      (mRet (mSh (mMake "Sail" mi_Sail (mAName 0 (mAName 1 mANil)))))
      mNx)
      (mSeq (mIf (mAndT (mBl (mBin opEq (mVarR 0) (mC (.str "cloth")))) (mTru (mVal (mCall m_d18 (mAName 1 mANil)))))
      (mRet (mSh (mMake "Cloth" mi_Cloth (mAName 0 (mAName 1 mANil)))))
      mNx)
      (mSeq (mIf (mAndT (mBl (mBin opEq (mVarR 0) (mC (.str "house")))) (mTru (mVal (mCall m_d0 (mAName 1 mANil)))))
      (mRet (mSh (mMake "House" mi_House (mAName 0 (mAName 1 mANil)))))
      mNx)
      (mRaise "BadThing"))))))
noncomputable def m_d33:MF:=mDef 2 2 mb_d33
noncomputable def mb_d23:M Fl:=(mSeq (mIf (mOrT (mNotT (mTru (mCB (fIsiX Zh Zi Zj Zk) (mCons (mVarR 0) (mCons (mC (.ty "list")) mNil))))) (mBl (mBin opNe (mVarR 0) (mVarR 1))))
      (mRet (mSh (mC (.bl false))))
      mNx)
      (mRet (mSh (mCB fAll (mCons (mVal (mComp [] 1 (mIterN 0) (gN 0) mYes (mAnd (mCB (fIsiX Zh Zi Zj Zk) (mCons (mVarR 0) (mCons (mC (.ty "int")) mNil))) (mNot (mCB (fIsiX Zh Zi Zj Zk) (mCons (mVarR 0) (mCons (mC (.ty "bool")) mNil))))))) mNil)))))
noncomputable def m_d23:MF:=mDef 2 2 mb_d23
noncomputable def t1_d44:M Fl:=(mSeq (mSet 13 (mCall m_d42 (mAName 5 (mAName 12 mANil))))
      (mSet 6 (mComp [6,10,13] 1 (mRange rngF1 (mCons (mCB fLen (mCons (mVarR 6) mNil)) mNil)) (gN 3) mYes (mVal (mBinO opAdd (mBin opIx (mVarR 0) (mVarR 3)) (mBin opMulI (mVarR 1) (mBin opSub (mC (.int 1)) (mBin opMod (mBin opShr (mVarR 2) (mVarR 3)) (mC (.int 2))))))))))
noncomputable def t2_d44:M Fl:=(mFor (mIterN 11) (gN 12) t1_d44)
noncomputable def mb_d44:M Fl:=(mSeq (mSet 1 (mCall m_d26 (mACons (mVal (mCall m_d37 (mAName 0 (mACons (mC (.int 0)) mANil)))) (mACons (mC (.int 9)) mANil))))
      (mSeq (mSet 2 (mComp [1] 1 (mItems (mVal (mSl (mVarR 0) (mP (mC (.int 2))) (mP (mC (.int 6)))))) (gN 1) mYes (mVal (mCall m_d22 (mAName 1 (mACons (mCB fMax1 (mCons (mVarR 0) mNil)) mANil))))))
      (mSeq (mSet 3 (mCall m_d28 (mAName 0 (mACons (mC (.int 6)) (mACons (mBin opMod (mVal (mCall m_d37 (mAName 0 (mACons (mC (.int 1)) mANil)))) (mC (.int 4))) (mACons (mC (.int 4)) mANil))))))
      (mSeq (mIf (mBl (mBin opEq (mBin opMod (mBin opFdv (mVal (mCall m_d37 (mAName 0 (mACons (mC (.int 1)) mANil)))) (mC (.int 4))) (mC (.int 16))) (mC (.int 9))))
      (mSeq (mSet 1 (mSh (mTup (mCons (mVal (mBinO opAdd (mC (.int 1)) (mBin opMod (mVal (mCall m_d37 (mAName 0 (mACons (mC (.int 0)) mANil)))) (mC (.int 2))))) (mCons (mC (.int 1)) mNil)))))
      (mSeq (mSet 2 (mSl (mVarR 2) mNoP (mP (mC (.int 1)))))
      (mSet 3 (mCall m_d28 (mAName 0 (mACons (mC (.int 6)) (mACons (mC (.int 12)) (mACons (mC (.int 8)) mANil))))))))
      mNx)
      (mSeq (mSet 4 (mComp [] 2 (mIterN 2) (gT 2 (gsCons (gN 0) (gsCons (gN 1) gsNil))) mYes (mVal (mCall m_d33 (mAName 0 (mACons (mVal (mCBO fList (mCons (mVarR 1) mNil))) mANil))))))
      (mSeq (mSet 5 (mSh (mMake "Yard" mi_Yard (mACons (mBin opIx (mVarR 1) (mC (.int 0))) (mACons (mBin opIx (mVarR 1) (mC (.int 1))) (mAName 4 (mAName 3 mANil)))))))
      (mSeq (mSet 6 (mComp [] 1 (mRange rngF1 (mCons (mBin opMulI (mBin opIx (mVarR 1) (mC (.int 0))) (mBin opIx (mVarR 1) (mC (.int 1)))) mNil)) (gN 0) mYes (mC (.int 0))))
      (mSeq (mFor (mIterN 3) (gT 3 (gsCons (gN 9) (gsCons (gN 10) (gsCons (gN 11) gsNil)))) t2_d44)
      (mSeq (mSet 7 (mCall m_d41 (mAName 5 mANil)))
      (mSeq (mIf (mNotT (mTru (mVal (mCall m_d23 (mAName 7 (mAName 6 mANil))))))
      (mRet (mSh (mC (.bl false))))
      mNx)
      (mSeq (mApp 7 (mC (.int 0)))
      (mSeq (mSet 8 (mCall m_d36 (mAName 5 mANil)))
      (mSeq (mIf (mOrT (mNotT (mTru (mCB (fIsiX Zh Zi Zj Zk) (mCons (mVarR 8) (mCons (mC (.ty "int")) mNil))))) (mTru (mCB (fIsiX Zh Zi Zj Zk) (mCons (mVarR 8) (mCons (mC (.ty "bool")) mNil)))))
      (mRet (mSh (mC (.bl false))))
      mNx)
      (mSeq (mIf (mBl (mBin opNe (mVarR 8) (mCB fSum (mCons (mVal (mComp [6] 1 (mRange rngF1 (mCons (mCB fLen (mCons (mVarR 6) mNil)) mNil)) (gN 1) (mBl (mBin opGt (mBin opIx (mVarR 0) (mVarR 1)) (mC (.int 0)))) (mBin opShl (mC (.int 1)) (mVarR 1)))) mNil))))
      (mRet (mSh (mC (.bl false))))
      mNx)
      (mRet (mSh (mAnd (mVal (mCall m_d23 (mACons (mVal (mCall m_d41 (mAName 5 mANil))) (mAName 6 mANil)))) (mBin opEq (mVal (mCall m_d36 (mAName 5 mANil))) (mVarR 8)))))))))))))))))))
noncomputable def m_d44:MF:=mDef 1 14 mb_d44
set_option genInjectivity false
set_option genSizeOf false
structure Adr where
  f_d26:Addr
  d_d26:FuncData
  f_d37:Addr
  d_d37:FuncData
  f_d15:Addr
  d_d15:FuncData
  f_d31:Addr
  d_d31:FuncData
  f_d28:Addr
  d_d28:FuncData
  f_d8:Addr
  d_d8:FuncData
  f_d30:Addr
  d_d30:FuncData
  f_d27:Addr
  d_d27:FuncData
  f_d13:Addr
  d_d13:FuncData
  f_d40:Addr
  d_d40:FuncData
  f_d24:Addr
  d_d24:FuncData
  f_d17:Addr
  d_d17:FuncData
  f_d43:Addr
  d_d43:FuncData
  f_d6:Addr
  d_d6:FuncData
  f_d4:Addr
  d_d4:FuncData
  f_d14:Addr
  d_d14:FuncData
  f_d5:Addr
  d_d5:FuncData
  f_d11:Addr
  d_d11:FuncData
  f_d7:Addr
  d_d7:FuncData
  f_d9:Addr
  d_d9:FuncData
  f_d10:Addr
  d_d10:FuncData
  f_d29:Addr
  d_d29:FuncData
  f_d34:Addr
  d_d34:FuncData
  f_d39:Addr
  d_d39:FuncData
  f_d2:Addr
  d_d2:FuncData
  f_d42:Addr
  d_d42:FuncData
  f_d38:Addr
  d_d38:FuncData
  f_d41:Addr
  d_d41:FuncData
  f_d35:Addr
  d_d35:FuncData
  f_d36:Addr
  d_d36:FuncData
  f_d16:Addr
  d_d16:FuncData
  f_d21:Addr
  d_d21:FuncData
  f_d22:Addr
  d_d22:FuncData
  f_d32:Addr
  d_d32:FuncData
  f_d25:Addr
  d_d25:FuncData
  f_d20:Addr
  d_d20:FuncData
  f_d3:Addr
  d_d3:FuncData
  f_d12:Addr
  d_d12:FuncData
  f_d19:Addr
  d_d19:FuncData
  f_d0:Addr
  d_d0:FuncData
  f_d1:Addr
  d_d1:FuncData
  f_d18:Addr
  d_d18:FuncData
  f_d33:Addr
  d_d33:FuncData
  f_d23:Addr
  d_d23:FuncData
  f_d44:Addr
  d_d44:FuncData
  C_YardError:Addr
  C_BadThing:Addr
  C_Yard:Addr
  C_Thing:Addr
  C_Post:Addr
  C_Fence:Addr
  C_Sail:Addr
  C_Cloth:Addr
  C_House:Addr
  t_MOST_HEIGHT:Tok
  t_MOST_PLACE:Tok
def cmA (a:Adr):String→Addr:=cmB a.C_YardError a.C_BadThing a.C_Yard a.C_Thing a.C_Post a.C_Fence a.C_Sail a.C_Cloth a.C_House
structure Tx (K:PySem.W.Frag) (mg:Str→Option Value) (a:Adr):Prop where
  F_d26:Fun K "_law_size" "_law_size" s_d26 a.f_d26 a.d_d26
  m_d26:mg "_law_size" = some (.ref a.f_d26)
  b_d26:Binds K a.d_d26 ["_law_cell", "_law_most"] []
  F_d37:Fun K "_law_at" "_law_at" s_d37 a.f_d37 a.d_d37
  m_d37:mg "_law_at" = some (.ref a.f_d37)
  b_d37:Binds K a.d_d37 ["_law_script", "_law_k"] []
  F_d15:Fun K "_law_grains" "_law_grains" s_d15 a.f_d15 a.d_d15
  m_d15:mg "_law_grains" = some (.ref a.f_d15)
  b_d15:Binds K a.d_d15 ["_law_cell", "_law_many"] []
  F_d31:Fun K "_law_sky" "_law_sky" s_d31 a.f_d31 a.d_d31
  m_d31:mg "_law_sky" = some (.ref a.f_d31)
  b_d31:Binds K a.d_d31 ["_law_xs"] []
  F_d28:Fun K "_law_days" "_law_days" s_d28 a.f_d28 a.d_d28
  m_d28:mg "_law_days" = some (.ref a.f_d28)
  b_d28:Binds K a.d_d28 ["_law_script", "_law_start", "_law_many", "_law_long"] []
  F_d8:Fun K "__init__" "Yard.__init__" s_d8 a.f_d8 a.d_d8
  b_d8:Binds K a.d_d8 ["self", "width", "height", "things", "days"] []
  F_d30:Fun K "box_lines" "box_lines" s_d30 a.f_d30 a.d_d30
  m_d30:mg "box_lines" = some (.ref a.f_d30)
  b_d30:Binds K a.d_d30 ["points"] []
  F_d27:Fun K "each_once" "each_once" s_d27 a.f_d27 a.d_d27
  m_d27:mg "each_once" = some (.ref a.f_d27)
  b_d27:Binds K a.d_d27 ["points"] []
  F_d13:Fun K "line_through" "line_through" s_d13 a.f_d13 a.d_d13
  m_d13:mg "line_through" = some (.ref a.f_d13)
  b_d13:Binds K a.d_d13 ["one", "other"] []
  F_d40:Fun K "holds" "holds" s_d40 a.f_d40 a.d_d40
  m_d40:mg "holds" = some (.ref a.f_d40)
  b_d40:Binds K a.d_d40 ["line", "pair"] []
  F_d24:Fun K "edge_lines" "edge_lines" s_d24 a.f_d24 a.d_d24
  m_d24:mg "edge_lines" = some (.ref a.f_d24)
  b_d24:Binds K a.d_d24 ["points"] []
  F_d17:Fun K "lines_about" "lines_about" s_d17 a.f_d17 a.d_d17
  m_d17:mg "lines_about" = some (.ref a.f_d17)
  b_d17:Binds K a.d_d17 ["points"] []
  F_d43:Fun K "cast" "cast" s_d43 a.f_d43 a.d_d43
  m_d43:mg "cast" = some (.ref a.f_d43)
  b_d43:Binds K a.d_d43 ["point", "ray"] []
  F_d6:Fun K "level_corners" "level_corners" s_d6 a.f_d6 a.d_d6
  m_d6:mg "level_corners" = some (.ref a.f_d6)
  b_d6:Binds K a.d_d6 ["x", "y", "u", "v", "z"] []
  F_d4:Fun K "block_corners" "block_corners" s_d4 a.f_d4 a.d_d4
  m_d4:mg "block_corners" = some (.ref a.f_d4)
  b_d4:Binds K a.d_d4 ["x", "y", "u", "v", "h"] []
  F_d14:Fun K "corners" "Post.corners" s_d14 a.f_d14 a.d_d14
  b_d14:Binds K a.d_d14 ["self"] []
  F_d5:Fun K "corners" "Fence.corners" s_d5 a.f_d5 a.d_d5
  b_d5:Binds K a.d_d5 ["self"] []
  F_d11:Fun K "corners" "Sail.corners" s_d11 a.f_d11 a.d_d11
  b_d11:Binds K a.d_d11 ["self"] []
  F_d7:Fun K "corners" "Cloth.corners" s_d7 a.f_d7 a.d_d7
  b_d7:Binds K a.d_d7 ["self"] []
  F_d9:Fun K "corners" "House.corners" s_d9 a.f_d9 a.d_d9
  b_d9:Binds K a.d_d9 ["self"] []
  F_d10:Fun K "corner_casts" "corner_casts" s_d10 a.f_d10 a.d_d10
  m_d10:mg "corner_casts" = some (.ref a.f_d10)
  b_d10:Binds K a.d_d10 ["thing", "ray"] []
  F_d29:Fun K "span_bits" "span_bits" s_d29 a.f_d29 a.d_d29
  m_d29:mg "span_bits" = some (.ref a.f_d29)
  b_d29:Binds K a.d_d29 ["first", "last"] []
  F_d34:Fun K "row_bits" "row_bits" s_d34 a.f_d34 a.d_d34
  m_d34:mg "row_bits" = some (.ref a.f_d34)
  b_d34:Binds K a.d_d34 ["lines", "unit", "q", "width"] []
  F_d39:Fun K "dark_of" "dark_of" s_d39 a.f_d39 a.d_d39
  m_d39:mg "dark_of" = some (.ref a.f_d39)
  b_d39:Binds K a.d_d39 ["yard", "thing", "ray"] []
  F_d2:Fun K "darks_of_things" "darks_of_things" s_d2 a.f_d2 a.d_d2
  m_d2:mg "darks_of_things" = some (.ref a.f_d2)
  b_d2:Binds K a.d_d2 ["yard", "ray"] []
  F_d42:Fun K "dark" "dark" s_d42 a.f_d42 a.d_d42
  m_d42:mg "dark" = some (.ref a.f_d42)
  b_d42:Binds K a.d_d42 ["yard", "turn"] []
  F_d38:Fun K "lit_set" "lit_set" s_d38 a.f_d38 a.d_d38
  m_d38:mg "lit_set" = some (.ref a.f_d38)
  b_d38:Binds K a.d_d38 ["yard", "turn"] []
  F_d41:Fun K "hours" "hours" s_d41 a.f_d41 a.d_d41
  m_d41:mg "hours" = some (.ref a.f_d41)
  b_d41:Binds K a.d_d41 ["yard"] []
  F_d35:Fun K "turns_of" "turns_of" s_d35 a.f_d35 a.d_d35
  m_d35:mg "turns_of" = some (.ref a.f_d35)
  b_d35:Binds K a.d_d35 ["yard", "day"] []
  F_d36:Fun K "ever_lit" "ever_lit" s_d36 a.f_d36 a.d_d36
  m_d36:mg "ever_lit" = some (.ref a.f_d36)
  b_d36:Binds K a.d_d36 ["yard"] []
  F_d16:Fun K "_law_height" "_law_height" s_d16 a.f_d16 a.d_d16
  m_d16:mg "_law_height" = some (.ref a.f_d16)
  b_d16:Binds K a.d_d16 ["_law_number"] []
  F_d21:Fun K "_law_place" "_law_place" s_d21 a.f_d21 a.d_d21
  m_d21:mg "_law_place" = some (.ref a.f_d21)
  b_d21:Binds K a.d_d21 ["_law_number", "_law_wide"] []
  F_d22:Fun K "_law_thing" "_law_thing" s_d22 a.f_d22 a.d_d22
  m_d22:mg "_law_thing" = some (.ref a.f_d22)
  b_d22:Binds K a.d_d22 ["_law_cell", "_law_wide"] []
  F_d32:Fun K "is_place" "is_place" s_d32 a.f_d32 a.d_d32
  m_d32:mg "is_place" = some (.ref a.f_d32)
  b_d32:Binds K a.d_d32 ["number"] []
  F_d25:Fun K "is_height" "is_height" s_d25 a.f_d25 a.d_d25
  m_d25:mg "is_height" = some (.ref a.f_d25)
  b_d25:Binds K a.d_d25 ["number"] []
  F_d20:Fun K "makes_post" "makes_post" s_d20 a.f_d20 a.d_d20
  m_d20:mg "makes_post" = some (.ref a.f_d20)
  b_d20:Binds K a.d_d20 ["numbers"] []
  F_d3:Fun K "__init__" "Thing.__init__" s_d3 a.f_d3 a.d_d3
  b_d3:Binds K a.d_d3 ["self", "word", "numbers"] []
  F_d12:Fun K "has_two_ends" "has_two_ends" s_d12 a.f_d12 a.d_d12
  m_d12:mg "has_two_ends" = some (.ref a.f_d12)
  b_d12:Binds K a.d_d12 ["numbers"] []
  F_d19:Fun K "makes_fence" "makes_fence" s_d19 a.f_d19 a.d_d19
  m_d19:mg "makes_fence" = some (.ref a.f_d19)
  b_d19:Binds K a.d_d19 ["numbers"] []
  F_d0:Fun K "makes_sail_or_house" "makes_sail_or_house" s_d0 a.f_d0 a.d_d0
  m_d0:mg "makes_sail_or_house" = some (.ref a.f_d0)
  b_d0:Binds K a.d_d0 ["numbers"] []
  F_d1:Fun K "is_cloth_corner" "is_cloth_corner" s_d1 a.f_d1 a.d_d1
  m_d1:mg "is_cloth_corner" = some (.ref a.f_d1)
  b_d1:Binds K a.d_d1 ["numbers"] []
  F_d18:Fun K "makes_cloth" "makes_cloth" s_d18 a.f_d18 a.d_d18
  m_d18:mg "makes_cloth" = some (.ref a.f_d18)
  b_d18:Binds K a.d_d18 ["numbers"] []
  F_d33:Fun K "thing_of" "thing_of" s_d33 a.f_d33 a.d_d33
  m_d33:mg "thing_of" = some (.ref a.f_d33)
  b_d33:Binds K a.d_d33 ["word", "numbers"] []
  F_d23:Fun K "_law_right" "_law_right" s_d23 a.f_d23 a.d_d23
  m_d23:mg "_law_right" = some (.ref a.f_d23)
  b_d23:Binds K a.d_d23 ["_law_found", "_law_due"] []
  F_d44:Fun K "law" "law" s_d44 a.f_d44 a.d_d44
  m_d44:mg "law" = some (.ref a.f_d44)
  b_d44:Binds K a.d_d44 ["_law_script"] []
  m_YardError:mg "YardError" = some (.ref (cmA a "YardError"))
  m_BadThing:mg "BadThing" = some (.ref (cmA a "BadThing"))
  m_Yard:mg "Yard" = some (.ref (cmA a "Yard"))
  m_Thing:mg "Thing" = some (.ref (cmA a "Thing"))
  m_Post:mg "Post" = some (.ref (cmA a "Post"))
  m_Fence:mg "Fence" = some (.ref (cmA a "Fence"))
  m_Sail:mg "Sail" = some (.ref (cmA a "Sail"))
  m_Cloth:mg "Cloth" = some (.ref (cmA a "Cloth"))
  m_House:mg "House" = some (.ref (cmA a "House"))
  x_YardError:PySem.W.excIn K (cmA a "YardError") bmV nwV=true
  k_YardError:PySem.W.keepIn K (.ref (cmA a "YardError"))=true
  y_YardError:xclsIn K (cmA a "YardError")=true
  x_BadThing:PySem.W.excIn K (cmA a "BadThing") bmV nwV=true
  k_BadThing:PySem.W.keepIn K (.ref (cmA a "BadThing"))=true
  y_BadThing:xclsIn K (cmA a "BadThing")=true
  c_Yard:Cls K (cmA a "Yard")
  M_Yard:Mk K (cmA a "Yard") a.f_d8
  n_Yard_width:NoAttr K (cmA a "Yard") "width"
  n_Yard_height:NoAttr K (cmA a "Yard") "height"
  n_Yard_things:NoAttr K (cmA a "Yard") "things"
  n_Yard_days:NoAttr K (cmA a "Yard") "days"
  c_Thing:Cls K (cmA a "Thing")
  M_Thing:Mk K (cmA a "Thing") a.f_d3
  n_Thing_word:NoAttr K (cmA a "Thing") "word"
  n_Thing_numbers:NoAttr K (cmA a "Thing") "numbers"
  c_Post:Cls K (cmA a "Post")
  M_Post:Mk K (cmA a "Post") a.f_d3
  n_Post_word:NoAttr K (cmA a "Post") "word"
  n_Post_numbers:NoAttr K (cmA a "Post") "numbers"
  h_Post_corners:Meth K (cmA a "Post") "corners" a.f_d14
  c_Fence:Cls K (cmA a "Fence")
  M_Fence:Mk K (cmA a "Fence") a.f_d3
  n_Fence_word:NoAttr K (cmA a "Fence") "word"
  n_Fence_numbers:NoAttr K (cmA a "Fence") "numbers"
  h_Fence_corners:Meth K (cmA a "Fence") "corners" a.f_d5
  c_Sail:Cls K (cmA a "Sail")
  M_Sail:Mk K (cmA a "Sail") a.f_d3
  n_Sail_word:NoAttr K (cmA a "Sail") "word"
  n_Sail_numbers:NoAttr K (cmA a "Sail") "numbers"
  h_Sail_corners:Meth K (cmA a "Sail") "corners" a.f_d11
  c_Cloth:Cls K (cmA a "Cloth")
  M_Cloth:Mk K (cmA a "Cloth") a.f_d3
  n_Cloth_word:NoAttr K (cmA a "Cloth") "word"
  n_Cloth_numbers:NoAttr K (cmA a "Cloth") "numbers"
  h_Cloth_corners:Meth K (cmA a "Cloth") "corners" a.f_d7
  c_House:Cls K (cmA a "House")
  M_House:Mk K (cmA a "House") a.f_d3
  n_House_word:NoAttr K (cmA a "House") "word"
  n_House_numbers:NoAttr K (cmA a "House") "numbers"
  h_House_corners:Meth K (cmA a "House") "corners" a.f_d9
  iC:AllT (fun C D b=>xisIn K (cmA a C)=true∧PySem.W.kitOne K (.ref (cmA a C)) (.ref (cmA a D))=some b) Zh
  iT:AllT (fun C D b=>xisIn K (cmA a C)=true∧PySem.W.kitOne K (.ref (cmA a C)) (.type D)=some b) Zi
  iD:AllC (fun D=>PySem.W.kitOne K (.type "NoneType") (.ref (cmA a D))=some false) Zj
  iN:AllC (fun D=>PySem.W.kitOne K (.type "NoneType") (.type D)=some false) Zk
  m_MOST_HEIGHT:mg "MOST_HEIGHT" = some (.int (1000000000) a.t_MOST_HEIGHT)
  m_MOST_PLACE:mg "MOST_PLACE" = some (.int (1000000000) a.t_MOST_PLACE)
  z_all:mg "all" = none
  z_bool:mg "bool" = none
  z_enumerate:mg "enumerate" = none
  z_int:mg "int" = none
  z_isinstance:mg "isinstance" = none
  z_len:mg "len" = none
  z_list:mg "list" = none
  z_max:mg "max" = none
  z_min:mg "min" = none
  z_range:mg "range" = none
  z_sum:mg "sum" = none
  z_tuple:mg "tuple" = none
theorem sc_d26:FnScope ["_law_cell", "_law_most", "_law_width"] ["_law_cell", "_law_most"] (defScope s_d26):=⟨rfl,rfl,rfl,by decide +kernel,rfl,by decide +kernel,by decide +kernel⟩
theorem sc_d37:FnScope ["_law_script", "_law_k"] ["_law_script", "_law_k"] (defScope s_d37):=⟨rfl,rfl,rfl,by decide +kernel,rfl,by decide +kernel,by decide +kernel⟩
theorem sc_d15:FnScope ["_law_cell", "_law_many", "_law_found", "_law_number", "_law_k"] ["_law_cell", "_law_many"] (defScope s_d15):=⟨rfl,rfl,rfl,by decide +kernel,rfl,by decide +kernel,by decide +kernel⟩
theorem sc_d31:FnScope ["_law_xs", "_law_scale"] ["_law_xs"] (defScope s_d31):=⟨rfl,rfl,rfl,by decide +kernel,rfl,by decide +kernel,by decide +kernel⟩
theorem sc_d28:FnScope ["_law_script", "_law_start", "_law_many", "_law_long", "_law_names", "_law_turned", "_law_days_here", "_law_k", "_law_xs", "_law_turns"] ["_law_script", "_law_start", "_law_many", "_law_long"] (defScope s_d28):=⟨rfl,rfl,rfl,by decide +kernel,rfl,by decide +kernel,by decide +kernel⟩
theorem sc_d8:FnScope ["self", "width", "height", "things", "days"] ["self", "width", "height", "things", "days"] (defScope s_d8):=⟨rfl,rfl,rfl,by decide +kernel,rfl,by decide +kernel,by decide +kernel⟩
theorem sc_d30:FnScope ["points", "rights", "downs"] ["points"] (defScope s_d30):=⟨rfl,rfl,rfl,by decide +kernel,rfl,by decide +kernel,by decide +kernel⟩
theorem sc_d27:FnScope ["points", "kept", "point"] ["points"] (defScope s_d27):=⟨rfl,rfl,rfl,by decide +kernel,rfl,by decide +kernel,by decide +kernel⟩
theorem sc_d13:FnScope ["one", "other", "l", "m"] ["one", "other"] (defScope s_d13):=⟨rfl,rfl,rfl,by decide +kernel,rfl,by decide +kernel,by decide +kernel⟩
theorem sc_d40:FnScope ["line", "pair"] ["line", "pair"] (defScope s_d40):=⟨rfl,rfl,rfl,by decide +kernel,rfl,by decide +kernel,by decide +kernel⟩
theorem sc_d24:FnScope ["points", "lines", "apart", "one", "other", "line"] ["points"] (defScope s_d24):=⟨rfl,rfl,rfl,by decide +kernel,rfl,by decide +kernel,by decide +kernel⟩
theorem sc_d17:FnScope ["points"] ["points"] (defScope s_d17):=⟨rfl,rfl,rfl,by decide +kernel,rfl,by decide +kernel,by decide +kernel⟩
theorem sc_d43:FnScope ["point", "ray"] ["point", "ray"] (defScope s_d43):=⟨rfl,rfl,rfl,by decide +kernel,rfl,by decide +kernel,by decide +kernel⟩
theorem sc_d6:FnScope ["x", "y", "u", "v", "z"] ["x", "y", "u", "v", "z"] (defScope s_d6):=⟨rfl,rfl,rfl,by decide +kernel,rfl,by decide +kernel,by decide +kernel⟩
theorem sc_d4:FnScope ["x", "y", "u", "v", "h"] ["x", "y", "u", "v", "h"] (defScope s_d4):=⟨rfl,rfl,rfl,by decide +kernel,rfl,by decide +kernel,by decide +kernel⟩
theorem sc_d14:FnScope ["self", "right", "down"] ["self"] (defScope s_d14):=⟨rfl,rfl,rfl,by decide +kernel,rfl,by decide +kernel,by decide +kernel⟩
theorem sc_d5:FnScope ["self", "given", "one", "other"] ["self"] (defScope s_d5):=⟨rfl,rfl,rfl,by decide +kernel,rfl,by decide +kernel,by decide +kernel⟩
theorem sc_d11:FnScope ["self", "given"] ["self"] (defScope s_d11):=⟨rfl,rfl,rfl,by decide +kernel,rfl,by decide +kernel,by decide +kernel⟩
theorem sc_d7:FnScope ["self"] ["self"] (defScope s_d7):=⟨rfl,rfl,rfl,by decide +kernel,rfl,by decide +kernel,by decide +kernel⟩
theorem sc_d9:FnScope ["self", "given"] ["self"] (defScope s_d9):=⟨rfl,rfl,rfl,by decide +kernel,rfl,by decide +kernel,by decide +kernel⟩
theorem sc_d10:FnScope ["thing", "ray"] ["thing", "ray"] (defScope s_d10):=⟨rfl,rfl,rfl,by decide +kernel,rfl,by decide +kernel,by decide +kernel⟩
theorem sc_d29:FnScope ["first", "last"] ["first", "last"] (defScope s_d29):=⟨rfl,rfl,rfl,by decide +kernel,rfl,by decide +kernel,by decide +kernel⟩
theorem sc_d34:FnScope ["lines", "unit", "q", "width", "first", "last", "l", "m", "n", "step", "room"] ["lines", "unit", "q", "width"] (defScope s_d34):=⟨rfl,rfl,rfl,by decide +kernel,rfl,by decide +kernel,by decide +kernel⟩
theorem sc_d39:FnScope ["yard", "thing", "ray", "lines", "bits", "q"] ["yard", "thing", "ray"] (defScope s_d39):=⟨rfl,rfl,rfl,by decide +kernel,rfl,by decide +kernel,by decide +kernel⟩
theorem sc_d2:FnScope ["yard", "ray"] ["yard", "ray"] (defScope s_d2):=⟨rfl,rfl,rfl,by decide +kernel,rfl,by decide +kernel,by decide +kernel⟩
theorem sc_d42:FnScope ["yard", "turn", "bits", "some"] ["yard", "turn"] (defScope s_d42):=⟨rfl,rfl,rfl,by decide +kernel,rfl,by decide +kernel,by decide +kernel⟩
theorem sc_d38:FnScope ["yard", "turn"] ["yard", "turn"] (defScope s_d38):=⟨rfl,rfl,rfl,by decide +kernel,rfl,by decide +kernel,by decide +kernel⟩
theorem sc_d41:FnScope ["yard", "sums", "name", "times", "turns", "turn", "bits"] ["yard"] (defScope s_d41):=⟨rfl,rfl,rfl,by decide +kernel,rfl,by decide +kernel,by decide +kernel⟩
theorem sc_d35:FnScope ["yard", "day"] ["yard", "day"] (defScope s_d35):=⟨rfl,rfl,rfl,by decide +kernel,rfl,by decide +kernel,by decide +kernel⟩
theorem sc_d36:FnScope ["yard", "bits", "day", "turn"] ["yard"] (defScope s_d36):=⟨rfl,rfl,rfl,by decide +kernel,rfl,by decide +kernel,by decide +kernel⟩
theorem sc_d16:FnScope ["_law_number"] ["_law_number"] (defScope s_d16):=⟨rfl,rfl,rfl,by decide +kernel,rfl,by decide +kernel,by decide +kernel⟩
theorem sc_d21:FnScope ["_law_number", "_law_wide"] ["_law_number", "_law_wide"] (defScope s_d21):=⟨rfl,rfl,rfl,by decide +kernel,rfl,by decide +kernel,by decide +kernel⟩
theorem sc_d22:FnScope ["_law_cell", "_law_wide", "_law_xs", "_law_h", "_law_kind", "_law_x", "_law_y", "_law_u", "_law_v"] ["_law_cell", "_law_wide"] (defScope s_d22):=⟨rfl,rfl,rfl,by decide +kernel,rfl,by decide +kernel,by decide +kernel⟩
theorem sc_d32:FnScope ["number"] ["number"] (defScope s_d32):=⟨rfl,rfl,rfl,by decide +kernel,rfl,by decide +kernel,by decide +kernel⟩
theorem sc_d25:FnScope ["number"] ["number"] (defScope s_d25):=⟨rfl,rfl,rfl,by decide +kernel,rfl,by decide +kernel,by decide +kernel⟩
theorem sc_d20:FnScope ["numbers"] ["numbers"] (defScope s_d20):=⟨rfl,rfl,rfl,by decide +kernel,rfl,by decide +kernel,by decide +kernel⟩
theorem sc_d3:FnScope ["self", "word", "numbers"] ["self", "word", "numbers"] (defScope s_d3):=⟨rfl,rfl,rfl,by decide +kernel,rfl,by decide +kernel,by decide +kernel⟩
theorem sc_d12:FnScope ["numbers"] ["numbers"] (defScope s_d12):=⟨rfl,rfl,rfl,by decide +kernel,rfl,by decide +kernel,by decide +kernel⟩
theorem sc_d19:FnScope ["numbers"] ["numbers"] (defScope s_d19):=⟨rfl,rfl,rfl,by decide +kernel,rfl,by decide +kernel,by decide +kernel⟩
theorem sc_d0:FnScope ["numbers"] ["numbers"] (defScope s_d0):=⟨rfl,rfl,rfl,by decide +kernel,rfl,by decide +kernel,by decide +kernel⟩
theorem sc_d1:FnScope ["numbers"] ["numbers"] (defScope s_d1):=⟨rfl,rfl,rfl,by decide +kernel,rfl,by decide +kernel,by decide +kernel⟩
theorem sc_d18:FnScope ["numbers"] ["numbers"] (defScope s_d18):=⟨rfl,rfl,rfl,by decide +kernel,rfl,by decide +kernel,by decide +kernel⟩
theorem sc_d33:FnScope ["word", "numbers"] ["word", "numbers"] (defScope s_d33):=⟨rfl,rfl,rfl,by decide +kernel,rfl,by decide +kernel,by decide +kernel⟩
theorem sc_d23:FnScope ["_law_found", "_law_due"] ["_law_found", "_law_due"] (defScope s_d23):=⟨rfl,rfl,rfl,by decide +kernel,rfl,by decide +kernel,by decide +kernel⟩
theorem sc_d44:FnScope ["_law_script", "_law_size_here", "_law_drawn", "_law_days_here", "_law_things", "_law_yard", "_law_due", "_law_told", "_law_ever", "_law_name", "_law_many", "_law_turns", "_law_turn", "_law_bits"] ["_law_script"] (defScope s_d44):=⟨rfl,rfl,rfl,by decide +kernel,rfl,by decide +kernel,by decide +kernel⟩
section
variable {P:Program} {w:World} {K:PySem.W.Frag} {mg:Str→Option Value} {base:Heap} {a:Adr}
theorem ok_d26 (T:Tx K mg a):FnOk P w K mg base (CXE P w) 1 a.f_d26 a.d_d26 ["_law_cell", "_law_most"] (spP ⟨K,cmA a⟩ 2 m_d26):=by
  refine fnQ (cm:=cmA a) (mb:=mb_d26) T.F_d26 sc_d26 rfl rfl rfl fun cdv A outer s H E hr => ?_
  have hu:=hr.units
  exact (ss_cons (s_if (PW.pt (w_and (t_cmp ov_eq (om_eqD hu) (r_of (v_bin ov_mod om_mod (r_of (v_bin ov_fdv om_fdiv (r_var 0) (r_of v_int))) (r_of v_int))) (r_of v_int) (nomark _)) (w_and1 (t_cmp ov_gt om_gt (r_var 1) (r_of v_int) (nomark _)))))
      (ss_one (s_ret (o_of (v_ix ov_ix xm_ix (r_of (v_of (o_lst (a_cons (v_tup (a_cons v_int (a_cons v_int a_nil))) (a_cons (v_tup (a_cons v_int (a_cons v_int a_nil))) a_nil))))) (r_of (v_bin ov_mod om_mod (r_var 0) (r_of v_int))) (fun _ _=>rfl)))))
      ss_nil)
      (ss_cons (s_set (i:=2) sc_d26.nd rfl (by first | exact Or.inl rfl | exact Or.inr rfl) (o_bin ov_add or_add (r_of v_int) (r_of (v_bin ov_mod om_mod (r_var 0) (r_of (PE.wk (pe_callB (cm_min2 rfl) (by rfl) T.z_min PyProof.Rows.boot_min (ar_cons (r_of v_int) (ar_cons (r_var 1) ar_nil))) fun _ _ _ h=>cb_v cv_min2 h))))))
      (ss_one (s_ret (o_of (v_tup (a_cons (v_var 2) (a_cons (v_of (o_bin ov_add or_add (r_of v_int) (r_of (v_bin ov_mod om_mod (r_of (v_bin ov_fdv om_fdiv (r_var 0) (r_of v_int))) (r_of (PE.wk (pe_callB (cm_min2 rfl) (by rfl) T.z_min PyProof.Rows.boot_min (ar_cons (r_of v_int) (ar_cons (r_of (v_bin ov_fdv om_fdiv (r_var 1) (r_var 2))) ar_nil))) fun _ _ _ h=>cb_v cv_min2 h)))))) a_nil))))))))
theorem ok_d37 (T:Tx K mg a):FnOk P w K mg base (CXE P w) 1 a.f_d37 a.d_d37 ["_law_script", "_law_k"] (spP ⟨K,cmA a⟩ 2 m_d37):=by
  refine fnQ (cm:=cmA a) (mb:=mb_d37) T.F_d37 sc_d37 rfl rfl rfl fun cdv A outer s H E hr => ?_
  have hu:=hr.units
  exact (ss_cons (s_if (t_cmp ov_lt om_lt (r_var 1) (r_of (PE.wk (pe_callB cm_len (by rfl) T.z_len PySem.boot_len (ar_cons (r_var 0) ar_nil)) fun _ _ _ h=>cb_v cv_len h)) (nomark _))
      (ss_one (s_ret (o_of (v_ix ov_ix xm_ix (r_var 0) (r_var 1) (fun _ _=>rfl)))))
      ss_nil)
      (ss_one (s_ret (o_of v_int))))
theorem ok_d15 (T:Tx K mg a):FnOk P w K mg base (CXE P w) 1 a.f_d15 a.d_d15 ["_law_cell", "_law_many"] (spP ⟨K,cmA a⟩ 2 m_d15):=by
  refine fnQ (cm:=cmA a) (mb:=mb_d15) T.F_d15 sc_d15 rfl rfl rfl fun cdv A outer s H E hr => ?_
  have hu:=hr.units
  exact (ss_cons (s_set (i:=2) sc_d15.nd rfl (by first | exact Or.inl rfl | exact Or.inr rfl) (o_lst a_nil))
      (ss_cons (s_set (i:=3) sc_d15.nd rfl (by first | exact Or.inl rfl | exact Or.inr rfl) (o_of (v_bin ov_fdv om_fdiv (r_var 0) (r_of v_int))))
      (ss_cons (s_if (t_cmp ov_eq (om_eqD hu) (r_of (v_bin ov_mod om_mod (r_var 0) (r_of v_int))) (r_of v_int) (nomark _))
      (ss_one (s_set (i:=3) sc_d15.nd rfl (by first | exact Or.inl rfl | exact Or.inr rfl) (o_of (v_bin ov_mod om_mod (r_var 3) (r_of v_int)))))
      ss_nil)
      (ss_cons (s_for PassesOwn.leaving rfl (i_range1 rfl T.z_range (a_cons (v_var 1) a_nil)) (g_name (i:=4) sc_d15.nd rfl (by first | exact Or.inl rfl | exact Or.inr rfl))
      (ss_one (s_if (t_cmp ov_eq (om_eqD hu) (r_of (v_bin ov_mod om_mod (r_var 0) (r_of v_int))) (r_of v_int) (nomark _))
      (ss_cons (PS.wk (ps_expr (pe_bm PySem.F.plainAttrs_list PySem.F.slot_list_append PySem.F.type_list_append mt_append (pv 2) (a_cons (v_bin ov_mod om_mod (r_var 3) (r_of v_int)) a_nil))) fun _ _ _ h=>app_end h)
      (ss_one (s_set (i:=3) sc_d15.nd rfl (by first | exact Or.inl rfl | exact Or.inr rfl) (o_of (v_bin ov_fdv om_fdiv (r_var 3) (r_of v_int))))))
      (ss_cons (s_set (i:=3) sc_d15.nd rfl (by first | exact Or.inl rfl | exact Or.inr rfl) (o_of (v_bin ov_mod om_mod (r_of (v_of (o_bin ov_add or_add (r_of (v_of (o_bin ov_add or_add (r_of (v_bin ov_mul om_mulS (r_var 3) (r_of v_int))) (r_of v_int)))) (r_of (v_bin ov_mul om_mulS (r_of v_int) (r_var 4)))))) (r_of v_int))))
      (ss_one (PS.wk (ps_expr (pe_bm PySem.F.plainAttrs_list PySem.F.slot_list_append PySem.F.type_list_append mt_append (pv 2) (a_cons (v_bin ov_fdv om_fdiv (r_var 3) (r_of v_int)) a_nil))) fun _ _ _ h=>app_end h))))))
      (ss_one (s_ret (o_var 2)))))))
theorem ok_d31 (T:Tx K mg a):FnOk P w K mg base (CXE P w) 1 a.f_d31 a.d_d31 ["_law_xs"] (spP ⟨K,cmA a⟩ 1 m_d31):=by
  refine fnQ (cm:=cmA a) (mb:=mb_d31) T.F_d31 sc_d31 rfl rfl rfl fun cdv A outer s H E hr => ?_
  have hu:=hr.units
  exact (@ss_cons _ _ _ _ _ _ _ (@s_if _ _ _ _ _ _ _ _ _ _ (@t_cmp _ _ _ _ _ _ _ _ _ _ _ (@ov_eq _) (@om_eqD _ hu) (@r_of _ _ _ _ _ (@v_bin _ _ _ _ _ _ _ _ _ _ _ (@ov_mod _) (@om_mod _) (@r_of _ _ _ _ _ (@v_ix _ _ _ _ _ _ _ _ _ _ (@ov_ix _) (@xm_ix _) (@r_var _ _ _ 0 _ _ (by rfl) (by first | exact Or.inl rfl | exact Or.inr (Or.inl rfl) | exact Or.inr (Or.inr rfl)) (by decide) (by decide)) (@r_of _ _ _ _ _ (@v_int _ _ _ _ _ _)) (fun _ _=>rfl))) (@r_of _ _ _ _ _ (@v_int _ _ _ _ _ _)))) (@r_of _ _ _ _ _ (@v_int _ _ _ _ _ _)) (nomark _)) (@ss_one _ _ _ _ _ (@s_ret _ _ _ _ _ _ (@o_of _ _ _ _ _ (@v_non _ _ _ _ _)))) (@ss_nil _ _ _)) (@ss_cons _ _ _ _ _ _ _ (@s_set _ _ _ _ _ _ 1 _ _ sc_d31.nd rfl (by first | exact Or.inl rfl | exact Or.inr rfl) (@o_of _ _ _ _ _ (@v_ix _ _ _ _ _ _ _ _ _ _ (@ov_ix _) (@xm_ix _) (@r_of _ _ _ _ _ (@v_of _ _ _ _ _ (@o_lst _ _ _ _ _ _ (@a_cons _ _ _ _ _ _ _ (@v_int _ _ _ _ _ _) (@a_cons _ _ _ _ _ _ _ (@v_int _ _ _ _ _ _) (@a_cons _ _ _ _ _ _ _ (@v_int _ _ _ _ _ _) (@a_cons _ _ _ _ _ _ _ (@v_bin _ _ _ _ _ _ _ _ _ _ _ (@ov_pow _) (@om_pow _) (@r_of _ _ _ _ _ (@v_int _ _ _ _ _ _)) (@r_of _ _ _ _ _ (@v_int _ _ _ _ _ _))) (@a_nil _ _ _) (by exact st_ns rfl)) (by exact st_ns rfl)) (by exact st_ns rfl)) (by exact st_ns rfl))))) (@r_of _ _ _ _ _ (@v_bin _ _ _ _ _ _ _ _ _ _ _ (@ov_mod _) (@om_mod _) (@r_of _ _ _ _ _ (@v_ix _ _ _ _ _ _ _ _ _ _ (@ov_ix _) (@xm_ix _) (@r_var _ _ _ 0 _ _ (by rfl) (by first | exact Or.inl rfl | exact Or.inr (Or.inl rfl) | exact Or.inr (Or.inr rfl)) (by decide) (by decide)) (@r_of _ _ _ _ _ (@v_int _ _ _ _ _ _)) (fun _ _=>rfl))) (@r_of _ _ _ _ _ (@v_int _ _ _ _ _ _)))) (fun _ _=>rfl))) (by rfl) (by first | exact .inl rfl | exact .inr rfl | assumption)) (@ss_one _ _ _ _ _ (@s_ret _ _ _ _ _ _ (@o_of _ _ _ _ _ (@v_tup _ _ _ _ _ _ _ (@a_cons _ _ _ _ _ _ _ (@v_bin _ _ _ _ _ _ _ _ _ _ _ (@ov_mul _) (@om_mulS _) (@r_of _ _ _ _ _ (@v_bin _ _ _ _ _ _ _ _ _ _ _ (@ov_sub _) (@om_sub _) (@r_of _ _ _ _ _ (@v_bin _ _ _ _ _ _ _ _ _ _ _ (@ov_mod _) (@om_mod _) (@r_of _ _ _ _ _ (@v_ix _ _ _ _ _ _ _ _ _ _ (@ov_ix _) (@xm_ix _) (@r_var _ _ _ 0 _ _ (by rfl) (by first | exact Or.inl rfl | exact Or.inr (Or.inl rfl) | exact Or.inr (Or.inr rfl)) (by decide) (by decide)) (@r_of _ _ _ _ _ (@v_int _ _ _ _ _ _)) (fun _ _=>rfl))) (@r_of _ _ _ _ _ (@v_int _ _ _ _ _ _)))) (@r_of _ _ _ _ _ (@v_int _ _ _ _ _ _)))) (@r_var _ _ _ 1 _ _ (by rfl) (by first | exact Or.inl rfl | exact Or.inr (Or.inl rfl) | exact Or.inr (Or.inr rfl)) (by decide) (by decide))) (@a_cons _ _ _ _ _ _ _ (@v_bin _ _ _ _ _ _ _ _ _ _ _ (@ov_mul _) (@om_mulS _) (@r_of _ _ _ _ _ (@v_bin _ _ _ _ _ _ _ _ _ _ _ (@ov_sub _) (@om_sub _) (@r_of _ _ _ _ _ (@v_bin _ _ _ _ _ _ _ _ _ _ _ (@ov_mod _) (@om_mod _) (@r_of _ _ _ _ _ (@v_ix _ _ _ _ _ _ _ _ _ _ (@ov_ix _) (@xm_ix _) (@r_var _ _ _ 0 _ _ (by rfl) (by first | exact Or.inl rfl | exact Or.inr (Or.inl rfl) | exact Or.inr (Or.inr rfl)) (by decide) (by decide)) (@r_of _ _ _ _ _ (@v_int _ _ _ _ _ _)) (fun _ _=>rfl))) (@r_of _ _ _ _ _ (@v_int _ _ _ _ _ _)))) (@r_of _ _ _ _ _ (@v_int _ _ _ _ _ _)))) (@r_var _ _ _ 1 _ _ (by rfl) (by first | exact Or.inl rfl | exact Or.inr (Or.inl rfl) | exact Or.inr (Or.inr rfl)) (by decide) (by decide))) (@a_cons _ _ _ _ _ _ _ (@v_bin _ _ _ _ _ _ _ _ _ _ _ (@ov_mul _) (@om_mulS _) (@r_of _ _ _ _ _ (@v_of _ _ _ _ _ (@o_bin _ _ _ _ _ _ _ _ _ _ _ (@ov_add _) (@or_add _) (@r_of _ _ _ _ _ (@v_int _ _ _ _ _ _)) (@r_of _ _ _ _ _ (@v_bin _ _ _ _ _ _ _ _ _ _ _ (@ov_mod _) (@om_mod _) (@r_of _ _ _ _ _ (@v_ix _ _ _ _ _ _ _ _ _ _ (@ov_ix _) (@xm_ix _) (@r_var _ _ _ 0 _ _ (by rfl) (by first | exact Or.inl rfl | exact Or.inr (Or.inl rfl) | exact Or.inr (Or.inr rfl)) (by decide) (by decide)) (@r_of _ _ _ _ _ (@v_int _ _ _ _ _ _)) (fun _ _=>rfl))) (@r_of _ _ _ _ _ (@v_int _ _ _ _ _ _))))))) (@r_var _ _ _ 1 _ _ (by rfl) (by first | exact Or.inl rfl | exact Or.inr (Or.inl rfl) | exact Or.inr (Or.inr rfl)) (by decide) (by decide))) (@a_nil _ _ _) (by exact st_ns rfl)) (by exact st_ns rfl)) (by exact st_ns rfl))))))))
theorem ok_d28 (T:Tx K mg a):FnOk P w K mg base (CXE P w) 2 a.f_d28 a.d_d28 ["_law_script", "_law_start", "_law_many", "_law_long"] (spP ⟨K,cmA a⟩ 4 m_d28):=by
  refine fnQ (cm:=cmA a) (mb:=mb_d28) T.F_d28 sc_d28 rfl rfl rfl fun cdv A outer s H E hr => ?_
  have hu:=hr.units
  exact (@ss_cons _ _ _ _ _ _ _ (@s_set _ _ _ _ _ _ 4 _ _ sc_d28.nd rfl (by first | exact Or.inl rfl | exact Or.inr rfl) (@o_lst _ _ _ _ _ _ (@a_cons _ _ _ _ _ _ _ (@v_str _ _ _ _ _ _) (@a_cons _ _ _ _ _ _ _ (@v_str _ _ _ _ _ _) (@a_cons _ _ _ _ _ _ _ (@v_str _ _ _ _ _ _) (@a_cons _ _ _ _ _ _ _ (@v_str _ _ _ _ _ _) (@a_cons _ _ _ _ _ _ _ (@v_str _ _ _ _ _ _) (@a_cons _ _ _ _ _ _ _ (@v_str _ _ _ _ _ _) (@a_cons _ _ _ _ _ _ _ (@v_str _ _ _ _ _ _) (@a_cons _ _ _ _ _ _ _ (@v_str _ _ _ _ _ _) (@a_cons _ _ _ _ _ _ _ (@v_str _ _ _ _ _ _) (@a_cons _ _ _ _ _ _ _ (@v_str _ _ _ _ _ _) (@a_cons _ _ _ _ _ _ _ (@v_str _ _ _ _ _ _) (@a_cons _ _ _ _ _ _ _ (@v_str _ _ _ _ _ _) (@a_nil _ _ _) (by exact st_ns rfl)) (by exact st_ns rfl)) (by exact st_ns rfl)) (by exact st_ns rfl)) (by exact st_ns rfl)) (by exact st_ns rfl)) (by exact st_ns rfl)) (by exact st_ns rfl)) (by exact st_ns rfl)) (by exact st_ns rfl)) (by exact st_ns rfl)) (by exact st_ns rfl))) (by rfl) (by first | exact .inl rfl | exact .inr rfl | assumption)) (@ss_cons _ _ _ _ _ _ _ (@s_set _ _ _ _ _ _ 5 _ _ sc_d28.nd rfl (by first | exact Or.inl rfl | exact Or.inr rfl) (@o_of _ _ _ _ _ (@v_bin _ _ _ _ _ _ _ _ _ _ _ (@ov_mod _) (@om_mod _) (@r_of _ _ _ _ _ (@v_of _ _ _ _ _ (@o_call _ _ _ _ _ _ _ _ _ _ _ _ _ _ _ _ (ok_d37 T) mDef_len (hr.mono (by decide)) rfl T.m_d37 T.F_d37.kp T.b_d37 (@passE _ _ _ _ _ _ _ _ _ _ _ _ _ _ _) (@ag_name _ _ _ _ _ 0 _ _ (by rfl) (by first | exact Or.inl rfl | exact Or.inr (Or.inl rfl) | exact Or.inr (Or.inr rfl)) (by decide) (by decide) (@ag_name _ _ _ _ _ 1 _ _ (by rfl) (by first | exact Or.inl rfl | exact Or.inr (Or.inl rfl) | exact Or.inr (Or.inr rfl)) (by decide) (by decide) (@ag_nil _ _ _) (by exact st_ns rfl)) (by exact st_ns rfl)) (by decide) (by exact st_ns rfl) (by rfl)))) (@r_of _ _ _ _ _ (@v_int _ _ _ _ _ _)))) (by rfl) (by first | exact .inl rfl | exact .inr rfl | assumption)) (@ss_cons _ _ _ _ _ _ _ (@s_set _ _ _ _ _ _ 4 _ _ sc_d28.nd rfl (by first | exact Or.inl rfl | exact Or.inr rfl) (@o_bin _ _ _ _ _ _ _ _ _ _ _ (@ov_add _) (@or_add _) (@r_of _ _ _ _ _ (@v_of _ _ _ _ _ (@o_slice _ _ _ _ _ _ _ _ _ _ _ (@r_var _ _ _ 4 _ _ (by rfl) (by first | exact Or.inl rfl | exact Or.inr (Or.inl rfl) | exact Or.inr (Or.inr rfl)) (by decide) (by decide)) (@p_some _ _ _ _ _ (@v_var _ _ _ 5 _ _ (by rfl) (by first | exact Or.inl rfl | exact Or.inr (Or.inl rfl) | exact Or.inr (Or.inr rfl)) (by decide) (by decide))) (@p_none _ _ _)))) (@r_of _ _ _ _ _ (@v_of _ _ _ _ _ (@o_slice _ _ _ _ _ _ _ _ _ _ _ (@r_var _ _ _ 4 _ _ (by rfl) (by first | exact Or.inl rfl | exact Or.inr (Or.inl rfl) | exact Or.inr (Or.inr rfl)) (by decide) (by decide)) (@p_none _ _ _) (@p_some _ _ _ _ _ (@v_var _ _ _ 5 _ _ (by rfl) (by first | exact Or.inl rfl | exact Or.inr (Or.inl rfl) | exact Or.inr (Or.inr rfl)) (by decide) (by decide))))))) (by rfl) (by first | exact .inl rfl | exact .inr rfl | assumption)) (@ss_cons _ _ _ _ _ _ _ (@s_set _ _ _ _ _ _ 6 _ _ sc_d28.nd rfl (by first | exact Or.inl rfl | exact Or.inr rfl) (@o_lst _ _ _ _ _ _ (@a_nil _ _ _)) (by rfl) (by first | exact .inl rfl | exact .inr rfl | assumption)) (@ss_cons _ _ _ _ _ _ _ (@s_for _ _ _ _ _ _ _ _ _ _ PassesOwn.leaving rfl (@i_range1 _ _ _ _ _ _ _ _ rfl T.z_range (@a_cons _ _ _ _ _ _ _ (@v_var _ _ _ 2 _ _ (by rfl) (by first | exact Or.inl rfl | exact Or.inr (Or.inl rfl) | exact Or.inr (Or.inr rfl)) (by decide) (by decide)) (@a_nil _ _ _) (by exact st_ns rfl)) (by exact st_ns rfl)) (@g_name _ _ _ 7 _ sc_d28.nd rfl (by first | exact Or.inl rfl | exact Or.inr rfl) (by first | exact .inl rfl | exact .inr rfl | assumption)) (@ss_cons _ _ _ _ _ _ _ (@s_set _ _ _ _ _ _ 8 _ _ sc_d28.nd rfl (by first | exact Or.inl rfl | exact Or.inr rfl) (@o_call _ _ _ _ _ _ _ _ _ _ _ _ _ _ _ _ (ok_d15 T) mDef_len (hr.mono (by decide)) rfl T.m_d15 T.F_d15.kp T.b_d15 (@passE _ _ _ _ _ _ _ _ _ _ _ _ _ _ _) (@ag_cons _ _ _ _ _ _ _ (@v_of _ _ _ _ _ (@o_bin _ _ _ _ _ _ _ _ _ _ _ (@ov_add _) (@or_add _) (@r_of _ _ _ _ _ (@v_bin _ _ _ _ _ _ _ _ _ _ _ (@ov_fdv _) (@om_fdiv _) (@r_of _ _ _ _ _ (@v_of _ _ _ _ _ (@o_call _ _ _ _ _ _ _ _ _ _ _ _ _ _ _ _ (ok_d37 T) mDef_len (hr.mono (by decide)) rfl T.m_d37 T.F_d37.kp T.b_d37 (@passE _ _ _ _ _ _ _ _ _ _ _ _ _ _ _) (@ag_name _ _ _ _ _ 0 _ _ (by rfl) (by first | exact Or.inl rfl | exact Or.inr (Or.inl rfl) | exact Or.inr (Or.inr rfl)) (by decide) (by decide) (@ag_cons _ _ _ _ _ _ _ (@v_of _ _ _ _ _ (@o_bin _ _ _ _ _ _ _ _ _ _ _ (@ov_add _) (@or_add _) (@r_var _ _ _ 1 _ _ (by rfl) (by first | exact Or.inl rfl | exact Or.inr (Or.inl rfl) | exact Or.inr (Or.inr rfl)) (by decide) (by decide)) (@r_var _ _ _ 7 _ _ (by rfl) (by first | exact Or.inl rfl | exact Or.inr (Or.inl rfl) | exact Or.inr (Or.inr rfl)) (by decide) (by decide)))) (@ag_nil _ _ _) (by exact st_ns rfl)) (by exact st_ns rfl)) (by decide) (by exact st_ns rfl) (by rfl)))) (@r_of _ _ _ _ _ (@v_int _ _ _ _ _ _)))) (@r_of _ _ _ _ _ (@v_bin _ _ _ _ _ _ _ _ _ _ _ (@ov_mul _) (@om_mulS _) (@r_of _ _ _ _ _ (@v_int _ _ _ _ _ _)) (@r_var _ _ _ 7 _ _ (by rfl) (by first | exact Or.inl rfl | exact Or.inr (Or.inl rfl) | exact Or.inr (Or.inr rfl)) (by decide) (by decide)))))) (@ag_cons _ _ _ _ _ _ _ (@v_of _ _ _ _ _ (@o_bin _ _ _ _ _ _ _ _ _ _ _ (@ov_add _) (@or_add _) (@r_of _ _ _ _ _ (@v_bin _ _ _ _ _ _ _ _ _ _ _ (@ov_mul _) (@om_mulS _) (@r_of _ _ _ _ _ (@v_int _ _ _ _ _ _)) (@r_var _ _ _ 3 _ _ (by rfl) (by first | exact Or.inl rfl | exact Or.inr (Or.inl rfl) | exact Or.inr (Or.inr rfl)) (by decide) (by decide)))) (@r_of _ _ _ _ _ (@v_int _ _ _ _ _ _)))) (@ag_nil _ _ _) (by exact st_ns rfl)) (by exact st_ns rfl)) (by decide) (by exact st_ns rfl) (by rfl)) (by rfl) (by first | exact .inl rfl | exact .inr rfl | assumption)) (@ss_cons _ _ _ _ _ _ _ (s_setc (i:=9) sc_d28.nd rfl rfl ["_law_xs", "_law_j"] [8] 1 (defScope s_d28) rfl rfl (@i_range1 _ _ _ _ _ _ _ _ rfl T.z_range (@a_cons _ _ _ _ _ _ _ (@v_of _ _ _ _ _ (@o_bin _ _ _ _ _ _ _ _ _ _ _ (@ov_add _) (@or_add _) (@r_of _ _ _ _ _ (@v_int _ _ _ _ _ _)) (@r_of _ _ _ _ _ (@v_bin _ _ _ _ _ _ _ _ _ _ _ (@ov_mod _) (@om_mod _) (@r_of _ _ _ _ _ (@v_ix _ _ _ _ _ _ _ _ _ _ (@ov_ix _) (@xm_ix _) (@r_var _ _ _ 8 _ _ (by rfl) (by first | exact Or.inl rfl | exact Or.inr (Or.inl rfl) | exact Or.inr (Or.inr rfl)) (by decide) (by decide)) (@r_of _ _ _ _ _ (@v_int _ _ _ _ _ _)) (fun _ _=>rfl))) (@r_var _ _ _ 3 _ _ (by rfl) (by first | exact Or.inl rfl | exact Or.inr (Or.inl rfl) | exact Or.inr (Or.inr rfl)) (by decide) (by decide)))))) (@a_nil _ _ _) (by exact st_ns rfl)) (by exact st_ns rfl)) (fun _ _ _ _ _=>(@g_name _ _ _ 1 _ (show (["_law_xs", "_law_j"]:List Str).Nodup by decide +kernel) rfl (by first | exact Or.inl rfl | exact Or.inr rfl) (by first | exact .inl rfl | exact .inr rfl | assumption))) (fun _ _ _ _ _=>(@ts_nil _ _ _)) (fun _ _ _ _ _=>(@v_of _ _ _ _ _ (@o_call _ _ _ _ _ _ _ _ _ _ _ _ _ _ _ _ (ok_d31 T) mDef_len (hr.mono (by decide)) rfl T.m_d31 T.F_d31.kp T.b_d31 (@passEF _ _ _) (@ag_cons _ _ _ _ _ _ _ (@v_of _ _ _ _ _ (@o_slice _ _ _ _ _ _ _ _ _ _ _ (@r_var _ _ _ 0 _ _ (by rfl) (by first | exact Or.inl rfl | exact Or.inr (Or.inl rfl) | exact Or.inr (Or.inr rfl)) (by decide) (by decide)) (@p_some _ _ _ _ _ (@v_of _ _ _ _ _ (@o_bin _ _ _ _ _ _ _ _ _ _ _ (@ov_add _) (@or_add _) (@r_of _ _ _ _ _ (@v_int _ _ _ _ _ _)) (@r_of _ _ _ _ _ (@v_bin _ _ _ _ _ _ _ _ _ _ _ (@ov_mul _) (@om_mulS _) (@r_of _ _ _ _ _ (@v_int _ _ _ _ _ _)) (@r_var _ _ _ 1 _ _ (by rfl) (by first | exact Or.inl rfl | exact Or.inr (Or.inl rfl) | exact Or.inr (Or.inr rfl)) (by decide) (by decide))))))) (@p_some _ _ _ _ _ (@v_of _ _ _ _ _ (@o_bin _ _ _ _ _ _ _ _ _ _ _ (@ov_add _) (@or_add _) (@r_of _ _ _ _ _ (@v_int _ _ _ _ _ _)) (@r_of _ _ _ _ _ (@v_bin _ _ _ _ _ _ _ _ _ _ _ (@ov_mul _) (@om_mulS _) (@r_of _ _ _ _ _ (@v_int _ _ _ _ _ _)) (@r_var _ _ _ 1 _ _ (by rfl) (by first | exact Or.inl rfl | exact Or.inr (Or.inl rfl) | exact Or.inr (Or.inr rfl)) (by decide) (by decide))))))))) (@ag_nil _ _ _) (by exact st_ns rfl)) (by decide) (by exact st_ns rfl) (by rfl)))) ⟨rfl,⟨rfl,by first | exact Or.inl rfl | exact Or.inr rfl⟩,trivial⟩) (@ss_one _ _ _ _ _ (@PS.wk _ _ _ _ (ps_expr (pe_bm PySem.F.plainAttrs_list PySem.F.slot_list_append PySem.F.type_list_append mt_append (pv 6) (@a_cons _ _ _ _ _ _ _ (@v_tup _ _ _ _ _ _ _ (@a_cons _ _ _ _ _ _ _ (@v_ix _ _ _ _ _ _ _ _ _ _ (@ov_ix _) (@xm_ix _) (@r_var _ _ _ 4 _ _ (by rfl) (by first | exact Or.inl rfl | exact Or.inr (Or.inl rfl) | exact Or.inr (Or.inr rfl)) (by decide) (by decide)) (@r_var _ _ _ 7 _ _ (by rfl) (by first | exact Or.inl rfl | exact Or.inr (Or.inl rfl) | exact Or.inr (Or.inr rfl)) (by decide) (by decide)) (fun _ _=>rfl)) (@a_cons _ _ _ _ _ _ _ (@v_of _ _ _ _ _ (@o_bin _ _ _ _ _ _ _ _ _ _ _ (@ov_add _) (@or_add _) (@r_of _ _ _ _ _ (@v_int _ _ _ _ _ _)) (@r_of _ _ _ _ _ (@v_bin _ _ _ _ _ _ _ _ _ _ _ (@ov_mod _) (@om_mod _) (@r_of _ _ _ _ _ (@v_bin _ _ _ _ _ _ _ _ _ _ _ (@ov_mul _) (@om_mulS _) (@r_of _ _ _ _ _ (@v_ix _ _ _ _ _ _ _ _ _ _ (@ov_ix _) (@xm_ix _) (@r_var _ _ _ 8 _ _ (by rfl) (by first | exact Or.inl rfl | exact Or.inr (Or.inl rfl) | exact Or.inr (Or.inr rfl)) (by decide) (by decide)) (@r_of _ _ _ _ _ (@v_int _ _ _ _ _ _)) (fun _ _=>rfl))) (@r_of _ _ _ _ _ (@v_int _ _ _ _ _ _)))) (@r_of _ _ _ _ _ (@v_bin _ _ _ _ _ _ _ _ _ _ _ (@ov_pow _) (@om_pow _) (@r_of _ _ _ _ _ (@v_int _ _ _ _ _ _)) (@r_of _ _ _ _ _ (@v_int _ _ _ _ _ _)))))))) (@a_cons _ _ _ _ _ _ _ (@v_var _ _ _ 9 _ _ (by rfl) (by first | exact Or.inl rfl | exact Or.inr (Or.inl rfl) | exact Or.inr (Or.inr rfl)) (by decide) (by decide)) (@a_nil _ _ _) (by exact st_ns rfl)) (by exact st_ns rfl)) (by exact st_ns rfl))) (@a_nil _ _ _) (by exact st_ns rfl)))) (fun _ _ _ h => @app_end _ _ _ _ _ _ _ _ h))))) (by intro _;rfl)) (@ss_one _ _ _ _ _ (@s_ret _ _ _ _ _ _ (@o_var _ _ _ 6 _ _ (by rfl) (by first | exact Or.inl rfl | exact Or.inr (Or.inl rfl) | exact Or.inr (Or.inr rfl)) (by decide) (by decide)))))))))
theorem okI_Yard (T:Tx K mg a):FnOk P w K mg base (CXE P w) 1 a.f_d8 a.d_d8 ["self", "width", "height", "things", "days"] (spI ⟨K,cmA a⟩ 5 "Yard" mi_Yard):=by
  refine fnI (cm:=cmA a) (mb:=mb_d8) T.F_d8 sc_d8 rfl rfl rfl fun cdv A outer s H E hr => ?_
  have hu:=hr.units
  exact (ss_cons (s_putf (i:=0) ["Yard"] ⟨⟨T.c_Yard,T.n_Yard_width⟩,trivial⟩ (pv 0) (v_var 1))
      (ss_cons (s_putf (i:=0) ["Yard"] ⟨⟨T.c_Yard,T.n_Yard_height⟩,trivial⟩ (pv 0) (v_var 2))
      (ss_cons (s_putf (i:=0) ["Yard"] ⟨⟨T.c_Yard,T.n_Yard_things⟩,trivial⟩ (pv 0) (v_of (PE.wk (pe_callTy cr_list (by rfl) T.z_list PyProof.Rows.boot_list (ar_cons (r_var 3) ar_nil)) fun _ _ _ h=>cb_o co_list h)))
      (ss_one (s_putf (i:=0) ["Yard"] ⟨⟨T.c_Yard,T.n_Yard_days⟩,trivial⟩ (pv 0) (v_of (o_comp ["name", "times", "turns"] [] 3 (defScope s_d8) rfl rfl (i_name 4) (fun _ _ _ _ _=>(g_tup rfl (gs_cons (g_name (i:=0) (show (["name", "times", "turns"]:List Str).Nodup by decide +kernel) rfl (by first | exact Or.inl rfl | exact Or.inr rfl)) (gs_cons (g_name (i:=1) (show (["name", "times", "turns"]:List Str).Nodup by decide +kernel) rfl (by first | exact Or.inl rfl | exact Or.inr rfl)) (gs_cons (g_name (i:=2) (show (["name", "times", "turns"]:List Str).Nodup by decide +kernel) rfl (by first | exact Or.inl rfl | exact Or.inr rfl)) gs_nil))))) (fun _ _ _ _ _=>ts_nil) (fun _ _ _ _ _=>(v_tup (a_cons (v_var 0) (a_cons (v_var 1) (a_cons (v_of (PE.wk (pe_callTy cr_list (by rfl) T.z_list PyProof.Rows.boot_list (ar_cons (r_var 2) ar_nil)) fun _ _ _ h=>cb_o co_list h)) a_nil))))) trivial)))))))
theorem ok_d30 (T:Tx K mg a):FnOk P w K mg base (CXE P w) 1 a.f_d30 a.d_d30 ["points"] (spP ⟨K,cmA a⟩ 1 m_d30):=by
  refine fnQ (cm:=cmA a) (mb:=mb_d30) T.F_d30 sc_d30 rfl rfl rfl fun cdv A outer s H E hr => ?_
  have hu:=hr.units
  exact (ss_cons (s_setc (i:=1) sc_d30.nd rfl rfl ["point"] [] 1 (defScope s_d30) rfl rfl (i_name 0) (fun _ _ _ _ _=>(g_name (i:=0) (show (["point"]:List Str).Nodup by decide +kernel) rfl (by first | exact Or.inl rfl | exact Or.inr rfl))) (fun _ _ _ _ _=>ts_nil) (fun _ _ _ _ _=>(v_ix ov_ix xm_ix (r_var 0) (r_of v_int) (fun _ _=>rfl))) trivial)
      (ss_cons (s_setc (i:=2) sc_d30.nd rfl rfl ["point"] [] 1 (defScope s_d30) rfl rfl (i_name 0) (fun _ _ _ _ _=>(g_name (i:=0) (show (["point"]:List Str).Nodup by decide +kernel) rfl (by first | exact Or.inl rfl | exact Or.inr rfl))) (fun _ _ _ _ _=>ts_nil) (fun _ _ _ _ _=>(v_ix ov_ix xm_ix (r_var 0) (r_of v_int) (fun _ _=>rfl))) trivial)
      (ss_one (s_ret (o_lst (a_cons (v_tup (a_cons v_int (a_cons v_int (a_cons (PE.wk (pe_callB (cr_max rfl) (by rfl) T.z_max PyProof.Rows.boot_max (ar_cons (r_var 1) ar_nil)) fun _ _ _ h=>cb_v cv_max h) a_nil)))) (a_cons (v_tup (a_cons (v_un uv_neg um_neg (r_of v_int)) (a_cons v_int (a_cons (v_un uv_neg um_neg (r_of (PE.wk (pe_callB (cr_min rfl) (by rfl) T.z_min PyProof.Rows.boot_min (ar_cons (r_var 1) ar_nil)) fun _ _ _ h=>cb_v cv_min h))) a_nil)))) (a_cons (v_tup (a_cons v_int (a_cons v_int (a_cons (PE.wk (pe_callB (cr_max rfl) (by rfl) T.z_max PyProof.Rows.boot_max (ar_cons (r_var 2) ar_nil)) fun _ _ _ h=>cb_v cv_max h) a_nil)))) (a_cons (v_tup (a_cons v_int (a_cons (v_un uv_neg um_neg (r_of v_int)) (a_cons (v_un uv_neg um_neg (r_of (PE.wk (pe_callB (cr_min rfl) (by rfl) T.z_min PyProof.Rows.boot_min (ar_cons (r_var 2) ar_nil)) fun _ _ _ h=>cb_v cv_min h))) a_nil)))) a_nil)))))))))
theorem ok_d27 (T:Tx K mg a):FnOk P w K mg base (CXE P w) 1 a.f_d27 a.d_d27 ["points"] (spP ⟨K,cmA a⟩ 1 m_d27):=by
  refine fnQ (cm:=cmA a) (mb:=mb_d27) T.F_d27 sc_d27 rfl rfl rfl fun cdv A outer s H E hr => ?_
  have hu:=hr.units
  exact (ss_cons (s_set (i:=1) sc_d27.nd rfl (by first | exact Or.inl rfl | exact Or.inr rfl) (o_lst a_nil))
      (ss_cons (s_for PassesOwn.leaving rfl (i_name 0) (g_name (i:=2) sc_d27.nd rfl (by first | exact Or.inl rfl | exact Or.inr rfl))
      (ss_one (s_if (t_cmp ov_inD (op_notInD hu) (r_var 2) (r_var 1) (by with_unfolding_all rfl))
      (ss_one (PS.wk (ps_expr (pe_bm PySem.F.plainAttrs_list PySem.F.slot_list_append PySem.F.type_list_append mt_append (pv 1) (a_cons (v_var 2) a_nil))) fun _ _ _ h=>app_end h))
      ss_nil)))
      (ss_one (s_ret (o_var 1)))))
theorem ok_d13 (T:Tx K mg a):FnOk P w K mg base (CXE P w) 1 a.f_d13 a.d_d13 ["one", "other"] (spP ⟨K,cmA a⟩ 2 m_d13):=by
  refine fnQ (cm:=cmA a) (mb:=mb_d13) T.F_d13 sc_d13 rfl rfl rfl fun cdv A outer s H E hr => ?_
  have hu:=hr.units
  exact (ss_cons (s_set (i:=2) sc_d13.nd rfl (by first | exact Or.inl rfl | exact Or.inr rfl) (o_of (v_bin ov_sub om_sub (r_of (v_ix ov_ix xm_ix (r_var 1) (r_of v_int) (fun _ _=>rfl))) (r_of (v_ix ov_ix xm_ix (r_var 0) (r_of v_int) (fun _ _=>rfl))))))
      (ss_cons (s_set (i:=3) sc_d13.nd rfl (by first | exact Or.inl rfl | exact Or.inr rfl) (o_of (v_bin ov_sub om_sub (r_of (v_ix ov_ix xm_ix (r_var 0) (r_of v_int) (fun _ _=>rfl))) (r_of (v_ix ov_ix xm_ix (r_var 1) (r_of v_int) (fun _ _=>rfl))))))
      (ss_one (s_ret (o_of (v_tup (a_cons (v_var 2) (a_cons (v_var 3) (a_cons (v_of (o_bin ov_add or_add (r_of (v_bin ov_mul om_mulS (r_var 2) (r_of (v_ix ov_ix xm_ix (r_var 0) (r_of v_int) (fun _ _=>rfl))))) (r_of (v_bin ov_mul om_mulS (r_var 3) (r_of (v_ix ov_ix xm_ix (r_var 0) (r_of v_int) (fun _ _=>rfl))))))) a_nil)))))))))
theorem ok_d40 (T:Tx K mg a):FnOk P w K mg base (CXE P w) 1 a.f_d40 a.d_d40 ["line", "pair"] (spP ⟨K,cmA a⟩ 2 m_d40):=by
  refine fnQ (cm:=cmA a) (mb:=mb_d40) T.F_d40 sc_d40 rfl rfl rfl fun cdv A outer s H E hr => ?_
  have hu:=hr.units
  exact (ss_one (s_ret (o_of (v_cmp ov_le om_le (r_of (v_of (o_bin ov_add or_add (r_of (v_bin ov_mul om_mulS (r_of (v_ix ov_ix xm_ix (r_var 0) (r_of v_int) (fun _ _=>rfl))) (r_of (v_ix ov_ix xm_ix (r_var 1) (r_of v_int) (fun _ _=>rfl))))) (r_of (v_bin ov_mul om_mulS (r_of (v_ix ov_ix xm_ix (r_var 0) (r_of v_int) (fun _ _=>rfl))) (r_of (v_ix ov_ix xm_ix (r_var 1) (r_of v_int) (fun _ _=>rfl)))))))) (r_of (v_ix ov_ix xm_ix (r_var 0) (r_of v_int) (fun _ _=>rfl))) (nomark _)))))
theorem ok_d24 (T:Tx K mg a):FnOk P w K mg base (CXE P w) 2 a.f_d24 a.d_d24 ["points"] (spP ⟨K,cmA a⟩ 1 m_d24):=by
  refine fnQ (cm:=cmA a) (mb:=mb_d24) T.F_d24 sc_d24 rfl rfl rfl fun cdv A outer s H E hr => ?_
  have hu:=hr.units
  exact (ss_cons (s_set (i:=1) sc_d24.nd rfl (by first | exact Or.inl rfl | exact Or.inr rfl) (o_lst a_nil))
      (ss_cons (s_set (i:=2) sc_d24.nd rfl (by first | exact Or.inl rfl | exact Or.inr rfl) (o_call (ok_d27 T) mDef_len (hr.mono (by decide)) rfl T.m_d27 T.F_d27.kp T.b_d27 passE (ag_name 0 (hr:=ag_nil))))
      (ss_cons (s_for PassesOwn.leaving rfl (i_name 2) (g_name (i:=3) sc_d24.nd rfl (by first | exact Or.inl rfl | exact Or.inr rfl))
      (ss_one (s_for PassesOwn.leaving rfl (i_name 2) (g_name (i:=4) sc_d24.nd rfl (by first | exact Or.inl rfl | exact Or.inr rfl))
      (ss_cons (s_set (i:=5) sc_d24.nd rfl (by first | exact Or.inl rfl | exact Or.inr rfl) (o_call (ok_d13 T) mDef_len (hr.mono (by decide)) rfl T.m_d13 T.F_d13.kp T.b_d13 passE (ag_name 3 (hr:=(ag_name 4 (hr:=ag_nil))))))
      (ss_one (s_if (PW.pt (w_and (t_cmp ov_ne (om_neD hu) (r_var 3) (r_var 4) (nomark _)) (w_and1 (t_val (r_of (PE.wk (pe_callB (cm_all rfl) (by rfl) T.z_all PyProof.Rows.boot_all (ar_cons (r_of (v_of (o_comp ["line", "point"] [5] 1 (defScope s_d24) rfl rfl (i_name 2) (fun _ _ _ _ _=>(g_name (i:=1) (show (["line", "point"]:List Str).Nodup by decide +kernel) rfl (by first | exact Or.inl rfl | exact Or.inr rfl))) (fun _ _ _ _ _=>ts_nil) (fun _ _ _ _ _=>(v_of (o_call (ok_d40 T) mDef_len (hr.mono (by decide)) rfl T.m_d40 T.F_d40.kp T.b_d40 passEF (ag_name 0 (hr:=(ag_name 1 (hr:=ag_nil))))))) ⟨rfl,⟨rfl,by first | exact Or.inl rfl | exact Or.inr rfl⟩,trivial⟩))) ar_nil)) fun _ _ _ h=>cb_v cv_all h))))))
      (ss_one (PS.wk (ps_expr (pe_bm PySem.F.plainAttrs_list PySem.F.slot_list_append PySem.F.type_list_append mt_append (pv 1) (a_cons (v_var 5) a_nil))) fun _ _ _ h=>app_end h))
      ss_nil))))))
      (ss_one (s_ret (o_var 1))))))
theorem ok_d17 (T:Tx K mg a):FnOk P w K mg base (CXE P w) 3 a.f_d17 a.d_d17 ["points"] (spP ⟨K,cmA a⟩ 1 m_d17):=by
  refine fnQ (cm:=cmA a) (mb:=mb_d17) T.F_d17 sc_d17 rfl rfl rfl fun cdv A outer s H E hr => ?_
  have hu:=hr.units
  exact (ss_one (s_ret (o_bin ov_add or_add (r_of (v_of (o_call (ok_d30 T) mDef_len (hr.mono (by decide)) rfl T.m_d30 T.F_d30.kp T.b_d30 passE (ag_name 0 (hr:=ag_nil))))) (r_of (v_of (o_call (ok_d24 T) mDef_len (hr.mono (by decide)) rfl T.m_d24 T.F_d24.kp T.b_d24 passE (ag_name 0 (hr:=ag_nil))))))))
theorem ok_d43 (T:Tx K mg a):FnOk P w K mg base (CXE P w) 1 a.f_d43 a.d_d43 ["point", "ray"] (spP ⟨K,cmA a⟩ 2 m_d43):=by
  refine fnQ (cm:=cmA a) (mb:=mb_d43) T.F_d43 sc_d43 rfl rfl rfl fun cdv A outer s H E hr => ?_
  have hu:=hr.units
  exact (ss_one (s_ret (o_of (v_tup (a_cons (v_of (o_bin ov_add or_add (r_of (v_bin ov_mul om_mulS (r_of (v_ix ov_ix xm_ix (r_var 1) (r_of v_int) (fun _ _=>rfl))) (r_of (v_ix ov_ix xm_ix (r_var 0) (r_of v_int) (fun _ _=>rfl))))) (r_of (v_bin ov_mul om_mulS (r_of (v_ix ov_ix xm_ix (r_var 1) (r_of v_int) (fun _ _=>rfl))) (r_of (v_ix ov_ix xm_ix (r_var 0) (r_of v_int) (fun _ _=>rfl))))))) (a_cons (v_of (o_bin ov_add or_add (r_of (v_bin ov_mul om_mulS (r_of (v_ix ov_ix xm_ix (r_var 1) (r_of v_int) (fun _ _=>rfl))) (r_of (v_ix ov_ix xm_ix (r_var 0) (r_of v_int) (fun _ _=>rfl))))) (r_of (v_bin ov_mul om_mulS (r_of (v_ix ov_ix xm_ix (r_var 1) (r_of v_int) (fun _ _=>rfl))) (r_of (v_ix ov_ix xm_ix (r_var 0) (r_of v_int) (fun _ _=>rfl))))))) a_nil))))))
theorem ok_d6 (T:Tx K mg a):FnOk P w K mg base (CXE P w) 1 a.f_d6 a.d_d6 ["x", "y", "u", "v", "z"] (spP ⟨K,cmA a⟩ 5 m_d6):=by
  refine fnQ (cm:=cmA a) (mb:=mb_d6) T.F_d6 sc_d6 rfl rfl rfl fun cdv A outer s H E hr => ?_
  have hu:=hr.units
  exact (ss_one (s_ret (o_lst (a_cons (v_tup (a_cons (v_var 0) (a_cons (v_var 1) (a_cons (v_var 4) a_nil)))) (a_cons (v_tup (a_cons (v_var 2) (a_cons (v_var 1) (a_cons (v_var 4) a_nil)))) (a_cons (v_tup (a_cons (v_var 2) (a_cons (v_var 3) (a_cons (v_var 4) a_nil)))) (a_cons (v_tup (a_cons (v_var 0) (a_cons (v_var 3) (a_cons (v_var 4) a_nil)))) a_nil)))))))
theorem ok_d4 (T:Tx K mg a):FnOk P w K mg base (CXE P w) 2 a.f_d4 a.d_d4 ["x", "y", "u", "v", "h"] (spP ⟨K,cmA a⟩ 5 m_d4):=by
  refine fnQ (cm:=cmA a) (mb:=mb_d4) T.F_d4 sc_d4 rfl rfl rfl fun cdv A outer s H E hr => ?_
  have hu:=hr.units
  exact (ss_one (s_ret (o_bin ov_add or_add (r_of (v_of (o_call (ok_d6 T) mDef_len (hr.mono (by decide)) rfl T.m_d6 T.F_d6.kp T.b_d6 passE (ag_name 0 (hr:=(ag_name 1 (hr:=(ag_name 2 (hr:=(ag_name 3 (hr:=(ag_cons v_int ag_nil)))))))))))) (r_of (v_of (o_call (ok_d6 T) mDef_len (hr.mono (by decide)) rfl T.m_d6 T.F_d6.kp T.b_d6 passE (ag_name 0 (hr:=(ag_name 1 (hr:=(ag_name 2 (hr:=(ag_name 3 (hr:=(ag_name 4 (hr:=ag_nil))))))))))))))))
theorem ok_d14 (T:Tx K mg a):FnOk P w K mg base (CXE P w) 3 a.f_d14 a.d_d14 ["self"] (spP ⟨K,cmA a⟩ 1 m_d14):=by
  refine fnQ (cm:=cmA a) (mb:=mb_d14) T.F_d14 sc_d14 rfl rfl rfl fun cdv A outer s H E hr => ?_
  have hu:=hr.units
  exact (ss_cons (s_set (i:=1) sc_d14.nd rfl (by first | exact Or.inl rfl | exact Or.inr rfl) (o_of (v_bin ov_mul om_mulS (r_of v_int) (r_of (v_ix ov_ix xm_ix (r_of (v_fld ["Thing", "Post", "Fence", "Sail", "Cloth", "House"] ⟨⟨T.c_Thing,T.n_Thing_numbers⟩,⟨⟨T.c_Post,T.n_Post_numbers⟩,⟨⟨T.c_Fence,T.n_Fence_numbers⟩,⟨⟨T.c_Sail,T.n_Sail_numbers⟩,⟨⟨T.c_Cloth,T.n_Cloth_numbers⟩,⟨⟨T.c_House,T.n_House_numbers⟩,trivial⟩⟩⟩⟩⟩⟩ (r_var 0))) (r_of v_int) (fun _ _=>rfl))))))
      (ss_cons (s_set (i:=2) sc_d14.nd rfl (by first | exact Or.inl rfl | exact Or.inr rfl) (o_of (v_bin ov_mul om_mulS (r_of v_int) (r_of (v_ix ov_ix xm_ix (r_of (v_fld ["Thing", "Post", "Fence", "Sail", "Cloth", "House"] ⟨⟨T.c_Thing,T.n_Thing_numbers⟩,⟨⟨T.c_Post,T.n_Post_numbers⟩,⟨⟨T.c_Fence,T.n_Fence_numbers⟩,⟨⟨T.c_Sail,T.n_Sail_numbers⟩,⟨⟨T.c_Cloth,T.n_Cloth_numbers⟩,⟨⟨T.c_House,T.n_House_numbers⟩,trivial⟩⟩⟩⟩⟩⟩ (r_var 0))) (r_of v_int) (fun _ _=>rfl))))))
      (ss_one (s_ret (o_call (ok_d4 T) mDef_len (hr.mono (by decide)) rfl T.m_d4 T.F_d4.kp T.b_d4 passE (ag_cons (v_bin ov_sub om_sub (r_var 1) (r_of v_int)) (ag_cons (v_bin ov_sub om_sub (r_var 2) (r_of v_int)) (ag_cons (v_of (o_bin ov_add or_add (r_var 1) (r_of v_int))) (ag_cons (v_of (o_bin ov_add or_add (r_var 2) (r_of v_int))) (ag_cons (v_ix ov_ix xm_ix (r_of (v_fld ["Thing", "Post", "Fence", "Sail", "Cloth", "House"] ⟨⟨T.c_Thing,T.n_Thing_numbers⟩,⟨⟨T.c_Post,T.n_Post_numbers⟩,⟨⟨T.c_Fence,T.n_Fence_numbers⟩,⟨⟨T.c_Sail,T.n_Sail_numbers⟩,⟨⟨T.c_Cloth,T.n_Cloth_numbers⟩,⟨⟨T.c_House,T.n_House_numbers⟩,trivial⟩⟩⟩⟩⟩⟩ (r_var 0))) (r_of v_int) (fun _ _=>rfl)) ag_nil))))))))))
theorem ok_d5 (T:Tx K mg a):FnOk P w K mg base (CXE P w) 1 a.f_d5 a.d_d5 ["self"] (spP ⟨K,cmA a⟩ 1 m_d5):=by
  refine fnQ (cm:=cmA a) (mb:=mb_d5) T.F_d5 sc_d5 rfl rfl rfl fun cdv A outer s H E hr => ?_
  have hu:=hr.units
  exact (ss_cons (s_set (i:=1) sc_d5.nd rfl (by first | exact Or.inl rfl | exact Or.inr rfl) (o_of (v_fld ["Thing", "Post", "Fence", "Sail", "Cloth", "House"] ⟨⟨T.c_Thing,T.n_Thing_numbers⟩,⟨⟨T.c_Post,T.n_Post_numbers⟩,⟨⟨T.c_Fence,T.n_Fence_numbers⟩,⟨⟨T.c_Sail,T.n_Sail_numbers⟩,⟨⟨T.c_Cloth,T.n_Cloth_numbers⟩,⟨⟨T.c_House,T.n_House_numbers⟩,trivial⟩⟩⟩⟩⟩⟩ (r_var 0))))
      (ss_cons (s_set (i:=2) sc_d5.nd rfl (by first | exact Or.inl rfl | exact Or.inr rfl) (o_of (v_tup (a_cons (v_ix ov_ix xm_ix (r_var 1) (r_of v_int) (fun _ _=>rfl)) (a_cons (v_ix ov_ix xm_ix (r_var 1) (r_of v_int) (fun _ _=>rfl)) a_nil)))))
      (ss_cons (s_set (i:=3) sc_d5.nd rfl (by first | exact Or.inl rfl | exact Or.inr rfl) (o_of (v_tup (a_cons (v_ix ov_ix xm_ix (r_var 1) (r_of v_int) (fun _ _=>rfl)) (a_cons (v_ix ov_ix xm_ix (r_var 1) (r_of v_int) (fun _ _=>rfl)) a_nil)))))
      (ss_one (s_ret (o_lst (a_cons (v_of (o_bin ov_add or_add (r_var 2) (r_of (v_tup (a_cons v_int a_nil))))) (a_cons (v_of (o_bin ov_add or_add (r_var 3) (r_of (v_tup (a_cons v_int a_nil))))) (a_cons (v_of (o_bin ov_add or_add (r_var 3) (r_of (v_tup (a_cons (v_ix ov_ix xm_ix (r_var 1) (r_of v_int) (fun _ _=>rfl)) a_nil))))) (a_cons (v_of (o_bin ov_add or_add (r_var 2) (r_of (v_tup (a_cons (v_ix ov_ix xm_ix (r_var 1) (r_of v_int) (fun _ _=>rfl)) a_nil))))) a_nil))))))))))
theorem ok_d11 (T:Tx K mg a):FnOk P w K mg base (CXE P w) 2 a.f_d11 a.d_d11 ["self"] (spP ⟨K,cmA a⟩ 1 m_d11):=by
  refine fnQ (cm:=cmA a) (mb:=mb_d11) T.F_d11 sc_d11 rfl rfl rfl fun cdv A outer s H E hr => ?_
  have hu:=hr.units
  exact (ss_cons (s_set (i:=1) sc_d11.nd rfl (by first | exact Or.inl rfl | exact Or.inr rfl) (o_of (v_fld ["Thing", "Post", "Fence", "Sail", "Cloth", "House"] ⟨⟨T.c_Thing,T.n_Thing_numbers⟩,⟨⟨T.c_Post,T.n_Post_numbers⟩,⟨⟨T.c_Fence,T.n_Fence_numbers⟩,⟨⟨T.c_Sail,T.n_Sail_numbers⟩,⟨⟨T.c_Cloth,T.n_Cloth_numbers⟩,⟨⟨T.c_House,T.n_House_numbers⟩,trivial⟩⟩⟩⟩⟩⟩ (r_var 0))))
      (ss_one (s_ret (o_call (ok_d6 T) mDef_len (hr.mono (by decide)) rfl T.m_d6 T.F_d6.kp T.b_d6 passE (ag_cons (v_ix ov_ix xm_ix (r_var 1) (r_of v_int) (fun _ _=>rfl)) (ag_cons (v_ix ov_ix xm_ix (r_var 1) (r_of v_int) (fun _ _=>rfl)) (ag_cons (v_ix ov_ix xm_ix (r_var 1) (r_of v_int) (fun _ _=>rfl)) (ag_cons (v_ix ov_ix xm_ix (r_var 1) (r_of v_int) (fun _ _=>rfl)) (ag_cons (v_ix ov_ix xm_ix (r_var 1) (r_of v_int) (fun _ _=>rfl)) ag_nil)))))))))
theorem ok_d7 (T:Tx K mg a):FnOk P w K mg base (CXE P w) 1 a.f_d7 a.d_d7 ["self"] (spP ⟨K,cmA a⟩ 1 m_d7):=by
  refine fnQ (cm:=cmA a) (mb:=mb_d7) T.F_d7 sc_d7 rfl rfl rfl fun cdv A outer s H E hr => ?_
  have hu:=hr.units
  exact (@ss_one _ _ _ _ _ (@s_ret _ _ _ _ _ _ (o_comp ["self", "place"] [0] 1 (defScope s_d7) rfl rfl (@i_seq _ _ _ _ _ _ (@v_tup _ _ _ _ _ _ _ (@a_cons _ _ _ _ _ _ _ (@v_int _ _ _ _ _ _) (@a_cons _ _ _ _ _ _ _ (@v_int _ _ _ _ _ _) (@a_cons _ _ _ _ _ _ _ (@v_int _ _ _ _ _ _) (@a_nil _ _ _) (by exact st_ns rfl)) (by exact st_ns rfl)) (by exact st_ns rfl)))) (fun _ _ _ _ _=>(@g_name _ _ _ 1 _ (show (["self", "place"]:List Str).Nodup by decide +kernel) rfl (by first | exact Or.inl rfl | exact Or.inr rfl) (by first | exact .inl rfl | exact .inr rfl | assumption))) (fun _ _ _ _ _=>(@ts_nil _ _ _)) (fun _ _ _ _ _=>(@PE.wk _ _ _ _ (pe_callTy cr_tuple (by rfl) T.z_tuple PyProof.Rows.boot_tuple (@ar_cons _ _ _ _ _ _ _ (@r_of _ _ _ _ _ (@v_of _ _ _ _ _ (@o_slice _ _ _ _ _ _ _ _ _ _ _ (@r_of _ _ _ _ _ (@v_fld _ _ _ _ _ _ _ ["Thing", "Post", "Fence", "Sail", "Cloth", "House"] ⟨⟨T.c_Thing,T.n_Thing_numbers⟩,⟨⟨T.c_Post,T.n_Post_numbers⟩,⟨⟨T.c_Fence,T.n_Fence_numbers⟩,⟨⟨T.c_Sail,T.n_Sail_numbers⟩,⟨⟨T.c_Cloth,T.n_Cloth_numbers⟩,⟨⟨T.c_House,T.n_House_numbers⟩,trivial⟩⟩⟩⟩⟩⟩ (@r_var _ _ _ 0 _ _ (by rfl) (by first | exact Or.inl rfl | exact Or.inr (Or.inl rfl) | exact Or.inr (Or.inr rfl)) (by decide) (by decide)) (by rfl))) (@p_some _ _ _ _ _ (@v_var _ _ _ 1 _ _ (by rfl) (by first | exact Or.inl rfl | exact Or.inr (Or.inl rfl) | exact Or.inr (Or.inr rfl)) (by decide) (by decide))) (@p_some _ _ _ _ _ (@v_of _ _ _ _ _ (@o_bin _ _ _ _ _ _ _ _ _ _ _ (@ov_add _) (@or_add _) (@r_var _ _ _ 1 _ _ (by rfl) (by first | exact Or.inl rfl | exact Or.inr (Or.inl rfl) | exact Or.inr (Or.inr rfl)) (by decide) (by decide)) (@r_of _ _ _ _ _ (@v_int _ _ _ _ _ _)))))))) (@ar_nil _ _ _) (by exact st_ns rfl))) (fun _ _ _ h => @cb_v _ _ _ _ _ _ (@cv_tuple _) _ _ _ h))) ⟨rfl,⟨rfl,by first | exact Or.inl rfl | exact Or.inr rfl⟩,trivial⟩)))
theorem ok_d9 (T:Tx K mg a):FnOk P w K mg base (CXE P w) 3 a.f_d9 a.d_d9 ["self"] (spP ⟨K,cmA a⟩ 1 m_d9):=by
  refine fnQ (cm:=cmA a) (mb:=mb_d9) T.F_d9 sc_d9 rfl rfl rfl fun cdv A outer s H E hr => ?_
  have hu:=hr.units
  exact (ss_cons (s_set (i:=1) sc_d9.nd rfl (by first | exact Or.inl rfl | exact Or.inr rfl) (o_of (v_fld ["Thing", "Post", "Fence", "Sail", "Cloth", "House"] ⟨⟨T.c_Thing,T.n_Thing_numbers⟩,⟨⟨T.c_Post,T.n_Post_numbers⟩,⟨⟨T.c_Fence,T.n_Fence_numbers⟩,⟨⟨T.c_Sail,T.n_Sail_numbers⟩,⟨⟨T.c_Cloth,T.n_Cloth_numbers⟩,⟨⟨T.c_House,T.n_House_numbers⟩,trivial⟩⟩⟩⟩⟩⟩ (r_var 0))))
      (ss_one (s_ret (o_call (ok_d4 T) mDef_len (hr.mono (by decide)) rfl T.m_d4 T.F_d4.kp T.b_d4 passE (ag_cons (v_ix ov_ix xm_ix (r_var 1) (r_of v_int) (fun _ _=>rfl)) (ag_cons (v_ix ov_ix xm_ix (r_var 1) (r_of v_int) (fun _ _=>rfl)) (ag_cons (v_ix ov_ix xm_ix (r_var 1) (r_of v_int) (fun _ _=>rfl)) (ag_cons (v_ix ov_ix xm_ix (r_var 1) (r_of v_int) (fun _ _=>rfl)) (ag_cons (v_ix ov_ix xm_ix (r_var 1) (r_of v_int) (fun _ _=>rfl)) ag_nil)))))))))
theorem ok_d10 (T:Tx K mg a):FnOk P w K mg base (CXE P w) 4 a.f_d10 a.d_d10 ["thing", "ray"] (spP ⟨K,cmA a⟩ 2 m_d10):=by
  refine fnQ (cm:=cmA a) (mb:=mb_d10) T.F_d10 sc_d10 rfl rfl rfl fun cdv A outer s H E hr => ?_
  have hu:=hr.units
  exact (ss_one (s_ret (o_comp ["ray", "corner"] [1] 1 (defScope s_d10) rfl rfl (i_nox (i_seq (v_of (o_meth0 (mth := "corners") (k:=3) (n:=1) (tbl:=[("Post",m_d14),("Fence",m_d5),("Sail",m_d11),("Cloth",m_d7),("House",m_d9)]) ⟨⟨T.c_Post,_,_,_,T.h_Post_corners,(ok_d14 T).mono (by decide),T.b_d14,mDef_len⟩,⟨⟨T.c_Fence,_,_,_,T.h_Fence_corners,(ok_d5 T).mono (by decide),T.b_d5,mDef_len⟩,⟨⟨T.c_Sail,_,_,_,T.h_Sail_corners,(ok_d11 T).mono (by decide),T.b_d11,mDef_len⟩,⟨⟨T.c_Cloth,_,_,_,T.h_Cloth_corners,(ok_d7 T).mono (by decide),T.b_d7,mDef_len⟩,⟨⟨T.c_House,_,_,_,T.h_House_corners,(ok_d9 T).mono (by decide),T.b_d9,mDef_len⟩,trivial⟩⟩⟩⟩⟩ (hr.mono (by decide)) passEF (v_var 0))))) (fun _ _ _ _ _=>(g_name (i:=1) (show (["ray", "corner"]:List Str).Nodup by decide +kernel) rfl (by first | exact Or.inl rfl | exact Or.inr rfl))) (fun _ _ _ _ _=>ts_nil) (fun _ _ _ _ _=>(v_of (o_call (ok_d43 T) mDef_len (hr.mono (by decide)) rfl T.m_d43 T.F_d43.kp T.b_d43 passEF (ag_name 1 (hr:=(ag_name 0 (hr:=ag_nil))))))) ⟨rfl,⟨rfl,by first | exact Or.inl rfl | exact Or.inr rfl⟩,trivial⟩)))
theorem ok_d29 (T:Tx K mg a):FnOk P w K mg base (CXE P w) 1 a.f_d29 a.d_d29 ["first", "last"] (spP ⟨K,cmA a⟩ 2 m_d29):=by
  refine fnQ (cm:=cmA a) (mb:=mb_d29) T.F_d29 sc_d29 rfl rfl rfl fun cdv A outer s H E hr => ?_
  have hu:=hr.units
  exact (ss_cons (s_if (t_cmp ov_lt om_lt (r_var 1) (r_var 0) (nomark _))
      (ss_one (s_ret (o_of v_int)))
      ss_nil)
      (ss_one (s_ret (o_of (v_bin ov_sub om_sub (r_of (v_bin ov_shl om_shl (r_of v_int) (r_of (v_of (o_bin ov_add or_add (r_var 1) (r_of v_int)))))) (r_of (v_bin ov_shl om_shl (r_of v_int) (r_var 0))))))))
theorem ok_d34 (T:Tx K mg a):FnOk P w K mg base (CXE P w) 2 a.f_d34 a.d_d34 ["lines", "unit", "q", "width"] (spP ⟨K,cmA a⟩ 4 m_d34):=by
  refine fnQ (cm:=cmA a) (mb:=mb_d34) T.F_d34 sc_d34 rfl rfl rfl fun cdv A outer s H E hr => ?_
  have hu:=hr.units
  exact (ss_cons (s_set (i:=4) sc_d34.nd rfl (by first | exact Or.inl rfl | exact Or.inr rfl) (o_of v_int))
      (ss_cons (s_set (i:=5) sc_d34.nd rfl (by first | exact Or.inl rfl | exact Or.inr rfl) (o_of (v_bin ov_sub om_sub (r_var 3) (r_of v_int))))
      (ss_cons (s_for PassesOwn.leaving rfl (i_name 0) (g_tup rfl (gs_cons (g_name (i:=6) sc_d34.nd rfl (by first | exact Or.inl rfl | exact Or.inr rfl)) (gs_cons (g_name (i:=7) sc_d34.nd rfl (by first | exact Or.inl rfl | exact Or.inr rfl)) (gs_cons (g_name (i:=8) sc_d34.nd rfl (by first | exact Or.inl rfl | exact Or.inr rfl)) gs_nil))))
      (ss_cons (s_set (i:=9) sc_d34.nd rfl (by first | exact Or.inl rfl | exact Or.inr rfl) (o_of (v_bin ov_mul om_mulS (r_var 6) (r_var 1))))
      (ss_cons (s_set (i:=10) sc_d34.nd rfl (by first | exact Or.inl rfl | exact Or.inr rfl) (o_of (v_bin ov_sub om_sub (r_var 8) (r_of (v_bin ov_mul om_mulS (r_of (v_bin ov_mul om_mulS (r_var 7) (r_var 1))) (r_var 2))))))
      (ss_one (s_if (t_cmp ov_gt om_gt (r_var 9) (r_of v_int) (nomark _))
      (ss_one (s_set (i:=5) sc_d34.nd rfl (by first | exact Or.inl rfl | exact Or.inr rfl) (o_of (PE.wk (pe_callB (cm_min2 rfl) (by rfl) T.z_min PyProof.Rows.boot_min (ar_cons (r_var 5) (ar_cons (r_of (v_bin ov_fdv om_fdiv (r_var 10) (r_var 9))) ar_nil))) fun _ _ _ h=>cb_v cv_min2 h))))
      (ss_one (s_if (t_cmp ov_lt om_lt (r_var 9) (r_of v_int) (nomark _))
      (ss_one (s_set (i:=4) sc_d34.nd rfl (by first | exact Or.inl rfl | exact Or.inr rfl) (o_of (PE.wk (pe_callB (cm_max2 rfl) (by rfl) T.z_max PyProof.Rows.boot_max (ar_cons (r_var 4) (ar_cons (r_of (v_un uv_neg um_neg (r_of (v_bin ov_fdv om_fdiv (r_var 10) (r_of (v_un uv_neg um_neg (r_var 9))))))) ar_nil))) fun _ _ _ h=>cb_v cv_max2 h))))
      (ss_one (s_if (t_cmp ov_lt om_lt (r_var 10) (r_of v_int) (nomark _))
      (ss_one (s_ret (o_of v_int)))
      ss_nil)))))))))
      (ss_one (s_ret (o_call (ok_d29 T) mDef_len (hr.mono (by decide)) rfl T.m_d29 T.F_d29.kp T.b_d29 passE (ag_name 4 (hr:=(ag_name 5 (hr:=ag_nil))))))))))
theorem ok_d39 (T:Tx K mg a):FnOk P w K mg base (CXE P w) 5 a.f_d39 a.d_d39 ["yard", "thing", "ray"] (spP ⟨K,cmA a⟩ 3 m_d39):=by
  refine fnQ (cm:=cmA a) (mb:=mb_d39) T.F_d39 sc_d39 rfl rfl rfl fun cdv A outer s H E hr => ?_
  have hu:=hr.units
  exact (ss_cons (s_set (i:=3) sc_d39.nd rfl (by first | exact Or.inl rfl | exact Or.inr rfl) (o_call (ok_d17 T) mDef_len (hr.mono (by decide)) rfl T.m_d17 T.F_d17.kp T.b_d17 passE (ag_cons (v_of (o_call (ok_d10 T) mDef_len (hr.mono (by decide)) rfl T.m_d10 T.F_d10.kp T.b_d10 passE (ag_name 1 (hr:=(ag_name 2 (hr:=ag_nil)))))) ag_nil)))
      (ss_cons (s_set (i:=4) sc_d39.nd rfl (by first | exact Or.inl rfl | exact Or.inr rfl) (o_of v_int))
      (ss_cons (s_for PassesOwn.leaving rfl (i_range1 rfl T.z_range (a_cons (v_fld ["Yard"] ⟨⟨T.c_Yard,T.n_Yard_height⟩,trivial⟩ (r_var 0)) a_nil)) (g_name (i:=5) sc_d39.nd rfl (by first | exact Or.inl rfl | exact Or.inr rfl))
      (ss_one (s_oreq (i:=4) sc_d39.nd rfl (by first | exact Or.inl rfl | exact Or.inr rfl) (v_bin ov_shl om_shl (r_of (v_of (o_call (ok_d34 T) mDef_len (hr.mono (by decide)) rfl T.m_d34 T.F_d34.kp T.b_d34 passE (ag_name 3 (hr:=(ag_cons (v_bin ov_mul om_mulS (r_of v_int) (r_of (v_ix ov_ix xm_ix (r_var 2) (r_of v_int) (fun _ _=>rfl)))) (ag_name 5 (hr:=(ag_cons (v_fld ["Yard"] ⟨⟨T.c_Yard,T.n_Yard_width⟩,trivial⟩ (r_var 0)) ag_nil))))))))) (r_of (v_bin ov_mul om_mulS (r_var 5) (r_of (v_fld ["Yard"] ⟨⟨T.c_Yard,T.n_Yard_width⟩,trivial⟩ (r_var 0)))))))))
      (ss_one (s_ret (o_var 4))))))
theorem ok_d2 (T:Tx K mg a):FnOk P w K mg base (CXE P w) 6 a.f_d2 a.d_d2 ["yard", "ray"] (spP ⟨K,cmA a⟩ 2 m_d2):=by
  refine fnQ (cm:=cmA a) (mb:=mb_d2) T.F_d2 sc_d2 rfl rfl rfl fun cdv A outer s H E hr => ?_
  have hu:=hr.units
  exact (ss_one (s_ret (o_comp ["yard", "ray", "thing"] [0,1] 1 (defScope s_d2) rfl rfl (i_seq (v_fld ["Yard"] ⟨⟨T.c_Yard,T.n_Yard_things⟩,trivial⟩ (r_var 0))) (fun _ _ _ _ _=>(g_name (i:=2) (show (["yard", "ray", "thing"]:List Str).Nodup by decide +kernel) rfl (by first | exact Or.inl rfl | exact Or.inr rfl))) (fun _ _ _ _ _=>ts_nil) (fun _ _ _ _ _=>(v_of (o_call (ok_d39 T) mDef_len (hr.mono (by decide)) rfl T.m_d39 T.F_d39.kp T.b_d39 passEF (ag_name 0 (hr:=(ag_name 2 (hr:=(ag_name 1 (hr:=ag_nil))))))))) ⟨rfl,⟨rfl,by first | exact Or.inl rfl | exact Or.inr rfl⟩,⟨rfl,⟨rfl,by first | exact Or.inl rfl | exact Or.inr rfl⟩,trivial⟩⟩)))
theorem ok_d42 (T:Tx K mg a):FnOk P w K mg base (CXE P w) 7 a.f_d42 a.d_d42 ["yard", "turn"] (spP ⟨K,cmA a⟩ 2 m_d42):=by
  refine fnQ (cm:=cmA a) (mb:=mb_d42) T.F_d42 sc_d42 rfl rfl rfl fun cdv A outer s H E hr => ?_
  have hu:=hr.units
  exact (ss_cons (s_if (t_cmp ov_is op_isN (r_var 1) (r_of v_non) (nomark _))
      (ss_one (s_ret (o_call (ok_d29 T) mDef_len (hr.mono (by decide)) rfl T.m_d29 T.F_d29.kp T.b_d29 passE (ag_cons v_int (ag_cons (v_bin ov_sub om_sub (r_of (v_bin ov_mul om_mulS (r_of (v_fld ["Yard"] ⟨⟨T.c_Yard,T.n_Yard_width⟩,trivial⟩ (r_var 0))) (r_of (v_fld ["Yard"] ⟨⟨T.c_Yard,T.n_Yard_height⟩,trivial⟩ (r_var 0))))) (r_of v_int)) ag_nil)))))
      ss_nil)
      (ss_cons (s_set (i:=2) sc_d42.nd rfl (by first | exact Or.inl rfl | exact Or.inr rfl) (o_of v_int))
      (ss_cons (s_for PassesOwn.leaving rfl (i_seq (v_of (o_call (ok_d2 T) mDef_len (hr.mono (by decide)) rfl T.m_d2 T.F_d2.kp T.b_d2 passE (ag_name 0 (hr:=(ag_name 1 (hr:=ag_nil))))))) (g_name (i:=3) sc_d42.nd rfl (by first | exact Or.inl rfl | exact Or.inr rfl))
      (ss_one (s_oreq (i:=2) sc_d42.nd rfl (by first | exact Or.inl rfl | exact Or.inr rfl) (v_var 3))))
      (ss_one (s_ret (o_var 2))))))
theorem ok_d38 (T:Tx K mg a):FnOk P w K mg base (CXE P w) 8 a.f_d38 a.d_d38 ["yard", "turn"] (spP ⟨K,cmA a⟩ 2 m_d38):=by
  refine fnQ (cm:=cmA a) (mb:=mb_d38) T.F_d38 sc_d38 rfl rfl rfl fun cdv A outer s H E hr => ?_
  have hu:=hr.units
  exact (ss_one (s_ret (o_of (v_bin ov_band om_band (r_of (v_of (o_call (ok_d42 T) mDef_len (hr.mono (by decide)) rfl T.m_d42 T.F_d42.kp T.b_d42 passE (ag_name 0 (hr:=(ag_cons v_non ag_nil)))))) (r_of (v_un uv_inv um_inv (r_of (v_of (o_call (ok_d42 T) mDef_len (hr.mono (by decide)) rfl T.m_d42 T.F_d42.kp T.b_d42 passE (ag_name 0 (hr:=(ag_name 1 (hr:=ag_nil)))))))))))))
theorem ok_d41 (T:Tx K mg a):FnOk P w K mg base (CXE P w) 9 a.f_d41 a.d_d41 ["yard"] (spP ⟨K,cmA a⟩ 1 m_d41):=by
  refine fnQ (cm:=cmA a) (mb:=mb_d41) T.F_d41 sc_d41 rfl rfl rfl fun cdv A outer s H E hr => ?_
  have hu:=hr.units
  exact (ss_cons (s_setc (i:=1) sc_d41.nd rfl rfl ["number"] [] 1 (defScope s_d41) rfl rfl (i_range1 rfl T.z_range (a_cons (v_bin ov_mul om_mulS (r_of (v_fld ["Yard"] ⟨⟨T.c_Yard,T.n_Yard_width⟩,trivial⟩ (r_var 0))) (r_of (v_fld ["Yard"] ⟨⟨T.c_Yard,T.n_Yard_height⟩,trivial⟩ (r_var 0)))) a_nil)) (fun _ _ _ _ _=>(g_name (i:=0) (show (["number"]:List Str).Nodup by decide +kernel) rfl (by first | exact Or.inl rfl | exact Or.inr rfl))) (fun _ _ _ _ _=>ts_nil) (fun _ _ _ _ _=>v_int) trivial)
      (ss_cons (s_for PassesOwn.leaving rfl (i_seq (v_fld ["Yard"] ⟨⟨T.c_Yard,T.n_Yard_days⟩,trivial⟩ (r_var 0))) (g_tup rfl (gs_cons (g_name (i:=2) sc_d41.nd rfl (by first | exact Or.inl rfl | exact Or.inr rfl)) (gs_cons (g_name (i:=3) sc_d41.nd rfl (by first | exact Or.inl rfl | exact Or.inr rfl)) (gs_cons (g_name (i:=4) sc_d41.nd rfl (by first | exact Or.inl rfl | exact Or.inr rfl)) gs_nil))))
      (ss_one (s_for PassesOwn.leaving rfl (i_name 4) (g_name (i:=5) sc_d41.nd rfl (by first | exact Or.inl rfl | exact Or.inr rfl))
      (ss_cons (s_set (i:=6) sc_d41.nd rfl (by first | exact Or.inl rfl | exact Or.inr rfl) (o_call (ok_d38 T) mDef_len (hr.mono (by decide)) rfl T.m_d38 T.F_d38.kp T.b_d38 passE (ag_name 0 (hr:=(ag_name 5 (hr:=ag_nil))))))
      (ss_one (s_setc (i:=1) sc_d41.nd rfl rfl ["times", "bits", "number", "hour"] [3,6] 2 (defScope s_d41) rfl rfl (i_enum rfl T.z_enumerate (q_lsN 1)) (fun _ _ _ _ _=>(g_tup rfl (gs_cons (g_name (i:=2) (show (["times", "bits", "number", "hour"]:List Str).Nodup by decide +kernel) rfl (by first | exact Or.inl rfl | exact Or.inr rfl)) (gs_cons (g_name (i:=3) (show (["times", "bits", "number", "hour"]:List Str).Nodup by decide +kernel) rfl (by first | exact Or.inl rfl | exact Or.inr rfl)) gs_nil)))) (fun _ _ _ _ _=>ts_nil) (fun _ _ _ _ _=>(v_of (o_bin ov_add or_add (r_var 3) (r_of (v_bin ov_mul om_mulS (r_var 0) (r_of (v_bin ov_band om_band (r_of (v_bin ov_shr om_shr (r_var 1) (r_var 2))) (r_of v_int)))))))) ⟨rfl,⟨rfl,by first | exact Or.inl rfl | exact Or.inr rfl⟩,⟨rfl,⟨rfl,by first | exact Or.inl rfl | exact Or.inr rfl⟩,trivial⟩⟩))))))
      (ss_one (s_ret (o_var 1)))))
theorem ok_d35 (T:Tx K mg a):FnOk P w K mg base (CXE P w) 1 a.f_d35 a.d_d35 ["yard", "day"] (spP ⟨K,cmA a⟩ 2 m_d35):=by
  refine fnQ (cm:=cmA a) (mb:=mb_d35) T.F_d35 sc_d35 rfl rfl rfl fun cdv A outer s H E hr => ?_
  have hu:=hr.units
  exact (ss_one (s_ret (o_of (v_ix ov_ix xm_ix (r_of (v_ix ov_ix xm_ix (r_of (v_fld ["Yard"] ⟨⟨T.c_Yard,T.n_Yard_days⟩,trivial⟩ (r_var 0))) (r_var 1) (fun _ _=>rfl))) (r_of v_int) (fun _ _=>rfl)))))
theorem ok_d36 (T:Tx K mg a):FnOk P w K mg base (CXE P w) 9 a.f_d36 a.d_d36 ["yard"] (spP ⟨K,cmA a⟩ 1 m_d36):=by
  refine fnQ (cm:=cmA a) (mb:=mb_d36) T.F_d36 sc_d36 rfl rfl rfl fun cdv A outer s H E hr => ?_
  have hu:=hr.units
  exact (ss_cons (s_set (i:=1) sc_d36.nd rfl (by first | exact Or.inl rfl | exact Or.inr rfl) (o_of v_int))
      (ss_cons (s_for PassesOwn.leaving rfl (i_range1 rfl T.z_range (a_cons (PE.wk (pe_callB cm_len (by rfl) T.z_len PySem.boot_len (ar_cons (r_of (v_fld ["Yard"] ⟨⟨T.c_Yard,T.n_Yard_days⟩,trivial⟩ (r_var 0))) ar_nil)) fun _ _ _ h=>cb_v cv_len h) a_nil)) (g_name (i:=2) sc_d36.nd rfl (by first | exact Or.inl rfl | exact Or.inr rfl))
      (ss_one (s_for PassesOwn.leaving rfl (i_seq (v_of (o_call (ok_d35 T) mDef_len (hr.mono (by decide)) rfl T.m_d35 T.F_d35.kp T.b_d35 passE (ag_name 0 (hr:=(ag_name 2 (hr:=ag_nil))))))) (g_name (i:=3) sc_d36.nd rfl (by first | exact Or.inl rfl | exact Or.inr rfl))
      (ss_one (s_oreq (i:=1) sc_d36.nd rfl (by first | exact Or.inl rfl | exact Or.inr rfl) (v_of (o_call (ok_d38 T) mDef_len (hr.mono (by decide)) rfl T.m_d38 T.F_d38.kp T.b_d38 passE (ag_name 0 (hr:=(ag_name 3 (hr:=ag_nil)))))))))))
      (ss_one (s_ret (o_var 1)))))
theorem ok_d16 (T:Tx K mg a):FnOk P w K mg base (CXE P w) 1 a.f_d16 a.d_d16 ["_law_number"] (spP ⟨K,cmA a⟩ 1 m_d16):=by
  refine fnQ (cm:=cmA a) (mb:=mb_d16) T.F_d16 sc_d16 rfl rfl rfl fun cdv A outer s H E hr => ?_
  have hu:=hr.units
  exact (ss_cons (s_if (t_cmp ov_eq (om_eqD hu) (r_of (v_bin ov_mod om_mod (r_of (v_bin ov_fdv om_fdiv (r_var 0) (r_of v_int))) (r_of v_int))) (r_of v_int) (nomark _))
      (ss_one (s_ret (o_bin ov_add or_add (r_of v_int) (r_of (v_bin ov_mod om_mod (r_of (v_bin ov_mul om_mulS (r_var 0) (r_of v_int))) (r_of (v_bin ov_pow om_pow (r_of v_int) (r_of v_int))))))))
      ss_nil)
      (ss_one (s_ret (o_bin ov_add or_add (r_of v_int) (r_of (v_bin ov_mod om_mod (r_var 0) (r_of v_int)))))))
theorem ok_d21 (T:Tx K mg a):FnOk P w K mg base (CXE P w) 1 a.f_d21 a.d_d21 ["_law_number", "_law_wide"] (spP ⟨K,cmA a⟩ 2 m_d21):=by
  refine fnQ (cm:=cmA a) (mb:=mb_d21) T.F_d21 sc_d21 rfl rfl rfl fun cdv A outer s H E hr => ?_
  have hu:=hr.units
  exact (ss_cons (s_if (t_cmp ov_eq (om_eqD hu) (r_of (v_bin ov_mod om_mod (r_of (v_bin ov_fdv om_fdiv (r_var 0) (r_of v_int))) (r_of v_int))) (r_of v_int) (nomark _))
      (ss_one (s_ret (o_bin ov_add or_add (r_of (v_bin ov_sub om_sub (r_of (v_bin ov_mod om_mod (r_of (v_bin ov_mul om_mulS (r_var 0) (r_of v_int))) (r_of (v_bin ov_sub om_sub (r_of (v_bin ov_mul om_mulS (r_of v_int) (r_of (v_bin ov_pow om_pow (r_of v_int) (r_of v_int))))) (r_of v_int))))) (r_of (v_bin ov_pow om_pow (r_of v_int) (r_of v_int))))) (r_of v_int))))
      ss_nil)
      (ss_one (s_ret (o_of (v_bin ov_sub om_sub (r_of (v_bin ov_mod om_mod (r_var 0) (r_of (v_of (o_bin ov_add or_add (r_of (v_bin ov_mul om_mulS (r_of v_int) (r_var 1))) (r_of v_int)))))) (r_of v_int))))))
theorem ok_d22 (T:Tx K mg a):FnOk P w K mg base (CXE P w) 2 a.f_d22 a.d_d22 ["_law_cell", "_law_wide"] (spP ⟨K,cmA a⟩ 2 m_d22):=by
  refine fnQ (cm:=cmA a) (mb:=mb_d22) T.F_d22 sc_d22 rfl rfl rfl fun cdv A outer s H E hr => ?_
  have hu:=hr.units
  exact (ss_cons (s_set (i:=2) sc_d22.nd rfl (by first | exact Or.inl rfl | exact Or.inr rfl) (o_call (ok_d15 T) mDef_len (hr.mono (by decide)) rfl T.m_d15 T.F_d15.kp T.b_d15 passE (ag_name 0 (hr:=(ag_cons v_int ag_nil)))))
      (ss_cons (s_asg (v_of (o_comp ["_law_wide", "_law_xs", "_law_k"] [1,2] 1 (defScope s_d22) rfl rfl (i_range1 rfl T.z_range (a_cons v_int a_nil)) (fun _ _ _ _ _=>(g_name (i:=2) (show (["_law_wide", "_law_xs", "_law_k"]:List Str).Nodup by decide +kernel) rfl (by first | exact Or.inl rfl | exact Or.inr rfl))) (fun _ _ _ _ _=>ts_nil) (fun _ _ _ _ _=>(v_of (o_call (ok_d21 T) mDef_len (hr.mono (by decide)) rfl T.m_d21 T.F_d21.kp T.b_d21 passEF (ag_cons (v_ix ov_ix xm_ix (r_var 1) (r_var 2) (fun _ _=>rfl)) (ag_name 0 (hr:=ag_nil)))))) ⟨rfl,⟨rfl,by first | exact Or.inl rfl | exact Or.inr rfl⟩,⟨rfl,⟨rfl,by first | exact Or.inl rfl | exact Or.inr rfl⟩,trivial⟩⟩)) (g_seq rfl (gs_cons (g_name (i:=5) sc_d22.nd rfl (by first | exact Or.inl rfl | exact Or.inr rfl)) (gs_cons (g_name (i:=6) sc_d22.nd rfl (by first | exact Or.inl rfl | exact Or.inr rfl)) gs_nil))))
      (ss_cons (s_set (i:=3) sc_d22.nd rfl (by first | exact Or.inl rfl | exact Or.inr rfl) (o_call (ok_d16 T) mDef_len (hr.mono (by decide)) rfl T.m_d16 T.F_d16.kp T.b_d16 passE (ag_cons (v_ix ov_ix xm_ix (r_var 2) (r_of v_int) (fun _ _=>rfl)) ag_nil)))
      (ss_cons (s_set (i:=4) sc_d22.nd rfl (by first | exact Or.inl rfl | exact Or.inr rfl) (o_of (v_bin ov_mod om_mod (r_of (v_ix ov_ix xm_ix (r_var 2) (r_of v_int) (fun _ _=>rfl))) (r_of v_int))))
      (ss_cons (s_if (t_cmp ov_eq (om_eqD hu) (r_var 4) (r_of v_int) (nomark _))
      (ss_one (s_ret (o_of (v_tup (a_cons v_str (a_cons (v_of (o_lst (a_cons (v_bin ov_fdv om_fdiv (r_var 5) (r_of v_int)) (a_cons (v_bin ov_fdv om_fdiv (r_var 6) (r_of v_int)) (a_cons (v_var 3) a_nil))))) a_nil))))))
      ss_nil)
      (ss_cons (s_if (t_cmp ov_eq (om_eqD hu) (r_var 4) (r_of v_int) (nomark _))
      (ss_cons (s_asg (v_of (o_lst (a_cons (v_bin ov_sub om_sub (r_of (v_of (o_bin ov_add or_add (r_var 5) (r_of (v_bin ov_mod om_mod (r_of (v_ix ov_ix xm_ix (r_var 2) (r_of v_int) (fun _ _=>rfl))) (r_of v_int)))))) (r_of v_int)) (a_cons (v_bin ov_sub om_sub (r_of (v_of (o_bin ov_add or_add (r_var 6) (r_of (v_bin ov_mod om_mod (r_of (v_ix ov_ix xm_ix (r_var 2) (r_of v_int) (fun _ _=>rfl))) (r_of v_int)))))) (r_of v_int)) a_nil)))) (g_seq rfl (gs_cons (g_name (i:=7) sc_d22.nd rfl (by first | exact Or.inl rfl | exact Or.inr rfl)) (gs_cons (g_name (i:=8) sc_d22.nd rfl (by first | exact Or.inl rfl | exact Or.inr rfl)) gs_nil))))
      (ss_one (s_ret (o_of (v_tup (a_cons v_str (a_cons (v_of (o_lst (a_cons (v_var 5) (a_cons (v_var 6) (a_cons (v_of (o_bin ov_add or_add (r_var 7) (r_of (PE.wk (pe_callTy cr_int (by rfl) T.z_int PyProof.Rows.boot_int (ar_cons (r_of (v_cmp ov_eq (om_eqD hu) (r_of (v_tup (a_cons (v_var 5) (a_cons (v_var 6) a_nil)))) (r_of (v_tup (a_cons (v_var 7) (a_cons (v_var 8) a_nil)))) (nomark _))) ar_nil)) fun _ _ _ h=>cb_v cv_int h)))) (a_cons (v_var 8) (a_cons (v_var 3) a_nil))))))) a_nil)))))))
      ss_nil)
      (ss_cons (s_if (t_cmp ov_eq (om_eqD hu) (r_var 4) (r_of v_int) (nomark _))
      (ss_one (s_ret (o_of (v_tup (a_cons v_str (a_cons (v_of (o_bin ov_add or_add (r_of (v_of (o_bin ov_add or_add (r_of (v_of (o_lst (a_cons (v_var 5) (a_cons (v_var 6) (a_cons (v_bin ov_mod om_mod (r_of (v_ix ov_ix xm_ix (r_var 2) (r_of v_int) (fun _ _=>rfl))) (r_of v_int)) a_nil)))))) (r_of (v_of (o_lst (a_cons (v_of (o_call (ok_d21 T) mDef_len (hr.mono (by decide)) rfl T.m_d21 T.F_d21.kp T.b_d21 passE (ag_cons (v_ix ov_ix xm_ix (r_var 2) (r_of v_int) (fun _ _=>rfl)) (ag_name 1 (hr:=ag_nil))))) (a_cons (v_of (o_call (ok_d21 T) mDef_len (hr.mono (by decide)) rfl T.m_d21 T.F_d21.kp T.b_d21 passE (ag_cons (v_ix ov_ix xm_ix (r_var 2) (r_of v_int) (fun _ _=>rfl)) (ag_name 1 (hr:=ag_nil))))) (a_cons (v_var 3) a_nil))))))))) (r_of (v_of (o_lst (a_cons (v_of (o_call (ok_d21 T) mDef_len (hr.mono (by decide)) rfl T.m_d21 T.F_d21.kp T.b_d21 passE (ag_cons (v_ix ov_ix xm_ix (r_var 2) (r_of v_int) (fun _ _=>rfl)) (ag_name 1 (hr:=ag_nil))))) (a_cons (v_of (o_call (ok_d21 T) mDef_len (hr.mono (by decide)) rfl T.m_d21 T.F_d21.kp T.b_d21 passE (ag_cons (v_ix ov_ix xm_ix (r_var 2) (r_of v_int) (fun _ _=>rfl)) (ag_name 1 (hr:=ag_nil))))) (a_cons (v_of (o_call (ok_d16 T) mDef_len (hr.mono (by decide)) rfl T.m_d16 T.F_d16.kp T.b_d16 passE (ag_cons (v_ix ov_ix xm_ix (r_var 2) (r_of v_int) (fun _ _=>rfl)) ag_nil))) a_nil)))))))) a_nil))))))
      ss_nil)
      (ss_one (s_ret (o_of (v_tup (a_cons (v_ix ov_ix xm_ix (r_of (v_of (o_lst (a_cons v_str (a_cons v_str a_nil))))) (r_of (v_bin ov_sub om_sub (r_var 4) (r_of v_int))) (fun _ _=>rfl)) (a_cons (v_of (o_lst (a_cons (v_var 5) (a_cons (v_var 6) (a_cons (v_of (o_bin ov_add or_add (r_of (v_of (o_bin ov_add or_add (r_var 5) (r_of v_int)))) (r_of (v_bin ov_mod om_mod (r_of (v_ix ov_ix xm_ix (r_var 2) (r_of v_int) (fun _ _=>rfl))) (r_of v_int))))) (a_cons (v_of (o_bin ov_add or_add (r_of (v_of (o_bin ov_add or_add (r_var 6) (r_of v_int)))) (r_of (v_bin ov_mod om_mod (r_of (v_ix ov_ix xm_ix (r_var 2) (r_of v_int) (fun _ _=>rfl))) (r_of v_int))))) (a_cons (v_var 3) a_nil))))))) a_nil)))))))))))))
theorem ok_d32 (T:Tx K mg a):FnOk P w K mg base (CXE P w) 1 a.f_d32 a.d_d32 ["number"] (spP ⟨K,cmA a⟩ 1 m_d32):=by
  refine fnQ (cm:=cmA a) (mb:=mb_d32) T.F_d32 sc_d32 rfl rfl rfl fun cdv A outer s H E hr => ?_
  have hu:=hr.units
  exact (ss_one (s_ret (o_of (v_chn ov_le ov_le om_le om_le (r_of (v_un uv_neg um_neg (r_of (v_c (.int (1000000000)) (pe_glob (v:=.int (1000000000)) rfl T.m_MOST_PLACE ⟨_,rfl⟩))))) (r_var 0) (r_of (v_c (.int (1000000000)) (pe_glob (v:=.int (1000000000)) rfl T.m_MOST_PLACE ⟨_,rfl⟩)))))))
theorem ok_d25 (T:Tx K mg a):FnOk P w K mg base (CXE P w) 1 a.f_d25 a.d_d25 ["number"] (spP ⟨K,cmA a⟩ 1 m_d25):=by
  refine fnQ (cm:=cmA a) (mb:=mb_d25) T.F_d25 sc_d25 rfl rfl rfl fun cdv A outer s H E hr => ?_
  have hu:=hr.units
  exact (ss_one (s_ret (o_of (v_chn ov_le ov_le om_le om_le (r_of v_int) (r_var 0) (r_of (v_c (.int (1000000000)) (pe_glob (v:=.int (1000000000)) rfl T.m_MOST_HEIGHT ⟨_,rfl⟩)))))))
theorem ok_d20 (T:Tx K mg a):FnOk P w K mg base (CXE P w) 2 a.f_d20 a.d_d20 ["numbers"] (spP ⟨K,cmA a⟩ 1 m_d20):=by
  refine fnQ (cm:=cmA a) (mb:=mb_d20) T.F_d20 sc_d20 rfl rfl rfl fun cdv A outer s H E hr => ?_
  have hu:=hr.units
  exact (ss_one (s_ret (o_of (v_and (v_cmp ov_eq (om_eqD hu) (r_of (PE.wk (pe_callB cm_len (by rfl) T.z_len PySem.boot_len (ar_cons (r_var 0) ar_nil)) fun _ _ _ h=>cb_v cv_len h)) (r_of v_int) (nomark _)) (v_and (v_of (o_call (ok_d32 T) mDef_len (hr.mono (by decide)) rfl T.m_d32 T.F_d32.kp T.b_d32 passE (ag_cons (v_ix ov_ix xm_ix (r_var 0) (r_of v_int) (fun _ _=>rfl)) ag_nil))) (v_and (v_of (o_call (ok_d32 T) mDef_len (hr.mono (by decide)) rfl T.m_d32 T.F_d32.kp T.b_d32 passE (ag_cons (v_ix ov_ix xm_ix (r_var 0) (r_of v_int) (fun _ _=>rfl)) ag_nil))) (v_one (v_of (o_call (ok_d25 T) mDef_len (hr.mono (by decide)) rfl T.m_d25 T.F_d25.kp T.b_d25 passE (ag_cons (v_ix ov_ix xm_ix (r_var 0) (r_of v_int) (fun _ _=>rfl)) ag_nil))))))))))
theorem okI_Post (T:Tx K mg a):FnOk P w K mg base (CXE P w) 1 a.f_d3 a.d_d3 ["self", "word", "numbers"] (spI ⟨K,cmA a⟩ 3 "Post" mi_Post):=by
  refine fnI (cm:=cmA a) (mb:=mb_d3) T.F_d3 sc_d3 rfl rfl rfl fun cdv A outer s H E hr => ?_
  have hu:=hr.units
  exact (ss_cons (s_putf (i:=0) ["Thing", "Post", "Fence", "Sail", "Cloth", "House"] ⟨⟨T.c_Thing,T.n_Thing_word⟩,⟨⟨T.c_Post,T.n_Post_word⟩,⟨⟨T.c_Fence,T.n_Fence_word⟩,⟨⟨T.c_Sail,T.n_Sail_word⟩,⟨⟨T.c_Cloth,T.n_Cloth_word⟩,⟨⟨T.c_House,T.n_House_word⟩,trivial⟩⟩⟩⟩⟩⟩ (pv 0) (v_var 1))
      (ss_one (s_putf (i:=0) ["Thing", "Post", "Fence", "Sail", "Cloth", "House"] ⟨⟨T.c_Thing,T.n_Thing_numbers⟩,⟨⟨T.c_Post,T.n_Post_numbers⟩,⟨⟨T.c_Fence,T.n_Fence_numbers⟩,⟨⟨T.c_Sail,T.n_Sail_numbers⟩,⟨⟨T.c_Cloth,T.n_Cloth_numbers⟩,⟨⟨T.c_House,T.n_House_numbers⟩,trivial⟩⟩⟩⟩⟩⟩ (pv 0) (v_of (PE.wk (pe_callTy cr_list (by rfl) T.z_list PyProof.Rows.boot_list (ar_cons (r_var 2) ar_nil)) fun _ _ _ h=>cb_o co_list h)))))
theorem okI_Fence (T:Tx K mg a):FnOk P w K mg base (CXE P w) 1 a.f_d3 a.d_d3 ["self", "word", "numbers"] (spI ⟨K,cmA a⟩ 3 "Fence" mi_Fence):=by
  refine fnI (cm:=cmA a) (mb:=mb_d3) T.F_d3 sc_d3 rfl rfl rfl fun cdv A outer s H E hr => ?_
  have hu:=hr.units
  exact (ss_cons (s_putf (i:=0) ["Thing", "Post", "Fence", "Sail", "Cloth", "House"] ⟨⟨T.c_Thing,T.n_Thing_word⟩,⟨⟨T.c_Post,T.n_Post_word⟩,⟨⟨T.c_Fence,T.n_Fence_word⟩,⟨⟨T.c_Sail,T.n_Sail_word⟩,⟨⟨T.c_Cloth,T.n_Cloth_word⟩,⟨⟨T.c_House,T.n_House_word⟩,trivial⟩⟩⟩⟩⟩⟩ (pv 0) (v_var 1))
      (ss_one (s_putf (i:=0) ["Thing", "Post", "Fence", "Sail", "Cloth", "House"] ⟨⟨T.c_Thing,T.n_Thing_numbers⟩,⟨⟨T.c_Post,T.n_Post_numbers⟩,⟨⟨T.c_Fence,T.n_Fence_numbers⟩,⟨⟨T.c_Sail,T.n_Sail_numbers⟩,⟨⟨T.c_Cloth,T.n_Cloth_numbers⟩,⟨⟨T.c_House,T.n_House_numbers⟩,trivial⟩⟩⟩⟩⟩⟩ (pv 0) (v_of (PE.wk (pe_callTy cr_list (by rfl) T.z_list PyProof.Rows.boot_list (ar_cons (r_var 2) ar_nil)) fun _ _ _ h=>cb_o co_list h)))))
theorem okI_Sail (T:Tx K mg a):FnOk P w K mg base (CXE P w) 1 a.f_d3 a.d_d3 ["self", "word", "numbers"] (spI ⟨K,cmA a⟩ 3 "Sail" mi_Sail):=by
  refine fnI (cm:=cmA a) (mb:=mb_d3) T.F_d3 sc_d3 rfl rfl rfl fun cdv A outer s H E hr => ?_
  have hu:=hr.units
  exact (ss_cons (s_putf (i:=0) ["Thing", "Post", "Fence", "Sail", "Cloth", "House"] ⟨⟨T.c_Thing,T.n_Thing_word⟩,⟨⟨T.c_Post,T.n_Post_word⟩,⟨⟨T.c_Fence,T.n_Fence_word⟩,⟨⟨T.c_Sail,T.n_Sail_word⟩,⟨⟨T.c_Cloth,T.n_Cloth_word⟩,⟨⟨T.c_House,T.n_House_word⟩,trivial⟩⟩⟩⟩⟩⟩ (pv 0) (v_var 1))
      (ss_one (s_putf (i:=0) ["Thing", "Post", "Fence", "Sail", "Cloth", "House"] ⟨⟨T.c_Thing,T.n_Thing_numbers⟩,⟨⟨T.c_Post,T.n_Post_numbers⟩,⟨⟨T.c_Fence,T.n_Fence_numbers⟩,⟨⟨T.c_Sail,T.n_Sail_numbers⟩,⟨⟨T.c_Cloth,T.n_Cloth_numbers⟩,⟨⟨T.c_House,T.n_House_numbers⟩,trivial⟩⟩⟩⟩⟩⟩ (pv 0) (v_of (PE.wk (pe_callTy cr_list (by rfl) T.z_list PyProof.Rows.boot_list (ar_cons (r_var 2) ar_nil)) fun _ _ _ h=>cb_o co_list h)))))
theorem okI_Cloth (T:Tx K mg a):FnOk P w K mg base (CXE P w) 1 a.f_d3 a.d_d3 ["self", "word", "numbers"] (spI ⟨K,cmA a⟩ 3 "Cloth" mi_Cloth):=by
  refine fnI (cm:=cmA a) (mb:=mb_d3) T.F_d3 sc_d3 rfl rfl rfl fun cdv A outer s H E hr => ?_
  have hu:=hr.units
  exact (ss_cons (s_putf (i:=0) ["Thing", "Post", "Fence", "Sail", "Cloth", "House"] ⟨⟨T.c_Thing,T.n_Thing_word⟩,⟨⟨T.c_Post,T.n_Post_word⟩,⟨⟨T.c_Fence,T.n_Fence_word⟩,⟨⟨T.c_Sail,T.n_Sail_word⟩,⟨⟨T.c_Cloth,T.n_Cloth_word⟩,⟨⟨T.c_House,T.n_House_word⟩,trivial⟩⟩⟩⟩⟩⟩ (pv 0) (v_var 1))
      (ss_one (s_putf (i:=0) ["Thing", "Post", "Fence", "Sail", "Cloth", "House"] ⟨⟨T.c_Thing,T.n_Thing_numbers⟩,⟨⟨T.c_Post,T.n_Post_numbers⟩,⟨⟨T.c_Fence,T.n_Fence_numbers⟩,⟨⟨T.c_Sail,T.n_Sail_numbers⟩,⟨⟨T.c_Cloth,T.n_Cloth_numbers⟩,⟨⟨T.c_House,T.n_House_numbers⟩,trivial⟩⟩⟩⟩⟩⟩ (pv 0) (v_of (PE.wk (pe_callTy cr_list (by rfl) T.z_list PyProof.Rows.boot_list (ar_cons (r_var 2) ar_nil)) fun _ _ _ h=>cb_o co_list h)))))
theorem okI_House (T:Tx K mg a):FnOk P w K mg base (CXE P w) 1 a.f_d3 a.d_d3 ["self", "word", "numbers"] (spI ⟨K,cmA a⟩ 3 "House" mi_House):=by
  refine fnI (cm:=cmA a) (mb:=mb_d3) T.F_d3 sc_d3 rfl rfl rfl fun cdv A outer s H E hr => ?_
  have hu:=hr.units
  exact (ss_cons (s_putf (i:=0) ["Thing", "Post", "Fence", "Sail", "Cloth", "House"] ⟨⟨T.c_Thing,T.n_Thing_word⟩,⟨⟨T.c_Post,T.n_Post_word⟩,⟨⟨T.c_Fence,T.n_Fence_word⟩,⟨⟨T.c_Sail,T.n_Sail_word⟩,⟨⟨T.c_Cloth,T.n_Cloth_word⟩,⟨⟨T.c_House,T.n_House_word⟩,trivial⟩⟩⟩⟩⟩⟩ (pv 0) (v_var 1))
      (ss_one (s_putf (i:=0) ["Thing", "Post", "Fence", "Sail", "Cloth", "House"] ⟨⟨T.c_Thing,T.n_Thing_numbers⟩,⟨⟨T.c_Post,T.n_Post_numbers⟩,⟨⟨T.c_Fence,T.n_Fence_numbers⟩,⟨⟨T.c_Sail,T.n_Sail_numbers⟩,⟨⟨T.c_Cloth,T.n_Cloth_numbers⟩,⟨⟨T.c_House,T.n_House_numbers⟩,trivial⟩⟩⟩⟩⟩⟩ (pv 0) (v_of (PE.wk (pe_callTy cr_list (by rfl) T.z_list PyProof.Rows.boot_list (ar_cons (r_var 2) ar_nil)) fun _ _ _ h=>cb_o co_list h)))))
theorem ok_d12 (T:Tx K mg a):FnOk P w K mg base (CXE P w) 2 a.f_d12 a.d_d12 ["numbers"] (spP ⟨K,cmA a⟩ 1 m_d12):=by
  refine fnQ (cm:=cmA a) (mb:=mb_d12) T.F_d12 sc_d12 rfl rfl rfl fun cdv A outer s H E hr => ?_
  have hu:=hr.units
  exact (ss_one (s_ret (o_of (v_and (v_cmp ov_eq (om_eqD hu) (r_of (PE.wk (pe_callB cm_len (by rfl) T.z_len PySem.boot_len (ar_cons (r_var 0) ar_nil)) fun _ _ _ h=>cb_v cv_len h)) (r_of v_int) (nomark _)) (v_and (PE.wk (pe_callB (cm_all rfl) (by rfl) T.z_all PyProof.Rows.boot_all (ar_cons (r_of (v_of (o_comp ["number"] [] 1 (defScope s_d12) rfl rfl (i_seq (v_of (o_slice (r_var 0) p_none (p_some v_int)))) (fun _ _ _ _ _=>(g_name (i:=0) (show (["number"]:List Str).Nodup by decide +kernel) rfl (by first | exact Or.inl rfl | exact Or.inr rfl))) (fun _ _ _ _ _=>ts_nil) (fun _ _ _ _ _=>(v_of (o_call (ok_d32 T) mDef_len (hr.mono (by decide)) rfl T.m_d32 T.F_d32.kp T.b_d32 passEF (ag_name 0 (hr:=ag_nil))))) trivial))) ar_nil)) fun _ _ _ h=>cb_v cv_all h) (v_one (v_of (o_call (ok_d25 T) mDef_len (hr.mono (by decide)) rfl T.m_d25 T.F_d25.kp T.b_d25 passE (ag_cons (v_ix ov_ix xm_ix (r_var 0) (r_of v_int) (fun _ _=>rfl)) ag_nil)))))))))
theorem ok_d19 (T:Tx K mg a):FnOk P w K mg base (CXE P w) 3 a.f_d19 a.d_d19 ["numbers"] (spP ⟨K,cmA a⟩ 1 m_d19):=by
  refine fnQ (cm:=cmA a) (mb:=mb_d19) T.F_d19 sc_d19 rfl rfl rfl fun cdv A outer s H E hr => ?_
  have hu:=hr.units
  exact (ss_one (s_ret (o_of (v_and (v_of (o_call (ok_d12 T) mDef_len (hr.mono (by decide)) rfl T.m_d12 T.F_d12.kp T.b_d12 passE (ag_name 0 (hr:=ag_nil)))) (v_one (v_cmp ov_ne (om_neD hu) (r_of (v_of (o_slice (r_var 0) p_none (p_some v_int)))) (r_of (v_of (o_slice (r_var 0) (p_some v_int) (p_some v_int)))) (nomark _)))))))
theorem ok_d0 (T:Tx K mg a):FnOk P w K mg base (CXE P w) 3 a.f_d0 a.d_d0 ["numbers"] (spP ⟨K,cmA a⟩ 1 m_d0):=by
  refine fnQ (cm:=cmA a) (mb:=mb_d0) T.F_d0 sc_d0 rfl rfl rfl fun cdv A outer s H E hr => ?_
  have hu:=hr.units
  exact (ss_one (s_ret (o_of (v_and (v_of (o_call (ok_d12 T) mDef_len (hr.mono (by decide)) rfl T.m_d12 T.F_d12.kp T.b_d12 passE (ag_name 0 (hr:=ag_nil)))) (v_and (v_cmp ov_lt om_lt (r_of (v_ix ov_ix xm_ix (r_var 0) (r_of v_int) (fun _ _=>rfl))) (r_of (v_ix ov_ix xm_ix (r_var 0) (r_of v_int) (fun _ _=>rfl))) (nomark _)) (v_one (v_cmp ov_lt om_lt (r_of (v_ix ov_ix xm_ix (r_var 0) (r_of v_int) (fun _ _=>rfl))) (r_of (v_ix ov_ix xm_ix (r_var 0) (r_of v_int) (fun _ _=>rfl))) (nomark _))))))))
theorem ok_d1 (T:Tx K mg a):FnOk P w K mg base (CXE P w) 2 a.f_d1 a.d_d1 ["numbers"] (spP ⟨K,cmA a⟩ 1 m_d1):=by
  refine fnQ (cm:=cmA a) (mb:=mb_d1) T.F_d1 sc_d1 rfl rfl rfl fun cdv A outer s H E hr => ?_
  have hu:=hr.units
  exact (ss_one (s_ret (o_of (v_and (v_of (o_call (ok_d32 T) mDef_len (hr.mono (by decide)) rfl T.m_d32 T.F_d32.kp T.b_d32 passE (ag_cons (v_ix ov_ix xm_ix (r_var 0) (r_of v_int) (fun _ _=>rfl)) ag_nil))) (v_and (v_of (o_call (ok_d32 T) mDef_len (hr.mono (by decide)) rfl T.m_d32 T.F_d32.kp T.b_d32 passE (ag_cons (v_ix ov_ix xm_ix (r_var 0) (r_of v_int) (fun _ _=>rfl)) ag_nil))) (v_one (v_chn ov_le ov_le om_le om_le (r_of v_int) (r_of (v_ix ov_ix xm_ix (r_var 0) (r_of v_int) (fun _ _=>rfl))) (r_of (v_c (.int (1000000000)) (pe_glob (v:=.int (1000000000)) rfl T.m_MOST_HEIGHT ⟨_,rfl⟩))))))))))
theorem ok_d18 (T:Tx K mg a):FnOk P w K mg base (CXE P w) 3 a.f_d18 a.d_d18 ["numbers"] (spP ⟨K,cmA a⟩ 1 m_d18):=by
  refine fnQ (cm:=cmA a) (mb:=mb_d18) T.F_d18 sc_d18 rfl rfl rfl fun cdv A outer s H E hr => ?_
  have hu:=hr.units
  exact (@ss_one _ _ _ _ _ (@s_ret _ _ _ _ _ _ (@o_of _ _ _ _ _ (@v_and _ _ _ _ _ _ _ _ _ (@v_cmp _ _ _ _ _ _ _ _ _ _ _ (@ov_eq _) (@om_eqD _ hu) (@r_of _ _ _ _ _ (@PE.wk _ _ _ _ (pe_callB cm_len (by rfl) T.z_len PySem.boot_len (@ar_cons _ _ _ _ _ _ _ (@r_var _ _ _ 0 _ _ (by rfl) (by first | exact Or.inl rfl | exact Or.inr (Or.inl rfl) | exact Or.inr (Or.inr rfl)) (by decide) (by decide)) (@ar_nil _ _ _) (by exact st_ns rfl))) (fun _ _ _ h => @cb_v _ _ _ _ _ _ (@cv_len _) _ _ _ h))) (@r_of _ _ _ _ _ (@v_int _ _ _ _ _ _)) (nomark _)) (@v_one _ _ _ _ _ _ _ (@PE.wk _ _ _ _ (pe_callB (@cm_all _ rfl) (by rfl) T.z_all PyProof.Rows.boot_all (@ar_cons _ _ _ _ _ _ _ (@r_of _ _ _ _ _ (@v_of _ _ _ _ _ (o_comp ["numbers", "place"] [0] 1 (defScope s_d18) rfl rfl (@i_seq _ _ _ _ _ _ (@v_tup _ _ _ _ _ _ _ (@a_cons _ _ _ _ _ _ _ (@v_int _ _ _ _ _ _) (@a_cons _ _ _ _ _ _ _ (@v_int _ _ _ _ _ _) (@a_cons _ _ _ _ _ _ _ (@v_int _ _ _ _ _ _) (@a_nil _ _ _) (by exact st_ns rfl)) (by exact st_ns rfl)) (by exact st_ns rfl)))) (fun _ _ _ _ _=>(@g_name _ _ _ 1 _ (show (["numbers", "place"]:List Str).Nodup by decide +kernel) rfl (by first | exact Or.inl rfl | exact Or.inr rfl) (by first | exact .inl rfl | exact .inr rfl | assumption))) (fun _ _ _ _ _=>(@ts_nil _ _ _)) (fun _ _ _ _ _=>(@v_of _ _ _ _ _ (@o_call _ _ _ _ _ _ _ _ _ _ _ _ _ _ _ _ (ok_d1 T) mDef_len (hr.mono (by decide)) rfl T.m_d1 T.F_d1.kp T.b_d1 (@passEF _ _ _) (@ag_cons _ _ _ _ _ _ _ (@v_of _ _ _ _ _ (@o_slice _ _ _ _ _ _ _ _ _ _ _ (@r_var _ _ _ 0 _ _ (by rfl) (by first | exact Or.inl rfl | exact Or.inr (Or.inl rfl) | exact Or.inr (Or.inr rfl)) (by decide) (by decide)) (@p_some _ _ _ _ _ (@v_var _ _ _ 1 _ _ (by rfl) (by first | exact Or.inl rfl | exact Or.inr (Or.inl rfl) | exact Or.inr (Or.inr rfl)) (by decide) (by decide))) (@p_some _ _ _ _ _ (@v_of _ _ _ _ _ (@o_bin _ _ _ _ _ _ _ _ _ _ _ (@ov_add _) (@or_add _) (@r_var _ _ _ 1 _ _ (by rfl) (by first | exact Or.inl rfl | exact Or.inr (Or.inl rfl) | exact Or.inr (Or.inr rfl)) (by decide) (by decide)) (@r_of _ _ _ _ _ (@v_int _ _ _ _ _ _))))))) (@ag_nil _ _ _) (by exact st_ns rfl)) (by decide) (by exact st_ns rfl) (by rfl)))) ⟨rfl,⟨rfl,by first | exact Or.inl rfl | exact Or.inr rfl⟩,trivial⟩))) (@ar_nil _ _ _) (by exact st_ns rfl))) (fun _ _ _ h => @cb_v _ _ _ _ _ _ (@cv_all _) _ _ _ h)))))))
theorem ok_d33 (T:Tx K mg a):FnOk P w K mg base (CXE P w) 4 a.f_d33 a.d_d33 ["word", "numbers"] (spP ⟨K,cmA a⟩ 2 m_d33):=by
  refine fnQ (cm:=cmA a) (mb:=mb_d33) T.F_d33 sc_d33 rfl rfl rfl fun cdv A outer s H E hr => ?_
  have hu:=hr.units
  exact (ss_cons (s_if (PW.pt (w_and (t_cmp ov_eq (om_eqD hu) (r_var 0) (r_of v_str) (nomark _)) (w_and1 (t_val (r_of (v_of (o_call (ok_d20 T) mDef_len (hr.mono (by decide)) rfl T.m_d20 T.F_d20.kp T.b_d20 passE (ag_name 1 (hr:=ag_nil)))))))))
      (ss_one (s_ret (o_of (v_make T.M_Post (okI_Post T) mInit_len (hr.mono (by decide)) rfl T.m_Post T.b_d3 passE (ag_name 0 (hr:=(ag_name 1 (hr:=ag_nil))))))))
      ss_nil)
      (ss_cons (s_if (PW.pt (w_and (t_cmp ov_eq (om_eqD hu) (r_var 0) (r_of v_str) (nomark _)) (w_and1 (t_val (r_of (v_of (o_call (ok_d19 T) mDef_len (hr.mono (by decide)) rfl T.m_d19 T.F_d19.kp T.b_d19 passE (ag_name 1 (hr:=ag_nil)))))))))
      (ss_one (s_ret (o_of (v_make T.M_Fence (okI_Fence T) mInit_len (hr.mono (by decide)) rfl T.m_Fence T.b_d3 passE (ag_name 0 (hr:=(ag_name 1 (hr:=ag_nil))))))))
      ss_nil)
      (ss_cons (s_if (PW.pt (w_and (t_cmp ov_eq (om_eqD hu) (r_var 0) (r_of v_str) (nomark _)) (w_and1 (t_val (r_of (v_of (o_call (ok_d0 T) mDef_len (hr.mono (by decide)) rfl T.m_d0 T.F_d0.kp T.b_d0 passE (ag_name 1 (hr:=ag_nil)))))))))
      (ss_one (s_ret (o_of (v_make T.M_Sail (okI_Sail T) mInit_len (hr.mono (by decide)) rfl T.m_Sail T.b_d3 passE (ag_name 0 (hr:=(ag_name 1 (hr:=ag_nil))))))))
      ss_nil)
      (ss_cons (s_if (PW.pt (w_and (t_cmp ov_eq (om_eqD hu) (r_var 0) (r_of v_str) (nomark _)) (w_and1 (t_val (r_of (v_of (o_call (ok_d18 T) mDef_len (hr.mono (by decide)) rfl T.m_d18 T.F_d18.kp T.b_d18 passE (ag_name 1 (hr:=ag_nil)))))))))
      (ss_one (s_ret (o_of (v_make T.M_Cloth (okI_Cloth T) mInit_len (hr.mono (by decide)) rfl T.m_Cloth T.b_d3 passE (ag_name 0 (hr:=(ag_name 1 (hr:=ag_nil))))))))
      ss_nil)
      (ss_cons (s_if (PW.pt (w_and (t_cmp ov_eq (om_eqD hu) (r_var 0) (r_of v_str) (nomark _)) (w_and1 (t_val (r_of (v_of (o_call (ok_d0 T) mDef_len (hr.mono (by decide)) rfl T.m_d0 T.F_d0.kp T.b_d0 passE (ag_name 1 (hr:=ag_nil)))))))))
      (ss_one (s_ret (o_of (v_make T.M_House (okI_House T) mInit_len (hr.mono (by decide)) rfl T.m_House T.b_d3 passE (ag_name 0 (hr:=(ag_name 1 (hr:=ag_nil))))))))
      ss_nil)
      (ss_one (s_raise0 (C := "BadThing") rfl rfl raisesD rfl T.m_BadThing T.x_BadThing)))))))
theorem ok_d23 (T:Tx K mg a):FnOk P w K mg base (CXE P w) 1 a.f_d23 a.d_d23 ["_law_found", "_law_due"] (spP ⟨K,cmA a⟩ 2 m_d23):=by
  refine fnQ (cm:=cmA a) (mb:=mb_d23) T.F_d23 sc_d23 rfl rfl rfl fun cdv A outer s H E hr => ?_
  have hu:=hr.units
  exact (ss_cons (s_if (PW.pt (w_or (t_not (t_val (r_of (PE.wk (pe_callB cr_isiX (by rfl) T.z_isinstance PyProof.Rows.boot_isinstance (ar_cons (r_var 0) (ar_cons (r_of (v_c (.ty "list") (pe_bltn (v:=.ty "list") rfl T.z_list PyProof.Rows.boot_list rfl))) ar_nil))) fun _ _ _ h=>cb_v (cv_isiX T.iC T.iT T.iD T.iN) h)))) (w_or1 (t_cmp ov_ne (om_neD hu) (r_var 0) (r_var 1) (nomark _)))))
      (ss_one (s_ret (o_of v_bl)))
      ss_nil)
      (ss_one (s_ret (o_of (PE.wk (pe_callB (cm_all rfl) (by rfl) T.z_all PyProof.Rows.boot_all (ar_cons (r_of (v_of (o_comp ["_law_one"] [] 1 (defScope s_d23) rfl rfl (i_name 0) (fun _ _ _ _ _=>(g_name (i:=0) (show (["_law_one"]:List Str).Nodup by decide +kernel) rfl (by first | exact Or.inl rfl | exact Or.inr rfl))) (fun _ _ _ _ _=>ts_nil) (fun _ _ _ _ _=>(v_and (PE.wk (pe_callB cr_isiX (by rfl) T.z_isinstance PyProof.Rows.boot_isinstance (ar_cons (r_var 0) (ar_cons (r_of (v_c (.ty "int") (pe_bltn (v:=.ty "int") rfl T.z_int PyProof.Rows.boot_int rfl))) ar_nil))) fun _ _ _ h=>cb_v (cv_isiX T.iC T.iT T.iD T.iN) h) (v_one (v_not (PE.wk (pe_callB cr_isiX (by rfl) T.z_isinstance PyProof.Rows.boot_isinstance (ar_cons (r_var 0) (ar_cons (r_of (v_c (.ty "bool") (pe_bltn (v:=.ty "bool") rfl T.z_bool PyProof.Rows.boot_bool rfl))) ar_nil))) fun _ _ _ h=>cb_v (cv_isiX T.iC T.iT T.iD T.iN) h))))) trivial))) ar_nil)) fun _ _ _ h=>cb_v cv_all h)))))
theorem ok_d44 (T:Tx K mg a):FnOk P w K mg base (CXE P w) 10 a.f_d44 a.d_d44 ["_law_script"] (spP ⟨K,cmA a⟩ 1 m_d44):=by
  refine fnQ (cm:=cmA a) (mb:=mb_d44) T.F_d44 sc_d44 rfl rfl rfl fun cdv A outer s H E hr => ?_
  have hu:=hr.units
  exact (ss_cons (s_set (i:=1) sc_d44.nd rfl (by first | exact Or.inl rfl | exact Or.inr rfl) (o_call (ok_d26 T) mDef_len (hr.mono (by decide)) rfl T.m_d26 T.F_d26.kp T.b_d26 passE (ag_cons (v_of (o_call (ok_d37 T) mDef_len (hr.mono (by decide)) rfl T.m_d37 T.F_d37.kp T.b_d37 passE (ag_name 0 (hr:=(ag_cons v_int ag_nil))))) (ag_cons v_int ag_nil))))
      (ss_cons (s_setc (i:=2) sc_d44.nd rfl rfl ["_law_size_here", "_law_cell"] [1] 1 (defScope s_d44) rfl rfl (i_seq (v_of (o_slice (r_var 0) (p_some v_int) (p_some v_int)))) (fun _ _ _ _ _=>(g_name (i:=1) (show (["_law_size_here", "_law_cell"]:List Str).Nodup by decide +kernel) rfl (by first | exact Or.inl rfl | exact Or.inr rfl))) (fun _ _ _ _ _=>ts_nil) (fun _ _ _ _ _=>(v_of (o_call (ok_d22 T) mDef_len (hr.mono (by decide)) rfl T.m_d22 T.F_d22.kp T.b_d22 passEF (ag_name 1 (hr:=(ag_cons (PE.wk (pe_callB (cr_max rfl) (by rfl) T.z_max PyProof.Rows.boot_max (ar_cons (r_var 0) ar_nil)) fun _ _ _ h=>cb_v cv_max h) ag_nil)))))) ⟨rfl,⟨rfl,by first | exact Or.inl rfl | exact Or.inr rfl⟩,trivial⟩)
      (ss_cons (s_set (i:=3) sc_d44.nd rfl (by first | exact Or.inl rfl | exact Or.inr rfl) (o_call (ok_d28 T) mDef_len (hr.mono (by decide)) rfl T.m_d28 T.F_d28.kp T.b_d28 passE (ag_name 0 (hr:=(ag_cons v_int (ag_cons (v_bin ov_mod om_mod (r_of (v_of (o_call (ok_d37 T) mDef_len (hr.mono (by decide)) rfl T.m_d37 T.F_d37.kp T.b_d37 passE (ag_name 0 (hr:=(ag_cons v_int ag_nil)))))) (r_of v_int)) (ag_cons v_int ag_nil)))))))
      (ss_cons (s_if (t_cmp ov_eq (om_eqD hu) (r_of (v_bin ov_mod om_mod (r_of (v_bin ov_fdv om_fdiv (r_of (v_of (o_call (ok_d37 T) mDef_len (hr.mono (by decide)) rfl T.m_d37 T.F_d37.kp T.b_d37 passE (ag_name 0 (hr:=(ag_cons v_int ag_nil)))))) (r_of v_int))) (r_of v_int))) (r_of v_int) (nomark _))
      (ss_cons (s_set (i:=1) sc_d44.nd rfl (by first | exact Or.inl rfl | exact Or.inr rfl) (o_of (v_tup (a_cons (v_of (o_bin ov_add or_add (r_of v_int) (r_of (v_bin ov_mod om_mod (r_of (v_of (o_call (ok_d37 T) mDef_len (hr.mono (by decide)) rfl T.m_d37 T.F_d37.kp T.b_d37 passE (ag_name 0 (hr:=(ag_cons v_int ag_nil)))))) (r_of v_int))))) (a_cons v_int a_nil)))))
      (ss_cons (s_set (i:=2) sc_d44.nd rfl (by first | exact Or.inl rfl | exact Or.inr rfl) (o_slice (r_var 2) p_none (p_some v_int)))
      (ss_one (s_set (i:=3) sc_d44.nd rfl (by first | exact Or.inl rfl | exact Or.inr rfl) (o_call (ok_d28 T) mDef_len (hr.mono (by decide)) rfl T.m_d28 T.F_d28.kp T.b_d28 passE (ag_name 0 (hr:=(ag_cons v_int (ag_cons v_int (ag_cons v_int ag_nil))))))))))
      ss_nil)
      (ss_cons (s_setc (i:=4) sc_d44.nd rfl rfl ["_law_word", "_law_numbers"] [] 2 (defScope s_d44) rfl rfl (i_name 2) (fun _ _ _ _ _=>(g_tup rfl (gs_cons (g_name (i:=0) (show (["_law_word", "_law_numbers"]:List Str).Nodup by decide +kernel) rfl (by first | exact Or.inl rfl | exact Or.inr rfl)) (gs_cons (g_name (i:=1) (show (["_law_word", "_law_numbers"]:List Str).Nodup by decide +kernel) rfl (by first | exact Or.inl rfl | exact Or.inr rfl)) gs_nil)))) (fun _ _ _ _ _=>ts_nil) (fun _ _ _ _ _=>(v_of (o_call (ok_d33 T) mDef_len (hr.mono (by decide)) rfl T.m_d33 T.F_d33.kp T.b_d33 passEF (ag_name 0 (hr:=(ag_cons (v_of (PE.wk (pe_callTy cr_list (by rfl) T.z_list PyProof.Rows.boot_list (ar_cons (r_var 1) ar_nil)) fun _ _ _ h=>cb_o co_list h)) ag_nil)))))) trivial)
      (ss_cons (s_set (i:=5) sc_d44.nd rfl (by first | exact Or.inl rfl | exact Or.inr rfl) (o_of (v_make T.M_Yard (okI_Yard T) mInit_len (hr.mono (by decide)) rfl T.m_Yard T.b_d8 passE (ag_cons (v_ix ov_ix xm_ix (r_var 1) (r_of v_int) (fun _ _=>rfl)) (ag_cons (v_ix ov_ix xm_ix (r_var 1) (r_of v_int) (fun _ _=>rfl)) (ag_name 4 (hr:=(ag_name 3 (hr:=ag_nil)))))))))
      (ss_cons (s_set (i:=6) sc_d44.nd rfl (by first | exact Or.inl rfl | exact Or.inr rfl) (o_comp ["_law_number"] [] 1 (defScope s_d44) rfl rfl (i_range1 rfl T.z_range (a_cons (v_bin ov_mul om_mulS (r_of (v_ix ov_ix xm_ix (r_var 1) (r_of v_int) (fun _ _=>rfl))) (r_of (v_ix ov_ix xm_ix (r_var 1) (r_of v_int) (fun _ _=>rfl)))) a_nil)) (fun _ _ _ _ _=>(g_name (i:=0) (show (["_law_number"]:List Str).Nodup by decide +kernel) rfl (by first | exact Or.inl rfl | exact Or.inr rfl))) (fun _ _ _ _ _=>ts_nil) (fun _ _ _ _ _=>v_int) trivial))
      (ss_cons (s_for PassesOwn.leaving rfl (i_name 3) (g_tup rfl (gs_cons (g_name (i:=9) sc_d44.nd rfl (by first | exact Or.inl rfl | exact Or.inr rfl)) (gs_cons (g_name (i:=10) sc_d44.nd rfl (by first | exact Or.inl rfl | exact Or.inr rfl)) (gs_cons (g_name (i:=11) sc_d44.nd rfl (by first | exact Or.inl rfl | exact Or.inr rfl)) gs_nil))))
      (ss_one (s_for PassesOwn.leaving rfl (i_name 11) (g_name (i:=12) sc_d44.nd rfl (by first | exact Or.inl rfl | exact Or.inr rfl))
      (ss_cons (s_set (i:=13) sc_d44.nd rfl (by first | exact Or.inl rfl | exact Or.inr rfl) (o_call (ok_d42 T) mDef_len (hr.mono (by decide)) rfl T.m_d42 T.F_d42.kp T.b_d42 passE (ag_name 5 (hr:=(ag_name 12 (hr:=ag_nil))))))
      (ss_one (s_set (i:=6) sc_d44.nd rfl (by first | exact Or.inl rfl | exact Or.inr rfl) (o_comp ["_law_due", "_law_many", "_law_bits", "_law_number"] [6,10,13] 1 (defScope s_d44) rfl rfl (i_range1 rfl T.z_range (a_cons (PE.wk (pe_callB cm_len (by rfl) T.z_len PySem.boot_len (ar_cons (r_var 6) ar_nil)) fun _ _ _ h=>cb_v cv_len h) a_nil)) (fun _ _ _ _ _=>(g_name (i:=3) (show (["_law_due", "_law_many", "_law_bits", "_law_number"]:List Str).Nodup by decide +kernel) rfl (by first | exact Or.inl rfl | exact Or.inr rfl))) (fun _ _ _ _ _=>ts_nil) (fun _ _ _ _ _=>(v_of (o_bin ov_add or_add (r_of (v_ix ov_ix xm_ix (r_var 0) (r_var 3) (fun _ _=>rfl))) (r_of (v_bin ov_mul om_mulS (r_var 1) (r_of (v_bin ov_sub om_sub (r_of v_int) (r_of (v_bin ov_mod om_mod (r_of (v_bin ov_shr om_shr (r_var 2) (r_var 3))) (r_of v_int)))))))))) ⟨rfl,⟨rfl,by first | exact Or.inl rfl | exact Or.inr rfl⟩,⟨rfl,⟨rfl,by first | exact Or.inl rfl | exact Or.inr rfl⟩,⟨rfl,⟨rfl,by first | exact Or.inl rfl | exact Or.inr rfl⟩,trivial⟩⟩⟩)))))))
      (ss_cons (s_set (i:=7) sc_d44.nd rfl (by first | exact Or.inl rfl | exact Or.inr rfl) (o_call (ok_d41 T) mDef_len (hr.mono (by decide)) rfl T.m_d41 T.F_d41.kp T.b_d41 passE (ag_name 5 (hr:=ag_nil))))
      (ss_cons (s_if (t_not (t_val (r_of (v_of (o_call (ok_d23 T) mDef_len (hr.mono (by decide)) rfl T.m_d23 T.F_d23.kp T.b_d23 passE (ag_name 7 (hr:=(ag_name 6 (hr:=ag_nil)))))))))
      (ss_one (s_ret (o_of v_bl)))
      ss_nil)
      (ss_cons (PS.wk (ps_expr (pe_bm PySem.F.plainAttrs_list PySem.F.slot_list_append PySem.F.type_list_append mt_append (pv 7) (a_cons v_int a_nil))) fun _ _ _ h=>app_end h)
      (ss_cons (s_set (i:=8) sc_d44.nd rfl (by first | exact Or.inl rfl | exact Or.inr rfl) (o_call (ok_d36 T) mDef_len (hr.mono (by decide)) rfl T.m_d36 T.F_d36.kp T.b_d36 passE (ag_name 5 (hr:=ag_nil))))
      (ss_cons (s_if (PW.pt (w_or (t_not (t_val (r_of (PE.wk (pe_callB cr_isiX (by rfl) T.z_isinstance PyProof.Rows.boot_isinstance (ar_cons (r_var 8) (ar_cons (r_of (v_c (.ty "int") (pe_bltn (v:=.ty "int") rfl T.z_int PyProof.Rows.boot_int rfl))) ar_nil))) fun _ _ _ h=>cb_v (cv_isiX T.iC T.iT T.iD T.iN) h)))) (w_or1 (t_val (r_of (PE.wk (pe_callB cr_isiX (by rfl) T.z_isinstance PyProof.Rows.boot_isinstance (ar_cons (r_var 8) (ar_cons (r_of (v_c (.ty "bool") (pe_bltn (v:=.ty "bool") rfl T.z_bool PyProof.Rows.boot_bool rfl))) ar_nil))) fun _ _ _ h=>cb_v (cv_isiX T.iC T.iT T.iD T.iN) h))))))
      (ss_one (s_ret (o_of v_bl)))
      ss_nil)
      (ss_cons (s_if (t_cmp ov_ne (om_neD hu) (r_var 8) (r_of (PE.wk (pe_callB (cr_sum rfl) (by rfl) T.z_sum PyProof.Rows.boot_sum (ar_cons (r_of (v_of (o_comp ["_law_due", "_law_number"] [6] 1 (defScope s_d44) rfl rfl (i_range1 rfl T.z_range (a_cons (PE.wk (pe_callB cm_len (by rfl) T.z_len PySem.boot_len (ar_cons (r_var 6) ar_nil)) fun _ _ _ h=>cb_v cv_len h) a_nil)) (fun _ _ _ _ _=>(g_name (i:=1) (show (["_law_due", "_law_number"]:List Str).Nodup by decide +kernel) rfl (by first | exact Or.inl rfl | exact Or.inr rfl))) (fun _ _ _ _ _=>(ts_one (t_cmp ov_gt om_gt (r_of (v_ix ov_ix xm_ix (r_var 0) (r_var 1) (fun _ _=>rfl))) (r_of v_int) (nomark _)))) (fun _ _ _ _ _=>(v_bin ov_shl om_shl (r_of v_int) (r_var 1))) ⟨rfl,⟨rfl,by first | exact Or.inl rfl | exact Or.inr rfl⟩,trivial⟩))) ar_nil)) fun _ _ _ h=>cb_v cv_sum h)) (nomark _))
      (ss_one (s_ret (o_of v_bl)))
      ss_nil)
      (ss_one (s_ret (o_of (v_and (v_of (o_call (ok_d23 T) mDef_len (hr.mono (by decide)) rfl T.m_d23 T.F_d23.kp T.b_d23 passE (ag_cons (v_of (o_call (ok_d41 T) mDef_len (hr.mono (by decide)) rfl T.m_d41 T.F_d41.kp T.b_d41 passE (ag_name 5 (hr:=ag_nil)))) (ag_name 6 (hr:=ag_nil))))) (v_one (v_cmp ov_eq (om_eqD hu) (r_of (v_of (o_call (ok_d36 T) mDef_len (hr.mono (by decide)) rfl T.m_d36 T.F_d36.kp T.b_d36 passE (ag_name 5 (hr:=ag_nil))))) (r_var 8) (nomark _)))))))))))))))))))))
end
def pt (p:Hu.Pt):PV:=.tup [.int p.1,.int p.2]
def lnV (l:Hu.Ln):PV:=.tup [.int l.1,.int l.2.1,.int l.2.2]
def Sm (p:Hu.Pt):Prop:=-100000000000000000≤p.1∧p.1≤100000000000000000 ∧ -100000000000000000≤p.2∧p.2≤100000000000000000
def SmL (l:Hu.Ln):Prop:=-1000000000000000000≤l.1∧l.1≤1000000000000000000 ∧ -1000000000000000000≤l.2.1∧l.2.1≤1000000000000000000
theorem ZU {x y:Hu.Pt}:eqB (pt y) (pt x)=decide (y=x):=by
  obtain ⟨a,b⟩:=x
  obtain ⟨c,d⟩:=y
  unfold pt
  rw [eq_tup,Bool.eq_iff_iff]
  simp
theorem ZE (x:Hu.Pt):dOk (pt x)=true:=by simp [pt,dOk,dOkL]
theorem Zz (x:Hu.Pt):dep (pt x)=1:=by simp [pt,dep,depL]
theorem Z1r (S:List Hu.Pt):dOkL (S.map pt)=true:=by
  induction S with
  | nil=>simp [dOkL]
  | cons p S ih=>simp [dOkL,ZE,ih]
theorem Z0u (x:Hu.Pt):∀ k:List Hu.Pt,(k.map pt).any (fun y=>eqB y (pt x))=decide (x∈k)
  | []=>by simp
  | y::k=>by
    rw [List.map_cons,List.any_cons,Z0u x k,ZU,Bool.eq_iff_iff]
    simp
    constructor
    · rintro (e | e)
      · exact .inl e.symm
      · exact .inr e
    · rintro (e | e)
      · exact .inl e.symm
      · exact .inr e
theorem ZV (x:Hu.Pt) (k:List Hu.Pt):inD true (pt x) (.lst (k.map pt))=some (.bl (!decide (x∈k))):=by
  unfold inD
  simp only [ZE,Z1r,Zz,Z0u]
  rfl
theorem Z0k (x y:Hu.Pt):opNe (pt x) (pt y)=some (.bl (!decide (x=y))):=by
  unfold opNe eqOk
  rw [ZE,ZE,Zz,Zz,ZU]
  rfl
theorem Z18 {a b:Hu.Pt} (ha:Sm a) (hb:Sm b):m_d13 [.sh (pt a),.sh (pt b)] = .ret (.sh (lnV (Hu.Z2 a b))):=by
  obtain ⟨a1,a2,a3,a4⟩:=ha
  obtain ⟨b1,b2,b3,b4⟩:=hb
  have m1:mulOk (b.2-a.2) a.1=true:=mul_l (by omega) (by omega)
  have m2:mulOk (a.1-b.1) a.2=true:=mul_l (by omega) (by omega)
  simp [m_d13,mb_d13,List.replicate,pt,lnV,Hu.Z2,m1,m2]
theorem Z0H {l:Hu.Ln} (hl:SmL l) (p:Hu.Pt):m_d40 [.sh (lnV l),.sh (pt p)] = .ret (.sh (.bl (Hu.hd l p))):=by
  obtain ⟨a1,a2,a3,a4⟩:=hl
  have m1:mulOk l.1 p.1=true:=mul_l (by omega) (by omega)
  have m2:mulOk l.2.1 p.2=true:=mul_l (by omega) (by omega)
  simp [m_d40,mb_d40,List.replicate,pt,lnV,Hu.hd,m1,m2]
theorem Z0a {a b:Hu.Pt} (ha:Sm a) (hb:Sm b):SmL (Hu.Z2 a b):=by
  obtain ⟨a1,a2,a3,a4⟩:=ha
  obtain ⟨b1,b2,b3,b4⟩:=hb
  simp only [SmL,Hu.Z2]
  omega
def Sl (s:P.Slot) (ps:List PV):Prop:=s = .sh (.lst ps)∨s = .bw ps
theorem Sl.lend {s:P.Slot} {ps:List PV} (h:Sl s ps):lendS s=some s:=by rcases h with rfl | rfl<;>rfl
theorem Sl.it {s:P.Slot} {ps:List PV} (h:Sl s ps) {i:Nat} {ρ : PSt} (e : ρ[i]? = some s):mIterN i ρ = .ok ps ρ := by
  rcases h with rfl | rfl<;>simp [e]
theorem Z19 {S:List Hu.Pt} {sl:P.Slot} (hs:Sl sl (S.map pt)) (hl:S.length≤1000):m_d27 [sl] = .ret (.ow ((Hu.Z1 S).map pt)):=by
  have hlen:∀ (xs k:List Hu.Pt),(xs.foldl (fun k x=>if x∈k then k else k ++ [x]) k).length≤k.length+xs.length:=by
    intro xs
    induction xs with
    | nil=>intro k;simp
    | cons x xs ih =>
      intro k
      rw [List.foldl_cons]
      refine Nat.le_trans (ih _) ?_
      split
      · simp
      · simp;omega
  have key:∀ (xs:List Hu.Pt) (k:List Hu.Pt) (s2:P.Slot),k.length+xs.length≤1000→∃ s2',forL (gN 2) t1_d27 (xs.map pt) [sl,.ow (k.map pt),s2] = .ok .nx [sl,.ow ((xs.foldl (fun k x=>if x∈k then k else k ++ [x]) k).map pt),s2']:=by
    intro xs
    induction xs with
    | nil=>intro k s2 _;exact ⟨s2,rfl⟩
    | cons x xs ih =>
      intro k s2 hk
      rw [List.length_cons] at hk
      by_cases hx:x∈k
      · obtain ⟨s2',e⟩:=ih k (.sh (pt x)) (by omega)
        refine ⟨s2',?_⟩
        have hb:t1_d27 [sl,.ow (k.map pt),.sh (pt x)] = .ok .nx [sl,.ow (k.map pt),.sh (pt x)]:=by simp [t1_d27,ZV,hx]
        rw [List.map_cons,List.foldl_cons,if_pos hx,forL]
        simp [hb,e]
      · obtain ⟨s2',e⟩:=ih (k ++ [x]) (.sh (pt x)) (by simp;omega)
        refine ⟨s2',?_⟩
        have h3:k.length<16777216:=by omega
        have hb:t1_d27 [sl,.ow (k.map pt),.sh (pt x)] = .ok .nx [sl,.ow ((k ++ [x]).map pt),.sh (pt x)]:=by simp [t1_d27,ZV,hx,h3]
        rw [List.map_cons,List.foldl_cons,if_neg hx,forL]
        simp only [ev_gN,List.set_cons_succ,List.set_cons_zero,hb,Res.bind_ok]
        exact e
  obtain ⟨s2,e⟩:=key S [] .no (by simpa using hl)
  have hit:=hs.it (i:=0) (ρ := [sl,.ow [],.no]) rfl
  simp only [List.map_nil] at e
  simp [m_d27,mb_d27,List.replicate,-ev_itn,hit,e]
  rfl
theorem Z0v (x:Int) (l:List Int):fMax1 [.lst ((x::l).map .int)]=some (.int (Hu.mx (x::l))):=by
  show ((intsOf ((x::l).map .int)).bind (best max)).map PV.int=_
  rw [intsOf_map]
  rfl
theorem Z0w (x:Int) (l:List Int):fMin1 [.lst ((x::l).map .int)]=some (.int (Hu.mn (x::l))):=by
  show ((intsOf ((x::l).map .int)).bind (best min)).map PV.int=_
  rw [intsOf_map]
  rfl
theorem Z1s {S:List Hu.Pt} {sl:P.Slot} (hs:Sl sl (S.map pt)) (h0:S ≠ []) (hl:S.length≤1000):m_d30 [sl] = .ret (.ow ((Hu.box S).map lnV)):=by
  have c1:compL (gN 0) mYes (mBin opIx (mVarR 0) (mC (.int 0))) (S.map pt) [.no] []=some ((S.map (·.1)).map .int):=by
    have:=compL_map (g:=gN 0) (mt:=mYes) (me:=mBin opIx (mVarR 0) (mC (.int 0))) pt (fun p => .int p.1) (fun ρ => ∃ s,ρ = [s]) S [.no] [] ⟨_,rfl⟩ (by simp;omega) (by
      rintro x hx ρ ⟨s,rfl⟩
      exact ⟨[.sh (pt x)],[.sh (pt x)],[.sh (pt x)],by simp,by simp,by simp [pt],_,rfl⟩)
    rw [this]
    simp
  have c2:compL (gN 0) mYes (mBin opIx (mVarR 0) (mC (.int 1))) (S.map pt) [.no] []=some ((S.map (·.2)).map .int):=by
    have:=compL_map (g:=gN 0) (mt:=mYes) (me:=mBin opIx (mVarR 0) (mC (.int 1))) pt (fun p => .int p.2) (fun ρ => ∃ s,ρ = [s]) S [.no] [] ⟨_,rfl⟩ (by simp;omega) (by
      rintro x hx ρ ⟨s,rfl⟩
      exact ⟨[.sh (pt x)],[.sh (pt x)],[.sh (pt x)],by simp,by simp,by simp [pt],_,rfl⟩)
    rw [this]
    simp
  obtain ⟨p,R,rfl⟩:=List.exists_cons_of_ne_nil h0
  have x1:=Z0v p.1 (R.map (·.1))
  have x2:=Z0w p.1 (R.map (·.1))
  have x3:=Z0v p.2 (R.map (·.2))
  have x4:=Z0w p.2 (R.map (·.2))
  have hit:∀ s1 s2,mIterN 0 [sl,s1,s2] = .ok ((p::R).map pt) [sl,s1,s2]:=fun s1 s2=>hs.it rfl
  have b:(Hu.box (p::R)).map lnV = [.tup [.int 1,.int 0,.int (Hu.mx (p.1::R.map (·.1)))],.tup [.int (-1),.int 0,.int (- Hu.mn (p.1::R.map (·.1)))],.tup [.int 0,.int 1,.int (Hu.mx (p.2::R.map (·.2)))],.tup [.int 0,.int (-1),.int (- Hu.mn (p.2::R.map (·.2)))]]:=rfl
  rw [b]
  generalize (p::R).map pt=ps at hit c1 c2
  rw [List.map_cons] at c1 c2
  generalize (p.1::R.map (·.1)).map PV.int=us at c1 x1 x2
  generalize (p.2::R.map (·.2)).map PV.int=vs at c2 x3 x4
  simp [m_d30,mb_d30,List.replicate,-ev_itn,-ev_maxL,-ev_minL,hit,c1,c2,x1,x2,x3,x4]
theorem ZP:∀ l:List Bool,boolsOf (l.map .bl)=some l
  | []=>rfl
  | x::l=>by rw [List.map_cons,boolsOf,ZP l];rfl
theorem Z0x (l:List Bool):fAll [.lst (l.map .bl)]=some (.bl (l.all id)):=by
  show (boolsOf (l.map .bl)).map (fun bs=>PV.bl (bs.all id))=_
  rw [ZP]
  rfl
theorem Zx (S:List Hu.Pt):(Hu.Z1 S).length≤S.length:=by
  have:∀ (xs k:List Hu.Pt),(xs.foldl (fun k x=>if x∈k then k else k ++ [x]) k).length≤k.length+xs.length:=by
    intro xs
    induction xs with
    | nil=>intro k;simp
    | cons x xs ih =>
      intro k
      rw [List.foldl_cons]
      refine Nat.le_trans (ih _) ?_
      split
      · simp
      · simp;omega
  have h:=this S []
  rw [List.length_nil,Nat.zero_add] at h
  exact h
theorem Z0y {S:List Hu.Pt} (hS:∀ p∈S,Sm p) (hl:S.length≤1000) {a b:Hu.Pt} (ha:a∈S) (hb:b∈S) (s0 s5:P.Slot) (L:List Hu.Ln) (hL:L.length<16777216) :
    t1_d24 [s0,.ow (L.map lnV),.sh (.lst ((Hu.Z1 S).map pt)),.sh (pt a),.sh (pt b),s5] = .ok .nx [s0,.ow ((L++(if a≠b∧(Hu.Z1 S).all (Hu.hd (Hu.Z2 a b)) then [Hu.Z2 a b] else [])).map lnV),.sh (.lst ((Hu.Z1 S).map pt)),.sh (pt a),.sh (pt b),.sh (lnV (Hu.Z2 a b))]:=by
  have hsm:=Z0a (hS a ha) (hS b hb)
  have c1:compL (gN 1) mYes (mVal (mCall m_d40 (mAName 0 (mAName 1 mANil)))) ((Hu.Z1 S).map pt) [.sh (lnV (Hu.Z2 a b)),.no] []=some (((Hu.Z1 S).map (Hu.hd (Hu.Z2 a b))).map .bl):=by
    have hlen:(Hu.Z1 S).length≤16777216:=by have:=Zx S;omega
    have:=compL_map (g:=gN 1) (mt:=mYes) (me:=mVal (mCall m_d40 (mAName 0 (mAName 1 mANil)))) pt (fun p => .bl (Hu.hd (Hu.Z2 a b) p)) (fun ρ => ∃ s,ρ = [.sh (lnV (Hu.Z2 a b)),s]) (Hu.Z1 S) [.sh (lnV (Hu.Z2 a b)),.no] [] ⟨_,rfl⟩ (by simpa using hlen) (by
      rintro x hx ρ ⟨s,rfl⟩
      exact ⟨[.sh (lnV (Hu.Z2 a b)),.sh (pt x)],[.sh (lnV (Hu.Z2 a b)),.sh (pt x)],[.sh (lnV (Hu.Z2 a b)),.sh (pt x)],by simp,by simp,by simp [Z0H hsm],_,rfl⟩)
    rw [this]
    simp
  have c2:=Z0x ((Hu.Z1 S).map (Hu.hd (Hu.Z2 a b)))
  have e1:=Z18 (hS a ha) (hS b hb)
  have e3:((Hu.Z1 S).map (Hu.hd (Hu.Z2 a b))).all id=(Hu.Z1 S).all (Hu.hd (Hu.Z2 a b)):=by simp
  rw [e3] at c2
  generalize ((Hu.Z1 S).map (Hu.hd (Hu.Z2 a b))).map PV.bl=bs at c1 c2
  by_cases h1:a=b
  · subst h1
    simp [t1_d24,e1,Z0k]
  · by_cases h2:(Hu.Z1 S).all (Hu.hd (Hu.Z2 a b))=true
    · rw [h2] at c2
      simp [t1_d24,e1,Z0k,h1,c1,c2,h2,hL,-List.all_eq_true]
    · rw [Bool.not_eq_true] at h2
      rw [h2] at c2
      simp [t1_d24,e1,Z0k,h1,c1,c2,h2,hL,-List.all_eq_true,-List.all_eq_false]
theorem Z0I {S:List Hu.Pt} (hS:∀ p∈S,Sm p) (hl:S.length≤1000) {a:Hu.Pt} (ha:a∈S) (s0:P.Slot):∀ (xs:List Hu.Pt) (L:List Hu.Ln) (s4 s5:P.Slot),(∀ x∈xs,x∈S)→L.length+xs.length<16777216 →
    ∃ s4' s5',forL (gN 4) t1_d24 (xs.map pt) [s0,.ow (L.map lnV),.sh (.lst ((Hu.Z1 S).map pt)),.sh (pt a),s4,s5] = .ok .nx [s0,.ow ((L++xs.filterMap fun b=>if a≠b∧(Hu.Z1 S).all (Hu.hd (Hu.Z2 a b)) then some (Hu.Z2 a b) else none).map lnV),.sh (.lst ((Hu.Z1 S).map pt)),.sh (pt a),s4',s5']:=by
  intro xs
  induction xs with
  | nil=>intro L s4 s5 _ _;exact ⟨s4,s5,by simp [forL]⟩
  | cons b xs ih =>
    intro L s4 s5 hx hL
    rw [List.length_cons] at hL
    have hb:=Z0y hS hl ha (hx b (by simp)) s0 s5 L (by omega)
    obtain ⟨s4',s5',e⟩:=ih (L++(if a≠b∧(Hu.Z1 S).all (Hu.hd (Hu.Z2 a b)) then [Hu.Z2 a b] else [])) (.sh (pt b)) (.sh (lnV (Hu.Z2 a b))) (fun x h=>hx x (List.mem_cons_of_mem _ h)) (by
      rw [List.length_append]
      split
      · simp;omega
      · simp;omega)
    refine ⟨s4',s5',?_⟩
    rw [List.map_cons,forL]
    simp only [ev_gN,List.set_cons_succ,List.set_cons_zero,hb,Res.bind_ok]
    rw [e,List.filterMap_cons]
    by_cases hc:a≠b∧(Hu.Z1 S).all (Hu.hd (Hu.Z2 a b))=true
    · rw [if_pos hc,if_pos hc]
      simp only [List.append_assoc,List.cons_append,List.nil_append]
    · rw [if_neg hc,if_neg hc]
      simp only [List.append_nil]
theorem Zy {α β : Type} (f : α → Option β) (l:List α):(l.filterMap f).length≤l.length:=List.length_filterMap_le ..
theorem Z0J {S:List Hu.Pt} (hS:∀ p∈S,Sm p) (hl:S.length≤1000) (s0:P.Slot):∀ (xs:List Hu.Pt) (L:List Hu.Ln) (s3 s4 s5:P.Slot),(∀ x∈xs,x∈S)→L.length+xs.length*1000<10000000 →
    ∃ s3' s4' s5',forL (gN 3) t2_d24 (xs.map pt) [s0,.ow (L.map lnV),.sh (.lst ((Hu.Z1 S).map pt)),s3,s4,s5] = .ok .nx [s0,.ow ((L++xs.flatMap fun a=>(Hu.Z1 S).filterMap fun b=>if a≠b∧(Hu.Z1 S).all (Hu.hd (Hu.Z2 a b)) then some (Hu.Z2 a b) else none).map lnV),.sh (.lst ((Hu.Z1 S).map pt)),s3',s4',s5']:=by
  intro xs
  induction xs with
  | nil=>intro L s3 s4 s5 _ _;exact ⟨s3,s4,s5,by simp [forL]⟩
  | cons a xs ih =>
    intro L s3 s4 s5 hx hL
    rw [List.length_cons] at hL
    have ho:=Zx S
    obtain ⟨a4,a5,e1⟩:=Z0I hS hl (hx a (by simp)) s0 (Hu.Z1 S) L s4 s5 (fun x h=>Hu.Zg.mp h) (by omega)
    have hf:=Zy (fun b=>if a≠b∧(Hu.Z1 S).all (Hu.hd (Hu.Z2 a b))=true then some (Hu.Z2 a b) else none) (Hu.Z1 S)
    obtain ⟨s3',s4',s5',e2⟩:=ih (L++(Hu.Z1 S).filterMap fun b=>if a≠b∧(Hu.Z1 S).all (Hu.hd (Hu.Z2 a b))=true then some (Hu.Z2 a b) else none) (.sh (pt a)) a4 a5 (fun x h=>hx x (List.mem_cons_of_mem _ h)) (by rw [List.length_append];omega)
    refine ⟨s3',s4',s5',?_⟩
    have hb:t2_d24 [s0,.ow (L.map lnV),.sh (.lst ((Hu.Z1 S).map pt)),.sh (pt a),s4,s5] = .ok .nx [s0,.ow ((L++(Hu.Z1 S).filterMap fun b=>if a≠b∧(Hu.Z1 S).all (Hu.hd (Hu.Z2 a b))=true then some (Hu.Z2 a b) else none).map lnV),.sh (.lst ((Hu.Z1 S).map pt)),.sh (pt a),a4,a5]:=by
      unfold t2_d24
      simp only [ev_for,ev_itn,List.getElem?_cons_succ,List.getElem?_cons_zero,Res.bind_ok]
      exact e1
    rw [List.map_cons,forL]
    simp only [ev_gN,List.set_cons_succ,List.set_cons_zero,hb,Res.bind_ok]
    rw [e2,List.flatMap_cons,List.append_assoc]
theorem Z0K {S:List Hu.Pt} {sl:P.Slot} (hs:Sl sl (S.map pt)) (hS:∀ p∈S,Sm p) (hl:S.length≤1000):m_d24 [sl] = .ret (.ow ((Hu.Zu S).map lnV)):=by
  have h1:=Z19 hs hl
  have ho:=Zx S
  obtain ⟨s3,s4,s5,e⟩:=Z0J hS hl sl (Hu.Z1 S) [] .no .no .no (fun x h=>Hu.Zg.mp h) (by simp;omega)
  have he : []++((Hu.Z1 S).flatMap fun a=>(Hu.Z1 S).filterMap fun b=>if a≠b∧(Hu.Z1 S).all (Hu.hd (Hu.Z2 a b))=true then some (Hu.Z2 a b) else none)=Hu.Zu S:=rfl
  rw [he] at e
  generalize Hu.Zu S=ed at e
  generalize (Hu.Z1 S).map pt=os at e h1
  simp only [List.map_nil] at e
  simp [m_d24,mb_d24,List.replicate,hs.lend,h1,e]
theorem Z0z (S:List Hu.Pt) (hl:S.length≤1000):(Hu.Zu S).length≤1000000:=by
  have ho:=Zx S
  have:∀ (xs:List Hu.Pt) (f:Hu.Pt→List Hu.Ln),(∀ x,(f x).length≤1000)→(xs.flatMap f).length≤xs.length*1000:=by
    intro xs f hf
    induction xs with
    | nil=>simp
    | cons x xs ih=>rw [List.flatMap_cons,List.length_append,List.length_cons];have:=hf x;omega
  refine Nat.le_trans (this (Hu.Z1 S) _ fun x=>Nat.le_trans (Zy _ _) (by omega)) (by omega)
theorem Z0L {S:List Hu.Pt} {sl:P.Slot} (hs:Sl sl (S.map pt)) (hS:∀ p∈S,Sm p) (h0:S ≠ []) (hl:S.length≤1000):m_d17 [sl] = .ret (.ow ((Hu.Zf S).map lnV)):=by
  have h1:=Z1s hs h0 hl
  have h2:=Z0K hs hS hl
  have h3:opAdd (.lst ((Hu.box S).map lnV)) (.lst ((Hu.Zu S).map lnV))=some (.ow ((Hu.Zf S).map lnV)):=by
    rw [add_l (by have:=Z0z S hl;simp [Hu.box];omega),← List.map_append]
    rfl
  simp [m_d17,mb_d17,List.replicate,hs.lend,h1,h2,h3]
theorem Z1t {S:List Hu.Pt} {l:Hu.Ln} (h:l∈Hu.Zf S) (hS:∀ p∈S,Sm p):SmL l:=by
  rcases List.mem_append.mp h with h | h
  · unfold Hu.box at h
    simp only [List.mem_cons,List.not_mem_nil,or_false] at h
    rcases h with e | e | e | e<;>subst e<;>simp only [SmL]<;>omega
  · obtain ⟨a,ha,b,hb,_,_,rfl⟩:=Hu.Z0t.mp h
    exact Z0a (hS a ha) (hS b hb)
theorem Z0l (n:Nat):rangeL 0 n 1=(List.range n).map fun (i:Nat)=>PV.int (i:Int):=by
  unfold rangeL
  refine List.map_congr_left fun i _ => ?_
  simp
theorem ZA {n:Nat} (h:n≤1000):rngF1 [.int (n:Int)]=some ((List.range n).map fun (i:Nat)=>PV.int (i:Int)):=by
  have hs:smallI (n:Int)=true:=by unfold smallI;simp;omega
  unfold rngF1
  simp [hs,Z0l]
def SlT (s:P.Slot) (ps:List PV):Prop:=s = .sh (.lst ps)∨s = .bw ps
def plB (x:Int):Bool:=decide (-1000000000≤x∧x≤1000000000)
def htB (x:Int):Bool:=decide (1≤x∧x≤1000000000)
def gdB (x:Int):Bool:=decide (0≤x∧x≤1000000000)
theorem ZG (x:Int):m_d32 [.sh (.int x)] = .ret (.sh (.bl (plB x))):=by
  unfold plB
  by_cases h1 : -1000000000≤x<;>by_cases h2:x≤1000000000<;>simp [m_d32,mb_d32,List.replicate,h1,h2]
theorem ZQ (x:Int):m_d25 [.sh (.int x)] = .ret (.sh (.bl (htB x))):=by
  unfold htB
  by_cases h1:1≤x<;>by_cases h2:x≤1000000000<;>simp [m_d25,mb_d25,List.replicate,h1,h2]
def Za:List Int→Bool
  | [p,q,h]=>plB p && plB q && htB h
  | _=>false
def Zb:List Int→Bool
  | [x,y,u,v,h]=>plB x && plB y && plB u && plB v && htB h
  | _=>false
def Z8:List Int→Bool
  | [x,y,u,v,h]=>Zb [x,y,u,v,h] && !(decide (x=u) && decide (y=v))
  | _=>false
def Z6:List Int→Bool
  | [x,y,u,v,h]=>Zb [x,y,u,v,h] && decide (x<u) && decide (y<v)
  | _=>false
def Z9:List Int→Bool
  | [a,b,c,d,e,f,g,h,i]=>plB a && plB b && gdB c && (plB d && plB e && gdB f) && (plB g && plB h && gdB i)
  | _=>false
theorem Z1u (a b c:Bool):fAll [.lst [.bl a,.bl b,.bl c]]=some (.bl (a && b && c)):=by cases a<;>cases b<;>cases c<;>rfl
theorem Z1v (a b c d:Bool):fAll [.lst [.bl a,.bl b,.bl c,.bl d]]=some (.bl (a && b && c && d)):=by cases a<;>cases b<;>cases c<;>cases d<;>rfl
theorem ZT {xs:List Int} {sl:P.Slot} (hs:SlT sl (xs.map .int)):m_d20 [sl] = .ret (.sh (.bl (Za xs))):=by
  by_cases hl:xs.length=3
  · match xs,hl with
    | [a,b,c],_ =>
      have h:Za [a,b,c]=(plB a && plB b && htB c):=rfl
      rw [h]
      rcases hs with rfl | rfl<;>cases ea:plB a<;>cases eb:plB b<;>cases ec:htB c<;>simp [m_d20,mb_d20,List.replicate,ZG,ZQ,ea,eb,ec]
  · have h:Za xs=false:=by
      unfold Za
      split
      · simp at hl
      · rfl
    rw [h]
    have hl':¬ ((xs.length:Nat):Int)=3:=by omega
    rcases hs with rfl | rfl<;>simp [m_d20,mb_d20,List.replicate,hl']
theorem Z0b {xs:List Int} {sl:P.Slot} (hs:SlT sl (xs.map .int)):m_d12 [sl] = .ret (.sh (.bl (Zb xs))):=by
  by_cases hl:xs.length=5
  · match xs,hl with
    | [a,b,c,d,e],_ =>
      have h:Zb [a,b,c,d,e]=(plB a && plB b && plB c && plB d && htB e):=rfl
      rw [h]
      have hc:cutP ([.int a,.int b,.int c,.int d,.int e]:List PV) none (some 4) = [.int a,.int b,.int c,.int d]:=rfl
      have hb:=Z1v (plB a) (plB b) (plB c) (plB d)
      rcases hs with rfl | rfl<;>cases ea:(plB a && plB b && plB c && plB d)<;>cases ec:htB e<;>rw [ea] at hb<;>simp [m_d12,mb_d12,List.replicate,ZG,ZQ,hc,compL,hb,ec]
  · have h:Zb xs=false:=by
      unfold Zb
      split
      · simp at hl
      · rfl
    rw [h]
    have hl':¬ ((xs.length:Nat):Int)=5:=by omega
    rcases hs with rfl | rfl<;>simp [m_d12,mb_d12,List.replicate,hl']
theorem Z1w (a b c d:Int):opNe (.lst [.int a,.int b]) (.lst [.int c,.int d])=some (.bl (!(decide (a=c) && decide (b=d)))):=by
  have h:eqB (.lst [.int a,.int b]) (.lst [.int c,.int d])=(decide (a=c) && decide (b=d)):=by
    simp [eqB,eqBL]
    rw [Bool.eq_iff_iff]
    simp
  unfold opNe eqOk
  rw [h]
  simp [dOk,dOkL,dep,depL]
theorem Z17 {xs:List Int} (hl:¬ xs.length=5):Zb xs=false:=by
  unfold Zb
  split
  · simp at hl
  · rfl
theorem Z0m {s:P.Slot} {ps:List PV} (h:SlT s ps):lendS s=some s:=by rcases h with rfl | rfl<;>rfl
theorem Z0M {xs:List Int} {sl:P.Slot} (hs:SlT sl (xs.map .int)):m_d19 [sl] = .ret (.sh (.bl (Z8 xs))):=by
  have he:=Z0b hs
  by_cases hl:xs.length=5
  · match xs,hl with
    | [a,b,c,d,e],_ =>
      have h:Z8 [a,b,c,d,e]=(Zb [a,b,c,d,e] && !(decide (a=c) && decide (b=d))):=rfl
      rw [h]
      have h1:cutP ([.int a,.int b,.int c,.int d,.int e]:List PV) none (some 2) = [.int a,.int b]:=rfl
      have h2:cutP ([.int a,.int b,.int c,.int d,.int e]:List PV) (some 2) (some 4) = [.int c,.int d]:=rfl
      have h3:=Z1w a b c d
      generalize Zb [a,b,c,d,e]=q at *
      generalize (!(decide (a=c) && decide (b=d)))=r at *
      rcases hs with rfl | rfl<;>cases q<;>simp_all [m_d19,mb_d19,List.replicate]
  · have h:Z8 xs=false:=by
      unfold Z8
      split
      · simp at hl
      · rfl
    rw [h]
    rw [Z17 hl] at he
    simp [m_d19,mb_d19,List.replicate,Z0m hs,he]
theorem Z1a {xs:List Int} {sl:P.Slot} (hs:SlT sl (xs.map .int)):m_d0 [sl] = .ret (.sh (.bl (Z6 xs))):=by
  have he:=Z0b hs
  by_cases hl:xs.length=5
  · match xs,hl with
    | [a,b,c,d,e],_ =>
      have h:Z6 [a,b,c,d,e]=(Zb [a,b,c,d,e] && decide (a<c) && decide (b<d)):=rfl
      rw [h]
      generalize Zb [a,b,c,d,e]=q at *
      rcases hs with rfl | rfl<;>simp only [List.map_cons,List.map_nil] at he<;>cases q<;>by_cases h1:a<c<;>by_cases h2:b<d<;>simp [m_d0,mb_d0,List.replicate,he,h1,h2]
  · have h:Z6 xs=false:=by
      unfold Z6
      split
      · simp at hl
      · rfl
    rw [h]
    rw [Z17 hl] at he
    simp [m_d0,mb_d0,List.replicate,Z0m hs,he]
theorem ZB (a b c:Int):m_d1 [.sh (.lst [.int a,.int b,.int c])] = .ret (.sh (.bl (plB a && plB b && gdB c))):=by
  unfold gdB
  cases ea:plB a<;>cases eb:plB b<;>by_cases h1:0≤c<;>by_cases h2:c≤1000000000<;>simp [m_d1,mb_d1,List.replicate,ZG,ea,eb,h1,h2]
theorem Z0N {xs:List Int} {sl:P.Slot} (hs:SlT sl (xs.map .int)):m_d18 [sl] = .ret (.sh (.bl (Z9 xs))):=by
  by_cases hl:xs.length=9
  · match xs,hl with
    | [a,b,c,d,e,f,g,h,i],_ =>
      have hc:Z9 [a,b,c,d,e,f,g,h,i]=((plB a && plB b && gdB c) && (plB d && plB e && gdB f) && (plB g && plB h && gdB i)):=rfl
      rw [hc]
      have h1:cutP ([.int a,.int b,.int c,.int d,.int e,.int f,.int g,.int h,.int i]:List PV) (some 0) (some 3) = [.int a,.int b,.int c]:=rfl
      have h2:cutP ([.int a,.int b,.int c,.int d,.int e,.int f,.int g,.int h,.int i]:List PV) (some 3) (some 6) = [.int d,.int e,.int f]:=rfl
      have h3:cutP ([.int a,.int b,.int c,.int d,.int e,.int f,.int g,.int h,.int i]:List PV) (some 6) (some 9) = [.int g,.int h,.int i]:=rfl
      have hb:=Z1u (plB a && plB b && gdB c) (plB d && plB e && gdB f) (plB g && plB h && gdB i)
      have k1:=ZB a b c
      have k2:=ZB d e f
      have k3:=ZB g h i
      generalize (plB a && plB b && gdB c)=q1 at *
      generalize (plB d && plB e && gdB f)=q2 at *
      generalize (plB g && plB h && gdB i)=q3 at *
      rcases hs with rfl | rfl<;>simp [m_d18,mb_d18,List.replicate,compL,h1,h2,h3,k1,k2,k3,hb]
  · have h:Z9 xs=false:=by
      unfold Z9
      split
      · simp at hl
      · rfl
    rw [h]
    have hl':¬ ((xs.length:Nat):Int)=9:=by omega
    rcases hs with rfl | rfl<;>simp [m_d18,mb_d18,List.replicate,hl']
def Zd (w:Str):String:=if w = "post" then "Post" else if w = "fence" then "Fence" else if w = "sail" then "Sail" else if w = "cloth" then "Cloth" else "House"
def Z4 (C:String) (w:Str) (xs:List Int):PV:=.ins C ["word", "numbers"] [.str w,.lst (xs.map .int)]
def Z5 (w:Str) (xs:List Int):Bool:=if w = "post" then Za xs else if w = "fence" then Z8 xs else if w = "sail" then Z6 xs else if w = "cloth" then Z9 xs else if w = "house" then Z6 xs else false
theorem wn:((Str.ofString "word")=(Str.ofString "numbers"))=False:=eq_false (by decide +kernel)
theorem Zv {C:String} (hC:(["Thing", "Post", "Fence", "Sail", "Cloth", "House"]:List String).contains C=true) (w:Str) {xs:List Int} {sl:P.Slot} (hs:SlT sl (xs.map .int)):mInit 3 3 C mb_d3 [.sh (.str w),sl] = .ok ["word", "numbers"] [.str w,.lst (xs.map .int)]:=by
  rcases hs with rfl | rfl<;>simp [mInit,mb_d3,mPutF,IR.of,List.replicate,putN,putP,hC,wn,-List.contains_eq_mem,-List.contains_cons]
theorem s1:PyData.strOk (Str.ofString "post")=true:=by decide +kernel
theorem s2:PyData.strOk (Str.ofString "fence")=true:=by decide +kernel
theorem s3:PyData.strOk (Str.ofString "sail")=true:=by decide +kernel
theorem s4:PyData.strOk (Str.ofString "cloth")=true:=by decide +kernel
theorem s5:PyData.strOk (Str.ofString "house")=true:=by decide +kernel
theorem d12:(Str.ofString "post" = Str.ofString "fence")=False:=eq_false (by decide +kernel)
theorem d13:(Str.ofString "post" = Str.ofString "sail")=False:=eq_false (by decide +kernel)
theorem d14:(Str.ofString "post" = Str.ofString "cloth")=False:=eq_false (by decide +kernel)
theorem d15:(Str.ofString "post" = Str.ofString "house")=False:=eq_false (by decide +kernel)
theorem d23:(Str.ofString "fence" = Str.ofString "sail")=False:=eq_false (by decide +kernel)
theorem d24:(Str.ofString "fence" = Str.ofString "cloth")=False:=eq_false (by decide +kernel)
theorem d25:(Str.ofString "fence" = Str.ofString "house")=False:=eq_false (by decide +kernel)
theorem d34:(Str.ofString "sail" = Str.ofString "cloth")=False:=eq_false (by decide +kernel)
theorem d35:(Str.ofString "sail" = Str.ofString "house")=False:=eq_false (by decide +kernel)
theorem d45:(Str.ofString "cloth" = Str.ofString "house")=False:=eq_false (by decide +kernel)
theorem Z0O {w:Str} (hw:PyData.strOk w=true) {xs:List Int} {sl:P.Slot} (hs:SlT sl (xs.map .int)):m_d33 [.sh (.str w),sl]=if Z5 w xs=true then .ret (.sh (Z4 (Zd w) w xs)) else .exc ⟨"BadThing",[],[]⟩:=by
  have e1:=opEq_str hw s1
  have e2:=opEq_str hw s2
  have e3:=opEq_str hw s3
  have e4:=opEq_str hw s4
  have e5:=opEq_str hw s5
  have p1:=ZT hs
  have p2:=Z0M hs
  have p3:=Z1a hs
  have p4:=Z0N hs
  have i1:mi_Post [.sh (.str w),sl]=_:=Zv (by decide) w hs
  have i2:mi_Fence [.sh (.str w),sl]=_:=Zv (by decide) w hs
  have i3:mi_Sail [.sh (.str w),sl]=_:=Zv (by decide) w hs
  have i4:mi_Cloth [.sh (.str w),sl]=_:=Zv (by decide) w hs
  have i5:mi_House [.sh (.str w),sl]=_:=Zv (by decide) w hs
  have hle:=Z0m hs
  unfold Z5 Zd Z4
  by_cases h1:w=Str.ofString "post"
  · have n2:¬ w=Str.ofString "fence" := fun z=>(d12 ▸ (h1.symm.trans z):False)
    have n3:¬ w=Str.ofString "sail" := fun z=>(d13 ▸ (h1.symm.trans z):False)
    have n4:¬ w=Str.ofString "cloth" := fun z=>(d14 ▸ (h1.symm.trans z):False)
    have n5:¬ w=Str.ofString "house" := fun z=>(d15 ▸ (h1.symm.trans z):False)
    rw [decide_eq_true h1] at e1
    rw [decide_eq_false n2] at e2
    rw [decide_eq_false n3] at e3
    rw [decide_eq_false n4] at e4
    rw [decide_eq_false n5] at e5
    have hg:(if w=Str.ofString "post" then Za xs else if w=Str.ofString "fence" then Z8 xs else if w=Str.ofString "sail" then Z6 xs else if w=Str.ofString "cloth" then Z9 xs else if w=Str.ofString "house" then Z6 xs else false)=Za xs:=by rw [if_pos h1]
    have hc:(if w=Str.ofString "post" then "Post" else if w=Str.ofString "fence" then "Fence" else if w=Str.ofString "sail" then "Sail" else if w=Str.ofString "cloth" then "Cloth" else "House") = "Post" := by rw [if_pos h1]
    rw [hg,hc]
    cases q:Za xs<;>rw [q] at p1<;>simp [m_d33,mb_d33,mMake,List.replicate,e1,e2,e3,e4,e5,hle,p1,i1]
  · skip
    by_cases h2:w=Str.ofString "fence"
    · have n1:=h1
      have n3:¬ w=Str.ofString "sail" := fun z=>(d23 ▸ (h2.symm.trans z):False)
      have n4:¬ w=Str.ofString "cloth" := fun z=>(d24 ▸ (h2.symm.trans z):False)
      have n5:¬ w=Str.ofString "house" := fun z=>(d25 ▸ (h2.symm.trans z):False)
      rw [decide_eq_true h2] at e2
      rw [decide_eq_false n1] at e1
      rw [decide_eq_false n3] at e3
      rw [decide_eq_false n4] at e4
      rw [decide_eq_false n5] at e5
      have hg:(if w=Str.ofString "post" then Za xs else if w=Str.ofString "fence" then Z8 xs else if w=Str.ofString "sail" then Z6 xs else if w=Str.ofString "cloth" then Z9 xs else if w=Str.ofString "house" then Z6 xs else false)=Z8 xs:=by rw [if_neg n1,if_pos h2]
      have hc:(if w=Str.ofString "post" then "Post" else if w=Str.ofString "fence" then "Fence" else if w=Str.ofString "sail" then "Sail" else if w=Str.ofString "cloth" then "Cloth" else "House") = "Fence" := by rw [if_neg n1,if_pos h2]
      rw [hg,hc]
      cases q:Z8 xs<;>rw [q] at p2<;>simp [m_d33,mb_d33,mMake,List.replicate,e1,e2,e3,e4,e5,hle,p2,i2]
    · skip
      by_cases h3:w=Str.ofString "sail"
      · have n1:=h1
        have n2:=h2
        have n4:¬ w=Str.ofString "cloth" := fun z=>(d34 ▸ (h3.symm.trans z):False)
        have n5:¬ w=Str.ofString "house" := fun z=>(d35 ▸ (h3.symm.trans z):False)
        rw [decide_eq_true h3] at e3
        rw [decide_eq_false n1] at e1
        rw [decide_eq_false n2] at e2
        rw [decide_eq_false n4] at e4
        rw [decide_eq_false n5] at e5
        have hg:(if w=Str.ofString "post" then Za xs else if w=Str.ofString "fence" then Z8 xs else if w=Str.ofString "sail" then Z6 xs else if w=Str.ofString "cloth" then Z9 xs else if w=Str.ofString "house" then Z6 xs else false)=Z6 xs:=by rw [if_neg n1,if_neg n2,if_pos h3]
        have hc:(if w=Str.ofString "post" then "Post" else if w=Str.ofString "fence" then "Fence" else if w=Str.ofString "sail" then "Sail" else if w=Str.ofString "cloth" then "Cloth" else "House") = "Sail" := by rw [if_neg n1,if_neg n2,if_pos h3]
        rw [hg,hc]
        cases q:Z6 xs<;>rw [q] at p3<;>simp [m_d33,mb_d33,mMake,List.replicate,e1,e2,e3,e4,e5,hle,p3,i3]
      · skip
        by_cases h4:w=Str.ofString "cloth"
        · have n1:=h1
          have n2:=h2
          have n3:=h3
          have n5:¬ w=Str.ofString "house" := fun z=>(d45 ▸ (h4.symm.trans z):False)
          rw [decide_eq_true h4] at e4
          rw [decide_eq_false n1] at e1
          rw [decide_eq_false n2] at e2
          rw [decide_eq_false n3] at e3
          rw [decide_eq_false n5] at e5
          have hg:(if w=Str.ofString "post" then Za xs else if w=Str.ofString "fence" then Z8 xs else if w=Str.ofString "sail" then Z6 xs else if w=Str.ofString "cloth" then Z9 xs else if w=Str.ofString "house" then Z6 xs else false)=Z9 xs:=by rw [if_neg n1,if_neg n2,if_neg n3,if_pos h4]
          have hc:(if w=Str.ofString "post" then "Post" else if w=Str.ofString "fence" then "Fence" else if w=Str.ofString "sail" then "Sail" else if w=Str.ofString "cloth" then "Cloth" else "House") = "Cloth" := by rw [if_neg n1,if_neg n2,if_neg n3,if_pos h4]
          rw [hg,hc]
          cases q:Z9 xs<;>rw [q] at p4<;>simp [m_d33,mb_d33,mMake,List.replicate,e1,e2,e3,e4,e5,hle,p4,i4]
        · skip
          by_cases h5:w=Str.ofString "house"
          · have n1:=h1
            have n2:=h2
            have n3:=h3
            have n4:=h4
            rw [decide_eq_true h5] at e5
            rw [decide_eq_false n1] at e1
            rw [decide_eq_false n2] at e2
            rw [decide_eq_false n3] at e3
            rw [decide_eq_false n4] at e4
            have hg:(if w=Str.ofString "post" then Za xs else if w=Str.ofString "fence" then Z8 xs else if w=Str.ofString "sail" then Z6 xs else if w=Str.ofString "cloth" then Z9 xs else if w=Str.ofString "house" then Z6 xs else false)=Z6 xs:=by rw [if_neg n1,if_neg n2,if_neg n3,if_neg n4,if_pos h5]
            have hc:(if w=Str.ofString "post" then "Post" else if w=Str.ofString "fence" then "Fence" else if w=Str.ofString "sail" then "Sail" else if w=Str.ofString "cloth" then "Cloth" else "House") = "House" := by rw [if_neg n1,if_neg n2,if_neg n3,if_neg n4]
            rw [hg,hc]
            cases q:Z6 xs<;>rw [q] at p3<;>simp [m_d33,mb_d33,mMake,List.replicate,e1,e2,e3,e4,e5,hle,p3,i5]
          · skip
            rw [decide_eq_false h1] at e1
            rw [decide_eq_false h2] at e2
            rw [decide_eq_false h3] at e3
            rw [decide_eq_false h4] at e4
            rw [decide_eq_false h5] at e5
            rw [if_neg h1,if_neg h2,if_neg h3,if_neg h4,if_neg h5]
            simp [m_d33,mb_d33,mMake,List.replicate,e1,e2,e3,e4,e5]
abbrev P3:=Int×Int×Int
def c3 (p:P3):PV:=.tup [.int p.1,.int p.2.1,.int p.2.2]
def Zp (x y u v z:Int):List P3:=[(x,y,z),(u,y,z),(u,v,z),(x,v,z)]
def ZF (x y u v h:Int):List P3:=Zp x y u v 0++Zp x y u v h
def Z3 (C:String) (xs:List Int):List P3 :=
  if C = "Post" then (match xs with
    | [p,q,h]=>ZF (2*p-1) (2*q-1) (2*p+1) (2*q+1) h
    | _ => [])
  else if C = "Fence" then (match xs with
    | [x,y,u,v,h] => [(x,y,0),(u,v,0),(u,v,h),(x,y,h)]
    | _ => [])
  else if C = "Sail" then (match xs with
    | [x,y,u,v,h]=>Zp x y u v h
    | _ => [])
  else if C = "Cloth" then (match xs with
    | [a,b,c,d,e,f,g,h,i] => [(a,b,c),(d,e,f),(g,h,i)]
    | _ => [])
  else (match xs with
    | [x,y,u,v,h]=>ZF x y u v h
    | _ => [])
def Ze (w:Str) (xs:List Int):List P3:=Z3 (Zd w) xs
theorem ZC {C:String} (hC:(["Thing", "Post", "Fence", "Sail", "Cloth", "House"]:List String).contains C=true) (w:Str) (xs:List Int):fldF ["Thing", "Post", "Fence", "Sail", "Cloth", "House"] (Str.ofString "numbers") (Z4 C w xs)=some (.lst (xs.map .int)):=by
  unfold fldF Z4
  dsimp only
  rw [if_pos hC]
  have:(Str.ofString "numbers" == Str.ofString "word")=false:=by decide +kernel
  show List.lookup _ [(_,_),(_,_)]=_
  rw [List.lookup_cons,this]
  simp
theorem ZW (x y u v z:Int):m_d6 [.sh (.int x),.sh (.int y),.sh (.int u),.sh (.int v),.sh (.int z)] = .ret (.ow ((Zp x y u v z).map c3)):=by
  simp [m_d6,mb_d6,List.replicate,Zp,c3]
theorem ZX (x y u v h:Int):m_d4 [.sh (.int x),.sh (.int y),.sh (.int u),.sh (.int v),.sh (.int h)] = .ret (.ow ((ZF x y u v h).map c3)):=by
  simp [m_d4,mb_d4,List.replicate,ZW,ZF,Zp,add_l]
theorem Z1x {xs:List Int} (h:Za xs=true) (w:Str):m_d14 [.sh (Z4 "Post" w xs)] = .ret (.ow ((Z3 "Post" xs).map c3)):=by
  match xs,h with
  | [p,q,h],hh =>
    simp [Za,plB,htB] at hh
    have hf:=ZC (C := "Post") (by decide) w [p,q,h]
    generalize Z4 "Post" w [p,q,h]=v at *
    have e:=ZX (2*p-1) (2*q-1) (2*p+1) (2*q+1) h
    simp [m_d14,mb_d14,List.replicate,hf,e,Z3]
theorem Z1b {xs:List Int} (h:Z8 xs=true) (w:Str):m_d5 [.sh (Z4 "Fence" w xs)] = .ret (.ow ((Z3 "Fence" xs).map c3)):=by
  match xs,h with
  | [x,y,u,v,h],hh =>
    have hf:=ZC (C := "Fence") (by decide) w [x,y,u,v,h]
    generalize Z4 "Fence" w [x,y,u,v,h]=t at *
    simp [m_d5,mb_d5,List.replicate,hf,Z3,c3,opAdd]
theorem Z1y {xs:List Int} (h:Z6 xs=true) (w:Str):m_d11 [.sh (Z4 "Sail" w xs)] = .ret (.ow ((Z3 "Sail" xs).map c3)):=by
  match xs,h with
  | [x,y,u,v,h],hh =>
    have hf:=ZC (C := "Sail") (by decide) w [x,y,u,v,h]
    generalize Z4 "Sail" w [x,y,u,v,h]=t at *
    have e:=ZW x y u v h
    simp [m_d11,mb_d11,List.replicate,hf,e,Z3]
theorem Z1c {xs:List Int} (h:Z6 xs=true) (w:Str):m_d9 [.sh (Z4 "House" w xs)] = .ret (.ow ((Z3 "House" xs).map c3)):=by
  match xs,h with
  | [x,y,u,v,h],hh =>
    have hf:=ZC (C := "House") (by decide) w [x,y,u,v,h]
    generalize Z4 "House" w [x,y,u,v,h]=t at *
    have e:=ZX x y u v h
    simp [m_d9,mb_d9,List.replicate,hf,e,Z3]
theorem Z1d {xs:List Int} (h:Z9 xs=true) (w:Str):m_d7 [.sh (Z4 "Cloth" w xs)] = .ret (.ow ((Z3 "Cloth" xs).map c3)):=by
  match xs,h with
  | [a,b,c,d,e,f,g,i,j],hh =>
    have hf:=ZC (C := "Cloth") (by decide) w [a,b,c,d,e,f,g,i,j]
    generalize Z4 "Cloth" w [a,b,c,d,e,f,g,i,j]=t at *
    simp [m_d7,mb_d7,List.replicate,hf,Z3,c3,compL,slF,cutP]
    exact ⟨rfl,rfl,rfl⟩
def cst (r p:P3):Hu.Pt:=(r.2.2*p.1+r.1*p.2.2,r.2.2*p.2.1+r.2.1*p.2.2)
def RB (r:P3):Prop:=-1000000≤r.1∧r.1≤1000000 ∧ -1000000≤r.2.1∧r.2.1≤1000000 ∧ -1000000≤r.2.2∧r.2.2≤1000000
def PB (p:P3):Prop:=-10000000000≤p.1∧p.1≤10000000000 ∧ -10000000000≤p.2.1∧p.2.1≤10000000000 ∧ -10000000000≤p.2.2∧p.2.2≤10000000000
theorem Z1e {r:P3} (hr:RB r) (p:P3):m_d43 [.sh (c3 p),.sh (c3 r)] = .ret (.sh (pt (cst r p))):=by
  obtain ⟨a1,a2,a3,a4,a5,a6⟩:=hr
  have m1:mulOk r.2.2 p.1=true:=mul_l (by omega) (by omega)
  have m2:mulOk r.2.2 p.2.1=true:=mul_l (by omega) (by omega)
  have m3:mulOk r.1 p.2.2=true:=mul_l (by omega) (by omega)
  have m4:mulOk r.2.1 p.2.2=true:=mul_l (by omega) (by omega)
  simp [m_d43,mb_d43,List.replicate,pt,c3,cst,m1,m2,m3,m4]
theorem ZJ {x y A B:Int} (h1 : -A≤x) (h2:x≤A) (h3 : -B≤y) (h4:y≤B) : -(A*B)≤x*y∧x*y≤A*B:=by
  have hA:0≤A:=by omega
  have hB:0≤B:=by omega
  have e:(x*y).natAbs≤A.natAbs*B.natAbs:=by
    rw [Int.natAbs_mul]
    exact Nat.mul_le_mul (by omega) (by omega)
  have e2:((A*B).natAbs)=A.natAbs*B.natAbs:=Int.natAbs_mul A B
  have e3:0≤A*B:=Int.mul_nonneg hA hB
  omega
theorem Z1z {r p:P3} (hr:RB r) (hp:PB p):Sm (cst r p):=by
  obtain ⟨a1,a2,a3,a4,a5,a6⟩:=hr
  obtain ⟨b1,b2,b3,b4,b5,b6⟩:=hp
  have q1:=ZJ a5 a6 b1 b2
  have q2:=ZJ a5 a6 b3 b4
  have q3:=ZJ a1 a2 b5 b6
  have q4:=ZJ a3 a4 b5 b6
  simp only [Sm,cst]
  omega
theorem Z0A {w:Str} {xs:List Int} (hg:Z5 w xs=true) {mo:M PV} {ρ ρ1:List P.Slot} (ho:mo ρ = .ok (Z4 (Zd w) w xs) ρ1):mMeth (Str.ofString "corners") [("Post",m_d14),("Fence",m_d5),("Sail",m_d11),("Cloth",m_d7),("House",m_d9)] mo mANil ρ = .ok (.ow ((Ze w xs).map c3)) ρ1:=by
  have hn:(["word", "numbers"]:List Str).contains (Str.ofString "corners")=false:=by decide +kernel
  have key:∀ (C:String) (mf:MF),Zd w=C→List.lookup C [("Post",m_d14),("Fence",m_d5),("Sail",m_d11),("Cloth",m_d7),("House",m_d9)]=some mf→mf [.sh (Z4 C w xs)] = .ret (.ow ((Z3 C xs).map c3))→mMeth (Str.ofString "corners") [("Post",m_d14),("Fence",m_d5),("Sail",m_d11),("Cloth",m_d7),("House",m_d9)] mo mANil ρ = .ok (.ow ((Ze w xs).map c3)) ρ1:=by
    intro C mf hC hl hf
    unfold Ze
    rw [hC] at ho ⊢
    unfold mMeth
    rw [ho]
    unfold Z4 at *
    simp only [Res.bind]
    rw [hl]
    dsimp only
    rw [if_neg (by rw [hn];decide)]
    simp only [mANil,Res.bind]
    rw [hf]
  unfold Z5 at hg
  by_cases e1:w = "post"
  · rw [if_pos e1] at hg
    exact key "Post" _ (by unfold Zd;rw [if_pos e1]) rfl (Z1x hg w)
  rw [if_neg e1] at hg
  by_cases e2:w = "fence"
  · rw [if_pos e2] at hg
    exact key "Fence" _ (by unfold Zd;rw [if_neg e1,if_pos e2]) rfl (Z1b hg w)
  rw [if_neg e2] at hg
  by_cases e3:w = "sail"
  · rw [if_pos e3] at hg
    exact key "Sail" _ (by unfold Zd;rw [if_neg e1,if_neg e2,if_pos e3]) rfl (Z1y hg w)
  rw [if_neg e3] at hg
  by_cases e4:w = "cloth"
  · rw [if_pos e4] at hg
    exact key "Cloth" _ (by unfold Zd;rw [if_neg e1,if_neg e2,if_neg e3,if_pos e4]) rfl (Z1d hg w)
  rw [if_neg e4] at hg
  by_cases e5:w = "house"
  · rw [if_pos e5] at hg
    exact key "House" _ (by unfold Zd;rw [if_neg e1,if_neg e2,if_neg e3,if_neg e4]) rfl (Z1c hg w)
  · rw [if_neg e5] at hg
    cases hg
theorem Z0n {r:P3} (hr:RB r) {L:List P3} (hl:L.length≤100) (s1:P.Slot):compL (gN 1) mYes (mVal (mCall m_d43 (mAName 1 (mAName 0 mANil)))) (L.map c3) [.sh (c3 r),s1] []=some ((L.map (cst r)).map pt):=by
  have:=compL_map (g:=gN 1) (mt:=mYes) (me:=mVal (mCall m_d43 (mAName 1 (mAName 0 mANil)))) c3 (fun p=>pt (cst r p)) (fun ρ => ∃ s,ρ = [.sh (c3 r),s]) L [.sh (c3 r),s1] [] ⟨_,rfl⟩ (by simp;omega) (by
    rintro p hp ρ ⟨s,rfl⟩
    have e:=Z1e hr p
    generalize c3 r=R at *
    generalize c3 p=Q at *
    exact ⟨[R |> .sh,.sh Q],[.sh R,.sh Q],[.sh R,.sh Q],by simp,by simp,by simp [e],_,rfl⟩)
  rw [this]
  simp
theorem Z0P {w:Str} {xs:List Int} (hg:Z5 w xs=true) (hl:(Ze w xs).length≤100) {r:P3} (hr:RB r):m_d10 [.sh (Z4 (Zd w) w xs),.sh (c3 r)] = .ret (.ow (((Ze w xs).map (cst r)).map pt)):=by
  have h1:=Z0A hg (mo:=mVarV 0) (ρ := [.sh (Z4 (Zd w) w xs),.sh (c3 r)]) (ρ1:=[.sh (Z4 (Zd w) w xs),.sh (c3 r)]) (by simp)
  have h2:=Z0n hr hl
  generalize ((Ze w xs).map (cst r)).map pt=Y at *
  generalize (Ze w xs).map c3=Z at *
  generalize Z4 (Zd w) w xs=v at *
  generalize c3 r=R at *
  simp [m_d10,mb_d10,List.replicate,h1,h2,-ev_meth]
def sto (s:Hu.Pt):P3:=(2*s.1,2*s.2,0)
theorem Z0Q {w:Str} {xs:List Int} (hg:Z5 w xs=true):(Ze w xs).length≤8∧Ze w xs ≠ []∧∀ p∈Ze w xs,PB p:=by
  have hp:Za xs=true→(Z3 "Post" xs).length≤8∧Z3 "Post" xs ≠ []∧∀ p∈Z3 "Post" xs,PB p:=by
    intro h
    match xs,h with
    | [a,b,c],h =>
      simp [Za,plB,htB] at h
      simp [Z3,ZF,Zp,PB]
      omega
  have hf:Z8 xs=true→(Z3 "Fence" xs).length≤8∧Z3 "Fence" xs ≠ []∧∀ p∈Z3 "Fence" xs,PB p:=by
    intro h
    match xs,h with
    | [a,b,c,d,e],h =>
      simp [Z8,Zb,plB,htB] at h
      simp [Z3,PB]
      omega
  have hs:Z6 xs=true→(Z3 "Sail" xs).length≤8∧Z3 "Sail" xs ≠ []∧∀ p∈Z3 "Sail" xs,PB p:=by
    intro h
    match xs,h with
    | [a,b,c,d,e],h =>
      simp [Z6,Zb,plB,htB] at h
      simp [Z3,Zp,PB]
      omega
  have hh:Z6 xs=true→(Z3 "House" xs).length≤8∧Z3 "House" xs ≠ []∧∀ p∈Z3 "House" xs,PB p:=by
    intro h
    match xs,h with
    | [a,b,c,d,e],h =>
      simp [Z6,Zb,plB,htB] at h
      simp [Z3,ZF,Zp,PB]
      omega
  have hc:Z9 xs=true→(Z3 "Cloth" xs).length≤8∧Z3 "Cloth" xs ≠ []∧∀ p∈Z3 "Cloth" xs,PB p:=by
    intro h
    match xs,h with
    | [a,b,c,d,e,f,g,i,j],h =>
      simp [Z9,plB,gdB] at h
      simp [Z3,PB]
      omega
  unfold Z5 at hg
  unfold Ze Zd
  by_cases e1:w = "post"
  · rw [if_pos e1] at hg ⊢;exact hp hg
  rw [if_neg e1] at hg ⊢
  by_cases e2:w = "fence"
  · rw [if_pos e2] at hg ⊢;exact hf hg
  rw [if_neg e2] at hg ⊢
  by_cases e3:w = "sail"
  · rw [if_pos e3] at hg ⊢;exact hs hg
  rw [if_neg e3] at hg ⊢
  by_cases e4:w = "cloth"
  · rw [if_pos e4] at hg ⊢;exact hc hg
  rw [if_neg e4] at hg ⊢
  by_cases e5:w = "house"
  · rw [if_pos e5] at hg;exact hh hg
  · rw [if_neg e5] at hg;cases hg
def shB (w:Str) (xs:List Int) (s:Hu.Pt) (r:P3):Bool:=(Hu.Z0j ((Ze w xs).map (cst r)) (cst r (sto s))).isNone
theorem ZY (b:Nat):Builtin.bitNot (b:Int) = -(b:Int)-1:=rfl
theorem ZZ (a b:Nat):Builtin.bitOr a b=((a ||| b:Nat):Int):=by
  unfold Builtin.bitOr Builtin.bitAnd
  rw [ZY,ZY]
  have h1:decide (0 ≤ -(a:Int)-1)=false:=by simp;omega
  have h2:decide (0 ≤ -(b:Int)-1)=false:=by simp;omega
  rw [h1,h2]
  have e1:(Builtin.bitNot (-(a:Int)-1)).toNat=a:=by unfold Builtin.bitNot;omega
  have e2:(Builtin.bitNot (-(b:Int)-1)).toNat=b:=by unfold Builtin.bitNot;omega
  simp only [e1,e2]
  unfold Builtin.bitNot
  omega
theorem Z0R (a b:Nat):Builtin.bitAnd a (Builtin.bitNot (b:Int))=((a-(a &&& b):Nat):Int):=by
  unfold Builtin.bitAnd
  rw [ZY]
  have h1:decide (0≤(a:Int))=true:=by simp
  have h2:decide (0 ≤ -(b:Int)-1)=false:=by simp;omega
  rw [h1,h2]
  have e2:(Builtin.bitNot (-(b:Int)-1)).toNat=b:=by unfold Builtin.bitNot;omega
  simp only [e2,Int.toNat_natCast]
  have:=@Nat.and_le_left a b
  omega
theorem Z0S:∀ (a b:Nat),a-(a &&& b)=a ^^^ (a &&& b):=by
  intro a
  induction a using Nat.strongRecOn with
  | _ a ih =>
    intro b
    by_cases h:a=0
    · subst h;simp
    · have hd:=ih (a / 2) (by omega) (b / 2)
      have e1:(a &&& b) / 2=a / 2 &&& b / 2:=by rw [Nat.and_div_two]
      have e2:(a &&& b) % 2=(a % 2) &&& (b % 2):=by
        have:=@Nat.and_mod_two_pow a b 1
        simpa using this
      have e3:(a ^^^ (a &&& b)) / 2=a / 2 ^^^ (a / 2 &&& b / 2):=by rw [Nat.xor_div_two,Nat.and_div_two]
      have e4:(a ^^^ (a &&& b)) % 2=(a % 2) ^^^ ((a % 2) &&& (b % 2)):=by
        have:=@Nat.xor_mod_two_pow a (a &&& b) 1
        simp only [Nat.pow_one] at this
        rw [this,e2]
      rw [← e1] at hd e3
      have hle:=@Nat.and_le_left a b
      generalize (a &&& b)=m at *
      generalize a ^^^ m=x at *
      rw [← hd] at e3
      have ha:a % 2=0∨a % 2=1:=by omega
      have hb:b % 2=0∨b % 2=1:=by omega
      have hle2:m / 2≤a / 2:=by omega
      rcases ha with ha | ha<;>rcases hb with hb | hb<;>rw [ha,hb] at e2 e4<;>simp at e2 e4<;>omega
theorem Z00 (a b k:Nat):(a-(a &&& b)).testBit k=(a.testBit k && !b.testBit k):=by
  rw [Z0S,Nat.testBit_xor,Nat.testBit_and]
  cases a.testBit k<;>cases b.testBit k<;>rfl
theorem Z1f (a k:Nat):(a:Int) / 2 ^ k=((a >>> k:Nat):Int):=by
  rw [Nat.shiftRight_eq_div_pow]
  simp
theorem Z0c (a k:Nat):(a:Int) / 2 ^ k % 2=if a.testBit k then 1 else 0:=by
  rw [Z1f]
  have:(a >>> k) % 2=if a.testBit k then 1 else 0:=by
    rw [Nat.testBit]
    have h:1 &&& (a >>> k)=(a >>> k) % 2:=by rw [Nat.and_comm];exact Nat.and_one_is_mod _
    rw [h]
    have:(a >>> k) % 2=0∨(a >>> k) % 2=1:=by omega
    rcases this with e | e<;>simp [e]
  by_cases q:a.testBit k=true
  · rw [if_pos q] at this ⊢;omega
  · rw [if_neg q] at this ⊢;omega
theorem Z1I (a:Int):Builtin.bitAnd a 1=a % 2:=PyProof.Rows.bitAnd_m1 a
theorem Z0T (f l k:Nat) (h:f≤l):(2 ^ (l+1)-2 ^ f).testBit k=(decide (f≤k) && decide (k≤l)):=by
  have e:2 ^ (l+1)-2 ^ f=(2 ^ (l+1-f)-1)*2 ^ f:=by
    rw [Nat.sub_mul,← Nat.pow_add,Nat.one_mul]
    congr 2
    omega
  rw [e,Nat.testBit_mul_two_pow,Nat.testBit_two_pow_sub_one]
  by_cases h1:f≤k
  · simp [h1]
    by_cases h2:k≤l
    · simp [h2];omega
    · simp [h2];omega
  · simp [h1]
theorem Z0o {a n:Nat} (h:∀ k,n≤k→a.testBit k=false):a<2 ^ n:=Nat.lt_pow_two_of_testBit a h
theorem Z0U {k:Nat} (h:k≤1000000):shlOk 1 (k:Int)=true:=by unfold shlOk;simp;omega
theorem Z0d {f l:Int} {w:Nat} (hf:0≤f) (hl:l<w) (hw:w≤1000):∃ B:Nat,m_d29 [.sh (.int f),.sh (.int l)] = .ret (.sh (.int B))∧∀ k:Nat,B.testBit k=(decide (f≤k) && decide ((k:Int)≤l)):=by
  by_cases h:l<f
  · refine ⟨0,by simp [m_d29,mb_d29,List.replicate,h],fun k => ?_⟩
    by_cases h1:f≤k
    · have h2:¬ (k:Int)≤l:=by omega
      simp [h2]
    · simp [h1]
  · obtain ⟨F,rfl⟩:=Int.eq_ofNat_of_zero_le hf
    obtain ⟨L,rfl⟩:=Int.eq_ofNat_of_zero_le (by omega:0≤l)
    have e1:=Z0U (k:=L+1) (by omega)
    have e2:=Z0U (k:=F) (by omega)
    have hp:2 ^ F≤2 ^ (L+1):=Nat.pow_le_pow_right (by omega) (by omega)
    refine ⟨2 ^ (L+1)-2 ^ F,?_,fun k => ?_⟩
    · have t1:((L:Int)+1).toNat=L+1:=by omega
      have t2:((L:Int)+1)=((L+1:Nat):Int):=by omega
      simp only [Int.natCast_add,Int.cast_ofNat_Int] at e1
      have h':¬ (L:Int)<F:=h
      simp [m_d29,mb_d29,List.replicate,h',e1,e2,t1]
      rw [Int.natCast_sub hp]
      simp
    · rw [Z0T F L k (by omega)]
      simp
def inR (L:List Hu.Ln) (u q k:Int):Prop:=∀ l∈L,l.1*(u*k)+l.2.1*(u*q)≤l.2.2
theorem Z0e {a b k:Int} (hb:0<b):k≤a.fdiv b↔k*b≤a:=by
  rw [Int.fdiv_eq_ediv_of_nonneg _ (Int.le_of_lt hb)]
  exact Int.le_ediv_iff_mul_le hb
theorem Z01 {u q:Int} {w:Nat} (hu:0<u) (hu2:u≤10000000) (hq:0≤q) (hq2:q≤1000) (s0:P.Slot):∀ (L:List Hu.Ln),(∀ l∈L,SmL l)→∀ (f la:Int) (s6 s7 s8 s9 s10:P.Slot),0≤f→la<w →
    (∃ f' la' s6' s7' s8' s9' s10',forL (gT 3 (gsCons (gN 6) (gsCons (gN 7) (gsCons (gN 8) gsNil)))) t1_d34 (L.map lnV) [s0,.sh (.int u),.sh (.int q),.sh (.int w),.sh (.int f),.sh (.int la),s6,s7,s8,s9,s10] = .ok .nx [s0,.sh (.int u),.sh (.int q),.sh (.int w),.sh (.int f'),.sh (.int la'),s6',s7',s8',s9',s10']∧0≤f'∧la'<w∧∀ k:Int,(f'≤k∧k≤la')↔(f≤k∧k≤la∧inR L u q k)) ∨
    (∃ ρ',forL (gT 3 (gsCons (gN 6) (gsCons (gN 7) (gsCons (gN 8) gsNil)))) t1_d34 (L.map lnV) [s0,.sh (.int u),.sh (.int q),.sh (.int w),.sh (.int f),.sh (.int la),s6,s7,s8,s9,s10] = .ok (.rt (.sh (.int 0))) ρ'∧∀ k:Int,¬ inR L u q k)
  | [],_,f,la,s6,s7,s8,s9,s10,h1,h2 => .inl ⟨f,la,s6,s7,s8,s9,s10,rfl,h1,h2,fun k=>by simp [inR]⟩
  | l::L,hS,f,la,s6,s7,s8,s9,s10,h1,h2=>by
    have hl:=hS l List.mem_cons_self
    have ih:=fun (f la:Int) (s6 s7 s8 s9 s10:P.Slot)=>Z01 (w:=w) hu hu2 hq hq2 s0 L (fun x hx=>hS x (List.mem_cons_of_mem _ hx)) f la s6 s7 s8 s9 s10
    have m1:mulOk l.1 u=true:=mul_l (by have:=hl.1;omega) (by have:=hl.2.1;omega)
    have m2:mulOk l.2.1 u=true:=mul_l (by have:=hl.2.2.1;omega) (by have:=hl.2.2.2;omega)
    have m3:mulOk (l.2.1*u) q=true:=mul_r (by omega) (by omega)
    have bs:=ZJ hl.1 hl.2.1 (show -10000000≤u by omega) hu2
    obtain ⟨st,hst⟩:∃ st,l.1*u=st:=⟨_,rfl⟩
    obtain ⟨ro,hro⟩:∃ ro,l.2.2-l.2.1*u*q=ro:=⟨_,rfl⟩
    rw [hst] at bs
    have hin:∀ k:Int,inR (l::L) u q k↔(k*st≤ro∧inR L u q k):=fun k=>by
      unfold inR
      rw [List.forall_mem_cons]
      have e:l.1*(u*k)=k*st:=by rw [← hst,← Int.mul_assoc,Int.mul_comm]
      have e2:l.2.1*(u*q)=l.2.1*u*q:=by rw [Int.mul_assoc]
      rw [e,e2]
      constructor
      · rintro ⟨a,b⟩;exact ⟨by omega,b⟩
      · rintro ⟨a,b⟩;exact ⟨by omega,b⟩
    have gg:gT 3 (gsCons (gN 6) (gsCons (gN 7) (gsCons (gN 8) gsNil))) (lnV l) [s0,.sh (.int u),.sh (.int q),.sh (.int w),.sh (.int f),.sh (.int la),s6,s7,s8,s9,s10]=some [s0,.sh (.int u),.sh (.int q),.sh (.int w),.sh (.int f),.sh (.int la),.sh (.int l.1),.sh (.int l.2.1),.sh (.int l.2.2),s9,s10]:=by simp [lnV]
    rw [List.map_cons,forL,gg]
    dsimp only
    by_cases c1:0<st
    · have d1:fdvOk ro st=true:=fdv_b (by omega) (Nat.le_trans (bits_lt (n:=200) (by omega) (by omega)) (by decide))
      have e:t1_d34 [s0,.sh (.int u),.sh (.int q),.sh (.int w),.sh (.int f),.sh (.int la),.sh (.int l.1),.sh (.int l.2.1),.sh (.int l.2.2),s9,s10] = .ok .nx [s0,.sh (.int u),.sh (.int q),.sh (.int w),.sh (.int f),.sh (.int (min la (ro.fdiv st))),.sh (.int l.1),.sh (.int l.2.1),.sh (.int l.2.2),.sh (.int st),.sh (.int ro)]:=by
        simp [t1_d34,m1,m2,m3,hst,hro,c1,d1]
        split<;>omega
      rw [e]
      rcases ih f (min la (ro.fdiv st)) (.sh (.int l.1)) (.sh (.int l.2.1)) (.sh (.int l.2.2)) (.sh (.int st)) (.sh (.int ro)) h1 (by omega) with ⟨f',la',s6',s7',s8',s9',s10',q1,q2,q3,q4⟩ | ⟨ρ',q1,q2⟩
      · refine .inl ⟨f',la',s6',s7',s8',s9',s10',q1,q2,q3,fun k => ?_⟩
        rw [q4,hin]
        have:=Z0e (a:=ro) (k:=k) c1
        constructor
        · rintro ⟨a,b,c⟩;exact ⟨a,by omega,this.mp (by omega),c⟩
        · rintro ⟨a,b,c,d⟩;exact ⟨a,by have:=this.mpr c;omega,d⟩
      · exact .inr ⟨ρ',q1,fun k=>by rw [hin];exact fun h=>q2 k h.2⟩
    · by_cases c2:st<0
      · have d1:fdvOk ro (-st)=true:=fdv_b (by omega) (Nat.le_trans (bits_lt (n:=200) (by omega) (by omega)) (by decide))
        have e:t1_d34 [s0,.sh (.int u),.sh (.int q),.sh (.int w),.sh (.int f),.sh (.int la),.sh (.int l.1),.sh (.int l.2.1),.sh (.int l.2.2),s9,s10] = .ok .nx [s0,.sh (.int u),.sh (.int q),.sh (.int w),.sh (.int (max f (-(ro.fdiv (-st))))),.sh (.int la),.sh (.int l.1),.sh (.int l.2.1),.sh (.int l.2.2),.sh (.int st),.sh (.int ro)]:=by
          simp [t1_d34,m1,m2,m3,hst,hro,c1,c2,d1]
          split<;>omega
        rw [e]
        rcases ih (max f (-(ro.fdiv (-st)))) la (.sh (.int l.1)) (.sh (.int l.2.1)) (.sh (.int l.2.2)) (.sh (.int st)) (.sh (.int ro)) (by omega) h2 with ⟨f',la',s6',s7',s8',s9',s10',q1,q2,q3,q4⟩ | ⟨ρ',q1,q2⟩
        · refine .inl ⟨f',la',s6',s7',s8',s9',s10',q1,q2,q3,fun k => ?_⟩
          rw [q4,hin]
          have:=Z0e (a:=ro) (b:=-st) (k:=-k) (by omega)
          rw [Int.neg_mul_neg] at this
          constructor
          · rintro ⟨a,b,c⟩;exact ⟨by omega,b,this.mp (by omega),c⟩
          · rintro ⟨a,b,c,d⟩;exact ⟨by have:=this.mpr c;omega,b,d⟩
        · exact .inr ⟨ρ',q1,fun k=>by rw [hin];exact fun h=>q2 k h.2⟩
      · have c0:st=0:=by omega
        subst c0
        by_cases c3:ro<0
        · refine .inr ⟨_,by simp [t1_d34,m1,m2,m3,hst,hro,c3];rfl,fun k => ?_⟩
          rw [hin]
          rintro ⟨a,_⟩
          omega
        · have e:t1_d34 [s0,.sh (.int u),.sh (.int q),.sh (.int w),.sh (.int f),.sh (.int la),.sh (.int l.1),.sh (.int l.2.1),.sh (.int l.2.2),s9,s10] = .ok .nx [s0,.sh (.int u),.sh (.int q),.sh (.int w),.sh (.int f),.sh (.int la),.sh (.int l.1),.sh (.int l.2.1),.sh (.int l.2.2),.sh (.int 0),.sh (.int ro)]:=by
            simp [t1_d34,m1,m2,m3,hst,hro,c3]
          rw [e]
          rcases ih f la (.sh (.int l.1)) (.sh (.int l.2.1)) (.sh (.int l.2.2)) (.sh (.int 0)) (.sh (.int ro)) h1 h2 with ⟨f',la',s6',s7',s8',s9',s10',q1,q2,q3,q4⟩ | ⟨ρ',q1,q2⟩
          · refine .inl ⟨f',la',s6',s7',s8',s9',s10',q1,q2,q3,fun k => ?_⟩
            rw [q4,hin]
            constructor
            · rintro ⟨a,b,c⟩;exact ⟨a,b,by omega,c⟩
            · rintro ⟨a,b,c,d⟩;exact ⟨a,b,d⟩
          · exact .inr ⟨ρ',q1,fun k=>by rw [hin];exact fun h=>q2 k h.2⟩
theorem Z1A {u q:Int} {w:Nat} (hu:0<u) (hu2:u≤10000000) (hq:0≤q) (hq2:q≤1000) (hw:w≤1000) {L:List Hu.Ln} (hS:∀ l∈L,SmL l) {sl:P.Slot} (hs:Sl sl (L.map lnV)) :
    ∃ B:Nat,m_d34 [sl,.sh (.int u),.sh (.int q),.sh (.int w)] = .ret (.sh (.int B))∧∀ k:Nat,B.testBit k=true↔(k<w∧inR L u q k):=by
  rcases Z01 (w:=w) hu hu2 hq hq2 sl L hS 0 (w-1) .no .no .no .no .no (by omega) (by omega) with ⟨f',la',s6',s7',s8',s9',s10',q1,q2,q3,q4⟩ | ⟨ρ',q1,q2⟩
  · obtain ⟨B,b1,b2⟩:=Z0d (f:=f') (l:=la') q2 q3 hw
    refine ⟨B,by rcases hs with rfl | rfl<;>simp [m_d34,mb_d34,List.replicate,q1,b1],fun k => ?_⟩
    rw [b2,Bool.and_eq_true,decide_eq_true_eq,decide_eq_true_eq,q4 k]
    constructor
    · rintro ⟨a,b,c⟩;exact ⟨by omega,c⟩
    · rintro ⟨a,b⟩;exact ⟨by omega,by omega,b⟩
  · refine ⟨0,by rcases hs with rfl | rfl<;>simp [m_d34,mb_d34,List.replicate,q1],fun k => ?_⟩
    simp
    exact fun _=>q2 k
abbrev Th:=Str×List Int
def thV (t:Th):PV:=Z4 (Zd t.1) t.1 t.2
def tnV:Option P3→PV
  | none => .non
  | some r=>c3 r
abbrev Dy:=Str×Int×List (Option P3)
def dyV (d:Dy):PV:=.tup [.str d.1,.int d.2.1,.lst (d.2.2.map tnV)]
def Z0 (w h:Int) (T:List Th) (D:List Dy):PV:=.ins "Yard" ["width", "height", "things", "days"] [.int w,.int h,.lst (T.map thV),.lst (D.map dyV)]
theorem ywh:(Str.ofString "width" = Str.ofString "height")=False:=eq_false (by decide +kernel)
theorem ywt:(Str.ofString "width" = Str.ofString "things")=False:=eq_false (by decide +kernel)
theorem ywd:(Str.ofString "width" = Str.ofString "days")=False:=eq_false (by decide +kernel)
theorem yht:(Str.ofString "height" = Str.ofString "things")=False:=eq_false (by decide +kernel)
theorem yhd:(Str.ofString "height" = Str.ofString "days")=False:=eq_false (by decide +kernel)
theorem ytd:(Str.ofString "things" = Str.ofString "days")=False:=eq_false (by decide +kernel)
theorem y_w (w h:Int) (T:List Th) (D:List Dy):fldF ["Yard"] (Str.ofString "width") (Z0 w h T D)=some (.int w):=by
  unfold fldF Z0
  simp
theorem y_h (w h:Int) (T:List Th) (D:List Dy):fldF ["Yard"] (Str.ofString "height") (Z0 w h T D)=some (.int h):=by
  have:(Str.ofString "height" == Str.ofString "width")=false:=by decide +kernel
  unfold fldF Z0
  simp [List.lookup_cons,this]
theorem y_t (w h:Int) (T:List Th) (D:List Dy):fldF ["Yard"] (Str.ofString "things") (Z0 w h T D)=some (.lst (T.map thV)):=by
  have e1:(Str.ofString "things" == Str.ofString "width")=false:=by decide +kernel
  have e2:(Str.ofString "things" == Str.ofString "height")=false:=by decide +kernel
  unfold fldF Z0
  simp [List.lookup_cons,e1,e2]
theorem y_d (w h:Int) (T:List Th) (D:List Dy):fldF ["Yard"] (Str.ofString "days") (Z0 w h T D)=some (.lst (D.map dyV)):=by
  have e1:(Str.ofString "days" == Str.ofString "width")=false:=by decide +kernel
  have e2:(Str.ofString "days" == Str.ofString "height")=false:=by decide +kernel
  have e3:(Str.ofString "days" == Str.ofString "things")=false:=by decide +kernel
  unfold fldF Z0
  simp [List.lookup_cons,e1,e2,e3]
theorem Z0B (D:List Dy) (hD:D.length≤100000) (s0 s1 s2:P.Slot):compL (gT 3 (gsCons (gN 0) (gsCons (gN 1) (gsCons (gN 2) gsNil)))) mYes (mTup (mCons (mVarV 0) (mCons (mVarV 1) (mCons (mVal (mCBO fList (mCons (mVarR 2) mNil))) mNil)))) (D.map dyV) [s0,s1,s2] []=some (D.map dyV):=by
  have h:=compL_map (g:=gT 3 (gsCons (gN 0) (gsCons (gN 1) (gsCons (gN 2) gsNil)))) (mt:=mYes) (me:=mTup (mCons (mVarV 0) (mCons (mVarV 1) (mCons (mVal (mCBO fList (mCons (mVarR 2) mNil))) mNil)))) dyV dyV (fun ρ => ∃ a b c,ρ = [a,b,c]) D [s0,s1,s2] [] ⟨_,_,_,rfl⟩ (by simp;omega) (by
    rintro d _ ρ ⟨a,b,c,rfl⟩
    refine ⟨[.sh (.str d.1),.sh (.int d.2.1),.sh (.lst (d.2.2.map tnV))],[.sh (.str d.1),.sh (.int d.2.1),.sh (.lst (d.2.2.map tnV))],[.sh (.str d.1),.sh (.int d.2.1),.sh (.lst (d.2.2.map tnV))],by simp [dyV],rfl,by simp [dyV],_,_,_,rfl⟩)
  simpa using h
theorem Z1g (w h:Int) {T:List Th} {D:List Dy} (hT:T.length≤100000) (hD:D.length≤100000) {s3 s4:P.Slot} (h3:Sl s3 (T.map thV)) (h4:Sl s4 (D.map dyV)):mi_Yard [.sh (.int w),.sh (.int h),s3,s4] = .ok ["width", "height", "things", "days"] [.int w,.int h,.lst (T.map thV),.lst (D.map dyV)]:=by
  have c:=Z0B D hD .no .no .no
  generalize hx:T.map thV=tx at *
  generalize hy:D.map dyV=dx at *
  rcases h3 with rfl | rfl<;>rcases h4 with rfl | rfl<;>simp [mi_Yard,mInit,mb_d8,mPutF,IR.of,List.replicate,putN,putP,ywh,ywt,ywd,yht,yhd,ytd,c]
theorem Z1B {k q w:Nat} (hw:0<w):(q*w≤k∧k-q*w<w)↔k / w=q:=by
  constructor
  · rintro ⟨a,b⟩
    exact Nat.div_eq_of_lt_le a (by rw [Nat.add_mul];omega)
  · rintro rfl
    have h1:=Nat.div_mul_le_self k w
    have h2:=Nat.mod_lt k hw
    have h3:=Nat.mod_eq_sub_div_mul (x:=k) (k:=w)
    omega
theorem Z1C {k q w:Nat} (h:k / w=q):k-q*w=k % w:=by
  subst h
  exact (Nat.mod_eq_sub_div_mul).symm
theorem Z1J {k w h:Nat} (hw:0<w):k / w<h↔k<w*h:=by
  rw [Nat.div_lt_iff_lt_mul hw,Nat.mul_comm]
def stn (w k:Nat):Hu.Pt:=(((k % w:Nat):Int),((k / w:Nat):Int))
theorem Z1h {S:List Hu.Pt} {r:P3} {p q:Int}:inR (Hu.Zf S) (2*r.2.2) q p↔(Hu.Z0j S (cst r (sto (p,q)))).isNone=true:=by
  have e:cst r (sto (p,q))=(2*r.2.2*p,2*r.2.2*q):=by
    unfold cst sto
    simp only [Int.mul_zero,Int.add_zero,Prod.mk.injEq]
    constructor<;>grind
  rw [e]
  unfold Hu.Z0j inR Hu.hd
  rw [Option.isNone_iff_eq_none,List.find?_eq_none]
  simp
theorem Zr {α : Type} (y : α):∀ (xs b:List α),y∈xs.foldl (fun b x=>x::b) b↔(y∈xs∨y∈b)
  | [],b=>by simp
  | x::xs,b=>by rw [List.foldl_cons,Zr y xs (x::b)];simp;grind
def shT (t:Th) (s:Hu.Pt) (r:P3):Bool:=shB t.1 t.2 s r
theorem Z0C {w h:Nat} (hw:0<w) (hw2:w≤60) (hh:h≤1000) (T:List Th) (Ds:List Dy) {t:Th} (hg:Z5 t.1 t.2=true) {r:P3} (hr:RB r) (hz:0<r.2.2) :
    ∃ D:Nat,m_d39 [.sh (Z0 w h T Ds),.sh (thV t),.sh (c3 r)] = .ret (.sh (.int D))∧∀ k,D.testBit k=(decide (k<w*h) && shT t (stn w k) r):=by
  obtain ⟨g1,g2,g3⟩:=Z0Q hg
  have hc:=Z0P hg (by omega) hr
  have hS:∀ p∈(Ze t.1 t.2).map (cst r),Sm p:=by
    intro p hp
    obtain ⟨q,hq,rfl⟩:=List.mem_map.mp hp
    exact Z1z hr (g3 q hq)
  have hl:=Z0L (sl:=.sh (.lst (((Ze t.1 t.2).map (cst r)).map pt))) (.inl rfl) hS (by simpa using g2) (by simp;omega)
  have hls:∀ l∈Hu.Zf ((Ze t.1 t.2).map (cst r)),SmL l:=fun l h=>Z1t h hS
  have yw:=y_w w h T Ds
  have yh:=y_h w h T Ds
  have hv:(2:Int)*r.2.2≤10000000:=by have:=hr.2.2.2.2.2;omega
  generalize hX:Hu.Zf ((Ze t.1 t.2).map (cst r))=X at *
  generalize hY:Z0 w h T Ds=Y at *
  have hr2:opIx (c3 r) (.int 2)=some (.int r.2.2):=by simp [c3]
  obtain ⟨ρ',e1,D,s5,rfl,hD⟩:=forL_fold (g:=gN 5) (mb:=t1_d39) (fun (q:Nat)=>PV.int q) (fun (b:List Nat) (x:Nat)=>x::b) (fun b ρ => ∃ (D:Nat) (s5:P.Slot),ρ = [.sh Y,.sh (thV t),.sh (c3 r),.ow (X.map lnV),.sh (.int D),s5]∧∀ k,D.testBit k=true↔(k / w∈b∧shT t (stn w k) r=true)) (List.range h) (by
    rintro q hq b ρ ⟨D,s5,rfl,hD⟩
    have hq:=List.mem_range.mp hq
    obtain ⟨B,b1,b2⟩:=Z1A (u:=2*r.2.2) (q:=q) (w:=w) (by omega) hv (by omega) (by omega) (by omega) hls (sl:=.bw (X.map lnV)) (.inr rfl)
    have hB:B<2 ^ w:=Z0o fun k hk=>by
      have:=b2 k
      cases e:B.testBit k with
      | false=>rfl
      | true=>have:=(this.mp e).1;omega
    have hB2:B<2 ^ 60:=Nat.lt_of_lt_of_le hB (Nat.pow_le_pow_right (by omega) hw2)
    have hqw:q*w≤1000*60:=Nat.mul_le_mul (by omega) hw2
    have so:shlOk (B:Int) ((q:Int)*(w:Int))=true:=by
      have:((q:Int)*(w:Int))=((q*w:Nat):Int):=by simp
      rw [this]
      unfold shlOk
      simp
      omega
    have mo:mulOk (q:Int) (w:Int)=true:=mul_l (by omega) (by omega)
    have tn:((q:Int)*(w:Int)).toNat=q*w:=by
      have:((q:Int)*(w:Int))=((q*w:Nat):Int):=by simp
      rw [this];rfl
    obtain ⟨Z,hZ⟩:∃ Z:Nat,Z=D ||| B*2 ^ (q*w):=⟨_,rfl⟩
    have oe:Builtin.bitOr (D:Int) ((B:Int)*2 ^ (q*w))=(Z:Int):=by
      have ee:(B:Int)*2 ^ (q*w)=((B*2 ^ (q*w):Nat):Int):=by simp
      rw [ee,ZZ,hZ]
    have m2:mulOk 2 r.2.2=true:=mul_l (by omega) (by omega)
    generalize c3 r=R at *
    have st:t1_d39 [.sh Y,.sh (thV t),.sh R,.ow (X.map lnV),.sh (.int D),.sh (.int q)] = .ok .nx [.sh Y,.sh (thV t),.sh R,.ow (X.map lnV),.sh (.int Z),.sh (.int q)]:=by
      simp [t1_d39,hr2,yw,m2,b1,mo,so,tn,oe]
    refine ⟨_,_,rfl,st,_,_,rfl,fun k => ?_⟩
    rw [hZ,Nat.testBit_or,Bool.or_eq_true,hD,Nat.testBit_mul_two_pow,Bool.and_eq_true,decide_eq_true_eq,b2,List.mem_cons,← hX,Z1h]
    have key:∀ (_:k / w=q),((Hu.Z0j ((Ze t.1 t.2).map (cst r)) (cst r (sto (((k-q*w:Nat):Int),(q:Int))))).isNone=true↔shT t (stn w k) r=true):=by
      intro hk
      unfold shT shB stn
      rw [Z1C hk,hk]
    have d:=Z1B (k:=k) (q:=q) hw
    constructor
    · rintro (⟨a,b⟩ | ⟨a,b,c⟩)
      · exact ⟨.inr a,b⟩
      · have:=d.mp ⟨a,b⟩
        exact ⟨.inl this,(key this).mp c⟩
    · rintro ⟨a | a,b⟩
      · have:=d.mpr a
        exact .inr ⟨this.1,this.2,(key a).mpr b⟩
      · exact .inl ⟨a,b⟩) [] [.sh Y,.sh (thV t),.sh (c3 r),.ow (X.map lnV),.sh (.int ((0:Nat):Int)),.no] ⟨0,.no,rfl,by simp⟩
  refine ⟨D,?_,fun k => ?_⟩
  · have rr:=ZA hh
    have hc':m_d10 [.sh (thV t),.sh (c3 r)] = .ret (.ow (((Ze t.1 t.2).map (cst r)).map pt)):=hc
    generalize c3 r=R at *
    generalize thV t=Tv at *
    simp [m_d39,mb_d39,List.replicate,hc',hl,yh,rr,-List.map_map] at e1 ⊢
    simp [e1]
  · have:=hD k
    rw [Zr,List.mem_range,Z1J hw] at this
    rw [Bool.eq_iff_iff,this,Bool.and_eq_true,decide_eq_true_eq]
    simp
def Z7:Nat→(Nat→Bool)→Nat
  | 0,_=>0
  | n+1,p=>Z7 n p+if p n then 2 ^ n else 0
theorem ZH (p:Nat→Bool):∀ n,Z7 n p<2 ^ n
  | 0=>by simp [Z7]
  | n+1=>by
    have:=ZH p n
    unfold Z7
    rw [Nat.pow_succ]
    split<;>omega
theorem Zc (p:Nat→Bool):∀ n k,(Z7 n p).testBit k=(decide (k<n) && p k)
  | 0,k=>by simp [Z7]
  | n+1,k=>by
    have hl:=ZH p n
    unfold Z7
    by_cases h:k<n
    · have ih:=Zc p n k
      have h1:k<n+1:=by omega
      split
      · rw [Nat.add_comm,Nat.testBit_two_pow_add_gt h,ih];simp [h,h1]
      · rw [Nat.add_zero,ih];simp [h,h1]
    · by_cases h2:k=n
      · subst h2
        split
        · rename_i q
          rw [Nat.add_comm,Nat.testBit_two_pow_add_eq,Nat.testBit_lt_two_pow hl];simp [q]
        · rename_i q
          rw [Nat.add_zero,Nat.testBit_lt_two_pow hl];simp [q]
      · have h3:¬ k<n+1:=by omega
        have:Z7 n p+(if p n=true then 2 ^ n else 0)<2 ^ k:=by
          refine Nat.lt_of_lt_of_le (ZH p (n+1)) (Nat.pow_le_pow_right (by omega) (by omega))
        rw [Nat.testBit_lt_two_pow this]
        simp [h3]
theorem Zm {n:Nat} {p:Nat→Bool} {D:Nat} (h:∀ k,D.testBit k=(decide (k<n) && p k)):D=Z7 n p:=Nat.eq_of_testBit_eq fun k=>by rw [h,Zc]
theorem Z09 {n:Nat} {p q:Nat→Bool} (h:∀ k<n,p k=q k):Z7 n p=Z7 n q:=Zm fun k=>by
  rw [Zc]
  by_cases hk:k<n
  · rw [h k hk]
  · simp [hk]
def dk1 (w h:Nat) (r:P3) (t:Th):Nat:=Z7 (w*h) fun k=>shT t (stn w k) r
def dkp (w:Nat) (T:List Th):Option P3→Nat→Bool
  | none,_=>true
  | some r,k=>T.any fun t=>shT t (stn w k) r
def dkA (w h:Nat) (T:List Th) (o:Option P3):Nat:=Z7 (w*h) (dkp w T o)
def RB' (o:Option P3):Prop:=match o with | none=>True | some r=>RB r∧0<r.2.2
theorem Z0p {w h:Nat} (hw:0<w) (hw2:w≤60) (hh:h≤1000) (T:List Th) (Ds:List Dy) {t:Th} (hg:Z5 t.1 t.2=true) {r:P3} (hr:RB r) (hz:0<r.2.2) :
    m_d39 [.sh (Z0 w h T Ds),.sh (thV t),.sh (c3 r)] = .ret (.sh (.int (dk1 w h r t))):=by
  obtain ⟨D,h1,h2⟩:=Z0C hw hw2 hh T Ds hg hr hz
  rw [h1,Zm h2]
  rfl
theorem Z0V {w h:Nat} (hw:0<w) (hw2:w≤60) (hh:h≤1000) {T:List Th} (hT:T.length≤1000) (Ds:List Dy) (hg:∀ t∈T,Z5 t.1 t.2=true) {r:P3} (hr:RB r) (hz:0<r.2.2) :
    m_d2 [.sh (Z0 w h T Ds),.sh (c3 r)] = .ret (.ow (T.map fun t => .int (dk1 w h r t))):=by
  have yt:=y_t w h T Ds
  have hc:=compL_map (g:=gN 2) (mt:=mYes) (me:=mVal (mCall m_d39 (mAName 0 (mAName 2 (mAName 1 mANil))))) thV (fun t => .int (dk1 w h r t)) (fun ρ => ∃ s,ρ = [.sh (Z0 w h T Ds),.sh (c3 r),s]) T [.sh (Z0 w h T Ds),.sh (c3 r),.no] [] ⟨_,rfl⟩ (by simp;omega) (by
    rintro t ht ρ ⟨s,rfl⟩
    have e:=Z0p hw hw2 hh T Ds (hg t ht) hr hz
    generalize Z0 w h T Ds=Y at *
    generalize c3 r=R at *
    generalize thV t=Tv at *
    refine ⟨_,_,_,rfl,rfl,by simp [e];rfl,_,rfl⟩)
  generalize Z0 w h T Ds=Y at *
  generalize c3 r=R at *
  simp [m_d2,mb_d2,List.replicate,yt]
  simp at hc
  simp [hc]
theorem ZM {w h:Nat} (hw:0<w) (hw2:w≤60) (hh:h≤1000) (hwh:w*h≤1000) {T:List Th} (hT:T.length≤1000) (Ds:List Dy) (hg:∀ t∈T,Z5 t.1 t.2=true) {o:Option P3} (ho:RB' o) :
    m_d42 [.sh (Z0 w h T Ds),.sh (tnV o)] = .ret (.sh (.int (dkA w h T o))):=by
  have yw:=y_w w h T Ds
  have yh:=y_h w h T Ds
  have mo:mulOk (w:Int) (h:Int)=true:=mul_l (by omega) (by omega)
  cases o with
  | none =>
    obtain ⟨B,b1,b2⟩:=Z0d (f:=0) (l:=(w:Int)*h-1) (w:=w*h) (by omega) (by rw [Int.natCast_mul];omega) hwh
    have:B=dkA w h T none:=Zm fun k=>by
      rw [b2]
      simp [dkp]
      have:((w*h:Nat):Int)=(w:Int)*h:=by simp
      omega
    subst this
    generalize Z0 w h T Ds=Y at *
    simp [m_d42,mb_d42,List.replicate,tnV,yw,yh,mo,b1,isN]
  | some r =>
    have ho:RB r∧0<r.2.2:=ho
    have hd:=Z0V hw hw2 hh hT Ds hg ho.1 ho.2
    obtain ⟨ρ',e1,D,s3,rfl,hD⟩:=forL_fold (g:=gN 3) (mb:=t1_d42) (fun (t:Th)=>PV.int (dk1 w h r t)) (fun (b:List Th) (x:Th)=>x::b) (fun b ρ => ∃ (D:Nat) (s3:P.Slot),ρ = [.sh (Z0 w h T Ds),.sh (c3 r),.sh (.int D),s3]∧∀ k,D.testBit k=true↔(k<w*h∧∃ t∈b,shT t (stn w k) r=true)) T (by
      rintro t ht b ρ ⟨D,s3,rfl,hD⟩
      refine ⟨_,_,rfl,by simp [t1_d42,ZZ];exact ⟨rfl,rfl⟩,_,_,rfl,fun k => ?_⟩
      rw [Nat.testBit_or,Bool.or_eq_true,hD,dk1,Zc,Bool.and_eq_true,decide_eq_true_eq]
      simp
      grind) [] [.sh (Z0 w h T Ds),.sh (c3 r),.sh (.int ((0:Nat):Int)),.no] ⟨0,.no,rfl,by simp⟩
    have:D=dkA w h T (some r):=Zm fun k=>by
      have:=hD k
      rw [Bool.eq_iff_iff,this]
      simp only [Zr,dkp,List.not_mem_nil,or_false,Bool.and_eq_true,decide_eq_true_eq,List.any_eq_true]
    subst this
    have hn:opIs (c3 r) .non=some (.bl false):=by simp [c3,isN]
    generalize Z0 w h T Ds=Y at *
    show m_d42 [.sh Y,.sh (c3 r)]=_
    simp at e1
    generalize c3 r=R at *
    have hn:isN R=false:=by simpa using hn
    simp [m_d42,mb_d42,List.replicate,hd,hn,e1]
theorem ZD (ns:List Int) (k:Nat):m_d37 [.sh (.lst (ns.map .int)),.sh (.int k)] = .ret (.sh (.int (ns.getD k 0))):=by
  by_cases h:k<ns.length
  · have h':(k:Int)<(ns.length:Int):=by omega
    simp [m_d37,mb_d37,List.replicate,h',List.getElem?_eq_getElem h]
  · have h':¬ (k:Int)<(ns.length:Int):=by omega
    simp [m_d37,mb_d37,List.replicate,h',List.getElem?_eq_none (Nat.le_of_not_lt h)]
@[simp] theorem Zs (ns:List Int) (k:Nat):m_d37 [.sh (.lst (ns.map .int)),.sh (.int (no_index (OfNat.ofNat k)))] = .ret (.sh (.int (ns.getD k 0))):=ZD ns k
def Gr (x:Int):Prop:=0≤x∧x<524288
theorem Zo (c:Int) (s1:P.Slot):∀ (ks:List Nat) (acc:List Int) (n:Int) (s4:P.Slot),acc.length+ks.length≤100000→(∀ k∈ks,k≤100000)→(∀ x∈acc,Gr x)→∃ (acc':List Int) (n':Int) (s4':P.Slot),forL (gN 4) t1_d15 (ks.map fun (i:Nat)=>PV.int (i:Int)) [.sh (.int c),s1,.ow (acc.map .int),.sh (.int n),s4] = .ok .nx [.sh (.int c),s1,.ow (acc'.map .int),.sh (.int n'),s4']∧acc'.length=acc.length+ks.length∧∀ x∈acc',Gr x
  | [],acc,n,s4,_,_,h=>⟨acc,n,s4,rfl,rfl,h⟩
  | k::ks,acc,n,s4,hl,hk,h=>by
    have hk0:=hk k List.mem_cons_self
    have hl0:acc.length<16777216:=by simp at hl;omega
    rw [List.map_cons,forL]
    have hg:gN 4 (PV.int (k:Int)) [.sh (.int c),s1,.ow (acc.map .int),.sh (.int n),s4]=some [.sh (.int c),s1,.ow (acc.map .int),.sh (.int n),.sh (.int k)]:=rfl
    rw [hg]
    dsimp only
    by_cases h0:c % 2=0
    · have e:t1_d15 [.sh (.int c),s1,.ow (acc.map .int),.sh (.int n),.sh (.int k)] = .ok .nx [.sh (.int c),s1,.ow ((acc ++ [n % 524287]).map .int),.sh (.int (n / 524287)),.sh (.int k)]:=by
        simp [t1_d15,h0,hl0]
      rw [e]
      obtain ⟨a,b,d,q1,q2,q3⟩:=Zo c s1 ks (acc ++ [n % 524287]) (n / 524287) (.sh (.int k)) (by simp at hl ⊢;omega) (fun x hx=>hk x (List.mem_cons_of_mem _ hx)) (by
        intro x hx
        rcases List.mem_append.mp hx with hx | hx
        · exact h x hx
        · rw [List.mem_singleton.mp hx];unfold Gr;omega)
      exact ⟨a,b,d,q1,by simp at q2 ⊢;omega,q3⟩
    · obtain ⟨m,hm⟩:∃ m,(n*49157+24593+2*(k:Int)) % 8388593=m:=⟨_,rfl⟩
      have e:t1_d15 [.sh (.int c),s1,.ow (acc.map .int),.sh (.int n),.sh (.int k)] = .ok .nx [.sh (.int c),s1,.ow ((acc ++ [m / 16]).map .int),.sh (.int m),.sh (.int k)]:=by
        simp [t1_d15,h0,hl0,hm]
      rw [e]
      obtain ⟨a,b,d,q1,q2,q3⟩:=Zo c s1 ks (acc ++ [m / 16]) m (.sh (.int k)) (by simp at hl ⊢;omega) (fun x hx=>hk x (List.mem_cons_of_mem _ hx)) (by
        intro x hx
        rcases List.mem_append.mp hx with hx | hx
        · exact h x hx
        · rw [List.mem_singleton.mp hx];unfold Gr;omega)
      exact ⟨a,b,d,q1,by simp at q2 ⊢;omega,q3⟩
theorem ZR (c:Int) {n:Nat} (hn:n≤1000):∃ xs:List Int,m_d15 [.sh (.int c),.sh (.int n)] = .ret (.ow (xs.map .int))∧xs.length=n∧∀ x∈xs,Gr x:=by
  have rr:=ZA hn
  by_cases h:c % 2=1
  · obtain ⟨a,b,d,q1,q2,q3⟩:=Zo c (.sh (.int n)) (List.range n) [] (c / 2 % 8388593) .no (by simp;omega) (fun k hk=>by have:=List.mem_range.mp hk;omega) (by simp)
    refine ⟨a,?_,by simpa using q2,q3⟩
    simp at q1
    simp [m_d15,mb_d15,List.replicate,h,rr,q1]
  · obtain ⟨a,b,d,q1,q2,q3⟩:=Zo c (.sh (.int n)) (List.range n) [] (c / 2) .no (by simp;omega) (fun k hk=>by have:=List.mem_range.mp hk;omega) (by simp)
    refine ⟨a,?_,by simpa using q2,q3⟩
    simp at q1
    simp [m_d15,mb_d15,List.replicate,h,rr,q1]
def Pl (x:Int):Prop:=-1000000000+50≤x∧x≤1000000000-50
theorem Zl (n:Int) {w:Int} (h1:1≤w) (h2:w≤1000):∃ x:Int,m_d21 [.sh (.int n),.sh (.int w)] = .ret (.sh (.int x))∧Pl x:=by
  by_cases h:n / 512 % 16=5
  · exact ⟨n*3813 % 1999999901-1000000000+50,by simp [m_d21,mb_d21,List.replicate,h],by unfold Pl;omega⟩
  · have m0:¬ (2*w+9=0):=by omega
    have p:=Int.emod_nonneg n (show (2*w+9)≠0 by omega)
    have q:=Int.emod_lt_of_pos n (show 0<(2*w+9) by omega)
    have e:n.fmod (2*w+9)=n % (2*w+9):=Int.fmod_eq_emod_of_nonneg n (by omega)
    exact ⟨n % (2*w+9)-4,by simp [m_d21,mb_d21,List.replicate,h,m0,e],by unfold Pl;omega⟩
theorem ZK (n:Int):∃ x:Int,m_d16 [.sh (.int n)] = .ret (.sh (.int x))∧1≤x∧x≤1000000000:=by
  by_cases h:n / 512 % 12=7
  · exact ⟨1+n*1907 % 1000000000,by simp [m_d16,mb_d16,List.replicate,h],by omega,by omega⟩
  · exact ⟨1+n % 9,by simp [m_d16,mb_d16,List.replicate,h],by omega,by omega⟩
theorem Z0D {x y h:Int} (a:Pl x) (b:Pl y) (c:1≤h∧h≤1000000000):Z5 "post" [x / 2,y / 2,h]=true:=by
  unfold Pl at a b
  unfold Z5 Za plB htB
  simp
  omega
theorem neS {a b:String} (h:decide (Str.ofString a=Str.ofString b)=false):¬ (Str.ofString a=Str.ofString b):=of_decide_eq_false h
theorem Z0q {x y u v h:Int} (a:Pl x) (b:Pl y) (hu : -4≤u∧u≤4) (hv : -4≤v∧v≤4) (c:1≤h∧h≤1000000000) (e:Int) (he:e=if u=0∧v=0 then 1 else 0):Z5 "fence" [x,y,x+u+e,y+v,h]=true:=by
  have h1:¬ (Str.ofString "fence" = Str.ofString "post"):=neS (by decide +kernel)
  unfold Pl at a b
  unfold Z5
  rw [if_neg h1,if_pos rfl]
  unfold Z8 Zb plB htB
  simp
  split at he<;>omega
theorem Z02 {w:Str} (hw:w = "sail" ∨ w = "house") {x y u v h:Int} (a:Pl x) (b:Pl y) (hu:0≤u∧u≤8) (hv:0≤v∧v≤8) (c:1≤h∧h≤1000000000):Z5 w [x,y,x+1+u,y+1+v,h]=true:=by
  have hb:Z6 [x,y,x+1+u,y+1+v,h]=true:=by
    unfold Pl at a b
    unfold Z6 Zb plB htB
    simp
    omega
  unfold Z5
  rcases hw with rfl | rfl
  · rw [if_neg (neS (by decide +kernel)),if_neg (neS (by decide +kernel)),if_pos rfl]
    exact hb
  · rw [if_neg (neS (by decide +kernel)),if_neg (neS (by decide +kernel)),if_neg (neS (by decide +kernel)),if_neg (neS (by decide +kernel)),if_pos rfl]
    exact hb
theorem Z0r {x y z a b c d e f:Int} (h1:Pl x) (h2:Pl y) (h3:0≤z∧z≤1000000000) (h4:Pl a) (h5:Pl b) (h6:1≤c∧c≤1000000000) (h7:Pl d) (h8:Pl e) (h9:1≤f∧f≤1000000000):Z5 "cloth" [x,y,z,a,b,c,d,e,f]=true:=by
  unfold Z5
  rw [if_neg (neS (by decide +kernel)),if_neg (neS (by decide +kernel)),if_neg (neS (by decide +kernel)),if_pos rfl]
  unfold Pl at *
  unfold Z9 plB gdB
  simp
  omega
theorem Z1K:∀ (xs:List Int),xs.length=14→∃ a b c d e f g h i j k l m n,xs = [a,b,c,d,e,f,g,h,i,j,k,l,m,n]
  | [a,b,c,d,e,f,g,h,i,j,k,l,m,n],_=>⟨a,b,c,d,e,f,g,h,i,j,k,l,m,n,rfl⟩
theorem Z1L (x y:Hu.Pt):opEq (pt x) (pt y)=some (.bl (decide (x=y))):=by
  unfold opEq eqOk
  rw [ZE,ZE,Zz,Zz,ZU]
  rfl
theorem Z03:rngF1 [.int 2]=some [.int 0,.int 1]:=by rfl
theorem Z0E (c:Int) {w:Int} (hw1:1≤w) (hw2:w≤1000):∃ t:Th,m_d22 [.sh (.int c),.sh (.int w)] = .ret (.sh (.tup [.str t.1,.lst (t.2.map .int)]))∧Z5 t.1 t.2=true:=by
  obtain ⟨xs,eg,hl,hx⟩:=ZR c (n:=14) (by omega)
  obtain ⟨x0,x1,x2,x3,x4,x5,x6,x7,x8,x9,x10,x11,x12,x13,rfl⟩:=Z1K xs hl
  clear hl hx
  obtain ⟨p0,e0,q0⟩:=Zl x0 hw1 hw2
  obtain ⟨p1,e1,q1⟩:=Zl x1 hw1 hw2
  obtain ⟨z,ez,qz⟩:=ZK x2
  have eg':m_d15 [.sh (.int c),.sh (.int 14)] = .ret (.ow [.int x0,.int x1,.int x2,.int x3,.int x4,.int x5,.int x6,.int x7,.int x8,.int x9,.int x10,.int x11,.int x12,.int x13]):=eg
  clear eg
  have hc:compL (gN 2) mYes (mVal (mCall m_d21 (mACons (mBin opIx (mVarR 1) (mVarR 2)) (mAName 0 mANil)))) [PV.int 0,PV.int 1] [.sh (.int w),.bw [.int x0,.int x1,.int x2,.int x3,.int x4,.int x5,.int x6,.int x7,.int x8,.int x9,.int x10,.int x11,.int x12,.int x13],.no] []=some [.int p0,.int p1]:=by
    simp [compL,e0,e1]
  have k:0≤x3 % 5∧x3 % 5<5:=by omega
  obtain ⟨kd,hkd⟩:∃ kd,x3 % 5=kd:=⟨_,rfl⟩
  rw [hkd] at k
  by_cases k0:kd=0
  · refine ⟨("post",[p0 / 2,p1 / 2,z]),?_,Z0D q0 q1 qz⟩
    simp [m_d22,mb_d22,List.replicate,eg',Z03,hc,ez,hkd,k0]
  · by_cases k1:kd=1
    · refine ⟨("fence",[p0,p1,p0+(x4 % 9-4)+(if x4 % 9-4=0∧x5 % 9-4=0 then 1 else 0),p1+(x5 % 9-4),z]),?_,Z0q q0 q1 (by omega) (by omega) qz _ rfl⟩
      have hq:=Z1L (p0,p1) (p0+x4 % 9-4,p1+x5 % 9-4)
      unfold pt at hq
      dsimp only at hq
      have hi:(if x4 % 9-4=0∧x5 % 9-4=0 then (1:Int) else 0)=if decide ((p0,p1)=(p0+x4 % 9-4,p1+x5 % 9-4))=true then 1 else 0:=by
        simp only [decide_eq_true_eq,Prod.mk.injEq]
        split<;>split<;>omega
      generalize decide ((p0,p1)=(p0+x4 % 9-4,p1+x5 % 9-4))=bb at *
      have a1:p0+(x4 % 9-4)=p0+x4 % 9-4:=by omega
      have a2:p1+(x5 % 9-4)=p1+x5 % 9-4:=by omega
      rw [a1,a2,hi]
      cases bb<;>simp [m_d22,mb_d22,List.replicate,eg',Z03,hc,ez,hkd,k1,hq]
    · by_cases k2:kd=2
      · obtain ⟨p7,e7,q7⟩:=Zl x7 hw1 hw2
        obtain ⟨p8,e8,q8⟩:=Zl x8 hw1 hw2
        obtain ⟨p9,e9,q9⟩:=Zl x9 hw1 hw2
        obtain ⟨p10,e10,q10⟩:=Zl x10 hw1 hw2
        obtain ⟨z2,ez2,qz2⟩:=ZK x11
        refine ⟨("cloth",[p0,p1,x6 % 10,p7,p8,z,p9,p10,z2]),?_,Z0r q0 q1 (by omega) q7 q8 qz q9 q10 qz2⟩
        simp [m_d22,mb_d22,List.replicate,eg',Z03,hc,ez,hkd,k2,e7,e8,e9,e10,ez2,add_l]
      · by_cases k3:kd=3
        · refine ⟨("sail",[p0,p1,p0+1+x4 % 8,p1+1+x5 % 8,z]),?_,Z02 (.inl rfl) q0 q1 (by omega) (by omega) qz⟩
          simp [m_d22,mb_d22,List.replicate,eg',Z03,hc,ez,hkd,k3]
        · have k4:kd=4:=by omega
          refine ⟨("house",[p0,p1,p0+1+x4 % 8,p1+1+x5 % 8,z]),?_,Z02 (.inr rfl) q0 q1 (by omega) (by omega) qz⟩
          simp [m_d22,mb_d22,List.replicate,eg',Z03,hc,ez,hkd,k4]
theorem Z1i {α : Type} (xs:List α) (a b:Nat) (h1:a≤b) (h2:b≤xs.length):cutP xs (some (a:Int)) (some (b:Int))=(xs.drop a).take (b-a):=by
  unfold cutP
  rw [HT.sIx_nat,HT.sIx_nat,Nat.min_eq_left h2,Nat.min_eq_left (Nat.le_trans h1 h2)]
theorem Z1Q:∀ (xs:List Int),xs.length=5→∃ a b c d e,xs = [a,b,c,d,e]
  | [a,b,c,d,e],_=>⟨a,b,c,d,e,rfl⟩
theorem Z1D {xs:List Int} (h:xs.length=5):∃ o:Option P3,m_d31 [.sh (.lst (xs.map .int))] = .ret (.sh (tnV o))∧RB' o:=by
  obtain ⟨a,b,c,d,e,rfl⟩:=Z1Q xs h
  by_cases he:e % 6=4
  · exact ⟨none,by simp [m_d31,mb_d31,List.replicate,he,tnV],trivial⟩
  · have a1:0≤a % 13∧a % 13<13:=by omega
    have b1:0≤b % 13∧b % 13<13:=by omega
    have c1:0≤c % 5∧c % 5<5:=by omega
    have go:∀ s:Int,(s=1∨s=3∨s=100000)→opIx (.lst [.int 1,.int 1,.int 3,.int 100000]) (.int (d % 4))=some (.int s)→∃ o:Option P3,m_d31 [.sh (.lst ([a,b,c,d,e].map .int))] = .ret (.sh (tnV o))∧RB' o:=by
      intro s hs hx
      have m1:∀ x:Int,mulOk x s=true:=fun x=>mul_r (by omega) (by omega)
      refine ⟨some ((a % 13-6)*s,(b % 13-6)*s,(1+c % 5)*s),?_,?_⟩
      · simp [m_d31,mb_d31,List.replicate,he,tnV,hx,m1,c3]
      · rcases hs with rfl | rfl | rfl<;>refine ⟨⟨?_,?_,?_,?_,?_,?_⟩,?_⟩<;>dsimp only<;>omega
    have hd:d % 4=0∨d % 4=1∨d % 4=2∨d % 4=3:=by omega
    rcases hd with hd | hd | hd | hd
    · exact go 1 (by omega) (by rw [hd];rfl)
    · exact go 1 (by omega) (by rw [hd];rfl)
    · exact go 3 (by omega) (by rw [hd];rfl)
    · exact go 100000 (by omega) (by rw [hd];rfl)
theorem Z0W (t:Int) (h:0≤t) (h2:t<12) (N:List Str) (hN:N.length=12):∃ L:List Str,opAdd (.lst (cutP (N.map PV.str) (some t) none)) (.lst (cutP (N.map PV.str) none (some t)))=some (.ow (L.map .str))∧L.length=12:=by
  obtain ⟨k,rfl⟩:=Int.eq_ofNat_of_zero_le h
  have e1:cutP (N.map PV.str) (some (k:Int)) none=(N.drop k).map PV.str:=by
    unfold cutP
    rw [HT.sIx_nat,List.length_map,Nat.min_eq_left (by omega)]
    show List.take (N.length-k) _=_
    rw [← List.map_drop]
    exact List.take_of_length_le (by simp)
  have e2:cutP (N.map PV.str) none (some (k:Int))=(N.take k).map PV.str:=by
    unfold cutP
    rw [HT.sIx_nat,List.length_map,Nat.min_eq_left (by omega)]
    show List.take (k-0) (List.drop 0 _)=_
    simp [List.map_take]
  rw [e1,e2,add_l (by simp;omega)]
  exact ⟨N.drop k++N.take k,by simp,by simp;omega⟩
def Zq (lg:Nat) (d:Dy):Prop:=(1≤d.2.1∧d.2.1≤1000000000)∧d.2.2.length≤lg∧∀ o∈d.2.2,RB' o
theorem sl5 {xs:List Int} {n lg j:Nat} (hl:xs.length=5*lg+2) (hj:j<lg):∃ ys:List Int,cutP (xs.map PV.int) (some (2+5*(j:Int))) (some (7+5*(j:Int)))=ys.map .int∧ys.length=5:=by
  refine ⟨(xs.drop (2+5*j)).take 5,?_,by simp;omega⟩
  have:=Z1i (xs.map PV.int) (2+5*j) (7+5*j) (by omega) (by simp;omega)
  have e1:((2+5*j:Nat):Int)=2+5*(j:Int):=by omega
  have e2:((7+5*j:Nat):Int)=7+5*(j:Int):=by omega
  rw [e1,e2] at this
  rw [this,List.map_take,List.map_drop]
  congr 1
  omega
theorem Z04 {xs:List Int} {lg:Nat} (hl:xs.length=5*lg+2) (hlg:lg≤100):∀ (js:List Nat),(∀ j∈js,j<lg)→∀ (acc:List PV) (s1:P.Slot),acc.length+js.length≤1000→∃ os:List (Option P3),compL (gN 1) mYes (mVal (mCall m_d31 (mACons (mVal (mSl (mVarR 0) (mP (mVal (mBinO opAdd (mC (.int 2)) (mBin opMulI (mC (.int 5)) (mVarR 1))))) (mP (mVal (mBinO opAdd (mC (.int 7)) (mBin opMulI (mC (.int 5)) (mVarR 1))))))) mANil))) (js.map fun (i:Nat)=>PV.int (i:Int)) [.bw (xs.map .int),s1] acc=some (acc++os.map tnV)∧os.length=js.length∧∀ o∈os,RB' o
  | [],_,acc,s1,_=>⟨[],by simp [compL],rfl,by simp⟩
  | j::js,hj,acc,s1,ha=>by
    obtain ⟨ys,e1,e2⟩:=sl5 (n:=0) hl (hj j List.mem_cons_self)
    obtain ⟨o,e3,e4⟩:=Z1D e2
    obtain ⟨os,q1,q2,q3⟩:=Z04 hl hlg js (fun x hx=>hj x (List.mem_cons_of_mem _ hx)) (acc ++ [tnV o]) (.sh (.int j)) (by simp at ha ⊢;omega)
    refine ⟨o::os,?_,by simp [q2],?_⟩
    · have hz:acc.length<16777216:=by simp at ha;omega
      generalize xs.map PV.int=X at *
      generalize ys.map PV.int=Y at *
      rw [List.map_cons,compL]
      simp [slF,e1,e3,hz] 
      simpa using q1
    · intro x hx
      rcases List.mem_cons.mp hx with rfl | hx
      · exact e4
      · exact q3 x hx
theorem Z0X (ns:List Int) {k lg:Nat} (hk:k<12) (hlg:lg≤100) (hl0:0<lg) {L:List Str} (hL:L.length=12) (s2 s5 s8 s9:P.Slot) (D:List Dy) (hD:D.length≤12) :
    ∃ (d:Dy) (s8' s9':P.Slot),t1_d28 [.sh (.lst (ns.map .int)),.sh (.int 6),s2,.sh (.int lg),.ow (L.map .str),s5,.ow (D.map dyV),.sh (.int k),s8,s9] = .ok .nx [.sh (.lst (ns.map .int)),.sh (.int 6),s2,.sh (.int lg),.ow (L.map .str),s5,.ow ((D ++ [d]).map dyV),.sh (.int k),s8',s9']∧Zq lg d:=by
  have ha:=ZD ns (6+k)
  have e6:((6+k:Nat):Int)=6+(k:Int):=by omega
  rw [e6] at ha
  obtain ⟨v,hv⟩:∃ v,ns.getD (6+k) 0=v:=⟨_,rfl⟩
  rw [hv] at ha
  obtain ⟨xs,eg,hl,hx⟩:=ZR (v / 12+5*k) (n:=5*lg+2) (by omega)
  have el:((5*lg+2:Nat):Int)=5*(lg:Int)+2:=by omega
  rw [el] at eg
  have x0:∃ a,(xs.map PV.int)[0]? = some (.int a):=⟨xs[0],by simp⟩
  have x1:∃ b,(xs.map PV.int)[1]? = some (.int b):=⟨xs[1],by simp⟩
  obtain ⟨a,x0⟩:=x0
  obtain ⟨b,x1⟩:=x1
  have hm:¬ ((lg:Int)=0):=by omega
  have hm2:¬ lg=0:=by omega
  have hf:b.fmod (lg:Int)=b % lg:=Int.fmod_eq_emod_of_nonneg b (by omega)
  have b1:=Int.emod_nonneg b hm
  have b2:=Int.emod_lt_of_pos b (show 0<(lg:Int) by omega)
  obtain ⟨m,hmm⟩:∃ m:Nat,1+b % lg=(m:Int):=⟨(1+b % lg).toNat,by omega⟩
  have rr:=ZA (n:=m) (by omega)
  obtain ⟨os,q1,q2,q3⟩:=Z04 hl hlg (List.range m) (fun j hj=>by have:=List.mem_range.mp hj;omega) [] .no (by simp;omega)
  have hLk:(L.map PV.str)[k]? = some (.str L[k]):=by simp [hL,hk]
  refine ⟨(L[k],1+a*1907 % 1000000000,os),.ow (xs.map .int),.sh (.lst (os.map tnV)),?_,⟨by dsimp only;omega,by simp at q2;dsimp only;omega,q3⟩⟩
  have hz:D.length<16777216:=by omega
  rw [List.nil_append] at q1
  have hdl:(D.map dyV).length=D.length:=by simp
  generalize ns.map PV.int=NS at *
  generalize xs.map PV.int=XS at *
  generalize L[k]=nm at *
  generalize hLL:L.map PV.str=LS at *
  have hmp:(D ++ [((nm,1+a*1907 % 1000000000,os):Dy)]).map dyV=D.map dyV ++ [.tup [.str nm,.int (1+a*1907 % 1000000000),.lst (os.map tnV)]]:=by simp [dyV]
  rw [hmp]
  generalize D.map dyV=DS at *
  generalize hos:os.map tnV=OS at *
  rw [← hdl] at hz
  simp [t1_d28,ha,eg,x0,x1,hm2,hf,hmm,rr,q1,hLk,hz,-Zs]
theorem ZS (ns:List Int) {n lg:Nat} (hlg:lg≤100) (hl0:0<lg) {L:List Str} (hL:L.length=12) {v:Int}:∀ (ks:List Nat),(∀ k∈ks,k<12)→∀ (D:List Dy) (s7 s8 s9:P.Slot),D.length+ks.length≤12→(∀ d∈D,Zq lg d)→∃ ρ',forL (gN 7) t1_d28 (ks.map fun (i:Nat)=>PV.int (i:Int)) [.sh (.lst (ns.map .int)),.sh (.int 6),.sh (.int n),.sh (.int lg),.ow (L.map .str),.sh (.int v),.ow (D.map dyV),s7,s8,s9] = .ok .nx ρ'∧∃ (D':List Dy) (s7 s8 s9:P.Slot),ρ' = [.sh (.lst (ns.map .int)),.sh (.int 6),.sh (.int n),.sh (.int lg),.ow (L.map .str),.sh (.int v),.ow (D'.map dyV),s7,s8,s9]∧D'.length=D.length+ks.length∧∀ d∈D',Zq lg d
  | [],_,D,s7,s8,s9,_,h=>⟨_,rfl,D,s7,s8,s9,rfl,rfl,h⟩
  | k::ks,hk,D,s7,s8,s9,hl,h=>by
    obtain ⟨d,s8',s9',e,hd⟩:=Z0X ns (hk k List.mem_cons_self) hlg hl0 hL (.sh (.int n)) (.sh (.int v)) s8 s9 D (by simp at hl;omega)
    obtain ⟨ρ',q1,D',a,b,c,q2,q3,q4⟩:=ZS ns (n:=n) hlg hl0 hL (v:=v) ks (fun x hx=>hk x (List.mem_cons_of_mem _ hx)) (D ++ [d]) (.sh (.int k)) s8' s9' (by simp at hl ⊢;omega) (by
      intro x hx
      rcases List.mem_append.mp hx with hx | hx
      · exact h x hx
      · rw [List.mem_singleton.mp hx];exact hd)
    refine ⟨ρ',?_,D',a,b,c,q2,by simp at q3 ⊢;omega,q4⟩
    rw [List.map_cons,forL]
    have hg:gN 7 (PV.int (k:Int)) [.sh (.lst (ns.map .int)),.sh (.int 6),.sh (.int n),.sh (.int lg),.ow (L.map .str),.sh (.int v),.ow (D.map dyV),s7,s8,s9]=some [.sh (.lst (ns.map .int)),.sh (.int 6),.sh (.int n),.sh (.int lg),.ow (L.map .str),.sh (.int v),.ow (D.map dyV),.sh (.int k),s8,s9]:=rfl
    rw [hg]
    dsimp only
    rw [e]
    exact q1
theorem Z0f (ns:List Int) {n lg:Nat} (hn:n≤12) (hlg:lg≤100) (hl0:0<lg):∃ D:List Dy,m_d28 [.sh (.lst (ns.map .int)),.sh (.int 6),.sh (.int n),.sh (.int lg)] = .ret (.ow (D.map dyV))∧D.length=n∧∀ d∈D,Zq lg d:=by
  have h6:m_d37 [.sh (.lst (ns.map .int)),.sh (.int 6)] = .ret (.sh (.int (ns.getD 6 0))):=ZD ns 6
  obtain ⟨v,hv⟩:∃ v,ns.getD 6 0=v:=⟨_,rfl⟩
  rw [hv] at h6
  obtain ⟨L,e1,hL⟩:=Z0W (v % 12) (by omega) (by omega) [Str.ofString "ab",Str.ofString "a",Str.ofString "abc",Str.ofString "b",Str.ofString "ba",Str.ofString "z",Str.ofString "zz",Str.ofString "zzz",Str.ofString "abcdefgh",Str.ofString "abcdefgi",Str.ofString "aa",Str.ofString "bb"] rfl
  obtain ⟨ρ',q1,D,s7,s8,s9,rfl,q2,q3⟩:=ZS ns (n:=n) hlg hl0 hL (v:=v % 12) (List.range n) (fun k hk=>by have:=List.mem_range.mp hk;omega) [] .no .no .no (by simp;omega) (by simp)
  have rr:=ZA (n:=n) (by omega)
  refine ⟨D,?_,by simpa using q2,q3⟩
  generalize ns.map PV.int=NS at *
  simp only [List.map_cons,List.map_nil] at e1
  simp only [List.map_nil] at q1
  generalize D.map dyV=DS at *
  generalize L.map PV.str=LS at *
  simp [m_d28,mb_d28,List.replicate,slF,h6,e1,rr,q1,-Zs]
theorem Z0Y (c:Int):∃ w h:Nat,m_d26 [.sh (.int c),.sh (.int 9)] = .ret (.sh (.tup [.int w,.int h]))∧1≤w∧w≤20∧1≤h∧h≤20∧w*h≤20:=by
  by_cases h0:c / 7 % 16=11
  · have hd:c % 2=0∨c % 2=1:=by omega
    rcases hd with hd | hd
    · exact ⟨1,20,by simp [m_d26,mb_d26,List.replicate,h0,hd],by omega,by omega,by omega,by omega,by omega⟩
    · exact ⟨20,1,by simp [m_d26,mb_d26,List.replicate,h0,hd],by omega,by omega,by omega,by omega,by omega⟩
  · have hd:c % 5=0∨c % 5=1∨c % 5=2∨c % 5=3∨c % 5=4:=by omega
    rcases hd with hd | hd | hd | hd | hd
    · obtain ⟨h,hh⟩:∃ h:Nat,1+c / 5 % 4=(h:Int):=⟨(1+c / 5 % 4).toNat,by omega⟩
      exact ⟨1,h,by simp [m_d26,mb_d26,List.replicate,h0,hd,hh],by omega,by omega,by omega,by omega,by omega⟩
    · obtain ⟨h,hh⟩:∃ h:Nat,1+c / 5 % 4=(h:Int):=⟨(1+c / 5 % 4).toNat,by omega⟩
      exact ⟨2,h,by simp [m_d26,mb_d26,List.replicate,h0,hd,hh],by omega,by omega,by omega,by omega,by omega⟩
    · obtain ⟨h,hh⟩:∃ h:Nat,1+c / 5 % 3=(h:Int):=⟨(1+c / 5 % 3).toNat,by omega⟩
      exact ⟨3,h,by simp [m_d26,mb_d26,List.replicate,h0,hd,hh],by omega,by omega,by omega,by omega,by omega⟩
    · obtain ⟨h,hh⟩:∃ h:Nat,1+c / 5 % 2=(h:Int):=⟨(1+c / 5 % 2).toNat,by omega⟩
      exact ⟨4,h,by simp [m_d26,mb_d26,List.replicate,h0,hd,hh],by omega,by omega,by omega,by omega,by omega⟩
    · exact ⟨5,1,by simp [m_d26,mb_d26,List.replicate,h0,hd],by omega,by omega,by omega,by omega,by omega⟩
def ltA (w h:Nat) (T:List Th) (o:Option P3):Nat:=Z7 (w*h) fun k => !dkp w T o k
structure YOk (w h:Nat) (T:List Th):Prop where
  w0:0<w
  w1:w≤60
  h1:h≤1000
  wh:w*h≤1000
  tl:T.length≤1000
  tg:∀ t∈T,Z5 t.1 t.2=true
theorem Z0F {w h:Nat} {T:List Th} (Y:YOk w h T) (Ds:List Dy) {o:Option P3} (ho:RB' o):m_d38 [.sh (Z0 w h T Ds),.sh (tnV o)] = .ret (.sh (.int (ltA w h T o))):=by
  have e1:=ZM Y.w0 Y.w1 Y.h1 Y.wh Y.tl Ds Y.tg ho
  have e0:m_d42 [.sh (Z0 w h T Ds),.sh .non] = .ret (.sh (.int (dkA w h T none))):=ZM Y.w0 Y.w1 Y.h1 Y.wh Y.tl Ds Y.tg (o:=none) trivial
  have hb:Builtin.bitAnd (dkA w h T none:Int) (Builtin.bitNot (dkA w h T o:Int))=((ltA w h T o:Nat):Int):=by
    rw [Z0R]
    congr 1
    refine Zm fun k => ?_
    rw [Z00,dkA,dkA,Zc,Zc]
    by_cases hk:k<w*h<;>simp [hk,dkp]
  generalize Z0 w h T Ds=Yv at *
  generalize tnV o=O at *
  have hb':opBand (.int (dkA w h T none)) (.int (Builtin.bitNot (dkA w h T o:Int)))=some (.int (ltA w h T o)):=by
    rw [← hb];rfl
  simp [m_d38,mb_d38,List.replicate,e1,e0,hb']
def fnL (n:Nat) (H:Nat→Int):List PV:=(List.range n).map fun k => .int (H k)
theorem Z05 (H:Nat→Int):∀ (n a:Nat),enumP a ((List.range' a n).map fun k=>PV.int (H k))=(List.range' a n).map fun (k:Nat)=>PV.tup [.int k,.int (H k)]
  | 0,a=>rfl
  | n+1,a=>by
    rw [List.range'_succ,List.map_cons,List.map_cons]
    show _::enumP (a+1) _=_
    rw [Z05 H n (a+1)]
theorem Z1j (n:Nat) (H:Nat→Int):enumP 0 (fnL n H)=(List.range n).map fun (k:Nat)=>PV.tup [.int k,.int (H k)]:=by
  unfold fnL
  rw [List.range_eq_range']
  exact Z05 H n 0
def hst (w:Nat) (T:List Th) (t:Int) (o:Option P3) (H:Nat→Int):Nat→Int:=fun k=>H k+t*(if dkp w T o k then 0 else 1)
theorem Z1k (A k:Nat):opBand (.int ((A:Int) / 2 ^ k)) (.int 1)=some (.int (if A.testBit k then 1 else 0)):=by
  show some (PV.int (Builtin.bitAnd ((A:Int) / 2 ^ k) 1))=_
  rw [Z1I,Z0c]
theorem Z1M {w h:Nat} {T:List Th} (t:Int) (ht : -1000000000000≤t∧t≤1000000000000) (o:Option P3) (H:Nat→Int) (hn:w*h≤1000) (s2 s3:P.Slot) :
    compL (gT 2 (gsCons (gN 2) (gsCons (gN 3) gsNil))) mYes (mVal (mBinO opAdd (mVarR 3) (mBin opMulI (mVarR 0) (mBin opBand (mBin opShr (mVarR 1) (mVarR 2)) (mC (.int 1)))))) (enumP 0 (fnL (w*h) H)) [.sh (.int t),.sh (.int (ltA w h T o)),s2,s3] []=some (fnL (w*h) (hst w T t o H)):=by
  rw [Z1j]
  have hc:=compL_map (g:=gT 2 (gsCons (gN 2) (gsCons (gN 3) gsNil))) (mt:=mYes) (me:=mVal (mBinO opAdd (mVarR 3) (mBin opMulI (mVarR 0) (mBin opBand (mBin opShr (mVarR 1) (mVarR 2)) (mC (.int 1)))))) (fun (k:Nat)=>PV.tup [.int k,.int (H k)]) (fun k => .int (hst w T t o H k)) (fun ρ => ∃ a b,ρ = [.sh (.int t),.sh (.int (ltA w h T o)),a,b]) (List.range (w*h)) [.sh (.int t),.sh (.int (ltA w h T o)),s2,s3] [] ⟨_,_,rfl⟩ (by simp;omega) (by
    rintro k hk ρ ⟨a,b,rfl⟩
    have hk:=List.mem_range.mp hk
    have sb:=Z1k (ltA w h T o) k
    have hb:(ltA w h T o).testBit k = !dkp w T o k:=by rw [ltA,Zc];simp [hk]
    rw [hb] at sb
    have so:shrOk (ltA w h T o:Int) (k:Int)=true:=by unfold shrOk;simp
    have m1:∀ x,mulOk t x=true:=fun x=>mul_l (by omega) (by omega)
    refine ⟨[.sh (.int t),.sh (.int (ltA w h T o)),.sh (.int k),.sh (.int (H k))],_,[.sh (.int t),.sh (.int (ltA w h T o)),.sh (.int k),.sh (.int (H k))],by simp,rfl,?_,_,_,rfl⟩
    generalize ltA w h T o=A at *
    cases hd:dkp w T o k<;>rw [hd] at sb<;>simp at sb<;>simp [so,sb,m1,hst,hd])
  simpa [fnL] using hc
def ZI (w:Nat) (T:List Th) (d:Dy) (H:Nat→Int):Nat→Int:=d.2.2.foldl (fun H o=>hst w T d.2.1 o H) H
def hall (w:Nat) (T:List Th) (D:List Dy) (H:Nat→Int):Nat→Int:=D.foldl (fun H d=>ZI w T d H) H
theorem Z1l {w h:Nat} {T:List Th} (Y:YOk w h T) (Ds:List Dy) {t:Int} (ht : -1000000000000≤t∧t≤1000000000000) {o:Option P3} (ho:RB' o) (H:Nat→Int) (s2 s4 s6:P.Slot) :
    t1_d41 [.sh (Z0 w h T Ds),.ow (fnL (w*h) H),s2,.sh (.int t),s4,.sh (tnV o),s6] = .ok .nx [.sh (Z0 w h T Ds),.ow (fnL (w*h) (hst w T t o H)),s2,.sh (.int t),s4,.sh (tnV o),.sh (.int (ltA w h T o))]:=by
  have e1:=Z0F Y Ds ho
  have e2:=Z1M (T:=T) t ht o H Y.wh .no .no
  generalize Z0 w h T Ds=Yv at *
  generalize tnV o=O at *
  simp [t1_d41,e1,e2]
theorem Z0Z {w h:Nat} {T:List Th} (Y:YOk w h T) {lg:Nat} {D:List Dy} (hD:∀ d∈D,Zq lg d):m_d41 [.sh (Z0 w h T D)] = .ret (.ow (fnL (w*h) (hall w T D fun _=>0))):=by
  have yw:=y_w w h T D
  have yh:=y_h w h T D
  have yd:=y_d w h T D
  have mo:mulOk (w:Int) (h:Int)=true:=mul_l (by have:=Y.w1;omega) (by have:=Y.w1;omega)
  have rr:=ZA (n:=w*h) Y.wh
  rw [Int.natCast_mul] at rr
  have hc:=compL_map (g:=gN 0) (mt:=mYes) (me:=mC (.int 0)) (fun (k:Nat)=>PV.int k) (fun k=>PV.int ((fun (_:Nat)=>(0:Int)) k)) (fun ρ => ∃ a,ρ = [a]) (List.range (w*h)) [.no] [] ⟨_,rfl⟩ (by have:=Y.wh;simp;omega) (by
    rintro k hk ρ ⟨a,rfl⟩
    exact ⟨_,_,_,rfl,rfl,rfl,_,rfl⟩)
  rw [List.nil_append] at hc
  obtain ⟨ρ',e1,s2,s3,s4,s5,s6,rfl⟩:=forL_fold (g:=gT 3 (gsCons (gN 2) (gsCons (gN 3) (gsCons (gN 4) gsNil)))) (mb:=t2_d41) dyV (fun H d=>ZI w T d H) (fun H ρ => ∃ s2 s3 s4 s5 s6,ρ = [.sh (Z0 w h T D),.ow (fnL (w*h) H),s2,s3,s4,s5,s6]) D (by
    rintro d hd H ρ ⟨s2,s3,s4,s5,s6,rfl⟩
    obtain ⟨dt,_,dr⟩:=hD d hd
    obtain ⟨ρ2,q1,s5',s6',rfl⟩:=forL_fold (g:=gN 5) (mb:=t1_d41) tnV (fun H o=>hst w T d.2.1 o H) (fun H ρ => ∃ s5 s6,ρ = [.sh (Z0 w h T D),.ow (fnL (w*h) H),.sh (.str d.1),.sh (.int d.2.1),.sh (.lst (d.2.2.map tnV)),s5,s6]) d.2.2 (by
      rintro o ho H ρ ⟨s5,s6,rfl⟩
      exact ⟨_,_,rfl,Z1l Y D (by omega) (dr o ho) H _ _ _,_,_,rfl⟩) H [.sh (Z0 w h T D),.ow (fnL (w*h) H),.sh (.str d.1),.sh (.int d.2.1),.sh (.lst (d.2.2.map tnV)),s5,s6] ⟨_,_,rfl⟩
    refine ⟨[.sh (Z0 w h T D),.ow (fnL (w*h) H),.sh (.str d.1),.sh (.int d.2.1),.sh (.lst (d.2.2.map tnV)),s5,s6],_,by simp [dyV],by simp [t2_d41,q1];exact ⟨rfl,rfl,rfl,rfl,rfl,rfl⟩,_,_,_,_,_,rfl⟩) (fun _=>0) [.sh (Z0 w h T D),.ow (fnL (w*h) fun _=>0),.no,.no,.no,.no,.no] ⟨_,_,_,_,_,rfl⟩
  generalize Z0 w h T D=Yv at *
  change compL _ _ _ _ _ _=some (fnL (w*h) fun _=>0) at hc
  generalize fnL (w*h) (fun _=>0)=F0 at *
  unfold hall
  generalize fnL (w*h) (List.foldl (fun H d=>ZI w T d H) (fun _=>0) D)=F1 at *
  simp [m_d41,mb_d41,List.replicate,yw,yh,yd,mo,rr,hc,e1]
def evp (w:Nat) (T:List Th) (D:List Dy) (k:Nat):Bool:=D.any fun d=>d.2.2.any fun o => !dkp w T o k
theorem Z0s {w h:Nat} {T:List Th} {D:List Dy} {i:Nat} (hi:i<D.length):m_d35 [.sh (Z0 w h T D),.sh (.int i)] = .ret (.sh (.lst (D[i].2.2.map tnV))):=by
  have yd:=y_d w h T D
  have hx:(D.map dyV)[i]? = some (dyV D[i]):=by simp [hi]
  generalize Z0 w h T D=Yv at *
  generalize D.map dyV=DV at *
  simp [m_d35,mb_d35,List.replicate,yd,hx]
  simp [dyV]
theorem Z1m {w h:Nat} {T:List Th} (Y:YOk w h T) {lg:Nat} {D:List Dy} (hD:∀ d∈D,Zq lg d) (hl:D.length≤1000):m_d36 [.sh (Z0 w h T D)] = .ret (.sh (.int (Z7 (w*h) (evp w T D)))):=by
  have yd:=y_d w h T D
  have rr:=ZA (n:=D.length) hl
  obtain ⟨ρ',e1,B,s2,s3,rfl,hB⟩:=forL_fold (g:=gN 2) (mb:=t2_d36) (fun (i:Nat)=>PV.int i) (fun (b:List Nat) (x:Nat)=>x::b) (fun b ρ => ∃ (B:Nat) (s2 s3:P.Slot),ρ = [.sh (Z0 w h T D),.sh (.int B),s2,s3]∧∀ k,B.testBit k=true↔(k<w*h∧∃ i∈b,∃ hi:i<D.length,∃ o∈D[i].2.2,dkp w T o k=false)) (List.range D.length) (by
    rintro i hi b ρ ⟨B,s2,s3,rfl,hB⟩
    have hi:=List.mem_range.mp hi
    have et:=Z0s (w:=w) (h:=h) (T:=T) hi
    obtain ⟨ρ2,q1,B2,s3',rfl,hB2⟩:=forL_fold (g:=gN 3) (mb:=t1_d36) tnV (fun (b:List (Option P3)) (x:Option P3)=>x::b) (fun b ρ => ∃ (B2:Nat) (s3:P.Slot),ρ = [.sh (Z0 w h T D),.sh (.int B2),.sh (.int i),s3]∧∀ k,B2.testBit k=true↔(B.testBit k=true∨(k<w*h∧∃ o∈b,dkp w T o k=false))) D[i].2.2 (by
      rintro o ho b ρ ⟨B2,s3,rfl,hB2⟩
      have el:=Z0F Y D ((hD D[i] (List.getElem_mem hi)).2.2 o ho)
      generalize Z0 w h T D=Yv at *
      generalize hO:tnV o=O at *
      refine ⟨_,_,rfl,by simp [t1_d36,el,ZZ];exact ⟨rfl,rfl⟩,_,_,rfl,fun k => ?_⟩
      rw [Nat.testBit_or,Bool.or_eq_true,hB2,ltA,Zc,Bool.and_eq_true,decide_eq_true_eq]
      simp
      grind) [] [.sh (Z0 w h T D),.sh (.int B),.sh (.int i),s3] ⟨B,s3,rfl,by simp⟩
    refine ⟨_,[.sh (Z0 w h T D),.sh (.int B2),.sh (.int i),s3'],rfl,?_,_,_,_,rfl,fun k => ?_⟩
    · generalize Z0 w h T D=Yv at *
      simp [t2_d36,et,q1]
    · rw [hB2,hB]
      simp only [Zr,List.not_mem_nil,or_false,List.mem_cons]
      constructor
      · rintro (⟨a,j,hj,hj2,o,ho,hd⟩ | ⟨a,o,ho,hd⟩)
        · exact ⟨a,j,.inr hj,hj2,o,ho,hd⟩
        · exact ⟨a,i,.inl rfl,hi,o,ho,hd⟩
      · rintro ⟨a,j,rfl | hj,hj2,o,ho,hd⟩
        · exact .inr ⟨a,o,ho,hd⟩
        · exact .inl ⟨a,j,hj,hj2,o,ho,hd⟩) [] [.sh (Z0 w h T D),.sh (.int ((0:Nat):Int)),.no,.no] ⟨0,.no,.no,rfl,by simp⟩
  have hBe:B=Z7 (w*h) (evp w T D):=Zm fun k=>by
    have:=hB k
    rw [Bool.eq_iff_iff,this]
    simp only [Zr,List.mem_range,List.not_mem_nil,or_false,evp,Bool.and_eq_true,decide_eq_true_eq,List.any_eq_true,Bool.not_eq_true']
    constructor
    · rintro ⟨a,i,hi,hi2,o,ho,hd⟩
      exact ⟨a,D[i],List.getElem_mem hi,o,ho,hd⟩
    · rintro ⟨a,d,hd,o,ho,he⟩
      obtain ⟨i,hi,rfl⟩:=List.mem_iff_getElem.mp hd
      exact ⟨a,i,hi,hi,o,ho,he⟩
  subst hBe
  have hdl:(D.map dyV).length=D.length:=by simp
  generalize Z0 w h T D=Yv at *
  generalize D.map dyV=DV at *
  rw [← hdl] at rr e1
  simp at e1
  simp [m_d36,mb_d36,List.replicate,yd,rr,e1]
theorem Z1E (w:Nat) (T:List Th) {t:Int} (ht:1≤t) (o:Option P3) (H:Nat→Int) (k:Nat):(dkp w T o k=true→hst w T t o H k=H k)∧(dkp w T o k=false→H k<hst w T t o H k):=by
  unfold hst
  constructor
  · intro h;simp [h]
  · intro h;simp [h];omega
theorem Z0g (w:Nat) (T:List Th) (t:Int) (ht:1≤t) (k:Nat):∀ (os:List (Option P3)) (H:Nat→Int),H k≤os.foldl (fun H o=>hst w T t o H) H k∧((os.any fun o => !dkp w T o k)=true↔H k<os.foldl (fun H o=>hst w T t o H) H k)
  | [],H=>by simp
  | o::os,H=>by
    obtain ⟨i1,i2⟩:=Z0g w T t ht k os (hst w T t o H)
    obtain ⟨g1,g2⟩:=Z1E w T ht o H k
    rw [List.foldl_cons,List.any_cons,Bool.or_eq_true,i2]
    cases hd:dkp w T o k with
    | true=>have:=g1 hd;simp;omega
    | false=>have:=g2 hd;simp;omega
theorem Z0h (w:Nat) (T:List Th) {lg:Nat} (k:Nat):∀ (D:List Dy) (H:Nat→Int),(∀ d∈D,Zq lg d)→H k≤hall w T D H k∧(evp w T D k=true↔H k<hall w T D H k)
  | [],H,_=>by simp [hall,evp]
  | d::D,H,hD=>by
    obtain ⟨i1,i2⟩:=Z0h w T k D (ZI w T d H) fun x hx=>hD x (List.mem_cons_of_mem _ hx)
    obtain ⟨g1,g2⟩:=Z0g w T d.2.1 (hD d List.mem_cons_self).1.1 k d.2.2 H
    change H k≤ZI w T d H k at g1
    change _↔H k<ZI w T d H k at g2
    unfold hall evp at *
    rw [List.foldl_cons,List.any_cons,Bool.or_eq_true,i2,g2]
    omega
theorem Z06 (p:Nat→Bool):∀ n,(((List.range n).filter p).map fun (k:Nat)=>((2:Int) ^ k)).sum=(Z7 n p:Int)
  | 0=>rfl
  | n+1=>by
    rw [List.range_succ,List.filter_append,List.map_append,List.sum_append,Z06 p n]
    show _=((Z7 n p+if p n=true then 2 ^ n else 0:Nat):Int)
    cases h:p n<;>simp [h]
def Zn (t:Th):PV:=.tup [.str t.1,.lst (t.2.map .int)]
theorem Z1F (w h:Nat):fMax1 [.tup [.int w,.int h]]=some (.int ((max w h:Nat):Int)):=by
  show some (PV.int (max (w:Int) h))=_
  congr 2
  omega
theorem Z07 {w h:Nat} (hw:1≤w∧w≤20) (hh:1≤h∧h≤20):∀ (cs:List Int) (acc:List PV) (s1:P.Slot),acc.length+cs.length≤1000→∃ T:List Th,compL (gN 1) mYes (mVal (mCall m_d22 (mAName 1 (mACons (mCB fMax1 (mCons (mVarR 0) mNil)) mANil)))) (cs.map .int) [.sh (.tup [.int w,.int h]),s1] acc=some (acc++T.map Zn)∧T.length=cs.length∧∀ t∈T,Z5 t.1 t.2=true
  | [],acc,s1,_=>⟨[],by simp [compL],rfl,by simp⟩
  | c::cs,acc,s1,ha=>by
    obtain ⟨t,e1,e2⟩:=Z0E c (w:=((max w h:Nat):Int)) (by omega) (by omega)
    obtain ⟨T,q1,q2,q3⟩:=Z07 hw hh cs (acc ++ [Zn t]) (.sh (.int c)) (by simp at ha ⊢;omega)
    refine ⟨t::T,?_,by simp [q2],?_⟩
    · have hz:acc.length<16777216:=by simp at ha;omega
      have mx:=Z1F w h
      change m_d22 _ = .ret (.sh (Zn t)) at e1
      generalize hR:Zn t=R at *
      generalize ((max w h:Nat):Int)=m at *
      rw [List.map_cons,compL]
      simp [mx,e1,hz,hR]
      simpa using q1
    · intro x hx
      rcases List.mem_cons.mp hx with rfl | hx
      · exact e2
      · exact q3 x hx
theorem Z10 {w:Str} {xs:List Int} (h:Z5 w xs=true):PyData.strOk w=true:=by
  unfold Z5 at h
  by_cases e1:w = "post"
  · rw [e1];exact s1
  rw [if_neg e1] at h
  by_cases e2:w = "fence"
  · rw [e2];exact s2
  rw [if_neg e2] at h
  by_cases e3:w = "sail"
  · rw [e3];exact s3
  rw [if_neg e3] at h
  by_cases e4:w = "cloth"
  · rw [e4];exact s4
  rw [if_neg e4] at h
  by_cases e5:w = "house"
  · rw [e5];exact s5
  rw [if_neg e5] at h
  cases h
theorem Z0G {T:List Th} (hl:T.length≤1000) (hg:∀ t∈T,Z5 t.1 t.2=true) (s0 s1:P.Slot):compL (gT 2 (gsCons (gN 0) (gsCons (gN 1) gsNil))) mYes (mVal (mCall m_d33 (mAName 0 (mACons (mVal (mCBO fList (mCons (mVarR 1) mNil))) mANil)))) (T.map Zn) [s0,s1] []=some (T.map thV):=by
  have hc:=compL_map (g:=gT 2 (gsCons (gN 0) (gsCons (gN 1) gsNil))) (mt:=mYes) (me:=mVal (mCall m_d33 (mAName 0 (mACons (mVal (mCBO fList (mCons (mVarR 1) mNil))) mANil)))) Zn thV (fun ρ => ∃ a b,ρ = [a,b]) T [s0,s1] [] ⟨_,_,rfl⟩ (by simp;omega) (by
    rintro t ht ρ ⟨a,b,rfl⟩
    have e:=Z0O (Z10 (hg t ht)) (xs:=t.2) (sl:=.sh (.lst (t.2.map .int))) (.inl rfl)
    rw [if_pos (hg t ht)] at e
    change m_d33 _ = .ret (.sh (thV t)) at e
    refine ⟨[.sh (.str t.1),.sh (.lst (t.2.map .int))],_,[.sh (.str t.1),.sh (.lst (t.2.map .int))],by simp [Zn],rfl,?_,_,_,rfl⟩
    generalize t.2.map PV.int=X at *
    generalize thV t=V at *
    simp [e])
  simpa using hc
theorem Z1n (n:Nat) (H:Nat→Int):fnL n H=((List.range n).map H).map .int:=by unfold fnL;simp
theorem Z1N (n:Nat) (H:Nat→Int):opNe (.lst (fnL n H)) (.lst (fnL n H))=some (.bl false):=by
  rw [Z1n]
  exact opNe_refl (by unfold dOk;exact dOk_ints _) (by unfold dep;have:=dep_ints ((List.range n).map H);omega)
theorem Z1G (x:Int):fIsiX Zh Zi Zj Zk [.int x,.ty "int"]=some (.bl true):=rfl
theorem Z1o (x:Int):fIsiX Zh Zi Zj Zk [.int x,.ty "bool"]=some (.bl false):=rfl
theorem Z1p (x:List PV):fIsiX Zh Zi Zj Zk [.lst x,.ty "list"]=some (.bl true):=rfl
theorem Z08 {n:Nat} (hn:n≤1000) (H:Nat→Int) {s0 s1:P.Slot} (h0:Sl s0 (fnL n H)) (h1:Sl s1 (fnL n H)):m_d23 [s0,s1] = .ret (.sh (.bl true)):=by
  have e:=Z1N n H
  have hc:=compL_map (g:=gN 0) (mt:=mYes) (me:=mAnd (mCB (fIsiX Zh Zi Zj Zk) (mCons (mVarR 0) (mCons (mC (.ty "int")) mNil))) (mNot (mCB (fIsiX Zh Zi Zj Zk) (mCons (mVarR 0) (mCons (mC (.ty "bool")) mNil))))) (fun k=>PV.int (H k)) (fun _ => .bl true) (fun ρ => ∃ a,ρ = [a]) (List.range n) [.no] [] ⟨_,rfl⟩ (by simp;omega) (by
    rintro k hk ρ ⟨a,rfl⟩
    exact ⟨[.sh (.int (H k))],_,[.sh (.int (H k))],rfl,rfl,by simp [Z1G,Z1o],_,rfl⟩)
  rw [List.nil_append] at hc
  change compL _ _ _ (fnL n H) _ _=_ at hc
  have ha:fAll [.lst ((List.range n).map fun _=>PV.bl true)]=some (.bl true):=by
    have:=Z0x ((List.range n).map fun _=>true)
    rw [List.map_map] at this
    have e2:((List.range n).map fun _=>true).all id=true:=by simp
    rw [e2] at this
    exact this
  generalize fnL n H=X at *
  rcases h0 with rfl | rfl<;>rcases h1 with rfl | rfl<;>simp [m_d23,mb_d23,List.replicate,e,hc,Z1p,ha]
theorem Z11 {w h:Nat} {T:List Th} (t:Int) (ht : -1000000000000≤t∧t≤1000000000000) (o:Option P3) (H:Nat→Int) (hn:w*h≤1000) (s3:P.Slot) :
    compL (gN 3) mYes (mVal (mBinO opAdd (mBin opIx (mVarR 0) (mVarR 3)) (mBin opMulI (mVarR 1) (mBin opSub (mC (.int 1)) (mBin opMod (mBin opShr (mVarR 2) (mVarR 3)) (mC (.int 2))))))) ((List.range (w*h)).map fun (i:Nat)=>PV.int (i:Int)) [.bw (fnL (w*h) H),.sh (.int t),.sh (.int (dkA w h T o)),s3] []=some (fnL (w*h) (hst w T t o H)):=by
  have hc:=compL_map (g:=gN 3) (mt:=mYes) (me:=mVal (mBinO opAdd (mBin opIx (mVarR 0) (mVarR 3)) (mBin opMulI (mVarR 1) (mBin opSub (mC (.int 1)) (mBin opMod (mBin opShr (mVarR 2) (mVarR 3)) (mC (.int 2))))))) (fun (k:Nat)=>PV.int (k:Int)) (fun k => .int (hst w T t o H k)) (fun ρ => ∃ a,ρ = [.bw (fnL (w*h) H),.sh (.int t),.sh (.int (dkA w h T o)),a]) (List.range (w*h)) [.bw (fnL (w*h) H),.sh (.int t),.sh (.int (dkA w h T o)),s3] [] ⟨_,rfl⟩ (by simp;omega) (by
    rintro k hk ρ ⟨a,rfl⟩
    have hk:=List.mem_range.mp hk
    have hb:(dkA w h T o).testBit k=dkp w T o k:=by rw [dkA,Zc];simp [hk]
    have sb:=Z0c (dkA w h T o) k
    rw [hb] at sb
    have so:shrOk (dkA w h T o:Int) (k:Int)=true:=by unfold shrOk;simp
    have m1:∀ x,mulOk t x=true:=fun x=>mul_l (by omega) (by omega)
    have hx:(fnL (w*h) H)[k]? = some (.int (H k)):=by unfold fnL;simp [hk]
    refine ⟨[.bw (fnL (w*h) H),.sh (.int t),.sh (.int (dkA w h T o)),.sh (.int k)],_,[.bw (fnL (w*h) H),.sh (.int t),.sh (.int (dkA w h T o)),.sh (.int k)],rfl,rfl,?_,_,rfl⟩
    generalize fnL (w*h) H=F at *
    generalize dkA w h T o=A at *
    cases hd:dkp w T o k<;>rw [hd] at sb<;>simp at sb<;>simp [so,sb,m1,hst,hd,hx])
  simpa [fnL] using hc
theorem Z12 {w h:Nat} {T:List Th} (Y:YOk w h T) (D:List Dy) {t:Int} (ht : -1000000000000≤t∧t≤1000000000000) {o:Option P3} (ho:RB' o) (H:Nat→Int) (z0 z1 z2 z3 z4 z7 z8 z9 z11 z13:P.Slot) :
    t1_d44 [z0,z1,z2,z3,z4,.sh (Z0 w h T D),.ow (fnL (w*h) H),z7,z8,z9,.sh (.int t),z11,.sh (tnV o),z13] = .ok .nx [z0,z1,z2,z3,z4,.sh (Z0 w h T D),.ow (fnL (w*h) (hst w T t o H)),z7,z8,z9,.sh (.int t),z11,.sh (tnV o),.sh (.int (dkA w h T o))]:=by
  have e1:=ZM Y.w0 Y.w1 Y.h1 Y.wh Y.tl D Y.tg ho
  have e2:=Z11 (T:=T) t ht o H Y.wh .no
  have rr:=ZA (n:=w*h) Y.wh
  have hl:(fnL (w*h) H).length=w*h:=by simp [fnL]
  have rr':rngF1 [.int ((fnL (w*h) H).length:Int)]=some ((List.range (w*h)).map fun (i:Nat)=>PV.int (i:Int)):=by rw [hl];exact rr
  generalize Z0 w h T D=Yv at *
  generalize tnV o=O at *
  generalize fnL (w*h) H=F at *
  simp [t1_d44,e1,rr',e2]
theorem Z13 {w h:Nat} {T:List Th} (Y:YOk w h T) {lg:Nat} {D:List Dy} (hD:∀ d∈D,Zq lg d) (z0 z1 z2 z3 z4 z7 z8:P.Slot) (z9 z10 z11 z12 z13:P.Slot):∃ z9' z10' z11' z12' z13',forL (gT 3 (gsCons (gN 9) (gsCons (gN 10) (gsCons (gN 11) gsNil)))) t2_d44 (D.map dyV) [z0,z1,z2,z3,z4,.sh (Z0 w h T D),.ow (fnL (w*h) fun _=>0),z7,z8,z9,z10,z11,z12,z13] = .ok .nx [z0,z1,z2,z3,z4,.sh (Z0 w h T D),.ow (fnL (w*h) (hall w T D fun _=>0)),z7,z8,z9',z10',z11',z12',z13']:=by
  obtain ⟨ρ',e1,a,b,c,d,e,rfl⟩:=forL_fold (g:=gT 3 (gsCons (gN 9) (gsCons (gN 10) (gsCons (gN 11) gsNil)))) (mb:=t2_d44) dyV (fun H d=>ZI w T d H) (fun H ρ => ∃ a b c d e,ρ = [z0,z1,z2,z3,z4,.sh (Z0 w h T D),.ow (fnL (w*h) H),z7,z8,a,b,c,d,e]) D (by
    rintro d hd H ρ ⟨s2,s3,s4,s5,s6,rfl⟩
    obtain ⟨dt,_,dr⟩:=hD d hd
    obtain ⟨ρ2,q1,s5',s6',rfl⟩:=forL_fold (g:=gN 12) (mb:=t1_d44) tnV (fun H o=>hst w T d.2.1 o H) (fun H ρ => ∃ s5 s6,ρ = [z0,z1,z2,z3,z4,.sh (Z0 w h T D),.ow (fnL (w*h) H),z7,z8,.sh (.str d.1),.sh (.int d.2.1),.sh (.lst (d.2.2.map tnV)),s5,s6]) d.2.2 (by
      rintro o ho H ρ ⟨s5,s6,rfl⟩
      exact ⟨_,_,rfl,Z12 Y D (by omega) (dr o ho) H _ _ _ _ _ _ _ _ _ _,_,_,rfl⟩) H [z0,z1,z2,z3,z4,.sh (Z0 w h T D),.ow (fnL (w*h) H),z7,z8,.sh (.str d.1),.sh (.int d.2.1),.sh (.lst (d.2.2.map tnV)),s5,s6] ⟨_,_,rfl⟩
    refine ⟨[z0,z1,z2,z3,z4,.sh (Z0 w h T D),.ow (fnL (w*h) H),z7,z8,.sh (.str d.1),.sh (.int d.2.1),.sh (.lst (d.2.2.map tnV)),s5,s6],_,by simp [dyV],by simp [t2_d44,q1];exact ⟨rfl,rfl,rfl,rfl,rfl,rfl⟩,_,_,_,_,_,rfl⟩) (fun _=>0) [z0,z1,z2,z3,z4,.sh (Z0 w h T D),.ow (fnL (w*h) fun _=>0),z7,z8,z9,z10,z11,z12,z13] ⟨_,_,_,_,_,rfl⟩
  exact ⟨a,b,c,d,e,e1⟩
theorem Z14 {n:Nat} (hn:n≤1000) (H:Nat→Int) (s1:P.Slot):∃ L:List PV,compL (gN 1) (mBl (mBin opGt (mBin opIx (mVarR 0) (mVarR 1)) (mC (.int 0)))) (mBin opShl (mC (.int 1)) (mVarR 1)) ((List.range n).map fun (i:Nat)=>PV.int (i:Int)) [.bw (fnL n H),s1] []=some L∧fSum [.lst L]=some (.int (Z7 n fun k=>decide (0<H k))):=by
  have hc:=compL_filter (g:=gN 1) (mt:=mBl (mBin opGt (mBin opIx (mVarR 0) (mVarR 1)) (mC (.int 0)))) (me:=mBin opShl (mC (.int 1)) (mVarR 1)) (fun (k:Nat)=>PV.int (k:Int)) (fun (k:Nat) => .int ((2:Int) ^ k)) (fun k=>decide (0<H k)) (fun ρ => ∃ a,ρ = [.bw (fnL n H),a]) (List.range n) [.bw (fnL n H),s1] [] ⟨_,rfl⟩ (by simp;omega) (by
    rintro k hk ρ ⟨a,rfl⟩
    have hk:=List.mem_range.mp hk
    have hx:(fnL n H)[k]? = some (.int (H k)):=by unfold fnL;simp [hk]
    have so:=Z0U (k:=k) (by omega)
    generalize fnL n H=F at *
    refine ⟨[.bw F,.sh (.int k)],[.bw F,.sh (.int k)],rfl,?_,fun _=>⟨_,rfl⟩,fun _=>⟨[.bw F,.sh (.int k)],by simp [so],_,rfl⟩⟩
    simp [hx])
  refine ⟨_,hc,?_⟩
  rw [List.nil_append]
  have e:((List.range n).filter fun k=>decide (0<H k)).map (fun (k:Nat)=>PV.int ((2:Int) ^ k))=(((List.range n).filter fun k=>decide (0<H k)).map fun (k:Nat)=>((2:Int) ^ k)).map .int:=by simp
  rw [e]
  show ((intsOf _).map fun ns=>PV.int ns.sum)=_
  rw [intsOf_map,Option.map_some,Z06]
noncomputable def ZL:M Fl:=(mSeq (mSet 4 (mComp [] 2 (mIterN 2) (gT 2 (gsCons (gN 0) (gsCons (gN 1) gsNil))) mYes (mVal (mCall m_d33 (mAName 0 (mACons (mVal (mCBO fList (mCons (mVarR 1) mNil))) mANil)))))) (mSeq (mSet 5 (mSh (mMake "Yard" mi_Yard (mACons (mBin opIx (mVarR 1) (mC (.int 0))) (mACons (mBin opIx (mVarR 1) (mC (.int 1))) (mAName 4 (mAName 3 mANil))))))) (mSeq (mSet 6 (mComp [] 1 (mRange rngF1 (mCons (mBin opMulI (mBin opIx (mVarR 1) (mC (.int 0))) (mBin opIx (mVarR 1) (mC (.int 1)))) mNil)) (gN 0) mYes (mC (.int 0)))) (mSeq (mFor (mIterN 3) (gT 3 (gsCons (gN 9) (gsCons (gN 10) (gsCons (gN 11) gsNil)))) t2_d44) (mSeq (mSet 7 (mCall m_d41 (mAName 5 mANil))) (mSeq (mIf (mNotT (mTru (mVal (mCall m_d23 (mAName 7 (mAName 6 mANil)))))) (mRet (mSh (mC (.bl false)))) mNx) (mSeq (mApp 7 (mC (.int 0))) (mSeq (mSet 8 (mCall m_d36 (mAName 5 mANil))) (mSeq (mIf (mOrT (mNotT (mTru (mCB (fIsiX Zh Zi Zj Zk) (mCons (mVarR 8) (mCons (mC (.ty "int")) mNil))))) (mTru (mCB (fIsiX Zh Zi Zj Zk) (mCons (mVarR 8) (mCons (mC (.ty "bool")) mNil))))) (mRet (mSh (mC (.bl false)))) mNx) (mSeq (mIf (mBl (mBin opNe (mVarR 8) (mCB fSum (mCons (mVal (mComp [6] 1 (mRange rngF1 (mCons (mCB fLen (mCons (mVarR 6) mNil)) mNil)) (gN 1) (mBl (mBin opGt (mBin opIx (mVarR 0) (mVarR 1)) (mC (.int 0)))) (mBin opShl (mC (.int 1)) (mVarR 1)))) mNil)))) (mRet (mSh (mC (.bl false)))) mNx) (mRet (mSh (mAnd (mVal (mCall m_d23 (mACons (mVal (mCall m_d41 (mAName 5 mANil))) (mAName 6 mANil)))) (mBin opEq (mVal (mCall m_d36 (mAName 5 mANil))) (mVarR 8)))))))))))))))
noncomputable def ZN:M Fl:=(mIf (mBl (mBin opEq (mBin opMod (mBin opFdv (mVal (mCall m_d37 (mAName 0 (mACons (mC (.int 1)) mANil)))) (mC (.int 4))) (mC (.int 16))) (mC (.int 9)))) (mSeq (mSet 1 (mSh (mTup (mCons (mVal (mBinO opAdd (mC (.int 1)) (mBin opMod (mVal (mCall m_d37 (mAName 0 (mACons (mC (.int 0)) mANil)))) (mC (.int 2))))) (mCons (mC (.int 1)) mNil))))) (mSeq (mSet 2 (mSl (mVarR 2) mNoP (mP (mC (.int 1))))) (mSet 3 (mCall m_d28 (mAName 0 (mACons (mC (.int 6)) (mACons (mC (.int 12)) (mACons (mC (.int 8)) mANil)))))))) mNx)
theorem Z1R:mb_d44=(mSeq (mSet 1 (mCall m_d26 (mACons (mVal (mCall m_d37 (mAName 0 (mACons (mC (.int 0)) mANil)))) (mACons (mC (.int 9)) mANil)))) (mSeq (mSet 2 (mComp [1] 1 (mItems (mVal (mSl (mVarR 0) (mP (mC (.int 2))) (mP (mC (.int 6)))))) (gN 1) mYes (mVal (mCall m_d22 (mAName 1 (mACons (mCB fMax1 (mCons (mVarR 0) mNil)) mANil)))))) (mSeq (mSet 3 (mCall m_d28 (mAName 0 (mACons (mC (.int 6)) (mACons (mBin opMod (mVal (mCall m_d37 (mAName 0 (mACons (mC (.int 1)) mANil)))) (mC (.int 4))) (mACons (mC (.int 4)) mANil)))))) (mSeq ZN ZL)))):=rfl
theorem Z0i {w h:Nat} (hw:1≤w∧w≤20) (hh:1≤h∧h≤20) (hwh:w*h≤20) {T:List Th} (hT:T.length≤100) (hg:∀ t∈T,Z5 t.1 t.2=true) {lg:Nat} {D:List Dy} (hDl:D.length≤12) (hD:∀ d∈D,Zq lg d) (z0 z4 z5 z6 z7 z8 z9 z10 z11 z12 z13:P.Slot) :
    FR.of (ZL [z0,.sh (.tup [.int w,.int h]),.ow (T.map Zn),.ow (D.map dyV),z4,z5,z6,z7,z8,z9,z10,z11,z12,z13]) = .ret (.sh (.bl true)):=by
  have Y:YOk w h T:=⟨by omega,by omega,by omega,by omega,by omega,hg⟩
  have q1:=Z0G (T:=T) (by omega) hg .no .no
  have q2:=Z1g (w:Int) (h:Int) (T:=T) (D:=D) (by omega) (by omega) (s3:=.bw (T.map thV)) (s4:=.bw (D.map dyV)) (.inr rfl) (.inr rfl)
  have mo:mulOk (w:Int) (h:Int)=true:=mul_l (by omega) (by omega)
  have rr:=ZA (n:=w*h) (by omega)
  rw [Int.natCast_mul] at rr
  have hc:=compL_map (g:=gN 0) (mt:=mYes) (me:=mC (.int 0)) (fun (k:Nat)=>PV.int k) (fun k=>PV.int ((fun (_:Nat)=>(0:Int)) k)) (fun ρ => ∃ a,ρ = [a]) (List.range (w*h)) [.no] [] ⟨_,rfl⟩ (by simp;omega) (by
    rintro k hk ρ ⟨a,rfl⟩
    exact ⟨_,_,_,rfl,rfl,rfl,_,rfl⟩)
  rw [List.nil_append] at hc
  change compL _ _ _ _ _ _=some (fnL (w*h) fun _=>0) at hc
  have q5:=Z0Z Y hD
  have q7:=Z1m Y hD (by omega)
  have hev:Z7 (w*h) (evp w T D)=Z7 (w*h) fun k=>decide (0<hall w T D (fun _=>0) k):=Z09 fun k hk=>by
    obtain ⟨g1,g2⟩:=Z0h w T k D (fun _=>0) hD
    rw [Bool.eq_iff_iff,g2,decide_eq_true_eq]
  rw [hev] at q7
  obtain ⟨a,b,c,d,e,q4⟩:=Z13 Y hD z0 (.sh (.tup [.int w,.int h])) (.sh (.lst (T.map Zn))) (.sh (.lst (D.map dyV))) (.ow (T.map thV)) z7 z8 z9 z10 z11 z12 z13
  generalize hall w T D (fun _=>0)=H at *
  obtain ⟨L,q8,q9⟩:=Z14 (n:=w*h) (by omega) H .no
  have q6:=Z08 (n:=w*h) (by omega) H (s0:=.bw (fnL (w*h) H)) (s1:=.bw (fnL (w*h) H)) (.inr rfl) (.inr rfl)
  have q6':=Z08 (n:=w*h) (by omega) H (s0:=.sh (.lst (fnL (w*h) H))) (s1:=.bw (fnL (w*h) H)) (.inl rfl) (.inr rfl)
  have hl:(fnL (w*h) H).length=w*h:=by simp [fnL]
  have hlt:(fnL (w*h) H).length<16777216:=by rw [hl];omega
  have rr2:rngF1 [.int ((fnL (w*h) H).length:Int)]=some ((List.range (w*h)).map fun (i:Nat)=>PV.int (i:Int)):=by rw [hl,Int.natCast_mul];exact rr
  change mi_Yard _ = .ok _ _ at q2
  have hY:PV.ins "Yard" ["width", "height", "things", "days"] [.int w,.int h,.lst (T.map thV),.lst (D.map dyV)]=Z0 w h T D:=rfl
  have b1:∀ x:Int,fIsiX Zh Zi Zj Zk [.int x,.ty "int"]=some (.bl true):=fun _=>rfl
  have b2:∀ x:Int,fIsiX Zh Zi Zj Zk [.int x,.ty "bool"]=some (.bl false):=fun _=>rfl
  generalize Z7 (w*h) (fun k=>decide (0<H k))=B at *
  generalize Z0 w h T D=Yv at *
  generalize T.map Zn=TR at *
  generalize T.map thV=TV at *
  generalize D.map dyV=DV at *
  generalize fnL (w*h) H=FH at *
  generalize fnL (w*h) (fun _=>0)=F0 at *
  have q6e:=q6
  simp [ZL,q1,mMake,q2,hY,mo,rr,hc,q4,q5,q6,hlt,q7,b1,b2,rr2,q8,q9,q6']
theorem slI (xs:List Int) (lo hi:Option Int):∃ ys:List Int,cutP (xs.map PV.int) lo hi=ys.map PV.int∧ys.length≤xs.length:=by
  refine ⟨(xs.drop (HT.sIx xs.length 0 lo)).take (HT.sIx xs.length xs.length hi-HT.sIx xs.length 0 lo),?_,by simp;omega⟩
  unfold cutP
  rw [List.length_map,List.map_take,List.map_drop]
theorem slR (T:List Th):∃ T':List Th,cutP (T.map Zn) none (some 1)=T'.map Zn∧T'.length≤T.length∧∀ t∈T',t∈T:=by
  refine ⟨T.take (HT.sIx T.length T.length (some 1)),?_,by simp;omega,fun t ht=>List.mem_of_mem_take ht⟩
  unfold cutP
  rw [List.length_map,List.map_take]
  rfl
abbrev FN (nm q:Str) (st:Stmt) (kV dc pm:Value) (an:Option Addr) (cd ct:Value):FuncData:=PySem.W.fnOf nm q (defArgs st) (defBody st) (defScope st) .none kV dc pm an cd ct
abbrev LK (K:PySem.W.Frag) (g:Addr) (oc:Value) (od:Option Addr) (f:FuncData) (sl:Array (Option Value)):Prop:=K.lookup g=some ⟨oc,od,.func f,sl⟩
theorem Z1H {l:PySem.W.OpenLaw} {w:World} {K:PySem.W.Frag} {h:Heap} {mg:Str→Option Value} {fa:Addr} (X:K.In h) (G:h.Ns mainGlobals mg) (hfa:mg "law" = some (.ref fa))
    {C0 C1 C2 C3 C4 C5 C6 C7 C8 g0 g1 g2 g3 g4 g5 g6 g7 g8 g9 g10 g11 g12 g13 g14 g15 g16 g17 g18 g19 g20 g21 g22 g23 g24 g25 g26 g27 g28 g29 g30 g31 g32 g33 g34 g35 g36 g37 g38 g39 g40 g41 g42 g43 g44:Addr} {od0 an0 od1 an1 od2 an2 od3 an3 od4 an4 od5 an5 od6 an6 od7 an7 od8 an8 od9 an9 od10 an10 od11 an11 od12 an12 od13 an13 od14 an14 od15 an15 od16 an16 od17 an17 od18 an18 od19 an19 od20 an20 od21 an21 od22 an22 od23 an23 od24 an24 od25 an25 od26 an26 od27 an27 od28 an28 od29 an29 od30 an30 od31 an31 od32 an32 od33 an33 od34 an34 od35 an35 od36 an36 od37 an37 od38 an38 od39 an39 od40 an40 od41 an41 od42 an42 od43 an43 od44 an44:Option Addr} {sl0 sl1 sl2 sl3 sl4 sl5 sl6 sl7 sl8 sl9 sl10 sl11 sl12 sl13 sl14 sl15 sl16 sl17 sl18 sl19 sl20 sl21 sl22 sl23 sl24 sl25 sl26 sl27 sl28 sl29 sl30 sl31 sl32 sl33 sl34 sl35 sl36 sl37 sl38 sl39 sl40 sl41 sl42 sl43 sl44:Array (Option Value)} {oc0 kV0 dc0 pm0 cd0 ct0 oc1 kV1 dc1 pm1 cd1 ct1 oc2 kV2 dc2 pm2 cd2 ct2 oc3 kV3 dc3 pm3 cd3 ct3 oc4 kV4 dc4 pm4 cd4 ct4 oc5 kV5 dc5 pm5 cd5 ct5 oc6 kV6 dc6 pm6 cd6 ct6 oc7 kV7 dc7 pm7 cd7 ct7 oc8 kV8 dc8 pm8 cd8 ct8 oc9 kV9 dc9 pm9 cd9 ct9 oc10 kV10 dc10 pm10 cd10 ct10 oc11 kV11 dc11 pm11 cd11 ct11 oc12 kV12 dc12 pm12 cd12 ct12 oc13 kV13 dc13 pm13 cd13 ct13 oc14 kV14 dc14 pm14 cd14 ct14 oc15 kV15 dc15 pm15 cd15 ct15 oc16 kV16 dc16 pm16 cd16 ct16 oc17 kV17 dc17 pm17 cd17 ct17 oc18 kV18 dc18 pm18 cd18 ct18 oc19 kV19 dc19 pm19 cd19 ct19 oc20 kV20 dc20 pm20 cd20 ct20 oc21 kV21 dc21 pm21 cd21 ct21 oc22 kV22 dc22 pm22 cd22 ct22 oc23 kV23 dc23 pm23 cd23 ct23 oc24 kV24 dc24 pm24 cd24 ct24 oc25 kV25 dc25 pm25 cd25 ct25 oc26 kV26 dc26 pm26 cd26 ct26 oc27 kV27 dc27 pm27 cd27 ct27 oc28 kV28 dc28 pm28 cd28 ct28 oc29 kV29 dc29 pm29 cd29 ct29 oc30 kV30 dc30 pm30 cd30 ct30 oc31 kV31 dc31 pm31 cd31 ct31 oc32 kV32 dc32 pm32 cd32 ct32 oc33 kV33 dc33 pm33 cd33 ct33 oc34 kV34 dc34 pm34 cd34 ct34 oc35 kV35 dc35 pm35 cd35 ct35 oc36 kV36 dc36 pm36 cd36 ct36 oc37 kV37 dc37 pm37 cd37 ct37 oc38 kV38 dc38 pm38 cd38 ct38 oc39 kV39 dc39 pm39 cd39 ct39 oc40 kV40 dc40 pm40 cd40 ct40 oc41 kV41 dc41 pm41 cd41 ct41 oc42 kV42 dc42 pm42 cd42 ct42 oc43 kV43 dc43 pm43 cd43 ct43 oc44 kV44 dc44 pm44 cd44 ct44:Value}
    {tk0:Tok}
    {tk1:Tok}
    (u0:PySem.W.nsIn K mainGlobals "YardError" = some (some (.ref C0)))
    (u1:PySem.W.nsIn K mainGlobals "BadThing" = some (some (.ref C1)))
    (u2:PySem.W.nsIn K mainGlobals "Yard" = some (some (.ref C2)))
    (u3:PySem.W.nsIn K mainGlobals "Thing" = some (some (.ref C3)))
    (u4:PySem.W.nsIn K mainGlobals "Post" = some (some (.ref C4)))
    (u5:PySem.W.nsIn K mainGlobals "Fence" = some (some (.ref C5)))
    (u6:PySem.W.nsIn K mainGlobals "Sail" = some (some (.ref C6)))
    (u7:PySem.W.nsIn K mainGlobals "Cloth" = some (some (.ref C7)))
    (u8:PySem.W.nsIn K mainGlobals "House" = some (some (.ref C8)))
    (a0:PySem.W.nsIn K mainGlobals "_law_size" = some (some (.ref g0)))
    (l0:LK K g0 oc0 od0 (FN "_law_size" "_law_size" s_d26 kV0 dc0 pm0 an0 cd0 ct0) sl0)
    (c0:PySem.W.codeIn K cd0 "_law_size" = true) (k0:PySem.W.keepIn K (.ref g0)=true)
    (a1:PySem.W.nsIn K mainGlobals "_law_at" = some (some (.ref g1)))
    (l1:LK K g1 oc1 od1 (FN "_law_at" "_law_at" s_d37 kV1 dc1 pm1 an1 cd1 ct1) sl1)
    (c1:PySem.W.codeIn K cd1 "_law_at" = true) (k1:PySem.W.keepIn K (.ref g1)=true)
    (a2:PySem.W.nsIn K mainGlobals "_law_grains" = some (some (.ref g2)))
    (l2:LK K g2 oc2 od2 (FN "_law_grains" "_law_grains" s_d15 kV2 dc2 pm2 an2 cd2 ct2) sl2)
    (c2:PySem.W.codeIn K cd2 "_law_grains" = true) (k2:PySem.W.keepIn K (.ref g2)=true)
    (a3:PySem.W.nsIn K mainGlobals "_law_sky" = some (some (.ref g3)))
    (l3:LK K g3 oc3 od3 (FN "_law_sky" "_law_sky" s_d31 kV3 dc3 pm3 an3 cd3 ct3) sl3)
    (c3:PySem.W.codeIn K cd3 "_law_sky" = true) (k3:PySem.W.keepIn K (.ref g3)=true)
    (a4:PySem.W.nsIn K mainGlobals "_law_days" = some (some (.ref g4)))
    (l4:LK K g4 oc4 od4 (FN "_law_days" "_law_days" s_d28 kV4 dc4 pm4 an4 cd4 ct4) sl4)
    (c4:PySem.W.codeIn K cd4 "_law_days" = true) (k4:PySem.W.keepIn K (.ref g4)=true)
    (a5:PySem.W.findIn K (.ref C2) "__init__" = some (some (.ref g5)))
    (l5:LK K g5 oc5 od5 (FN "__init__" "Yard.__init__" s_d8 kV5 dc5 pm5 an5 cd5 ct5) sl5)
    (c5:PySem.W.codeIn K cd5 "Yard.__init__" = true) (k5:PySem.W.keepIn K (.ref g5)=true)
    (a6:PySem.W.nsIn K mainGlobals "box_lines" = some (some (.ref g6)))
    (l6:LK K g6 oc6 od6 (FN "box_lines" "box_lines" s_d30 kV6 dc6 pm6 an6 cd6 ct6) sl6)
    (c6:PySem.W.codeIn K cd6 "box_lines" = true) (k6:PySem.W.keepIn K (.ref g6)=true)
    (a7:PySem.W.nsIn K mainGlobals "each_once" = some (some (.ref g7)))
    (l7:LK K g7 oc7 od7 (FN "each_once" "each_once" s_d27 kV7 dc7 pm7 an7 cd7 ct7) sl7)
    (c7:PySem.W.codeIn K cd7 "each_once" = true) (k7:PySem.W.keepIn K (.ref g7)=true)
    (a8:PySem.W.nsIn K mainGlobals "line_through" = some (some (.ref g8)))
    (l8:LK K g8 oc8 od8 (FN "line_through" "line_through" s_d13 kV8 dc8 pm8 an8 cd8 ct8) sl8)
    (c8:PySem.W.codeIn K cd8 "line_through" = true) (k8:PySem.W.keepIn K (.ref g8)=true)
    (a9:PySem.W.nsIn K mainGlobals "holds" = some (some (.ref g9)))
    (l9:LK K g9 oc9 od9 (FN "holds" "holds" s_d40 kV9 dc9 pm9 an9 cd9 ct9) sl9)
    (c9:PySem.W.codeIn K cd9 "holds" = true) (k9:PySem.W.keepIn K (.ref g9)=true)
    (a10:PySem.W.nsIn K mainGlobals "edge_lines" = some (some (.ref g10)))
    (l10:LK K g10 oc10 od10 (FN "edge_lines" "edge_lines" s_d24 kV10 dc10 pm10 an10 cd10 ct10) sl10)
    (c10:PySem.W.codeIn K cd10 "edge_lines" = true) (k10:PySem.W.keepIn K (.ref g10)=true)
    (a11:PySem.W.nsIn K mainGlobals "lines_about" = some (some (.ref g11)))
    (l11:LK K g11 oc11 od11 (FN "lines_about" "lines_about" s_d17 kV11 dc11 pm11 an11 cd11 ct11) sl11)
    (c11:PySem.W.codeIn K cd11 "lines_about" = true) (k11:PySem.W.keepIn K (.ref g11)=true)
    (a12:PySem.W.nsIn K mainGlobals "cast" = some (some (.ref g12)))
    (l12:LK K g12 oc12 od12 (FN "cast" "cast" s_d43 kV12 dc12 pm12 an12 cd12 ct12) sl12)
    (c12:PySem.W.codeIn K cd12 "cast" = true) (k12:PySem.W.keepIn K (.ref g12)=true)
    (a13:PySem.W.nsIn K mainGlobals "level_corners" = some (some (.ref g13)))
    (l13:LK K g13 oc13 od13 (FN "level_corners" "level_corners" s_d6 kV13 dc13 pm13 an13 cd13 ct13) sl13)
    (c13:PySem.W.codeIn K cd13 "level_corners" = true) (k13:PySem.W.keepIn K (.ref g13)=true)
    (a14:PySem.W.nsIn K mainGlobals "block_corners" = some (some (.ref g14)))
    (l14:LK K g14 oc14 od14 (FN "block_corners" "block_corners" s_d4 kV14 dc14 pm14 an14 cd14 ct14) sl14)
    (c14:PySem.W.codeIn K cd14 "block_corners" = true) (k14:PySem.W.keepIn K (.ref g14)=true)
    (a15:PySem.W.findIn K (.ref C4) "corners" = some (some (.ref g15)))
    (l15:LK K g15 oc15 od15 (FN "corners" "Post.corners" s_d14 kV15 dc15 pm15 an15 cd15 ct15) sl15)
    (c15:PySem.W.codeIn K cd15 "Post.corners" = true) (k15:PySem.W.keepIn K (.ref g15)=true)
    (a16:PySem.W.findIn K (.ref C5) "corners" = some (some (.ref g16)))
    (l16:LK K g16 oc16 od16 (FN "corners" "Fence.corners" s_d5 kV16 dc16 pm16 an16 cd16 ct16) sl16)
    (c16:PySem.W.codeIn K cd16 "Fence.corners" = true) (k16:PySem.W.keepIn K (.ref g16)=true)
    (a17:PySem.W.findIn K (.ref C6) "corners" = some (some (.ref g17)))
    (l17:LK K g17 oc17 od17 (FN "corners" "Sail.corners" s_d11 kV17 dc17 pm17 an17 cd17 ct17) sl17)
    (c17:PySem.W.codeIn K cd17 "Sail.corners" = true) (k17:PySem.W.keepIn K (.ref g17)=true)
    (a18:PySem.W.findIn K (.ref C7) "corners" = some (some (.ref g18)))
    (l18:LK K g18 oc18 od18 (FN "corners" "Cloth.corners" s_d7 kV18 dc18 pm18 an18 cd18 ct18) sl18)
    (c18:PySem.W.codeIn K cd18 "Cloth.corners" = true) (k18:PySem.W.keepIn K (.ref g18)=true)
    (a19:PySem.W.findIn K (.ref C8) "corners" = some (some (.ref g19)))
    (l19:LK K g19 oc19 od19 (FN "corners" "House.corners" s_d9 kV19 dc19 pm19 an19 cd19 ct19) sl19)
    (c19:PySem.W.codeIn K cd19 "House.corners" = true) (k19:PySem.W.keepIn K (.ref g19)=true)
    (a20:PySem.W.nsIn K mainGlobals "corner_casts" = some (some (.ref g20)))
    (l20:LK K g20 oc20 od20 (FN "corner_casts" "corner_casts" s_d10 kV20 dc20 pm20 an20 cd20 ct20) sl20)
    (c20:PySem.W.codeIn K cd20 "corner_casts" = true) (k20:PySem.W.keepIn K (.ref g20)=true)
    (a21:PySem.W.nsIn K mainGlobals "span_bits" = some (some (.ref g21)))
    (l21:LK K g21 oc21 od21 (FN "span_bits" "span_bits" s_d29 kV21 dc21 pm21 an21 cd21 ct21) sl21)
    (c21:PySem.W.codeIn K cd21 "span_bits" = true) (k21:PySem.W.keepIn K (.ref g21)=true)
    (a22:PySem.W.nsIn K mainGlobals "row_bits" = some (some (.ref g22)))
    (l22:LK K g22 oc22 od22 (FN "row_bits" "row_bits" s_d34 kV22 dc22 pm22 an22 cd22 ct22) sl22)
    (c22:PySem.W.codeIn K cd22 "row_bits" = true) (k22:PySem.W.keepIn K (.ref g22)=true)
    (a23:PySem.W.nsIn K mainGlobals "dark_of" = some (some (.ref g23)))
    (l23:LK K g23 oc23 od23 (FN "dark_of" "dark_of" s_d39 kV23 dc23 pm23 an23 cd23 ct23) sl23)
    (c23:PySem.W.codeIn K cd23 "dark_of" = true) (k23:PySem.W.keepIn K (.ref g23)=true)
    (a24:PySem.W.nsIn K mainGlobals "darks_of_things" = some (some (.ref g24)))
    (l24:LK K g24 oc24 od24 (FN "darks_of_things" "darks_of_things" s_d2 kV24 dc24 pm24 an24 cd24 ct24) sl24)
    (c24:PySem.W.codeIn K cd24 "darks_of_things" = true) (k24:PySem.W.keepIn K (.ref g24)=true)
    (a25:PySem.W.nsIn K mainGlobals "dark" = some (some (.ref g25)))
    (l25:LK K g25 oc25 od25 (FN "dark" "dark" s_d42 kV25 dc25 pm25 an25 cd25 ct25) sl25)
    (c25:PySem.W.codeIn K cd25 "dark" = true) (k25:PySem.W.keepIn K (.ref g25)=true)
    (a26:PySem.W.nsIn K mainGlobals "lit_set" = some (some (.ref g26)))
    (l26:LK K g26 oc26 od26 (FN "lit_set" "lit_set" s_d38 kV26 dc26 pm26 an26 cd26 ct26) sl26)
    (c26:PySem.W.codeIn K cd26 "lit_set" = true) (k26:PySem.W.keepIn K (.ref g26)=true)
    (a27:PySem.W.nsIn K mainGlobals "hours" = some (some (.ref g27)))
    (l27:LK K g27 oc27 od27 (FN "hours" "hours" s_d41 kV27 dc27 pm27 an27 cd27 ct27) sl27)
    (c27:PySem.W.codeIn K cd27 "hours" = true) (k27:PySem.W.keepIn K (.ref g27)=true)
    (a28:PySem.W.nsIn K mainGlobals "turns_of" = some (some (.ref g28)))
    (l28:LK K g28 oc28 od28 (FN "turns_of" "turns_of" s_d35 kV28 dc28 pm28 an28 cd28 ct28) sl28)
    (c28:PySem.W.codeIn K cd28 "turns_of" = true) (k28:PySem.W.keepIn K (.ref g28)=true)
    (a29:PySem.W.nsIn K mainGlobals "ever_lit" = some (some (.ref g29)))
    (l29:LK K g29 oc29 od29 (FN "ever_lit" "ever_lit" s_d36 kV29 dc29 pm29 an29 cd29 ct29) sl29)
    (c29:PySem.W.codeIn K cd29 "ever_lit" = true) (k29:PySem.W.keepIn K (.ref g29)=true)
    (a30:PySem.W.nsIn K mainGlobals "_law_height" = some (some (.ref g30)))
    (l30:LK K g30 oc30 od30 (FN "_law_height" "_law_height" s_d16 kV30 dc30 pm30 an30 cd30 ct30) sl30)
    (c30:PySem.W.codeIn K cd30 "_law_height" = true) (k30:PySem.W.keepIn K (.ref g30)=true)
    (a31:PySem.W.nsIn K mainGlobals "_law_place" = some (some (.ref g31)))
    (l31:LK K g31 oc31 od31 (FN "_law_place" "_law_place" s_d21 kV31 dc31 pm31 an31 cd31 ct31) sl31)
    (c31:PySem.W.codeIn K cd31 "_law_place" = true) (k31:PySem.W.keepIn K (.ref g31)=true)
    (a32:PySem.W.nsIn K mainGlobals "_law_thing" = some (some (.ref g32)))
    (l32:LK K g32 oc32 od32 (FN "_law_thing" "_law_thing" s_d22 kV32 dc32 pm32 an32 cd32 ct32) sl32)
    (c32:PySem.W.codeIn K cd32 "_law_thing" = true) (k32:PySem.W.keepIn K (.ref g32)=true)
    (a33:PySem.W.nsIn K mainGlobals "is_place" = some (some (.ref g33)))
    (l33:LK K g33 oc33 od33 (FN "is_place" "is_place" s_d32 kV33 dc33 pm33 an33 cd33 ct33) sl33)
    (c33:PySem.W.codeIn K cd33 "is_place" = true) (k33:PySem.W.keepIn K (.ref g33)=true)
    (a34:PySem.W.nsIn K mainGlobals "is_height" = some (some (.ref g34)))
    (l34:LK K g34 oc34 od34 (FN "is_height" "is_height" s_d25 kV34 dc34 pm34 an34 cd34 ct34) sl34)
    (c34:PySem.W.codeIn K cd34 "is_height" = true) (k34:PySem.W.keepIn K (.ref g34)=true)
    (a35:PySem.W.nsIn K mainGlobals "makes_post" = some (some (.ref g35)))
    (l35:LK K g35 oc35 od35 (FN "makes_post" "makes_post" s_d20 kV35 dc35 pm35 an35 cd35 ct35) sl35)
    (c35:PySem.W.codeIn K cd35 "makes_post" = true) (k35:PySem.W.keepIn K (.ref g35)=true)
    (a36:PySem.W.findIn K (.ref C3) "__init__" = some (some (.ref g36)))
    (l36:LK K g36 oc36 od36 (FN "__init__" "Thing.__init__" s_d3 kV36 dc36 pm36 an36 cd36 ct36) sl36)
    (c36:PySem.W.codeIn K cd36 "Thing.__init__" = true) (k36:PySem.W.keepIn K (.ref g36)=true)
    (a37:PySem.W.nsIn K mainGlobals "has_two_ends" = some (some (.ref g37)))
    (l37:LK K g37 oc37 od37 (FN "has_two_ends" "has_two_ends" s_d12 kV37 dc37 pm37 an37 cd37 ct37) sl37)
    (c37:PySem.W.codeIn K cd37 "has_two_ends" = true) (k37:PySem.W.keepIn K (.ref g37)=true)
    (a38:PySem.W.nsIn K mainGlobals "makes_fence" = some (some (.ref g38)))
    (l38:LK K g38 oc38 od38 (FN "makes_fence" "makes_fence" s_d19 kV38 dc38 pm38 an38 cd38 ct38) sl38)
    (c38:PySem.W.codeIn K cd38 "makes_fence" = true) (k38:PySem.W.keepIn K (.ref g38)=true)
    (a39:PySem.W.nsIn K mainGlobals "makes_sail_or_house" = some (some (.ref g39)))
    (l39:LK K g39 oc39 od39 (FN "makes_sail_or_house" "makes_sail_or_house" s_d0 kV39 dc39 pm39 an39 cd39 ct39) sl39)
    (c39:PySem.W.codeIn K cd39 "makes_sail_or_house" = true) (k39:PySem.W.keepIn K (.ref g39)=true)
    (a40:PySem.W.nsIn K mainGlobals "is_cloth_corner" = some (some (.ref g40)))
    (l40:LK K g40 oc40 od40 (FN "is_cloth_corner" "is_cloth_corner" s_d1 kV40 dc40 pm40 an40 cd40 ct40) sl40)
    (c40:PySem.W.codeIn K cd40 "is_cloth_corner" = true) (k40:PySem.W.keepIn K (.ref g40)=true)
    (a41:PySem.W.nsIn K mainGlobals "makes_cloth" = some (some (.ref g41)))
    (l41:LK K g41 oc41 od41 (FN "makes_cloth" "makes_cloth" s_d18 kV41 dc41 pm41 an41 cd41 ct41) sl41)
    (c41:PySem.W.codeIn K cd41 "makes_cloth" = true) (k41:PySem.W.keepIn K (.ref g41)=true)
    (a42:PySem.W.nsIn K mainGlobals "thing_of" = some (some (.ref g42)))
    (l42:LK K g42 oc42 od42 (FN "thing_of" "thing_of" s_d33 kV42 dc42 pm42 an42 cd42 ct42) sl42)
    (c42:PySem.W.codeIn K cd42 "thing_of" = true) (k42:PySem.W.keepIn K (.ref g42)=true)
    (a43:PySem.W.nsIn K mainGlobals "_law_right" = some (some (.ref g43)))
    (l43:LK K g43 oc43 od43 (FN "_law_right" "_law_right" s_d23 kV43 dc43 pm43 an43 cd43 ct43) sl43)
    (c43:PySem.W.codeIn K cd43 "_law_right" = true) (k43:PySem.W.keepIn K (.ref g43)=true)
    (a44:PySem.W.nsIn K mainGlobals "law" = some (some (.ref g44)))
    (l44:LK K g44 oc44 od44 (FN "law" "law" s_d44 kV44 dc44 pm44 an44 cd44 ct44) sl44)
    (c44:PySem.W.codeIn K cd44 "law" = true) (k44:PySem.W.keepIn K (.ref g44)=true)
    (x0:PySem.W.nsIn K mainGlobals "MOST_HEIGHT" = some (some (.int (1000000000) tk0)))
    (x1:PySem.W.nsIn K mainGlobals "MOST_PLACE" = some (some (.int (1000000000) tk1)))
    (z0:PySem.W.nsIn K mainGlobals "all" = some none)
    (z1:PySem.W.nsIn K mainGlobals "bool" = some none)
    (z2:PySem.W.nsIn K mainGlobals "enumerate" = some none)
    (z3:PySem.W.nsIn K mainGlobals "int" = some none)
    (z4:PySem.W.nsIn K mainGlobals "isinstance" = some none)
    (z5:PySem.W.nsIn K mainGlobals "len" = some none)
    (z6:PySem.W.nsIn K mainGlobals "list" = some none)
    (z7:PySem.W.nsIn K mainGlobals "max" = some none)
    (z8:PySem.W.nsIn K mainGlobals "min" = some none)
    (z9:PySem.W.nsIn K mainGlobals "range" = some none)
    (z10:PySem.W.nsIn K mainGlobals "sum" = some none)
    (z11:PySem.W.nsIn K mainGlobals "tuple" = some none)
    (q0:PySem.W.excIn K (cmB C0 C1 C2 C3 C4 C5 C6 C7 C8 "YardError") bmV nwV=true)
    (q1:PySem.W.keepIn K (.ref (cmB C0 C1 C2 C3 C4 C5 C6 C7 C8 "YardError"))=true)
    (q2:xclsIn K (cmB C0 C1 C2 C3 C4 C5 C6 C7 C8 "YardError")=true)
    (q3:PySem.W.excIn K (cmB C0 C1 C2 C3 C4 C5 C6 C7 C8 "BadThing") bmV nwV=true)
    (q4:PySem.W.keepIn K (.ref (cmB C0 C1 C2 C3 C4 C5 C6 C7 C8 "BadThing"))=true)
    (q5:xclsIn K (cmB C0 C1 C2 C3 C4 C5 C6 C7 C8 "BadThing")=true)
    (q6:clsB K (cmB C0 C1 C2 C3 C4 C5 C6 C7 C8 "Yard")=true)
    (q7:mkB K (cmB C0 C1 C2 C3 C4 C5 C6 C7 C8 "Yard") g5=true)
    (q8:PySem.W.findIn K (.ref (cmB C0 C1 C2 C3 C4 C5 C6 C7 C8 "Yard")) "width" = some none)
    (q9:PySem.W.findIn K (.ref (cmB C0 C1 C2 C3 C4 C5 C6 C7 C8 "Yard")) "height" = some none)
    (q10:PySem.W.findIn K (.ref (cmB C0 C1 C2 C3 C4 C5 C6 C7 C8 "Yard")) "things" = some none)
    (q11:PySem.W.findIn K (.ref (cmB C0 C1 C2 C3 C4 C5 C6 C7 C8 "Yard")) "days" = some none)
    (q12:clsB K (cmB C0 C1 C2 C3 C4 C5 C6 C7 C8 "Thing")=true)
    (q13:mkB K (cmB C0 C1 C2 C3 C4 C5 C6 C7 C8 "Thing") g36=true)
    (q14:PySem.W.findIn K (.ref (cmB C0 C1 C2 C3 C4 C5 C6 C7 C8 "Thing")) "word" = some none)
    (q15:PySem.W.findIn K (.ref (cmB C0 C1 C2 C3 C4 C5 C6 C7 C8 "Thing")) "numbers" = some none)
    (q16:clsB K (cmB C0 C1 C2 C3 C4 C5 C6 C7 C8 "Post")=true)
    (q17:mkB K (cmB C0 C1 C2 C3 C4 C5 C6 C7 C8 "Post") g36=true)
    (q18:PySem.W.findIn K (.ref (cmB C0 C1 C2 C3 C4 C5 C6 C7 C8 "Post")) "word" = some none)
    (q19:PySem.W.findIn K (.ref (cmB C0 C1 C2 C3 C4 C5 C6 C7 C8 "Post")) "numbers" = some none)
    (q20:methB K (cmB C0 C1 C2 C3 C4 C5 C6 C7 C8 "Post") "corners" g15=true)
    (q21:clsB K (cmB C0 C1 C2 C3 C4 C5 C6 C7 C8 "Fence")=true)
    (q22:mkB K (cmB C0 C1 C2 C3 C4 C5 C6 C7 C8 "Fence") g36=true)
    (q23:PySem.W.findIn K (.ref (cmB C0 C1 C2 C3 C4 C5 C6 C7 C8 "Fence")) "word" = some none)
    (q24:PySem.W.findIn K (.ref (cmB C0 C1 C2 C3 C4 C5 C6 C7 C8 "Fence")) "numbers" = some none)
    (q25:methB K (cmB C0 C1 C2 C3 C4 C5 C6 C7 C8 "Fence") "corners" g16=true)
    (q26:clsB K (cmB C0 C1 C2 C3 C4 C5 C6 C7 C8 "Sail")=true)
    (q27:mkB K (cmB C0 C1 C2 C3 C4 C5 C6 C7 C8 "Sail") g36=true)
    (q28:PySem.W.findIn K (.ref (cmB C0 C1 C2 C3 C4 C5 C6 C7 C8 "Sail")) "word" = some none)
    (q29:PySem.W.findIn K (.ref (cmB C0 C1 C2 C3 C4 C5 C6 C7 C8 "Sail")) "numbers" = some none)
    (q30:methB K (cmB C0 C1 C2 C3 C4 C5 C6 C7 C8 "Sail") "corners" g17=true)
    (q31:clsB K (cmB C0 C1 C2 C3 C4 C5 C6 C7 C8 "Cloth")=true)
    (q32:mkB K (cmB C0 C1 C2 C3 C4 C5 C6 C7 C8 "Cloth") g36=true)
    (q33:PySem.W.findIn K (.ref (cmB C0 C1 C2 C3 C4 C5 C6 C7 C8 "Cloth")) "word" = some none)
    (q34:PySem.W.findIn K (.ref (cmB C0 C1 C2 C3 C4 C5 C6 C7 C8 "Cloth")) "numbers" = some none)
    (q35:methB K (cmB C0 C1 C2 C3 C4 C5 C6 C7 C8 "Cloth") "corners" g18=true)
    (q36:clsB K (cmB C0 C1 C2 C3 C4 C5 C6 C7 C8 "House")=true)
    (q37:mkB K (cmB C0 C1 C2 C3 C4 C5 C6 C7 C8 "House") g36=true)
    (q38:PySem.W.findIn K (.ref (cmB C0 C1 C2 C3 C4 C5 C6 C7 C8 "House")) "word" = some none)
    (q39:PySem.W.findIn K (.ref (cmB C0 C1 C2 C3 C4 C5 C6 C7 C8 "House")) "numbers" = some none)
    (q40:methB K (cmB C0 C1 C2 C3 C4 C5 C6 C7 C8 "House") "corners" g19=true)
    (q41:isC K (cmB C0 C1 C2 C3 C4 C5 C6 C7 C8) Zh=true)
    (q42:isT K (cmB C0 C1 C2 C3 C4 C5 C6 C7 C8) Zi=true)
    (q43:isD K (cmB C0 C1 C2 C3 C4 C5 C6 C7 C8) Zj=true)
    (q44:isNn K Zk=true)
    : ∃ fd:FuncData,(∀ (s:Shared) (v:Value),BindsTo s fd ⟨[v],[]⟩ [("_law_script",v)])∧∀ base:Heap,K.In base→base.Ns mainGlobals mg→∃ cm,FnOk l.prog w K mg base (CXE l.prog w) 10 fa fd ["_law_script"] (spP ⟨K,cm⟩ 1 m_d44):=by
  have e:=hfa.symm.trans (PySem.W.mg_of X G a44)
  cases e
  have F0:=fun_mk (st:=s_d26) l0 c0 k0
  have b0:=F0.binds (ps:=["_law_cell", "_law_most"]) fun _ _ _ _ _ _ us hl=>match us,hl with | [_,_],_=>rfl
  have F1:=fun_mk (st:=s_d37) l1 c1 k1
  have b1:=F1.binds (ps:=["_law_script", "_law_k"]) fun _ _ _ _ _ _ us hl=>match us,hl with | [_,_],_=>rfl
  have F2:=fun_mk (st:=s_d15) l2 c2 k2
  have b2:=F2.binds (ps:=["_law_cell", "_law_many"]) fun _ _ _ _ _ _ us hl=>match us,hl with | [_,_],_=>rfl
  have F3:=fun_mk (st:=s_d31) l3 c3 k3
  have b3:=F3.binds (ps:=["_law_xs"]) fun _ _ _ _ _ _ us hl=>match us,hl with | [_],_=>rfl
  have F4:=fun_mk (st:=s_d28) l4 c4 k4
  have b4:=F4.binds (ps:=["_law_script", "_law_start", "_law_many", "_law_long"]) fun _ _ _ _ _ _ us hl=>match us,hl with | [_,_,_,_],_=>rfl
  have F5:=fun_mk (st:=s_d8) l5 c5 k5
  have b5:=F5.binds (ps:=["self", "width", "height", "things", "days"]) fun _ _ _ _ _ _ us hl=>match us,hl with | [_,_,_,_,_],_=>rfl
  have F6:=fun_mk (st:=s_d30) l6 c6 k6
  have b6:=F6.binds (ps:=["points"]) fun _ _ _ _ _ _ us hl=>match us,hl with | [_],_=>rfl
  have F7:=fun_mk (st:=s_d27) l7 c7 k7
  have b7:=F7.binds (ps:=["points"]) fun _ _ _ _ _ _ us hl=>match us,hl with | [_],_=>rfl
  have F8:=fun_mk (st:=s_d13) l8 c8 k8
  have b8:=F8.binds (ps:=["one", "other"]) fun _ _ _ _ _ _ us hl=>match us,hl with | [_,_],_=>rfl
  have F9:=fun_mk (st:=s_d40) l9 c9 k9
  have b9:=F9.binds (ps:=["line", "pair"]) fun _ _ _ _ _ _ us hl=>match us,hl with | [_,_],_=>rfl
  have F10:=fun_mk (st:=s_d24) l10 c10 k10
  have b10:=F10.binds (ps:=["points"]) fun _ _ _ _ _ _ us hl=>match us,hl with | [_],_=>rfl
  have F11:=fun_mk (st:=s_d17) l11 c11 k11
  have b11:=F11.binds (ps:=["points"]) fun _ _ _ _ _ _ us hl=>match us,hl with | [_],_=>rfl
  have F12:=fun_mk (st:=s_d43) l12 c12 k12
  have b12:=F12.binds (ps:=["point", "ray"]) fun _ _ _ _ _ _ us hl=>match us,hl with | [_,_],_=>rfl
  have F13:=fun_mk (st:=s_d6) l13 c13 k13
  have b13:=F13.binds (ps:=["x", "y", "u", "v", "z"]) fun _ _ _ _ _ _ us hl=>match us,hl with | [_,_,_,_,_],_=>rfl
  have F14:=fun_mk (st:=s_d4) l14 c14 k14
  have b14:=F14.binds (ps:=["x", "y", "u", "v", "h"]) fun _ _ _ _ _ _ us hl=>match us,hl with | [_,_,_,_,_],_=>rfl
  have F15:=fun_mk (st:=s_d14) l15 c15 k15
  have b15:=F15.binds (ps:=["self"]) fun _ _ _ _ _ _ us hl=>match us,hl with | [_],_=>rfl
  have F16:=fun_mk (st:=s_d5) l16 c16 k16
  have b16:=F16.binds (ps:=["self"]) fun _ _ _ _ _ _ us hl=>match us,hl with | [_],_=>rfl
  have F17:=fun_mk (st:=s_d11) l17 c17 k17
  have b17:=F17.binds (ps:=["self"]) fun _ _ _ _ _ _ us hl=>match us,hl with | [_],_=>rfl
  have F18:=fun_mk (st:=s_d7) l18 c18 k18
  have b18:=F18.binds (ps:=["self"]) fun _ _ _ _ _ _ us hl=>match us,hl with | [_],_=>rfl
  have F19:=fun_mk (st:=s_d9) l19 c19 k19
  have b19:=F19.binds (ps:=["self"]) fun _ _ _ _ _ _ us hl=>match us,hl with | [_],_=>rfl
  have F20:=fun_mk (st:=s_d10) l20 c20 k20
  have b20:=F20.binds (ps:=["thing", "ray"]) fun _ _ _ _ _ _ us hl=>match us,hl with | [_,_],_=>rfl
  have F21:=fun_mk (st:=s_d29) l21 c21 k21
  have b21:=F21.binds (ps:=["first", "last"]) fun _ _ _ _ _ _ us hl=>match us,hl with | [_,_],_=>rfl
  have F22:=fun_mk (st:=s_d34) l22 c22 k22
  have b22:=F22.binds (ps:=["lines", "unit", "q", "width"]) fun _ _ _ _ _ _ us hl=>match us,hl with | [_,_,_,_],_=>rfl
  have F23:=fun_mk (st:=s_d39) l23 c23 k23
  have b23:=F23.binds (ps:=["yard", "thing", "ray"]) fun _ _ _ _ _ _ us hl=>match us,hl with | [_,_,_],_=>rfl
  have F24:=fun_mk (st:=s_d2) l24 c24 k24
  have b24:=F24.binds (ps:=["yard", "ray"]) fun _ _ _ _ _ _ us hl=>match us,hl with | [_,_],_=>rfl
  have F25:=fun_mk (st:=s_d42) l25 c25 k25
  have b25:=F25.binds (ps:=["yard", "turn"]) fun _ _ _ _ _ _ us hl=>match us,hl with | [_,_],_=>rfl
  have F26:=fun_mk (st:=s_d38) l26 c26 k26
  have b26:=F26.binds (ps:=["yard", "turn"]) fun _ _ _ _ _ _ us hl=>match us,hl with | [_,_],_=>rfl
  have F27:=fun_mk (st:=s_d41) l27 c27 k27
  have b27:=F27.binds (ps:=["yard"]) fun _ _ _ _ _ _ us hl=>match us,hl with | [_],_=>rfl
  have F28:=fun_mk (st:=s_d35) l28 c28 k28
  have b28:=F28.binds (ps:=["yard", "day"]) fun _ _ _ _ _ _ us hl=>match us,hl with | [_,_],_=>rfl
  have F29:=fun_mk (st:=s_d36) l29 c29 k29
  have b29:=F29.binds (ps:=["yard"]) fun _ _ _ _ _ _ us hl=>match us,hl with | [_],_=>rfl
  have F30:=fun_mk (st:=s_d16) l30 c30 k30
  have b30:=F30.binds (ps:=["_law_number"]) fun _ _ _ _ _ _ us hl=>match us,hl with | [_],_=>rfl
  have F31:=fun_mk (st:=s_d21) l31 c31 k31
  have b31:=F31.binds (ps:=["_law_number", "_law_wide"]) fun _ _ _ _ _ _ us hl=>match us,hl with | [_,_],_=>rfl
  have F32:=fun_mk (st:=s_d22) l32 c32 k32
  have b32:=F32.binds (ps:=["_law_cell", "_law_wide"]) fun _ _ _ _ _ _ us hl=>match us,hl with | [_,_],_=>rfl
  have F33:=fun_mk (st:=s_d32) l33 c33 k33
  have b33:=F33.binds (ps:=["number"]) fun _ _ _ _ _ _ us hl=>match us,hl with | [_],_=>rfl
  have F34:=fun_mk (st:=s_d25) l34 c34 k34
  have b34:=F34.binds (ps:=["number"]) fun _ _ _ _ _ _ us hl=>match us,hl with | [_],_=>rfl
  have F35:=fun_mk (st:=s_d20) l35 c35 k35
  have b35:=F35.binds (ps:=["numbers"]) fun _ _ _ _ _ _ us hl=>match us,hl with | [_],_=>rfl
  have F36:=fun_mk (st:=s_d3) l36 c36 k36
  have b36:=F36.binds (ps:=["self", "word", "numbers"]) fun _ _ _ _ _ _ us hl=>match us,hl with | [_,_,_],_=>rfl
  have F37:=fun_mk (st:=s_d12) l37 c37 k37
  have b37:=F37.binds (ps:=["numbers"]) fun _ _ _ _ _ _ us hl=>match us,hl with | [_],_=>rfl
  have F38:=fun_mk (st:=s_d19) l38 c38 k38
  have b38:=F38.binds (ps:=["numbers"]) fun _ _ _ _ _ _ us hl=>match us,hl with | [_],_=>rfl
  have F39:=fun_mk (st:=s_d0) l39 c39 k39
  have b39:=F39.binds (ps:=["numbers"]) fun _ _ _ _ _ _ us hl=>match us,hl with | [_],_=>rfl
  have F40:=fun_mk (st:=s_d1) l40 c40 k40
  have b40:=F40.binds (ps:=["numbers"]) fun _ _ _ _ _ _ us hl=>match us,hl with | [_],_=>rfl
  have F41:=fun_mk (st:=s_d18) l41 c41 k41
  have b41:=F41.binds (ps:=["numbers"]) fun _ _ _ _ _ _ us hl=>match us,hl with | [_],_=>rfl
  have F42:=fun_mk (st:=s_d33) l42 c42 k42
  have b42:=F42.binds (ps:=["word", "numbers"]) fun _ _ _ _ _ _ us hl=>match us,hl with | [_,_],_=>rfl
  have F43:=fun_mk (st:=s_d23) l43 c43 k43
  have b43:=F43.binds (ps:=["_law_found", "_law_due"]) fun _ _ _ _ _ _ us hl=>match us,hl with | [_,_],_=>rfl
  have F44:=fun_mk (st:=s_d44) l44 c44 k44
  have b44:=F44.binds (ps:=["_law_script"]) fun _ _ _ _ _ _ us hl=>match us,hl with | [_],_=>rfl
  have T:Tx K mg ⟨g0,FN "_law_size" "_law_size" s_d26 kV0 dc0 pm0 an0 cd0 ct0,g1,FN "_law_at" "_law_at" s_d37 kV1 dc1 pm1 an1 cd1 ct1,g2,FN "_law_grains" "_law_grains" s_d15 kV2 dc2 pm2 an2 cd2 ct2,g3,FN "_law_sky" "_law_sky" s_d31 kV3 dc3 pm3 an3 cd3 ct3,g4,FN "_law_days" "_law_days" s_d28 kV4 dc4 pm4 an4 cd4 ct4,g5,FN "__init__" "Yard.__init__" s_d8 kV5 dc5 pm5 an5 cd5 ct5,g6,FN "box_lines" "box_lines" s_d30 kV6 dc6 pm6 an6 cd6 ct6,g7,FN "each_once" "each_once" s_d27 kV7 dc7 pm7 an7 cd7 ct7,g8,FN "line_through" "line_through" s_d13 kV8 dc8 pm8 an8 cd8 ct8,g9,FN "holds" "holds" s_d40 kV9 dc9 pm9 an9 cd9 ct9,g10,FN "edge_lines" "edge_lines" s_d24 kV10 dc10 pm10 an10 cd10 ct10,g11,FN "lines_about" "lines_about" s_d17 kV11 dc11 pm11 an11 cd11 ct11,g12,FN "cast" "cast" s_d43 kV12 dc12 pm12 an12 cd12 ct12,g13,FN "level_corners" "level_corners" s_d6 kV13 dc13 pm13 an13 cd13 ct13,g14,FN "block_corners" "block_corners" s_d4 kV14 dc14 pm14 an14 cd14 ct14,g15,FN "corners" "Post.corners" s_d14 kV15 dc15 pm15 an15 cd15 ct15,g16,FN "corners" "Fence.corners" s_d5 kV16 dc16 pm16 an16 cd16 ct16,g17,FN "corners" "Sail.corners" s_d11 kV17 dc17 pm17 an17 cd17 ct17,g18,FN "corners" "Cloth.corners" s_d7 kV18 dc18 pm18 an18 cd18 ct18,g19,FN "corners" "House.corners" s_d9 kV19 dc19 pm19 an19 cd19 ct19,g20,FN "corner_casts" "corner_casts" s_d10 kV20 dc20 pm20 an20 cd20 ct20,g21,FN "span_bits" "span_bits" s_d29 kV21 dc21 pm21 an21 cd21 ct21,g22,FN "row_bits" "row_bits" s_d34 kV22 dc22 pm22 an22 cd22 ct22,g23,FN "dark_of" "dark_of" s_d39 kV23 dc23 pm23 an23 cd23 ct23,g24,FN "darks_of_things" "darks_of_things" s_d2 kV24 dc24 pm24 an24 cd24 ct24,g25,FN "dark" "dark" s_d42 kV25 dc25 pm25 an25 cd25 ct25,g26,FN "lit_set" "lit_set" s_d38 kV26 dc26 pm26 an26 cd26 ct26,g27,FN "hours" "hours" s_d41 kV27 dc27 pm27 an27 cd27 ct27,g28,FN "turns_of" "turns_of" s_d35 kV28 dc28 pm28 an28 cd28 ct28,g29,FN "ever_lit" "ever_lit" s_d36 kV29 dc29 pm29 an29 cd29 ct29,g30,FN "_law_height" "_law_height" s_d16 kV30 dc30 pm30 an30 cd30 ct30,g31,FN "_law_place" "_law_place" s_d21 kV31 dc31 pm31 an31 cd31 ct31,g32,FN "_law_thing" "_law_thing" s_d22 kV32 dc32 pm32 an32 cd32 ct32,g33,FN "is_place" "is_place" s_d32 kV33 dc33 pm33 an33 cd33 ct33,g34,FN "is_height" "is_height" s_d25 kV34 dc34 pm34 an34 cd34 ct34,g35,FN "makes_post" "makes_post" s_d20 kV35 dc35 pm35 an35 cd35 ct35,g36,FN "__init__" "Thing.__init__" s_d3 kV36 dc36 pm36 an36 cd36 ct36,g37,FN "has_two_ends" "has_two_ends" s_d12 kV37 dc37 pm37 an37 cd37 ct37,g38,FN "makes_fence" "makes_fence" s_d19 kV38 dc38 pm38 an38 cd38 ct38,g39,FN "makes_sail_or_house" "makes_sail_or_house" s_d0 kV39 dc39 pm39 an39 cd39 ct39,g40,FN "is_cloth_corner" "is_cloth_corner" s_d1 kV40 dc40 pm40 an40 cd40 ct40,g41,FN "makes_cloth" "makes_cloth" s_d18 kV41 dc41 pm41 an41 cd41 ct41,g42,FN "thing_of" "thing_of" s_d33 kV42 dc42 pm42 an42 cd42 ct42,g43,FN "_law_right" "_law_right" s_d23 kV43 dc43 pm43 an43 cd43 ct43,fa,FN "law" "law" s_d44 kV44 dc44 pm44 an44 cd44 ct44,C0,C1,C2,C3,C4,C5,C6,C7,C8,tk0,tk1⟩:=⟨F0,PySem.W.mg_of X G a0,b0,F1,PySem.W.mg_of X G a1,b1,F2,PySem.W.mg_of X G a2,b2,F3,PySem.W.mg_of X G a3,b3,F4,PySem.W.mg_of X G a4,b4,F5,b5,F6,PySem.W.mg_of X G a6,b6,F7,PySem.W.mg_of X G a7,b7,F8,PySem.W.mg_of X G a8,b8,F9,PySem.W.mg_of X G a9,b9,F10,PySem.W.mg_of X G a10,b10,F11,PySem.W.mg_of X G a11,b11,F12,PySem.W.mg_of X G a12,b12,F13,PySem.W.mg_of X G a13,b13,F14,PySem.W.mg_of X G a14,b14,F15,b15,F16,b16,F17,b17,F18,b18,F19,b19,F20,PySem.W.mg_of X G a20,b20,F21,PySem.W.mg_of X G a21,b21,F22,PySem.W.mg_of X G a22,b22,F23,PySem.W.mg_of X G a23,b23,F24,PySem.W.mg_of X G a24,b24,F25,PySem.W.mg_of X G a25,b25,F26,PySem.W.mg_of X G a26,b26,F27,PySem.W.mg_of X G a27,b27,F28,PySem.W.mg_of X G a28,b28,F29,PySem.W.mg_of X G a29,b29,F30,PySem.W.mg_of X G a30,b30,F31,PySem.W.mg_of X G a31,b31,F32,PySem.W.mg_of X G a32,b32,F33,PySem.W.mg_of X G a33,b33,F34,PySem.W.mg_of X G a34,b34,F35,PySem.W.mg_of X G a35,b35,F36,b36,F37,PySem.W.mg_of X G a37,b37,F38,PySem.W.mg_of X G a38,b38,F39,PySem.W.mg_of X G a39,b39,F40,PySem.W.mg_of X G a40,b40,F41,PySem.W.mg_of X G a41,b41,F42,PySem.W.mg_of X G a42,b42,F43,PySem.W.mg_of X G a43,b43,F44,PySem.W.mg_of X G a44,b44,PySem.W.mg_of X G u0,PySem.W.mg_of X G u1,PySem.W.mg_of X G u2,PySem.W.mg_of X G u3,PySem.W.mg_of X G u4,PySem.W.mg_of X G u5,PySem.W.mg_of X G u6,PySem.W.mg_of X G u7,PySem.W.mg_of X G u8,q0,q1,q2,q3,q4,q5,cls_of q6,mk_of q7,q8,q9,q10,q11,cls_of q12,mk_of q13,q14,q15,cls_of q16,mk_of q17,q18,q19,meth_of q20,cls_of q21,mk_of q22,q23,q24,meth_of q25,cls_of q26,mk_of q27,q28,q29,meth_of q30,cls_of q31,mk_of q32,q33,q34,meth_of q35,cls_of q36,mk_of q37,q38,q39,meth_of q40,isC_of q41,isT_of q42,isD_of q43,isNn_of q44,PySem.W.mg_of X G x0,PySem.W.mg_of X G x1,PySem.W.mg_none_of X G z0,PySem.W.mg_none_of X G z1,PySem.W.mg_none_of X G z2,PySem.W.mg_none_of X G z3,PySem.W.mg_none_of X G z4,PySem.W.mg_none_of X G z5,PySem.W.mg_none_of X G z6,PySem.W.mg_none_of X G z7,PySem.W.mg_none_of X G z8,PySem.W.mg_none_of X G z9,PySem.W.mg_none_of X G z10,PySem.W.mg_none_of X G z11⟩
  exact ⟨PySem.W.fnOf "law" "law" (defArgs s_d44) (defBody s_d44) (defScope s_d44) .none kV44 dc44 pm44 an44 cd44 ct44,fun s v => .of_eq rfl,fun base _ _=>⟨_,ok_d44 T⟩⟩
theorem Zt {A B:M Fl} {ρ ρ1:PSt} (h:A ρ = .ok .nx ρ1):mSeq A B ρ = B ρ1:=by
  show (A ρ).bind _=_
  rw [h]
  rfl
theorem Z1S {c:M Bool} {A B:M Fl} {ρ ρ1:PSt} (h:c ρ = .ok true ρ1):mIf c A B ρ = A ρ1:=by
  show (c ρ).bind _=_
  rw [h]
  rfl
theorem Z1T {c:M Bool} {A B:M Fl} {ρ ρ1:PSt} (h:c ρ = .ok false ρ1):mIf c A B ρ = B ρ1:=by
  show (c ρ).bind _=_
  rw [h]
  rfl
theorem Zw {i:Nat} {m:M RV} {ρ ρ1:PSt} {r:RV} (h:m ρ = .ok r ρ1):mSet i m ρ = .ok .nx (ρ1.set i r.slot):=by
  show (m ρ).bind _=_
  rw [h]
  rfl
theorem Z1q (NS TR DV:List PV) (w h c0 c1:Int) (k0:m_d37 [.sh (.lst NS),.sh (.int 0)] = .ret (.sh (.int c0))) (k1:m_d37 [.sh (.lst NS),.sh (.int 1)] = .ret (.sh (.int c1))) (YS:List PV) (hy:cutP NS (some 2) (some 6)=YS) (hs:m_d26 [.sh (.int c0),.sh (.int 9)] = .ret (.sh (.tup [.int w,.int h])))
    (hT:compL (gN 1) mYes (mVal (mCall m_d22 (mAName 1 (mACons (mCB fMax1 (mCons (mVarR 0) mNil)) mANil)))) YS [.sh (.tup [.int w,.int h]),.no] []=some TR) (m:Int) (hm:c1 % 4=m) (hD:m_d28 [.sh (.lst NS),.sh (.int 6),.sh (.int m),.sh (.int 4)] = .ret (.ow DV)) :
    mb_d44 [.sh (.lst NS),.no,.no,.no,.no,.no,.no,.no,.no,.no,.no,.no,.no,.no]=mSeq ZN ZL [.sh (.lst NS),.sh (.tup [.int w,.int h]),.ow TR,.ow DV,.no,.no,.no,.no,.no,.no,.no,.no,.no,.no]:=by
  rw [Z1R]
  rw [Zt (Zw (r:=.sh (.tup [.int w,.int h])) (ρ1:=[.sh (.lst NS),.no,.no,.no,.no,.no,.no,.no,.no,.no,.no,.no,.no,.no]) (by simp [k0,hs,-Zs]))]
  rw [Zt (Zw (r:=.ow TR) (ρ1:=[.sh (.lst NS),.sh (.tup [.int w,.int h]),.no,.no,.no,.no,.no,.no,.no,.no,.no,.no,.no,.no]) (by simp [slF,hy,hT,RV.slot]))]
  rw [Zt (Zw (r:=.ow DV) (ρ1:=[.sh (.lst NS),.sh (.tup [.int w,.int h]),.ow TR,.no,.no,.no,.no,.no,.no,.no,.no,.no,.no,.no]) (by simp [k1,hm,hD,RV.slot,-Zs]))]
  rfl
theorem Z1O (NS TR DV:List PV) (w h c1:Int) (k1:m_d37 [.sh (.lst NS),.sh (.int 1)] = .ret (.sh (.int c1))) (hc:¬ c1 / 4 % 16=9) :
    ZN [.sh (.lst NS),.sh (.tup [.int w,.int h]),.ow TR,.ow DV,.no,.no,.no,.no,.no,.no,.no,.no,.no,.no] = .ok .nx [.sh (.lst NS),.sh (.tup [.int w,.int h]),.ow TR,.ow DV,.no,.no,.no,.no,.no,.no,.no,.no,.no,.no]:=by
  unfold ZN
  rw [Z1T (ρ1:=[.sh (.lst NS),.sh (.tup [.int w,.int h]),.ow TR,.ow DV,.no,.no,.no,.no,.no,.no,.no,.no,.no,.no]) (by simp [k1,hc,-Zs])]
  rfl
theorem Z1P (NS TR DV TR' EV:List PV) (w h w' c0 c1:Int) (k0:m_d37 [.sh (.lst NS),.sh (.int 0)] = .ret (.sh (.int c0))) (k1:m_d37 [.sh (.lst NS),.sh (.int 1)] = .ret (.sh (.int c1))) (hc:c1 / 4 % 16=9) (hw:1+c0 % 2=w') (t1:cutP TR none (some 1)=TR') (hE:m_d28 [.sh (.lst NS),.sh (.int 6),.sh (.int 12),.sh (.int 8)] = .ret (.ow EV)) :
    ZN [.sh (.lst NS),.sh (.tup [.int w,.int h]),.ow TR,.ow DV,.no,.no,.no,.no,.no,.no,.no,.no,.no,.no] = .ok .nx [.sh (.lst NS),.sh (.tup [.int w',.int 1]),.ow TR',.ow EV,.no,.no,.no,.no,.no,.no,.no,.no,.no,.no]:=by
  unfold ZN
  rw [Z1S (ρ1:=[.sh (.lst NS),.sh (.tup [.int w,.int h]),.ow TR,.ow DV,.no,.no,.no,.no,.no,.no,.no,.no,.no,.no]) (by simp [k1,hc,-Zs])]
  rw [Zt (Zw (r:=.sh (.tup [.int w',.int 1])) (ρ1:=[.sh (.lst NS),.sh (.tup [.int w,.int h]),.ow TR,.ow DV,.no,.no,.no,.no,.no,.no,.no,.no,.no,.no]) (by simp [k0,hw,-Zs]))]
  rw [Zt (Zw (r:=.ow TR') (ρ1:=[.sh (.lst NS),.sh (.tup [.int w',.int 1]),.ow TR,.ow DV,.no,.no,.no,.no,.no,.no,.no,.no,.no,.no]) (by simp [slF,t1,RV.slot]))]
  rw [Zw (r:=.ow EV) (ρ1:=[.sh (.lst NS),.sh (.tup [.int w',.int 1]),.ow TR',.ow DV,.no,.no,.no,.no,.no,.no,.no,.no,.no,.no]) (by simp [hE,RV.slot])]
  rfl
theorem Z15 (ns:List Int) (hn:ns.length≤63):m_d44 [.sh (.lst (ns.map .int))] = .ret (.sh (.bl true)):=by
  have k0:m_d37 [.sh (.lst (ns.map .int)),.sh (.int 0)] = .ret (.sh (.int (ns.getD 0 0))):=ZD ns 0
  have k1:m_d37 [.sh (.lst (ns.map .int)),.sh (.int 1)] = .ret (.sh (.int (ns.getD 1 0))):=ZD ns 1
  obtain ⟨c0,e0⟩:∃ c,ns.getD 0 0=c:=⟨_,rfl⟩
  obtain ⟨c1,e1⟩:∃ c,ns.getD 1 0=c:=⟨_,rfl⟩
  rw [e0] at k0
  rw [e1] at k1
  obtain ⟨w,h,hs,w1,w2,h1,h2,wh⟩:=Z0Y c0
  obtain ⟨ys,hy,hyl⟩:=slI ns (some 2) (some 6)
  obtain ⟨T,hT,hTl,hTg⟩:=Z07 ⟨w1,w2⟩ ⟨h1,h2⟩ ys [] .no (by simp;omega)
  rw [List.nil_append] at hT
  obtain ⟨m,hm⟩:∃ m:Nat,c1 % 4=(m:Int):=⟨(c1 % 4).toNat,by omega⟩
  obtain ⟨D,hD,hDl,hDg⟩:=Z0f ns (n:=m) (lg:=4) (by omega) (by omega) (by omega)
  have hd:=Z1q (ns.map .int) (T.map Zn) (D.map dyV) w h c0 c1 k0 k1 (ys.map .int) hy hs hT m hm hD
  have hl:m_d44 [.sh (.lst (ns.map .int))]=FR.of (mb_d44 [.sh (.lst (ns.map .int)),.no,.no,.no,.no,.no,.no,.no,.no,.no,.no,.no,.no,.no]):=rfl
  rw [hl,hd]
  by_cases hc:c1 / 4 % 16=9
  · obtain ⟨w',hw',w1',w2'⟩:∃ w':Nat,1+c0 % 2=(w':Int)∧1≤w'∧w'≤2:=⟨(1+c0 % 2).toNat,by omega,by omega,by omega⟩
    obtain ⟨T',t1,t2,t3⟩:=slR T
    obtain ⟨E,hE,hEl,hEg⟩:=Z0f ns (n:=12) (lg:=8) (by omega) (by omega) (by omega)
    rw [Zt (Z1P _ _ _ _ _ w h w' c0 c1 k0 k1 hc hw' t1 hE)]
    exact Z0i (w:=w') (h:=1) ⟨w1',by omega⟩ ⟨by omega,by omega⟩ (by omega) (T:=T') (by omega) (fun t ht=>hTg t (t3 t ht)) (D:=E) (by omega) hEg (.sh (.lst (ns.map .int))) .no .no .no .no .no .no .no .no .no .no
  · rw [Zt (Z1O _ _ _ w h c1 k1 hc)]
    exact Z0i (w:=w) (h:=h) ⟨w1,w2⟩ ⟨h1,h2⟩ wh (T:=T) (by omega) hTg (D:=D) (by omega) hDg (.sh (.lst (ns.map .int))) .no .no .no .no .no .no .no .no .no .no
theorem Z1U {l:PySem.W.OpenLaw} {q:Program} {loose:List Str} {XP:(Str→Option Value)→Heap→Prop} {YP:World→Heap→Prop} {d:DefRec} {K:Params→PySem.W.Frag} (hn:l.most=some 63) (hdf:d.params.defaults = [])
    (hY:∀ (w:World) (h:Heap),YP w h→(K w.params).In h)
    (F:∀ (w:World) (mg:Str→Option Value) (fa:Addr) (h:Heap),(K w.params).In h→h.Ns mainGlobals mg→mg d.name=some (.ref fa) →
      ∃ fd:FuncData,(∀ (s:Shared) (u:Value),BindsTo s fd ⟨[u],[]⟩ [("_law_script",u)])∧∀ base:Heap,(K w.params).In base→base.Ns mainGlobals mg→∃ cm,FnOk l.prog w (K w.params) mg base (CXE l.prog w) 10 fa fd ["_law_script"] (spP ⟨K w.params,cm⟩ 1 m_d44)) :
    PySem.W.WalkO q loose XP YP l.row.toRowW d [] (fun f vs=>PySem.call f vs) :=
  P.law_walkE (k:=10) (x := "_law_script") (m:=m_d44) hn hdf ⟨rfl,by decide,by decide⟩ hY F Z15
end T
namespace PySem.W.Fast
def tw17318064018066294238:=0
def tw15997734683126793394:=0
def tw5096026005837074184:=0
def tw2960474510637382555:=0
def tw10377494940257967607:=0
def tw11271691382784288966:=0
def tw6918951724377274870:=0
def tw8393903250202313078:=0
def tw13955638287237779306:=0
def tw807613116920629696:=0
def tw10414634478591219427:=0
def tw12865563709297234897:=0
def tw10889668803994188889:=0
def tw573452573010129229:=0
def tw5005604176364254794:=0
def tw18288492959275382658:=0
def tw6642015549174801612:=0
def tw10994458595083984630:=0
def tw9199556999391148168:=0
def tw3367169519846181568:=0
def tw4392578127932309460:=0
def tw11161208333871076748:=0
def tw11896490088532409561:=0
def tw13867552882674343254:=0
def tw8635521437556231282:=0
def tw11903139125699580905:=0
def tw2771146739738616131:=0
def tw7175810377921106333:=0
def tw14877084679311734133:=0
def tw1331846696462687249:=0
def tw16134190756175487287:=0
def tw15944726373761548503:=0
def tw4863854483094720504:=0
def tw5829173310469672078:=0
def tw3638244803320620248:=0
def tw7151054607412033521:=0
def tw16348150169997227058:=0
def tw5135410632618198729:=0
def tw4316219659289915626:=0
def tw755732086968055216:=0
def tw12991802127936990191:=0
def tw16523391704534202871:=0
def tw3246501004667124581:=0
def tw12755278850102727066:=0
def tw3949795762208004022:=0
def tw4159226294875836699:=0
def tw7247787942822777004:=0
def tw13755803630091359984:=0
def tw13247068031642266951:=0
def tw15384587842212184143:=0
def tw11245318548499256351:=0
def tw12382200515903425380:=0
def tw9777233252587737007:=0
def tw12789777233421373932:=0
def tw4038720159720374354:=0
def tw14074520527708342977:=0
def tw6003810373293692867:=0
def tw3586034755337404816:=0
def tw2403079798174272644:=0
def tw2167610498320667794:=0
def tw5779581121562499084:=0
def tw12994045805415875957:=0
def tw9131097749894927807:=0
def tw12324825589702284516:=0
def tw2354373208366718275:=0
def tw8374783727265632629:=0
def tw6281664737640783073:=0
def tw13230293615987935214:=0
def tw4415260994391407646:=0
def tw15350500728853073469:=0
def tw16637877262578056273:=0
def tw15486680074283926380:=0
def tw16614732393123639721:=0
def tw1324030394368148935:=0
def tw12492500050698808988:=0
def tw8071702100970158555:=0
def tw15607931379431030230:=0
def tw18425411999543579412:=0
def tw5812775017906878618:=0
def tw16137918460696888258:=0
def tw17264532754754520796:=0
def tw7650293016642158529:=0
def tw334725604112514918:=0
def tw676348143032202384:=0
def tw11162223295172491934:=0
def tw9981798551900757414:=0
def tw17523972062316471906:=0
def tw7566778762058250448:=0
def tw15543416925061268690:=0
def tw10164062968931701499:=0
def tw8918482689288353173:=0
def tw464749782048647424:=0
def tw12730866444523273125:=0
def tw6679795266483917826:=0
def tw2568975647013152909:=0
def tw8868834202774716048:=0
def tw4736758572356420028:=0
def tw17307070251295718146:=0
def tw15418119530456921662:=0
def tw13378051762747338606:=0
def tw4044177958671675015:=0
def tw13181011336258967942:=0
def tw8627428230735846891:=0
def tw10603894223313331271:=0
def tw1117132571792140532:=0
def tw2472990207793297660:=0
def tw4969767115200980534:=0
def tw10809163841638665393:=0
def tw8234035274156736380:=0
def tw16892448771005592775:=0
def tw6106644932000231621:=0
def tw9533928192674702138:=0
def tw17612293946235293651:=0
def tw4921003000959861221:=0
def tw9534647272885821896:=0
def tw8564536545318020736:=0
def tw16746066916778842769:=0
def tw3801550865659701772:=0
def tw2065095084888656409:=0
def tw12455058484165913831:=0
def tw8986130930579407768:=0
def tw13805307184611577537:=0
def tw6118005849596262636:=0
def tw11586087661949214243:=0
def tw12280737122999808210:=0
def tw12164932418856074630:=0
def tw12837047273046851620:=0
def tw4516720349034961505:=0
def tw8235450549905133659:=0
def tw10787878075307008173:=0
def tw10710991193861032509:=0
def tw2719165308431579487:=0
def tw7528245287905815451:=0
def tw15322018497531590551:=0
def tw3123901132300347115:=0
def tw7545675339902413788:=0
def tw3103610864364537137:=0
def tw14216473976741299443:=0
def tw16432461854806878026:=0
def tw17642894329484204984:=0
def tw11847338606506400759:=0
def tw6296351759487223518:=0
def tw11424402262378530555:=0
def tw10676916258826495399:=0
def tw14766965766625457361:=0
def tw14891252897347161354:=0
def tw17701180838252294103:=0
def tw17926736461952322513:=0
def tw16620912660966002598:=0
def tw704034851058961148:=0
def tw13534709775335696588:=0
def tw11327041049440592544:=0
def tw13291131426387351718:=0
def tw8994585432968637402:=0
def tw2653838946557491360:=0
def tw7519490780003100947:=0
def tw14092449126499870767:=0
def tw4349262548646265933:=0
def tw14191662616455455343:=0
def tw8845368640262529422:=0
def tw16385413295670642779:=0
def tw9481061104915162840:=0
def tw11769496044023729883:=0
def tw6210886277432196216:=0
def tw73438031109632331:=0
def tw7687561989688205511:=0
def tw6131132938886139857:=0
def tw4744531690766427670:=0
def tw15825208395519147623:=0
def tw7068496927373863079:=0
def tw7352817577861490713:=0
def tw12675536957474690191:=0
def tw1546156301434251236:=0
def tw6004217486560309319:=0
def tw15906375787367984014:=0
def tw5842446509501795518:=0
def tw8358077630554953434:=0
def tw4146615268064037685:=0
def tw8443065523224827902:=0
def tw173285542958432895:=0
def tw3736428481608229991:=0
def tw3510577256925137774:=0
def tw10251893517413129174:=0
def tw3056594227974435687:=0
def tw8699510160834043507:=0
def tw11723938996030039270:=0
def tw15769010060174041559:=0
def tw544590655110616594:=0
def tw13471314171459561954:=0
def tw14504903349485199117:=0
def tw18379072422300522722:=0
def tw13793975014868899452:=0
def tw16733316575322626798:=0
def tw18188037559999658739:=0
def tw606442859518457192:=0
def tw11361162321500845685:=0
def tw3348632070535759262:=0
def tw6608835549541441029:=0
def tw736601006721260674:=0
def tw12456906773907742050:=0
def tw16057783612727209031:=0
def tw3876090491468877893:=0
def tw2246046199262553870:=0
def tw14268578297223471671:=0
def tw18038552697667333320:=0
def tw14856526340261966741:=0
def tw9517771503943408854:=0
def tw12162837257054371749:=0
def tw16060550644382061935:=0
def tw17472609618014091137:=0
def tw8315145311854435864:=0
def tw2167177777879051173:=0
def tw8307005668873090426:=0
def tw5086563738497711209:=0
def tw14463207109616724690:=0
def tw18095622897693146200:=0
def tw18302403464119735390:=0
def tw1372115882512224473:=0
def tw590522205189305345:=0
def tw13563649606513978134:=0
def tw3947545290536024310:=0
def tw16075981753334717433:=0
def tw9694365908251110087:=0
def tw2638745106289504065:=0
def tw17807110385789198487:=0
def tw9521410388590583838:=0
def tw17761740014463623227:=0
def tw11115563630528113243:=0
def tw6042795749308497966:=0
def tw88871818017074556:=0
def tw2335114852997401148:=0
def tw14555350482462582286:=0
def tw15346778687411142701:=0
def tw7784669494602980443:=0
def tw12096130319658300874:=0
def tw13760516483199177424:=0
def tw10283588445618730575:=0
def tw17211733491229895054:=0
def tw5659663043986948634:=0
def tw6652842054935561814:=0
def tw8216591189730045600:=0
def tw15379486644688970174:=0
def tw6611436207810806489:=0
def tw7633333548617339485:=0
def tw4742218281292750479:=0
def tw10971770439503189831:=0
def tw15030308799287071741:=0
def tw1835393405322500388:=0
def tw11387585106166606951:=0
def tw5293380160846482490:=0
def tw14352634858988347099:=0
def tw12181456820789997148:=0
def tw9273438273633776385:=0
def tw5861686876159580318:=0
def tw10177863620195879163:=0
def tw13566976560182653935:=0
def tw5485164688251601038:=0
def tw16969404275608251392:=0
def tw8392310445155170969:=0
def tw6667841086095602100:=0
def tw16598276795749799249:=0
def tw8172978621601355503:=0
def tw11659007423857921543:=0
def tw18206431948521690687:=0
def tw8525878231674666770:=0
def tw17407781142125362524:=0
def tw18122221326744613906:=0
def tw4057216817353325234:=0
def tw13161810952559642664:=0
def tw17635792156197094823:=0
def tw2414478747082308060:=0
def tw11739653815390256548:=0
def tw17217261189657109493:=0
def tw13458714938066790719:=0
def tw17203683143328919234:=0
def tw4677025918565295615:=0
def tw8286733635325341460:=0
def tw9957324028353726086:=0
def tw18008829090128088468:=0
def tw13488958982992801965:=0
def tw12427095317589216230:=0
def tw14822365078982748127:=0
def tw15609127511897236609:=0
def tw14503669042468089258:=0
def tw10285506326880887947:=0
def tw17882310193281931621:=0
def tw6967069561100509371:=0
def tw1297846108446200658:=0
def tw13582129323638790556:=0
def tw6566134741598478813:=0
def tw3071312809761589667:=0
def tw14478044201732524799:=0
def tw17378812129671726148:=0
def tw2590597422775233859:=0
def tw10485823676812242544:=0
def tw7423899533256854830:=0
def tw9444940701809771499:=0
def tw15160585435544559154:=0
def tw7752936892043446438:=0
def tw371753332732691983:=0
def tw11408529318817465137:=0
def tw4545434405772381198:=0
def tw8857914712805305870:=0
def tw4608514494810684151:=0
def tw3239267290995281476:=0
def tw17927767081282945098:=0
def tw15041736041991459605:=0
def tw17571419878356657187:=0
def tw18356481391232261359:=0
def tw9054805027285620839:=0
def tw16729988319418860317:=0
def tw14369439270102633511:=0
def tw8606858790271318386:=0
def tw3577411537653609032:=0
def tw2817853672481826374:=0
def tw16133048928741855271:=0
def tw15485861564055999248:=0
def tw3335625634769692563:=0
def tw8520174981078005917:=0
def tw6995631068501133728:=0
def tw14475536372040385695:=0
def tw7197097613489575597:=0
def tw8052338935898676860:=0
def tw4573053668313668066:=0
def tw6819625847661000400:=0
def tw14086493204194743873:=0
def tw9309860255649200859:=0
def tw17652631439383398286:=0
def tw2998050524728742404:=0
def tw2355082056730863369:=0
def tw12800333505702002594:=0
def tw2581271499033436058:=0
def tw7890645374084283476:=0
def tw5513972356675011553:=0
def tw12652666667623377110:=0
def tw13885602021258698241:=0
def tw11725578991160974710:=0
def tw14626125842870109468:=0
def tw4157200095294143540:=0
def tw1107068987060249584:=0
def tw4306854933197164167:=0
def tw5836633293801772326:=0
def tw17117319591256376998:=0
def tw6359309772605789502:=0
def tw5248094241601231090:=0
def tw2504024202771937817:=0
def tw13342479426410165596:=0
def tw10503069795238186088:=0
def tw8613571588424548741:=0
def tw6988733317994137209:=0
def tw15236577624935085169:=0
def tw11777160306570446848:=0
def tw17012106839219192106:=0
def tw11671101060877907891:=0
def tw684105642023015373:=0
def tw6015675274005483735:=0
def tw10579511242654637505:=0
def tw9131940417931986817:=0
def tw11510118973217674667:=0
def tw3923226235950326917:=0
def tw4696695242710706095:=0
def tw14487872027101904884:=0
def tw15709037893541396005:=0
def tw2850603247959167235:=0
def tw11113445047106137126:=0
def tw10779240529305324316:=0
def tw1756173317748438942:=0
def tw14516580539820802478:=0
def tw7274275880013298667:=0
def tw2660127483675060545:=0
def tw2252513551141923996:=0
def tw10149785779221466325:=0
def tw13893331973396214005:=0
def tw8697356893182615674:=0
def tw3953511390861881094:=0
def tw6542364116962465095:=0
def tw11501569230365287265:=0
def tw15156578747159777729:=0
def tw13907276164455801651:=0
def tw16445582227824549346:=0
def tw10369789196117533833:=0
def tw17495681771984707400:=0
def tw3678977250119811970:=0
def tw512683534800423316:=0
def tw850291047327037945:=0
def tw15854179623671698575:=0
def tw10650062951967021420:=0
def tw8660332600314067316:=0
def tw15203534065931621691:=0
def tw2286840403351642755:=0
def tw17739053803483697982:=0
def tw8165209816818701779:=0
def tw10300012351223581315:=0
def tw18306661296584524572:=0
def tw13413190172995606744:=0
def tw12252646644710760615:=0
def tw8251471918350221524:=0
def tw16042710810596520477:=0
def tw16771015740904017253:=0
def tw6862376869262864357:=0
def tw10377997264485256557:=0
def tw10964829318249523457:=0
def tw10443052919690705638:=0
def tw288105558204073329:=0
def tw11870449124748779370:=0
def tw12824061539537555545:=0
def tw10591243248770972729:=0
def tw1553324622731922074:=0
def tw2625458366258435917:=0
def tw17099107868204540095:=0
def tw17295015330134152320:=0
def tw18100871463356235212:=0
def tw11957508760498246017:=0
end PySem.W.Fast
open PySem PySem.W PyProof.Rows
set_option maxRecDepth 100000 in
set_option maxHeartbeats 0 in
theorem PySem.Challenge.cw_shadowpost_k34_hours_holds : PySem.Challenge.rw_shadowpost_k34_hours.Holds := by
  w_on;o_law;k_head;(case hw=>w_witness2)
  k_fill
  refine T.Z1U (l:=PySem.Challenge.rw_shadowpost_k34_hours) rfl rfl (fun w h Y=>PySem.W.kIn_of Y) ?F
  case F =>
    intro w mg fa h KX G hmg
    refine' T.Z1H KX G hmg ?u0 ?u1 ?u2 ?u3 ?u4 ?u5 ?u6 ?u7 ?u8 ?a0 ?l0 ?c0 ?k0 ?a1 ?l1 ?c1 ?k1 ?a2 ?l2 ?c2 ?k2 ?a3 ?l3 ?c3 ?k3 ?a4 ?l4 ?c4 ?k4 ?a5 ?l5 ?c5 ?k5 ?a6 ?l6 ?c6 ?k6 ?a7 ?l7 ?c7 ?k7 ?a8 ?l8 ?c8 ?k8 ?a9 ?l9 ?c9 ?k9 ?a10 ?l10 ?c10 ?k10 ?a11 ?l11 ?c11 ?k11 ?a12 ?l12 ?c12 ?k12 ?a13 ?l13 ?c13 ?k13 ?a14 ?l14 ?c14 ?k14 ?a15 ?l15 ?c15 ?k15 ?a16 ?l16 ?c16 ?k16 ?a17 ?l17 ?c17 ?k17 ?a18 ?l18 ?c18 ?k18 ?a19 ?l19 ?c19 ?k19 ?a20 ?l20 ?c20 ?k20 ?a21 ?l21 ?c21 ?k21 ?a22 ?l22 ?c22 ?k22 ?a23 ?l23 ?c23 ?k23 ?a24 ?l24 ?c24 ?k24 ?a25 ?l25 ?c25 ?k25 ?a26 ?l26 ?c26 ?k26 ?a27 ?l27 ?c27 ?k27 ?a28 ?l28 ?c28 ?k28 ?a29 ?l29 ?c29 ?k29 ?a30 ?l30 ?c30 ?k30 ?a31 ?l31 ?c31 ?k31 ?a32 ?l32 ?c32 ?k32 ?a33 ?l33 ?c33 ?k33 ?a34 ?l34 ?c34 ?k34 ?a35 ?l35 ?c35 ?k35 ?a36 ?l36 ?c36 ?k36 ?a37 ?l37 ?c37 ?k37 ?a38 ?l38 ?c38 ?k38 ?a39 ?l39 ?c39 ?k39 ?a40 ?l40 ?c40 ?k40 ?a41 ?l41 ?c41 ?k41 ?a42 ?l42 ?c42 ?k42 ?a43 ?l43 ?c43 ?k43 ?a44 ?l44 ?c44 ?k44 ?x0 ?x1 ?z0 ?z1 ?z2 ?z3 ?z4 ?z5 ?z6 ?z7 ?z8 ?z9 ?z10 ?z11 ?q0 ?q1 ?q2 ?q3 ?q4 ?q5 ?q6 ?q7 ?q8 ?q9 ?q10 ?q11 ?q12 ?q13 ?q14 ?q15 ?q16 ?q17 ?q18 ?q19 ?q20 ?q21 ?q22 ?q23 ?q24 ?q25 ?q26 ?q27 ?q28 ?q29 ?q30 ?q31 ?q32 ?q33 ?q34 ?q35 ?q36 ?q37 ?q38 ?q39 ?q40 ?q41 ?q42 ?q43 ?q44
    (case u0=>k_is)
    (case u1=>k_is)
    (case u2=>k_is)
    (case u3=>k_is)
    (case u4=>k_is)
    (case u5=>k_is)
    (case u6=>k_is)
    (case u7=>k_is)
    (case u8=>k_is)
    (case a0=>k_is)
    (case l0=>unfold T.LK T.FN;k_is)
    (case c0=>k_is)
    (case k0=>k_is)
    (case a1=>k_is)
    (case l1=>unfold T.LK T.FN;k_is)
    (case c1=>k_is)
    (case k1=>k_is)
    (case a2=>k_is)
    (case l2=>unfold T.LK T.FN;k_is)
    (case c2=>k_is)
    (case k2=>k_is)
    (case a3=>k_is)
    (case l3=>unfold T.LK T.FN;k_is)
    (case c3=>k_is)
    (case k3=>k_is)
    (case a4=>k_is)
    (case l4=>unfold T.LK T.FN;k_is)
    (case c4=>k_is)
    (case k4=>k_is)
    (case a5=>k_is)
    (case l5=>unfold T.LK T.FN;k_is)
    (case c5=>k_is)
    (case k5=>k_is)
    (case a6=>k_is)
    (case l6=>unfold T.LK T.FN;k_is)
    (case c6=>k_is)
    (case k6=>k_is)
    (case a7=>k_is)
    (case l7=>unfold T.LK T.FN;k_is)
    (case c7=>k_is)
    (case k7=>k_is)
    (case a8=>k_is)
    (case l8=>unfold T.LK T.FN;k_is)
    (case c8=>k_is)
    (case k8=>k_is)
    (case a9=>k_is)
    (case l9=>unfold T.LK T.FN;k_is)
    (case c9=>k_is)
    (case k9=>k_is)
    (case a10=>k_is)
    (case l10=>unfold T.LK T.FN;k_is)
    (case c10=>k_is)
    (case k10=>k_is)
    (case a11=>k_is)
    (case l11=>unfold T.LK T.FN;k_is)
    (case c11=>k_is)
    (case k11=>k_is)
    (case a12=>k_is)
    (case l12=>unfold T.LK T.FN;k_is)
    (case c12=>k_is)
    (case k12=>k_is)
    (case a13=>k_is)
    (case l13=>unfold T.LK T.FN;k_is)
    (case c13=>k_is)
    (case k13=>k_is)
    (case a14=>k_is)
    (case l14=>unfold T.LK T.FN;k_is)
    (case c14=>k_is)
    (case k14=>k_is)
    (case a15=>k_is)
    (case l15=>unfold T.LK T.FN;k_is)
    (case c15=>k_is)
    (case k15=>k_is)
    (case a16=>k_is)
    (case l16=>unfold T.LK T.FN;k_is)
    (case c16=>k_is)
    (case k16=>k_is)
    (case a17=>k_is)
    (case l17=>unfold T.LK T.FN;k_is)
    (case c17=>k_is)
    (case k17=>k_is)
    (case a18=>k_is)
    (case l18=>unfold T.LK T.FN;k_is)
    (case c18=>k_is)
    (case k18=>k_is)
    (case a19=>k_is)
    (case l19=>unfold T.LK T.FN;k_is)
    (case c19=>k_is)
    (case k19=>k_is)
    (case a20=>k_is)
    (case l20=>unfold T.LK T.FN;k_is)
    (case c20=>k_is)
    (case k20=>k_is)
    (case a21=>k_is)
    (case l21=>unfold T.LK T.FN;k_is)
    (case c21=>k_is)
    (case k21=>k_is)
    (case a22=>k_is)
    (case l22=>unfold T.LK T.FN;k_is)
    (case c22=>k_is)
    (case k22=>k_is)
    (case a23=>k_is)
    (case l23=>unfold T.LK T.FN;k_is)
    (case c23=>k_is)
    (case k23=>k_is)
    (case a24=>k_is)
    (case l24=>unfold T.LK T.FN;k_is)
    (case c24=>k_is)
    (case k24=>k_is)
    (case a25=>k_is)
    (case l25=>unfold T.LK T.FN;k_is)
    (case c25=>k_is)
    (case k25=>k_is)
    (case a26=>k_is)
    (case l26=>unfold T.LK T.FN;k_is)
    (case c26=>k_is)
    (case k26=>k_is)
    (case a27=>k_is)
    (case l27=>unfold T.LK T.FN;k_is)
    (case c27=>k_is)
    (case k27=>k_is)
    (case a28=>k_is)
    (case l28=>unfold T.LK T.FN;k_is)
    (case c28=>k_is)
    (case k28=>k_is)
    (case a29=>k_is)
    (case l29=>unfold T.LK T.FN;k_is)
    (case c29=>k_is)
    (case k29=>k_is)
    (case a30=>k_is)
    (case l30=>unfold T.LK T.FN;k_is)
    (case c30=>k_is)
    (case k30=>k_is)
    (case a31=>k_is)
    (case l31=>unfold T.LK T.FN;k_is)
    (case c31=>k_is)
    (case k31=>k_is)
    (case a32=>k_is)
    (case l32=>unfold T.LK T.FN;k_is)
    (case c32=>k_is)
    (case k32=>k_is)
    (case a33=>k_is)
    (case l33=>unfold T.LK T.FN;k_is)
    (case c33=>k_is)
    (case k33=>k_is)
    (case a34=>k_is)
    (case l34=>unfold T.LK T.FN;k_is)
    (case c34=>k_is)
    (case k34=>k_is)
    (case a35=>k_is)
    (case l35=>unfold T.LK T.FN;k_is)
    (case c35=>k_is)
    (case k35=>k_is)
    (case a36=>k_is)
    (case l36=>unfold T.LK T.FN;k_is)
    (case c36=>k_is)
    (case k36=>k_is)
    (case a37=>k_is)
    (case l37=>unfold T.LK T.FN;k_is)
    (case c37=>k_is)
    (case k37=>k_is)
    (case a38=>k_is)
    (case l38=>unfold T.LK T.FN;k_is)
    (case c38=>k_is)
    (case k38=>k_is)
    (case a39=>k_is)
    (case l39=>unfold T.LK T.FN;k_is)
    (case c39=>k_is)
    (case k39=>k_is)
    (case a40=>k_is)
    (case l40=>unfold T.LK T.FN;k_is)
    (case c40=>k_is)
    (case k40=>k_is)
    (case a41=>k_is)
    (case l41=>unfold T.LK T.FN;k_is)
    (case c41=>k_is)
    (case k41=>k_is)
    (case a42=>k_is)
    (case l42=>unfold T.LK T.FN;k_is)
    (case c42=>k_is)
    (case k42=>k_is)
    (case a43=>k_is)
    (case l43=>unfold T.LK T.FN;k_is)
    (case c43=>k_is)
    (case k43=>k_is)
    (case a44=>k_is)
    (case l44=>unfold T.LK T.FN;k_is)
    (case c44=>k_is)
    (case k44=>k_is)
    (case x0=>k_is)
    (case x1=>k_is)
    (case z0=>k_is)
    (case z1=>k_is)
    (case z2=>k_is)
    (case z3=>k_is)
    (case z4=>k_is)
    (case z5=>k_is)
    (case z6=>k_is)
    (case z7=>k_is)
    (case z8=>k_is)
    (case z9=>k_is)
    (case z10=>k_is)
    (case z11=>k_is)
    (case q0=>kernel_rfl)
    (case q1=>kernel_rfl)
    (case q2=>kernel_rfl)
    (case q3=>kernel_rfl)
    (case q4=>kernel_rfl)
    (case q5=>kernel_rfl)
    (case q6=>kernel_rfl)
    (case q7=>kernel_rfl)
    (case q8=>kernel_rfl)
    (case q9=>kernel_rfl)
    (case q10=>kernel_rfl)
    (case q11=>kernel_rfl)
    (case q12=>kernel_rfl)
    (case q13=>kernel_rfl)
    (case q14=>kernel_rfl)
    (case q15=>kernel_rfl)
    (case q16=>kernel_rfl)
    (case q17=>kernel_rfl)
    (case q18=>kernel_rfl)
    (case q19=>kernel_rfl)
    (case q20=>kernel_rfl)
    (case q21=>kernel_rfl)
    (case q22=>kernel_rfl)
    (case q23=>kernel_rfl)
    (case q24=>kernel_rfl)
    (case q25=>kernel_rfl)
    (case q26=>kernel_rfl)
    (case q27=>kernel_rfl)
    (case q28=>kernel_rfl)
    (case q29=>kernel_rfl)
    (case q30=>kernel_rfl)
    (case q31=>kernel_rfl)
    (case q32=>kernel_rfl)
    (case q33=>kernel_rfl)
    (case q34=>kernel_rfl)
    (case q35=>kernel_rfl)
    (case q36=>kernel_rfl)
    (case q37=>kernel_rfl)
    (case q38=>kernel_rfl)
    (case q39=>kernel_rfl)
    (case q40=>kernel_rfl)
    (case q41=>kernel_rfl)
    (case q42=>kernel_rfl)
    (case q43=>kernel_rfl)
    (case q44=>kernel_rfl)

