import PyProof.Rows.All
import Wide.All
import OpenK.AllK
import Wide.FinOn
import Lean
import PyProof.EqAt
import PyProof.EqKinds
import PyProof.TupleCall
import PySem.Challenge.RW_shadowpost_k11_rays_and_casts
set_option Elab.async false
set_option linter.all false
set_option maxRecDepth 100000
set_option maxHeartbeats 4000000
namespace L2
open PySem PySem.Spec PyProof.Rows
abbrev Key := Sum Int Str
def keyIs : Key → Value → Bool
  | .inl k, v => Value.isInt k v
  | .inr x, v => Value.isStrOf x v
def keyH (w : World) : Key → Int
  | .inl k => hashInt k
  | .inr x => hashStr w x
theorem keyIs_shape : ∀ {k : Key} {v : Value}, keyIs k v = true → (∃ i t, k = Sum.inl i ∧ v = Value.int i t) ∨ (∃ x t, k = Sum.inr x ∧ v = Value.str x t)
  | .inl i, v, h => by
    obtain ⟨t, e⟩ := Value.isInt_shape (k := i) (v := v) h
    exact .inl ⟨i, t, rfl, e⟩
  | .inr x, v, h => by
    obtain ⟨t, e⟩ := Value.isStrOf_shape (x := x) (v := v) h
    exact .inr ⟨x, t, rfl, e⟩
theorem key_ll (a b : Int) : decide ((Sum.inl a : Key) = Sum.inl b) = (a == b) := by
  by_cases e : a = b
  · subst e; simp
  · have h : ¬ (Sum.inl a : Key) = Sum.inl b := fun q => e (Sum.inl.inj q)
    rw [decide_eq_false h]
    exact (beq_eq_false_iff_ne.mpr e).symm
theorem key_rr (a b : Str) : decide ((Sum.inr a : Key) = Sum.inr b) = decide (a = b) := by
  by_cases e : a = b
  · subst e; simp
  · have h : ¬ (Sum.inr a : Key) = Sum.inr b := fun q => e (Sum.inr.inj q)
    rw [decide_eq_false h, decide_eq_false e]
theorem key_lr (a : Int) (b : Str) : decide ((Sum.inl a : Key) = Sum.inr b) = false := decide_eq_false (fun q => nomatch q)
theorem key_rl (a : Str) (b : Int) : decide ((Sum.inr a : Key) = Sum.inl b) = false := decide_eq_false (fun q => nomatch q)
def mixKind (prog : Program) (w : World) : PySem.KeyKind prog w Key where
  is := keyIs
  hash := keyH w
  inj := fun v a b ha hb => by
    rcases keyIs_shape ha with ⟨i, t, rfl, rfl⟩ | ⟨x, t, rfl, rfl⟩
    · rcases keyIs_shape hb with ⟨j, u, rfl, e⟩ | ⟨y, u, rfl, e⟩
      · injection e with e1 _; rw [e1]
      · exact nomatch e
    · rcases keyIs_shape hb with ⟨j, u, rfl, e⟩ | ⟨y, u, rfl, e⟩
      · exact nomatch e
      · injection e with e1 _; rw [e1]
  byValue := fun k v h => by
    rcases keyIs_shape h with ⟨i, t, rfl, rfl⟩ | ⟨x, t, rfl, rfl⟩ <;> rfl
  pyHash := fun hv h => by
    rcases keyIs_shape hv with ⟨i, t, rfl, rfl⟩ | ⟨x, t, rfl, rfl⟩
    · exact wpAny_pyHash_int h
    · exact wpAny_pyHash_str h
  eqBool := fun hu hv h => by
    rcases keyIs_shape hu with ⟨i, t, rfl, rfl⟩ | ⟨x, t, rfl, rfl⟩
    · rcases keyIs_shape hv with ⟨j, u, rfl, rfl⟩ | ⟨y, u, rfl, rfl⟩
      · rw [key_ll] at h; exact wpAny_eqBool_int h
      · rw [key_lr] at h; exact SeqAt.EqAt.int_str i t y u _ _ _ _ h
    · rcases keyIs_shape hv with ⟨j, u, rfl, rfl⟩ | ⟨y, u, rfl, rfl⟩
      · rw [key_rl] at h; exact SeqAt.EqAt.str_int x t j u _ _ _ _ h
      · rw [key_rr] at h; exact wpAny_eqBool_str h
  «strs» := fun k x t v h => by
    rcases keyIs_shape h with ⟨i, u, rfl, e⟩ | ⟨y, u, rfl, e⟩
    · exact nomatch e
    · injection e with e1 _
      subst e1
      cases v <;> rfl
end L2
namespace L2
open PySem PySem.Spec PyProof.Rows
inductive V where
  | non | bl (b : Bool) | int (i : Int) | str (x : Str) | byt (b : Array UInt8) | flt (b : UInt64) | ref (a : Addr) | ty (n : String)
  deriving DecidableEq
def RelV : V → Value → Prop
  | .non, u => u = Value.none
  | .bl b, u => u = Value.bool b
  | .int i, u => ∃ t, u = Value.int i t
  | .str x, u => ∃ t, u = Value.str x t
  | .byt b, u => ∃ t, u = Value.bytes b t
  | .flt b, u => ∃ t, u = Value.float b t
  | .ref a, u => u = Value.ref a
  | .ty n, u => u = Value.type n
abbrev Vals : List V → List Value → Prop := Paired RelV
theorem Vals.length {xs : List V} {us : List Value} (r : Vals xs us) : xs.length = us.length := Paired.length r
theorem Vals.get : ∀ {xs : List V} {us : List Value} {i : Nat} {x : V}, Vals xs us → xs[i]? = some x → ∃ u, us[i]? = some u ∧ RelV x u
  | _, _, _, _, .nil, e => by simp at e
  | _, _, 0, _, .cons r _, e => by simp at e; subst e; exact ⟨_, rfl, r⟩
  | _, _, i + 1, x, .cons _ t, e => by
    obtain ⟨u, h1, h2⟩ := Vals.get (i := i) (x := x) t (by simpa using e)
    exact ⟨u, by simpa using h1, h2⟩
theorem Vals.append : ∀ {xs ys : List V} {us ws : List Value}, Vals xs us → Vals ys ws → Vals (xs ++ ys) (us ++ ws)
  | _, _, _, _, .nil, s => s
  | _, _, _, _, .cons r t, s => .cons r (Vals.append t s)
theorem Vals.take : ∀ {xs : List V} {us : List Value} (n : Nat), Vals xs us → Vals (xs.take n) (us.take n)
  | _, _, 0, _ => .nil
  | _, _, _ + 1, .nil => .nil
  | _, _, n + 1, .cons r t => .cons r (Vals.take n t)
theorem Vals.drop : ∀ {xs : List V} {us : List Value} (n : Nat), Vals xs us → Vals (xs.drop n) (us.drop n)
  | _, _, 0, r => r
  | _, _, _ + 1, .nil => .nil
  | _, _, n + 1, .cons _ t => Vals.drop n t
def RelO : Option V → Option Value → Prop
  | some v, some u => RelV v u
  | none, none => True
  | _, _ => False
def KV {κ : Type} : List (κ × V) → List (κ × Value) → Prop := Paired fun (p : κ × V) (q : κ × Value) => p.1 = q.1 ∧ RelV p.2 q.2
def kV : Key → V
  | .inl i => .int i
  | .inr x => .str x
inductive HO where
  /-- a list -/
  | lst (xs : List V)
  /-- a tuple (never changes) -/
  | tup (xs : List V)
  /-- a dict whose keys are ints and texts; one whose keys are tuples of ints and texts (the empty one is both) -/
  | dK (kvs : List (Key × V)) | dT (kvs : List (List Key × V))
  /-- a set of ints: its members, its size -/
  | set (S : Int → Bool) (n : Nat)
  /-- an instance of the class at C, its dict at dx, its attributes -/
  | ins (C dx : Addr) (fs : List (Str × V))
  /-- the dict of the instance at x -/
  | own (x : Addr)
  /-- the dict of an exception -/
  | xd (fs : List (Str × V))
  /-- a bound method, f of x -/
  | met (f x : Addr)
  /-- a range object lo, lo + 1, .. below hi -/
  | rng (lo hi : Int)
  /-- a thing that is known to the object (the script; a dict while a loop walks it): read, never written while it is so -/
  | frz (o : Obj) (u : HO)
  /-- a code object's table -/
  | tbl (ps : Array Value)
  /-- any other thing, by what is true of its one object (a def of one's own: SetO a S n := HO.ext fun h => ..) -/
  | ext (φ : Heap → Prop)
abbrev Hp := Addr → Option HO
def upd (H : Hp) (a : Addr) (o : HO) : Hp := fun b => if b = a then some o else H b
theorem upd_same {H : Hp} {a : Addr} {o : HO} : upd H a o a = some o := by unfold upd; rw [if_pos rfl]
theorem upd_ne {H : Hp} {a b : Addr} {o : HO} (h : b ≠ a) : upd H a o b = H b := by unfold upd; rw [if_neg h]
theorem ne_of_none {H : Hp} {a b : Addr} {o : HO} (h : H a = some o) (h' : H b = none) : a ≠ b := by
  intro e; subst e; rw [h] at h'; cases h'
section
variable (P : Program) (w : World)
def ObjOk (H : Hp) (h : Heap) (a : Addr) : HO → Prop
  | .lst xs => xs.length ≤ sizeLine ∧ ∃ (its : List Value) (n : Nat), Vals xs its ∧ h.get? a = some { cls := .type "list", data := .seq its.toArray n }
  | .tup xs => xs.length ≤ sizeLine ∧ ∃ its : List Value, Vals xs its ∧ IsTup h a its.toArray
  | .dK kvs => kvs.length ≤ sizeLine ∧ (a == sysModules) = false ∧ ∃ vs, KV kvs vs ∧ h.DictOf (mixKind P w) a vs
  | .dT kvs => kvs.length ≤ sizeLine ∧ (a == sysModules) = false ∧ ∃ xs : List (List Key × Addr × Value),
      Paired (fun (p : List Key × V) (q : List Key × Addr × Value) => p.1 = q.1 ∧ H q.2.1 = some (.tup (p.1.map kV)) ∧ RelV p.2 q.2.2) kvs xs ∧
      ∃ o es ep, h.get? a = some o ∧ o.ExactDict ∧ o.data = .dict es ep ∧ es.toList = xs.map (entryOfKey (tupleKind (mixKind P w))) ∧ (xs.map (·.1)).Nodup
  | .set S n => h.SetOf (intKind P w) a S n
  | .ins C dx fs => H dx = some (.own a) ∧ fs.length ≤ 1000 ∧ dx ≠ a ∧ h.get? a = some (PySem.W.instObj C dx) ∧
      ∃ mA, h.Ns1 dx mA ∧ (∀ f, RelO (fs.lookup f) (mA f)) ∧ PySem.Within mA (fs.map (·.1))
  | .own _ => ∃ o, h.get? a = some o
  | .xd fs => ∃ mA, h.Ns1 a mA ∧ ∀ f, RelO (fs.lookup f) (mA f)
  | .rng lo hi => ∃ t u v, h.get? a = some { cls := .type "range", data := .fields #[.int lo t, .int hi u, .int 1 v] }
  | .frz o u => h.get? a = some o ∧ ObjOk H h a u
  | .tbl ps => h.get? a = some { cls := .none, data := .fields ps }
  | .met f x => h.get? a = some (PySem.W.methodObj (.ref f) (.ref x))
  | .ext φ => φ h ∧ (∃ o, h.get? a = some o) ∧ ∀ h1 h2 : Heap, φ h1 → (∀ o, h1.get? a = some o → h2.get? a = some o) → φ h2
def HOk (H : Hp) (h : Heap) : Prop := ∀ a o, H a = some o → ObjOk P w H h a o
end
section
variable {P : Program} {w : World} {H H' : Hp} {h h' : Heap} {a : Addr} {o : HO}
theorem ObjOk.lt (x : ObjOk P w H h a o) : a < h.objs.size := by
  cases o with
  | lst xs => obtain ⟨_, _, _, _, e⟩ := x; exact Heap.lt_size e
  | tup xs => obtain ⟨_, _, _, p⟩ := x; exact p.lt
  | dK kvs => obtain ⟨_, _, _, _, o, _, _, e, _⟩ := x; exact Heap.lt_size e
  | dT kvs => obtain ⟨_, _, _, _, o, _, _, e, _⟩ := x; exact Heap.lt_size e
  | set S n => obtain ⟨o, _, _, _, e, _⟩ := x; exact Heap.lt_size e
  | ins C dx fs => obtain ⟨_, _, _, e, _⟩ := x; exact Heap.lt_size e
  | own y => obtain ⟨_, e⟩ := x; exact Heap.lt_size e
  | xd fs => obtain ⟨_, ⟨_, _, _, e, _⟩, _⟩ := x; exact Heap.lt_size e
  | rng lo hi => obtain ⟨_, _, _, e⟩ := x; exact Heap.lt_size e
  | frz ob u => obtain ⟨e, _⟩ := x; exact Heap.lt_size e
  | tbl ps => exact Heap.lt_size (show h.get? a = some _ from x)
  | met f y => exact Heap.lt_size (show h.get? a = some _ from x)
  | ext φ => obtain ⟨_, ⟨_, e⟩, _⟩ := x; exact Heap.lt_size e
theorem Paired.mapP {α β : Type} {F G : α → β → Prop} : ∀ {l₁ : List α} {l₂ : List β}, Paired F l₁ l₂ → (∀ a b, F a b → G a b) → Paired G l₁ l₂
  | _, _, .nil, _ => .nil
  | _, _, .cons r t, f => .cons (f _ _ r) (Paired.mapP t f)
theorem ObjOk.stay (x : ObjOk P w H h a o) (k : ∀ b u, (b = a ∨ H b = some (.own a)) → h.get? b = some u → h'.get? b = some u)
    (ho : ∀ b, H b = some (.own a) → H' b = some (.own a)) (ht : ∀ b xs, H b = some (.tup xs) → H' b = some (.tup xs)) : ObjOk P w H' h' a o := by
  induction o with
  | lst xs => obtain ⟨z, its, n, r, e⟩ := x; exact ⟨z, its, n, r, k _ _ (.inl rfl) e⟩
  | tup xs => obtain ⟨z, its, r, ob, e, c⟩ := x; exact ⟨z, its, r, ob, k _ _ (.inl rfl) e, c⟩
  | dK kvs => obtain ⟨z, y, vs, r, ob, es, ep, e, c⟩ := x; exact ⟨z, y, vs, r, ob, es, ep, k _ _ (.inl rfl) e, c⟩
  | dT kvs =>
    obtain ⟨z, y, xs, r, ob, es, ep, e, c⟩ := x
    exact ⟨z, y, xs, Paired.mapP r fun p q z => ⟨z.1, ht _ _ z.2.1, z.2.2⟩, ob, es, ep, k _ _ (.inl rfl) e, c⟩
  | set S n => obtain ⟨ob, es, ep, t, e, c⟩ := x; exact ⟨ob, es, ep, t, k _ _ (.inl rfl) e, c⟩
  | ins C dx fs =>
    obtain ⟨d, z, ne, e, mA, ⟨od, es, ep, e2, c⟩, r⟩ := x
    exact ⟨ho _ d, z, ne, k _ _ (.inl rfl) e, mA, ⟨od, es, ep, k _ _ (.inr d) e2, c⟩, r⟩
  | own y => obtain ⟨ob, e⟩ := x; exact ⟨ob, k _ _ (.inl rfl) e⟩
  | xd fs => obtain ⟨mA, ⟨od, es, ep, e, c⟩, r⟩ := x; exact ⟨mA, ⟨od, es, ep, k _ _ (.inl rfl) e, c⟩, r⟩
  | rng lo hi => obtain ⟨t, u, v, e⟩ := x; exact ⟨t, u, v, k _ _ (.inl rfl) e⟩
  | frz ob u ih => obtain ⟨e, q⟩ := x; exact ⟨k _ _ (.inl rfl) e, ih q⟩
  | tbl ps =>
    have e : h.get? a = some { cls := .none, data := .fields ps } := x
    show h'.get? a = some { cls := .none, data := .fields ps }
    exact k a _ (.inl rfl) e
  | met f y =>
    have e : h.get? a = some (PySem.W.methodObj (.ref f) (.ref y)) := x
    show h'.get? a = some (PySem.W.methodObj (.ref f) (.ref y))
    exact k a _ (.inl rfl) e
  | ext φ => obtain ⟨p, ⟨o, e⟩, st⟩ := x; exact ⟨st _ _ p fun o q => k _ _ (.inl rfl) q, ⟨o, k _ _ (.inl rfl) e⟩, st⟩
theorem HOk.lt (x : HOk P w H h) (e : H a = some o) : a < h.objs.size := (x a o e).lt
theorem HOk.fresh (x : HOk P w H h) (e : h.objs.size ≤ a) : H a = none := by
  cases q : H a with
  | none => rfl
  | some u => exact absurd (Nat.lt_of_lt_of_le (x.lt q) e) (Nat.lt_irrefl _)
theorem HOk.kept (x : HOk P w H h) (k : ∀ b u, h.get? b = some u → h'.get? b = some u) : HOk P w H h' := fun a o e =>
  (x a o e).stay (fun b u _ q => k b u q) (fun _ q => q) fun _ _ q => q
theorem HOk.laid (x : HOk P w H h) (k : ∀ b u, h.get? b = some u → h'.get? b = some u) (hp : h.objs.size ≤ a) (new : ObjOk P w (upd H a o) h' a o) : HOk P w (upd H a o) h' := fun b u e => by
  have hn := x.fresh hp
  by_cases hb : b = a
  · subst hb; rw [upd_same] at e; cases e; exact new
  · rw [upd_ne hb] at e
    exact (x b u e).stay (fun c v _ q => k c v q) (fun c q => by rw [upd_ne (ne_of_none q hn)]; exact q) fun c xs q => by rw [upd_ne (ne_of_none q hn)]; exact q
end
def Rd (H : Hp) (a : Addr) (u : HO) : Prop := H a = some u ∨ ∃ o, H a = some (.frz o u)
theorem Rd.ok {P : Program} {w : World} {H : Hp} {h : Heap} {a : Addr} {u : HO} (r : Rd H a u) (x : HOk P w H h) : ObjOk P w H h a u := by
  rcases r with r | ⟨o, r⟩
  · exact x a u r
  · obtain ⟨_, q⟩ := x a _ r
    exact q
section
variable {P : Program} {w : World} {H : Hp} {h h' : Heap} {x e : Addr} {o' : HO}
end
structure Un (fs ex : List Addr) (H H' : Hp) (h h' : Heap) : Prop where
  keep : ∀ b o, h.get? b = some o → H b = none → b ∉ fs → b ∉ ex → h'.get? b = some o
  slot : ∀ b o, h.get? b = some o → H b = none → b ∈ fs → b ∉ ex → ∃ sl, h'.get? b = some { o with slots := sl }
  free : ∀ b o, h.get? b = some o → H b = none → b ∉ ex → H' b = none
  there : ∀ b o, h.get? b = some o → b ∉ ex → ∃ o', h'.get? b = some o'
  tups : ∀ b xs, H b = some (.tup xs) → H' b = some (.tup xs)
  frzs : ∀ b o u, H b = some (.frz o u) → H' b = some (.frz o u)
  tbls : ∀ b ps, H b = some (.tbl ps) → ∃ more, H' b = some (.tbl (ps ++ more))
section
variable {fs fs' ex ex' : List Addr} {H H1 H2 : Hp} {h h1 h2 h' : Heap} {a x e : Addr} {o : HO}
theorem Un.any (u : Un fs ex H H1 h h1) {b : Addr} {ob : Obj} (q : h.get? b = some ob) (n : H b = none) (hx : b ∉ ex) : ∃ sl, h1.get? b = some { ob with slots := sl } := by
  by_cases hb : b ∈ fs
  · exact u.slot b ob q n hb hx
  · exact ⟨ob.slots, u.keep b ob q n hb hx⟩
theorem Un.kept (k : ∀ b u, h.get? b = some u → h'.get? b = some u) : Un fs ex H H h h' :=
  ⟨fun b ob q _ _ _ => k b ob q, fun b ob q _ _ _ => ⟨ob.slots, k b ob q⟩, fun _ _ _ n _ => n, fun b ob q _ => ⟨ob, k b ob q⟩, fun _ _ q => q, fun _ _ _ q => q, fun _ ps q => ⟨#[], by rw [q]; simp⟩⟩
theorem Un.refl : Un fs ex H H h h := Un.kept fun _ _ q => q
theorem Un.laid (k : ∀ b u, h.get? b = some u → h'.get? b = some u) (hp : h.objs.size ≤ a) (hn : H a = none) : Un fs ex H (upd H a o) h h' where
  keep := fun b u q _ _ _ => k b u q
  slot := fun b u q _ _ _ => ⟨u.slots, k b u q⟩
  free := fun b u q n _ => by rw [upd_ne (Nat.ne_of_lt (Nat.lt_of_lt_of_le (Heap.lt_size q) hp))]; exact n
  there := fun b u q _ => ⟨u, k b u q⟩
  tups := fun b xs q => by rw [upd_ne (ne_of_none q hn)]; exact q
  frzs := fun b u xs q => by rw [upd_ne (ne_of_none q hn)]; exact q
  tbls := fun b ps q => ⟨#[], by rw [upd_ne (ne_of_none q hn), q]; simp⟩
end
def trk (h : Heap) (H : Hp) : List Addr := (List.range h.objs.size).filter fun a => (H a).isSome
def hidT (h : Heap) (H : Hp) : Heap := PySem.W.hideAll h (trk h H)
theorem hidT_size (h : Heap) (H : Hp) : (hidT h H).objs.size = h.objs.size := PySem.W.hideAll_size _ _
theorem hidT_get {h : Heap} {H : Hp} {b : Addr} {o : Obj} (e : h.get? b = some o) (n : H b = none) : (hidT h H).get? b = some o :=
  PySem.W.hideAll_get _ e fun hm => by
    have q : (H b).isSome = true := (List.mem_filter.mp hm).2
    rw [n] at q; simp at q
theorem of_hidT {h : Heap} {H : Hp} {b : Addr} {o : Obj} (e : (hidT h H).get? b = some o) : h.get? b = some o ∧ H b = none := by
  have e' : h.get? b = some o := PySem.W.of_hideAll (trk h H) e
  refine ⟨e', ?_⟩
  cases q : H b with
  | none => rfl
  | some x =>
    have hm : b ∈ trk h H := List.mem_filter.mpr ⟨List.mem_range.mpr (Heap.lt_size e'), by simp [q]⟩
    have z : (hidT h H).get? b = none := PySem.W.hideAll_none (trk h H) hm
    rw [z] at e; cases e
def allNews (g h : Heap) (L : Addr) : List (Addr × Obj) := (List.range h.objs.size).filterMap fun a => if a = L ∨ (g.get? a).isSome = true then none else (h.get? a).map fun o => (a, o)
def rest (g h : Heap) (L d : Addr) : List (Addr × Obj) := (allNews g h L).filter fun p => decide (p.1 ≠ d)
end L2
namespace L2
open PySem PySem.Spec PyProof.Rows
structure Mod (K : PySem.W.Frag) (mg : Str → Option Value) (base : Heap) : Prop where
  kin : K.In base
  glob : base.Ns mainGlobals mg
  blt : ∃ mb, base.Ns builtinsNs mb ∧ ∀ x : Str, x ≠ "__name__" → mb x = bootBuiltins x
  nolimit : base.NoLimit
structure Cx where
  prog : Program
  w : World
  K : PySem.W.Frag
  mg : Str → Option Value
  base : Heap
  A : Around
  N : List Str
  s₀ : Shared
  H₀ : Hp
  env : Env
  outer : List Env
  stack : List Env
  ex : List Addr
  fn : Str → Bool
  calm : Bool
  pn : List (Addr × Obj)
  xe : Value → Shared → Prop
def frs (l : List Env) : List Addr := l.filterMap (·.frame)
abbrev Cx.fs (X : Cx) : List Addr := frs X.outer
def Vis (sc : Scope) (x : Str) : Prop := sc.names.lookup x = some .local ∨ sc.names.lookup x = some .cell ∨ sc.names.lookup x = some .free
def Loc (sc : Scope) (x : Str) : Prop := sc.names.lookup x = some .local ∨ sc.names.lookup x = some .cell
def Look (env : Env) (h : Heap) (m : Str → Option Value) (x : Str) (u : Value) : Prop :=
  (env.kindOf x = some .local ∧ m x = some u) ∨ ((env.kindOf x = some .cell ∨ env.kindOf x = some .free) ∧ ∃ c, env.cells.lookup x = some c ∧ h.IsCell c (some u))
structure Cx.Ok (X : Cx) : Prop where
  mod : Mod X.K X.mg X.base
  kind : X.env.scope.kind = .function
  glob : X.env.globals = mainGlobals
  blt : X.env.builtins = builtinsNs
  above : X.s₀.heap.objs.size ≤ X.env.locals
  inj : ∀ x y c, X.env.cells.lookup x = some c → X.env.cells.lookup y = some c → x = y
  has : ∀ x, (X.env.kindOf x = some .cell ∨ X.env.kindOf x = some .free) → ∃ c, X.env.cells.lookup x = some c
  cab : ∀ x c, X.fn x = true → X.env.cells.lookup x = some c → X.s₀.heap.objs.size ≤ c
  hd : X.calm = true → X.A.handled = none
  frames : X.A.frames = some X.stack
  stk : X.stack = X.outer ∨ (X.stack = X.env :: X.outer ∧ X.env.frame = some X.env.locals)
  exf : ∀ b ∈ X.ex, b ≠ X.env.locals ∧ ∀ x c, X.env.cells.lookup x = some c → c ≠ b
  bs : ∀ b o, X.base.get? b = some o → X.s₀.heap.get? b = some o ∧ X.H₀ b = none
  bsz : X.base.objs.size ≤ X.s₀.heap.objs.size
  noex : ∀ b o, X.base.get? b = some o → b ∉ X.ex
  exfs : ∀ b ∈ X.ex, b ∉ X.fs
  funs : X.s₀.heap.FunFrames X.base X.outer
  frf : ∀ b ∈ X.fs, X.H₀ b = none
structure Inv (X : Cx) (pins : List (Addr × Obj)) (σ : List (Option V)) (H : Hp) (s : Shared) : Prop where
  ok : X.Ok
  os : s.os = X.s₀.os
  bare : AllBare s.gens
  base : Un X.fs X.ex X.H₀ H X.s₀.heap s.heap
  loc : ∃ m, s.heap.Ns X.env.locals m ∧ ∀ (i : Nat) (x : Str) (v : V), X.N[i]? = some x → σ[i]? = some (some v) → Vis X.env.scope x → ∃ u, RelV v u ∧ Look X.env s.heap m x u
  cell : ∀ x c, X.env.cells.lookup x = some c → ∃ v, s.heap.IsCell c v
  free : H X.env.locals = none
  freeC : ∀ x c, X.env.cells.lookup x = some c → H c = none
  pin : ∀ p ∈ X.pn ++ pins, s.heap.get? p.1 = some p.2 ∧ H p.1 = none ∧ p.1 ≠ X.env.locals ∧ p.1 ∉ X.fs ∧ ∀ v, p.2.data ≠ .cell v
  hok : HOk X.prog X.w H s.heap
  len : σ.length = X.N.length
section
variable {X : Cx} {pins : List (Addr × Obj)} {σ : List (Option V)} {H H' : Hp} {s : Shared} {h' : Heap}
theorem Cx.Ok.nofr (ok : X.Ok) {b : Addr} {o : Obj} (e : X.base.get? b = some o) : b ∉ X.fs := fun hb => by
  have := (ok.funs.mem hb).1
  rw [e] at this; cases this
theorem Inv.bs (I : Inv X pins σ H s) : ∀ b o, X.base.get? b = some o → s.heap.get? b = some o ∧ H b = none := fun b o e =>
  ⟨I.base.keep b o (I.ok.bs b o e).1 (I.ok.bs b o e).2 (I.ok.nofr e) (I.ok.noex b o e), I.base.free b o (I.ok.bs b o e).1 (I.ok.bs b o e).2 (I.ok.noex b o e)⟩
theorem Inv.bk (I : Inv X pins σ H s) : ∀ b o, X.base.get? b = some o → s.heap.get? b = some o := fun b o e => (I.bs b o e).1
theorem Inv.mod (I : Inv X pins σ H s) : Mod X.K X.mg X.base := I.ok.mod
theorem Inv.kIn (I : Inv X pins σ H s) : X.K.In s.heap := I.ok.mod.kin.keeps I.bk
theorem Inv.lt (I : Inv X pins σ H s) : X.env.locals < s.heap.objs.size := let ⟨_, hn, _⟩ := I.loc; hn.lt
theorem Inv.sz (I : Inv X pins σ H s) : X.s₀.heap.objs.size ≤ s.heap.objs.size := Nat.le_trans I.ok.above (Nat.le_of_lt I.lt)
theorem Inv.nofs (I : Inv X pins σ H s) {a : Addr} (h : s.heap.objs.size ≤ a) : a ∉ X.fs := fun hb => by
  obtain ⟨_, o, ho, _⟩ := I.ok.funs.mem hb
  exact absurd (Nat.lt_of_lt_of_le (Heap.lt_size ho) (Nat.le_trans I.sz h)) (Nat.lt_irrefl _)
theorem Inv.cne (I : Inv X pins σ H s) : ∀ x c, X.env.cells.lookup x = some c → c ≠ X.env.locals := fun x c e z => by
  obtain ⟨v, o, ho, hd⟩ := I.cell x c e
  obtain ⟨m, ⟨o', es, ep, ho', hd', _⟩, _⟩ := I.loc
  rw [z, ho'] at ho; cases ho; rw [hd'] at hd; cases hd
theorem Inv.funs (I : Inv X pins σ H s) : s.heap.FunFrames X.base X.outer := by
  have all : ∀ (l : List Env), (∀ b ∈ frs l, b ∈ X.fs) → X.s₀.heap.FunFrames X.base l → s.heap.FunFrames X.base l := by
    intro l
    induction l with
    | nil => intro _ _; trivial
    | cons env r ih =>
      intro hs hl
      obtain ⟨hk, ⟨L, o, hf, hn, ho, hd⟩, hr⟩ := hl
      have hL : L ∈ X.fs := hs L (by unfold frs; rw [List.filterMap_cons, hf]; exact List.mem_cons_self)
      obtain ⟨sl, e⟩ := I.base.slot L o ho (I.ok.frf L hL) hL fun z => I.ok.exfs L z hL
      exact ⟨hk, ⟨L, _, hf, hn, e, hd⟩, ih (fun b hb => hs b (by unfold frs; rw [List.filterMap_cons, hf]; exact List.mem_cons_of_mem _ hb)) hr⟩
  exact all X.outer (fun _ hb => hb) I.ok.funs
theorem Inv.stack (I : Inv X pins σ H s) : s.heap.FunFrames X.base X.stack := by
  rcases I.ok.stk with e | ⟨e, hf⟩
  · rw [e]; exact I.funs
  · rw [e]
    obtain ⟨m, hn, _⟩ := I.loc
    refine .cons (by rw [I.ok.kind]; decide) hf hn ?_ I.funs
    exact Heap.get?_none_of_le (Nat.le_trans I.ok.bsz I.ok.above)
theorem Inv.stkSub (I : Inv X pins σ H s) : ∀ b ∈ frs X.stack, b ∈ X.env.locals :: X.fs := fun b hb => by
  rcases I.ok.stk with e | ⟨e, hf⟩
  · rw [e] at hb; exact List.mem_cons_of_mem _ hb
  · rw [e] at hb
    unfold frs at hb
    rw [List.filterMap_cons, hf] at hb
    exact hb
theorem Inv.stkFree (I : Inv X pins σ H s) : ∀ b ∈ frs X.stack, H b = none := fun b hb => by
  rcases List.mem_cons.mp (I.stkSub b hb) with e | hb
  · rw [e]; exact I.free
  · obtain ⟨_, o, ho, _⟩ := I.ok.funs.mem hb
    exact I.base.free b o ho (I.ok.frf b hb) fun z => I.ok.exfs b z hb
theorem Inv.step {g' : Array GenState} {t' : Nat} {d' : Drawn} {ch : List Addr} (I : Inv X pins σ H s)
    (hch : ∀ b ∈ ch, (b ∈ X.ex ∨ X.s₀.heap.objs.size ≤ b) ∧ b ≠ X.env.locals ∧ (∀ x c, X.env.cells.lookup x = some c → c ≠ b) ∧ ∀ p ∈ X.pn ++ pins, p.1 ≠ b)
    (keep : ∀ b o, b ≠ X.env.locals → b ∉ X.fs → b ∉ ch → s.heap.get? b = some o → H b = none → h'.get? b = some o)
    (slot : ∀ b o, b ≠ X.env.locals → b ∈ X.fs → b ∉ ch → s.heap.get? b = some o → H b = none → ∃ sl, h'.get? b = some { o with slots := sl }) (free : ∀ b o, b ∉ ch → s.heap.get? b = some o → H b = none → H' b = none)
    (there : ∀ b o, b ∉ ch → s.heap.get? b = some o → ∃ o', h'.get? b = some o')
    (tups : ∀ b xs, H b = some (.tup xs) → H' b = some (.tup xs)) (frzs : ∀ b o u, H b = some (.frz o u) → H' b = some (.frz o u)) (tbls : ∀ b ps, H b = some (.tbl ps) → ∃ more, H' b = some (.tbl (ps ++ more)))
    (ns : ∀ m, s.heap.Ns X.env.locals m → h'.Ns X.env.locals m) (hok : HOk X.prog X.w H' h') (hg : AllBare g') :
    Inv X pins σ H' { s with heap := h', gens := g', drawn := d', toks := t' } := by
  have neL : ∀ b o, X.s₀.heap.get? b = some o → b ≠ X.env.locals := fun b o e => Nat.ne_of_lt (Nat.lt_of_lt_of_le (Heap.lt_size e) I.ok.above)
  have neC : ∀ b o, X.s₀.heap.get? b = some o → b ∉ X.ex → b ∉ ch := fun b o e hx hb => by
    rcases (hch b hb).1 with z | z
    · exact hx z
    · exact absurd (Nat.lt_of_lt_of_le (Heap.lt_size e) z) (Nat.lt_irrefl _)
  have cellK : ∀ x c, X.env.cells.lookup x = some c → ∀ v, s.heap.IsCell c v → h'.IsCell c v := fun x c e v ⟨o, ho, hd⟩ => by
    have nch : c ∉ ch := fun z => (hch c z).2.2.1 x c e rfl
    by_cases hc : c ∈ X.fs
    · obtain ⟨sl, q⟩ := slot c o (I.cne x c e) hc nch ho (I.freeC x c e)
      exact ⟨_, q, hd⟩
    · exact ⟨o, keep c o (I.cne x c e) hc nch ho (I.freeC x c e), hd⟩
  refine ⟨I.ok, I.os, hg, ⟨fun b o e n hb hx => ?_, fun b o e n hb hx => ?_, fun b o e n hx => ?_, fun b o e hx => ?_, fun b xs e => tups b xs (I.base.tups b xs e), fun b o xs e => frzs b o xs (I.base.frzs b o xs e), fun b ps e => ?_⟩, ?_, fun x c e => ?_, ?_, fun x c e => ?_, fun p hp => ?_, hok, I.len⟩
  · exact keep b o (neL b o e) hb (neC b o e hx) (I.base.keep b o e n hb hx) (I.base.free b o e n hx)
  · obtain ⟨sl, e1⟩ := I.base.slot b o e n hb hx
    obtain ⟨sl', e2⟩ := slot b _ (neL b o e) hb (neC b o e hx) e1 (I.base.free b o e n hx)
    exact ⟨sl', e2⟩
  · obtain ⟨o', e1⟩ := I.base.there b o e hx
    exact free b o' (neC b o e hx) e1 (I.base.free b o e n hx)
  · obtain ⟨o', e1⟩ := I.base.there b o e hx
    exact there b o' (neC b o e hx) e1
  · obtain ⟨m1, e1⟩ := I.base.tbls b ps e
    obtain ⟨m2, e2⟩ := tbls b _ e1
    exact ⟨m1 ++ m2, by rw [e2, Array.append_assoc]⟩
  · obtain ⟨m, hn, hl⟩ := I.loc
    refine ⟨m, ns m hn, fun i x v e1 e2 e3 => ?_⟩
    obtain ⟨u, r, l⟩ := hl i x v e1 e2 e3
    refine ⟨u, r, ?_⟩
    rcases l with l | ⟨k, c, e, z⟩
    · exact .inl l
    · exact .inr ⟨k, c, e, cellK x c e _ z⟩
  · obtain ⟨v, z⟩ := I.cell x c e
    exact ⟨v, cellK x c e v z⟩
  · obtain ⟨m, ⟨o, _, _, ho, _⟩, _⟩ := I.loc
    exact free _ o (fun z => (hch _ z).2.1 rfl) ho I.free
  · obtain ⟨v, o, ho, hd⟩ := I.cell x c e
    exact free c o (fun z => (hch c z).2.2.1 x c e rfl) ho (I.freeC x c e)
  · obtain ⟨e, n, ne, nf, d⟩ := I.pin p hp
    have nch : p.1 ∉ ch := fun z => (hch p.1 z).2.2.2 p hp rfl
    exact ⟨keep p.1 p.2 ne nf nch e n, free p.1 p.2 nch e n, ne, nf, d⟩
theorem Inv.un {t' : Nat} (I : Inv X pins σ H s) (u : Un X.fs [] H H' s.heap h') (hok : HOk X.prog X.w H' h') : Inv X pins σ H' { s with heap := h', toks := t' } := by
  obtain ⟨m, ⟨o, es, ep, ho, r⟩, _⟩ := id I.loc
  obtain ⟨sl, hL⟩ := u.any ho I.free (by simp)
  exact I.step (g' := s.gens) (d' := s.drawn) (ch := []) (fun _ z => nomatch z) (fun b o _ hb _ e n => u.keep b o e n hb (by simp)) (fun b o _ hb _ e n => u.slot b o e n hb (by simp)) (fun b o _ e n => u.free b o e n (by simp)) (fun b o _ e => u.there b o e (by simp)) u.tups u.frzs u.tbls (fun m' hm => by
    obtain ⟨o', es', ep', ho', r'⟩ := hm
    rw [ho] at ho'; cases ho'
    exact ⟨_, es', ep', hL, r'⟩) hok I.bare
theorem Inv.call {g' : Array GenState} {t' : Nat} {d' : Drawn} {ch : List Addr} (I : Inv X pins σ H s) (u : Un (frs X.stack) ch H H' s.heap h') (hok : HOk X.prog X.w H' h') (hg : AllBare g')
    (hch : ∀ b ∈ ch, (b ∈ X.ex ∨ X.s₀.heap.objs.size ≤ b) ∧ b ≠ X.env.locals ∧ (∀ x c, X.env.cells.lookup x = some c → c ≠ b) ∧ ∀ p ∈ X.pn ++ pins, p.1 ≠ b) :
    Inv X pins σ H' { s with heap := h', gens := g', drawn := d', toks := t' } := by
  obtain ⟨m, ⟨o, es, ep, ho, r⟩, _⟩ := id I.loc
  obtain ⟨sl, hL⟩ := u.any ho I.free fun z => (hch _ z).2.1 rfl
  exact I.step (ch := ch) hch (fun b o hL hb hc e n => u.keep b o e n (fun z => (List.mem_cons.mp (I.stkSub b z)).elim hL hb) hc) (fun b o _ _ hc e n => u.any e n hc) (fun b o hc e n => u.free b o e n hc) (fun b o hc e => u.there b o e hc) u.tups u.frzs u.tbls (fun m' hm => by
    obtain ⟨o', es', ep', ho', r'⟩ := hm
    rw [ho] at ho'; cases ho'
    exact ⟨_, es', ep', hL, r'⟩) hok hg
theorem Inv.turned {t' : Nat} {it : Addr} (I : Inv X pins σ H s) (k : ∀ b o, b ≠ it → s.heap.get? b = some o → h'.get? b = some o) (hn : H it = none) (hL : it ≠ X.env.locals)
    (h1 : it ∈ X.ex ∨ X.s₀.heap.objs.size ≤ it) (h2 : ∀ x c, X.env.cells.lookup x = some c → c ≠ it) (h3 : ∀ p ∈ X.pn ++ pins, p.1 ≠ it) : Inv X pins σ H { s with heap := h', toks := t' } := by
  have nit : ∀ b u, H b = some u → b ≠ it := fun b u e z => by rw [z, hn] at e; cases e
  refine I.step (g' := s.gens) (d' := s.drawn) (ch := [it]) (fun b hb => ?_) (fun b o _ _ hc e _ => k b o (fun z => hc (by simp [z])) e) (fun b o _ _ hc e _ => ⟨o.slots, k b o (fun z => hc (by simp [z])) e⟩) (fun _ _ _ _ n => n)
    (fun b o hc e => ⟨o, k b o (fun z => hc (by simp [z])) e⟩) (fun _ _ e => e) (fun _ _ _ e => e) (fun b ps e => ⟨#[], by rw [e]; simp⟩) (fun m hm => ?_) (fun b u e => ?_) I.bare
  · have e : b = it := by simpa using hb
    subst e
    exact ⟨h1, hL, h2, h3⟩
  · obtain ⟨o, es, ep, ho, r⟩ := hm
    exact ⟨o, es, ep, k _ o (Ne.symm hL) ho, r⟩
  · refine (I.hok b u e).stay (fun c v hc q => k c v ?_ q) (fun _ q => q) fun _ _ q => q
    rcases hc with z | z
    · rw [z]; exact nit b u e
    · exact nit c _ z
theorem Inv.tok (I : Inv X pins σ H s) (t : Nat) : Inv X pins σ H { s with toks := t } := I.un (h' := s.heap) (t' := t) Un.refl I.hok
theorem Inv.kept {t' : Nat} (I : Inv X pins σ H s) (k : ∀ b u, s.heap.get? b = some u → h'.get? b = some u) : Inv X pins σ H { s with heap := h', toks := t' } := I.un (Un.kept k) (I.hok.kept k)
theorem Inv.laid {a : Addr} {o : HO} {t' : Nat} (I : Inv X pins σ H s) (k : ∀ b u, s.heap.get? b = some u → h'.get? b = some u) (hp : s.heap.objs.size ≤ a) (new : ObjOk X.prog X.w (upd H a o) h' a o) :
    Inv X pins σ (upd H a o) { s with heap := h', toks := t' } := I.un (Un.laid k hp (I.hok.fresh hp)) (I.hok.laid k hp new)
theorem Inv.pins_of {pins' : List (Addr × Obj)} (I : Inv X pins σ H s) (h : ∀ p ∈ pins', s.heap.get? p.1 = some p.2 ∧ H p.1 = none ∧ p.1 ≠ X.env.locals ∧ p.1 ∉ X.fs ∧ ∀ v, p.2.data ≠ .cell v) : Inv X pins' σ H s :=
  ⟨I.ok, I.os, I.bare, I.base, I.loc, I.cell, I.free, I.freeC, fun p hp => (List.mem_append.mp hp).elim (fun z => I.pin p (List.mem_append_left _ z)) (h p), I.hok, I.len⟩
theorem nodup_ix {N : List Str} (hN : N.Nodup) {i j : Nat} {x : Str} (a : N[i]? = some x) (b : N[j]? = some x) : i = j := by
  obtain ⟨h1, e1⟩ := List.getElem?_eq_some_iff.mp a
  obtain ⟨h2, e2⟩ := List.getElem?_eq_some_iff.mp b
  exact (List.getElem_inj hN).mp (e1.trans e2.symm)
theorem store_ok2 {M : Model} {A : Around} {E : Value → Shared → Prop} {i : Nat} {x : Str} {v : V} {u : Value} {Q : Unit → Shared → Prop} (I : Inv X pins σ H s) (hN : X.N.Nodup) (hi : X.N[i]? = some x) (hx : Loc X.env.scope x) (r : RelV v u)
    (h : ∀ s', Inv X pins (σ.set i (some v)) H s' → (∃ a, Heap.SameBut a s.heap s'.heap ∧ (a = X.env.locals ∨ X.env.cells.lookup x = some a)) → Q () s') (hf : X.fn x = true ∨ X.env.scope.names.lookup x = some .local := by first | exact .inl rfl | exact .inr rfl | assumption) : wpAny M A (storeName X.env x u) Q E s := by
  obtain ⟨m, hn, hl⟩ := id I.loc
  have hcls : (X.env.scope.kind == .class || (X.env.scope.kind == .module && X.env.locals != X.env.globals)) = false := by rw [I.ok.kind]; rfl
  have hiσ : i < σ.length := by rw [I.len]; exact (List.getElem?_eq_some_iff.mp hi).1
  have cne := I.cne
  have tracked : ∀ {a : Addr} {h' : Heap}, (∃ o, s.heap.get? a = some o ∧ H a = none) → Heap.SameBut a s.heap h' → HOk X.prog X.w H h' := fun {a h'} ha hs b ob e => by
    obtain ⟨_, _, hfree⟩ := ha
    refine (I.hok b ob e).stay (fun c w' hc q => (hs.2 c ?_).trans q) (fun _ q => q) fun _ _ q => q
    rintro rfl
    rcases hc with rfl | hc
    · rw [hfree] at e; cases e
    · rw [hfree] at hc; cases hc
  rcases hx with hk | hk
  · refine wpAny_storeName_local hk hn (fun h' hn' hs => ?_) hcls
    obtain ⟨oL, _, _, hoL, _⟩ := id hn
    refine h _ ⟨I.ok, I.os, I.bare, ⟨fun b o e n hb hx => ?_, fun b o e n hb hx => ?_, I.base.free, fun b o e hx => ?_, I.base.tups, I.base.frzs, I.base.tbls⟩, ⟨_, hn', fun j y v' e1 e2 e3 => ?_⟩, fun y c e => ?_, I.free, I.freeC, fun p hp => ?_, tracked ⟨oL, hoL, I.free⟩ hs, by simpa using I.len⟩ ⟨_, hs, .inl rfl⟩
    · exact (hs.2 b (Nat.ne_of_lt (Nat.lt_of_lt_of_le (Heap.lt_size e) I.ok.above))).trans (I.base.keep b o e n hb hx)
    · obtain ⟨sl, e1⟩ := I.base.slot b o e n hb hx
      exact ⟨sl, (hs.2 b (Nat.ne_of_lt (Nat.lt_of_lt_of_le (Heap.lt_size e) I.ok.above))).trans e1⟩
    · obtain ⟨o', e1⟩ := I.base.there b o e hx
      exact ⟨o', (hs.2 b (Nat.ne_of_lt (Nat.lt_of_lt_of_le (Heap.lt_size e) I.ok.above))).trans e1⟩
    · by_cases hj : j = i
      · subst hj
        rw [hi] at e1; cases e1
        rw [List.getElem?_set_self hiσ] at e2
        cases e2
        exact ⟨u, r, .inl ⟨hk, by simp⟩⟩
      · rw [List.getElem?_set_ne (Ne.symm hj)] at e2
        obtain ⟨u', r', q⟩ := hl j y v' e1 e2 e3
        refine ⟨u', r', ?_⟩
        rcases q with ⟨k, e⟩ | ⟨k, c, e, z⟩
        · refine .inl ⟨k, ?_⟩
          have : y ≠ x := fun e => hj (nodup_ix hN e1 (e ▸ hi))
          simp [this, e]
        · exact .inr ⟨k, c, e, z.sameBut hs (cne y c e)⟩
    · obtain ⟨w', z⟩ := I.cell y c e
      exact ⟨w', z.sameBut hs (cne y c e)⟩
    · obtain ⟨e, n, ne, nf, d⟩ := I.pin p hp
      exact ⟨(hs.2 p.1 ne).trans e, n, ne, nf, d⟩
  · have hfn : X.fn x = true := by
      rcases hf with z | z
      · exact z
      · rw [z] at hk; cases hk
    obtain ⟨c, hc⟩ := I.ok.has x (.inl hk)
    obtain ⟨w', z⟩ := I.cell x c hc
    refine wpAny_storeName_cell I.ok.kind hk hc z (fun h' hc' hs => ?_)
    obtain ⟨oc, hoc, hocd⟩ := id z
    refine h { s with heap := h' } ⟨I.ok, I.os, I.bare, ⟨fun b o e n hb hx => ?_, fun b o e n hb hx => ?_, I.base.free, fun b o e hx => ?_, I.base.tups, I.base.frzs, I.base.tbls⟩, ⟨m, hn.sameBut hs (Ne.symm (cne x c hc)), fun j y v' e1 e2 e3 => ?_⟩, fun y c' e => ?_, I.free, I.freeC, fun p hp => ?_, tracked ⟨oc, hoc, I.freeC x c hc⟩ hs, by simpa using I.len⟩ ⟨c, hs, .inr hc⟩
    · exact (hs.2 b (Nat.ne_of_lt (Nat.lt_of_lt_of_le (Heap.lt_size e) (I.ok.cab x c hfn hc)))).trans (I.base.keep b o e n hb hx)
    · obtain ⟨sl, e1⟩ := I.base.slot b o e n hb hx
      exact ⟨sl, (hs.2 b (Nat.ne_of_lt (Nat.lt_of_lt_of_le (Heap.lt_size e) (I.ok.cab x c hfn hc)))).trans e1⟩
    · obtain ⟨o', e1⟩ := I.base.there b o e hx
      exact ⟨o', (hs.2 b (Nat.ne_of_lt (Nat.lt_of_lt_of_le (Heap.lt_size e) (I.ok.cab x c hfn hc)))).trans e1⟩
    · by_cases hj : j = i
      · subst hj
        rw [hi] at e1; cases e1
        rw [List.getElem?_set_self hiσ] at e2
        cases e2
        exact ⟨u, r, .inr ⟨.inl hk, c, hc, hc'⟩⟩
      · rw [List.getElem?_set_ne (Ne.symm hj)] at e2
        obtain ⟨u', r', q⟩ := hl j y v' e1 e2 e3
        refine ⟨u', r', ?_⟩
        rcases q with q | ⟨k, c', e, z'⟩
        · exact .inl q
        · refine .inr ⟨k, c', e, z'.sameBut hs ?_⟩
          rintro rfl
          exact hj (nodup_ix hN e1 (I.ok.inj _ _ _ e hc ▸ hi))
    · by_cases hcc : c' = c
      · subst hcc; exact ⟨_, hc'⟩
      · obtain ⟨w2, z2⟩ := I.cell y c' e
        exact ⟨w2, z2.sameBut hs hcc⟩
    · obtain ⟨e, n, ne, nf, d⟩ := I.pin p hp
      refine ⟨(hs.2 p.1 ?_).trans e, n, ne, nf, d⟩
      intro q
      rw [q, hoc] at e
      have q' : oc = p.2 := Option.some.inj e
      exact d w' (by rw [← q']; exact hocd)
theorem store_ok {M : Model} {A : Around} {E : Value → Shared → Prop} {i : Nat} {x : Str} {v : V} {u : Value} {Q : Unit → Shared → Prop} (I : Inv X pins σ H s) (hN : X.N.Nodup) (hi : X.N[i]? = some x) (hx : Loc X.env.scope x) (r : RelV v u)
    (h : ∀ s', Inv X pins (σ.set i (some v)) H s' → Q () s') (hf : X.fn x = true ∨ X.env.scope.names.lookup x = some .local := by first | exact .inl rfl | exact .inr rfl | assumption) : wpAny M A (storeName X.env x u) Q E s :=
  store_ok2 I hN hi hx r (fun s' I' _ => h s' I') hf
end
abbrev XK := Value → Option Addr → Hp → Prop
abbrev St := List (Option V)
abbrev VK := V → Hp → Prop
abbrev TE := St → Hp → VK → Prop
abbrev TT := St → Hp → (Bool → Hp → Prop) → Prop
abbrev TA := St → Hp → (List V → Hp → Prop) → Prop
structure Ends where
  nx : St → Hp → Prop
  rt : VK
  bk : St → Hp → Prop := fun _ _ => False
  ct : St → Hp → Prop := fun _ _ => False
abbrev TS := Ends → St → Hp → Prop
def EP (X : Cx) (pins : List (Addr × Obj)) (σ : St) (Q : VK) (u : Value) (s' : Shared) : Prop := ∃ v H', Inv X pins σ H' s' ∧ RelV v u ∧ Q v H'
def TP (X : Cx) (pins : List (Addr × Obj)) (σ : St) (Q : Bool → Hp → Prop) (b : Bool) (s' : Shared) : Prop := ∃ H', Inv X pins σ H' s' ∧ Q b H'
def AP (X : Cx) (pins : List (Addr × Obj)) (σ : St) (Q : List V → Hp → Prop) (us : List Value) (s' : Shared) : Prop := ∃ vs H', Inv X pins σ H' s' ∧ Vals vs us ∧ Q vs H'
def SP (X : Cx) (pins : List (Addr × Obj)) (D : Ends) (f : Flow) (s' : Shared) : Prop :=
  match f with
  | .next => ∃ σ' H', Inv X pins σ' H' s' ∧ D.nx σ' H'
  | .brk => ∃ σ' H', Inv X pins σ' H' s' ∧ D.bk σ' H'
  | .cont => ∃ σ' H', Inv X pins σ' H' s' ∧ D.ct σ' H'
  | .ret u => ∃ v σ' H', Inv X pins σ' H' s' ∧ RelV v u ∧ D.rt v H'
def PE (X : Cx) (e : Expr) (t : TE) : Prop :=
  ∀ (pins : List (Addr × Obj)) (s : Shared) (σ : St) (H : Hp) (Q : VK), Inv X pins σ H s → t σ H Q → wpAny (model X.prog X.w) X.A (eval e X.env) (EP X pins σ Q) X.xe s
def PT (X : Cx) (e : Expr) (t : TT) : Prop :=
  ∀ (pins : List (Addr × Obj)) (s : Shared) (σ : St) (H : Hp) (Q : Bool → Hp → Prop), Inv X pins σ H s → t σ H Q → wpAny (model X.prog X.w) X.A (isTrue e X.env (eval e X.env)) (TP X pins σ Q) X.xe s
def PW (X : Cx) (e : Expr) (t : TT) : Prop :=
  ∀ (whole : Sem Value) (pins : List (Addr × Obj)) (s : Shared) (σ : St) (H : Hp) (Q : Bool → Hp → Prop), Inv X pins σ H s → t σ H Q → wpAny (model X.prog X.w) X.A (isTrue e X.env whole) (TP X pins σ Q) X.xe s
theorem PW.pt {X : Cx} {e : Expr} {t : TT} (h : PW X e t) : PT X e t := h _
def PA (X : Cx) (es : List Expr) (t : TA) : Prop :=
  ∀ (pos : Pos) (pins : List (Addr × Obj)) (s : Shared) (σ : St) (H : Hp) (Q : List V → Hp → Prop), Inv X pins σ H s → t σ H Q → wpAny (model X.prog X.w) X.A (spliced (backTo pos (starEach es X.env))) (AP X pins σ Q) X.xe s
def PS (X : Cx) (st : Stmt) (t : TS) : Prop :=
  ∀ (pins : List (Addr × Obj)) (s : Shared) (σ : St) (H : Hp) (D : Ends), Inv X pins σ H s → t D σ H → wpAny (model X.prog X.w) X.A (exec st X.env) (SP X pins D) X.xe s
def PSs (X : Cx) (st : List Stmt) (t : TS) : Prop :=
  ∀ (pins : List (Addr × Obj)) (s : Shared) (σ : St) (H : Hp) (D : Ends), Inv X pins σ H s → t D σ H → wpAny (model X.prog X.w) X.A (execs st X.env) (SP X pins D) X.xe s
theorem thn {α : Type} {t : Sem α} {Q Q' : α → Shared → Prop} {M : Model} {A : Around} {E : Value → Shared → Prop} {s : Shared} (h : wpAny M A t Q E s) (hQ : ∀ a s, Q a s → Q' a s) : wpAny M A t Q' E s := wpAny_mono h hQ fun _ _ x => x
end L2
namespace L2
open PySem PySem.Spec PyProof.Rows
section
variable {X : Cx}
def tVar (i : Nat) : TE := fun σ H Q => ∃ v, σ[i]? = some (some v) ∧ Q v H
def tC (v : V) : TE := fun _ H Q => Q v H
theorem pe_var {i : Nat} {x : Str} {pos : Pos} (hN : X.N[i]? = some x) (hv : Vis X.env.scope x) (hd : (x == ("__debug__" : Str)) = false := by decide) (hcd : (x == ("__classdict__" : Str)) = false := by decide) : PE X (.Name x pos) (tVar i) := by
  intro pins s σ H Q I h
  obtain ⟨v, e, h⟩ := h
  obtain ⟨m, hn, hl⟩ := I.loc
  obtain ⟨u, r, l⟩ := hl i x v hN e hv
  have fin : EP X pins σ Q u s := ⟨v, H, I, r, h⟩
  rcases l with ⟨hk, hm⟩ | ⟨hk, c, hc, hcell⟩
  · exact wpAny_Name (wpAny_loadName_local I.ok.kind hk hn hm fin) hd
  · rcases hk with hk | hk
    · exact wpAny_Name (wpAny_loadName_cell I.ok.kind hk hc hcell fin) hd
    · exact wpAny_Name (wpAny_loadName_free I.ok.kind hk hc hcell fin hcd) hd
theorem pe_int {i j pos} : PE X (.Constant (.int i) j pos) (tC (.int i)) := fun _ _ _ H _ I h => wpAny_Constant_int ⟨.int i, H, I.tok _, ⟨_, rfl⟩, h⟩
theorem pe_bl {b j pos} : PE X (.Constant (.bool b) j pos) (tC (.bl b)) := fun _ _ _ H _ I h => Constant_bool ⟨.bl b, H, I, rfl, h⟩
def Gl (X : Cx) (x : Str) : Prop := X.env.kindOf x = some .globalImplicit
theorem ld_glob {E : Value → Shared → Prop} {pins : List (Addr × Obj)} {s : Shared} {σ : St} {H : Hp} {x : Str} {u : Value} {pos : Pos} {Q : Value → Shared → Prop} (I : Inv X pins σ H s) (hg : Gl X x) (hm : X.mg x = some u) (h : Q u s)
    (hd : (x == ("__debug__" : Str)) = false := by decide) : wpAny (model X.prog X.w) X.A (eval (.Name x pos) X.env) Q E s :=
  Calls.Name_function_global I.ok.kind hg (Calls.loadGlobal_global (by rw [I.ok.glob]; exact I.mod.glob.keeps I.bk) hm h) hd
theorem ld_blt {E : Value → Shared → Prop} {pins : List (Addr × Obj)} {s : Shared} {σ : St} {H : Hp} {x : Str} {u : Value} {pos : Pos} {Q : Value → Shared → Prop} (I : Inv X pins σ H s) (hg : Gl X x) (hm : X.mg x = none) (hv : bootBuiltins x = some u) (h : Q u s)
    (hn : x ≠ "__name__" := by decide) (hd : (x == ("__debug__" : Str)) = false := by decide) : wpAny (model X.prog X.w) X.A (eval (.Name x pos) X.env) Q E s := by
  obtain ⟨mb, h1, h2⟩ := I.mod.blt
  exact Calls.Name_function_global I.ok.kind hg (Calls.loadGlobal_builtin (by rw [I.ok.glob]; exact I.mod.glob.keeps I.bk) hm (by rw [I.ok.blt]; exact h1.keeps I.bk) ((h2 x hn).trans hv) h) hd
theorem pe_glob {x : Str} {v : V} {u : Value} {pos : Pos} (hg : Gl X x) (hm : X.mg x = some u) (r : RelV v u) (hd : (x == ("__debug__" : Str)) = false := by decide) : PE X (.Name x pos) (tC v) :=
  fun _ _ _ H _ I h => ld_glob I hg hm ⟨v, H, I, r, h⟩ hd
theorem pe_bltn {x : Str} {v : V} {u : Value} {pos : Pos} (hg : Gl X x) (hm : X.mg x = none) (hv : bootBuiltins x = some u) (r : RelV v u) (hn : x ≠ "__name__" := by decide) (hd : (x == ("__debug__" : Str)) = false := by decide) : PE X (.Name x pos) (tC v) :=
  fun _ _ _ H _ I h => ld_blt I hg hm hv ⟨v, H, I, r, h⟩ hn hd
variable {a b : Expr} {ta tb : TE} {pos : Pos}
variable {tA tB' : TT} {rest : List Expr}
def tOr (t u : TT) : TT := fun σ H Q => t σ H fun c H1 => if c = true then Q true H1 else u σ H1 Q
def tNot (t : TT) : TT := fun σ H Q => t σ H fun c H1 => Q (!c) H1
theorem pw_or1 (ha : PT X a tA) : PW X (.BoolOp .Or [a] pos) tA := by
  intro wh pins s σ H Q I h
  refine isTrue_or (thn (ha pins s σ H Q I h) fun c s1 e => ?_)
  cases c with
  | false => exact isTrue_or_nil e
  | true => exact e
theorem pw_or (ha : PT X a tA) (hb : PW X (.BoolOp .Or (b :: rest) pos) tB') : PW X (.BoolOp .Or (a :: b :: rest) pos) (tOr tA tB') := by
  intro wh pins s σ H Q I h
  refine isTrue_or (thn (ha pins s σ H _ I h) fun c s1 ⟨H1, I1, q1⟩ => ?_)
  cases c with
  | true => exact ⟨H1, I1, q1⟩
  | false => exact hb wh pins s1 σ H1 Q I1 q1
theorem pt_not (ha : PT X a tA) : PT X (.UnaryOp .Not a pos) (tNot tA) := by
  intro pins s σ H Q I h
  exact isTrue_not (ha pins s σ H (fun c H1 => Q (!c) H1) I h)
theorem pe_one {op} {t : TE} (h : PE X a t) : PE X (.BoolOp op [a] pos) t := fun pins s σ H Q I hw => BoolOp_one (h pins s σ H Q I hw)
end
end L2
namespace L2
open PySem PySem.Spec PyProof.Rows
def SqL (K : PySem.W.Frag) (H : Hp) (a : Addr) (xs : List V) : Prop :=
  Rd H a (.lst xs) ∨
    ∃ (o : Obj) (its : Array Value) (n : Nat), K.lookup a = some o ∧ o.cls = .type "list" ∧ o.dict = none ∧ o.data = .seq its n ∧ its.size ≤ sizeLine ∧ Vals xs its.toList
def SqT (K : PySem.W.Frag) (H : Hp) (a : Addr) (xs : List V) : Prop :=
  Rd H a (.tup xs) ∨
    ∃ (o : Obj) (its : Array Value) (n : Nat), K.lookup a = some o ∧ o.cls = .type "tuple" ∧ o.data = .seq its n ∧ its.size ≤ sizeLine ∧ Vals xs its.toList
def absV : Value → Option V
  | .none => some .non
  | .bool b => some (.bl b)
  | .int i _ => some (.int i)
  | .str x _ => some (.str x)
  | .bytes b _ => some (.byt b)
  | .float b _ => some (.flt b)
  | .ref a => some (.ref a)
  | .type n => some (.ty n)
  | _ => none
theorem RelV.abs {x : V} {u : Value} (r : RelV x u) : absV u = some x := by
  cases x with
  | non => cases r; rfl
  | bl _ => cases r; rfl
  | int _ => obtain ⟨t, rfl⟩ := r; rfl
  | str _ => obtain ⟨t, rfl⟩ := r; rfl
  | byt _ => obtain ⟨t, rfl⟩ := r; rfl
  | flt _ => obtain ⟨t, rfl⟩ := r; rfl
  | ref _ => cases r; rfl
  | ty _ => cases r; rfl
theorem RelV.inj {x y : V} {u : Value} (r : RelV x u) (q : RelV y u) : x = y := Option.some.inj (r.abs.symm.trans q.abs)
theorem Vals.inj : ∀ {xs ys : List V} {us : List Value}, Vals xs us → Vals ys us → xs = ys
  | _, _, _, .nil, .nil => rfl
  | _, _, _, .cons r t, .cons r' t' => by rw [r.inj r', Vals.inj t t']
section
variable {X : Cx} {pins : List (Addr × Obj)} {σ : St} {H : Hp} {s : Shared} {a : Addr} {xs ys : List V}
theorem SqL.of {K : PySem.W.Frag} (h : H a = some (.lst xs)) : SqL K H a xs := .inl (.inl h)
theorem SqT.of {K : PySem.W.Frag} (h : H a = some (.tup xs)) : SqT K H a xs := .inl (.inl h)
theorem Inv.list (I : Inv X pins σ H s) (h : SqL X.K H a xs) : ∃ its : List Value, Vals xs its ∧ PlainL s.heap a its.toArray ∧ xs.length ≤ sizeLine := by
  rcases h with h | ⟨o, its, n, hk, hc, hd, hs, hz, r⟩
  · obtain ⟨z, its, n, r, e⟩ := h.ok I.hok
    exact ⟨its, r, ⟨_, n, e, rfl, rfl, rfl⟩, z⟩
  · refine ⟨its.toList, r, ⟨o, n, I.kIn a o hk, hc, hd, by simpa using hs⟩, ?_⟩
    have e := r.length
    simp only [Array.length_toList] at e
    omega
theorem Inv.tuple (I : Inv X pins σ H s) (h : SqT X.K H a xs) : ∃ its : List Value, Vals xs its ∧ IsTup s.heap a its.toArray ∧ xs.length ≤ sizeLine := by
  rcases h with h | ⟨o, its, n, hk, hc, hs, hz, r⟩
  · obtain ⟨z, its, r, p⟩ := h.ok I.hok
    exact ⟨its, r, p, z⟩
  · refine ⟨its.toList, r, ⟨o, I.kIn a o hk, hc, n, by simpa using hs⟩, ?_⟩
    have e := r.length
    simp only [Array.length_toList] at e
    omega
theorem Inv.list_inj (I : Inv X pins σ H s) (h : SqL X.K H a xs) (h' : SqL X.K H a ys) : xs = ys := by
  obtain ⟨its, r, ⟨o, n, e, _, _, d⟩, _⟩ := I.list h
  obtain ⟨its', r', ⟨o', n', e', _, _, d'⟩, _⟩ := I.list h'
  rw [e] at e'; cases e'
  rw [d] at d'
  injection d' with d1 _
  have : its = its' := by simpa using congrArg Array.toList d1
  subst this
  exact r.inj r'
theorem Inv.tuple_inj (I : Inv X pins σ H s) (h : SqT X.K H a xs) (h' : SqT X.K H a ys) : xs = ys := by
  obtain ⟨its, r, ⟨o, e, _, n, d⟩, _⟩ := I.tuple h
  obtain ⟨its', r', ⟨o', e', _, n', d'⟩, _⟩ := I.tuple h'
  rw [e] at e'; cases e'
  rw [d] at d'
  injection d' with d1 _
  have : its = its' := by simpa using congrArg Array.toList d1
  subst this
  exact r.inj r'
end
section
variable {X : Cx} {pins : List (Addr × Obj)} {σ : St} {H : Hp} {s : Shared} {E : Value → Shared → Prop}
end
section
variable {X : Cx} {st : Stmt} {rest : List Stmt} {t u : TS} {e : Expr} {te : TE} {pos : Pos}
def tNext : TS := fun D σ H => D.nx σ H
def tSeq (t u : TS) : TS := fun D σ H => t { D with nx := u D } σ H
theorem pss_nil : PSs X [] tNext := fun _ _ σ H _ I h => wpAny_execs_nil ⟨σ, H, I, h⟩
theorem pss_cons (h1 : PS X st t) (h2 : PSs X rest u) : PSs X (st :: rest) (tSeq t u) := by
  intro pins s σ H D I h
  refine wpAny_execs_cons (thn (h1 pins s σ H { D with nx := u D } I h) fun f s1 q => ?_)
  cases f with
  | next =>
    obtain ⟨σ', H', I', q⟩ := q
    exact h2 pins s1 σ' H' D I' q
  | ret v => exact q
  | brk => exact q
  | cont => exact q
theorem pss_one (h1 : PS X st t) : PSs X [st] t := by
  intro pins s σ H D I h
  refine wpAny_execs_cons (thn (h1 pins s σ H D I h) fun f s1 q => ?_)
  cases f with
  | next => exact wpAny_execs_nil q
  | ret v => exact q
  | brk => exact q
  | cont => exact q
def tRet (te : TE) : TS := fun D σ H => te σ H D.rt
theorem ps_ret (he : PE X e te) : PS X (.Return (some e) pos) (tRet te) := by
  intro pins s σ H D I h
  exact wpAny_Return_some (thn (he pins s σ H _ I h) fun v s1 ⟨x, H1, I1, r1, q1⟩ => ⟨x, σ, H1, I1, r1, q1⟩)
def tIfS (c : TT) (t u : TS) : TS := fun D σ H => c σ H fun b H1 => if b = true then t D σ H1 else u D σ H1
theorem ps_if {c : Expr} {a b : List Stmt} {tc : TT} (hc : PT X c tc) (ha : PSs X a t) (hb : PSs X b u) : PS X (.If c a b pos) (tIfS tc t u) := by
  intro pins s σ H D I h
  refine wpAny_If (thn (hc pins s σ H _ I h) fun d s1 ⟨H1, I1, q1⟩ => ?_)
  cases d with
  | true => exact ha pins s1 σ H1 D I1 q1
  | false => exact hb pins s1 σ H1 D I1 q1
end
abbrev TG := V → St → Hp → (St → Hp → Prop) → Prop
def PG (X : Cx) (target : Expr) (t : TG) : Prop :=
  ∀ (pins : List (Addr × Obj)) (s : Shared) (σ : St) (H : Hp) (v : V) (u : Value) (Q : St → Hp → Prop), Inv X pins σ H s → RelV v u → t v σ H Q →
    wpAny (model X.prog X.w) X.A (assign target X.env u) (fun _ s' => ∃ σ' H', Inv X pins σ' H' s' ∧ Q σ' H') X.xe s
section
variable {X : Cx} {pos : Pos}
def gName (i : Nat) : TG := fun v σ H Q => Q (σ.set i (some v)) H
theorem pg_name {i : Nat} {x : Str} (hN : X.N.Nodup) (hi : X.N[i]? = some x) (hx : Loc X.env.scope x) (hf : X.fn x = true ∨ X.env.scope.names.lookup x = some .local := by first | exact .inl rfl | exact .inr rfl | assumption) : PG X (.Name x pos) (gName i) := by
  intro pins s σ H v u Q I r h
  exact wpAny_assign_Name (store_ok I hN hi hx r (fun s' I' => ⟨_, H, I', h⟩) hf)
def tAsg (te : TE) (g : TG) : TS := fun D σ H => te σ H fun x H1 => g x σ H1 D.nx
theorem ps_set {i : Nat} {x : Str} {e : Expr} {te : TE} {pos' : Pos} (hN : X.N.Nodup) (hi : X.N[i]? = some x) (hx : Loc X.env.scope x) (he : PE X e te) (hs : swapsWith e (some (.Name x pos')) pos.line X.env = pure false := by rfl) (hf : X.fn x = true ∨ X.env.scope.names.lookup x = some .local := by first | exact .inl rfl | exact .inr rfl | assumption) :
    PS X (.Assign [.Name x pos'] e pos) (tAsg te (gName i)) := by
  intro pins s σ H D I h
  refine wpAny_Assign_Name (thn (he pins s σ H _ I h) fun v s1 ⟨y, H1, I1, r1, q1⟩ => ?_) hs
  exact store_ok I1 hN hi hx r1 (fun s2 I2 => ⟨_, H1, I2, q1⟩) hf
end
section
variable {X : Cx} {pos : Pos}
end
structure It where
  go : Nat → Hp → Prop
  yld : Nat → Hp → V → Hp → Prop
  stop : Nat → Hp → Prop
def FpOk (X : Cx) (pins : List (Addr × Obj)) (H : Hp) (b : Addr) : Prop :=
  H b = none ∧ b ≠ X.env.locals ∧ b ∉ X.fs ∧ (b ∈ X.ex ∨ X.s₀.heap.objs.size ≤ b) ∧ (∀ x c, X.env.cells.lookup x = some c → c ≠ b) ∧ ∀ p ∈ X.pn ++ pins, p.1 ≠ b
theorem Inv.fpOk {X : Cx} {pins : List (Addr × Obj)} {σ : St} {H H' : Hp} {s : Shared} {b : Addr} (I : Inv X pins σ H s) (hb : s.heap.objs.size ≤ b) (hn : H' b = none) : FpOk X pins H' b := by
  refine ⟨hn, Nat.ne_of_gt (Nat.lt_of_lt_of_le I.lt hb), I.nofs hb, .inr (Nat.le_trans I.sz hb), fun x c e z => ?_, fun p hp z => ?_⟩
  · obtain ⟨v, q⟩ := I.cell x c e
    exact absurd (Nat.lt_of_lt_of_le q.lt (by rw [z]; exact hb)) (Nat.lt_irrefl _)
  · exact absurd (Nat.lt_of_lt_of_le (Heap.lt_size (I.pin p hp).1) (by rw [z]; exact hb)) (Nat.lt_irrefl _)
structure Turn (P : Program) (w : World) (K : PySem.W.Frag) (tg : Expr) (J : It) (fp : List Addr) (it : Addr) (tn : Nat → Heap → Prop) : Prop where
  mem : it ∈ fp
  obj : ∀ i h, tn i h → ∀ b ∈ fp, ∃ o, h.get? b = some o ∧ ∀ v, o.data ≠ .cell v
  keep : ∀ i h h', tn i h → (∀ b ∈ fp, ∀ o, h.get? b = some o → h'.get? b = some o) → tn i h'
  item : ∀ (X : Cx), X.prog = P → X.w = w → X.K = K → X.calm = true → ∀ (i : Nat) (pins : List (Addr × Obj)) (s : Shared) (σ : St) (H : Hp) (E : Value → Shared → Prop), Inv X pins σ H s → (∀ b ∈ fp, FpOk X pins H b) → tn i s.heap → J.go i H →
    wpAny (model P w) X.A (pyNext (.ref it)) (fun r s1 => ∃ u, r = some u ∧
      wpAny (model P w) X.A (letOwnedTupleGo tg (.ref it) u) (fun _ s2 => ∃ x H', Inv X pins σ H' s2 ∧ RelV x u ∧ J.yld i H x H' ∧ tn (i + 1) s2.heap ∧ ∀ b ∈ fp, H' b = none) E s1) E s
  done : ∀ (X : Cx), X.prog = P → X.w = w → X.K = K → X.calm = true → ∀ (i : Nat) (pins : List (Addr × Obj)) (s : Shared) (σ : St) (H : Hp) (E : Value → Shared → Prop), Inv X pins σ H s → (∀ b ∈ fp, FpOk X pins H b) → tn i s.heap → J.stop i H →
    wpAny (model P w) X.A (pyNext (.ref it)) (fun r s1 => r = none ∧ Inv X pins σ H s1) E s
  self : ∀ (A : Around) (i : Nat) (s : Shared) (Q : Value → Shared → Prop) (E : Value → Shared → Prop), tn i s.heap → Q (.ref it) s → wpAny (model P w) A (pyIter (.ref it)) Q E s
abbrev TI := St → Hp → (It → Hp → Prop) → Prop
def PIE (X : Cx) (pins : List (Addr × Obj)) (σ : St) (tg : Expr) (R : It → Hp → Prop) (itv : Value) (s2 : Shared) : Prop :=
  ∃ (it : Addr) (fp : List Addr) (tn : Nat → Heap → Prop) (J : It) (H' : Hp), itv = .ref it ∧ Inv X pins σ H' s2 ∧ Turn X.prog X.w X.K tg J fp it tn ∧ tn 0 s2.heap ∧ (∀ b ∈ fp, FpOk X pins H' b) ∧ R J H'
def PI (X : Cx) (tg iter : Expr) (wi : TI) : Prop :=
  ∀ (pins : List (Addr × Obj)) (s : Shared) (σ : St) (H : Hp) (R : It → Hp → Prop), Inv X pins σ H s → wi σ H R →
    wpAny (model X.prog X.w) X.A (eval iter X.env) (fun v s1 => wpAny (model X.prog X.w) X.A (pyIter v) (PIE X pins σ tg R) X.xe s1) X.xe s
theorem go_of {M : Model} {A : Around} {E : Value → Shared → Prop} {s : Shared} {tg : Expr} {it : Addr} {u : Value} {o : Obj} {n : String} {vs : Array Value} {Q : Unit → Shared → Prop} (ho : s.heap.get? it = some o) (hc : o.cls = .type n) (hd : o.data = .fields vs)
    (hn : ["enumerate", "zip", "dict_itemiterator", "dict_reverseitemiterator", "odict_iterator", "itertools.zip_longest", "itertools.pairwise"].contains n = false) (hQ : Q () s) : wpAny M A (letOwnedTupleGo tg (.ref it) u) Q E s := by
  unfold letOwnedTupleGo
  cases tg <;> first
    | exact wpAny_pure hQ
    | (cases u <;> first
        | exact wpAny_pure hQ
        | (refine wpAny_bind (wpAny_load ho ?_)
           rw [hc, hd]
           show wpAny M A (if (["enumerate", "zip", "dict_itemiterator", "dict_reverseitemiterator", "odict_iterator", "itertools.zip_longest", "itertools.pairwise"].contains n && vs[0]? == some (rawInt _)) = true then _ else _) Q E s
           rw [if_neg (by intro h; rw [hn, Bool.false_and] at h; cases h)]
           exact wpAny_pure hQ))
def Itl (K : PySem.W.Frag) (a : Addr) : It :=
  ⟨fun i H => ∃ xs x, SqL K H a xs ∧ xs[i]? = some x, fun i H x H' => H' = H ∧ ∀ xs, SqL K H a xs → xs[i]? = some x, fun i H => ∃ xs, SqL K H a xs ∧ xs.length ≤ i⟩
def Itt (K : PySem.W.Frag) (a : Addr) : It :=
  ⟨fun i H => ∃ xs x, SqT K H a xs ∧ xs[i]? = some x, fun i H x H' => H' = H ∧ ∀ xs, SqT K H a xs → xs[i]? = some x, fun i H => ∃ xs, SqT K H a xs ∧ xs.length ≤ i⟩
theorem turn_list {P : Program} {w : World} {K : PySem.W.Frag} {tg : Expr} (a it : Addr) : Turn P w K tg (Itl K a) [it] it (fun i h => h.IsListIter it a i) where
  mem := by simp
  obj := fun i h st b hb => by
    have e : b = it := by simpa using hb
    subst e
    obtain ⟨o, e, c, d⟩ := st
    exact ⟨o, e, fun v z => by rw [d] at z; cases z⟩
  keep := fun i h h' st k => st.at fun o e => k it (by simp) o e
  item := by
    intro X hP hw hK hc i pins s σ H E I hf st hg
    subst hP hw hK
    obtain ⟨xs, x, hq, hx⟩ := hg
    obtain ⟨its, rv, p, hz⟩ := I.list hq
    obtain ⟨u, hu, ru⟩ := rv.get hx
    obtain ⟨f0, f1, f2, f3, f4, f5⟩ := hf it (by simp)
    refine wpAny_pyNext_list_item st p.isList (x := u) (by simpa using hu) fun h' st' sb => ?_
    have I1 : Inv X pins σ H { s with heap := h' } := I.turned (t' := s.toks) (fun b o hb e => (sb.2 b hb).trans e) f0 f1 f3 f4 f5
    obtain ⟨o, e, c, d⟩ := id st'
    exact ⟨u, rfl, go_of (s := { s with heap := h' }) e c d (by decide) ⟨x, H, I1, ru, ⟨rfl, fun ys hy => by rw [I.list_inj hy hq]; exact hx⟩, st', fun b hb => (hf b hb).1⟩⟩
  done := by
    intro X hP hw hK hc i pins s σ H E I hf st hg
    subst hP hw hK
    obtain ⟨xs, hq, hx⟩ := hg
    obtain ⟨its, rv, p, hz⟩ := I.list hq
    obtain ⟨f0, f1, f2, f3, f4, f5⟩ := hf it (by simp)
    have hl := rv.length
    exact wpAny_pyNext_list_end (I.ok.hd hc) st p.isList (by simp; omega) fun h' eb => ⟨rfl, I.turned (t' := s.toks) (fun b o hb e => eb b o hb e) f0 f1 f3 f4 f5⟩
  self := fun _ _ _ _ _ st h => wpAny_pyIter_listiter st h
theorem turn_tuple {P : Program} {w : World} {K : PySem.W.Frag} {tg : Expr} (a it : Addr) : Turn P w K tg (Itt K a) [it] it (fun i h => h.IsTupleIter it a i) where
  mem := by simp
  obj := fun i h st b hb => by
    have e : b = it := by simpa using hb
    subst e
    obtain ⟨o, e, c, d⟩ := st
    exact ⟨o, e, fun v z => by rw [d] at z; cases z⟩
  keep := fun i h h' st k => st.at fun o e => k it (by simp) o e
  item := by
    intro X hP hw hK hc i pins s σ H E I hf st hg
    subst hP hw hK
    obtain ⟨xs, x, hq, hx⟩ := hg
    obtain ⟨its, rv, p, hz⟩ := I.tuple hq
    obtain ⟨u, hu, ru⟩ := rv.get hx
    obtain ⟨f0, f1, f2, f3, f4, f5⟩ := hf it (by simp)
    refine wpAny_pyNext_tuple_item st (show s.heap.IsTuple a its.toArray from p) (x := u) (by simpa using hu) fun h' st' sb => ?_
    have I1 : Inv X pins σ H { s with heap := h' } := I.turned (t' := s.toks) (fun b o hb e => (sb.2 b hb).trans e) f0 f1 f3 f4 f5
    obtain ⟨o, e, c, d⟩ := id st'
    exact ⟨u, rfl, go_of (s := { s with heap := h' }) e c d (by decide) ⟨x, H, I1, ru, ⟨rfl, fun ys hy => by rw [I.tuple_inj hy hq]; exact hx⟩, st', fun b hb => (hf b hb).1⟩⟩
  done := by
    intro X hP hw hK hc i pins s σ H E I hf st hg
    subst hP hw hK
    obtain ⟨xs, hq, hx⟩ := hg
    obtain ⟨its, rv, p, hz⟩ := I.tuple hq
    obtain ⟨f0, f1, f2, f3, f4, f5⟩ := hf it (by simp)
    have hl := rv.length
    exact wpAny_pyNext_tuple_end (I.ok.hd hc) st (show s.heap.IsTuple a its.toArray from p) (by simp; omega) fun h' eb => ⟨rfl, I.turned (t' := s.toks) (fun b o hb e => eb b o hb e) f0 f1 f3 f4 f5⟩
  self := fun _ _ _ _ _ st h => wpAny_pyIter_tupleiter st h
end L2
namespace L2
open PySem PySem.Spec PyProof.Rows
section
variable {X : Cx} {tg : Expr}
def tFor (wi : TI) (g : TG) (tb : TS) : TS := fun D σ H => wi σ H fun J H1 => ∃ W : Nat → Nat → St → Hp → Prop, (∃ m, W 0 m σ H1) ∧ ∀ i m σ H, W i m σ H →
  (J.stop i H ∧ D.nx σ H) ∨ (J.go i H ∧ ∃ N : St → Hp → Prop, (∀ σ' H', N σ' H' → ∃ m', m' < m ∧ W (i + 1) m' σ' H') ∧ ∀ x H', J.yld i H x H' → g x σ H' fun σ2 H2 => tb { D with nx := N, ct := N, bk := D.nx } σ2 H2)
def pinsAt (fp : List Addr) (h : Heap) : List (Addr × Obj) := fp.filterMap fun b => (h.get? b).map fun o => (b, o)
theorem mem_pinsAt {fp : List Addr} {h : Heap} {b : Addr} {o : Obj} (hb : b ∈ fp) (e : h.get? b = some o) : (b, o) ∈ pinsAt fp h := List.mem_filterMap.mpr ⟨b, hb, by rw [e]; rfl⟩
theorem of_pinsAt {fp : List Addr} {h : Heap} {p : Addr × Obj} (hp : p ∈ pinsAt fp h) : p.1 ∈ fp ∧ h.get? p.1 = some p.2 := by
  obtain ⟨b, hb, e⟩ := List.mem_filterMap.mp hp
  cases q : h.get? b with
  | none => rw [q] at e; cases e
  | some o =>
    rw [q] at e
    have e' : (b, o) = p := Option.some.inj e
    subst e'
    exact ⟨hb, q⟩
theorem Inv.pinned {pins : List (Addr × Obj)} {σ : St} {H : Hp} {s : Shared} {fp : List Addr} (I : Inv X pins σ H s) (hf : ∀ b ∈ fp, FpOk X pins H b) (ho : ∀ b ∈ fp, ∃ o, s.heap.get? b = some o ∧ ∀ v, o.data ≠ .cell v) : Inv X (pins ++ pinsAt fp s.heap) σ H s :=
  I.pins_of fun p hp => (List.mem_append.mp hp).elim (fun z => I.pin p (List.mem_append_right _ z)) fun z => by
    obtain ⟨hb, e⟩ := of_pinsAt z
    obtain ⟨f0, f1, f2, _⟩ := hf p.1 hb
    obtain ⟨o, e', d⟩ := ho p.1 hb
    rw [e] at e'; cases e'
    exact ⟨e, f0, f1, f2, d⟩
theorem Inv.unpinned {pins pl : List (Addr × Obj)} {σ : St} {H : Hp} {s : Shared} (I : Inv X (pins ++ pl) σ H s) : Inv X pins σ H s := I.pins_of fun p hp => I.pin p (List.mem_append_right _ (List.mem_append_left _ hp))
theorem ps_for {iter : Expr} {body : List Stmt} {wi : TI} {g : TG} {tb : TS} {pos : Pos} (hp : PassesOwn (model X.prog X.w) X.A X.env X.xe) (hc : X.calm = true) (hi : PI X tg iter wi) (hg : PG X tg g) (hb : PSs X body tb)
    (hs : ∀ x, foldedSetIterable iter X.env x = pure x := by intro _; rfl) : PS X (.For tg iter body [] pos) (tFor wi g tb) := by
  intro pins s σ H D I h
  refine wpAny_For (thn (hi pins s σ H _ I h) fun v s1 h1 => thn h1 fun itv s2 h2 => ?_) hs
  obtain ⟨it, fp, tn, J, H2, e, I2, T, st2, f2, W, ⟨m0, w0⟩, turn⟩ := h2
  subst e
  -- what stays true of the iterator's objects through the loop
  have stat : ∀ {H' : Hp}, (∀ b ∈ fp, H' b = none) → ∀ b ∈ fp, FpOk X pins H' b := fun hn b hb => ⟨hn b hb, (f2 b hb).2⟩
  refine codeAny_forLoop_any (fun n s' => ∃ i σ' H', Inv X pins σ' H' s' ∧ tn i s'.heap ∧ (∀ b ∈ fp, H' b = none) ∧ W i n σ' H') ?_ m0 ⟨0, σ, H2, I2, st2, fun b hb => (f2 b hb).1, w0⟩
  rintro n s3 ⟨i, σ3, H3, I3, st3, fr3, w3⟩
  rcases turn i n σ3 H3 w3 with ⟨stop, qn⟩ | ⟨go, N, hN, step⟩
  · refine wpAny_passesOwn hp (thn (T.done X rfl rfl rfl hc i pins s3 σ3 H3 X.xe I3 (stat fr3) st3 stop) fun r s4 ⟨hr, I4⟩ => ?_)
    subst hr
    exact wpAny_execs_nil ⟨σ3, H3, I4, qn⟩
  · refine wpAny_passesOwn hp (thn (T.item X rfl rfl rfl hc i pins s3 σ3 H3 X.xe I3 (stat fr3) st3 go) fun r s4 ⟨u, hr, h4⟩ => ?_)
    subst hr
    refine wpAny_passesOwn hp (thn h4 fun _ s5 ⟨x, H5, I5, r5, y5, st5, fr5⟩ => ?_)
    have I5' := I5.pinned (stat fr5) (T.obj _ _ st5)
    refine wpAny_passesOwn hp (thn (hg _ s5 σ3 H5 x u _ I5' r5 (step x H5 y5)) fun _ s6 ⟨σ6, H6, I6, q6⟩ => ?_)
    refine wpAny_passesOwn hp (thn (hb _ s6 σ6 H6 _ I6 q6) fun f s7 q7 => ?_)
    have again : ∀ {σ7 : St} {H7 : Hp}, Inv X (pins ++ pinsAt fp s5.heap) σ7 H7 s7 → N σ7 H7 → ∃ m, m < n ∧ ∃ i σ' H', Inv X pins σ' H' s7 ∧ tn i s7.heap ∧ (∀ b ∈ fp, H' b = none) ∧ W i m σ' H' := fun {σ7 H7} I7 n7 => by
      obtain ⟨m', hm, w7⟩ := hN σ7 H7 n7
      refine ⟨m', hm, i + 1, σ7, H7, I7.unpinned, T.keep _ _ _ st5 fun b hb o e => (I7.pin (b, o) (List.mem_append_right _ (List.mem_append_right _ (mem_pinsAt hb e)))).1, fun b hb => ?_, w7⟩
      obtain ⟨o, e, d⟩ := T.obj _ _ st5 b hb
      exact (I7.pin (b, o) (List.mem_append_right _ (List.mem_append_right _ (mem_pinsAt hb e)))).2.1
    cases f with
    | next => obtain ⟨σ7, H7, I7, n7⟩ := q7; exact again I7 n7
    | cont => obtain ⟨σ7, H7, I7, n7⟩ := q7; exact again I7 n7
    | brk => obtain ⟨σ7, H7, I7, q7⟩ := q7; exact ⟨σ7, H7, I7.unpinned, q7⟩
    | ret v => obtain ⟨x7, σ7, H7, I7, r7, q7⟩ := q7; exact ⟨x7, σ7, H7, I7.unpinned, r7, q7⟩
end
end L2
namespace L2
open PySem PySem.Spec PyProof.Rows
abbrev R2 := V → V → Hp → VK → Prop
def OpR (X : Cx) (f : Value → Value → Sem Value) (r : R2) : Prop :=
  ∀ (pins : List (Addr × Obj)) (s : Shared) (σ : St) (H : Hp) (x y : V) (v u : Value) (Q : VK), Inv X pins σ H s → RelV x v → RelV y u → r x y H Q →
    wpAny (model X.prog X.w) X.A (f v u) (EP X pins σ Q) X.xe s
def UnR (X : Cx) (f : Value → Sem Value) (r : V → Hp → VK → Prop) : Prop :=
  ∀ (pins : List (Addr × Obj)) (s : Shared) (σ : St) (H : Hp) (x : V) (v : Value) (Q : VK), Inv X pins σ H s → RelV x v → r x H Q →
    wpAny (model X.prog X.w) X.A (f v) (EP X pins σ Q) X.xe s
def CallR (X : Cx) (f : Value) (r : List V → Hp → VK → Prop) : Prop :=
  ∀ (pins : List (Addr × Obj)) (s : Shared) (σ : St) (H : Hp) (xs : List V) (us : List Value) (Q : VK), Inv X pins σ H s → Vals xs us → r xs H Q →
    wpAny (model X.prog X.w) X.A (call f us) (EP X pins σ Q) X.xe s
def TruR (X : Cx) (r : V → Hp → (Bool → Hp → Prop) → Prop) : Prop :=
  ∀ (pins : List (Addr × Obj)) (s : Shared) (σ : St) (H : Hp) (x : V) (v : Value) (Q : Bool → Hp → Prop), Inv X pins σ H s → RelV x v → r x H Q →
    wpAny (model X.prog X.w) X.A (truthy v) (TP X pins σ Q) X.xe s
def tOp (r : R2) (ta tb : TE) : TE := fun σ H Q => ta σ H fun x H1 => tb σ H1 fun y H2 => r x y H2 Q
def tUn (r : V → Hp → VK → Prop) (ta : TE) : TE := fun σ H Q => ta σ H fun x H1 => r x H1 Q
def rI (C : Int → Int → Prop) (g : Int → Int → V) : R2 := fun x y H Q => ∃ i j, x = .int i ∧ y = .int j ∧ C i j ∧ Q (g i j) H
def rI0 (g : Int → Int → V) : R2 := fun x y H Q => ∃ i j, x = .int i ∧ y = .int j ∧ Q (g i j) H
def rU (g : Int → V) : V → Hp → VK → Prop := fun x H Q => ∃ i, x = .int i ∧ Q (g i) H
section
variable {X : Cx} {a b c : Expr} {ta tb tc : TE} {pos : Pos}
theorem binT (ha : PE X a ta) (hb : PE X b tb) {pins : List (Addr × Obj)} {s : Shared} {σ : St} {H : Hp} {R : V → V → Hp → Prop} (I : Inv X pins σ H s)
    (h : ta σ H fun x H1 => tb σ H1 fun y H2 => R x y H2) {Q : Value → Shared → Prop} {f : Value → Value → Sem Value}
    (hf : ∀ v u s2 x y H2, Inv X pins σ H2 s2 → RelV x v → RelV y u → R x y H2 → wpAny (model X.prog X.w) X.A (f v u) Q X.xe s2) :
    wpAny (model X.prog X.w) X.A (eval a X.env) (fun v s₁ => wpAny (model X.prog X.w) X.A (eval b X.env) (fun u s₂ => wpAny (model X.prog X.w) X.A (f v u) Q X.xe s₂) X.xe s₁) X.xe s := by
  refine thn (ha pins s σ H _ I h) fun v s1 ⟨x, H1, I1, r1, q1⟩ => ?_
  refine thn (hb pins s1 σ H1 _ I1 q1) fun u s2 ⟨y, H2, I2, r2, q2⟩ => ?_
  exact hf v u s2 x y H2 I2 r1 r2 q2
theorem pe_op {op : Operator} {r : R2} (ho : OpR X (binaryOp op) r) (ha : PE X a ta) (hb : PE X b tb) : PE X (.BinOp a op b pos) (tOp r ta tb) := by
  intro pins s σ H Q I h
  exact wpAny_BinOp (binT ha hb I h fun v u s2 x y H2 I2 rx ry q => ho pins s2 σ H2 x y v u Q I2 rx ry q)
theorem pe_un {op : UnaryOp} {r : V → Hp → VK → Prop} (ho : UnR X (unaryOp op) r) (ha : PE X a ta) : PE X (.UnaryOp op a pos) (tUn r ta) := by
  intro pins s σ H Q I h
  exact UnaryOp_ (thn (ha pins s σ H _ I h) fun v s1 ⟨x, H1, I1, r1, q1⟩ => ho pins s1 σ H1 x v Q I1 r1 q1)
theorem opI {f : Value → Value → Sem Value} {C : Int → Int → Prop} {g : Int → Int → Int}
    (rule : ∀ (i j : Int) (t u : Tok) (s : Shared) (Q : Value → Shared → Prop) (E : Value → Shared → Prop), C i j → Q (.int (g i j) s.toks) { s with toks := s.toks + 1 } → wpAny (model X.prog X.w) X.A (f (.int i t) (.int j u)) Q E s) :
    OpR X f (rI C fun i j => .int (g i j)) := by
  intro pins s σ H x y v u Q I rx ry h
  obtain ⟨i, j, rfl, rfl, hc, q⟩ := h
  obtain ⟨t, rfl⟩ := rx
  obtain ⟨t', rfl⟩ := ry
  exact rule i j t t' s _ _ hc ⟨.int (g i j), H, I.tok _, ⟨_, rfl⟩, q⟩
theorem opI0 {f : Value → Value → Sem Value} {g : Int → Int → Int}
    (rule : ∀ (i j : Int) (t u : Tok) (s : Shared) (Q : Value → Shared → Prop) (E : Value → Shared → Prop), Q (.int (g i j) s.toks) { s with toks := s.toks + 1 } → wpAny (model X.prog X.w) X.A (f (.int i t) (.int j u)) Q E s) :
    OpR X f (rI0 fun i j => .int (g i j)) := by
  intro pins s σ H x y v u Q I rx ry h
  obtain ⟨i, j, rfl, rfl, q⟩ := h
  obtain ⟨t, rfl⟩ := rx
  obtain ⟨t', rfl⟩ := ry
  exact rule i j t t' s _ _ ⟨.int (g i j), H, I.tok _, ⟨_, rfl⟩, q⟩
theorem opB0 {f : Value → Value → Sem Value} {g : Int → Int → Bool}
    (rule : ∀ (i j : Int) (t u : Tok) (s : Shared) (Q : Value → Shared → Prop) (E : Value → Shared → Prop), Q (.bool (g i j)) s → wpAny (model X.prog X.w) X.A (f (.int i t) (.int j u)) Q E s) :
    OpR X f (rI0 fun i j => .bl (g i j)) := by
  intro pins s σ H x y v u Q I rx ry h
  obtain ⟨i, j, rfl, rfl, q⟩ := h
  obtain ⟨t, rfl⟩ := rx
  obtain ⟨t', rfl⟩ := ry
  exact rule i j t t' s _ _ ⟨.bl (g i j), H, I, rfl, q⟩
def CPow (i j : Int) : Prop := 0 ≤ j ∧ j ≤ 1000000 ∧ i.natAbs < 2 ^ 64
def CMul (i j : Int) : Prop := (-(2 ^ 64) < i ∧ i < 2 ^ 64) ∨ (-(2 ^ 64) < j ∧ j < 2 ^ 64)
theorem CMul.ok {i j : Int} (h : CMul i j) : IntMulOk i j := by
  rcases h with ⟨h1, h2⟩ | ⟨h1, h2⟩
  · exact .of_left (intBits_le_64 h1 h2)
  · exact .of_right (intBits_le_64 h1 h2)
theorem op_add : OpR X (binaryOp .Add) (rI0 fun i j => .int (i + j)) := opI0 fun _ _ _ _ _ _ _ q => add_int q
theorem op_sub : OpR X (binaryOp .Sub) (rI0 fun i j => .int (i - j)) := opI0 fun _ _ _ _ _ _ _ q => sub_int q
theorem op_modN : OpR X (binaryOp .Mod) (rI (fun _ j => j ≠ 0) fun i j => .int (i.fmod j)) := opI fun _ _ _ _ _ _ _ hc q => mod_int' hc q
theorem op_pow : OpR X (binaryOp .Pow) (rI CPow fun i j => .int (i ^ j.toNat)) := opI fun _ _ _ _ _ _ _ hc q => pow_int_small hc.1 hc.2.1 hc.2.2 q
theorem unI {f : Value → Sem Value} {g : Int → Int}
    (rule : ∀ (i : Int) (t : Tok) (s : Shared) (Q : Value → Shared → Prop) (E : Value → Shared → Prop), Q (.int (g i) s.toks) { s with toks := s.toks + 1 } → wpAny (model X.prog X.w) X.A (f (.int i t)) Q E s) :
    UnR X f (rU fun i => .int (g i)) := by
  intro pins s σ H x v Q I rx h
  obtain ⟨i, rfl, q⟩ := h
  obtain ⟨t, rfl⟩ := rx
  exact rule i t s _ _ ⟨.int (g i), H, I.tok _, ⟨_, rfl⟩, q⟩
theorem un_neg : UnR X (unaryOp .USub) (rU fun i => .int (-i)) := unI fun _ _ _ _ _ q => neg_int q
end
section
variable {X : Cx} {a b c : Expr} {ta tb tc : TE} {pos : Pos}
theorem op_le : OpR X (compareOp .LtE) (rI0 fun i j => .bl (decide (i ≤ j))) := opB0 fun _ _ _ _ _ _ _ q => le_int q
theorem OpR.or {f : Value → Value → Sem Value} {r r' : R2} (h : OpR X f r) (h' : OpR X f r') : OpR X f (fun x y H Q => r x y H Q ∨ r' x y H Q) := by
  intro pins s σ H x y v u Q I rx ry q
  rcases q with q | q
  · exact h pins s σ H x y v u Q I rx ry q
  · exact h' pins s σ H x y v u Q I rx ry q
theorem nomark (b : Expr) {op : CmpOp} (h : op ≠ .In := by decide) (h2 : op ≠ .NotIn := by decide) : behindInMarks op b = false := by
  have e1 : (op == CmpOp.In) = false := by cases op <;> first | rfl | exact absurd rfl h
  have e2 : (op == CmpOp.NotIn) = false := by cases op <;> first | rfl | exact absurd rfl h2
  cases b <;> simp [behindInMarks, e1, e2]
theorem pe_cmpR {op : CmpOp} {r : R2} (ho : OpR X (compareOp op) r) (ha : PE X a ta) (hb : PE X b tb) (hm : behindInMarks op b = false) : PE X (.Compare a [op] [b] pos) (tOp r ta tb) := by
  intro pins s σ H Q I h
  exact wpAny_Compare1 (binT ha hb I h fun v u s2 x y H2 I2 rx ry q => ho pins s2 σ H2 x y v u Q I2 rx ry q) hm
def TruV (K : PySem.W.Frag) (x : V) (H : Hp) (k : Bool) : Prop :=
  match x with
  | .non => k = false
  | .bl b => k = b
  | .int i => k = (i != 0)
  | .str y => y.length ≤ sizeLine ∧ k = ((y.length : Int) != 0)
  | .byt y => y.size ≤ sizeLine ∧ k = ((y.size : Int) != 0)
  | .ref p => (∃ xs, SqL K H p xs ∧ k = !xs.isEmpty) ∨ (∃ xs, SqT K H p xs ∧ k = !xs.isEmpty) ∨ ∃ kvs, H p = some (.dK kvs) ∧ k = !kvs.isEmpty
  | _ => False
theorem isEmpty_kv {κ : Type} {kvs : List (κ × V)} {vs : List (κ × Value)} (r : KV kvs vs) : (!vs.isEmpty) = !kvs.isEmpty := by
  cases r <;> rfl
theorem isEmpty_of {xs : List V} {its : List Value} (r : Vals xs its) : (!its.toArray.isEmpty) = !xs.isEmpty := by
  cases r <;> simp
theorem line63 : (sizeLine : Nat) < 2 ^ 63 := by rw [sizeLine_eq]; decide
theorem tru_ok : TruR X (fun x H Q => ∃ k, TruV X.K x H k ∧ Q k H) := by
  intro pins s σ H x v Q I rx h
  obtain ⟨k, e, q⟩ := h
  have hl := line63
  have hs : sizeLine = 16777216 := sizeLine_eq
  cases x with
  | non =>
    cases rx
    have e' : k = false := e
    subst e'
    exact truthy_none ⟨H, I, q⟩
  | bl b =>
    cases rx
    have e' : k = b := e
    subst e'
    exact wpAny_truthy_bool ⟨H, I, q⟩
  | int i =>
    obtain ⟨t, rfl⟩ := rx
    have e' : k = (i != 0) := e
    subst e'
    exact PySem.P.truthy_int ⟨H, I, q⟩
  | str y =>
    obtain ⟨t, rfl⟩ := rx
    obtain ⟨hy, e'⟩ : y.length ≤ sizeLine ∧ k = ((y.length : Int) != 0) := e
    subst e'
    exact PySem.P.truthy_str (by omega) ⟨H, I.tok _, q⟩
  | byt y =>
    obtain ⟨t, rfl⟩ := rx
    obtain ⟨hy, e'⟩ : y.size ≤ sizeLine ∧ k = ((y.size : Int) != 0) := e
    subst e'
    exact PySem.W.truthy_bytes (by omega) ⟨H, I.tok _, q⟩
  | ref p =>
    cases rx
    have e' : (∃ xs, SqL X.K H p xs ∧ k = !xs.isEmpty) ∨ (∃ xs, SqT X.K H p xs ∧ k = !xs.isEmpty) ∨ ∃ kvs, H p = some (.dK kvs) ∧ k = !kvs.isEmpty := e
    rcases e' with ⟨xs, hx, e'⟩ | ⟨xs, hx, e'⟩ | ⟨kvs, hx, e'⟩
    · subst e'
      obtain ⟨its, r, pl, hz⟩ := I.list hx
      have hlen := r.length
      exact wpAny_truthy_list pl.isList (by simp only [List.size_toArray]; omega) ⟨H, I.tok _, by rw [isEmpty_of r]; exact q⟩
    · subst e'
      obtain ⟨its, r, pl, hz⟩ := I.tuple hx
      have hlen := r.length
      exact truthy_tuple pl (by simp only [List.size_toArray]; omega) ⟨H, I.tok _, by rw [isEmpty_of r]; exact q⟩
    · subst e'
      obtain ⟨hz, hS, vs, r, m⟩ : kvs.length ≤ sizeLine ∧ (p == sysModules) = false ∧ ∃ vs, KV kvs vs ∧ s.heap.DictOf (mixKind X.prog X.w) p vs := I.hok p _ hx
      have hlen : kvs.length = vs.length := Paired.length r
      exact wpAny_truthy_dict hS m (by omega) ⟨H, I.tok _, by rw [isEmpty_kv r]; exact q⟩
  | _ => exact (show False from e).elim
theorem pt_truth (ha : PE X a ta) (he : ∀ whole, isTrue a X.env whole = (do let v ← whole; standAt a.pos; holding [v] (truthy v))) :
    PT X a (fun σ H Q => ta σ H fun x H' => ∃ k, TruV X.K x H' k ∧ Q k H') := by
  intro pins s σ H Q I h
  exact isTrue_plain (thn (ha pins s σ H _ I h) fun v s1 ⟨x, H1, I1, r1, q1⟩ => tru_ok pins s1 σ H1 x v Q I1 r1 q1) (he _)
theorem op_add_str : OpR X (binaryOp .Add) (fun x y H Q => ∃ i j, x = .str i ∧ y = .str j ∧ i.length + j.length ≤ sizeLine ∧ Q (.str (i ++ j)) H) := by
  intro pins s σ H x y v u Q I rx ry h
  obtain ⟨i, j, rfl, rfl, hz, q⟩ := h
  obtain ⟨t, rfl⟩ := rx
  obtain ⟨t', rfl⟩ := ry
  exact add_str (fun t' tk => ⟨.str (i ++ j), H, I.tok _, ⟨_, rfl⟩, q⟩) hz
theorem vals1 {x : V} {us : List Value} (r : Vals [x] us) : ∃ u, us = [u] ∧ RelV x u := by
  cases r with
  | cons r1 r2 => cases r2; exact ⟨_, rfl, r1⟩
theorem vals2 {x y : V} {us : List Value} (r : Vals [x, y] us) : ∃ u w', us = [u, w'] ∧ RelV x u ∧ RelV y w' := by
  cases r with
  | cons r1 r2 =>
    cases r2 with
    | cons r3 r4 => cases r4; exact ⟨_, _, rfl, r1, r3⟩
theorem call_abs : CallR X (.builtin "abs") (fun xs H Q => ∃ i, xs = [.int i] ∧ Q (.int (if i < 0 then -i else i)) H) := by
  intro pins s σ H xs us Q I r h
  obtain ⟨i, rfl, q⟩ := h
  obtain ⟨u, rfl, t, rfl⟩ := vals1 r
  exact call_abs_int fun u tk => ⟨.int (if i < 0 then -i else i), H, I.tok _, ⟨_, rfl⟩, q⟩
theorem call_min2 (hc : X.calm = true) : CallR X (.builtin "min") (fun xs H Q => ∃ i j, xs = [.int i, .int j] ∧ Q (.int (if j < i then j else i)) H) := by
  intro pins s σ H xs us Q I r h
  obtain ⟨i, j, rfl, q⟩ := h
  obtain ⟨u, w', rfl, ⟨t, rfl⟩, ⟨t', rfl⟩⟩ := vals2 r
  refine min_two_ints (I.ok.hd hc) fun h' tk k => ⟨_, H, I.kept k, ?_, q⟩
  by_cases hj : j < i
  · rw [if_pos hj, if_pos hj]; exact ⟨_, rfl⟩
  · rw [if_neg hj, if_neg hj]; exact ⟨_, rfl⟩
def LenV (K : PySem.W.Frag) (x : V) (H : Hp) (n : Nat) : Prop :=
  match x with
  | .str y => y.length ≤ sizeLine ∧ n = y.length
  | .byt y => y.size ≤ sizeLine ∧ n = y.size
  | .ref p => (∃ xs, SqL K H p xs ∧ n = xs.length) ∨ ∃ xs, SqT K H p xs ∧ n = xs.length
  | _ => False
theorem call_len : CallR X (.builtin "len") (fun xs H Q => ∃ x n, xs = [x] ∧ LenV X.K x H n ∧ Q (.int n) H) := by
  intro pins s σ H xs us Q I r h
  obtain ⟨x, n, rfl, e, q⟩ := h
  obtain ⟨u, rfl, rx⟩ := vals1 r
  have hl := line63
  have hs : sizeLine = 16777216 := sizeLine_eq
  cases x with
  | str y =>
    obtain ⟨t, rfl⟩ := rx
    obtain ⟨hy, e'⟩ : y.length ≤ sizeLine ∧ n = y.length := e
    subst e'
    exact len_str (by omega) ⟨.int _, H, I.tok _, ⟨_, rfl⟩, q⟩
  | byt y =>
    obtain ⟨t, rfl⟩ := rx
    obtain ⟨hy, e'⟩ : y.size ≤ sizeLine ∧ n = y.size := e
    subst e'
    exact PySem.W.len_bytes (by omega) ⟨.int _, H, I.tok _, ⟨_, rfl⟩, q⟩
  | ref p =>
    cases rx
    have e' : (∃ xs, SqL X.K H p xs ∧ n = xs.length) ∨ ∃ xs, SqT X.K H p xs ∧ n = xs.length := e
    rcases e' with ⟨xs, hx, e'⟩ | ⟨xs, hx, e'⟩
    · subst e'
      obtain ⟨its, r', pl, hz⟩ := I.list hx
      have hlen := r'.length
      exact Calls.call_len_list pl.isList (by simp only [List.size_toArray]; omega) ⟨.int xs.length, H, I.tok _, ⟨_, by simp only [List.size_toArray]; rw [hlen]⟩, q⟩
    · subst e'
      obtain ⟨its, r', pl, hz⟩ := I.tuple hx
      have hlen := r'.length
      exact len_tuple pl (by simp only [List.size_toArray]; omega) ⟨.int xs.length, H, I.tok _, ⟨_, by simp only [List.size_toArray]; rw [hlen]⟩, q⟩
  | _ => exact (show False from e).elim
end
end L2
namespace L2
open PySem PySem.Spec PyProof.Rows
structure ObjM (h : Heap) (x dx C : Addr) (mA : Str → Option Value) : Prop where
  obj : h.get? x = some (PySem.W.instObj C dx)
  ns : h.Ns1 dx mA
  ne : dx ≠ x
theorem lookIn_ns {h : Heap} {dx : Addr} {mA : Str → Option Value} (n : h.Ns1 dx mA) : ∃ od, h.get? dx = some od ∧ ∀ name, PySem.W.lookIn name od = some (mA name) := by
  obtain ⟨o, es, ep, ho, hd, hk, _, hm⟩ := n
  refine ⟨o, ho, fun name => ?_⟩
  have e := hm name
  unfold nsFind findBy at e
  rw [← Array.find?_toList] at e
  unfold PySem.W.lookIn
  rw [hd]
  dsimp only
  split
  · rename_i y q
    rw [q] at e
    exact congrArg some e
  · rename_i q
    rw [q] at e
    have a : es.toList.any (·.refKey) = false := by
      rw [List.any_eq_false]
      intro y hy
      obtain ⟨z, t, hkey⟩ := hk y (Array.mem_toList_iff.mp hy)
      simp [DictEntry.refKey, hkey]
    have a' : ¬ es.toList.any (·.refKey) = true := by rw [a]; exact Bool.false_ne_true
    rw [if_neg a']
    exact congrArg some e
theorem ObjM.look {h : Heap} {x dx C : Addr} {mA : Str → Option Value} (I : ObjM h x dx C mA) : ∃ od, PySem.W.InstAt h x (PySem.W.instObj C dx) C (some od) ∧ ∀ name, PySem.W.lookIn name od = some (mA name) :=
  let ⟨od, ho, hl⟩ := lookIn_ns I.ns
  ⟨od, ⟨I.obj, rfl, rfl, ho⟩, hl⟩
section
variable {prog : Program} {w : World} {A : Around} {E : Value → Shared → Prop} {s : Shared} {K : PySem.W.Frag} {x dx C f : Addr} {mA : Str → Option Value} {name : Str} {v : Value}
end
section
variable {P : Program} {w : World} {H H' : Hp} {h h' : Heap} {a C dx : Addr} {fs fs' : List (Str × V)}
theorem ins_get (hok : HOk P w H h) (e : H a = some (.ins C dx fs)) : ∃ mA, ObjM h a dx C mA ∧ (∀ f, RelO (fs.lookup f) (mA f)) ∧ PySem.Within mA (fs.map (·.1)) ∧ fs.length ≤ 1000 ∧ H dx = some (.own a) := by
  obtain ⟨d, z, ne, ob, mA, n, r, q⟩ := (show ObjOk P w H h a (.ins C dx fs) from hok a _ e)
  exact ⟨mA, ⟨ob, n, ne⟩, r, q, z, d⟩
end
structure Cls (K : PySem.W.Frag) (C : Addr) : Prop where
  pg : PySem.W.plainGet K C Str.empty = true
  hd : PySem.W.hasDictIn K C = true
  po : PySem.W.plainOver K C = true
  sa : PySem.W.findIn K (.ref C) "__setattr__" = some (some (.builtin "object.__setattr__"))
theorem Cls.get {K : PySem.W.Frag} {C : Addr} (c : Cls K C) (f : Str) : PySem.W.plainGet K C f = true := c.pg
section
variable {X : Cx} {pins : List (Addr × Obj)} {σ : St} {H : Hp} {s : Shared} {a C dx : Addr} {fs : List (Str × V)} {f : Str} {v : V} {A : Around} {E : Value → Shared → Prop}
end
section
variable {X : Cx} {o e value : Expr} {f : Str} {pos pos' tpos : Pos} {ta tv : TE}
end
section
variable {X : Cx} {pins : List (Addr × Obj)} {σ : St} {H : Hp} {s : Shared} {A : Around} {E : Value → Shared → Prop} {Q : Value → Shared → Prop} {c : Value} {b : Bool}
inductive TyOf (K : PySem.W.Frag) (H : Hp) : V → Value → Prop where
  | non : TyOf K H .non (.type "NoneType")
  | bl (x : Bool) : TyOf K H (.bl x) (.type "bool")
  | int (i : Int) : TyOf K H (.int i) (.type "int")
  | str (x : Str) : TyOf K H (.str x) (.type "str")
  | flt (x : UInt64) : TyOf K H (.flt x) (.type "float")
  | lst {a : Addr} {xs : List V} (e : H a = some (.lst xs)) : TyOf K H (.ref a) (.type "list")
  | frz {a : Addr} {o : Obj} {xs : List V} (e : H a = some (.frz o (.lst xs))) : TyOf K H (.ref a) (.type "list")
  | tup {a : Addr} {xs : List V} (e : H a = some (.tup xs)) : TyOf K H (.ref a) (.type "tuple")
  | dK {a : Addr} {kvs : List (Key × V)} (e : H a = some (.dK kvs)) : TyOf K H (.ref a) (.type "dict")
  | dT {a : Addr} {kvs : List (List Key × V)} (e : H a = some (.dT kvs)) : TyOf K H (.ref a) (.type "dict")
  | ins {a C dx : Addr} {fs : List (Str × V)} (e : H a = some (.ins C dx fs)) (cl : Cls K C) (ha : PySem.W.findIn K (.ref C) "__class__" = some (some (.builtin "object.__class__")))
      (hn : PySem.W.specialIn K (.builtin "object.__class__") "__get__" = some (some (.builtin "getset_descriptor.__get__"))) (htk : PySem.W.takesIn K (.builtin "object.__class__") = some true)
      (hm : PySem.W.mroIn K C (.type "object") = some true) : TyOf K H (.ref a) (.ref C)
theorem isinst_ok {x : V} {u t : Value} (I : Inv X pins σ H s) (rx : RelV x u) (ty : TyOf X.K H x t) (e : PySem.W.kitOne X.K t c = some b) (h : ∀ tk, Q (.bool b) { s with toks := tk }) :
    wpAny (model X.prog X.w) A (call (.builtin "isinstance") [u, c]) Q E s := by
  cases ty with
  | non => cases (show u = Value.none from rx); exact PySem.W.kia_one PySem.W.kitx_none I.kIn True.intro e (fun z => nomatch z) h
  | bl y => cases (show u = Value.bool y from rx); exact PySem.W.kia_one PySem.W.kitx_bool I.kIn True.intro e (fun z => nomatch z) h
  | int i => obtain ⟨t, q⟩ := (show ∃ t, u = Value.int i t from rx); cases q; exact PySem.W.kia_one PySem.W.kitx_int I.kIn True.intro e (fun z => nomatch z) h
  | str y => obtain ⟨t, q⟩ := (show ∃ t, u = Value.str y t from rx); cases q; exact PySem.W.kia_one PySem.W.kitx_str I.kIn True.intro e (fun z => nomatch z) h
  | flt y => obtain ⟨t, q⟩ := (show ∃ t, u = Value.float y t from rx); cases q; exact PySem.W.kia_one PySem.W.kitx_float I.kIn True.intro e (fun z => nomatch z) h
  | @lst a xs ea =>
    cases (show u = Value.ref a from rx)
    obtain ⟨_, _, n, _, h1⟩ := (show ObjOk X.prog X.w H s.heap a (.lst xs) from I.hok a _ ea)
    exact PySem.W.kia_one PySem.W.kitx_list I.kIn ⟨_, h1, rfl⟩ e (fun z => nomatch z) h
  | @frz a ob xs ea =>
    cases (show u = Value.ref a from rx)
    obtain ⟨_, _, _, n, _, h1⟩ := (show ObjOk X.prog X.w H s.heap a (.frz ob (.lst xs)) from I.hok a _ ea)
    exact PySem.W.kia_one PySem.W.kitx_list I.kIn ⟨_, h1, rfl⟩ e (fun z => nomatch z) h
  | @tup a xs ea =>
    cases (show u = Value.ref a from rx)
    obtain ⟨_, _, _, p⟩ := (show ObjOk X.prog X.w H s.heap a (.tup xs) from I.hok a _ ea)
    obtain ⟨o, h1, h2, _⟩ := p
    exact PySem.W.kia_one PySem.W.kitx_tuple I.kIn ⟨o, h1, h2⟩ e (fun z => nomatch z) h
  | @dK a kvs ea =>
    cases (show u = Value.ref a from rx)
    obtain ⟨_, _, vs, _, p⟩ := (show ObjOk X.prog X.w H s.heap a (.dK kvs) from I.hok a _ ea)
    obtain ⟨o, es, ep, h1, h2, _⟩ := p
    exact PySem.W.kia_one PySem.W.kitx_dict I.kIn ⟨o, h1, h2.1⟩ e (fun z => nomatch z) h
  | @dT a kvs ea =>
    cases (show u = Value.ref a from rx)
    obtain ⟨_, _, xs, _, o, es, ep, h1, h2, _⟩ := (show ObjOk X.prog X.w H s.heap a (.dT kvs) from I.hok a _ ea)
    exact PySem.W.kia_one PySem.W.kitx_dict I.kIn ⟨o, h1, h2.1⟩ e (fun z => nomatch z) h
  | @ins a C dx fs ea cl ha hn htk hm =>
    cases (show u = Value.ref a from rx)
    obtain ⟨mA, O, _⟩ := ins_get I.hok ea
    obtain ⟨od, J, _⟩ := O.look
    exact PySem.W.kia_one (PySem.W.kitx_own (cl.get _) cl.hd ha hn htk hm) I.kIn J e (fun z => nomatch z) h
end
end L2
namespace L2
open PySem PySem.Spec PyProof.Rows
structure Room (k : Nat) (A : Around) : Prop where
  hd : A.handled = none
  dp : A.depth + 3 * k + 5 < recursionLimit
  un : A.units + 16 * k + 200 < cLine
theorem Room.mono {j k : Nat} {A : Around} (r : Room k A) (h : j ≤ k) : Room j A := ⟨r.hd, by have := r.dp; omega, by have := r.un; omega⟩
theorem Room.deeper {k : Nat} {A : Around} (r : Room (k + 1) A) (env : Env) : Room k (A.deeper env) :=
  ⟨r.hd, by have := r.dp; show A.depth + 1 + 3 * k + 5 < _; omega, by have := r.un; show A.units + 3 + 16 * k + 200 < _; omega⟩
theorem Room.depth {k : Nat} {A : Around} (r : Room k A) : A.depth < recursionLimit := by have := r.dp; omega
theorem Room.units {k : Nat} {A : Around} (r : Room k A) : A.units + 64 < cLine := by have := r.un; omega
def tNil : TA := fun _ H Q => Q [] H
def tCons (ta : TE) (tr : TA) : TA := fun σ H Q => ta σ H fun x H1 => tr σ H1 fun xs H2 => Q (x :: xs) H2
section
variable {X : Cx} {e : Expr} {es : List Expr} {te : TE} {t : TA} {pos : Pos}
theorem pa_nil : PA X [] tNil := fun _ _ _ _ H Q I h => Calls.spliced_nil ⟨[], H, I, .nil, h⟩
theorem pa_cons (ha : PE X e te) (hr : PA X es t) (hs : starEach (e :: es) X.env = (false, eval e X.env) :: starEach es X.env := by rfl) : PA X (e :: es) (tCons te t) := by
  intro pos pins s σ H Q I h
  rw [hs]
  show wpAny _ _ (spliced ((false, eval e X.env) :: backTo pos (starEach es X.env))) _ _ s
  refine Calls.spliced_cons (thn (ha pins s σ H _ I h) fun u s1 ⟨x, H1, I1, r1, q1⟩ => ?_)
  exact thn (hr pos pins s1 σ H1 _ I1 q1) fun us s2 ⟨xs, H2, I2, r2, q2⟩ => ⟨x :: xs, H2, I2, .cons r1 r2, q2⟩
def tTup (t : TA) : TE := fun σ H Q => t σ H fun xs H1 => xs.length ≤ sizeLine ∧ ∀ p, H1 p = none → Q (.ref p) (upd H1 p (.tup xs))
def tLst (t : TA) : TE := fun σ H Q => t σ H fun xs H1 => xs.length ≤ sizeLine ∧ ∀ p, H1 p = none → Q (.ref p) (upd H1 p (.lst xs))
theorem pe_tup {x1} (h : PA X es t) : PE X (.Tuple es x1 pos) (tTup t) := by
  intro pins s σ H Q I hq
  refine wpAny_Tuple_spliced (thn (h pos pins s σ H _ I hq) fun us s1 ⟨xs, H1, I1, r, z, q⟩ => ⟨by rw [← r.length]; exact z, ?_⟩)
  have hf : H1 s1.heap.objs.size = none := I1.hok.fresh (Nat.le_refl _)
  refine ⟨.ref s1.heap.objs.size, upd H1 s1.heap.objs.size (.tup xs), I1.laid (t' := s1.toks) (fun b u e => Heap.get?_push_of_some _ e) (Nat.le_refl _) ?_, rfl, q _ hf⟩
  exact ⟨z, us, r, ⟨_, Heap.get?_push_size _ rfl, rfl, _, rfl⟩⟩
theorem pe_lst (h : PA X es t) : PE X (.List es pos) (tLst t) := by
  intro pins s σ H Q I hq
  refine wpAny_List_spliced (thn (h pos pins s σ H _ I hq) fun us s1 ⟨xs, H1, I1, r, z, q⟩ => ⟨by rw [← r.length]; exact z, ?_⟩)
  have hf : H1 s1.heap.objs.size = none := I1.hok.fresh (Nat.le_refl _)
  refine ⟨.ref s1.heap.objs.size, upd H1 s1.heap.objs.size (.lst xs), I1.laid (t' := s1.toks) (fun b u e => Heap.get?_push_of_some _ e) (Nat.le_refl _) ?_, rfl, q _ hf⟩
  exact ⟨z, us, 0, r, Heap.get?_push_size _ rfl⟩
end
abbrev Sp := List V → Hp → VK → XK → Prop
abbrev CXT := List Env → Hp → Shared → XK → Value → Shared → Prop
structure Env0 (P : Program) (w : World) (K : PySem.W.Frag) (mg : Str → Option Value) (base : Heap) (A : Around) (outer : List Env) (s : Shared) (H : Hp) : Prop where
  frames : A.frames = some outer
  mod : Mod K mg base
  bs : ∀ b o, base.get? b = some o → s.heap.get? b = some o ∧ H b = none
  bsz : base.objs.size ≤ s.heap.objs.size
  funs : s.heap.FunFrames base outer
  frf : ∀ b ∈ frs outer, H b = none
  hok : HOk P w H s.heap
  bare : AllBare s.gens
def CE (outer : List Env) (P : Program) (w : World) (H : Hp) (s : Shared) (Q : VK) (u : Value) (s' : Shared) : Prop :=
  ∃ v H', s'.os = s.os ∧ AllBare s'.gens ∧ Un (frs outer) [] H H' s.heap s'.heap ∧ HOk P w H' s'.heap ∧ RelV v u ∧ Q v H'
def CR (CX : CXT) (outer : List Env) (P : Program) (w : World) (H : Hp) (s : Shared) (Q : VK) (E : XK) (r : Result) (s' : Shared) : Prop :=
  match r with
  | .ok (.ret u) => CE outer P w H s Q u s'
  | .ok _ => False
  | .error e => CX outer H s E e s'
structure FnOk (P : Program) (w : World) (K : PySem.W.Frag) (mg : Str → Option Value) (base : Heap) (CX : CXT) (k : Nat) (f : Addr) (fd : FuncData) (ps : List Str) (sp : Sp) : Prop where
  len : ∀ vs H Q E, sp vs H Q E → vs.length = ps.length
  run : ∀ (A : Around) (outer : List Env) (s : Shared) (H : Hp) (args : Args) (us : List Value) (vs : List V) (Q : VK) (E : XK), Room k A → Env0 P w K mg base A outer s H → BindsTo s fd args (ps.zip us) → Vals vs us → sp vs H Q E →
    codeAny (model P w) A (.call (.ref f) args) (CR CX outer P w H s Q E) s
theorem FnOk.imp {P : Program} {w : World} {K : PySem.W.Frag} {mg : Str → Option Value} {base : Heap} {CX : CXT} {k : Nat} {f : Addr} {fd : FuncData} {ps : List Str} {sp sp' : Sp} (F : FnOk P w K mg base CX k f fd ps sp)
    (h : ∀ vs H Q E, sp' vs H Q E → sp vs H Q E) : FnOk P w K mg base CX k f fd ps sp' :=
  ⟨fun vs H Q E q => F.len vs H Q E (h _ _ _ _ q), fun A outer s H args us vs Q E hr he hb hv hs => F.run A outer s H args us vs Q E hr he hb hv (h _ _ _ _ hs)⟩
section
variable {X : Cx} {pins : List (Addr × Obj)} {σ : St} {H : Hp} {s s' : Shared}
theorem Inv.env0 (I : Inv X pins σ H s) : Env0 X.prog X.w X.K X.mg X.base X.A X.stack s H :=
  ⟨I.ok.frames, I.ok.mod, I.bs, Nat.le_trans I.ok.bsz I.sz, I.stack, I.stkFree, I.hok, I.bare⟩
theorem Inv.after {Q : VK} {u : Value} (I : Inv X pins σ H s) (h : CE X.stack X.prog X.w H s Q u s') : EP X pins σ Q u s' := by
  obtain ⟨v, H', os, bare, un, hok, r, q⟩ := h
  obtain ⟨hh, g, d, t, os'⟩ := s'
  obtain rfl : os' = s.os := os
  exact ⟨v, H', I.call (h' := hh) (g' := g) (d' := d) (t' := t) (ch := []) un hok bare (fun b z => absurd z (by simp)), r, q⟩
end
def Binds (K : PySem.W.Frag) (fd : FuncData) (ps : List Str) (ds : List Value) : Prop :=
  ∀ (s : Shared) (us : List Value), K.In s.heap → (us ++ ds).length = ps.length → BindsTo s fd ⟨us, []⟩ (ps.zip (us ++ ds))
theorem Binds.all {K : PySem.W.Frag} {fd : FuncData} {ps : List Str} (h : ∀ us : List Value, us.length = ps.length → bindArgs fd ⟨us, []⟩ = pure (ps.zip us)) : Binds K fd ps [] := fun s us _ hl => by
  rw [List.append_nil] at hl ⊢
  exact .of_eq (h us hl)
section
variable {X : Cx} {CX : CXT} {k : Nat} {f C : Addr} {fd : FuncData} {ps : List Str} {sp : Sp} {dvs : List V} {ds : List Value} {E : XK} {x m : Str} {p pos apos : Pos} {e o : Expr} {es : List Expr} {ta : TE} {t : TA}
end
section
variable {X : Cx} {CX : CXT} {k : Nat} {f C : Addr} {fd : FuncData} {ps ks : List Str} {sp : Sp} {E : XK} {x m : Str} {p pos apos kpos : Pos} {e o : Expr} {es : List Expr} {kws : List Keyword} {te ta : TE} {t tk : TA} {nm : Option Str}
variable {g : List Value → List Value → List Value} {gV : List V → List V → List V}
end
structure FnScope (N P : List Str) (sc : Scope) : Prop where
  kind : sc.kind = .function
  co : sc.isCoroutine = false
  gen : sc.isGenerator = false
  nd : N.Nodup
  pre : N.take P.length = P
  par : ∀ x ∈ P, sc.names.lookup x = some .local ∨ sc.names.lookup x = some .cell
  nofree : ∀ y ∈ sc.names, y.2 ≠ .free
theorem bindL_out {kindOf : Str → Option NameKind} {x : Str} : ∀ {binds : List (Str × Value)} {m : Str → Option Value}, (∀ v, (x, v) ∉ binds) → bindL kindOf binds m x = m x
  | [], _, _ => rfl
  | (n, v) :: r, m, h => by
    unfold bindL
    rw [bindL_out fun w hw => h w (List.mem_cons_of_mem _ hw)]
    split
    · have : x ≠ n := by rintro rfl; exact h v List.mem_cons_self
      simp [this]
    · rfl
theorem bindC_out {kindOf : Str → Option NameKind} {x : Str} : ∀ {binds : List (Str × Value)} {m : Str → Option Value}, (∀ v, (x, v) ∉ binds) → bindC kindOf binds m x = m x
  | [], _, _ => rfl
  | (n, v) :: r, m, h => by
    unfold bindC
    rw [bindC_out fun w hw => h w (List.mem_cons_of_mem _ hw)]
    split
    · rfl
    · have : x ≠ n := by rintro rfl; exact h v List.mem_cons_self
      simp [this]
theorem bindL_get {kindOf : Str → Option NameKind} {x : Str} {v : Value} : ∀ {P : List Str} {vs : List Value} {i : Nat} {m : Str → Option Value}, P.Nodup → P[i]? = some x → vs[i]? = some v → kindOf x = some .local →
    bindL kindOf (P.zip vs) m x = some v
  | [], _, _, _, _, h, _, _ => by simp at h
  | _ :: _, [], _, _, _, _, h, _ => by simp at h
  | p :: P, w :: vs, 0, m, nd, h1, h2, hk => by
    simp at h1 h2; subst h1; subst h2
    show bindL kindOf ((p, w) :: P.zip vs) m p = _
    unfold bindL
    rw [bindL_out fun v hv => (List.nodup_cons.mp nd).1 (List.of_mem_zip hv).1, if_pos hk]
    simp
  | p :: P, w :: vs, i + 1, m, nd, h1, h2, hk => by
    show bindL kindOf ((p, w) :: P.zip vs) m x = _
    unfold bindL
    exact bindL_get (i := i) (List.nodup_cons.mp nd).2 (by simpa using h1) (by simpa using h2) hk
theorem bindC_get {kindOf : Str → Option NameKind} {x : Str} {v : Value} : ∀ {P : List Str} {vs : List Value} {i : Nat} {m : Str → Option Value}, P.Nodup → P[i]? = some x → vs[i]? = some v → kindOf x ≠ some .local →
    bindC kindOf (P.zip vs) m x = some v
  | [], _, _, _, _, h, _, _ => by simp at h
  | _ :: _, [], _, _, _, _, h, _ => by simp at h
  | p :: P, w :: vs, 0, m, nd, h1, h2, hk => by
    simp at h1 h2; subst h1; subst h2
    show bindC kindOf ((p, w) :: P.zip vs) m p = _
    unfold bindC
    rw [bindC_out fun v hv => (List.nodup_cons.mp nd).1 (List.of_mem_zip hv).1, if_neg hk]
    simp
  | p :: P, w :: vs, i + 1, m, nd, h1, h2, hk => by
    show bindC kindOf ((p, w) :: P.zip vs) m x = _
    unfold bindC
    exact bindC_get (i := i) (List.nodup_cons.mp nd).2 (by simpa using h1) (by simpa using h2) hk
def start (N : List Str) (vs : List V) : St := vs.map some ++ List.replicate (N.length - vs.length) none
def cxOf (CX : CXT) (P : Program) (w : World) (K : PySem.W.Frag) (mg : Str → Option Value) (base : Heap) (N : List Str) (qual : Str) (scope : Scope) (f : Addr) (cd : Value) (A : Around) (outer : List Env) (s : Shared) (H : Hp) (E : XK) : Cx where
  prog := P
  w := w
  K := K
  mg := mg
  base := base
  A := A.deeper (envOfC qual scope s.heap.objs.size f cd)
  N := N
  s₀ := s
  H₀ := H
  env := envOfC qual scope s.heap.objs.size f cd
  outer := outer
  stack := envOfC qual scope s.heap.objs.size f cd :: outer
  ex := []
  calm := true
  fn := fun _ => true
  pn := []
  xe := fun e s' => wpAny (model P w) (A.deeper (envOfC qual scope s.heap.objs.size f cd)) (leaving (envOfC qual scope s.heap.objs.size f cd) e) (fun _ s'' => CX outer H s E e s'') (fun e' s'' => CX outer H s E e' s'') s'
theorem cell_has {sc : Scope} {n : Nat} {x : Str} (h : sc.names.lookup x = some .cell) : ∃ c, (cellsFrom n sc.names []).lookup x = some c := by
  have q := PySem.W.cellsFrom_some sc.names n [] (.inl h)
  exact Option.isSome_iff_exists.mp q
theorem inv_start {CX : CXT} {P : Program} {w : World} {K : PySem.W.Frag} {mg : Str → Option Value} {base : Heap} {N ps : List Str} {qual : Str} {scope : Scope} {f : Addr} {cd : Value} {A : Around} {outer : List Env} {s s1 : Shared} {H : Hp} {E : XK} {us : List Value} {vs : List V}
    (S : FnScope N ps scope) (hd : A.handled = none) (e0 : Env0 P w K mg base A outer s H) (hl : vs.length = ps.length) (r : Vals vs us)
    (x : InCallC s s.heap.objs.size (bindL (envOfC qual scope s.heap.objs.size f cd).kindOf (ps.zip us) fun _ => none) (cellsFrom (s.heap.objs.size + 1) scope.names []) (bindC (envOfC qual scope s.heap.objs.size f cd).kindOf (ps.zip us) fun _ => none) s1) :
    Inv (cxOf CX P w K mg base N qual scope f cd A outer s H E) [] (start N vs) H s1 := by
  have hpl : ps.length ≤ N.length := by have := congrArg List.length S.pre; rw [List.length_take] at this; omega
  obtain ⟨h1, tk, rfl, hk⟩ := x.done
  have noA : ∀ b : Addr, b ∉ (cxOf CX P w K mg base N qual scope f cd A outer s H E).ex := fun b z => absurd (show b ∈ ([] : List Addr) from z) (by simp)
  refine ⟨⟨e0.mod, S.kind, rfl, rfl, Nat.le_refl _, fun y z c h1 h2 => ?_, fun y hy => ?_, fun y c _ h => ?_, fun _ => hd, Around.frames_deeper e0.frames, .inr ⟨rfl, rfl⟩, fun b z => absurd z (noA b), e0.bs, e0.bsz, fun b _ _ => noA b, fun b z => absurd z (noA b), e0.funs, e0.frf⟩,
    rfl, e0.bare, Un.kept hk, ⟨_, x.toInCall.ns, fun i y v h1 h2 h3 => ?_⟩, fun y c h => ⟨_, x.cell y c h⟩, e0.hok.fresh (Nat.le_refl _), fun y c h => ?_, fun p hp => absurd (show p ∈ ([] : List (Addr × Obj)) from hp) (by simp), e0.hok.kept hk, ?_⟩
  · exact name_of_addr x.apart (PySem.mem_of_lookup h1) (PySem.mem_of_lookup h2)
  · have hy : scope.names.lookup y = some .cell ∨ scope.names.lookup y = some .free := hy
    rcases hy with hy | hy
    · exact cell_has hy
    · exact absurd rfl (S.nofree _ (PySem.mem_of_lookup hy))
  · exact Nat.le_of_lt (x.above y c (PySem.mem_of_lookup h))
  · have hi : i < vs.length := by
      unfold start at h2
      by_cases hi : i < vs.length
      · exact hi
      · rw [List.getElem?_append_right (by simpa using hi)] at h2
        rw [List.getElem?_replicate] at h2
        split at h2 <;> cases h2
    have ha : vs[i]? = some v := by
      unfold start at h2
      rw [List.getElem?_append_left (by simpa using hi), List.getElem?_map] at h2
      cases e : vs[i]? with
      | none => rw [e] at h2; cases h2
      | some a => rw [e] at h2; cases h2; rfl
    obtain ⟨u, hu, rv⟩ := r.get ha
    have hp : ps[i]? = some y := by
      rw [← S.pre, List.getElem?_take_of_lt (by omega)]; exact h1
    have ndP : ps.Nodup := by rw [← S.pre]; exact S.nd.sublist (List.take_sublist _ _)
    refine ⟨u, rv, ?_⟩
    rcases S.par y (List.mem_of_getElem? hp) with k | k
    · exact .inl ⟨k, bindL_get ndP hp hu k⟩
    · obtain ⟨c, e⟩ := cell_has (n := s.heap.objs.size + 1) k
      refine .inr ⟨.inl k, c, e, ?_⟩
      have q := x.cell y c e
      rw [bindC_get ndP hp hu (by show scope.names.lookup y ≠ _; rw [k]; decide)] at q
      exact q
  · exact e0.hok.fresh (Nat.le_of_lt (x.above y c (PySem.mem_of_lookup h)))
  · unfold start
    show _ = N.length
    rw [List.length_append, List.length_map, List.length_replicate]
    omega
theorem fn_of {CX : CXT} {P : Program} {w : World} {K : PySem.W.Frag} {mg : Str → Option Value} {base : Heap} {k : Nat} {f : Addr} {name qual : Str} {params : Arguments} {body : List Stmt} {scope : Scope} {dV kV doc pm cdv ct oc : Value} {an od : Option Addr}
    {osl : Array (Option Value)} {N ps : List Str} {sp : Sp} (lk : K.lookup f = some ⟨oc, od, .func (PySem.W.fnOf name qual params body scope dV kV doc pm an cdv ct), osl⟩) (hcd : PySem.W.codeIn K cdv qual = true) (S : FnScope N ps scope)
    (len : ∀ vs H Q E, sp vs H Q E → vs.length = ps.length)
    (hbody : ∀ (A : Around) (outer : List Env) (s : Shared) (H : Hp) (vs : List V) (Q : VK) (E : XK), Room k (A.deeper (envOfC qual scope s.heap.objs.size f cdv)) → sp vs H Q E →
      ∃ t, PSs (cxOf CX P w K mg base N qual scope f cdv A outer s H E) body t ∧ t { nx := fun _ H' => Q .non H', rt := Q } (start N vs) H) :
    FnOk P w K mg base CX (k + 1) f (PySem.W.fnOf name qual params body scope dV kV doc pm an cdv ct) ps sp := by
  refine ⟨len, fun A outer s H args us vs Q E hr e0 hb r hsp => ?_⟩
  have hl := len _ _ _ _ hsp
  have KX : K.In s.heap := e0.mod.kin.keeps fun b o e => (e0.bs b o e).1
  have lim : s.heap.NoLimit := e0.mod.nolimit.keeps fun b o e => (e0.bs b o e).1
  have hkind : ∀ y ∈ ps.zip us, scope.names.lookup y.1 = some .local ∨ (scope.names.lookup y.1 = some .cell ∧ ((cellsFrom (s.heap.objs.size + 1) scope.names []).lookup y.1).isSome = true) := fun ⟨n, v⟩ hy => by
    rcases S.par n (List.of_mem_zip hy).1 with q | q
    · exact .inl q
    · exact .inr ⟨q, PySem.W.cellsFrom_some _ _ _ (.inl q)⟩
  refine codeAny_call_function hr.depth (KX _ _ lk) rfl S.co S.gen rfl (PySem.W.codeRec_of KX hcd) (hb _ _ _ _ ?_)
  refine wpAny_newFunctionEnv_cells S.kind hkind fun env he s1 x => ?_
  subst he
  refine ⟨lim.keeps x.toInCall.keep, codeAny_func ?_⟩
  obtain ⟨t, ht, hq⟩ := hbody A outer s H vs Q E (hr.deeper _) hsp
  have I : Inv (cxOf CX P w K mg base N qual scope f cdv A outer s H E) [] (start N vs) H s1 := inv_start S hr.hd e0 hl r x
  refine wpAny_mono (ht [] s1 (start N vs) H _ I hq) (fun fl s' hs => ?_) fun e s' hs => hs
  have fin : ∀ {σ' : St} {H' : Hp} {v : V} {u : Value}, Inv (cxOf CX P w K mg base N qual scope f cdv A outer s H E) [] σ' H' s' → RelV v u → Q v H' → CE outer P w H s Q u s' :=
    fun {σ' H' v u} J rv q => ⟨v, H', J.os, J.bare, J.base, J.hok, rv, q⟩
  cases fl with
  | ret u =>
    obtain ⟨v, σ', H', J, rv, q⟩ := hs
    exact fin J rv q
  | next =>
    obtain ⟨σ', H', J, q⟩ := hs
    exact fin (v := V.non) (u := Value.none) J rfl q
  | brk =>
    obtain ⟨_, _, _, q⟩ := hs
    exact False.elim q
  | cont =>
    obtain ⟨_, _, _, q⟩ := hs
    exact False.elim q
end L2
namespace L2
open PySem PySem.Spec PyProof.Rows
section
variable {X : Cx} {x : Str} {p pos : Pos} {e : Expr} {es : List Expr} {t : TA} {id T : String} {r : List V → Hp → VK → Prop}
def tCB (r : List V → Hp → VK → Prop) (t : TA) : TE := fun σ H Q => t σ H fun vs H1 => r vs H1 Q
theorem pe_callB (hc : CallR X (.builtin id) r) (hg : Gl X x) (hm : X.mg x = none) (hv : bootBuiltins x = some (.builtin id)) (ha : PA X (e :: es) t) (hn : x ≠ "__name__" := by decide) (hdb : (x == ("__debug__" : Str)) = false := by decide)
    (he : starEach (e :: es) X.env = (false, eval e X.env) :: starEach es X.env := by rfl) (hpl : (backTo pos (starEach es X.env)).any (·.1) = false := by rfl) : PE X (.Call (.Name x p) (e :: es) [] pos) (tCB r t) := by
  intro pins s σ H Q I h
  refine wpAny_Call_Name_kw (ld_blt I hg hm hv ?_ hn hdb)
  exact PyProof.Rows.callWith_builtin1 (thn (ha pos pins s σ H _ I h) fun us s1 ⟨vs, H1, I1, r1, q1⟩ => hc pins s1 σ H1 vs us Q I1 r1 q1) he hpl
theorem pe_callTy (hc : CallR X (.type T) r) (hg : Gl X x) (hm : X.mg x = none) (hv : bootBuiltins x = some (.type T)) (ha : PA X (e :: es) t) (hn : x ≠ "__name__" := by decide) (hdb : (x == ("__debug__" : Str)) = false := by decide)
    (he : starEach (e :: es) X.env = (false, eval e X.env) :: starEach es X.env := by rfl) (hpl : (backTo pos (starEach es X.env)).any (·.1) = false := by rfl) : PE X (.Call (.Name x p) (e :: es) [] pos) (tCB r t) := by
  intro pins s σ H Q I h
  refine wpAny_Call_Name_kw (ld_blt I hg hm hv ?_ hn hdb)
  exact PyProof.Rows.callWith_type1 (thn (ha pos pins s σ H _ I h) fun us s1 ⟨vs, H1, I1, r1, q1⟩ => hc pins s1 σ H1 vs us Q I1 r1 q1) he hpl
end
end L2
namespace HT
open PySem PyProof.Rows
section
open PySem.SeqAt
open PySem.AutoSeq1 (wpAny_loadPart')
open PySem.MeetsSeq PySem.MeetsSeq2 PySem.MeetsSeq3
end
section
variable {prog : Program} {w : World} {A : Around} {E : Value → Shared → Prop} {s : Shared}
def sIx (n d : Nat) : Option Int → Nat
  | none => d
  | some v => if v < 0 then (v + (n : Int)).toNat else min v.toNat n
theorem sIx_nat (n d k : Nat) : sIx n d (some (k : Int)) = min k n := by
  show (if (k : Int) < 0 then ((k : Int) + (n : Int)).toNat else min (k : Int).toNat n) = min k n
  rw [if_neg (by omega), Int.toNat_natCast]
theorem sIx_le (n d : Nat) (hd : d ≤ n) (o : Option Int) : sIx n d o ≤ n := by
  cases o with
  | none => exact hd
  | some v =>
    show (if v < 0 then (v + (n : Int)).toNat else min v.toNat n) ≤ n
    by_cases hv : v < 0
    · rw [if_pos hv]; omega
    · rw [if_neg hv]; exact Nat.min_le_right _ _
end
end HT
namespace L2
open PySem PySem.Spec PyProof.Rows
abbrev TO := St → Hp → (Option Int → Hp → Prop) → Prop
def PO (X : Cx) (e : Option Expr) (t : TO) : Prop :=
  ∀ (pins : List (Addr × Obj)) (s : Shared) (σ : St) (H : Hp) (Q : Option Int → Hp → Prop), Inv X pins σ H s → t σ H Q →
    wpAny (model X.prog X.w) X.A (evalPart e X.env) (fun u s' => ∃ o H', Inv X pins σ H' s' ∧ IsPart u o ∧ Q o H') X.xe s
section
variable {X : Cx} {e : Expr} {te : TE} {lo hi : Option Expr} {tl th : TO} {pos p2 : Pos}
def SlR (X : Cx) (r : V → Option Int → Option Int → Hp → VK → Prop) : Prop :=
  ∀ (pins : List (Addr × Obj)) (s : Shared) (σ : St) (H : Hp) (x : V) (v vl vu : Value) (lo hi : Option Int) (sl : Addr) (Q : VK), Inv X pins σ H s → RelV x v → s.heap.IsSliceOf sl vl vu .none → IsPart vl lo → IsPart vu hi → r x lo hi H Q →
    ∃ T id, typeLookup (.type T) "__getitem__" = pure (some (.builtin id)) ∧ s.TypeIs v T ∧ wpAny (model X.prog X.w) X.A (getItem v (.ref sl)) (EP X pins σ Q) X.xe s
theorem SlR.or {r r' : V → Option Int → Option Int → Hp → VK → Prop} (h : SlR X r) (h' : SlR X r') : SlR X (fun x lo hi H Q => r x lo hi H Q ∨ r' x lo hi H Q) := by
  intro pins s σ H x v vl vu lo hi sl Q I rx hs pl pu q
  rcases q with q | q
  · exact h pins s σ H x v vl vu lo hi sl Q I rx hs pl pu q
  · exact h' pins s σ H x v vl vu lo hi sl Q I rx hs pl pu q
def tSl (r : V → Option Int → Option Int → Hp → VK → Prop) (te : TE) (tl th : TO) : TE := fun σ H Q => te σ H fun x H1 => tl σ H1 fun l H2 => th σ H2 fun u H3 => r x l u H3 Q
theorem pe_slice {r : V → Option Int → Option Int → Hp → VK → Prop} (hr : SlR X r) (he : PE X e te) (hl : PO X lo tl) (hu : PO X hi th) : PE X (.Subscript e (.Slice lo hi none p2) pos) (tSl r te tl th) := by
  intro pins s σ H Q I h
  refine Subscript_ (thn (he pins s σ H _ I h) fun v s1 ⟨x, H1, I1, r1, q1⟩ => ?_)
  refine wpAny_Slice (thn (hl pins s1 σ H1 _ I1 q1) fun vl s2 ⟨l, H2, I2, pl, q2⟩ => thn (hu pins s2 σ H2 _ I2 q2) fun vu s3 ⟨u, H3, I3, pu, q3⟩ => ?_)
  rw [evalPart_none]
  refine wpAny_pure ?_
  have I4 : Inv X pins σ H3 { s3 with heap := s3.heap.push { cls := .type "slice", data := .fields #[vl, vu, .none] } } := I3.kept (t' := s3.toks) fun b ob q => Heap.get?_push_of_some _ q
  obtain ⟨T, id, hT, ht, hg⟩ := hr pins { s3 with heap := s3.heap.push { cls := .type "slice", data := .fields #[vl, vu, .none] } } σ H3 x v vl vu l u s3.heap.objs.size Q I4 r1 (Heap.IsSliceOf.new ..) pl pu q3
  show wpAny (model X.prog X.w) X.A (subscriptTail e (.Slice lo hi none p2) v (.ref s3.heap.objs.size)) (EP X pins σ Q) X.xe { s3 with heap := s3.heap.push { cls := .type "slice", data := .fields #[vl, vu, .none] } }
  exact tail_any (ops := [.ref s3.heap.objs.size, v]) ht hT hg (by with_unfolding_all rfl)
def cutV (xs : List V) (lo hi : Option Int) : List V := (xs.drop (HT.sIx xs.length 0 lo)).take (HT.sIx xs.length xs.length hi - HT.sIx xs.length 0 lo)
theorem cutV_length (xs : List V) (lo hi : Option Int) : (cutV xs lo hi).length ≤ xs.length := by
  unfold cutV
  rw [List.length_take, List.length_drop]
  omega
end
end L2
namespace L2
open PySem PySem.Spec PyProof.Rows
def ixN (n : Nat) (i : Int) : Option Nat := if 0 ≤ i then (if i < n then some i.toNat else none) else if -(n : Int) ≤ i then some (i + n).toNat else none
def atI {α : Type} (xs : List α) (i : Int) : Option α := (ixN xs.length i).bind fun j => xs[j]?
theorem ixN_seq {n : Nat} {i : Int} {j : Nat} (h : ixN n i = some j) : seqIndex? i n = some j ∧ j < n ∧ -(n : Int) ≤ i ∧ i < n := by
  unfold ixN at h
  by_cases h0 : 0 ≤ i
  · rw [if_pos h0] at h
    by_cases h1 : i < n
    · rw [if_pos h1] at h
      have e : i.toNat = j := Option.some.inj h
      exact ⟨by rw [seqIndex_of h0 h1, e], by omega, by omega, h1⟩
    · rw [if_neg h1] at h; cases h
  · rw [if_neg h0] at h
    by_cases h1 : -(n : Int) ≤ i
    · rw [if_pos h1] at h
      have e : (i + n).toNat = j := Option.some.inj h
      exact ⟨by rw [seqIndex_neg (by omega) h1, e], by omega, h1, by omega⟩
    · rw [if_neg h1] at h; cases h
theorem atI_get {α : Type} {xs : List α} {i : Int} {v : α} (h : atI xs i = some v) : ∃ j, seqIndex? i xs.length = some j ∧ xs[j]? = some v ∧ j < xs.length ∧ -(xs.length : Int) ≤ i ∧ i < xs.length := by
  unfold atI at h
  cases e : ixN xs.length i with
  | none => rw [e] at h; cases h
  | some j =>
    rw [e] at h
    obtain ⟨h1, h2, h3, h4⟩ := ixN_seq e
    exact ⟨j, h1, h, h2, h3, h4⟩
def PlainIx (b : Expr) : Prop := ∀ o i, subscripted b false o i = operate [o, i] (getItem o i)
def IxR (X : Cx) (r : R2) : Prop :=
  ∀ (value slice : Expr) (pins : List (Addr × Obj)) (s : Shared) (σ : St) (H : Hp) (x y : V) (v u : Value) (Q : VK), Inv X pins σ H s → RelV x v → RelV y u → r x y H Q →
    subscripted slice false v u = operate [v, u] (getItem v u) → wpAny (model X.prog X.w) X.A (subscriptTail value slice v u) (EP X pins σ Q) X.xe s
section
variable {X : Cx} {a b : Expr} {ta tb : TE} {pos : Pos}
theorem IxR.or {r r' : R2} (h : IxR X r) (h' : IxR X r') : IxR X (fun x y H Q => r x y H Q ∨ r' x y H Q) := by
  intro value slice pins s σ H x y v u Q I rx ry q hs
  rcases q with q | q
  · exact h value slice pins s σ H x y v u Q I rx ry q hs
  · exact h' value slice pins s σ H x y v u Q I rx ry q hs
theorem pe_ix {r : R2} (hr : IxR X r) (ha : PE X a ta) (hb : PE X b tb) (hs : PlainIx b) : PE X (.Subscript a b pos) (tOp r ta tb) := by
  intro pins s σ H Q I h
  exact Subscript_ (binT ha hb I h fun v u s2 x y H2 I2 rx ry q => hr a b pins s2 σ H2 x y v u Q I2 rx ry q (hs _ _))
def rIxL (K : PySem.W.Frag) : R2 := fun x y H Q => ∃ p xs i v, x = .ref p ∧ y = .int i ∧ SqL K H p xs ∧ atI xs i = some v ∧ Q v H
def rIxT (K : PySem.W.Frag) : R2 := fun x y H Q => ∃ p xs i v, x = .ref p ∧ y = .int i ∧ SqT K H p xs ∧ atI xs i = some v ∧ Q v H
def rIxS : R2 := fun x y H Q => ∃ z i c, x = .str z ∧ y = .int i ∧ z.length ≤ sizeLine ∧ atI z.cps.toList i = some c ∧ Q (.str ⟨#[c]⟩) H
theorem ix_list : IxR X (rIxL X.K) := by
  intro value slice pins s σ H x y v u Q I rx ry h hs
  obtain ⟨p, xs, i, z, rfl, rfl, hq, he, q⟩ := h
  cases rx
  obtain ⟨t, rfl⟩ := ry
  obtain ⟨its, r, pl, hz⟩ := I.list hq
  obtain ⟨j, h1, h2, h3, h4, h5⟩ := atI_get he
  obtain ⟨w, ew, rw'⟩ := r.get h2
  have hl := r.length
  have hn := line63
  have fin : EP X pins σ Q w s := ⟨z, H, I, rw', q⟩
  by_cases h0 : 0 ≤ i
  · have hj : i.toNat = j := by
      rw [seqIndex_of h0 h5] at h1
      exact Option.some.inj h1
    exact item_listR pl.isList h0 (by omega) (by rw [hj]; simpa using ew) fin hs
  · have hj : (i + (its.toArray.size : Int)).toNat = j := by
      rw [seqIndex_neg (by omega) h4] at h1
      rw [List.size_toArray, ← hl]
      exact Option.some.inj h1
    exact subscriptTail_builtinR (x := w) pl.isList.typeIs slot_list_getitem.lookup
      (wpAny_getItem_list_neg (Q := fun r s' => r = w ∧ EP X pins σ Q r s') pl.isList (by omega) (by rw [List.size_toArray] <;> omega) (by omega) (by rw [hj]; simpa using ew) ⟨rfl, fin⟩) hs
theorem ix_tup : IxR X (rIxT X.K) := by
  intro value slice pins s σ H x y v u Q I rx ry h hs
  obtain ⟨p, xs, i, z, rfl, rfl, hq, he, q⟩ := h
  cases rx
  obtain ⟨t, rfl⟩ := ry
  obtain ⟨its, r, pl, hz⟩ := I.tuple hq
  obtain ⟨j, h1, h2, h3, h4, h5⟩ := atI_get he
  obtain ⟨w, ew, rw'⟩ := r.get h2
  have hl := r.length
  have hn := line63
  have fin : EP X pins σ Q w s := ⟨z, H, I, rw', q⟩
  exact subscriptTail_builtinR (x := w) pl.typeIs slot_tuple_getitem.lookup
    (getItem_tuple (j := j) (Q := fun r s' => r = w ∧ EP X pins σ Q r s') pl (by omega) (by omega) (by rw [List.size_toArray, ← hl]; exact h1) (by simpa using ew) ⟨rfl, fin⟩) hs
theorem ix_str : IxR X rIxS := by
  intro value slice pins s σ H x y v u Q I rx ry h hs
  obtain ⟨z, i, c, rfl, rfl, hz, he, q⟩ := h
  obtain ⟨t, rfl⟩ := rx
  obtain ⟨t', rfl⟩ := ry
  obtain ⟨j, h1, h2, h3, h4, h5⟩ := atI_get he
  have hl : z.cps.toList.length = z.length := by simp [Str.length]
  rw [hl] at h1 h4 h5
  have hn := line63
  exact tail_any (typeIs_str s z t) slot_str_getitem.lookup (getItem_str (c := c) (by
    have e1 : decide (i < -(2 ^ 63 : Int)) = false := decide_eq_false (by omega)
    have e2 : decide (i ≥ 2 ^ 63) = false := decide_eq_false (by omega)
    rw [e1, e2, Bool.or_false]) (by rw [h1]; simpa using h2) ⟨.str ⟨#[c]⟩, H, I.tok _, ⟨_, rfl⟩, q⟩) hs
def rIx (K : PySem.W.Frag) : R2 := fun x y H Q => rIxL K x y H Q ∨ rIxT K x y H Q ∨ rIxS x y H Q
theorem ix_seq : IxR X (rIx X.K) := ix_list.or (ix_tup.or ix_str)
theorem slice_bounds (lo hi : Option Int) (n : Nat) : (sliceBounds lo hi none n).1 = ((HT.sIx n 0 lo : Nat) : Int) ∧ (sliceBounds lo hi none n).2.1 = ((HT.sIx n n hi : Nat) : Int) ∧ (sliceBounds lo hi none n).2.2 = 1 := by
  refine ⟨?_, ?_, rfl⟩
  · cases lo with
    | none => simp [sliceBounds, HT.sIx]
    | some i =>
      simp only [sliceBounds, HT.sIx, Option.getD_none, show (1 : Int) > 0 by decide, if_true]
      by_cases h : i < 0
      · simp only [h, if_true] <;> omega
      · simp only [h, if_false] <;> omega
  · cases hi with
    | none => simp [sliceBounds, HT.sIx]
    | some i =>
      simp only [sliceBounds, HT.sIx, Option.getD_none, show (1 : Int) > 0 by decide, if_true]
      by_cases h : i < 0
      · simp only [h, if_true] <;> omega
      · simp only [h, if_false] <;> omega
theorem slicePick_cut (its : List Value) (lo hi : Option Int) : slicePick its.toArray lo hi none = ((its.drop (HT.sIx its.length 0 lo)).take (HT.sIx its.length its.length hi - HT.sIx its.length 0 lo)).toArray := by
  obtain ⟨h1, h2, h3⟩ := slice_bounds lo hi its.toArray.size
  unfold slicePick
  rw [h1, h2, h3]
  simp only [sliceRange_one, pick_run, List.size_toArray] <;> rfl
def rSlL (K : PySem.W.Frag) : V → Option Int → Option Int → Hp → VK → Prop := fun x lo hi H Q => ∃ a xs, x = .ref a ∧ SqL K H a xs ∧ ∀ p, H p = none → Q (.ref p) (upd H p (.lst (cutV xs lo hi)))
theorem sl_list : SlR X (rSlL X.K) := by
  intro pins s σ H x v vl vu lo hi sl Q I rx hs pl pu h
  obtain ⟨a, xs, rfl, hx, q⟩ := h
  cases rx
  obtain ⟨its, r, ht, hz⟩ := I.list hx
  have hlen := r.length
  refine ⟨"list", _, slot_list_getitem.lookup, ht.isList.typeIs, ?_⟩
  refine wpAny_getItem_list_slice ht.isList hs pl pu .none (by simp) ?_ (by rw [List.size_toArray] <;> omega)
  rw [slicePick_cut, ← hlen]
  refine ⟨.ref s.heap.objs.size, _, I.laid (t' := s.toks) (o := .lst (cutV xs lo hi)) (fun b ob q => Heap.get?_push_of_some _ q) (Nat.le_refl _) ?_, rfl, q _ (I.hok.fresh (Nat.le_refl _))⟩
  exact ⟨Nat.le_trans (cutV_length xs lo hi) hz, _, 0, (r.drop (HT.sIx xs.length 0 lo)).take (HT.sIx xs.length xs.length hi - HT.sIx xs.length 0 lo), Heap.get?_push_size _ rfl⟩
theorem call_list_of : CallR X (.type "list") (fun xs H Q => ∃ p ys, xs = [.ref p] ∧ (SqL X.K H p ys ∨ SqT X.K H p ys) ∧ ∀ l, H l = none → Q (.ref l) (upd H l (.lst ys))) := by
  intro pins s σ H xs us Q I r h
  obtain ⟨p, ys, rfl, hq, q⟩ := h
  obtain ⟨u, rfl, rx⟩ := vals1 r
  cases rx
  have fin : ∀ (its : List Value), Vals ys its → ys.length ≤ sizeLine → ∀ (h' : Heap) (c' : Nat), (∀ b o', s.heap.get? b = some o' → h'.get? b = some o') →
      h'.get? s.heap.objs.size = some { cls := .type "list", dict := none, data := .seq its.toArray c', slots := #[] } → EP X pins σ Q (.ref s.heap.objs.size) { s with heap := h' } := fun its r' hz h' c' kp e =>
    ⟨.ref s.heap.objs.size, _, I.laid (t' := s.toks) kp (Nat.le_refl _) (show ObjOk X.prog X.w _ h' _ (.lst ys) from ⟨hz, its, c', r', e⟩), rfl, q _ (I.hok.fresh (Nat.le_refl _))⟩
  rcases hq with hq | hq
  · obtain ⟨its, r', pl, hz⟩ := I.list hq
    have hlen := r'.length
    obtain ⟨o, ho, hc, n, hd⟩ := pl.isList
    exact call_list_seq p (.inl rfl) ho hc hd (fun h' c' kp e => fin its r' hz h' c' kp e) (by simp only [List.size_toArray] <;> omega)
  · obtain ⟨its, r', pl, hz⟩ := I.tuple hq
    have hlen := r'.length
    obtain ⟨o, ho, hc, n, hd⟩ := pl
    exact call_list_seq p (.inr rfl) ho hc hd (fun h' c' kp e => fin its r' hz h' c' kp e) (by simp only [List.size_toArray] <;> omega)
variable {o e : Expr} {es : List Expr} {to : TE} {t : TA} {name : Str} {apos cpos : Pos} {T id : String} {r : V → List V → Hp → VK → Prop}
end
end L2
namespace L2
open PySem PySem.Spec PyProof.Rows
theorem Vals.rep {xs : List V} {us : List Value} (h : Vals xs us) : ∀ k : Nat, Vals (List.replicate k xs).flatten (List.replicate k us).flatten
  | 0 => .nil
  | k + 1 => by
    rw [List.replicate_succ, List.replicate_succ, List.flatten_cons, List.flatten_cons]
    exact Vals.append h (Vals.rep h k)
theorem foldl_rep (its : List Value) : ∀ (k : Nat) (acc : List Value),
    List.foldl (fun x1 x2 => x1 ++ x2) acc.toArray (List.replicate k its.toArray) = (acc ++ (List.replicate k its).flatten).toArray
  | 0, acc => by simp
  | k + 1, acc => by
    have e : acc.toArray ++ its.toArray = (acc ++ its).toArray := by simp
    have e2 : (acc ++ its) ++ (List.replicate k its).flatten = acc ++ (List.replicate (k + 1) its).flatten := by
      rw [List.replicate_succ, List.flatten_cons, List.append_assoc]
    rw [← e2, ← foldl_rep its k (acc ++ its), ← e, List.replicate_succ, List.foldl_cons]
section
variable {X : Cx} {pins : List (Addr × Obj)} {σ : St} {H : Hp} {s : Shared} {l b : Addr} {xs ys zs : List V}
theorem Inv.lnew {its : List Value} {t' : Nat} (I : Inv X pins σ H s) (hv : Vals ys its) (hz : ys.length ≤ sizeLine) :
    Inv X pins σ (upd H s.heap.objs.size (.lst ys)) { s with heap := s.heap.push { cls := .type "list", data := .seq its.toArray }, toks := t' } :=
  I.laid (fun _ _ q => Heap.get?_push_of_some _ q) (Nat.le_refl _) ⟨hz, its, 0, hv, Heap.get?_push_size _ rfl⟩
theorem Inv.fresh (I : Inv X pins σ H s) : H s.heap.objs.size = none := I.hok.fresh (Nat.le_refl _)
theorem Inv.lstM (I : Inv X pins σ H s) (hH : H l = some (.lst xs)) : xs.length ≤ sizeLine ∧ ∃ (its : List Value) (n : Nat), Vals xs its ∧ xs.length = its.length ∧ s.heap.get? l = some { cls := .type "list", data := .seq its.toArray n } := by
  obtain ⟨z, its, n, r, e⟩ := I.hok l _ hH
  exact ⟨z, its, n, r, r.length, e⟩
theorem notLongL {n : Nat} (h : n ≤ sizeLine) : Builtin.List.listTooLong n = false := by
  unfold Builtin.List.listTooLong
  exact decide_eq_false (by omega)
end
section
variable {X : Cx}
def rRep : R2 := fun x y H Q => ∃ l k xs, x = .ref l ∧ y = .int k ∧ H l = some (.lst xs) ∧ -(2 ^ 63) ≤ k ∧ k < 2 ^ 63 ∧ xs.length * k.toNat ≤ sizeLine ∧
  ∀ p, H p = none → Q (.ref p) (upd H p (.lst (List.replicate k.toNat xs).flatten))
theorem len_rep {α : Type} (xs : List α) (k : Nat) : (List.replicate k xs).flatten.length = k * xs.length := by
  induction k with
  | zero => simp
  | succ k ih => rw [List.replicate_succ, List.flatten_cons, List.length_append, ih, Nat.succ_mul, Nat.add_comm]
theorem op_rep : OpR X (binaryOp .Mult) rRep := by
  intro pins s σ H x y v u Q I rx ry h
  obtain ⟨l, k, xs, rfl, rfl, hH, h1, h2, hz, q⟩ := h
  cases rx
  obtain ⟨t, rfl⟩ := ry
  obtain ⟨z, its, n, r, hl, e⟩ := I.lstM hH
  have hlen : its.toArray.size * k.toNat ≤ sizeLine := by rw [List.size_toArray, ← hl]; exact hz
  have hcap : ¬ its.toArray.size * k.toNat > (2 ^ 63 - 1) / 8 := by
    have : (sizeLine : Nat) ≤ (2 ^ 63 - 1) / 8 := by decide
    omega
  have hfit : ¬ (!Builtin.List.listFitsIndex k) = true := by
    rw [fitsIndex_both h1 h2]
    exact Bool.false_ne_true
  have hlong : ¬ Builtin.List.listTooLong (its.toArray.size * k.toNat) = true := by
    rw [notLongL hlen]
    exact Bool.false_ne_true
  have hnew : List.foldl (fun x1 x2 => x1 ++ x2) #[] (List.replicate (if its.toArray.isEmpty = true then 0 else k.toNat) its.toArray) = (List.replicate k.toNat its).flatten.toArray := by
    have f0 : ∀ m : Nat, List.foldl (fun x1 x2 => x1 ++ x2) #[] (List.replicate m its.toArray) = (List.replicate m its).flatten.toArray := fun m => by
      have := foldl_rep its m []
      rw [List.nil_append] at this
      exact this
    rw [f0]
    cases its with
    | nil => simp
    | cons a r' => rw [if_neg (by simp)]
  refine wpAny_binaryOp_repeat_ref (T := "list") (U := "int") (by decide) ⟨_, e, rfl⟩ (fun s' => typeIs_int s' k t) noFill_list_mul F.fills_int_mul F.slot_int_rmul repeat_list F.slot_int_index.lookup
    (call_meets F.slot_int_rmul (typeIs_int s k t) F.entry_int_rmul (F.args_int_rmul_2 _ _) (int___rmul___int_list k t l its.toArray n)
      ⟨e, rfl, ⟨_, e, rfl⟩, call_meets F.slot_list_mul ⟨_, e, rfl⟩ F.entry_list_mul (F.args_list_mul_2 _ _) (AutoListH.list___mul___list_int_3 l its.toArray n k t hfit hcap hlong) ⟨e, ?_⟩⟩)
  rw [hnew]
  exact ⟨.ref _, _, I.lnew (t' := s.toks) (r.rep k.toNat) (by rw [len_rep, Nat.mul_comm]; exact hz), rfl, q _ I.fresh⟩
end
section
variable {prog : Program} {w : World} {A : Around} {E : Value → Shared → Prop} {s : Shared}
end
section
variable {X : Cx}
end
end L2
namespace Att
open PySem PySem.W PySem.Calls PyProof.Rows
theorem ints_of_wellAll {P : Params} {h : Heap} : ∀ (ns : List Int) (vs : List Value), WellAll P h vs (ns.map WData.int) → IntsAre vs ns := by
  intro ns
  induction ns with
  | nil =>
    intro vs w
    rw [List.map_nil] at w
    cases w
    exact .nil
  | cons n ns ih =>
    intro vs w
    rw [List.map_cons] at w
    cases w with
    | cons a b =>
      cases a
      exact .cons _ _ (ih _ b)
theorem script_of {l : OpenLaw} {n : Nat} (hn : l.most = some n) {P : Params} {h : Heap} {args : List WData} {vals : List Value}
    (hpre : l.row.toRowW.claim.pre args = true) (hwl : WellAll P h vals args) :
    ∃ a vs ns, vals = [Value.ref a] ∧ args = [WData.list (ns.map WData.int)] ∧ h.get? a = some { cls := .type "list", data := .seq vs.toArray } ∧ IntsAre vs ns ∧ ns.length ≤ n := by
  have hsh : WShape.hasAll [] args [.list .int] = true := (pre_splitW hpre).1
  have hc : l.pre.holds [] { args := args } = true := (pre_splitW hpre).2
  obtain ⟨d, r, rfl, h1, h2⟩ := hasAllW_cons hsh
  obtain rfl := hasAllW_nil h2
  obtain ⟨xs, rfl, h3⟩ := hasW_list h1
  obtain ⟨ns, rfl⟩ := items_int h3
  have hlen : ns.length ≤ n := by
    unfold OpenLaw.pre at hc
    have h4 : (WTm.not (.lt (.lit (.int (n : Int))) (.len (.arg 0)))).holds [] { args := [.list (ns.map .int)] } = true := by
      have h4 := (holds_andW hc).1
      rw [hn] at h4
      exact h4
    have h5 := condW_of h4 (w_not (w_lt w_lit (w_len_list (w_arg rfl))))
    rw [List.length_map] at h5
    refine Nat.le_of_not_lt fun q => ?_
    have q' : (n : Int) < ((ns.length : Nat) : Int) := by omega
    first
      | (rw [decide_eq_true q'] at h5; exact absurd h5 (by decide))
      | (simp at h5; omega)
  cases hwl with
  | cons w1 w2 =>
    cases w2
    cases w1 with
    | list ho hall => exact ⟨_, _, ns, rfl, rfl, ho, ints_of_wellAll ns _ hall, hlen⟩
theorem post_true (l : OpenLaw) (args : List WData) : l.row.toRowW.claim.post args (.bool true) args = true :=
  postW_of (r := l.row.toRowW) (X := (true == true))
    (show WShape.has [] (.bool true) .bool = true by first | rfl | decide | simp [WShape.has, WShape.arms, WShape.armsAll])
    (show (WTm.eq .res (.lit (.bool true))).value [] { args := args, res := some (.bool true), after := args } = some (.bool (true == true)) from w_eq_bool (w_res rfl) w_lit) rfl
theorem attach_call {l : OpenLaw} {n : Nat} {q : Program} {loose : List Str} {XP : (Str → Option Value) → Heap → Prop} {YP : World → Heap → Prop} {d : DefRec}
    (hn : l.most = some n) (hdf : d.params.defaults = [])
    (call : ∀ (w : World) (s₀ s₁ : Shared) (mg mb : Str → Option Value) (fa : Addr) (o : Obj) (pm cd doc : Value) (a : Addr) (vs : List Value) (ns : List Int),
      Ground q loose [] XP w s₀ mg mb s₁.heap → YP w s₁.heap →
      s₁.heap.get? fa = some o → o.data = .func (docDef d.name d.params d.body d.scope pm cd doc) → s₁.heap.CodeRec cd d.name → mg d.name = some (.ref fa) →
      s₁.heap.get? a = some { cls := .type "list", data := .seq vs.toArray } → IntsAre vs ns → ns.length ≤ n → s₁.gens = #[] →
      codeAny (model l.prog w) callerA (.call (.ref fa) ⟨[.ref a], []⟩) (fun r s' => r = .ok (.ret (.bool true)) ∧ OldK s₁.heap s'.heap ∧ s'.os = s₁.os ∧ AllBare s'.gens) s₁) :
    WalkO q loose XP YP l.row.toRowW d [] (fun f vs => PySem.call f vs) := by
  intro w s₀ s₁ mg mb G Y fa o pm cd doc dV kV ho hd hcd hD hmg hg args vals as hpre hlay hrd hwl hlo
  obtain rfl : dV = .none := Dflts.none hD hdf
  obtain rfl : kV = .none := Dflts.noKw hD
  obtain ⟨a, vs, ns, rfl, rfl, hobj, hints, hlen⟩ := script_of hn hpre hwl
  refine enter_call (codeAny_mono (call w s₀ s₁ mg mb fa o pm cd doc a vs ns G Y ho (fd_plain hd) hcd hmg hobj hints hlen hg) fun r s' hq => ?_)
  obtain ⟨rfl, h2, h3, h4⟩ := hq
  exact ⟨.inl ⟨.bool true, .bool true, [], rfl, fun _ => rfl, .bool true, post_true l _, fun _ => ⟨List.Pairwise.nil, fun _ hm => (nomatch hm)⟩⟩, h2, h3, h4⟩
section
variable {prog : Program} {w : World} {A : Around} {E : Value → Shared → Prop} {s : Shared} {K : Frag}
end
end Att
namespace L2
open PySem PySem.Spec PyProof.Rows
theorem vals_ints : ∀ {vs : List Value} {ns : List Int}, IntsAre vs ns → Vals (ns.map V.int) vs
  | _, _, .nil => .nil
  | _, _, .cons n t h => .cons ⟨t, rfl⟩ (vals_ints h)
def Only (H : Hp) : Prop := ∀ b, H b = none ∨ ∃ o xs, H b = some (.frz o (.lst xs))
theorem law_call {P : Program} {w : World} {K : PySem.W.Frag} {mg mb : Str → Option Value} {CX : CXT} {k : Nat} {fa a : Addr} {fd : FuncData} {x : Str} {sp : Sp} {s₁ : Shared} {vs : List Value} {ns : List Int}
    (KX : K.In s₁.heap) (hns : s₁.heap.Ns mainGlobals mg) (hb : s₁.heap.Ns builtinsNs mb) (hbb : ∀ x : Str, x ≠ "__name__" → mb x = bootBuiltins x) (hlim : s₁.heap.NoLimit) (hg : s₁.gens = #[])
    (ha : s₁.heap.get? a = some { cls := .type "list", data := .seq vs.toArray }) (hi : IntsAre vs ns) (hl : ns.length ≤ sizeLine) (hr : Room k callerA)
    (F : ∀ base : Heap, K.In base → base.Ns mainGlobals mg → FnOk P w K mg base CX k fa fd [x] sp) (hbind : ∀ (s : Shared) (u : Value), BindsTo s fd ⟨[u], []⟩ [(x, u)])
    (hsp : ∀ H : Hp, Only H → SqL K H a (ns.map V.int) → sp [.ref a] H (fun v _ => v = .bl true) fun _ _ _ => False)
    (hCX : ∀ H e s', CX [] H s₁ (fun _ _ _ => False) e s' → False) :
    codeAny (model P w) callerA (.call (.ref fa) ⟨[.ref a], []⟩) (fun r s' => r = .ok (.ret (.bool true)) ∧ OldK s₁.heap s'.heap ∧ s'.os = s₁.os ∧ AllBare s'.gens) s₁ := by
  have rv := vals_ints hi
  have lenV := hi.length
  -- from an abstract heap in which nothing but the script may be tracked
  have core : ∀ H : Hp, Only H → SqL K H a (ns.map V.int) → HOk P w H s₁.heap → (∀ b, H b ≠ none → b = a) → (H a ≠ none → K.lookup a = none) →
      codeAny (model P w) callerA (.call (.ref fa) ⟨[.ref a], []⟩) (fun r s' => r = .ok (.ret (.bool true)) ∧ OldK s₁.heap s'.heap ∧ s'.os = s₁.os ∧ AllBare s'.gens) s₁ := by
    intro H hO hS hok hA hK
    have base_of : ∀ {b : Addr} {o : Obj}, s₁.heap.get? b = some o → H b = none → (hidT s₁.heap H).get? b = some o := fun e n => hidT_get e n
    have noA : ∀ {b : Addr} {o : Obj} {es : Array DictEntry} {ep : Nat}, s₁.heap.get? b = some o → o.data = .dict es ep → H b = none := fun {b o es ep} e d => by
      cases q : H b with
      | none => rfl
      | some u =>
        have e' : b = a := hA b (by rw [q]; simp)
        subst e'
        rw [ha] at e; cases e
        have d' : Data.seq vs.toArray _ = Data.dict es ep := d
        cases d'
    have nsK : ∀ {b : Addr} {m : Str → Option Value}, s₁.heap.Ns b m → (hidT s₁.heap H).Ns b m := fun {b m} ⟨o, es, ep, e, d, r⟩ => ⟨o, es, ep, base_of e (noA e d), d, r⟩
    have hKb : K.In (hidT s₁.heap H) := fun b o e => base_of (KX b o e) (by
      cases q : H b with
      | none => rfl
      | some u =>
        have e' : b = a := hA b (by rw [q]; simp)
        subst e'
        rw [hK (by rw [q]; simp)] at e; cases e)
    have hM : Mod K mg (hidT s₁.heap H) := ⟨hKb, nsK hns, ⟨mb, nsK hb, hbb⟩, let ⟨mc, h1, h2⟩ := hlim; ⟨mc, nsK h1, h2⟩⟩
    have e0 : Env0 P w K mg (hidT s₁.heap H) callerA [] s₁ H := ⟨rfl, hM, fun b o e => of_hidT e, Nat.le_of_eq (hidT_size _ _), trivial, fun b hb => absurd (show b ∈ ([] : List Addr) from hb) (by simp), hok, .of_eq hg⟩
    refine codeAny_mono ((F _ hKb (nsK hns)).run callerA [] s₁ H ⟨[.ref a], []⟩ [.ref a] [.ref a] _ _ hr e0 (hbind s₁ (.ref a)) (.cons rfl .nil) (hsp H hO hS)) fun r s' h => ?_
    cases r with
    | error e => exact (hCX H e s' h).elim
    | ok fl =>
      cases fl with
      | next => exact False.elim h
      | brk => exact False.elim h
      | cont => exact False.elim h
      | ret u =>
        obtain ⟨v, H', os, bare, un, hok', r', q⟩ := h
        have q' : v = .bl true := q
        subst q'
        obtain rfl : u = Value.bool true := r'
        refine ⟨rfl, OldK.of_keep fun b o e => ?_, os, bare⟩
        cases q : H b with
        | none => exact un.keep b o e q (by intro z; exact absurd (show b ∈ ([] : List Addr) from z) (by simp)) (by simp)
        | some u =>
          rcases hO b with z | ⟨ob, xs, z⟩
          · rw [q] at z; cases z
          · have z2 := un.frzs b ob _ z
            obtain ⟨e1, _⟩ := hok b _ z
            obtain ⟨e2, _⟩ := hok' b _ z2
            rw [e] at e1; cases e1
            exact e2
  cases hk : K.lookup a with
  | some o =>
    -- the script is one of the module's own objects
    have e := KX a o hk
    rw [ha] at e
    cases e
    refine core (fun _ => none) (fun _ => .inl rfl) (.inr ⟨_, vs.toArray, _, hk, rfl, rfl, rfl, by rw [List.size_toArray, lenV]; exact hl, by simpa using rv⟩) (fun b u z => by have z' : (none : Option HO) = some u := z; cases z') (fun b z => absurd rfl z) fun z => absurd rfl z
  | none =>
    refine core (fun b => if b = a then some (.frz { cls := .type "list", data := .seq vs.toArray } (.lst (ns.map V.int))) else none) (fun b => ?_) (.inl (.inr ⟨{ cls := .type "list", data := .seq vs.toArray }, if_pos rfl⟩)) (fun b u z => ?_) (fun b z => ?_) fun _ => hk
    · by_cases hb : b = a
      · exact .inr ⟨_, _, if_pos hb⟩
      · exact .inl (if_neg hb)
    · by_cases hb : b = a
      · have z' := (if_pos hb).symm.trans z
        cases z'
        subst hb
        exact ⟨ha, by rw [List.length_map]; exact hl, vs, _, rv, ha⟩
      · have z' := (if_neg hb).symm.trans z
        cases z'
    · by_cases hb : b = a
      · exact hb
      · exact absurd (if_neg hb) z
end L2
namespace L2
open PySem PySem.Spec PyProof.Rows
theorem walk_of {l : PySem.W.OpenLaw} {n k : Nat} {q : Program} {loose : List Str} {XP : (Str → Option Value) → Heap → Prop} {YP : World → Heap → Prop} {d : DefRec} {K : Params → PySem.W.Frag} {CX : World → CXT} {sp : World → Sp} {x : Str}
    (hn : l.most = some n) (hn2 : n ≤ sizeLine) (hdf : d.params.defaults = []) (hr : Room k callerA)
    (hY : ∀ (w : World) (h : Heap), YP w h → (K w.params).In h)
    (F : ∀ (w : World) (mg : Str → Option Value) (fa : Addr) (h : Heap), (K w.params).In h → h.Ns mainGlobals mg → mg d.name = some (.ref fa) →
      ∃ fd : FuncData, (∀ (s : Shared) (u : Value), BindsTo s fd ⟨[u], []⟩ [(x, u)]) ∧
        ∀ base : Heap, (K w.params).In base → base.Ns mainGlobals mg → FnOk l.prog w (K w.params) mg base (CX w) k fa fd [x] (sp w))
    (hsp : ∀ (w : World) (H : Hp) (a : Addr) (ns : List Int), ns.length ≤ n → Only H → SqL (K w.params) H a (ns.map V.int) → sp w [.ref a] H (fun v _ => v = .bl true) fun _ _ _ => False)
    (hCX : ∀ (w : World) (H : Hp) (s : Shared) (e : Value) (s' : Shared), CX w [] H s (fun _ _ _ => False) e s' → False) :
    PySem.W.WalkO q loose XP YP l.row.toRowW d [] (fun f vs => PySem.call f vs) := by
  refine Att.attach_call hn hdf fun w s₀ s₁ mg mb fa o pm cd doc a vs ns G Y ho hd hcd hmg hobj hints hlen hg => ?_
  have KX := hY w _ Y
  obtain ⟨fd, hb, hF⟩ := F w mg fa _ KX G.T.g hmg
  exact law_call KX G.T.g G.T.b G.T.builtins G.T.nolimit hg hobj hints (Nat.le_trans hlen hn2) hr hF hb (fun H hO hS => hsp w H a ns hlen hO hS) fun H e s' => hCX w H s₁ e s'
end L2
namespace L2
open PySem PySem.Spec PyProof.Rows
def defArgs (s : Stmt) : Arguments := match s with
  | .FunctionDef _ a _ _ _ _ _ _ _ _ => a
  | _ => { posonlyargs := [], args := [], vararg := none, kwonlyargs := [], kw_defaults := [], kwarg := none, defaults := [] }
def defBody (s : Stmt) : List Stmt := match s with
  | .FunctionDef _ _ b _ _ _ _ _ _ _ => b
  | _ => []
def defScope (s : Stmt) : Scope := match s with
  | .FunctionDef _ _ _ _ _ _ sc _ _ _ => sc
  | _ => { kind := .function, names := [], isGenerator := false, isCoroutine := false }
abbrev CX0 : CXT := fun _ _ _ _ _ _ => False
structure Fun (K : PySem.W.Frag) (x qual : Str) (st : Stmt) (f : Addr) (fd : FuncData) : Prop where
  ex : ∃ (oc : Value) (od : Option Addr) (kV doc pm : Value) (an : Option Addr) (cdv ct : Value) (osl : Array (Option Value)),
    fd = PySem.W.fnOf x qual (defArgs st) (defBody st) (defScope st) .none kV doc pm an cdv ct ∧ K.lookup f = some ⟨oc, od, .func fd, osl⟩ ∧ PySem.W.codeIn K cdv qual = true
  kp : PySem.W.keepIn K (.ref f) = true
section
variable {P : Program} {w : World} {K : PySem.W.Frag} {mg : Str → Option Value} {base : Heap}
theorem Fun.binds {x qual : Str} {st : Stmt} {f : Addr} {fd : FuncData} {ps : List Str} (F : Fun K x qual st f fd)
    (h : ∀ (kV doc pm : Value) (an : Option Addr) (cdv ct : Value) (us : List Value), us.length = ps.length → bindArgs (PySem.W.fnOf x qual (defArgs st) (defBody st) (defScope st) .none kV doc pm an cdv ct) ⟨us, []⟩ = pure (ps.zip us)) : Binds K fd ps [] := by
  obtain ⟨oc, od, kV, doc, pm, an, cdv, ct, osl, rfl, lk, hcd⟩ := F.ex
  exact .all (h kV doc pm an cdv ct)
theorem fun_mk {x qual : Str} {st : Stmt} {f : Addr} {oc : Value} {od an : Option Addr} {osl : Array (Option Value)} {kV doc pm cdv ct : Value} (l : K.lookup f = some ⟨oc, od, .func (PySem.W.fnOf x qual (defArgs st) (defBody st) (defScope st) .none kV doc pm an cdv ct), osl⟩)
    (c : PySem.W.codeIn K cdv qual = true) (k : PySem.W.keepIn K (.ref f) = true) : Fun K x qual st f (PySem.W.fnOf x qual (defArgs st) (defBody st) (defScope st) .none kV doc pm an cdv ct) := ⟨⟨oc, od, kV, doc, pm, an, cdv, ct, osl, rfl, l, c⟩, k⟩
end
section
variable {X : Cx}
end
def Same (H H' : Hp) : Prop := ∀ b o, H b = some o → H' b = some o
theorem Same.refl (H : Hp) : Same H H := fun _ _ h => h
theorem Same.trans {H H1 H2 : Hp} (a : Same H H1) (b : Same H1 H2) : Same H H2 := fun c o h => b c o (a c o h)
theorem Same.free {H H' : Hp} (e : Same H H') {l : Addr} (h : H' l = Option.none) : H l = Option.none := by
  cases q : H l with
  | none => rfl
  | some o =>
    rw [e l o q] at h
    cases h
theorem Same.seq {K : PySem.W.Frag} {H H' : Hp} {a : Addr} {xs : List V} (e : Same H H') (h : SqL K H a xs) : SqL K H' a xs := by
  rcases h with (h | ⟨o, h⟩) | h
  · exact .inl (.inl (e _ _ h))
  · exact .inl (.inr ⟨o, e _ _ h⟩)
  · exact .inr h
end L2
namespace M2
open PySem PySem.Spec PyProof.Rows L2
section
variable {X : Cx} {a b c e : Expr} {ta tb tc te : TE} {pos : Pos}
theorem PE.wk {t t' : TE} (h : PE X e t) (i : ∀ σ H Q, t' σ H Q → t σ H Q) : PE X e t' := fun pins s σ H Q I q => h pins s σ H Q I (i σ H Q q)
theorem PS.wk {st : Stmt} {t t' : TS} (h : PS X st t) (i : ∀ D σ H, t' D σ H → t D σ H) : PS X st t' := fun pins s σ H D I q => h pins s σ H D I (i D σ H q)
theorem OpR.wk {f : Value → Value → Sem Value} {r r' : R2} (h : OpR X f r) (i : ∀ x y H Q, r' x y H Q → r x y H Q) : OpR X f r' := fun pins s σ H x y v u Q I rx ry q => h pins s σ H x y v u Q I rx ry (i x y H Q q)
theorem UnR.wk {f : Value → Sem Value} {r r' : V → Hp → VK → Prop} (h : UnR X f r) (i : ∀ x H Q, r' x H Q → r x H Q) : UnR X f r' := fun pins s σ H x v Q I rx q => h pins s σ H x v Q I rx (i x H Q q)
theorem CallR.wk {f : Value} {r r' : List V → Hp → VK → Prop} (h : CallR X f r) (i : ∀ xs H Q, r' xs H Q → r xs H Q) : CallR X f r' := fun pins s σ H xs us Q I r q => h pins s σ H xs us Q I r (i xs H Q q)
theorem IxR.wk {r r' : R2} (h : IxR X r) (i : ∀ x y H Q, r' x y H Q → r x y H Q) : IxR X r' := fun va sl pins s σ H x y v u Q I rx ry q => h va sl pins s σ H x y v u Q I rx ry (i x y H Q q)
theorem SlR.wk {r r' : V → Option Int → Option Int → Hp → VK → Prop} (h : SlR X r) (i : ∀ x lo hi H Q, r' x lo hi H Q → r x lo hi H Q) : SlR X r' := fun pins s σ H x v vl vu lo hi sl Q I rx hs pl pu q => h pins s σ H x v vl vu lo hi sl Q I rx hs pl pu (i x lo hi H Q q)
def mVar (i : Nat) : TE := fun σ H Q => match σ[i]? with
  | some (some v) => Q v H
  | _ => False
theorem mVar_to {i : Nat} {σ : L2.St} {H : Hp} {Q : VK} (h : mVar i σ H Q) : tVar i σ H Q := by
  unfold mVar at h
  split at h
  · exact ⟨_, by assumption, h⟩
  · exact h.elim
theorem mv (i : Nat) {x : Str} {pos : Pos} (hN : X.N[i]? = some x := by rfl) (hv : Vis X.env.scope x := by first | exact Or.inl rfl | exact Or.inr (Or.inl rfl) | exact Or.inr (Or.inr rfl)) (hd : (x == ("__debug__" : Str)) = false := by decide)
    (hcd : (x == ("__classdict__" : Str)) = false := by decide) : PE X (.Name x pos) (mVar i) := PE.wk (pe_var hN hv hd hcd) fun _ _ _ h => mVar_to h
def bOf (x : V) (k : Bool → Prop) : Prop := match x with
  | .bl c => k c
  | _ => False
theorem bOf_to {x : V} {k : Bool → Prop} (h : bOf x k) : ∃ c, x = .bl c ∧ k c := by
  cases x with
  | bl c => exact ⟨c, rfl, h⟩
  | _ => exact h.elim
def mTest (t : TE) : TT := fun σ H Q => t σ H fun x H1 => bOf x fun c => Q c H1
theorem mt_cmp {op : CmpOp} {r : R2} (ho : OpR X (compareOp op) r) (ha : PE X a ta) (hb : PE X b tb) (hm : behindInMarks op b = false) : PT X (.Compare a [op] [b] pos) (mTest (tOp r ta tb)) := by
  intro pins s σ H Q I h
  refine wpAny_isTrue_Compare1 (thn (ha pins s σ H _ I h) fun v s1 ⟨x, H1, I1, r1, q1⟩ => thn (hb pins s1 σ H1 _ I1 q1) fun u s2 ⟨y, H2, I2, r2, q2⟩ =>
    thn (ho pins s2 σ H2 x y v u _ I2 r1 r2 q2) fun c s3 ⟨z, H3, I3, r3, q3⟩ => ?_) hm
  obtain ⟨k, e, q3⟩ := bOf_to q3
  subst e
  cases r3
  exact wpAny_truthy_bool ⟨H3, I3, q3⟩
def mChain (r r' : R2) (ta tb tc : TE) : TE := fun σ H Q => ta σ H fun x H1 => tb σ H1 fun y H2 => r x y H2 fun z H3 => bOf z fun k =>
  (if k = true then tc σ H3 fun w' H4 => r' y w' H4 Q else Q (.bl false) H3)
theorem me_chain {op op' : CmpOp} {r r' : R2} (ho : OpR X (compareOp op) r) (ho' : OpR X (compareOp op') r') (ha : PE X a ta) (hb : PE X b tb) (hc : PE X c tc)
    (hm : lastMarks [op, op'] [b, c] = false := by with_unfolding_all rfl) : PE X (.Compare a [op, op'] [b, c] pos) (mChain r r' ta tb tc) := by
  intro pins s σ H Q I h
  refine Compare_chain (thn (ha pins s σ H _ I h) fun v s1 ⟨x, H1, I1, r1, q1⟩ => chain_link (thn (hb pins s1 σ H1 _ I1 q1) fun u s2 ⟨y, H2, I2, r2, q2⟩ =>
    thn (ho pins s2 σ H2 x y v u _ I2 r1 r2 q2) fun d s3 ⟨z, H3, I3, r3, q3⟩ => ?_)) hm
  obtain ⟨k, e, q3⟩ := bOf_to q3
  subst e
  cases r3
  refine wpAny_truthy_bool ?_
  cases k with
  | false => exact ite_ff ⟨.bl false, H3, I3, rfl, q3⟩
  | true => exact ite_tt (chain_last (thn (hc pins s3 σ H3 _ I3 q3) fun w' s4 ⟨z', H4, I4, r4, q4⟩ => ho' pins s4 σ H4 y z' u w' Q I4 r2 r4 q4))
def mAndV (ta tb : TE) : TE := fun σ H Q => ta σ H fun x H1 => bOf x fun c => if c = true then tb σ H1 Q else Q (.bl false) H1
variable {rest : List Expr}
theorem me_and (ha : PE X a ta) (hb : PE X (.BoolOp .And (b :: rest) pos) tb) : PE X (.BoolOp .And (a :: b :: rest) pos) (mAndV ta tb) := by
  intro pins s σ H Q I h
  refine BoolOp_and (thn (ha pins s σ H _ I h) fun v s1 ⟨x, H1, I1, r1, q1⟩ => ?_)
  obtain ⟨c, rfl, q1⟩ := bOf_to q1
  cases r1
  refine wpAny_truthy_bool ?_
  cases c with
  | true => exact hb pins s1 σ H1 Q I1 q1
  | false => exact ⟨.bl false, H1, I1, rfl, q1⟩
def mI (C : Int → Int → Prop) (g : Int → Int → V) : R2 := fun x y H Q => match x, y with
  | .int i, .int j => C i j ∧ Q (g i j) H
  | _, _ => False
def mI0 (g : Int → Int → V) : R2 := fun x y H Q => match x, y with
  | .int i, .int j => Q (g i j) H
  | _, _ => False
theorem mI_to {C : Int → Int → Prop} {g : Int → Int → V} (x y : V) (H : Hp) (Q : VK) (h : mI C g x y H Q) : rI C g x y H Q := by
  cases x with
  | int i =>
    cases y with
    | int j => exact ⟨i, j, rfl, rfl, h.1, h.2⟩
    | _ => exact h.elim
  | _ => exact h.elim
theorem mI0_to {g : Int → Int → V} (x y : V) (H : Hp) (Q : VK) (h : mI0 g x y H Q) : rI0 g x y H Q := by
  cases x with
  | int i =>
    cases y with
    | int j => exact ⟨i, j, rfl, rfl, h⟩
    | _ => exact h.elim
  | _ => exact h.elim
def mAdd : R2 := fun x y H Q => match x, y with
  | .int i, .int j => Q (.int (i + j)) H
  | .str i, .str j => i.length + j.length ≤ sizeLine ∧ Q (.str (i ++ j)) H
  | _, _ => False
theorem om_add : OpR X (binaryOp .Add) mAdd := OpR.wk (op_add.or op_add_str) fun x y H Q h => by
  cases x with
  | int i =>
    cases y with
    | int j => exact .inl ⟨i, j, rfl, rfl, h⟩
    | _ => exact h.elim
  | str i =>
    cases y with
    | str j => exact .inr ⟨i, j, rfl, rfl, h.1, h.2⟩
    | _ => exact h.elim
  | _ => exact h.elim
theorem om_sub : OpR X (binaryOp .Sub) (mI0 fun i j => .int (i - j)) := OpR.wk op_sub mI0_to
def CMulB (i j : Int) : Prop := CMul i j ∨ (Builtin.Int.intBits i ≤ 1048576 ∧ Builtin.Int.intBits j ≤ 1048576)
theorem CMulB.ok {i j : Int} (h : CMulB i j) : IntMulOk i j := by
  rcases h with h | ⟨h1, h2⟩
  · exact h.ok
  · exact IntMulOk.of_le h1 h2 (by decide)
theorem om_mul : OpR X (binaryOp .Mult) (mI CMulB fun i j => .int (i * j)) := OpR.wk (opI (C := CMulB) (g := fun i j => i * j) fun _ _ _ _ _ _ _ hc q => mul_int q hc.ok) mI_to
def CFdv (_ j : Int) : Prop := j ≠ 0 ∧ Builtin.Int.intBits j ≤ 8000
theorem CFdv.py {i j : Int} (h : CFdv i j) : Builtin.divisionGoesByPylong i j = false := by
  refine PyProof.noPylong_of_log2 ?_
  have hb := intBits_le_iff.mp h.2
  have h0 : j.natAbs ≠ 0 := by have := h.1; omega
  exact Nat.lt_of_lt_of_le ((Nat.log2_lt h0).mpr hb) (by decide)
theorem om_fdiv : OpR X (binaryOp .FloorDiv) (mI CFdv fun i j => .int (i.fdiv j)) := OpR.wk (opI (C := CFdv) (g := fun i j => i.fdiv j) fun _ _ _ _ _ _ _ hc q => floordiv_int hc.1 q (.inl hc.py)) mI_to
theorem om_mod : OpR X (binaryOp .Mod) (mI (fun _ j => j ≠ 0) fun i j => .int (i.fmod j)) := OpR.wk op_modN mI_to
theorem om_pow : OpR X (binaryOp .Pow) (mI CPow fun i j => .int (i ^ j.toNat)) := OpR.wk op_pow mI_to
theorem om_le : OpR X (compareOp .LtE) (mI0 fun i j => .bl (decide (i ≤ j))) := OpR.wk op_le mI0_to
def mU (g : Int → V) : V → Hp → VK → Prop := fun x H Q => match x with
  | .int i => Q (g i) H
  | _ => False
theorem um_neg : UnR X (unaryOp .USub) (mU fun i => .int (-i)) := UnR.wk un_neg fun x H Q h => by
  cases x with
  | int i => exact ⟨i, rfl, h⟩
  | _ => exact h.elim
def mAbs : List V → Hp → VK → Prop := fun xs H Q => match xs with
  | [.int i] => Q (.int (if i < 0 then -i else i)) H
  | _ => False
theorem cm_abs : CallR X (.builtin "abs") mAbs := CallR.wk call_abs fun xs H Q h => by
  unfold mAbs at h
  split at h
  · exact ⟨_, rfl, h⟩
  · exact h.elim
def mMin2 : List V → Hp → VK → Prop := fun xs H Q => match xs with
  | [.int i, .int j] => Q (.int (if j < i then j else i)) H
  | _ => False
theorem cm_min2 (hc : X.calm = true) : CallR X (.builtin "min") mMin2 := CallR.wk (call_min2 hc) fun xs H Q h => by
  unfold mMin2 at h
  split at h
  · exact ⟨_, _, rfl, h⟩
  · exact h.elim
def mLen (K : PySem.W.Frag) : List V → Hp → VK → Prop := fun xs H Q => match xs with
  | [.str y] => y.length ≤ sizeLine ∧ Q (.int (y.length : Int)) H
  | [.ref p] => ∃ ys, (SqL K H p ys ∨ SqT K H p ys) ∧ Q (.int (ys.length : Int)) H
  | _ => False
theorem cm_len : CallR X (.builtin "len") (mLen X.K) := CallR.wk call_len fun xs H Q h => by
  unfold mLen at h
  split at h
  · exact ⟨_, _, rfl, ⟨h.1, rfl⟩, h.2⟩
  · obtain ⟨ys, h1, h2⟩ := h
    refine ⟨_, ys.length, rfl, ?_, h2⟩
    rcases h1 with h1 | h1
    · exact .inl ⟨ys, h1, rfl⟩
    · exact .inr ⟨ys, h1, rfl⟩
  · exact h.elim
def mIx (K : PySem.W.Frag) : R2 := fun x y H Q => match x, y with
  | .ref p, .int i => ∃ xs v, (SqL K H p xs ∨ SqT K H p xs) ∧ atI xs i = some v ∧ Q v H
  | .str z, .int i => ∃ c, z.length ≤ sizeLine ∧ atI z.cps.toList i = some c ∧ Q (.str ⟨#[c]⟩) H
  | _, _ => False
theorem xm_ix : IxR X (mIx X.K) := IxR.wk ix_seq fun x y H Q h => by
  cases x with
  | ref p =>
    cases y with
    | int i =>
      obtain ⟨xs, v, h1, h2, h3⟩ := h
      rcases h1 with h1 | h1
      · exact .inl ⟨p, xs, i, v, rfl, rfl, h1, h2, h3⟩
      · exact .inr (.inl ⟨p, xs, i, v, rfl, rfl, h1, h2, h3⟩)
    | _ => exact h.elim
  | str z =>
    cases y with
    | int i =>
      obtain ⟨c, h1, h2, h3⟩ := h
      exact .inr (.inr ⟨z, i, c, rfl, rfl, h1, h2, h3⟩)
    | _ => exact h.elim
  | _ => exact h.elim
def iOf (x : V) (k : Int → Prop) : Prop := match x with
  | .int i => k i
  | _ => False
def mPart (t : TE) : TO := fun σ H Q => t σ H fun x H1 => iOf x fun i => Q (some i) H1
theorem pom_some (h : PE X e te) : PO X (some e) (mPart te) := by
  intro pins s σ H Q I hw
  rw [evalPart_some]
  refine thn (h pins s σ H _ I hw) fun u s1 ⟨x, H1, I1, r1, q1⟩ => ?_
  cases x with
  | int i =>
    obtain ⟨t, rfl⟩ := r1
    exact ⟨some i, H1, I1, .int i t, q1⟩
  | _ => exact q1.elim
def mSlL (K : PySem.W.Frag) : V → Option Int → Option Int → Hp → VK → Prop := fun x lo hi H Q => match x with
  | .ref a => ∃ xs, SqL K H a xs ∧ ∀ p, H p = none → Q (.ref p) (upd H p (.lst (cutV xs lo hi)))
  | _ => False
theorem slm_list : SlR X (mSlL X.K) := SlR.wk sl_list fun x lo hi H Q h => by
  cases x with
  | ref a =>
    obtain ⟨xs, h1, h2⟩ := h
    exact ⟨a, xs, rfl, h1, h2⟩
  | _ => exact h.elim
end
end M2
namespace M2
open PySem PySem.Spec PyProof.Rows L2
def Itc (lo c : Int) (n : Nat) : It := ⟨fun i _ => i < n, fun i H x H' => H' = H ∧ x = .int (lo + i * c), fun i _ => n ≤ i⟩
theorem turn_rangeC {P : Program} {w : World} {K : PySem.W.Frag} {tg : Expr} (it : Addr) (lo c : Int) (n : Nat) : Turn P w K tg (Itc lo c n) [it] it (fun i h => IsRangeIter h it (lo + (i : Nat) * c) ((n : Int) - (i : Nat)) c) where
  mem := by simp
  obj := fun i h st b hb => by
    have e : b = it := by simpa using hb
    subst e
    exact ⟨_, st, fun v z => by
      have z' : Data.fields _ = Data.cell v := z
      cases z'⟩
  keep := fun i h h' st k => k it (by simp) _ st
  item := by
    intro X hP hw hK hc i pins s σ H E I hf st hg
    subst hP hw hK
    obtain ⟨f0, f1, f2, f3, f4, f5⟩ := hf it (by simp)
    have W := Walks.range (prog := X.prog) (w := X.w) (I.ok.hd hc) it lo c n
    refine W.item i s _ _ hg st fun v h' tk hv st' kk => ?_
    obtain ⟨t, rfl⟩ := hv
    have I1 : Inv X pins σ H { s with heap := h', toks := tk } := I.turned (fun b o hb e => kk b o (by simpa using hb) e) f0 f1 f3 f4 f5
    exact ⟨_, rfl, go_of (s := { s with heap := h', toks := tk }) (n := "range_iterator") st' rfl rfl (by decide) ⟨.int (lo + i * c), H, I1, ⟨t, rfl⟩, ⟨rfl, rfl⟩, st', fun b hb => (hf b hb).1⟩⟩
  done := by
    intro X hP hw hK hc i pins s σ H E I hf st hg
    subst hP hw hK
    obtain ⟨f0, f1, f2, f3, f4, f5⟩ := hf it (by simp)
    exact wpAny_pyNext_range_end (I.ok.hd hc) st (by have : n ≤ i := hg; omega) fun h' eb => ⟨rfl, I.turned (t' := s.toks) (fun b o hb e => eb b o hb e) f0 f1 f3 f4 f5⟩
  self := fun _ _ _ _ _ st h => wpAny_pyIter_rangeiter st h
section
variable {X : Cx} {tg : Expr}
theorem small_c {a b c : Int} (ha : -(2 ^ 60) ≤ a) (ha' : a < 2 ^ 60) (hb : -(2 ^ 60) ≤ b) (hb' : b < 2 ^ 60) (hc : 0 < c) (hc' : c < 2 ^ 60) : Builtin.Range.small a b c = true := by
  unfold Builtin.Range.small
  have h0 : 0 ≤ (b - a - 1) / c ∨ ¬ a < b := by
    by_cases h : a < b
    · exact .inl (Int.ediv_nonneg (by omega) (by omega))
    · exact .inr h
  have h1 : a < b → (b - a - 1) / c ≤ b - a - 1 := fun h => Int.ediv_le_self _ (by omega)
  simp only [Builtin.Range.rangeFitsLong, Builtin.Range.rangeSize, Bool.and_eq_true, Bool.or_eq_true, decide_eq_true_eq, beq_iff_eq, show c > 0 from hc, if_true]
  generalize (b - a - 1) / c = z at h0 h1 ⊢
  split <;> omega
def iRng3 (ta : TA) : TI := fun σ H R => ta σ H fun vs H1 => match vs with
  | [.int i, .int j, .int c] => (-(2 ^ 60) ≤ i ∧ i < 2 ^ 60 ∧ -(2 ^ 60) ≤ j ∧ j < 2 ^ 60 ∧ 0 < c ∧ c < 1000000) ∧ R (Itc i c (Builtin.Range.rangeSize i j c).toNat) H1
  | _ => False
theorem rangeSize_nn {a b c : Int} (hc : 0 < c) : 0 ≤ Builtin.Range.rangeSize a b c := by
  unfold Builtin.Range.rangeSize
  rw [if_pos hc]
  split
  · have := Int.ediv_nonneg (show 0 ≤ b - a - 1 by omega) (show 0 ≤ c by omega)
    omega
  · exact Int.le_refl 0
theorem range_itC {pins : List (Addr × Obj)} {σ : L2.St} {H : Hp} {s : Shared} {R : It → Hp → Prop} {E : Value → Shared → Prop} {lo hi c : Int} {t u v : Tok} {tk : Nat} (I : Inv X pins σ H s) (h1 : -(2 ^ 60) ≤ lo) (h2 : lo < 2 ^ 60) (h3 : -(2 ^ 60) ≤ hi) (h4 : hi < 2 ^ 60) (h5 : 0 < c) (h6 : c < 1000000)
    (q : R (Itc lo c (Builtin.Range.rangeSize lo hi c).toNat) H) : wpAny (model X.prog X.w) X.A (pyIter (.ref s.heap.objs.size)) (PIE X pins σ tg R) E { s with heap := s.heap.push { cls := .type "range", data := .fields #[.int lo t, .int hi u, .int c v] }, toks := tk } := by
  refine wpAny_pyIter_range (IsRange.new ..) (small_c h1 h2 h3 h4 h5 (by omega)) ?_
  have I1 : Inv X pins σ H { s with heap := s.heap.push { cls := .type "range", data := .fields #[.int lo t, .int hi u, .int c v] }, toks := tk } := I.kept fun b o e => Heap.get?_push_of_some _ e
  refine ⟨(s.heap.push { cls := .type "range", data := .fields #[.int lo t, .int hi u, .int c v] }).objs.size, [(s.heap.push { cls := .type "range", data := .fields #[.int lo t, .int hi u, .int c v] }).objs.size], _, _, H, rfl,
    I1.kept (t' := tk) fun b o e => Heap.get?_push_of_some _ e, turn_rangeC _ lo c (Builtin.Range.rangeSize lo hi c).toNat, ?_, fun b hb => ?_, q⟩
  · have e1 : lo + ((0 : Nat) : Int) * c = lo := by simp
    have e2 : (((Builtin.Range.rangeSize lo hi c).toNat : Nat) : Int) - ((0 : Nat) : Int) = Builtin.Range.rangeSize lo hi c := by have := rangeSize_nn (a := lo) (b := hi) h5; omega
    show IsRangeIter _ _ (lo + ((0 : Nat) : Int) * c) ((((Builtin.Range.rangeSize lo hi c).toNat : Nat) : Int) - ((0 : Nat) : Int)) c
    rw [e1, e2]
    exact Heap.get?_push_size _ rfl
  · have e : b = (s.heap.push { cls := .type "range", data := .fields #[.int lo t, .int hi u, .int c v] }).objs.size := by simpa using hb
    subst e
    exact I1.fpOk (Nat.le_refl _) (I1.hok.fresh (Nat.le_refl _))
theorem pi_range3 {a b c : Expr} {ta : TA} {p pos : Pos} (hg : Gl X "range") (hm : X.mg "range" = none) (ha : PA X [a, b, c] ta) (hs : starEach [a, b, c] X.env = [(false, eval a X.env), (false, eval b X.env), (false, eval c X.env)] := by rfl)
    (hs2 : starEach [b, c] X.env = [(false, eval b X.env), (false, eval c X.env)] := by rfl) :
    PI X tg (.Call (.Name "range" p) [a, b, c] [] pos) (iRng3 ta) := by
  intro pins s σ H R I h
  refine Call_ (ld_blt I hg hm boot_range (PyProof.Rows.callWith_type1 (thn (ha pos pins s σ H _ I h) fun us s1 ⟨vs, H1, I1, r1, q1⟩ => ?_) (by rw [hs, hs2]) (by rw [hs2]; rfl)))
  dsimp only at q1
  split at q1
  · obtain ⟨⟨q1, q2, q3, q4, q5, q6⟩, q⟩ := q1
    cases r1 with
    | cons r rr =>
      cases rr with
      | cons r' rr =>
        cases rr with
        | cons r'' rr =>
          cases rr
          obtain ⟨t, rfl⟩ := r
          obtain ⟨t', rfl⟩ := r'
          obtain ⟨t'', rfl⟩ := r''
          exact call_range_3 (by omega) (range_itC I1 q1 q2 q3 q4 q5 q6 q) (.inl (PyProof.noPylong_small (by omega)))
  · exact q1.elim
end
mutual
def Rp (K : PySem.W.Frag) (H : Hp) : PyData → V → Prop
  | .none, v => v = .non
  | .bool b, v => v = .bl b
  | .int i, v => v = .int i
  | .str x, v => v = .str x
  | .tuple ds, v => ∃ a xs, v = .ref a ∧ SqT K H a xs ∧ RpA K H ds xs
  | .list ds, v => ∃ a xs, v = .ref a ∧ SqL K H a xs ∧ RpA K H ds xs
  | .dict _, _ => False
def RpA (K : PySem.W.Frag) (H : Hp) : List PyData → List V → Prop
  | [], xs => xs = []
  | d :: ds, xs => ∃ x r, xs = x :: r ∧ Rp K H d x ∧ RpA K H ds r
end
theorem Same.tup {K : PySem.W.Frag} {H H' : Hp} {a : Addr} {xs : List V} (e : Same H H') (h : SqT K H a xs) : SqT K H' a xs := by
  rcases h with (h | ⟨o, h⟩) | h
  · exact .inl (.inl (e _ _ h))
  · exact .inl (.inr ⟨o, e _ _ h⟩)
  · exact .inr h
theorem Same.upd {H : Hp} {p : Addr} {o : HO} (h : H p = none) : Same H (upd H p o) := fun b u e => by
  rw [upd_ne (ne_of_none e h)]
  exact e
mutual
theorem Rp.same {K : PySem.W.Frag} {H H' : Hp} (e : Same H H') : ∀ (d : PyData) (v : V), Rp K H d v → Rp K H' d v
  | .none, _, h => by unfold Rp at h ⊢; exact h
  | .bool _, _, h => by unfold Rp at h ⊢; exact h
  | .int _, _, h => by unfold Rp at h ⊢; exact h
  | .str _, _, h => by unfold Rp at h ⊢; exact h
  | .tuple ds, _, h => by
    unfold Rp at h ⊢
    obtain ⟨a, xs, h1, h2, h3⟩ := h
    exact ⟨a, xs, h1, Same.tup e h2, RpA.same e ds xs h3⟩
  | .list ds, _, h => by
    unfold Rp at h ⊢
    obtain ⟨a, xs, h1, h2, h3⟩ := h
    exact ⟨a, xs, h1, e.seq h2, RpA.same e ds xs h3⟩
  | .dict _, _, h => by unfold Rp at h; exact h.elim
theorem RpA.same {K : PySem.W.Frag} {H H' : Hp} (e : Same H H') : ∀ (ds : List PyData) (xs : List V), RpA K H ds xs → RpA K H' ds xs
  | [], _, h => by unfold RpA at h ⊢; exact h
  | d :: ds, _, h => by
    unfold RpA at h ⊢
    obtain ⟨x, r, h1, h2, h3⟩ := h
    exact ⟨x, r, h1, Rp.same e d x h2, RpA.same e ds r h3⟩
end
section
variable {X : Cx} {pins : List (Addr × Obj)} {σ : L2.St} {H : Hp} {s : Shared}
mutual
theorem Rp.reads (I : Inv X pins σ H s) : ∀ (d : PyData) (v : V) (u : Value), Rp X.K H d v → RelV v u → ∃ as, Reads s.heap u d as
  | .none, v, u, h, r => by
    unfold Rp at h; subst h; cases r; exact ⟨_, .none⟩
  | .bool b, v, u, h, r => by
    unfold Rp at h; subst h; cases r; exact ⟨_, .bool b⟩
  | .int i, v, u, h, r => by
    unfold Rp at h; subst h; obtain ⟨t, rfl⟩ := r; exact ⟨_, .int i t⟩
  | .str x, v, u, h, r => by
    unfold Rp at h; subst h; obtain ⟨t, rfl⟩ := r; exact ⟨_, .str x t⟩
  | .tuple ds, v, u, h, r => by
    unfold Rp at h
    obtain ⟨a, xs, h1, h2, h3⟩ := h
    subst h1
    cases r
    obtain ⟨its, rv, ⟨o, e, hc, n, hd⟩, hz⟩ := I.tuple h2
    obtain ⟨as, ra⟩ := RpA.reads I ds xs its h3 rv
    exact ⟨_, .tuple e hc hd (by simpa using ra)⟩
  | .list ds, v, u, h, r => by
    unfold Rp at h
    obtain ⟨a, xs, h1, h2, h3⟩ := h
    subst h1
    cases r
    obtain ⟨its, rv, ⟨o, n, e, hc, hdd, hd⟩, hz⟩ := I.list h2
    obtain ⟨as, ra⟩ := RpA.reads I ds xs its h3 rv
    exact ⟨_, .list e hc hd (by simpa using ra)⟩
  | .dict _, _, _, h, _ => by unfold Rp at h; exact h.elim
theorem RpA.reads (I : Inv X pins σ H s) : ∀ (ds : List PyData) (xs : List V) (us : List Value), RpA X.K H ds xs → Vals xs us → ∃ as, ReadsAll s.heap us ds as
  | [], xs, us, h, r => by
    unfold RpA at h; subst h; cases r; exact ⟨_, .nil⟩
  | d :: ds, xs, us, h, r => by
    unfold RpA at h
    obtain ⟨x, q, h1, h2, h3⟩ := h
    subst h1
    cases r with
    | cons r1 r2 =>
      obtain ⟨as, ra⟩ := Rp.reads I d x _ h2 r1
      obtain ⟨bs, rb⟩ := RpA.reads I ds q _ h3 r2
      exact ⟨_, .cons ra rb⟩
end
end
def mEqD (K : PySem.W.Frag) (neg : Bool) : R2 := fun x y H Q => ∃ d e, Rp K H d x ∧ Rp K H e y ∧ d.canLay0 = true ∧ e.canLay0 = true ∧ min d.depth e.depth ≤ 60 ∧ Q (.bl (if neg then !PyData.eqv d e else PyData.eqv d e)) H
section
variable {X : Cx}
theorem om_eqD (hu : X.A.units + 64 < cLine) : OpR X (compareOp .Eq) (mEqD X.K false) := by
  intro pins s σ H x y v u Q I rx ry h
  obtain ⟨d, e, h1, h2, h3, h4, h5, q⟩ := h
  obtain ⟨as, ra⟩ := Rp.reads I d x v h1 rx
  obtain ⟨bs, rb⟩ := Rp.reads I e y u h2 ry
  exact SeqAt.compareEq_reads ra rb h3 h4 (by omega) ⟨.bl _, H, I, rfl, q⟩
theorem om_neD (hu : X.A.units + 64 < cLine) : OpR X (compareOp .NotEq) (mEqD X.K true) := by
  intro pins s σ H x y v u Q I rx ry h
  obtain ⟨d, e, h1, h2, h3, h4, h5, q⟩ := h
  obtain ⟨as, ra⟩ := Rp.reads I d x v h1 rx
  obtain ⟨bs, rb⟩ := Rp.reads I e y u h2 ry
  exact SeqAt.compareNe_reads ra rb h3 h4 (by omega) ⟨.bl _, H, I, rfl, q⟩
end
section
variable {K : PySem.W.Frag}
end
end M2
namespace M3
open PySem PySem.Spec PyProof.Rows L2 M2
section
variable {prog : Program} {w : World} {A : Around} {R : Result → Shared → Prop} {s : Shared}
end
section
variable {X : Cx} {elt tg iter : Expr} {ifs : List Expr} {scope : Scope} {pos : Pos} {wi : TI} {g : TG} {tt : TT} {te : TE}
end
def Its (z : Str) : It := ⟨fun i _ => i < z.cps.size, fun i H x H' => H' = H ∧ ∃ c, z.cps.toList[i]? = some c ∧ x = .str ⟨#[c]⟩, fun i _ => i = z.cps.size⟩
theorem turn_strW {P : Program} {w : World} {K : PySem.W.Frag} {tg : Expr} (it : Addr) (z : Str) (t : Tok) (ty : String)
    (hW : ∀ A : Around, A.handled = none → Walks P w A it [it] [it] z.cps.size (SignAt z) (fun i h => h.IsStrIter it ty z t i))
    (hS : ∀ (A : Around) (i : Nat) (s : Shared) (Q : Value → Shared → Prop) (E : Value → Shared → Prop), s.heap.IsStrIter it ty z t i → Q (.ref it) s → wpAny (model P w) A (pyIter (.ref it)) Q E s)
    (hty : ["enumerate", "zip", "dict_itemiterator", "dict_reverseitemiterator", "odict_iterator", "itertools.zip_longest", "itertools.pairwise"].contains ty = false) : Turn P w K tg (Its z) [it] it (fun i h => h.IsStrIter it ty z t i) where
  mem := by simp
  obj := fun i h st b hb => by
    have e : b = it := by simpa using hb
    subst e
    obtain ⟨o, e, c, d⟩ := st
    exact ⟨o, e, fun v z => by rw [d] at z; cases z⟩
  keep := fun i h h' st k => by
    obtain ⟨o, e, c, d⟩ := st
    exact ⟨o, k it (by simp) o e, c, d⟩
  item := by
    intro X hP hw hK hc i pins s σ H E I hf st hg
    subst hP hw hK
    obtain ⟨f0, f1, f2, f3, f4, f5⟩ := hf it (by simp)
    refine (hW X.A (I.ok.hd hc)).item i s _ _ hg st fun v h' tk hv st' kk => ?_
    obtain ⟨c, u, hcu, rfl⟩ := hv
    have I1 : Inv X pins σ H { s with heap := h', toks := tk } := I.turned (fun b o hb e => kk b o (by simpa using hb) e) f0 f1 f3 f4 f5
    obtain ⟨o, e, cl, d⟩ := id st'
    exact ⟨_, rfl, go_of (s := { s with heap := h', toks := tk }) e cl d hty ⟨.str ⟨#[c]⟩, H, I1, ⟨u, rfl⟩, ⟨rfl, c, by simpa using hcu, rfl⟩, st', fun b hb => (hf b hb).1⟩⟩
  done := by
    intro X hP hw hK hc i pins s σ H E I hf st hg
    subst hP hw hK
    obtain ⟨f0, f1, f2, f3, f4, f5⟩ := hf it (by simp)
    have e : i = z.cps.size := hg
    subst e
    exact (hW X.A (I.ok.hd hc)).done s _ _ st fun h' tk kk => ⟨rfl, I.turned (fun b o hb e => kk b o (by simpa using hb) e) f0 f1 f3 f4 f5⟩
  self := hS
section
variable {X : Cx} {tg : Expr}
end
end M3
namespace M4
open PySem PySem.Spec PyProof.Rows L2 M2 M3
section
variable {X : Cx}
end
abbrev S (l : List Nat) : Str := ⟨l.toArray⟩
theorem S_of (z : Str) : S z.cps.toList = z := by
  cases z
  simp
theorem S_len (l : List Nat) : (S l).length = l.length := by simp [Str.length]
theorem len_S (z : Str) : z.cps.toList.length = z.length := by simp [Str.length]
def cutL (xs : List Nat) (lo hi : Option Int) : List Nat := (xs.drop (HT.sIx xs.length 0 lo)).take (HT.sIx xs.length xs.length hi - HT.sIx xs.length 0 lo)
theorem idx_eq (z : Str) (lo hi : Option Int) : Builtin.Str.strSliceIndices lo hi 1 z.length = (List.range (HT.sIx z.length z.length hi - HT.sIx z.length 0 lo)).map (HT.sIx z.length 0 lo + ·) := by
  have hc : ∀ (o : Option Int) (d : Nat), d ≤ z.length → (match o with | none => ((d : Nat) : Int) | some i => max 0 (min (if i < 0 then i + (z.length : Int) else i) (z.length : Int))) = ((HT.sIx z.length d o : Nat) : Int) := by
    intro o d hd
    cases o with
    | none => rfl
    | some i =>
      show max 0 (min (if i < 0 then i + (z.length : Int) else i) (z.length : Int)) = ((if i < 0 then (i + (z.length : Int)).toNat else min i.toNat z.length : Nat) : Int)
      by_cases h : i < 0
      · rw [if_pos h, if_pos h]; omega
      · rw [if_neg h, if_neg h]; omega
  have e : Builtin.Str.strSliceIndices lo hi 1 z.length = sliceRange ((HT.sIx z.length 0 lo : Nat) : Int) ((HT.sIx z.length z.length hi : Nat) : Int) 1 := by
    have h1 := hc lo 0 (Nat.zero_le _)
    have h2 := hc hi z.length (Nat.le_refl _)
    unfold Builtin.Str.strSliceIndices
    simp only [show (1 : Int) > 0 by decide, if_true]
    rw [← h1, ← h2]
    cases lo <;> cases hi <;> rfl
  rw [e, sliceRange_one]
theorem idx_cut (z : Str) (lo hi : Option Int) : (Builtin.Str.strSliceIndices lo hi 1 z.length).filterMap (z.cps[·]?) = cutL z.cps.toList lo hi := by
  rw [idx_eq, pick_run]
  unfold cutL
  rw [len_S]
theorem cutL_le (xs : List Nat) (lo hi : Option Int) : (cutL xs lo hi).length ≤ xs.length := by
  unfold cutL
  rw [List.length_take, List.length_drop]
  omega
theorem made_cut {z : Str} {t : Tok} {l u : Option (Int × Tok)} {Q : Value → Shared → Prop} {s : Shared} (hz : z.length ≤ sizeLine)
    (h : ∀ t' k, Q (.str (S (cutL z.cps.toList (l.map (·.1)) (u.map (·.1)))) t') { s with toks := k }) : (sliceMade z t l u none).post Q s := by
  have e := idx_cut z (l.map (·.1)) (u.map (·.1))
  unfold sliceMade
  have ep : slicePicked z l u none = Builtin.Str.strSliceIndices (l.map (·.1)) (u.map (·.1)) 1 z.length := rfl
  rw [ep]
  split
  · rename_i hc
    have hl : (Builtin.Str.strSliceIndices (l.map (·.1)) (u.map (·.1)) 1 z.length).length = z.length := by simpa using hc
    have hz2 : cutL z.cps.toList (l.map (·.1)) (u.map (·.1)) = z.cps.toList := by
      rw [idx_eq, List.length_map, List.length_range] at hl
      have hi := HT.sIx_le z.length 0 (Nat.zero_le _) (l.map (·.1))
      have hj := HT.sIx_le z.length z.length (Nat.le_refl _) (u.map (·.1))
      unfold cutL
      rw [len_S]
      have hl2 := len_S z
      have a0 : HT.sIx z.length 0 (l.map (·.1)) = 0 ∨ z.length = 0 := by omega
      rcases a0 with a0 | a0
      · rw [a0] at hl ⊢
        rw [List.drop_zero]
        exact List.take_of_length_le (by omega)
      · have : z.cps.toList = [] := List.eq_nil_of_length_eq_zero (by omega)
        rw [this]
        simp
    have := h t s.toks
    rw [hz2, S_of] at this
    exact this
  · rw [e]
    exact ⟨by rw [S_len]; have := cutL_le z.cps.toList (l.map (·.1)) (u.map (·.1)); rw [len_S] at this; omega, h _ _⟩
section
variable {X : Cx}
def mSlS : V → Option Int → Option Int → Hp → VK → Prop := fun x lo hi H Q => match x with
  | .str z => z.length ≤ sizeLine ∧ Q (.str (S (cutL z.cps.toList lo hi))) H
  | _ => False
theorem slm_str : SlR X mSlS := by
  intro pins s σ H x v vl vu lo hi sl Q I rx hs pl pu h
  cases x with
  | str z =>
    obtain ⟨t, rfl⟩ := rx
    obtain ⟨hz, q⟩ := h
    obtain ⟨l, el, el2⟩ : ∃ l : Option (Int × Tok), partValue l = vl ∧ l.map (·.1) = lo := by
      cases pl with
      | none => exact ⟨none, rfl, rfl⟩
      | int i t => exact ⟨some (i, t), rfl, rfl⟩
    obtain ⟨u, eu, eu2⟩ : ∃ u : Option (Int × Tok), partValue u = vu ∧ u.map (·.1) = hi := by
      cases pu with
      | none => exact ⟨none, rfl, rfl⟩
      | int i t => exact ⟨some (i, t), rfl, rfl⟩
    subst el el2 eu eu2
    exact ⟨"str", _, F.slot_str_getitem.lookup, typeIs_str s z t, wpAny_getItem_str_slice (l := l) (u := u) (st := none) hs rfl (made_cut hz fun t' k => ⟨.str _, H, I.tok _, ⟨_, rfl⟩, q⟩)⟩
  | _ => exact h.elim
def mSlA (K : PySem.W.Frag) : V → Option Int → Option Int → Hp → VK → Prop := fun x lo hi H Q => match x with
  | .ref a => ∃ xs, SqL K H a xs ∧ ∀ p, H p = none → Q (.ref p) (upd H p (.lst (cutV xs lo hi)))
  | .str z => z.length ≤ sizeLine ∧ Q (.str (S (cutL z.cps.toList lo hi))) H
  | _ => False
theorem slm : SlR X (mSlA X.K) := SlR.wk (slm_list.or slm_str) fun x lo hi H Q h => by
  cases x with
  | ref a => exact .inl h
  | str z => exact .inr h
  | _ => exact h.elim
theorem mul_eq (z : Str) {n : Int} (h : 0 ≤ n) : Txt.mul z n = S (List.replicate n.toNat z.cps.toList).flatten := by
  have key : ∀ (k : Nat) (acc : Array Nat), ((List.replicate k z.cps).foldl (· ++ ·) acc).toList = acc.toList ++ (List.replicate k z.cps.toList).flatten := by
    intro k
    induction k with
    | zero => intro acc; simp
    | succ k ih =>
      intro acc
      rw [List.replicate_succ, List.foldl_cons, ih, List.replicate_succ, List.flatten_cons]
      simp
  unfold Txt.mul
  refine PyProof.Rows.ext_toList ?_
  by_cases h1 : n < 1
  · rw [if_pos h1]
    have : n.toNat = 0 := by omega
    rw [this]
    simp [Str.empty]
  · rw [if_neg h1]
    split
    · rename_i hc
      rw [Bool.or_eq_true] at hc
      rcases hc with hc | hc
      · have : n = 1 := by simpa using hc
        subst this
        simp
      · have h0 : z.cps.toList = [] := List.eq_nil_of_length_eq_zero (by rw [len_S]; simpa using hc)
        rw [h0]
        simp
    · rw [key]
      simp
def CMulS (z : Str) (n : Int) : Prop := 0 ≤ n ∧ n ≤ 1000 ∧ z.length ≤ 1000
theorem CMulS.ok {z : Str} {n : Int} (h : CMulS z n) : MulOk z n := by
  obtain ⟨h0, h1, h2⟩ := h
  refine ⟨?_, fun hn _ => ?_, fun hn _ => ?_⟩
  · rw [decide_eq_false (by omega), decide_eq_false (by omega)]
    rfl
  · have : (9000000000000000 : Int) ≤ (2 ^ 63 - 1) / n := by
      rw [Int.le_ediv_iff_mul_le (by omega)]
      omega
    omega
  · have : z.length * n.toNat ≤ 1000 * 1000 := Nat.mul_le_mul h2 (by omega)
    unfold Builtin.Str.tooLong
    simp
    rw [sizeLine_eq]
    omega
def mMulS : R2 := fun x y H Q => match x, y with
  | .int i, .int j => CMulB i j ∧ Q (.int (i * j)) H
  | .str z, .int n => CMulS z n ∧ Q (.str (S (List.replicate n.toNat z.cps.toList).flatten)) H
  | _, _ => False
theorem om_mulS : OpR X (binaryOp .Mult) mMulS := by
  intro pins s σ H x y v u Q I rx ry h
  unfold mMulS at h
  split at h
  · exact om_mul pins s σ H _ _ v u Q I rx ry h
  · obtain ⟨t, rfl⟩ := rx
    obtain ⟨t', rfl⟩ := ry
    exact SB.mul h.1.ok fun t' k => ⟨.str _, H, I.tok _, ⟨_, by rw [mul_eq _ h.1.1]⟩, h.2⟩
  · exact h.elim
end
end M4
namespace P
open PySem PySem.Spec PyProof.Rows L2 M2
structure KK where
  K : PySem.W.Frag
  cm : String → Addr
abbrev kk (X : Cx) (cm : String → Addr) : KK := ⟨X.K, cm⟩
inductive PV where
  | non | bl (b : Bool) | int (i : Int) | str (x : Str) | tup (xs : List PV) | lst (xs : List PV)
  | ins (C : String) (ns : List Str) (xs : List PV) | xc (C : String) (ns : List Str) (xs : List PV) | ty (n : String) | cls (C : String)
def xo (a C : Addr) (d : Option Addr) : HO := .ext fun h => ∃ o vs, h.get? a = some o ∧ o.cls = .ref C ∧ o.dict = d ∧ o.data = .fields vs
def XDict (F : Hp) (d : Option Addr) (fs : List (Str × V)) : Prop := (d = none ∧ fs = []) ∨ ∃ a, d = some a ∧ F a = some (.xd fs)
mutual
def Rep (K : KK) (F : Hp) : PV → V → Prop
  | .non, v => v = .non
  | .bl b, v => v = .bl b
  | .int i, v => v = .int i
  | .str x, v => v = .str x
  | .tup ps, v => ∃ a xs, v = .ref a ∧ SqT K.K F a xs ∧ RepL K F ps xs
  | .lst ps, v => ∃ a xs, v = .ref a ∧ SqL K.K F a xs ∧ RepL K F ps xs
  | .ins C ns ps, v => ∃ a dx fs, v = .ref a ∧ F a = some (.ins (K.cm C) dx fs) ∧ fs.map (·.1) = ns ∧ RepL K F ps (fs.map (·.2))
  | .xc C ns ps, v => ∃ a d fs, v = .ref a ∧ F a = some (xo a (K.cm C) d) ∧ XDict F d fs ∧ fs.map (·.1) = ns ∧ RepL K F ps (fs.map (·.2))
  | .ty n, v => v = .ty n
  | .cls C, v => v = .ref (K.cm C)
def RepL (K : KK) (F : Hp) : List PV → List V → Prop
  | [], xs => xs = []
  | p :: ps, xs => ∃ x r, xs = x :: r ∧ Rep K F p x ∧ RepL K F ps r
end
section
variable {K : KK} {F F' H H' : Hp}
theorem XDict.same {d : Option Addr} {fs : List (Str × V)} (e : Same F F') (h : XDict F d fs) : XDict F' d fs := by
  rcases h with h | ⟨a, h1, h2⟩
  · exact .inl h
  · exact .inr ⟨a, h1, e _ _ h2⟩
mutual
theorem Rep.same (e : Same F F') : ∀ (p : PV) (v : V), Rep K F p v → Rep K F' p v
  | .non, _, h => by unfold Rep at h ⊢; exact h
  | .bl _, _, h => by unfold Rep at h ⊢; exact h
  | .int _, _, h => by unfold Rep at h ⊢; exact h
  | .str _, _, h => by unfold Rep at h ⊢; exact h
  | .ty _, _, h => by unfold Rep at h ⊢; exact h
  | .cls _, _, h => by unfold Rep at h ⊢; exact h
  | .tup ps, _, h => by
    unfold Rep at h ⊢
    obtain ⟨a, xs, h1, h2, h3⟩ := h
    exact ⟨a, xs, h1, Same.tup e h2, RepL.same e ps xs h3⟩
  | .lst ps, _, h => by
    unfold Rep at h ⊢
    obtain ⟨a, xs, h1, h2, h3⟩ := h
    exact ⟨a, xs, h1, e.seq h2, RepL.same e ps xs h3⟩
  | .ins C ns ps, _, h => by
    unfold Rep at h ⊢
    obtain ⟨a, dx, fs, h1, h2, h3, h4⟩ := h
    exact ⟨a, dx, fs, h1, e _ _ h2, h3, RepL.same e ps _ h4⟩
  | .xc C ns ps, _, h => by
    unfold Rep at h ⊢
    obtain ⟨a, d, fs, h1, h2, hd, h3, h4⟩ := h
    exact ⟨a, d, fs, h1, e _ _ h2, hd.same e, h3, RepL.same e ps _ h4⟩
theorem RepL.same (e : Same F F') : ∀ (ps : List PV) (xs : List V), RepL K F ps xs → RepL K F' ps xs
  | [], _, h => by unfold RepL at h ⊢; exact h
  | p :: ps, _, h => by
    unfold RepL at h ⊢
    obtain ⟨x, r, h1, h2, h3⟩ := h
    exact ⟨x, r, h1, Rep.same e p x h2, RepL.same e ps r h3⟩
end
theorem RepL.pr : ∀ {ps : List PV} {vs : List V}, RepL K F ps vs → Paired (Rep K F) ps vs
  | [], _, h => by unfold RepL at h; subst h; exact .nil
  | p :: ps, _, h => by
    unfold RepL at h
    obtain ⟨x, r, rfl, h2, h3⟩ := h
    exact .cons h2 (RepL.pr h3)
theorem RepL.of : ∀ {ps : List PV} {vs : List V}, Paired (Rep K F) ps vs → RepL K F ps vs
  | [], _, .nil => by unfold RepL; rfl
  | p :: ps, _, .cons h t => by unfold RepL; exact ⟨_, _, rfl, h, RepL.of t⟩
theorem RepL.nil : RepL K F [] [] := RepL.of .nil
theorem RepL.cons {p : PV} {v : V} {ps : List PV} {vs : List V} (h : Rep K F p v) (t : RepL K F ps vs) : RepL K F (p :: ps) (v :: vs) := RepL.of (.cons h t.pr)
theorem RepL.length {ps : List PV} {vs : List V} (h : RepL K F ps vs) : ps.length = vs.length := Paired.length h.pr
theorem pr_get {α β : Type} {G : α → β → Prop} : ∀ {l : List α} {m : List β} {i : Nat} {x : α}, Paired G l m → l[i]? = some x → ∃ y, m[i]? = some y ∧ G x y
  | _, _, _, _, .nil, e => by simp at e
  | _, _, 0, _, .cons r _, e => by simp at e; subst e; exact ⟨_, rfl, r⟩
  | _, _, i + 1, x, .cons _ t, e => by
    obtain ⟨y, h1, h2⟩ := pr_get (i := i) (x := x) t (by simpa using e)
    exact ⟨y, by simpa using h1, h2⟩
theorem pr_app {α β : Type} {G : α → β → Prop} : ∀ {l l2 : List α} {m m2 : List β}, Paired G l m → Paired G l2 m2 → Paired G (l ++ l2) (m ++ m2)
  | _, _, _, _, .nil, t => t
  | _, _, _, _, .cons r s, t => .cons r (pr_app s t)
theorem pr_take {α β : Type} {G : α → β → Prop} : ∀ {l : List α} {m : List β} (n : Nat), Paired G l m → Paired G (l.take n) (m.take n)
  | _, _, 0, _ => .nil
  | _, _, _ + 1, .nil => .nil
  | _, _, n + 1, .cons r t => .cons r (pr_take n t)
theorem pr_drop {α β : Type} {G : α → β → Prop} : ∀ {l : List α} {m : List β} (n : Nat), Paired G l m → Paired G (l.drop n) (m.drop n)
  | _, _, 0, h => h
  | _, _, _ + 1, .nil => .nil
  | _, _, n + 1, .cons _ t => pr_drop n t
theorem RepL.append {ps qs : List PV} {vs us : List V} (h : RepL K F ps vs) (t : RepL K F qs us) : RepL K F (ps ++ qs) (vs ++ us) := RepL.of (pr_app h.pr t.pr)
end
inductive Slot where
  | no | sh (p : PV) | ow (ps : List PV) | bw (ps : List PV) | rc (C : String) (ns : List Str) (ps : List PV)
abbrev PSt := List Slot
def Slot.own : Slot → Bool
  | .ow _ => true
  | .rc _ _ _ => true
  | _ => false
structure Ctx where
  B : Hp
  F₀ : Hp
  /-- what is lent here: read, never changed, never kept -/
  L : Hp
  /-- which objects may be held as one's own: address, dict, class -/
  S : Addr → Addr → String → Prop
def SlotOk (K : KK) (c : Ctx) (F H : Hp) (o : Option V) : Slot → Prop
  | .no => True
  | .sh p => ∃ v, o = some v ∧ Rep K F p v
  | .ow ps => ∃ a vs, o = some (.ref a) ∧ H a = some (.lst vs) ∧ F a = none ∧ c.B a = none ∧ RepL K F ps vs
  | .bw ps => ∃ a vs, o = some (.ref a) ∧ c.L a = some (.lst vs) ∧ RepL K F ps vs
  | .rc C ns ps => ∃ a dx fs, o = some (.ref a) ∧ H a = some (.ins (K.cm C) dx fs) ∧ F a = none ∧ c.B a = none ∧ fs.map (·.1) = ns ∧ RepL K F ps (fs.map (·.2)) ∧ c.S a dx C
def OwnsAt (σ : L2.St) (ρ : PSt) (i : Nat) (a : Addr) : Prop := (∃ s, ρ[i]? = some s ∧ s.own = true) ∧ σ[i]? = some (some (.ref a))
structure Rel (K : KK) (c : Ctx) (F H : Hp) (σ : L2.St) (ρ : PSt) : Prop where
  sub : Same F H
  base : Same c.B H
  f0 : Same c.F₀ F
  frz : ∀ a, c.B a ≠ none → c.F₀ a = none → F a = none
  lent : ∀ a u, c.L a = some u → H a = some u ∧ F a = none
  lb : ∀ a, c.B a = none → c.L a = none
  len : σ.length = ρ.length
  slot : ∀ (i : Nat) s, ρ[i]? = some s → SlotOk K c F H ((σ[i]?).getD none) s
  sep : ∀ i j a, OwnsAt σ ρ i a → OwnsAt σ ρ j a → i = j
def Fresh (σ : L2.St) (ρ : PSt) (a : Addr) : Prop := ∀ i, ¬ OwnsAt σ ρ i a
section
variable {K : KK} {c : Ctx} {F F' H H' : Hp} {σ : L2.St} {ρ : PSt} {a : Addr} {o : HO}
theorem SlotOk.grow {s : Slot} {x : Option V} (h : SlotOk K c F H x s) (eF : Same F F') (eH : ∀ b vs, x = some (.ref b) → H b = some vs → F b = none → c.B b = none → H' b = some vs ∧ F' b = none) : SlotOk K c F' H' x s := by
  cases s with
  | no => trivial
  | sh p => obtain ⟨v, h1, h2⟩ := h; exact ⟨v, h1, h2.same eF p v⟩
  | ow ps =>
    obtain ⟨b, vs, h1, h2, h3, h4, h5⟩ := h
    obtain ⟨e1, e2⟩ := eH b _ h1 h2 h3 h4
    exact ⟨b, vs, h1, e1, e2, h4, h5.same eF ps vs⟩
  | bw ps => obtain ⟨b, vs, h1, h2, h3⟩ := h; exact ⟨b, vs, h1, h2, h3.same eF ps vs⟩
  | rc C ns ps =>
    obtain ⟨b, dx, fs, h1, h2, h3, h4, h5, h6⟩ := h
    obtain ⟨e1, e2⟩ := eH b _ h1 h2 h3 h4
    exact ⟨b, dx, fs, h1, e1, e2, h4, h5, h6.1.same eF ps _, h6.2⟩
theorem SlotOk.owned {s : Slot} {x : Option V} (h : SlotOk K c F H x s) (hs : s.own = true) : ∃ b u, x = some (.ref b) ∧ H b = some u ∧ F b = none ∧ c.B b = none := by
  cases s with
  | no => cases hs
  | sh p => cases hs
  | bw ps => cases hs
  | ow ps => obtain ⟨b, vs, h1, h2, h3, h4, h5⟩ := h; exact ⟨b, _, h1, h2, h3, h4⟩
  | rc C ns ps => obtain ⟨b, dx, fs, h1, h2, h3, h4, h5, h6⟩ := h; exact ⟨b, _, h1, h2, h3, h4⟩
theorem Rel.owned (r : Rel K c F H σ ρ) {i : Nat} (h : OwnsAt σ ρ i a) : (∃ u, H a = some u) ∧ F a = none ∧ c.B a = none := by
  obtain ⟨⟨s, h1, h2⟩, h3⟩ := h
  obtain ⟨b, u, e, q⟩ := (r.slot i s h1).owned h2
  rw [h3] at e
  cases e
  exact ⟨⟨u, q.1⟩, q.2⟩
theorem Rel.fresh (r : Rel K c F H σ ρ) (h : H a = none) : Fresh σ ρ a := fun i q => by
  obtain ⟨⟨u, e⟩, _⟩ := r.owned q
  rw [h] at e; cases e
theorem Rel.alloc (r : Rel K c F H σ ρ) (h : H a = none) : Rel K c (upd F a o) (upd H a o) σ ρ where
  sub := fun b u e => by
    by_cases hb : b = a
    · subst hb; rw [upd_same] at e ⊢; exact e
    · rw [upd_ne hb] at e ⊢; exact r.sub b u e
  base := fun b u e => by
    have hb : b ≠ a := fun z => by rw [z] at e; rw [r.base _ _ e] at h; cases h
    rw [upd_ne hb]; exact r.base b u e
  f0 := fun b u e => by
    have hb : b ≠ a := fun z => by rw [z] at e; rw [r.sub _ _ (r.f0 _ _ e)] at h; cases h
    rw [upd_ne hb]; exact r.f0 b u e
  frz := fun b h1 h2 => by
    have hb : b ≠ a := fun z => by
      subst z
      cases q : c.B b with
      | none => exact h1 q
      | some u => rw [r.base _ _ q] at h; cases h
    rw [upd_ne hb]; exact r.frz b h1 h2
  lent := fun b u e => by
    obtain ⟨h1, h2⟩ := r.lent b u e
    have hb : b ≠ a := fun z => by rw [z, h] at h1; cases h1
    rw [upd_ne hb, upd_ne hb]; exact ⟨h1, h2⟩
  lb := r.lb
  len := r.len
  slot := fun i s e => by
    have hF : F a = none := r.sub.free h
    refine (r.slot i s e).grow (Same.upd hF) fun b u _ h1 h2 h3 => ?_
    have hb : b ≠ a := fun z => by rw [z, h] at h1; cases h1
    rw [upd_ne hb, upd_ne hb]; exact ⟨h1, h2⟩
  sep := r.sep
theorem Rel.made (r : Rel K c F H σ ρ) (h : H a = none) : Rel K c F (upd H a o) σ ρ where
  sub := r.sub.trans (Same.upd h)
  base := r.base.trans (Same.upd h)
  f0 := r.f0
  frz := r.frz
  lent := fun b u e => ⟨Same.upd h b u (r.lent b u e).1, (r.lent b u e).2⟩
  lb := r.lb
  len := r.len
  slot := fun i s e => (r.slot i s e).grow (Same.refl F) fun b u _ h1 h2 h3 => ⟨Same.upd h b u h1, h2⟩
  sep := r.sep
theorem Rel.freeze (r : Rel K c F H σ ρ) (h : H a = some o) (hB : c.B a = none) (hF : F a = none) (hf : Fresh σ ρ a) : Rel K c (upd F a o) H σ ρ where
  sub := fun b u e => by
    by_cases hb : b = a
    · subst hb; rw [upd_same] at e; rw [h]; exact e
    · rw [upd_ne hb] at e; exact r.sub b u e
  base := r.base
  f0 := r.f0.trans (Same.upd hF)
  frz := fun b h1 h2 => by
    have hb : b ≠ a := fun z => h1 (by rw [z]; exact hB)
    rw [upd_ne hb]; exact r.frz b h1 h2
  lent := fun b u e => by
    have hb : b ≠ a := fun z => by rw [z, r.lb a hB] at e; cases e
    rw [upd_ne hb]; exact r.lent b u e
  lb := r.lb
  len := r.len
  slot := fun i s e => by
    by_cases ho : s.own = true
    · have q := r.slot i s e
      obtain ⟨b, u, e1, e2, e3, e4⟩ := q.owned ho
      refine q.grow (Same.upd hF) fun b' u' e1' h1 h2 h3 => ?_
      rw [e1] at e1'; cases e1'
      have hb : b ≠ a := fun z => by
        subst z
        refine hf i ⟨⟨s, e, ho⟩, ?_⟩
        cases q2 : σ[i]? with
        | none => rw [q2] at e1; cases e1
        | some x => rw [q2] at e1; exact congrArg some e1
      rw [upd_ne hb]; exact ⟨h1, h2⟩
    · cases s with
      | no => trivial
      | sh p => obtain ⟨v, h1, h2⟩ := r.slot i _ e; exact ⟨v, h1, h2.same (Same.upd hF) p v⟩
      | ow ps => exact absurd rfl ho
      | bw ps => obtain ⟨b, vs, h1, h2, h3⟩ := r.slot i _ e; exact ⟨b, vs, h1, h2, h3.same (Same.upd hF) ps vs⟩
      | rc C ns ps => exact absurd rfl ho
  sep := r.sep
theorem set_get {α : Type} {l : List α} {i j : Nat} {x y : α} (h : (l.set i x)[j]? = some y) : (j = i ∧ y = x ∧ i < l.length) ∨ (j ≠ i ∧ l[j]? = some y) := by
  by_cases hj : j = i
  · subst hj
    have hl : j < l.length := by
      have := (List.getElem?_eq_some_iff.mp h).1
      simpa using this
    rw [List.getElem?_set_self hl] at h
    exact .inl ⟨rfl, (Option.some.inj h).symm, hl⟩
  · rw [List.getElem?_set_ne (Ne.symm hj)] at h
    exact .inr ⟨hj, h⟩
theorem set_at {l : L2.St} {i : Nat} {x : Option V} (h : i < l.length) : ((l.set i x)[i]?).getD none = x := by rw [List.getElem?_set_self h]; rfl
theorem set_off {l : L2.St} {i j : Nat} {x : Option V} (h : j ≠ i) : ((l.set i x)[j]?).getD none = (l[j]?).getD none := by rw [List.getElem?_set_ne (Ne.symm h)]
theorem OwnsAt.off {i j : Nat} {x : Option V} {s : Slot} (h : OwnsAt (σ.set i x) (ρ.set i s) j a) (hj : j ≠ i) : OwnsAt σ ρ j a := by
  obtain ⟨⟨s', h1, h2⟩, h3⟩ := h
  rw [List.getElem?_set_ne (Ne.symm hj)] at h1 h3
  exact ⟨⟨s', h1, h2⟩, h3⟩
theorem Rel.put (r : Rel K c F H σ ρ) {i : Nat} {x : Option V} {s : Slot} (hs : s.own = false) (h : SlotOk K c F H x s) : Rel K c F H (σ.set i x) (ρ.set i s) where
  sub := r.sub
  base := r.base
  f0 := r.f0
  frz := r.frz
  lent := r.lent
  lb := r.lb
  len := by simpa using r.len
  slot := fun j s' e => by
    rcases set_get e with ⟨rfl, rfl, hl⟩ | ⟨hj, e⟩
    · rw [set_at (by rw [r.len]; exact hl)]; exact h
    · rw [set_off hj]; exact r.slot j s' e
  sep := fun j k b h1 h2 => by
    have off : ∀ {j}, OwnsAt (σ.set i x) (ρ.set i s) j b → j ≠ i := fun {j} q z => by
      subst z
      obtain ⟨⟨s', q1, q2⟩, _⟩ := q
      rcases set_get q1 with ⟨_, rfl, _⟩ | ⟨q, _⟩
      · rw [hs] at q2; cases q2
      · exact q rfl
    exact r.sep j k b (h1.off (off h1)) (h2.off (off h2))
theorem Rel.slotS (r : Rel K c F H σ ρ) {i : Nat} {s : Slot} (hs : s.own = false) (h : SlotOk K c F H ((σ[i]?).getD none) s) : Rel K c F H σ (ρ.set i s) where
  sub := r.sub
  base := r.base
  f0 := r.f0
  frz := r.frz
  lent := r.lent
  lb := r.lb
  len := by simpa using r.len
  slot := fun j s' e => by
    rcases set_get e with ⟨rfl, rfl, hl⟩ | ⟨hj, e⟩
    · exact h
    · exact r.slot j s' e
  sep := fun j k b h1 h2 => by
    have off : ∀ {j}, OwnsAt σ (ρ.set i s) j b → OwnsAt σ ρ j b := fun {j} ⟨⟨s', q1, q2⟩, q3⟩ => by
      rcases set_get q1 with ⟨_, rfl, _⟩ | ⟨_, q⟩
      · rw [hs] at q2; cases q2
      · exact ⟨⟨s', q, q2⟩, q3⟩
    exact r.sep j k b (off h1) (off h2)
theorem Rel.putO (r : Rel K c F H σ ρ) {i : Nat} {s : Slot} (h : SlotOk K c F H (some (.ref a)) s) (hf : Fresh σ ρ a) : Rel K c F H (σ.set i (some (.ref a))) (ρ.set i s) where
  sub := r.sub
  base := r.base
  f0 := r.f0
  frz := r.frz
  lent := r.lent
  lb := r.lb
  len := by simpa using r.len
  slot := fun j s' e => by
    rcases set_get e with ⟨rfl, rfl, hl⟩ | ⟨hj, e⟩
    · rw [set_at (by rw [r.len]; exact hl)]; exact h
    · rw [set_off hj]; exact r.slot j s' e
  sep := fun j k b h1 h2 => by
    have at_ : ∀ {j}, OwnsAt (σ.set i (some (.ref a))) (ρ.set i s) j b → (j = i ∧ b = a) ∨ (j ≠ i ∧ OwnsAt σ ρ j b ∧ b ≠ a) := fun {j} q => by
      by_cases hj : j = i
      · subst hj
        obtain ⟨_, q3⟩ := q
        rcases set_get q3 with ⟨_, e, _⟩ | ⟨z, _⟩
        · cases e; exact .inl ⟨rfl, rfl⟩
        · exact absurd rfl z
      · exact .inr ⟨hj, q.off hj, fun z => hf j (z ▸ q.off hj)⟩
    rcases at_ h1 with ⟨e1, z1⟩ | ⟨e1, o1, z1⟩
    · rcases at_ h2 with ⟨e2, z2⟩ | ⟨e2, o2, z2⟩
      · rw [e1, e2]
      · exact absurd z1 z2
    · rcases at_ h2 with ⟨e2, z2⟩ | ⟨e2, o2, z2⟩
      · exact absurd z2 z1
      · exact r.sep j k b o1 o2
structure Gr (F H F' H' : Hp) : Prop where
  h : Same H H'
  f : Same F F'
  sub : Same F' H'
  out : ∀ a, H a ≠ none → F a = none → F' a = none
theorem Rel.call (r : Rel K c F H σ ρ) (g : Gr F H F' H') : Rel K c F' H' σ ρ where
  sub := g.sub
  base := r.base.trans g.h
  f0 := r.f0.trans g.f
  frz := fun b h1 h2 => by
    refine g.out b (fun z => h1 ?_) (r.frz b h1 h2)
    cases q : c.B b with
    | none => rfl
    | some u => rw [r.base _ _ q] at z; cases z
  lent := fun b u e => ⟨g.h b u (r.lent b u e).1, g.out b (by rw [(r.lent b u e).1]; intro z; cases z) (r.lent b u e).2⟩
  lb := r.lb
  len := r.len
  slot := fun i s e => (r.slot i s e).grow g.f fun b u _ h1 h2 h3 => ⟨g.h b u h1, g.out b (by rw [h1]; intro z; cases z) h2⟩
  sep := r.sep
def ctx0 (F H : Hp) : Ctx := ⟨H, F, fun a => match F a with
  | none => H a
  | some _ => none, fun _ _ _ => True⟩
theorem ctx0_L {a : Addr} {u : HO} (h : (ctx0 F H).L a = some u) : H a = some u ∧ F a = none := by
  unfold ctx0 at h
  dsimp only at h
  cases q : F a with
  | none => rw [q] at h; exact ⟨h, rfl⟩
  | some o => rw [q] at h; cases h
theorem Rel.gr (r : Rel K (ctx0 F H) F' H' σ ρ) : Gr F H F' H' := ⟨r.base, r.f0, r.sub, r.frz⟩
def argOk (K : KK) (F H : Hp) : Slot → V → Prop
  | .sh p, v => Rep K F p v
  | .bw ps, v => ∃ a vs, v = .ref a ∧ H a = some (.lst vs) ∧ F a = none ∧ RepL K F ps vs
  | _, _ => False
theorem argOk.slot {s : Slot} {v : V} (h : argOk K F H s v) : SlotOk K (ctx0 F H) F H (some v) s ∧ s.own = false := by
  cases s with
  | sh p => exact ⟨⟨v, rfl, h⟩, rfl⟩
  | bw ps =>
    obtain ⟨a, vs, rfl, h1, h2, h3⟩ := h
    refine ⟨⟨a, vs, rfl, ?_, h3⟩, rfl⟩
    show (match F a with | none => H a | some _ => none) = _
    rw [h2]
    exact h1
  | no => exact h.elim
  | ow ps => exact h.elim
  | rc C ns ps => exact h.elim
def startP (n : Nat) (as : List Slot) : PSt := as ++ List.replicate (n - as.length) .no
theorem Rel.start {N : List Str} {as : List Slot} {vs : List V} (s : Same F H) (h : Paired (argOk K F H) as vs) : Rel K (ctx0 F H) F H (L2.start N vs) (startP N.length as) where
  sub := s
  base := Same.refl H
  f0 := Same.refl F
  frz := fun _ _ h => h
  lent := fun _ _ e => ctx0_L e
  lb := fun a e => by
    cases q : (ctx0 F H).L a with
    | none => rfl
    | some u =>
      have e' : H a = none := e
      rw [(ctx0_L q).1] at e'
      cases e'
  len := by unfold L2.start startP; simp [Paired.length h]
  slot := fun i s' e => by
    unfold startP at e
    by_cases hi : i < as.length
    · rw [List.getElem?_append_left hi] at e
      obtain ⟨v, h1, h2⟩ := pr_get h e
      have hv : ((L2.start N vs)[i]?).getD none = some v := by
        unfold L2.start
        rw [List.getElem?_append_left (by simpa [← Paired.length h] using hi), List.getElem?_map, h1]; rfl
      rw [hv]
      exact (argOk.slot h2).1
    · rw [List.getElem?_append_right (by omega), List.getElem?_replicate] at e
      split at e
      · cases e; trivial
      · cases e
  sep := fun i j a h1 _ => by
    obtain ⟨⟨s', h1, h2⟩, _⟩ := h1
    exfalso
    unfold startP at h1
    by_cases hi : i < as.length
    · rw [List.getElem?_append_left hi] at h1
      obtain ⟨v, _, h3⟩ := pr_get h h1
      rw [(argOk.slot h3).2] at h2
      cases h2
    · rw [List.getElem?_append_right (by omega), List.getElem?_replicate] at h1
      split at h1
      · cases h1; cases h2
      · cases h1
end
structure PX where
  C : String
  ns : List Str
  ps : List PV
def RepX (K : KK) (F : Hp) (x : PX) (C : Value) (d : Option Addr) : Prop := C = .ref (K.cm x.C) ∧ ∃ fs, XDict F d fs ∧ fs.map (·.1) = x.ns ∧ RepL K F x.ps (fs.map (·.2))
inductive Res (α : Type) where
  | ok (a : α) (ρ : PSt) | exc (x : PX) (ρ : PSt) | bad
def Res.bind {α β : Type} (r : Res α) (f : α → PSt → Res β) : Res β := match r with
  | .ok a ρ => f a ρ
  | .exc x ρ => .exc x ρ
  | .bad => .bad
@[simp] theorem Res.bind_ok {α β : Type} {a : α} {ρ : PSt} {f : α → PSt → Res β} : (Res.ok a ρ).bind f = f a ρ := rfl
@[simp] theorem Res.bind_exc {α β : Type} {x : PX} {ρ : PSt} {f : α → PSt → Res β} : (Res.exc x ρ : Res α).bind f = .exc x ρ := rfl
@[simp] theorem Res.bind_bad {α β : Type} {f : α → PSt → Res β} : (Res.bad : Res α).bind f = .bad := rfl
def Res.ofO {α : Type} (o : Option α) (ρ : PSt) : Res α := match o with
  | some a => .ok a ρ
  | none => .bad
@[simp] theorem Res.ofO_some {α : Type} {a : α} {ρ : PSt} : Res.ofO (some a) ρ = .ok a ρ := rfl
@[simp] theorem Res.ofO_none {α : Type} {ρ : PSt} : Res.ofO (none : Option α) ρ = .bad := rfl
abbrev M (α : Type) := PSt → Res α
inductive RV where
  | sh (p : PV) | ow (ps : List PV)
def RV.val : RV → PV
  | .sh p => p
  | .ow ps => .lst ps
def RV.slot : RV → Slot
  | .sh p => .sh p
  | .ow ps => .ow ps
abbrev RR (α β : Type) := Ctx → L2.St → PSt → Hp → Hp → α → β → Prop
def rV (K : KK) : RR PV V := fun _ _ _ F _ p v => Rep K F p v
def OwnRd (K : KK) (F H : Hp) (p : PV) (v : V) : Prop := match p with
  | .lst ps => ∃ a vs, v = .ref a ∧ H a = some (.lst vs) ∧ RepL K F ps vs
  | .ins C ns ps => ∃ a dx fs, v = .ref a ∧ H a = some (.ins (K.cm C) dx fs) ∧ fs.map (·.1) = ns ∧ RepL K F ps (fs.map (·.2))
  | _ => False
def rR (K : KK) : RR PV V := fun _ _ _ F H p v => Rep K F p v ∨ OwnRd K F H p v
def rA (K : KK) : RR (List Slot) (List V) := fun _ _ _ F H as vs => Paired (argOk K F H) as vs
def Held (K : KK) (c : Ctx) (σ : L2.St) (ρ : PSt) (F H : Hp) (ps : List PV) (v : V) : Prop := ∃ a vs, v = .ref a ∧ H a = some (.lst vs) ∧ F a = none ∧ c.B a = none ∧ Fresh σ ρ a ∧ RepL K F ps vs
def rO (K : KK) : RR RV V := fun c σ ρ F H r v => match r with
  | .sh p => Rep K F p v
  | .ow ps => Held K c σ ρ F H ps v
def rL (K : KK) : RR (List PV) (List V) := fun _ _ _ F _ p v => RepL K F p v
def rRL (K : KK) : RR (List PV) (List V) := fun c σ ρ F H p v => Paired (rR K c σ ρ F H) p v
def rB : RR Bool Bool := fun _ _ _ _ _ p v => p = v
def rI : RR (Option Int) (Option Int) := fun _ _ _ _ _ p v => p = v
def EndG {α β : Type} (K : KK) (E : L2.St → XK) (R : RR α β) (c : Ctx) (F H : Hp) (σ : L2.St) (Q : β → Hp → Prop) : Res α → Prop
  | .ok p ρ' => ∀ v F' H', Rel K c F' H' σ ρ' → Same F F' → Same H H' → R c σ ρ' F' H' p v → Q v H'
  | .exc x ρ' => ∀ C d F' H', Rel K c F' H' σ ρ' → Same F F' → RepX K F' x C d → E σ C d H'
  | .bad => False
def tG {α β : Type} (K : KK) (E : L2.St → XK) (R : RR α β) (m : M α) : L2.St → Hp → (β → Hp → Prop) → Prop := fun σ H Q => ∃ c F ρ, Rel K c F H σ ρ ∧ EndG K E R c F H σ Q (m ρ)
section
variable {α β α' β' : Type} {K : KK} {E : L2.St → XK} {R : RR α β} {R' : RR α' β'} {c : Ctx} {F F1 H H1 : Hp} {σ : L2.St}
theorem EndG.mono {Q : β → Hp → Prop} {r : Res α} (h : EndG K E R c F H σ Q r) (sF : Same F F1) (sH : Same H H1) : EndG K E R c F1 H1 σ Q r := by
  cases r with
  | ok p ρ' => exact fun v F' H' rel s1 s2 q => h v F' H' rel (sF.trans s1) (sH.trans s2) q
  | exc x ρ' => exact fun C d F' H' rel s1 q => h C d F' H' rel (sF.trans s1) q
  | bad => exact h
theorem EndG.bind {Q : β → Hp → Prop} {Q' : β' → Hp → Prop} {r : Res α} {f : α → PSt → Res α'} (h : EndG K E R' c F H σ Q' (r.bind f))
    (k : ∀ p ρ1 v F1 H1, Rel K c F1 H1 σ ρ1 → Same F F1 → Same H H1 → R c σ ρ1 F1 H1 p v → EndG K E R' c F1 H1 σ Q' (f p ρ1) → Q v H1) : EndG K E R c F H σ Q r := by
  cases r with
  | ok p ρ' => exact fun v F' H' rel s1 s2 q => k p ρ' v F' H' rel s1 s2 q (EndG.mono (show EndG K E R' c F H σ Q' (f p ρ') from h) s1 s2)
  | exc x ρ' => exact h
  | bad => exact h
theorem EndG.rel {R2 : RR α β} {Q : β → Hp → Prop} {r : Res α} (h : EndG K E R c F H σ Q r) (k : ∀ p ρ' v F' H', Rel K c F' H' σ ρ' → R2 c σ ρ' F' H' p v → R c σ ρ' F' H' p v) : EndG K E R2 c F H σ Q r := by
  cases r with
  | ok p ρ' => exact fun v F' H' rel s1 s2 q => h v F' H' rel s1 s2 (k p ρ' v F' H' rel q)
  | exc x ρ' => exact h
  | bad => exact h
end
abbrev tV (K : KK) (E : L2.St → XK) (m : M PV) : TE := tG K E (rV K) m
abbrev tR (K : KK) (E : L2.St → XK) (m : M PV) : TE := tG K E (rR K) m
abbrev tO (K : KK) (E : L2.St → XK) (m : M RV) : TE := tG K E (rO K) m
abbrev tL (K : KK) (E : L2.St → XK) (m : M (List PV)) : TA := tG K E (rL K) m
abbrev tA (K : KK) (E : L2.St → XK) (m : M (List Slot)) : TA := tG K E (rA K) m
abbrev tRL (K : KK) (E : L2.St → XK) (m : M (List PV)) : TA := tG K E (rRL K) m
abbrev tB (K : KK) (E : L2.St → XK) (m : M Bool) : TT := tG K E rB m
inductive Fl where
  | nx | bk | ct | rt (r : RV)
def EndS (K : KK) (E : L2.St → XK) (c : Ctx) (F : Hp) (D : Ends) : Res Fl → Prop
  | .ok .nx ρ' => ∀ σ' F' H', Rel K c F' H' σ' ρ' → Same F F' → D.nx σ' H'
  | .ok .bk ρ' => ∀ σ' F' H', Rel K c F' H' σ' ρ' → Same F F' → D.bk σ' H'
  | .ok .ct ρ' => ∀ σ' F' H', Rel K c F' H' σ' ρ' → Same F F' → D.ct σ' H'
  | .ok (.rt r) ρ' => ∀ v σ' F' H', Rel K c F' H' σ' ρ' → Same F F' → rO K c σ' ρ' F' H' r v → D.rt v H'
  | .exc x ρ' => ∀ σ' C d F' H', Rel K c F' H' σ' ρ' → Same F F' → RepX K F' x C d → E σ' C d H'
  | .bad => False
def tS (K : KK) (E : L2.St → XK) (m : M Fl) : TS := fun D σ H => ∃ c F ρ, Rel K c F H σ ρ ∧ EndS K E c F D (m ρ)
section
variable {K : KK} {E : L2.St → XK} {c : Ctx} {F F1 : Hp} {D : Ends}
theorem EndS.mono {r : Res Fl} (h : EndS K E c F D r) (sF : Same F F1) : EndS K E c F1 D r := by
  cases r with
  | ok f ρ' =>
    cases f with
    | rt v => exact fun v σ' F' H' rel s1 q => h v σ' F' H' rel (sF.trans s1) q
    | nx => exact fun σ' F' H' rel s1 => h σ' F' H' rel (sF.trans s1)
    | bk => exact fun σ' F' H' rel s1 => h σ' F' H' rel (sF.trans s1)
    | ct => exact fun σ' F' H' rel s1 => h σ' F' H' rel (sF.trans s1)
  | exc x ρ' => exact fun σ' C d F' H' rel s1 q => h σ' C d F' H' rel (sF.trans s1) q
  | bad => exact h
theorem EndS.bind {α β : Type} {R : RR α β} {σ : L2.St} {H : Hp} {Q : β → Hp → Prop} {r : Res α} {f : α → PSt → Res Fl} (h : EndS K E c F D (r.bind f))
    (k : ∀ p ρ1 v F1 H1, Rel K c F1 H1 σ ρ1 → Same F F1 → R c σ ρ1 F1 H1 p v → EndS K E c F1 D (f p ρ1) → Q v H1) : EndG K E R c F H σ Q r := by
  cases r with
  | ok p ρ' => exact fun v F' H' rel s1 s2 q => k p ρ' v F' H' rel s1 q (EndS.mono (show EndS K E c F D (f p ρ') from h) s1)
  | exc x ρ' => exact fun C d F' H' rel s1 q => h σ C d F' H' rel s1 q
  | bad => exact h
end
end P
namespace P
open PySem PySem.Spec PyProof.Rows L2 M2
def mVarV (i : Nat) : M PV := fun ρ => match ρ[i]? with
  | some (.sh p) => .ok p ρ
  | some (.ow ps) => .ok (.lst ps) (ρ.set i (.sh (.lst ps)))
  | _ => .bad
def mVarR (i : Nat) : M PV := fun ρ => match ρ[i]? with
  | some (.sh p) => .ok p ρ
  | some (.ow ps) => .ok (.lst ps) ρ
  | some (.bw ps) => .ok (.lst ps) ρ
  | some (.rc C ns ps) => .ok (.ins C ns ps) ρ
  | _ => .bad
def mVarO (i : Nat) : M RV := fun ρ => match ρ[i]? with
  | some (.sh p) => .ok (.sh p) ρ
  | some (.ow ps) => .ok (.ow ps) (ρ.set i .no)
  | _ => .bad
def mC (p : PV) : M PV := fun ρ => .ok p ρ
def mSh (m : M PV) : M RV := fun ρ => (m ρ).bind fun p ρ1 => .ok (.sh p) ρ1
def mVal (m : M RV) : M PV := fun ρ => (m ρ).bind fun r ρ1 => .ok r.val ρ1
section
variable {K : KK} {c : Ctx} {F H : Hp} {σ : L2.St} {ρ : PSt}
theorem at_of {i : Nat} {x : V} (h : (σ[i]?).getD none = some x) : σ[i]? = some (some x) := by
  cases q : σ[i]? with
  | none => rw [q] at h; cases h
  | some y => rw [q] at h; exact congrArg some h
theorem Rel.ow (r : Rel K c F H σ ρ) {i : Nat} {ps : List PV} (e : ρ[i]? = some (.ow ps)) : ∃ a vs, σ[i]? = some (some (.ref a)) ∧ H a = some (.lst vs) ∧ F a = none ∧ c.B a = none ∧ RepL K F ps vs ∧ OwnsAt σ ρ i a := by
  obtain ⟨a, vs, h1, h2, h3, h4, h5⟩ := r.slot i _ e
  exact ⟨a, vs, at_of h1, h2, h3, h4, h5, ⟨⟨_, e, rfl⟩, at_of h1⟩⟩
theorem Rel.move (r : Rel K c F H σ ρ) {i : Nat} {a : Addr} (h : OwnsAt σ ρ i a) : Rel K c F H σ (ρ.set i .no) ∧ Fresh σ (ρ.set i .no) a := by
  refine ⟨r.slotS rfl trivial, fun j ⟨⟨s, q1, q2⟩, q3⟩ => ?_⟩
  rcases set_get q1 with ⟨_, rfl, _⟩ | ⟨hj, q⟩
  · cases q2
  · exact hj (r.sep j i a ⟨⟨s, q, q2⟩, q3⟩ h)
theorem Rel.share (r : Rel K c F H σ ρ) {i : Nat} {ps : List PV} (e : ρ[i]? = some (.ow ps)) : ∃ a vs, σ[i]? = some (some (.ref a)) ∧ F a = none ∧ Rep K (upd F a (.lst vs)) (.lst ps) (.ref a) ∧ Rel K c (upd F a (.lst vs)) H σ (ρ.set i (.sh (.lst ps))) := by
  obtain ⟨a, vs, h1, h2, h3, h4, h5, ho⟩ := r.ow e
  obtain ⟨m1, m2⟩ := r.move ho
  have rp : Rep K (upd F a (.lst vs)) (.lst ps) (.ref a) := by
    unfold Rep
    exact ⟨a, vs, rfl, SqL.of upd_same, h5.same (Same.upd h3) ps vs⟩
  have q := (m1.freeze h2 h4 h3 m2).slotS (i := i) (s := .sh (.lst ps)) rfl (show SlotOk K c _ H _ (.sh (.lst ps)) from ⟨.ref a, by rw [h1]; rfl, rp⟩)
  rw [List.set_set] at q
  exact ⟨a, vs, h1, h3, rp, q⟩
theorem OwnRd.mono {F1 H1 : Hp} {p : PV} {v : V} (h : OwnRd K F H p v) (sF : Same F F1) (sH : Same H H1) : OwnRd K F1 H1 p v := by
  cases p with
  | lst ps =>
    obtain ⟨a, vs, h2, h3, h4⟩ := h
    exact ⟨a, vs, h2, sH _ _ h3, h4.same sF ps vs⟩
  | ins C ns ps =>
    obtain ⟨a, dx, fs, h2, h3, h4, h5⟩ := h
    exact ⟨a, dx, fs, h2, sH _ _ h3, h4, h5.same sF ps _⟩
  | _ => exact h.elim
theorem rR.mono {c : Ctx} {σ : L2.St} {ρ ρ' : PSt} {F1 H1 : Hp} {p : PV} {v : V} (h : rR K c σ ρ F H p v) (sF : Same F F1) (sH : Same H H1) : rR K c σ ρ' F1 H1 p v := by
  rcases h with h | h
  · exact .inl (h.same sF p v)
  · exact .inr (h.mono sF sH)
theorem rR.lst {c : Ctx} {σ : L2.St} {ρ : PSt} {ps : List PV} {v : V} (s : Same F H) (h : rR K c σ ρ F H (.lst ps) v) : ∃ a vs, v = .ref a ∧ SqL K.K H a vs ∧ RepL K F ps vs := by
  rcases h with h | ⟨a, vs, h2, h3, h4⟩
  · unfold Rep at h
    obtain ⟨a, xs, h1, h2, h3⟩ := h
    exact ⟨a, xs, h1, s.seq h2, h3⟩
  · exact ⟨a, vs, h2, SqL.of h3, h4⟩
theorem rR.tup {c : Ctx} {σ : L2.St} {ρ : PSt} {ps : List PV} {v : V} (s : Same F H) (h : rR K c σ ρ F H (.tup ps) v) : ∃ a vs, v = .ref a ∧ SqT K.K H a vs ∧ RepL K F ps vs := by
  rcases h with h | h
  · unfold Rep at h
    obtain ⟨a, xs, h1, h2, h3⟩ := h
    exact ⟨a, xs, h1, Same.tup s h2, h3⟩
  · exact h.elim
theorem rR.int {c : Ctx} {σ : L2.St} {ρ : PSt} {i : Int} {v : V} (h : rR K c σ ρ F H (.int i) v) : v = .int i := by
  rcases h with h | h
  · unfold Rep at h; exact h
  · exact h.elim
theorem rR.str {c : Ctx} {σ : L2.St} {ρ : PSt} {i : Str} {v : V} (h : rR K c σ ρ F H (.str i) v) : v = .str i := by
  rcases h with h | h
  · unfold Rep at h; exact h
  · exact h.elim
theorem rR.bl {c : Ctx} {σ : L2.St} {ρ : PSt} {i : Bool} {v : V} (h : rR K c σ ρ F H (.bl i) v) : v = .bl i := by
  rcases h with h | h
  · unfold Rep at h; exact h
  · exact h.elim
theorem rR.non {c : Ctx} {σ : L2.St} {ρ : PSt} {v : V} (h : rR K c σ ρ F H .non v) : v = .non := by
  rcases h with h | h
  · unfold Rep at h; exact h
  · exact h.elim
theorem rR.ty {c : Ctx} {σ : L2.St} {ρ : PSt} {n : String} {v : V} (h : rR K c σ ρ F H (.ty n) v) : v = .ty n := by
  rcases h with h | h
  · unfold Rep at h; exact h
  · exact h.elim
theorem Rep.int {i : Int} : Rep K F (.int i) (.int i) := by unfold Rep; rfl
theorem Rep.str {i : Str} : Rep K F (.str i) (.str i) := by unfold Rep; rfl
theorem Rep.bl {i : Bool} : Rep K F (.bl i) (.bl i) := by unfold Rep; rfl
theorem Rep.non : Rep K F .non .non := by unfold Rep; rfl
end
section
variable {X : Cx} {cm : String → Addr} {E : L2.St → XK} {a b e : Expr} {es : List Expr} {pos : Pos} {m ma mb mc : M PV} {mo : M RV}
theorem PT.wk {t t' : TT} (h : PT X e t) (i : ∀ σ H Q, t' σ H Q → t σ H Q) : PT X e t' := fun pins s σ H Q I q => h pins s σ H Q I (i σ H Q q)
theorem PA.wk {t t' : TA} (h : PA X es t) (i : ∀ σ H Q, t' σ H Q → t σ H Q) : PA X es t' := fun pos pins s σ H Q I q => h pos pins s σ H Q I (i σ H Q q)
theorem PW.wk {t t' : TT} (h : PW X e t) (i : ∀ σ H Q, t' σ H Q → t σ H Q) : PW X e t' := fun wh pins s σ H Q I q => h wh pins s σ H Q I (i σ H Q q)
theorem PSs.wk {st : List Stmt} {t t' : TS} (h : PSs X st t) (i : ∀ D σ H, t' D σ H → t D σ H) : PSs X st t' := fun pins s σ H D I q => h pins s σ H D I (i D σ H q)
theorem v_var (i : Nat) {x : Str} {pos : Pos} (hN : X.N[i]? = some x := by rfl) (hv : Vis X.env.scope x := by first | exact Or.inl rfl | exact Or.inr (Or.inl rfl) | exact Or.inr (Or.inr rfl)) (hd : (x == ("__debug__" : Str)) = false := by decide)
    (hcd : (x == ("__classdict__" : Str)) = false := by decide) : PE X (.Name x pos) (tV (kk X cm) E (mVarV i)) := PE.wk (pe_var hN hv hd hcd) fun σ H Q ⟨c, F, ρ, rel, h⟩ => by
  unfold mVarV at h
  split at h
  · rename_i p e
    obtain ⟨v, h1, h2⟩ := rel.slot i _ e
    exact ⟨v, at_of h1, h v F H rel (Same.refl F) (Same.refl H) h2⟩
  · rename_i ps e
    obtain ⟨a, vs, h1, h2, h3, h4⟩ := rel.share e
    exact ⟨.ref a, h1, h _ _ H h4 (Same.upd h2) (Same.refl H) h3⟩
  · exact h.elim
theorem r_var (i : Nat) {x : Str} {pos : Pos} (hN : X.N[i]? = some x := by rfl) (hv : Vis X.env.scope x := by first | exact Or.inl rfl | exact Or.inr (Or.inl rfl) | exact Or.inr (Or.inr rfl)) (hd : (x == ("__debug__" : Str)) = false := by decide)
    (hcd : (x == ("__classdict__" : Str)) = false := by decide) : PE X (.Name x pos) (tR (kk X cm) E (mVarR i)) := PE.wk (pe_var hN hv hd hcd) fun σ H Q ⟨c, F, ρ, rel, h⟩ => by
  unfold mVarR at h
  split at h
  · rename_i p e
    obtain ⟨v, h1, h2⟩ := rel.slot i _ e
    exact ⟨v, at_of h1, h v F H rel (Same.refl F) (Same.refl H) (.inl h2)⟩
  · rename_i ps e
    obtain ⟨a, vs, h1, h2, h3, h4, h5, _⟩ := rel.ow e
    exact ⟨.ref a, h1, h _ F H rel (Same.refl F) (Same.refl H) (.inr ⟨a, vs, rfl, h2, h5⟩)⟩
  · rename_i ps e
    obtain ⟨a, vs, h1, h2, h3⟩ := rel.slot i _ e
    exact ⟨.ref a, at_of h1, h _ F H rel (Same.refl F) (Same.refl H) (.inr ⟨a, vs, rfl, (rel.lent a _ h2).1, h3⟩)⟩
  · rename_i C ns ps e
    obtain ⟨a, dx, fs, h1, h2, h3, h4, h5, h6⟩ := rel.slot i _ e
    exact ⟨.ref a, at_of h1, h _ F H rel (Same.refl F) (Same.refl H) (.inr ⟨a, dx, fs, rfl, h2, h5, h6.1⟩)⟩
  · exact h.elim
theorem v_c {v : V} (p : PV) (h : PE X e (tC v)) (hr : ∀ F, Rep (kk X cm) F p v := by intro _; unfold Rep; rfl) : PE X e (tV (kk X cm) E (mC p)) := PE.wk h fun σ H Q ⟨c, F, ρ, rel, h⟩ => h v F H rel (Same.refl F) (Same.refl H) (hr F)
theorem v_int {i j pos} : PE X (.Constant (.int i) j pos) (tV (kk X cm) E (mC (.int i))) := v_c _ pe_int
theorem v_bl {i j pos} : PE X (.Constant (.bool i) j pos) (tV (kk X cm) E (mC (.bl i))) := v_c _ pe_bl
theorem r_of (h : PE X e (tV (kk X cm) E m)) : PE X e (tR (kk X cm) E m) := PE.wk h fun σ H Q ⟨c, F, ρ, rel, h⟩ => ⟨c, F, ρ, rel, h.rel fun _ _ _ _ _ _ q => .inl q⟩
theorem o_of (h : PE X e (tV (kk X cm) E m)) : PE X e (tO (kk X cm) E (mSh m)) := PE.wk h fun σ H Q ⟨c, F, ρ, rel, h⟩ => ⟨c, F, ρ, rel, h.bind fun p ρ1 v F1 H1 rel1 s1 s2 q h1 => h1 v F1 H1 rel1 (Same.refl _) (Same.refl _) q⟩
theorem Held.share {K : KK} {c : Ctx} {F H : Hp} {σ : L2.St} {ρ : PSt} {ps : List PV} {v : V} (rel : Rel K c F H σ ρ) (h : Held K c σ ρ F H ps v) : ∃ F1, Same F F1 ∧ Rel K c F1 H σ ρ ∧ Rep K F1 (.lst ps) v := by
  obtain ⟨a, vs, rfl, h1, h2, h3, h4, h5⟩ := h
  refine ⟨_, Same.upd h2, rel.freeze h1 h3 h2 h4, ?_⟩
  unfold Rep
  exact ⟨a, vs, rfl, SqL.of upd_same, h5.same (Same.upd h2) ps vs⟩
theorem v_of (h : PE X e (tO (kk X cm) E mo)) : PE X e (tV (kk X cm) E (mVal mo)) := PE.wk h fun σ H Q ⟨c, F, ρ, rel, h⟩ => ⟨c, F, ρ, rel, h.bind fun r ρ1 v F1 H1 rel1 s1 s2 q h1 => by
  cases r with
  | sh p => exact h1 v F1 H1 rel1 (Same.refl _) (Same.refl _) q
  | ow ps =>
    obtain ⟨F2, s3, rel2, rp⟩ := Held.share rel1 q
    exact h1 v F2 H1 rel2 s3 (Same.refl _) rp⟩
def mBin (f : PV → PV → Option PV) (ma mb : M PV) : M PV := fun ρ => (ma ρ).bind fun p ρ1 => (mb ρ1).bind fun q ρ2 => Res.ofO (f p q) ρ2
def mBinO (f : PV → PV → Option RV) (ma mb : M PV) : M RV := fun ρ => (ma ρ).bind fun p ρ1 => (mb ρ1).bind fun q ρ2 => Res.ofO (f p q) ρ2
def OpV (K : KK) (r : R2) (f : PV → PV → Option PV) : Prop := ∀ {c : Ctx} {F H : Hp} {σ : L2.St} {ρ : PSt} {p q pv : PV} {v u : V} {Q : VK}, Rel K c F H σ ρ → rR K c σ ρ F H p v → rR K c σ ρ F H q u → f p q = some pv →
  (∀ z F' H', Rel K c F' H' σ ρ → Same F F' → Same H H' → Rep K F' pv z → Q z H') → r v u H Q
def OpO (K : KK) (r : R2) (f : PV → PV → Option RV) : Prop := ∀ {c : Ctx} {F H : Hp} {σ : L2.St} {ρ : PSt} {p q : PV} {pv : RV} {v u : V} {Q : VK}, Rel K c F H σ ρ → rR K c σ ρ F H p v → rR K c σ ρ F H q u → f p q = some pv →
  (∀ z F' H', Rel K c F' H' σ ρ → Same F F' → Same H H' → rO K c σ ρ F' H' pv z → Q z H') → r v u H Q
theorem two_v {r : R2} {f : PV → PV → Option PV} (hf : OpV (kk X cm) r f) {σ : L2.St} {H : Hp} {Q : VK} (h : tV (kk X cm) E (mBin f ma mb) σ H Q) : tOp r (tR (kk X cm) E ma) (tR (kk X cm) E mb) σ H Q := by
  obtain ⟨c, F, ρ, rel, h⟩ := h
  refine ⟨c, F, ρ, rel, h.bind fun p ρ1 v F1 H1 rel1 _ _ r1 h1 => ⟨c, F1, ρ1, rel1, h1.bind fun q ρ2 u F2 H2 rel2 sF sH r2 h2 => ?_⟩⟩
  cases e : f p q with
  | none => rw [e] at h2; exact h2.elim
  | some pv => rw [e] at h2; exact hf rel2 (r1.mono sF sH) r2 e fun z F' H' rel' s1 s2 q' => h2 z F' H' rel' s1 s2 q'
theorem two_o {r : R2} {f : PV → PV → Option RV} (hf : OpO (kk X cm) r f) {σ : L2.St} {H : Hp} {Q : VK} (h : tO (kk X cm) E (mBinO f ma mb) σ H Q) : tOp r (tR (kk X cm) E ma) (tR (kk X cm) E mb) σ H Q := by
  obtain ⟨c, F, ρ, rel, h⟩ := h
  refine ⟨c, F, ρ, rel, h.bind fun p ρ1 v F1 H1 rel1 _ _ r1 h1 => ⟨c, F1, ρ1, rel1, h1.bind fun q ρ2 u F2 H2 rel2 sF sH r2 h2 => ?_⟩⟩
  cases e : f p q with
  | none => rw [e] at h2; exact h2.elim
  | some pv => rw [e] at h2; exact hf rel2 (r1.mono sF sH) r2 e fun z F' H' rel' s1 s2 q' => h2 z F' H' rel' s1 s2 q'
theorem v_bin {op : Operator} {r : R2} {f : PV → PV → Option PV} (hf : OpV (kk X cm) r f) (ho : OpR X (binaryOp op) r) (ha : PE X a (tR (kk X cm) E ma)) (hb : PE X b (tR (kk X cm) E mb)) : PE X (.BinOp a op b pos) (tV (kk X cm) E (mBin f ma mb)) := PE.wk (pe_op ho ha hb) fun _ _ _ h => two_v hf h
theorem o_bin {op : Operator} {r : R2} {f : PV → PV → Option RV} (hf : OpO (kk X cm) r f) (ho : OpR X (binaryOp op) r) (ha : PE X a (tR (kk X cm) E ma)) (hb : PE X b (tR (kk X cm) E mb)) : PE X (.BinOp a op b pos) (tO (kk X cm) E (mBinO f ma mb)) := PE.wk (pe_op ho ha hb) fun _ _ _ h => two_o hf h
theorem v_cmp {op : CmpOp} {r : R2} {f : PV → PV → Option PV} (hf : OpV (kk X cm) r f) (ho : OpR X (compareOp op) r) (ha : PE X a (tR (kk X cm) E ma)) (hb : PE X b (tR (kk X cm) E mb)) (hm : behindInMarks op b = false) : PE X (.Compare a [op] [b] pos) (tV (kk X cm) E (mBin f ma mb)) :=
  PE.wk (pe_cmpR ho ha hb hm) fun _ _ _ h => two_v hf h
theorem v_ix {r : R2} {f : PV → PV → Option PV} (hf : OpV (kk X cm) r f) (hr : IxR X r) (ha : PE X a (tR (kk X cm) E ma)) (hb : PE X b (tR (kk X cm) E mb)) (hs : PlainIx b) : PE X (.Subscript a b pos) (tV (kk X cm) E (mBin f ma mb)) :=
  PE.wk (pe_ix hr ha hb hs) fun _ _ _ h => two_v hf h
def mUn (f : PV → Option PV) (ma : M PV) : M PV := fun ρ => (ma ρ).bind fun p ρ1 => Res.ofO (f p) ρ1
def UnV (K : KK) (r : V → Hp → VK → Prop) (f : PV → Option PV) : Prop := ∀ {c : Ctx} {F H : Hp} {σ : L2.St} {ρ : PSt} {p pv : PV} {v : V} {Q : VK}, Rel K c F H σ ρ → rR K c σ ρ F H p v → f p = some pv →
  (∀ z F' H', Rel K c F' H' σ ρ → Same F F' → Same H H' → Rep K F' pv z → Q z H') → r v H Q
theorem v_un {op : UnaryOp} {r : V → Hp → VK → Prop} {f : PV → Option PV} (hf : UnV (kk X cm) r f) (ho : UnR X (unaryOp op) r) (ha : PE X a (tR (kk X cm) E ma)) : PE X (.UnaryOp op a pos) (tV (kk X cm) E (mUn f ma)) := PE.wk (pe_un ho ha) fun σ H Q ⟨c, F, ρ, rel, h⟩ =>
  ⟨c, F, ρ, rel, h.bind fun p ρ1 v F1 H1 rel1 _ _ r1 h1 => by
    cases e : f p with
    | none => rw [e] at h1; exact h1.elim
    | some pv => rw [e] at h1; exact hf rel1 r1 e fun z F' H' rel' s1 s2 q' => h1 z F' H' rel' s1 s2 q'⟩
def tru : PV → Option Bool
  | .bl b => some b
  | .int i => some (i != 0)
  | .non => some false
  | .str y => if y.length ≤ sizeLine then some ((y.length : Int) != 0) else none
  | .lst ps => some (!ps.isEmpty)
  | .tup ps => some (!ps.isEmpty)
  | _ => none
def mTru (m : M PV) : M Bool := fun ρ => (m ρ).bind fun p ρ1 => Res.ofO (tru p) ρ1
theorem tru_v {K : KK} {c : Ctx} {F H : Hp} {σ : L2.St} {ρ : PSt} {p : PV} {v : V} {k : Bool} (s : Same F H) (r : rR K c σ ρ F H p v) (h : tru p = some k) : TruV K.K v H k := by
  cases p with
  | bl b => cases r.bl; cases h; rfl
  | int i => cases r.int; cases h; rfl
  | non => cases r.non; cases h; rfl
  | str y =>
    cases r.str
    have h' : (if y.length ≤ sizeLine then some ((y.length : Int) != 0) else none) = some k := h
    split at h'
    · rename_i hy; cases h'; exact ⟨hy, rfl⟩
    · cases h'
  | lst ps =>
    obtain ⟨a, vs, rfl, h1, h2⟩ := r.lst s
    cases h
    have e : ps.isEmpty = vs.isEmpty := by cases h2.pr <;> rfl
    exact .inl ⟨vs, h1, by rw [e]⟩
  | tup ps =>
    obtain ⟨a, vs, rfl, h1, h2⟩ := r.tup s
    cases h
    have e : ps.isEmpty = vs.isEmpty := by cases h2.pr <;> rfl
    exact .inr (.inl ⟨vs, h1, by rw [e]⟩)
  | ins C ns ps => cases h
  | xc C ns ps => cases h
  | ty n => cases h
  | cls C => cases h
theorem t_val (ha : PE X a (tR (kk X cm) E ma)) (he : ∀ whole, isTrue a X.env whole = (do let v ← whole; standAt a.pos; holding [v] (truthy v)) := by intro _; rfl) : PT X a (tB (kk X cm) E (mTru ma)) := PT.wk (pt_truth ha he) fun σ H Q ⟨c, F, ρ, rel, h⟩ =>
  ⟨c, F, ρ, rel, h.bind fun p ρ1 v F1 H1 rel1 _ _ r1 h1 => by
    cases e : tru p with
    | none => rw [e] at h1; exact h1.elim
    | some k => rw [e] at h1; exact ⟨k, tru_v rel1.sub r1 e, h1 k F1 H1 rel1 (Same.refl _) (Same.refl _) rfl⟩⟩
def mBl (m : M PV) : M Bool := fun ρ => (m ρ).bind fun p ρ1 => match p with
  | .bl b => .ok b ρ1
  | _ => .bad
theorem bl_of {σ : L2.St} {H : Hp} {Q : Bool → Hp → Prop} (h : tB (kk X cm) E (mBl m) σ H Q) : M2.mTest (tV (kk X cm) E m) σ H Q := by
  obtain ⟨c, F, ρ, rel, h⟩ := h
  refine ⟨c, F, ρ, rel, h.bind fun p ρ1 v F1 H1 rel1 _ _ r1 h1 => ?_⟩
  cases p with
  | bl b =>
    have e : v = .bl b := by have r1' : Rep (kk X cm) F1 (.bl b) v := r1; unfold Rep at r1'; exact r1'
    subst e
    exact h1 b F1 H1 rel1 (Same.refl _) (Same.refl _) rfl
  | _ => exact h1.elim
theorem t_cmp {op : CmpOp} {r : R2} {f : PV → PV → Option PV} (hf : OpV (kk X cm) r f) (ho : OpR X (compareOp op) r) (ha : PE X a (tR (kk X cm) E ma)) (hb : PE X b (tR (kk X cm) E mb)) (hm : behindInMarks op b = false) : PT X (.Compare a [op] [b] pos) (tB (kk X cm) E (mBl (mBin f ma mb))) :=
  PT.wk (mt_cmp ho ha hb hm) fun σ H Q h => by
    obtain ⟨c, F, ρ, rel, h⟩ := bl_of h
    exact two_v hf ⟨c, F, ρ, rel, h⟩
def mChn (f g : PV → PV → Option PV) (ma mb mc : M PV) : M PV := fun ρ => (ma ρ).bind fun p ρ1 => (mb ρ1).bind fun q ρ2 => (Res.ofO (f p q) ρ2).bind fun z ρ3 => match z with
  | .bl true => (mc ρ3).bind fun w ρ4 => Res.ofO (g q w) ρ4
  | .bl false => .ok (.bl false) ρ3
  | _ => .bad
theorem chn_v {r r' : R2} {f g : PV → PV → Option PV} (hf : OpV (kk X cm) r f) (hg : OpV (kk X cm) r' g) {σ : L2.St} {H : Hp} {Q : VK} (h : tV (kk X cm) E (mChn f g ma mb mc) σ H Q) : M2.mChain r r' (tR (kk X cm) E ma) (tR (kk X cm) E mb) (tR (kk X cm) E mc) σ H Q := by
  obtain ⟨c, F, ρ, rel, h⟩ := h
  refine ⟨c, F, ρ, rel, h.bind fun p ρ1 v F1 H1 rel1 _ _ r1 h1 => ⟨c, F1, ρ1, rel1, h1.bind fun q ρ2 u F2 H2 rel2 sF sH r2 h2 => ?_⟩⟩
  cases e : f p q with
  | none => rw [e] at h2; exact h2.elim
  | some pv =>
    rw [e] at h2
    refine hf rel2 (r1.mono sF sH) r2 e fun z F' H' rel' s1 s2 q' => ?_
    cases pv with
    | bl k =>
      have ez : z = .bl k := by unfold Rep at q'; exact q'
      subst ez
      cases k with
      | false => exact h2 _ F' H' rel' s1 s2 q'
      | true =>
        refine ⟨c, F', ρ2, rel', EndG.bind (EndG.mono h2 s1 s2) fun w ρ4 x F4 H4 rel4 s3 s4 r4 h4 => ?_⟩
        cases e' : g q w with
        | none => rw [e'] at h4; exact h4.elim
        | some pv' => rw [e'] at h4; exact hg rel4 (r2.mono (s1.trans s3) (s2.trans s4)) r4 e' fun z F' H' rel' s1 s2 q' => h4 z F' H' rel' s1 s2 q'
    | _ => exact h2.elim
theorem v_chn {op op' : CmpOp} {r r' : R2} {f g : PV → PV → Option PV} {c : Expr} (hf : OpV (kk X cm) r f) (hg : OpV (kk X cm) r' g) (ho : OpR X (compareOp op) r) (ho' : OpR X (compareOp op') r') (ha : PE X a (tR (kk X cm) E ma)) (hb : PE X b (tR (kk X cm) E mb)) (hc : PE X c (tR (kk X cm) E mc))
    (hm : lastMarks [op, op'] [b, c] = false := by with_unfolding_all rfl) : PE X (.Compare a [op, op'] [b, c] pos) (tV (kk X cm) E (mChn f g ma mb mc)) := PE.wk (me_chain ho ho' ha hb hc hm) fun _ _ _ h => chn_v hf hg h
def mNotT (m : M Bool) : M Bool := fun ρ => (m ρ).bind fun b ρ1 => .ok (!b) ρ1
theorem t_not {m : M Bool} (h : PT X a (tB (kk X cm) E m)) : PT X (.UnaryOp .Not a pos) (tB (kk X cm) E (mNotT m)) := PT.wk (pt_not h) fun σ H Q ⟨c, F, ρ, rel, h⟩ =>
  ⟨c, F, ρ, rel, h.bind fun p ρ1 v F1 H1 rel1 _ _ r1 h1 => h1 _ F1 H1 rel1 (Same.refl _) (Same.refl _) (by have e : p = v := r1; rw [e]; rfl)⟩
def mAndT (ma mb : M Bool) : M Bool := fun ρ => (ma ρ).bind fun b ρ1 => if b = true then mb ρ1 else .ok false ρ1
def mOrT (ma mb : M Bool) : M Bool := fun ρ => (ma ρ).bind fun b ρ1 => if b = true then .ok true ρ1 else mb ρ1
variable {ta tb : M Bool} {rest : List Expr}
theorem w_or1 (h : PT X a (tB (kk X cm) E ta)) : PW X (.BoolOp .Or [a] pos) (tB (kk X cm) E ta) := pw_or1 h
theorem w_or (ha : PT X a (tB (kk X cm) E ta)) (hb : PW X (.BoolOp .Or (b :: rest) pos) (tB (kk X cm) E tb)) : PW X (.BoolOp .Or (a :: b :: rest) pos) (tB (kk X cm) E (mOrT ta tb)) := PW.wk (pw_or ha hb) fun σ H Q ⟨c, F, ρ, rel, h⟩ =>
  ⟨c, F, ρ, rel, h.bind fun p ρ1 v F1 H1 rel1 _ _ r1 h1 => by
    have e : p = v := r1
    subst e
    cases p with
    | false => exact ⟨c, F1, ρ1, rel1, h1⟩
    | true => exact h1 true F1 H1 rel1 (Same.refl _) (Same.refl _) rfl⟩
def mAnd (ma mb : M PV) : M PV := fun ρ => (ma ρ).bind fun p ρ1 => match p with
  | .bl true => mb ρ1
  | .bl false => .ok (.bl false) ρ1
  | _ => .bad
def mOr (ma mb : M PV) : M PV := fun ρ => (ma ρ).bind fun p ρ1 => match p with
  | .bl true => .ok (.bl true) ρ1
  | .bl false => mb ρ1
  | _ => .bad
def mNot (ma : M PV) : M PV := fun ρ => (ma ρ).bind fun p ρ1 => match p with
  | .bl b => .ok (.bl (!b)) ρ1
  | _ => .bad
theorem rep_bl {K : KK} {F : Hp} {b : Bool} {v : V} (h : Rep K F (.bl b) v) : v = .bl b := by unfold Rep at h; exact h
theorem v_one {op} (h : PE X a (tV (kk X cm) E ma)) : PE X (.BoolOp op [a] pos) (tV (kk X cm) E ma) := pe_one h
theorem v_and (ha : PE X a (tV (kk X cm) E ma)) (hb : PE X (.BoolOp .And (b :: rest) pos) (tV (kk X cm) E mb)) : PE X (.BoolOp .And (a :: b :: rest) pos) (tV (kk X cm) E (mAnd ma mb)) := PE.wk (me_and ha hb) fun σ H Q ⟨c, F, ρ, rel, h⟩ =>
  ⟨c, F, ρ, rel, h.bind fun p ρ1 v F1 H1 rel1 _ _ r1 h1 => by
    cases p with
    | bl k =>
      cases rep_bl r1
      cases k with
      | true => exact ⟨c, F1, ρ1, rel1, h1⟩
      | false => exact h1 _ F1 H1 rel1 (Same.refl _) (Same.refl _) r1
    | _ => exact h1.elim⟩
def mIf {α : Type} (t : M Bool) (ma mb : M α) : M α := fun ρ => (t ρ).bind fun b ρ1 => if b = true then ma ρ1 else mb ρ1
def mNil : M (List PV) := fun ρ => .ok [] ρ
def mCons (ma : M PV) (mr : M (List PV)) : M (List PV) := fun ρ => (ma ρ).bind fun p ρ1 => (mr ρ1).bind fun ps ρ2 => .ok (p :: ps) ρ2
variable {mr : M (List PV)}
theorem a_nil : PA X [] (tL (kk X cm) E mNil) := PA.wk pa_nil fun σ H Q ⟨c, F, ρ, rel, h⟩ => h [] F H rel (Same.refl _) (Same.refl _) RepL.nil
theorem a_cons (ha : PE X e (tV (kk X cm) E ma)) (hr : PA X es (tL (kk X cm) E mr)) (hs : starEach (e :: es) X.env = (false, eval e X.env) :: starEach es X.env := by rfl) : PA X (e :: es) (tL (kk X cm) E (mCons ma mr)) := PA.wk (pa_cons ha hr hs) fun σ H Q ⟨c, F, ρ, rel, h⟩ =>
  ⟨c, F, ρ, rel, h.bind fun p ρ1 v F1 H1 rel1 _ _ r1 h1 => ⟨c, F1, ρ1, rel1, h1.bind fun ps ρ2 vs F2 H2 rel2 sF sH r2 h2 => h2 _ F2 H2 rel2 (Same.refl _) (Same.refl _) (RepL.cons (Rep.same sF p v r1) r2)⟩⟩
theorem ar_nil : PA X [] (tRL (kk X cm) E mNil) := PA.wk pa_nil fun σ H Q ⟨c, F, ρ, rel, h⟩ => h [] F H rel (Same.refl _) (Same.refl _) .nil
theorem ar_cons (ha : PE X e (tR (kk X cm) E ma)) (hr : PA X es (tRL (kk X cm) E mr)) (hs : starEach (e :: es) X.env = (false, eval e X.env) :: starEach es X.env := by rfl) : PA X (e :: es) (tRL (kk X cm) E (mCons ma mr)) := PA.wk (pa_cons ha hr hs) fun σ H Q ⟨c, F, ρ, rel, h⟩ =>
  ⟨c, F, ρ, rel, h.bind fun p ρ1 v F1 H1 rel1 _ _ r1 h1 => ⟨c, F1, ρ1, rel1, h1.bind fun ps ρ2 vs F2 H2 rel2 sF sH r2 h2 => h2 _ F2 H2 rel2 (Same.refl _) (Same.refl _) (.cons (rR.mono r1 sF sH) r2)⟩⟩
def mANil : M (List Slot) := fun ρ => .ok [] ρ
def mACons (ma : M PV) (mr : M (List Slot)) : M (List Slot) := fun ρ => (ma ρ).bind fun p ρ1 => (mr ρ1).bind fun as ρ2 => .ok (.sh p :: as) ρ2
def lendS : Slot → Option Slot
  | .sh p => some (.sh p)
  | .ow ps => some (.bw ps)
  | .bw ps => some (.bw ps)
  | _ => none
def mAName (i : Nat) (mr : M (List Slot)) : M (List Slot) := fun ρ => match (ρ[i]?).bind lendS with
  | none => .bad
  | some _ => (mr ρ).bind fun as ρ2 => match (ρ2[i]?).bind lendS with
    | some s => .ok (s :: as) ρ2
    | none => .bad
variable {ms : M (List Slot)}
theorem ag_nil : PA X [] (tA (kk X cm) E mANil) := PA.wk pa_nil fun σ H Q ⟨c, F, ρ, rel, h⟩ => h [] F H rel (Same.refl _) (Same.refl _) .nil
theorem ag_cons (ha : PE X e (tV (kk X cm) E ma)) (hr : PA X es (tA (kk X cm) E ms)) (hs : starEach (e :: es) X.env = (false, eval e X.env) :: starEach es X.env := by rfl) : PA X (e :: es) (tA (kk X cm) E (mACons ma ms)) := PA.wk (pa_cons ha hr hs) fun σ H Q ⟨c, F, ρ, rel, h⟩ =>
  ⟨c, F, ρ, rel, h.bind fun p ρ1 v F1 H1 rel1 _ _ r1 h1 => ⟨c, F1, ρ1, rel1, h1.bind fun as ρ2 vs F2 H2 rel2 sF sH r2 h2 => h2 _ F2 H2 rel2 (Same.refl _) (Same.refl _) (.cons (show argOk _ _ _ (.sh p) v from Rep.same sF p v r1) r2)⟩⟩
theorem lend_ok {K : KK} {c : Ctx} {F H : Hp} {σ : L2.St} {ρ : PSt} {i : Nat} {s : Slot} (rel : Rel K c F H σ ρ) (h : (ρ[i]?).bind lendS = some s) : ∃ v, σ[i]? = some (some v) ∧ argOk K F H s v := by
  cases e : ρ[i]? with
  | none => rw [e] at h; cases h
  | some sl =>
    rw [e] at h
    have h' : lendS sl = some s := h
    cases sl with
    | sh p =>
      cases h'
      obtain ⟨v, h1, h2⟩ := rel.slot i _ e
      exact ⟨v, at_of h1, h2⟩
    | ow ps =>
      cases h'
      obtain ⟨a, vs, h1, h2, h3, h4, h5, _⟩ := rel.ow e
      exact ⟨.ref a, h1, a, vs, rfl, h2, h3, h5⟩
    | bw ps =>
      cases h'
      obtain ⟨a, vs, h1, h2, h3⟩ := rel.slot i _ e
      exact ⟨.ref a, at_of h1, a, vs, rfl, (rel.lent a _ h2).1, (rel.lent a _ h2).2, h3⟩
    | no => cases h'
    | rc C ns ps => cases h'
theorem ag_name (i : Nat) {x : Str} {px : Pos} (hN : X.N[i]? = some x := by rfl) (hv : Vis X.env.scope x := by first | exact Or.inl rfl | exact Or.inr (Or.inl rfl) | exact Or.inr (Or.inr rfl)) (hd : (x == ("__debug__" : Str)) = false := by decide)
    (hcd : (x == ("__classdict__" : Str)) = false := by decide) (hr : PA X es (tA (kk X cm) E ms)) (hs : starEach (.Name x px :: es) X.env = (false, eval (.Name x px) X.env) :: starEach es X.env := by rfl) : PA X (.Name x px :: es) (tA (kk X cm) E (mAName i ms)) :=
  PA.wk (pa_cons (pe_var hN hv hd hcd) hr hs) fun σ H Q ⟨c, F, ρ, rel, h⟩ => by
    unfold mAName at h
    cases e : (ρ[i]?).bind lendS with
    | none => rw [e] at h; exact h.elim
    | some s0 =>
      rw [e] at h
      obtain ⟨v, hv, _⟩ := lend_ok rel e
      refine ⟨v, hv, c, F, ρ, rel, EndG.bind h fun as ρ2 vs F2 H2 rel2 sF sH r2 h2 => ?_⟩
      cases e2 : (ρ2[i]?).bind lendS with
      | none => simp only [e2] at h2; exact h2.elim
      | some s =>
        simp only [e2] at h2
        obtain ⟨v', hv', r1⟩ := lend_ok rel2 e2
        rw [hv] at hv'
        cases hv'
        exact h2 _ F2 H2 rel2 (Same.refl _) (Same.refl _) (.cons r1 r2)
def mTup (mr : M (List PV)) : M PV := fun ρ => (mr ρ).bind fun ps ρ1 => if ps.length ≤ 16777216 then .ok (.tup ps) ρ1 else .bad
def mLst (mr : M (List PV)) : M RV := fun ρ => (mr ρ).bind fun ps ρ1 => if ps.length ≤ 16777216 then .ok (.ow ps) ρ1 else .bad
theorem sizeLine_is : sizeLine = 16777216 := sizeLine_eq
theorem v_tup {x1} (h : PA X es (tL (kk X cm) E mr)) : PE X (.Tuple es x1 pos) (tV (kk X cm) E (mTup mr)) := PE.wk (pe_tup h) fun σ H Q ⟨c, F, ρ, rel, h⟩ =>
  ⟨c, F, ρ, rel, h.bind fun ps ρ1 vs F1 H1 rel1 _ _ r1 h1 => by
    split at h1
    · rename_i hz
      refine ⟨by rw [← RepL.length r1, sizeLine_is]; exact hz, fun p hp => h1 _ _ _ (rel1.alloc hp) (Same.upd (rel1.sub.free hp)) (Same.upd hp) ?_⟩
      show Rep _ _ _ _
      unfold Rep
      exact ⟨p, vs, rfl, SqT.of upd_same, RepL.same (Same.upd (rel1.sub.free hp)) ps vs r1⟩
    · exact h1.elim⟩
theorem held_new {K : KK} {c : Ctx} {F H : Hp} {σ : L2.St} {ρ : PSt} {ps : List PV} {vs : List V} {a : Addr} (rel : Rel K c F H σ ρ) (ha : H a = none) (r : RepL K F ps vs) : Rel K c F (upd H a (.lst vs)) σ ρ ∧ Held K c σ ρ F (upd H a (.lst vs)) ps (.ref a) :=
  ⟨rel.made ha, a, vs, rfl, upd_same, rel.sub.free ha, rel.base.free ha, rel.fresh ha, r⟩
theorem o_lst (h : PA X es (tL (kk X cm) E mr)) : PE X (.List es pos) (tO (kk X cm) E (mLst mr)) := PE.wk (pe_lst h) fun σ H Q ⟨c, F, ρ, rel, h⟩ =>
  ⟨c, F, ρ, rel, h.bind fun ps ρ1 vs F1 H1 rel1 _ _ r1 h1 => by
    split at h1
    · rename_i hz
      refine ⟨by rw [← RepL.length r1, sizeLine_is]; exact hz, fun p hp => ?_⟩
      obtain ⟨q1, q2⟩ := held_new rel1 hp r1
      exact h1 _ _ _ q1 (Same.refl _) (Same.upd hp) q2
    · exact h1.elim⟩
def mCB (f : List PV → Option PV) (mr : M (List PV)) : M PV := fun ρ => (mr ρ).bind fun ps ρ1 => Res.ofO (f ps) ρ1
def mCBO (f : List PV → Option RV) (mr : M (List PV)) : M RV := fun ρ => (mr ρ).bind fun ps ρ1 => Res.ofO (f ps) ρ1
def CallV (K : KK) (r : List V → Hp → VK → Prop) (f : List PV → Option PV) : Prop := ∀ {c : Ctx} {F H : Hp} {σ : L2.St} {ρ : PSt} {ps : List PV} {pv : PV} {vs : List V} {Q : VK}, Rel K c F H σ ρ → rRL K c σ ρ F H ps vs → f ps = some pv →
  (∀ z F' H', Rel K c F' H' σ ρ → Same F F' → Same H H' → Rep K F' pv z → Q z H') → r vs H Q
def CallO (K : KK) (r : List V → Hp → VK → Prop) (f : List PV → Option RV) : Prop := ∀ {c : Ctx} {F H : Hp} {σ : L2.St} {ρ : PSt} {ps : List PV} {pv : RV} {vs : List V} {Q : VK}, Rel K c F H σ ρ → rRL K c σ ρ F H ps vs → f ps = some pv →
  (∀ z F' H', Rel K c F' H' σ ρ → Same F F' → Same H H' → rO K c σ ρ F' H' pv z → Q z H') → r vs H Q
theorem cb_v {r : List V → Hp → VK → Prop} {f : List PV → Option PV} (hf : CallV (kk X cm) r f) {σ : L2.St} {H : Hp} {Q : VK} (h : tV (kk X cm) E (mCB f mr) σ H Q) : tCB r (tRL (kk X cm) E mr) σ H Q := by
  obtain ⟨c, F, ρ, rel, h⟩ := h
  refine ⟨c, F, ρ, rel, h.bind fun p ρ1 v F1 H1 rel1 _ _ r1 h1 => ?_⟩
  cases e : f p with
  | none => rw [e] at h1; exact h1.elim
  | some pv => rw [e] at h1; exact hf rel1 r1 e fun z F' H' rel' s1 s2 q' => h1 z F' H' rel' s1 s2 q'
theorem cb_o {r : List V → Hp → VK → Prop} {f : List PV → Option RV} (hf : CallO (kk X cm) r f) {σ : L2.St} {H : Hp} {Q : VK} (h : tO (kk X cm) E (mCBO f mr) σ H Q) : tCB r (tRL (kk X cm) E mr) σ H Q := by
  obtain ⟨c, F, ρ, rel, h⟩ := h
  refine ⟨c, F, ρ, rel, h.bind fun p ρ1 v F1 H1 rel1 _ _ r1 h1 => ?_⟩
  cases e : f p with
  | none => rw [e] at h1; exact h1.elim
  | some pv => rw [e] at h1; exact hf rel1 r1 e fun z F' H' rel' s1 s2 q' => h1 z F' H' rel' s1 s2 q'
end
end P
namespace P
open PySem PySem.Spec PyProof.Rows L2 M2 M3
def mNx : M Fl := fun ρ => .ok .nx ρ
def mBk : M Fl := fun ρ => .ok .bk ρ
def mCt : M Fl := fun ρ => .ok .ct ρ
def mSeq (a b : M Fl) : M Fl := fun ρ => (a ρ).bind fun f ρ1 => match f with
  | .nx => b ρ1
  | f => .ok f ρ1
def mSet (i : Nat) (m : M RV) : M Fl := fun ρ => (m ρ).bind fun r ρ1 => .ok .nx (ρ1.set i r.slot)
def mRet (m : M RV) : M Fl := fun ρ => (m ρ).bind fun r ρ1 => .ok (.rt r) ρ1
def mRetN : M Fl := fun ρ => .ok (.rt (.sh .non)) ρ
def mDrop (m : M PV) : M Fl := fun ρ => (m ρ).bind fun _ ρ1 => .ok .nx ρ1
section
variable {X : Cx} {cm : String → Addr} {E : L2.St → XK} {a b e : Expr} {st : Stmt} {rest : List Stmt} {es : List Expr} {pos : Pos} {m1 m2 : M Fl} {mo : M RV} {mv : M PV}
theorem ss_nil : PSs X [] (tS (kk X cm) E mNx) := PSs.wk pss_nil fun D σ H ⟨c, F, ρ, rel, h⟩ => h σ F H rel (Same.refl F)
theorem ss_one (h : PS X st (tS (kk X cm) E m1)) : PSs X [st] (tS (kk X cm) E m1) := pss_one h
theorem seq_end {c : Ctx} {F : Hp} {D : Ends} {r : Res Fl} (h : EndS (kk X cm) E c F D (r.bind fun f ρ1 => match f with | .nx => m2 ρ1 | f => .ok f ρ1)) : EndS (kk X cm) E c F { D with nx := tS (kk X cm) E m2 D } r := by
  cases r with
  | ok f ρ1 =>
    cases f with
    | nx => exact fun σ' F' H' rel' s => ⟨c, F', ρ1, rel', EndS.mono h s⟩
    | bk => exact h
    | ct => exact h
    | rt v => exact h
  | exc x ρ1 => exact h
  | bad => exact h
theorem ss_cons (h1 : PS X st (tS (kk X cm) E m1)) (h2 : PSs X rest (tS (kk X cm) E m2)) : PSs X (st :: rest) (tS (kk X cm) E (mSeq m1 m2)) := PSs.wk (pss_cons h1 h2) fun D σ H ⟨c, F, ρ, rel, h⟩ => ⟨c, F, ρ, rel, seq_end h⟩
theorem s_set {i : Nat} {x : Str} {pos' : Pos} (hN : X.N.Nodup) (hi : X.N[i]? = some x) (hx : Loc X.env.scope x) (he : PE X e (tO (kk X cm) E mo)) (hs : swapsWith e (some (.Name x pos')) pos.line X.env = pure false := by rfl) (hf : X.fn x = true ∨ X.env.scope.names.lookup x = some .local := by first | exact .inl rfl | exact .inr rfl | assumption) :
    PS X (.Assign [.Name x pos'] e pos) (tS (kk X cm) E (mSet i mo)) := PS.wk (ps_set hN hi hx he hs hf) fun D σ H ⟨c, F, ρ, rel, h⟩ => ⟨c, F, ρ, rel, EndS.bind h fun r ρ1 v F1 H1 rel1 s1 q h1 => by
  cases r with
  | sh p => exact h1 _ F1 H1 (rel1.put rfl ⟨v, rfl, q⟩) (Same.refl _)
  | ow ps =>
    obtain ⟨a, vs, rfl, q1, q2, q3, q4, q5⟩ := q
    exact h1 _ F1 H1 (rel1.putO ⟨a, vs, rfl, q1, q2, q3, q5⟩ q4) (Same.refl _)⟩
theorem s_ret (he : PE X e (tO (kk X cm) E mo)) : PS X (.Return (some e) pos) (tS (kk X cm) E (mRet mo)) := PS.wk (ps_ret he) fun D σ H ⟨c, F, ρ, rel, h⟩ => ⟨c, F, ρ, rel, EndS.bind h fun r ρ1 v F1 H1 rel1 s1 q h1 => h1 v σ F1 H1 rel1 (Same.refl _) q⟩
theorem s_if {t : M Bool} {ss ss' : List Stmt} (hc : PT X a (tB (kk X cm) E t)) (ha : PSs X ss (tS (kk X cm) E m1)) (hb : PSs X ss' (tS (kk X cm) E m2)) : PS X (.If a ss ss' pos) (tS (kk X cm) E (mIf t m1 m2)) := PS.wk (ps_if hc ha hb) fun D σ H ⟨c, F, ρ, rel, h⟩ => ⟨c, F, ρ, rel, EndS.bind h fun r ρ1 v F1 H1 rel1 s1 q h1 => by
  have e : r = v := q
  subst e
  cases r with
  | true => exact ⟨c, F1, ρ1, rel1, h1⟩
  | false => exact ⟨c, F1, ρ1, rel1, h1⟩⟩
def mBad {α : Type} : M α := fun _ => .bad
abbrev Tg := PV → PSt → Option PSt
abbrev Tgs := List PV → PSt → Option PSt
def EndT (K : KK) (c : Ctx) (F H : Hp) (Q : L2.St → Hp → Prop) : Option PSt → Prop
  | some ρ' => ∀ σ', Rel K c F H σ' ρ' → Q σ' H
  | none => False
def tT (K : KK) (g : Tg) : TG := fun v σ H Q => ∃ c F ρ p, Rel K c F H σ ρ ∧ Rep K F p v ∧ EndT K c F H Q (g p ρ)
def gN (i : Nat) : Tg := fun p ρ => some (ρ.set i (.sh p))
def gsNil : Tgs := fun ps ρ => match ps with
  | [] => some ρ
  | _ => none
def gsCons (g : Tg) (gs : Tgs) : Tgs := fun ps ρ => match ps with
  | p :: ps => (g p ρ).bind fun ρ1 => gs ps ρ1
  | [] => none
def gT (n : Nat) (gs : Tgs) : Tg := fun p ρ => match p with
  | .tup ps => if ps.length = n then gs ps ρ else none
  | _ => none
theorem PG.wk' {tg : Expr} {t t' : TG} (h : PG X tg t) (i : ∀ v σ H Q, t' v σ H Q → t v σ H Q) : PG X tg t' := fun pins s σ H v u Q I r q => h pins s σ H v u Q I r (i v σ H Q q)
theorem g_name {i : Nat} {x : Str} (hN : X.N.Nodup) (hi : X.N[i]? = some x) (hx : Loc X.env.scope x) (hf : X.fn x = true ∨ X.env.scope.names.lookup x = some .local := by first | exact .inl rfl | exact .inr rfl | assumption) : PG X (.Name x pos) (tT (kk X cm) (gN i)) :=
  PG.wk' (pg_name hN hi hx hf) fun v σ H Q ⟨c, F, ρ, p, rel, rp, h⟩ => h _ (rel.put rfl ⟨v, rfl, rp⟩)
def mAsg (g : Tg) (m : M PV) : M Fl := fun ρ => (m ρ).bind fun p ρ1 => match g p ρ1 with
  | some ρ2 => .ok .nx ρ2
  | none => .bad
def mPar (i j : Nat) (mr : M (List PV)) : M Fl := fun ρ => (mr ρ).bind fun ps ρ1 => match ps with
  | [p, q] => .ok .nx ((ρ1.set i (.sh p)).set j (.sh q))
  | _ => .bad
def mSetIx (i : Nat) (mi : M PV) (m : M PV) : M Fl := fun ρ => (m ρ).bind fun p ρ1 => match ρ1[i]? with
  | some (.ow _) => (mi ρ1).bind fun q ρ2 => match ρ2[i]?, q with
    | some (.ow ps), .int k => match ixN ps.length k with
      | some j => .ok .nx (ρ2.set i (.ow (ps.set j p)))
      | none => .bad
    | _, _ => .bad
  | _ => .bad
def mApp (i : Nat) (m : M PV) : M Fl := fun ρ => match ρ[i]? with
  | some (.ow _) => (m ρ).bind fun p ρ1 => match ρ1[i]? with
    | some (.ow ps) => if ps.length < 16777216 then .ok .nx (ρ1.set i (.ow (ps ++ [p]))) else .bad
    | _ => .bad
  | _ => .bad
def ItOk (K : KK) (Lh F : Hp) (J : It) (items : List PV) : Prop := ∀ (c : Ctx) (i : Nat) (F2 H : Hp) (σ : L2.St) (ρ : PSt), Rel K c F2 H σ ρ → Same F F2 → Same Lh H →
  (∀ p, items[i]? = some p → J.go i H ∧ ∀ x H', J.yld i H x H' → ∃ F3, Rel K c F3 H' σ ρ ∧ Same F2 F3 ∧ Same H H' ∧ Rep K F3 p x) ∧ (i = items.length → J.stop i H)
def rIt (K : KK) : RR (List PV) It := fun c _ _ F _ items J => ItOk K c.L F J items
abbrev tI (K : KK) (E : L2.St → XK) (m : M (List PV)) : TI := tG K E (rIt K) m
def forL (g : Tg) (mb : M Fl) : List PV → M Fl
  | [], ρ => .ok .nx ρ
  | p :: ps, ρ => match g p ρ with
    | none => .bad
    | some ρ1 => (mb ρ1).bind fun f ρ2 => match f with
      | .nx => forL g mb ps ρ2
      | .ct => forL g mb ps ρ2
      | .bk => .ok .nx ρ2
      | .rt r => .ok (.rt r) ρ2
def mFor (mi : M (List PV)) (g : Tg) (mb : M Fl) : M Fl := fun ρ => (mi ρ).bind fun items ρ1 => forL g mb items ρ1
theorem s_for {iter tg : Expr} {body : List Stmt} {mi : M (List PV)} {g : Tg} {mb : M Fl} (hp : PassesOwn (model X.prog X.w) X.A X.env X.xe) (hc : X.calm = true) (hi : PI X tg iter (tI (kk X cm) E mi)) (hg : PG X tg (tT (kk X cm) g)) (hb : PSs X body (tS (kk X cm) E mb))
    (hs : ∀ x, foldedSetIterable iter X.env x = pure x := by intro _; rfl) : PS X (.For tg iter body [] pos) (tS (kk X cm) E (mFor mi g mb)) := PS.wk (ps_for hp hc hi hg hb hs) fun D σ H ⟨c, F, ρ, rel, h⟩ => ⟨c, F, ρ, rel, EndS.bind h fun items ρ1 J F1 H1 rel1 s1 ito h1 => by
  refine ⟨fun i m σ' H' => ∃ F2 ρ2, i ≤ items.length ∧ m = items.length - i ∧ Rel (kk X cm) c F2 H' σ' ρ2 ∧ Same F1 F2 ∧ EndS (kk X cm) E c F2 D (forL g mb (items.drop i) ρ2), ⟨_, F1, ρ1, Nat.zero_le _, rfl, rel1, Same.refl _, h1⟩, ?_⟩
  rintro i m σ2 H2 ⟨F2, ρ2, hle, rfl, rel2, s2, h2⟩
  obtain ⟨go, stop⟩ := ito c i F2 H2 σ2 ρ2 rel2 s2 fun b u e => (rel2.lent b u e).1
  by_cases hlt : i < items.length
  · obtain ⟨g1, g2⟩ := go items[i] (List.getElem?_eq_getElem hlt)
    rw [List.drop_eq_getElem_cons hlt] at h2
    unfold forL at h2
    refine .inr ⟨g1, _, fun σ' H' z => z, fun x H3 hy => ?_⟩
    obtain ⟨F3, rel3, s3, _, rp⟩ := g2 x H3 hy
    refine ⟨c, F3, ρ2, items[i], rel3, rp, ?_⟩
    cases eg : g items[i] ρ2 with
    | none => rw [eg] at h2; exact h2.elim
    | some ρ3 =>
      rw [eg] at h2
      dsimp only at h2
      intro σ4 rel4
      refine ⟨c, F3, ρ3, rel4, ?_⟩
      have nxt : ∀ {ρ4 : PSt}, EndS (kk X cm) E c F2 D (forL g mb (items.drop (i + 1)) ρ4) → ∀ σ' F' H', Rel (kk X cm) c F' H' σ' ρ4 → Same F3 F' → ∃ m', m' < items.length - i ∧ ∃ F2 ρ2, i + 1 ≤ items.length ∧ m' = items.length - (i + 1) ∧ Rel (kk X cm) c F2 H' σ' ρ2 ∧ Same F1 F2 ∧ EndS (kk X cm) E c F2 D (forL g mb (items.drop (i + 1)) ρ2) :=
        fun {ρ4} h3 σ' F' H' rel' s' => ⟨items.length - (i + 1), by omega, F', ρ4, hlt, rfl, rel', (s2.trans s3).trans s', EndS.mono h3 (s3.trans s')⟩
      have h2' := EndS.mono h2 s3
      cases e2 : mb ρ3 with
      | bad => rw [e2] at h2; exact h2
      | exc x ρ4 => rw [e2] at h2'; exact h2'
      | ok f ρ4 =>
        rw [e2] at h2 h2'
        cases f with
        | nx => exact nxt h2
        | ct => exact nxt h2
        | bk => exact h2'
        | rt r => exact h2'
  · have e : i = items.length := by omega
    refine .inl ⟨stop e, ?_⟩
    rw [List.drop_eq_nil_of_le (by omega)] at h2
    unfold forL at h2
    exact h2 σ2 F2 H2 rel2 (Same.refl _)⟩
end
end P
namespace P
open PySem PySem.Spec PyProof.Rows L2 M2 M3
inductive FR where
  | ret (r : RV) | exc (x : PX) | bad
abbrev MF := List Slot → FR
def FR.of : Res Fl → FR
  | .ok (.rt r) _ => .ret r
  | .ok .nx _ => .ret (.sh .non)
  | .exc x _ => .exc x
  | _ => .bad
def mDef (n k : Nat) (mb : M Fl) : MF := fun as => if as.length = n then FR.of (mb (startP k as)) else .bad
def rF (K : KK) (H F' H' : Hp) : RV → V → Prop
  | .sh p, v => Rep K F' p v
  | .ow ps, v => ∃ a vs, v = .ref a ∧ H' a = some (.lst vs) ∧ F' a = none ∧ H a = none ∧ RepL K F' ps vs
def EndF (K : KK) (E : XK) (F H : Hp) (Q : VK) : FR → Prop
  | .ret r => ∀ v F' H', Gr F H F' H' → rF K H F' H' r v → Q v H'
  | .exc x => ∀ C d F' H', Gr F H F' H' → RepX K F' x C d → E C d H'
  | .bad => False
def spP (K : KK) (n : Nat) (mf : MF) : Sp := fun vs H Q E => ∃ F as, as.length = n ∧ Same F H ∧ Paired (argOk K F H) as vs ∧ EndF K E F H Q (mf as)
def PassesS (CX : CXT) (X : Cx) (E : L2.St → XK) : Prop := ∀ (pins : List (Addr × Obj)) (σ : L2.St) (H : Hp) (s : Shared) (e : Value) (s' : Shared), Inv X pins σ H s → CX X.stack H s (E σ) e s' → X.xe e s'
theorem passS0 {X : Cx} {E : L2.St → XK} : PassesS CX0 X E := fun _ _ _ _ _ _ _ h => h.elim
section
variable {P : Program} {w : World} {K : PySem.W.Frag} {cm : String → Addr} {mg : Str → Option Value} {base : Heap} {CX : CXT}
theorem fnP {x qual : Str} {st : Stmt} {f : Addr} {fd : FuncData} {N ps : List Str} {k : Nat} {mb : M Fl} (F : Fun K x qual st f fd) (S : FnScope N ps (defScope st))
    (hbody : ∀ (cdv : Value) (A : Around) (outer : List Env) (s : Shared) (H : Hp) (E : XK), Room k (A.deeper (envOfC qual (defScope st) s.heap.objs.size f cdv)) →
      PSs (cxOf CX P w K mg base N qual (defScope st) f cdv A outer s H E) (defBody st) (tS ⟨K, cm⟩ (fun _ => E) mb)) : FnOk P w K mg base CX (k + 1) f fd ps (spP ⟨K, cm⟩ ps.length (mDef ps.length N.length mb)) := by
  obtain ⟨oc, od, kV, doc, pm, an, cdv, ct, osl, rfl, lk, hcd⟩ := F.ex
  refine fn_of lk hcd S (fun vs H Q E ⟨F, ps', h1, _, h2, _⟩ => by rw [← Paired.length h2]; exact h1) fun A outer s H vs Q E hr hsp => ?_
  obtain ⟨F, ps', h1, h2, h3, h4⟩ := hsp
  refine ⟨_, hbody cdv A outer s H E hr, ctx0 F H, F, startP N.length ps', Rel.start h2 h3, ?_⟩
  unfold mDef at h4
  rw [if_pos h1] at h4
  cases e : mb (startP N.length ps') with
  | bad => rw [e] at h4; exact h4
  | exc x ρ' => rw [e] at h4; exact fun σ' C d F' H' rel s1 q => h4 C d F' H' rel.gr q
  | ok fl ρ' =>
    rw [e] at h4
    cases fl with
    | nx => exact fun σ' F' H' rel s1 => h4 .non F' H' rel.gr (Rep.non (K := ⟨K, cm⟩) (F := F'))
    | bk => exact h4.elim
    | ct => exact h4.elim
    | rt r =>
      intro v σ' F' H' rel s1 q
      refine h4 v F' H' rel.gr ?_
      cases r with
      | sh p => exact q
      | ow qs =>
        obtain ⟨a, vs', e1, e2, e3, e4, _, e5⟩ := q
        exact ⟨a, vs', e1, e2, e3, e4, e5⟩
theorem fnQ {x qual : Str} {st : Stmt} {f : Addr} {fd : FuncData} {N ps : List Str} {k n j : Nat} {mb : M Fl} {mf : MF} (F : Fun K x qual st f fd) (S : FnScope N ps (defScope st)) (hn : ps.length = n) (hj : N.length = j) (hf : mf = mDef n j mb)
    (hbody : ∀ (cdv : Value) (A : Around) (outer : List Env) (s : Shared) (H : Hp) (E : XK), Room k (A.deeper (envOfC qual (defScope st) s.heap.objs.size f cdv)) →
      PSs (cxOf CX P w K mg base N qual (defScope st) f cdv A outer s H E) (defBody st) (tS ⟨K, cm⟩ (fun _ => E) mb)) : FnOk P w K mg base CX (k + 1) f fd ps (spP ⟨K, cm⟩ n mf) := by
  subst hn hj hf
  exact fnP F S hbody
end
def mCall (mf : MF) (mr : M (List Slot)) : M RV := fun ρ => (mr ρ).bind fun ps ρ1 => match mf ps with
  | .ret r => .ok r ρ1
  | .exc x => .exc x ρ1
  | .bad => .bad
section
variable {X : Cx} {cm : String → Addr} {E : L2.St → XK} {CX : CXT} {k n : Nat} {f : Addr} {fd : FuncData} {ps : List Str} {mf : MF} {mr : M (List Slot)} {x : Str} {p pos : Pos} {e : Expr} {es : List Expr}
theorem run_fnS {sp : Sp} {pins : List (Addr × Obj)} {σ : L2.St} {H : Hp} {s : Shared} {Q : VK} {us : List Value} {vs : List V} (F : FnOk X.prog X.w X.K X.mg X.base CX k f fd ps sp) (hr : Room k X.A) (hb : Binds X.K fd ps []) (hx : PassesS CX X E)
    (I : Inv X pins σ H s) (r : Vals vs us) (h : sp vs H Q (E σ)) : wpAny (model X.prog X.w) X.A (call (.ref f) us) (EP X pins σ Q) X.xe s := by
  have hl : (us ++ []).length = ps.length := by rw [List.append_nil, ← r.length]; exact F.len _ _ _ _ h
  have hbd := hb s us I.kIn hl
  rw [List.append_nil] at hbd
  refine wpAny_call (codeAny_mono (F.run X.A X.stack s H ⟨us, []⟩ us vs Q (E σ) hr I.env0 hbd r h) fun r s' hq => ?_)
  cases r with
  | error e => exact hx pins σ H s e s' I hq
  | ok fl =>
    cases fl with
    | ret u => exact I.after hq
    | next => exact False.elim hq
    | brk => exact False.elim hq
    | cont => exact False.elim hq
theorem call_end {c : Ctx} {F1 H1 : Hp} {σ : L2.St} {ρ1 : PSt} {Q : VK} {ps : List Slot} {vs : List V} (hlen : (∃ r, mf ps = r ∧ ∀ z, r = z → z ≠ .bad) → ps.length = n) (rel1 : Rel (kk X cm) c F1 H1 σ ρ1) (r1 : Paired (argOk (kk X cm) F1 H1) ps vs)
    (h : EndG (kk X cm) E (rO (kk X cm)) c F1 H1 σ Q (match mf ps with | .ret r => .ok r ρ1 | .exc x => .exc x ρ1 | .bad => .bad)) : spP (kk X cm) n mf vs H1 Q (E σ) := by
  refine ⟨F1, ps, ?_, rel1.sub, r1, ?_⟩
  · refine hlen ⟨_, rfl, fun z hz hb => ?_⟩
    rw [hz, hb] at h
    exact h
  · cases em : mf ps with
    | bad => rw [em] at h; exact h
    | exc x => rw [em] at h; exact fun C d F' H' g rx => h C d F' H' (rel1.call g) g.f rx
    | ret r =>
      rw [em] at h
      intro v F' H' g rf
      refine h v F' H' (rel1.call g) g.f g.h ?_
      cases r with
      | sh p => exact rf
      | ow qs =>
        obtain ⟨a, vs', e1, e2, e3, e4, e5⟩ := rf
        exact ⟨a, vs', e1, e2, e3, rel1.base.free e4, rel1.fresh e4, e5⟩
theorem mDef_len {n k : Nat} {mb : M Fl} {ps : List Slot} (h : ∃ r, mDef n k mb ps = r ∧ ∀ z, r = z → z ≠ .bad) : ps.length = n := by
  obtain ⟨r, h1, h2⟩ := h
  unfold mDef at h1
  by_cases hl : ps.length = n
  · exact hl
  · rw [if_neg hl] at h1
    exact absurd h1.symm (fun z => h2 .bad (by rw [← h1]) rfl)
theorem o_call (F : FnOk X.prog X.w X.K X.mg X.base CX k f fd ps (spP (kk X cm) n mf)) (hlen : ∀ {ps : List Slot}, (∃ r, mf ps = r ∧ ∀ z, r = z → z ≠ .bad) → ps.length = n) (hr : Room k X.A) (hg : Gl X x) (hm : X.mg x = some (.ref f)) (hk : PySem.W.keepIn X.K (.ref f) = true) (hb : Binds X.K fd ps []) (hx : PassesS CX X E)
    (ha : PA X (e :: es) (tA (kk X cm) E mr)) (hdb : (x == ("__debug__" : Str)) = false := by decide) (he : starEach (e :: es) X.env = (false, eval e X.env) :: starEach es X.env := by rfl) (hpl : (backTo pos (starEach es X.env)).any (·.1) = false := by rfl) :
    PE X (.Call (.Name x p) (e :: es) [] pos) (tO (kk X cm) E (mCall mf mr)) := by
  intro pins s σ H Q I h
  obtain ⟨c, F, ρ, rel, h⟩ := h
  refine wpAny_Call_Name_kw (ld_glob I hg hm ?_ hdb)
  refine PySem.W.callWith_K (h₀ := X.base) I.ok.mod.kin hk (thn (ha pos pins s σ H (fun vs H1 => spP (kk X cm) n mf vs H1 Q (E σ)) I ⟨c, F, ρ, rel, h.bind fun ps' ρ1 vs F1 H1 rel1 _ _ r1 h1 => call_end hlen rel1 r1 h1⟩) fun us s1 ⟨vs, H1, I1, r, q⟩ => ⟨I1.kIn, ?_⟩) he hpl
  exact run_fnS (by assumption) hr hb hx I1 r q
end
def mItems (m : M PV) : M (List PV) := fun ρ => (m ρ).bind fun p ρ1 => match p with
  | .lst ps => .ok ps ρ1
  | .tup ps => .ok ps ρ1
  | .str z => .ok (z.cps.toList.map fun c => .str ⟨#[c]⟩) ρ1
  | _ => .bad
section
variable {X : Cx} {cm : String → Addr} {E : L2.St → XK} {tg : Expr}
def iSeq (K : PySem.W.Frag) (tl : TE) : TI := fun σ H R => tl σ H fun x H1 => (∃ a, x = .ref a ∧ (∃ xs, SqL K H1 a xs) ∧ R (Itl K a) H1) ∨ (∃ a, x = .ref a ∧ (∃ xs, SqT K H1 a xs) ∧ R (Itt K a) H1) ∨ ∃ z, x = .str z ∧ R (Its z) H1
theorem pi_seq {l : Expr} {tl : TE} (hl : PE X l tl) : PI X tg l (iSeq X.K tl) := by
  intro pins s σ H R I h
  refine thn (hl pins s σ H _ I h) fun v s1 ⟨x, H1, I1, r1, q1⟩ => ?_
  rcases q1 with ⟨a, e, ⟨xs, hq⟩, q⟩ | ⟨a, e, ⟨xs, hq⟩, q⟩ | ⟨z, e, q⟩
  · subst e
    cases r1
    obtain ⟨its, rv, p, hz⟩ := I1.list hq
    refine wpAny_pyIter_list p.isList ?_
    refine ⟨s1.heap.objs.size, [s1.heap.objs.size], _, _, H1, rfl, I1.kept (t' := s1.toks) fun b o e => Heap.get?_push_of_some _ e, turn_list a _, ⟨_, Heap.get?_push_size _ rfl, rfl, rfl⟩, fun b hb => ?_, q⟩
    have e : b = s1.heap.objs.size := by simpa using hb
    subst e
    exact I1.fpOk (Nat.le_refl _) (I1.hok.fresh (Nat.le_refl _))
  · subst e
    cases r1
    obtain ⟨its, rv, p, hz⟩ := I1.tuple hq
    refine wpAny_pyIter_tuple (show s1.heap.IsTuple a its.toArray from p) ?_
    refine ⟨s1.heap.objs.size, [s1.heap.objs.size], _, _, H1, rfl, I1.kept (t' := s1.toks) fun b o e => Heap.get?_push_of_some _ e, turn_tuple a _, ⟨_, Heap.get?_push_size _ rfl, rfl, rfl⟩, fun b hb => ?_, q⟩
    have e : b = s1.heap.objs.size := by simpa using hb
    subst e
    exact I1.fpOk (Nat.le_refl _) (I1.hok.fresh (Nat.le_refl _))
  · subst e
    obtain ⟨t, rfl⟩ := r1
    have fin : ∀ ty, (∀ A : Around, A.handled = none → Walks X.prog X.w A s1.heap.objs.size [s1.heap.objs.size] [s1.heap.objs.size] z.cps.size (SignAt z) (fun i h => h.IsStrIter s1.heap.objs.size ty z t i)) →
        (∀ (A : Around) (i : Nat) (s : Shared) (Q : Value → Shared → Prop) (E : Value → Shared → Prop), s.heap.IsStrIter s1.heap.objs.size ty z t i → Q (.ref s1.heap.objs.size) s → wpAny (model X.prog X.w) A (pyIter (.ref s1.heap.objs.size)) Q E s) →
        (["enumerate", "zip", "dict_itemiterator", "dict_reverseitemiterator", "odict_iterator", "itertools.zip_longest", "itertools.pairwise"].contains ty = false) →
        PIE X pins σ tg R (.ref s1.heap.objs.size) { s1 with heap := s1.heap.push { cls := .type ty, data := .fields #[.str z t, .int 0 0] } } := fun ty hW hS hty => by
      refine ⟨s1.heap.objs.size, [s1.heap.objs.size], _, _, H1, rfl, I1.kept (t' := s1.toks) fun b o e => Heap.get?_push_of_some _ e, turn_strW _ z t ty hW hS hty, ⟨_, Heap.get?_push_size _ rfl, rfl, rfl⟩, fun b hb => ?_, q⟩
      have e : b = s1.heap.objs.size := by simpa using hb
      subst e
      exact I1.fpOk (Nat.le_refl _) (I1.hok.fresh (Nat.le_refl _))
    cases ha : z.cps.all (· < 128) with
    | true => exact wpAny_pyIter_ascii ha (fin _ (fun A hA => Walks.strAscii hA _ z t) (fun A i s Q E st q => wpAny_pyIter_striter_ascii st q) (by decide))
    | false => exact wpAny_pyIter_wide ha (fin _ (fun A hA => Walks.strWide hA _ z t) (fun A i s Q E st q => wpAny_pyIter_striter_wide st q) (by decide))
theorem i_seq {l : Expr} {m : M PV} (hl : PE X l (tV (kk X cm) E m)) : PI X tg l (tI (kk X cm) E (mItems m)) := fun pins s σ H R I h => pi_seq hl pins s σ H R I (by
  obtain ⟨c, F, ρ, rel, h⟩ := h
  refine ⟨c, F, ρ, rel, h.bind fun p ρ1 v F1 H1 rel1 s1 s2 q h1 => ?_⟩
  cases p with
  | lst ps =>
    have q' : Rep (kk X cm) F1 (.lst ps) v := q
    unfold Rep at q'
    obtain ⟨a, vs, rfl, e1, e2⟩ := q'
    refine .inl ⟨a, rfl, ⟨vs, rel1.sub.seq e1⟩, h1 _ F1 H1 rel1 (Same.refl _) (Same.refl _) ?_⟩
    intro c' i F2 H2 σ2 ρ2 rel2 sF _
    have hq : SqL X.K H2 a vs := (sF.trans rel2.sub).seq e1
    refine ⟨fun p hp => ?_, fun hi => ⟨vs, hq, by rw [hi, e2.length]; exact Nat.le_refl _⟩⟩
    obtain ⟨u, hu, ru⟩ := pr_get e2.pr hp
    refine ⟨⟨vs, u, hq, hu⟩, fun x H' ⟨hH, hx⟩ => ?_⟩
    subst hH
    have : vs[i]? = some x := hx vs hq
    rw [hu] at this
    cases this
    exact ⟨F2, rel2, Same.refl _, Same.refl _, Rep.same sF p u ru⟩
  | tup ps =>
    have q' : Rep (kk X cm) F1 (.tup ps) v := q
    unfold Rep at q'
    obtain ⟨a, vs, rfl, e1, e2⟩ := q'
    refine .inr (.inl ⟨a, rfl, ⟨vs, Same.tup rel1.sub e1⟩, h1 _ F1 H1 rel1 (Same.refl _) (Same.refl _) ?_⟩)
    intro c' i F2 H2 σ2 ρ2 rel2 sF _
    have hq : SqT X.K H2 a vs := Same.tup (sF.trans rel2.sub) e1
    refine ⟨fun p hp => ?_, fun hi => ⟨vs, hq, by rw [hi, e2.length]; exact Nat.le_refl _⟩⟩
    obtain ⟨u, hu, ru⟩ := pr_get e2.pr hp
    refine ⟨⟨vs, u, hq, hu⟩, fun x H' ⟨hH, hx⟩ => ?_⟩
    subst hH
    have : vs[i]? = some x := hx vs hq
    rw [hu] at this
    cases this
    exact ⟨F2, rel2, Same.refl _, Same.refl _, Rep.same sF p u ru⟩
  | str z =>
    have q' : v = .str z := by have q' : Rep (kk X cm) F1 (.str z) v := q; unfold Rep at q'; exact q'
    subst q'
    refine .inr (.inr ⟨z, rfl, h1 _ F1 H1 rel1 (Same.refl _) (Same.refl _) ?_⟩)
    intro c' i F2 H2 σ2 ρ2 rel2 sF _
    refine ⟨fun p hp => ?_, fun hi => by rw [hi, List.length_map]; show _ = _; simp⟩
    rw [List.getElem?_map] at hp
    cases ez : z.cps.toList[i]? with
    | none => rw [ez] at hp; cases hp
    | some cc =>
      rw [ez] at hp
      cases hp
      refine ⟨by have := (List.getElem?_eq_some_iff.mp ez).1; show i < z.cps.size; simpa using this, fun x H' ⟨hH, c2, hc, hx⟩ => ?_⟩
      subst hH hx
      rw [ez] at hc
      cases hc
      exact ⟨F2, rel2, Same.refl _, Same.refl _, Rep.str⟩
  | _ => exact h1.elim)
def mIterN (i : Nat) : M (List PV) := fun ρ => match ρ[i]? with
  | some (.bw ps) => .ok ps ρ
  | some (.sh (.lst ps)) => .ok ps ρ
  | some (.sh (.tup ps)) => .ok ps ρ
  | some (.sh (.str z)) => .ok (z.cps.toList.map fun c => .str ⟨#[c]⟩) ρ
  | some (.ow ps) => .ok ps (ρ.set i (.sh (.lst ps)))
  | _ => .bad
theorem i_name (i : Nat) {x : Str} {px : Pos} (hN : X.N[i]? = some x := by rfl) (hv : Vis X.env.scope x := by first | exact Or.inl rfl | exact Or.inr (Or.inl rfl) | exact Or.inr (Or.inr rfl)) (hd : (x == ("__debug__" : Str)) = false := by decide)
    (hcd : (x == ("__classdict__" : Str)) = false := by decide) : PI X tg (.Name x px) (tI (kk X cm) E (mIterN i)) := fun pins s σ H R I h => by
  obtain ⟨c, F, ρ, rel, h⟩ := h
  cases e : ρ[i]? with
  | none => unfold mIterN at h; rw [e] at h; exact h.elim
  | some sl =>
    have viaV : EndG (kk X cm) E (rIt (kk X cm)) c F H σ R (mItems (mVarV i) ρ) → wpAny (model X.prog X.w) X.A (eval (.Name x px) X.env) (fun v s1 => wpAny (model X.prog X.w) X.A (pyIter v) (PIE X pins σ tg R) X.xe s1) X.xe s := fun h' =>
      i_seq (v_var i hN hv hd hcd) pins s σ H R I ⟨c, F, ρ, rel, h'⟩
    unfold mIterN at h
    rw [e] at h
    cases sl with
    | no => exact h.elim
    | rc C ns ps => exact h.elim
    | ow ps => exact viaV (by unfold mItems mVarV; rw [e]; exact h)
    | sh p =>
      cases p with
      | lst ps => exact viaV (by unfold mItems mVarV; rw [e]; exact h)
      | tup ps => exact viaV (by unfold mItems mVarV; rw [e]; exact h)
      | str z => exact viaV (by unfold mItems mVarV; rw [e]; exact h)
      | _ => exact h.elim
    | bw ps =>
      obtain ⟨a, vs, h1, h2, h3⟩ := rel.slot i _ e
      refine pi_seq (pe_var hN hv hd hcd) pins s σ H R I ⟨.ref a, at_of h1, .inl ⟨a, rfl, ⟨vs, SqL.of (rel.lent a _ h2).1⟩, h _ F H rel (Same.refl _) (Same.refl _) ?_⟩⟩
      intro c' j F2 H2 σ2 ρ2 rel2 sF sL
      have hq : SqL X.K H2 a vs := SqL.of (sL a _ h2)
      refine ⟨fun p hp => ?_, fun hi => ⟨vs, hq, by rw [hi, h3.length]; exact Nat.le_refl _⟩⟩
      obtain ⟨u, hu, ru⟩ := pr_get h3.pr hp
      refine ⟨⟨vs, u, hq, hu⟩, fun x H' ⟨hH, hx⟩ => ?_⟩
      subst hH
      have : vs[j]? = some x := hx vs hq
      rw [hu] at this
      cases this
      exact ⟨F2, rel2, Same.refl _, Same.refl _, Rep.same sF p u ru⟩
def rangeL (lo : Int) (n : Nat) (c : Int) : List PV := (List.range n).map fun (i : Nat) => .int (lo + i * c)
def smallI (i : Int) : Bool := decide (-(2 ^ 60) ≤ i) && decide (i < 2 ^ 60)
def rngF3 : List PV → Option (List PV)
  | [.int i, .int j, .int c] => if (smallI i = true ∧ smallI j = true) ∧ 0 < c ∧ c < 1000000 then some (rangeL i (Builtin.Range.rangeSize i j c).toNat c) else none
  | _ => none
def mRange (f : List PV → Option (List PV)) (mr : M (List PV)) : M (List PV) := fun ρ => (mr ρ).bind fun ps ρ1 => Res.ofO (f ps) ρ1
theorem rangeL_get {lo c : Int} {n i : Nat} {p : PV} (h : (rangeL lo n c)[i]? = some p) : i < n ∧ p = .int (lo + i * c) := by
  unfold rangeL at h
  by_cases hn : i < n
  · rw [List.getElem?_map, List.getElem?_range hn] at h
    exact ⟨hn, (Option.some.inj h).symm⟩
  · rw [List.getElem?_eq_none (by simpa using hn)] at h
    cases h
theorem rangeL_len {lo c : Int} {n : Nat} : (rangeL lo n c).length = n := by simp [rangeL]
theorem it_itc {K : KK} {Lh F : Hp} (lo c' : Int) (n : Nat) : ItOk K Lh F (Itc lo c' n) (rangeL lo n c') := fun c i F2 H σ ρ rel sF _ =>
  ⟨fun p hp => by
    obtain ⟨h1, rfl⟩ := rangeL_get hp
    refine ⟨h1, fun x H' ⟨e1, e2⟩ => ?_⟩
    subst e1 e2
    exact ⟨F2, rel, Same.refl _, Same.refl _, Rep.int⟩, fun hi => by rw [rangeL_len] at hi; subst hi; exact Nat.le_refl _⟩
theorem smallI_is {i : Int} (h : smallI i = true) : -(2 ^ 60) ≤ i ∧ i < 2 ^ 60 := by
  unfold smallI at h
  simpa using h
variable {a b d : Expr} {p pos : Pos} {mr : M (List PV)}
theorem rl_int {K : KK} {F : Hp} {ps : List PV} {vs : List V} (h : RepL K F ps vs) : (∀ i r, ps = .int i :: r → ∃ r', vs = .int i :: r' ∧ RepL K F r r') ∧ (ps = [] → vs = []) := by
  refine ⟨fun i r e => ?_, fun e => ?_⟩
  · subst e
    unfold RepL at h
    obtain ⟨x, r', h1, h2, h3⟩ := h
    unfold Rep at h2
    exact ⟨r', by rw [h1, h2], h3⟩
  · subst e
    unfold RepL at h
    exact h
theorem i_range3 (hg : Gl X "range") (hm : X.mg "range" = none) (ha : PA X [a, b, d] (tL (kk X cm) E mr)) (hs : starEach [a, b, d] X.env = [(false, eval a X.env), (false, eval b X.env), (false, eval d X.env)] := by rfl)
    (hs2 : starEach [b, d] X.env = [(false, eval b X.env), (false, eval d X.env)] := by rfl) : PI X tg (.Call (.Name "range" p) [a, b, d] [] pos) (tI (kk X cm) E (mRange rngF3 mr)) :=
  fun pins s σ H R I h => pi_range3 hg hm ha hs hs2 pins s σ H R I (by
    obtain ⟨c, F, ρ, rel, h⟩ := h
    refine ⟨c, F, ρ, rel, h.bind fun ps ρ1 vs F1 H1 rel1 s1 s2 q h1 => ?_⟩
    have q' : RepL (kk X cm) F1 ps vs := q
    unfold rngF3 at h1
    split at h1
    · rename_i i j k
      split at h1
      · rename_i hj
        obtain ⟨r', e1, e2⟩ := (rl_int q').1 _ _ rfl
        obtain ⟨r2, e3, e4⟩ := (rl_int e2).1 _ _ rfl
        obtain ⟨r3, e5, e6⟩ := (rl_int e4).1 _ _ rfl
        cases (rl_int e6).2 rfl
        subst e3
        subst e5
        subst e1
        obtain ⟨k1, k2⟩ := smallI_is hj.1.1
        obtain ⟨k3, k4⟩ := smallI_is hj.1.2
        exact ⟨⟨k1, k2, k3, k4, hj.2.1, hj.2.2⟩, h1 _ F1 H1 rel1 (Same.refl _) (Same.refl _) (it_itc i k _)⟩
      · exact h1.elim
    · exact h1.elim)
end
def capS : Slot → Slot
  | .sh p => .sh p
  | .ow ps => .bw ps
  | .bw ps => .bw ps
  | _ => .no
def capP (js : List Nat) (nl : Nat) (ρ : PSt) : PSt := js.map (fun (j : Nat) => capS ((ρ[j]?).getD .no)) ++ List.replicate nl .no
def compL (g : Tg) (mt : M Bool) (me : M PV) : List PV → PSt → List PV → Option (List PV)
  | [], _, acc => some acc
  | p :: ps, ρ, acc => match g p ρ with
    | none => none
    | some ρ1 => match mt ρ1 with
      | .ok true ρ2 => match me ρ2 with
        | .ok q ρ3 => if acc.length < 16777216 then compL g mt me ps ρ3 (acc ++ [q]) else none
        | _ => none
      | .ok false ρ2 => compL g mt me ps ρ2 acc
      | _ => none
def mComp (js : List Nat) (nl : Nat) (mi : M (List PV)) (g : Tg) (mt : M Bool) (me : M PV) : M RV := fun ρ => (mi ρ).bind fun items ρ1 => match compL g mt me items (capP js nl ρ1) [] with
  | some ps => .ok (.ow ps) ρ1
  | none => .bad
def mYes : M Bool := fun ρ => .ok true ρ
section
variable {K : KK} {c : Ctx} {F H : Hp} {σ : L2.St} {ρ : PSt}
end
section
variable {X : Cx} {cm : String → Addr} {E : L2.St → XK} {elt tg iter : Expr} {ifs : List Expr} {scope : Scope} {pos : Pos} {mi : M (List PV)} {g : Tg} {mt : M Bool} {me : M PV}
end
end P
namespace P
open PySem PySem.Spec PyProof.Rows L2 M2 M3 M4
abbrev bits (x : Int) : Nat := Builtin.Int.intBits x
section
variable {X : Cx} {cm : String → Addr} {K : KK}
def rCatR (K : PySem.W.Frag) : R2 := fun x y H Q => ∃ l b xs zs, x = .ref l ∧ y = .ref b ∧ SqL K H l xs ∧ SqL K H b zs ∧ xs.length + zs.length ≤ sizeLine ∧ ∀ p, H p = none → Q (.ref p) (upd H p (.lst (xs ++ zs)))
theorem op_catR : OpR X (binaryOp .Add) (rCatR X.K) := by
  intro pins s σ H x y v u Q I rx ry h
  obtain ⟨l, b, xs, zs, rfl, rfl, hH, hB, hz, q⟩ := h
  cases rx
  cases ry
  obtain ⟨its, r, pl, z⟩ := I.list hH
  obtain ⟨its2, r2, pl2, z2⟩ := I.list hB
  obtain ⟨⟨c1, d1, t1, sl1⟩, n, e, hc, hd, hs⟩ := pl
  obtain ⟨⟨c2, d2, t2, sl2⟩, n2, e2, hc2, hd2, hs2⟩ := pl2
  simp only at hc hd hs hc2 hd2 hs2
  subst hc hd hs hc2 hd2 hs2
  have hl := r.length
  have hl2 := r2.length
  have ea : its.toArray ++ its2.toArray = (its ++ its2).toArray := by simp
  refine concat_meets ⟨_, e, rfl⟩ ⟨_, e2, rfl⟩ noFill_list_add seq_list_add PySem.F.slot_list_add PySem.F.entry_list_add (PySem.F.args_list_add_2 _ _) (list_addW l b its.toArray its2.toArray n n2 none none sl1 sl2 (by simp only [List.size_toArray]; omega)) ⟨e, e2, ?_⟩
  rw [ea]
  exact ⟨.ref _, _, I.lnew (t' := s.toks) (r.append r2) (by rw [List.length_append]; omega), rfl, q _ I.fresh⟩
def opAdd : PV → PV → Option RV
  | .int i, .int j => some (.sh (.int (i + j)))
  | .str i, .str j => if i.length + j.length ≤ 16777216 then some (.sh (.str (i ++ j))) else none
  | .lst ps, .lst qs => if ps.length + qs.length ≤ 16777216 then some (.ow (ps ++ qs)) else none
  | _, _ => none
def rAddA (K : PySem.W.Frag) : R2 := fun x y H Q => mAdd x y H Q ∨ rCatR K x y H Q
theorem or_add : OpR X (binaryOp .Add) (rAddA X.K) := om_add.or op_catR
theorem ov_add : OpO K (rAddA K.K) opAdd := by
  intro c F H σ ρ p q pv v u Q rel r1 r2 e k
  unfold opAdd at e
  split at e
  · cases e
    cases r1.int
    cases r2.int
    exact .inl (k _ F H rel (Same.refl _) (Same.refl _) (Rep.int (K := K) (F := F)))
  · split at e
    · rename_i hz
      cases e
      cases r1.str
      cases r2.str
      exact .inl ⟨by rw [sizeLine_is]; exact hz, k _ F H rel (Same.refl _) (Same.refl _) (Rep.str (K := K) (F := F))⟩
    · cases e
  · split at e
    · rename_i hz
      cases e
      obtain ⟨a, xs, rfl, h1, h2⟩ := r1.lst rel.sub
      obtain ⟨b, ys, rfl, h3, h4⟩ := r2.lst rel.sub
      refine .inr ⟨a, b, xs, ys, rfl, rfl, h1, h3, by rw [← h2.length, ← h4.length, sizeLine_is]; exact hz, fun d hd => ?_⟩
      obtain ⟨q1, q2⟩ := held_new rel hd (RepL.append h2 h4)
      exact k _ F _ q1 (Same.refl _) (Same.upd hd) q2
    · cases e
  · cases e
def opI0 (g : Int → Int → Int) : PV → PV → Option PV
  | .int i, .int j => some (.int (g i j))
  | _, _ => none
def opI (C : Int → Int → Bool) (g : Int → Int → Int) : PV → PV → Option PV
  | .int i, .int j => if C i j = true then some (.int (g i j)) else none
  | _, _ => none
def opC (g : Int → Int → Bool) : PV → PV → Option PV
  | .int i, .int j => some (.bl (g i j))
  | _, _ => none
theorem ov_I0 {g : Int → Int → Int} : OpV K (mI0 fun i j => .int (g i j)) (opI0 g) := by
  intro c F H σ ρ p q pv v u Q rel r1 r2 e k
  unfold opI0 at e
  split at e
  · cases e
    cases r1.int
    cases r2.int
    exact k _ F H rel (Same.refl _) (Same.refl _) Rep.int
  · cases e
theorem ov_C {g : Int → Int → Bool} : OpV K (mI0 fun i j => .bl (g i j)) (opC g) := by
  intro c F H σ ρ p q pv v u Q rel r1 r2 e k
  unfold opC at e
  split at e
  · cases e
    cases r1.int
    cases r2.int
    exact k _ F H rel (Same.refl _) (Same.refl _) Rep.bl
  · cases e
theorem ov_I {C : Int → Int → Bool} {C' : Int → Int → Prop} {g : Int → Int → Int} (hC : ∀ i j, C i j = true → C' i j) : OpV K (mI C' fun i j => .int (g i j)) (opI C g) := by
  intro c F H σ ρ p q pv v u Q rel r1 r2 e k
  unfold opI at e
  split at e
  · split at e
    · rename_i hc
      cases e
      cases r1.int
      cases r2.int
      exact ⟨hC _ _ hc, k _ F H rel (Same.refl _) (Same.refl _) Rep.int⟩
    · cases e
  · cases e
def opSub := opI0 fun i j => i - j
theorem ov_sub : OpV K (mI0 fun i j => .int (i - j)) opSub := ov_I0
def fdvOk (_ j : Int) : Bool := decide (j ≠ 0) && decide (bits j ≤ 8000)
def opFdv := opI fdvOk fun i j => i.fdiv j
theorem ov_fdv : OpV K (mI CFdv fun i j => .int (i.fdiv j)) opFdv := ov_I fun i j h => by unfold fdvOk at h; simpa [CFdv] using h
def modOk (_ j : Int) : Bool := decide (j ≠ 0)
def opMod := opI modOk fun i j => i.fmod j
theorem ov_mod : OpV K (mI (fun _ j => j ≠ 0) fun i j => .int (i.fmod j)) opMod := ov_I fun i j h => by unfold modOk at h; simpa using h
def powOk (i j : Int) : Bool := decide (0 ≤ j) && decide (j ≤ 1000000) && decide (i.natAbs < 2 ^ 64)
def opPow := opI powOk fun i j => i ^ j.toNat
theorem ov_pow : OpV K (mI CPow fun i j => .int (i ^ j.toNat)) opPow := ov_I fun i j h => by
  unfold powOk at h
  simp only [Bool.and_eq_true, decide_eq_true_eq] at h
  exact ⟨h.1.1, h.1.2, h.2⟩
def shlOk (i j : Int) : Bool := decide (0 ≤ j) && decide (j ≤ 1000000) && decide (i.natAbs < 2 ^ 64)
def opShl := opI shlOk fun i j => i * 2 ^ j.toNat
def shrOk (_ j : Int) : Bool := decide (0 ≤ j)
def opShr := opI shrOk fun i j => i / 2 ^ j.toNat
def opLt := opC fun i j => decide (i < j)
def opLe := opC fun i j => decide (i ≤ j)
def opGt := opC fun i j => decide (j < i)
def opGe := opC fun i j => decide (j ≤ i)
theorem ov_le : OpV K (mI0 fun i j => .bl (decide (i ≤ j))) opLe := ov_C
def mulOk (i j : Int) : Bool := (decide (-(2 ^ 64) < i) && decide (i < 2 ^ 64)) || (decide (-(2 ^ 64) < j) && decide (j < 2 ^ 64)) || (decide (bits i ≤ 1048576) && decide (bits j ≤ 1048576))
theorem mulOk_is {i j : Int} (h : mulOk i j = true) : CMulB i j := by
  unfold mulOk at h
  simp only [Bool.or_eq_true, Bool.and_eq_true, decide_eq_true_eq] at h
  rcases h with (h | h) | h
  · exact .inl (.inl h)
  · exact .inl (.inr h)
  · exact .inr h
def opMulI : PV → PV → Option PV
  | .int i, .int j => if mulOk i j = true then some (.int (i * j)) else none
  | .str z, .int n => if 0 ≤ n ∧ n ≤ 1000 ∧ z.length ≤ 1000 then some (.str (S (List.replicate n.toNat z.cps.toList).flatten)) else none
  | _, _ => none
theorem ov_mul : OpV K mMulS opMulI := by
  intro c F H σ ρ p q pv v u Q rel r1 r2 e k
  unfold opMulI at e
  split at e
  · split at e
    · rename_i hc
      cases e
      cases r1.int
      cases r2.int
      exact ⟨mulOk_is hc, k _ F H rel (Same.refl _) (Same.refl _) Rep.int⟩
    · cases e
  · split at e
    · rename_i hc
      cases e
      cases r1.str
      cases r2.int
      exact ⟨hc, k _ F H rel (Same.refl _) (Same.refl _) Rep.str⟩
    · cases e
  · cases e
def mRepL (mr : M (List PV)) (mk : M PV) : M RV := fun ρ => (mr ρ).bind fun ps ρ1 => if ps.length ≤ 16777216 then (mk ρ1).bind fun q ρ2 => match q with
  | .int k => if -(2 ^ 60) ≤ k ∧ k < 2 ^ 60 ∧ ps.length * k.toNat ≤ 16777216 then .ok (.ow (List.replicate k.toNat ps).flatten) ρ2 else .bad
  | _ => .bad else .bad
theorem pr_flat {α β : Type} {G : α → β → Prop} {l : List α} {m : List β} (h : Paired G l m) : ∀ k : Nat, Paired G (List.replicate k l).flatten (List.replicate k m).flatten
  | 0 => .nil
  | k + 1 => by
    rw [List.replicate_succ, List.replicate_succ, List.flatten_cons, List.flatten_cons]
    exact pr_app h (pr_flat h k)
variable {E : L2.St → XK} {a b e : Expr} {es : List Expr} {pos : Pos} {ma mb : M PV} {mr : M (List PV)}
theorem o_rep {p2 : Pos} (ha : PA X es (tL (kk X cm) E mr)) (hb : PE X b (tR (kk X cm) E mb)) : PE X (.BinOp (.List es p2) .Mult b pos) (tO (kk X cm) E (mRepL mr mb)) := PE.wk (pe_op op_rep (pe_lst ha) hb) fun σ H Q ⟨c, F, ρ, rel, h⟩ =>
  ⟨c, F, ρ, rel, h.bind fun ps ρ1 vs F1 H1 rel1 _ _ r1 h1 => by
    split at h1
    · rename_i hz
      refine ⟨by rw [← RepL.length r1, sizeLine_is]; exact hz, fun d hd => ?_⟩
      refine ⟨c, F1, ρ1, rel1.made hd, EndG.bind (EndG.mono h1 (Same.refl _) (Same.upd hd)) fun q ρ2 u F2 H2 rel2 sF sH r2 h2 => ?_⟩
      cases q with
      | int k =>
        dsimp only at h2
        cases r2.int
        split at h2
        · rename_i hk
          have hl := RepL.length r1
          refine ⟨d, k, vs, rfl, rfl, sH _ _ upd_same, by omega, by omega, by rw [← hl, sizeLine_is]; exact hk.2.2, fun d2 hd2 => ?_⟩
          obtain ⟨q1, q2⟩ := held_new rel2 hd2 (RepL.of (pr_flat (RepL.same sF ps vs r1).pr k.toNat))
          exact h2 _ F2 _ q1 (Same.refl _) (Same.upd hd2) q2
        · exact h2.elim
      | _ => exact h2.elim
    · exact h1.elim⟩
def opNeg : PV → Option PV
  | .int i => some (.int (-i))
  | _ => none
theorem uv_neg : UnV K (mU fun i => .int (-i)) opNeg := by
  intro c F H σ ρ p pv v Q rel r1 e k
  unfold opNeg at e
  split at e
  · cases e
    cases r1.int
    exact k _ F H rel (Same.refl _) (Same.refl _) Rep.int
  · cases e
mutual
def eqB : PV → PV → Bool
  | .non, .non => true
  | .bl a, .bl b => a == b
  | .bl a, .int j => (if a then 1 else 0) == j
  | .int i, .bl b => i == (if b then 1 else 0)
  | .int i, .int j => i == j
  | .str x, .str y => x == y
  | .lst xs, .lst ys => eqBL xs ys
  | .tup xs, .tup ys => eqBL xs ys
  | _, _ => false
def eqBL : List PV → List PV → Bool
  | [], [] => true
  | x :: xs, y :: ys => eqB x y && eqBL xs ys
  | _, _ => false
end
mutual
def dOk : PV → Bool
  | .non | .bl _ | .int _ => true
  | .str x => PyData.strOk x
  | .lst xs => dOkL xs
  | .tup xs => dOkL xs
  | _ => false
def dOkL : List PV → Bool
  | [] => true
  | x :: xs => dOk x && dOkL xs
end
mutual
def dep : PV → Nat
  | .lst xs => depL xs + 1
  | .tup xs => depL xs + 1
  | _ => 0
def depL : List PV → Nat
  | [] => 0
  | x :: xs => max (dep x) (depL xs)
end
mutual
def toD : PV → PyData
  | .non => .none
  | .bl b => .bool b
  | .int i => .int i
  | .str x => .str x
  | .lst xs => .list (toDL xs)
  | .tup xs => .tuple (toDL xs)
  | _ => .none
def toDL : List PV → List PyData
  | [] => []
  | x :: xs => toD x :: toDL xs
end
mutual
theorem toD_lay : ∀ p : PV, dOk p = true → (toD p).canLay0 = true
  | .non, _ => rfl
  | .bl _, _ => rfl
  | .int _, _ => rfl
  | .str x, h => by unfold dOk at h; unfold toD PyData.canLay0; exact h
  | .lst xs, h => by unfold dOk at h; unfold toD PyData.canLay0; exact toDL_lay xs h
  | .tup xs, h => by unfold dOk at h; unfold toD PyData.canLay0; exact toDL_lay xs h
  | .ins _ _ _, h => by simp [dOk] at h
  | .xc _ _ _, h => by simp [dOk] at h
  | .ty _, h => by simp [dOk] at h
  | .cls _, h => by simp [dOk] at h
theorem toDL_lay : ∀ ps : List PV, dOkL ps = true → PyData.canLayAll0 (toDL ps) = true
  | [], _ => rfl
  | p :: ps, h => by
    unfold dOkL at h
    rw [Bool.and_eq_true] at h
    unfold toDL PyData.canLayAll0
    rw [toD_lay p h.1, toDL_lay ps h.2]
    rfl
end
mutual
theorem toD_dep : ∀ p : PV, (toD p).depth = dep p
  | .non => rfl
  | .bl _ => rfl
  | .int _ => rfl
  | .str x => rfl
  | .lst xs => by unfold toD PyData.depth dep; rw [toDL_dep xs]
  | .tup xs => by unfold toD PyData.depth dep; rw [toDL_dep xs]
  | .ins _ _ _ => rfl
  | .xc _ _ _ => rfl
  | .ty _ => rfl
  | .cls _ => rfl
theorem toDL_dep : ∀ ps : List PV, PyData.depthAll (toDL ps) = depL ps
  | [] => rfl
  | p :: ps => by unfold toDL PyData.depthAll depL; rw [toD_dep p, toDL_dep ps]
end
mutual
theorem toD_eq : ∀ p q : PV, dOk p = true → dOk q = true → PyData.eqv (toD p) (toD q) = eqB p q
  | .lst xs, .lst ys, h1, h2 => by
    unfold dOk at h1 h2
    unfold toD eqB PyData.eqv
    exact toDL_eq xs ys h1 h2
  | .tup xs, .tup ys, h1, h2 => by
    unfold dOk at h1 h2
    unfold toD eqB PyData.eqv
    exact toDL_eq xs ys h1 h2
  | .ins _ _ _, _, h, _ => by simp [dOk] at h
  | .xc _ _ _, _, h, _ => by simp [dOk] at h
  | .ty _, _, h, _ => by simp [dOk] at h
  | .cls _, _, h, _ => by simp [dOk] at h
  | .non, q, _, h => by cases q <;> first | rfl | (simp [dOk] at h) | (simp [toD, eqB, PyData.eqv])
  | .bl _, q, _, h => by cases q <;> first | rfl | (simp [dOk] at h) | (simp [toD, eqB, PyData.eqv])
  | .int _, q, _, h => by cases q <;> first | rfl | (simp [dOk] at h) | (simp [toD, eqB, PyData.eqv])
  | .str _, q, _, h => by cases q <;> first | rfl | (simp [dOk] at h; done) | (simp [toD, eqB, PyData.eqv])
  | .lst _, .non, _, _ => by simp [toD, eqB, PyData.eqv]
  | .lst _, .bl _, _, _ => by simp [toD, eqB, PyData.eqv]
  | .lst _, .int _, _, _ => by simp [toD, eqB, PyData.eqv]
  | .lst _, .str _, _, _ => by simp [toD, eqB, PyData.eqv]
  | .lst _, .tup _, _, _ => by simp [toD, eqB, PyData.eqv]
  | .lst _, .ins _ _ _, _, h => by simp [dOk] at h
  | .lst _, .xc _ _ _, _, h => by simp [dOk] at h
  | .lst _, .ty _, _, h => by simp [dOk] at h
  | .lst _, .cls _, _, h => by simp [dOk] at h
  | .tup _, .non, _, _ => by simp [toD, eqB, PyData.eqv]
  | .tup _, .bl _, _, _ => by simp [toD, eqB, PyData.eqv]
  | .tup _, .int _, _, _ => by simp [toD, eqB, PyData.eqv]
  | .tup _, .str _, _, _ => by simp [toD, eqB, PyData.eqv]
  | .tup _, .lst _, _, _ => by simp [toD, eqB, PyData.eqv]
  | .tup _, .ins _ _ _, _, h => by simp [dOk] at h
  | .tup _, .xc _ _ _, _, h => by simp [dOk] at h
  | .tup _, .ty _, _, h => by simp [dOk] at h
  | .tup _, .cls _, _, h => by simp [dOk] at h
theorem toDL_eq : ∀ ps qs : List PV, dOkL ps = true → dOkL qs = true → PyData.eqvAll (toDL ps) (toDL qs) = eqBL ps qs
  | [], [], _, _ => by simp [toDL, eqBL, PyData.eqvAll]
  | [], _ :: _, _, _ => by simp [toDL, eqBL, PyData.eqvAll]
  | _ :: _, [], _, _ => by simp [toDL, eqBL, PyData.eqvAll]
  | p :: ps, q :: qs, h1, h2 => by
    unfold dOkL at h1 h2
    rw [Bool.and_eq_true] at h1 h2
    unfold toDL eqBL PyData.eqvAll
    rw [toD_eq p q h1.1 h2.1, toDL_eq ps qs h1.2 h2.2]
end
mutual
theorem toD_rp {F : Hp} : ∀ (p : PV) (v : V), dOk p = true → Rep K F p v → Rp K.K F (toD p) v
  | .non, _, _, r => by unfold Rep at r; unfold toD Rp; exact r
  | .bl _, _, _, r => by unfold Rep at r; unfold toD Rp; exact r
  | .int _, _, _, r => by unfold Rep at r; unfold toD Rp; exact r
  | .str _, _, _, r => by unfold Rep at r; unfold toD Rp; exact r
  | .lst xs, _, h, r => by
    unfold dOk at h
    unfold Rep at r
    unfold toD Rp
    obtain ⟨a, vs, h1, h2, h3⟩ := r
    exact ⟨a, vs, h1, h2, toDL_rp xs vs h h3⟩
  | .tup xs, _, h, r => by
    unfold dOk at h
    unfold Rep at r
    unfold toD Rp
    obtain ⟨a, vs, h1, h2, h3⟩ := r
    exact ⟨a, vs, h1, h2, toDL_rp xs vs h h3⟩
  | .ins _ _ _, _, h, _ => by simp [dOk] at h
  | .xc _ _ _, _, h, _ => by simp [dOk] at h
  | .ty _, _, h, _ => by simp [dOk] at h
  | .cls _, _, h, _ => by simp [dOk] at h
theorem toDL_rp {F : Hp} : ∀ (ps : List PV) (vs : List V), dOkL ps = true → RepL K F ps vs → RpA K.K F (toDL ps) vs
  | [], _, _, r => by unfold RepL at r; unfold toDL RpA; exact r
  | p :: ps, _, h, r => by
    unfold dOkL at h
    rw [Bool.and_eq_true] at h
    unfold RepL at r
    unfold toDL RpA
    obtain ⟨x, t, h1, h2, h3⟩ := r
    exact ⟨x, t, h1, toD_rp p x h.1 h2, toDL_rp ps t h.2 h3⟩
end
theorem rp_read {c : Ctx} {F H : Hp} {σ : L2.St} {ρ : PSt} {p : PV} {v : V} (s : Same F H) (h : dOk p = true) (r : rR K c σ ρ F H p v) : Rp K.K H (toD p) v := by
  rcases r with r | r
  · exact Rp.same s _ _ (toD_rp p v h r)
  · cases p with
    | lst ps =>
      obtain ⟨a, vs, rfl, h3, h4⟩ := r
      unfold dOk at h
      unfold toD Rp
      exact ⟨a, vs, rfl, SqL.of h3, RpA.same s _ _ (toDL_rp ps vs h h4)⟩
    | ins C ns ps => simp [dOk] at h
    | _ => exact r.elim
def eqOk (p q : PV) : Bool := dOk p && dOk q && decide (min (dep p) (dep q) ≤ 60)
def opEq (p q : PV) : Option PV := if eqOk p q = true then some (.bl (eqB p q)) else none
def opNe (p q : PV) : Option PV := if eqOk p q = true then some (.bl (!eqB p q)) else none
theorem ov_eq : OpV K (mEqD K.K false) opEq := by
  intro c F H σ ρ p q pv v u Q rel r1 r2 e k
  unfold opEq at e
  split at e
  · rename_i hz
    cases e
    unfold eqOk at hz
    simp only [Bool.and_eq_true, decide_eq_true_eq] at hz
    refine ⟨toD p, toD q, rp_read rel.sub hz.1.1 r1, rp_read rel.sub hz.1.2 r2, toD_lay p hz.1.1, toD_lay q hz.1.2, by rw [toD_dep, toD_dep]; exact hz.2, ?_⟩
    rw [toD_eq p q hz.1.1 hz.1.2]
    exact k _ F H rel (Same.refl _) (Same.refl _) Rep.bl
  · cases e
theorem ov_ne : OpV K (mEqD K.K true) opNe := by
  intro c F H σ ρ p q pv v u Q rel r1 r2 e k
  unfold opNe at e
  split at e
  · rename_i hz
    cases e
    unfold eqOk at hz
    simp only [Bool.and_eq_true, decide_eq_true_eq] at hz
    refine ⟨toD p, toD q, rp_read rel.sub hz.1.1 r1, rp_read rel.sub hz.1.2 r2, toD_lay p hz.1.1, toD_lay q hz.1.2, by rw [toD_dep, toD_dep]; exact hz.2, ?_⟩
    rw [toD_eq p q hz.1.1 hz.1.2]
    exact k _ F H rel (Same.refl _) (Same.refl _) Rep.bl
  · cases e
def isN : PV → Bool
  | .non => true
  | _ => false
def opIs (p q : PV) : Option PV := match q with
  | .non => some (.bl (isN p))
  | _ => none
def opIsNot (p q : PV) : Option PV := match q with
  | .non => some (.bl (!isN p))
  | _ => none
def opIx : PV → PV → Option PV
  | .lst ps, .int i => atI ps i
  | .tup ps, .int i => atI ps i
  | .str z, .int i => if z.length ≤ 16777216 then (atI z.cps.toList i).map fun c => .str ⟨#[c]⟩ else none
  | _, _ => none
theorem atI_rep {F : Hp} {ps : List PV} {vs : List V} {i : Int} {p : PV} (r : RepL K F ps vs) (h : atI ps i = some p) : ∃ v, atI vs i = some v ∧ Rep K F p v := by
  unfold atI at h ⊢
  rw [r.length] at h
  cases e : ixN vs.length i with
  | none => rw [e] at h; cases h
  | some j =>
    rw [e] at h
    obtain ⟨v, h1, h2⟩ := pr_get r.pr h
    exact ⟨v, h1, h2⟩
theorem ov_ix : OpV K (mIx K.K) opIx := by
  intro c F H σ ρ p q pv v u Q rel r1 r2 e k
  unfold opIx at e
  split at e
  · obtain ⟨a, vs, rfl, h1, h2⟩ := r1.lst rel.sub
    cases r2.int
    obtain ⟨x, h3, h4⟩ := atI_rep h2 e
    exact ⟨vs, x, .inl h1, h3, k _ F H rel (Same.refl _) (Same.refl _) h4⟩
  · obtain ⟨a, vs, rfl, h1, h2⟩ := r1.tup rel.sub
    cases r2.int
    obtain ⟨x, h3, h4⟩ := atI_rep h2 e
    exact ⟨vs, x, .inr h1, h3, k _ F H rel (Same.refl _) (Same.refl _) h4⟩
  · split at e
    · rename_i z i hz
      cases r1.str
      cases r2.int
      cases ea : atI z.cps.toList i with
      | none => rw [ea] at e; cases e
      | some cc =>
        rw [ea] at e
        cases e
        exact ⟨cc, by rw [sizeLine_is]; exact hz, ea, k _ F H rel (Same.refl _) (Same.refl _) Rep.str⟩
    · cases e
  · cases e
def mNoP : M (Option Int) := fun ρ => .ok none ρ
def mP (m : M PV) : M (Option Int) := fun ρ => (m ρ).bind fun p ρ1 => match p with
  | .int i => .ok (some i) ρ1
  | _ => .bad
abbrev tP (K : KK) (E : L2.St → XK) (m : M (Option Int)) : TO := tG K E rI m
theorem p_some (ha : PE X e (tV (kk X cm) E ma)) : PO X (some e) (tP (kk X cm) E (mP ma)) := fun pins s σ H Q I h => pom_some ha pins s σ H Q I (by
  obtain ⟨c, F, ρ, rel, h⟩ := h
  refine ⟨c, F, ρ, rel, h.bind fun p ρ1 v F1 H1 rel1 _ _ r1 h1 => ?_⟩
  cases p with
  | int i =>
    have e : v = .int i := by have r1' : Rep (kk X cm) F1 (.int i) v := r1; unfold Rep at r1'; exact r1'
    subst e
    exact h1 (some i) F1 H1 rel1 (Same.refl _) (Same.refl _) rfl
  | _ => exact h1.elim)
def cutP {α : Type} (xs : List α) (lo hi : Option Int) : List α := (xs.drop (HT.sIx xs.length 0 lo)).take (HT.sIx xs.length xs.length hi - HT.sIx xs.length 0 lo)
def slF (p : PV) (lo hi : Option Int) : Option RV := match p with
  | .lst ps => some (.ow (cutP ps lo hi))
  | .str z => if z.length ≤ 16777216 then some (.sh (.str (S (cutP z.cps.toList lo hi)))) else none
  | _ => none
def mSl (ma : M PV) (ml mh : M (Option Int)) : M RV := fun ρ => (ma ρ).bind fun p ρ1 => (ml ρ1).bind fun lo ρ2 => (mh ρ2).bind fun hi ρ3 => Res.ofO (slF p lo hi) ρ3
theorem o_slice {ml mh : M (Option Int)} {lo hi : Option Expr} {p2 : Pos} (ha : PE X a (tR (kk X cm) E ma)) (hl : PO X lo (tP (kk X cm) E ml)) (hh : PO X hi (tP (kk X cm) E mh)) : PE X (.Subscript a (.Slice lo hi none p2) pos) (tO (kk X cm) E (mSl ma ml mh)) :=
  PE.wk (pe_slice slm ha hl hh) fun σ H Q ⟨c, F, ρ, rel, h⟩ => ⟨c, F, ρ, rel, h.bind fun p ρ1 v F1 H1 rel1 _ _ r1 h1 => ⟨c, F1, ρ1, rel1, h1.bind fun lo ρ2 lo' F2 H2 rel2 sF sH r2 h2 => ⟨c, F2, ρ2, rel2, h2.bind fun hi ρ3 hi' F3 H3 rel3 sF3 sH3 r3 h3 => by
    have e2 : lo = lo' := r2
    have e3 : hi = hi' := r3
    subst e2 e3
    have r1' : rR (kk X cm) c σ ρ3 F3 H3 p v := r1.mono (sF.trans sF3) (sH.trans sH3)
    cases p with
    | lst ps =>
      obtain ⟨a, vs, rfl, q1, q2⟩ := r1'.lst rel3.sub
      refine ⟨vs, q1, fun d hd => ?_⟩
      have e : RepL (kk X cm) F3 (cutP ps lo hi) (cutV vs lo hi) := by
        unfold cutP cutV
        rw [q2.length]
        exact RepL.of (pr_take _ (pr_drop _ q2.pr))
      obtain ⟨z1, z2⟩ := held_new rel3 hd e
      exact h3 _ F3 _ z1 (Same.refl _) (Same.upd hd) z2
    | str z =>
      cases r1'.str
      unfold slF at h3
      dsimp only at h3
      split at h3
      · rename_i hz
        exact ⟨by rw [sizeLine_is]; exact hz, h3 _ F3 H3 rel3 (Same.refl _) (Same.refl _) (Rep.str (K := kk X cm) (F := F3))⟩
      · exact h3.elim
    | _ => exact h3.elim⟩⟩⟩
theorem rl1 {c : Ctx} {F H : Hp} {σ : L2.St} {ρ : PSt} {p : PV} {vs : List V} (h : rRL K c σ ρ F H [p] vs) : ∃ v, vs = [v] ∧ rR K c σ ρ F H p v := by
  cases h with
  | cons r t => cases t; exact ⟨_, rfl, r⟩
theorem rl2 {c : Ctx} {F H : Hp} {σ : L2.St} {ρ : PSt} {p q : PV} {vs : List V} (h : rRL K c σ ρ F H [p, q] vs) : ∃ v u, vs = [v, u] ∧ rR K c σ ρ F H p v ∧ rR K c σ ρ F H q u := by
  cases h with
  | cons r t =>
    cases t with
    | cons r' t => cases t; exact ⟨_, _, rfl, r, r'⟩
def fLen : List PV → Option PV
  | [.lst ps] => some (.int ps.length)
  | [.tup ps] => some (.int ps.length)
  | [.str z] => if z.length ≤ 16777216 then some (.int z.length) else none
  | _ => none
theorem cv_len : CallV K (mLen K.K) fLen := by
  intro c F H σ ρ ps pv vs Q rel r e k
  unfold fLen at e
  split at e
  · cases e
    obtain ⟨v, rfl, r1⟩ := rl1 r
    obtain ⟨a, xs, rfl, h1, h2⟩ := r1.lst rel.sub
    refine ⟨xs, .inl h1, ?_⟩
    rw [← h2.length]
    exact k _ F H rel (Same.refl _) (Same.refl _) Rep.int
  · cases e
    obtain ⟨v, rfl, r1⟩ := rl1 r
    obtain ⟨a, xs, rfl, h1, h2⟩ := r1.tup rel.sub
    refine ⟨xs, .inr h1, ?_⟩
    rw [← h2.length]
    exact k _ F H rel (Same.refl _) (Same.refl _) Rep.int
  · split at e
    · rename_i hz
      cases e
      obtain ⟨v, rfl, r1⟩ := rl1 r
      cases r1.str
      exact ⟨by rw [sizeLine_is]; exact hz, k _ F H rel (Same.refl _) (Same.refl _) Rep.int⟩
    · cases e
  · cases e
def fAbs : List PV → Option PV
  | [.int i] => some (.int (if i < 0 then -i else i))
  | _ => none
theorem cv_abs : CallV K mAbs fAbs := by
  intro c F H σ ρ ps pv vs Q rel r e k
  unfold fAbs at e
  split at e
  · cases e
    obtain ⟨v, rfl, r1⟩ := rl1 r
    cases r1.int
    exact k _ F H rel (Same.refl _) (Same.refl _) Rep.int
  · cases e
def fMin2 : List PV → Option PV
  | [.int i, .int j] => some (.int (if j < i then j else i))
  | _ => none
def fMax2 : List PV → Option PV
  | [.int i, .int j] => some (.int (if j > i then j else i))
  | _ => none
theorem cv_min2 : CallV K mMin2 fMin2 := by
  intro c F H σ ρ ps pv vs Q rel r e k
  unfold fMin2 at e
  split at e
  · cases e
    obtain ⟨v, u, rfl, r1, r2⟩ := rl2 r
    cases r1.int
    cases r2.int
    exact k _ F H rel (Same.refl _) (Same.refl _) Rep.int
  · cases e
def fList : List PV → Option RV
  | [.lst ps] => some (.ow ps)
  | [.tup ps] => some (.ow ps)
  | _ => none
def rListOf (K : PySem.W.Frag) : List V → Hp → VK → Prop := fun xs H Q => ∃ p ys, xs = [.ref p] ∧ (SqL K H p ys ∨ SqT K H p ys) ∧ ∀ l, H l = none → Q (.ref l) (upd H l (.lst ys))
theorem cr_list : CallR X (.type "list") (rListOf X.K) := call_list_of
theorem co_list : CallO K (rListOf K.K) fList := by
  intro c F H σ ρ ps pv vs Q rel r e k
  unfold fList at e
  split at e
  · cases e
    obtain ⟨v, rfl, r1⟩ := rl1 r
    obtain ⟨a, xs, rfl, h1, h2⟩ := r1.lst rel.sub
    refine ⟨a, xs, rfl, .inl h1, fun l hl => ?_⟩
    obtain ⟨q1, q2⟩ := held_new rel hl h2
    exact k _ F _ q1 (Same.refl _) (Same.upd hl) q2
  · cases e
    obtain ⟨v, rfl, r1⟩ := rl1 r
    obtain ⟨a, xs, rfl, h1, h2⟩ := r1.tup rel.sub
    refine ⟨a, xs, rfl, .inr h1, fun l hl => ?_⟩
    obtain ⟨q1, q2⟩ := held_new rel hl h2
    exact k _ F _ q1 (Same.refl _) (Same.upd hl) q2
  · cases e
def isiT : PV → String → Option Bool
  | .int _, "int" => some true
  | .int _, "bool" => some false
  | .int _, "str" => some false
  | .int _, "tuple" => some false
  | .int _, "list" => some false
  | .bl _, "int" => some true
  | .bl _, "bool" => some true
  | .lst _, "list" => some true
  | .lst _, "tuple" => some false
  | .lst _, "int" => some false
  | .lst _, "str" => some false
  | .tup _, "tuple" => some true
  | .tup _, "list" => some false
  | .tup _, "int" => some false
  | .tup _, "str" => some false
  | .str _, "str" => some true
  | .str _, "int" => some false
  | .str _, "list" => some false
  | .str _, "tuple" => some false
  | .non, "int" => some false
  | .non, "str" => some false
  | .non, "tuple" => some false
  | .non, "list" => some false
  | _, _ => none
end
theorem rep_ints {K : KK} {F : Hp} : ∀ ns : List Int, RepL K F (ns.map .int) (ns.map V.int)
  | [] => RepL.nil
  | n :: ns => RepL.cons Rep.int (rep_ints ns)
def spLaw (K : PySem.W.Frag) : Sp := fun vs H Q _ => ∃ (sa : Addr) (ns : List Int), vs = [.ref sa] ∧ SqL K H sa (ns.map V.int) ∧ ns.length ≤ 63 ∧ ∀ v H', v = .bl true → Q v H'
theorem law_walk {l : PySem.W.OpenLaw} {k : Nat} {x : Str} {CX : CXT} {m : MF} {q : Program} {loose : List Str} {XP : (Str → Option Value) → Heap → Prop} {YP : World → Heap → Prop} {d : DefRec} {K : Params → PySem.W.Frag} (hn : l.most = some 63) (hdf : d.params.defaults = []) (hr : Room k callerA)
    (hY : ∀ (w : World) (h : Heap), YP w h → (K w.params).In h)
    (F : ∀ (w : World) (mg : Str → Option Value) (fa : Addr) (h : Heap), (K w.params).In h → h.Ns mainGlobals mg → mg d.name = some (.ref fa) →
      ∃ fd : FuncData, (∀ (s : Shared) (u : Value), BindsTo s fd ⟨[u], []⟩ [(x, u)]) ∧ ∀ base : Heap, (K w.params).In base → base.Ns mainGlobals mg → ∃ cm, FnOk l.prog w (K w.params) mg base CX k fa fd [x] (spP ⟨K w.params, cm⟩ 1 m))
    (ht : ∀ ns : List Int, ns.length ≤ 63 → m [.sh (.lst (ns.map .int))] = .ret (.sh (.bl true)))
    (hCX : ∀ (H : Hp) (s : Shared) (e : Value) (s' : Shared), CX [] H s (fun _ _ _ => False) e s' → False) :
    PySem.W.WalkO q loose XP YP l.row.toRowW d [] (fun f vs => PySem.call f vs) := by
  refine L2.walk_of (n := 63) (k := k) (x := x) (CX := fun _ => CX) (sp := fun w => spLaw (K w.params)) hn (by decide) hdf hr hY (fun w mg fa h h1 h2 h3 => ?_) (fun w H a ns hl _ hS => ⟨a, ns, rfl, hS, hl, fun _ _ z => z⟩) fun w H s e s' z => hCX H s e s' z
  obtain ⟨fd, hb, hF⟩ := F w mg fa h h1 h2 h3
  refine ⟨fd, hb, fun base k1 k2 => ?_⟩
  obtain ⟨cm, G⟩ := hF base k1 k2
  refine G.imp fun vs H Q E hs => ?_
  obtain ⟨sa, ns, rfl, hS, hl, hq⟩ := hs
  refine ⟨H, [.sh (.lst (ns.map .int))], rfl, Same.refl _, .cons ?_ .nil, ?_⟩
  · show Rep _ _ _ _
    unfold Rep
    exact ⟨sa, _, rfl, hS, rep_ints ns⟩
  · rw [ht ns hl]
    intro v F' H' g rf
    have e : v = .bl true := rep_bl (K := ⟨K w.params, cm⟩) (F := F') rf
    exact hq v H' e
end P
namespace P
open PySem PySem.Spec PyProof.Rows L2 M2 M3 M4
section
variable {X : Cx} {cm : String → Addr} {K : KK}
def TyP (K : PySem.W.Frag) (H : Hp) (x : V) (t : Value) : Prop := match x with
  | .non => t = .type "NoneType"
  | .bl _ => t = .type "bool"
  | .int _ => t = .type "int"
  | .str _ => t = .type "str"
  | .ref a => (t = .type "list" ∧ ∃ xs, SqL K H a xs) ∨ (t = .type "tuple" ∧ ∃ xs, SqT K H a xs) ∨ TyOf K H (.ref a) t
  | _ => False
def mIsiP (K : PySem.W.Frag) : List V → Hp → VK → Prop := fun xs H Q => match xs with
  | [x, .ty n] => ∃ t b, TyP K H x t ∧ PySem.W.kitOne K t (.type n) = some b ∧ Q (.bl b) H
  | [x, .ref C] => ∃ t b, TyP K H x t ∧ PySem.W.kitOne K t (.ref C) = some b ∧ Q (.bl b) H
  | _ => False
theorem isi_okP {pins : List (Addr × Obj)} {σ : L2.St} {H : Hp} {s : Shared} {A : Around} {E : Value → Shared → Prop} {Q : Value → Shared → Prop} {c : Value} {b : Bool} {x : V} {u t : Value} (I : Inv X pins σ H s) (rx : RelV x u) (ty : TyP X.K H x t) (e : PySem.W.kitOne X.K t c = some b) (h : ∀ tk, Q (.bool b) { s with toks := tk }) :
    wpAny (model X.prog X.w) A (call (.builtin "isinstance") [u, c]) Q E s := by
  cases x with
  | non => cases (show t = _ from ty); exact isinst_ok I rx .non e h
  | bl y => cases (show t = _ from ty); exact isinst_ok I rx (.bl y) e h
  | int y => cases (show t = _ from ty); exact isinst_ok I rx (.int y) e h
  | str y => cases (show t = _ from ty); exact isinst_ok I rx (.str y) e h
  | ref a =>
    cases (show u = Value.ref a from rx)
    rcases ty with ⟨rfl, xs, hS⟩ | ⟨rfl, xs, hS⟩ | ty
    · obtain ⟨its, r, ⟨o, n, h1, h2, _⟩, _⟩ := I.list hS
      exact PySem.W.kia_one PySem.W.kitx_list I.kIn ⟨o, h1, h2⟩ e (fun z => nomatch z) h
    · obtain ⟨its, r, ⟨o, h1, h2, _⟩, _⟩ := I.tuple hS
      exact PySem.W.kia_one PySem.W.kitx_tuple I.kIn ⟨o, h1, h2⟩ e (fun z => nomatch z) h
    · exact isinst_ok I rx ty e h
  | _ => exact ty.elim
theorem cr_isi : CallR X (.builtin "isinstance") (mIsiP X.K) := by
  intro pins s σ H xs us Q I r h
  unfold mIsiP at h
  split at h
  · obtain ⟨t, b, h1, h2, h3⟩ := h
    obtain ⟨u, w', rfl, r1, r2⟩ := vals2 r
    cases r2
    exact isi_okP I r1 h1 h2 fun tk => ⟨.bl b, H, I.tok _, rfl, h3⟩
  · obtain ⟨t, b, h1, h2, h3⟩ := h
    obtain ⟨u, w', rfl, r1, r2⟩ := vals2 r
    cases r2
    exact isi_okP I r1 h1 h2 fun tk => ⟨.bl b, H, I.tok _, rfl, h3⟩
  · exact h.elim
def tyN : PV → String
  | .non => "NoneType"
  | .bl _ => "bool"
  | .int _ => "int"
  | .str _ => "str"
  | .lst _ => "list"
  | .tup _ => "tuple"
  | _ => ""
theorem isiT_kit {F : PySem.W.Frag} {p : PV} {n : String} {b : Bool} (h : isiT p n = some b) : PySem.W.kitOne F (.type (tyN p)) (.type n) = some b := by
  unfold isiT at h
  split at h <;> first
    | (cases h; first | rfl | decide +kernel | kernel_rfl)
    | cases h
theorem tyP_rep {c : Ctx} {F H : Hp} {σ : L2.St} {ρ : PSt} {p : PV} {v : V} (s : Same F H) (r : rR K c σ ρ F H p v) (h : ∃ n b, isiT p n = some b) : TyP K.K H v (.type (tyN p)) := by
  obtain ⟨n, b, h⟩ := h
  cases p with
  | non => cases r.non; rfl
  | bl _ => cases r.bl; rfl
  | int _ => cases r.int; rfl
  | str _ => cases r.str; rfl
  | lst ps =>
    obtain ⟨a, vs, rfl, h1, h2⟩ := r.lst s
    exact .inl ⟨rfl, vs, h1⟩
  | tup ps =>
    obtain ⟨a, vs, rfl, h1, h2⟩ := r.tup s
    exact .inr (.inl ⟨rfl, vs, h1⟩)
  | ins _ _ _ => simp [isiT] at h
  | xc _ _ _ => simp [isiT] at h
  | ty _ => simp [isiT] at h
  | cls _ => simp [isiT] at h
def fIsi : List PV → Option PV
  | [p, .ty n] => (isiT p n).map .bl
  | _ => none
theorem cv_isi : CallV K (mIsiP K.K) fIsi := by
  intro c F H σ ρ ps pv vs Q rel r e k
  unfold fIsi at e
  split at e
  · rename_i p n
    obtain ⟨v, u, rfl, r1, r2⟩ := rl2 r
    cases r2.ty
    cases eb : isiT p n with
    | none => rw [eb] at e; cases e
    | some b =>
      rw [eb] at e
      cases e
      exact ⟨_, b, tyP_rep rel.sub r1 ⟨n, b, eb⟩, isiT_kit eb, k _ F H rel (Same.refl _) (Same.refl _) Rep.bl⟩
  · cases e
def fTuple : List PV → Option PV
  | [.lst ps] => some (.tup ps)
  | [.tup ps] => some (.tup ps)
  | _ => none
end
end P
namespace P
open PySem PySem.Spec PyProof.Rows L2 M2 M3 M4
section
variable {α β : Type} {ρ : PSt} {i j n k : Nat} {p q : PV} {ps : List PV} {m ma mb mc : M PV} {mo : M RV} {a b : M Fl} {ta tb : M Bool} {mr : M (List PV)} {f : PV → PV → Option PV} {fo : PV → PV → Option RV} {fl : List PV → Option PV} {flo : List PV → Option RV} {g : Tg} {gs : Tgs}
@[simp] theorem ev_nx : mNx ρ = .ok .nx ρ := rfl
@[simp] theorem ev_bk : mBk ρ = .ok .bk ρ := rfl
@[simp] theorem ev_ct : mCt ρ = .ok .ct ρ := rfl
@[simp] theorem ev_bad : (mBad : M α) ρ = .bad := rfl
@[simp] theorem ev_seq : mSeq a b ρ = (a ρ).bind fun f ρ1 => match f with | .nx => b ρ1 | f => .ok f ρ1 := rfl
@[simp] theorem ev_set : mSet i mo ρ = (mo ρ).bind fun r ρ1 => .ok .nx (ρ1.set i r.slot) := rfl
@[simp] theorem ev_ret : mRet mo ρ = (mo ρ).bind fun r ρ1 => .ok (.rt r) ρ1 := rfl
@[simp] theorem ev_retN : mRetN ρ = .ok (.rt (.sh .non)) ρ := rfl
@[simp] theorem ev_drop : mDrop m ρ = (m ρ).bind fun _ ρ1 => .ok .nx ρ1 := rfl
@[simp] theorem ev_c : mC p ρ = .ok p ρ := rfl
@[simp] theorem ev_sh : mSh m ρ = (m ρ).bind fun p ρ1 => .ok (.sh p) ρ1 := rfl
@[simp] theorem ev_val : mVal mo ρ = (mo ρ).bind fun r ρ1 => .ok r.val ρ1 := rfl
@[simp] theorem ev_vsh : (RV.sh p).val = p := rfl
@[simp] theorem ev_vow : (RV.ow ps).val = .lst ps := rfl
@[simp] theorem ev_ssh : (RV.sh p).slot = .sh p := rfl
@[simp] theorem ev_sow : (RV.ow ps).slot = .ow ps := rfl
@[simp] theorem ev_bin : mBin f ma mb ρ = (ma ρ).bind fun p ρ1 => (mb ρ1).bind fun q ρ2 => Res.ofO (f p q) ρ2 := rfl
@[simp] theorem ev_binO : mBinO fo ma mb ρ = (ma ρ).bind fun p ρ1 => (mb ρ1).bind fun q ρ2 => Res.ofO (fo p q) ρ2 := rfl
@[simp] theorem ev_un {u : PV → Option PV} : mUn u ma ρ = (ma ρ).bind fun p ρ1 => Res.ofO (u p) ρ1 := rfl
@[simp] theorem ev_tru : mTru m ρ = (m ρ).bind fun p ρ1 => Res.ofO (tru p) ρ1 := rfl
@[simp] theorem ev_bl : mBl m ρ = (m ρ).bind fun p ρ1 => match p with | .bl b => .ok b ρ1 | _ => .bad := rfl
@[simp] theorem ev_notT : mNotT ta ρ = (ta ρ).bind fun b ρ1 => .ok (!b) ρ1 := rfl
@[simp] theorem ev_andT : mAndT ta tb ρ = (ta ρ).bind fun b ρ1 => if b = true then tb ρ1 else .ok false ρ1 := rfl
@[simp] theorem ev_orT : mOrT ta tb ρ = (ta ρ).bind fun b ρ1 => if b = true then .ok true ρ1 else tb ρ1 := rfl
@[simp] theorem ev_and : mAnd ma mb ρ = (ma ρ).bind fun p ρ1 => match p with | .bl b => if b = true then mb ρ1 else .ok (.bl false) ρ1 | _ => .bad := by
  unfold mAnd
  congr
  funext p ρ1
  cases p with
  | bl b => cases b <;> rfl
  | _ => rfl
@[simp] theorem ev_or : mOr ma mb ρ = (ma ρ).bind fun p ρ1 => match p with | .bl b => if b = true then .ok (.bl true) ρ1 else mb ρ1 | _ => .bad := by
  unfold mOr
  congr
  funext p ρ1
  cases p with
  | bl b => cases b <;> rfl
  | _ => rfl
@[simp] theorem ev_not : mNot ma ρ = (ma ρ).bind fun p ρ1 => match p with | .bl b => .ok (.bl (!b)) ρ1 | _ => .bad := rfl
@[simp] theorem ev_if {x y : M α} : mIf ta x y ρ = (ta ρ).bind fun b ρ1 => if b = true then x ρ1 else y ρ1 := rfl
@[simp] theorem ev_chn {f g : PV → PV → Option PV} : mChn f g ma mb mc ρ = (ma ρ).bind fun p ρ1 => (mb ρ1).bind fun q ρ2 => (Res.ofO (f p q) ρ2).bind fun z ρ3 => match z with
  | .bl true => (mc ρ3).bind fun w ρ4 => Res.ofO (g q w) ρ4
  | .bl false => .ok (.bl false) ρ3
  | _ => .bad := rfl
@[simp] theorem ev_nil : mNil ρ = .ok [] ρ := rfl
@[simp] theorem ev_cons : mCons ma mr ρ = (ma ρ).bind fun p ρ1 => (mr ρ1).bind fun ps ρ2 => .ok (p :: ps) ρ2 := rfl
@[simp] theorem ev_tup : mTup mr ρ = (mr ρ).bind fun ps ρ1 => if ps.length ≤ 16777216 then .ok (.tup ps) ρ1 else .bad := rfl
@[simp] theorem ev_lst : mLst mr ρ = (mr ρ).bind fun ps ρ1 => if ps.length ≤ 16777216 then .ok (.ow ps) ρ1 else .bad := rfl
@[simp] theorem ev_cb : mCB fl mr ρ = (mr ρ).bind fun ps ρ1 => Res.ofO (fl ps) ρ1 := rfl
@[simp] theorem ev_cbo : mCBO flo mr ρ = (mr ρ).bind fun ps ρ1 => Res.ofO (flo ps) ρ1 := rfl
@[simp] theorem ev_call {mf : MF} {ms : M (List Slot)} : mCall mf ms ρ = (ms ρ).bind fun ps ρ1 => match mf ps with | .ret r => .ok r ρ1 | .exc x => .exc x ρ1 | .bad => .bad := rfl
@[simp] theorem ev_vV : mVarV i ρ = (match ρ[i]? with | some (.sh p) => .ok p ρ | some (.ow ps) => .ok (.lst ps) (ρ.set i (.sh (.lst ps))) | _ => .bad) := rfl
@[simp] theorem ev_vR : mVarR i ρ = (match ρ[i]? with | some (.sh p) => .ok p ρ | some (.ow ps) => .ok (.lst ps) ρ | some (.bw ps) => .ok (.lst ps) ρ | some (.rc C ns ps) => .ok (.ins C ns ps) ρ | _ => .bad) := rfl
@[simp] theorem ev_vO : mVarO i ρ = (match ρ[i]? with | some (.sh p) => .ok (.sh p) ρ | some (.ow ps) => .ok (.ow ps) (ρ.set i .no) | _ => .bad) := rfl
@[simp] theorem ev_asg : mAsg g m ρ = (m ρ).bind fun p ρ1 => match g p ρ1 with | some ρ2 => .ok .nx ρ2 | none => .bad := rfl
@[simp] theorem ev_par : mPar i j mr ρ = (mr ρ).bind fun ps ρ1 => match ps with | [p, q] => .ok .nx ((ρ1.set i (.sh p)).set j (.sh q)) | _ => .bad := rfl
@[simp] theorem ev_gN : gN i p ρ = some (ρ.set i (.sh p)) := rfl
@[simp] theorem ev_gsNil : gsNil [] ρ = some ρ := rfl
@[simp] theorem ev_gsCons : gsCons g gs (p :: ps) ρ = (g p ρ).bind fun ρ1 => gs ps ρ1 := rfl
@[simp] theorem ev_gT : gT n gs (.tup ps) ρ = if ps.length = n then gs ps ρ else none := rfl
@[simp] theorem ev_app : mApp i m ρ = (match ρ[i]? with
  | some (.ow _) => (m ρ).bind fun p ρ1 => match ρ1[i]? with
    | some (.ow ps) => if ps.length < 16777216 then .ok .nx (ρ1.set i (.ow (ps ++ [p]))) else .bad
    | _ => .bad
  | _ => .bad) := rfl
@[simp] theorem ev_setix {mi : M PV} : mSetIx i mi m ρ = (m ρ).bind fun p ρ1 => match ρ1[i]? with
  | some (.ow _) => (mi ρ1).bind fun q ρ2 => match ρ2[i]?, q with
    | some (.ow ps), .int k => match ixN ps.length k with
      | some j => .ok .nx (ρ2.set i (.ow (ps.set j p)))
      | none => .bad
    | _, _ => .bad
  | _ => .bad := rfl
@[simp] theorem ev_noP : mNoP ρ = .ok none ρ := rfl
@[simp] theorem ev_P : mP m ρ = (m ρ).bind fun p ρ1 => match p with | .int i => .ok (some i) ρ1 | _ => .bad := rfl
@[simp] theorem ev_sl {ml mh : M (Option Int)} : mSl ma ml mh ρ = (ma ρ).bind fun p ρ1 => (ml ρ1).bind fun lo ρ2 => (mh ρ2).bind fun hi ρ3 => Res.ofO (slF p lo hi) ρ3 := rfl
@[simp] theorem ev_slL {lo hi : Option Int} : slF (.lst ps) lo hi = some (.ow (cutP ps lo hi)) := rfl
@[simp] theorem ev_items : mItems m ρ = (m ρ).bind fun p ρ1 => match p with
  | .lst ps => .ok ps ρ1
  | .tup ps => .ok ps ρ1
  | .str z => .ok (z.cps.toList.map fun c => .str ⟨#[c]⟩) ρ1
  | _ => .bad := rfl
@[simp] theorem ev_range {h : List PV → Option (List PV)} : mRange h mr ρ = (mr ρ).bind fun ps ρ1 => Res.ofO (h ps) ρ1 := rfl
@[simp] theorem ev_for {mi : M (List PV)} : mFor mi g b ρ = (mi ρ).bind fun items ρ1 => forL g b items ρ1 := rfl
@[simp] theorem ev_comp {js : List Nat} {nl : Nat} {mi : M (List PV)} {mt : M Bool} {me : M PV} : mComp js nl mi g mt me ρ = (mi ρ).bind fun items ρ1 => match compL g mt me items (capP js nl ρ1) [] with
  | some ps => .ok (.ow ps) ρ1
  | none => .bad := rfl
@[simp] theorem ev_yes : mYes ρ = .ok true ρ := rfl
@[simp] theorem ev_repL {mk : M PV} : mRepL mr mk ρ = (mr ρ).bind fun ps ρ1 => if ps.length ≤ 16777216 then (mk ρ1).bind fun q ρ2 => match q with
  | .int k => if -(2 ^ 60) ≤ k ∧ k < 2 ^ 60 ∧ ps.length * k.toNat ≤ 16777216 then .ok (.ow (List.replicate k.toNat ps).flatten) ρ2 else .bad
  | _ => .bad else .bad := rfl
@[simp] theorem ev_def {mbd : M Fl} {as : List Slot} : mDef n k mbd as = if as.length = n then FR.of (mbd (startP k as)) else .bad := rfl
@[simp] theorem ev_frr {r : RV} : FR.of (.ok (.rt r) ρ) = .ret r := rfl
@[simp] theorem ev_frn : FR.of (.ok .nx ρ) = .ret (.sh .non) := rfl
@[simp] theorem ev_frx {x : PX} : FR.of (.exc x ρ) = .exc x := rfl
@[simp] theorem ev_frb : FR.of .bad = .bad := rfl
@[simp] theorem ev_start {as : List Slot} : startP k as = as ++ List.replicate (k - as.length) .no := rfl
@[simp] theorem ev_anil : mANil ρ = .ok [] ρ := rfl
@[simp] theorem ev_acons {ms : M (List Slot)} : mACons ma ms ρ = (ma ρ).bind fun p ρ1 => (ms ρ1).bind fun as ρ2 => .ok (.sh p :: as) ρ2 := rfl
@[simp] theorem ev_aname {ms : M (List Slot)} : mAName i ms ρ = (match (ρ[i]?).bind lendS with
  | none => .bad
  | some _ => (ms ρ).bind fun as ρ2 => match (ρ2[i]?).bind lendS with
    | some s => .ok (s :: as) ρ2
    | none => .bad) := rfl
@[simp] theorem ev_lsh : lendS (.sh p) = some (.sh p) := rfl
@[simp] theorem ev_low : lendS (.ow ps) = some (.bw ps) := rfl
@[simp] theorem ev_lbw : lendS (.bw ps) = some (.bw ps) := rfl
@[simp] theorem ev_csh : capS (.sh p) = .sh p := rfl
@[simp] theorem ev_cow : capS (.ow ps) = .bw ps := rfl
@[simp] theorem ev_cbw : capS (.bw ps) = .bw ps := rfl
@[simp] theorem ev_cap {js : List Nat} {nl : Nat} : capP js nl ρ = js.map (fun (j : Nat) => capS ((ρ[j]?).getD .no)) ++ List.replicate nl .no := rfl
@[simp] theorem ev_itn : mIterN i ρ = (match ρ[i]? with
  | some (.bw ps) => .ok ps ρ
  | some (.sh (.lst ps)) => .ok ps ρ
  | some (.sh (.tup ps)) => .ok ps ρ
  | some (.sh (.str z)) => .ok (z.cps.toList.map fun c => .str ⟨#[c]⟩) ρ
  | some (.ow ps) => .ok ps (ρ.set i (.sh (.lst ps)))
  | _ => .bad) := rfl
@[simp] theorem ev_addI {x y : Int} : opAdd (.int x) (.int y) = some (.sh (.int (x + y))) := rfl
@[simp] theorem ev_subI {x y : Int} : opSub (.int x) (.int y) = some (.int (x - y)) := rfl
@[simp] theorem ev_mulI {x y : Int} : opMulI (.int x) (.int y) = if mulOk x y = true then some (.int (x * y)) else none := rfl
@[simp] theorem ev_fdvI {x y : Int} : opFdv (.int x) (.int y) = if fdvOk x y = true then some (.int (x.fdiv y)) else none := rfl
@[simp] theorem ev_modI {x y : Int} : opMod (.int x) (.int y) = if modOk x y = true then some (.int (x.fmod y)) else none := rfl
@[simp] theorem ev_powI {x y : Int} : opPow (.int x) (.int y) = if powOk x y = true then some (.int (x ^ y.toNat)) else none := rfl
@[simp] theorem ev_shlI {x y : Int} : opShl (.int x) (.int y) = if shlOk x y = true then some (.int (x * 2 ^ y.toNat)) else none := rfl
@[simp] theorem ev_shrI {x y : Int} : opShr (.int x) (.int y) = if shrOk x y = true then some (.int (x / 2 ^ y.toNat)) else none := rfl
@[simp] theorem ev_negI {x : Int} : opNeg (.int x) = some (.int (-x)) := rfl
@[simp] theorem ev_ltI {x y : Int} : opLt (.int x) (.int y) = some (.bl (decide (x < y))) := rfl
@[simp] theorem ev_leI {x y : Int} : opLe (.int x) (.int y) = some (.bl (decide (x ≤ y))) := rfl
@[simp] theorem ev_gtI {x y : Int} : opGt (.int x) (.int y) = some (.bl (decide (y < x))) := rfl
@[simp] theorem ev_geI {x y : Int} : opGe (.int x) (.int y) = some (.bl (decide (y ≤ x))) := rfl
@[simp] theorem ev_eqI {x y : Int} : opEq (.int x) (.int y) = some (.bl (decide (x = y))) := by
  have h : eqB (.int x) (.int y) = decide (x = y) := by rw [eqB.eq_def]; rfl
  rw [← h]; rfl
@[simp] theorem ev_neI {x y : Int} : opNe (.int x) (.int y) = some (.bl (!decide (x = y))) := by
  have h : eqB (.int x) (.int y) = decide (x = y) := by rw [eqB.eq_def]; rfl
  rw [← h]; rfl
@[simp] theorem ev_eqB {x y : Bool} : opEq (.bl x) (.bl y) = some (.bl (x == y)) := rfl
@[simp] theorem ev_neB {x y : Bool} : opNe (.bl x) (.bl y) = some (.bl (!(x == y))) := rfl
@[simp] theorem ev_isN {p : PV} : opIs p .non = some (.bl (isN p)) := rfl
@[simp] theorem ev_notN {p : PV} : opIsNot p .non = some (.bl (!isN p)) := rfl
@[simp] theorem ev_ixL {x : Int} : opIx (.lst ps) (.int x) = atI ps x := rfl
@[simp] theorem ev_ixT {x : Int} : opIx (.tup ps) (.int x) = atI ps x := rfl
@[simp] theorem ev_lenL : fLen [.lst ps] = some (.int ps.length) := rfl
@[simp] theorem ev_lenT : fLen [.tup ps] = some (.int ps.length) := rfl
@[simp] theorem ev_abs {x : Int} : fAbs [.int x] = some (.int (if x < 0 then -x else x)) := rfl
@[simp] theorem ev_min {x y : Int} : fMin2 [.int x, .int y] = some (.int (if y < x then y else x)) := rfl
@[simp] theorem ev_max {x y : Int} : fMax2 [.int x, .int y] = some (.int (if y > x then y else x)) := rfl
@[simp] theorem ev_listL : fList [.lst ps] = some (.ow ps) := rfl
@[simp] theorem ev_listT : fList [.tup ps] = some (.ow ps) := rfl
@[simp] theorem ev_tupL : fTuple [.lst ps] = some (.tup ps) := rfl
@[simp] theorem ev_tupT : fTuple [.tup ps] = some (.tup ps) := rfl
@[simp] theorem ev_isi {t : String} : fIsi [p, .ty t] = (isiT p t).map .bl := rfl
@[simp] theorem ev_truB {x : Bool} : tru (.bl x) = some x := rfl
@[simp] theorem ev_truI {x : Int} : tru (.int x) = some (x != 0) := rfl
@[simp] theorem ev_truL : tru (.lst ps) = some (!ps.isEmpty) := rfl
@[simp] theorem atI_nat' (xs : List α) (n : Nat) : atI xs (n : Int) = xs[n]? := by
  unfold atI ixN
  rw [if_pos (by omega)]
  by_cases h : n < xs.length
  · rw [if_pos (by omega)]
    simp
  · rw [if_neg (by omega)]
    simp
    omega
@[simp] theorem atI_lit (xs : List α) (n : Nat) : atI xs (no_index (OfNat.ofNat n) : Int) = xs[(no_index (OfNat.ofNat n) : Nat)]? := atI_nat' xs n
@[simp] theorem modOk_lit {x y : Int} : modOk x y = decide (y ≠ 0) := rfl
end
theorem mul_l {x y : Int} (h1 : -(2 ^ 64) < x) (h2 : x < 2 ^ 64) : mulOk x y = true := by unfold mulOk; rw [decide_eq_true h1, decide_eq_true h2]; rfl
theorem mul_r {x y : Int} (h1 : -(2 ^ 64) < y) (h2 : y < 2 ^ 64) : mulOk x y = true := by unfold mulOk; rw [decide_eq_true h1, decide_eq_true h2]; simp
theorem fdv_b {x y : Int} (h1 : y ≠ 0) (h2 : bits y ≤ 8000) : fdvOk x y = true := by unfold fdvOk; simp [h1, h2]
section
variable {g : Tg} {mb : M Fl} {mc mt : M Bool} {me : M PV} {items : List PV} {ρ : PSt}
theorem forL_gen (I : Nat → PSt → Prop) (R : Res Fl → Prop) (h0 : I 0 ρ)
    (hs : ∀ i p ρ, items[i]? = some p → I i ρ → ∃ ρ1, g p ρ = some ρ1 ∧ ((∃ ρ2, (mb ρ1 = .ok .nx ρ2 ∨ mb ρ1 = .ok .ct ρ2) ∧ I (i + 1) ρ2) ∨ (∃ r ρ2, mb ρ1 = .ok (.rt r) ρ2 ∧ R (.ok (.rt r) ρ2)) ∨ (∃ ρ2, mb ρ1 = .ok .bk ρ2 ∧ R (.ok .nx ρ2)) ∨ ∃ x ρ2, mb ρ1 = .exc x ρ2 ∧ R (.exc x ρ2)))
    (hd : ∀ ρ, I items.length ρ → R (.ok .nx ρ)) : R (forL g mb items ρ) := by
  induction items generalizing ρ I with
  | nil => exact hd ρ h0
  | cons p ps ih =>
    obtain ⟨ρ1, e1, h⟩ := hs 0 p ρ rfl h0
    unfold forL
    rw [e1]
    dsimp only
    rcases h with ⟨ρ2, e2, h2⟩ | ⟨r, ρ2, e2, h2⟩ | ⟨ρ2, e2, h2⟩ | ⟨x, ρ2, e2, h2⟩
    · have go : R (forL g mb ps ρ2) := ih (fun i => I (i + 1)) h2 (fun i q ρ e hi => hs (i + 1) q ρ (by simpa using e) hi) (fun ρ h => hd ρ (by simpa using h))
      rcases e2 with e2 | e2
      · rw [e2]; exact go
      · rw [e2]; exact go
    · rw [e2]; exact h2
    · rw [e2]; exact h2
    · rw [e2]; exact h2
theorem forL_inv (I : Nat → PSt → Prop) (h0 : I 0 ρ) (hs : ∀ i p ρ, items[i]? = some p → I i ρ → ∃ ρ1 ρ2, g p ρ = some ρ1 ∧ mb ρ1 = .ok .nx ρ2 ∧ I (i + 1) ρ2) : ∃ ρ', forL g mb items ρ = .ok .nx ρ' ∧ I items.length ρ' :=
  forL_gen I (fun r => ∃ ρ', r = .ok .nx ρ' ∧ I items.length ρ') h0 (fun i p ρ e hi => by
    obtain ⟨ρ1, ρ2, h1, h2, h3⟩ := hs i p ρ e hi
    exact ⟨ρ1, h1, .inl ⟨ρ2, .inl h2, h3⟩⟩) fun ρ h => ⟨ρ, rfl, h⟩
end
end P
namespace P
open PySem PySem.Spec PyProof.Rows L2 M2 M3 M4
section
variable {X : Cx} {cm : String → Addr} {K : KK} {E : L2.St → XK} {a b e o : Expr} {es : List Expr} {pos apos : Pos} {m ma mb : M PV} {f : Str}
def fldF (cs : List String) (f : Str) : PV → Option PV
  | .ins C ns ps => if cs.contains C = true then (ns.zip ps).lookup f else none
  | _ => none
def mMeth (m : Str) (tbl : List (String × MF)) (mo : M PV) (ms : M (List Slot)) : M RV := fun ρ => (mo ρ).bind fun p ρ1 => match p with
  | .ins C ns ps => match tbl.lookup C with
    | some mf => if ns.contains m = true then .bad else (ms ρ1).bind fun as ρ2 => match mf (.sh (.ins C ns ps) :: as) with
      | .ret r => .ok r ρ2
      | .exc x => .exc x ρ2
      | .bad => .bad
    | none => .bad
  | _ => .bad
variable {CX : CXT} {k n : Nat} {mth : Str} {tbl : List (String × MF)} {ms : M (List Slot)}
def putN (f : Str) : List Str → List Str
  | [] => [f]
  | g :: r => if g = f then g :: r else g :: putN f r
def putP (f : Str) (p : PV) : List Str → List PV → List PV
  | [], _ => [p]
  | g :: r, q :: qs => if g = f then p :: qs else q :: putP f p r qs
  | _ :: _, [] => []
def mPutF (i : Nat) (cs : List String) (f : Str) (mv : M PV) : M Fl := fun ρ => (mv ρ).bind fun p ρ1 => match ρ1[i]? with
  | some (.rc C ns ps) => if cs.contains C = true ∧ ns.length < 1000 then .ok .nx (ρ1.set i (.rc C (putN f ns) (putP f p ns ps))) else .bad
  | _ => .bad
inductive IR where
  | ok (ns : List Str) (ps : List PV) | exc (x : PX) | bad
abbrev MI := List Slot → IR
def IR.of : Res Fl → IR
  | .ok .nx (.rc _ ns ps :: _) => .ok ns ps
  | .exc x _ => .exc x
  | _ => .bad
def mInit (n k : Nat) (C : String) (mb : M Fl) : MI := fun as => if as.length + 1 = n then IR.of (mb (.rc C [] [] :: startP (k - 1) as)) else .bad
end
section
variable {P : Program} {w : World} {K : PySem.W.Frag} {cm : String → Addr} {mg : Str → Option Value} {base : Heap} {CX : CXT}
end
def mMake (C : String) (mi : MI) (ms : M (List Slot)) : M PV := fun ρ => (ms ρ).bind fun as ρ1 => match mi as with
  | .ok ns ps => .ok (.ins C ns ps) ρ1
  | .exc x => .exc x ρ1
  | .bad => .bad
section
variable {X : Cx} {cm : String → Addr} {E : L2.St → XK} {e : Expr} {es : List Expr} {pos p : Pos} {CX : CXT} {k n : Nat} {f : Addr} {fd : FuncData} {ps : List Str} {C : String} {mi : MI} {ms : M (List Slot)} {x : Str}
end
end P
namespace P
open PySem PySem.Spec PyProof.Rows L2 M2 M3 M4
section
variable {M : Model} {A : Around} {E : Value → Shared → Prop} {s : Shared} {B : Heap} {env : Env} {outer : List Env} {L e : Addr} {Q : Unit → Shared → Prop}
end
theorem HOk.sub {P : Program} {w : World} {H : Hp} {h B : Heap} (x : HOk P w H h) (k : ∀ b o u, H b = some u → h.get? b = some o → B.get? b = some o) : HOk P w H B := fun a o e =>
  (x a o e).stay (fun b u hb q => by
    rcases hb with rfl | hb
    · exact k _ _ _ e q
    · exact k _ _ _ hb q) (fun _ q => q) fun _ _ q => q
section
variable {P : Program} {w : World} {K : PySem.W.Frag} {mg : Str → Option Value} {base : Heap} {N : List Str} {qual : Str} {scope : Scope} {f : Addr} {cdv : Value} {A : Around} {outer : List Env} {s₀ : Shared} {H₀ : Hp} {E : XK}
end
end P
namespace P
open PySem PySem.Spec PyProof.Rows L2 M2 M3 M4
section
variable {K : PySem.W.Frag} {h : Heap} {C : Addr} {bmB : List Value} {newId : String}
end
def mRaise (C : String) : M Fl := fun ρ => .exc ⟨C, [], []⟩ ρ
section
variable {X : Cx} {cm : String → Addr} {E : L2.St → XK} {x : Str} {C : String} {np cpos pos : Pos}
end
section
variable {M : Model} {A : Around} {E : Value → Shared → Prop} {s : Shared} {K : PySem.W.Frag} {e C D : Addr} {oe : Obj} {b : Bool} {Q : Bool → Shared → Prop}
end
section
variable {X : Cx} {pins : List (Addr × Obj)} {σ : L2.St} {H : Hp} {s : Shared} {xe : Value → Shared → Prop}
end
end P
namespace P
open PySem PySem.Spec PyProof.Rows L2 M2 M3 M4
abbrev MH := PX → PSt → Res Fl
def mHandAs (i : Nat) (yes no : List String) (mh : M Fl) (rest : MH) : MH := fun x ρ => if yes.contains x.C = true then (match mh (ρ.set i (.sh (.xc x.C x.ns x.ps))) with
  | .ok f ρ2 => .ok f (ρ2.set i .no)
  | _ => .bad) else if no.contains x.C = true then rest x ρ else .bad
def mHand (yes no : List String) (mh : M Fl) (rest : MH) : MH := fun x ρ => if yes.contains x.C = true then (match mh ρ with
  | .ok f ρ2 => .ok f ρ2
  | _ => .bad) else if no.contains x.C = true then rest x ρ else .bad
def mTry (mb : M Fl) (mh : MH) : M Fl := fun ρ => match mb ρ with
  | .exc x ρ1 => mh x ρ1
  | r => r
section
variable {X : Cx} {cm : String → Addr} {E : L2.St → XK} {pins : List (Addr × Obj)} {σ : L2.St} {H Hc : Hp} {s sc : Shared} {ea : Addr} {C : Value} {d : Option Addr} {B : Heap}
variable {y n : Str} {Dn : String} {i : Nat} {yp hpos : Pos} {b₀ : Stmt} {suite : List Stmt} {rest : List ExceptHandler} {yes no : List String} {mh : M Fl} {mr : MH}
end
end P
namespace P
open PySem PySem.Spec PyProof.Rows L2 M2 M3 M4 Builtin Builtin.ObjectAttr
section
variable {K : PySem.W.Frag} {h : Heap} {C : Addr} {cd : ClassData} {bm : List Value}
end
section
variable {prog : Program} {w : World} {A : Around} {E : Value → Shared → Prop} {h : Heap} {g : Array GenState} {d : Drawn} {t : Nat} {os : OsState}
variable {nm q : Str} {C N : Addr} {bs bm bmB : List Value} {hdct : Bool} {sn : List Str} {sub : List Value} {ab : Bool} {col : Option Bool} {dd : Option Addr} {k0 k1 k2 k3 k5 : Option Value} {B newId initId : String}
end
section
variable {prog : Program} {w : World} {A : Around} {E : Value → Shared → Prop} {s : Shared} {K : PySem.W.Frag} {x C : Addr} {cd : ClassData} {bm : List Value} {ox : Obj} {od : Option Obj} {name : Str} {v : Value}
end
end P
namespace P
open PySem PySem.Spec PyProof.Rows L2 M2 M3 M4
section
variable {X : Cx} {pins : List (Addr × Obj)} {σ : L2.St} {H : Hp} {s : Shared} {a C : Addr} {cd : ClassData} {bm : List Value} {d : Option Addr} {fs : List (Str × V)} {f : Str} {y : V} {u : Value} {A : Around} {E : Value → Shared → Prop}
variable {o value : Expr} {pos pos' : Pos} {j : Nat} {ss : List Stmt} {r : List (Str × Nat)}
end
section
variable {P : Program} {w : World} {K : PySem.W.Frag} {mg : Str → Option Value} {base : Heap} {CX : CXT}
end
def xiP : List (Str × Nat) → List PV → List Str → List PV → Option (List Str × List PV)
  | [], _, ns, qs => some (ns, qs)
  | (_, 0) :: _, _, _, _ => none
  | (f, j + 1) :: r, ps, ns, qs => match ps[j]? with
    | some p => xiP r ps (putN f ns) (putP f p ns qs)
    | none => none
def mXMake (C : String) (n : Nat) (fl : List (Str × Nat)) (ms : M (List PV)) : M PV := fun ρ => (ms ρ).bind fun ps ρ1 => if ps.length + 1 = n ∧ ps.length < 1000 ∧ fl.length < 1000 then (match xiP fl ps [] [] with
  | some (ns, qs) => .ok (.xc C ns qs) ρ1
  | none => .bad) else .bad
def mXRaise (C : String) (n : Nat) (fl : List (Str × Nat)) (ms : M (List PV)) : M Fl := fun ρ => (ms ρ).bind fun ps ρ1 => if ps.length + 1 = n ∧ ps.length < 1000 ∧ fl.length < 1000 then (match xiP fl ps [] [] with
  | some (ns, qs) => .exc ⟨C, ns, qs⟩ ρ1
  | none => .bad) else .bad
section
variable {X : Cx} {cm : String → Addr} {E : L2.St → XK} {e : Expr} {es : List Expr} {pos p : Pos} {CX : CXT} {k n : Nat} {f : Addr} {fd : FuncData} {ps : List Str} {C : String} {fl : List (Str × Nat)} {ms : M (List PV)} {x : Str}
def mXMake0 (C : String) : M PV := fun ρ => .ok (.xc C [] []) ρ
end
section
variable {M : Model} {A : Around} {E : Value → Shared → Prop} {s : Shared} {K : PySem.W.Frag} {env : Env}
end
section
variable {X : Cx} {cm : String → Addr} {E : L2.St → XK} {e : Expr} {es : List Expr} {pos cpos np : Pos} {CX : CXT} {k n : Nat} {f : Addr} {fd : FuncData} {ps : List Str} {C : String} {fl : List (Str × Nat)} {ms : M (List PV)} {x : Str}
end
end P
namespace P
open PySem PySem.Spec PyProof.Rows L2 M2 M3 M4 Builtin Builtin.ObjectAttr
section
variable {prog : Program} {w : World} {A : Around} {E : Value → Shared → Prop} {s : Shared} {K : PySem.W.Frag} {x C : Addr} {ox : Obj} {od : Option Obj}
end
section
variable {X : Cx} {cm : String → Addr} {K : KK}
end
section
variable {ρ : PSt} {C : String} {n i : Nat} {fl : List (Str × Nat)} {ms : M (List PV)} {mb mh : M Fl} {mr : MH} {yes no : List String} {x : PX}
@[simp] theorem ev_raise : mRaise C ρ = .exc ⟨C, [], []⟩ ρ := rfl
@[simp] theorem ev_xmake0 : mXMake0 C ρ = .ok (.xc C [] []) ρ := rfl
@[simp] theorem ev_xmake : mXMake C n fl ms ρ = (ms ρ).bind fun ps ρ1 => if ps.length + 1 = n ∧ ps.length < 1000 ∧ fl.length < 1000 then (match xiP fl ps [] [] with
  | some (ns, qs) => .ok (.xc C ns qs) ρ1
  | none => .bad) else .bad := rfl
@[simp] theorem ev_xraise : mXRaise C n fl ms ρ = (ms ρ).bind fun ps ρ1 => if ps.length + 1 = n ∧ ps.length < 1000 ∧ fl.length < 1000 then (match xiP fl ps [] [] with
  | some (ns, qs) => .exc ⟨C, ns, qs⟩ ρ1
  | none => .bad) else .bad := rfl
@[simp] theorem ev_try : mTry mb mr ρ = (match mb ρ with
  | .exc x ρ1 => mr x ρ1
  | r => r) := rfl
@[simp] theorem ev_has : mHandAs i yes no mh mr x ρ = (if yes.contains x.C = true then (match mh (ρ.set i (.sh (.xc x.C x.ns x.ps))) with
  | .ok f ρ2 => .ok f (ρ2.set i .no)
  | _ => .bad) else if no.contains x.C = true then mr x ρ else .bad) := rfl
end
end P
namespace P
open PySem PySem.Spec PyProof.Rows L2 M2 M3 M4
section
variable {X : Cx} {cm : String → Addr} {E : L2.St → XK} {y : Str} {Dn : String} {yp hpos : Pos} {b₀ : Stmt} {suite : List Stmt} {rest : List ExceptHandler} {yes no : List String} {mh : M Fl} {mr : MH}
@[simp] theorem ev_han {ρ : PSt} {x : PX} : mHand yes no mh mr x ρ = (if yes.contains x.C = true then (match mh ρ with
  | .ok f ρ2 => .ok f ρ2
  | _ => .bad) else if no.contains x.C = true then mr x ρ else .bad) := rfl
end
end P
namespace P
open PySem PySem.Spec PyProof.Rows L2 M2 M3 M4
section
variable {X : Cx} {cm : String → Addr} {K : KK}
def fInt : List PV → Option PV
  | [.int i] => some (.int i)
  | [.bl k] => some (.int (if k then 1 else 0))
  | _ => none
def fStr : List PV → Option PV
  | [.int i] => if i.natAbs.log2 < 1920 then some (.str (toString i)) else none
  | _ => none
def fOrd : List PV → Option PV
  | [.str x] => if x.length = 1 then some (.int (x.cps.getD 0 0 : Nat)) else none
  | _ => none
def intsOf : List PV → Option (List Int)
  | [] => some []
  | .int b :: ps => (intsOf ps).map (b :: ·)
  | _ :: _ => none
@[simp] theorem intsOf_map : ∀ ns : List Int, intsOf (ns.map PV.int) = some ns
  | [] => rfl
  | n :: ns => by rw [List.map_cons, intsOf, intsOf_map ns]; rfl
def best (f : Int → Int → Int) : List Int → Option Int
  | [] => none
  | n :: ns => some (ns.foldl f n)
def fSum : List PV → Option PV
  | [.lst ps] => (intsOf ps).map fun ns => .int ns.sum
  | _ => none
def fMax1 : List PV → Option PV
  | [.lst ps] => ((intsOf ps).bind (best max)).map .int
  | _ => none
def fMin1 : List PV → Option PV
  | [.lst ps] => ((intsOf ps).bind (best min)).map .int
  | _ => none
@[simp] theorem ev_intI {i : Int} : fInt [.int i] = some (.int i) := rfl
@[simp] theorem ev_intB {b : Bool} : fInt [.bl b] = some (.int (if b then 1 else 0)) := rfl
@[simp] theorem ev_strI {i : Int} : fStr [.int i] = if i.natAbs.log2 < 1920 then some (.str (toString i)) else none := rfl
@[simp] theorem ev_ordS {x : Str} : fOrd [.str x] = if x.length = 1 then some (.int (x.cps.getD 0 0 : Nat)) else none := rfl
@[simp] theorem ev_sumL {ps : List PV} : fSum [.lst ps] = (intsOf ps).map fun ns => .int ns.sum := rfl
@[simp] theorem ev_maxL {ps : List PV} : fMax1 [.lst ps] = ((intsOf ps).bind (best max)).map .int := rfl
@[simp] theorem ev_minL {ps : List PV} : fMin1 [.lst ps] = ((intsOf ps).bind (best min)).map .int := rfl
@[simp] theorem ev_best {f : Int → Int → Int} {n : Int} {ns : List Int} : best f (n :: ns) = some (ns.foldl f n) := rfl
end
end P
namespace P
open PySem PySem.Spec PyProof.Rows L2 M2 M3 M4
section
variable {ρ : PSt} {i n k : Nat} {C : String} {cs : List String} {f m : Str} {mv mo : M PV} {mi : MI} {ms : M (List Slot)} {mb : M Fl} {tbl : List (String × MF)} {as : List Slot} {ns : List Str} {ps : List PV}
@[simp] theorem ev_putf : mPutF i cs f mv ρ = (mv ρ).bind fun p ρ1 => match ρ1[i]? with
  | some (.rc C ns ps) => if cs.contains C = true ∧ ns.length < 1000 then .ok .nx (ρ1.set i (.rc C (putN f ns) (putP f p ns ps))) else .bad
  | _ => .bad := rfl
@[simp] theorem ev_init : mInit n k C mb as = if as.length + 1 = n then IR.of (mb (.rc C [] [] :: startP (k - 1) as)) else .bad := rfl
@[simp] theorem ev_iro {C : String} : IR.of (.ok .nx (.rc C ns ps :: ρ)) = .ok ns ps := rfl
@[simp] theorem ev_make : mMake C mi ms ρ = (ms ρ).bind fun as ρ1 => match mi as with
  | .ok ns ps => .ok (.ins C ns ps) ρ1
  | .exc x => .exc x ρ1
  | .bad => .bad := rfl
@[simp] theorem ev_fld : fldF cs f (.ins C ns ps) = if cs.contains C = true then (ns.zip ps).lookup f else none := rfl
@[simp] theorem ev_meth : mMeth m tbl mo ms ρ = (mo ρ).bind fun p ρ1 => match p with
  | .ins C ns ps => match tbl.lookup C with
    | some mf => if ns.contains m = true then .bad else (ms ρ1).bind fun as ρ2 => match mf (.sh (.ins C ns ps) :: as) with
      | .ret r => .ok r ρ2
      | .exc x => .exc x ρ2
      | .bad => .bad
    | none => .bad
  | _ => .bad := rfl
end
end P
namespace M3
open PySem PySem.Spec PyProof.Rows L2 M2
section
variable {X : Cx} {elt tg iter : Expr} {ifs : List Expr} {scope : Scope} {pos : Pos} {wi : TI} {g : TG} {tt : TT} {te : TE}
end
end M3
namespace P
open PySem PySem.Spec PyProof.Rows L2 M2 M3 M4
section
variable {X : Cx} {cm : String → Addr} {E : L2.St → XK} {elt tg iter : Expr} {ifs : List Expr} {scope : Scope} {pos : Pos} {mi : M (List PV)} {g : Tg} {mt : M Bool} {me : M PV}
end
end P
namespace P
open PySem PySem.Spec PyProof.Rows L2 M2 M3 M4
def mBM (f : PV → List PV → Option PV) (mo : M PV) (ms : M (List PV)) : M PV := fun ρ => (mo ρ).bind fun p ρ1 => match p with
  | .str _ => (ms ρ1).bind fun ps ρ2 => Res.ofO (f p ps) ρ2
  | _ => .bad
@[simp] theorem ev_bm {f : PV → List PV → Option PV} {mo : M PV} {ms : M (List PV)} {ρ : PSt} : mBM f mo ms ρ = (mo ρ).bind fun p ρ1 => match p with
  | .str _ => (ms ρ1).bind fun ps ρ2 => Res.ofO (f p ps) ρ2
  | _ => .bad := rfl
section
variable {X : Cx} {cm : String → Addr} {K : KK} {E : L2.St → XK} {o e : Expr} {es : List Expr} {name : Str} {apos cpos : Pos} {id : String} {r : V → List V → Hp → VK → Prop} {f : PV → List PV → Option PV} {mo : M PV} {ms : M (List PV)}
end
end P
namespace P
open PySem PySem.Spec PyProof.Rows L2 M2 M3 M4
section
variable {X : Cx} {pins : List (Addr × Obj)} {σ : L2.St} {H : Hp} {s : Shared} {h' : Heap}
end
section
variable {X : Cx} {elts : List Expr} {k : Nat} {tp : Pos}
end
def mLs (m : M PV) : M (List PV) := fun ρ => (m ρ).bind fun p ρ1 => match p with
  | .lst ps => .ok ps ρ1
  | _ => .bad
def mSq (m : M PV) : M (List PV) := fun ρ => (m ρ).bind fun p ρ1 => match p with
  | .lst ps => .ok ps ρ1
  | .tup ps => .ok ps ρ1
  | _ => .bad
def mLsN (i : Nat) : M (List PV) := fun ρ => match ρ[i]? with
  | some (.bw ps) => .ok ps ρ
  | some (.sh (.lst ps)) => .ok ps ρ
  | some (.ow ps) => .ok ps (ρ.set i (.sh (.lst ps)))
  | _ => .bad
def mSqN (i : Nat) : M (List PV) := fun ρ => match ρ[i]? with
  | some (.bw ps) => .ok ps ρ
  | some (.sh (.lst ps)) => .ok ps ρ
  | some (.sh (.tup ps)) => .ok ps ρ
  | some (.ow ps) => .ok ps (ρ.set i (.sh (.lst ps)))
  | _ => .bad
section
variable {X : Cx} {cm : String → Addr} {E : L2.St → XK} {e : Expr} {m : M PV}
def enumP : Nat → List PV → List PV
  | _, [] => []
  | k, p :: ps => .tup [.int k, p] :: enumP (k + 1) ps
def mEnum (m : M (List PV)) : M (List PV) := fun ρ => (m ρ).bind fun ps ρ1 => .ok (enumP 0 ps) ρ1
def mExt (i : Nat) (mo : M RV) : M Fl := fun ρ => match ρ[i]? with
  | some (.ow _) => (mo ρ).bind fun r ρ1 => match ρ1[i]?, r with
    | some (.ow ps), .ow qs => if ps.length + qs.length ≤ 16777216 then .ok .nx (ρ1.set i (.ow (ps ++ qs))) else .bad
    | _, _ => .bad
  | _ => .bad
def mClr (i : Nat) : M Fl := fun ρ => match ρ[i]? with
  | some (.ow _) => .ok .nx (ρ.set i (.ow []))
  | _ => .bad
@[simp] theorem ev_clr {i : Nat} {ρ : PSt} : mClr i ρ = (match ρ[i]? with
  | some (.ow _) => .ok .nx (ρ.set i (.ow []))
  | _ => .bad) := rfl
@[simp] theorem ev_ext {i : Nat} {mo : M RV} {ρ : PSt} : mExt i mo ρ = (match ρ[i]? with
  | some (.ow _) => (mo ρ).bind fun r ρ1 => match ρ1[i]?, r with
    | some (.ow ps), .ow qs => if ps.length + qs.length ≤ 16777216 then .ok .nx (ρ1.set i (.ow (ps ++ qs))) else .bad
    | _, _ => .bad
  | _ => .bad) := rfl
@[simp] theorem ev_enum {mi : M (List PV)} {ρ : PSt} : mEnum mi ρ = (mi ρ).bind fun ps ρ1 => .ok (enumP 0 ps) ρ1 := rfl
@[simp] theorem ev_ls {ρ : PSt} : mLs m ρ = (m ρ).bind fun p ρ1 => match p with
  | .lst ps => .ok ps ρ1
  | _ => .bad := rfl
@[simp] theorem ev_sq {ρ : PSt} : mSq m ρ = (m ρ).bind fun p ρ1 => match p with
  | .lst ps => .ok ps ρ1
  | .tup ps => .ok ps ρ1
  | _ => .bad := rfl
@[simp] theorem ev_lsN {i : Nat} {ρ : PSt} : mLsN i ρ = (match ρ[i]? with
  | some (.bw ps) => .ok ps ρ
  | some (.sh (.lst ps)) => .ok ps ρ
  | some (.ow ps) => .ok ps (ρ.set i (.sh (.lst ps)))
  | _ => .bad) := rfl
@[simp] theorem ev_sqN {i : Nat} {ρ : PSt} : mSqN i ρ = (match ρ[i]? with
  | some (.bw ps) => .ok ps ρ
  | some (.sh (.lst ps)) => .ok ps ρ
  | some (.sh (.tup ps)) => .ok ps ρ
  | some (.ow ps) => .ok ps (ρ.set i (.sh (.lst ps)))
  | _ => .bad) := rfl
end
end P
namespace P
open PySem PySem.Spec PyProof.Rows L2 M2 M3 M4
def mOrEq (i : Nat) (m : M PV) : M Fl := fun ρ => match ρ[i]? with
  | some (.sh (.int _)) => (m ρ).bind fun q ρ1 => match ρ1[i]?, q with
    | some (.sh (.int k)), .int j => .ok .nx (ρ1.set i (.sh (.int (Builtin.bitOr k j))))
    | _, _ => .bad
  | _ => .bad
@[simp] theorem ev_oreq {i : Nat} {m : M PV} {ρ : PSt} : mOrEq i m ρ = (match ρ[i]? with
  | some (.sh (.int _)) => (m ρ).bind fun q ρ1 => match ρ1[i]?, q with
    | some (.sh (.int k)), .int j => .ok .nx (ρ1.set i (.sh (.int (Builtin.bitOr k j))))
    | _, _ => .bad
  | _ => .bad) := rfl
section
variable {X : Cx} {cm : String → Addr} {E : L2.St → XK} {e a b : Expr} {m ma mb : M PV} {pos : Pos}
def opInv : PV → Option PV
  | .int i => some (.int (Builtin.bitNot i))
  | _ => none
@[simp] theorem ev_invI {i : Int} : opInv (.int i) = some (.int (Builtin.bitNot i)) := rfl
def mBits (m : M PV) : M PV := fun ρ => (m ρ).bind fun p ρ1 => match p with
  | .int i => .ok (.int ((Builtin.Int.intBits i : Nat) : Int)) ρ1
  | _ => .bad
@[simp] theorem ev_bits {ρ : PSt} : mBits m ρ = (m ρ).bind fun p ρ1 => match p with
  | .int i => .ok (.int ((Builtin.Int.intBits i : Nat) : Int)) ρ1
  | _ => .bad := rfl
def mRev (m : M PV) : M RV := fun ρ => (m ρ).bind fun p ρ1 => match p with
  | .lst ps => .ok (.ow ps.reverse) ρ1
  | _ => .bad
@[simp] theorem ev_rev {ρ : PSt} : mRev m ρ = (m ρ).bind fun p ρ1 => match p with
  | .lst ps => .ok (.ow ps.reverse) ρ1
  | _ => .bad := rfl
end
section
variable {X : Cx} {K : KK}
end
end P
namespace P
open PySem PySem.Spec PyProof.Rows L2 M2 M3 M4
section
variable {prog : Program} {w : World} {A : Around} {E : Value → Shared → Prop} {s : Shared}
end
section
variable {prog : Program} {w : World} {A : Around} {E : Value → Shared → Prop} {s : Shared}
end
section
variable {prog : Program} {w : World} {A : Around} {E : Value → Shared → Prop} {s : Shared}
end
def IterB (b : Bool) (h : Heap) (it l : Addr) (i : Nat) : Prop := if b = true then h.IsTupleIter it l i else h.IsListIter it l i
def nmB (b : Bool) : String := if b = true then "tuple_iterator" else "list_iterator"
theorem IterB.ex {b : Bool} {h : Heap} {it l : Addr} {i : Nat} (x : IterB b h it l i) : ∃ o, h.get? it = some o ∧ o.cls = .type (nmB b) ∧ o.data = .fields #[.ref l, .int i 0] := by
  cases b with
  | true => exact x
  | false => exact x
section
variable {X : Cx} {pins : List (Addr × Obj)} {σ : L2.St} {H : Hp} {s : Shared}
end
section
variable {prog : Program} {w : World} {A : Around} {E : Value → Shared → Prop} {s : Shared}
end
section
variable {X : Cx} {elts : List Expr} {k : Nat} {tp : Pos}
end
section
variable {X : Cx} {cm : String → Addr} {E : L2.St → XK} {e e2 : Expr}
end
end P
namespace P
open PySem PySem.Spec PyProof.Rows L2 M2 M3 M4
section
variable {X : Cx}
end
def mNoX {α : Type} (m : M α) : M α := fun ρ => match m ρ with
  | .ok a ρ' => .ok a ρ'
  | _ => .bad
@[simp] theorem ev_nox {α : Type} {m : M α} {ρ : PSt} : mNoX m ρ = (match m ρ with
  | .ok a ρ' => .ok a ρ'
  | _ => .bad) := rfl
end P
namespace P
open PySem PySem.Spec PyProof.Rows L2 M2 M3 M4
theorem bits_lt {x : Int} {n : Nat} (h1 : -(2 ^ n : Int) < x) (h2 : x < 2 ^ n) : bits x ≤ n := by
  refine intBits_le_iff.mpr ?_
  have e : ((2 ^ n : Nat) : Int) = (2 : Int) ^ n := by simp
  have : ((x.natAbs : Nat) : Int) < ((2 ^ n : Nat) : Int) := by rw [e]; omega
  omega
theorem fdv_s {x y : Int} (h : y ≠ 0) (h1 : -18446744073709551616 < y) (h2 : y < 18446744073709551616) : fdvOk x y = true := fdv_b h (Nat.le_trans (bits_lt (n := 64) (by omega) (by omega)) (by decide))
@[simp] theorem fdv_lit {x : Int} {n : Nat} (h : n ≠ 0) (h2 : n < 18446744073709551616) : fdvOk x (no_index (OfNat.ofNat n) : Int) = true := by
  have e : (no_index (OfNat.ofNat n) : Int) = (n : Int) := rfl
  rw [e]
  exact fdv_s (by omega) (by omega) (by omega)
@[simp] theorem mul_litr {x : Int} {n : Nat} (h : n < 18446744073709551616) : mulOk x (no_index (OfNat.ofNat n) : Int) = true := by
  have e : (no_index (OfNat.ofNat n) : Int) = (n : Int) := rfl
  rw [e]
  exact mul_r (by omega) (by omega)
@[simp] theorem mul_litl {x : Int} {n : Nat} (h : n < 18446744073709551616) : mulOk (no_index (OfNat.ofNat n) : Int) x = true := by
  have e : (no_index (OfNat.ofNat n) : Int) = (n : Int) := rfl
  rw [e]
  exact mul_l (by omega) (by omega)
@[simp] theorem pow_lit {m n : Nat} (h : m < 18446744073709551616) (h2 : n ≤ 1000000) : powOk (no_index (OfNat.ofNat m) : Int) (no_index (OfNat.ofNat n) : Int) = true := by
  have e : (no_index (OfNat.ofNat m) : Int) = (m : Int) := rfl
  have e2 : (no_index (OfNat.ofNat n) : Int) = (n : Int) := rfl
  rw [e, e2]
  unfold powOk
  simp
  omega
@[simp] theorem fdiv_lit {x : Int} {n : Nat} : x.fdiv (no_index (OfNat.ofNat n) : Int) = x / (no_index (OfNat.ofNat n) : Int) := Int.fdiv_eq_ediv_of_nonneg x (Int.natCast_nonneg n)
@[simp] theorem fmod_lit {x : Int} {n : Nat} : x.fmod (no_index (OfNat.ofNat n) : Int) = x % (no_index (OfNat.ofNat n) : Int) := Int.fmod_eq_emod_of_nonneg x (Int.natCast_nonneg n)
end P
namespace P
open PySem PySem.Spec PyProof.Rows L2 M2 M3 M4
theorem add_l {xs ys : List PV} (h : xs.length + ys.length ≤ 16777216) : opAdd (.lst xs) (.lst ys) = some (.ow (xs ++ ys)) := by
  unfold opAdd
  simp [h]
theorem eq_tup {x y z w : Int} : eqB (.tup [.int x, .int y]) (.tup [.int z, .int w]) = (decide (x = z) && decide (y = w)) := by
  rw [eqB.eq_def]
  show eqBL [.int x, .int y] [.int z, .int w] = _
  rw [eqBL.eq_def]
  show (eqB (.int x) (.int z) && eqBL [.int y] [.int w]) = _
  rw [eqBL.eq_def]
  show (eqB (.int x) (.int z) && (eqB (.int y) (.int w) && eqBL [] [])) = _
  have h1 : eqB (.int x) (.int z) = decide (x = z) := by rw [eqB.eq_def]; rfl
  have h2 : eqB (.int y) (.int w) = decide (y = w) := by rw [eqB.eq_def]; rfl
  have h3 : eqBL [] [] = true := by rw [eqBL.eq_def]
  rw [h1, h2, h3, Bool.and_true]
theorem ok_tup {x y z w : Int} : eqOk (.tup [.int x, .int y]) (.tup [.int z, .int w]) = true := by
  simp [eqOk, dOk, dOkL, dep, depL]
theorem eq_tup' {x y z w : Int} : opEq (.tup [.int x, .int y]) (.tup [.int z, .int w]) = some (.bl (decide (x = z) && decide (y = w))) := by
  unfold opEq
  rw [if_pos ok_tup, eq_tup]
theorem cut_map (ns : List Int) (lo hi : Option Int) : cutP (ns.map PV.int) lo hi = ((ns.drop (HT.sIx ns.length 0 lo)).take (HT.sIx ns.length ns.length hi - HT.sIx ns.length 0 lo)).map PV.int := by
  unfold cutP
  rw [List.length_map, ← List.map_drop, ← List.map_take]
end P
namespace My
def gd (a b : Int) : Int := ((Int.gcd a b : Nat) : Int)
theorem gd_step (a b : Int) : gd b (Int.fmod a b) = gd a b := by
  unfold gd
  rw [Int.fmod_def, Int.gcd_sub_mul_left_right, Int.gcd_comm]
theorem gd_less (a : Int) {b : Int} (h : b ≠ 0) : (Int.fmod a b).natAbs < b.natAbs := by
  rcases (by omega : 0 < b ∨ b < 0) with h | h
  · have h1 := Int.fmod_nonneg_of_pos a h
    have h2 := Int.fmod_lt_of_pos a h
    omega
  · have e := Int.neg_fmod_neg a b
    have h1 := Int.fmod_nonneg_of_pos (-a) (show 0 < -b by omega)
    have h2 := Int.fmod_lt_of_pos (-a) (show 0 < -b by omega)
    omega
theorem gd_zero (a : Int) : gd a 0 = if a < 0 then -a else a := by
  unfold gd
  rw [Int.gcd_zero]
  split <;> omega
theorem gd_pos (a : Int) {b : Int} (h : b ≠ 0) : 0 < gd a b := by
  have := Int.gcd_ne_zero_right (a := a) h
  unfold gd
  omega
theorem gd_nonneg (a b : Int) : 0 ≤ gd a b := by
  unfold gd
  omega
theorem gd_le (a : Int) {b : Int} (h : b ≠ 0) : gd a b ≤ b.natAbs := by
  unfold gd
  have := Int.gcd_dvd_natAbs_right a b
  have := Nat.le_of_dvd (by omega) this
  omega
/-- the divisor with the bottom's sign -/
def dv (t b : Int) : Int := if b < 0 then - gd t b else gd t b
theorem dv_ne (t : Int) {b : Int} (h : b ≠ 0) : dv t b ≠ 0 := by
  have := gd_pos t h
  unfold dv
  split <;> omega
theorem dv_dvd (t b : Int) : dv t b ∣ t ∧ dv t b ∣ b := by
  have h1 := Int.gcd_dvd_left t b
  have h2 := Int.gcd_dvd_right t b
  unfold dv gd
  split
  · exact ⟨Int.neg_dvd.mpr h1, Int.neg_dvd.mpr h2⟩
  · exact ⟨h1, h2⟩
theorem gcd_div {t b g : Int} (h1 : g ∣ t) (h2 : g ∣ b) (hg : g.natAbs = Int.gcd t b) (hb : b ≠ 0) : Int.gcd (t / g) (b / g) = 1 := by
  have hp : 0 < Int.gcd t b := Nat.pos_of_ne_zero (Int.gcd_ne_zero_right hb)
  rcases Int.natAbs_eq g with e | e
  · rw [hg] at e
    rw [e]
    exact Int.gcd_ediv_gcd_ediv_gcd hp
  · rw [hg] at e
    rw [e, Int.ediv_neg, Int.ediv_neg, Int.neg_gcd, Int.gcd_neg]
    exact Int.gcd_ediv_gcd_ediv_gcd hp
theorem rat_main (t : Int) {b : Int} (h : b ≠ 0) :
    1 ≤ b.fdiv (dv t b) ∧ gd (t.fdiv (dv t b)) (b.fdiv (dv t b)) = 1 ∧ t.fdiv (dv t b) * b = t * b.fdiv (dv t b) := by
  obtain ⟨h1, h2⟩ := dv_dvd t b
  rw [Int.fdiv_eq_ediv_of_dvd h1, Int.fdiv_eq_ediv_of_dvd h2]
  have hn := dv_ne t h
  obtain ⟨x, hx⟩ := h1
  obtain ⟨y, hy⟩ := h2
  have e1 : t / dv t b = x := by
    conv => lhs; lhs; rw [hx]
    exact Int.mul_ediv_cancel_left x hn
  have e2 : b / dv t b = y := by
    conv => lhs; lhs; rw [hy]
    exact Int.mul_ediv_cancel_left y hn
  refine ⟨?_, ?_, ?_⟩
  · rw [e2]
    have hp := gd_pos t h
    by_cases c : b < 0
    · have d : dv t b = - gd t b := if_pos c
      rw [d] at hy
      rcases (by omega : 1 ≤ y ∨ y ≤ 0) with z | z
      · exact z
      · have := Int.mul_le_mul_of_nonneg_left z (Int.le_of_lt hp)
        rw [Int.neg_mul] at hy
        omega
    · have d : dv t b = gd t b := if_neg c
      rw [d] at hy
      rcases (by omega : 1 ≤ y ∨ y ≤ 0) with z | z
      · exact z
      · have := Int.mul_le_mul_of_nonneg_left z (Int.le_of_lt hp)
        omega
  · unfold gd
    rw [gcd_div ⟨x, hx⟩ ⟨y, hy⟩ ?_ h]
    · rfl
    · unfold dv gd
      split <;> omega
  · rw [e1, e2]
    conv => lhs; rw [hy]
    conv => rhs; lhs; rw [hx]
    rw [Int.mul_comm (dv t b) x, Int.mul_assoc]
theorem dv_neg (t : Int) {b : Int} (h : b ≠ 0) : dv (-t) (-b) = - dv t b := by
  unfold dv gd
  rw [Int.neg_gcd, Int.gcd_neg]
  by_cases c : b < 0
  · rw [if_pos c, if_neg (by omega)]
    omega
  · rw [if_neg c, if_pos (by omega)]
theorem fdiv_neg (t : Int) {b : Int} (h : b ≠ 0) : (-t).fdiv (dv (-t) (-b)) = t.fdiv (dv t b) ∧ (-b).fdiv (dv (-t) (-b)) = b.fdiv (dv t b) := by
  rw [dv_neg t h]
  exact ⟨Int.neg_fdiv_neg _ _, Int.neg_fdiv_neg _ _⟩
end My

namespace T
open PySem L2 M2 M3 M4 P
def top (i : Nat) : Stmt := PySem.Challenge.pw_shadowpost_k11_rays_and_casts.main.body.getD i (.Pass ⟨0, 0, 0, 0⟩)
abbrev s__law_part : Stmt := top 6
abbrev s_is_ray : Stmt := top 2
abbrev s__law_pair : Stmt := top 7
abbrev s_cast : Stmt := top 3
abbrev s_stone_cast : Stmt := top 4
abbrev s__law_right : Stmt := top 9
abbrev s__law_cells : Stmt := top 8
abbrev s_law : Stmt := top 10
def mb__law_part : M Fl := (mSeq (mIf (mBl (mBin opEq (mBin opMod (mVarR 0) (mC (.int 3))) (mC (.int 2))))
      (mRet (mSh (mBin opIx (mVal (mLst (mCons (mBin opSub (mVarR 1) (mC (.int 1))) (mCons (mVarV 1) (mCons (mC (.int 0)) (mCons (mC (.int 1)) (mCons (mVarV 2) (mCons (mVal (mBinO opAdd (mVarR 2) (mC (.int 1)))) (mCons (mVal (mBinO opAdd (mVarR 2) (mBin opPow (mC (.int 10)) (mC (.int 12))))) (mCons (mBin opSub (mC (.int 0)) (mBin opPow (mC (.int 10)) (mC (.int 30)))) mNil)))))))))) (mBin opMod (mBin opFdv (mVarR 0) (mC (.int 3))) (mC (.int 8))))))
      mNx)
      (mRet (mSh (mBin opSub (mVal (mBinO opAdd (mBin opMod (mBin opFdv (mVarR 0) (mC (.int 3))) (mVal (mBinO opAdd (mBin opSub (mVarR 2) (mVarR 1)) (mC (.int 3))))) (mVarR 1))) (mC (.int 1))))))
def m__law_part : MF := mDef 3 3 mb__law_part
def mb_is_ray : M Fl := (mRet (mSh (mAnd (mBin opLe (mCB fAbs (mCons (mBin opIx (mVarR 0) (mC (.int 0))) mNil)) (mC (.int (1000000)))) (mAnd (mBin opLe (mCB fAbs (mCons (mBin opIx (mVarR 0) (mC (.int 1))) mNil)) (mC (.int (1000000)))) (mChn opLe opLe (mC (.int 1)) (mBin opIx (mVarR 0) (mC (.int 2))) (mC (.int (1000000))))))))
def m_is_ray : MF := mDef 1 1 mb_is_ray
def t1__law_pair : M Fl := (mIf (mOrT (mNotT (mTru (mCB fIsi (mCons (mVarR 3) (mCons (mC (.ty "int")) mNil))))) (mTru (mCB fIsi (mCons (mVarR 3) (mCons (mC (.ty "bool")) mNil)))))
      (mRet (mSh (mC (.bl false))))
      mNx)
def mb__law_pair : M Fl := (mSeq (mIf (mOrT (mNotT (mTru (mCB fIsi (mCons (mVarR 0) (mCons (mC (.ty "tuple")) mNil))))) (mBl (mBin opNe (mCB fLen (mCons (mVarR 0) mNil)) (mC (.int 2)))))
      (mRet (mSh (mC (.bl false))))
      mNx)
      (mSeq (mFor (mIterN 0) (gN 3) t1__law_pair)
      (mRet (mSh (mBin opEq (mVarR 0) (mTup (mCons (mVarV 1) (mCons (mVarV 2) mNil))))))))
def m__law_pair : MF := mDef 3 4 mb__law_pair
def mb_cast : M Fl := (mRet (mSh (mTup (mCons (mVal (mBinO opAdd (mBin opMulI (mBin opIx (mVarR 1) (mC (.int 2))) (mBin opIx (mVarR 0) (mC (.int 0)))) (mBin opMulI (mBin opIx (mVarR 1) (mC (.int 0))) (mBin opIx (mVarR 0) (mC (.int 2)))))) (mCons (mVal (mBinO opAdd (mBin opMulI (mBin opIx (mVarR 1) (mC (.int 2))) (mBin opIx (mVarR 0) (mC (.int 1)))) (mBin opMulI (mBin opIx (mVarR 1) (mC (.int 1))) (mBin opIx (mVarR 0) (mC (.int 2)))))) mNil)))))
def m_cast : MF := mDef 2 2 mb_cast
def mb_stone_cast : M Fl := (mRet (mCall m_cast (mACons (mTup (mCons (mBin opMulI (mC (.int 2)) (mBin opIx (mVarR 0) (mC (.int 0)))) (mCons (mBin opMulI (mC (.int 2)) (mBin opIx (mVarR 0) (mC (.int 1)))) (mCons (mC (.int 0)) mNil)))) (mAName 1 mANil))))
def m_stone_cast : MF := mDef 2 2 mb_stone_cast
def mb__law_right : M Fl := (mSeq (mSet 1 (mCall m__law_part (mACons (mBin opIx (mVarR 0) (mC (.int 0))) (mACons (mUn opNeg (mC (.int 1000000))) (mACons (mC (.int 1000000)) mANil)))))
      (mSeq (mSet 2 (mCall m__law_part (mACons (mBin opIx (mVarR 0) (mC (.int 1))) (mACons (mUn opNeg (mC (.int 1000000))) (mACons (mC (.int 1000000)) mANil)))))
      (mSeq (mSet 3 (mCall m__law_part (mACons (mBin opIx (mVarR 0) (mC (.int 2))) (mACons (mC (.int 1)) (mACons (mC (.int 1000000)) mANil)))))
      (mSeq (mSet 4 (mSh (mAnd (mBin opLe (mUn opNeg (mC (.int 1000000))) (mVarR 1)) (mAnd (mBin opLe (mVarR 1) (mC (.int 1000000))) (mAnd (mBin opLe (mUn opNeg (mC (.int 1000000))) (mVarR 2)) (mAnd (mBin opLe (mVarR 2) (mC (.int 1000000))) (mAnd (mBin opLe (mC (.int 1)) (mVarR 3)) (mBin opLe (mVarR 3) (mC (.int 1000000))))))))))
      (mSeq (mSet 5 (mCall m_is_ray (mACons (mTup (mCons (mVarV 1) (mCons (mVarV 2) (mCons (mVarV 3) mNil)))) mANil)))
      (mSeq (mIf (mOrT (mNotT (mTru (mCB fIsi (mCons (mVarR 5) (mCons (mC (.ty "bool")) mNil))))) (mBl (mBin opNe (mVarR 5) (mVarR 4))))
      (mRet (mSh (mC (.bl false))))
      mNx)
      (mSeq (mIf (mNotT (mTru (mVarR 4)))
      (mRet (mSh (mC (.bl true))))
      mNx)
      (mSeq (mSet 6 (mSh (mBin opSub (mBin opMod (mBin opIx (mVarR 0) (mC (.int 3))) (mVal (mBinO opAdd (mBin opMulI (mC (.int 2)) (mBin opPow (mC (.int 10)) (mC (.int 9)))) (mC (.int 1))))) (mBin opPow (mC (.int 10)) (mC (.int 9))))))
      (mSeq (mSet 7 (mSh (mBin opSub (mBin opMod (mBin opIx (mVarR 0) (mC (.int 4))) (mVal (mBinO opAdd (mBin opMulI (mC (.int 2)) (mBin opPow (mC (.int 10)) (mC (.int 9)))) (mC (.int 1))))) (mBin opPow (mC (.int 10)) (mC (.int 9))))))
      (mSeq (mSet 8 (mSh (mBin opMod (mBin opIx (mVarR 0) (mC (.int 5))) (mVal (mBinO opAdd (mBin opPow (mC (.int 10)) (mC (.int 9))) (mC (.int 1)))))))
      (mSeq (mIf (mNotT (mTru (mVal (mCall m__law_pair (mACons (mVal (mCall m_cast (mACons (mTup (mCons (mVarV 6) (mCons (mVarV 7) (mCons (mVarV 8) mNil)))) (mACons (mTup (mCons (mVarV 1) (mCons (mVarV 2) (mCons (mVarV 3) mNil)))) mANil)))) (mACons (mVal (mBinO opAdd (mBin opMulI (mVarR 3) (mVarR 6)) (mBin opMulI (mVarR 1) (mVarR 8)))) (mACons (mVal (mBinO opAdd (mBin opMulI (mVarR 3) (mVarR 7)) (mBin opMulI (mVarR 2) (mVarR 8)))) mANil)))))))
      (mRet (mSh (mC (.bl false))))
      mNx)
      (mSeq (mSet 9 (mSh (mBin opIx (mVal (mLst (mCons (mBin opMod (mBin opIx (mVarR 0) (mC (.int 6))) (mC (.int 20))) (mCons (mBin opSub (mBin opMod (mBin opIx (mVarR 0) (mC (.int 6))) (mVal (mBinO opAdd (mBin opMulI (mC (.int 2)) (mBin opPow (mC (.int 10)) (mC (.int 9)))) (mC (.int 1))))) (mBin opPow (mC (.int 10)) (mC (.int 9)))) mNil)))) (mBin opMod (mBin opIx (mVarR 0) (mC (.int 8))) (mC (.int 2))))))
      (mSeq (mSet 10 (mSh (mBin opIx (mVal (mLst (mCons (mBin opMod (mBin opIx (mVarR 0) (mC (.int 7))) (mC (.int 20))) (mCons (mBin opSub (mBin opMod (mBin opIx (mVarR 0) (mC (.int 7))) (mVal (mBinO opAdd (mBin opMulI (mC (.int 2)) (mBin opPow (mC (.int 10)) (mC (.int 9)))) (mC (.int 1))))) (mBin opPow (mC (.int 10)) (mC (.int 9)))) mNil)))) (mBin opMod (mBin opFdv (mBin opIx (mVarR 0) (mC (.int 8))) (mC (.int 2))) (mC (.int 2))))))
      (mRet (mCall m__law_pair (mACons (mVal (mCall m_stone_cast (mACons (mTup (mCons (mVarV 9) (mCons (mVarV 10) mNil))) (mACons (mTup (mCons (mVarV 1) (mCons (mVarV 2) (mCons (mVarV 3) mNil)))) mANil)))) (mACons (mBin opMulI (mBin opMulI (mC (.int 2)) (mVarR 3)) (mVarR 9)) (mACons (mBin opMulI (mBin opMulI (mC (.int 2)) (mVarR 3)) (mVarR 10)) mANil))))))))))))))))))
def m__law_right : MF := mDef 1 11 mb__law_right
def mb__law_cells : M Fl := (mSeq (mSet 2 (mCBO fList (mCons (mVal (mSl (mVarR 0) (mP (mVarV 1)) (mP (mVal (mBinO opAdd (mVarR 1) (mC (.int 9))))))) mNil)))
      (mRet (mBinO opAdd (mVarR 2) (mVal (mRepL (mCons (mC (.int 0)) mNil) (mBin opSub (mC (.int 9)) (mCB fLen (mCons (mVarR 2) mNil))))))))
def m__law_cells : MF := mDef 2 3 mb__law_cells
def t1_law : M Fl := (mIf (mNotT (mTru (mVal (mCall m__law_right (mACons (mVal (mCall m__law_cells (mAName 0 (mAName 1 mANil)))) mANil)))))
      (mRet (mSh (mC (.bl false))))
      mNx)
def mb_law : M Fl := (mSeq (mFor (mRange rngF3 (mCons (mC (.int 0)) (mCons (mCB fMin2 (mCons (mCB fLen (mCons (mVarR 0) mNil)) (mCons (mC (.int 60)) mNil))) (mCons (mC (.int 3)) mNil)))) (gN 1) t1_law)
      (mRet (mCall m__law_right (mACons (mVal (mRepL (mCons (mC (.int 0)) mNil) (mC (.int 9)))) mANil))))
def m_law : MF := mDef 1 2 mb_law
structure Adr where
  f__law_part : Addr
  d__law_part : FuncData
  f_is_ray : Addr
  d_is_ray : FuncData
  f__law_pair : Addr
  d__law_pair : FuncData
  f_cast : Addr
  d_cast : FuncData
  f_stone_cast : Addr
  d_stone_cast : FuncData
  f__law_right : Addr
  d__law_right : FuncData
  f__law_cells : Addr
  d__law_cells : FuncData
  f_law : Addr
  d_law : FuncData
  t_MOST_RAY : Tok
def cmA (_ : Adr) : String → Addr := fun _ => 0
structure Tx (K : PySem.W.Frag) (mg : Str → Option Value) (a : Adr) : Prop where
  F__law_part : Fun K "_law_part" "_law_part" s__law_part a.f__law_part a.d__law_part
  m__law_part : mg "_law_part" = some (.ref a.f__law_part)
  b__law_part : Binds K a.d__law_part ["_law_cell", "_law_least", "_law_most"] []
  F_is_ray : Fun K "is_ray" "is_ray" s_is_ray a.f_is_ray a.d_is_ray
  m_is_ray : mg "is_ray" = some (.ref a.f_is_ray)
  b_is_ray : Binds K a.d_is_ray ["ray"] []
  F__law_pair : Fun K "_law_pair" "_law_pair" s__law_pair a.f__law_pair a.d__law_pair
  m__law_pair : mg "_law_pair" = some (.ref a.f__law_pair)
  b__law_pair : Binds K a.d__law_pair ["_law_found", "_law_x", "_law_y"] []
  F_cast : Fun K "cast" "cast" s_cast a.f_cast a.d_cast
  m_cast : mg "cast" = some (.ref a.f_cast)
  b_cast : Binds K a.d_cast ["point", "ray"] []
  F_stone_cast : Fun K "stone_cast" "stone_cast" s_stone_cast a.f_stone_cast a.d_stone_cast
  m_stone_cast : mg "stone_cast" = some (.ref a.f_stone_cast)
  b_stone_cast : Binds K a.d_stone_cast ["stone", "ray"] []
  F__law_right : Fun K "_law_right" "_law_right" s__law_right a.f__law_right a.d__law_right
  m__law_right : mg "_law_right" = some (.ref a.f__law_right)
  b__law_right : Binds K a.d__law_right ["_law_cells_here"] []
  F__law_cells : Fun K "_law_cells" "_law_cells" s__law_cells a.f__law_cells a.d__law_cells
  m__law_cells : mg "_law_cells" = some (.ref a.f__law_cells)
  b__law_cells : Binds K a.d__law_cells ["_law_script", "_law_place"] []
  F_law : Fun K "law" "law" s_law a.f_law a.d_law
  m_law : mg "law" = some (.ref a.f_law)
  b_law : Binds K a.d_law ["_law_script"] []
  m_MOST_RAY : mg "MOST_RAY" = some (.int (1000000) a.t_MOST_RAY)
  z_abs : mg "abs" = none
  z_bool : mg "bool" = none
  z_int : mg "int" = none
  z_isinstance : mg "isinstance" = none
  z_len : mg "len" = none
  z_list : mg "list" = none
  z_min : mg "min" = none
  z_range : mg "range" = none
  z_tuple : mg "tuple" = none
theorem sc__law_part : FnScope ["_law_cell", "_law_least", "_law_most"] ["_law_cell", "_law_least", "_law_most"] (defScope s__law_part) := ⟨rfl, rfl, rfl, by decide +kernel, rfl, by decide +kernel, by decide +kernel⟩
theorem sc_is_ray : FnScope ["ray"] ["ray"] (defScope s_is_ray) := ⟨rfl, rfl, rfl, by decide +kernel, rfl, by decide +kernel, by decide +kernel⟩
theorem sc__law_pair : FnScope ["_law_found", "_law_x", "_law_y", "_law_part_here"] ["_law_found", "_law_x", "_law_y"] (defScope s__law_pair) := ⟨rfl, rfl, rfl, by decide +kernel, rfl, by decide +kernel, by decide +kernel⟩
theorem sc_cast : FnScope ["point", "ray"] ["point", "ray"] (defScope s_cast) := ⟨rfl, rfl, rfl, by decide +kernel, rfl, by decide +kernel, by decide +kernel⟩
theorem sc_stone_cast : FnScope ["stone", "ray"] ["stone", "ray"] (defScope s_stone_cast) := ⟨rfl, rfl, rfl, by decide +kernel, rfl, by decide +kernel, by decide +kernel⟩
theorem sc__law_right : FnScope ["_law_cells_here", "_law_a", "_law_b", "_law_c", "_law_good", "_law_found", "_law_x", "_law_y", "_law_z", "_law_p", "_law_q"] ["_law_cells_here"] (defScope s__law_right) := ⟨rfl, rfl, rfl, by decide +kernel, rfl, by decide +kernel, by decide +kernel⟩
theorem sc__law_cells : FnScope ["_law_script", "_law_place", "_law_found"] ["_law_script", "_law_place"] (defScope s__law_cells) := ⟨rfl, rfl, rfl, by decide +kernel, rfl, by decide +kernel, by decide +kernel⟩
theorem sc_law : FnScope ["_law_script", "_law_place"] ["_law_script"] (defScope s_law) := ⟨rfl, rfl, rfl, by decide +kernel, rfl, by decide +kernel, by decide +kernel⟩
section
variable {P : Program} {w : World} {K : PySem.W.Frag} {mg : Str → Option Value} {base : Heap} {a : Adr}
theorem ok__law_part (T : Tx K mg a) : FnOk P w K mg base CX0 1 a.f__law_part a.d__law_part ["_law_cell", "_law_least", "_law_most"] (spP ⟨K, cmA a⟩ 3 m__law_part) := by
  refine fnQ (cm := cmA a) (mb := mb__law_part) T.F__law_part sc__law_part rfl rfl rfl fun cdv A outer s H E hr => ?_
  have hu : (A.deeper (PyProof.Rows.envOfC "_law_part" (defScope s__law_part) s.heap.objs.size a.f__law_part cdv)).units + 64 < cLine := hr.units
  exact (ss_cons (s_if (t_cmp ov_eq (om_eqD hu) (r_of (v_bin ov_mod om_mod (r_var 0) (r_of v_int))) (r_of v_int) (nomark _))
      (ss_one (s_ret (o_of (v_ix ov_ix xm_ix (r_of (v_of (o_lst (a_cons (v_bin ov_sub om_sub (r_var 1) (r_of v_int)) (a_cons (v_var 1) (a_cons v_int (a_cons v_int (a_cons (v_var 2) (a_cons (v_of (o_bin ov_add or_add (r_var 2) (r_of v_int))) (a_cons (v_of (o_bin ov_add or_add (r_var 2) (r_of (v_bin ov_pow om_pow (r_of v_int) (r_of v_int))))) (a_cons (v_bin ov_sub om_sub (r_of v_int) (r_of (v_bin ov_pow om_pow (r_of v_int) (r_of v_int)))) a_nil))))))))))) (r_of (v_bin ov_mod om_mod (r_of (v_bin ov_fdv om_fdiv (r_var 0) (r_of v_int))) (r_of v_int))) (fun _ _ => rfl)))))
      ss_nil)
      (ss_one (s_ret (o_of (v_bin ov_sub om_sub (r_of (v_of (o_bin ov_add or_add (r_of (v_bin ov_mod om_mod (r_of (v_bin ov_fdv om_fdiv (r_var 0) (r_of v_int))) (r_of (v_of (o_bin ov_add or_add (r_of (v_bin ov_sub om_sub (r_var 2) (r_var 1))) (r_of v_int)))))) (r_var 1)))) (r_of v_int))))))
theorem ok_is_ray (T : Tx K mg a) : FnOk P w K mg base CX0 1 a.f_is_ray a.d_is_ray ["ray"] (spP ⟨K, cmA a⟩ 1 m_is_ray) := by
  refine fnQ (cm := cmA a) (mb := mb_is_ray) T.F_is_ray sc_is_ray rfl rfl rfl fun cdv A outer s H E hr => ?_
  have hu : (A.deeper (PyProof.Rows.envOfC "is_ray" (defScope s_is_ray) s.heap.objs.size a.f_is_ray cdv)).units + 64 < cLine := hr.units
  exact (ss_one (s_ret (o_of (v_and (v_cmp ov_le om_le (r_of (PE.wk (pe_callB cm_abs (by rfl) T.z_abs PyProof.Rows.boot_abs (ar_cons (r_of (v_ix ov_ix xm_ix (r_var 0) (r_of v_int) (fun _ _ => rfl))) ar_nil)) fun _ _ _ h => cb_v cv_abs h)) (r_of (v_c (.int (1000000)) (pe_glob (v := .int (1000000)) rfl T.m_MOST_RAY ⟨_, rfl⟩))) (nomark _)) (v_and (v_cmp ov_le om_le (r_of (PE.wk (pe_callB cm_abs (by rfl) T.z_abs PyProof.Rows.boot_abs (ar_cons (r_of (v_ix ov_ix xm_ix (r_var 0) (r_of v_int) (fun _ _ => rfl))) ar_nil)) fun _ _ _ h => cb_v cv_abs h)) (r_of (v_c (.int (1000000)) (pe_glob (v := .int (1000000)) rfl T.m_MOST_RAY ⟨_, rfl⟩))) (nomark _)) (v_one (v_chn ov_le ov_le om_le om_le (r_of v_int) (r_of (v_ix ov_ix xm_ix (r_var 0) (r_of v_int) (fun _ _ => rfl))) (r_of (v_c (.int (1000000)) (pe_glob (v := .int (1000000)) rfl T.m_MOST_RAY ⟨_, rfl⟩))))))))))
theorem ok__law_pair (T : Tx K mg a) : FnOk P w K mg base CX0 1 a.f__law_pair a.d__law_pair ["_law_found", "_law_x", "_law_y"] (spP ⟨K, cmA a⟩ 3 m__law_pair) := by
  refine fnQ (cm := cmA a) (mb := mb__law_pair) T.F__law_pair sc__law_pair rfl rfl rfl fun cdv A outer s H E hr => ?_
  have hu : (A.deeper (PyProof.Rows.envOfC "_law_pair" (defScope s__law_pair) s.heap.objs.size a.f__law_pair cdv)).units + 64 < cLine := hr.units
  exact (ss_cons (s_if (PW.pt (w_or (t_not (t_val (r_of (PE.wk (pe_callB cr_isi (by rfl) T.z_isinstance PyProof.Rows.boot_isinstance (ar_cons (r_var 0) (ar_cons (r_of (v_c (.ty "tuple") (pe_bltn (v := .ty "tuple") rfl T.z_tuple PyProof.Rows.boot_tuple rfl))) ar_nil))) fun _ _ _ h => cb_v cv_isi h)))) (w_or1 (t_cmp ov_ne (om_neD hu) (r_of (PE.wk (pe_callB cm_len (by rfl) T.z_len PySem.boot_len (ar_cons (r_var 0) ar_nil)) fun _ _ _ h => cb_v cv_len h)) (r_of v_int) (nomark _)))))
      (ss_one (s_ret (o_of v_bl)))
      ss_nil)
      (ss_cons (s_for PassesOwn.leaving rfl (i_name 0) (g_name (i := 3) sc__law_pair.nd rfl (by first | exact Or.inl rfl | exact Or.inr rfl))
      (ss_one (s_if (PW.pt (w_or (t_not (t_val (r_of (PE.wk (pe_callB cr_isi (by rfl) T.z_isinstance PyProof.Rows.boot_isinstance (ar_cons (r_var 3) (ar_cons (r_of (v_c (.ty "int") (pe_bltn (v := .ty "int") rfl T.z_int PyProof.Rows.boot_int rfl))) ar_nil))) fun _ _ _ h => cb_v cv_isi h)))) (w_or1 (t_val (r_of (PE.wk (pe_callB cr_isi (by rfl) T.z_isinstance PyProof.Rows.boot_isinstance (ar_cons (r_var 3) (ar_cons (r_of (v_c (.ty "bool") (pe_bltn (v := .ty "bool") rfl T.z_bool PyProof.Rows.boot_bool rfl))) ar_nil))) fun _ _ _ h => cb_v cv_isi h))))))
      (ss_one (s_ret (o_of v_bl)))
      ss_nil)))
      (ss_one (s_ret (o_of (v_cmp ov_eq (om_eqD hu) (r_var 0) (r_of (v_tup (a_cons (v_var 1) (a_cons (v_var 2) a_nil)))) (nomark _)))))))
theorem ok_cast (T : Tx K mg a) : FnOk P w K mg base CX0 1 a.f_cast a.d_cast ["point", "ray"] (spP ⟨K, cmA a⟩ 2 m_cast) := by
  refine fnQ (cm := cmA a) (mb := mb_cast) T.F_cast sc_cast rfl rfl rfl fun cdv A outer s H E hr => ?_
  have hu : (A.deeper (PyProof.Rows.envOfC "cast" (defScope s_cast) s.heap.objs.size a.f_cast cdv)).units + 64 < cLine := hr.units
  exact (ss_one (s_ret (o_of (v_tup (a_cons (v_of (o_bin ov_add or_add (r_of (v_bin ov_mul om_mulS (r_of (v_ix ov_ix xm_ix (r_var 1) (r_of v_int) (fun _ _ => rfl))) (r_of (v_ix ov_ix xm_ix (r_var 0) (r_of v_int) (fun _ _ => rfl))))) (r_of (v_bin ov_mul om_mulS (r_of (v_ix ov_ix xm_ix (r_var 1) (r_of v_int) (fun _ _ => rfl))) (r_of (v_ix ov_ix xm_ix (r_var 0) (r_of v_int) (fun _ _ => rfl))))))) (a_cons (v_of (o_bin ov_add or_add (r_of (v_bin ov_mul om_mulS (r_of (v_ix ov_ix xm_ix (r_var 1) (r_of v_int) (fun _ _ => rfl))) (r_of (v_ix ov_ix xm_ix (r_var 0) (r_of v_int) (fun _ _ => rfl))))) (r_of (v_bin ov_mul om_mulS (r_of (v_ix ov_ix xm_ix (r_var 1) (r_of v_int) (fun _ _ => rfl))) (r_of (v_ix ov_ix xm_ix (r_var 0) (r_of v_int) (fun _ _ => rfl))))))) a_nil))))))
theorem ok_stone_cast (T : Tx K mg a) : FnOk P w K mg base CX0 2 a.f_stone_cast a.d_stone_cast ["stone", "ray"] (spP ⟨K, cmA a⟩ 2 m_stone_cast) := by
  refine fnQ (cm := cmA a) (mb := mb_stone_cast) T.F_stone_cast sc_stone_cast rfl rfl rfl fun cdv A outer s H E hr => ?_
  have hu : (A.deeper (PyProof.Rows.envOfC "stone_cast" (defScope s_stone_cast) s.heap.objs.size a.f_stone_cast cdv)).units + 64 < cLine := hr.units
  exact (ss_one (s_ret (o_call (ok_cast T) mDef_len (hr.mono (by decide)) rfl T.m_cast T.F_cast.kp T.b_cast passS0 (ag_cons (v_tup (a_cons (v_bin ov_mul om_mulS (r_of v_int) (r_of (v_ix ov_ix xm_ix (r_var 0) (r_of v_int) (fun _ _ => rfl)))) (a_cons (v_bin ov_mul om_mulS (r_of v_int) (r_of (v_ix ov_ix xm_ix (r_var 0) (r_of v_int) (fun _ _ => rfl)))) (a_cons v_int a_nil)))) (ag_name 1 (hr := ag_nil))))))
theorem ok__law_right (T : Tx K mg a) : FnOk P w K mg base CX0 3 a.f__law_right a.d__law_right ["_law_cells_here"] (spP ⟨K, cmA a⟩ 1 m__law_right) := by
  refine fnQ (cm := cmA a) (mb := mb__law_right) T.F__law_right sc__law_right rfl rfl rfl fun cdv A outer s H E hr => ?_
  have hu : (A.deeper (PyProof.Rows.envOfC "_law_right" (defScope s__law_right) s.heap.objs.size a.f__law_right cdv)).units + 64 < cLine := hr.units
  exact (ss_cons (s_set (i := 1) sc__law_right.nd rfl (by first | exact Or.inl rfl | exact Or.inr rfl) (o_call (ok__law_part T) mDef_len (hr.mono (by decide)) rfl T.m__law_part T.F__law_part.kp T.b__law_part passS0 (ag_cons (v_ix ov_ix xm_ix (r_var 0) (r_of v_int) (fun _ _ => rfl)) (ag_cons (v_un uv_neg um_neg (r_of v_int)) (ag_cons v_int ag_nil)))))
      (ss_cons (s_set (i := 2) sc__law_right.nd rfl (by first | exact Or.inl rfl | exact Or.inr rfl) (o_call (ok__law_part T) mDef_len (hr.mono (by decide)) rfl T.m__law_part T.F__law_part.kp T.b__law_part passS0 (ag_cons (v_ix ov_ix xm_ix (r_var 0) (r_of v_int) (fun _ _ => rfl)) (ag_cons (v_un uv_neg um_neg (r_of v_int)) (ag_cons v_int ag_nil)))))
      (ss_cons (s_set (i := 3) sc__law_right.nd rfl (by first | exact Or.inl rfl | exact Or.inr rfl) (o_call (ok__law_part T) mDef_len (hr.mono (by decide)) rfl T.m__law_part T.F__law_part.kp T.b__law_part passS0 (ag_cons (v_ix ov_ix xm_ix (r_var 0) (r_of v_int) (fun _ _ => rfl)) (ag_cons v_int (ag_cons v_int ag_nil)))))
      (ss_cons (s_set (i := 4) sc__law_right.nd rfl (by first | exact Or.inl rfl | exact Or.inr rfl) (o_of (v_and (v_cmp ov_le om_le (r_of (v_un uv_neg um_neg (r_of v_int))) (r_var 1) (nomark _)) (v_and (v_cmp ov_le om_le (r_var 1) (r_of v_int) (nomark _)) (v_and (v_cmp ov_le om_le (r_of (v_un uv_neg um_neg (r_of v_int))) (r_var 2) (nomark _)) (v_and (v_cmp ov_le om_le (r_var 2) (r_of v_int) (nomark _)) (v_and (v_cmp ov_le om_le (r_of v_int) (r_var 3) (nomark _)) (v_one (v_cmp ov_le om_le (r_var 3) (r_of v_int) (nomark _))))))))))
      (ss_cons (s_set (i := 5) sc__law_right.nd rfl (by first | exact Or.inl rfl | exact Or.inr rfl) (o_call (ok_is_ray T) mDef_len (hr.mono (by decide)) rfl T.m_is_ray T.F_is_ray.kp T.b_is_ray passS0 (ag_cons (v_tup (a_cons (v_var 1) (a_cons (v_var 2) (a_cons (v_var 3) a_nil)))) ag_nil)))
      (ss_cons (s_if (PW.pt (w_or (t_not (t_val (r_of (PE.wk (pe_callB cr_isi (by rfl) T.z_isinstance PyProof.Rows.boot_isinstance (ar_cons (r_var 5) (ar_cons (r_of (v_c (.ty "bool") (pe_bltn (v := .ty "bool") rfl T.z_bool PyProof.Rows.boot_bool rfl))) ar_nil))) fun _ _ _ h => cb_v cv_isi h)))) (w_or1 (t_cmp ov_ne (om_neD hu) (r_var 5) (r_var 4) (nomark _)))))
      (ss_one (s_ret (o_of v_bl)))
      ss_nil)
      (ss_cons (s_if (t_not (t_val (r_var 4)))
      (ss_one (s_ret (o_of v_bl)))
      ss_nil)
      (ss_cons (s_set (i := 6) sc__law_right.nd rfl (by first | exact Or.inl rfl | exact Or.inr rfl) (o_of (v_bin ov_sub om_sub (r_of (v_bin ov_mod om_mod (r_of (v_ix ov_ix xm_ix (r_var 0) (r_of v_int) (fun _ _ => rfl))) (r_of (v_of (o_bin ov_add or_add (r_of (v_bin ov_mul om_mulS (r_of v_int) (r_of (v_bin ov_pow om_pow (r_of v_int) (r_of v_int))))) (r_of v_int)))))) (r_of (v_bin ov_pow om_pow (r_of v_int) (r_of v_int))))))
      (ss_cons (s_set (i := 7) sc__law_right.nd rfl (by first | exact Or.inl rfl | exact Or.inr rfl) (o_of (v_bin ov_sub om_sub (r_of (v_bin ov_mod om_mod (r_of (v_ix ov_ix xm_ix (r_var 0) (r_of v_int) (fun _ _ => rfl))) (r_of (v_of (o_bin ov_add or_add (r_of (v_bin ov_mul om_mulS (r_of v_int) (r_of (v_bin ov_pow om_pow (r_of v_int) (r_of v_int))))) (r_of v_int)))))) (r_of (v_bin ov_pow om_pow (r_of v_int) (r_of v_int))))))
      (ss_cons (s_set (i := 8) sc__law_right.nd rfl (by first | exact Or.inl rfl | exact Or.inr rfl) (o_of (v_bin ov_mod om_mod (r_of (v_ix ov_ix xm_ix (r_var 0) (r_of v_int) (fun _ _ => rfl))) (r_of (v_of (o_bin ov_add or_add (r_of (v_bin ov_pow om_pow (r_of v_int) (r_of v_int))) (r_of v_int)))))))
      (ss_cons (s_if (t_not (t_val (r_of (v_of (o_call (ok__law_pair T) mDef_len (hr.mono (by decide)) rfl T.m__law_pair T.F__law_pair.kp T.b__law_pair passS0 (ag_cons (v_of (o_call (ok_cast T) mDef_len (hr.mono (by decide)) rfl T.m_cast T.F_cast.kp T.b_cast passS0 (ag_cons (v_tup (a_cons (v_var 6) (a_cons (v_var 7) (a_cons (v_var 8) a_nil)))) (ag_cons (v_tup (a_cons (v_var 1) (a_cons (v_var 2) (a_cons (v_var 3) a_nil)))) ag_nil)))) (ag_cons (v_of (o_bin ov_add or_add (r_of (v_bin ov_mul om_mulS (r_var 3) (r_var 6))) (r_of (v_bin ov_mul om_mulS (r_var 1) (r_var 8))))) (ag_cons (v_of (o_bin ov_add or_add (r_of (v_bin ov_mul om_mulS (r_var 3) (r_var 7))) (r_of (v_bin ov_mul om_mulS (r_var 2) (r_var 8))))) ag_nil))))))))
      (ss_one (s_ret (o_of v_bl)))
      ss_nil)
      (ss_cons (s_set (i := 9) sc__law_right.nd rfl (by first | exact Or.inl rfl | exact Or.inr rfl) (o_of (v_ix ov_ix xm_ix (r_of (v_of (o_lst (a_cons (v_bin ov_mod om_mod (r_of (v_ix ov_ix xm_ix (r_var 0) (r_of v_int) (fun _ _ => rfl))) (r_of v_int)) (a_cons (v_bin ov_sub om_sub (r_of (v_bin ov_mod om_mod (r_of (v_ix ov_ix xm_ix (r_var 0) (r_of v_int) (fun _ _ => rfl))) (r_of (v_of (o_bin ov_add or_add (r_of (v_bin ov_mul om_mulS (r_of v_int) (r_of (v_bin ov_pow om_pow (r_of v_int) (r_of v_int))))) (r_of v_int)))))) (r_of (v_bin ov_pow om_pow (r_of v_int) (r_of v_int)))) a_nil))))) (r_of (v_bin ov_mod om_mod (r_of (v_ix ov_ix xm_ix (r_var 0) (r_of v_int) (fun _ _ => rfl))) (r_of v_int))) (fun _ _ => rfl))))
      (ss_cons (s_set (i := 10) sc__law_right.nd rfl (by first | exact Or.inl rfl | exact Or.inr rfl) (o_of (v_ix ov_ix xm_ix (r_of (v_of (o_lst (a_cons (v_bin ov_mod om_mod (r_of (v_ix ov_ix xm_ix (r_var 0) (r_of v_int) (fun _ _ => rfl))) (r_of v_int)) (a_cons (v_bin ov_sub om_sub (r_of (v_bin ov_mod om_mod (r_of (v_ix ov_ix xm_ix (r_var 0) (r_of v_int) (fun _ _ => rfl))) (r_of (v_of (o_bin ov_add or_add (r_of (v_bin ov_mul om_mulS (r_of v_int) (r_of (v_bin ov_pow om_pow (r_of v_int) (r_of v_int))))) (r_of v_int)))))) (r_of (v_bin ov_pow om_pow (r_of v_int) (r_of v_int)))) a_nil))))) (r_of (v_bin ov_mod om_mod (r_of (v_bin ov_fdv om_fdiv (r_of (v_ix ov_ix xm_ix (r_var 0) (r_of v_int) (fun _ _ => rfl))) (r_of v_int))) (r_of v_int))) (fun _ _ => rfl))))
      (ss_one (s_ret (o_call (ok__law_pair T) mDef_len (hr.mono (by decide)) rfl T.m__law_pair T.F__law_pair.kp T.b__law_pair passS0 (ag_cons (v_of (o_call (ok_stone_cast T) mDef_len (hr.mono (by decide)) rfl T.m_stone_cast T.F_stone_cast.kp T.b_stone_cast passS0 (ag_cons (v_tup (a_cons (v_var 9) (a_cons (v_var 10) a_nil))) (ag_cons (v_tup (a_cons (v_var 1) (a_cons (v_var 2) (a_cons (v_var 3) a_nil)))) ag_nil)))) (ag_cons (v_bin ov_mul om_mulS (r_of (v_bin ov_mul om_mulS (r_of v_int) (r_var 3))) (r_var 9)) (ag_cons (v_bin ov_mul om_mulS (r_of (v_bin ov_mul om_mulS (r_of v_int) (r_var 3))) (r_var 10)) ag_nil)))))))))))))))))))
theorem ok__law_cells (T : Tx K mg a) : FnOk P w K mg base CX0 1 a.f__law_cells a.d__law_cells ["_law_script", "_law_place"] (spP ⟨K, cmA a⟩ 2 m__law_cells) := by
  refine fnQ (cm := cmA a) (mb := mb__law_cells) T.F__law_cells sc__law_cells rfl rfl rfl fun cdv A outer s H E hr => ?_
  have hu : (A.deeper (PyProof.Rows.envOfC "_law_cells" (defScope s__law_cells) s.heap.objs.size a.f__law_cells cdv)).units + 64 < cLine := hr.units
  exact (ss_cons (s_set (i := 2) sc__law_cells.nd rfl (by first | exact Or.inl rfl | exact Or.inr rfl) (PE.wk (pe_callTy cr_list (by rfl) T.z_list PyProof.Rows.boot_list (ar_cons (r_of (v_of (o_slice (r_var 0) (p_some (v_var 1)) (p_some (v_of (o_bin ov_add or_add (r_var 1) (r_of v_int))))))) ar_nil)) fun _ _ _ h => cb_o co_list h))
      (ss_one (s_ret (o_bin ov_add or_add (r_var 2) (r_of (v_of (o_rep (a_cons v_int a_nil) (r_of (v_bin ov_sub om_sub (r_of v_int) (r_of (PE.wk (pe_callB cm_len (by rfl) T.z_len PySem.boot_len (ar_cons (r_var 2) ar_nil)) fun _ _ _ h => cb_v cv_len h)))))))))))
theorem ok_law (T : Tx K mg a) : FnOk P w K mg base CX0 4 a.f_law a.d_law ["_law_script"] (spP ⟨K, cmA a⟩ 1 m_law) := by
  refine fnQ (cm := cmA a) (mb := mb_law) T.F_law sc_law rfl rfl rfl fun cdv A outer s H E hr => ?_
  have hu : (A.deeper (PyProof.Rows.envOfC "law" (defScope s_law) s.heap.objs.size a.f_law cdv)).units + 64 < cLine := hr.units
  exact (ss_cons (s_for PassesOwn.leaving rfl (i_range3 rfl T.z_range (a_cons v_int (a_cons (PE.wk (pe_callB (cm_min2 rfl) (by rfl) T.z_min PyProof.Rows.boot_min (ar_cons (r_of (PE.wk (pe_callB cm_len (by rfl) T.z_len PySem.boot_len (ar_cons (r_var 0) ar_nil)) fun _ _ _ h => cb_v cv_len h)) (ar_cons (r_of v_int) ar_nil))) fun _ _ _ h => cb_v cv_min2 h) (a_cons v_int a_nil)))) (g_name (i := 1) sc_law.nd rfl (by first | exact Or.inl rfl | exact Or.inr rfl))
      (ss_one (s_if (t_not (t_val (r_of (v_of (o_call (ok__law_right T) mDef_len (hr.mono (by decide)) rfl T.m__law_right T.F__law_right.kp T.b__law_right passS0 (ag_cons (v_of (o_call (ok__law_cells T) mDef_len (hr.mono (by decide)) rfl T.m__law_cells T.F__law_cells.kp T.b__law_cells passS0 (ag_name 0 (hr := (ag_name 1 (hr := ag_nil)))))) ag_nil))))))
      (ss_one (s_ret (o_of v_bl)))
      ss_nil)))
      (ss_one (s_ret (o_call (ok__law_right T) mDef_len (hr.mono (by decide)) rfl T.m__law_right T.F__law_right.kp T.b__law_right passS0 (ag_cons (v_of (o_rep (a_cons v_int a_nil) (r_of v_int))) ag_nil)))))
end
/-! ## the mathematics -/
theorem part_ev (c l m : Int) (h : m - l + 3 ≠ 0) : ∃ x : Int, m__law_part [.sh (.int c), .sh (.int l), .sh (.int m)] = .ret (.sh (.int x)) := by
  by_cases h2 : c % 3 = 2
  · have h8 := Int.emod_lt_of_pos (c / 3) (show (0 : Int) < 8 by decide)
    have h0 := Int.emod_nonneg (c / 3) (show (8 : Int) ≠ 0 by decide)
    obtain ⟨k, hk⟩ := Int.eq_ofNat_of_zero_le h0
    have hk8 : k < 8 := by omega
    have e : ∃ x : Int, ([.int (l - 1), .int l, .int 0, .int 1, .int m, .int (m + 1), .int (m + 1000000000000), .int (-1000000000000000000000000000000)] : List PV)[k]? = some (.int x) := by
      match k, hk8 with
      | 0, _ => exact ⟨_, rfl⟩
      | 1, _ => exact ⟨_, rfl⟩
      | 2, _ => exact ⟨_, rfl⟩
      | 3, _ => exact ⟨_, rfl⟩
      | 4, _ => exact ⟨_, rfl⟩
      | 5, _ => exact ⟨_, rfl⟩
      | 6, _ => exact ⟨_, rfl⟩
      | 7, _ => exact ⟨_, rfl⟩
    obtain ⟨x, e⟩ := e
    refine ⟨x, ?_⟩
    simp [m__law_part, mb__law_part, List.replicate, h2, hk, e]
  · exact ⟨(c / 3).fmod (m - l + 3) + l - 1, by simp [m__law_part, mb__law_part, List.replicate, h2, h]⟩
theorem ray_ev (a b c : Int) : m_is_ray [.sh (.tup [.int a, .int b, .int c])] = .ret (.sh (.bl (decide (-1000000 ≤ a ∧ a ≤ 1000000 ∧ -1000000 ≤ b ∧ b ≤ 1000000 ∧ 1 ≤ c ∧ c ≤ 1000000)))) := by
  have e1 : (-1000000 ≤ a ∧ a ≤ 1000000 ∧ -1000000 ≤ b ∧ b ≤ 1000000 ∧ 1 ≤ c ∧ c ≤ 1000000) ↔ ((if a < 0 then -a else a) ≤ 1000000 ∧ (if b < 0 then -b else b) ≤ 1000000 ∧ 1 ≤ c ∧ c ≤ 1000000) := by
    split <;> split <;> omega
  have e2 : decide (-1000000 ≤ a ∧ a ≤ 1000000 ∧ -1000000 ≤ b ∧ b ≤ 1000000 ∧ 1 ≤ c ∧ c ≤ 1000000) = decide ((if a < 0 then -a else a) ≤ 1000000 ∧ (if b < 0 then -b else b) ≤ 1000000 ∧ 1 ≤ c ∧ c ≤ 1000000) := decide_eq_decide.mpr e1
  rw [e2]
  by_cases h1 : (if a < 0 then -a else a) ≤ 1000000 <;> by_cases h2 : (if b < 0 then -b else b) ≤ 1000000 <;> by_cases h3 : 1 ≤ c <;> by_cases h4 : c ≤ 1000000 <;> simp [m_is_ray, mb_is_ray, List.replicate, h1, h2, h3, h4]
theorem cast_ev {x y z a b c : Int} (h1 : mulOk c x = true) (h2 : mulOk a z = true) (h3 : mulOk c y = true) (h4 : mulOk b z = true) : m_cast [.sh (.tup [.int x, .int y, .int z]), .sh (.tup [.int a, .int b, .int c])] = .ret (.sh (.tup [.int (c * x + a * z), .int (c * y + b * z)])) := by
  simp [m_cast, mb_cast, List.replicate, h1, h2, h3, h4]
theorem pair_ev (x y : Int) : m__law_pair [.sh (.tup [.int x, .int y]), .sh (.int x), .sh (.int y)] = .ret (.sh (.bl true)) := by
  simp [m__law_pair, mb__law_pair, t1__law_pair, List.replicate, forL, isiT, eq_tup']
theorem right_ev (c0 c1 c2 c3 c4 c5 c6 c7 c8 : Int) : m__law_right [.sh (.lst [.int c0, .int c1, .int c2, .int c3, .int c4, .int c5, .int c6, .int c7, .int c8])] = .ret (.sh (.bl true)) := by
  obtain ⟨a, ea⟩ := part_ev c0 (-1000000) 1000000 (by decide)
  obtain ⟨b, eb⟩ := part_ev c1 (-1000000) 1000000 (by decide)
  obtain ⟨c, ec⟩ := part_ev c2 1 1000000 (by decide)
  by_cases g : -1000000 ≤ a ∧ a ≤ 1000000 ∧ -1000000 ≤ b ∧ b ≤ 1000000 ∧ 1 ≤ c ∧ c ≤ 1000000
  · obtain ⟨g1, g2, g3, g4, g5, g6⟩ := id g
    have hr : m_is_ray [.sh (.tup [.int a, .int b, .int c])] = .ret (.sh (.bl true)) := by rw [ray_ev, decide_eq_true g]
    have mc : ∀ x, mulOk c x = true := fun x => mul_l (by omega) (by omega)
    have ma : ∀ x, mulOk a x = true := fun x => mul_l (by omega) (by omega)
    have mb : ∀ x, mulOk b x = true := fun x => mul_l (by omega) (by omega)
    have m2c : ∀ x, mulOk (2 * c) x = true := fun x => mul_l (by omega) (by omega)
    have hp : ∃ p : Int, ([.int (c6 % 20), .int (c6 % 2000000001 - 1000000000)] : List PV)[(c8 % 2).toNat]? = some (.int p) ∧ atI ([.int (c6 % 20), .int (c6 % 2000000001 - 1000000000)] : List PV) (c8 % 2) = some (.int p) := by
      have h0 : c8 % 2 = 0 ∨ c8 % 2 = 1 := by omega
      rcases h0 with e | e <;> rw [e]
      · exact ⟨_, rfl, rfl⟩
      · exact ⟨_, rfl, rfl⟩
    have hq : ∃ p : Int, ([.int (c7 % 20), .int (c7 % 2000000001 - 1000000000)] : List PV)[(c8 / 2 % 2).toNat]? = some (.int p) ∧ atI ([.int (c7 % 20), .int (c7 % 2000000001 - 1000000000)] : List PV) (c8 / 2 % 2) = some (.int p) := by
      have h0 : c8 / 2 % 2 = 0 ∨ c8 / 2 % 2 = 1 := by omega
      rcases h0 with e | e <;> rw [e]
      · exact ⟨_, rfl, rfl⟩
      · exact ⟨_, rfl, rfl⟩
    obtain ⟨p, _, hp⟩ := hp
    obtain ⟨q, _, hq⟩ := hq
    have hs : m_stone_cast [.sh (.tup [.int p, .int q]), .sh (.tup [.int a, .int b, .int c])] = .ret (.sh (.tup [.int (2 * c * p), .int (2 * c * q)])) := by
      have e1 : c * (2 * p) + a * 0 = 2 * c * p := by grind
      have e2 : c * (2 * q) + b * 0 = 2 * c * q := by grind
      have := cast_ev (x := 2 * p) (y := 2 * q) (z := 0) (mc _) (ma _) (mc _) (mb _)
      rw [e1, e2] at this
      simp [m_stone_cast, mb_stone_cast, List.replicate, this]
    simp [m__law_right, mb__law_right, List.replicate, ea, eb, ec, hr, g1, g2, g3, g4, g5, g6, isiT, cast_ev (mc _) (ma _) (mc _) (mb _), mc, ma, mb, m2c, pair_ev, hp, hq, hs]
  · have hr : m_is_ray [.sh (.tup [.int a, .int b, .int c])] = .ret (.sh (.bl false)) := by rw [ray_ev, decide_eq_false g]
    by_cases g1 : -1000000 ≤ a
    · by_cases g2 : a ≤ 1000000
      · by_cases g3 : -1000000 ≤ b
        · by_cases g4 : b ≤ 1000000
          · by_cases g5 : 1 ≤ c
            · have g6 : ¬ c ≤ 1000000 := fun g6 => g ⟨g1, g2, g3, g4, g5, g6⟩
              simp [m__law_right, mb__law_right, List.replicate, ea, eb, ec, hr, g1, g2, g3, g4, g5, g6, isiT]
            · simp [m__law_right, mb__law_right, List.replicate, ea, eb, ec, hr, g1, g2, g3, g4, g5, isiT]
          · simp [m__law_right, mb__law_right, List.replicate, ea, eb, ec, hr, g1, g2, g3, g4, isiT]
        · simp [m__law_right, mb__law_right, List.replicate, ea, eb, ec, hr, g1, g2, g3, isiT]
      · simp [m__law_right, mb__law_right, List.replicate, ea, eb, ec, hr, g1, g2, isiT]
    · simp [m__law_right, mb__law_right, List.replicate, ea, eb, ec, hr, g1, isiT]
theorem cells_ev (ns : List Int) (k : Nat) : ∃ cs : List Int, cs.length = 9 ∧ m__law_cells [.sh (.lst (ns.map .int)), .sh (.int k)] = .ret (.ow (cs.map .int)) := by
  have hc := cut_map ns (some (k : Int)) (some ((k : Int) + 9))
  have e9 : ((k : Int) + 9) = ((k + 9 : Nat) : Int) := by omega
  rw [e9, HT.sIx_nat, HT.sIx_nat] at hc
  generalize hd : (ns.drop (min k ns.length)).take (min (k + 9) ns.length - min k ns.length) = d at hc
  have hl : d.length ≤ 9 := by
    rw [← hd, List.length_take, List.length_drop]
    omega
  refine ⟨d ++ List.replicate (9 - d.length) 0, by simp; omega, ?_⟩
  have h1 : -(2 ^ 60) ≤ (9 : Int) - (d.length : Nat) ∧ (9 : Int) - (d.length : Nat) < 2 ^ 60 := by omega
  have h2 : ((9 : Int) - (d.length : Nat)).toNat = 9 - d.length := by omega
  rw [← e9] at hc
  simp [m__law_cells, mb__law_cells, List.replicate, hc]
  rw [if_pos ⟨by omega, by omega, by omega⟩]
  simp [h2]
  rw [add_l (by simp; omega)]
  simp
theorem all_mk {l : PySem.W.OpenLaw} {w : World} {K : PySem.W.Frag} {h : Heap} {mg : Str → Option Value} {fa : Addr} (X : K.In h) (G : h.Ns mainGlobals mg) (hfa : mg "law" = some (.ref fa))
    {g0 : Addr} {od0 an0 : Option Addr} {sl0 : Array (Option Value)} {oc0 kV0 dc0 pm0 cd0 ct0 : Value}
    {g1 : Addr} {od1 an1 : Option Addr} {sl1 : Array (Option Value)} {oc1 kV1 dc1 pm1 cd1 ct1 : Value}
    {g2 : Addr} {od2 an2 : Option Addr} {sl2 : Array (Option Value)} {oc2 kV2 dc2 pm2 cd2 ct2 : Value}
    {g3 : Addr} {od3 an3 : Option Addr} {sl3 : Array (Option Value)} {oc3 kV3 dc3 pm3 cd3 ct3 : Value}
    {g4 : Addr} {od4 an4 : Option Addr} {sl4 : Array (Option Value)} {oc4 kV4 dc4 pm4 cd4 ct4 : Value}
    {g5 : Addr} {od5 an5 : Option Addr} {sl5 : Array (Option Value)} {oc5 kV5 dc5 pm5 cd5 ct5 : Value}
    {g6 : Addr} {od6 an6 : Option Addr} {sl6 : Array (Option Value)} {oc6 kV6 dc6 pm6 cd6 ct6 : Value}
    {g7 : Addr} {od7 an7 : Option Addr} {sl7 : Array (Option Value)} {oc7 kV7 dc7 pm7 cd7 ct7 : Value}
    {tk0 : Tok}
    (a0 : PySem.W.nsIn K mainGlobals "_law_part" = some (some (.ref g0)))
    (l0 : K.lookup g0 = some ⟨oc0, od0, .func (PySem.W.fnOf "_law_part" "_law_part" (defArgs s__law_part) (defBody s__law_part) (defScope s__law_part) .none kV0 dc0 pm0 an0 cd0 ct0), sl0⟩)
    (c0 : PySem.W.codeIn K cd0 "_law_part" = true) (k0 : PySem.W.keepIn K (.ref g0) = true)
    (a1 : PySem.W.nsIn K mainGlobals "is_ray" = some (some (.ref g1)))
    (l1 : K.lookup g1 = some ⟨oc1, od1, .func (PySem.W.fnOf "is_ray" "is_ray" (defArgs s_is_ray) (defBody s_is_ray) (defScope s_is_ray) .none kV1 dc1 pm1 an1 cd1 ct1), sl1⟩)
    (c1 : PySem.W.codeIn K cd1 "is_ray" = true) (k1 : PySem.W.keepIn K (.ref g1) = true)
    (a2 : PySem.W.nsIn K mainGlobals "_law_pair" = some (some (.ref g2)))
    (l2 : K.lookup g2 = some ⟨oc2, od2, .func (PySem.W.fnOf "_law_pair" "_law_pair" (defArgs s__law_pair) (defBody s__law_pair) (defScope s__law_pair) .none kV2 dc2 pm2 an2 cd2 ct2), sl2⟩)
    (c2 : PySem.W.codeIn K cd2 "_law_pair" = true) (k2 : PySem.W.keepIn K (.ref g2) = true)
    (a3 : PySem.W.nsIn K mainGlobals "cast" = some (some (.ref g3)))
    (l3 : K.lookup g3 = some ⟨oc3, od3, .func (PySem.W.fnOf "cast" "cast" (defArgs s_cast) (defBody s_cast) (defScope s_cast) .none kV3 dc3 pm3 an3 cd3 ct3), sl3⟩)
    (c3 : PySem.W.codeIn K cd3 "cast" = true) (k3 : PySem.W.keepIn K (.ref g3) = true)
    (a4 : PySem.W.nsIn K mainGlobals "stone_cast" = some (some (.ref g4)))
    (l4 : K.lookup g4 = some ⟨oc4, od4, .func (PySem.W.fnOf "stone_cast" "stone_cast" (defArgs s_stone_cast) (defBody s_stone_cast) (defScope s_stone_cast) .none kV4 dc4 pm4 an4 cd4 ct4), sl4⟩)
    (c4 : PySem.W.codeIn K cd4 "stone_cast" = true) (k4 : PySem.W.keepIn K (.ref g4) = true)
    (a5 : PySem.W.nsIn K mainGlobals "_law_right" = some (some (.ref g5)))
    (l5 : K.lookup g5 = some ⟨oc5, od5, .func (PySem.W.fnOf "_law_right" "_law_right" (defArgs s__law_right) (defBody s__law_right) (defScope s__law_right) .none kV5 dc5 pm5 an5 cd5 ct5), sl5⟩)
    (c5 : PySem.W.codeIn K cd5 "_law_right" = true) (k5 : PySem.W.keepIn K (.ref g5) = true)
    (a6 : PySem.W.nsIn K mainGlobals "_law_cells" = some (some (.ref g6)))
    (l6 : K.lookup g6 = some ⟨oc6, od6, .func (PySem.W.fnOf "_law_cells" "_law_cells" (defArgs s__law_cells) (defBody s__law_cells) (defScope s__law_cells) .none kV6 dc6 pm6 an6 cd6 ct6), sl6⟩)
    (c6 : PySem.W.codeIn K cd6 "_law_cells" = true) (k6 : PySem.W.keepIn K (.ref g6) = true)
    (a7 : PySem.W.nsIn K mainGlobals "law" = some (some (.ref g7)))
    (l7 : K.lookup g7 = some ⟨oc7, od7, .func (PySem.W.fnOf "law" "law" (defArgs s_law) (defBody s_law) (defScope s_law) .none kV7 dc7 pm7 an7 cd7 ct7), sl7⟩)
    (c7 : PySem.W.codeIn K cd7 "law" = true) (k7 : PySem.W.keepIn K (.ref g7) = true)
    (x0 : PySem.W.nsIn K mainGlobals "MOST_RAY" = some (some (.int (1000000) tk0)))
    (z0 : PySem.W.nsIn K mainGlobals "abs" = some none)
    (z1 : PySem.W.nsIn K mainGlobals "bool" = some none)
    (z2 : PySem.W.nsIn K mainGlobals "int" = some none)
    (z3 : PySem.W.nsIn K mainGlobals "isinstance" = some none)
    (z4 : PySem.W.nsIn K mainGlobals "len" = some none)
    (z5 : PySem.W.nsIn K mainGlobals "list" = some none)
    (z6 : PySem.W.nsIn K mainGlobals "min" = some none)
    (z7 : PySem.W.nsIn K mainGlobals "range" = some none)
    (z8 : PySem.W.nsIn K mainGlobals "tuple" = some none)
    : ∃ fd : FuncData, (∀ (s : Shared) (v : Value), BindsTo s fd ⟨[v], []⟩ [("_law_script", v)]) ∧ ∀ base : Heap, K.In base → base.Ns mainGlobals mg → ∃ cm, FnOk l.prog w K mg base CX0 4 fa fd ["_law_script"] (spP ⟨K, cm⟩ 1 m_law) := by
  have e := hfa.symm.trans (PySem.W.mg_of X G a7)
  cases e
  have F0 := fun_mk (st := s__law_part) l0 c0 k0
  have b0 := F0.binds (ps := ["_law_cell", "_law_least", "_law_most"]) fun _ _ _ _ _ _ us hl => match us, hl with | [_, _, _], _ => rfl
  have F1 := fun_mk (st := s_is_ray) l1 c1 k1
  have b1 := F1.binds (ps := ["ray"]) fun _ _ _ _ _ _ us hl => match us, hl with | [_], _ => rfl
  have F2 := fun_mk (st := s__law_pair) l2 c2 k2
  have b2 := F2.binds (ps := ["_law_found", "_law_x", "_law_y"]) fun _ _ _ _ _ _ us hl => match us, hl with | [_, _, _], _ => rfl
  have F3 := fun_mk (st := s_cast) l3 c3 k3
  have b3 := F3.binds (ps := ["point", "ray"]) fun _ _ _ _ _ _ us hl => match us, hl with | [_, _], _ => rfl
  have F4 := fun_mk (st := s_stone_cast) l4 c4 k4
  have b4 := F4.binds (ps := ["stone", "ray"]) fun _ _ _ _ _ _ us hl => match us, hl with | [_, _], _ => rfl
  have F5 := fun_mk (st := s__law_right) l5 c5 k5
  have b5 := F5.binds (ps := ["_law_cells_here"]) fun _ _ _ _ _ _ us hl => match us, hl with | [_], _ => rfl
  have F6 := fun_mk (st := s__law_cells) l6 c6 k6
  have b6 := F6.binds (ps := ["_law_script", "_law_place"]) fun _ _ _ _ _ _ us hl => match us, hl with | [_, _], _ => rfl
  have F7 := fun_mk (st := s_law) l7 c7 k7
  have b7 := F7.binds (ps := ["_law_script"]) fun _ _ _ _ _ _ us hl => match us, hl with | [_], _ => rfl
  have T : Tx K mg ⟨g0, PySem.W.fnOf "_law_part" "_law_part" (defArgs s__law_part) (defBody s__law_part) (defScope s__law_part) .none kV0 dc0 pm0 an0 cd0 ct0, g1, PySem.W.fnOf "is_ray" "is_ray" (defArgs s_is_ray) (defBody s_is_ray) (defScope s_is_ray) .none kV1 dc1 pm1 an1 cd1 ct1, g2, PySem.W.fnOf "_law_pair" "_law_pair" (defArgs s__law_pair) (defBody s__law_pair) (defScope s__law_pair) .none kV2 dc2 pm2 an2 cd2 ct2, g3, PySem.W.fnOf "cast" "cast" (defArgs s_cast) (defBody s_cast) (defScope s_cast) .none kV3 dc3 pm3 an3 cd3 ct3, g4, PySem.W.fnOf "stone_cast" "stone_cast" (defArgs s_stone_cast) (defBody s_stone_cast) (defScope s_stone_cast) .none kV4 dc4 pm4 an4 cd4 ct4, g5, PySem.W.fnOf "_law_right" "_law_right" (defArgs s__law_right) (defBody s__law_right) (defScope s__law_right) .none kV5 dc5 pm5 an5 cd5 ct5, g6, PySem.W.fnOf "_law_cells" "_law_cells" (defArgs s__law_cells) (defBody s__law_cells) (defScope s__law_cells) .none kV6 dc6 pm6 an6 cd6 ct6, fa, PySem.W.fnOf "law" "law" (defArgs s_law) (defBody s_law) (defScope s_law) .none kV7 dc7 pm7 an7 cd7 ct7, tk0⟩ := ⟨F0, PySem.W.mg_of X G a0, b0, F1, PySem.W.mg_of X G a1, b1, F2, PySem.W.mg_of X G a2, b2, F3, PySem.W.mg_of X G a3, b3, F4, PySem.W.mg_of X G a4, b4, F5, PySem.W.mg_of X G a5, b5, F6, PySem.W.mg_of X G a6, b6, F7, PySem.W.mg_of X G a7, b7, PySem.W.mg_of X G x0, PySem.W.mg_none_of X G z0, PySem.W.mg_none_of X G z1, PySem.W.mg_none_of X G z2, PySem.W.mg_none_of X G z3, PySem.W.mg_none_of X G z4, PySem.W.mg_none_of X G z5, PySem.W.mg_none_of X G z6, PySem.W.mg_none_of X G z7, PySem.W.mg_none_of X G z8⟩
  exact ⟨PySem.W.fnOf "law" "law" (defArgs s_law) (defBody s_law) (defScope s_law) .none kV7 dc7 pm7 an7 cd7 ct7, fun s v => .of_eq rfl, fun base _ _ => ⟨_, ok_law T⟩⟩
theorem nine {cs : List Int} (h : cs.length = 9) : ∃ c0 c1 c2 c3 c4 c5 c6 c7 c8, cs = [c0, c1, c2, c3, c4, c5, c6, c7, c8] := by
  match cs, h with
  | [c0, c1, c2, c3, c4, c5, c6, c7, c8], _ => exact ⟨c0, c1, c2, c3, c4, c5, c6, c7, c8, rfl⟩
theorem law_true (ns : List Int) (hn : ns.length ≤ 63) : m_law [.sh (.lst (ns.map .int))] = .ret (.sh (.bl true)) := by
  obtain ⟨ρ', e, ⟨sl, hi⟩⟩ := forL_inv (g := gN 1) (mb := t1_law) (items := rangeL 0 (Builtin.Range.rangeSize 0 (if 60 < (ns.length : Int) then 60 else (ns.length : Int)) 3).toNat 3) (ρ := [.sh (.lst (ns.map .int)), .no]) (fun i ρ => ∃ sl, ρ = [.sh (.lst (ns.map .int)), sl]) ⟨_, rfl⟩ (by
    rintro i p ρ hp ⟨sl, rfl⟩
    obtain ⟨_, rfl⟩ := rangeL_get hp
    obtain ⟨cs, h9, hc⟩ := cells_ev ns (i * 3)
    obtain ⟨c0, c1, c2, c3, c4, c5, c6, c7, c8, rfl⟩ := nine h9
    have ei : (0 : Int) + (i : Int) * 3 = ((i * 3 : Nat) : Int) := by omega
    rw [ei]
    generalize i * 3 = k at hc
    refine ⟨_, [.sh (.lst (ns.map .int)), .sh (.int (k : Int))], rfl, ?_, _, rfl⟩
    have hr := right_ev c0 c1 c2 c3 c4 c5 c6 c7 c8
    simp only [List.map_cons, List.map_nil] at hc
    simp [t1_law, hc, hr])
  subst hi
  have hs : smallI (if 60 < (ns.length : Int) then 60 else (ns.length : Int)) = true := by
    unfold smallI
    split <;> simp <;> omega
  have hs0 : smallI 0 = true := by decide
  have hr := right_ev 0 0 0 0 0 0 0 0 0
  simp [m_law, mb_law, List.replicate, rngF3, hs, hs0, e, hr]

theorem walk {l : PySem.W.OpenLaw} {q : Program} {loose : List Str} {XP : (Str → Option Value) → Heap → Prop} {YP : World → Heap → Prop} {d : DefRec} {K : Params → PySem.W.Frag} (hn : l.most = some 63) (hdf : d.params.defaults = [])
    (hY : ∀ (w : World) (h : Heap), YP w h → (K w.params).In h)
    (F : ∀ (w : World) (mg : Str → Option Value) (fa : Addr) (h : Heap), (K w.params).In h → h.Ns mainGlobals mg → mg d.name = some (.ref fa) →
      ∃ fd : FuncData, (∀ (s : Shared) (u : Value), BindsTo s fd ⟨[u], []⟩ [("_law_script", u)]) ∧ ∀ base : Heap, (K w.params).In base → base.Ns mainGlobals mg → ∃ cm, FnOk l.prog w (K w.params) mg base CX0 4 fa fd ["_law_script"] (spP ⟨K w.params, cm⟩ 1 m_law)) :
    PySem.W.WalkO q loose XP YP l.row.toRowW d [] (fun f vs => PySem.call f vs) :=
  P.law_walk (k := 4) (x := "_law_script") (CX := CX0) (m := m_law) hn hdf ⟨rfl, by decide, by decide⟩ hY F law_true fun _ _ _ _ z => z
end T
open PySem PySem.W PyProof.Rows
set_option maxRecDepth 100000 in
set_option maxHeartbeats 0 in
theorem PySem.Challenge.cw_shadowpost_k11_rays_and_casts_holds : PySem.Challenge.rw_shadowpost_k11_rays_and_casts.Holds := by
  w_on; o_law; k_head; (case hw => w_witness2)
  k_fill
  refine T.walk (l := PySem.Challenge.rw_shadowpost_k11_rays_and_casts) rfl rfl (fun w h Y => PySem.W.kIn_of Y) ?F
  case F =>
    intro w mg fa h KX G hmg
    refine' T.all_mk KX G hmg ?a0 ?l0 ?c0 ?k0 ?a1 ?l1 ?c1 ?k1 ?a2 ?l2 ?c2 ?k2 ?a3 ?l3 ?c3 ?k3 ?a4 ?l4 ?c4 ?k4 ?a5 ?l5 ?c5 ?k5 ?a6 ?l6 ?c6 ?k6 ?a7 ?l7 ?c7 ?k7 ?x0 ?z0 ?z1 ?z2 ?z3 ?z4 ?z5 ?z6 ?z7 ?z8
    (case a0 => k_is)
    (case l0 => k_is)
    (case c0 => k_is)
    (case k0 => k_is)
    (case a1 => k_is)
    (case l1 => k_is)
    (case c1 => k_is)
    (case k1 => k_is)
    (case a2 => k_is)
    (case l2 => k_is)
    (case c2 => k_is)
    (case k2 => k_is)
    (case a3 => k_is)
    (case l3 => k_is)
    (case c3 => k_is)
    (case k3 => k_is)
    (case a4 => k_is)
    (case l4 => k_is)
    (case c4 => k_is)
    (case k4 => k_is)
    (case a5 => k_is)
    (case l5 => k_is)
    (case c5 => k_is)
    (case k5 => k_is)
    (case a6 => k_is)
    (case l6 => k_is)
    (case c6 => k_is)
    (case k6 => k_is)
    (case a7 => k_is)
    (case l7 => k_is)
    (case c7 => k_is)
    (case k7 => k_is)
    (case x0 => k_is)
    (case z0 => k_is)
    (case z1 => k_is)
    (case z2 => k_is)
    (case z3 => k_is)
    (case z4 => k_is)
    (case z5 => k_is)
    (case z6 => k_is)
    (case z7 => k_is)
    (case z8 => k_is)

